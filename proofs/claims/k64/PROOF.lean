import PyProof.Rows.All
import Wide.All
import OpenK.AllK
import Wide.FinOn
import Lean
import PyProof.EqAt
import PyProof.EqKinds
import PyProof.TupleCall
import PySem.Challenge.RW_turnarrows_k64_likes_refused
set_option hygiene false in
local macro_rules
|`('A')=>`((R.getD hd zr))
|`('B')=>`((mtD qv.length qv.length (dsq qv)))
|`('C')=>`((aD qv.length))
|`('D')=>`((bT X.prog X.w))
|`('E')=>`((R.getD i zr))
|`('F')=>`((bT prog w))
|`('G')=>`((Option Nat))
|`('H')=>`((ret (.int 0)))
set_option Elab.async false
set_option linter.all false
set_option maxRecDepth 100000
open Option renaming some->ZY,none->ZX
open Bool renaming true->ZW,false->ZV
open Array renaming length_toList->bU,getElem?_eq_some_iff->dY,getElem?_toList->qT,getElem_toList->rC,getElem?_eq_none->wB,toList_append->xN,find?_toList->yF,toList_push->zB,getD->zE,toList_inj->zT
open Bool renaming and_eq_true->bC,false_ne_true->cM,false_eq_true->iR,or_eq_false_iff->rB,false_and->rK,true_and->sO,and_false->vH,and_eq_false_iff->wL,and_eq_true_iff->wQ,not_eq_true'->yZ,eq_false_iff->zA,or_false->Ay,false_or->Az,and_true->Ba
open Classical renaming byContradiction->cH
open False renaming elim->fW
open ForInStep renaming yield->Ad
open Function renaming comp_def->pB
open Int renaming toNat_natCast->cN,mul_comm->cX,mul_zero->dJ,eq_of_mul_eq_mul_left->eV,zero_mul->fK,mul_left_comm->iD,mul_neg->iU,add_zero->jQ,mul_add->jT,mul_assoc->kW,natAbs_mul->lC,fdiv_eq_ediv_of_nonneg->lQ,one_mul->lY,emod_lt_of_pos->oR,neg_mul->pK,mul_sub->pL,le_refl->pM,zero_add->qM,pow_succ->qN,mul_eq_zero->qO,le_trans->qP,emod_nonneg->qQ,lt_or_le->tO,mul_le_mul_of_nonneg_left->tZ,natCast_add->uL,fmod_eq_emod_of_nonneg->uR,mul_nonneg->vD,eq_ofNat_of_zero_le->vW,sub_zero->wJ,pow_ne_zero->Ab,ediv_nonneg->Ac,natAbs_neg->An
open List renaming range->aD,getElem?_eq_getElem->aG,getElem?_eq_some_iff->aJ,replicate->aK,size_toArray->aP,mem_cons_of_mem->aR,length_map->aU,getElem?_map->aV,mem_cons_self->aX,getD_eq_getElem?_getD->aY,mem_cons->bA,map_cons->bH,mem_append_right->bO,nil_append->bQ,getElem?_range->bZ,getElem?_set->cB,set->cI,mem_map->cJ,all_eq_true->cL,length_cons->cW,append_assoc->cZ,length_append->dB,mem_append->dC,lookup->dF,cons_append->dH,getElem?_append_left->dO,map_map->dR,map_append->dU,mem_singleton->dW,mem_filter->eN,length_take->eQ,replicate_succ->fG,length_set->fH,contains_iff_mem->fJ,length_range->fU,mem_range->fY,map_congr_left->gA,length_zipWith->gB,length_filter_le->gF,mem_iff_getElem->gJ,mem_append_left->gK,getElem_mem->gQ,mem_or_eq_of_mem_set->iH,length_replicate->iI,append_nil->iJ,length_drop->iT,mem_of_getElem?->iV,range_succ->jE,filterMap_cons->jF,not_mem_nil->jH,pairwise_cons->jN,getElem?_zipWith->jO,getElem?_eq_none->jP,getElem?_take_of_lt->jY,flatten_cons->jZ,all_cons->kO,nodup_cons->lH,sum_cons->lN,getElem?_append_right->lO,drop_eq_getElem_cons->lU,getElem?_replicate->mK,findIdx?_eq_some_iff_getElem->mL,getElem?_set_self->mQ,getElem?_set_ne->nG,getElem?_mapIdx->nJ,foldl->nT,range'->oE,length_pos_iff->oF,length_eq_zero_iff->pJ,ext_getElem->pQ,range_succ_eq_map->pZ,drop_eq_nil_of_le->qC,of_mem_zip->qH,length_nil->qI,forIn_cons->qJ,all_map->qK,Pairwise.sublist->qL,forIn_nil->rH,drop_zero->rJ,map_replicate->rT,findIdx?->rW,filter_filter->rY,append_of_mem->rZ,any_cons->sE,Pairwise.nil->tG,countP_cons->tY,map_id->uH,map_const'->uI,filter_map->uJ,length_eraseIdx_of_lt->uQ,getElem?_eq_none_iff->vA,findIdx?_eq_none_iff->vC,map_take->vR,map_drop->vU,take_of_length_le->vZ,pairwise_lt_range->wA,map_nil->wH,getD->wI,count_le_length->wN,filter_sublist->xF,filter_eq_self->xG,set_cons_zero->xW,set_cons_succ->xX,mem_filterMap->xY,length_mapIdx->xZ,findIdx?_cons->yC,contains_cons->yD,take_sublist->yN,nodup_append->yO,getElem_drop->yP,ext_getElem?->yQ,zipIdx_cons->zL,take_length->zM,range'_succ->zN,lookup_cons->zO,getElem_map->zP,filter_cons->zQ,zipIdx_nil->zY,foldl_cons->zZ,count_cons->Aa,dropWhile->Am,zip->Av
open Nat renaming le_refl->aL,ne_of_lt->bI,lt_of_lt_of_le->bN,le_trans->bV,le_mul_of_pos_right->cP,zero_add->cT,mul_le_mul_left->eE,pow_le_pow_right->eX,lt_or_ge->eY,ne_of_gt->gP,zero_le->iB,le_succ->iC,lt_irrefl->iG,lt_of_le_of_lt->jK,le_of_lt->jL,not_lt_zero->lG,lt_succ_self->lX,not_lt->mC,mul_comm->oN,lt_trans->oO,mul_le_mul->oV,mul_assoc->pI,min_eq_left->qG,mul_le_mul_right->rA,log2_lt->rP,lt_trichotomy->tD,lt_succ_of_lt->tE,pow_succ->tL,succ_le_succ->tX,mul_one->uF,mul_add->uG,lt_of_mul_lt_mul_right->uP,one_le_pow->uZ,sub_zero->wF,le_of_eq->wG,mul_pos->wZ,eq_zero_or_pos->xU,add_sub_cancel->xV,mod_lt->yM,succ_ne_self->zK,strongRecOn->zX
open Ne renaming symm->gY
open Option renaming some.inj->bJ,map_eq_some_iff->lD,isSome_iff_exists->pA,getD_none->tW,isSome_some->xT,getD_some->zH,bind_some->zJ
open Or renaming inl->bK,inr->oA
open PyProof renaming Rows.slot_tuple_getitem->fQ,Rows.callWith_type1->jD,Rows.IntsAre->nA,Rows.envOfC->nU,Rows.F.plain_set_update_loop->pN,Rows.AllBare->qU,Rows.seqObj->rE,Rows.LSm.kept_iter->sH,Rows.F.entry_set_update_loop->vX,Rows.IsTup->yR
open PySem renaming wpAny_bind->aA,Heap.get?_push_of_some->aB,wpAny_pure->aF,Value->aH,Heap.get?_push_size->aM,Shared->aN,Heap.lt_size->aO,starEach->aQ,mainGlobals->aW,wpAny_mono->aZ,Addr->bB,wpAny->bD,Heap.get?_update_other->bM,model->bT,Obj.data_mapFields->bW,bootBuiltins->bY,wpAny_newObj_type->cA,Heap.get?_update_self->cC,PassesOwn.never->cD,Program->cF,Heap.size_push->cG,Heap.SameBut.update->cO,Value.none->cQ,sizeLine->cU,Value.ref->cY,wpAny_holding->dD,Around->dG,wpAny_field->dN,World->dX,wpAny_callSpecial?_slot->dZ,NameKind.free->eF,W.kia_one->eH,FuncData->eU,binaryOp->fB,Obj.isFreed_of_fields->fD,Heap.SameBut->fL,wpAny_setField->fM,wpAny_call_entry->fO,Expr->fP,Str.ofString->fV,SetTable.below->fX,mem_of_lookup->fZ,foldedSetIterable->gC,compareOp->gD,wpAny_seqItems->gG,W.mg_none_of->gH,Around.under_plainId->gM,F.excBase_ValueError->gR,F.plain_min_loop->gU,wpAny_truthy_bool->gW,Heap->iK,Obj.mapSeq->iM,Builtin.Tuple.tupleExact->iQ,W.tabIn->iW,W.subIn->iY,rawInt->iZ,W.kitOne->jA,W.InstAt->jB,codeAny_builtin->jC,Stmt->jG,behindInMarks->jJ,NameKind.cell->jM,sizeLine_eq->jR,Heap.get?_none_of_le->jU,W.emptyDict->jV,F.type_list_append->jW,F.slot_list_append->jX,F.slot_int_rmul->kE,backTo->kI,SetTable->kJ,Builtin->kY,call_meets->kZ,assignEach->lA,Value.type->lB,codeAny_mono->lE,W.instObj->lF,wpAny_standAt->lJ,W.Looks->lK,Obj.mapFields->lL,Obj.cls_mapFields->lM,F.slot_tuple_iterator_next->lR,Builtin.Slice.slicePlaces->lV,W.any_some->lW,wpAny_call->lZ,F.called_set->mD,swapsWith->mF,pickOrder->mG,W.mroIn->mH,W.clsIn->mJ,W.findIn->mO,wpAny_rule->mR,holding->mU,closureFor->mV,W.specialIn->mW,W.hasDictIn->mX,W.notCls->mY,codeAny->mZ,F.slot_tuple_mul->nD,pyNext->nF,Value.builtin->nM,Scope->nO,Builtin.divisionGoesByPylong->nQ,typeIs_int->nR,W.takerIn->nW,W.kla_obj->nY,W.findObj->nZ,Builtin.Int.intBits->oG,W.keepIn->oH,bindArgs->oK,W.callWith_K->oM,SetTable.grown->oU,Builtin.Slice.sliceAdjust->oW,scanBound->oX,codeAmong->oY,F.args_tuple_add_2->oZ,F.args_int_rmul_2->pC,AutoSeq1.wpAny_loadPart'->pD,W.excIn->pF,F.plainAttrs_list->pG,F.entry_tuple_add->pH,BindsTo->pP,F.slot_int_index->pR,F.entry_int_rmul->pU,W.cellsFrom_some->pW,F.slot_tuple_add->pX,F.entry_min_loop->pY,Value.int->qD,W.takesIn->qF,F.fills_int_mul->qR,Walks.list->qW,Value.bool->qX,W.looks_findIn->qZ,Around.frames_deeper->rD,assign->rF,W.typeIn->rG,intKind->rM,hashInt->rN,argBest->rO,Keyword->rQ,W.isNs_of_in->rR,F.args_tuple_mul_2->sI,Calls.spliced_cons->sJ,setNext->sS,getItem->sU,callerA->sV,W.methodObj->sX,W.kitx_list->sY,PyData.eqv->sZ,F.entry_tuple_mul->tH,W.envX->tK,IsPart->tM,Code.isFrame->tQ,Builtin.ObjectAttr.storeInDict->tR,Around.under->tU,W.codeHdIn->tV,F.args_tuple_iterator_next_1->uA,argsOk->uB,W.OpenLaw->uD,PassesOwn->uE,IsZip->uK,F.entry_tuple_iterator_next->uM,Builtin.List.listExtendWith->uN,Builtin.Builtins.bindParams->uO,Calls.Name_function_global->uT,Builtin.Tuple.tupleTooMany->uU,Builtin.Tuple.tupleItemsOf->uV,Builtin.Slice.sliceApplied->uW,W.tabObj->uX,W.lookIn->uY,Heap.MadeExcOf->vG,Result->vI,F.slot_tuple_count->vJ,Builtin.List.listTooLong->vK,Builtin.List.listSameRef->vL,F.slot_list_index->vM,F.slot_list_count->vN,F.attr_ValueError->vO,PyData.eqvAll->vP,NameKind->vQ,CmpOf.ints_lt->vY,Value.str->wC,W.Looks.of_pure->wD,Builtin.Int.intTooBig->wK,Value.notImplemented->wM,Calls.evalArgs_plain->wO,Value.isInt->wR,Value.float->wU,Shared.heap->wV,W.looks_subIn->wW,W.looks_mroIn->wX,W.looks_clsIn->wY,Heap.get?_update_ne->xH,Heap.ExtBut->xJ,EntryCells.newEntry->xK,Code.frames->xM,W.tail_of_in->xO,W.looks_find->xP,W.codeRec_of->xQ,W.check_slot->xR,Code.quiet_builtin->yE,SetTable.probe.go->yG,SetTable.below.go->yH,call->yI,W.kitx_dict->yJ,PyData.canLayAll0->yK,Obj.putSet->yL,Heap.get?_push_at->yS,Heap.SameBut.refl->yU,Heap.Ns1.of_empty->yV,F.slot_tuple_rmul->yW,F.plain_list_iadd->yX,seqSlot_of->zF,W.plainGet->zG,W.kitMeta->zU,PyData.depthAll->zV,Paired->zW,F.slot_zip_next->Ae,F.slot_set_iter->Af,F.plain_set_new->Ag,Code.isCreation->Ah,SetTable.Probe->Ai,W.kla_fn->Aj,W.kitCls->Ak,W.CodeHd->Al,Value.ref.inj->Ao,SetTable.laid->Aq,W.WalkO->Ar,Data.seq->Aw,Code.isCaller->Ax
open Sum renaming inl->sW,inr->uC
open True renaming intro->qY
noncomputable section
open PySem.W (nsIn mg_of keepIn fnOf codeIn findIn mg_none_of)
abbrev Fg9:=PySem.W.Frag
abbrev LL9:=List (List Int)
section
open PySem PySem.Spec PyProof.Rows
namespace L2
abbrev Key:=Sum Int Str
def a6k:Key->aH->Bool
 |.inl k,v=>wR k v
 |.inr x,v=>Value.isStrOf x v
def keyH(w:dX):Key->Int
 |.inl k=>rN k
 |.inr x=>hashStr w x
theorem qb:∀{k:Key} {v:aH},a6k k v=ZW->(∃i t,k=sW i/\v=qD i t)∨(∃x t,k=uC x/\v=wC x t)
 |.inl i,v,h=>by
  obtain⟨t,e⟩:=Value.isInt_shape (k:=i) (v:=v) h;exact .inl ⟨i,t,rfl,e⟩
 |.inr x,v,h=>by
  obtain⟨t,e⟩:=Value.isStrOf_shape (x:=x) (v:=v) h;exact .inr ⟨x,t,rfl,e⟩
def a6j(a b:Int):decide ((sW a:Key)=sW b)=(a==b):=by
 by_cases e:a=b
 ·subst e;simp
 ·have h:¬(sW a:Key)=sW b:=λq=>e (Sum.inl.inj q)
  rw[decide_eq_false h];exact(beq_eq_false_iff_ne.mpr e).symm
def a6g(a b:Str):decide ((uC a:Key)=uC b)=decide (a=b):=by
 by_cases e:a=b
 ·subst e;simp
 ·have h:¬(uC a:Key)=uC b:=λq=>e (Sum.inr.inj q)
  rw[decide_eq_false h,decide_eq_false e]
def a6i(a:Int)(b:Str):decide ((sW a:Key)=uC b)=ZV:=decide_eq_false (λq=>nomatch q)
def a6h(a:Str)(b:Int):decide ((uC a:Key)=sW b)=ZV:=decide_eq_false (λq=>nomatch q)
def atb(prog:cF)(w:dX):PySem.KeyKind prog w Key where
 is:=a6k
 hash:=keyH w
 inj:=λv a b ha hb=>by
  rcases qb ha with⟨i,t,rfl,rfl⟩ |⟨x,t,rfl,rfl⟩
  ·rcases qb hb with⟨j,u,rfl,e⟩ |⟨y,u,rfl,e⟩
   ·injection e with e1 _;rw[e1]
   ·exact nomatch e
  ·rcases qb hb with⟨j,u,rfl,e⟩ |⟨y,u,rfl,e⟩
   ·exact nomatch e
   ·injection e with e1 _;rw[e1]
 byValue:=λk v h=>by
  rcases qb h with⟨i,t,rfl,rfl⟩ |⟨x,t,rfl,rfl⟩ <;> rfl
 pyHash:=λhv h=>by
  rcases qb hv with⟨i,t,rfl,rfl⟩ |⟨x,t,rfl,rfl⟩
  ·exact wpAny_pyHash_int h
  ·exact wpAny_pyHash_str h
 eqBool:=λhu hv h=>by
  rcases qb hu with⟨i,t,rfl,rfl⟩ |⟨x,t,rfl,rfl⟩
  ·rcases qb hv with⟨j,u,rfl,rfl⟩ |⟨y,u,rfl,rfl⟩
   ·rw[a6j] at h;exact wpAny_eqBool_int h
   ·rw[a6i] at h;exact SeqAt.EqAt.int_str i t y u _ _ _ _ h
  ·rcases qb hv with⟨j,u,rfl,rfl⟩ |⟨y,u,rfl,rfl⟩
   ·rw[a6h] at h;exact SeqAt.EqAt.str_int x t j u _ _ _ _ h
   ·rw[a6g] at h;exact wpAny_eqBool_str h
 «strs» := λk x t v h=>by
  rcases qb h with⟨i,u,rfl,e⟩ |⟨y,u,rfl,e⟩
  ·exact nomatch e
  ·injection e with e1 _
   subst e1;cases v <;> rfl
def IsTp(h:iK)(a:bB)(items:Array aH):Prop:=∃o,h.get? a=ZY o/\o.cls=.type "tuple" /\ o.dict=ZX/\∃n,o.data=.seq items n
def IsTp.tup(x:IsTp h a items):yR h a items:=let ⟨o,e,c,_,n,d⟩:=x;⟨o,e,c,n,d⟩
def IsTp.new(h:iK)(items:Array aH):IsTp (h.push { cls:=.type "tuple", data:=.seq items }) h.objs.size items:=⟨_,aM _ rfl,rfl,rfl,_,rfl⟩
inductive V where
 |non |bl (b:Bool) |int (i:Int) |str (x:Str) |byt (b:Array UInt8) |flt (b:UInt64) |ref (a:bB) |ty (n:String)
 deriving DecidableEq
def RelV:V->aH->Prop
 |.non,u=>u=cQ
 |.bl b,u=>u=qX b
 |.int i,u=>∃t,u=qD i t
 |.str x,u=>∃t,u=wC x t
 |.byt b,u=>∃t,u=Value.bytes b t
 |.flt b,u=>∃t,u=wU b t
 |.ref a,u=>u=cY a
 |.ty n,u=>u=lB n
abbrev Vals:List V->List aH->Prop:=zW RelV
def Vals.length(r:Vals xs us):xs.length=us.length:=Paired.length r
theorem Vals.get:∀{xs:List V} {us:List aH} {i:Nat} {x:V},Vals xs us->xs[i]? = ZY x->∃u,us[i]? = ZY u/\RelV x u
 |_,_,_,_,.nil,e=>by simp at e
 |_,_,0,_,.cons r _,e=>by simp at e;subst e;exact⟨_,rfl,r⟩
 |_,_,i+1,x,.cons _ t,e=>by
  obtain⟨u,h1,h2⟩:=Vals.get (i:=i) (x:=x) t (by simpa using e)
  exact⟨u,by simpa using h1,h2⟩
theorem Vals.set(r:RelV x u):∀{xs:List V} {us:List aH} (i:Nat),Vals xs us->Vals (xs.set i x) (us.set i u)
 |_,_,_,.nil=>.nil
 |_,_,0,.cons _ t=>.cons r t
 |_,_,i+1,.cons q t=>.cons q (Vals.set r i t)
theorem Vals.append:∀{xs ys:List V} {us ws:List aH},Vals xs us->Vals ys ws->Vals (xs++ys) (us++ws)
 |_,_,_,_,.nil,s=>s
 |_,_,_,_,.cons r t,s=>.cons r (Vals.append t s)
theorem Vals.take:∀{xs:List V} {us:List aH} (n:Nat),Vals xs us->Vals (xs.take n) (us.take n)
 |_,_,0,_=>.nil
 |_,_,_+1,.nil=>.nil
 |_,_,n+1,.cons r t=>.cons r (Vals.take n t)
theorem Vals.drop:∀{xs:List V} {us:List aH} (n:Nat),Vals xs us->Vals (xs.drop n) (us.drop n)
 |_,_,0,r=>r
 |_,_,_+1,.nil=>.nil
 |_,_,n+1,.cons _ t=>Vals.drop n t
def RelO:Option V->Option aH->Prop
 |some v,ZY u=>RelV v u
 |none,ZX=>True
 |_,_=>False
def KV{κ:Type}:List (κ×V)->List (κ×Value)->Prop:=zW λ(p:κ×V) (q:κ×Value)=>p.1=q.1/\RelV p.2 q.2
def kV:Key->V
 |.inl i=>.int i
 |.inr x=>.str x
inductive HO where
 |lst (xs:List V)
 |tup (xs:List V)
 |dK (kvs:List (Key×V)) |dT (kvs:List (List Key×V))
 |set (S:Int->Bool) (n:Nat)
 |ins (C dx:bB) (fs:List (Str×V))
 |own (x:bB)
 |xd (fs:List (Str×V))
 |met (f x:bB)
 |rng (lo hi:Int)
 |frz (o:Obj) (u:HO)
 |tbl (ps:Array aH)
 |ext (φ:iK->Prop)
abbrev Hp:=bB->Option HO
def upd(H:Hp)(a:bB)(o:HO):Hp:=λb=>if b=a then ZY o else H b
def gw:upd H a o a=ZY o:=by unfold upd;rw[if_pos rfl]
def cg(h:b≠a):upd H a o b=H b:=by unfold upd;rw[if_neg h]
def azp:upd (upd H a o) a u=upd H a u:=by
 funext b;unfold upd;split <;> rfl
def gr{H:Hp}{a b:bB}{o:HO}(h:H a=ZY o)(h':H b=ZX):a≠b:=by
 intro e;subst e;rw[h] at h';cases h'
abbrev LamN:Str := "folded"
abbrev LamQ:Str := "folded.<locals>.<lambda>"
def a2z(oc:Obj):Prop:=∃vs t,oc.data=.fields vs/\vs[1]? = ZY (.str LamQ t)
def TabO(H:Hp)(h:iK)(a:bB):Prop:=∃qs:Array aH,h.get? a=ZY { cls:=.none,data:=.fields qs }/\TriplesOk qs.toList/\∀pos cv,oY pos qs.toList=ZY cv->∃c oc,cv=.ref c/\H c=ZY (.frz oc (.own a))/\a2z oc
section
variable(P:cF)(w:dX)
def yg(H:Hp)(h:iK)(a:bB):HO->Prop
 |.lst xs=>xs.length<=cU/\∃(its:List aH) (n:Nat),Vals xs its/\h.get? a=ZY { cls:=.type "list", data:=.seq its.toArray n }
 |.tup xs=>xs.length<=cU/\∃its:List aH,Vals xs its/\IsTp h a its.toArray
 |.dK kvs=>kvs.length<=cU/\(a==sysModules)=ZV/\∃vs,KV kvs vs/\h.DictOf (atb P w) a vs
 |.dT kvs=>kvs.length<=cU/\(a==sysModules)=ZV/\∃xs:List (List Key×Addr×Value),
   zW (λ(p:List Key×V) (q:List Key×Addr×Value)=>p.1=q.1/\H q.2.1=ZY (.tup (p.1.map kV))/\RelV p.2 q.2.2) kvs xs /\
   ∃o es ep,h.get? a=ZY o/\o.ExactDict/\o.data=.dict es ep/\es.toList=xs.map (entryOfKey (tupleKind (atb P w)))/\(xs.map (·.1)).Nodup
 |.set S n=>h.SetOf (rM P w) a S n
 |.ins C dx fs=>H dx=ZY (.own a)/\fs.length<=1000/\dx≠a/\h.get? a=ZY (lF C dx) /\
   ∃mA,h.Ns1 dx mA/\(∀f,RelO (fs.lookup f) (mA f))/\PySem.Within mA (fs.map (·.1))
 |.own _=>∃o,h.get? a=ZY o
 |.xd fs=>∃mA,h.Ns1 a mA/\∀f,RelO (fs.lookup f) (mA f)
 |.rng lo hi=>∃t u v,h.get? a=ZY { cls:=.type "range", data:=.fields #[.int lo t,.int hi u,.int 1 v] }
 |.frz o u=>h.get? a=ZY o/\yg H h a u
 |.tbl _=>TabO H h a
 |.met f x=>h.get? a=ZY (sX (.ref f) (.ref x))
 |.ext φ=>φ h/\(∃o,h.get? a=ZY o)/\∀h1 h2:iK,φ h1->(∀o,h1.get? a=ZY o->h2.get? a=ZY o)->φ h2
def HOk(H:Hp)(h:iK):Prop:=∀a o,H a=ZY o->yg P w H h a o
end
section
variable{P:cF}{w:dX}{H H':Hp}{h h':iK}{a:bB}{o:HO}
theorem yg.lt(x:yg P w H h a o):a<h.objs.size:=by
 cases o with
 |lst xs=>obtain⟨_,_,_,_,e⟩:=x;exact aO e
 |tup xs=>obtain⟨_,_,_,p⟩:=x;exact p.tup.lt
 |dK kvs=>obtain⟨_,_,_,_,o,_,_,e,_⟩:=x;exact aO e
 |dT kvs=>obtain⟨_,_,_,_,o,_,_,e,_⟩:=x;exact aO e
 |set S n=>obtain⟨o,_,_,_,e,_⟩:=x;exact aO e
 |ins C dx fs=>obtain⟨_,_,_,e,_⟩:=x;exact aO e
 |own y=>obtain⟨_,e⟩:=x;exact aO e
 |xd fs=>obtain⟨_,⟨_,_,_,e,_⟩,_⟩:=x;exact aO e
 |rng lo hi=>obtain⟨_,_,_,e⟩:=x;exact aO e
 |frz ob u=>obtain⟨e,_⟩:=x;exact aO e
 |tbl ps=>obtain⟨_,e,_⟩:=x;exact aO e
 |met f y=>exact aO (show h.get? a=ZY _ from x)
 |ext φ=>obtain⟨_,⟨_,e⟩,_⟩:=x;exact aO e
theorem Paired.mapP:∀{l₁:List α} {l₂:List β},zW F l₁ l₂->(∀a b,F a b->G a b)->zW G l₁ l₂
 |_,_,.nil,_=>.nil
 |_,_,.cons r t,f=>.cons (f _ _ r) (Paired.mapP t f)
theorem yg.stay(x:yg P w H h a o)(k:∀b u,(b=a∨H b=ZY (.own a))->h.get? b=ZY u->h'.get? b=ZY u)
  (ho:∀b,H b=ZY (.own a)->H' b=ZY (.own a)) (ht:∀b xs,H b=ZY (.tup xs)->H' b=ZY (.tup xs)) (hz:∀b o u,H b=ZY (.frz o u)->H' b=ZY (.frz o u):=by exact λ_ _ _ q=>q):yg P w H' h' a o:=by
 induction o with
 |lst xs=>obtain⟨z,its,n,r,e⟩:=x;exact⟨z,its,n,r,k _ _ (.inl rfl) e⟩
 |tup xs=>obtain⟨z,its,r,ob,e,c⟩:=x;exact⟨z,its,r,ob,k _ _ (.inl rfl) e,c⟩
 |dK kvs=>obtain⟨z,y,vs,r,ob,es,ep,e,c⟩:=x;exact⟨z,y,vs,r,ob,es,ep,k _ _ (.inl rfl) e,c⟩
 |dT kvs=>
  obtain⟨z,y,xs,r,ob,es,ep,e,c⟩:=x;exact⟨z,y,xs,Paired.mapP r λp q z=>⟨z.1,ht _ _ z.2.1,z.2.2⟩,ob,es,ep,k _ _ (.inl rfl) e,c⟩
 |set S n=>obtain⟨ob,es,ep,t,e,c⟩:=x;exact⟨ob,es,ep,t,k _ _ (.inl rfl) e,c⟩
 |ins C dx fs=>
  obtain⟨d,z,ne,e,mA,⟨od,es,ep,e2,c⟩,r⟩:=x;exact⟨ho _ d,z,ne,k _ _ (.inl rfl) e,mA,⟨od,es,ep,k _ _ (.inr d) e2,c⟩,r⟩
 |own y=>obtain⟨ob,e⟩:=x;exact⟨ob,k _ _ (.inl rfl) e⟩
 |xd fs=>obtain⟨mA,⟨od,es,ep,e,c⟩,r⟩:=x;exact⟨mA,⟨od,es,ep,k _ _ (.inl rfl) e,c⟩,r⟩
 |rng lo hi=>obtain⟨t,u,v,e⟩:=x;exact⟨t,u,v,k _ _ (.inl rfl) e⟩
 |frz ob u ih=>obtain⟨e,q⟩:=x;exact⟨k _ _ (.inl rfl) e,ih q⟩
 |tbl ps=>
  obtain⟨qs,e,tr,f⟩:=x;refine⟨qs,k _ _ (.inl rfl) e,tr,λp cv q=>?_⟩
  obtain⟨c,oc,r,hc,rc⟩:=f p cv q;exact⟨c,oc,r,hz _ _ _ hc,rc⟩
 |met f y=>
  have e:h.get? a=ZY (sX (.ref f) (.ref y)):=x;show h'.get? a=ZY (sX (.ref f) (.ref y));exact k a _ (.inl rfl) e
 |ext φ=>obtain⟨p,⟨o,e⟩,st⟩:=x;exact⟨st _ _ p λo q=>k _ _ (.inl rfl) q,⟨o,k _ _ (.inl rfl) e⟩,st⟩
def HOk.lt(x:HOk P w H h)(e:H a=ZY o):a<h.objs.size:=(x a o e).lt
theorem HOk.fresh(x:HOk P w H h)(e:h.objs.size<=a):H a=ZX:=by
 cases q:H a with
 |none=>rfl
 |some u=>exact absurd (bN (x.lt q) e) (iG _)
def HOk.kept(x:HOk P w H h)(k:∀b u,h.get? b=ZY u->h'.get? b=ZY u):HOk P w H h':=λa o e=>
 (x a o e).stay (λb u _ q=>k b u q) (λ_ q=>q) λ_ _ q=>q
def HOk.laid(x:HOk P w H h)(k:∀b u,h.get? b=ZY u->h'.get? b=ZY u)(hp:h.objs.size<=a)(new:yg P w (upd H a o) h' a o):HOk P w (upd H a o) h':=λb u e=>by
 have hn:=x.fresh hp
 by_cases hb:b=a
 ·subst hb;rw[gw] at e;cases e;exact new
 ·rw[cg hb] at e;exact(x b u e).stay (λc v _ q=>k c v q) (λc q=>by rw[cg (gr q hn)];exact q) (λc xs q=>by rw[cg (gr q hn)];exact q) λc _ _ q=>by rw[cg (gr q hn)];exact q
end
def Rd(H:Hp)(a:bB)(u:HO):Prop:=H a=ZY u∨∃o,H a=ZY (.frz o u)
def Rd.ok(r:Rd H a u)(x:HOk P w H h):yg P w H h a u:=by
 rcases r with r |⟨o,r⟩
 ·exact x a u r
 ·obtain⟨_,q⟩:=x a _ r;exact q
def Mut:Option HO->Prop
 |some (.lst _)=>True
 |some (.dK _)=>True
 |some (.dT _)=>True
 |some (.set _ _)=>True
 |some (.ins _ _ _)=>True
 |some (.ext _)=>True
 |_=>False
section
variable{P:cF}{w:dX}{H:Hp}{h h':iK}{x e:bB}{o':HO}
def HOk.write(ok:HOk P w H h)(mu:Mut (H x))(he:e=x∨H e=ZY (.own x))(k:∀b u,b≠e->h.get? b=ZY u->h'.get? b=ZY u)(heo:∃u,h'.get? e=ZY u)
  (new:yg P w (upd H x o') h' x o'):HOk P w (upd H x o') h':=λb u q=>by
 have nown:∀c y,H c=ZY (.own y)->c≠x:=λc y r z=>by subst z;rw[r] at mu;exact mu
 have ntup:∀c xs,H c=ZY (.tup xs)->c≠x:=λc xs r z=>by subst z;rw[r] at mu;exact mu
 have nfrz:∀c o u,H c=ZY (.frz o u)->c≠x:=λc o u r z=>by subst z;rw[r] at mu;exact mu
 by_cases hb:b=x
 ·subst hb;rw[gw] at q;cases q;exact new
 ·rw[cg hb] at q
  by_cases hbe:b=e
  ·have q':H b=ZY (.own x):=by
    rcases he with z |z
    ·exact absurd (hbe.trans z) hb
    ·rw[hbe];exact z
   rw[q] at q';cases q';obtain⟨v,hv⟩:=heo;exact⟨v,by rw[hbe];exact hv⟩
  ·refine(ok b u q).stay (λc v hc r=>k c v ?_ r) (λc r=>by rw[cg (nown c b r)];exact r) (λc xs r=>by rw[cg (ntup c xs r)];exact r) λc o u r=>by rw[cg (nfrz c o u r)];exact r
   rcases hc with rfl |hc
   ·exact hbe
   ·rintro rfl
    rcases he with z |z
    ·exact nown c b hc z
    ·rw[hc] at z;cases z;exact hb rfl
end
structure Un (fs ex:List bB) (H H':Hp) (h h':iK):Prop where
 keep:∀b o,h.get? b=ZY o->H b=ZX->b∉fs->b∉ex->h'.get? b=ZY o
 slot:∀b o,h.get? b=ZY o->H b=ZX->b∈fs->b∉ex->∃sl,h'.get? b=ZY { o with slots:=sl }
 free:∀b o,h.get? b=ZY o->H b=ZX->b∉ex->H' b=ZX
 there:∀b o,h.get? b=ZY o->b∉ex->∃o',h'.get? b=ZY o'
 tups:∀b xs,H b=ZY (.tup xs)->H' b=ZY (.tup xs)
 frzs:∀b o u,H b=ZY (.frz o u)->H' b=ZY (.frz o u)
 tbls:∀b ps,H b=ZY (.tbl ps)->∃more,H' b=ZY (.tbl (ps++more))
section
variable{fs fs' ex ex':List bB}{H H1 H2:Hp}{h h1 h2 h':iK}{a x e:bB}{o:HO}
def Un.any(u:Un fs ex H H1 h h1)(q:h.get? b=ZY ob)(n:H b=ZX)(hx:b∉ex):∃sl,h1.get? b=ZY { ob with slots:=sl }:=by
 by_cases hb:b∈fs
 ·exact u.slot b ob q n hb hx
 ·exact⟨ob.slots,u.keep b ob q n hb hx⟩
def Un.kept(k:∀b u,h.get? b=ZY u->h'.get? b=ZY u):Un fs ex H H h h' :=
 ⟨λb ob q _ _ _=>k b ob q,λb ob q _ _ _=>⟨ob.slots,k b ob q⟩,λ_ _ _ n _=>n,λb ob q _=>⟨ob,k b ob q⟩,λ_ _ q=>q,λ_ _ _ q=>q,λ_ ps q=>⟨#[],by rw[q];simp⟩⟩
def Un.refl:Un fs ex H H h h:=Un.kept λ_ _ q=>q
def Un.laid(k:∀b u,h.get? b=ZY u->h'.get? b=ZY u)(hp:h.objs.size<=a)(hn:H a=ZX):Un fs ex H (upd H a o) h h' where
 keep:=λb u q _ _ _=>k b u q
 slot:=λb u q _ _ _=>⟨u.slots,k b u q⟩
 free:=λb u q n _=>by rw[cg (bI (bN (aO q) hp))];exact n
 there:=λb u q _=>⟨u,k b u q⟩
 tups:=λb xs q=>by rw[cg (gr q hn)];exact q
 frzs:=λb u xs q=>by rw[cg (gr q hn)];exact q
 tbls:=λb ps q=>⟨#[],by rw[cg (gr q hn),q];simp⟩
def Un.write(mu:Mut (H x))(he:e=x∨H e=ZY (.own x))(k:∀b u,b≠e->h.get? b=ZY u->h'.get? b=ZY u)(heo:∃u,h'.get? e=ZY u):Un fs ex H (upd H x o) h h':=by
 have hx:∀b,H b=ZX->b≠x:=λb n z=>by subst z;rw[n] at mu;exact mu
 have hb:∀b,H b=ZX->b≠e:=λb n z=>by
  subst z;rcases he with r |r
  ·exact hx b n r
  ·rw[n] at r;cases r
 have hm:∀b u,H b=ZY u->¬Mut (ZY u)->b≠x:=λb u q nm z=>by subst z;rw[q] at mu;exact nm mu
 refine⟨λb u q n _ _=>k b u (hb b n) q,λb u q n _ _=>⟨u.slots,k b u (hb b n) q⟩,λb u q n _=>by rw[cg (hx b n)];exact n,λb u q _=>?_,
  λb xs q=>by rw[cg (hm b _ q λz=>z)];exact q,λb u xs q=>by rw[cg (hm b _ q λz=>z)];exact q,λb ps q=>⟨#[],by rw[cg (hm b _ q λz=>z),q];simp⟩⟩
 by_cases hbe:b=e
 ·subst hbe;exact heo
 ·exact⟨u,k b u hbe q⟩
end
noncomputable def trk(h:iK)(H:Hp):List bB:=(aD h.objs.size).filter λa=>(H a).isSome
def hidT(h:iK)(H:Hp):iK:=PySem.W.hideAll h (trk h H)
def at3(h:iK)(H:Hp):(hidT h H).objs.size=h.objs.size:=PySem.W.hideAll_size _ _
def axs(e:h.get? b=ZY o)(n:H b=ZX):(hidT h H).get? b=ZY o :=
 PySem.W.hideAll_get _ e λhm=>by
  have q:(H b).isSome=ZW:=(eN.mp hm).2;rw[n] at q;simp at q
theorem a07(e:(hidT h H).get? b=ZY o):h.get? b=ZY o/\H b=ZX:=by
 have e':h.get? b=ZY o:=PySem.W.of_hideAll (trk h H) e;refine⟨e',?_⟩;cases q:H b with
 |none=>rfl
 |some x=>
  have hm:b∈trk h H:=eN.mpr ⟨List.mem_range.mpr (aO e'),by simp[q]⟩
  have z:(hidT h H).get? b=ZX:=PySem.W.hideAll_none (trk h H) hm;rw[z] at e;cases e
def a2u(g h:iK)(L:bB):List (bB×Obj):=(aD h.objs.size).filterMap λa=>if a=L∨(g.get? a).isSome=ZW then ZX else (h.get? a).map λo=>(a,o)
def rest(g h:iK)(L d:bB):List (bB×Obj):=(a2u g h L).filter λp=>decide (p.1≠d)
structure Mod (K:Fg9) (mg:Str->Option aH) (base:iK):Prop where
 kin:K.In base
 glob:base.Ns aW mg
 blt:∃mb,base.Ns builtinsNs mb/\∀x:Str,x ≠ "__name__" -> mb x=bY x
 nolimit:base.NoLimit
structure Tb (K:Fg9) (mg:Str->Option aH) (base:iK) (H:Hp):Prop where
 tb:∀c P,iW K LamN=ZY (c,P)->Al base c P/\∃ps,H P=ZY (.tbl ps)
 bm:∃bm o,mg "__builtins__"=ZY (.ref bm)/\bm≠builtinsNs/\base.get? bm=ZY o/\o.cls=.type "module" /\ o.dict=ZY builtinsNs/\o.data=.plain
structure Cx where
 prog:cF
 w:dX
 K:Fg9
 mg:Str->Option aH
 base:iK
 A:dG
 N:List Str
 s₀:aN
 H₀:Hp
 env:Env
 outer:List Env
 stack:List Env
 ex:List bB
 fn:Str->Bool
 calm:Bool
 pn:List (bB×Obj)
 xe:aH->aN->Prop
noncomputable def frs(l:List Env):List bB:=l.filterMap (·.frame)
abbrev Cx.fs(X:Cx):List bB:=frs X.outer
def Vis(sc:nO)(x:Str):Prop:=sc.names.lookup x=ZY .local∨sc.names.lookup x=ZY .cell∨sc.names.lookup x=ZY .free
def Loc(sc:nO)(x:Str):Prop:=sc.names.lookup x=ZY .local∨sc.names.lookup x=ZY .cell
def Look(env:Env)(h:iK)(m:Str->Option aH)(x:Str)(u:aH):Prop :=
 (env.kindOf x=ZY .local/\m x=ZY u)∨((env.kindOf x=ZY .cell∨env.kindOf x=ZY .free)/\∃c,env.cells.lookup x=ZY c/\h.IsCell c (ZY u))
structure Cx.Ok (X:Cx):Prop where
 mod:Mod X.K X.mg X.base
 kind:X.env.scope.kind=.function
 glob:X.env.globals=aW
 blt:X.env.builtins=builtinsNs
 above:X.s₀.heap.objs.size<=X.env.locals
 inj:∀x y c,X.env.cells.lookup x=ZY c->X.env.cells.lookup y=ZY c->x=y
 has:∀x,(X.env.kindOf x=ZY .cell∨X.env.kindOf x=ZY .free)->∃c,X.env.cells.lookup x=ZY c
 cab:∀x c,X.fn x=ZW->X.env.cells.lookup x=ZY c->X.s₀.heap.objs.size<=c
 hd:X.calm=ZW->X.A.handled=ZX
 frames:X.A.frames=ZY X.stack
 stk:X.stack=X.outer∨(X.stack=X.env::X.outer/\X.env.frame=ZY X.env.locals)
 exf:∀b∈X.ex,b≠X.env.locals/\∀x c,X.env.cells.lookup x=ZY c->c≠b
 bs:∀b o,X.base.get? b=ZY o->X.s₀.heap.get? b=ZY o/\X.H₀ b=ZX
 bsz:X.base.objs.size<=X.s₀.heap.objs.size
 noex:∀b o,X.base.get? b=ZY o->b∉X.ex
 exfs:∀b∈X.ex,b∉X.fs
 funs:X.s₀.heap.FunFrames X.base X.outer
 frf:∀b∈X.fs,X.H₀ b=ZX
 tb:Tb X.K X.mg X.base X.H₀
structure Inv (X:Cx) (zv:List (bB×Obj)) (σ:List (Option V)) (H:Hp) (s:aN):Prop where
 ok:X.Ok
 os:s.os=X.s₀.os
 bare:qU s.gens
 base:Un X.fs X.ex X.H₀ H X.s₀.heap s.heap
 loc:∃m,s.heap.Ns X.env.locals m/\∀(i:Nat) (x:Str) (v:V),X.N[i]? = ZY x->σ[i]? = ZY (ZY v)->Vis X.env.scope x->∃u,RelV v u/\Look X.env s.heap m x u
 cell:∀x c,X.env.cells.lookup x=ZY c->∃v,s.heap.IsCell c v
 free:H X.env.locals=ZX
 freeC:∀x c,X.env.cells.lookup x=ZY c->H c=ZX
 pin:∀p∈X.pn++zv,s.heap.get? p.1=ZY p.2/\H p.1=ZX/\p.1≠X.env.locals/\p.1∉X.fs/\∀v,p.2.data≠.cell v
 hok:HOk X.prog X.w H s.heap
 len:σ.length=X.N.length
section
variable{X:Cx}{zv:List (bB×Obj)}{σ:List (Option V)}{H H':Hp}{s:aN}{h':iK}
def Cx.Ok.nofr(ok:X.Ok)(e:X.base.get? b=ZY o):b∉X.fs:=λhb=>by
 have:=(ok.funs.mem hb).1;rw[e] at this;cases this
def Inv.bs(I:Inv X zv σ H s):∀b o,X.base.get? b=ZY o->s.heap.get? b=ZY o/\H b=ZX:=λb o e=>
 ⟨I.base.keep b o (I.ok.bs b o e).1 (I.ok.bs b o e).2 (I.ok.nofr e) (I.ok.noex b o e),I.base.free b o (I.ok.bs b o e).1 (I.ok.bs b o e).2 (I.ok.noex b o e)⟩
def Inv.bk(I:Inv X zv σ H s):∀b o,X.base.get? b=ZY o->s.heap.get? b=ZY o:=λb o e=>(I.bs b o e).1
def Inv.mod(I:Inv X zv σ H s):Mod X.K X.mg X.base:=I.ok.mod
def Inv.kIn(I:Inv X zv σ H s):X.K.In s.heap:=I.ok.mod.kin.keeps I.bk
def Inv.nolimit(I:Inv X zv σ H s):s.heap.NoLimit:=I.ok.mod.nolimit.keeps I.bk
def Inv.lt(I:Inv X zv σ H s):X.env.locals<s.heap.objs.size:=let ⟨_,hn,_⟩:=I.loc;hn.lt
def Inv.sz(I:Inv X zv σ H s):X.s₀.heap.objs.size<=s.heap.objs.size:=bV I.ok.above (jL I.lt)
def Inv.nofs(I:Inv X zv σ H s)(h:s.heap.objs.size<=a):a∉X.fs:=λhb=>by
 obtain⟨_,o,ho,_⟩:=I.ok.funs.mem hb;exact absurd (bN (aO ho) (bV I.sz h)) (iG _)
def Inv.cne(I:Inv X zv σ H s):∀x c,X.env.cells.lookup x=ZY c->c≠X.env.locals:=λx c e z=>by
 obtain⟨v,o,ho,hd⟩:=I.cell x c e;obtain⟨m,⟨o',es,ep,ho',hd',_⟩,_⟩:=I.loc;rw[z,ho'] at ho;cases ho;rw[hd'] at hd;cases hd
def Inv.funs(I:Inv X zv σ H s):s.heap.FunFrames X.base X.outer:=by
 have all:∀(l:List Env),(∀b∈frs l,b∈X.fs)->X.s₀.heap.FunFrames X.base l->s.heap.FunFrames X.base l:=by
  intro l
  induction l with
  |nil=>intro _ _;trivial
  |cons env r ih=>
   intro hs hl;obtain⟨hk,⟨L,o,hf,hn,ho,hd⟩,hr⟩:=hl;have hL:L∈X.fs:=hs L (by unfold frs;rw[jF,hf];exact aX)
   obtain⟨sl,e⟩:=I.base.slot L o ho (I.ok.frf L hL) hL λz=>I.ok.exfs L z hL
   exact⟨hk,⟨L,_,hf,hn,e,hd⟩,ih (λb hb=>hs b (by unfold frs;rw[jF,hf];exact aR _ hb)) hr⟩
 exact all X.outer (λ_ hb=>hb) I.ok.funs
def Inv.stack(I:Inv X zv σ H s):s.heap.FunFrames X.base X.stack:=by
 rcases I.ok.stk with e |⟨e,hf⟩
 ·rw[e];exact I.funs
 ·rw[e];obtain⟨m,hn,_⟩:=I.loc;refine .cons (by rw[I.ok.kind];decide) hf hn ?_ I.funs
  exact jU (bV I.ok.bsz I.ok.above)
def Inv.stkSub(I:Inv X zv σ H s):∀b∈frs X.stack,b∈X.env.locals::X.fs:=λb hb=>by
 rcases I.ok.stk with e |⟨e,hf⟩
 ·rw[e] at hb;exact aR _ hb
 ·rw[e] at hb;unfold frs at hb;rw[jF,hf] at hb;exact hb
def Inv.stkFree(I:Inv X zv σ H s):∀b∈frs X.stack,H b=ZX:=λb hb=>by
 rcases bA.mp (I.stkSub b hb) with e |hb
 ·rw[e];exact I.free
 ·obtain⟨_,o,ho,_⟩:=I.ok.funs.mem hb;exact I.base.free b o ho (I.ok.frf b hb) λz=>I.ok.exfs b z hb
def Inv.step{g':Array GenState}{t':Nat}{d':Drawn}{ch:List bB}(I:Inv X zv σ H s)
  (hch:∀b∈ch,(b∈X.ex∨X.s₀.heap.objs.size<=b)/\b≠X.env.locals/\(∀x c,X.env.cells.lookup x=ZY c->c≠b)/\∀p∈X.pn++zv,p.1≠b)
  (keep:∀b o,b≠X.env.locals->b∉X.fs->b∉ch->s.heap.get? b=ZY o->H b=ZX->h'.get? b=ZY o)
  (slot:∀b o,b≠X.env.locals->b∈X.fs->b∉ch->s.heap.get? b=ZY o->H b=ZX->∃sl,h'.get? b=ZY { o with slots:=sl }) (free:∀b o,b∉ch->s.heap.get? b=ZY o->H b=ZX->H' b=ZX)
  (there:∀b o,b∉ch->s.heap.get? b=ZY o->∃o',h'.get? b=ZY o')
  (tups:∀b xs,H b=ZY (.tup xs)->H' b=ZY (.tup xs)) (frzs:∀b o u,H b=ZY (.frz o u)->H' b=ZY (.frz o u)) (tbls:∀b ps,H b=ZY (.tbl ps)->∃more,H' b=ZY (.tbl (ps++more)))
  (ns:∀m,s.heap.Ns X.env.locals m->h'.Ns X.env.locals m) (hok:HOk X.prog X.w H' h') (hg:qU g') :
  Inv X zv σ H' { s with heap:=h',gens:=g',drawn:=d',toks:=t' }:=by
 have neL:∀b o,X.s₀.heap.get? b=ZY o->b≠X.env.locals:=λb o e=>bI (bN (aO e) I.ok.above)
 have neC:∀b o,X.s₀.heap.get? b=ZY o->b∉X.ex->b∉ch:=λb o e hx hb=>by
  rcases(hch b hb).1 with z |z
  ·exact hx z
  ·exact absurd (bN (aO e) z) (iG _)
 have cellK:∀x c,X.env.cells.lookup x=ZY c->∀v,s.heap.IsCell c v->h'.IsCell c v:=λx c e v hq0=>by
  obtain⟨o,ho,hd⟩:=hq0;have nch:c∉ch:=λz=>(hch c z).2.2.1 x c e rfl
  by_cases hc:c∈X.fs
  ·obtain⟨sl,q⟩:=slot c o (I.cne x c e) hc nch ho (I.freeC x c e);exact⟨_,q,hd⟩
  ·exact⟨o,keep c o (I.cne x c e) hc nch ho (I.freeC x c e),hd⟩
 refine⟨I.ok,I.os,hg,⟨λb o e n hb hx=>?_,λb o e n hb hx=>?_,λb o e n hx=>?_,λb o e hx=>?_,λb xs e=>tups b xs (I.base.tups b xs e),λb o xs e=>frzs b o xs (I.base.frzs b o xs e),λb ps e=>?_⟩,?_,λx c e=>?_,?_,λx c e=>?_,λp hp=>?_,hok,I.len⟩
 ·exact keep b o (neL b o e) hb (neC b o e hx) (I.base.keep b o e n hb hx) (I.base.free b o e n hx)
 ·obtain⟨sl,e1⟩:=I.base.slot b o e n hb hx;obtain⟨sl',e2⟩:=slot b _ (neL b o e) hb (neC b o e hx) e1 (I.base.free b o e n hx);exact⟨sl',e2⟩
 ·obtain⟨o',e1⟩:=I.base.there b o e hx;exact free b o' (neC b o e hx) e1 (I.base.free b o e n hx)
 ·obtain⟨o',e1⟩:=I.base.there b o e hx;exact there b o' (neC b o e hx) e1
 ·obtain⟨m1,e1⟩:=I.base.tbls b ps e;obtain⟨m2,e2⟩:=tbls b _ e1;exact⟨m1++m2,by rw[e2,Array.append_assoc]⟩
 ·obtain⟨m,hn,hl⟩:=I.loc;refine⟨m,ns m hn,λi x v e1 e2 e3=>?_⟩
  obtain⟨u,r,l⟩:=hl i x v e1 e2 e3;refine⟨u,r,?_⟩;rcases l with l |⟨k,c,e,z⟩
  ·exact .inl l
  ·exact .inr ⟨k,c,e,cellK x c e _ z⟩
 ·obtain⟨v,z⟩:=I.cell x c e;exact⟨v,cellK x c e v z⟩
 ·obtain⟨m,⟨o,_,_,ho,_⟩,_⟩:=I.loc;exact free _ o (λz=>(hch _ z).2.1 rfl) ho I.free
 ·obtain⟨v,o,ho,hd⟩:=I.cell x c e;exact free c o (λz=>(hch c z).2.2.1 x c e rfl) ho (I.freeC x c e)
 ·obtain⟨e,n,ne,nf,d⟩:=I.pin p hp;have nch:p.1∉ch:=λz=>(hch p.1 z).2.2.2 p hp rfl
  exact⟨keep p.1 p.2 ne nf nch e n,free p.1 p.2 nch e n,ne,nf,d⟩
def Inv.un{t':Nat}(I:Inv X zv σ H s)(u:Un X.fs [] H H' s.heap h')(hok:HOk X.prog X.w H' h'):Inv X zv σ H' { s with heap:=h',toks:=t' }:=by
 obtain⟨m,⟨o,es,ep,ho,r⟩,_⟩:=id I.loc;obtain⟨sl,hL⟩:=u.any ho I.free (by simp)
 exact I.step (g':=s.gens) (d':=s.drawn) (ch:=[]) (λ_ z=>nomatch z) (λb o _ hb _ e n=>u.keep b o e n hb (by simp)) (λb o _ hb _ e n=>u.slot b o e n hb (by simp)) (λb o _ e n=>u.free b o e n (by simp)) (λb o _ e=>u.there b o e (by simp)) u.tups u.frzs u.tbls (λm' hm=>by
  obtain⟨o',es',ep',ho',r'⟩:=hm;rw[ho] at ho';cases ho';exact⟨_,es',ep',hL,r'⟩) hok I.bare
def Inv.call{g':Array GenState}{t':Nat}{d':Drawn}{ch:List bB}(I:Inv X zv σ H s)(u:Un (frs X.stack) ch H H' s.heap h')(hok:HOk X.prog X.w H' h')(hg:qU g')
  (hch:∀b∈ch,(b∈X.ex∨X.s₀.heap.objs.size<=b)/\b≠X.env.locals/\(∀x c,X.env.cells.lookup x=ZY c->c≠b)/\∀p∈X.pn++zv,p.1≠b) :
  Inv X zv σ H' { s with heap:=h',gens:=g',drawn:=d',toks:=t' }:=by
 obtain⟨m,⟨o,es,ep,ho,r⟩,_⟩:=id I.loc;obtain⟨sl,hL⟩:=u.any ho I.free λz=>(hch _ z).2.1 rfl
 exact I.step (ch:=ch) hch (λb o hL hb hc e n=>u.keep b o e n (λz=>(bA.mp (I.stkSub b z)).elim hL hb) hc) (λb o _ _ hc e n=>u.any e n hc) (λb o hc e n=>u.free b o e n hc) (λb o hc e=>u.there b o e hc) u.tups u.frzs u.tbls (λm' hm=>by
  obtain⟨o',es',ep',ho',r'⟩:=hm;rw[ho] at ho';cases ho';exact⟨_,es',ep',hL,r'⟩) hok hg
def Inv.turned{t':Nat}{it:bB}(I:Inv X zv σ H s)(k:∀b o,b≠it->s.heap.get? b=ZY o->h'.get? b=ZY o)(hn:H it=ZX)(hL:it≠X.env.locals)
  (h1:it∈X.ex∨X.s₀.heap.objs.size<=it) (h2:∀x c,X.env.cells.lookup x=ZY c->c≠it) (h3:∀p∈X.pn++zv,p.1≠it):Inv X zv σ H { s with heap:=h',toks:=t' }:=by
 have nit:∀b u,H b=ZY u->b≠it:=λb u e z=>by rw[z,hn] at e;cases e
 refine I.step (g':=s.gens) (d':=s.drawn) (ch:=[it]) (λb hb=>?_) (λb o _ _ hc e _=>k b o (λz=>hc (by simp[z])) e) (λb o _ _ hc e _=>⟨o.slots,k b o (λz=>hc (by simp[z])) e⟩) (λ_ _ _ _ n=>n)
  (λb o hc e=>⟨o,k b o (λz=>hc (by simp[z])) e⟩) (λ_ _ e=>e) (λ_ _ _ e=>e) (λb ps e=>⟨#[],by rw[e];simp⟩) (λm hm=>?_) (λb u e=>?_) I.bare
 ·have e:b=it:=by simpa using hb
  subst e;exact⟨h1,hL,h2,h3⟩
 ·obtain⟨o,es,ep,ho,r⟩:=hm;exact⟨o,es,ep,k _ o (gY hL) ho,r⟩
 ·refine(I.hok b u e).stay (λc v hc q=>k c v ?_ q) (λ_ q=>q) λ_ _ q=>q
  rcases hc with z |z
  ·rw[z];exact nit b u e
  ·exact nit c _ z
def Inv.tok(I:Inv X zv σ H s)(t:Nat):Inv X zv σ H { s with toks:=t }:=I.un (h':=s.heap) (t':=t) Un.refl I.hok
def Inv.kept(I:Inv X zv σ H s)(k:∀b u,s.heap.get? b=ZY u->h'.get? b=ZY u):Inv X zv σ H { s with heap:=h',toks:=t' }:=I.un (Un.kept k) (I.hok.kept k)
def Inv.laid(I:Inv X zv σ H s)(k:∀b u,s.heap.get? b=ZY u->h'.get? b=ZY u)(hp:s.heap.objs.size<=a)(new:yg X.prog X.w (upd H a o) h' a o) :
  Inv X zv σ (upd H a o) { s with heap:=h',toks:=t' }:=I.un (Un.laid k hp (I.hok.fresh hp)) (I.hok.laid k hp new)
def Inv.write(I:Inv X zv σ H s)(mu:Mut (H x))(he:e=x∨H e=ZY (.own x))(k:∀b u,b≠e->s.heap.get? b=ZY u->h'.get? b=ZY u)(heo:∃u,h'.get? e=ZY u)
  (new:yg X.prog X.w (upd H x o) h' x o):Inv X zv σ (upd H x o) { s with heap:=h',toks:=t' }:=I.un (Un.write mu he k heo) (I.hok.write mu he k heo new)
def Inv.pins_of(I:Inv X zv σ H s)(h:∀p∈pins',s.heap.get? p.1=ZY p.2/\H p.1=ZX/\p.1≠X.env.locals/\p.1∉X.fs/\∀v,p.2.data≠.cell v):Inv X pins' σ H s :=
 ⟨I.ok,I.os,I.bare,I.base,I.loc,I.cell,I.free,I.freeC,λp hp=>(dC.mp hp).elim (λz=>I.pin p (gK _ z)) (h p),I.hok,I.len⟩
def ajv{N:List Str}(hN:N.Nodup){i j:Nat}{x:Str}(a:N[i]? = ZY x)(b:N[j]? = ZY x):i=j:=by
 obtain⟨h1,e1⟩:=aJ.mp a;obtain⟨h2,e2⟩:=aJ.mp b;exact(List.getElem_inj hN).mp (e1.trans e2.symm)
def aks{M:Model}{A:dG}{E:aH->aN->Prop}{i:Nat}{x:Str}{v:V}{u:aH}{Q:Unit->aN->Prop}(I:Inv X zv σ H s)(hN:X.N.Nodup)(hi:X.N[i]? = ZY x)(hx:Loc X.env.scope x)(r:RelV v u)
  (h:∀s',Inv X zv (σ.set i (ZY v)) H s'->(∃a,fL a s.heap s'.heap/\(a=X.env.locals∨X.env.cells.lookup x=ZY a))->Q () s') (hf:X.fn x=ZW∨X.env.scope.names.lookup x=ZY .local:=by first |exact .inl rfl |exact .inr rfl |assumption):bD M A (storeName X.env x u) Q E s:=by
 obtain⟨m,hn,hl⟩:=id I.loc;have hcls:(X.env.scope.kind==.class||(X.env.scope.kind==.module&&X.env.locals != X.env.globals))=ZV:=by rw[I.ok.kind];rfl
 have hiσ:i < σ.length:=by rw[I.len];exact(aJ.mp hi).1
 have cne:=I.cne;have tracked:∀{a:bB} {h':iK},(∃o,s.heap.get? a=ZY o/\H a=ZX)->fL a s.heap h'->HOk X.prog X.w H h':=λ{a h'} ha hs b ob e=>by
  obtain⟨_,_,hfree⟩:=ha;refine(I.hok b ob e).stay (λc w' hc q=>(hs.2 c ?_).trans q) (λ_ q=>q) λ_ _ q=>q
  rintro rfl
  rcases hc with rfl |hc
  ·rw[hfree] at e;cases e
  ·rw[hfree] at hc;cases hc
 rcases hx with hk |hk
 ·refine wpAny_storeName_local hk hn (λh' hn' hs=>?_) hcls
  obtain⟨oL,_,_,hoL,_⟩:=id hn;refine h _ ⟨I.ok,I.os,I.bare,⟨λb o e n hb hx=>?_,λb o e n hb hx=>?_,I.base.free,λb o e hx=>?_,I.base.tups,I.base.frzs,I.base.tbls⟩,⟨_,hn',λj y v' e1 e2 e3=>?_⟩,λy c e=>?_,I.free,I.freeC,λp hp=>?_,tracked ⟨oL,hoL,I.free⟩ hs,by simpa using I.len⟩ ⟨_,hs,.inl rfl⟩
  ·exact(hs.2 b (bI (bN (aO e) I.ok.above))).trans (I.base.keep b o e n hb hx)
  ·obtain⟨sl,e1⟩:=I.base.slot b o e n hb hx;exact⟨sl,(hs.2 b (bI (bN (aO e) I.ok.above))).trans e1⟩
  ·obtain⟨o',e1⟩:=I.base.there b o e hx;exact⟨o',(hs.2 b (bI (bN (aO e) I.ok.above))).trans e1⟩
  ·by_cases hj:j=i
   ·subst hj;rw[hi] at e1;cases e1;rw[mQ hiσ] at e2;cases e2;exact⟨u,r,.inl ⟨hk,by simp⟩⟩
   ·rw[nG (gY hj)] at e2;obtain⟨u',r',q⟩:=hl j y v' e1 e2 e3;refine⟨u',r',?_⟩;rcases q with⟨k,e⟩ |⟨k,c,e,z⟩
    ·refine .inl ⟨k,?_⟩;have:y≠x:=λe=>hj (ajv hN e1 (e▸hi))
     simp[this,e]
    ·exact .inr ⟨k,c,e,z.sameBut hs (cne y c e)⟩
  ·obtain⟨w',z⟩:=I.cell y c e;exact⟨w',z.sameBut hs (cne y c e)⟩
  ·obtain⟨e,n,ne,nf,d⟩:=I.pin p hp;exact⟨(hs.2 p.1 ne).trans e,n,ne,nf,d⟩
 ·have hfn:X.fn x=ZW:=by
   rcases hf with z |z
   ·exact z
   ·rw[z] at hk;cases hk
  obtain⟨c,hc⟩:=I.ok.has x (.inl hk);obtain⟨w',z⟩:=I.cell x c hc;refine wpAny_storeName_cell I.ok.kind hk hc z (λh' hc' hs=>?_)
  obtain⟨oc,hoc,hocd⟩:=id z;refine h { s with heap:=h' } ⟨I.ok,I.os,I.bare,⟨λb o e n hb hx=>?_,λb o e n hb hx=>?_,I.base.free,λb o e hx=>?_,I.base.tups,I.base.frzs,I.base.tbls⟩,⟨m,hn.sameBut hs (gY (cne x c hc)),λj y v' e1 e2 e3=>?_⟩,λy c' e=>?_,I.free,I.freeC,λp hp=>?_,tracked ⟨oc,hoc,I.freeC x c hc⟩ hs,by simpa using I.len⟩ ⟨c,hs,.inr hc⟩
  ·exact(hs.2 b (bI (bN (aO e) (I.ok.cab x c hfn hc)))).trans (I.base.keep b o e n hb hx)
  ·obtain⟨sl,e1⟩:=I.base.slot b o e n hb hx;exact⟨sl,(hs.2 b (bI (bN (aO e) (I.ok.cab x c hfn hc)))).trans e1⟩
  ·obtain⟨o',e1⟩:=I.base.there b o e hx;exact⟨o',(hs.2 b (bI (bN (aO e) (I.ok.cab x c hfn hc)))).trans e1⟩
  ·by_cases hj:j=i
   ·subst hj;rw[hi] at e1;cases e1;rw[mQ hiσ] at e2;cases e2;exact⟨u,r,.inr ⟨.inl hk,c,hc,hc'⟩⟩
   ·rw[nG (gY hj)] at e2;obtain⟨u',r',q⟩:=hl j y v' e1 e2 e3;refine⟨u',r',?_⟩;rcases q with q |⟨k,c',e,z'⟩
    ·exact .inl q
    ·refine .inr ⟨k,c',e,z'.sameBut hs ?_⟩
     rintro rfl
     exact hj (ajv hN e1 (I.ok.inj _ _ _ e hc▸hi))
  ·by_cases hcc:c'=c
   ·subst hcc;exact⟨_,hc'⟩
   ·obtain⟨w2,z2⟩:=I.cell y c' e;exact⟨w2,z2.sameBut hs hcc⟩
  ·obtain⟨e,n,ne,nf,d⟩:=I.pin p hp;refine⟨(hs.2 p.1 ?_).trans e,n,ne,nf,d⟩;intro q;rw[q,hoc] at e;have q':oc=p.2:=bJ e;exact d w' (by rw[<-q'];exact hocd)
def age(I:Inv X zv σ H s)(hN:X.N.Nodup)(hi:X.N[i]? = ZY x)(hx:Loc X.env.scope x)(r:RelV v u)
  (h:∀s',Inv X zv (σ.set i (ZY v)) H s'->Q () s') (hf:X.fn x=ZW∨X.env.scope.names.lookup x=ZY .local:=by first |exact .inl rfl |exact .inr rfl |assumption):bD M A (storeName X.env x u) Q E s :=
 aks I hN hi hx r (λs' I' _=>h s' I') hf
def Inv.call'(I:Inv X zv σ H s)(ho:s'.os=s.os)(u:Un (frs X.stack) ch H H' s.heap s'.heap)(hok:HOk X.prog X.w H' s'.heap)(hg:qU s'.gens)
  (hch:∀b∈ch,(b∈X.ex∨X.s₀.heap.objs.size<=b)/\b≠X.env.locals/\(∀x c,X.env.cells.lookup x=ZY c->c≠b)/\∀p∈X.pn++zv,p.1≠b):Inv X zv σ H' s':=by
 obtain⟨h',g',d',t',o'⟩:=s';have e:o'=s.os:=ho;subst e;exact I.call (g':=g') (t':=t') (d':=d') u hok hg hch
end
abbrev XK:=aH->Option bB->Hp->Prop
abbrev St:=List (Option V)
abbrev VK:=V->Hp->Prop
abbrev TE:=St->Hp->VK->Prop
abbrev TT:=St->Hp->(Bool->Hp->Prop)->Prop
abbrev TA:=St->Hp->(List V->Hp->Prop)->Prop
structure Ends where
 nx:St->Hp->Prop
 rt:VK
 bk:St->Hp->Prop:=λ_ _=>False
 ct:St->Hp->Prop:=λ_ _=>False
abbrev TS:=Ends->St->Hp->Prop
def EP(X:Cx)(zv:List (bB×Obj))(σ:St)(Q:VK)(u:aH)(s':aN):Prop:=∃v H',Inv X zv σ H' s'/\RelV v u/\Q v H'
def TP(X:Cx)(zv:List (bB×Obj))(σ:St)(Q:Bool->Hp->Prop)(b:Bool)(s':aN):Prop:=∃H',Inv X zv σ H' s'/\Q b H'
def AP(X:Cx)(zv:List (bB×Obj))(σ:St)(Q:List V->Hp->Prop)(us:List aH)(s':aN):Prop:=∃vs H',Inv X zv σ H' s'/\Vals vs us/\Q vs H'
def SP(X:Cx)(zv:List (bB×Obj))(D:Ends)(f:Flow)(s':aN):Prop :=
 match f with
 |.next=>∃σ' H',Inv X zv σ' H' s'/\D.nx σ' H'
 |.brk=>∃σ' H',Inv X zv σ' H' s'/\D.bk σ' H'
 |.cont=>∃σ' H',Inv X zv σ' H' s'/\D.ct σ' H'
 |.ret u=>∃v σ' H',Inv X zv σ' H' s'/\RelV v u/\D.rt v H'
def PE(X:Cx)(e:fP)(t:TE):Prop :=
 ∀(zv:List (bB×Obj)) (s:aN) (σ:St) (H:Hp) (Q:VK),Inv X zv σ H s->t σ H Q->bD 'D' X.A (eval e X.env) (EP X zv σ Q) X.xe s
def PT(X:Cx)(e:fP)(t:TT):Prop :=
 ∀(zv:List (bB×Obj)) (s:aN) (σ:St) (H:Hp) (Q:Bool->Hp->Prop),Inv X zv σ H s->t σ H Q->bD 'D' X.A (isTrue e X.env (eval e X.env)) (TP X zv σ Q) X.xe s
def PW(X:Cx)(e:fP)(t:TT):Prop :=
 ∀(whole:Sem aH) (zv:List (bB×Obj)) (s:aN) (σ:St) (H:Hp) (Q:Bool->Hp->Prop),Inv X zv σ H s->t σ H Q->bD 'D' X.A (isTrue e X.env whole) (TP X zv σ Q) X.xe s
def PW.pt(h:PW X e t):PT X e t:=h _
def PA(X:Cx)(es:List fP)(t:TA):Prop :=
 ∀(pos:Pos) (zv:List (bB×Obj)) (s:aN) (σ:St) (H:Hp) (Q:List V->Hp->Prop),Inv X zv σ H s->t σ H Q->bD 'D' X.A (spliced (kI pos (aQ es X.env))) (AP X zv σ Q) X.xe s
def PS(X:Cx)(st:jG)(t:TS):Prop :=
 ∀(zv:List (bB×Obj)) (s:aN) (σ:St) (H:Hp) (D:Ends),Inv X zv σ H s->t D σ H->bD 'D' X.A (exec st X.env) (SP X zv D) X.xe s
def PSs(X:Cx)(st:List jG)(t:TS):Prop :=
 ∀(zv:List (bB×Obj)) (s:aN) (σ:St) (H:Hp) (D:Ends),Inv X zv σ H s->t D σ H->bD 'D' X.A (execs st X.env) (SP X zv D) X.xe s
def thn(h:bD M A t Q E s)(hQ:∀a s,Q a s->Q' a s):bD M A t Q' E s:=aZ h hQ λ_ _ x=>x
section
variable{X:Cx}
def tVar(i:Nat):TE:=λσ H Q=>∃v,σ[i]? = ZY (ZY v)/\Q v H
def tC(v:V):TE:=λ_ H Q=>Q v H
def a4t(hN:X.N[i]? = ZY x)(hv:Vis X.env.scope x)(hd:(x==("__debug__" : Str))=ZV:=by decide)(hcd:(x==("__classdict__" : Str))=ZV:=by decide):PE X (.Name x pos) (tVar i):=by
 intro zv s σ H Q I h;obtain⟨v,e,h⟩:=h;obtain⟨m,hn,hl⟩:=I.loc;obtain⟨u,r,l⟩:=hl i x v hN e hv;have fin:EP X zv σ Q u s:=⟨v,H,I,r,h⟩;rcases l with⟨hk,hm⟩ |⟨hk,c,hc,hcell⟩
 ·exact wpAny_Name (wpAny_loadName_local I.ok.kind hk hn hm fin) hd
 ·rcases hk with hk |hk
  ·exact wpAny_Name (wpAny_loadName_cell I.ok.kind hk hc hcell fin) hd
  ·exact wpAny_Name (wpAny_loadName_free I.ok.kind hk hc hcell fin hcd) hd
def a5b{i j pos}:PE X (.Constant (.int i) j pos) (tC (.int i)):=λ_ _ _ H _ I h=>wpAny_Constant_int ⟨.int i,H,I.tok _,⟨_,rfl⟩,h⟩
def a89{b j pos}:PE X (.Constant (.bool b) j pos) (tC (.bl b)):=λ_ _ _ H _ I h=>Constant_bool ⟨.bl b,H,I,rfl,h⟩
def a4y{j pos}:PE X (.Constant .none j pos) (tC .non):=λ_ _ _ H _ I h=>Constant_none ⟨.non,H,I,rfl,h⟩
def a4v{x j pos}:PE X (.Constant (.str x) j pos) (tC (.str x)):=λ_ _ _ H _ I h=>Calls.Constant_str ⟨.str x,H,I.tok _,⟨_,rfl⟩,h⟩
def Gl(X:Cx)(x:Str):Prop:=X.env.kindOf x=ZY .globalImplicit
def adp(I:Inv X zv σ H s)(hg:Gl X x)(hm:X.mg x=ZY u)(h:Q u s)
  (hd:(x==("__debug__" : Str))=ZV:=by decide):bD 'D' X.A (eval (.Name x pos) X.env) Q E s :=
 uT I.ok.kind hg (Calls.loadGlobal_global (by rw[I.ok.glob];exact I.mod.glob.keeps I.bk) hm h) hd
def af2(I:Inv X zv σ H s)(hg:Gl X x)(hm:X.mg x=ZX)(hv:bY x=ZY u)(h:Q u s)
  (hn:x ≠ "__name__" := by decide) (hd:(x==("__debug__" : Str))=ZV:=by decide):bD 'D' X.A (eval (.Name x pos) X.env) Q E s:=by
 obtain⟨mb,h1,h2⟩:=I.mod.blt;exact uT I.ok.kind hg (Calls.loadGlobal_builtin (by rw[I.ok.glob];exact I.mod.glob.keeps I.bk) hm (by rw[I.ok.blt];exact h1.keeps I.bk) ((h2 x hn).trans hv) h) hd
def asr(hg:Gl X x)(hm:X.mg x=ZY u)(r:RelV v u)(hd:(x==("__debug__" : Str))=ZV:=by decide):PE X (.Name x pos) (tC v) :=
 λ_ _ _ H _ I h=>adp I hg hm ⟨v,H,I,r,h⟩ hd
def a0x(hg:Gl X x)(hm:X.mg x=ZX)(hv:bY x=ZY u)(r:RelV v u)(hn:x ≠ "__name__" := by decide)(hd:(x==("__debug__" : Str))=ZV:=by decide):PE X (.Name x pos) (tC v) :=
 λ_ _ _ H _ I h=>af2 I hg hm hv ⟨v,H,I,r,h⟩ hn hd
variable{a b:fP}{ta tb:TE}{pos:Pos}
def PC(X:Cx)(op:CmpOp)(a b:fP)(t:TE):Prop :=
 ∀(zv:List (bB×Obj)) (s:aN) (σ:St) (H:Hp) (Q:VK),Inv X zv σ H s->t σ H Q ->
  bD 'D' X.A (eval a X.env) (λv s₁=>bD 'D' X.A (eval b X.env) (λu s₂=>bD 'D' X.A (gD op v u) (EP X zv σ Q) X.xe s₂) X.xe s₁) X.xe s
def ajw(b:fP)(h:op≠.In)(h2:op≠.NotIn):jJ op b=ZV:=by
 have e1:(op==CmpOp.In)=ZV:=by cases op <;> first |rfl |exact absurd rfl h
 have e2:(op==CmpOp.NotIn)=ZV:=by cases op <;> first |rfl |exact absurd rfl h2
 cases b <;> simp[jJ,e1,e2]
def tIsN(ta:TE):TE:=λσ H Q=>ta σ H λx H1=>Q (.bl (decide (x=.non))) H1
def a3p(ta:TE):TE:=λσ H Q=>ta σ H λx H1=>Q (.bl (!decide (x=.non))) H1
theorem RelV.none_iff(r:RelV x v):(v==cQ)=decide (x=.non):=by
 cases x with
 |non=>cases r;rfl
 |bl _=>cases r;rfl
 |int _=>obtain⟨t,rfl⟩:=r;rfl
 |str _=>obtain⟨t,rfl⟩:=r;rfl
 |byt _=>obtain⟨t,rfl⟩:=r;rfl
 |flt _=>obtain⟨t,rfl⟩:=r;rfl
 |ref _=>cases r;rfl
 |ty _=>cases r;rfl
def a5f{j pos'}(ha:PE X a ta):PC X .Is a (.Constant .none j pos') (tIsN ta):=by
 intro zv s σ H Q I h;refine thn (ha zv s σ H _ I h) λv s1 ⟨x,H1,I1,r1,q1⟩=>?_
 exact Constant_none (is_none_gen ⟨.bl _,H1,I1,by rw[r1.none_iff];rfl,q1⟩)
def a0y{j pos'}(ha:PE X a ta):PC X .IsNot a (.Constant .none j pos') (a3p ta):=by
 intro zv s σ H Q I h;refine thn (ha zv s σ H _ I h) λv s1 ⟨x,H1,I1,r1,q1⟩=>?_
 exact Constant_none (isnot_none_gen ⟨.bl _,H1,I1,by rw[r1.none_iff];rfl,q1⟩)
def tB(t:TE):TT:=λσ H Q=>t σ H λx H1=>∃c,x=.bl c/\Q c H1
def a5d(h:PC X op a b t)(h1:jJ op b=ZV:=by first |exact ajw _ (by decide) (by decide) |rfl):PE X (.Compare a [op] [b] pos) t:=λzv s σ H Q I hw=>wpAny_Compare1 (h zv s σ H Q I hw) h1
def a4n(h:PC X op a b t)(h1:jJ op b=ZV:=by first |exact ajw _ (by decide) (by decide) |rfl):PT X (.Compare a [op] [b] pos) (tB t):=by
 intro zv s σ H Q I hw;refine wpAny_isTrue_Compare1 (thn (h zv s σ H _ I hw) λv s1 h1=>thn h1 λu s2 h2=>thn h2 λc s3 ⟨x,H1,I1,r1,q1⟩=>?_) h1
 obtain⟨d,rfl,q⟩:=q1;cases r1;exact gW ⟨H1,I1,q⟩
def a4l(h:PE X e t)(he:∀whole,isTrue e X.env whole=(do let v <-whole;standAt e.pos;mU [v] (truthy v)):=by intro _;rfl):PT X e (tB t):=by
 intro zv s σ H Q I hw;refine isTrue_plain (thn (h zv s σ H _ I hw) λv s1 ⟨x,H1,I1,r1,q1⟩=>?_) (he _)
 obtain⟨d,rfl,q⟩:=q1;cases r1;exact gW ⟨H1,I1,q⟩
variable{tA tB':TT}{rest:List fP}
def tAnd(t u:TT):TT:=λσ H Q=>t σ H λc H1=>if c=ZW then u σ H1 Q else Q ZV H1
def tOr(t u:TT):TT:=λσ H Q=>t σ H λc H1=>if c=ZW then Q ZW H1 else u σ H1 Q
def tNot(t:TT):TT:=λσ H Q=>t σ H λc H1=>Q (!c) H1
theorem a0c(ha:PT X a tA):PW X (.BoolOp .And [a] pos) tA:=by
 intro wh zv s σ H Q I h;refine isTrue_and (thn (ha zv s σ H Q I h) λc s1 e=>?_)
 cases c with
 |true=>exact isTrue_and_nil e
 |false=>exact e
theorem a4e(ha:PT X a tA):PW X (.BoolOp .Or [a] pos) tA:=by
 intro wh zv s σ H Q I h;refine isTrue_or (thn (ha zv s σ H Q I h) λc s1 e=>?_)
 cases c with
 |false=>exact isTrue_or_nil e
 |true=>exact e
theorem a4g(ha:PT X a tA)(hb:PW X (.BoolOp .And (b::rest) pos) tB'):PW X (.BoolOp .And (a::b::rest) pos) (tAnd tA tB'):=by
 intro wh zv s σ H Q I h;refine isTrue_and (thn (ha zv s σ H _ I h) λc s1 ⟨H1,I1,q1⟩=>?_)
 cases c with
 |true=>exact hb wh zv s1 σ H1 Q I1 q1
 |false=>exact⟨H1,I1,q1⟩
theorem a83(ha:PT X a tA)(hb:PW X (.BoolOp .Or (b::rest) pos) tB'):PW X (.BoolOp .Or (a::b::rest) pos) (tOr tA tB'):=by
 intro wh zv s σ H Q I h;refine isTrue_or (thn (ha zv s σ H _ I h) λc s1 ⟨H1,I1,q1⟩=>?_)
 cases c with
 |true=>exact⟨H1,I1,q1⟩
 |false=>exact hb wh zv s1 σ H1 Q I1 q1
def a4m(ha:PT X a tA):PT X (.UnaryOp .Not a pos) (tNot tA):=by
 intro zv s σ H Q I h;exact isTrue_not (ha zv s σ H (λc H1=>Q (!c) H1) I h)
def a8x(ta tb:TE):TE:=λσ H Q=>ta σ H λx H1=>∃c,x=.bl c/\if c=ZW then tb σ H1 Q else Q (.bl ZV) H1
def a8s(ta:TE):TE:=λσ H Q=>ta σ H λx H1=>∃c,x=.bl c/\Q (.bl (!c)) H1
def a4w{op}(h:PE X a t):PE X (.BoolOp op [a] pos) t:=λzv s σ H Q I hw=>BoolOp_one (h zv s σ H Q I hw)
theorem a5e(ha:PE X a ta)(hb:PE X (.BoolOp .And (b::rest) pos) tb):PE X (.BoolOp .And (a::b::rest) pos) (a8x ta tb):=by
 intro zv s σ H Q I h;refine BoolOp_and (thn (ha zv s σ H _ I h) λv s1 ⟨x,H1,I1,r1,q1⟩=>?_)
 obtain⟨c,rfl,q1⟩:=q1;cases r1;refine gW ?_;cases c with
 |true=>exact hb zv s1 σ H1 Q I1 q1
 |false=>exact⟨.bl ZV,H1,I1,rfl,q1⟩
def a4x(ha:PE X a ta):PE X (.UnaryOp .Not a pos) (a8s ta):=by
 intro zv s σ H Q I h;refine UnaryOp_ (thn (ha zv s σ H _ I h) λv s1 ⟨x,H1,I1,r1,q1⟩=>?_)
 obtain⟨c,rfl,q1⟩:=q1;cases r1;exact not_of (gW ⟨.bl (!c),H1,I1,rfl,q1⟩)
def tIf(t:TT)(ta tb:TE):TE:=λσ H Q=>t σ H λc H1=>if c=ZW then ta σ H1 Q else tb σ H1 Q
theorem awq(hc:PT X c tA)(ha:PE X a ta)(hb:PE X b tb):PE X (.IfExp c a b pos) (tIf tA ta tb):=by
 intro zv s σ H Q I h;refine wpAny_IfExp (thn (hc zv s σ H _ I h) λd s1 ⟨H1,I1,q1⟩=>?_)
 cases d with
 |true=>exact ha zv s1 σ H1 Q I1 q1
 |false=>exact hb zv s1 σ H1 Q I1 q1
end
def SqL(K:Fg9)(H:Hp)(a:bB)(xs:List V):Prop :=
 Rd H a (.lst xs) ∨
  ∃(o:Obj) (its:Array aH) (n:Nat),K.lookup a=ZY o/\o.cls=.type "list" /\ o.dict=ZX/\o.data=.seq its n/\its.size<=cU/\Vals xs its.toList
def SqT(K:Fg9)(H:Hp)(a:bB)(xs:List V):Prop :=
 Rd H a (.tup xs) ∨
  ∃(o:Obj) (its:Array aH) (n:Nat),K.lookup a=ZY o/\o.cls=.type "tuple" /\ o.data=.seq its n/\its.size<=cU/\Vals xs its.toList
def absV:aH->Option V
 |.none=>ZY .non
 |.bool b=>ZY (.bl b)
 |.int i _=>ZY (.int i)
 |.str x _=>ZY (.str x)
 |.bytes b _=>ZY (.byt b)
 |.float b _=>ZY (.flt b)
 |.ref a=>ZY (.ref a)
 |.type n=>ZY (.ty n)
 |_=>ZX
theorem RelV.abs(r:RelV x u):absV u=ZY x:=by
 cases x with
 |non=>cases r;rfl
 |bl _=>cases r;rfl
 |int _=>obtain⟨t,rfl⟩:=r;rfl
 |str _=>obtain⟨t,rfl⟩:=r;rfl
 |byt _=>obtain⟨t,rfl⟩:=r;rfl
 |flt _=>obtain⟨t,rfl⟩:=r;rfl
 |ref _=>cases r;rfl
 |ty _=>cases r;rfl
def RelV.inj(r:RelV x u)(q:RelV y u):x=y:=bJ (r.abs.symm.trans q.abs)
theorem Vals.inj:∀{xs ys:List V} {us:List aH},Vals xs us->Vals ys us->xs=ys
 |_,_,_,.nil,.nil=>rfl
 |_,_,_,.cons r t,.cons r' t'=>by rw[r.inj r',Vals.inj t t']
section
variable{X:Cx}{zv:List (bB×Obj)}{σ:St}{H:Hp}{s:aN}{a:bB}{xs ys:List V}
def SqL.of{K:Fg9}(h:H a=ZY (.lst xs)):SqL K H a xs:=.inl (.inl h)
def SqT.of{K:Fg9}(h:H a=ZY (.tup xs)):SqT K H a xs:=.inl (.inl h)
def Inv.list(I:Inv X zv σ H s)(h:SqL X.K H a xs):∃its:List aH,Vals xs its/\PlainL s.heap a its.toArray/\xs.length<=cU:=by
 rcases h with h |⟨o,its,n,hk,hc,hd,hs,hz,r⟩
 ·obtain⟨z,its,n,r,e⟩:=h.ok I.hok;exact⟨its,r,⟨_,n,e,rfl,rfl,rfl⟩,z⟩
 ·refine⟨its.toList,r,⟨o,n,I.kIn a o hk,hc,hd,by simpa using hs⟩,?_⟩
  have e:=r.length;simp only[bU] at e;omega
def Inv.tuple(I:Inv X zv σ H s)(h:SqT X.K H a xs):∃its:List aH,Vals xs its/\yR s.heap a its.toArray/\xs.length<=cU:=by
 rcases h with h |⟨o,its,n,hk,hc,hs,hz,r⟩
 ·obtain⟨z,its,r,p⟩:=h.ok I.hok;exact⟨its,r,p.tup,z⟩
 ·refine⟨its.toList,r,⟨o,I.kIn a o hk,hc,n,by simpa using hs⟩,?_⟩
  have e:=r.length;simp only[bU] at e;omega
def Inv.list_inj(I:Inv X zv σ H s)(h:SqL X.K H a xs)(h':SqL X.K H a ys):xs=ys:=by
 obtain⟨its,r,⟨o,n,e,_,_,d⟩,_⟩:=I.list h;obtain⟨its',r',⟨o',n',e',_,_,d'⟩,_⟩:=I.list h';rw[e] at e';cases e';rw[d] at d'
 injection d' with d1 _
 have:its=its':=by simpa using congrArg Array.toList d1
 subst this;exact r.inj r'
def Inv.tuple_inj(I:Inv X zv σ H s)(h:SqT X.K H a xs)(h':SqT X.K H a ys):xs=ys:=by
 obtain⟨its,r,⟨o,e,_,n,d⟩,_⟩:=I.tuple h;obtain⟨its',r',⟨o',e',_,n',d'⟩,_⟩:=I.tuple h';rw[e] at e';cases e';rw[d] at d'
 injection d' with d1 _
 have:its=its':=by simpa using congrArg Array.toList d1
 subst this;exact r.inj r'
end
abbrev Cx.wish(X:Cx)(E:aH->aN->Prop):Cx:={ X with xe:=E }
abbrev Cx.nox(X:Cx):Cx:=X.wish λ_ _=>False
def Cx.Ok.wish{X:Cx}(ok:X.Ok)(E:aH->aN->Prop):(X.wish E).Ok :=
 ⟨ok.mod,ok.kind,ok.glob,ok.blt,ok.above,ok.inj,ok.has,ok.cab,ok.hd,ok.frames,ok.stk,ok.exf,ok.bs,ok.bsz,ok.noex,ok.exfs,ok.funs,ok.frf,ok.tb⟩
def Cx.Ok.unwish{X:Cx}{E:aH->aN->Prop}(ok:(X.wish E).Ok):X.Ok :=
 ⟨ok.mod,ok.kind,ok.glob,ok.blt,ok.above,ok.inj,ok.has,ok.cab,ok.hd,ok.frames,ok.stk,ok.exf,ok.bs,ok.bsz,ok.noex,ok.exfs,ok.funs,ok.frf,ok.tb⟩
section
variable{X:Cx}{zv:List (bB×Obj)}{σ:St}{H:Hp}{s:aN}{E:aH->aN->Prop}
def Inv.wish(I:Inv X zv σ H s)(E:aH->aN->Prop):Inv (X.wish E) zv σ H s:=⟨I.ok.wish E,I.os,I.bare,I.base,I.loc,I.cell,I.free,I.freeC,I.pin,I.hok,I.len⟩
def Inv.unwish(I:Inv (X.wish E) zv σ H s):Inv X zv σ H s:=⟨I.ok.unwish,I.os,I.bare,I.base,I.loc,I.cell,I.free,I.freeC,I.pin,I.hok,I.len⟩
theorem SP.unwish(h:SP (X.wish E) zv D f s'):SP X zv D f s':=by
 cases f with
 |next=>obtain⟨σ',H',I,q⟩:=h;exact⟨σ',H',I.unwish,q⟩
 |brk=>obtain⟨σ',H',I,q⟩:=h;exact⟨σ',H',I.unwish,q⟩
 |cont=>obtain⟨σ',H',I,q⟩:=h;exact⟨σ',H',I.unwish,q⟩
 |ret u=>obtain⟨v,σ',H',I,r,q⟩:=h;exact⟨v,σ',H',I.unwish,r,q⟩
def PSs.nox{st:List jG}{t:TS}(h:PSs X.nox st t):PSs X st t:=λzv s σ H D I hw=>
 aZ (h zv s σ H D (I.wish _) hw) (λ_ _ q=>q.unwish) λ_ _ z=>fW z
end
section
variable{X:Cx}{st:jG}{rest:List jG}{t u:TS}{e:fP}{te:TE}{pos:Pos}
def a8t:TS:=λD σ H=>D.nx σ H
def tSeq(t u:TS):TS:=λD σ H=>t { D with nx:=u D } σ H
def a0f:PSs X [] a8t:=λ_ _ σ H _ I h=>wpAny_execs_nil ⟨σ,H,I,h⟩
theorem awl(h1:PS X st t)(h2:PSs X rest u):PSs X (st::rest) (tSeq t u):=by
 intro zv s σ H D I h;refine wpAny_execs_cons (thn (h1 zv s σ H { D with nx:=u D } I h) λf s1 q=>?_)
 cases f with
 |next=>
  obtain⟨σ',H',I',q⟩:=q;exact h2 zv s1 σ' H' D I' q
 |ret v=>exact q
 |brk=>exact q
 |cont=>exact q
theorem asi(h1:PS X st t):PSs X [st] t:=by
 intro zv s σ H D I h;refine wpAny_execs_cons (thn (h1 zv s σ H D I h) λf s1 q=>?_)
 cases f with
 |next=>exact wpAny_execs_nil q
 |ret v=>exact q
 |brk=>exact q
 |cont=>exact q
def Inv.quiet(I:Inv X zv σ H s):interactive X.env=ZV:=by simp[interactive,I.ok.kind]
def a8u(te:TE):TS:=λD σ H=>te σ H λ_ H1=>D.nx σ H1
def a0h(he:PE X e te)(hs:mF e ZX pos.line X.env=pure ZV:=by rfl):PS X (.Expr e pos) (a8u te):=by
 intro zv s σ H D I h;exact wpAny_Expr_any (thn (he zv s σ H _ I h) λv s1 ⟨x,H1,I1,r1,q1⟩=>⟨σ,H1,I1,q1⟩) I.quiet hs
def tRet(te:TE):TS:=λD σ H=>te σ H D.rt
def a4p(he:PE X e te):PS X (.Return (ZY e) pos) (tRet te):=by
 intro zv s σ H D I h;exact wpAny_Return_some (thn (he zv s σ H _ I h) λv s1 ⟨x,H1,I1,r1,q1⟩=>⟨x,σ,H1,I1,r1,q1⟩)
def tIfS(c:TT)(t u:TS):TS:=λD σ H=>c σ H λb H1=>if b=ZW then t D σ H1 else u D σ H1
theorem a85(hc:PT X c tc)(ha:PSs X a t)(hb:PSs X b u):PS X (.If c a b pos) (tIfS tc t u):=by
 intro zv s σ H D I h;refine wpAny_If (thn (hc zv s σ H _ I h) λd s1 ⟨H1,I1,q1⟩=>?_)
 cases d with
 |true=>exact ha zv s1 σ H1 D I1 q1
 |false=>exact hb zv s1 σ H1 D I1 q1
def a3q:TS:=λ_ _ _=>False
def aoh:PS X st a3q:=λ_ _ _ _ _ _ h=>h.elim
end
abbrev TG:=V->St->Hp->(St->Hp->Prop)->Prop
abbrev TGs:=List V->St->Hp->(St->Hp->Prop)->Prop
def PG(X:Cx)(target:fP)(t:TG):Prop :=
 ∀(zv:List (bB×Obj)) (s:aN) (σ:St) (H:Hp) (v:V) (u:aH) (Q:St->Hp->Prop),Inv X zv σ H s->RelV v u->t v σ H Q ->
  bD 'D' X.A (rF target X.env u) (λ_ s'=>∃σ' H',Inv X zv σ' H' s'/\Q σ' H') X.xe s
def PGs(X:Cx)(ts:List fP)(t:TGs):Prop :=
 ∀(zv:List (bB×Obj)) (s:aN) (σ:St) (H:Hp) (vs:List V) (us:List aH) (Q:St->Hp->Prop),Inv X zv σ H s->Vals vs us->t vs σ H Q ->
  bD 'D' X.A (assignInOrder ((lA ts X.env).map (·.2)) us) (λ_ s'=>∃σ' H',Inv X zv σ' H' s'/\Q σ' H') X.xe s
abbrev TSet:=V->V->V->Hp->(Hp->Prop)->Prop
def PSet(X:Cx)(t:TSet):Prop :=
 ∀(zv:List (bB×Obj)) (s:aN) (σ:St) (H:Hp) (o i v:V) (ov iv u:aH) (Q:Hp->Prop),Inv X zv σ H s->RelV o ov->RelV i iv->RelV v u->t o i v H Q ->
  bD 'D' X.A (setItem ov iv u) (λ_ s'=>∃H',Inv X zv σ H' s'/\Q H') X.xe s
abbrev TIp:=V->V->Hp->VK->Prop
def PIp(X:Cx)(op:Operator)(t:TIp):Prop :=
 ∀(zv:List (bB×Obj)) (s:aN) (σ:St) (H:Hp) (x y:V) (v u:aH) (Q:VK),Inv X zv σ H s->RelV x v->RelV y u->t x y H Q ->
  bD 'D' X.A (inplaceOp op v u) (EP X zv σ Q) X.xe s
section
variable{X:Cx}{pos:Pos}
def a1r(i:Nat):TG:=λv σ H Q=>Q (σ.set i (ZY v)) H
def a0r(hN:X.N.Nodup)(hi:X.N[i]? = ZY x)(hx:Loc X.env.scope x)(hf:X.fn x=ZW∨X.env.scope.names.lookup x=ZY .local:=by first |exact .inl rfl |exact .inr rfl |assumption):PG X (.Name x pos) (a1r i):=by
 intro zv s σ H v u Q I r h;exact wpAny_assign_Name (age I hN hi hx r (λs' I'=>⟨_,H,I',h⟩) hf)
def gNil:TGs:=λvs σ H Q=>vs=[]/\Q σ H
def bab(t:TG)(u:TGs):TGs:=λvs σ H Q=>∃v r,vs=v::r/\t v σ H λσ' H'=>u r σ' H' Q
def a0q:PGs X [] gNil:=by
 intro zv s σ H vs us Q I r h;obtain⟨e,h⟩:=h;subst e;cases r;exact assignInOrder_nil ⟨σ,H,I,h⟩
theorem awo(h1:PG X e t)(h2:PGs X es u)
  (hs:(lA (e::es) X.env).map (·.2)=rF e X.env::(lA es X.env).map (·.2):=by rfl):PGs X (e::es) (bab t u):=by
 intro zv s σ H vs us Q I r h;obtain⟨v,vr,e1,h⟩:=h;subst e1;cases r with
 |cons r rr=>
  rw[hs];refine assignInOrder_cons (thn (h1 zv s σ H _ _ _ I r h) λ_ s1 ⟨σ1,H1,I1,q1⟩=>?_)
  exact h2 zv s1 σ1 H1 _ _ Q I1 rr q1
def gTup(K:Fg9)(n:Nat)(t:TGs):TG:=λv σ H Q=>∃a xs,v=.ref a/\SqT K H a xs/\xs.length=n/\t xs σ H Q
def a4r(hc:X.calm=ZW)(h:PGs X es t)
  (hn:(lA es X.env).length=n:=by rfl) (hst:(lA es X.env).findIdx? (·.1)=ZX:=by rfl):PG X (.Tuple es k pos) (gTup X.K n t):=by
 intro zv s σ H v u Q I r hw;obtain⟨a,xs,e1,hq,hl,hw⟩:=hw;subst e1;cases r;obtain⟨its,rv,ht,hz⟩:=I.tuple hq;refine assign_Tuple_tuple (I.ok.hd hc) ht (by simp[hn,<-hl,rv.length]) hst λh' hx=>?_
 have I1:Inv X zv σ H { s with heap:=h' }:=I.kept (t':=s.toks) λb o e=>hx b o (bI (aO e)) e
 exact h zv _ σ H xs _ Q I1 (by simpa using rv) hw
def gSub(to ti:TE)(t:TSet):TG:=λv σ H Q=>to σ H λo H1=>ti σ H1 λi H2=>t o i v H2 λH3=>Q σ H3
def a4s(ho:PE X o to)(hi:PE X i ti)(hs:PSet X t)
  (ha:∀v,rF (.Subscript o i pos) X.env v=(do
   let ov <-mU [v] (eval o X.env)
   let iv <-mU [v,ov] (eval i X.env)
   standAt pos
   mU [v,ov,iv] (setItem ov iv v)
   release [v,ov,iv] []):=by intro _;rfl):PG X (.Subscript o i pos) (gSub to ti t):=by
 intro zv s σ H v u Q I r h;rw[ha];refine aA (dD (thn (ho zv s σ H _ I h) λov s1 ⟨x,H1,I1,r1,q1⟩=>?_))
 refine aA (dD (thn (hi zv s1 σ H1 _ I1 q1) λiv s2 ⟨y,H2,I2,r2,q2⟩=>?_))
 refine aA (lJ (aA (dD (thn (hs zv s2 σ H2 x y v ov iv u _ I2 r1 r2 r q2) λ_ s3 ⟨H3,I3,q3⟩=>?_))))
 exact wpAny_release ⟨σ,H3,I3,q3⟩
def tAsg(te:TE)(g:TG):TS:=λD σ H=>te σ H λx H1=>g x σ H1 D.nx
def ayq(he:PE X e te)(hg:PG X tg g)(hs:swapsWithSole [tg] e pos.line X.env=pure ZV:=by rfl)(hw:swappedStores [tg] e X.env=pure ZX:=by rfl)
  (h1:(lA [tg] X.env).map (·.2)=[rF tg X.env]:=by rfl):PS X (.Assign [tg] e pos) (tAsg te g):=by
 intro zv s σ H D I h;refine wpAny_Assign_stores (thn (he zv s σ H _ I h) λv s1 ⟨x,H1,I1,r1,q1⟩=>?_) hs hw
 rw[h1];exact thn (hg zv s1 σ H1 x v _ I1 r1 q1) λ_ s2 q=>q
def a4o(hN:X.N.Nodup)(hi:X.N[i]? = ZY x)(hx:Loc X.env.scope x)(he:PE X e te)(hs:mF e (ZY (.Name x pos')) pos.line X.env=pure ZV:=by rfl)(hf:X.fn x=ZW∨X.env.scope.names.lookup x=ZY .local:=by first |exact .inl rfl |exact .inr rfl |assumption) :
  PS X (.Assign [.Name x pos'] e pos) (tAsg te (a1r i)):=by
 intro zv s σ H D I h;refine wpAny_Assign_Name (thn (he zv s σ H _ I h) λv s1 ⟨y,H1,I1,r1,q1⟩=>?_) hs
 exact age I1 hN hi hx r1 (λs2 I2=>⟨_,H1,I2,q1⟩) hf
def a8w(to ti te:TE)(tget:V->V->Hp->VK->Prop)(tip:TIp)(tset:TSet):TS:=λD σ H=>to σ H λo H1=>ti σ H1 λi H2=>tget o i H2 λx H3=>te σ H3 λy H4=>tip x y H4 λz H5=>tset o i z H5 λH6=>D.nx σ H6
def PGet(X:Cx)(t:V->V->Hp->VK->Prop):Prop :=
 ∀(zv:List (bB×Obj)) (s:aN) (σ:St) (H:Hp) (o i:V) (ov iv:aH) (Q:VK),Inv X zv σ H s->RelV o ov->RelV i iv->t o i H Q ->
  bD 'D' X.A (sU ov iv) (EP X zv σ Q) X.xe s
def a0i(ho:PE X o to)(hi:PE X i ti)(hg:PGet X tget)(he:PE X e te)(hp:PIp X op tip)(hs:PSet X tset)
  (ha:∀ov iv new,augStore i ov iv new=(do mU [new,ov,iv] (setItem ov iv new);release [new,ov,iv] [];pure .next):=by intros;rfl):PS X (.AugAssign (.Subscript o i tpos) op e pos) (a8w to ti te tget tip tset):=by
 intro zv s σ H D I h;refine wpAny_AugAssign_SubscriptAny (thn (ho zv s σ H _ I h) λov s1 ⟨x1,H1,I1,r1,q1⟩=>?_) ha
 refine thn (hi zv s1 σ H1 _ I1 q1) λiv s2 ⟨x2,H2,I2,r2,q2⟩=>?_
 refine thn (hg zv s2 σ H2 x1 x2 ov iv _ I2 r1 r2 q2) λold s3 ⟨x3,H3,I3,r3,q3⟩=>?_
 refine thn (he zv s3 σ H3 _ I3 q3) λv s4 ⟨x4,H4,I4,r4,q4⟩=>?_
 refine thn (hp zv s4 σ H4 x3 x4 old v _ I4 r3 r4 q4) λnew s5 ⟨x5,H5,I5,r5,q5⟩=>?_
 exact thn (hs zv s5 σ H5 x1 x2 x5 ov iv new _ I5 r1 r2 r5 q5) λ_ s6 ⟨H6,I6,q6⟩=>⟨σ,H6,I6,q6⟩
def ipI(f:Int->Int->Int):TIp:=λx y H Q=>∃i j,x=.int i/\y=.int j/\Q (.int (f i j)) H
def a6q:PIp X .Add (ipI λi j=>i+j):=by
 intro zv s σ H x y v u Q I r1 r2 h;obtain⟨i,j,e1,e2,q⟩:=h;subst e1;subst e2;obtain⟨t,rfl⟩:=r1;obtain⟨t',rfl⟩:=r2;exact iadd_int ⟨.int _,H,I.tok _,⟨_,rfl⟩,q⟩
end
section
variable{X:Cx}{pos:Pos}
def a3o(c:TT)(tb:TS):TS:=λD σ H=>∃W:Nat->St->Hp->Prop,(∃m,W m σ H)/\∀m σ H,W m σ H ->
 c σ H λb H1=>if b=ZW then ∃N:St->Hp->Prop,(∀σ' H',N σ' H'->∃m',m'<m/\W m' σ' H')/\tb { D with nx:=N,ct:=N,bk:=D.nx } σ H1 else D.nx σ H1
theorem awm(hp:uE 'D' X.A X.env X.xe)(hc:PT X c tc)(hb:PSs X body tb):PS X (.While c body [] pos) (a3o tc tb):=by
 intro zv s σ H D I h;obtain⟨W,⟨m0,w0⟩,turn⟩:=h;refine wpAny_While (codeAny_whileLoop (λn s'=>∃σ' H',Inv X zv σ' H' s'/\W n σ' H') ?_ m0 ⟨σ,H,I,w0⟩)
 rintro n s1 ⟨σ1,H1,I1,w1⟩
 refine wpAny_passesOwn hp (thn (hc zv s1 σ1 H1 _ I1 (turn n σ1 H1 w1)) λb s2 ⟨H2,I2,q2⟩=>?_)
 cases b with
 |true=>
  obtain⟨N,hN,q2⟩:=q2;rw[if_pos rfl];refine wpAny_passesOwn hp (thn (hb zv s2 σ1 H2 _ I2 q2) λf s3 q3=>?_)
  cases f with
  |next=>
   obtain⟨σ3,H3,I3,n3⟩:=q3;obtain⟨m',hm,w3⟩:=hN σ3 H3 n3;exact⟨m',hm,σ3,H3,I3,w3⟩
  |cont=>
   obtain⟨σ3,H3,I3,n3⟩:=q3;obtain⟨m',hm,w3⟩:=hN σ3 H3 n3;exact⟨m',hm,σ3,H3,I3,w3⟩
  |brk=>exact q3
  |ret v=>exact q3
 |false=>
  rw[if_neg cM];exact wpAny_execs_nil ⟨σ1,H2,I2,q2⟩
end
structure It where
 go:Nat->Hp->Prop
 yld:Nat->Hp->V->Hp->Prop
 stop:Nat->Hp->Prop
def FpOk(X:Cx)(zv:List (bB×Obj))(H:Hp)(b:bB):Prop :=
 H b=ZX/\b≠X.env.locals/\b∉X.fs/\(b∈X.ex∨X.s₀.heap.objs.size<=b)/\(∀x c,X.env.cells.lookup x=ZY c->c≠b)/\∀p∈X.pn++zv,p.1≠b
def Inv.fpOk(I:Inv X zv σ H s)(hb:s.heap.objs.size<=b)(hn:H' b=ZX):FpOk X zv H' b:=by
 refine⟨hn,gP (bN I.lt hb),I.nofs hb,.inr (bV I.sz hb),λx c e z=>?_,λp hp z=>?_⟩
 ·obtain⟨v,q⟩:=I.cell x c e;exact absurd (bN q.lt (by rw[z];exact hb)) (iG _)
 ·exact absurd (bN (aO (I.pin p hp).1) (by rw[z];exact hb)) (iG _)
structure Turn (P:cF) (w:dX) (K:Fg9) (tg:fP) (J:It) (fp:List bB) (it:bB) (tn:Nat->iK->Prop):Prop where
 mem:it∈fp
 obj:∀i h,tn i h->∀b∈fp,∃o,h.get? b=ZY o/\∀v,o.data≠.cell v
 keep:∀i h h',tn i h->(∀b∈fp,∀o,h.get? b=ZY o->h'.get? b=ZY o)->tn i h'
 item:∀(X:Cx),X.prog=P->X.w=w->X.K=K->X.calm=ZW->∀(i:Nat) (zv:List (bB×Obj)) (s:aN) (σ:St) (H:Hp) (E:aH->aN->Prop),Inv X zv σ H s->(∀b∈fp,FpOk X zv H b)->tn i s.heap->J.go i H ->
  bD (bT P w) X.A (nF (.ref it)) (λr s1=>∃u,r=ZY u /\
   bD (bT P w) X.A (letOwnedTupleGo tg (.ref it) u) (λ_ s2=>∃x H',Inv X zv σ H' s2/\RelV x u/\J.yld i H x H'/\tn (i+1) s2.heap/\∀b∈fp,H' b=ZX) E s1) E s
 done:∀(X:Cx),X.prog=P->X.w=w->X.K=K->X.calm=ZW->∀(i:Nat) (zv:List (bB×Obj)) (s:aN) (σ:St) (H:Hp) (E:aH->aN->Prop),Inv X zv σ H s->(∀b∈fp,FpOk X zv H b)->tn i s.heap->J.stop i H ->
  bD (bT P w) X.A (nF (.ref it)) (λr s1=>r=ZX/\Inv X zv σ H s1) E s
 self:∀(A:dG) (i:Nat) (s:aN) (Q:aH->aN->Prop) (E:aH->aN->Prop),tn i s.heap->Q (.ref it) s->bD (bT P w) A (pyIter (.ref it)) Q E s
abbrev TI:=St->Hp->(It->Hp->Prop)->Prop
def PIE(X:Cx)(zv:List (bB×Obj))(σ:St)(tg:fP)(R:It->Hp->Prop)(itv:aH)(s2:aN):Prop :=
 ∃(it:bB) (fp:List bB) (tn:Nat->iK->Prop) (J:It) (H':Hp),itv=.ref it/\Inv X zv σ H' s2/\Turn X.prog X.w X.K tg J fp it tn/\tn 0 s2.heap/\(∀b∈fp,FpOk X zv H' b)/\R J H'
def PI(X:Cx)(tg iter:fP)(wi:TI):Prop :=
 ∀(zv:List (bB×Obj)) (s:aN) (σ:St) (H:Hp) (R:It->Hp->Prop),Inv X zv σ H s->wi σ H R ->
  bD 'D' X.A (eval iter X.env) (λv s1=>bD 'D' X.A (pyIter v) (PIE X zv σ tg R) X.xe s1) X.xe s
def a1p(ho:s.heap.get? it=ZY o)(hc:o.cls=.type n)(hd:o.data=.fields vs)
  (hn:["enumerate","zip","dict_itemiterator","dict_reverseitemiterator","odict_iterator","itertools.zip_longest","itertools.pairwise"].contains n=ZV) (hQ:Q () s):bD M A (letOwnedTupleGo tg (.ref it) u) Q E s:=by
 unfold letOwnedTupleGo;cases tg <;> first
  |exact aF hQ
  | (cases u <;> first
    |exact aF hQ
    | (refine aA (wpAny_load ho ?_)
       rw[hc,hd];show bD M A (if (["enumerate","zip","dict_itemiterator","dict_reverseitemiterator","odict_iterator","itertools.zip_longest","itertools.pairwise"].contains n&&vs[0]? == ZY (iZ _))=ZW then _ else _) Q E s
       rw[if_neg (by intro h;rw[hn,rK] at h;cases h)]
       exact aF hQ))
def Itl(K:Fg9)(a:bB):It :=
 ⟨λi H=>∃xs x,SqL K H a xs/\xs[i]? = ZY x,λi H x H'=>H'=H/\∀xs,SqL K H a xs->xs[i]? = ZY x,λi H=>∃xs,SqL K H a xs/\xs.length<=i⟩
def Itt(K:Fg9)(a:bB):It :=
 ⟨λi H=>∃xs x,SqT K H a xs/\xs[i]? = ZY x,λi H x H'=>H'=H/\∀xs,SqT K H a xs->xs[i]? = ZY x,λi H=>∃xs,SqT K H a xs/\xs.length<=i⟩
def Itr(lo:Int)(n:Nat):It:=⟨λi _=>i<n,λi H x H'=>H'=H/\x=.int (lo+i),λi _=>n<=i⟩
def arj{P:cF}{w:dX}{K:Fg9}{tg:fP}(a it:bB):Turn P w K tg (Itl K a) [it] it (λi h=>h.IsListIter it a i) where
 mem:=by simp
 obj:=λi h st b hb=>by
  have e:b=it:=by simpa using hb
  subst e;obtain⟨o,e,c,d⟩:=st;exact⟨o,e,λv z=>by rw[d] at z;cases z⟩
 keep:=λi h h' st k=>st.at λo e=>k it (by simp) o e
 item:=by
  intro X hP hw hK hc i zv s σ H E I hf st hg;subst hP hw hK;obtain⟨xs,x,hq,hx⟩:=hg;obtain⟨its,rv,p,hz⟩:=I.list hq;obtain⟨u,hu,ru⟩:=rv.get hx;obtain⟨f0,f1,f2,f3,f4,f5⟩:=hf it (by simp)
  refine wpAny_pyNext_list_item st p.isList (x:=u) (by simpa using hu) λh' st' sb=>?_
  have I1:Inv X zv σ H { s with heap:=h' }:=I.turned (t':=s.toks) (λb o hb e=>(sb.2 b hb).trans e) f0 f1 f3 f4 f5
  obtain⟨o,e,c,d⟩:=id st';exact⟨u,rfl,a1p (s:={ s with heap:=h' }) e c d (by decide) ⟨x,H,I1,ru,⟨rfl,λys hy=>by rw[I.list_inj hy hq];exact hx⟩,st',λb hb=>(hf b hb).1⟩⟩
 done:=by
  intro X hP hw hK hc i zv s σ H E I hf st hg;subst hP hw hK;obtain⟨xs,hq,hx⟩:=hg;obtain⟨its,rv,p,hz⟩:=I.list hq;obtain⟨f0,f1,f2,f3,f4,f5⟩:=hf it (by simp)
  have hl:=rv.length;exact wpAny_pyNext_list_end (I.ok.hd hc) st p.isList (by simp;omega) λh' eb=>⟨rfl,I.turned (t':=s.toks) (λb o hb e=>eb b o hb e) f0 f1 f3 f4 f5⟩
 self:=λ_ _ _ _ _ st h=>wpAny_pyIter_listiter st h
def apt{P:cF}{w:dX}{K:Fg9}{tg:fP}(a it:bB):Turn P w K tg (Itt K a) [it] it (λi h=>h.IsTupleIter it a i) where
 mem:=by simp
 obj:=λi h st b hb=>by
  have e:b=it:=by simpa using hb
  subst e;obtain⟨o,e,c,d⟩:=st;exact⟨o,e,λv z=>by rw[d] at z;cases z⟩
 keep:=λi h h' st k=>st.at λo e=>k it (by simp) o e
 item:=by
  intro X hP hw hK hc i zv s σ H E I hf st hg;subst hP hw hK;obtain⟨xs,x,hq,hx⟩:=hg;obtain⟨its,rv,p,hz⟩:=I.tuple hq;obtain⟨u,hu,ru⟩:=rv.get hx;obtain⟨f0,f1,f2,f3,f4,f5⟩:=hf it (by simp)
  refine wpAny_pyNext_tuple_item st (show s.heap.IsTuple a its.toArray from p) (x:=u) (by simpa using hu) λh' st' sb=>?_
  have I1:Inv X zv σ H { s with heap:=h' }:=I.turned (t':=s.toks) (λb o hb e=>(sb.2 b hb).trans e) f0 f1 f3 f4 f5
  obtain⟨o,e,c,d⟩:=id st';exact⟨u,rfl,a1p (s:={ s with heap:=h' }) e c d (by decide) ⟨x,H,I1,ru,⟨rfl,λys hy=>by rw[I.tuple_inj hy hq];exact hx⟩,st',λb hb=>(hf b hb).1⟩⟩
 done:=by
  intro X hP hw hK hc i zv s σ H E I hf st hg;subst hP hw hK;obtain⟨xs,hq,hx⟩:=hg;obtain⟨its,rv,p,hz⟩:=I.tuple hq;obtain⟨f0,f1,f2,f3,f4,f5⟩:=hf it (by simp)
  have hl:=rv.length;exact wpAny_pyNext_tuple_end (I.ok.hd hc) st (show s.heap.IsTuple a its.toArray from p) (by simp;omega) λh' eb=>⟨rfl,I.turned (t':=s.toks) (λb o hb e=>eb b o hb e) f0 f1 f3 f4 f5⟩
 self:=λ_ _ _ _ _ st h=>wpAny_pyIter_tupleiter st h
def apu{P:cF}{w:dX}{K:Fg9}{tg:fP}(it:bB)(lo:Int)(n:Nat):Turn P w K tg (Itr lo n) [it] it (λi h=>IsRangeIter h it (lo+(i:Nat)*1) ((n:Int)-(i:Nat)) 1) where
 mem:=by simp
 obj:=λi h st b hb=>by
  have e:b=it:=by simpa using hb
  subst e;exact⟨_,st,λv z=>by
   have z':Data.fields _=Data.cell v:=z;cases z'⟩
 keep:=λi h h' st k=>k it (by simp) _ st
 item:=by
  intro X hP hw hK hc i zv s σ H E I hf st hg;subst hP hw hK;obtain⟨f0,f1,f2,f3,f4,f5⟩:=hf it (by simp)
  have W:=Walks.range (prog:=X.prog) (w:=X.w) (I.ok.hd hc) it lo 1 n;refine W.item i s _ _ hg st λv h' tk hv st' kk=>?_
  obtain⟨t,rfl⟩:=hv;have I1:Inv X zv σ H { s with heap:=h',toks:=tk }:=I.turned (λb o hb e=>kk b o (by simpa using hb) e) f0 f1 f3 f4 f5
  refine⟨_,rfl,a1p (s:={ s with heap:=h',toks:=tk }) (n := "range_iterator") st' rfl rfl (by decide) ⟨.int (lo+i),H,I1,⟨t,?_⟩,⟨rfl,rfl⟩,st',λb hb=>(hf b hb).1⟩⟩
  rw[Int.mul_one]
 done:=by
  intro X hP hw hK hc i zv s σ H E I hf st hg;subst hP hw hK;obtain⟨f0,f1,f2,f3,f4,f5⟩:=hf it (by simp)
  exact wpAny_pyNext_range_end (I.ok.hd hc) st (by have:n<=i:=hg;omega) λh' eb=>⟨rfl,I.turned (t':=s.toks) (λb o hb e=>eb b o hb e) f0 f1 f3 f4 f5⟩
 self:=λ_ _ _ _ _ st h=>wpAny_pyIter_rangeiter st h
section
variable{X:Cx}{tg:fP}
def a94(K:Fg9)(tl:TE):TI:=λσ H R=>tl σ H λx H1=>∃a,x=.ref a/\(∃xs,SqL K H1 a xs)/\R (Itl K a) H1
def iTup(K:Fg9)(tl:TE):TI:=λσ H R=>tl σ H λx H1=>∃a,x=.ref a/\(∃xs,SqT K H1 a xs)/\R (Itt K a) H1
def asq{l:fP}{tl:TE}(hl:PE X l tl):PI X tg l (a94 X.K tl):=by
 intro zv s σ H R I h;refine thn (hl zv s σ H _ I h) λv s1 ⟨x,H1,I1,r1,q1⟩=>?_
 obtain⟨a,e,⟨xs,hq⟩,q⟩:=q1;subst e;cases r1;obtain⟨its,rv,p,hz⟩:=I1.list hq;refine wpAny_pyIter_list p.isList ?_;refine⟨s1.heap.objs.size,[s1.heap.objs.size],_,_,H1,rfl,I1.kept (t':=s1.toks) λb o e=>aB _ e,arj a _,⟨_,aM _ rfl,rfl,rfl⟩,λb hb=>?_,q⟩
 have e:b=s1.heap.objs.size:=by simpa using hb
 subst e;exact I1.fpOk (aL _) (I1.hok.fresh (aL _))
def a4q{l:fP}{tl:TE}(hl:PE X l tl):PI X tg l (iTup X.K tl):=by
 intro zv s σ H R I h;refine thn (hl zv s σ H _ I h) λv s1 ⟨x,H1,I1,r1,q1⟩=>?_
 obtain⟨a,e,⟨xs,hq⟩,q⟩:=q1;subst e;cases r1;obtain⟨its,rv,p,hz⟩:=I1.tuple hq;refine wpAny_pyIter_tuple (show s1.heap.IsTuple a its.toArray from p) ?_
 refine⟨s1.heap.objs.size,[s1.heap.objs.size],_,_,H1,rfl,I1.kept (t':=s1.toks) λb o e=>aB _ e,apt a _,⟨_,aM _ rfl,rfl,rfl⟩,λb hb=>?_,q⟩
 have e:b=s1.heap.objs.size:=by simpa using hb
 subst e;exact I1.fpOk (aL _) (I1.hok.fresh (aL _))
def aog{zv:List (bB×Obj)}{σ:St}{H:Hp}{s:aN}{R:It->Hp->Prop}{E:aH->aN->Prop}{lo hi:Int}{t u v:Tok}{tk:Nat}(I:Inv X zv σ H s)(h1 : -(2 ^ 62)<=lo)(h2:lo<2 ^ 62)(h3 : -(2 ^ 62)<=hi)(h4:hi<2 ^ 62)
  (q:R (Itr lo (hi-lo).toNat) H):bD 'D' X.A (pyIter (.ref s.heap.objs.size)) (PIE X zv σ tg R) E { s with heap:=s.heap.push { cls:=.type "range", data:=.fields #[.int lo t,.int hi u,.int 1 v] },toks:=tk }:=by
 refine wpAny_pyIter_range (IsRange.new ..) (small_one h1 h2 h3 h4) ?_;have I1:Inv X zv σ H { s with heap:=s.heap.push { cls:=.type "range", data:=.fields #[.int lo t,.int hi u,.int 1 v] },toks:=tk }:=I.kept λb o e=>aB _ e
 refine⟨(s.heap.push { cls:=.type "range", data:=.fields #[.int lo t,.int hi u,.int 1 v] }).objs.size,[(s.heap.push { cls:=.type "range", data:=.fields #[.int lo t,.int hi u,.int 1 v] }).objs.size],_,_,H,rfl,
  I1.kept (t':=tk) λb o e=>aB _ e,apu _ lo (hi-lo).toNat,?_,λb hb=>?_,q⟩
 ·have e1:lo+((0:Nat):Int)*1=lo:=by simp
  have e2:(((hi-lo).toNat:Nat):Int)-((0:Nat):Int)=Builtin.Range.rangeSize lo hi 1:=by rw[rangeSize_one];split <;> omega
  show IsRangeIter _ _ (lo+((0:Nat):Int)*1) ((((hi-lo).toNat:Nat):Int)-((0:Nat):Int)) 1;rw[e1,e2];exact aM _ rfl
 ·have e:b=(s.heap.push { cls:=.type "range", data:=.fields #[.int lo t,.int hi u,.int 1 v] }).objs.size:=by simpa using hb
  subst e;exact I1.fpOk (aL _) (I1.hok.fresh (aL _))
def a93(ta:TA):TI:=λσ H R=>ta σ H λvs H1=>∃j:Int,vs=[.int j] /\ -(2 ^ 62)<=j/\j<2 ^ 62/\R (Itr 0 j.toNat) H1
def a92(ta:TA):TI:=λσ H R=>ta σ H λvs H1=>∃i j:Int,vs=[.int i,.int j]/\(-(2 ^ 62)<=i/\i<2 ^ 62 /\ -(2 ^ 62)<=j/\j<2 ^ 62)/\R (Itr i (j-i).toNat) H1
theorem asp{a:fP}{ta:TA}{p pos:Pos}(hg:Gl X "range")(hm:X.mg "range"=ZX)(ha:PA X [a] ta)(hs:aQ [a] X.env=[(ZV,eval a X.env)]:=by rfl):PI X tg (.Call (.Name "range" p) [a] [] pos) (a93 ta):=by
 intro zv s σ H R I h;refine Call_ (af2 I hg hm boot_range (jD (thn (ha pos zv s σ H _ I h) λus s1 ⟨vs,H1,I1,r1,q1⟩=>?_) hs rfl))
 obtain⟨j,e,q1,q2,q⟩:=q1;subst e;cases r1 with
 |cons r rr=>
  cases rr;obtain⟨t,rfl⟩:=r;exact call_range_1 (aog I1 (by omega) (by omega) q1 q2 (by simpa using q))
theorem aso(hg:Gl X "range")(hm:X.mg "range"=ZX)(ha:PA X [a,b] ta)(hs:aQ [a,b] X.env=[(ZV,eval a X.env),(ZV,eval b X.env)]:=by rfl)(hs2:aQ [b] X.env=[(ZV,eval b X.env)]:=by rfl) :
  PI X tg (.Call (.Name "range" p) [a,b] [] pos) (a92 ta):=by
 intro zv s σ H R I h;refine Call_ (af2 I hg hm boot_range (jD (thn (ha pos zv s σ H _ I h) λus s1 ⟨vs,H1,I1,r1,q1⟩=>?_) (by rw[hs,hs2]) (by rw[hs2];rfl)))
 obtain⟨i,j,e,⟨q1,q2,q3,q4⟩,q⟩:=q1;subst e;cases r1 with
 |cons r rr=>
  cases rr with
  |cons r' rr=>
   cases rr;obtain⟨t,rfl⟩:=r;obtain⟨t',rfl⟩:=r';exact call_range_2 (aog I1 q1 q2 q3 q4 q)
def tFor(wi:TI)(g:TG)(tb:TS):TS:=λD σ H=>wi σ H λJ H1=>∃W:Nat->Nat->St->Hp->Prop,(∃m,W 0 m σ H1)/\∀i m σ H,W i m σ H ->
 (J.stop i H/\D.nx σ H)∨(J.go i H/\∃N:St->Hp->Prop,(∀σ' H',N σ' H'->∃m',m'<m/\W (i+1) m' σ' H')/\∀x H',J.yld i H x H'->g x σ H' λσ2 H2=>tb { D with nx:=N,ct:=N,bk:=D.nx } σ2 H2)
def ak0(fp:List bB)(h:iK):List (bB×Obj):=fp.filterMap λb=>(h.get? b).map λo=>(b,o)
def acx(hb:b∈fp)(e:h.get? b=ZY o):(b,o)∈ak0 fp h:=xY.mpr ⟨b,hb,by rw[e];rfl⟩
theorem as4(hp:p∈ak0 fp h):p.1∈fp/\h.get? p.1=ZY p.2:=by
 obtain⟨b,hb,e⟩:=xY.mp hp;cases q:h.get? b with
 |none=>rw[q] at e;cases e
 |some o=>
  rw[q] at e;have e':(b,o)=p:=bJ e;subst e';exact⟨hb,q⟩
def Inv.pinned(I:Inv X zv σ H s)(hf:∀b∈fp,FpOk X zv H b)(ho:∀b∈fp,∃o,s.heap.get? b=ZY o/\∀v,o.data≠.cell v):Inv X (zv++ak0 fp s.heap) σ H s :=
 I.pins_of λp hp=>(dC.mp hp).elim (λz=>I.pin p (bO _ z)) λz=>by
  obtain⟨hb,e⟩:=as4 z;obtain⟨f0,f1,f2,_⟩:=hf p.1 hb;obtain⟨o,e',d⟩:=ho p.1 hb;rw[e] at e';cases e';exact⟨e,f0,f1,f2,d⟩
def Inv.unpinned(I:Inv X (zv++pl) σ H s):Inv X zv σ H s:=I.pins_of λp hp=>I.pin p (bO _ (gK _ hp))
def ayp(hp:uE 'D' X.A X.env X.xe)(hc:X.calm=ZW)(hi:PI X tg iter wi)(hg:PG X tg g)(hb:PSs X body tb)
  (hs:∀x,gC iter X.env x=pure x:=by intro _;rfl):PS X (.For tg iter body [] pos) (tFor wi g tb):=by
 intro zv s σ H D I h;refine wpAny_For (thn (hi zv s σ H _ I h) λv s1 h1=>thn h1 λitv s2 h2=>?_) hs
 obtain⟨it,fp,tn,J,H2,e,I2,T,st2,f2,W,⟨m0,w0⟩,turn⟩:=h2;subst e;have stat:∀{H':Hp},(∀b∈fp,H' b=ZX)->∀b∈fp,FpOk X zv H' b:=λhn b hb=>⟨hn b hb,(f2 b hb).2⟩
 refine codeAny_forLoop_any (λn s'=>∃i σ' H',Inv X zv σ' H' s'/\tn i s'.heap/\(∀b∈fp,H' b=ZX)/\W i n σ' H') ?_ m0 ⟨0,σ,H2,I2,st2,λb hb=>(f2 b hb).1,w0⟩
 rintro n s3 ⟨i,σ3,H3,I3,st3,fr3,w3⟩
 rcases turn i n σ3 H3 w3 with⟨stop,qn⟩ |⟨go,N,hN,step⟩
 ·refine wpAny_passesOwn hp (thn (T.done X rfl rfl rfl hc i zv s3 σ3 H3 X.xe I3 (stat fr3) st3 stop) λr s4 ⟨hr,I4⟩=>?_)
  subst hr;exact wpAny_execs_nil ⟨σ3,H3,I4,qn⟩
 ·refine wpAny_passesOwn hp (thn (T.item X rfl rfl rfl hc i zv s3 σ3 H3 X.xe I3 (stat fr3) st3 go) λr s4 ⟨u,hr,h4⟩=>?_)
  subst hr;refine wpAny_passesOwn hp (thn h4 λ_ s5 ⟨x,H5,I5,r5,y5,st5,fr5⟩=>?_)
  have I5':=I5.pinned (stat fr5) (T.obj _ _ st5);refine wpAny_passesOwn hp (thn (hg _ s5 σ3 H5 x u _ I5' r5 (step x H5 y5)) λ_ s6 ⟨σ6,H6,I6,q6⟩=>?_)
  refine wpAny_passesOwn hp (thn (hb _ s6 σ6 H6 _ I6 q6) λf s7 q7=>?_)
  have again:∀{σ7:St} {H7:Hp},Inv X (zv++ak0 fp s5.heap) σ7 H7 s7->N σ7 H7->∃m,m<n/\∃i σ' H',Inv X zv σ' H' s7/\tn i s7.heap/\(∀b∈fp,H' b=ZX)/\W i m σ' H':=λ{σ7 H7} I7 n7=>by
   obtain⟨m',hm,w7⟩:=hN σ7 H7 n7;refine⟨m',hm,i+1,σ7,H7,I7.unpinned,T.keep _ _ _ st5 λb hb o e=>(I7.pin (b,o) (bO _ (bO _ (acx hb e)))).1,λb hb=>?_,w7⟩
   obtain⟨o,e,d⟩:=T.obj _ _ st5 b hb;exact(I7.pin (b,o) (bO _ (bO _ (acx hb e)))).2.1
  cases f with
  |next=>obtain⟨σ7,H7,I7,n7⟩:=q7;exact again I7 n7
  |cont=>obtain⟨σ7,H7,I7,n7⟩:=q7;exact again I7 n7
  |brk=>obtain⟨σ7,H7,I7,q7⟩:=q7;exact⟨σ7,H7,I7.unpinned,q7⟩
  |ret v=>obtain⟨x7,σ7,H7,I7,r7,q7⟩:=q7;exact⟨x7,σ7,H7,I7.unpinned,r7,q7⟩
end
abbrev R2:=V->V->Hp->VK->Prop
def OpR(X:Cx)(f:aH->aH->Sem aH)(r:R2):Prop :=
 ∀(zv:List (bB×Obj)) (s:aN) (σ:St) (H:Hp) (x y:V) (v u:aH) (Q:VK),Inv X zv σ H s->RelV x v->RelV y u->r x y H Q ->
  bD 'D' X.A (f v u) (EP X zv σ Q) X.xe s
def UnR(X:Cx)(f:aH->Sem aH)(r:V->Hp->VK->Prop):Prop :=
 ∀(zv:List (bB×Obj)) (s:aN) (σ:St) (H:Hp) (x:V) (v:aH) (Q:VK),Inv X zv σ H s->RelV x v->r x H Q ->
  bD 'D' X.A (f v) (EP X zv σ Q) X.xe s
def abx(X:Cx)(f:aH)(r:List V->Hp->VK->Prop):Prop :=
 ∀(zv:List (bB×Obj)) (s:aN) (σ:St) (H:Hp) (xs:List V) (us:List aH) (Q:VK),Inv X zv σ H s->Vals xs us->r xs H Q ->
  bD 'D' X.A (call f us) (EP X zv σ Q) X.xe s
def tOp(r:R2)(ta tb:TE):TE:=λσ H Q=>ta σ H λx H1=>tb σ H1 λy H2=>r x y H2 Q
def tUn(r:V->Hp->VK->Prop)(ta:TE):TE:=λσ H Q=>ta σ H λx H1=>r x H1 Q
def rI(C:Int->Int->Prop)(g:Int->Int->V):R2:=λx y H Q=>∃i j,x=.int i/\y=.int j/\C i j/\Q (g i j) H
def rI0(g:Int->Int->V):R2:=λx y H Q=>∃i j,x=.int i/\y=.int j/\Q (g i j) H
def rU(g:Int->V):V->Hp->VK->Prop:=λx H Q=>∃i,x=.int i/\Q (g i) H
section
variable{X:Cx}{a b c:fP}{ta tb tc:TE}{pos:Pos}
def binT(ha:PE X a ta)(hb:PE X b tb){zv:List (bB×Obj)}{s:aN}{σ:St}{H:Hp}{R:V->V->Hp->Prop}(I:Inv X zv σ H s)
  (h:ta σ H λx H1=>tb σ H1 λy H2=>R x y H2) {Q:aH->aN->Prop} {f:aH->aH->Sem aH}
  (hf:∀v u s2 x y H2,Inv X zv σ H2 s2->RelV x v->RelV y u->R x y H2->bD 'D' X.A (f v u) Q X.xe s2) :
  bD 'D' X.A (eval a X.env) (λv s₁=>bD 'D' X.A (eval b X.env) (λu s₂=>bD 'D' X.A (f v u) Q X.xe s₂) X.xe s₁) X.xe s:=by
 refine thn (ha zv s σ H _ I h) λv s1 ⟨x,H1,I1,r1,q1⟩=>?_
 refine thn (hb zv s1 σ H1 _ I1 q1) λu s2 ⟨y,H2,I2,r2,q2⟩=>?_
 exact hf v u s2 x y H2 I2 r1 r2 q2
def a87{op:Operator}{r:R2}(ho:OpR X (fB op) r)(ha:PE X a ta)(hb:PE X b tb):PE X (.BinOp a op b pos) (tOp r ta tb):=by
 intro zv s σ H Q I h;exact wpAny_BinOp (binT ha hb I h λv u s2 x y H2 I2 rx ry q=>ho zv s2 σ H2 x y v u Q I2 rx ry q)
def a86(ho:UnR X (unaryOp op) r)(ha:PE X a ta):PE X (.UnaryOp op a pos) (tUn r ta):=by
 intro zv s σ H Q I h;exact UnaryOp_ (thn (ha zv s σ H _ I h) λv s1 ⟨x,H1,I1,r1,q1⟩=>ho zv s1 σ H1 x v Q I1 r1 q1)
def opI{f:aH->aH->Sem aH}{C:Int->Int->Prop}{g:Int->Int->Int}
  (rule:∀(i j:Int) (t u:Tok) (s:aN) (Q:aH->aN->Prop) (E:aH->aN->Prop),C i j->Q (.int (g i j) s.toks) { s with toks:=s.toks+1 }->bD 'D' X.A (f (.int i t) (.int j u)) Q E s) :
  OpR X f (rI C λi j=>.int (g i j)):=by
 intro zv s σ H x y v u Q I rx ry h;obtain⟨i,j,rfl,rfl,hc,q⟩:=h;obtain⟨t,rfl⟩:=rx;obtain⟨t',rfl⟩:=ry;exact rule i j t t' s _ _ hc ⟨.int (g i j),H,I.tok _,⟨_,rfl⟩,q⟩
def opI0{f:aH->aH->Sem aH}{g:Int->Int->Int}
  (rule:∀(i j:Int) (t u:Tok) (s:aN) (Q:aH->aN->Prop) (E:aH->aN->Prop),Q (.int (g i j) s.toks) { s with toks:=s.toks+1 }->bD 'D' X.A (f (.int i t) (.int j u)) Q E s) :
  OpR X f (rI0 λi j=>.int (g i j)):=by
 intro zv s σ H x y v u Q I rx ry h;obtain⟨i,j,rfl,rfl,q⟩:=h;obtain⟨t,rfl⟩:=rx;obtain⟨t',rfl⟩:=ry;exact rule i j t t' s _ _ ⟨.int (g i j),H,I.tok _,⟨_,rfl⟩,q⟩
def opB0{f:aH->aH->Sem aH}{g:Int->Int->Bool}
  (rule:∀(i j:Int) (t u:Tok) (s:aN) (Q:aH->aN->Prop) (E:aH->aN->Prop),Q (.bool (g i j)) s->bD 'D' X.A (f (.int i t) (.int j u)) Q E s) :
  OpR X f (rI0 λi j=>.bl (g i j)):=by
 intro zv s σ H x y v u Q I rx ry h;obtain⟨i,j,rfl,rfl,q⟩:=h;obtain⟨t,rfl⟩:=rx;obtain⟨t',rfl⟩:=ry;exact rule i j t t' s _ _ ⟨.bl (g i j),H,I,rfl,q⟩
def CPow(i j:Int):Prop:=0<=j/\j<=1000000/\i.natAbs<2 ^ 64
def CMul(i j:Int):Prop:=(-(2 ^ 64)<i/\i<2 ^ 64)∨(-(2 ^ 64)<j/\j<2 ^ 64)
def CMul.ok(h:CMul i j):IntMulOk i j:=by
 rcases h with⟨h1,h2⟩ |⟨h1,h2⟩
 ·exact .of_left (intBits_le_64 h1 h2)
 ·exact .of_right (intBits_le_64 h1 h2)
def a5m:OpR X (fB .Add) (rI0 λi j=>.int (i+j)):=opI0 λ_ _ _ _ _ _ _ q=>add_int q
def a5g:OpR X (fB .Sub) (rI0 λi j=>.int (i-j)):=opI0 λ_ _ _ _ _ _ _ q=>sub_int q
def a5j:OpR X (fB .Mult) (rI CMul λi j=>.int (i*j)):=opI λ_ _ _ _ _ _ _ hc q=>mul_int q hc.ok
def a5k:OpR X (fB .Mod) (rI (λ_ j=>0<j) λi j=>.int (i % j)):=opI λi j _ _ _ _ _ hc q=>by
 have h1:(0:Int)<j:=hc;exact mod_int' (by omega) (by rw[uR i (by omega)];exact q)
def a5i:OpR X (fB .Pow) (rI CPow λi j=>.int (i ^ j.toNat)):=opI λ_ _ _ _ _ _ _ hc q=>pow_int_small hc.1 hc.2.1 hc.2.2 q
def unI{f:aH->Sem aH}{g:Int->Int}
  (rule:∀(i:Int) (t:Tok) (s:aN) (Q:aH->aN->Prop) (E:aH->aN->Prop),Q (.int (g i) s.toks) { s with toks:=s.toks+1 }->bD 'D' X.A (f (.int i t)) Q E s) :
  UnR X f (rU λi=>.int (g i)):=by
 intro zv s σ H x v Q I rx h;obtain⟨i,rfl,q⟩:=h;obtain⟨t,rfl⟩:=rx;exact rule i t s _ _ ⟨.int (g i),H,I.tok _,⟨_,rfl⟩,q⟩
def a3i:UnR X (unaryOp .USub) (rU λi=>.int (-i)):=unI λ_ _ _ _ _ q=>neg_int q
end
section
variable{X:Cx}{a b c:fP}{ta tb tc:TE}{pos:Pos}
def a9b:OpR X (gD .Lt) (rI0 λi j=>.bl (decide (i<j))):=opB0 λ_ _ _ _ _ _ _ q=>lt_int q
def aw0:OpR X (gD .LtE) (rI0 λi j=>.bl (decide (i<=j))):=opB0 λ_ _ _ _ _ _ _ q=>le_int q
def a9c:OpR X (gD .Gt) (rI0 λi j=>.bl (decide (j<i))):=opB0 λ_ _ _ _ _ _ _ q=>gt_int q
def a9d:OpR X (gD .GtE) (rI0 λi j=>.bl (decide (j<=i))):=opB0 λ_ _ _ _ _ _ _ q=>ge_int q
noncomputable def jc(b:fP)(h:op≠.In:=by decide)(h2:op≠.NotIn:=by decide):jJ op b=ZV:=by
 have e1:(op==CmpOp.In)=ZV:=by cases op <;> first |rfl |exact absurd rfl h
 have e2:(op==CmpOp.NotIn)=ZV:=by cases op <;> first |rfl |exact absurd rfl h2
 cases b <;> simp[jJ,e1,e2]
def a0v{op:CmpOp}{r:R2}(ho:OpR X (gD op) r)(ha:PE X a ta)(hb:PE X b tb)(hm:jJ op b=ZV):PE X (.Compare a [op] [b] pos) (tOp r ta tb):=by
 intro zv s σ H Q I h;exact wpAny_Compare1 (binT ha hb I h λv u s2 x y H2 I2 rx ry q=>ho zv s2 σ H2 x y v u Q I2 rx ry q) hm
def a8q(t:TE):TT:=λσ H Q=>t σ H λx H'=>∃k,x=.bl k/\Q k H'
def a0e(ho:OpR X (gD op) r)(ha:PE X a ta)(hb:PE X b tb)(hm:jJ op b=ZV):PT X (.Compare a [op] [b] pos) (a8q (tOp r ta tb)):=by
 intro zv s σ H Q I h;refine wpAny_isTrue_Compare1 (thn (ha zv s σ H _ I h) λv s1 ⟨x,H1,I1,r1,q1⟩=>thn (hb zv s1 σ H1 _ I1 q1) λu s2 ⟨y,H2,I2,r2,q2⟩=>
  thn (ho zv s2 σ H2 x y v u _ I2 r1 r2 q2) λc s3 ⟨z,H3,I3,r3,k,e,q3⟩=>?_) hm
 subst e;cases r3;exact gW ⟨H3,I3,q3⟩
def ayk(r r':R2)(ta tb tc:TE):TE:=λσ H Q=>ta σ H λx H1=>tb σ H1 λy H2=>r x y H2 λz H3=>∃k,z=.bl k /\
 (if k=ZW then tc σ H3 λw' H4=>r' y w' H4 Q else Q (.bl ZV) H3)
theorem awu(ho:OpR X (gD op) r)(ho':OpR X (gD op') r')(ha:PE X a ta)(hb:PE X b tb)(hc:PE X c tc)
  (hm:lastMarks [op,op'] [b,c]=ZV:=by with_unfolding_all rfl):PE X (.Compare a [op,op'] [b,c] pos) (ayk r r' ta tb tc):=by
 intro zv s σ H Q I h;refine Compare_chain (thn (ha zv s σ H _ I h) λv s1 ⟨x,H1,I1,r1,q1⟩=>chain_link (thn (hb zv s1 σ H1 _ I1 q1) λu s2 ⟨y,H2,I2,r2,q2⟩=>
  thn (ho zv s2 σ H2 x y v u _ I2 r1 r2 q2) λd s3 ⟨z,H3,I3,r3,k,e,q3⟩=>?_)) hm
 subst e;cases r3;refine gW ?_;cases k with
 |false=>exact ite_ff ⟨.bl ZV,H3,I3,rfl,q3⟩
 |true=>exact ite_tt (chain_last (thn (hc zv s3 σ H3 _ I3 q3) λw' s4 ⟨z',H4,I4,r4,q4⟩=>ho' zv s4 σ H4 y z' u w' Q I4 r2 r4 q4))
def alg:(cU:Nat)<2 ^ 63:=by rw[jR];decide
def aqa:OpR X (fB .Add) (λx y H Q=>∃i j,x=.str i/\y=.str j/\i.length+j.length<=cU/\Q (.str (i++j)) H):=by
 intro zv s σ H x y v u Q I rx ry h;obtain⟨i,j,rfl,rfl,hz,q⟩:=h;obtain⟨t,rfl⟩:=rx;obtain⟨t',rfl⟩:=ry;exact add_str (λt' tk=>⟨.str (i++j),H,I.tok _,⟨_,rfl⟩,q⟩) hz
theorem vals1(r:Vals [x] us):∃u,us=[u]/\RelV x u:=by
 cases r with
 |cons r1 r2=>cases r2;exact⟨_,rfl,r1⟩
theorem vals2(r:Vals [x,y] us):∃u w',us=[u,w']/\RelV x u/\RelV y w':=by
 cases r with
 |cons r1 r2=>
  cases r2 with
  |cons r3 r4=>cases r4;exact⟨_,_,rfl,r1,r3⟩
def aya:abx X (.builtin "abs") (λxs H Q=>∃i,xs=[.int i]/\Q (.int (if i<0 then -i else i)) H):=by
 intro zv s σ H xs us Q I r h;obtain⟨i,rfl,q⟩:=h;obtain⟨u,rfl,t,rfl⟩:=vals1 r;exact call_abs_int λu tk=>⟨.int (if i<0 then -i else i),H,I.tok _,⟨_,rfl⟩,q⟩
def avc(hc:X.calm=ZW):abx X (.builtin "max") (λxs H Q=>∃i j,xs=[.int i,.int j]/\Q (.int (if j > i then j else i)) H):=by
 intro zv s σ H xs us Q I r h;obtain⟨i,j,rfl,q⟩:=h;obtain⟨u,w',rfl,⟨t,rfl⟩,⟨t',rfl⟩⟩:=vals2 r;refine max_two_ints (I.ok.hd hc) λh' tk k=>⟨_,H,I.kept k,?_,q⟩
 by_cases hj:j > i
 ·rw[if_pos hj,if_pos hj];exact⟨_,rfl⟩
 ·rw[if_neg hj,if_neg hj];exact⟨_,rfl⟩
def al8:abx X (.type "int") (λxs H Q=>(∃i,xs=[.int i]/\Q (.int i) H)∨∃k,xs=[.bl k]/\Q (.int (if k then 1 else 0)) H):=by
 intro zv s σ H xs us Q I r h;rcases h with⟨i,rfl,q⟩ |⟨k,rfl,q⟩
 ·obtain⟨u,rfl,t,rfl⟩:=vals1 r;exact call_int_int ⟨.int i,H,I,⟨_,rfl⟩,q⟩
 ·obtain⟨u,rfl,r1⟩:=vals1 r;cases r1;exact call_int_bool ⟨.int (if k then 1 else 0),H,I.tok _,⟨_,rfl⟩,q⟩
end
structure ObjM (h:iK) (x dx C:bB) (mA:Str->Option aH):Prop where
 obj:h.get? x=ZY (lF C dx)
 ns:h.Ns1 dx mA
 ne:dx≠x
def alf{h:iK}{dx:bB}{mA:Str->Option aH}(n:h.Ns1 dx mA):∃od,h.get? dx=ZY od/\∀name,uY name od=ZY (mA name):=by
 obtain⟨o,es,ep,ho,hd,hk,_,hm⟩:=n;refine⟨o,ho,λname=>?_⟩
 have e:=hm name;unfold nsFind findBy at e;rw[<-yF] at e;unfold uY;rw[hd];dsimp only;split
 ·rename_i y q;rw[q] at e;exact congrArg ZY e
 ·rename_i q;rw[q] at e;have a:es.toList.any (·.refKey)=ZV:=by
   rw[List.any_eq_false];intro y hy;obtain⟨z,t,hkey⟩:=hk y (Array.mem_toList_iff.mp hy);simp[DictEntry.refKey,hkey]
  have a':¬es.toList.any (·.refKey)=ZW:=by rw[a];exact cM
  rw[if_neg a'];exact congrArg ZY e
def ObjM.look(I:ObjM h x dx C mA):∃od,jB h x (lF C dx) C (ZY od)/\∀name,uY name od=ZY (mA name) :=
 let ⟨od,ho,hl⟩:=alf I.ns
 ⟨od,⟨I.obj,rfl,rfl,ho⟩,hl⟩
section
variable{prog:cF}{w:dX}{A:dG}{E:aH->aN->Prop}{s:aN}{K:Fg9}{x dx C f:bB}{mA:Str->Option aH}{name:Str}{v:aH}
end
section
variable{P:cF}{w:dX}{H H':Hp}{h h':iK}{a C dx:bB}{fs fs':List (Str×V)}
def a1l(hok:HOk P w H h)(e:H a=ZY (.ins C dx fs)):∃mA,ObjM h a dx C mA/\(∀f,RelO (fs.lookup f) (mA f))/\PySem.Within mA (fs.map (·.1))/\fs.length<=1000/\H dx=ZY (.own a):=by
 obtain⟨d,z,ne,ob,mA,n,r,q⟩:=(show yg P w H h a (.ins C dx fs) from hok a _ e)
 exact⟨mA,⟨ob,n,ne⟩,r,q,z,d⟩
end
structure Cls (K:Fg9) (C:bB):Prop where
 pg:zG K C Str.empty=ZW
 hd:mX K C=ZW
 po:PySem.W.plainOver K C=ZW
 sa:mO K (.ref C) "__setattr__"=ZY (ZY (.builtin "object.__setattr__"))
def Cls.get{K:Fg9}{C:bB}(c:Cls K C)(f:Str):zG K C f=ZW:=c.pg
structure Con (K:Fg9) (C:bB) (f:Str) (v:V) (u:aH):Prop where
 at_:mO K (.ref C) f=ZY (ZY u)
 rel:RelV v u
 get:mW K u "__get__"=ZY ZX
 cp:PySem.W.copiedNames.contains f=ZV
structure Meth (K:Fg9) (C:bB) (m:Str) (f:bB):Prop where
 at_:mO K (.ref C) m=ZY (ZY (.ref f))
 fn:PySem.W.isFn K (.ref f)=ZW
 kp:oH K (.ref f)=ZW
section
variable{X:Cx}{zv:List (bB×Obj)}{σ:St}{H:Hp}{s:aN}{a C dx:bB}{fs:List (Str×V)}{f:Str}{v:V}{A:dG}{E:aH->aN->Prop}
def Inv.made(I:Inv X zv σ H s):Inv X zv σ (upd (upd H s.heap.objs.size (.own (s.heap.objs.size+1))) (s.heap.objs.size+1) (.ins C s.heap.objs.size []))
  { s with heap:=(s.heap.push jV).push (lF C s.heap.objs.size) }:=by
 have e1:(s.heap.push jV).get? s.heap.objs.size=ZY jV:=aM s.heap rfl;have e2:((s.heap.push jV).push (lF C s.heap.objs.size)).get? (s.heap.objs.size+1)=ZY (lF C s.heap.objs.size):=by
  have:=aM (s.heap.push jV) (o:=lF C s.heap.objs.size) rfl;rwa[cG] at this
 have e3:(s.heap.push jV).Ns s.heap.objs.size (λ_=>ZX):=⟨PySem.W.emptyDict,#[],_,e1,rfl,(λe he=>absurd he (by simp)),λ_=>rfl⟩
 have I1:=I.laid (a:=s.heap.objs.size) (o:=.own (s.heap.objs.size+1)) (h':=s.heap.push jV) (t':=s.toks) (λb u q=>aB _ q) (aL _) ⟨_,e1⟩
 refine I1.laid (a:=s.heap.objs.size+1) (o:=.ins C s.heap.objs.size []) (t':=s.toks) (λb u q=>aB _ q) (wG (cG _ _)) ?_
 have ne:s.heap.objs.size≠s.heap.objs.size+1:=bI (lX _);refine⟨by rw[cg ne,gw],iB _,ne,e2,λ_=>ZX,(yV e3).at λo q=>aB _ q,λ_=>qY,λy hy=>absurd rfl hy⟩
def a2s(hb:attributeBase e f env (eval e env)=eval e env)
  (h:bD 'F' A (eval e env) (λo s₁=>bD 'F' A (getAttr o f ZW) Q E s₁) E s):bD 'F' A (eval (.Attribute e f pos) env) Q E s :=
 Attribute_any_ h (by rw[arm_eval_Attribute,hb])
end
section
variable{X:Cx}{o e value:fP}{f:Str}{pos pos' tpos:Pos}{ta tv:TE}
end
section
variable{X:Cx}{zv:List (bB×Obj)}{σ:St}{H:Hp}{s:aN}{A:dG}{E:aH->aN->Prop}{Q:aH->aN->Prop}{c:aH}{b:Bool}
inductive TyOf (K:Fg9) (H:Hp):V->aH->Prop where
 |non:TyOf K H .non (.type "NoneType")
 |bl (x:Bool):TyOf K H (.bl x) (.type "bool")
 |int (i:Int):TyOf K H (.int i) (.type "int")
 |str (x:Str):TyOf K H (.str x) (.type "str")
 |flt (x:UInt64):TyOf K H (.flt x) (.type "float")
 |lst {a:bB} {xs:List V} (e:H a=ZY (.lst xs)):TyOf K H (.ref a) (.type "list")
 |frz {a:bB} {o:Obj} {xs:List V} (e:H a=ZY (.frz o (.lst xs))):TyOf K H (.ref a) (.type "list")
 |tup {a:bB} {xs:List V} (e:H a=ZY (.tup xs)):TyOf K H (.ref a) (.type "tuple")
 |dK {a:bB} {kvs:List (Key×V)} (e:H a=ZY (.dK kvs)):TyOf K H (.ref a) (.type "dict")
 |dT {a:bB} {kvs:List (List Key×V)} (e:H a=ZY (.dT kvs)):TyOf K H (.ref a) (.type "dict")
 |ins {a C dx:bB} {fs:List (Str×V)} (e:H a=ZY (.ins C dx fs)) (cl:Cls K C) (ha:mO K (.ref C) "__class__"=ZY (ZY (.builtin "object.__class__")))
   (hn:mW K (.builtin "object.__class__") "__get__"=ZY (ZY (.builtin "getset_descriptor.__get__"))) (htk:qF K (.builtin "object.__class__")=ZY ZW)
   (hm:mH K C (.type "object")=ZY ZW):TyOf K H (.ref a) (.ref C)
theorem atw(I:Inv X zv σ H s)(rx:RelV x u)(ty:TyOf X.K H x t)(e:jA X.K t c=ZY b)(h:∀tk,Q (.bool b) { s with toks:=tk }) :
  bD 'D' A (call (.builtin "isinstance") [u,c]) Q E s:=by
 cases ty with
 |non=>cases(show u=cQ from rx);exact eH PySem.W.kitx_none I.kIn qY e (λz=>nomatch z) h
 |bl y=>cases(show u=qX y from rx);exact eH PySem.W.kitx_bool I.kIn qY e (λz=>nomatch z) h
 |int i=>obtain⟨t,q⟩:=(show ∃t,u=qD i t from rx);cases q;exact eH PySem.W.kitx_int I.kIn qY e (λz=>nomatch z) h
 |str y=>obtain⟨t,q⟩:=(show ∃t,u=wC y t from rx);cases q;exact eH PySem.W.kitx_str I.kIn qY e (λz=>nomatch z) h
 |flt y=>obtain⟨t,q⟩:=(show ∃t,u=wU y t from rx);cases q;exact eH PySem.W.kitx_float I.kIn qY e (λz=>nomatch z) h
 | @lst a xs ea=>
  cases(show u=cY a from rx)
  obtain⟨_,_,n,_,h1⟩:=(show yg X.prog X.w H s.heap a (.lst xs) from I.hok a _ ea)
  exact eH sY I.kIn ⟨_,h1,rfl⟩ e (λz=>nomatch z) h
 | @frz a ob xs ea=>
  cases(show u=cY a from rx)
  obtain⟨_,_,_,n,_,h1⟩:=(show yg X.prog X.w H s.heap a (.frz ob (.lst xs)) from I.hok a _ ea)
  exact eH sY I.kIn ⟨_,h1,rfl⟩ e (λz=>nomatch z) h
 | @tup a xs ea=>
  cases(show u=cY a from rx)
  obtain⟨_,_,_,p⟩:=(show yg X.prog X.w H s.heap a (.tup xs) from I.hok a _ ea)
  obtain⟨o,h1,h2,_⟩:=p;exact eH PySem.W.kitx_tuple I.kIn ⟨o,h1,h2⟩ e (λz=>nomatch z) h
 | @dK a kvs ea=>
  cases(show u=cY a from rx)
  obtain⟨_,_,vs,_,p⟩:=(show yg X.prog X.w H s.heap a (.dK kvs) from I.hok a _ ea)
  obtain⟨o,es,ep,h1,h2,_⟩:=p;exact eH yJ I.kIn ⟨o,h1,h2.1⟩ e (λz=>nomatch z) h
 | @dT a kvs ea=>
  cases(show u=cY a from rx)
  obtain⟨_,_,xs,_,o,es,ep,h1,h2,_⟩:=(show yg X.prog X.w H s.heap a (.dT kvs) from I.hok a _ ea)
  exact eH yJ I.kIn ⟨o,h1,h2.1⟩ e (λz=>nomatch z) h
 | @ins a C dx fs ea cl ha hn htk hm=>
  cases(show u=cY a from rx)
  obtain⟨mA,O,_⟩:=a1l I.hok ea;obtain⟨od,J,_⟩:=O.look;exact eH (PySem.W.kitx_own (cl.get _) cl.hd ha hn htk hm) I.kIn J e (λz=>nomatch z) h
end
structure Room (k:Nat) (A:dG):Prop where
 hd:A.handled=ZX
 dp:A.depth+3*k+5<recursionLimit
 un:A.units+16*k+200<cLine
 gd:A.guards=ZY []
def Room.mono(r:Room k A)(h:j<=k):Room j A:=⟨r.hd,by have:=r.dp;omega,by have:=r.un;omega,r.gd⟩
def Room.deeper(r:Room (k+1) A)(env:Env):Room k (A.deeper env) :=
 ⟨r.hd,by have:=r.dp;show A.depth+1+3*k+5<_;omega,by have:=r.un;show A.units+3+16*k+200<_;omega,r.gd⟩
def Room.in1(r:Room (k+1) A):Room k A.in1 :=
 ⟨r.hd,by have:=r.dp;show A.depth+3*k+5<_;omega,by have:=r.un;show A.units+1+16*k+200<_;omega,r.gd⟩
def aqj{A:dG}{C:bB}{us:List aH}{kw:List (Str×Value)}:(A.under (.builtin "type.__call__" ⟨.ref C::us,kw⟩)).depth=A.depth+1:=by
 first |rfl |simp[tU,Code.weight,Ah,Code.isGuard,Ax,xM,tQ,guardIds]
def aqi{A:dG}{C:bB}{us:List aH}{kw:List (Str×Value)}:(A.under (.builtin "type.__call__" ⟨.ref C::us,kw⟩)).units=A.units+1:=by
 first |rfl |simp[tU,Code.cUnits,xM,tQ]
def am9{A:dG}{C:bB}{us:List aH}{kw:List (Str×Value)}:(A.under (.builtin "type.__call__" ⟨.ref C::us,kw⟩)).guards=A.guards:=by first |rfl |simp[tU,Code.weight,Ah,Code.isGuard,Ax,xM,tQ,guardIds]
def Room.make{k:Nat}{A:dG}(r:Room (k+1) A)(C:bB)(us:List aH)(kw:List (Str×Value)):Room k (A.under (.builtin "type.__call__" ⟨.ref C::us,kw⟩)) :=
 ⟨r.hd,by have:=r.dp;rw[aqj];omega,by have:=r.un;rw[aqi];omega,by rw[am9];exact r.gd⟩
def Room.depth(r:Room k A):A.depth<recursionLimit:=by have:=r.dp;omega
def Room.units(r:Room k A):A.units+64<cLine:=by have:=r.un;omega
def tNil:TA:=λ_ H Q=>Q [] H
def a8v(ta:TE)(tr:TA):TA:=λσ H Q=>ta σ H λx H1=>tr σ H1 λxs H2=>Q (x::xs) H2
abbrev Zb(x:Str):Prop:=(x==("__debug__" : Str))=ZV
abbrev Zc(X:Cx)(e:fP)(es:List fP):Prop:=aQ (e::es) X.env=(ZV,eval e X.env)::aQ es X.env
section
variable{X:Cx}{e:fP}{es:List fP}{te:TE}{t:TA}{pos:Pos}
def acf:PA X [] tNil:=λ_ _ _ _ H Q I h=>Calls.spliced_nil ⟨[],H,I,.nil,h⟩
def uc(ha:PE X e te)(hr:PA X es t)(hs:Zc X e es:=by rfl):PA X (e::es) (a8v te t):=by
 intro pos zv s σ H Q I h;rw[hs];show bD _ _ (spliced ((ZV,eval e X.env)::kI pos (aQ es X.env))) _ _ s;refine sJ (thn (ha zv s σ H _ I h) λu s1 ⟨x,H1,I1,r1,q1⟩=>?_)
 exact thn (hr pos zv s1 σ H1 _ I1 q1) λus s2 ⟨xs,H2,I2,r2,q2⟩=>⟨x::xs,H2,I2,.cons r1 r2,q2⟩
def tTup(t:TA):TE:=λσ H Q=>t σ H λxs H1=>xs.length<=cU/\∀p,H1 p=ZX->Q (.ref p) (upd H1 p (.tup xs))
def tLst(t:TA):TE:=λσ H Q=>t σ H λxs H1=>xs.length<=cU/\∀p,H1 p=ZX->Q (.ref p) (upd H1 p (.lst xs))
def a4u{x1}(h:PA X es t):PE X (.Tuple es x1 pos) (tTup t):=by
 intro zv s σ H Q I hq;refine wpAny_Tuple_spliced (thn (h pos zv s σ H _ I hq) λus s1 ⟨xs,H1,I1,r,z,q⟩=>⟨by rw[<-r.length];exact z,?_⟩)
 have hf:H1 s1.heap.objs.size=ZX:=I1.hok.fresh (aL _);refine⟨.ref s1.heap.objs.size,upd H1 s1.heap.objs.size (.tup xs),I1.laid (t':=s1.toks) (λb u e=>aB _ e) (aL _) ?_,rfl,q _ hf⟩
 exact⟨z,us,r,⟨_,aM _ rfl,rfl,rfl,_,rfl⟩⟩
def a4z(h:PA X es t):PE X (.List es pos) (tLst t):=by
 intro zv s σ H Q I hq;refine wpAny_List_spliced (thn (h pos zv s σ H _ I hq) λus s1 ⟨xs,H1,I1,r,z,q⟩=>⟨by rw[<-r.length];exact z,?_⟩)
 have hf:H1 s1.heap.objs.size=ZX:=I1.hok.fresh (aL _);refine⟨.ref s1.heap.objs.size,upd H1 s1.heap.objs.size (.lst xs),I1.laid (t':=s1.toks) (λb u e=>aB _ e) (aL _) ?_,rfl,q _ hf⟩
 exact⟨z,us,0,r,aM _ rfl⟩
end
abbrev Sp:=List V->Hp->VK->XK->Prop
abbrev CXT:=List Env->Hp->aN->XK->aH->aN->Prop
structure Env0 (P:cF) (w:dX) (K:Fg9) (mg:Str->Option aH) (base:iK) (A:dG) (outer:List Env) (s:aN) (H:Hp):Prop where
 frames:A.frames=ZY outer
 mod:Mod K mg base
 bs:∀b o,base.get? b=ZY o->s.heap.get? b=ZY o/\H b=ZX
 bsz:base.objs.size<=s.heap.objs.size
 funs:s.heap.FunFrames base outer
 frf:∀b∈frs outer,H b=ZX
 hok:HOk P w H s.heap
 bare:qU s.gens
 tb:Tb K mg base H
def CE(outer:List Env)(P:cF)(w:dX)(H:Hp)(s:aN)(Q:VK)(u:aH)(s':aN):Prop :=
 ∃v H',s'.os=s.os/\qU s'.gens/\Un (frs outer) [] H H' s.heap s'.heap/\HOk P w H' s'.heap/\RelV v u/\Q v H'
def CR(CX:CXT)(outer:List Env)(P:cF)(w:dX)(H:Hp)(s:aN)(Q:VK)(E:XK)(r:vI)(s':aN):Prop :=
 match r with
 |.ok (.ret u)=>CE outer P w H s Q u s'
 |.ok _=>False
 |.error e=>CX outer H s E e s'
structure FnOk (P:cF) (w:dX) (K:Fg9) (mg:Str->Option aH) (base:iK) (CX:CXT) (k:Nat) (f:bB) (fd:eU) (ps:List Str) (sp:Sp):Prop where
 len:∀vs H Q E,sp vs H Q E->vs.length=ps.length
 run:∀(A:dG) (outer:List Env) (s:aN) (H:Hp) (args:Args) (us:List aH) (vs:List V) (Q:VK) (E:XK),Room k A->Env0 P w K mg base A outer s H->pP s fd args (ps.zip us)->Vals vs us->sp vs H Q E ->
  mZ (bT P w) A (.call (.ref f) args) (CR CX outer P w H s Q E) s
def Env0.make{P:cF}{w:dX}{K:Fg9}{mg:Str->Option aH}{base:iK}{A:dG}{outer:List Env}{s:aN}{H:Hp}(e:Env0 P w K mg base A outer s H)(C:bB)(us:List aH)(kw:List (Str×Value)) :
  Env0 P w K mg base (A.under (.builtin "type.__call__" ⟨.ref C::us,kw⟩)) outer s H:=⟨by first |exact e.frames | (simpa[tU,Code.envs,tQ,pushEnvs] using e.frames),e.mod,e.bs,e.bsz,e.funs,e.frf,e.hok,e.bare,e.tb⟩
section
variable{X:Cx}{zv:List (bB×Obj)}{σ:St}{H:Hp}{s s':aN}
def Inv.tb(I:Inv X zv σ H s):Tb X.K X.mg X.base H:=by
 refine⟨λc P h=>?_,I.ok.tb.bm⟩
 obtain⟨h1,ps,e⟩:=I.ok.tb.tb c P h;obtain⟨m,e2⟩:=I.base.tbls P ps e;exact⟨h1,_,e2⟩
def Inv.env0(I:Inv X zv σ H s):Env0 X.prog X.w X.K X.mg X.base X.A X.stack s H :=
 ⟨I.ok.frames,I.ok.mod,I.bs,bV I.ok.bsz I.sz,I.stack,I.stkFree,I.hok,I.bare,I.tb⟩
def Inv.after(I:Inv X zv σ H s)(h:CE X.stack X.prog X.w H s Q u s'):EP X zv σ Q u s':=by
 obtain⟨v,H',os,bare,un,hok,r,q⟩:=h;obtain⟨hh,g,d,t,os'⟩:=s';obtain rfl:os'=s.os:=os;exact⟨v,H',I.call (h':=hh) (g':=g) (d':=d) (t':=t) (ch:=[]) un hok bare (λb z=>absurd z (by simp)),r,q⟩
end
def azz(sp:Sp)(dvs:List V)(E:XK)(t:TA):TE:=λσ H Q=>t σ H λvs H1=>sp (vs++dvs) H1 Q E
def Binds(K:Fg9)(fd:eU)(ps:List Str)(ds:List aH):Prop :=
 ∀(s:aN) (us:List aH),K.In s.heap->(us++ds).length=ps.length->pP s fd ⟨us,[]⟩ (ps.zip (us++ds))
def Binds.all{K:Fg9}{fd:eU}{ps:List Str}(h:∀us:List aH,us.length=ps.length->oK fd ⟨us,[]⟩=pure (ps.zip us)):Binds K fd ps []:=λs us _ hl=>by
 rw[iJ] at hl ⊢
 exact .of_eq (h us hl)
def avy(CX:CXT)(X:Cx)(E:XK):Prop:=∀(zv:List (bB×Obj)) (σ:St) (H:Hp) (s:aN) (e:aH) (s':aN),Inv X zv σ H s->CX X.stack H s E e s'->X.xe e s'
section
variable{X:Cx}{CX:CXT}{k:Nat}{f C:bB}{fd:eU}{ps:List Str}{sp:Sp}{dvs:List V}{ds:List aH}{E:XK}{x m:Str}{p pos apos:Pos}{e o:fP}{es:List fP}{ta:TE}{t:TA}
theorem a4c(F:FnOk X.prog X.w X.K X.mg X.base CX k f fd ps sp)(hr:Room k X.A)(hb:Binds X.K fd ps ds)(hd:Vals dvs ds)(hx:avy CX X E)
  (I:Inv X zv σ H s) (r:Vals vs us) (h:sp (vs++dvs) H Q E):bD 'D' X.A (call (.ref f) us) (EP X zv σ Q) X.xe s:=by
 have r2:Vals (vs++dvs) (us++ds):=r.append hd;have hl:(us++ds).length=ps.length:=by rw[<-r2.length];exact F.len _ _ _ _ h
 refine lZ (lE (F.run X.A X.stack s H ⟨us,[]⟩ (us++ds) (vs++dvs) Q E hr I.env0 (hb s us I.kIn hl) r2 h) λr s' hq=>?_)
 cases r with
 |error e=>exact hx zv σ H s e s' I hq
 |ok fl=>
  cases fl with
  |ret u=>exact I.after hq
  |next=>exact fW hq
  |brk=>exact fW hq
  |cont=>exact fW hq
def a0w(F:FnOk X.prog X.w X.K X.mg X.base CX k f fd ps sp)(hr:Room k X.A)(hg:Gl X x)(hm:X.mg x=ZY (.ref f))(hk:oH X.K (.ref f)=ZW)(hb:Binds X.K fd ps ds)(hd:Vals dvs ds)(hx:avy CX X E)
  (ha:PA X (e::es) t) (hdb:Zb x:=by decide) (he:Zc X e es:=by rfl) (hpl:(kI pos (aQ es X.env)).any (·.1)=ZV:=by rfl) :
  PE X (.Call (.Name x p) (e::es) [] pos) (azz sp dvs E t):=by
 intro zv s σ H Q I h;refine wpAny_Call_Name_kw (adp I hg hm ?_ hdb);refine oM (h₀:=X.base) I.ok.mod.kin hk (thn (ha pos zv s σ H _ I h) λus s1 ⟨vs,H1,I1,r,q⟩=>⟨I1.kIn,?_⟩) he hpl
 exact a4c F hr hb hd hx I1 r q
structure Mk (K:Fg9) (C f:bB):Prop where
 makes:PySem.W.makesIn K C=ZW
 init:mO K (.ref C) "__init__"=ZY (ZY (.ref f))
 fn:PySem.W.isFn K (.ref f)=ZW
 kp:oH K (.ref C)=ZW
end
section
variable{X:Cx}{CX:CXT}{k:Nat}{f C:bB}{fd:eU}{ps ks:List Str}{sp:Sp}{E:XK}{x m:Str}{p pos apos kpos:Pos}{e o:fP}{es:List fP}{kws:List rQ}{te ta:TE}{t tk:TA}{nm:Option Str}
structure KBinds (K:Fg9) (fd:eU) (ps ks:List Str) (g:List aH->List aH->List aH) (gV:List V->List V->List V):Prop where
 to:∀(s:aN) (us ws:List aH),K.In s.heap->(g us ws).length=ps.length->pP s fd ⟨us,ks.zip ws⟩ (ps.zip (g us ws))
 rel:∀{vs:List V} {us:List aH} {zs:List V} {ws:List aH},Vals vs us->Vals zs ws->Vals (gV vs zs) (g us ws)
variable{g:List aH->List aH->List aH}{gV:List V->List V->List V}
end
structure FnScope (N P:List Str) (sc:nO):Prop where
 kind:sc.kind=.function
 co:sc.isCoroutine=ZV
 gen:sc.isGenerator=ZV
 nd:N.Nodup
 pre:N.take P.length=P
 par:∀x∈P,sc.names.lookup x=ZY .local∨sc.names.lookup x=ZY .cell
 nofree:∀y∈sc.names,y.2≠.free
theorem amb{kindOf:Str->Option vQ}{x:Str}:∀{binds:List (Str×Value)} {m:Str->Option aH},(∀v,(x,v)∉binds)->bindL kindOf binds m x=m x
 | [],_,_=>rfl
 | (n,v)::r,m,h=>by
  unfold bindL;rw[amb λw hw=>h w (aR _ hw)]
  split
  ·have:x≠n:=by rintro rfl;exact h v aX
   simp[this]
  ·rfl
theorem amd{kindOf:Str->Option vQ}{x:Str}:∀{binds:List (Str×Value)} {m:Str->Option aH},(∀v,(x,v)∉binds)->bindC kindOf binds m x=m x
 | [],_,_=>rfl
 | (n,v)::r,m,h=>by
  unfold bindC;rw[amd λw hw=>h w (aR _ hw)]
  split
  ·rfl
  ·have:x≠n:=by rintro rfl;exact h v aX
   simp[this]
theorem amc{kindOf:Str->Option vQ}{x:Str}{v:aH}:∀{P:List Str} {vs:List aH} {i:Nat} {m:Str->Option aH},P.Nodup->P[i]? = ZY x->vs[i]? = ZY v->kindOf x=ZY .local ->
  bindL kindOf (P.zip vs) m x=ZY v
 | [],_,_,_,_,h,_,_=>by simp at h
 |_::_,[],_,_,_,_,h,_=>by simp at h
 |p::P,w::vs,0,m,nd,h1,h2,hk=>by
  simp at h1 h2;subst h1;subst h2;show bindL kindOf ((p,w)::P.zip vs) m p=_;unfold bindL;rw[amb λv hv=>(lH.mp nd).1 (qH hv).1,if_pos hk]
  simp
 |p::P,w::vs,i+1,m,nd,h1,h2,hk=>by
  show bindL kindOf ((p,w)::P.zip vs) m x=_;unfold bindL;exact amc (i:=i) (lH.mp nd).2 (by simpa using h1) (by simpa using h2) hk
theorem ame{kindOf:Str->Option vQ}{x:Str}{v:aH}:∀{P:List Str} {vs:List aH} {i:Nat} {m:Str->Option aH},P.Nodup->P[i]? = ZY x->vs[i]? = ZY v->kindOf x≠ZY .local ->
  bindC kindOf (P.zip vs) m x=ZY v
 | [],_,_,_,_,h,_,_=>by simp at h
 |_::_,[],_,_,_,_,h,_=>by simp at h
 |p::P,w::vs,0,m,nd,h1,h2,hk=>by
  simp at h1 h2;subst h1;subst h2;show bindC kindOf ((p,w)::P.zip vs) m p=_;unfold bindC;rw[amd λv hv=>(lH.mp nd).1 (qH hv).1,if_neg hk]
  simp
 |p::P,w::vs,i+1,m,nd,h1,h2,hk=>by
  show bindC kindOf ((p,w)::P.zip vs) m x=_;unfold bindC;exact ame (i:=i) (lH.mp nd).2 (by simpa using h1) (by simpa using h2) hk
def start(N:List Str)(vs:List V):St:=vs.map ZY++aK (N.length-vs.length) ZX
def cxOf(CX:CXT)(P:cF)(w:dX)(K:Fg9)(mg:Str->Option aH)(base:iK)(N:List Str)(qual:Str)(scope:nO)(f:bB)(cd:aH)(A:dG)(outer:List Env)(s:aN)(H:Hp)(E:XK):Cx where
 prog:=P
 w:=w
 K:=K
 mg:=mg
 base:=base
 A:=A.deeper (nU qual scope s.heap.objs.size f cd)
 N:=N
 s₀:=s
 H₀:=H
 env:=nU qual scope s.heap.objs.size f cd
 outer:=outer
 stack:=nU qual scope s.heap.objs.size f cd::outer
 ex:=[]
 calm:=ZW
 fn:=λ_=>ZW
 pn:=[]
 xe:=λe s'=>bD (bT P w) (A.deeper (nU qual scope s.heap.objs.size f cd)) (leaving (nU qual scope s.heap.objs.size f cd) e) (λ_ s''=>CX outer H s E e s'') (λe' s''=>CX outer H s E e' s'') s'
def api{sc:nO}{n:Nat}{x:Str}(h:sc.names.lookup x=ZY .cell):∃c,(cellsFrom n sc.names []).lookup x=ZY c:=by
 have q:=pW sc.names n [] (.inl h);exact pA.mp q
def alk{CX:CXT}{P:cF}{w:dX}{K:Fg9}{mg:Str->Option aH}{base:iK}{N ps:List Str}{qual:Str}{scope:nO}{f:bB}{cd:aH}{A:dG}{outer:List Env}{s s1:aN}{H:Hp}{E:XK}{us:List aH}{vs:List V}
  (S:FnScope N ps scope) (hd:A.handled=ZX) (e0:Env0 P w K mg base A outer s H) (hl:vs.length=ps.length) (r:Vals vs us)
  (x:InCallC s s.heap.objs.size (bindL (nU qual scope s.heap.objs.size f cd).kindOf (ps.zip us) λ_=>ZX) (cellsFrom (s.heap.objs.size+1) scope.names []) (bindC (nU qual scope s.heap.objs.size f cd).kindOf (ps.zip us) λ_=>ZX) s1) :
  Inv (cxOf CX P w K mg base N qual scope f cd A outer s H E) [] (start N vs) H s1:=by
 have hpl:ps.length<=N.length:=by have:=congrArg List.length S.pre;rw[eQ] at this;omega
 obtain⟨h1,tk,rfl,hk⟩:=x.done;have noA:∀b:bB,b∉(cxOf CX P w K mg base N qual scope f cd A outer s H E).ex:=λb z=>absurd (show b∈([]:List bB) from z) (by simp)
 refine⟨⟨e0.mod,S.kind,rfl,rfl,aL _,λy z c h1 h2=>?_,λy hy=>?_,λy c _ h=>?_,λ_=>hd,rD e0.frames,.inr ⟨rfl,rfl⟩,λb z=>absurd z (noA b),e0.bs,e0.bsz,λb _ _=>noA b,λb z=>absurd z (noA b),e0.funs,e0.frf,e0.tb⟩,
  rfl,e0.bare,Un.kept hk,⟨_,x.toInCall.ns,λi y v h1 h2 h3=>?_⟩,λy c h=>⟨_,x.cell y c h⟩,e0.hok.fresh (aL _),λy c h=>?_,λp hp=>absurd (show p∈([]:List (bB×Obj)) from hp) (by simp),e0.hok.kept hk,?_⟩
 ·exact name_of_addr x.apart (fZ h1) (fZ h2)
 ·have hy:scope.names.lookup y=ZY .cell∨scope.names.lookup y=ZY .free:=hy;rcases hy with hy |hy
  ·exact api hy
  ·exact absurd rfl (S.nofree _ (fZ hy))
 ·exact jL (x.above y c (fZ h))
 ·have hi:i<vs.length:=by
   unfold start at h2
   by_cases hi:i<vs.length
   ·exact hi
   ·rw[lO (by simpa using hi)] at h2
    rw[mK] at h2;split at h2 <;> cases h2
  have ha:vs[i]? = ZY v:=by
   unfold start at h2;rw[dO (by simpa using hi),aV] at h2
   cases e:vs[i]? with
   |none=>rw[e] at h2;cases h2
   |some a=>rw[e] at h2;cases h2;rfl
  obtain⟨u,hu,rv⟩:=r.get ha;have hp:ps[i]? = ZY y:=by
   rw[<-S.pre,jY (by omega)];exact h1
  have ndP:ps.Nodup:=by rw[<-S.pre];exact S.nd.sublist (yN _ _)
  refine⟨u,rv,?_⟩;rcases S.par y (iV hp) with k |k
  ·exact .inl ⟨k,amc ndP hp hu k⟩
  ·obtain⟨c,e⟩:=api (n:=s.heap.objs.size+1) k;refine .inr ⟨.inl k,c,e,?_⟩;have q:=x.cell y c e;rw[ame ndP hp hu (by show scope.names.lookup y≠_;rw[k];decide)] at q
   exact q
 ·exact e0.hok.fresh (jL (x.above y c (fZ h)))
 ·unfold start;show _=N.length;rw[dB,aU,iI];omega
theorem a1x{CX:CXT}{P:cF}{w:dX}{K:Fg9}{mg:Str->Option aH}{base:iK}{k:Nat}{f:bB}{name qual:Str}{params:Arguments}{body:List jG}{scope:nO}{dV kV doc pm cdv ct oc:aH}{an od:Option bB}
  {osl:Array (Option aH)} {N ps:List Str} {sp:Sp} (lk:K.lookup f=ZY ⟨oc,od,.func (fnOf name qual params body scope dV kV doc pm an cdv ct),osl⟩) (hcd:codeIn K cdv qual=ZW) (S:FnScope N ps scope)
  (len:∀vs H Q E,sp vs H Q E->vs.length=ps.length)
  (hbody:∀(A:dG) (outer:List Env) (s:aN) (H:Hp) (vs:List V) (Q:VK) (E:XK),Room k (A.deeper (nU qual scope s.heap.objs.size f cdv))->sp vs H Q E ->
   ∃t,PSs (cxOf CX P w K mg base N qual scope f cdv A outer s H E) body t/\t { nx:=λ_ H'=>Q .non H',rt:=Q } (start N vs) H) :
  FnOk P w K mg base CX (k+1) f (fnOf name qual params body scope dV kV doc pm an cdv ct) ps sp:=by
 refine⟨len,λA outer s H args us vs Q E hr e0 hb r hsp=>?_⟩
 have hl:=len _ _ _ _ hsp;have KX:K.In s.heap:=e0.mod.kin.keeps λb o e=>(e0.bs b o e).1
 have lim:s.heap.NoLimit:=e0.mod.nolimit.keeps λb o e=>(e0.bs b o e).1
 have hkind:∀y∈ps.zip us,scope.names.lookup y.1=ZY .local∨(scope.names.lookup y.1=ZY .cell/\((cellsFrom (s.heap.objs.size+1) scope.names []).lookup y.1).isSome=ZW):=λ⟨n,v⟩ hy=>by
  rcases S.par n (qH hy).1 with q |q
  ·exact .inl q
  ·exact .inr ⟨q,pW _ _ _ (.inl q)⟩
 refine codeAny_call_function hr.depth (KX _ _ lk) rfl S.co S.gen rfl (xQ KX hcd) (hb _ _ _ _ ?_);refine wpAny_newFunctionEnv_cells S.kind hkind λenv he s1 x=>?_
 subst he;refine⟨lim.keeps x.toInCall.keep,codeAny_func ?_⟩;obtain⟨t,ht,hq⟩:=hbody A outer s H vs Q E (hr.deeper _) hsp;have I:Inv (cxOf CX P w K mg base N qual scope f cdv A outer s H E) [] (start N vs) H s1:=alk S hr.hd e0 hl r x;refine aZ (ht [] s1 (start N vs) H _ I hq) (λfl s' hs=>?_) λe s' hs=>hs
 have fin:∀{σ':St} {H':Hp} {v:V} {u:aH},Inv (cxOf CX P w K mg base N qual scope f cdv A outer s H E) [] σ' H' s'->RelV v u->Q v H'->CE outer P w H s Q u s' :=
  λ{σ' H' v u} J rv q=>⟨v,H',J.os,J.bare,J.base,J.hok,rv,q⟩
 cases fl with
 |ret u=>
  obtain⟨v,σ',H',J,rv,q⟩:=hs;exact fin J rv q
 |next=>
  obtain⟨σ',H',J,q⟩:=hs;exact fin (v:=V.non) (u:=cQ) J rfl q
 |brk=>
  obtain⟨_,_,_,q⟩:=hs;exact fW q
 |cont=>
  obtain⟨_,_,_,q⟩:=hs;exact fW q
section
variable{X:Cx}{x:Str}{p pos:Pos}{e:fP}{es:List fP}{t:TA}{id T:String}{r:List V->Hp->VK->Prop}
def tCB(r:List V->Hp->VK->Prop)(t:TA):TE:=λσ H Q=>t σ H λvs H1=>r vs H1 Q
def acu(hc:abx X (.builtin id) r)(hg:Gl X x)(hm:X.mg x=ZX)(hv:bY x=ZY (.builtin id))(ha:PA X (e::es) t)(hn:x ≠ "__name__" := by decide)(hdb:Zb x:=by decide)
  (he:Zc X e es:=by rfl) (hpl:(kI pos (aQ es X.env)).any (·.1)=ZV:=by rfl):PE X (.Call (.Name x p) (e::es) [] pos) (tCB r t):=by
 intro zv s σ H Q I h;refine wpAny_Call_Name_kw (af2 I hg hm hv ?_ hn hdb);exact PyProof.Rows.callWith_builtin1 (thn (ha pos zv s σ H _ I h) λus s1 ⟨vs,H1,I1,r1,q1⟩=>hc zv s1 σ H1 vs us Q I1 r1 q1) he hpl
def aei(hc:abx X (.type T) r)(hg:Gl X x)(hm:X.mg x=ZX)(hv:bY x=ZY (.type T))(ha:PA X (e::es) t)(hn:x ≠ "__name__" := by decide)(hdb:Zb x:=by decide)
  (he:Zc X e es:=by rfl) (hpl:(kI pos (aQ es X.env)).any (·.1)=ZV:=by rfl):PE X (.Call (.Name x p) (e::es) [] pos) (tCB r t):=by
 intro zv s σ H Q I h;refine wpAny_Call_Name_kw (af2 I hg hm hv ?_ hn hdb);exact jD (thn (ha pos zv s σ H _ I h) λus s1 ⟨vs,H1,I1,r1,q1⟩=>hc zv s1 σ H1 vs us Q I1 r1 q1) he hpl
end
end L2
namespace HT
open PySem PyProof.Rows
section
open PySem.SeqAt
open PySem.AutoSeq1 (wpAny_loadPart')
open PySem.MeetsSeq PySem.MeetsSeq2 PySem.MeetsSeq3
end
section
variable{prog:cF}{w:dX}{A:dG}{E:aH->aN->Prop}{s:aN}
def a2l(ht:yR s.heap t vs.toArray)(hb:yR s.heap b ws.toArray)(hv:vs≠[])
  (h1:ws=[]->Q (.ref t) s) (h2:ws≠[]->Q (.ref s.heap.objs.size) { s with heap:=s.heap.push { cls:=.type "tuple", data:=.seq (vs++ws).toArray } })
  (hsz:vs.length+ws.length<=cU):bD 'F' A (fB .Add (.ref t) (.ref b)) Q E s:=by
 obtain⟨⟨cls,dd,data,sl⟩,ho,hc,n,hd⟩:=id ht;obtain⟨⟨cls2,dd2,data2,sl2⟩,ho2,hc2,n2,hd2⟩:=id hb;simp only at hc hd hc2 hd2;subst hc hd hc2 hd2;have e:vs.toArray++ws.toArray=(vs++ws).toArray:=by simp
 by_cases hw:ws=[]
 ·exact concat_meets ⟨_,ho,rfl⟩ ⟨_,ho2,rfl⟩ noFill_tuple_add seq_tuple_add pX pH (oZ _ _)
   (tuple_addW1 t b vs.toArray ws.toArray n n2 dd dd2 sl sl2 (by simpa using hv) (by simp[hw])) ⟨ho,ho2,h1 hw⟩
 ·refine concat_meets ⟨_,ho,rfl⟩ ⟨_,ho2,rfl⟩ noFill_tuple_add seq_tuple_add pX pH (oZ _ _)
   (tuple_addW2 t b vs.toArray ws.toArray n n2 dd dd2 sl sl2 (by simpa using hv) (by simpa using hw) (by rw[aP,aP];exact hsz)) ⟨ho,ho2,?_⟩
  rw[e];exact h2 hw
def sIx(n d:Nat):Option Int->Nat
 |none=>d
 |some v=>if v<0 then (v+(n:Int)).toNat else min v.toNat n
theorem a4a(n d:Nat)(hd:d<=n)(o:Option Int):sIx n d o<=n:=by
 cases o with
 |none=>exact hd
 |some v=>
  show(if v<0 then (v+(n:Int)).toNat else min v.toNat n)<=n
  by_cases hv:v<0
  ·rw[if_pos hv];omega
  ·rw[if_neg hv];exact Nat.min_le_right _ _
def au5(v:Int)(n d:Nat):(if v<0 then max (v+(n:Int)) 0 else min v (n:Int))=((sIx n d (ZY v):Nat):Int):=by
 show(if v<0 then max (v+(n:Int)) 0 else min v (n:Int))=(((if v<0 then (v+(n:Int)).toNat else min v.toNat n):Nat):Int)
 by_cases hv:v<0
 ·simp only[if_pos hv];omega
 ·simp only[if_neg hv];omega
def aq2(lo hi:Option Int)(n:Nat):oW lo hi 1 (n:Int)=(((sIx n 0 lo:Nat):Int),((sIx n n hi:Nat):Int)):=by
 have h1:¬((1:Int)<0):=by omega
 unfold oW;simp only[h1,if_false];refine Prod.ext ?_ ?_
 ·cases lo with
  |none=>rfl
  |some v=>exact au5 v n 0
 ·cases hi with
  |none=>rfl
  |some v=>exact au5 v n n
def ap7(i j:Nat):lV (i:Int) (j:Int) 1=j-i:=by
 unfold lV;have h1:(1:Int) > 0:=by omega
 simp only[h1,if_true,Int.ediv_one];split <;> omega
theorem ail(p:tM v o)(h:Q o s):bD 'F' A (Builtin.Slice.slicePartIndex v) Q E s:=by
 cases p with
 |none=>exact slicePart_none h
 |int i t=>exact slicePart_int h
def abz{sl:bB}{vl vu:aH}{lo hi:Option Int}{n:Nat}{Q:Int×Int×Nat->aN->Prop}(hs:s.heap.IsSliceOf sl vl vu .none)(pl:tM vl lo)(pu:tM vu hi)
  (h:Q (((sIx n 0 lo:Nat):Int),1,sIx n n hi-sIx n 0 lo) s):bD 'F' A (uW (.ref sl) (pure (n:Int))) Q E s:=by
 obtain⟨os,hos,hcs,hds⟩:=id hs;unfold uW Builtin.Slice.sliceFields;refine aA (aA (dN hos hds (x:=vl) rfl (aA (dN hos hds (x:=vu) rfl (aA (dN hos hds (x:=.none) rfl (aF ?_)))))));refine aA (slicePart_none ?_);show bD _ _ (if ((1:Int)==0)=ZW then _ else _) _ _ s
 rw[if_neg (by decide)]
 refine aA (ail pl (aA (ail pu (aA (aF ?_)))));show bD _ _ (match oW lo hi 1 (n:Int) with | (lo,hi)=>pure (lo,(1:Int),lV lo hi 1)) _ _ s
 rw[aq2 lo hi n];show bD _ _ (pure (((sIx n 0 lo:Nat):Int),(1:Int),lV ((sIx n 0 lo:Nat):Int) ((sIx n n hi:Nat):Int) 1)) _ _ s;rw[ap7];exact aF h
def awn(xs:Array aH)(i k:Nat):((aD k).filterMap λ(m:Nat)=>xs[((i:Int)+(m:Int)*1).toNat]?).toArray=((xs.toList.drop i).take k).toArray:=by
 have e:(λ(m:Nat)=>xs[((i:Int)+(m:Int)*1).toNat]?)=λm=>xs[i+m]? := by
  funext m
  have:((i:Int)+(m:Int)*1).toNat=i+m:=by omega
  rw[this]
 rw[e];have:=pick_run xs i k;rw[List.filterMap_map] at this;have e2:((λx=>xs[x]?)∘λx=>i+x)=λm=>xs[i+m]? := rfl
 rw[e2] at this;rw[this]
def afk{t sl:bB}{items:Array aH}{vl vu:aH}{lo hi:Option Int}{Q:aH->aN->Prop}(ht:yR s.heap t items)(hs:s.heap.IsSliceOf sl vl vu .none)(pl:tM vl lo)(pu:tM vu hi)
  (hw:¬(sIx items.size 0 lo=0/\sIx items.size items.size hi=items.size))
  (h:Q (.ref s.heap.objs.size) { s with heap:=s.heap.push { cls:=.type "tuple", data:=.seq ((items.toList.drop (sIx items.size 0 lo)).take (sIx items.size items.size hi-sIx items.size 0 lo)).toArray } })
  (hsz:items.size<=cU):bD 'F' A (sU (.ref t) (.ref sl)) Q E s:=by
 have htake:sizeOk (.seq ((items.toList.drop (sIx items.size 0 lo)).take (sIx items.size items.size hi-sIx items.size 0 lo)).toArray):=by
  show((items.toList.drop (sIx items.size 0 lo)).take (sIx items.size items.size hi-sIx items.size 0 lo)).toArray.size<=cU;rw[aP,eQ,iT,bU];omega
 have hj:sIx items.size items.size hi<=items.size:=a4a _ _ (aL _) hi;obtain⟨os,hos,hcs,hds⟩:=id hs;have hTs:s.TypeIs (.ref sl) "slice" := ⟨os,hos,hcs⟩;unfold sU
 try with_reducible refine dD ?_
 first |refine aA (aF ?_) |skip
 refine aA (wpAny_sequenceKey ht.typeIs (by decide) ?_)
 refine aA (dZ (name:=fV "__getitem__") ht.typeIs fQ
  (fO fQ ht.typeIs entry_tuple_getitem ?_ (args_tuple_getitem _ _)))
 show bD _ _ (uV (.ref t) >>= _) _ _ s;refine aA (tupleItemsOf_ ht ?_);refine aA (wpAny_typeOf hTs ?_);rw[if_pos (by decide)]
 refine aA (abz hs pl pu ?_);have hno:¬((((sIx items.size 0 lo:Nat):Int)==0&&(1:Int)==1&&(sIx items.size items.size hi-sIx items.size 0 lo)==items.size)=ZW):=by
  intro q;rw[bC,bC] at q;have q1:((sIx items.size 0 lo:Nat):Int)=0:=eq_of_beq q.1.1;have q2:sIx items.size items.size hi-sIx items.size 0 lo=items.size:=eq_of_beq q.2;exact hw ⟨by omega,by omega⟩
 show bD _ _ (if (((sIx items.size 0 lo:Nat):Int)==0&&(1:Int)==1&&(sIx items.size items.size hi-sIx items.size 0 lo)==items.size)=ZW then _ else _) _ _ s
 rw[if_neg hno,awn]
 first
  |exact aA (m:=iQ _) (cA (aF ⟨_,rfl,aF h⟩) htake)
  |exact aA (m:=iQ _) (cA (aA (aF (aF ⟨_,rfl,aF h⟩))) htake)
  |exact aA (aA (m:=iQ _) (cA (aF (aF ⟨_,rfl,aF h⟩)) htake))
  |exact aA (aA (m:=iQ _) (cA (aF ⟨_,rfl,aF h⟩) htake))
end
end HT
namespace L2
abbrev TO:=St->Hp->(Option Int->Hp->Prop)->Prop
def PO(X:Cx)(e:Option fP)(t:TO):Prop :=
 ∀(zv:List (bB×Obj)) (s:aN) (σ:St) (H:Hp) (Q:Option Int->Hp->Prop),Inv X zv σ H s->t σ H Q ->
  bD 'D' X.A (evalPart e X.env) (λu s'=>∃o H',Inv X zv σ H' s'/\tM u o/\Q o H') X.xe s
def azy:TO:=λ_ H Q=>Q ZX H
def a8r(t:TE):TO:=λσ H Q=>t σ H λx H1=>∃i,x=.int i/\Q (ZY i) H1
theorem intsAre_of:∀{us:List aH},Vals (ns.map V.int) us->nA us ns:=by
 induction ns with
 |nil=>intro us r;rw[wH] at r;cases r;exact .nil
 |cons n ns ih=>
  intro us r;rw[bH] at r;cases r with
  |cons r1 r2=>
   obtain⟨t,e⟩:=r1;subst e;exact .cons n t (ih r2)
section
variable{X:Cx}{e:fP}{te:TE}{lo hi:Option fP}{tl th:TO}{pos p2:Pos}
def a0k:PO X ZX azy:=by
 intro zv s σ H Q I h;rw[evalPart_none];exact aF ⟨ZX,H,I,.none,h⟩
def a0j(h:PE X e te):PO X (ZY e) (a8r te):=by
 intro zv s σ H Q I hw;rw[evalPart_some];refine thn (h zv s σ H _ I hw) λu s1 ⟨x,H1,I1,r1,q1⟩=>?_
 obtain⟨i,rfl,q⟩:=q1;obtain⟨t,rfl⟩:=r1;exact⟨ZY i,H1,I1,.int i t,q⟩
def SlR(X:Cx)(r:V->Option Int->Option Int->Hp->VK->Prop):Prop :=
 ∀(zv:List (bB×Obj)) (s:aN) (σ:St) (H:Hp) (x:V) (v vl vu:aH) (lo hi:Option Int) (sl:bB) (Q:VK),Inv X zv σ H s->RelV x v->s.heap.IsSliceOf sl vl vu .none->tM vl lo->tM vu hi->r x lo hi H Q ->
  ∃T id,typeLookup (.type T) "__getitem__"=pure (ZY (.builtin id))/\s.TypeIs v T/\bD 'D' X.A (sU v (.ref sl)) (EP X zv σ Q) X.xe s
def tSl(r:V->Option Int->Option Int->Hp->VK->Prop)(te:TE)(tl th:TO):TE:=λσ H Q=>te σ H λx H1=>tl σ H1 λl H2=>th σ H2 λu H3=>r x l u H3 Q
def aoi(hr:SlR X r)(he:PE X e te)(hl:PO X lo tl)(hu:PO X hi th):PE X (.Subscript e (.Slice lo hi ZX p2) pos) (tSl r te tl th):=by
 intro zv s σ H Q I h;refine Subscript_ (thn (he zv s σ H _ I h) λv s1 ⟨x,H1,I1,r1,q1⟩=>?_)
 refine wpAny_Slice (thn (hl zv s1 σ H1 _ I1 q1) λvl s2 ⟨l,H2,I2,pl,q2⟩=>thn (hu zv s2 σ H2 _ I2 q2) λvu s3 ⟨u,H3,I3,pu,q3⟩=>?_)
 rw[evalPart_none];refine aF ?_;have I4:Inv X zv σ H3 { s3 with heap:=s3.heap.push { cls:=.type "slice", data:=.fields #[vl,vu,.none] } }:=I3.kept (t':=s3.toks) λb ob q=>aB _ q
 obtain⟨T,id,hT,ht,hg⟩:=hr zv { s3 with heap:=s3.heap.push { cls:=.type "slice", data:=.fields #[vl,vu,.none] } } σ H3 x v vl vu l u s3.heap.objs.size Q I4 r1 (Heap.IsSliceOf.new ..) pl pu q3
 show bD 'D' X.A (subscriptTail e (.Slice lo hi ZX p2) v (.ref s3.heap.objs.size)) (EP X zv σ Q) X.xe { s3 with heap:=s3.heap.push { cls:=.type "slice", data:=.fields #[vl,vu,.none] } }
 exact tail_any (ops:=[.ref s3.heap.objs.size,v]) ht hT hg (by with_unfolding_all rfl)
def cutV(xs:List V)(lo hi:Option Int):List V:=(xs.drop (HT.sIx xs.length 0 lo)).take (HT.sIx xs.length xs.length hi-HT.sIx xs.length 0 lo)
def ahu(xs:List V)(lo hi:Option Int):(cutV xs lo hi).length<=xs.length:=by
 unfold cutV;rw[eQ,iT];omega
def rSlT(K:Fg9):V->Option Int->Option Int->Hp->VK->Prop:=λx lo hi H Q=>∃a xs,x=.ref a/\SqT K H a xs /\
 ¬(HT.sIx xs.length 0 lo=0/\HT.sIx xs.length xs.length hi=xs.length)/\∀p,H p=ZX->Q (.ref p) (upd H p (.tup (cutV xs lo hi)))
def a3y:SlR X (rSlT X.K):=by
 intro zv s σ H x v vl vu lo hi sl Q I rx hs pl pu h;obtain⟨a,xs,rfl,hx,hw,q⟩:=h;cases rx;obtain⟨its,r,ht,hz⟩:=I.tuple hx;have hlen:its.toArray.size=xs.length:=by rw[aP];exact r.length.symm
 refine⟨"tuple", _,fQ.lookup,ht.typeIs,?_⟩;refine HT.afk ht hs pl pu (by rw[hlen];exact hw) ?_ (by rw[hlen];exact hz)
 rw[hlen];refine⟨.ref s.heap.objs.size,_,I.laid (t':=s.toks) (o:=.tup (cutV xs lo hi)) (λb ob q=>aB _ q) (aL _) ?_,rfl,q _ (I.hok.fresh (aL _))⟩
 exact⟨Nat.le_trans (ahu xs lo hi) hz,_,(r.drop (HT.sIx xs.length 0 lo)).take (HT.sIx xs.length xs.length hi-HT.sIx xs.length 0 lo),IsTp.new _ _⟩
def a82(K:Fg9):R2:=λx y H Q=>∃a b xs ys,x=.ref a/\y=.ref b/\SqT K H a xs/\SqT K H b ys/\xs≠[]/\xs.length+ys.length<=cU /\
 (ys=[]->Q (.ref a) H)/\(ys≠[]->∀p,H p=ZX->Q (.ref p) (upd H p (.tup (xs++ys))))
theorem Vals.nil_iff(r:Vals xs us):us=[]↔xs=[]:=by
 cases r with
 |nil=>simp
 |cons _ _=>simp
def a04:OpR X (fB .Add) (a82 X.K):=by
 intro zv s σ H x y v u Q I rx ry h;obtain⟨a,b,xs,ys,rfl,rfl,ha,hb,hx,hz,q1,q2⟩:=h;cases rx;cases ry;obtain⟨its,r1,p1,_⟩:=I.tuple ha;obtain⟨its2,r2,p2,_⟩:=I.tuple hb;refine HT.a2l p1 p2 (λz=>hx (r1.nil_iff.mp z)) (λz=>⟨.ref a,H,I,rfl,q1 (r2.nil_iff.mp z)⟩) (λz=>?_) (by rw[<-r1.length,<-r2.length];exact hz)
 refine⟨.ref s.heap.objs.size,_,I.laid (t':=s.toks) (o:=.tup (xs++ys)) (λb ob q=>aB _ q) (aL _) ?_,rfl,q2 (λw=>z (r2.nil_iff.mpr w)) _ (I.hok.fresh (aL _))⟩
 exact⟨by rw[dB];exact hz,_,r1.append r2,IsTp.new _ _⟩
end
noncomputable def ixN(n:Nat)(i:Int):Option Nat:=if 0<=i then (if i<n then ZY i.toNat else ZX) else if -(n:Int)<=i then ZY (i+n).toNat else ZX
def atI{α:Type}(xs:List α)(i:Int):Option α:=(ixN xs.length i).bind λj=>xs[j]?
def atp(h:ixN n i=ZY j):seqIndex? i n=ZY j/\j<n /\ -(n:Int)<=i/\i<n:=by
 unfold ixN at h
 by_cases h0:0<=i
 ·rw[if_pos h0] at h
  by_cases h1:i<n
  ·rw[if_pos h1] at h;have e:i.toNat=j:=bJ h;exact⟨by rw[seqIndex_of h0 h1,e],by omega,by omega,h1⟩
  ·rw[if_neg h1] at h;cases h
 ·rw[if_neg h0] at h
  by_cases h1 : -(n:Int)<=i
  ·rw[if_pos h1] at h;have e:(i+n).toNat=j:=bJ h;exact⟨by rw[seqIndex_neg (by omega) h1,e],by omega,h1,by omega⟩
  ·rw[if_neg h1] at h;cases h
theorem an6(h:atI xs i=ZY v):∃j,seqIndex? i xs.length=ZY j/\xs[j]? = ZY v/\j<xs.length /\ -(xs.length:Int)<=i/\i<xs.length:=by
 unfold atI at h;cases e:ixN xs.length i with
 |none=>rw[e] at h;cases h
 |some j=>
  rw[e] at h;obtain⟨h1,h2,h3,h4⟩:=atp e;exact⟨j,h1,h,h2,h3,h4⟩
def akl{α:Type}{xs:List α}{j:Nat}{v:α}(h:xs[j]? = ZY v):atI xs (j:Int)=ZY v:=by
 have hj:j<xs.length:=(aJ.mp h).1;have e:ixN xs.length (j:Int)=ZY j:=by
  unfold ixN;rw[if_pos (by omega),if_pos (by omega)];simp
 unfold atI;rw[e];exact h
def avx(b:fP):Prop:=∀o i,subscripted b ZV o i=operate [o,i] (sU o i)
def IxR(X:Cx)(r:R2):Prop :=
 ∀(value slice:fP) (zv:List (bB×Obj)) (s:aN) (σ:St) (H:Hp) (x y:V) (v u:aH) (Q:VK),Inv X zv σ H s->RelV x v->RelV y u->r x y H Q ->
  subscripted slice ZV v u=operate [v,u] (sU v u)->bD 'D' X.A (subscriptTail value slice v u) (EP X zv σ Q) X.xe s
def MtR(X:Cx)(id:String)(r:V->List V->Hp->VK->Prop):Prop :=
 ∀(zv:List (bB×Obj)) (s:aN) (σ:St) (H:Hp) (x:V) (xs:List V) (v:aH) (us:List aH) (Q:VK),Inv X zv σ H s->RelV x v->Vals xs us->r x xs H Q ->
  bD 'D' X.A (call (.builtin id) (v::us)) (EP X zv σ Q) X.xe s
section
variable{X:Cx}{a b:fP}{ta tb:TE}{pos:Pos}
def a0t(hr:IxR X r)(ha:PE X a ta)(hb:PE X b tb)(hs:avx b):PE X (.Subscript a b pos) (tOp r ta tb):=by
 intro zv s σ H Q I h;exact Subscript_ (binT ha hb I h λv u s2 x y H2 I2 rx ry q=>hr a b zv s2 σ H2 x y v u Q I2 rx ry q (hs _ _))
def rIxL(K:Fg9):R2:=λx y H Q=>∃p xs i v,x=.ref p/\y=.int i/\SqL K H p xs/\atI xs i=ZY v/\Q v H
def rIxT(K:Fg9):R2:=λx y H Q=>∃p xs i v,x=.ref p/\y=.int i/\SqT K H p xs/\atI xs i=ZY v/\Q v H
def ane:IxR X (rIxL X.K):=by
 intro value slice zv s σ H x y v u Q I rx ry h hs;obtain⟨p,xs,i,z,rfl,rfl,hq,he,q⟩:=h;cases rx;obtain⟨t,rfl⟩:=ry;obtain⟨its,r,pl,hz⟩:=I.list hq;obtain⟨j,h1,h2,h3,h4,h5⟩:=an6 he;obtain⟨w,ew,rw'⟩:=r.get h2;have hl:=r.length;have hn:=alg;have fin:EP X zv σ Q w s:=⟨z,H,I,rw',q⟩
 by_cases h0:0<=i
 ·have hj:i.toNat=j:=by
   rw[seqIndex_of h0 h5] at h1;exact bJ h1
  exact item_listR pl.isList h0 (by omega) (by rw[hj];simpa using ew) fin hs
 ·have hj:(i+(its.toArray.size:Int)).toNat=j:=by
   rw[seqIndex_neg (by omega) h4] at h1
   rw[aP,<-hl];exact bJ h1
  exact subscriptTail_builtinR (x:=w) pl.isList.typeIs slot_list_getitem.lookup
   (wpAny_getItem_list_neg (Q:=λr s'=>r=w/\EP X zv σ Q r s') pl.isList (by omega) (by rw[aP] <;> omega) (by omega) (by rw[hj];simpa using ew) ⟨rfl,fin⟩) hs
def a6l:IxR X (rIxT X.K):=by
 intro value slice zv s σ H x y v u Q I rx ry h hs;obtain⟨p,xs,i,z,rfl,rfl,hq,he,q⟩:=h;cases rx;obtain⟨t,rfl⟩:=ry;obtain⟨its,r,pl,hz⟩:=I.tuple hq;obtain⟨j,h1,h2,h3,h4,h5⟩:=an6 he;obtain⟨w,ew,rw'⟩:=r.get h2;have hl:=r.length;have hn:=alg;have fin:EP X zv σ Q w s:=⟨z,H,I,rw',q⟩;exact subscriptTail_builtinR (x:=w) pl.typeIs slot_tuple_getitem.lookup
  (getItem_tuple (j:=j) (Q:=λr s'=>r=w/\EP X zv σ Q r s') pl (by omega) (by omega) (by rw[aP,<-hl];exact h1) (by simpa using ew) ⟨rfl,fin⟩) hs
def aqh(its:List aH)(n j:Nat)(u:aH):iM (·.setIfInBounds j u) { cls:=.type "list", data:=.seq its.toArray n }={ cls:=.type "list", data:=.seq (its.set j u).toArray n }:=by
 simp[iM]
def Inv.lst(I:Inv X zv σ H s)(h:H p=ZY (.lst xs)) :
  ∃(its:List aH) (n:Nat),Vals xs its/\s.heap.get? p=ZY { cls:=.type "list", data:=.seq its.toArray n }/\xs.length<=cU:=by
 obtain⟨z,its,n,r,e⟩:=I.hok p _ h;exact⟨its,n,r,e,z⟩
def Inv.lstUpd{zv:List (bB×Obj)}{σ:St}{H:Hp}{s:aN}{p:bB}{xs ys:List V}{its its':List aH}{n n':Nat}{f:Obj->Obj}(I:Inv X zv σ H s)(h:H p=ZY (.lst xs))
  (ho:s.heap.get? p=ZY { cls:=.type "list", data:=.seq its.toArray n }) (hf:f { cls:=.type "list", data:=.seq its.toArray n }={ cls:=.type "list", data:=.seq its'.toArray n' }) (r:Vals ys its') (hz:ys.length<=cU) (t:Nat) :
  Inv X zv σ (upd H p (.lst ys)) { s with heap:=s.heap.update p f,toks:=t }:=by
 have e:(s.heap.update p f).get? p=ZY { cls:=.type "list", data:=.seq its'.toArray n' }:=by
  rw[cC f ho (by rw[hf] <;> rfl),hf]
 refine I.write (x:=p) (e:=p) (by rw[h];trivial) (.inl rfl) (λb u hb q=>(bM _ _ (gY hb)).trans q) ⟨_,e⟩ ?_
 exact⟨hz,its',n',r,e⟩
def a80:V->V->V->Hp->(Hp->Prop)->Prop:=λo i v H Q=>∃p xs k j,o=.ref p/\i=.int k/\H p=ZY (.lst xs)/\ixN xs.length k=ZY j/\Q (upd H p (.lst (xs.set j v)))
def set_list:PSet X a80:=by
 intro zv s σ H o i v ov iv u Q I ro ri rv h;obtain⟨p,xs,k,j,rfl,rfl,hp,hj,q⟩:=h;cases ro;obtain⟨t,rfl⟩:=ri;obtain⟨its,n,r,ho,hz⟩:=I.lst hp;obtain⟨h1,h2,h3,h4⟩:=atp hj;have hl:=r.length;have hn:=alg;have I':Inv X zv σ (upd H p (.lst (xs.set j v))) { s with heap:=s.heap.update p (iM (·.setIfInBounds j u)) } :=
  I.lstUpd hp ho (aqh its n j u) (r.set rv j) (by rw[fH];exact hz) s.toks
 by_cases h0:0<=k
 ·have hk:k.toNat=j:=by
   rw[seqIndex_of h0 h4] at h1;exact bJ h1
  exact PySem.W.ki_setAt ho h0 (by omega) (by rw[aP,<-hl];exact h4) (by rw[hk];exact⟨_,I',q⟩)
 ·have hk:(k+(its.toArray.size:Int)).toNat=j:=by
   rw[seqIndex_neg (by omega) h3] at h1
   rw[aP,<-hl];exact bJ h1
  exact PySem.W.ki_setBack ho (by omega) (by rw[aP,<-hl];exact h3) (by omega) (by rw[hk];exact⟨_,I',q⟩)
def aku(lo hi:Option Int)(n:Nat):(sliceBounds lo hi ZX n).1=((HT.sIx n 0 lo:Nat):Int)/\(sliceBounds lo hi ZX n).2.1=((HT.sIx n n hi:Nat):Int)/\(sliceBounds lo hi ZX n).2.2=1:=by
 refine⟨?_,?_,rfl⟩
 ·cases lo with
  |none=>simp[sliceBounds,HT.sIx]
  |some i=>
   simp only[sliceBounds,HT.sIx,tW,show(1:Int) > 0 by decide,if_true]
   by_cases h:i<0
   ·simp only[h,if_true] <;> omega
   ·simp only[h,if_false] <;> omega
 ·cases hi with
  |none=>simp[sliceBounds,HT.sIx]
  |some i=>
   simp only[sliceBounds,HT.sIx,tW,show(1:Int) > 0 by decide,if_true]
   by_cases h:i<0
   ·simp only[h,if_true] <;> omega
   ·simp only[h,if_false] <;> omega
def aja(its:List aH)(lo hi:Option Int):slicePick its.toArray lo hi ZX=((its.drop (HT.sIx its.length 0 lo)).take (HT.sIx its.length its.length hi-HT.sIx its.length 0 lo)).toArray:=by
 obtain⟨h1,h2,h3⟩:=aku lo hi its.toArray.size;unfold slicePick;rw[h1,h2,h3];simp only[sliceRange_one,pick_run,aP] <;> rfl
def rSlL(K:Fg9):V->Option Int->Option Int->Hp->VK->Prop:=λx lo hi H Q=>∃a xs,x=.ref a/\SqL K H a xs/\∀p,H p=ZX->Q (.ref p) (upd H p (.lst (cutV xs lo hi)))
def ar3:SlR X (rSlL X.K):=by
 intro zv s σ H x v vl vu lo hi sl Q I rx hs pl pu h;obtain⟨a,xs,rfl,hx,q⟩:=h;cases rx;obtain⟨its,r,ht,hz⟩:=I.list hx;have hlen:=r.length;refine⟨"list", _,slot_list_getitem.lookup,ht.isList.typeIs,?_⟩;refine wpAny_getItem_list_slice ht.isList hs pl pu .none (by simp) ?_ (by rw[aP] <;> omega)
 rw[aja,<-hlen];refine⟨.ref s.heap.objs.size,_,I.laid (t':=s.toks) (o:=.lst (cutV xs lo hi)) (λb ob q=>aB _ q) (aL _) ?_,rfl,q _ (I.hok.fresh (aL _))⟩
 exact⟨Nat.le_trans (ahu xs lo hi) hz,_,0,(r.drop (HT.sIx xs.length 0 lo)).take (HT.sIx xs.length xs.length hi-HT.sIx xs.length 0 lo),aM _ rfl⟩
def al6:abx X (.builtin "len") (λxs H Q=>∃p ys,xs=[.ref p]/\(SqL X.K H p ys∨SqT X.K H p ys)/\Q (.int ys.length) H):=by
 intro zv s σ H xs us Q I r h;obtain⟨p,ys,rfl,hq,q⟩:=h;obtain⟨u,rfl,rx⟩:=vals1 r;cases rx;have hn:=alg;rcases hq with hq |hq
 ·obtain⟨its,r',pl,hz⟩:=I.list hq;have hlen:=r'.length;exact Calls.call_len_list pl.isList (by simp only[aP] <;> omega) ⟨.int ys.length,H,I.tok _,⟨s.toks+1,by rw[aP,hlen]⟩,q⟩
 ·obtain⟨its,r',pl,hz⟩:=I.tuple hq;have hlen:=r'.length;exact len_tuple pl (by simp only[aP] <;> omega) ⟨.int ys.length,H,I.tok _,⟨s.toks+1,by rw[aP,hlen]⟩,q⟩
def al5:abx X (.type "list") (λxs H Q=>∃p ys,xs=[.ref p]/\(SqL X.K H p ys∨SqT X.K H p ys)/\∀l,H l=ZX->Q (.ref l) (upd H l (.lst ys))):=by
 intro zv s σ H xs us Q I r h;obtain⟨p,ys,rfl,hq,q⟩:=h;obtain⟨u,rfl,rx⟩:=vals1 r;cases rx;have fin:∀(its:List aH),Vals ys its->ys.length<=cU->∀(h':iK) (c':Nat),(∀b o',s.heap.get? b=ZY o'->h'.get? b=ZY o') ->
   h'.get? s.heap.objs.size=ZY { cls:=.type "list", dict:=ZX,data:=.seq its.toArray c',slots := #[] }->EP X zv σ Q (.ref s.heap.objs.size) { s with heap:=h' }:=λits r' hz h' c' kp e=>
  ⟨.ref s.heap.objs.size,_,I.laid (t':=s.toks) kp (aL _) (show yg X.prog X.w _ h' _ (.lst ys) from⟨hz,its,c',r',e⟩),rfl,q _ (I.hok.fresh (aL _))⟩
 rcases hq with hq |hq
 ·obtain⟨its,r',pl,hz⟩:=I.list hq;have hlen:=r'.length;obtain⟨o,ho,hc,n,hd⟩:=pl.isList;exact call_list_seq p (.inl rfl) ho hc hd (λh' c' kp e=>fin its r' hz h' c' kp e) (by simp only[aP] <;> omega)
 ·obtain⟨its,r',pl,hz⟩:=I.tuple hq;have hlen:=r'.length;obtain⟨o,ho,hc,n,hd⟩:=pl;exact call_list_seq p (.inr rfl) ho hc hd (λh' c' kp e=>fin its r' hz h' c' kp e) (by simp only[aP] <;> omega)
def abv:abx X (.type "tuple") (λxs H Q=>∃p ys,xs=[.ref p]/\((SqL X.K H p ys/\∀l,H l=ZX->Q (.ref l) (upd H l (.tup ys)))∨(SqT X.K H p ys/\Q (.ref p) H))):=by
 intro zv s σ H xs us Q I r h;obtain⟨p,ys,rfl,h⟩:=h;obtain⟨u,rfl,rx⟩:=vals1 r;cases rx;rcases h with⟨hq,q⟩ |⟨hq,q⟩
 ·obtain⟨its,r',pl,hz⟩:=I.list hq;have hlen:=r'.length;refine call_tuple_list pl.isList (λh' kp=>?_) (by simp only[aP] <;> omega)
  have I1:Inv X zv σ H { s with heap:=h' }:=I.kept (t':=s.toks) kp
  have I2:Inv X zv σ (upd H h'.objs.size (.tup ys)) { s with heap:=h'.push { cls:=.type "tuple", data:=.seq its.toArray } } :=
   I1.laid (t':=s.toks) (λb o e=>aB _ e) (aL _) (show yg X.prog X.w _ _ _ (.tup ys) from⟨hz,its,r',IsTp.new _ _⟩)
  exact⟨.ref h'.objs.size,_,I2,rfl,q _ (I1.hok.fresh (aL _))⟩
 ·obtain⟨its,r',pl,hz⟩:=I.tuple hq;exact call_tuple_same pl ⟨.ref p,H,I,rfl,q⟩
def tyV(K:Fg9)(T:String)(x:V)(H:Hp):Prop:=match x with
 |.str _=>T = "str"
 |.int _=>T = "int"
 |.ref p=>(T = "list" /\ ∃xs,SqL K H p xs)∨(T = "tuple" /\ ((∃o,K.lookup p=ZY o/\o.cls=.type "tuple" /\ o.dict=ZX)∨∃xs,H p=ZY (.tup xs))) ∨
   (T = "dict" /\ ((∃kvs,H p=ZY (.dK kvs))∨∃kvs,H p=ZY (.dT kvs)))∨(T = "set" /\ ∃S n,H p=ZY (.set S n))
 |_=>False
theorem a3j(I:Inv X zv σ H s)(r:RelV x v)(ty:tyV X.K T x H) :
  s.TypeIs v T/\∀a,v=.ref a->∃ob,s.heap.get? a=ZY ob/\ob.dict=ZX:=by
 cases x with
 |str z=>
  obtain⟨t,rfl⟩:=r;cases(show T = "str" from ty)
  exact⟨typeIs_str s z t,λ_ e=>nomatch e⟩
 |int i=>
  obtain⟨t,rfl⟩:=r;cases(show T = "int" from ty)
  exact⟨typeIs_int s i t,λ_ e=>nomatch e⟩
 |ref p=>
  cases r;rcases ty with⟨rfl,xs,hq⟩ |⟨rfl,⟨o,hk,hc,hd⟩ |⟨xs,hk⟩⟩ |⟨rfl,hk⟩ |⟨rfl,S,n,hk⟩
  ·obtain⟨its,_,pl,_⟩:=I.list hq;refine⟨pl.isList.typeIs,λa e=>?_⟩
   cases e;obtain⟨o,n,e,c,hd,_⟩:=pl;exact⟨o,e,hd⟩
  ·refine⟨⟨o,I.kIn p o hk,hc⟩,λa e=>?_⟩
   cases e;exact⟨o,I.kIn _ o hk,hd⟩
  ·obtain⟨_,_,_,o,e,hc,hd,_⟩:=I.hok p _ hk;refine⟨⟨o,e,hc⟩,λa e2=>?_⟩
   cases e2;exact⟨o,e,hd⟩
  ·have z:∃o,s.heap.get? p=ZY o/\o.ExactDict:=by
    rcases hk with⟨kvs,hk⟩ |⟨kvs,hk⟩
    ·obtain⟨_,_,_,_,o,_,_,e,ex,_⟩:=I.hok p _ hk;exact⟨o,e,ex⟩
    ·obtain⟨_,_,_,_,o,_,_,e,ex,_⟩:=I.hok p _ hk;exact⟨o,e,ex⟩
   obtain⟨o,e,ex⟩:=z;refine⟨⟨o,e,ex.1⟩,λa e2=>?_⟩
   cases e2;exact⟨o,e,ex.2.1⟩
  ·obtain⟨o,_,_,_,e,ex,_⟩:=I.hok p _ hk;refine⟨⟨o,e,ex.1⟩,λa e2=>?_⟩
   cases e2;exact⟨o,e,ex.2.1⟩
 |_=>exact fW ty
def tBM(K:Fg9)(T:String)(r:V->List V->Hp->VK->Prop)(to:TE)(t:TA):TE:=λσ H Q=>to σ H λx H1=>tyV K T x H1/\t σ H1 λxs H2=>r x xs H2 Q
variable{o e:fP}{es:List fP}{to:TE}{t:TA}{name:Str}{apos cpos:Pos}{T id:String}{r:V->List V->Hp->VK->Prop}
def awv(pa:PlainAttrs T)(slot:Slot T name id)(hty:typeOf (.builtin id)=pure (.type "method_descriptor"))(hm:MtR X id r)(ho:PE X o to)(ha:PA X (e::es) t)
  (hbase:attributeBase o name X.env (eval o X.env)=eval o X.env:=by rfl)
  (hfew:((kI cpos (aQ (e::es) X.env)).all (λx => !x.1)&&(backToKw cpos (keywordEach [] X.env)).all (λx=>x.1.isSome)
   && decide ((e::es).length+([]:List rQ).length+(if ([]:List rQ).isEmpty then 0 else 1)<30))=ZW:=by rfl)
  (hline:(apos.endLine==cpos.line)=ZW:=by rfl) (hs:Zc X e es:=by rfl) (hplain:(kI cpos (aQ es X.env)).any (·.1)=ZV:=by rfl) :
  PE X (.Call (.Attribute o name apos) (e::es) [] cpos) (tBM X.K T r to t):=by
 intro zv s σ H Q I h;refine wpAny_Call_method_late hbase hfew hline rfl (thn (ho zv s σ H _ I h) λv s1 ⟨x,H1,I1,r1,ty,q1⟩=>?_)
 obtain⟨h1,h2⟩:=a3j I1 r1 ty;refine⟨T,id,pa,slot,hty,h1,h2,?_⟩;have hA:=ha cpos zv s1 σ H1 _ I1 q1;rw[hs] at hA ⊢
 refine Calls.callWith_builtin (by show(ZV||(kI cpos (aQ es X.env)).any (·.1))=ZV;rw[hplain] <;> rfl) (wO ?_)
 exact thn hA λus s2 ⟨vs,H2,I2,r2,q2⟩=>hm zv s2 σ H2 x vs v us Q I2 r1 r2 q2
end
def MtM(X:Cx)(id:String)(r:V->List V->Hp->VK->Prop):Prop :=
 ∀(zv:List (bB×Obj)) (s:aN) (σ:St) (H:Hp) (x:V) (xs:List V) (v:aH) (us:List aH) (Q:VK),Inv X zv σ H s->RelV x v->Vals xs us->r x xs H Q ->
  bD 'D' X.A (call (.builtin id) (v::us)) (EP X zv σ Q) X.xe s
theorem Vals.one:∀{x:V} {us:List aH},Vals [x] us->∃u,us=[u]/\RelV x u
 |_,_,.cons r .nil=>⟨_,rfl,r⟩
theorem Vals.rep(h:Vals xs us):∀k:Nat,Vals (aK k xs).flatten (aK k us).flatten
 | 0=>.nil
 |k+1=>by
  rw[fG,fG,jZ,jZ];exact Vals.append h (Vals.rep h k)
theorem foldl_rep(its:List aH):∀(k:Nat) (acc:List aH),
  nT (λx1 x2=>x1++x2) acc.toArray (aK k its.toArray)=(acc++(aK k its).flatten).toArray
 | 0,acc=>by simp
 |k+1,acc=>by
  have e:acc.toArray++its.toArray=(acc++its).toArray:=by simp
  have e2:(acc++its)++(aK k its).flatten=acc++(aK (k+1) its).flatten:=by
   rw[fG,jZ,cZ]
  rw[<-e2,<-foldl_rep its k (acc++its),<-e,fG,zZ]
section
variable{X:Cx}{zv:List (bB×Obj)}{σ:St}{H:Hp}{s:aN}{l b:bB}{xs ys zs:List V}
def Inv.lset{its its':List aH}{n:Nat}{f:Array aH->Array aH}{t':Nat}(I:Inv X zv σ H s)(hH:H l=ZY (.lst xs))
  (e:s.heap.get? l=ZY { cls:=.type "list", data:=.seq its.toArray n }) (hf:f its.toArray=its'.toArray) (hv:Vals ys its') (hz:ys.length<=cU) :
  Inv X zv σ (upd H l (.lst ys)) { s with heap:=s.heap.update l (iM f),toks:=t' }:=by
 have q:=PySem.IsL.update e f;rw[hf] at q;refine I.write (x:=l) (e:=l) (by rw[hH];exact trivial) (.inl rfl) (λb' u hb hu=>(bM s.heap (iM f) (gY hb)).trans hu) ⟨_,q⟩ ?_
 exact⟨hz,its',_,hv,q⟩
def Inv.lnew(I:Inv X zv σ H s)(hv:Vals ys its)(hz:ys.length<=cU) :
  Inv X zv σ (upd H s.heap.objs.size (.lst ys)) { s with heap:=s.heap.push { cls:=.type "list", data:=.seq its.toArray },toks:=t' } :=
 I.laid (λ_ _ q=>aB _ q) (aL _) ⟨hz,its,0,hv,aM _ rfl⟩
def Inv.fresh(I:Inv X zv σ H s):H s.heap.objs.size=ZX:=I.hok.fresh (aL _)
def Inv.lstM(I:Inv X zv σ H s)(hH:H l=ZY (.lst xs)):xs.length<=cU/\∃(its:List aH) (n:Nat),Vals xs its/\xs.length=its.length/\s.heap.get? l=ZY { cls:=.type "list", data:=.seq its.toArray n }:=by
 obtain⟨z,its,n,r,e⟩:=I.hok l _ hH;exact⟨z,its,n,r,r.length,e⟩
def aw5(h:n<=cU):vK n=ZV:=by
 unfold vK;exact decide_eq_false (by omega)
end
section
variable{X:Cx}
def asf:V->List V->Hp->VK->Prop:=λx vs H Q=>∃l xs y,x=.ref l/\vs=[y]/\H l=ZY (.lst xs)/\xs.length<cU/\Q .non (upd H l (.lst (xs++[y])))
def aa5:MtM X "list.append" asf:=by
 intro zv s σ H x vs v us Q I rx rv h;obtain⟨l,xs,y,rfl,rfl,hH,hz,q⟩:=h;cases rx;obtain⟨u,rfl,ru⟩:=rv.one;obtain⟨z,its,n,r,hl,e⟩:=I.lstM hH;refine kZ F.slot_list_append ⟨_,e,rfl⟩ F.entry_list_append (F.args_list_append_2 _ _) (PySem.list_append l its.toArray n u (by rw[aP];omega)) ⟨e,?_⟩
 refine⟨.non,_,I.lset (its':=its++[u]) hH e (by simp) (r.append (.cons ru .nil)) ?_,rfl,q⟩
 rw[dB,List.length_singleton];omega
def rCat:R2:=λx y H Q=>∃l b xs zs,x=.ref l/\y=.ref b/\H l=ZY (.lst xs)/\H b=ZY (.lst zs)/\xs.length+zs.length<=cU/\∀p,H p=ZX->Q (.ref p) (upd H p (.lst (xs++zs)))
def a5l:OpR X (fB .Add) rCat:=by
 intro zv s σ H x y v u Q I rx ry h;obtain⟨l,b,xs,zs,rfl,rfl,hH,hB,hz,q⟩:=h;cases rx;cases ry;obtain⟨z,its,n,r,hl,e⟩:=I.lstM hH;obtain⟨z2,its2,n2,r2,hl2,e2⟩:=I.lstM hB;refine PySem.P.add_list e e2 ?_ (by rw[aP,aP];omega)
 have ea:its.toArray++its2.toArray=(its++its2).toArray:=by simp
 rw[ea];exact⟨.ref _,_,I.lnew (t':=s.toks) (r.append r2) (by rw[dB];omega),rfl,q _ I.fresh⟩
def rRep:R2:=λx y H Q=>∃l k xs,x=.ref l/\y=.int k/\H l=ZY (.lst xs) /\ -(2 ^ 63)<=k/\k<2 ^ 63/\xs.length*k.toNat<=cU /\
 ∀p,H p=ZX->Q (.ref p) (upd H p (.lst (aK k.toNat xs).flatten))
theorem len_rep(xs:List α)(k:Nat):(aK k xs).flatten.length=k*xs.length:=by
 induction k with
 |zero=>simp
 |succ k ih=>rw[fG,jZ,dB,ih,Nat.succ_mul,Nat.add_comm]
def a5h:OpR X (fB .Mult) rRep:=by
 intro zv s σ H x y v u Q I rx ry h;obtain⟨l,k,xs,rfl,rfl,hH,h1,h2,hz,q⟩:=h;cases rx;obtain⟨t,rfl⟩:=ry;obtain⟨z,its,n,r,hl,e⟩:=I.lstM hH;have hlen:its.toArray.size*k.toNat<=cU:=by rw[aP,<-hl];exact hz
 have hcap:¬its.toArray.size*k.toNat > (2 ^ 63-1) / 8:=by
  have:(cU:Nat)<=(2 ^ 63-1) / 8:=by decide
  omega
 have hfit:¬(!Builtin.List.listFitsIndex k)=ZW:=by
  rw[fitsIndex_both h1 h2];exact cM
 have hlong:¬Builtin.List.listTooLong (its.toArray.size*k.toNat)=ZW:=by
  rw[aw5 hlen];exact cM
 have hnew:nT (λx1 x2=>x1++x2) #[] (aK (if its.toArray.isEmpty=ZW then 0 else k.toNat) its.toArray)=(aK k.toNat its).flatten.toArray:=by
  have f0:∀m:Nat,nT (λx1 x2=>x1++x2) #[] (aK m its.toArray)=(aK m its).flatten.toArray:=λm=>by
   have:=foldl_rep its m [];rw[bQ] at this;exact this
  rw[f0];cases its with
  |nil=>simp
  |cons a r'=>rw[if_neg (by simp)]
 refine wpAny_binaryOp_repeat_ref (T := "list") (U := "int") (by decide) ⟨_,e,rfl⟩ (λs'=>nR s' k t) noFill_list_mul qR kE repeat_list pR.lookup
  (kZ kE (nR s k t) pU (pC _ _) (int___rmul___int_list k t l its.toArray n)
   ⟨e,rfl,⟨_,e,rfl⟩,kZ F.slot_list_mul ⟨_,e,rfl⟩ F.entry_list_mul (F.args_list_mul_2 _ _) (AutoListH.list___mul___list_int_3 l its.toArray n k t hfit hcap hlong) ⟨e,?_⟩⟩)
 rw[hnew];exact⟨.ref _,_,I.lnew (t':=s.toks) (r.rep k.toNat) (by rw[len_rep,oN];exact hz),rfl,q _ I.fresh⟩
end
section
variable{prog:cF}{w:dX}{A:dG}{E:aH->aN->Prop}{s:aN}
end
section
variable{X:Cx}
end
end L2
namespace Att
open PySem PySem.W PySem.Calls PyProof.Rows
theorem ahf:∀(ns:List Int) (vs:List aH),WellAll P h vs (ns.map WData.int)->nA vs ns:=by
 intro ns
 induction ns with
 |nil=>
  intro vs w;rw[wH] at w;cases w;exact .nil
 |cons n ns ih=>
  intro vs w;rw[bH] at w;cases w with
  |cons a b=>
   cases a;exact .cons _ _ (ih _ b)
theorem ar8{l:OpenLaw}{n:Nat}(hn:l.most=ZY n){P:Params}{h:iK}{args:List WData}{vals:List aH}
  (hpre:l.row.toRowW.claim.pre args=ZW) (hwl:WellAll P h vals args) :
  ∃a vs ns,vals=[cY a]/\args=[WData.list (ns.map WData.int)]/\h.get? a=ZY { cls:=.type "list", data:=.seq vs.toArray }/\nA vs ns/\ns.length<=n:=by
 have hsh:WShape.hasAll [] args [.list .int]=ZW:=(pre_splitW hpre).1;have hc:l.pre.holds [] { args:=args }=ZW:=(pre_splitW hpre).2;obtain⟨d,r,rfl,h1,h2⟩:=hasAllW_cons hsh;obtain rfl:=hasAllW_nil h2;obtain⟨xs,rfl,h3⟩:=hasW_list h1;obtain⟨ns,rfl⟩:=items_int h3;have hlen:ns.length<=n:=by
  unfold OpenLaw.pre at hc;have h4:(WTm.not (.lt (.lit (.int (n:Int))) (.len (.arg 0)))).holds [] { args:=[.list (ns.map .int)] }=ZW:=by
   have h4:=(holds_andW hc).1;rw[hn] at h4;exact h4
  have h5:=condW_of h4 (w_not (w_lt w_lit (w_len_list (w_arg rfl))));rw[aU] at h5;refine Nat.le_of_not_lt λq=>?_
  have q':(n:Int)<((ns.length:Nat):Int):=by omega
  first
   | (rw[decide_eq_true q'] at h5;exact absurd h5 (by decide))
   | (simp at h5;omega)
 cases hwl with
 |cons w1 w2=>
  cases w2;cases w1 with
  |list ho hall=>exact⟨_,_,ns,rfl,rfl,ho,ahf ns _ hall,hlen⟩
def asl(l:OpenLaw)(args:List WData):l.row.toRowW.claim.post args (.bool ZW) args=ZW :=
 postW_of (r:=l.row.toRowW) (X:=(ZW==ZW))
  (show WShape.has [] (.bool ZW) .bool=ZW by first |rfl |decide |simp[WShape.has,WShape.arms,WShape.armsAll])
  (show(WTm.eq .res (.lit (.bool ZW))).value [] { args:=args,res:=ZY (.bool ZW),after:=args }=ZY (.bool (ZW==ZW)) from w_eq_bool (w_res rfl) w_lit) rfl
def an4{l:OpenLaw}{n:Nat}{q:cF}{loose:List Str}{XP:(Str->Option aH)->iK->Prop}{YP:dX->iK->Prop}{d:DefRec}
  (hn:l.most=ZY n) (hdf:d.params.defaults=[])
  (call:∀(w:dX) (s₀ s₁:aN) (mg mb:Str->Option aH) (fa:bB) (o:Obj) (pm cd doc:aH) (a:bB) (vs:List aH) (ns:List Int),
   Ground q loose [] XP w s₀ mg mb s₁.heap->YP w s₁.heap ->
   s₁.heap.get? fa=ZY o->o.data=.func (docDef d.name d.params d.body d.scope pm cd doc)->s₁.heap.CodeRec cd d.name->mg d.name=ZY (.ref fa) ->
   s₁.heap.get? a=ZY { cls:=.type "list", data:=.seq vs.toArray }->nA vs ns->ns.length<=n->s₁.gens = #[] ->
   mZ (bT l.prog w) sV (.call (.ref fa) ⟨[.ref a],[]⟩) (λr s'=>r=.ok (.ret (.bool ZW))/\OldK s₁.heap s'.heap/\s'.os=s₁.os/\qU s'.gens) s₁) :
  WalkO q loose XP YP l.row.toRowW d [] (λf vs=>yI f vs):=by
 intro w s₀ s₁ mg mb G Y fa o pm cd doc dV kV ho hd hcd hD hmg hg args vals as hpre hlay hrd hwl hlo;obtain rfl:dV=.none:=Dflts.none hD hdf;obtain rfl:kV=.none:=Dflts.noKw hD;obtain⟨a,vs,ns,rfl,rfl,hobj,hints,hlen⟩:=ar8 hn hpre hwl;refine enter_call (lE (call w s₀ s₁ mg mb fa o pm cd doc a vs ns G Y ho (fd_plain hd) hcd hmg hobj hints hlen hg) λr s' hq=>?_)
 obtain⟨rfl,h2,h3,h4⟩:=hq;exact⟨.inl ⟨.bool ZW,.bool ZW,[],rfl,λ_=>rfl,.bool ZW,asl l _,λ_=>⟨List.Pairwise.nil,λ_ hm=>(nomatch hm)⟩⟩,h2,h3,h4⟩
section
variable{prog:cF}{w:dX}{A:dG}{E:aH->aN->Prop}{s:aN}{K:Frag}
end
end Att
namespace L2
theorem akp:∀{vs:List aH} {ns:List Int},nA vs ns->Vals (ns.map V.int) vs
 |_,_,.nil=>.nil
 |_,_,.cons n t h=>.cons ⟨t,rfl⟩ (akp h)
theorem axi{P:cF}{w:dX}{K:Fg9}{mg mb:Str->Option aH}{CX:CXT}{k:Nat}{fa a:bB}{fd:eU}{x:Str}{sp:Sp}{s₁:aN}{vs:List aH}{ns:List Int}{c P₀:bB}
  (KX:K.In s₁.heap) (hns:s₁.heap.Ns aW mg) (hb:s₁.heap.Ns builtinsNs mb) (hbb:∀x:Str,x ≠ "__name__" -> mb x=bY x) (hlim:s₁.heap.NoLimit) (hg:s₁.gens = #[])
  (ha:s₁.heap.get? a=ZY { cls:=.type "list", data:=.seq vs.toArray }) (hi:nA vs ns) (hl:ns.length<=cU) (hr:Room k sV)
  (hT:iW K LamN=ZY (c,P₀)) (hC:tV K c P₀=ZW) (hP:s₁.heap.get? P₀=ZY (uX #[])) (hKP:K.lookup P₀=ZX)
  (hbm:∃bm o,mg "__builtins__"=ZY (.ref bm)/\bm≠builtinsNs/\s₁.heap.get? bm=ZY o/\o.cls=.type "module" /\ o.dict=ZY builtinsNs/\o.data=.plain)
  (F:∀base:iK,K.In base->base.Ns aW mg->FnOk P w K mg base CX k fa fd [x] sp) (hbind:∀(s:aN) (u:aH),pP s fd ⟨[u],[]⟩ [(x,u)])
  (hsp:∀H:Hp,SqL K H a (ns.map V.int)->sp [.ref a] H (λv _=>v=.bl ZW) λ_ _ _=>False)
  (hCX:∀H e s',CX [] H s₁ (λ_ _ _=>False) e s'->False) :
  mZ (bT P w) sV (.call (.ref fa) ⟨[.ref a],[]⟩) (λr s'=>r=.ok (.ret (.bool ZW))/\OldK s₁.heap s'.heap/\s'.os=s₁.os/\qU s'.gens) s₁:=by
 have rv:=akp hi;have lenV:=hi.length;have neA:a≠P₀:=λz=>by
  rw[z,hP] at ha;cases ha
 have core:∀H:Hp,SqL K H a (ns.map V.int)->HOk P w H s₁.heap->(∀b,H b≠ZX->b=a∨b=P₀)->H P₀=ZY (.tbl #[])->(∀u,H a=ZY u->K.lookup a=ZX/\∃o xs,u=.frz o (.lst xs)) ->
   mZ (bT P w) sV (.call (.ref fa) ⟨[.ref a],[]⟩) (λr s'=>r=.ok (.ret (.bool ZW))/\OldK s₁.heap s'.heap/\s'.os=s₁.os/\qU s'.gens) s₁:=by
  intro H hS hok hA hHP hK;have base_of:∀{b:bB} {o:Obj},s₁.heap.get? b=ZY o->H b=ZX->(hidT s₁.heap H).get? b=ZY o:=λe n=>axs e n
  have noO:∀{b:bB} {o:Obj},s₁.heap.get? b=ZY o->o.cls≠.none->o.cls≠.type "list" -> H b=ZX:=λ{b o} e d1 d2=>by
   cases q:H b with
   |none=>rfl
   |some u=>
    rcases hA b (by rw[q];simp) with e' |e'
    ·subst e';rw[ha] at e;cases e;exact absurd rfl d2
    ·subst e';rw[hP] at e;cases e;exact absurd rfl d1
  have noA:∀{b:bB} {o:Obj} {es:Array DictEntry} {ep:Nat},s₁.heap.get? b=ZY o->o.data=.dict es ep->H b=ZX:=λ{b o es ep} e d=>by
   cases q:H b with
   |none=>rfl
   |some u=>
    rcases hA b (by rw[q];simp) with e' |e'
    ·subst e';rw[ha] at e;cases e;have d':Aw vs.toArray _=Data.dict es ep:=d;cases d'
    ·subst e';rw[hP] at e;cases e;have d':Data.fields (#[]:Array aH)=Data.dict es ep:=d;cases d'
  have nsK:∀{b:bB} {m:Str->Option aH},s₁.heap.Ns b m->(hidT s₁.heap H).Ns b m:=λ{b m} ⟨o,es,ep,e,d,r⟩=>⟨o,es,ep,base_of e (noA e d),d,r⟩
  have hKb:K.In (hidT s₁.heap H):=λb o e=>base_of (KX b o e) (by
   cases q:H b with
   |none=>rfl
   |some u=>
    rcases hA b (by rw[q];simp) with e' |e'
    ·subst e';rw[(hK u q).1] at e;cases e
    ·subst e';rw[hKP] at e;cases e)
  have hM:Mod K mg (hidT s₁.heap H):=⟨hKb,nsK hns,⟨mb,nsK hb,hbb⟩,let ⟨mc,h1,h2⟩:=hlim;⟨mc,nsK h1,h2⟩⟩
  have hTb:Tb K mg (hidT s₁.heap H) H:=by
   obtain⟨bm,o,b1,b2,b3,b4,b5⟩:=hbm;refine⟨λc' P' h=>?_,bm,o,b1,b2,base_of b3 (noO b3 (by rw[b4];simp) (by rw[b4];simp)),b4,b5⟩
   rw[hT] at h;cases h;exact⟨PySem.W.codeHd_of_K hKb hC,_,hHP⟩
  have e0:Env0 P w K mg (hidT s₁.heap H) sV [] s₁ H:=⟨rfl,hM,λb o e=>a07 e,wG (at3 _ _),trivial,λb hb=>absurd (show b∈([]:List bB) from hb) (by simp),hok,.of_eq hg,hTb⟩
  refine lE ((F _ hKb (nsK hns)).run sV [] s₁ H ⟨[.ref a],[]⟩ [.ref a] [.ref a] _ _ hr e0 (hbind s₁ (.ref a)) (.cons rfl .nil) (hsp H hS)) λr s' h=>?_
  cases r with
  |error e=>exact(hCX H e s' h).elim
  |ok fl=>
   cases fl with
   |next=>exact fW h
   |brk=>exact fW h
   |cont=>exact fW h
   |ret u=>
    obtain⟨v,H',os,bare,un,hok',r',q⟩:=h;have q':v=.bl ZW:=q;subst q';obtain rfl:u=qX ZW:=r';obtain⟨more,hP'⟩:=un.tbls P₀ _ hHP;obtain⟨qs,hqs,_⟩:=hok' P₀ _ hP';have kp:∀b o,b≠P₀->s₁.heap.get? b=ZY o->s'.heap.get? b=ZY o:=λb o nb e=>by
     cases q:H b with
     |none=>exact un.keep b o e q (by intro z;exact absurd (show b∈([]:List bB) from z) (by simp)) (by simp)
     |some u=>
      rcases hA b (by rw[q];simp) with e' |e'
      ·subst e';obtain⟨_,ob,xs,rfl⟩:=hK u q;have z2:=un.frzs b ob _ q;obtain⟨e1,_⟩:=hok b _ q;obtain⟨e2,_⟩:=hok' b _ z2;rw[e] at e1;cases e1;exact e2
      ·exact absurd e' nb
    refine⟨rfl,⟨λb o e=>?_,λb o e=>?_⟩,os,bare⟩
    ·by_cases hb:b=P₀
     ·subst hb;rw[hP] at e;cases e;exact .inr (.inl ⟨((PySem.W.codeHd_of_K KX hC).tab hP).isCodeTable,rfl,#[],qs,rfl,by rw[Array.empty_append];exact hqs⟩)
     ·exact .inl (kp b o hb e)
    ·by_cases hb:b=P₀
     ·subst hb;exact⟨_,hqs⟩
     ·exact⟨o,kp b o hb e⟩
 have tabK:∀H:Hp,TabO H s₁.heap P₀:=λH=>⟨#[],hP,trivial,λpos cv e=>by cases(show(ZX:Option aH)=ZY cv from e)⟩
 cases hk:K.lookup a with
 |some o=>
  have e:=KX a o hk;rw[ha] at e;cases e;refine core (λb=>if b=P₀ then ZY (.tbl #[]) else ZX) (.inr ⟨_,vs.toArray,_,hk,rfl,rfl,rfl,by rw[aP,lenV];exact hl,by simpa using rv⟩) (λb u z=>?_) (λb z=>?_) (if_pos rfl) λu z=>?_
  ·by_cases hb:b=P₀
   ·have z':=(if_pos hb).symm.trans z;cases z';subst hb;exact tabK _
   ·have z':=(if_neg hb).symm.trans z;cases z'
  ·by_cases hb:b=P₀
   ·exact .inr hb
   ·exact absurd (if_neg hb) z
  ·have z':=(if_neg neA).symm.trans z;cases z'
 |none=>
  refine core (λb=>if b=a then ZY (.frz { cls:=.type "list", data:=.seq vs.toArray } (.lst (ns.map V.int))) else if b=P₀ then ZY (.tbl #[]) else ZX) (.inl (.inr ⟨{ cls:=.type "list", data:=.seq vs.toArray },if_pos rfl⟩)) (λb u z=>?_) (λb z=>?_) ((if_neg (gY neA)).trans (if_pos rfl)) λu z=>?_
  ·by_cases hb:b=a
   ·have z':=(if_pos hb).symm.trans z;cases z';subst hb;exact⟨ha,by rw[aU];exact hl,vs,_,rv,ha⟩
   ·by_cases hb2:b=P₀
    ·have z':=((if_neg hb).trans (if_pos hb2)).symm.trans z;cases z';subst hb2;exact tabK _
    ·have z':=((if_neg hb).trans (if_neg hb2)).symm.trans z;cases z'
  ·by_cases hb:b=a
   ·exact .inl hb
   ·by_cases hb2:b=P₀
    ·exact .inr hb2
    ·exact absurd ((if_neg hb).trans (if_neg hb2)) z
  ·have z':=(if_pos rfl).symm.trans z;cases z';exact⟨hk,_,_,rfl⟩
def azn{l:uD}{n k:Nat}{q:cF}{loose:List Str}{XP:(Str->Option aH)->iK->Prop}{YP:dX->iK->Prop}{d:DefRec}{K:Params->Fg9}{CX:dX->CXT}{sp:dX->Sp}{x:Str}
  (hn:l.most=ZY n) (hn2:n<=cU) (hdf:d.params.defaults=[]) (hr:Room k sV)
  (hY:∀(w:dX) (h:iK),YP w h->(K w.params).In h/\∃c P₀,iW (K w.params) LamN=ZY (c,P₀)/\tV (K w.params) c P₀=ZW/\h.get? P₀=ZY (uX #[])/\(K w.params).lookup P₀=ZX)
  (F:∀(w:dX) (mg:Str->Option aH) (fa:bB) (h:iK),(K w.params).In h->h.Ns aW mg->mg d.name=ZY (.ref fa) ->
   ∃fd:eU,(∀(s:aN) (u:aH),pP s fd ⟨[u],[]⟩ [(x,u)]) /\
    ∀base:iK,(K w.params).In base->base.Ns aW mg->FnOk l.prog w (K w.params) mg base (CX w) k fa fd [x] (sp w))
  (hsp:∀(w:dX) (H:Hp) (a:bB) (ns:List Int),ns.length<=n->SqL (K w.params) H a (ns.map V.int)->sp w [.ref a] H (λv _=>v=.bl ZW) λ_ _ _=>False)
  (hCX:∀(w:dX) (H:Hp) (s:aN) (e:aH) (s':aN),CX w [] H s (λ_ _ _=>False) e s'->False) :
  Ar q loose XP YP l.row.toRowW d [] (λf vs=>yI f vs):=by
 refine Att.an4 hn hdf λw s₀ s₁ mg mb fa o pm cd doc a vs ns G Y ho hd hcd hmg hobj hints hlen hg=>?_
 obtain⟨KX,c,P₀,h1,h2,h3,h4⟩:=hY w _ Y;obtain⟨fd,hb,hF⟩:=F w mg fa _ KX G.T.g hmg;obtain⟨bm,ob,b1,b2,b3,b4,b5,b6⟩:=G.T.bmain;exact axi KX G.T.g G.T.b G.T.builtins G.T.nolimit hg hobj hints (bV hlen hn2) hr h1 h2 h3 h4 ⟨bm,ob,b1,b2,b3,b4,b5,b6⟩ hF hb (λH hS=>hsp w H a ns hlen hS) λH e s'=>hCX w H s₁ e s'
def oh(s:jG):Arguments:=match s with
 |.FunctionDef _ a _ _ _ _ _ _ _ _=>a
 |_=>{ posonlyargs:=[],args:=[],vararg:=ZX,kwonlyargs:=[],kw_defaults:=[],kwarg:=ZX,defaults:=[] }
def jm(s:jG):List jG:=match s with
 |.FunctionDef _ _ b _ _ _ _ _ _ _=>b
 |_=>[]
def aq(s:jG):nO:=match s with
 |.FunctionDef _ _ _ _ _ _ sc _ _ _=>sc
 |_=>{ kind:=.function,names:=[],isGenerator:=ZV,isCoroutine:=ZV }
abbrev CX0:CXT:=λ_ _ _ _ _ _=>False
abbrev E0:XK:=λ_ _ _=>False
def a9a:avy CX0 X E0:=λ_ _ _ _ _ _ _ h=>h.elim
structure Fun (K:Fg9) (x qual:Str) (st:jG) (f:bB) (fd:eU):Prop where
 ex:∃(oc:aH) (od:Option bB) (kV doc pm:aH) (an:Option bB) (cdv ct:aH) (osl:Array (Option aH)),
  fd=fnOf x qual (oh st) (jm st) (aq st) .none kV doc pm an cdv ct/\K.lookup f=ZY ⟨oc,od,.func fd,osl⟩/\codeIn K cdv qual=ZW
 kp:oH K (.ref f)=ZW
section
variable{P:cF}{w:dX}{K:Fg9}{mg:Str->Option aH}{base:iK}
def Fun.ok{x qual:Str}{st:jG}{f:bB}{fd:eU}{N ps:List Str}{k:Nat}{sp:Sp}(F:Fun K x qual st f fd)(S:FnScope N ps (aq st))(len:∀vs H Q E,sp vs H Q E->vs.length=ps.length)
  (hbody:∀(cdv:aH) (A:dG) (outer:List Env) (s:aN) (H:Hp) (vs:List V) (Q:VK) (E:XK),Room k (A.deeper (nU qual (aq st) s.heap.objs.size f cdv))->sp vs H Q E ->
   ∃t,PSs (cxOf CX0 P w K mg base N qual (aq st) f cdv A outer s H E).nox (jm st) t/\t { nx:=λ_ H'=>Q .non H',rt:=Q } (start N vs) H):FnOk P w K mg base CX0 (k+1) f fd ps sp:=by
 obtain⟨oc,od,kV,doc,pm,an,cdv,ct,osl,rfl,lk,hcd⟩:=F.ex;refine a1x lk hcd S len λA outer s H vs Q E hr hsp=>?_
 obtain⟨t,h,q⟩:=hbody cdv A outer s H vs Q E hr hsp;exact⟨t,h.nox,q⟩
def Fun.binds{x qual:Str}{st:jG}{f:bB}{fd:eU}{ps:List Str}(F:Fun K x qual st f fd)
  (h:∀(kV doc pm:aH) (an:Option bB) (cdv ct:aH) (us:List aH),us.length=ps.length->oK (fnOf x qual (oh st) (jm st) (aq st) .none kV doc pm an cdv ct) ⟨us,[]⟩=pure (ps.zip us)):Binds K fd ps []:=by
 obtain⟨oc,od,kV,doc,pm,an,cdv,ct,osl,rfl,lk,hcd⟩:=F.ex;exact .all (h kV doc pm an cdv ct)
def auc{x qual:Str}{st:jG}{f:bB}{oc:aH}{od an:Option bB}{osl:Array (Option aH)}{kV doc pm cdv ct:aH}(l:K.lookup f=ZY ⟨oc,od,.func (fnOf x qual (oh st) (jm st) (aq st) .none kV doc pm an cdv ct),osl⟩)
  (c:codeIn K cdv qual=ZW) (k:oH K (.ref f)=ZW):Fun K x qual st f (fnOf x qual (oh st) (jm st) (aq st) .none kV doc pm an cdv ct):=⟨⟨oc,od,kV,doc,pm,an,cdv,ct,osl,rfl,l,c⟩,k⟩
end
def ar0(h:n<=1000):n<cU:=jK h (by decide)
section
variable{X:Cx}
def pv(i:Nat)(hN:X.N[i]? = ZY x:=by rfl)(hv:Vis X.env.scope x:=by first |exact bK rfl |exact oA (bK rfl) |exact oA (oA rfl))(hd:Zb x:=by decide)
  (hcd:(x==("__classdict__" : Str))=ZV:=by decide):PE X (.Name x pos) (tVar i):=a4t hN hv hd hcd
end
def iteF{A B:Prop}(h:B):if ZV=ZW then A else B:=by
 rw[if_neg cM];exact h
def iteT{A B:Prop}(h:A):if ZW=ZW then A else B:=by
 rw[if_pos rfl];exact h
def Same(H H':Hp):Prop:=∀b o,H b=ZY o->H' b=ZY o
def Same.refl(H:Hp):Same H H:=λ_ _ h=>h
def Same.trans(a:Same H H1)(b:Same H1 H2):Same H H2:=λc o h=>b c o (a c o h)
theorem Same.free(e:Same H H')(h:H' l=Option.none):H l=Option.none:=by
 cases q:H l with
 |none=>rfl
 |some o=>
  rw[e l o q] at h;cases h
def Same.seq{K:Fg9}{H H':Hp}{a:bB}{xs:List V}(e:Same H H')(h:SqL K H a xs):SqL K H' a xs:=by
 rcases h with(h |⟨o,h⟩) |h
 ·exact .inl (.inl (e _ _ h))
 ·exact .inl (.inr ⟨o,e _ _ h⟩)
 ·exact .inr h
end L2
namespace Mn
open L2
noncomputable def lq(env:Env)(fr:List Str):List (Str×Addr):=fr.filterMap λn=>(env.cells.lookup n).map λc=>(n,c)
def ahy(e:env.cells.lookup n=ZX):lq env (n::r)=lq env r:=by
 unfold lq;rw[jF,e];rfl
def ad7(e:env.cells.lookup n=ZY c):lq env (n::r)=(n,c)::lq env r:=by
 unfold lq;rw[jF,e];rfl
def look_same{x:Str}{c:bB}{l:List (Str×Addr)}:dF x ((x,c)::l)=ZY c:=by
 have hb:(x==x)=ZW:=beq_iff_eq.mpr rfl;simp only[dF,hb]
def aa6{x n:Str}{c:bB}{l:List (Str×Addr)}(h:x≠n):dF x ((n,c)::l)=l.lookup x:=by
 have hb:(x==n)=ZV:=beq_eq_false_iff_ne.mpr h;simp only[dF,hb]
theorem jn{env:Env}:∀{fr:List Str} {x:Str} {c:bB},(lq env fr).lookup x=ZY c->env.cells.lookup x=ZY c
 | [],x,c,h=>by
  have h':(ZX:Option bB)=ZY c:=h;cases h'
 |n::r,x,c,h=>by
  cases e:env.cells.lookup n with
  |none=>
   rw[ahy e] at h;exact jn h
  |some d=>
   rw[ad7 e] at h
   by_cases hx:x=n
   ·subst hx;rw[look_same] at h;rw[e];exact h
   ·rw[aa6 hx] at h;exact jn h
theorem ur{env:Env}:∀{fr:List Str} {x:Str} {c:bB},x∈fr->env.cells.lookup x=ZY c->(lq env fr).lookup x=ZY c
 | [],x,c,hm,h=>absurd hm (by simp)
 |n::r,x,c,hm,h=>by
  by_cases hx:x=n
  ·subst hx;rw[ad7 h,look_same]
  ·have hm':x∈r:=(bA.mp hm).elim (λe=>absurd e hx) id
   cases e:env.cells.lookup n with
   |none=>
    rw[ahy e];exact ur hm' h
   |some d=>
    rw[ad7 e,aa6 hx];exact ur hm' h
def ae5(XN fr:List Str):List Str->List 'G'->Bool
 | [],[]=>ZW
 |_::N,ZX::r=>ae5 XN fr N r
 |x::N,ZY j::r=>XN[j]? == ZY x&&fr.contains x&&ae5 XN fr N r
 |_,_=>ZV
theorem ab3:∀{N:List Str} {src:List 'G'} {i j:Nat} {x:Str},ae5 XN fr N src=ZW->N[i]? = ZY x->src[i]? = ZY (ZY j)->XN[j]? = ZY x/\x∈fr
 | [],[],i,j,x,_,h,_=>by simp at h
 | [],_::_,i,j,x,_,h,_=>by simp at h
 |_::_,[],i,j,x,_,_,h=>by simp at h
 |y::N,ZX::r,0,j,x,_,_,h=>by simp at h
 |y::N,ZX::r,i+1,j,x,hk,h1,h2=>ab3 (N:=N) (src:=r) (i:=i) hk (by simpa using h1) (by simpa using h2)
 |y::N,ZY k::r,0,j,x,hk,h1,h2=>by
  simp only[ae5,bC] at hk;obtain⟨⟨a,b⟩,_⟩:=hk;simp at h1 h2;subst h1 h2;exact⟨by simpa using a,by simpa using b⟩
 |y::N,ZY k::r,i+1,j,x,hk,h1,h2=>by
  simp only[ae5,bC] at hk;exact ab3 (N:=N) (src:=r) (i:=i) hk.2 (by simpa using h1) (by simpa using h2)
theorem ab2:∀{N:List Str} {src:List 'G'},ae5 XN fr N src=ZW->src.length=N.length
 | [],[],_=>rfl
 | [],_::_,h=>by simp[ae5] at h
 |_::_,[],h=>by simp[ae5] at h
 |_::N,ZX::r,h=>by
  have:=ab2 (N:=N) (src:=r) h;simp[this]
 |_::N,ZY k::r,h=>by
  simp only[ae5,bC] at h;have:=ab2 (N:=N) (src:=r) h.2;simp[this]
def pick(src:List 'G')(σ:L2.St):L2.St:=src.map λo=>o.bind λj=>(σ[j]?).bind id
theorem ajk{src:List 'G'}{σ:L2.St}{i:Nat}{v:V}(h:(pick src σ)[i]? = ZY (ZY v)):∃j,src[i]? = ZY (ZY j)/\σ[j]? = ZY (ZY v):=by
 unfold pick at h;rw[aV] at h;cases e:src[i]? with
 |none=>rw[e] at h;cases h
 |some o=>
  rw[e] at h;have h':(o.bind λj=>(σ[j]?).bind id)=ZY v:=bJ h
  cases o with
  |none=>cases h'
  |some j=>
   refine⟨j,rfl,?_⟩;have h2:(σ[j]?).bind id=ZY v:=h';cases q:σ[j]? with
   |none=>rw[q] at h2;cases h2
   |some z=>
    rw[q] at h2;have h3:z=ZY v:=h2;rw[h3]
def af8(env:Env)(XN:List Str)(scope:nO)(fr N:List Str)(src:List 'G'):Bool :=
 scope.names.all (λy=>y.2 != .cell&&(y.2 != .local||scope.names.lookup y.1==ZY .local)&&(y.2 != .free||fr.contains y.1)) &&
 fr.all (λx=>scope.names.lookup x==ZY .free&&(env.kindOf x==ZY .cell||env.kindOf x==ZY .free))&&ae5 XN fr N src
structure CompOk (env:Env) (XN:List Str) (scope:nO) (fr N:List Str) (src:List 'G'):Prop where
 cell:∀y∈scope.names,y.2≠.cell
 loc:∀y∈scope.names,y.2=.local->scope.names.lookup y.1=ZY .local
 free:∀y∈scope.names,y.2=.free->y.1∈fr
 frk:∀x∈fr,scope.names.lookup x=ZY .free
 out:∀x∈fr,env.kindOf x=ZY .cell∨env.kindOf x=ZY .free
 src:ae5 XN fr N src=ZW
def CompOk.of{env:Env}{XN:List Str}{scope:nO}{fr N:List Str}{src:List 'G'}(h:af8 env XN scope fr N src=ZW):CompOk env XN scope fr N src:=by
 simp only[af8,bC,cL] at h;obtain⟨⟨h1,h2⟩,h3⟩:=h;refine⟨λy hy=>?_,λy hy e=>?_,λy hy e=>?_,λx hx=>?_,λx hx=>?_,h3⟩
 ·have:=(h1 y hy).1.1
  simpa using this
 ·have:=(h1 y hy).1.2;rw[e] at this
  simpa using this
 ·have:=(h1 y hy).2;rw[e] at this
  simpa using this
 ·have:=(h2 x hx).1
  simpa using this
 ·have:=(h2 x hx).2
  simpa using this
theorem acb{env:Env}:∀{names:List (Str×NameKind)} {x:Str} {k:vQ},
  (names.map λ(n,k)=>if (k==eF&&env.scope.kind==.function&&env.kindOf n==ZY .cell) then (n,jM) else (n,k)).lookup x=ZY k ->
  ∃k0,names.lookup x=ZY k0/\(k=k0∨(k0=.free/\k=.cell))
 | [],x,k,h=>by simp at h
 | (n,q)::r,x,k,h=>by
  by_cases hx:x=n
  ·subst hx;have hb:(x==x)=ZW:=beq_iff_eq.mpr rfl;refine⟨q,by simp only[dF,hb],?_⟩
   by_cases hc:(q==eF&&env.scope.kind==.function&&env.kindOf x==ZY .cell)=ZW
   ·rw[bH] at h;simp only[hc,if_true,dF,hb] at h;simp only[bC] at hc;exact .inr ⟨by simpa using hc.1.1,(bJ h).symm⟩
   ·rw[bH] at h;simp only[hc,dF,hb] at h;exact .inl (by simpa using h.symm)
  ·have hb:(x==n)=ZV:=beq_eq_false_iff_ne.mpr hx;have h':(r.map λ(n,k)=>if (k==eF&&env.scope.kind==.function&&env.kindOf n==ZY .cell) then (n,jM) else (n,k)).lookup x=ZY k:=by
    rw[bH] at h
    by_cases hc:(q==eF&&env.scope.kind==.function&&env.kindOf n==ZY .cell)=ZW
    ·simp only[hc,if_true,dF,hb] at h;exact h
    ·have h2:dF x ((if (q==eF&&env.scope.kind==.function&&env.kindOf n==ZY .cell)=ZW then (n,jM) else (n,q))::(r.map λ(n,k)=>if (k==eF&&env.scope.kind==.function&&env.kindOf n==ZY .cell) then (n,jM) else (n,k)))=ZY k:=h
     rw[if_neg hc] at h2;simp only[dF,hb] at h2;exact h2
   obtain⟨k0,e,d⟩:=acb h';exact⟨k0,by simp only[dF,hb];exact e,d⟩
theorem aan{env:Env}:∀{names:List (Str×NameKind)} {x:Str},names.lookup x=ZY .free ->
  (names.map λ(n,k)=>if (k==eF&&env.scope.kind==.function&&env.kindOf n==ZY .cell) then (n,jM) else (n,k)).lookup x=ZY .free ∨
  (names.map λ(n,k)=>if (k==eF&&env.scope.kind==.function&&env.kindOf n==ZY .cell) then (n,jM) else (n,k)).lookup x=ZY .cell
 | [],x,h=>by simp at h
 | (n,q)::r,x,h=>by
  by_cases hx:x=n
  ·subst hx;have hb:(x==x)=ZW:=beq_iff_eq.mpr rfl;simp only[dF,hb] at h;have hq:q=.free:=bJ h;subst hq
   by_cases hc:(eF==eF&&env.scope.kind==.function&&env.kindOf x==ZY .cell)=ZW
   ·right
    rw[bH];simp only[hc,if_true,dF,hb]
   ·left
    show dF x ((if (eF==eF&&env.scope.kind==.function&&env.kindOf x==ZY .cell)=ZW then (x,jM) else (x,eF))::_)=ZY eF
    rw[if_neg hc];simp only[dF,hb]
  ·have hb:(x==n)=ZV:=beq_eq_false_iff_ne.mpr hx;simp only[dF,hb] at h;rw[bH]
   by_cases hc:(q==eF&&env.scope.kind==.function&&env.kindOf n==ZY .cell)=ZW
   ·simp only[hc,if_true,dF,hb];exact aan h
   ·simp only[hc,dF,hb]
    simpa[dF,hb] using aan (env:=env) h
def cxC(X:Cx)(N:List Str)(scope:nO)(fr:List Str)(fp:List bB)(s:aN)(H:Hp):Cx where
 prog:=X.prog
 w:=X.w
 K:=X.K
 mg:=X.mg
 base:=X.base
 A:=X.A
 N:=N
 s₀:=s
 H₀:=H
 env:=compEnvC scope (lq X.env fr) s.heap.objs.size X.env
 outer:=X.stack
 stack:=X.stack
 ex:=fp
 fn:=λ_=>ZV
 calm:=X.calm
 pn:=[]
 xe:=λ_ _=>False
section
variable{X:Cx}{zv:List (bB×Obj)}{σ:L2.St}{H:Hp}{s:aN}{scope:nO}{fr N:List Str}{src:List 'G'}{fp:List bB}
def a69(I:Inv X zv σ H s)(C:CompOk X.env X.N scope fr N src)(hkind:scope.kind=.function)(hf:∀b∈fp,FpOk X zv H b)(hl:∀b∈fp,b<s.heap.objs.size):(cxC X N scope fr fp s H).Ok where
 mod:=I.ok.mod
 kind:=hkind
 glob:=I.ok.glob
 blt:=I.ok.blt
 above:=aL _
 inj:=λx y c h1 h2=>I.ok.inj x y c (jn h1) (jn h2)
 has:=λx hx=>by
  have mem:∀k,(k=jM∨k=eF)->(cxC X N scope fr fp s H).env.kindOf x=ZY k->x∈fr:=λk hk e=>by
   obtain⟨k0,e0,d⟩:=acb (env:=X.env) (names:=scope.names) e;have hm:=fZ e0;rcases d with rfl |⟨rfl,_⟩
   ·rcases hk with rfl |rfl
    ·exact absurd rfl (C.cell _ hm)
    ·exact C.free _ hm rfl
   ·exact C.free _ hm rfl
  have hm:x∈fr:=by
   rcases hx with e |e
   ·exact mem _ (.inl rfl) e
   ·exact mem _ (.inr rfl) e
  obtain⟨c,hc⟩:=I.ok.has x (C.out x hm);exact⟨c,ur hm hc⟩
 cab:=λ_ _ h _=>absurd h cM
 hd:=I.ok.hd
 frames:=I.ok.frames
 stk:=.inl rfl
 exf:=λb hb=>⟨Nat.ne_of_lt (hl b hb),λx c e=>(hf b hb).2.2.2.2.1 x c (jn e)⟩
 bs:=I.bs
 bsz:=bV I.ok.bsz I.sz
 noex:=λb o e hb=>by
  rcases(hf b hb).2.2.2.1 with z |z
  ·exact I.ok.noex b o e z
  ·exact absurd (bN (aO e) (bV I.ok.bsz z)) (iG _)
 exfs:=λb hb z=>by
  rcases bA.mp (I.stkSub b z) with e |e
  ·exact(hf b hb).2.1 e
  ·exact(hf b hb).2.2.1 e
 funs:=I.stack
 frf:=I.stkFree
 tb:=I.tb
def ao0(I:Inv X zv σ H s)(C:CompOk X.env X.N scope fr N src)(hkind:scope.kind=.function)(hf:∀b∈fp,FpOk X zv H b)(hl:∀b∈fp,b<s.heap.objs.size){h':iK}{tk:Nat}{m:Str->Option aH}
  (hns:h'.Ns s.heap.objs.size m) (hk:∀b o,s.heap.get? b=ZY o->h'.get? b=ZY o):Inv (cxC X N scope fr fp s H) [] (pick src σ) H { s with heap:=h',toks:=tk } where
 ok:=a69 I C hkind hf hl
 os:=rfl
 bare:=I.bare
 base:=Un.kept hk
 loc:=by
  refine⟨m,hns,λi x v h1 h2 h3=>?_⟩
  obtain⟨j,hj,hv⟩:=ajk h2;obtain⟨hN,hm⟩:=ab3 C.src h1 hj;obtain⟨mo,_,hlo⟩:=I.loc;have vis:Vis X.env.scope x:=by
   rcases C.out x hm with e |e
   ·exact .inr (.inl e)
   ·exact .inr (.inr e)
  obtain⟨u,r,l⟩:=hlo j x v hN hv vis;refine⟨u,r,.inr ⟨?_,?_⟩⟩
  ·rcases aan (env:=X.env) (C.frk x hm) with e |e
   ·exact .inr e
   ·exact .inl e
  ·rcases l with⟨e,_⟩ |⟨_,c,hc,z⟩
   ·rcases C.out x hm with q |q
    ·rw[q] at e;cases e
    ·rw[q] at e;cases e
   ·obtain⟨o,ho,hd⟩:=z;exact⟨c,ur hm hc,o,hk c o ho,hd⟩
 cell:=λx c e=>by
  obtain⟨v,o,ho,hd⟩:=I.cell x c (jn e);exact⟨v,o,hk c o ho,hd⟩
 free:=I.hok.fresh (aL _)
 freeC:=λx c e=>I.freeC x c (jn e)
 pin:=λp hp=>absurd (show p∈([]:List (bB×Obj)) from hp) (by simp)
 hok:=I.hok.kept hk
 len:=by
  unfold pick;rw[aU];exact ab2 C.src
def ao1(I:Inv X zv σ H s)(hf:∀b∈fp,FpOk X zv H b)(J:Inv (cxC X N scope fr fp s H) pins' σ' H' s')
  (hs:fL s.heap.objs.size s'.heap h''):Inv X zv σ H' { s' with heap:=h'' }:=by
 have k:∀b o,b≠s.heap.objs.size->s'.heap.get? b=ZY o->h''.get? b=ZY o:=λb o hb e=>(hs.2 b hb).trans e
 have old:∀b o,s.heap.get? b=ZY o->b≠s.heap.objs.size:=λb o e=>bI (aO e)
 have un:Un (frs X.stack) fp H H' s.heap h'':=by
  have u:Un (frs X.stack) fp H H' s.heap s'.heap:=J.base;refine⟨λb o e n hb hx=>k b o (old b o e) (u.keep b o e n hb hx),λb o e n hb hx=>?_,u.free,λb o e hx=>?_,u.tups,u.frzs,u.tbls⟩
  ·obtain⟨sl,q⟩:=u.slot b o e n hb hx;exact⟨sl,k b _ (old b o e) q⟩
  ·obtain⟨o',q⟩:=u.there b o e hx;exact⟨o',k b _ (old b o e) q⟩
 have hok:HOk X.prog X.w H' h'':=λb u e=>by
  have nC:∀c z,H' c=ZY z->c≠s.heap.objs.size:=λc z q w=>by
   have f:H' s.heap.objs.size=ZX:=J.free;rw[w,f] at q;cases q
  refine(J.hok b u e).stay (λc v hc q=>k c v ?_ q) (λ_ q=>q) λ_ _ q=>q
  rcases hc with z |z
  ·rw[z];exact nC b u e
  ·exact nC c _ z
 have os:s'.os=s.os:=J.os;refine Inv.call' (s':={ s' with heap:=h'' }) I os un hok J.bare λb hb=>?_
 obtain⟨_,f1,_,f3,f4,f5⟩:=hf b hb;exact⟨f3,f1,f4,f5⟩
end
def aml(ifs:List fP)(env:Env):Sem Bool:=forIn ifs ZW λc r=>if r=ZW then do let ok <-isTrue c env (eval c env);pure (Ad ok) else pure (Ad r)
def PIf(X:Cx)(ifs:List fP)(t:TT):Prop :=
 ∀(zv:List (bB×Obj)) (s:aN) (σ:L2.St) (H:Hp) (Q:Bool->Hp->Prop),Inv X zv σ H s->t σ H Q->bD 'D' X.A (aml ifs X.env) (TP X zv σ Q) X.xe s
def tYes:TT:=λ_ H Q=>Q ZW H
def a0n:PIf X [] tYes:=λzv s σ H Q I h=>by
 show bD _ _ (pure ZW) _ _ s;exact aF ⟨H,I,h⟩
def a0m(hc:PT X c t):PIf X [c] t:=λzv s σ H Q I h=>by
 unfold aml;rw[qJ];rw[if_pos rfl];refine aA (aA (thn (hc zv s σ H _ I h) λb s1 q=>aF ?_))
 show bD _ _ (forIn [] b _) _ _ s1;exact aF q
section
variable{prog:cF}{w:dX}{A:dG}{R:vI->aN->Prop}{s:aN}
theorem compLoop(I:Nat->aN->Prop)
  (turn:∀n s,I n s->bD 'F' A (nF it) (λr s₁=>match r with
   |none=>R (.ok .next) s₁
   |some v=>bD 'F' A (letOwnedTupleGo target it v) (λ_ s₁'=>bD 'F' A (rF target env v) (λ_ s₂=>
     bD 'F' A (aml ifs env) (λok s₃=>
      if ok=ZW then bD 'F' A (eval elt env) (λx s₄=>
       bD 'F' A (call (.builtin "list.append") [acc,x]) (λ_ s₅=>∃m,m<n/\I m s₅) (λ_ _=>False) s₄) (λ_ _=>False) s₃
      else ∃m,m<n/\I m s₃) (λ_ _=>False) s₂) (λ_ _=>False) s₁') (λ_ _=>False) s₁) (λ_ _=>False) s)
  (n:Nat) (h:I n s) :
  mZ 'F' A (.compLoop (.ListComp elt [⟨target,iter,ifs,0⟩] scope pos) 0 it acc env) R s:=by
 refine codeAny_loop rfl I (λn s hI=>?_) n h
 show bD _ A ((compTurn (.ListComp elt [⟨target,iter,ifs,0⟩] scope pos) 0 it acc env).onRaise (λx=>do noteFrame x env;theTreesLotGoes x)) _ _ s
 refine wpAny_noted ?_;rw[compTurn_list];refine aA (lJ (aA (aZ (turn n s hI) (λr s₁ h₁=>?_) λ_ _ h'=>h'.elim)))
 cases r with
 |none=>exact aF h₁
 |some v=>
  refine aA (aZ h₁ (λ_ s₁' h₁'=>?_) λ_ _ h'=>h'.elim)
  refine aA (aZ h₁' (λ_ s₂ h₂=>aA (aZ h₂ (λok s₃ h₃=>?_) λ_ _ h'=>h'.elim)) λ_ _ h'=>h'.elim)
  cases ok with
  |false=>exact aF ⟨rfl,h₃⟩
  |true=>
   exact aA (aA (aZ h₃ (λx s₄ h₄=>aA (aZ h₄ (λ_ s₅ h₅=>aF (aF ⟨rfl,h₅⟩)) λ_ _ h'=>h'.elim)) λ_ _ h'=>h'.elim))
end
def a7m(J:It)(g:TG)(ti:TT)(te:TE)(Q:VK)(d:bB)(σ0:L2.St)(H1:Hp):Prop :=
 ∃W:Nat->Nat->List V->L2.St->Hp->Prop,(∃m,W 0 m [] σ0 (upd H1 d (.lst [])))/\∀i m ys σ H2,W i m ys σ H2->H2 d=ZY (.lst ys) /\
  ((J.stop i H2/\Q (.ref d) H2)∨(J.go i H2/\∀x H3,J.yld i H2 x H3->g x σ H3 λσ4 H4=>ti σ4 H4 λb H5=>
   if b=ZW then te σ4 H5 λy H6=>H6 d=ZY (.lst ys)/\ys.length<cU/\∃m',m'<m/\W (i+1) m' (ys++[y]) σ4 (upd H6 d (.lst (ys++[y]))) else ∃m',m'<m/\W (i+1) m' ys σ4 H5))
def awe(wi:TI)(g:TG)(ti:TT)(te:TE)(src:List 'G'):TE:=λσ H Q=>wi σ H λJ H1=>∀d,H1 d=ZX->a7m J g ti te Q d (pick src σ) H1
def ahw{X:Cx}{tg iter elt:fP}{ifs:List fP}{scope:nO}{pos:Pos}{J:It}{fp:List bB}{it d:bB}{tn:Nat->iK->Prop}{g:TG}{ti:TT}{te:TE}{Q:VK}{R:vI->aN->Prop}
  {W:Nat->Nat->List V->L2.St->Hp->Prop} {m0:Nat} {σ0:L2.St} {H0:Hp} {s:aN} (hc:X.calm=ZW) (hE:X.xe=λ_ _=>False) (T:Turn X.prog X.w X.K tg J fp it tn)
  (hf:∀H':Hp,(∀b∈fp,H' b=ZX)->∀b∈fp,FpOk X [] H' b) (hg:PG X tg g) (ht:PIf X ifs ti) (he:PE X elt te)
  (turn:∀i m ys σ H2,W i m ys σ H2->H2 d=ZY (.lst ys) /\
   ((J.stop i H2/\Q (.ref d) H2)∨(J.go i H2/\∀x H3,J.yld i H2 x H3->g x σ H3 λσ4 H4=>ti σ4 H4 λb H5=>
    if b=ZW then te σ4 H5 λy H6=>H6 d=ZY (.lst ys)/\ys.length<cU/\∃m',m'<m/\W (i+1) m' (ys++[y]) σ4 (upd H6 d (.lst (ys++[y]))) else ∃m',m'<m/\W (i+1) m' ys σ4 H5)))
  (w0:W 0 m0 [] σ0 H0) (I0:Inv X [] σ0 H0 s) (st0:tn 0 s.heap) (fr0:∀b∈fp,H0 b=ZX)
  (hR:∀σ' H' s',Inv X [] σ' H' s'->Q (.ref d) H'->R (.ok .next) s') :
  mZ 'D' X.A (.compLoop (.ListComp elt [⟨tg,iter,ifs,0⟩] scope pos) 0 (.ref it) (.ref d) X.env) R s:=by
 have hE':∀e s',X.xe e s'->False:=λe s' h=>by rw[hE] at h;exact h
 refine compLoop (λn s'=>∃i ys σ' H',Inv X [] σ' H' s'/\tn i s'.heap/\(∀b∈fp,H' b=ZX)/\W i n ys σ' H') ?_ m0 ⟨0,[],σ0,H0,I0,st0,fr0,w0⟩
 rintro n s5 ⟨i,ys,σ5,H5,I5,st5,fr5,w5⟩
 obtain⟨hD,alt⟩:=turn i n ys σ5 H5 w5;rcases alt with⟨stop,qn⟩ |⟨go,step⟩
 ·refine aZ (T.done X rfl rfl rfl hc i [] s5 σ5 H5 (λ_ _=>False) I5 (hf _ fr5) st5 stop) (λr s6 ⟨hr,I6⟩=>?_) λ_ _ e=>e
  subst hr;exact hR σ5 H5 s6 I6 qn
 ·refine aZ (T.item X rfl rfl rfl hc i [] s5 σ5 H5 (λ_ _=>False) I5 (hf _ fr5) st5 go) (λr s6 ⟨u,hr,h6⟩=>?_) λ_ _ e=>e
  subst hr;refine aZ h6 (λ_ s7 ⟨x,H7,I7,r7,y7,st7,fr7⟩=>?_) λ_ _ e=>e
  have I7':=I7.pinned (hf _ fr7) (T.obj _ _ st7);have again:∀{σ':L2.St} {H':Hp} {s':aN} {ys':List V} {m':Nat},Inv X ([]++ak0 fp s7.heap) σ' H' s'->W (i+1) m' ys' σ' H'->∃i ys σ' H',Inv X [] σ' H' s'/\tn i s'.heap/\(∀b∈fp,H' b=ZX)/\W i m' ys σ' H':=λ{σ' H' s' ys' m'} Ia wa=>by
   refine⟨i+1,ys',σ',H',Ia.unpinned,T.keep _ _ _ st7 λb hb o e=>(Ia.pin (b,o) (bO _ (bO _ (acx hb e)))).1,λb hb=>?_,wa⟩
   obtain⟨o,e,d⟩:=T.obj _ _ st7 b hb;exact(Ia.pin (b,o) (bO _ (bO _ (acx hb e)))).2.1
  refine aZ (hg _ s7 σ5 H7 x u _ I7' r7 (step x H7 y7)) (λ_ s8 ⟨σ8,H8,I8,q8⟩=>?_) hE'
  refine aZ (ht _ s8 σ8 H8 _ I8 q8) (λok s9 ⟨H9,I9,q9⟩=>?_) hE'
  cases ok with
  |false=>
   rw[if_neg cM] at q9 ⊢
   obtain⟨m',hm,wa⟩:=q9;exact⟨m',hm,again I9 wa⟩
  |true=>
   rw[if_pos rfl] at q9 ⊢
   refine aZ (he _ s9 σ8 H9 _ I9 q9) (λz s10 ⟨y,H10,I10,r10,hd10,hz,m',hm,wa⟩=>?_) hE'
   refine aZ (aa5 _ s10 σ8 H10 (.ref d) [y] (.ref d) [z] (λ_ H'=>H'=upd H10 d (.lst (ys++[y]))) I10 rfl (.cons r10 .nil) ⟨d,ys,y,rfl,rfl,hd10,hz,rfl⟩) (λ_ s11 ⟨_,H11,I11,_,e11⟩=>?_) hE'
   subst e11;exact⟨m',hm,again I11 wa⟩
def a0u(fr N:List Str)(src:List 'G')(hc:X.calm=ZW)(hi:PI X tg iter wi)
  (hg:∀fp s H,PG (cxC X N scope fr fp s H) tg g) (ht:∀fp s H,PIf (cxC X N scope fr fp s H) ifs ti) (he:∀fp s H,PE (cxC X N scope fr fp s H) elt te)
  (hok:af8 X.env X.N scope fr N src=ZW:=by rfl) (hkind:scope.kind=.function:=by rfl) (hclos:mV scope X.env=pure (lq X.env fr):=by rfl)
  (hs:∀x,gC iter X.env x=pure x:=by intro _;rfl):PE X (.ListComp elt [⟨tg,iter,ifs,0⟩] scope pos) (awe wi g ti te src):=by
 have C:=CompOk.of hok;intro zv s σ H Q I h;rw[eval_ListComp];refine wpAny_comprehension_free (use:=ZX) rfl hs hclos hkind C.loc (aZ (hi zv s σ H _ I h) (λv s1 h1=>aZ h1 (λitv s2 h2=>?_) λ_ _ e=>e) λ_ _ e=>e)
 obtain⟨it,fp,tn,J,H2,e,I2,T,st2,f2,q2⟩:=h2;subst e;have hd0:H2 s2.heap.objs.size=ZX:=I2.hok.fresh (aL _);obtain⟨W,⟨m0,w0⟩,turn⟩:=q2 s2.heap.objs.size hd0;refine cA ?_;generalize hs3:({ s2 with heap:=s2.heap.push { cls:=.type "list", dict:=ZX,data:=.seq ([]:List aH).toArray } }:aN)=s3
 have keep2:∀b o,s2.heap.get? b=ZY o->s3.heap.get? b=ZY o:=λb o e=>by rw[<-hs3];exact aB _ e
 have I3:Inv X zv σ (upd H2 s2.heap.objs.size (.lst [])) s3:=by
  rw[<-hs3];exact I2.laid (t':=s2.toks) (λb u q=>aB _ q) (aL _) ⟨Nat.zero_le _,[],0,.nil,aM _ rfl⟩
 have ne0:∀b∈fp,b≠s2.heap.objs.size:=λb hb=>by
  obtain⟨o,e,_⟩:=T.obj _ _ st2 b hb;exact bI (aO e)
 have f3:∀b∈fp,FpOk X zv (upd H2 s2.heap.objs.size (.lst [])) b:=λb hb=>⟨by rw[cg (ne0 b hb)];exact(f2 b hb).1,(f2 b hb).2⟩
 have lt3:∀b∈fp,b<s3.heap.objs.size:=λb hb=>by
  obtain⟨o,e,_⟩:=T.obj _ _ st2 b hb;exact aO (keep2 b o e)
 refine wpAny_newFunctionEnv C.cell (by intro y hy;simp at hy) (λh₁ hns₁ hsb₁=>?_) hkind
 have keep3:∀b o,s3.heap.get? b=ZY o->h₁.get? b=ZY o:=λb o e=>hsb₁.extBut b o (bI (aO e)) (aB _ e)
 have st4:tn 0 h₁:=T.keep _ _ _ st2 λb hb o e=>keep3 b o (keep2 b o e)
 have I4:=ao0 (tk:=s3.toks+([]:List (Str×Value)).length) I3 C hkind f3 lt3 hns₁ keep3;have loop:=ahw (X:=cxC X N scope fr fp s3 (upd H2 s2.heap.objs.size (.lst []))) (iter:=iter) (scope:=scope) (pos:=pos) (d:=s2.heap.objs.size)
  (R:=compPost 'D' X.A X.xe ZX (EP X zv σ Q) (.ref s2.heap.objs.size) s3.heap.objs.size) hc rfl T
  (λH' hn b hb=>⟨hn b hb,bI (lt3 b hb),I4.ok.exfs b hb,.inl hb,(I4.ok.exf b hb).2,λp hp=>absurd (show p∈([]:List (bB×Obj)) from hp) (by simp)⟩)
  (hg fp s3 _) (ht fp s3 _) (he fp s3 _) turn w0 I4 st4 (λb hb=>(f3 b hb).1) (λσ' H' s' I6 qn=>by
   obtain⟨m6,hn6,_⟩:=I6.loc;exact⟨m6,hn6,λh'' hs''=>⟨.ref s2.heap.objs.size,H',ao1 I3 f3 I6 hs'',rfl,qn⟩⟩)
 exact codeAny_compStart_list loop (T.self _ 0 _ _ _ st4 loop)
def Same.new(h:H p=ZX)(o:HO):Same H (upd H p o):=λb u q=>by rw[cg (gr q h)];exact q
structure ItOf (J:It) (xs:List V) (S:Hp->Prop):Prop where
 go:∀i H,S H->i<xs.length->J.go i H
 yld:∀i H x H',S H->J.yld i H x H'->H'=H/\(i<xs.length->xs[i]? = ZY x)
 stop:∀i H,S H->xs.length<=i->J.stop i H
def axp{K:Fg9}{a:bB}{xs:List V}:ItOf (Itt K a) xs λH=>SqT K H a xs :=
 ⟨λi H h hi=>⟨xs,xs[i],h,by simp[hi]⟩,λi H x H' h y=>⟨y.1,λ_=>y.2 xs h⟩,λi H h hi=>⟨xs,h,hi⟩⟩
def aoy{K:Fg9}{a:bB}{xs:List V}:ItOf (Itl K a) xs λH=>SqL K H a xs :=
 ⟨λi H h hi=>⟨xs,xs[i],h,by simp[hi]⟩,λi H x H' h y=>⟨y.1,λ_=>y.2 xs h⟩,λi H h hi=>⟨xs,h,hi⟩⟩
def ups(lo:Int)(n:Nat):List V:=(aD n).map λi=>V.int (lo+(i:Nat))
def ai6(lo:Int)(n:Nat):(ups lo n).length=n:=by simp[ups]
def azo{lo:Int}{n i:Nat}(h:i<n):(ups lo n)[i]? = ZY (.int (lo+(i:Nat))):=by
 unfold ups;rw[aV,bZ h];rfl
def aox{lo:Int}{n:Nat}:ItOf (Itr lo n) (ups lo n) λ_=>True :=
 ⟨λi H _ hi=>by rw[ai6] at hi;exact hi,λi H x H' _ y=>⟨y.1,λhi=>by rw[ai6] at hi;rw[azo hi,y.2]⟩,λi H _ hi=>by rw[ai6] at hi;exact hi⟩
section
variable{X:Cx}
def rAll(K:Fg9):List V->Hp->VK->Prop:=λxs H Q=>∃(p:bB) (bs:List Bool),xs=[.ref p]/\SqL K H p (bs.map V.bl)/\Q (.bl (bs.all id)) H
def ax9(hc:X.calm=ZW):abx X (.builtin "all") (rAll X.K):=by
 intro zv s σ H xs us Q I r h;obtain⟨p,bs,rfl,hq,q⟩:=h;obtain⟨u,rfl,ru⟩:=vals1 r;cases ru;obtain⟨its,rv,pl,hz⟩:=I.list hq;have hl:=pl.isList;have hlen:=rv.length;rw[aU] at hlen;have hlt:p<s.heap.objs.size:=by obtain⟨_,e,_⟩:=hl;exact aO e
 refine call_all_walk (wpAny_pyIter_list hl ?_);refine⟨s.heap.objs.size,[s.heap.objs.size,p],[s.heap.objs.size],its.toArray.size,_,_,λi=>(bs[i]?).getD ZW,rfl,qW (A:=X.A.in1) (I.ok.hd hc) _ p (bI hlt) its.toArray,
  ⟨⟨_,aM _ rfl,rfl,rfl⟩,hl.push _⟩,λi v s' Q' E' hP hQ=>?_,λh' tk hk=>?_⟩
 ·have hi:its[i]? = ZY v:=by simpa using hP
  cases e:bs[i]? with
  |none=>
   have h1:bs.length<=i:=vA.mp e;have h2:i<its.length:=(aJ.mp hi).1;omega
  |some b=>
   obtain⟨u,hu,ru⟩:=rv.get (i:=i) (x:=V.bl b) (by rw[aV,e];rfl)
   rw[hi] at hu;cases hu;obtain rfl:v=qX b:=ru;simp only[e,zH] at hQ;exact gW hQ
 ·have e:((aD its.toArray.size).all λi=>(bs[i]?).getD ZW)=bs.all id:=by
   rw[aP,<-hlen];exact LSm.range_all bs
  rw[e];exact⟨.bl (bs.all id),H,I.kept (t':=tk) (sH hk),rfl,q⟩
end
def Dfn(P:cF)(w:dX)(K:Fg9)(mg:Str->Option aH)(base:iK)(x:Str)(ps:List Str)(k:Nat)(sp:Sp):Prop :=
 ∃(f:bB) (fd:eU),FnOk P w K mg base CX0 k f fd ps sp/\mg x=ZY (.ref f)/\oH K (.ref f)=ZW/\Binds K fd ps []
section
variable{X:Cx}{x:Str}{ps:List Str}{k:Nat}{sp:Sp}{e:fP}{es:List fP}{t:TA}{p pos:Pos}
def a88(F:Dfn X.prog X.w X.K X.mg X.base x ps k sp)(hr:Room k X.A)(hg:Gl X x)(ha:PA X (e::es) t)(hdb:Zb x:=by decide)
  (he:Zc X e es:=by rfl) (hpl:(kI pos (aQ es X.env)).any (·.1)=ZV:=by rfl):PE X (.Call (.Name x p) (e::es) [] pos) (azz sp [] E0 t):=by
 obtain⟨f,fd,F,hm,hk,hb⟩:=F;exact a0w F hr hg hm hk hb .nil a9a ha hdb he hpl
def awr(hg:Gl X x)(hm:∃t,X.mg x=ZY (.int n t))(hd:Zb x:=by decide):PE X (.Name x pos) (tC (.int n)):=by
 obtain⟨t,hm⟩:=hm;exact asr hg hm ⟨t,rfl⟩ hd
def ap8(hg:Gl X x)(hm:X.mg x=ZX)(hv:bY x=ZY (.type T))(hn:x ≠ "__name__" := by decide)(hd:Zb x:=by decide):PE X (.Name x pos) (tC (.ty T)) :=
 a0x hg hm hv rfl hn hd
end
section
variable{X:Cx}
end
section
variable{prog:cF}{w:dX}{A:dG}{E:aH->aN->Prop}{s:aN}
def ax7{t b:bB}{vs ws:List aH}{Q:aH->aN->Prop}(ht:yR s.heap t vs.toArray)(hb:yR s.heap b ws.toArray)(hv:vs=[])(h:Q (.ref b) s):bD 'F' A (fB .Add (.ref t) (.ref b)) Q E s:=by
 obtain⟨⟨cls,dd,data,sl⟩,ho,hc,n,hd⟩:=id ht;obtain⟨⟨cls2,dd2,data2,sl2⟩,ho2,hc2,n2,hd2⟩:=id hb;simp only at hc hd hc2 hd2;subst hc hd hc2 hd2;exact concat_meets ⟨_,ho,rfl⟩ ⟨_,ho2,rfl⟩ noFill_tuple_add seq_tuple_add pX pH (oZ _ _)
  (tuple_addW0 t b vs.toArray ws.toArray n n2 dd dd2 sl sl2 (by simp[hv])) ⟨ho,ho2,h⟩
end
section
variable{X:Cx}
end
section
variable{X:Cx}
end
def yj:fillsNumberSlot (.type "tuple") "mul"=pure ZV :=
 PySem.fillsNumberSlot_seq (id := "tuple.__mul__") (r:=ZY (.builtin "tuple.__rmul__")) nD.lookup (by decide +kernel) yW.lookup (by decide +kernel)
def aca:seqRepeat? (.type "tuple")=pure (ZY (.builtin "tuple.__mul__")):=by
 unfold seqRepeat?;rw[zF (T := "tuple") (name := "__mul__") (id := "tuple.__mul__") nD.lookup (by decide +kernel),zF (T := "tuple") (name := "__rmul__") (id := "tuple.__rmul__") yW.lookup (by decide +kernel)]
 rfl
def aau(a:Int)(t:Tok)(l:bB)(items:Array aH)(n:Nat)(dd:Option bB)(sl:Array (Option aH)) :
  Meets (kY.«int.__rmul__» ⟨[.int a t,.ref l],[]⟩) (λ_ R s=>s.heap.get? l=ZY { cls:=.type "tuple", dict:=dd,data:=.seq items n,slots:=sl }/\R (.ok (.ret wM)) s) :=
 .of_wp λprog w A R s h=>by obtain⟨hp,g,d,tk,os⟩:=s;obtain⟨hl,h⟩:=h;wp_walk;exact⟨_,rfl,h⟩
def apv(l:bB)(items:Array aH)(n:Nat)(dd:Option bB)(sl:Array (Option aH))(x:Int)(u:Tok)(h0:items.isEmpty=ZV)(h2:2<=x)(h63:x<2 ^ 63)(hsz:items.size*x.toNat<=cU) :
  Meets (kY.«tuple.__mul__» ⟨[.ref l,.int x u],[]⟩) (λ_ R s=>s.heap.get? l=ZY { cls:=.type "tuple", dict:=dd,data:=.seq items n,slots:=sl } /\
   R (.ok (.ret (cY s.heap.objs.size))) { s with heap:=s.heap.push { cls:=lB "tuple", data:=Aw (nT (λx1 x2=>x1++x2) #[] (aK x.toNat items)) },toks:=s.toks }) :=
 .of_wp λprog w A R s h=>by
  obtain⟨hp,g,d,tk,os⟩:=s;obtain⟨hl,h⟩:=h;have c1:(decide (x < -2 ^ 63)||decide (x≥2 ^ 63))=ZV:=by
   rw[rB];exact⟨decide_eq_false (by omega),decide_eq_false (by omega)⟩
  have c2:(items.isEmpty||x==1)=ZV:=by
   rw[h0,Az,beq_eq_false_iff_ne];omega
  have c3:(decide (x<=0)||items.isEmpty)=ZV:=by
   rw[h0,Ay];exact decide_eq_false (by omega)
  have e4:((items.size:Int)*x)=((items.size*x.toNat:Nat):Int):=by
   have:x=(x.toNat:Int):=by omega
   rw[Int.natCast_mul,<-this]
  have h4:(cU:Int)<=(2 ^ 63-1) / 8:=by decide
  have c4:¬((items.size:Int)*x > (2 ^ 63-1) / 8):=by rw[e4];omega
  have c5:uU ((items.size:Int)*x)=ZV:=by
   unfold uU;rw[e4];exact decide_eq_false (by omega)
  wp_walk;refine wpAny_ite_false (by rw[c1];rfl) ?_
  wp_walk;refine wpAny_ite_false (by rw[c2];rfl) ?_
  try dsimp only
  refine wpAny_ite_false (by rw[c3];rfl) ?_
  try dsimp only
  refine wpAny_ite_false (decide_eq_false c4) ?_
  try dsimp only
  refine wpAny_ite_false (by rw[c5];rfl) ?_
  have hso:sizeOk (.seq (nT (λx1 x2=>x1++x2) #[] (aK x.toNat items))):=by
   show(nT (λx1 x2=>x1++x2) #[] (aK x.toNat items)).size<=cU
   have hn:=foldl_rep items.toList x.toNat [];rw[bQ] at hn;have hn':nT (λx1 x2=>x1++x2) #[] (aK x.toNat items)=(aK x.toNat items.toList).flatten.toArray:=hn
   rw[hn',aP,len_rep,bU,oN];exact hsz
  refine aA (m:=iQ _) (cA (aF ⟨_,rfl,h⟩) hso)
def apw(l:bB)(items:Array aH)(n:Nat)(dd:Option bB)(sl:Array (Option aH))(x:Int)(u:Tok)(hx:x=1) :
  Meets (kY.«tuple.__mul__» ⟨[.ref l,.int x u],[]⟩) (λ_ R s=>s.heap.get? l=ZY { cls:=.type "tuple", dict:=dd,data:=.seq items n,slots:=sl }/\R (.ok (.ret (cY l))) s) :=
 .of_wp λprog w A R s h=>by
  obtain⟨hp,g,d,tk,os⟩:=s;obtain⟨hl,h⟩:=h;have c1:(decide (x < -2 ^ 63)||decide (x≥2 ^ 63))=ZV:=by
   rw[rB];exact⟨decide_eq_false (by omega),decide_eq_false (by omega)⟩
  have c2:(items.isEmpty||x==1)=ZW:=by rw[hx];simp
  wp_walk;exact⟨_,rfl,h⟩
section
variable{X:Cx}
def a02:OpR X (fB .Mult) (λx y H Q=>∃a xs,x=.ref a/\y=.int 1/\H a=ZY (.tup xs)/\Q (.ref a) H):=by
 intro zv s σ H x y v u Q I rx ry h;obtain⟨a,xs,rfl,rfl,ha,q⟩:=h;cases rx;obtain⟨t,rfl⟩:=ry;obtain⟨its,r1,p1,_⟩:=I.tuple (SqT.of ha);obtain⟨⟨cls,dd,data,sl⟩,ho,hc,n,hd⟩:=id p1;simp only at hc hd;subst hc hd;exact wpAny_binaryOp_repeat_ref (T := "tuple") (U := "int") (by decide) ⟨_,ho,rfl⟩ (λs'=>nR s' 1 t) yj qR kE aca pR.lookup
  (kZ kE (nR s 1 t) pU (pC _ _) (aau 1 t a its.toArray n dd sl)
   ⟨ho,rfl,⟨_,ho,rfl⟩,kZ nD ⟨_,ho,rfl⟩ tH (sI _ _) (apw a its.toArray n dd sl 1 t rfl) ⟨ho,⟨.ref a,H,I,rfl,q⟩⟩⟩)
def a4d:R2:=λx y H Q=>∃a xs k,x=.ref a/\y=.int k/\H a=ZY (.tup xs)/\xs≠[]/\2<=k/\k<2 ^ 63/\xs.length*k.toNat<=cU/\∀p,H p=ZX->Q (.ref p) (upd H p (.tup (aK k.toNat xs).flatten))
def awz:OpR X (fB .Mult) a4d:=by
 intro zv s σ H x y v u Q I rx ry h;obtain⟨a,xs,k,rfl,rfl,ha,hx,h2,h63,hz,q⟩:=h;cases rx;obtain⟨t,rfl⟩:=ry;obtain⟨its,r1,p1,_⟩:=I.tuple (SqT.of ha);obtain⟨⟨cls,dd,data,sl⟩,ho,hc,n,hd⟩:=id p1;simp only at hc hd;subst hc hd;have hnew:nT (λx1 x2=>x1++x2) #[] (aK k.toNat its.toArray)=(aK k.toNat its).flatten.toArray:=by
  have:=foldl_rep its k.toNat [];rw[bQ] at this;exact this
 refine wpAny_binaryOp_repeat_ref (T := "tuple") (U := "int") (by decide) ⟨_,ho,rfl⟩ (λs'=>nR s' k t) yj qR kE aca pR.lookup
  (kZ kE (nR s k t) pU (pC _ _) (aau k t a its.toArray n dd sl)
   ⟨ho,rfl,⟨_,ho,rfl⟩,kZ nD ⟨_,ho,rfl⟩ tH (sI _ _) (apv a its.toArray n dd sl k t ?_ h2 h63 ?_) ⟨ho,?_⟩⟩)
 ·cases its with
  |nil=>exact absurd (r1.nil_iff.mp rfl) hx
  |cons _ _=>rfl
 ·rw[aP,<-r1.length];exact hz
 ·rw[hnew];refine⟨.ref s.heap.objs.size,_,I.laid (t':=s.toks) (o:=.tup (aK k.toNat xs).flatten) (λb ob q=>aB _ q) (aL _) ?_,rfl,q _ (I.hok.fresh (aL _))⟩
  exact⟨by rw[len_rep,oN];exact hz,_,r1.rep k.toNat,IsTp.new _ _⟩
end
section
variable{prog:cF}{w:dX}{A:dG}{E:aH->aN->Prop}{s:aN}
def adw{t sl:bB}{items:Array aH}{vl vu:aH}{lo hi:Option Int}{Q:aH->aN->Prop}(ht:yR s.heap t items)(hs:s.heap.IsSliceOf sl vl vu .none)(pl:tM vl lo)(pu:tM vu hi)
  (h1:HT.sIx items.size 0 lo=0) (h2:HT.sIx items.size items.size hi=items.size) (h:Q (.ref t) s):bD 'F' A (sU (.ref t) (.ref sl)) Q E s:=by
 obtain⟨os,hos,hcs,hds⟩:=id hs;have hTs:s.TypeIs (.ref sl) "slice" := ⟨os,hos,hcs⟩;unfold sU
 try with_reducible refine dD ?_
 first |refine aA (aF ?_) |skip
 refine aA (wpAny_sequenceKey ht.typeIs (by decide) ?_)
 refine aA (dZ (name:=fV "__getitem__") ht.typeIs fQ
  (fO fQ ht.typeIs entry_tuple_getitem ?_ (args_tuple_getitem _ _)))
 show bD _ _ (uV (.ref t) >>= _) _ _ s;refine aA (tupleItemsOf_ ht ?_);refine aA (wpAny_typeOf hTs ?_);rw[if_pos (by decide)]
 refine aA (HT.abz hs pl pu ?_);have hyes:(((HT.sIx items.size 0 lo:Nat):Int)==0&&(1:Int)==1&&(HT.sIx items.size items.size hi-HT.sIx items.size 0 lo)==items.size)=ZW:=by
  rw[h1,h2];simp
 show bD _ _ (if (((HT.sIx items.size 0 lo:Nat):Int)==0&&(1:Int)==1&&(HT.sIx items.size items.size hi-HT.sIx items.size 0 lo)==items.size)=ZW then _ else _) _ _ s
 rw[if_pos hyes];refine aA (aA (wpAny_typeOf ht.typeIs (aF ?_)));rw[if_pos (by decide)]
 exact aA (mR (aF ⟨_,rfl,aF h⟩))
end
section
variable{X:Cx}
end
section
variable{X:Cx}(K:Fg9)(hK:X.K=K)
include hK
variable{tg:fP}
end
def my:bY "len"=ZY (.builtin "len"):=by decide +kernel
def azi:bY "all"=ZY (.builtin "all"):=by decide +kernel
def a7g:bY "any"=ZY (.builtin "any"):=by decide +kernel
def fc:bY "isinstance"=ZY (.builtin "isinstance"):=by decide +kernel
def azh:bY "max"=ZY (.builtin "max"):=by decide +kernel
def azg:bY "min"=ZY (.builtin "min"):=by decide +kernel
def avh:bY "sorted"=ZY (.builtin "sorted"):=by decide +kernel
def avj:bY "divmod"=ZY (.builtin "divmod"):=by decide +kernel
def avi:bY "int"=ZY (.type "int"):=by decide +kernel
def avk:bY "bool"=ZY (.type "bool"):=by decide +kernel
def vd:bY "tuple"=ZY (.type "tuple"):=by decide +kernel
def abw:bY "list"=ZY (.type "list"):=by decide +kernel
def ayb:bY "range"=ZY (.type "range"):=by decide +kernel
def a7f:bY "set"=ZY (.type "set"):=by decide +kernel
def ama:bY "enumerate"=ZY (.type "enumerate"):=by decide +kernel
structure ExcK (K:Fg9) (C:bB):Prop where
 ga:mO K (.ref C) "__getattribute__"=ZY (ZY (.builtin "BaseException.__getattribute__"))
 gh:mO K (.ref C) "__getattr__"=ZY ZX
 be:mH K C (.type "BaseException")=ZY ZW
 hd:mX K C=ZW
 cl:mO K (.ref C) "__class__"=ZY (ZY (.builtin "object.__class__"))
 sp:mW K (.builtin "object.__class__") "__get__"=ZY (ZY (.builtin "getset_descriptor.__get__"))
 tk:qF K (.builtin "object.__class__")=ZY ZW
 ob:mH K C (.type "object")=ZY ZW
 no:∀T∈["int","bool","tuple","list","str","dict"],iY K (.ref C) (.type T)=ZY ZV
def anr{K:Fg9}{C:bB}{od:Option Obj}{name:Str}{a g:aH}(hc:(mJ K C).isSome=ZW)(ha:mO K (.ref C) name=ZY (ZY a))(hg:mW K a "__get__"=ZY (ZY g))(ht:qF K a=ZY ZW):nZ K C od name=ZY (.bind g a):=by
 obtain⟨cd,hc⟩:=pA.mp hc;unfold nZ;rw[hc,zJ,ha,zJ];simp[hg,ht]
section
variable{prog:cF}{w:dX}{A:dG}{E:aH->aN->Prop}{s:aN}{K:Fg9}{x D:bB}{ox:Obj}{od:Option Obj}{name:Str}
def apa{fill expr:Bool}{tk:Tok}{Q:aH->aN->Prop}(X:K.In s.heap)(I:jB s.heap x ox D od)(k:ExcK K D)
  (h:bD 'F' A.in1 (kY.«object.__getattribute__» ⟨[.ref x,.str name tk],[]⟩)
   (λfin s'=>match fin with |.done (.ret v)=>bD 'F' A (handedOut v) Q E s' |_=>False) (λ_ _=>False) s) :
  bD 'F' A (getAttrBy (.ref x) (.str name tk) fill expr) Q E s:=by
 obtain⟨hh,g,d,t,os⟩:=s;have L0:=I.type (M:=bT prog w);have L1:=qZ (M:=bT prog w) X k.ga;have L2:=qZ (M:=bT prog w) X k.gh;have L3:lK 'F' hh (isInstance (.ref x) (.type "BaseException")) ZW:=L0.andThen (wX X k.be);unfold getAttrBy;refine dD (aA (L0.at (aA (L1.at ?_))));have hx2:(nM "BaseException.__getattribute__" == nM "object.__getattribute__")=ZV:=by decide +kernel
 have hx1:(onTheHeap (cY D)&&nM "BaseException.__getattribute__" == nM "object.__getattribute__")=ZV:=by rw[hx2,vH]
 simp only[hx1,iR,if_false];unfold getAttrByItsOwn hookBefore;rw[if_pos (show onTheHeap (cY D)=ZW from rfl)]
 refine aA ?_;refine L2.at (aA (wpAny_attempt (dD ?_)));have hx0:(expr&&onTheHeap (nM "BaseException.__getattribute__"))=ZV:=by cases expr <;> rfl
 unfold callGetattribute;rw[if_neg (by rw[hx0];exact cM)]
 unfold boundAndCalled;refine aA (wpAny_of_eq (vO.ga.bind (.ref x)) ?_);have hk1:builtinKind "BaseException.__getattribute__"=ZY .slot:=by decide +kernel
 have hs1:splitId "BaseException.__getattribute__"=ZY ("BaseException","__getattribute__"):=by decide +kernel
 have ha1:=PySem.F.args_bexc_ga (.ref x) (.str name tk);dsimp only[dH,bQ];refine lZ (codeAny_call_builtin (id := "BaseException.__getattribute__") (args:=⟨[.ref x,.str name tk],[]⟩) vO.ga.plain PySem.F.entry_bexc_ga ?_);refine xR (i := "BaseException.__getattribute__") (owner := "BaseException") (n := "__getattribute__") (self:=.ref x) (rest:=[.str name tk]) (kw:=[]) hk1 hs1 L3 ha1 ?_;refine aZ h (λfin s' z=>?_) λ_ _ z=>z.elim
 rcases fin with(_ |_ |_ |_) |_ <;> first |exact z |exact z.elim
def axx(X:K.In s.heap)(I:jB s.heap x ox D od)(hf:nZ K D od name=ZY (.bind g a))
  (h:bD 'F' A (call g [a,.ref x,.ref D]) P E s) :
  bD 'F' A (kY.«object.__getattribute__» ⟨[.ref x,.str name tk],[]⟩) (λfin s'=>match fin with |.done (.ret v)=>P v s' |_=>False) E s:=by
 obtain⟨hh,gg,d,t,os⟩:=s;have L0:=I.type (M:=bT prog w);have L1:=xP (M:=bT prog w) X I hf;unfold kY.«object.__getattribute__»
 refine aA (aF (aA (aF (aA (L0.at (aA (L1.at ?_)))))));show bD _ _ (Builtin.ObjectAttr.bindTo g a (.ref x) (.ref D)) _ _ _;show bD _ _ (mU [a] (call g [a,.ref x,.ref D]) >>= ret) _ _ _;exact aA (dD (aZ h (λv s' z=>aF z) λ_ _ z=>z))
def exc_value(X:K.In s.heap)(I:jB s.heap x ox D od)(hf:nZ K D od name=ZY (.value v))(h:Q (.done (.ret v)) s) :
  bD 'F' A (kY.«object.__getattribute__» ⟨[.ref x,.str name tk],[]⟩) Q E s:=by
 obtain⟨hh,gg,d,t,os⟩:=s;have L0:=I.type (M:=bT prog w);have L1:=xP (M:=bT prog w) X I hf;unfold kY.«object.__getattribute__»
 refine aA (aF (aA (aF (aA (L0.at (aA (L1.at ?_)))))));exact aF h
end
def aow{K:Fg9}{x D:bB}(k:ExcK K D):PySem.W.KitX K (.ref x) (.ref D) (λh=>∃ox od,jB h x ox D od) where
 ty:=λ_ _ _ ⟨_,_,I⟩=>I.type
 it:=λ_ _ X _=>by
  obtain⟨cdD,hcD,_⟩:=lW k.hd;unfold mJ at hcD;split at hcD
  ·rename_i c' d' cd' sl' ho;intro A' Q' E' s' k q;unfold isType loadHead;exact aA (wpAny_loadPart (k _ _ (X _ _ ho)) (aF q))
  ·cases hcD
 ne:=λh tp dd its n sl X htp=>by
  obtain⟨cdD,hcD,_⟩:=lW k.hd;refine zA.mpr λq=>?_
  have e:D=tp:=Ao (beq_iff_eq.mp q);subst e;unfold mJ at hcD;split at hcD
  ·rename_i c' d' cd' sl' ho;have z:=(X _ _ ho).symm.trans htp;cases z
  ·cases hcD
 ca:=λ{prog w A E Q s} X ⟨ox,od,I⟩ q=>by
  have hf:nZ K D od "__class__"=ZY (.bind (.builtin "getset_descriptor.__get__") (.builtin "object.__class__")):=anr (by obtain⟨cd,hc,_⟩:=lW k.hd;rw[hc];rfl) k.cl k.sp k.tk
  unfold getAttr? getAttrBy?;refine aA (wpAny_mkText (aA (wpAny_attempt (apa (s:={ s with toks:=s.toks+1 }) X I k (axx (s:={ s with toks:=s.toks+1 }) X I hf
   (lZ (PySem.W.class_get (s:={ s with toks:=s.toks+1 }) (ox:=ox) (od:=od) X I k.ob (PySem.W.handed_on rfl (aF q)))))))))
end Mn
namespace Dn
open L2 Mn
inductive D where
 |non |bl (b:Bool) |int (i:Int) |str (x:Str) |tup (l:List D) |lst (l:List D) |kst (l:List D) |dct (kvs:List (Key×D)) |exn (c:Str) (fs:List (Str×Int)) |dtt (kvs:List (List Int×Int))
def exO(a C:bB)(dx:Option bB):iK->Prop:=λh=>∃oe vs,h.get? a=ZY oe/\oe.cls=.ref C/\oe.dict=dx/\oe.data=.fields vs
section
variable(K:Fg9)(F:Hp)
mutual
inductive Is:D->V->Prop
 |non:Is .non .non
 |bl (b:Bool):Is (.bl b) (.bl b)
 |int (i:Int):Is (.int i) (.int i)
 |str (x:Str):Is (.str x) (.str x)
 |tup {a:bB} {vs:List V} {ds:List D} (e:F a=ZY (.tup vs)) (h:IsL ds vs):Is (.tup ds) (.ref a)
 |lst {a:bB} {vs:List V} {ds:List D} (e:F a=ZY (.lst vs)) (h:IsL ds vs):Is (.lst ds) (.ref a)
 |kst {a:bB} {vs:List V} {ds:List D} (e:SqL K F a vs) (h:IsL ds vs):Is (.kst ds) (.ref a)
 |dct {a:bB} {kvs:List (Key×V)} {ds:List (Key×D)} (e:F a=ZY (.dK kvs)) (h:IsK ds kvs):Is (.dct ds) (.ref a)
 |exn {a C:bB} {c:Str} {dx:Option bB} {fs:List (Str×Int)} (e:F a=ZY (.ext (exO a C dx))) (hc:nsIn K aW c=ZY (ZY (.ref C))) (hk:ExcK K C)
   (hf:(dx=ZX/\fs=[])∨∃d,dx=ZY d/\F d=ZY (.xd (fs.map λp=>(p.1,V.int p.2)))):Is (.exn c fs) (.ref a)
 |dtt {a:bB} {ds:List (List Int×Int)} (e:F a=ZY (.dT (ds.map λp=>(p.1.map sW,V.int p.2)))):Is (.dtt ds) (.ref a)
inductive IsL:List D->List V->Prop
 |nil:IsL [] []
 |cons {d:D} {v:V} {ds:List D} {vs:List V} (h:Is d v) (t:IsL ds vs):IsL (d::ds) (v::vs)
inductive IsK:List (Key×D)->List (Key×V)->Prop
 |nil:IsK [] []
 |cons {k:Key} {d:D} {v:V} {ds:List (Key×D)} {vs:List (Key×V)} (h:Is d v) (t:IsK ds vs):IsK ((k,d)::ds) ((k,v)::vs)
end
end
section
variable{K:Fg9}{F F':Hp}
mutual
theorem Is.mono(g:Same F F'):∀{d:D} {v:V},Is K F d v->Is K F' d v
 |_,_,.non=>.non
 |_,_,.bl b=>.bl b
 |_,_,.int i=>.int i
 |_,_,.str x=>.str x
 |_,_,.tup e h=>.tup (g _ _ e) (IsL.mono g h)
 |_,_,.lst e h=>.lst (g _ _ e) (IsL.mono g h)
 |_,_,.kst e h=>.kst (L2.Same.seq g e) (IsL.mono g h)
 |_,_,.dct e h=>.dct (g _ _ e) (IsK.mono g h)
 |_,_,.exn e hc hk hf=>.exn (g _ _ e) hc hk (hf.imp id λ⟨d,h1,h2⟩=>⟨d,h1,g _ _ h2⟩)
 |_,_,.dtt e=>.dtt (g _ _ e)
theorem IsL.mono(g:Same F F'):∀{ds:List D} {vs:List V},IsL K F ds vs->IsL K F' ds vs
 |_,_,.nil=>.nil
 |_,_,.cons h t=>.cons (Is.mono g h) (IsL.mono g t)
theorem IsK.mono(g:Same F F'):∀{ds:List (Key×D)} {vs:List (Key×V)},IsK K F ds vs->IsK K F' ds vs
 |_,_,.nil=>.nil
 |_,_,.cons h t=>.cons (Is.mono g h) (IsK.mono g t)
end
theorem IsL.length:∀{ds:List D} {vs:List V},IsL K F ds vs->ds.length=vs.length
 |_,_,.nil=>rfl
 |_,_,.cons _ t=>by simp[IsL.length t]
theorem IsL.append:∀{ds es:List D} {vs ws:List V},IsL K F ds vs->IsL K F es ws->IsL K F (ds++es) (vs++ws)
 |_,_,_,_,.nil,h=>h
 |_,_,_,_,.cons h t,k=>.cons h (IsL.append t k)
theorem IsL.take:∀{ds:List D} {vs:List V} (n:Nat),IsL K F ds vs->IsL K F (ds.take n) (vs.take n)
 |_,_,0,_=>by simpa using IsL.nil
 |_,_,_+1,.nil=>.nil
 |_,_,n+1,.cons h t=>.cons h (IsL.take n t)
theorem IsL.drop:∀{ds:List D} {vs:List V} (n:Nat),IsL K F ds vs->IsL K F (ds.drop n) (vs.drop n)
 |_,_,0,h=>h
 |_,_,_+1,.nil=>.nil
 |_,_,n+1,.cons _ t=>IsL.drop n t
theorem IsL.get:∀{ds:List D} {vs:List V} {i:Nat} {d:D},IsL K F ds vs->ds[i]? = ZY d->∃v,vs[i]? = ZY v/\Is K F d v
 |_,_,_,_,.nil,e=>by simp at e
 |_,_,0,_,.cons h _,e=>by simp at e;subst e;exact⟨_,rfl,h⟩
 |_,_,i+1,v,.cons _ t,e=>by
  obtain⟨d,h1,h2⟩:=IsL.get (i:=i) (d:=v) t (by simpa using e)
  exact⟨d,by simpa using h1,h2⟩
theorem IsL.set(h:Is K F d v):∀{ds:List D} {vs:List V} (i:Nat),IsL K F ds vs->IsL K F (ds.set i d) (vs.set i v)
 |_,_,_,.nil=>.nil
 |_,_,0,.cons _ t=>.cons h t
 |_,_,i+1,.cons q t=>.cons q (IsL.set h i t)
theorem IsL.rep(h:IsL K F ds vs):∀k:Nat,IsL K F (aK k ds).flatten (aK k vs).flatten
 | 0=>by simpa using IsL.nil
 |k+1=>by
  rw[fG,fG,jZ,jZ];exact h.append (IsL.rep h k)
theorem IsL.int_inv{ns:List Int}:∀{vs:List V},IsL K F (ns.map D.int) vs->vs=ns.map V.int:=by
 induction ns with
 |nil=>
  intro _ h;cases h;rfl
 |cons n r ih=>
  intro _ h;cases h with
  |cons h t=>
   cases h;rw[ih t];rfl
theorem IsL.bl_inv{ns:List Bool}:∀{vs:List V},IsL K F (ns.map D.bl) vs->vs=ns.map V.bl:=by
 induction ns with
 |nil=>
  intro _ h;cases h;rfl
 |cons n r ih=>
  intro _ h;cases h with
  |cons h t=>
   cases h;rw[ih t];rfl
theorem agm:∀ns:List Int,IsL K F (ns.map D.int) (ns.map V.int)
 | []=>.nil
 |n::r=>.cons (.int n) (agm r)
end
inductive Sl where
 |emp |val (d:D) |own (t:Option Nat) (l:List D) |box (c:Str) (fs:List (Str×(Nat ⊕ D))) |lol (ts:List Nat) |lnk (k:Nat)
abbrev Ro:=List Sl
def Owns(ρ:Ro)(σ:L2.St)(i:Nat)(a:bB):Prop:=(∃t l,ρ[i]? = ZY (.own t l))/\σ[i]? = ZY (ZY (.ref a))
def Own(ρ:Ro)(σ:L2.St)(a:bB):Prop:=∃i,Owns ρ σ i a
def SlOk(K:Fg9)(tg:Nat->bB)(F H:Hp):Sl->Option V->Prop
 |.emp,_=>True
 |.val d,o=>∃v,o=ZY v/\Is K F d v
 |.own t l,o=>∃a vs,o=ZY (.ref a)/\F a=ZX/\H a=ZY (.lst vs)/\IsL K F l vs/\∀k,t=ZY k->tg k=a
 |.box c fs,o=>∃a C dx fvs,o=ZY (.ref a)/\F a=ZX/\H a=ZY (.ins C dx fvs)/\nsIn K aW c=ZY (ZY (.ref C))/\(∀f,fs.lookup f=ZX->fvs.lookup f=ZX)/\(∀f k,fs.lookup f=ZY (.inl k)->fvs.lookup f=ZY (.ref (tg k)))/\∀f d,fs.lookup f=ZY (.inr d)->∃v,fvs.lookup f=ZY v/\Is K F d v
 |.lol ts,o=>∃a,o=ZY (.ref a)/\F a=ZY (.lst (ts.map λk=>V.ref (tg k)))
 |.lnk k,o=>o=ZY (.ref (tg k))
structure Good (K:Fg9) (tg:Nat->bB) (F H:Hp) (ρ:Ro) (σ:L2.St):Prop where
 sub:Same F H
 len:ρ.length=σ.length
 sl:∀(i:Nat) (s:Sl) (o:Option V),ρ[i]? = ZY s->σ[i]? = ZY o->SlOk K tg F H s o
 inj:∀(i j:Nat) (a:bB),Owns ρ σ i a->Owns ρ σ j a->i=j
structure Ext (O O':bB->Prop) (F H F' H':Hp):Prop where
 sub:Same F F'
 new:∀a o,F' a=ZY o->F a=ZY o∨H a=ZX∨O a
 keep:∀a o,H a=ZY o->¬O a->H' a=ZY o
 own:∀a,O' a->O a∨H a=ZX
 there:∀a,H' a=ZX->H a=ZX
def Ext.refl(O:bB->Prop)(F H:Hp):Ext O O F H F H:=⟨λ_ _ e=>e,λ_ _ e=>.inl e,λ_ _ e _=>e,λ_ h=>.inl h,λ_ h=>h⟩
def Ext.trans(a:Ext O O1 F H F1 H1)(b:Ext O1 O2 F1 H1 F2 H2):Ext O O2 F H F2 H2 where
 sub:=a.sub.trans b.sub
 new:=λc o e=>by
  rcases b.new c o e with q |q |q
  ·exact a.new c o q
  ·exact .inr (.inl (a.there c q))
  ·rcases a.own c q with z |z
   ·exact .inr (.inr z)
   ·exact .inr (.inl z)
 keep:=λc o e n=>b.keep c o (a.keep c o e n) λz=>by
  rcases a.own c z with q |q
  ·exact n q
  ·rw[e] at q;cases q
 own:=λc z=>by
  rcases b.own c z with q |q
  ·exact a.own c q
  ·exact .inr (a.there c q)
 there:=λc z=>a.there c (b.there c z)
section
variable{K:Fg9}{tg:Nat->bB}{F H F' H':Hp}{ρ ρ':Ro}{σ:L2.St}
def Good.ownAt(G:Good K tg F H ρ σ)(h:Own ρ σ a):F a=ZX/\∃vs,H a=ZY (.lst vs):=by
 obtain⟨i,⟨t,l,e⟩,q⟩:=h;obtain⟨b,vs,e1,f,e2,_⟩:=G.sl i _ _ e q;cases e1;exact⟨f,vs,e2⟩
def Good.grow(G:Good K tg F H ρ σ)(s:Same F F')(s':Same F' H')(k:∀a,Own ρ σ a->F' a=ZX/\H' a=H a)(kb:∀a C dx fvs,F a=ZX->H a=ZY (.ins C dx fvs)->F' a=ZX/\H' a=H a):Good K tg F' H' ρ σ where
 sub:=s'
 len:=G.len
 inj:=G.inj
 sl:=λi sl o e q=>by
  have z:=G.sl i sl o e q;cases sl with
  |emp=>trivial
  |val d=>
   obtain⟨v,e1,h⟩:=z;exact⟨v,e1,h.mono s⟩
  |lol ts=>
   obtain⟨a,e1,e2⟩:=z;exact⟨a,e1,s _ _ e2⟩
  |lnk k=>exact z
  |box c fs=>
   obtain⟨a,C,dx,fvs,e1,e2,e3,e4,e7,e5,e6⟩:=z;obtain⟨f1,f2⟩:=kb a C dx fvs e2 e3;exact⟨a,C,dx,fvs,e1,f1,f2.trans e3,e4,e7,e5,λf d h=>(e6 f d h).imp λv h=>⟨h.1,h.2.mono s⟩⟩
  |own t l=>
   obtain⟨a,vs,e1,f,e2,h,ht⟩:=z;have w:=k a ⟨i,⟨t,l,e⟩,by rw[q,e1]⟩
   exact⟨a,vs,e1,w.1,by rw[w.2];exact e2,h.mono s,ht⟩
def Same.put(s:Same F H)(h:H p=ZX)(o:HO):Same (upd F p o) (upd H p o):=λb u e=>by
 by_cases hb:b=p
 ·subst hb;rw[gw] at e ⊢
  exact e
 ·rw[cg hb] at e ⊢
  exact s b u e
theorem Good.freeF(G:Good K tg F H ρ σ)(h:H p=ZX):F p=ZX:=by
 cases e:F p with
 |none=>rfl
 |some o=>rw[G.sub p o e] at h;cases h
def Good.own_ne(G:Good K tg F H ρ σ)(h:H p=ZX)(w:Own ρ σ a):a≠p:=by
 obtain⟨_,vs,e⟩:=G.ownAt w;exact gr e h
def Good.new(G:Good K tg F H ρ σ)(h:H p=ZX)(o:HO):Good K tg (upd F p o) (upd H p o) ρ σ :=
 G.grow (Same.new (G.freeF h) o) (Same.put G.sub h o) (λa w=>by
  rw[cg (G.own_ne h w),cg (G.own_ne h w)];exact⟨(G.ownAt w).1,rfl⟩) λa C dx fvs h1 h2=>by
  rw[cg (gr h2 h),cg (gr h2 h)];exact⟨h1,rfl⟩
def Good.newX(G:Good K tg F H ρ σ)(h:H p=ZX)(o:HO):Ext (Own ρ σ) (Own ρ σ) F H (upd F p o) (upd H p o) where
 sub:=Same.new (G.freeF h) o
 new:=λa u e=>by
  by_cases ha:a=p
  ·subst ha;exact .inr (.inl h)
  ·rw[cg ha] at e;exact .inl e
 keep:=λa u e _=>by rw[cg (gr e h)];exact e
 own:=λa w=>.inl w
 there:=λa e=>by
  by_cases ha:a=p
  ·subst ha;exact h
  ·rw[cg ha] at e;exact e
def Good.fresh(G:Good K tg F H ρ σ)(h:H p=ZX)(o:HO):Good K tg F (upd H p o) ρ σ :=
 G.grow (Same.refl F) (λb u e=>by rw[cg (gr (G.sub b u e) h)];exact G.sub b u e) (λa w=>by
  rw[cg (G.own_ne h w)];exact⟨(G.ownAt w).1,rfl⟩) λa C dx fvs h1 h2=>⟨h1,cg (gr h2 h)⟩
def Good.freshX(G:Good K tg F H ρ σ)(h:H p=ZX)(o:HO):Ext (Own ρ σ) (Own ρ σ) F H F (upd H p o) where
 sub:=Same.refl F
 new:=λa u e=>.inl e
 keep:=λa u e _=>by rw[cg (gr e h)];exact e
 own:=λa w=>.inl w
 there:=λa e=>by
  by_cases ha:a=p
  ·subst ha;exact h
  ·rw[cg ha] at e;exact e
def Good.freeze(G:Good K tg F H ρ σ)(h:H p=ZY o)(n:¬Own ρ σ p)(hf:F p=ZX)(hi:∀C dx fs,o≠.ins C dx fs:=by intro _ _ _ z;cases z):Good K tg (upd F p o) H ρ σ :=
 G.grow (Same.new hf o) (λb u e=>by
  by_cases hb:b=p
  ·subst hb;rw[gw] at e;cases e;exact h
  ·rw[cg hb] at e;exact G.sub b u e) (λa w=>by
  have:a≠p:=λz=>n (z▸w)
  rw[cg this];exact⟨(G.ownAt w).1,rfl⟩) λa C dx fvs h1 h2=>by
  have:a≠p:=λz=>by
   subst z;rw[h] at h2;exact hi _ _ _ (bJ h2)
  rw[cg this];exact⟨h1,rfl⟩
end
end Dn
namespace Dn
open L2 Mn
structure Exn where
 cls:Str
 fs:List (Str×Int)
inductive Out (α:Type) where
 |ok (a:α) |exc (x:Exn)
abbrev M(α:Type):=Ro->Option (Out α×Ro)
noncomputable def M.bind{α β:Type}(m:M α)(k:α->M β):M β:=λρ=>match m ρ with
 |some (.ok a,ρ1)=>k a ρ1
 |some (.exc x,ρ1)=>ZY (.exc x,ρ1)
 |none=>ZX
noncomputable def ret{α:Type}(a:α):M α:=λρ=>ZY (.ok a,ρ)
noncomputable def lift{α:Type}(o:Option α):M α:=λρ=>match o with
 |some a=>ZY (.ok a,ρ)
 |none=>ZX
section
variable{α β:Type}
def bj{m:M α}{k:α->M β}{ρ ρ2:Ro}{b:β}(h:m.bind k ρ=ZY (.ok b,ρ2)):∃a ρ1,m ρ=ZY (.ok a,ρ1)/\k a ρ1=ZY (.ok b,ρ2):=by
 unfold M.bind at h;split at h
 ·exact⟨_,_,by assumption,h⟩
 ·cases h
 ·cases h
def jb(h:lift o ρ=ZY (.ok b,ρ2)):o=ZY b/\ρ2=ρ:=by
 unfold lift at h;split at h
 ·cases h;exact⟨rfl,rfl⟩
 ·cases h
def lr(h:ret a ρ=ZY (.ok b,ρ2)):a=b/\ρ2=ρ:=by
 unfold ret at h;cases h;exact⟨rfl,rfl⟩
@[simp] theorem a7p(a:α)(k:α->M β):(ret a).bind k=k a:=rfl
@[simp] theorem a6c(a:α):lift (ZY a)=ret a:=rfl
end
inductive Rv where
 |v (d:D) |fr (l:List D)
 |tf (d:D) (l:List D)
abbrev Rel(α:Type):=α->V->(H:Hp)->(O:bB->Prop)->(F' H':Hp)->(O':bB->Prop)->Prop
def relD(K:Fg9):Rel D:=λd v _ _ F' _ _=>Is K F' d v
def Bor(K:Fg9)(F H:Hp)(d:D)(v:V):Prop:=Is K F d v∨∃a vs l,d=.lst l/\v=.ref a/\H a=ZY (.lst vs)/\IsL K F l vs
def relB(K:Fg9):Rel D:=λd v _ _ F' H' _=>Bor K F' H' d v
def relR(K:Fg9):Rel Rv:=λr v H O F' H' O'=>match r with
 |.v d=>Is K F' d v
 |.fr l=>∃a vs,v=.ref a/\(H a=ZX∨O a)/\F' a=ZX/\H' a=ZY (.lst vs)/\IsL K F' l vs/\¬O' a
 |.tf d l=>∃t u a vs,v=.ref t/\F' t=ZY (.tup [u,.ref a])/\Is K F' d u/\(H a=ZX∨O a)/\F' a=ZX/\H' a=ZY (.lst vs)/\IsL K F' l vs/\¬O' a
def T{α:Type}(K:Fg9)(rel:Rel α)(m:M α):TE:=λσ H Q=>∃tg F ρ a ρ',Good K tg F H ρ σ/\m ρ=ZY (.ok a,ρ') /\
 ∀v H' F',Good K tg F' H' ρ' σ->Ext (Own ρ σ) (Own ρ' σ) F H F' H'->rel a v H (Own ρ σ) F' H' (Own ρ' σ)->Q v H'
structure EV (K:Fg9) (X:Cx) (e:fP) (m:M D):Prop where
 go:X.K=K->PE X e (T K (relD K) m)
instance {K:Fg9} {X:Cx} {e:fP} {m:M D}:CoeFun (EV K X e m) λ_=>X.K=K->PE X e (T K (relD K) m):=⟨EV.go⟩
structure EB (K:Fg9) (X:Cx) (e:fP) (m:M D):Prop where
 go:X.K=K->PE X e (T K (relB K) m)
instance {K:Fg9} {X:Cx} {e:fP} {m:M D}:CoeFun (EB K X e m) λ_=>X.K=K->PE X e (T K (relB K) m):=⟨EB.go⟩
structure ER (K:Fg9) (X:Cx) (e:fP) (m:M Rv):Prop where
 go:X.K=K->PE X e (T K (relR K) m)
instance {K:Fg9} {X:Cx} {e:fP} {m:M Rv}:CoeFun (ER K X e m) λ_=>X.K=K->PE X e (T K (relR K) m):=⟨ER.go⟩
def PE.imp(h:PE X e t)(w:∀σ H Q,t' σ H Q->t σ H Q):PE X e t':=λzv s σ H Q I q=>h zv s σ H Q I (w σ H Q q)
section
variable{K:Fg9}{X:Cx}{e a b:fP}{pos:Pos}
def EV.toB(h:EV K X e m):EB K X e m:=EB.mk λhk=>PE.imp (h hk) λσ H Q ⟨tg,F,ρ,d,ρ',G,em,q⟩=>⟨tg,F,ρ,d,ρ',G,em,λv H' F' G' x r=>q v H' F' G' x (.inl r)⟩
def M.v(m:M D):M Rv:=m.bind λd=>ret (.v d)
def EV.toR{m:M D}(h:EV K X e m):ER K X e m.v:=ER.mk λhk=>PE.imp (h hk) λσ H Q z9=>by
 obtain⟨tg,F,ρ,r,ρ',G,em,q⟩:=z9;obtain⟨d,ρ1,e1,e2⟩:=bj em;obtain⟨rfl,rfl⟩:=lr e2;exact⟨tg,F,ρ,d,_,G,e1,λv H' F' G' x r=>q v H' F' G' x r⟩
def Rv.d:Rv->D
 |.v d=>d
 |.fr l=>.lst l
 |.tf d l=>.tup [d,.lst l]
def M.d(m:M Rv):M D:=m.bind λr=>ret r.d
theorem frz(G:Good K tg F' H' ρ' σ')(x:Ext O (Own ρ' σ') F H F' H')(h:relR K r v H O F' H' (Own ρ' σ')) :
  ∃F2,Good K tg F2 H' ρ' σ'/\Ext O (Own ρ' σ') F H F2 H'/\Is K F2 r.d v:=by
 cases r with
 |v d=>exact⟨F',G,x,h⟩
 |fr l=>
  obtain⟨a,vs,rfl,ha,hf,hh,hl,hn⟩:=h;refine⟨upd F' a (.lst vs),G.freeze hh hn hf,⟨x.sub.trans (Same.new hf _),λb o e=>?_,x.keep,x.own,x.there⟩,.lst gw (hl.mono (Same.new hf _))⟩
  by_cases hb:b=a
  ·subst hb;exact .inr ha
  ·rw[cg hb] at e;exact x.new b o e
 |tf d l=>
  obtain⟨t,u,a,vs,rfl,ht,hd,ha,hf,hh,hl,hn⟩:=h;have hta:t≠a:=λz=>by rw[z,hf] at ht;cases ht
  refine⟨upd F' a (.lst vs),G.freeze hh hn hf,⟨x.sub.trans (Same.new hf _),λb o e=>?_,x.keep,x.own,x.there⟩,.tup (by rw[cg hta];exact ht) (.cons (hd.mono (Same.new hf _)) (.cons (.lst gw (hl.mono (Same.new hf _))) .nil))⟩
  by_cases hb:b=a
  ·subst hb;exact .inr ha
  ·rw[cg hb] at e;exact x.new b o e
def ER.toD{m:M Rv}(h:ER K X e m):EV K X e m.d:=EV.mk λhk=>PE.imp (h hk) λσ H Q z9=>by
 obtain⟨tg,F,ρ,d,ρ',G,em,q⟩:=z9;obtain⟨r,ρ1,e1,e2⟩:=bj em;obtain⟨rfl,rfl⟩:=lr e2;refine⟨tg,F,ρ,r,_,G,e1,λv H' F' G' x w=>?_⟩
 obtain⟨F2,G2,x2,i2⟩:=frz G' x w;exact q v H' F2 G2 x2 i2
noncomputable def dw(i:Nat):M D:=λρ=>match ρ[i]? with
 |some (.val d)=>ZY (.ok d,ρ)
 |some (.own _ l)=>ZY (.ok (.lst l),ρ)
 |_=>ZX
def Good.at{tg:Nat->bB}{F H:Hp}{ρ:Ro}{σ:L2.St}(G:Good K tg F H ρ σ){i:Nat}{s:Sl}(e:ρ[i]? = ZY s):∃o,σ[i]? = ZY o/\SlOk K tg F H s o:=by
 have hi:i < σ.length:=by rw[<-G.len];exact(aJ.mp e).1
 exact⟨σ[i],aG hi,G.sl i s _ e (aG hi)⟩
def uv{tg:Nat->bB}{F H:Hp}{ρ ρ':Ro}{σ:L2.St}(G:Good K tg F H ρ σ){i:Nat}{d:D}(em:dw i ρ=ZY (.ok d,ρ')):ρ'=ρ/\∃v,σ[i]? = ZY (ZY v)/\Bor K F H d v:=by
 unfold dw at em;split at em
 ·rename_i d' e';cases em;obtain⟨o,ho,v,rfl,hv⟩:=G.at e';exact⟨rfl,v,ho,.inl hv⟩
 ·rename_i t l e';cases em;obtain⟨o,ho,a,vs,rfl,hf,hh,hl,_⟩:=G.at e';exact⟨rfl,_,ho,.inr ⟨a,vs,l,rfl,rfl,hh,hl⟩⟩
 ·cases em
def dg(h:PE X e (tVar i)):EB K X e (dw i):=EB.mk λ_=>PE.imp h λσ H Q z9=>by
 obtain⟨tg,F,ρ,d,ρ',G,em,q⟩:=z9;obtain⟨rfl,v,ho,hv⟩:=uv G em;exact⟨v,ho,q v H F G (Ext.refl _ _ _) hv⟩
def agb(i:Nat):M Rv:=λρ=>match ρ[i]? with
 |some (.val d)=>ZY (.ok (.v d),ρ)
 |some (.own ZX l)=>ZY (.ok (.fr l),ρ.set i .emp)
 |_=>ZX
def getset{α:Type}{l:List α}{i:Nat}{x y:α}(e:l[i]? = ZY y)(j:Nat):(l.set i x)[j]? = if i=j then ZY x else l[j]? := by
 rw[cB];have hi:=(aJ.mp e).1
 by_cases h:i=j
 ·subst h;simp[hi]
 ·simp[h]
def Good.drop(G:Good K tg F H ρ σ)(i:Nat):Good K tg F H (ρ.set i .emp) σ:=by
 have sub:∀j t l,(cI ρ i Sl.emp)[j]? = ZY (Sl.own t l)->(ρ:List Sl)[j]? = ZY (Sl.own t l):=λj t l e=>by
  rw[cB] at e;split at e
  ·split at e <;> cases e
  ·exact e
 refine⟨G.sub,by rw[fH];exact G.len,λj s o e q=>?_,λj k a ⟨⟨t,l,e⟩,q⟩ ⟨⟨t',l',e'⟩,q'⟩=>G.inj j k a ⟨⟨t,l,sub _ _ _ e⟩,q⟩ ⟨⟨t',l',sub _ _ _ e'⟩,q'⟩⟩
 rw[cB] at e;split at e
 ·split at e
  ·cases e;trivial
  ·cases e
 ·exact G.sl j s o e q
def agg{ρ:Ro}{σ:L2.St}{i:Nat}{a:bB}(h:Own (ρ.set i .emp) σ a):Own ρ σ a/\∀t l,ρ[i]? = ZY (.own t l)->∀(inj:∀i j a,Owns ρ σ i a->Owns ρ σ j a->i=j),¬Owns ρ σ i a:=by
 obtain⟨j,⟨t,l,e⟩,q⟩:=h;rw[cB] at e;split at e
 ·split at e <;> cases e
 ·rename_i hne;have w:Owns ρ σ j a:=⟨⟨t,l,e⟩,q⟩;exact⟨⟨j,w⟩,λt' l' _ inj z=>hne (inj _ _ _ z w)⟩
def abo{i:Nat}(h:PE X e (tVar i)):ER K X e (agb i):=ER.mk λ_=>PE.imp h λσ H Q z9=>by
 obtain⟨tg,F,ρ,d,ρ',G,em,q⟩:=z9;unfold agb at em;split at em
 ·rename_i d' e';cases em;obtain⟨o,ho,v,rfl,hv⟩:=G.at e';exact⟨v,ho,q v H F G (Ext.refl _ _ _) hv⟩
 ·rename_i l e';cases em;obtain⟨o,ho,a,vs,rfl,hf,hh,hl,_⟩:=G.at e';have w:Owns ρ σ i a:=⟨⟨_,_,e'⟩,ho⟩;refine⟨_,ho,q _ H F (G.drop i) ⟨Same.refl _,λ_ _ e=>.inl e,λ_ _ e _=>e,λb z=>.inl (agg z).1,λ_ z=>z⟩ ⟨a,vs,rfl,.inr ⟨i,w⟩,hf,hh,hl,λz=>(agg z).2 _ _ e' G.inj w⟩⟩
 ·cases em
noncomputable def mVar(i:Nat):M D:=λρ=>match ρ[i]? with
 |some (.val d)=>ZY (.ok d,ρ)
 |some (.own ZX l)=>ZY (.ok (.lst l),ρ.set i (.val (.lst l)))
 |_=>ZX
def awx{ρ:Ro}{σ:L2.St}{i:Nat}{d:D}{a:bB}(h:Own (ρ.set i (.val d)) σ a):Own (ρ.set i .emp) σ a:=by
 obtain⟨j,⟨t,l,e⟩,q⟩:=h;refine⟨j,⟨t,l,?_⟩,q⟩;rw[cB] at e ⊢
 split at e
 ·split at e <;> cases e
 ·rename_i hne;rw[if_neg hne];exact e
def Good.setv{tg:Nat->bB}{F H:Hp}{ρ:Ro}{σ:L2.St}{i:Nat}{d:D}{v:V}(G:Good K tg F H (ρ.set i .emp) σ)(e:σ[i]? = ZY (ZY v))(h:Is K F d v):Good K tg F H (ρ.set i (.val d)) σ:=by
 have sub:∀j t l,(cI ρ i (Sl.val d))[j]? = ZY (Sl.own t l)->(cI ρ i Sl.emp)[j]? = ZY (Sl.own t l):=λj t l z=>by
  rw[cB] at z ⊢
  split at z
  ·split at z <;> cases z
  ·rename_i hne;rw[if_neg hne];exact z
 refine⟨G.sub,by have:=G.len;rw[fH] at this ⊢;exact this,λj s o z q=>?_,λj k a ⟨⟨t,l,z⟩,q⟩ ⟨⟨t',l',z'⟩,q'⟩=>G.inj j k a ⟨⟨t,l,sub _ _ _ z⟩,q⟩ ⟨⟨t',l',sub _ _ _ z'⟩,q'⟩⟩
 by_cases hij:i=j
 ·subst hij;rw[cB,if_pos rfl] at z;split at z
  ·cases z;rw[e] at q;cases q;exact⟨v,rfl,h⟩
  ·cases z
 ·refine G.sl j s o ?_ q;rw[cB,if_neg hij] at z ⊢
  exact z
def ak{i:Nat}(h:PE X e (tVar i)):EV K X e (mVar i):=EV.mk λ_=>PE.imp h λσ H Q z9=>by
 obtain⟨tg,F,ρ,d,ρ',G,em,q⟩:=z9;unfold mVar at em;split at em
 ·rename_i d' e';cases em;obtain⟨o,ho,v,rfl,hv⟩:=G.at e';exact⟨v,ho,q v H F G (Ext.refl _ _ _) hv⟩
 ·rename_i l e';cases em;obtain⟨o,ho,a,vs,rfl,hf,hh,hl,_⟩:=G.at e';have w:Owns ρ σ i a:=⟨⟨_,_,e'⟩,ho⟩;have nown:¬Own (ρ.set i .emp) σ a:=λz=>(agg z).2 _ _ e' G.inj w
  have G2:=(G.drop i).freeze hh nown hf;have i2:Is K (upd F a (.lst vs)) (.lst l) (.ref a):=.lst gw (hl.mono (Same.new hf _));refine⟨_,ho,q _ H _ (G2.setv ho i2) ⟨Same.new hf _,λb o z=>?_,λ_ _ z _=>z,λb z=>.inl (agg (awx z)).1,λ_ z=>z⟩ i2⟩
  by_cases hb:b=a
  ·subst hb;exact .inr (.inr ⟨i,w⟩)
  ·rw[cg hb] at z;exact .inl z
 ·cases em
def ev_c(h:PE X e (tC v))(hi:∀F,Is K F d v):EV K X e (ret d):=EV.mk λ_=>PE.imp h λσ H Q z9=>by
 obtain⟨tg,F,ρ,d',ρ',G,em,q⟩:=z9;obtain⟨rfl,rfl⟩:=lr em;exact q v H F G (Ext.refl _ _ _) (hi F)
def az:EV K X (.Constant (.int i) j pos) (ret (.int i)):=ev_c a5b λ_=>.int i
def ad4:EV K X (.Constant (.bool i) j pos) (ret (.bl i)):=ev_c a89 λ_=>.bl i
def aiz:EV K X (.Constant .none j pos) (ret .non):=ev_c a4y λ_=>.non
def qz:EV K X (.Constant (.str i) j pos) (ret (.str i)):=ev_c a4v λ_=>.str i
def T2(K:Fg9)(m:M (D×D))(σ:L2.St)(H:Hp)(R:V->V->Hp->Prop):Prop:=∃tg F ρ p ρ',Good K tg F H ρ σ/\m ρ=ZY (.ok p,ρ') /\
 ∀x y H' F',Good K tg F' H' ρ' σ->Ext (Own ρ σ) (Own ρ' σ) F H F' H'->Bor K F' H' p.1 x->Bor K F' H' p.2 y->R x y H'
structure E2 (K:Fg9) (X:Cx) (a b:fP) (m:M (D×D)):Prop where
 go:X.K=K->∃ta tb,PE X a ta/\PE X b tb/\∀σ H R,T2 K m σ H R->ta σ H λx H1=>tb σ H1 λy H2=>R x y H2
instance {K:Fg9} {X:Cx} {a b:fP} {m:M (D×D)}:CoeFun (E2 K X a b m) λ_=>X.K=K->∃ta tb,PE X a ta/\PE X b tb/\∀σ H R,T2 K m σ H R->ta σ H λx H1=>tb σ H1 λy H2=>R x y H2:=⟨E2.go⟩
def ie(m1 m2:M D):M (D×D):=m1.bind λx=>m2.bind λy=>ret (x,y)
def bz(i:Nat)(m2:M D):M (D×D):=(dw i).bind λ_=>m2.bind λy=>(dw i).bind λx=>ret (x,y)
def e2_v{m1 m2:M D}(ha:EV K X a m1)(hb:EB K X b m2):E2 K X a b (ie m1 m2):=E2.mk λhk=>⟨_,_,ha hk,hb hk,λσ H R z9=>by
 obtain⟨tg,F,ρ,p,ρ',G,em,q⟩:=z9;obtain⟨d1,ρ1,e1,em⟩:=bj em;obtain⟨d2,ρ2,e2,em⟩:=bj em;obtain⟨rfl,rfl⟩:=lr em;exact⟨tg,F,ρ,d1,ρ1,G,e1,λx H1 F1 G1 x1 r1=>⟨tg,F1,ρ1,d2,_,G1,e2,λy H2 F2 G2 x2 r2=>q x y H2 F2 G2 (x1.trans x2) (.inl (r1.mono x2.sub)) r2⟩⟩⟩
def e2_n{i:Nat}{m2:M D}(ha:PE X a (tVar i))(hb:EB K X b m2):E2 K X a b (bz i m2):=E2.mk λhk=>⟨_,_,ha,hb hk,λσ H R z9=>by
 obtain⟨tg,F,ρ,p,ρ',G,em,q⟩:=z9;obtain⟨d0,ρ0,e0,em⟩:=bj em;obtain⟨d2,ρ2,e2,em⟩:=bj em;obtain⟨d1,ρ1,e1,em⟩:=bj em;obtain⟨rfl,rfl⟩:=lr em;obtain⟨rfl,v,hv,_⟩:=uv G e0;exact⟨v,hv,tg,F,ρ0,d2,ρ2,G,e2,λy H2 F2 G2 x2 r2=>by
  obtain⟨rfl,v',hv',b'⟩:=uv G2 e1;rw[hv] at hv';cases hv';exact q v y H2 F2 G2 x2 b' r2⟩⟩
end
section
variable{K:Fg9}{X:Cx}{e a b c:fP}{es:List fP}{pos p:Pos}
section
variable{F H:Hp}{x:V}
def Bor.lst(g:Same F H)(h:Bor K F H (.lst l) x):∃a vs,x=.ref a/\H a=ZY (.lst vs)/\IsL K F l vs:=by
 rcases h with h |⟨a,vs,l',e1,e2,e3,h⟩
 ·cases h with
  |lst e h=>exact⟨_,_,rfl,g _ _ e,h⟩
 ·cases e1;exact⟨a,vs,e2,e3,h⟩
def Bor.tup(h:Bor K F H (.tup l) x):∃a vs,x=.ref a/\F a=ZY (.tup vs)/\IsL K F l vs:=by
 rcases h with h |⟨a,vs,l',e1,_⟩
 ·cases h with
  |tup e h=>exact⟨_,_,rfl,e,h⟩
 ·cases e1
def Bor.kst(h:Bor K F H (.kst l) x):∃a vs,x=.ref a/\SqL K F a vs/\IsL K F l vs:=by
 rcases h with h |⟨a,vs,l',e1,_⟩
 ·cases h with
  |kst e h=>exact⟨_,_,rfl,e,h⟩
 ·cases e1
def Bor.int(h:Bor K F H (.int i) x):x=.int i:=by
 rcases h with h |⟨a,vs,l',e1,_⟩
 ·cases h;rfl
 ·cases e1
def Bor.bl(h:Bor K F H (.bl i) x):x=.bl i:=by
 rcases h with h |⟨a,vs,l',e1,_⟩
 ·cases h;rfl
 ·cases e1
def Bor.str(h:Bor K F H (.str i) x):x=.str i:=by
 rcases h with h |⟨a,vs,l',e1,_⟩
 ·cases h;rfl
 ·cases e1
def Bor.non(h:Bor K F H .non x):x=.non:=by
 rcases h with h |⟨a,vs,l',e1,_⟩
 ·cases h;rfl
 ·cases e1
end
def Res(K:Fg9)(tg:Nat->bB)(F H:Hp)(ρ:Ro)(σ:L2.St)(r:Rv)(Q:VK):Prop :=
 ∀v H' F',Good K tg F' H' ρ σ->Ext (Own ρ σ) (Own ρ σ) F H F' H'->relR K r v H (Own ρ σ) F' H' (Own ρ σ)->Q v H'
section
variable{tg:Nat->bB}{F H:Hp}{ρ:Ro}{σ:L2.St}{Q:VK}
def Res.same(G:Good K tg F H ρ σ)(q:Res K tg F H ρ σ (.v d) Q)(h:Is K F d v):Q v H:=q v H F G (Ext.refl _ _ _) h
def Res.tup{l:List D}{vs:List V}(G:Good K tg F H ρ σ)(q:Res K tg F H ρ σ (.v (.tup l)) Q)(h:IsL K F l vs){p:bB}(hp:H p=ZX):Q (.ref p) (upd H p (.tup vs)) :=
 q _ _ _ (G.new hp _) (G.newX hp _) (.tup gw (h.mono (Same.new (G.freeF hp) _)))
def Res.lst{l:List D}{vs:List V}(G:Good K tg F H ρ σ)(q:Res K tg F H ρ σ (.fr l) Q)(h:IsL K F l vs){p:bB}(hp:H p=ZX):Q (.ref p) (upd H p (.lst vs)) :=
 q _ _ _ (G.fresh hp _) (G.freshX hp _) ⟨p,vs,rfl,.inl hp,G.freeF hp,gw,h,λz=>G.own_ne hp z rfl⟩
end
def rOf(K:Fg9)(g:D->D->Option Rv):R2:=λx y H Q=>∃tg F ρ σ d1 d2 r,Good K tg F H ρ σ/\Bor K F H d1 x/\Bor K F H d2 y/\g d1 d2=ZY r/\Res K tg F H ρ σ r Q
structure OpD (K:Fg9) (X:Cx) (f:aH->aH->Sem aH) (g:D->D->Option Rv):Prop where
 go:X.K=K->OpR X f (rOf K g)
instance {K:Fg9} {X:Cx} {f:aH->aH->Sem aH} {g:D->D->Option Rv}:CoeFun (OpD K X f g) λ_=>X.K=K->OpR X f (rOf K g):=⟨OpD.go⟩
def mOp(g:D->D->Option Rv)(m:M (D×D)):M Rv:=m.bind λp=>lift (g p.1 p.2)
theorem aon(h:∀σ H R,T2 K m σ H R->ta σ H λx H1=>tb σ H1 λy H2=>R x y H2)(σ:L2.St)(H:Hp)(Q:VK)(t:T K (relR K) (mOp g m) σ H Q):tOp (rOf K g) ta tb σ H Q:=by
 obtain⟨tg,F,ρ,r,ρ',G,em,q⟩:=t;obtain⟨p,ρ1,e1,em⟩:=bj em;obtain⟨e2,rfl⟩:=jb em;refine h σ H _ ⟨tg,F,ρ,p,_,G,e1,λx y H' F' G' x' bx by'=>⟨tg,F',_,σ,p.1,p.2,r,G',bx,by',e2,λv H2 F2 G2 x2 rr=>q v H2 F2 G2 (x'.trans x2) ?_⟩⟩
 cases r with
 |v d=>exact rr
 |fr l=>
  obtain⟨a,vs,ev,ha,w⟩:=rr;refine⟨a,vs,ev,?_,w⟩;rcases ha with ha |ha
  ·exact .inl (x'.there a ha)
  ·exact(x'.own a ha).symm
 |tf d l=>
  obtain⟨t,u,a,vs,ev,ht,hd,ha,w⟩:=rr;refine⟨t,u,a,vs,ev,ht,hd,?_,w⟩;rcases ha with ha |ha
  ·exact .inl (x'.there a ha)
  ·exact(x'.own a ha).symm
def di(ho:OpD K X (fB op) g)(h:E2 K X a b m):ER K X (.BinOp a op b pos) (mOp g m):=ER.mk λhk=>by
 obtain⟨ta,tb,ha,hb,h⟩:=h hk;exact PE.imp (a87 (ho hk) ha hb) (aon h)
def auo(ho:OpD K X (gD op) g)(h:E2 K X a b m)(hm:jJ op b=ZV):ER K X (.Compare a [op] [b] pos) (mOp g m):=ER.mk λhk=>by
 obtain⟨ta,tb,ha,hb,h⟩:=h hk;exact PE.imp (a0v (ho hk) ha hb hm) (aon h)
noncomputable def capS:Nat:=16777216
def ah0(h:n<=capS):n<=cU:=by rw[jR];exact h
def gAdd:D->D->Option Rv
 |.int i,.int j=>ZY (.v (.int (i+j)))
 |.tup l,.tup k=>if l.length+k.length<=capS then ZY (.v (.tup (l++k))) else ZX
 |.lst l,.lst k=>if l.length+k.length<=capS then ZY (.fr (l++k)) else ZX
 |.str i,.str j=>if i.length+j.length<=capS then ZY (.v (.str (i++j))) else ZX
 |_,_=>ZX
def jw:OpD K X (fB .Add) gAdd:=OpD.mk λhk=>by
 intro zv s σ0 H x y v u Q I rx ry z9;obtain⟨tg,F,ρ,σ,d1,d2,r,G,b1,b2,eg,q⟩:=z9;subst hk;unfold gAdd at eg;split at eg
 ·cases eg;obtain rfl:=b1.int;obtain rfl:=b2.int;exact a5m zv s σ0 H _ _ v u Q I rx ry ⟨_,_,rfl,rfl,Res.same G q (.int _)⟩
 ·split at eg
  ·rename_i hz;cases eg;obtain⟨a1,vs1,rfl,s1,i1⟩:=b1.tup;obtain⟨a2,vs2,rfl,s2,i2⟩:=b2.tup;have l1:=i1.length;have l2:=i2.length
   by_cases hx:vs1=[]
   ·subst hx;cases i1;cases rx;cases ry;obtain⟨its,r1,p1,_⟩:=I.tuple (SqT.of (G.sub _ _ s1));obtain⟨its2,r2,p2,_⟩:=I.tuple (SqT.of (G.sub _ _ s2));exact ax7 p1 p2 (r1.nil_iff.mpr rfl) ⟨.ref a2,H,I,rfl,Res.same G q (.tup s2 i2)⟩
   ·refine a04 zv s σ0 H _ _ v u Q I rx ry ⟨a1,a2,vs1,vs2,rfl,rfl,SqT.of (G.sub _ _ s1),SqT.of (G.sub _ _ s2),hx,by rw[<-l1,<-l2];exact ah0 hz,λe=>?_,λ_ p hp=>Res.tup G q (i1.append i2) hp⟩
    subst e;cases i2;exact Res.same G q (.tup s1 (by simpa using i1))
  ·cases eg
 ·split at eg
  ·rename_i hz;cases eg;obtain⟨a1,vs1,rfl,s1,i1⟩:=b1.lst G.sub;obtain⟨a2,vs2,rfl,s2,i2⟩:=b2.lst G.sub;have l1:=i1.length;have l2:=i2.length;exact a5l zv s σ0 H _ _ v u Q I rx ry ⟨a1,a2,vs1,vs2,rfl,rfl,s1,s2,by rw[<-l1,<-l2];exact ah0 hz,λp hp=>Res.lst G q (i1.append i2) hp⟩
  ·cases eg
 ·split at eg
  ·rename_i hz;cases eg;obtain rfl:=b1.str;obtain rfl:=b2.str;exact aqa zv s σ0 H _ _ v u Q I rx ry ⟨_,_,rfl,rfl,ah0 hz,Res.same G q (.str _)⟩
  ·cases eg
 ·cases eg
def gInt(f:Int->Int->Option Int):D->D->Option Rv
 |.int i,.int j=>(f i j).map λk=>.v (.int k)
 |_,_=>ZX
def ag6{op:Operator}{f:Int->Int->Option Int}{C:Int->Int->Prop}{g:Int->Int->Int}(h:OpR X (fB op) (rI C λi j=>.int (g i j)))(hf:∀i j k,f i j=ZY k->C i j/\k=g i j):OpD K X (fB op) (gInt f):=OpD.mk λhk=>by
 intro zv s σ0 H x y v u Q I rx ry z9;obtain⟨tg,F,ρ,σ,d1,d2,r,G,b1,b2,eg,q⟩:=z9;unfold gInt at eg;split at eg
 ·rename_i i j;obtain rfl:=b1.int;obtain rfl:=b2.int;cases z:f i j with
  |none=>rw[z] at eg;cases eg
  |some k=>
   rw[z] at eg;cases eg;obtain⟨h1,rfl⟩:=hf i j k z;exact h zv s σ0 H _ _ v u Q I rx ry ⟨_,_,rfl,rfl,h1,Res.same G q (.int _)⟩
 ·cases eg
noncomputable def fSub(i j:Int):Option Int:=ZY (i-j)
noncomputable def fMul(i j:Int):Option Int:=if (-18446744073709551616<i/\i<18446744073709551616)∨(-18446744073709551616<j/\j<18446744073709551616) then ZY (i*j) else ZX
def a5p(h0:0<j)(h:j<1000000000000000000000000000000000000000000000000000000000000):nQ i j=ZV:=by
 have e2:(2:Nat) ^ 200=1606938044258990275541962092341162602522202993782792835301376:=by decide +kernel
 have hl:j.natAbs.log2<200:=(rP (by omega)).2 (by rw[e2];omega)
 have hd:¬(j.natAbs.log2 / 30+1 > 300):=by omega
 have hj:(j==0)=ZV:=by
  rw[beq_eq_false_iff_ne];omega
 unfold nQ;simp only[hj,iR,if_false,hd,decide_false,rK]
def aw2:OpR X (fB .FloorDiv) (rI (λ_ j=>0<j/\j<1000000000000000000000000000000000000000000000000000000000000) λi j=>.int (i / j)):=opI λi j _ _ _ _ _ hc q=>by
 have h1:(0:Int)<j:=hc.1;exact floordiv_int (by omega) (by rw[lQ i (by omega)];exact q) (.inl (a5p hc.1 hc.2))
noncomputable def fDiv(i j:Int):Option Int:=if 0<j/\j<1000000000000000000000000000000000000000000000000000000000000 then ZY (i / j) else ZX
noncomputable def fMod(i j:Int):Option Int:=if 0<j then ZY (i % j) else ZX
noncomputable def fPow(i j:Int):Option Int:=if 0<=j/\j<=1000000/\i.natAbs<18446744073709551616 then ZY (i ^ j.toNat) else ZX
def zx:OpD K X (fB .Sub) (gInt fSub):=OpD.mk λhk=>by
 intro zv s σ0 H x y v u Q I rx ry z9;obtain⟨tg,F,ρ,σ,d1,d2,r,G,b1,b2,eg,q⟩:=z9;unfold gInt at eg;split at eg
 ·obtain rfl:=b1.int;obtain rfl:=b2.int;cases eg;exact a5g zv s σ0 H _ _ v u Q I rx ry ⟨_,_,rfl,rfl,Res.same G q (.int _)⟩
 ·cases eg
end
mutual
def toPy:D->PyData
 |.non=>.none
 |.bl b=>.bool b
 |.int i=>.int i
 |.str x=>.str x
 |.tup l=>.tuple (adc l)
 |.lst l=>.list (adc l)
 |.kst l=>.list (adc l)
 |.dct _=>.dict []
 |.exn _ _=>.dict []
 |.dtt _=>.dict []
def adc:List D->List PyData
 | []=>[]
 |d::r=>toPy d::adc r
end
def okD:Nat->D->Bool
 |_,.non=>ZW
 |_,.bl _=>ZW
 |_,.int _=>ZW
 |_,.str x=>PyData.strOk x
 |n+1,.tup l=>l.all (okD n)
 |n+1,.lst l=>l.all (okD n)
 |n+1,.kst l=>l.all (okD n)
 |_,_=>ZV
theorem ajt(ih:∀d,okD n d=ZW->(toPy d).canLay0=ZW/\(toPy d).depth<=n):∀l:List D,l.all (okD n)=ZW->yK (adc l)=ZW/\zV (adc l)<=n
 | [],_=>⟨rfl,iB _⟩
 |d::r,h=>by
  rw[kO,bC] at h;obtain⟨h1,h2⟩:=ih d h.1;obtain⟨h3,h4⟩:=ajt ih r h.2;refine⟨?_,?_⟩
  ·show(PyData.canLay0 (toPy d)&&yK (adc r))=ZW;rw[h1,h3];rfl
  ·show max (PyData.depth (toPy d)) (zV (adc r))<=n;omega
theorem acg:∀(n:Nat) (d:D),okD n d=ZW->(toPy d).canLay0=ZW/\(toPy d).depth<=n
 |n,.non,_=>⟨rfl,iB _⟩
 |n,.bl _,_=>⟨rfl,iB _⟩
 |n,.int _,_=>⟨rfl,iB _⟩
 |n,.str x,h=>by
  refine⟨?_,iB _⟩;cases n <;> exact h
 |n+1,.tup l,h=>by
  obtain⟨h1,h2⟩:=ajt (acg n) l h;exact⟨h1,tX h2⟩
 |n+1,.lst l,h=>by
  obtain⟨h1,h2⟩:=ajt (acg n) l h;exact⟨h1,tX h2⟩
 |n+1,.kst l,h=>by
  obtain⟨h1,h2⟩:=ajt (acg n) l h;exact⟨h1,tX h2⟩
 | 0,.tup l,h=>by cases h
 | 0,.lst l,h=>by cases h
 | 0,.kst l,h=>by cases h
 | 0,.dct l,h=>by cases h
 |n+1,.dct l,h=>by cases h
 | 0,.exn _ _,h=>by cases h
 |n+1,.exn _ _,h=>by cases h
 | 0,.dtt _,h=>by cases h
 |n+1,.dtt _,h=>by cases h
def eqD(a b:D):Bool:=sZ (toPy a) (toPy b)
def eqDs:List D->List D->Bool
 | [],[]=>ZW
 |a::r,b::t=>eqD a b&&eqDs r t
 |_,_=>ZV
theorem aj9:∀a b:List D,vP (adc a) (adc b)=eqDs a b
 | [],[]=>rfl
 |a::r,b::t=>by
  show(sZ (toPy a) (toPy b)&&vP (adc r) (adc t))=_;rw[aj9 r t];rfl
 | [],_::_=>rfl
 |_::_,[]=>rfl
section
variable{K:Fg9}{X:Cx}
section
variable{zv:List (bB×Obj)}{σ:L2.St}{F H:Hp}{s:aN}
mutual
theorem aao(I:Inv X zv σ H s)(g:Same F H):∀{n:Nat} {d:D} {v:V} {u:aH},Is X.K F d v->okD n d=ZW->RelV v u->∃as,Reads s.heap u (toPy d) as
 |_,_,_,_,.non,_,r=>by cases r;exact⟨_,.none⟩
 |_,_,_,_,.bl b,_,r=>by cases r;exact⟨_,.bool b⟩
 |_,_,_,_,.int i,_,r=>by obtain⟨t,rfl⟩:=r;exact⟨_,.int i t⟩
 |_,_,_,_,.str i,_,r=>by obtain⟨t,rfl⟩:=r;exact⟨_,.str i t⟩
 | 0,_,_,_,.tup e h,k,r=>by cases k
 |n+1,_,_,_,.tup e h,k,r=>by
  cases r;obtain⟨its,rv,p1,_⟩:=I.tuple (SqT.of (g _ _ e));obtain⟨o,ho,hc,m,hd⟩:=p1;obtain⟨as,ra⟩:=acd I g h k rv;exact⟨_,.tuple ho hc hd (by simpa using ra)⟩
 | 0,_,_,_,.lst e h,k,r=>by cases k
 |n+1,_,_,_,.lst e h,k,r=>by
  cases r;obtain⟨its,rv,p1,_⟩:=I.list (SqL.of (g _ _ e));obtain⟨o,ho,hc,m,hd⟩:=p1.isList;obtain⟨as,ra⟩:=acd I g h k rv;exact⟨_,.list ho hc hd (by simpa using ra)⟩
 | 0,_,_,_,.kst e h,k,r=>by cases k
 |n+1,_,_,_,.kst e h,k,r=>by
  cases r;obtain⟨its,rv,p1,_⟩:=I.list (L2.Same.seq g e);obtain⟨o,ho,hc,m,hd⟩:=p1.isList;obtain⟨as,ra⟩:=acd I g h k rv;exact⟨_,.list ho hc hd (by simpa using ra)⟩
 | 0,_,_,_,.dct e h,k,r=>by cases k
 |n+1,_,_,_,.dct e h,k,r=>by cases k
 | 0,_,_,_,.exn ..,k,r=>by cases k
 |n+1,_,_,_,.exn ..,k,r=>by cases k
 | 0,_,_,_,.dtt ..,k,r=>by cases k
 |n+1,_,_,_,.dtt ..,k,r=>by cases k
theorem acd(I:Inv X zv σ H s)(g:Same F H):∀{n:Nat} {ds:List D} {vs:List V} {us:List aH},IsL X.K F ds vs->ds.all (okD n)=ZW->Vals vs us->∃as,ReadsAll s.heap us (adc ds) as
 |_,_,_,_,.nil,_,r=>by cases r;exact⟨_,.nil⟩
 |n,_,_,_,.cons h t,k,r=>by
  rw[kO,bC] at k;cases r with
  |cons r1 r2=>
   obtain⟨as,ra⟩:=aao I g h k.1 r1;obtain⟨bs,rb⟩:=acd I g t k.2 r2;exact⟨_,.cons ra rb⟩
end
def aa2(I:Inv X zv σ H s)(g:Same F H)(h:Bor X.K F H d v)(k:okD n d=ZW)(r:RelV v u):∃as,Reads s.heap u (toPy d) as:=by
 rcases h with h |⟨a,vs,l,rfl,rfl,e,h⟩
 ·exact aao I g h k r
 ·cases r;cases n with
  |zero=>cases k
  |succ n=>
   obtain⟨its,rv,p1,_⟩:=I.list (SqL.of e);obtain⟨o,ho,hc,m,hd⟩:=p1.isList;obtain⟨as,ra⟩:=acd I g h k rv;exact⟨_,.list ho hc hd (by simpa using ra)⟩
end
def gEq(neg:Bool)(a b:D):Option Rv:=if okD 30 a&&okD 30 b then ZY (.v (.bl (if neg then !eqD a b else eqD a b))) else ZX
def xr(hu:X.A.units+64<cLine):OpD K X (gD .Eq) (gEq ZV):=OpD.mk λhk=>by
 intro zv s σ0 H x y v u Q I rx ry z9;obtain⟨tg,F,ρ,σ,d1,d2,r,G,b1,b2,eg,q⟩:=z9;subst hk;unfold gEq at eg;split at eg
 ·rename_i ho;rw[bC] at ho;cases eg;obtain⟨as,ra⟩:=aa2 I G.sub b1 ho.1 rx;obtain⟨bs,rb⟩:=aa2 I G.sub b2 ho.2 ry;obtain⟨c1,p1⟩:=acg _ _ ho.1;obtain⟨c2,p2⟩:=acg _ _ ho.2;exact PySem.SeqAt.compareEq_reads ra rb c1 c2 (by omega) ⟨.bl _,H,I,rfl,Res.same G q (.bl _)⟩
 ·cases eg
def zy(hu:X.A.units+64<cLine):OpD K X (gD .NotEq) (gEq ZW):=OpD.mk λhk=>by
 intro zv s σ0 H x y v u Q I rx ry z9;obtain⟨tg,F,ρ,σ,d1,d2,r,G,b1,b2,eg,q⟩:=z9;subst hk;unfold gEq at eg;split at eg
 ·rename_i ho;rw[bC] at ho;cases eg;obtain⟨as,ra⟩:=aa2 I G.sub b1 ho.1 rx;obtain⟨bs,rb⟩:=aa2 I G.sub b2 ho.2 ry;obtain⟨c1,p1⟩:=acg _ _ ho.1;obtain⟨c2,p2⟩:=acg _ _ ho.2;exact PySem.SeqAt.compareNe_reads ra rb c1 c2 (by omega) ⟨.bl _,H,I,rfl,Res.same G q (.bl _)⟩
 ·cases eg
def itemsD:D->Option (List D)
 |.tup l=>ZY l
 |.lst l=>ZY l
 |.kst l=>ZY l
 |_=>ZX
def gIn(neg:Bool)(a b:D):Option Rv:=match itemsD b with
 |some l=>if okD 30 a&&l.all (okD 30) then ZY (.v (.bl (if neg then !l.any (λy=>eqD y a) else l.any (λy=>eqD y a)))) else ZX
 |none=>ZX
open Classical in
noncomputable def aaw(h:iK)(dx:PyData)(u:aH):Bool:=decide (∃d as,Reads h u d as/\d.canLay0=ZW/\sZ d dx=ZW)
open Classical in
theorem agp(r:Reads h u d as)(c:d.canLay0=ZW):aaw h dx u=sZ d dx:=by
 unfold aaw;cases e:sZ d dx with
 |true=>exact decide_eq_true ⟨d,as,r,c,e⟩
 |false=>
  refine decide_eq_false ?_
  rintro⟨d',as',r',c',e'⟩
  rw[<-PySem.SeqAt.Reads.unique d d' u as as' c r r'] at e';rw[e] at e';cases e'
theorem ye(I:Inv X zv σ H s)(g:Same F H):∀{ds:List D} {vs:List V} {us:List aH},IsL X.K F ds vs->ds.all (okD n)=ZW->Vals vs us ->
  us.any (aaw s.heap (toPy a))=ds.any (λy=>eqD y a)/\∀u∈us,∃d as,Reads s.heap u d as/\d.canLay0=ZW/\d.depth<=n
 |_,_,_,.nil,_,r=>by cases r;exact⟨rfl,λu hu=>by cases hu⟩
 |_,_,_,.cons h t,k,r=>by
  rw[kO,bC] at k;cases r with
  |cons r1 r2=>
   obtain⟨as,ra⟩:=aao I g h k.1 r1;obtain⟨c,p⟩:=acg _ _ k.1;obtain⟨e,z⟩:=ye I g (a:=a) t k.2 r2;refine⟨?_,λu hu=>?_⟩
   ·rw[sE,sE,e,agp ra c];rfl
   ·rcases bA.mp hu with rfl |hu
    ·exact⟨_,as,ra,c,p⟩
    ·exact z u hu
def wy{s:aN}{A:dG}(hu:A.units+64<cLine){us:List aH}{a:D}{v:aH}{as:List bB}(ra:Reads s.heap v (toPy a) as)(ka:okD 30 a=ZW)(z:∀u∈us,∃d as,Reads s.heap u d as/\d.canLay0=ZW/\d.depth<=30) :
  ∀u∈us,SeqAt.EqAt A.in1 s u v (aaw s.heap (toPy a) u):=λu hm=>by
 obtain⟨d,bs,rb,c,p⟩:=z u hm;obtain⟨c2,p2⟩:=acg _ _ ka;rw[agp rb c];refine PySem.SeqAt.eqAt_reads d (toPy a) A.in1 s u v bs as rb ra c c2 ?_;show A.units+1+_<_;omega
def alp(h:gIn neg a b=ZY r):∃l,itemsD b=ZY l/\okD 30 a=ZW/\l.all (okD 30)=ZW/\r=.v (.bl (if neg then !l.any (λy=>eqD y a) else l.any (λy=>eqD y a))):=by
 unfold gIn at h;split at h
 ·rename_i l e;split at h
  ·rename_i ho;rw[bC] at ho;cases h;exact⟨l,e,ho.1,ho.2,rfl⟩
  ·cases h
 ·cases h
theorem agx(g:Same F H)(e:itemsD d=ZY l)(h:Bor K F H d x):∃a vs,x=.ref a/\IsL K F l vs/\(SqL K H a vs∨SqT K H a vs):=by
 cases d with
 |tup k=>
  cases e;obtain⟨a,vs,rfl,e,h⟩:=h.tup;exact⟨a,vs,rfl,h,.inr (SqT.of (g _ _ e))⟩
 |lst k=>
  cases e;obtain⟨a,vs,rfl,e,h⟩:=h.lst g;exact⟨a,vs,rfl,h,.inl (SqL.of e)⟩
 |kst k=>
  cases e;obtain⟨a,vs,rfl,e,h⟩:=h.kst;exact⟨a,vs,rfl,h,.inl (L2.Same.seq g e)⟩
 |_=>cases e
def ays(hu:X.A.units+64<cLine):OpD K X (gD .In) (gIn ZV):=OpD.mk λhk=>by
 intro zv s σ0 H x y v u Q I rx ry z9;obtain⟨tg,F,ρ,σ,d1,d2,r,G,b1,b2,eg,q⟩:=z9;subst hk;obtain⟨l,e,k1,k2,rfl⟩:=alp eg;obtain⟨as,ra⟩:=aa2 I G.sub b1 k1 rx;obtain⟨p,vs,rfl,hl,hs⟩:=agx G.sub e b2;cases ry;rcases hs with hs |hs
 ·obtain⟨its,rv,pl,_⟩:=I.list hs;obtain⟨ea,z⟩:=ye I G.sub (a:=d1) hl k2 rv;refine SeqAt.in_listAt (aaw s.heap (toPy d1)) pl.isList (λw hw=>wy hu ra k1 z w (by simpa using hw)) ⟨.bl _,H,I,rfl,?_⟩
  rw[show its.toArray.any (aaw s.heap (toPy d1))=its.any (aaw s.heap (toPy d1)) by simp,ea]
  exact Res.same G q (.bl _)
 ·obtain⟨its,rv,pl,_⟩:=I.tuple hs;obtain⟨ea,z⟩:=ye I G.sub (a:=d1) hl k2 rv;refine SeqAt.in_tupleAt (aaw s.heap (toPy d1)) pl (λw hw=>wy hu ra k1 z w (by simpa using hw)) ⟨.bl _,H,I,rfl,?_⟩
  rw[show its.toArray.any (aaw s.heap (toPy d1))=its.any (aaw s.heap (toPy d1)) by simp,ea]
  exact Res.same G q (.bl _)
def asu(hu:X.A.units+64<cLine):OpD K X (gD .NotIn) (gIn ZW):=OpD.mk λhk=>by
 intro zv s σ0 H x y v u Q I rx ry z9;obtain⟨tg,F,ρ,σ,d1,d2,r,G,b1,b2,eg,q⟩:=z9;subst hk;obtain⟨l,e,k1,k2,rfl⟩:=alp eg;obtain⟨as,ra⟩:=aa2 I G.sub b1 k1 rx;obtain⟨p,vs,rfl,hl,hs⟩:=agx G.sub e b2;cases ry;rcases hs with hs |hs
 ·obtain⟨its,rv,pl,_⟩:=I.list hs;obtain⟨ea,z⟩:=ye I G.sub (a:=d1) hl k2 rv;refine SeqAt.notIn_listAt (aaw s.heap (toPy d1)) pl.isList (λw hw=>wy hu ra k1 z w (by simpa using hw)) ⟨.bl _,H,I,rfl,?_⟩
  rw[show its.toArray.any (aaw s.heap (toPy d1))=its.any (aaw s.heap (toPy d1)) by simp,ea]
  exact Res.same G q (.bl _)
 ·obtain⟨its,rv,pl,_⟩:=I.tuple hs;obtain⟨ea,z⟩:=ye I G.sub (a:=d1) hl k2 rv;refine SeqAt.notIn_tupleAt (aaw s.heap (toPy d1)) pl (λw hw=>wy hu ra k1 z w (by simpa using hw)) ⟨.bl _,H,I,rfl,?_⟩
  rw[show its.toArray.any (aaw s.heap (toPy d1))=its.any (aaw s.heap (toPy d1)) by simp,ea]
  exact Res.same G q (.bl _)
end
end Dn
namespace Dn
open L2 Mn
section
variable{K:Fg9}{X:Cx}{e a b c:fP}{es:List fP}{pos p:Pos}
def ag7:OpD K X (fB .FloorDiv) (gInt fDiv):=ag6 aw2 λi j k h=>by
 unfold fDiv at h;split at h
 ·cases h;exact⟨by assumption,rfl⟩
 ·cases h
def afc:OpD K X (fB .Mod) (gInt fMod):=ag6 a5k λi j k h=>by
 unfold fMod at h;split at h
 ·cases h;exact⟨by assumption,rfl⟩
 ·cases h
def amz:OpD K X (fB .Pow) (gInt fPow):=ag6 a5i λi j k h=>by
 unfold fPow at h;split at h
 ·rename_i hc;cases h;exact⟨⟨hc.1,hc.2.1,hc.2.2⟩,rfl⟩
 ·cases h
def gMul:D->D->Option Rv
 |.int i,.int j=>(fMul i j).map λk=>.v (.int k)
 |.tup l,.int k=>if k=1 then ZY (.v (.tup l)) else if l≠[]/\2<=k/\k<9223372036854775808/\l.length*k.toNat<=capS then ZY (.v (.tup (aK k.toNat l).flatten)) else ZX
 |.lst l,.int k=>if k.natAbs<9223372036854775808/\l.length*k.toNat<=capS then ZY (.fr (aK k.toNat l).flatten) else ZX
 |_,_=>ZX
def vq:OpD K X (fB .Mult) gMul:=OpD.mk λhk=>by
 intro zv s σ0 H x y v u Q I rx ry z9;obtain⟨tg,F,ρ,σ,d1,d2,r,G,b1,b2,eg,q⟩:=z9;subst hk;unfold gMul at eg;split at eg
 ·rename_i i j;obtain rfl:=b1.int;obtain rfl:=b2.int;unfold fMul at eg;split at eg
  ·rename_i hc;cases eg;exact a5j zv s σ0 H _ _ v u Q I rx ry ⟨_,_,rfl,rfl,hc,Res.same G q (.int _)⟩
  ·cases eg
 ·rename_i l k;split at eg
  ·rename_i hk1;subst hk1;cases eg;obtain⟨a1,vs1,rfl,s1,i1⟩:=b1.tup;obtain rfl:=b2.int;exact a02 zv s σ0 H _ _ v u Q I rx ry ⟨a1,vs1,rfl,rfl,G.sub _ _ s1,Res.same G q (.tup s1 i1)⟩
  split at eg
  ·rename_i hc;obtain⟨h0,h2,h3,hz⟩:=hc;cases eg;obtain⟨a1,vs1,rfl,s1,i1⟩:=b1.tup;obtain rfl:=b2.int;have l1:=i1.length;refine awz zv s σ0 H _ _ v u Q I rx ry ⟨a1,vs1,k,rfl,rfl,G.sub _ _ s1,?_,h2,h3,by rw[<-l1];exact ah0 hz,λp hp=>Res.tup G q (i1.rep _) hp⟩
   intro z;subst z;cases i1;exact h0 rfl
  ·cases eg
 ·rename_i l k;split at eg
  ·rename_i hc;obtain⟨hab,hz⟩:=hc;have h0 : -9223372036854775808<=k:=by omega
   have h2:k<9223372036854775808:=by omega
   cases eg;obtain⟨a1,vs1,rfl,s1,i1⟩:=b1.lst G.sub;obtain rfl:=b2.int;have l1:=i1.length;exact a5h zv s σ0 H _ _ v u Q I rx ry ⟨a1,k,vs1,rfl,rfl,s1,h0,h2,by rw[<-l1];exact ah0 hz,λp hp=>Res.lst G q (i1.rep _) hp⟩
  ·cases eg
 ·cases eg
def gCmp(f:Int->Int->Bool):D->D->Option Rv
 |.int i,.int j=>ZY (.v (.bl (f i j)))
 |_,_=>ZX
def am0(h:OpR X (gD op) (rI0 λi j=>.bl (f i j))):OpD K X (gD op) (gCmp f):=OpD.mk λhk=>by
 intro zv s σ0 H x y v u Q I rx ry z9;obtain⟨tg,F,ρ,σ,d1,d2,r,G,b1,b2,eg,q⟩:=z9;unfold gCmp at eg;split at eg
 ·cases eg;obtain rfl:=b1.int;obtain rfl:=b2.int;exact h zv s σ0 H _ _ v u Q I rx ry ⟨_,_,rfl,rfl,Res.same G q (.bl _)⟩
 ·cases eg
def ak1:OpD K X (gD .Lt) (gCmp λi j=>decide (i<j)):=am0 a9b
def asv:OpD K X (gD .Gt) (gCmp λi j=>decide (j<i)):=am0 a9c
def aol:OpD K X (gD .GtE) (gCmp λi j=>decide (j<=i)):=am0 a9d
def gNeg:D->Option D
 |.int i=>ZY (.int (-i))
 |_=>ZX
def mUn(g:D->Option D)(m:M D):M D:=m.bind λd=>lift (g d)
theorem aex(h:EV K X a m):EV K X (.UnaryOp .USub a pos) (mUn gNeg m):=EV.mk λhk=>PE.imp (a86 a3i (h hk)) λσ H Q z9=>by
 obtain⟨tg,F,ρ,d,ρ',G,em,q⟩:=z9;obtain⟨d1,ρ1,e1,em⟩:=bj em;obtain⟨e2,rfl⟩:=jb em;refine⟨tg,F,ρ,d1,_,G,e1,λv H' F' G' x r=>?_⟩
 cases d1 with
 |int i=>
  cases e2;cases r;exact⟨i,rfl,q _ H' F' G' x (.int _)⟩
 |_=>cases e2
def asB:D->Option Bool
 |.bl b=>ZY b
 |_=>ZX
def gNot(d:D):Option D:=(asB d).map λk=>.bl (!k)
theorem apo(h:asB d=ZY k):d=.bl k:=by
 cases d with
 |bl b=>cases h;rfl
 |_=>cases h
theorem ay5(h:EV K X a m):EV K X (.UnaryOp .Not a pos) (mUn gNot m):=EV.mk λhk=>PE.imp (a4x (h hk)) λσ H Q z9=>by
 obtain⟨tg,F,ρ,d,ρ',G,em,q⟩:=z9;obtain⟨d1,ρ1,e1,em⟩:=bj em;obtain⟨e2,rfl⟩:=jb em;refine⟨tg,F,ρ,d1,_,G,e1,λv H' F' G' x r=>?_⟩
 cases d1 with
 |bl i=>
  cases e2;cases r;exact⟨i,rfl,q _ H' F' G' x (.bl _)⟩
 |_=>cases e2
def mAnd(m1 m2:M D):M D:=m1.bind λd=>(lift (asB d)).bind λk=>if k=ZW then m2 else ret (.bl ZV)
def apb{op}(h:EV K X a m):EV K X (.BoolOp op [a] pos) m:=EV.mk λhk=>a4w (h hk)
theorem apd{m1 m2:M D}{rest:List fP}(h1:EV K X a m1)(h2:EV K X (.BoolOp .And (b::rest) pos) m2):EV K X (.BoolOp .And (a::b::rest) pos) (mAnd m1 m2):=EV.mk λhk=>PE.imp (a5e (h1 hk) (h2 hk)) λσ H Q z9=>by
 obtain⟨tg,F,ρ,d,ρ',G,em,q⟩:=z9;obtain⟨d1,ρ1,e1,em⟩:=bj em;obtain⟨k,ρ2,e2,em⟩:=bj em;obtain⟨e3,rfl⟩:=jb e2;obtain rfl:=apo e3;refine⟨tg,F,ρ,_,_,G,e1,λv H' F' G' x r=>?_⟩
 cases r;refine⟨k,rfl,?_⟩;cases k with
 |true=>exact iteT ⟨tg,F',_,d,ρ',G',em,λv2 H2 F2 G2 x2 r2=>q v2 H2 F2 G2 (x.trans x2) r2⟩
 |false=>
  obtain⟨rfl,rfl⟩:=lr (show ret (D.bl ZV) _=_ from em)
  exact iteF (q _ H' F' G' x (.bl _))
def TB(K:Fg9)(m:M Bool):TT:=λσ H Q=>∃tg F ρ k ρ',Good K tg F H ρ σ/\m ρ=ZY (.ok k,ρ')/\∀H' F',Good K tg F' H' ρ' σ->Ext (Own ρ σ) (Own ρ' σ) F H F' H'->Q k H'
structure ET (K:Fg9) (X:Cx) (e:fP) (m:M Bool):Prop where
 go:X.K=K->PT X e (TB K m)
instance {K:Fg9} {X:Cx} {e:fP} {m:M Bool}:CoeFun (ET K X e m) λ_=>X.K=K->PT X e (TB K m):=⟨ET.go⟩
structure EW (K:Fg9) (X:Cx) (e:fP) (m:M Bool):Prop where
 go:X.K=K->PW X e (TB K m)
instance {K:Fg9} {X:Cx} {e:fP} {m:M Bool}:CoeFun (EW K X e m) λ_=>X.K=K->PW X e (TB K m):=⟨EW.go⟩
def PT.imp(h:PT X e t)(w:∀σ H Q,t' σ H Q->t σ H Q):PT X e t':=λzv s σ H Q I q=>h zv s σ H Q I (w σ H Q q)
def PW.imp(h:PW X e t)(w:∀σ H Q,t' σ H Q->t σ H Q):PW X e t':=λwh zv s σ H Q I q=>h wh zv s σ H Q I (w σ H Q q)
def EW.pt(h:EW K X e m):ET K X e m:=ET.mk λhk=>(h hk).pt
def ab1(m:M D):M Bool:=m.bind λd=>lift (asB d)
def awc(σ:L2.St)(H:Hp)(Q:Bool->Hp->Prop)(t:TB K (ab1 m) σ H Q):tB (T K (relD K) m) σ H Q:=by
 obtain⟨tg,F,ρ,k,ρ',G,em,q⟩:=t;obtain⟨d1,ρ1,e1,em⟩:=bj em;obtain⟨e3,rfl⟩:=jb em;obtain rfl:=apo e3;refine⟨tg,F,ρ,_,_,G,e1,λv H' F' G' x r=>?_⟩
 cases r;exact⟨k,rfl,q H' F' G' x⟩
def ab0(h:EV K X e m)(he:∀whole,isTrue e X.env whole=(do let v <-whole;standAt e.pos;mU [v] (truthy v)):=by intro _;rfl):ET K X e (ab1 m):=ET.mk λhk=>PT.imp (a4l (h hk) he) awc
def jd(g:D->D->Option Rv)(m:M (D×D)):M Bool:=ab1 (mOp g m).d
theorem jf(ho:OpD K X (gD op) g)(h:E2 K X a b m)(hm:jJ op b=ZV):ET K X (.Compare a [op] [b] pos) (jd g m):=ET.mk λhk=>by
 obtain⟨ta,tb,ha,hb,h⟩:=h hk;refine PT.imp (a0e (ho hk) ha hb hm) λσ H Q t=>?_
 obtain⟨tg,F,ρ,k,ρ',G,em,q⟩:=t;obtain⟨d1,ρ1,e1,em⟩:=bj em;obtain⟨e3,rfl⟩:=jb em;obtain rfl:=apo e3;obtain⟨r,ρ2,e1,em⟩:=bj e1;obtain⟨er,rfl⟩:=lr em;refine aon h σ H _ ⟨tg,F,ρ,r,_,G,e1,λv H' F' G' x w=>?_⟩
 cases r with
 |v d=>
  have er:d=.bl k:=er;subst er;have w:Is K F' (.bl k) v:=w;cases w;exact⟨k,rfl,q H' F' G' x⟩
 |fr l=>cases er
 |tf d l=>cases er
def ate(m:M Bool):M Bool:=m.bind λk=>ret (!k)
def ai0(h:ET K X a m):ET K X (.UnaryOp .Not a pos) (ate m):=ET.mk λhk=>PT.imp (a4m (h hk)) λσ H Q z9=>by
 obtain⟨tg,F,ρ,k,ρ',G,em,q⟩:=z9;obtain⟨d1,ρ1,e1,em⟩:=bj em;obtain⟨rfl,rfl⟩:=lr em;exact⟨tg,F,ρ,d1,_,G,e1,λH' F' G' x=>q H' F' G' x⟩
def axd(m1 m2:M Bool):M Bool:=m1.bind λk=>if k=ZW then m2 else ret ZV
def mOrB(m1 m2:M Bool):M Bool:=m1.bind λk=>if k=ZW then ret ZW else m2
def aum(h:ET K X a m):EW K X (.BoolOp .And [a] pos) m:=EW.mk λhk=>a0c (h hk)
def aul(h:ET K X a m):EW K X (.BoolOp .Or [a] pos) m:=EW.mk λhk=>a4e (h hk)
theorem ay4{m1 m2:M Bool}{rest:List fP}(h1:ET K X a m1)(h2:EW K X (.BoolOp .And (b::rest) pos) m2):EW K X (.BoolOp .And (a::b::rest) pos) (axd m1 m2):=EW.mk λhk=>PW.imp (a4g (h1 hk) (h2 hk)) λσ H Q z9=>by
 obtain⟨tg,F,ρ,d,ρ',G,em,q⟩:=z9;obtain⟨k,ρ1,e1,em⟩:=bj em;refine⟨tg,F,ρ,k,_,G,e1,λH' F' G' x=>?_⟩
 cases k with
 |true=>exact iteT ⟨tg,F',_,d,ρ',G',em,λH2 F2 G2 x2=>q H2 F2 G2 (x.trans x2)⟩
 |false=>
  obtain⟨rfl,rfl⟩:=lr (show ret ZV _=_ from em)
  exact iteF (q H' F' G' x)
theorem a2c{m1 m2:M Bool}{rest:List fP}(h1:ET K X a m1)(h2:EW K X (.BoolOp .Or (b::rest) pos) m2):EW K X (.BoolOp .Or (a::b::rest) pos) (mOrB m1 m2):=EW.mk λhk=>PW.imp (a83 (h1 hk) (h2 hk)) λσ H Q z9=>by
 obtain⟨tg,F,ρ,d,ρ',G,em,q⟩:=z9;obtain⟨k,ρ1,e1,em⟩:=bj em;refine⟨tg,F,ρ,k,_,G,e1,λH' F' G' x=>?_⟩
 cases k with
 |false=>exact iteF ⟨tg,F',_,d,ρ',G',em,λH2 F2 G2 x2=>q H2 F2 G2 (x.trans x2)⟩
 |true=>
  obtain⟨rfl,rfl⟩:=lr (show ret ZW _=_ from em)
  exact iteT (q H' F' G' x)
def ale(f g:Int->Int->Bool)(m1 m2 m3:M D):M D:=m1.bind λx=>m2.bind λy=>match x,y with
 |.int i,.int j=>if f i j=ZW then m3.bind λz=>match z with
  |.int k=>ret (.bl (g j k))
  |_=>lift ZX
  else ret (.bl ZV)
 |_,_=>lift ZX
theorem au6(σ:L2.St)(H:Hp)(Q:VK)(t:T K (relD K) (ale f g m1 m2 m3) σ H Q) :
  ayk (rI0 λi j=>.bl (f i j)) (rI0 λi j=>.bl (g i j)) (T K (relD K) m1) (T K (relD K) m2) (T K (relD K) m3) σ H Q:=by
 obtain⟨tg,F,ρ,d,ρ',G,em,q⟩:=t;obtain⟨d1,ρ1,e1,em⟩:=bj em;obtain⟨d2,ρ2,e2,em⟩:=bj em;have bad:∀{ρ:Ro},(lift (ZX:Option D)) ρ=ZY (.ok d,ρ')->False:=λz=>by
  obtain⟨z,_⟩:=jb z;cases z
 cases d1 with
 |int i=>
  cases d2 with
  |int j=>
   refine⟨tg,F,ρ,_,ρ1,G,e1,λv H1 F1 G1 x1 r1=>⟨tg,F1,ρ1,_,ρ2,G1,e2,λv2 H2 F2 G2 x2 r2=>?_⟩⟩
   cases r1;cases r2;refine⟨i,j,rfl,rfl,f i j,rfl,?_⟩;have em:(if f i j=ZW then m3.bind λz=>match z with
    |.int k=>ret (.bl (g j k))
    |_=>lift ZX
    else ret (.bl ZV)) ρ2=ZY (.ok d,ρ'):=em
   by_cases hf:f i j=ZW
   ·rw[if_pos hf] at em ⊢
    obtain⟨d3,ρ3,e3,em⟩:=bj em;refine⟨tg,F2,ρ2,d3,ρ3,G2,e3,λv3 H3 F3 G3 x3 r3=>?_⟩
    cases d3 with
    |int k=>
     obtain⟨rfl,rfl⟩:=lr (show ret (D.bl (g j k)) _=_ from em)
     cases r3;exact⟨j,k,rfl,rfl,q _ H3 F3 G3 ((x1.trans x2).trans x3) (.bl _)⟩
    |_=>exact(bad em).elim
   ·rw[if_neg hf] at em ⊢
    obtain⟨rfl,rfl⟩:=lr em;exact q _ H2 F2 G2 (x1.trans x2) (.bl _)
  |_=>exact(bad em).elim
 |_=>cases d2 <;> exact(bad em).elim
def apc(ho:OpR X (gD op) (rI0 λi j=>.bl (f i j)))(ho':OpR X (gD op') (rI0 λi j=>.bl (g i j)))(h1:EV K X a m1)(h2:EV K X b m2)(h3:EV K X c m3)
  (hm:lastMarks [op,op'] [b,c]=ZV:=by with_unfolding_all rfl):EV K X (.Compare a [op,op'] [b,c] pos) (ale f g m1 m2 m3):=EV.mk λhk=>PE.imp (awu ho ho' (h1 hk) (h2 hk) (h3 hk) hm) au6
def mIf{α:Type}(m:M Bool)(m1 m2:M α):M α:=m.bind λk=>if k=ZW then m1 else m2
theorem ax0(h:ET K X c m)(h1:ER K X a m1)(h2:ER K X b m2):ER K X (.IfExp c a b pos) (mIf m m1 m2):=ER.mk λhk=>PE.imp (awq (h hk) (h1 hk) (h2 hk)) λσ H Q z9=>by
 obtain⟨tg,F,ρ,d,ρ',G,em,q⟩:=z9;obtain⟨k,ρ1,e1,em⟩:=bj em;refine⟨tg,F,ρ,k,_,G,e1,λH' F' G' x=>?_⟩
 have fin:∀{m':M Rv},m' ρ1=ZY (.ok d,ρ')->T K (relR K) m' σ H' Q:=λ{m'} e'=>⟨tg,F',ρ1,d,ρ',G',e',λv H2 F2 G2 x2 r2=>q v H2 F2 G2 (x.trans x2) (by
  cases d with
  |v d=>exact r2
  |fr l=>
   obtain⟨a,vs,ev,ha,w⟩:=r2;refine⟨a,vs,ev,?_,w⟩;rcases ha with ha |ha
   ·exact .inl (x.there a ha)
   ·exact(x.own a ha).symm
  |tf d l=>
   obtain⟨t,u,a,vs,ev,ht,hd,ha,w⟩:=r2;refine⟨t,u,a,vs,ev,ht,hd,?_,w⟩;rcases ha with ha |ha
   ·exact .inl (x.there a ha)
   ·exact(x.own a ha).symm)⟩
 cases k with
 |true=>exact iteT (fin em)
 |false=>exact iteF (fin em)
end
section
variable{K:Fg9}{X:Cx}{e a b c:fP}{es:List fP}{pos p p2:Pos}
def TL(K:Fg9)(m:M (List D)):TA:=λσ H Q=>∃tg F ρ ds ρ',Good K tg F H ρ σ/\m ρ=ZY (.ok ds,ρ')/\∀vs H' F',Good K tg F' H' ρ' σ->Ext (Own ρ σ) (Own ρ' σ) F H F' H'->IsL K F' ds vs->Q vs H'
structure ED (K:Fg9) (X:Cx) (es:List fP) (m:M (List D)):Prop where
 go:X.K=K->PA X es (TL K m)
instance {K:Fg9} {X:Cx} {es:List fP} {m:M (List D)}:CoeFun (ED K X es m) λ_=>X.K=K->PA X es (TL K m):=⟨ED.go⟩
def PA.imp(h:PA X es t)(w:∀σ H Q,t' σ H Q->t σ H Q):PA X es t':=λps zv s σ H Q I q=>h ps zv s σ H Q I (w σ H Q q)
def mNil:M (List D):=ret []
def bf(m:M D)(ms:M (List D)):M (List D):=m.bind λd=>ms.bind λds=>ret (d::ds)
def bu:ED K X [] mNil:=ED.mk λ_=>PA.imp acf λσ H Q z9=>by
 obtain⟨tg,F,ρ,ds,ρ',G,em,q⟩:=z9;obtain⟨rfl,rfl⟩:=lr em;exact q [] H F G (Ext.refl _ _ _) .nil
def aj(h:EV K X e m)(t:ED K X es ms)(hs:Zc X e es:=by rfl):ED K X (e::es) (bf m ms):=ED.mk λhk=>PA.imp (uc (h hk) (t hk) hs) λσ H Q z9=>by
 obtain⟨tg,F,ρ,ds,ρ',G,em,q⟩:=z9;obtain⟨d,ρ1,e1,em⟩:=bj em;obtain⟨r,ρ2,e2,em⟩:=bj em;obtain⟨rfl,rfl⟩:=lr em;exact⟨tg,F,ρ,d,ρ1,G,e1,λv H1 F1 G1 x1 r1=>⟨tg,F1,ρ1,r,_,G1,e2,λvs H2 F2 G2 x2 r2=>q _ H2 F2 G2 (x1.trans x2) (.cons (r1.mono x2.sub) r2)⟩⟩
def gTup(ds:List D):Option D:=if ds.length<=capS then ZY (.tup ds) else ZX
def gLst(ds:List D):Option Rv:=if ds.length<=capS then ZY (.fr ds) else ZX
def mTup(m:M (List D)):M D:=m.bind λds=>lift (gTup ds)
def mLst(m:M (List D)):M Rv:=m.bind λds=>lift (gLst ds)
def jz{k}(h:ED K X es m):EV K X (.Tuple es k pos) (mTup m):=EV.mk λhk=>PE.imp (a4u (h hk)) λσ H Q z9=>by
 obtain⟨tg,F,ρ,d,ρ',G,em,q⟩:=z9;obtain⟨ds,ρ1,e1,em⟩:=bj em;obtain⟨e2,rfl⟩:=jb em;unfold gTup at e2;split at e2
 ·rename_i hz;cases e2;refine⟨tg,F,ρ,ds,_,G,e1,λvs H1 F1 G1 x1 r1=>⟨by rw[<-r1.length];exact ah0 hz,λp hp=>q _ _ _ (G1.new hp _) (x1.trans (G1.newX hp _)) (.tup gw (r1.mono (Same.new (G1.freeF hp) _)))⟩⟩
 ·cases e2
def ju(h:ED K X es m):ER K X (.List es pos) (mLst m):=ER.mk λhk=>PE.imp (a4z (h hk)) λσ H Q z9=>by
 obtain⟨tg,F,ρ,d,ρ',G,em,q⟩:=z9;obtain⟨ds,ρ1,e1,em⟩:=bj em;obtain⟨e2,rfl⟩:=jb em;unfold gLst at e2;split at e2
 ·rename_i hz;cases e2;refine⟨tg,F,ρ,ds,_,G,e1,λvs H1 F1 G1 x1 r1=>⟨by rw[<-r1.length];exact ah0 hz,λp hp=>q _ _ _ (G1.fresh hp _) (x1.trans (G1.freshX hp _)) ⟨p,vs,rfl,.inl (x1.there p hp),G1.freeF hp,gw,r1,λz=>G1.own_ne hp z rfl⟩⟩⟩
 ·cases e2
inductive BorL (K:Fg9) (F H:Hp):List D->List V->Prop
 |nil:BorL K F H [] []
 |cons {d:D} {v:V} {ds:List D} {vs:List V} (h:Bor K F H d v) (t:BorL K F H ds vs):BorL K F H (d::ds) (v::vs)
def TA'(K:Fg9)(m:M (List D)):TA:=λσ H Q=>∃tg F ρ ds ρ',Good K tg F H ρ σ/\m ρ=ZY (.ok ds,ρ')/\∀vs H' F',Good K tg F' H' ρ' σ->Ext (Own ρ σ) (Own ρ' σ) F H F' H'->BorL K F' H' ds vs->Q vs H'
structure EA (K:Fg9) (X:Cx) (es:List fP) (m:M (List D)):Prop where
 go:X.K=K->PA X es (TA' K m)
instance {K:Fg9} {X:Cx} {es:List fP} {m:M (List D)}:CoeFun (EA K X es m) λ_=>X.K=K->PA X es (TA' K m):=⟨EA.go⟩
def ji(i:Nat)(ms:M (List D)):M (List D):=(dw i).bind λ_=>ms.bind λds=>(dw i).bind λd=>ret (d::ds)
def gm:EA K X [] mNil:=EA.mk λ_=>PA.imp acf λσ H Q z9=>by
 obtain⟨tg,F,ρ,ds,ρ',G,em,q⟩:=z9;obtain⟨rfl,rfl⟩:=lr em;exact q [] H F G (Ext.refl _ _ _) .nil
def ea_v(h:EV K X e m)(t:EA K X es ms)(hs:Zc X e es:=by rfl):EA K X (e::es) (bf m ms):=EA.mk λhk=>PA.imp (uc (h hk) (t hk) hs) λσ H Q z9=>by
 obtain⟨tg,F,ρ,ds,ρ',G,em,q⟩:=z9;obtain⟨d,ρ1,e1,em⟩:=bj em;obtain⟨r,ρ2,e2,em⟩:=bj em;obtain⟨rfl,rfl⟩:=lr em;exact⟨tg,F,ρ,d,ρ1,G,e1,λv H1 F1 G1 x1 r1=>⟨tg,F1,ρ1,r,_,G1,e2,λvs H2 F2 G2 x2 r2=>q _ H2 F2 G2 (x1.trans x2) (.cons (.inl (r1.mono x2.sub)) r2)⟩⟩
def ea_n(h:PE X e (tVar i))(t:EA K X es ms)(hs:Zc X e es:=by rfl):EA K X (e::es) (ji i ms):=EA.mk λhk=>PA.imp (uc h (t hk) hs) λσ H Q z9=>by
 obtain⟨tg,F,ρ,ds,ρ',G,em,q⟩:=z9;obtain⟨d0,ρ0,e0,em⟩:=bj em;obtain⟨r,ρ2,e2,em⟩:=bj em;obtain⟨d,ρ1,e1,em⟩:=bj em;obtain⟨rfl,rfl⟩:=lr em;obtain⟨rfl,v,hv,_⟩:=uv G e0;exact⟨v,hv,tg,F,ρ0,r,_,G,e2,λvs H2 F2 G2 x2 r2=>by
  obtain⟨rfl,v',hv',b'⟩:=uv G2 e1;rw[hv] at hv';cases hv';exact q _ H2 F2 G2 x2 (.cons b' r2)⟩
def rcOf(K:Fg9)(g:List D->Option Rv):List V->Hp->VK->Prop:=λvs H Q=>∃tg F ρ σ ds r,Good K tg F H ρ σ/\BorL K F H ds vs/\g ds=ZY r/\Res K tg F H ρ σ r Q
structure CallD (K:Fg9) (X:Cx) (f:aH) (g:List D->Option Rv):Prop where
 go:X.K=K->abx X f (rcOf K g)
instance {K:Fg9} {X:Cx} {f:aH} {g:List D->Option Rv}:CoeFun (CallD K X f g) λ_=>X.K=K->abx X f (rcOf K g):=⟨CallD.go⟩
def jo(g:List D->Option Rv)(m:M (List D)):M Rv:=m.bind λds=>lift (g ds)
theorem qt(x:Ext O O1 F H F1 H1)(h:relR K r v H1 O1 F2 H2 O2):relR K r v H O F2 H2 O2:=by
 cases r with
 |v d=>exact h
 |fr l=>
  obtain⟨a,vs,ev,ha,w⟩:=h;refine⟨a,vs,ev,?_,w⟩;rcases ha with ha |ha
  ·exact .inl (x.there a ha)
  ·exact(x.own a ha).symm
 |tf d l=>
  obtain⟨t,u,a,vs,ev,ht,hd,ha,w⟩:=h;refine⟨t,u,a,vs,ev,ht,hd,?_,w⟩;rcases ha with ha |ha
  ·exact .inl (x.there a ha)
  ·exact(x.own a ha).symm
def apj(σ:L2.St)(H:Hp)(Q:VK)(t:T K (relR K) (jo g m) σ H Q):tCB (rcOf K g) (TA' K m) σ H Q:=by
 obtain⟨tg,F,ρ,r,ρ',G,em,q⟩:=t;obtain⟨ds,ρ1,e1,em⟩:=bj em;obtain⟨e2,rfl⟩:=jb em;exact⟨tg,F,ρ,ds,_,G,e1,λvs H' F' G' x' bl=>⟨tg,F',_,σ,ds,r,G',bl,e2,λv H2 F2 G2 x2 rr=>q v H2 F2 G2 (x'.trans x2) (qt x' rr)⟩⟩
section
variable{x:Str}{id Ty:String}{g:List D->Option Rv}{m:M (List D)}
def dz(hc:CallD K X (.builtin id) g)(hg:Gl X x)(hm:X.mg x=ZX)(hv:bY x=ZY (.builtin id))(ha:EA K X (e::es) m)(hn:x ≠ "__name__" := by decide)(hdb:Zb x:=by decide)
  (he:Zc X e es:=by rfl) (hpl:(kI pos (aQ es X.env)).any (·.1)=ZV:=by rfl):ER K X (.Call (.Name x p) (e::es) [] pos) (jo g m):=ER.mk λhk=>PE.imp (acu (hc hk) hg hm hv (ha hk) hn hdb he hpl) apj
def jq(hc:CallD K X (.type Ty) g)(hg:Gl X x)(hm:X.mg x=ZX)(hv:bY x=ZY (.type Ty))(ha:EA K X (e::es) m)(hn:x ≠ "__name__" := by decide)(hdb:Zb x:=by decide)
  (he:Zc X e es:=by rfl) (hpl:(kI pos (aQ es X.env)).any (·.1)=ZV:=by rfl):ER K X (.Call (.Name x p) (e::es) [] pos) (jo g m):=ER.mk λhk=>PE.imp (aei (hc hk) hg hm hv (ha hk) hn hdb he hpl) apj
end
theorem BorL.one(h:BorL K F H [d] vs):∃v,vs=[v]/\Bor K F H d v:=by
 cases h with
 |cons h t=>cases t;exact⟨_,rfl,h⟩
theorem BorL.two(h:BorL K F H [d,d'] vs):∃v v',vs=[v,v']/\Bor K F H d v/\Bor K F H d' v':=by
 cases h with
 |cons h t=>
  obtain⟨v',rfl,h'⟩:=t.one;exact⟨_,_,rfl,h,h'⟩
def g1(f:D->Option Rv):List D->Option Rv
 | [d]=>f d
 |_=>ZX
def g2(f:D->D->Option Rv):List D->Option Rv
 | [d,d']=>f d d'
 |_=>ZX
theorem ahz (h:X.K=K->∀(zv:List (bB×Obj)) (s:aN) (σ0:L2.St) (H:Hp) (x:V) (u:aH) (Q:VK) (tg:Nat->bB) (F:Hp) (ρ:Ro) (σ:L2.St) (d:D) (r:Rv),Inv X zv σ0 H s->RelV x u->Good K tg F H ρ σ->Bor K F H d x->f d=ZY r->Res K tg F H ρ σ r Q ->
  bD 'D' X.A (call w [u]) (EP X zv σ0 Q) X.xe s):CallD K X w (g1 f):=CallD.mk λhk=>by
 intro zv s σ0 H xs us Q I r z9;obtain⟨tg,F,ρ,σ,ds,rv,G,bl,eg,q⟩:=z9
 match ds,eg with
 | [d],eg=>
  obtain⟨v,rfl,bv⟩:=bl.one;obtain⟨u,rfl,ru⟩:=vals1 r;exact h hk zv s σ0 H v u Q tg F ρ σ d rv I ru G bv eg q
theorem mq:CallD K X (.builtin "len") (g1 λd=>(itemsD d).map λl=>.v (.int l.length)):=ahz λhk zv s σ0 H x u Q tg F ρ σ d r I ru G bd eg q=>by
 subst hk;cases e:itemsD d with
 |none=>rw[e] at eg;cases eg
 |some l=>
  rw[e] at eg;cases eg;obtain⟨a,vs,rfl,hl,hs⟩:=agx G.sub e bd;have q':=Res.same G q (.int _);rw[hl.length] at q';exact al6 zv s σ0 H [.ref a] [u] Q I (.cons ru .nil) ⟨a,vs,rfl,hs,q'⟩
def vg:List D->Option (List Bool)
 | []=>ZY []
 |.bl b::r=>(vg r).map (b :: ·)
 |_::_=>ZX
theorem ah2:∀{l:List D} {bs:List Bool},vg l=ZY bs->l=bs.map D.bl
 | [],_,h=>by cases h;rfl
 |.bl b::r,bs,h=>by
  have h':(vg r).map (b :: ·)=ZY bs:=h;cases e:vg r with
  |none=>rw[e] at h';cases h'
  |some t=>
   rw[e] at h';cases h';rw[ah2 e];rfl
 |.non::_,_,h=>by cases h
 |.int _::_,_,h=>by cases h
 |.str _::_,_,h=>by cases h
 |.tup _::_,_,h=>by cases h
 |.lst _::_,_,h=>by cases h
 |.kst _::_,_,h=>by cases h
 |.dct _::_,_,h=>by cases h
@[simp] theorem afs(bs:List Bool):vg (bs.map D.bl)=ZY bs:=by
 induction bs with
 |nil=>rfl
 |cons b r ih=>show(vg (r.map D.bl)).map (b :: ·)=_;rw[ih];rfl
def gAll:D->Option Rv
 |.lst l=>(vg l).map λbs=>.v (.bl (bs.all id))
 |_=>ZX
theorem azf(hc:X.calm=ZW):CallD K X (.builtin "all") (g1 gAll):=ahz λhk zv s σ0 H x u Q tg F ρ σ d r I ru G bd eg q=>by
 subst hk;cases d with
 |lst l=>
  have eg:(vg l).map (λbs=>Rv.v (.bl (bs.all id)))=ZY r:=eg
  cases e:vg l with
  |none=>rw[e] at eg;cases eg
  |some bs=>
   rw[e] at eg;cases eg;obtain⟨a,vs,rfl,ea,hl⟩:=bd.lst G.sub;rw[ah2 e] at hl;rw[hl.bl_inv] at ea;exact ax9 hc zv s σ0 H [.ref a] [u] Q I (.cons ru .nil) ⟨a,bs,rfl,SqL.of ea,Res.same G q (.bl _)⟩
 |_=>cases eg
def axv:D->Option Rv
 |.int i=>ZY (.v (.int i))
 |.bl k=>ZY (.v (.int (if k then 1 else 0)))
 |_=>ZX
theorem a7b:CallD K X (.type "int") (g1 axv):=ahz λhk zv s σ0 H x u Q tg F ρ σ d r I ru G bd eg q=>by
 cases d with
 |int i=>
  cases eg;obtain rfl:=bd.int;exact al8 zv s σ0 H [_] [u] Q I (.cons ru .nil) (.inl ⟨i,rfl,Res.same G q (.int _)⟩)
 |bl k=>
  cases eg;obtain rfl:=bd.bl;exact al8 zv s σ0 H [_] [u] Q I (.cons ru .nil) (.inr ⟨k,rfl,Res.same G q (.int _)⟩)
 |_=>cases eg
theorem xj:CallD K X (.type "tuple") (g1 λd=>(itemsD d).map λl=>.v (.tup l)):=ahz λhk zv s σ0 H x u Q tg F ρ σ d r I ru G bd eg q=>by
 subst hk;cases d with
 |tup l=>
  cases eg;obtain⟨a,vs,rfl,ea,hl⟩:=bd.tup;exact abv zv s σ0 H [_] [u] Q I (.cons ru .nil) ⟨a,vs,rfl,.inr ⟨SqT.of (G.sub _ _ ea),Res.same G q (.tup ea hl)⟩⟩
 |lst l=>
  cases eg;obtain⟨a,vs,rfl,ea,hl⟩:=bd.lst G.sub;exact abv zv s σ0 H [_] [u] Q I (.cons ru .nil) ⟨a,vs,rfl,.inl ⟨SqL.of ea,λp hp=>Res.tup G q hl hp⟩⟩
 |kst l=>
  cases eg;obtain⟨a,vs,rfl,ea,hl⟩:=bd.kst;exact abv zv s σ0 H [_] [u] Q I (.cons ru .nil) ⟨a,vs,rfl,.inl ⟨L2.Same.seq G.sub ea,λp hp=>Res.tup G q hl hp⟩⟩
 |_=>cases eg
theorem acq:CallD K X (.type "list") (g1 λd=>(itemsD d).map λl=>.fr l):=ahz λhk zv s σ0 H x u Q tg F ρ σ d r I ru G bd eg q=>by
 subst hk;cases e:itemsD d with
 |none=>rw[e] at eg;cases eg
 |some l=>
  rw[e] at eg;cases eg;obtain⟨a,vs,rfl,hl,hs⟩:=agx G.sub e bd;exact al5 zv s σ0 H [_] [u] Q I (.cons ru .nil) ⟨a,vs,rfl,hs,λp hp=>Res.lst G q hl hp⟩
theorem azd (h:X.K=K->∀(zv:List (bB×Obj)) (s:aN) (σ0:L2.St) (H:Hp) (x y:V) (u v:aH) (Q:VK) (tg:Nat->bB) (F:Hp) (ρ:Ro) (σ:L2.St) (d d':D) (r:Rv),Inv X zv σ0 H s->RelV x u->RelV y v->Good K tg F H ρ σ->Bor K F H d x->Bor K F H d' y->f d d'=ZY r->Res K tg F H ρ σ r Q ->
  bD 'D' X.A (call w [u,v]) (EP X zv σ0 Q) X.xe s):CallD K X w (g2 f):=CallD.mk λhk=>by
 intro zv s σ0 H xs us Q I r z9;obtain⟨tg,F,ρ,σ,ds,rv,G,bl,eg,q⟩:=z9
 match ds,eg with
 | [d,d'],eg=>
  obtain⟨v,v',rfl,bv,bv'⟩:=bl.two;obtain⟨u,w,rfl,ru,rw'⟩:=vals2 r;exact h hk zv s σ0 H v v' u w Q tg F ρ σ d d' rv I ru rw' G bv bv' eg q
def aze(hc:X.calm=ZW):CallD K X (.builtin "max") (g2 (gInt λi j=>ZY (if j > i then j else i))):=azd λhk zv s σ0 H x y u v Q tg F ρ σ d d' r I ru rv G bd bd' eg q=>by
 unfold gInt at eg;split at eg
 ·cases eg;obtain rfl:=bd.int;obtain rfl:=bd'.int;exact avc hc zv s σ0 H [_,_] [u,v] Q I (.cons ru (.cons rv .nil)) ⟨_,_,rfl,Res.same G q (.int _)⟩
 ·cases eg
def al9:abx X (.builtin "divmod") (λxs H Q=>∃i j,xs=[.int i,.int j]/\(0<j/\j<1000000000000000000000000000000000000000000000000000000000000)/\∀p,H p=ZX->Q (.ref p) (upd H p (.tup [.int (i / j),.int (i % j)]))):=by
 intro zv s σ H xs us Q I r h;obtain⟨i,j,rfl,hj,q⟩:=h;obtain⟨u,w',rfl,⟨t,rfl⟩,⟨t',rfl⟩⟩:=vals2 r;have h1:=hj.1;refine divmod_int (by omega) ?_ (.inl (a5p hj.1 hj.2))
 rw[lQ i (by omega),uR i (by omega)]
 refine⟨.ref s.heap.objs.size,_,?_,rfl,q _ (I.hok.fresh (aL _))⟩;exact I.laid (λb o e=>aB _ e) (aL _) ⟨by simp only[cW,qI];rw[jR];decide,[.int (i / j) s.toks,.int (i % j) (s.toks+1)],.cons ⟨_,rfl⟩ (.cons ⟨_,rfl⟩ .nil),⟨_,aM s.heap rfl,rfl,rfl,0,rfl⟩⟩
def aj5:D->D->Option Rv
 |.int i,.int j=>if 0<j/\j<1000000000000000000000000000000000000000000000000000000000000 then ZY (.v (.tup [.int (i / j),.int (i % j)])) else ZX
 |_,_=>ZX
def au9:CallD K X (.builtin "divmod") (g2 aj5):=azd λhk zv s σ0 H x y u v Q tg F ρ σ d d' r I ru rv G bd bd' eg q=>by
 unfold aj5 at eg;split at eg
 ·split at eg
  ·rename_i hc;cases eg;obtain rfl:=bd.int;obtain rfl:=bd'.int;exact al9 zv s σ0 H [_,_] [u,v] Q I (.cons ru (.cons rv .nil)) ⟨_,_,rfl,hc,λp hp=>Res.tup G q (.cons (.int _) (.cons (.int _) .nil)) hp⟩
  ·cases eg
 ·cases eg
inductive Ty where
 |int |bool |tuple |list |str |dict
def Ty.nm:Ty->String
 |.int => "int" |.bool => "bool" |.tuple => "tuple" |.list => "list" |.str => "str" |.dict => "dict"
def tyD:D->aH
 |.non=>.type "NoneType"
 |.bl _=>.type "bool"
 |.int _=>.type "int"
 |.str _=>.type "str"
 |.tup _=>.type "tuple"
 |.lst _=>.type "list"
 |.kst _=>.type "list"
 |.dct _=>.type "dict"
 |.exn _ _=>.type "NoneType"
 |.dtt _=>.type "dict"
def isTy:Ty->D->Bool
 |.int,.int _=>ZW
 |.int,.bl _=>ZW
 |.bool,.bl _=>ZW
 |.tuple,.tup _=>ZW
 |.list,.lst _=>ZW
 |.list,.kst _=>ZW
 |.str,.str _=>ZW
 |.dict,.dct _=>ZW
 |.dict,.dtt _=>ZW
 |_,_=>ZV
def ayy(t:Ty)(d:D):jA K (tyD d) (.type t.nm)=ZY (isTy t d):=by
 cases d <;> cases t <;> kernel_rfl
theorem avd:abx X (.builtin "isinstance") (λxs H Q=>∃F d x t,xs=[x,.ty (Ty.nm t)]/\Same F H/\Bor X.K F H d x/\Q (.bl (isTy t d)) H):=by
 intro zv s σ H xs us Q I r z9;obtain⟨F,d,x,t,e,g,h,q⟩:=z9;subst e;obtain⟨u,w',rfl,r1,r2⟩:=vals2 r;obtain rfl:w'=lB t.nm:=r2;have fin:∀tk,EP X zv σ Q (.bool (isTy t d)) { s with toks:=tk }:=λtk=>⟨.bl _,H,I.tok tk,rfl,q⟩
 have go:TyOf X.K H x (tyD d)->bD 'D' X.A (call (.builtin "isinstance") [u,.type t.nm]) (EP X zv σ Q) X.xe s:=λty=>atw I r1 ty (ayy t d) fin
 cases d with
 |non=>obtain rfl:=h.non;exact go .non
 |bl b=>obtain rfl:=h.bl;exact go (.bl b)
 |int b=>obtain rfl:=h.int;exact go (.int b)
 |str b=>obtain rfl:=h.str;exact go (.str b)
 |tup b=>obtain⟨a,vs,rfl,e,_⟩:=h.tup;exact go (.tup (g _ _ e))
 |lst b=>obtain⟨a,vs,rfl,e,_⟩:=h.lst g;exact go (.lst e)
 |kst b=>
  obtain⟨a,vs,rfl,e,_⟩:=h.kst;cases(show u=cY a from r1)
  obtain⟨its,_,pl,_⟩:=I.list (L2.Same.seq g e);obtain⟨o,ho,hc,n,hd⟩:=pl.isList;exact eH sY I.kIn ⟨o,ho,hc⟩ (ayy t (.kst b)) (λz=>nomatch z) fin
 |dct b=>
  rcases h with h |⟨a,vs,l',e1,_⟩
  ·cases h with
   |dct e h=>exact go (.dK (g _ _ e))
  ·cases e1
 |dtt b=>
  rcases h with h |⟨a,vs,l',e1,_⟩
  ·cases h with
   |dtt e=>exact go (.dT (g _ _ e))
  ·cases e1
 |exn c fs=>
  rcases h with h |⟨a,vs,l',e1,_⟩
  ·cases h with
   | @exn a C c dx fs e hc hk hf=>
    cases(show u=cY a from r1)
    obtain⟨⟨oe,ws,h1,h2,h3,h4⟩,_⟩:=(show yg X.prog X.w H s.heap a (.ext (exO a C dx)) from I.hok a _ (g _ _ e))
    have hno:mY oe=ZW:=by unfold mY;rw[h4]
    have ia:∃ox od,jB s.heap a ox C od:=by
     rcases hf with⟨rfl,_⟩ |⟨d,rfl,hd⟩
     ·exact⟨oe,ZX,h1,h2,hno,by rw[h3];trivial⟩
     ·obtain⟨mA,⟨od,_,_,e1,_⟩,_⟩:=(show yg X.prog X.w H s.heap d (.xd _) from I.hok d _ (g _ _ hd))
      exact⟨oe,ZY od,h1,h2,hno,by rw[h3];exact e1⟩
    have kq:jA X.K (.ref C) (.type t.nm)=ZY ZV:=by
     have h5:iY X.K (.ref C) (.type t.nm)=ZY ZV:=hk.no _ (by cases t <;> simp[Ty.nm])
     have h6:zU t.nm=ZW:=by cases t <;> kernel_rfl
     unfold jA Ak;rw[if_neg (by simp)]
     show(if zU t.nm=ZW then iY X.K (.ref C) (.type t.nm) else ZX)=ZY ZV
     rw[if_pos h6];exact h5
    have e7:isTy t (.exn c fs)=ZV:=by cases t <;> rfl
    exact eH (aow hk) I.kIn ia kq (λz=>nomatch z) λtk=>e7▸fin tk
  ·cases e1
def mIsi(t:Ty)(m:M D):M D:=m.bind λd=>ret (.bl (isTy t d))
def alx(ht:PE X tn (tC (.ty t.nm)))(hg:Gl X x)(hm:X.mg x=ZX)(hv:bY x=ZY (.builtin "isinstance"))(h:EB K X e m)(hn:x ≠ "__name__" := by decide)(hdb:Zb x:=by decide)
  (h1:aQ [tn] X.env=(ZV,eval tn X.env)::aQ [] X.env:=by rfl) (he:aQ [e,tn] X.env=(ZV,eval e X.env)::aQ [tn] X.env:=by rfl) (hpl:(kI pos (aQ [tn] X.env)).any (·.1)=ZV:=by rfl) :
  EV K X (.Call (.Name x p) [e,tn] [] pos) (mIsi t m):=EV.mk λhk=>by
 refine PE.imp (acu avd hg hm hv (uc (h hk) (uc ht acf h1) he) hn hdb he hpl) λσ H Q z9=>?_
 obtain⟨tg,F,ρ,d,ρ',G,em,q⟩:=z9;obtain⟨d1,ρ1,e1,em⟩:=bj em;obtain⟨rfl,rfl⟩:=lr em;subst hk;exact⟨tg,F,ρ,d1,_,G,e1,λv H' F' G' x bv=>⟨F',d1,v,t,rfl,G'.sub,bv,q _ H' F' G' x (.bl _)⟩⟩
def gIx(d i:D):Option Rv:=match i with
 |.int k=>(itemsD d).bind λl=>(atI l k).map λx=>.v x
 |_=>ZX
theorem a7i(h:IsL K F l vs)(e:atI l k=ZY d):∃v,atI vs k=ZY v/\Is K F d v:=by
 unfold atI at e ⊢
 rw[h.length] at e;cases q:ixN vs.length k with
 |none=>rw[q] at e;cases e
 |some j=>
  rw[q] at e;obtain⟨v,e1,e2⟩:=h.get (i:=j) e;exact⟨v,e1,e2⟩
theorem ixd:X.K=K->IxR X (rOf K gIx):=λhk=>by
 intro value slice zv s σ0 H x y v u Q I rx ry z9 hs;obtain⟨tg,F,ρ,σ,d1,d2,r,G,b1,b2,eg,q⟩:=z9;subst hk;cases d2 with
 |int k=>
  have eg:(itemsD d1).bind (λl=>(atI l k).map λx=>Rv.v x)=ZY r:=eg
  cases e:itemsD d1 with
  |none=>rw[e] at eg;cases eg
  |some l=>
   rw[e] at eg;have eg:(atI l k).map (λx=>Rv.v x)=ZY r:=eg
   cases e2:atI l k with
   |none=>rw[e2] at eg;cases eg
   |some d=>
    rw[e2] at eg;cases eg;obtain⟨a,vs,rfl,hl,hq⟩:=agx G.sub e b1;obtain rfl:=b2.int;obtain⟨z,hz,iz⟩:=a7i hl e2;rcases hq with hq |hq
    ·exact ane value slice zv s σ0 H _ _ v u Q I rx ry ⟨a,vs,k,z,rfl,rfl,hq,hz,Res.same G q iz⟩ hs
    ·exact a6l value slice zv s σ0 H _ _ v u Q I rx ry ⟨a,vs,k,z,rfl,rfl,hq,hz,Res.same G q iz⟩ hs
 |_=>cases eg
def j7(h:E2 K X a b m)(hs:avx b):ER K X (.Subscript a b pos) (mOp gIx m):=ER.mk λhk=>by
 obtain⟨ta,tb,ha,hb,h⟩:=h hk;exact PE.imp (a0t (ixd hk) ha hb hs) (aon h)
def TOp(K:Fg9)(m:M (Option Int)):TO:=λσ H Q=>∃tg F ρ o ρ',Good K tg F H ρ σ/\m ρ=ZY (.ok o,ρ')/\∀H' F',Good K tg F' H' ρ' σ->Ext (Own ρ σ) (Own ρ' σ) F H F' H'->Q o H'
structure EO (K:Fg9) (X:Cx) (e:Option fP) (m:M (Option Int)):Prop where
 go:X.K=K->PO X e (TOp K m)
instance {K:Fg9} {X:Cx} {e:Option fP} {m:M (Option Int)}:CoeFun (EO K X e m) λ_=>X.K=K->PO X e (TOp K m):=⟨EO.go⟩
def PO.imp(h:PO X eo t)(w:∀σ H Q,t' σ H Q->t σ H Q):PO X eo t':=λzv s σ H Q I q=>h zv s σ H Q I (w σ H Q q)
def afo:EO K X ZX (ret ZX):=EO.mk λ_=>PO.imp a0k λσ H Q z9=>by
 obtain⟨tg,F,ρ,o,ρ',G,em,q⟩:=z9;obtain⟨rfl,rfl⟩:=lr em;exact q H F G (Ext.refl _ _ _)
def asI:D->Option Int
 |.int i=>ZY i
 |_=>ZX
theorem apn(h:asI d=ZY k):d=.int k:=by
 cases d with
 |int b=>cases h;rfl
 |_=>cases h
def aic(m:M D):M (Option Int):=m.bind λd=>lift ((asI d).map ZY)
theorem aco(h:EV K X e m):EO K X (ZY e) (aic m):=EO.mk λhk=>PO.imp (a0j (h hk)) λσ H Q z9=>by
 obtain⟨tg,F,ρ,o,ρ',G,em,q⟩:=z9;obtain⟨d,ρ1,e1,em⟩:=bj em;obtain⟨e2,rfl⟩:=jb em;refine⟨tg,F,ρ,d,_,G,e1,λv H' F' G' x r=>?_⟩
 cases d with
 |int i=>
  cases e2;cases r;exact⟨i,rfl,q H' F' G' x⟩
 |_=>cases e2
def cutD(l:List D)(lo hi:Option Int):List D:=(l.drop (HT.sIx l.length 0 lo)).take (HT.sIx l.length l.length hi-HT.sIx l.length 0 lo)
def au1(h:IsL K F l vs)(lo hi:Option Int):IsL K F (cutD l lo hi) (cutV vs lo hi):=by
 unfold cutD cutV;rw[h.length];exact(h.drop _).take _
def gCut(d:D)(lo hi:Option Int):Option Rv:=match d with
 |.tup l=>ZY (.v (.tup (cutD l lo hi)))
 |.lst l=>ZY (.fr (cutD l lo hi))
 |.kst l=>ZY (.fr (cutD l lo hi))
 |_=>ZX
def rsOf(K:Fg9):V->Option Int->Option Int->Hp->VK->Prop:=λx lo hi H Q=>∃tg F ρ σ d r,Good K tg F H ρ σ/\Bor K F H d x/\gCut d lo hi=ZY r/\Res K tg F H ρ σ r Q
theorem sld(hk:X.K=K):SlR X (rsOf K):=by
 intro zv s σ0 H x v vl vu lo hi sl Q I rx hs pl pu z9;obtain⟨tg,F,ρ,σ,d,r,G,bd,eg,q⟩:=z9;subst hk;cases d with
 |tup l=>
  cases eg;obtain⟨a,vs,rfl,ea,hl⟩:=bd.tup
  by_cases hw:HT.sIx vs.length 0 lo=0/\HT.sIx vs.length vs.length hi=vs.length
  ·have ec:cutD l lo hi=l:=by
    unfold cutD;rw[hl.length,hw.1,hw.2,rJ,wF,<-hl.length,zM]
   rw[ec] at q;cases rx;obtain⟨its,r,ht,hz⟩:=I.tuple (SqT.of (G.sub _ _ ea));have hlen:its.toArray.size=vs.length:=by rw[aP];exact r.length.symm
   refine⟨"tuple", _,fQ.lookup,ht.typeIs,?_⟩;exact adw ht hs pl pu (by rw[hlen];exact hw.1) (by rw[hlen];exact hw.2) ⟨.ref a,H,I,rfl,Res.same G q (.tup ea hl)⟩
  ·exact a3y zv s σ0 H _ v vl vu lo hi sl Q I rx hs pl pu ⟨a,vs,rfl,SqT.of (G.sub _ _ ea),hw,λp hp=>Res.tup G q (au1 hl lo hi) hp⟩
 |lst l=>
  cases eg;obtain⟨a,vs,rfl,ea,hl⟩:=bd.lst G.sub;exact ar3 zv s σ0 H _ v vl vu lo hi sl Q I rx hs pl pu ⟨a,vs,rfl,SqL.of ea,λp hp=>Res.lst G q (au1 hl lo hi) hp⟩
 |kst l=>
  cases eg;obtain⟨a,vs,rfl,ea,hl⟩:=bd.kst;exact ar3 zv s σ0 H _ v vl vu lo hi sl Q I rx hs pl pu ⟨a,vs,rfl,L2.Same.seq G.sub ea,λp hp=>Res.lst G q (au1 hl lo hi) hp⟩
 |_=>cases eg
def mCut(m:M D)(ml mh:M (Option Int)):M Rv:=m.bind λd=>ml.bind λlo=>mh.bind λhi=>lift (gCut d lo hi)
def ana(i:Nat)(ml mh:M (Option Int)):M Rv:=(dw i).bind λ_=>ml.bind λlo=>mh.bind λhi=>(dw i).bind λd=>lift (gCut d lo hi)
def ay7{m:M D}{ml mh:M (Option Int)}{lo hi:Option fP}(h:EV K X a m)(hl:EO K X lo ml)(hh:EO K X hi mh):ER K X (.Subscript a (.Slice lo hi ZX p2) pos) (mCut m ml mh):=ER.mk λhk=>PE.imp (aoi (sld hk) (h hk) (hl hk) (hh hk)) λσ H Q z9=>by
 obtain⟨tg,F,ρ,r,ρ',G,em,q⟩:=z9;obtain⟨d,ρ1,e1,em⟩:=bj em;obtain⟨o1,ρ2,e2,em⟩:=bj em;obtain⟨o2,ρ3,e3,em⟩:=bj em;obtain⟨e4,rfl⟩:=jb em;refine⟨tg,F,ρ,d,ρ1,G,e1,λv H1 F1 G1 x1 r1=>⟨tg,F1,ρ1,o1,ρ2,G1,e2,λH2 F2 G2 x2=>⟨tg,F2,ρ2,o2,_,G2,e3,λH3 F3 G3 x3=>?_⟩⟩⟩
 exact⟨tg,F3,_,σ,d,r,G3,.inl ((r1.mono x2.sub).mono x3.sub),e4,λv' H4 F4 G4 x4 rr=>q v' H4 F4 G4 (((x1.trans x2).trans x3).trans x4) (qt ((x1.trans x2).trans x3) rr)⟩
def aho{i:Nat}{ml mh:M (Option Int)}{lo hi:Option fP}(h:PE X a (tVar i))(hl:EO K X lo ml)(hh:EO K X hi mh):ER K X (.Subscript a (.Slice lo hi ZX p2) pos) (ana i ml mh):=ER.mk λhk=>PE.imp (aoi (sld hk) h (hl hk) (hh hk)) λσ H Q z9=>by
 obtain⟨tg,F,ρ,r,ρ',G,em,q⟩:=z9;obtain⟨d0,ρ0,e0,em⟩:=bj em;obtain⟨o1,ρ2,e2,em⟩:=bj em;obtain⟨o2,ρ3,e3,em⟩:=bj em;obtain⟨d,ρ4,e1,em⟩:=bj em;obtain⟨e4,rfl⟩:=jb em;obtain⟨rfl,v,hv,_⟩:=uv G e0;refine⟨v,hv,tg,F,ρ0,o1,ρ2,G,e2,λH2 F2 G2 x2=>⟨tg,F2,ρ2,o2,_,G2,e3,λH3 F3 G3 x3=>?_⟩⟩
 obtain⟨rfl,v',hv',b'⟩:=uv G3 e1;rw[hv] at hv';cases hv';exact⟨tg,F3,_,σ,d,r,G3,b',e4,λv' H4 F4 G4 x4 rr=>q v' H4 F4 G4 ((x2.trans x3).trans x4) (qt (x2.trans x3) rr)⟩
end
inductive Fl where
 |nx |ret (r:Rv) |brk |cont |exc (x:Exn)
abbrev Sd:=Ro->Option (Fl×Ro)
section
variable{K:Fg9}{X:Cx}{e a b c tgt:fP}{es:List fP}{pos p p2:Pos}{st:jG}{ss:List jG}
def FlOk(K:Fg9)(tg:Nat->bB)(ρ:Ro)(σ:L2.St)(F H:Hp)(E:Ends)(fl:Fl)(ρ':Ro):Prop:=match fl with
 |.nx=>∀σ' H' F',Good K tg F' H' ρ' σ'->Ext (Own ρ σ) (Own ρ' σ') F H F' H'->E.nx σ' H'
 |.brk=>∀σ' H' F',Good K tg F' H' ρ' σ'->Ext (Own ρ σ) (Own ρ' σ') F H F' H'->E.bk σ' H'
 |.cont=>∀σ' H' F',Good K tg F' H' ρ' σ'->Ext (Own ρ σ) (Own ρ' σ') F H F' H'->E.ct σ' H'
 |.ret r=>∀v σ' H' F',Good K tg F' H' ρ' σ'->Ext (Own ρ σ) (Own ρ' σ') F H F' H'->relR K r v H (Own ρ σ) F' H' (Own ρ' σ')->E.rt v H'
 |.exc _=>False
def TSd(K:Fg9)(g:Sd):TS:=λE σ H=>∃tg F ρ fl ρ',Good K tg F H ρ σ/\g ρ=ZY (fl,ρ')/\FlOk K tg ρ σ F H E fl ρ'
structure SV (K:Fg9) (X:Cx) (st:jG) (g:Sd):Prop where
 go:X.K=K->PS X st (TSd K g)
instance {K:Fg9} {X:Cx} {st:jG} {g:Sd}:CoeFun (SV K X st g) λ_=>X.K=K->PS X st (TSd K g):=⟨SV.go⟩
structure SVs (K:Fg9) (X:Cx) (ss:List jG) (g:Sd):Prop where
 go:X.K=K->PSs X ss (TSd K g)
instance {K:Fg9} {X:Cx} {ss:List jG} {g:Sd}:CoeFun (SVs K X ss g) λ_=>X.K=K->PSs X ss (TSd K g):=⟨SVs.go⟩
def PS.imp(h:PS X st t)(w:∀E σ H,t' E σ H->t E σ H):PS X st t':=λzv s σ H E I q=>h zv s σ H E I (w E σ H q)
def PSs.imp(h:PSs X ss t)(w:∀E σ H,t' E σ H->t E σ H):PSs X ss t':=λzv s σ H E I q=>h zv s σ H E I (w E σ H q)
theorem FlOk.back(x:Ext (Own ρ σ) (Own ρ1 σ1) F H F1 H1)(h:FlOk K tg ρ σ F H E fl ρ'):FlOk K tg ρ1 σ1 F1 H1 E fl ρ':=by
 cases fl with
 |nx=>exact λσ' H' F' G' x'=>h σ' H' F' G' (x.trans x')
 |brk=>exact λσ' H' F' G' x'=>h σ' H' F' G' (x.trans x')
 |cont=>exact λσ' H' F' G' x'=>h σ' H' F' G' (x.trans x')
 |ret r=>exact λv σ' H' F' G' x' rr=>h v σ' H' F' G' (x.trans x') (qt x rr)
 |exc _=>exact h
noncomputable def dNx:Sd:=λρ=>ZY (.nx,ρ)
noncomputable def dSeq(g k:Sd):Sd:=λρ=>match g ρ with
 |some (.nx,ρ1)=>k ρ1
 |r=>r
def j4:SVs K X [] dNx:=SVs.mk λ_=>PSs.imp a0f λE σ H z9=>by
 obtain⟨tg,F,ρ,fl,ρ',G,em,q⟩:=z9;cases em;exact q σ H F G (Ext.refl _ _ _)
def au(h:SV K X st g):SVs K X [st] g:=SVs.mk λhk=>asi (h hk)
def ao(h:SV K X st g)(t:SVs K X ss k):SVs K X (st::ss) (dSeq g k):=SVs.mk λhk=>PSs.imp (awl (h hk) (t hk)) λE σ H z9=>by
 obtain⟨tg,F,ρ,fl,ρ',G,em,q⟩:=z9;unfold dSeq at em;split at em
 ·rename_i ρ1 e1;exact⟨tg,F,ρ,.nx,ρ1,G,e1,λσ' H' F' G' x=>⟨tg,F',ρ1,fl,ρ',G',em,q.back x⟩⟩
 ·rename_i hn;refine⟨tg,F,ρ,fl,ρ',G,em,?_⟩;cases fl with
  |nx=>exact absurd em (hn ρ')
  |brk=>exact q
  |cont=>exact q
  |ret r=>exact q
  |exc _=>exact q
noncomputable def dM{α:Type}(m:M α)(k:α->Sd):Sd:=λρ=>match m ρ with
 |some (.ok x,ρ1)=>k x ρ1
 |some (.exc x,ρ1)=>ZY (.exc x,ρ1)
 |none=>ZX
def yz{α:Type}{m:M α}{k:α->Sd}{ρ ρ':Ro}{fl:Fl}{P:Prop}(h:dM m k ρ=ZY (fl,ρ'))(hx:FlOk K tg ρ0 σ0 F0 H0 E0' fl ρ')(go:∀x ρ1,m ρ=ZY (.ok x,ρ1)->k x ρ1=ZY (fl,ρ')->P):P:=by
 unfold dM at h;split at h
 ·exact go _ _ (by assumption) h
 ·cases h;exact(show False from hx).elim
 ·cases h
noncomputable def dRet(m:M Rv):Sd:=dM m λr ρ=>ZY (.ret r,ρ)
def gn{m:M Rv}(h:ER K X e m):SV K X (.Return (ZY e) pos) (dRet m):=SV.mk λhk=>PS.imp (a4p (h hk)) λE σ H ⟨tg,F,ρ,fl,ρ',G,em,q⟩=>yz em q λr ρ1 e1 em=>by
 cases em;exact⟨tg,F,ρ,r,_,G,e1,λv H' F' G' x rr=>q v σ H' F' G' x rr⟩
noncomputable def dIf(m:M Bool)(g k:Sd):Sd:=dM m λz=>if z=ZW then g else k
theorem ud{m:M Bool}{g k:Sd}{ss':List jG}(h:ET K X c m)(h1:SVs K X ss g)(h2:SVs K X ss' k):SV K X (.If c ss ss' pos) (dIf m g k):=SV.mk λhk=>PS.imp (a85 (h hk) (h1 hk) (h2 hk)) λE σ H ⟨tg,F,ρ,fl,ρ',G,em,q⟩=>yz em q λz ρ1 e1 em=>by
 refine⟨tg,F,ρ,z,ρ1,G,e1,λH' F' G' x=>?_⟩
 cases z with
 |true=>exact iteT ⟨tg,F',ρ1,fl,ρ',G',em,q.back x⟩
 |false=>exact iteF ⟨tg,F',ρ1,fl,ρ',G',em,q.back x⟩
def u6{α:Type}(m:M α):Sd:=dM m λ_ ρ=>ZY (.nx,ρ)
def j5{m:M Rv}(h:ER K X e m)(hs:mF e ZX pos.line X.env=pure ZV:=by rfl):SV K X (.Expr e pos) (u6 m):=SV.mk λhk=>PS.imp (a0h (h hk) hs) λE σ H ⟨tg,F,ρ,fl,ρ',G,em,q⟩=>yz em q λr ρ1 e1 em=>by
 cases em;exact⟨tg,F,ρ,r,_,G,e1,λv H' F' G' x rr=>q σ H' F' G' x⟩
section
variable{tg:Nat->bB}{F H:Hp}{ρ:Ro}{σ:L2.St}
def amy{i:Nat}{s:Sl}{v:V}{b:bB}(hl:ρ.length=σ.length)(h:Own (cI ρ i s) (cI σ i (ZY v)) b):Own ρ σ b∨((∃t l,s=.own t l)/\v=.ref b):=by
 obtain⟨j,⟨t,l,e⟩,q⟩:=h;rw[cB] at e q
 by_cases hj:i=j
 ·subst hj;rw[if_pos rfl] at e q;split at e
  ·rename_i hi;rw[if_pos (by rw[<-hl];exact hi)] at q
   cases e;cases q;exact .inr ⟨⟨t,l,rfl⟩,rfl⟩
  ·cases e
 ·rw[if_neg hj] at e q;exact .inl ⟨j,⟨t,l,e⟩,q⟩
def Good.put(G:Good K tg F H ρ σ)(i:Nat)(h:SlOk K tg F H s (ZY v))(n:∀t l a,s=.own t l->v=.ref a->¬Own ρ σ a):Good K tg F H (cI ρ i s) (cI σ i (ZY v)) where
 sub:=G.sub
 len:=by rw[fH,fH];exact G.len
 sl:=λj s' o e q=>by
  rw[cB] at e q
  by_cases hj:i=j
  ·subst hj;rw[if_pos rfl] at e q;split at e
   ·rename_i hi;rw[if_pos (by rw[<-G.len];exact hi)] at q
    cases e;cases q;exact h
   ·cases e
  ·rw[if_neg hj] at e q;exact G.sl j s' o e q
 inj:=λj k a ⟨⟨t,l,e⟩,q⟩ ⟨⟨t',l',e'⟩,q'⟩=>by
  rw[cB] at e q e' q'
  by_cases hj:i=j
  ·subst hj;rw[if_pos rfl] at e q
   by_cases hk:i=k
   ·exact hk
   ·rw[if_neg hk] at e' q';split at e
    ·rename_i hi;rw[if_pos (by rw[<-G.len];exact hi)] at q
     cases e;cases q;exact absurd ⟨k,⟨t',l',e'⟩,q'⟩ (n t l a rfl rfl)
    ·cases e
  ·rw[if_neg hj] at e q
   by_cases hk:i=k
   ·subst hk;rw[if_pos rfl] at e' q';split at e'
    ·rename_i hi;rw[if_pos (by rw[<-G.len];exact hi)] at q'
     cases e';cases q';exact absurd ⟨j,⟨t,l,e⟩,q⟩ (n t' l' a rfl rfl)
    ·cases e'
   ·rw[if_neg hk] at e' q';exact G.inj j k a ⟨⟨t,l,e⟩,q⟩ ⟨⟨t',l',e'⟩,q'⟩
def Rv.sl:Rv->Sl
 |.v d=>.val d
 |.fr l=>.own ZX l
 |.tf _ _=>.emp
theorem Good.store(G:Good K tg F H ρ σ)(x:Ext O (Own ρ σ) F0 H0 F H)(i:Nat)(h:relR K r v H0 O F H (Own ρ σ)) :
  Good K tg F H (cI ρ i r.sl) (cI σ i (ZY v))/\Ext O (Own (cI ρ i r.sl) (cI σ i (ZY v))) F0 H0 F H:=by
 cases r with
 |v d=>
  refine⟨G.put i ⟨v,rfl,h⟩ (λt l a e=>by cases e),x.sub,x.new,x.keep,λb w=>?_,x.there⟩
  rcases amy G.len w with w |⟨⟨t,l,e⟩,_⟩
  ·exact x.own b w
  ·cases e
 |fr l=>
  obtain⟨a,vs,rfl,ha,hf,hh,hl,hn⟩:=h;refine⟨G.put i ⟨a,vs,rfl,hf,hh,hl,λk e=>by cases e⟩ (λt l' b _ e2=>by cases e2;exact hn),x.sub,x.new,x.keep,λb w=>?_,x.there⟩
  rcases amy G.len w with w |⟨_,e⟩
  ·exact x.own b w
  ·cases e;exact ha.symm
 |tf d l=>
  refine⟨G.put i trivial (λt l a e=>by cases e),x.sub,x.new,x.keep,λb w=>?_,x.there⟩
  rcases amy G.len w with w |⟨⟨t,l,e⟩,_⟩
  ·exact x.own b w
  ·cases e
end
def dSet(i:Nat)(m:M Rv):Sd:=dM m λr ρ=>ZY (.nx,cI ρ i r.sl)
def dq{i:Nat}{x:Str}{m:M Rv}(hN:X.N.Nodup)(hi:X.N[i]? = ZY x)(hx:Loc X.env.scope x)(h:ER K X e m)(hs:mF e (ZY (.Name x p)) pos.line X.env=pure ZV:=by rfl)(hf:X.fn x=ZW∨X.env.scope.names.lookup x=ZY .local:=by first |exact .inl rfl |exact .inr rfl |assumption) :
  SV K X (.Assign [.Name x p] e pos) (dSet i m):=SV.mk λhk=>PS.imp (a4o hN hi hx (h hk) hs hf) λE σ H ⟨tg,F,ρ,fl,ρ',G,em,q⟩=>yz em q λr ρ1 e1 em=>by
 cases em;refine⟨tg,F,ρ,r,ρ1,G,e1,λv H' F' G' x rr=>?_⟩
 obtain⟨G2,x2⟩:=G'.store x i rr;exact q _ H' F' G2 x2
def TGd(K:Fg9)(b:D->Ro->Option Ro):TG:=λv σ H Q=>∃tg F ρ d ρ',Good K tg F H ρ σ/\Is K F d v/\b d ρ=ZY ρ'/\∀σ' H' F',Good K tg F' H' ρ' σ'->Ext (Own ρ σ) (Own ρ' σ') F H F' H'->Q σ' H'
structure GV (K:Fg9) (X:Cx) (e:fP) (b:D->Ro->Option Ro):Prop where
 go:X.K=K->PG X e (TGd K b)
instance {K:Fg9} {X:Cx} {e:fP} {b:D->Ro->Option Ro}:CoeFun (GV K X e b) λ_=>X.K=K->PG X e (TGd K b):=⟨GV.go⟩
def PG.imp(h:PG X e t)(w:∀v σ H Q,t' v σ H Q->t v σ H Q):PG X e t':=λzv s σ H v u Q I r q=>h zv s σ H v u Q I r (w v σ H Q q)
def cj(i:Nat):D->Ro->Option Ro:=λd ρ=>ZY (cI ρ i (.val d))
def Good.storeV(G:Good K tg F H ρ σ)(i:Nat)(h:Is K F d v):Good K tg F H (cI ρ i (.val d)) (cI σ i (ZY v))/\Ext (Own ρ σ) (Own (cI ρ i (.val d)) (cI σ i (ZY v))) F H F H :=
 G.store (r:=.v d) (Ext.refl _ _ _) i h
def cz(hN:X.N.Nodup)(hi:X.N[i]? = ZY x)(hx:Loc X.env.scope x)(hf:X.fn x=ZW∨X.env.scope.names.lookup x=ZY .local:=by first |exact .inl rfl |exact .inr rfl |assumption):GV K X (.Name x pos) (cj i):=GV.mk λ_=>PG.imp (a0r hN hi hx hf) λv σ H Q z9=>by
 obtain⟨tg,F,ρ,d,ρ',G,h,em,q⟩:=z9;cases em;obtain⟨G2,x2⟩:=G.storeV i h;exact q _ H F G2 x2
def TGsd(K:Fg9)(b:List D->Ro->Option Ro):TGs:=λvs σ H Q=>∃tg F ρ ds ρ',Good K tg F H ρ σ/\IsL K F ds vs/\b ds ρ=ZY ρ'/\∀σ' H' F',Good K tg F' H' ρ' σ'->Ext (Own ρ σ) (Own ρ' σ') F H F' H'->Q σ' H'
structure GVs (K:Fg9) (X:Cx) (es:List fP) (b:List D->Ro->Option Ro):Prop where
 go:X.K=K->PGs X es (TGsd K b)
instance {K:Fg9} {X:Cx} {es:List fP} {b:List D->Ro->Option Ro}:CoeFun (GVs K X es b) λ_=>X.K=K->PGs X es (TGsd K b):=⟨GVs.go⟩
def PGs.imp(h:PGs X es t)(w:∀v σ H Q,t' v σ H Q->t v σ H Q):PGs X es t':=λzv s σ H v u Q I r q=>h zv s σ H v u Q I r (w v σ H Q q)
noncomputable def bNil:List D->Ro->Option Ro:=λds ρ=>match ds with
 | []=>ZY ρ
 |_=>ZX
def jl(b:D->Ro->Option Ro)(bs:List D->Ro->Option Ro):List D->Ro->Option Ro:=λds ρ=>match ds with
 |d::r=>(b d ρ).bind (bs r)
 |_=>ZX
theorem vy:GVs K X [] bNil:=GVs.mk λ_=>PGs.imp a0q λvs σ H Q z9=>by
 obtain⟨tg,F,ρ,ds,ρ',G,h,em,q⟩:=z9;cases ds with
 |nil=>cases em;cases h;exact⟨rfl,q σ H F G (Ext.refl _ _ _)⟩
 |cons _ _=>cases em
theorem je{b:D->Ro->Option Ro}{bs:List D->Ro->Option Ro}(h1:GV K X e b)(h2:GVs K X es bs)(hs:(lA (e::es) X.env).map (·.2)=rF e X.env::(lA es X.env).map (·.2):=by rfl):GVs K X (e::es) (jl b bs):=GVs.mk λhk=>PGs.imp (awo (h1 hk) (h2 hk) hs) λvs σ H Q z9=>by
 obtain⟨tg,F,ρ,ds,ρ',G,h,em,q⟩:=z9;cases h with
 |nil=>cases em
 | @cons d v ds vs hd ht=>
  have em:(b d ρ).bind (bs ds)=ZY ρ':=em;cases e1:b d ρ with
  |none=>rw[e1] at em;cases em
  |some ρ1=>
   rw[e1] at em;exact⟨v,vs,rfl,tg,F,ρ,d,ρ1,G,hd,e1,λσ' H' F' G' x=>⟨tg,F',ρ1,ds,ρ',G',ht.mono x.sub,em,λσ2 H2 F2 G2 x2=>q σ2 H2 F2 G2 (x.trans x2)⟩⟩
def bTup(n:Nat)(bs:List D->Ro->Option Ro):D->Ro->Option Ro:=λd ρ=>match d with
 |.tup l=>if l.length=n then bs l ρ else ZX
 |_=>ZX
theorem aa7(hc:X.calm=ZW)(h:GVs K X es bs)(hn:(lA es X.env).length=n:=by rfl)(hst:(lA es X.env).findIdx? (·.1)=ZX:=by rfl):GV K X (.Tuple es k pos) (bTup n bs):=GV.mk λhk=>PG.imp (a4r hc (h hk) hn hst) λv σ H Q z9=>by
 obtain⟨tg,F,ρ,d,ρ',G,hd,em,q⟩:=z9;cases hd with
 | @tup a vs ds e hl=>
  have em:(if ds.length=n then bs ds ρ else ZX)=ZY ρ':=em
  split at em
  ·rename_i hz;exact⟨a,vs,rfl,SqT.of (G.sub _ _ e),by rw[<-hl.length];exact hz,tg,F,ρ,ds,ρ',G,hl,em,q⟩
  ·cases em
 |_=>cases em
def dAsg(m:M D)(b:D->Ro->Option Ro):Sd:=dM m λd ρ=>(b d ρ).map λρ'=>(.nx,ρ')
theorem a3u{m:M D}{b:D->Ro->Option Ro}(h:EV K X e m)(hg:GV K X tgt b)(hs:swapsWithSole [tgt] e pos.line X.env=pure ZV:=by rfl)(hw:swappedStores [tgt] e X.env=pure ZX:=by rfl)
  (h1:(lA [tgt] X.env).map (·.2)=[rF tgt X.env]:=by rfl):SV K X (.Assign [tgt] e pos) (dAsg m b):=SV.mk λhk=>PS.imp (ayq (h hk) (hg hk) hs hw h1) λE σ H ⟨tg,F,ρ,fl,ρ',G,em,q⟩=>yz em q λd ρ1 e1 em=>by
 refine⟨tg,F,ρ,d,ρ1,G,e1,λv H' F' G' x r=>?_⟩
 cases e2:b d ρ1 with
 |none=>rw[e2] at em;cases em
 |some ρ2=>
  rw[e2] at em;cases em;exact⟨tg,F',ρ1,d,_,G',r,e2,λσ2 H2 F2 G2 x2=>q σ2 H2 F2 G2 (x.trans x2)⟩
def Good.mut{tg:Nat->bB}{F H:Hp}{ρ:Ro}{σ:L2.St}(G:Good K tg F H ρ σ){i:Nat}{t:Option Nat}{l l':List D}{a:bB}{ys:List V}(e:(ρ:List Sl)[i]? = ZY (.own t l))(q:σ[i]? = ZY (ZY (.ref a)))(h:IsL K F l' ys) :
  Good K tg F (upd H a (.lst ys)) (cI ρ i (.own t l')) σ/\Ext (Own ρ σ) (Own (cI ρ i (.own t l')) σ) F H F (upd H a (.lst ys)):=by
 obtain⟨a',vs,e1,hf,hh,hl,ht⟩:=G.sl i _ _ e q;cases e1;have ow:∀j b,Owns (cI ρ i (.own t l')) σ j b->Owns ρ σ j b:=λj b ⟨⟨t2,l2,e2⟩,q2⟩=>by
  rw[cB] at e2
  by_cases hj:i=j
  ·subst hj;exact⟨⟨t,l,e⟩,q2⟩
  ·rw[if_neg hj] at e2;exact⟨⟨t2,l2,e2⟩,q2⟩
 have me:Own ρ σ a:=⟨i,⟨t,l,e⟩,q⟩;refine⟨⟨λb o z=>?_,by rw[fH];exact G.len,λj s o e2 q2=>?_,λj k b w1 w2=>G.inj j k b (ow _ _ w1) (ow _ _ w2)⟩,Same.refl F,λ_ _ z=>.inl z,λb o z n=>?_,λb ⟨j,w⟩=>.inl ⟨j,ow j b w⟩,λb z=>?_⟩
 ·have hb:b≠a:=λz2=>by
   subst z2;rw[hf] at z;cases z
  rw[cg hb];exact G.sub b o z
 ·rw[cB] at e2
  by_cases hj:i=j
  ·subst hj;rw[if_pos rfl] at e2;split at e2
   ·cases e2;rw[q] at q2;cases q2;exact⟨a,ys,rfl,hf,gw,h,ht⟩
   ·cases e2
  ·rw[if_neg hj] at e2;have z:=G.sl j s o e2 q2;cases s with
   |emp=>trivial
   |val d=>exact z
   |lol ts=>exact z
   |lnk k=>exact z
   |box c fs=>
    obtain⟨b,C,dx,fvs,e1,e2,e3,e4⟩:=z;have hb:b≠a:=λz2=>by
     subst z2;rw[e3] at hh;cases hh
    exact⟨b,C,dx,fvs,e1,e2,by rw[cg hb];exact e3,e4⟩
   |own t2 l2=>
    obtain⟨b,ws,e3,hf3,hh3,hl3,ht3⟩:=z;have hb:b≠a:=λz2=>by
     subst z2;exact hj (G.inj i j b ⟨⟨t,l,e⟩,q⟩ ⟨⟨t2,l2,e2⟩,by rw[q2,e3]⟩)
    exact⟨b,ws,e3,hf3,by rw[cg hb];exact hh3,hl3,ht3⟩
 ·have hb:b≠a:=λz2=>n (z2▸me)
  rw[cg hb];exact z
 ·by_cases hb:b=a
  ·subst hb;rw[gw] at z;cases z
  ·rw[cg hb] at z;exact z
def mOwn(i:Nat):M (List D):=λρ=>match ρ[i]? with
 |some (.own _ l)=>ZY (.ok l,ρ)
 |_=>ZX
def ag5(G:Good K tg F H ρ σ)(em:mOwn i ρ=ZY (.ok l,ρ')):ρ'=ρ/\∃t a xs,(ρ:List Sl)[i]? = ZY (.own t l)/\σ[i]? = ZY (ZY (.ref a))/\H a=ZY (.lst xs)/\IsL K F l xs:=by
 unfold mOwn at em;split at em
 ·rename_i t l' e';cases em;obtain⟨o,ho,a,vs,rfl,hf,hh,hl,_⟩:=G.at e';exact⟨rfl,t,a,vs,e',ho,hh,hl⟩
 ·cases em
def aeq(i:Nat)(l':List D):M Unit:=λρ=>match ρ[i]? with
 |some (.own t _)=>ZY (.ok (),cI ρ i (.own t l'))
 |_=>ZX
def mMut(i:Nat)(g:List D->List D->Option (D×List D))(ms:M (List D)):M D:=(mOwn i).bind λ_=>ms.bind λds=>(mOwn i).bind λl=>(lift (g l ds)).bind λr=>(aeq i r.2).bind λ_=>ret r.1
def MutD(K:Fg9)(r:V->List V->Hp->VK->Prop)(g:List D->List D->Option (D×List D)):Prop :=
 ∀(F H:Hp) (a:bB) (xs vs:List V) (l ds:List D) (d:D) (l':List D) (Q:VK),Same F H->H a=ZY (.lst xs)->xs.length<=capS->IsL K F l xs->IsL K F ds vs->g l ds=ZY (d,l')->(∀v ys,Is K F d v->IsL K F l' ys->Q v (upd H a (.lst ys)))->r (.ref a) vs H Q
def am7{tg:Nat->bB}{F H:Hp}{ρ ρ2:Ro}{σ:L2.St}(G:Good K tg F H ρ σ){i:Nat}{l':List D}{u:Unit}{a:bB}{ys:List V}(e:aeq i l' ρ=ZY (.ok u,ρ2))(q:σ[i]? = ZY (ZY (.ref a)))(h:IsL K F l' ys) :
  Good K tg F (upd H a (.lst ys)) ρ2 σ/\Ext (Own ρ σ) (Own ρ2 σ) F H F (upd H a (.lst ys)):=by
 unfold aeq at e;split at e
 ·rename_i t l e';cases e;exact G.mut e' q h
 ·cases e
def alw{i:Nat}{name:Str}{id:String}{r:V->List V->Hp->VK->Prop}{g:List D->List D->Option (D×List D)}{ms:M (List D)}{apos cpos:Pos}(hr:MutD K r g)(slot:Slot "list" name id)(hty:typeOf (.builtin id)=pure (.type "method_descriptor"))(hm:MtR X id r)(ho:PE X a (tVar i))(ha:ED K X (e::es) ms)
  (hbase:attributeBase a name X.env (eval a X.env)=eval a X.env:=by rfl)
  (hfew:((kI cpos (aQ (e::es) X.env)).all (λx => !x.1)&&(backToKw cpos (keywordEach [] X.env)).all (λx=>x.1.isSome)
   && decide ((e::es).length+([]:List rQ).length+(if ([]:List rQ).isEmpty then 0 else 1)<30))=ZW:=by rfl)
  (hline:(apos.endLine==cpos.line)=ZW:=by rfl) (hs:Zc X e es:=by rfl) (hplain:(kI cpos (aQ es X.env)).any (·.1)=ZV:=by rfl) :
  EV K X (.Call (.Attribute a name apos) (e::es) [] cpos) (mMut i g ms):=EV.mk λhk=>by
 intro zv s σ H Q I z9;obtain⟨tg,F,ρ,d,ρ',G,em,q⟩:=z9;obtain⟨l0,ρ0,e0,em1⟩:=bj em;obtain⟨ds,ρ1,e1,em2⟩:=bj em1;obtain⟨l,ρ2,e2,em3⟩:=bj em2;obtain⟨x,ρ3,e3,em4⟩:=bj em3;obtain⟨u,ρ4,e4,em5⟩:=bj em4;obtain⟨rfl,rfl⟩:=lr em5;obtain⟨eg,rfl⟩:=jb e3;obtain⟨rfl,t0,b,xs0,es0,hv,hh0,hl0⟩:=ag5 G e0;refine awv (r:=λx vs H Q=>(∀b xs,x=.ref b->H b=ZY (.lst xs)->xs.length<=capS)->r x vs H Q) pG slot hty (λzv s σ H x xs v us Q I rx rv h=>hm zv s σ H x xs v us Q I rx rv (h λb xs _ hb=>?_)) ho (ha hk) hbase hfew hline hs hplain zv s σ H Q I ?_
 ·obtain⟨z,_⟩:=I.lstM hb;rw[jR] at z;exact z
 refine⟨_,hv,.inl ⟨rfl,_,SqL.of hh0⟩,tg,F,ρ0,ds,ρ1,G,e1,λvs H1 F1 G1 x1 r1 cap=>?_⟩
 obtain⟨rfl,t,a',xs,es',hv',hh,hl⟩:=ag5 G1 e2;rw[hv] at hv';cases hv';refine hr F1 H1 _ xs vs l ds x.1 x.2 Q G1.sub hh (cap _ _ rfl hh) hl r1 eg λw ys iw il=>?_
 obtain⟨G2,x2⟩:=am7 G1 e4 hv il;exact q w _ F1 G2 (x1.trans x2) iw
def ad1(l ds:List D):Option (D×List D):=match ds with
 | [d]=>if l.length<capS then ZY (.non,l++[d]) else ZX
 |_=>ZX
theorem aa3:MutD K asf ad1:=by
 intro F H a xs vs l ds d l' Q g hh hc hl hd eg q
 match ds,eg with
 | [d1],eg=>
  have eg:(if l.length<capS then ZY (D.non,l++[d1]) else ZX)=ZY (d,l'):=eg
  split at eg
  ·rename_i hz;cases eg;cases hd with
   |cons h t=>
    cases t;exact⟨a,xs,_,rfl,rfl,hh,by rw[jR,<-hl.length];exact hz,q _ _ .non (hl.append (.cons h .nil))⟩
  ·cases eg
def dSub(i:Nat)(mi m:M D):Sd:=dM m λd=>dM (mOwn i) λ_=>dM mi λk=>dM (mOwn i) λl=>dM (lift ((asI k).bind (ixN l.length))) λj=>dM (aeq i (l.set j d)) λ_=>dNx
theorem aob{i:Nat}{mi m:M D}(h:EV K X e m)(ho:PE X a (tVar i))(hi:EV K X b mi)(hs:swapsWithSole [.Subscript a b p] e pos.line X.env=pure ZV:=by rfl)(hw:swappedStores [.Subscript a b p] e X.env=pure ZX:=by rfl)
  (h1:(lA [.Subscript a b p] X.env).map (·.2)=[rF (.Subscript a b p) X.env]:=by rfl)
  (ha:∀v,rF (.Subscript a b p) X.env v=(do
   let ov <-mU [v] (eval a X.env)
   let iv <-mU [v,ov] (eval b X.env)
   standAt p
   mU [v,ov,iv] (setItem ov iv v)
   release [v,ov,iv] []):=by intro _;rfl):SV K X (.Assign [.Subscript a b p] e pos) (dSub i mi m):=SV.mk λhk=>PS.imp (ayq (h hk) (a4s ho (hi hk) set_list ha) hs hw h1) λE σ H ⟨tg,F,ρ,fl,ρ',G,em,q⟩=>
 yz em q λd ρ1 e1 em=>yz em q λl0 ρ0 e0 em=>yz em q λk ρ2 e2 em=>yz em q λl ρ3 e3 em=>yz em q λj ρ4 e4 em=>yz em q λu ρ5 e5 em=>by
 cases em;obtain⟨e6,rfl⟩:=jb e4;refine⟨tg,F,ρ,d,ρ1,G,e1,λv H1 F1 G1 x1 r1=>?_⟩
 obtain⟨rfl,t0,a0,xs0,es0,hv,hh0,hl0⟩:=ag5 G1 e0;refine⟨_,hv,tg,F1,_,k,ρ2,G1,e2,λw H2 F2 G2 x2 r2=>?_⟩
 obtain⟨rfl,t,a1,xs,es1,hv',hh,hl⟩:=ag5 G2 e3;rw[hv] at hv';cases hv';cases ek:asI k with
 |none=>rw[ek] at e6;cases e6
 |some n=>
  rw[ek] at e6;obtain rfl:=apn ek;cases r2;obtain⟨G3,x3⟩:=am7 G2 e5 hv (hl.set (r1.mono x2.sub) j);exact⟨_,xs,n,j,rfl,rfl,hh,by rw[<-hl.length];exact e6,q _ _ F2 G3 ((x1.trans x2).trans x3)⟩
end
section
variable{K:Fg9}{X:Cx}{e a b c tgt iter elt:fP}{es:List fP}{pos p p2:Pos}{st:jG}{ss:List jG}
def _root_.Mn.ItOf.imp(Z:ItOf J xs S)(h:∀H,S' H->S H):ItOf J xs S':=⟨λi H q=>Z.go i H (h H q),λi H x H' q=>Z.yld i H x H' (h H q),λi H q=>Z.stop i H (h H q)⟩
def Alt(K:Fg9)(F:Hp)(d:D)(x:V)(H H':Hp):Prop:=(H'=H/\Is K F d x)∨∃q vs ds,H q=ZX/\x=.ref q/\H'=upd H q (.tup vs)/\d=.tup ds/\IsL K F ds vs
structure ItD (K:Fg9) (J:It) (l:List D) (F:Hp):Prop where
 go:∀i H,Same F H->i<l.length->J.go i H
 yld:∀i H x H' d,Same F H->J.yld i H x H'->l[i]? = ZY d->Alt K F d x H H'
 stop:∀H,Same F H->J.stop l.length H
def ItD.of(il:IsL K F l vs)(Z:ItOf J vs λH2=>Same F H2):ItD K J l F where
 go:=λi H s hi=>Z.go i H s (by rw[<-il.length];exact hi)
 yld:=λi H x H' d s y hd=>by
  obtain⟨v,hv,iv⟩:=il.get hd;obtain⟨e,z⟩:=Z.yld i H x H' s y;have:=z (aJ.mp hv).1;rw[hv] at this;cases this;exact .inl ⟨e,iv⟩
 stop:=λH s=>Z.stop _ H s (by rw[<-il.length];exact aL _)
def akm(G2:Good K tg F2 H2 ρ2 σ2)(x2:Ext O (Own ρ2 σ2) F H F2 H2)(s2:Same F1 F2)(a:Alt K F1 d x H2 H3) :
  ∃F3,Good K tg F3 H3 ρ2 σ2/\Ext O (Own ρ2 σ2) F H F3 H3/\Same F1 F3/\Is K F3 d x/\Ext (Own ρ2 σ2) (Own ρ2 σ2) F2 H2 F3 H3:=by
 rcases a with⟨rfl,id⟩ |⟨q,vs,ds,hq,rfl,rfl,rfl,il⟩
 ·exact⟨F2,G2,x2,s2,id.mono s2,Ext.refl _ _ _⟩
 ·have z:=G2.newX hq (.tup vs);exact⟨_,G2.new hq _,x2.trans z,s2.trans z.sub,.tup gw (il.mono (s2.trans z.sub)),z⟩
def aue{J:It}{l:List D}{F:Hp}(Z:ItD K J l F){g:TG}{tb:TS}{D':Ends}{σ:L2.St}{H:Hp}(Pv:Nat->L2.St->Hp->Prop)(h0:Pv 0 σ H)(hl:∀i σ H,i<=l.length->Pv i σ H->Same F H)
  (hs:∀i d x σ H H',l[i]? = ZY d->Pv i σ H->Alt K F d x H H'->g x σ H' λσ2 H2=>tb { D' with nx:=Pv (i+1),ct:=Pv (i+1),bk:=D'.nx } σ2 H2) (hd:∀σ H,Pv l.length σ H->D'.nx σ H) :
  ∃W:Nat->Nat->L2.St->Hp->Prop,(∃m,W 0 m σ H)/\∀i m σ H,W i m σ H ->
   (J.stop i H/\D'.nx σ H)∨(J.go i H/\∃N:L2.St->Hp->Prop,(∀σ' H',N σ' H'->∃m',m'<m/\W (i+1) m' σ' H')/\∀x H',J.yld i H x H'->g x σ H' λσ2 H2=>tb { D' with nx:=N,ct:=N,bk:=D'.nx } σ2 H2):=by
 refine⟨λi m σ H=>m=l.length-i/\i<=l.length/\Pv i σ H,⟨l.length,by simp,iB _,h0⟩,?_⟩
 rintro i m σ H ⟨rfl,hi,p⟩
 have q:=hl i σ H hi p
 by_cases hlt:i<l.length
 ·exact .inr ⟨Z.go i H q hlt,Pv (i+1),λσ' H' p'=>⟨l.length-(i+1),by omega,rfl,hlt,p'⟩,λx H' y=>hs i _ x σ H H' (aG hlt) p (Z.yld i H x H' _ q y (aG hlt))⟩
 ·have e:i=l.length:=by omega
  subst e;exact .inl ⟨Z.stop H q,hd σ H p⟩
def ax5(Z:ItD K J l F)(Pv:Nat->List V->L2.St->Hp->Prop)(h0:Pv 0 [] σ0 (upd H1 d (.lst [])))
  (hl:∀i ys σ H,i<=l.length->Pv i ys σ H->Same F H/\H d=ZY (.lst ys))
  (hs:∀i e x ys σ H H' (M:List V->L2.St->Hp->Prop),l[i]? = ZY e->Pv i ys σ H->Alt K F e x H H'->(∀ys' σ' H',Pv (i+1) ys' σ' H'->M ys' σ' H') ->
   g x σ H' λσ4 H4=>ti σ4 H4 λb H5=>if b=ZW then te σ4 H5 λy H6=>H6 d=ZY (.lst ys)/\ys.length<cU/\M (ys++[y]) σ4 (upd H6 d (.lst (ys++[y]))) else M ys σ4 H5)
  (hd:∀ys σ H,Pv l.length ys σ H->Q (.ref d) H):a7m J g ti te Q d σ0 H1:=by
 refine⟨λi m ys σ H=>m=l.length-i/\i<=l.length/\Pv i ys σ H,⟨l.length,by simp,iB _,h0⟩,?_⟩
 rintro i m ys σ H ⟨rfl,hi,p⟩
 obtain⟨q,e⟩:=hl i ys σ H hi p;refine⟨e,?_⟩
 by_cases hlt:i<l.length
 ·exact .inr ⟨Z.go i H q hlt,λx H' y=>hs i _ x ys σ H H' (λys' σ' H'=>∃m',m'<l.length-i/\(m'=l.length-(i+1)/\i+1<=l.length/\Pv (i+1) ys' σ' H')) (aG hlt) p (Z.yld i H x H' _ q y (aG hlt)) λys' σ' H' p'=>⟨l.length-(i+1),by omega,rfl,hlt,p'⟩⟩
 ·have e:i=l.length:=by omega
  subst e;exact .inl ⟨Z.stop H q,hd ys σ H p⟩
def TIt(K:Fg9)(m:M (List D)):TI:=λσ H R=>∃tg F ρ l ρ',Good K tg F H ρ σ/\m ρ=ZY (.ok l,ρ')/\∀J H' F',Good K tg F' H' ρ' σ->Ext (Own ρ σ) (Own ρ' σ) F H F' H'->ItD K J l F'->R J H'
structure IT (K:Fg9) (X:Cx) (tgt iter:fP) (m:M (List D)):Prop where
 go:X.K=K->PI X tgt iter (TIt K m)
instance {K:Fg9} {X:Cx} {tgt iter:fP} {m:M (List D)}:CoeFun (IT K X tgt iter m) λ_=>X.K=K->PI X tgt iter (TIt K m):=⟨IT.go⟩
def uw(m:M D):M (List D):=m.bind λd=>lift (itemsD d)
theorem ux(h:EV K X iter m):IT K X tgt iter (uw m):=IT.mk λhk=>by
 intro zv s σ H R I z9;obtain⟨tg,F,ρ,l,ρ',G,em,q⟩:=z9;obtain⟨d,ρ1,e1,em⟩:=bj em;obtain⟨e2,rfl⟩:=jb em;have h:=h hk;subst hk;cases d with
 |tup k=>
  cases e2;refine a4q h zv s σ H R I ⟨tg,F,ρ,_,_,G,e1,λv H' F' G' x r=>?_⟩
  cases r with
  | @tup a vs _ e hl=>exact⟨a,rfl,⟨vs,SqT.of (G'.sub _ _ e)⟩,q _ H' F' G' x (.of hl (axp.imp λH2 g=>SqT.of (g _ _ e)))⟩
 |lst k=>
  cases e2;refine asq h zv s σ H R I ⟨tg,F,ρ,_,_,G,e1,λv H' F' G' x r=>?_⟩
  cases r with
  | @lst a vs _ e hl=>exact⟨a,rfl,⟨vs,SqL.of (G'.sub _ _ e)⟩,q _ H' F' G' x (.of hl (aoy.imp λH2 g=>SqL.of (g _ _ e)))⟩
 |kst k=>
  cases e2;refine asq h zv s σ H R I ⟨tg,F,ρ,_,_,G,e1,λv H' F' G' x r=>?_⟩
  cases r with
  | @kst a vs _ e hl=>exact⟨a,rfl,⟨vs,L2.Same.seq G'.sub e⟩,q _ H' F' G' x (.of hl (aoy.imp λH2 g=>L2.Same.seq g e))⟩
 |_=>cases e2
def rangeD(lo:Int)(n:Nat):List D:=(aD n).map λi=>D.int (lo+(i:Nat))
def aji(lo:Int)(n:Nat):IsL K F (rangeD lo n) (ups lo n):=by
 have e1:rangeD lo n=((aD n).map λi=>lo+((i:Nat):Int)).map D.int:=by unfold rangeD;rw[dR];rfl
 have e2:ups lo n=((aD n).map λi=>lo+((i:Nat):Int)).map V.int:=by unfold ups;rw[dR];rfl
 rw[e1,e2];exact agm _
def aq3(h:j.natAbs<4611686018427387904) : -2 ^ 62<=j/\j<2 ^ 62:=by
 have e:(2:Int) ^ 62=4611686018427387904:=by decide
 rw[e];omega
def um:List D->Option (List D)
 | [.int j]=>if j.natAbs<4611686018427387904 then ZY (rangeD 0 j.toNat) else ZX
 |_=>ZX
def aj3:List D->Option (List D)
 | [.int i,.int j]=>if i.natAbs<4611686018427387904/\j.natAbs<4611686018427387904 then ZY (rangeD i (j-i).toNat) else ZX
 |_=>ZX
def mGet{α β:Type}(g:α->Option β)(m:M α):M β:=m.bind λds=>lift (g ds)
def ue(hg:Gl X "range")(hm:X.mg "range"=ZX)(h:ED K X [a] m)(hs:aQ [a] X.env=[(ZV,eval a X.env)]:=by rfl):IT K X tgt (.Call (.Name "range" p) [a] [] pos) (mGet um m):=IT.mk λhk=>by
 intro zv s σ H R I z9;obtain⟨tg,F,ρ,l,ρ',G,em,q⟩:=z9;obtain⟨ds,ρ1,e1,em⟩:=bj em;obtain⟨e2,rfl⟩:=jb em;refine asp hg hm (h hk) hs zv s σ H R I ⟨tg,F,ρ,ds,_,G,e1,λvs H' F' G' x r=>?_⟩
 unfold um at e2;split at e2
 ·split at e2
  ·rename_i j hc;cases e2;cases r with
   |cons h t=>
    cases t;cases h;exact⟨_,rfl,(aq3 hc).1,(aq3 hc).2,q _ H' F' G' x (.of (aji 0 _) (aox.imp λ_ _=>trivial))⟩
  ·cases e2
 ·cases e2
def atr(hg:Gl X "range")(hm:X.mg "range"=ZX)(h:ED K X [a,b] m)(hs:aQ [a,b] X.env=[(ZV,eval a X.env),(ZV,eval b X.env)]:=by rfl)(hs2:aQ [b] X.env=[(ZV,eval b X.env)]:=by rfl):IT K X tgt (.Call (.Name "range" p) [a,b] [] pos) (mGet aj3 m):=IT.mk λhk=>by
 intro zv s σ H R I z9;obtain⟨tg,F,ρ,l,ρ',G,em,q⟩:=z9;obtain⟨ds,ρ1,e1,em⟩:=bj em;obtain⟨e2,rfl⟩:=jb em;refine aso hg hm (h hk) hs hs2 zv s σ H R I ⟨tg,F,ρ,ds,_,G,e1,λvs H' F' G' x r=>?_⟩
 unfold aj3 at e2;split at e2
 ·split at e2
  ·rename_i i j hc;cases e2;cases r with
   |cons h t=>
    cases t with
    |cons h2 t=>
     cases t;cases h;cases h2;exact⟨_,_,rfl,⟨(aq3 hc.1).1,(aq3 hc.1).2,(aq3 hc.2).1,(aq3 hc.2).2⟩,q _ H' F' G' x (.of (aji _ _) (aox.imp λ_ _=>trivial))⟩
  ·cases e2
 ·cases e2
noncomputable def forD(b:D->Ro->Option Ro)(g:Sd):List D->Sd
 | [],ρ=>ZY (.nx,ρ)
 |d::ds,ρ=>match b d ρ with
  |none=>ZX
  |some ρ1=>match g ρ1 with
   |some (.nx,ρ2)=>forD b g ds ρ2
   |some (.cont,ρ2)=>forD b g ds ρ2
   |some (.brk,ρ2)=>ZY (.nx,ρ2)
   |some (.ret r,ρ2)=>ZY (.ret r,ρ2)
   |some (.exc x,ρ2)=>ZY (.exc x,ρ2)
   |none=>ZX
def dFor(m:M (List D))(b:D->Ro->Option Ro)(g:Sd):Sd:=dM m (forD b g)
def vf{m:M (List D)}{b:D->Ro->Option Ro}{g:Sd}(hp:uE 'D' X.A X.env X.xe)(hc:X.calm=ZW)(hi:IT K X tgt iter m)(hg:GV K X tgt b)(hb:SVs K X ss g)
  (hs:∀x,gC iter X.env x=pure x:=by intro _;rfl):SV K X (.For tgt iter ss [] pos) (dFor m b g):=SV.mk λhk=>PS.imp (ayp hp hc (hi hk) (hg hk) (hb hk) hs) λE σ H ⟨tg,F,ρ,fl,ρ',G,em,q⟩=>yz em q λl ρ1 e1 em=>by
 refine⟨tg,F,ρ,l,ρ1,G,e1,λJ H1 F1 G1 x1 Z=>?_⟩
 refine aue Z (λi σ2 H2=>∃F2 ρ2,Good K tg F2 H2 ρ2 σ2/\Ext (Own ρ σ) (Own ρ2 σ2) F H F2 H2/\Same F1 F2/\forD b g (l.drop i) ρ2=ZY (fl,ρ')) ⟨F1,ρ1,G1,x1,Same.refl _,em⟩ (λi σ2 H2 _ ⟨F2,ρ2,G2,_,s2,_⟩=>s2.trans G2.sub) ?_ ?_
 ·rintro i d x σ2 H2' H2 hd ⟨F2',ρ2,G2',x2',s2',em2⟩ al
  obtain⟨F2,G2,x2,s2,id,_⟩:=akm G2' x2' s2' al;have hlt:i<l.length:=(aJ.mp hd).1;have ed:l[i]=d:=(aJ.mp hd).2;rw[lU hlt,ed] at em2;unfold forD at em2;split at em2
  ·cases em2
  ·rename_i ρ3 e3;refine⟨tg,F2,ρ2,d,ρ3,G2,id,e3,λσ3 H3 F3 G3 x3=>?_⟩
   have again:∀{ρ4:Ro},forD b g (l.drop (i+1)) ρ4=ZY (fl,ρ')->∀σ' H' F',Good K tg F' H' ρ4 σ'->Ext (Own ρ3 σ3) (Own ρ4 σ') F3 H3 F' H' ->
     ∃F2 ρ2,Good K tg F2 H' ρ2 σ'/\Ext (Own ρ σ) (Own ρ2 σ') F H F2 H'/\Same F1 F2/\forD b g (l.drop (i+1)) ρ2=ZY (fl,ρ') :=
    λ{ρ4} e4 σ' H' F' G' x'=>⟨F',ρ4,G',(x2.trans x3).trans x',(s2.trans x3.sub).trans x'.sub,e4⟩
   split at em2
   ·rename_i ρ4 e4;exact⟨tg,F3,ρ3,.nx,ρ4,G3,e4,again em2⟩
   ·rename_i ρ4 e4;exact⟨tg,F3,ρ3,.cont,ρ4,G3,e4,again em2⟩
   ·rename_i ρ4 e4;cases em2;exact⟨tg,F3,ρ3,.brk,_,G3,e4,λσ' H' F' G' x'=>q σ' H' F' G' ((x2.trans x3).trans x')⟩
   ·rename_i r ρ4 e4;cases em2;exact⟨tg,F3,ρ3,.ret r,_,G3,e4,λv σ' H' F' G' x' rr=>q v σ' H' F' G' ((x2.trans x3).trans x') (qt (x2.trans x3) rr)⟩
   ·cases em2;exact(show False from q).elim
   ·cases em2
 ·rintro σ2 H2 ⟨F2,ρ2,G2,x2,s2,em2⟩
  rw[qC (aL _)] at em2;cases em2;exact q σ2 H2 F2 G2 x2
noncomputable def whileD(c:M Bool)(g:Sd):Nat->Sd
 | 0,_=>ZX
 |n+1,ρ=>match c ρ with
  |some (.ok ZW,ρ1)=>match g ρ1 with
   |some (.nx,ρ2)=>whileD c g n ρ2
   |some (.cont,ρ2)=>whileD c g n ρ2
   |some (.brk,ρ2)=>ZY (.nx,ρ2)
   |some (.ret r,ρ2)=>ZY (.ret r,ρ2)
   |some (.exc x,ρ2)=>ZY (.exc x,ρ2)
   |none=>ZX
  |some (.ok ZV,ρ1)=>ZY (.nx,ρ1)
  |some (.exc x,ρ1)=>ZY (.exc x,ρ1)
  |none=>ZX
theorem aea(n:Nat)(hp:uE 'D' X.A X.env X.xe)(hc:ET K X c m)(hb:SVs K X ss g):SV K X (.While c ss [] pos) (whileD m g n):=SV.mk λhk=>PS.imp (awm hp (hc hk) (hb hk)) λE σ H z9=>by
 obtain⟨tg,F,ρ,fl,ρ',G,em,q⟩:=z9;refine⟨λk σ2 H2=>∃F2 ρ2,Good K tg F2 H2 ρ2 σ2/\Ext (Own ρ σ) (Own ρ2 σ2) F H F2 H2/\whileD m g k ρ2=ZY (fl,ρ'),⟨n,F,ρ,G,Ext.refl _ _ _,em⟩,?_⟩
 rintro k σ2 H2 ⟨F2,ρ2,G2,x2,em2⟩
 cases k with
 |zero=>cases em2
 |succ k=>
  unfold whileD at em2;split at em2
  ·rename_i ρ3 e3;refine⟨tg,F2,ρ2,ZW,ρ3,G2,e3,λH3 F3 G3 x3=>iteT ?_⟩
   refine⟨λσ' H'=>∃F2 ρ2,Good K tg F2 H' ρ2 σ'/\Ext (Own ρ σ) (Own ρ2 σ') F H F2 H'/\whileD m g k ρ2=ZY (fl,ρ'),λσ' H' h=>⟨k,lX k,h⟩,?_⟩
   split at em2
   ·rename_i ρ4 e4;exact⟨tg,F3,ρ3,.nx,ρ4,G3,e4,λσ' H' F' G' x'=>⟨F',ρ4,G',(x2.trans x3).trans x',em2⟩⟩
   ·rename_i ρ4 e4;exact⟨tg,F3,ρ3,.cont,ρ4,G3,e4,λσ' H' F' G' x'=>⟨F',ρ4,G',(x2.trans x3).trans x',em2⟩⟩
   ·rename_i ρ4 e4;cases em2;exact⟨tg,F3,ρ3,.brk,_,G3,e4,λσ' H' F' G' x'=>q σ' H' F' G' ((x2.trans x3).trans x')⟩
   ·rename_i r ρ4 e4;cases em2;exact⟨tg,F3,ρ3,.ret r,_,G3,e4,λv σ' H' F' G' x' rr=>q v σ' H' F' G' ((x2.trans x3).trans x') (qt (x2.trans x3) rr)⟩
   ·cases em2;exact(show False from q).elim
   ·cases em2
  ·rename_i ρ3 e3;cases em2;exact⟨tg,F2,ρ2,ZV,_,G2,e3,λH3 F3 G3 x3=>iteF (q σ2 H3 F3 G3 (x2.trans x3))⟩
  ·cases em2;exact(show False from q).elim
  ·cases em2
end
def ajz(ρ:Ro)(i:Nat)(o:Option Nat)(d:Option D):Sl:=match o with
 |some j=>match ρ[j]? with
  |some (.val d)=>.val d
  |some (.own _ l)=>.own (ZY i) l
  |_=>.emp
 |none=>match d with
  |some d=>.val d
  |none=>.emp
def lend(ρ:Ro)(js:List 'G')(ds:List (Option D)):Ro:=(Av js ds).mapIdx λi p=>ajz ρ i p.1 p.2
noncomputable def okJs(ρ:Ro):List 'G'->Bool
 | []=>ZW
 |none::r=>okJs ρ r
 |some j::r=>(match ρ[j]? with
  |some (.own _ _) => !r.contains (ZY j)
  |_=>ZW)&&okJs ρ r
theorem aju:∀{js:List 'G'} {i i' j:Nat} {t:Option Nat} {l:List D},okJs ρ js=ZW->js[i]? = ZY (ZY j)->js[i']? = ZY (ZY j)->ρ[j]? = ZY (.own t l)->i=i'
 | [],_,_,_,_,_,_,h,_,_=>by simp at h
 |o::r,0,0,_,_,_,_,_,_,_=>rfl
 |o::r,0,i'+1,j,t,l,hk,h,h',e=>by
  simp at h h';subst h;unfold okJs at hk;rw[e,bC] at hk;have:=iV h';simp[this] at hk
 |o::r,i+1,0,j,t,l,hk,h,h',e=>by
  simp at h h';subst h';unfold okJs at hk;rw[e,bC] at hk;have:=iV h;simp[this] at hk
 |none::r,i+1,i'+1,j,t,l,hk,h,h',e=>by
  rw[aju (js:=r) (i:=i) (i':=i') (j:=j) (by unfold okJs at hk;exact hk) (by simpa using h) (by simpa using h') e]
 |some k::r,i+1,i'+1,j,t,l,hk,h,h',e=>by
  unfold okJs at hk;rw[bC] at hk;rw[aju (js:=r) (i:=i) (i':=i') (j:=j) hk.2 (by simpa using h) (by simpa using h') e]
def putS(js:List 'G')(ps:Ro)(j:Nat)(s:Sl):Sl:=match js.findIdx? (λo=>o==ZY j) with
 |none=>s
 |some i=>match s with
  |.own t _=>match ps[i]? with
   |some (.own (ZY i') l')=>if i'=i then .own t l' else .emp
   |_=>.emp
  |s=>s
def putB(ρ:Ro)(js:List 'G')(ps:Ro):Ro:=ρ.mapIdx λj s=>putS js ps j s
noncomputable def tgOf(τ:L2.St)(i:Nat):bB:=match τ[i]? with
 |some (ZY (.ref a))=>a
 |_=>0
section
variable{K:Fg9}{tg:Nat->bB}{F H F' H':Hp}{ρ ps:Ro}{σ τ:L2.St}{js:List 'G'}{ds:List (Option D)}{O':bB->Prop}
theorem aos(h:(lend ρ js ds:List Sl)[i]? = ZY s):∃o d,js[i]? = ZY o/\ds[i]? = ZY d/\s=ajz ρ i o d:=by
 unfold lend at h;rw[nJ] at h;cases e:(Av js ds)[i]? with
 |none=>rw[e] at h;cases h
 |some p=>
  rw[e] at h;cases h;rw[List.getElem?_zip_eq_some] at e;exact⟨p.1,p.2,e.1,e.2,rfl⟩
theorem axf{i:Nat}{t:Option Nat}{l:List D}(h:(lend ρ js ds:List Sl)[i]? = ZY (.own t l)):∃j t',js[i]? = ZY (ZY j)/\ρ[j]? = ZY (.own t' l)/\t=ZY i:=by
 obtain⟨o,d,e1,e2,e3⟩:=aos h;unfold ajz at e3;cases o with
 |none=>cases d <;> cases e3
 |some j=>
  simp only at e3;cases e:ρ[j]? with
  |none=>rw[e] at e3;cases e3
  |some s=>
   rw[e] at e3;cases s with
   |emp=>cases e3
   |val _=>cases e3
   |box _ _=>cases e3
   |lol _=>cases e3
   |lnk _=>cases e3
   |own t' l'=>cases e3;exact⟨j,t',e1,e,rfl⟩
structure Lent (K:Fg9) (F:Hp) (σ τ:L2.St) (js:List 'G') (ds:List (Option D)):Prop where
 l1:τ.length=js.length
 l2:ds.length=js.length
 h1:∀(i j:Nat) (o:Option V),js[i]? = ZY (ZY j)->σ[j]? = ZY o->τ[i]? = ZY o
 h2:∀(i:Nat) (d:D),js[i]? = ZY ZX->ds[i]? = ZY (ZY d)->∃v,τ[i]? = ZY (ZY v)/\Is K F d v
def Good.σ_at(G:Good K tg F H ρ σ){j:Nat}{s:Sl}(e:(ρ:List Sl)[j]? = ZY s):∃o,σ[j]? = ZY o:=by
 obtain⟨o,h,_⟩:=G.at e;exact⟨o,h⟩
def acy(G:Good K tg F H ρ σ)(L:Lent K F σ τ js ds){i:Nat}{a:bB}(h:Owns (lend ρ js ds) τ i a):∃j,js[i]? = ZY (ZY j)/\Owns ρ σ j a:=by
 obtain⟨⟨t,l,e⟩,q⟩:=h;obtain⟨j,t',e1,e2,_⟩:=axf e;obtain⟨o,ho⟩:=G.σ_at e2;have:=L.h1 i j o e1 ho;rw[q] at this;cases this;exact⟨j,e1,⟨t',l,e2⟩,ho⟩
def ach(G:Good K tg F H ρ σ)(hk:okJs ρ js=ZW)(L:Lent K F σ τ js ds):Good K (tgOf τ) F H (lend ρ js ds) τ where
 sub:=G.sub
 len:=by
  unfold lend;rw[xZ,List.length_zip,L.l2,L.l1];omega
 sl:=λi s o e q=>by
  obtain⟨oj,d,e1,e2,rfl⟩:=aos e;unfold ajz;cases oj with
  |none=>
   cases d with
   |none=>trivial
   |some d=>
    obtain⟨v,h1,h2⟩:=L.h2 i d e1 e2;rw[q] at h1;cases h1;exact⟨v,rfl,h2⟩
  |some j=>
   simp only;cases e3:ρ[j]? with
   |none=>trivial
   |some s=>
    obtain⟨o',ho,w⟩:=G.at e3;have:=L.h1 i j o' e1 ho;rw[q] at this;cases this;cases s with
    |emp=>trivial
    |val d=>exact w
    |box _ _=>trivial
    |lol _=>trivial
    |lnk _=>trivial
    |own t l=>
     obtain⟨a,vs,rfl,hf,hh,hl,_⟩:=w;refine⟨a,vs,rfl,hf,hh,hl,λk e=>?_⟩
     cases e;unfold tgOf;rw[q]
 inj:=λi i' a w w'=>by
  obtain⟨j,e,v⟩:=acy G L w;obtain⟨j',e',v'⟩:=acy G L w';have:=G.inj j j' a v v';subst this;obtain⟨⟨t,l,z⟩,_⟩:=v;exact aju hk e e' z
structure Fin (K:Fg9) (F' H':Hp) (τ:L2.St) (ps:Ro) (O':bB->Prop):Prop where
 at':∀(i:Nat) (l:List D),(ps:List Sl)[i]? = ZY (.own (ZY i) l)->O' (tgOf τ i)/\F' (tgOf τ i)=ZX/\∃vs,H' (tgOf τ i)=ZY (.lst vs)/\IsL K F' l vs
theorem ajj(h:(putB ρ js ps:List Sl)[j]? = ZY s):∃s0:Sl,(ρ:List Sl)[j]? = ZY s0/\((∃t l,s0=Sl.own t l/\∃i:Nat,js[i]? = ZY (ZY j)/\((∃l',(ps:List Sl)[i]? = ZY (Sl.own (ZY i) l')/\s=Sl.own t l')∨s=Sl.emp)) ∨
  (s=s0/\∀t l,s0=Sl.own t l->∀i:Nat,js[i]? ≠ ZY (ZY j))):=by
 unfold putB at h;rw[nJ] at h;cases e:(ρ:List Sl)[j]? with
 |none=>rw[e] at h;cases h
 |some s0=>
  rw[e] at h;refine⟨s0,rfl,?_⟩;have h:putS js ps j s0=s:=bJ h;unfold putS at h;cases ei:js.findIdx? (λo=>o==ZY j) with
  |none=>
   rw[ei] at h;have h:s0=s:=h;refine .inr ⟨h.symm,λ_ _ _ i z=>?_⟩
   rw[vC] at ei;have:=ei _ (iV z);simp at this
  |some i=>
   rw[ei] at h;cases s0 with
   |emp=>exact .inr ⟨(show Sl.emp=s from h).symm,λt l z=>by cases z⟩
   |val d=>exact .inr ⟨(show Sl.val d=s from h).symm,λt l z=>by cases z⟩
   |box c fs=>exact .inr ⟨(show Sl.box c fs=s from h).symm,λt l z=>by cases z⟩
   |lol ts=>exact .inr ⟨(show Sl.lol ts=s from h).symm,λt l z=>by cases z⟩
   |lnk k=>exact .inr ⟨(show Sl.lnk k=s from h).symm,λt l z=>by cases z⟩
   |own t l=>
    refine .inl ⟨t,l,rfl,i,?_,?_⟩
    ·obtain⟨hi,hb,_⟩:=mL.mp ei;rw[aG hi];exact congrArg ZY (eq_of_beq hb)
    ·have h:(match (ps:List Sl)[i]? with
      |some (.own (ZY i') l')=>if i'=i then Sl.own t l' else .emp
      |_=>.emp)=s:=h
     cases ep:(ps:List Sl)[i]? with
     |none=>rw[ep] at h;exact .inr h.symm
     |some sp=>
      rw[ep] at h;cases sp with
      |emp=>exact .inr h.symm
      |val _=>exact .inr h.symm
      |box _ _=>exact .inr h.symm
      |lol _=>exact .inr h.symm
      |lnk _=>exact .inr h.symm
      |own t' l'=>
       cases t' with
       |none=>exact .inr h.symm
       |some i'=>
        have h2:(if i'=i then Sl.own t l' else .emp)=s:=h
        by_cases z:i'=i
        ·subst z;rw[if_pos rfl] at h2;exact .inl ⟨l',rfl,h2.symm⟩
        ·rw[if_neg z] at h2;exact .inr h2.symm
def ae1(h:Owns (putB ρ js ps) σ j a):Owns ρ σ j a:=by
 obtain⟨⟨t,l,e⟩,q⟩:=h;obtain⟨s0,e0,h |⟨rfl,_⟩⟩:=ajj e
 ·obtain⟨t',l',rfl,i,_,⟨l2,_,z⟩ |z⟩:=h
  ·exact⟨⟨t',l',e0⟩,q⟩
  ·cases z
 ·exact⟨⟨t,l,e0⟩,q⟩
def ae2(G:Good K tg F H ρ σ)(L:Lent K F σ τ js ds)(x:Ext (Own (lend ρ js ds) τ) O' F H F' H')(s':Same F' H')(fin:Fin K F' H' τ ps O'):Good K tg F' H' (putB ρ js ps) σ where
 sub:=s'
 len:=by
  unfold putB;rw[xZ];exact G.len
 sl:=λj s o e q=>by
  obtain⟨s0,e0,h |⟨rfl,hn⟩⟩:=ajj e
  ·obtain⟨t,l,rfl,i,ei,⟨l',ep,rfl⟩ |rfl⟩:=h
   ·obtain⟨a,vs,rfl,hf,hh,hl,ht⟩:=G.sl j _ _ e0 q;obtain⟨_,hf',ws,hh',hl'⟩:=fin.at' i l' ep;have:=L.h1 i j _ ei q;have et:tgOf τ i=a:=by
     unfold tgOf;rw[this]
    rw[et] at hf' hh';exact⟨a,ws,rfl,hf',hh',hl',ht⟩
   ·trivial
  ·have w:=G.sl j _ _ e0 q;cases s with
   |emp=>trivial
   |val d=>
    obtain⟨v,h1,h2⟩:=w;exact⟨v,h1,h2.mono x.sub⟩
   |lol ts=>
    obtain⟨a,h1,h2⟩:=w;exact⟨a,h1,x.sub _ _ h2⟩
   |lnk k=>exact w
   |box c fs=>
    obtain⟨a,C,dx,fvs,e1,e2,e3,e4,e7,e5,e6⟩:=w;have no:¬Own (lend ρ js ds) τ a:=λ⟨i,z⟩=>by
     obtain⟨j',_,v⟩:=acy G L z;obtain⟨_,vs,hv⟩:=G.ownAt ⟨j',v⟩;rw[e3] at hv;cases hv
    have hf:F' a=ZX:=by
     cases z:F' a with
     |none=>rfl
     |some o=>
      rcases x.new a o z with z |z |z
      ·rw[e2] at z;cases z
      ·rw[e3] at z;cases z
      ·exact absurd z no
    exact⟨a,C,dx,fvs,e1,hf,x.keep a _ e3 no,e4,e7,e5,λf d h=>(e6 f d h).imp λv h=>⟨h.1,h.2.mono x.sub⟩⟩
   |own t l=>
    obtain⟨a,vs,rfl,hf,hh,hl,ht⟩:=w;have no:¬Own (lend ρ js ds) τ a:=λ⟨i,z⟩=>by
     obtain⟨j',e1,v⟩:=acy G L z;have:=G.inj j' j a v ⟨⟨t,l,e0⟩,q⟩;subst this;exact hn t l rfl i e1
    refine⟨a,vs,rfl,?_,x.keep a _ hh no,hl.mono x.sub,ht⟩;cases z:F' a with
    |none=>rfl
    |some o=>
     rcases x.new a o z with z |z |z
     ·rw[hf] at z;cases z
     ·rw[hh] at z;cases z
     ·exact absurd z no
 inj:=λi j a w w'=>G.inj i j a (ae1 w) (ae1 w')
def abk(G:Good K tg F H ρ σ)(L:Lent K F σ τ js ds)(h:Own (lend ρ js ds) τ a):Own ρ σ a:=by
 obtain⟨i,h⟩:=h;obtain⟨j,_,h⟩:=acy G L h;exact⟨j,h⟩
def ags(G:Good K tg F H ρ σ)(L:Lent K F σ τ js ds)(x:Ext (Own (lend ρ js ds) τ) O' F H F' H'):Ext (Own ρ σ) (Own (putB ρ js ps) σ) F H F' H' where
 sub:=x.sub
 new:=λa o e=>by
  rcases x.new a o e with z |z |z
  ·exact .inl z
  ·exact .inr (.inl z)
  ·exact .inr (.inr (abk G L z))
 keep:=λa o e n=>x.keep a o e λz=>n (abk G L z)
 own:=λa ⟨j,w⟩=>.inl ⟨j,ae1 w⟩
 there:=x.there
def avo(G:Good K tg F H ρ σ)(L:Lent K F σ τ js ds)(fin:Fin K F' H' τ ps O')(ha:H a=ZX∨Own (lend ρ js ds) τ a)(hn:¬O' a):¬Own (putB ρ js ps) σ a:=λ⟨j,w⟩=>by
 have v:=ae1 w;obtain⟨⟨t,l2,e⟩,q⟩:=w;obtain⟨s0,e0,z |⟨rfl,hno⟩⟩:=ajj e
 ·obtain⟨t',l',rfl,i,ei,⟨l3,ep,z⟩ |z⟩:=z
  ·have et:tgOf τ i=a:=by
    unfold tgOf;rw[L.h1 i j _ ei q]
   have:=(fin.at' i l3 ep).1;rw[et] at this;exact hn this
  ·cases z
 ·rcases ha with ha |⟨i,z⟩
  ·obtain⟨a',vs',ea,_,e2,_⟩:=G.sl j _ _ e0 q;cases ea;rw[ha] at e2;cases e2
  ·obtain⟨j',e1,v'⟩:=acy G L z;have:=G.inj j' j a v' v;subst this;exact hno t l2 rfl i e1
theorem apk(G:Good K tg F H ρ σ)(L:Lent K F σ τ js ds)(fin:Fin K F' H' τ ps O')(h:relR K r v H (Own (lend ρ js ds) τ) F' H' O'):relR K r v H (Own ρ σ) F' H' (Own (putB ρ js ps) σ):=by
 cases r with
 |v d=>exact h
 |fr l=>
  obtain⟨a,vs,rfl,ha,hf,hh,hl,hn⟩:=h;exact⟨a,vs,rfl,ha.imp id (abk G L),hf,hh,hl,avo G L fin ha hn⟩
 |tf d l=>
  obtain⟨t,u,a,vs,rfl,ht,hd,ha,hf,hh,hl,hn⟩:=h;exact⟨t,u,a,vs,rfl,ht,hd,ha.imp id (abk G L),hf,hh,hl,avo G L fin ha hn⟩
end
abbrev Fd:=Ro->Option (Out Rv×Ro)
noncomputable def fnD(nl np:Nat)(g:Sd):Fd:=λas=>match g (as++aK (nl-np) .emp) with
 |some (.ret r,ρ)=>ZY (.ok r,ρ.take np)
 |some (.nx,ρ)=>ZY (.ok (.v .non),ρ.take np)
 |some (.exc x,ρ)=>ZY (.exc x,ρ.take np)
 |_=>ZX
def spOf(K:Fg9)(n:Nat)(f:Fd):Sp:=λvs H Q _=>vs.length=n/\∃F as r ps,Good K (tgOf (vs.map ZY)) F H as (vs.map ZY)/\f as=ZY (.ok r,ps) /\
 ∀v H' F' O',Same F' H'->Ext (Own as (vs.map ZY)) O' F H F' H'->Fin K F' H' (vs.map ZY) ps O'->relR K r v H (Own as (vs.map ZY)) F' H' O'->Q v H'
section
variable{K:Fg9}
def a0z(hl:as.length=τ.length)(h:Own (as++aK n .emp) (τ++aK n ZX) a):Own as τ a:=by
 obtain⟨i,⟨t,l,e⟩,q⟩:=h
 by_cases hi:i<as.length
 ·rw[dO hi] at e;rw[dO (by omega)] at q
  exact⟨i,⟨t,l,e⟩,q⟩
 ·rw[lO (by omega),mK] at e
  split at e <;> cases e
def awy(hl:as.length=τ.length)(h:Own as τ a):Own (as++aK n .emp) (τ++aK n ZX) a:=by
 obtain⟨i,⟨t,l,e⟩,q⟩:=h;have hi:=(aJ.mp e).1;exact⟨i,⟨t,l,by rw[dO hi];exact e⟩,by rw[dO (by omega)];exact q⟩
def vp(hl:as.length=τ.length):Own (as++aK n .emp) (τ++aK n ZX)=Own as τ:=funext λa=>propext ⟨a0z hl,awy hl⟩
def Good.app(G:Good K tg F H as τ)(n:Nat):Good K tg F H (as++aK n .emp) (τ++aK n ZX) where
 sub:=G.sub
 len:=by rw[dB,dB,G.len,iI,iI]
 sl:=λi s o e q=>by
  have hl:=G.len
  by_cases hi:i<as.length
  ·rw[dO hi] at e;rw[dO (by omega)] at q
   exact G.sl i s o e q
  ·rw[lO (by omega),mK] at e
   split at e
   ·cases e;trivial
   ·cases e
 inj:=λi j a w w'=>by
  have hl:=G.len;have f:∀k,Owns (as++aK n .emp) (τ++aK n ZX) k a->Owns as τ k a:=λk ⟨⟨t,l,e⟩,q⟩=>by
   by_cases hi:k<as.length
   ·rw[dO hi] at e;rw[dO (by omega)] at q
    exact⟨⟨t,l,e⟩,q⟩
   ·rw[lO (by omega),mK] at e
    split at e <;> cases e
  exact G.inj i j a (f i w) (f j w')
def bae{P:cF}{w:dX}{mg:Str->Option aH}{base:iK}{x qual:Str}{st:jG}{f:bB}{fd:eU}{N ps:List Str}{k:Nat}{g:Sd}(F:Fun K x qual st f fd)(S:FnScope N ps (aq st))
  (body:∀(cdv:aH) (A:dG) (outer:List Env) (s:aN) (H:Hp) (E:XK),Room k (A.deeper (nU qual (aq st) s.heap.objs.size f cdv))->SVs K (cxOf CX0 P w K mg base N qual (aq st) f cdv A outer s H E).nox (jm st) g) :
  FnOk P w K mg base CX0 (k+1) f fd ps (spOf K ps.length (fnD N.length ps.length g)):=by
 refine F.ok S (λvs H Q E h=>h.1) (λcdv A outer s H vs Q E hr h=>⟨_,body cdv A outer s H E hr rfl,?_⟩)
 obtain⟨hn,F,as,r,ps',G,em,q⟩:=h;have hl:as.length=(vs.map ZY).length:=G.len;have G1:=G.app (N.length-vs.length);have es:start N vs=vs.map ZY++aK (N.length-vs.length) ZX:=rfl;rw[es];unfold fnD at em;rw[<-hn] at em;have fin:∀{ρ':Ro} {σ':L2.St} {F' H':Hp},Good K (tgOf (vs.map ZY)) F' H' ρ' σ'->Fin K F' H' (vs.map ZY) (ρ'.take vs.length) (Own ρ' σ'):=λ{ρ' σ' F' H'} G'=>⟨λi l e=>by
  have hi:=(aJ.mp e).1;rw[eQ] at hi;rw[jY (by omega)] at e
  obtain⟨o,ho,a,ws,rfl,hf,hh,hl,ht⟩:=G'.at e;rw[ht i rfl];exact⟨⟨i,⟨_,_,e⟩,ho⟩,hf,ws,hh,hl⟩⟩
 split at em
 ·rename_i r' ρ' e;cases em;refine⟨_,F,_,.ret r,ρ',G1,e,λv σ' H' F' G' x' rr=>?_⟩
  rw[vp hl] at x' rr;exact q v H' F' (Own ρ' σ') G'.sub x' (fin G') rr
 ·rename_i ρ' e;cases em;refine⟨_,F,_,.nx,ρ',G1,e,λσ' H' F' G' x'=>?_⟩
  rw[vp hl] at x';exact q .non H' F' (Own ρ' σ') G'.sub x' (fin G') .non
 ·cases em
 ·cases em
end
section
variable{K:Fg9}{X:Cx}{e a b c tgt iter elt:fP}{es:List fP}{pos p p2:Pos}
inductive AR (K:Fg9) (F:Hp) (σ:L2.St):List 'G'->List (Option D)->List V->Prop
 |nil:AR K F σ [] [] []
 |ex {d:D} {v:V} {js:List 'G'} {ds:List (Option D)} {vs:List V} (h:Is K F d v) (t:AR K F σ js ds vs):AR K F σ (ZX::js) (ZY d::ds) (v::vs)
 |nm {j:Nat} {v:V} {js:List 'G'} {ds:List (Option D)} {vs:List V} (h:σ[j]? = ZY (ZY v)) (t:AR K F σ js ds vs):AR K F σ (ZY j::js) (ZX::ds) (v::vs)
theorem AR.lent:∀{js:List 'G'} {ds:List (Option D)} {vs:List V},AR K F σ js ds vs->Lent K F σ (vs.map ZY) js ds
 |_,_,_,.nil=>⟨rfl,rfl,λi j o h=>by simp at h,λi d h=>by simp at h⟩
 |_,_,_,.ex h t=>by
  have L:=t.lent;refine⟨by simp[by simpa using L.l1],by simp[L.l2],λi j o h q=>?_,λi d h q=>?_⟩
  ·cases i with
   |zero=>simp at h
   |succ i=>simpa using L.h1 i j o (by simpa using h) q
  ·cases i with
   |zero=>simp at q;subst q;exact⟨_,rfl,‹_›⟩
   |succ i=>simpa using L.h2 i d (by simpa using h) (by simpa using q)
 |_,_,_,.nm h t=>by
  have L:=t.lent;refine⟨by simp[by simpa using L.l1],by simp[L.l2],λi j o h' q=>?_,λi d h' q=>?_⟩
  ·cases i with
   |zero=>
    simp at h';subst h';rw[h] at q;cases q;rfl
   |succ i=>simpa using L.h1 i j o (by simpa using h') q
  ·cases i with
   |zero=>simp at h'
   |succ i=>simpa using L.h2 i d (by simpa using h') (by simpa using q)
def AR.length(h:AR K F σ js ds vs):vs.length=js.length:=by
 have:=h.lent.l1
 simpa using this
def TAg(K:Fg9)(js:List 'G')(m:M (List (Option D))):TA:=λσ H Q=>∃tg F ρ ds ρ',Good K tg F H ρ σ/\m ρ=ZY (.ok ds,ρ')/\∀vs H' F',Good K tg F' H' ρ' σ->Ext (Own ρ σ) (Own ρ' σ) F H F' H'->AR K F' σ js ds vs->Q vs H'
structure EG (K:Fg9) (X:Cx) (es:List fP) (js:List 'G') (m:M (List (Option D))):Prop where
 go:X.K=K->PA X es (TAg K js m)
instance {K:Fg9} {X:Cx} {es:List fP} {js:List 'G'} {m:M (List (Option D))}:CoeFun (EG K X es js m) λ_=>X.K=K->PA X es (TAg K js m):=⟨EG.go⟩
def gj:M (List (Option D)):=ret []
def bc(m:M D)(ms:M (List (Option D))):M (List (Option D)):=m.bind λd=>ms.bind λds=>ret (ZY d::ds)
def fj(j:Nat)(ms:M (List (Option D))):M (List (Option D)):=(dw j).bind λ_=>ms.bind λds=>ret (ZX::ds)
def bh:EG K X [] [] gj:=EG.mk λ_=>PA.imp acf λσ H Q z9=>by
 obtain⟨tg,F,ρ,ds,ρ',G,em,q⟩:=z9;obtain⟨rfl,rfl⟩:=lr em;exact q [] H F G (Ext.refl _ _ _) .nil
def eg_v(h:EV K X e m)(t:EG K X es js ms)(hs:Zc X e es:=by rfl):EG K X (e::es) (ZX::js) (bc m ms):=EG.mk λhk=>PA.imp (uc (h hk) (t hk) hs) λσ H Q z9=>by
 obtain⟨tg,F,ρ,ds,ρ',G,em,q⟩:=z9;obtain⟨d,ρ1,e1,em⟩:=bj em;obtain⟨r,ρ2,e2,em⟩:=bj em;obtain⟨rfl,rfl⟩:=lr em;exact⟨tg,F,ρ,d,ρ1,G,e1,λv H1 F1 G1 x1 r1=>⟨tg,F1,ρ1,r,_,G1,e2,λvs H2 F2 G2 x2 r2=>q _ H2 F2 G2 (x1.trans x2) (.ex (r1.mono x2.sub) r2)⟩⟩
def eg_n(h:PE X e (tVar j))(t:EG K X es js ms)(hs:Zc X e es:=by rfl):EG K X (e::es) (ZY j::js) (fj j ms):=EG.mk λhk=>PA.imp (uc h (t hk) hs) λσ H Q z9=>by
 obtain⟨tg,F,ρ,ds,ρ',G,em,q⟩:=z9;obtain⟨d0,ρ0,e0,em⟩:=bj em;obtain⟨r,ρ2,e2,em⟩:=bj em;obtain⟨rfl,rfl⟩:=lr em;obtain⟨rfl,v,hv,_⟩:=uv G e0;exact⟨v,hv,tg,F,ρ0,r,_,G,e2,λvs H2 F2 G2 x2 r2=>q _ H2 F2 G2 x2 (.nm hv r2)⟩
noncomputable def mFn(f:Fd)(js:List 'G')(ms:M (List (Option D))):M Rv:=ms.bind λds ρ=>if okJs ρ js=ZW then match f (lend ρ js ds) with
  |some (.ok r,ps)=>ZY (.ok r,putB ρ js ps)
  |some (.exc x,ps)=>ZY (.exc x,putB ρ js ps)
  |none=>ZX
 else ZX
def ayu(h:mFn f js ms ρ=ZY (.ok r,ρ')):∃ds ρ1 ps,ms ρ=ZY (.ok ds,ρ1)/\okJs ρ1 js=ZW/\f (lend ρ1 js ds)=ZY (.ok r,ps)/\ρ'=putB ρ1 js ps:=by
 obtain⟨ds,ρ1,e1,em⟩:=bj h;have em:(if okJs ρ1 js=ZW then match f (lend ρ1 js ds) with
  |some (.ok r,ps)=>ZY (Out.ok r,putB ρ1 js ps)
  |some (.exc x,ps)=>ZY (.exc x,putB ρ1 js ps)
  |none=>ZX
  else ZX)=ZY (.ok r,ρ'):=em
 split at em
 ·rename_i hk;split at em
  ·rename_i r' ps e2;cases em;exact⟨ds,ρ1,ps,e1,hk,e2,rfl⟩
  ·cases em
  ·cases em
 ·cases em
def gf(F:Dfn X.prog X.w X.K X.mg X.base x pn k (spOf K n f))(hr:Room k X.A)(hg:Gl X x)(ha:EG K X (e::es) js ms)(hn:js.length=n:=by rfl)(hdb:Zb x:=by decide)
  (he:Zc X e es:=by rfl) (hpl:(kI pos (aQ es X.env)).any (·.1)=ZV:=by rfl):ER K X (.Call (.Name x p) (e::es) [] pos) (mFn f js ms):=ER.mk λhk=>PE.imp (a88 F hr hg (ha hk) hdb he hpl) λσ H Q z9=>by
 obtain⟨tg,F,ρ,r,ρ',G,em,q⟩:=z9;obtain⟨ds,ρ1,ps,e1,hj,e2,rfl⟩:=ayu em;refine⟨tg,F,ρ,ds,ρ1,G,e1,λvs H1 F1 G1 x1 ar=>?_⟩
 have L:=ar.lent;show spOf K n f (vs++[]) H1 Q E0;rw[iJ];refine⟨by rw[ar.length];exact hn,F1,_,r,ps,ach G1 hj L,e2,λv H' F' O' s' x' fin rr=>?_⟩
 exact q v H' F' (ae2 G1 L x' s' fin) (x1.trans (ags G1 L x')) (qt x1 (apk G1 L fin rr))
def Za(F:Dfn X.prog X.w X.K X.mg X.base x pn k (spOf K n f))(hr:Room k' X.A)(ha:EG K X (e::es) js ms)(hk:k<=k':=by decide)(hg:Gl X x:=by rfl)(hn:js.length=n:=by rfl)(hdb:Zb x:=by decide)(he:Zc X e es:=by rfl) (hpl:(kI pos (aQ es X.env)).any (·.1)=ZV:=by rfl):ER K X (.Call (.Name x p) (e::es) [] pos) (mFn f js ms):=gf F (hr.mono hk) hg ha hn hdb he hpl
structure EIf (K:Fg9) (X:Cx) (ifs:List fP) (m:M Bool):Prop where
 go:X.K=K->PIf X ifs (TB K m)
instance {K:Fg9} {X:Cx} {ifs:List fP} {m:M Bool}:CoeFun (EIf K X ifs m) λ_=>X.K=K->PIf X ifs (TB K m):=⟨EIf.go⟩
def qd:EIf K X [] (ret ZW):=EIf.mk λ_ zv s σ H Q I z9=>by
 obtain⟨tg,F,ρ,k,ρ',G,em,q⟩:=z9;obtain⟨rfl,rfl⟩:=lr em;exact a0n zv s σ H Q I (q H F G (Ext.refl _ _ _))
def akd(h:ET K X c m):EIf K X [c] m:=EIf.mk λhk=>a0m (h hk)
noncomputable def compD(b:D->Ro->Option Ro)(mc:M Bool)(me:M D):List D->List D->M (List D)
 | [],ys=>ret ys
 |d::ds,ys=>λρ=>match b d ρ with
  |none=>ZX
  |some ρ1=>(mc.bind λk=>if k=ZW then me.bind λy=>compD b mc me ds (ys++[y]) else compD b mc me ds ys) ρ1
theorem ahx{b:D->Ro->Option Ro}{mc:M Bool}{me:M D}:∀{l ys yf:List D} {ρ ρ':Ro},compD b mc me l ys ρ=ZY (.ok yf,ρ')->ys.length<=yf.length
 | [],ys,yf,ρ,ρ',h=>by
  obtain⟨rfl,_⟩:=lr (show ret ys ρ=_ from h)
  exact aL _
 |d::ds,ys,yf,ρ,ρ',h=>by
  unfold compD at h;split at h
  ·cases h
  ·obtain⟨k,ρ2,e2,h⟩:=bj h;split at h
   ·obtain⟨y,ρ3,e3,h⟩:=bj h;have:=ahx h;rw[dB] at this;omega
   ·exact ahx h
def sr(src:List 'G')(mi:M (List D))(b:D->Ro->Option Ro)(mc:M Bool)(me:M D):M Rv:=mi.bind λl ρ=>if okJs ρ src=ZW then match compD b mc me l [] (lend ρ src (src.map λ_=>ZX)) with
  |some (.ok ys,ps)=>if ys.length<=capS then ZY (.ok (.fr ys),putB ρ src ps) else ZX
  |some (.exc x,ps)=>ZY (.exc x,putB ρ src ps)
  |none=>ZX
 else ZX
def aoq{src:List 'G'}{mi:M (List D)}{b:D->Ro->Option Ro}{mc:M Bool}{me:M D}{ρ ρ':Ro}{r:Rv}(h:sr src mi b mc me ρ=ZY (.ok r,ρ')):∃l ρ1 ys ps,mi ρ=ZY (.ok l,ρ1)/\okJs ρ1 src=ZW/\compD b mc me l [] (lend ρ1 src (src.map λ_=>ZX))=ZY (.ok ys,ps)/\ys.length<=capS/\r=.fr ys/\ρ'=putB ρ1 src ps:=by
 obtain⟨l,ρ1,e1,em⟩:=bj h;have em:(if okJs ρ1 src=ZW then match compD b mc me l [] (lend ρ1 src (src.map λ_=>ZX)) with
  |some (.ok ys,ps)=>if ys.length<=capS then ZY (Out.ok (Rv.fr ys),putB ρ1 src ps) else ZX
  |some (.exc x,ps)=>ZY (.exc x,putB ρ1 src ps)
  |none=>ZX
  else ZX)=ZY (.ok r,ρ'):=em
 split at em
 ·rename_i hk;split at em
  ·rename_i ys ps e2;split at em
   ·rename_i hz;cases em;exact⟨l,ρ1,ys,ps,e1,hk,e2,hz,rfl,rfl⟩
   ·cases em
  ·cases em
  ·cases em
 ·cases em
def asm(src:List 'G'):Lent K F σ (pick src σ) src (src.map λ_=>ZX):=by
 refine⟨by simp[pick],by simp,λi j o h q=>?_,λi d h q=>?_⟩
 ·unfold pick;rw[aV,h];show ZY ((σ[j]?).bind id)=ZY o;rw[q];rfl
 ·rw[aV,h] at q;cases q
def Ext.upd(x:Ext O O' F H F' H')(h:H d=ZX):Ext O O' F H F' (upd H' d o) :=
 ⟨x.sub,x.new,λa u e n=>by rw[cg (gr e h)];exact x.keep a u e n,x.own,λa e=>by
  by_cases ha:a=d
  ·subst ha;exact h
  ·rw[cg ha] at e;exact x.there a e⟩
def Good.upd(G:Good K tg F H ρ σ)(hf:F d=ZX)(hn:¬Own ρ σ d)(o:HO)(hi:∀C dx fs,H d≠ZY (.ins C dx fs)):Good K tg F (upd H d o) ρ σ :=
 G.grow (Same.refl F) (λb u e=>by
  have hb:b≠d:=λz=>by
   subst z;rw[hf] at e;cases e
  rw[cg hb];exact G.sub b u e) (λa w=>⟨(G.ownAt w).1,by
  have hb:a≠d:=λz=>hn (z▸w)
  rw[cg hb]⟩) λa C dx fvs h1 h2=>⟨h1,by
  have hb:a≠d:=λz=>hi C dx fvs (z▸h2)
  rw[cg hb]⟩
def agq(σ:L2.St)(H:Hp)(Q:VK)(t:T K (relR K) (sr src mi bb mc me) σ H Q):awe (TIt K mi) (TGd K bb) (TB K mc) (T K (relD K) me) src σ H Q:=by
 obtain⟨tg,F,ρ,r,ρ',G,em,q⟩:=t;obtain⟨l,ρ1,yf,ps,e1,hj,e2,hz,rfl,rfl⟩:=aoq em;refine⟨tg,F,ρ,l,ρ1,G,e1,λJ H1 F1 G1 x1 Z dd hd=>?_⟩
 have L:Lent K F1 σ (pick src σ) src (src.map λ_=>ZX):=asm src
 have Gl:=ach G1 hj L;have own0:¬Own (lend ρ1 src (src.map λ_=>ZX)) (pick src σ) dd:=λz=>Gl.own_ne hd z rfl
 refine ax5 Z (λi ys σc Hc=>∃Fc ρc yd,Good K (tgOf (pick src σ)) Fc Hc ρc σc/\Ext (Own (lend ρ1 src (src.map λ_=>ZX)) (pick src σ)) (Own ρc σc) F1 H1 Fc Hc/\Fc dd=ZX/\¬Own ρc σc dd/\Hc dd=ZY (.lst ys)/\IsL K Fc yd ys/\compD bb mc me (l.drop i) yd ρc=ZY (.ok yf,ps))
  ⟨F1,_,[],Gl.upd (G1.freeF hd) own0 _ (λ_ _ _ z=>by rw[hd] at z;cases z),(Ext.refl _ _ _).upd hd,G1.freeF hd,own0,gw,.nil,e2⟩ ?_ ?_ ?_
 ·rintro i ys σc Hc _ ⟨Fc,ρc,yd,Gc,xc,_,_,hdd,_,_⟩
  exact⟨xc.sub.trans Gc.sub,hdd⟩
 ·rintro i d x ys σc Hc0 Hc M hdl ⟨Fc0,ρc,yd,Gc0,xc0,fd0,od0,hdd0,iy0,ec⟩ al hM
  obtain⟨Fc,Gc,xc,_,idl,xa⟩:=akm Gc0 xc0 xc0.sub al;have iy:=iy0.mono xa.sub;have hlt:i<l.length:=(aJ.mp hdl).1;have edl:l[i]=d:=(aJ.mp hdl).2;rw[lU hlt,edl] at ec;unfold compD at ec;have step:∀{F2 H2:Hp} {ρ2 ρ3:Ro} {σ2 σ3:L2.St} {F3 H3:Hp},F2 dd=ZX->¬Own ρ2 σ2 dd->H2 dd=ZY (.lst ys)->Ext (Own ρ2 σ2) (Own ρ3 σ3) F2 H2 F3 H3->F3 dd=ZX/\¬Own ρ3 σ3 dd/\H3 dd=ZY (.lst ys):=λ{F2 H2 ρ2 ρ3 σ2 σ3 F3 H3} h1 h2 h3 x3=>by
   refine⟨?_,λz=>?_,x3.keep _ _ h3 h2⟩
   ·cases z:F3 dd with
    |none=>rfl
    |some o=>
     rcases x3.new _ _ z with z |z |z
     ·rw[h1] at z;cases z
     ·rw[h3] at z;cases z
     ·exact absurd z h2
   ·rcases x3.own _ z with z |z
    ·exact h2 z
    ·rw[h3] at z;cases z
  obtain⟨fd,od,hdd⟩:=step fd0 od0 hdd0 xa;split at ec
  ·cases ec
  ·rename_i ρ2 eb;refine⟨_,Fc,ρc,d,ρ2,Gc,idl,eb,λσ2 H2 F2 G2 x2=>?_⟩
   obtain⟨k,ρ3,ek,ec⟩:=bj ec;obtain⟨fd2,od2,hdd2⟩:=step fd od hdd x2;refine⟨_,F2,ρ2,k,ρ3,G2,ek,λH3 F3 G3 x3=>?_⟩
   obtain⟨fd3,od3,hdd3⟩:=step fd2 od2 hdd2 x3;cases k with
   |false=>
    refine iteF (hM _ _ _ ⟨F3,ρ3,yd,G3,(xc.trans x2).trans x3,fd3,od3,hdd3,(iy.mono x2.sub).mono x3.sub,ec⟩)
   |true=>
    obtain⟨y,ρ4,ey,ec⟩:=bj ec;refine iteT ⟨_,F3,ρ3,y,ρ4,G3,ey,λv H4 F4 G4 x4 iv=>?_⟩
    obtain⟨fd4,od4,hdd4⟩:=step fd3 od3 hdd3 x4;refine⟨hdd4,?_,hM _ _ _ ⟨F4,ρ4,yd++[y],G4.upd fd4 od4 _ (λ_ _ _ z=>by rw[hdd4] at z;cases z),(((xc.trans x2).trans x3).trans x4).upd hd,fd4,od4,gw,?_,ec⟩⟩
    ·have:=ahx ec;rw[dB,iy.length] at this;rw[jR];exact bN (by simpa using lX ys.length) (bV this hz)
    ·exact(((iy.mono x2.sub).mono x3.sub).mono x4.sub).append (.cons iv .nil)
 ·rintro ys σc Hc ⟨Fc,ρc,yd,Gc,xc,fd,od,hdd,iy,ec⟩
  rw[qC (aL _)] at ec;obtain⟨rfl,rfl⟩:=lr (show ret yd ρc=_ from ec)
  have fin:Fin K Fc Hc (pick src σ) ps (Own ps σc):=⟨λi l' e=>by
   obtain⟨o,ho,a,ws,rfl,hf,hh,hl,ht⟩:=Gc.at e;rw[ht i rfl];exact⟨⟨i,⟨_,_,e⟩,ho⟩,hf,ws,hh,hl⟩⟩
  refine q _ Hc Fc (ae2 G1 L xc Gc.sub fin) (x1.trans (ags G1 L xc)) ⟨dd,ys,rfl,.inl (x1.there dd hd),fd,hdd,iy,λ⟨j,w⟩=>?_⟩
  exact G1.own_ne hd ⟨j,ae1 w⟩ rfl
def uz(fr N:List Str)(src:List 'G')(hc:X.calm=ZW)(hi:IT K X tgt iter mi)
  (hg:∀fp s H,GV K (cxC X N scope fr fp s H) tgt bb) (ht:∀fp s H,EIf K (cxC X N scope fr fp s H) ifs mc) (he:∀fp s H,EV K (cxC X N scope fr fp s H) elt me)
  (hok:af8 X.env X.N scope fr N src=ZW:=by rfl) (hkind:scope.kind=.function:=by rfl) (hclos:mV scope X.env=pure (lq X.env fr):=by rfl)
  (hs:∀x,gC iter X.env x=pure x:=by intro _;rfl):ER K X (.ListComp elt [⟨tgt,iter,ifs,0⟩] scope pos) (sr src mi bb mc me):=ER.mk λhk=>by
 have hkc:∀fp s H,(cxC X N scope fr fp s H).K=K:=λ_ _ _=>hk
 refine PE.imp (a0u fr N src hc (hi hk) (λfp s H=>(hg fp s H).go (hkc _ _ _)) (λfp s H=>(ht fp s H).go (hkc _ _ _)) (λfp s H=>(he fp s H).go (hkc _ _ _)) hok hkind hclos hs) agq
end
end Dn
namespace Mn
open L2
def asj(fr N:List Str)(src:List 'G')(hN:X.N.Nodup)(hxi:X.N[i]? = ZY x)(hx:Loc X.env.scope x)(hc:X.calm=ZW)(hi:PI X tg iter wi)
  (hg:∀fp s H,PG (cxC X N scope fr fp s H) tg g) (ht:∀fp s H,PIf (cxC X N scope fr fp s H) ifs ti) (he:∀fp s H,PE (cxC X N scope fr fp s H) elt te)
  (hsw:mF (.ListComp elt [⟨tg,iter,ifs,0⟩] scope cpos) (ZY (.Name x px)) pos.line X.env=pure ZW:=by rfl)
  (hok:af8 X.env X.N scope fr N src=ZW:=by rfl) (hkind:scope.kind=.function:=by rfl) (hclos:mV scope X.env=pure (lq X.env fr):=by rfl)
  (hs:∀x,gC iter X.env x=pure x:=by intro _;rfl) (hf:X.fn x=ZW∨X.env.scope.names.lookup x=ZY .local:=by first |exact .inl rfl |exact .inr rfl |assumption) :
  PS X (.Assign [.Name x px] (.ListComp elt [⟨tg,iter,ifs,0⟩] scope cpos) pos) (tAsg (awe wi g ti te src) (a1r i)):=by
 have C:=CompOk.of hok;intro zv s σ H D I h;rw[exec_Assign_Name_used _ _ _ _ hsw];refine aA (lJ (aA ?_));show bD _ _ (comprehension (.ListComp elt [⟨tg,iter,ifs,0⟩] scope cpos) scope X.env (firstIterPos [⟨tg,iter,ifs,0⟩] cpos) (newList []) (firstAsync [⟨tg,iter,ifs,0⟩]) (firstIter [⟨tg,iter,ifs,0⟩] X.env) (ZY (rF (.Name x px) X.env)) >>= λ_=>pure ()) _ _ _
 refine aA (wpAny_comprehension_free (use:=ZY (rF (.Name x px) X.env)) (Q:=λ_ s'=>bD 'D' X.A (pure ()) (λ_ s''=>bD 'D' X.A (pure Flow.next) (SP X zv D) X.xe s'') X.xe s') rfl hs hclos hkind C.loc (aZ (hi zv s σ H _ I h) (λv s1 h1=>aZ h1 (λitv s2 h2=>?_) λ_ _ e=>e) λ_ _ e=>e))
 obtain⟨it,fp,tn,J,H2,e,I2,T,st2,f2,q2⟩:=h2;subst e;have hd0:H2 s2.heap.objs.size=ZX:=I2.hok.fresh (aL _);obtain⟨W,⟨m0,w0⟩,turn⟩:=q2 s2.heap.objs.size hd0;refine cA ?_;generalize hs3:({ s2 with heap:=s2.heap.push { cls:=.type "list", dict:=ZX,data:=.seq ([]:List aH).toArray } }:aN)=s3
 have keep2:∀b o,s2.heap.get? b=ZY o->s3.heap.get? b=ZY o:=λb o e=>by rw[<-hs3];exact aB _ e
 have I3:Inv X zv σ (upd H2 s2.heap.objs.size (.lst [])) s3:=by
  rw[<-hs3];exact I2.laid (t':=s2.toks) (λb u q=>aB _ q) (aL _) ⟨Nat.zero_le _,[],0,.nil,aM _ rfl⟩
 have ne0:∀b∈fp,b≠s2.heap.objs.size:=λb hb=>by
  obtain⟨o,e,_⟩:=T.obj _ _ st2 b hb;exact bI (aO e)
 have f3:∀b∈fp,FpOk X zv (upd H2 s2.heap.objs.size (.lst [])) b:=λb hb=>⟨by rw[cg (ne0 b hb)];exact(f2 b hb).1,(f2 b hb).2⟩
 have lt3:∀b∈fp,b<s3.heap.objs.size:=λb hb=>by
  obtain⟨o,e,_⟩:=T.obj _ _ st2 b hb;exact aO (keep2 b o e)
 refine wpAny_newFunctionEnv C.cell (by intro y hy;simp at hy) (λh₁ hns₁ hsb₁=>?_) hkind
 have keep3:∀b o,s3.heap.get? b=ZY o->h₁.get? b=ZY o:=λb o e=>hsb₁.extBut b o (bI (aO e)) (aB _ e)
 have st4:tn 0 h₁:=T.keep _ _ _ st2 λb hb o e=>keep3 b o (keep2 b o e)
 have I4:=ao0 (tk:=s3.toks+([]:List (Str×Value)).length) I3 C hkind f3 lt3 hns₁ keep3;have loop:=ahw (X:=cxC X N scope fr fp s3 (upd H2 s2.heap.objs.size (.lst []))) (iter:=iter) (scope:=scope) (pos:=cpos) (d:=s2.heap.objs.size) (Q:=λv H1=>D.nx (σ.set i (ZY v)) H1)
  (R:=compPost 'D' X.A X.xe (ZY (rF (.Name x px) X.env)) (λ_ s'=>bD 'D' X.A (pure ()) (λ_ s''=>bD 'D' X.A (pure Flow.next) (SP X zv D) X.xe s'') X.xe s') (.ref s2.heap.objs.size) s3.heap.objs.size) hc rfl T
  (λH' hn b hb=>⟨hn b hb,bI (lt3 b hb),I4.ok.exfs b hb,.inl hb,(I4.ok.exf b hb).2,λp hp=>absurd (show p∈([]:List (bB×Obj)) from hp) (by simp)⟩)
  (hg fp s3 _) (ht fp s3 _) (he fp s3 _) turn w0 I4 st4 (λb hb=>(f3 b hb).1) (λσ' H' s' I6 qn=>by
   obtain⟨m6,hn6,_⟩:=I6.loc;have fC:FpOk X zv H' s3.heap.objs.size:=I3.fpOk (aL _) I6.free;have I7:Inv X zv σ H' s':=ao1 I3 f3 I6 (yU ..);refine wpAny_assign_Name (aks I7 hN hxi hx (v:=.ref s2.heap.objs.size) rfl (λs8 I8 ⟨a,sb,ha⟩=>?_) hf)
   have hne:s3.heap.objs.size≠a:=by
    rcases ha with rfl |ha
    ·exact fC.2.1
    ·exact(fC.2.2.2.2.1 x a ha).symm
   obtain⟨o6,es6,ep6,g6,r6⟩:=hn6;refine⟨m6,⟨o6,es6,ep6,(sb.2 _ hne).trans g6,r6⟩,λh9 sb9=>aF (aF ⟨_,H',?_,qn⟩)⟩
   exact I8.turned (t':=s8.toks) (it:=s3.heap.objs.size) (λb o hb e=>(sb9.2 b hb).trans e) fC.1 fC.2.1 fC.2.2.2.1 fC.2.2.2.2.1 fC.2.2.2.2.2)
 exact codeAny_compStart_list loop (T.self _ 0 _ _ _ st4 loop)
end Mn
namespace Dn
open L2 Mn
section
variable{K:Fg9}{X:Cx}{tgt iter elt:fP}{pos p:Pos}
def ade(fr N:List Str)(src:List 'G')(hN:X.N.Nodup)(hxi:X.N[i]? = ZY x)(hx:Loc X.env.scope x)(hc:X.calm=ZW)(hi:IT K X tgt iter mi)
  (hg:∀fp s H,GV K (cxC X N scope fr fp s H) tgt bb) (ht:∀fp s H,EIf K (cxC X N scope fr fp s H) ifs mc) (he:∀fp s H,EV K (cxC X N scope fr fp s H) elt me)
  (hsw:mF (.ListComp elt [⟨tgt,iter,ifs,0⟩] scope cpos) (ZY (.Name x p)) pos.line X.env=pure ZW:=by rfl)
  (hok:af8 X.env X.N scope fr N src=ZW:=by rfl) (hkind:scope.kind=.function:=by rfl) (hclos:mV scope X.env=pure (lq X.env fr):=by rfl)
  (hs:∀x,gC iter X.env x=pure x:=by intro _;rfl) (hf:X.fn x=ZW∨X.env.scope.names.lookup x=ZY .local:=by first |exact .inl rfl |exact .inr rfl |assumption) :
  SV K X (.Assign [.Name x p] (.ListComp elt [⟨tgt,iter,ifs,0⟩] scope cpos) pos) (dSet i (sr src mi bb mc me)):=SV.mk λhk=>by
 have hkc:∀fp s H,(cxC X N scope fr fp s H).K=K:=λ_ _ _=>hk
 refine PS.imp (asj fr N src hN hxi hx hc (hi hk) (λfp s H=>(hg fp s H).go (hkc _ _ _)) (λfp s H=>(ht fp s H).go (hkc _ _ _)) (λfp s H=>(he fp s H).go (hkc _ _ _)) hsw hok hkind hclos hs hf) λE σ H ⟨tg,F,ρ,fl,ρ',G,em,q⟩=>yz em q λr ρ1 e1 em=>?_
 cases em;refine agq σ H _ ⟨tg,F,ρ,r,ρ1,G,e1,λv H' F' G' x rr=>?_⟩
 obtain⟨G2,x2⟩:=G'.store x i rr;exact q _ H' F' G2 x2
end
@[irreducible] noncomputable def fuel:Nat:=1000000000
section
variable{K:Fg9}{X:Cx}{e a b c:fP}{es:List fP}{pos p p2:Pos}
def isN:D->Bool
 |.non=>ZW
 |_=>ZV
def mIsN(neg:Bool)(m:M D):M D:=m.bind λd=>ret (.bl (if neg then !isN d else isN d))
def a2p(h:Bor K F H d x):decide (x=.non)=isN d:=by
 rcases h with h |⟨a,vs,l',rfl,rfl,_⟩
 ·cases h <;> first |rfl | (simp[isN])
 ·simp[isN]
def atu{neg:Bool}{m:M D}{t:TE->TE}(ht:∀te σ H Q,t te σ H Q=te σ H λx H1=>Q (.bl (if neg then !decide (x=.non) else decide (x=.non))) H1)(σ:L2.St)(H:Hp)(Q:VK)(h:T K (relD K) (mIsN neg m) σ H Q):t (T K (relB K) m) σ H Q:=by
 rw[ht];obtain⟨tg,F,ρ,d,ρ',G,em,q⟩:=h;obtain⟨d1,ρ1,e1,em⟩:=bj em;obtain⟨rfl,rfl⟩:=lr em;refine⟨tg,F,ρ,d1,_,G,e1,λv H' F' G' x r=>?_⟩
 show Q (.bl (if neg then !decide (v=.non) else decide (v=.non))) H'
 rw[a2p r];exact q _ H' F' G' x (.bl _)
def aqr{j:Nat}{m:M D}(h:EB K X a m):EV K X (.Compare a [.IsNot] [.Constant .none j p] p2) (mIsN ZW m):=EV.mk λhk=>PE.imp (a5d (a0y (h hk))) (atu (t:=a3p) λ_ _ _ _=>rfl)
def axq{neg:Bool}{m:M D}{t:TE->TE}(ht:∀te σ H Q,t te σ H Q=te σ H λx H1=>Q (.bl (if neg then !decide (x=.non) else decide (x=.non))) H1)(σ:L2.St)(H:Hp)(Q:Bool->Hp->Prop)(h:TB K (ab1 (mIsN neg m)) σ H Q):tB (t (T K (relB K) m)) σ H Q:=by
 obtain⟨tg,F,ρ,k,ρ',G,em,q⟩:=h;obtain⟨d1,ρ1,e1,em⟩:=bj em;obtain⟨e3,rfl⟩:=jb em;obtain rfl:=apo e3;refine atu ht σ H _ ⟨tg,F,ρ,_,_,G,e1,λv H' F' G' x r=>?_⟩
 cases r;exact⟨k,rfl,q H' F' G' x⟩
def alz{j:Nat}{m:M D}(h:EB K X a m):ET K X (.Compare a [.Is] [.Constant .none j p] p2) (ab1 (mIsN ZV m)):=ET.mk λhk=>PT.imp (a4n (a5f (h hk))) (axq (t:=tIsN) λ_ _ _ _=>rfl)
end
def an7(f:Fd):Prop:=∀ns:List Int,ns.length<=63->∃ps,f [.val (.kst (ns.map D.int))]=ZY (.ok (.v (.bl ZW)),ps)
def a3w{K:Fg9}{f:Fd}(h:an7 f)(H:Hp)(a:bB)(ns:List Int)(hn:ns.length<=63)(hS:SqL K H a (ns.map V.int)):spOf K 1 f [.ref a] H (λv _=>v=.bl ZW) λ_ _ _=>False:=by
 obtain⟨ps,e⟩:=h ns hn;refine⟨rfl,H,_,_,ps,⟨Same.refl H,rfl,λi s o e1 e2=>?_,λi j b ⟨⟨t,l,e1⟩,_⟩ _=>by cases i <;> simp at e1⟩,e,λv H' F' O' _ _ _ rr=>?_⟩
 ·cases i with
  |zero=>
   simp at e1 e2;subst e1 e2;exact⟨_,rfl,.kst hS (agm ns)⟩
  |succ i=>simp at e1
 ·have rr:Is K F' (.bl ZW) v:=rr;cases rr;rfl
def walk{l:uD}{q:cF}{loose:List Str}{XP:(Str->Option aH)->iK->Prop}{YP:dX->iK->Prop}{d:DefRec}{K:Params->Fg9}{f:Fd}{k:Nat}(ht:an7 f)(hn:l.most=ZY 63)(hdf:d.params.defaults=[])(hr:Room k sV)
  (hY:∀(w:dX) (h:iK),YP w h->(K w.params).In h/\∃c P₀,iW (K w.params) LamN=ZY (c,P₀)/\tV (K w.params) c P₀=ZW/\h.get? P₀=ZY (uX #[])/\(K w.params).lookup P₀=ZX)
  (F:∀(w:dX) (mg:Str->Option aH) (fa:bB) (h:iK),(K w.params).In h->h.Ns aW mg->mg d.name=ZY (.ref fa) ->
   ∃fd:eU,(∀(s:aN) (u:aH),pP s fd ⟨[u],[]⟩ [("script", u)])/\∀base:iK,(K w.params).In base->base.Ns aW mg->FnOk l.prog w (K w.params) mg base CX0 k fa fd ["script"] (spOf (K w.params) 1 f)) :
  Ar q loose XP YP l.row.toRowW d [] (λf vs=>yI f vs) :=
 L2.azn (n:=63) (k:=k) (x := "script") (CX:=λ_=>CX0) (sp:=λw=>spOf (K w.params) 1 f) hn (by decide) hdf hr hY F (λ_ H a ns hl hS=>a3w ht H a ns hl hS) λ_ _ _ _ _ z=>z
section
variable{α β:Type}(ρ:Ro)
@[simp] theorem ba2(a:α):ret a ρ=ZY (.ok a,ρ):=rfl
@[simp] theorem a9u(o:Option α):lift o ρ=match o with
 |some a=>ZY (.ok a,ρ)
 |none=>ZX:=rfl
@[simp] theorem bap(m:M α)(k:α->M β):M.bind m k ρ=match m ρ with
 |some (.ok a,ρ1)=>k a ρ1
 |some (.exc x,ρ1)=>ZY (.exc x,ρ1)
 |none=>ZX:=rfl
@[simp] theorem v_ap(m:M D):M.v m ρ=(m.bind λd=>ret (.v d)) ρ:=rfl
@[simp] theorem d_ap(m:M Rv):M.d m ρ=(m.bind λr=>ret r.d) ρ:=rfl
@[simp] theorem bbu(d:D):(Rv.v d).d=d:=rfl
@[simp] theorem ba1(l:List D):(Rv.fr l).d=.lst l:=rfl
@[simp] theorem ba0(d:D)(l:List D):(Rv.tf d l).d=.tup [d,.lst l]:=rfl
@[simp] theorem bbt(d:D):(Rv.v d).sl=.val d:=rfl
@[simp] theorem baz(l:List D):(Rv.fr l).sl=.own ZX l:=rfl
@[simp] theorem a9f(i:Nat):mVar i ρ=match ρ[i]? with
 |some (.val d)=>ZY (.ok d,ρ)
 |some (.own ZX l)=>ZY (.ok (.lst l),ρ.set i (.val (.lst l)))
 |_=>ZX:=rfl
@[simp] theorem a7s(i:Nat):dw i ρ=match ρ[i]? with
 |some (.val d)=>ZY (.ok d,ρ)
 |some (.own _ l)=>ZY (.ok (.lst l),ρ)
 |_=>ZX:=rfl
@[simp] theorem a7x(i:Nat):agb i ρ=match ρ[i]? with
 |some (.val d)=>ZY (.ok (.v d),ρ)
 |some (.own ZX l)=>ZY (.ok (.fr l),ρ.set i .emp)
 |_=>ZX:=rfl
@[simp] theorem a9h(i:Nat):mOwn i ρ=match ρ[i]? with
 |some (.own _ l)=>ZY (.ok l,ρ)
 |_=>ZX:=rfl
@[simp] theorem a5r(i:Nat)(l':List D):aeq i l' ρ=match ρ[i]? with
 |some (.own t _)=>ZY (.ok (),cI ρ i (.own t l'))
 |_=>ZX:=rfl
@[simp] theorem a7v(m1 m2:M D):ie m1 m2 ρ=(m1.bind λx=>m2.bind λy=>ret (x,y)) ρ:=rfl
@[simp] theorem a5s(i:Nat)(m2:M D):bz i m2 ρ=((dw i).bind λ_=>m2.bind λy=>(dw i).bind λx=>ret (x,y)) ρ:=rfl
@[simp] theorem ba8(g:D->D->Option Rv)(m:M (D×D)):mOp g m ρ=(m.bind λp=>lift (g p.1 p.2)) ρ:=rfl
@[simp] theorem ba7(g:D->Option D)(m:M D):mUn g m ρ=(m.bind λd=>lift (g d)) ρ:=rfl
@[simp] theorem a9t(m1 m2:M D):mAnd m1 m2 ρ=(m1.bind λd=>(lift (asB d)).bind λk=>if k=ZW then m2 else ret (.bl ZV)) ρ:=rfl
@[simp] theorem a7t(m:M D):ab1 m ρ=(m.bind λd=>lift (asB d)) ρ:=rfl
@[simp] theorem a5q(g:D->D->Option Rv)(m:M (D×D)):jd g m ρ=ab1 (mOp g m).d ρ:=rfl
@[simp] theorem a7w(m:M Bool):ate m ρ=(m.bind λk=>ret (!k)) ρ:=rfl
@[simp] theorem a74(m1 m2:M Bool):axd m1 m2 ρ=(m1.bind λk=>if k=ZW then m2 else ret ZV) ρ:=rfl
@[simp] theorem a9i(m1 m2:M Bool):mOrB m1 m2 ρ=(m1.bind λk=>if k=ZW then ret ZW else m2) ρ:=rfl
@[simp] theorem ba9(m:M Bool)(m1 m2:M α):mIf m m1 m2 ρ=(m.bind λk=>if k=ZW then m1 else m2) ρ:=rfl
@[simp] theorem bbb(c:Prop)[Decidable c](m1 m2:M α):(if c then m1 else m2) ρ=if c then m1 ρ else m2 ρ:=by split <;> rfl
@[simp] theorem a90(c:Prop)[Decidable c](m1 m2:Sd):(if c then m1 else m2) ρ=if c then m1 ρ else m2 ρ:=by split <;> rfl
@[simp] theorem bbs(b:Bool):asB (.bl b)=ZY b:=rfl
@[simp] theorem bau(b:Int):asI (.int b)=ZY b:=rfl
@[simp] theorem a97(b:Bool):gNot (.bl b)=ZY (.bl (!b)):=rfl
@[simp] theorem a77(b:Int):gNeg (.int b)=ZY (.int (-b)):=rfl
@[simp] theorem a8l(i j:Int):gAdd (.int i) (.int j)=ZY (.v (.int (i+j))):=rfl
@[simp] theorem a8j(l k:List D):gAdd (.tup l) (.tup k)=if l.length+k.length<=capS then ZY (.v (.tup (l++k))) else ZX:=rfl
@[simp] theorem a8k(l k:List D):gAdd (.lst l) (.lst k)=if l.length+k.length<=capS then ZY (.fr (l++k)) else ZX:=rfl
@[simp] theorem a8b(f:Int->Int->Option Int)(i j:Int):gInt f (.int i) (.int j)=(f i j).map λk=>.v (.int k):=rfl
@[simp] theorem bag(i j:Int):fSub i j=ZY (i-j):=rfl
@[simp] theorem a79(i j:Int):gMul (.int i) (.int j)=(fMul i j).map λk=>.v (.int k):=rfl
@[simp] theorem ao6(l:List D)(k:Int):gMul (.tup l) (.int k)=if k=1 then ZY (.v (.tup l)) else if l≠[]/\2<=k/\k<9223372036854775808/\l.length*k.toNat<=capS then ZY (.v (.tup (aK k.toNat l).flatten)) else ZX:=rfl
@[simp] theorem a78(l:List D)(k:Int):gMul (.lst l) (.int k)=if k.natAbs<9223372036854775808/\l.length*k.toNat<=capS then ZY (.fr (aK k.toNat l).flatten) else ZX:=rfl
@[simp] theorem a8g(f:Int->Int->Bool)(i j:Int):gCmp f (.int i) (.int j)=ZY (.v (.bl (f i j))):=rfl
@[simp] theorem a9m(t:Ty)(m:M D):mIsi t m ρ=(m.bind λd=>ret (.bl (isTy t d))) ρ:=rfl
@[simp] theorem a5z(f g:Int->Int->Bool)(m1 m2 m3:M D):ale f g m1 m2 m3 ρ=(m1.bind λx=>m2.bind λy=>match x,y with
 |.int i,.int j=>if f i j=ZW then m3.bind λz=>match z with
  |.int k=>ret (.bl (g j k))
  |_=>lift ZX
  else ret (.bl ZV)
 |_,_=>lift ZX) ρ:=rfl
@[simp] theorem a9j:mNil ρ=ZY (.ok [],ρ):=rfl
@[simp] theorem a71(m:M D)(ms:M (List D)):bf m ms ρ=(m.bind λd=>ms.bind λds=>ret (d::ds)) ρ:=rfl
@[simp] theorem a5x(i:Nat)(ms:M (List D)):ji i ms ρ=((dw i).bind λ_=>ms.bind λds=>(dw i).bind λd=>ret (d::ds)) ρ:=rfl
@[simp] theorem a9g(m:M (List D)):mTup m ρ=(m.bind λds=>lift (gTup ds)) ρ:=rfl
@[simp] theorem a9l(m:M (List D)):mLst m ρ=(m.bind λds=>lift (gLst ds)) ρ:=rfl
@[simp] theorem a73(g:List D->Option Rv)(m:M (List D)):jo g m ρ=(m.bind λds=>lift (g ds)) ρ:=rfl
@[simp] theorem bbh(f:D->Option Rv)(d:D):g1 f [d]=f d:=rfl
@[simp] theorem bbg(f:D->D->Option Rv)(d d':D):g2 f [d,d']=f d d':=rfl
@[simp] theorem a6n(l:List D):itemsD (.tup l)=ZY l:=rfl
@[simp] theorem a6o(l:List D):itemsD (.lst l)=ZY l:=rfl
@[simp] theorem a6p(l:List D):itemsD (.kst l)=ZY l:=rfl
@[simp] theorem a8i(l:List D):gAll (.lst l)=(vg l).map λbs=>.v (.bl (bs.all id)):=rfl
@[simp] theorem a6t(i:Int):axv (.int i)=ZY (.v (.int i)):=rfl
@[simp] theorem a8c(i:Bool):axv (.bl i)=ZY (.v (.int (if i then 1 else 0))):=rfl
@[simp] theorem a99(d:D)(k:Int):gIx d (.int k)=(itemsD d).bind λl=>(atI l k).map λx=>.v x:=rfl
@[simp] theorem a9s(m:M D)(ml mh:M (Option Int)):mCut m ml mh ρ=(m.bind λd=>ml.bind λlo=>mh.bind λhi=>lift (gCut d lo hi)) ρ:=rfl
@[simp] theorem a70(i:Nat)(ml mh:M (Option Int)):ana i ml mh ρ=((dw i).bind λ_=>ml.bind λlo=>mh.bind λhi=>(dw i).bind λd=>lift (gCut d lo hi)) ρ:=rfl
@[simp] theorem a7u(m:M D):aic m ρ=(m.bind λd=>lift ((asI d).map ZY)) ρ:=rfl
@[simp] theorem a8d(l:List D)(lo hi:Option Int):gCut (.tup l) lo hi=ZY (.v (.tup (cutD l lo hi))):=rfl
@[simp] theorem a8e(l:List D)(lo hi:Option Int):gCut (.lst l) lo hi=ZY (.fr (cutD l lo hi)):=rfl
@[simp] theorem a8f(l:List D)(lo hi:Option Int):gCut (.kst l) lo hi=ZY (.fr (cutD l lo hi)):=rfl
@[simp] theorem a9n(neg:Bool)(m:M D):mIsN neg m ρ=(m.bind λd=>ret (.bl (if neg then !isN d else isN d))) ρ:=rfl
@[simp] theorem a5t(m:M D):uw m ρ=(m.bind λd=>lift (itemsD d)) ρ:=rfl
@[simp] theorem a9p(g:α->Option β)(m:M α):mGet g m ρ=(m.bind λds=>lift (g ds)) ρ:=rfl
@[simp] theorem anm(j:Int):um [.int j]=if j.natAbs<4611686018427387904 then ZY (rangeD 0 j.toNat) else ZX:=rfl
@[simp] theorem a1q(i j:Int):aj3 [.int i,.int j]=if i.natAbs<4611686018427387904/\j.natAbs<4611686018427387904 then ZY (rangeD i (j-i).toNat) else ZX:=rfl
@[simp] theorem a1s(i j:Int):aj5 (.int i) (.int j)=if 0<j/\j<1000000000000000000000000000000000000000000000000000000000000 then ZY (.v (.tup [.int (i / j),.int (i % j)])) else ZX:=rfl
@[simp] theorem a9k(i:Nat)(g:List D->List D->Option (D×List D))(ms:M (List D)):mMut i g ms ρ=((mOwn i).bind λ_=>ms.bind λds=>(mOwn i).bind λl=>(lift (g l ds)).bind λr=>(aeq i r.2).bind λ_=>ret r.1) ρ:=rfl
@[simp] theorem a1v(l:List D)(d:D):ad1 l [d]=if l.length<capS then ZY (.non,l++[d]) else ZX:=rfl
@[simp] theorem a7z:gj ρ=ZY (.ok [],ρ):=rfl
@[simp] theorem a5v(m:M D)(ms:M (List (Option D))):bc m ms ρ=(m.bind λd=>ms.bind λds=>ret (ZY d::ds)) ρ:=rfl
@[simp] theorem a5u(j:Nat)(ms:M (List (Option D))):fj j ms ρ=((dw j).bind λ_=>ms.bind λds=>ret (ZX::ds)) ρ:=rfl
@[simp] theorem bba(f:Fd)(js:List 'G')(ms:M (List (Option D))):mFn f js ms ρ=(ms.bind λds ρ=>if okJs ρ js=ZW then match f (lend ρ js ds) with
  |some (.ok r,ps)=>ZY (.ok r,putB ρ js ps)
  |some (.exc x,ps)=>ZY (.exc x,putB ρ js ps)
  |none=>ZX
 else ZX) ρ:=rfl
@[simp] theorem a72(src:List 'G')(mi:M (List D))(b:D->Ro->Option Ro)(mc:M Bool)(me:M D):sr src mi b mc me ρ=(mi.bind λl ρ=>if okJs ρ src=ZW then match compD b mc me l [] (lend ρ src (src.map λ_=>ZX)) with
  |some (.ok ys,ps)=>if ys.length<=capS then ZY (.ok (.fr ys),putB ρ src ps) else ZX
  |some (.exc x,ps)=>ZY (.exc x,putB ρ src ps)
  |none=>ZX
 else ZX) ρ:=rfl
@[simp] theorem a7q:okJs ρ []=ZW:=rfl
@[simp] theorem a5o(r:List 'G'):okJs ρ (ZX::r)=okJs ρ r:=rfl
@[simp] theorem as3(j:Nat)(r:List 'G'):okJs ρ (ZY j::r)=((match ρ[j]? with
  |some (.own _ _) => !r.contains (ZY j)
  |_=>ZW)&&okJs ρ r):=rfl
@[simp] theorem lend_eq(js:List 'G')(ds:List (Option D)):lend ρ js ds=(Av js ds).mapIdx λi p=>ajz ρ i p.1 p.2:=rfl
@[simp] theorem a3b(i j:Nat)(d:Option D):ajz ρ i (ZY j) d=match ρ[j]? with
  |some (.val d)=>.val d
  |some (.own _ l)=>.own (ZY i) l
  |_=>.emp:=rfl
@[simp] theorem a9v(i:Nat)(d:D):ajz ρ i ZX (ZY d)=.val d:=rfl
@[simp] theorem a9w(i:Nat):ajz ρ i ZX ZX=.emp:=rfl
@[simp] theorem a0d(js:List 'G')(ps:Ro):putB ρ js ps=ρ.mapIdx λj s=>putS js ps j s:=rfl
@[simp] theorem a84(js:List 'G')(ps:Ro)(j:Nat)(s:Sl):putS js ps j s=match js.findIdx? (λo=>o==ZY j) with
 |none=>s
 |some i=>match s with
  |.own t _=>match ps[i]? with
   |some (.own (ZY i') l')=>if i'=i then .own t l' else .emp
   |_=>.emp
  |s=>s:=rfl
@[simp] theorem bbj(nl np:Nat)(g:Sd):fnD nl np g ρ=match g (ρ++aK (nl-np) .emp) with
 |some (.ret r,ρ)=>ZY (.ok r,ρ.take np)
 |some (.nx,ρ)=>ZY (.ok (.v .non),ρ.take np)
 |some (.exc x,ρ)=>ZY (.exc x,ρ.take np)
 |_=>ZX:=rfl
@[simp] theorem bbp:dNx ρ=ZY (.nx,ρ):=rfl
@[simp] theorem bal(g k:Sd):dSeq g k ρ=match g ρ with
 |some (.nx,ρ1)=>k ρ1
 |r=>r:=rfl
@[simp] theorem bbz(m:M α)(k:α->Sd):dM m k ρ=match m ρ with
 |some (.ok x,ρ1)=>k x ρ1
 |some (.exc x,ρ1)=>ZY (.exc x,ρ1)
 |none=>ZX:=rfl
@[simp] theorem bam(m:M Rv):dRet m ρ=dM m (λr ρ=>ZY (.ret r,ρ)) ρ:=rfl
@[simp] theorem bbq(m:M Bool)(g k:Sd):dIf m g k ρ=dM m (λz=>if z=ZW then g else k) ρ:=rfl
@[simp] theorem a8n(m:M α):u6 m ρ=dM m (λ_ ρ=>ZY (.nx,ρ)) ρ:=rfl
@[simp] theorem bak(i:Nat)(m:M Rv):dSet i m ρ=dM m (λr ρ=>ZY (.nx,cI ρ i r.sl)) ρ:=rfl
@[simp] theorem bao(m:M D)(b:D->Ro->Option Ro):dAsg m b ρ=dM m (λd ρ=>(b d ρ).map λρ'=>(.nx,ρ')) ρ:=rfl
@[simp] theorem baj(i:Nat)(mi m:M D):dSub i mi m ρ=(dM m λd=>dM (mOwn i) λ_=>dM mi λk=>dM (mOwn i) λl=>dM (lift ((asI k).bind (ixN l.length))) λj=>dM (aeq i (l.set j d)) λ_=>dNx) ρ:=rfl
@[simp] theorem ban(m:M (List D))(b:D->Ro->Option Ro)(g:Sd):dFor m b g ρ=dM m (forD b g) ρ:=rfl
@[simp] theorem apl(i:Nat)(d:D):cj i d ρ=ZY (cI ρ i (.val d)):=rfl
@[simp] theorem bas:bNil [] ρ=ZY ρ:=rfl
@[simp] theorem a8o(b:D->Ro->Option Ro)(bs:List D->Ro->Option Ro)(d:D)(r:List D):jl b bs (d::r) ρ=(b d ρ).bind (bs r):=rfl
@[simp] theorem baq(n:Nat)(bs:List D->Ro->Option Ro)(l:List D):bTup n bs (.tup l) ρ=if l.length=n then bs l ρ else ZX:=rfl
end
section
variable(c:Prop)[Decidable c](b:Bool)(ρ:Ro)
@[simp] theorem a9z:(if c then ZY (Out.ok (D.bl b),ρ) else ZY (Out.ok (D.bl ZV),ρ))=ZY (.ok (.bl (decide c&&b)),ρ):=by by_cases h:c <;> simp[h]
end
@[simp] theorem bw(h:n<=1000):n<=capS:=bV h (by decide)
@[simp] theorem a96(ds:List D):gTup ds=if ds.length<=capS then ZY (.tup ds) else ZX:=rfl
@[simp] theorem a98(ds:List D):gLst ds=if ds.length<=capS then ZY (.fr ds) else ZX:=rfl
@[simp] theorem an3(l:List α)(f:α->Bool):vg (l.map λd=>D.bl (f d))=ZY (l.map f):=by
 have:=afs (l.map f);rw[dR] at this;exact this
def aaa(s:Sl):List D->Sl
 | []=>s
 |d::r=>aaa (.val d) r
theorem ou{me:M D}{rest:Ro}{f:D->D}:∀{l:List D} {ys:List D} {s:Sl},(∀d∈l,me (.val d::rest)=ZY (.ok (f d),.val d::rest))->compD (cj 0) (ret ZW) me l ys (s::rest)=ZY (.ok (ys++l.map f),aaa s l::rest)
 | [],ys,s,_=>by simp[compD,aaa]
 |d::r,ys,s,h=>by
  have h1:=h d (aX ..);have ih:=ou (me:=me) (rest:=rest) (f:=f) (l:=r) (ys:=ys++[f d]) (s:=.val d) λx hx=>h x (aR _ hx)
  simp[compD,h1,ih,aaa]
theorem yc{mc:M Bool}{me:M D}{rest:Ro}{p:D->Bool}{f:D->D}:∀{l:List D} {ys:List D} {s:Sl},(∀d∈l,mc (.val d::rest)=ZY (.ok (p d),.val d::rest))->(∀d∈l,p d=ZW->me (.val d::rest)=ZY (.ok (f d),.val d::rest)) ->
  compD (cj 0) mc me l ys (s::rest)=ZY (.ok (ys++(l.filter p).map f),aaa s l::rest)
 | [],ys,s,_,_=>by simp[compD,aaa]
 |d::r,ys,s,hc,h=>by
  have h0:=hc d (aX ..);cases hp:p d with
  |true=>
   have h1:=h d (aX ..) hp;have ih:=yc (mc:=mc) (me:=me) (rest:=rest) (p:=p) (f:=f) (l:=r) (ys:=ys++[f d]) (s:=.val d) (λx hx=>hc x (aR _ hx)) λx hx=>h x (aR _ hx)
   simp[compD,h0,h1,ih,aaa,hp]
  |false=>
   have ih:=yc (mc:=mc) (me:=me) (rest:=rest) (p:=p) (f:=f) (l:=r) (ys:=ys) (s:=.val d) (λx hx=>hc x (aR _ hx)) λx hx=>h x (aR _ hx)
   simp[compD,h0,ih,aaa,hp]
@[simp] theorem a8m(b:D->Ro->Option Ro)(g:Sd)(ρ:Ro):forD b g [] ρ=ZY (.nx,ρ):=rfl
theorem nq(b:D->Ro->Option Ro)(g:Sd)(d:D)(ds:List D)(ρ:Ro):forD b g (d::ds) ρ=match b d ρ with
  |none=>ZX
  |some ρ1=>match g ρ1 with
   |some (.nx,ρ2)=>forD b g ds ρ2
   |some (.cont,ρ2)=>forD b g ds ρ2
   |some (.brk,ρ2)=>ZY (.nx,ρ2)
   |some (.ret r,ρ2)=>ZY (.ret r,ρ2)
   |some (.exc x,ρ2)=>ZY (.exc x,ρ2)
   |none=>ZX:=rfl
@[simp] theorem ant(p:α->Bool)(a:α)(l:List α):rW p (a::l)=if p a=ZW then ZY 0 else (rW p l).map (· + 1):=by
 rw[yC]
@[simp] theorem bbk(p:α->Bool):rW p ([]:List α)=ZX:=rfl
theorem aye{l:List D}{k:Int}(h0:0<=k)(h1:k<(l.length:Int)):atI l k=ZY (l.getD k.toNat .non):=by
 have hk:k.toNat<l.length:=by omega
 have q:atI l ((k.toNat:Nat):Int)=ZY l[k.toNat]:=akl (aG hk);rw[show((k.toNat:Nat):Int)=k by omega] at q
 rw[q];simp[wI,aG hk]
def getD_mem{l:List D}{n:Nat}(h:n<l.length):l.getD n .non∈l:=by
 simp[wI,aG h]
def au2(ns:List Int)(lo hi:Option Int):∃ms:List Int,cutD (ns.map D.int) lo hi=ms.map D.int/\ms.length<=ns.length:=by
 refine⟨(ns.drop (HT.sIx ns.length 0 lo)).take (HT.sIx ns.length ns.length hi-HT.sIx ns.length 0 lo),?_,?_⟩
 ·unfold cutD;rw[aU,vR,vU]
 ·rw[eQ,iT];omega
theorem xf(Inv:Nat->Ro->Prop):∀{l:List D} {ρ:Ro} (k:Nat),Inv k ρ->(∀i d ρ,l[i]? = ZY d->Inv (k+i) ρ->∃ρ1 ρ2,b d ρ=ZY ρ1/\(g ρ1=ZY (.nx,ρ2)∨g ρ1=ZY (.cont,ρ2))/\Inv (k+i+1) ρ2) ->
  ∃ρ',forD b g l ρ=ZY (.nx,ρ')/\Inv (k+l.length) ρ'
 | [],ρ,k,h0,_=>⟨ρ,rfl,h0⟩
 |d::r,ρ,k,h0,hs=>by
  obtain⟨ρ1,ρ2,e1,e2,h1⟩:=hs 0 d ρ rfl h0;obtain⟨ρ',e3,h3⟩:=xf (b:=b) (g:=g) Inv (l:=r) (ρ:=ρ2) (k+1) h1 λi x ρ hx hi=>by
   have:=hs (i+1) x ρ (by simpa using hx) ((show k+(i+1)=k+1+i by omega)▸hi)
   have e:k+(i+1)+1=k+1+i+1:=by omega
   rw[e] at this;exact this
  refine⟨ρ',?_,?_⟩
  ·rw[nq,e1];rcases e2 with e2 |e2 <;> simp only[e2] <;> exact e3
  ·have e:k+(d::r).length=k+1+r.length:=by simp;omega
   rw[e];exact h3
theorem u9(Inv:Nat->List D->Ro->Prop):∀{l:List D} {ys:List D} {ρ:Ro} (k:Nat),Inv k ys ρ ->
  (∀i d ys ρ,l[i]? = ZY d->Inv (k+i) ys ρ->∃ρ1 ρ2 z,b d ρ=ZY ρ1/\mc ρ1=ZY (.ok z,ρ2)/\((z=ZV/\Inv (k+i+1) ys ρ2)∨(z=ZW/\∃y ρ3,me ρ2=ZY (.ok y,ρ3)/\Inv (k+i+1) (ys++[y]) ρ3))) ->
  ∃ys' ρ',compD b mc me l ys ρ=ZY (.ok ys',ρ')/\Inv (k+l.length) ys' ρ'
 | [],ys,ρ,k,h0,_=>⟨ys,ρ,rfl,h0⟩
 |d::r,ys,ρ,k,h0,hs=>by
  obtain⟨ρ1,ρ2,z,e1,e2,h1⟩:=hs 0 d ys ρ rfl h0;have nxt:∀{ys':List D} {ρ':Ro},Inv (k+0+1) ys' ρ'->∃ys2 ρ2,compD b mc me r ys' ρ'=ZY (.ok ys2,ρ2)/\Inv (k+1+r.length) ys2 ρ2:=λ{ys' ρ'} hi=>
   u9 (b:=b) (mc:=mc) (me:=me) Inv (l:=r) (ys:=ys') (ρ:=ρ') (k+1) hi λi x ys ρ hx hi=>by
    have:=hs (i+1) x ys ρ (by simpa using hx) ((show k+(i+1)=k+1+i by omega)▸hi)
    have e:k+(i+1)+1=k+1+i+1:=by omega
    rw[e] at this;exact this
  have el:k+(d::r).length=k+1+r.length:=by simp;omega
  rw[el];rcases h1 with⟨rfl,h1⟩ |⟨rfl,y,ρ3,e3,h1⟩
  ·obtain⟨ys2,ρ4,e4,h4⟩:=nxt h1;exact⟨ys2,ρ4,by simp[compD,e1,e2,e4],h4⟩
  ·obtain⟨ys2,ρ4,e4,h4⟩:=nxt h1;exact⟨ys2,ρ4,by simp[compD,e1,e2,e3,e4],h4⟩
@[simp] theorem baa(neg:Bool)(a b:Int):gEq neg (.int a) (.int b)=ZY (.v (.bl (if neg then !(a==b) else (a==b)))):=rfl
@[simp] theorem bbf(neg:Bool)(a b:Bool):gEq neg (.bl a) (.bl b)=ZY (.v (.bl (if neg then !(a==b) else (a==b)))):=rfl
section
variable{K:Fg9}{X:Cx}{e a b c:fP}{es:List fP}{pos p p2:Pos}
def abn:List D->Option (List Int)
 | []=>ZY []
 |.int i::r=>(abn r).map (i :: ·)
 |_::_=>ZX
theorem agn:∀{l:List D} {ns:List Int},abn l=ZY ns->l=ns.map D.int
 | [],_,h=>by cases h;rfl
 |.int b::r,bs,h=>by
  have h':(abn r).map (b :: ·)=ZY bs:=h;cases e:abn r with
  |none=>rw[e] at h';cases h'
  |some t=>
   rw[e] at h';cases h';rw[agn e];rfl
 |.non::_,_,h=>by cases h
 |.bl _::_,_,h=>by cases h
 |.str _::_,_,h=>by cases h
 |.tup _::_,_,h=>by cases h
 |.lst _::_,_,h=>by cases h
 |.kst _::_,_,h=>by cases h
 |.dct _::_,_,h=>by cases h
@[simp] theorem ahg(ns:List Int):abn (ns.map D.int)=ZY ns:=by
 induction ns with
 |nil=>rfl
 |cons b r ih=>show(abn (r.map D.int)).map (b :: ·)=_;rw[ih];rfl
def insI(x:Int):List Int->List Int
 | []=>[x]
 |y::r=>if x<=y then x::y::r else y::insI x r
def sortI:List Int->List Int
 | []=>[]
 |x::r=>insI x (sortI r)
theorem insI_perm(x:Int):∀l:List Int,(insI x l).Perm (x::l)
 | []=>.refl _
 |y::r=>by
  unfold insI;split
  ·exact .refl _
  ·exact((insI_perm x r).cons y).trans (.swap x y r)
theorem sortI_perm:∀l:List Int,(sortI l).Perm l
 | []=>.refl _
 |x::r=>(insI_perm x (sortI r)).trans ((sortI_perm r).cons x)
theorem ahi(x:Int):∀{l:List Int},l.Pairwise (· <= ·)->(insI x l).Pairwise (· <= ·)
 | [],_=>by simp[insI]
 |y::r,h=>by
  unfold insI;rw[jN] at h;split
  ·rename_i hxy;rw[jN,jN];refine⟨λz hz=>?_,h⟩
   rcases bA.mp hz with rfl |hz
   ·exact hxy
   ·exact qP hxy (h.1 z hz)
  ·rename_i hxy;rw[jN];refine⟨λz hz=>?_,ahi x h.2⟩
   rcases bA.mp ((insI_perm x r).mem_iff.mp hz) with rfl |hz
   ·omega
   ·exact h.1 z hz
theorem afv:∀l:List Int,(sortI l).Pairwise (· <= ·)
 | []=>.nil
 |x::r=>ahi x (afv r)
theorem aii:∀{l k:List Int},l.Perm k->l.Pairwise (· <= ·)->k.Pairwise (· <= ·)->l=k
 | [],k,h,_,_=>h.nil_eq
 |x::r,[],h,_,_=>absurd h.length_eq (by simp)
 |x::r,y::t,h,hl,hk=>by
  rw[jN] at hl hk;have e:x=y:=by
   have h1:x∈y::t:=h.mem_iff.mp (aX ..);have h2:y∈x::r:=h.mem_iff.mpr (aX ..);rcases bA.mp h1 with h1 |h1
   ·exact h1
   ·rcases bA.mp h2 with h2 |h2
    ·exact h2.symm
    ·have a:=hk.1 x h1;have b:=hl.1 y h2;omega
  subst e;rw[aii ((List.perm_cons x).mp h) hl.2 hk.2]
def awg(h:l.Perm k)(hs:l.Pairwise (· <= ·)):l=sortI k:=aii (h.trans (sortI_perm k).symm) hs (afv k)
theorem afu:∀{ns:List Int} {us:List aH},nA us ns->Vals (ns.map V.int) us
 |_,_,.nil=>.nil
 |_,_,.cons n t h=>.cons ⟨t,rfl⟩ (afu h)
end
section
variable{K:Fg9}{X:Cx}{e a b c:fP}{es:List fP}{pos p p2:Pos}
def ae0(lt:Int->Int->Bool):List Int->Int
 | []=>0
 |x::r=>r.foldl (λm y=>if lt y m=ZW then y else m) x
theorem avm(lt:Int->Int->Bool)(ns:List Int):∀k,k<ns.length->rO (λi j=>lt (ns.getD i 0) (ns.getD j 0)) k<=k/\ns.getD (rO (λi j=>lt (ns.getD i 0) (ns.getD j 0)) k) 0=ae0 lt (ns.take (k+1))
 | 0,h=>by
  cases ns with
  |nil=>simp at h
  |cons x r=>exact⟨Nat.le_refl _,rfl⟩
 |k+1,h=>by
  obtain⟨h1,h2⟩:=avm lt ns k (by omega)
  have ht:ns.take (k+1+1)=ns.take (k+1)++[ns.getD (k+1) 0]:=by
   rw[List.take_add_one,aG h];simp[wI,aG h]
  have hb:ae0 lt (ns.take (k+1+1))=if lt (ns.getD (k+1) 0) (ae0 lt (ns.take (k+1)))=ZW then ns.getD (k+1) 0 else ae0 lt (ns.take (k+1)):=by
   rw[ht];cases ns with
   |nil=>simp at h
   |cons x r=>simp[ae0,List.foldl_append]
  have ha:rO (λi j=>lt (ns.getD i 0) (ns.getD j 0)) (k+1)=if lt (ns.getD (k+1) 0) (ns.getD (rO (λi j=>lt (ns.getD i 0) (ns.getD j 0)) k) 0)=ZW then k+1 else rO (λi j=>lt (ns.getD i 0) (ns.getD j 0)) k:=rfl
  rw[hb,<-h2,ha]
  by_cases hc:lt (ns.getD (k+1) 0) (ns.getD (rO (λi j=>lt (ns.getD i 0) (ns.getD j 0)) k) 0)=ZW
  ·rw[if_pos hc,if_pos hc];exact⟨Nat.le_refl _,rfl⟩
  ·rw[if_neg hc,if_neg hc];exact⟨by omega,rfl⟩
def ayc(lt:Int->Int->Bool)(ns:List Int)(h:ns≠[]):rO (λi j=>lt (ns.getD i 0) (ns.getD j 0)) (ns.length-1)<ns.length/\ns.getD (rO (λi j=>lt (ns.getD i 0) (ns.getD j 0)) (ns.length-1)) 0=ae0 lt ns:=by
 have hl:0<ns.length:=oF.mpr h;obtain⟨h1,h2⟩:=avm lt ns (ns.length-1) (by omega)
 refine⟨by omega,?_⟩
 rw[h2,show ns.length-1+1=ns.length by omega,zM]
def a6v(lt:Int->Int->Bool):D->Option Rv
 |.lst l=>(abn l).bind λns=>if ns=[] then ZX else ZY (.v (.int (ae0 lt ns)))
 |.tup l=>(abn l).bind λns=>if ns=[] then ZX else ZY (.v (.int (ae0 lt ns)))
 |_=>ZX
theorem ano(h:a6v lt d=ZY r):∃ns:List Int,ns≠[]/\r=.v (.int (ae0 lt ns))/\(d=.lst (ns.map D.int)∨d=.tup (ns.map D.int)):=by
 have go:∀l,(abn l).bind (λns=>if ns=[] then ZX else ZY (Rv.v (.int (ae0 lt ns))))=ZY r->∃ns:List Int,ns≠[]/\r=.v (.int (ae0 lt ns))/\l=ns.map D.int:=λl h=>by
  cases e:abn l with
  |none=>rw[e] at h;cases h
  |some ns=>
   rw[e] at h;have h:(if ns=[] then ZX else ZY (Rv.v (.int (ae0 lt ns))))=ZY r:=h
   split at h
   ·cases h
   ·rename_i hn;cases h;exact⟨ns,hn,rfl,agn e⟩
 cases d with
 |lst l=>obtain⟨ns,h1,h2,rfl⟩:=go l h;exact⟨ns,h1,h2,.inl rfl⟩
 |tup l=>obtain⟨ns,h1,h2,rfl⟩:=go l h;exact⟨ns,h1,h2,.inr rfl⟩
 |_=>cases h
def ahh{ns:List Int}{its:List aH}(rv:Vals (ns.map V.int) its)(i:Nat)(v:aH)(h:its.toArray[i]? = ZY v):∃t,v=.int (ns.getD i 0) t:=by
 have h:its[i]? = ZY v:=by simpa using h
 have hi:i<its.length:=(aJ.mp h).1;have hl:=rv.length;rw[aU] at hl;have hi':i<ns.length:=by omega
 obtain⟨u,hu,t,rfl⟩:=rv.get (i:=i) (x:=V.int ns[i]) (by rw[aV,aG hi'];rfl)
 rw[h] at hu;cases hu;exact⟨t,by simp[wI,aG hi']⟩
def axu:D->Option Rv:=a6v λi j=>decide (i<j)
def au8(hc:X.calm=ZW):CallD K X (.builtin "min") (g1 axu):=ahz λhk zv s σ0 H x u Q tg F ρ σ d r I ru G bd eg q=>by
 subst hk;obtain⟨ns,hn,rfl,hd⟩:=ano eg;have q':=Res.same G q (.int _);obtain⟨hb1,hb2⟩:=ayc (λi j=>decide (i<j)) ns hn
 have fin:∀{its:List aH} (rv:Vals (ns.map V.int) its) {v:aH} {h':iK} {tk:Nat},its.toArray[rO (λi j=>decide (ns.getD i 0<ns.getD j 0)) (its.toArray.size-1)]? = ZY v->(∀b o,s.heap.get? b=ZY o->h'.get? b=ZY o)->EP X zv σ0 Q v { s with heap:=h',toks:=tk }:=λ{its} rv {v h' tk} hv hk=>by
  have hl:=rv.length;rw[aU] at hl;rw[aP,<-hl] at hv;obtain⟨t,rfl⟩:=ahh rv _ v hv;exact⟨.int (ae0 (λi j=>decide (i<j)) ns),H,I.kept hk,⟨t,by rw[hb2]⟩,q'⟩
 rcases hd with rfl |rfl
 ·obtain⟨a,vs,rfl,ea,hl⟩:=bd.lst G.sub;rw[hl.int_inv] at ea;cases ru;obtain⟨its,rv,pl,_⟩:=I.list (SqL.of ea);have hl':=pl.isList;have hlt:a<s.heap.objs.size:=by obtain⟨_,e,_⟩:=hl';exact aO e
  have hlen:=rv.length;rw[aU] at hlen;refine call_min_walk (wpAny_pyIter_list hl' ⟨s.heap.objs.size,[s.heap.objs.size,a],[s.heap.objs.size],its.toArray.size,_,_,_,rfl,qW (A:=X.A.in1) (I.ok.hd hc) _ a (bI hlt) its.toArray,
   ⟨⟨_,aM _ rfl,rfl,rfl⟩,hl'.push _⟩,λb hb=>?_,?_,vY (λi=>ns.getD i 0) (λi v=>ahh rv i v),λv h' tk hP hk=>fin rv hP (sH hk)⟩)
  ·have hs:∀o:Obj,(s.heap.push o).objs.size=s.heap.objs.size+1:=λo=>cG ..
   show b<(s.heap.push _).objs.size;rw[hs];rcases bA.mp hb with hb |hb
   ·exact hb▸Nat.lt_succ_self _
   ·have hb:b=a:=by simpa using hb
    exact hb▸Nat.lt_succ_of_lt hlt
  ·rw[aP,<-hlen];exact oF.mpr hn
 ·obtain⟨a,vs,rfl,ea,hl⟩:=bd.tup;rw[hl.int_inv] at ea;cases ru;obtain⟨its,rv,pl,_⟩:=I.tuple (SqT.of (G.sub _ _ ea));have hlt:a<s.heap.objs.size:=by obtain⟨_,e,_⟩:=pl;exact aO e
  have hlen:=rv.length;rw[aU] at hlen;refine call_min_walk (wpAny_pyIter_tuple pl ⟨s.heap.objs.size,[s.heap.objs.size,a],[s.heap.objs.size],its.toArray.size,_,_,_,rfl,Walks.tuple (A:=X.A.in1) (I.ok.hd hc) _ a (bI hlt) its.toArray,
   ⟨⟨_,aM _ rfl,rfl,rfl⟩,pl.push _⟩,λb hb=>?_,?_,vY (λi=>ns.getD i 0) (λi v=>ahh rv i v),λv h' tk hP hk=>fin rv hP (sH hk)⟩)
  ·have hs:∀o:Obj,(s.heap.push o).objs.size=s.heap.objs.size+1:=λo=>cG ..
   show b<(s.heap.push _).objs.size;rw[hs];rcases bA.mp hb with hb |hb
   ·exact hb▸Nat.lt_succ_self _
   ·have hb:b=a:=by simpa using hb
    exact hb▸Nat.lt_succ_of_lt hlt
  ·rw[aP,<-hlen];exact oF.mpr hn
end
section
variable{K:Fg9}{X:Cx}{e a b c:fP}{es:List fP}{pos p p2:Pos}
def rmOf(K:Fg9)(g:D->List D->Option D):V->List V->Hp->VK->Prop:=λx vs H Q=>∃F d ds r,Same F H/\Bor K F H d x/\IsL K F ds vs/\g d ds=ZY r/\∀v,Is K F r v->Q v H
def a1i(i:Nat)(g:D->List D->Option D)(ms:M (List D)):M D:=(dw i).bind λd0=>(lift (match d0 with
 |.lst _=>ZY ()
 |_=>ZX)).bind λ_=>ms.bind λds=>(dw i).bind λd=>lift (g d ds)
def a2e{i:Nat}{name:Str}{id:String}{g:D->List D->Option D}{ms:M (List D)}{apos cpos:Pos}(slot:Slot "list" name id)(hty:typeOf (.builtin id)=pure (.type "method_descriptor"))(hm:X.K=K->MtR X id (rmOf K g))(ho:PE X a (tVar i))(ha:ED K X (e::es) ms)
  (hbase:attributeBase a name X.env (eval a X.env)=eval a X.env:=by rfl)
  (hfew:((kI cpos (aQ (e::es) X.env)).all (λx => !x.1)&&(backToKw cpos (keywordEach [] X.env)).all (λx=>x.1.isSome)
   && decide ((e::es).length+([]:List rQ).length+(if ([]:List rQ).isEmpty then 0 else 1)<30))=ZW:=by rfl)
  (hline:(apos.endLine==cpos.line)=ZW:=by rfl) (hs:Zc X e es:=by rfl) (hplain:(kI cpos (aQ es X.env)).any (·.1)=ZV:=by rfl) :
  EV K X (.Call (.Attribute a name apos) (e::es) [] cpos) (a1i i g ms):=EV.mk λhk=>PE.imp (awv pG slot hty (hm hk) ho (ha hk) hbase hfew hline hs hplain) λσ H Q z9=>by
 obtain⟨tg,F,ρ,d,ρ',G,em,q⟩:=z9;obtain⟨d0,ρ0,e0,em1⟩:=bj em;obtain⟨u0,ρ9,e9,em2⟩:=bj em1;obtain⟨ds,ρ1,e1,em3⟩:=bj em2;obtain⟨d1,ρ2,e2,em4⟩:=bj em3;obtain⟨e3,rfl⟩:=jb em4;obtain⟨e9,rfl⟩:=jb e9;obtain⟨rfl,v,hv,bv⟩:=uv G e0;have ty:∃b,v=.ref b/\∃xs,SqL X.K H b xs:=by
  cases d0 with
  |lst l=>
   obtain⟨b,xs,rfl,hb,_⟩:=bv.lst G.sub;exact⟨b,rfl,xs,SqL.of hb⟩
  |_=>cases e9
 obtain⟨b,rfl,hty'⟩:=ty;refine⟨_,hv,.inl ⟨rfl,hty'⟩,tg,F,_,ds,ρ1,G,e1,λvs H1 F1 G1 x1 r1=>?_⟩
 obtain⟨rfl,v',hv',b'⟩:=uv G1 e2;rw[hv] at hv';cases hv';exact⟨F1,d1,ds,d,G1.sub,b',r1,e3,λw iw=>q w H1 F1 G1 x1 iw⟩
def aub(d:D)(ds:List D):Option D:=match d,ds with
 |.lst l,[x]=>if okD 30 x&&l.all (okD 30) then ZY (.int (l.countP λy=>eqD y x)) else ZX
 |_,_=>ZX
theorem acp{zv:List (bB×Obj)}{σ:L2.St}{F H:Hp}{s:aN}(I:Inv X zv σ H s)(g:Same F H){a:D}{n:Nat}:∀{ds:List D} {vs:List V} {us:List aH},IsL X.K F ds vs->ds.all (okD n)=ZW->Vals vs us ->
  us.countP (aaw s.heap (toPy a))=ds.countP (λy=>eqD y a)
 |_,_,_,.nil,_,r=>by cases r;rfl
 |_,_,_,.cons h t,k,r=>by
  rw[kO,bC] at k;cases r with
  |cons r1 r2=>
   obtain⟨as,ra⟩:=aao I g h k.1 r1;obtain⟨c,p⟩:=acg _ _ k.1;rw[tY,tY,acp I g t k.2 r2,agp ra c];rfl
theorem aw8(hu:X.A.units+64<cLine):X.K=K->MtR X "list.count" (rmOf K aub):=λhk=>by
 subst hk;intro zv s σ H x vs v us Q I rx rv z9;obtain⟨F,d,ds,r,g,bd,il,eg,q⟩:=z9
 match d,ds,eg with
 |.lst l,[y],eg=>
  have eg:(if okD 30 y&&l.all (okD 30) then ZY (D.int (l.countP λz=>eqD z y)) else ZX)=ZY r:=eg
  split at eg
  ·rename_i ho;rw[bC] at ho;cases eg;cases il with
   |cons hy t=>
    cases t;obtain⟨u,rfl,ru⟩:=rv.one;obtain⟨p,ws,rfl,ea,hl⟩:=bd.lst g;cases rx;obtain⟨its,rw',pl,_⟩:=I.list (SqL.of ea);obtain⟨as,ra⟩:=aao I g hy ho.1 ru;obtain⟨_,z⟩:=ye I g (a:=y) hl ho.2 rw';obtain⟨⟨cls,dd,data,sl⟩,h1,hc,n,hd⟩:=pl.isList;simp only at hc hd;subst hc hd;refine kZ vN ⟨_,h1,rfl⟩ PySem.F.entry_list_count (PySem.F.args_list_count_2 _ _) (SeqAt.list_countAt p its.toArray n dd sl u (aaw s.heap (toPy y))) ⟨h1,λw hw=>?_,?_⟩
    ·exact wy (A:=X.A) hu ra ho.1 z w (by simpa using hw)
    ·refine⟨.int (l.countP λz=>eqD z y),H,I.tok _,⟨s.toks,?_⟩,q _ (.int _)⟩
     rw[acp I g (a:=y) hl ho.2 rw']
  ·cases eg
def aua(d:D)(ds:List D):Option D:=match d,ds with
 |.tup l,[x]=>if okD 30 x&&l.all (okD 30) then ZY (.int (l.countP λy=>eqD y x)) else ZX
 |_,_=>ZX
theorem as9(hu:X.A.units+64<cLine):X.K=K->MtR X "tuple.count" (rmOf K aua):=λhk=>by
 subst hk;intro zv s σ H x vs v us Q I rx rv z9;obtain⟨F,d,ds,r,g,bd,il,eg,q⟩:=z9
 match d,ds,eg with
 |.tup l,[y],eg=>
  have eg:(if okD 30 y&&l.all (okD 30) then ZY (D.int (l.countP λz=>eqD z y)) else ZX)=ZY r:=eg
  split at eg
  ·rename_i ho;rw[bC] at ho;cases eg;cases il with
   |cons hy t=>
    cases t;obtain⟨u,rfl,ru⟩:=rv.one;obtain⟨p,ws,rfl,ea,hl⟩:=bd.tup;cases rx;obtain⟨its,rw',pl,_⟩:=I.tuple (SqT.of (g _ _ ea));obtain⟨as,ra⟩:=aao I g hy ho.1 ru;obtain⟨_,z⟩:=ye I g (a:=y) hl ho.2 rw';obtain⟨⟨cls,dd,data,sl⟩,h1,hc,n,hd⟩:=pl;simp only at hc hd;subst hc hd;refine kZ vJ ⟨_,h1,rfl⟩ PySem.F.entry_tuple_count (PySem.F.args_tuple_count_2 _ _) (SeqAt.tuple_countAt p its.toArray n dd sl u (aaw s.heap (toPy y))) ⟨h1,λw hw=>?_,?_⟩
    ·exact wy (A:=X.A) hu ra ho.1 z w (by simpa using hw)
    ·refine⟨.int (l.countP λz=>eqD z y),H,I.tok _,⟨s.toks,?_⟩,q _ (.int _)⟩
     rw[acp I g (a:=y) hl ho.2 rw']
  ·cases eg
def PE.or(h1:PE X e t1)(h2:PE X e t2):PE X e λσ H Q=>t1 σ H Q∨t2 σ H Q:=λzv s σ H Q I h=>h.elim (h1 zv s σ H Q I) (h2 zv s σ H Q I)
def aj6(d:D)(ds:List D):Option D:=match d with
 |.lst _=>aub d ds
 |.tup _=>aua d ds
 |_=>ZX
def ald(i:Nat)(ms:M (List D)):M D:=(dw i).bind λd0=>ms.bind λds=>(dw i).bind λd=>(lift (match d0,d with
 |.lst _,.lst _=>ZY ()
 |.tup _,.tup _=>ZY ()
 |_,_=>ZX)).bind λ_=>lift (aj6 d ds)
theorem ax6{d0 d:D}{u:Unit} (h:(match d0,d with
 |.lst _,.lst _=>ZY ()
 |.tup _,.tup _=>ZY ()
 |_,_=>ZX)=ZY u):(∃l l1,d0=.lst l/\d=.lst l1)∨∃l l1,d0=.tup l/\d=.tup l1:=by
 split at h
 ·exact .inl ⟨_,_,rfl,rfl⟩
 ·exact .inr ⟨_,_,rfl,rfl⟩
 ·cases h
def aj8{i:Nat}{ms:M (List D)}{apos cpos:Pos}(hu:X.A.units+64<cLine)(ho:PE X a (tVar i))(ha:ED K X (e::es) ms)
  (hbase:attributeBase a "count" X.env (eval a X.env)=eval a X.env:=by rfl)
  (hfew:((kI cpos (aQ (e::es) X.env)).all (λx => !x.1)&&(backToKw cpos (keywordEach [] X.env)).all (λx=>x.1.isSome)
   && decide ((e::es).length+([]:List rQ).length+(if ([]:List rQ).isEmpty then 0 else 1)<30))=ZW:=by rfl)
  (hline:(apos.endLine==cpos.line)=ZW:=by rfl) (hs:Zc X e es:=by rfl) (hplain:(kI cpos (aQ es X.env)).any (·.1)=ZV:=by rfl) :
  EV K X (.Call (.Attribute a "count" apos) (e::es) [] cpos) (ald i ms):=EV.mk λhk=>PE.imp (PE.or (awv pG vN PySem.F.type_list_count (aw8 hu hk) ho (ha hk) hbase hfew hline hs hplain) (awv PySem.F.plainAttrs_tuple vJ PySem.F.type_tuple_count (as9 hu hk) ho (ha hk) hbase hfew hline hs hplain)) λσ H Q z9=>by
 obtain⟨tg,F,ρ,d,ρ',G,em,q⟩:=z9;obtain⟨d0,ρ0,e0,em1⟩:=bj em;obtain⟨ds,ρ1,e1,em3⟩:=bj em1;obtain⟨d1,ρ2,e2,em4⟩:=bj em3;obtain⟨u0,ρ9,e9,em5⟩:=bj em4;obtain⟨e3,rfl⟩:=jb em5;obtain⟨g9,rfl⟩:=jb e9;obtain⟨rfl,v,hv,bv⟩:=uv G e0;rcases ax6 g9 with⟨l,l1,rfl,rfl⟩ |⟨l,l1,rfl,rfl⟩
 ·obtain⟨b,xs,rfl,hb,_⟩:=bv.lst G.sub;refine .inl ⟨_,hv,.inl ⟨rfl,xs,SqL.of hb⟩,tg,F,_,ds,ρ1,G,e1,λvs H1 F1 G1 x1 r1=>?_⟩
  obtain⟨rfl,v',hv',b'⟩:=uv G1 e2;rw[hv] at hv';cases hv';exact⟨F1,.lst l1,ds,d,G1.sub,b',r1,e3,λw iw=>q w H1 F1 G1 x1 iw⟩
 ·obtain⟨b,xs,rfl,hb,_⟩:=bv.tup;refine .inr ⟨_,hv,.inr (.inl ⟨rfl,.inr ⟨xs,G.sub _ _ hb⟩⟩),tg,F,_,ds,ρ1,G,e1,λvs H1 F1 G1 x1 r1=>?_⟩
  obtain⟨rfl,v',hv',b'⟩:=uv G1 e2;rw[hv] at hv';cases hv';exact⟨F1,.tup l1,ds,d,G1.sub,b',r1,e3,λw iw=>q w H1 F1 G1 x1 iw⟩
def at7(d:D)(ds:List D):Option D:=match d,ds with
 |.lst l,[x]=>if okD 30 x&&l.all (okD 30) then (l.findIdx? λy=>eqD y x).map λi=>.int i else ZX
 |_,_=>ZX
def apm{zv:List (bB×Obj)}{σ:L2.St}{F H:Hp}{s:aN}(I:Inv X zv σ H s)(g:Same F H){a:D}{n:Nat}{ds:List D}{vs:List V}{us:List aH}(il:IsL X.K F ds vs)(k:ds.all (okD n)=ZW)(rv:Vals vs us)(i:Nat)(hi:i<us.length)(hd:i<ds.length) :
  aaw s.heap (toPy a) us[i]=eqD ds[i] a:=by
 obtain⟨v,hv,iv⟩:=il.get (i:=i) (aG hd);obtain⟨u,hu,ru⟩:=rv.get hv;rw[aG hi] at hu;cases hu;have ko:okD n ds[i]=ZW:=cL.mp k _ (gQ hd);obtain⟨as,ra⟩:=aao I g iv ko ru;rw[agp ra (acg _ _ ko).1];rfl
theorem aw7(hu:X.A.units+64<cLine):X.K=K->MtR X "list.index" (rmOf K at7):=λhk=>by
 subst hk;intro zv s σ H x vs v us Q I rx rv z9;obtain⟨F,d,ds,r,g,bd,il,eg,q⟩:=z9
 match d,ds,eg with
 |.lst l,[y],eg=>
  have eg:(if okD 30 y&&l.all (okD 30) then (l.findIdx? λz=>eqD z y).map (λi=>D.int i) else ZX)=ZY r:=eg
  split at eg
  ·rename_i ho;rw[bC] at ho;cases ei:l.findIdx? (λz=>eqD z y) with
   |none=>rw[ei] at eg;cases eg
   |some j=>
    rw[ei] at eg;cases eg;obtain⟨hj,hhit,hno⟩:=mL.mp ei;cases il with
    |cons hy t=>
     cases t;obtain⟨u,rfl,ru⟩:=rv.one;obtain⟨p,ws,rfl,ea,hl⟩:=bd.lst g;cases rx;obtain⟨its,rw',pl,hz⟩:=I.list (SqL.of ea);have l1:=hl.length;have l2:=rw'.length;rw[jR] at hz;obtain⟨as,ra⟩:=aao I g hy ho.1 ru;obtain⟨_,z⟩:=ye I g (a:=y) hl ho.2 rw';obtain⟨⟨cls,dd,data,sl⟩,h1,hc,n,hd⟩:=pl.isList;simp only at hc hd;subst hc hd;have hj':j<its.toArray.size:=by rw[aP];omega
     refine kZ vM ⟨_,h1,rfl⟩ PySem.F.entry_list_index (PySem.F.args_list_index_2 _ _) (SeqAt.list_indexAt p its.toArray n dd sl u (aaw s.heap (toPy y)) j hj' (by omega) ?_ λm hm hlt=>?_) ⟨h1,λw hw=>?_,?_⟩
     ·have:=apm I g (a:=y) hl ho.2 rw' j (by omega) hj
      simpa[this] using hhit
     ·rw[aP] at hm;have:=apm I g (a:=y) hl ho.2 rw' m hm (by omega)
      have hn:=hno m hlt
      simpa[this] using hn
     ·exact wy (A:=X.A) hu ra ho.1 z w (by simpa using hw)
     ·exact⟨.int j,H,I.tok _,⟨_,rfl⟩,q _ (.int _)⟩
  ·cases eg
section
variable(ρ:Ro)
@[simp] theorem a7y(i:Nat)(g:D->List D->Option D)(ms:M (List D)):a1i i g ms ρ=((dw i).bind λd0=>(lift (match d0 with
 |.lst _=>ZY ()
 |_=>ZX)).bind λ_=>ms.bind λds=>(dw i).bind λd=>lift (g d ds)) ρ:=rfl
@[simp] theorem a3d(l:List D)(x:D):aub (.lst l) [x]=if okD 30 x&&l.all (okD 30) then ZY (.int (l.countP λy=>eqD y x)) else ZX:=rfl
@[simp] theorem a3c(l:List D)(x:D):at7 (.lst l) [x]=if okD 30 x&&l.all (okD 30) then (l.findIdx? λy=>eqD y x).map (λi=>D.int i) else ZX:=rfl
end
end
end Dn
namespace En
open PySem PySem.Builtin
def It1(k:Bool)(h:iK)(it l:bB)(i:Nat):Prop:=cond k (h.IsTupleIter it l i) (h.IsListIter it l i)
def Sq1(k:Bool)(h:iK)(l:bB)(xs:Array aH):Prop:=cond k (h.IsTuple l xs) (h.IsList l xs)
section
variable{prog:cF}{w:dX}{A:dG}{E:aH->aN->Prop}{s:aN}
def a08(h1:s.heap.IsTupleIter it t i)(h2:s.heap.IsTuple t xs)(hx:xs[i]? = ZY x)
  (q:∀h',h'.IsTupleIter it t (i+1)->fL it s.heap h'->Q x { s with heap:=h' }):bD 'F' A (SmallTypes.nextOf (.ref it)) Q E s:=by
 obtain⟨o1,e1,c1,d1⟩:=id h1;obtain⟨o2,e2,_,k2,d2⟩:=h2;have nn:¬((cY t==cQ)=ZW):=cM;unfold SmallTypes.nextOf;refine aA (dZ (name:=fV "__next__") h1.typeIs lR (fO lR h1.typeIs uM ?_ (uA _)));refine aA (m:=field (.ref it) 0) (dN e1 d1 (x:=.ref t) rfl ?_);show bD _ _ (if (cY t==cQ)=ZW then _ else (field (.ref it) 1 >>= _)) _ _ s;rw[if_neg nn]
 refine aA (m:=field (.ref it) 1) (dN e1 d1 (x:=.int i 0) rfl ?_);refine aA (m:=seqItems? (.ref t)) (gG e2 d2 ?_);simp only[cN,hx];refine aA (fM e1 d1 (by simp) (aF ⟨x,rfl,aF (q _ ?_ (cO ..))⟩))
 refine⟨_,cC _ e1 (fD (bW d1 _)),(lM ..).trans c1,?_⟩;rw[bW d1];simp[iZ]
def a2h(hh:A.handled=ZX)(h1:s.heap.IsTupleIter it t i)(h2:s.heap.IsTuple t xs)(hx:xs[i]? = ZX)
  (q:∀h' e,xJ it s.heap h'->(∃o,h'.get? e=ZY o/\o.cls=.type "StopIteration")->E (.ref e) { s with heap:=h' }):bD 'F' A (SmallTypes.nextOf (.ref it)) Q E s:=by
 obtain⟨o1,e1,c1,d1⟩:=id h1;obtain⟨o2,e2,_,k2,d2⟩:=h2;have nn:¬((cY t==cQ)=ZW):=cM;unfold SmallTypes.nextOf;refine aA (dZ (name:=fV "__next__") h1.typeIs lR (fO lR h1.typeIs uM ?_ (uA _)));refine aA (m:=field (.ref it) 0) (dN e1 d1 (x:=.ref t) rfl ?_);show bD _ _ (if (cY t==cQ)=ZW then _ else (field (.ref it) 1 >>= _)) _ _ s;rw[if_neg nn]
 refine aA (m:=field (.ref it) 1) (dN e1 d1 (x:=.int i 0) rfl ?_);refine aA (m:=seqItems? (.ref t)) (gG e2 d2 ?_);simp only[cN,hx];refine aA (mR (aA (fM e1 d1 (by simp) ?_)))
 refine aA (m:=newExc (.type "StopIteration") []) ?_;simp only[newExc,newTuple];refine aA (cA ?_ (by size_fits))
 refine aA (m:=firstArgMember _ _) (wpAny_of_eq (a:=cQ) (by first |rfl | (simp only[firstArgMember];rfl)) (cA ?_ (by size_fits)))
 simp only[raiseNew];refine aA (wpAny_handled ?_);first |rw[show A.in1.handled=ZX from hh] |rw[hh]
 refine aA (aF (wpAny_throw (q _ _ ?_ ⟨_,aM _ rfl,rfl⟩)));exact((cO ..).extBut.push _).push _
theorem src(hh:A.handled=ZX)(k:Bool)(it l:bB)(ne:l≠it)(xs:Array aH):Draws prog w A it [it,l] xs.size (λi v=>xs[i]? = ZY v) (λi h=>It1 k h it l i/\Sq1 k h l xs):=by
 cases k with
 |false=>exact Draws.list hh it l ne xs
 |true=>exact{
   live:=λ_ _ z=>let ⟨o,e,_⟩:=z.1;⟨o,e⟩
   frame:=λ_ _ _ z kk=>⟨(let ⟨o,e,r⟩:=z.1;⟨o,kk it (by simp) o e,r⟩),(let ⟨o,e,r⟩:=z.2;⟨o,kk l (by simp) o e,r⟩)⟩
   item:=λi s Q E hi z q=>a08 z.1 z.2 (x:=xs[i]) (by simp[hi]) λh' z' sb=>q _ h' s.toks (by simp[hi]) ⟨z',Heap.IsTuple.extBut z.2 sb.extBut ne⟩ sb
   done:=λs Q E z q=>a2h hh z.1 z.2 (by simp) q }
def It1.at(x:It1 k h it l i)(e:∀o,h.get? it=ZY o->h'.get? it=ZY o):It1 k h' it l i:=by
 cases k <;> exact(let ⟨o,z,r⟩:=x;⟨o,e _ z,r⟩)
def It1.got(x:It1 k h it l i):∃o,h.get? it=ZY o/\∀v,o.data≠.cell v:=by
 cases k <;> exact(let ⟨o,z,_,r⟩:=x;⟨o,z,λv e=>by rw[r] at e;cases e⟩)
def Sq1.at(x:Sq1 k h l xs)(e:∀o,h.get? l=ZY o->h'.get? l=ZY o):Sq1 k h' l xs:=by
 cases k <;> exact(let ⟨o,z,r⟩:=x;⟨o,e _ z,r⟩)
def Sq1.got(x:Sq1 k h l xs):∃o,h.get? l=ZY o:=by
 cases k <;> exact(let ⟨o,z,_⟩:=x;⟨o,z⟩)
theorem axm(h:Sq1 k s.heap l xs)
  (q:Q (.ref s.heap.objs.size) { s with heap:=s.heap.push { cls:=.type (cond k "tuple_iterator" "list_iterator"),data:=.fields #[.ref l,.int 0 0] } }):bD 'F' A (pyIter (.ref l)) Q E s:=by
 cases k with
 |false=>exact wpAny_pyIter_list h q
 |true=>exact wpAny_pyIter_tuple h q
def ang(e:h.get? a=ZY { cls:=.type (cond k "tuple_iterator" "list_iterator"),data:=.fields #[.ref l,.int 0 0] }):It1 k h a l 0:=by
 cases k <;> exact⟨_,e,rfl,rfl⟩
end
set_option maxRecDepth 100000
abbrev eh1(k:Bool)(h:iK)(l:bB):iK:=h.push { cls:=.type (cond k "tuple_iterator" "list_iterator"),data:=.fields #[.ref l,.int 0 0] }
abbrev eh2(k:Bool)(h:iK)(l:bB):iK:=(eh1 k h l).push { cls:=.type "enumerate", data:=.fields #[.none,.bool ZV,.ref h.objs.size,iZ 0,.none,.none] }
def a1g(k:Bool)(l:bB)(o:Obj)(xs:Array aH) :
  Meets (kY.«enumerate.__new__» ⟨[.type "enumerate", .ref l],[]⟩) (λ_ R s=>s.heap.get? l=ZY o/\Sq1 k s.heap l xs/\R (.ok (.ret (.ref (eh1 k s.heap l).objs.size))) { s with heap:=eh2 k s.heap l }) :=
 .of_wp λprog w A R s h=>by
  obtain⟨hp,g,d,tk,os⟩:=s;obtain⟨ho,r1,h⟩:=h;have sb:=sub_enumerate;have r1:Sq1 k (wV ⟨hp,g,d,tk,os⟩) l xs:=r1;wp_walk using pD ho;refine wpAny_stack_any λst=>aF ?_
  split
  ·rename_i c _ _ _ _ _;cases(c==lB "enumerate") <;> (wp_walk using pD ho,axm r1;exact⟨_,rfl,h⟩)
  ·wp_walk using pD ho,axm r1;exact⟨_,rfl,h⟩
def ave(s1:Sq1 k s.heap l xs)
  (q:∀h',IsEnum h' (s.heap.objs.size+1) s.heap.objs.size 0 .none->It1 k h' s.heap.objs.size l 0->h'.objs.size=s.heap.objs.size+2->(∀b o,s.heap.get? b=ZY o->h'.get? b=ZY o)->Q (.ref (s.heap.objs.size+1)) { s with heap:=h' }) :
  bD 'F' A (call (.type "enumerate") [.ref l]) Q E s:=by
 obtain⟨o,ho⟩:=s1.got;refine callType_new F.called_enumerate (by decide) (F.typeCall_enumerate_1 _) (F.newCall_enumerate_1 _) (λobj=>F.args_object_init_2 obj _) F.entry_enumerate_new (a1g k l o xs) ⟨ho,s1,?_⟩
 have z1:(eh1 k s.heap l).objs.size=s.heap.objs.size+1:=cG ..
 have g2:(eh2 k s.heap l).get? (eh1 k s.heap l).objs.size=ZY _:=aM _ rfl;have g1:(eh2 k s.heap l).get? s.heap.objs.size=ZY _:=aB _ (aM _ rfl);rw[z1] at g2;show _/\_;rw[z1];exact⟨⟨_,g2,rfl⟩,q _ g2 (ang g1) (by rw[cG,z1]) λb o x=>aB _ (aB _ x)⟩
end En
namespace En
open PySem PySem.Builtin
set_option maxRecDepth 100000
def azx(v1 v2:aH):checkTypeCall "zip" ⟨[v1,v2],[]⟩=pure ():=by kernel_rfl
def a1e(v1 v2:aH):checkBuiltinCall "zip.__new__" ⟨[.type "zip", v1,v2],[]⟩=pure ():=by kernel_rfl
def a2v(o v1 v2:aH):uB "object.__init__" ⟨[o,v1,v2],[]⟩:=by
 unfold uB;rw[signature?_of (id := "object.__init__") (n:=['_','_','t','i','n','i','_','_']) (o:=['t','c','e','j','b','o']) (by kernel_rfl) F.owner_object];kernel_rfl
abbrev Row2(h:iK)(T:bB)(v1 v2:aH):Prop:=h.get? T=ZY { cls:=.type "tuple", data:=.seq #[v1,v2] }
structure Apart2 (z TI TO i1 i2 l1 l2:bB):Prop where
 nTIz:TI≠z
 nTOz:TO≠z
 nTOTI:TO≠TI
 ni1z:i1≠z
 ni1TI:i1≠TI
 ni1TO:i1≠TO
 ni2z:i2≠z
 ni2TI:i2≠TI
 ni2TO:i2≠TO
 ni2i1:i2≠i1
 nl1z:l1≠z
 nl1TO:l1≠TO
 nl1i1:l1≠i1
 nl1i2:l1≠i2
 nl2z:l2≠z
 nl2TO:l2≠TO
 nl2i1:l2≠i1
 nl2i2:l2≠i2
section
variable{prog:cF}{w:dX}{A:dG}{E:aH->aN->Prop}{s:aN}
def a4k(h:Row2 s.heap T v1 v2)(q:∀h',Row2 h' T x v2->fL T s.heap h'->Q () { s with heap:=h' }):bD 'F' A (updateSeq T (·.setIfInBounds 0 x)) Q E s:=by
 refine wpAny_updateSeq h rfl (q _ (show Heap.get? _ T=_ from ?_) (cO ..))
 rw[cC _ h rfl];simp[iM]
def a4j(h:Row2 s.heap T v1 v2)(q:∀h',Row2 h' T v1 x->fL T s.heap h'->Q () { s with heap:=h' }):bD 'F' A (updateSeq T (·.setIfInBounds 1 x)) Q E s:=by
 refine wpAny_updateSeq h rfl (q _ (show Heap.get? _ T=_ from ?_) (cO ..))
 rw[cC _ h rfl];simp[iM]
def aq5{z TI TO i1 i2 l1 l2:bB}{k1 k2:Bool}{i:Nat}{x1 x2:Array aH}{v1 v2:aH}{Q:aH->aN->Prop}(hh:A.handled=ZX)(D:Apart2 z TI TO i1 i2 l1 l2)
  (hz:uK s.heap z TI TO .none) (hI:Row2 s.heap TI (.ref i1) (.ref i2)) (hO:Row2 s.heap TO v1 v2) (h1:It1 k1 s.heap i1 l1 i) (s1:Sq1 k1 s.heap l1 x1) (h2:It1 k2 s.heap i2 l2 i) (s2:Sq1 k2 s.heap l2 x2) (b1:i<x1.size) (b2:i<x2.size)
  (q:∀h' tk y1 y2,x1[i]? = ZY y1->x2[i]? = ZY y2->uK h' z TI TO (iZ s.heap.objs.size)->Row2 h' TO y1 y2->It1 k1 h' i1 l1 (i+1)->It1 k2 h' i2 l2 (i+1)->Row2 h' s.heap.objs.size y1 y2->h'.objs.size=s.heap.objs.size+1 ->
   (∀c o,c≠z->c≠TO->c≠i1->c≠i2->s.heap.get? c=ZY o->h'.get? c=ZY o)->Q (.ref s.heap.objs.size) { s with heap:=h',toks:=tk }) :
  bD 'F' A (kY.«zip.__next__» ⟨[.ref z],[]⟩) (λfin s'=>∃v,fin=.done (.ret v)/\Q v s') E s:=by
 refine aA (m:=field (.ref z) 2) (dN hz rfl (x:=.bool ZV) rfl ?_);refine aA (m:=field (.ref z) 3) (dN hz rfl (x:=.ref TI) rfl ?_);refine aA (gG hI rfl ?_);refine aA (m:=SmallTypes.ownedTupleIsFree (.ref z)) ?_;unfold SmallTypes.ownedTupleIsFree;refine aA (dN hz rfl (x:=.none) rfl (aF ?_));simp only[if_true];refine aA (mR (aA (dN hz rfl (x:=.ref TO) rfl ?_)));refine aA (wpAny_setField_rec hz (by simp) λg0 z0 a0=>?_)
 have z0:uK g0 z TI TO .ellipsis:=z0;refine aA ?_;simp only[zL,zY,qJ,rH];refine aA (aA (wpAny_onRaise ?_));refine aA (m:=SmallTypes.nextOf (.ref i1)) ((src hh k1 i1 l1 D.nl1i1 x1).item i _ _ _ b1 ⟨(h1.at λ_ e=>(a0.extBut _ _ D.ni1z e)),(s1.at λ_ e=>(a0.extBut _ _ D.nl1z e))⟩ λy1 f1 t1 p1 q1 c1=>aF ?_)
 have c1:fL i1 g0 f1:=c1;have P1:Row2 f1 TO v1 v2:=(c1.extBut _ _ D.ni1TO.symm (a0.extBut _ _ D.nTOz hO));refine aA (gG P1 rfl ?_);refine aA (a4k P1 λg1 O1 a1=>?_)
 have a1:fL TO f1 g1:=a1;refine aA (wpAny_letGo (aF ?_));refine aA (aA (wpAny_onRaise ?_));refine aA (m:=SmallTypes.nextOf (.ref i2)) ((src hh k2 i2 l2 D.nl2i2 x2).item i _ _ _ b2 ⟨(h2.at λ_ e=>(a1.extBut _ _ D.ni2TO (c1.extBut _ _ D.ni2i1 (a0.extBut _ _ D.ni2z e)))),(s2.at λ_ e=>(a1.extBut _ _ D.nl2TO (c1.extBut _ _ D.nl2i1 (a0.extBut _ _ D.nl2z e))))⟩ λy2 f2 t2 p2 q2 c2=>aF ?_)
 have c2:fL i2 g1 f2:=c2;have P2:Row2 f2 TO y1 v2:=(c2.extBut _ _ D.ni2TO.symm O1);refine aA (gG P2 rfl ?_);refine aA (a4j P2 λg2 O2 a2=>?_)
 have a2:fL TO f2 g2:=a2;refine aA (wpAny_letGo (aF (aF ?_)));refine aA (gG O2 rfl (aA (wpAny_newTuple ?_)));have sz:g2.objs.size=s.heap.objs.size:=by rw[a2.1,c2.1,a1.1,c1.1,a0.1]
 have zn:uK g2 z TI TO .ellipsis:=(a2.extBut _ _ D.nTOz.symm (c2.extBut _ _ D.ni2z.symm (a1.extBut _ _ D.nTOz.symm (c1.extBut _ _ D.ni1z.symm z0))));have kn:∀c o,c≠z->c≠TO->c≠i1->c≠i2->s.heap.get? c=ZY o->g2.get? c=ZY o:=λc o n0 n1 n2 n3 e=>(a2.extBut _ _ n1 (c2.extBut _ _ n3 (a1.extBut _ _ n1 (c1.extBut _ _ n2 (a0.extBut _ _ n0 e)))))
 have j1:It1 k1 g2 i1 l1 (i+1):=q1.1.at λ_ e=>(a2.extBut _ _ D.ni1TO (c2.extBut _ _ D.ni2i1.symm (a1.extBut _ _ D.ni1TO e)))
 have j2:It1 k2 g2 i2 l2 (i+1):=q2.1.at λ_ e=>(a2.extBut _ _ D.ni2TO e)
 have lz:z<g2.objs.size:=aO zn;refine aA (m:=SmallTypes.ownedTupleHandOut (.ref z) (.ref g2.objs.size)) ?_;unfold SmallTypes.ownedTupleHandOut;have zp:uK (g2.push { cls:=.type "tuple", data:=.seq #[y1,y2] }) z TI TO .ellipsis:=aB _ zn;refine aA (wpAny_setField_rec zp (by simp) λe1 z1 b1'=>?_)
 have z1:uK e1 z TI TO (iZ g2.objs.size):=z1;refine wpAny_setField_rec z1 (by simp) λe2 z2 b2'=>?_
 have z2:uK e2 z TI TO (iZ g2.objs.size):=z2;have up:∀c o,c≠z->g2.get? c=ZY o->e2.get? c=ZY o:=λc o n1 e=>b2'.extBut _ _ n1 (b1'.extBut _ _ n1 (aB _ e))
 have t2:Row2 e2 g2.objs.size y1 y2:=b2'.extBut _ _ (gP lz) (b1'.extBut _ _ (gP lz) (aM _ rfl));have s2':e2.objs.size=g2.objs.size+1:=by rw[b2'.1,b1'.1,cG]
 rw[sz] at z2 t2 s2';refine aF ⟨_,rfl,?_⟩;show Q (.ref g2.objs.size) _;rw[sz];exact q e2 _ y1 y2 p1 p2 z2 (up _ _ D.nTOz O2) (j1.at λ_ e=>up _ _ D.ni1z e) (j2.at λ_ e=>up _ _ D.ni2z e) t2 s2' λc o n0 n1 n2 n3 e=>up c o n0 (kn c o n0 n1 n2 n3 e)
def av0(hh:A.handled=ZX)(D:Apart2 z TI TO i1 i2 l1 l2)
  (hz:uK s.heap z TI TO .none) (hI:Row2 s.heap TI (.ref i1) (.ref i2)) (hO:Row2 s.heap TO v1 v2) (h1:It1 k1 s.heap i1 l1 x1.size) (s1:Sq1 k1 s.heap l1 x1)
  (q:∀h' e,(∀c o,c≠z->c≠i1->s.heap.get? c=ZY o->h'.get? c=ZY o)->(∃o,h'.get? e=ZY o/\o.cls=.type "StopIteration")->E (.ref e) { s with heap:=h' }) :
  bD 'F' A (kY.«zip.__next__» ⟨[.ref z],[]⟩) Q E s:=by
 refine aA (m:=field (.ref z) 2) (dN hz rfl (x:=.bool ZV) rfl ?_);refine aA (m:=field (.ref z) 3) (dN hz rfl (x:=.ref TI) rfl ?_);refine aA (gG hI rfl ?_);refine aA (m:=SmallTypes.ownedTupleIsFree (.ref z)) ?_;unfold SmallTypes.ownedTupleIsFree;refine aA (dN hz rfl (x:=.none) rfl (aF ?_));simp only[if_true];refine aA (mR (aA (dN hz rfl (x:=.ref TO) rfl ?_)));refine aA (wpAny_setField_rec hz (by simp) λg0 z0 a0=>?_)
 have z0:uK g0 z TI TO .ellipsis:=z0;refine aA ?_;simp only[zL,zY,qJ,rH];refine aA (aA (wpAny_onRaise ?_));refine aA (m:=SmallTypes.nextOf (.ref i1)) ((src hh k1 i1 l1 D.nl1i1 x1).done _ _ _ ⟨(h1.at λ_ e=>a0.extBut _ _ D.ni1z e),(s1.at λ_ e=>a0.extBut _ _ D.nl1z e)⟩ λf1 e c1 ⟨oe,he,ce⟩=>?_)
 have zf:uK f1 z TI TO .ellipsis:=c1 _ _ D.ni1z.symm z0;have ez:e≠z:=λx=>by subst x;rw[zf] at he;cases he;simp at ce
 refine wpAny_setField_rec zf (by simp) λf2 _ a1=>q f2 e (λc o n1 n2 y=>a1.extBut _ _ n1 (c1 _ _ n2 (a0.extBut _ _ n1 y))) ⟨oe,a1.extBut _ _ ez he,ce⟩
abbrev aq7(h:iK)(k1 k2:Bool)(l1 l2:bB):iK:=h.push { cls:=.type (cond k1 "tuple_iterator" "list_iterator"),data:=.fields #[.ref l1,.int 0 0] }
abbrev av3(h:iK)(k1 k2:Bool)(l1 l2:bB):iK:=(aq7 h k1 k2 l1 l2).push { cls:=.type (cond k2 "tuple_iterator" "list_iterator"),data:=.fields #[.ref l2,.int 0 0] }
abbrev av2(h:iK)(k1 k2:Bool)(l1 l2:bB):iK:=(av3 h k1 k2 l1 l2).push { cls:=.type "tuple", data:=.seq #[.ref h.objs.size,.ref (aq7 h k1 k2 l1 l2).objs.size] }
abbrev av1(h:iK)(k1 k2:Bool)(l1 l2:bB):iK:=(av2 h k1 k2 l1 l2).push { cls:=.type "tuple", data:=.seq #[.none,.none] }
abbrev ami(h:iK)(k1 k2:Bool)(l1 l2:bB):iK:=(av1 h k1 k2 l1 l2).push { cls:=.type "zip", data:=.fields #[.none,.bool ZV,.bool ZV,.ref (av3 h k1 k2 l1 l2).objs.size,.ref (av2 h k1 k2 l1 l2).objs.size] }
def a1f(k1 k2:Bool)(l1 l2:bB)(x1 x2:Array aH) :
  Meets (kY.«zip.__new__» ⟨[.type "zip", .ref l1,.ref l2],[]⟩) (λ_ R s=>Sq1 k1 s.heap l1 x1/\Sq1 k2 s.heap l2 x2/\R (.ok (.ret (.ref (av1 s.heap k1 k2 l1 l2).objs.size))) { s with heap:=ami s.heap k1 k2 l1 l2 }) :=
 .of_wp λprog w A R s h=>by
  obtain⟨hp,g,d,tk,os⟩:=s;obtain⟨s1,s2,h⟩:=h;have sb:=sub_zip;have r1:Sq1 k1 (wV ⟨hp,g,d,tk,os⟩) l1 x1:=s1.at λ_ e=>e
  have r2:Sq1 k2 (wV ⟨aq7 hp k1 k2 l1 l2,g,d,tk,os⟩) l2 x2:=s2.at λ_ e=>aB _ (e)
  wp_walk using axm r1,axm r2;exact⟨_,rfl,h⟩
def ava(s1:Sq1 k1 s.heap l1 x1)(s2:Sq1 k2 s.heap l2 x2)
  (q:∀h',uK h' (s.heap.objs.size+4) (s.heap.objs.size+2) (s.heap.objs.size+3) .none->Row2 h' (s.heap.objs.size+2) (.ref s.heap.objs.size) (.ref (s.heap.objs.size+1))->Row2 h' (s.heap.objs.size+3) .none .none->It1 k1 h' s.heap.objs.size l1 0->It1 k2 h' (s.heap.objs.size+1) l2 0->h'.objs.size=s.heap.objs.size+5->(∀c o,s.heap.get? c=ZY o->h'.get? c=ZY o)->Q (.ref (s.heap.objs.size+4)) { s with heap:=h' }) :
  bD 'F' A (call (.type "zip") [.ref l1,.ref l2]) Q E s:=by
 refine callType_new F.called_zip (by decide) (azx _ _) (a1e _ _) (λobj=>a2v obj _ _) F.entry_zip_new (a1f k1 k2 l1 l2 x1 x2) ⟨s1,s2,?_⟩
 have e1:(aq7 s.heap k1 k2 l1 l2).objs.size=s.heap.objs.size+1:=by rw[cG]
 have e2:(av3 s.heap k1 k2 l1 l2).objs.size=s.heap.objs.size+2:=by rw[cG,e1]
 have eI:(av2 s.heap k1 k2 l1 l2).objs.size=s.heap.objs.size+3:=by rw[cG,e2]
 have eO:(av1 s.heap k1 k2 l1 l2).objs.size=s.heap.objs.size+4:=by rw[cG,eI]
 have eZ:(ami s.heap k1 k2 l1 l2).objs.size=s.heap.objs.size+5:=by rw[cG,eO]
 have gZ:(ami s.heap k1 k2 l1 l2).get? (av1 s.heap k1 k2 l1 l2).objs.size=ZY _:=aM _ rfl;have gO:(ami s.heap k1 k2 l1 l2).get? (av2 s.heap k1 k2 l1 l2).objs.size=ZY _:=aB _ (aM _ rfl);have gI:(ami s.heap k1 k2 l1 l2).get? (av3 s.heap k1 k2 l1 l2).objs.size=ZY _:=aB _ (aB _ (aM _ rfl));have j1:(ami s.heap k1 k2 l1 l2).get? s.heap.objs.size=ZY _:=aB _ (aB _ (aB _ (aB _ (aM _ rfl))));have j2:(ami s.heap k1 k2 l1 l2).get? (aq7 s.heap k1 k2 l1 l2).objs.size=ZY _:=aB _ (aB _ (aB _ (aM _ rfl)));show _/\_;rw[e2,eI,eO] at gZ;rw[e1,e2] at gI;rw[eI] at gO;rw[e1] at j2;rw[eO];exact⟨⟨_,gZ,rfl⟩,q _ gZ gI gO (ang j1) (ang j2) eZ λc o x=>aB _ (aB _ (aB _ (aB _ (aB _ (x)))))⟩
end
structure Apart3 (z TI TO i1 i2 i3 l1 l2 l3:bB):Prop where
 nTIz:TI≠z
 nTOz:TO≠z
 nTOTI:TO≠TI
 ni1z:i1≠z
 ni1TI:i1≠TI
 ni1TO:i1≠TO
 ni2z:i2≠z
 ni2TI:i2≠TI
 ni2TO:i2≠TO
 ni2i1:i2≠i1
 ni3z:i3≠z
 ni3TI:i3≠TI
 ni3TO:i3≠TO
 ni3i1:i3≠i1
 ni3i2:i3≠i2
 nl1z:l1≠z
 nl1TO:l1≠TO
 nl1i1:l1≠i1
 nl1i2:l1≠i2
 nl1i3:l1≠i3
 nl2z:l2≠z
 nl2TO:l2≠TO
 nl2i1:l2≠i1
 nl2i2:l2≠i2
 nl2i3:l2≠i3
 nl3z:l3≠z
 nl3TO:l3≠TO
 nl3i1:l3≠i1
 nl3i2:l3≠i2
 nl3i3:l3≠i3
section
variable{prog:cF}{w:dX}{A:dG}{E:aH->aN->Prop}{s:aN}
end
end En
namespace Mn
open L2 En
def SqK(k:Bool)(K:Fg9)(H:Hp)(a:bB)(xs:List V):Prop:=cond k (SqT K H a xs) (SqL K H a xs)
def agt{xs:List V}{us:List aH}(r:Vals xs us){i:Nat}{x:V}{u:aH}(h:xs[i]? = ZY x)(h':us.toArray[i]? = ZY u):RelV x u:=by
 obtain⟨u',e,z⟩:=r.get h;have:us[i]? = ZY u:=by simpa using h'
 rw[this] at e;cases e;exact z
section
variable{X:Cx}{zv:List (bB×Obj)}{σ:L2.St}{H:Hp}{s:aN}{h':iK}{a:bB}{xs ys:List V}{k:Bool}
theorem af3(I:Inv X zv σ H s)(h:SqK k X.K H a xs):∃its:List aH,Vals xs its/\Sq1 k s.heap a its.toArray:=by
 cases k with
 |false=>
  obtain⟨its,r,p,_⟩:=I.list h;exact⟨its,r,p.isList⟩
 |true=>
  obtain⟨its,r,p,_⟩:=I.tuple h;exact⟨its,r,p⟩
theorem ani(I:Inv X zv σ H s)(h:SqK k X.K H a xs)(h2:SqK k X.K H a ys):xs=ys:=by
 cases k with
 |false=>exact I.list_inj h h2
 |true=>exact I.tuple_inj h h2
def afj{t':Nat}{fp:List bB}(I:Inv X zv σ H s)(kk:∀b o,b∉fp->s.heap.get? b=ZY o->h'.get? b=ZY o)(hf:∀b∈fp,FpOk X zv H b):Inv X zv σ H { s with heap:=h',toks:=t' }:=by
 have nit:∀b u,H b=ZY u->b∉fp:=λb u e z=>by rw[(hf b z).1] at e;cases e
 have nL:X.env.locals∉fp:=λz=>(hf _ z).2.1 rfl
 refine I.step (g':=s.gens) (d':=s.drawn) (ch:=fp) (λb hb=>⟨(hf b hb).2.2.2.1,(hf b hb).2.1,(hf b hb).2.2.2.2.1,(hf b hb).2.2.2.2.2⟩) (λb o _ _ hc e _=>kk b o hc e) (λb o _ _ hc e _=>⟨o.slots,kk b o hc e⟩) (λ_ _ _ _ n=>n)
  (λb o hc e=>⟨o,kk b o hc e⟩) (λ_ _ e=>e) (λ_ _ _ e=>e) (λb ps e=>⟨#[],by rw[e];simp⟩) (λm hm=>?_) (λb u e=>?_) I.bare
 ·obtain⟨o,es,ep,ho,r⟩:=hm;exact⟨o,es,ep,kk _ o nL ho,r⟩
 ·refine(I.hok b u e).stay (λc v hc q=>kk c v ?_ q) (λ_ q=>q) λ_ _ q=>q
  rcases hc with z |z
  ·rw[z];exact nit b u e
  ·exact nit c _ z
def atx{t':Nat}{fp:List bB}{vs:List V}{us:List aH}(I:Inv X zv σ H s)(kk:∀b o,b∉fp->s.heap.get? b=ZY o->h'.get? b=ZY o)(hf:∀b∈fp,FpOk X zv H b)(hb:∀b∈fp,b<s.heap.objs.size)
  (r:Vals vs us) (hz:vs.length<=cU) (ht:h'.get? s.heap.objs.size=ZY { cls:=.type "tuple", data:=.seq us.toArray }):Inv X zv σ (upd H s.heap.objs.size (.tup vs)) { s with heap:=h',toks:=t' }:=by
 have I1:=I.laid (h':=s.heap.push { cls:=.type "tuple", data:=.seq us.toArray }) (t':=s.toks) (a:=s.heap.objs.size) (o:=.tup vs) (λb u e=>aB _ e) (aL _) ⟨hz,us,r,⟨_,aM _ rfl,rfl,rfl,_,rfl⟩⟩
 have k2:∀b o,b∉fp->(s.heap.push { cls:=.type "tuple", data:=.seq us.toArray }).get? b=ZY o->h'.get? b=ZY o:=λb o hn e=>by
  rcases Heap.get?_push_cases e with⟨rfl,rfl⟩ |e
  ·exact ht
  ·exact kk b o hn e
 have f2:∀b∈fp,FpOk X zv (upd H s.heap.objs.size (.tup vs)) b:=λb hb'=>by
  obtain⟨f0,f⟩:=hf b hb';exact⟨by rw[cg (bI (hb b hb'))];exact f0,f⟩
 have R:=afj (t':=t') (h':=h') (fp:=fp) I1 k2 f2;exact R
end
def ayz(x:It1 k h it l i)(y:Sq1 k' h a xs):a≠it:=λe=>by
 subst e;cases k <;> cases k' <;> exact(by
  obtain⟨o,e1,c1,_⟩:=x;obtain⟨o',e2,c2,_⟩:=y;rw[e1] at e2;cases e2;rw[c1] at c2;simp at c2)
def a8y(e:h.get? b=ZY o)(c:o.cls=.type n)(hn:n ≠ "list" /\ n ≠ "tuple")(y:Sq1 k h a xs):a≠b:=λz=>by
 subst z;cases k <;> exact(by
  obtain⟨o',e2,c2,_⟩:=y;rw[e] at e2;cases e2;rw[c] at c2;simp at c2
  first |exact hn.1 c2 |exact hn.2 c2)
def Ite(K:Fg9)(k:Bool)(a:bB):It :=
 ⟨λi H=>∃xs x,SqK k K H a xs/\xs[i]? = ZY x,λi H x H'=>∃q v,H q=ZX/\x=.ref q/\H'=upd H q (.tup [.int i,v])/\∀xs,SqK k K H a xs->xs[i]? = ZY v,λi H=>∃xs,SqK k K H a xs/\xs.length=i⟩
def ark{P:cF}{w:dX}{K:Fg9}{elts:List fP}{n:Nat}{pos:Pos}(k:Bool)(a e it:bB)(ne:e≠it) :
  Turn P w K (.Tuple elts n pos) (Ite K k a) [e,it] e (λi h=>(∃old,IsEnum h e it i old)/\It1 k h it a i) where
 mem:=by simp
 obj:=λi h st b hb=>by
  have hb:b=e∨b=it:=by simpa using hb
  rcases hb with rfl |rfl
  ·obtain⟨old,z⟩:=st.1;exact⟨_,z,λv z=>by cases z⟩
  ·exact st.2.got
 keep:=λi h h' st kk=>by
  obtain⟨⟨old,z⟩,y⟩:=st;exact⟨⟨old,kk e (by simp) _ z⟩,y.at λo z=>kk it (by simp) o z⟩
 item:=by
  intro X hP hw hK hc i zv s σ H E I hf st hg;subst hP hw hK;obtain⟨⟨old,he⟩,hi⟩:=st;obtain⟨xs,x,hq,hx⟩:=hg;obtain⟨its,rv,sq⟩:=af3 I hq;obtain⟨u,hu,ru⟩:=rv.get hx;have hlt:i<its.toArray.size:=by simpa using (aJ.mp hu).1
  have nai:=ayz hi sq;have nae:a≠e:=a8y he rfl (by decide) sq
  have D:=En.src (prog:=X.prog) (w:=X.w) (A:=X.A.in1) (I.ok.hd hc) k it a nai its.toArray;refine wpAny_pyNext_enum_itemD D he ⟨hi,sq⟩ hlt ne (by simp[ne,nae.symm]) λy g tk hy ho hs hT hz hk=>?_
  refine⟨_,rfl,wpAny_letOwnedTupleGo_enum ho λg2 he2 sb=>?_⟩
  have ry:=agt rv hx hy;have lte:e<s.heap.objs.size:=aO he;have lti:it<s.heap.objs.size:=by obtain⟨o,z,_⟩:=hi.got;exact aO z
  have fr:H s.heap.objs.size=ZX:=I.hok.fresh (aL _);refine⟨.ref s.heap.objs.size,upd H s.heap.objs.size (.tup [.int i,x]),?_,rfl,⟨_,x,fr,rfl,rfl,λys hy=>by rw[ani I hy hq];exact hx⟩,⟨⟨_,he2⟩,hs.1.at λo z=>sb.extBut _ _ ne.symm z⟩,λb hb=>?_⟩
  ·refine atx (fp:=[e,it]) (us:=[.int i tk,y]) I (λb o hn z=>?_) hf (λb hb=>?_) (.cons ⟨tk,rfl⟩ (.cons ry .nil)) (by rw[jR];simp) (sb.extBut _ _ (gP lte) hT)
   ·have h1:b≠e:=λz=>hn (by simp[z])
    have h2:b≠it:=λz=>hn (by simp[z])
    exact sb.extBut _ _ h1 (hk b o h1 h2 z)
   ·have hb:b=e∨b=it:=by simpa using hb
    rcases hb with rfl |rfl
    ·exact lte
    ·exact lti
  ·have hb':b=e∨b=it:=by simpa using hb
   rw[cg (by rcases hb' with rfl |rfl;exact bI lte;exact bI lti)]
   exact(hf b hb).1
 done:=by
  intro X hP hw hK hc i zv s σ H E I hf st hg;subst hP hw hK;obtain⟨⟨old,he⟩,hi⟩:=st;obtain⟨xs,hq,hx⟩:=hg;obtain⟨its,rv,sq⟩:=af3 I hq;have hl:i=its.toArray.size:=by have:=rv.length;simp;omega
  subst hl;have D:=En.src (prog:=X.prog) (w:=X.w) (A:=X.A.in1) (I.ok.hd hc) k it a (ayz hi sq) its.toArray;refine wpAny_pyNext_enum_endD D he ⟨hi,sq⟩ λg eb=>⟨rfl,afj (t':=s.toks) (fp:=[e,it]) I (λb o hn z=>eb b o (λz=>hn (by simp[z])) z) hf⟩
 self:=λ_ _ _ _ _ st h=>let ⟨_,z⟩:=st.1;wpAny_pyIter_enum z h
def a7e:bY "zip"=ZY (.type "zip"):=by decide +kernel
section
variable{X:Cx}
def a95(K:Fg9)(ta:TA):TI:=λσ H R=>ta σ H λvs H1=>∃a k,vs=[.ref a]/\(∃xs,SqK k K H1 a xs)/\R (Ite K k a) H1
def a0p{a:fP}{ta:TA}{p pos:Pos}{elts:List fP}{n:Nat}{tp:Pos}(hg:Gl X "enumerate")(hm:X.mg "enumerate"=ZX)(ha:PA X [a] ta)(hs:aQ [a] X.env=[(ZV,eval a X.env)]:=by rfl) :
  PI X (.Tuple elts n tp) (.Call (.Name "enumerate" p) [a] [] pos) (a95 X.K ta):=by
 intro zv s σ H R I h;refine Call_ (af2 I hg hm ama (jD (thn (ha pos zv s σ H _ I h) λus s1 ⟨vs,H1,I1,r1,q1⟩=>?_) hs rfl))
 obtain⟨b,k,rfl,⟨xs,hq⟩,q⟩:=q1;obtain⟨u,rfl,ru⟩:=vals1 r1;cases ru;obtain⟨its,rv,sq⟩:=af3 I1 hq;refine ave sq λg he hi hz kk=>wpAny_pyIter_enum he ?_
 have I2:Inv X zv σ H1 { s1 with heap:=g }:=I1.kept (t':=s1.toks) kk
 refine⟨_,[s1.heap.objs.size+1,s1.heap.objs.size],_,_,H1,rfl,I2,ark k b _ _ (zK _),⟨⟨_,he⟩,hi⟩,λc hc=>?_,q⟩
 have hc:c=s1.heap.objs.size+1∨c=s1.heap.objs.size:=by simpa using hc
 rcases hc with rfl |rfl
 ·exact I1.fpOk (iC _) (I1.hok.fresh (iC _))
 ·exact I1.fpOk (aL _) (I1.hok.fresh (aL _))
end
end Mn
namespace En
open PySem PySem.Builtin
def ayt(hz:uK s.heap z TI TO f0)
  (h:bD 'F' A.in1 (kY.«zip.__next__» ⟨[.ref z],[]⟩) (λfin s'=>∃v,fin=.done (.ret v)/\Q (ZY v) s') (λe s'=>∃a o,e=.ref a/\s'.heap.get? a=ZY o/\o.cls=.type "StopIteration" /\ Q ZX s') s) :
  bD 'F' A (nF (.ref z)) Q E s:=by
 have tz:s.TypeIs (.ref z) "zip" := ⟨_,hz,rfl⟩;unfold nF;refine aA (wpAny_attempt (dZ (name:=fV "__next__") tz Ae (fO Ae tz F.entry_zip_next (aZ h (λfin s' ⟨v,e,q⟩=>⟨v,e,aF q⟩) λe s' ⟨a,o,e1,e2,e3,q⟩=>?_) (F.args_zip_next_1 _))))
 subst e1;exact aA (wpAny_isInstance (T := "StopIteration") (b:=ZW) ⟨o,e2,e3⟩ isSubtype_stop (aF q))
end En
namespace Mn
open L2 En
def Itz2(K:Fg9)(k1 k2:Bool)(a1 a2:bB):It :=
 ⟨λi H=>∃x1 x2 v1 v2,(SqK k1 K H a1 x1/\x1[i]? = ZY v1)/\(SqK k2 K H a2 x2/\x2[i]? = ZY v2),λi H x H'=>∃q v1 v2,H q=ZX/\x=.ref q/\H'=upd H q (.tup [v1,v2])/\(∀xs,SqK k1 K H a1 xs->xs[i]? = ZY v1)/\(∀xs,SqK k2 K H a2 xs->xs[i]? = ZY v2),λi H=>∃xs,SqK k1 K H a1 xs/\xs.length=i⟩
def ari{P:cF}{w:dX}{K:Fg9}{elts:List fP}{n:Nat}{pos:Pos}(k1 k2:Bool)(a1 a2 z TI TO i1 i2:bB)(D:Apart2 z TI TO i1 i2 a1 a2) :
  Turn P w K (.Tuple elts n pos) (Itz2 K k1 k2 a1 a2) [z,TI,TO,i1,i2] z (λi h=>uK h z TI TO .none/\Row2 h TI (.ref i1) (.ref i2)/\(∃v1 v2,Row2 h TO v1 v2)/\It1 k1 h i1 a1 i/\It1 k2 h i2 a2 i) where
 mem:=by simp
 obj:=λi h ⟨hz,hI,⟨v1,v2,hO⟩,h1,h2⟩ b hb=>by
  have hb:b=z∨b=TI∨b=TO∨b=i1∨b=i2:=by simpa using hb
  rcases hb with rfl |rfl |rfl |rfl |rfl
  ·exact⟨_,hz,λv z=>by cases z⟩
  ·exact⟨_,hI,λv z=>by cases z⟩
  ·exact⟨_,hO,λv z=>by cases z⟩
  ·exact h1.got
  ·exact h2.got
 keep:=λi h h' ⟨hz,hI,⟨v1,v2,hO⟩,h1,h2⟩ kk=>⟨kk z (by simp) _ hz,kk TI (by simp) _ hI,⟨v1,v2,kk TO (by simp) _ hO⟩,h1.at λo e=>kk i1 (by simp) o e,h2.at λo e=>kk i2 (by simp) o e⟩
 item:=by
  intro X hP hw hK hc i zv s σ H E I hf st hg;subst hP hw hK;obtain⟨hz,hI,⟨o1,o2,hO⟩,h1,h2⟩:=st;obtain⟨x1,x2,v1,v2,⟨hq1,hx1⟩,⟨hq2,hx2⟩⟩:=hg;obtain⟨t1,r1,s1⟩:=af3 I hq1;obtain⟨u1,hu1,_⟩:=r1.get hx1;have b1:i<t1.toArray.size:=by simpa using (aJ.mp hu1).1
  obtain⟨t2,r2,s2⟩:=af3 I hq2;obtain⟨u2,hu2,_⟩:=r2.get hx2;have b2:i<t2.toArray.size:=by simpa using (aJ.mp hu2).1
  refine ayt hz (aq5 (I.ok.hd hc) D hz hI hO h1 s1 h2 s2 b1 b2 λg tk y1 y2 p1 p2 z2 O2 j1 j2 T2 hsz hk=>?_)
  refine⟨_,rfl,wpAny_letOwnedTupleGo_zip z2 λg2 he2 sb=>?_⟩
  have fr:H s.heap.objs.size=ZX:=I.hok.fresh (aL _);have lt:∀b∈[z,TI,TO,i1,i2],b<s.heap.objs.size:=λb hb=>by
   have hb:b=z∨b=TI∨b=TO∨b=i1∨b=i2:=by simpa using hb
   rcases hb with rfl |rfl |rfl |rfl |rfl
   ·exact aO hz
   ·exact aO hI
   ·exact aO hO
   ·obtain⟨o,e,_⟩:=h1.got;exact aO e
   ·obtain⟨o,e,_⟩:=h2.got;exact aO e
  have up:∀b o,b∉[z,TI,TO,i1,i2]->s.heap.get? b=ZY o->g2.get? b=ZY o:=λb o hn e=>sb.extBut _ _ (λx=>hn (by simp[x])) (hk b o (λx=>hn (by simp[x])) (λx=>hn (by simp[x])) (λx=>hn (by simp[x])) (λx=>hn (by simp[x])) e)
  have TI2:g2.get? TI=_:=sb.extBut _ _ D.nTIz (hk TI _ D.nTIz D.nTOTI.symm D.ni1TI.symm D.ni2TI.symm hI);refine⟨.ref s.heap.objs.size,upd H s.heap.objs.size (.tup [v1,v2]),?_,rfl,⟨_,v1,v2,fr,rfl,rfl,λys hy=>by rw[ani I hy hq1];exact hx1,λys hy=>by rw[ani I hy hq2];exact hx2⟩,⟨he2,TI2,⟨y1,y2,sb.extBut _ _ D.nTOz O2⟩,(j1.at λo e=>sb.extBut _ _ D.ni1z e),(j2.at λo e=>sb.extBut _ _ D.ni2z e)⟩,λb hb=>?_⟩
  ·exact atx (fp:=[z,TI,TO,i1,i2]) (us:=[y1,y2]) I up hf lt (.cons (agt r1 hx1 p1) (.cons (agt r2 hx2 p2) .nil)) (by rw[jR];simp) (sb.extBut _ _ (gP (lt z (by simp))) T2)
  ·rw[cg (bI (lt b hb))];exact(hf b hb).1
 done:=by
  intro X hP hw hK hc i zv s σ H E I hf st hg;subst hP hw hK;obtain⟨hz,hI,⟨o1,o2,hO⟩,h1,h2⟩:=st;obtain⟨xs,hq,hx⟩:=hg;obtain⟨its,rv,sq⟩:=af3 I hq;have hl:i=its.toArray.size:=by have:=rv.length;simp;omega
  subst hl;refine ayt hz (av0 (I.ok.hd hc) D hz hI hO h1 sq λg e kk ⟨o,he,ce⟩=>⟨e,o,rfl,he,ce,rfl,afj (t':=s.toks) (fp:=[z,TI,TO,i1,i2]) I (λb o hn z=>kk b o (λz=>hn (by simp[z])) (λz=>hn (by simp[z])) z) hf⟩)
 self:=λ_ _ _ _ _ st h=>wpAny_pyIter_zip st.1 h
def apart2{N l1 l2:Nat}(h1:l1<N)(h2:l2<N):Apart2 (N+4) (N+2) (N+3) N (N+1) l1 l2:=by
 constructor <;> (intro e;have e:(_:Nat)=_:=e;omega)
section
variable{X:Cx}
def a91(K:Fg9)(ta:TA):TI:=λσ H R=>ta σ H λvs H1=>∃a1 a2 k1 k2,vs=[.ref a1,.ref a2]/\(∃xs,SqK k1 K H1 a1 xs)/\(∃xs,SqK k2 K H1 a2 xs)/\R (Itz2 K k1 k2 a1 a2) H1
def a0o{e1 e2:fP}{ta:TA}{p pos:Pos}{elts:List fP}{n:Nat}{tp:Pos}(hg:Gl X "zip")(hm:X.mg "zip"=ZX)(ha:PA X [e1,e2] ta)(hs:aQ [e1,e2] X.env=[(ZV,eval e1 X.env),(ZV,eval e2 X.env)]:=by rfl)(hs2:aQ [e2] X.env=[(ZV,eval e2 X.env)]:=by rfl) :
  PI X (.Tuple elts n tp) (.Call (.Name "zip" p) [e1,e2] [] pos) (a91 X.K ta):=by
 intro zv s σ H R I h;refine Call_ (af2 I hg hm a7e (jD (thn (ha pos zv s σ H _ I h) λus s1 ⟨vs,H1,I1,r1,q1⟩=>?_) (by rw[hs,hs2]) (by rw[hs2];rfl)))
 obtain⟨a1,a2,k1,k2,rfl,⟨x1,hq1⟩,⟨x2,hq2⟩,q⟩:=q1;obtain⟨u1,u2,rfl,ru1,ru2⟩:=vals2 r1;cases ru1;cases ru2;obtain⟨t1,r1',sq1⟩:=af3 I1 hq1;have b1:a1<s1.heap.objs.size:=by obtain⟨o,e⟩:=sq1.got;exact aO e
 obtain⟨t2,r2',sq2⟩:=af3 I1 hq2;have b2:a2<s1.heap.objs.size:=by obtain⟨o,e⟩:=sq2.got;exact aO e
 refine ava sq1 sq2 λg hz hI hO h1 h2 hsz kk=>wpAny_pyIter_zip hz ?_
 have I2:Inv X zv σ H1 { s1 with heap:=g }:=I1.kept (t':=s1.toks) kk
 refine⟨_,[s1.heap.objs.size+4,s1.heap.objs.size+2,s1.heap.objs.size+3,s1.heap.objs.size,s1.heap.objs.size+1],_,_,H1,rfl,I2,ari k1 k2 a1 a2 _ _ _ _ _ (apart2 b1 b2),⟨hz,hI,⟨_,_,hO⟩,h1,h2⟩,λc hc=>?_,q⟩
 have hc:s1.heap.objs.size<=c:=by
  simp only[bA,jH,or_false] at hc;rcases hc with rfl |rfl |rfl |rfl |rfl <;> first |exact aL _ |exact Nat.le_add_right _ _
 exact I1.fpOk hc (I1.hok.fresh hc)
end
section
variable{X:Cx}
end
end Mn
namespace Dn
open L2 Mn
section
variable{K:Fg9}{X:Cx}{e a b c:fP}{es elts:List fP}{pos p tp:Pos}{n:Nat}
theorem ar7(e:itemsD d=ZY l)(h:Is K F d v):∃a k vs,v=.ref a/\IsL K F l vs/\∀H,Same F H->SqK k K H a vs:=by
 cases h with
 |tup e1 h1=>cases e;exact⟨_,ZW,_,rfl,h1,λH g=>SqT.of (g _ _ e1)⟩
 |lst e1 h1=>cases e;exact⟨_,ZV,_,rfl,h1,λH g=>SqL.of (g _ _ e1)⟩
 |kst e1 h1=>cases e;exact⟨_,ZV,_,rfl,h1,λH g=>L2.Same.seq g e1⟩
 |_=>cases e
def ac3(l:List D):List D:=l.mapIdx λi d=>.tup [.int (i:Nat),d]
def afm:List D->Option (List D)
 | [d]=>(itemsD d).map ac3
 |_=>ZX
def aae(l:List D):(ac3 l).length=l.length:=by unfold ac3;simp
theorem aaf{l:List D}{i:Nat}{d:D}(h:(ac3 l)[i]? = ZY d):∃d0,l[i]? = ZY d0/\d=.tup [.int (i:Nat),d0]:=by
 unfold ac3 at h;rw[nJ] at h;cases e:l[i]? with
 |none=>rw[e] at h;cases h
 |some d0=>rw[e] at h;cases h;exact⟨d0,rfl,rfl⟩
def axo{F:Hp}{k:Bool}{a:bB}{l:List D}{vs:List V}(il:IsL K F l vs)(hs:∀H,Same F H->SqK k K H a vs):ItD K (Ite K k a) (ac3 l) F where
 go:=λi H s hi=>by
  have hi:i<vs.length:=by rw[<-il.length,<-aae];exact hi
  exact⟨vs,_,hs H s,aG hi⟩
 yld:=λi H x H' d s y hd=>by
  obtain⟨d0,h0,rfl⟩:=aaf hd;obtain⟨q,v,hq,rfl,rfl,hv⟩:=y;obtain⟨v',e1,i1⟩:=il.get h0;have:=hv _ (hs H s);rw[e1] at this;cases this;exact .inr ⟨q,_,_,hq,rfl,rfl,rfl,.cons (.int _) (.cons i1 .nil)⟩
 stop:=λH s=>⟨vs,hs H s,by rw[aae,il.length]⟩
theorem adu(hg:Gl X "enumerate")(hm:X.mg "enumerate"=ZX)(h:ED K X [a] m)(hs:aQ [a] X.env=[(ZV,eval a X.env)]:=by rfl):IT K X (.Tuple elts n tp) (.Call (.Name "enumerate" p) [a] [] pos) (mGet afm m):=IT.mk λhk=>by
 intro zv s σ H R I z9;obtain⟨tg,F,ρ,l,ρ',G,em,q⟩:=z9;obtain⟨ds,ρ1,e1,em⟩:=bj em;obtain⟨e2,rfl⟩:=jb em;have h:=h hk;subst hk;refine a0p hg hm h hs zv s σ H R I ⟨tg,F,ρ,ds,_,G,e1,λvs H' F' G' x r=>?_⟩
 match ds,e2 with
 | [d],e2=>
  have e2:(itemsD d).map ac3=ZY l:=e2;cases e3:itemsD d with
  |none=>rw[e3] at e2;cases e2
  |some l0=>
   rw[e3] at e2;cases e2;cases r with
   |cons h1 t=>
    cases t;obtain⟨b,k,ws,rfl,il,hq⟩:=ar7 e3 h1;exact⟨b,k,rfl,⟨ws,hq _ G'.sub⟩,q _ H' F' G' x (axo il hq)⟩
def qi(l1 l2:List D):List D:=List.zipWith (λx y=>.tup [x,y]) l1 l2
def anl:List D->Option (List D)
 | [a,b]=>(itemsD a).bind λl1=>(itemsD b).bind λl2=>if l1.length<=l2.length then ZY (qi l1 l2) else ZX
 |_=>ZX
theorem aq6{l1 l2:List D}{i:Nat}{d:D}(h:(qi l1 l2)[i]? = ZY d):∃d1 d2,l1[i]? = ZY d1/\l2[i]? = ZY d2/\d=.tup [d1,d2]:=by
 unfold qi at h;rw[jO] at h;cases e1:l1[i]? with
 |none=>rw[e1] at h;cases h
 |some d1=>
  cases e2:l2[i]? with
  |none=>rw[e1,e2] at h;cases h
  |some d2=>rw[e1,e2] at h;cases h;exact⟨_,_,rfl,rfl,rfl⟩
def axn{F:Hp}{k1 k2:Bool}{a1 a2:bB}{l1 l2:List D}{x1 x2:List V}(h:l1.length<=l2.length)(i1:IsL K F l1 x1)(i2:IsL K F l2 x2)(s1:∀H,Same F H->SqK k1 K H a1 x1)(s2:∀H,Same F H->SqK k2 K H a2 x2):ItD K (Itz2 K k1 k2 a1 a2) (qi l1 l2) F where
 go:=λi H s hi=>by
  have z1:=i1.length;have z2:=i2.length;have hi:i<l1.length:=by unfold qi at hi;simp at hi;omega
  exact⟨x1,x2,_,_,⟨s1 H s,aG (by omega)⟩,s2 H s,aG (by omega)⟩
 yld:=λi H x H' d s y hd=>by
  obtain⟨d1,d2,h1,h2,rfl⟩:=aq6 hd;obtain⟨q,v1,v2,hq,rfl,rfl,y1,y2⟩:=y;obtain⟨w1,e1,j1⟩:=i1.get h1;obtain⟨w2,e2,j2⟩:=i2.get h2;have z1:=y1 _ (s1 H s);have z2:=y2 _ (s2 H s);rw[e1] at z1;rw[e2] at z2;cases z1;cases z2;exact .inr ⟨q,_,_,hq,rfl,rfl,rfl,.cons j1 (.cons j2 .nil)⟩
 stop:=λH s=>⟨x1,s1 H s,by unfold qi;rw[gB,<-i1.length];omega⟩
theorem ahe(hg:Gl X "zip")(hm:X.mg "zip"=ZX)(h:ED K X [a,b] m)(hs:aQ [a,b] X.env=[(ZV,eval a X.env),(ZV,eval b X.env)]:=by rfl)(hs2:aQ [b] X.env=[(ZV,eval b X.env)]:=by rfl) :
  IT K X (.Tuple elts n tp) (.Call (.Name "zip" p) [a,b] [] pos) (mGet anl m):=IT.mk λhk=>by
 intro zv s σ H R I z9;obtain⟨tg,F,ρ,l,ρ',G,em,q⟩:=z9;obtain⟨ds,ρ1,e1,em⟩:=bj em;obtain⟨e2,rfl⟩:=jb em;have h:=h hk;subst hk;refine a0o hg hm h hs hs2 zv s σ H R I ⟨tg,F,ρ,ds,_,G,e1,λvs H' F' G' x r=>?_⟩
 match ds,e2 with
 | [d,d'],e2=>
  have e2:((itemsD d).bind λl1=>(itemsD d').bind λl2=>if l1.length<=l2.length then ZY (qi l1 l2) else ZX)=ZY l:=e2
  cases e3:itemsD d with
  |none=>rw[e3] at e2;cases e2
  |some l1=>
   cases e4:itemsD d' with
   |none=>rw[e3,e4] at e2;cases e2
   |some l2=>
    rw[e3,e4] at e2;have e2:(if l1.length<=l2.length then ZY (qi l1 l2) else ZX)=ZY l:=e2
    split at e2
    ·rename_i hle;cases e2;cases r with
     |cons h1 t=>
      cases t with
      |cons h2 t=>
       cases t;obtain⟨b1,k1,w1,rfl,il1,hq1⟩:=ar7 e3 h1;obtain⟨b2,k2,w2,rfl,il2,hq2⟩:=ar7 e4 h2;exact⟨b1,b2,k1,k2,rfl,⟨w1,hq1 _ G'.sub⟩,⟨w2,hq2 _ G'.sub⟩,q _ H' F' G' x (axn hle il1 il2 hq1 hq2)⟩
    ·cases e2
end
end Dn
namespace Mn
open L2
def axt:PGet X (rIxL X.K):=by
 intro zv s σ H x y v u Q I rx ry h;obtain⟨p,xs,i,z,rfl,rfl,hq,he,q⟩:=h;cases rx;obtain⟨t,rfl⟩:=ry;obtain⟨its,r,pl,hz⟩:=I.list hq;obtain⟨j,h1,h2,h3,h4,h5⟩:=an6 he;obtain⟨w,ew,rw'⟩:=r.get h2;have hl:=r.length;have hn:=alg;have fin:EP X zv σ Q w s:=⟨z,H,I,rw',q⟩
 by_cases h0:0<=i
 ·have hj:i.toNat=j:=by
   rw[seqIndex_of h0 h5] at h1;exact bJ h1
  exact wpAny_getItem_list pl.isList h0 (by omega) (by rw[hj];simpa using ew) fin
 ·have hj:(i+(its.toArray.size:Int)).toNat=j:=by
   rw[seqIndex_neg (by omega) h4] at h1
   have:=bJ h1;rw[aP,<-hl];exact this
  exact wpAny_getItem_list_neg pl.isList (by omega) (by simp only[aP];omega) (by omega) (by rw[hj];simpa using ew) fin
end Mn
namespace Dn
open L2 Mn
section
variable{K:Fg9}{X:Cx}{e a b:fP}{pos p:Pos}
def an0(f:Int->Int->Int)(i:Nat)(mi m:M D):Sd:=dM (mOwn i) λ_=>dM mi λk=>dM (mOwn i) λl=>dM (lift ((asI k).bind (ixN l.length))) λj=>dM (lift ((l[j]?).bind asI)) λx=>dM m λy=>dM (lift (asI y)) λy=>dM (mOwn i) λl2=>dM (lift (if l2.length=l.length then ZY () else ZX)) λ_=>dM (aeq i (l2.set j (.int (f x y)))) λ_=>dNx
def a6m(hn:l.length=n)(h:ixN n k=ZY j):atI l k=l[j]? := by
 unfold atI;rw[hn,h];rfl
theorem ars(ho:PE X a (tVar i))(hi:EV K X b mi)(h:EV K X e m)(hp:PIp X op (ipI f))
  (ha:∀ov iv new,augStore b ov iv new=(do mU [new,ov,iv] (setItem ov iv new);release [new,ov,iv] [];pure .next):=by intros;rfl):SV K X (.AugAssign (.Subscript a b p) op e pos) (an0 f i mi m):=SV.mk λhk=>by
 subst hk;refine PS.imp (a0i ho (hi rfl) axt (h rfl) hp set_list ha) λE σ H z9=>?_
 obtain⟨tg,F,ρ,fl,ρ',G,em,q⟩:=z9;refine yz em q λl0 ρ0 e0 em=>yz em q λk ρ1 e1 em=>yz em q λl ρ2 e2 em=>yz em q λj ρ3 e3 em=>yz em q λx ρ4 e4 em=>yz em q λy ρ5 e5 em=>yz em q λy' ρ6 e6 em=>yz em q λl2 ρ7 e7 em=>yz em q λu ρ8 e8 em=>yz em q λu2 ρ9 e9 em=>?_
 cases em;obtain⟨rfl,t0,a0,xs0,es0,hv,hh0,hl0⟩:=ag5 G e0;refine⟨_,hv,tg,F,_,k,ρ1,G,e1,λw H1 F1 G1 x1 r1=>?_⟩
 obtain⟨rfl,t1,a1,xs1,es1,hv1,hh1,hl1⟩:=ag5 G1 e2;rw[hv] at hv1;cases hv1;obtain⟨g3,rfl⟩:=jb e3;obtain⟨g4,rfl⟩:=jb e4;cases ek:asI k with
 |none=>rw[ek] at g3;cases g3
 |some n=>
  rw[ek] at g3;obtain rfl:=apn ek;cases r1;have e3:ixN l.length n=ZY j:=g3;cases ej:l[j]? with
  |none=>rw[ej] at g4;cases g4
  |some d=>
   rw[ej] at g4;have h4:asI d=ZY x:=g4;obtain rfl:=apn h4;obtain⟨v,ev,iv⟩:=hl1.get ej;cases iv;refine⟨_,xs1,n,.int x,rfl,rfl,SqL.of hh1,by rw[a6m hl1.length.symm e3];exact ev,?_⟩
   refine⟨tg,F1,_,y,ρ5,G1,e5,λw2 H2 F2 G2 x2 r2=>?_⟩
   obtain⟨g6,rfl⟩:=jb e6;obtain rfl:=apn g6;cases r2;refine⟨x,y',rfl,rfl,?_⟩;obtain⟨rfl,t2,a2,xs2,es2,hv2,hh2,hl2⟩:=ag5 G2 e7;rw[hv] at hv2;cases hv2;obtain⟨g8,rfl⟩:=jb e8;split at g8
   ·rename_i hlen;obtain⟨G3,x3⟩:=am7 G2 e9 hv (hl2.set (Is.int (f x y')) j);exact⟨_,xs2,n,j,rfl,rfl,hh2,by rw[<-hl2.length,hlen];exact e3,q _ _ F2 G3 ((x1.trans x2).trans x3)⟩
   ·cases g8
end
section
variable{K:Fg9}{X:Cx}{a:fP}{pos p p2 pos2:Pos}
def avb:abx X (.type "range") (λxs H Q=>∃b,xs=[.int b]/\∀q,H q=ZX->Q (.ref q) (upd H q (.rng 0 b))):=by
 intro zv s σ H xs us Q I r h;obtain⟨b,rfl,q⟩:=h;obtain⟨u,rfl,ru⟩:=vals1 r;obtain⟨t,rfl⟩:=ru;exact call_range_1 ⟨.ref s.heap.objs.size,_,I.laid (t':=s.toks+1+1) (o:=.rng 0 b) (λb ob q=>aB _ q) (aL _) ⟨_,_,_,aM _ rfl⟩,rfl,q _ (I.hok.fresh (aL _))⟩
def av7(h:ItemsOf (λi v=>∃t,v=.int (0+i*1) t) acc n):Vals (ups 0 n) acc.toList:=by
 have key:∀(l:List aH) (k:Nat),(∀j v,l[j]? = ZY v->∃t,v=qD ((k+j:Nat):Int) t)->Vals ((oE k l.length).map λ(i:Nat)=>V.int ((i:Nat):Int)) l:=by
  intro l
  induction l with
  |nil=>intro k _;exact .nil
  |cons x r ih=>
   intro k hk;rw[cW,zN,bH];refine .cons ?_ (ih (k+1) λj v hj=>?_)
   ·obtain⟨t,rfl⟩:=hk 0 x rfl;exact⟨t,by simp⟩
   ·obtain⟨t,rfl⟩:=hk (j+1) v (by simpa using hj)
    exact⟨t,by rw[show k+(j+1)=k+1+j by omega]⟩
 have e:=key acc.toList 0 λj v hj=>by
  obtain⟨t,rfl⟩:=h.2 j v (by simpa using hj)
  exact⟨t,by simp⟩
 have hs:acc.toList.length=n:=by simpa using h.1
 rw[hs] at e;unfold ups;rw[List.range_eq_range']
 simpa using e
def al4(hc:X.calm=ZW):abx X (.type "list") (λxs H Q=>∃p b,xs=[.ref p]/\H p=ZY (.rng 0 b)/\b.natAbs<1000000/\∀q,H q=ZX->Q (.ref q) (upd H q (.lst (ups 0 b.toNat)))):=by
 intro zv s σ H xs us Q I r h;obtain⟨p,b,rfl,hp,hb,q⟩:=h;obtain⟨u,rfl,ru⟩:=vals1 r;cases ru;obtain⟨t,u,v,e⟩:=I.hok p _ hp;have e62:(2:Int) ^ 62=4611686018427387904:=by decide
 have e24:(2:Nat) ^ 24=16777216:=by decide
 refine call_list_range (I.ok.hd hc) e (small_one (by omega) (by omega) (by omega) (by omega)) (n:=b.toNat) (by rw[rangeSize_one];split <;> omega) (by omega) λh' tk acc c' kk e' it=>?_
 refine⟨.ref s.heap.objs.size,_,?_,rfl,q _ (I.hok.fresh (aL _))⟩;exact I.laid kk (aL _) ⟨by rw[ai6,jR];omega,acc.toList,c',av7 it,by simpa using e'⟩
def ac1:List D->Option Rv
 | [.int j]=>if j.natAbs<1000000 then ZY (.fr (rangeD 0 j.toNat)) else ZX
 |_=>ZX
def afg(m:M (List D)):M Rv:=m.bind λds=>lift (ac1 ds)
@[simp] theorem aw9(ρ:Ro)(m:M (List D)):afg m ρ=(m.bind λds=>lift (ac1 ds)) ρ:=rfl
@[simp] theorem avz(j:Int):ac1 [.int j]=if j.natAbs<1000000 then ZY (.fr (rangeD 0 j.toNat)) else ZX:=rfl
theorem al1(hc:X.calm=ZW)(hg1:Gl X "list")(hm1:X.mg "list"=ZX)(hg2:Gl X "range")(hm2:X.mg "range"=ZX)(h:ED K X [a] m)
  (he:aQ [a] X.env=[(ZV,eval a X.env)]:=by rfl) (he2:aQ [.Call (.Name "range" p2) [a] [] pos2] X.env=[(ZV,eval (.Call (.Name "range" p2) [a] [] pos2) X.env)]:=by rfl) :
  ER K X (.Call (.Name "list" p) [.Call (.Name "range" p2) [a] [] pos2] [] pos) (afg m):=ER.mk λhk=>PE.imp (aei (al4 hc) hg1 hm1 abw (uc (aei avb hg2 hm2 ayb (h hk) (by decide) (by decide) he rfl) acf he2) (by decide) (by decide) he2 rfl) λσ H Q z9=>by
 obtain⟨tg,F,ρ,r,ρ',G,em,q⟩:=z9;obtain⟨ds,ρ1,e1,em⟩:=bj em;obtain⟨e2,rfl⟩:=jb em;refine⟨tg,F,ρ,ds,_,G,e1,λvs H1 F1 G1 x1 bl=>?_⟩
 unfold ac1 at e2;split at e2
 ·rename_i j;split at e2
  ·rename_i hb;cases e2;cases bl with
   |cons hd t=>
    cases t;cases hd;refine⟨j,rfl,λa hna=>?_⟩
    refine⟨a,j,rfl,gw,hb,λb hnb=>?_⟩
    have G2:=G1.fresh hna (.rng 0 j);have X2:=G1.freshX hna (.rng 0 j);exact Res.lst G2 (λv H3 F3 G3 x3 rr=>q v H3 F3 G3 ((x1.trans X2).trans x3) (qt (x1.trans X2) rr)) (aji 0 _) hnb
  ·cases e2
 ·cases e2
end
end Dn
namespace Mn
open L2
section
variable{X:Cx}
def range_any(bs:List Bool):((aD bs.length).any λi=>(bs[i]?).getD ZW)=bs.any id:=by
 have key:∀(l:List Bool) (f:Nat->Bool),(∀i (h:i<l.length),f i=l[i])->(aD l.length).any f=l.any id:=by
  intro l
  induction l with
  |nil=>intro f _;rfl
  |cons b r ih=>
   intro f hf;rw[cW,pZ,sE,List.any_map,sE];have h0:=hf 0 (by simp)
   rw[h0]
   congr 1
   exact ih (f∘Nat.succ) λi hi=>by
    have:=hf (i+1) (by simpa using hi)
    simpa using this
 exact key bs _ λi hi=>by simp[hi]
def avf(hc:X.calm=ZW):abx X (.builtin "any") (λxs H Q=>∃(p:bB) (bs:List Bool),xs=[.ref p]/\SqL X.K H p (bs.map V.bl)/\Q (.bl (bs.any id)) H):=by
 intro zv s σ H xs us Q I r h;obtain⟨p,bs,rfl,hq,q⟩:=h;obtain⟨u,rfl,ru⟩:=vals1 r;cases ru;obtain⟨its,rv,pl,hz⟩:=I.list hq;have hl:=pl.isList;have hlen:=rv.length;rw[aU] at hlen;have hlt:p<s.heap.objs.size:=by obtain⟨_,e,_⟩:=hl;exact aO e
 refine call_any_walk (wpAny_pyIter_list hl ?_);refine⟨s.heap.objs.size,[s.heap.objs.size,p],[s.heap.objs.size],its.toArray.size,_,_,λi=>(bs[i]?).getD ZW,rfl,qW (A:=X.A.in1) (I.ok.hd hc) _ p (bI hlt) its.toArray,
  ⟨⟨_,aM _ rfl,rfl,rfl⟩,hl.push _⟩,λi v s' Q' E' hP hQ=>?_,λh' tk hk=>?_⟩
 ·have hi:its[i]? = ZY v:=by simpa using hP
  cases e:bs[i]? with
  |none=>
   have h1:bs.length<=i:=vA.mp e;have h2:i<its.length:=(aJ.mp hi).1;omega
  |some b=>
   obtain⟨u,hu,ru⟩:=rv.get (i:=i) (x:=V.bl b) (by rw[aV,e];rfl)
   rw[hi] at hu;cases hu;obtain rfl:v=qX b:=ru;simp only[e,zH] at hQ;exact gW hQ
 ·have e:((aD its.toArray.size).any λi=>(bs[i]?).getD ZW)=bs.any id:=by
   rw[aP,<-hlen];exact range_any bs
  rw[e];exact⟨.bl (bs.any id),H,I.kept (t':=tk) (sH hk),rfl,q⟩
end
end Mn
namespace Dn
open L2 Mn
section
variable{K:Fg9}{X:Cx}
def gAny:D->Option Rv
 |.lst l=>(vg l).map λbs=>.v (.bl (bs.any id))
 |_=>ZX
@[simp] theorem a8h(l:List D):gAny (.lst l)=(vg l).map λbs=>.v (.bl (bs.any id)):=rfl
theorem a7c(hc:X.calm=ZW):CallD K X (.builtin "any") (g1 gAny):=ahz λhk zv s σ0 H x u Q tg F ρ σ d r I ru G bd eg q=>by
 subst hk;cases d with
 |lst l=>
  have eg:(vg l).map (λbs=>Rv.v (.bl (bs.any id)))=ZY r:=eg
  cases e:vg l with
  |none=>rw[e] at eg;cases eg
  |some bs=>
   rw[e] at eg;cases eg;obtain⟨a,vs,rfl,ea,hl⟩:=bd.lst G.sub;rw[ah2 e] at hl;rw[hl.bl_inv] at ea;exact avf hc zv s σ0 H [.ref a] [u] Q I (.cons ru .nil) ⟨a,bs,rfl,SqL.of ea,Res.same G q (.bl _)⟩
 |_=>cases eg
end
end Dn
namespace Mn
open L2
def akh(y:Str)(env:Env)(XN:List Str)(scope:nO)(fr N:List Str)(src:List 'G'):Bool :=
 scope.names.all (λz=>(z.2 != .cell||z.1==y)&&(z.2 != .local||scope.names.lookup z.1==ZY .local)&&(z.2 != .free||fr.contains z.1)) &&
 fr.all (λx=>x != y&&(scope.names.lookup x==ZY .free&&(env.kindOf x==ZY .cell||env.kindOf x==ZY .free)))&&ae5 XN fr N src
structure CompOkY (y:Str) (env:Env) (XN:List Str) (scope:nO) (fr N:List Str) (src:List 'G'):Prop where
 cell:∀z∈scope.names,z.2=.cell->z.1=y
 loc:∀z∈scope.names,z.2=.local->scope.names.lookup z.1=ZY .local
 free:∀z∈scope.names,z.2=.free->z.1∈fr
 ne:∀x∈fr,x≠y
 frk:∀x∈fr,scope.names.lookup x=ZY .free
 out:∀x∈fr,env.kindOf x=ZY .cell∨env.kindOf x=ZY .free
 src:ae5 XN fr N src=ZW
def CompOkY.of{y:Str}{env:Env}{XN:List Str}{scope:nO}{fr N:List Str}{src:List 'G'}(h:akh y env XN scope fr N src=ZW):CompOkY y env XN scope fr N src:=by
 simp only[akh,bC,cL] at h;obtain⟨⟨h1,h2⟩,h3⟩:=h;refine⟨λz hz e=>?_,λz hz e=>?_,λz hz e=>?_,λx hx=>?_,λx hx=>?_,λx hx=>?_,h3⟩
 ·have:=(h1 z hz).1.1;rw[e] at this
  simpa using this
 ·have:=(h1 z hz).1.2;rw[e] at this
  simpa using this
 ·have:=(h1 z hz).2;rw[e] at this
  simpa using this
 ·simpa using (h2 x hx).1
 ·simpa using (h2 x hx).2.1
 ·simpa using (h2 x hx).2.2
def cxY(y:Str)(X:Cx)(N:List Str)(scope:nO)(fr:List Str)(fp:List bB)(s:aN)(H:Hp):Cx :=
 { cxC X N scope fr fp s H with env:=compEnvC scope ((y,s.heap.objs.size+1)::lq X.env fr) s.heap.objs.size X.env,fn:=λx=>x==y }
def aaj{M:Model}{A:dG}{E:aH->aN->Prop}{s:aN}{scope:nO}{globals:bB}{cl:List (Str×Addr)}{qual:Str}{func:Option bB}{code:aH}{ar:Env}{builtins:bB}{Q:Env->aN->Prop}
  (hQ:Q (newEnv scope s.heap.objs.size globals (cellsFrom (s.heap.objs.size+1) scope.names cl) qual func code (ZY ar) builtins)
   { s with heap:=pushCells (s.heap.push { cls:=.type "dict", data:=.dict #[] }) scope.names }) :
  bD M A (newFunctionEnv scope globals cl [] qual func code (ZY ar) builtins) Q E s:=by
 simp only[newFunctionEnv,xT,if_true];refine aA (wpAny_alloc ?_);refine aA (wpAny_layCells _ (λname kind cells=>by cases hkc:kind==jM <;> simp[hkc]) _ _ _ _ ?_)
 rw[show({ s with heap:=s.heap.push { cls:=.type "dict", data:=.dict #[] } }:aN).heap.objs.size=s.heap.objs.size+1 from cG ..]
 refine aA ?_;rw[rH];exact aF (aF hQ)
section
variable{y:Str}{X:Cx}{zv:List (bB×Obj)}{σ:L2.St}{H:Hp}{s:aN}{scope:nO}{fr N:List Str}{src:List 'G'}{fp:List bB}
def ati{a c:bB}{x:Str}{l:List (Str×Addr)}(h:dF x ((y,a)::l)=ZY c):(x=y/\c=a)∨(x≠y/\l.lookup x=ZY c):=by
 by_cases e:x=y
 ·subst e;rw[look_same] at h;exact .inl ⟨rfl,(bJ h).symm⟩
 ·rw[aa6 e] at h;exact .inr ⟨e,h⟩
def a67(I:Inv X zv σ H s)(C:CompOkY y X.env X.N scope fr N src)(hkind:scope.kind=.function)(hf:∀b∈fp,FpOk X zv H b)(hl:∀b∈fp,b<s.heap.objs.size):(cxY y X N scope fr fp s H).Ok where
 mod:=I.ok.mod
 kind:=hkind
 glob:=I.ok.glob
 blt:=I.ok.blt
 above:=aL _
 inj:=λx z c h1 h2=>by
  have lt:∀{x c},(lq X.env fr).lookup x=ZY c->c<s.heap.objs.size:=λh=>by
   obtain⟨v,q⟩:=I.cell _ _ (jn h);exact q.lt
  rcases ati h1 with⟨e1,a1⟩ |⟨e1,l1⟩ <;> rcases ati h2 with⟨e2,a2⟩ |⟨e2,l2⟩
  ·rw[e1,e2]
  ·exact absurd (lt l2) (by rw[a1];exact λh=>absurd h (mC.mpr (iC _)))
  ·exact absurd (lt l1) (by rw[a2];exact λh=>absurd h (mC.mpr (iC _)))
  ·exact I.ok.inj x z c (jn l1) (jn l2)
 has:=λx hx=>by
  by_cases e:x=y
  ·subst e;exact⟨_,look_same⟩
  have mem:∀k,(k=jM∨k=eF)->(cxY y X N scope fr fp s H).env.kindOf x=ZY k->x∈fr:=λk hk e'=>by
   obtain⟨k0,e0,d⟩:=acb (env:=X.env) (names:=scope.names) e';have hm:=fZ e0;rcases d with rfl |⟨rfl,_⟩
   ·rcases hk with rfl |rfl
    ·exact absurd (C.cell _ hm rfl) e
    ·exact C.free _ hm rfl
   ·exact C.free _ hm rfl
  have hm:x∈fr:=by
   rcases hx with e |e
   ·exact mem _ (.inl rfl) e
   ·exact mem _ (.inr rfl) e
  obtain⟨c,hc⟩:=I.ok.has x (C.out x hm);exact⟨c,(aa6 e).trans (ur hm hc)⟩
 cab:=λx c h e=>by
  have hx:x=y:=by simpa[cxY] using h
  subst hx;rw[show(cxY x X N scope fr fp s H).env.cells=(x,s.heap.objs.size+1)::lq X.env fr from rfl,look_same] at e
  cases e;exact iC _
 hd:=I.ok.hd
 frames:=I.ok.frames
 stk:=.inl rfl
 exf:=λb hb=>⟨Nat.ne_of_lt (hl b hb),λx c e=>by
  rcases ati e with⟨_,a1⟩ |⟨_,l1⟩
  ·rw[a1];exact λh=>absurd (hl b hb) (by rw[<-h];exact mC.mpr (iC _))
  ·exact(hf b hb).2.2.2.2.1 x c (jn l1)⟩
 bs:=I.bs
 bsz:=bV I.ok.bsz I.sz
 noex:=λb o e hb=>by
  rcases(hf b hb).2.2.2.1 with z |z
  ·exact I.ok.noex b o e z
  ·exact absurd (bN (aO e) (bV I.ok.bsz z)) (iG _)
 exfs:=λb hb z=>by
  rcases bA.mp (I.stkSub b z) with e |e
  ·exact(hf b hb).2.1 e
  ·exact(hf b hb).2.2.1 e
 funs:=I.stack
 frf:=I.stkFree
 tb:=I.tb
def aty(I:Inv X zv σ H s)(C:CompOkY y X.env X.N scope fr N src)(hkind:scope.kind=.function)(hf:∀b∈fp,FpOk X zv H b)(hl:∀b∈fp,b<s.heap.objs.size) 
  (hns:h'.Ns s.heap.objs.size m) (hk:∀b o,s.heap.get? b=ZY o->h'.get? b=ZY o) (hc:h'.IsCell (s.heap.objs.size+1) ZX):Inv (cxY y X N scope fr fp s H) [] (pick src σ) H { s with heap:=h',toks:=tk } where
 ok:=a67 I C hkind hf hl
 os:=rfl
 bare:=I.bare
 base:=Un.kept hk
 loc:=by
  refine⟨m,hns,λi x v h1 h2 h3=>?_⟩
  obtain⟨j,hj,hv⟩:=ajk h2;obtain⟨hN,hm⟩:=ab3 C.src h1 hj;obtain⟨mo,_,hlo⟩:=I.loc;have vis:Vis X.env.scope x:=by
   rcases C.out x hm with e |e
   ·exact .inr (.inl e)
   ·exact .inr (.inr e)
  obtain⟨u,r,l⟩:=hlo j x v hN hv vis;refine⟨u,r,.inr ⟨?_,?_⟩⟩
  ·rcases aan (env:=X.env) (C.frk x hm) with e |e
   ·exact .inr e
   ·exact .inl e
  ·rcases l with⟨e,_⟩ |⟨_,c,hc,z⟩
   ·rcases C.out x hm with q |q
    ·rw[q] at e;cases e
    ·rw[q] at e;cases e
   ·obtain⟨o,ho,hd⟩:=z;exact⟨c,(aa6 (C.ne x hm)).trans (ur hm hc),o,hk c o ho,hd⟩
 cell:=λx c e=>by
  rcases ati e with⟨_,a1⟩ |⟨_,l1⟩
  ·rw[a1];exact⟨_,hc⟩
  ·obtain⟨v,o,ho,hd⟩:=I.cell x c (jn l1);exact⟨v,o,hk c o ho,hd⟩
 free:=I.hok.fresh (aL _)
 freeC:=λx c e=>by
  rcases ati e with⟨_,a1⟩ |⟨_,l1⟩
  ·rw[a1];exact I.hok.fresh (iC _)
  ·exact I.freeC x c (jn l1)
 pin:=λp hp=>absurd (show p∈([]:List (bB×Obj)) from hp) (by simp)
 hok:=I.hok.kept hk
 len:=by
  unfold pick;rw[aU];exact ab2 C.src
def atz(I:Inv X zv σ H s)(hf:∀b∈fp,FpOk X zv H b)(J:Inv (cxY y X N scope fr fp s H) pins' σ' H' s')
  (hs:fL s.heap.objs.size s'.heap h''):Inv X zv σ H' { s' with heap:=h'' }:=by
 have k:∀b o,b≠s.heap.objs.size->s'.heap.get? b=ZY o->h''.get? b=ZY o:=λb o hb e=>(hs.2 b hb).trans e
 have old:∀b o,s.heap.get? b=ZY o->b≠s.heap.objs.size:=λb o e=>bI (aO e)
 have un:Un (frs X.stack) fp H H' s.heap h'':=by
  have u:Un (frs X.stack) fp H H' s.heap s'.heap:=J.base;refine⟨λb o e n hb hx=>k b o (old b o e) (u.keep b o e n hb hx),λb o e n hb hx=>?_,u.free,λb o e hx=>?_,u.tups,u.frzs,u.tbls⟩
  ·obtain⟨sl,q⟩:=u.slot b o e n hb hx;exact⟨sl,k b _ (old b o e) q⟩
  ·obtain⟨o',q⟩:=u.there b o e hx;exact⟨o',k b _ (old b o e) q⟩
 have hok:HOk X.prog X.w H' h'':=λb u e=>by
  have nC:∀c z,H' c=ZY z->c≠s.heap.objs.size:=λc z q w=>by
   have f:H' s.heap.objs.size=ZX:=J.free;rw[w,f] at q;cases q
  refine(J.hok b u e).stay (λc v hc q=>k c v ?_ q) (λ_ q=>q) λ_ _ q=>q
  rcases hc with z |z
  ·rw[z];exact nC b u e
  ·exact nC c _ z
 have os:s'.os=s.os:=J.os;refine Inv.call' (s':={ s' with heap:=h'' }) I os un hok J.bare λb hb=>?_
 obtain⟨_,f1,_,f3,f4,f5⟩:=hf b hb;exact⟨f3,f1,f4,f5⟩
end
def awt(y:Str)(fr N:List Str)(src:List 'G')(hc:X.calm=ZW)(hi:PI X tg iter wi)
  (hg:∀fp s H,PG (cxY y X N scope fr fp s H) tg g) (ht:∀fp s H,PIf (cxY y X N scope fr fp s H) ifs ti) (he:∀fp s H,PE (cxY y X N scope fr fp s H) elt te)
  (hok:akh y X.env X.N scope fr N src=ZW) (hcf:∀a l,cellsFrom a scope.names l=(y,a)::l) (hkind:scope.kind=.function) (hclos:mV scope X.env=pure (lq X.env fr))
  (hs:∀x,gC iter X.env x=pure x):PE X (.ListComp elt [⟨tg,iter,ifs,0⟩] scope pos) (awe wi g ti te src):=by
 have C:=CompOkY.of hok;intro zv s σ H Q I h;rw[eval_ListComp];refine wpAny_comprehension_free (use:=ZX) rfl hs hclos hkind C.loc (aZ (hi zv s σ H _ I h) (λv s1 h1=>aZ h1 (λitv s2 h2=>?_) λ_ _ e=>e) λ_ _ e=>e)
 obtain⟨it,fp,tn,J,H2,e,I2,T,st2,f2,q2⟩:=h2;subst e;have hd0:H2 s2.heap.objs.size=ZX:=I2.hok.fresh (aL _);obtain⟨W,⟨m0,w0⟩,turn⟩:=q2 s2.heap.objs.size hd0;refine cA ?_;generalize hs3:({ s2 with heap:=s2.heap.push { cls:=.type "list", dict:=ZX,data:=.seq ([]:List aH).toArray } }:aN)=s3
 have keep2:∀b o,s2.heap.get? b=ZY o->s3.heap.get? b=ZY o:=λb o e=>by rw[<-hs3];exact aB _ e
 have I3:Inv X zv σ (upd H2 s2.heap.objs.size (.lst [])) s3:=by
  rw[<-hs3];exact I2.laid (t':=s2.toks) (λb u q=>aB _ q) (aL _) ⟨Nat.zero_le _,[],0,.nil,aM _ rfl⟩
 have ne0:∀b∈fp,b≠s2.heap.objs.size:=λb hb=>by
  obtain⟨o,e,_⟩:=T.obj _ _ st2 b hb;exact bI (aO e)
 have f3:∀b∈fp,FpOk X zv (upd H2 s2.heap.objs.size (.lst [])) b:=λb hb=>⟨by rw[cg (ne0 b hb)];exact(f2 b hb).1,(f2 b hb).2⟩
 have lt3:∀b∈fp,b<s3.heap.objs.size:=λb hb=>by
  obtain⟨o,e,_⟩:=T.obj _ _ st2 b hb;exact aO (keep2 b o e)
 refine aaj ?_;rw[hcf];have ok:=cellsFrom_ok scope.names (s3.heap.push { cls:=.type "dict", data:=.dict #[] }) (s3.heap.objs.size+1) [] ⟨λ_ _ hm=>(nomatch hm),tG⟩ (by rw[cG];exact aL _)
 rw[cG,hcf] at ok;have hns₁:=(Heap.Ns.new s3.heap (.type "dict")).keeps (pushCells_keeps scope.names _);have keep3:∀b o,s3.heap.get? b=ZY o->(pushCells (s3.heap.push { cls:=.type "dict", data:=.dict #[] }) scope.names).get? b=ZY o:=λb o e=>pushCells_keeps _ _ b o (aB _ e)
 have hcl:=(ok.empty y (s3.heap.objs.size+1) aX).1;generalize pushCells (s3.heap.push { cls:=.type "dict", data:=.dict #[] }) scope.names=h₁ at hns₁ keep3 hcl ⊢
 have st4:tn 0 h₁:=T.keep _ _ _ st2 λb hb o e=>keep3 b o (keep2 b o e)
 have I4:=aty (tk:=s3.toks) I3 C hkind f3 lt3 hns₁ keep3 hcl;have loop:=ahw (X:=cxY y X N scope fr fp s3 (upd H2 s2.heap.objs.size (.lst []))) (iter:=iter) (scope:=scope) (pos:=pos) (d:=s2.heap.objs.size)
  (R:=compPost 'D' X.A X.xe ZX (EP X zv σ Q) (.ref s2.heap.objs.size) s3.heap.objs.size) hc rfl T
  (λH' hn b hb=>⟨hn b hb,bI (lt3 b hb),I4.ok.exfs b hb,.inl hb,(I4.ok.exf b hb).2,λp hp=>absurd (show p∈([]:List (bB×Obj)) from hp) (by simp)⟩)
  (hg fp s3 _) (ht fp s3 _) (he fp s3 _) turn w0 I4 st4 (λb hb=>(f3 b hb).1) (λσ' H' s' I6 qn=>by
   obtain⟨m6,hn6,_⟩:=I6.loc;exact⟨m6,hn6,λh'' hs''=>⟨.ref s2.heap.objs.size,H',atz I3 f3 I6 hs'',rfl,qn⟩⟩)
 exact codeAny_compStart_list loop (T.self _ 0 _ _ _ st4 loop)
end Mn
namespace Dn
open L2 Mn
def ax1{K:Fg9}{X:Cx}{tgt iter elt:fP}{pos:Pos}{ifs:List fP}{scope:nO}{mi:M (List D)}{bb:D->Ro->Option Ro}{mc:M Bool}{me:M D}(y:Str)(fr N:List Str)(src:List 'G')(hc:X.calm=ZW)(hi:IT K X tgt iter mi)
  (hg:∀fp s H,GV K (cxY y X N scope fr fp s H) tgt bb) (ht:∀fp s H,EIf K (cxY y X N scope fr fp s H) ifs mc) (he:∀fp s H,EV K (cxY y X N scope fr fp s H) elt me)
  (hok:akh y X.env X.N scope fr N src=ZW:=by rfl) (hcf:∀a l,cellsFrom a scope.names l=(y,a)::l:=by intro _ _;rfl) (hkind:scope.kind=.function:=by rfl) (hclos:mV scope X.env=pure (lq X.env fr):=by rfl)
  (hs:∀x,gC iter X.env x=pure x:=by intro _;rfl):ER K X (.ListComp elt [⟨tgt,iter,ifs,0⟩] scope pos) (sr src mi bb mc me):=ER.mk λhk=>by
 have hkc:∀fp s H,(cxY y X N scope fr fp s H).K=K:=λ_ _ _=>hk
 refine PE.imp (awt y fr N src hc (hi hk) (λfp s H=>(hg fp s H).go (hkc _ _ _)) (λfp s H=>(ht fp s H).go (hkc _ _ _)) (λfp s H=>(he fp s H).go (hkc _ _ _)) hok hcf hkind hclos hs) agq
end Dn
namespace L2
section
variable{M:Model}{A:dG}{E:aH->aN->Prop}{s:aN}
structure KeptBut (fs ch:List bB) (h h':iK):Prop where
 keep:∀b o,b∉ch->b∉fs->h.get? b=ZY o->h'.get? b=ZY o
 slot:∀b o,b∉ch->h.get? b=ZY o->∃sl,h'.get? b=ZY { o with slots:=sl }
def KeptBut.trans(a:KeptBut fs ch h h1)(b:KeptBut fs ch h1 h2):KeptBut fs ch h h2 :=
 ⟨λc o n1 n2 e=>b.keep c o n1 n2 (a.keep c o n1 n2 e),λc o n e=>let ⟨_,e1⟩:=a.slot c o n e;let ⟨sl,e2⟩:=b.slot c _ n e1;⟨sl,e2⟩⟩
def KeptBut.sub(a:KeptBut fs ch h h')(q:∀b∈ch,b∈ch'):KeptBut fs ch' h h' :=
 ⟨λc o n1 n2 e=>a.keep c o (λz=>n1 (q c z)) n2 e,λc o n e=>a.slot c o (λz=>n (q c z)) e⟩
def KeptBut.upd:KeptBut fs [a] h (h.update a f) :=
 ⟨λb o n _ e=>by rw[bM _ _ (λz=>n (by simp[z]))];exact e,λb o n e=>⟨o.slots,by rw[bM _ _ (λz=>n (by simp[z]))];exact e⟩⟩
def alc 
  (hfr:A.frames=ZY (env::outer)) (hl:s.heap.FunFrames base (env::outer)) (hf:env.frame=ZY L) (he:s.heap.get? e=ZY oe) (hd:oe.data=.fields vs) (hsz:1<vs.size)
  (h:∀h' T ts,s.heap.objs.size<=T->KeptBut (frs (env::outer)) [e] s.heap h'->h'.get? e=ZY (oe.mapFields (·.setIfInBounds 1 (.ref T)))->h'.get? T=ZY { cls:=.type "traceback", dict:=ZX,data:=.fields ts }->ts[3]? = ZY (iZ L)->Q () { s with heap:=h' }) :
  bD M A (do let a <-frameOf env;let pl <-entryPlaceOf L hadNext;let b <-xK head a .none (iZ L) .none pl;setField (.ref e) 1 b) Q E s:=by
 have hene:e∉frs (env::outer):=λhm=>by
  obtain⟨_,o,ho,hnf⟩:=hl.mem hm;rw[he] at ho;injection ho with ho;subst ho;exact hnf vs hd
 refine aA (wpAny_frameOf_fun hfr hl hf λh₁ hs₁=>?_)
 refine aA (wpAny_entryPlaceOf λpl hpl=>?_)
 unfold xK newFields;refine aA (cA ?_ (hpl.sizeOk5 _ _ _ _ _));have he₁:h₁.get? e=ZY oe:=(hs₁.2.1 e hene).trans he;have he₂:=aB (h:=h₁) { cls:=.type "traceback", dict:=ZX,data:=.fields ([head,.ref L,.none,iZ L,.none]++(if pl.isEmpty then aK 6 cQ else pl)).toArray } he₁
 refine fM he₂ hd hsz (h _ h₁.objs.size ([head,.ref L,.none,iZ L,.none]++(if pl.isEmpty then aK 6 cQ else pl)).toArray ?_ ?_ ?_ ?_ ?_)
 ·exact wG hs₁.1.symm
 ·have keep:∀b o,b≠e->h₁.get? b=ZY o->((h₁.push { cls:=.type "traceback", dict:=ZX,data:=.fields ([head,.ref L,.none,iZ L,.none]++(if pl.isEmpty then aK 6 cQ else pl)).toArray }).update e (lL (·.setIfInBounds 1 (cY h₁.objs.size)))).get? b=ZY o:=λb o hbe hb=>by
   rw[bM _ _ (gY hbe)];exact aB _ hb
  refine⟨λb o n1 n2 hb=>keep b o (λz=>n1 (by simp[z])) ((hs₁.2.1 b n2).trans hb),λb o n hb=>?_⟩
  obtain⟨sl,q⟩:=hs₁.2.2 b o hb;exact⟨sl,keep b _ (λz=>n (by simp[z])) q⟩
 ·exact cC _ he₂ (fD (bW hd _))
 ·rw[bM _ _ (gY (gP (aO he₁)))];exact aM h₁ rfl
 ·rcases hpl with rfl |⟨_,_,_,_,_,_,_,rfl⟩ <;> simp
end
structure FlyAt (h:iK) (a:bB) (C:bB) (dx:Option bB) (ch:List bB) (L:bB):Prop where
 obj:∃oe vs,h.get? a=ZY oe/\oe.cls=.ref C/\oe.dict=dx/\oe.data=.fields vs/\1<vs.size /\
  ((vs[1]? = ZY .none/\ch=[a])∨∃T oT ts fl,ch=[a,T]/\vs[1]? = ZY (.ref T)/\T≠a/\h.get? T=ZY oT/\oT.data=.fields ts/\ts[3]? = ZY fl/\(fl=.none∨fl=iZ L))
def FlyAt.fresh(x:FlyAt h a C dx ch L):a∈ch:=by
 obtain⟨oe,vs,_,_,_,_,_,⟨_,e⟩ |⟨T,_,_,_,e,_⟩⟩:=x.obj <;> simp[e]
section
variable{M:Model}{A:dG}{E:aH->aN->Prop}{s:aN}
def ac9(o:Obj)(f):(o.mapFields f).dict=o.dict:=by
 obtain⟨c,d,dt,sl⟩:=o;cases dt <;> rfl
def a1b 
  (hfr:A.frames=ZY (env::outer)) (hl:s.heap.FunFrames base (env::outer)) (hf:env.frame=ZY L) (x:FlyAt s.heap a C dx ch L)
  (h:∀h' T oT ts oe vs,(T∈ch∨s.heap.objs.size<=T)->KeptBut (frs (env::outer)) ch s.heap h'->h'.get? a=ZY oe->oe.cls=.ref C->oe.dict=dx->oe.data=.fields vs->1<vs.size->vs[1]? = ZY (.ref T)->T≠a->h'.get? T=ZY oT->oT.data=.fields ts->ts[3]? = ZY (iZ L)->Q () { s with heap:=h' }) :
  bD M A (noteFrame (.ref a) env) Q E s:=by
 obtain⟨oe,vs,he,hc,hdx,hd,hsz,alt⟩:=x.obj;unfold noteFrame;simp only[hf];rcases alt with⟨h1,rfl⟩ |⟨T,oT,ts,fl,rfl,h1,hTa,hT,hdT,h3,hfl⟩
 ·refine aA (dN he hd h1 ?_);rw[if_neg (by decide)]
  refine alc hfr hl hf he hd hsz λh' T ts hT k e1 e2 e3=>?_
  refine h h' T _ ts _ _ (.inr hT) k e1 (by rw[lM];exact hc) (by rw[ac9];exact hdx) (bW hd _) (by simpa using hsz) (by simp[hsz]) ?_ e2 rfl e3
  exact gP (bN (aO he) hT)
 ·refine aA (dN he hd h1 ?_);rw[if_pos (show(cY T != cQ)=ZW from by simp)]
  refine aA (dN hT hdT h3 ?_);rcases hfl with rfl |rfl
  ·rw[if_neg (show ¬((cQ==iZ L)=ZW) from by simp[iZ])]
   refine aA (fM hT hdT (dY.mp h3).1 ?_);have k0:KeptBut (frs (env::outer)) [T] s.heap (s.heap.update T (lL (·.setIfInBounds 3 cQ))):=KeptBut.upd;have he':=(bM s.heap (lL (·.setIfInBounds 3 cQ)) hTa).trans he;refine alc hfr (hl.of_keeps λb o hb hnf=>?_) hf he' hd hsz λh' T' ts' hT' k e1 e2 e3=>?_
   ·exact⟨o,(bM _ _ λz=>by rw[<-z,hT] at hb;cases hb;exact hnf _ hdT).trans hb,rfl⟩
   ·have hsz':s.heap.objs.size<=T':=by
     have:(s.heap.update T (lL (·.setIfInBounds 3 cQ))).objs.size=s.heap.objs.size:=Heap.size_after_update ..
     exact this▸hT'
    refine h h' T' _ ts' _ _ (.inr hsz') ((k0.sub (by simp)).trans (k.sub (by simp))) e1 (by rw[lM];exact hc) (by rw[ac9];exact hdx) (bW hd _) (by simpa using hsz) (by simp[hsz]) ?_ e2 rfl e3
    exact gP (bN (aO he) hsz')
  ·rw[if_pos (show(iZ L==iZ L)=ZW from by simp)]
   refine aF (h s.heap T oT ts oe vs (.inl (by simp)) ⟨λ_ _ _ _ e=>e,λ_ o _ e=>⟨o.slots,e⟩⟩ he hc hdx hd hsz h1 hTa hT hdT h3)
def a6d 
  (hfr:A.frames=ZY (env::outer)) (hl:s.heap.FunFrames base (env::outer)) (hf:env.frame=ZY L) (x:FlyAt s.heap a C dx ch L)
  (h:∀h' ch',(∀b∈ch',b∈ch∨s.heap.objs.size<=b)->KeptBut (frs (env::outer)) ch s.heap h'->(∀L',FlyAt h' a C dx ch' L')->Q () { s with heap:=h' }) :
  bD M A (leaving env (.ref a)) Q E s:=by
 unfold leaving;refine aA (a1b hfr hl hf x λh' T oT ts oe vs hT k e1 e2 e3 e4 e5 e6 e7 e8 e9 e10=>?_)
 unfold setFlight;refine aA (dN e1 e4 e6 ?_);rw[if_pos (show(cY T != cQ)=ZW from by simp)]
 have hsz3:3<ts.size:=(dY.mp e10).1;refine fM e8 e9 hsz3 (h _ [a,T] (λb hb=>?_) ?_ λL'=>⟨oe,vs,(bM _ _ e7).trans e1,e2,e3,e4,e5,.inr ⟨T,_,_,.none,rfl,e6,e7,cC _ e8 (fD (bW e9 _)),bW e9 _,by simp[hsz3],.inl rfl⟩⟩)
 ·have:b=a∨b=T:=by simpa using hb
  rcases this with rfl |rfl
  ·exact .inl x.fresh
  ·exact hT
 ·rcases hT with hT |hT
  ·exact k.trans (KeptBut.upd.sub (by simp[hT]))
  ·refine⟨λb o n1 n2 e=>?_,λb o n e=>?_⟩
   ·rw[bM _ _ λz=>absurd (aO e) (by rw[<-z];exact mC.mpr hT)]
    exact k.keep b o n1 n2 e
   ·obtain⟨sl,q⟩:=k.slot b o n e;exact⟨sl,by rw[bM _ _ λz=>absurd (aO e) (by rw[<-z];exact mC.mpr hT)];exact q⟩
end
end L2
namespace Dn
open L2 Mn
def a3a(F:Hp)(dx:Option bB)(fs:List (Str×Int)):Prop:=(dx=ZX/\fs=[])∨∃d,dx=ZY d/\F d=ZY (.xd (fs.map λp=>(p.1,V.int p.2)))
structure ClsOk (K:Fg9) (c:Str) (C:bB):Prop where
 ns:nsIn K aW c=ZY (ZY (.ref C))
 ok:ExcK K C
def FpX(X:Cx)(zv:List (bB×Obj))(H:Hp)(b:bB):Prop :=
 H b=ZX/\b≠X.env.locals/\b∉X.fs/\(b∈X.ex∨X.s₀.heap.get? b=ZX)/\(∀x c,X.env.cells.lookup x=ZY c->c≠b)/\∀p∈X.pn++zv,p.1≠b
section
variable{X:Cx}{zv:List (bB×Obj)}{σ:L2.St}{H H':Hp}{s:aN}
def Inv.fpX(I:Inv X zv σ H s)(hb:s.heap.get? b=ZX)(hn:H' b=ZX):FpX X zv H' b:=by
 have no:∀{o},s.heap.get? b=ZY o->False:=λe=>by rw[hb] at e;cases e
 refine⟨hn,λz=>?_,λz=>?_,?_,λx c e z=>?_,λp hp z=>?_⟩
 ·obtain⟨m,⟨o,_,_,ho,_⟩,_⟩:=I.loc;rw[<-z] at ho;exact no ho
 ·obtain⟨_,o,ho,_⟩:=I.funs.mem z;exact no ho
 ·by_cases hx:b∈X.ex
  ·exact .inl hx
  ·refine .inr ?_;cases e:X.s₀.heap.get? b with
   |none=>rfl
   |some o=>
    obtain⟨o',e'⟩:=I.base.there b o e hx;exact(no e').elim
 ·obtain⟨v,o,ho,_⟩:=I.cell x c e;rw[z] at ho;exact no ho
 ·have:=(I.pin p hp).1;rw[z] at this;exact no this
def Inv.records(I:Inv X zv σ H s)(k:KeptBut (frs X.stack) ch s.heap h')(hch:∀b∈ch,FpX X zv H b):Inv X zv σ H { s with heap:=h' }:=by
 have nt:∀c z,H c=ZY z->c∉ch/\c∉frs X.stack:=λc z q=>⟨(λm=>by have:=(hch c m).1;rw[q] at this;cases this),(λm=>by have:=I.stkFree c m;rw[q] at this;cases this)⟩
 have nb:∀b o,X.s₀.heap.get? b=ZY o->b∉X.ex->b∉ch:=λb o e hx m=>by
  rcases(hch b m).2.2.2.1 with z |z
  ·exact hx z
  ·rw[z] at e;cases e
 have nl:∀b o,X.s₀.heap.get? b=ZY o->b∉X.fs->b∉frs X.stack:=λb o e hf m=>by
  rcases bA.mp (I.stkSub b m) with z |z
  ·exact absurd (aO e) (by rw[z];exact mC.mpr I.ok.above)
  ·exact hf z
 have cellK:∀x c,X.env.cells.lookup x=ZY c->∀v,s.heap.IsCell c v->h'.IsCell c v:=λx c e v hq0=>by
  obtain⟨o,ho,hd⟩:=hq0;obtain⟨sl,q⟩:=k.slot c o (λm=>(hch c m).2.2.2.2.1 x c e rfl) ho
  exact⟨_,q,hd⟩
 refine⟨I.ok,I.os,I.bare,⟨λb o e n hb hx=>k.keep b o (nb b o e hx) (nl b o e hb) (I.base.keep b o e n hb hx),λb o e n hb hx=>?_,I.base.free,λb o e hx=>?_,I.base.tups,I.base.frzs,I.base.tbls⟩,?_,λx c e=>?_,I.free,I.freeC,λp hp=>?_,λb u e=>?_,I.len⟩
 ·obtain⟨sl,e1⟩:=I.base.slot b o e n hb hx;obtain⟨sl',e2⟩:=k.slot b _ (nb b o e hx) e1;exact⟨sl',e2⟩
 ·obtain⟨o',e1⟩:=I.base.there b o e hx;obtain⟨sl,e2⟩:=k.slot b o' (nb b o e hx) e1;exact⟨_,e2⟩
 ·obtain⟨m,⟨o,es,ep,ho,r⟩,hl⟩:=I.loc;obtain⟨sl,q⟩:=k.slot _ o (λm=>(hch _ m).2.1 rfl) ho
  refine⟨m,⟨_,es,ep,q,r⟩,λi x v e1 e2 e3=>?_⟩
  obtain⟨u,rv,l⟩:=hl i x v e1 e2 e3;refine⟨u,rv,?_⟩;rcases l with l |⟨kk,c,e,z⟩
  ·exact .inl l
  ·exact .inr ⟨kk,c,e,cellK x c e _ z⟩
 ·obtain⟨v,z⟩:=I.cell x c e;exact⟨v,cellK x c e v z⟩
 ·obtain⟨e,n,ne,nf,d⟩:=I.pin p hp;refine⟨k.keep p.1 p.2 (λm=>(hch _ m).2.2.2.2.2 p hp rfl) (λm=>?_) e,n,ne,nf,d⟩
  rcases bA.mp (I.stkSub _ m) with z |z
  ·exact ne z
  ·exact nf z
 ·refine(I.hok b u e).stay (λc v hc q=>?_) (λ_ q=>q) λ_ _ q=>q
  rcases hc with z |z
  ·rw[z] at q ⊢;exact k.keep _ _ (nt b u e).1 (nt b u e).2 q
  ·exact k.keep _ _ (nt c _ z).1 (nt c _ z).2 q
end
def FlyX(K:Fg9)(X:Cx)(zv:List (bB×Obj))(x:Exn)(F H:Hp)(h:iK)(e:aH):Prop :=
 ∃a C dx ch,e=.ref a/\ClsOk K x.cls C/\a3a F dx x.fs/\FlyAt h a C dx ch X.env.locals/\∀b∈ch,FpX X zv H b
def RX(K:Fg9)(X:Cx)(zv:List (bB×Obj))(tg:Nat->bB)(ρ:Ro)(σ:L2.St)(F H:Hp)(x:Exn)(ρ':Ro)(e:aH)(s':aN):Prop :=
 ∃σ' H' F',Inv X zv σ' H' s'/\Good K tg F' H' ρ' σ'/\Ext (Own ρ σ) (Own ρ' σ') F H F' H'/\FlyX K X zv x F' H' s'.heap e
def RX.back{K:Fg9}{X:Cx}{zv:List (bB×Obj)}{tg:Nat->bB}{ρ ρ1 ρ':Ro}{σ σ1:L2.St}{F H F1 H1:Hp}{x:Exn}{e:aH}{s':aN}(q:Ext (Own ρ σ) (Own ρ1 σ1) F H F1 H1)(h:RX K X zv tg ρ1 σ1 F1 H1 x ρ' e s'):RX K X zv tg ρ σ F H x ρ' e s' :=
 let ⟨σ',H',F',I,G,y,f⟩:=h;⟨σ',H',F',I,G,q.trans y,f⟩
abbrev XGo(K:Fg9)(X:Cx)(α:Type)(c:Sem α)(m:Ro->Option (Exn×Ro)):Prop :=
 X.K=K->X.xe=(λ_ _=>False)->∀zv s σ H tg F ρ x ρ',Inv X zv σ H s->Good K tg F H ρ σ->m ρ=ZY (x,ρ')->bD 'D' X.A c (λ_ _=>False) (RX K X zv tg ρ σ F H x ρ') s
def exE{α:Type}(m:M α):Ro->Option (Exn×Ro):=λρ=>match m ρ with
 |some (.exc x,ρ')=>ZY (x,ρ')
 |_=>ZX
def exS(g:Sd):Ro->Option (Exn×Ro):=λρ=>match g ρ with
 |some (.exc x,ρ')=>ZY (x,ρ')
 |_=>ZX
def qy:exE m ρ=ZY (x,ρ')↔m ρ=ZY (.exc x,ρ'):=by
 unfold exE;split
 ·rename_i y ρ1 e;rw[e];constructor
  ·intro h;cases h;rfl
  ·intro h;cases h;rfl
 ·rename_i hn;constructor
  ·intro h;cases h
  ·intro h;exact absurd h (hn x ρ')
def uo:exS g ρ=ZY (x,ρ')↔g ρ=ZY (.exc x,ρ'):=by
 unfold exS;split
 ·rename_i y ρ1 e;rw[e];constructor
  ·intro h;cases h;rfl
  ·intro h;cases h;rfl
 ·rename_i hn;constructor
  ·intro h;cases h
  ·intro h;exact absurd h (hn x ρ')
structure XE (K:Fg9) (X:Cx) (e:fP) {α:Type} (m:M α):Prop where
 go:XGo K X aH (eval e X.env) (exE m)
structure XA (K:Fg9) (X:Cx) (es:List fP) {α:Type} (m:M α):Prop where
 go:∀(pos:Pos),XGo K X (List aH) (spliced (kI pos (aQ es X.env))) (exE m)
structure XS (K:Fg9) (X:Cx) (st:jG) (g:Sd):Prop where
 go:XGo K X Flow (exec st X.env) (exS g)
structure XSs (K:Fg9) (X:Cx) (ss:List jG) (g:Sd):Prop where
 go:XGo K X Flow (execs ss X.env) (exS g)
def NoX{α:Type}(m:M α):Prop:=∀ρ x ρ',m ρ≠ZY (.exc x,ρ')
def NoS(g:Sd):Prop:=∀ρ x ρ',g ρ≠ZY (.exc x,ρ')
section
variable{K:Fg9}{X:Cx}{e a b c:fP}{es:List fP}{pos p:Pos}{st:jG}{ss:List jG}
def XE.no(h:NoX m):XE K X e m:=⟨λ_ _ zv s σ H tg F ρ x ρ' I G em=>absurd (qy.mp em) (h ρ x ρ')⟩
def XS.no(h:NoS g):XS K X st g:=⟨λ_ _ zv s σ H tg F ρ x ρ' I G em=>absurd (uo.mp em) (h ρ x ρ')⟩
def apg(h:dM m k ρ=ZY (.exc x,ρ')):m ρ=ZY (.exc x,ρ')∨∃a ρ1,m ρ=ZY (.ok a,ρ1)/\k a ρ1=ZY (.exc x,ρ'):=by
 unfold dM at h;split at h
 ·exact .inr ⟨_,_,by assumption,h⟩
 ·cases h;exact .inl (by assumption)
 ·cases h
def aaq{α β:Type}{m:M α}{k:α->M β}{ρ ρ':Ro}{x:Exn}(h:m.bind k ρ=ZY (.exc x,ρ')):m ρ=ZY (.exc x,ρ')∨∃a ρ1,m ρ=ZY (.ok a,ρ1)/\k a ρ1=ZY (.exc x,ρ'):=by
 unfold M.bind at h;split at h
 ·exact .inr ⟨_,_,by assumption,h⟩
 ·cases h;exact .inl (by assumption)
 ·cases h
def XA.no(h:NoX m):XA K X es m:=⟨λ_ _ _ zv s σ H tg F ρ x ρ' I G em=>absurd (qy.mp em) (h ρ x ρ')⟩
def aq8:XSs K X [] dNx:=⟨λ_ _ zv s σ H tg F ρ x ρ' I G em=>by cases em⟩
def j0(h:XS K X st g):XSs K X [st] g:=⟨λhk hn zv s σ H tg F ρ x ρ' I G em=>wpAny_execs_cons (aZ (h.go hk hn zv s σ H tg F ρ x ρ' I G em) (λ_ _ z=>z.elim) λ_ _ z=>z)⟩
def rm(h:SV K X st g)(hx:XS K X st g)(t:XSs K X ss k):XSs K X (st::ss) (dSeq g k):=⟨λhk hn zv s σ H tg F ρ x ρ' I G em=>by
 have em:=uo.mp em;unfold dSeq at em;split at em
 ·rename_i ρ1 e1;refine wpAny_execs_cons (aZ (h.go hk zv s σ H { nx:=λσ1 H1=>∃F1,Good K tg F1 H1 ρ1 σ1/\Ext (Own ρ σ) (Own ρ1 σ1) F H F1 H1,rt:=λ_ _=>False } I ⟨tg,F,ρ,.nx,ρ1,G,e1,λσ' H' F' G' x=>⟨F',G',x⟩⟩) (λf s1 q=>?_) λe s1 q=>by rw[hn] at q;exact q.elim)
  cases f with
  |next=>
   obtain⟨σ1,H1,I1,F1,G1,x1⟩:=q;exact aZ (t.go hk hn zv s1 σ1 H1 tg F1 ρ1 x ρ' I1 G1 (uo.mpr em)) (λ_ _ z=>z.elim) λ_ _ z=>z.back x1
  |ret v=>obtain⟨_,_,_,_,_,z⟩:=q;exact z.elim
  |brk=>obtain⟨_,_,_,z⟩:=q;exact z.elim
  |cont=>obtain⟨_,_,_,z⟩:=q;exact z.elim
 ·exact wpAny_execs_cons (aZ (hx.go hk hn zv s σ H tg F ρ x ρ' I G (uo.mpr em)) (λ_ _ z=>z.elim) λ_ _ z=>z)⟩
def ut(h:XE K X e m)(hs:mF e ZX pos.line X.env=pure ZV:=by rfl):XS K X (.Expr e pos) (u6 m):=⟨λhk hn zv s σ H tg F ρ x ρ' I G em=>by
 rcases apg (uo.mp em) with em |⟨_,_,_,em⟩
 ·exact wpAny_Expr_any (aZ (h.go hk hn zv s σ H tg F ρ x ρ' I G (qy.mpr em)) (λ_ _ z=>z.elim) λ_ _ z=>z) I.quiet hs
 ·cases em⟩
def a3f(h:XE K X e m):XS K X (.Return (ZY e) pos) (dRet m):=⟨λhk hn zv s σ H tg F ρ x ρ' I G em=>by
 rcases apg (uo.mp em) with em |⟨_,_,_,em⟩
 ·exact wpAny_Return_some (aZ (h.go hk hn zv s σ H tg F ρ x ρ' I G (qy.mpr em)) (λ_ _ z=>z.elim) λ_ _ z=>z)
 ·cases em⟩
def akn(h:ET K X c m)(hm:NoX m)(h1:XSs K X ss g)(h2:XSs K X ss' k):XS K X (.If c ss ss' pos) (dIf m g k):=⟨λhk hn zv s σ H tg F ρ x ρ' I G em=>by
 rcases apg (uo.mp em) with em |⟨z,ρ1,e1,em⟩
 ·exact absurd em (hm _ _ _)
 ·refine wpAny_If (aZ (h.go hk zv s σ H (λb H1=>b=z/\∃F1,Good K tg F1 H1 ρ1 σ/\Ext (Own ρ σ) (Own ρ1 σ) F H F1 H1) I ⟨tg,F,ρ,z,ρ1,G,e1,λH' F' G' x=>⟨rfl,F',G',x⟩⟩) (λd s1 ⟨H1,I1,hz,F1,G1,x1⟩=>?_) λe s1 q=>by rw[hn] at q;exact q.elim)
  subst hz;cases d with
  |true=>exact aZ (h1.go hk hn zv s1 σ H1 tg F1 ρ1 x ρ' I1 G1 (uo.mpr em)) (λ_ _ z=>z.elim) λ_ _ z=>z.back x1
  |false=>exact aZ (h2.go hk hn zv s1 σ H1 tg F1 ρ1 x ρ' I1 G1 (uo.mpr em)) (λ_ _ z=>z.elim) λ_ _ z=>z.back x1⟩
def CX1(P:cF)(w:dX):CXT:=λouter H s E e s'=>∃H' a C dx ch,e=.ref a/\s'.os=s.os/\qU s'.gens/\Un (frs outer) [] H H' s.heap s'.heap/\HOk P w H' s'.heap /\
 (∀L',FlyAt s'.heap a C dx ch L')/\(∀b∈ch,s.heap.get? b=ZX/\H' b=ZX)/\E (.ref C) dx H'
def spX(K:Fg9)(n:Nat)(f:Fd):Sp:=λvs H _ E=>vs.length=n/\∃F as x ps,Good K (tgOf (vs.map ZY)) F H as (vs.map ZY)/\f as=ZY (.exc x,ps) /\
 ∀C dx H' F' O',Same F' H'->Ext (Own as (vs.map ZY)) O' F H F' H'->Fin K F' H' (vs.map ZY) ps O'->ClsOk K x.cls C->a3a F' dx x.fs->E (.ref C) dx H'
def DfnX(P:cF)(w:dX)(K:Fg9)(mg:Str->Option aH)(base:iK)(x:Str)(ps:List Str)(k:Nat)(sp:Sp):Prop :=
 ∃(f:bB) (fd:eU),FnOk P w K mg base (CX1 P w) k f fd ps sp/\mg x=ZY (.ref f)/\oH K (.ref f)=ZW/\Binds K fd ps []
def a1j{f:Fd}{js:List 'G'}{ms:M (List (Option D))}{ρ ρ':Ro}{x:Exn}(h:mFn f js ms ρ=ZY (.exc x,ρ')) :
  ms ρ=ZY (.exc x,ρ')∨∃ds ρ1 ps,ms ρ=ZY (.ok ds,ρ1)/\okJs ρ1 js=ZW/\f (lend ρ1 js ds)=ZY (.exc x,ps)/\ρ'=putB ρ1 js ps:=by
 rcases aaq h with h |⟨ds,ρ1,e1,em⟩
 ·exact .inl h
 ·split at em
  ·rename_i hj;split at em
   ·cases em
   ·rename_i y ps e2;cases em;exact .inr ⟨ds,ρ1,ps,e1,hj,e2,rfl⟩
   ·cases em
  ·cases em
def ada(F:DfnX X.prog X.w X.K X.mg X.base x pn k (spX K n f))(hr:Room k X.A)(hg:Gl X x)(ha:EG K X (e::es) js ms)(hxa:XA K X (e::es) ms)(hn:js.length=n:=by rfl)(hdb:Zb x:=by decide)
  (he:Zc X e es:=by rfl) (hpl:(kI pos (aQ es X.env)).any (·.1)=ZV:=by rfl):XE K X (.Call (.Name x p) (e::es) [] pos) (mFn f js ms):=⟨λhk hno zv s σ H tg F0 ρ y ρ' I G em=>by
 obtain⟨fa,fd,Fo,hm,hkp,hb⟩:=F;refine wpAny_Call_Name_kw (adp I hg hm ?_ hdb);rcases a1j (qy.mp em) with em |⟨ds,ρ1,ps,e1,hj,e2,rfl⟩
 ·exact oM (h₀:=X.base) I.ok.mod.kin hkp (aZ (hxa.go pos hk hno zv s σ H tg F0 ρ y ρ' I G (qy.mpr em)) (λ_ _ z=>z.elim) λ_ _ z=>z) he hpl
 ·refine oM (h₀:=X.base) I.ok.mod.kin hkp (aZ (ha.go hk pos zv s σ H (λvs H1=>∃F1,Good K tg F1 H1 ρ1 σ/\Ext (Own ρ σ) (Own ρ1 σ) F0 H F1 H1/\AR K F1 σ js ds vs) I ⟨tg,F0,ρ,ds,ρ1,G,e1,λvs H1 F1 G1 x1 ar=>⟨F1,G1,x1,ar⟩⟩) (λus s1 ⟨vs,H1,I1,r,F1,G1,x1,ar⟩=>⟨I1.kIn,?_⟩) λe s1 q=>by rw[hno] at q;exact q.elim) he hpl
  have L:=ar.lent;have hl:(us++[]).length=pn.length:=by
   rw[iJ,<-r.length];exact Fo.len vs H1 (λ_ _=>True) (λ_ _ _=>True) ⟨by rw[ar.length];exact hn,F1,_,y,ps,ach G1 hj L,e2,λ_ _ _ _ _ _ _ _ _ _=>trivial⟩
  have hbn:=hb s1 us I1.kIn hl;rw[iJ] at hbn;refine lZ (lE (Fo.run X.A X.stack s1 H1 ⟨[]++us,[]⟩ us vs (λ_ _=>False) (λcv dx H2=>∃C F2,cv=.ref C/\Good K tg F2 H2 (putB ρ1 js ps) σ/\Ext (Own ρ σ) (Own (putB ρ1 js ps) σ) F0 H F2 H2/\ClsOk K y.cls C/\a3a F2 dx y.fs) hr I1.env0 hbn r
   ⟨by rw[ar.length];exact hn,F1,_,y,ps,ach G1 hj L,e2,λC dx H2 F2 O2 s2 x2 fin hc hf=>⟨C,F2,rfl,ae2 G1 L x2 s2 fin,x1.trans (ags G1 L x2),hc,hf⟩⟩) λr s' hq=>?_)
  cases r with
  |ok fl=>
   cases fl with
   |ret u=>obtain⟨_,_,_,_,_,_,_,z⟩:=hq;exact z.elim
   |next=>exact fW hq
   |brk=>exact fW hq
   |cont=>exact fW hq
  |error er=>
   obtain⟨H',a,C,dx,ch,rfl,os,bare,un,hok,fl,hch,C',F2,ce,G2,x2,hc,hf⟩:=hq;cases ce;exact⟨σ,H',F2,I1.call' os un hok bare (λb z=>absurd z (by simp)),G2,x2,a,C,dx,ch,rfl,hc,hf,fl _,λb hb=>Inv.fpX I1 (hch b hb).1 (hch b hb).2⟩⟩
end
def fn_x{K:Fg9}{P:cF}{w:dX}{mg:Str->Option aH}{base:iK}{x qual:Str}{st:jG}{f:bB}{fd:eU}{N ps:List Str}{k nl np:Nat}{g:Sd}(F:Fun K x qual st f fd)(S:FnScope N ps (aq st))(h1:N.length=nl)(h2:ps.length=np)
  (body:∀(cdv:aH) (A:dG) (outer:List Env) (s:aN) (H:Hp) (E:XK),Room k (A.deeper (nU qual (aq st) s.heap.objs.size f cdv))->XSs K (cxOf CX0 P w K mg base N qual (aq st) f cdv A outer s H E).nox (jm st) g) :
  FnOk P w K mg base (CX1 P w) (k+1) f fd ps (spX K np (fnD nl np g)):=by
 subst h1 h2;obtain⟨oc,od,kV,doc,pm,an,cdv,ct,osl,rfl,lk,hcd⟩:=F.ex;refine a1x lk hcd S (λvs H Q E h=>h.1) λA outer s H vs Q E hr hsp=>?_
 obtain⟨hn,F0,as,y,ps',G,em,q⟩:=hsp;have hl:as.length=(vs.map ZY).length:=G.len;have G1:=G.app (N.length-vs.length);have es:start N vs=vs.map ZY++aK (N.length-vs.length) ZX:=rfl;unfold fnD at em;rw[<-hn] at em;have fin:∀{ρ':Ro} {σ':L2.St} {F' H':Hp},Good K (tgOf (vs.map ZY)) F' H' ρ' σ'->Fin K F' H' (vs.map ZY) (ρ'.take vs.length) (Own ρ' σ'):=λ{ρ' σ' F' H'} G'=>⟨λi l e=>by
  have hi:=(aJ.mp e).1;rw[eQ] at hi;rw[jY (by omega)] at e
  obtain⟨o,ho,a,ws,rfl,hf,hh,hl,ht⟩:=G'.at e;rw[ht i rfl];exact⟨⟨i,⟨_,_,e⟩,ho⟩,hf,ws,hh,hl⟩⟩
 refine⟨λ_ σ0 H0=>σ0=start N vs/\H0=H,λzv s1 σ0 H0 D I hs=>?_,rfl,rfl⟩
 obtain⟨hs1,hs2⟩:=hs;subst hs2;rw[hs1,es] at I;split at em
 ·cases em
 ·cases em
 ·rename_i y' ρ' e;cases em;have run:=(body cdv A outer s H0 E hr).go rfl rfl zv s1 _ H0 (tgOf (vs.map ZY)) F0 _ y ρ' (I.wish _) G1 (uo.mpr e);refine aZ run (λ_ _ z=>z.elim) λer s' z9=>?_
  obtain⟨σ',H',F',J,G',x',a,C,dx,ch,e1,hc,hf,fl,hch⟩:=z9;subst e1;rw[vp hl] at x';show bD _ _ (leaving _ (.ref a)) _ _ s';refine a6d J.ok.frames J.stack rfl fl λh' ch' hc' kb fl'=>?_
  have J2:=Inv.records J kb hch;have hsz:s.heap.objs.size<=s'.heap.objs.size:=J.sz;refine⟨H',a,C,dx,ch',rfl,J.os,J.bare,J2.base,J2.hok,fl',λb hb=>?_,q C dx H' F' (Own ρ' σ') G'.sub x' (fin G') hc hf⟩
  rcases hc' b hb with z |z
  ·obtain⟨f1,_,_,f3,_⟩:=hch b z;rcases f3 with f3 |f3
   ·exact absurd (show b∈([]:List bB) from f3) (by simp)
   ·exact⟨f3,f1⟩
  ·exact⟨Heap.get?_none_of_le (bV hsz z),J.hok.fresh z⟩
 ·cases em
theorem ak9(x:yg P w H h a o):∃ob,h.get? a=ZY ob:=by
 cases o with
 |lst xs=>obtain⟨_,_,_,_,e⟩:=x;exact⟨_,e⟩
 |tup xs=>obtain⟨_,_,_,ob,e,_⟩:=x;exact⟨_,e⟩
 |dK kvs=>obtain⟨_,_,_,_,o,_,_,e,_⟩:=x;exact⟨_,e⟩
 |dT kvs=>obtain⟨_,_,_,_,o,_,_,e,_⟩:=x;exact⟨_,e⟩
 |set S n=>obtain⟨o,_,_,_,e,_⟩:=x;exact⟨_,e⟩
 |ins C dx fs=>obtain⟨_,_,_,e,_⟩:=x;exact⟨_,e⟩
 |own y=>exact x
 |xd fs=>obtain⟨_,⟨_,_,_,e,_⟩,_⟩:=x;exact⟨_,e⟩
 |rng lo hi=>obtain⟨_,_,_,e⟩:=x;exact⟨_,e⟩
 |frz ob u=>exact⟨_,x.1⟩
 |tbl ps=>obtain⟨_,e,_⟩:=x;exact⟨_,e⟩
 |met f y=>exact⟨_,x⟩
 |ext φ=>exact x.2.1
abbrev bmV:List aH:=[.type "ValueError", .type "Exception", .type "BaseException", .type "object"]
def a2a{K:Fg9}{h:iK}{C:bB}{bmB:List aH}{newId:String}(X:K.In h)(q:pF K C bmB newId=ZW) :
  ∃bm N nm qn bs hdct sn sub ab col dd k0 k1 k2 k3 k5 mN,h.get? C=ZY (excClassObj nm qn C N bs bm hdct sn sub ab col dd k0 k1 k2 k3 k5 newId)/\h.Ns N mN/\mN "__init__"=ZX/\OwnTail h bmB bm:=by
 unfold pF at q;split at q
 ·rename_i dd cd sl ho;split at q
  ·rename_i C' bm k0 k1 k2 k3 n k5 hm hs;simp only[bC,beq_iff_eq,yZ] at q;obtain⟨⟨⟨⟨⟨e1,e2⟩,e3⟩,e4⟩,e5⟩,e6⟩:=q;subst e1 e2;obtain⟨nm,bs,mro,ns,qn,hd,sn,sub,ab,col,del⟩:=cd;have hm:mro=_:=hm;have e3:del=ZV:=e3;subst hm e3;have z:sl = #[k0,k1,k2,k3,ZY (.builtin n),k5]:=zT.mp hs;subst z;exact⟨bm,ns,nm,qn,bs,hd,sn,sub,ab,col,dd,k0,k1,k2,k3,k5,h.nsMap ns,X _ _ ho,.of_isNs (rR X e5),PySem.W.nsMap_none_of_in X e5 e6,xO X e4⟩
  ·cases q
 ·cases q
def al3(x:Exn):Sd:=λρ=>ZY (.exc x,ρ)
section
variable{K:Fg9}{X:Cx}{c:Str}{C:bB}{np cpos pos:Pos}
def arc(hcalm:X.calm=ZW)(hg:Gl X c)(hm:X.mg c=ZY (.ref C))(k:ClsOk X.K c C)(q:pF X.K C bmV "ValueError.__new__"=ZW)(hd:(c==("__debug__" : Str))=ZV:=by decide) :
  XS K X (.Raise (ZY (.Call (.Name c np) [] [] cpos)) ZX pos) (al3 ⟨c,[]⟩):=⟨λhk hn zv s σ H tg F ρ x ρ' I G em=>by
 have em:=uo.mp em;cases em;subst hk;obtain⟨tl,N,nm,qn,bs,hdct,sn,sub,ab,col,dd,k0,k1,k2,k3,k5,mN,hC,hN,hni,T⟩:=a2a I.kIn q;refine wpAny_Raise_call_subU (C:=C) (nm:=nm) (q:=qn) (N:=N) (bs:=bs) (bm:=tl) (hdct:=hdct) (sn:=sn) (sub:=sub) (ab:=ab) (col:=col) (dd:=dd) (k0:=k0) (k1:=k1) (k2:=k2) (k3:=k3) (k5:=k5)
  gR (by decide +kernel) gR (mN:=mN) (T.hasType gR.hasBase) (I.ok.hd hcalm) rfl hni ?_
 refine adp I hg hm ⟨rfl,?_⟩ hd;refine evalArgs_empty ⟨rfl,iB _,hC,hN,T,λh' e hme=>?_⟩
 obtain⟨t,he,_,_⟩:=hme.there;have J:Inv X zv σ H { s with heap:=h' }:=I.kept (t':=s.toks) hme.keeps
 have hnH:H e=ZX:=by
  cases z:H e with
  |none=>rfl
  |some o=>
   obtain⟨ob,h1⟩:=ak9 (I.hok e o z);have h2:s.heap.get? e=ZX:=hme.new;rw[h2] at h1;cases h1
 exact⟨σ,H,F,J,G,Ext.refl _ _ _,e,C,ZX,[e],rfl,k,.inl ⟨rfl,rfl⟩,⟨_,_,he,rfl,rfl,rfl,by simp,.inl ⟨rfl,rfl⟩⟩,λb hb=>by
  obtain rfl:=dW.mp hb;exact Inv.fpX I hme.new hnH⟩⟩
end
end Dn
namespace L2
section
variable{X:Cx}{zv:List (bB×Obj)}{σ:List (Option V)}{H:Hp}{s:aN}
def a65(I:Inv X zv σ H s)(hN:X.N.Nodup)(hi:X.N[i]? = ZY x)(hk:X.env.scope.names.lookup x=ZY .local)(hv:σ[i]? = ZY (ZY v))
  (h:∀s',Inv X zv (σ.set i ZX) H s'->Q () s'):bD M A (unbindName X.env x) Q E s:=by
 obtain⟨m,hn,hl⟩:=id I.loc;have hcls:(X.env.scope.kind==.class||(X.env.scope.kind==.module&&X.env.locals != X.env.globals))=ZV:=by rw[I.ok.kind];rfl
 have hiσ:i < σ.length:=(aJ.mp hv).1;obtain⟨u,_,lk⟩:=hl i x v hi hv (.inl hk);have hmx:∃u,m x=ZY u:=by
  rcases lk with⟨_,e⟩ |⟨k,_⟩
  ·exact⟨u,e⟩
  ·rcases k with k |k
   ·exact absurd (hk.symm.trans k) (by simp)
   ·exact absurd (hk.symm.trans k) (by simp)
 obtain⟨u0,hmx⟩:=hmx;refine wpAny_unbindName_local hk hn hmx hcls λh' u' hn' hs=>h _ ?_
 have ne0:∀b o,X.s₀.heap.get? b=ZY o->b≠X.env.locals:=λb o e=>bI (bN (aO e) I.ok.above)
 refine⟨I.ok,I.os,I.bare,⟨λb o e n hb hx=>(hs.2 b (ne0 b o e)).trans (I.base.keep b o e n hb hx),λb o e n hb hx=>?_,I.base.free,λb o e hx=>?_,I.base.tups,I.base.frzs,I.base.tbls⟩,⟨_,hn',λj y v' e1 e2 e3=>?_⟩,λy c e=>?_,I.free,I.freeC,λp hp=>?_,λb ob e=>?_,by simpa using I.len⟩
 ·obtain⟨sl,e1⟩:=I.base.slot b o e n hb hx;exact⟨sl,(hs.2 b (ne0 b o e)).trans e1⟩
 ·obtain⟨o',e1⟩:=I.base.there b o e hx;exact⟨o',(hs.2 b (ne0 b o e)).trans e1⟩
 ·by_cases hj:j=i
  ·subst hj;rw[mQ hiσ] at e2;cases e2
  ·rw[nG (gY hj)] at e2;obtain⟨u',r',q⟩:=hl j y v' e1 e2 e3;refine⟨u',r',?_⟩;rcases q with⟨k,e⟩ |⟨k,c,e,z⟩
   ·refine .inl ⟨k,?_⟩;have:y≠x:=λe=>hj (ajv hN e1 (e▸hi))
    simp[this,e]
   ·exact .inr ⟨k,c,e,z.sameBut hs (I.cne y c e)⟩
 ·obtain⟨w',z⟩:=I.cell y c e;exact⟨w',z.sameBut hs (I.cne y c e)⟩
 ·obtain⟨e,n,ne,nf,d⟩:=I.pin p hp;exact⟨(hs.2 p.1 ne).trans e,n,ne,nf,d⟩
 ·have nL:∀c z,H c=ZY z->c≠X.env.locals:=λc z q w=>by
   have:=I.free;rw[<-w,q] at this;cases this
  refine(I.hok b ob e).stay (λc w' hc q=>(hs.2 c ?_).trans q) (λ_ q=>q) λ_ _ q=>q
  rcases hc with z |z
  ·rw[z];exact nL b ob e
  ·exact nL c _ z
end
section
variable{M:Model}{A:dG}{E:aH->aN->Prop}{s:aN}
def azr(x:FlyAt s.heap a C dx ch L)(hT:ch≠[a])
  (h:∀h',KeptBut fs ch s.heap h'->(∀L',FlyAt h' a C dx ch L')->h'.get? a=s.heap.get? a->Q () { s with heap:=h' }):bD M A (setFlight (.ref a) ZX) Q E s:=by
 obtain⟨oe,vs,he,hc,hdx,hd,hsz,⟨_,e⟩ |⟨T,oT,ts,fl,rfl,h1,hTa,hT,hdT,h3,hfl⟩⟩:=x.obj
 ·exact absurd e hT
 ·unfold setFlight;refine aA (dN he hd h1 ?_);rw[if_pos (show(cY T != cQ)=ZW from by simp)]
  have hsz3:3<ts.size:=(dY.mp h3).1;refine fM hT hdT hsz3 (h _ (KeptBut.upd.sub (by simp)) (λL'=>⟨oe,vs,(bM _ _ hTa).trans he,hc,hdx,hd,hsz,.inr ⟨T,_,_,.none,rfl,h1,hTa,cC _ hT (fD (bW hdT _)),bW hdT _,by simp[hsz3],.inl rfl⟩⟩) (bM _ _ hTa))
def as5 
  (hfr:A.frames=ZY (env::outer)) (hl:s.heap.FunFrames base (env::outer)) (hf:env.frame=ZY L) (x:FlyAt s.heap a C dx ch L)
  (h:∀h' ch',ch'≠[a]->(∀b∈ch',b∈ch∨s.heap.objs.size<=b)->KeptBut (frs (env::outer)) ch s.heap h'->(∀L',FlyAt h' a C dx ch' L')->Q () { s with heap:=h' }) :
  bD M A (noteFrame (.ref a) env) (λ_ s'=>bD M A (setFlight (.ref a) ZX) Q E s') E s:=by
 refine a1b hfr hl hf x λh' T oT ts oe vs hT k e1 e2 e3 e4 e5 e6 e7 e8 e9 e10=>?_
 unfold setFlight;refine aA (dN e1 e4 e6 ?_);rw[if_pos (show(cY T != cQ)=ZW from by simp)]
 have hsz3:3<ts.size:=(dY.mp e10).1;refine fM e8 e9 hsz3 (h _ [a,T] (by simp) (λb hb=>?_) ?_ λL'=>⟨oe,vs,(bM _ _ e7).trans e1,e2,e3,e4,e5,.inr ⟨T,_,_,.none,rfl,e6,e7,cC _ e8 (fD (bW e9 _)),bW e9 _,by simp[hsz3],.inl rfl⟩⟩)
 ·have:b=a∨b=T:=by simpa using hb
  rcases this with rfl |rfl
  ·exact .inl x.fresh
  ·exact hT
 ·rcases hT with hT |hT
  ·exact k.trans (KeptBut.upd.sub (by simp[hT]))
  ·refine⟨λb o n1 n2 e=>?_,λb o n e=>?_⟩
   ·rw[bM _ _ λz=>absurd (aO e) (by rw[<-z];exact mC.mpr hT)]
    exact k.keep b o n1 n2 e
   ·obtain⟨sl,q⟩:=k.slot b o n e;exact⟨sl,by rw[bM _ _ λz=>absurd (aO e) (by rw[<-z];exact mC.mpr hT)];exact q⟩
structure CatK (K:Fg9) (B:bB):Prop where
 cls:(mJ K B).isSome=ZW
 ty:rG K (.ref B)=ZY (.type "type")
 base:iY K (.ref B) (.type "BaseException")=ZY ZW
theorem axb{K:Fg9}{a C B:bB}{oe:Obj}{b:Bool}{Q:Bool->aN->Prop}(X:K.In s.heap)(k:CatK K B)(he:s.heap.get? a=ZY oe)(hc:oe.cls=.ref C)(hs:iY K (.ref C) (.ref B)=ZY b)(h:Q b s):bD M A (excMatches (.ref a) (.ref B)) Q E s:=by
 obtain⟨hp,g,d,tk,os⟩:=s;have L0:lK M hp (isInstance (.ref B) (.type "tuple")) ZV:=(PySem.W.looks_typeIn X k.ty).andThen (wD (by rw[isSubtype_type];kernel_rfl))
 have L1:lK M hp (isType (.ref B)) ZW:=by
  have z:=k.cls;unfold mJ at z;split at z
  ·rename_i c' d' cd' sl' ho;intro A' Q' E' s' kk q;unfold isType loadHead;exact aA (wpAny_loadPart (kk _ _ (X _ _ ho)) (aF q))
  ·cases z
 have L2:=wW (M:=M) X k.base;have L3:=wW (M:=M) X hs;have L4:lK M hp (isExcClass (.ref B)) ZW:=L1.andThen (by rw[if_pos rfl];exact L2)
 have L5:lK M hp (typeOf (.ref a)) (.ref C):=(PySem.W.Looks.ld he).andThen (wD (by rw[hc]))
 unfold excMatches;refine aA (L0.at ?_);simp only[iR,if_false];refine aA (aF ?_);simp only[qJ,rH];refine aA (aA (aA (L4.at ?_)));rw[if_neg (by simp)]
 refine aF (aF (aA (L5.at (aA (aA (aA (L3.at ?_)))))));cases b with
 |true=>
  rw[if_pos rfl];exact aF (aF (aF h))
 |false=>
  rw[if_neg cM];exact aF (aF (aF h))
end
end L2
namespace Dn
open L2 Mn
noncomputable def aj1(c0 c:Str):Bool:=c0==c||c == "ArrowError" || c == "ValueError"
noncomputable def clsAt(K:Fg9)(c:Str):Option bB:=match nsIn K aW c with
 |some (ZY (.ref C))=>ZY C
 |_=>ZX
def ai9(K:Fg9)(ns:List Str):Bool:=ns.all λc0=>match clsAt K c0 with
 |some C0=>(ns.all λc=>match clsAt K c with
  |some C=>jA K (.ref C0) (.ref C)==ZY (aj1 c0 c)
  |none=>ZV)&&jA K (.ref C0) (.type "ValueError")==ZY ZW
 |none=>ZV
def aez{K:Fg9}{c:Str}{C:bB}(h:nsIn K aW c=ZY (ZY (.ref C))):clsAt K c=ZY C:=by
 unfold clsAt;rw[h]
def aoc{K:Fg9}{ns:List Str}{c0 c:Str}{C0 C:bB}(h:ai9 K ns=ZW)(h0:ns.contains c0=ZW)(h1:ns.contains c=ZW)(e0:nsIn K aW c0=ZY (ZY (.ref C0)))(e1:nsIn K aW c=ZY (ZY (.ref C))) :
  jA K (.ref C0) (.ref C)=ZY (aj1 c0 c):=by
 have z:=cL.mp h c0 (fJ.mp h0);rw[aez e0] at z;have z1:=cL.mp (wQ.mp z).1 c (fJ.mp h1);rw[aez e1] at z1;exact beq_iff_eq.mp z1
def az1{K:Fg9}{ns:List Str}{c0:Str}{C0:bB}(h:ai9 K ns=ZW)(h0:ns.contains c0=ZW)(e0:nsIn K aW c0=ZY (ZY (.ref C0))):jA K (.ref C0) (.type "ValueError")=ZY ZW:=by
 have z:=cL.mp h c0 (fJ.mp h0);rw[aez e0] at z;exact beq_iff_eq.mp (wQ.mp z).2
def gIsC(ns:List Str)(c:Str):D->Option D
 |.exn c0 _=>if ns.contains c0 then ZY (.bl (aj1 c0 c)) else ZX
 |_=>ZX
def mIsC(ns:List Str)(c:Str)(m:M D):M D:=m.bind λd=>lift (gIsC ns c d)
section
variable{K:Fg9}{X:Cx}{e:fP}{pos p:Pos}
theorem al7(rc:∀u,RelV cV u->u=cv):abx X (.builtin "isinstance") (λxs H Q=>∃F c0 fs x b,xs=[x,cV]/\Same F H/\Is X.K F (.exn c0 fs) x/\(∀C0,nsIn X.K aW c0=ZY (ZY (.ref C0))->jA X.K (.ref C0) cv=ZY b)/\Q (.bl b) H):=by
 intro zv s σ H xs us Q I r z9;obtain⟨F,c0,fs,x,b,e,g,h,hk1,q⟩:=z9;subst e;obtain⟨u,w',rfl,r1,r2⟩:=vals2 r;obtain rfl:=rc w' r2;have fin:∀tk,EP X zv σ Q (.bool b) { s with toks:=tk }:=λtk=>⟨.bl _,H,I.tok tk,rfl,q⟩
 cases h with
 | @exn a C c dx fs e hc hk hf=>
  cases(show u=cY a from r1)
  obtain⟨⟨oe,ws,h1,h2,h3,h4⟩,_⟩:=(show yg X.prog X.w H s.heap a (.ext (exO a C dx)) from I.hok a _ (g _ _ e))
  have hno:mY oe=ZW:=by unfold mY;rw[h4]
  have ia:∃ox od,jB s.heap a ox C od:=by
   rcases hf with⟨rfl,_⟩ |⟨d,rfl,hd⟩
   ·exact⟨oe,ZX,h1,h2,hno,by rw[h3];trivial⟩
   ·obtain⟨mA,⟨od,_,_,e1,_⟩,_⟩:=(show yg X.prog X.w H s.heap d (.xd _) from I.hok d _ (g _ _ hd))
    exact⟨oe,ZY od,h1,h2,hno,by rw[h3];exact e1⟩
  exact eH (aow hk) I.kIn ia (hk1 C hc) (λz=>nomatch z) fin
theorem ay3(b:Bor K F H d v)(e:gIsC ns c d=ZY r):∃c0 fs,d=.exn c0 fs/\Is K F (.exn c0 fs) v/\ns.contains c0=ZW/\r=.bl (aj1 c0 c):=by
 cases d with
 |exn c0 fs=>
  have e:(if ns.contains c0 then ZY (D.bl (aj1 c0 c)) else ZX)=ZY r:=e
  split at e
  ·rename_i hn;cases e;refine⟨c0,fs,rfl,?_,hn,rfl⟩;rcases b with b |⟨_,_,_,z,_⟩
   ·exact b
   ·cases z
  ·cases e
 |_=>cases e
def a2g(sub:ai9 K ns=ZW)(h1:ns.contains c=ZW)(hgC:Gl X c)(hmC:X.mg c=ZY (.ref C))(hnC:nsIn K aW c=ZY (ZY (.ref C)))
  (hg:Gl X x) (hm:X.mg x=ZX) (hv:bY x=ZY (.builtin "isinstance")) (h:EB K X e m) (hdC:(c==("__debug__" : Str))=ZV:=by decide) (hn:x ≠ "__name__" := by decide) (hdb:Zb x:=by decide)
  (h1':aQ [.Name c pc] X.env=(ZV,eval (.Name c pc) X.env)::aQ [] X.env:=by rfl) (he:aQ [e,.Name c pc] X.env=(ZV,eval e X.env)::aQ [.Name c pc] X.env:=by rfl) (hpl:(kI pos (aQ [.Name c pc] X.env)).any (·.1)=ZV:=by rfl) :
  EV K X (.Call (.Name x p) [e,.Name c pc] [] pos) (mIsC ns c m):=EV.mk λhk=>by
 refine PE.imp (acu (al7 (cv:=.ref C) (cV:=.ref C) λu r=>r) hg hm hv (uc (h hk) (uc (asr (v:=.ref C) hgC hmC rfl hdC) acf h1') he) hn hdb he hpl) λσ H Q z9=>?_
 obtain⟨tg,F,ρ,d,ρ',G,em,q⟩:=z9;obtain⟨d1,ρ1,e1,em⟩:=bj em;obtain⟨e2,rfl⟩:=jb em;subst hk;refine⟨tg,F,ρ,d1,_,G,e1,λv H' F' G' x bv=>?_⟩
 obtain⟨c0,fs,rfl,hi,h0,rfl⟩:=ay3 bv e2;exact⟨F',c0,fs,v,_,rfl,G'.sub,hi,λC0 e0=>aoc sub h0 h1 e0 hnC,q _ H' F' G' x (.bl _)⟩
def a2f{ns:List Str}{m:M D}{x:Str}{pc:Pos}(sub:ai9 K ns=ZW)(hgC:Gl X "ValueError")(hmC:X.mg "ValueError"=ZX)(hvC:bY "ValueError"=ZY (.type "ValueError"))
  (hg:Gl X x) (hm:X.mg x=ZX) (hv:bY x=ZY (.builtin "isinstance")) (h:EB K X e m) (hn:x ≠ "__name__" := by decide) (hdb:Zb x:=by decide)
  (h1':aQ [.Name "ValueError" pc] X.env=(ZV,eval (.Name "ValueError" pc) X.env)::aQ [] X.env:=by rfl) (he:aQ [e,.Name "ValueError" pc] X.env=(ZV,eval e X.env)::aQ [.Name "ValueError" pc] X.env:=by rfl) (hpl:(kI pos (aQ [.Name "ValueError" pc] X.env)).any (·.1)=ZV:=by rfl) :
  EV K X (.Call (.Name x p) [e,.Name "ValueError" pc] [] pos) (mIsC ns "ValueError" m):=EV.mk λhk=>by
 refine PE.imp (acu (al7 (cv:=.type "ValueError") (cV:=.ty "ValueError") λu r=>r) hg hm hv (uc (h hk) (uc (ap8 hgC hmC hvC) acf h1') he) hn hdb he hpl) λσ H Q z9=>?_
 obtain⟨tg,F,ρ,d,ρ',G,em,q⟩:=z9;obtain⟨d1,ρ1,e1,em⟩:=bj em;obtain⟨e2,rfl⟩:=jb em;subst hk;refine⟨tg,F,ρ,d1,_,G,e1,λv H' F' G' x bv=>?_⟩
 obtain⟨c0,fs,rfl,hi,h0,rfl⟩:=ay3 bv e2;refine⟨F',c0,fs,v,aj1 c0 "ValueError", rfl,G'.sub,hi,λC0 e0=>?_,q _ H' F' G' x (.bl _)⟩
 rw[az1 sub h0 e0];simp[aj1]
end
def akj:bY "ValueError"=ZY (.type "ValueError"):=by decide +kernel
@[simp] theorem a9o(ns:List Str)(c:Str)(m:M D)(ρ:Ro):mIsC ns c m ρ=(m.bind λd=>lift (gIsC ns c d)) ρ:=rfl
@[simp] theorem a8a(ns:List Str)(c c0:Str)(fs:List (Str×Int)):gIsC ns c (.exn c0 fs)=if ns.contains c0 then ZY (.bl (aj1 c0 c)) else ZX:=rfl
end Dn
namespace L2
structure RoomU (k:Nat) (A:dG):Prop where
 dp:A.depth+3*k+5<recursionLimit
 un:A.units+16*k+200<cLine
 gd:A.guards=ZY []
def RoomU.mono(r:RoomU k A)(h:j<=k):RoomU j A:=⟨by have:=r.dp;omega,by have:=r.un;omega,r.gd⟩
def RoomU.deeper(r:RoomU (k+1) A)(env:Env):RoomU k (A.deeper env) :=
 ⟨by have:=r.dp;show A.depth+1+3*k+5<_;omega,by have:=r.un;show A.units+3+16*k+200<_;omega,r.gd⟩
def RoomU.depth(r:RoomU k A):A.depth<recursionLimit:=by have:=r.dp;omega
def RoomU.units(r:RoomU k A):A.units+64<cLine:=by have:=r.un;omega
def Room.mark(r:Room k A)(e:aH):RoomU k (A.mark (ZY e)):=⟨r.dp,r.un,r.gd⟩
def cxU(P:cF)(w:dX)(K:Fg9)(mg:Str->Option aH)(base:iK)(N:List Str)(qual:Str)(scope:nO)(f:bB)(cd:aH)(A:dG)(outer:List Env)(s:aN)(H:Hp):Cx :=
 { (cxOf CX0 P w K mg base N qual scope f cd A outer s H E0).nox with calm:=ZV }
structure FnOkU (P:cF) (w:dX) (K:Fg9) (mg:Str->Option aH) (base:iK) (k:Nat) (f:bB) (fd:eU) (ps:List Str) (sp:Sp):Prop where
 len:∀vs H Q E,sp vs H Q E->vs.length=ps.length
 run:∀(A:dG) (outer:List Env) (s:aN) (H:Hp) (args:Args) (us:List aH) (vs:List V) (Q:VK),RoomU k A->Env0 P w K mg base A outer s H->pP s fd args (ps.zip us)->Vals vs us->sp vs H Q E0 ->
  mZ (bT P w) A (.call (.ref f) args) (CR CX0 outer P w H s Q E0) s
theorem Fun.okU{P:cF}{w:dX}{K:Fg9}{mg:Str->Option aH}{base:iK}{x qual:Str}{st:jG}{f:bB}{fd:eU}{N ps:List Str}{k:Nat}{sp:Sp}(F:Fun K x qual st f fd)(S:FnScope N ps (aq st))(len:∀vs H Q E,sp vs H Q E->vs.length=ps.length)
  (hbody:∀(cdv:aH) (A:dG) (outer:List Env) (s:aN) (H:Hp) (vs:List V) (Q:VK),RoomU k (A.deeper (nU qual (aq st) s.heap.objs.size f cdv))->sp vs H Q E0 ->
   ∃t,PSs (cxU P w K mg base N qual (aq st) f cdv A outer s H) (jm st) t/\t { nx:=λ_ H'=>Q .non H',rt:=Q } (start N vs) H):FnOkU P w K mg base (k+1) f fd ps sp:=by
 obtain⟨oc,od,kV,doc,pm,an,cdv,ct,osl,rfl,lk,hcd⟩:=F.ex;refine⟨len,λA outer s H args us vs Q hr e0 hb r hsp=>?_⟩
 have hl:=len _ _ _ _ hsp;have KX:K.In s.heap:=e0.mod.kin.keeps λb o e=>(e0.bs b o e).1
 have lim:s.heap.NoLimit:=e0.mod.nolimit.keeps λb o e=>(e0.bs b o e).1
 have hkind:∀y∈ps.zip us,(aq st).names.lookup y.1=ZY .local∨((aq st).names.lookup y.1=ZY .cell/\((cellsFrom (s.heap.objs.size+1) (aq st).names []).lookup y.1).isSome=ZW):=λy hy=>by
  rcases S.par y.1 (qH hy).1 with q |q
  ·exact .inl q
  ·exact .inr ⟨q,pW _ _ _ (.inl q)⟩
 refine codeAny_call_function hr.depth (KX _ _ lk) rfl S.co S.gen rfl (xQ KX hcd) (hb _ _ _ _ ?_);refine wpAny_newFunctionEnv_cells S.kind hkind λenv he s1 x=>?_
 subst he;refine⟨lim.keeps x.toInCall.keep,codeAny_func ?_⟩;obtain⟨t,ht,hq⟩:=hbody cdv A outer s H vs Q (hr.deeper _) hsp;have e1:Env0 P w K mg base { A with handled:=ZX } outer s H:=⟨e0.frames,e0.mod,e0.bs,e0.bsz,e0.funs,e0.frf,e0.hok,e0.bare,e0.tb⟩
 have J:Inv (cxOf CX0 P w K mg base N qual (aq st) f cdv { A with handled:=ZX } outer s H E0) [] (start N vs) H s1:=alk S rfl e1 hl r x
 have I:Inv (cxU P w K mg base N qual (aq st) f cdv A outer s H) [] (start N vs) H s1 :=
  ⟨⟨J.ok.mod,J.ok.kind,J.ok.glob,J.ok.blt,J.ok.above,J.ok.inj,J.ok.has,J.ok.cab,(λz=>absurd z cM),rD e0.frames,J.ok.stk,J.ok.exf,J.ok.bs,J.ok.bsz,J.ok.noex,J.ok.exfs,J.ok.funs,J.ok.frf,J.ok.tb⟩,J.os,J.bare,J.base,J.loc,J.cell,J.free,J.freeC,J.pin,J.hok,J.len⟩
 refine aZ (ht [] s1 (start N vs) H _ I hq) (λfl s' hs=>?_) λe s' hs=>fW hs
 have fin:∀{σ':St} {H':Hp} {v:V} {u:aH},Inv (cxU P w K mg base N qual (aq st) f cdv A outer s H) [] σ' H' s'->RelV v u->Q v H'->CE outer P w H s Q u s' :=
  λ{σ' H' v u} J rv q=>⟨v,H',J.os,J.bare,J.base,J.hok,rv,q⟩
 cases fl with
 |ret u=>
  obtain⟨v,σ',H',J,rv,q⟩:=hs;exact fin J rv q
 |next=>
  obtain⟨σ',H',J,q⟩:=hs;exact fin (v:=V.non) (u:=cQ) J rfl q
 |brk=>
  obtain⟨_,_,_,q⟩:=hs;exact fW q
 |cont=>
  obtain⟨_,_,_,q⟩:=hs;exact fW q
def DfnU(P:cF)(w:dX)(K:Fg9)(mg:Str->Option aH)(base:iK)(x:Str)(ps:List Str)(k:Nat)(sp:Sp):Prop :=
 ∃(f:bB) (fd:eU),FnOkU P w K mg base k f fd ps sp/\mg x=ZY (.ref f)/\oH K (.ref f)=ZW/\Binds K fd ps []
theorem a5c(F:DfnU X.prog X.w X.K X.mg X.base x ps k sp)(hr:RoomU k X.A)(hg:Gl X x)(ha:PA X (e::es) t)(hdb:Zb x:=by decide)
  (he:Zc X e es:=by rfl) (hpl:(kI pos (aQ es X.env)).any (·.1)=ZV:=by rfl):PE X (.Call (.Name x p) (e::es) [] pos) (azz sp [] E0 t):=by
 obtain⟨f,fd,F,hm,hk,hb⟩:=F;intro zv s σ H Q I h;refine wpAny_Call_Name_kw (adp I hg hm ?_ hdb);refine oM (h₀:=X.base) I.ok.mod.kin hk (thn (ha pos zv s σ H _ I h) λus s1 ⟨vs,H1,I1,r,q⟩=>⟨I1.kIn,?_⟩) he hpl
 have q:sp (vs++[]) H1 Q E0:=q;rw[iJ] at q;have hl:(us++[]).length=ps.length:=by rw[iJ,<-r.length];exact F.len _ _ _ _ q
 have hbn:=hb s1 us I1.kIn hl;rw[iJ] at hbn;refine lZ (lE (F.run X.A X.stack s1 H1 ⟨[]++us,[]⟩ us vs Q hr I1.env0 hbn r q) λr s' hq=>?_)
 cases r with
 |error e=>exact fW hq
 |ok fl=>
  cases fl with
  |ret u=>exact I1.after hq
  |next=>exact fW hq
  |brk=>exact fW hq
  |cont=>exact fW hq
end L2
namespace Dn
open L2 Mn
def aun{K:Fg9}{X:Cx}{e:fP}{es:List fP}{pos p:Pos}{f:Fd}{n k:Nat}{x:Str}{pn:List Str}{js:List 'G'}{ms:M (List (Option D))}(F:DfnU X.prog X.w X.K X.mg X.base x pn k (spOf K n f))(hr:RoomU k X.A)(hg:Gl X x)(ha:EG K X (e::es) js ms)(hn:js.length=n:=by rfl)(hdb:Zb x:=by decide)
  (he:Zc X e es:=by rfl) (hpl:(kI pos (aQ es X.env)).any (·.1)=ZV:=by rfl):ER K X (.Call (.Name x p) (e::es) [] pos) (mFn f js ms):=ER.mk λhk=>PE.imp (a5c F hr hg (ha hk) hdb he hpl) λσ H Q z9=>by
 obtain⟨tg,F,ρ,r,ρ',G,em,q⟩:=z9;obtain⟨ds,ρ1,ps,e1,hj,e2,rfl⟩:=ayu em;refine⟨tg,F,ρ,ds,ρ1,G,e1,λvs H1 F1 G1 x1 ar=>?_⟩
 have L:=ar.lent;show spOf K n f (vs++[]) H1 Q E0;rw[iJ];refine⟨by rw[ar.length];exact hn,F1,_,r,ps,ach G1 hj L,e2,λv H' F' O' s' x' fin rr=>?_⟩
 exact q v H' F' (ae2 G1 L x' s' fin) (x1.trans (ags G1 L x')) (qt x1 (apk G1 L fin rr))
def aui{K:Fg9}{P:cF}{w:dX}{mg:Str->Option aH}{base:iK}{x qual:Str}{st:jG}{f:bB}{fd:eU}{N ps:List Str}{k nl np:Nat}{g:Sd}(F:Fun K x qual st f fd)(S:FnScope N ps (aq st))(h1:N.length=nl)(h2:ps.length=np)
  (body:∀(cdv:aH) (A:dG) (outer:List Env) (s:aN) (H:Hp),RoomU k (A.deeper (nU qual (aq st) s.heap.objs.size f cdv))->SVs K (cxU P w K mg base N qual (aq st) f cdv A outer s H) (jm st) g) :
  FnOkU P w K mg base (k+1) f fd ps (spOf K np (fnD nl np g)):=by
 subst h1 h2;refine F.okU S (λvs H Q E h=>h.1) λcdv A outer s H vs Q hr h=>⟨_,body cdv A outer s H hr rfl,?_⟩
 obtain⟨hn,F,as,r,ps',G,em,q⟩:=h;have hl:as.length=(vs.map ZY).length:=G.len;have G1:=G.app (N.length-vs.length);have es:start N vs=vs.map ZY++aK (N.length-vs.length) ZX:=rfl;rw[es];unfold fnD at em;rw[<-hn] at em;have fin:∀{ρ':Ro} {σ':L2.St} {F' H':Hp},Good K (tgOf (vs.map ZY)) F' H' ρ' σ'->Fin K F' H' (vs.map ZY) (ρ'.take vs.length) (Own ρ' σ'):=λ{ρ' σ' F' H'} G'=>⟨λi l e=>by
  have hi:=(aJ.mp e).1;rw[eQ] at hi;rw[jY (by omega)] at e
  obtain⟨o,ho,a,ws,rfl,hf,hh,hl,ht⟩:=G'.at e;rw[ht i rfl];exact⟨⟨i,⟨_,_,e⟩,ho⟩,hf,ws,hh,hl⟩⟩
 split at em
 ·rename_i r' ρ' e;cases em;refine⟨_,F,_,.ret r,ρ',G1,e,λv σ' H' F' G' x' rr=>?_⟩
  rw[vp hl] at x' rr;exact q v H' F' (Own ρ' σ') G'.sub x' (fin G') rr
 ·rename_i ρ' e;cases em;refine⟨_,F,_,.nx,ρ',G1,e,λσ' H' F' G' x'=>?_⟩
  rw[vp hl] at x';exact q .non H' F' (Own ρ' σ') G'.sub x' (fin G') .non
 ·cases em
 ·cases em
def cxH(X:Cx)(ev:aH):Cx:={ X with A:=X.A.mark (ZY ev),calm:=ZV }
section
variable{K:Fg9}{X:Cx}{zv:List (bB×Obj)}{σ:L2.St}{H:Hp}{s:aN}{tg:Nat->bB}{F:Hp}{ρ:Ro}
def Inv.hnd(I:Inv X zv σ H s)(ev:aH):Inv (cxH X ev) zv σ H s :=
 ⟨⟨I.ok.mod,I.ok.kind,I.ok.glob,I.ok.blt,I.ok.above,I.ok.inj,I.ok.has,I.ok.cab,(λz=>absurd z cM),I.ok.frames,I.ok.stk,I.ok.exf,I.ok.bs,I.ok.bsz,I.ok.noex,I.ok.exfs,I.ok.funs,I.ok.frf,I.ok.tb⟩,I.os,I.bare,I.base,I.loc,I.cell,I.free,I.freeC,I.pin,I.hok,I.len⟩
def Inv.unhnd(hd:X.calm=ZW->X.A.handled=ZX)(I:Inv (cxH X ev) zv σ H s):Inv X zv σ H s :=
 ⟨⟨I.ok.mod,I.ok.kind,I.ok.glob,I.ok.blt,I.ok.above,I.ok.inj,I.ok.has,I.ok.cab,hd,I.ok.frames,I.ok.stk,I.ok.exf,I.ok.bs,I.ok.bsz,I.ok.noex,I.ok.exfs,I.ok.funs,I.ok.frf,I.ok.tb⟩,I.os,I.bare,I.base,I.loc,I.cell,I.free,I.freeC,I.pin,I.hok,I.len⟩
def Inv.track(I:Inv X zv σ H s)(f:FpX X zv H a)(new:yg X.prog X.w (upd H a o) s.heap a o):Inv X zv σ (upd H a o) s:=by
 have ne:∀b z,H b=ZY z->b≠a:=λb z q w=>by rw[w,f.1] at q;cases q
 refine⟨I.ok,I.os,I.bare,⟨I.base.keep,I.base.slot,λb o' e n hx=>?_,I.base.there,λb xs q=>?_,λb ob u q=>?_,λb ps q=>?_⟩,I.loc,I.cell,?_,λx c e=>?_,λp hp=>?_,λb u e=>?_,I.len⟩
 ·rw[cg (λw=>by
   rcases f.2.2.2.1 with z |z
   ·exact hx (w▸z)
   ·rw[w,z] at e;cases e)]
  exact I.base.free b o' e n hx
 ·have:=I.base.tups b xs q;rw[cg (ne _ _ this)];exact this
 ·have:=I.base.frzs b ob u q;rw[cg (ne _ _ this)];exact this
 ·obtain⟨more,h1⟩:=I.base.tbls b ps q;exact⟨more,by rw[cg (ne _ _ h1)];exact h1⟩
 ·rw[cg (gY f.2.1)];exact I.free
 ·rw[cg (f.2.2.2.2.1 x c e)];exact I.freeC x c e
 ·obtain⟨h1,h2,h3,h4,h5⟩:=I.pin p hp;exact⟨h1,by rw[cg (f.2.2.2.2.2 p hp)];exact h2,h3,h4,h5⟩
 ·by_cases hb:b=a
  ·subst hb;rw[gw] at e;cases e;exact new
  ·rw[cg hb] at e;refine(I.hok b u e).stay (λc v _ q=>q) (λc q=>?_) (λc xs q=>?_) λc o1 u1 q=>?_
   ·rw[cg (ne _ _ q)];exact q
   ·rw[cg (ne _ _ q)];exact q
   ·rw[cg (ne _ _ q)];exact q
def ap9(hs:∀j,j≠i->σ'[j]? = σ[j]?)(h:Own (cI ρ i .emp) σ' a):Own ρ σ a:=by
 obtain⟨j,⟨t,l,e⟩,q⟩:=h;rw[cB] at e
 by_cases hj:i=j
 ·subst hj;rw[if_pos rfl] at e;split at e <;> cases e
 ·rw[if_neg hj] at e;exact⟨j,⟨t,l,e⟩,by rw[<-hs j (gY hj)];exact q⟩
def Good.forget(G:Good K tg F H ρ σ)(i:Nat):Good K tg F H (cI ρ i .emp) (cI σ i ZX) where
 sub:=G.sub
 len:=by rw[fH,fH];exact G.len
 sl:=λj s o e q=>by
  rw[cB] at e q
  by_cases hj:i=j
  ·subst hj;rw[if_pos rfl] at e;split at e
   ·cases e;trivial
   ·cases e
  ·rw[if_neg hj] at e q;exact G.sl j s o e q
 inj:=λj k a ⟨⟨t,l,e⟩,q⟩ ⟨⟨t',l',e'⟩,q'⟩=>by
  have f:∀{j t l},(cI ρ i Sl.emp)[j]? = ZY (Sl.own t l)->i≠j:=λ{j t l} e z=>by
   subst z;rw[cB,if_pos rfl] at e;split at e <;> cases e
  have n1:=f e;have n2:=f e';rw[cB,if_neg n1] at e q;rw[cB,if_neg n2] at e' q';exact G.inj j k a ⟨⟨t,l,e⟩,q⟩ ⟨⟨t',l',e'⟩,q'⟩
def Ext.less(x:Ext O O' F H F' H')(h:∀a,O2 a->O' a):Ext O O2 F H F' H':=⟨x.sub,x.new,x.keep,λa z=>x.own a (h a z),x.there⟩
theorem asd(x:relR K r v H O F' H' O')(h:∀a,O2 a->O' a):relR K r v H O F' H' O2:=by
 cases r with
 |v d=>exact x
 |fr l=>
  obtain⟨a,vs,e1,e2,e3,e4,e5,e6⟩:=x;exact⟨a,vs,e1,e2,e3,e4,e5,λz=>e6 (h a z)⟩
 |tf d l=>
  obtain⟨t,u,a,vs,e0,e1,e2,e3,e4,e5,e6,e7⟩:=x;exact⟨t,u,a,vs,e0,e1,e2,e3,e4,e5,e6,λz=>e7 (h a z)⟩
end
def dTry(ns:List Str)(gb:Sd)(i:Nat)(gh:Sd):Sd:=λρ=>match gb ρ with
 |some (.exc x,ρ1)=>if ns.contains x.cls then match gh (cI ρ1 i (.val (.exn x.cls x.fs))) with
   |some (.exc _,_)=>ZX
   |some (fl,ρ2)=>ZY (fl,cI ρ2 i .emp)
   |none=>ZX
  else ZX
 |r=>r
structure CatN (K:Fg9) (B:bB):Prop extends CatK K B where
 ns:nsIn K aW "ArrowError"=ZY (ZY (.ref B))
 self:iY K (.ref B) (.ref B)=ZY ZW
def apz{K:Fg9}{C B:bB}(k:CatN K B)(h:jA K (.ref C) (.ref B)=ZY ZW):iY K (.ref C) (.ref B)=ZY ZW:=by
 by_cases e:C=B
 ·rw[e];exact k.self
 ·have h1:(if (cY C==cY B)=ZW then ZY ZW else Ak K (.ref C) (.ref B))=ZY ZW:=h
  rw[if_neg (λz=>e (Ao (beq_iff_eq.mp z)))] at h1
  have h2:(if ((mJ K B).isSome&&rG K (.ref B)==ZY (.type "type"))=ZW then iY K (.ref C) (.ref B) else ZX)=ZY ZW:=h1
  split at h2
  ·exact h2
  ·cases h2
def bay(K:Fg9)(tg:Nat->bB)(ρ:Ro)(σ:L2.St)(F H:Hp)(ρ2:Ro)(fl:Fl):Ends where
 nx:=λσ6 H6=>fl=.nx/\∃F6,Good K tg F6 H6 ρ2 σ6/\Ext (Own ρ σ) (Own ρ2 σ6) F H F6 H6
 bk:=λσ6 H6=>fl=.brk/\∃F6,Good K tg F6 H6 ρ2 σ6/\Ext (Own ρ σ) (Own ρ2 σ6) F H F6 H6
 ct:=λσ6 H6=>fl=.cont/\∃F6,Good K tg F6 H6 ρ2 σ6/\Ext (Own ρ σ) (Own ρ2 σ6) F H F6 H6
 rt:=λv H6=>∃r σ6 F6,fl=.ret r/\Good K tg F6 H6 ρ2 σ6/\Ext (Own ρ σ) (Own ρ2 σ6) F H F6 H6/\relR K r v H (Own ρ σ) F6 H6 (Own ρ2 σ6)
section
variable{K:Fg9}{X:Cx}{pos hpos bp:Pos}{n:Str}{B:bB}{i:Nat}{b₀:jG}{body suite:List jG}{ns:List Str}{gb gh:Sd}
def a3t(hcalm:X.calm=ZW)(hno:X.xe=λ_ _=>False)(hfr:X.env.frame=ZY X.env.locals)(hst:X.stack=X.env::X.outer)(hN:X.N.Nodup)(hi:X.N[i]? = ZY n)(hk0:X.env.scope.names.lookup n=ZY .local)
  (hgB:Gl X "ArrowError") (hmB:X.mg "ArrowError"=ZY (.ref B)) (cat:CatN K B) (sub:ai9 K ns=ZW) (hB:ns.contains "ArrowError"=ZW) (hb:SVs K X body gb) (hx:XSs K X body gb) (hh:∀ev,SVs K (cxH X ev) (b₀::suite) gh) :
  SV K X (.Try body [.ExceptHandler (ZY (.Name "ArrowError" bp)) (ZY n) (b₀::suite) hpos] [] [] pos) (dTry ns gb i gh):=SV.mk λhk zv s σ H E I z9=>by
 obtain⟨tg,F,ρ,fl,ρ',G,em,q⟩:=z9;refine wpAny_Try_except ?_;unfold dTry at em;split at em
 ·rename_i x ρ1 e1;split at em
  ·rename_i hc0;split at em
   ·cases em
   ·rename_i fl' ρ2 hne e2;cases em;refine aZ (hx.go hk hno zv s σ H tg F ρ x ρ1 I G (uo.mpr e1)) (λ_ _ z=>z.elim) λer s1 z9=>?_
    obtain⟨σ1,H1,F1,I1,G1,x1,a,C,dx,ch,ea,hc,hf,fly,hch⟩:=z9;subst ea;have hl1:=I1.stack;rw[hst] at hl1;refine as5 (by rw[<-hst];exact I1.ok.frames) hl1 hfr fly λh2 ch2 hne2 hch2 kb2 fly2=>?_
    rw[<-hst] at kb2;have I2:=Inv.records I1 kb2 hch;have fp2:∀b∈ch2,FpX X zv H1 b:=λb hb=>by
     rcases hch2 b hb with z |z
     ·exact hch b z
     ·exact Inv.fpX I1 (jU z) (I1.hok.fresh z)
    obtain⟨oe,vs,he,hcl,_⟩:=(fly2 X.env.locals).obj;have hsub:=apz cat (by have z:=aoc sub hc0 hB hc.ns cat.ns;rw[z];simp[aj1])
    refine wpAny_handleBy_cons (codeAny_handlers_test (adp (X:=cxH X (.ref a)) (Inv.hnd I2 _) hgB hmB ?_ (by decide))) (by intro z;cases z)
    refine axb (hk▸I2.kIn) cat.toCatK he hcl hsub ?_;refine codeAny_handlers_suite_as ?_;refine azr (fs:=frs X.stack) (fly2 X.env.locals) hne2 λh3 kb3 fly3 ha3=>?_
    have I3:=Inv.records I2 kb3 fp2;obtain⟨oe3,vs3,he3,hcl3,hdx3,hd3,_⟩:=(fly3 X.env.locals).obj;have fa:FpX X zv H1 a:=fp2 a (fly2 X.env.locals).fresh;have I4:=Inv.track (o:=.ext (exO a C dx)) I3 fa ⟨⟨oe3,vs3,he3,hcl3,hdx3,hd3⟩,⟨oe3,he3⟩,λg1 g2 ⟨o,vs',h1,h2,h3,h4⟩ kp=>⟨o,vs',kp o h1,h2,h3,h4⟩⟩
    have G4:=G1.new fa.1 (.ext (exO a C dx));have x4:=G1.newX fa.1 (.ext (exO a C dx));have isE:Is K (upd F1 a (.ext (exO a C dx))) (.exn x.cls x.fs) (.ref a):=.exn gw hc.ns hc.ok (hf.imp id λ⟨d,h1,h2⟩=>⟨d,h1,x4.sub _ _ h2⟩)
    obtain⟨G5,x5⟩:=G4.storeV i isE;refine age I4 hN hi (.inl hk0) (v:=.ref a) rfl (λs5 I5=>?_) (.inr hk0)
    have hx5:=(x1.trans x4).trans x5;have back:∀{f:Flow} {s6:aN} {σ6:L2.St} {H6:Hp},Inv (cxH X (.ref a)) zv σ6 H6 s6->(∀s7,Inv X zv (cI σ6 i ZX) H6 s7->SP X zv E f s7) ->
      bD 'D' X.A (do bindName X.env n .none;unbindBehindTheSuite X.env n hpos) (λ_ s7=>SP X zv E f s7) X.xe s6:=λ{f s6 σ6 H6} I6 fin=>by
     have I6:=Inv.unhnd I.ok.hd I6;refine aA (wpAny_bindName (age I6 hN hi (.inl hk0) (v:=.non) rfl (λs7 I7=>?_) (.inr hk0)))
     unfold unbindBehindTheSuite;refine wpAny_onRaise (a65 I7 hN hi hk0 (v:=.non) (mQ (by rw[I6.len];exact(aJ.mp hi).1)) λs8 I8=>fin s8 ?_)
     rw[List.set_set] at I8;exact I8
    refine aZ ((hh (.ref a)).go hk zv s5 _ _ (bay K tg ρ σ F H ρ2 fl) (Inv.hnd I5 (.ref a))
      ⟨tg,_,_,fl,ρ2,G5,e2,?_⟩) (λf s6 hs=>?_) λ_ _ z=>by
       have z:X.xe _ _:=z;rw[hno] at z;exact z.elim
    ·cases fl with
     |nx=>exact λσ6 H6 F6 G6 x6=>⟨rfl,F6,G6,hx5.trans x6⟩
     |brk=>exact λσ6 H6 F6 G6 x6=>⟨rfl,F6,G6,hx5.trans x6⟩
     |cont=>exact λσ6 H6 F6 G6 x6=>⟨rfl,F6,G6,hx5.trans x6⟩
     |ret r=>exact λv σ6 H6 F6 G6 x6 rr=>⟨r,σ6,F6,rfl,G6,hx5.trans x6,qt hx5 rr⟩
     |exc y=>exact(hne y rfl).elim
    ·have sub6:∀(σ6:L2.St) (a:bB),Own (cI ρ2 i .emp) (cI σ6 i ZX) a->Own ρ2 σ6 a:=λσ6 a z=>ap9 (λj hj=>nG (gY hj)) z
     cases f with
     |next=>
      obtain⟨σ6,H6,I6,rfl,F6,G6,x6⟩:=hs;exact back I6 λs7 I7=>⟨_,H6,I7,q _ H6 F6 (G6.forget i) (x6.less (sub6 σ6))⟩
     |brk=>
      obtain⟨σ6,H6,I6,rfl,F6,G6,x6⟩:=hs;exact back I6 λs7 I7=>⟨_,H6,I7,q _ H6 F6 (G6.forget i) (x6.less (sub6 σ6))⟩
     |cont=>
      obtain⟨σ6,H6,I6,rfl,F6,G6,x6⟩:=hs;exact back I6 λs7 I7=>⟨_,H6,I7,q _ H6 F6 (G6.forget i) (x6.less (sub6 σ6))⟩
     |ret u=>
      obtain⟨v,σ6,H6,I6,rv,r,σ6',F6,rfl,G6,x6,rr⟩:=hs;exact back I6 λs7 I7=>⟨v,_,H6,I7,rv,q v _ H6 F6 (G6.forget i) (x6.less (sub6 σ6')) (asd rr (sub6 σ6'))⟩
   ·cases em
  ·cases em
 ·rename_i hn;refine aZ (hb.go hk zv s σ H E I ⟨tg,F,ρ,fl,ρ',G,em,q⟩) (λf s1 z=>?_) λer s1 z=>by rw[hno] at z;exact z.elim
  cases f with
  |next=>exact wpAny_execs_nil z
  |ret v=>exact z
  |brk=>exact z
  |cont=>exact z
end
def okS{α:Type}(m:M α):M α:=λρ=>match m ρ with
 |some (.ok a,ρ1)=>ZY (.ok a,ρ1)
 |_=>ZX
noncomputable def dOk(g:Sd):Sd:=λρ=>match g ρ with
 |some (.exc _,_)=>ZX
 |r=>r
@[simp] theorem ba5(m:M α)(ρ:Ro):okS m ρ=match m ρ with
 |some (.ok a,ρ1)=>ZY (.ok a,ρ1)
 |_=>ZX:=rfl
@[simp] theorem bbo(g:Sd)(ρ:Ro):dOk g ρ=match g ρ with
 |some (.exc _,_)=>ZX
 |r=>r:=rfl
def aiq(h:okS m ρ=ZY (o,ρ')):m ρ=ZY (o,ρ')/\∃a,o=.ok a:=by
 unfold okS at h;split at h
 ·rename_i a ρ1 e;cases h;exact⟨e,a,rfl⟩
 ·cases h
def azc(h:dOk g ρ=ZY (fl,ρ')):g ρ=ZY (fl,ρ')/\∀x,fl≠.exc x:=by
 unfold dOk at h;split at h
 ·cases h
 ·rename_i hn;exact⟨h,λx e=>hn x ρ' (by rw[h,e])⟩
def jh:NoX (okS m):=λρ x ρ' h=>by
 obtain⟨_,a,e⟩:=aiq h;cases e
def a1c:NoS (dOk g):=λρ x ρ' h=>(azc h).2 x rfl
section
variable{K:Fg9}{X:Cx}{e a b c:fP}{es:List fP}{pos p:Pos}{st:jG}{ss:List jG}
def SV.s(h:SV K X st g):SV K X st (dOk g):=SV.mk λhk=>PS.imp (h.go hk) λE σ H ⟨tg,F,ρ,fl,ρ',G,em,q⟩=>⟨tg,F,ρ,fl,ρ',G,(azc em).1,q⟩
def EV.s(h:EV K X e m):EV K X e (okS m):=EV.mk λhk=>PE.imp (h.go hk) λσ H Q ⟨tg,F,ρ,d,ρ',G,em,q⟩=>⟨tg,F,ρ,d,ρ',G,(aiq em).1,q⟩
def ER.s(h:ER K X e m):ER K X e (okS m):=ER.mk λhk=>PE.imp (h.go hk) λσ H Q ⟨tg,F,ρ,d,ρ',G,em,q⟩=>⟨tg,F,ρ,d,ρ',G,(aiq em).1,q⟩
def ET.s(h:ET K X e m):ET K X e (okS m):=ET.mk λhk=>λzv s σ H Q I ⟨tg,F,ρ,d,ρ',G,em,q⟩=>h.go hk zv s σ H Q I ⟨tg,F,ρ,d,ρ',G,(aiq em).1,q⟩
def EG.s(h:EG K X es js m):EG K X es js (okS m):=EG.mk λhk=>PA.imp (h.go hk) λσ H Q ⟨tg,F,ρ,d,ρ',G,em,q⟩=>⟨tg,F,ρ,d,ρ',G,(aiq em).1,q⟩
def ai8:SV K X st (al3 x):=SV.mk λ_=>PS.imp aoh λE σ H z9=>by
 obtain⟨tg,F,ρ,fl,ρ',G,em,q⟩:=z9;cases em;exact(show False from q).elim
def aby:XS K X st (dOk g):=XS.no a1c
def XE.d(h:XE K X e m):XE K X e m.d:=⟨λhk hn zv s σ H tg F ρ x ρ' I G em=>by
 rcases aaq (qy.mp em) with em |⟨_,_,_,em⟩
 ·exact h.go hk hn zv s σ H tg F ρ x ρ' I G (qy.mpr em)
 ·cases em⟩
def XE.v(h:XE K X e m):XE K X e m.v:=⟨λhk hn zv s σ H tg F ρ x ρ' I G em=>by
 rcases aaq (qy.mp em) with em |⟨_,_,_,em⟩
 ·exact h.go hk hn zv s σ H tg F ρ x ρ' I G (qy.mpr em)
 ·cases em⟩
def zc:XA K X [] (ret l):=XA.no λρ x ρ' h=>by cases h
def xa_v(h:EV K X e m)(hx:XE K X e m)(t:XA K X es ms)(hs:Zc X e es:=by rfl):XA K X (e::es) (bc m ms):=⟨λpos hk hn zv s σ H tg F ρ x ρ' I G em=>by
 rw[hs];refine sJ ?_;rcases aaq (qy.mp em) with em |⟨d,ρ1,e1,em⟩
 ·exact aZ (hx.go hk hn zv s σ H tg F ρ x ρ' I G (qy.mpr em)) (λ_ _ z=>z.elim) λ_ _ z=>z
 ·rcases aaq em with em |⟨_,_,_,em⟩
  ·refine aZ (h.go hk zv s σ H (λ_ H1=>∃F1,Good K tg F1 H1 ρ1 σ/\Ext (Own ρ σ) (Own ρ1 σ) F H F1 H1) I ⟨tg,F,ρ,d,ρ1,G,e1,λv H1 F1 G1 x1 _=>⟨F1,G1,x1⟩⟩) (λu s1 ⟨v,H1,I1,_,F1,G1,x1⟩=>?_) λe s1 q=>by rw[hn] at q;exact q.elim
   exact aZ (t.go pos hk hn zv s1 σ H1 tg F1 ρ1 x ρ' I1 G1 (qy.mpr em)) (λ_ _ z=>z.elim) λ_ _ z=>z.back x1
  ·cases em⟩
def xa_n(h:PE X e (tVar j))(t:XA K X es ms)(hs:Zc X e es:=by rfl):XA K X (e::es) (fj j ms):=⟨λpos hk hn zv s σ H tg F ρ x ρ' I G em=>by
 rw[hs];refine sJ ?_;rcases aaq (qy.mp em) with em1 |⟨d,ρ1,e1,em2⟩
 ·exfalso;unfold dw at em1;split at em1 <;> cases em1
 ·obtain⟨hρ,v,hv,_⟩:=uv G e1;rw[hρ] at em2;rcases aaq em2 with em3 |⟨_,_,_,em3⟩
  ·refine aZ (h zv s σ H (λ_ H1=>H1=H) I ⟨v,hv,rfl⟩) (λu s1 ⟨_,H1,I1,_,e⟩=>?_) λe s1 q=>by rw[hn] at q;exact q.elim
   subst e;exact aZ (t.go pos hk hn zv s1 σ H1 tg F ρ x ρ' I1 G (qy.mpr em3)) (λ_ _ z=>z.elim) λ_ _ z=>z
  ·cases em3⟩
end
section
variable{K:Fg9}{X:Cx}{e:fP}{es:List fP}{pos p:Pos}
end
def ClsT(K:Fg9)(mg:Str->Option aH)(c:Str):Prop:=∃C,mg c=ZY (.ref C)/\ClsOk K c C
def RaiT(K:Fg9)(mg:Str->Option aH)(c:Str):Prop:=∃C,mg c=ZY (.ref C)/\ClsOk K c C/\pF K C bmV "ValueError.__new__"=ZW
def CatT(K:Fg9)(mg:Str->Option aH):Prop:=∃B,mg "ArrowError"=ZY (.ref B)/\CatN K B
section
variable{K:Fg9}{X:Cx}{e:fP}{pos p np cpos hpos bp:Pos}{c:Str}
def aq9(hk:X.K=K)(hcalm:X.calm=ZW)(hg:Gl X c)(h:RaiT K X.mg c)(hd:(c==("__debug__" : Str))=ZV:=by decide):XS K X (.Raise (ZY (.Call (.Name c np) [] [] cpos)) ZX pos) (al3 ⟨c,[]⟩):=by
 obtain⟨C,hm,k,q⟩:=h;subst hk;exact arc hcalm hg hm k q hd
def yo(sub:ai9 K ns=ZW)(h1:ns.contains c=ZW)(hgC:Gl X c)(hC:ClsT K X.mg c)(hg:Gl X x)(hm:X.mg x=ZX)(hv:bY x=ZY (.builtin "isinstance"))(h:EB K X e m)
  (hdC:(c==("__debug__" : Str))=ZV:=by decide) (hn:x ≠ "__name__" := by decide) (hdb:Zb x:=by decide)
  (h1':aQ [.Name c pc] X.env=(ZV,eval (.Name c pc) X.env)::aQ [] X.env:=by rfl) (he:aQ [e,.Name c pc] X.env=(ZV,eval e X.env)::aQ [.Name c pc] X.env:=by rfl) (hpl:(kI pos (aQ [.Name c pc] X.env)).any (·.1)=ZV:=by rfl) :
  EV K X (.Call (.Name x p) [e,.Name c pc] [] pos) (mIsC ns c m):=by
 obtain⟨C,hmC,k⟩:=hC;exact a2g sub h1 hgC hmC k.ns hg hm hv h hdC hn hdb h1' he hpl
def az0(hcalm:X.calm=ZW)(hno:X.xe=λ_ _=>False)(hfr:X.env.frame=ZY X.env.locals)(hst:X.stack=X.env::X.outer)(hN:X.N.Nodup)(hi:X.N[i]? = ZY n)(hk0:X.env.scope.names.lookup n=ZY .local)
  (hgB:Gl X "ArrowError") (hB:CatT K X.mg) (sub:ai9 K ns=ZW) (hB2:ns.contains "ArrowError"=ZW) (hb:SVs K X body gb) (hx:XSs K X body gb) (hh:∀ev,SVs K (cxH X ev) (b₀::suite) gh) :
  SV K X (.Try body [.ExceptHandler (ZY (.Name "ArrowError" bp)) (ZY n) (b₀::suite) hpos] [] [] pos) (dTry ns gb i gh):=by
 obtain⟨B,hm,cat⟩:=hB;exact a3t hcalm hno hfr hst hN hi hk0 hgB hm cat sub hB2 hb hx hh
end
@[simp] theorem a66(x:Exn)(ρ:Ro):al3 x ρ=ZY (.exc x,ρ):=rfl
def a2b(K:Fg9)(C:bB):Bool:=(mO K (.ref C) "__getattribute__" == ZY (ZY (.builtin "BaseException.__getattribute__")))&&(mO K (.ref C) "__getattr__" == ZY ZX)&&(mH K C (.type "BaseException")==ZY ZW)&&mX K C&&(mO K (.ref C) "__class__" == ZY (ZY (.builtin "object.__class__")))&&(mW K (.builtin "object.__class__") "__get__" == ZY (ZY (.builtin "getset_descriptor.__get__"))) &&
 (qF K (.builtin "object.__class__")==ZY ZW)&&(mH K C (.type "object")==ZY ZW)&&["int","bool","tuple","list","str","dict"].all λT=>iY K (.ref C) (.type T)==ZY ZV
def axy{K:Fg9}{C:bB}(h:a2b K C=ZW):ExcK K C:=by
 unfold a2b at h;simp only[bC,beq_iff_eq] at h;obtain⟨⟨⟨⟨⟨⟨⟨⟨h0,h1⟩,h8⟩,h2⟩,h3⟩,h4⟩,h5⟩,h6⟩,h7⟩:=h;exact⟨h0,h1,h8,h2,h3,h4,h5,h6,λT hT=>beq_iff_eq.mp (cL.mp h7 T hT)⟩
def aph(K:Fg9)(ns:List Str):Bool:=ns.all λc=>match clsAt K c with
 |some C=>a2b K C
 |none=>ZV
def aym(K:Fg9)(ns:List Str):Bool:=ns.all λc=>match clsAt K c with
 |some C=>pF K C bmV "ValueError.__new__"
 |none=>ZV
def catB(K:Fg9):Bool:=match clsAt K "ArrowError" with
 |some B=>mX K B&&(rG K (.ref B)==ZY (.type "type"))&&(iY K (.ref B) (.type "BaseException")==ZY ZW)&&(iY K (.ref B) (.ref B)==ZY ZW)
 |none=>ZV
def agr{K:Fg9}{c:Str}{C:bB}(h:clsAt K c=ZY C):nsIn K aW c=ZY (ZY (.ref C)):=by
 unfold clsAt at h;split at h
 ·rename_i C' e;cases h;exact e
 ·cases h
section
variable{K:Fg9}{h:iK}{mg:Str->Option aH}{ns:List Str}{c:Str}
def uq(X:K.In h)(G:h.Ns aW mg)(e:aph K ns=ZW)(hc:ns.contains c=ZW):ClsT K mg c:=by
 have z:=cL.mp e c (fJ.mp hc);split at z
 ·rename_i C q;exact⟨C,mg_of X G (agr q),agr q,axy z⟩
 ·cases z
def ace(X:K.In h)(G:h.Ns aW mg)(e:aph K ns=ZW)(hc:ns.contains c=ZW)(e2:aym K rs=ZW)(hr:rs.contains c=ZW):RaiT K mg c:=by
 obtain⟨C,h1,h2⟩:=uq X G e hc;have z:=cL.mp e2 c (fJ.mp hr);rw[aez h2.ns] at z;exact⟨C,h1,h2,z⟩
def a2m(X:K.In h)(G:h.Ns aW mg)(e:catB K=ZW):CatT K mg:=by
 unfold catB at e;split at e
 ·rename_i B q;simp only[bC,beq_iff_eq] at e;obtain⟨⟨⟨h1,h2⟩,h3⟩,h4⟩:=e;obtain⟨cd,hc,_⟩:=lW h1;exact⟨B,mg_of X G (agr q),⟨by rw[hc];rfl,h2,h3⟩,agr q,h4⟩
 ·cases e
end
end Dn
namespace Mn
open L2
section
variable{X:Cx}
def a3s:TE:=λ_ H Q=>∀p,H p=ZX->Q (.ref p) (upd H p (.dK []))
def aws:PE X (.Dict [] [] pos) a3s:=by
 intro zv s σ H Q I q;have big:sysModules<s.heap.objs.size:=by
  have h:aW<s.heap.objs.size:=(I.mod.glob.keeps I.bk).lt;exact oO (by decide) h
 have hn:=I.hok.fresh (aL s.heap.objs.size);refine wpAny_Dict_empty ⟨.ref s.heap.objs.size,upd H s.heap.objs.size (.dK []),?_,rfl,q _ hn⟩;refine I.laid (t':=s.toks) (λb u e=>aB _ e) (aL _) ?_
 exact⟨Nat.zero_le _,beq_eq_false_iff_ne.mpr (gY (bI big)),[],.nil,Heap.DictOf.new s.heap⟩
end
end Mn
namespace Dn
open L2 Mn
section
variable{K:Fg9}{X:Cx}{a b:fP}{pos p p2:Pos}
def axz:EV K X (.Dict [] [] pos) (ret (.dct [])):=EV.mk λ_=>PE.imp aws λσ H Q z9=>by
 obtain⟨tg,F,ρ,d,ρ',G,em,q⟩:=z9;obtain⟨rfl,rfl⟩:=lr em;exact λp hp=>q _ _ _ (G.new hp _) (G.newX hp _) (.dct gw .nil)
end
section
variable{K:Fg9}{X:Cx}{a b e:fP}{pos:Pos}{m1:M D}{m2 m:M Rv}
end
def anq:D->Bool
 |.non |.bl _ |.int _ |.str _=>ZW
 |_=>ZV
theorem Is.flat{K:Fg9}{F F2:Hp}{d:D}{v:V}(h:Is K F d v)(hd:anq d=ZW):Is K F2 d v:=by
 cases h with
 |non=>exact .non
 |bl b=>exact .bl b
 |int i=>exact .int i
 |str x=>exact .str x
 |_=>cases hd
theorem IsL.flat{K:Fg9}{F F2:Hp}:∀{l:List D} {vs:List V},IsL K F l vs->l.all anq=ZW->IsL K F2 l vs
 | [],_,h,_=>by cases h;exact .nil
 |d::r,_,h,hd=>by
  rw[kO,bC] at hd;cases h with
  |cons h t=>exact .cons (h.flat hd.1) (t.flat hd.2)
end Dn
namespace Mn
open L2
section
variable{prog:cF}{w:dX}{A:dG}{E:aH->aN->Prop}{h:iK}{g:Array GenState}{d:Drawn}{t:Nat}{os:OsState}
variable{nm q:Str}{C N:bB}{bs bm bmB:List aH}{hdct:Bool}{sn:List Str}{sub:List aH}{ab:Bool}{col:Option Bool}{dd:Option bB}{k0 k1 k2 k3 k5:Option aH}{B Bn newId nid initId inN:String}{bmN:List aH}
def agu(Fn:ExcBaseFacts Bn newId inN bmN)(hBn:bmB.contains (.type Bn)=ZW)(F:ExcBaseFacts B nid initId bmB)(T:OwnTail h bmB bm){mN:Str->Option aH}{rest:List aH}{fI:bB}{oI:Obj}{Q:Fin->aN->Prop}
  (hC:h.get? C=ZY (excClassObj nm q C N bs bm hdct sn sub ab col dd k0 k1 k2 k3 k5 newId)) (hn:h.Ns N mN) (hi:mN "__init__"=ZY (.ref fI)) (hfI:h.get? fI=ZY oI) (hfc:oI.cls=.type "function")
  (hq:∀h' e,vG h h' e (.ref C) rest->bD 'F' A (call (.ref fI) (.ref e::rest)) (λr s'=>r=.none/\Q (.done (.ret (.ref e))) s') E ⟨h',g,d,t,os⟩) (hrest:rest.length<=cU:=by size_fits) :
  bD 'F' A (kY.«type.__call__» ⟨.ref C::rest,[]⟩) Q E ⟨h,g,d,t,os⟩:=by
 repeat (first |with_reducible refine wpAny_loadPart_at hC ?_ |with_reducible refine wpAny_madeBy_exc hC ?_ |wp_step)
 refine codeAny_call_builtin_code (yE _ Fn.quiet) (wpAny_check_new_subU Fn hBn T hC ?_);refine codeAny_exc_new_subU Fn hBn F T hC ?_ hrest;show bD _ _ _ _ _ _
 let o1:Obj:={ cls:=.type "tuple", data:=.seq rest.toArray }
 let o2:Obj:={ cls:=.ref C,data:=.fields #[.ref h.objs.size,.none,.none,.none,.bool ZV,.none] }
 have keep:∀b o,h.get? b=ZY o->((h.push o1).push o2).get? b=ZY o:=λb o e=>aB _ (aB _ e)
 have hC1:=keep _ _ hC;have hf1:=keep _ _ hfI;have hn1:((h.push o1).push o2).Ns N mN:=let ⟨o,es,ep,e,r⟩:=hn;⟨o,es,ep,keep _ _ e,r⟩
 have hget:((h.push o1).push o2).get? (h.objs.size+1)=ZY o2:=by heap_get
 have hcC:(cY C::bm).contains (.ref C)=ZW:=by simp
 have T1:=T.keeps (h':=(h.push o1).push o2) keep;unfold isInstance
 repeat (first |with_reducible refine wpAny_loadPart_at hget ?_ | (with_reducible refine wpAny_isSubtype_exc hC1 ?_;rw[hcC]) |wp_step)
 show bD _ _ (typeLookup (.ref C) _) _ _ _;refine wpAny_typeLookup_tail hC1 hn1 T1 F.mroIs F.init.lookup ?_;rw[hi];refine dD (aA ?_);unfold bindSpecial;refine aA (wpAny_typeOf (T := "function") ⟨_,hf1,hfc⟩ ?_);rw[if_pos (by decide)]
 refine aF (aA (aZ (hq _ (h.objs.size+1) ⟨keep,jU (iC _),h.objs.size,hget,jU (aL _),?_⟩) (λr s' hr=>?_) λ_ _ x=>x))
 ·exact aB _ (yS rfl rfl)
 ·obtain⟨rfl,hQ⟩:=hr;wp_walk;exact hQ
def aqw(Fn:ExcBaseFacts Bn newId inN bmN)(hBn:bmB.contains (.type Bn)=ZW)(F:ExcBaseFacts B nid initId bmB)(T:OwnTail h bmB bm){mN:Str->Option aH}{rest:List aH}{fI:bB}{oI:Obj}{Q:aH->aN->Prop}
  (hC:h.get? C=ZY (excClassObj nm q C N bs bm hdct sn sub ab col dd k0 k1 k2 k3 k5 newId)) (hn:h.Ns N mN) (hi:mN "__init__"=ZY (.ref fI)) (hfI:h.get? fI=ZY oI) (hfc:oI.cls=.type "function")
  (hq:∀h' e,vG h h' e (.ref C) rest->bD 'F' (A.under (.builtin "type.__call__" ⟨.ref C::rest,[]⟩)) (call (.ref fI) (.ref e::rest)) (λr s'=>r=.none/\Q (.ref e) s') E ⟨h',g,d,t,os⟩) (hrest:rest.length<=cU:=by size_fits) :
  bD 'F' A (call (.ref C) rest) Q E ⟨h,g,d,t,os⟩:=by
 have f1:=tc_lookup;have f2:=tc_bind (.ref C);have hT:(⟨h,g,d,t,os⟩:aN).TypeIs (.ref C) "type" := ⟨_,hC,rfl⟩;refine lZ (codeAny_of_tree ?_);show bD _ _ (callAny (.ref C) _) _ _ _
 repeat (any_goals (first |assumption |with_reducible refine wpAny_loadPart_at hC ?_ |wp_step))
 refine⟨rfl,?_⟩;exact codeAny_call_builtin_at (yE _ (by decide +kernel)) entry_typeCall (wpAny_check_type_call_sub hC (agu (hrest:=hrest) Fn hBn F T hC hn hi hfI hfc λh' e hm=>hq h' e hm))
end
end Mn
namespace Dn
open L2 Mn
noncomputable def refB:aH->Bool
 |.ref _=>ZW
 |_=>ZV
def ahn(K:Fg9)(C:bB):Bool:=(mJ K C).any λcd=>cd.mro.dropWhile refB==bmV
theorem ain(self:aH):∀{l:List aH},l.dropWhile refB=bmV->refuseLoop self "__setattr__" l=pure ()
 |.ref c::r,e=>by rw[refuseLoop_ref];exact ain self (by simpa[Am,refB] using e)
 | [],e=>by cases e
 |.type n::r,e=>by
  have:(lB n::r)=bmV:=by simpa[Am,refB] using e
  rw[this];exact PySem.F.store_ValueError.passes self
 |.none::r,e=>nomatch (show(cQ::r:List aH)=bmV from e)
 |.ellipsis::r,e=>nomatch (show(Value.ellipsis::r:List aH)=bmV from e)
 |.notImplemented::r,e=>nomatch (show(wM::r:List aH)=bmV from e)
 |.bool b::r,e=>nomatch (show(qX b::r:List aH)=bmV from e)
 |.int i t::r,e=>nomatch (show(qD i t::r:List aH)=bmV from e)
 |.float b t::r,e=>nomatch (show(wU b t::r:List aH)=bmV from e)
 |.str x t::r,e=>nomatch (show(wC x t::r:List aH)=bmV from e)
 |.bytes b t::r,e=>nomatch (show(Value.bytes b t::r:List aH)=bmV from e)
 |.builtin i::r,e=>nomatch (show(nM i::r:List aH)=bmV from e)
section
variable{prog:cF}{w:dX}{A:dG}{E:aH->aN->Prop}{s:aN}{K:Fg9}{x C:bB}{ox:Obj}{od:Option Obj}{name:Str}{v:aH}
def a00(X:K.In s.heap)(I:jB s.heap x ox C od)(hp:ahn K C=ZW)(hob:mH K C (.type "object")=ZY ZW)(ht:nW K C name=ZY ZX)
  (h:∀b,bD 'F' A.in1 (Builtin.ObjectAttr.storeInOwnDict (.ref x) (.ref C) (.str name tk) name v b)
   (λfin s'=>match fin with |.done f=>R (.ok f) s' |.again c'=>c'.quiet=ZW/\mZ 'F' A c' R s') (λe s'=>R (.error e) s') s) :
  mZ 'F' A (.call (.builtin "object.__setattr__") ⟨[.ref x,.str name tk,v],[]⟩) R s:=by
 have SF:=PySem.F.store_object;obtain⟨cd,hc,ho⟩:=lW hp;have ho:=beq_iff_eq.mp ho;have sub:lK 'F' s.heap (isInstance (.ref x) (.type "object")) ZW:=I.type.andThen (wX X hob);refine codeAny_call_builtin SF.slot.plain SF.entry (@xR 'F' _ _ s "object.__setattr__" "object" "__setattr__" (.ref x) [.str name tk,v] [] _ SF.kind SF.split sub (SF.args (.ref x) (.str name tk) v) ?_);obtain⟨attr,ha,hr⟩:=Option.bind_eq_some_iff.mp ht;have hm:lK 'F' s.heap (mroOf (.ref C)) cd.mro:=(wY X hc).andThen .now;have L3:lK 'F' s.heap (Builtin.ObjectAttr.storeTaker? attr) ZX:=by
  cases attr with
  |none=>exact .now
  |some a=>
   obtain⟨b,hb,hz⟩:=lD.mp hr;refine(PySem.W.looks_takesIn X hb).andThen ?_;cases b with
   |true=>cases hz
   |false=>exact .now
 rw[PySem.W.osa_eq,refuse_eq];refine aA (aA (I.type.here (aA (hm.here ?_))));rw[ain _ ho];refine aF (aA (I.type.here (aA ((qZ X ha).here (aA (L3.here ?_))))));exact h _
def amq(X:K.In s.heap)(I:jB s.heap x ox C ZX)(hx:s.heap.get? x=ZY ox)(hc:ox.cls=.ref C)(hdn:ox.dict=ZX)(hdt:ox.data=.fields vs)
  (hs:mO K (.ref C) "__setattr__"=ZY (ZY (.builtin "object.__setattr__"))) (hp:ahn K C=ZW) (hob:mH K C (.type "object")=ZY ZW) (ht:nW K C name=ZY ZX) (hh:mX K C=ZW)
  (h:∀h' tk',h'.get? x=ZY { ox with dict:=ZY s.heap.objs.size }->h'.Ns1 s.heap.objs.size (λy=>if y=name then ZY v else ZX)->(∀b o,b≠x->s.heap.get? b=ZY o->h'.get? b=ZY o)->Q () { s with heap:=h',toks:=tk' }) :
  bD 'F' A (setAttr (.ref x) name v) Q E s:=by
 obtain⟨oc,odict,odata,osl⟩:=ox;simp only at hc hdn hdt;subst hc hdn hdt;refine PySem.W.set_plain X I hs (a00 (s:={ s with toks:=s.toks+1 }) X I hp hob ht λb=>?_)
 obtain⟨cd,hcd,hd'⟩:=lW hh;have hxs:x≠s.heap.objs.size:=bI (aO hx);refine aA (aF (aA (aA (wpAny_loadPart hx (aA (PySem.W.Looks.here (s:={ s with toks:=s.toks+1 }) (wY X hcd) ?_))))))
 rw[hd']
 let o0:Obj:={ cls:=.type "dict", data:=.dict #[] }
 have hx1:(s.heap.push o0).get? x=ZY ⟨.ref C,ZX,.fields vs,osl⟩:=aB _ hx;have hgd:((s.heap.push o0).update x λo=>{ cls:=o.cls,dict:=ZY s.heap.objs.size,data:=o.data,slots:=o.slots }).get? s.heap.objs.size=ZY o0:=(xH _ _ _ _ hxs.symm).trans (yS rfl rfl)
 have hnd:((s.heap.push o0).update x λo=>{ cls:=o.cls,dict:=ZY s.heap.objs.size,data:=o.data,slots:=o.slots }).Ns s.heap.objs.size (λ_=>ZX):=⟨_,#[],_,hgd,rfl,λe he=>absurd he (by simp),λ_=>rfl⟩
 refine aA (wpAny_alloc' (aA (wpAny_update' hx1 (aF ?_))));show bD _ _ (tR s.heap.objs.size (.str name _) name v) _ _ _;unfold tR Builtin.ObjectAttr.newKeyGuard;refine aA (aF (aA (wpAny_nsSet1 (yV hnd) λh' hn' hs'=>?_)))
 obtain⟨oD,esD,epD,hoD,hdD,hcD⟩:=hn'.count (Within.cons name v Within.nil);refine aA (wpAny_lookBehind hoD (by rw[hdD];exact pastItsLine_dict (bV hcD (by rw[cW,qI,jR];omega))) (aF ?_))
 refine h h' _ ((hs'.2 x hxs).trans (cC _ hx1 rfl)) hn' λb o hb e=>(hs'.2 b (bI (aO e))).trans ((xH _ _ _ _ hb).trans (aB _ e))
end
def exV(a C:bB)(dx:Option bB)(vs:Array aH):iK->Prop:=λh=>∃oe,h.get? a=ZY oe/\oe.cls=.ref C/\oe.dict=dx/\oe.data=.fields vs
section
variable{vs:Array aH}{X:Cx}{zv:List (bB×Obj)}{σ:L2.St}{H:Hp}{s:aN}{A:dG}{E:aH->aN->Prop}{a C:bB}{f:Str}
def ar5(I:Inv X zv σ H s)(e:H a=ZY (.ext (exV a C ZX vs)))(k:ExcK X.K C)(hs:mO X.K (.ref C) "__setattr__"=ZY (ZY (.builtin "object.__setattr__")))(hp:ahn X.K C=ZW)(ht:nW X.K C f=ZY ZX)(ry:RelV y u)
  (h:∀d s',H d=ZX->Inv X zv σ (upd (upd H a (.ext (exV a C (ZY d) vs))) d (.xd [(f,y)])) s'->Q () s'):bD 'D' A (setAttr (.ref a) f u) Q E s:=by
 obtain⟨⟨oe,he,hc,hdn,hdt⟩,_,_⟩:=I.hok _ _ e;refine amq I.kIn ⟨he,hc,by unfold mY;rw[hdt],by rw[hdn];trivial⟩ he hc hdn hdt hs hp k.ob ht k.hd λh' tk' e1 e2 e3=>?_
 have hd:H s.heap.objs.size=ZX:=I.hok.fresh (aL _);have hda:s.heap.objs.size≠a:=gP (aO he);have I2:=I.write (x:=a) (e:=a) (o:=.ext (exV a C (ZY s.heap.objs.size) vs)) (t':=tk') (h':=h') (by rw[e];trivial) (.inl rfl) (λb u hb q=>e3 b u hb q) ⟨_,e1⟩ ⟨⟨_,e1,hc,rfl,hdt⟩,⟨_,e1⟩,λh1 h2 p q=>by obtain⟨oe,z1,z2⟩:=p;exact⟨oe,q _ z1,z2⟩⟩
 have fp:FpX X zv (upd H a (.ext (exV a C (ZY s.heap.objs.size) vs))) s.heap.objs.size:=Inv.fpX I (jU (aL _)) (by rw[cg hda];exact hd)
 refine h s.heap.objs.size _ hd (Inv.track I2 fp ⟨_,e2,λg=>?_⟩)
 by_cases q:g=f
 ·subst q;have e1:[(g,y)].lookup g=ZY y:=by simp[dF]
  rw[e1];show RelO (ZY y) (if g=g then ZY u else ZX)
  rw[if_pos rfl];exact ry
 ·have:(g==f)=ZV:=beq_eq_false_iff_ne.mpr q;simp[dF,this,q,RelO]
structure FldK (K:Fg9) (C:bB) (f:Str):Prop where
 k:ExcK K C
 sa:mO K (.ref C) "__setattr__"=ZY (ZY (.builtin "object.__setattr__"))
 ov:ahn K C=ZW
 tk:nW K C f=ZY ZX
def a4b(C:bB)(vs:Array aH)(ta tv:TE)(f:Str):TS:=λD σ H=>tv σ H λy H1=>ta σ H1 λx H2=>∃a,x=.ref a/\H2 a=ZY (.ext (exV a C ZX vs))/\∀d,H2 d=ZX->D.nx σ (upd (upd H2 a (.ext (exV a C (ZY d) vs))) d (.xd [(f,y)]))
def a0g(k:FldK X.K C f)(ha:PE X o ta)(hv:PE X value tv)(hs:mF value (ZY (.Attribute o f pos')) pos.line X.env=pure ZV):PS X (.Assign [.Attribute o f pos'] value pos) (a4b C vs ta tv f):=by
 intro zv s σ H D I h;refine plainObj_wpAny_Assign_Attribute (thn (hv zv s σ H _ I h) λu s1 ⟨y,H1,I1,ry,q⟩=>thn (ha zv s1 σ H1 _ I1 q) λov s2 ⟨x,H2,I2,rx,a,ex,ea,q2⟩=>?_) hs
 subst ex;obtain rfl:ov=cY a:=rx;exact ar5 I2 ea k.k k.sa k.ov k.tk ry λd s3 hd I3=>⟨σ,_,I3,q2 d hd⟩
def spI(C:bB)(vs:Array aH)(f:Str):Sp:=λus H Q _=>∃a i,us=[.ref a,.int i]/\H a=ZY (.ext (exV a C ZX vs))/\∀d,H d=ZX->Q .non (upd (upd H a (.ext (exV a C (ZY d) vs))) d (.xd [(f,.int i)]))
def a1y{K:Fg9}{P:cF}{w:dX}{mg:Str->Option aH}{base:iK}{x qual:Str}{st:jG}{fa:bB}{fd:eU}{k:Nat}{p1 p2 p3 p4:Pos}(F:Fun K x qual st fa fd)(S:FnScope ["self", f] ["self", f] (aq st))(hf:FldK K C f)
  (hb:jm st=[.Assign [.Attribute (.Name "self" p1) f p2] (.Name f p3) p4]) (h1:(f==("__debug__" : Str))=ZV) (h2:(f==("__classdict__" : Str))=ZV)
  (hs:∀env,mF (.Name f p3) (ZY (.Attribute (.Name "self" p1) f p2)) p4.line env=pure ZV) (hv1:Vis (aq st) "self") (hv2:Vis (aq st) f) :
  FnOk P w K mg base CX0 (k+1) fa fd ["self", f] (spI C vs f):=by
 refine F.ok S (λus H Q E h=>?_) λcdv A outer s H us Q E hr h=>⟨a4b C vs (tVar 0) (tVar 1) f,?_,?_⟩
 ·obtain⟨a,i,rfl,_⟩:=h;rfl
 ·rw[hb];exact asi (a0g hf (pv 0 rfl hv1) (pv 1 rfl hv2 h1 h2) (hs _))
 ·obtain⟨a,i,rfl,e,q⟩:=h;exact⟨_,rfl,_,rfl,a,rfl,e,λd hd=>q d hd⟩
end
end Dn
namespace Mn
open L2
section
variable{M:Model}{A:dG}{E:aH->aN->Prop}{env:Env}
variable{nm q:Str}{C N:bB}{bs bm:List aH}{hdct:Bool}{sn:List Str}{sub:List aH}{ab:Bool}{col:Option Bool}{dd:Option bB}{k0 k1 k2 k3 k5:Option aH}{newId:String}
def aip(hbase:bm.contains (.type "BaseException")=ZW)(hh:A.handled=ZX)
  (h:bD M A x (λv s₁=>∃e oe vs,v=.ref e/\s₁.heap.get? C=ZY (excClassObj nm q C N bs bm hdct sn sub ab col dd k0 k1 k2 k3 k5 newId)/\s₁.heap.get? e=ZY oe/\oe.cls=.ref C/\oe.data=.fields vs/\vs[1]? = ZY .none/\E (.ref e) s₁) E s) :
  bD M A (raiseStmt env (ZY x) ZX) Q E s:=by
 have hcB:(cY C::bm).contains (.type "BaseException")=ZW:=by rw[yD,hbase,Bool.or_true]
 unfold raiseStmt;refine aA (aZ h (λv s₁ h₁=>?_) λ_ _ x=>x)
 obtain⟨e,⟨oc,od,odt,osl⟩,vs,rfl,hC,he,hc,hd,h1,hE⟩:=h₁;simp only at hc hd;subst hc hd;obtain⟨hp,g,d,tk,os⟩:=s₁
 repeat (first |with_reducible refine wpAny_loadPart_at he ?_ |with_reducible refine wpAny_loadPart_at hC ?_ | (with_reducible refine wpAny_isSubtype_exc hC ?_;rw[hcB]) |wp_step)
 rw[h1];exact aF (aF (wpAny_raiseNew_none hh hE))
end
section
variable{prog:cF}{w:dX}{A:dG}{E:aH->aN->Prop}{s:aN}{env:Env}
variable{nm q:Str}{C N:bB}{bs bm bmB:List aH}{hdct:Bool}{sn:List Str}{sub:List aH}{ab:Bool}{col:Option Bool}{dd:Option bB}{k0 k1 k2 k3 k5:Option aH}{B Bn newId nid initId inN:String}{bmN:List aH}
def amx(Fn:ExcBaseFacts Bn newId inN bmN)(hBn:bmB.contains (.type Bn)=ZW)(F:ExcBaseFacts B nid initId bmB) 
  (hbase:bm.contains (.type "BaseException")=ZW) (hh:A.handled=ZX) (hplain:(kI cpos (aQ args env)).any (·.1)=ZV)
  (h:bD 'F' A (eval (.Name x np) env) (λf s₁=>f=.ref C/\bD 'F' A (evalArgs (.ref C) ZW (kI cpos (aQ args env)) [])
   (λa s₂=>a.kw=[]/\a.pos.length<=cU/\s₂.heap.get? C=ZY (excClassObj nm q C N bs bm hdct sn sub ab col dd k0 k1 k2 k3 k5 newId)/\(∃mN,s₂.heap.Ns N mN/\mN "__init__"=ZY (.ref fI))/\OwnTail s₂.heap bmB bm/\(∃oI,s₂.heap.get? fI=ZY oI/\oI.cls=.type "function") /\
    ∀h' e,vG s₂.heap h' e (.ref C) a.pos->bD 'F' (A.under (.builtin "type.__call__" ⟨.ref C::a.pos,[]⟩)) (call (.ref fI) (.ref e::a.pos))
     (λr s'=>r=.none/\s'.heap.get? C=ZY (excClassObj nm q C N bs bm hdct sn sub ab col dd k0 k1 k2 k3 k5 newId)/\∃oe vs,s'.heap.get? e=ZY oe/\oe.cls=.ref C/\oe.data=.fields vs/\vs[1]? = ZY .none/\E (.ref e) s') E { s₂ with heap:=h' }) E s₁) E s) :
  bD 'F' A (exec (.Raise (ZY (.Call (.Name x np) args [] cpos)) ZX pos) env) Q E s:=by
 rw[arm_exec_Raise]
 first
  |refine aA (lJ (aip (C:=C) (nm:=nm) (q:=q) (N:=N) (bs:=bs) (bm:=bm) (hdct:=hdct) (sn:=sn) (sub:=sub) (ab:=ab) (col:=col) (dd:=dd) (k0:=k0) (k1:=k1) (k2:=k2) (k3:=k3) (k5:=k5) (newId:=newId) hbase hh (aA (aZ (wpAny_Call_ofName (aZ h (λf s₁ h₁=>?_) λ_ _ x=>x)) (λv s₃ h₃=>aA (lJ (aF h₃))) λ_ _ x=>x))))
  | (simp only[evalOpt,Option.map];refine aA (lJ (aip (C:=C) (nm:=nm) (q:=q) (N:=N) (bs:=bs) (bm:=bm) (hdct:=hdct) (sn:=sn) (sub:=sub) (ab:=ab) (col:=col) (dd:=dd) (k0:=k0) (k1:=k1) (k2:=k2) (k3:=k3) (k5:=k5) (newId:=newId) hbase hh (aA (aZ (wpAny_Call_ofName (aZ h (λf s₁ h₁=>?_) λ_ _ x=>x)) (λv s₃ h₃=>aA (lJ (aF h₃))) λ_ _ x=>x)))))
 obtain⟨rfl,h₁⟩:=h₁;unfold callWith;refine aA (dD (aZ h₁ (λa s₂ h₂=>aA (lJ ?_)) λ_ _ x=>x))
 obtain⟨apos,akw⟩:=a;obtain⟨hkw,hlen,hC,⟨mN,hn,hi⟩,T,⟨oI,hfI,hfc⟩,h₂⟩:=h₂;obtain rfl:akw=[]:=hkw;obtain⟨hp,g,d,tk,os⟩:=s₂;simp only[hplain];refine aA (wpAny_keeperOf_exc hC ?_);refine aA (aqw (hrest:=hlen) Fn hBn F T hC hn hi hfI hfc λh' e hm=>aZ (h₂ h' e hm) (λr s' ⟨hr,hC',oe,vs,he,hc,hd,h1,hE⟩=>⟨hr,aA (dD (wpAny_point (aF ?_)))⟩) λ_ _ z=>z)
 exact⟨e,oe,vs,rfl,hC',he,hc,hd,h1,hE⟩
end
end Mn
namespace Dn
open L2 Mn
def agd(h:upd H a o b=ZX):H b=ZX:=by
 by_cases z:b=a
 ·rw[z,gw] at h;cases h
 ·rw[cg z] at h;exact h
def acr(h:upd H a (.ext φ) b=ZY u)(hu:∀ψ,u≠.ext ψ):H b=ZY u:=by
 by_cases z:b=a
 ·rw[z,gw] at h;cases h;exact absurd rfl (hu φ)
 ·rw[cg z] at h;exact h
def Inv.untrack(I:L2.Inv X zv σ (upd H a (.ext φ)) s)(hn:H a=ZX):L2.Inv X zv σ H s :=
 ⟨I.ok,I.os,I.bare,⟨I.base.keep,I.base.slot,λb o e n hx=>agd (I.base.free b o e n hx),I.base.there,λb xs q=>acr (I.base.tups b xs q) (λ_ z=>by cases z),λb ob u q=>acr (I.base.frzs b ob u q) (λ_ z=>by cases z),λb ps q=>let ⟨more,h⟩:=I.base.tbls b ps q;⟨more,acr h (λ_ z=>by cases z)⟩⟩,
  I.loc,I.cell,agd I.free,λx c e=>agd (I.freeC x c e),λp hp=>let ⟨h1,h2,h3⟩:=I.pin p hp;⟨h1,agd h2,h3⟩,λb u e=>by
   have hb:b≠a:=λz=>by rw[z,hn] at e;cases e
   exact(I.hok b u (by rw[cg hb];exact e)).stay (λc v _ q=>q) (λc q=>acr q (λ_ z=>by cases z)) (λc xs q=>acr q (λ_ z=>by cases z)) λc o1 u1 q=>acr q (λ_ z=>by cases z),I.len⟩
def alu(K:Fg9)(C fI:bB):Bool:=match K.lookup C with
 |some ⟨.type "type", _,.cls cd,sl⟩=>(match cd.mro,sl.toList with
  |.ref C'::bm,[_,_,_,_,ZY (.builtin n),_]=>C'==C&&n == "ValueError.__new__" && !cd.hasDel&&PySem.W.tailIn K bmV bm&&PySem.W.nsOkIn K cd.ns&&nsIn K cd.ns "__init__" == ZY (ZY (.ref fI))&&rG K (.ref fI)==ZY (.type "function")
  |_,_=>ZV)
 |_=>ZV
def a09{K:Fg9}{h:iK}{N:bB}{mg:Str->Option aH}{n:Str}{v:aH}(X:K.In h)(G:h.Ns N mg)(e:nsIn K N n=ZY (ZY v)):mg n=ZY v:=by
 obtain⟨o,es,ep,ho,hd,_,hf⟩:=G;unfold nsIn at e;split at e
 ·rename_i c d es' n' sl q;have:=X _ _ q;rw[ho] at this;cases this;cases hd;split at e
  ·rename_i en he;cases e;rw[<-hf];unfold nsFind findBy;rw[<-yF,he];rfl
  ·split at e <;> cases e
 ·cases e
def axw{K:Fg9}{C fI:bB}(q:alu K C fI=ZW) :
  ∃bm N nm qn bs hdct sn sub ab col dd k0 k1 k2 k3 k5,∀h:iK,K.In h->h.get? C=ZY (excClassObj nm qn C N bs bm hdct sn sub ab col dd k0 k1 k2 k3 k5 "ValueError.__new__")/\(∃mN,h.Ns N mN/\mN "__init__"=ZY (.ref fI))/\OwnTail h bmV bm/\∃oI,h.get? fI=ZY oI/\oI.cls=.type "function" := by
 unfold alu at q;split at q
 ·rename_i dd cd sl ho;split at q
  ·rename_i C' bm k0 k1 k2 k3 n k5 hm hs;simp only[bC,beq_iff_eq,yZ] at q;obtain⟨⟨⟨⟨⟨⟨e1,e2⟩,e3⟩,e4⟩,e5⟩,e6⟩,e7⟩:=q;subst e1 e2;obtain⟨nm,bs,mro,ns,qn,hd,sn,sub,ab,col,del⟩:=cd;have hm:mro=_:=hm;have e3:del=ZV:=e3;subst hm e3;have z:sl = #[k0,k1,k2,k3,ZY (.builtin "ValueError.__new__"),k5]:=zT.mp hs;subst z;refine⟨bm,ns,nm,qn,bs,hd,sn,sub,ab,col,dd,k0,k1,k2,k3,k5,λh X=>⟨X _ _ ho,⟨h.nsMap ns,.of_isNs (rR X e5),?_⟩,xO X e4,?_⟩⟩
   ·exact a09 X (.of_isNs (rR X e5)) e6
   ·obtain⟨o,ho2,hc2⟩:=lD.mp e7;exact⟨o,X _ _ ho2,hc2⟩
  ·cases q
 ·cases q
def ad6(c f:Str)(m:M D):Sd:=dM m λd ρ=>match d with
 |.int i=>ZY (.exc ⟨c,[(f,i)]⟩,ρ)
 |_=>ZX
section
variable{K:Fg9}{X:Cx}{c f:Str}{C fI:bB}{fd:eU}{kk:Nat}{e1:fP}{m:M D}{np cpos pos:Pos}
def arb(hcalm:X.calm=ZW)(hg:Gl X c)(hm:X.mg c=ZY (.ref C))(k:ClsOk X.K c C)(qq:alu X.K C fI=ZW)(Fi:∀vs,FnOk X.prog X.w X.K X.mg X.base CX0 kk fI fd ["self", f] (spI C vs f))(hb:∀s us,us.length=2->pP s fd ⟨us,[]⟩ ((["self", f]:List Str).zip us))
  (hr:Room (kk+1) X.A) (h:EV K X e1 m) (hn:NoX m) (hs:aQ [e1] X.env=(ZV,eval e1 X.env)::aQ [] X.env:=by rfl) (hd:(c==("__debug__" : Str))=ZV:=by decide) :
  XS K X (.Raise (ZY (.Call (.Name c np) [e1] [] cpos)) ZX pos) (ad6 c f m):=⟨λhk hnx zv s σ H tg F ρ x ρ' I G em=>by
 have em:=uo.mp em;unfold ad6 dM at em;split at em
 ·rename_i d ρ1 em1;dsimp only at em;split at em
  ·rename_i i;cases em;have h:=h hk;subst hk;obtain⟨bm,N,nm,qn,bs,hdct,sn,sub,ab,col,dd,k0,k1,k2,k3,k5,hobj⟩:=axw qq;have T0:=(hobj _ I.kIn).2.2.1;refine amx (C:=C) (nm:=nm) (q:=qn) (N:=N) (bs:=bs) (bm:=bm) (hdct:=hdct) (sn:=sn) (sub:=sub) (ab:=ab) (col:=col) (dd:=dd) (k0:=k0) (k1:=k1) (k2:=k2) (k3:=k3) (k5:=k5) (fI:=fI)
    gR (by decide +kernel) gR (T0.hasType gR.hasBase) (I.ok.hd hcalm) (by rw[hs];rfl) ?_
   refine adp I hg hm ⟨rfl,?_⟩ hd;have pa:=uc h acf hs cpos zv s σ H (λvs H1=>∃F1,vs=[.int i]/\Good X.K tg F1 H1 ρ' σ/\Ext (Own ρ σ) (Own ρ' σ) F H F1 H1) I ⟨tg,F,ρ,.int i,ρ',G,em1,λv H' F' G' x' r=>by
    cases r;exact⟨F',rfl,G',x'⟩⟩
   rw[hs] at pa ⊢
   refine wO (aZ pa (λus s2 ⟨vs,H2,I2,r2,F2,ev,G2,x2⟩=>?_) λe s1 q=>by rw[hnx] at q;exact q.elim)
   subst ev;have hlen:us.length=1:=r2.length.symm;obtain⟨o1,o2,o3,o4⟩:=hobj _ I2.kIn;refine⟨rfl,by rw[jR];show us.length<=_;omega,o1,o2,o3,o4,λh' e hme=>?_⟩
   obtain⟨t,he,_,_⟩:=hme.there;have hnH:H2 e=ZX:=by
    cases z:H2 e with
    |none=>rfl
    |some o=>
     obtain⟨ob,h1⟩:=ak9 (I2.hok e o z);have h2:s2.heap.get? e=ZX:=hme.new;rw[h2] at h1;cases h1
   have J:L2.Inv X zv σ H2 { s2 with heap:=h' }:=I2.kept (t':=s2.toks) hme.keeps
   have J1:L2.Inv X zv σ (upd H2 e (.ext (exV e C ZX #[.ref t,.none,.none,.none,.bool ZV,.none]))) { s2 with heap:=h' } :=
    Inv.track J (Inv.fpX I2 hme.new hnH) ⟨⟨_,he,rfl,rfl,rfl⟩,⟨_,he⟩,λh1 h2 p q=>by obtain⟨oe,z1,z2⟩:=p;exact⟨oe,q _ z1,z2⟩⟩
   refine lZ (lE ((Fi #[.ref t,.none,.none,.none,.bool ZV,.none]).run (X.A.under (.builtin "type.__call__" ⟨.ref C::us,[]⟩)) X.stack _ _ ⟨.ref e::us,[]⟩ (.ref e::us) [.ref e,.int i]
    (λv H3=>v=.non/\∃d,upd H2 e (.ext (exV e C ZX #[.ref t,.none,.none,.none,.bool ZV,.none])) d=ZX/\H3=upd (upd (upd H2 e (.ext (exV e C ZX #[.ref t,.none,.none,.none,.bool ZV,.none]))) e (.ext (exV e C (ZY d) #[.ref t,.none,.none,.none,.bool ZV,.none]))) d (.xd [(f,.int i)]))
    (λ_ _ _=>False) (hr.make C us []) (J1.env0.make C us []) (hb _ _ (by rw[cW,hlen])) (.cons rfl r2) ⟨e,i,rfl,gw,λd hd=>⟨rfl,d,hd,rfl⟩⟩) λr s' z=>?_)
   cases r with
   |error er=>exact z.elim
   |ok fl=>
    cases fl with
    |ret u=>
    obtain⟨v,H3,J3,rv,rfl,d,hd,rfl⟩:=Inv.after J1 z;have hde:d≠e:=λq=>by rw[q,gw] at hd;cases hd
    have hd2:H2 d=ZX:=by rw[cg hde] at hd;exact hd
    have eq:upd (upd (upd H2 e (.ext (exV e C ZX #[.ref t,.none,.none,.none,.bool ZV,.none]))) e (.ext (exV e C (ZY d) #[.ref t,.none,.none,.none,.bool ZV,.none]))) d (.xd [(f,.int i)])=upd (upd H2 d (.xd [(f,.int i)])) e (.ext (exV e C (ZY d) #[.ref t,.none,.none,.none,.bool ZV,.none])):=by
     rw[azp]
     funext b
     unfold upd
     by_cases q1:b=d
     ·rw[if_pos q1,if_neg (λq=>hde (q1.symm.trans q)),if_pos q1]
     ·rw[if_neg q1,if_neg q1]
    rw[eq] at J3;obtain⟨⟨oe,he2,hc2,hdx2,hdt2⟩,_⟩:=J3.hok e _ gw;have hne:upd H2 d (.xd [(f,.int i)]) e=ZX:=by rw[cg (gY hde)];exact hnH
    have J4:=Inv.untrack J3 hne;have rv:u=cQ:=rv;refine⟨rv,(hobj _ J4.kIn).1,oe,_,he2,hc2,hdt2,rfl,σ,upd H2 d (.xd [(f,.int i)]),upd F2 d (.xd [(f,.int i)]),J4,G2.new hd2 _,x2.trans (G2.newX hd2 _),e,C,ZY d,[e],rfl,k,.inr ⟨d,rfl,gw⟩,⟨oe,_,he2,hc2,hdx2,hdt2,by simp,.inl ⟨rfl,rfl⟩⟩,λb hb=>?_⟩
    obtain rfl:=dW.mp hb;exact Inv.fpX I2 hme.new hne
    |_=>exact z.elim
  ·cases em
 ·rename_i y ρ1 em1;exact absurd em1 (hn _ _ _)
 ·cases em⟩
end
theorem ahd(f:Str):∀fs:List (Str×Int),(fs.map λp=>(p.1,V.int p.2)).lookup f=(fs.lookup f).map V.int
 | []=>rfl
 | (g,i)::r=>by
  rw[bH,zO,zO];cases f==g
  ·exact ahd f r
  ·rfl
def mFld(cs:List Str)(f:Str)(m:M D):M D:=m.bind λd=>match d with
 |.exn c fs=>if cs.contains c=ZW then lift ((fs.lookup f).map D.int) else lift ZX
 |_=>lift ZX
@[simp] theorem a9r(cs:List Str)(f:Str)(m:M D)(ρ:Ro):mFld cs f m ρ=(m.bind λd=>match d with
 |.exn c fs=>if cs.contains c=ZW then lift ((fs.lookup f).map D.int) else lift ZX
 |_=>lift ZX) ρ:=rfl
theorem ay6{K:Fg9}{X:Cx}{e:fP}{m:M D}{cs:List Str}{f:Str}{pos:Pos}(hF:∀c C,cs.contains c=ZW->nsIn K aW c=ZY (ZY (.ref C))->mO K (.ref C) f=ZY ZX)(h:EV K X e m)(hb:attributeBase e f X.env (eval e X.env)=eval e X.env:=by rfl) :
  EV K X (.Attribute e f pos) (mFld cs f m):=EV.mk λhk=>by
 intro zv s σ H Q I z9;obtain⟨tg,F,ρ,d,ρ',G,em,q⟩:=z9;obtain⟨d1,ρ1,e1,em⟩:=bj em;refine a2s hb (thn (h hk zv s σ H (λx H1=>∃F1,Good K tg F1 H1 ρ1 σ/\Ext (Own ρ σ) (Own ρ1 σ) F H F1 H1/\Is K F1 d1 x) I ⟨tg,F,ρ,d1,ρ1,G,e1,λv H' F' G' x' r=>⟨F',G',x',r⟩⟩) λu s1 ⟨x,H1,I1,rx,F1,G1,x1,i1⟩=>?_)
 subst hk;cases i1 with
 | @exn a C c dx fs ea hc hk hf=>
  dsimp only at em;split at em
  ·rename_i hcs;obtain⟨e2,rfl⟩:=jb em;obtain⟨i,hi,rfl⟩:=lD.mp e2;rcases hf with⟨_,rfl⟩ |⟨d,rfl,hFd⟩
   ·cases hi
   ·obtain rfl:u=cY a:=rx;obtain⟨⟨oe,vs,he,hcl,hdx,hdt⟩,_⟩:=I1.hok a _ (G1.sub _ _ ea);obtain⟨mA,hns,hrel⟩:=I1.hok d _ (G1.sub _ _ hFd);obtain⟨od,ho,hl⟩:=alf hns;have J:jB s1.heap a oe C (ZY od):=⟨he,hcl,by unfold mY;rw[hdt],by rw[hdx];exact ho⟩
    have hr:=hrel f;rw[ahd,hi] at hr;cases hm:mA f with
    |none=>rw[hm] at hr;exact hr.elim
    |some v=>
     rw[hm] at hr;obtain⟨t,rfl⟩:∃t,v=.int i t:=hr
     have hfo:=PySem.W.findObj_own (od:=od) hk.hd (hF c C hcs hc) rfl (by rw[hl,hm])
     unfold getAttr;refine aA (wpAny_mkText (apa (s:={ s1 with toks:=s1.toks+1 }) I1.kIn J hk (exc_value (s:={ s1 with toks:=s1.toks+1 }) I1.kIn J hfo ?_)))
     exact aF ⟨.int i,H1,I1.kept (t':=s1.toks+1) (λ_ _ z=>z),⟨t,rfl⟩,q _ H1 F1 G1 x1 (.int i)⟩
  ·cases em
 |_=>cases em
def a2k(s:jG):jG:=match s with
 |.ClassDef _ _ _ b _ _ _ _ _ _ _=>b.getD 0 s
 |_=>s
section
variable{K:Fg9}{X:Cx}{c f:Str}{st st':jG}{e1:fP}{m:M D}{np cpos pos p1 p2 p3 p4:Pos}
def art:SV K X st (ad6 c f m):=SV.mk λ_=>PS.imp aoh λE σ H z9=>by
 obtain⟨tg,F,ρ,fl,ρ',G,em,q⟩:=z9;unfold ad6 dM at em;split at em
 ·dsimp only at em;split at em
  ·cases em;exact(show False from q).elim
  ·cases em
 ·cases em;exact(show False from q).elim
 ·cases em
structure IniT (K:Fg9) (mg:Str->Option aH) (c f q:Str) (st:jG):Prop where
 ex:∃C fI fd,mg c=ZY (.ref C)/\ClsOk K c C/\alu K C fI=ZW/\FldK K C f/\Fun K "__init__" q st fI fd
def ara(hk:X.K=K)(hcalm:X.calm=ZW)(hg:Gl X c)(h:IniT K X.mg c f q st)(S:FnScope ["self", f] ["self", f] (aq st))(hb:jm st=[.Assign [.Attribute (.Name "self" p1) f p2] (.Name f p3) p4])(h1:(f==("__debug__" : Str))=ZV)(h2:(f==("__classdict__" : Str))=ZV)
  (hs:∀env,mF (.Name f p3) (ZY (.Attribute (.Name "self" p1) f p2)) p4.line env=pure ZV) (hv1:Vis (aq st) "self") (hv2:Vis (aq st) f)
  (hbd:∀fI fd,Fun K "__init__" q st fI fd->∀s us,us.length=2->pP s fd ⟨us,[]⟩ ((["self", f]:List Str).zip us))
  (hr:Room 2 X.A) (he:EV K X e1 m) (hn:NoX m) (hst:aQ [e1] X.env=(ZV,eval e1 X.env)::aQ [] X.env:=by rfl) (hd:(c==("__debug__" : Str))=ZV:=by decide) :
  XS K X (.Raise (ZY (.Call (.Name c np) [e1] [] cpos)) ZX pos) (ad6 c f m):=by
 subst hk;obtain⟨C,fI,fd,hm,k,qq,kf,F⟩:=h.ex;exact arb (kk:=1) hcalm hg hm k qq (λvs=>a1y F S kf hb h1 h2 hs hv1 hv2) (hbd fI fd F) hr he hn hst hd
def aqn(h:∀(kV doc pm:aH) (an:Option bB) (cdv ct:aH) (us:List aH),us.length=2->oK (fnOf "__init__" q (oh st) (jm st) (aq st) .none kV doc pm an cdv ct) ⟨us,[]⟩=pure ((["self", f]:List Str).zip us)) :
  ∀fI fd,Fun K "__init__" q st fI fd->∀s us,us.length=2->pP s fd ⟨us,[]⟩ ((["self", f]:List Str).zip us):=λfI fd F s us hl=>by
 obtain⟨oc,od,kV,doc,pm,an,cdv,ct,osl,rfl,lk,hcd⟩:=F.ex;exact .of_eq (h kV doc pm an cdv ct us hl)
def a1m(K:Fg9)(C fI:bB)(f:Str):Bool:=alu K C fI&&(mO K (.ref C) "__setattr__" == ZY (ZY (.builtin "object.__setattr__")))&&ahn K C&&(nW K C f==ZY ZX)
def axr(X:K.In h)(G:h.Ns aW mg)(e:aph K ns=ZW)(hc:ns.contains c=ZW)(aC:nsIn K aW c=ZY (ZY (.ref C)))(e2:a1m K C fI f=ZW)(F:Fun K "__init__" q st fI fd):IniT K mg c f q st:=by
 obtain⟨C',h1,h2⟩:=uq X G e hc;have z:=h2.ns.symm.trans aC;cases z;unfold a1m at e2;simp only[bC,beq_iff_eq] at e2;obtain⟨⟨⟨a1,a2⟩,a3⟩,a4⟩:=e2;exact⟨C,fI,fd,h1,h2,a1,⟨h2.ok,a2,a3,a4⟩,F⟩
def a1z(K:Fg9)(cs:List Str)(f:Str):Bool:=cs.all λc=>match clsAt K c with
 |some C=>mO K (.ref C) f==ZY ZX
 |none=>ZV
def ao9(h:a1z K cs f=ZW):∀c C,cs.contains c=ZW->nsIn K aW c=ZY (ZY (.ref C))->mO K (.ref C) f=ZY ZX:=λc C hc hn=>by
 have z:=cL.mp h c (fJ.mp hc);rw[aez hn] at z;exact beq_iff_eq.mp z
end
end Dn
namespace Stt
open PySem
def Rise(t:kJ):Prop:=t.place.toList.Pairwise (· < ·)
def Rise.lt{t:kJ}(h:Rise t){i j:Nat}{x y:Nat}(hij:i<j)(hx:t.place[i]? = ZY x)(hy:t.place[j]? = ZY y):x<y:=by
 obtain⟨hi,rfl⟩:=dY.mp hx;obtain⟨hj,rfl⟩:=dY.mp hy;have:=List.pairwise_iff_getElem.mp h i j (by simpa using hi) (by simpa using hj) hij
 simpa using this
def Cut(xs:Array Nat)(j p:Nat):Prop:=p<=xs.size/\(∀i x,i<p->xs[i]? = ZY x->x<j)/\∀i x,p<=i->xs[i]? = ZY x->j<=x
theorem akk{xs:Array Nat}(hs:xs.toList.Pairwise (· < ·))(j:Nat):∀(fuel lo hi:Nat),hi-lo<=fuel->lo<=hi->hi<=xs.size->(∀i x,i<lo->xs[i]? = ZY x->x<j)->(∀i x,hi<=i->xs[i]? = ZY x->j<=x) ->
  Cut xs j (yH xs j fuel lo hi)
 | 0,lo,hi,hf,hle,hsz,a,b=>by
  have:lo=hi:=by omega
  subst this;exact⟨hsz,a,b⟩
 |fuel+1,lo,hi,hf,hle,hsz,a,b=>by
  unfold yH;split
  ·rename_i hlt;dsimp only;have hm:(lo+hi) / 2<xs.size:=by omega
   have hg:xs.getD ((lo+hi) / 2) j=xs[(lo+hi) / 2]:=by simp[zE,hm]
   have hx:xs[(lo+hi) / 2]? = ZY (xs[(lo+hi) / 2]):=by simp[hm]
   rw[hg]
   by_cases hc:xs[(lo+hi) / 2]<j
   ·rw[if_pos hc];refine akk hs j fuel ((lo+hi) / 2+1) hi (by omega) (by omega) hsz (λi x hi' hx'=>?_) b
    rcases eY i ((lo+hi) / 2) with h |h
    ·exact oO (Rise.lt (t:={ mask:=0,place:=xs,dummies := #[],finger:=0,led:=ZW,moves:=0,plain:=ZW }) hs h hx' hx) hc
    ·have:i=(lo+hi) / 2:=by omega
     subst this;rw[hx] at hx';cases hx';exact hc
   ·rw[if_neg hc];refine akk hs j fuel lo ((lo+hi) / 2) (by omega) (by omega) (by omega) a (λi x hi' hx'=>?_)
    rcases eY ((lo+hi) / 2) i with h |h
    ·exact bV (mC.mp hc) (jL (Rise.lt (t:={ mask:=0,place:=xs,dummies := #[],finger:=0,led:=ZW,moves:=0,plain:=ZW }) hs h hx hx'))
    ·have:i=(lo+hi) / 2:=by omega
     subst this;rw[hx] at hx';cases hx';omega
  ·have:lo=hi:=by omega
   subst this;exact⟨hsz,a,b⟩
def ah3(hs:xs.toList.Pairwise (· < ·))(j:Nat):Cut xs j (fX xs j) :=
 akk hs j xs.size 0 xs.size (by omega) (iB _) (aL _) (λi x h _=>absurd h (lG _)) λi x h hx=>by
  obtain⟨h',_⟩:=dY.mp hx;omega
def aqy(h:Rise t):fX t.place 0=0:=by
 obtain⟨hp,a,b⟩:=ah3 h 0;rcases xU (fX t.place 0) with h0 |h0
 ·exact h0
 ·have h1:0<t.place.size:=by omega
  exact absurd (a 0 t.place[0] h0 (by simp[h1])) (lG _)
def aqz{t:kJ}(h:Rise t){i x:Nat}(hx:t.place[i]? = ZY x):fX t.place (x+1)=i+1:=by
 obtain⟨hp,a,b⟩:=ah3 h (x+1);rcases tD (fX t.place (x+1)) (i+1) with h1 |h1 |h1
 ·have:=b i x (by omega) hx
  omega
 ·exact h1
 ·have h2:i+1<t.place.size:=by omega
  have h3:t.place[i+1]? = ZY t.place[i+1]:=by simp[h2]
  have:=a (i+1) _ h1 h3;have:=h.lt (lX i) hx h3;omega
def amw{t:kJ}(h:Rise t){j:Nat}(hj:t.place[fX t.place j]? ≠ ZY j):(SetTable.insertAt t.place (fX t.place j) j).toList.Pairwise (· < ·):=by
 obtain⟨hp,a,b⟩:=ah3 h j;rw[SetTable.toList_insertAt];generalize hq:fX t.place j=p at *;rw[List.pairwise_append];refine⟨List.Pairwise.sublist (yN _ _) h,?_,?_⟩
 ·rw[jN];refine⟨λy hy=>?_,qL (List.drop_sublist _ _) h⟩
  obtain⟨i,hi,rfl⟩:=gJ.mp hy;rw[iT,bU] at hi;rw[yP,rC];have h1:t.place[p+i]? = ZY t.place[p+i]:=by simp
  have h2:=b (p+i) _ (by omega) h1
  rcases Nat.eq_or_lt_of_le h2 with e |e
  ·exfalso;rcases xU i with z |z
   ·subst z;exact hj (by rw[e];exact h1)
   ·have h3:t.place[p]? = ZY t.place[p]:=by simp
    have h4:=h.lt (show p<p+i by omega) h3 h1
    have h5:=b p _ (aL _) h3;omega
  ·exact e
 ·intro x hx y hy;have hxj:x<j:=by
   obtain⟨i,hi,rfl⟩:=gJ.mp hx;rw[eQ,bU] at hi;rw[List.getElem_take,rC];exact a i _ (by omega) (by simp)
  rcases bA.mp hy with rfl |hy
  ·exact hxj
  ·obtain⟨i,hi,rfl⟩:=gJ.mp hy;rw[iT,bU] at hi;rw[yP,rC];have:=b (p+i) t.place[p+i] (by omega) (by simp)
   omega
def Away(t:kJ)(j:Nat):Prop:=t.place[fX t.place j]? ≠ ZY j
def akt(h:∀i,t.slot j≠.live i):Away t j:=λe=>h (fX t.place j) (by
 unfold SetTable.slot;dsimp only;rw[if_pos (by rw[e];exact beq_self_eq_true _)])
theorem afb:∀(fuel:Nat) (p:Ai) (j:Nat) (d:Option Nat),(∀x,p.dummy=ZY x->Away t x)->yG t f h fuel p=ZY (.empty j d)->Away t (d.getD j)
 | 0,p,j,d,_,e=>by cases e
 |fuel+1,p,j,d,hd,e=>by
  unfold yG at e;have adv:∀q:Ai,(t.advance q).dummy=q.dummy:=λq=>by unfold SetTable.advance;split <;> rfl
  split at e
  ·rename_i hs;cases e;cases hq:p.dummy with
   |none=>exact akt λi z=>by rw[tW,hs] at z;cases z
   |some x=>exact hd x hq
  ·rename_i hs;refine afb fuel _ j d (λx hx=>?_) e
   rw[adv] at hx;cases hx;exact akt λi z=>by rw[hs] at z;cases z
  ·split at e
   ·cases e
   ·exact afb fuel _ j d (λx hx=>by rw[adv] at hx;exact hd x hx) e
def aud(e:t.freeSlot h=ZY (j,b)):Away t j:=by
 unfold SetTable.freeSlot at e;split at e
 ·rename_i j' d hp;cases e;exact afb _ _ j' d (λx hx=>by cases hx) hp
 ·cases e
def ap5(n:Nat):(Array.range n).toList.Pairwise (· < ·):=by
 rw[Array.toList_range];exact wA
def Kept(b:Bool)(t:kJ):Prop:=Rise t/\t.led=b
def Kept.standIn(h:Kept b t)(n:Nat):Kept b (t.standIn n):=⟨ap5 n,h.2⟩
def anc(h:Kept b t)(es:Array (Int×Value))(k:Int)(x:aH):Kept b (layNew t es k x).2.1:=by
 unfold layNew;split
 ·rename_i slot wd e;dsimp only;have h':Kept b (t.put slot).1:=⟨amw h.1 (aud e),h.2⟩;unfold SetTable.orStandIn;split
  ·exact h'
  ·exact h'.standIn _
 ·exact h.standIn _
theorem atl(e:Aq m f mv b p hs=ZY (t,o)):Kept b t:=by
 unfold Aq at e;cases e1:SetTable.layClean m hs with
 |none=>rw[e1] at e;cases e
 |some ow=>
  rw[e1] at e;cases e;refine⟨?_,rfl⟩;show List.Pairwise _ _;dsimp only;have h0:((aD (m+1)).filterMap λj=>(ow.getD j ZX).map (j,·)).map (·.1)=(aD (m+1)).filter λj=>(ow.getD j ZX).isSome:=by
   generalize aD (m+1)=l
   induction l with
   |nil=>rfl
   |cons a r ih=>
    cases h:ow.getD a ZX with
    |none=>simp only[jF,zQ,h,Option.map_none,Option.isSome_none];simpa using ih
    |some z=>simp only[jF,zQ,h,Option.map_some,xT,bH];simpa using ih
  rw[h0];exact qL xF wA
def ap4(h:Kept b t)(es:Array (Int×Value))(n:Nat):Kept b (relayAll t es n).2.1:=by
 unfold relayAll;split
 ·rename_i t' o e;dsimp only;split
  ·have:=atl e;rw[h.2] at this;exact this
  ·exact h.standIn _
 ·exact h.standIn _
def aqp(b:Bool):Kept b (.fresh 0 0 b):=⟨List.Pairwise.nil,rfl⟩
open PySem.Spec PyProof.Rows
def keyE(e:Int×Value):Int:=match e.2 with
 |.int k _=>k
 |_=>0
def Ent(e:Int×Value):Prop:=∃k u,e=(rN k,qD k u)
structure SetG (w:dX) (es:Array (Int×Value)) (t:kJ) (ns:List Int):Prop where
 ent:∀e∈es.toList,Ent e
 nd:(es.toList.map keyE).Nodup
 mem:∀k,k∈es.toList.map keyE↔k∈ns
 fit:t.fits es.size=ZW
 kept:Kept (!w.params.followText "set-order") t
def setO(es:Array (Int×Value))(ep:Nat)(t:kJ):Obj:={ cls:=.type "set", dict:=ZX,data:=.set es ep t }
def SetG.elems(g:SetG w es t ns):ElemsOf (rM prog w) es.toList:=λe he=>by
 obtain⟨k,u,rfl⟩:=g.ent e he;exact⟨⟨k,intKind_is _ _ _ _,rfl⟩,rfl⟩
def SetG.empty(w:dX):SetG w #[] (.fresh 0 0 (!w.params.followText "set-order")) []:=⟨λe he=>by simp at he,tG,λk=>by simp,rfl,aqp _⟩
def aut(h:Ent e)(k:Int):wR k e.2=ZW↔keyE e=k:=by
 obtain⟨j,u,rfl⟩:=h;simp[wR,keyE]
def SetG.push(g:SetG w es t ns)(hn:k∉es.toList.map keyE)(hp:es'.toList.Perm (es.push (rN k,.int k u)).toList)(hf:t'.fits es'.size=ZW)
  (hk:Kept (!w.params.followText "set-order") t'):SetG w es' t' (ns++[k]):=by
 rw[zB] at hp;have hm:=hp.map keyE;rw[dU] at hm;refine⟨λe he=>?_,?_,λj=>?_,hf,hk⟩
 ·rcases dC.mp (hp.mem_iff.mp he) with h |h
  ·exact g.ent e h
  ·rw[dW] at h;exact⟨k,u,h⟩
 ·rw[hm.nodup_iff,yO];refine⟨g.nd,by simp,λa ha b hb e=>?_⟩
  simp only[bH,wH,dW] at hb;subst hb;subst e;exact hn ha
 ·rw[hm.mem_iff,dC,dC,g.mem j];rfl
def SetG.perm(g:SetG w es t ns)(hp:es'.toList.Perm es.toList)(hf:t'.fits es'.size=ZW)(hk:Kept (!w.params.followText "set-order") t'):SetG w es' t' ns :=
 ⟨λe he=>g.ent e (hp.mem_iff.mp he),(hp.map keyE).nodup_iff.mpr g.nd,λk=>by rw[(hp.map keyE).mem_iff,g.mem k],hf,hk⟩
section
variable{prog:cF}{w:dX}{A:dG}{E:aH->aN->Prop}{s:aN}
def aod{h:iK}{a:bB}{es es':Array (Int×Value)}{ep:Nat}{t t':kJ}(ho:h.get? a=ZY (setO es ep t)):(h.update a (yL es' t')).get? a=ZY (setO es' (ep+1) t'):=by
 have:=cC (yL es' t') ho (by rw[putSet_of es' t' (o:=setO es ep t) rfl];rfl)
 rw[putSet_of es' t' (o:=setO es ep t) rfl] at this;exact this
def azk{a:bB}{es es1:Array (Int×Value)}{ep:Nat}{t t2:kJ}{ns:List Int}(g:Bool->Sem Unit)(hg:∀(b:Bool) (s₁:aN) (Q':Unit->aN->Prop),Q' () s₁->bD 'F' A (g b) Q' E s₁)
  (ho:s.heap.get? a=ZY (setO es ep t)) (G:SetG w es1 t2 ns) (hb:es1.size<oX) {wasDummy:Bool} {R:Option Bool->aN->Prop}
  (h:∀h' es' ep' t',fL a s.heap h'->h'.get? a=ZY (setO es' ep' t')->SetG w es' t' ns->es'.size=es1.size->R (ZY ZW) { s with heap:=h' }) :
  bD 'F' A (do
    storeSet a es1 t2
    if (!wasDummy&&t2.tooFull)=ZW then do
      g (relayAll t2 es1 (oU es1.size)).2.2
      storeSet a (relayAll t2 es1 (oU es1.size)).1 (relayAll t2 es1 (oU es1.size)).2.1
      pure (ZY ZW)
     else pure (ZY ZW)) R E s:=by
 refine aA (wpAny_storeSet_of ho rfl ?_ (fits_of_scanBound hb));have h1:=aod (es':=es1) (t':=t2) ho;have b1:=cO s.heap a (yL es1 t2);split
 ·have hp:=relayAll_perm t2 es1 (oU es1.size);have hsz:(relayAll t2 es1 (oU es1.size)).1.size=es1.size:=by rw[<-bU,hp.length_eq,bU]
  refine aA (hg _ _ _ ?_);refine aA (wpAny_storeSet_of h1 rfl ?_ (fits_of_scanBound (by rw[hsz];exact hb)))
  exact aF (h _ _ _ _ (b1.trans (cO _ a _)) (aod h1) (G.perm hp (relayAll_fits _ _ _) (ap4 G.kept _ _)) hsz)
 ·exact aF (h _ _ _ _ b1 h1 G rfl)
theorem a7k(ho:s.heap.get? a=ZY (setO es ep t))(G:SetG w es t ns)(hb:es.size+1<oX)
  (h:∀h' es' ep' t' b,fL a s.heap h'->h'.get? a=ZY (setO es' ep' t')->SetG w es' t' (ns++[k])->es'.size<=es.size+1->Q b { s with heap:=h' }) :
  bD 'F' A (setAddHashed a (.int k u) (rN k)) Q E s:=by
 have hel:ElemsOf (rM prog w) es.toList:=G.elems;have hkey:(rM prog w).is k (.int k u)=ZW:=intKind_is _ _ _ _;unfold setAddHashed setAddHashedIn;refine dD (aA (wpAny_setState_of ho rfl G.fit ?_));dsimp only;rw[byScan_of (knd:=rM prog w) rfl (by omega) hel]
 simp only[↓reduceIte];unfold setAddByScan;refine aA ?_;refine aA (mR ?_);refine aA (wpAny_setScan_of (knd:=rM prog w) hkey ho rfl G.fit hel ?_);cases hr:rW (λe=>(rM prog w).is k e.2) es.toList with
 |some j=>
  dsimp only;obtain⟨hj,hpj,_⟩:=mL.mp hr;have hin:k∈es.toList.map keyE:=cJ.mpr ⟨_,gQ hj,(aut (G.ent _ (gQ hj)) k).mp hpj⟩;refine aF (aF ?_);refine h s.heap es ep t _ (yU a s.heap) ho ⟨G.ent,G.nd,λj'=>?_,G.fit,G.kept⟩ (by omega)
  rw[dC,dW,G.mem j'];exact⟨.inl,λz=>z.elim id λz=>z▸(G.mem k).mp hin⟩
 |none=>
  dsimp only;have hout:k∉es.toList.map keyE:=λz=>by
   obtain⟨e,he,hk⟩:=cJ.mp z;have h1:=vC.mp hr e he;have h2:(rM prog w).is k e.2=ZW:=(aut (G.ent e he) k).mpr hk;rw[h2] at h1;cases h1
  have hgw:∀(b:Bool) {s₁:aN} {Q':Unit->aN->Prop},Q' () s₁->bD 'F' A (match b with |true=>rule "set.scan.the-table-gave-way" |false=>pure ()) Q' E s₁ :=
   λb s₁ Q' hq=>by cases b <;> first |exact aF hq |exact mR hq
  have hperm:=layNew_perm t es (rN k) (.int k u);have hfits:=layNew_fits t es (rN k) (.int k u);have hkept:=anc G.kept es (rN k) (.int k u);show bD 'F' A _ _ _ _
  change bD 'F' A (match layNew t es (rN k) (.int k u) with | (es,t,wasDummy,gave)=>_) _ _ _
  generalize hL:layNew t es (rN k) (.int k u)=L at hperm hfits hkept ⊢
  obtain⟨es1,t1,wasDummy,gave⟩:=L;dsimp only at hperm hfits hkept ⊢
  have G1:=G.push hout hperm hfits hkept;have hsz1:es1.size=es.size+1:=by rw[<-bU,hperm.length_eq,bU,Array.size_push]
  refine aA (hgw _ ?_);split
  ·refine aA ?_;rw[hashByValue_scannable 8 rfl];refine aF ?_;refine azk _ ?_ ho (ns:=ns++[k]) ?_ (by omega) ?_
   ·intro b s₁ Q' hq;cases b <;> first |exact aF hq |exact mR hq
   ·exact G1
   ·intro h' es' ep' t' hsb ho' G' hz;exact aF (h h' es' ep' t' _ hsb ho' G' (by omega))
  ·refine aA (aF ?_);simp only[↓reduceIte];refine azk _ ?_ ho (ns:=ns++[k]) G1 (by omega) ?_
   ·intro b s₁ Q' hq;cases b <;> first |exact aF hq |exact mR hq
   ·intro h' es' ep' t' hsb ho' G' hz;exact aF (h h' es' ep' t' _ hsb ho' G' (by omega))
end
section
variable{prog:cF}{w:dX}{A:dG}{R:vI->aN->Prop}{I:bB}{fp wr:List bB}{G:Array GenState->Array GenState->Prop}{n:Nat}{P:Nat->aH->Prop}{St:Nat->aN->Prop}
theorem azq(W:WalksS prog w A.in1 I fp wr G n P St)(S:bB)(hSf:S∉fp)(val:Nat->Int)(hval:∀i v,P i v->∃t,v=.int (val i) t)(hb:n+1<oX) :
  ∀(k i:Nat) (s:aN) (es:Array (Int×Value)) (ep:Nat) (t:kJ),n-i=k->i<=n->St i s->s.heap.get? S=ZY (setO es ep t)->SetG w es t ((aD i).map val)->es.size<=i ->
   (∀s' es' ep' t',Moved (S::wr) G s s'->s'.heap.get? S=ZY (setO es' ep' t')->SetG w es' t' ((aD n).map val)->es'.size<=n->R (.ok (.ret .none)) s') ->
   mZ 'F' A (.builtin "set.update.loop" ⟨[.ref S,.ref I],[]⟩) R s:=by
 have hSw:S∉wr:=λh=>hSf (W.sub _ h)
 have hsub:∀b∈wr,b∈S::wr:=λb hb=>aR _ hb
 intro k
 induction k with
 |zero=>
  intro i s es ep t hk hi hst ho g hz hR;have hin:i=n:=by omega
  subst hin;refine jC vX ?_;rw[gM pN _];show bD _ A.in1 (nF (.ref I) >>= _) _ _ s;refine aA (W.done s _ _ hst λs' hm=>?_)
  show bD _ A.in1 (ret cQ) _ _ s';exact aF (hR s' es ep t (hm.mono hsub) (hm.heap S _ hSw ho) g hz)
 |succ k ih=>
  intro i s es ep t hk hi hst ho g hz hR;have hlt:i<n:=by omega
  refine jC vX ?_;rw[gM pN _];show bD _ A.in1 (nF (.ref I) >>= _) _ _ s;refine aA (W.item i s _ _ hlt hst λv s' hP hst' hm=>?_)
  obtain⟨u,rfl⟩:=hval i v hP;have ho':s'.heap.get? S=ZY (setO es ep t):=hm.heap S _ hSw ho;show bD _ A.in1 (mU [qD (val i) u] (setAdd S (.int (val i) u)) >>= _) _ _ s';refine aA (dD ?_);unfold setAdd;refine dD ?_;refine aA ((rM prog w).pyHash (k:=val i) (intKind_is _ _ _ _) ?_);refine a7k (s:={ s' with toks:=s'.toks+1 }) (u:=u) (k:=val i) ho' g (by omega) λh' es' ep' t' b hsb ho2 g2 hz2=>?_
  have g3:SetG w es' t' ((aD (i+1)).map val):=by
   rw[jE,dU];exact g2
  refine aF ⟨plainId_quiet pN _,ih (i+1) _ es' ep' t' (by omega) hlt (W.frame _ s' _ _ hst' (iC _) λb hb o e=>?_) ho2 g3 (by omega) λs'' es'' ep'' t'' hm'' ho'' g'' hz''=>?_⟩
  ·rw[hsb.2 b (λh:b=S=>hSf (by rw[<-h];exact hb))];exact e
  ·refine hR s'' es'' ep'' t'' (Moved.trans W.gtrans ((hm.mono hsub).then_heap (iC _) λb o hb e=>?_) hm'') ho'' g'' hz''
   rw[hsb.2 b (λh:b=S=>hb (by rw[h];exact aX))];exact e
end
def sub_tuple_set:isSubtype (.type "tuple") (.type "set")=pure ZV:=by rw[isSubtype_type];kernel_rfl
def sub_tuple_frozenset:isSubtype (.type "tuple") (.type "frozenset")=pure ZV:=by rw[isSubtype_type];kernel_rfl
section
variable{prog:cF}{w:dX}{A:dG}{E:aH->aN->Prop}{s:aN}
abbrev fresh0(w:dX):Obj:=setO #[] 0 (.fresh 0 0 (!w.params.followText "set-order"))
def a1d(a:aH)(h:Q₁ (.ref s.heap.objs.size) { s with heap:=s.heap.push (fresh0 w) }) :
  mZ 'F' A (.call (.builtin "set.__new__") ⟨[.type "set", a],[]⟩) (wants Q₁ E) s:=by
 refine codeAny_of_tree ?_;show bD _ A.in1 (do checkBuiltinCall "set.__new__" ⟨[.type "set", a],[]⟩;again (.builtin "set.__new__" ⟨[.type "set", a],[]⟩)) _ _ s
 refine aA (wpAny_of_eq (F.newCall_set_1 a) (aF ⟨plainId_quiet Ag _,jC F.entry_set_new ?_⟩));rw[gM Ag _];unfold kY.«set.__new__» Builtin.Frozenset.newClass;have hsub:=sub_set_self;obtain⟨hp,g,d,tk,os⟩:=s;dsimp only;wp_walk;refine wpAny_askSetting (aF ?_);dsimp only;simp only[newObj];refine aA (wpAny_alloc (aF ?_));exact aF h
set_option maxRecDepth 100000 in
set_option maxHeartbeats 3200000 in
theorem a3z(hh:A.handled=ZX)(hl:s.heap.IsTuple l items)(hi:nA items.toList ns)(hb:items.size+1<oX)
  (h:∀(h':iK) (tk:Nat) es ep t,h'.get? s.heap.objs.size=ZY (setO es ep t)->SetG w es t ns->es.size<=items.size->(∀b o,s.heap.get? b=ZY o->h'.get? b=ZY o)->Q (.ref s.heap.objs.size) { s with heap:=h',toks:=tk }) :
  bD 'F' A (call (.type "set") [.ref l]) Q E s:=by
 obtain⟨c,tl,hmro⟩:=mD.mro;have hmade:=mD.made;have hsub:=mD.sub;refine lZ (codeAny_of_tree ?_);show bD _ _ (callAny (.type "set") _) _ _ _;refine aF ⟨Code.quiet_builtin _ (by decide +kernel),jC F.entry_type_call ?_⟩
 rw[Around.under_plain (weight_type_call_type "set" [.ref l] []) rfl];have h1:=mD.notType;have h2:=mD.canCreate;have hct:=F.typeCall_set_1 (.ref l)
 repeat (any_goals (first |assumption |wp_step))
 refine lE (a1d (.ref l) (E:=E) (Q₁:=λobj s₁=>obj=.ref s.heap.objs.size/\s₁={ s with heap:=s.heap.push (fresh0 w) }) ⟨rfl,rfl⟩) λr s₁ hr=>?_
 cases r with
 |error e=>exact hr
 |ok fl=>
  cases fl with
  |ret obj=>
   obtain⟨rfl,rfl⟩:=hr;have hS:(s.heap.push (fresh0 w)).get? s.heap.objs.size=ZY (fresh0 w):=aM _ rfl;have hT:Shared.TypeIs { s with heap:=s.heap.push (fresh0 w) } (.ref s.heap.objs.size) "set" := ⟨_,hS,rfl⟩
   have hli:=mD.init.lookup;have hbi:=mD.init.bind (.ref s.heap.objs.size)
   repeat (any_goals (first |assumption |wp_step))
   refine lE (codeAny_call_builtin (R:=wants (λr s₂=>r=.none/\∃h' tk es ep t,s₂={ s with heap:=h',toks:=tk }/\h'.get? s.heap.objs.size=ZY (setO es ep t)/\SetG w es t ns/\es.size<=items.size /\
     (∀b o,s.heap.get? b=ZY o->h'.get? b=ZY o)) E) mD.init.plain F.entry_set_init (check_set_init_1 hT ?_)) λr₂ s₂ hr₂=>?_
   ·obtain⟨ol,hol,hcl,nl,hdl⟩:=hl;obtain⟨ocls,odict,odata,oslots⟩:=ol;simp only at hcl hdl;subst hcl;subst hdl;have hol':(s.heap.push (fresh0 w)).get? l=ZY { cls:=.type "tuple", dict:=odict,data:=.seq items nl,slots:=oslots }:=aB _ hol;have hsls:=sub_tuple_set;have hslf:=sub_tuple_frozenset;have hne:(lB "tuple" == lB "dict")=ZV:=by decide
    have hl1:(s.heap.push (fresh0 w)).IsTuple l items:=⟨_,hol',rfl,nl,rfl⟩;unfold kY.«set.__init__» noKeywords Builtin.Frozenset.updateFrom;generalize hPI:pyIter=PI;wp_walk;subst hPI;refine wpAny_pyIter_tuple hl1 ?_;refine aA (wpAny_runValue ?_);have hlS:l<s.heap.objs.size:=aO hol;have hh3:A.in1.in1.in1.handled=ZX:=by simp[hh]
    have hneI:l≠(s.heap.push (fresh0 w)).objs.size:=by
     rw[cG];exact bI (tE hlS)
    have hSf:s.heap.objs.size∉[(s.heap.push (fresh0 w)).objs.size,l]:=by
     rw[cG];simp only[bA,dW,jH,or_false,not_or];exact⟨Nat.ne_of_lt (lX _),gP hlS⟩
    have hval:∀(i:Nat) (v:aH),items[i]? = ZY v->∃t,v=.int ((λi=>ns.getD i 0) i) t:=λi v hv=>
     PyProof.Rows.IntsAre.int_at hi i v (by rw[qT];exact hv)
    have hlen:items.size=ns.length:=by rw[<-bU];exact hi.length
    have hns:(aD items.size).map (λi=>ns.getD i 0)=ns:=by
     rw[hlen];apply pQ
     ·simp
     ·intro i h1 h2;simp[aY,h2]
    refine azq ((Walks.tuple hh3 _ l hneI items).toS) s.heap.objs.size hSf (λi=>ns.getD i 0) hval hb (items.size-0) 0 _ #[] 0 _ (by omega) (iB _)
     ⟨⟨_,aM _ rfl,rfl,rfl⟩,(hl1.push _)⟩ (aB _ hS) (SetG.empty w) (iB _) ?hR
    case hR=>
     intro s' es ep t hm ho' g' hz';rw[hns] at g';obtain⟨h',g₀,d',tk',os'⟩:=s';have eg:g₀=s.gens:=hm.gens;have ed:d'=s.drawn:=hm.drawn;have eo:os'=s.os:=hm.os;subst eg;subst ed;subst eo;show bD _ _ _ _ _ _;refine aF ?_;show bD _ _ (ret cQ) _ _ _;refine aF ⟨rfl,h',tk',es,ep,t,rfl,ho',g',hz',λb o e=>?_⟩
     have hlt:=aO e;have hb1:b≠s.heap.objs.size:=bI hlt;have hb2:b≠(s.heap.push (fresh0 w)).objs.size:=by
      rw[cG];exact bI (tE hlt)
     exact hm.heap b o (by simp only[bA,dW,jH,or_false,not_or];exact⟨hb1,hb2⟩) (aB _ (aB _ e))
   ·cases r₂ with
    |error e=>exact hr₂
    |ok fl₂=>
     cases fl₂ with
     |ret r=>
      obtain⟨rfl,h',tk,es,ep,t,rfl,hS',g',hz',hk'⟩:=hr₂
      repeat (any_goals (first |assumption |wp_step))
      exact h _ _ _ _ _ hS' g' hz' hk'
     |_=>exact hr₂.elim
  |_=>exact hr.elim
end
def aie:entryFor table "set.__iter__"=ZY kY.«frozenset.__iter__» :=
 entryFor_alias (id' := "frozenset.__iter__") (by kernel_rfl) rfl (by decide +kernel) (by kernel_rfl)
def jr:Slot "set_iterator" "__next__" "set_iterator.__next__" :=
 .of (owner := "set_iterator") (n := "__next__") (by rw[typeLookup_type,builtinLookup_eq_fast];kernel_rfl) (by decide +kernel) (by decide +kernel) (by decide +kernel)
  (by first |exact .inl (by decide +kernel) |exact .inr (by decide +kernel)) (by rw[isSubtype_type];kernel_rfl)
def yw:entryFor table "set_iterator.__next__"=ZY kY.«set_iterator.__next__» := entryFor_of_tree (by kernel_rfl)
def afw:Slot "set_iterator" "__iter__" "set_iterator.__iter__" :=
 .of (owner := "set_iterator") (n := "__iter__") (by rw[typeLookup_type,builtinLookup_eq_fast];kernel_rfl) (by decide +kernel) (by decide +kernel) (by decide +kernel)
  (by first |exact .inl (by decide +kernel) |exact .inr (by decide +kernel)) (by rw[isSubtype_type];kernel_rfl)
def akc:entryFor table "set_iterator.__iter__"=ZY kY.«dict_keyiterator.__iter__» :=
 entryFor_alias (id' := "dict_keyiterator.__iter__") (by kernel_rfl) rfl (by decide +kernel) (by kernel_rfl)
def aoj:Manifest.owners.lookup (String.ofList ['r','o','t','a','r','e','t','i','_','t','e','s'].reverse)=ZY Manifest.sig_set_iterator:=by kernel_rfl
def aar(a:aH):uB "set_iterator.__next__" ⟨[a],[]⟩:=by
 unfold uB;rw[signature?_of (id := "set_iterator.__next__") (n:=['_','_','t','x','e','n','_','_']) (o:=['r','o','t','a','r','e','t','i','_','t','e','s']) (by kernel_rfl) aoj];kernel_rfl
def amf(a:aH):uB "set_iterator.__iter__" ⟨[a],[]⟩:=by
 unfold uB;rw[signature?_of (id := "set_iterator.__iter__") (n:=['_','_','r','e','t','i','_','_']) (o:=['r','o','t','a','r','e','t','i','_','t','e','s']) (by kernel_rfl) aoj];kernel_rfl
def IsSI(h:iK)(I S:bB)(first:aH)(i n ep:Nat):Prop:=∃o,h.get? I=ZY o/\o.cls=.type "set_iterator" /\ o.data=.fields #[first,.int i 0,.ref S,.int n 0,.int ep 0]
def IsSI.typeIs{s:aN}{I S:bB}{first:aH}{i n ep:Nat}(x:IsSI s.heap I S first i n ep):s.TypeIs (.ref I) "set_iterator" := let ⟨o,ho,hc,_⟩:=x;⟨o,ho,hc⟩
def IsSI.at(x:IsSI h I S first i n ep)(e:∀o,h.get? I=ZY o->h'.get? I=ZY o):IsSI h' I S first i n ep:=let ⟨o,ho,r⟩:=x;⟨o,e _ ho,r⟩
section
variable{prog:cF}{w:dX}{A:dG}{E:aH->aN->Prop}{s:aN}
def amo{I S:bB}{first:aH}{i n ep:Nat}{Q:aH->aN->Prop}(hit:IsSI s.heap I S first i n ep)(h:Q (.ref I) s):bD 'F' A (pyIter (.ref I)) Q E s:=by
 refine wpAny_pyIter_slot hit.typeIs afw (fO afw hit.typeIs akc ?_ (amf _));show bD _ _ (ret (.ref I)) _ _ s;exact aF ⟨_,rfl, "set_iterator", _,hit.typeIs,jr.lookup,h⟩
def ar4{I S:bB}{slot i:Nat}{es:Array (Int×Value)}{ep:Nat}{t:kJ}{Q:Option aH->aN->Prop}{x:aH}{slot':Nat}(hit:IsSI s.heap I S (.int slot 0) i es.size ep)(ho:s.heap.get? S=ZY (setO es ep t))(hf:t.fits es.size=ZW)
  (hn:∀(A':dG) (Q':Option (aH×Nat)->aN->Prop) (E':aH->aN->Prop),Q' (ZY (x,slot')) s->bD 'F' A' (sS S slot i ep) Q' E' s)
  (hQ:∀h',IsSI h' I S (.int slot' 0) (i+1) es.size ep->fL I s.heap h'->Q (ZY x) { s with heap:=h' }) :
  bD 'F' A (nF (.ref I)) Q E s:=by
 obtain⟨o,hI,hc,hd⟩:=id hit;unfold nF;refine aA (wpAny_attempt (dZ (name:=fV "__next__") hit.typeIs jr
  (fO jr hit.typeIs yw ?_ (aar _))))
 refine aA (aF ?_);refine aA (wpAny_fieldsOf hI hd ?_);dsimp only;refine aA (wpAny_setEntries_of ho rfl hf ?_);rw[if_neg (by simp)]
 simp only[cN];refine aA (hn _ _ _ ?_);dsimp only;refine aA (fM hI hd (by simp) ?_)
 have h1:=cC (lL (·.setIfInBounds 0 (iZ (slot':Int)))) hI (fD (bW hd _));refine aA (fM h1 (bW hd _) (by simp) ?_)
 refine aF ⟨_,rfl,aF (hQ _ ?_ ((cO ..).trans (cO ..)))⟩;exact⟨_,cC _ h1 (fD (bW (bW hd _) _)),(lM ..).trans ((lM ..).trans hc),by
  rw[bW (bW hd _)];simp[iZ]⟩
def ayl{I S:bB}{slot i:Nat}{es:Array (Int×Value)}{ep:Nat}{t:kJ}{Q:Option aH->aN->Prop}(hh:A.handled=ZX)(hit:IsSI s.heap I S (.int slot 0) i es.size ep)(ho:s.heap.get? S=ZY (setO es ep t))(hf:t.fits es.size=ZW)
  (hn:∀(A':dG) (Q':Option (aH×Nat)->aN->Prop) (E':aH->aN->Prop),Q' ZX s->bD 'F' A' (sS S slot i ep) Q' E' s)
  (hQ:∀h',xJ I s.heap h'->Q ZX { s with heap:=h' }):bD 'F' A (nF (.ref I)) Q E s:=by
 obtain⟨o,hI,hc,hd⟩:=id hit;unfold nF;refine aA (wpAny_attempt (dZ (name:=fV "__next__") hit.typeIs jr
  (fO jr hit.typeIs yw ?_ (aar _))))
 refine aA (aF ?_);refine aA (wpAny_fieldsOf hI hd ?_);dsimp only;refine aA (wpAny_setEntries_of ho rfl hf ?_);rw[if_neg (by simp)]
 simp only[cN];refine aA (hn _ _ _ ?_);dsimp only;refine aA (fM hI hd (by simp) ?_)
 show bD _ _ (newExc (.type "StopIteration") [] >>= _) _ _ _;refine aA ?_;simp only[newExc,newTuple];refine aA (cA ?_ (by size_fits))
 refine aA (m:=firstArgMember _ _) (wpAny_of_eq (a:=cQ) (by first |rfl | (simp only[firstArgMember];rfl)) ?_)
 refine cA ?_ (by size_fits)
 simp only[raiseNew];refine aA (wpAny_handled ?_);rw[show A.in1.handled=ZX from hh]
 refine aA (aF (wpAny_throw ?_));refine aA (wpAny_isInstance (T := "StopIteration") (b:=ZW) ⟨_,aM _ rfl,rfl⟩ isSubtype_stop ?_);exact aF (hQ _ (((cO ..).extBut.push _).push _))
def awh{I S q:bB}{i j m:Nat}{es:Array (Int×Value)}{ep:Nat}{t:kJ}{Q:Option aH->aN->Prop}{x:Int×Value}{ps:Array aH}(hit:IsSI s.heap I S (.ref q) i es.size ep)(ho:s.heap.get? S=ZY (setO es ep t))(hf:t.fits es.size=ZW)
  (hq:∃oq,s.heap.get? q=ZY oq/\oq.data=.seq ps m) (hp:ps[i]? = ZY (.int (j:Nat) 0)) (hx:es[j]? = ZY x)
  (hQ:∀h',IsSI h' I S (.ref q) (i+1) es.size ep->fL I s.heap h'->Q (ZY x.2) { s with heap:=h' }) :
  bD 'F' A (nF (.ref I)) Q E s:=by
 obtain⟨o,hI,hc,hd⟩:=id hit;obtain⟨oq,hoq,hdq⟩:=hq;unfold nF;refine aA (wpAny_attempt (dZ (name:=fV "__next__") hit.typeIs jr
  (fO jr hit.typeIs yw ?_ (aar _))))
 refine aA (aF ?_);refine aA (wpAny_fieldsOf hI hd ?_);dsimp only;refine aA (wpAny_setEntries_of ho rfl hf ?_);rw[if_neg (by simp)]
 refine aA (gG hoq hdq ?_);dsimp only;simp only[cN,hp];unfold setNextDrawn;refine aA (aA (wpAny_setState_of ho rfl hf ?_));dsimp only;rw[if_neg (by simp)]
 rw[hx];refine aF ?_;refine aA (fM hI hd (by simp) ?_)
 refine aF ⟨_,rfl,aF (hQ _ ?_ (cO ..))⟩;exact⟨_,cC _ hI (fD (bW hd _)),(lM ..).trans hc,by
  rw[bW hd];simp[iZ]⟩
def akv{I S q:bB}{i m:Nat}{es:Array (Int×Value)}{ep:Nat}{t:kJ}{Q:Option aH->aN->Prop}{ps:Array aH}(hh:A.handled=ZX)(hit:IsSI s.heap I S (.ref q) i es.size ep)(ho:s.heap.get? S=ZY (setO es ep t))(hf:t.fits es.size=ZW)
  (hq:∃oq,s.heap.get? q=ZY oq/\oq.data=.seq ps m) (hp:ps[i]? = ZX)
  (hQ:∀h',xJ I s.heap h'->Q ZX { s with heap:=h' }):bD 'F' A (nF (.ref I)) Q E s:=by
 obtain⟨o,hI,hc,hd⟩:=id hit;obtain⟨oq,hoq,hdq⟩:=hq;unfold nF;refine aA (wpAny_attempt (dZ (name:=fV "__next__") hit.typeIs jr
  (fO jr hit.typeIs yw ?_ (aar _))))
 refine aA (aF ?_);refine aA (wpAny_fieldsOf hI hd ?_);dsimp only;refine aA (wpAny_setEntries_of ho rfl hf ?_);rw[if_neg (by simp)]
 refine aA (gG hoq hdq ?_);dsimp only;simp only[cN,hp];refine aA (fM hI hd (by simp) ?_)
 have h1:=cC (lL (·.setIfInBounds 0 (iZ 0))) hI (fD (bW hd _));refine aA (fM h1 (bW hd _) (by simp) ?_)
 show bD _ _ (newExc (.type "StopIteration") [] >>= _) _ _ _;refine aA ?_;simp only[newExc,newTuple];refine aA (cA ?_ (by size_fits))
 refine aA (m:=firstArgMember _ _) (wpAny_of_eq (a:=cQ) (by first |rfl | (simp only[firstArgMember];rfl)) ?_)
 refine cA ?_ (by size_fits)
 simp only[raiseNew];refine aA (wpAny_handled ?_);rw[show A.in1.handled=ZX from hh]
 refine aA (aF (wpAny_throw ?_));refine aA (wpAny_isInstance (T := "StopIteration") (b:=ZW) ⟨_,aM _ rfl,rfl⟩ isSubtype_stop ?_);exact aF (hQ _ ((((cO ..).trans (cO ..)).extBut.push _).push _))
end
section
variable{prog:cF}{w:dX}{A:dG}{E:aH->aN->Prop}{s:aN}
def ah1(h:Q (w.params.followText "set-order") s):bD 'F' A setsByText Q E s:=by
 unfold setsByText;exact aA (wpAny_askSetting (aF h))
def aqg(ho:s.heap.get? S=ZY (setO es ep t))(hf:t.fits es.size=ZW)
  (hw:w.params.followText "set-order"=ZV) (hd:(!t.plain&&decide (es.size > 1))=ZV) (hl:t.led=ZW) (hb:fX t.place slot=i) (he:es[i]? = ZY e) (hp:t.place[i]? = ZY j)
  (h:Q (ZY (e.2,j+1)) s):bD 'F' A (sS S slot g ep) Q E s:=by
 unfold sS;refine aA (wpAny_setState_of ho rfl hf ?_);dsimp only;refine aA (ah1 ?_);rw[hw,if_neg (by simp)]
 show bD _ _ (if (!t.plain&&decide (es.size > 1))=ZW then _ else _) _ _ _
 rw[hd,if_neg (by simp)]
 refine aA (m:=if (!t.led && !es.isEmpty)=ZW then _ else _) ?_
 rw[hl,if_neg (by simp)]
 refine aF ?_;rw[hb,he,hp];exact aF h
def as6(ho:s.heap.get? S=ZY (setO es ep t))(hf:t.fits es.size=ZW)
  (hw:w.params.followText "set-order"=ZV) (hd:(!t.plain&&decide (es.size > 1))=ZV) (hl:t.led=ZW) (hb:fX t.place slot=i) (he:es[i]? = ZX)
  (h:Q ZX s):bD 'F' A (sS S slot g ep) Q E s:=by
 unfold sS;refine aA (wpAny_setState_of ho rfl hf ?_);dsimp only;refine aA (ah1 ?_);rw[hw,if_neg (by simp)]
 show bD _ _ (if (!t.plain&&decide (es.size > 1))=ZW then _ else _) _ _ _
 rw[hd,if_neg (by simp)]
 refine aA (m:=if (!t.led && !es.isEmpty)=ZW then _ else _) ?_
 rw[hl,if_neg (by simp)]
 refine aF ?_;rw[hb,he];exact aF h
def alb(ho:s.heap.get? S=ZY (setO es ep t))(hf:t.fits es.size=ZW)
  (hw:w.params.followText "set-order"=ZW) (h:Q (((mG (w.params.setOrder S ep) es)[g]?).map λe=>(e.2,slot)) s):bD 'F' A (sS S slot g ep) Q E s:=by
 unfold sS;refine aA (wpAny_setState_of ho rfl hf ?_);dsimp only;refine aA (ah1 ?_);rw[hw,if_pos rfl,if_neg (by simp)]
 unfold setWalk;refine aA (aA (wpAny_setState_of ho rfl hf ?_));dsimp only;refine aA (ah1 ?_);rw[hw,if_pos rfl];exact aA (wpAny_askSetting (aF (aF h)))
theorem afn:∀(l:List α) (i:Nat) (x:α),l[i]? = ZY x->(x::l.eraseIdx i).Perm l
 | [],i,x,h=>by simp at h
 |a::r,0,x,h=>by simp at h;subst h;exact .refl _
 |a::r,i+1,x,h=>by
  rw[List.getElem?_cons_succ] at h;exact(List.Perm.swap a x _).trans ((afn r i x h).cons a)
theorem asn(next:Nat->Nat):∀(fuel k:Nat) (left:List α) (out:Array α),left.length=fuel->(mG.go next fuel k left out).toList.Perm (out.toList++left)
 | 0,k,left,out,h=>by
  have:left=[]:=pJ.mp h;subst this;show out.toList.Perm _;simp
 |fuel+1,k,left,out,h=>by
  have hlt:next k % left.length<left.length:=yM _ (by omega)
  unfold mG.go;have hx:left[next k % left.length]? = ZY left[next k % left.length]:=aG hlt;rw[hx];dsimp only;have hlen:(left.eraseIdx (next k % left.length)).length=fuel:=by rw[uQ hlt];omega
  refine(asn next fuel (k+1) _ _ hlen).trans ?_;rw[zB,cZ];exact List.Perm.append_left _ (afn _ _ _ hx)
def ag4(next:Nat->Nat)(xs:Array α):(mG next xs).toList.Perm xs.toList:=by
 have:=asn next xs.size 0 xs.toList #[] (by simp)
 simpa[mG] using this
theorem ai1:∀(n:Nat) {α:Type} (xs:List α) (s:aN) (Q:List α->aN->Prop),xs.length=n->(∀ys d,ys.Perm xs->Q ys { s with drawn:=d })->bD 'F' A (drawOrder n xs) Q E s
 | 0,α,xs,s,Q,h,q=>by
  have:xs=[]:=pJ.mp h;subst this;exact aF (q [] s.drawn (.refl _))
 |n+1,α,[],s,Q,h,q=>by cases h
 |n+1,α,x::r,s,Q,h,q=>by
  unfold drawOrder;intro Γ p hΓ;show(x::r).length≠0/\_;refine⟨by simp,?_⟩
  revert Γ p hΓ
  show bD _ _ (match (x::r)['F'.w.draws .order (s.drawn.get .order) % (x::r).length]? with |some y=>_ |none=>_) _ _ _
  have hlt:(bT prog w).w.draws .order (s.drawn.get .order) % (x::r).length<(x::r).length:=yM _ (by simp)
  have hx:=aG hlt;rw[hx];refine aA (ai1 n _ _ _ (by rw[uQ hlt];simpa using h) λys d hp=>?_)
  exact aF (q _ _ ((hp.cons _).trans (afn _ _ _ hx)))
end
def PW(ord:Array (Int×Value))(i:Nat)(v:aH):Prop:=∃e,ord[i]? = ZY e/\v=e.2
def amr(hne:S≠I)(ho:h.get? S=ZY o)(hs:fL I h h'):h'.get? S=ZY o:=(hs.2 S hne).trans ho
def auj{t:kJ}{n:Nat}(h:t.fits n=ZW):t.place.size=n:=by
 unfold SetTable.fits at h;rw[bC] at h;exact eq_of_beq h.1
section
variable{prog:cF}{w:dX}{A:dG}
def av6(hh:A.handled=ZX)(I S:bB)(hne:S≠I)(hf:t.fits es.size=ZW)(hw:w.params.followText "set-order"=ZW) :
  Walks prog w A I [I,S] [I] es.size (PW (mG (w.params.setOrder S ep) es)) (λi h=>IsSI h I S (.int (0:Nat) 0) i es.size ep/\h.get? S=ZY (setO es ep t)) where
 sub:=λb hb=>by simp at hb;simp[hb]
 frame:=λ_ _ _ st hk=>⟨st.1.at λo e=>hk I (by simp) o e,hk S (by simp) _ st.2⟩
 item:=λi s Q E hi st hQ=>by
  have hsz:(mG (w.params.setOrder S ep) es).size=es.size:=by rw[<-bU,(ag4 _ _).length_eq,bU]
  have hx:(mG (w.params.setOrder S ep) es)[i]? = ZY (mG (w.params.setOrder S ep) es)[i]:=by simp[hsz,hi]
  refine ar4 (x:=((mG (w.params.setOrder S ep) es)[i]).2) (slot':=0) st.1 st.2 hf (λA' Q' E' q=>alb st.2 hf hw (by rw[hx];exact q)) λh' hit' hs'=>?_
  exact hQ _ h' s.toks ⟨_,hx,rfl⟩ ⟨hit',amr hne st.2 hs'⟩ λb o hb e=>hs'.extBut b o (λh=>hb (by simp[h])) e
 done:=λs Q E st hQ=>by
  have hsz:(mG (w.params.setOrder S ep) es).size=es.size:=by rw[<-bU,(ag4 _ _).length_eq,bU]
  refine ayl hh st.1 st.2 hf (λA' Q' E' q=>alb st.2 hf hw (by rw[wB (by omega)];exact q)) λh' he'=>hQ h' s.toks λb o hb e=>he' b o (λh=>hb (by simp[h])) e
 self:=λ_ _ _ _ st hQ=>amo st.1 hQ
def ard(hh:A.handled=ZX)(I S:bB)(hne:S≠I){es:Array (Int×Value)}{ep:Nat}{t:kJ}(hf:t.fits es.size=ZW)(hw:w.params.followText "set-order"=ZV)(hr:Rise t)(hd:(!t.plain&&decide (es.size > 1))=ZV)(hl:t.led=ZW) :
  Walks prog w A I [I,S] [I] es.size (PW es) (λi h=>(∃slot:Nat,fX t.place slot=i/\IsSI h I S (.int slot 0) i es.size ep)/\h.get? S=ZY (setO es ep t)) where
 sub:=λb hb=>by simp at hb;simp[hb]
 frame:=λ_ _ _ ⟨⟨slot,hb,st⟩,ho⟩ hk=>⟨⟨slot,hb,st.at λo e=>hk I (by simp) o e⟩,hk S (by simp) _ ho⟩
 item:=λi s Q E hi ⟨⟨slot,hb,st⟩,ho⟩ hQ=>by
  have hx:es[i]? = ZY es[i]:=by simp[hi]
  have hps:=auj hf;have hp:t.place[i]? = ZY (t.place[i]):=by simp[hps,hi]
  refine ar4 (x:=(es[i]).2) (slot':=t.place[i]+1) st ho hf (λA' Q' E' q=>aqg ho hf hw hd hl hb hx hp q) λh' hit' hs'=>?_
  exact hQ _ h' s.toks ⟨_,hx,rfl⟩ ⟨⟨_,aqz hr hp,hit'⟩,amr hne ho hs'⟩ λb o hb e=>hs'.extBut b o (λh=>hb (by simp[h])) e
 done:=λs Q E ⟨⟨slot,hb,st⟩,ho⟩ hQ=>by
  refine ayl hh st ho hf (λA' Q' E' q=>as6 ho hf hw hd hl hb (wB (aL _)) q) λh' he'=>hQ h' s.toks λb o hb e=>he' b o (λh=>hb (by simp[h])) e
 self:=λ_ _ _ _ ⟨⟨slot,hb,st⟩,ho⟩ hQ=>amo st hQ
def arf(hh:A.handled=ZX)(I S q:bB)(hne:S≠I)(hq:q≠I)(hf:t.fits es.size=ZW)(js:List Nat)(hj:js.Perm (aD es.size)) :
  Walks prog w A I [I,S,q] [I] es.size (PW (js.map λj=>es.getD j (0,.none)).toArray) (λi h=>IsSI h I S (.ref q) i es.size ep/\h.get? S=ZY (setO es ep t)/\∃oq m,h.get? q=ZY oq/\oq.data=.seq (js.map λ(j:Nat)=>iZ j).toArray m) where
 sub:=λb hb=>by simp at hb;simp[hb]
 frame:=λ_ _ _ ⟨st,ho,oq,m,h1,h2⟩ hk=>⟨st.at λo e=>hk I (by simp) o e,hk S (by simp) _ ho,oq,m,hk q (by simp) _ h1,h2⟩
 item:=λi s Q E hi ⟨st,ho,oq,m,h1,h2⟩ hQ=>by
  have hlen:js.length=es.size:=by rw[hj.length_eq,fU]
  have hjlt:js[i]<es.size:=fY.mp (hj.mem_iff.mp (gQ (by omega)))
  have hx:es[js[i]]? = ZY es[js[i]]:=by simp[hjlt]
  refine awh (j:=js[i]) (x:=es[js[i]]) st ho hf ⟨oq,h1,h2⟩ (by simp[hlen,hi,iZ]) hx λh' hit' hs'=>?_
  refine hQ _ h' s.toks ⟨es[js[i]],?_,rfl⟩ ⟨hit',amr hne ho hs',oq,m,(hs'.2 q hq).trans h1,h2⟩ λb o hb e=>hs'.extBut b o (λh=>hb (by simp[h])) e
  simp[hlen,hi,zE,hjlt]
 done:=λs Q E ⟨st,ho,oq,m,h1,h2⟩ hQ=>by
  have hlen:js.length=es.size:=by rw[hj.length_eq,fU]
  refine akv hh st ho hf ⟨oq,h1,h2⟩ (by simp[hlen]) λh' he'=>hQ h' s.toks λb o hb e=>he' b o (λh=>hb (by simp[h])) e
 self:=λ_ _ _ _ st hQ=>amo st.1 hQ
variable{E:aH->aN->Prop}{s:aN}
def ar6(ho:s.heap.get? S=ZY (setO es ep t))(hf:t.fits es.size=ZW)(h:Q (!w.params.followText "set-order" && (!t.plain&&decide (es.size > 1))) s) :
  bD 'F' A (setDrawn S) Q E s:=by
 unfold setDrawn;refine aA (wpAny_setState_of ho rfl hf ?_);dsimp only;refine aA (ah1 ?_);exact aF h
theorem awj(ho:s.heap.get? S=ZY (setO es ep t))(G:SetG w es t ns)(hb:es.size<oX)
  (h:∀(I:bB) (fp:List bB) (St:Nat->iK->Prop) (ord:Array (Int×Value)) (s':aN),(∀A':dG,A'.handled=ZX->Walks prog w A' I fp [I] es.size (PW ord) St)->St 0 s'.heap->ord.toList.Perm es.toList ->
   s.heap.objs.size<=I->(∀b∈fp,b=S∨s.heap.objs.size<=b)->(∀b o,s.heap.get? b=ZY o->s'.heap.get? b=ZY o)->s'.gens=s.gens->s'.os=s.os->s'.toks=s.toks->Q (.ref I) s') :
  bD 'F' A (pyIter (.ref S)) Q E s:=by
 have hT:s.TypeIs (.ref S) "set" := ⟨_,ho,rfl⟩;have hSlt:S<s.heap.objs.size:=aO ho;refine wpAny_pyIter_slot hT Af (fO Af hT aie ?_ (F.args_set_iter_1 _));show bD _ _ (pure S >>= _) _ _ s;refine aA (aF ?_);unfold Builtin.Frozenset.sizeOf;refine aA (aA (wpAny_setEntries_of ho rfl G.fit (aF ?_)));refine aA (ar6 ho G.fit ?_);cases hw:w.params.followText "set-order" with
 |true=>
  rw[Bool.not_true,rK,if_neg (by simp)]
  refine aA (aF ?_);refine aA (wpAny_setEpoch_of ho rfl G.fit ?_);refine aA (cA (aF ⟨_,rfl, "set_iterator", _,⟨_,aM _ rfl,rfl⟩,jr.lookup,?_⟩));refine h s.heap.objs.size [s.heap.objs.size,S] _ _ _ (λA' hh=>av6 hh _ S (bI hSlt) G.fit hw) ⟨⟨_,aM _ rfl,rfl,rfl⟩,aB _ ho⟩ (ag4 _ _) (aL _) (λb hb=>?_) (λb o e=>aB _ e) rfl rfl rfl
  simp only[bA,jH,or_false] at hb;rcases hb with rfl |rfl
  ·exact .inr (aL _)
  ·exact .inl rfl
 |false=>
  have hl:t.led=ZW:=by
   have:=G.kept.2;rw[hw] at this;exact this
  cases hd:(!t.plain&&decide (es.size > 1)) with
  |false=>
   rw[vH,if_neg (by simp)]
   refine aA (aF ?_);refine aA (wpAny_setEpoch_of ho rfl G.fit ?_);refine aA (cA (aF ⟨_,rfl, "set_iterator", _,⟨_,aM _ rfl,rfl⟩,jr.lookup,?_⟩));refine h s.heap.objs.size [s.heap.objs.size,S] _ _ _ (λA' hh=>ard hh _ S (bI hSlt) G.fit hw G.kept.1 hd hl) ⟨⟨0,aqy G.kept.1,_,aM _ rfl,rfl,rfl⟩,aB _ ho⟩ (.refl _) (aL _) (λb hb=>?_) (λb o e=>aB _ e) rfl rfl rfl
   simp only[bA,jH,or_false] at hb;rcases hb with rfl |rfl
   ·exact .inr (aL _)
   ·exact .inl rfl
  |true=>
   rw[Bool.not_false,sO,if_pos rfl];refine aA (ai1 _ (aD es.size) _ _ fU λjs d hj=>?_)
   have hlen:js.length=es.size:=by rw[hj.length_eq,fU]
   simp only[newTuple];refine aA (cA ?_ (by show(js.map λ(i:Nat)=>iZ i).toArray.size<=cU;rw[aP,aU,hlen];exact fits_of_scanBound hb))
   refine aA (wpAny_setEpoch_of (aB _ ho) rfl G.fit ?_);refine aA (cA (aF ⟨_,rfl, "set_iterator", _,⟨_,aM _ rfl,rfl⟩,jr.lookup,?_⟩));have hq:∀o:Obj,s.heap.objs.size≠(s.heap.push o).objs.size:=λo=>by rw[cG];exact bI (lX _)
   have hS2:∀o:Obj,S≠(s.heap.push o).objs.size:=λo=>by rw[cG];exact bI (tE hSlt)
   refine h _ _ _ _ _ (λA' hh=>arf hh _ S s.heap.objs.size (hS2 _) (hq _) G.fit js hj) ⟨⟨_,aM _ rfl,rfl,rfl⟩,aB _ (aB _ ho),_,_,aB _ (aM _ rfl),rfl⟩ ?_ ?_ (λb hb=>?_) (λb o e=>aB _ (aB _ e)) rfl rfl rfl
   ·refine(hj.map _).trans ?_;have e:(aD es.size).map (λj=>es.getD j (0,cQ))=es.toList:=by
     apply pQ
     ·simp
     ·intro i h1 h2;have h3:i<es.size:=by simpa using h2
      simp[zE,h3]
    rw[e]
   ·rw[cG];exact iC _
   ·simp only[bA,jH,or_false] at hb;rcases hb with rfl |rfl |rfl
    ·right;rw[cG];exact iC _
    ·exact .inl rfl
    ·exact .inr (aL _)
end
def ah5:typeLookup (.type "set") "__len__"=pure (ZY (.builtin "set.__len__")):=by rw[typeLookup_type,builtinLookup_eq_fast];kernel_rfl
theorem af4:∀{es:List (Int×Value)},(∀e∈es,Ent e)->nA (es.map (·.2)) (es.map keyE)
 | [],_=>.nil
 |e::r,h=>by
  obtain⟨k,u,he⟩:=h e (aX ..);subst he;exact .cons k u (af4 λe he=>h e (aR _ he))
def atq(h:ItemsOf (PW ord) acc n)(hn:ord.size=n):acc.toList=ord.toList.map (·.2):=by
 apply pQ
 ·rw[aU,bU,bU,h.1,hn]
 ·intro i h1 h2;obtain⟨e,he,hv⟩:=h.2 i acc.toList[i] (by rw[<-qT];exact aG h1)
  rw[hv,zP];rw[<-qT] at he;have h3:i<ord.toList.length:=by simpa using h2
  rw[aG h3] at he;cases he;rfl
def arw(ho:h.get? a=ZY (rE "list" xs n))(vs:List aH)(out:Array aH):∃m,(sortedHeap h a vs out).get? a=ZY (rE "list" out m) :=
 ⟨_,get?_update_seq (aB _ (aB _ (get?_update_seq ho (λ_ => #[])))) (λ_=>out)⟩
def ap3(e:h.get? b=ZY o)(hb:b≠a):(sortedHeap h a vs out).get? b=ZY o :=
 (bM _ _ (gY hb)).trans (aB _ (aB _ ((bM _ _ (gY hb)).trans e)))
section
variable{prog:cF}{w:dX}{A:dG}{E:aH->aN->Prop}{s:aN}
def an1(hh:A.handled=ZX)(ho:s.heap.get? S=ZY (setO es ep t))(G:SetG w es t ns)(hb:es.size<oX)
  (hQ:∀(s':aN) (acc:List aH) (ks:List Int),s.heap.objs.size<s'.heap.objs.size->(∀b o,s.heap.get? b=ZY o->s'.heap.get? b=ZY o)->s'.gens=s.gens->s'.os=s.os->nA acc ks->ks.Perm (es.toList.map keyE)->Q acc s') :
  bD 'F' A (collect (.ref S)) Q E s:=by
 have hSlt:S<s.heap.objs.size:=aO ho;unfold collect;refine aA (wpAny_runValue (jC F.entry_proto_collect ?_));rw[gM F.plain_proto_collect _];show bD _ A.in1 (newList [] >>= λl=>again (.builtin "list.__iadd__" ⟨[l,.ref S],[]⟩)) _ _ s
 refine aA (cA ?_);refine aF ⟨plainId_quiet yX _,jC F.entry_list_iadd ?_⟩;rw[gM yX _];have ho1:(s.heap.push { cls:=.type "list", data:=.seq ([]:List aH).toArray }).get? S=ZY (setO es ep t):=aB _ ho;have hL:(s.heap.push { cls:=.type "list", data:=.seq ([]:List aH).toArray }).get? s.heap.objs.size=ZY { cls:=.type "list", data:=.seq ([]:List aH).toArray }:=aM _ rfl;have hold:∀b o,s.heap.get? b=ZY o->(s.heap.push { cls:=.type "list", data:=.seq ([]:List aH).toArray }).get? b=ZY o:=λb o e=>aB _ e
 have hsz1:(s.heap.push { cls:=.type "list", data:=.seq ([]:List aH).toArray }).objs.size=s.heap.objs.size+1:=cG _ _;show bD _ A.in1 (uN (.ref s.heap.objs.size) (.ref S) (.ref s.heap.objs.size)) _ _ { s with heap:=s.heap.push { cls:=.type "list", data:=.seq ([]:List aH).toArray } }
 generalize s.heap.push { cls:=.type "list", data:=.seq ([]:List aH).toArray }=H1 at ho1 hL hold hsz1 ⊢
 unfold uN;refine aA (wpAny_typeOf (T := "set") ⟨_,ho1,rfl⟩ ?_);have h1:vL (.ref s.heap.objs.size) (.ref S)=ZV:=by simp[vL,gP hSlt]
 have h2:(lB "set" == lB "list")=ZV:=by decide
 have h3:(lB "set" == lB "tuple")=ZV:=by decide
 simp only[h1,h2,h3,Ay,iR,if_false];refine aA (awj (s:={ s with heap:=H1 }) ho1 G hb λI fp St ord s2 W hst hord hI hfp hk2 hg2 ho2 ht2=>?_)
 have hSs:s2.heap.get? S=ZY (setO es ep t):=hk2 _ _ ho1;have hLs:s2.heap.get? s.heap.objs.size=ZY { cls:=.type "list", data:=.seq ([]:List aH).toArray }:=hk2 _ _ hL;refine aA (dD ?_);unfold Builtin.List.listLengthHint;refine aA (wpAny_specialOf (T := "set") ⟨_,hSs,rfl⟩ ah5 ?_);generalize hid:("set.__len__" : String)=id0
 wp_delta
 rw[show splitId id0=ZY ("set","__len__") from by subst hid;decide +kernel]
 subst hid;refine aA (wpAny_isInstance (T := "set") (b:=ZW) ⟨_,hSs,rfl⟩ (by rw[isSubtype_type];kernel_rfl) ?_)
 show bD _ A.in1 (typeOf (cY S) >>= _) _ _ _;refine aA (wpAny_typeOf (T := "set") ⟨_,hSs,rfl⟩ ?_);refine aF ?_;rw[if_pos (by decide)]
 refine aA (mR ?_);refine aA ?_;show bD _ A.in1 (updateSeq s.heap.objs.size (·.push .none) >>= λ_=>updateSeq s.heap.objs.size (·.pop)) _ _ _
 refine aA (wpAny_updateSeq hLs rfl ?_);have hS₂:=cC (iM (·.push cQ)) hLs rfl;refine wpAny_updateSeq hS₂ rfl ?_;have hS₃:=cC (iM (·.pop)) hS₂ rfl;have oth:∀b o,b≠s.heap.objs.size->s2.heap.get? b=ZY o ->
   ((s2.heap.update s.heap.objs.size (iM (·.push cQ))).update s.heap.objs.size (iM (·.pop))).get? b=ZY o :=
  λb o hb e=>(bM _ _ (gY hb)).trans ((bM _ _ (gY hb)).trans e)
 have hSf:s.heap.objs.size∉fp:=λhm=>by
  rcases hfp _ hm with e |e
  ·exact gP hSlt e
  ·have e':s.heap.objs.size+1<=s.heap.objs.size:=hsz1▸e;exact Nat.not_succ_le_self _ e'
 have hIne:s.heap.objs.size+1<=I:=hsz1▸hI;refine aF ⟨plainId_quiet F.plain_extend_loop _,codeAny_extend_loopS (W A.in1 hh).toS (fits_of_scanBound hb) _ hSf _ es.size 0 _ _ _ rfl (iB _)
  ((W A.in1 hh).frame 0 s2.heap _ hst λb hb o e=>oth b o (λh=>hSf (h▸hb)) e) hS₃ (ItemsOf.nil _) λs' acc' c' hm hS' hacc=>?_⟩
 show bD _ A (load s.heap.objs.size >>= _) _ _ s';refine aA (wpAny_load hS' ?_);have hosz:ord.size=es.size:=by rw[<-bU,hord.length_eq,bU]
 have hacc':=atq hacc hosz;refine aF (hQ s' acc'.toList (ord.toList.map keyE) (aO hS') (λb o e=>?_) (hm.gens.trans hg2) (hm.os.trans ho2) ?_ (hord.map _))
 ·have hlt:=aO e;refine hm.heap b o (λhb=>?_) (oth b o (bI hlt) (hk2 b o (hold b o e)))
  simp only[bA,jH,or_false] at hb;rcases hb with rfl |rfl
  ·exact iG _ hlt
  ·exact absurd hlt (mC.mpr (bV (iC _) hIne))
 ·rw[hacc'];exact af4 λe he=>G.ent e (hord.mem_iff.mp he)
set_option maxHeartbeats 1000000 in
theorem ap2(hh:A.handled=ZX)(ho:s.heap.get? S=ZY (setO es ep t))(G:SetG w es t ns)(h64:es.size<64)
  (h:∀(s':aN) (a:bB) (out:Array aH) (m:Nat) (ns':List Int),s.heap.objs.size<=a->(∀b o,s.heap.get? b=ZY o->s'.heap.get? b=ZY o)->s'.gens=s.gens->s'.os=s.os->s'.heap.get? a=ZY (rE "list" out m) ->
   nA out.toList ns'->ns'.Perm (es.toList.map keyE)->ns'.Pairwise (· <= ·)->Q (.ref a) s') :
  bD 'F' A (call (.builtin "sorted") [.ref S]) Q E s:=by
 refine Calls.call_function_entry kind_sorted plain_sorted entry_sorted (args_sorted1 _) ?_;unfold kY.«sorted»
 refine aA (m:=checkCount "sorted" 1 1 _) (aF ?_);refine aA (an1 hh ho G (by unfold oX;omega) λs1 acc ks hlt1 hk hg hos hI hp=>?_)
 have hlen:acc.length=es.size:=by rw[hI.length,hp.length_eq,aU,bU]
 refine aA (wpAny_newList ?_);have hoL:(s1.heap.push (rE "list" acc.toArray 0)).get? s1.heap.objs.size=ZY (rE "list" acc.toArray 0):=aM _ rfl;show bD _ _ _ _ _ { s1 with heap:=s1.heap.push (rE "list" acc.toArray 0) }
 refine aA (dD (fO slot_list_sort ⟨_,hoL,rfl⟩ entry_list_sort (list_sort_tree hoL hI (by omega) λout ns' a1 a2 a3=>⟨_,rfl,?_⟩) (args_list_sort _)))
 obtain⟨m,hm⟩:=arw hoL acc out;refine aF ⟨_,rfl,?_⟩;refine h _ s1.heap.objs.size out m ns' (jL hlt1) ?_ hg hos hm a1 (a2.trans hp) a3;intro b o e;exact ap3 (aB _ (hk b o e)) (bI (oO (aO e) hlt1))
end
end Stt
namespace Dn
open L2 Mn
def dedI:List Int->List Int
 | []=>[]
 |x::r=>if r.contains x then dedI r else x::dedI r
theorem aep:∀(l:List Int) (x:Int),x∈dedI l↔x∈l
 | [],x=>.rfl
 |y::r,x=>by
  unfold dedI;split
  ·rename_i h;rw[aep r x,bA];exact⟨.inr,λz=>z.elim (λe=>e▸List.contains_iff_mem.mp h) id⟩
  ·rw[bA,bA,aep r x]
theorem acv:∀l:List Int,(dedI l).Nodup
 | []=>tG
 |y::r=>by
  unfold dedI;split
  ·exact acv r
  ·rename_i h;exact List.Pairwise.cons (λz hz e=>h (fJ.mpr (e▸(aep r z).mp hz))) (acv r)
theorem ado:∀l:List Int,(dedI l).length<=l.length
 | []=>aL _
 |y::r=>by
  unfold dedI;have:=ado r;split
  ·simp only[cW];omega
  ·simp only[cW];omega
theorem aeh:∀{a b:List Int},a.Nodup->b.Nodup->(∀x,x∈a↔x∈b)->a.Perm b
 | [],b,_,_,h=>by
  cases b with
  |nil=>exact .refl _
  |cons y r=>exact absurd ((h y).mpr (aX ..)) (jH)
 |x::r,b,ha,hb,h=>by
  have hx:x∈b:=(h x).mp (aX ..);have hp:=List.perm_cons_erase hx;refine(List.Perm.cons x (aeh (List.Pairwise.of_cons ha) (hb.erase x) λy=>?_)).trans hp.symm
  rw[hb.mem_erase_iff];have hxr:x∉r:=λz=>(jN.mp ha).1 x z rfl
  constructor
  ·intro hy;exact⟨λe=>hxr (e▸hy),(h y).mp (aR _ hy)⟩
  ·rintro⟨hne,hy⟩
   exact(bA.mp ((h y).mpr hy)).resolve_left hne
def setI(ns:List Int):List Int:=sortI (dedI ns)
section
variable{K:Fg9}{X:Cx}{e a b c:fP}{es:List fP}{pos p p2:Pos}
def SetH(w:dX)(a:bB)(ns:List Int):iK->Prop:=λh=>∃es ep t,h.get? a=ZY (Stt.setO es ep t)/\Stt.SetG w es t ns/\es.size<=ns.length
def a8z(w:dX):List V->Hp->VK->Prop:=λvs H Q=>∃p ns,vs=[.ref p]/\H p=ZY (.tup (ns.map V.int))/\ns.length<4000/\∀a,H a=ZX->Q (.ref a) (upd H a (.ext (SetH w a ns)))
def ax8(hc:X.calm=ZW):abx X (.type "set") (a8z X.w):=by
 intro zv s σ H xs us Q I r z9;obtain⟨p,ns,hv,hp,hz,q⟩:=z9;subst hv;obtain⟨u,rfl,ru⟩:=vals1 r;cases ru;obtain⟨its,rv,pt,_⟩:=I.tuple (SqT.of hp);have hlen:=rv.length;rw[aU] at hlen;refine Stt.a3z (I.ok.hd hc) pt (intsAre_of rv) (by rw[aP];unfold oX;omega) λh' tk es ep t ho g hsz hk=>?_
 have hn:H s.heap.objs.size=ZX:=I.hok.fresh (aL _);refine⟨.ref s.heap.objs.size,_,I.laid hk (aL _) ?_,rfl,q _ hn⟩;refine⟨⟨es,ep,t,ho,g,?_⟩,⟨_,ho⟩,λh1 h2 ⟨es,ep,t,z,g,zz⟩ k=>⟨es,ep,t,k _ z,g,zz⟩⟩
 have hsz':es.size<=its.length:=by simpa using hsz
 omega
def rcSS(w:dX):List V->Hp->VK->Prop:=λvs H Q=>∃a ns,vs=[.ref a]/\H a=ZY (.ext (SetH w a ns))/\ns.length<64/\∀b,H b=ZX->Q (.ref b) (upd H b (.lst ((setI ns).map V.int)))
def a2n(hc:X.calm=ZW):abx X (.builtin "sorted") (rcSS X.w):=by
 intro zv s σ H xs us Q I r z9;obtain⟨a,ns,hv,ha,hz,q⟩:=z9;subst hv;obtain⟨u,rfl,ru⟩:=vals1 r;cases ru;obtain⟨⟨es,ep,t,ho,g,hsz⟩,_⟩:=I.hok a _ ha;refine Stt.ap2 (I.ok.hd hc) ho g (by omega) λs' b out m ns' hb hk hg hos hob hI hp hs=>?_
 have hn:H b=ZX:=I.hok.fresh hb;have e':ns'=setI ns:=awg (hp.trans (aeh g.nd (acv ns) λk=>by rw[g.mem k,aep])) hs
 subst e';obtain⟨h',g',d',tk',os'⟩:=s';subst hg;subst hos;have I1:Inv X zv σ (upd H b (.lst ((setI ns).map V.int))) { s with heap:=h',toks:=tk' }:=I.laid hk hb ⟨by
  rw[aU];have h1:(setI ns).length=(dedI ns).length:=(sortI_perm _).length_eq;have h2:=ado ns;exact jL (ar0 (by omega)),out.toList,m,afu hI,by simpa using hob⟩
 exact⟨.ref b,_,⟨I1.ok,I1.os,I1.bare,I1.base,I1.loc,I1.cell,I1.free,I1.freeC,I1.pin,I1.hok,I1.len⟩,rfl,q b hn⟩
def gSet:D->Option Rv
 |.tup l=>(abn l).bind λns=>if ns.length<64 then ZY (.fr ((setI ns).map D.int)) else ZX
 |_=>ZX
theorem al0(hc:X.calm=ZW)(hg1:Gl X x)(hm1:X.mg x=ZX)(hv1:bY x=ZY (.builtin "sorted"))(hg2:Gl X y)(hm2:X.mg y=ZX)(hv2:bY y=ZY (.type "set"))
  (ha:EA K X [e] m) (hn1:x ≠ "__name__" := by decide) (hdb1:(x==("__debug__" : Str))=ZV:=by decide) (hn2:y ≠ "__name__" := by decide) (hdb2:(y==("__debug__" : Str))=ZV:=by decide)
  (he:aQ [e] X.env=[(ZV,eval e X.env)]:=by rfl) (he2:aQ [.Call (.Name y qq) [e] [] ppos] X.env=[(ZV,eval (.Call (.Name y qq) [e] [] ppos) X.env)]:=by rfl) :
  ER K X (.Call (.Name x pp) [.Call (.Name y qq) [e] [] ppos] [] pos) (jo (g1 gSet) m):=ER.mk λhk=>PE.imp (acu (a2n hc) hg1 hm1 hv1 (uc (aei (ax8 hc) hg2 hm2 hv2 (ha hk) hn2 hdb2 he rfl) acf he2) hn1 hdb1 he2 rfl) λσ H Q z9=>by
 obtain⟨tg,F,ρ,r,ρ',G,em,q⟩:=z9;obtain⟨ds,ρ1,e1,em⟩:=bj em;obtain⟨e2,rfl⟩:=jb em;refine⟨tg,F,ρ,ds,_,G,e1,λvs H1 F1 G1 x1 bl=>?_⟩
 cases ds with
 |nil=>cases e2
 |cons d tl=>
  cases tl with
  |cons _ _=>cases e2
  |nil=>
   cases d with
   |tup l=>
    have e2:(abn l).bind (λns=>if ns.length<64 then ZY (Rv.fr ((setI ns).map D.int)) else ZX)=ZY r:=e2
    cases ei:abn l with
    |none=>rw[ei] at e2;cases e2
    |some ns=>
     rw[ei] at e2;have e2:(if ns.length<64 then ZY (Rv.fr ((setI ns).map D.int)) else ZX)=ZY r:=e2
     split at e2
     ·rename_i h64;cases e2;obtain⟨v,rfl,bv⟩:=bl.one;obtain⟨p,ws,rfl,ea,hl⟩:=bv.tup;rw[agn ei] at hl;rw[hl.int_inv] at ea;refine⟨p,ns,rfl,G1.sub _ _ ea,by omega,λa hna=>?_⟩
      show rcSS X.w _ _ _;refine⟨a,ns,rfl,gw,h64,λb hnb=>?_⟩
      have G2:=G1.fresh hna (.ext (SetH X.w a ns));have X2:=G1.freshX hna (.ext (SetH X.w a ns));exact Res.lst G2 (λv H3 F3 G3 x3 rr=>q v H3 F3 G3 ((x1.trans X2).trans x3) (qt (x1.trans X2) rr)) (agm _) hnb
     ·cases e2
   |_=>cases e2
@[simp] theorem a76(l:List D):gSet (.tup l)=(abn l).bind λns=>if ns.length<64 then ZY (.fr ((setI ns).map D.int)) else ZX:=rfl
end
theorem ae3(Inv:Nat->Ro->Prop)(Done:Ro->Prop)(hs:∀k ρ,Inv k ρ->(∃ρ',c ρ=ZY (.ok ZV,ρ')/\Done ρ')∨∃ρ1 ρ2 k',c ρ=ZY (.ok ZW,ρ1)/\g ρ1=ZY (.nx,ρ2)/\k'<k/\Inv k' ρ2) :
  ∀(n k:Nat) (ρ:Ro),k<n->Inv k ρ->∃ρ',whileD c g n ρ=ZY (.nx,ρ')/\Done ρ'
 | 0,k,ρ,h,_=>absurd h (lG _)
 |n+1,k,ρ,h,h0=>by
  unfold whileD;rcases hs k ρ h0 with⟨ρ',e,d⟩ |⟨ρ1,ρ2,k',e1,e2,hk,h2⟩
  ·rw[e];exact⟨ρ',rfl,d⟩
  ·rw[e1];dsimp only;rw[e2];exact ae3 Inv Done hs n k' ρ2 (by omega) h2
def aj7:100000<fuel:=by unfold fuel;decide
def akb(a b:Int):eqD (.int a) (.int b)=decide (a=b):=by
 show(a==b)=_
 by_cases h:a=b <;> simp[h]
theorem a2t(ns:List Int)(a:Int):(ns.map D.int).any (λy=>eqD y (.int a))=decide (a∈ns):=by
 induction ns with
 |nil=>simp
 |cons x r ih=>simp[akb,bA,ih,eq_comm]
theorem air(n:Nat)(ns:List Int):(ns.map D.int).all (okD n)=ZW:=by
 induction ns with
 |nil=>rfl
 |cons x r ih=>simp[okD]
def at8(neg:Bool)(a:Int)(ns:List Int):gIn neg (.int a) (.lst (ns.map D.int))=ZY (.v (.bl (if neg then !decide (a∈ns) else decide (a∈ns)))):=by
 have h:=air 30 ns;have h2:=a2t ns a;simp only[gIn,itemsD,h,h2];simp[okD]
theorem aka:∀(a b:List Int),eqDs (a.map D.int) (b.map D.int)=decide (a=b)
 | [],[]=>rfl
 | [],_::_=>rfl
 |_::_,[]=>rfl
 |x::r,y::t=>by
  show(eqD (.int x) (.int y)&&eqDs (r.map D.int) (t.map D.int))=_;rw[akb,aka r t]
  by_cases h:x=y <;> simp[h]
def aus(a b:List Int):eqD (.tup (a.map D.int)) (.tup (b.map D.int))=decide (a=b):=by
 rw[<-aka];exact aj9 _ _
def ao8(neg:Bool)(a b:List Int):gEq neg (.tup (a.map D.int)) (.tup (b.map D.int))=ZY (.v (.bl (if neg then !decide (a=b) else decide (a=b)))):=by
 have h1:okD 30 (.tup (a.map D.int))=ZW:=air 29 a;have h2:okD 30 (.tup (b.map D.int))=ZW:=air 29 b;simp only[gEq,h1,h2,aus];simp
theorem auf(r:List Int):∀x:Int,(0<=r.foldl (λm y=>if decide (y<m)=ZW then y else m) x)↔0<=x/\∀y∈r,0<=y:=by
 induction r with
 |nil=>intro x;simp
 |cons z t ih=>
  intro x;rw[zZ,ih]
  by_cases h:z<x
  ·simp only[h,decide_true,if_true,bA,forall_eq_or_imp];constructor
   ·rintro⟨a,b⟩;exact⟨by omega,a,b⟩
   ·rintro⟨_,a,b⟩;exact⟨a,b⟩
  ·simp only[h,decide_false,iR,if_false,bA,forall_eq_or_imp];constructor
   ·rintro⟨a,b⟩;exact⟨a,by omega,b⟩
   ·rintro⟨a,_,b⟩;exact⟨a,b⟩
def minI(ns:List Int):Int:=ae0 (λi j=>decide (i<j)) ns
theorem agk(h:ns≠[]):0<=minI ns↔∀y∈ns,0<=y:=by
 cases ns with
 |nil=>exact absurd rfl h
 |cons x r=>
  show 0<=r.foldl (λm y=>if decide (y<m)=ZW then y else m) x↔_
  rw[auf];simp
def ao7(h:ns≠[]):axu (.lst (ns.map D.int))=ZY (.v (.int (minI ns))):=by
 show(abn (ns.map D.int)).bind _=_;rw[ahg];simp[h,minI]
def at5(h:ns.length<64):gSet (.tup (ns.map D.int))=ZY (.fr ((setI ns).map D.int)):=by
 show(abn (ns.map D.int)).bind _=_;rw[ahg];simp[h]
def aoo(ns:List Int)(x:Int):x∈setI ns↔x∈ns:=by
 unfold setI;rw[(sortI_perm _).mem_iff,aep]
def aqf(ns:List Int):(setI ns).Nodup:=by
 unfold setI;rw[(sortI_perm _).nodup_iff];exact acv ns
@[simp] theorem a6u(d:D):afm [d]=(itemsD d).map ac3:=rfl
@[simp] theorem a6s(a b:D):anl [a,b]=(itemsD a).bind λl1=>(itemsD b).bind λl2=>if l1.length<=l2.length then ZY (qi l1 l2) else ZX:=rfl
@[simp] theorem a3e(ρ:Ro)(f:Int->Int->Int)(i:Nat)(mi m:M D):an0 f i mi m ρ=(dM (mOwn i) λ_=>dM mi λk=>dM (mOwn i) λl=>dM (lift ((asI k).bind (ixN l.length))) λj=>dM (lift ((l[j]?).bind asI)) λx=>dM m λy=>dM (lift (asI y)) λy=>dM (mOwn i) λl2=>dM (lift (if l2.length=l.length then ZY () else ZX)) λ_=>dM (aeq i (l2.set j (.int (f x y)))) λ_=>dNx) ρ:=rfl
@[simp] theorem a5w(ρ:Ro)(i:Nat)(ms:M (List D)):ald i ms ρ=((dw i).bind λd0=>ms.bind λds=>(dw i).bind λd=>(lift (match d0,d with
 |.lst _,.lst _=>ZY ()
 |.tup _,.tup _=>ZY ()
 |_,_=>ZX)).bind λ_=>lift (aj6 d ds)) ρ:=rfl
@[simp] theorem a1u(l:List D)(x:D):aj6 (.lst l) [x]=if okD 30 x&&l.all (okD 30) then ZY (.int (l.countP λy=>eqD y x)) else ZX:=rfl
@[simp] theorem a1t(l:List D)(x:D):aj6 (.tup l) [x]=if okD 30 x&&l.all (okD 30) then ZY (.int (l.countP λy=>eqD y x)) else ZX:=rfl
theorem anf{n:Nat}{k:Int}(h0:0<=k)(h1:k<(n:Int)):ixN n k=ZY k.toNat:=by
 unfold ixN;simp[h0,h1]
def jt{K:Fg9}{P:cF}{w:dX}{mg:Str->Option aH}{base:iK}{x qual:Str}{st:jG}{f:bB}{fd:eU}{N ps:List Str}{k nl np:Nat}{g:Sd}(F:Fun K x qual st f fd)(S:FnScope N ps (aq st))(h1:N.length=nl)(h2:ps.length=np)
  (body:∀(cdv:aH) (A:dG) (outer:List Env) (s:aN) (H:Hp) (E:XK),Room k (A.deeper (nU qual (aq st) s.heap.objs.size f cdv))->SVs K (cxOf CX0 P w K mg base N qual (aq st) f cdv A outer s H E).nox (jm st) g) :
  FnOk P w K mg base CX0 (k+1) f fd ps (spOf K np (fnD nl np g)):=by
 subst h1 h2;exact bae F S body
end Dn
namespace Mn
open L2
def apx(l:bB)(items:Array aH)(n:Nat)(dd:Option bB)(sl:Array (Option aH))(x:Int)(u:Tok)(h0:items.isEmpty=ZV)(h2:x<=0)(h63 : -2 ^ 63<=x) :
  Meets (kY.«tuple.__mul__» ⟨[.ref l,.int x u],[]⟩) (λ_ R s=>s.heap.get? l=ZY { cls:=.type "tuple", dict:=dd,data:=.seq items n,slots:=sl } /\
   R (.ok (.ret (cY s.heap.objs.size))) { s with heap:=s.heap.push { cls:=lB "tuple", data:=Aw #[] },toks:=s.toks }) :=
 .of_wp λprog w A R s h=>by
  obtain⟨hp,g,d,tk,os⟩:=s;obtain⟨hl,h⟩:=h;have c1:(decide (x < -2 ^ 63)||decide (x≥2 ^ 63))=ZV:=by
   rw[rB];exact⟨decide_eq_false (by omega),decide_eq_false (by omega)⟩
  have c2:(items.isEmpty||x==1)=ZV:=by
   rw[h0,Az,beq_eq_false_iff_ne];omega
  have c3:(decide (x<=0)||items.isEmpty)=ZW:=by
   rw[decide_eq_true h2];rfl
  wp_walk;refine wpAny_ite_false (by rw[c1];rfl) ?_
  wp_walk;refine wpAny_ite_false (by rw[c2];rfl) ?_
  try dsimp only
  refine wpAny_ite_true (by rw[c3];rfl) ?_
  have hso:sizeOk (.seq #[]):=iB _;refine aA (m:=iQ _) (cA (aF ⟨_,rfl,h⟩) hso)
section
variable{X:Cx}
def a81:R2:=λx y H Q=>∃a xs k,x=.ref a/\y=.int k/\H a=ZY (.tup xs)/\xs≠[]/\k<=0 /\ -9223372036854775808<=k/\∀p,H p=ZX->Q (.ref p) (upd H p (.tup []))
def a03:OpR X (fB .Mult) a81:=by
 intro zv s σ H x y v u Q I rx ry h;obtain⟨a,xs,k,rfl,rfl,ha,hx,h2,h63,q⟩:=h;cases rx;obtain⟨t,rfl⟩:=ry;obtain⟨its,r1,p1,_⟩:=I.tuple (SqT.of ha);obtain⟨⟨cls,dd,data,sl⟩,ho,hc,n,hd⟩:=id p1;simp only at hc hd;subst hc hd;refine wpAny_binaryOp_repeat_ref (T := "tuple") (U := "int") (by decide) ⟨_,ho,rfl⟩ (λs'=>nR s' k t) yj qR kE aca pR.lookup
  (kZ kE (nR s k t) pU (pC _ _) (aau k t a its.toArray n dd sl)
   ⟨ho,rfl,⟨_,ho,rfl⟩,kZ nD ⟨_,ho,rfl⟩ tH (sI _ _) (apx a its.toArray n dd sl k t ?_ h2 h63) ⟨ho,?_⟩⟩)
 ·cases its with
  |nil=>exact absurd (r1.nil_iff.mp rfl) hx
  |cons _ _=>rfl
 ·have hf:H s.heap.objs.size=ZX:=I.hok.fresh (aL _);refine⟨.ref s.heap.objs.size,_,I.laid (t':=s.toks) (o:=.tup []) (λb ob q=>aB _ q) (aL _) ?_,rfl,q _ hf⟩
  exact⟨Nat.zero_le _,[],.nil,IsTp.new _ _⟩
end
end Mn
namespace Dn
open L2 Mn
section
variable{K:Fg9}{X:Cx}
def aj4:D->D->Option Rv
 |.tup l,.int k=>if l≠[]/\k<=0/\k.natAbs<9223372036854775808 then ZY (.v (.tup [])) else gMul (.tup l) (.int k)
 |a,b=>gMul a b
def agi:OpD K X (fB .Mult) aj4:=OpD.mk λhk=>by
 intro zv s σ0 H x y v u Q I rx ry z9;obtain⟨tg,F,ρ,σ,d1,d2,r,G,b1,b2,eg,q⟩:=z9;unfold aj4 at eg;split at eg
 ·rename_i l k;split at eg
  ·rename_i hc;obtain⟨h0,h1,h2⟩:=hc;cases eg;subst hk;obtain⟨a1,vs1,rfl,s1,i1⟩:=b1.tup;obtain rfl:=b2.int;refine a03 zv s σ0 H _ _ v u Q I rx ry ⟨a1,vs1,k,rfl,rfl,G.sub _ _ s1,?_,h1,by omega,λp hp=>Res.tup G q .nil hp⟩
   intro z;subst z;cases i1;exact h0 rfl
  ·exact vq.go hk zv s σ0 H x y v u Q I rx ry ⟨tg,F,ρ,σ,_,_,r,G,b1,b2,eg,q⟩
 ·exact vq.go hk zv s σ0 H x y v u Q I rx ry ⟨tg,F,ρ,σ,_,_,r,G,b1,b2,eg,q⟩
def at6(l:List D)(h0:l≠[])(h1:k<=0)(h2:k.natAbs<9223372036854775808):aj4 (.tup l) (.int k)=ZY (.v (.tup [])):=by
 show(if l≠[]/\k<=0/\k.natAbs<9223372036854775808 then ZY (Rv.v (.tup [])) else gMul (.tup l) (.int k))=_
 rw[if_pos ⟨h0,h1,h2⟩]
def alo(l:List D)(h1:0<k):aj4 (.tup l) (.int k)=gMul (.tup l) (.int k):=by
 show(if l≠[]/\k<=0/\k.natAbs<9223372036854775808 then ZY (Rv.v (.tup [])) else gMul (.tup l) (.int k))=_
 rw[if_neg (by omega)]
end
def mkSc(a:sc.kind=.function:=by rfl)(b:sc.isCoroutine=ZV:=by rfl)(c:sc.isGenerator=ZV:=by rfl)(e:N.take P.length=P:=by rfl)(d:N.Nodup/\(∀x∈P,sc.names.lookup x=ZY .local∨sc.names.lookup x=ZY .cell)/\∀y∈sc.names,y.2≠.free:=by decide +kernel):FnScope N P sc:=⟨a,b,c,d.1,e,d.2.1,d.2.2⟩
noncomputable def cxE(X:Cx)(ps:List (bB×Obj))(R:aH->aN->Prop):Cx:={ X with pn:=X.pn++ps,xe:=R }
section
variable{K:Fg9}{X:Cx}{ps zv:List (bB×Obj)}{R:aH->aN->Prop}{σ:L2.St}{H:Hp}{s:aN}
def Inv.toE(I:Inv X (ps++zv) σ H s):Inv (cxE X ps R) zv σ H s :=
 ⟨⟨I.ok.mod,I.ok.kind,I.ok.glob,I.ok.blt,I.ok.above,I.ok.inj,I.ok.has,I.ok.cab,I.ok.hd,I.ok.frames,I.ok.stk,I.ok.exf,I.ok.bs,I.ok.bsz,I.ok.noex,I.ok.exfs,I.ok.funs,I.ok.frf,I.ok.tb⟩,I.os,I.bare,I.base,I.loc,I.cell,I.free,I.freeC,λp hp=>I.pin p (by rw[<-cZ];exact hp),I.hok,I.len⟩
def Inv.ofE(I:Inv (cxE X ps R) zv σ H s):Inv X (ps++zv) σ H s :=
 ⟨⟨I.ok.mod,I.ok.kind,I.ok.glob,I.ok.blt,I.ok.above,I.ok.inj,I.ok.has,I.ok.cab,I.ok.hd,I.ok.frames,I.ok.stk,I.ok.exf,I.ok.bs,I.ok.bsz,I.ok.noex,I.ok.exfs,I.ok.funs,I.ok.frf,I.ok.tb⟩,I.os,I.bare,I.base,I.loc,I.cell,I.free,I.freeC,λp hp=>I.pin p (by show p∈(X.pn++ps)++zv;rw[cZ];exact hp),I.hok,I.len⟩
def RX.unpin(h:RX K X (ps++zv) tg ρ σ F H x ρ' e s'):RX K X ps tg ρ σ F H x ρ' e s':=by
 obtain⟨σ',H',F',I,G,y,a,C,dx,ch,ea,hc,hf,fly,hch⟩:=h;refine⟨σ',H',F',I.unpinned,G,y,a,C,dx,ch,ea,hc,hf,fly,λb hb=>?_⟩
 obtain⟨h1,h2,h3,h4,h5,h6⟩:=hch b hb;refine⟨h1,h2,h3,h4,h5,λp hp=>h6 p ?_⟩
 rcases dC.mp hp with z |z
 ·exact gK _ z
 ·exact bO _ (gK _ z)
def asb(hfr:X.env.frame=ZY X.env.locals)(hst:X.stack=X.env::X.outer):uE 'D' X.A X.env (RX K X zv tg ρ σ F H x ρ'):=λe s' z9=>by
 obtain⟨σ1,H1,F1,I1,G1,x1,a,C,dx,ch,ea,hc,hf,fly,hch⟩:=z9;subst ea;have hl1:=I1.stack;rw[hst] at hl1;unfold notedBy;refine a1b (by rw[<-hst];exact I1.ok.frames) hl1 hfr fly λh' T oT ts oe vs hT kb e1 e2 e3 e4 e5 e6 e7 e8 e9 e10=>?_
 rw[<-hst] at kb;have I2:=Inv.records I1 kb hch;have hsz3:3<ts.size:=(dY.mp e10).1;have fin:RX K X zv tg ρ σ F H x ρ' (.ref a) { s' with heap:=h' }:=by
  refine⟨σ1,H1,F1,I2,G1,x1,a,C,dx,[a,T],rfl,hc,hf,⟨oe,vs,e1,e2,e3,e4,e5,.inr ⟨T,oT,ts,_,rfl,e6,e7,e8,e9,e10,.inr rfl⟩⟩,λb hb=>?_⟩
  have hb':b=a∨b=T:=by simpa using hb
  rcases hb' with rfl |rfl
  ·exact hch _ fly.fresh
  ·rcases hT with z |z
   ·exact hch _ z
   ·exact Inv.fpX I1 (jU z) (I1.hok.fresh z)
 have same:h'.update T (lL (·.setIfInBounds 3 (iZ X.env.locals)))=h':=Heap.update_setField_same h' T oT ts 3 (iZ X.env.locals) e8 e9 e10;have step:bD 'D' X.A (setFlight (.ref a) X.env.frame) (λ_ s''=>RX K X zv tg ρ σ F H x ρ' (.ref a) s'') (RX K X zv tg ρ σ F H x ρ') { s' with heap:=h' }:=by
  rw[hfr];unfold setFlight;refine aA (dN e1 e4 e6 ?_);rw[if_pos (show(cY T != cQ)=ZW from by simp)]
  show bD 'D' X.A (setField (.ref T) 3 (iZ X.env.locals)) _ _ _;refine fM e8 e9 hsz3 ?_;show RX K X zv tg ρ σ F H x ρ' (.ref a) { s' with heap:=h'.update T (lL (·.setIfInBounds 3 (iZ X.env.locals))) }
  rw[same];exact fin
 unfold cameBackBy;refine aA (dN e1 e4 e6 ?_);rw[if_neg (show ¬((cY T==cQ)=ZW) from by simp)]
 first
  |exact aA (aF step)
  |exact step
end
section
variable{K:Fg9}{X:Cx}{tgt iter:fP}{ss:List jG}{pos:Pos}
def IT.s(h:IT K X tgt iter m):IT K X tgt iter (okS m):=IT.mk λhk zv s σ H R I ⟨tg,F,ρ,l,ρ',G,em,q⟩=>h.go hk zv s σ H R I ⟨tg,F,ρ,l,ρ',G,(aiq em).1,q⟩
def TSx(K:Fg9)(tg:Nat->bB)(g:Sd)(ρ:Ro)(σ:L2.St)(F H:Hp)(x:Exn)(ρ':Ro):TS:=λE σ3 H3=>∃F3 ρ3 fl ρ4,Good K tg F3 H3 ρ3 σ3/\g ρ3=ZY (fl,ρ4)/\((fl=.exc x/\ρ4=ρ'/\Ext (Own ρ σ) (Own ρ3 σ3) F H F3 H3)∨FlOk K tg ρ3 σ3 F3 H3 E fl ρ4)
def a3g(hfr:X.env.frame=ZY X.env.locals)(hst:X.stack=X.env::X.outer)(hc:X.calm=ZW)(hi:IT K X tgt iter m)(hm:NoX m)(hg:GV K X tgt b)(hb:SVs K X ss g)(hx:XSs K X ss g)
  (hs:∀x,gC iter X.env x=pure x:=by intro _;rfl):XS K X (.For tgt iter ss [] pos) (dFor m b g):=⟨λhk hn zv s σ H tg F ρ x ρ' I G em=>by
 rcases apg (uo.mp em) with em |⟨l,ρ1,e1,em⟩
 ·exact absurd em (hm _ _ _)
 have no:∀{e:aH} {s':aN},X.xe e s'->False:=λz=>by rw[hn] at z;exact z
 have pi':PI (cxE X zv (RX K X zv tg ρ σ F H x ρ')) tgt iter (TIt K m):=λq s0 σ0 H0 R I0 h0=>
  aZ (hi hk (zv++q) s0 σ0 H0 R (Inv.ofE I0) h0) (λv s1 h1=>aZ h1 (λitv s2 ⟨it,fp,tn,J,H2,ea,I2,T,st2,f2,r⟩=>⟨it,fp,tn,J,H2,ea,(Inv.toE I2),T,st2,λb hb=>by
   obtain⟨z1,z2,z3,z4,z5,z6⟩:=f2 b hb;exact⟨z1,z2,z3,z4,z5,λp hp=>z6 p (by rw[<-cZ];exact hp)⟩,r⟩) λ_ _ z=>(no z).elim) λ_ _ z=>(no z).elim
 have pg':PG (cxE X zv (RX K X zv tg ρ σ F H x ρ')) tgt (TGd K b):=λq s0 σ0 H0 v u Q I0 r h0=>
  aZ (hg hk (zv++q) s0 σ0 H0 v u Q (Inv.ofE I0) r h0) (λ_ s1 ⟨σ1,H1,I1,z⟩=>⟨σ1,H1,(Inv.toE I1),z⟩) λ_ _ z=>(no z).elim
 have pb':PSs (cxE X zv (RX K X zv tg ρ σ F H x ρ')) ss (TSx K tg g ρ σ F H x ρ'):=λq s3 σ3 H3 E I3 z9=>by
  obtain⟨F3,ρ3,fl,ρ4,G3,e3,q3⟩:=z9;rcases q3 with⟨rfl,rfl,x3⟩ |q3
  ·exact aZ (hx.go hk hn (zv++q) s3 σ3 H3 tg F3 ρ3 x _ (Inv.ofE I3) G3 (uo.mpr e3)) (λ_ _ z=>z.elim) λ_ _ z=>(RX.unpin z).back x3
  ·refine aZ (hb.go hk (zv++q) s3 σ3 H3 E (Inv.ofE I3) ⟨tg,F3,ρ3,fl,ρ4,G3,e3,q3⟩) (λf s4 z=>?_) λ_ _ z=>(no z).elim
   cases f with
   |next=>obtain⟨σ5,H5,I5,z⟩:=z;exact⟨σ5,H5,(Inv.toE I5),z⟩
   |brk=>obtain⟨σ5,H5,I5,z⟩:=z;exact⟨σ5,H5,(Inv.toE I5),z⟩
   |cont=>obtain⟨σ5,H5,I5,z⟩:=z;exact⟨σ5,H5,(Inv.toE I5),z⟩
   |ret u=>obtain⟨v,σ5,H5,I5,r,z⟩:=z;exact⟨v,σ5,H5,(Inv.toE I5),r,z⟩
 have I0:Inv X (zv++[]) σ H s:=by rw[iJ];exact I
 refine aZ (ayp (X:=cxE X zv (RX K X zv tg ρ σ F H x ρ')) (asb hfr hst) hc pi' pg' pb' hs [] s σ H { nx:=λ_ _=>False,rt:=λ_ _=>False } (Inv.toE I0) ?_) (λf s1 z=>?_) λ_ _ z=>z
 ·refine⟨tg,F,ρ,l,ρ1,G,e1,λJ H1 F1 G1 x1 Z=>?_⟩
  refine aue (g:=TGd K b) (tb:=TSx K tg g ρ σ F H x ρ') (D':={ nx:=λ_ _=>False,rt:=λ_ _=>False }) Z (λi σ2 H2=>∃F2 ρ2,Good K tg F2 H2 ρ2 σ2/\Ext (Own ρ σ) (Own ρ2 σ2) F H F2 H2/\Same F1 F2/\forD b g (l.drop i) ρ2=ZY (.exc x,ρ')) ⟨F1,ρ1,G1,x1,Same.refl _,em⟩ (λi σ2 H2 _ ⟨F2,ρ2,G2,_,s2,_⟩=>s2.trans G2.sub) ?_ ?_
  ·rintro i d xv σ2 H2' H2 hd ⟨F2',ρ2,G2',x2',s2',em2⟩ al
   obtain⟨F2,G2,x2,s2,id,_⟩:=akm G2' x2' s2' al;have hlt:i<l.length:=(aJ.mp hd).1;have ed:l[i]=d:=(aJ.mp hd).2;rw[lU hlt,ed] at em2;unfold forD at em2;split at em2
   ·cases em2
   ·rename_i ρ3 e3;refine⟨tg,F2,ρ2,d,ρ3,G2,id,e3,λσ3 H3 F3 G3 x3=>?_⟩
    split at em2
    ·rename_i ρ4 e4;exact⟨F3,ρ3,.nx,ρ4,G3,e4,.inr λσ' H' F' G' x'=>⟨F',ρ4,G',(x2.trans x3).trans x',(s2.trans x3.sub).trans x'.sub,em2⟩⟩
    ·rename_i ρ4 e4;exact⟨F3,ρ3,.cont,ρ4,G3,e4,.inr λσ' H' F' G' x'=>⟨F',ρ4,G',(x2.trans x3).trans x',(s2.trans x3.sub).trans x'.sub,em2⟩⟩
    ·cases em2
    ·cases em2
    ·rename_i y ρ4 e4;cases em2;exact⟨F3,ρ3,.exc _,_,G3,e4,.inl ⟨rfl,rfl,x2.trans x3⟩⟩
    ·cases em2
  ·rintro σ2 H2 ⟨F2,ρ2,G2,x2,s2,em2⟩
   rw[qC (aL _)] at em2;cases em2
 ·cases f with
  |next=>obtain⟨_,_,_,z⟩:=z;exact z.elim
  |brk=>obtain⟨_,_,_,z⟩:=z;exact z.elim
  |cont=>obtain⟨_,_,_,z⟩:=z;exact z.elim
  |ret u=>obtain⟨_,_,_,_,_,z⟩:=z;exact z.elim⟩
end
def isI:D->Bool
 |.int _=>ZW
 |_=>ZV
section
variable{K:Fg9}{tg:Nat->bB}{F H:Hp}{ρ:Ro}{σ:L2.St}
open Classical in
noncomputable def Fc(ρ:Ro)(σ:L2.St)(F H:Hp):Hp:=λb=>if Own ρ σ b then H b else F b
end
section
variable{K:Fg9}{X:Cx}{e:fP}{es:List fP}{pos p:Pos}
end
@[irreducible] noncomputable def bgM:Nat:=2 ^ 100000
@[irreducible] noncomputable def bgD:Nat:=2 ^ 8000
def als(i j:Int):Option Int:=if j≠0/\j.natAbs<bgD then ZY (i.fdiv j) else ZX
def alr(i j:Int):Option Int:=if i.natAbs<bgM/\j.natAbs<bgM then ZY (i*j) else ZX
section
variable{K:Fg9}{X:Cx}
def aw1:OpR X (fB .FloorDiv) (rI (λ_ j=>j≠0/\j.natAbs<bgD) λi j=>.int (i.fdiv j)):=opI λi j _ _ _ _ _ hc q=>
 floordiv_int hc.1 q (.inl (by
  have hl:j.natAbs.log2<8000:=(rP (by have:=hc.1;omega)).2 (by have:=hc.2;unfold bgD at this;exact this)
  have hd:¬(j.natAbs.log2 / 30+1 > 300):=by omega
  have hj:(j==0)=ZV:=by
   rw[beq_eq_false_iff_ne];exact hc.1
  unfold nQ;simp only[hj,iR,if_false,hd,decide_false,rK]))
def bits_le(h:i.natAbs<bgM):oG i<=100000:=by
 unfold oG;split
 ·omega
 ·rename_i z;have z:¬i=0:=by simpa using z
  have:i.natAbs.log2<100000:=(rP (by omega)).2 (by unfold bgM at h;exact h)
  omega
def a01:OpR X (fB .Mult) (rI (λi j=>i.natAbs<bgM/\j.natAbs<bgM) λi j=>.int (i*j)):=opI λi j _ _ _ _ _ hc q=>mul_int q (by
 have a:=bits_le hc.1;have b:=bits_le hc.2;have c:wK (↑(oG i) + ↑(oG j))=ZV:=by
  unfold wK;rw[decide_eq_false_iff_not];have:(200000:Int) <= ↑bitsLine:=by decide +kernel
  omega
 unfold IntMulOk;rw[c,vH];exact cM)
def aom:OpD K X (fB .FloorDiv) (gInt als):=ag6 aw1 λi j k h=>by
 unfold als at h;split at h
 ·cases h;exact⟨by assumption,rfl⟩
 ·cases h
def aok:OpD K X (fB .Mult) (gInt alr):=ag6 a01 λi j k h=>by
 unfold alr at h;split at h
 ·cases h;exact⟨by assumption,rfl⟩
 ·cases h
end
def ad2:D->Bool
 |.tup l=>l.all anq
 |d=>anq d
def okT:Sl->Bool
 |.own _ l=>l.all ad2
 |.val _=>ZW
 |.emp=>ZW
 |_=>ZV
def agc(F:Hp)(a:bB):Hp:=λb=>if b=a then ZX else F b
def agl(h:F b=ZY o)(hn:b≠a):agc F a b=ZY o:=by unfold agc;rw[if_neg hn];exact h
def aor(h:agc F a b=ZY o):b≠a/\F b=ZY o:=by
 unfold agc at h
 by_cases q:b=a
 ·rw[if_pos q] at h;cases h
 ·rw[if_neg q] at h;exact⟨q,h⟩
theorem Is.ad2{K:Fg9}{F:Hp}{a:bB}{xs:List V}(ha:F a=ZY (.lst xs)){d:D}{v:V}(h:Is K F d v)(hd:Dn.ad2 d=ZW):Is K (agc F a) d v:=by
 cases h with
 |tup e hl=>exact .tup (agl e λq=>by rw[q,ha] at e;cases e) (hl.flat hd)
 |non=>exact .non
 |bl b=>exact .bl b
 |int i=>exact .int i
 |str s=>exact .str s
 |_=>cases hd
theorem IsL.ad2{K:Fg9}{F:Hp}{a:bB}{xs:List V}(ha:F a=ZY (.lst xs)):∀{l:List D} {vs:List V},IsL K F l vs->l.all Dn.ad2=ZW->IsL K (agc F a) l vs
 | [],_,h,_=>by cases h;exact .nil
 |d::r,_,h,hd=>by
  rw[kO,bC] at hd;cases h with
  |cons h t=>exact .cons (h.ad2 ha hd.1) (IsL.ad2 ha t hd.2)
noncomputable def dNo:Sd:=λ_=>ZX
section
variable{K:Fg9}{X:Cx}{e:fP}{ss:List jG}
def arq:SVs K X ss dNo:=SVs.mk λ_ _ _ _ _ _ _ q=>by
 obtain⟨_,_,_,_,_,_,em,_⟩:=q;cases em
end
section
variable{ρ:Ro}
def fnO(js:List 'G')(ρ:Ro)(x:Option (Out Rv×Ro)):Option (Out Rv×Ro):=match x with
 |some (.ok r,ps)=>ZY (.ok r,putB ρ js ps)
 |some (.exc x,ps)=>ZY (.exc x,putB ρ js ps)
 |none=>ZX
@[simp] theorem bbi(r:Rv)(ps:Ro)(js:List 'G'):fnO js ρ (ZY (.ok r,ps))=ZY (.ok r,putB ρ js ps):=rfl
@[simp] theorem baf(x:Exn)(ps:Ro)(js:List 'G'):fnO js ρ (ZY (.exc x,ps))=ZY (.exc x,putB ρ js ps):=rfl
def okI(b:Bool)(x:Option (Out Rv×Ro)):Option (Out Rv×Ro):=if b=ZW then x else ZX
@[simp] theorem bbw(x:Option (Out Rv×Ro)):okI ZW x=x:=rfl
@[simp high] theorem a9q (f:Fd) (js:List 'G') (ms:M (List (Option D))):mFn f js ms ρ=(ms.bind λds ρ=>okI (okJs ρ js) (fnO js ρ (f (lend ρ js ds)))) ρ:=rfl
def cpO(js:List 'G')(ρ:Ro)(x:Option (Out (List D)×Ro)):Option (Out Rv×Ro):=match x with
 |some (.ok ys,ps)=>if ys.length<=capS then ZY (.ok (.fr ys),putB ρ js ps) else ZX
 |some (.exc x,ps)=>ZY (.exc x,putB ρ js ps)
 |none=>ZX
@[simp] theorem bbr(ys:List D)(ps:Ro)(js:List 'G'):cpO js ρ (ZY (.ok ys,ps))=if ys.length<=capS then ZY (.ok (.fr ys),putB ρ js ps) else ZX:=rfl
@[simp high] theorem a5y (src:List 'G') (mi:M (List D)) (b:D->Ro->Option Ro) (mc:M Bool) (me:M D):sr src mi b mc me ρ=(mi.bind λl ρ=>okI (okJs ρ src) (cpO src ρ (compD b mc me l [] (lend ρ src (src.map λ_=>ZX))))) ρ:=rfl
def gt:Ro->Nat->Option Sl
 | [],_=>ZX
 |s::_,0=>ZY s
 |_::ρ,i+1=>gt ρ i
@[simp] theorem gt_0(s:Sl):gt (s::ρ) 0=ZY s:=rfl
@[simp] theorem gt_s(s:Sl)(i:Nat):gt (s::ρ) (i+1)=gt ρ i:=rfl
theorem aqo:∀(ρ:Ro) (i:Nat),gt ρ i=ρ[i]?
 | [],_=>rfl
 |_::_,0=>rfl
 |_::ρ,i+1=>aqo ρ i
def vB(x:Option Sl)(ρ:Ro):Option (Out D×Ro):=match x with
 |some (.val d)=>ZY (.ok d,ρ)
 |some (.own _ l)=>ZY (.ok (.lst l),ρ)
 |_=>ZX
@[simp] theorem vB_v(d:D):vB (ZY (.val d)) ρ=ZY (.ok d,ρ):=rfl
@[simp] theorem vB_o(t:Option Nat)(l:List D):vB (ZY (.own t l)) ρ=ZY (.ok (.lst l),ρ):=rfl
@[simp high] theorem a7r (i:Nat):dw i ρ=vB (gt ρ i) ρ:=by rw[aqo];rfl
def vV(x:Option Sl)(i:Nat)(ρ:Ro):Option (Out D×Ro):=match x with
 |some (.val d)=>ZY (.ok d,ρ)
 |some (.own ZX l)=>ZY (.ok (.lst l),ρ.set i (.val (.lst l)))
 |_=>ZX
@[simp] theorem vV_v(i:Nat)(d:D):vV (ZY (.val d)) i ρ=ZY (.ok d,ρ):=rfl
@[simp] theorem vV_o(i:Nat)(l:List D):vV (ZY (.own ZX l)) i ρ=ZY (.ok (.lst l),ρ.set i (.val (.lst l))):=rfl
@[simp high] theorem a9e (i:Nat):mVar i ρ=vV (gt ρ i) i ρ:=by rw[aqo];rfl
def ldS(i:Nat):Option Sl->Sl
 |some (.val d)=>.val d
 |some (.own _ l)=>.own (ZY i) l
 |_=>.emp
@[simp] theorem bbx(i:Nat)(d:D):ldS i (ZY (.val d))=.val d:=rfl
@[simp] theorem bby(i:Nat)(t:Option Nat)(l:List D):ldS i (ZY (.own t l))=.own (ZY i) l:=rfl
@[simp high] theorem a75 (i j:Nat) (d:Option D):ajz ρ i (ZY j) d=ldS i (gt ρ j):=by rw[aqo];rfl
noncomputable def eqb:Nat->Nat->Bool
 | 0,0=>ZW
 |n+1,m+1=>eqb n m
 |_,_=>ZV
@[simp] theorem bbn:eqb 0 0=ZW:=rfl
@[simp] theorem bbm(n:Nat):eqb 0 (n+1)=ZV:=rfl
@[simp] theorem bbl(n:Nat):eqb (n+1) 0=ZV:=rfl
@[simp] theorem a6y(n m:Nat):eqb (n+1) (m+1)=eqb n m:=rfl
theorem aup:∀n m:Nat,eqb n m=(n==m)
 | 0,0 | 0,_+1 |_+1,0=>rfl
 |n+1,m+1=>by rw[a6y,aup n m];simp
def idxJ:List 'G'->Nat->List Nat->Option Nat
 | [],_,_=>ZX
 |js,j,[]=>(js.findIdx? λo=>o==ZY j).map (· + 10)
 |none::js,j,_::is=>idxJ js j is
 |some k::js,j,i::is=>bif eqb k j then ZY i else idxJ js j is
@[simp] theorem bbc(j i:Nat)(is:List Nat):idxJ [] j (i::is)=ZX:=rfl
@[simp] theorem bbe(js:List 'G')(j i:Nat)(is:List Nat):idxJ (ZX::js) j (i::is)=idxJ js j is:=rfl
@[simp] theorem bbd(k:Nat)(js:List 'G')(j i:Nat)(is:List Nat):idxJ (ZY k::js) j (i::is)=bif eqb k j then ZY i else idxJ js j is:=rfl
theorem aj2(j:Nat):∀(n i:Nat),i+n=10->∀js:List 'G',idxJ js j (oE i n)=(js.findIdx? λo=>o==ZY j).map (· + i)
 | 0,_,_,[] |_+1,_,_,[]=>rfl
 | 0,i,h,o::js=>by
  obtain rfl:i=10:=h;cases o <;> rfl
 |n+1,i,h,o::js=>by
  have e:∀x:Option Nat,(x.map (· + (i+1)):Option Nat)=(x.map (· + 1)).map (· + i):=λx=>by cases x <;> simp;omega
  cases o with
  |none=>exact(aj2 j n (i+1) (by omega) js).trans ((e _).trans (by rw[ant];rfl))
  |some k=>
   show(bif eqb k j then ZY i else idxJ js j (oE (i+1) n))=_
   rw[aj2 j n (i+1) (by omega) js,ant,aup,e]
   show _=Option.map _ (if (k==j)=ZW then _ else _)
   cases k==j <;> simp
noncomputable def oJ(b:Bool):Option Sl->Option Nat->Bool
 |some (.own _ _),ZY _=>ZV
 |_,_=>b
@[simp] theorem oJ_v(b:Bool)(d:D)(o:Option Nat):oJ b (ZY (.val d)) o=b:=rfl
@[simp] theorem oJ_o(b:Bool)(t:Option Nat)(l:List D):oJ b (ZY (.own t l)) ZX=b:=rfl
theorem au4(j:Nat):∀r:List 'G',r.contains (ZY j)=(r.findIdx? λo=>o==ZY j).isSome
 | []=>rfl
 |o::r=>by
  rw[yD,ant,au4 j r,BEq.comm];cases o==ZY j <;> cases r.findIdx? λo=>o==ZY j <;> rfl
@[simp high] theorem ba6 (j:Nat) (r:List 'G'):okJs ρ (ZY j::r)=oJ (okJs ρ r) (gt ρ j) (idxJ r j [0,1,2,3,4,5,6,7,8,9]):=by
 rw[as3,show([0,1,2,3,4,5,6,7,8,9]:List Nat)=oE 0 10 from rfl,aj2 j 10 0 rfl,aqo,au4]
 cases ρ[j]? with
 |none=>rfl
 |some s=>cases s <;> cases r.findIdx? λo=>o==ZY j <;> rfl
def pO(t:Option Nat)(i:Nat):Option Sl->Sl
 |some (.own (ZY i') l')=>bif eqb i' i then .own t l' else .emp
 |_=>.emp
@[simp] theorem pO_o(t:Option Nat)(i i':Nat)(l':List D):pO t i (ZY (.own (ZY i') l'))=bif eqb i' i then .own t l' else .emp:=rfl
def pS(ps:Ro):Sl->Option Nat->Sl
 |.own t _,ZY i=>pO t i (gt ps i)
 |s,_=>s
@[simp] theorem pS_v(ps:Ro)(d:D)(o:Option Nat):pS ps (.val d) o=.val d:=rfl
@[simp] theorem pS_e(ps:Ro)(o:Option Nat):pS ps .emp o=.emp:=rfl
@[simp] theorem pS_o(ps:Ro)(t:Option Nat)(l:List D)(i:Nat):pS ps (.own t l) (ZY i)=pO t i (gt ps i):=rfl
@[simp] theorem bbv(ps:Ro)(t:Option Nat)(l:List D):pS ps (.own t l) ZX=.own t l:=rfl
@[simp] theorem pS_n(ps:Ro)(s:Sl):pS ps s ZX=s:=by cases s <;> rfl
theorem a4h(js:List 'G')(ps:Ro)(j:Nat)(s:Sl):putS js ps j s=pS ps s (idxJ js j [0,1,2,3,4,5,6,7,8,9]):=by
 rw[show([0,1,2,3,4,5,6,7,8,9]:List Nat)=oE 0 10 from rfl,aj2 j 10 0 rfl]
 unfold putS;cases js.findIdx? λo=>o==ZY j with
 |none=>exact(pS_n ps s).symm
 |some k=>
  cases s with
  |own t l=>
   show _=pO t k (gt ps k);rw[aqo];dsimp only;split
   ·rename_i i' l' e;rw[e,pO_o,aup]
    by_cases q:i'=k
    ·simp[q]
    ·rw[if_neg q,beq_eq_false_iff_ne.mpr q];rfl
   ·rename_i h;unfold pO;split
    ·rename_i i' l' e;exact absurd e (h i' l')
    ·rfl
  |_=>rfl
def putR(js:List 'G')(ps:Ro):List Nat->Ro->Ro
 |_,[]=>[]
 | [],ρ=>ρ.mapIdx λj s=>putS js ps (16+j) s
 |k::ks,s::ρ=>pS ps s (idxJ js k [0,1,2,3,4,5,6,7,8,9])::putR js ps ks ρ
@[simp] theorem ba3(js:List 'G')(ps:Ro)(k:Nat)(ks:List Nat):putR js ps (k::ks) []=[]:=rfl
@[simp] theorem a4i(js:List 'G')(ps:Ro)(k:Nat)(ks:List Nat)(s:Sl):putR js ps (k::ks) (s::ρ)=pS ps s (idxJ js k [0,1,2,3,4,5,6,7,8,9])::putR js ps ks ρ:=rfl
theorem ayo(js:List 'G')(ps:Ro):∀(n k:Nat),k+n=16->∀ρ:Ro,ρ.mapIdx (λj s=>putS js ps (k+j) s)=putR js ps (oE k n) ρ
 | 0,_,_,[] |_+1,_,_,[]=>rfl
 | 0,k,h,s::ρ=>by
  obtain rfl:k=16:=h;rfl
 |n+1,k,h,s::ρ=>by
  rw[List.mapIdx_cons,zN,a4i,<-a4h,<-ayo js ps n (k+1) (by omega) ρ]
  show putS js ps (k+0) s::_=_
  congr 2
  funext j s
  rw[show k+(j+1)=k+1+j by omega]
@[simp high] theorem ba4 (js:List 'G') (ps:Ro):putB ρ js ps=putR js ps [0,1,2,3,4,5,6,7,8,9,10,11,12,13,14,15] ρ:=by
 rw[show([0,1,2,3,4,5,6,7,8,9,10,11,12,13,14,15]:List Nat)=oE 0 16 from rfl,<-ayo js ps 16 0 rfl,a0d]
 simp
end
end Dn
namespace Mn
open L2
section
variable{prog:cF}{w:dX}{A:dG}{l I S q:bB}{ns:List Int}{R:vI->aN->Prop}{kf:Nat->Int}{G:aN->Prop}
def Bst(kf:Nat->Int)(j i:Nat):Prop:=∀j',j'<=j->kf i<=kf j'/\(j'<i->kf i<kf j')
structure MinH (prog:cF) (w:dX) (A:dG) (l I S q:bB) (ns:List Int) (R:vI->aN->Prop) (kf:Nat->Int) (G:aN->Prop):Prop where
 hh:A.handled=ZX
 hl:∀s,G s->∃vs,s.heap.IsList l (List.toArray vs)/\nA vs ns
 lI:l≠I
 SI:S≠I
 gI:∀(s:aN) h' tk,G s->(∀b o,b∉[I]->s.heap.get? b=ZY o->h'.get? b=ZY o)->G { s with heap:=h',toks:=tk }
 gS:∀(s:aN) h',G s->fL S s.heap h'->G { s with heap:=h' }
 turn:∀i n t s oS oI,ns[i]? = ZY n->G s->s.heap.get? S=ZY oS->s.heap.get? I=ZY oI->(∃its n,oS.data=.seq its n)->(∃vs,oI.data=.fields vs) ->
  bD 'F' A.in1 (call (.ref q) [.int n t]) (λx s'=>(∃t,x=.int (kf i) t)/\G s'/\s'.heap.get? S=ZY oS/\s'.heap.get? I=ZY oI) (λ_ _=>False) s
 hR:∀i n t s',ns[i]? = ZY n->Bst kf (ns.length-1) i->G s'->R (.ok (.ret (.int n t))) s'
def ajx:(toString "min" ++ toString ".loop" : String) = "min.loop" := by decide
theorem atc(M:MinH prog w A l I S q ns R kf G):∀(r j i:Nat) (s:aN) (nb:Int) (t0 tb:Tok) (c:Nat),ns.length-(j+1)=r->j+1<=ns.length->G s ->
  s.heap.get? S=ZY (rE "list" #[.int nb t0,.int (kf i) tb] c)->s.heap.IsListIter I l (j+1)->ns[i]? = ZY nb->i<=j->Bst kf j i ->
  mZ 'F' A (.builtin "min.loop" ⟨[.ref I,.ref q,.ref S],[]⟩) R s:=by
 intro r
 induction r with
 |zero=>
  intro j i s nb t0 tb c hr hj g hS hit hvb hij hb;obtain⟨vs,hL,hi⟩:=M.hl s g;have W:=qW (prog:=prog) (w:=w) (A:=A.in1) M.hh I l M.lI vs.toArray;have hsz:vs.toArray.size=vs.length:=aP ..
  have hln:=hi.length;have hin:j+1=vs.length:=by omega
  refine jC pY ?_;rw[gM gU _];show bD _ A.in1 (seqItems? (.ref S) >>= _) _ _ _;refine aA (gG hS rfl ?_);show bD _ A.in1 (tryCatch (nF (.ref I)) _ >>= _) _ _ _;refine aA (wpAny_tryCatch (W.done _ _ _ ⟨by rw[hsz,<-hin];exact hit,hL⟩ λh' tk' hk'=>?_))
  have g1:=M.gI s h' tk' g hk';have hS':=hk' S _ (by simpa using M.SI) hS
  have s1:=cO h' S (iM λ_=>(#[]:Array aH))
  show bD _ A.in1 (updateSeq S (λ_ => #[]) >>= _) _ _ _
  refine aA ?_;refine wpAny_updateSeq hS' rfl (aA (wpAny_letGo (aF ?_)));exact M.hR i nb t0 _ hvb (by rw[show ns.length-1=j from by omega];exact hb) (M.gS _ _ g1 s1)
 |succ r ih=>
  intro j i s nb t0 tb c hr hj g hS hit hvb hij hb;obtain⟨vs,hL,hi⟩:=M.hl s g;have W:=qW (prog:=prog) (w:=w) (A:=A.in1) M.hh I l M.lI vs.toArray;have hsz:vs.toArray.size=vs.length:=aP ..
  have hln:=hi.length;have hlt:j+1<vs.length:=by omega
  have hlt':j+1<ns.length:=by omega
  obtain⟨n,hn⟩:∃n,ns[j+1]? = ZY n:=⟨_,aG hlt'⟩
  obtain⟨t1,ht1⟩:=hi.get (j+1) n hn;refine jC pY ?_;rw[gM gU _];show bD _ A.in1 (seqItems? (.ref S) >>= _) _ _ _;refine aA (gG hS rfl ?_);show bD _ A.in1 (tryCatch (nF (.ref I)) _ >>= _) _ _ _;refine aA (wpAny_tryCatch (W.item (j+1) _ _ _ (by rw[hsz];exact hlt) ⟨hit,hL⟩ λv h' tk' hP hst' hk'=>?_))
  have hv:vs[j+1]? = ZY v:=by simpa using hP
  rw[ht1] at hv;cases hv;obtain⟨oI,hoI,hoc,hod⟩:=id hst'.1;have g1:=M.gI s h' tk' g hk';have hS':=hk' S _ (by simpa using M.SI) hS
  show bD _ A.in1 (tryCatch (mU [.int n t1] (call (.ref q) [.int n t1])) _ >>= _) _ _ _;refine aA (wpAny_tryCatch (dD (aZ (M.turn (j+1) n t1 _ _ oI hn g1 hS' hoI ⟨_,_,rfl⟩ ⟨_,hod⟩) (λx s2 he=>?_) λ_ _ hF=>hF.elim)))
  obtain⟨⟨t2,rfl⟩,g2,hS2,hI2⟩:=he;have hit2:s2.heap.IsListIter I l (j+1+1):=⟨oI,hI2,hoc,hod⟩;show bD _ A.in1 (tryCatch (mU [.int n t1,.int (kf (j+1)) t2] (richCompare .Lt (.int (kf (j+1)) t2) (.int (kf i) tb) >>= _)) _ >>= _) _ _ _;refine aA (wpAny_tryCatch (dD (aA (vY (prog:=prog) (w:=w) (A:=A.in1) (P:=λi v=>∃t,v=.int (kf i) t) kf (λi v h=>h) (j+1) i _ _ _ _ _ ⟨t2,rfl⟩ ⟨tb,rfl⟩ ?_))))
  refine aA (dD (gW ?_));refine aA (wpAny_letGo (aF ?_))
  by_cases hb':kf (j+1)<kf i
  ·have s1:=cO s2.heap S (iM λ_ => #[.int n t1,.int (kf (j+1)) t2])
   obtain⟨c2,hc2⟩:∃c2,(s2.heap.update S (iM λ_ => #[.int n t1,.int (kf (j+1)) t2])).get? S=ZY (rE "list" #[.int n t1,.int (kf (j+1)) t2] c2):=⟨_,get?_update_seq hS2 λ_ => #[.int n t1,.int (kf (j+1)) t2]⟩
   simp only[hb',decide_true,if_true];refine aA ?_;refine wpAny_updateSeq hS2 rfl (aA (wpAny_letGo ?_));rw[ajx];refine aF ⟨plainId_quiet gU _,ih (j+1) (j+1) _ n t1 t2 c2 (by omega) hlt' (M.gS _ _ g2 s1) hc2 ⟨oI,(s1.2 I M.SI.symm).trans hI2,hoc,hod⟩ hn (aL _) λj' hj'=>?_⟩
   by_cases e:j'=j+1
   ·subst e;exact⟨by omega,λ_=>by omega⟩
   ·have hb1:=hb j' (by omega)
    have hb2:=hb1.1;exact⟨by omega,λ_=>by omega⟩
  ·simp only[hb',decide_false,iR,if_false];refine aA (wpAny_letGo ?_);rw[ajx];refine aF ⟨plainId_quiet gU _,ih (j+1) i _ nb t0 tb c (by omega) hlt' g2 hS2 hit2 hvb (by omega) λj' hj'=>?_⟩
   by_cases e:j'=j+1
   ·subst e;exact⟨by omega,λ_=>by omega⟩
   ·exact hb j' (by omega)
end
def atd(a v:aH):uB "min" ⟨[a],[(fV "key", v)]⟩:=by unfold uB;kernel_rfl
section
variable{prog:cF}{w:dX}{A:dG}{E:aH->aN->Prop}{s:aN}{l q:bB}{vs:List aH}{ns:List Int}{Q:aH->aN->Prop}{kf:Nat->Int}{G:aN->Prop}
theorem axa(hls:s.heap.IsList l vs.toArray)(hne:0<ns.length)(hR:∀(r:vI) s',(∃v,r=.ok (.ret v)/\Q v s')->match r with |.ok (.ret v)=>Q v s' |.ok _=>False |.error e=>E e s')
  (g0:G { s with heap:=(s.heap.push { cls:=.type "list_iterator", data:=.fields #[.ref l,.int 0 0] }).push (rE "list" #[] 0) })
  (M:MinH prog w A l s.heap.objs.size (s.heap.objs.size+1) q ns (λr s'=>∃v,r=.ok (.ret v)/\Q v s') kf G) :
  bD 'F' A (call (.builtin "min") [.ref l] [(fV "key", .ref q)]) Q E s:=by
 refine lZ (codeAny_call_builtin PySem.F.plain_min PySem.F.entry_min ?_);have hS:(s.heap.push { cls:=.type "list_iterator", data:=.fields #[.ref l,.int 0 0] }).objs.size=s.heap.objs.size+1:=size_push' ..
 have tree:bD 'F' A.in1 (Builtin.min ⟨[.ref l],[(fV "key", .ref q)]⟩) (λfin s'=>match fin with
   |.done f=>(match (Except.ok f:vI) with |.ok (.ret v)=>Q v s' |.ok _=>False |.error e=>E e s')
   |.again c'=>c'.quiet=ZW/\mZ 'F' A c' (λr s'=>match r with |.ok (.ret v)=>Q v s' |.ok _=>False |.error e=>E e s') s') E s:=by
  show bD _ A.in1 (uO "min" ["key","default"] 0 ⟨[],[(fV "key", .ref q)]⟩ >>= _) _ _ s;refine aA (wpAny_of_eq (show uO "min" ["key","default"] 0 ⟨[],[(fV "key", .ref q)]⟩=pure [ZY (.ref q),ZX] from rfl) ?_)
  refine aA (aF ?_);refine aA (wpAny_pyIter_list hls ?_);refine aA (wpAny_newList ?_ (iB _));rw[ajx,hS];refine aF ⟨plainId_quiet gU _,lE (R:=λr s'=>∃v,r=.ok (.ret v)/\Q v s') ?_ λr s' h=>hR r s' h⟩
  generalize hs1:({ s with heap:=(s.heap.push { cls:=.type "list_iterator", data:=.fields #[.ref l,.int 0 0] }).push (rE "list" #[] 0) }:aN)=s1 at g0
  have gI:s1.heap.get? s.heap.objs.size=ZY { cls:=.type "list_iterator", data:=.fields #[.ref l,.int 0 0] }:=by rw[<-hs1];exact aB _ (aM _ rfl)
  have gS:s1.heap.get? (s.heap.objs.size+1)=ZY (rE "list" #[] 0):=by rw[<-hs1,<-hS];exact aM _ rfl
  obtain⟨vs,hL,hi⟩:=M.hl _ g0;have W:=qW (prog:=prog) (w:=w) (A:=A.in1) M.hh s.heap.objs.size l M.lI vs.toArray;have hsz:vs.toArray.size=vs.length:=aP ..
  have hln:=hi.length;obtain⟨n,hn⟩:∃n,ns[0]? = ZY n:=⟨_,aG hne⟩
  obtain⟨t1,ht1⟩:=hi.get 0 n hn;refine jC pY ?_;rw[gM gU _];show bD _ A.in1 (seqItems? (.ref (s.heap.objs.size+1)) >>= _) _ _ _;refine aA (gG gS rfl ?_);show bD _ A.in1 (tryCatch (nF (.ref s.heap.objs.size)) _ >>= _) _ _ _;refine aA (wpAny_tryCatch (W.item 0 _ _ _ (by rw[hsz];omega) ⟨⟨_,gI,rfl,rfl⟩,hL⟩ λv h' tk' hP hst' hk'=>?_))
  have hv:vs[0]? = ZY v:=by simpa using hP
  rw[ht1] at hv;cases hv;obtain⟨oI,hoI,hoc,hod⟩:=id hst'.1;have g1:=M.gI s1 h' tk' g0 hk';have gS':=hk' _ _ (by simpa using M.SI) gS
  show bD _ A.in1 (tryCatch (mU [.int n t1] (call (.ref q) [.int n t1])) _ >>= _) _ _ _;refine aA (wpAny_tryCatch (dD (aZ (M.turn 0 n t1 _ _ oI hn g1 gS' hoI ⟨_,_,rfl⟩ ⟨_,hod⟩) (λx s2 he=>?_) λ_ _ hF=>hF.elim)))
  obtain⟨⟨t2,rfl⟩,g2,hS2,hI2⟩:=he;have s1':=cO s2.heap (s.heap.objs.size+1) (iM λ_ => #[.int n t1,.int (kf 0) t2])
  obtain⟨c2,hc2⟩:∃c2,(s2.heap.update (s.heap.objs.size+1) (iM λ_ => #[.int n t1,.int (kf 0) t2])).get? (s.heap.objs.size+1)=ZY (rE "list" #[.int n t1,.int (kf 0) t2] c2):=⟨_,get?_update_seq hS2 λ_ => #[.int n t1,.int (kf 0) t2]⟩
  show bD _ A.in1 (updateSeq (s.heap.objs.size+1) (λ_ => #[.int n t1,.int (kf 0) t2]) >>= _) _ _ _
  refine aA ?_;refine wpAny_updateSeq hS2 rfl ?_;rw[ajx];refine aF ⟨plainId_quiet gU _,atc M _ 0 0 _ n t1 t2 c2 rfl hne (M.gS _ _ g2 s1') hc2 ⟨oI,(s1'.2 _ M.SI.symm).trans hI2,hoc,hod⟩ hn (aL _) λj' hj'=>?_⟩
  have e:j'=0:=by omega
  subst e;exact⟨by omega,λh=>absurd h (iG _)⟩
 simp only[checkBuiltinCall,PySem.F.kind_min];cases hsig:Manifest.signature? "min" with
 |none=>exact aF tree
 |some sig=>
  have ha':Bind.checkArgs "min" sig ⟨[.ref l],[(fV "key", .ref q)]⟩=pure ():=by simpa only[uB,hsig] using atd (.ref l) (.ref q)
  simp only[ha'];exact aF tree
end
open PySem.Calls
def akq{qs:Array aH}{a b:Int}{v:aH}(h:TriplesOk qs.toList):TriplesOk (qs ++ #[iZ a,iZ b,v]).toList:=by
 rw[xN];exact TriplesOk_snoc _ _ _ _ h
theorem avs{p:Pos}{x y:Int}{v cv:aH}:∀{l:List aH},TriplesOk l->oY p (l++[iZ x,iZ y,v])=ZY cv->oY p l=ZY cv∨cv=v:=by
 intro l
 induction l using PySem.TriplesOk.induct with
 |case1=>
  intro _ h;refine .inr ?_;have h':(if (x == ↑p.line&&y == ↑p.col)=ZW then ZY v else ZX)=ZY cv:=h
  split at h'
  ·cases h';rfl
  ·cases h'
 |case2 i t j t' c rest ih=>
  intro hk h;rw[TriplesOk.eq_2] at hk;rw[dH,dH,dH,oY.eq_1] at h;rw[oY.eq_1];split
  ·rename_i hc;rw[if_pos hc] at h;exact .inl h
  ·rename_i hc;rw[if_neg hc] at h;exact ih hk h
 |case3 l h1 h2=>
  intro hk;rw[TriplesOk.eq_3 l h1 h2] at hk;exact hk.elim
def aq0{qs:Array aH}{p:Pos}{x y:Int}{v cv:aH}(ht:TriplesOk qs.toList)(h:oY p (qs ++ #[iZ x,iZ y,v]).toList=ZY cv):oY p qs.toList=ZY cv∨cv=v:=by
 rw[xN] at h;exact avs ht h
def cxL(X:Cx)(N:List Str)(scope:nO)(fr:List Str)(f:bB)(cd:aH)(s:aN)(H:Hp):Cx where
 prog:=X.prog
 w:=X.w
 K:=X.K
 mg:=X.mg
 base:=X.base
 A:=X.A.in1.deeper (tK LamQ scope s.heap.objs.size f cd (lq X.env fr))
 N:=N
 s₀:=s
 H₀:=H
 env:=tK LamQ scope s.heap.objs.size f cd (lq X.env fr)
 outer:=X.stack
 stack:=tK LamQ scope s.heap.objs.size f cd (lq X.env fr)::X.stack
 ex:=[]
 fn:=λ_=>ZV
 calm:=X.calm
 pn:=[]
 xe:=λ_ _=>False
section
variable{X:Cx}{zv:List (bB×Obj)}{σ:L2.St}{H:Hp}{s:aN}{scope:nO}{fr N:List Str}{src:List 'G'}{f:bB}{cd:aH}{y:Str}
def a68(I:Inv X zv σ H s)(C:CompOk X.env X.N scope fr N src)(hkind:scope.kind=.function):(cxL X N scope fr f cd s H).Ok where
 mod:=I.ok.mod
 kind:=hkind
 glob:=rfl
 blt:=rfl
 above:=aL _
 inj:=λx y c h1 h2=>I.ok.inj x y c (jn h1) (jn h2)
 has:=λx hx=>by
  have hm:x∈fr:=by
   rcases hx with e |e
   ·exact absurd rfl (C.cell _ (fZ (show scope.names.lookup x=ZY .cell from e)))
   ·exact C.free _ (fZ (show scope.names.lookup x=ZY .free from e)) rfl
  obtain⟨c,hc⟩:=I.ok.has x (C.out x hm);exact⟨c,ur hm hc⟩
 cab:=λ_ _ h _=>absurd h cM
 hd:=I.ok.hd
 frames:=rD (A:=X.A.in1) I.ok.frames
 stk:=.inr ⟨rfl,rfl⟩
 exf:=λb hb=>absurd (show b∈([]:List bB) from hb) (by simp)
 bs:=I.bs
 bsz:=bV I.ok.bsz I.sz
 noex:=λb o e hb=>absurd (show b∈([]:List bB) from hb) (by simp)
 exfs:=λb hb z=>absurd (show b∈([]:List bB) from hb) (by simp)
 funs:=I.stack
 frf:=I.stkFree
 tb:=I.tb
def a1k(I:Inv X zv σ H s)(C:CompOk X.env X.N scope fr (y::N) (ZX::src))(hkind:scope.kind=.function)(hy:scope.names.lookup y=ZY .local){v:V}{u:aH}(r:RelV v u){h':iK}{tk:Nat}{m:Str->Option aH}
  (hns:h'.Ns s.heap.objs.size m) (hm:m y=ZY u) (hk:∀b o,s.heap.get? b=ZY o->h'.get? b=ZY o):Inv (cxL X (y::N) scope fr f cd s H) [] (ZY v::pick src σ) H { s with heap:=h',toks:=tk } where
 ok:=a68 I C hkind
 os:=rfl
 bare:=I.bare
 base:=Un.kept hk
 loc:=by
  refine⟨m,hns,λi x v' h1 h2 h3=>?_⟩
  cases i with
  |zero=>
   have e1:y=x:=by simpa[cxL] using h1
   have e2:v=v':=by simpa using h2
   subst e1 e2;exact⟨u,r,.inl ⟨hy,hm⟩⟩
  |succ i=>
   have h2':(pick (ZX::src) σ)[i+1]? = ZY (ZY v'):=by simpa[pick] using h2
   obtain⟨j,hj,hv⟩:=ajk h2';obtain⟨hN,hm⟩:=ab3 C.src h1 hj;obtain⟨mo,_,hlo⟩:=I.loc;have vis:Vis X.env.scope x:=by
    rcases C.out x hm with e |e
    ·exact .inr (.inl e)
    ·exact .inr (.inr e)
   obtain⟨u,r,l⟩:=hlo j x v' hN hv vis;refine⟨u,r,.inr ⟨.inr (C.frk x hm),?_⟩⟩;rcases l with⟨e,_⟩ |⟨_,c,hc,z⟩
   ·rcases C.out x hm with q |q
    ·rw[q] at e;cases e
    ·rw[q] at e;cases e
   ·obtain⟨o,ho,hd⟩:=z;exact⟨c,ur hm hc,o,hk c o ho,hd⟩
 cell:=λx c e=>by
  obtain⟨v,o,ho,hd⟩:=I.cell x c (jn e);exact⟨v,o,hk c o ho,hd⟩
 free:=I.hok.fresh (aL _)
 freeC:=λx c e=>I.freeC x c (jn e)
 pin:=λp hp=>absurd (show p∈([]:List (bB×Obj)) from hp) (by simp)
 hok:=I.hok.kept hk
 len:=by
  have:=ab2 C.src;simp at this;simp[cxL,pick,this]
def axk{nm:Str}{params:Arguments}{body:fP}{pm ctv u:aH}{c':bB}{oc:Obj}{v:V}{t:TE}{Q:VK}(I:Inv X zv σ H s)(C:CompOk X.env X.N scope fr (y::N) (ZX::src))(hkind:scope.kind=.function)(hy:scope.names.lookup y=ZY .local)
  (hco:scope.isCoroutine=ZV) (hgen:scope.isGenerator=ZV) (hroom:X.A.in1.depth<recursionLimit)
  (hp:(f,nY nm LamQ params body scope (lq X.env fr) pm c' ctv)∈zv) {P:bB} (hc':H c'=ZY (.frz oc (.own P))) (hrec:a2z oc)
  (hbind:oK (Aj nm LamQ params body scope (lq X.env fr) pm (.ref c') ctv) ⟨[u],[]⟩=pure [(y,u)]) (hb:∀s H,PE (cxL X (y::N) scope fr f (.ref c') s H) body t) (r:RelV v u) (hq:t (ZY v::pick src σ) H Q) :
  bD 'D' X.A.in1 (call (.ref f) [u]) (EP X zv σ Q) (λ_ _=>False) s:=by
 have hcr:s.heap.CodeRec (.ref c') LamQ:=by
  obtain⟨e,_⟩:=I.hok c' _ hc';obtain⟨vs,tt,h1,h2⟩:=hrec;exact⟨c',oc,vs,tt,rfl,e,h1,h2⟩
 refine lZ (PySem.W.kla_callFunE hroom (I.pin _ (bO _ hp)).1 rfl hco hgen rfl hcr ?_);rw[hbind];refine aF (wpAny_newFunctionEnv C.cell (λx hx=>?_) (λh₁ hns hsb=>?_) hkind)
 ·have e:x=(y,u):=by simpa using hx
  subst e;exact hy
 have keep:∀b o,s.heap.get? b=ZY o->h₁.get? b=ZY o:=λb o e=>hsb.extBut b o (bI (aO e)) (aB _ e)
 refine⟨I.nolimit.keeps keep,?_⟩;show mZ _ _ (.expr body (tK LamQ scope s.heap.objs.size f (.ref c') (lq X.env fr))) _ _;have J:=a1k (f:=f) (cd:=.ref c') (tk:=s.toks+[(y,u)].length) I C hkind hy r hns (by simp[dF]) keep
 refine PySem.W.kla_codeExpr (aZ (hb s H [] _ _ H Q J hq) (λv s' h=>?_) λ_ _ h=>h.elim)
 obtain⟨x,H',J',r',q⟩:=h;exact⟨x,H',Inv.call' I J'.os (ch:=[]) J'.base J'.hok J'.bare (λb hb=>absurd hb (by simp)),r',q⟩
end
section
variable{X:Cx}{zv:List (bB×Obj)}{σ:L2.St}{H:Hp}{s:aN}{scope:nO}{fr:List Str}{params:Arguments}{body:fP}{pos:Pos}{c P:bB}{Q:aH->aN->Prop}{E:aH->aN->Prop}
def Mk(P:bB)(H H':Hp)(c':bB)(oc:Obj):Prop:=H' c'=ZY (.frz oc (.own P))/\(H'=H∨(H c'=ZX/\H'=upd H c' (.frz oc (.own P))))
theorem axj(I:Inv X zv σ H s)(hT:iW X.K LamN=ZY (c,P))(hcode:X.env.code=.ref c)(hq:X.env.qual ++ "<lambda>"=LamQ)(hcl:mV scope X.env=pure (lq X.env fr))(hdef:defaultsOf params X.env=([],[]))
  (h:∀f c' oc pm ctv H' s',Mk P H H' c' oc->a2z oc->Inv X ((f,nY "<lambda>" LamQ params body scope (lq X.env fr) pm c' ctv)::zv) σ H' s'->Q (.ref f) s') :
  bD 'D' X.A (eval (.Lambda params body scope pos) X.env) Q E s:=by
 refine PySem.W.kla_eval hdef ?_;rw[hq];obtain⟨CH,ps,hHP⟩:=I.tb.tb c P hT;obtain⟨qs,hP,htr,hcs⟩:=I.hok P _ hHP;have CS:Al s.heap c P:=CH.keeps I.bk;have hgs:s.heap.Ns aW X.mg:=I.mod.glob.keeps I.bk;obtain⟨bm,ob,b1,b2,b3,b4,b5,b6⟩:=I.tb.bm;have hgP:aW≠P:=λq=>by
  obtain⟨o,es,ep,e,hd,_⟩:=hgs;rw[q,hP] at e;cases e;cases hd
 have hbP:bm≠P:=λq=>by
  have e:=I.bk _ _ b3;rw[q,hP] at e;cases e;cases b4
 have hbG:bm≠mainGlobals:=λq=>by
  obtain⟨o,es,ep,e,hd,_⟩:=I.mod.glob;rw[q,e] at b3;cases b3;rw[hd] at b6;cases b6
 have hB:s.heap.BuiltinsAt X.mg P:=⟨bm,ob,b1,b2,hbG,hbP,I.bk _ _ b3,b4,b5,b6⟩;have pinF:∀{H':Hp} {s':aN} {o:Obj} {f:bB},Inv X zv σ H' s'->s'.heap.get? f=ZY o->H' f=ZX->s.heap.objs.size<=f->(∀v,o.data≠.cell v)->Inv X ((f,o)::zv) σ H' s':=λ{H' s' o f} J e n hf hd=>by
  refine J.pins_of λp hp=>?_
  rcases bA.mp hp with rfl |hp
  ·exact⟨e,n,gP (bN I.lt hf),I.nofs hf,hd⟩
  ·exact J.pin p (bO _ hp)
 cases hf:oY pos qs.toList with
 |some cv=>
  obtain⟨c',oc,rfl,hc',hr⟩:=hcs pos cv hf;refine PySem.W.kla_makeFunctionHit hcl I.ok.glob hgs hcode CS hP htr hf hB λctv h' tk hk hsz=>?_
  have J:Inv X zv σ H { s with heap:=h'.push (nY "<lambda>" LamQ params body scope (lq X.env fr) ((X.mg "__name__").getD .none) c' ctv),toks:=tk }:=I.kept λb o e=>aB _ (hk b o e)
  exact h h'.objs.size c' oc _ ctv H _ ⟨hc',.inl rfl⟩ hr (pinF J (aM _ rfl) (I.hok.fresh hsz) hsz (λ_ z=>by cases z))
 |none=>
  refine PySem.W.kla_makeFunction hcl I.ok.glob hgs hcode CS hP htr hf hgP hB λc' ctv h' tk hx hge hlt hrec htb=>?_
  obtain⟨c2,oc,vs,tt,e2,hoc,hd,hv⟩:=hrec;cases e2;have nH:H c'=ZX:=I.hok.fresh hge;have ncP:c'≠P:=λz=>by
   rw[z,hHP] at nH;cases nH
  have old:∀b o,s.heap.get? b=ZY o->b≠c':=λb o e z=>absurd (bN (aO e) hge) (by rw[z];exact iG _)
  generalize hF:nY "<lambda>" LamQ params body scope (lq X.env fr) ((X.mg "__name__").getD .none) c' ctv=of;have kp:∀b o,b≠P->s.heap.get? b=ZY o->(h'.push of).get? b=ZY o:=λb o nb e=>aB _ (hx b o nb e)
  have np:∀b,H b=ZX->b≠P:=λb n z=>by rw[z,hHP] at n;cases n
  have u:Un X.fs [] H (upd H c' (.frz oc (.own P))) s.heap (h'.push of):=by
   refine⟨λb o e n _ _=>kp b o (np b n) e,λb o e n _ _=>⟨o.slots,kp b o (np b n) e⟩,λb o e n _=>by rw[cg (old b o e)];exact n,λb o e _=>?_,λb xs e=>by rw[cg (gr e nH)];exact e,λb o u e=>by rw[cg (gr e nH)];exact e,λb ps e=>⟨#[],by rw[cg (gr e nH),e];simp⟩⟩
   by_cases nb:b=P
   ·subst nb;exact⟨_,aB _ htb⟩
   ·exact⟨o,kp b o nb e⟩
  have gc:(h'.push of).get? c'=ZY oc:=aB _ hoc;have hok:HOk X.prog X.w (upd H c' (.frz oc (.own P))) (h'.push of):=λb z e=>by
   by_cases nb:b=c'
   ·subst nb;rw[gw] at e;cases e;exact⟨gc,oc,gc⟩
   ·rw[cg nb] at e
    by_cases nP:b=P
    ·subst nP;rw[hHP] at e;cases e;refine⟨_,aB _ htb,?_,λp cv q=>?_⟩
     ·exact akq htr
     ·rcases aq0 htr q with q |q
      ·obtain⟨c1,o1,r1,h1,h2⟩:=hcs p cv q;exact⟨c1,o1,r1,by rw[cg (gr h1 nH)];exact h1,h2⟩
      ·exact⟨c',oc,q,gw,vs,tt,hd,hv⟩
    ·refine(I.hok b z e).stay (λc1 v hc q=>kp c1 v ?_ q) (λc1 q=>by rw[cg (gr q nH)];exact q) (λc1 xs q=>by rw[cg (gr q nH)];exact q) λc1 _ _ q=>by rw[cg (gr q nH)];exact q
     rcases hc with z1 |z1
     ·rw[z1];exact nP
     ·intro z2;rw[z2,hHP] at z1;cases z1
  have J:=I.un (t':=tk) u hok;have nf:h'.objs.size≠c':=gP hlt;have sz:s.heap.objs.size<=h'.objs.size:=bV hge (jL hlt);refine h h'.objs.size c' oc ((X.mg "__name__").getD .none) ctv _ _ ⟨gw,.inr ⟨nH,rfl⟩⟩ ⟨vs,tt,hd,hv⟩ ?_;rw[hF];exact pinF J (aM _ (by rw[<-hF];rfl)) (by rw[cg nf];exact I.hok.fresh sz) sz (λ_ z=>by rw[<-hF] at z;cases z)
end
def aq4(K:Fg9)(H:Hp)(w:bB)(n k x:Int):Prop:=∃xs r ys a,SqL K H w xs/\atI xs n=ZY (.ref r)/\SqL K H r ys/\atI ys k=ZY (.int a)/\x=if a<0 then -a else a
def aq4.mono{K:Fg9}{H H':Hp}{w:bB}{n k x:Int}(g:L2.Same H H')(h:aq4 K H w n k x):aq4 K H' w n k x:=by
 obtain⟨xs,r,ys,a,h1,h2,h3,h4⟩:=h;exact⟨xs,r,ys,a,g.seq h1,h2,g.seq h3,h4⟩
def tKey(K:Fg9):TE:=λσ H Q=>∃n w k x,σ[0]? = ZY (ZY (.int n))/\σ[1]? = ZY (ZY (.ref w))/\σ[2]? = ZY (ZY (.int k))/\aq4 K H w n k x/\Q (.int x) H
theorem an8:∀{ns:List Int} {vs:List aH},Vals (ns.map V.int) vs->nA vs ns
 | [],_,.nil=>.nil
 |n::r,_,.cons h t=>by
  obtain⟨k,rfl⟩:=h;exact .cons _ _ (an8 t)
section
variable{X:Cx}
def a5a{x y z:Str}{p1 p2 p3 p4 p5 p6 p7:Pos}(h0:PE X (.Name x p1) (tVar 0))(h1:PE X (.Name y p2) (tVar 1))(h2:PE X (.Name z p3) (tVar 2))(hg:Gl X "abs")(hm:X.mg "abs"=ZX):PE X (.Call (.Name "abs" p4) [.Subscript (.Subscript (.Name y p2) (.Name x p1) p5) (.Name z p3) p6] [] p7) (tKey X.K):=by
 intro zv s σ H Q I h;obtain⟨n,w,k,v,e0,e1,e2,⟨xs,r,ys,a,k1,k2,k3,k4,rfl⟩,q⟩:=h;exact acu aya hg hm (by rfl) (uc (a0t ane (a0t ane h1 h0 (λ_ _=>rfl)) h2 (λ_ _=>rfl)) acf) (by decide) (by decide) rfl rfl zv s σ H Q I ⟨_,e1,_,e0,w,xs,n,_,rfl,rfl,k1,k2,_,e2,r,ys,k,_,rfl,rfl,k3,k4,a,rfl,q⟩
def a3r(K:Fg9)(ia iw ik:Nat):TE:=λσ H Q=>∃(l w:bB) (k:Int) (ns:List Int) (kf:Int->Int),σ[ia]? = ZY (ZY (.ref l))/\σ[iw]? = ZY (ZY (.ref w))/\σ[ik]? = ZY (ZY (.int k))/\SqL K H l (ns.map V.int)/\(∀n∈ns,aq4 K H w n k (kf n))/\0<ns.length /\
 ∀i m H',L2.Same H H'->ns[i]? = ZY m->Bst (λj=>kf (ns.getD j 0)) (ns.length-1) i->Q (.int m) H'
def a0s{al body:fP}{p kp lpos pos:Pos}{params:Arguments}{scope:nO}{fr:List Str}{y z1 z2:Str}{ia iw ik k:Nat}{c P:bB}(hr:Room (k+1) X.A)(hc:X.calm=ZW)(hT:iW X.K LamN=ZY (c,P))(hcode:X.env.code=.ref c)
  (hq:X.env.qual ++ "<lambda>"=LamQ) (hva:PE X al (tVar ia)) (hg:Gl X "min") (hm:X.mg "min"=ZX) (hb:∀f cd s H,PE (cxL X [y,z1,z2] scope fr f cd s H) body (tKey X.K))
  (hy:scope.names.lookup y=ZY .local) (hok:af8 X.env X.N scope fr [y,z1,z2] [ZX,ZY iw,ZY ik]=ZW) (hcl:mV scope X.env=pure (lq X.env fr)) (hdef:defaultsOf params X.env=([],[])) (hkind:scope.kind=.function)
  (hco:scope.isCoroutine=ZV) (hgen:scope.isGenerator=ZV) (hbind:∀cl pm cd ct u,oK (Aj "<lambda>" LamQ params body scope cl pm cd ct) ⟨[u],[]⟩=pure [(y,u)])
  (he:aQ [al] X.env=[(ZV,eval al X.env)]:=by rfl) :
  PE X (.Call (.Name "min" p) [al] [⟨ZY "key", .Lambda params body scope lpos,kp⟩] pos) (a3r X.K ia iw ik):=by
 have C:=CompOk.of hok;intro zv s σ H Q I h;obtain⟨l,w,k,ns,kf,hl,hw,hk,hL,hkey,hne,q⟩:=h;refine wpAny_Call_Name_kw (af2 I hg hm (by rfl) ?_)
 refine callWith_kw (env:=X.env) (thn (uc hva acf he pos zv s σ H (λvs H1=>vs=[.ref l]/\H1=H) I ⟨_,hl,rfl,rfl⟩) λus s1 z9=>?_) (by rw[he];rfl) (by rw[he];rfl) rfl rfl
 obtain⟨vs,H1,I1,r1,rfl,rfl⟩:=z9;obtain⟨u,rfl,ru⟩:=vals1 r1;cases ru;refine kws_cons (axj I1 hT hcode hq hcl hdef λf c' oc pm ctv H' s' mk hrec I2=>kws_nil ?_)
 have sm:L2.Same H1 H':=by
  rcases mk.2 with e |⟨n,e⟩
  ·rw[e];exact λ_ _ h=>h
  ·rw[e];exact Same.new n _
 show bD _ _ (call (.builtin "min") [.ref l] [(fV "key", .ref f)]) _ _ _;generalize hpf:(f,nY "<lambda>" LamQ params body scope (lq X.env fr) pm c' ctv)=pf at I2;have hls:∀s'',Inv X (pf::zv) σ H' s''->∃vs,s''.heap.IsList l (List.toArray vs)/\nA vs ns:=λs'' J=>by
  obtain⟨its,rv,pl,_⟩:=J.list (sm.seq hL);exact⟨its,pl.isList,an8 rv⟩
 obtain⟨vs0,hl0,hi0⟩:=hls s' I2;have lt0:l<s'.heap.objs.size:=by obtain⟨_,e,_⟩:=hl0;exact aO e
 have fI:H' s'.heap.objs.size=ZX:=I2.hok.fresh (aL _);have fS:H' (s'.heap.objs.size+1)=ZX:=I2.hok.fresh (iC _);have FI:FpOk X (pf::zv) H' s'.heap.objs.size:=I2.fpOk (aL _) fI;have FS:FpOk X (pf::zv) H' (s'.heap.objs.size+1):=I2.fpOk (iC _) fS;refine axa (G:=λs''=>Inv X (pf::zv) σ H' s'') (kf:=λj=>kf (ns.getD j 0)) hl0 hne (λr s'' z=>?_) (I2.kept (t':=s'.toks) λb o e=>aB _ (aB _ e)) ?_
 ·obtain⟨v,rfl,z⟩:=z;exact z
 ·refine⟨I.ok.hd hc,hls,bI lt0,zK _,λs1 h1 tk J kp=>?_,λs1 h1 J sb=>?_,λi n t s1 oS oI hn J eS eI dS dI=>?_,λi n t s1 hn hB J=>?_⟩
  ·exact J.turned (λb o nb e=>kp b o (by simpa using nb) e) FI.1 FI.2.1 FI.2.2.2.1 FI.2.2.2.2.1 FI.2.2.2.2.2
  ·exact J.turned (t':=s1.toks) (λb o nb e=>(sb.2 b nb).trans e) FS.1 FS.2.1 FS.2.2.2.1 FS.2.2.2.2.1 FS.2.2.2.2.2
  ·obtain⟨its,nn,dS⟩:=dS;obtain⟨fvs,dI⟩:=dI;have J2:Inv X ((s'.heap.objs.size,oI)::(s'.heap.objs.size+1,oS)::pf::zv) σ H' s1:=J.pins_of λp hp=>by
    rcases bA.mp hp with rfl |hp
    ·exact⟨eI,FI.1,FI.2.1,FI.2.2.1,λ_ z=>by rw[dI] at z;cases z⟩
    rcases bA.mp hp with rfl |hp
    ·exact⟨eS,FS.1,FS.2.1,FS.2.2.1,λ_ z=>by rw[dS] at z;cases z⟩
    exact J.pin p (bO _ hp)
   have hkn:=(hkey n (iV hn)).mono sm;have e1:kf (ns.getD i 0)=kf n:=by rw[aY,hn];rfl
   refine thn (axk (v:=.int n) (Q:=λv H2=>v=.int (kf n)/\H2=H') J2 C hkind hy hco hgen hr.in1.depth (by rw[hpf];simp) mk.1 hrec (hbind _ _ _ _ _) (λs H=>hb f _ s H) ⟨t,rfl⟩ ⟨n,w,k,kf n,rfl,by simp[pick,hw],by simp[pick,hk],hkn,rfl,rfl⟩) λx s2 z9=>?_
   obtain⟨v,H2,J3,r3,rfl,rfl⟩:=z9;refine⟨?_,J3.pins_of λp hp=>J3.pin p (bO _ (.tail _ (.tail _ hp))),(J3.pin _ (bO _ (.tail _ (.head _)))).1,(J3.pin _ (bO _ (.head _))).1⟩
   rw[e1];exact r3
  ·exact⟨_,rfl,.int n,H',J.pins_of λp hp=>J.pin p (bO _ (.tail _ hp)),⟨t,rfl⟩,q i n H' sm hn hB⟩
end
end Mn
namespace Dn
open L2 Mn
def Fun.okC{P:cF}{w:dX}{K:Fg9}{mg:Str->Option aH}{base:iK}{x qual:Str}{st:jG}{f:bB}{fd:eU}{N ps:List Str}{k:Nat}{sp:Sp}(F:Fun K x qual st f fd)(S:FnScope N ps (aq st))(len:∀vs H Q E,sp vs H Q E->vs.length=ps.length)
  (hbody:∀(cdv:aH) (A:dG) (outer:List Env) (s:aN) (H:Hp) (vs:List V) (Q:VK) (E:XK),fd.code=cdv->Room k (A.deeper (nU qual (aq st) s.heap.objs.size f cdv))->sp vs H Q E ->
   ∃t,PSs (cxOf CX0 P w K mg base N qual (aq st) f cdv A outer s H E).nox (jm st) t/\t { nx:=λ_ H'=>Q .non H',rt:=Q } (start N vs) H):FnOk P w K mg base CX0 (k+1) f fd ps sp:=by
 obtain⟨oc,od,kV,doc,pm,an,cdv,ct,osl,rfl,lk,hcd⟩:=F.ex;refine a1x lk hcd S len λA outer s H vs Q E hr hsp=>?_
 obtain⟨t,h,q⟩:=hbody cdv A outer s H vs Q E rfl hr hsp;exact⟨t,h.nox,q⟩
def a6x{K:Fg9}{P:cF}{w:dX}{mg:Str->Option aH}{base:iK}{x qual:Str}{st:jG}{f:bB}{fd:eU}{N ps:List Str}{k:Nat}{g:Sd}(F:Fun K x qual st f fd)(S:FnScope N ps (aq st))
  (body:∀(cdv:aH) (A:dG) (outer:List Env) (s:aN) (H:Hp) (E:XK),fd.code=cdv->Room k (A.deeper (nU qual (aq st) s.heap.objs.size f cdv))->SVs K (cxOf CX0 P w K mg base N qual (aq st) f cdv A outer s H E).nox (jm st) g) :
  FnOk P w K mg base CX0 (k+1) f fd ps (spOf K ps.length (fnD N.length ps.length g)):=by
 refine Fun.okC F S (λvs H Q E h=>h.1) (λcdv A outer s H vs Q E hc hr h=>⟨_,body cdv A outer s H E hc hr rfl,?_⟩)
 obtain⟨hn,F,as,r,ps',G,em,q⟩:=h;have hl:as.length=(vs.map ZY).length:=G.len;have G1:=G.app (N.length-vs.length);have es:start N vs=vs.map ZY++aK (N.length-vs.length) ZX:=rfl;rw[es];unfold fnD at em;rw[<-hn] at em;have fin:∀{ρ':Ro} {σ':L2.St} {F' H':Hp},Good K (tgOf (vs.map ZY)) F' H' ρ' σ'->Fin K F' H' (vs.map ZY) (ρ'.take vs.length) (Own ρ' σ'):=λ{ρ' σ' F' H'} G'=>⟨λi l e=>by
  have hi:=(aJ.mp e).1;rw[eQ] at hi;rw[jY (by omega)] at e
  obtain⟨o,ho,a,ws,rfl,hf,hh,hl,ht⟩:=G'.at e;rw[ht i rfl];exact⟨⟨i,⟨_,_,e⟩,ho⟩,hf,ws,hh,hl⟩⟩
 split at em
 ·rename_i r' ρ' e;cases em;refine⟨_,F,_,.ret r,ρ',G1,e,λv σ' H' F' G' x' rr=>?_⟩
  rw[vp hl] at x' rr;exact q v H' F' (Own ρ' σ') G'.sub x' (fin G') rr
 ·rename_i ρ' e;cases em;refine⟨_,F,_,.nx,ρ',G1,e,λσ' H' F' G' x'=>?_⟩
  rw[vp hl] at x';exact q .non H' F' (Own ρ' σ') G'.sub x' (fin G') .non
 ·cases em
 ·cases em
def awd{K:Fg9}{qual:Str}{st:jG}{f c P:bB}{fd:eU}{x y:Str}(F:Fun K x qual st f fd)(a:nsIn K aW y=ZY (ZY (.ref f)))(t:iW K y=ZY (c,P)):fd.code=.ref c:=by
 obtain⟨oc,od,kV,doc,pm,an,cdv,ct,osl,rfl,lk,hcd⟩:=F.ex;unfold iW at t;rw[a] at t;simp only[lk] at t;split at t
 ·split at t
  ·split at t
   ·cases t;rfl
   ·cases t
  ·cases t
 ·cases t
def a6w{K:Fg9}{P:cF}{w:dX}{mg:Str->Option aH}{base:iK}{x qual:Str}{st:jG}{f c Pt:bB}{fd:eU}{N ps:List Str}{k nl np:Nat}{g:Sd}(F:Fun K x qual st f fd)(S:FnScope N ps (aq st))(h1:N.length=nl)(h2:ps.length=np)
  (a:nsIn K aW LamN=ZY (ZY (.ref f))) (t:iW K LamN=ZY (c,Pt))
  (body:∀(A:dG) (outer:List Env) (s:aN) (H:Hp) (E:XK),Room k (A.deeper (nU qual (aq st) s.heap.objs.size f (.ref c)))->SVs K (cxOf CX0 P w K mg base N qual (aq st) f (.ref c) A outer s H E).nox (jm st) g) :
  FnOk P w K mg base CX0 (k+1) f fd ps (spOf K np (fnD nl np g)):=by
 subst h1 h2;refine a6x F S λcdv A outer s H E hc hr=>?_
 rw[awd F a t] at hc;subst hc;exact body A outer s H E hr
def keyM(l:List D)(k n:Int):Option Int:=match atI l n with
 |some (.lst r)=>(match atI r k with
  |some (.int a)=>ZY (if a<0 then -a else a)
  |_=>ZX)
 |_=>ZX
noncomputable def minK(kf:Int->Int):List Int->Int->Int
 | [],b=>b
 |n::r,b=>if kf n<kf b then minK kf r n else minK kf r b
theorem ahc(kf:Int->Int):∀(r p:List Int) (b:Int) (i j:Nat),(p++r)[i]? = ZY b->i<p.length->(∀j',j'<p.length->kf b<=kf ((p++r).getD j' 0)/\(j'<i->kf b<kf ((p++r).getD j' 0))) ->
  (p++r)[j]? ≠ ZX->(∀j',j'<(p++r).length->kf ((p++r).getD j 0)<=kf ((p++r).getD j' 0)/\(j'<j->kf ((p++r).getD j 0)<kf ((p++r).getD j' 0)))->(p++r)[j]? = ZY (minK kf r b)
 | [],p,b,i,j,hb,hi,hm,hj,hbst=>by
  show _=ZY b;rw[iJ] at *;have hj':j<p.length:=by
   cases eY j p.length with
   |inl h=>exact h
   |inr h=>exact absurd (jP h) hj
  have gd:∀q,q<p.length->p[q]? = ZY (p.getD q 0):=λq hq=>by rw[aY,aG hq];rfl
  have hbd:p.getD i 0=b:=by rw[aY,hb];rfl
  have e:i=j:=by
   rcases tD i j with h |h |h
   ·have h1:=(hbst i hi).2 h;rw[hbd] at h1;have h2:=(hm j hj').1;omega
   ·exact h
   ·have h1:=(hm j hj').2 h;have h2:=(hbst i hi).1;rw[hbd] at h2;omega
  rw[<-e];exact hb
 |n::r,p,b,i,j,hb,hi,hm,hj,hbst=>by
  have es:p++n::r=(p++[n])++r:=by simp
  have hn:(p++n::r)[p.length]? = ZY n:=by simp
  have hnd:(p++n::r).getD p.length 0=n:=by rw[aY,hn];rfl
  by_cases c:kf n<kf b
  ·have:minK kf (n::r) b=minK kf r n:=by show(if _ then _ else _)=_;rw[if_pos c]
   rw[this];have:=ahc kf r (p++[n]) n p.length j (by rw[<-es];exact hn) (by simp) (λj' hj'=>by
    rw[<-es];simp at hj';rcases eY j' p.length with h |h
    ·have:=hm j' h;exact⟨by omega,λ_=>by omega⟩
    ·have e:j'=p.length:=by omega
     rw[e,hnd];exact⟨Int.le_refl _,λh=>absurd h (iG _)⟩) (by rw[<-es];exact hj) (by rw[<-es];exact hbst)
   rw[<-es] at this;exact this
  ·have:minK kf (n::r) b=minK kf r b:=by show(if _ then _ else _)=_;rw[if_neg c]
   rw[this];have:=ahc kf r (p++[n]) b i j (by rw[<-es];exact hb) (by simp;omega) (λj' hj'=>by
    rw[<-es];simp at hj';rcases eY j' p.length with h |h
    ·exact hm j' h
    ·have e:j'=p.length:=by omega
     rw[e,hnd];exact⟨by omega,λh=>by omega⟩) (by rw[<-es];exact hj) (by rw[<-es];exact hbst)
   rw[<-es] at this;exact this
def atf(ia iw ik:Nat):M D:=λρ=>match ρ[ia]?,ρ[iw]?,ρ[ik]? with
 |some (.own _ al),ZY (.own _ l),ZY (.val (.int k))=>(match abn al with
  |some (n::r)=>if (n::r).all (λm=>(keyM l k m).isSome)=ZW then ZY (.ok (.int (minK (λm=>(keyM l k m).getD 0) r n)),ρ) else ZX
  |_=>ZX)
 |_,_,_=>ZX
theorem avq{K:Fg9}{F:Hp}{l:List D}{vs:List V}{n:Int}{d:D}(h:IsL K F l vs)(e:atI l n=ZY d):∃v,atI vs n=ZY v/\Is K F d v:=by
 unfold atI at e ⊢
 rw[h.length] at e;cases q:ixN vs.length n with
 |none=>rw[q] at e;cases e
 |some j=>
  rw[q] at e;have e':l[j]? = ZY d:=e;obtain⟨v,h1,h2⟩:=h.get e';exact⟨v,h1,h2⟩
def a2d{K:Fg9}{X:Cx}{e:fP}{ia iw ik:Nat}(h:PE X e (a3r X.K ia iw ik)):EV K X e (atf ia iw ik):=EV.mk λhk=>by
 subst hk;refine PE.imp h λσ H Q z9=>?_
 obtain⟨tg,F,ρ,d,ρ',G,em,q⟩:=z9;unfold atf at em;split at em
 ·rename_i t1 al t2 l k ea ew ek;split at em
  ·rename_i n r ei;split at em
   ·rename_i hc;cases em;obtain⟨o1,s1,a,vs,rfl,fa,ha,la,_⟩:=G.at ea;obtain⟨o2,s2,w,ws,rfl,fw,hw,lw,_⟩:=G.at ew;obtain⟨o3,s3,v3,rfl,hv3⟩:=G.at ek;cases hv3;rw[agn ei] at la;have ev:=la.int_inv;subst ev;refine⟨a,w,k,n::r,λm=>(keyM l k m).getD 0,s1,s2,s3,SqL.of ha,λm hm=>?_,by simp,λi m H' sm hi hb=>?_⟩
    ·have h1:=cL.mp hc m hm;obtain⟨x,hx⟩:=pA.mp h1;show aq4 _ _ _ _ _ ((keyM l k m).getD 0);rw[hx];unfold keyM at hx;split at hx
     ·rename_i rr er;obtain⟨v,ev,iv⟩:=avq lw er;split at hx
      ·rename_i b eb;cases hx;cases iv with
       |lst e2 hl2=>
        obtain⟨u,eu,iu⟩:=avq hl2 eb;cases iu;exact⟨ws,_,_,b,SqL.of hw,ev,SqL.of (G.sub _ _ e2),eu,rfl⟩
      ·cases hx
     ·cases hx
    ·have hm:m=minK (λm=>(keyM l k m).getD 0) r n:=by
      have h1:=ahc (λm=>(keyM l k m).getD 0) r [n] n 0 i rfl (by simp) (λj' hj'=>by
       have e:j'=0:=by simpa using hj'
       subst e;exact⟨Int.le_refl _,λh=>absurd h (iG _)⟩) (by show(n::r)[i]? ≠ ZX;rw[hi];simp) (λj' hj'=>by
       have h2:=hb j' (by have:j'<(n::r).length:=hj';omega)
       exact h2)
      have h2:(n::r)[i]? = _:=h1;rw[hi] at h2;exact bJ h2
     subst hm;refine q _ H' F ⟨λb o e=>sm _ _ (G.sub _ _ e),G.len,λj s o e1 e2=>?_,G.inj⟩ ⟨λ_ _ e=>e,λ_ _ e=>.inl e,λb o e _=>sm _ _ e,λ_ z=>.inl z,λb z=>sm.free z⟩ (.int _)
     have s1:=G.sl j s o e1 e2;cases s with
     |own t l'=>
      obtain⟨b,vs1,rfl,hb1,hb2,hb3,hb4⟩:=s1;exact⟨b,vs1,rfl,hb1,sm _ _ hb2,hb3,hb4⟩
     |box c fs=>
      obtain⟨b,C,dx,fvs,rfl,hb1,hb2,hb3⟩:=s1;exact⟨b,C,dx,fvs,rfl,hb1,sm _ _ hb2,hb3⟩
     |_=>exact s1
   ·cases em
  ·cases em
 ·cases em
def aid:D->Bool
 |.lst l=>l.all anq
 |d=>ad2 d
theorem aiy{K:Fg9}{F:Hp}:∀{l:List D} {vs:List V},IsL K F l vs->l.all anq=ZW->∀a,V.ref a∉vs
 | [],_,h,_,a=>by cases h;simp
 |d::r,_,h,hd,a=>by
  rw[kO,bC] at hd;cases h with
  |cons h t=>
   intro hm;rcases bA.mp hm with e |e
   ·subst e;cases h <;> cases hd.1
   ·exact aiy t hd.2 a e
theorem IsL.aid{K:Fg9}{F:Hp}{a:bB}{xs:List V}(ha:F a=ZY (.lst xs)):∀{l:List D} {vs:List V},IsL K F l vs->(∀v∈vs,v∈xs)->l.all Dn.aid=ZW->IsL K (agc F a) l vs
 | [],_,h,_,_=>by cases h;exact .nil
 |d::r,_,h,hs,hd=>by
  rw[kO,bC] at hd;cases h with
  |cons h t=>
   refine .cons ?_ (IsL.aid ha t (λv hv=>hs v (aR _ hv)) hd.2)
   cases h with
   | @lst b vs' ds e hl=>
    refine .lst (agl e λq=>?_) (hl.flat hd.1)
    subst q;rw[ha] at e;cases e;exact aiy hl hd.1 b (hs _ (aX ..))
   |tup e hl=>exact .tup (agl e λq=>by rw[q,ha] at e;cases e) (hl.flat hd.1)
   |non=>exact .non
   |bl b=>exact .bl b
   |int i=>exact .int i
   |str s=>exact .str s
   |_=>cases hd.1
def ais(i j:Nat)(m:M Rv):M Rv:=λρ=>match ρ[i]?,ρ[j]?,m ρ with
 |some (.own ZX l),ZY (.val _),ZY (.ok (.fr ys),ρ')=>if ys.all ad2=ZW/\l.all aid=ZW/\(cI ρ i .emp).all okT=ZW then ZY (.ok (.fr ys),ρ) else ZX
 |_,_,_=>ZX
def azl(i j:Nat)(m:M Rv):Prop:=∀(ρ ρ':Ro) (l ys:List D),ρ[i]? = ZY (.own ZX l)->m ρ=ZY (.ok (.fr ys),ρ')->(∃d,ρ[j]? = ZY (.val d))->ρ'=cI ρ i (.val (.lst l))
def aql:azl i j (sr [ZX,ZX,ZY j] (mGet afm (bf (mVar i) mNil)) b mc me):=λρ ρ' l ys ei h hj=>by
 obtain⟨l2,ρ1,ys2,ps,e1,_,_,_,_,rfl⟩:=aoq h;obtain⟨ds,ρ2,e2,e3⟩:=bj e1;obtain⟨_,rfl⟩:=jb e3;obtain⟨d,ρ3,e4,e5⟩:=bj e2;obtain⟨ds2,ρ4,e6,e7⟩:=bj e5;obtain⟨rfl,rfl⟩:=lr e6;obtain⟨rfl,rfl⟩:=lr e7;have e8:ρ1=cI ρ i (.val (.lst l)):=by
  unfold mVar at e4;rw[ei] at e4;cases e4;rfl
 rw[e8];obtain⟨dj,hj⟩:=hj;refine yQ λq=>?_
 unfold putB;rw[nJ];have hset:(cI ρ i (Sl.val (.lst l)))[q]? = if i=q then ZY (.val (.lst l)) else ρ[q]? := getset ei q
 by_cases hq:q=j
 ·subst hq;have:∃d,(cI ρ i (Sl.val (.lst l)))[q]? = ZY (.val d):=by
   rw[hset];split
   ·exact⟨_,rfl⟩
   ·exact⟨_,hj⟩
  obtain⟨d,hd⟩:=this;rw[hd];exact congrArg ZY (by unfold putS;split <;> rfl)
 ·cases(cI ρ i (Sl.val (.lst l)))[q]? with
  |none=>rfl
  |some s=>
   refine congrArg ZY ?_;unfold putS;have:([ZX,ZX,ZY j]:List 'G').findIdx? (λo=>o==ZY q)=ZX:=by
    simp[yC];omega
   rw[this]
def aqm{K:Fg9}{tg:Nat->bB}{F H F' H':Hp}{ρ:Ro}{σ:L2.St}{i:Nat}{l ys:List D}{v:V}(ei:ρ[i]? = ZY (.own ZX l))(hy:ys.all ad2=ZW)(hl3:l.all aid=ZW)(hfl:(cI ρ i .emp).all okT=ZW)(G:Good K tg F H ρ σ)
  (G':Good K tg F' H' (cI ρ i (.val (.lst l))) σ) (x:Ext (Own ρ σ) (Own (cI ρ i (.val (.lst l))) σ) F H F' H') (rr:relR K (.fr ys) v H (Own ρ σ) F' H' (Own (cI ρ i (.val (.lst l))) σ)) :
  ∃F2,Good K tg F2 H' ρ σ/\Ext (Own ρ σ) (Own ρ σ) F H F2 H'/\relR K (.fr ys) v H (Own ρ σ) F2 H' (Own ρ σ):=by
 obtain⟨b,vs,rfl,hb,hfb,hhb,hlb,hnb⟩:=rr;obtain⟨oi,hoi,ai,vi,rfl,hfi,hhi,hli,hti⟩:=G.at ei;have hset:∀j,(cI ρ i (.val (.lst l)))[j]? = if i=j then ZY (.val (.lst l)) else ρ[j]? := getset ei
 have hset2:∀j,(cI ρ i Sl.emp)[j]? = if i=j then ZY Sl.emp else ρ[j]? := getset ei
 have frI:∃vs',F' ai=ZY (.lst vs')/\IsL K F' l vs':=by
  obtain⟨v',ev,hv⟩:=G'.sl i _ _ (by rw[hset,if_pos rfl]) hoi
  cases ev;cases hv with
  |lst e hl=>exact⟨_,e,hl⟩
 obtain⟨vi',hFi,hli'⟩:=frI;have okAt:∀(j:Nat) (s:Sl),i≠j->(ρ:List Sl)[j]? = ZY s->okT s=ZW:=λj s hj e=>cL.mp hfl _ (iV (by rw[hset2 j,if_neg hj];exact e))
 have sF:Same F (agc F' ai):=λc o z=>agl (x.sub _ _ z) λw=>by rw[w,hfi] at z;cases z
 refine⟨agc F' ai,⟨λc o z=>G'.sub _ _ (aor z).2,G.len,λj s o e1 e2=>?_,G.inj⟩,⟨sF,λc o z=>x.new c o (aor z).2,x.keep,λc z=>.inl z,x.there⟩,⟨b,vs,rfl,hb,?_,hhb,IsL.ad2 hFi hlb hy,λ⟨j,⟨t,l',ej⟩,ev⟩=>?_⟩⟩
 ·have s1:=G.sl j s o e1 e2
  by_cases hj:i=j
  ·subst hj;rw[ei] at e1;cases e1;obtain⟨a,vs1,rfl,ha,_,_,ht⟩:=s1;rw[hoi] at e2;cases e2;exact⟨ai,vi',rfl,by unfold agc;rw[if_pos rfl],G'.sub _ _ hFi,IsL.aid hFi hli' (λ_ z=>z) hl3,ht⟩
  ·have s2:=okAt j s hj e1;cases s with
   |own t l'=>
    obtain⟨a,vs1,rfl,ha,_,_,ht⟩:=s1;obtain⟨a2,vs2,ea,hf2,hh2,hl2,_⟩:=G'.sl j _ _ (by rw[hset,if_neg hj];exact e1) e2
    cases ea;exact⟨a,vs2,rfl,by unfold agc;split;rfl;exact hf2,hh2,IsL.ad2 hFi hl2 s2,ht⟩
   |val d=>
    obtain⟨v,ev,hv⟩:=s1;exact⟨v,ev,hv.mono sF⟩
   |emp=>exact s1
   |_=>cases s2
 ·unfold agc;split;rfl;exact hfb
 ·by_cases hj:i=j
  ·subst hj;rw[hoi] at ev;cases ev;rw[hFi] at hfb;cases hfb
  ·exact hnb ⟨j,⟨t,l',by rw[hset,if_neg hj];exact ej⟩,ev⟩
def atg{i j:Nat}{m:M Rv}{ρ ρ':Ro}{r:Rv}(em:ais i j m ρ=ZY (.ok r,ρ'))(hm:azl i j m):ρ'=ρ/\∃l ys,r=.fr ys/\ρ[i]? = ZY (.own ZX l)/\ys.all ad2=ZW/\l.all aid=ZW/\(cI ρ i .emp).all okT=ZW/\m ρ=ZY (.ok (.fr ys),cI ρ i (.val (.lst l))):=by
 unfold ais at em;split at em
 ·rename_i l dj ys ρ1 ei ej e1;split at em
  ·rename_i hc;obtain⟨hy,hl3,hfl⟩:=hc;have e:=hm _ _ _ _ ei e1 ⟨_,ej⟩;cases em;exact⟨rfl,l,ys,rfl,ei,hy,hl3,hfl,by rw[<-e];exact e1⟩
  ·cases em
 ·cases em
section
variable{K:Fg9}{X:Cx}{tgt iter elt:fP}{pos p:Pos}
def awf(fr N:List Str)(j iw:Nat)(hN:X.N.Nodup)(hxi:X.N[i]? = ZY x)(hx:Loc X.env.scope x)(hc:X.calm=ZW)(hi:IT K X tgt iter (mGet afm (bf (mVar iw) mNil)))
  (hg:∀fp s H,GV K (cxC X N scope fr fp s H) tgt bb) (ht:∀fp s H,EIf K (cxC X N scope fr fp s H) ifs mc) (he:∀fp s H,EV K (cxC X N scope fr fp s H) elt me)
  (hsw:mF (.ListComp elt [⟨tgt,iter,ifs,0⟩] scope cpos) (ZY (.Name x p)) pos.line X.env=pure ZW:=by rfl)
  (hok:af8 X.env X.N scope fr N [ZX,ZX,ZY j]=ZW:=by rfl) (hkind:scope.kind=.function:=by rfl) (hclos:mV scope X.env=pure (lq X.env fr):=by rfl)
  (hs:∀x,gC iter X.env x=pure x:=by intro _;rfl) (hf:X.fn x=ZW∨X.env.scope.names.lookup x=ZY .local:=by first |exact .inl rfl |exact .inr rfl |assumption) :
  SV K X (.Assign [.Name x p] (.ListComp elt [⟨tgt,iter,ifs,0⟩] scope cpos) pos) (dSet i (ais iw j (sr [ZX,ZX,ZY j] (mGet afm (bf (mVar iw) mNil)) bb mc me))):=SV.mk λhk=>by
 have hkc:∀fp s H,(cxC X N scope fr fp s H).K=K:=λ_ _ _=>hk
 refine PS.imp (asj fr N _ hN hxi hx hc (hi hk) (λfp s H=>(hg fp s H).go (hkc _ _ _)) (λfp s H=>(ht fp s H).go (hkc _ _ _)) (λfp s H=>(he fp s H).go (hkc _ _ _)) hsw hok hkind hclos hs hf) λE σ H z9=>?_
 obtain⟨tg,F,ρ,fl,ρ',G,em,q⟩:=z9;refine yz em q λr ρ1 e1 em=>?_
 cases em;obtain⟨rfl,l,ys,rfl,ei,hy,hl3,hfl,e2⟩:=atg e1 aql;refine agq σ H _ ⟨tg,F,_,_,_,G,e2,λv H' F' G' x rr=>?_⟩
 obtain⟨F2,G3,x3,r3⟩:=aqm ei hy hl3 hfl G G' x rr;obtain⟨G2,x2⟩:=G3.store x3 i r3;exact q _ H' F2 G2 x2
end
@[simp] theorem ath(i j:Nat)(m:M Rv)(ρ:Ro):ais i j m ρ=match ρ[i]?,ρ[j]?,m ρ with
 |some (.own ZX l),ZY (.val _),ZY (.ok (.fr ys),ρ')=>if ys.all ad2=ZW/\l.all aid=ZW/\(cI ρ i .emp).all okT=ZW then ZY (.ok (.fr ys),ρ) else ZX
 |_,_,_=>ZX:=rfl
section
variable{K:Fg9}{X:Cx}{a:fP}{p p2:Pos}
def apr{j:Nat}{m:M D}(h:XE K X a m):XE K X (.Compare a [.IsNot] [.Constant .none j p] p2) (mIsN ZW m):=⟨λhk hn zv s σ H tg F ρ x ρ' I G em=>by
 rcases aaq (qy.mp em) with em |⟨_,_,_,em⟩
 ·exact wpAny_Compare1 (aZ (h.go hk hn zv s σ H tg F ρ x ρ' I G (qy.mpr em)) (λ_ _ z=>z.elim) λ_ _ z=>z) (ajw _ (by decide) (by decide))
 ·cases em⟩
end
end Dn
end
namespace Dn
open PySem L2
@[simp] abbrev gL9(d:D):Option Rv:=(itemsD d).map λl=>.v (.int l.length)
@[simp] abbrev gT9(d:D):Option Rv:=(itemsD d).map λl=>.v (.tup l)
end Dn
namespace My
open PySem L2 Mn Dn
noncomputable def NS:List Str:=["ArrowError","NoArrows","NoRoom","NoWalkers","NotShut","NeverBack","NoTour","NoRow","NoHouse","NotOpen","Nobody","NoText","TooGreat"]
def aiw:Sd :=
 (dRet (M.v (mAnd (mIsi .int (dw 0)) (mUn gNot (mIsi .bool (dw 0))))))
def abb:Fd:=fnD 1 1 aiw
def wj:Sd :=
 (dRet (M.v (mAnd (M.d (mFn abb [ZY 0] (fj 0 gj))) (ale (λi j=>decide (i<=j)) (λi j=>decide (i<=j)) (mVar 1) (mVar 0) (mVar 2)))))
def j9:Fd:=fnD 3 3 wj
def wu:Sd :=
 (dRet (M.v (mAnd (mIsi .tuple (dw 0)) (ale (λi j=>decide (i<=j)) (λi j=>decide (i<=j)) (mVar 1) (M.d (jo (g1 gL9) (ji 0 mNil))) (mVar 2)))))
def kh:Fd:=fnD 3 3 wu
def anv:M D :=
 (M.d (mOp (gIn ZV) (bz 0 (dw 1))))
def aki:M Bool :=
 (ab1 (M.d (jo (g1 gAll) (bf (M.d (sr [ZX,ZY 1] (uw (M.d (mOp gIx (bz 2 (dw 0))))) (cj 0) (ret ZW) anv)) mNil))))
def anu:M D :=
 (mVar 0)
def ai7:M Bool :=
 (jd (gCmp λi j=>decide (i<j)) (ie (M.d (jo (g1 gL9) (ji 1 mNil))) (dw 2)))
def ai5:Sd :=
 (dSeq (dSet 2 (jo (g1 gL9) (ji 1 mNil))) (dSet 1 (sr [ZX,ZY 1,ZY 0] (uw (mVar 1)) (cj 0) aki anu)))
def ay2:Sd :=
 (dSeq (dSet 1 (afg (bf (M.d (jo (g1 gL9) (ji 0 mNil))) mNil))) (dSeq (dSet 2 (mOp gAdd (ie (M.d (jo (g1 gL9) (ji 1 mNil))) (ret (.int 1))))) (dSeq (whileD ai7 ai5 fuel) (dRet (jo (g1 gT9) (ji 1 mNil))))))
def alq:Fd:=fnD 3 1 ay2
def vz:Sd :=
 (dSeq (dOk (dSet 1 (mFn alq [ZY 0] (fj 0 gj)))) (dIf (okS (jd (gEq ZW) (bz 1 (mTup mNil)))) (ad6 "NotOpen" "room" (okS (M.d (mOp gIx (bz 1 'H'))))) dNx))
def f9:Fd:=fnD 2 1 vz
def abr:M D :=
 (M.d (mFn j9 [ZY 0,ZX,ZY 1] (fj 0 (bc 'H' (fj 1 gj)))))
def ack:Sd :=
 (dSeq (dIf (ate (ab1 (M.d (mFn kh [ZY 1,ZX,ZX] (fj 1 (bc (M.d (jo (g1 gL9) (ji 0 mNil))) (bc (M.d (jo (g1 gL9) (ji 0 mNil))) gj))))))) (dRet (M.v (ret (.bl ZV)))) dNx) (dRet (jo (g1 gAll) (bf (M.d (sr [ZX,ZY 2] (uw (mVar 1)) (cj 0) (ret ZW) abr)) mNil))))
def qx:Fd:=fnD 3 3 ack
def aay:M D :=
 (M.d (mOp gIx (bz 0 (dw 1))))
def aax:M D :=
 (M.d (sr [ZX,ZY 0] (uw (mVar 1)) (cj 0) (ret ZW) aay))
def aeu:Sd :=
 (dRet (sr [ZX,ZY 0] (mGet um (bf (M.d (jo (g1 gL9) (ji 0 mNil))) mNil)) (cj 0) (ret ZW) aax))
def su:Fd:=fnD 1 1 aeu
def adq:Sd :=
 (dIf (jd (gEq ZW) (ie (M.d (mOp gIx (ie (M.d (mOp gIx (bz 0 (dw 2)))) (dw 1)))) 'H')) (dRet (agb 2)) dNx)
def aiu:Sd :=
 (dSeq (dFor (mGet aj3 (bf (mVar 1) (bf (M.d (jo (g1 gL9) (ji 0 mNil))) mNil))) (cj 2) adq) (dRet (M.v (ret .non))))
def aa9:Fd:=fnD 3 2 aiu
def afp:M D :=
 (M.d (jo (g1 λd=>(itemsD d).map λl=>.fr l) (ji 0 mNil)))
def alm:Sd :=
 (dSeq (dSet 3 (sr [ZX] (uw (mVar 0)) (cj 0) (ret ZW) afp)) (dSeq (dIf (jd (gEq ZW) (bz 1 (dw 2))) dNo dNx) (dRet (agb 3))))
def acl:Fd:=fnD 4 3 alm
def ac2:M D :=
 (M.d (mOp (gInt fDiv) (ie (M.d (mOp (gInt fSub) (ie (M.d (mOp gMul (ie (M.d (mOp gIx (bz 3 (dw 5)))) (dw 0)))) (M.d (mOp gMul (ie (M.d (mOp gIx (bz 2 (dw 5)))) (dw 1))))))) (dw 4))))
def acz:Sd :=
 (dIf (jd (gEq ZV) (bz 5 (dw 1))) (u6 (M.v (mMut 4 ad1 (bf (M.d (jo (g1 λd=>(itemsD d).map λl=>.fr l) (ji 3 mNil))) mNil)))) (u6 (M.v (mMut 4 ad1 (bf (M.d (sr [ZX,ZX,ZY 6,ZY 3,ZY 2,ZY 1] (mGet anl (bf (mVar 6) (bf (mVar 3) mNil))) (bTup 2 (jl (cj 0) (jl (cj 1) bNil))) (ret ZW) ac2)) mNil)))))
def aln:Sd :=
 (dSeq (dSet 3 (mOp gIx (bz 0 (dw 1)))) (dSeq (dSet 4 (mLst mNil)) (dSeq (dFor (mGet afm (bf (mVar 0) mNil)) (bTup 2 (jl (cj 5) (jl (cj 6) bNil))) acz) (dRet (agb 4)))))
def acn:Fd:=fnD 7 3 aln
def aey:M D :=
 (M.d (mOp gAdd (ie (M.d (jo (g1 λd=>(itemsD d).map λl=>.fr l) (ji 0 mNil))) (M.d (mLst (bf (mVar 1) mNil))))))
def aes:Sd :=
 (dSeq (dSet 5 (mFn aa9 [ZY 2,ZX] (fj 2 (bc (mVar 4) gj)))) (dSeq (dIf (ab1 (mIsN ZV (dw 5))) (dRet (M.v (ret .non))) dNx) (dSeq (dSet 2 (mFn acl [ZX,ZY 4,ZY 5] (bc (mVar 2) (fj 4 (fj 5 gj))))) (dSeq (dSet 2 (mFn acn [ZX,ZY 4,ZY 3] (bc (mVar 2) (fj 4 (fj 3 gj))))) (dSet 3 (mOp gIx (ie (M.d (mOp gIx (bz 2 (dw 4)))) (dw 4))))))))
def ahq:M D :=
 (M.d (mOp gIx (bz 0 (M.d (jo (g1 gL9) (ji 1 mNil))))))
def ao4:Sd :=
 (dSeq (dSet 2 (sr [ZX,ZX] (mGet anl (bf (mVar 0) (bf (mVar 1) mNil))) (bTup 2 (jl (cj 0) (jl (cj 1) bNil))) (ret ZW) aey)) (dSeq (dSet 3 (M.v (ret (.int 1)))) (dSeq (dFor (mGet um (bf (M.d (jo (g1 gL9) (ji 0 mNil))) mNil)) (cj 4) aes) (dRet (M.v (mTup (bf (M.d (sr [ZX,ZY 0] (uw (mVar 2)) (cj 0) (ret ZW) ahq)) (bf (mVar 3) mNil))))))))
def xg:Fd:=fnD 6 2 ao4
def aev:Sd :=
 (dSeq (dSet 1 (mFn xg [ZX,ZX] (bc (mVar 0) (bc (M.d (mOp gMul (ie (M.d (mLst (bf 'H' mNil))) (M.d (jo (g1 gL9) (ji 0 mNil)))))) gj)))) (dRet (mIf (ab1 (mIsN ZV (dw 1))) (M.v 'H') (mOp gIx (bz 1 (ret (.int 1)))))))
def uy:Fd:=fnD 2 1 aev
def ake:M D :=
 (M.d (mOp (gInt fSub) (bz 0 (M.d (mOp (gInt alr) (bz 2 (dw 1)))))))
def at4:Sd :=
 (dRet (sr [ZX,ZX,ZY 1] (mGet anl (bf (mVar 0) (bf (mVar 2) mNil))) (bTup 2 (jl (cj 0) (jl (cj 1) bNil))) (ret ZW) ake))
def ac8:Fd:=fnD 3 3 at4
def ahs:M D :=
 (M.d (jo (g1 λd=>(itemsD d).map λl=>.fr l) (ji 0 mNil)))
def abe:M Bool :=
 (jd (gEq ZW) (ie (M.d (mOp gIx (bz 1 (dw 2)))) 'H'))
def abd:M D :=
 (mVar 0)
def ahp:M D :=
 (M.d (mOp (gInt alr) (bz 1 (dw 0))))
def aab:Sd :=
 (dIf (jd (gEq ZW) (bz 7 (dw 4))) (dSub 2 (mVar 7) (M.d (mFn ac8 [ZX,ZX,ZX] (bc (M.d (mOp gIx (bz 2 (dw 7)))) (bc (M.d (mOp (gInt als) (ie (M.d (mOp gIx (ie (M.d (mOp gIx (bz 2 (dw 7)))) (dw 1)))) (M.d (mOp gIx (ie (M.d (mOp gIx (bz 2 (dw 4)))) (dw 1))))))) (bc (M.d (mOp gIx (bz 2 (dw 4)))) gj)))))) dNx)
def akr:M Bool :=
 (ab1 (ret (.bl ZW)))
def zg:Sd :=
 (dSeq (dSet 3 (ais 2 1 (sr [ZX,ZX,ZY 1] (mGet afm (bf (mVar 2) mNil)) (bTup 2 (jl (cj 0) (jl (cj 1) bNil))) abe abd))) (dSeq (dSet 4 (M.v (atf 3 2 1))) (dSeq (dIf (jd (gEq ZV) (bz 3 (M.d (mLst (bf (mVar 4) mNil))))) (dSeq (dSet 5 (mIf (jd (gCmp λi j=>decide (j<i)) (ie (M.d (mOp gIx (ie (M.d (mOp gIx (bz 2 (dw 4)))) (dw 1)))) 'H')) (M.v (ret (.int 1))) (M.v (mUn gNeg (ret (.int 1)))))) (dSeq (dSet 6 (sr [ZX,ZY 5] (uw (M.d (mOp gIx (bz 2 (dw 4))))) (cj 0) (ret ZW) ahp)) (dRet (mOp gAdd (ie (M.d (mOp gAdd (ie (M.d (mLst (bf (mVar 6) mNil))) (M.d (ana 2 (ret ZX) (aic (mVar 4))))))) (M.d (ana 2 (aic (M.d (mOp gAdd (bz 4 (ret (.int 1)))))) (ret ZX)))))))) dNx) (dFor (uw (mVar 3)) (cj 7) aab))))
def ao5:Sd :=
 (dSeq (dSet 2 (sr [ZX] (uw (mVar 0)) (cj 0) (ret ZW) ahs)) (whileD akr zg fuel))
def aew:Fd:=fnD 8 2 ao5
def ahr:M D :=
 (M.d (jo (g1 λd=>(itemsD d).map λl=>.fr l) (ji 0 mNil)))
def aer:Sd :=
 (dSeq (dSet 2 (mFn aew [ZX,ZY 3] (bc (mVar 2) (fj 3 gj)))) (dSeq (u6 (M.v (mMut 1 ad1 (bf (M.d (mOp gIx (bz 2 'H'))) mNil)))) (dSet 2 (ana 2 (aic (ret (.int 1))) (ret ZX)))))
def ao3:Sd :=
 (dSeq (dSet 1 (mLst mNil)) (dSeq (dSet 2 (sr [ZX] (uw (mVar 0)) (cj 0) (ret ZW) ahr)) (dSeq (dFor (mGet um (bf (M.d (jo (g1 gL9) (ji 0 mNil))) mNil)) (cj 3) aer) (dRet (agb 1)))))
def yu:Fd:=fnD 4 1 ao3
def adt:Sd :=
 (dSet 2 (mFn ac8 [ZX,ZX,ZX] (bc (mVar 2) (bc (M.d (mOp (gInt als) (ie (M.d (mOp gIx (bz 2 (dw 3)))) (M.d (mOp gIx (bz 4 (dw 3))))))) (bc (mVar 4) gj)))))
def aiv:Sd :=
 (dSeq (dSet 2 (jo (g1 λd=>(itemsD d).map λl=>.fr l) (ji 1 mNil))) (dSeq (dFor (mGet afm (bf (mVar 0) mNil)) (bTup 2 (jl (cj 3) (jl (cj 4) bNil))) adt) (dRet (agb 2))))
def aba:Fd:=fnD 5 2 aiv
def aag:M D :=
 (mUn gNeg (ald 1 (bf (mVar 0) mNil)))
def l1_doors_square:Sd :=
 (dSeq (dSet 4 (sr [ZX,ZY 3] (mGet um (bf (M.d (jo (g1 gL9) (ji 0 mNil))) mNil)) (cj 0) (ret ZW) aag)) (dSeq (an0 (λi j=>i+j) 4 (mVar 2) (M.d (jo (g1 gL9) (ji 3 mNil)))) (u6 (M.v (mMut 1 ad1 (bf (mVar 4) mNil))))))
def ac6:Sd :=
 (dSeq (dSet 1 (mLst mNil)) (dSeq (dFor (mGet afm (bf (mVar 0) mNil)) (bTup 2 (jl (cj 2) (jl (cj 3) bNil))) l1_doors_square) (dRet (agb 1))))
def jj:Fd:=fnD 5 1 ac6
def j8:Sd :=
 (dIf (okS (ate (ab1 (M.d (mFn qx [ZY 0,ZX,ZX] (fj 0 (bc (mVar 2) (bc (ret (.int 1000000000000000000000000000000)) gj)))))))) (al3 ⟨"NoWalkers", []⟩) dNx)
def lu:Sd :=
 (dSeq (dFor (okS (uw (mVar 1))) (cj 2) j8) (u6 (mFn f9 [ZY 0] (fj 0 gj))))
def dh:Fd:=fnD 3 2 lu
def aj0:Sd :=
 (dSet 3 (mFn ac8 [ZX,ZY 5,ZX] (bc (mVar 3) (fj 5 (bc (mVar 4) gj)))))
def anj:Sd :=
 (dSeq (dSet 3 (jo (g1 λd=>(itemsD d).map λl=>.fr l) (ji 1 mNil))) (dSeq (dFor (mGet anl (bf (M.d (mFn jj [ZX] (bc (mVar 0) gj))) (bf (mVar 2) mNil))) (bTup 2 (jl (cj 4) (jl (cj 5) bNil))) aj0) (dRet (agb 3))))
def ad3:Fd:=fnD 6 3 anj
def aav:Sd :=
 (dSeq (u6 (mFn dh [ZY 0,ZX] (fj 0 (bc (M.d (okS (mLst (bf (mVar 1) mNil)))) gj)))) (dOk (dRet (jo (g1 gT9) (bf (M.d (mFn ad3 [ZX,ZY 1,ZX] (bc (mVar 0) (fj 1 (bc (mVar 2) gj))))) mNil)))))
def jk:Fd:=fnD 3 3 aav
def yq:M D :=
 (M.d (mOp (gEq ZW) (ie (M.d (mOp (gInt fMod) (bz 0 (dw 1)))) 'H')))
def yp:M D :=
 (M.d (mOp (gInt fDiv) (bz 0 (dw 1))))
def aac:Sd :=
 (dSeq (dSet 3 (mFn xg [ZX,ZX] (bc (M.d (mFn su [ZX] (bc (M.d (mFn jj [ZX] (bc (mVar 0) gj))) gj))) (bc (M.d (mFn ac8 [ZX,ZX,ZX] (bc (mVar 1) (bc (ret (.int 1)) (bc (mVar 2) gj))))) gj)))) (dSeq (dSet 4 (mOp gIx (bz 3 (ret (.int 1))))) (dSeq (dIf (ab1 (M.d (jo (g1 gAny) (bf (M.d (sr [ZX,ZY 4] (uw (M.d (mOp gIx (bz 3 'H')))) (cj 0) (ret ZW) yq)) mNil)))) (dRet (M.v (ret .non))) dNx) (dRet (jo (g1 gT9) (bf (M.d (sr [ZX,ZY 4] (uw (M.d (mOp gIx (bz 3 'H')))) (cj 0) (ret ZW) yp)) mNil))))))
def nu:Fd:=fnD 5 3 aac
def adx:Sd :=
 (dSeq (u6 (mFn dh [ZY 0,ZX] (fj 0 (bc (M.d (okS (mLst (bf (mVar 1) (bf (mVar 2) mNil))))) gj)))) (dOk (dRet (mFn nu [ZX,ZX,ZX] (bc (mVar 0) (bc (mVar 1) (bc (mVar 2) gj)))))))
def j6:Fd:=fnD 3 3 adx
def ady:Sd :=
 (dRet (M.v (mIsN ZW (M.d (mFn j6 [ZX,ZX,ZX] (bc (okS (mVar 0)) (bc (okS (mVar 1)) (bc (okS (mVar 2)) gj))))))))
def km:Fd:=fnD 3 3 ady
def aci:Sd :=
 (dSeq (u6 (mFn dh [ZY 0,ZX] (fj 0 (bc (M.d (okS (mLst (bf (mVar 1) mNil)))) gj)))) (dOk (dRet (jo (g1 gT9) (bf (M.d (mFn aba [ZX,ZY 1] (bc (M.d (mFn yu [ZX] (bc (M.d (mFn jj [ZX] (bc (mVar 0) gj))) gj))) (fj 1 gj)))) mNil)))))
def jx:Fd:=fnD 2 2 aci
def abq:M D :=
 (M.d (mOp gIx (bz 1 (dw 0))))
def acj:Sd :=
 (dSeq (u6 (mFn f9 [ZY 0] (fj 0 gj))) (dOk (dRet (jo (g1 gT9) (bf (M.d (sr [ZX,ZX] (mGet afm (bf (M.d (mFn yu [ZX] (bc (M.d (mFn jj [ZX] (bc (mVar 0) gj))) gj))) mNil)) (bTup 2 (jl (cj 0) (jl (cj 1) bNil))) (ret ZW) abq)) mNil)))))
def jy:Fd:=fnD 1 1 acj
def ym:Sd :=
 (dSeq (u6 (mFn f9 [ZY 0] (fj 0 gj))) (dOk (dRet (mFn uy [ZX] (bc (M.d (mFn jj [ZX] (bc (mVar 0) gj))) gj)))))
def ig:Fd:=fnD 1 1 ym
def yx:M D :=
 (M.d (mOp gAdd (ie (M.d (mOp (gInt fSub) (bz 0 (M.d (jo (g1 gL9) (ji 1 mNil)))))) (ret (.int 1)))))
def abp:M D :=
 (M.d (jo (g2 (gInt λi j=>ZY (if j > i then j else i))) (bf 'H' (bf (mUn gNeg (M.d (mOp (gInt fDiv) (ie (mUn gNeg (mVar 0)) (M.d (mOp gIx (bz 1 (ret (.int 1))))))))) mNil))))
def af5:Sd :=
 (dSeq (dSet 2 (sr [ZX,ZX] (mGet anl (bf (mVar 1) (bf (mVar 0) mNil))) (bTup 2 (jl (cj 0) (jl (cj 1) bNil))) (ret ZW) yx)) (dSeq (dSet 3 (mFn xg [ZX,ZX] (bc (M.d (mFn su [ZX] (bc (M.d (mFn jj [ZX] (bc (mVar 0) gj))) gj))) (bc (mVar 2) gj)))) (dRet (sr [ZX,ZY 3] (uw (M.d (mOp gIx (bz 3 'H')))) (cj 0) (ret ZW) abp))))
def xu:Fd:=fnD 4 2 af5
def ahk:Sd :=
 (dSeq (dIf (jd (gCmp λi j=>decide (i<j)) (bz 2 (M.d (jo (g1 gL9) (ji 1 mNil))))) (dRet (M.v 'H')) dNx) (dSeq (dSet 3 (mOp (gInt fSub) (ie (M.d (jo (g1 gL9) (ji 1 mNil))) (ald 1 (bf (mVar 0) mNil))))) (dRet (M.v (mUn gNeg (M.d (mOp (gInt fDiv) (ie (mUn gNeg (M.d (mOp gAdd (ie (M.d (mOp (gInt fSub) (bz 2 (M.d (jo (g1 gL9) (ji 1 mNil)))))) (ret (.int 1)))))) (dw 3)))))))))
def aad:Fd:=fnD 4 3 ahk
def afh:Sd :=
 (dSeq (dSet 8 (mFn aad [ZX,ZY 7,ZX] (bc (mVar 6) (fj 7 (bc (M.d (mOp gIx (bz 3 (dw 6)))) gj))))) (dIf (jd (gCmp λi j=>decide (j<i)) (bz 8 'H')) dNo dNx))
def ae4:M Bool :=
 (ab1 (mVar 5))
def w1_settled:Sd :=
 (dSeq (dSet 5 (M.v (ret (.bl ZV)))) (dFor (mGet afm (bf (mVar 0) mNil)) (bTup 2 (jl (cj 6) (jl (cj 7) bNil))) afh))
def ahj:Sd :=
 (dSeq (u6 (mFn dh [ZY 0,ZX] (fj 0 (bc (M.d (okS (mLst (bf (mVar 1) mNil)))) gj)))) (dSeq (dOk (dSet 2 (mFn xu [ZX,ZX] (bc (mVar 0) (bc (mVar 1) gj))))) (dSeq (dOk (dSet 3 (mFn ad3 [ZX,ZY 1,ZX] (bc (mVar 0) (fj 1 (bc (mVar 2) gj)))))) (dSeq (dOk (dSet 4 (mFn jj [ZX] (bc (mVar 0) gj)))) (dSeq (dOk (dSet 5 (M.v (ret (.bl ZW))))) (dSeq (dOk (whileD ae4 w1_settled fuel)) (dOk (dRet (M.v (mTup (bf (M.d (jo (g1 gT9) (ji 3 mNil))) (bf (M.d (jo (g1 gT9) (ji 2 mNil))) mNil))))))))))))
def f_settled:Fd:=fnD 9 2 ahj
def ad0:Sd :=
 (dSeq (dIf (jd (gCmp λi j=>decide (i<j)) (bz 1 (M.d (jo (g1 gL9) (ji 0 mNil))))) (dRet (mOp gIx (bz 0 (dw 1)))) dNx) (dRet (M.v 'H')))
def f__law_cell:Fd:=fnD 2 2 ad0
def aix:Sd :=
 (dSeq (dSet 1 (jo (g2 (gInt λi j=>ZY (if j > i then j else i))) (ji 0 (bf (M.d (mOp (gInt fSub) (ie 'H' (dw 0)))) mNil)))) (dRet (mLst (bf (mVar 1) (bf (M.d (jo (g1 axv) (bf (M.d (mOp (gCmp λi j=>decide (j<=i)) (bz 1 (M.d (mOp (gInt fPow) (ie (ret (.int 10)) (ret (.int 18)))))))) mNil))) mNil)))))
def f__law_pen:Fd:=fnD 2 1 aix
def adz:Sd :=
 (dSeq (dIf (jd (gEq ZV) (ie (M.d (mOp gIx (bz 0 (ret (.int 1))))) (ret (.int 1)))) (dSeq (dAsg (M.d (jo (g2 aj5) (bf (M.d (mOp gIx (bz 0 'H'))) (ji 1 mNil)))) (bTup 2 (jl (cj 2) (jl (cj 3) bNil)))) (dSeq (dSub 0 'H' (mVar 2)) (dRet (agb 3)))) dNx) (dSeq (dSet 4 (mOp (gInt fMod) (ie (M.d (mOp gMul (ie (M.d (mOp gAdd (ie (M.d (mOp (gInt fMod) (ie (M.d (mOp gIx (bz 0 'H'))) (ret (.int 2147483647))))) (ret (.int 40503))))) (ret (.int 69621))))) (ret (.int 2147483629))))) (dSeq (dSet 4 (mOp (gInt fMod) (ie (M.d (mOp gAdd (ie (M.d (mOp gMul (bz 4 (dw 4)))) (ret (.int 7817))))) (ret (.int 2147483587))))) (dSeq (dSub 0 'H' (M.d (mOp (gInt fMod) (ie (M.d (mOp gAdd (ie (M.d (mOp gMul (bz 4 (ret (.int 48271))))) (ret (.int 11))))) (ret (.int 2147483629)))))) (dRet (mOp (gInt fMod) (ie (M.d (mOp (gInt fDiv) (ie (M.d (mOp gIx (bz 0 'H'))) (ret (.int 32))))) (dw 1))))))))
def f__law_draw:Fd:=fnD 5 2 adz
def af6:Sd :=
 (dRet (M.v (mAnd (mIsi .int (dw 0)) (mUn gNot (mIsi .bool (dw 0))))))
def xx:Fd:=fnD 1 1 af6
def abt:M D :=
 (M.d (mOp (gInt fSub) (ie (M.d (mFn f__law_draw [ZY 1,ZX] (fj 1 (bc (M.d (mOp gAdd (bz 2 (dw 3)))) gj)))) (dw 3))))
def abl:Sd :=
 (dSeq (dSet 7 (mOp gAdd (ie (ret (.int 1)) (M.d (mFn f__law_draw [ZY 0,ZY 2] (fj 0 (fj 2 gj))))))) (u6 (M.v (mMut 5 ad1 (bf (M.d (jo (g1 gT9) (bf (M.d (sr [ZX,ZY 0,ZY 3,ZY 4] (mGet um (bf (mVar 7) mNil)) (cj 0) (ret ZW) abt)) mNil))) mNil)))))
def af7:Sd :=
 (dSeq (dSet 3 (mOp gAdd (ie (ret (.int 1)) (M.d (mFn f__law_draw [ZY 0,ZY 1] (fj 0 (fj 1 gj))))))) (dSeq (dSet 4 (mOp gIx (ie (M.d (mLst (bf 'H' (bf (ret (.int 1)) (bf (ret (.int 3)) (bf (ret (.int 3)) mNil)))))) (M.d (mFn f__law_draw [ZY 0,ZX] (fj 0 (bc (ret (.int 4)) gj))))))) (dSeq (dSet 5 (mLst mNil)) (dSeq (dFor (mGet um (bf (mVar 3) mNil)) (cj 6) abl) (dRet (jo (g1 gT9) (ji 5 mNil)))))))
def f__law_house:Fd:=fnD 8 3 af7
def aai:M Bool :=
 (jd (gIn ZW) (bz 0 (dw 1)))
def aah:M D :=
 (mVar 0)
def qj:M Bool :=
 (jd (gCmp λi j=>decide (i<j)) (bz 3 (M.d (jo (g1 gL9) (ji 2 mNil)))))
def kj:Sd :=
 (dSeq (dIf (jd (gCmp λi j=>decide (j<=i)) (ie (M.d (mOp gIx (bz 2 (dw 3)))) 'H')) (dSet 2 (mOp gAdd (bz 2 (M.d (sr [ZX,ZY 2] (uw (M.d (jo (g1 gSet) (bf (M.d (mOp gIx (bz 0 (M.d (mOp gIx (bz 2 (dw 3))))))) mNil)))) (cj 0) aai aah))))) dNx) (dSet 3 (mOp gAdd (bz 3 (ret (.int 1))))))
def ac7:Sd :=
 (dSeq (dSet 2 (mLst (bf (mVar 1) mNil))) (dSeq (dSet 3 (M.v 'H')) (dSeq (whileD qj kj fuel) (dRet (agb 2)))))
def qe:Fd:=fnD 4 2 ac7
def l1__law_open:Sd :=
 (dIf (jd (gCmp λi j=>decide (j<=i)) (ie (M.d (jo (g1 axu) (bf (M.d (mFn qe [ZY 3,ZX] (fj 3 (bc (mVar 4) gj)))) mNil))) 'H')) (dSeq (dSet 5 (mFn f__law_draw [ZY 0,ZX] (fj 0 (bc (M.d (jo (g1 gL9) (bf (M.d (mOp gIx (bz 3 (dw 4)))) mNil))) gj)))) (dSub 3 (mVar 4) (M.d (mOp gAdd (ie (M.d (mOp gAdd (ie (M.d (mCut (M.d (mOp gIx (bz 3 (dw 4)))) (ret ZX) (aic (mVar 5)))) (mTup (bf (M.d (mOp (gInt fSub) (ie (mUn gNeg (ret (.int 1))) (M.d (mFn f__law_draw [ZY 0,ZX] (fj 0 (bc (ret (.int 3)) gj))))))) mNil))))) (M.d (mCut (M.d (mOp gIx (bz 3 (dw 4)))) (aic (M.d (mOp gAdd (bz 5 (ret (.int 1)))))) (ret ZX)))))))) dNx)
def ahm:Sd :=
 (dSeq (dSet 3 (jo (g1 λd=>(itemsD d).map λl=>.fr l) (bf (M.d (mFn f__law_house [ZY 0,ZY 1,ZY 2] (fj 0 (fj 1 (fj 2 gj))))) mNil))) (dSeq (dFor (mGet um (bf (M.d (jo (g1 gL9) (ji 3 mNil))) mNil)) (cj 4) l1__law_open) (dRet (jo (g1 gT9) (ji 3 mNil)))))
def f__law_open:Fd:=fnD 6 3 ahm
def ank:Sd :=
 (dSeq (dSet 1 (mLst (bf (mIsC NS "NoArrows" (dw 0)) (bf (mIsC NS "NoRoom" (dw 0)) (bf (mIsC NS "NoWalkers" (dw 0)) (bf (mIsC NS "NotShut" (dw 0)) mNil)))))) (dSeq (dSet 1 (mOp gAdd (bz 1 (M.d (mLst (bf (mIsC NS "NeverBack" (dw 0)) (bf (mIsC NS "NoTour" (dw 0)) (bf (mIsC NS "NoRow" (dw 0)) (bf (mIsC NS "NoHouse" (dw 0)) mNil))))))))) (dSeq (dSet 1 (mOp gAdd (bz 1 (M.d (mLst (bf (mIsC NS "NotOpen" (dw 0)) (bf (mIsC NS "Nobody" (dw 0)) (bf (mIsC NS "NoText" (dw 0)) (bf (mIsC NS "TooGreat" (dw 0)) mNil))))))))) (dSeq (dIf (mOrB (ate (ab1 (mIsC NS "ValueError" (dw 0)))) (jd (gEq ZW) (ie (ald 1 (bf (ret (.bl ZW)) mNil)) (ret (.int 1))))) (dRet (M.v (ret (.str "other")))) dNx) (dSeq (dSet 2 (mLst (bf (ret (.str "arrows")) (bf (ret (.str "room")) (bf (ret (.str "walkers")) (bf (ret (.str "shut")) (bf (ret (.str "never")) (bf (ret (.str "tour")) (bf (ret (.str "row")) (bf (ret (.str "house")) (bf (ret (.str "open")) (bf (ret (.str "nobody")) (bf (ret (.str "text")) (bf (ret (.str "great")) mNil)))))))))))))) (dRet (mOp gIx (bz 2 (a1i 1 at7 (bf (ret (.bl ZW)) mNil))))))))))
def ww:Fd:=fnD 3 1 ank
def aa8:Sd :=
 (dSeq (dSet 2 (jo (g1 gL9) (ji 1 mNil))) (dSeq (dSet 3 (mFn f__law_draw [ZY 0,ZY 2] (fj 0 (fj 2 gj)))) (dSeq (dSet 4 (mOp gIx (ie (M.d (mLst (bf (M.d (mOp gAdd (ie (M.d (mOp (gInt fPow) (ie (ret (.int 10)) (ret (.int 30))))) (ret (.int 1))))) (bf (mUn gNeg (ret (.int 1))) (bf (ret (.bl ZW)) (bf (ret .non) (bf (ret (.str "1")) (bf (mTup (bf (ret (.int 1)) mNil)) (bf (ret (.bl ZV)) mNil))))))))) (M.d (mFn f__law_draw [ZY 0,ZX] (fj 0 (bc (ret (.int 7)) gj))))))) (dSeq (dSet 5 (mLst (bf (M.d (mOp aj4 (ie (mTup (bf 'H' mNil)) (M.d (mOp gAdd (bz 2 (ret (.int 1)))))))) (bf (M.d (mOp aj4 (ie (mTup (bf 'H' mNil)) (M.d (mOp (gInt fSub) (bz 2 (ret (.int 1)))))))) (bf (M.d (mOp gMul (ie (M.d (mLst (bf 'H' mNil))) (dw 2)))) (bf (ret .non) (bf (M.d (mOp gAdd (ie (M.d (mOp gAdd (ie (M.d (mOp aj4 (ie (mTup (bf 'H' mNil)) (dw 3)))) (mTup (bf (mVar 4) mNil))))) (M.d (mOp aj4 (ie (mTup (bf 'H' mNil)) (M.d (mOp (gInt fSub) (ie (M.d (mOp (gInt fSub) (bz 2 (ret (.int 1))))) (dw 3)))))))))) (bf (ret (.dct [])) mNil)))))))) (dRet (mOp gIx (bz 5 (M.d (mFn f__law_draw [ZY 0,ZX] (fj 0 (bc (ret (.int 6)) gj)))))))))))
def f__law_no_walkers:Fd:=fnD 6 2 aa8
def aap:Sd :=
 (dSeq (dIf (jd (gEq ZV) (ie (M.d (mFn ww [ZY 4] (fj 4 gj))) (ret (.str "open")))) (dRet (M.v (mTup (bf (ret (.str "open")) (bf (M.d (mIf (ab1 (M.d (mFn xx [ZX] (bc (mFld ["NotOpen"] "room" (mVar 4)) gj)))) (M.v (mFld ["NotOpen"] "room" (mVar 4))) (M.v (ret .non)))) mNil))))) dNx) (dRet (M.v (mTup (bf (M.d (mFn ww [ZY 4] (fj 4 gj))) (bf 'H' mNil))))))
def ahl:Sd :=
 (dSeq (dTry NS (dIf (okS (jd (gEq ZV) (bz 0 'H'))) (u6 (mFn jk [ZX,ZX,ZX] (bc (okS (mVar 1)) (bc (okS (mVar 2)) (bc (M.d (okS (mOp gMul (ie (mTup (bf 'H' mNil)) (M.d (jo (g1 gL9) (ji 1 mNil))))))) gj))))) (dIf (okS (jd (gEq ZV) (bz 0 (ret (.int 1))))) (u6 (mFn jx [ZX,ZX] (bc (okS (mVar 1)) (bc (okS (mVar 2)) gj)))) (dIf (okS (jd (gEq ZV) (bz 0 (ret (.int 2))))) (u6 (mFn f_settled [ZX,ZX] (bc (okS (mVar 1)) (bc (okS (mVar 2)) gj)))) (dIf (okS (jd (gEq ZV) (bz 0 (ret (.int 3))))) (u6 (mFn km [ZX,ZX,ZX] (bc (okS (mVar 1)) (bc (okS (mVar 2)) (bc (okS (mVar 3)) gj))))) (dIf (okS (jd (gEq ZV) (bz 0 (ret (.int 4))))) (u6 (mFn j6 [ZX,ZX,ZX] (bc (okS (mVar 1)) (bc (okS (mVar 2)) (bc (okS (mVar 3)) gj))))) (dIf (okS (jd (gEq ZV) (bz 0 (ret (.int 5))))) (u6 (mFn jy [ZX] (bc (okS (mVar 1)) gj))) (u6 (mFn ig [ZX] (bc (okS (mVar 1)) gj))))))))) 4 aap) (dRet (M.v (mTup (bf (ret (.str "told")) (bf 'H' mNil))))))
def fu:Fd:=fnD 5 4 ahl
def ad8:M Bool :=
 (jd (gCmp λi j=>decide (j<=i)) (ie (M.d (jo (g1 axu) (bf (M.d (mFn qe [ZY 1,ZY 0] (fj 1 (fj 0 gj)))) mNil))) 'H'))
def ad5:M D :=
 (mVar 0)
def afl:Sd :=
 (dSeq (dSet 1 (sr [ZX,ZY 0] (mGet um (bf (M.d (jo (g1 gL9) (ji 0 mNil))) mNil)) (cj 0) ad8 ad5)) (dSeq (dIf (jd (gEq ZW) (bz 1 (M.d (mLst mNil)))) (dRet (M.v (mTup (bf (ret (.str "open")) (bf (M.d (mOp gIx (bz 1 'H'))) mNil))))) dNx) (dRet (M.v (mTup (bf (ret (.str "told")) (bf 'H' mNil)))))))
def zb:Fd:=fnD 2 1 afl
def aov:Sd :=
 (dIf (mOrB (jd (gEq ZW) (ie (M.d (mFn fu [ZY 1,ZX,ZX,ZX] (fj 1 (bc (mTup (bf (mTup (bf 'H' mNil)) mNil)) (bc (mTup (bf 'H' mNil)) (bc (mTup (bf (ret (.int 1)) mNil)) gj)))))) (mTup (bf (ret (.str "open")) (bf 'H' mNil))))) (jd (gEq ZW) (ie (M.d (mFn fu [ZY 1,ZX,ZX,ZX] (fj 1 (bc (mTup (bf (mTup (bf (mUn gNeg (ret (.int 1))) mNil)) mNil)) (bc (mTup (bf 'H' mNil)) (bc (mTup (bf (ret (.int 1)) mNil)) gj)))))) (mTup (bf (ret (.str "told")) (bf 'H' mNil)))))) (dRet (M.v (ret (.bl ZV)))) dNx)
def aou:Sd :=
 (dSeq (dSet 8 (mFn f__law_no_walkers [ZY 3,ZY 4] (fj 3 (fj 4 gj)))) (dSeq (dIf (axd (jd (gCmp λi j=>decide (i<j)) (bz 1 (ret (.int 5)))) (jd (gEq ZW) (ie (M.d (mFn fu [ZY 1,ZX,ZX,ZX] (fj 1 (bc (mVar 4) (bc (mVar 8) (bc (mVar 5) gj)))))) (mTup (bf (ret (.str "walkers")) (bf 'H' mNil)))))) (dRet (M.v (ret (.bl ZV)))) dNx) (dSeq (dIf (axd (jd (gIn ZV) (bz 1 (mTup (bf (ret (.int 3)) (bf (ret (.int 4)) mNil))))) (jd (gEq ZW) (ie (M.d (mFn fu [ZY 1,ZX,ZX,ZX] (fj 1 (bc (mVar 4) (bc (mVar 5) (bc (mVar 8) gj)))))) (mTup (bf (ret (.str "walkers")) (bf 'H' mNil)))))) (dRet (M.v (ret (.bl ZV)))) dNx) (dSeq (dSet 9 (mIf (jd (gEq ZV) (bz 1 (ret (.int 2)))) (M.v (mVar 5)) (M.v (mVar 6)))) (dIf (mOrB (jd (gEq ZW) (ie (M.d (mFn fu [ZY 1,ZX,ZX,ZX] (fj 1 (bc (mVar 4) (bc (mVar 9) (bc (mVar 6) gj)))))) (dw 7))) (jd (gEq ZW) (ie (M.d (mFn fu [ZY 1,ZX,ZX,ZX] (fj 1 (bc (mVar 4) (bc (mVar 5) (bc (mVar 9) gj)))))) (dw 7)))) (dRet (M.v (ret (.bl ZV)))) dNx)))))
def l3_law:Sd :=
 (dSeq (dSet 5 (mOp gMul (ie (mTup (bf 'H' mNil)) (M.d (jo (g1 gL9) (ji 4 mNil)))))) (dSeq (dSet 6 (mOp gIx (ie (M.d (mLst (bf (mVar 5) (bf (M.d (mOp gAdd (ie (mTup (bf (M.d (mOp (gInt fPow) (ie (ret (.int 10)) (ret (.int 30))))) mNil)) (M.d (ana 5 (aic (ret (.int 1))) (ret ZX)))))) mNil)))) (M.d (mFn f__law_draw [ZY 3,ZX] (fj 3 (bc (ret (.int 2)) gj))))))) (dSeq (dSet 7 (mFn zb [ZY 4] (fj 4 gj))) (dFor (mGet um (bf (ret (.int 7)) mNil)) (cj 1) aou))))
def l4_law:Sd :=
 (dSeq (dSet 3 (mFn f__law_pen [ZY 2] (fj 2 gj))) (dFor (uw (M.d (mLst (bf (M.d (mFn f__law_house [ZY 3,ZX,ZX] (fj 3 (bc (ret (.int 5)) (bc (ret (.int 3)) gj))))) (bf (M.d (mFn f__law_open [ZY 3,ZX,ZX] (fj 3 (bc (ret (.int 4)) (bc (ret (.int 3)) gj))))) mNil))))) (cj 4) l3_law))
def a6r:Sd :=
 (dSeq (dFor (mGet um (bf (ret (.int 7)) mNil)) (cj 1) aov) (dSeq (dFor (uw (M.d (mOp gAdd (ie (M.d (mLst (bf (M.d (mFn f__law_cell [ZY 0,ZX] (fj 0 (bc 'H' gj)))) mNil))) (M.d (ana 0 (aic (ret (.int 1))) (aic (ret (.int 5))))))))) (cj 2) l4_law) (dRet (M.v (ret (.bl ZW))))))
def auk:Fd:=fnD 10 1 a6r
def fn0{p:D->Prop}:∀d∈([]:List D),p d:=λ_ h=>by cases h
def fm1{p:D->Prop}{a:D}{l:List D}(h:p a)(t:∀d∈l,p d):∀d∈a::l,p d:=λd hd=>by
 rcases bA.mp hd with rfl |hd
 ·exact h
 ·exact t d hd
def avp{p:D->Prop}{R:List D}(hR:∀d∈R,p d){r:Int}(h0:0<=r)(h1:r<(R.length:Int)):∃d,atI R r=ZY d/\p d:=⟨_,aye h0 h1,hR _ (getD_mem (by omega))⟩
def seq2{g1 g2:Sd}{ρ ρ':Ro}(h1:g1 ρ=ZY (.nx,ρ')):dSeq g1 g2 ρ=g2 ρ':=by simp[h1]
def ad9:D->Bool
 |.int _=>ZW
 |_=>ZV
def tu(a b:Int):D->Bool
 |.int i=>decide (a<=i)&&decide (i<=b)
 |_=>ZV
def an9(d:D):(isTy .int d && !isTy .bool d)=ad9 d:=by cases d <;> rfl
theorem av5{d:D}(h:ad9 d=ZW):∃i,d=.int i:=by
 cases d with
 |int i=>exact⟨i,rfl⟩
 |_=>cases h
theorem aps{d:D}(h:ad9 d=ZV)(a b:Int):tu a b d=ZV:=by
 cases d with
 |int i=>cases h
 |_=>rfl
@[simp] theorem anh(d:D):abb [.val d]=ZY (.ok (.v (.bl (ad9 d))),[.val d]):=by
 have e:=an9 d;generalize ad9 d=w at *;subst e;cases p:isTy .int d <;> simp[abb,aiw,p]
@[simp] theorem aoz(d:D)(a b:Int):j9 [.val d,.val (.int a),.val (.int b)]=ZY (.ok (.v (.bl (tu a b d))),[.val d,.val (.int a),.val (.int b)]):=by
 have e:=anh d;cases hw:ad9 d with
 |false=>
  rw[hw] at e;rw[aps hw];simp[j9,wj,e]
 |true=>
  obtain⟨i,rfl⟩:=av5 hw;rw[hw] at e;simp[j9,wj,e,tu]
def au7(ns:List Int)(k:Int)(h:0<=k):∃n,f__law_cell [.val (.kst (ns.map D.int)),.val (.int k)]=ZY (.ok (.v (.int n)),[.val (.kst (ns.map D.int)),.val (.int k)]):=by
 by_cases hk:k<(ns.length:Int)
 ·have e:atI (ns.map D.int) k=ZY (.int (ns[k.toNat]'(by omega))):=by
   have h2:atI (ns.map D.int) ((k.toNat:Nat):Int)=ZY (.int (ns[k.toNat]'(by omega))):=akl (by simp[aV,aG (show k.toNat<ns.length by omega)])
   rw[show((k.toNat:Nat):Int)=k by omega] at h2
   exact h2
  exact⟨ns[k.toNat]'(by omega),by simp[f__law_cell,ad0,hk,e]⟩
 ·exact⟨0,by simp[f__law_cell,ad0,hk]⟩
def pen(P:Int×Int):List D:=[.int P.1,.int P.2]
def awp(n:Int):∃P,f__law_pen [.val (.int n)]=ZY (.ok (.fr (pen P)),[.val (.int n)]):=by
 refine⟨(if 0-n > n then 0-n else n,if 10 ^ 18<=(if 0-n > n then 0-n else n) then 1 else 0),?_⟩
 simp[f__law_pen,aix,pen,fPow]
def uf(P:Int×Int)(m:Int)(h0:0<m)(h1:m<1000000000000000000000000000000000000000000000000000000000000):∃r P',f__law_draw [.own (ZY 0) (pen P),.val (.int m)]=ZY (.ok (.v (.int r)),[.own (ZY 0) (pen P'),.val (.int m)])/\0<=r/\r<m:=by
 obtain⟨a,b⟩:=P
 by_cases hb:b=1
 ·refine⟨a % m,(a / m,b),?_,qQ _ (by omega),oR _ h0⟩
  simp[f__law_draw,adz,pen,hb,h0,h1,atI,ixN]
 ·have z0:0<=(a % 2147483647+40503)*69621 % 2147483629:=qQ _ (by decide)
  have z1:(a % 2147483647+40503)*69621 % 2147483629<2147483629:=oR _ (by decide)
  generalize hz:(a % 2147483647+40503)*69621 % 2147483629=z at z0 z1;have hm:fMul z z=ZY (z*z):=by
   unfold fMul;rw[if_pos (.inl ⟨by omega,by omega⟩)]
  refine⟨((z*z+7817) % 2147483587*48271+11) % 2147483629 / 32 % m,(((z*z+7817) % 2147483587*48271+11) % 2147483629,b),?_,qQ _ (by omega),oR _ h0⟩
  have h69:∀x:Int,fMul x 69621=ZY (x*69621):=λx=>by unfold fMul;rw[if_pos (.inr (by decide))]
  have h48:∀x:Int,fMul x 48271=ZY (x*48271):=λx=>by unfold fMul;rw[if_pos (.inr (by decide))]
  simp[f__law_draw,adz,pen,hb,h0,h1,atI,ixN,h69,h48,hm,fMod,fDiv,hz]
structure HouseOk (m w:Int) (qv:LL9):Prop where
 one:1<=qv.length
 most:(qv.length:Int)<=m
 room:∀r∈qv,1<=r.length/\(r.length:Int)<=w/\∀x∈r,-3<=x/\x<(qv.length:Int)
def hDs(qv:LL9):List D:=qv.map λr=>D.tup (r.map D.int)
def hD(qv:LL9):D:=.tup (hDs qv)
def ait(P:Int×Int)(m w:Int)(m1:1<=m)(m2:m<=10)(w1:1<=w)(w2:w<=6):∃qv P',f__law_house [.own (ZY 0) (pen P),.val (.int m),.val (.int w)]=ZY (.ok (.v (hD qv)),[.own (ZY 0) (pen P'),.val (.int m),.val (.int w)])/\HouseOk m w qv:=by
 obtain⟨r1,P1,e1,r1a,r1b⟩:=uf P m (by omega) (by omega)
 obtain⟨r2,P2,e2,r2a,r2b⟩:=uf P1 4 (by decide) (by decide)
 have hg:∃g:Int,atI [D.int 0,D.int 1,D.int 3,D.int 3] r2=ZY (.int g)/\0<=g/\g<=3:=by
  obtain⟨_,e,g,rfl,z⟩:=avp (p:=λd=>∃g:Int,d=.int g/\0<=g/\g<=3) (fm1 ⟨0,rfl,by decide⟩ (fm1 ⟨1,rfl,by decide⟩ (fm1 ⟨3,rfl,by decide⟩ (fm1 ⟨3,rfl,by decide⟩ fn0)))) r2a r2b
  exact⟨g,e,z⟩
 obtain⟨g,eg,g0,g3⟩:=hg;have loop:=xf (b:=cj 6) (g:=abl) (λi ρ=>∃qv P o1 o2,ρ=[.own (ZY 0) (pen P),.val (.int m),.val (.int w),.val (.int (1+r1)),.val (.int g),.own ZX (hDs qv),o1,o2]/\qv.length=i/\∀r∈qv,1<=r.length/\(r.length:Int)<=w/\∀x∈r,-3<=x/\x<1+r1)
  (l:=rangeD 0 (1+r1).toNat) (ρ:=[.own (ZY 0) (pen P2),.val (.int m),.val (.int w),.val (.int (1+r1)),.val (.int g),.own ZX [],.emp,.emp]) 0 ⟨[],P2,.emp,.emp,rfl,rfl,by simp⟩ ?_
 ·obtain⟨ρ',e3,qv,P3,o1,o2,rfl,hl,hr⟩:=loop;have hl:qv.length=(1+r1).toNat:=by simpa[rangeD] using hl
  refine⟨qv,P3,?_,by omega,by omega,λr h=>?_⟩
  ·have hb:(1+r1).natAbs<4611686018427387904:=by omega
   simp[f__law_house,af7,e1,e2,eg,hb,e3,hD]
  ·obtain⟨a,b,c⟩:=hr r h;exact⟨a,b,λx hx=>by have:=c x hx;omega⟩
 ·rintro i d ρ hd ⟨qv,P4,o1,o2,rfl,hl,hr⟩
  obtain⟨r5,P5,e5,r5a,r5b⟩:=uf P4 w (by omega) (by omega)
  have comp:=u9 (b:=cj 0) (mc:=ret ZW) (me:=abt) (λj ys ρ=>∃ns P o,ρ=[o,.own (ZY 1) (pen P),.val (.int (1+r1)),.val (.int g)]/\ys=ns.map D.int/\ns.length=j/\∀x∈ns,-3<=x/\x<1+r1)
   (l:=rangeD 0 (1+r5).toNat) (ys:=[]) (ρ:=[.emp,.own (ZY 1) (pen P5),.val (.int (1+r1)),.val (.int g)]) 0 ⟨[],P5,.emp,rfl,rfl,rfl,by simp⟩ ?_
  ·obtain⟨ys,ρ',e6,ns,P6,o,rfl,rfl,hn,hx⟩:=comp;have hn:ns.length=(1+r5).toNat:=by simpa[rangeD] using hn
   have hb:(1+r5).natAbs<4611686018427387904:=by omega
   have hc1:ns.length<=capS:=bw (by omega)
   have hi:i<(1+r1).toNat:=by
    have:=(aJ.mp hd).1
    simpa[rangeD] using this
   have hc2:(hDs qv).length<capS:=by simp[hDs,capS];omega
   refine⟨_,[.own (ZY 0) (pen P6),.val (.int m),.val (.int w),.val (.int (1+r1)),.val (.int g),.own ZX (hDs (qv++[ns])),.val d,.val (.int (1+r5))],rfl,.inl (by simp[abl,e5,hb,e6,hc1,hc2];simp[hDs]),qv++[ns],P6,_,_,rfl,by simp[hl],λr h=>?_⟩
   rcases dC.mp h with h |h
   ·exact hr r h
   ·obtain rfl:r=ns:=by simpa using h
    exact⟨by omega,by omega,hx⟩
  ·rintro j d ys ρ hd ⟨ns,P6,o,rfl,rfl,hn,hx⟩
   obtain⟨r7,P7,e7,r7a,r7b⟩:=uf P6 (1+r1+g) (by omega) (by omega)
   refine⟨_,_,ZW,rfl,rfl,.inr ⟨rfl,.int (r7-g),_,by simp[abt,e7];rfl,ns++[r7-g],P7,_,rfl,by simp,by simp[hn],λx h=>?_⟩⟩
   rcases dC.mp h with h |h
   ·exact hx x h
   ·obtain rfl:x=r7-g:=by simpa using h
    omega
@[simp] theorem ayv(d:D):xx [.val d]=ZY (.ok (.v (.bl (ad9 d))),[.val d]):=by
 have e:=an9 d;generalize ad9 d=w at *;subst e;cases p:isTy .int d <;> simp[xx,af6,p]
structure Hs (qv:LL9):Prop where
 one:1<=qv.length
 most:qv.length<=10
 room:∀r∈qv,1<=r.length/\r.length<=6/\∀x∈r,-3<=x/\x<(qv.length:Int)
def dr(qv:LL9)(x:Int):List Int:=qv.getD x.toNat []
inductive Rch (qv:LL9) (a:Int):Int->Prop
 |base:Rch qv a a
 |step {x d:Int}:Rch qv a x->0<=x->d∈dr qv x->Rch qv a d
def an5(h0:0<=x)(h1:x<(qv.length:Int)):atI (hDs qv) x=ZY (.tup ((dr qv x).map D.int)):=by
 have hk:x.toNat<qv.length:=by omega
 have q:atI (hDs qv) ((x.toNat:Nat):Int)=ZY (.tup ((dr qv x).map D.int)):=akl (by simp[hDs,dr,aG hk])
 rw[show((x.toNat:Nat):Int)=x by omega] at q
 exact q
def Hs.dr(h:Hs qv)(h0:0<=x)(h1:x<(qv.length:Int)):1<=(dr qv x).length/\(My.dr qv x).length<=6/\∀y∈My.dr qv x,-3<=y/\y<(qv.length:Int):=by
 have hk:x.toNat<qv.length:=by omega
 have e:My.dr qv x=qv[x.toNat]:=by simp[My.dr,hk]
 rw[e];exact h.room _ (gQ hk)
theorem Rch.range(h:Hs qv)(ha:0<=a/\a<(qv.length:Int))(r:Rch qv a x) : -3<=x/\x<(qv.length:Int):=by
 induction r with
 |base=>omega
 |step r h0 hd ih=>exact(h.dr h0 ih.2).2.2 _ hd
theorem ala:∀(m:Nat) (l:List Int),l.Nodup->(∀x∈l,-3<=x/\x<(m:Int)-3)->l.length<=m
 | 0,l,_,h=>by
  cases l with
  |nil=>simp
  |cons x r=>have:=h x (aX ..);omega
 |m+1,l,hn,h=>by
  have h1:(l.erase ((m:Int)-3)).length<=m:=ala m _ (hn.erase _) λx hx=>by
   rw[hn.mem_erase_iff] at hx;have:=h x hx.2;have:=hx.1;omega
  have h2:l.length<=(l.erase ((m:Int)-3)).length+1:=by
   rw[List.length_erase];split <;> omega
  omega
def a0b{qv:LL9}(h:Hs qv){a:Int}(ha:0<=a/\a<(qv.length:Int)){ns:List Int}(hn:ns.Nodup)(hr:∀x∈ns,Rch qv a x):ns.length<=13:=by
 have:=ala (qv.length+3) ns hn λx hx=>by have:=Rch.range h ha (hr x hx);omega
 have:=h.most;omega
theorem aio{qv:LL9}{a:Int}{ns:List Int}(h0:a∈ns)(hc:∀x∈ns,0<=x->∀d∈dr qv x,d∈ns){x:Int}(r:Rch qv a x):x∈ns:=by
 induction r with
 |base=>exact h0
 |step r h0 hd ih=>exact hc _ ih h0 _ hd
def a7h{ns:List Int}{i:Nat}(h:i<ns.length):atI (ns.map D.int) (i:Int)=ZY (.int ns[i]):=akl (by simp[aG h])
def a7l(qv:LL9)(S:Sl):Prop:=S=.val (hD qv)∨S=.own (ZY 0) (hDs qv)
def akz{qv:LL9}(h:Hs qv){S:Sl}(hS:a7l qv S){a:Int}{ns:List Int}{i:Nat}(hi:i<ns.length)(hz:ns.length<=13)(hx:ns[i]<(qv.length:Int)) :
  kj [S,.val (.int a),.own ZX (ns.map D.int),.val (.int (i:Nat))]=ZY (.nx,[S,.val (.int a),.own ZX ((if 0<=ns[i] then ns++(setI (dr qv ns[i])).filter (λd => !decide (d∈ns)) else ns).map D.int),.val (.int ((i:Nat)+1))]):=by
 have ei:=a7h hi
 by_cases h0:0<=ns[i]
 ·obtain⟨k1,k2,k3⟩:=h.dr h0 hx;have er:=an5 h0 hx;have es:=at5 (ns:=dr qv ns[i]) (by omega)
  have ef:compD (cj 0) aai aah ((setI (dr qv ns[i])).map D.int) [] [.emp,.own (ZY 1) (ns.map D.int)]=ZY (.ok (((setI (dr qv ns[i])).filter (λd => !decide (d∈ns))).map D.int),aaa .emp ((setI (dr qv ns[i])).map D.int)::[.own (ZY 1) (ns.map D.int)]):=by
   rw[yc (p:=λd=>match d with |.int k => !decide (k∈ns) |_=>ZV) (f:=id)]
   ·simp[uJ,pB]
   ·intro d hd;obtain⟨k,_,rfl⟩:=cJ.mp hd;simp[aai,at8]
   ·intro d hd _;simp[aah]
  have hlen:(setI (dr qv ns[i])).length<=6:=by
   unfold setI;rw[(sortI_perm _).length_eq];exact bV (ado _) k2
  have hc1:((setI (dr qv ns[i])).filter (λd => !decide (d∈ns))).length<=6:=bV (gF _ _) hlen
  have hc2:ns.length+((setI (dr qv ns[i])).filter (λd => !decide (d∈ns))).length<=capS:=bw (by omega)
  have hc3:((setI (dr qv ns[i])).filter (λd => !decide (d∈ns))).length<=capS:=bw (by omega)
  rcases hS with rfl |rfl
  ·simp[kj,hD,ei,h0,er,es,ef,hc1,hc2,hc3]
  ·simp[kj,ei,h0,er,es,ef,hc1,hc2,hc3]
 ·simp[kj,ei,h0]
def af1(h:Hs qv)(hS:a7l qv S)(ha:0<=a/\a<(qv.length:Int)) :
  ∃ns:List Int,qe [S,.val (.int a)]=ZY (.ok (.fr (ns.map D.int)),[S,.val (.int a)])/\ns≠[]/\∀x,x∈ns↔Rch qv a x:=by
 have loop:=ae3 (c:=qj) (g:=kj)
  (λk ρ=>∃(ns:List Int) (i:Nat),ρ=[S,.val (.int a),.own ZX (ns.map D.int),.val (.int (i:Nat))]/\k=20-i/\i<=ns.length/\ns.Nodup/\a∈ns/\(∀x∈ns,Rch qv a x)/\∀j (hj:j<ns.length),j<i->0<=ns[j]->∀d∈dr qv ns[j],d∈ns)
  (λρ=>∃(ns:List Int) (o:Sl),ρ=[S,.val (.int a),.own ZX (ns.map D.int),o]/\ns≠[]/\∀x,x∈ns↔Rch qv a x) ?_ fuel 20 [S,.val (.int a),.own ZX ([a].map D.int),.val (.int ((0:Nat):Int))] (oO (by decide) aj7)
  ⟨[a],0,rfl,rfl,by simp,by simp,by simp,by simp;exact .base,λj hj hlt=>absurd hlt (lG _)⟩
 ·obtain⟨ρ',e,ns,o,rfl,hne,hm⟩:=loop;have e:whileD qj kj fuel [S,.val (.int a),.own ZX [.int a],.val (.int 0)]=ZY (.nx,[S,.val (.int a),.own ZX (ns.map D.int),o]):=e;refine⟨ns,?_,hne,hm⟩;rcases hS with rfl |rfl <;> simp[qe,ac7,e]
 ·rintro k ρ ⟨ns,i,rfl,rfl,hi,hn,h0,hr,hc⟩
  have hz:=a0b h ha hn hr
  by_cases hlt:i<ns.length
  ·refine .inr ⟨[S,.val (.int a),.own ZX (ns.map D.int),.val (.int (i:Nat))],_,20-(i+1),?_,akz h hS hlt hz (Rch.range h ha (hr _ (gQ hlt))).2,by omega,?_⟩
   ·have:(i:Int)<(ns.length:Int):=by omega
    rcases hS with rfl |rfl <;> simp[qj,this]
   ·by_cases hp:0<=ns[i]
    ·rw[if_pos hp];refine⟨_,i+1,rfl,rfl,by simp;omega,?_,gK _ h0,?_,?_⟩
     ·rw[yO];refine⟨hn,qL xF (aqf _),λx hx y hy e=>?_⟩
      have:=(eN.mp hy).2;subst e;simp[hx] at this
     ·intro x hx;rcases dC.mp hx with hx |hx
      ·exact hr x hx
      ·exact .step (hr _ (gQ hlt)) hp ((aoo _ _).mp (eN.mp hx).1)
     ·intro j hj hji hjp d hd;have hjl:j<ns.length:=by omega
      rw[List.getElem_append_left hjl] at hjp hd;rcases eY j i with z |z
      ·exact gK _ (hc j hjl z hjp d hd)
      ·have:j=i:=by omega
       subst this
       by_cases hdn:d∈ns
       ·exact gK _ hdn
       ·exact bO _ (eN.mpr ⟨(aoo _ _).mpr hd,by simp[hdn]⟩)
    ·rw[if_neg hp];refine⟨_,i+1,rfl,rfl,hlt,hn,h0,hr,?_⟩;intro j hj hji hjp d hd;rcases eY j i with z |z
     ·exact hc j hj z hjp d hd
     ·have:j=i:=by omega
      subst this;exact absurd hjp hp
  ·refine .inl ⟨[S,.val (.int a),.own ZX (ns.map D.int),.val (.int (i:Nat))],?_,ns,_,rfl,List.ne_nil_of_mem h0,λx=>⟨hr x,aio h0 λy hy hp d hd=>?_⟩⟩
   ·have:¬(i:Int)<(ns.length:Int):=by omega
    rcases hS with rfl |rfl <;> simp[qj,this]
   ·obtain⟨j,hj,rfl⟩:=gJ.mp hy;exact hc j hj (by omega) hp d hd
open Classical in
noncomputable def caught(qv:LL9)(a:Int):Bool:=decide (∀x,Rch qv a x->0<=x)
def sy(qv:LL9)(a:Int):caught qv a=ZW↔∀x,Rch qv a x->0<=x:=by
 unfold caught;exact @decide_eq_true_iff _ (Classical.propDecidable _)
noncomputable def upto(n:Nat):List Int:=(aD n).map λi=>((i:Nat):Int)
def adm(n:Nat):rangeD 0 n=(upto n).map D.int:=by
 unfold rangeD upto;rw[dR];apply gA;intro i _;simp
def acw(h:x∈upto n):0<=x/\x<(n:Int):=by
 obtain⟨i,hi,rfl⟩:=cJ.mp h;have:=fY.mp hi;omega
noncomputable def mz(qv:LL9):List Int:=(upto qv.length).filter (caught qv)
def agv(h:Hs qv):(qv.length:Int).natAbs<4611686018427387904:=by have:=h.most;omega
def ase(h:Hs qv):um [.int (qv.length:Int)]=ZY (rangeD 0 qv.length):=by
 rw[anm,if_pos (agv h),cN]
def keepI(qv:LL9)(S:List Int):List Int:=S.filter λx=>(dr qv x).all λd=>decide (d∈S)
def azt(h:Hs qv)(S:List Int)(h0:0<=x)(h1:x<(qv.length:Int)) :
  aki [.val (.int x),.val (.lst (S.map D.int)),.val (hD qv)]=ZY (.ok ((dr qv x).all λd=>decide (d∈S)),[.val (.int x),.val (.lst (S.map D.int)),.val (hD qv)]):=by
 have er:=an5 h0 h1;obtain⟨k1,k2,k3⟩:=h.dr h0 h1;have ef:compD (cj 0) (ret ZW) anv ((dr qv x).map D.int) [] [.emp,.val (.lst (S.map D.int))]=ZY (.ok ((dr qv x).map λd=>.bl (decide (d∈S))),aaa .emp ((dr qv x).map D.int)::[.val (.lst (S.map D.int))]):=by
  rw[ou (f:=λd=>match d with |.int k=>.bl (decide (k∈S)) |_=>.non)]
  ·simp
  ·intro d hd;obtain⟨k,_,rfl⟩:=cJ.mp hd;simp[anv,at8]
 have hc:(dr qv x).length<=capS:=bw (by omega)
 have hb:vg ((dr qv x).map λd=>D.bl (decide (d∈S)))=ZY ((dr qv x).map λd=>decide (d∈S)):=an3 _ _
 simp[aki,hD,er,ef,hc,hb,pB]
def arn(h:Hs qv)(S:List Int)(hS:∀x∈S,0<=x/\x<(qv.length:Int)) :
  compD (cj 0) aki anu (S.map D.int) [] [.emp,.val (.lst (S.map D.int)),.val (hD qv)]=ZY (.ok ((keepI qv S).map D.int),aaa .emp (S.map D.int)::[.val (.lst (S.map D.int)),.val (hD qv)]):=by
 rw[yc (p:=λd=>match d with |.int x=>(dr qv x).all λd=>decide (d∈S) |_=>ZV) (f:=id)]
 ·simp only[keepI,uJ,pB,uH,bQ]
 ·intro d hd;obtain⟨k,hk,rfl⟩:=cJ.mp hd;exact azt h S (hS k hk).1 (hS k hk).2
 ·intro d hd _;simp[anu]
def a3l(h:Hs qv)(hS:∀x∈S,0<=x/\x<(qv.length:Int))(hl:S.length<=10)(o:Sl) :
  ai5 [.val (hD qv),.own ZX (S.map D.int),o]=ZY (.nx,[.val (hD qv),.own ZX ((keepI qv S).map D.int),.val (.int (S.length:Nat))]):=by
 have e:=arn h S hS;have hc:(keepI qv S).length<=capS:=bw (bV (gF _ _) (by omega))
 generalize keepI qv S=T at e hc;simp only[hD] at e ⊢
 simp[ai5,e,hc]
theorem awk(h0:0<=x)(hd:d∈dr qv x)(hy:Rch qv d y):Rch qv x y:=by
 induction hy with
 |base=>exact .step .base h0 hd
 |step r h1 hd1 ih=>exact .step ih h1 hd1
def arl(h:Hs qv):alq [.val (hD qv)]=ZY (.ok (.v (.tup ((mz qv).map D.int))),[.val (hD qv)]):=by
 have hm:=h.most;have ul:(upto qv.length).length=qv.length:=by simp[upto]
 have e0:((upto qv.length).filter λ_=>ZW)=upto qv.length:=xG.mpr λ_ _=>rfl
 have loop:=ae3 (c:=ai7) (g:=ai5)
  (λk ρ=>∃(p:Int->Bool) (m:Nat),ρ=[.val (hD qv),.own ZX (((upto qv.length).filter p).map D.int),.val (.int (m:Nat))]/\k=m/\((upto qv.length).filter p).length<=m/\(m=((upto qv.length).filter p).length->keepI qv ((upto qv.length).filter p)=(upto qv.length).filter p)/\∀x∈mz qv,p x=ZW)
  (λρ=>∃o,ρ=[.val (hD qv),.own ZX ((mz qv).map D.int),o]) ?_ fuel (qv.length+1) [.val (hD qv),.own ZX (((upto qv.length).filter λ_=>ZW).map D.int),.val (.int ((qv.length+1:Nat):Int))] (oO (show qv.length+1<100000 by omega) aj7)
  ⟨λ_=>ZW,qv.length+1,rfl,rfl,by rw[e0,ul];omega,λz=>by rw[e0,ul] at z;omega,λ_ _=>rfl⟩
 ·obtain⟨ρ',e,o,rfl⟩:=loop;rw[e0] at e;have hb:um [.int (qv.length:Int)]=ZY (rangeD 0 qv.length):=ase h;have hb':qv.length<1000000:=by omega
  have hl:(hDs qv).length=qv.length:=by simp[hDs]
  have er:=adm qv.length;have hcast:((qv.length+1:Nat):Int)=(qv.length:Int)+1:=by omega
  rw[hcast] at e;simp only[hD] at e ⊢
  simp[alq,ay2,hl,hb',er,ul,e]
 ·rintro k ρ ⟨p,m,rfl,hkm,hle,hcl,hp⟩
  subst hkm;have hS:∀x∈(upto qv.length).filter p,0<=x/\x<(qv.length:Int):=λx hx=>acw (eN.mp hx).1
  have hl:((upto qv.length).filter p).length<=10:=bV (gF _ _) (by omega)
  by_cases hlt:((upto qv.length).filter p).length<k
  ·refine .inr ⟨_,_,((upto qv.length).filter p).length,?_,a3l h hS hl (.val (.int (k:Nat))),hlt,(λx=>((dr qv x).all λd=>decide (d∈(upto qv.length).filter p))&&p x),((upto qv.length).filter p).length,?_,rfl,?_,?_,?_⟩
   ·generalize (upto qv.length).filter p=S at hlt;have:(S.length:Int)<(k:Int):=by omega
    simp[ai7,this]
   ·unfold keepI;rw[rY]
   ·rw[<-rY];exact gF _ _
   ·rw[<-rY];intro z;have:keepI qv ((upto qv.length).filter p)=(upto qv.length).filter p:=xG.mpr λa ha=>by
     by_cases q:((dr qv a).all λd=>decide (d∈(upto qv.length).filter p))=ZW
     ·exact q
     ·exfalso;have:(((upto qv.length).filter p).filter λx=>(dr qv x).all λd=>decide (d∈(upto qv.length).filter p)).length<((upto qv.length).filter p).length:=List.length_filter_lt_length_iff_exists.mpr ⟨a,ha,by simpa using q⟩
      omega
    show keepI qv (keepI qv ((upto qv.length).filter p))=keepI qv ((upto qv.length).filter p);rw[this,this]
   ·intro x hx;rw[bC];refine⟨List.all_eq_true.mpr λd hd=>decide_eq_true ?_,hp x hx⟩
    obtain⟨x1,x2⟩:=eN.mp hx;have hx0:=acw x1;have hd0:0<=d:=(sy qv x).mp x2 d (.step .base hx0.1 hd);have hd1:=((h.dr hx0.1 hx0.2).2.2 d hd).2;have du:d∈upto qv.length:=by
     unfold upto;exact cJ.mpr ⟨d.toNat,fY.mpr (by omega),by omega⟩
    have dt:d∈mz qv:=eN.mpr ⟨du,(sy qv d).mpr λy hy=>(sy qv x).mp x2 y (awk hx0.1 hd hy)⟩
    exact eN.mpr ⟨du,hp d dt⟩
  ·refine .inl ⟨[.val (hD qv),.own ZX (((upto qv.length).filter p).map D.int),.val (.int (k:Nat))],?_,.val (.int (k:Nat)),?_⟩
   ·generalize (upto qv.length).filter p=S at hlt;have:¬(S.length:Int)<(k:Int):=by omega
    simp[ai7,this]
   ·have hk:=hcl (by omega)
    have:(upto qv.length).filter p=mz qv:=by
     unfold mz;refine List.filter_congr λx hx=>?_
     by_cases c:caught qv x=ZW
     ·rw[c];exact hp x (eN.mpr ⟨hx,c⟩)
     ·have:p x=ZV:=by
       cases q:p x with
       |false=>rfl
       |true=>
        exfalso;refine c ((sy qv x).mpr λy hy=>?_)
        have:y∈(upto qv.length).filter p:=by
         induction hy with
         |base=>exact eN.mpr ⟨hx,q⟩
         |step r h0 hd ih=>
          rw[<-hk] at ih;have:=cL.mp (eN.mp ih).2 _ hd
          simpa using this
        exact(hS y this).1
      rw[this]
      simpa using c
    rw[this]
def HouseOk.hs(h:HouseOk m w qv)(hm:m<=10)(hw:w<=6):Hs qv :=
 ⟨h.one,by have:=h.most;omega,λr hr=>by obtain⟨a,b,c⟩:=h.room r hr;exact⟨a,by omega,c⟩⟩
def ajh(h0:0<=k):HT.sIx n d (ZY k)=min k.toNat n:=by
 show(if k<0 then (k+(n:Int)).toNat else min k.toNat n)=_
 rw[if_neg (by omega)]
def a7a{ns:List Int}{k:Int}(h0:0<=k)(h1:k<(ns.length:Int)):cutD (ns.map D.int) ZX (ZY k)=(ns.take k.toNat).map D.int:=by
 unfold cutD;rw[ajh h0,aU,vR];have:HT.sIx ns.length 0 ZX=0:=rfl;rw[this,qG (by omega),wF,rJ]
def ax4{ns:List Int}{k:Int}(h0:0<=k)(h1:k<=(ns.length:Int)):cutD (ns.map D.int) (ZY k) ZX=(ns.drop k.toNat).map D.int:=by
 unfold cutD;rw[ajh h0,aU,vU];have:HT.sIx ns.length ns.length ZX=ns.length:=rfl;rw[this,qG (by omega)]
 exact vZ (by simp)
def bend(r:List Int)(k:Nat)(x:Int):List Int:=r.take k++[x]++r.drop (k+1)
def awi(qv:LL9)(j:Nat)(r:List Int):(hDs qv).set j (.tup (r.map D.int))=hDs (qv.set j r):=by
 simp[hDs,List.map_set]
def Hs.set(h:Hs qv)(j:Nat)(hr:1<=r.length/\r.length<=6/\∀x∈r,-3<=x/\x<(qv.length:Int)):Hs (qv.set j r) :=
 ⟨by rw[fH];exact h.one,by rw[fH];exact h.most,λq hq=>by
  rw[fH];rcases iH hq with z |rfl
  ·exact h.room q z
  ·exact hr⟩
def Opn(qv:LL9)(a:Int):Prop:=∃x,Rch qv a x/\x<0
def anw{qv:LL9}{k:Int}(h0:0<=k)(h1:k<(qv.length:Int))(r:List Int):dr (qv.set k.toNat r) k=r:=by
 have:k.toNat<qv.length:=by omega
 simp[dr,this]
def auv(h0:0<=k)(hy:0<=y)(hne:y≠k)(r:List Int):dr (qv.set k.toNat r) y=dr qv y:=by
 have:k.toNat≠y.toNat:=by omega
 simp[dr,cB,this]
theorem a0a(h0:0<=k)(r:List Int)(h:Rch qv a y):Rch (qv.set k.toNat r) a y∨Rch qv k y:=by
 induction h with
 |base=>exact .inl .base
 |step p hp hd ih=>
  rename_i x d;rcases ih with ih |ih
  ·by_cases e:x=k
   ·subst e;exact .inr (.step .base hp hd)
   ·exact .inl (.step ih hp (by rw[auv h0 hp e];exact hd))
  ·exact .inr (.step ih hp hd)
def ass{qv:LL9}(h:Hs qv){W:Nat}(hW:∀r∈qv,r.length<=W)(P:Int×Int){A B o:Sl}{k:Int}(h0:0<=k)(h1:k<(qv.length:Int)) :
  ∃rooms' P' o',l1__law_open [.own (ZY 0) (pen P),A,B,.own ZX (hDs qv),.val (.int k),o]=ZY (.nx,[.own (ZY 0) (pen P'),A,B,.own ZX (hDs rooms'),.val (.int k),o'])/\Hs rooms'/\(∀r∈rooms',r.length<=W)/\rooms'.length=qv.length/\Opn rooms' k/\∀a,Opn qv a->Opn rooms' a:=by
 obtain⟨ns,e,hne,hm⟩:=af1 h (S:=.own (ZY 0) (hDs qv)) (.inr rfl) ⟨h0,h1⟩;have em:=ao7 hne
 by_cases z:0<=minI ns
 ·have hcaught:∀x,Rch qv k x->0<=x:=λx hx=>(agk hne).mp z x ((hm x).mpr hx)
  obtain⟨a1,a2,a3⟩:=h.dr h0 h1;have er:=an5 h0 h1;have aw:=hW (dr qv k) (by
   have hk:k.toNat<qv.length:=by omega
   unfold dr;rw[aY,aG hk];exact gQ hk)
  generalize hrow:dr qv k=r at a1 a2 a3 er aw;obtain⟨r1,P1,e1,r1a,r1b⟩:=uf P r.length (by omega) (by omega)
  obtain⟨r2,P2,e2,r2a,r2b⟩:=uf P1 3 (by decide) (by decide)
  have c1:=a7a (ns:=r) r1a r1b;have c2:=ax4 (ns:=r) (k:=r1+1) (by omega) (by omega)
  have hk:(r1+1).toNat=r1.toNat+1:=by omega
  rw[hk] at c2;have ix:ixN (hDs qv).length k=ZY k.toNat:=by
   have hl:(hDs qv).length=qv.length:=by simp[hDs]
   rw[hl];unfold ixN;simp[h0,h1]
  have k1:(r.take r1.toNat).length<=6:=by rw[eQ];omega
  have k2:(r.drop (r1.toNat+1)).length<=6:=by rw[iT];omega
  have k3:(r.take r1.toNat).length+1<=capS:=bw (by omega)
  have k4:(r.take r1.toNat).length+1+(r.drop (r1.toNat+1)).length<=capS:=bw (by omega)
  have hin:(-1-r2)∈bend r r1.toNat (-1-r2):=by simp[bend]
  refine⟨qv.set k.toNat (bend r r1.toNat (-1-r2)),P2,.val (.int r1),?_,h.set _ ?_,λq hq=>?_,fH,⟨-1-r2,.step .base h0 (by rw[anw h0 h1];exact hin),by omega⟩,λa ⟨x,hx,hx0⟩=>?_⟩
  ·rw[<-awi];unfold bend;generalize r.take r1.toNat=ta at c1 k3 k4;generalize r.drop (r1.toNat+1)=td at c2 k4;simp[l1__law_open,e,em,z,er,e1,e2,c1,c2,k3,k4,ix]
  ·refine⟨by simp[bend];omega,by simp[bend];omega,λx hx=>?_⟩
   have:=h.one;unfold bend at hx;rcases dC.mp hx with hx |hx
   ·rcases dC.mp hx with hx |hx
    ·exact a3 x (List.mem_of_mem_take hx)
    ·rw[dW] at hx;omega
   ·exact a3 x (List.mem_of_mem_drop hx)
  ·rcases iH hq with z |rfl
   ·exact hW q z
   ·simp[bend];omega
  ·rcases a0a h0 (bend r r1.toNat (-1-r2)) hx with q |q
   ·exact⟨x,q,hx0⟩
   ·have:=hcaught x q;omega
 ·refine⟨qv,P,o,by simp[l1__law_open,e,em,z],h,hW,rfl,?_,λ_ x=>x⟩
  have:¬ ∀y∈ns,0<=y:=λw=>z ((agk hne).mpr w)
  apply cH;intro w;refine this λy hy=>?_
  rcases tO y 0 with q |q
  ·exact absurd ⟨y,(hm y).mp hy,q⟩ w
  ·exact q
def aoa(h:∀a,0<=a->a<(qv.length:Int)->Opn qv a):mz qv=[]:=by
 unfold mz;refine List.filter_eq_nil_iff.mpr λa ha hc=>?_
 obtain⟨x,hx,hx0⟩:=h a (acw ha).1 (acw ha).2;have:=(sy qv a).mp hc x hx;omega
def open_spec(P:Int×Int)(m w:Int)(m1:1<=m)(m2:m<=10)(w1:1<=w)(w2:w<=6):∃qv P',f__law_open [.own (ZY 0) (pen P),.val (.int m),.val (.int w)]=ZY (.ok (.v (hD qv)),[.own (ZY 0) (pen P'),.val (.int m),.val (.int w)])/\Hs qv/\mz qv=[]/\(qv.length:Int)<=m/\∀r∈qv,r.length<=w.toNat:=by
 obtain⟨qv,P1,e1,ho⟩:=ait P m w m1 m2 w1 w2;have h:=ho.hs m2 w2;have loop:=xf (b:=cj 4) (g:=l1__law_open) (λi ρ=>∃rs P o1 o2,ρ=[.own (ZY 0) (pen P),.val (.int m),.val (.int w),.own ZX (hDs rs),o1,o2]/\Hs rs/\(∀r∈rs,r.length<=w.toNat)/\rs.length=qv.length/\∀a:Int,0<=a->a<(i:Int)->Opn rs a)
  (l:=rangeD 0 qv.length) (ρ:=[.own (ZY 0) (pen P1),.val (.int m),.val (.int w),.own ZX (hDs qv),.emp,.emp]) 0 ⟨qv,P1,.emp,.emp,rfl,h,λr hr=>by have:=(ho.room r hr).2.1;omega,rfl,λa x y=>by omega⟩ ?_
 ·obtain⟨ρ',e2,rs,P2,o1,o2,rfl,hs,hw,hl,hop⟩:=loop;refine⟨rs,P2,?_,hs,aoa λa x y=>hop a x (by simp[rangeD];omega),by rw[hl];exact ho.most,hw⟩
  have hl0:(hDs qv).length=qv.length:=by simp[hDs]
  have hb':qv.length<4611686018427387904:=by simpa using agv h
  simp[f__law_open,ahm,e1,hD,hl0,hb',e2]
 ·rintro i d ρ hd ⟨rs,P3,o1,o2,rfl,hs,hw,hl,hop⟩
  rw[adm,aV] at hd;obtain⟨k,hk,rfl⟩:=lD.mp hd;have hk':=acw (iV hk);have hki:k=(i:Int):=by
   unfold upto at hk;rw[aV] at hk;obtain⟨j,hj,rfl⟩:=lD.mp hk;have hlt:i<qv.length:=by
    have:=(aJ.mp hj).1
    simpa using this
   rw[bZ hlt] at hj;cases hj;rfl
  obtain⟨rs',P4,o',e3,hs',hw',hl',h5,h6⟩:=ass hs hw P3 (A:=.val (.int m)) (B:=.val (.int w)) (o:=o2) hk'.1 (by rw[hl];exact hk'.2)
  refine⟨[.own (ZY 0) (pen P3),.val (.int m),.val (.int w),.own ZX (hDs rs),.val (.int k),o2],_,rfl,.inl e3,rs',P4,_,_,rfl,hs',hw',hl'.trans hl,λa x y=>?_⟩
  by_cases q:a=k
  ·rw[q];exact h5
  ·exact h6 a (hop a x (by omega))
def yl(qv:LL9):(hDs qv).length=qv.length:=by simp[hDs]
structure Arr (qv:LL9) (as:List Int):Prop where
 len:as.length=qv.length
 ok:∀(i:Nat) (a:Int) (r:List Int),as[i]? = ZY a->qv[i]? = ZY r->0<=a/\a<(r.length:Int)
def ar(as:List Int)(x:Int):Int:=as.getD x.toNat 0
def Arr.at(h:Arr qv as)(h0:0<=x)(h1:x<(qv.length:Int)):0<=ar as x/\ar as x<((dr qv x).length:Int):=by
 have hk:x.toNat<qv.length:=by omega
 have hk2:x.toNat<as.length:=by rw[h.len];exact hk
 have:=h.ok x.toNat as[x.toNat] qv[x.toNat] (aG hk2) (aG hk)
 simpa[ar,dr,hk,hk2] using this
def azs(y0:0<=y)(y1:y<(qv.length:Int))(h:∀z,Rch qv y z->0<=z):y∈mz qv:=eN.mpr ⟨by
 unfold upto;exact cJ.mpr ⟨y.toNat,fY.mpr (by omega),by omega⟩,(sy qv y).mpr h⟩
abbrev Rw:=Nat->Int
def lap(c:Nat)(F:List Rw->Int):List Rw->List Rw->Int
 |_,[]=>0
 |pre,r::rs=>r c*F (pre++rs)-lap c F (pre++[r]) rs
def det:List Nat->List Rw->Int
 | [],[]=>1
 | [],_::_=>0
 |c::cs,rows=>lap c (det cs) [] rows
def SW(F:List Rw->Int):Prop:=∀p a b q,F (p++a::b::q) = - F (p++b::a::q)
theorem atj{c:Nat}{F:List Rw->Int}(hF:SW F)(a b:Rw):∀(q p1 p2:List Rw),lap c F (p1++a::b::p2) q = - lap c F (p1++b::a::p2) q
 | [],_,_=>by simp[lap]
 |r::q,p1,p2=>by
  have ih:=atj (c:=c) hF a b q p1 (p2++[r]);have e:=hF p1 a b (p2++q);simp only[lap,cZ,dH] at ih e ⊢
  rw[ih,e,iU];omega
theorem ayw{c:Nat}{F:List Rw->Int}(hF:SW F)(a b:Rw)(q:List Rw):∀(p pre:List Rw),lap c F pre (p++a::b::q) = - lap c F pre (p++b::a::q)
 | [],pre=>by
  have h:=atj (c:=c) hF a b q pre [];simp only[lap,bQ,cZ,dH] at h ⊢
  rw[h];omega
 |r::p,pre=>by
  have ih:=ayw (c:=c) hF a b q p (pre++[r]);have e:=hF (pre++p) a b q;simp only[lap,cZ,dH] at ih e ⊢
  rw[ih,e,iU];omega
theorem ape:∀cs,SW (det cs)
 | []=>λp a b q=>by
  have e:∀x:List Rw,x≠[]->det [] x=0:=λx hx=>by
   cases x with
   |nil=>exact absurd rfl hx
   |cons=>rfl
  rw[e _ (by simp),e _ (by simp)]
  rfl
 |c::cs=>λp a b q=>ayw (ape cs) a b q p []
def LN(F:List Rw->Int):Prop:=∀p (x y:Int) (a b:Rw) q,F (p++(λj=>x*a j+y*b j)::q)=x*F (p++a::q)+y*F (p++b::q)
theorem atk{c:Nat}{F:List Rw->Int}(hF:LN F)(x y:Int)(a b:Rw):∀(q p1 p2:List Rw),lap c F (p1++(λj=>x*a j+y*b j)::p2) q=x*lap c F (p1++a::p2) q+y*lap c F (p1++b::p2) q
 | [],_,_=>by simp[lap]
 |r::q,p1,p2=>by
  have ih:=atk (c:=c) hF x y a b q p1 (p2++[r]);have e:=hF p1 x y a b (p2++q);simp only[lap,cZ,dH] at ih e ⊢
  rw[ih,e,jT,pL,pL,iD,iD (r c)];omega
theorem ayx{c:Nat}{F:List Rw->Int}(hF:LN F)(x y:Int)(a b:Rw)(q:List Rw):∀(p pre:List Rw),lap c F pre (p++(λj=>x*a j+y*b j)::q)=x*lap c F pre (p++a::q)+y*lap c F pre (p++b::q)
 | [],pre=>by
  have h:=atk (c:=c) hF x y a b q pre [];simp only[lap,bQ] at h ⊢
  rw[h,Int.add_mul,pL,pL,kW,kW];omega
 |r::p,pre=>by
  have ih:=ayx (c:=c) hF x y a b q p (pre++[r]);have e:=hF (pre++p) x y a b q;simp only[lap,cZ,dH] at ih e ⊢
  rw[ih,e,jT,pL,pL,iD,iD (r c)];omega
theorem au0:∀cs,LN (det cs)
 | []=>λp x y a b q=>by
  have e:∀z:List Rw,z≠[]->det [] z=0:=λz hx=>by
   cases z with
   |nil=>exact absurd rfl hx
   |cons=>rfl
  rw[e _ (by simp),e _ (by simp),e _ (by simp)]
  simp
 |c::cs=>λp x y a b q=>ayx (au0 cs) x y a b q p []
theorem apf(cs:List Nat)(a:Rw):∀(q p r:List Rw),det cs (p++a::(q++a::r))=0
 | [],p,r=>by
  have:=ape cs p a a r;simp only[bQ];omega
 |x::q,p,r=>by
  have h:=ape cs p a x (q++a::r);have ih:=apf cs a q (p++[x]) r;simp only[cZ,dH,bQ] at h ih ⊢
  rw[h,ih];rfl
theorem azb(cs:List Nat)(a:Rw):∀(q p r:List Rw),det cs (p++(q++a::r))=det cs (p++a::(q++r))∨det cs (p++(q++a::r)) = - det cs (p++a::(q++r))
 | [],p,r=>.inl rfl
 |x::q,p,r=>by
  have h:=ape cs p x a (q++r);have ih:=azb cs a q (p++[x]) r;simp only[cZ,dH,bQ] at h ih ⊢
  rcases ih with e |e
  ·right;rw[e,h]
  ·left;rw[e,h];omega
def clr(x u:Int)(r k:Rw):Rw:=λj=>x*r j+(-u)*k j
theorem anz(C:List Nat)(k:Rw)(x:Int)(u:Rw->Int):∀(rs pre:List Rw),det C (k::(pre++rs.map λr=>clr x (u r) r k))=x ^ rs.length*det C (k::(pre++rs))
 | [],pre=>by simp
 |r::rs,pre=>by
  have e:=au0 C (k::pre) x (-(u r)) r k (rs.map λr=>clr x (u r) r k)
  have z:=apf C k pre [] (rs.map λr=>clr x (u r) r k)
  have ih:=anz C k x u rs (pre++[r]);simp only[cZ,dH,bQ,bH,cW] at e z ih ⊢
  show det C (k::(pre++(λj=>x*r j+(-(u r))*k j)::_))=_
  rw[e,z,ih,dJ,jQ,qN,cX (x ^ rs.length) x,kW]
theorem aot{c:Nat}{F:List Rw->Int}:∀(rs pre:List Rw),(∀r∈rs,r c=0)->lap c F pre rs=0
 | [],_,_=>rfl
 |r::rs,pre,h=>by
  show r c*F (pre++rs)-lap c F (pre++[r]) rs=0;rw[h r (aX ..),aot rs _ λx hx=>h x (aR _ hx)]
  simp
def chio(c:Nat)(cs:List Nat)(k:Rw)(rs:List Rw):k c*det cs (rs.map λr=>clr (k c) (r c) r k)=k c ^ rs.length*det (c::cs) (k::rs):=by
 have e:=anz (c::cs) k (k c) (λr=>r c) rs []
 rw[bQ,bQ] at e;rw[<-e];show _=lap c (det cs) [] (k::_);show _=k c*det cs ([]++_)-lap c (det cs) ([]++[k]) _;rw[aot]
 ·simp
 ·intro r hr;obtain⟨r0,_,rfl⟩:=cJ.mp hr;show k c*r0 c+(-(r0 c))*k c=0;rw[pK,cX];omega
theorem aht(cs:List Nat)(x:Int):∀(rs pre:List Rw),det cs (pre++rs.map λr j=>x*r j)=x ^ rs.length*det cs (pre++rs)
 | [],pre=>by simp
 |r::rs,pre=>by
  have e:=au0 cs pre x 0 r r (rs.map λr j=>x*r j)
  have ih:=aht cs x rs (pre++[r]);have z:(λj=>x*r j+0*r j)=λj=>x*r j:=by funext j;simp
  rw[z] at e;simp only[cZ,dH,bQ,bH,cW] at e ih ⊢
  rw[e,ih,fK,jQ,qN,cX (x ^ rs.length) x,kW]
def Dvd(d:Int)(n:Nat)(M:Nat->Rw):Prop:=∀(is cs:List Nat),(∀i∈is,i<n)->is≠[]->d ^ (is.length-1) ∣ det cs (is.map M)
def Dvd.one(n:Nat)(M:Nat->Rw):Dvd 1 n M:=λis cs _ _=>by rw[Int.one_pow];exact Int.one_dvd _
def Dvd.two{d:Int}{n:Nat}{M:Nat->Rw}(h:Dvd d n M){i k:Nat}(hi:i<n)(hk:k<n)(c j:Nat):d ∣ M k c*M i j-M i c*M k j:=by
 have:=h [k,i] [c,j] (λx hx=>by simp at hx;omega) (by simp)
 simp[det,lap] at this;have e:d ^ 1=d:=by rw[qN,Int.pow_zero,lY]
 rwa[e] at this
def stM(d:Int)(k:Nat)(M:Nat->Rw):Nat->Rw:=λi j=>if i=k then M k j else (M k k*M i j-M i k*M k j) / d
section
variable{d:Int}{n:Nat}{M:Nat->Rw}(h:Dvd d n M){k:Nat}(hk:k<n)(hd:d≠0)
include h hk hd
omit hd in
theorem amn{i:Nat}(hi:i<n)(hne:i≠k)(j:Nat):d*stM d k M i j=M k k*M i j-M i k*M k j:=by
 unfold stM;rw[if_neg hne];exact Int.mul_ediv_cancel' (h.two hi hk k j)
theorem aoe(is:List Nat)(hi:∀i∈is,i<n)(hn:k∉is):(is.map (stM d k M)).map (λr j=>d*r j)=(is.map M).map λr=>clr (M k k) (r k) r (M k):=by
 rw[dR,dR];apply gA;intro i hm
 funext j
 have:=amn h hk (hi i hm) (λe=>hn (e▸hm)) j
 show d*stM d k M i j=M k k*M i j+(-(M i k))*M k j;rw[this,pK];omega
theorem Dvd.step(hp:M k k≠0):Dvd (M k k) n (stM d k M):=λis cs hi hne=>by
 by_cases hm:k∈is
 ·obtain⟨a,b,rfl⟩:=rZ hm
  by_cases ha:k∈a++b
  ·-- twice
   have z:det cs ((a++k::b).map (stM d k M))=0:=by
    rw[dU,bH];rcases dC.mp ha with q |q
    ·obtain⟨a1,a2,rfl⟩:=rZ q;rw[dU,bH,cZ,dH];exact apf cs _ _ _ _
    ·obtain⟨b1,b2,rfl⟩:=rZ q;rw[dU,bH];exact apf cs _ _ _ _
   rw[z];exact Int.dvd_zero _
  ·have hab:∀i∈a++b,i<n:=λi q=>hi i (by
    rcases dC.mp q with q |q
    ·exact gK _ q
    ·exact bO _ (aR _ q))
   have e1:=aoe h hk hd (a++b) hab ha;have ek:stM d k M k=M k:=by funext j;unfold stM;rw[if_pos rfl]
   have e2:=aht cs d ((a++b).map (stM d k M)) [M k];have e3:=anz cs (M k) (M k k) (λr=>r k) ((a++b).map M) []
   obtain⟨q,e4⟩:=h (k::(a++b)) cs (λi hi'=>by
    rcases bA.mp hi' with rfl |z
    ·exact hk
    ·exact hab i z) (by simp)
   rw[e1] at e2;simp only[bQ,dH,aU,bH,cW,xV] at e2 e3 e4;rw[e3,e4] at e2;have e5:det cs (M k::(a++b).map (stM d k M))=M k k ^ (a++b).length*q:=by
    refine eV (Ab hd) ((e2.symm).trans ?_);rw[iD]
   have e6:=azb cs (M k) (a.map (stM d k M)) [] (b.map (stM d k M));rw[bQ,bQ,<-dU,e5] at e6;rw[dU,bH,ek,show(a++k::b).length-1=(a++b).length by simp]
   rcases e6 with z |z
   ·exact⟨q,z⟩
   ·exact⟨-q,by rw[z,iU]⟩
 ·have e1:=aoe h hk hd is hi hm;have e2:=aht cs d (is.map (stM d k M)) [];have e3:=chio k cs (M k) (is.map M);obtain⟨q,e4⟩:=h (k::is) (k::cs) (λi hi'=>by
   rcases bA.mp hi' with rfl |z
   ·exact hk
   ·exact hi i z) (by simp)
  rw[e1] at e2;simp only[bQ,aU,bH,cW,xV] at e2 e3 e4;rw[e2,e4] at e3;have e5:M k k*det cs (is.map (stM d k M))=M k k ^ is.length*q:=by
   refine eV (show d ^ is.length≠0 from Ab hd) ?_
   rw[iD,e3,iD]
  have hl:is.length=is.length-1+1:=by have:=oF.mpr hne;omega
  rw[hl,qN,cX (M k k ^ (is.length-1)) (M k k),kW] at e5;exact⟨q,eV hp e5⟩
end
theorem amm{f:Int->Int}{m:Int}:∀{l:List Int},(∀d∈l,f d<=m)->(l.map f).sum<=m*(l.length:Int)
 | [],_=>by simp
 |d::l,h=>by
  have a:=h d (aX ..);have b:=amm (l:=l) λx hx=>h x (aR _ hx)
  rw[bH,lN,cW,uL,jT];simp;omega
theorem aih{f:Int->Int}{m:Int}:∀{l:List Int},(∀d∈l,f d<=m)->m*(l.length:Int)<=(l.map f).sum->∀d∈l,f d=m
 |d::l,h,hs,x,hx=>by
  have a:=h d (aX ..);have b:=amm (l:=l) λx hx=>h x (aR _ hx)
  rw[bH,lN,cW,uL,jT] at hs;simp at hs;rcases bA.mp hx with rfl |q
  ·omega
  ·exact aih (λx hx=>h x (aR _ hx)) (by omega) x q
theorem avr(X:Int->Int):∀n:Nat,0<n->∃i:Int,0<=i/\i<(n:Int)/\∀j:Int,0<=j->j<(n:Int)->X j<=X i
 | 1,_=>⟨0,by omega,by omega,λj a b=>by
  have:j=0:=by omega
  rw[this];exact pM _⟩
 |n+2,_=>by
  obtain⟨i,i0,i1,h⟩:=avr X (n+1) (by omega)
  by_cases q:X i<=X ((n+1:Nat):Int)
  ·refine⟨((n+1:Nat):Int),by omega,by omega,λj a b=>?_⟩
   by_cases e:j=((n+1:Nat):Int)
   ·rw[e];exact pM _
   ·exact qP (h j a (by omega)) q
  ·refine⟨i,i0,by omega,λj a b=>?_⟩
   by_cases e:j=((n+1:Nat):Int)
   ·rw[e];omega
   ·exact h j a (by omega)
section
variable{qv:LL9}(h:Hs qv)(hop:mz qv=[])
include h hop
theorem aop{X:Int->Int}(hg:∀d,d<0->X d=0)(hX:∀i,0<=i->i<(qv.length:Int)->0<X i->((dr qv i).length:Int)*X i<=((dr qv i).map X).sum)(i:Int)(i0:0<=i)(i1:i<(qv.length:Int)):X i<=0:=by
 apply cH;intro hi;obtain⟨t,t0,t1,ht⟩:=avr X qv.length h.one;have hpos:0<X t:=by have:=ht i i0 i1;omega
 have le:∀y,0<=y->y<(qv.length:Int)->∀d∈dr qv y,X d<=X t:=λy y0 y1 d hd=>by
  have b:=(h.dr y0 y1).2.2 d hd;rcases tO d 0 with q |q
  ·rw[hg d q];omega
  ·exact ht d q b.2
 have all:∀z,Rch qv t z->(0<=z/\z<(qv.length:Int))/\X z=X t:=λz hz=>by
  induction hz with
  |base=>exact⟨⟨t0,t1⟩,rfl⟩
  | @step x d r _ hd ih=>
   obtain⟨⟨x0,x1⟩,e⟩:=ih;have a:=hX x x0 x1 (by omega)
   rw[e,cX] at a;have q:=aih (le x x0 x1) a d hd;have b:=(h.dr x0 x1).2.2 d hd;refine⟨⟨?_,b.2⟩,q⟩;rcases tO d 0 with z |z
   ·rw[hg d z] at q;omega
   ·exact z
 have:=azs t0 t1 λz hz=>(all z hz).1.1
 rw[hop] at this;cases this
end
noncomputable def dot:Nat->Rw->Rw->Int
 | 0,_,_=>0
 |m+1,r,y=>dot m r y+r m*y m
theorem afq(x z:Int)(a b y:Rw):∀m,dot m (λj=>x*a j+z*b j) y=x*dot m a y+z*dot m b y
 | 0=>by simp[dot]
 |m+1=>by
  show dot m _ y+(x*a m+z*b m)*y m=x*(dot m a y+a m*y m)+z*(dot m b y+b m*y m);rw[afq x z a b y m,Int.add_mul,jT,jT,kW,kW];omega
theorem u5{a b y z:Rw}:∀m,(∀j<m,a j=b j)->(∀j<m,y j=z j)->dot m a y=dot m b z
 | 0,_,_=>rfl
 |m+1,h,g=>by
  show dot m a y+_=dot m b z+_;rw[u5 m (λj hj=>h j (by omega)) (λj hj=>g j (by omega)),h m (by omega),g m (by omega)]
theorem abu{a y:Rw}:∀m,(∀j<m,a j*y j=0)->dot m a y=0
 | 0,_=>rfl
 |m+1,h=>by
  show dot m a y+_=0;rw[abu m λj hj=>h j (by omega),h m (by omega)]
  rfl
theorem wz{a y:Rw}{i:Nat}:∀m,i<m->(∀j<m,j≠i->a j*y j=0)->dot m a y=a i*y i
 |m+1,hi,h=>by
  show dot m a y+a m*y m=_
  by_cases e:i=m
  ·subst e;rw[abu i λj hj=>h j (by omega) (by omega)]
   omega
  ·rw[wz m (by omega) λj hj=>h j (by omega),h m (by omega) (gY e)]
   omega
theorem akg{a y z:Rw}:∀m,dot m a (λj=>y j+z j)=dot m a y+dot m a z
 | 0=>rfl
 |m+1=>by
  show dot m a _+a m*(y m+z m)=dot m a y+a m*y m+(dot m a z+a m*z m);rw[akg m,jT];omega
theorem auw{a y:Rw}(x:Int):∀m,dot m a (λj=>x*y j)=x*dot m a y
 | 0=>by simp[dot]
 |m+1=>by
  show dot m a _+a m*(x*y m)=x*(dot m a y+a m*y m);rw[auw x m,jT,iD]
def BS(M0:Nat->Rw):Nat->Int×(Nat->Rw)
 | 0=>(1,M0)
 |k+1=>((BS M0 k).2 k k,stM (BS M0 k).1 k (BS M0 k).2)
structure BJ (n m:Nat) (M0:Nat->Rw) (P:Nat->Prop) (d:Int) (M:Nat->Rw):Prop where
 pos:0<d
 dvd:Dvd d n M
 pin:∀j,P j->j<n
 shape:∀i<n,∀j,P j->M i j=if i=j then d else 0
 back:∀y,(∀j,P j->dot m (M j) y=0)->(∀j,P j->dot m (M0 j) y=0)/\∀i,i<n->¬P i->dot m (M i) y=d*dot m (M0 i) y
def BJ.zero(n m:Nat)(M0:Nat->Rw):BJ n m M0 (λ_=>False) 1 M0:=⟨by decide,Dvd.one n M0,λ_ h=>h.elim,λ_ _ _ h=>h.elim,λy _=>⟨λj hj=>hj.elim,λi _ _=>by rw[lY]⟩⟩
def BJ.to{n m:Nat}{M0:Nat->Rw}{P Q:Nat->Prop}{d:Int}{M:Nat->Rw}(b:BJ n m M0 P d M)(h:∀j,P j↔Q j):BJ n m M0 Q d M:=by
 have:P=Q:=funext λj=>propext (h j)
 rwa[<-this]
def BJ.step{n m:Nat}{M0:Nat->Rw}{P:Nat->Prop}{d:Int}{M:Nat->Rw}(b:BJ n m M0 P d M){k:Nat}(hk:k<n)(hnk:¬P k)(hp:0<M k k):BJ n m M0 (λj=>P j∨j=k) (M k k) (stM d k M):=by
 obtain⟨p1,p2,pin,p3,p4⟩:=b;have mul:=λ{i:Nat} (hi:i<n) (hne:i≠k) j=>amn p2 hk hi hne j
 have hd:d≠0:=by omega
 have st:=p2.step hk hd (by omega)
 have ek:stM d k M k=M k:=by funext j;unfold stM;rw[if_pos rfl]
 have dm:∀i,i<n->i≠k->∀y,d*dot m (stM d k M i) y=M k k*dot m (M i) y-M i k*dot m (M k) y:=λi hi hne y=>by
  have a:=afq d 0 (stM d k M i) (stM d k M i) y m;have c:=afq (M k k) (-(M i k)) (M i) (M k) y m;rw[fK,jQ] at a;rw[<-a,Int.sub_eq_add_neg,<-pK,<-c];refine u5 m (λj _=>?_) λ_ _=>rfl
  rw[fK,jQ,mul hi hne j,pK];omega
 refine⟨hp,st,λj hj=>?_,λi hi j hj=>?_,λy hy=>?_⟩
 ·rcases hj with z |z
  ·exact pin j z
  ·omega
 ·by_cases hik:i=k
  ·subst hik;rw[ek]
   by_cases hjk:j=i
   ·subst hjk;rw[if_pos rfl]
   ·have hPj:P j:=hj.elim id λz=>absurd z hjk
    rw[if_neg (gY hjk),p3 i hi j hPj,if_neg (gY hjk)]
  ·refine eV hd ?_;rw[mul hi hik j]
   by_cases hjk:j=k
   ·subst hjk;rw[if_neg hik,cX];omega
   ·have hPj:P j:=hj.elim id λz=>absurd z hjk
    rw[p3 i hi j hPj,p3 k hk j hPj,if_neg (show ¬k=j from gY hjk)]
    by_cases hij:i=j
    ·rw[if_pos hij,if_pos hij,cX];omega
    ·rw[if_neg hij,if_neg hij];simp
 ·have hkk:dot m (M k) y=0:=by have:=hy k (.inr rfl);rwa[ek] at this
  have hj:∀j,P j->dot m (M j) y=0:=λj hj=>by
   have hjk:j≠k:=λe=>hnk (e▸hj)
   have a:=dm j (pin j hj) hjk y;rw[hy j (.inl hj),hkk,dJ,dJ,wJ] at a;rcases qO.mp a.symm with z |z
   ·omega
   ·exact z
  obtain⟨b1,b2⟩:=p4 y hj;refine⟨λj hj'=>?_,λi hi hki=>?_⟩
  ·rcases hj' with z |z
   ·exact b1 j z
   ·subst z;have:=b2 j hk hnk;rw[hkk] at this;rcases qO.mp this.symm with z |z
    ·omega
    ·exact z
  ·have hik:i≠k:=λe=>hki (.inr e)
   have a:=dm i hi hik y;rw[hkk,dJ,wJ,b2 i hi (λz=>hki (.inl z)),iD] at a
   exact eV hd a
def dsq(qv:LL9):Nat->Rw:=λi j=>(if i=j then ((dr qv (i:Int)).length:Int) else 0)-((dr qv (i:Int)).count (j:Int):Int)
def xt(y:Rw)(d:Int):Int:=if d<0 then 0 else y d.toNat
theorem al2(y:Rw){n:Nat}:∀l:List Int,(∀d∈l,d<(n:Int))->dot n (λj=>(l.count (j:Int):Int)) y=(l.map (xt y)).sum
 | [],_=>abu n λj _=>by simp
 |d::l,h=>by
  have ih:=al2 y l λx hx=>h x (aR _ hx)
  have hd:=h d (aX ..);have e:=afq 1 1 (λj=>(l.count (j:Int):Int)) (λj=>if d=(j:Int) then 1 else 0) y n
  rw[ih,lY,lY] at e;rw[bH,lN];have e1:dot n (λj=>(((d::l).count (j:Int):Nat):Int)) y=dot n (λj=>1*(l.count (j:Int):Int)+1*(if d=(j:Int) then 1 else 0)) y:=by
   refine u5 n (λj _=>?_) λ_ _=>rfl
   rw[Aa]
   by_cases q:d=(j:Int)
   ·simp[q]
   ·simp[q]
  have e2:dot n (λj=>if d=(j:Int) then 1 else 0) y=xt y d:=by
   unfold xt
   by_cases q:d<0
   ·rw[if_pos q];exact abu n λj _=>by rw[if_neg (by omega),fK]
   ·rw[if_neg q,wz (i:=d.toNat) n (by omega) λj _ hj=>by rw[if_neg (by omega),fK],if_pos (by omega),lY]
  rw[e1,e,e2];omega
section
variable{qv:LL9}(h:Hs qv)
include h
theorem auy(y:Rw){i:Nat}(hi:i<qv.length):dot qv.length (dsq qv i) y=((dr qv (i:Int)).length:Int)*y i-((dr qv (i:Int)).map (xt y)).sum:=by
 have e:=afq 1 (-1) (λj=>if i=j then ((dr qv (i:Int)).length:Int) else 0) (λj=>((dr qv (i:Int)).count (j:Int):Int)) y qv.length
 rw[al2 y _ λd hd=>((h.dr (x:=(i:Int)) (by omega) (by omega)).2.2 d hd).2] at e
 have e1:dot qv.length (dsq qv i) y=dot qv.length (λj=>1*(if i=j then ((dr qv (i:Int)).length:Int) else 0)+(-1)*((dr qv (i:Int)).count (j:Int):Int)) y:=by
  refine u5 _ (λj _=>?_) λ_ _=>rfl
  unfold dsq;omega
 have e2:dot qv.length (λj=>if i=j then ((dr qv (i:Int)).length:Int) else 0) y=((dr qv (i:Int)).length:Int)*y i:=by
  rw[wz (i:=i) _ hi λj _ hj=>by rw[if_neg (gY hj),fK],if_pos rfl]
 rw[e1,e,e2];omega
variable(hop:mz qv=[])
include hop
theorem as7(y:Rw)(l:List Int):(l.map λd => - xt y d).sum = - (l.map (xt y)).sum:=by
 induction l with
 |nil=>rfl
 |cons x l ih=>rw[bH,bH,lN,lN,ih];omega
open Classical in
theorem colY{M0:Nat->Rw}(hM:∀i<qv.length,∀j<qv.length,M0 i j=dsq qv i j){P:Nat->Prop}{d:Int}{M:Nat->Rw}(b:BJ qv.length (qv.length+1) M0 P d M){k:Nat}(hk:k<qv.length)(hnk:¬P k):∃Y:Rw,Y k=d/\(∀j,¬P j->j≠k->Y j=0)/\(∀i,P i->M i k = - Y i)/\(∀i,P i->((dr qv (i:Int)).length:Int)*Y i-((dr qv (i:Int)).map (xt Y)).sum=0)/\∀i<qv.length,¬P i->((dr qv (i:Int)).length:Int)*Y i-((dr qv (i:Int)).map (xt Y)).sum=M i k:=by
 obtain⟨p1,p2,pin,p3,p4⟩:=b;have ds:∀i,dot (qv.length+1) (M i) (λj=>(if P j then-M j k else 0)+(if j=k then d else 0))=dot (qv.length+1) (M i) (λj=>if P j then-M j k else 0)+M i k*d:=λi=>by
  rw[akg,wz (i:=k) (y:=λj=>if j=k then d else 0) _ (by omega) λj _ hj=>by rw[if_neg hj,dJ]]
  rw[if_pos rfl]
 obtain⟨q1,q2⟩:=p4 (λj=>(if P j then-M j k else 0)+(if j=k then d else 0)) λj hj=>by
  have hjn:=pin j hj;rw[ds j,wz (i:=j) _ (by omega) λj' hj' hne=>by
   by_cases q:P j'
   ·rw[p3 j hjn j' q,if_neg (gY hne),fK]
   ·rw[if_neg q,dJ],p3 j hjn j hj,if_pos rfl,if_pos hj,iU,cX]
  omega
 have q2:∀i,i<qv.length->¬P i->dot (qv.length+1) (M0 i) (λj=>(if P j then-M j k else 0)+(if j=k then d else 0))=M i k:=λi hi hki=>by
  have q2:=q2 i hi hki;rw[ds i,abu _ λj' hj'=>by
   by_cases q:P j'
   ·rw[p3 i hi j' q,if_neg (λe:i=j'=>hki (by rw[e];exact q)),fK]
   ·rw[if_neg q,dJ],qM,cX] at q2
  exact(eV (by omega) q2).symm
 have hPn:¬P qv.length:=λz=>by have:=pin _ z;omega
 have lo:∀i,i<qv.length->dot (qv.length+1) (M0 i) (λj=>(if P j then-M j k else 0)+(if j=k then d else 0))=((dr qv (i:Int)).length:Int)*((if P i then-M i k else 0)+(if i=k then d else 0))-((dr qv (i:Int)).map (xt λj=>(if P j then-M j k else 0)+(if j=k then d else 0))).sum:=λi hi=>by
  rw[<-auy h (λj=>(if P j then-M j k else 0)+(if j=k then d else 0)) hi]
  show dot qv.length _ _+M0 i qv.length*((if P qv.length then-M qv.length k else 0)+(if qv.length=k then d else 0))=_
  rw[if_neg hPn,if_neg (by omega),jQ,dJ,jQ]
  exact u5 _ (λj hj=>hM i hi j hj) λ_ _=>rfl
 refine⟨λj=>(if P j then-M j k else 0)+(if j=k then d else 0),?_,λj hj hjk=>?_,λi hi=>?_,λi hi=>?_,λi hi hki=>?_⟩
 ·show(if P k then _ else _)+(if k=k then d else 0)=d
  rw[if_neg hnk,if_pos rfl,qM]
 ·show(if P j then _ else _)+(if j=k then d else 0)=0
  rw[if_neg hj,if_neg hjk];rfl
 ·show M i k = - ((if P i then-M i k else 0)+(if i=k then d else 0))
  rw[if_pos hi,if_neg (λe:i=k=>hnk (by rw[<-e];exact hi))]
  omega
 ·rw[<-lo i (pin i hi),q1 i hi]
 ·rw[<-lo i hi,q2 i hi hki]
theorem ayr{M0:Nat->Rw}(hM:∀i<qv.length,∀j<qv.length,M0 i j=dsq qv i j){P:Nat->Prop}{d:Int}{M:Nat->Rw}(b:BJ qv.length (qv.length+1) M0 P d M){k:Nat}(hk:k<qv.length)(hnk:¬P k):0<M k k/\M k k<=6*d/\∀i<qv.length,-(6*d)<=M i k/\M i k<=6*d:=by
 have p1:=b.pos;have pin:=b.pin;obtain⟨Y,Yk,Yb,m1,q1,q2⟩:=colY h hop hM b hk hnk;have hx0:∀d,d<0->xt Y d=0:=λd hd=>by unfold xt;rw[if_pos hd]
 have xi:∀i:Int,0<=i->xt Y i=Y i.toNat:=λi hi=>by unfold xt;rw[if_neg (by omega)]
 have nn:∀i:Int,0<=i->i<(qv.length:Int)->0<=xt Y i:=λi i0 i1=>by
  have:=aop h hop (X:=λd => - xt Y d) (λd hd=>by show-xt Y d=0;rw[hx0 d hd];rfl) (λi i0 i1 hi=>by
   have hik:P i.toNat:=by
    apply cH;intro z
    by_cases e:i.toNat=k
    ·rw[xi i i0,e,Yk] at hi;omega
    ·rw[xi i i0,Yb _ z e] at hi;omega
   have a:=q1 _ hik;rw[show((i.toNat:Nat):Int)=i by omega] at a
   rw[as7 h hop,xi i i0,iU];omega) i i0 i1
  omega
 have up:∀i:Int,0<=i->i<(qv.length:Int)->xt Y i<=d:=λi i0 i1=>by
  have:=aop h hop (X:=xt λj=>Y j+(-d)) (λd hd=>by unfold xt;rw[if_pos hd]) (λi i0 i1 hi=>by
   have e:xt (λj=>Y j+(-d)) i=Y i.toNat+(-d):=by unfold xt;rw[if_neg (by omega)]
   rw[e] at hi ⊢
   have hik:P i.toNat:=by
    apply cH;intro z
    by_cases e:i.toNat=k
    ·rw[e,Yk] at hi;omega
    ·rw[Yb _ z e] at hi;omega
   have a:=q1 _ hik;rw[show((i.toNat:Nat):Int)=i by omega] at a
   have s:∀l:List Int,(l.map (xt Y)).sum-d*(l.length:Int)<=(l.map (xt λj=>Y j+(-d))).sum:=λl=>by
    induction l with
    |nil=>simp
    |cons x l ih=>
     rw[bH,bH,lN,lN,cW,uL,jT];have:xt Y x-d<=xt (λj=>Y j+(-d)) x:=by
      unfold xt;split
      ·omega
      ·show Y x.toNat-d<=Y x.toNat+(-d);omega
     simp;omega
   have:=s (dr qv i);rw[jT,iU,cX _ d];omega) i i0 i1
  have e:xt (λj=>Y j+(-d)) i=xt Y i+(-d):=by unfold xt;rw[if_neg (by omega),if_neg (by omega)]
  rw[e] at this;omega
 have sb:∀i:Nat,i<qv.length->0<=((dr qv (i:Int)).map (xt Y)).sum/\((dr qv (i:Int)).map (xt Y)).sum<=6*d:=λi hi=>by
  obtain⟨_,l6,hb⟩:=h.dr (x:=(i:Int)) (by omega) (by omega)
  have s1:∀x∈dr qv (i:Int),0<=xt Y x/\xt Y x<=d:=λx hx=>by
   rcases tO x 0 with z |z
   ·rw[hx0 x z];omega
   ·exact⟨nn x z (hb x hx).2,up x z (hb x hx).2⟩
  have s2:=amm (f:=xt Y) (m:=d) λx hx=>(s1 x hx).2
  have s3:d*((dr qv (i:Int)).length:Int)<=d*6:=tZ (by omega) (by omega)
  refine⟨?_,by omega⟩
  have s4:∀l:List Int,(∀x∈l,0<=xt Y x)->0<=(l.map (xt Y)).sum:=λl=>by
   induction l with
   |nil=>intro _;simp
   |cons x l ih=>
    intro hl;rw[bH,lN];have:=ih λy hy=>hl y (aR _ hy)
    have:=hl x (aX ..);omega
  exact s4 _ λx hx=>(s1 x hx).1
 have dk:=h.dr (x:=(k:Int)) (by omega) (by omega)
 have a:=q2 k hk hnk;rw[Yk] at a;have kd:((dr qv (k:Int)).length:Int)*d<=6*d:=Int.mul_le_mul_of_nonneg_right (by omega) (by omega)
 have pos:0<M k k:=by
  apply cH;intro hneg;have:=aop h hop (X:=xt Y) hx0 (λi i0 i1 hi=>by
   rw[xi i i0] at hi ⊢
   by_cases z:P i.toNat
   ·have c:=q1 _ z;rw[show((i.toNat:Nat):Int)=i by omega] at c
    omega
   ·by_cases e:i.toNat=k
    ·have c:=q2 i.toNat (by omega) z
     rw[show((i.toNat:Nat):Int)=i by omega,e] at c
     rw[e];omega
    ·rw[Yb _ z e] at hi;omega) (k:Int) (by omega) (by omega)
  rw[xi _ (by omega),cN,Yk] at this
  omega
 have sk:=sb k hk;refine⟨pos,by omega,λi hi=>?_⟩
 by_cases z:P i
 ·rw[m1 i z];have u:=up (i:Int) (by omega) (by omega)
  have l:=nn (i:Int) (by omega) (by omega)
  rw[xi _ (by omega),cN] at u l
  omega
 ·by_cases e:i=k
  ·subst e;omega
  ·have c:=q2 i hi z;rw[Yb i z e,dJ] at c;have:=sb i hi;omega
theorem aqt{M0:Nat->Rw}(hM:∀i<qv.length,∀j<qv.length,M0 i j=dsq qv i j){P:Nat->Prop}(hP:∀j<qv.length,P j){d:Int}{M:Nat->Rw}(b:BJ qv.length (qv.length+1) M0 P d M)(i:Nat)(hi:i<qv.length):dot qv.length (dsq qv i) (λj=>M j qv.length)=M0 i qv.length*d:=by
 obtain⟨p1,p2,pin,p3,p4⟩:=b;obtain⟨q1,_⟩:=p4 (λj=>if j<qv.length then M j qv.length else -d) λj hj'=>by
  have hj:=pin j hj';show dot qv.length (M j) _+M j qv.length*(if qv.length<qv.length then _ else -d)=0
  rw[if_neg (by omega),wz (i:=j) _ hj λj' hj' hne=>by rw[p3 j hj j' (hP j' hj'),if_neg (gY hne),fK],p3 j hj j (hP j hj),if_pos rfl,if_pos hj,iU,cX]
  omega
 have a:=q1 i (hP i hi);have a:dot qv.length (M0 i) _+M0 i qv.length*(if qv.length<qv.length then _ else -d)=0:=a
 rw[if_neg (by omega),iU] at a
 have e:=u5 (a:=M0 i) (b:=dsq qv i) (y:=λj=>if j<qv.length then M j qv.length else -d) (z:=λj=>M j qv.length) qv.length (λj hj=>hM i hi j hj) λj hj=>if_pos hj
 rw[e] at a;omega
theorem ai3{M0:Nat->Rw}(hM:∀i<qv.length,∀j<qv.length,M0 i j=dsq qv i j):∀k,k<=qv.length->BJ qv.length (qv.length+1) M0 (λj=>j<k) (BS M0 k).1 (BS M0 k).2/\(BS M0 k).1<=6 ^ k
 | 0,_=>⟨(BJ.zero ..).to λj=>⟨λz=>z.elim,λz=>by omega⟩,by show(1:Int)<=1;omega⟩
 |k+1,hk=>by
  obtain⟨a,c⟩:=ai3 hM k (by omega)
  obtain⟨p1,p2,_⟩:=ayr h hop hM a (k:=k) (by omega) (by omega)
  refine⟨(a.step (by omega) (by omega) p1).to λj=>by omega,?_⟩
  show(BS M0 k).2 k k<=6 ^ (k+1);rw[qN,cX];omega
theorem a0l{M0:Nat->Rw}(hM:∀i<qv.length,∀j<qv.length,M0 i j=dsq qv i j){k:Nat}(b:BJ qv.length (qv.length+1) M0 (λj=>j<k) (BS M0 k).1 (BS M0 k).2)(hk:k<qv.length):0<(BS M0 k).2 k k/\(BS M0 k).2 k k<=6*(BS M0 k).1/\∀i<qv.length,-(6*(BS M0 k).1)<=(BS M0 k).2 i k/\(BS M0 k).2 i k<=6*(BS M0 k).1:=ayr h hop hM b hk (by omega)
theorem arx{M0:Nat->Rw}(hM:∀i<qv.length,∀j<qv.length,M0 i j=dsq qv i j)(i:Nat)(hi:i<qv.length):dot qv.length (dsq qv i) (λj=>(BS M0 qv.length).2 j qv.length)=M0 i qv.length*(BS M0 qv.length).1:=aqt h hop hM (λ_ hj=>hj) (ai3 h hop hM qv.length (aL _)).1 i hi
end
def CS(n:Nat)(M0:Nat->Rw):Nat->Int×(Nat->Rw)
 | 0=>(1,M0)
 |k+1=>((CS n M0 k).2 (n-1-k) (n-1-k),stM (CS n M0 k).1 (n-1-k) (CS n M0 k).2)
section
variable{qv:LL9}(h:Hs qv)(hop:mz qv=[])
include h hop
end
def rwD(m:Nat)(r:Rw):D:=.lst ((aD m).map λj=>.int (r j))
def mtD(n m:Nat)(M:Nat->Rw):List D:=(aD n).map λi=>rwD m (M i)
def qu(n m:Nat)(M:Nat->Rw):(mtD n m M).length=n:=by simp[mtD]
def agj(n m:Nat)(M:Nat->Rw):mtD (n+1) m M=mtD n m M++[rwD m (M n)]:=by unfold mtD;rw[jE,dU];rfl
def ata{n m:Nat}{M:Nat->Rw}{k:Nat}(hk:k<n):atI (mtD n m M) (k:Int)=ZY (rwD m (M k)):=by
 unfold atI;rw[anf (by omega) (by rw[qu];omega),cN]
 show(mtD n m M)[k]? = _;unfold mtD;rw[aV,bZ hk];rfl
def zu{m:Nat}{r:Rw}{k:Nat}(hk:k<m):atI ((aD m).map λj=>D.int (r j)) (k:Int)=ZY (.int (r k)):=by
 unfold atI;rw[anf (by omega) (by simp;omega),cN]
 show((aD m).map λj=>D.int (r j))[k]? = _
 rw[aV,bZ hk];rfl
def ir(m:Nat)(r:Rw):((aD m).map λj=>D.int (r j)).length=m:=by simp
def ap6{k n:Nat}(hk:k<n):∃rest,rangeD (k:Int) (n-k)=.int (k:Int)::rest:=by
 obtain⟨c,hc⟩:∃c,n-k=c+1:=⟨n-k-1,by omega⟩
 rw[hc];refine⟨(aD c).map λi=>.int ((k:Int)+((i+1:Nat):Int)),?_⟩
 unfold rangeD;rw[pZ,bH,dR];show D.int ((k:Int)+((0:Nat):Int))::_=_;rw[show(k:Int)+((0:Nat):Int)=k by omega]
 rfl
def amv{n m:Nat}{M:Nat->Rw}{k:Nat}(hk:k<n)(hm:k<m)(hn:n<1000)(h0:M k k≠0):aa9 [.own (ZY 0) (mtD n m M),.val (.int (k:Int))]=ZY (.ok (.v (.int (k:Int))),[.own (ZY 0) (mtD n m M),.val (.int (k:Int))]):=by
 have e1:=ata (m:=m) (M:=M) hk;have e2:=zu (r:=M k) hm;have hl:=qu n m M;obtain⟨rest,er⟩:=ap6 hk;unfold rwD at e1;generalize mtD n m M=mm at *;have e3:adq [.own (ZY 0) mm,.val (.int (k:Int)),.val (.int (k:Int))]=ZY (.ret (.v (.int (k:Int))),[.own (ZY 0) mm,.val (.int (k:Int)),.val (.int (k:Int))]):=by
  simp[adq,e1,e2,h0]
 have hb:((n:Int)-(k:Int)).toNat=n-k:=by omega
 have hb1:k<4611686018427387904:=by omega
 have hb2:n<4611686018427387904:=by omega
 simp[aa9,aiu,hl,hb,hb1,hb2,er,nq,e3]
def au3(n m:Nat)(M:Nat->Rw)(hm:m<=1000):compD (cj 0) (ret ZW) afp (mtD n m M) [] [.emp]=ZY (.ok (mtD n m M),aaa .emp (mtD n m M)::[]):=by
 rw[ou (f:=id)]
 ·simp
 ·intro d hd;unfold mtD at hd;obtain⟨i,_,rfl⟩:=cJ.mp hd;have hl:=ir m (M i);unfold rwD;have hc:((aD m).map λj=>D.int (M i j)).length<=capS:=by rw[hl];exact bw hm
  simp[afp,hc]
def apy{n m:Nat}{M:Nat->Rw}(k:Int)(hn:n<=1000)(hm:m<=1000):acl [.val (.lst (mtD n m M)),.val (.int k),.val (.int k)]=ZY (.ok (.fr (mtD n m M)),[.val (.lst (mtD n m M)),.val (.int k),.val (.int k)]):=by
 have e:=au3 n m M hm;have hl:=qu n m M;have hc:(mtD n m M).length<=capS:=by rw[hl];exact bw hn
 simp[acl,alm,e,hc]
def aqv{m:Nat}{k i:Nat}{M:Nat->Rw}{d:Int}(hk:k<m)(hd0:0<d)(hd1:d<1000000000000000000000000000000000000000000000000000000000000)(hik:i≠k)(hkk : -18446744073709551616<M k k/\M k k<18446744073709551616)(hic : -18446744073709551616<M i k/\M i k<18446744073709551616):∃q1 q2,compD (bTup 2 (jl (cj 0) (jl (cj 1) bNil))) (ret ZW) ac2 (qi ((aD m).map λj=>D.int (M i j)) ((aD m).map λj=>D.int (M k j))) [] [.emp,.emp,.val (rwD m (M i)),.val (rwD m (M k)),.val (.int d),.val (.int (k:Int))] =
  ZY (.ok ((aD m).map λj=>D.int (stM d k M i j)),[q1,q2,.val (rwD m (M i)),.val (rwD m (M k)),.val (.int d),.val (.int (k:Int))]):=by
 have ek:=zu (r:=M k) hk;have ei:=zu (r:=M i) hk;have comp:=u9 (b:=bTup 2 (jl (cj 0) (jl (cj 1) bNil))) (mc:=ret ZW) (me:=ac2) (λj ys ρ=>∃o1 o2:Sl,ρ=[o1,o2,.val (rwD m (M i)),.val (rwD m (M k)),.val (.int d),.val (.int (k:Int))]/\ys=(aD j).map λj=>D.int (stM d k M i j))
  (l:=qi ((aD m).map λj=>D.int (M i j)) ((aD m).map λj=>D.int (M k j))) (ys:=[]) (ρ:=[.emp,.emp,.val (rwD m (M i)),.val (rwD m (M k)),.val (.int d),.val (.int (k:Int))]) 0 ⟨.emp,.emp,rfl,rfl⟩ ?_
 ·obtain⟨ys,ρ',e6,o1,o2,rfl,rfl⟩:=comp;have hz:(qi ((aD m).map λj=>D.int (M i j)) ((aD m).map λj=>D.int (M k j))).length=m:=by unfold qi;rw[gB,ir,ir];omega
  rw[hz,cT] at e6;exact⟨o1,o2,e6⟩
 ·rintro j z ys ρ hd ⟨o1,o2,rfl,rfl⟩
  have hj:j<m:=by
   rcases eY j m with q |q
   ·exact q
   ·rw[jP (by unfold qi;rw[gB,ir];omega)] at hd
    cases hd
  have ed:z=.tup [.int (M i j),.int (M k j)]:=by
   unfold qi at hd;rw[jO,aV,aV,bZ hj] at hd;exact(bJ hd).symm
  subst ed;have es:stM d k M i j=(M k k*M i j-M i k*M k j) / d:=by unfold stM;rw[if_neg hik]
  have fd:fDiv (M k k*M i j-M i k*M k j) d=ZY ((M k k*M i j-M i k*M k j) / d):=by unfold fDiv;rw[if_pos ⟨hd0,hd1⟩]
  refine⟨[.val (.int (M i j)),.val (.int (M k j)),.val (rwD m (M i)),.val (rwD m (M k)),.val (.int d),.val (.int (k:Int))],_,ZW,by simp,rfl,.inr ⟨rfl,.int (stM d k M i j),[.val (.int (M i j)),.val (.int (M k j)),.val (rwD m (M i)),.val (rwD m (M k)),.val (.int d),.val (.int (k:Int))],?_,_,_,rfl,?_⟩⟩
  ·rw[es];unfold rwD;generalize M k k=a1 at *;generalize M i j=a2 at *;generalize M i k=a3 at *;generalize M k j=a4 at *;have m1:fMul a1 a2=ZY (a1*a2):=by unfold fMul;rw[if_pos (.inl hkk)]
   have m2:fMul a3 a4=ZY (a3*a4):=by unfold fMul;rw[if_pos (.inl hic)]
   simp[ac2,ek,ei,m1,m2,fd]
  ·rw[cT,jE,dU];rfl
def aqu{n m:Nat}{k:Nat}{M:Nat->Rw}{d:Int}(hkn:k<n)(hk:k<m)(hn:n<=1000)(hm:m<=1000)(hd0:0<d)(hd1:d<1000000000000000000000000000000000000000000000000000000000000)(hcol:∀i<n,-18446744073709551616<M i k/\M i k<18446744073709551616):acn [.val (.lst (mtD n m M)),.val (.int (k:Int)),.val (.int d)]=ZY (.ok (.fr (mtD n m (stM d k M))),[.val (.lst (mtD n m M)),.val (.int (k:Int)),.val (.int d)]):=by
 have loop:=xf (b:=bTup 2 (jl (cj 5) (jl (cj 6) bNil))) (g:=acz) (λi ρ=>∃o5 o6,ρ=[.val (.lst (mtD n m M)),.val (.int (k:Int)),.val (.int d),.val (rwD m (M k)),.own ZX (mtD i m (stM d k M)),o5,o6])
  (l:=ac3 (mtD n m M)) (ρ:=[.val (.lst (mtD n m M)),.val (.int (k:Int)),.val (.int d),.val (rwD m (M k)),.own ZX [],.emp,.emp]) 0 ⟨.emp,.emp,rfl⟩ ?_
 ·obtain⟨ρ',e,o5,o6,rfl⟩:=loop;rw[aae,qu,cT] at e;have e1:=ata (m:=m) (M:=M) hkn;simp[acn,aln,e1,e]
 ·rintro i z ρ hd ⟨o5,o6,rfl⟩
  rw[cT];obtain⟨d0,g1,rfl⟩:=aaf hd;have hi:i<n:=by
   have:=(aJ.mp g1).1;rwa[qu] at this
  have ed:d0=rwD m (M i):=by
   unfold mtD at g1;rw[aV,bZ hi] at g1;exact(bJ g1).symm
  subst ed;refine⟨[.val (.lst (mtD n m M)),.val (.int (k:Int)),.val (.int d),.val (rwD m (M k)),.own ZX (mtD i m (stM d k M)),.val (.int (i:Int)),.val (rwD m (M i))],[.val (.lst (mtD n m M)),.val (.int (k:Int)),.val (.int d),.val (rwD m (M k)),.own ZX (mtD (i+1) m (stM d k M)),.val (.int (i:Int)),.val (rwD m (M i))],rfl,.inl ?_,_,_,rfl⟩;have hcap:(mtD i m (stM d k M)).length<capS:=by rw[qu];unfold capS;omega
  rw[agj]
  by_cases hik:i=k
  ·subst hik;have ek:stM d i M i=M i:=by funext j;unfold stM;rw[if_pos rfl]
   rw[ek];have hl:=ir m (M i);have hc:((aD m).map λj=>D.int (M i j)).length<=capS:=by rw[hl];exact bw hm
   unfold rwD;simp[acz,hc,hcap]
  ·obtain⟨q1,q2,e⟩:=aqv (M:=M) hk hd0 hd1 hik (hcol k hkn) (hcol i hi);have l1:=ir m (M i);have l2:=ir m (M k);have l3:=ir m (stM d k M i);have hle:((aD m).map λj=>D.int (M i j)).length<=((aD m).map λj=>D.int (M k j)).length:=by rw[l1,l2];exact aL _
   have hc:((aD m).map λj=>D.int (stM d k M i j)).length<=capS:=by rw[l3];exact bw hm
   have hne:¬((i:Int)=(k:Int)):=by omega
   unfold rwD at e ⊢
   generalize (aD m).map (λj=>D.int (stM d k M i j))=rs at *
   generalize (aD m).map (λj=>D.int (M i j))=ri at *
   generalize (aD m).map (λj=>D.int (M k j))=rk at *
   simp[acz,hne,hle,e,hc,hcap]
noncomputable def aug(A:Nat->Rw)(n:Nat)(c:Rw):Nat->Rw:=λi j=>if j<n then A i j else c i
def az7(A:Nat->Rw)(n:Nat)(c:Rw)(i:Nat):rwD (n+1) (aug A n c i)=.lst (((aD n).map λj=>.int (A i j))++[.int (c i)]):=by
 unfold rwD;rw[jE,dU]
 congr 2
 ·apply gA;intro j hj;have:=fY.mp hj;unfold aug;rw[if_pos this]
 ·show[D.int (aug A n c i n)]=_;unfold aug;rw[if_neg (by omega)]
def ayd(hn:n<=100):∃q1 q2,compD (bTup 2 (jl (cj 0) (jl (cj 1) bNil))) (ret ZW) aey (qi (mtD n n A) ((aD n).map λi=>.int (c i))) [] [.emp,.emp]=ZY (.ok (mtD n (n+1) (aug A n c)),[q1,q2]):=by
 have comp:=u9 (b:=bTup 2 (jl (cj 0) (jl (cj 1) bNil))) (mc:=ret ZW) (me:=aey) (λj ys ρ=>∃o1 o2:Sl,ρ=[o1,o2]/\ys=mtD j (n+1) (aug A n c))
  (l:=qi (mtD n n A) ((aD n).map λi=>D.int (c i))) (ys:=[]) (ρ:=[.emp,.emp]) 0 ⟨.emp,.emp,rfl,rfl⟩ ?_
 ·obtain⟨ys,ρ',e6,o1,o2,rfl,rfl⟩:=comp;have hz:(qi (mtD n n A) ((aD n).map λi=>D.int (c i))).length=n:=by unfold qi;rw[gB,qu,ir];omega
  rw[hz,cT] at e6;exact⟨o1,o2,e6⟩
 ·rintro j z ys ρ hd ⟨o1,o2,rfl,rfl⟩
  have hj:j<n:=by
   rcases eY j n with q |q
   ·exact q
   ·rw[jP (by unfold qi;rw[gB,qu];omega)] at hd
    cases hd
  have ed:z=.tup [rwD n (A j),.int (c j)]:=by
   unfold qi mtD at hd;rw[jO,aV,aV,bZ hj] at hd;exact(bJ hd).symm
  subst ed;have hl:=ir n (A j);have hc:((aD n).map λi=>D.int (A j i)).length<=capS:=by rw[hl];exact bw (by omega)
  have hc2:((aD n).map λi=>D.int (A j i)).length+1<=capS:=by rw[hl];exact bw (by omega)
  refine⟨[.val (rwD n (A j)),.val (.int (c j))],_,ZW,by simp,rfl,.inr ⟨rfl,rwD (n+1) (aug A n c j),[.val (rwD n (A j)),.val (.int (c j))],?_,_,_,rfl,?_⟩⟩
  ·rw[az7];unfold rwD;generalize (aD n).map (λi=>D.int (A j i))=rr at *
   simp[aey,hc,hc2]
  ·rw[cT,agj]
def tops(qv:LL9)(c:Rw):Nat->Int:=λi=>(BS (aug (dsq qv) qv.length c) qv.length).2 i qv.length
def botm(qv:LL9)(c:Rw):Int:=(BS (aug (dsq qv) qv.length c) qv.length).1
section
variable{qv:LL9}(h:Hs qv)(hop:mz qv=[])(c:Rw)
include h hop
theorem aft:∀i<qv.length,∀j<qv.length,aug (dsq qv) qv.length c i j=dsq qv i j:=λi _ j hj=>by unfold aug;rw[if_pos hj]
theorem afr:0<botm qv c/\botm qv c<=60466176:=by
 obtain⟨a,b⟩:=ai3 h hop (aft h hop c) qv.length (aL _);refine⟨a.pos,qP b ?_⟩;have:(6:Int) ^ qv.length<=6 ^ 10:=by
  have:=eX (show 0<6 by decide) h.most
  exact_mod_cast this
 exact this
theorem azv(i:Nat)(hi:i<qv.length):dot qv.length (dsq qv i) (tops qv c)=c i*botm qv c:=by
 have:=arx h hop (aft h hop c) i hi;have e:aug (dsq qv) qv.length c i qv.length=c i:=by unfold aug;rw[if_neg (by omega)]
 rw[e] at this;exact this
end
def aij(hm:n<=10)(h0:∀k,k<n->0<(BS (aug A n c) k).2 k k)(hd':∀k,k<n->0<(BS (aug A n c) k).1/\(BS (aug A n c) k).1<=60466176)(hcol:∀k,k<n->∀i,i<n -> -18446744073709551616<(BS (aug A n c) k).2 i k/\(BS (aug A n c) k).2 i k<18446744073709551616):xg [.val (.lst (mtD n n (A))),.val (.lst ((aD n).map λi=>.int (c i)))]=ZY (.ok (.v (.tup [.lst ((aD n).map λi=>.int ((BS (aug A n c) n).2 i n)),.int ((BS (aug A n c) n).1)])),[.val (.lst (mtD n n (A))),.val (.lst ((aD n).map λi=>.int (c i)))]):=by
 generalize hM:aug A n c=M0 at *;have loop:=xf (b:=cj 4) (g:=aes) (λk ρ=>k<=n->∃o4 o5,ρ=[.val (.lst (mtD n n (A))),.val (.lst ((aD n).map λi=>D.int (c i))),.own ZX (mtD n (n+1) (BS M0 k).2),.val (.int (BS M0 k).1),o4,o5])
  (l:=rangeD 0 n) (ρ:=[.val (.lst (mtD n n (A))),.val (.lst ((aD n).map λi=>D.int (c i))),.own ZX (mtD n (n+1) M0),.val (.int 1),.emp,.emp]) 0 (λ_=>⟨.emp,.emp,rfl⟩) ?_
 ·obtain⟨ρ',e,hρ⟩:=loop;have rl:(rangeD 0 n).length=n:=by simp[rangeD]
  rw[rl,cT] at hρ;obtain⟨o4,o5,rfl⟩:=hρ (aL _);obtain⟨q1,q2,e1⟩:=ayd (A:=A) (n:=n) (c:=c) (by omega)
  rw[hM] at e1;have ec:compD (cj 0) (ret ZW) ahq (mtD n (n+1) (BS M0 n).2) [] [.emp,.val (.lst (mtD n n (A)))]=ZY (.ok ((aD n).map λi=>.int ((BS M0 n).2 i n)),aaa .emp (mtD n (n+1) (BS M0 n).2)::[.val (.lst (mtD n n (A)))]):=by
   have hl:=qu n n (A);have et:=λi=>zu (r:=(BS M0 n).2 i) (m:=n+1) (k:=n) (by omega)
   have eg:∀i,((aD (n+1)).map λj=>D.int ((BS M0 n).2 i j))[n]? = ZY (.int ((BS M0 n).2 i n)):=λi=>by
    rw[aV,bZ (by omega)]
    rfl
   rw[ou (f:=λd=>match d with |.lst l=>(l[n]?).getD .non |d=>d)]
   ·congr 3
    unfold mtD;rw[bQ,dR];apply gA;intro i _;show(((aD (n+1)).map λj=>D.int ((BS M0 n).2 i j))[n]?).getD .non=.int ((BS M0 n).2 i n)
    rw[eg i];rfl
   ·intro d hd;unfold mtD at hd;obtain⟨i,_,rfl⟩:=cJ.mp hd;have k1:=et i;have k2:=eg i;unfold rwD;simp[ahq,hl,k1,k2]
  have hl1:=qu n n (A);have hl2:=ir n c;have hle:(mtD n n (A)).length<=((aD n).map λi=>D.int (c i)).length:=by rw[hl1,hl2];exact aL _
  have hc1:(mtD n (n+1) M0).length<=capS:=by rw[qu];exact bw (by omega)
  have hc2:((aD n).map λi=>D.int ((BS M0 n).2 i n)).length<=capS:=by rw[ir n (λi=>(BS M0 n).2 i n)];exact bw (by omega)
  have hb:n<4611686018427387904:=by omega
  generalize (aD n).map (λi=>D.int ((BS M0 n).2 i n))=tt at *
  simp[xg,ao4,e1,hc1,hl1,hl2,hb,e,ec,hc2]
 ·rintro k z ρ hd hρ
  rw[cT];have hk:k<n:=by
   have:=(aJ.mp hd).1
   simpa[rangeD] using this
  rw[cT] at hρ;obtain⟨o4,o5,rfl⟩:=hρ (by omega)
  have ez:z=.int (k:Int):=by
   unfold rangeD at hd;rw[aV,bZ hk] at hd;have:=(bJ hd).symm
   simpa using this
  subst ez;have p1:=h0 k hk;have p3:=hcol k hk;obtain⟨d0,d2⟩:=hd' k hk;have d1:(BS M0 k).1<1000000000000000000000000000000000000000000000000000000000000:=by omega
  have e1:=amv (M:=(BS M0 k).2) hk (show k<n+1 by omega) (by omega) (by omega)
  have e2:=apy (n:=n) (m:=n+1) (M:=(BS M0 k).2) (k:Int) (by omega) (by omega)
  have e3:=aqu (M:=(BS M0 k).2) hk (show k<n+1 by omega) (by omega) (by omega) d0 d1 (λi hi=>by have:=p3 i hi;omega)
  have e4:=ata (m:=n+1) (M:=stM (BS M0 k).1 k (BS M0 k).2) hk;have e5:=zu (r:=stM (BS M0 k).1 k (BS M0 k).2 k) (show k<n+1 by omega)
  have e6:stM (BS M0 k).1 k (BS M0 k).2 k k=(BS M0 k).2 k k:=by unfold stM;rw[if_pos rfl]
  rw[e6] at e5;refine⟨_,[.val (.lst (mtD n n (A))),.val (.lst ((aD n).map λi=>D.int (c i))),.own ZX (mtD n (n+1) (BS M0 (k+1)).2),.val (.int (BS M0 (k+1)).1),.val (.int (k:Int)),.val (.int (k:Int))],rfl,.inl ?_,λ_=>⟨_,_,rfl⟩⟩
  show aes [.val (.lst (mtD n n (A))),.val (.lst ((aD n).map λi=>D.int (c i))),.own ZX (mtD n (n+1) (BS M0 k).2),.val (.int (BS M0 k).1),.val (.int (k:Int)),o5]=ZY (Fl.nx,[.val (.lst (mtD n n (A))),.val (.lst ((aD n).map λi=>D.int (c i))),.own ZX (mtD n (n+1) (stM (BS M0 k).1 k (BS M0 k).2)),.val (.int ((BS M0 k).2 k k)),.val (.int (k:Int)),.val (.int (k:Int))])
  unfold rwD at e4;simp[aes,e1,isN,e2,e3,e4,e5]
section
variable{qv:LL9}(h:Hs qv)(hop:mz qv=[])(c:Rw)
include h hop
omit h hop in
theorem az4{k:Nat}(hk:k<=10):(6:Int) ^ k<=60466176:=by
 have a:(6:Int) ^ k<=6 ^ 10:=by
  have:=eX (show 0<6 by decide) hk
  exact_mod_cast this
 exact a
theorem arz:xg [.val (.lst 'B'),.val (.lst ('C'.map λi=>.int (c i)))]=ZY (.ok (.v (.tup [.lst ('C'.map λi=>.int (tops qv c i)),.int (botm qv c)])),[.val (.lst 'B'),.val (.lst ('C'.map λi=>.int (c i)))]):=by
 have hm:=h.most;have hM:=aft h hop c;have all:=ai3 h hop hM;have d:∀k,k<qv.length->0<(BS (aug (dsq qv) qv.length c) k).1/\(BS (aug (dsq qv) qv.length c) k).1<=60466176:=λk hk=>⟨(all k (jL hk)).1.pos,qP (all k (jL hk)).2 (az4 (by omega))⟩
 exact aij hm (λk hk=>(a0l h hop hM (all k (jL hk)).1 hk).1) d λk hk i hi=>by
  have:=(a0l h hop hM (all k (jL hk)).1 hk).2.2 i hi;have:=d k hk;omega
end
theorem ahv(x:Int):∀V:List Int,(V.map D.int).countP (λy=>eqD y (.int x))=V.count x
 | []=>rfl
 |a::V=>by
  have e:=akb a x;rw[bH,tY,ahv x V,Aa,e]
  by_cases q:a=x <;> simp[q]
def aw6(n:Nat)(r:List Int):compD (cj 0) (ret ZW) aag (rangeD 0 n) [] [.emp,.val (.tup (r.map D.int))]=ZY (.ok ((aD n).map λ(j:Nat)=>.int (-((r.count (j:Int):Nat):Int))),aaa .emp (rangeD 0 n)::[.val (.tup (r.map D.int))]):=by
 have ok:=air 30 r;have hc:=λx=>ahv x r
 rw[ou (f:=λd=>match d with |.int k=>.int (-((r.count k:Nat):Int)) |d=>d)]
 ·unfold rangeD;rw[bQ,dR]
  congr 3
  apply gA;intro i _;simp
 ·intro d hd;unfold rangeD at hd;obtain⟨k,_,rfl⟩:=cJ.mp hd;have hk:=hc (k:Int);simp[aag,ok,hk,okD]
section
variable{qv:LL9}(h:Hs qv)
include h
theorem az2(hi:i<qv.length)(o4:Sl):∃q4,l1_doors_square [.val (hD qv),.own ZX (mtD i qv.length (dsq qv)),.val (.int (i:Int)),.val (.tup ((dr qv (i:Int)).map D.int)),o4]=ZY (.nx,[.val (hD qv),.own ZX (mtD (i+1) qv.length (dsq qv)),.val (.int (i:Int)),.val (.tup ((dr qv (i:Int)).map D.int)),q4]):=by
 have hm:=h.most;have hl:=yl qv;have e1:=aw6 qv.length (dr qv (i:Int));have hb:qv.length<4611686018427387904:=by omega
 have rl:('C'.map λ(j:Nat)=>D.int (-(((dr qv (i:Int)).count (j:Int):Nat):Int))).length=qv.length:=by simp
 have hc:('C'.map λ(j:Nat)=>D.int (-(((dr qv (i:Int)).count (j:Int):Nat):Int))).length<=capS:=by rw[rl];exact bw (by omega)
 have ix:ixN ('C'.map λ(j:Nat)=>D.int (-(((dr qv (i:Int)).count (j:Int):Nat):Int))).length (i:Int)=ZY i:=by
  rw[rl,anf (by omega) (by omega),cN]
 have ia:('C'.map λ(j:Nat)=>D.int (-(((dr qv (i:Int)).count (j:Int):Nat):Int)))[i]? = ZY (.int (-(((dr qv (i:Int)).count (i:Int):Nat):Int))):=by
  rw[aV,bZ hi];rfl
 have es:('C'.map λ(j:Nat)=>D.int (-(((dr qv (i:Int)).count (j:Int):Nat):Int))).set i (.int (-(((dr qv (i:Int)).count (i:Int):Nat):Int)+((dr qv (i:Int)).length:Int)))='C'.map λj=>D.int (dsq qv i j):=by
  apply yQ;intro j;rw[cB,rl]
  by_cases hj:j<qv.length
  ·rw[aV,aV,bZ hj]
   by_cases e:i=j
   ·subst e;rw[if_pos rfl,if_pos hj];show _=ZY (D.int (dsq qv i i));unfold dsq;rw[if_pos rfl]
    congr 2
    omega
   ·rw[if_neg e];show ZY (D.int _)=ZY (D.int (dsq qv i j));unfold dsq;rw[if_neg e]
    congr 2
    omega
  ·rw[if_neg (by omega),jP (by simp;omega),jP (by simp;omega)]
 have dl:((dr qv (i:Int)).map D.int).length=(dr qv (i:Int)).length:=aU ..
 have hcap:(mtD i qv.length (dsq qv)).length<capS:=by rw[qu];unfold capS;omega
 rw[agj];unfold rwD;rw[<-es];generalize ('C'.map λ(j:Nat)=>D.int (-(((dr qv (i:Int)).count (j:Int):Nat):Int)))=rr at *
 generalize (-(((dr qv (i:Int)).count (i:Int):Nat):Int))=v at *;generalize (dr qv (i:Int)).length=ln at *;refine⟨.val (.lst (rr.set i (.int (v+(ln:Int))))),?_⟩;have hc':qv.length<=capS:=bw (by omega)
 have ix':ixN qv.length (i:Int)=ZY i:=by rw[<-rl];exact ix
 simp only[hD] at *;simp[l1_doors_square,hl,hb,e1,hc',rl,dl,ix',ia,hcap]
theorem lg:jj [.val (hD qv)]=ZY (.ok (.fr 'B'),[.val (hD qv)]):=by
 have loop:=xf (b:=bTup 2 (jl (cj 2) (jl (cj 3) bNil))) (g:=l1_doors_square) (λi ρ=>∃o2 o3 o4,ρ=[.val (hD qv),.own ZX (mtD i qv.length (dsq qv)),o2,o3,o4])
  (l:=ac3 (hDs qv)) (ρ:=[.val (hD qv),.own ZX [],.emp,.emp,.emp]) 0 ⟨.emp,.emp,.emp,rfl⟩ ?_
 ·obtain⟨ρ',e,o2,o3,o4,rfl⟩:=loop;rw[aae,yl,cT] at e;simp only[hD] at *;simp[jj,ac6,e]
 ·rintro i z ρ hd ⟨o2,o3,o4,rfl⟩
  rw[cT];obtain⟨d0,g1,rfl⟩:=aaf hd;have hi:i<qv.length:=by
   have:=(aJ.mp g1).1;rwa[yl] at this
  have ed:d0=.tup ((dr qv (i:Int)).map D.int):=by
   unfold hDs at g1;rw[aV,aG hi] at g1;unfold dr;rw[cN,aY,aG hi];exact(bJ g1).symm
  subst ed;obtain⟨q4,e⟩:=az2 h hi o4;exact⟨_,_,rfl,.inl e,_,_,_,rfl⟩
end
section
variable{qv:LL9}(h:Hs qv)(hop:mz qv=[])
include h hop
end
theorem akf(A:Nat->Rw)(X Y:Rw)(n:Nat):∀m,dot m (λi=>dot n (A i) X) Y=dot n (λj=>dot m (λi=>A i j) Y) X
 | 0=>by
  show(0:Int)=_;rw[abu];intro j _;show(0:Int)*_=0;simp
 |m+1=>by
  show dot m _ Y+dot n (A m) X*Y m=dot n (λj=>dot m (λi=>A i j) Y+A m j*Y m) X
  rw[akf A X Y n m];have e:=afq 1 (Y m) (λj=>dot m (λi=>A i j) Y) (A m) X n
  rw[lY] at e;have e2:dot n (λj=>dot m (λi=>A i j) Y+A m j*Y m) X=dot n (λj=>1*dot m (λi=>A i j) Y+Y m*A m j) X:=u5 n (λj _=>by rw[lY,cX (A m j)]) λ_ _=>rfl
  rw[e2,e,cX]
theorem ay9{a y:Rw}:∀m,(∀j,j<m->0<=a j*y j)->0<=dot m a y
 | 0,_=>pM _
 |m+1,h=>by
  have:=ay9 m λj hj=>h j (by omega)
  have:=h m (by omega)
  show 0<=dot m a y+a m*y m;omega
open Classical in
theorem colG{n:Nat}{A M0:Nat->Rw}(hM:∀i,i<n->∀j,j<n->M0 i j=A i j){P:Nat->Prop}{d:Int}{M:Nat->Rw}(b:BJ n (n+1) M0 P d M){k:Nat}(hk:k<n)(hnk:¬P k):∃Y:Rw,Y k=d/\(∀j,¬P j->j≠k->Y j=0)/\(∀i,P i->dot n (A i) Y=0)/\∀i,i<n->¬P i->dot n (A i) Y=M i k:=by
 obtain⟨p1,p2,pin,p3,p4⟩:=b;have ds:∀i,dot (n+1) (M i) (λj=>(if P j then-M j k else 0)+(if j=k then d else 0))=dot (n+1) (M i) (λj=>if P j then-M j k else 0)+M i k*d:=λi=>by
  rw[akg,wz (i:=k) (y:=λj=>if j=k then d else 0) _ (by omega) λj _ hj=>by rw[if_neg hj,dJ]]
  rw[if_pos rfl]
 obtain⟨q1,q2⟩:=p4 (λj=>(if P j then-M j k else 0)+(if j=k then d else 0)) λj hj=>by
  have hjn:=pin j hj;rw[ds j,wz (i:=j) _ (by omega) λj' hj' hne=>by
   by_cases q:P j'
   ·rw[p3 j hjn j' q,if_neg (gY hne),fK]
   ·rw[if_neg q,dJ],p3 j hjn j hj,if_pos rfl,if_pos hj,iU,cX]
  omega
 have q2:∀i,i<n->¬P i->dot (n+1) (M0 i) (λj=>(if P j then-M j k else 0)+(if j=k then d else 0))=M i k:=λi hi hki=>by
  have q2:=q2 i hi hki;rw[ds i,abu _ λj' hj'=>by
   by_cases q:P j'
   ·rw[p3 i hi j' q,if_neg (λe:i=j'=>hki (by rw[e];exact q)),fK]
   ·rw[if_neg q,dJ],qM,cX] at q2
  exact(eV (by omega) q2).symm
 have hPn:¬P n:=λz=>by have:=pin _ z;omega
 have lo:∀i,i<n->dot (n+1) (M0 i) (λj=>(if P j then-M j k else 0)+(if j=k then d else 0))=dot n (A i) (λj=>(if P j then-M j k else 0)+(if j=k then d else 0)):=λi hi=>by
  show dot n _ _+M0 i n*((if P n then-M n k else 0)+(if n=k then d else 0))=_
  rw[if_neg hPn,if_neg (by omega),jQ,dJ,jQ]
  exact u5 _ (λj hj=>hM i hi j hj) λ_ _=>rfl
 refine⟨λj=>(if P j then-M j k else 0)+(if j=k then d else 0),?_,λj hj hjk=>?_,λi hi=>?_,λi hi hki=>?_⟩
 ·show(if P k then _ else _)+(if k=k then d else 0)=d
  rw[if_neg hnk,if_pos rfl,qM]
 ·show(if P j then _ else _)+(if j=k then d else 0)=0
  rw[if_neg hj,if_neg hjk];rfl
 ·rw[<-lo i (pin i hi),q1 i hi]
 ·rw[<-lo i hi,q2 i hi hki]
def aww{n:Nat}{A M0 N0:Nat->Rw}(hM:∀i,i<n->∀j,j<n->M0 i j=A i j)(hN:∀i,i<n->∀j,j<n->N0 i j=A j i){P:Nat->Prop}{d d':Int}{M N:Nat->Rw}(b:BJ n (n+1) M0 P d M)(b':BJ n (n+1) N0 P d' N){k:Nat}(hk:k<n)(hnk:¬P k):N k k*d=M k k*d':=by
 obtain⟨X,x1,x2,x3,x4⟩:=colG hM b hk hnk;obtain⟨Y,y1,y2,y3,y4⟩:=colG (A:=λi j=>A j i) hN b' hk hnk
 have s:=akf A X Y n n;rw[wz (i:=k) (a:=λi=>dot n (A i) X) n hk λj hj hne=>by
  by_cases q:P j
  ·show dot n (A j) X*Y j=0;rw[x3 j q,fK]
  ·rw[y2 j q hne,dJ],wz (i:=k) (a:=λj=>dot n (λi=>A i j) Y) n hk λj hj hne=>by
  by_cases q:P j
  ·show dot n (λi=>A i j) Y*X j=0
   rw[y3 j q,fK]
  ·rw[x2 j q hne,dJ]] at s
 rw[x4 k hk hnk,y4 k hk hnk,x1,y1] at s;exact s.symm
def an2{n:Nat}{A M0:Nat->Rw}(hM:∀i,i<n->∀j,j<n->M0 i j=A i j){P:Nat->Prop}(hP:∀j,j<n->P j){d:Int}{M:Nat->Rw}(b:BJ n (n+1) M0 P d M)(i:Nat)(hi:i<n):dot n (A i) (λj=>M j n)=M0 i n*d:=by
 obtain⟨p1,p2,pin,p3,p4⟩:=b;obtain⟨q1,_⟩:=p4 (λj=>if j<n then M j n else -d) λj hj'=>by
  have hj:=pin j hj';show dot n (M j) _+M j n*(if n<n then _ else -d)=0
  rw[if_neg (by omega),wz (i:=j) _ hj λj' hj' hne=>by rw[p3 j hj j' (hP j' hj'),if_neg (gY hne),fK],p3 j hj j (hP j hj),if_pos rfl,if_pos hj,iU,cX]
  omega
 have a:=q1 i (hP i hi);have a:dot n (M0 i) _+M0 i n*(if n<n then _ else -d)=0:=a
 rw[if_neg (by omega),iU] at a
 have e:=u5 (a:=M0 i) (b:=A i) (y:=λj=>if j<n then M j n else -d) (z:=λj=>M j n) n (λj hj=>hM i hi j hj) λj hj=>if_pos hj
 rw[e] at a;omega
def trq(qv:LL9):Nat->Rw:=λi j=>dsq qv j i
noncomputable def Bd:Nat->Nat
 | 0=>6
 |k+1=>2*(Bd k*Bd k)
section
variable{qv:LL9}(h:Hs qv)(hop:mz qv=[])(c:Rw)
include h hop
theorem amh:∀k,k<=qv.length->BJ qv.length (qv.length+1) (aug (trq qv) qv.length c) (λj=>j<k) (BS (aug (trq qv) qv.length c) k).1 (BS (aug (trq qv) qv.length c) k).2/\(BS (aug (trq qv) qv.length c) k).1=(BS (aug (dsq qv) qv.length c) k).1
 | 0,_=>⟨(BJ.zero ..).to λj=>⟨λz=>z.elim,λz=>by omega⟩,rfl⟩
 |k+1,hk=>by
  obtain⟨a,e⟩:=amh k (by omega)
  obtain⟨a',_⟩:=ai3 h hop (aft h hop c) k (by omega)
  have p:=a0l h hop (aft h hop c) a' (by omega)
  have q:=aww (A:=dsq qv) (λi hi j hj=>by unfold aug;rw[if_pos hj]) (λi hi j hj=>by unfold aug trq;rw[if_pos hj]) a' a (k:=k) (by omega) (by omega)
  have d0:=a'.pos;rw[e] at q;have q2:(BS (aug (trq qv) qv.length c) k).2 k k=(BS (aug (dsq qv) qv.length c) k).2 k k:=by
   rw[cX,cX _ (BS (aug (dsq qv) qv.length c) k).1] at q;exact eV (by omega) q
  refine⟨(a.step (by omega) (by omega) (by rw[q2];exact p.1)).to λj=>by omega,?_⟩
  exact q2
theorem a7n{k:Nat}(hk:k<qv.length):0<(BS (aug (trq qv) qv.length c) k).2 k k:=(amh h hop c (k+1) (by omega)).1.pos
theorem ay8{i j:Nat}(hi:i<qv.length):(dsq qv i j).natAbs<=6:=by
 have:=(h.dr (x:=(i:Int)) (by omega) (by omega)).2.1
 have c2:=wN (a:=(j:Int)) (l:=dr qv (i:Int));unfold dsq;split <;> omega
theorem a7o:∀k,k<=qv.length->∀i,i<qv.length->∀j,j<qv.length->((BS (aug (trq qv) qv.length c) k).2 i j).natAbs<=Bd k
 | 0,_,i,hi,j,hj=>by
  show(aug (trq qv) qv.length c i j).natAbs<=6;unfold aug trq;rw[if_pos hj];exact ay8 h hop hj
 |k+1,hk,i,hi,j,hj=>by
  have ih:=a7o k (by omega)
  have a:=(amh h hop c k (by omega)).1
  have d0:=a.pos;show(stM (BS (aug (trq qv) qv.length c) k).1 k (BS (aug (trq qv) qv.length c) k).2 i j).natAbs<=2*(Bd k*Bd k);have b1:=ih i hi j hj;have b2:=ih k (by omega) j hj
  have b3:=ih k (by omega) k (by omega)
  have b4:=ih i hi k (by omega)
  have one:1<=Bd k:=by
   have:∀n,1<=Bd n:=λn=>by
    induction n with
    |zero=>decide
    |succ n ih=>
     have:=oV ih ih;show 1<=2*(Bd n*Bd n);omega
   exact this k
  by_cases hik:i=k
  ·have e:stM (BS (aug (trq qv) qv.length c) k).1 k (BS (aug (trq qv) qv.length c) k).2 i j=(BS (aug (trq qv) qv.length c) k).2 k j:=by unfold stM;rw[if_pos hik]
   rw[e];have:=eE (Bd k) one;omega
  ·have m:=amn a.dvd (k:=k) (by omega) hi hik j
   generalize stM (BS (aug (trq qv) qv.length c) k).1 k (BS (aug (trq qv) qv.length c) k).2 i j=z at *;generalize (BS (aug (trq qv) qv.length c) k).2 k k=p at *;generalize (BS (aug (trq qv) qv.length c) k).2 k j=u at *;generalize (BS (aug (trq qv) qv.length c) k).2 i k=v at *;generalize (BS (aug (trq qv) qv.length c) k).2 i j=w at *;generalize (BS (aug (trq qv) qv.length c) k).1=d at *;generalize Bd k=t at *;have k1:(p*w).natAbs<=t*t:=by rw[lC];exact oV b3 b1
   have k2:(v*u).natAbs<=t*t:=by rw[lC];exact oV b4 b2
   have k3:z.natAbs<=(d*z).natAbs:=by
    rw[lC];exact Nat.le_mul_of_pos_left _ (by omega)
   rw[m] at k3;omega
def topT(qv:LL9)(c:Rw):Rw:=λi=>(BS (aug (trq qv) qv.length c) qv.length).2 i qv.length
theorem aro(i:Nat)(hi:i<qv.length):dot qv.length (λj=>dsq qv j i) (topT qv c)=c i*botm qv c:=by
 obtain⟨a,e⟩:=amh h hop c qv.length (aL _);have q:=an2 (A:=trq qv) (λi hi j hj=>by unfold aug;rw[if_pos hj]) (λj hj=>hj) a i hi
 rw[e] at q;have e2:aug (trq qv) qv.length c i qv.length=c i:=by unfold aug;rw[if_neg (by omega)]
 rw[e2] at q;exact q
theorem az8{u:Rw}(hu:∀i,i<qv.length->0<=dot qv.length (dsq qv i) u):∀i,i<qv.length->0<=u i:=λj hj=>by
 have:=aop h hop (X:=λd => - xt u d) (λd hd=>by show-xt u d=0;unfold xt;rw[if_pos hd];rfl) (λi i0 i1 _=>by
  have a:=hu i.toNat (by omega)
  rw[auy h u (by omega),show((i.toNat:Nat):Int)=i by omega] at a
  rw[as7 h hop];show _*(-(if i<0 then 0 else u i.toNat))<=_
  rw[if_neg (by omega),iU]
  omega) (j:Int) (by omega) (by omega)
 unfold xt at this;rw[if_neg (by omega),cN] at this
 omega
theorem a2j{v:Rw}(hv:∀j,j<qv.length->0<=dot qv.length (λi=>dsq qv i j) v):∀i,i<qv.length->0<=v i:=λk hk=>by
 have ok:=azv h hop (λi=>if i=k then 1 else 0)
 have b0:=(afr h hop (λi=>if i=k then 1 else 0)).1
 have un:=az8 h hop (u:=tops qv λi=>if i=k then 1 else 0) λi hi=>by
  rw[ok i hi];split <;> omega
 have s:=akf (dsq qv) (tops qv λi=>if i=k then 1 else 0) v qv.length qv.length
 rw[wz (i:=k) (a:=λi=>dot qv.length (dsq qv i) _) _ hk λj hj hne=>by
  show dot qv.length (dsq qv j) _*v j=0;rw[ok j hj,if_neg hne,fK,fK]] at s
 have t:0<=dot qv.length (λj=>dot qv.length (λi=>dsq qv i j) v) (tops qv λi=>if i=k then 1 else 0):=ay9 _ λj hj=>vD (hv j hj) (un j hj)
 rw[<-s,ok k hk,if_pos rfl,lY] at t;apply cH;intro z;have:=Int.mul_neg_of_pos_of_neg b0 (show v k<0 by omega)
 omega
end
section
variable{qv:LL9}(h:Hs qv)(hop:mz qv=[])(c:Rw)
include h hop
theorem aik(h5:qv.length<=5):xg [.val (.lst (mtD qv.length qv.length (trq qv))),.val (.lst ('C'.map λi=>.int (c i)))]=ZY (.ok (.v (.tup [.lst ('C'.map λi=>.int (topT qv c i)),.int (botm qv c)])),[.val (.lst (mtD qv.length qv.length (trq qv))),.val (.lst ('C'.map λi=>.int (c i)))]):=by
 have all:=amh h hop c;have e:=aij (n:=qv.length) (A:=trq qv) (c:=c) h.most (λk hk=>a7n h hop c hk) (λk hk=>by
  obtain⟨a,b⟩:=all k (by omega)
  refine⟨a.pos,?_⟩;rw[b];refine qP (ai3 h hop (aft h hop c) k (by omega)).2 ?_
  have:(6:Int) ^ k<=6 ^ 10:=by
   have:=eX (show 0<6 by decide) (show k<=10 by omega)
   exact_mod_cast this
  exact this) (λk hk i hi=>by
  have a:=a7o h hop c k (by omega) i hi k hk
  have m:∀k,k<5->Bd k<18446744073709551616:=by decide
  have:=m k (by omega)
  omega)
 rw[(all qv.length (aL _)).2] at e;exact e
end
def az9(n:Nat)(r:Rw)(hk:k<n):atI ((aD n).map λj=>D.int (r j)) (k:Int)=ZY (.int (r k)):=zu hk
def ac4(hn:n<=100):su [.val (.lst (mtD n n A))]=ZY (.ok (.fr (mtD n n λi j=>A j i)),[.val (.lst (mtD n n A))]):=by
 have col:∀k,k<n->compD (cj 0) (ret ZW) aay (mtD n n A) [] [.emp,.val (.int (k:Int))]=ZY (.ok ((aD n).map λi=>.int (A i k)),aaa .emp (mtD n n A)::[.val (.int (k:Int))]):=λk hk=>by
  have eg:∀i,((aD n).map λj=>D.int (A i j))[k]? = ZY (.int (A i k)):=λi=>by
   rw[aV,bZ hk];rfl
  rw[ou (f:=λd=>match d with |.lst l=>(l[k]?).getD .non |d=>d)]
  ·congr 3
   unfold mtD;rw[bQ,dR];apply gA;intro i _;show(((aD n).map λj=>D.int (A i j))[k]?).getD .non=.int (A i k)
   rw[eg i];rfl
  ·intro d hd;unfold mtD at hd;obtain⟨i,_,rfl⟩:=cJ.mp hd;have k1:=az9 n (A i) hk;have k2:=eg i;unfold rwD;simp[aay,k1,k2]
 have comp:=u9 (b:=cj 0) (mc:=ret ZW) (me:=aax) (λj ys ρ=>∃o1:Sl,ρ=[o1,.val (.lst (mtD n n A))]/\ys=mtD j n λi j=>A j i)
  (l:=rangeD 0 n) (ys:=[]) (ρ:=[.emp,.val (.lst (mtD n n A))]) 0 ⟨.emp,rfl,rfl⟩ ?_
 ·obtain⟨ys,ρ',e6,o1,rfl,rfl⟩:=comp;have rl:(rangeD 0 n).length=n:=by simp[rangeD]
  rw[rl,cT] at e6;have hl:=qu n n A;have hc:(mtD n n λi j=>A j i).length<=capS:=by rw[qu];exact bw (by omega)
  have hb:n<4611686018427387904:=by omega
  simp[su,aeu,hl,hb,e6,hc]
 ·rintro k z ys ρ hd ⟨o1,rfl,rfl⟩
  have hk:k<n:=by
   have:=(aJ.mp hd).1
   simpa[rangeD] using this
  have ez:z=.int (k:Int):=by
   unfold rangeD at hd;rw[aV,bZ hk] at hd;have:=(bJ hd).symm
   simpa using this
  subst ez;have e:=col k hk;have hc:((aD n).map λi=>D.int (A i k)).length<=capS:=by rw[ir n (λi=>A i k)];exact bw (by omega)
  refine⟨[.val (.int (k:Int)),.val (.lst (mtD n n A))],_,ZW,rfl,rfl,.inr ⟨rfl,rwD n (λi=>A i k),[.val (.int (k:Int)),.val (.lst (mtD n n A))],?_,_,rfl,?_⟩⟩
  ·unfold rwD;generalize (aD n).map (λi=>D.int (A i k))=rr at *
   simp[aax,e,hc]
  ·rw[cT,agj]
def atv(qv:LL9)(g:Rw)(i:Nat):Int:=dot qv.length (λj=>dsq qv j i) g
def a2r(qv:LL9)(a b:Rw)(i:Nat):atv qv (λj=>a j+b j) i=atv qv a i+atv qv b i:=akg _
def a2q(g:Rw)(hr:r<qv.length)(t:Int)(i:Nat):atv qv (λj=>g j+if j=r then t else 0) i=atv qv g i+t*dsq qv r i:=by
 rw[a2r]
 congr 1
 unfold atv;rw[wz (i:=r) _ hr λj _ hj=>by rw[if_neg hj,dJ],if_pos rfl,cX]
def a2i(h:Hs qv)(hi:i<qv.length):(dsq qv i j).natAbs<=10:=by
 have:=(h.dr (x:=(i:Int)) (by omega) (by omega)).2.1
 have c2:=wN (a:=(j:Int)) (l:=dr qv (i:Int));unfold dsq;split <;> omega
def ay1(hi:i<qv.length):(hDs qv)[i]? = ZY (.tup ((dr qv (i:Int)).map D.int)):=by
 unfold hDs dr;rw[aV,cN,aY,aG hi];rfl
noncomputable def unit(k:Nat):Rw:=λi=>if i=k then 1 else 0
inductive Sp (n:Nat) (S:Rw->Prop):Rw->Prop
 |zero {v:Rw}:(∀j,j<n->v j=0)->Sp n S v
 |add {v r w:Rw} {c:Int}:Sp n S v->S r->(∀j,j<n->w j=v j+c*r j)->Sp n S w
theorem Sp.congr{n:Nat}{S:Rw->Prop}{v w:Rw}(h:Sp n S v)(e:∀j,j<n->w j=v j):Sp n S w:=by
 cases h with
 |zero z=>exact .zero λj hj=>by rw[e j hj,z j hj]
 |add a b c=>exact .add a b λj hj=>by rw[e j hj,c j hj]
theorem Sp.comb{n:Nat}{S:Rw->Prop}{r:Rw}(hr:Sp n S r):∀{v w:Rw} {c:Int},Sp n S v->(∀j,j<n->w j=v j+c*r j)->Sp n S w:=by
 induction hr with
 | @zero r z=>
  intro v w c hv e;exact hv.congr λj hj=>by rw[e j hj,z j hj,dJ,jQ]
 | @add r0 s r d a b hs ih=>
  intro v w c hv e;have h1:=ih (c:=c) hv (w:=λj=>v j+c*r0 j) λj _=>rfl
  exact .add (c:=c*d) h1 b λj hj=>by rw[e j hj,hs j hj,jT,kW];omega
def Sp.one{n:Nat}{S:Rw->Prop}{r:Rw}(h:S r):Sp n S r:=.add (c:=1) (.zero (v:=λ_=>0) λ_ _=>rfl) h λj _=>by omega
theorem Sp.sub{n:Nat}{S T:Rw->Prop}(h:∀r,S r->Sp n T r){v:Rw}(hv:Sp n S v):Sp n T v:=by
 induction hv with
 |zero z=>exact .zero z
 |add a b c ih=>exact(h _ b).comb ih c
theorem Sp.split{n k:Nat}{F:Nat->Rw}{L:Rw->Prop}{v:Rw}(h:Sp n (λr=>(∃t,t<k/\r=F t)∨L r) v):∃(c:Rw) (w:Rw),Sp n L w/\∀j,j<n->v j=dot k (λt=>F t j) c+w j:=by
 induction h with
 | @zero v z=>exact⟨λ_=>0,λ_=>0,.zero λ_ _=>rfl,λj hj=>by
  have:∀k,dot k (λt=>F t j) (λ_=>0)=0:=λk=>by
   induction k with
   |zero=>rfl
   |succ k ih=>show dot k _ _+F k j*0=0;rw[ih];omega
  rw[z j hj,this];rfl⟩
 | @add v r w d a b e ih=>
  obtain⟨c,u,hu,hc⟩:=ih;rcases b with⟨t,ht,rfl⟩ |b
  ·refine⟨λi=>c i+if i=t then d else 0,u,hu,λj hj=>?_⟩
   have:∀k,dot k (λt=>F t j) (λi=>c i+if i=t then d else 0)=dot k (λt=>F t j) c+if t<k then F t j*d else 0:=λk=>by
    induction k with
    |zero=>rfl
    |succ k ih=>
     show dot k _ _+F k j*(c k+if k=t then d else 0)=dot k _ c+F k j*c k+_
     rw[ih,jT]
     by_cases q:k=t
     ·subst q;rw[if_neg (by omega),if_pos rfl,if_pos (by omega)]
      omega
     ·rw[if_neg q]
      by_cases w:t<k
      ·rw[if_pos w,if_pos (by omega)];omega
      ·rw[if_neg w,if_neg (by omega)];omega
   rw[this,if_pos ht,e j hj,hc j hj,cX d];omega
  ·exact⟨c,λj=>u j+d*r j,.add (c:=d) hu b λj _=>rfl,λj hj=>by
   show w j=dot k (λt=>F t j) c+(u j+d*r j)
   rw[e j hj,hc j hj];omega⟩
structure Tri (n k:Nat) (F:Nat->Rw):Prop where
 zero:∀t,t<k->∀j,j<t->F t j=0
 pos:∀t,t<k->0<F t t
def anx{n k:Nat}{F:Nat->Rw}(T:Tri n k F)(c:Rw){j:Nat}(hj:j<k)(h0:∀i,i<j->c i=0):dot k (λt=>F t j) c=F j j*c j:=by
 have:∀m,m<=k->dot m (λt=>F t j) c=if j<m then F j j*c j else 0:=λm=>by
  induction m with
  |zero=>intro _;rfl
  |succ m ih=>
   intro hm;show dot m _ c+F m j*c m=_;rw[ih (by omega)]
   rcases tD m j with z |z |z
   ·rw[if_neg (by omega),if_neg (by omega),h0 m z];omega
   ·subst z;rw[if_neg (by omega),if_pos (by omega)];omega
   ·rw[if_pos z,if_pos (by omega),T.zero m (by omega) j z];omega
 rw[this k (aL _),if_pos hj]
theorem av8{n k:Nat}{F:Nat->Rw}(T:Tri n k F)(c:Rw)(h:∀j,j<k->dot k (λt=>F t j) c=0):∀j,j<k->c j=0:=λj=>by
 induction j using zX with
 |_ j ih=>
  intro hj;have e:=h j hj;rw[anx T c hj λi hi=>ih i hi (by omega)] at e
  rcases qO.mp e with z |z
  ·have:=T.pos j hj;omega
  ·exact z
def InL(qv:LL9)(v:Rw):Prop:=∃g:Rw,∀j,j<qv.length->atv qv g j=v j
def a3x(qv:LL9)(v:Rw):Sp qv.length (λr=>∃i,i<qv.length/\r=dsq qv i) v↔InL qv v:=by
 constructor
 ·intro h
  induction h with
  | @zero v z=>exact⟨λ_=>0,λj hj=>by
   rw[z j hj];unfold atv;have:∀k,dot k (λt=>dsq qv t j) (λ_=>0)=0:=λk=>by
    induction k with
    |zero=>rfl
    |succ k ih=>show dot k _ _+dsq qv k j*0=0;rw[ih];omega
   exact this _⟩
  | @add v r w d a b e ih=>
   obtain⟨g,hg⟩:=ih;obtain⟨i,hi,rfl⟩:=b;exact⟨λj=>g j+if j=i then d else 0,λj hj=>by rw[a2q g hi d j,hg j hj,e j hj]⟩
 ·rintro⟨g,hg⟩
  have:∀k,k<=qv.length->Sp qv.length (λr=>∃i,i<qv.length/\r=dsq qv i) (λj=>dot k (λt=>dsq qv t j) g):=λk=>by
   induction k with
   |zero=>intro _;exact .zero λ_ _=>rfl
   |succ k ih=>intro hk;exact .add (c:=g k) (ih (by omega)) ⟨k,by omega,rfl⟩ λj _=>by show dot k _ g+dsq qv k j*g k=_;rw[cX]
  exact(this qv.length (aL _)).congr λj hj=>(hg j hj).symm
def awa{n:Nat}{G:Nat->Rw}(T:Tri n n G){v:Rw}(hv:Sp n (λr=>∃t,t<n/\r=G t) v){t:Nat}(ht:t<n)(z:∀j,j<t->v j=0):∃c:Int,v t=G t t*c:=by
 obtain⟨c,w,hw,e⟩:=Sp.split (L:=λ_=>False) (hv.sub λr hr=>.one (.inl hr))
 have w0:∀j,j<n->w j=0:=by
  cases hw with
  |zero z=>exact z
  |add _ b _=>exact b.elim
 have c0:∀j,j<t->c j=0:=λj=>by
  induction j using zX with
  |_ j ih=>
   intro hj;have e1:=e j (by omega)
   rw[anx T c (by omega) λi hi=>ih i hi (by omega),w0 j (by omega),jQ,z j hj] at e1
   rcases qO.mp e1.symm with q |q
   ·have:=T.pos j (by omega);omega
   ·exact q
 have e1:=e t ht;rw[anx T c ht c0,w0 t ht,jQ] at e1;exact⟨c t,e1⟩
def aly{x y:Int}(hy:y≠0):(x-x.fdiv y*y).natAbs<y.natAbs/\(0<y->0<=x-x.fdiv y*y)/\(y<0->x-x.fdiv y*y<=0)/\(x.fdiv y).natAbs*y.natAbs<=x.natAbs+y.natAbs/\((0<y/\0<=x)∨(y<0/\x<=0)->x.natAbs=(x.fdiv y).natAbs*y.natAbs+(x-x.fdiv y*y).natAbs/\(x-x.fdiv y*y).natAbs=x.natAbs % y.natAbs):=by
 have key:∀X Y:Int,0<Y->(0<=X-X / Y*Y/\X-X / Y*Y<Y)/\(0<=X->0<=X / Y*Y/\(X-X / Y*Y).natAbs=X.natAbs % Y.natAbs):=λX Y hY=>by
  have e:=Int.emod_add_mul_ediv X Y;have e1:=qQ X (show Y≠0 by omega)
  have e2:=oR X hY;rw[cX] at e;have e3:X-X / Y*Y=X % Y:=by omega
  refine⟨by rw[e3];exact⟨e1,e2⟩,λhX=>⟨Int.mul_nonneg (Ac hX (by omega)) (by omega),?_⟩⟩
  rw[e3];obtain⟨m,rfl⟩:=vW hX;obtain⟨n,rfl⟩:=vW (show 0<=Y by omega)
  rw[<-Int.natCast_emod];rfl
 rw[<-lC];rcases Int.lt_or_gt_of_ne hy with z |z
 ·have e:x.fdiv y=(-x) / (-y):=by rw[<-Int.neg_fdiv_neg,lQ _ (by omega)]
  obtain⟨⟨k1,k2⟩,k3⟩:=key (-x) (-y) (by omega)
  rw[e];have e2:(-x) / (-y)*(-y) = - ((-x) / (-y)*y):=iU _ _;rw[e2] at k1 k2 k3;refine⟨by omega,by omega,by omega,by omega,λhs=>?_⟩
  obtain⟨k4,k5⟩:=k3 (by omega)
  rw[An,An] at k5;refine⟨by omega,?_⟩
  rw[<-k5];omega
 ·have e:x.fdiv y=x / y:=lQ _ (by omega)
  obtain⟨⟨k1,k2⟩,k3⟩:=key x y z;rw[e];generalize x / y*y=p at *;refine⟨by omega,by omega,by omega,by omega,λhs=>?_⟩
  obtain⟨k4,k5⟩:=k3 (by omega)
  exact⟨by omega,k5⟩
structure SpE (n:Nat) (l l':List Rw):Prop where
 a:∀r∈l,Sp n (λs=>s∈l') r
 b:∀r∈l',Sp n (λs=>s∈l) r
def SpE.trans(x:SpE n l m)(y:SpE n m k):SpE n l k:=⟨λr hr=>(x.a r hr).sub y.a,λr hr=>(y.b r hr).sub x.b⟩
theorem Sp.zero_at(hj:j<n)(h:∀r,S r->r j=0)(hv:Sp n S v):v j=0:=by
 induction hv with
 |zero z=>exact z j hj
 | @add v r w c a b e ih=>rw[e j hj,ih,h r b];omega
section
variable{qv:LL9}(h:Hs qv)(hop:mz qv=[])
include h hop
theorem arh:InL qv (λj=>botm qv (unit a)*unit a j):=⟨topT qv (unit a),λj hj=>by
 show dot qv.length (λi=>dsq qv i j) _=_
 rw[aro h hop (unit a) j hj,cX]⟩
theorem axg{a:Nat}(ha:a<qv.length){F:Nat->Rw}(T:Tri qv.length a F){l:List Rw}(sp:∀v,InL qv v->Sp qv.length (λr=>(∃t,t<a/\r=F t)∨r∈l) v)(zl:∀r∈l,∀j,j<a->r j=0):∃r∈l,r a≠0:=by
 refine cH λno=>?_
 have z:∀r∈l,r a=0:=λr hr=>cH λq=>no ⟨r,hr,q⟩
 obtain⟨c,w,hw,e⟩:=(sp _ (arh h hop (a:=a))).split (L:=λr=>r∈l)
 have w0:∀j,j<=a->w j=0:=λj hj=>Sp.zero_at (by omega) (λr hr=>by
  rcases eY j a with y |y
  ·exact zl r hr j y
  ·have:j=a:=by omega
   rw[this];exact z r hr) hw
 have c0:=av8 T c λj hj=>by
  have:=e j (by omega)
  rw[w0 j (by omega)] at this
  unfold unit at this;rw[if_neg (by omega),dJ] at this
  omega
 have e1:=e a ha;rw[w0 a (aL _)] at e1;have:∀k,k<=a->dot k (λt=>F t a) c=0:=λk=>by
  induction k with
  |zero=>intro _;rfl
  |succ k ih=>intro hk;show dot k _ c+F k a*c k=0;rw[ih (by omega),c0 k (by omega)];omega
 rw[this a (aL _)] at e1;unfold unit at e1;rw[if_pos rfl] at e1;have:=(afr h hop (unit a)).1;unfold unit at this;omega
omit h hop in
theorem a3v{a:Nat}{F:Nat->Rw}{l l':List Rw}(se:SpE qv.length l l')(sp:∀v,Sp qv.length (λr=>(∃t,t<a/\r=F t)∨r∈l) v↔InL qv v)(v:Rw):Sp qv.length (λr=>(∃t,t<a/\r=F t)∨r∈l') v↔InL qv v:=by
 rw[<-sp v];constructor
 ·exact Sp.sub λr hr=>by
   rcases hr with z |z
   ·exact .one (.inl z)
   ·exact(se.b r z).sub λs hs=>.one (.inr hs)
 ·exact Sp.sub λr hr=>by
   rcases hr with z |z
   ·exact .one (.inl z)
   ·exact(se.a r z).sub λs hs=>.one (.inr hs)
omit h hop in
theorem av9(T:Tri qv.length a F)(sp2:∀v,Sp qv.length (λr=>(∃t,t<a/\r=F t)∨r∈h'::d') v↔InL qv v)(y1:∀j,j<a->h' j=0)(hs:s=1∨s = -1)(he:∀j,hh j=s*h' j)(hp:0<hh a) :
  ∃F':Nat->Rw,((aD (a+1)).map λt=>rwD qv.length (F' t))=((aD a).map λt=>rwD qv.length (F t))++[rwD qv.length hh]/\(∀t,t<a->F' t=F t)/\F' a=hh/\Tri qv.length (a+1) F'/\∀v,Sp qv.length (λr=>(∃t,t<a+1/\r=F' t)∨r∈d') v↔InL qv v:=by
 have F1:∀t,t<a->(λt=>if t=a then hh else F t) t=F t:=λt ht=>if_neg (by omega)
 have F2:(λt=>if t=a then hh else F t) a=hh:=if_pos rfl
 have hz:∀j,j<a->hh j=0:=λj hj=>by rw[he j,y1 j hj,dJ]
 have hb:∀j,h' j=s*hh j:=λj=>by
  rw[he j,<-kW];rcases hs with rfl |rfl <;> omega
 refine⟨λt=>if t=a then hh else F t,?_,F1,F2,⟨λt ht j hj=>?_,λt ht=>?_⟩,λv=>?_⟩
 ·rw[jE,dU]
  congr 1
  ·apply gA;intro t ht;exact congrArg (rwD qv.length) (F1 t (fY.mp ht))
  ·exact congrArg (λx=>[rwD qv.length x]) F2
 ·rcases eY t a with z |z
  ·show(λt=>if t=a then hh else F t) t j=0
   rw[F1 t z];exact T.zero t z j hj
  ·have:t=a:=by omega
   subst this;show(λs=>if s=t then hh else F s) t j=0
   rw[F2];exact hz j hj
 ·rcases eY t a with z |z
  ·show 0<(λt=>if t=a then hh else F t) t t
   rw[F1 t z];exact T.pos t z
  ·have:t=a:=by omega
   subst this;show 0<(λs=>if s=t then hh else F s) t t
   rw[F2];exact hp
 ·rw[<-sp2 v];constructor
  ·exact Sp.sub λr hr=>by
    rcases hr with⟨t,ht,rfl⟩ |z
    ·rcases eY t a with z |z
     ·rw[F1 t z];exact .one (.inl ⟨t,z,rfl⟩)
     ·have:t=a:=by omega
      subst this;rw[F2];exact .add (c:=s) (.zero (v:=λ_=>0) λ_ _=>rfl) (.inr (aX ..)) λj _=>by rw[he j];omega
    ·exact .one (.inr (aR _ z))
  ·exact Sp.sub λr hr=>by
    rcases hr with⟨t,ht,rfl⟩ |z
    ·exact .one (.inl ⟨t,by omega,(F1 t ht).symm⟩)
    ·rcases bA.mp z with q |q
     ·rw[q];exact .add (c:=s) (.zero (v:=λ_=>0) λ_ _=>rfl) (.inl ⟨a,by omega,F2.symm⟩) λj _=>by rw[hb j];omega
     ·exact .one (.inr q)
end
noncomputable def zr:Rw:=λ_=>0
noncomputable def sb(a:Nat)(r h:Rw):Rw:=λj=>r j-(r a).fdiv (h a)*h j
noncomputable def wg(a:Nat)(r:Rw):Nat:=if r a=0 then 1 else 2*(r a).natAbs
def pw(a:Nat):List Rw->Nat
 | []=>1
 |r::R=>wg a r*pw a R
def ayi(a:Nat)(r:Rw):1<=wg a r:=by
 unfold wg;split <;> omega
theorem ash(a:Nat):∀R,1<=pw a R
 | []=>aL _
 |r::R=>wZ (ayi a r) (ash a R)
theorem a4f(hC:1<=C):∀R:List Rw,(∀r∈R,(r a).natAbs<=C)->pw a R<=(2*C) ^ R.length
 | [],_=>aL _
 |r::R,h=>by
  have h1:=h r (aX ..);have h2:=a4f hC R λs hs=>h s (aR _ hs)
  show wg a r*pw a R<=(2*C) ^ (R.length+1);rw[tL,oN (wg a r)];refine oV h2 ?_;unfold wg;split <;> omega
theorem ayn(a:Nat)(r':Rw):∀(R:List Rw) (i:Nat),i<R.length->pw a (R.set i r')*wg a 'E'=pw a R*wg a r'
 | [],i,h=>absurd h (lG _)
 |r::R,0,_=>by
  show wg a r'*pw a R*wg a r=wg a r*pw a R*wg a r'
  ac_rfl
 |r::R,i+1,h=>by
  have ih:=ayn a r' R i (by simpa using h)
  show wg a r*pw a (R.set i r')*wg a 'E'=wg a r*pw a R*wg a r';rw[pI,ih,pI]
def bts(x:Nat):Nat:=if x=0 then 0 else x.log2+1
def bsm(a:Nat):List Rw->Nat
 | []=>0
 |r::R=>bts (r a).natAbs+bsm a R
def a2o(hy:0<y)(h:y<=x):bts (x % y)<bts x:=by
 have hm:=yM x hy;have h2:x % y+y<=x:=by
  have e:=Nat.mod_add_div x y;have:y*1<=y*(x / y):=eE y ((Nat.one_le_div_iff hy).mpr h);omega
 unfold bts;rw[if_neg (show ¬x=0 by omega)]
 split
 ·omega
 ·rename_i hz;have hx:=Nat.lt_log2_self (n:=x);rw[tL] at hx;have:(x % y).log2<x.log2:=(rP hz).2 (by omega)
  omega
def a7d(h:x<2 ^ 8000):bts x<=8000:=by
 unfold bts;split
 ·omega
 ·rename_i hz;have:=(rP hz).2 h;omega
theorem azj:∀R:List Rw,(∀r∈R,(r a).natAbs<2 ^ 8000)->bsm a R<=8000*R.length
 | [],_=>aL _
 |r::R,h=>by
  have h1:=a7d (h r (aX ..));have h2:=azj R λs hs=>h s (aR _ hs)
  show bts _+bsm a R<=8000*(R.length+1);omega
theorem avl(a:Nat)(r':Rw):∀(R:List Rw) (i:Nat),i<R.length->bsm a (R.set i r')+bts ('E' a).natAbs=bsm a R+bts (r' a).natAbs
 | [],i,h=>absurd h (lG _)
 |r::R,0,_=>by
  show bts (r' a).natAbs+bsm a R+bts (r a).natAbs=bts (r a).natAbs+bsm a R+bts (r' a).natAbs;omega
 |r::R,i+1,h=>by
  have ih:=avl a r' R i (by simpa using h)
  show bts (r a).natAbs+bsm a (R.set i r')+bts ('E' a).natAbs=bts (r a).natAbs+bsm a R+bts (r' a).natAbs;omega
def getD_mem{R:List Rw}{i:Nat}(h:i<R.length):R.getD i zr∈R:=by
 rw[aY,aG h];exact gQ h
def ac0(R:List Rw)(i k:Nat)(r:Rw)(hi:i<R.length):(R.set i r).getD k zr=if i=k then r else R.getD k zr:=by
 rw[aY,cB,aY]
 by_cases h:i=k
 ·subst h;simp[hi]
 ·simp[h]
def az3{n a:Nat}{R:List Rw}{i hd:Nat}(hi:i<R.length)(hh:hd<R.length)(ne:i≠hd):SpE n R (R.set i (sb a 'E' 'A')):=by
 have mh:R.getD hd zr∈R.set i (sb a 'E' 'A'):=by
  have:=getD_mem (R:=R.set i (sb a 'E' 'A')) (i:=hd) (by simpa using hh)
  rwa[ac0 _ _ _ _ hi,if_neg ne] at this
 have mi:sb a 'E' 'A'∈R.set i (sb a 'E' 'A'):=by
  have:=getD_mem (R:=R.set i (sb a 'E' 'A')) (i:=i) (by simpa using hi)
  rwa[ac0 _ _ _ _ hi,if_pos rfl] at this
 refine⟨λr hr=>?_,λr hr=>?_⟩
 ·obtain⟨k,hk,rfl⟩:=gJ.mp hr;have ek:R[k]=R.getD k zr:=by rw[aY,aG hk];rfl
  rw[ek]
  by_cases h:i=k
  ·subst h;exact(Sp.one (S:=λs=>s∈R.set i (sb a 'E' 'A')) mh).comb (c:=('E' a).fdiv ('A' a)) (.one mi) λj _=>by unfold sb;omega
  ·refine .one ?_;have:=getD_mem (R:=R.set i (sb a 'E' 'A')) (i:=k) (by simpa using hk)
   rwa[ac0 _ _ _ _ hi,if_neg h] at this
 ·rcases iH hr with h |h
  ·exact .one h
  ·rw[h];exact(Sp.one (S:=λs=>s∈R) (getD_mem hh)).comb (c := -('E' a).fdiv ('A' a)) (.one (getD_mem hi)) λj _=>by unfold sb;rw[pK];omega
structure Fo (n a m hd:Nat) (R0:List Rw) (C T u:Nat) (ph:Bool) (todo:List Nat) (R:List Rw):Prop where
 len:R.length=m
 hdl:hd<m
 sp:SpE n R0 R
 z:∀r∈R,∀j,j<a->r j=0
 col:∀r∈R,(r a).natAbs<=C
 hne:(R.getD hd zr) a≠0
 tod:∀i∈todo,i<m/\(R.getD i zr) a≠0/\('A' a).natAbs<=('E' a).natAbs
 nd:todo.Nodup
 bd:∃M,(∀r∈R,∀j,j<n->(r j).natAbs<=M)/\M*pw a R*3 ^ (if ph then todo.length else 0)<=T
 us:ph=ZV->∀i,i<m->(0<'A' a->0<='E' a)/\('A' a<0->(R.getD i zr) a<=0)
 dn:∀i,i<m->i∉todo->(0<'A' a->0<='E' a)/\('A' a<0->(R.getD i zr) a<=0)
 ms:ph=ZV->bsm a R<u∨(bsm a R<=u/\∃i∈todo,i≠hd)
def Fo.skip{n a m hd:Nat}{R0 R:List Rw}{C T u:Nat}{ph:Bool}{todo:List Nat}(f:Fo n a m hd R0 C T u ph (hd::todo) R):Fo n a m hd R0 C T u ph todo R where
 len:=f.len
 hdl:=f.hdl
 sp:=f.sp
 z:=f.z
 col:=f.col
 hne:=f.hne
 tod:=λi hi=>f.tod i (aR _ hi)
 nd:=(lH.mp f.nd).2
 bd:=by
  obtain⟨M,h1,h2⟩:=f.bd;refine⟨M,h1,bV (eE _ (eX (by decide) ?_)) h2⟩
  cases ph <;> simp
 us:=f.us
 dn:=λi hi hn=>by
  by_cases e:i=hd
  ·subst e;exact⟨λh=>Int.le_of_lt h,λh=>Int.le_of_lt h⟩
  ·exact f.dn i hi (by simp[e,hn])
 ms:=λh=>by
  rcases f.ms h with q |⟨q,i,hi,hn⟩
  ·exact .inl q
  ·rcases bA.mp hi with e |e
   ·exact absurd e hn
   ·exact .inr ⟨q,i,e,hn⟩
def Fo.all{n a m hd:Nat}{R0 R:List Rw}{C T u:Nat}{ph:Bool}{todo:List Nat}(f:Fo n a m hd R0 C T u ph todo R):∀r∈R,∀j,j<n->(r j).natAbs<=T:=λr hr j hj=>by
 obtain⟨M,h1,h2⟩:=f.bd;have p1:=ash a R;have p2:1<=3 ^ (if ph then todo.length else 0):=uZ _ _ (by decide)
 have:=cP M p1;have:=cP (M*pw a R) p2;have:=h1 r hr j hj;omega
def azm(hr:r a≠0)(hh:h a≠0)(hl:(h a).natAbs<=(r a).natAbs):wg a (sb a r h)*(1+((r a).fdiv (h a)).natAbs)<=3*wg a r/\((0<h a/\0<=r a)∨(h a<0/\r a<=0)->wg a (sb a r h)*(1+((r a).fdiv (h a)).natAbs)<=wg a r):=by
 obtain⟨n1,_,_,n4,n5⟩:=aly (x:=r a) (y:=h a) hh;have es:(sb a r h) a=r a-(r a).fdiv (h a)*h a:=rfl;have y1:1<=(h a).natAbs:=by omega
 have ql:=cP ((r a).fdiv (h a)).natAbs y1;have e1:wg a r=2*(r a).natAbs:=by unfold wg;rw[if_neg hr]
 rw[e1]
 by_cases z:r a-(r a).fdiv (h a)*h a=0
 ·have e2:wg a (sb a r h)=1:=by unfold wg;rw[es,if_pos z]
  have e3:((r a).fdiv (h a)).natAbs*(h a).natAbs=(r a).natAbs:=by
   rw[<-lC]
   congr 1
   omega
  rw[e2];exact⟨by omega,λ_=>by omega⟩
 ·have e2:wg a (sb a r h)=2*(r a-(r a).fdiv (h a)*h a).natAbs:=by unfold wg;rw[es,if_neg z]
  rw[e2];generalize hx':(r a-(r a).fdiv (h a)*h a).natAbs=x' at *;generalize ((r a).fdiv (h a)).natAbs=q at *;generalize (h a).natAbs=y at *;have m1:x'*q<=q*y:=by rw[oN];exact eE _ (by omega)
  refine⟨?_,λs=>?_⟩
  ·simp only[uG,pI,uF];omega
  ·have:=(n5 s).1;simp only[uG,pI,uF];omega
def Fo.up{n a m hd:Nat}{R0 R:List Rw}{C T u:Nat}{ph:Bool}{todo:List Nat}{i:Nat}(f:Fo n a m hd R0 C T u ph (i::todo) R)(ne:i≠hd):Fo n a m hd R0 C T u ph todo (R.set i (sb a 'E' 'A')):=by
 obtain⟨hi,hx,hxy⟩:=f.tod i (aX ..);obtain⟨ni,nd⟩:=lH.mp f.nd;have hiR:i<R.length:=by rw[f.len];exact hi
 have hhR:hd<R.length:=by rw[f.len];exact f.hdl
 obtain⟨n1,n2,n3,n4,n5⟩:=aly (x:='E' a) (y:='A' a) f.hne;obtain⟨w1,w2⟩:=azm hx f.hne hxy;have gh:(R.set i (sb a 'E' 'A')).getD hd zr=R.getD hd zr:=by rw[ac0 _ _ _ _ hiR,if_neg ne]
 have gi:(R.set i (sb a 'E' 'A')).getD i zr=sb a 'E' 'A':=by rw[ac0 _ _ _ _ hiR,if_pos rfl]
 have gk:∀k,k≠i->(R.set i (sb a 'E' 'A')).getD k zr=R.getD k zr:=λk hk=>by rw[ac0 _ _ _ _ hiR,if_neg (gY hk)]
 have es:(sb a 'E' 'A') a='E' a-('E' a).fdiv ('A' a)*'A' a:=rfl;have sg:(0<'A' a->0<=(sb a 'E' 'A') a)/\('A' a<0->(sb a 'E' 'A') a<=0):=⟨n2,n3⟩;have same:ph=ZV->(0<'A' a/\0<='E' a)∨('A' a<0/\(R.getD i zr) a<=0):=λh=>by
  have:=f.us h i hi;have:=f.hne;omega
 have ps:=ayn a (sb a 'E' 'A') R i hiR;refine⟨by rw[fH];exact f.len,f.hdl,f.sp.trans (az3 hiR hhR ne),λr hr j hj=>?_,λr hr=>?_,by rw[gh];exact f.hne,λk hk=>?_,nd,?_,λh k hk=>?_,λk hk hn=>?_,λh=>.inl ?_⟩
 ·rcases iH hr with q |q
  ·exact f.z r q j hj
  ·rw[q];unfold sb;rw[f.z _ (getD_mem hiR) j hj,f.z _ (getD_mem hhR) j hj,dJ];rfl
 ·rcases iH hr with q |q
  ·exact f.col r q
  ·rw[q,es];have:=f.col _ (getD_mem hhR);omega
 ·have nk:k≠i:=λe=>ni (e▸hk)
  rw[gh,gk k nk];exact f.tod k (aR _ hk)
 ·obtain⟨M,h1,h2⟩:=f.bd;refine⟨M*(1+(('E' a).fdiv ('A' a)).natAbs),λr hr j hj=>?_,?_⟩
  ·rcases iH hr with q |q
   ·exact bV (h1 r q j hj) (cP _ (by omega))
   ·rw[q];have a1:=h1 _ (getD_mem hiR) j hj;have a2:=h1 _ (getD_mem hhR) j hj;have a3:=eE (('E' a).fdiv ('A' a)).natAbs a2;have a4:((sb a 'E' 'A') j).natAbs<=('E' j).natAbs+(('E' a).fdiv ('A' a)).natAbs*('A' j).natAbs:=by
     rw[<-lC];unfold sb;omega
    rw[uG,uF,oN M];omega
  ·generalize wg a (sb a 'E' 'A')=w' at *;have wp:=ayi a 'E';generalize wg a 'E'=w at *;generalize (('E' a).fdiv ('A' a)).natAbs=q at *;generalize pw a (R.set i (sb a 'E' 'A'))=P' at *;generalize pw a R=P at *;have key:∀c,w'*(1+q)<=c*w->P'*(1+q)<=c*P:=λc hc=>by
    refine Nat.le_of_mul_le_mul_right (c:=w) ?_ wp
    calc P'*(1+q)*w=P'*w*(1+q):=by ac_rfl
     _=P*(w'*(1+q)):=by rw[ps];ac_rfl
     _<=P*(c*w):=eE _ hc
     _=c*P*w:=by ac_rfl
   cases ph with
   |true=>
    have k3:=key 3 w1;simp only[if_true,cW,tL] at h2 ⊢
    refine bV ?_ h2
    calc M*(1+q)*P'*3 ^ todo.length=M*(P'*(1+q))*3 ^ todo.length:=by ac_rfl
     _<=M*(3*P)*3 ^ todo.length:=rA _ (eE _ k3)
     _=M*P*(3 ^ todo.length*3):=by ac_rfl
   |false=>
    have k1:=key 1 (by rw[Nat.one_mul];exact w2 (same rfl))
    simp only[iR,if_false] at h2 ⊢
    refine bV ?_ h2
    calc M*(1+q)*P'*3 ^ 0=M*(P'*(1+q))*3 ^ 0:=by ac_rfl
     _<=M*(1*P)*3 ^ 0:=rA _ (eE _ k1)
     _=M*P*3 ^ 0:=by rw[Nat.one_mul]
 ·rw[gh]
  by_cases e:k=i
  ·rw[e,gi];exact sg
  ·rw[gk k e];exact f.us h k hk
 ·rw[gh]
  by_cases e:k=i
  ·rw[e,gi];exact sg
  ·rw[gk k e];exact f.dn k hk (by simp[e,hn])
 ·have b1:=avl a (sb a 'E' 'A') R i hiR;have e5:=(n5 (same h)).2;rw[es,e5] at b1;have:=a2o (x:=('E' a).natAbs) (y:=('A' a).natAbs) (by have:=f.hne;omega) hxy
  rcases f.ms h with q |⟨q,_⟩ <;> omega
def alh{n:Nat}(f r:Rw)(t:Int)(ht:t.natAbs<bgM)(hr:∀j,j<n->(r j).natAbs<bgM):∃q1 q2,compD (bTup 2 (jl (cj 0) (jl (cj 1) bNil))) (ret ZW) ake (qi ((aD n).map λj=>D.int (f j)) ((aD n).map λj=>D.int (r j))) [] [.emp,.emp,.val (.int t)]=ZY (.ok ((aD n).map λj=>.int (f j-t*r j)),[q1,q2,.val (.int t)]):=by
 have comp:=u9 (b:=bTup 2 (jl (cj 0) (jl (cj 1) bNil))) (mc:=ret ZW) (me:=ake) (λj ys ρ=>∃o1 o2:Sl,ρ=[o1,o2,.val (.int t)]/\ys=(aD j).map λj=>.int (f j-t*r j))
  (l:=qi ((aD n).map λj=>D.int (f j)) ((aD n).map λj=>D.int (r j))) (ys:=[]) (ρ:=[.emp,.emp,.val (.int t)]) 0 ⟨.emp,.emp,rfl,rfl⟩ ?_
 ·obtain⟨ys,ρ',e6,o1,o2,rfl,rfl⟩:=comp;have hz:(qi ((aD n).map λj=>D.int (f j)) ((aD n).map λj=>D.int (r j))).length=n:=by unfold qi;rw[gB,ir,ir];omega
  rw[hz,cT] at e6;exact⟨o1,o2,e6⟩
 ·rintro j z ys ρ hd ⟨o1,o2,rfl,rfl⟩
  have hj:j<n:=by
   rcases eY j n with q |q
   ·exact q
   ·rw[jP (by unfold qi;rw[gB,ir,ir];omega)] at hd
    cases hd
  have ed:z=.tup [.int (f j),.int (r j)]:=by
   unfold qi at hd;rw[jO,aV,aV,bZ hj] at hd;exact(bJ hd).symm
  subst ed;have hf:alr t (r j)=ZY (t*r j):=by unfold alr;rw[if_pos ⟨ht,hr j hj⟩]
  refine⟨[.val (.int (f j)),.val (.int (r j)),.val (.int t)],_,ZW,by simp,rfl,.inr ⟨rfl,.int (f j-t*r j),[.val (.int (f j)),.val (.int (r j)),.val (.int t)],?_,_,_,rfl,?_⟩⟩
  ·generalize f j=a1 at *;simp[ake,hf]
  ·rw[cT,jE,dU];rfl
def ajy{n:Nat}(hn:n<=100)(f r:Rw)(t:Int)(ht:t.natAbs<bgM)(hr:∀j,j<n->(r j).natAbs<bgM):ac8 [.val (rwD n f),.val (.int t),.val (rwD n r)]=ZY (.ok (.fr ((aD n).map λj=>.int (f j-t*r j))),[.val (rwD n f),.val (.int t),.val (rwD n r)]):=by
 obtain⟨q1,q2,e⟩:=alh (n:=n) f r t ht hr;have l1:=ir n f;have l2:=ir n r;have l3:=ir n (λj=>f j-t*r j)
 have hc:((aD n).map λj=>D.int (f j-t*r j)).length<=capS:=by rw[l3];exact bw (by omega)
 unfold rwD;generalize (aD n).map (λj=>D.int (f j-t*r j))=z3 at *
 generalize (aD n).map (λj=>D.int (f j))=z1 at *
 generalize (aD n).map (λj=>D.int (r j))=z2 at *
 have hle:z1.length<=z2.length:=by omega
 simp[ac8,at4,hle,e,hc]
def W_at{n:Nat}{R:List Rw}{i:Nat}(hi:i<R.length):atI (R.map (rwD n)) (i:Int)=ZY (rwD n 'E'):=by
 have e:ixN (R.map (rwD n)).length (i:Int)=ZY i:=by
  unfold ixN;rw[aU,if_pos (by omega)]
  simp[hi]
 unfold atI;rw[e];show(R.map (rwD n))[i]? = _;rw[aV,aG hi,aY,aG hi];rfl
def a1w{n a hd:Nat}(W:List D)(S0 S3 o5 o6:Sl):aab [S0,.val (.int (a:Int)),.own ZX W,S3,.val (.int (hd:Int)),o5,o6,.val (.int (hd:Int))]=ZY (.nx,[S0,.val (.int (a:Int)),.own ZX W,S3,.val (.int (hd:Int)),o5,o6,.val (.int (hd:Int))]):=by
 generalize (a:Int)=aa;generalize (hd:Int)=hh;simp[aab]
def bac{n a hd i:Nat}(hn:n<=100)(ha:a<n){R:List Rw}(hi:i<R.length)(hh:hd<R.length)(ne:i≠hd)(hne:(R.getD hd zr) a≠0)(hy:('A' a).natAbs<bgD)(hq:(('E' a).fdiv ('A' a)).natAbs<bgM)(hr:∀j,j<n->('A' j).natAbs<bgM)(S0 S3 o5 o6:Sl) :
  aab [S0,.val (.int (a:Int)),.own ZX (R.map (rwD n)),S3,.val (.int (hd:Int)),o5,o6,.val (.int (i:Int))]=ZY (.nx,[S0,.val (.int (a:Int)),.own ZX ((R.set i (sb a 'E' 'A')).map (rwD n)),S3,.val (.int (hd:Int)),o5,o6,.val (.int (i:Int))]):=by
 have e:=ajy hn 'E' 'A' (('E' a).fdiv ('A' a)) hq hr;have x1:=W_at (n:=n) hi;have x2:=W_at (n:=n) hh;have y1:=zu (r:=R.getD i zr) ha;have y2:=zu (r:=R.getD hd zr) ha;have fd:als ('E' a) ('A' a)=ZY (('E' a).fdiv ('A' a)):=by unfold als;rw[if_pos ⟨hne,hy⟩]
 have ix:ixN (R.map (rwD n)).length (i:Int)=ZY i:=by
  unfold ixN;rw[aU,if_pos (by omega)]
  simp[hi]
 have es:(R.set i (sb a 'E' 'A')).map (rwD n)=(R.map (rwD n)).set i (rwD n λj=>(R.getD i zr) j-('E' a).fdiv ('A' a)*'A' j):=by
  rw[List.map_set];rfl
 have nei:¬(i:Int)=(hd:Int):=by omega
 rw[es];unfold rwD at *;generalize ('E' a).fdiv ('A' a)=q at *;generalize (aD n).map (λj=>D.int ('E' j-q*'A' j))=z3 at *
 generalize (aD n).map (λj=>D.int ('E' j))=z1 at *
 generalize (aD n).map (λj=>D.int ('A' j))=z2 at *
 generalize R.map (λr=>D.lst ((aD n).map λj=>D.int (r j)))=W at *
 generalize 'E' a=xi at *;generalize 'A' a=xh at *;simp[aab,nei,x1,x2,y1,y2,fd,e,asI,ix]
theorem anp{n a m hd:Nat}{R0:List Rw}{C T u:Nat}{ph:Bool}(hn:n<=100)(ha:a<n)(hC:C<bgD)(hT:T<bgM)(S0 S3 o5 o6:Sl):∀(todo:List Nat) (R:List Rw) (o7:Sl),Fo n a m hd R0 C T u ph todo R ->
  ∃(R':List Rw) (q7:Sl),Fo n a m hd R0 C T u ph [] R'/\(q7=o7∨∃d,q7=.val d)/\forD (cj 7) aab (todo.map λi:Nat=>D.int (i:Int)) [S0,.val (.int (a:Int)),.own ZX (R.map (rwD n)),S3,.val (.int (hd:Int)),o5,o6,o7]=ZY (.nx,[S0,.val (.int (a:Int)),.own ZX (R'.map (rwD n)),S3,.val (.int (hd:Int)),o5,o6,q7])
 | [],R,o7,f=>⟨R,o7,f,.inl rfl,rfl⟩
 |i::todo,R,o7,f=>by
  by_cases e:i=hd
  ·subst e;obtain⟨R',q7,f',h7,e'⟩:=anp hn ha hC hT S0 S3 o5 o6 todo R (.val (.int (i:Int))) f.skip;refine⟨R',q7,f',.inr (by rcases h7 with h |h;exact⟨_,h⟩;exact h),?_⟩
   rw[bH,nq];simp only[apl,xX,xW];rw[a1w (n:=n)];exact e'
  ·obtain⟨R',q7,f',h7,e'⟩:=anp hn ha hC hT S0 S3 o5 o6 todo _ (.val (.int (i:Int))) (f.up e);refine⟨R',q7,f',.inr (by rcases h7 with h |h;exact⟨_,h⟩;exact h),?_⟩
   obtain⟨hi,hx,hxy⟩:=f.tod i (aX ..);have hiR:i<R.length:=by rw[f.len];exact hi
   have hhR:hd<R.length:=by rw[f.len];exact f.hdl
   have n4:=(aly (x:='E' a) (y:='A' a) f.hne).2.2.2.1;have ql:=cP (('E' a).fdiv ('A' a)).natAbs (show 1<=('A' a).natAbs by have:=f.hne;omega)
   have c1:=f.col _ (getD_mem hiR);have c2:=f.col _ (getD_mem hhR);have bb:C+C<bgM:=by
    have h1:bgD=2 ^ 8000:=by unfold bgD;rfl
    have h2:(2:Nat) ^ 8001<=bgM:=by unfold bgM;exact eX (by decide) (by decide)
    have h3:(2:Nat) ^ 8001=2 ^ 8000*2:=tL ..
    omega
   rw[bH,nq];simp only[apl,xX,xW];rw[bac hn ha hiR hhR e f.hne (by omega) (by omega) (λj hj=>jK (f.all _ (getD_mem hhR) j hj) hT)]
   exact e'
def alv(a:Nat)(R:List Rw):List Nat:=(aD R.length).filter λi=>decide ('E' a≠0)
def yr{a:Nat}{R:List Rw}{i:Nat}:i∈alv a R↔i<R.length/\(R.getD i zr) a≠0:=by
 unfold alv;rw[eN,fY,decide_eq_true_iff]
def aq1{n a:Nat}(ha:a<n)(R:List Rw):∃q1 q2,compD (bTup 2 (jl (cj 0) (jl (cj 1) bNil))) abe abd (ac3 (R.map (rwD n))) [] [.emp,.emp,.val (.int (a:Int))]=ZY (.ok ((alv a R).map λi:Nat=>D.int (i:Int)),[q1,q2,.val (.int (a:Int))]):=by
 have comp:=u9 (b:=bTup 2 (jl (cj 0) (jl (cj 1) bNil))) (mc:=abe) (me:=abd) (λj ys ρ=>∃o1 o2:Sl,ρ=[o1,o2,.val (.int (a:Int))]/\ys=((aD j).filter λi=>decide ('E' a≠0)).map λi:Nat=>D.int (i:Int))
  (l:=ac3 (R.map (rwD n))) (ys:=[]) (ρ:=[.emp,.emp,.val (.int (a:Int))]) 0 ⟨.emp,.emp,rfl,rfl⟩ ?_
 ·obtain⟨ys,ρ',e6,o1,o2,rfl,rfl⟩:=comp;rw[aae,aU,cT] at e6;exact⟨o1,o2,e6⟩
 ·rintro j z ys ρ hd ⟨o1,o2,rfl,rfl⟩
  obtain⟨d0,hd0,rfl⟩:=aaf hd;have hj:j<R.length:=by
   have:=(aJ.mp hd0).1
   simpa using this
  have ed:d0=rwD n (R.getD j zr):=by
   rw[aV,aG hj] at hd0;rw[aY,aG hj];exact(bJ hd0).symm
  subst ed;have y1:=zu (r:=R.getD j zr) ha;rw[cT];refine⟨[.val (.int (j:Int)),.val (rwD n (R.getD j zr)),.val (.int (a:Int))],[.val (.int (j:Int)),.val (rwD n (R.getD j zr)),.val (.int (a:Int))],decide ((R.getD j zr) a≠0),by simp,?_,?_⟩
  ·unfold rwD;generalize (aD n).map (λk=>D.int ((R.getD j zr) k))=z1 at *
   generalize (R.getD j zr) a=x at *
   by_cases hx0:x=0 <;> simp[abe,y1,hx0]
  ·rw[jE,List.filter_append]
   by_cases hx:(R.getD j zr) a=0
   ·have hx2:R[j]?.getD zr a=0:=by rw[<-aY];exact hx
    refine .inl ⟨by simp[hx2],_,_,rfl,?_⟩
    simp[hx2]
   ·have hx2:¬R[j]?.getD zr a=0:=by rw[<-aY];exact hx
    refine .inr ⟨by simp[hx2],.int (j:Int),[.val (.int (j:Int)),.val (rwD n (R.getD j zr)),.val (.int (a:Int))],by simp[abd],_,_,rfl,?_⟩
    simp[hx2]
def az6(n:Nat)(r:Rw):aid (rwD n r)=ZW:=by
 unfold rwD;show List.all _ anq=ZW;rw[qK];exact cL.mpr λ_ _=>rfl
def apq{n a:Nat}(ha:a<n)(R:List Rw)(hl:R.length<=100)(d0:D)(o3 o4 o5 o6 o7:Sl)(k3:okT o3=ZW)(k4:okT o4=ZW)(k5:okT o5=ZW)(k6:okT o6=ZW)(k7:okT o7=ZW) :
  ais 2 1 (sr [ZX,ZX,ZY 1] (mGet afm (bf (mVar 2) mNil)) (bTup 2 (jl (cj 0) (jl (cj 1) bNil))) abe abd) [.val d0,.val (.int (a:Int)),.own ZX (R.map (rwD n)),o3,o4,o5,o6,o7]=ZY (.ok (.fr ((alv a R).map λi:Nat=>D.int (i:Int))),[.val d0,.val (.int (a:Int)),.own ZX (R.map (rwD n)),o3,o4,o5,o6,o7]):=by
 obtain⟨q1,q2,e⟩:=aq1 (n:=n) ha R;have hal:(alv a R).length<=R.length:=by
  unfold alv;exact bV (gF ..) (by simp)
 have hc:((alv a R).map λi:Nat=>D.int (i:Int)).length<=capS:=by rw[aU];exact bw (by omega)
 have hf2:((alv a R).map λi:Nat=>D.int (i:Int)).all ad2=ZW:=by
  rw[qK];exact cL.mpr λ_ _=>rfl
 have hf3:(R.map (rwD n)).all aid=ZW:=by
  rw[qK];exact cL.mpr λr _=>az6 n r
 generalize (alv a R).map (λi:Nat=>D.int (i:Int))=al at *
 generalize R.map (rwD n)=W at *;generalize (a:Int)=aa at *;have hm:sr [ZX,ZX,ZY 1] (mGet afm (bf (mVar 2) mNil)) (bTup 2 (jl (cj 0) (jl (cj 1) bNil))) abe abd [.val d0,.val (.int aa),.own ZX W,o3,o4,o5,o6,o7]=ZY (.ok (.fr al),[.val d0,.val (.int aa),.val (.lst W),o3,o4,o5,o6,o7]):=by
  simp[e,hc]
 rw[ath,hm];simp[hf2,hf3,okT];exact⟨k3,k4,k5,k6,k7⟩
theorem am8(kf:Int->Int):∀(r:List Int) (b:Int),minK kf r b∈b::r/\∀y∈b::r,kf (minK kf r b)<=kf y
 | [],b=>⟨List.mem_cons_self ..,λy hy=>by
  rw[dW.mp hy];exact pM _⟩
 |n::r,b=>by
  by_cases c:kf n<kf b
  ·have e:minK kf (n::r) b=minK kf r n:=by show(if _ then _ else _)=_;rw[if_pos c]
   obtain⟨h1,h2⟩:=am8 kf r n;rw[e];refine⟨List.mem_cons_of_mem _ h1,λy hy=>?_⟩
   rcases bA.mp hy with q |q
   ·have:=h2 n (aX ..);rw[q];omega
   ·exact h2 y q
  ·have e:minK kf (n::r) b=minK kf r b:=by show(if _ then _ else _)=_;rw[if_neg c]
   obtain⟨h1,h2⟩:=am8 kf r b;rw[e];refine⟨?_,λy hy=>?_⟩
   ·rcases bA.mp h1 with q |q
    ·rw[q];exact aX ..
    ·exact aR _ (aR _ q)
   ·rcases bA.mp hy with q |q
    ·rw[q];exact h2 b (aX ..)
    ·rcases bA.mp q with w |w
     ·have:=h2 b (aX ..);rw[w];omega
     ·exact h2 y (aR _ w)
theorem a1o{n a:Nat}(ha:a<n)(R:List Rw)(hne:alv a R≠[])(S0 o4 o5 o6 o7:Sl):∃hd:Nat,hd∈alv a R/\(∀i∈alv a R,('A' a).natAbs<=('E' a).natAbs)/\atf 3 2 1 [S0,.val (.int (a:Int)),.own ZX (R.map (rwD n)),.own ZX ((alv a R).map λi:Nat=>D.int (i:Int)),o4,o5,o6,o7]=ZY (.ok (.int (hd:Int)),[S0,.val (.int (a:Int)),.own ZX (R.map (rwD n)),.own ZX ((alv a R).map λi:Nat=>D.int (i:Int)),o4,o5,o6,o7]):=by
 have key:∀i,i<R.length->keyM (R.map (rwD n)) (a:Int) (i:Int)=ZY (('E' a).natAbs:Int):=λi hi=>by
  unfold keyM;rw[W_at hi];have y1:=zu (r:=R.getD i zr) ha;show(match atI ((aD n).map λj=>D.int ('E' j)) (a:Int) with
   |some (.int a)=>ZY (if a<0 then -a else a)
   |_=>ZX)=_
  rw[y1];show ZY (if 'E' a<0 then -(R.getD i zr) a else 'E' a)=_
  congr 1
  split <;> omega
 have ei:abn ((alv a R).map λi:Nat=>D.int (i:Int))=ZY ((alv a R).map λi:Nat=>(i:Int)):=by
  have:=ahg ((alv a R).map λi:Nat=>(i:Int))
  rw[dR] at this;exact this
 cases hal:(alv a R).map λi:Nat=>(i:Int) with
 |nil=>exact absurd (List.map_eq_nil_iff.mp hal) hne
 |cons b r=>
  obtain⟨h1,h2⟩:=am8 (λm=>(keyM (R.map (rwD n)) (a:Int) m).getD 0) r b
  rw[<-hal] at h1 h2;obtain⟨hd,hm,ehd⟩:=cJ.mp h1;have hall:∀m∈b::r,(keyM (R.map (rwD n)) (a:Int) m).isSome=ZW:=λm hmm=>by
   rw[<-hal] at hmm;obtain⟨i,hi,rfl⟩:=cJ.mp hmm;rw[key i (yr.mp hi).1];rfl
  refine⟨hd,hm,λi hi=>?_,?_⟩
  ·have h3:=h2 (i:Int) (cJ.mpr ⟨i,hi,rfl⟩);rw[<-ehd] at h3;have h3:(keyM (R.map (rwD n)) (a:Int) (hd:Int)).getD 0<=(keyM (R.map (rwD n)) (a:Int) (i:Int)).getD 0:=h3;rw[key hd (yr.mp hm).1,key i (yr.mp hi).1] at h3;have h3:(('A' a).natAbs:Int)<=(('E' a).natAbs:Int):=h3;omega
  ·rw[hal] at ei;rw[ehd];show(match abn ((alv a R).map λi:Nat=>D.int (i:Int)) with
    |some (n'::r')=>if (n'::r').all (λm=>(keyM (R.map (rwD n)) (a:Int) m).isSome)=ZW then ZY (Out.ok (D.int (minK (λm=>(keyM (R.map (rwD n)) (a:Int) m).getD 0) r' n')),_) else ZX
    |_=>ZX)=_
   rw[ei];show(if (b::r).all _=ZW then _ else _)=_
   rw[if_pos (cL.mpr hall)]
def ago(neg:Bool)(a b:List Int):gEq neg (.lst (a.map D.int)) (.lst (b.map D.int))=ZY (.v (.bl (if neg then !decide (a=b) else decide (a=b)))):=by
 have h1:okD 30 (.lst (a.map D.int))=ZW:=air 29 a;have h2:okD 30 (.lst (b.map D.int))=ZW:=air 29 b;have h3:eqD (.lst (a.map D.int)) (.lst (b.map D.int))=decide (a=b):=by
  rw[<-aka];exact aj9 _ _
 simp only[gEq,h1,h2,h3];rfl
def cutF(h0:0<=k)(h1:k.toNat<=l.length):cutD l (ZY k) ZX=l.drop k.toNat:=by
 unfold cutD;rw[ajh h0];have:HT.sIx l.length l.length ZX=l.length:=rfl;rw[this,qG h1];exact vZ (by simp)
def cutT{l:List D}{k:Nat}(h1:k<=l.length):cutD l ZX (ZY (k:Int))=l.take k:=by
 unfold cutD;rw[ajh (by omega)]
 have:HT.sIx l.length 0 ZX=0:=rfl;rw[this,cN,qG h1,wF,rJ]
def sq9{g1 g2:Sd}{ρ ρ':Ro}(h:g1 ρ=ZY (.nx,ρ')):dSeq g1 g2 ρ=g2 ρ':=by
 show(match g1 ρ with |some (.nx,ρ1)=>g2 ρ1 |r=>r)=_
 rw[h]
def auu(h:m ρ=ZY (.ok (.fr ys),ρ1)):dSet i m ρ=ZY (.nx,cI ρ1 i (.own ZX ys)):=by
 simp[h,Rv.sl]
def aqq(n:Nat)(r:Rw)(s:Int)(hs:s.natAbs<bgM)(hr:∀j,j<n->(r j).natAbs<bgM):compD (cj 0) (ret ZW) ahp ((aD n).map λj=>D.int (r j)) [] [.emp,.val (.int s)]=ZY (.ok ((aD n).map λj=>.int (s*r j)),aaa .emp ((aD n).map λj=>.int (r j))::[.val (.int s)]):=by
 rw[ou (f:=λd=>match d with |.int x=>.int (s*x) |_=>.non)]
 ·rw[bQ,dR];rfl
 ·intro d hd;obtain⟨k,hk,rfl⟩:=cJ.mp hd;have hf:alr s (r k)=ZY (s*r k):=by unfold alr;rw[if_pos ⟨hs,hr k (fY.mp hk)⟩]
  simp[ahp,hf]
section
variable{n a:Nat}(hn:n<=100)(ha:a<n)(R:List Rw)(hl:R.length<=100)(d0:D)(o3 o4 o5 o6 o7:Sl)(k3:okT o3=ZW)(k4:okT o4=ZW)(k5:okT o5=ZW)(k6:okT o6=ZW)(k7:okT o7=ZW){hd:Nat}(hm:hd∈alv a R)
 (eh:atf 3 2 1 [.val d0,.val (.int (a:Int)),.own ZX (R.map (rwD n)),.own ZX ((alv a R).map λi:Nat=>D.int (i:Int)),o4,o5,o6,o7]=ZY (.ok (.int (hd:Int)),[.val d0,.val (.int (a:Int)),.own ZX (R.map (rwD n)),.own ZX ((alv a R).map λi:Nat=>D.int (i:Int)),o4,o5,o6,o7]))
include hn ha hl k3 k4 k5 k6 k7 hm eh
theorem a3h(hal:alv a R=[hd])(hb:∀j,j<n->('A' j).natAbs<bgM):∃(s:Int) (ρ:Ro),(s=1∨s = -1)/\0<s*'A' a/\zg [.val d0,.val (.int (a:Int)),.own ZX (R.map (rwD n)),o3,o4,o5,o6,o7]=ZY (.ret (.fr (rwD n (λj=>s*'A' j)::((R.take hd++R.drop (hd+1)).map (rwD n)))),.val d0::.val (.int (a:Int))::ρ):=by
 have e1:=apq ha R hl d0 o3 o4 o5 o6 o7 k3 k4 k5 k6 k7;obtain⟨hR,hx⟩:=yr.mp hm;have gq:gEq ZV (.lst ((alv a R).map λi:Nat=>D.int (i:Int))) (.lst [.int (hd:Int)])=ZY (.v (.bl ZW)):=by
  rw[hal];have:=ago ZV [(hd:Int)] [(hd:Int)]
  simpa using this
 have x2:=W_at (n:=n) hR;have y2:=zu (r:=R.getD hd zr) ha;have c1:cutD (R.map (rwD n)) ZX (ZY (hd:Int))=(R.map (rwD n)).take hd:=cutT (by rw[aU];omega)
 have c2:cutD (R.map (rwD n)) (ZY ((hd:Int)+1)) ZX=(R.map (rwD n)).drop (hd+1):=by
  have:=cutF (l:=R.map (rwD n)) (k:=(hd:Int)+1) (by omega) (by rw[aU];omega)
  rw[this]
  congr 1
 have lt:((R.map (rwD n)).take hd).length<=capS:=by rw[eQ];exact bw (by simp;omega)
 have ld:((R.map (rwD n)).drop (hd+1)).length<=capS:=by rw[iT];exact bw (by simp;omega)
 have main:∀s:Int,(if 0<'A' a then (1:Int) else -1)=s->(s=1∨s = -1)->∃ρ:Ro,zg [.val d0,.val (.int (a:Int)),.own ZX (R.map (rwD n)),o3,o4,o5,o6,o7]=ZY (.ret (.fr (rwD n (λj=>s*'A' j)::((R.take hd++R.drop (hd+1)).map (rwD n)))),.val d0::.val (.int (a:Int))::ρ):=λs es hs=>by
  have sM:s.natAbs<bgM:=by
   have:(2:Nat) ^ 1<=bgM:=by unfold bgM;exact eX (by decide) (by decide)
   rcases hs with rfl |rfl <;> simp <;> omega
  have f1:=aqq n 'A' s sM hb;have hc6:((aD n).map λj=>D.int (s*'A' j)).length<=capS:=by rw[ir n (λj=>s*'A' j)];exact bw (by omega)
  have er:rwD n (λj=>s*'A' j)::((R.take hd++R.drop (hd+1)).map (rwD n))=([rwD n (λj=>s*'A' j)]++(R.map (rwD n)).take hd)++(R.map (rwD n)).drop (hd+1):=by
   rw[dU,vR,vU];simp
  rw[er];have hcA:([rwD n (λj=>s*'A' j)]++(R.map (rwD n)).take hd).length<=capS:=by rw[dB,eQ];exact bw (by simp;omega)
  have hcB:(([rwD n (λj=>s*'A' j)]++(R.map (rwD n)).take hd)++(R.map (rwD n)).drop (hd+1)).length<=capS:=by rw[dB,dB,eQ,iT];exact bw (by simp;omega)
  generalize (alv a R).map (λi:Nat=>D.int (i:Int))=AL at *
  refine⟨[.own ZX (R.map (rwD n)),.own ZX AL,.val (.int (hd:Int)),.val (.int s),.val (rwD n (λj=>s*'A' j)),o7],?_⟩
  unfold zg;refine(sq9 (ρ':=[.val d0,.val (.int (a:Int)),.own ZX (R.map (rwD n)),.own ZX AL,o4,o5,o6,o7]) (auu e1)).trans ?_;refine(sq9 (ρ':=[.val d0,.val (.int (a:Int)),.own ZX (R.map (rwD n)),.own ZX AL,.val (.int (hd:Int)),o5,o6,o7]) (by simp[eh])).trans ?_
  unfold rwD at *;generalize (aD n).map (λj=>D.int (s*'A' j))=z3 at *
  generalize (aD n).map (λj=>D.int ('A' j))=z2 at *
  generalize (R.map (λr=>D.lst ((aD n).map λj=>D.int (r j)))).take hd=W1 at *
  generalize (R.map (λr=>D.lst ((aD n).map λj=>D.int (r j)))).drop (hd+1)=W2 at *
  generalize 'A' a=xh at *
  by_cases pos:0<xh
  ·rw[if_pos pos] at es;subst es;simp only[dB,cW,qI] at hcA hcB;have hA1:1+W1.length<=capS:=by omega
   have hB1:W1.length+1+W2.length<=capS:=by omega
   have hB2:1+W1.length+W2.length<=capS:=by omega
   have hB3:W1.length+W2.length+1<=capS:=by omega
   simp[gq,x2,y2,pos,f1,hc6,c1,c2,lt,ld,hA1,hB1,hB2,hB3]
  ·rw[if_neg pos] at es;subst es;simp only[dB,cW,qI] at hcA hcB;have hA1:1+W1.length<=capS:=by omega
   have hB1:W1.length+1+W2.length<=capS:=by omega
   have hB2:1+W1.length+W2.length<=capS:=by omega
   have hB3:W1.length+W2.length+1<=capS:=by omega
   simp[gq,x2,y2,pos,f1,hc6,c1,c2,lt,ld,hA1,hB1,hB2,hB3]
 by_cases pos:0<'A' a
 ·obtain⟨ρ,e⟩:=main 1 (if_pos pos) (.inl rfl);exact⟨1,ρ,.inl rfl,by omega,e⟩
 ·obtain⟨ρ,e⟩:=main (-1) (if_neg pos) (.inr rfl);exact⟨-1,ρ,.inr rfl,by omega,e⟩
theorem a8p(hal:alv a R≠[hd]){R':List Rw}{q7:Sl}(ef:forD (cj 7) aab ((alv a R).map λi:Nat=>D.int (i:Int)) [.val d0,.val (.int (a:Int)),.own ZX (R.map (rwD n)),.val (.lst ((alv a R).map λi:Nat=>D.int (i:Int))),.val (.int (hd:Int)),o5,o6,o7]=ZY (.nx,[.val d0,.val (.int (a:Int)),.own ZX (R'.map (rwD n)),.val (.lst ((alv a R).map λi:Nat=>D.int (i:Int))),.val (.int (hd:Int)),o5,o6,q7])) :
  zg [.val d0,.val (.int (a:Int)),.own ZX (R.map (rwD n)),o3,o4,o5,o6,o7]=ZY (.nx,[.val d0,.val (.int (a:Int)),.own ZX (R'.map (rwD n)),.val (.lst ((alv a R).map λi:Nat=>D.int (i:Int))),.val (.int (hd:Int)),o5,o6,q7]):=by
 have e1:=apq ha R hl d0 o3 o4 o5 o6 o7 k3 k4 k5 k6 k7;have gq:gEq ZV (.lst ((alv a R).map λi:Nat=>D.int (i:Int))) (.lst [.int (hd:Int)])=ZY (.v (.bl ZV)):=by
  have:=ago ZV ((alv a R).map λi:Nat=>(i:Int)) [(hd:Int)]
  rw[dR] at this;have hne:¬((alv a R).map λi:Nat=>(i:Int))=[(hd:Int)]:=λz=>hal (by
   cases q:alv a R with
   |nil=>rw[q] at z;simp at z
   |cons x r=>
    rw[q] at z;simp at z;rw[z.2,show x=hd by omega])
  rw[show(decide (((alv a R).map λi:Nat=>(i:Int))=[(hd:Int)]))=ZV from decide_eq_false hne] at this
  exact this
 generalize (alv a R).map (λi:Nat=>D.int (i:Int))=AL at *
 unfold zg;refine(sq9 (ρ':=[.val d0,.val (.int (a:Int)),.own ZX (R.map (rwD n)),.own ZX AL,o4,o5,o6,o7]) (auu e1)).trans ?_;refine(sq9 (ρ':=[.val d0,.val (.int (a:Int)),.own ZX (R.map (rwD n)),.own ZX AL,.val (.int (hd:Int)),o5,o6,o7]) (by simp[eh])).trans ?_
 simp[gq,ef]
end
theorem ayh(Inv:Nat->Ro->Prop)(Done:Rv->Ro->Prop)(hs:∀k ρ,Inv k ρ->c ρ=ZY (.ok ZW,ρ)/\((∃ρ2 k',g ρ=ZY (.nx,ρ2)/\k'<k/\Inv k' ρ2)∨∃r ρ2,g ρ=ZY (.ret r,ρ2)/\Done r ρ2)) :
  ∀(n k:Nat) (ρ:Ro),k<n->Inv k ρ->∃r ρ',whileD c g n ρ=ZY (.ret r,ρ')/\Done r ρ'
 | 0,k,ρ,h,_=>absurd h (lG _)
 |n+1,k,ρ,h,h0=>by
  unfold whileD;obtain⟨e1,⟨ρ2,k',e2,hk,h2⟩ |⟨r,ρ2,e2,d⟩⟩:=hs k ρ h0
  ·rw[e1];dsimp only;rw[e2];exact ayh Inv Done hs n k' ρ2 (by omega) h2
  ·rw[e1];dsimp only;rw[e2];exact⟨_,_,rfl,d⟩
structure Wk (n a m:Nat) (R0:List Rw) (C T k:Nat) (R:List Rw):Prop where
 len:R.length=m
 sp:SpE n R0 R
 z:∀r∈R,∀j,j<a->r j=0
 col:∀r∈R,(r a).natAbs<=C
 live:∃i,i<m/\(R.getD i zr) a≠0
 bd:∃M,(∀r∈R,∀j,j<n->(r j).natAbs<=M)/\((k=50000/\M*pw a R*3 ^ m<=T)∨(k=bsm a R/\M*pw a R<=T/\((∀i,i<m->0<='E' a)∨∀i,i<m->(R.getD i zr) a<=0)))
def Wk.all{n a m:Nat}{R0:List Rw}{C T k:Nat}{R:List Rw}(w:Wk n a m R0 C T k R):∀r∈R,∀j,j<n->(r j).natAbs<=T:=λr hr j hj=>by
 obtain⟨M,h1,h2⟩:=w.bd;have p1:=cP M (ash a R);have p2:=cP (M*pw a R) (uZ m 3 (by decide))
 have:=h1 r hr j hj;rcases h2 with⟨_,h2⟩ |⟨_,h2,_⟩ <;> omega
def avt(a:Nat)(R:List Rw):(alv a R).Nodup:=List.Pairwise.filter _ List.nodup_range
def Wk.fo{n a m:Nat}{R0:List Rw}{C T k:Nat}{R:List Rw}(w:Wk n a m R0 C T k R){hd:Nat}(hm:hd∈alv a R)(hmin:∀i∈alv a R,('A' a).natAbs<=('E' a).natAbs)(hal:alv a R≠[hd]):∃ph,Fo n a m hd R0 C T (bsm a R) ph (alv a R) R/\((ph=ZW/\k=50000)∨(ph=ZV/\k=bsm a R)):=by
 obtain⟨M,h1,h2⟩:=w.bd;have hR:=yr.mp hm;have nd:=avt a R;have oth:∃i∈alv a R,i≠hd:=by
  refine cH λno=>hal ?_
  have all:∀i∈alv a R,i=hd:=λi hi=>cH λq=>no ⟨i,hi,q⟩
  cases q:alv a R with
  |nil=>rw[q] at hm;cases hm
  |cons x r=>
   rw[q] at all nd;have ex:=all x (aX ..);cases r with
   |nil=>rw[ex]
   |cons y r=>
    have ey:=all y (by simp)
    exact absurd (ex.trans ey.symm) (λe=>(lH.mp nd).1 (by rw[e];simp))
 have tod:∀i∈alv a R,i<m/\(R.getD i zr) a≠0/\('A' a).natAbs<=('E' a).natAbs:=λi hi=>⟨by rw[<-w.len];exact(yr.mp hi).1,(yr.mp hi).2,hmin i hi⟩
 have dn:∀i,i<m->i∉alv a R->(0<'A' a->0<='E' a)/\('A' a<0->(R.getD i zr) a<=0):=λi hi hn=>by
  have:(R.getD i zr) a=0:=cH λq=>hn (yr.mpr ⟨by rw[w.len];exact hi,q⟩)
  rw[this];exact⟨λ_=>pM _,λ_=>pM _⟩
 have hl:hd<m:=by rw[<-w.len];exact hR.1
 rcases h2 with⟨hk,h2⟩ |⟨hk,h2,us⟩
 ·refine⟨ZW,⟨w.len,hl,w.sp,w.z,w.col,hR.2,tod,nd,⟨M,h1,?_⟩,(λh=>by cases h),dn,(λh=>by cases h)⟩,.inl ⟨rfl,hk⟩⟩
  have:(alv a R).length<=m:=by
   rw[<-w.len];unfold alv;exact bV (gF ..) (by simp)
  exact bV (eE _ (eX (by decide) (by simpa using this))) h2
 ·refine⟨ZV,⟨w.len,hl,w.sp,w.z,w.col,hR.2,tod,nd,⟨M,h1,by simpa using h2⟩,λ_ i hi=>?_,dn,λ_=>.inr ⟨Nat.le_refl _,oth⟩⟩,.inr ⟨rfl,hk⟩⟩
  rcases us with q |q
  ·have:=q i hi;have:=q hd hl;exact⟨λ_=>by omega,λ_=>by omega⟩
  ·have:=q i hi;have:=q hd hl;exact⟨λ_=>by omega,λ_=>by omega⟩
def Fo.wk{n a m hd:Nat}{R0 R:List Rw}{C T u:Nat}{ph:Bool}(f:Fo n a m hd R0 C T u ph [] R):Wk n a m R0 C T (bsm a R) R where
 len:=f.len
 sp:=f.sp
 z:=f.z
 col:=f.col
 live:=⟨hd,f.hdl,f.hne⟩
 bd:=by
  obtain⟨M,h1,h2⟩:=f.bd;refine⟨M,h1,.inr ⟨rfl,?_,?_⟩⟩
  ·cases ph <;> simpa using h2
  ·have hne:=f.hne;rcases Int.lt_trichotomy ('A' a) 0 with q |q |q
   ·exact .inr λi hi=>(f.dn i hi (by simp)).2 q
   ·exact absurd q hne
   ·exact .inl λi hi=>(f.dn i hi (by simp)).1 q
def yt{R:List Rw}{k:Nat}(hk:k<R.length)(r:Rw):r∈R↔r∈R.getD k zr::(R.take k++R.drop (k+1)):=by
 have e:R=R.take k++R.getD k zr::R.drop (k+1):=by
  have h1:=(List.take_append_drop k R).symm;rw[lU hk] at h1;rw[aY,aG hk];exact h1
 constructor
 ·intro h;rw[e] at h;rcases dC.mp h with q |q
  ·simp[q]
  ·rcases bA.mp q with w |w
   ·simp[w]
   ·simp[w]
 ·intro h;rw[e];rcases bA.mp h with q |q
  ·simp[q]
  ·rcases dC.mp q with w |w
   ·simp[w]
   ·simp[w]
def auh{n a B C:Nat}(hn:n<=100)(ha:a<n)(R0:List Rw)(h6:R0.length<=6)(hC1:1<=C)(hC:2<=R0.length->C<bgD)(hT:B*(6*C) ^ R0.length<bgM)(bR:∀r∈R0,∀j,j<n->(r j).natAbs<=B)(cR:∀r∈R0,(r a).natAbs<=C)(zR:∀r∈R0,∀j,j<a->r j=0)(nz:∃r∈R0,r a≠0) :
  ∃(hh h':Rw) (d':List Rw) (s:Int),aew [.val (.lst (R0.map (rwD n))),.val (.int (a:Int))]=ZY (.ok (.fr (rwD n hh::d'.map (rwD n))),[.val (.lst (R0.map (rwD n))),.val (.int (a:Int))])/\(s=1∨s = -1)/\(∀j,hh j=s*h' j)/\0<hh a/\SpE n R0 (h'::d')/\(∀j,j<a->h' j=0)/\(∀r∈d',∀j,j<=a->r j=0)/\d'.length+1=R0.length/\∀r∈h'::d',∀j,j<n->(r j).natAbs<=B*(6*C) ^ R0.length:=by
 generalize hTT:B*(6*C) ^ R0.length=T at *;have start:Wk n a R0.length R0 C T 50000 R0:=by
  refine⟨rfl,⟨λr hr=>.one hr,λr hr=>.one hr⟩,zR,cR,?_,B,bR,.inl ⟨rfl,?_⟩⟩
  ·obtain⟨r,hr,q⟩:=nz;obtain⟨k,hk,rfl⟩:=gJ.mp hr;exact⟨k,hk,by rw[aY,aG hk];exact q⟩
  ·have e:(6*C) ^ R0.length=(2*C) ^ R0.length*3 ^ R0.length:=by
    rw[<-Nat.mul_pow]
    congr 1
    omega
   rw[<-hTT,e,pI];exact eE _ (rA _ (a4f hC1 R0 cR))
 have loop:=ayh (c:=akr) (g:=zg)
  (λk ρ=>∃(R:List Rw) (o3 o4 o5 o6 o7:Sl),ρ=[.val (.lst (R0.map (rwD n))),.val (.int (a:Int)),.own ZX (R.map (rwD n)),o3,o4,o5,o6,o7]/\okT o3=ZW/\okT o4=ZW/\okT o5=ZW/\okT o6=ZW/\okT o7=ZW/\Wk n a R0.length R0 C T k R)
  (λr ρ=>∃(R:List Rw) (hd k:Nat) (s:Int) (ρ':Ro),r=.fr (rwD n (λj=>s*'A' j)::((R.take hd++R.drop (hd+1)).map (rwD n)))/\ρ=.val (.lst (R0.map (rwD n)))::.val (.int (a:Int))::ρ'/\(s=1∨s = -1)/\0<s*'A' a/\alv a R=[hd]/\Wk n a R0.length R0 C T k R)
  ?_ fuel 50000 [.val (.lst (R0.map (rwD n))),.val (.int (a:Int)),.own ZX (R0.map (rwD n)),.emp,.emp,.emp,.emp,.emp] (oO (by decide) aj7) ⟨R0,.emp,.emp,.emp,.emp,.emp,rfl,rfl,rfl,rfl,rfl,rfl,start⟩
 ·obtain⟨r,ρ,e,R,hd,k,s,ρ',rfl,rfl,hs,hp,hal,w⟩:=loop;have hm:hd∈alv a R:=by rw[hal];simp
  have hR:=(yr.mp hm).1;have lk:=w.len;refine⟨λj=>s*'A' j,R.getD hd zr,R.take hd++R.drop (hd+1),s,?_,hs,λ_=>rfl,hp,w.sp.trans ⟨λr hr=>.one ((yt hR r).mp hr),λr hr=>.one ((yt hR r).mpr hr)⟩,w.z _ (getD_mem hR),λr hr j hj=>?_,?_,λr hr j hj=>w.all r ((yt hR r).mpr hr) j hj⟩
  ·have comp:compD (cj 0) (ret ZW) ahs (R0.map (rwD n)) [] [.emp]=ZY (.ok (R0.map (rwD n)),aaa .emp (R0.map (rwD n))::[]):=by
    rw[ou (f:=id)]
    ·rw[bQ,uH]
    ·intro d hd;obtain⟨r,hr,rfl⟩:=cJ.mp hd;unfold rwD;simp[ahs]
   have hc:(R0.map (rwD n)).length<=capS:=by rw[aU];exact bw (by omega)
   generalize (rwD n λj=>s*'A' j)::((R.take hd++R.drop (hd+1)).map (rwD n))=RR at *
   generalize R0.map (rwD n)=W at *;simp[aew,ao5,comp,hc,e]
  ·rcases eY j a with q |q
   ·exact w.z r ((yt hR r).mpr (aR _ hr)) j q
   ·have ej:j=a:=by omega
    subst ej;refine cH λnzr=>?_
    have idx:∃i,i<R.length/\i≠hd/\R.getD i zr=r:=by
     rcases dC.mp hr with q |q
     ·obtain⟨i,hi,rfl⟩:=gJ.mp q;simp at hi;exact⟨i,by omega,by omega,by rw[aY,aG (by omega)];simp⟩
     ·obtain⟨i,hi,rfl⟩:=gJ.mp q;simp at hi;exact⟨hd+1+i,by omega,by omega,by rw[aY,aG (by omega)];simp⟩
    obtain⟨i,hi,ne,er⟩:=idx;have:i∈alv j R:=yr.mpr ⟨hi,by rw[er];exact nzr⟩
    rw[hal] at this;exact ne (dW.mp this)
  ·simp;omega
 ·rintro k ρ ⟨R,o3,o4,o5,o6,o7,rfl,k3,k4,k5,k6,k7,w⟩
  have lk:=w.len;have hl:R.length<=100:=by omega
  have hne:alv a R≠[]:=λz=>by
   obtain⟨i,hi,q⟩:=w.live;have:i∈alv a R:=yr.mpr ⟨by omega,q⟩
   rw[z] at this;cases this
  obtain⟨hd,hm,hmin,eh⟩:=a1o (n:=n) ha R hne (.val (.lst (R0.map (rwD n)))) o4 o5 o6 o7;refine⟨rfl,?_⟩
  by_cases hal:alv a R=[hd]
  ·obtain⟨s,ρ',hs,hp,e⟩:=a3h hn ha R hl _ o3 o4 o5 o6 o7 k3 k4 k5 k6 k7 hm eh hal (λj hj=>jK (w.all _ (getD_mem (yr.mp hm).1) j hj) hT)
   exact .inr ⟨_,_,e,R,hd,k,s,ρ',rfl,rfl,hs,hp,hal,w⟩
  ·obtain⟨ph,f,hk⟩:=w.fo hm hmin hal;have two:2<=R0.length:=by
    have l0:(alv a R).length<=R.length:=by
     unfold alv;exact bV (gF ..) (by simp)
    have l2:2<=(alv a R).length:=by
     cases q:alv a R with
     |nil=>exact absurd q hne
     |cons x r=>
      cases r with
      |nil=>
       rw[q] at hm hal;exact absurd (by rw[dW.mp hm]) hal
      |cons y r=>simp
    omega
   obtain⟨R',q7,f',h7,ef⟩:=anp hn ha (hC two) hT (.val (.lst (R0.map (rwD n)))) (.val (.lst ((alv a R).map λi:Nat=>D.int (i:Int)))) o5 o6 (alv a R) R o7 f
   have e:=a8p hn ha R hl _ o3 o4 o5 o6 o7 k3 k4 k5 k6 k7 hm eh hal ef;have w':=f'.wk;refine .inl ⟨_,bsm a R',e,?_,R',_,_,o5,o6,q7,rfl,rfl,rfl,k5,k6,?_,w'⟩
   ·rcases hk with⟨hp,hk⟩ |⟨hp,hk⟩
    ·have pd:bgD=2 ^ 8000:=by unfold bgD;rfl
     have:=azj (a:=a) R' λr hr=>by
      rw[<-pd];exact jK (w'.col r hr) (hC two)
     have:=w'.len;omega
    ·rcases f'.ms hp with q |⟨_,i,hi,_⟩
     ·omega
     ·cases hi
   ·rcases h7 with h |⟨d,h⟩
    ·rw[h];exact k7
    ·rw[h];rfl
noncomputable def Yb:Nat->Nat
 | 0=>10
 |a+1=>Yb a*(6*Yb a) ^ (6-a)
theorem amg:∀k,1<=Yb k
 | 0=>by decide
 |k+1=>wZ (amg k) (Nat.pow_pos (by have:=amg k;omega))
def bav(k:Nat):Yb k<=Yb (k+1):=cP _ (Nat.pow_pos (by have:=amg k;omega))
theorem avv(h:a<=b):Yb a<=Yb b:=by
 induction h with
 |refl=>exact aL _
 |step _ ih=>exact bV ih (bav _)
@[irreducible] def Y6:Nat:=Yb 6
theorem avu(h:a<=6):Yb a<=Y6:=by
 unfold Y6;exact avv h
def baw:Y6*(Y6*4)<bgM:=by
 unfold Y6 bgM
 decide +kernel
def Y6_M:Y6<bgM:=by
 have h1:=baw;have h2:=avu (a:=6) (aL _);have h3:=amg 6;have:=cP Y6 (show 0<Y6*4 by omega)
 omega
def a2w:Yb 4<bgD:=by
 unfold bgD
 decide +kernel
section
variable{qv:LL9}(h:Hs qv)(hop:mz qv=[])(h6:qv.length<=6)
include h hop h6
theorem ap0{a:Nat}(ha:a<qv.length){F:Nat->Rw}{Lr:List Rw}(T:Tri qv.length a F)(ll:Lr.length=qv.length-a)(zl:∀r∈Lr,∀j,j<a->r j=0)(sp:∀v,Sp qv.length (λr=>(∃t,t<a/\r=F t)∨r∈Lr) v↔InL qv v)(bF:∀t,t<a->∀j,j<qv.length->(F t j).natAbs<=Yb (t+1))(bL:∀r∈Lr,∀j,j<qv.length->(r j).natAbs<=Yb a)(S0:Sl) :
  ∃(F':Nat->Rw) (Lr':List Rw),aer [S0,.own ZX ((aD a).map λt=>rwD qv.length (F t)),.own ZX (Lr.map (rwD qv.length)),.val (.int (a:Int))]=ZY (.nx,[S0,.own ZX ((aD (a+1)).map λt=>rwD qv.length (F' t)),.own ZX (Lr'.map (rwD qv.length)),.val (.int (a:Int))])/\Tri qv.length (a+1) F'/\Lr'.length=qv.length-(a+1)/\(∀r∈Lr',∀j,j<a+1->r j=0)/\(∀v,Sp qv.length (λr=>(∃t,t<a+1/\r=F' t)∨r∈Lr') v↔InL qv v)/\(∀t,t<a+1->∀j,j<qv.length->(F' t j).natAbs<=Yb (t+1))/\∀r∈Lr',∀j,j<qv.length->(r j).natAbs<=Yb (a+1):=by
 have hm:=h.most;have y1:=amg a;have up:Yb a*(6*Yb a) ^ Lr.length<=Yb (a+1):=eE _ (eX (by omega) (by omega))
 have lt:Yb a*(6*Yb a) ^ Lr.length<bgM:=jK (bV up (avu (by omega))) Y6_M
 have nz:=axg h hop ha T (λv hv=>(sp v).mpr hv) zl
 obtain⟨hh,h',d',s,e,hs,he,hp,se,z1,z2,dl,bb⟩:=auh (n:=qv.length) (by omega) ha Lr (by omega) y1 (λh2=>jK (avv (show a<=4 by omega)) a2w) lt bL (λr hr=>bL r hr a ha) zl nz
 have sp2:=λv=>a3v se sp v
 obtain⟨F',g1,g2,g3,g4,g5⟩:=av9 T sp2 z1 hs he hp;have nh:∀j,(hh j).natAbs=(h' j).natAbs:=λj=>by
  rw[he j,lC];rcases hs with rfl |rfl <;> simp
 refine⟨F',d',?_,g4,by omega,λr hr j hj=>z2 r hr j (by omega),g5,λt ht j hj=>?_,λr hr j hj=>bV (bb r (aR _ hr) j hj) up⟩
 ·rw[g1];have hcF:((aD a).map λt=>rwD qv.length (F t)).length<capS:=by rw[aU,fU];unfold capS;omega
  have cut:cutD (rwD qv.length hh::d'.map (rwD qv.length)) (ZY 1) ZX=d'.map (rwD qv.length):=by
   have:=cutF (l:=rwD qv.length hh::d'.map (rwD qv.length)) (k:=1) (by decide) (by simp)
   rw[this];rfl
  have at0':atI (rwD qv.length hh::d'.map (rwD qv.length)) 0=ZY (rwD qv.length hh):=by simp[atI,ixN]
  have hcL:(d'.map (rwD qv.length)).length<=capS:=by rw[aU];exact bw (by omega)
  generalize (aD a).map (λt=>rwD qv.length (F t))=FF at *
  simp[aer,e,at0',hcF,cut,hcL]
 ·rcases eY t a with z |z
  ·rw[g2 t z];exact bF t z j hj
  ·have:t=a:=by omega
   rw[this,g3,nh j];exact bV (bb h' (by simp) j hj) up
theorem arv:∃F:Nat->Rw,yu [.val (.lst 'B')]=ZY (.ok (.fr ('C'.map λt=>rwD qv.length (F t))),[.val (.lst 'B')])/\Tri qv.length qv.length F/\(∀v,Sp qv.length (λr=>∃t,t<qv.length/\r=F t) v↔InL qv v)/\∀t,t<qv.length->∀j,j<qv.length->(F t j).natAbs<=Yb (t+1):=by
 have hm:=h.most;have loop:=xf (b:=cj 3) (g:=aer) (λa ρ=>∃(F:Nat->Rw) (Lr:List Rw) (o3:Sl),ρ=[.val (.lst 'B'),.own ZX ((aD a).map λt=>rwD qv.length (F t)),.own ZX (Lr.map (rwD qv.length)),o3]/\Tri qv.length a F/\Lr.length=qv.length-a/\(∀r∈Lr,∀j,j<a->r j=0)/\(∀v,Sp qv.length (λr=>(∃t,t<a/\r=F t)∨r∈Lr) v↔InL qv v)/\(∀t,t<a->∀j,j<qv.length->(F t j).natAbs<=Yb (t+1))/\∀r∈Lr,∀j,j<qv.length->(r j).natAbs<=Yb a)
  (l:=rangeD 0 qv.length) (ρ:=[.val (.lst 'B'),.own ZX [],.own ZX 'B',.emp]) 0
  ⟨λ_ _=>0,'C'.map (dsq qv),.emp,by rw[dR];rfl,⟨λt ht=>by omega,λt ht=>by omega⟩,by simp,λr _ j hj=>by omega,λv=>by
   rw[<-a3x qv v];constructor
   ·exact Sp.sub λr hr=>by
     rcases hr with⟨t,ht,_⟩ |z
     ·omega
     ·obtain⟨i,hi,rfl⟩:=cJ.mp z;exact .one ⟨i,fY.mp hi,rfl⟩
   ·exact Sp.sub λr hr=>by
     obtain⟨i,hi,rfl⟩:=hr;exact .one (.inr (cJ.mpr ⟨i,fY.mpr hi,rfl⟩)),λt ht=>by omega,λr hr j _=>by
   obtain⟨i,hi,rfl⟩:=cJ.mp hr;exact a2i h (fY.mp hi)⟩ ?_
 ·obtain⟨ρ',e,F,Lr,o3,rfl,T,ll,_,sp,bF,_⟩:=loop;have rl:(rangeD 0 qv.length).length=qv.length:=by simp[rangeD]
  rw[rl,cT] at e T ll sp bF;have hL:Lr=[]:=pJ.mp (by omega)
  subst hL;refine⟨F,?_,T,λv=>?_,bF⟩
  ·have comp:compD (cj 0) (ret ZW) ahr 'B' [] [.emp]=ZY (.ok 'B',aaa .emp 'B'::[]):=by
    rw[ou (f:=id)]
    ·rw[bQ,uH]
    ·intro d hd;unfold mtD at hd;obtain⟨r,hr,rfl⟩:=cJ.mp hd;unfold rwD;simp[ahr]
   have ml:=qu qv.length qv.length (dsq qv);have hc:qv.length<=capS:=bw (by omega)
   have hb:qv.length<4611686018427387904:=by omega
   simp[yu,ao3,comp,ml,hc,hb,e]
  ·rw[<-sp v];constructor
   ·exact Sp.sub λr hr=>.one (.inl hr)
   ·exact Sp.sub λr hr=>by
     rcases hr with z |z
     ·exact .one z
     ·cases z
 ·rintro a d ρ hd ⟨F,Lr,o3,rfl,T,ll,zl,sp,bF,bL⟩
  rw[cT] at *;have ha:a<qv.length:=by
   have:=(aJ.mp hd).1
   simpa[rangeD] using this
  have ed:d=.int (a:Int):=by
   unfold rangeD at hd;rw[aV,bZ ha] at hd;exact(bJ hd).symm.trans (by show D.int ((0:Int)+(a:Int))=_;rw[qM])
  subst ed;obtain⟨F',Lr',e,T',l',z',s',f',b'⟩:=ap0 h hop h6 ha T ll zl sp bF bL (.val (.lst 'B'));exact⟨_,_,rfl,.inl e,F',Lr',_,rfl,T',l',z',s',f',b'⟩
end
def rd(F:Nat->Rw)(v:Rw):Nat->Rw
 | 0=>v
 |t+1=>λj=>rd F v t j-(rd F v t t).fdiv (F t t)*F t j
def Vb:Nat->Nat
 | 0=>2 ^ 110
 |t+1=>Vb t*(1+2*Yb (t+1))
theorem avw:∀t,1<=Vb t
 | 0=>uZ _ _ (by decide)
 |t+1=>wZ (avw t) (by omega)
def bax(t:Nat):Vb t<=Vb (t+1):=cP _ (by omega)
theorem a2x(h:a<=b):Vb a<=Vb b:=by
 induction h with
 |refl=>exact aL _
 |step _ ih=>exact bV ih (bax _)
def a2y:2*Vb 5<bgM:=by
 unfold bgM
 decide +kernel
theorem rd_V(T:Tri n n F)(bF:∀t,t<n->∀j,j<n->(F t j).natAbs<=Yb (t+1))(bv:∀j,j<n->(v j).natAbs<=2 ^ 110):∀t,t<=n->∀j,j<n->(rd F v t j).natAbs<=Vb t
 | 0,_,j,hj=>bv j hj
 |t+1,ht,j,hj=>by
  have ih:=rd_V T bF bv t (by omega)
  have p:=T.pos t (by omega)
  obtain⟨_,_,_,n4,_⟩:=aly (x:=rd F v t t) (y:=F t t) (by omega)
  have i1:=ih j hj;have i2:=ih t (by omega)
  have f1:=bF t (by omega) j hj
  have v1:=avw t;have q2:((rd F v t t).fdiv (F t t)).natAbs<=2*Vb t:=by
   rcases eY (rd F v t t).natAbs (F t t).natAbs with z |z
   ·have:((rd F v t t).fdiv (F t t)).natAbs*(F t t).natAbs<2*(F t t).natAbs:=by omega
    have:=uP this;omega
   ·have:((rd F v t t).fdiv (F t t)).natAbs<=((rd F v t t).fdiv (F t t)).natAbs*(F t t).natAbs:=cP _ (by omega)
    omega
  have m:=oV q2 f1;show(rd F v t j-(rd F v t t).fdiv (F t t)*F t j).natAbs<=Vb t*(1+2*Yb (t+1));have e:(rd F v t j-(rd F v t t).fdiv (F t t)*F t j).natAbs<=(rd F v t j).natAbs+((rd F v t t).fdiv (F t t)).natAbs*(F t j).natAbs:=by
   rw[<-lC];omega
  have e2:Vb t*(1+2*Yb (t+1))=Vb t+2*Vb t*Yb (t+1):=by
   rw[uG,uF]
   congr 1
   ac_rfl
  rw[e2];omega
def tpD(n:Nat)(w:Rw):D:=.tup ((aD n).map λj=>.int (w j))
def anb(hn:n<=6)(T:Tri n n F)(bF:∀t,t<n->∀j,j<n->(F t j).natAbs<=Yb (t+1))(bd:∀t,t<n->(F t t).natAbs<bgD)(bv:∀j,j<n->(v j).natAbs<=2 ^ 110):aba [.val (.lst ((aD n).map λt=>rwD n (F t))),.val (tpD n v)]=ZY (.ok (.fr ((aD n).map λj=>.int (rd F v n j))),[.val (.lst ((aD n).map λt=>rwD n (F t))),.val (tpD n v)]):=by
 have le:=rd_V T bF bv;have fl:((aD n).map λt=>rwD n (F t)).length=n:=by simp
 have loop:=xf (b:=bTup 2 (jl (cj 3) (jl (cj 4) bNil))) (g:=adt) (λt ρ=>∃o3 o4,ρ=[.val (.lst ((aD n).map λt=>rwD n (F t))),.val (tpD n v),.own ZX ((aD n).map λj=>.int (rd F v t j)),o3,o4])
  (l:=ac3 ((aD n).map λt=>rwD n (F t))) (ρ:=[.val (.lst ((aD n).map λt=>rwD n (F t))),.val (tpD n v),.own ZX ((aD n).map λj=>.int (v j)),.emp,.emp]) 0 ⟨.emp,.emp,rfl⟩ ?_
 ·obtain⟨ρ',e,o3,o4,rfl⟩:=loop;rw[aae,fl,cT] at e;have hc:((aD n).map λj=>D.int (v j)).length<=capS:=by rw[ir];exact bw (by omega)
  unfold tpD at *;simp[aba,aiv,hc,e]
 ·rintro t d ρ hd ⟨o3,o4,rfl⟩
  rw[cT] at *;obtain⟨d0,g1,rfl⟩:=aaf hd;have ht:t<n:=by
   have:=(aJ.mp g1).1;rwa[fl] at this
  rw[aV,bZ ht] at g1;have ed:d0=rwD n (F t):=(bJ g1).symm;subst ed;have p:=T.pos t ht;obtain⟨_,_,_,n4,_⟩:=aly (x:=rd F v t t) (y:=F t t) (by omega)
  have b1:=le t (by omega) t ht
  have b3:=a2x (show t<=5 by omega)
  have v5:=a2y;have q2:((rd F v t t).fdiv (F t t)).natAbs<bgM:=by
   rcases eY (rd F v t t).natAbs (F t t).natAbs with z |z
   ·have:((rd F v t t).fdiv (F t t)).natAbs*(F t t).natAbs<2*(F t t).natAbs:=by omega
    have:=uP this;have:=avw 5;omega
   ·have:((rd F v t t).fdiv (F t t)).natAbs<=((rd F v t t).fdiv (F t t)).natAbs*(F t t).natAbs:=cP _ (by omega)
    omega
  have e:=ajy (n:=n) (by omega) (rd F v t) (F t) ((rd F v t t).fdiv (F t t)) q2 λj hj=>jK (bV (bF t ht j hj) (avu (by omega))) Y6_M
  have x1:=zu (r:=rd F v t) ht;have x2:=zu (r:=F t) ht;have fd:als (rd F v t t) (F t t)=ZY ((rd F v t t).fdiv (F t t)):=by unfold als;rw[if_pos ⟨by omega,bd t ht⟩]
  refine⟨[.val (.lst ((aD n).map λt=>rwD n (F t))),.val (tpD n v),.own ZX ((aD n).map λj=>.int (rd F v t j)),.val (.int (t:Int)),.val (rwD n (F t))],[.val (.lst ((aD n).map λt=>rwD n (F t))),.val (tpD n v),.own ZX ((aD n).map λj=>.int (rd F v t j-(rd F v t t).fdiv (F t t)*F t j)),.val (.int (t:Int)),.val (rwD n (F t))],by simp,.inl ?_,_,_,rfl⟩
  unfold rwD at *;simp[adt,x1,x2,fd,e]
section
variable{qv:LL9}(h:Hs qv)
include h
theorem aif(hop:mz qv=[]):uy [.val (.lst 'B')]=ZY (.ok (.v (.int (botm qv λ_=>0))),[.val (.lst 'B')]):=by
 have hm:=h.most;have e:=arz h hop λ_=>0
 have er:('C'.map λ_=>D.int 0)=aK qv.length (D.int 0):=by
  rw[uI];simp
 rw[er] at e;have ml:=qu qv.length qv.length (dsq qv);have hc:qv.length<=capS:=bw (by omega)
 have hb:qv.length<9223372036854775808:=by omega
 have a1:∀x y:D,atI [x,y] 1=ZY y:=λx y=>by simp[atI,ixN]
 simp[uy,aev,ml,hc,hb,e,a1,isN]
end
def at0(x:D)(l:List D):atI (x::l) 0=ZY x:=by simp[atI,ixN]
def ato(i:Int):ww [.val (.exn "NotOpen" [("room", i)])]=ZY (.ok (.v (.str "open")),[.val (.exn "NotOpen" [("room", i)])]):=by kernel_rfl
def a1a:("NotOpen" : Str)∈NS:=fJ.mp (by decide +kernel)
def bai:gEq ZV (.str "open") (.str "open")=ZY (.v (.bl ZW)):=by kernel_rfl
def at9(neg:Bool)(hs:PyData.strOk s=ZW)(hq:eqD (.str s) (.str s)=ZW)(x y:Int):gEq neg (.tup [.str s,.int x]) (.tup [.str s,.int y])=ZY (.v (.bl (if neg then !decide (x=y) else decide (x=y)))):=by
 have h1:∀x:Int,okD 30 (.tup [.str s,.int x])=ZW:=λx=>by
  show([D.str s,D.int x].all (okD 29))=ZW;simp only[kO,List.all_nil,Ba];rw[show okD 29 (.str s)=ZW from hs]
  rfl
 have h3:eqD (.tup [.str s,.int x]) (.tup [.str s,.int y])=decide (x=y):=by
  show vP (adc [D.str s,D.int x]) (adc [D.str s,D.int y])=_;rw[aj9];show(eqD (.str s) (.str s)&&(eqD (.int x) (.int y)&&ZW))=_;rw[hq,akb,Ba,sO]
 simp only[gEq,h1,h3];simp
def aur(neg:Bool)(x y:Int):gEq neg (.tup [.str "open", .int x]) (.tup [.str "open", .int y])=ZY (.v (.bl (if neg then !decide (x=y) else decide (x=y)))):=at9 neg (by kernel_rfl) (by kernel_rfl) x y
def auq(neg:Bool)(x y:Int):gEq neg (.tup [.str "told", .int x]) (.tup [.str "told", .int y])=ZY (.v (.bl (if neg then !decide (x=y) else decide (x=y)))):=at9 neg (by kernel_rfl) (by kernel_rfl) x y
section
variable{qv:LL9}(h:Hs qv)
include h
theorem aw4(ht:mz qv=i::r):f9 [.val (hD qv)]=ZY (.exc ⟨"NotOpen", [("room", i)]⟩,[.val (hD qv)]):=by
 have q:=arl h;rw[ht,bH] at q;have e3:gEq ZW (.tup (D.int i::r.map D.int)) (.tup [])=ZY (.v (.bl ZW)):=ao8 ZW (i::r) [];have a0:atI (D.int i::r.map D.int) 0=ZY (.int i):=at0 _ _;simp[f9,vz,ad6,dM,q,e3,a0]
theorem afi(hop:mz qv=[]):f9 [.val (hD qv)]=ZY (.ok (.v .non),[.val (hD qv)]):=by
 have q:=arl h;rw[hop] at q;have e3:gEq ZW (.tup []) (.tup [])=ZY (.v (.bl ZV)):=ao8 ZW [] [];simp[f9,vz,q,e3]
end
def tupB(a b:Int):D->Bool
 |.tup l=>decide (a<=(l.length:Int))&&decide ((l.length:Int)<=b)
 |_=>ZV
theorem aet(d:D)(a b:Int):kh [.val d,.val (.int a),.val (.int b)]=ZY (.ok (.v (.bl (tupB a b d))),[.val d,.val (.int a),.val (.int b)]):=by
 cases p:isTy .tuple d with
 |false=>
  rw[show tupB a b d=ZV by cases d with
   |tup l=>cases p
   |_=>rfl]
  simp[kh,wu,p]
 |true=>
  obtain⟨l,rfl⟩:∃l,d=.tup l:=by cases d with
   |tup l=>exact⟨l,rfl⟩
   |_=>cases p
  simp[kh,wu,p,tupB]
def wkT(n:Nat):D->Bool
 |.tup l=>decide (l.length=n)&&l.all (tu 0 1000000000000000000000000000000)
 |_=>ZV
theorem abm(h:Hs qv)(d:D):qx [.val (hD qv),.val d,.val (.int 1000000000000000000000000000000)]=ZY (.ok (.v (.bl (wkT qv.length d))),[.val (hD qv),.val d,.val (.int 1000000000000000000000000000000)]):=by
 have e1:=aet d (qv.length:Int) (qv.length:Int);have hl3:=yl qv;have hm:=h.most;have no:tupB (qv.length:Int) (qv.length:Int) d=ZV->wkT qv.length d=ZV->qx [.val (hD qv),.val d,.val (.int 1000000000000000000000000000000)]=ZY (.ok (.v (.bl (wkT qv.length d))),[.val (hD qv),.val d,.val (.int 1000000000000000000000000000000)]):=λq1 q2=>by
  rw[q1] at e1;rw[q2];simp only[hD] at *;simp[qx,ack,hl3,e1]
 cases d with
 |tup l=>
  by_cases hl:l.length=qv.length
  ·have e2:compD (cj 0) (ret ZW) abr l [] [.emp,.val (.int 1000000000000000000000000000000)]=ZY (.ok (l.map λd=>.bl (tu 0 1000000000000000000000000000000 d)),aaa .emp l::[.val (.int 1000000000000000000000000000000)]):=by
    rw[ou (f:=λd=>.bl (tu 0 1000000000000000000000000000000 d))]
    ·simp
    ·intro d _;simp[abr]
   have e3:vg (l.map λd=>D.bl (tu 0 1000000000000000000000000000000 d))=ZY (l.map (tu 0 1000000000000000000000000000000)):=by
    have:=afs (l.map (tu 0 1000000000000000000000000000000));rwa[dR] at this
   have ha:wkT qv.length (.tup l)=(l.map (tu 0 1000000000000000000000000000000)).all id:=by
    rw[qK];simp only[wkT,hl,decide_true,sO];rfl
   have q1:tupB (qv.length:Int) (qv.length:Int) (.tup l)=ZW:=by simp[tupB,hl]
   rw[q1] at e1;rw[ha];have hc2:(l.map λd=>D.bl (tu 0 1000000000000000000000000000000 d)).length<=capS:=by rw[aU];exact bw (by omega)
   generalize (l.map λd=>D.bl (tu 0 1000000000000000000000000000000 d))=BB at *
   simp only[hD] at *;simp[qx,ack,hl3,e1,e2,e3,hc2]
  ·refine no ?_ ?_
   ·show(decide ((qv.length:Int)<=(l.length:Int))&&decide ((l.length:Int)<=(qv.length:Int)))=ZV;rw[wL,decide_eq_false_iff_not,decide_eq_false_iff_not];omega
   ·show(decide (l.length=qv.length)&&_)=ZV;rw[decide_eq_false hl];rfl
 |_=>exact no rfl rfl
noncomputable def opn(qv:LL9):Out Rv:=match mz qv with
 | []=>.ok (.v .non)
 |i::_=>.exc ⟨"NotOpen", [("room", i)]⟩
noncomputable def rws(qv:LL9)(b:Bool):Out Rv:=if b then opn qv else .exc ⟨"NoWalkers", []⟩
theorem agh(h:Hs qv):f9 [.val (hD qv)]=ZY (opn qv,[.val (hD qv)]):=by
 unfold opn;cases ht:mz qv with
 |nil=>exact afi h ht
 |cons i r=>exact aw4 h ht
theorem agf(h:Hs qv)(d:D):dh [.val (hD qv),.val (.lst [d])]=ZY (rws qv (wkT qv.length d),[.val (hD qv),.val (.lst [d])]):=by
 have e1:=abm h d;have e2:=agh h;unfold rws;cases q:wkT qv.length d with
 |false=>
  rw[q] at e1;simp[dh,lu,j8,nq,e1]
 |true=>
  rw[q] at e1;unfold opn at *;generalize mz qv=tt at *;cases tt <;> simp[dh,lu,j8,nq,e1,e2]
theorem aof(h:Hs qv)(d d':D):dh [.val (hD qv),.val (.lst [d,d'])]=ZY (rws qv (wkT qv.length d&&wkT qv.length d'),[.val (hD qv),.val (.lst [d,d'])]):=by
 have e1:=abm h d;have e1':=abm h d';have e2:=agh h;unfold rws;cases q:wkT qv.length d with
 |false=>
  rw[q] at e1;simp[dh,lu,j8,nq,e1]
 |true=>
  rw[q] at e1;cases q':wkT qv.length d' with
  |false=>
   rw[q'] at e1';simp[dh,lu,j8,nq,e1,e1']
  |true=>
   rw[q'] at e1';unfold opn at *;generalize mz qv=tt at *;cases tt <;> simp[dh,lu,j8,nq,e1,e1',e2]
def tB:Sd:=(dIf (okS (jd (gEq ZV) (bz 0 'H'))) (u6 (mFn jk [ZX,ZX,ZX] (bc (okS (mVar 1)) (bc (okS (mVar 2)) (bc (M.d (okS (mOp gMul (ie (mTup (bf 'H' mNil)) (M.d (jo (g1 gL9) (ji 1 mNil))))))) gj))))) (dIf (okS (jd (gEq ZV) (bz 0 (ret (.int 1))))) (u6 (mFn jx [ZX,ZX] (bc (okS (mVar 1)) (bc (okS (mVar 2)) gj)))) (dIf (okS (jd (gEq ZV) (bz 0 (ret (.int 2))))) (u6 (mFn f_settled [ZX,ZX] (bc (okS (mVar 1)) (bc (okS (mVar 2)) gj)))) (dIf (okS (jd (gEq ZV) (bz 0 (ret (.int 3))))) (u6 (mFn km [ZX,ZX,ZX] (bc (okS (mVar 1)) (bc (okS (mVar 2)) (bc (okS (mVar 3)) gj))))) (dIf (okS (jd (gEq ZV) (bz 0 (ret (.int 4))))) (u6 (mFn j6 [ZX,ZX,ZX] (bc (okS (mVar 1)) (bc (okS (mVar 2)) (bc (okS (mVar 3)) gj))))) (dIf (okS (jd (gEq ZV) (bz 0 (ret (.int 5))))) (u6 (mFn jy [ZX] (bc (okS (mVar 1)) gj))) (u6 (mFn ig [ZX] (bc (okS (mVar 1)) gj)))))))))
def amk:ahl=dSeq (dTry NS tB 4 aap) (dRet (M.v (mTup (bf (ret (.str "told")) (bf 'H' mNil))))):=rfl
def alj:ww [.val (.exn "NoWalkers" [])]=ZY (.ok (.v (.str "walkers")),[.val (.exn "NoWalkers" [])]):=by kernel_rfl
def aqe:("NoWalkers" : Str)∈NS:=fJ.mp (by decide +kernel)
def bah:gEq ZV (.str "walkers") (.str "open")=ZY (.v (.bl ZV)):=by kernel_rfl
def endO:Out Rv->Fl
 |.ok _=>.nx
 |.exc x=>.exc x
def tdD:Out Rv->D
 |.ok _=>.tup [.str "told", .int 0]
 |.exc ⟨_,[]⟩=>.tup [.str "walkers", .int 0]
 |.exc ⟨_,(_,i)::_⟩=>.tup [.str "open", .int i]
inductive En3:Out Rv->Prop
 |ok (r:Rv):En3 (.ok r)
 |nw:En3 (.exc ⟨"NoWalkers", []⟩)
 |no (i:Int):En3 (.exc ⟨"NotOpen", [("room", i)]⟩)
theorem pq(hO:En3 O)(e:tB [.val w,.val hh,.val A,.val B,.emp]=ZY (endO O,[.val w,.val hh,.val A,.val B,.emp])):fu [.val w,.val hh,.val A,.val B]=ZY (.ok (.v (tdD O)),[.val w,.val hh,.val A,.val B]):=by
 cases hO with
 |ok r=>
  simp[fu,amk,dTry,e,endO,tdD]
 |nw=>
  have k1:=alj;have n1:=aqe;have q:=bah;simp[fu,amk,aap,dTry,e,endO,tdD,k1,n1,q]
 |no i=>
  have k1:=ato i;have n1:=a1a;have q:=bai;simp[fu,amk,aap,dTry,e,endO,tdD,k1,n1,q,ad9,dF]
section
variable{hh A B:D}{O:Out Rv}
def way0(hl:hh=.tup L)(hz:1<=L.length/\L.length<=100)(eZ:Z=aK L.length (.int 0))(e:jk [.val hh,.val A,.val (.tup Z)]=ZY (O,[.val hh,.val A,.val (.tup Z)])):tB [.val (.int 0),.val hh,.val A,.val B,.emp]=ZY (endO O,[.val (.int 0),.val hh,.val A,.val B,.emp]):=by
 subst hl;have hc:L.length<=capS:=bw (by omega)
 have hb:(L.length:Int)<9223372036854775808:=by omega
 rw[eZ] at e
 by_cases h1:L.length=1
 ·rw[h1] at e hc hb;simp only[List.replicate_one] at e;cases O <;> simp[tB,endO,h1,hc,e]
 ·have h2:2<=(L.length:Int):=by omega
  have h3:¬(L.length:Int)=1:=by omega
  cases O <;> simp[tB,endO,h2,h3,hc,hb,e]
def way1(e:jx [.val hh,.val A]=ZY (O,[.val hh,.val A])):tB [.val (.int 1),.val hh,.val A,.val B,.emp]=ZY (endO O,[.val (.int 1),.val hh,.val A,.val B,.emp]):=by
 cases O <;> simp[tB,endO,e]
def way2(e:f_settled [.val hh,.val A]=ZY (O,[.val hh,.val A])):tB [.val (.int 2),.val hh,.val A,.val B,.emp]=ZY (endO O,[.val (.int 2),.val hh,.val A,.val B,.emp]):=by
 cases O <;> simp[tB,endO,e]
def way3(e:km [.val hh,.val A,.val B]=ZY (O,[.val hh,.val A,.val B])):tB [.val (.int 3),.val hh,.val A,.val B,.emp]=ZY (endO O,[.val (.int 3),.val hh,.val A,.val B,.emp]):=by
 cases O <;> simp[tB,endO,e]
def way4(e:j6 [.val hh,.val A,.val B]=ZY (O,[.val hh,.val A,.val B])):tB [.val (.int 4),.val hh,.val A,.val B,.emp]=ZY (endO O,[.val (.int 4),.val hh,.val A,.val B,.emp]):=by
 cases O <;> simp[tB,endO,e]
def way5(e:jy [.val hh]=ZY (O,[.val hh])):tB [.val (.int 5),.val hh,.val A,.val B,.emp]=ZY (endO O,[.val (.int 5),.val hh,.val A,.val B,.emp]):=by
 cases O <;> simp[tB,endO,e]
def way6(e:ig [.val hh]=ZY (O,[.val hh])):tB [.val (.int 6),.val hh,.val A,.val B,.emp]=ZY (endO O,[.val (.int 6),.val hh,.val A,.val B,.emp]):=by
 cases O <;> simp[tB,endO,e]
end
def mBig:1000000000000000000000000000000<bgM:=by
 unfold bgM;exact bN (show 1000000000000000000000000000000<2 ^ 100 by decide) (eX (by decide) (by decide))
def axe(hn:n<=100)(f r:Rw)(hr:∀j,j<n->0<=r j/\r j<=1000000000000000000000000000000):ac8 [.val (tpD n f),.val (.int 1),.val (tpD n r)]=ZY (.ok (.fr ((aD n).map λj=>.int (f j-r j))),[.val (tpD n f),.val (.int 1),.val (tpD n r)]):=by
 have m:=mBig;obtain⟨q1,q2,e⟩:=alh (n:=n) f r 1 (by omega) λj hj=>by have:=hr j hj;omega
 have e0:((aD n).map λj=>D.int (f j-1*r j))=(aD n).map λj=>D.int (f j-r j):=gA λj _=>by rw[lY]
 rw[e0] at e;have l1:=ir n f;have l2:=ir n r;have l3:=ir n (λj=>f j-r j)
 have hc:((aD n).map λj=>D.int (f j-r j)).length<=capS:=by rw[l3];exact bw (by omega)
 unfold tpD;generalize (aD n).map (λj=>D.int (f j-r j))=z3 at *
 generalize (aD n).map (λj=>D.int (f j))=z1 at *
 generalize (aD n).map (λj=>D.int (r j))=z2 at *
 have hle:z1.length<=z2.length:=by omega
 simp[ac8,at4,hle,e,hc]
section
variable{qv:LL9}(h:Hs qv)(hop:mz qv=[])
include h hop
def dueD(qv:LL9)(c:Rw):D:=if 'C'.all (λi=>decide (topT qv c i % botm qv c=0)) then tpD qv.length (λi=>topT qv c i / botm qv c) else .non
theorem aqx(h5:qv.length<=5)(a b:Rw)(hb:∀j,j<qv.length->0<=b j/\b j<=1000000000000000000000000000000):nu [.val (hD qv),.val (tpD qv.length a),.val (tpD qv.length b)]=ZY (.ok (.v (dueD qv λi=>a i-b i)),[.val (hD qv),.val (tpD qv.length a),.val (tpD qv.length b)]):=by
 have hm:=h.most;have e1:=lg h;have e2:=ac4 (n:=qv.length) (A:=dsq qv) (by omega)
 have e3:=axe (n:=qv.length) (by omega) a b hb
 have e4:=aik h hop (λi=>a i-b i) h5
 obtain⟨b1,b2⟩:=afr h hop λi=>a i-b i
 have e4:xg [.val (.lst (mtD qv.length qv.length λi j=>dsq qv j i)),.val (.lst ('C'.map λj=>.int (a j-b j)))]=_:=e4
 have fm:∀x,fMod x (botm qv λi=>a i-b i)=ZY (x % botm qv λi=>a i-b i):=λx=>by unfold fMod;rw[if_pos b1]
 have fd:∀x,fDiv x (botm qv λi=>a i-b i)=ZY (x / botm qv λi=>a i-b i):=λx=>by unfold fDiv;rw[if_pos ⟨b1,by omega⟩]
 have c1:compD (cj 0) (ret ZW) yq ('C'.map λi=>.int (topT qv (λi=>a i-b i) i)) [] [.emp,.val (.int (botm qv λi=>a i-b i))]=ZY (.ok ('C'.map λi=>.bl (!decide (topT qv (λi=>a i-b i) i % (botm qv λi=>a i-b i)=0))),aaa .emp ('C'.map λi=>.int (topT qv (λi=>a i-b i) i))::[.val (.int (botm qv λi=>a i-b i))]):=by
  rw[ou (f:=λd=>match d with |.int x=>.bl (!decide (x % (botm qv λi=>a i-b i)=0)) |_=>.non)]
  ·rw[bQ,dR];rfl
  ·intro d hd;obtain⟨k,_,rfl⟩:=cJ.mp hd;have:=fm (topT qv (λi=>a i-b i) k)
   simp[yq,this];rfl
 have c2:compD (cj 0) (ret ZW) yp ('C'.map λi=>.int (topT qv (λi=>a i-b i) i)) [] [.emp,.val (.int (botm qv λi=>a i-b i))]=ZY (.ok ('C'.map λi=>.int (topT qv (λi=>a i-b i) i / botm qv λi=>a i-b i)),aaa .emp ('C'.map λi=>.int (topT qv (λi=>a i-b i) i))::[.val (.int (botm qv λi=>a i-b i))]):=by
  rw[ou (f:=λd=>match d with |.int x=>.int (x / (botm qv λi=>a i-b i)) |_=>.non)]
  ·rw[bQ,dR];rfl
  ·intro d hd;obtain⟨k,_,rfl⟩:=cJ.mp hd;have:=fd (topT qv (λi=>a i-b i) k)
   simp[yp,this]
 have l1:('C'.map λi=>D.bl (!decide (topT qv (λi=>a i-b i) i % (botm qv λi=>a i-b i)=0))).length<=capS:=by rw[aU,fU];exact bw (by omega)
 have l2:('C'.map λi=>D.int (topT qv (λi=>a i-b i) i / botm qv λi=>a i-b i)).length<=capS:=by rw[aU,fU];exact bw (by omega)
 have bo:vg ('C'.map λi=>D.bl (!decide (topT qv (λi=>a i-b i) i % (botm qv λi=>a i-b i)=0)))=ZY ('C'.map λi => !decide (topT qv (λi=>a i-b i) i % (botm qv λi=>a i-b i)=0)):=by
  have:=afs ('C'.map λi => !decide (topT qv (λi=>a i-b i) i % (botm qv λi=>a i-b i)=0))
  rwa[dR] at this
 have an:('C'.map λi => !decide (topT qv (λi=>a i-b i) i % (botm qv λi=>a i-b i)=0)).any id = !(aD qv.length).all (λi=>decide (topT qv (λi=>a i-b i) i % (botm qv λi=>a i-b i)=0)):=by
  rw[List.any_map,List.not_all_eq_any_not];rfl
 have a0:∀x y:D,atI [x,y] 0=ZY x:=λx y=>by simp[atI,ixN]
 have a1:∀x y:D,atI [x,y] 1=ZY y:=λx y=>by simp[atI,ixN]
 unfold dueD;unfold tpD at *;generalize 'C'.all (λi=>decide (topT qv (λi=>a i-b i) i % (botm qv λi=>a i-b i)=0))=q at *
 generalize 'C'.map (λi=>D.bl (!decide (topT qv (λi=>a i-b i) i % (botm qv λi=>a i-b i)=0)))=B1 at *
 generalize 'C'.map (λi=>D.int (topT qv (λi=>a i-b i) i / botm qv λi=>a i-b i))=B2 at *
 cases q
 ·simp[nu,aac,e1,e2,e3,e4,a0,a1,c1,l1,bo,an]
 ·simp[nu,aac,e1,e2,e3,e4,a0,a1,c1,c2,l1,l2,bo,an]
end
def amj(hw:∀j,j<n->0<=w j/\w j<=1000000000000000000000000000000):wkT n (tpD n w)=ZW:=by
 show(decide (_=n)&&List.all _ _)=ZW;rw[ir n w,decide_eq_true rfl,sO,qK];refine cL.mpr λj hj=>?_
 have:=hw j (fY.mp hj);show(decide (0<=w j)&&decide (w j<=1000000000000000000000000000000))=ZW;simp[this]
def Lk(qv:LL9)(b:Bool)(O:Out Rv):Prop:=(∃r,O=.ok r/\b=ZW/\mz qv=[])∨∃x,O=.exc x/\rws qv b=.exc x
def Lk.en(k:Lk qv b O):En3 O/\tdD O=tdD (rws qv b):=by
 rcases k with⟨r,rfl,rfl,ht⟩ |⟨x,rfl,e⟩
 ·refine⟨.ok r,?_⟩;unfold rws opn;rw[ht];rfl
 ·refine⟨?_,by rw[e]⟩
  unfold rws opn at e;cases b with
  |false=>
   rw[<-e];exact .nw
  |true=>
   cases ht:mz qv with
   |nil=>rw[ht] at e;cases e
   |cons i r=>
    rw[ht] at e;rw[<-e];exact .no i
section
variable{qv:LL9}(h:Hs qv)
include h
theorem ai4(e:rws qv (wkT qv.length A&&wkT qv.length B)=.exc x):j6 [.val (hD qv),.val A,.val B]=ZY (.exc x,[.val (hD qv),.val A,.val B]):=by
 have e1:=aof h A B;rw[e] at e1;simp[j6,adx,e1]
theorem ah4(e:rws qv (wkT qv.length A&&wkT qv.length B)=.exc x):km [.val (hD qv),.val A,.val B]=ZY (.exc x,[.val (hD qv),.val A,.val B]):=by
 have e1:=ai4 h e;simp[km,ady,e1]
theorem ai2(e:rws qv (wkT qv.length A)=.exc x):jk [.val (hD qv),.val A,.val Z]=ZY (.exc x,[.val (hD qv),.val A,.val Z]):=by
 have e1:=agf h A;rw[e] at e1;simp[jk,aav,e1]
theorem ali(e:rws qv (wkT qv.length A)=.exc x):jx [.val (hD qv),.val A]=ZY (.exc x,[.val (hD qv),.val A]):=by
 have e1:=agf h A;rw[e] at e1;simp[jx,aci,e1]
theorem agw(e:rws qv (wkT qv.length A)=.exc x):f_settled [.val (hD qv),.val A]=ZY (.exc x,[.val (hD qv),.val A]):=by
 have e1:=agf h A;rw[e] at e1;simp[f_settled,ahj,e1]
theorem atn(e:rws qv ZW=.exc x):jy [.val (hD qv)]=ZY (.exc x,[.val (hD qv)]):=by
 have e1:=agh h;rw[show opn qv=.exc x from e] at e1
 simp[jy,acj,e1]
theorem axc(e:rws qv ZW=.exc x):ig [.val (hD qv)]=ZY (.exc x,[.val (hD qv)]):=by
 have e1:=agh h;rw[show opn qv=.exc x from e] at e1
 simp[ig,ym,e1]
end
section
variable{qv:LL9}(h:Hs qv)(hop:mz qv=[]){a b:Rw}
variable(ha:∀j,j<qv.length->0<=a j/\a j<=1000000000000000000000000000000)(hb:∀j,j<qv.length->0<=b j/\b j<=1000000000000000000000000000000)(h5:qv.length<=5)
include h hop ha
theorem asw:dh [.val (hD qv),.val (.lst [tpD qv.length a])]=ZY (.ok (.v .non),[.val (hD qv),.val (.lst [tpD qv.length a])]):=by
 have e:=agf h (tpD qv.length a);rw[amj ha] at e;unfold rws opn at e;rw[hop] at e;exact e
include hb h5
theorem ayg:j6 [.val (hD qv),.val (tpD qv.length a),.val (tpD qv.length b)]=ZY (.ok (.v (dueD qv λi=>a i-b i)),[.val (hD qv),.val (tpD qv.length a),.val (tpD qv.length b)]):=by
 have e1:=aof h (tpD qv.length a) (tpD qv.length b);rw[amj ha,amj hb] at e1;unfold rws opn at e1;rw[hop] at e1;have e2:=aqx h hop h5 a b hb;simp at e1;simp[j6,adx,e1,e2]
theorem ayf:km [.val (hD qv),.val (tpD qv.length a),.val (tpD qv.length b)]=ZY (.ok (.v (.bl (!isN (dueD qv λi=>a i-b i)))),[.val (hD qv),.val (tpD qv.length a),.val (tpD qv.length b)]):=by
 have e1:=ayg h hop ha hb h5;simp[km,ady,e1]
end
section
variable{qv:LL9}(h:Hs qv)(hop:mz qv=[])
include h hop
theorem ao2(w:Rw)(hZ:Z=tpD qv.length (λ_=>0)∨Z=rwD qv.length λ_=>0):ad3 [.val (hD qv),.val (tpD qv.length w),.val Z]=ZY (.ok (.fr ('C'.map λj=>.int (w j))),[.val (hD qv),.val (tpD qv.length w),.val Z]):=by
 have hm:=h.most;have e1:=lg h;have ml:=qu qv.length qv.length (dsq qv);have zl:=ir qv.length λ_=>0
 have hz:(qi 'B' ('C'.map λ_=>D.int 0)).length=qv.length:=by unfold qi;rw[gB,ml,zl];omega
 have loop:=xf (b:=bTup 2 (jl (cj 4) (jl (cj 5) bNil))) (g:=aj0) (λ_ ρ=>∃o4 o5,ρ=[.val (hD qv),.val (tpD qv.length w),.val Z,.own ZX ('C'.map λj=>.int (w j)),o4,o5])
  (l:=qi 'B' ('C'.map λ_=>D.int 0)) (ρ:=[.val (hD qv),.val (tpD qv.length w),.val Z,.own ZX ('C'.map λj=>.int (w j)),.emp,.emp]) 0 ⟨.emp,.emp,rfl⟩ ?_
 ·obtain⟨ρ',e,o4,o5,rfl⟩:=loop;have wl:=ir qv.length w;have hc:('C'.map λj=>D.int (w j)).length<=capS:=by rw[wl];exact bw (by omega)
  have hle:(mtD qv.length qv.length (dsq qv)).length<=('C'.map λ_=>D.int 0).length:=by omega
  rcases hZ with rfl |rfl
  ·unfold tpD at *;generalize 'C'.map (λ_=>D.int 0)=ZZ at *
   simp[ad3,anj,hc,e1,hle,e]
  ·unfold tpD rwD at *;generalize 'C'.map (λ_=>D.int 0)=ZZ at *
   simp[ad3,anj,hc,e1,hle,e]
 ·rintro t d ρ hd ⟨o4,o5,rfl⟩
  have ht:t<qv.length:=by
   have:=(aJ.mp hd).1;omega
  have ed:d=.tup [rwD qv.length (dsq qv t),.int 0]:=by
   unfold qi mtD at hd;rw[jO,aV,aV,bZ ht] at hd;exact(bJ hd).symm
  subst ed;have m:=mBig;have e2:=ajy (n:=qv.length) (by omega) w (dsq qv t) 0 (by omega) λj _=>by
   have:=ay8 h hop (j:=j) ht;omega
  have e0:('C'.map λj=>D.int (w j-0*dsq qv t j))='C'.map λj=>D.int (w j):=gA λj _=>by rw[fK,wJ]
  rw[e0] at e2;refine⟨[.val (hD qv),.val (tpD qv.length w),.val Z,.own ZX ('C'.map λj=>.int (w j)),.val (rwD qv.length (dsq qv t)),.val (.int 0)],[.val (hD qv),.val (tpD qv.length w),.val Z,.own ZX ('C'.map λj=>.int (w j)),.val (rwD qv.length (dsq qv t)),.val (.int 0)],by simp,.inl ?_,_,_,rfl⟩
  unfold rwD at e2 ⊢
  simp[aj0,e2]
theorem avn(ha:∀j,j<qv.length->0<=a j/\a j<=1000000000000000000000000000000):jk [.val (hD qv),.val (tpD qv.length a),.val (tpD qv.length λ_=>0)]=ZY (.ok (.v (tpD qv.length a)),[.val (hD qv),.val (tpD qv.length a),.val (tpD qv.length λ_=>0)]):=by
 have hm:=h.most;have e1:=asw h hop ha;have e2:=ao2 h hop a (.inl rfl);have hc:('C'.map λj=>D.int (a j)).length<=capS:=by rw[ir];exact bw (by omega)
 unfold tpD at *;simp[jk,aav,e1,e2,hc]
end
def dl(qv:LL9)(i:Nat):Int:=((dr qv (i:Int)).length:Int)
section
variable{qv:LL9}(h:Hs qv)(hop:mz qv=[])
include h
theorem aza(hi:i<qv.length):1<=dl qv i:=by
 have e:dr qv (i:Int)=qv[i]:=by
  unfold dr;rw[cN,aY,aG hi];rfl
 have:=(h.room _ (gQ hi)).1;unfold dl;rw[e];omega
theorem ap1(w:Rw):∃q1 q2,compD (bTup 2 (jl (cj 0) (jl (cj 1) bNil))) (ret ZW) yx (qi ('C'.map λj=>D.int (w j)) (hDs qv)) [] [.emp,.emp]=ZY (.ok ('C'.map λj=>.int (w j-dl qv j+1)),[q1,q2]):=by
 have lw:=ir qv.length w;have hl:=yl qv;have hz:(qi ('C'.map λj=>D.int (w j)) (hDs qv)).length=qv.length:=by unfold qi;rw[gB,lw,hl];omega
 have comp:=u9 (b:=bTup 2 (jl (cj 0) (jl (cj 1) bNil))) (mc:=ret ZW) (me:=yx) (λj ys ρ=>∃o1 o2:Sl,ρ=[o1,o2]/\ys=(aD j).map λj=>.int (w j-dl qv j+1))
  (l:=qi ('C'.map λj=>D.int (w j)) (hDs qv)) (ys:=[]) (ρ:=[.emp,.emp]) 0 ⟨.emp,.emp,rfl,rfl⟩ ?_
 ·obtain⟨ys,ρ',e6,o1,o2,rfl,rfl⟩:=comp;rw[hz,cT] at e6;exact⟨o1,o2,e6⟩
 ·rintro j z ys ρ hd ⟨o1,o2,rfl,rfl⟩
  have hj:j<qv.length:=by
   have:=(aJ.mp hd).1;omega
  have ed:z=.tup [.int (w j),.tup ((dr qv (j:Int)).map D.int)]:=by
   unfold qi at hd;rw[jO,aV,bZ hj,ay1 hj] at hd;exact(bJ hd).symm
  subst ed;have dn:((dr qv (j:Int)).map D.int).length=(dr qv (j:Int)).length:=aU ..
  refine⟨[.val (.int (w j)),.val (.tup ((dr qv (j:Int)).map D.int))],_,ZW,by simp,rfl,.inr ⟨rfl,.int (w j-dl qv j+1),[.val (.int (w j)),.val (.tup ((dr qv (j:Int)).map D.int))],?_,_,_,rfl,?_⟩⟩
  ·unfold dl;simp[yx,dn]
  ·rw[cT,jE,dU];rfl
include hop
theorem azw(hc:∀i,i<qv.length->c i<=0):∀i,i<qv.length->topT qv c i<=0:=λi hi=>by
 have b:=(afr h hop c).1;have:=a2j h hop (v:=λi => -1*topT qv c i) (λj hj=>by
  rw[auw,aro h hop c j hj];have:=vD (show 0 <= -c j by have:=hc j hj;omega) (show 0<=botm qv c by omega)
  rw[pK] at this;omega) i hi
 omega
theorem aru(h5:qv.length<=5):xu [.val (hD qv),.val (tpD qv.length λ_=>0)]=ZY (.ok (.fr ('C'.map λ_=>.int 0)),[.val (hD qv),.val (tpD qv.length λ_=>0)]):=by
 have hm:=h.most;obtain⟨q1,q2,e1⟩:=ap1 h λ_=>0
 have e2:=lg h;have e3:=ac4 (n:=qv.length) (A:=dsq qv) (by omega)
 have hneg:∀i,i<qv.length->0-dl qv i+1<=0:=λi hi=>by have:=aza h hi;omega
 generalize hc:(λi=>0-dl qv i+1)=c at *
 have hc':∀i,0-dl qv i+1=c i:=λi=>by rw[<-hc]
 simp only[hc'] at e1 hneg;have e4:=aik h hop c h5;have b0:=afr h hop c;have tn:=azw h hop hneg;have e5:∀x,compD (cj 0) (ret ZW) abp ('C'.map λi=>.int (topT qv c i)) [] [.emp,.val (.tup [.lst x,.int (botm qv c)])]=ZY (.ok ('C'.map λ_=>.int 0),aaa .emp ('C'.map λi=>.int (topT qv c i))::[.val (.tup [.lst x,.int (botm qv c)])]):=λx=>by
  rw[ou (f:=λ_=>.int 0)]
  ·rw[bQ,dR];rfl
  ·intro d hd;obtain⟨i,hi,rfl⟩:=cJ.mp hd;have t0:=tn i (fY.mp hi);generalize topT qv c i=t at *;generalize botm qv c=B at *;have fd:fDiv (-t) B=ZY ((-t) / B):=by unfold fDiv;rw[if_pos ⟨by omega,by omega⟩]
   have e7:atI [D.lst x,D.int B] 1=ZY (.int B):=rfl;have nn:0 <= -t / B:=Ac (by omega) (by omega)
   have nn2:¬ -t / B<0:=by omega
   simp[abp,e7,fd,nn2]
 have lw:=ir qv.length λ_=>0
 have hl:=yl qv;have l1:=ir qv.length c;have l3:=ir qv.length (topT qv c);have c1:('C'.map λj=>D.int (c j)).length<=capS:=by rw[l1];exact bw (by omega)
 have c2:('C'.map λ_=>D.int 0).length<=capS:=by rw[lw];exact bw (by omega)
 have hle:('C'.map λ_=>D.int 0).length<=(hDs qv).length:=by omega
 have et:(λi j=>dsq qv j i)=trq qv:=rfl
 rw[et] at e3;have e5':=e5 ('C'.map λi=>.int (topT qv c i))
 unfold tpD;generalize 'C'.map (λi=>D.int (topT qv c i))=z2 at *
 generalize 'C'.map (λj=>D.int (c j))=z3 at *
 generalize 'C'.map (λ_=>D.int 0)=z4 at *
 generalize botm qv c=B at *;have e7:atI [D.lst z2,D.int B] 0=ZY (.lst z2):=rfl;simp only[hD] at *;simp[xu,af5,hle,e1,c1,e2,e3,e4,e7,e5',c2]
omit hop in
theorem ax2(hr:r<qv.length):aad [.val (.int (r:Int)),.val (.tup ((dr qv (r:Int)).map D.int)),.val (.int 0)]=ZY (.ok (.v (.int 0)),[.val (.int (r:Int)),.val (.tup ((dr qv (r:Int)).map D.int)),.val (.int 0)]):=by
 have dn:((dr qv (r:Int)).map D.int).length=(dr qv (r:Int)).length:=aU ..
 have q:(0:Int)<((dr qv (r:Int)).length:Int):=by have:=aza h hr;unfold dl at this;omega
 generalize (dr qv (r:Int)).length=ln at *;have q2:0<ln:=by omega
 simp[aad,ahk,dn,q2]
theorem akx(h5:qv.length<=5):∃r,f_settled [.val (hD qv),.val (tpD qv.length λ_=>0)]=ZY (.ok r,[.val (hD qv),.val (tpD qv.length λ_=>0)]):=by
 have hm:=h.most;have hl:=yl qv;have e1:=asw h hop (a:=λ_=>0) λ_ _=>by omega
 have e2:=aru h hop h5;have e3:=ao2 h hop (λ_=>0) (.inr rfl)
 have e4:=lg h;have one:∀o6 o7 o8:Sl,∃p6 p7 p8,w1_settled [.val (hD qv),.val (tpD qv.length λ_=>0),.val (rwD qv.length λ_=>0),.own ZX ('C'.map λ_=>.int 0),.own ZX 'B',.val (.bl ZW),o6,o7,o8]=ZY (.nx,[.val (hD qv),.val (tpD qv.length λ_=>0),.val (rwD qv.length λ_=>0),.own ZX ('C'.map λ_=>.int 0),.own ZX 'B',.val (.bl ZV),p6,p7,p8]):=λo6 o7 o8=>by
  have loop:=xf (b:=bTup 2 (jl (cj 6) (jl (cj 7) bNil))) (g:=afh) (λ_ ρ=>∃p6 p7 p8,ρ=[.val (hD qv),.val (tpD qv.length λ_=>0),.val (rwD qv.length λ_=>0),.own ZX ('C'.map λ_=>.int 0),.own ZX 'B',.val (.bl ZV),p6,p7,p8])
   (l:=ac3 (hDs qv)) (ρ:=[.val (hD qv),.val (tpD qv.length λ_=>0),.val (rwD qv.length λ_=>0),.own ZX ('C'.map λ_=>.int 0),.own ZX 'B',.val (.bl ZV),o6,o7,o8]) 0 ⟨o6,o7,o8,rfl⟩ ?_
  ·obtain⟨ρ',e,p6,p7,p8,rfl⟩:=loop;refine⟨p6,p7,p8,?_⟩;simp only[hD] at *;simp[w1_settled,e]
  ·rintro t d ρ hd ⟨p6,p7,p8,rfl⟩
   obtain⟨d0,g1,rfl⟩:=aaf hd;have ht:t<qv.length:=by
    have:=(aJ.mp g1).1;omega
   rw[ay1 ht] at g1;have ed:d0=.tup ((dr qv (t:Int)).map D.int):=(bJ g1).symm;subst ed;have k1:=ax2 h ht;have x1:=zu (r:=λ_=>0) ht
   refine⟨[.val (hD qv),.val (tpD qv.length λ_=>0),.val (rwD qv.length λ_=>0),.own ZX ('C'.map λ_=>.int 0),.own ZX 'B',.val (.bl ZV),.val (.int (t:Int)),.val (.tup ((dr qv (t:Int)).map D.int)),p8],[.val (hD qv),.val (tpD qv.length λ_=>0),.val (rwD qv.length λ_=>0),.own ZX ('C'.map λ_=>.int 0),.own ZX 'B',.val (.bl ZV),.val (.int (t:Int)),.val (.tup ((dr qv (t:Int)).map D.int)),.val (.int 0)],by simp,.inl ?_,_,_,_,rfl⟩
   simp[afh,x1,k1]
 obtain⟨p6,p7,p8,o⟩:=one .emp .emp .emp;have wh:whileD ae4 w1_settled fuel [.val (hD qv),.val (tpD qv.length λ_=>0),.val (rwD qv.length λ_=>0),.own ZX ('C'.map λ_=>.int 0),.own ZX 'B',.val (.bl ZW),.emp,.emp,.emp]=ZY (.nx,[.val (hD qv),.val (tpD qv.length λ_=>0),.val (rwD qv.length λ_=>0),.own ZX ('C'.map λ_=>.int 0),.own ZX 'B',.val (.bl ZV),p6,p7,p8]):=by
  have ef:∃n,fuel=n+2:=⟨fuel-2,by unfold fuel;decide⟩
  obtain⟨n,ef⟩:=ef;rw[ef];unfold whileD;simp only[ae4,ab1];simp[o];unfold whileD;simp
 have hc:('C'.map λ_=>D.int 0).length<=capS:=by rw[ir qv.length λ_=>0];exact bw (by omega)
 have ai:('C'.map λ_=>D.int 0).all isI=ZW:=cL.mpr λd hd=>by
  obtain⟨_,_,rfl⟩:=cJ.mp hd;rfl
 unfold rwD at *;refine⟨.v (.tup [.tup ('C'.map λ_=>.int 0),.tup ('C'.map λ_=>.int 0)]),?_⟩
 simp[f_settled,ahj,e1,e2,e3,e4,wh,hc]
end
def auz(n:Nat)(F:Nat->Rw)(hme:∀t,t<n->me [.val (.int (t:Int)),.val (rwD n (F t))]=ZY (.ok (.int (F t t)),[.val (.int (t:Int)),.val (rwD n (F t))])):∃q1 q2,compD (bTup 2 (jl (cj 0) (jl (cj 1) bNil))) (ret ZW) me (ac3 ((aD n).map λt=>rwD n (F t))) [] [.emp,.emp]=ZY (.ok ((aD n).map λt=>D.int (F t t)),[q1,q2]):=by
 have comp:=u9 (b:=bTup 2 (jl (cj 0) (jl (cj 1) bNil))) (mc:=ret ZW) (me:=me) (λj ys ρ=>∃o1 o2:Sl,ρ=[o1,o2]/\ys=(aD j).map λt=>D.int (F t t))
  (l:=ac3 ((aD n).map λt=>rwD n (F t))) (ys:=[]) (ρ:=[.emp,.emp]) 0 ⟨.emp,.emp,rfl,rfl⟩ ?_
 ·obtain⟨ys,ρ',e6,o1,o2,rfl,rfl⟩:=comp;rw[aae,aU,fU,cT] at e6;exact⟨o1,o2,e6⟩
 ·rintro t z ys ρ hd ⟨o1,o2,rfl,rfl⟩
  obtain⟨d0,g1,rfl⟩:=aaf hd;have ht:t<n:=by
   have:=(aJ.mp g1).1
   simpa using this
  rw[aV,bZ ht] at g1;have ed:d0=rwD n (F t):=(bJ g1).symm;subst ed;rw[cT];refine⟨[.val (.int (t:Int)),.val (rwD n (F t))],_,ZW,by simp,rfl,.inr ⟨rfl,_,_,hme t ht,_,_,rfl,?_⟩⟩
  rw[jE,dU];rfl
section
variable{qv:LL9}(h:Hs qv)(hop:mz qv=[])
include h hop
theorem a1h:ig [.val (hD qv)]=ZY (.ok (.v (.int (botm qv λ_=>0))),[.val (hD qv)]):=by
 have e1:=afi h hop;have e2:=lg h;have e3:=aif h hop;simp[ig,ym,e1,e2,e3]
variable(h6:qv.length<=6)
include h6
theorem axl{G:Nat->Rw}(eG:yu [.val (.lst 'B')]=ZY (.ok (.fr ('C'.map λt=>rwD qv.length (G t))),[.val (.lst 'B')])):jy [.val (hD qv)]=ZY (.ok (.v (tpD qv.length λt=>G t t)),[.val (hD qv)]):=by
 have e1:=afi h hop;have e2:=lg h;obtain⟨q1,q2,e3⟩:=auz (me:=abq) qv.length G λt ht=>by
  have x2:=zu (r:=G t) ht;unfold rwD;simp[abq,x2]
 have hc:('C'.map λt=>D.int (G t t)).length<=capS:=by rw[ir qv.length λt=>G t t];exact bw (by omega)
 have hc2:('C'.map λt=>rwD qv.length (G t)).length<=capS:=by rw[aU,fU];exact bw (by omega)
 unfold tpD;generalize 'C'.map (λt=>D.int (G t t))=DD at *
 simp[jy,acj,e1,e2,eG,e3,hc]
theorem like_eq(eG:yu [.val (.lst 'B')]=ZY (.ok (.fr ('C'.map λt=>rwD qv.length (G t))),[.val (.lst 'B')]))(T:Tri qv.length qv.length G)(bG:∀t,t<qv.length->∀j,j<qv.length->(G t j).natAbs<=Yb (t+1))(bd:∀t,t<qv.length->(G t t).natAbs<bgD)(hv:∀j,j<qv.length->0<=v j/\v j<=1000000000000000000000000000000) :
  jx [.val (hD qv),.val (tpD qv.length v)]=ZY (.ok (.v (tpD qv.length (rd G v qv.length))),[.val (hD qv),.val (tpD qv.length v)]):=by
 have e1:=asw h hop hv;have e2:=lg h;have e3:=anb h6 T bG bd (v:=v) λj hj=>by have:=hv j hj;omega
 have hc:('C'.map λj=>D.int (rd G v qv.length j)).length<=capS:=by rw[ir qv.length (rd G v qv.length)];exact bw (by omega)
 unfold tpD at *;simp[jx,aci,e1,e2,eG,e3,hc]
theorem a3k:∃G:Nat->Rw,yu [.val (.lst 'B')]=ZY (.ok (.fr ('C'.map λt=>rwD qv.length (G t))),[.val (.lst 'B')])/\Tri qv.length qv.length G/\(∀t,t<qv.length->∀j,j<qv.length->(G t j).natAbs<=Yb (t+1))/\∀t,t<qv.length->(G t t).natAbs<bgD:=by
 obtain⟨G,eG,T,sG,bG⟩:=arv h hop h6;refine⟨G,eG,T,bG,λt ht=>?_⟩
 obtain⟨c,e⟩:=awa T ((sG _).mpr (arh h hop (a:=t))) ht λj hj=>by
  show botm qv (unit t)*unit t j=0;have:unit t j=0:=by unfold unit;rw[if_neg (by omega)]
  rw[this,dJ]
 have e:botm qv (unit t)*unit t t=G t t*c:=e;have u:unit t t=1:=by unfold unit;rw[if_pos rfl]
 rw[u,Int.mul_one] at e;have b:=afr h hop (unit t);have p:=T.pos t ht;have c1:1<=c:=by
  by_cases z:c<=0
  ·have:=vD (show 0<=G t t by omega) (show 0 <= -c by omega)
   rw[iU] at this;omega
  ·omega
 have m:=tZ c1 (show 0<=G t t by omega)
 have d:60466176<bgD:=by
  unfold bgD;exact bN (show 60466176<2 ^ 30 by decide) (eX (by decide) (by decide))
 omega
end
def azu:tpD qv.length (λ_=>0)=.tup (aK (hDs qv).length (.int 0)):=by
 unfold tpD;rw[uI,fU,yl]
def W7(w:Int):Prop:=w=0∨w=1∨w=2∨w=3∨w=4∨w=5∨w=6
section
variable{qv:LL9}(h:Hs qv)
include h
theorem a1n:1<=(hDs qv).length/\(hDs qv).length<=100:=by
 have:=h.one;have:=h.most;rw[yl];omega
omit h in
theorem adb(e:tB [.val w,.val hh,.val A,.val B,.emp]=ZY (endO (.ok r),[.val w,.val hh,.val A,.val B,.emp])):fu [.val w,.val hh,.val A,.val B]=ZY (.ok (.v (.tup [.str "told", .int 0])),[.val w,.val hh,.val A,.val B]):=pq (.ok r) e
theorem awb(hA:wkT qv.length A=ZV)(B:D)(hw:W7 w)(h5:w<5):fu [.val (.int w),.val (hD qv),.val A,.val B]=ZY (.ok (.v (.tup [.str "walkers", .int 0])),[.val (.int w),.val (hD qv),.val A,.val B]):=by
 have r1:rws qv (wkT qv.length A)=.exc ⟨"NoWalkers", []⟩:=by rw[hA];rfl
 have r2:rws qv (wkT qv.length A&&wkT qv.length B)=.exc ⟨"NoWalkers", []⟩:=by rw[hA];rfl
 rcases hw with rfl |rfl |rfl |rfl |rfl |rfl |rfl
 ·exact pq .nw (way0 rfl (a1n h) rfl (ai2 h r1))
 ·exact pq .nw (way1 (ali h r1))
 ·exact pq .nw (way2 (agw h r1))
 ·exact pq .nw (way3 (ah4 h r2))
 ·exact pq .nw (way4 (ai4 h r2))
 ·exact absurd h5 (by decide)
 ·exact absurd h5 (by decide)
theorem arp(hA:wkT qv.length A=ZW)(hB:wkT qv.length B=ZV)(hw:w=3∨w=4):fu [.val (.int w),.val (hD qv),.val A,.val B]=ZY (.ok (.v (.tup [.str "walkers", .int 0])),[.val (.int w),.val (hD qv),.val A,.val B]):=by
 have r2:rws qv (wkT qv.length A&&wkT qv.length B)=.exc ⟨"NoWalkers", []⟩:=by rw[hA,hB];rfl
 rcases hw with rfl |rfl
 ·exact pq .nw (way3 (ah4 h r2))
 ·exact pq .nw (way4 (ai4 h r2))
theorem acs(h5:qv.length<=5)(ha:∀j,j<qv.length->0<=a j/\a j<=1000000000000000000000000000000)(hb:∀j,j<qv.length->0<=b j/\b j<=1000000000000000000000000000000)(hw:W7 w)(h2:w=2->a=λ_=>0):fu [.val (.int w),.val (hD qv),.val (tpD qv.length a),.val (tpD qv.length b)]=ZY (.ok (.v (tdD (opn qv))),[.val (.int w),.val (hD qv),.val (tpD qv.length a),.val (tpD qv.length b)]):=by
 have r1:rws qv (wkT qv.length (tpD qv.length a))=opn qv:=by rw[amj ha];rfl
 have r2:rws qv (wkT qv.length (tpD qv.length a)&&wkT qv.length (tpD qv.length b))=opn qv:=by rw[amj ha,amj hb];rfl
 have r3:rws qv ZW=opn qv:=rfl;cases ht:mz qv with
 |cons i r=>
  have eo:opn qv=.exc ⟨"NotOpen", [("room", i)]⟩:=by unfold opn;rw[ht]
  rw[eo] at r1 r2 r3 ⊢
  rcases hw with rfl |rfl |rfl |rfl |rfl |rfl |rfl
  ·exact pq (.no i) (way0 rfl (a1n h) rfl (ai2 h r1))
  ·exact pq (.no i) (way1 (ali h r1))
  ·exact pq (.no i) (way2 (agw h r1))
  ·exact pq (.no i) (way3 (ah4 h r2))
  ·exact pq (.no i) (way4 (ai4 h r2))
  ·exact pq (.no i) (way5 (atn h r3))
  ·exact pq (.no i) (way6 (axc h r3))
 |nil=>
  have eo:opn qv=.ok (.v .non):=by unfold opn;rw[ht]
  rw[eo];show _=ZY (Out.ok (Rv.v (.tup [.str "told", .int 0])),_);obtain⟨G,eG,T,bG,bd⟩:=a3k h ht (by omega)
  rcases hw with rfl |rfl |rfl |rfl |rfl |rfl |rfl
  ·have e:=avn h ht ha;rw[azu] at e;exact adb (way0 rfl (a1n h) rfl e)
  ·exact adb (way1 (like_eq h ht (by omega) eG T bG bd ha))
  ·obtain⟨r,e⟩:=akx h ht h5;rw[h2 rfl];exact adb (way2 e)
  ·exact adb (way3 (ayf h ht ha hb h5))
  ·exact adb (way4 (ayg h ht ha hb h5))
  ·exact adb (way5 (axl h ht (by omega) eG))
  ·exact adb (way6 (a1h h ht))
end
theorem aig(n:Nat):(aK n [D.int 0]).flatten=(aK n (0:Int)).map D.int:=by
 rw[rT]
 induction n with
 |zero=>rfl
 |succ n ih=>rw[fG,jZ,ih,fG];rfl
def ako(hl:l.length≠n):wkT n (.tup l)=ZV:=by
 show(decide (l.length=n)&&_)=ZV;rw[decide_eq_false hl];rfl
def av4(hm:d∈l)(hd:tu 0 1000000000000000000000000000000 d=ZV):wkT n (.tup l)=ZV:=by
 show(decide (l.length=n)&&l.all (tu 0 1000000000000000000000000000000))=ZV;rw[wL]
 right
 rw[List.all_eq_false];exact⟨d,hm,by rw[hd];exact cM⟩
def aa4(h0:k.natAbs<=1000):aj4 (.tup [.int 0]) (.int k)=ZY (.v (.tup ((aK k.toNat (0:Int)).map D.int))):=by
 by_cases q:k<=0
 ·rw[at6 _ (by simp) q (by omega),show k.toNat=0 by omega]
  rfl
 ·rw[alo _ (by omega),ao6]
  by_cases q1:k=1
  ·rw[if_pos q1,q1];rfl
  ·rw[if_neg q1,if_pos ⟨by simp,by omega,by omega,bw (by simp;omega)⟩,aig]
def as8{k:Nat}(h1:1<=k)(h0:k<=1000):gMul (.tup [.int 0]) (.int (k:Int))=ZY (.v (.tup ((aK k (0:Int)).map D.int))):=by
 have:=aa4 (k:=(k:Int)) (by omega)
 rw[alo _ (by omega)] at this
 exact this
def ahb(P:Int×Int)(h:Hs qv):∃d P',f__law_no_walkers [.own (ZY 0) (pen P),.val (hD qv)]=ZY (.ok (.v d),[.own (ZY 0) (pen P'),.val (hD qv)])/\wkT qv.length d=ZV:=by
 have hm:=h.most;have h1':=h.one;obtain⟨k,P1,e1,k0,k1⟩:=uf P (qv.length:Int) (by omega) (by omega)
 obtain⟨r2,P2,e2,r2a,r2b⟩:=uf P1 7 (by decide) (by decide)
 obtain⟨r3,P3,e3,r3a,r3b⟩:=uf P2 6 (by decide) (by decide)
 have p1:fPow 10 30=ZY 1000000000000000000000000000000:=by decide +kernel
 have ho:∃odd,atI [.int 1000000000000000000000000000001,.int (-1),.bl ZW,.non,.str "1", .tup [.int 1],.bl ZV] r2=ZY odd/\tu 0 1000000000000000000000000000000 odd=ZV:=avp (p:=λd=>tu 0 1000000000000000000000000000000 d=ZV) (fm1 rfl (fm1 rfl (fm1 rfl (fm1 rfl (fm1 rfl (fm1 rfl (fm1 rfl fn0))))))) r2a r2b
 obtain⟨odd,eo,hodd⟩:=ho;have z1:=aa4 (k:=(qv.length:Int)+1) (by omega)
 have z2:=aa4 (k:=(qv.length:Int)-1) (by omega)
 have z3:=aa4 (k:=k) (by omega)
 have z4:=aa4 (k:=(qv.length:Int)-1-k) (by omega)
 have y1:((aK ((qv.length:Int)+1).toNat (0:Int)).map D.int).length=qv.length+1:=by rw[aU,iI];omega
 have y2:((aK ((qv.length:Int)-1).toNat (0:Int)).map D.int).length=qv.length-1:=by rw[aU,iI];omega
 have y3:((aK k.toNat (0:Int)).map D.int).length=k.toNat:=by rw[aU,iI]
 have y4:((aK ((qv.length:Int)-1-k).toNat (0:Int)).map D.int).length=((qv.length:Int)-1-k).toNat:=by rw[aU,iI]
 have zf:=aig qv.length;generalize (aK ((qv.length:Int)+1).toNat (0:Int)).map D.int=t1 at *;generalize (aK ((qv.length:Int)-1).toNat (0:Int)).map D.int=t2 at *;generalize (aK k.toNat (0:Int)).map D.int=t3 at *;generalize (aK ((qv.length:Int)-1-k).toNat (0:Int)).map D.int=t4 at *;generalize hz0:(aK qv.length (0:Int)).map D.int=t0 at *;have hT:∃bad,atI [.tup t1,.tup t2,.lst t0,.non,.tup (t3++odd::t4),.dct []] r3=ZY bad/\wkT qv.length bad=ZV:=avp (p:=λd=>wkT qv.length d=ZV) (fm1 (ako (by omega)) (fm1 (ako (by omega)) (fm1 rfl (fm1 rfl (fm1 (av4 (d:=odd) (by simp) hodd) (fm1 rfl fn0)))))) r3a r3b
 obtain⟨bad,eb,hb⟩:=hT;have q1:t3.length+1<=capS:=bw (by omega)
 have q2:t3.length+1+t4.length<=capS:=bw (by omega)
 have q3:qv.length<9223372036854775808:=by omega
 have q4:qv.length<=capS:=bw (by omega)
 have hl3:=yl qv;refine⟨bad,P3,?_,hb⟩;simp only[hD] at *;simp[f__law_no_walkers,aa8,hl3,e1,e2,p1,eo,z1,z2,z3,z4,q1,q2,q3,q4,zf,e3,eb]
def a6z(h:Hs qv):compD (cj 0) ad8 ad5 (rangeD 0 qv.length) [] [.emp,.val (hD qv)]=ZY (.ok ((mz qv).map D.int),aaa .emp (rangeD 0 qv.length)::[.val (hD qv)]):=by
 rw[adm,yc (p:=λd=>match d with |.int k=>caught qv k |_=>ZV) (f:=id)]
 ·simp only[mz,uJ,pB,uH,bQ]
 ·intro d hd;obtain⟨k,hk,rfl⟩:=cJ.mp hd;obtain⟨ns,e,hne,hm⟩:=af1 h (S:=.val (hD qv)) (.inl rfl) (acw hk);have em:=ao7 hne;have:decide (0<=minI ns)=caught qv k:=by
   by_cases z:0<=minI ns
   ·have:caught qv k=ZW:=(sy qv k).mpr λx hx=>(agk hne).mp z x ((hm x).mpr hx)
    rw[this];simp[z]
   ·have:caught qv k=ZV:=zA.mpr λy=>z ((agk hne).mpr λx hx=>(sy qv k).mp y x ((hm x).mp hx))
    rw[this];simp[z]
  simp[ad8,e,em,this]
 ·intro d hd _;simp[ad5]
def a3m:mz [[0]]=[0]:=by
 have c:caught [[0]] 0=ZW:=(sy _ _).mpr λx hx=>by
  have:=aio (qv:=[[0]]) (ns:=[0]) (by simp) (λy hy hp d hd=>by
   simp at hy;subst hy
   simpa[dr] using hd) hx
  simp at this;omega
 have u:upto 1=[0]:=by rfl
 show(upto 1).filter (caught [[0]])=[0];rw[u];simp[c]
theorem aqk(h:Hs qv):zb [.val (hD qv)]=ZY (.ok (.v (tdD (opn qv))),[.val (hD qv)]):=by
 have hm:=h.most;have e1:=a6z h;have hl:=yl qv;have hb:qv.length<4611686018427387904:=by omega
 have tl:(mz qv).length<=qv.length:=by
  have:=gF (caught qv) (upto qv.length);have u:(upto qv.length).length=qv.length:=by simp[upto]
  rw[u] at this;exact this
 have hc:((mz qv).map D.int).length<=capS:=by rw[aU];exact bw (by omega)
 cases ht:mz qv with
 |nil=>
  have eo:opn qv=.ok (.v .non):=by unfold opn;rw[ht]
  rw[eo];rw[ht] at e1;have z:gEq ZW (.lst []) (.lst [])=ZY (.v (.bl ZV)):=ago ZW [] [];simp only[hD] at *;simp[zb,afl,hl,hb,e1,z,tdD]
 |cons i r=>
  have eo:opn qv=.exc ⟨"NotOpen", [("room", i)]⟩:=by unfold opn;rw[ht]
  rw[eo];rw[ht,bH] at e1 hc;have z:gEq ZW (.lst (D.int i::r.map D.int)) (.lst [])=ZY (.v (.bl ZW)):=ago ZW (i::r) [];have a0:atI (D.int i::r.map D.int) 0=ZY (.int i):=at0 _ _;generalize D.int i::r.map D.int=L at *;simp only[hD] at *;simp[zb,afl,hl,hb,e1,hc,z,a0,tdD]
theorem ax3(qv:LL9):gEq ZW (tdD (opn qv)) (tdD (opn qv))=ZY (.v (.bl ZV)):=by
 cases ht:mz qv with
 |nil=>
  have eo:opn qv=.ok (.v .non):=by unfold opn;rw[ht]
  rw[eo];show gEq ZW (.tup [.str "told", .int 0]) (.tup [.str "told", .int 0])=_;rw[auq];simp
 |cons i r=>
  have eo:opn qv=.exc ⟨"NotOpen", [("room", i)]⟩:=by unfold opn;rw[ht]
  rw[eo];show gEq ZW (.tup [.str "open", .int i]) (.tup [.str "open", .int i])=_;rw[aur];simp
def aqs(neg:Bool)(x y:Int):gEq neg (.tup [.str "walkers", .int x]) (.tup [.str "walkers", .int y])=ZY (.v (.bl (if neg then !decide (x=y) else decide (x=y)))):=at9 neg (by kernel_rfl) (by kernel_rfl) x y
def ay0(h1:1<=r.length)(h6:r.length<=6)(hr:∀x∈r,-3<=x/\x<1):Hs [r]:=⟨by simp,by simp,λr' hr'=>by
 rw[dW] at hr';rw[hr'];exact⟨h1,h6,hr⟩⟩
def ayj:∀w∈([0,1,2,3,4,5,6]:List Int),W7 w:=by
 unfold W7
 decide
def a6f(hw:W7 w)(nb:f__law_no_walkers [.own (ZY 0) (pen P),.val hh]=ZY (.ok (.v bad),[.own (ZY 0) (pen P'),.val hh]))(t1:w<5->fu [.val (.int w),.val hh,.val bad,.val good]=ZY (.ok (.v (.tup [.str "walkers", .int 0])),[.val (.int w),.val hh,.val bad,.val good]))
  (t2:w=3∨w=4->fu [.val (.int w),.val hh,.val good,.val bad]=ZY (.ok (.v (.tup [.str "walkers", .int 0])),[.val (.int w),.val hh,.val good,.val bad])) (t3:fu [.val (.int w),.val hh,.val (if w=2 then good else great),.val great]=ZY (.ok (.v due),[.val (.int w),.val hh,.val (if w=2 then good else great),.val great])) (t4:fu [.val (.int w),.val hh,.val good,.val (if w=2 then good else great)]=ZY (.ok (.v due),[.val (.int w),.val hh,.val good,.val (if w=2 then good else great)])) (q:gEq ZW due due=ZY (.v (.bl ZV))) (c0 c2 o8 o9:Sl) :
  aou [c0,.val (.int w),c2,.own ZX (pen P),.val hh,.val good,.val great,.val due,o8,o9]=ZY (.nx,[c0,.val (.int w),c2,.own ZX (pen P'),.val hh,.val good,.val great,.val due,.val bad,.val (if w=2 then good else great)]):=by
 have qw:=aqs ZW 0 0;have i:gIn ZV (.int w) (.tup [.int 3,.int 4])=ZY (.v (.bl (decide (w=3∨w=4)))):=by rcases hw with rfl |rfl |rfl |rfl |rfl |rfl |rfl <;> kernel_rfl
 unfold aou;refine(seq2 (ρ':=[c0,.val (.int w),c2,.own ZX (pen P'),.val hh,.val good,.val great,.val due,.val bad,o9]) (by simp[nb])).trans ?_
 refine(seq2 (ρ':=[c0,.val (.int w),c2,.own ZX (pen P'),.val hh,.val good,.val great,.val due,.val bad,o9]) ?_).trans ?_
 ·by_cases z:w<5
  ·simp[z,t1 z,qw]
  ·simp[z]
 refine(seq2 (ρ':=[c0,.val (.int w),c2,.own ZX (pen P'),.val hh,.val good,.val great,.val due,.val bad,o9]) ?_).trans ?_
 ·by_cases z:w=3∨w=4
  ·simp[z,i,t2 z,qw]
  ·simp[z,i]
 refine(seq2 (ρ':=[c0,.val (.int w),c2,.own ZX (pen P'),.val hh,.val good,.val great,.val due,.val bad,.val (if w=2 then good else great)]) ?_).trans ?_
 ·by_cases z:w=2
  ·simp[z]
  ·simp[z]
 generalize (if w=2 then good else great)=so at *
 simp[t3,t4,q]
theorem atm(h:Hs qv)(h5:qv.length<=5)(hg:∀j,j<qv.length->0<=g j/\g j<=1000000000000000000000000000000)(c0 c2:Sl):∀(ws:List Int) (P:Int×Int) (o1 o8 o9:Sl),(∀w∈ws,W7 w) ->
  ∃P' q1 q8 q9,forD (cj 1) aou (ws.map D.int) [c0,o1,c2,.own ZX (pen P),.val (hD qv),.val (tpD qv.length λ_=>0),.val (tpD qv.length g),.val (tdD (opn qv)),o8,o9]=ZY (.nx,[c0,q1,c2,.own ZX (pen P'),.val (hD qv),.val (tpD qv.length λ_=>0),.val (tpD qv.length g),.val (tdD (opn qv)),q8,q9])
 | [],P,o1,o8,o9,_=>⟨P,o1,o8,o9,rfl⟩
 |w::ws,P,o1,o8,o9,hw=>by
  have z0:∀j,j<qv.length->0<=(λ_=>0:Rw) j/\(λ_=>0:Rw) j<=1000000000000000000000000000000:=λ_ _=>by dsimp;omega
  obtain⟨bad,P1,nb,hb⟩:=ahb P h;have hw1:=hw w (aX ..);have run:=a6f hw1 nb (λlt=>awb h hb (tpD qv.length λ_=>0) hw1 lt) (λe=>arp h (amj z0) hb e) (great:=tpD qv.length g) (due:=tdD (opn qv)) (by
   by_cases e:w=2
   ·rw[if_pos e];exact acs h h5 z0 hg hw1 λ_=>rfl
   ·rw[if_neg e];exact acs h h5 hg hg hw1 λz=>absurd z e) (by
   by_cases e:w=2
   ·rw[if_pos e];exact acs h h5 z0 z0 hw1 λ_=>rfl
   ·rw[if_neg e];exact acs h h5 z0 hg hw1 λ_=>rfl) (ax3 qv) c0 c2 o8 o9
  obtain⟨P',q1,q8,q9,e⟩:=atm h h5 hg c0 c2 ws P1 (.val (.int w)) (.val bad) (.val (if w=2 then tpD qv.length (λ_=>0) else tpD qv.length g)) λx hx=>hw x (aR _ hx)
  refine⟨P',q1,q8,q9,?_⟩;rw[bH,nq];simp[run,e]
noncomputable def g30:Rw:=λj=>if j=0 then 1000000000000000000000000000000 else 0
def a3n(hn:1<=n):D.tup (D.int 1000000000000000000000000000000::((aK n (0:Int)).map D.int).drop 1)=tpD n g30:=by
 obtain⟨m,rfl⟩:∃m,n=m+1:=⟨n-1,by omega⟩
 unfold tpD;rw[pZ,bH,dR,fG,bH,List.drop_succ_cons,rJ,rT]
 congr 2
 refine(pQ (by simp) λi h1 h2=>?_)
 rw[List.getElem_replicate,zP,List.getElem_range];rfl
def a6e(h:Hs qv)(h5:qv.length<=5)(P:Int×Int)(c0 c2 o1 o5 o6 o7 o8 o9:Sl):∃P' q1 q5 q6 q7 q8 q9,l3_law [c0,o1,c2,.own ZX (pen P),.val (hD qv),o5,o6,o7,o8,o9]=ZY (.nx,[c0,q1,c2,.own ZX (pen P'),.val (hD qv),q5,q6,q7,q8,q9]):=by
 have h1:=h.one;obtain⟨r,P1,e1,r0,r2⟩:=uf P 2 (by decide) (by decide)
 have z1:=as8 (k:=qv.length) h1 (by omega)
 have tz:D.tup ((aK qv.length (0:Int)).map D.int)=tpD qv.length λ_=>0:=by
  unfold tpD;rw[uI,fU,rT]
 have tg:=a3n (n:=qv.length) h1;have zl:((aK qv.length (0:Int)).map D.int).length=qv.length:=by simp
 have cu:cutD ((aK qv.length (0:Int)).map D.int) (ZY 1) ZX=((aK qv.length (0:Int)).map D.int).drop 1:=cutF (k:=1) (by decide) (by rw[zl];exact h1)
 have dl:(((aK qv.length (0:Int)).map D.int).drop 1).length=qv.length-1:=by rw[iT,zl]
 have hc:1+(((aK qv.length (0:Int)).map D.int).drop 1).length<=capS:=by rw[dl];exact bw (by omega)
 have big:fPow 10 30=ZY 1000000000000000000000000000000:=by decide +kernel
 have hl:=yl qv;have e2:=aqk h;have hat:∃g:Rw,(∀j,j<qv.length->0<=g j/\g j<=1000000000000000000000000000000)/\atI [tpD qv.length (λ_=>0),tpD qv.length g30] r=ZY (tpD qv.length g):=by
  have:r=0∨r=1:=by omega
  rcases this with rfl |rfl
  ·exact⟨λ_=>0,λ_ _=>by dsimp;omega,rfl⟩
  ·exact⟨g30,λj _=>by unfold g30;split <;> exact⟨by decide,by decide⟩,rfl⟩
 obtain⟨g,hg,ea⟩:=hat;obtain⟨P',q1,q8,q9,e3⟩:=atm h h5 hg c0 c2 [0,1,2,3,4,5,6] P1 o1 o8 o9 ayj;have er:rangeD 0 7=[0,1,2,3,4,5,6].map D.int:=rfl;rw[<-er] at e3;refine⟨P',q1,.val (tpD qv.length λ_=>0),.val (tpD qv.length g),.val (tdD (opn qv)),q8,q9,?_⟩
 rw[<-tz] at e3 ⊢
 rw[<-tz,<-tg] at ea;generalize ((aK qv.length (0:Int)).map D.int).drop 1=DD at *;generalize (aK qv.length (0:Int)).map D.int=ZZ at *;simp only[hD] at *;simp[-ao6,l3_law,hl,z1,big,cu,hc,e1,ea,e2,e3]
def a9x(S:D)(n:Int)(o1 o3 o4 o5 o6 o7 o8 o9:Sl):∃b1 b2 b3 b4 b5 b6 b7 b8 b9,l4_law [.val S,o1,.val (.int n),o3,o4,o5,o6,o7,o8,o9]=ZY (.nx,[.val S,b1,b2,b3,b4,b5,b6,b7,b8,b9]):=by
 obtain⟨P,e0⟩:=awp n;obtain⟨qv,P1,e1,hk⟩:=ait P 5 3 (by decide) (by decide) (by decide) (by decide)
 have h:Hs qv:=hk.hs (by decide) (by decide)
 have m1:=hk.most;obtain⟨oth,P2,e2,h',_,m2,_⟩:=open_spec P1 4 3 (by decide) (by decide) (by decide) (by decide)
 obtain⟨P3,q1,q5,q6,q7,q8,q9,e3⟩:=a6e h (by omega) P2 (.val S) (.val (.int n)) o1 o5 o6 o7 o8 o9
 obtain⟨P4,r1,r5,r6,r7,r8,r9,e4⟩:=a6e h' (by omega) P3 (.val S) (.val (.int n)) q1 q5 q6 q7 q8 q9
 refine⟨r1,.val (.int n),.own ZX (pen P4),.val (hD oth),r5,r6,r7,r8,r9,?_⟩;simp[l4_law,e0,e1,e2,nq,e3,e4]
theorem a6a(S:D):∀(ns:List Int) (o1 q o3 o4 o5 o6 o7 o8 o9:Sl),∃ρ,forD (cj 2) l4_law (ns.map D.int) [.val S,o1,q,o3,o4,o5,o6,o7,o8,o9]=ZY (.nx,.val S::ρ)
 | [],o1,q,o3,o4,o5,o6,o7,o8,o9=>⟨_,rfl⟩
 |n::r,o1,q,o3,o4,o5,o6,o7,o8,o9=>by
  obtain⟨b1,b2,b3,b4,b5,b6,b7,b8,b9,z⟩:=a9x S n o1 o3 o4 o5 o6 o7 o8 o9;obtain⟨ρ,z2⟩:=a6a S r b1 b2 b3 b4 b5 b6 b7 b8 b9;exact⟨ρ,by rw[bH,nq];simp[z,z2]⟩
def a9y(hw:W7 w)(c0 c2 c3 c4 c5 c6 c7 c8 c9:Sl):aov [c0,.val (.int w),c2,c3,c4,c5,c6,c7,c8,c9]=ZY (.nx,[c0,.val (.int w),c2,c3,c4,c5,c6,c7,c8,c9]):=by
 have z0:∀j,j<1->0<=(λ_=>0:Rw) j/\(λ_=>0:Rw) j<=1000000000000000000000000000000:=λ_ _=>by dsimp;omega
 have z1:∀j,j<1->0<=(λ_=>1:Rw) j/\(λ_=>1:Rw) j<=1000000000000000000000000000000:=λ_ _=>by dsimp;omega
 have o1:opn [[0]]=.exc ⟨"NotOpen", [("room", 0)]⟩:=by unfold opn;rw[a3m]
 have o2:opn [[-1]]=.ok (.v .non):=by
  unfold opn;rw[aoa (qv:=[[-1]]) λa a0 a1=>by
   have:a=0:=by simp at a1;omega
   rw[this];exact⟨-1,.step .base (by decide) (by decide),by decide⟩]
 have k1:=acs (qv:=[[0]]) (ay0 (by decide) (by decide) (by decide)) (by decide) z0 z1 hw λ_=>rfl
 have k2:=acs (qv:=[[-1]]) (ay0 (by decide) (by decide) (by decide)) (by decide) z0 z1 hw λ_=>rfl
 rw[o1] at k1;rw[o2] at k2;have k1:fu [.val (.int w),.val (.tup [.tup [.int 0]]),.val (.tup [.int 0]),.val (.tup [.int 1])]=ZY (.ok (.v (.tup [.str "open", .int 0])),[.val (.int w),.val (.tup [.tup [.int 0]]),.val (.tup [.int 0]),.val (.tup [.int 1])]):=k1;have k2:fu [.val (.int w),.val (.tup [.tup [.int (-1)]]),.val (.tup [.int 0]),.val (.tup [.int 1])]=ZY (.ok (.v (.tup [.str "told", .int 0])),[.val (.int w),.val (.tup [.tup [.int (-1)]]),.val (.tup [.int 0]),.val (.tup [.int 1])]):=k2;have q1:=aur ZW 0 0;have q2:=auq ZW 0 0;simp[aov,k1,k2,q1,q2]
theorem a6b(c0 c2 c3 c4 c5 c6 c7 c8 c9:Sl):∀(ws:List Int) (q:Sl),(∀w∈ws,W7 w)->∃q',forD (cj 1) aov (ws.map D.int) [c0,q,c2,c3,c4,c5,c6,c7,c8,c9]=ZY (.nx,[c0,q',c2,c3,c4,c5,c6,c7,c8,c9])
 | [],q,_=>⟨q,rfl⟩
 |w::ws,q,hw=>by
  obtain⟨q',e⟩:=a6b c0 c2 c3 c4 c5 c6 c7 c8 c9 ws (.val (.int w)) λx hx=>hw x (aR _ hx)
  have z:=a9y (hw w (aX ..)) c0 c2 c3 c4 c5 c6 c7 c8 c9;exact⟨q',by rw[bH,nq];simp[z,e]⟩
def axh:an7 auk:=λns hn=>by
 obtain⟨n0,e0⟩:=au7 ns 0 (by decide)
 obtain⟨ms,em,hm⟩:=au2 ns (ZY 1) (ZY 5);have hc:1+ms.length<=capS:=bw (by omega)
 obtain⟨q',e1⟩:=a6b (.val (.kst (ns.map D.int))) .emp .emp .emp .emp .emp .emp .emp .emp [0,1,2,3,4,5,6] .emp ayj;have er:rangeD 0 7=[0,1,2,3,4,5,6].map D.int:=rfl;rw[<-er] at e1;obtain⟨ρ,q⟩:=a6a (.kst (ns.map D.int)) (n0::ms) q' .emp .emp .emp .emp .emp .emp .emp .emp;simp only[bH] at q;simp[auk,a6r,e1,e0,em,hc,q]
end My
set_option maxHeartbeats 0
namespace My
open PySem L2 Mn Dn
noncomputable def nD(l:List Str)(h:l.Nodup:=by decide +kernel):l.Nodup:=h
noncomputable def top(i:Nat):jG:=PySem.Challenge.pw_turnarrows_k64_likes_refused.main.body.getD i (.Pass ⟨0,0,0,0⟩)
abbrev ae8:jG:=top 15
def amt:FnScope ["thing"] ["thing"] (aq ae8):=mkSc
abbrev vh:jG:=top 16
def aed:FnScope ["thing","least","most"] ["thing","least","most"] (aq vh):=mkSc
abbrev vm:jG:=top 17
def aee:FnScope ["thing","least","most"] ["thing","least","most"] (aq vm):=mkSc
abbrev ar9:jG:=top 19
def agy:FnScope ["house","staying","many"] ["house"] (aq ar9):=mkSc
abbrev rz:jG:=top 20
def qg:FnScope ["house","rooms"] ["house"] (aq rz):=mkSc
abbrev ab7:jG:=top 22
def ajb:FnScope ["house","thing","most"] ["house","thing","most"] (aq ab7):=mkSc
abbrev abh:jG:=top 24
def ah6:FnScope ["rows"] ["rows"] (aq abh):=mkSc
abbrev ae6:jG:=top 25
def agz:FnScope ["rows","at","number"] ["rows","at"] (aq ae6):=mkSc
abbrev ag2:jG:=top 26
def aim:FnScope ["rows","one","other","told"] ["rows","one","other"] (aq ag2):=mkSc
abbrev ag3:jG:=top 27
def aa1:FnScope ["rows","at","bottom","head","told","number","row"] ["rows","at","bottom"] (aq ag3):=mkSc
abbrev aje:jG:=top 28
def xm:FnScope ["rows","right","work","bottom","at","found"] ["rows","right"] (aq aje):=mkSc
abbrev abi:jG:=top 29
def ac5:FnScope ["rows","told"] ["rows"] (aq abi):=mkSc
abbrev asa:jG:=top 30
def az5:FnScope ["row","times","other"] ["row","times","other"] (aq asa):=mkSc
abbrev ajg:jG:=top 31
def zm:FnScope ["rows","at","work","alive","head","sign","first","number"] ["rows","at"] (aq ajg):=mkSc
abbrev ajd:jG:=top 32
def aaz:FnScope ["rows","told","work","at"] ["rows"] (aq ajd):=mkSc
abbrev ae7:jG:=top 33
def zj:FnScope ["steps","row","told","at","stair"] ["steps","row"] (aq ae7):=mkSc
abbrev aas:jG:=top 34
def qm:FnScope ["house","rows","room","doors","row"] ["house"] (aq aas):=mkSc
abbrev ug:jG:=top 37
def nj:FnScope ["house","rows","walkers"] ["house","rows"] (aq ug):=mkSc
abbrev amu:jG:=top 38
def aef:FnScope ["house","walkers","gives","told","row","times"] ["house","walkers","gives"] (aq amu):=mkSc
abbrev w6:jG:=top 39
def ab5:FnScope ["house","walkers","gives"] ["house","walkers","gives"] (aq w6):=mkSc
abbrev zq:jG:=top 40
def yh:FnScope ["house","one","other","told","bottom"] ["house","one","other"] (aq zq):=mkSc
abbrev abg:jG:=top 41
def afx:FnScope ["house","one","other"] ["house","one","other"] (aq abg):=mkSc
abbrev abj:jG:=top 42
def afz:FnScope ["house","one","other"] ["house","one","other"] (aq abj):=mkSc
abbrev aal:jG:=top 43
def aeb:FnScope ["house","walkers"] ["house","walkers"] (aq aal):=mkSc
abbrev aam:jG:=top 44
def aec:FnScope ["house"] ["house"] (aq aam):=mkSc
abbrev uh:jG:=top 45
def aa0:FnScope ["house"] ["house"] (aq uh):=mkSc
abbrev ab6:jG:=top 46
def abf:FnScope ["house","walkers","spare","told"] ["house","walkers"] (aq ab6):=mkSc
abbrev adf:jG:=top 47
def afy:FnScope ["room","doors","many","going"] ["room","doors","many"] (aq adf):=mkSc
abbrev aeg:jG:=top 48
def jg:FnScope ["house","walkers","gives","standing","rows","moving","room","doors","due"] ["house","walkers"] (aq aeg):=mkSc
abbrev adl:jG:=top 50
def aky:FnScope ["script","k"] ["script","k"] (aq adl):=mkSc
abbrev ae9:jG:=top 51
def ag0:FnScope ["cell","left"] ["cell"] (aq ae9):=mkSc
abbrev adk:jG:=top 52
def xq:FnScope ["pen","many","left","found","stir"] ["pen","many"] (aq adk):=mkSc
abbrev ab8:jG:=top 53
def ajc:FnScope ["thing"] ["thing"] (aq ab8):=mkSc
abbrev ab9:jG:=top 54
def rn:FnScope ["pen","most","doors","many","gates","house","room","wide"] ["pen","most","doors"] (aq ab9):=mkSc
abbrev aat:jG:=top 55
def qp:FnScope ["house","room","found","at"] ["house","room"] (aq aat):=mkSc
abbrev adh:jG:=top 56
def aak:FnScope ["pen","most","doors","house","room","at"] ["pen","most","doors"] (aq adh):=mkSc
abbrev adi:jG:=top 57
def xn:FnScope ["e","marks","words"] ["e"] (aq adi):=mkSc
abbrev vo:jG:=top 58
def mj:FnScope ["pen","house","many","at","odd","some"] ["pen","house"] (aq vo):=mkSc
abbrev adg:jG:=top 59
def af0:FnScope ["way","house","one","other","e"] ["way","house","one","other"] (aq adg):=mkSc
abbrev afa:jG:=top 60
def ag1:FnScope ["house","shut"] ["house"] (aq afa):=mkSc
abbrev ajf:jG:=top 61
def ab4:FnScope ["script","way","cell","pen","house","good","great","due","bad","some"] ["script"] (aq ajf):=mkSc
theorem lnS{k:Nat}{us:List aH}(h:us.length=k+1):∃a r,us=a::r/\r.length=k:=by
 cases us with
 |nil=>cases h
 |cons a r=>exact⟨a,r,rfl,Nat.succ.inj h⟩
def ln1{us:List aH}(h:us.length=1):∃a0,us=[a0]:=by
 obtain⟨a,r,rfl,h'⟩:=lnS h;cases List.eq_nil_of_length_eq_zero h';exact⟨a,rfl⟩
def ln2{us:List aH}(h:us.length=2):∃a0 a1,us=[a0,a1]:=by
 obtain⟨a,r,rfl,h'⟩:=lnS h;obtain⟨_,rfl⟩:=ln1 h';exact⟨_,_,rfl⟩
def ln3{us:List aH}(h:us.length=3):∃a0 a1 a2,us=[a0,a1,a2]:=by
 obtain⟨a,r,rfl,h'⟩:=lnS h;obtain⟨_,_,rfl⟩:=ln2 h';exact⟨_,_,_,rfl⟩
def ln4{us:List aH}(h:us.length=4):∃a0 a1 a2 a3,us=[a0,a1,a2,a3]:=by
 obtain⟨a,r,rfl,h'⟩:=lnS h;obtain⟨_,_,_,rfl⟩:=ln3 h';exact⟨_,_,_,_,rfl⟩
abbrev za:jG:=a2k (top 10)
def ams:FnScope ["self","room"] ["self","room"] (aq za):=mkSc
structure Txt (K:Fg9) (mg:Str->Option aH):Prop where
 c_MOST_ALIKE:∃t,mg "MOST_ALIKE"=ZY (.int 1000000000000000000000000000000 t)
 z_ValueError:mg "ValueError"=ZX
 z_abs:mg "abs"=ZX
 z_all:mg "all"=ZX
 z_any:mg "any"=ZX
 z_bool:mg "bool"=ZX
 z_divmod:mg "divmod"=ZX
 z_enumerate:mg "enumerate"=ZX
 z_int:mg "int"=ZX
 z_isinstance:mg "isinstance"=ZX
 z_len:mg "len"=ZX
 z_list:mg "list"=ZX
 z_max:mg "max"=ZX
 z_min:mg "min"=ZX
 z_range:mg "range"=ZX
 z_set:mg "set"=ZX
 z_sorted:mg "sorted"=ZX
 z_tuple:mg "tuple"=ZX
 z_zip:mg "zip"=ZX
 sub:ai9 K NS=ZW
 cat:CatT K mg
 k_ArrowError:ClsT K mg "ArrowError"
 k_NoArrows:ClsT K mg "NoArrows"
 k_NoRoom:ClsT K mg "NoRoom"
 k_NoWalkers:ClsT K mg "NoWalkers"
 k_NotShut:ClsT K mg "NotShut"
 k_NeverBack:ClsT K mg "NeverBack"
 k_NoTour:ClsT K mg "NoTour"
 k_NoRow:ClsT K mg "NoRow"
 k_NoHouse:ClsT K mg "NoHouse"
 k_NotOpen:ClsT K mg "NotOpen"
 k_Nobody:ClsT K mg "Nobody"
 k_NoText:ClsT K mg "NoText"
 k_TooGreat:ClsT K mg "TooGreat"
 r_ArrowError:RaiT K mg "ArrowError"
 r_NoArrows:RaiT K mg "NoArrows"
 r_NoRoom:RaiT K mg "NoRoom"
 r_NoWalkers:RaiT K mg "NoWalkers"
 r_NotShut:RaiT K mg "NotShut"
 r_NeverBack:RaiT K mg "NeverBack"
 r_NoTour:RaiT K mg "NoTour"
 r_NoRow:RaiT K mg "NoRow"
 i_NotOpen:IniT K mg "NotOpen" "room" "NotOpen.__init__" za
 n_room:a1z K ["NotOpen"] "room"=ZW
structure Cz where
 P:cF
 w:dX
 K:Fg9
 mg:Str->Option aH
 base:iK
abbrev Cz.d(z:Cz)(x:Str)(ps:List Str)(k n:Nat)(F:Fd):Prop:=Dfn z.P z.w z.K z.mg z.base x ps k (spOf z.K n F)
abbrev Cz.x(z:Cz)(x:Str)(ps:List Str)(k n:Nat)(F:Fd):Prop:=DfnX z.P z.w z.K z.mg z.base x ps k (spX z.K n F)
abbrev Cz.F(z:Cz)(x:Str)(st:jG)(f:bB)(fd:eU):Prop:=Fun z.K x x st f fd
abbrev Cz.o(z:Cz)(k:Nat)(f:bB)(fd:eU)(ps:List Str)(n:Nat)(F:Fd):Prop:=FnOk z.P z.w z.K z.mg z.base CX0 k f fd ps (spOf z.K n F)
abbrev Cz.p(z:Cz)(k:Nat)(f:bB)(fd:eU)(ps:List Str)(n:Nat)(F:Fd):Prop:=FnOk z.P z.w z.K z.mg z.base (CX1 z.P z.w) k f fd ps (spX z.K n F)
abbrev Dd0(z:Cz):=z.d "is_whole" ["thing"] 1 1 abb
abbrev Dd3(z:Cz):=z.d "trap" ["house"] 1 1 alq
abbrev Dd2(z:Cz):=z.d "is_tuple_within" ["thing","least","most"] 1 3 kh
abbrev Dd1(z:Cz):=z.d "is_whole_within" ["thing","least","most"] 2 3 j9
abbrev Dd7(z:Cz):=z.d "row_with" ["rows","at"] 1 2 aa9
abbrev Dd8(z:Cz):=z.d "swapped" ["rows","one","other"] 1 3 acl
abbrev Dd9(z:Cz):=z.d "cleared" ["rows","at","bottom"] 1 3 acn
abbrev Dd10(z:Cz):=z.d "solved" ["rows","right"] 2 2 xg
abbrev Dd12(z:Cz):=z.d "less" ["row","times","other"] 1 3 ac8
abbrev Dd13(z:Cz):=z.d "folded" ["rows","at"] 2 2 aew
abbrev Dd5(z:Cz):=z.d "is_walkers" ["house","thing","most"] 3 3 qx
abbrev Dd4(z:Cz):=z.d "refuse_not_open" ["house"] 3 1 f9
abbrev Dx4(z:Cz):=z.x "refuse_not_open" ["house"] 3 1 f9
abbrev Dd16(z:Cz):=z.d "doors_square" ["house"] 1 1 jj
abbrev Dd17(z:Cz):=z.d "refuse_no_rows" ["house","rows"] 4 2 dh
abbrev Dd18(z:Cz):=z.d "given" ["house","walkers","gives"] 2 3 ad3
abbrev Dx17(z:Cz):=z.x "refuse_no_rows" ["house","rows"] 4 2 dh
abbrev Dd6(z:Cz):=z.d "turned_over" ["rows"] 1 1 su
abbrev Dd20(z:Cz):=z.d "gives_between" ["house","one","other"] 3 3 nu
abbrev Dd21(z:Cz):=z.d "why_alike" ["house","one","other"] 5 3 j6
abbrev Dx21(z:Cz):=z.x "why_alike" ["house","one","other"] 5 3 j6
abbrev Dd14(z:Cz):=z.d "stairs" ["rows"] 3 1 yu
abbrev Dd15(z:Cz):=z.d "least_by" ["steps","row"] 2 2 aba
abbrev Dd11(z:Cz):=z.d "determinant" ["rows"] 3 1 uy
abbrev Dd26(z:Cz):=z.d "sure_gives" ["house","walkers"] 3 2 xu
abbrev Dd27(z:Cz):=z.d "gives_due" ["room","doors","many"] 1 3 aad
abbrev Dd31(z:Cz):=z.d "_law_draw" ["pen","many"] 1 2 f__law_draw
abbrev Dd33(z:Cz):=z.d "_law_house" ["pen","most","doors"] 2 3 f__law_house
abbrev Dd34(z:Cz):=z.d "_law_reached" ["house","room"] 1 2 qe
abbrev Dd19(z:Cz):=z.d "behind_gives" ["house","walkers","gives"] 5 3 jk
abbrev Dd23(z:Cz):=z.d "least_like" ["house","walkers"] 5 2 jx
abbrev Dd28(z:Cz):=z.d "settled" ["house","walkers"] 5 2 f_settled
abbrev Dd22(z:Cz):=z.d "are_alike" ["house","one","other"] 6 3 km
abbrev Dd24(z:Cz):=z.d "kind_sizes" ["house"] 4 1 jy
abbrev Dd25(z:Cz):=z.d "how_many_kinds" ["house"] 4 1 ig
abbrev Dx19(z:Cz):=z.x "behind_gives" ["house","walkers","gives"] 5 3 jk
abbrev Dx23(z:Cz):=z.x "least_like" ["house","walkers"] 5 2 jx
abbrev Dx28(z:Cz):=z.x "settled" ["house","walkers"] 5 2 f_settled
abbrev Dx22(z:Cz):=z.x "are_alike" ["house","one","other"] 6 3 km
abbrev Dx24(z:Cz):=z.x "kind_sizes" ["house"] 4 1 jy
abbrev Dx25(z:Cz):=z.x "how_many_kinds" ["house"] 4 1 ig
abbrev Du36(z:Cz):Prop:=DfnU z.P z.w z.K z.mg z.base "_law_kind" ["e"] 1 (spOf z.K 1 ww)
abbrev Du32(z:Cz):Prop:=DfnU z.P z.w z.K z.mg z.base "_law_whole" ["thing"] 1 (spOf z.K 1 xx)
abbrev Dd38(z:Cz):=z.d "_law_told" ["way","house","one","other"] 7 4 fu
abbrev Dd29(z:Cz):=z.d "_law_cell" ["script","k"] 1 2 f__law_cell
abbrev Dd30(z:Cz):=z.d "_law_pen" ["cell"] 1 1 f__law_pen
abbrev Dd35(z:Cz):=z.d "_law_open" ["pen","most","doors"] 3 3 f__law_open
abbrev Dd39(z:Cz):=z.d "_law_due" ["house"] 2 1 zb
abbrev Dd37(z:Cz):=z.d "_law_no_walkers" ["pen","house"] 2 2 f__law_no_walkers
section
variable(z:Cz){f:bB}{fd:eU}(T:Txt z.K z.mg)
include T
theorem am4(F:z.F "is_whole" ae8 f fd):z.o 1 f fd ["thing"] 1 abb :=
 jt F amt rfl rfl λ_ _ _ _ _ _ hr=>
  (au (gn (EV.toR (apd (alx (t:=.int) (ap8 (by rfl) T.z_int avi) (by rfl) T.z_isinstance fc (dg (pv 0))) (apb (ay5 (alx (t:=.bool) (ap8 (by rfl) T.z_bool avk) (by rfl) T.z_isinstance fc (dg (pv 0)))))))))
theorem aem(F:z.F "is_whole_within" vh f fd)(d0:Dd0 z):z.o 2 f fd ["thing","least","most"] 3 j9 :=
 jt F aed rfl rfl λ_ _ _ _ _ _ hr=>
  (au (gn (EV.toR (apd (ER.toD (Za d0 hr (eg_n (pv 0) bh))) (apb (apc aw0 aw0 (ak (pv 1)) (ak (pv 0)) (ak (pv 2))))))))
theorem aen(F:z.F "is_tuple_within" vm f fd):z.o 1 f fd ["thing","least","most"] 3 kh :=
 jt F aee rfl rfl λ_ _ _ _ _ _ hr=>
  (au (gn (EV.toR (apd (alx (t:=.tuple) (ap8 (by rfl) T.z_tuple vd) (by rfl) T.z_isinstance fc (dg (pv 0))) (apb (apc aw0 aw0 (ak (pv 1)) (ER.toD (dz mq (by rfl) T.z_len my (ea_n (pv 0) gm))) (ak (pv 2))))))))
theorem a05(F:z.F "trap" ar9 f fd):z.o 1 f fd ["house"] 1 alq :=
 jt F agy rfl rfl λ_ _ _ _ _ _ hr=>
  (ao (dq (i:=1) agy.nd rfl (oA rfl) (al1 rfl (by rfl) T.z_list (by rfl) T.z_range (aj (ER.toD (dz mq (by rfl) T.z_len my (ea_n (pv 0) gm))) bu))) (ao (dq (i:=2) agy.nd rfl (bK rfl) (di jw (e2_v (ER.toD (dz mq (by rfl) T.z_len my (ea_n (pv 1) gm))) (EV.toB az)))) (ao (aea fuel cD (jf ak1 (e2_v (ER.toD (dz mq (by rfl) T.z_len my (ea_n (pv 1) gm))) (dg (pv 2))) (jc _)) (ao (dq (i:=2) agy.nd rfl (bK rfl) (dz mq (by rfl) T.z_len my (ea_n (pv 1) gm))) (au (dq (i:=1) agy.nd rfl (oA rfl) (uz ["staying","house"] ["room","staying","house"] [ZX,ZY 1,ZY 0] rfl (ux (ak (pv 1))) (λ_ _ _=>(cz (i:=0) (nD ["room","staying","house"]) rfl (bK rfl))) (λ_ _ _=>(akd (ab0 (ER.toD (dz (azf rfl) (by rfl) T.z_all azi (ea_v (ER.toD (uz ["staying"] ["door","staying"] [ZX,ZY 1] rfl (ux (ER.toD (j7 (e2_n (pv 2) (dg (pv 0))) (λ_ _=>by rfl)))) (λ_ _ _=>(cz (i:=0) (nD ["door","staying"]) rfl (bK rfl))) (λ_ _ _=>qd) (λ_ _ _=>(ER.toD (auo (ays hr.units) (e2_n (pv 0) (dg (pv 1))) (by with_unfolding_all rfl)))))) gm)))))) (λ_ _ _=>(ak (pv 0)))))))) (au (gn (jq xj (by rfl) T.z_tuple vd (ea_n (pv 1) gm)))))))
theorem ael(F:z.F "refuse_not_open" rz f fd)(d3:Dd3 z):z.o 3 f fd ["house"] 1 f9 :=
 jt F qg rfl rfl λ_ _ _ _ _ _ hr=>
  (ao (SV.s (dq (i:=1) qg.nd rfl (bK rfl) (Za d3 hr (eg_n (pv 0) bh)))) (au (ud (ET.s (jf (zy hr.units) (e2_n (pv 1) (EV.toB (jz bu))) (jc _))) (au art) j4)))
theorem adn(F:z.F "refuse_not_open" rz f fd)(d3:Dd3 z):z.p 3 f fd ["house"] 1 f9 :=
 fn_x F qg rfl rfl λ_ _ _ _ _ _ hr=>
  (rm (SV.s (dq (i:=1) qg.nd rfl (bK rfl) (Za d3 hr (eg_n (pv 0) bh)))) aby (j0 (akn (ET.s (jf (zy hr.units) (e2_n (pv 1) (EV.toB (jz bu))) (jc _))) jh (j0 (ara rfl rfl (by rfl) T.i_NotOpen ams rfl (by decide) (by decide) (λ_=>rfl) (bK rfl) (bK rfl) (aqn λ_ _ _ _ _ _ us hl=>by obtain⟨_,_,rfl⟩:=ln2 hl;rfl) (hr.mono (by decide)) (EV.s (ER.toD (j7 (e2_n (pv 1) (EV.toB az)) (λ_ _=>by rfl)))) jh)) aq8)))
theorem ajr(F:z.F "is_walkers" ab7 f fd)(d2:Dd2 z)(d1:Dd1 z):z.o 3 f fd ["house","thing","most"] 3 qx :=
 jt F ajb rfl rfl λ_ _ _ _ _ _ hr=>
  (ao (ud (ai0 (ab0 (ER.toD (Za d2 hr (eg_n (pv 1) (eg_v (ER.toD (dz mq (by rfl) T.z_len my (ea_n (pv 0) gm))) (eg_v (ER.toD (dz mq (by rfl) T.z_len my (ea_n (pv 0) gm))) bh))))))) (au (gn (EV.toR ad4))) j4) (au (gn (dz (azf rfl) (by rfl) T.z_all azi (ea_v (ER.toD (uz ["most"] ["many","most"] [ZX,ZY 2] rfl (ux (ak (pv 1))) (λ_ _ _=>(cz (i:=0) (nD ["many","most"]) rfl (bK rfl))) (λ_ _ _=>qd) (λ_ _ _=>(ER.toD (Za d1 hr (eg_n (pv 0) (eg_v az (eg_n (pv 1) bh)))))))) gm)))))
theorem aia(F:z.F "turned_over" abh f fd):z.o 1 f fd ["rows"] 1 su :=
 jt F ah6 rfl rfl λ_ _ _ _ _ _ hr=>
  (au (gn (ax1 "at" ["rows"] ["at","rows"] [ZX,ZY 0] rfl (ue (by rfl) T.z_range (aj (ER.toD (dz mq (by rfl) T.z_len my (ea_n (pv 0) gm))) bu)) (λ_ _ _=>(cz (i:=0) (nD ["at","rows"]) rfl (oA rfl))) (λ_ _ _=>qd) (λ_ _ _=>(ER.toD (uz ["at"] ["row","at"] [ZX,ZY 0] rfl (ux (ak (pv 1))) (λ_ _ _=>(cz (i:=0) (nD ["row","at"]) rfl (bK rfl))) (λ_ _ _=>qd) (λ_ _ _=>(ER.toD (j7 (e2_n (pv 0) (dg (pv 1))) (λ_ _=>by rfl))))))))))
theorem am2(F:z.F "row_with" ae6 f fd):z.o 1 f fd ["rows","at"] 2 aa9 :=
 jt F agz rfl rfl λ_ _ _ _ _ _ hr=>
  (ao (vf cD rfl (atr (by rfl) T.z_range (aj (ak (pv 1)) (aj (ER.toD (dz mq (by rfl) T.z_len my (ea_n (pv 0) gm))) bu))) (cz (i:=2) agz.nd rfl (bK rfl)) (au (ud (jf (zy hr.units) (e2_v (ER.toD (j7 (e2_v (ER.toD (j7 (e2_n (pv 0) (dg (pv 2))) (λ_ _=>by rfl))) (dg (pv 1))) (λ_ _=>by rfl))) (EV.toB az)) (jc _)) (au (gn (abo (pv 2)))) j4))) (au (gn (EV.toR aiz))))
theorem aqb(F:z.F "swapped" ag2 f fd):z.o 1 f fd ["rows","one","other"] 3 acl :=
 jt F aim rfl rfl λ_ _ _ _ _ _ hr=>
  (ao (ade (i:=3) [] ["row"] [ZX] aim.nd rfl (bK rfl) rfl (ux (ak (pv 0))) (λ_ _ _=>(cz (i:=0) (nD ["row"]) rfl (bK rfl))) (λ_ _ _=>qd) (λ_ _ _=>(ER.toD (jq acq (by rfl) T.z_list abw (ea_n (pv 0) gm))))) (ao (ud (jf (zy hr.units) (e2_n (pv 1) (dg (pv 2))) (jc _)) arq j4) (au (gn (abo (pv 3))))))
theorem aqd(F:z.F "cleared" ag3 f fd):z.o 1 f fd ["rows","at","bottom"] 3 acn :=
 jt F aa1 rfl rfl λ_ _ _ _ _ _ hr=>
  (ao (dq (i:=3) aa1.nd rfl (oA rfl) (j7 (e2_n (pv 0) (dg (pv 1))) (λ_ _=>by rfl))) (ao (dq (i:=4) aa1.nd rfl (bK rfl) (ju bu)) (ao (vf cD rfl (adu (by rfl) T.z_enumerate (aj (ak (pv 0)) bu)) (aa7 rfl (je (cz (i:=5) aa1.nd rfl (bK rfl)) (je (cz (i:=6) aa1.nd rfl (oA rfl)) vy))) (au (ud (jf (xr hr.units) (e2_n (pv 5) (dg (pv 1))) (jc _)) (au (j5 (EV.toR (alw aa3 jX PySem.F.type_list_append aa5 (pv 4) (aj (ER.toD (jq acq (by rfl) T.z_list abw (ea_n (pv 3) gm))) bu))))) (au (j5 (EV.toR (alw aa3 jX PySem.F.type_list_append aa5 (pv 4) (aj (ER.toD (uz ["row","head","bottom","at"] ["own","over","row","head","bottom","at"] [ZX,ZX,ZY 6,ZY 3,ZY 2,ZY 1] rfl (ahe (by rfl) T.z_zip (aj (ak (pv 6)) (aj (ak (pv 3)) bu))) (λ_ _ _=>(aa7 rfl (je (cz (i:=0) (nD ["own","over","row","head","bottom","at"]) rfl (bK rfl)) (je (cz (i:=1) (nD ["own","over","row","head","bottom","at"]) rfl (bK rfl)) vy)))) (λ_ _ _=>qd) (λ_ _ _=>(ER.toD (di ag7 (e2_v (ER.toD (di zx (e2_v (ER.toD (di vq (e2_v (ER.toD (j7 (e2_n (pv 3) (dg (pv 5))) (λ_ _=>by rfl))) (dg (pv 0))))) (EV.toB (ER.toD (di vq (e2_v (ER.toD (j7 (e2_n (pv 2) (dg (pv 5))) (λ_ _=>by rfl))) (dg (pv 1))))))))) (dg (pv 4)))))))) bu)))))))) (au (gn (abo (pv 4)))))))
theorem asy(F:z.F "solved" aje f fd)(d7:Dd7 z)(d8:Dd8 z)(d9:Dd9 z):z.o 2 f fd ["rows","right"] 2 xg :=
 jt F xm rfl rfl λ_ _ _ _ _ _ hr=>
  (ao (ade (i:=2) [] ["row","number"] [ZX,ZX] xm.nd rfl (bK rfl) rfl (ahe (by rfl) T.z_zip (aj (ak (pv 0)) (aj (ak (pv 1)) bu))) (λ_ _ _=>(aa7 rfl (je (cz (i:=0) (nD ["row","number"]) rfl (bK rfl)) (je (cz (i:=1) (nD ["row","number"]) rfl (bK rfl)) vy)))) (λ_ _ _=>qd) (λ_ _ _=>(ER.toD (di jw (e2_v (ER.toD (jq acq (by rfl) T.z_list abw (ea_n (pv 0) gm))) (EV.toB (ER.toD (ju (aj (ak (pv 1)) bu))))))))) (ao (dq (i:=3) xm.nd rfl (bK rfl) (EV.toR az)) (ao (vf cD rfl (ue (by rfl) T.z_range (aj (ER.toD (dz mq (by rfl) T.z_len my (ea_n (pv 0) gm))) bu)) (cz (i:=4) xm.nd rfl (bK rfl)) (ao (dq (i:=5) xm.nd rfl (bK rfl) (Za d7 hr (eg_n (pv 2) (eg_v (ak (pv 4)) bh)))) (ao (ud (alz (dg (pv 5))) (au (gn (EV.toR aiz))) j4) (ao (dq (i:=2) xm.nd rfl (bK rfl) (Za d8 hr (eg_v (ak (pv 2)) (eg_n (pv 4) (eg_n (pv 5) bh))))) (ao (dq (i:=2) xm.nd rfl (bK rfl) (Za d9 hr (eg_v (ak (pv 2)) (eg_n (pv 4) (eg_n (pv 3) bh))))) (au (dq (i:=3) xm.nd rfl (bK rfl) (j7 (e2_v (ER.toD (j7 (e2_n (pv 2) (dg (pv 4))) (λ_ _=>by rfl))) (dg (pv 4))) (λ_ _=>by rfl))))))))) (au (gn (EV.toR (jz (aj (ER.toD (uz ["rows"] ["row","rows"] [ZX,ZY 0] rfl (ux (ak (pv 2))) (λ_ _ _=>(cz (i:=0) (nD ["row","rows"]) rfl (bK rfl))) (λ_ _ _=>qd) (λ_ _ _=>(ER.toD (j7 (e2_n (pv 0) (EV.toB (ER.toD (dz mq (by rfl) T.z_len my (ea_n (pv 1) gm))))) (λ_ _=>by rfl)))))) (aj (ak (pv 3)) bu)))))))))
theorem aib(F:z.F "determinant" abi f fd)(d10:Dd10 z):z.o 3 f fd ["rows"] 1 uy :=
 jt F ac5 rfl rfl λ_ _ _ _ _ _ hr=>
  (ao (dq (i:=1) ac5.nd rfl (bK rfl) (Za d10 hr (eg_v (ak (pv 0)) (eg_v (ER.toD (di vq (e2_v (ER.toD (ju (aj az bu))) (EV.toB (ER.toD (dz mq (by rfl) T.z_len my (ea_n (pv 0) gm))))))) bh)))) (au (gn (ax0 (alz (dg (pv 1))) (EV.toR az) (j7 (e2_n (pv 1) (EV.toB az)) (λ_ _=>by rfl))))))
theorem a06(F:z.F "less" asa f fd):z.o 1 f fd ["row","times","other"] 3 ac8 :=
 jt F az5 rfl rfl λ_ _ _ _ _ _ hr=>
  (au (gn (uz ["times"] ["number","over","times"] [ZX,ZX,ZY 1] rfl (ahe (by rfl) T.z_zip (aj (ak (pv 0)) (aj (ak (pv 2)) bu))) (λ_ _ _=>(aa7 rfl (je (cz (i:=0) (nD ["number","over","times"]) rfl (bK rfl)) (je (cz (i:=1) (nD ["number","over","times"]) rfl (bK rfl)) vy)))) (λ_ _ _=>qd) (λ_ _ _=>(ER.toD (di zx (e2_n (pv 0) (EV.toB (ER.toD (di aok (e2_n (pv 2) (dg (pv 1)))))))))))))
theorem asz{cTb pTb:bB}(aTb:nsIn z.K aW LamN=ZY (ZY (.ref f)))(tbH:iW z.K LamN=ZY (cTb,pTb))(F:z.F "folded" ajg f fd)(d12:Dd12 z):z.o 2 f fd ["rows","at"] 2 aew :=
 a6w F zm rfl rfl aTb tbH λA outer s H E hr=>
  (ao (dq (i:=2) zm.nd rfl (oA rfl) (uz [] ["row"] [ZX] rfl (ux (ak (pv 0))) (λ_ _ _=>(cz (i:=0) (nD ["row"]) rfl (bK rfl))) (λ_ _ _=>qd) (λ_ _ _=>(ER.toD (jq acq (by rfl) T.z_list abw (ea_n (pv 0) gm)))))) (au (aea fuel cD (ab0 ad4) (ao (awf (i:=3) ["at"] ["number","row","at"] 1 2 zm.nd rfl (bK rfl) rfl (adu (by rfl) T.z_enumerate (aj (ak (pv 2)) bu)) (λ_ _ _=>(aa7 rfl (je (cz (i:=0) (nD ["number","row","at"]) rfl (bK rfl)) (je (cz (i:=1) (nD ["number","row","at"]) rfl (bK rfl)) vy)))) (λ_ _ _=>(akd (jf (zy hr.units) (e2_v (ER.toD (j7 (e2_n (pv 1) (dg (pv 2))) (λ_ _=>by rfl))) (EV.toB az)) (jc _)))) (λ_ _ _=>(ak (pv 0)))) (ao (dq (i:=4) zm.nd rfl (bK rfl) (EV.toR (a2d (a0s (fr:=["work","at"]) (y := "number") (z1 := "work") (z2 := "at") hr rfl tbH rfl rfl (pv 3) (by rfl) T.z_min (λ_ _ _ _=>a5a (pv 0) (pv 1) (pv 2) (by rfl) T.z_abs) rfl rfl rfl rfl rfl rfl rfl λ_ _ _ _ _=>rfl)))) (ao (ud (jf (xr hr.units) (e2_n (pv 3) (EV.toB (ER.toD (ju (aj (ak (pv 4)) bu))))) (jc _)) (ao (dq (i:=5) zm.nd rfl (oA rfl) (ax0 (jf asv (e2_v (ER.toD (j7 (e2_v (ER.toD (j7 (e2_n (pv 2) (dg (pv 4))) (λ_ _=>by rfl))) (dg (pv 1))) (λ_ _=>by rfl))) (EV.toB az)) (jc _)) (EV.toR az) (EV.toR (aex az)))) (ao (ade (i:=6) ["sign"] ["number","sign"] [ZX,ZY 5] zm.nd rfl (bK rfl) rfl (ux (ER.toD (j7 (e2_n (pv 2) (dg (pv 4))) (λ_ _=>by rfl)))) (λ_ _ _=>(cz (i:=0) (nD ["number","sign"]) rfl (bK rfl))) (λ_ _ _=>qd) (λ_ _ _=>(ER.toD (di aok (e2_n (pv 1) (dg (pv 0))))))) (au (gn (di jw (e2_v (ER.toD (di jw (e2_v (ER.toD (ju (aj (ak (pv 6)) bu))) (EV.toB (ER.toD (aho (pv 2) afo (aco (ak (pv 4))))))))) (EV.toB (ER.toD (aho (pv 2) (aco (ER.toD (di jw (e2_n (pv 4) (EV.toB az))))) afo))))))))) j4) (au (vf cD rfl (ux (ak (pv 3))) (cz (i:=7) zm.nd rfl (bK rfl)) (au (ud (jf (zy hr.units) (e2_n (pv 7) (dg (pv 4))) (jc _)) (au (aob (ER.toD (Za d12 hr (eg_v (ER.toD (j7 (e2_n (pv 2) (dg (pv 7))) (λ_ _=>by rfl))) (eg_v (ER.toD (di aom (e2_v (ER.toD (j7 (e2_v (ER.toD (j7 (e2_n (pv 2) (dg (pv 7))) (λ_ _=>by rfl))) (dg (pv 1))) (λ_ _=>by rfl))) (EV.toB (ER.toD (j7 (e2_v (ER.toD (j7 (e2_n (pv 2) (dg (pv 4))) (λ_ _=>by rfl))) (dg (pv 1))) (λ_ _=>by rfl))))))) (eg_v (ER.toD (j7 (e2_n (pv 2) (dg (pv 4))) (λ_ _=>by rfl))) bh))))) (pv 2) (ak (pv 7)))) j4))))))))))
theorem asx(F:z.F "stairs" ajd f fd)(d13:Dd13 z):z.o 3 f fd ["rows"] 1 yu :=
 jt F aaz rfl rfl λ_ _ _ _ _ _ hr=>
  (ao (dq (i:=1) aaz.nd rfl (bK rfl) (ju bu)) (ao (ade (i:=2) [] ["row"] [ZX] aaz.nd rfl (bK rfl) rfl (ux (ak (pv 0))) (λ_ _ _=>(cz (i:=0) (nD ["row"]) rfl (bK rfl))) (λ_ _ _=>qd) (λ_ _ _=>(ER.toD (jq acq (by rfl) T.z_list abw (ea_n (pv 0) gm))))) (ao (vf cD rfl (ue (by rfl) T.z_range (aj (ER.toD (dz mq (by rfl) T.z_len my (ea_n (pv 0) gm))) bu)) (cz (i:=3) aaz.nd rfl (bK rfl)) (ao (dq (i:=2) aaz.nd rfl (bK rfl) (Za d13 hr (eg_v (ak (pv 2)) (eg_n (pv 3) bh)))) (ao (j5 (EV.toR (alw aa3 jX PySem.F.type_list_append aa5 (pv 1) (aj (ER.toD (j7 (e2_n (pv 2) (EV.toB az)) (λ_ _=>by rfl))) bu)))) (au (dq (i:=2) aaz.nd rfl (bK rfl) (aho (pv 2) (aco az) afo)))))) (au (gn (abo (pv 1)))))))
theorem am3(F:z.F "least_by" ae7 f fd)(d12:Dd12 z):z.o 2 f fd ["steps","row"] 2 aba :=
 jt F zj rfl rfl λ_ _ _ _ _ _ hr=>
  (ao (dq (i:=2) zj.nd rfl (bK rfl) (jq acq (by rfl) T.z_list abw (ea_n (pv 1) gm))) (ao (vf cD rfl (adu (by rfl) T.z_enumerate (aj (ak (pv 0)) bu)) (aa7 rfl (je (cz (i:=3) zj.nd rfl (bK rfl)) (je (cz (i:=4) zj.nd rfl (bK rfl)) vy))) (au (dq (i:=2) zj.nd rfl (bK rfl) (Za d12 hr (eg_v (ak (pv 2)) (eg_v (ER.toD (di aom (e2_v (ER.toD (j7 (e2_n (pv 2) (dg (pv 3))) (λ_ _=>by rfl))) (EV.toB (ER.toD (j7 (e2_n (pv 4) (dg (pv 3))) (λ_ _=>by rfl))))))) (eg_v (ak (pv 4)) bh))))))) (au (gn (abo (pv 2))))))
theorem ag8(F:z.F "doors_square" aas f fd):z.o 1 f fd ["house"] 1 jj :=
 jt F qm rfl rfl λ_ _ _ _ _ _ hr=>
  (ao (dq (i:=1) qm.nd rfl (bK rfl) (ju bu)) (ao (vf cD rfl (adu (by rfl) T.z_enumerate (aj (ak (pv 0)) bu)) (aa7 rfl (je (cz (i:=2) qm.nd rfl (bK rfl)) (je (cz (i:=3) qm.nd rfl (oA rfl)) vy))) (ao (ade (i:=4) ["doors"] ["other","doors"] [ZX,ZY 3] qm.nd rfl (bK rfl) rfl (ue (by rfl) T.z_range (aj (ER.toD (dz mq (by rfl) T.z_len my (ea_n (pv 0) gm))) bu)) (λ_ _ _=>(cz (i:=0) (nD ["other","doors"]) rfl (bK rfl))) (λ_ _ _=>qd) (λ_ _ _=>(aex (aj8 hr.units (pv 1) (aj (ak (pv 0)) bu))))) (ao (ars (pv 4) (ak (pv 2)) (ER.toD (dz mq (by rfl) T.z_len my (ea_n (pv 3) gm))) a6q) (au (j5 (EV.toR (alw aa3 jX PySem.F.type_list_append aa5 (pv 1) (aj (ak (pv 4)) bu)))))))) (au (gn (abo (pv 1))))))
theorem afd(F:z.F "refuse_no_rows" ug f fd)(d5:Dd5 z)(d4:Dd4 z)(x4:Dx4 z):z.o 4 f fd ["house","rows"] 2 dh :=
 jt F nj rfl rfl λ_ _ _ _ _ _ hr=>
  (ao (vf cD rfl (IT.s (ux (ak (pv 1)))) (cz (i:=2) nj.nd rfl (bK rfl)) (au (ud (ET.s (ai0 (ab0 (ER.toD (Za d5 hr (eg_n (pv 0) (eg_v (ak (pv 2)) (eg_v (ev_c (awr (by rfl) T.c_MOST_ALIKE) λ_=>.int _) bh)))))))) (au ai8) j4))) (au (j5 (Za d4 hr (eg_n (pv 0) bh)))))
theorem aej(F:z.F "refuse_no_rows" ug f fd)(d5:Dd5 z)(d4:Dd4 z)(x4:Dx4 z):z.p 4 f fd ["house","rows"] 2 dh :=
 fn_x F nj rfl rfl λ_ _ _ _ _ _ hr=>
  (rm (vf cD rfl (IT.s (ux (ak (pv 1)))) (cz (i:=2) nj.nd rfl (bK rfl)) (au (ud (ET.s (ai0 (ab0 (ER.toD (Za d5 hr (eg_n (pv 0) (eg_v (ak (pv 2)) (eg_v (ev_c (awr (by rfl) T.c_MOST_ALIKE) λ_=>.int _) bh)))))))) (au ai8) j4))) (a3g rfl rfl rfl (IT.s (ux (ak (pv 1)))) jh (cz (i:=2) nj.nd rfl (bK rfl)) (au (ud (ET.s (ai0 (ab0 (ER.toD (Za d5 hr (eg_n (pv 0) (eg_v (ak (pv 2)) (eg_v (ev_c (awr (by rfl) T.c_MOST_ALIKE) λ_=>.int _) bh)))))))) (au ai8) j4)) (j0 (akn (ET.s (ai0 (ab0 (ER.toD (Za d5 hr (eg_n (pv 0) (eg_v (ak (pv 2)) (eg_v (ev_c (awr (by rfl) T.c_MOST_ALIKE) λ_=>.int _) bh)))))))) jh (j0 (aq9 rfl rfl (by rfl) T.r_NoWalkers)) aq8))) (j0 (ut (ada x4 (hr.mono (by decide)) (by rfl) (eg_n (pv 0) bh) (xa_n (pv 0) zc)))))
theorem aw3(F:z.F "given" amu f fd)(d16:Dd16 z)(d12:Dd12 z):z.o 2 f fd ["house","walkers","gives"] 3 ad3 :=
 jt F aef rfl rfl λ_ _ _ _ _ _ hr=>
  (ao (dq (i:=3) aef.nd rfl (bK rfl) (jq acq (by rfl) T.z_list abw (ea_n (pv 1) gm))) (ao (vf cD rfl (ahe (by rfl) T.z_zip (aj (ER.toD (Za d16 hr (eg_v (ak (pv 0)) bh))) (aj (ak (pv 2)) bu))) (aa7 rfl (je (cz (i:=4) aef.nd rfl (bK rfl)) (je (cz (i:=5) aef.nd rfl (bK rfl)) vy))) (au (dq (i:=3) aef.nd rfl (bK rfl) (Za d12 hr (eg_v (ak (pv 3)) (eg_n (pv 5) (eg_v (ak (pv 4)) bh))))))) (au (gn (abo (pv 3))))))
theorem ag9(F:z.F "behind_gives" w6 f fd)(d17:Dd17 z)(d18:Dd18 z)(x17:Dx17 z):z.o 5 f fd ["house","walkers","gives"] 3 jk :=
 jt F ab5 rfl rfl λ_ _ _ _ _ _ hr=>
  (ao (j5 (Za d17 hr (eg_n (pv 0) (eg_v (ER.toD (ER.s (ju (aj (ak (pv 1)) bu)))) bh)))) (au (SV.s (gn (jq xj (by rfl) T.z_tuple vd (ea_v (ER.toD (Za d18 hr (eg_v (ak (pv 0)) (eg_n (pv 1) (eg_v (ak (pv 2)) bh))))) gm))))))
theorem af9(F:z.F "behind_gives" w6 f fd)(d17:Dd17 z)(d18:Dd18 z)(x17:Dx17 z):z.p 5 f fd ["house","walkers","gives"] 3 jk :=
 fn_x F ab5 rfl rfl λ_ _ _ _ _ _ hr=>
  (rm (j5 (Za d17 hr (eg_n (pv 0) (eg_v (ER.toD (ER.s (ju (aj (ak (pv 1)) bu)))) bh)))) (ut (ada x17 (hr.mono (by decide)) (by rfl) (eg_n (pv 0) (eg_v (ER.toD (ER.s (ju (aj (ak (pv 1)) bu)))) bh)) (xa_n (pv 0) (xa_v (ER.toD (ER.s (ju (aj (ak (pv 1)) bu)))) (XE.d (XE.no jh)) zc)))) (j0 aby))
theorem aga(F:z.F "gives_between" zq f fd)(d16:Dd16 z)(d6:Dd6 z)(d12:Dd12 z)(d10:Dd10 z):z.o 3 f fd ["house","one","other"] 3 nu :=
 jt F yh rfl rfl λ_ _ _ _ _ _ hr=>
  (ao (dq (i:=3) yh.nd rfl (bK rfl) (Za d10 hr (eg_v (ER.toD (Za d6 hr (eg_v (ER.toD (Za d16 hr (eg_v (ak (pv 0)) bh))) bh))) (eg_v (ER.toD (Za d12 hr (eg_v (ak (pv 1)) (eg_v az (eg_v (ak (pv 2)) bh))))) bh)))) (ao (dq (i:=4) yh.nd rfl (oA rfl) (j7 (e2_n (pv 3) (EV.toB az)) (λ_ _=>by rfl))) (ao (ud (ab0 (ER.toD (dz (a7c rfl) (by rfl) T.z_any a7g (ea_v (ER.toD (uz ["bottom"] ["top","bottom"] [ZX,ZY 4] rfl (ux (ER.toD (j7 (e2_n (pv 3) (EV.toB az)) (λ_ _=>by rfl)))) (λ_ _ _=>(cz (i:=0) (nD ["top","bottom"]) rfl (bK rfl))) (λ_ _ _=>qd) (λ_ _ _=>(ER.toD (auo (zy hr.units) (e2_v (ER.toD (di afc (e2_n (pv 0) (dg (pv 1))))) (EV.toB az)) (jc _)))))) gm)))) (au (gn (EV.toR aiz))) j4) (au (gn (jq xj (by rfl) T.z_tuple vd (ea_v (ER.toD (uz ["bottom"] ["top","bottom"] [ZX,ZY 4] rfl (ux (ER.toD (j7 (e2_n (pv 3) (EV.toB az)) (λ_ _=>by rfl)))) (λ_ _ _=>(cz (i:=0) (nD ["top","bottom"]) rfl (bK rfl))) (λ_ _ _=>qd) (λ_ _ _=>(ER.toD (di ag7 (e2_n (pv 0) (dg (pv 1)))))))) gm)))))))
theorem ak2(F:z.F "why_alike" abg f fd)(d17:Dd17 z)(d20:Dd20 z)(x17:Dx17 z):z.o 5 f fd ["house","one","other"] 3 j6 :=
 jt F afx rfl rfl λ_ _ _ _ _ _ hr=>
  (ao (j5 (Za d17 hr (eg_n (pv 0) (eg_v (ER.toD (ER.s (ju (aj (ak (pv 1)) (aj (ak (pv 2)) bu))))) bh)))) (au (SV.s (gn (Za d20 hr (eg_v (ak (pv 0)) (eg_v (ak (pv 1)) (eg_v (ak (pv 2)) bh))))))))
theorem ajl(F:z.F "why_alike" abg f fd)(d17:Dd17 z)(d20:Dd20 z)(x17:Dx17 z):z.p 5 f fd ["house","one","other"] 3 j6 :=
 fn_x F afx rfl rfl λ_ _ _ _ _ _ hr=>
  (rm (j5 (Za d17 hr (eg_n (pv 0) (eg_v (ER.toD (ER.s (ju (aj (ak (pv 1)) (aj (ak (pv 2)) bu))))) bh)))) (ut (ada x17 (hr.mono (by decide)) (by rfl) (eg_n (pv 0) (eg_v (ER.toD (ER.s (ju (aj (ak (pv 1)) (aj (ak (pv 2)) bu))))) bh)) (xa_n (pv 0) (xa_v (ER.toD (ER.s (ju (aj (ak (pv 1)) (aj (ak (pv 2)) bu))))) (XE.d (XE.no jh)) zc)))) (j0 aby))
theorem ak4(F:z.F "are_alike" abj f fd)(d21:Dd21 z)(x21:Dx21 z):z.o 6 f fd ["house","one","other"] 3 km :=
 jt F afz rfl rfl λ_ _ _ _ _ _ hr=>
  (au (gn (EV.toR (aqr (EV.toB (ER.toD (Za d21 hr (eg_v (EV.s (ak (pv 0))) (eg_v (EV.s (ak (pv 1))) (eg_v (EV.s (ak (pv 2))) bh))))))))))
theorem ajm(F:z.F "are_alike" abj f fd)(d21:Dd21 z)(x21:Dx21 z):z.p 6 f fd ["house","one","other"] 3 km :=
 fn_x F afz rfl rfl λ_ _ _ _ _ _ hr=>
  (j0 (a3f (XE.v (apr (XE.d (ada x21 (hr.mono (by decide)) (by rfl) (eg_v (EV.s (ak (pv 0))) (eg_v (EV.s (ak (pv 1))) (eg_v (EV.s (ak (pv 2))) bh))) (xa_v (EV.s (ak (pv 0))) (XE.no jh) (xa_v (EV.s (ak (pv 1))) (XE.no jh) (xa_v (EV.s (ak (pv 2))) (XE.no jh) zc)))))))))
theorem ajp(F:z.F "least_like" aal f fd)(d17:Dd17 z)(d16:Dd16 z)(d14:Dd14 z)(d15:Dd15 z)(x17:Dx17 z):z.o 5 f fd ["house","walkers"] 2 jx :=
 jt F aeb rfl rfl λ_ _ _ _ _ _ hr=>
  (ao (j5 (Za d17 hr (eg_n (pv 0) (eg_v (ER.toD (ER.s (ju (aj (ak (pv 1)) bu)))) bh)))) (au (SV.s (gn (jq xj (by rfl) T.z_tuple vd (ea_v (ER.toD (Za d15 hr (eg_v (ER.toD (Za d14 hr (eg_v (ER.toD (Za d16 hr (eg_v (ak (pv 0)) bh))) bh))) (eg_n (pv 1) bh)))) gm))))))
theorem ah7(F:z.F "least_like" aal f fd)(d17:Dd17 z)(d16:Dd16 z)(d14:Dd14 z)(d15:Dd15 z)(x17:Dx17 z):z.p 5 f fd ["house","walkers"] 2 jx :=
 fn_x F aeb rfl rfl λ_ _ _ _ _ _ hr=>
  (rm (j5 (Za d17 hr (eg_n (pv 0) (eg_v (ER.toD (ER.s (ju (aj (ak (pv 1)) bu)))) bh)))) (ut (ada x17 (hr.mono (by decide)) (by rfl) (eg_n (pv 0) (eg_v (ER.toD (ER.s (ju (aj (ak (pv 1)) bu)))) bh)) (xa_n (pv 0) (xa_v (ER.toD (ER.s (ju (aj (ak (pv 1)) bu)))) (XE.d (XE.no jh)) zc)))) (j0 aby))
theorem ajq(F:z.F "kind_sizes" aam f fd)(d4:Dd4 z)(d16:Dd16 z)(d14:Dd14 z)(x4:Dx4 z):z.o 4 f fd ["house"] 1 jy :=
 jt F aec rfl rfl λ_ _ _ _ _ _ hr=>
  (ao (j5 (Za d4 hr (eg_n (pv 0) bh))) (au (SV.s (gn (jq xj (by rfl) T.z_tuple vd (ea_v (ER.toD (uz [] ["at","stair"] [ZX,ZX] rfl (adu (by rfl) T.z_enumerate (aj (ER.toD (Za d14 hr (eg_v (ER.toD (Za d16 hr (eg_v (ak (pv 0)) bh))) bh))) bu)) (λ_ _ _=>(aa7 rfl (je (cz (i:=0) (nD ["at","stair"]) rfl (bK rfl)) (je (cz (i:=1) (nD ["at","stair"]) rfl (bK rfl)) vy)))) (λ_ _ _=>qd) (λ_ _ _=>(ER.toD (j7 (e2_n (pv 1) (dg (pv 0))) (λ_ _=>by rfl)))))) gm))))))
theorem ah8(F:z.F "kind_sizes" aam f fd)(d4:Dd4 z)(d16:Dd16 z)(d14:Dd14 z)(x4:Dx4 z):z.p 4 f fd ["house"] 1 jy :=
 fn_x F aec rfl rfl λ_ _ _ _ _ _ hr=>
  (rm (j5 (Za d4 hr (eg_n (pv 0) bh))) (ut (ada x4 (hr.mono (by decide)) (by rfl) (eg_n (pv 0) bh) (xa_n (pv 0) zc))) (j0 aby))
theorem afe(F:z.F "how_many_kinds" uh f fd)(d4:Dd4 z)(d16:Dd16 z)(d11:Dd11 z)(x4:Dx4 z):z.o 4 f fd ["house"] 1 ig :=
 jt F aa0 rfl rfl λ_ _ _ _ _ _ hr=>
  (ao (j5 (Za d4 hr (eg_n (pv 0) bh))) (au (SV.s (gn (Za d11 hr (eg_v (ER.toD (Za d16 hr (eg_v (ak (pv 0)) bh))) bh))))))
theorem aek(F:z.F "how_many_kinds" uh f fd)(d4:Dd4 z)(d16:Dd16 z)(d11:Dd11 z)(x4:Dx4 z):z.p 4 f fd ["house"] 1 ig :=
 fn_x F aa0 rfl rfl λ_ _ _ _ _ _ hr=>
  (rm (j5 (Za d4 hr (eg_n (pv 0) bh))) (ut (ada x4 (hr.mono (by decide)) (by rfl) (eg_n (pv 0) bh) (xa_n (pv 0) zc))) (j0 aby))
theorem ajo(F:z.F "sure_gives" ab6 f fd)(d16:Dd16 z)(d6:Dd6 z)(d10:Dd10 z):z.o 3 f fd ["house","walkers"] 2 xu :=
 jt F abf rfl rfl λ_ _ _ _ _ _ hr=>
  (ao (ade (i:=2) [] ["many","doors"] [ZX,ZX] abf.nd rfl (bK rfl) rfl (ahe (by rfl) T.z_zip (aj (ak (pv 1)) (aj (ak (pv 0)) bu))) (λ_ _ _=>(aa7 rfl (je (cz (i:=0) (nD ["many","doors"]) rfl (bK rfl)) (je (cz (i:=1) (nD ["many","doors"]) rfl (bK rfl)) vy)))) (λ_ _ _=>qd) (λ_ _ _=>(ER.toD (di jw (e2_v (ER.toD (di zx (e2_n (pv 0) (EV.toB (ER.toD (dz mq (by rfl) T.z_len my (ea_n (pv 1) gm))))))) (EV.toB az)))))) (ao (dq (i:=3) abf.nd rfl (oA rfl) (Za d10 hr (eg_v (ER.toD (Za d6 hr (eg_v (ER.toD (Za d16 hr (eg_v (ak (pv 0)) bh))) bh))) (eg_v (ak (pv 2)) bh)))) (au (gn (uz ["told"] ["top","told"] [ZX,ZY 3] rfl (ux (ER.toD (j7 (e2_n (pv 3) (EV.toB az)) (λ_ _=>by rfl)))) (λ_ _ _=>(cz (i:=0) (nD ["top","told"]) rfl (bK rfl))) (λ_ _ _=>qd) (λ_ _ _=>(ER.toD (dz (aze rfl) (by rfl) T.z_max azh (ea_v az (ea_v (aex (ER.toD (di ag7 (e2_v (aex (ak (pv 0))) (EV.toB (ER.toD (j7 (e2_n (pv 1) (EV.toB az)) (λ_ _=>by rfl)))))))) gm))))))))))
theorem ak3(F:z.F "gives_due" adf f fd):z.o 1 f fd ["room","doors","many"] 3 aad :=
 jt F afy rfl rfl λ_ _ _ _ _ _ hr=>
  (ao (ud (jf ak1 (e2_n (pv 2) (EV.toB (ER.toD (dz mq (by rfl) T.z_len my (ea_n (pv 1) gm))))) (jc _)) (au (gn (EV.toR az))) j4) (ao (dq (i:=3) afy.nd rfl (bK rfl) (di zx (e2_v (ER.toD (dz mq (by rfl) T.z_len my (ea_n (pv 1) gm))) (EV.toB (aj8 hr.units (pv 1) (aj (ak (pv 0)) bu)))))) (au (gn (EV.toR (aex (ER.toD (di ag7 (e2_v (aex (ER.toD (di jw (e2_v (ER.toD (di zx (e2_n (pv 2) (EV.toB (ER.toD (dz mq (by rfl) T.z_len my (ea_n (pv 1) gm))))))) (EV.toB az))))) (dg (pv 3)))))))))))
theorem aqc(F:z.F "settled" aeg f fd)(d17:Dd17 z)(d26:Dd26 z)(d18:Dd18 z)(d16:Dd16 z)(d27:Dd27 z)(x17:Dx17 z):z.o 5 f fd ["house","walkers"] 2 f_settled :=
 jt F jg rfl rfl λ_ _ _ _ _ _ hr=>
  (ao (j5 (Za d17 hr (eg_n (pv 0) (eg_v (ER.toD (ER.s (ju (aj (ak (pv 1)) bu)))) bh)))) (ao (SV.s (dq (i:=2) jg.nd rfl (bK rfl) (Za d26 hr (eg_v (ak (pv 0)) (eg_v (ak (pv 1)) bh))))) (ao (SV.s (dq (i:=3) jg.nd rfl (bK rfl) (Za d18 hr (eg_v (ak (pv 0)) (eg_n (pv 1) (eg_v (ak (pv 2)) bh)))))) (ao (SV.s (dq (i:=4) jg.nd rfl (bK rfl) (Za d16 hr (eg_v (ak (pv 0)) bh)))) (ao (SV.s (dq (i:=5) jg.nd rfl (bK rfl) (EV.toR ad4))) (ao (SV.s (aea fuel cD (ab0 (ak (pv 5))) (ao (dq (i:=5) jg.nd rfl (bK rfl) (EV.toR ad4)) (au (vf cD rfl (adu (by rfl) T.z_enumerate (aj (ak (pv 0)) bu)) (aa7 rfl (je (cz (i:=6) jg.nd rfl (bK rfl)) (je (cz (i:=7) jg.nd rfl (bK rfl)) vy))) (ao (dq (i:=8) jg.nd rfl (bK rfl) (Za d27 hr (eg_v (ak (pv 6)) (eg_n (pv 7) (eg_v (ER.toD (j7 (e2_n (pv 3) (dg (pv 6))) (λ_ _=>by rfl))) bh))))) (au (ud (jf asv (e2_n (pv 8) (EV.toB az)) (jc _)) arq j4)))))))) (au (SV.s (gn (EV.toR (jz (aj (ER.toD (jq xj (by rfl) T.z_tuple vd (ea_n (pv 3) gm))) (aj (ER.toD (jq xj (by rfl) T.z_tuple vd (ea_n (pv 2) gm))) bu)))))))))))))
theorem am1(F:z.F "settled" aeg f fd)(d17:Dd17 z)(d26:Dd26 z)(d18:Dd18 z)(d16:Dd16 z)(d27:Dd27 z)(x17:Dx17 z):z.p 5 f fd ["house","walkers"] 2 f_settled :=
 fn_x F jg rfl rfl λ_ _ _ _ _ _ hr=>
  (rm (j5 (Za d17 hr (eg_n (pv 0) (eg_v (ER.toD (ER.s (ju (aj (ak (pv 1)) bu)))) bh)))) (ut (ada x17 (hr.mono (by decide)) (by rfl) (eg_n (pv 0) (eg_v (ER.toD (ER.s (ju (aj (ak (pv 1)) bu)))) bh)) (xa_n (pv 0) (xa_v (ER.toD (ER.s (ju (aj (ak (pv 1)) bu)))) (XE.d (XE.no jh)) zc)))) (rm (SV.s (dq (i:=2) jg.nd rfl (bK rfl) (Za d26 hr (eg_v (ak (pv 0)) (eg_v (ak (pv 1)) bh))))) aby (rm (SV.s (dq (i:=3) jg.nd rfl (bK rfl) (Za d18 hr (eg_v (ak (pv 0)) (eg_n (pv 1) (eg_v (ak (pv 2)) bh)))))) aby (rm (SV.s (dq (i:=4) jg.nd rfl (bK rfl) (Za d16 hr (eg_v (ak (pv 0)) bh)))) aby (rm (SV.s (dq (i:=5) jg.nd rfl (bK rfl) (EV.toR ad4))) aby (rm (SV.s (aea fuel cD (ab0 (ak (pv 5))) (ao (dq (i:=5) jg.nd rfl (bK rfl) (EV.toR ad4)) (au (vf cD rfl (adu (by rfl) T.z_enumerate (aj (ak (pv 0)) bu)) (aa7 rfl (je (cz (i:=6) jg.nd rfl (bK rfl)) (je (cz (i:=7) jg.nd rfl (bK rfl)) vy))) (ao (dq (i:=8) jg.nd rfl (bK rfl) (Za d27 hr (eg_v (ak (pv 6)) (eg_n (pv 7) (eg_v (ER.toD (j7 (e2_n (pv 3) (dg (pv 6))) (λ_ _=>by rfl))) bh))))) (au (ud (jf asv (e2_n (pv 8) (EV.toB az)) (jc _)) arq j4)))))))) aby (j0 aby)))))))
theorem ak8(F:z.F "_law_cell" adl f fd):z.o 1 f fd ["script","k"] 2 f__law_cell :=
 jt F aky rfl rfl λ_ _ _ _ _ _ hr=>
  (ao (ud (jf ak1 (e2_n (pv 1) (EV.toB (ER.toD (dz mq (by rfl) T.z_len my (ea_n (pv 0) gm))))) (jc _)) (au (gn (j7 (e2_n (pv 0) (dg (pv 1))) (λ_ _=>by rfl)))) j4) (au (gn (EV.toR az))))
theorem am5(F:z.F "_law_pen" ae9 f fd):z.o 1 f fd ["cell"] 1 f__law_pen :=
 jt F ag0 rfl rfl λ_ _ _ _ _ _ hr=>
  (ao (dq (i:=1) ag0.nd rfl (bK rfl) (dz (aze rfl) (by rfl) T.z_max azh (ea_n (pv 0) (ea_v (ER.toD (di zx (e2_v az (dg (pv 0))))) gm)))) (au (gn (ju (aj (ak (pv 1)) (aj (ER.toD (jq a7b (by rfl) T.z_int avi (ea_v (ER.toD (auo aol (e2_n (pv 1) (EV.toB (ER.toD (di amz (e2_v az (EV.toB az)))))) (jc _))) gm))) bu))))))
theorem ak7(F:z.F "_law_draw" adk f fd):z.o 1 f fd ["pen","many"] 2 f__law_draw :=
 jt F xq rfl rfl λ_ _ _ _ _ _ hr=>
  (ao (ud (jf (xr hr.units) (e2_v (ER.toD (j7 (e2_n (pv 0) (EV.toB az)) (λ_ _=>by rfl))) (EV.toB az)) (jc _)) (ao (a3u (ER.toD (dz au9 (by rfl) T.z_divmod avj (ea_v (ER.toD (j7 (e2_n (pv 0) (EV.toB az)) (λ_ _=>by rfl))) (ea_n (pv 1) gm)))) (aa7 rfl (je (cz (i:=2) xq.nd rfl (bK rfl)) (je (cz (i:=3) xq.nd rfl (bK rfl)) vy)))) (ao (aob (ak (pv 2)) (pv 0) az) (au (gn (abo (pv 3)))))) j4) (ao (dq (i:=4) xq.nd rfl (bK rfl) (di afc (e2_v (ER.toD (di vq (e2_v (ER.toD (di jw (e2_v (ER.toD (di afc (e2_v (ER.toD (j7 (e2_n (pv 0) (EV.toB az)) (λ_ _=>by rfl))) (EV.toB az)))) (EV.toB az)))) (EV.toB az)))) (EV.toB az)))) (ao (dq (i:=4) xq.nd rfl (bK rfl) (di afc (e2_v (ER.toD (di jw (e2_v (ER.toD (di vq (e2_n (pv 4) (dg (pv 4))))) (EV.toB az)))) (EV.toB az)))) (ao (aob (ER.toD (di afc (e2_v (ER.toD (di jw (e2_v (ER.toD (di vq (e2_n (pv 4) (EV.toB az)))) (EV.toB az)))) (EV.toB az)))) (pv 0) az) (au (gn (di afc (e2_v (ER.toD (di ag7 (e2_v (ER.toD (j7 (e2_n (pv 0) (EV.toB az)) (λ_ _=>by rfl))) (EV.toB az)))) (dg (pv 1))))))))))
theorem ah9(F:z.F "_law_whole" ab8 f fd):FnOkU z.P z.w z.K z.mg z.base 1 f fd ["thing"] (spOf z.K 1 xx) :=
 aui F ajc rfl rfl λ_ _ _ _ _ hr=>
  (au (gn (EV.toR (apd (alx (t:=.int) (ap8 (by rfl) T.z_int avi) (by rfl) T.z_isinstance fc (dg (pv 0))) (apb (ay5 (alx (t:=.bool) (ap8 (by rfl) T.z_bool avk) (by rfl) T.z_isinstance fc (dg (pv 0)))))))))
theorem ajs(F:z.F "_law_house" ab9 f fd)(d31:Dd31 z):z.o 2 f fd ["pen","most","doors"] 3 f__law_house :=
 jt F rn rfl rfl λ_ _ _ _ _ _ hr=>
  (ao (dq (i:=3) rn.nd rfl (oA rfl) (di jw (e2_v az (EV.toB (ER.toD (Za d31 hr (eg_n (pv 0) (eg_n (pv 1) bh)))))))) (ao (dq (i:=4) rn.nd rfl (oA rfl) (j7 (e2_v (ER.toD (ju (aj az (aj az (aj az (aj az bu)))))) (EV.toB (ER.toD (Za d31 hr (eg_n (pv 0) (eg_v az bh)))))) (λ_ _=>by rfl))) (ao (dq (i:=5) rn.nd rfl (bK rfl) (ju bu)) (ao (vf cD rfl (ue (by rfl) T.z_range (aj (ak (pv 3)) bu)) (cz (i:=6) rn.nd rfl (bK rfl)) (ao (dq (i:=7) rn.nd rfl (bK rfl) (di jw (e2_v az (EV.toB (ER.toD (Za d31 hr (eg_n (pv 0) (eg_n (pv 2) bh)))))))) (au (j5 (EV.toR (alw aa3 jX PySem.F.type_list_append aa5 (pv 5) (aj (ER.toD (jq xj (by rfl) T.z_tuple vd (ea_v (ER.toD (uz ["pen","many","gates"] ["door","pen","many","gates"] [ZX,ZY 0,ZY 3,ZY 4] rfl (ue (by rfl) T.z_range (aj (ak (pv 7)) bu)) (λ_ _ _=>(cz (i:=0) (nD ["door","pen","many","gates"]) rfl (bK rfl))) (λ_ _ _=>qd) (λ_ _ _=>(ER.toD (di zx (e2_v (ER.toD (Za d31 hr (eg_n (pv 1) (eg_v (ER.toD (di jw (e2_n (pv 2) (dg (pv 3))))) bh)))) (dg (pv 3)))))))) gm))) bu))))))) (au (gn (jq xj (by rfl) T.z_tuple vd (ea_n (pv 5) gm))))))))
theorem aha(F:z.F "_law_reached" aat f fd):z.o 1 f fd ["house","room"] 2 qe :=
 jt F qp rfl rfl λ_ _ _ _ _ _ hr=>
  (ao (dq (i:=2) qp.nd rfl (oA rfl) (ju (aj (ak (pv 1)) bu))) (ao (dq (i:=3) qp.nd rfl (bK rfl) (EV.toR az)) (ao (aea fuel cD (jf ak1 (e2_n (pv 3) (EV.toB (ER.toD (dz mq (by rfl) T.z_len my (ea_n (pv 2) gm))))) (jc _)) (ao (ud (jf aol (e2_v (ER.toD (j7 (e2_n (pv 2) (dg (pv 3))) (λ_ _=>by rfl))) (EV.toB az)) (jc _)) (au (dq (i:=2) qp.nd rfl (oA rfl) (di jw (e2_n (pv 2) (EV.toB (ER.toD (uz ["found"] ["door","found"] [ZX,ZY 2] rfl (ux (ER.toD (al0 rfl (by rfl) T.z_sorted avh (by rfl) T.z_set a7f (ea_v (ER.toD (j7 (e2_n (pv 0) (EV.toB (ER.toD (j7 (e2_n (pv 2) (dg (pv 3))) (λ_ _=>by rfl))))) (λ_ _=>by rfl))) gm)))) (λ_ _ _=>(cz (i:=0) (nD ["door","found"]) rfl (bK rfl))) (λ_ _ _=>(akd (jf (asu hr.units) (e2_n (pv 0) (dg (pv 1))) (by with_unfolding_all rfl)))) (λ_ _ _=>(ak (pv 0)))))))))) j4) (au (dq (i:=3) qp.nd rfl (bK rfl) (di jw (e2_n (pv 3) (EV.toB az))))))) (au (gn (abo (pv 2)))))))
theorem ak6(F:z.F "_law_open" adh f fd)(d33:Dd33 z)(d34:Dd34 z)(d31:Dd31 z):z.o 3 f fd ["pen","most","doors"] 3 f__law_open :=
 jt F aak rfl rfl λ_ _ _ _ _ _ hr=>
  (ao (dq (i:=3) aak.nd rfl (bK rfl) (jq acq (by rfl) T.z_list abw (ea_v (ER.toD (Za d33 hr (eg_n (pv 0) (eg_n (pv 1) (eg_n (pv 2) bh))))) gm))) (ao (vf cD rfl (ue (by rfl) T.z_range (aj (ER.toD (dz mq (by rfl) T.z_len my (ea_n (pv 3) gm))) bu)) (cz (i:=4) aak.nd rfl (bK rfl)) (au (ud (jf aol (e2_v (ER.toD (dz (au8 rfl) (by rfl) T.z_min azg (ea_v (ER.toD (Za d34 hr (eg_n (pv 3) (eg_v (ak (pv 4)) bh)))) gm))) (EV.toB az)) (jc _)) (ao (dq (i:=5) aak.nd rfl (bK rfl) (Za d31 hr (eg_n (pv 0) (eg_v (ER.toD (dz mq (by rfl) T.z_len my (ea_v (ER.toD (j7 (e2_n (pv 3) (dg (pv 4))) (λ_ _=>by rfl))) gm))) bh)))) (au (aob (ER.toD (di jw (e2_v (ER.toD (di jw (e2_v (ER.toD (ay7 (ER.toD (j7 (e2_n (pv 3) (dg (pv 4))) (λ_ _=>by rfl))) afo (aco (ak (pv 5))))) (EV.toB (jz (aj (ER.toD (di zx (e2_v (aex az) (EV.toB (ER.toD (Za d31 hr (eg_n (pv 0) (eg_v az bh)))))))) bu)))))) (EV.toB (ER.toD (ay7 (ER.toD (j7 (e2_n (pv 3) (dg (pv 4))) (λ_ _=>by rfl))) (aco (ER.toD (di jw (e2_n (pv 5) (EV.toB az))))) afo)))))) (pv 3) (ak (pv 4))))) j4))) (au (gn (jq xj (by rfl) T.z_tuple vd (ea_n (pv 3) gm))))))
theorem ajn(F:z.F "_law_kind" adi f fd):FnOkU z.P z.w z.K z.mg z.base 1 f fd ["e"] (spOf z.K 1 ww) :=
 aui F xn rfl rfl λ_ _ _ _ _ hr=>
  (ao (dq (i:=1) xn.nd rfl (bK rfl) (ju (aj (yo T.sub (by decide +kernel) (by rfl) T.k_NoArrows (by rfl) T.z_isinstance fc (dg (pv 0))) (aj (yo T.sub (by decide +kernel) (by rfl) T.k_NoRoom (by rfl) T.z_isinstance fc (dg (pv 0))) (aj (yo T.sub (by decide +kernel) (by rfl) T.k_NoWalkers (by rfl) T.z_isinstance fc (dg (pv 0))) (aj (yo T.sub (by decide +kernel) (by rfl) T.k_NotShut (by rfl) T.z_isinstance fc (dg (pv 0))) bu)))))) (ao (dq (i:=1) xn.nd rfl (bK rfl) (di jw (e2_n (pv 1) (EV.toB (ER.toD (ju (aj (yo T.sub (by decide +kernel) (by rfl) T.k_NeverBack (by rfl) T.z_isinstance fc (dg (pv 0))) (aj (yo T.sub (by decide +kernel) (by rfl) T.k_NoTour (by rfl) T.z_isinstance fc (dg (pv 0))) (aj (yo T.sub (by decide +kernel) (by rfl) T.k_NoRow (by rfl) T.z_isinstance fc (dg (pv 0))) (aj (yo T.sub (by decide +kernel) (by rfl) T.k_NoHouse (by rfl) T.z_isinstance fc (dg (pv 0))) bu)))))))))) (ao (dq (i:=1) xn.nd rfl (bK rfl) (di jw (e2_n (pv 1) (EV.toB (ER.toD (ju (aj (yo T.sub (by decide +kernel) (by rfl) T.k_NotOpen (by rfl) T.z_isinstance fc (dg (pv 0))) (aj (yo T.sub (by decide +kernel) (by rfl) T.k_Nobody (by rfl) T.z_isinstance fc (dg (pv 0))) (aj (yo T.sub (by decide +kernel) (by rfl) T.k_NoText (by rfl) T.z_isinstance fc (dg (pv 0))) (aj (yo T.sub (by decide +kernel) (by rfl) T.k_TooGreat (by rfl) T.z_isinstance fc (dg (pv 0))) bu)))))))))) (ao (ud (EW.pt (a2c (ai0 (ab0 (a2f T.sub (by rfl) T.z_ValueError akj (by rfl) T.z_isinstance fc (dg (pv 0))))) (aul (jf (zy hr.units) (e2_v (aj8 hr.units (pv 1) (aj ad4 bu)) (EV.toB az)) (jc _))))) (au (gn (EV.toR qz))) j4) (ao (dq (i:=2) xn.nd rfl (bK rfl) (ju (aj qz (aj qz (aj qz (aj qz (aj qz (aj qz (aj qz (aj qz (aj qz (aj qz (aj qz (aj qz bu)))))))))))))) (au (gn (j7 (e2_n (pv 2) (EV.toB (a2e vM PySem.F.type_list_index (aw7 hr.units) (pv 1) (aj ad4 bu)))) (λ_ _=>by rfl)))))))))
theorem aeo(F:z.F "_law_no_walkers" vo f fd)(d31:Dd31 z):z.o 2 f fd ["pen","house"] 2 f__law_no_walkers :=
 jt F mj rfl rfl λ_ _ _ _ _ _ hr=>
  (ao (dq (i:=2) mj.nd rfl (bK rfl) (dz mq (by rfl) T.z_len my (ea_n (pv 1) gm))) (ao (dq (i:=3) mj.nd rfl (bK rfl) (Za d31 hr (eg_n (pv 0) (eg_n (pv 2) bh)))) (ao (dq (i:=4) mj.nd rfl (bK rfl) (j7 (e2_v (ER.toD (ju (aj (ER.toD (di jw (e2_v (ER.toD (di amz (e2_v az (EV.toB az)))) (EV.toB az)))) (aj (aex az) (aj ad4 (aj aiz (aj qz (aj (jz (aj az bu)) (aj ad4 bu))))))))) (EV.toB (ER.toD (Za d31 hr (eg_n (pv 0) (eg_v az bh)))))) (λ_ _=>by rfl))) (ao (dq (i:=5) mj.nd rfl (bK rfl) (ju (aj (ER.toD (di agi (e2_v (jz (aj az bu)) (EV.toB (ER.toD (di jw (e2_n (pv 2) (EV.toB az)))))))) (aj (ER.toD (di agi (e2_v (jz (aj az bu)) (EV.toB (ER.toD (di zx (e2_n (pv 2) (EV.toB az)))))))) (aj (ER.toD (di vq (e2_v (ER.toD (ju (aj az bu))) (dg (pv 2))))) (aj aiz (aj (ER.toD (di jw (e2_v (ER.toD (di jw (e2_v (ER.toD (di agi (e2_v (jz (aj az bu)) (dg (pv 3))))) (EV.toB (jz (aj (ak (pv 4)) bu)))))) (EV.toB (ER.toD (di agi (e2_v (jz (aj az bu)) (EV.toB (ER.toD (di zx (e2_v (ER.toD (di zx (e2_n (pv 2) (EV.toB az)))) (dg (pv 3))))))))))))) (aj axz bu)))))))) (au (gn (j7 (e2_n (pv 5) (EV.toB (ER.toD (Za d31 hr (eg_n (pv 0) (eg_v az bh)))))) (λ_ _=>by rfl))))))))
theorem ak5(F:z.F "_law_told" adg f fd)(d19:Dd19 z)(d23:Dd23 z)(d28:Dd28 z)(d22:Dd22 z)(d21:Dd21 z)(d24:Dd24 z)(d25:Dd25 z)(x19:Dx19 z)(x23:Dx23 z)(x28:Dx28 z)(x22:Dx22 z)(x21:Dx21 z)(x24:Dx24 z)(x25:Dx25 z)(u36:Du36 z)(u32:Du32 z):z.o 7 f fd ["way","house","one","other"] 4 fu :=
 jt F af0 rfl rfl λ_ _ _ _ _ _ hr=>
  (ao (az0 rfl rfl rfl rfl af0.nd rfl rfl (by rfl) T.cat T.sub (by decide +kernel) (au (ud (ET.s (jf (xr hr.units) (e2_n (pv 0) (EV.toB az)) (jc _))) (au (j5 (Za d19 hr (eg_v (EV.s (ak (pv 1))) (eg_v (EV.s (ak (pv 2))) (eg_v (ER.toD (ER.s (di vq (e2_v (jz (aj az bu)) (EV.toB (ER.toD (dz mq (by rfl) T.z_len my (ea_n (pv 1) gm)))))))) bh)))))) (au (ud (ET.s (jf (xr hr.units) (e2_n (pv 0) (EV.toB az)) (jc _))) (au (j5 (Za d23 hr (eg_v (EV.s (ak (pv 1))) (eg_v (EV.s (ak (pv 2))) bh))))) (au (ud (ET.s (jf (xr hr.units) (e2_n (pv 0) (EV.toB az)) (jc _))) (au (j5 (Za d28 hr (eg_v (EV.s (ak (pv 1))) (eg_v (EV.s (ak (pv 2))) bh))))) (au (ud (ET.s (jf (xr hr.units) (e2_n (pv 0) (EV.toB az)) (jc _))) (au (j5 (Za d22 hr (eg_v (EV.s (ak (pv 1))) (eg_v (EV.s (ak (pv 2))) (eg_v (EV.s (ak (pv 3))) bh)))))) (au (ud (ET.s (jf (xr hr.units) (e2_n (pv 0) (EV.toB az)) (jc _))) (au (j5 (Za d21 hr (eg_v (EV.s (ak (pv 1))) (eg_v (EV.s (ak (pv 2))) (eg_v (EV.s (ak (pv 3))) bh)))))) (au (ud (ET.s (jf (xr hr.units) (e2_n (pv 0) (EV.toB az)) (jc _))) (au (j5 (Za d24 hr (eg_v (EV.s (ak (pv 1))) bh)))) (au (j5 (Za d25 hr (eg_v (EV.s (ak (pv 1))) bh)))))))))))))))) (j0 (akn (ET.s (jf (xr hr.units) (e2_n (pv 0) (EV.toB az)) (jc _))) jh (j0 (ut (ada x19 (hr.mono (by decide)) (by rfl) (eg_v (EV.s (ak (pv 1))) (eg_v (EV.s (ak (pv 2))) (eg_v (ER.toD (ER.s (di vq (e2_v (jz (aj az bu)) (EV.toB (ER.toD (dz mq (by rfl) T.z_len my (ea_n (pv 1) gm)))))))) bh))) (xa_v (EV.s (ak (pv 1))) (XE.no jh) (xa_v (EV.s (ak (pv 2))) (XE.no jh) (xa_v (ER.toD (ER.s (di vq (e2_v (jz (aj az bu)) (EV.toB (ER.toD (dz mq (by rfl) T.z_len my (ea_n (pv 1) gm)))))))) (XE.d (XE.no jh)) zc)))))) (j0 (akn (ET.s (jf (xr hr.units) (e2_n (pv 0) (EV.toB az)) (jc _))) jh (j0 (ut (ada x23 (hr.mono (by decide)) (by rfl) (eg_v (EV.s (ak (pv 1))) (eg_v (EV.s (ak (pv 2))) bh)) (xa_v (EV.s (ak (pv 1))) (XE.no jh) (xa_v (EV.s (ak (pv 2))) (XE.no jh) zc))))) (j0 (akn (ET.s (jf (xr hr.units) (e2_n (pv 0) (EV.toB az)) (jc _))) jh (j0 (ut (ada x28 (hr.mono (by decide)) (by rfl) (eg_v (EV.s (ak (pv 1))) (eg_v (EV.s (ak (pv 2))) bh)) (xa_v (EV.s (ak (pv 1))) (XE.no jh) (xa_v (EV.s (ak (pv 2))) (XE.no jh) zc))))) (j0 (akn (ET.s (jf (xr hr.units) (e2_n (pv 0) (EV.toB az)) (jc _))) jh (j0 (ut (ada x22 (hr.mono (by decide)) (by rfl) (eg_v (EV.s (ak (pv 1))) (eg_v (EV.s (ak (pv 2))) (eg_v (EV.s (ak (pv 3))) bh))) (xa_v (EV.s (ak (pv 1))) (XE.no jh) (xa_v (EV.s (ak (pv 2))) (XE.no jh) (xa_v (EV.s (ak (pv 3))) (XE.no jh) zc)))))) (j0 (akn (ET.s (jf (xr hr.units) (e2_n (pv 0) (EV.toB az)) (jc _))) jh (j0 (ut (ada x21 (hr.mono (by decide)) (by rfl) (eg_v (EV.s (ak (pv 1))) (eg_v (EV.s (ak (pv 2))) (eg_v (EV.s (ak (pv 3))) bh))) (xa_v (EV.s (ak (pv 1))) (XE.no jh) (xa_v (EV.s (ak (pv 2))) (XE.no jh) (xa_v (EV.s (ak (pv 3))) (XE.no jh) zc)))))) (j0 (akn (ET.s (jf (xr hr.units) (e2_n (pv 0) (EV.toB az)) (jc _))) jh (j0 (ut (ada x24 (hr.mono (by decide)) (by rfl) (eg_v (EV.s (ak (pv 1))) bh) (xa_v (EV.s (ak (pv 1))) (XE.no jh) zc)))) (j0 (ut (ada x25 (hr.mono (by decide)) (by rfl) (eg_v (EV.s (ak (pv 1))) bh) (xa_v (EV.s (ak (pv 1))) (XE.no jh) zc)))))))))))))))) (λev=>(ao (ud (jf (xr (hr.mark ev).units) (e2_v (ER.toD (aun u36 ((hr.mark ev).mono (by decide)) (by rfl) (eg_n (pv 4) bh))) (EV.toB qz)) (jc _)) (au (gn (EV.toR (jz (aj qz (aj (ER.toD (ax0 (ab0 (ER.toD (aun u32 ((hr.mark ev).mono (by decide)) (by rfl) (eg_v (ay6 (ao9 T.n_room) (ak (pv 4))) bh)))) (EV.toR (ay6 (ao9 T.n_room) (ak (pv 4)))) (EV.toR aiz))) bu)))))) j4) (au (gn (EV.toR (jz (aj (ER.toD (aun u36 ((hr.mark ev).mono (by decide)) (by rfl) (eg_n (pv 4) bh))) (aj az bu))))))))) (au (gn (EV.toR (jz (aj qz (aj az bu)))))))
theorem am6(F:z.F "_law_due" afa f fd)(d34:Dd34 z):z.o 2 f fd ["house"] 1 zb :=
 jt F ag1 rfl rfl λ_ _ _ _ _ _ hr=>
  (ao (ade (i:=1) ["house"] ["one","house"] [ZX,ZY 0] ag1.nd rfl (bK rfl) rfl (ue (by rfl) T.z_range (aj (ER.toD (dz mq (by rfl) T.z_len my (ea_n (pv 0) gm))) bu)) (λ_ _ _=>(cz (i:=0) (nD ["one","house"]) rfl (bK rfl))) (λ_ _ _=>(akd (jf aol (e2_v (ER.toD (dz (au8 rfl) (by rfl) T.z_min azg (ea_v (ER.toD (Za d34 hr (eg_n (pv 1) (eg_n (pv 0) bh)))) gm))) (EV.toB az)) (jc _)))) (λ_ _ _=>(ak (pv 0)))) (ao (ud (jf (zy hr.units) (e2_n (pv 1) (EV.toB (ER.toD (ju bu)))) (jc _)) (au (gn (EV.toR (jz (aj qz (aj (ER.toD (j7 (e2_n (pv 1) (EV.toB az)) (λ_ _=>by rfl))) bu)))))) j4) (au (gn (EV.toR (jz (aj qz (aj az bu))))))))
theorem a5n(F:z.F "law" ajf f fd)(d38:Dd38 z)(d29:Dd29 z)(d30:Dd30 z)(d33:Dd33 z)(d35:Dd35 z)(d31:Dd31 z)(d39:Dd39 z)(d37:Dd37 z):z.o 8 f fd ["script"] 1 auk :=
 jt F ab4 rfl rfl λ_ _ _ _ _ _ hr=>
  (ao (vf cD rfl (ue (by rfl) T.z_range (aj az bu)) (cz (i:=1) ab4.nd rfl (bK rfl)) (au (ud (EW.pt (a2c (jf (zy hr.units) (e2_v (ER.toD (Za d38 hr (eg_n (pv 1) (eg_v (jz (aj (jz (aj az bu)) bu)) (eg_v (jz (aj az bu)) (eg_v (jz (aj az bu)) bh)))))) (EV.toB (jz (aj qz (aj az bu))))) (jc _)) (aul (jf (zy hr.units) (e2_v (ER.toD (Za d38 hr (eg_n (pv 1) (eg_v (jz (aj (jz (aj (aex az) bu)) bu)) (eg_v (jz (aj az bu)) (eg_v (jz (aj az bu)) bh)))))) (EV.toB (jz (aj qz (aj az bu))))) (jc _))))) (au (gn (EV.toR ad4))) j4))) (ao (vf cD rfl (ux (ER.toD (di jw (e2_v (ER.toD (ju (aj (ER.toD (Za d29 hr (eg_n (pv 0) (eg_v az bh)))) bu))) (EV.toB (ER.toD (aho (pv 0) (aco az) (aco az)))))))) (cz (i:=2) ab4.nd rfl (bK rfl)) (ao (dq (i:=3) ab4.nd rfl (bK rfl) (Za d30 hr (eg_n (pv 2) bh))) (au (vf cD rfl (ux (ER.toD (ju (aj (ER.toD (Za d33 hr (eg_n (pv 3) (eg_v az (eg_v az bh))))) (aj (ER.toD (Za d35 hr (eg_n (pv 3) (eg_v az (eg_v az bh))))) bu))))) (cz (i:=4) ab4.nd rfl (bK rfl)) (ao (dq (i:=5) ab4.nd rfl (bK rfl) (di vq (e2_v (jz (aj az bu)) (EV.toB (ER.toD (dz mq (by rfl) T.z_len my (ea_n (pv 4) gm))))))) (ao (dq (i:=6) ab4.nd rfl (bK rfl) (j7 (e2_v (ER.toD (ju (aj (ak (pv 5)) (aj (ER.toD (di jw (e2_v (jz (aj (ER.toD (di amz (e2_v az (EV.toB az)))) bu)) (EV.toB (ER.toD (aho (pv 5) (aco az) afo)))))) bu)))) (EV.toB (ER.toD (Za d31 hr (eg_n (pv 3) (eg_v az bh)))))) (λ_ _=>by rfl))) (ao (dq (i:=7) ab4.nd rfl (bK rfl) (Za d39 hr (eg_n (pv 4) bh))) (au (vf cD rfl (ue (by rfl) T.z_range (aj az bu)) (cz (i:=1) ab4.nd rfl (bK rfl)) (ao (dq (i:=8) ab4.nd rfl (bK rfl) (Za d37 hr (eg_n (pv 3) (eg_n (pv 4) bh)))) (ao (ud (EW.pt (ay4 (jf ak1 (e2_n (pv 1) (EV.toB az)) (jc _)) (aum (jf (zy hr.units) (e2_v (ER.toD (Za d38 hr (eg_n (pv 1) (eg_v (ak (pv 4)) (eg_v (ak (pv 8)) (eg_v (ak (pv 5)) bh)))))) (EV.toB (jz (aj qz (aj az bu))))) (jc _))))) (au (gn (EV.toR ad4))) j4) (ao (ud (EW.pt (ay4 (jf (ays hr.units) (e2_n (pv 1) (EV.toB (jz (aj az (aj az bu))))) (by with_unfolding_all rfl)) (aum (jf (zy hr.units) (e2_v (ER.toD (Za d38 hr (eg_n (pv 1) (eg_v (ak (pv 4)) (eg_v (ak (pv 5)) (eg_v (ak (pv 8)) bh)))))) (EV.toB (jz (aj qz (aj az bu))))) (jc _))))) (au (gn (EV.toR ad4))) j4) (ao (dq (i:=9) ab4.nd rfl (bK rfl) (ax0 (jf (xr hr.units) (e2_n (pv 1) (EV.toB az)) (jc _)) (EV.toR (ak (pv 5))) (EV.toR (ak (pv 6))))) (au (ud (EW.pt (a2c (jf (zy hr.units) (e2_v (ER.toD (Za d38 hr (eg_n (pv 1) (eg_v (ak (pv 4)) (eg_v (ak (pv 9)) (eg_v (ak (pv 6)) bh)))))) (dg (pv 7))) (jc _)) (aul (jf (zy hr.units) (e2_v (ER.toD (Za d38 hr (eg_n (pv 1) (eg_v (ak (pv 4)) (eg_v (ak (pv 5)) (eg_v (ak (pv 9)) bh)))))) (dg (pv 7))) (jc _))))) (au (gn (EV.toR ad4))) j4))))))))))))))) (au (gn (EV.toR ad4)))))
end
abbrev Q(K:Fg9)(x:Str)(st:jG)(f:bB)(oc:aH)(od:Option bB)(kV dc pm:aH)(an:Option bB)(cd ct:aH)(sl:Array (Option aH)):Prop:=nsIn K aW x=ZY (ZY (.ref f))/\K.lookup f=ZY ⟨oc,od,.func (fnOf x x (oh st) (jm st) (aq st) .none kV dc pm an cd ct),sl⟩/\codeIn K cd x=ZW/\oH K (.ref f)=ZW
section
variable{K:Fg9}{x:Str}{st:jG}{f:bB}{oc:aH}{od:Option bB}{kV dc pm:aH}{an:Option bB}{cd ct:aH}{sl:Array (Option aH)}(q:Q K x st f oc od kV dc pm an cd ct sl){h:iK}{mg:Str->Option aH}
include q
theorem Q.F:Fun K x x st f (fnOf x x (oh st) (jm st) (aq st) .none kV dc pm an cd ct):=auc q.2.1 q.2.2.1 q.2.2.2
theorem Q.E{ps:List Str}(X:K.In h)(G:h.Ns aW mg)(b:∀(kV doc pm:aH) (an:Option bB) (cdv ct:aH) (us:List aH),us.length=ps.length->oK (fnOf x x (oh st) (jm st) (aq st) .none kV doc pm an cdv ct) ⟨us,[]⟩=pure (ps.zip us)):mg x=ZY (.ref f)/\oH K (.ref f)=ZW/\Binds K (fnOf x x (oh st) (jm st) (aq st) .none kV dc pm an cd ct) ps []:=⟨mg_of X G q.1,q.2.2.2,(Q.F q).binds b⟩
theorem Q.E1{p0:Str}(X:K.In h)(G:h.Ns aW mg)(b:∀(kV doc pm:aH) (an:Option bB) (cdv ct u0:aH),oK (fnOf x x (oh st) (jm st) (aq st) .none kV doc pm an cdv ct) ⟨[u0],[]⟩=pure ([p0].zip [u0]):=by intros;rfl):mg x=ZY (.ref f)/\oH K (.ref f)=ZW/\Binds K (fnOf x x (oh st) (jm st) (aq st) .none kV dc pm an cd ct) [p0] []:=q.E X G λ_ _ _ _ _ _ us hl=>by obtain⟨_,rfl⟩:=ln1 hl;apply b
theorem Q.E2{p0 p1:Str}(X:K.In h)(G:h.Ns aW mg)(b:∀(kV doc pm:aH) (an:Option bB) (cdv ct u0 u1:aH),oK (fnOf x x (oh st) (jm st) (aq st) .none kV doc pm an cdv ct) ⟨[u0,u1],[]⟩=pure ([p0,p1].zip [u0,u1]):=by intros;rfl):mg x=ZY (.ref f)/\oH K (.ref f)=ZW/\Binds K (fnOf x x (oh st) (jm st) (aq st) .none kV dc pm an cd ct) [p0,p1] []:=q.E X G λ_ _ _ _ _ _ us hl=>by obtain⟨_,_,rfl⟩:=ln2 hl;apply b
theorem Q.E3{p0 p1 p2:Str}(X:K.In h)(G:h.Ns aW mg)(b:∀(kV doc pm:aH) (an:Option bB) (cdv ct u0 u1 u2:aH),oK (fnOf x x (oh st) (jm st) (aq st) .none kV doc pm an cdv ct) ⟨[u0,u1,u2],[]⟩=pure ([p0,p1,p2].zip [u0,u1,u2]):=by intros;rfl):mg x=ZY (.ref f)/\oH K (.ref f)=ZW/\Binds K (fnOf x x (oh st) (jm st) (aq st) .none kV dc pm an cd ct) [p0,p1,p2] []:=q.E X G λ_ _ _ _ _ _ us hl=>by obtain⟨_,_,_,rfl⟩:=ln3 hl;apply b
theorem Q.E4{p0 p1 p2 p3:Str}(X:K.In h)(G:h.Ns aW mg)(b:∀(kV doc pm:aH) (an:Option bB) (cdv ct u0 u1 u2 u3:aH),oK (fnOf x x (oh st) (jm st) (aq st) .none kV doc pm an cdv ct) ⟨[u0,u1,u2,u3],[]⟩=pure ([p0,p1,p2,p3].zip [u0,u1,u2,u3]):=by intros;rfl):mg x=ZY (.ref f)/\oH K (.ref f)=ZW/\Binds K (fnOf x x (oh st) (jm st) (aq st) .none kV dc pm an cd ct) [p0,p1,p2,p3] []:=q.E X G λ_ _ _ _ _ _ us hl=>by obtain⟨_,_,_,_,rfl⟩:=ln4 hl;apply b
end
def a7j{l:uD}{w:dX}{K:Fg9}{h:iK}{mg:Str->Option aH}(X:K.In h)(G:h.Ns aW mg)(hfa:mg "law"=ZY (.ref fa))
  {tk_MOST_ALIKE:Tok}
  (q0:Q K "is_whole" ae8 f0' o0 p0 v0 t0 m0 n0 c0 r0 z0)
  (q1:Q K "is_whole_within" vh f1' o1 p1 v1 t1 m1 n1 c1 r1 z1)
  (q2:Q K "is_tuple_within" vm f2' o2 p2 v2 t2 m2 n2 c2 r2 z2)
  (q3:Q K "trap" ar9 f3' o3 p3 v3 t3 m3 n3 c3 r3 z3)
  (q4:Q K "refuse_not_open" rz f4' o4 p4 v4 t4 m4 n4 c4 r4 z4)
  (q5:Q K "is_walkers" ab7 f5' o5 p5 v5 t5 m5 n5 c5 r5 z5)
  (q6:Q K "turned_over" abh f6' o6 p6 v6 t6 m6 n6 c6 r6 z6)
  (q7:Q K "row_with" ae6 f7' o7 p7 v7 t7 m7 n7 c7 r7 z7)
  (q8:Q K "swapped" ag2 f8' o8 p8 v8 t8 m8 n8 c8 r8 z8)
  (q9:Q K "cleared" ag3 f9' o9 p9 v9 t9 m9 n9 c9 r9 z9)
  (q10:Q K "solved" aje f10' o10 p10 v10 t10 m10 n10 c10 r10 z10)
  (q11:Q K "determinant" abi f11' o11 p11 v11 t11 m11 n11 c11 r11 z11)
  (q12:Q K "less" asa f12' o12 p12 v12 t12 m12 n12 c12 r12 z12)
  (q13:Q K "folded" ajg f13' o13 p13 v13 t13 m13 n13 c13 r13 z13)
  (q14:Q K "stairs" ajd f14' o14 p14 v14 t14 m14 n14 c14 r14 z14)
  (q15:Q K "least_by" ae7 f15' o15 p15 v15 t15 m15 n15 c15 r15 z15)
  (q16:Q K "doors_square" aas f16' o16 p16 v16 t16 m16 n16 c16 r16 z16)
  (q17:Q K "refuse_no_rows" ug f17' o17 p17 v17 t17 m17 n17 c17 r17 z17)
  (q18:Q K "given" amu f18' o18 p18 v18 t18 m18 n18 c18 r18 z18)
  (q19:Q K "behind_gives" w6 f19' o19 p19 v19 t19 m19 n19 c19 r19 z19)
  (q20:Q K "gives_between" zq f20' o20 p20 v20 t20 m20 n20 c20 r20 z20)
  (q21:Q K "why_alike" abg f21' o21 p21 v21 t21 m21 n21 c21 r21 z21)
  (q22:Q K "are_alike" abj f22' o22 p22 v22 t22 m22 n22 c22 r22 z22)
  (q23:Q K "least_like" aal f23' o23 p23 v23 t23 m23 n23 c23 r23 z23)
  (q24:Q K "kind_sizes" aam f24' o24 p24 v24 t24 m24 n24 c24 r24 z24)
  (q25:Q K "how_many_kinds" uh f25' o25 p25 v25 t25 m25 n25 c25 r25 z25)
  (q26:Q K "sure_gives" ab6 f26' o26 p26 v26 t26 m26 n26 c26 r26 z26)
  (q27:Q K "gives_due" adf f27' o27 p27 v27 t27 m27 n27 c27 r27 z27)
  (q28:Q K "settled" aeg f28' o28 p28 v28 t28 m28 n28 c28 r28 z28)
  (q29:Q K "_law_cell" adl f29' o29 p29 v29 t29 m29 n29 c29 r29 z29)
  (q30:Q K "_law_pen" ae9 f30' o30 p30 v30 t30 m30 n30 c30 r30 z30)
  (q31:Q K "_law_draw" adk f31' o31 p31 v31 t31 m31 n31 c31 r31 z31)
  (q32:Q K "_law_whole" ab8 f32' o32 p32 v32 t32 m32 n32 c32 r32 z32)
  (q33:Q K "_law_house" ab9 f33' o33 p33 v33 t33 m33 n33 c33 r33 z33)
  (q34:Q K "_law_reached" aat f34' o34 p34 v34 t34 m34 n34 c34 r34 z34)
  (q35:Q K "_law_open" adh f35' o35 p35 v35 t35 m35 n35 c35 r35 z35)
  (q36:Q K "_law_kind" adi f36' o36 p36 v36 t36 m36 n36 c36 r36 z36)
  (q37:Q K "_law_no_walkers" vo f37' o37 p37 v37 t37 m37 n37 c37 r37 z37)
  (q38:Q K "_law_told" adg f38' o38 p38 v38 t38 m38 n38 c38 r38 z38)
  (q39:Q K "_law_due" afa f39' o39 p39 v39 t39 m39 n39 c39 r39 z39)
  (a40:nsIn K aW "law"=ZY (ZY (.ref f40'))) (l40:K.lookup f40'=ZY ⟨oc40,od40,.func (fnOf "law" "law" (oh ajf) (jm ajf) (aq ajf) .none kV40 dc40 pm40 an40 cd40 ct40),sl40⟩) (c40:codeIn K cd40 "law"=ZW) (k40:oH K (.ref f40')=ZW)
  (g_MOST_ALIKE:nsIn K aW "MOST_ALIKE"=ZY (ZY (.int 1000000000000000000000000000000 tk_MOST_ALIKE)))
  {fi_NotOpen:bB} {ci0_NotOpen:bB} {odi_NotOpen ani_NotOpen:Option bB} {sli_NotOpen:Array (Option aH)} {oci_NotOpen kVi_NotOpen dci_NotOpen pmi_NotOpen cdi_NotOpen cti_NotOpen:aH} (aj_NotOpen:nsIn K aW "NotOpen"=ZY (ZY (.ref ci0_NotOpen))) (ai_NotOpen:mO K (.ref ci0_NotOpen) "__init__"=ZY (ZY (.ref fi_NotOpen))) (li_NotOpen:K.lookup fi_NotOpen=ZY ⟨oci_NotOpen,odi_NotOpen,.func (fnOf "__init__" "NotOpen.__init__" (oh za) (jm za) (aq za) .none kVi_NotOpen dci_NotOpen pmi_NotOpen ani_NotOpen cdi_NotOpen cti_NotOpen),sli_NotOpen⟩) (ci_NotOpen:codeIn K cdi_NotOpen "NotOpen.__init__"=ZW) (ki_NotOpen:oH K (.ref fi_NotOpen)=ZW) (e_iNotOpen:a1m K ci0_NotOpen fi_NotOpen "room"=ZW)
  (e_nroom:a1z K ["NotOpen"] "room"=ZW)
  (e_cls:aph K NS=ZW) (e_sub:ai9 K NS=ZW) (e_rai:aym K ["ArrowError","NoArrows","NoRoom","NoWalkers","NotShut","NeverBack","NoTour","NoRow"]=ZW) (e_cat:catB K=ZW)
  (y_ValueError:nsIn K aW "ValueError"=ZY ZX)
  (y_abs:nsIn K aW "abs"=ZY ZX)
  (y_all:nsIn K aW "all"=ZY ZX)
  (y_any:nsIn K aW "any"=ZY ZX)
  (y_bool:nsIn K aW "bool"=ZY ZX)
  (y_divmod:nsIn K aW "divmod"=ZY ZX)
  (y_enumerate:nsIn K aW "enumerate"=ZY ZX)
  (y_int:nsIn K aW "int"=ZY ZX)
  (y_isinstance:nsIn K aW "isinstance"=ZY ZX)
  (y_len:nsIn K aW "len"=ZY ZX)
  (y_list:nsIn K aW "list"=ZY ZX)
  (y_max:nsIn K aW "max"=ZY ZX)
  (y_min:nsIn K aW "min"=ZY ZX)
  (y_range:nsIn K aW "range"=ZY ZX)
  (y_set:nsIn K aW "set"=ZY ZX)
  (y_sorted:nsIn K aW "sorted"=ZY ZX)
  (y_tuple:nsIn K aW "tuple"=ZY ZX)
  (y_zip:nsIn K aW "zip"=ZY ZX)
  (tbH:iW K LamN=ZY (287,285))
  : ∃fd:eU,(∀(s:aN) (v:aH),pP s fd ⟨[v],[]⟩ [("script", v)])/\∀base:iK,K.In base->base.Ns aW mg->FnOk l.prog w K mg base CX0 8 fa fd ["script"] (spOf K 1 auk):=by
 have e:=hfa.symm.trans (mg_of X G a40);cases e;have T:Txt K mg:=⟨⟨_,mg_of X G g_MOST_ALIKE⟩,gH X G y_ValueError,gH X G y_abs,gH X G y_all,gH X G y_any,gH X G y_bool,gH X G y_divmod,gH X G y_enumerate,gH X G y_int,gH X G y_isinstance,gH X G y_len,gH X G y_list,gH X G y_max,gH X G y_min,gH X G y_range,gH X G y_set,gH X G y_sorted,gH X G y_tuple,gH X G y_zip,e_sub,a2m X G e_cat,uq X G e_cls (by decide +kernel),uq X G e_cls (by decide +kernel),uq X G e_cls (by decide +kernel),uq X G e_cls (by decide +kernel),uq X G e_cls (by decide +kernel),uq X G e_cls (by decide +kernel),uq X G e_cls (by decide +kernel),uq X G e_cls (by decide +kernel),uq X G e_cls (by decide +kernel),uq X G e_cls (by decide +kernel),uq X G e_cls (by decide +kernel),uq X G e_cls (by decide +kernel),uq X G e_cls (by decide +kernel),ace X G e_cls (by decide +kernel) e_rai (by decide +kernel),ace X G e_cls (by decide +kernel) e_rai (by decide +kernel),ace X G e_cls (by decide +kernel) e_rai (by decide +kernel),ace X G e_cls (by decide +kernel) e_rai (by decide +kernel),ace X G e_cls (by decide +kernel) e_rai (by decide +kernel),ace X G e_cls (by decide +kernel) e_rai (by decide +kernel),ace X G e_cls (by decide +kernel) e_rai (by decide +kernel),ace X G e_cls (by decide +kernel) e_rai (by decide +kernel),axr X G e_cls (by decide +kernel) aj_NotOpen e_iNotOpen (auc (st:=za) li_NotOpen ci_NotOpen ki_NotOpen),e_nroom⟩
 have F40:=auc (st:=ajf) l40 c40 k40;refine⟨fnOf "law" "law" (oh ajf) (jm ajf) (aq ajf) .none kV40 dc40 pm40 an40 cd40 ct40,λs v=>.of_eq rfl,λbase _ _=>?_⟩
 let z:Cz:=⟨l.prog,w,K,mg,base⟩
 have d0:Dd0 z:=⟨_,_,am4 z T q0.F,q0.E1 X G⟩;have d1:Dd1 z:=⟨_,_,aem z T q1.F d0,q1.E3 X G⟩;have d2:Dd2 z:=⟨_,_,aen z T q2.F,q2.E3 X G⟩;have d3:Dd3 z:=⟨_,_,a05 z T q3.F,q3.E1 X G⟩;have d4:Dd4 z:=⟨_,_,ael z T q4.F d3,q4.E1 X G⟩;have x4:Dx4 z:=⟨_,_,adn z T q4.F d3,q4.E1 X G⟩;have d5:Dd5 z:=⟨_,_,ajr z T q5.F d2 d1,q5.E3 X G⟩;have d6:Dd6 z:=⟨_,_,aia z T q6.F,q6.E1 X G⟩;have d7:Dd7 z:=⟨_,_,am2 z T q7.F,q7.E2 X G⟩;have d8:Dd8 z:=⟨_,_,aqb z T q8.F,q8.E3 X G⟩;have d9:Dd9 z:=⟨_,_,aqd z T q9.F,q9.E3 X G⟩;have d10:Dd10 z:=⟨_,_,asy z T q10.F d7 d8 d9,q10.E2 X G⟩;have d11:Dd11 z:=⟨_,_,aib z T q11.F d10,q11.E1 X G⟩;have d12:Dd12 z:=⟨_,_,a06 z T q12.F,q12.E3 X G⟩;have d13:Dd13 z:=⟨_,_,asz z T q13.1 tbH q13.F d12,q13.E2 X G⟩;have d14:Dd14 z:=⟨_,_,asx z T q14.F d13,q14.E1 X G⟩;have d15:Dd15 z:=⟨_,_,am3 z T q15.F d12,q15.E2 X G⟩;have d16:Dd16 z:=⟨_,_,ag8 z T q16.F,q16.E1 X G⟩;have d17:Dd17 z:=⟨_,_,afd z T q17.F d5 d4 x4,q17.E2 X G⟩;have x17:Dx17 z:=⟨_,_,aej z T q17.F d5 d4 x4,q17.E2 X G⟩;have d18:Dd18 z:=⟨_,_,aw3 z T q18.F d16 d12,q18.E3 X G⟩;have d19:Dd19 z:=⟨_,_,ag9 z T q19.F d17 d18 x17,q19.E3 X G⟩;have x19:Dx19 z:=⟨_,_,af9 z T q19.F d17 d18 x17,q19.E3 X G⟩;have d20:Dd20 z:=⟨_,_,aga z T q20.F d16 d6 d12 d10,q20.E3 X G⟩;have d21:Dd21 z:=⟨_,_,ak2 z T q21.F d17 d20 x17,q21.E3 X G⟩;have x21:Dx21 z:=⟨_,_,ajl z T q21.F d17 d20 x17,q21.E3 X G⟩;have d22:Dd22 z:=⟨_,_,ak4 z T q22.F d21 x21,q22.E3 X G⟩;have x22:Dx22 z:=⟨_,_,ajm z T q22.F d21 x21,q22.E3 X G⟩;have d23:Dd23 z:=⟨_,_,ajp z T q23.F d17 d16 d14 d15 x17,q23.E2 X G⟩;have x23:Dx23 z:=⟨_,_,ah7 z T q23.F d17 d16 d14 d15 x17,q23.E2 X G⟩;have d24:Dd24 z:=⟨_,_,ajq z T q24.F d4 d16 d14 x4,q24.E1 X G⟩;have x24:Dx24 z:=⟨_,_,ah8 z T q24.F d4 d16 d14 x4,q24.E1 X G⟩;have d25:Dd25 z:=⟨_,_,afe z T q25.F d4 d16 d11 x4,q25.E1 X G⟩;have x25:Dx25 z:=⟨_,_,aek z T q25.F d4 d16 d11 x4,q25.E1 X G⟩;have d26:Dd26 z:=⟨_,_,ajo z T q26.F d16 d6 d10,q26.E2 X G⟩;have d27:Dd27 z:=⟨_,_,ak3 z T q27.F,q27.E3 X G⟩;have d28:Dd28 z:=⟨_,_,aqc z T q28.F d17 d26 d18 d16 d27 x17,q28.E2 X G⟩;have x28:Dx28 z:=⟨_,_,am1 z T q28.F d17 d26 d18 d16 d27 x17,q28.E2 X G⟩;have d29:Dd29 z:=⟨_,_,ak8 z T q29.F,q29.E2 X G⟩;have d30:Dd30 z:=⟨_,_,am5 z T q30.F,q30.E1 X G⟩;have d31:Dd31 z:=⟨_,_,ak7 z T q31.F,q31.E2 X G⟩;have u32:Du32 z:=⟨_,_,ah9 z T q32.F,q32.E1 X G⟩;have d33:Dd33 z:=⟨_,_,ajs z T q33.F d31,q33.E3 X G⟩;have d34:Dd34 z:=⟨_,_,aha z T q34.F,q34.E2 X G⟩;have d35:Dd35 z:=⟨_,_,ak6 z T q35.F d33 d34 d31,q35.E3 X G⟩;have u36:Du36 z:=⟨_,_,ajn z T q36.F,q36.E1 X G⟩;have d37:Dd37 z:=⟨_,_,aeo z T q37.F d31,q37.E2 X G⟩;have d38:Dd38 z:=⟨_,_,ak5 z T q38.F d19 d23 d28 d22 d21 d24 d25 x19 x23 x28 x22 x21 x24 x25 u36 u32,q38.E4 X G⟩;have d39:Dd39 z:=⟨_,_,am6 z T q39.F d34,q39.E1 X G⟩;exact a5n z T F40 d38 d29 d30 d33 d35 d31 d39 d37
end My
structure PySem.W.Fast:Prop where(tw1162891872956181536 tw2716859111865459841 tw15197535940948244737 tw15007568635971726945 tw16548099417472473793 tw13783547943378531490 tw4277564061328097699 tw6477949515025167780 tw10775214066354305476 tw10695901200687835748 tw17298585742296559941 tw5134532766036112773 tw9766781693141879974 tw726192451318360006 tw1420373224358998087 tw4035428765883770055 tw16689015047390899399 tw88429081457366503 tw15014887695321149448 tw437251104162795112 tw6303348204144882568 tw14364191165429624969 tw1058489594884577481 tw5118122197045324329 tw1043466153292750186 tw10131789670555919531 tw2810437424945813803 tw14432653756912053707 tw11901820755633784331 tw16094102139307152043 tw2389907848281968299 tw2354663325656008941 tw7480651480453560589 tw5124922305363857677 tw17561054232496378253 tw2021688702589937197 tw10314831000092818125 tw14201640612963529582 tw6411795453336387119 tw10270578669549904815 tw7066040681721334256 tw3412264785507801681 tw7719411216548840178 tw2240112139242134739 tw10459146917637721108 tw17401160264445635284 tw8763896805226916982 tw11017721074111889622 tw4720020621805820214 tw1909448178506863190 tw13772718364217829432 tw8394315707859962584 tw1209597092994838296 tw6967889251441135544 tw7140534756808864249 tw9149443686366371353 tw12419299424752120729 tw16517115463842204058 tw11828653740975938042 tw8720870370376586970 tw11821753838547571035 tw2029740459657485755 tw16631594118150219643 tw4364025388066377659 tw56179149422956668 tw11525513076699142460 tw6890121749468902812 tw6772374941612526044 tw1438447096053183517 tw2140660546126764093 tw17645270547868766685 tw466476686607860253 tw15993004605004916381 tw7631463251499494558 tw7799020224478191679 tw5908940787377235256 tw8977170517293833311 tw7932352603366630079 tw17506617955680396790 tw18159144244421772259 tw9938996465952968860 tw5257615534641206779 tw6227134883780929119 tw7372561150465365552 tw16437139104006439196 tw13502604904176269190 tw12568557269523241086 tw6177419672561329169 tw4204863297274794501 tw17277272116547445082 tw4900929753534315319 tw5562686792936008432 tw13230456879996952928 tw3763774051617603825 tw2332273988078219657 tw12630079123128543371 tw1755335183926519318 tw14437434637349404153 tw3740585270399290080 tw14094198123588144725 tw1780794498248361623 tw4393178053712461718 tw64337398469984518 tw5635974535597439905 tw10580117842847898068 tw4842562984548375267 tw14124158015309632536 tw16006914678272560961 tw16257159304070663409 tw12492519240751970508 tw10302835190477276287 tw2677898774455959969 tw3101256174901818589 tw12407918415749387407 tw10187215959620443437 tw7975588679434378800 tw12490809324458469678 tw8066026256423483024 tw2166588367342969442 tw4165816073668055900 tw8896302834312712968 tw32599046364515118 tw14697521672800004982 tw7607498332569240441 tw1044121675101184105 tw7133243736248895699 tw5907506759322768212 tw4967486087337136224 tw17242591777793552540 tw12717921645701017665 tw15551758817709504681 tw6779090436027624907 tw15703351857670917035 tw2002564966646210802 tw8581814565605295785 tw8083259461857520116 tw9045553466240078018 tw12263328021328966117 tw7657370486817749078 tw13028111825918804989 tw8268816313252482070 tw1644847180105342543 tw4010175106120950317 tw11807024433768639827 tw6845937024274537083 tw9416107491799138937 tw17029779751356306169 tw2309677667130990947 tw12090267085644603256 tw14555712912937130854 tw7699086621847074114 tw9543168327588880649 tw1026740662702193194 tw7775295089792921064 tw2771316958446208424 tw3366668891220021548 tw14315100514637914433 tw6587858235570675320 tw3075211408981752045 tw13339054559701767465 tw579524126141287480 tw17250348591432743637 tw14971277986049935872 tw9050332536552518176 tw9390878120568480567 tw17519420680165868763 tw13686723879118999196 tw7381572118122685505 tw122312684509153979 tw6406896159465627369 tw2442381487780668837 tw8084440249283030406 tw13080840183204778704 tw12638060985047238147 tw4384456948707916507 tw9327533366171881594 tw14980821246440184245 tw17656199385416411937 tw1007565293500301965 tw3394339804732146673 tw18132160009959739788 tw3779808916133944507 tw6826749416557317954 tw15712741916434849282 tw8433234527324496763 tw14141807502323907628 tw13728295109079905240 tw11142592239925560132 tw1650546989466787391 tw2957365612171828368 tw7110484516267315846 tw1982203324117209780 tw556964717250606534 tw2856947846638973982 tw12948590258864595311 tw12044535479472955341 tw16472878990852651593 tw3188797199980398870 tw18004461875925230760 tw14813024417663166166 tw10808626751113641737 tw4876738763440609271 tw17701332242606132416 tw5808910157832586127 tw15279263162533598350:True)
open PySem PySem.W PyProof.Rows
set_option maxRecDepth 100000 in
set_option maxHeartbeats 0 in
theorem PySem.Challenge.cw_turnarrows_k64_likes_refused_holds : PySem.Challenge.rw_turnarrows_k64_likes_refused.Holds := by
 w_on;o_law;k_head;(case hw=>w_witness2)
 k_fill
 refine Dn.walk (l:=PySem.Challenge.rw_turnarrows_k64_likes_refused) (f:=My.auk) (k:=8) My.axh rfl rfl ⟨rfl,by decide,by decide,rfl⟩ (fun w h Y=>⟨PySem.W.km_in_of Y,287,285,by kernel_rfl,by kernel_rfl,PySem.W.km_tabs_of Y _ (List.mem_cons_self ..),by kernel_rfl⟩) ?F
 case F=>
  intro w mg fa h KX G hmg;refine' My.a7j KX G hmg ?_ ?_ ?_ ?_ ?_ ?_ ?_ ?_ ?_ ?_ ?_ ?_ ?_ ?_ ?_ ?_ ?_ ?_ ?_ ?_ ?_ ?_ ?_ ?_ ?_ ?_ ?_ ?_ ?_ ?_ ?_ ?_ ?_ ?_ ?_ ?_ ?_ ?_ ?_ ?_ ?_ ?_ ?_ ?_ ?_ ?_ ?_ ?_ ?_ ?_ ?_ ?_ ?_ ?_ ?_ ?_ ?_ ?_ ?_ ?_ ?_ ?_ ?_ ?_ ?_ ?_ ?_ ?_ ?_ ?_ ?_ ?_ ?_ ?_ ?_
  all_goals try refine' And.intro ?_ (And.intro ?_ (And.intro ?_ ?_))
  any_goals k_is
  all_goals kernel_rfl
