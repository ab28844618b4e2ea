import PyProof.Rows.All
import Wide.All
import OpenK.AllK
import Wide.FinOn
import Lean
import PyProof.EqAt
import PyProof.EqKinds
import PyProof.TupleCall
import PySem.Challenge.RW_turnarrows_k38_sent_to_one_another
set_option Elab.async false
set_option linter.all false
set_option maxRecDepth 100000
open Array renaming length_toList->bT,getElem?_eq_some_iff->fL,getElem?_toList->qM,getElem_toList->qT,getElem?_eq_none->vB,find?_toList->xG,toList_push->yH,getD->yI,toList_inj->yP
open Bool renaming and_eq_true->bG,false_ne_true->cX,false_eq_true->mL,and_eq_false_iff->qL,and_false->qW,false_and->uI,or_eq_false_iff->vN,and_eq_true_iff->vO,not_eq_true'->yG,or_eq_true->zE,or_false->zW
open Classical renaming byContradiction->bH,propDecidable->mK
open False renaming elim->fU
open ForInStep renaming yield->yW
open Function renaming comp_def->jB
open Int renaming toNat_natCast->cC,mul_left_comm->dB,eq_of_mul_eq_mul_left->eU,mul_comm->gD,emod_eq_of_lt->gH,mul_zero->iM,mul_add->iR,lt_or_le->jE,mul_neg->jK,emod_lt_of_pos->jT,zero_mul->jZ,mul_assoc->lC,pow_succ->lR,add_zero->nG,pow_ne_zero->nW,one_mul->nY,emod_nonneg->nZ,add_emod_right->oH,neg_mul->pL,mul_sub->pM,mul_eq_zero->qK,le_refl->rC,natCast_add->tQ,fmod_eq_emod_of_nonneg->tX,fdiv_eq_ediv_of_nonneg->tY,sub_zero->vK
open List renaming getElem?_eq_getElem->aF,range->aJ,getElem?_eq_some_iff->aK,mem_cons_of_mem->aL,length_map->aM,mem_cons_self->aP,size_toArray->aU,replicate->aV,map_cons->aW,getD_eq_getElem?_getD->aY,nil_append->aZ,getElem?_map->bB,mem_map->bD,mem_cons->bF,getElem?_set->bJ,length_append->bM,length_cons->bN,mem_singleton->bO,set->bR,map_append->bW,map_map->bY,getElem?_append_left->bZ,append_assoc->cB,getElem?_eq_none->cG,mem_filter->cL,mem_append_right->cM,mem_range->cO,getElem?_range->cQ,lookup->cT,length_set->cZ,getElem_mem->dC,all_eq_true->dD,mem_append->dG,map_congr_left->dO,cons_append->dW,contains_iff_mem->dZ,getElem?_append_right->eE,not_mem_nil->eQ,sum_cons->fH,mem_append_left->fM,getElem?_set_ne->fO,getElem?_set_self->fQ,replicate_succ->fZ,length_filter_le->gB,length_take->gC,append_nil->gM,length_range->iC,ext_getElem?->iG,filterMap_cons->iI,pairwise_cons->iK,mem_of_getElem?->iT,mem_iff_getElem->iU,flatten_cons->jA,length_zipWith->jJ,length_drop->jN,range_succ->jX,nodup_cons->jY,flatMap_cons->lB,filter_cons->lL,getElem?_take_of_lt->lQ,getElem?_replicate->mD,foldl_cons->mF,findIdx?_eq_some_iff_getElem->mG,append_of_mem->mH,pairwise_lt_range->mQ,filter_eq_nil_iff->mR,getElem?_zipWith->nF,getElem?_mapIdx->nJ,all_cons->nP,foldl->nQ,length_pos_iff->nU,drop_eq_getElem_cons->oM,nodup_append->oY,filter_congr->oZ,lookup_cons->pQ,drop_eq_nil_of_le->pX,zipWith->qC,of_mem_zip->qD,length_replicate->qF,length_nil->qG,forIn_cons->qH,count_cons->qI,Pairwise.sublist->qJ,findIdx?->rF,filter_filter->rG,map_nil->rY,mem_flatMap->sO,flatMap_map->sS,ext_getElem->sU,eq_nil_of_length_eq_zero->sV,countP_cons->sW,filter_map->tM,length_eraseIdx_of_lt->tW,mem_or_eq_of_mem_set->uE,forIn_nil->uF,findIdx?_eq_none_iff->uG,Pairwise.imp_of_mem->uN,map_drop->uU,length_eq_zero_iff->uV,take_of_length_le->uZ,range_succ_eq_map->vA,all_map->vJ,map_id->vY,length->vZ,filter_sublist->wA,filter_eq_self->wB,ne_nil_of_mem->wQ,mem_filterMap->wR,map_replicate->wU,length_mapIdx->wV,filter_append->wW,take_sublist->xR,pairwise_map->xT,length_erase->xU,getElem_drop->xV,Pairwise.nil->xW,zipIdx_cons->yL,take_length->yM,nodup_range->yN,map_flatMap->yO,zipIdx_nil->yS,sum_append->yU,cons.injEq->yV,drop_zero->zJ,dropWhile->zK,zip->zQ,map_take->zR,any_cons->zT
open Nat renaming le_refl->aN,ne_of_lt->bQ,lt_of_lt_of_le->cF,le_trans->cR,zero_add->dY,ne_of_gt->gK,zero_le->gQ,lt_or_ge->iB,pow_le_pow_right->lG,lt_succ_self->lK,mul_comm->lO,lt_irrefl->mC,le_succ->mY,lt_trans->oF,le_of_lt->oG,not_lt->oX,mul_assoc->pI,le_mul_of_pos_right->pJ,not_lt_zero->pZ,mul_le_mul_right->qQ,lt_succ_of_lt->rQ,sub_self->rT,pow_succ->rW,succ_le_succ->sJ,min_eq_left->tL,mul_succ->vH,le_of_eq->vI,eq_zero_or_pos->wN,add_sub_cancel->wO,one_le_pow->zH
open Ne renaming symm->gG
open Option renaming some.inj->cP,map_eq_some_iff->eV,bind_some->pP,getD_none->sI,isSome_iff_exists->uM,bind_eq_some_iff->uR
open Or renaming inl->bI,inr->mO
open PyProof renaming Rows.slot_tuple_getitem->fG,Rows.callWith_type1->iH,Rows.IntsAre->pK,Rows.F.plain_set_update_loop->pN,Rows.envOfC->pO,Rows.AllBare->qN,Rows.LSm.kept_iter->uW,Rows.F.entry_set_update_loop->uX,Rows.IsTup->xX
open PySem renaming wpAny_bind->aA,Heap.get?_push_of_some->aB,Value->aD,wpAny_pure->aG,Shared->aH,Heap.get?_push_size->aO,starEach->aQ,Heap.lt_size->aR,Addr->aX,mainGlobals->bA,wpAny_mono->bC,Heap.get?_update_other->bK,wpAny->bL,model->bU,Obj.data_mapFields->bV,Program->cA,bootBuiltins->cD,Heap.get?_update_self->cH,PassesOwn.never->cI,wpAny_newObj_type->cJ,sizeLine->cN,Value.none->cU,Around->cW,Heap.size_push->cY,Value.ref->dF,SetTable->dH,F.excBase_ValueError->dI,World->dJ,Heap.SameBut.update->dR,assignEach->dU,Expr->dX,wpAny_field->eF,wpAny_callSpecial?_slot->eG,W.kia_one->eH,wpAny_holding->eX,NameKind.free->eY,Obj.isFreed_of_fields->fB,wpAny_call_entry->fD,FuncData->fJ,Heap->fK,Heap.SameBut->fP,wpAny_setField->fV,compareOp->fW,SetTable.below->fX,sizeLine_eq->fY,binaryOp->gF,W.InstAt->gJ,W.mg_none_of->gP,swapsWith->gU,W.subIn->gW,W.kitOne->gY,Stmt->iJ,wpAny_seqItems->iQ,Heap.get?_none_of_le->iV,W.emptyDict->iW,F.type_list_append->iY,F.slot_list_append->iZ,Builtin.Tuple.tupleExact->jC,backTo->jD,Builtin.ObjectAttr.storeInDict->jF,behindInMarks->jG,mem_of_lookup->jH,Builtin->jL,W.any_some->jM,call_meets->jO,W.notCls->jP,Obj.mapSeq->jQ,codeAny_mono->jU,Str.ofString->jV,W.instObj->jW,wpAny_standAt->kE,Value.type->kI,W.mroIn->kJ,W.hasDictIn->kO,W.Looks->kW,Obj.cls_mapFields->kY,NameKind.cell->kZ,rawInt->lE,F.slot_tuple_iterator_next->lF,Around.under_plainId->lH,Builtin.Slice.slicePlaces->lJ,W.findIn->lM,F.called_set->lU,Builtin.List.listTooLong->lV,pickOrder->lW,W.takerIn->lX,W.clsIn->lY,F.slot_list_index->lZ,F.slot_int_rmul->mJ,wpAny_rule->mU,wpAny_call->mV,holding->mW,W.specialIn->mX,assign->mZ,BindsTo->nH,Value.builtin->nM,Obj.mapFields->nO,W.findObj->nT,W.keepIn->oA,W.callWith_K->oE,Calls.spliced_cons->oJ,SetTable.grown->oK,Builtin.Slice.sliceAdjust->oN,scanBound->oO,pyNext->oR,Value.int->oU,F.args_tuple_add_2->oW,AutoSeq1.wpAny_loadPart'->pA,codeAny->pB,Scope->pC,W.excIn->pD,F.type_list_index->pF,F.plainAttrs_list->pG,F.entry_tuple_add->pH,F.slot_tuple_mul->pR,W.cellsFrom_some->pU,F.slot_tuple_add->pW,W.takesIn->pY,bindArgs->qO,W.looks_findIn->qP,Calls.evalArgs_plain->qR,W.typeIn->qU,intKind->qX,hashInt->qY,argBest->qZ,W.looks_clsIn->rA,Keyword->rB,W.isNs_of_in->rD,Paired->rE,setNext->rH,getItem->rJ,callerA->rK,Value.bool->rM,W.methodObj->rN,W.kitx_list->rO,PyData.eqv->rP,F.args_int_rmul_2->rR,IsPart->rZ,Code.isFrame->sE,Builtin.ObjectAttr.newKeyGuard->sG,Around.under->sH,F.slot_int_index->sX,F.entry_int_rmul->sY,F.args_tuple_iterator_next_1->sZ,Builtin.divisionGoesByPylong->tE,Value.isInt->tG,W.OpenLaw->tH,PassesOwn->tK,IsZip->tO,F.fills_int_mul->tR,F.entry_tuple_iterator_next->tU,Builtin.List.listExtendWith->tV,Calls.Name_function_global->tZ,Builtin.Tuple.tupleTooMany->uA,Builtin.Tuple.tupleItemsOf->uB,Builtin.Slice.sliceApplied->uC,W.lookIn->uD,Heap.MadeExcOf->uH,F.type_list_extend->uJ,F.slot_tuple_count->uK,F.slot_list_extend->uL,Builtin.List.listSameRef->uO,F.slot_list_count->uP,F.attr_ValueError->uQ,NameKind->uT,CmpOp->uY,Value.str->vC,Within->vD,W.Looks.of_pure->vG,Value.notImplemented->vL,F.args_list_extend_2->vM,Around.frames_deeper->vP,Within.cons->vQ,Value.float->vR,Shared.heap->vU,W.looks_subIn->vV,W.looks_mroIn->vW,Model->vX,Heap.get?_update_ne->wC,Heap.ExtBut->wD,F.entry_list_extend->wF,EntryCells.newEntry->wG,Code.frames->wH,W.tail_of_in->wI,W.looks_find->wJ,W.codeRec_of->wK,W.check_slot->wL,W.Looks.here->wM,F.slot_list_extend->wX,F.args_tuple_mul_2->wY,Code.quiet_builtin->wZ,Calls.Constant_str->xF,SetTable.probe.go->xH,SetTable.below.go->xJ,call->xK,W.set_plain->xM,W.kitx_dict->xO,PyData.canLayAll0->xP,Obj.putSet->xQ,Heap.get?_push_at->xY,Heap.SameBut.refl->xZ,Heap.Ns1.of_empty->yC,F.slot_tuple_rmul->yD,F.plain_list_iadd->yE,F.entry_tuple_mul->yF,seqSlot_of->yJ,W.plainGet->yK,W.kitMeta->yQ,PyData.depthAll->yR,F.slot_zip_next->yX,F.slot_set_iter->yZ,F.plain_set_new->zA,Code.isCreation->zB,SetTable.Probe->zF,W.kitCls->zG,Value.ref.inj->zL,Value.isStrOf->zM,SetTable.laid->zN,W.WalkO->zO,PyData.eqvAll->zP,Code.isCaller->zU,CmpOf.ints_lt->zV
open Sum renaming inl->jR,inr->nR
open True renaming intro->oV
noncomputable section
open PySem.W (nsIn mg_of keepIn fnOf codeIn findIn mg_none_of)
abbrev Fg9:=PySem.W.Frag
abbrev LL9:=List (List Int)
section
open PySem PySem.Spec PyProof.Rows
namespace L2
abbrev Key:=Sum Int Str
def aqk:Key->aD->Bool
 | .inl k,v=>tG k v
 | .inr x,v=>zM x v
def keyH(w:dJ):Key->Int
 | .inl k=>qY k
 | .inr x=>hashStr w x
theorem kj:∀{k:Key} {v:aD},aqk k v=true->(∃i t,k=jR i/\v=oU i t)∨(∃x t,k=nR x/\v=vC x t)
 | .inl i,v,h=>by
  obtain⟨t,e⟩:=Value.isInt_shape (k:=i) (v:=v) h;exact .inl ⟨i,t,rfl,e⟩
 | .inr x,v,h=>by
  obtain⟨t,e⟩:=Value.isStrOf_shape (x:=x) (v:=v) h;exact .inr ⟨x,t,rfl,e⟩
theorem atq(i:Int)(t:Tok):aqk (.inl i) (.int i t)=true:=by simp[aqk,tG]
theorem atp(x:Str)(t:Tok):aqk (.inr x) (.str x t)=true:=by simp[aqk,zM]
theorem a5u(a b:Int):decide ((jR a:Key)=jR b)=(a==b):=by
 by_cases e:a=b
 ·subst e;simp
 ·have h:¬(jR a:Key)=jR b:=fun q=>e (Sum.inl.inj q)
  rw[decide_eq_false h];exact(beq_eq_false_iff_ne.mpr e).symm
theorem a5r(a b:Str):decide ((nR a:Key)=nR b)=decide (a=b):=by
 by_cases e:a=b
 ·subst e;simp
 ·have h:¬(nR a:Key)=nR b:=fun q=>e (Sum.inr.inj q)
  rw[decide_eq_false h,decide_eq_false e]
theorem a5t(a:Int)(b:Str):decide ((jR a:Key)=nR b)=false:=decide_eq_false (fun q=>nomatch q)
theorem a5s(a:Str)(b:Int):decide ((nR a:Key)=jR b)=false:=decide_eq_false (fun q=>nomatch q)
def yr(prog:cA)(w:dJ):PySem.KeyKind prog w Key where
 is:=aqk
 hash:=keyH w
 inj:=fun v a b ha hb=>by
  rcases kj ha with⟨i,t,rfl,rfl⟩ | ⟨x,t,rfl,rfl⟩
  ·rcases kj hb with⟨j,u,rfl,e⟩ | ⟨y,u,rfl,e⟩
   ·injection e with e1 _;rw[e1]
   ·exact nomatch e
  ·rcases kj hb with⟨j,u,rfl,e⟩ | ⟨y,u,rfl,e⟩
   ·exact nomatch e
   ·injection e with e1 _;rw[e1]
 byValue:=fun k v h=>by
  rcases kj h with⟨i,t,rfl,rfl⟩ | ⟨x,t,rfl,rfl⟩ <;> rfl
 pyHash:=fun hv h=>by
  rcases kj hv with⟨i,t,rfl,rfl⟩ | ⟨x,t,rfl,rfl⟩
  ·exact wpAny_pyHash_int h
  ·exact wpAny_pyHash_str h
 eqBool:=fun hu hv h=>by
  rcases kj hu with⟨i,t,rfl,rfl⟩ | ⟨x,t,rfl,rfl⟩
  ·rcases kj hv with⟨j,u,rfl,rfl⟩ | ⟨y,u,rfl,rfl⟩
   ·rw[a5u] at h;exact wpAny_eqBool_int h
   ·rw[a5t] at h;exact SeqAt.EqAt.int_str i t y u _ _ _ _ h
  ·rcases kj hv with⟨j,u,rfl,rfl⟩ | ⟨y,u,rfl,rfl⟩
   ·rw[a5s] at h;exact SeqAt.EqAt.str_int x t j u _ _ _ _ h
   ·rw[a5r] at h;exact wpAny_eqBool_str h
 «strs» := fun k x t v h=>by
  rcases kj h with⟨i,u,rfl,e⟩ | ⟨y,u,rfl,e⟩
  ·exact nomatch e
  ·injection e with e1 _
   subst e1;cases v <;> rfl
theorem amn(prog:cA)(w:dJ)(i:Int)(t:Tok):(yr prog w).is (.inl i) (.int i t)=true:=atq i t
theorem af3(prog:cA)(w:dJ)(x:Str)(t:Tok):(yr prog w).is (.inr x) (.str x t)=true:=atp x t
def IsTp(h:fK)(a:aX)(items:Array aD):Prop:=∃o,h.get? a=some o/\o.cls=.type "tuple" /\ o.dict=none/\∃n,o.data=.seq items n
theorem IsTp.tup{h:fK}{a:aX}{items:Array aD}(x:IsTp h a items):xX h a items:=let ⟨o,e,c,_,n,d⟩:=x;⟨o,e,c,n,d⟩
theorem IsTp.new(h:fK)(items:Array aD):IsTp (h.push { cls:=.type "tuple", data:=.seq items }) h.objs.size items:=⟨_,aO _ rfl,rfl,rfl,_,rfl⟩
inductive V where
 | non | bl (b:Bool) | int (i:Int) | str (x:Str) | byt (b:Array UInt8) | flt (b:UInt64) | ref (a:aX) | ty (n:String)
 deriving DecidableEq
def RelV:V->aD->Prop
 | .non,u=>u=cU
 | .bl b,u=>u=rM b
 | .int i,u=>∃t,u=oU i t
 | .str x,u=>∃t,u=vC x t
 | .byt b,u=>∃t,u=Value.bytes b t
 | .flt b,u=>∃t,u=vR b t
 | .ref a,u=>u=dF a
 | .ty n,u=>u=kI n
abbrev Vals:List V->List aD->Prop:=rE RelV
theorem Vals.length{xs:List V}{us:List aD}(r:Vals xs us):xs.length=us.length:=Paired.length r
theorem Vals.get:∀{xs:List V} {us:List aD} {i:Nat} {x:V},Vals xs us->xs[i]? = some x->∃u,us[i]? = some u/\RelV x u
 | _,_,_,_,.nil,e=>by simp at e
 | _,_,0,_,.cons r _,e=>by simp at e;subst e;exact⟨_,rfl,r⟩
 | _,_,i+1,x,.cons _ t,e=>by
  obtain⟨u,h1,h2⟩:=Vals.get (i:=i) (x:=x) t (by simpa using e)
  exact⟨u,by simpa using h1,h2⟩
theorem Vals.set{x:V}{u:aD}(r:RelV x u):∀{xs:List V} {us:List aD} (i:Nat),Vals xs us->Vals (xs.set i x) (us.set i u)
 | _,_,_,.nil=>.nil
 | _,_,0,.cons _ t=>.cons r t
 | _,_,i+1,.cons q t=>.cons q (Vals.set r i t)
theorem Vals.append:∀{xs ys:List V} {us ws:List aD},Vals xs us->Vals ys ws->Vals (xs++ys) (us++ws)
 | _,_,_,_,.nil,s=>s
 | _,_,_,_,.cons r t,s=>.cons r (Vals.append t s)
theorem Vals.take:∀{xs:List V} {us:List aD} (n:Nat),Vals xs us->Vals (xs.take n) (us.take n)
 | _,_,0,_=>.nil
 | _,_,_+1,.nil=>.nil
 | _,_,n+1,.cons r t=>.cons r (Vals.take n t)
theorem Vals.drop:∀{xs:List V} {us:List aD} (n:Nat),Vals xs us->Vals (xs.drop n) (us.drop n)
 | _,_,0,r=>r
 | _,_,_+1,.nil=>.nil
 | _,_,n+1,.cons _ t=>Vals.drop n t
def RelO:Option V->Option aD->Prop
 | some v,some u=>RelV v u
 | none,none=>True
 | _,_=>False
def KV{κ:Type}:List (κ×V)->List (κ×Value)->Prop:=rE fun(p:κ×V) (q:κ×Value)=>p.1=q.1/\RelV p.2 q.2
def kV:Key->V
 | .inl i=>.int i
 | .inr x=>.str x
inductive HO where
 | lst (xs:List V)
 | tup (xs:List V)
 | dK (kvs:List (Key×V)) | dT (kvs:List (List Key×V))
 | set (S:Int->Bool) (n:Nat)
 | ins (C dx:aX) (fs:List (Str×V))
 | own (x:aX)
 | xd (fs:List (Str×V))
 | met (f x:aX)
 | rng (lo hi:Int)
 | frz (o:Obj) (u:HO)
 | tbl (ps:Array aD)
 | ext (φ:fK->Prop)
abbrev Hp:=aX->Option HO
def upd(H:Hp)(a:aX)(o:HO):Hp:=fun b=>if b=a then some o else H b
theorem dh{H:Hp}{a:aX}{o:HO}:upd H a o a=some o:=by unfold upd;rw[if_pos rfl]
theorem bw{H:Hp}{a b:aX}{o:HO}(h:b≠a):upd H a o b=H b:=by unfold upd;rw[if_neg h]
theorem alz{H:Hp}{a:aX}{o u:HO}:upd (upd H a o) a u=upd H a u:=by
 funext b;unfold upd;split <;> rfl
theorem jh{H:Hp}{a b:aX}{o:HO}(h:H a=some o)(h':H b=none):a≠b:=by
 intro e;subst e;rw[h] at h';cases h'
section
variable(P:cA)(w:dJ)
def uv(H:Hp)(h:fK)(a:aX):HO->Prop
 | .lst xs=>xs.length<=cN/\∃(its:List aD) (n:Nat),Vals xs its/\h.get? a=some { cls:=.type "list", data:=.seq its.toArray n }
 | .tup xs=>xs.length<=cN/\∃its:List aD,Vals xs its/\IsTp h a its.toArray
 | .dK kvs=>kvs.length<=cN/\(a==sysModules)=false/\∃vs,KV kvs vs/\h.DictOf (yr P w) a vs
 | .dT kvs=>kvs.length<=cN/\(a==sysModules)=false/\∃xs:List (List Key×Addr×Value),
   rE (fun(p:List Key×V) (q:List Key×Addr×Value)=>p.1=q.1/\H q.2.1=some (.tup (p.1.map kV))/\RelV p.2 q.2.2) kvs xs /\
   ∃o es ep,h.get? a=some o/\o.ExactDict/\o.data=.dict es ep/\es.toList=xs.map (entryOfKey (tupleKind (yr P w)))/\(xs.map (·.1)).Nodup
 | .set S n=>h.SetOf (qX P w) a S n
 | .ins C dx fs=>H dx=some (.own a)/\fs.length<=1000/\dx≠a/\h.get? a=some (jW C dx) /\
   ∃mA,h.Ns1 dx mA/\(∀f,RelO (fs.lookup f) (mA f))/\vD mA (fs.map (·.1))
 | .own _=>∃o,h.get? a=some o
 | .xd fs=>∃mA,h.Ns1 a mA/\∀f,RelO (fs.lookup f) (mA f)
 | .rng lo hi=>∃t u v,h.get? a=some { cls:=.type "range", data:=.fields #[.int lo t,.int hi u,.int 1 v] }
 | .frz o u=>h.get? a=some o/\uv H h a u
 | .tbl ps=>h.get? a=some { cls:=.none,data:=.fields ps }
 | .met f x=>h.get? a=some (rN (.ref f) (.ref x))
 | .ext φ=>φ h/\(∃o,h.get? a=some o)/\∀h1 h2:fK,φ h1->(∀o,h1.get? a=some o->h2.get? a=some o)->φ h2
def HOk(H:Hp)(h:fK):Prop:=∀a o,H a=some o->uv P w H h a o
end
section
variable{P:cA}{w:dJ}{H H':Hp}{h h':fK}{a:aX}{o:HO}
theorem uv.lt(x:uv P w H h a o):a < h.objs.size:=by
 cases o with
 | lst xs=>obtain⟨_,_,_,_,e⟩:=x;exact aR e
 | tup xs=>obtain⟨_,_,_,p⟩:=x;exact p.tup.lt
 | dK kvs=>obtain⟨_,_,_,_,o,_,_,e,_⟩:=x;exact aR e
 | dT kvs=>obtain⟨_,_,_,_,o,_,_,e,_⟩:=x;exact aR e
 | set S n=>obtain⟨o,_,_,_,e,_⟩:=x;exact aR e
 | ins C dx fs=>obtain⟨_,_,_,e,_⟩:=x;exact aR e
 | own y=>obtain⟨_,e⟩:=x;exact aR e
 | xd fs=>obtain⟨_,⟨_,_,_,e,_⟩,_⟩:=x;exact aR e
 | rng lo hi=>obtain⟨_,_,_,e⟩:=x;exact aR e
 | frz ob u=>obtain⟨e,_⟩:=x;exact aR e
 | tbl ps=>exact aR (show h.get? a=some _ from x)
 | met f y=>exact aR (show h.get? a=some _ from x)
 | ext φ=>obtain⟨_,⟨_,e⟩,_⟩:=x;exact aR e
theorem Paired.mapP{α β:Type}{F G:α->β->Prop}:∀{l₁:List α} {l₂:List β},rE F l₁ l₂->(∀a b,F a b->G a b)->rE G l₁ l₂
 | _,_,.nil,_=>.nil
 | _,_,.cons r t,f=>.cons (f _ _ r) (Paired.mapP t f)
theorem uv.stay(x:uv P w H h a o)(k:∀b u,(b=a∨H b=some (.own a))->h.get? b=some u->h'.get? b=some u)
  (ho:∀b,H b=some (.own a)->H' b=some (.own a)) (ht:∀b xs,H b=some (.tup xs)->H' b=some (.tup xs)):uv P w H' h' a o:=by
 induction o with
 | lst xs=>obtain⟨z,its,n,r,e⟩:=x;exact⟨z,its,n,r,k _ _ (.inl rfl) e⟩
 | tup xs=>obtain⟨z,its,r,ob,e,c⟩:=x;exact⟨z,its,r,ob,k _ _ (.inl rfl) e,c⟩
 | dK kvs=>obtain⟨z,y,vs,r,ob,es,ep,e,c⟩:=x;exact⟨z,y,vs,r,ob,es,ep,k _ _ (.inl rfl) e,c⟩
 | dT kvs =>
  obtain⟨z,y,xs,r,ob,es,ep,e,c⟩:=x;exact⟨z,y,xs,Paired.mapP r fun p q z=>⟨z.1,ht _ _ z.2.1,z.2.2⟩,ob,es,ep,k _ _ (.inl rfl) e,c⟩
 | set S n=>obtain⟨ob,es,ep,t,e,c⟩:=x;exact⟨ob,es,ep,t,k _ _ (.inl rfl) e,c⟩
 | ins C dx fs =>
  obtain⟨d,z,ne,e,mA,⟨od,es,ep,e2,c⟩,r⟩:=x;exact⟨ho _ d,z,ne,k _ _ (.inl rfl) e,mA,⟨od,es,ep,k _ _ (.inr d) e2,c⟩,r⟩
 | own y=>obtain⟨ob,e⟩:=x;exact⟨ob,k _ _ (.inl rfl) e⟩
 | xd fs=>obtain⟨mA,⟨od,es,ep,e,c⟩,r⟩:=x;exact⟨mA,⟨od,es,ep,k _ _ (.inl rfl) e,c⟩,r⟩
 | rng lo hi=>obtain⟨t,u,v,e⟩:=x;exact⟨t,u,v,k _ _ (.inl rfl) e⟩
 | frz ob u ih=>obtain⟨e,q⟩:=x;exact⟨k _ _ (.inl rfl) e,ih q⟩
 | tbl ps =>
  have e:h.get? a=some { cls:=.none,data:=.fields ps }:=x;show h'.get? a=some { cls:=.none,data:=.fields ps };exact k a _ (.inl rfl) e
 | met f y =>
  have e:h.get? a=some (rN (.ref f) (.ref y)):=x;show h'.get? a=some (rN (.ref f) (.ref y));exact k a _ (.inl rfl) e
 | ext φ=>obtain⟨p,⟨o,e⟩,st⟩:=x;exact⟨st _ _ p fun o q=>k _ _ (.inl rfl) q,⟨o,k _ _ (.inl rfl) e⟩,st⟩
theorem HOk.lt(x:HOk P w H h)(e:H a=some o):a < h.objs.size:=(x a o e).lt
theorem HOk.fresh(x:HOk P w H h)(e:h.objs.size<=a):H a=none:=by
 cases q:H a with
 | none=>rfl
 | some u=>exact absurd (cF (x.lt q) e) (mC _)
theorem HOk.kept(x:HOk P w H h)(k:∀b u,h.get? b=some u->h'.get? b=some u):HOk P w H h':=fun a o e =>
 (x a o e).stay (fun b u _ q=>k b u q) (fun _ q=>q) fun _ _ q=>q
theorem HOk.laid(x:HOk P w H h)(k:∀b u,h.get? b=some u->h'.get? b=some u)(hp:h.objs.size<=a)(new:uv P w (upd H a o) h' a o):HOk P w (upd H a o) h':=fun b u e=>by
 have hn:=x.fresh hp
 by_cases hb:b=a
 ·subst hb;rw[dh] at e;cases e;exact new
 ·rw[bw hb] at e;exact(x b u e).stay (fun c v _ q=>k c v q) (fun c q=>by rw[bw (jh q hn)];exact q) fun c xs q=>by rw[bw (jh q hn)];exact q
end
def Rd(H:Hp)(a:aX)(u:HO):Prop:=H a=some u∨∃o,H a=some (.frz o u)
theorem Rd.ok{P:cA}{w:dJ}{H:Hp}{h:fK}{a:aX}{u:HO}(r:Rd H a u)(x:HOk P w H h):uv P w H h a u:=by
 rcases r with r | ⟨o,r⟩
 ·exact x a u r
 ·obtain⟨_,q⟩:=x a _ r;exact q
def Mut:Option HO->Prop
 | some (.lst _)=>True
 | some (.dK _)=>True
 | some (.dT _)=>True
 | some (.set _ _)=>True
 | some (.ins _ _ _)=>True
 | some (.ext _)=>True
 | _=>False
section
variable{P:cA}{w:dJ}{H:Hp}{h h':fK}{x e:aX}{o':HO}
theorem HOk.write(ok:HOk P w H h)(mu:Mut (H x))(he:e=x∨H e=some (.own x))(k:∀b u,b≠e->h.get? b=some u->h'.get? b=some u)(heo:∃u,h'.get? e=some u)
  (new:uv P w (upd H x o') h' x o'):HOk P w (upd H x o') h':=fun b u q=>by
 have nown:∀c y,H c=some (.own y)->c≠x:=fun c y r z=>by subst z;rw[r] at mu;exact mu
 have ntup:∀c xs,H c=some (.tup xs)->c≠x:=fun c xs r z=>by subst z;rw[r] at mu;exact mu
 by_cases hb:b=x
 ·subst hb;rw[dh] at q;cases q;exact new
 ·rw[bw hb] at q
  by_cases hbe:b=e
  ·have q':H b=some (.own x):=by
    rcases he with z | z
    ·exact absurd (hbe.trans z) hb
    ·rw[hbe];exact z
   rw[q] at q';cases q';obtain⟨v,hv⟩:=heo;exact⟨v,by rw[hbe];exact hv⟩
  ·refine(ok b u q).stay (fun c v hc r=>k c v ?_ r) (fun c r=>by rw[bw (nown c b r)];exact r) fun c xs r=>by rw[bw (ntup c xs r)];exact r
   rcases hc with rfl | hc
   ·exact hbe
   ·rintro rfl
    rcases he with z | z
    ·exact nown c b hc z
    ·rw[hc] at z;cases z;exact hb rfl
end
structure Un (fs ex:List aX) (H H':Hp) (h h':fK):Prop where
 keep:∀b o,h.get? b=some o->H b=none->b∉fs->b∉ex->h'.get? b=some o
 slot:∀b o,h.get? b=some o->H b=none->b∈fs->b∉ex->∃sl,h'.get? b=some { o with slots:=sl }
 free:∀b o,h.get? b=some o->H b=none->b∉ex->H' b=none
 there:∀b o,h.get? b=some o->b∉ex->∃o',h'.get? b=some o'
 tups:∀b xs,H b=some (.tup xs)->H' b=some (.tup xs)
 frzs:∀b o u,H b=some (.frz o u)->H' b=some (.frz o u)
 tbls:∀b ps,H b=some (.tbl ps)->∃more,H' b=some (.tbl (ps++more))
section
variable{fs fs' ex ex':List aX}{H H1 H2:Hp}{h h1 h2 h':fK}{a x e:aX}{o:HO}
theorem Un.any(u:Un fs ex H H1 h h1){b:aX}{ob:Obj}(q:h.get? b=some ob)(n:H b=none)(hx:b∉ex):∃sl,h1.get? b=some { ob with slots:=sl }:=by
 by_cases hb:b∈fs
 ·exact u.slot b ob q n hb hx
 ·exact⟨ob.slots,u.keep b ob q n hb hx⟩
theorem Un.kept(k:∀b u,h.get? b=some u->h'.get? b=some u):Un fs ex H H h h' :=
 ⟨fun b ob q _ _ _=>k b ob q,fun b ob q _ _ _=>⟨ob.slots,k b ob q⟩,fun _ _ _ n _=>n,fun b ob q _=>⟨ob,k b ob q⟩,fun _ _ q=>q,fun _ _ _ q=>q,fun _ ps q=>⟨#[],by rw[q];simp⟩⟩
theorem Un.refl:Un fs ex H H h h:=Un.kept fun _ _ q=>q
theorem Un.laid(k:∀b u,h.get? b=some u->h'.get? b=some u)(hp:h.objs.size<=a)(hn:H a=none):Un fs ex H (upd H a o) h h' where
 keep:=fun b u q _ _ _=>k b u q
 slot:=fun b u q _ _ _=>⟨u.slots,k b u q⟩
 free:=fun b u q n _=>by rw[bw (bQ (cF (aR q) hp))];exact n
 there:=fun b u q _=>⟨u,k b u q⟩
 tups:=fun b xs q=>by rw[bw (jh q hn)];exact q
 frzs:=fun b u xs q=>by rw[bw (jh q hn)];exact q
 tbls:=fun b ps q=>⟨#[],by rw[bw (jh q hn),q];simp⟩
theorem Un.write(mu:Mut (H x))(he:e=x∨H e=some (.own x))(k:∀b u,b≠e->h.get? b=some u->h'.get? b=some u)(heo:∃u,h'.get? e=some u):Un fs ex H (upd H x o) h h':=by
 have hx:∀b,H b=none->b≠x:=fun b n z=>by subst z;rw[n] at mu;exact mu
 have hb:∀b,H b=none->b≠e:=fun b n z=>by
  subst z;rcases he with r | r
  ·exact hx b n r
  ·rw[n] at r;cases r
 have hm:∀b u,H b=some u->¬Mut (some u)->b≠x:=fun b u q nm z=>by subst z;rw[q] at mu;exact nm mu
 refine⟨fun b u q n _ _=>k b u (hb b n) q,fun b u q n _ _=>⟨u.slots,k b u (hb b n) q⟩,fun b u q n _=>by rw[bw (hx b n)];exact n,fun b u q _ =>?_,
  fun b xs q=>by rw[bw (hm b _ q fun z=>z)];exact q,fun b u xs q=>by rw[bw (hm b _ q fun z=>z)];exact q,fun b ps q=>⟨#[],by rw[bw (hm b _ q fun z=>z),q];simp⟩⟩
 by_cases hbe:b=e
 ·subst hbe;exact heo
 ·exact⟨u,k b u hbe q⟩
end
def trk(h:fK)(H:Hp):List aX:=(aJ h.objs.size).filter fun a=>(H a).isSome
def hidT(h:fK)(H:Hp):fK:=PySem.W.hideAll h (trk h H)
theorem at8(h:fK)(H:Hp):(hidT h H).objs.size=h.objs.size:=PySem.W.hideAll_size _ _
theorem axl{h:fK}{H:Hp}{b:aX}{o:Obj}(e:h.get? b=some o)(n:H b=none):(hidT h H).get? b=some o :=
 PySem.W.hideAll_get _ e fun hm=>by
  have q:(H b).isSome=true:=(cL.mp hm).2;rw[n] at q;simp at q
theorem a03{h:fK}{H:Hp}{b:aX}{o:Obj}(e:(hidT h H).get? b=some o):h.get? b=some o/\H b=none:=by
 have e':h.get? b=some o:=PySem.W.of_hideAll (trk h H) e;refine⟨e',?_⟩;cases q:H b with
 | none=>rfl
 | some x =>
  have hm:b∈trk h H:=cL.mpr ⟨List.mem_range.mpr (aR e'),by simp[q]⟩
  have z:(hidT h H).get? b=none:=PySem.W.hideAll_none (trk h H) hm;rw[z] at e;cases e
def a2t(g h:fK)(L:aX):List (aX×Obj):=(aJ h.objs.size).filterMap fun a=>if a=L∨(g.get? a).isSome=true then none else (h.get? a).map fun o=>(a,o)
def rest(g h:fK)(L d:aX):List (aX×Obj):=(a2t g h L).filter fun p=>decide (p.1≠d)
structure Mod (K:Fg9) (mg:Str->Option aD) (base:fK):Prop where
 kin:K.In base
 glob:base.Ns bA mg
 blt:∃mb,base.Ns builtinsNs mb/\∀x:Str,x ≠ "__name__" -> mb x=cD x
 nolimit:base.NoLimit
structure Cx where
 prog:cA
 w:dJ
 K:Fg9
 mg:Str->Option aD
 base:fK
 A:cW
 N:List Str
 s₀:aH
 H₀:Hp
 env:Env
 outer:List Env
 stack:List Env
 ex:List aX
 fn:Str->Bool
 calm:Bool
 pn:List (aX×Obj)
 xe:aD->aH->Prop
def frs(l:List Env):List aX:=l.filterMap (·.frame)
abbrev Cx.fs(X:Cx):List aX:=frs X.outer
def Vis(sc:pC)(x:Str):Prop:=sc.names.lookup x=some .local∨sc.names.lookup x=some .cell∨sc.names.lookup x=some .free
def Loc(sc:pC)(x:Str):Prop:=sc.names.lookup x=some .local∨sc.names.lookup x=some .cell
def Look(env:Env)(h:fK)(m:Str->Option aD)(x:Str)(u:aD):Prop :=
 (env.kindOf x=some .local/\m x=some u)∨((env.kindOf x=some .cell∨env.kindOf x=some .free)/\∃c,env.cells.lookup x=some c/\h.IsCell c (some u))
structure Cx.Ok (X:Cx):Prop where
 mod:Mod X.K X.mg X.base
 kind:X.env.scope.kind=.function
 glob:X.env.globals=bA
 blt:X.env.builtins=builtinsNs
 above:X.s₀.heap.objs.size<=X.env.locals
 inj:∀x y c,X.env.cells.lookup x=some c->X.env.cells.lookup y=some c->x=y
 has:∀x,(X.env.kindOf x=some .cell∨X.env.kindOf x=some .free)->∃c,X.env.cells.lookup x=some c
 cab:∀x c,X.fn x=true->X.env.cells.lookup x=some c->X.s₀.heap.objs.size<=c
 hd:X.calm=true->X.A.handled=none
 frames:X.A.frames=some X.stack
 stk:X.stack=X.outer∨(X.stack=X.env::X.outer/\X.env.frame=some X.env.locals)
 exf:∀b∈X.ex,b≠X.env.locals/\∀x c,X.env.cells.lookup x=some c->c≠b
 bs:∀b o,X.base.get? b=some o->X.s₀.heap.get? b=some o/\X.H₀ b=none
 bsz:X.base.objs.size<=X.s₀.heap.objs.size
 noex:∀b o,X.base.get? b=some o->b∉X.ex
 exfs:∀b∈X.ex,b∉X.fs
 funs:X.s₀.heap.FunFrames X.base X.outer
 frf:∀b∈X.fs,X.H₀ b=none
structure Inv (X:Cx) (zv:List (aX×Obj)) (σ:List (Option V)) (H:Hp) (s:aH):Prop where
 ok:X.Ok
 os:s.os=X.s₀.os
 bare:qN s.gens
 base:Un X.fs X.ex X.H₀ H X.s₀.heap s.heap
 loc:∃m,s.heap.Ns X.env.locals m/\∀(i:Nat) (x:Str) (v:V),X.N[i]? = some x->σ[i]? = some (some v)->Vis X.env.scope x->∃u,RelV v u/\Look X.env s.heap m x u
 cell:∀x c,X.env.cells.lookup x=some c->∃v,s.heap.IsCell c v
 free:H X.env.locals=none
 freeC:∀x c,X.env.cells.lookup x=some c->H c=none
 pin:∀p∈X.pn++zv,s.heap.get? p.1=some p.2/\H p.1=none/\p.1≠X.env.locals/\p.1∉X.fs/\∀v,p.2.data≠.cell v
 hok:HOk X.prog X.w H s.heap
 len:σ.length=X.N.length
section
variable{X:Cx}{zv:List (aX×Obj)}{σ:List (Option V)}{H H':Hp}{s:aH}{h':fK}
theorem Cx.Ok.nofr(ok:X.Ok){b:aX}{o:Obj}(e:X.base.get? b=some o):b∉X.fs:=fun hb=>by
 have:=(ok.funs.mem hb).1;rw[e] at this;cases this
theorem Inv.bs(I:Inv X zv σ H s):∀b o,X.base.get? b=some o->s.heap.get? b=some o/\H b=none:=fun b o e =>
 ⟨I.base.keep b o (I.ok.bs b o e).1 (I.ok.bs b o e).2 (I.ok.nofr e) (I.ok.noex b o e),I.base.free b o (I.ok.bs b o e).1 (I.ok.bs b o e).2 (I.ok.noex b o e)⟩
theorem Inv.bk(I:Inv X zv σ H s):∀b o,X.base.get? b=some o->s.heap.get? b=some o:=fun b o e=>(I.bs b o e).1
theorem Inv.mod(I:Inv X zv σ H s):Mod X.K X.mg X.base:=I.ok.mod
theorem Inv.kIn(I:Inv X zv σ H s):X.K.In s.heap:=I.ok.mod.kin.keeps I.bk
theorem Inv.lt(I:Inv X zv σ H s):X.env.locals < s.heap.objs.size:=let ⟨_,hn,_⟩:=I.loc;hn.lt
theorem Inv.sz(I:Inv X zv σ H s):X.s₀.heap.objs.size<=s.heap.objs.size:=cR I.ok.above (oG I.lt)
theorem Inv.nofs(I:Inv X zv σ H s){a:aX}(h:s.heap.objs.size<=a):a∉X.fs:=fun hb=>by
 obtain⟨_,o,ho,_⟩:=I.ok.funs.mem hb;exact absurd (cF (aR ho) (cR I.sz h)) (mC _)
theorem Inv.cne(I:Inv X zv σ H s):∀x c,X.env.cells.lookup x=some c->c≠X.env.locals:=fun x c e z=>by
 obtain⟨v,o,ho,hd⟩:=I.cell x c e;obtain⟨m,⟨o',es,ep,ho',hd',_⟩,_⟩:=I.loc;rw[z,ho'] at ho;cases ho;rw[hd'] at hd;cases hd
theorem Inv.funs(I:Inv X zv σ H s):s.heap.FunFrames X.base X.outer:=by
 have all:∀(l:List Env),(∀b∈frs l,b∈X.fs)->X.s₀.heap.FunFrames X.base l->s.heap.FunFrames X.base l:=by
  intro l
  induction l with
  | nil=>intro _ _;trivial
  | cons env r ih =>
   intro hs hl;obtain⟨hk,⟨L,o,hf,hn,ho,hd⟩,hr⟩:=hl;have hL:L∈X.fs:=hs L (by unfold frs;rw[iI,hf];exact aP)
   obtain⟨sl,e⟩:=I.base.slot L o ho (I.ok.frf L hL) hL fun z=>I.ok.exfs L z hL
   exact⟨hk,⟨L,_,hf,hn,e,hd⟩,ih (fun b hb=>hs b (by unfold frs;rw[iI,hf];exact aL _ hb)) hr⟩
 exact all X.outer (fun _ hb=>hb) I.ok.funs
theorem Inv.stack(I:Inv X zv σ H s):s.heap.FunFrames X.base X.stack:=by
 rcases I.ok.stk with e | ⟨e,hf⟩
 ·rw[e];exact I.funs
 ·rw[e];obtain⟨m,hn,_⟩:=I.loc;refine .cons (by rw[I.ok.kind];decide) hf hn ?_ I.funs
  exact iV (cR I.ok.bsz I.ok.above)
theorem Inv.stkSub(I:Inv X zv σ H s):∀b∈frs X.stack,b∈X.env.locals::X.fs:=fun b hb=>by
 rcases I.ok.stk with e | ⟨e,hf⟩
 ·rw[e] at hb;exact aL _ hb
 ·rw[e] at hb;unfold frs at hb;rw[iI,hf] at hb;exact hb
theorem Inv.stkFree(I:Inv X zv σ H s):∀b∈frs X.stack,H b=none:=fun b hb=>by
 rcases bF.mp (I.stkSub b hb) with e | hb
 ·rw[e];exact I.free
 ·obtain⟨_,o,ho,_⟩:=I.ok.funs.mem hb;exact I.base.free b o ho (I.ok.frf b hb) fun z=>I.ok.exfs b z hb
theorem Inv.step{g':Array GenState}{t':Nat}{d':Drawn}{ch:List aX}(I:Inv X zv σ H s)
  (hch:∀b∈ch,(b∈X.ex∨X.s₀.heap.objs.size<=b)/\b≠X.env.locals/\(∀x c,X.env.cells.lookup x=some c->c≠b)/\∀p∈X.pn++zv,p.1≠b)
  (keep:∀b o,b≠X.env.locals->b∉X.fs->b∉ch->s.heap.get? b=some o->H b=none->h'.get? b=some o)
  (slot:∀b o,b≠X.env.locals->b∈X.fs->b∉ch->s.heap.get? b=some o->H b=none->∃sl,h'.get? b=some { o with slots:=sl }) (free:∀b o,b∉ch->s.heap.get? b=some o->H b=none->H' b=none)
  (there:∀b o,b∉ch->s.heap.get? b=some o->∃o',h'.get? b=some o')
  (tups:∀b xs,H b=some (.tup xs)->H' b=some (.tup xs)) (frzs:∀b o u,H b=some (.frz o u)->H' b=some (.frz o u)) (tbls:∀b ps,H b=some (.tbl ps)->∃more,H' b=some (.tbl (ps++more)))
  (ns:∀m,s.heap.Ns X.env.locals m->h'.Ns X.env.locals m) (hok:HOk X.prog X.w H' h') (hg:qN g') :
  Inv X zv σ H' { s with heap:=h',gens:=g',drawn:=d',toks:=t' }:=by
 have neL:∀b o,X.s₀.heap.get? b=some o->b≠X.env.locals:=fun b o e=>bQ (cF (aR e) I.ok.above)
 have neC:∀b o,X.s₀.heap.get? b=some o->b∉X.ex->b∉ch:=fun b o e hx hb=>by
  rcases(hch b hb).1 with z | z
  ·exact hx z
  ·exact absurd (cF (aR e) z) (mC _)
 have cellK:∀x c,X.env.cells.lookup x=some c->∀v,s.heap.IsCell c v->h'.IsCell c v:=fun x c e v hq0=>by
  obtain⟨o,ho,hd⟩:=hq0;have nch:c∉ch:=fun z=>(hch c z).2.2.1 x c e rfl
  by_cases hc:c∈X.fs
  ·obtain⟨sl,q⟩:=slot c o (I.cne x c e) hc nch ho (I.freeC x c e);exact⟨_,q,hd⟩
  ·exact⟨o,keep c o (I.cne x c e) hc nch ho (I.freeC x c e),hd⟩
 refine⟨I.ok,I.os,hg,⟨fun b o e n hb hx =>?_,fun b o e n hb hx =>?_,fun b o e n hx =>?_,fun b o e hx =>?_,fun b xs e=>tups b xs (I.base.tups b xs e),fun b o xs e=>frzs b o xs (I.base.frzs b o xs e),fun b ps e =>?_⟩,?_,fun x c e =>?_,?_,fun x c e =>?_,fun p hp =>?_,hok,I.len⟩
 ·exact keep b o (neL b o e) hb (neC b o e hx) (I.base.keep b o e n hb hx) (I.base.free b o e n hx)
 ·obtain⟨sl,e1⟩:=I.base.slot b o e n hb hx;obtain⟨sl',e2⟩:=slot b _ (neL b o e) hb (neC b o e hx) e1 (I.base.free b o e n hx);exact⟨sl',e2⟩
 ·obtain⟨o',e1⟩:=I.base.there b o e hx;exact free b o' (neC b o e hx) e1 (I.base.free b o e n hx)
 ·obtain⟨o',e1⟩:=I.base.there b o e hx;exact there b o' (neC b o e hx) e1
 ·obtain⟨m1,e1⟩:=I.base.tbls b ps e;obtain⟨m2,e2⟩:=tbls b _ e1;exact⟨m1++m2,by rw[e2,Array.append_assoc]⟩
 ·obtain⟨m,hn,hl⟩:=I.loc;refine⟨m,ns m hn,fun i x v e1 e2 e3 =>?_⟩
  obtain⟨u,r,l⟩:=hl i x v e1 e2 e3;refine⟨u,r,?_⟩;rcases l with l | ⟨k,c,e,z⟩
  ·exact .inl l
  ·exact .inr ⟨k,c,e,cellK x c e _ z⟩
 ·obtain⟨v,z⟩:=I.cell x c e;exact⟨v,cellK x c e v z⟩
 ·obtain⟨m,⟨o,_,_,ho,_⟩,_⟩:=I.loc;exact free _ o (fun z=>(hch _ z).2.1 rfl) ho I.free
 ·obtain⟨v,o,ho,hd⟩:=I.cell x c e;exact free c o (fun z=>(hch c z).2.2.1 x c e rfl) ho (I.freeC x c e)
 ·obtain⟨e,n,ne,nf,d⟩:=I.pin p hp;have nch:p.1∉ch:=fun z=>(hch p.1 z).2.2.2 p hp rfl
  exact⟨keep p.1 p.2 ne nf nch e n,free p.1 p.2 nch e n,ne,nf,d⟩
theorem Inv.un{t':Nat}(I:Inv X zv σ H s)(u:Un X.fs [] H H' s.heap h')(hok:HOk X.prog X.w H' h'):Inv X zv σ H' { s with heap:=h',toks:=t' }:=by
 obtain⟨m,⟨o,es,ep,ho,r⟩,_⟩:=id I.loc;obtain⟨sl,hL⟩:=u.any ho I.free (by simp)
 exact I.step (g':=s.gens) (d':=s.drawn) (ch:=[]) (fun _ z=>nomatch z) (fun b o _ hb _ e n=>u.keep b o e n hb (by simp)) (fun b o _ hb _ e n=>u.slot b o e n hb (by simp)) (fun b o _ e n=>u.free b o e n (by simp)) (fun b o _ e=>u.there b o e (by simp)) u.tups u.frzs u.tbls (fun m' hm=>by
  obtain⟨o',es',ep',ho',r'⟩:=hm;rw[ho] at ho';cases ho';exact⟨_,es',ep',hL,r'⟩) hok I.bare
theorem Inv.call{g':Array GenState}{t':Nat}{d':Drawn}{ch:List aX}(I:Inv X zv σ H s)(u:Un (frs X.stack) ch H H' s.heap h')(hok:HOk X.prog X.w H' h')(hg:qN g')
  (hch:∀b∈ch,(b∈X.ex∨X.s₀.heap.objs.size<=b)/\b≠X.env.locals/\(∀x c,X.env.cells.lookup x=some c->c≠b)/\∀p∈X.pn++zv,p.1≠b) :
  Inv X zv σ H' { s with heap:=h',gens:=g',drawn:=d',toks:=t' }:=by
 obtain⟨m,⟨o,es,ep,ho,r⟩,_⟩:=id I.loc;obtain⟨sl,hL⟩:=u.any ho I.free fun z=>(hch _ z).2.1 rfl
 exact I.step (ch:=ch) hch (fun b o hL hb hc e n=>u.keep b o e n (fun z=>(bF.mp (I.stkSub b z)).elim hL hb) hc) (fun b o _ _ hc e n=>u.any e n hc) (fun b o hc e n=>u.free b o e n hc) (fun b o hc e=>u.there b o e hc) u.tups u.frzs u.tbls (fun m' hm=>by
  obtain⟨o',es',ep',ho',r'⟩:=hm;rw[ho] at ho';cases ho';exact⟨_,es',ep',hL,r'⟩) hok hg
theorem Inv.turned{t':Nat}{it:aX}(I:Inv X zv σ H s)(k:∀b o,b≠it->s.heap.get? b=some o->h'.get? b=some o)(hn:H it=none)(hL:it≠X.env.locals)
  (h1:it∈X.ex∨X.s₀.heap.objs.size<=it) (h2:∀x c,X.env.cells.lookup x=some c->c≠it) (h3:∀p∈X.pn++zv,p.1≠it):Inv X zv σ H { s with heap:=h',toks:=t' }:=by
 have nit:∀b u,H b=some u->b≠it:=fun b u e z=>by rw[z,hn] at e;cases e
 refine I.step (g':=s.gens) (d':=s.drawn) (ch:=[it]) (fun b hb =>?_) (fun b o _ _ hc e _=>k b o (fun z=>hc (by simp[z])) e) (fun b o _ _ hc e _=>⟨o.slots,k b o (fun z=>hc (by simp[z])) e⟩) (fun _ _ _ _ n=>n)
  (fun b o hc e=>⟨o,k b o (fun z=>hc (by simp[z])) e⟩) (fun _ _ e=>e) (fun _ _ _ e=>e) (fun b ps e=>⟨#[],by rw[e];simp⟩) (fun m hm =>?_) (fun b u e =>?_) I.bare
 ·have e:b=it:=by simpa using hb
  subst e;exact⟨h1,hL,h2,h3⟩
 ·obtain⟨o,es,ep,ho,r⟩:=hm;exact⟨o,es,ep,k _ o (gG hL) ho,r⟩
 ·refine(I.hok b u e).stay (fun c v hc q=>k c v ?_ q) (fun _ q=>q) fun _ _ q=>q
  rcases hc with z | z
  ·rw[z];exact nit b u e
  ·exact nit c _ z
theorem Inv.tok(I:Inv X zv σ H s)(t:Nat):Inv X zv σ H { s with toks:=t }:=I.un (h':=s.heap) (t':=t) Un.refl I.hok
theorem Inv.kept{t':Nat}(I:Inv X zv σ H s)(k:∀b u,s.heap.get? b=some u->h'.get? b=some u):Inv X zv σ H { s with heap:=h',toks:=t' }:=I.un (Un.kept k) (I.hok.kept k)
theorem Inv.laid{a:aX}{o:HO}{t':Nat}(I:Inv X zv σ H s)(k:∀b u,s.heap.get? b=some u->h'.get? b=some u)(hp:s.heap.objs.size<=a)(new:uv X.prog X.w (upd H a o) h' a o) :
  Inv X zv σ (upd H a o) { s with heap:=h',toks:=t' }:=I.un (Un.laid k hp (I.hok.fresh hp)) (I.hok.laid k hp new)
theorem Inv.write{x e:aX}{o:HO}{t':Nat}(I:Inv X zv σ H s)(mu:Mut (H x))(he:e=x∨H e=some (.own x))(k:∀b u,b≠e->s.heap.get? b=some u->h'.get? b=some u)(heo:∃u,h'.get? e=some u)
  (new:uv X.prog X.w (upd H x o) h' x o):Inv X zv σ (upd H x o) { s with heap:=h',toks:=t' }:=I.un (Un.write mu he k heo) (I.hok.write mu he k heo new)
theorem Inv.pins_of{pins':List (aX×Obj)}(I:Inv X zv σ H s)(h:∀p∈pins',s.heap.get? p.1=some p.2/\H p.1=none/\p.1≠X.env.locals/\p.1∉X.fs/\∀v,p.2.data≠.cell v):Inv X pins' σ H s :=
 ⟨I.ok,I.os,I.bare,I.base,I.loc,I.cell,I.free,I.freeC,fun p hp=>(dG.mp hp).elim (fun z=>I.pin p (fM _ z)) (h p),I.hok,I.len⟩
theorem air{N:List Str}(hN:N.Nodup){i j:Nat}{x:Str}(a:N[i]? = some x)(b:N[j]? = some x):i=j:=by
 obtain⟨h1,e1⟩:=aK.mp a;obtain⟨h2,e2⟩:=aK.mp b;exact(List.getElem_inj hN).mp (e1.trans e2.symm)
theorem ajm{M:vX}{A:cW}{E:aD->aH->Prop}{i:Nat}{x:Str}{v:V}{u:aD}{Q:Unit->aH->Prop}(I:Inv X zv σ H s)(hN:X.N.Nodup)(hi:X.N[i]? = some x)(hx:Loc X.env.scope x)(r:RelV v u)
  (h:∀s',Inv X zv (σ.set i (some v)) H s'->(∃a,fP a s.heap s'.heap/\(a=X.env.locals∨X.env.cells.lookup x=some a))->Q () s') (hf:X.fn x=true∨X.env.scope.names.lookup x=some .local:=by first | exact .inl rfl | exact .inr rfl | assumption):bL M A (storeName X.env x u) Q E s:=by
 obtain⟨m,hn,hl⟩:=id I.loc;have hcls:(X.env.scope.kind==.class||(X.env.scope.kind==.module&&X.env.locals != X.env.globals))=false:=by rw[I.ok.kind];rfl
 have hiσ:i < σ.length:=by rw[I.len];exact(aK.mp hi).1
 have cne:=I.cne;have tracked:∀{a:aX} {h':fK},(∃o,s.heap.get? a=some o/\H a=none)->fP a s.heap h'->HOk X.prog X.w H h':=fun{a h'} ha hs b ob e=>by
  obtain⟨_,_,hfree⟩:=ha;refine(I.hok b ob e).stay (fun c w' hc q=>(hs.2 c ?_).trans q) (fun _ q=>q) fun _ _ q=>q
  rintro rfl
  rcases hc with rfl | hc
  ·rw[hfree] at e;cases e
  ·rw[hfree] at hc;cases hc
 rcases hx with hk | hk
 ·refine wpAny_storeName_local hk hn (fun h' hn' hs =>?_) hcls
  obtain⟨oL,_,_,hoL,_⟩:=id hn;refine h _ ⟨I.ok,I.os,I.bare,⟨fun b o e n hb hx =>?_,fun b o e n hb hx =>?_,I.base.free,fun b o e hx =>?_,I.base.tups,I.base.frzs,I.base.tbls⟩,⟨_,hn',fun j y v' e1 e2 e3 =>?_⟩,fun y c e =>?_,I.free,I.freeC,fun p hp =>?_,tracked ⟨oL,hoL,I.free⟩ hs,by simpa using I.len⟩ ⟨_,hs,.inl rfl⟩
  ·exact(hs.2 b (bQ (cF (aR e) I.ok.above))).trans (I.base.keep b o e n hb hx)
  ·obtain⟨sl,e1⟩:=I.base.slot b o e n hb hx;exact⟨sl,(hs.2 b (bQ (cF (aR e) I.ok.above))).trans e1⟩
  ·obtain⟨o',e1⟩:=I.base.there b o e hx;exact⟨o',(hs.2 b (bQ (cF (aR e) I.ok.above))).trans e1⟩
  ·by_cases hj:j=i
   ·subst hj;rw[hi] at e1;cases e1;rw[fQ hiσ] at e2;cases e2;exact⟨u,r,.inl ⟨hk,by simp⟩⟩
   ·rw[fO (gG hj)] at e2;obtain⟨u',r',q⟩:=hl j y v' e1 e2 e3;refine⟨u',r',?_⟩;rcases q with⟨k,e⟩ | ⟨k,c,e,z⟩
    ·refine .inl ⟨k,?_⟩;have:y≠x:=fun e=>hj (air hN e1 (e▸hi))
     simp[this,e]
    ·exact .inr ⟨k,c,e,z.sameBut hs (cne y c e)⟩
  ·obtain⟨w',z⟩:=I.cell y c e;exact⟨w',z.sameBut hs (cne y c e)⟩
  ·obtain⟨e,n,ne,nf,d⟩:=I.pin p hp;exact⟨(hs.2 p.1 ne).trans e,n,ne,nf,d⟩
 ·have hfn:X.fn x=true:=by
   rcases hf with z | z
   ·exact z
   ·rw[z] at hk;cases hk
  obtain⟨c,hc⟩:=I.ok.has x (.inl hk);obtain⟨w',z⟩:=I.cell x c hc;refine wpAny_storeName_cell I.ok.kind hk hc z (fun h' hc' hs =>?_)
  obtain⟨oc,hoc,hocd⟩:=id z;refine h { s with heap:=h' } ⟨I.ok,I.os,I.bare,⟨fun b o e n hb hx =>?_,fun b o e n hb hx =>?_,I.base.free,fun b o e hx =>?_,I.base.tups,I.base.frzs,I.base.tbls⟩,⟨m,hn.sameBut hs (gG (cne x c hc)),fun j y v' e1 e2 e3 =>?_⟩,fun y c' e =>?_,I.free,I.freeC,fun p hp =>?_,tracked ⟨oc,hoc,I.freeC x c hc⟩ hs,by simpa using I.len⟩ ⟨c,hs,.inr hc⟩
  ·exact(hs.2 b (bQ (cF (aR e) (I.ok.cab x c hfn hc)))).trans (I.base.keep b o e n hb hx)
  ·obtain⟨sl,e1⟩:=I.base.slot b o e n hb hx;exact⟨sl,(hs.2 b (bQ (cF (aR e) (I.ok.cab x c hfn hc)))).trans e1⟩
  ·obtain⟨o',e1⟩:=I.base.there b o e hx;exact⟨o',(hs.2 b (bQ (cF (aR e) (I.ok.cab x c hfn hc)))).trans e1⟩
  ·by_cases hj:j=i
   ·subst hj;rw[hi] at e1;cases e1;rw[fQ hiσ] at e2;cases e2;exact⟨u,r,.inr ⟨.inl hk,c,hc,hc'⟩⟩
   ·rw[fO (gG hj)] at e2;obtain⟨u',r',q⟩:=hl j y v' e1 e2 e3;refine⟨u',r',?_⟩;rcases q with q | ⟨k,c',e,z'⟩
    ·exact .inl q
    ·refine .inr ⟨k,c',e,z'.sameBut hs ?_⟩
     rintro rfl
     exact hj (air hN e1 (I.ok.inj _ _ _ e hc▸hi))
  ·by_cases hcc:c'=c
   ·subst hcc;exact⟨_,hc'⟩
   ·obtain⟨w2,z2⟩:=I.cell y c' e;exact⟨w2,z2.sameBut hs hcc⟩
  ·obtain⟨e,n,ne,nf,d⟩:=I.pin p hp;refine⟨(hs.2 p.1 ?_).trans e,n,ne,nf,d⟩;intro q;rw[q,hoc] at e;have q':oc=p.2:=cP e;exact d w' (by rw[<-q'];exact hocd)
theorem aez{M:vX}{A:cW}{E:aD->aH->Prop}{i:Nat}{x:Str}{v:V}{u:aD}{Q:Unit->aH->Prop}(I:Inv X zv σ H s)(hN:X.N.Nodup)(hi:X.N[i]? = some x)(hx:Loc X.env.scope x)(r:RelV v u)
  (h:∀s',Inv X zv (σ.set i (some v)) H s'->Q () s') (hf:X.fn x=true∨X.env.scope.names.lookup x=some .local:=by first | exact .inl rfl | exact .inr rfl | assumption):bL M A (storeName X.env x u) Q E s :=
 ajm I hN hi hx r (fun s' I' _=>h s' I') hf
theorem Inv.call'{s':aH}{ch:List aX}(I:Inv X zv σ H s)(ho:s'.os=s.os)(u:Un (frs X.stack) ch H H' s.heap s'.heap)(hok:HOk X.prog X.w H' s'.heap)(hg:qN s'.gens)
  (hch:∀b∈ch,(b∈X.ex∨X.s₀.heap.objs.size<=b)/\b≠X.env.locals/\(∀x c,X.env.cells.lookup x=some c->c≠b)/\∀p∈X.pn++zv,p.1≠b):Inv X zv σ H' s':=by
 obtain⟨h',g',d',t',o'⟩:=s';have e:o'=s.os:=ho;subst e;exact I.call (g':=g') (t':=t') (d':=d') u hok hg hch
end
abbrev XK:=aD->Option aX->Hp->Prop
abbrev St:=List (Option V)
abbrev VK:=V->Hp->Prop
abbrev TE:=St->Hp->VK->Prop
abbrev TT:=St->Hp->(Bool->Hp->Prop)->Prop
abbrev TA:=St->Hp->(List V->Hp->Prop)->Prop
structure Ends where
 nx:St->Hp->Prop
 rt:VK
 bk:St->Hp->Prop:=fun _ _=>False
 ct:St->Hp->Prop:=fun _ _=>False
abbrev TS:=Ends->St->Hp->Prop
def EP(X:Cx)(zv:List (aX×Obj))(σ:St)(Q:VK)(u:aD)(s':aH):Prop:=∃v H',Inv X zv σ H' s'/\RelV v u/\Q v H'
def TP(X:Cx)(zv:List (aX×Obj))(σ:St)(Q:Bool->Hp->Prop)(b:Bool)(s':aH):Prop:=∃H',Inv X zv σ H' s'/\Q b H'
def AP(X:Cx)(zv:List (aX×Obj))(σ:St)(Q:List V->Hp->Prop)(us:List aD)(s':aH):Prop:=∃vs H',Inv X zv σ H' s'/\Vals vs us/\Q vs H'
def SP(X:Cx)(zv:List (aX×Obj))(D:Ends)(f:Flow)(s':aH):Prop :=
 match f with
 | .next=>∃σ' H',Inv X zv σ' H' s'/\D.nx σ' H'
 | .brk=>∃σ' H',Inv X zv σ' H' s'/\D.bk σ' H'
 | .cont=>∃σ' H',Inv X zv σ' H' s'/\D.ct σ' H'
 | .ret u=>∃v σ' H',Inv X zv σ' H' s'/\RelV v u/\D.rt v H'
def PE(X:Cx)(e:dX)(t:TE):Prop :=
 ∀(zv:List (aX×Obj)) (s:aH) (σ:St) (H:Hp) (Q:VK),Inv X zv σ H s->t σ H Q->bL (bU X.prog X.w) X.A (eval e X.env) (EP X zv σ Q) X.xe s
def PT(X:Cx)(e:dX)(t:TT):Prop :=
 ∀(zv:List (aX×Obj)) (s:aH) (σ:St) (H:Hp) (Q:Bool->Hp->Prop),Inv X zv σ H s->t σ H Q->bL (bU X.prog X.w) X.A (isTrue e X.env (eval e X.env)) (TP X zv σ Q) X.xe s
def PW(X:Cx)(e:dX)(t:TT):Prop :=
 ∀(whole:Sem aD) (zv:List (aX×Obj)) (s:aH) (σ:St) (H:Hp) (Q:Bool->Hp->Prop),Inv X zv σ H s->t σ H Q->bL (bU X.prog X.w) X.A (isTrue e X.env whole) (TP X zv σ Q) X.xe s
theorem PW.pt{X:Cx}{e:dX}{t:TT}(h:PW X e t):PT X e t:=h _
def PA(X:Cx)(es:List dX)(t:TA):Prop :=
 ∀(pos:Pos) (zv:List (aX×Obj)) (s:aH) (σ:St) (H:Hp) (Q:List V->Hp->Prop),Inv X zv σ H s->t σ H Q->bL (bU X.prog X.w) X.A (spliced (jD pos (aQ es X.env))) (AP X zv σ Q) X.xe s
def PS(X:Cx)(st:iJ)(t:TS):Prop :=
 ∀(zv:List (aX×Obj)) (s:aH) (σ:St) (H:Hp) (D:Ends),Inv X zv σ H s->t D σ H->bL (bU X.prog X.w) X.A (exec st X.env) (SP X zv D) X.xe s
def PSs(X:Cx)(st:List iJ)(t:TS):Prop :=
 ∀(zv:List (aX×Obj)) (s:aH) (σ:St) (H:Hp) (D:Ends),Inv X zv σ H s->t D σ H->bL (bU X.prog X.w) X.A (execs st X.env) (SP X zv D) X.xe s
theorem thn{α:Type}{t:Sem α}{Q Q':α->aH->Prop}{M:vX}{A:cW}{E:aD->aH->Prop}{s:aH}(h:bL M A t Q E s)(hQ:∀a s,Q a s->Q' a s):bL M A t Q' E s:=bC h hQ fun _ _ x=>x
section
variable{X:Cx}
def tVar(i:Nat):TE:=fun σ H Q=>∃v,σ[i]? = some (some v)/\Q v H
def tC(v:V):TE:=fun _ H Q=>Q v H
theorem a4a{i:Nat}{x:Str}{pos:Pos}(hN:X.N[i]? = some x)(hv:Vis X.env.scope x)(hd:(x==("__debug__" : Str))=false:=by decide)(hcd:(x==("__classdict__" : Str))=false:=by decide):PE X (.Name x pos) (tVar i):=by
 intro zv s σ H Q I h;obtain⟨v,e,h⟩:=h;obtain⟨m,hn,hl⟩:=I.loc;obtain⟨u,r,l⟩:=hl i x v hN e hv;have fin:EP X zv σ Q u s:=⟨v,H,I,r,h⟩;rcases l with⟨hk,hm⟩ | ⟨hk,c,hc,hcell⟩
 ·exact wpAny_Name (wpAny_loadName_local I.ok.kind hk hn hm fin) hd
 ·rcases hk with hk | hk
  ·exact wpAny_Name (wpAny_loadName_cell I.ok.kind hk hc hcell fin) hd
  ·exact wpAny_Name (wpAny_loadName_free I.ok.kind hk hc hcell fin hcd) hd
theorem a4h{i j pos}:PE X (.Constant (.int i) j pos) (tC (.int i)):=fun _ _ _ H _ I h=>wpAny_Constant_int ⟨.int i,H,I.tok _,⟨_,rfl⟩,h⟩
theorem a8s{b j pos}:PE X (.Constant (.bool b) j pos) (tC (.bl b)):=fun _ _ _ H _ I h=>Constant_bool ⟨.bl b,H,I,rfl,h⟩
theorem a4e{j pos}:PE X (.Constant .none j pos) (tC .non):=fun _ _ _ H _ I h=>Constant_none ⟨.non,H,I,rfl,h⟩
theorem a4b{x j pos}:PE X (.Constant (.str x) j pos) (tC (.str x)):=fun _ _ _ H _ I h=>xF ⟨.str x,H,I.tok _,⟨_,rfl⟩,h⟩
def Gl(X:Cx)(x:Str):Prop:=X.env.kindOf x=some .globalImplicit
theorem aa8{E:aD->aH->Prop}{zv:List (aX×Obj)}{s:aH}{σ:St}{H:Hp}{x:Str}{u:aD}{pos:Pos}{Q:aD->aH->Prop}(I:Inv X zv σ H s)(hg:Gl X x)(hm:X.mg x=some u)(h:Q u s)
  (hd:(x==("__debug__" : Str))=false:=by decide):bL (bU X.prog X.w) X.A (eval (.Name x pos) X.env) Q E s :=
 tZ I.ok.kind hg (Calls.loadGlobal_global (by rw[I.ok.glob];exact I.mod.glob.keeps I.bk) hm h) hd
theorem af7{E:aD->aH->Prop}{zv:List (aX×Obj)}{s:aH}{σ:St}{H:Hp}{x:Str}{u:aD}{pos:Pos}{Q:aD->aH->Prop}(I:Inv X zv σ H s)(hg:Gl X x)(hm:X.mg x=none)(hv:cD x=some u)(h:Q u s)
  (hn:x ≠ "__name__" := by decide) (hd:(x==("__debug__" : Str))=false:=by decide):bL (bU X.prog X.w) X.A (eval (.Name x pos) X.env) Q E s:=by
 obtain⟨mb,h1,h2⟩:=I.mod.blt;exact tZ I.ok.kind hg (Calls.loadGlobal_builtin (by rw[I.ok.glob];exact I.mod.glob.keeps I.bk) hm (by rw[I.ok.blt];exact h1.keeps I.bk) ((h2 x hn).trans hv) h) hd
theorem asx{x:Str}{v:V}{u:aD}{pos:Pos}(hg:Gl X x)(hm:X.mg x=some u)(r:RelV v u)(hd:(x==("__debug__" : Str))=false:=by decide):PE X (.Name x pos) (tC v) :=
 fun _ _ _ H _ I h=>aa8 I hg hm ⟨v,H,I,r,h⟩ hd
theorem a0w{x:Str}{v:V}{u:aD}{pos:Pos}(hg:Gl X x)(hm:X.mg x=none)(hv:cD x=some u)(r:RelV v u)(hn:x ≠ "__name__" := by decide)(hd:(x==("__debug__" : Str))=false:=by decide):PE X (.Name x pos) (tC v) :=
 fun _ _ _ H _ I h=>af7 I hg hm hv ⟨v,H,I,r,h⟩ hn hd
variable{a b:dX}{ta tb:TE}{pos:Pos}
def PC(X:Cx)(op:uY)(a b:dX)(t:TE):Prop :=
 ∀(zv:List (aX×Obj)) (s:aH) (σ:St) (H:Hp) (Q:VK),Inv X zv σ H s->t σ H Q ->
  bL (bU X.prog X.w) X.A (eval a X.env) (fun v s₁=>bL (bU X.prog X.w) X.A (eval b X.env) (fun u s₂=>bL (bU X.prog X.w) X.A (fW op v u) (EP X zv σ Q) X.xe s₂) X.xe s₁) X.xe s
theorem awz(b:dX){op:uY}(h:op≠.In)(h2:op≠.NotIn):jG op b=false:=by
 have e1:(op==CmpOp.In)=false:=by cases op <;> first | rfl | exact absurd rfl h
 have e2:(op==CmpOp.NotIn)=false:=by cases op <;> first | rfl | exact absurd rfl h2
 cases b <;> simp[jG,e1,e2]
def tIsN(ta:TE):TE:=fun σ H Q=>ta σ H fun x H1=>Q (.bl (decide (x=.non))) H1
theorem RelV.none_iff{x:V}{v:aD}(r:RelV x v):(v==cU)=decide (x=.non):=by
 cases x with
 | non=>cases r;rfl
 | bl _=>cases r;rfl
 | int _=>obtain⟨t,rfl⟩:=r;rfl
 | str _=>obtain⟨t,rfl⟩:=r;rfl
 | byt _=>obtain⟨t,rfl⟩:=r;rfl
 | flt _=>obtain⟨t,rfl⟩:=r;rfl
 | ref _=>cases r;rfl
 | ty _=>cases r;rfl
theorem a4k{j pos'}(ha:PE X a ta):PC X .Is a (.Constant .none j pos') (tIsN ta):=by
 intro zv s σ H Q I h;refine thn (ha zv s σ H _ I h) fun v s1 ⟨x,H1,I1,r1,q1⟩ =>?_
 exact Constant_none (is_none_gen ⟨.bl _,H1,I1,by rw[r1.none_iff];rfl,q1⟩)
def tB(t:TE):TT:=fun σ H Q=>t σ H fun x H1=>∃c,x=.bl c/\Q c H1
theorem a3v{op:uY}{t:TE}(h:PC X op a b t)(h1:jG op b=false:=by first | exact awz _ (by decide) (by decide) | rfl):PT X (.Compare a [op] [b] pos) (tB t):=by
 intro zv s σ H Q I hw;refine wpAny_isTrue_Compare1 (thn (h zv s σ H _ I hw) fun v s1 h1=>thn h1 fun u s2 h2=>thn h2 fun c s3 ⟨x,H1,I1,r1,q1⟩ =>?_) h1
 obtain⟨d,rfl,q⟩:=q1;cases r1;exact wpAny_truthy_bool ⟨H1,I1,q⟩
theorem a3t{e:dX}{t:TE}(h:PE X e t)(he:∀whole,isTrue e X.env whole=(do let v <-whole;standAt e.pos;mW [v] (truthy v)):=by intro _;rfl):PT X e (tB t):=by
 intro zv s σ H Q I hw;refine isTrue_plain (thn (h zv s σ H _ I hw) fun v s1 ⟨x,H1,I1,r1,q1⟩ =>?_) (he _)
 obtain⟨d,rfl,q⟩:=q1;cases r1;exact wpAny_truthy_bool ⟨H1,I1,q⟩
variable{tA tB':TT}{rest:List dX}
def tAnd(t u:TT):TT:=fun σ H Q=>t σ H fun c H1=>if c=true then u σ H1 Q else Q false H1
def tOr(t u:TT):TT:=fun σ H Q=>t σ H fun c H1=>if c=true then Q true H1 else u σ H1 Q
def tNot(t:TT):TT:=fun σ H Q=>t σ H fun c H1=>Q (!c) H1
theorem a0e(ha:PT X a tA):PW X (.BoolOp .And [a] pos) tA:=by
 intro wh zv s σ H Q I h;refine isTrue_and (thn (ha zv s σ H Q I h) fun c s1 e =>?_)
 cases c with
 | true=>exact isTrue_and_nil e
 | false=>exact e
theorem a3p(ha:PT X a tA):PW X (.BoolOp .Or [a] pos) tA:=by
 intro wh zv s σ H Q I h;refine isTrue_or (thn (ha zv s σ H Q I h) fun c s1 e =>?_)
 cases c with
 | false=>exact isTrue_or_nil e
 | true=>exact e
theorem a3q(ha:PT X a tA)(hb:PW X (.BoolOp .And (b::rest) pos) tB'):PW X (.BoolOp .And (a::b::rest) pos) (tAnd tA tB'):=by
 intro wh zv s σ H Q I h;refine isTrue_and (thn (ha zv s σ H _ I h) fun c s1 ⟨H1,I1,q1⟩ =>?_)
 cases c with
 | true=>exact hb wh zv s1 σ H1 Q I1 q1
 | false=>exact⟨H1,I1,q1⟩
theorem a8k(ha:PT X a tA)(hb:PW X (.BoolOp .Or (b::rest) pos) tB'):PW X (.BoolOp .Or (a::b::rest) pos) (tOr tA tB'):=by
 intro wh zv s σ H Q I h;refine isTrue_or (thn (ha zv s σ H _ I h) fun c s1 ⟨H1,I1,q1⟩ =>?_)
 cases c with
 | true=>exact⟨H1,I1,q1⟩
 | false=>exact hb wh zv s1 σ H1 Q I1 q1
theorem a3u(ha:PT X a tA):PT X (.UnaryOp .Not a pos) (tNot tA):=by
 intro zv s σ H Q I h;exact isTrue_not (ha zv s σ H (fun c H1=>Q (!c) H1) I h)
def a8d(ta tb:TE):TE:=fun σ H Q=>ta σ H fun x H1=>∃c,x=.bl c/\if c=true then tb σ H1 Q else Q (.bl false) H1
def a78(ta:TE):TE:=fun σ H Q=>ta σ H fun x H1=>∃c,x=.bl c/\Q (.bl (!c)) H1
theorem a4c{op}{t:TE}(h:PE X a t):PE X (.BoolOp op [a] pos) t:=fun zv s σ H Q I hw=>BoolOp_one (h zv s σ H Q I hw)
theorem a4j(ha:PE X a ta)(hb:PE X (.BoolOp .And (b::rest) pos) tb):PE X (.BoolOp .And (a::b::rest) pos) (a8d ta tb):=by
 intro zv s σ H Q I h;refine BoolOp_and (thn (ha zv s σ H _ I h) fun v s1 ⟨x,H1,I1,r1,q1⟩ =>?_)
 obtain⟨c,rfl,q1⟩:=q1;cases r1;refine wpAny_truthy_bool ?_;cases c with
 | true=>exact hb zv s1 σ H1 Q I1 q1
 | false=>exact⟨.bl false,H1,I1,rfl,q1⟩
theorem a4d(ha:PE X a ta):PE X (.UnaryOp .Not a pos) (a78 ta):=by
 intro zv s σ H Q I h;refine UnaryOp_ (thn (ha zv s σ H _ I h) fun v s1 ⟨x,H1,I1,r1,q1⟩ =>?_)
 obtain⟨c,rfl,q1⟩:=q1;cases r1;exact not_of (wpAny_truthy_bool ⟨.bl (!c),H1,I1,rfl,q1⟩)
def tIf(t:TT)(ta tb:TE):TE:=fun σ H Q=>t σ H fun c H1=>if c=true then ta σ H1 Q else tb σ H1 Q
theorem awj{c:dX}(hc:PT X c tA)(ha:PE X a ta)(hb:PE X b tb):PE X (.IfExp c a b pos) (tIf tA ta tb):=by
 intro zv s σ H Q I h;refine wpAny_IfExp (thn (hc zv s σ H _ I h) fun d s1 ⟨H1,I1,q1⟩ =>?_)
 cases d with
 | true=>exact ha zv s1 σ H1 Q I1 q1
 | false=>exact hb zv s1 σ H1 Q I1 q1
end
def SqL(K:Fg9)(H:Hp)(a:aX)(xs:List V):Prop :=
 Rd H a (.lst xs) ∨
  ∃(o:Obj) (its:Array aD) (n:Nat),K.lookup a=some o/\o.cls=.type "list" /\ o.dict=none/\o.data=.seq its n/\its.size<=cN/\Vals xs its.toList
def SqT(K:Fg9)(H:Hp)(a:aX)(xs:List V):Prop :=
 Rd H a (.tup xs) ∨
  ∃(o:Obj) (its:Array aD) (n:Nat),K.lookup a=some o/\o.cls=.type "tuple" /\ o.data=.seq its n/\its.size<=cN/\Vals xs its.toList
def absV:aD->Option V
 | .none=>some .non
 | .bool b=>some (.bl b)
 | .int i _=>some (.int i)
 | .str x _=>some (.str x)
 | .bytes b _=>some (.byt b)
 | .float b _=>some (.flt b)
 | .ref a=>some (.ref a)
 | .type n=>some (.ty n)
 | _=>none
theorem RelV.abs{x:V}{u:aD}(r:RelV x u):absV u=some x:=by
 cases x with
 | non=>cases r;rfl
 | bl _=>cases r;rfl
 | int _=>obtain⟨t,rfl⟩:=r;rfl
 | str _=>obtain⟨t,rfl⟩:=r;rfl
 | byt _=>obtain⟨t,rfl⟩:=r;rfl
 | flt _=>obtain⟨t,rfl⟩:=r;rfl
 | ref _=>cases r;rfl
 | ty _=>cases r;rfl
theorem RelV.inj{x y:V}{u:aD}(r:RelV x u)(q:RelV y u):x=y:=cP (r.abs.symm.trans q.abs)
theorem Vals.inj:∀{xs ys:List V} {us:List aD},Vals xs us->Vals ys us->xs=ys
 | _,_,_,.nil,.nil=>rfl
 | _,_,_,.cons r t,.cons r' t'=>by rw[r.inj r',Vals.inj t t']
section
variable{X:Cx}{zv:List (aX×Obj)}{σ:St}{H:Hp}{s:aH}{a:aX}{xs ys:List V}
theorem SqL.of{K:Fg9}(h:H a=some (.lst xs)):SqL K H a xs:=.inl (.inl h)
theorem SqT.of{K:Fg9}(h:H a=some (.tup xs)):SqT K H a xs:=.inl (.inl h)
theorem Inv.list(I:Inv X zv σ H s)(h:SqL X.K H a xs):∃its:List aD,Vals xs its/\PlainL s.heap a its.toArray/\xs.length<=cN:=by
 rcases h with h | ⟨o,its,n,hk,hc,hd,hs,hz,r⟩
 ·obtain⟨z,its,n,r,e⟩:=h.ok I.hok;exact⟨its,r,⟨_,n,e,rfl,rfl,rfl⟩,z⟩
 ·refine⟨its.toList,r,⟨o,n,I.kIn a o hk,hc,hd,by simpa using hs⟩,?_⟩
  have e:=r.length;simp only[bT] at e;omega
theorem Inv.tuple(I:Inv X zv σ H s)(h:SqT X.K H a xs):∃its:List aD,Vals xs its/\xX s.heap a its.toArray/\xs.length<=cN:=by
 rcases h with h | ⟨o,its,n,hk,hc,hs,hz,r⟩
 ·obtain⟨z,its,r,p⟩:=h.ok I.hok;exact⟨its,r,p.tup,z⟩
 ·refine⟨its.toList,r,⟨o,I.kIn a o hk,hc,n,by simpa using hs⟩,?_⟩
  have e:=r.length;simp only[bT] at e;omega
theorem Inv.list_inj(I:Inv X zv σ H s)(h:SqL X.K H a xs)(h':SqL X.K H a ys):xs=ys:=by
 obtain⟨its,r,⟨o,n,e,_,_,d⟩,_⟩:=I.list h;obtain⟨its',r',⟨o',n',e',_,_,d'⟩,_⟩:=I.list h';rw[e] at e';cases e';rw[d] at d'
 injection d' with d1 _
 have:its=its':=by simpa using congrArg Array.toList d1
 subst this;exact r.inj r'
theorem Inv.tuple_inj(I:Inv X zv σ H s)(h:SqT X.K H a xs)(h':SqT X.K H a ys):xs=ys:=by
 obtain⟨its,r,⟨o,e,_,n,d⟩,_⟩:=I.tuple h;obtain⟨its',r',⟨o',e',_,n',d'⟩,_⟩:=I.tuple h';rw[e] at e';cases e';rw[d] at d'
 injection d' with d1 _
 have:its=its':=by simpa using congrArg Array.toList d1
 subst this;exact r.inj r'
end
abbrev Cx.wish(X:Cx)(E:aD->aH->Prop):Cx:={ X with xe:=E }
abbrev Cx.nox(X:Cx):Cx:=X.wish fun _ _=>False
theorem Cx.Ok.wish{X:Cx}(ok:X.Ok)(E:aD->aH->Prop):(X.wish E).Ok :=
 ⟨ok.mod,ok.kind,ok.glob,ok.blt,ok.above,ok.inj,ok.has,ok.cab,ok.hd,ok.frames,ok.stk,ok.exf,ok.bs,ok.bsz,ok.noex,ok.exfs,ok.funs,ok.frf⟩
theorem Cx.Ok.unwish{X:Cx}{E:aD->aH->Prop}(ok:(X.wish E).Ok):X.Ok :=
 ⟨ok.mod,ok.kind,ok.glob,ok.blt,ok.above,ok.inj,ok.has,ok.cab,ok.hd,ok.frames,ok.stk,ok.exf,ok.bs,ok.bsz,ok.noex,ok.exfs,ok.funs,ok.frf⟩
section
variable{X:Cx}{zv:List (aX×Obj)}{σ:St}{H:Hp}{s:aH}{E:aD->aH->Prop}
theorem Inv.wish(I:Inv X zv σ H s)(E:aD->aH->Prop):Inv (X.wish E) zv σ H s:=⟨I.ok.wish E,I.os,I.bare,I.base,I.loc,I.cell,I.free,I.freeC,I.pin,I.hok,I.len⟩
theorem Inv.unwish(I:Inv (X.wish E) zv σ H s):Inv X zv σ H s:=⟨I.ok.unwish,I.os,I.bare,I.base,I.loc,I.cell,I.free,I.freeC,I.pin,I.hok,I.len⟩
theorem SP.unwish{D:Ends}{f:Flow}{s':aH}(h:SP (X.wish E) zv D f s'):SP X zv D f s':=by
 cases f with
 | next=>obtain⟨σ',H',I,q⟩:=h;exact⟨σ',H',I.unwish,q⟩
 | brk=>obtain⟨σ',H',I,q⟩:=h;exact⟨σ',H',I.unwish,q⟩
 | cont=>obtain⟨σ',H',I,q⟩:=h;exact⟨σ',H',I.unwish,q⟩
 | ret u=>obtain⟨v,σ',H',I,r,q⟩:=h;exact⟨v,σ',H',I.unwish,r,q⟩
theorem PSs.nox{st:List iJ}{t:TS}(h:PSs X.nox st t):PSs X st t:=fun zv s σ H D I hw =>
 bC (h zv s σ H D (I.wish _) hw) (fun _ _ q=>q.unwish) fun _ _ z=>fU z
end
section
variable{X:Cx}{st:iJ}{rest:List iJ}{t u:TS}{e:dX}{te:TE}{pos:Pos}
def a79:TS:=fun D σ H=>D.nx σ H
def tSeq(t u:TS):TS:=fun D σ H=>t { D with nx:=u D } σ H
theorem a0g:PSs X [] a79:=fun _ _ σ H _ I h=>wpAny_execs_nil ⟨σ,H,I,h⟩
theorem ae0(h1:PS X st t)(h2:PSs X rest u):PSs X (st::rest) (tSeq t u):=by
 intro zv s σ H D I h;refine wpAny_execs_cons (thn (h1 zv s σ H { D with nx:=u D } I h) fun f s1 q =>?_)
 cases f with
 | next =>
  obtain⟨σ',H',I',q⟩:=q;exact h2 zv s1 σ' H' D I' q
 | ret v=>exact q
 | brk=>exact q
 | cont=>exact q
theorem aid(h1:PS X st t):PSs X [st] t:=by
 intro zv s σ H D I h;refine wpAny_execs_cons (thn (h1 zv s σ H D I h) fun f s1 q =>?_)
 cases f with
 | next=>exact wpAny_execs_nil q
 | ret v=>exact q
 | brk=>exact q
 | cont=>exact q
theorem Inv.quiet{zv:List (aX×Obj)}{σ:St}{H:Hp}{s:aH}(I:Inv X zv σ H s):interactive X.env=false:=by simp[interactive,I.ok.kind]
def a8a(te:TE):TS:=fun D σ H=>te σ H fun _ H1=>D.nx σ H1
theorem a0j(he:PE X e te)(hs:gU e none pos.line X.env=pure false:=by rfl):PS X (.Expr e pos) (a8a te):=by
 intro zv s σ H D I h;exact wpAny_Expr_any (thn (he zv s σ H _ I h) fun v s1 ⟨x,H1,I1,r1,q1⟩=>⟨σ,H1,I1,q1⟩) I.quiet hs
def tRet(te:TE):TS:=fun D σ H=>te σ H D.rt
theorem a3w(he:PE X e te):PS X (.Return (some e) pos) (tRet te):=by
 intro zv s σ H D I h;exact wpAny_Return_some (thn (he zv s σ H _ I h) fun v s1 ⟨x,H1,I1,r1,q1⟩=>⟨x,σ,H1,I1,r1,q1⟩)
def tIfS(c:TT)(t u:TS):TS:=fun D σ H=>c σ H fun b H1=>if b=true then t D σ H1 else u D σ H1
theorem a8n{c:dX}{a b:List iJ}{tc:TT}(hc:PT X c tc)(ha:PSs X a t)(hb:PSs X b u):PS X (.If c a b pos) (tIfS tc t u):=by
 intro zv s σ H D I h;refine wpAny_If (thn (hc zv s σ H _ I h) fun d s1 ⟨H1,I1,q1⟩ =>?_)
 cases d with
 | true=>exact ha zv s1 σ H1 D I1 q1
 | false=>exact hb zv s1 σ H1 D I1 q1
def a3f:TS:=fun _ _ _=>False
theorem aie:PS X st a3f:=fun _ _ _ _ _ _ h=>h.elim
end
abbrev TG:=V->St->Hp->(St->Hp->Prop)->Prop
abbrev TGs:=List V->St->Hp->(St->Hp->Prop)->Prop
def PG(X:Cx)(target:dX)(t:TG):Prop :=
 ∀(zv:List (aX×Obj)) (s:aH) (σ:St) (H:Hp) (v:V) (u:aD) (Q:St->Hp->Prop),Inv X zv σ H s->RelV v u->t v σ H Q ->
  bL (bU X.prog X.w) X.A (mZ target X.env u) (fun _ s'=>∃σ' H',Inv X zv σ' H' s'/\Q σ' H') X.xe s
def PGs(X:Cx)(ts:List dX)(t:TGs):Prop :=
 ∀(zv:List (aX×Obj)) (s:aH) (σ:St) (H:Hp) (vs:List V) (us:List aD) (Q:St->Hp->Prop),Inv X zv σ H s->Vals vs us->t vs σ H Q ->
  bL (bU X.prog X.w) X.A (assignInOrder ((dU ts X.env).map (·.2)) us) (fun _ s'=>∃σ' H',Inv X zv σ' H' s'/\Q σ' H') X.xe s
abbrev TSet:=V->V->V->Hp->(Hp->Prop)->Prop
def PSet(X:Cx)(t:TSet):Prop :=
 ∀(zv:List (aX×Obj)) (s:aH) (σ:St) (H:Hp) (o i v:V) (ov iv u:aD) (Q:Hp->Prop),Inv X zv σ H s->RelV o ov->RelV i iv->RelV v u->t o i v H Q ->
  bL (bU X.prog X.w) X.A (setItem ov iv u) (fun _ s'=>∃H',Inv X zv σ H' s'/\Q H') X.xe s
abbrev TIp:=V->V->Hp->VK->Prop
def PIp(X:Cx)(op:Operator)(t:TIp):Prop :=
 ∀(zv:List (aX×Obj)) (s:aH) (σ:St) (H:Hp) (x y:V) (v u:aD) (Q:VK),Inv X zv σ H s->RelV x v->RelV y u->t x y H Q ->
  bL (bU X.prog X.w) X.A (inplaceOp op v u) (EP X zv σ Q) X.xe s
section
variable{X:Cx}{pos:Pos}
def a1s(i:Nat):TG:=fun v σ H Q=>Q (σ.set i (some v)) H
theorem afy{i:Nat}{x:Str}(hN:X.N.Nodup)(hi:X.N[i]? = some x)(hx:Loc X.env.scope x)(hf:X.fn x=true∨X.env.scope.names.lookup x=some .local:=by first | exact .inl rfl | exact .inr rfl | assumption):PG X (.Name x pos) (a1s i):=by
 intro zv s σ H v u Q I r h;exact wpAny_assign_Name (aez I hN hi hx r (fun s' I'=>⟨_,H,I',h⟩) hf)
def gNil:TGs:=fun vs σ H Q=>vs=[]/\Q σ H
def a9z(t:TG)(u:TGs):TGs:=fun vs σ H Q=>∃v r,vs=v::r/\t v σ H fun σ' H'=>u r σ' H' Q
theorem amd:PGs X [] gNil:=by
 intro zv s σ H vs us Q I r h;obtain⟨e,h⟩:=h;subst e;cases r;exact assignInOrder_nil ⟨σ,H,I,h⟩
theorem acy{e:dX}{es:List dX}{t:TG}{u:TGs}(h1:PG X e t)(h2:PGs X es u)
  (hs:(dU (e::es) X.env).map (·.2)=mZ e X.env::(dU es X.env).map (·.2):=by rfl):PGs X (e::es) (a9z t u):=by
 intro zv s σ H vs us Q I r h;obtain⟨v,vr,e1,h⟩:=h;subst e1;cases r with
 | cons r rr =>
  rw[hs];refine assignInOrder_cons (thn (h1 zv s σ H _ _ _ I r h) fun _ s1 ⟨σ1,H1,I1,q1⟩ =>?_)
  exact h2 zv s1 σ1 H1 _ _ Q I1 rr q1
def gTup(K:Fg9)(n:Nat)(t:TGs):TG:=fun v σ H Q=>∃a xs,v=.ref a/\SqT K H a xs/\xs.length=n/\t xs σ H Q
theorem asw{es:List dX}{k:Nat}{t:TGs}{n:Nat}(hc:X.calm=true)(h:PGs X es t)
  (hn:(dU es X.env).length=n:=by rfl) (hst:(dU es X.env).findIdx? (·.1)=none:=by rfl):PG X (.Tuple es k pos) (gTup X.K n t):=by
 intro zv s σ H v u Q I r hw;obtain⟨a,xs,e1,hq,hl,hw⟩:=hw;subst e1;cases r;obtain⟨its,rv,ht,hz⟩:=I.tuple hq;refine assign_Tuple_tuple (I.ok.hd hc) ht (by simp[hn,<-hl,rv.length]) hst fun h' hx =>?_
 have I1:Inv X zv σ H { s with heap:=h' }:=I.kept (t':=s.toks) fun b o e=>hx b o (bQ (aR e)) e
 exact h zv _ σ H xs _ Q I1 (by simpa using rv) hw
def gSub(to ti:TE)(t:TSet):TG:=fun v σ H Q=>to σ H fun o H1=>ti σ H1 fun i H2=>t o i v H2 fun H3=>Q σ H3
theorem ayu{o i:dX}{to ti:TE}{t:TSet}(ho:PE X o to)(hi:PE X i ti)(hs:PSet X t)
  (ha:∀v,mZ (.Subscript o i pos) X.env v=(do
   let ov <-mW [v] (eval o X.env)
   let iv <-mW [v,ov] (eval i X.env)
   standAt pos
   mW [v,ov,iv] (setItem ov iv v)
   release [v,ov,iv] []):=by intro _;rfl):PG X (.Subscript o i pos) (gSub to ti t):=by
 intro zv s σ H v u Q I r h;rw[ha];refine aA (eX (thn (ho zv s σ H _ I h) fun ov s1 ⟨x,H1,I1,r1,q1⟩ =>?_))
 refine aA (eX (thn (hi zv s1 σ H1 _ I1 q1) fun iv s2 ⟨y,H2,I2,r2,q2⟩ =>?_))
 refine aA (kE (aA (eX (thn (hs zv s2 σ H2 x y v ov iv u _ I2 r1 r2 r q2) fun _ s3 ⟨H3,I3,q3⟩ =>?_))))
 exact wpAny_release ⟨σ,H3,I3,q3⟩
def tAsg(te:TE)(g:TG):TS:=fun D σ H=>te σ H fun x H1=>g x σ H1 D.nx
theorem anw{tg e:dX}{te:TE}{g:TG}(he:PE X e te)(hg:PG X tg g)(hs:swapsWithSole [tg] e pos.line X.env=pure false:=by rfl)(hw:swappedStores [tg] e X.env=pure none:=by rfl)
  (h1:(dU [tg] X.env).map (·.2)=[mZ tg X.env]:=by rfl):PS X (.Assign [tg] e pos) (tAsg te g):=by
 intro zv s σ H D I h;refine wpAny_Assign_stores (thn (he zv s σ H _ I h) fun v s1 ⟨x,H1,I1,r1,q1⟩ =>?_) hs hw
 rw[h1];exact thn (hg zv s1 σ H1 x v _ I1 r1 q1) fun _ s2 q=>q
theorem ayr{i:Nat}{x:Str}{e:dX}{te:TE}{pos':Pos}(hN:X.N.Nodup)(hi:X.N[i]? = some x)(hx:Loc X.env.scope x)(he:PE X e te)(hs:gU e (some (.Name x pos')) pos.line X.env=pure false:=by rfl)(hf:X.fn x=true∨X.env.scope.names.lookup x=some .local:=by first | exact .inl rfl | exact .inr rfl | assumption) :
  PS X (.Assign [.Name x pos'] e pos) (tAsg te (a1s i)):=by
 intro zv s σ H D I h;refine wpAny_Assign_Name (thn (he zv s σ H _ I h) fun v s1 ⟨y,H1,I1,r1,q1⟩ =>?_) hs
 exact aez I1 hN hi hx r1 (fun s2 I2=>⟨_,H1,I2,q1⟩) hf
def a8c(to ti te:TE)(tget:V->V->Hp->VK->Prop)(tip:TIp)(tset:TSet):TS:=fun D σ H=>to σ H fun o H1=>ti σ H1 fun i H2=>tget o i H2 fun x H3=>te σ H3 fun y H4=>tip x y H4 fun z H5=>tset o i z H5 fun H6=>D.nx σ H6
def PGet(X:Cx)(t:V->V->Hp->VK->Prop):Prop :=
 ∀(zv:List (aX×Obj)) (s:aH) (σ:St) (H:Hp) (o i:V) (ov iv:aD) (Q:VK),Inv X zv σ H s->RelV o ov->RelV i iv->t o i H Q ->
  bL (bU X.prog X.w) X.A (rJ ov iv) (EP X zv σ Q) X.xe s
theorem a0k{o i e:dX}{to ti te:TE}{tget:V->V->Hp->VK->Prop}{tip:TIp}{tset:TSet}{op:Operator}{tpos:Pos}(ho:PE X o to)(hi:PE X i ti)(hg:PGet X tget)(he:PE X e te)(hp:PIp X op tip)(hs:PSet X tset)
  (ha:∀ov iv new,augStore i ov iv new=(do mW [new,ov,iv] (setItem ov iv new);release [new,ov,iv] [];pure .next):=by intros;rfl):PS X (.AugAssign (.Subscript o i tpos) op e pos) (a8c to ti te tget tip tset):=by
 intro zv s σ H D I h;refine wpAny_AugAssign_SubscriptAny (thn (ho zv s σ H _ I h) fun ov s1 ⟨x1,H1,I1,r1,q1⟩ =>?_) ha
 refine thn (hi zv s1 σ H1 _ I1 q1) fun iv s2 ⟨x2,H2,I2,r2,q2⟩ =>?_
 refine thn (hg zv s2 σ H2 x1 x2 ov iv _ I2 r1 r2 q2) fun old s3 ⟨x3,H3,I3,r3,q3⟩ =>?_
 refine thn (he zv s3 σ H3 _ I3 q3) fun v s4 ⟨x4,H4,I4,r4,q4⟩ =>?_
 refine thn (hp zv s4 σ H4 x3 x4 old v _ I4 r3 r4 q4) fun new s5 ⟨x5,H5,I5,r5,q5⟩ =>?_
 exact thn (hs zv s5 σ H5 x1 x2 x5 ov iv new _ I5 r1 r2 r5 q5) fun _ s6 ⟨H6,I6,q6⟩=>⟨σ,H6,I6,q6⟩
def ipI(f:Int->Int->Int):TIp:=fun x y H Q=>∃i j,x=.int i/\y=.int j/\Q (.int (f i j)) H
theorem ay7:PIp X .Add (ipI fun i j=>i+j):=by
 intro zv s σ H x y v u Q I r1 r2 h;obtain⟨i,j,e1,e2,q⟩:=h;subst e1;subst e2;obtain⟨t,rfl⟩:=r1;obtain⟨t',rfl⟩:=r2;exact iadd_int ⟨.int _,H,I.tok _,⟨_,rfl⟩,q⟩
end
section
variable{X:Cx}{pos:Pos}
def a3e(c:TT)(tb:TS):TS:=fun D σ H=>∃W:Nat->St->Hp->Prop,(∃m,W m σ H)/\∀m σ H,W m σ H ->
 c σ H fun b H1=>if b=true then ∃N:St->Hp->Prop,(∀σ' H',N σ' H'->∃m',m' < m/\W m' σ' H')/\tb { D with nx:=N,ct:=N,bk:=D.nx } σ H1 else D.nx σ H1
theorem awd{c:dX}{body:List iJ}{tc:TT}{tb:TS}(hp:tK (bU X.prog X.w) X.A X.env X.xe)(hc:PT X c tc)(hb:PSs X body tb):PS X (.While c body [] pos) (a3e tc tb):=by
 intro zv s σ H D I h;obtain⟨W,⟨m0,w0⟩,turn⟩:=h;refine wpAny_While (codeAny_whileLoop (fun n s'=>∃σ' H',Inv X zv σ' H' s'/\W n σ' H') ?_ m0 ⟨σ,H,I,w0⟩)
 rintro n s1 ⟨σ1,H1,I1,w1⟩
 refine wpAny_passesOwn hp (thn (hc zv s1 σ1 H1 _ I1 (turn n σ1 H1 w1)) fun b s2 ⟨H2,I2,q2⟩ =>?_)
 cases b with
 | true =>
  obtain⟨N,hN,q2⟩:=q2;rw[if_pos rfl];refine wpAny_passesOwn hp (thn (hb zv s2 σ1 H2 _ I2 q2) fun f s3 q3 =>?_)
  cases f with
  | next =>
   obtain⟨σ3,H3,I3,n3⟩:=q3;obtain⟨m',hm,w3⟩:=hN σ3 H3 n3;exact⟨m',hm,σ3,H3,I3,w3⟩
  | cont =>
   obtain⟨σ3,H3,I3,n3⟩:=q3;obtain⟨m',hm,w3⟩:=hN σ3 H3 n3;exact⟨m',hm,σ3,H3,I3,w3⟩
  | brk=>exact q3
  | ret v=>exact q3
 | false =>
  rw[if_neg cX];exact wpAny_execs_nil ⟨σ1,H2,I2,q2⟩
end
structure It where
 go:Nat->Hp->Prop
 yld:Nat->Hp->V->Hp->Prop
 stop:Nat->Hp->Prop
def FpOk(X:Cx)(zv:List (aX×Obj))(H:Hp)(b:aX):Prop :=
 H b=none/\b≠X.env.locals/\b∉X.fs/\(b∈X.ex∨X.s₀.heap.objs.size<=b)/\(∀x c,X.env.cells.lookup x=some c->c≠b)/\∀p∈X.pn++zv,p.1≠b
theorem Inv.fpOk{X:Cx}{zv:List (aX×Obj)}{σ:St}{H H':Hp}{s:aH}{b:aX}(I:Inv X zv σ H s)(hb:s.heap.objs.size<=b)(hn:H' b=none):FpOk X zv H' b:=by
 refine⟨hn,gK (cF I.lt hb),I.nofs hb,.inr (cR I.sz hb),fun x c e z =>?_,fun p hp z =>?_⟩
 ·obtain⟨v,q⟩:=I.cell x c e;exact absurd (cF q.lt (by rw[z];exact hb)) (mC _)
 ·exact absurd (cF (aR (I.pin p hp).1) (by rw[z];exact hb)) (mC _)
structure Turn (P:cA) (w:dJ) (K:Fg9) (tg:dX) (J:It) (fp:List aX) (it:aX) (tn:Nat->fK->Prop):Prop where
 mem:it∈fp
 obj:∀i h,tn i h->∀b∈fp,∃o,h.get? b=some o/\∀v,o.data≠.cell v
 keep:∀i h h',tn i h->(∀b∈fp,∀o,h.get? b=some o->h'.get? b=some o)->tn i h'
 item:∀(X:Cx),X.prog=P->X.w=w->X.K=K->X.calm=true->∀(i:Nat) (zv:List (aX×Obj)) (s:aH) (σ:St) (H:Hp) (E:aD->aH->Prop),Inv X zv σ H s->(∀b∈fp,FpOk X zv H b)->tn i s.heap->J.go i H ->
  bL (bU P w) X.A (oR (.ref it)) (fun r s1=>∃u,r=some u /\
   bL (bU P w) X.A (letOwnedTupleGo tg (.ref it) u) (fun _ s2=>∃x H',Inv X zv σ H' s2/\RelV x u/\J.yld i H x H'/\tn (i+1) s2.heap/\∀b∈fp,H' b=none) E s1) E s
 done:∀(X:Cx),X.prog=P->X.w=w->X.K=K->X.calm=true->∀(i:Nat) (zv:List (aX×Obj)) (s:aH) (σ:St) (H:Hp) (E:aD->aH->Prop),Inv X zv σ H s->(∀b∈fp,FpOk X zv H b)->tn i s.heap->J.stop i H ->
  bL (bU P w) X.A (oR (.ref it)) (fun r s1=>r=none/\Inv X zv σ H s1) E s
 self:∀(A:cW) (i:Nat) (s:aH) (Q:aD->aH->Prop) (E:aD->aH->Prop),tn i s.heap->Q (.ref it) s->bL (bU P w) A (pyIter (.ref it)) Q E s
abbrev TI:=St->Hp->(It->Hp->Prop)->Prop
def PIE(X:Cx)(zv:List (aX×Obj))(σ:St)(tg:dX)(R:It->Hp->Prop)(itv:aD)(s2:aH):Prop :=
 ∃(it:aX) (fp:List aX) (tn:Nat->fK->Prop) (J:It) (H':Hp),itv=.ref it/\Inv X zv σ H' s2/\Turn X.prog X.w X.K tg J fp it tn/\tn 0 s2.heap/\(∀b∈fp,FpOk X zv H' b)/\R J H'
def PI(X:Cx)(tg iter:dX)(wi:TI):Prop :=
 ∀(zv:List (aX×Obj)) (s:aH) (σ:St) (H:Hp) (R:It->Hp->Prop),Inv X zv σ H s->wi σ H R ->
  bL (bU X.prog X.w) X.A (eval iter X.env) (fun v s1=>bL (bU X.prog X.w) X.A (pyIter v) (PIE X zv σ tg R) X.xe s1) X.xe s
theorem a1p{M:vX}{A:cW}{E:aD->aH->Prop}{s:aH}{tg:dX}{it:aX}{u:aD}{o:Obj}{n:String}{vs:Array aD}{Q:Unit->aH->Prop}(ho:s.heap.get? it=some o)(hc:o.cls=.type n)(hd:o.data=.fields vs)
  (hn:["enumerate","zip","dict_itemiterator","dict_reverseitemiterator","odict_iterator","itertools.zip_longest","itertools.pairwise"].contains n=false) (hQ:Q () s):bL M A (letOwnedTupleGo tg (.ref it) u) Q E s:=by
 unfold letOwnedTupleGo;cases tg <;> first
  | exact aG hQ
  | (cases u <;> first
    | exact aG hQ
    | (refine aA (wpAny_load ho ?_)
       rw[hc,hd];show bL M A (if (["enumerate","zip","dict_itemiterator","dict_reverseitemiterator","odict_iterator","itertools.zip_longest","itertools.pairwise"].contains n&&vs[0]? == some (lE _))=true then _ else _) Q E s
       rw[if_neg (by intro h;rw[hn,uI] at h;cases h)]
       exact aG hQ))
def Itl(K:Fg9)(a:aX):It :=
 ⟨fun i H=>∃xs x,SqL K H a xs/\xs[i]? = some x,fun i H x H'=>H'=H/\∀xs,SqL K H a xs->xs[i]? = some x,fun i H=>∃xs,SqL K H a xs/\xs.length<=i⟩
def Itt(K:Fg9)(a:aX):It :=
 ⟨fun i H=>∃xs x,SqT K H a xs/\xs[i]? = some x,fun i H x H'=>H'=H/\∀xs,SqT K H a xs->xs[i]? = some x,fun i H=>∃xs,SqT K H a xs/\xs.length<=i⟩
def Itr(lo:Int)(n:Nat):It:=⟨fun i _=>i < n,fun i H x H'=>H'=H/\x=.int (lo+i),fun i _=>n<=i⟩
theorem arp{P:cA}{w:dJ}{K:Fg9}{tg:dX}(a it:aX):Turn P w K tg (Itl K a) [it] it (fun i h=>h.IsListIter it a i) where
 mem:=by simp
 obj:=fun i h st b hb=>by
  have e:b=it:=by simpa using hb
  subst e;obtain⟨o,e,c,d⟩:=st;exact⟨o,e,fun v z=>by rw[d] at z;cases z⟩
 keep:=fun i h h' st k=>st.at fun o e=>k it (by simp) o e
 item:=by
  intro X hP hw hK hc i zv s σ H E I hf st hg;subst hP hw hK;obtain⟨xs,x,hq,hx⟩:=hg;obtain⟨its,rv,p,hz⟩:=I.list hq;obtain⟨u,hu,ru⟩:=rv.get hx;obtain⟨f0,f1,f2,f3,f4,f5⟩:=hf it (by simp)
  refine wpAny_pyNext_list_item st p.isList (x:=u) (by simpa using hu) fun h' st' sb =>?_
  have I1:Inv X zv σ H { s with heap:=h' }:=I.turned (t':=s.toks) (fun b o hb e=>(sb.2 b hb).trans e) f0 f1 f3 f4 f5
  obtain⟨o,e,c,d⟩:=id st';exact⟨u,rfl,a1p (s:={ s with heap:=h' }) e c d (by decide) ⟨x,H,I1,ru,⟨rfl,fun ys hy=>by rw[I.list_inj hy hq];exact hx⟩,st',fun b hb=>(hf b hb).1⟩⟩
 done:=by
  intro X hP hw hK hc i zv s σ H E I hf st hg;subst hP hw hK;obtain⟨xs,hq,hx⟩:=hg;obtain⟨its,rv,p,hz⟩:=I.list hq;obtain⟨f0,f1,f2,f3,f4,f5⟩:=hf it (by simp)
  have hl:=rv.length;exact wpAny_pyNext_list_end (I.ok.hd hc) st p.isList (by simp;omega) fun h' eb=>⟨rfl,I.turned (t':=s.toks) (fun b o hb e=>eb b o hb e) f0 f1 f3 f4 f5⟩
 self:=fun _ _ _ _ _ st h=>wpAny_pyIter_listiter st h
theorem apk{P:cA}{w:dJ}{K:Fg9}{tg:dX}(a it:aX):Turn P w K tg (Itt K a) [it] it (fun i h=>h.IsTupleIter it a i) where
 mem:=by simp
 obj:=fun i h st b hb=>by
  have e:b=it:=by simpa using hb
  subst e;obtain⟨o,e,c,d⟩:=st;exact⟨o,e,fun v z=>by rw[d] at z;cases z⟩
 keep:=fun i h h' st k=>st.at fun o e=>k it (by simp) o e
 item:=by
  intro X hP hw hK hc i zv s σ H E I hf st hg;subst hP hw hK;obtain⟨xs,x,hq,hx⟩:=hg;obtain⟨its,rv,p,hz⟩:=I.tuple hq;obtain⟨u,hu,ru⟩:=rv.get hx;obtain⟨f0,f1,f2,f3,f4,f5⟩:=hf it (by simp)
  refine wpAny_pyNext_tuple_item st (show s.heap.IsTuple a its.toArray from p) (x:=u) (by simpa using hu) fun h' st' sb =>?_
  have I1:Inv X zv σ H { s with heap:=h' }:=I.turned (t':=s.toks) (fun b o hb e=>(sb.2 b hb).trans e) f0 f1 f3 f4 f5
  obtain⟨o,e,c,d⟩:=id st';exact⟨u,rfl,a1p (s:={ s with heap:=h' }) e c d (by decide) ⟨x,H,I1,ru,⟨rfl,fun ys hy=>by rw[I.tuple_inj hy hq];exact hx⟩,st',fun b hb=>(hf b hb).1⟩⟩
 done:=by
  intro X hP hw hK hc i zv s σ H E I hf st hg;subst hP hw hK;obtain⟨xs,hq,hx⟩:=hg;obtain⟨its,rv,p,hz⟩:=I.tuple hq;obtain⟨f0,f1,f2,f3,f4,f5⟩:=hf it (by simp)
  have hl:=rv.length;exact wpAny_pyNext_tuple_end (I.ok.hd hc) st (show s.heap.IsTuple a its.toArray from p) (by simp;omega) fun h' eb=>⟨rfl,I.turned (t':=s.toks) (fun b o hb e=>eb b o hb e) f0 f1 f3 f4 f5⟩
 self:=fun _ _ _ _ _ st h=>wpAny_pyIter_tupleiter st h
theorem apl{P:cA}{w:dJ}{K:Fg9}{tg:dX}(it:aX)(lo:Int)(n:Nat):Turn P w K tg (Itr lo n) [it] it (fun i h=>IsRangeIter h it (lo+(i:Nat)*1) ((n:Int) - (i:Nat)) 1) where
 mem:=by simp
 obj:=fun i h st b hb=>by
  have e:b=it:=by simpa using hb
  subst e;exact⟨_,st,fun v z=>by
   have z':Data.fields _=Data.cell v:=z;cases z'⟩
 keep:=fun i h h' st k=>k it (by simp) _ st
 item:=by
  intro X hP hw hK hc i zv s σ H E I hf st hg;subst hP hw hK;obtain⟨f0,f1,f2,f3,f4,f5⟩:=hf it (by simp)
  have W:=Walks.range (prog:=X.prog) (w:=X.w) (I.ok.hd hc) it lo 1 n;refine W.item i s _ _ hg st fun v h' tk hv st' kk =>?_
  obtain⟨t,rfl⟩:=hv;have I1:Inv X zv σ H { s with heap:=h',toks:=tk }:=I.turned (fun b o hb e=>kk b o (by simpa using hb) e) f0 f1 f3 f4 f5
  refine⟨_,rfl,a1p (s:={ s with heap:=h',toks:=tk }) (n := "range_iterator") st' rfl rfl (by decide) ⟨.int (lo+i),H,I1,⟨t,?_⟩,⟨rfl,rfl⟩,st',fun b hb=>(hf b hb).1⟩⟩
  rw[Int.mul_one]
 done:=by
  intro X hP hw hK hc i zv s σ H E I hf st hg;subst hP hw hK;obtain⟨f0,f1,f2,f3,f4,f5⟩:=hf it (by simp)
  exact wpAny_pyNext_range_end (I.ok.hd hc) st (by have:n<=i:=hg;omega) fun h' eb=>⟨rfl,I.turned (t':=s.toks) (fun b o hb e=>eb b o hb e) f0 f1 f3 f4 f5⟩
 self:=fun _ _ _ _ _ st h=>wpAny_pyIter_rangeiter st h
section
variable{X:Cx}{tg:dX}
def a9r(K:Fg9)(tl:TE):TI:=fun σ H R=>tl σ H fun x H1=>∃a,x=.ref a/\(∃xs,SqL K H1 a xs)/\R (Itl K a) H1
def iTup(K:Fg9)(tl:TE):TI:=fun σ H R=>tl σ H fun x H1=>∃a,x=.ref a/\(∃xs,SqT K H1 a xs)/\R (Itt K a) H1
theorem asv{l:dX}{tl:TE}(hl:PE X l tl):PI X tg l (a9r X.K tl):=by
 intro zv s σ H R I h;refine thn (hl zv s σ H _ I h) fun v s1 ⟨x,H1,I1,r1,q1⟩ =>?_
 obtain⟨a,e,⟨xs,hq⟩,q⟩:=q1;subst e;cases r1;obtain⟨its,rv,p,hz⟩:=I1.list hq;refine wpAny_pyIter_list p.isList ?_;refine⟨s1.heap.objs.size,[s1.heap.objs.size],_,_,H1,rfl,I1.kept (t':=s1.toks) fun b o e=>aB _ e,arp a _,⟨_,aO _ rfl,rfl,rfl⟩,fun b hb =>?_,q⟩
 have e:b=s1.heap.objs.size:=by simpa using hb
 subst e;exact I1.fpOk (aN _) (I1.hok.fresh (aN _))
theorem a3z{l:dX}{tl:TE}(hl:PE X l tl):PI X tg l (iTup X.K tl):=by
 intro zv s σ H R I h;refine thn (hl zv s σ H _ I h) fun v s1 ⟨x,H1,I1,r1,q1⟩ =>?_
 obtain⟨a,e,⟨xs,hq⟩,q⟩:=q1;subst e;cases r1;obtain⟨its,rv,p,hz⟩:=I1.tuple hq;refine wpAny_pyIter_tuple (show s1.heap.IsTuple a its.toArray from p) ?_
 refine⟨s1.heap.objs.size,[s1.heap.objs.size],_,_,H1,rfl,I1.kept (t':=s1.toks) fun b o e=>aB _ e,apk a _,⟨_,aO _ rfl,rfl,rfl⟩,fun b hb =>?_,q⟩
 have e:b=s1.heap.objs.size:=by simpa using hb
 subst e;exact I1.fpOk (aN _) (I1.hok.fresh (aN _))
theorem anv{zv:List (aX×Obj)}{σ:St}{H:Hp}{s:aH}{R:It->Hp->Prop}{E:aD->aH->Prop}{lo hi:Int}{t u v:Tok}{tk:Nat}(I:Inv X zv σ H s)(h1 : -(2 ^ 62)<=lo)(h2:lo < 2 ^ 62)(h3 : -(2 ^ 62)<=hi)(h4:hi < 2 ^ 62)
  (q:R (Itr lo (hi - lo).toNat) H):bL (bU X.prog X.w) X.A (pyIter (.ref s.heap.objs.size)) (PIE X zv σ tg R) E { s with heap:=s.heap.push { cls:=.type "range", data:=.fields #[.int lo t,.int hi u,.int 1 v] },toks:=tk }:=by
 refine wpAny_pyIter_range (IsRange.new ..) (small_one h1 h2 h3 h4) ?_;have I1:Inv X zv σ H { s with heap:=s.heap.push { cls:=.type "range", data:=.fields #[.int lo t,.int hi u,.int 1 v] },toks:=tk }:=I.kept fun b o e=>aB _ e
 refine⟨(s.heap.push { cls:=.type "range", data:=.fields #[.int lo t,.int hi u,.int 1 v] }).objs.size,[(s.heap.push { cls:=.type "range", data:=.fields #[.int lo t,.int hi u,.int 1 v] }).objs.size],_,_,H,rfl,
  I1.kept (t':=tk) fun b o e=>aB _ e,apl _ lo (hi - lo).toNat,?_,fun b hb =>?_,q⟩
 ·have e1:lo+((0:Nat):Int)*1=lo:=by simp
  have e2:(((hi - lo).toNat:Nat):Int) - ((0:Nat):Int)=Builtin.Range.rangeSize lo hi 1:=by rw[rangeSize_one];split <;> omega
  show IsRangeIter _ _ (lo+((0:Nat):Int)*1) ((((hi - lo).toNat:Nat):Int) - ((0:Nat):Int)) 1;rw[e1,e2];exact aO _ rfl
 ·have e:b=(s.heap.push { cls:=.type "range", data:=.fields #[.int lo t,.int hi u,.int 1 v] }).objs.size:=by simpa using hb
  subst e;exact I1.fpOk (aN _) (I1.hok.fresh (aN _))
def a9q(ta:TA):TI:=fun σ H R=>ta σ H fun vs H1=>∃j:Int,vs=[.int j] /\ -(2 ^ 62)<=j/\j < 2 ^ 62/\R (Itr 0 j.toNat) H1
def a9p(ta:TA):TI:=fun σ H R=>ta σ H fun vs H1=>∃i j:Int,vs=[.int i,.int j]/\(-(2 ^ 62)<=i/\i < 2 ^ 62 /\ -(2 ^ 62)<=j/\j < 2 ^ 62)/\R (Itr i (j - i).toNat) H1
theorem asu{a:dX}{ta:TA}{p pos:Pos}(hg:Gl X "range")(hm:X.mg "range" = none)(ha:PA X [a] ta)(hs:aQ [a] X.env=[(false,eval a X.env)]:=by rfl):PI X tg (.Call (.Name "range" p) [a] [] pos) (a9q ta):=by
 intro zv s σ H R I h;refine Call_ (af7 I hg hm boot_range (iH (thn (ha pos zv s σ H _ I h) fun us s1 ⟨vs,H1,I1,r1,q1⟩ =>?_) hs rfl))
 obtain⟨j,e,q1,q2,q⟩:=q1;subst e;cases r1 with
 | cons r rr =>
  cases rr;obtain⟨t,rfl⟩:=r;exact call_range_1 (anv I1 (by omega) (by omega) q1 q2 (by simpa using q))
theorem ass{a b:dX}{ta:TA}{p pos:Pos}(hg:Gl X "range")(hm:X.mg "range" = none)(ha:PA X [a,b] ta)(hs:aQ [a,b] X.env=[(false,eval a X.env),(false,eval b X.env)]:=by rfl)(hs2:aQ [b] X.env=[(false,eval b X.env)]:=by rfl) :
  PI X tg (.Call (.Name "range" p) [a,b] [] pos) (a9p ta):=by
 intro zv s σ H R I h;refine Call_ (af7 I hg hm boot_range (iH (thn (ha pos zv s σ H _ I h) fun us s1 ⟨vs,H1,I1,r1,q1⟩ =>?_) (by rw[hs,hs2]) (by rw[hs2];rfl)))
 obtain⟨i,j,e,⟨q1,q2,q3,q4⟩,q⟩:=q1;subst e;cases r1 with
 | cons r rr =>
  cases rr with
  | cons r' rr =>
   cases rr;obtain⟨t,rfl⟩:=r;obtain⟨t',rfl⟩:=r';exact call_range_2 (anv I1 q1 q2 q3 q4 q)
def tFor(wi:TI)(g:TG)(tb:TS):TS:=fun D σ H=>wi σ H fun J H1=>∃W:Nat->Nat->St->Hp->Prop,(∃m,W 0 m σ H1)/\∀i m σ H,W i m σ H ->
 (J.stop i H/\D.nx σ H)∨(J.go i H/\∃N:St->Hp->Prop,(∀σ' H',N σ' H'->∃m',m' < m/\W (i+1) m' σ' H')/\∀x H',J.yld i H x H'->g x σ H' fun σ2 H2=>tb { D with nx:=N,ct:=N,bk:=D.nx } σ2 H2)
def ajy(fp:List aX)(h:fK):List (aX×Obj):=fp.filterMap fun b=>(h.get? b).map fun o=>(b,o)
theorem abr{fp:List aX}{h:fK}{b:aX}{o:Obj}(hb:b∈fp)(e:h.get? b=some o):(b,o)∈ajy fp h:=wR.mpr ⟨b,hb,by rw[e];rfl⟩
theorem ata{fp:List aX}{h:fK}{p:aX×Obj}(hp:p∈ajy fp h):p.1∈fp/\h.get? p.1=some p.2:=by
 obtain⟨b,hb,e⟩:=wR.mp hp;cases q:h.get? b with
 | none=>rw[q] at e;cases e
 | some o =>
  rw[q] at e;have e':(b,o)=p:=cP e;subst e';exact⟨hb,q⟩
theorem Inv.pinned{zv:List (aX×Obj)}{σ:St}{H:Hp}{s:aH}{fp:List aX}(I:Inv X zv σ H s)(hf:∀b∈fp,FpOk X zv H b)(ho:∀b∈fp,∃o,s.heap.get? b=some o/\∀v,o.data≠.cell v):Inv X (zv++ajy fp s.heap) σ H s :=
 I.pins_of fun p hp=>(dG.mp hp).elim (fun z=>I.pin p (cM _ z)) fun z=>by
  obtain⟨hb,e⟩:=ata z;obtain⟨f0,f1,f2,_⟩:=hf p.1 hb;obtain⟨o,e',d⟩:=ho p.1 hb;rw[e] at e';cases e';exact⟨e,f0,f1,f2,d⟩
theorem Inv.unpinned{zv pl:List (aX×Obj)}{σ:St}{H:Hp}{s:aH}(I:Inv X (zv++pl) σ H s):Inv X zv σ H s:=I.pins_of fun p hp=>I.pin p (cM _ (fM _ hp))
theorem ays{iter:dX}{body:List iJ}{wi:TI}{g:TG}{tb:TS}{pos:Pos}(hp:tK (bU X.prog X.w) X.A X.env X.xe)(hc:X.calm=true)(hi:PI X tg iter wi)(hg:PG X tg g)(hb:PSs X body tb)
  (hs:∀x,foldedSetIterable iter X.env x=pure x:=by intro _;rfl):PS X (.For tg iter body [] pos) (tFor wi g tb):=by
 intro zv s σ H D I h;refine wpAny_For (thn (hi zv s σ H _ I h) fun v s1 h1=>thn h1 fun itv s2 h2 =>?_) hs
 obtain⟨it,fp,tn,J,H2,e,I2,T,st2,f2,W,⟨m0,w0⟩,turn⟩:=h2;subst e;have stat:∀{H':Hp},(∀b∈fp,H' b=none)->∀b∈fp,FpOk X zv H' b:=fun hn b hb=>⟨hn b hb,(f2 b hb).2⟩
 refine codeAny_forLoop_any (fun n s'=>∃i σ' H',Inv X zv σ' H' s'/\tn i s'.heap/\(∀b∈fp,H' b=none)/\W i n σ' H') ?_ m0 ⟨0,σ,H2,I2,st2,fun b hb=>(f2 b hb).1,w0⟩
 rintro n s3 ⟨i,σ3,H3,I3,st3,fr3,w3⟩
 rcases turn i n σ3 H3 w3 with⟨stop,qn⟩ | ⟨go,N,hN,step⟩
 ·refine wpAny_passesOwn hp (thn (T.done X rfl rfl rfl hc i zv s3 σ3 H3 X.xe I3 (stat fr3) st3 stop) fun r s4 ⟨hr,I4⟩ =>?_)
  subst hr;exact wpAny_execs_nil ⟨σ3,H3,I4,qn⟩
 ·refine wpAny_passesOwn hp (thn (T.item X rfl rfl rfl hc i zv s3 σ3 H3 X.xe I3 (stat fr3) st3 go) fun r s4 ⟨u,hr,h4⟩ =>?_)
  subst hr;refine wpAny_passesOwn hp (thn h4 fun _ s5 ⟨x,H5,I5,r5,y5,st5,fr5⟩ =>?_)
  have I5':=I5.pinned (stat fr5) (T.obj _ _ st5);refine wpAny_passesOwn hp (thn (hg _ s5 σ3 H5 x u _ I5' r5 (step x H5 y5)) fun _ s6 ⟨σ6,H6,I6,q6⟩ =>?_)
  refine wpAny_passesOwn hp (thn (hb _ s6 σ6 H6 _ I6 q6) fun f s7 q7 =>?_)
  have again:∀{σ7:St} {H7:Hp},Inv X (zv++ajy fp s5.heap) σ7 H7 s7->N σ7 H7->∃m,m < n/\∃i σ' H',Inv X zv σ' H' s7/\tn i s7.heap/\(∀b∈fp,H' b=none)/\W i m σ' H':=fun{σ7 H7} I7 n7=>by
   obtain⟨m',hm,w7⟩:=hN σ7 H7 n7;refine⟨m',hm,i+1,σ7,H7,I7.unpinned,T.keep _ _ _ st5 fun b hb o e=>(I7.pin (b,o) (cM _ (cM _ (abr hb e)))).1,fun b hb =>?_,w7⟩
   obtain⟨o,e,d⟩:=T.obj _ _ st5 b hb;exact(I7.pin (b,o) (cM _ (cM _ (abr hb e)))).2.1
  cases f with
  | next=>obtain⟨σ7,H7,I7,n7⟩:=q7;exact again I7 n7
  | cont=>obtain⟨σ7,H7,I7,n7⟩:=q7;exact again I7 n7
  | brk=>obtain⟨σ7,H7,I7,q7⟩:=q7;exact⟨σ7,H7,I7.unpinned,q7⟩
  | ret v=>obtain⟨x7,σ7,H7,I7,r7,q7⟩:=q7;exact⟨x7,σ7,H7,I7.unpinned,r7,q7⟩
end
abbrev R2:=V->V->Hp->VK->Prop
def OpR(X:Cx)(f:aD->aD->Sem aD)(r:R2):Prop :=
 ∀(zv:List (aX×Obj)) (s:aH) (σ:St) (H:Hp) (x y:V) (v u:aD) (Q:VK),Inv X zv σ H s->RelV x v->RelV y u->r x y H Q ->
  bL (bU X.prog X.w) X.A (f v u) (EP X zv σ Q) X.xe s
def UnR(X:Cx)(f:aD->Sem aD)(r:V->Hp->VK->Prop):Prop :=
 ∀(zv:List (aX×Obj)) (s:aH) (σ:St) (H:Hp) (x:V) (v:aD) (Q:VK),Inv X zv σ H s->RelV x v->r x H Q ->
  bL (bU X.prog X.w) X.A (f v) (EP X zv σ Q) X.xe s
def abn(X:Cx)(f:aD)(r:List V->Hp->VK->Prop):Prop :=
 ∀(zv:List (aX×Obj)) (s:aH) (σ:St) (H:Hp) (xs:List V) (us:List aD) (Q:VK),Inv X zv σ H s->Vals xs us->r xs H Q ->
  bL (bU X.prog X.w) X.A (call f us) (EP X zv σ Q) X.xe s
def tOp(r:R2)(ta tb:TE):TE:=fun σ H Q=>ta σ H fun x H1=>tb σ H1 fun y H2=>r x y H2 Q
def tUn(r:V->Hp->VK->Prop)(ta:TE):TE:=fun σ H Q=>ta σ H fun x H1=>r x H1 Q
def rI(C:Int->Int->Prop)(g:Int->Int->V):R2:=fun x y H Q=>∃i j,x=.int i/\y=.int j/\C i j/\Q (g i j) H
def rI0(g:Int->Int->V):R2:=fun x y H Q=>∃i j,x=.int i/\y=.int j/\Q (g i j) H
def rU(g:Int->V):V->Hp->VK->Prop:=fun x H Q=>∃i,x=.int i/\Q (g i) H
section
variable{X:Cx}{a b c:dX}{ta tb tc:TE}{pos:Pos}
theorem binT(ha:PE X a ta)(hb:PE X b tb){zv:List (aX×Obj)}{s:aH}{σ:St}{H:Hp}{R:V->V->Hp->Prop}(I:Inv X zv σ H s)
  (h:ta σ H fun x H1=>tb σ H1 fun y H2=>R x y H2) {Q:aD->aH->Prop} {f:aD->aD->Sem aD}
  (hf:∀v u s2 x y H2,Inv X zv σ H2 s2->RelV x v->RelV y u->R x y H2->bL (bU X.prog X.w) X.A (f v u) Q X.xe s2) :
  bL (bU X.prog X.w) X.A (eval a X.env) (fun v s₁=>bL (bU X.prog X.w) X.A (eval b X.env) (fun u s₂=>bL (bU X.prog X.w) X.A (f v u) Q X.xe s₂) X.xe s₁) X.xe s:=by
 refine thn (ha zv s σ H _ I h) fun v s1 ⟨x,H1,I1,r1,q1⟩ =>?_
 refine thn (hb zv s1 σ H1 _ I1 q1) fun u s2 ⟨y,H2,I2,r2,q2⟩ =>?_
 exact hf v u s2 x y H2 I2 r1 r2 q2
theorem a8q{op:Operator}{r:R2}(ho:OpR X (gF op) r)(ha:PE X a ta)(hb:PE X b tb):PE X (.BinOp a op b pos) (tOp r ta tb):=by
 intro zv s σ H Q I h;exact wpAny_BinOp (binT ha hb I h fun v u s2 x y H2 I2 rx ry q=>ho zv s2 σ H2 x y v u Q I2 rx ry q)
theorem a8p{op:UnaryOp}{r:V->Hp->VK->Prop}(ho:UnR X (unaryOp op) r)(ha:PE X a ta):PE X (.UnaryOp op a pos) (tUn r ta):=by
 intro zv s σ H Q I h;exact UnaryOp_ (thn (ha zv s σ H _ I h) fun v s1 ⟨x,H1,I1,r1,q1⟩=>ho zv s1 σ H1 x v Q I1 r1 q1)
theorem opI{f:aD->aD->Sem aD}{C:Int->Int->Prop}{g:Int->Int->Int}
  (rule:∀(i j:Int) (t u:Tok) (s:aH) (Q:aD->aH->Prop) (E:aD->aH->Prop),C i j->Q (.int (g i j) s.toks) { s with toks:=s.toks+1 }->bL (bU X.prog X.w) X.A (f (.int i t) (.int j u)) Q E s) :
  OpR X f (rI C fun i j=>.int (g i j)):=by
 intro zv s σ H x y v u Q I rx ry h;obtain⟨i,j,rfl,rfl,hc,q⟩:=h;obtain⟨t,rfl⟩:=rx;obtain⟨t',rfl⟩:=ry;exact rule i j t t' s _ _ hc ⟨.int (g i j),H,I.tok _,⟨_,rfl⟩,q⟩
theorem opI0{f:aD->aD->Sem aD}{g:Int->Int->Int}
  (rule:∀(i j:Int) (t u:Tok) (s:aH) (Q:aD->aH->Prop) (E:aD->aH->Prop),Q (.int (g i j) s.toks) { s with toks:=s.toks+1 }->bL (bU X.prog X.w) X.A (f (.int i t) (.int j u)) Q E s) :
  OpR X f (rI0 fun i j=>.int (g i j)):=by
 intro zv s σ H x y v u Q I rx ry h;obtain⟨i,j,rfl,rfl,q⟩:=h;obtain⟨t,rfl⟩:=rx;obtain⟨t',rfl⟩:=ry;exact rule i j t t' s _ _ ⟨.int (g i j),H,I.tok _,⟨_,rfl⟩,q⟩
theorem opB0{f:aD->aD->Sem aD}{g:Int->Int->Bool}
  (rule:∀(i j:Int) (t u:Tok) (s:aH) (Q:aD->aH->Prop) (E:aD->aH->Prop),Q (.bool (g i j)) s->bL (bU X.prog X.w) X.A (f (.int i t) (.int j u)) Q E s) :
  OpR X f (rI0 fun i j=>.bl (g i j)):=by
 intro zv s σ H x y v u Q I rx ry h;obtain⟨i,j,rfl,rfl,q⟩:=h;obtain⟨t,rfl⟩:=rx;obtain⟨t',rfl⟩:=ry;exact rule i j t t' s _ _ ⟨.bl (g i j),H,I,rfl,q⟩
def CPow(i j:Int):Prop:=0<=j/\j<=1000000/\i.natAbs < 2 ^ 64
def CMul(i j:Int):Prop:=(-(2 ^ 64) < i/\i < 2 ^ 64)∨(-(2 ^ 64) < j/\j < 2 ^ 64)
theorem CMul.ok{i j:Int}(h:CMul i j):IntMulOk i j:=by
 rcases h with⟨h1,h2⟩ | ⟨h1,h2⟩
 ·exact .of_left (intBits_le_64 h1 h2)
 ·exact .of_right (intBits_le_64 h1 h2)
theorem a4t:OpR X (gF .Add) (rI0 fun i j=>.int (i+j)):=opI0 fun _ _ _ _ _ _ _ q=>add_int q
theorem a4n:OpR X (gF .Sub) (rI0 fun i j=>.int (i - j)):=opI0 fun _ _ _ _ _ _ _ q=>sub_int q
theorem a4q:OpR X (gF .Mult) (rI CMul fun i j=>.int (i*j)):=opI fun _ _ _ _ _ _ _ hc q=>mul_int q hc.ok
theorem a4r:OpR X (gF .Mod) (rI (fun _ j=>0 < j) fun i j=>.int (i % j)):=opI fun i j _ _ _ _ _ hc q=>by
 have h1:(0:Int) < j:=hc;exact mod_int' (by omega) (by rw[tX i (by omega)];exact q)
theorem a4p:OpR X (gF .Pow) (rI CPow fun i j=>.int (i ^ j.toNat)):=opI fun _ _ _ _ _ _ _ hc q=>pow_int_small hc.1 hc.2.1 hc.2.2 q
theorem unI{f:aD->Sem aD}{g:Int->Int}
  (rule:∀(i:Int) (t:Tok) (s:aH) (Q:aD->aH->Prop) (E:aD->aH->Prop),Q (.int (g i) s.toks) { s with toks:=s.toks+1 }->bL (bU X.prog X.w) X.A (f (.int i t)) Q E s) :
  UnR X f (rU fun i=>.int (g i)):=by
 intro zv s σ H x v Q I rx h;obtain⟨i,rfl,q⟩:=h;obtain⟨t,rfl⟩:=rx;exact rule i t s _ _ ⟨.int (g i),H,I.tok _,⟨_,rfl⟩,q⟩
theorem a3b:UnR X (unaryOp .USub) (rU fun i=>.int (-i)):=unI fun _ _ _ _ _ q=>neg_int q
end
section
variable{X:Cx}{a b c:dX}{ta tb tc:TE}{pos:Pos}
theorem a8u:OpR X (fW .Lt) (rI0 fun i j=>.bl (decide (i < j))):=opB0 fun _ _ _ _ _ _ _ q=>lt_int q
theorem a0z:OpR X (fW .LtE) (rI0 fun i j=>.bl (decide (i<=j))):=opB0 fun _ _ _ _ _ _ _ q=>le_int q
theorem a8v:OpR X (fW .Gt) (rI0 fun i j=>.bl (decide (j < i))):=opB0 fun _ _ _ _ _ _ _ q=>gt_int q
theorem a8w:OpR X (fW .GtE) (rI0 fun i j=>.bl (decide (j<=i))):=opB0 fun _ _ _ _ _ _ _ q=>ge_int q
theorem jt(b:dX){op:uY}(h:op≠.In:=by decide)(h2:op≠.NotIn:=by decide):jG op b=false:=by
 have e1:(op==CmpOp.In)=false:=by cases op <;> first | rfl | exact absurd rfl h
 have e2:(op==CmpOp.NotIn)=false:=by cases op <;> first | rfl | exact absurd rfl h2
 cases b <;> simp[jG,e1,e2]
theorem a0u{op:uY}{r:R2}(ho:OpR X (fW op) r)(ha:PE X a ta)(hb:PE X b tb)(hm:jG op b=false):PE X (.Compare a [op] [b] pos) (tOp r ta tb):=by
 intro zv s σ H Q I h;exact wpAny_Compare1 (binT ha hb I h fun v u s2 x y H2 I2 rx ry q=>ho zv s2 σ H2 x y v u Q I2 rx ry q) hm
def a76(t:TE):TT:=fun σ H Q=>t σ H fun x H'=>∃k,x=.bl k/\Q k H'
theorem a0f{op:uY}{r:R2}(ho:OpR X (fW op) r)(ha:PE X a ta)(hb:PE X b tb)(hm:jG op b=false):PT X (.Compare a [op] [b] pos) (a76 (tOp r ta tb)):=by
 intro zv s σ H Q I h;refine wpAny_isTrue_Compare1 (thn (ha zv s σ H _ I h) fun v s1 ⟨x,H1,I1,r1,q1⟩=>thn (hb zv s1 σ H1 _ I1 q1) fun u s2 ⟨y,H2,I2,r2,q2⟩ =>
  thn (ho zv s2 σ H2 x y v u _ I2 r1 r2 q2) fun c s3 ⟨z,H3,I3,r3,k,e,q3⟩ =>?_) hm
 subst e;cases r3;exact wpAny_truthy_bool ⟨H3,I3,q3⟩
def ayl(r r':R2)(ta tb tc:TE):TE:=fun σ H Q=>ta σ H fun x H1=>tb σ H1 fun y H2=>r x y H2 fun z H3=>∃k,z=.bl k /\
 (if k=true then tc σ H3 fun w' H4=>r' y w' H4 Q else Q (.bl false) H3)
theorem awn{op op':uY}{r r':R2}(ho:OpR X (fW op) r)(ho':OpR X (fW op') r')(ha:PE X a ta)(hb:PE X b tb)(hc:PE X c tc)
  (hm:lastMarks [op,op'] [b,c]=false:=by with_unfolding_all rfl):PE X (.Compare a [op,op'] [b,c] pos) (ayl r r' ta tb tc):=by
 intro zv s σ H Q I h;refine Compare_chain (thn (ha zv s σ H _ I h) fun v s1 ⟨x,H1,I1,r1,q1⟩=>chain_link (thn (hb zv s1 σ H1 _ I1 q1) fun u s2 ⟨y,H2,I2,r2,q2⟩ =>
  thn (ho zv s2 σ H2 x y v u _ I2 r1 r2 q2) fun d s3 ⟨z,H3,I3,r3,k,e,q3⟩ =>?_)) hm
 subst e;cases r3;refine wpAny_truthy_bool ?_;cases k with
 | false=>exact ite_ff ⟨.bl false,H3,I3,rfl,q3⟩
 | true=>exact ite_tt (chain_last (thn (hc zv s3 σ H3 _ I3 q3) fun w' s4 ⟨z',H4,I4,r4,q4⟩=>ho' zv s4 σ H4 y z' u w' Q I4 r2 r4 q4))
theorem akm:(cN:Nat) < 2 ^ 63:=by rw[fY];decide
theorem ap3:OpR X (gF .Add) (fun x y H Q=>∃i j,x=.str i/\y=.str j/\i.length+j.length<=cN/\Q (.str (i++j)) H):=by
 intro zv s σ H x y v u Q I rx ry h;obtain⟨i,j,rfl,rfl,hz,q⟩:=h;obtain⟨t,rfl⟩:=rx;obtain⟨t',rfl⟩:=ry;exact add_str (fun t' tk=>⟨.str (i++j),H,I.tok _,⟨_,rfl⟩,q⟩) hz
theorem vals1{x:V}{us:List aD}(r:Vals [x] us):∃u,us=[u]/\RelV x u:=by
 cases r with
 | cons r1 r2=>cases r2;exact⟨_,rfl,r1⟩
theorem vals2{x y:V}{us:List aD}(r:Vals [x,y] us):∃u w',us=[u,w']/\RelV x u/\RelV y w':=by
 cases r with
 | cons r1 r2 =>
  cases r2 with
  | cons r3 r4=>cases r4;exact⟨_,_,rfl,r1,r3⟩
theorem avf(hc:X.calm=true):abn X (.builtin "max") (fun xs H Q=>∃i j,xs=[.int i,.int j]/\Q (.int (if j > i then j else i)) H):=by
 intro zv s σ H xs us Q I r h;obtain⟨i,j,rfl,q⟩:=h;obtain⟨u,w',rfl,⟨t,rfl⟩,⟨t',rfl⟩⟩:=vals2 r;refine max_two_ints (I.ok.hd hc) fun h' tk k=>⟨_,H,I.kept k,?_,q⟩
 by_cases hj:j > i
 ·rw[if_pos hj,if_pos hj];exact⟨_,rfl⟩
 ·rw[if_neg hj,if_neg hj];exact⟨_,rfl⟩
theorem alk:abn X (.type "int") (fun xs H Q=>(∃i,xs=[.int i]/\Q (.int i) H)∨∃k,xs=[.bl k]/\Q (.int (if k then 1 else 0)) H):=by
 intro zv s σ H xs us Q I r h;rcases h with⟨i,rfl,q⟩ | ⟨k,rfl,q⟩
 ·obtain⟨u,rfl,t,rfl⟩:=vals1 r;exact call_int_int ⟨.int i,H,I,⟨_,rfl⟩,q⟩
 ·obtain⟨u,rfl,r1⟩:=vals1 r;cases r1;exact call_int_bool ⟨.int (if k then 1 else 0),H,I.tok _,⟨_,rfl⟩,q⟩
end
structure ObjM (h:fK) (x dx C:aX) (mA:Str->Option aD):Prop where
 obj:h.get? x=some (jW C dx)
 ns:h.Ns1 dx mA
 ne:dx≠x
theorem akl{h:fK}{dx:aX}{mA:Str->Option aD}(n:h.Ns1 dx mA):∃od,h.get? dx=some od/\∀name,uD name od=some (mA name):=by
 obtain⟨o,es,ep,ho,hd,hk,_,hm⟩:=n;refine⟨o,ho,fun name =>?_⟩
 have e:=hm name;unfold nsFind findBy at e;rw[<-xG] at e;unfold uD;rw[hd];dsimp only;split
 ·rename_i y q;rw[q] at e;exact congrArg some e
 ·rename_i q;rw[q] at e;have a:es.toList.any (·.refKey)=false:=by
   rw[List.any_eq_false];intro y hy;obtain⟨z,t,hkey⟩:=hk y (Array.mem_toList_iff.mp hy);simp[DictEntry.refKey,hkey]
  have a':¬es.toList.any (·.refKey)=true:=by rw[a];exact cX
  rw[if_neg a'];exact congrArg some e
theorem ObjM.look{h:fK}{x dx C:aX}{mA:Str->Option aD}(I:ObjM h x dx C mA):∃od,gJ h x (jW C dx) C (some od)/\∀name,uD name od=some (mA name) :=
 let ⟨od,ho,hl⟩:=akl I.ns
 ⟨od,⟨I.obj,rfl,rfl,ho⟩,hl⟩
section
variable{prog:cA}{w:dJ}{A:cW}{E:aD->aH->Prop}{s:aH}{K:Fg9}{x dx C f:aX}{mA:Str->Option aD}{name:Str}{v:aD}
end
section
variable{P:cA}{w:dJ}{H H':Hp}{h h':fK}{a C dx:aX}{fs fs':List (Str×V)}
theorem a1m(hok:HOk P w H h)(e:H a=some (.ins C dx fs)):∃mA,ObjM h a dx C mA/\(∀f,RelO (fs.lookup f) (mA f))/\vD mA (fs.map (·.1))/\fs.length<=1000/\H dx=some (.own a):=by
 obtain⟨d,z,ne,ob,mA,n,r,q⟩:=(show uv P w H h a (.ins C dx fs) from hok a _ e)
 exact⟨mA,⟨ob,n,ne⟩,r,q,z,d⟩
end
structure Cls (K:Fg9) (C:aX):Prop where
 pg:yK K C Str.empty=true
 hd:kO K C=true
 po:PySem.W.plainOver K C=true
 sa:lM K (.ref C) "__setattr__" = some (some (.builtin "object.__setattr__"))
theorem Cls.get{K:Fg9}{C:aX}(c:Cls K C)(f:Str):yK K C f=true:=c.pg
structure Con (K:Fg9) (C:aX) (f:Str) (v:V) (u:aD):Prop where
 at_:lM K (.ref C) f=some (some u)
 rel:RelV v u
 get:mX K u "__get__" = some none
 cp:PySem.W.copiedNames.contains f=false
structure Meth (K:Fg9) (C:aX) (m:Str) (f:aX):Prop where
 at_:lM K (.ref C) m=some (some (.ref f))
 fn:PySem.W.isFn K (.ref f)=true
 kp:oA K (.ref f)=true
section
variable{X:Cx}{zv:List (aX×Obj)}{σ:St}{H:Hp}{s:aH}{a C dx:aX}{fs:List (Str×V)}{f:Str}{v:V}{A:cW}{E:aD->aH->Prop}
theorem Inv.made(I:Inv X zv σ H s):Inv X zv σ (upd (upd H s.heap.objs.size (.own (s.heap.objs.size+1))) (s.heap.objs.size+1) (.ins C s.heap.objs.size []))
  { s with heap:=(s.heap.push iW).push (jW C s.heap.objs.size) }:=by
 have e1:(s.heap.push iW).get? s.heap.objs.size=some iW:=aO s.heap rfl;have e2:((s.heap.push iW).push (jW C s.heap.objs.size)).get? (s.heap.objs.size+1)=some (jW C s.heap.objs.size):=by
  have:=aO (s.heap.push iW) (o:=jW C s.heap.objs.size) rfl;rwa[cY] at this
 have e3:(s.heap.push iW).Ns s.heap.objs.size (fun _=>none):=⟨PySem.W.emptyDict,#[],_,e1,rfl,(fun e he=>absurd he (by simp)),fun _=>rfl⟩
 have I1:=I.laid (a:=s.heap.objs.size) (o:=.own (s.heap.objs.size+1)) (h':=s.heap.push iW) (t':=s.toks) (fun b u q=>aB _ q) (aN _) ⟨_,e1⟩
 refine I1.laid (a:=s.heap.objs.size+1) (o:=.ins C s.heap.objs.size []) (t':=s.toks) (fun b u q=>aB _ q) (vI (cY _ _)) ?_
 have ne:s.heap.objs.size≠s.heap.objs.size+1:=bQ (lK _);refine⟨by rw[bw ne,dh],gQ _,ne,e2,fun _=>none,(yC e3).at fun o q=>aB _ q,fun _=>oV,fun y hy=>absurd rfl hy⟩
theorem a2r{prog:cA}{w:dJ}{env:Env}{e:dX}{f:Str}{pos:Pos}{s:aH}{Q:aD->aH->Prop}(hb:attributeBase e f env (eval e env)=eval e env)
  (h:bL (bU prog w) A (eval e env) (fun o s₁=>bL (bU prog w) A (getAttr o f true) Q E s₁) E s):bL (bU prog w) A (eval (.Attribute e f pos) env) Q E s :=
 Attribute_any_ h (by rw[arm_eval_Attribute,hb])
end
section
variable{X:Cx}{o e value:dX}{f:Str}{pos pos' tpos:Pos}{ta tv:TE}
end
section
variable{X:Cx}{zv:List (aX×Obj)}{σ:St}{H:Hp}{s:aH}{A:cW}{E:aD->aH->Prop}{Q:aD->aH->Prop}{c:aD}{b:Bool}
inductive TyOf (K:Fg9) (H:Hp):V->aD->Prop where
 | non:TyOf K H .non (.type "NoneType")
 | bl (x:Bool):TyOf K H (.bl x) (.type "bool")
 | int (i:Int):TyOf K H (.int i) (.type "int")
 | str (x:Str):TyOf K H (.str x) (.type "str")
 | flt (x:UInt64):TyOf K H (.flt x) (.type "float")
 | lst {a:aX} {xs:List V} (e:H a=some (.lst xs)):TyOf K H (.ref a) (.type "list")
 | frz {a:aX} {o:Obj} {xs:List V} (e:H a=some (.frz o (.lst xs))):TyOf K H (.ref a) (.type "list")
 | tup {a:aX} {xs:List V} (e:H a=some (.tup xs)):TyOf K H (.ref a) (.type "tuple")
 | dK {a:aX} {kvs:List (Key×V)} (e:H a=some (.dK kvs)):TyOf K H (.ref a) (.type "dict")
 | dT {a:aX} {kvs:List (List Key×V)} (e:H a=some (.dT kvs)):TyOf K H (.ref a) (.type "dict")
 | ins {a C dx:aX} {fs:List (Str×V)} (e:H a=some (.ins C dx fs)) (cl:Cls K C) (ha:lM K (.ref C) "__class__" = some (some (.builtin "object.__class__")))
   (hn:mX K (.builtin "object.__class__") "__get__" = some (some (.builtin "getset_descriptor.__get__"))) (htk:pY K (.builtin "object.__class__")=some true)
   (hm:kJ K C (.type "object")=some true):TyOf K H (.ref a) (.ref C)
theorem at6{x:V}{u t:aD}(I:Inv X zv σ H s)(rx:RelV x u)(ty:TyOf X.K H x t)(e:gY X.K t c=some b)(h:∀tk,Q (.bool b) { s with toks:=tk }) :
  bL (bU X.prog X.w) A (call (.builtin "isinstance") [u,c]) Q E s:=by
 cases ty with
 | non=>cases(show u=cU from rx);exact eH PySem.W.kitx_none I.kIn oV e (fun z=>nomatch z) h
 | bl y=>cases(show u=rM y from rx);exact eH PySem.W.kitx_bool I.kIn oV e (fun z=>nomatch z) h
 | int i=>obtain⟨t,q⟩:=(show ∃t,u=oU i t from rx);cases q;exact eH PySem.W.kitx_int I.kIn oV e (fun z=>nomatch z) h
 | str y=>obtain⟨t,q⟩:=(show ∃t,u=vC y t from rx);cases q;exact eH PySem.W.kitx_str I.kIn oV e (fun z=>nomatch z) h
 | flt y=>obtain⟨t,q⟩:=(show ∃t,u=vR y t from rx);cases q;exact eH PySem.W.kitx_float I.kIn oV e (fun z=>nomatch z) h
 | @lst a xs ea =>
  cases(show u=dF a from rx)
  obtain⟨_,_,n,_,h1⟩:=(show uv X.prog X.w H s.heap a (.lst xs) from I.hok a _ ea)
  exact eH rO I.kIn ⟨_,h1,rfl⟩ e (fun z=>nomatch z) h
 | @frz a ob xs ea =>
  cases(show u=dF a from rx)
  obtain⟨_,_,_,n,_,h1⟩:=(show uv X.prog X.w H s.heap a (.frz ob (.lst xs)) from I.hok a _ ea)
  exact eH rO I.kIn ⟨_,h1,rfl⟩ e (fun z=>nomatch z) h
 | @tup a xs ea =>
  cases(show u=dF a from rx)
  obtain⟨_,_,_,p⟩:=(show uv X.prog X.w H s.heap a (.tup xs) from I.hok a _ ea)
  obtain⟨o,h1,h2,_⟩:=p;exact eH PySem.W.kitx_tuple I.kIn ⟨o,h1,h2⟩ e (fun z=>nomatch z) h
 | @dK a kvs ea =>
  cases(show u=dF a from rx)
  obtain⟨_,_,vs,_,p⟩:=(show uv X.prog X.w H s.heap a (.dK kvs) from I.hok a _ ea)
  obtain⟨o,es,ep,h1,h2,_⟩:=p;exact eH xO I.kIn ⟨o,h1,h2.1⟩ e (fun z=>nomatch z) h
 | @dT a kvs ea =>
  cases(show u=dF a from rx)
  obtain⟨_,_,xs,_,o,es,ep,h1,h2,_⟩:=(show uv X.prog X.w H s.heap a (.dT kvs) from I.hok a _ ea)
  exact eH xO I.kIn ⟨o,h1,h2.1⟩ e (fun z=>nomatch z) h
 | @ins a C dx fs ea cl ha hn htk hm =>
  cases(show u=dF a from rx)
  obtain⟨mA,O,_⟩:=a1m I.hok ea;obtain⟨od,J,_⟩:=O.look;exact eH (PySem.W.kitx_own (cl.get _) cl.hd ha hn htk hm) I.kIn J e (fun z=>nomatch z) h
end
structure Room (k:Nat) (A:cW):Prop where
 hd:A.handled=none
 dp:A.depth+3*k+5 < recursionLimit
 un:A.units+16*k+200 < cLine
 gd:A.guards=some []
theorem Room.mono{j k:Nat}{A:cW}(r:Room k A)(h:j<=k):Room j A:=⟨r.hd,by have:=r.dp;omega,by have:=r.un;omega,r.gd⟩
theorem Room.deeper{k:Nat}{A:cW}(r:Room (k+1) A)(env:Env):Room k (A.deeper env) :=
 ⟨r.hd,by have:=r.dp;show A.depth+1+3*k+5 < _;omega,by have:=r.un;show A.units+3+16*k+200 < _;omega,r.gd⟩
theorem aqd{A:cW}{C:aX}{us:List aD}{kw:List (Str×Value)}:(A.under (.builtin "type.__call__" ⟨.ref C::us,kw⟩)).depth=A.depth+1:=by
 first | rfl | simp[sH,Code.weight,zB,Code.isGuard,zU,wH,sE,guardIds]
theorem aqc{A:cW}{C:aX}{us:List aD}{kw:List (Str×Value)}:(A.under (.builtin "type.__call__" ⟨.ref C::us,kw⟩)).units=A.units+1:=by
 first | rfl | simp[sH,Code.cUnits,wH,sE]
theorem amo{A:cW}{C:aX}{us:List aD}{kw:List (Str×Value)}:(A.under (.builtin "type.__call__" ⟨.ref C::us,kw⟩)).guards=A.guards:=by first | rfl | simp[sH,Code.weight,zB,Code.isGuard,zU,wH,sE,guardIds]
theorem Room.make{k:Nat}{A:cW}(r:Room (k+1) A)(C:aX)(us:List aD)(kw:List (Str×Value)):Room k (A.under (.builtin "type.__call__" ⟨.ref C::us,kw⟩)) :=
 ⟨r.hd,by have:=r.dp;rw[aqd];omega,by have:=r.un;rw[aqc];omega,by rw[amo];exact r.gd⟩
theorem Room.depth{k:Nat}{A:cW}(r:Room k A):A.depth < recursionLimit:=by have:=r.dp;omega
theorem Room.units{k:Nat}{A:cW}(r:Room k A):A.units+64 < cLine:=by have:=r.un;omega
def tNil:TA:=fun _ H Q=>Q [] H
def a8b(ta:TE)(tr:TA):TA:=fun σ H Q=>ta σ H fun x H1=>tr σ H1 fun xs H2=>Q (x::xs) H2
section
variable{X:Cx}{e:dX}{es:List dX}{te:TE}{t:TA}{pos:Pos}
theorem aa6:PA X [] tNil:=fun _ _ _ _ H Q I h=>Calls.spliced_nil ⟨[],H,I,.nil,h⟩
theorem mj(ha:PE X e te)(hr:PA X es t)(hs:aQ (e::es) X.env=(false,eval e X.env)::aQ es X.env:=by rfl):PA X (e::es) (a8b te t):=by
 intro pos zv s σ H Q I h;rw[hs];show bL _ _ (spliced ((false,eval e X.env)::jD pos (aQ es X.env))) _ _ s;refine oJ (thn (ha zv s σ H _ I h) fun u s1 ⟨x,H1,I1,r1,q1⟩ =>?_)
 exact thn (hr pos zv s1 σ H1 _ I1 q1) fun us s2 ⟨xs,H2,I2,r2,q2⟩=>⟨x::xs,H2,I2,.cons r1 r2,q2⟩
def tTup(t:TA):TE:=fun σ H Q=>t σ H fun xs H1=>xs.length<=cN/\∀p,H1 p=none->Q (.ref p) (upd H1 p (.tup xs))
def tLst(t:TA):TE:=fun σ H Q=>t σ H fun xs H1=>xs.length<=cN/\∀p,H1 p=none->Q (.ref p) (upd H1 p (.lst xs))
theorem ayv{x1}(h:PA X es t):PE X (.Tuple es x1 pos) (tTup t):=by
 intro zv s σ H Q I hq;refine wpAny_Tuple_spliced (thn (h pos zv s σ H _ I hq) fun us s1 ⟨xs,H1,I1,r,z,q⟩=>⟨by rw[<-r.length];exact z,?_⟩)
 have hf:H1 s1.heap.objs.size=none:=I1.hok.fresh (aN _);refine⟨.ref s1.heap.objs.size,upd H1 s1.heap.objs.size (.tup xs),I1.laid (t':=s1.toks) (fun b u e=>aB _ e) (aN _) ?_,rfl,q _ hf⟩
 exact⟨z,us,r,⟨_,aO _ rfl,rfl,rfl,_,rfl⟩⟩
theorem a4f(h:PA X es t):PE X (.List es pos) (tLst t):=by
 intro zv s σ H Q I hq;refine wpAny_List_spliced (thn (h pos zv s σ H _ I hq) fun us s1 ⟨xs,H1,I1,r,z,q⟩=>⟨by rw[<-r.length];exact z,?_⟩)
 have hf:H1 s1.heap.objs.size=none:=I1.hok.fresh (aN _);refine⟨.ref s1.heap.objs.size,upd H1 s1.heap.objs.size (.lst xs),I1.laid (t':=s1.toks) (fun b u e=>aB _ e) (aN _) ?_,rfl,q _ hf⟩
 exact⟨z,us,0,r,aO _ rfl⟩
end
abbrev Sp:=List V->Hp->VK->XK->Prop
abbrev CXT:=List Env->Hp->aH->XK->aD->aH->Prop
structure Env0 (P:cA) (w:dJ) (K:Fg9) (mg:Str->Option aD) (base:fK) (A:cW) (outer:List Env) (s:aH) (H:Hp):Prop where
 frames:A.frames=some outer
 mod:Mod K mg base
 bs:∀b o,base.get? b=some o->s.heap.get? b=some o/\H b=none
 bsz:base.objs.size<=s.heap.objs.size
 funs:s.heap.FunFrames base outer
 frf:∀b∈frs outer,H b=none
 hok:HOk P w H s.heap
 bare:qN s.gens
def CE(outer:List Env)(P:cA)(w:dJ)(H:Hp)(s:aH)(Q:VK)(u:aD)(s':aH):Prop :=
 ∃v H',s'.os=s.os/\qN s'.gens/\Un (frs outer) [] H H' s.heap s'.heap/\HOk P w H' s'.heap/\RelV v u/\Q v H'
def CR(CX:CXT)(outer:List Env)(P:cA)(w:dJ)(H:Hp)(s:aH)(Q:VK)(E:XK)(r:Result)(s':aH):Prop :=
 match r with
 | .ok (.ret u)=>CE outer P w H s Q u s'
 | .ok _=>False
 | .error e=>CX outer H s E e s'
structure FnOk (P:cA) (w:dJ) (K:Fg9) (mg:Str->Option aD) (base:fK) (CX:CXT) (k:Nat) (f:aX) (fd:fJ) (ps:List Str) (sp:Sp):Prop where
 len:∀vs H Q E,sp vs H Q E->vs.length=ps.length
 run:∀(A:cW) (outer:List Env) (s:aH) (H:Hp) (args:Args) (us:List aD) (vs:List V) (Q:VK) (E:XK),Room k A->Env0 P w K mg base A outer s H->nH s fd args (ps.zip us)->Vals vs us->sp vs H Q E ->
  pB (bU P w) A (.call (.ref f) args) (CR CX outer P w H s Q E) s
theorem Env0.make{P:cA}{w:dJ}{K:Fg9}{mg:Str->Option aD}{base:fK}{A:cW}{outer:List Env}{s:aH}{H:Hp}(e:Env0 P w K mg base A outer s H)(C:aX)(us:List aD)(kw:List (Str×Value)) :
  Env0 P w K mg base (A.under (.builtin "type.__call__" ⟨.ref C::us,kw⟩)) outer s H:=⟨by first | exact e.frames | (simpa[sH,Code.envs,sE,pushEnvs] using e.frames),e.mod,e.bs,e.bsz,e.funs,e.frf,e.hok,e.bare⟩
section
variable{X:Cx}{zv:List (aX×Obj)}{σ:St}{H:Hp}{s s':aH}
theorem Inv.env0(I:Inv X zv σ H s):Env0 X.prog X.w X.K X.mg X.base X.A X.stack s H :=
 ⟨I.ok.frames,I.ok.mod,I.bs,cR I.ok.bsz I.sz,I.stack,I.stkFree,I.hok,I.bare⟩
theorem Inv.after{Q:VK}{u:aD}(I:Inv X zv σ H s)(h:CE X.stack X.prog X.w H s Q u s'):EP X zv σ Q u s':=by
 obtain⟨v,H',os,bare,un,hok,r,q⟩:=h;obtain⟨hh,g,d,t,os'⟩:=s';obtain rfl:os'=s.os:=os;exact⟨v,H',I.call (h':=hh) (g':=g) (d':=d) (t':=t) (ch:=[]) un hok bare (fun b z=>absurd z (by simp)),r,q⟩
end
def azy(sp:Sp)(dvs:List V)(E:XK)(t:TA):TE:=fun σ H Q=>t σ H fun vs H1=>sp (vs++dvs) H1 Q E
def Binds(K:Fg9)(fd:fJ)(ps:List Str)(ds:List aD):Prop :=
 ∀(s:aH) (us:List aD),K.In s.heap->(us++ds).length=ps.length->nH s fd ⟨us,[]⟩ (ps.zip (us++ds))
theorem Binds.all{K:Fg9}{fd:fJ}{ps:List Str}(h:∀us:List aD,us.length=ps.length->qO fd ⟨us,[]⟩=pure (ps.zip us)):Binds K fd ps []:=fun s us _ hl=>by
 rw[gM] at hl ⊢
 exact .of_eq (h us hl)
def avq(CX:CXT)(X:Cx)(E:XK):Prop:=∀(zv:List (aX×Obj)) (σ:St) (H:Hp) (s:aH) (e:aD) (s':aH),Inv X zv σ H s->CX X.stack H s E e s'->X.xe e s'
section
variable{X:Cx}{CX:CXT}{k:Nat}{f C:aX}{fd:fJ}{ps:List Str}{sp:Sp}{dvs:List V}{ds:List aD}{E:XK}{x m:Str}{p pos apos:Pos}{e o:dX}{es:List dX}{ta:TE}{t:TA}
theorem a3n{zv:List (aX×Obj)}{σ:St}{H:Hp}{s:aH}{Q:VK}{us:List aD}{vs:List V}(F:FnOk X.prog X.w X.K X.mg X.base CX k f fd ps sp)(hr:Room k X.A)(hb:Binds X.K fd ps ds)(hd:Vals dvs ds)(hx:avq CX X E)
  (I:Inv X zv σ H s) (r:Vals vs us) (h:sp (vs++dvs) H Q E):bL (bU X.prog X.w) X.A (call (.ref f) us) (EP X zv σ Q) X.xe s:=by
 have r2:Vals (vs++dvs) (us++ds):=r.append hd;have hl:(us++ds).length=ps.length:=by rw[<-r2.length];exact F.len _ _ _ _ h
 refine mV (jU (F.run X.A X.stack s H ⟨us,[]⟩ (us++ds) (vs++dvs) Q E hr I.env0 (hb s us I.kIn hl) r2 h) fun r s' hq =>?_)
 cases r with
 | error e=>exact hx zv σ H s e s' I hq
 | ok fl =>
  cases fl with
  | ret u=>exact I.after hq
  | next=>exact fU hq
  | brk=>exact fU hq
  | cont=>exact fU hq
theorem a0v(F:FnOk X.prog X.w X.K X.mg X.base CX k f fd ps sp)(hr:Room k X.A)(hg:Gl X x)(hm:X.mg x=some (.ref f))(hk:oA X.K (.ref f)=true)(hb:Binds X.K fd ps ds)(hd:Vals dvs ds)(hx:avq CX X E)
  (ha:PA X (e::es) t) (hdb:(x==("__debug__" : Str))=false:=by decide) (he:aQ (e::es) X.env=(false,eval e X.env)::aQ es X.env:=by rfl) (hpl:(jD pos (aQ es X.env)).any (·.1)=false:=by rfl) :
  PE X (.Call (.Name x p) (e::es) [] pos) (azy sp dvs E t):=by
 intro zv s σ H Q I h;refine wpAny_Call_Name_kw (aa8 I hg hm ?_ hdb);refine oE (h₀:=X.base) I.ok.mod.kin hk (thn (ha pos zv s σ H _ I h) fun us s1 ⟨vs,H1,I1,r,q⟩=>⟨I1.kIn,?_⟩) he hpl
 exact a3n F hr hb hd hx I1 r q
structure Mk (K:Fg9) (C f:aX):Prop where
 makes:PySem.W.makesIn K C=true
 init:lM K (.ref C) "__init__" = some (some (.ref f))
 fn:PySem.W.isFn K (.ref f)=true
 kp:oA K (.ref C)=true
end
section
variable{X:Cx}{CX:CXT}{k:Nat}{f C:aX}{fd:fJ}{ps ks:List Str}{sp:Sp}{E:XK}{x m:Str}{p pos apos kpos:Pos}{e o:dX}{es:List dX}{kws:List rB}{te ta:TE}{t tk:TA}{nm:Option Str}
structure KBinds (K:Fg9) (fd:fJ) (ps ks:List Str) (g:List aD->List aD->List aD) (gV:List V->List V->List V):Prop where
 to:∀(s:aH) (us ws:List aD),K.In s.heap->(g us ws).length=ps.length->nH s fd ⟨us,ks.zip ws⟩ (ps.zip (g us ws))
 rel:∀{vs:List V} {us:List aD} {zs:List V} {ws:List aD},Vals vs us->Vals zs ws->Vals (gV vs zs) (g us ws)
variable{g:List aD->List aD->List aD}{gV:List V->List V->List V}
end
structure FnScope (N P:List Str) (sc:pC):Prop where
 kind:sc.kind=.function
 co:sc.isCoroutine=false
 gen:sc.isGenerator=false
 nd:N.Nodup
 pre:N.take P.length=P
 par:∀x∈P,sc.names.lookup x=some .local∨sc.names.lookup x=some .cell
 nofree:∀y∈sc.names,y.2≠.free
theorem alp{kindOf:Str->Option uT}{x:Str}:∀{binds:List (Str×Value)} {m:Str->Option aD},(∀v,(x,v)∉binds)->bindL kindOf binds m x=m x
 | [],_,_=>rfl
 | (n,v)::r,m,h=>by
  unfold bindL;rw[alp fun w hw=>h w (aL _ hw)]
  split
  ·have:x≠n:=by rintro rfl;exact h v aP
   simp[this]
  ·rfl
theorem alr{kindOf:Str->Option uT}{x:Str}:∀{binds:List (Str×Value)} {m:Str->Option aD},(∀v,(x,v)∉binds)->bindC kindOf binds m x=m x
 | [],_,_=>rfl
 | (n,v)::r,m,h=>by
  unfold bindC;rw[alr fun w hw=>h w (aL _ hw)]
  split
  ·rfl
  ·have:x≠n:=by rintro rfl;exact h v aP
   simp[this]
theorem alq{kindOf:Str->Option uT}{x:Str}{v:aD}:∀{P:List Str} {vs:List aD} {i:Nat} {m:Str->Option aD},P.Nodup->P[i]? = some x->vs[i]? = some v->kindOf x=some .local ->
  bindL kindOf (P.zip vs) m x=some v
 | [],_,_,_,_,h,_,_=>by simp at h
 | _::_,[],_,_,_,_,h,_=>by simp at h
 | p::P,w::vs,0,m,nd,h1,h2,hk=>by
  simp at h1 h2;subst h1;subst h2;show bindL kindOf ((p,w)::P.zip vs) m p=_;unfold bindL;rw[alp fun v hv=>(jY.mp nd).1 (qD hv).1,if_pos hk]
  simp
 | p::P,w::vs,i+1,m,nd,h1,h2,hk=>by
  show bindL kindOf ((p,w)::P.zip vs) m x=_;unfold bindL;exact alq (i:=i) (jY.mp nd).2 (by simpa using h1) (by simpa using h2) hk
theorem als{kindOf:Str->Option uT}{x:Str}{v:aD}:∀{P:List Str} {vs:List aD} {i:Nat} {m:Str->Option aD},P.Nodup->P[i]? = some x->vs[i]? = some v->kindOf x≠some .local ->
  bindC kindOf (P.zip vs) m x=some v
 | [],_,_,_,_,h,_,_=>by simp at h
 | _::_,[],_,_,_,_,h,_=>by simp at h
 | p::P,w::vs,0,m,nd,h1,h2,hk=>by
  simp at h1 h2;subst h1;subst h2;show bindC kindOf ((p,w)::P.zip vs) m p=_;unfold bindC;rw[alr fun v hv=>(jY.mp nd).1 (qD hv).1,if_neg hk]
  simp
 | p::P,w::vs,i+1,m,nd,h1,h2,hk=>by
  show bindC kindOf ((p,w)::P.zip vs) m x=_;unfold bindC;exact als (i:=i) (jY.mp nd).2 (by simpa using h1) (by simpa using h2) hk
def start(N:List Str)(vs:List V):St:=vs.map some++aV (N.length - vs.length) none
def cxOf(CX:CXT)(P:cA)(w:dJ)(K:Fg9)(mg:Str->Option aD)(base:fK)(N:List Str)(qual:Str)(scope:pC)(f:aX)(cd:aD)(A:cW)(outer:List Env)(s:aH)(H:Hp)(E:XK):Cx where
 prog:=P
 w:=w
 K:=K
 mg:=mg
 base:=base
 A:=A.deeper (pO qual scope s.heap.objs.size f cd)
 N:=N
 s₀:=s
 H₀:=H
 env:=pO qual scope s.heap.objs.size f cd
 outer:=outer
 stack:=pO qual scope s.heap.objs.size f cd::outer
 ex:=[]
 calm:=true
 fn:=fun _=>true
 pn:=[]
 xe:=fun e s'=>bL (bU P w) (A.deeper (pO qual scope s.heap.objs.size f cd)) (leaving (pO qual scope s.heap.objs.size f cd) e) (fun _ s''=>CX outer H s E e s'') (fun e' s''=>CX outer H s E e' s'') s'
theorem ao5{sc:pC}{n:Nat}{x:Str}(h:sc.names.lookup x=some .cell):∃c,(cellsFrom n sc.names []).lookup x=some c:=by
 have q:=pU sc.names n [] (.inl h);exact uM.mp q
theorem aks{CX:CXT}{P:cA}{w:dJ}{K:Fg9}{mg:Str->Option aD}{base:fK}{N ps:List Str}{qual:Str}{scope:pC}{f:aX}{cd:aD}{A:cW}{outer:List Env}{s s1:aH}{H:Hp}{E:XK}{us:List aD}{vs:List V}
  (S:FnScope N ps scope) (hd:A.handled=none) (e0:Env0 P w K mg base A outer s H) (hl:vs.length=ps.length) (r:Vals vs us)
  (x:InCallC s s.heap.objs.size (bindL (pO qual scope s.heap.objs.size f cd).kindOf (ps.zip us) fun _=>none) (cellsFrom (s.heap.objs.size+1) scope.names []) (bindC (pO qual scope s.heap.objs.size f cd).kindOf (ps.zip us) fun _=>none) s1) :
  Inv (cxOf CX P w K mg base N qual scope f cd A outer s H E) [] (start N vs) H s1:=by
 have hpl:ps.length<=N.length:=by have:=congrArg vZ S.pre;rw[gC] at this;omega
 obtain⟨h1,tk,rfl,hk⟩:=x.done;have noA:∀b:aX,b∉(cxOf CX P w K mg base N qual scope f cd A outer s H E).ex:=fun b z=>absurd (show b∈([]:List aX) from z) (by simp)
 refine⟨⟨e0.mod,S.kind,rfl,rfl,aN _,fun y z c h1 h2 =>?_,fun y hy =>?_,fun y c _ h =>?_,fun _=>hd,vP e0.frames,.inr ⟨rfl,rfl⟩,fun b z=>absurd z (noA b),e0.bs,e0.bsz,fun b _ _=>noA b,fun b z=>absurd z (noA b),e0.funs,e0.frf⟩,
  rfl,e0.bare,Un.kept hk,⟨_,x.toInCall.ns,fun i y v h1 h2 h3 =>?_⟩,fun y c h=>⟨_,x.cell y c h⟩,e0.hok.fresh (aN _),fun y c h =>?_,fun p hp=>absurd (show p∈([]:List (aX×Obj)) from hp) (by simp),e0.hok.kept hk,?_⟩
 ·exact name_of_addr x.apart (jH h1) (jH h2)
 ·have hy:scope.names.lookup y=some .cell∨scope.names.lookup y=some .free:=hy;rcases hy with hy | hy
  ·exact ao5 hy
  ·exact absurd rfl (S.nofree _ (jH hy))
 ·exact oG (x.above y c (jH h))
 ·have hi:i < vs.length:=by
   unfold start at h2
   by_cases hi:i < vs.length
   ·exact hi
   ·rw[eE (by simpa using hi)] at h2
    rw[mD] at h2;split at h2 <;> cases h2
  have ha:vs[i]? = some v:=by
   unfold start at h2;rw[bZ (by simpa using hi),bB] at h2
   cases e:vs[i]? with
   | none=>rw[e] at h2;cases h2
   | some a=>rw[e] at h2;cases h2;rfl
  obtain⟨u,hu,rv⟩:=r.get ha;have hp:ps[i]? = some y:=by
   rw[<-S.pre,lQ (by omega)];exact h1
  have ndP:ps.Nodup:=by rw[<-S.pre];exact S.nd.sublist (xR _ _)
  refine⟨u,rv,?_⟩;rcases S.par y (iT hp) with k | k
  ·exact .inl ⟨k,alq ndP hp hu k⟩
  ·obtain⟨c,e⟩:=ao5 (n:=s.heap.objs.size+1) k;refine .inr ⟨.inl k,c,e,?_⟩;have q:=x.cell y c e;rw[als ndP hp hu (by show scope.names.lookup y≠_;rw[k];decide)] at q
   exact q
 ·exact e0.hok.fresh (oG (x.above y c (jH h)))
 ·unfold start;show _=N.length;rw[bM,aM,qF];omega
theorem a6f{CX:CXT}{P:cA}{w:dJ}{K:Fg9}{mg:Str->Option aD}{base:fK}{k:Nat}{f:aX}{name qual:Str}{params:Arguments}{body:List iJ}{scope:pC}{dV kV doc pm cdv ct oc:aD}{an od:Option aX}
  {osl:Array (Option aD)} {N ps:List Str} {sp:Sp} (lk:K.lookup f=some ⟨oc,od,.func (fnOf name qual params body scope dV kV doc pm an cdv ct),osl⟩) (hcd:codeIn K cdv qual=true) (S:FnScope N ps scope)
  (len:∀vs H Q E,sp vs H Q E->vs.length=ps.length)
  (hbody:∀(A:cW) (outer:List Env) (s:aH) (H:Hp) (vs:List V) (Q:VK) (E:XK),Room k (A.deeper (pO qual scope s.heap.objs.size f cdv))->sp vs H Q E ->
   ∃t,PSs (cxOf CX P w K mg base N qual scope f cdv A outer s H E) body t/\t { nx:=fun _ H'=>Q .non H',rt:=Q } (start N vs) H) :
  FnOk P w K mg base CX (k+1) f (fnOf name qual params body scope dV kV doc pm an cdv ct) ps sp:=by
 refine⟨len,fun A outer s H args us vs Q E hr e0 hb r hsp =>?_⟩
 have hl:=len _ _ _ _ hsp;have KX:K.In s.heap:=e0.mod.kin.keeps fun b o e=>(e0.bs b o e).1
 have lim:s.heap.NoLimit:=e0.mod.nolimit.keeps fun b o e=>(e0.bs b o e).1
 have hkind:∀y∈ps.zip us,scope.names.lookup y.1=some .local∨(scope.names.lookup y.1=some .cell/\((cellsFrom (s.heap.objs.size+1) scope.names []).lookup y.1).isSome=true):=fun⟨n,v⟩ hy=>by
  rcases S.par n (qD hy).1 with q | q
  ·exact .inl q
  ·exact .inr ⟨q,pU _ _ _ (.inl q)⟩
 refine codeAny_call_function hr.depth (KX _ _ lk) rfl S.co S.gen rfl (wK KX hcd) (hb _ _ _ _ ?_);refine wpAny_newFunctionEnv_cells S.kind hkind fun env he s1 x =>?_
 subst he;refine⟨lim.keeps x.toInCall.keep,codeAny_func ?_⟩;obtain⟨t,ht,hq⟩:=hbody A outer s H vs Q E (hr.deeper _) hsp;have I:Inv (cxOf CX P w K mg base N qual scope f cdv A outer s H E) [] (start N vs) H s1:=aks S hr.hd e0 hl r x;refine bC (ht [] s1 (start N vs) H _ I hq) (fun fl s' hs =>?_) fun e s' hs=>hs
 have fin:∀{σ':St} {H':Hp} {v:V} {u:aD},Inv (cxOf CX P w K mg base N qual scope f cdv A outer s H E) [] σ' H' s'->RelV v u->Q v H'->CE outer P w H s Q u s' :=
  fun{σ' H' v u} J rv q=>⟨v,H',J.os,J.bare,J.base,J.hok,rv,q⟩
 cases fl with
 | ret u =>
  obtain⟨v,σ',H',J,rv,q⟩:=hs;exact fin J rv q
 | next =>
  obtain⟨σ',H',J,q⟩:=hs;exact fin (v:=V.non) (u:=cU) J rfl q
 | brk =>
  obtain⟨_,_,_,q⟩:=hs;exact fU q
 | cont =>
  obtain⟨_,_,_,q⟩:=hs;exact fU q
section
variable{X:Cx}{x:Str}{p pos:Pos}{e:dX}{es:List dX}{t:TA}{id T:String}{r:List V->Hp->VK->Prop}
def tCB(r:List V->Hp->VK->Prop)(t:TA):TE:=fun σ H Q=>t σ H fun vs H1=>r vs H1 Q
theorem ac1(hc:abn X (.builtin id) r)(hg:Gl X x)(hm:X.mg x=none)(hv:cD x=some (.builtin id))(ha:PA X (e::es) t)(hn:x ≠ "__name__" := by decide)(hdb:(x==("__debug__" : Str))=false:=by decide)
  (he:aQ (e::es) X.env=(false,eval e X.env)::aQ es X.env:=by rfl) (hpl:(jD pos (aQ es X.env)).any (·.1)=false:=by rfl):PE X (.Call (.Name x p) (e::es) [] pos) (tCB r t):=by
 intro zv s σ H Q I h;refine wpAny_Call_Name_kw (af7 I hg hm hv ?_ hn hdb);exact PyProof.Rows.callWith_builtin1 (thn (ha pos zv s σ H _ I h) fun us s1 ⟨vs,H1,I1,r1,q1⟩=>hc zv s1 σ H1 vs us Q I1 r1 q1) he hpl
theorem ac0(hc:abn X (.type T) r)(hg:Gl X x)(hm:X.mg x=none)(hv:cD x=some (.type T))(ha:PA X (e::es) t)(hn:x ≠ "__name__" := by decide)(hdb:(x==("__debug__" : Str))=false:=by decide)
  (he:aQ (e::es) X.env=(false,eval e X.env)::aQ es X.env:=by rfl) (hpl:(jD pos (aQ es X.env)).any (·.1)=false:=by rfl):PE X (.Call (.Name x p) (e::es) [] pos) (tCB r t):=by
 intro zv s σ H Q I h;refine wpAny_Call_Name_kw (af7 I hg hm hv ?_ hn hdb);exact iH (thn (ha pos zv s σ H _ I h) fun us s1 ⟨vs,H1,I1,r1,q1⟩=>hc zv s1 σ H1 vs us Q I1 r1 q1) he hpl
end
end L2
namespace HT
open PySem PyProof.Rows
section
open PySem.SeqAt
open PySem.AutoSeq1 (wpAny_loadPart')
open PySem.MeetsSeq PySem.MeetsSeq2 PySem.MeetsSeq3
end
section
variable{prog:cA}{w:dJ}{A:cW}{E:aD->aH->Prop}{s:aH}
theorem a2m{t b:aX}{vs ws:List aD}{Q:aD->aH->Prop}(ht:xX s.heap t vs.toArray)(hb:xX s.heap b ws.toArray)(hv:vs≠[])
  (h1:ws=[]->Q (.ref t) s) (h2:ws≠[]->Q (.ref s.heap.objs.size) { s with heap:=s.heap.push { cls:=.type "tuple", data:=.seq (vs++ws).toArray } })
  (hsz:vs.length+ws.length<=cN):bL (bU prog w) A (gF .Add (.ref t) (.ref b)) Q E s:=by
 obtain⟨⟨cls,dd,data,sl⟩,ho,hc,n,hd⟩:=id ht;obtain⟨⟨cls2,dd2,data2,sl2⟩,ho2,hc2,n2,hd2⟩:=id hb;simp only at hc hd hc2 hd2;subst hc hd hc2 hd2;have e:vs.toArray++ws.toArray=(vs++ws).toArray:=by simp
 by_cases hw:ws=[]
 ·exact concat_meets ⟨_,ho,rfl⟩ ⟨_,ho2,rfl⟩ noFill_tuple_add seq_tuple_add pW pH (oW _ _)
   (tuple_addW1 t b vs.toArray ws.toArray n n2 dd dd2 sl sl2 (by simpa using hv) (by simp[hw])) ⟨ho,ho2,h1 hw⟩
 ·refine concat_meets ⟨_,ho,rfl⟩ ⟨_,ho2,rfl⟩ noFill_tuple_add seq_tuple_add pW pH (oW _ _)
   (tuple_addW2 t b vs.toArray ws.toArray n n2 dd dd2 sl sl2 (by simpa using hv) (by simpa using hw) (by rw[aU,aU];exact hsz)) ⟨ho,ho2,?_⟩
  rw[e];exact h2 hw
def sIx(n d:Nat):Option Int->Nat
 | none=>d
 | some v=>if v < 0 then (v+(n:Int)).toNat else min v.toNat n
theorem a3l(n d:Nat)(hd:d<=n)(o:Option Int):sIx n d o<=n:=by
 cases o with
 | none=>exact hd
 | some v =>
  show(if v < 0 then (v+(n:Int)).toNat else min v.toNat n)<=n
  by_cases hv:v < 0
  ·rw[if_pos hv];omega
  ·rw[if_neg hv];exact Nat.min_le_right _ _
theorem au9(v:Int)(n d:Nat):(if v < 0 then max (v+(n:Int)) 0 else min v (n:Int))=((sIx n d (some v):Nat):Int):=by
 show(if v < 0 then max (v+(n:Int)) 0 else min v (n:Int))=(((if v < 0 then (v+(n:Int)).toNat else min v.toNat n):Nat):Int)
 by_cases hv:v < 0
 ·simp only[if_pos hv];omega
 ·simp only[if_neg hv];omega
theorem aq4(lo hi:Option Int)(n:Nat):oN lo hi 1 (n:Int)=(((sIx n 0 lo:Nat):Int),((sIx n n hi:Nat):Int)):=by
 have h1:¬((1:Int) < 0):=by omega
 unfold oN;simp only[h1,if_false];refine Prod.ext ?_ ?_
 ·cases lo with
  | none=>rfl
  | some v=>exact au9 v n 0
 ·cases hi with
  | none=>rfl
  | some v=>exact au9 v n n
theorem ap1(i j:Nat):lJ (i:Int) (j:Int) 1=j - i:=by
 unfold lJ;have h1:(1:Int) > 0:=by omega
 simp only[h1,if_true,Int.ediv_one];split <;> omega
theorem ahc{v:aD}{o:Option Int}{Q:Option Int->aH->Prop}(p:rZ v o)(h:Q o s):bL (bU prog w) A (Builtin.Slice.slicePartIndex v) Q E s:=by
 cases p with
 | none=>exact slicePart_none h
 | int i t=>exact slicePart_int h
theorem aaq{sl:aX}{vl vu:aD}{lo hi:Option Int}{n:Nat}{Q:Int×Int×Nat->aH->Prop}(hs:s.heap.IsSliceOf sl vl vu .none)(pl:rZ vl lo)(pu:rZ vu hi)
  (h:Q (((sIx n 0 lo:Nat):Int),1,sIx n n hi - sIx n 0 lo) s):bL (bU prog w) A (uC (.ref sl) (pure (n:Int))) Q E s:=by
 obtain⟨os,hos,hcs,hds⟩:=id hs;unfold uC Builtin.Slice.sliceFields;refine aA (aA (eF hos hds (x:=vl) rfl (aA (eF hos hds (x:=vu) rfl (aA (eF hos hds (x:=.none) rfl (aG ?_)))))));refine aA (slicePart_none ?_);show bL _ _ (if ((1:Int)==0)=true then _ else _) _ _ s
 rw[if_neg (by decide)]
 refine aA (ahc pl (aA (ahc pu (aA (aG ?_)))));show bL _ _ (match oN lo hi 1 (n:Int) with | (lo,hi)=>pure (lo,(1:Int),lJ lo hi 1)) _ _ s
 rw[aq4 lo hi n];show bL _ _ (pure (((sIx n 0 lo:Nat):Int),(1:Int),lJ ((sIx n 0 lo:Nat):Int) ((sIx n n hi:Nat):Int) 1)) _ _ s;rw[ap1];exact aG h
theorem awh(xs:Array aD)(i k:Nat):((aJ k).filterMap fun(m:Nat)=>xs[((i:Int)+(m:Int)*1).toNat]?).toArray=((xs.toList.drop i).take k).toArray:=by
 have e:(fun(m:Nat)=>xs[((i:Int)+(m:Int)*1).toNat]?)=fun m=>xs[i+m]? := by
  funext m
  have:((i:Int)+(m:Int)*1).toNat=i+m:=by omega
  rw[this]
 rw[e];have:=pick_run xs i k;rw[List.filterMap_map] at this;have e2:((fun x=>xs[x]?)∘fun x=>i+x)=fun m=>xs[i+m]? := rfl
 rw[e2] at this;rw[this]
theorem aeb{t sl:aX}{items:Array aD}{vl vu:aD}{lo hi:Option Int}{Q:aD->aH->Prop}(ht:xX s.heap t items)(hs:s.heap.IsSliceOf sl vl vu .none)(pl:rZ vl lo)(pu:rZ vu hi)
  (hw:¬(sIx items.size 0 lo=0/\sIx items.size items.size hi=items.size))
  (h:Q (.ref s.heap.objs.size) { s with heap:=s.heap.push { cls:=.type "tuple", data:=.seq ((items.toList.drop (sIx items.size 0 lo)).take (sIx items.size items.size hi - sIx items.size 0 lo)).toArray } })
  (hsz:items.size<=cN):bL (bU prog w) A (rJ (.ref t) (.ref sl)) Q E s:=by
 have htake:sizeOk (.seq ((items.toList.drop (sIx items.size 0 lo)).take (sIx items.size items.size hi - sIx items.size 0 lo)).toArray):=by
  show((items.toList.drop (sIx items.size 0 lo)).take (sIx items.size items.size hi - sIx items.size 0 lo)).toArray.size<=cN;rw[aU,gC,jN,bT];omega
 have hj:sIx items.size items.size hi<=items.size:=a3l _ _ (aN _) hi;obtain⟨os,hos,hcs,hds⟩:=id hs;have hTs:s.TypeIs (.ref sl) "slice" := ⟨os,hos,hcs⟩;unfold rJ
 try with_reducible refine eX ?_
 first | refine aA (aG ?_) | skip
 refine aA (wpAny_sequenceKey ht.typeIs (by decide) ?_)
 refine aA (eG (name:=jV "__getitem__") ht.typeIs fG
  (fD fG ht.typeIs entry_tuple_getitem ?_ (args_tuple_getitem _ _)))
 show bL _ _ (uB (.ref t) >>= _) _ _ s;refine aA (tupleItemsOf_ ht ?_);refine aA (wpAny_typeOf hTs ?_);rw[if_pos (by decide)]
 refine aA (aaq hs pl pu ?_);have hno:¬((((sIx items.size 0 lo:Nat):Int)==0&&(1:Int)==1&&(sIx items.size items.size hi - sIx items.size 0 lo)==items.size)=true):=by
  intro q;rw[bG,bG] at q;have q1:((sIx items.size 0 lo:Nat):Int)=0:=eq_of_beq q.1.1;have q2:sIx items.size items.size hi - sIx items.size 0 lo=items.size:=eq_of_beq q.2;exact hw ⟨by omega,by omega⟩
 show bL _ _ (if (((sIx items.size 0 lo:Nat):Int)==0&&(1:Int)==1&&(sIx items.size items.size hi - sIx items.size 0 lo)==items.size)=true then _ else _) _ _ s
 rw[if_neg hno,awh]
 first
  | exact aA (m:=jC _) (cJ (aG ⟨_,rfl,aG h⟩) htake)
  | exact aA (m:=jC _) (cJ (aA (aG (aG ⟨_,rfl,aG h⟩))) htake)
  | exact aA (aA (m:=jC _) (cJ (aG (aG ⟨_,rfl,aG h⟩)) htake))
  | exact aA (aA (m:=jC _) (cJ (aG ⟨_,rfl,aG h⟩) htake))
end
end HT
namespace L2
abbrev TO:=St->Hp->(Option Int->Hp->Prop)->Prop
def PO(X:Cx)(e:Option dX)(t:TO):Prop :=
 ∀(zv:List (aX×Obj)) (s:aH) (σ:St) (H:Hp) (Q:Option Int->Hp->Prop),Inv X zv σ H s->t σ H Q ->
  bL (bU X.prog X.w) X.A (evalPart e X.env) (fun u s'=>∃o H',Inv X zv σ H' s'/\rZ u o/\Q o H') X.xe s
def azw:TO:=fun _ H Q=>Q none H
def a77(t:TE):TO:=fun σ H Q=>t σ H fun x H1=>∃i,x=.int i/\Q (some i) H1
theorem intsAre_of{ns:List Int}:∀{us:List aD},Vals (ns.map V.int) us->pK us ns:=by
 induction ns with
 | nil=>intro us r;rw[rY] at r;cases r;exact .nil
 | cons n ns ih =>
  intro us r;rw[aW] at r;cases r with
  | cons r1 r2 =>
   obtain⟨t,e⟩:=r1;subst e;exact .cons n t (ih r2)
section
variable{X:Cx}{e:dX}{te:TE}{lo hi:Option dX}{tl th:TO}{pos p2:Pos}
theorem a0o:PO X none azw:=by
 intro zv s σ H Q I h;rw[evalPart_none];exact aG ⟨none,H,I,.none,h⟩
theorem a0n(h:PE X e te):PO X (some e) (a77 te):=by
 intro zv s σ H Q I hw;rw[evalPart_some];refine thn (h zv s σ H _ I hw) fun u s1 ⟨x,H1,I1,r1,q1⟩ =>?_
 obtain⟨i,rfl,q⟩:=q1;obtain⟨t,rfl⟩:=r1;exact⟨some i,H1,I1,.int i t,q⟩
def SlR(X:Cx)(r:V->Option Int->Option Int->Hp->VK->Prop):Prop :=
 ∀(zv:List (aX×Obj)) (s:aH) (σ:St) (H:Hp) (x:V) (v vl vu:aD) (lo hi:Option Int) (sl:aX) (Q:VK),Inv X zv σ H s->RelV x v->s.heap.IsSliceOf sl vl vu .none->rZ vl lo->rZ vu hi->r x lo hi H Q ->
  ∃T id,typeLookup (.type T) "__getitem__" = pure (some (.builtin id))/\s.TypeIs v T/\bL (bU X.prog X.w) X.A (rJ v (.ref sl)) (EP X zv σ Q) X.xe s
def tSl(r:V->Option Int->Option Int->Hp->VK->Prop)(te:TE)(tl th:TO):TE:=fun σ H Q=>te σ H fun x H1=>tl σ H1 fun l H2=>th σ H2 fun u H3=>r x l u H3 Q
theorem anx{r:V->Option Int->Option Int->Hp->VK->Prop}(hr:SlR X r)(he:PE X e te)(hl:PO X lo tl)(hu:PO X hi th):PE X (.Subscript e (.Slice lo hi none p2) pos) (tSl r te tl th):=by
 intro zv s σ H Q I h;refine Subscript_ (thn (he zv s σ H _ I h) fun v s1 ⟨x,H1,I1,r1,q1⟩ =>?_)
 refine wpAny_Slice (thn (hl zv s1 σ H1 _ I1 q1) fun vl s2 ⟨l,H2,I2,pl,q2⟩=>thn (hu zv s2 σ H2 _ I2 q2) fun vu s3 ⟨u,H3,I3,pu,q3⟩ =>?_)
 rw[evalPart_none];refine aG ?_;have I4:Inv X zv σ H3 { s3 with heap:=s3.heap.push { cls:=.type "slice", data:=.fields #[vl,vu,.none] } }:=I3.kept (t':=s3.toks) fun b ob q=>aB _ q
 obtain⟨T,id,hT,ht,hg⟩:=hr zv { s3 with heap:=s3.heap.push { cls:=.type "slice", data:=.fields #[vl,vu,.none] } } σ H3 x v vl vu l u s3.heap.objs.size Q I4 r1 (Heap.IsSliceOf.new ..) pl pu q3
 show bL (bU X.prog X.w) X.A (subscriptTail e (.Slice lo hi none p2) v (.ref s3.heap.objs.size)) (EP X zv σ Q) X.xe { s3 with heap:=s3.heap.push { cls:=.type "slice", data:=.fields #[vl,vu,.none] } }
 exact tail_any (ops:=[.ref s3.heap.objs.size,v]) ht hT hg (by with_unfolding_all rfl)
def cutV(xs:List V)(lo hi:Option Int):List V:=(xs.drop (HT.sIx xs.length 0 lo)).take (HT.sIx xs.length xs.length hi - HT.sIx xs.length 0 lo)
theorem agr(xs:List V)(lo hi:Option Int):(cutV xs lo hi).length<=xs.length:=by
 unfold cutV;rw[gC,jN];omega
def rSlT(K:Fg9):V->Option Int->Option Int->Hp->VK->Prop:=fun x lo hi H Q=>∃a xs,x=.ref a/\SqT K H a xs /\
 ¬(HT.sIx xs.length 0 lo=0/\HT.sIx xs.length xs.length hi=xs.length)/\∀p,H p=none->Q (.ref p) (upd H p (.tup (cutV xs lo hi)))
theorem a3j:SlR X (rSlT X.K):=by
 intro zv s σ H x v vl vu lo hi sl Q I rx hs pl pu h;obtain⟨a,xs,rfl,hx,hw,q⟩:=h;cases rx;obtain⟨its,r,ht,hz⟩:=I.tuple hx;have hlen:its.toArray.size=xs.length:=by rw[aU];exact r.length.symm
 refine⟨"tuple", _,fG.lookup,ht.typeIs,?_⟩;refine HT.aeb ht hs pl pu (by rw[hlen];exact hw) ?_ (by rw[hlen];exact hz)
 rw[hlen];refine⟨.ref s.heap.objs.size,_,I.laid (t':=s.toks) (o:=.tup (cutV xs lo hi)) (fun b ob q=>aB _ q) (aN _) ?_,rfl,q _ (I.hok.fresh (aN _))⟩
 exact⟨Nat.le_trans (agr xs lo hi) hz,_,(r.drop (HT.sIx xs.length 0 lo)).take (HT.sIx xs.length xs.length hi - HT.sIx xs.length 0 lo),IsTp.new _ _⟩
def a8j(K:Fg9):R2:=fun x y H Q=>∃a b xs ys,x=.ref a/\y=.ref b/\SqT K H a xs/\SqT K H b ys/\xs≠[]/\xs.length+ys.length<=cN /\
 (ys=[]->Q (.ref a) H)/\(ys≠[]->∀p,H p=none->Q (.ref p) (upd H p (.tup (xs++ys))))
theorem Vals.nil_iff{xs:List V}{us:List aD}(r:Vals xs us):us=[]↔xs=[]:=by
 cases r with
 | nil=>simp
 | cons _ _=>simp
theorem a00:OpR X (gF .Add) (a8j X.K):=by
 intro zv s σ H x y v u Q I rx ry h;obtain⟨a,b,xs,ys,rfl,rfl,ha,hb,hx,hz,q1,q2⟩:=h;cases rx;cases ry;obtain⟨its,r1,p1,_⟩:=I.tuple ha;obtain⟨its2,r2,p2,_⟩:=I.tuple hb;refine HT.a2m p1 p2 (fun z=>hx (r1.nil_iff.mp z)) (fun z=>⟨.ref a,H,I,rfl,q1 (r2.nil_iff.mp z)⟩) (fun z =>?_) (by rw[<-r1.length,<-r2.length];exact hz)
 refine⟨.ref s.heap.objs.size,_,I.laid (t':=s.toks) (o:=.tup (xs++ys)) (fun b ob q=>aB _ q) (aN _) ?_,rfl,q2 (fun w=>z (r2.nil_iff.mpr w)) _ (I.hok.fresh (aN _))⟩
 exact⟨by rw[bM];exact hz,_,r1.append r2,IsTp.new _ _⟩
end
def ixN(n:Nat)(i:Int):Option Nat:=if 0<=i then (if i < n then some i.toNat else none) else if -(n:Int)<=i then some (i+n).toNat else none
def atI{α:Type}(xs:List α)(i:Int):Option α:=(ixN xs.length i).bind fun j=>xs[j]?
theorem atu{n:Nat}{i:Int}{j:Nat}(h:ixN n i=some j):seqIndex? i n=some j/\j < n /\ -(n:Int)<=i/\i < n:=by
 unfold ixN at h
 by_cases h0:0<=i
 ·rw[if_pos h0] at h
  by_cases h1:i < n
  ·rw[if_pos h1] at h;have e:i.toNat=j:=cP h;exact⟨by rw[seqIndex_of h0 h1,e],by omega,by omega,h1⟩
  ·rw[if_neg h1] at h;cases h
 ·rw[if_neg h0] at h
  by_cases h1 : -(n:Int)<=i
  ·rw[if_pos h1] at h;have e:(i+n).toNat=j:=cP h;exact⟨by rw[seqIndex_neg (by omega) h1,e],by omega,h1,by omega⟩
  ·rw[if_neg h1] at h;cases h
theorem anh{α:Type}{xs:List α}{i:Int}{v:α}(h:atI xs i=some v):∃j,seqIndex? i xs.length=some j/\xs[j]? = some v/\j < xs.length /\ -(xs.length:Int)<=i/\i < xs.length:=by
 unfold atI at h;cases e:ixN xs.length i with
 | none=>rw[e] at h;cases h
 | some j =>
  rw[e] at h;obtain⟨h1,h2,h3,h4⟩:=atu e;exact⟨j,h1,h,h2,h3,h4⟩
theorem aje{α:Type}{xs:List α}{j:Nat}{v:α}(h:xs[j]? = some v):atI xs (j:Int)=some v:=by
 have hj:j < xs.length:=(aK.mp h).1;have e:ixN xs.length (j:Int)=some j:=by
  unfold ixN;rw[if_pos (by omega),if_pos (by omega)];simp
 unfold atI;rw[e];exact h
def ank(b:dX):Prop:=∀o i,subscripted b false o i=operate [o,i] (rJ o i)
def IxR(X:Cx)(r:R2):Prop :=
 ∀(value slice:dX) (zv:List (aX×Obj)) (s:aH) (σ:St) (H:Hp) (x y:V) (v u:aD) (Q:VK),Inv X zv σ H s->RelV x v->RelV y u->r x y H Q ->
  subscripted slice false v u=operate [v,u] (rJ v u)->bL (bU X.prog X.w) X.A (subscriptTail value slice v u) (EP X zv σ Q) X.xe s
def MtR(X:Cx)(id:String)(r:V->List V->Hp->VK->Prop):Prop :=
 ∀(zv:List (aX×Obj)) (s:aH) (σ:St) (H:Hp) (x:V) (xs:List V) (v:aD) (us:List aD) (Q:VK),Inv X zv σ H s->RelV x v->Vals xs us->r x xs H Q ->
  bL (bU X.prog X.w) X.A (call (.builtin id) (v::us)) (EP X zv σ Q) X.xe s
section
variable{X:Cx}{a b:dX}{ta tb:TE}{pos:Pos}
theorem a4g{r:R2}(hr:IxR X r)(ha:PE X a ta)(hb:PE X b tb)(hs:ank b):PE X (.Subscript a b pos) (tOp r ta tb):=by
 intro zv s σ H Q I h;exact Subscript_ (binT ha hb I h fun v u s2 x y H2 I2 rx ry q=>hr a b zv s2 σ H2 x y v u Q I2 rx ry q (hs _ _))
def rIxL(K:Fg9):R2:=fun x y H Q=>∃p xs i v,x=.ref p/\y=.int i/\SqL K H p xs/\atI xs i=some v/\Q v H
def rIxT(K:Fg9):R2:=fun x y H Q=>∃p xs i v,x=.ref p/\y=.int i/\SqT K H p xs/\atI xs i=some v/\Q v H
theorem a1i:IxR X (rIxL X.K):=by
 intro value slice zv s σ H x y v u Q I rx ry h hs;obtain⟨p,xs,i,z,rfl,rfl,hq,he,q⟩:=h;cases rx;obtain⟨t,rfl⟩:=ry;obtain⟨its,r,pl,hz⟩:=I.list hq;obtain⟨j,h1,h2,h3,h4,h5⟩:=anh he;obtain⟨w,ew,rw'⟩:=r.get h2;have hl:=r.length;have hn:=akm;have fin:EP X zv σ Q w s:=⟨z,H,I,rw',q⟩
 by_cases h0:0<=i
 ·have hj:i.toNat=j:=by
   rw[seqIndex_of h0 h5] at h1;exact cP h1
  exact item_listR pl.isList h0 (by omega) (by rw[hj];simpa using ew) fin hs
 ·have hj:(i+(its.toArray.size:Int)).toNat=j:=by
   rw[seqIndex_neg (by omega) h4] at h1
   rw[aU,<-hl];exact cP h1
  exact subscriptTail_builtinR (x:=w) pl.isList.typeIs slot_list_getitem.lookup
   (wpAny_getItem_list_neg (Q:=fun r s'=>r=w/\EP X zv σ Q r s') pl.isList (by omega) (by rw[aU] <;> omega) (by omega) (by rw[hj];simpa using ew) ⟨rfl,fin⟩) hs
theorem a5v:IxR X (rIxT X.K):=by
 intro value slice zv s σ H x y v u Q I rx ry h hs;obtain⟨p,xs,i,z,rfl,rfl,hq,he,q⟩:=h;cases rx;obtain⟨t,rfl⟩:=ry;obtain⟨its,r,pl,hz⟩:=I.tuple hq;obtain⟨j,h1,h2,h3,h4,h5⟩:=anh he;obtain⟨w,ew,rw'⟩:=r.get h2;have hl:=r.length;have hn:=akm;have fin:EP X zv σ Q w s:=⟨z,H,I,rw',q⟩;exact subscriptTail_builtinR (x:=w) pl.typeIs slot_tuple_getitem.lookup
  (getItem_tuple (j:=j) (Q:=fun r s'=>r=w/\EP X zv σ Q r s') pl (by omega) (by omega) (by rw[aU,<-hl];exact h1) (by simpa using ew) ⟨rfl,fin⟩) hs
theorem aqb(its:List aD)(n j:Nat)(u:aD):jQ (·.setIfInBounds j u) { cls:=.type "list", data:=.seq its.toArray n }={ cls:=.type "list", data:=.seq (its.set j u).toArray n }:=by
 simp[jQ]
theorem Inv.lst{zv:List (aX×Obj)}{σ:St}{H:Hp}{s:aH}{p:aX}{xs:List V}(I:Inv X zv σ H s)(h:H p=some (.lst xs)) :
  ∃(its:List aD) (n:Nat),Vals xs its/\s.heap.get? p=some { cls:=.type "list", data:=.seq its.toArray n }/\xs.length<=cN:=by
 obtain⟨z,its,n,r,e⟩:=I.hok p _ h;exact⟨its,n,r,e,z⟩
theorem Inv.lstUpd{zv:List (aX×Obj)}{σ:St}{H:Hp}{s:aH}{p:aX}{xs ys:List V}{its its':List aD}{n n':Nat}{f:Obj->Obj}(I:Inv X zv σ H s)(h:H p=some (.lst xs))
  (ho:s.heap.get? p=some { cls:=.type "list", data:=.seq its.toArray n }) (hf:f { cls:=.type "list", data:=.seq its.toArray n }={ cls:=.type "list", data:=.seq its'.toArray n' }) (r:Vals ys its') (hz:ys.length<=cN) (t:Nat) :
  Inv X zv σ (upd H p (.lst ys)) { s with heap:=s.heap.update p f,toks:=t }:=by
 have e:(s.heap.update p f).get? p=some { cls:=.type "list", data:=.seq its'.toArray n' }:=by
  rw[cH f ho (by rw[hf] <;> rfl),hf]
 refine I.write (x:=p) (e:=p) (by rw[h];trivial) (.inl rfl) (fun b u hb q=>(bK _ _ (gG hb)).trans q) ⟨_,e⟩ ?_
 exact⟨hz,its',n',r,e⟩
def a8h:V->V->V->Hp->(Hp->Prop)->Prop:=fun o i v H Q=>∃p xs k j,o=.ref p/\i=.int k/\H p=some (.lst xs)/\ixN xs.length k=some j/\Q (upd H p (.lst (xs.set j v)))
theorem set_list:PSet X a8h:=by
 intro zv s σ H o i v ov iv u Q I ro ri rv h;obtain⟨p,xs,k,j,rfl,rfl,hp,hj,q⟩:=h;cases ro;obtain⟨t,rfl⟩:=ri;obtain⟨its,n,r,ho,hz⟩:=I.lst hp;obtain⟨h1,h2,h3,h4⟩:=atu hj;have hl:=r.length;have hn:=akm;have I':Inv X zv σ (upd H p (.lst (xs.set j v))) { s with heap:=s.heap.update p (jQ (·.setIfInBounds j u)) } :=
  I.lstUpd hp ho (aqb its n j u) (r.set rv j) (by rw[cZ];exact hz) s.toks
 by_cases h0:0<=k
 ·have hk:k.toNat=j:=by
   rw[seqIndex_of h0 h4] at h1;exact cP h1
  exact PySem.W.ki_setAt ho h0 (by omega) (by rw[aU,<-hl];exact h4) (by rw[hk];exact⟨_,I',q⟩)
 ·have hk:(k+(its.toArray.size:Int)).toNat=j:=by
   rw[seqIndex_neg (by omega) h3] at h1
   rw[aU,<-hl];exact cP h1
  exact PySem.W.ki_setBack ho (by omega) (by rw[aU,<-hl];exact h3) (by omega) (by rw[hk];exact⟨_,I',q⟩)
theorem ajo(lo hi:Option Int)(n:Nat):(sliceBounds lo hi none n).1=((HT.sIx n 0 lo:Nat):Int)/\(sliceBounds lo hi none n).2.1=((HT.sIx n n hi:Nat):Int)/\(sliceBounds lo hi none n).2.2=1:=by
 refine⟨?_,?_,rfl⟩
 ·cases lo with
  | none=>simp[sliceBounds,HT.sIx]
  | some i =>
   simp only[sliceBounds,HT.sIx,sI,show(1:Int) > 0 by decide,if_true]
   by_cases h:i < 0
   ·simp only[h,if_true] <;> omega
   ·simp only[h,if_false] <;> omega
 ·cases hi with
  | none=>simp[sliceBounds,HT.sIx]
  | some i =>
   simp only[sliceBounds,HT.sIx,sI,show(1:Int) > 0 by decide,if_true]
   by_cases h:i < 0
   ·simp only[h,if_true] <;> omega
   ·simp only[h,if_false] <;> omega
theorem ah6(its:List aD)(lo hi:Option Int):slicePick its.toArray lo hi none=((its.drop (HT.sIx its.length 0 lo)).take (HT.sIx its.length its.length hi - HT.sIx its.length 0 lo)).toArray:=by
 obtain⟨h1,h2,h3⟩:=ajo lo hi its.toArray.size;unfold slicePick;rw[h1,h2,h3];simp only[sliceRange_one,pick_run,aU] <;> rfl
def rSlL(K:Fg9):V->Option Int->Option Int->Hp->VK->Prop:=fun x lo hi H Q=>∃a xs,x=.ref a/\SqL K H a xs/\∀p,H p=none->Q (.ref p) (upd H p (.lst (cutV xs lo hi)))
theorem ar6:SlR X (rSlL X.K):=by
 intro zv s σ H x v vl vu lo hi sl Q I rx hs pl pu h;obtain⟨a,xs,rfl,hx,q⟩:=h;cases rx;obtain⟨its,r,ht,hz⟩:=I.list hx;have hlen:=r.length;refine⟨"list", _,slot_list_getitem.lookup,ht.isList.typeIs,?_⟩;refine wpAny_getItem_list_slice ht.isList hs pl pu .none (by simp) ?_ (by rw[aU] <;> omega)
 rw[ah6,<-hlen];refine⟨.ref s.heap.objs.size,_,I.laid (t':=s.toks) (o:=.lst (cutV xs lo hi)) (fun b ob q=>aB _ q) (aN _) ?_,rfl,q _ (I.hok.fresh (aN _))⟩
 exact⟨Nat.le_trans (agr xs lo hi) hz,_,0,(r.drop (HT.sIx xs.length 0 lo)).take (HT.sIx xs.length xs.length hi - HT.sIx xs.length 0 lo),aO _ rfl⟩
theorem ali:abn X (.builtin "len") (fun xs H Q=>∃p ys,xs=[.ref p]/\(SqL X.K H p ys∨SqT X.K H p ys)/\Q (.int ys.length) H):=by
 intro zv s σ H xs us Q I r h;obtain⟨p,ys,rfl,hq,q⟩:=h;obtain⟨u,rfl,rx⟩:=vals1 r;cases rx;have hn:=akm;rcases hq with hq | hq
 ·obtain⟨its,r',pl,hz⟩:=I.list hq;have hlen:=r'.length;exact Calls.call_len_list pl.isList (by simp only[aU] <;> omega) ⟨.int ys.length,H,I.tok _,⟨s.toks+1,by rw[aU,hlen]⟩,q⟩
 ·obtain⟨its,r',pl,hz⟩:=I.tuple hq;have hlen:=r'.length;exact len_tuple pl (by simp only[aU] <;> omega) ⟨.int ys.length,H,I.tok _,⟨s.toks+1,by rw[aU,hlen]⟩,q⟩
theorem alh:abn X (.type "list") (fun xs H Q=>∃p ys,xs=[.ref p]/\(SqL X.K H p ys∨SqT X.K H p ys)/\∀l,H l=none->Q (.ref l) (upd H l (.lst ys))):=by
 intro zv s σ H xs us Q I r h;obtain⟨p,ys,rfl,hq,q⟩:=h;obtain⟨u,rfl,rx⟩:=vals1 r;cases rx;have fin:∀(its:List aD),Vals ys its->ys.length<=cN->∀(h':fK) (c':Nat),(∀b o',s.heap.get? b=some o'->h'.get? b=some o') ->
   h'.get? s.heap.objs.size=some { cls:=.type "list", dict:=none,data:=.seq its.toArray c',slots := #[] }->EP X zv σ Q (.ref s.heap.objs.size) { s with heap:=h' }:=fun its r' hz h' c' kp e =>
  ⟨.ref s.heap.objs.size,_,I.laid (t':=s.toks) kp (aN _) (show uv X.prog X.w _ h' _ (.lst ys) from⟨hz,its,c',r',e⟩),rfl,q _ (I.hok.fresh (aN _))⟩
 rcases hq with hq | hq
 ·obtain⟨its,r',pl,hz⟩:=I.list hq;have hlen:=r'.length;obtain⟨o,ho,hc,n,hd⟩:=pl.isList;exact call_list_seq p (.inl rfl) ho hc hd (fun h' c' kp e=>fin its r' hz h' c' kp e) (by simp only[aU] <;> omega)
 ·obtain⟨its,r',pl,hz⟩:=I.tuple hq;have hlen:=r'.length;obtain⟨o,ho,hc,n,hd⟩:=pl;exact call_list_seq p (.inr rfl) ho hc hd (fun h' c' kp e=>fin its r' hz h' c' kp e) (by simp only[aU] <;> omega)
theorem aao:abn X (.type "tuple") (fun xs H Q=>∃p ys,xs=[.ref p]/\((SqL X.K H p ys/\∀l,H l=none->Q (.ref l) (upd H l (.tup ys)))∨(SqT X.K H p ys/\Q (.ref p) H))):=by
 intro zv s σ H xs us Q I r h;obtain⟨p,ys,rfl,h⟩:=h;obtain⟨u,rfl,rx⟩:=vals1 r;cases rx;rcases h with⟨hq,q⟩ | ⟨hq,q⟩
 ·obtain⟨its,r',pl,hz⟩:=I.list hq;have hlen:=r'.length;refine call_tuple_list pl.isList (fun h' kp =>?_) (by simp only[aU] <;> omega)
  have I1:Inv X zv σ H { s with heap:=h' }:=I.kept (t':=s.toks) kp
  have I2:Inv X zv σ (upd H h'.objs.size (.tup ys)) { s with heap:=h'.push { cls:=.type "tuple", data:=.seq its.toArray } } :=
   I1.laid (t':=s.toks) (fun b o e=>aB _ e) (aN _) (show uv X.prog X.w _ _ _ (.tup ys) from⟨hz,its,r',IsTp.new _ _⟩)
  exact⟨.ref h'.objs.size,_,I2,rfl,q _ (I1.hok.fresh (aN _))⟩
 ·obtain⟨its,r',pl,hz⟩:=I.tuple hq;exact call_tuple_same pl ⟨.ref p,H,I,rfl,q⟩
def tyV(K:Fg9)(T:String)(x:V)(H:Hp):Prop:=match x with
 | .str _=>T = "str"
 | .int _=>T = "int"
 | .ref p=>(T = "list" /\ ∃xs,SqL K H p xs)∨(T = "tuple" /\ ((∃o,K.lookup p=some o/\o.cls=.type "tuple" /\ o.dict=none)∨∃xs,H p=some (.tup xs))) ∨
   (T = "dict" /\ ((∃kvs,H p=some (.dK kvs))∨∃kvs,H p=some (.dT kvs)))∨(T = "set" /\ ∃S n,H p=some (.set S n))
 | _=>False
theorem a3c{zv:List (aX×Obj)}{σ:St}{H:Hp}{s:aH}{T:String}{x:V}{v:aD}(I:Inv X zv σ H s)(r:RelV x v)(ty:tyV X.K T x H) :
  s.TypeIs v T/\∀a,v=.ref a->∃ob,s.heap.get? a=some ob/\ob.dict=none:=by
 cases x with
 | str z =>
  obtain⟨t,rfl⟩:=r;cases(show T = "str" from ty)
  exact⟨typeIs_str s z t,fun _ e=>nomatch e⟩
 | int i =>
  obtain⟨t,rfl⟩:=r;cases(show T = "int" from ty)
  exact⟨typeIs_int s i t,fun _ e=>nomatch e⟩
 | ref p =>
  cases r;rcases ty with⟨rfl,xs,hq⟩ | ⟨rfl,⟨o,hk,hc,hd⟩ | ⟨xs,hk⟩⟩ | ⟨rfl,hk⟩ | ⟨rfl,S,n,hk⟩
  ·obtain⟨its,_,pl,_⟩:=I.list hq;refine⟨pl.isList.typeIs,fun a e =>?_⟩
   cases e;obtain⟨o,n,e,c,hd,_⟩:=pl;exact⟨o,e,hd⟩
  ·refine⟨⟨o,I.kIn p o hk,hc⟩,fun a e =>?_⟩
   cases e;exact⟨o,I.kIn _ o hk,hd⟩
  ·obtain⟨_,_,_,o,e,hc,hd,_⟩:=I.hok p _ hk;refine⟨⟨o,e,hc⟩,fun a e2 =>?_⟩
   cases e2;exact⟨o,e,hd⟩
  ·have z:∃o,s.heap.get? p=some o/\o.ExactDict:=by
    rcases hk with⟨kvs,hk⟩ | ⟨kvs,hk⟩
    ·obtain⟨_,_,_,_,o,_,_,e,ex,_⟩:=I.hok p _ hk;exact⟨o,e,ex⟩
    ·obtain⟨_,_,_,_,o,_,_,e,ex,_⟩:=I.hok p _ hk;exact⟨o,e,ex⟩
   obtain⟨o,e,ex⟩:=z;refine⟨⟨o,e,ex.1⟩,fun a e2 =>?_⟩
   cases e2;exact⟨o,e,ex.2.1⟩
  ·obtain⟨o,_,_,_,e,ex,_⟩:=I.hok p _ hk;refine⟨⟨o,e,ex.1⟩,fun a e2 =>?_⟩
   cases e2;exact⟨o,e,ex.2.1⟩
 | _=>exact fU ty
def tBM(K:Fg9)(T:String)(r:V->List V->Hp->VK->Prop)(to:TE)(t:TA):TE:=fun σ H Q=>to σ H fun x H1=>tyV K T x H1/\t σ H1 fun xs H2=>r x xs H2 Q
variable{o e:dX}{es:List dX}{to:TE}{t:TA}{name:Str}{apos cpos:Pos}{T id:String}{r:V->List V->Hp->VK->Prop}
theorem awo(pa:PlainAttrs T)(slot:Slot T name id)(hty:typeOf (.builtin id)=pure (.type "method_descriptor"))(hm:MtR X id r)(ho:PE X o to)(ha:PA X (e::es) t)
  (hbase:attributeBase o name X.env (eval o X.env)=eval o X.env:=by rfl)
  (hfew:((jD cpos (aQ (e::es) X.env)).all (fun x => !x.1)&&(backToKw cpos (keywordEach [] X.env)).all (fun x=>x.1.isSome)
   && decide ((e::es).length+([]:List rB).length+(if ([]:List rB).isEmpty then 0 else 1) < 30))=true:=by rfl)
  (hline:(apos.endLine==cpos.line)=true:=by rfl) (hs:aQ (e::es) X.env=(false,eval e X.env)::aQ es X.env:=by rfl) (hplain:(jD cpos (aQ es X.env)).any (·.1)=false:=by rfl) :
  PE X (.Call (.Attribute o name apos) (e::es) [] cpos) (tBM X.K T r to t):=by
 intro zv s σ H Q I h;refine wpAny_Call_method_late hbase hfew hline rfl (thn (ho zv s σ H _ I h) fun v s1 ⟨x,H1,I1,r1,ty,q1⟩ =>?_)
 obtain⟨h1,h2⟩:=a3c I1 r1 ty;refine⟨T,id,pa,slot,hty,h1,h2,?_⟩;have hA:=ha cpos zv s1 σ H1 _ I1 q1;rw[hs] at hA ⊢
 refine Calls.callWith_builtin (by show(false||(jD cpos (aQ es X.env)).any (·.1))=false;rw[hplain] <;> rfl) (qR ?_)
 exact thn hA fun us s2 ⟨vs,H2,I2,r2,q2⟩=>hm zv s2 σ H2 x vs v us Q I2 r1 r2 q2
end
def MtM(X:Cx)(id:String)(r:V->List V->Hp->VK->Prop):Prop :=
 ∀(zv:List (aX×Obj)) (s:aH) (σ:St) (H:Hp) (x:V) (xs:List V) (v:aD) (us:List aD) (Q:VK),Inv X zv σ H s->RelV x v->Vals xs us->r x xs H Q ->
  bL (bU X.prog X.w) X.A (call (.builtin id) (v::us)) (EP X zv σ Q) X.xe s
theorem Vals.one:∀{x:V} {us:List aD},Vals [x] us->∃u,us=[u]/\RelV x u
 | _,_,.cons r .nil=>⟨_,rfl,r⟩
theorem Vals.rep{xs:List V}{us:List aD}(h:Vals xs us):∀k:Nat,Vals (aV k xs).flatten (aV k us).flatten
 | 0=>.nil
 | k+1=>by
  rw[fZ,fZ,jA,jA];exact Vals.append h (Vals.rep h k)
theorem foldl_rep(its:List aD):∀(k:Nat) (acc:List aD),
  nQ (fun x1 x2=>x1++x2) acc.toArray (aV k its.toArray)=(acc++(aV k its).flatten).toArray
 | 0,acc=>by simp
 | k+1,acc=>by
  have e:acc.toArray++its.toArray=(acc++its).toArray:=by simp
  have e2:(acc++its)++(aV k its).flatten=acc++(aV (k+1) its).flatten:=by
   rw[fZ,jA,cB]
  rw[<-e2,<-foldl_rep its k (acc++its),<-e,fZ,mF]
section
variable{X:Cx}{zv:List (aX×Obj)}{σ:St}{H:Hp}{s:aH}{l b:aX}{xs ys zs:List V}
theorem Inv.lset{its its':List aD}{n:Nat}{f:Array aD->Array aD}{t':Nat}(I:Inv X zv σ H s)(hH:H l=some (.lst xs))
  (e:s.heap.get? l=some { cls:=.type "list", data:=.seq its.toArray n }) (hf:f its.toArray=its'.toArray) (hv:Vals ys its') (hz:ys.length<=cN) :
  Inv X zv σ (upd H l (.lst ys)) { s with heap:=s.heap.update l (jQ f),toks:=t' }:=by
 have q:=PySem.IsL.update e f;rw[hf] at q;refine I.write (x:=l) (e:=l) (by rw[hH];exact trivial) (.inl rfl) (fun b' u hb hu=>(bK s.heap (jQ f) (gG hb)).trans hu) ⟨_,q⟩ ?_
 exact⟨hz,its',_,hv,q⟩
theorem Inv.lnew{its:List aD}{t':Nat}(I:Inv X zv σ H s)(hv:Vals ys its)(hz:ys.length<=cN) :
  Inv X zv σ (upd H s.heap.objs.size (.lst ys)) { s with heap:=s.heap.push { cls:=.type "list", data:=.seq its.toArray },toks:=t' } :=
 I.laid (fun _ _ q=>aB _ q) (aN _) ⟨hz,its,0,hv,aO _ rfl⟩
theorem Inv.fresh(I:Inv X zv σ H s):H s.heap.objs.size=none:=I.hok.fresh (aN _)
theorem Inv.lstM(I:Inv X zv σ H s)(hH:H l=some (.lst xs)):xs.length<=cN/\∃(its:List aD) (n:Nat),Vals xs its/\xs.length=its.length/\s.heap.get? l=some { cls:=.type "list", data:=.seq its.toArray n }:=by
 obtain⟨z,its,n,r,e⟩:=I.hok l _ hH;exact⟨z,its,n,r,r.length,e⟩
theorem aiq{n:Nat}(h:n<=cN):lV n=false:=by
 unfold lV;exact decide_eq_false (by omega)
end
section
variable{X:Cx}
def asn:V->List V->Hp->VK->Prop:=fun x vs H Q=>∃l xs y,x=.ref l/\vs=[y]/\H l=some (.lst xs)/\xs.length < cN/\Q .non (upd H l (.lst (xs++[y])))
theorem zj:MtM X "list.append" asn:=by
 intro zv s σ H x vs v us Q I rx rv h;obtain⟨l,xs,y,rfl,rfl,hH,hz,q⟩:=h;cases rx;obtain⟨u,rfl,ru⟩:=rv.one;obtain⟨z,its,n,r,hl,e⟩:=I.lstM hH;refine jO F.slot_list_append ⟨_,e,rfl⟩ F.entry_list_append (F.args_list_append_2 _ _) (PySem.list_append l its.toArray n u (by rw[aU];omega)) ⟨e,?_⟩
 refine⟨.non,_,I.lset (its':=its++[u]) hH e (by simp) (r.append (.cons ru .nil)) ?_,rfl,q⟩
 rw[bM,List.length_singleton];omega
def amc:V->List V->Hp->VK->Prop:=fun x vs H Q=>∃l b xs zs,x=.ref l/\vs=[.ref b]/\H l=some (.lst xs)/\H b=some (.lst zs)/\xs.length+zs.length<=cN/\Q .non (upd H l (.lst (xs++zs)))
theorem atf:MtM X "list.extend" amc:=by
 intro zv s σ H x vs v us Q I rx rv h;obtain⟨l,b,xs,zs,rfl,rfl,hH,hB,hz,q⟩:=h;cases rx;obtain⟨u,rfl,ru⟩:=rv.one;cases ru;obtain⟨z,its,n,r,hl,e⟩:=I.lstM hH;obtain⟨z2,its2,n2,r2,hl2,e2⟩:=I.lstM hB;have hsz:its.toArray.size+its2.toArray.size<=cN:=by rw[aU,aU];omega
 have hlong:¬(!its.toArray.isEmpty&&lV (its.toArray.size+its2.toArray.size))=true:=by
  rw[aiq hsz,qW];exact cX
 refine jO wX ⟨_,e,rfl⟩ wF (vM _ _)
  (AutoSeq1.list_extend_list_list_0 l its.toArray n b its2.toArray n2 hlong (by rw[aU];omega) (by omega)) ⟨e,e2,?_⟩
 refine⟨.non,_,I.lset (its':=its++its2) hH e (by simp) (r.append r2) ?_,rfl,q⟩
 rw[bM];omega
def rCat:R2:=fun x y H Q=>∃l b xs zs,x=.ref l/\y=.ref b/\H l=some (.lst xs)/\H b=some (.lst zs)/\xs.length+zs.length<=cN/\∀p,H p=none->Q (.ref p) (upd H p (.lst (xs++zs)))
theorem a4s:OpR X (gF .Add) rCat:=by
 intro zv s σ H x y v u Q I rx ry h;obtain⟨l,b,xs,zs,rfl,rfl,hH,hB,hz,q⟩:=h;cases rx;cases ry;obtain⟨z,its,n,r,hl,e⟩:=I.lstM hH;obtain⟨z2,its2,n2,r2,hl2,e2⟩:=I.lstM hB;refine PySem.P.add_list e e2 ?_ (by rw[aU,aU];omega)
 have ea:its.toArray++its2.toArray=(its++its2).toArray:=by simp
 rw[ea];exact⟨.ref _,_,I.lnew (t':=s.toks) (r.append r2) (by rw[bM];omega),rfl,q _ I.fresh⟩
def rRep:R2:=fun x y H Q=>∃l k xs,x=.ref l/\y=.int k/\H l=some (.lst xs) /\ -(2 ^ 63)<=k/\k < 2 ^ 63/\xs.length*k.toNat<=cN /\
 ∀p,H p=none->Q (.ref p) (upd H p (.lst (aV k.toNat xs).flatten))
theorem len_rep{α:Type}(xs:List α)(k:Nat):(aV k xs).flatten.length=k*xs.length:=by
 induction k with
 | zero=>simp
 | succ k ih=>rw[fZ,jA,bM,ih,Nat.succ_mul,Nat.add_comm]
theorem a4o:OpR X (gF .Mult) rRep:=by
 intro zv s σ H x y v u Q I rx ry h;obtain⟨l,k,xs,rfl,rfl,hH,h1,h2,hz,q⟩:=h;cases rx;obtain⟨t,rfl⟩:=ry;obtain⟨z,its,n,r,hl,e⟩:=I.lstM hH;have hlen:its.toArray.size*k.toNat<=cN:=by rw[aU,<-hl];exact hz
 have hcap:¬its.toArray.size*k.toNat > (2 ^ 63 - 1) / 8:=by
  have:(cN:Nat)<=(2 ^ 63 - 1) / 8:=by decide
  omega
 have hfit:¬(!Builtin.List.listFitsIndex k)=true:=by
  rw[fitsIndex_both h1 h2];exact cX
 have hlong:¬Builtin.List.listTooLong (its.toArray.size*k.toNat)=true:=by
  rw[aiq hlen];exact cX
 have hnew:nQ (fun x1 x2=>x1++x2) #[] (aV (if its.toArray.isEmpty=true then 0 else k.toNat) its.toArray)=(aV k.toNat its).flatten.toArray:=by
  have f0:∀m:Nat,nQ (fun x1 x2=>x1++x2) #[] (aV m its.toArray)=(aV m its).flatten.toArray:=fun m=>by
   have:=foldl_rep its m [];rw[aZ] at this;exact this
  rw[f0];cases its with
  | nil=>simp
  | cons a r'=>rw[if_neg (by simp)]
 refine wpAny_binaryOp_repeat_ref (T := "list") (U := "int") (by decide) ⟨_,e,rfl⟩ (fun s'=>typeIs_int s' k t) noFill_list_mul tR mJ repeat_list sX.lookup
  (jO mJ (typeIs_int s k t) sY (rR _ _) (int___rmul___int_list k t l its.toArray n)
   ⟨e,rfl,⟨_,e,rfl⟩,jO F.slot_list_mul ⟨_,e,rfl⟩ F.entry_list_mul (F.args_list_mul_2 _ _) (AutoListH.list___mul___list_int_3 l its.toArray n k t hfit hcap hlong) ⟨e,?_⟩⟩)
 rw[hnew];exact⟨.ref _,_,I.lnew (t':=s.toks) (r.rep k.toNat) (by rw[len_rep,lO];exact hz),rfl,q _ I.fresh⟩
end
section
variable{prog:cA}{w:dJ}{A:cW}{E:aD->aH->Prop}{s:aH}
end
section
variable{X:Cx}
end
end L2
namespace Att
open PySem PySem.W PySem.Calls PyProof.Rows
theorem af8{P:Params}{h:fK}:∀(ns:List Int) (vs:List aD),WellAll P h vs (ns.map WData.int)->pK vs ns:=by
 intro ns
 induction ns with
 | nil =>
  intro vs w;rw[rY] at w;cases w;exact .nil
 | cons n ns ih =>
  intro vs w;rw[aW] at w;cases w with
  | cons a b =>
   cases a;exact .cons _ _ (ih _ b)
theorem ash{l:OpenLaw}{n:Nat}(hn:l.most=some n){P:Params}{h:fK}{args:List WData}{vals:List aD}
  (hpre:l.row.toRowW.claim.pre args=true) (hwl:WellAll P h vals args) :
  ∃a vs ns,vals=[dF a]/\args=[WData.list (ns.map WData.int)]/\h.get? a=some { cls:=.type "list", data:=.seq vs.toArray }/\pK vs ns/\ns.length<=n:=by
 have hsh:WShape.hasAll [] args [.list .int]=true:=(pre_splitW hpre).1;have hc:l.pre.holds [] { args:=args }=true:=(pre_splitW hpre).2;obtain⟨d,r,rfl,h1,h2⟩:=hasAllW_cons hsh;obtain rfl:=hasAllW_nil h2;obtain⟨xs,rfl,h3⟩:=hasW_list h1;obtain⟨ns,rfl⟩:=items_int h3;have hlen:ns.length<=n:=by
  unfold OpenLaw.pre at hc;have h4:(WTm.not (.lt (.lit (.int (n:Int))) (.len (.arg 0)))).holds [] { args:=[.list (ns.map .int)] }=true:=by
   have h4:=(holds_andW hc).1;rw[hn] at h4;exact h4
  have h5:=condW_of h4 (w_not (w_lt w_lit (w_len_list (w_arg rfl))));rw[aM] at h5;refine Nat.le_of_not_lt fun q =>?_
  have q':(n:Int) < ((ns.length:Nat):Int):=by omega
  first
   | (rw[decide_eq_true q'] at h5;exact absurd h5 (by decide))
   | (simp at h5;omega)
 cases hwl with
 | cons w1 w2 =>
  cases w2;cases w1 with
  | list ho hall=>exact⟨_,_,ns,rfl,rfl,ho,af8 ns _ hall,hlen⟩
theorem asp(l:OpenLaw)(args:List WData):l.row.toRowW.claim.post args (.bool true) args=true :=
 postW_of (r:=l.row.toRowW) (X:=(true==true))
  (show WShape.has [] (.bool true) .bool=true by first | rfl | decide | simp[WShape.has,WShape.arms,WShape.armsAll])
  (show(WTm.eq .res (.lit (.bool true))).value [] { args:=args,res:=some (.bool true),after:=args }=some (.bool (true==true)) from w_eq_bool (w_res rfl) w_lit) rfl
theorem ang{l:OpenLaw}{n:Nat}{q:cA}{loose:List Str}{XP:(Str->Option aD)->fK->Prop}{YP:dJ->fK->Prop}{d:DefRec}
  (hn:l.most=some n) (hdf:d.params.defaults=[])
  (call:∀(w:dJ) (s₀ s₁:aH) (mg mb:Str->Option aD) (fa:aX) (o:Obj) (pm cd doc:aD) (a:aX) (vs:List aD) (ns:List Int),
   Ground q loose [] XP w s₀ mg mb s₁.heap->YP w s₁.heap ->
   s₁.heap.get? fa=some o->o.data=.func (docDef d.name d.params d.body d.scope pm cd doc)->s₁.heap.CodeRec cd d.name->mg d.name=some (.ref fa) ->
   s₁.heap.get? a=some { cls:=.type "list", data:=.seq vs.toArray }->pK vs ns->ns.length<=n->s₁.gens = #[] ->
   pB (bU l.prog w) rK (.call (.ref fa) ⟨[.ref a],[]⟩) (fun r s'=>r=.ok (.ret (.bool true))/\OldK s₁.heap s'.heap/\s'.os=s₁.os/\qN s'.gens) s₁) :
  WalkO q loose XP YP l.row.toRowW d [] (fun f vs=>xK f vs):=by
 intro w s₀ s₁ mg mb G Y fa o pm cd doc dV kV ho hd hcd hD hmg hg args vals as hpre hlay hrd hwl hlo;obtain rfl:dV=.none:=Dflts.none hD hdf;obtain rfl:kV=.none:=Dflts.noKw hD;obtain⟨a,vs,ns,rfl,rfl,hobj,hints,hlen⟩:=ash hn hpre hwl;refine enter_call (jU (call w s₀ s₁ mg mb fa o pm cd doc a vs ns G Y ho (fd_plain hd) hcd hmg hobj hints hlen hg) fun r s' hq =>?_)
 obtain⟨rfl,h2,h3,h4⟩:=hq;exact⟨.inl ⟨.bool true,.bool true,[],rfl,fun _=>rfl,.bool true,asp l _,fun _=>⟨List.Pairwise.nil,fun _ hm=>(nomatch hm)⟩⟩,h2,h3,h4⟩
section
variable{prog:cA}{w:dJ}{A:cW}{E:aD->aH->Prop}{s:aH}{K:Frag}
end
end Att
namespace L2
theorem ajj:∀{vs:List aD} {ns:List Int},pK vs ns->Vals (ns.map V.int) vs
 | _,_,.nil=>.nil
 | _,_,.cons n t h=>.cons ⟨t,rfl⟩ (ajj h)
def Only(H:Hp):Prop:=∀b,H b=none∨∃o xs,H b=some (.frz o (.lst xs))
theorem axd{P:cA}{w:dJ}{K:Fg9}{mg mb:Str->Option aD}{CX:CXT}{k:Nat}{fa a:aX}{fd:fJ}{x:Str}{sp:Sp}{s₁:aH}{vs:List aD}{ns:List Int}
  (KX:K.In s₁.heap) (hns:s₁.heap.Ns bA mg) (hb:s₁.heap.Ns builtinsNs mb) (hbb:∀x:Str,x ≠ "__name__" -> mb x=cD x) (hlim:s₁.heap.NoLimit) (hg:s₁.gens = #[])
  (ha:s₁.heap.get? a=some { cls:=.type "list", data:=.seq vs.toArray }) (hi:pK vs ns) (hl:ns.length<=cN) (hr:Room k rK)
  (F:∀base:fK,K.In base->base.Ns bA mg->FnOk P w K mg base CX k fa fd [x] sp) (hbind:∀(s:aH) (u:aD),nH s fd ⟨[u],[]⟩ [(x,u)])
  (hsp:∀H:Hp,Only H->SqL K H a (ns.map V.int)->sp [.ref a] H (fun v _=>v=.bl true) fun _ _ _=>False)
  (hCX:∀H e s',CX [] H s₁ (fun _ _ _=>False) e s'->False) :
  pB (bU P w) rK (.call (.ref fa) ⟨[.ref a],[]⟩) (fun r s'=>r=.ok (.ret (.bool true))/\OldK s₁.heap s'.heap/\s'.os=s₁.os/\qN s'.gens) s₁:=by
 have rv:=ajj hi;have lenV:=hi.length;have core:∀H:Hp,Only H->SqL K H a (ns.map V.int)->HOk P w H s₁.heap->(∀b,H b≠none->b=a)->(H a≠none->K.lookup a=none) ->
   pB (bU P w) rK (.call (.ref fa) ⟨[.ref a],[]⟩) (fun r s'=>r=.ok (.ret (.bool true))/\OldK s₁.heap s'.heap/\s'.os=s₁.os/\qN s'.gens) s₁:=by
  intro H hO hS hok hA hK;have base_of:∀{b:aX} {o:Obj},s₁.heap.get? b=some o->H b=none->(hidT s₁.heap H).get? b=some o:=fun e n=>axl e n
  have noA:∀{b:aX} {o:Obj} {es:Array DictEntry} {ep:Nat},s₁.heap.get? b=some o->o.data=.dict es ep->H b=none:=fun{b o es ep} e d=>by
   cases q:H b with
   | none=>rfl
   | some u =>
    have e':b=a:=hA b (by rw[q];simp)
    subst e';rw[ha] at e;cases e;have d':Data.seq vs.toArray _=Data.dict es ep:=d;cases d'
  have nsK:∀{b:aX} {m:Str->Option aD},s₁.heap.Ns b m->(hidT s₁.heap H).Ns b m:=fun{b m} ⟨o,es,ep,e,d,r⟩=>⟨o,es,ep,base_of e (noA e d),d,r⟩
  have hKb:K.In (hidT s₁.heap H):=fun b o e=>base_of (KX b o e) (by
   cases q:H b with
   | none=>rfl
   | some u =>
    have e':b=a:=hA b (by rw[q];simp)
    subst e';rw[hK (by rw[q];simp)] at e;cases e)
  have hM:Mod K mg (hidT s₁.heap H):=⟨hKb,nsK hns,⟨mb,nsK hb,hbb⟩,let ⟨mc,h1,h2⟩:=hlim;⟨mc,nsK h1,h2⟩⟩
  have e0:Env0 P w K mg (hidT s₁.heap H) rK [] s₁ H:=⟨rfl,hM,fun b o e=>a03 e,vI (at8 _ _),trivial,fun b hb=>absurd (show b∈([]:List aX) from hb) (by simp),hok,.of_eq hg⟩
  refine jU ((F _ hKb (nsK hns)).run rK [] s₁ H ⟨[.ref a],[]⟩ [.ref a] [.ref a] _ _ hr e0 (hbind s₁ (.ref a)) (.cons rfl .nil) (hsp H hO hS)) fun r s' h =>?_
  cases r with
  | error e=>exact(hCX H e s' h).elim
  | ok fl =>
   cases fl with
   | next=>exact fU h
   | brk=>exact fU h
   | cont=>exact fU h
   | ret u =>
    obtain⟨v,H',os,bare,un,hok',r',q⟩:=h;have q':v=.bl true:=q;subst q';obtain rfl:u=rM true:=r';refine⟨rfl,OldK.of_keep fun b o e =>?_,os,bare⟩
    cases q:H b with
    | none=>exact un.keep b o e q (by intro z;exact absurd (show b∈([]:List aX) from z) (by simp)) (by simp)
    | some u =>
     rcases hO b with z | ⟨ob,xs,z⟩
     ·rw[q] at z;cases z
     ·have z2:=un.frzs b ob _ z;obtain⟨e1,_⟩:=hok b _ z;obtain⟨e2,_⟩:=hok' b _ z2;rw[e] at e1;cases e1;exact e2
 cases hk:K.lookup a with
 | some o =>
  have e:=KX a o hk;rw[ha] at e;cases e;refine core (fun _=>none) (fun _=>.inl rfl) (.inr ⟨_,vs.toArray,_,hk,rfl,rfl,rfl,by rw[aU,lenV];exact hl,by simpa using rv⟩) (fun b u z=>by have z':(none:Option HO)=some u:=z;cases z') (fun b z=>absurd rfl z) fun z=>absurd rfl z
 | none =>
  refine core (fun b=>if b=a then some (.frz { cls:=.type "list", data:=.seq vs.toArray } (.lst (ns.map V.int))) else none) (fun b =>?_) (.inl (.inr ⟨{ cls:=.type "list", data:=.seq vs.toArray },if_pos rfl⟩)) (fun b u z =>?_) (fun b z =>?_) fun _=>hk
  ·by_cases hb:b=a
   ·exact .inr ⟨_,_,if_pos hb⟩
   ·exact .inl (if_neg hb)
  ·by_cases hb:b=a
   ·have z':=(if_pos hb).symm.trans z;cases z';subst hb;exact⟨ha,by rw[aM];exact hl,vs,_,rv,ha⟩
   ·have z':=(if_neg hb).symm.trans z;cases z'
  ·by_cases hb:b=a
   ·exact hb
   ·exact absurd (if_neg hb) z
theorem azp{l:tH}{n k:Nat}{q:cA}{loose:List Str}{XP:(Str->Option aD)->fK->Prop}{YP:dJ->fK->Prop}{d:DefRec}{K:Params->Fg9}{CX:dJ->CXT}{sp:dJ->Sp}{x:Str}
  (hn:l.most=some n) (hn2:n<=cN) (hdf:d.params.defaults=[]) (hr:Room k rK)
  (hY:∀(w:dJ) (h:fK),YP w h->(K w.params).In h)
  (F:∀(w:dJ) (mg:Str->Option aD) (fa:aX) (h:fK),(K w.params).In h->h.Ns bA mg->mg d.name=some (.ref fa) ->
   ∃fd:fJ,(∀(s:aH) (u:aD),nH s fd ⟨[u],[]⟩ [(x,u)]) /\
    ∀base:fK,(K w.params).In base->base.Ns bA mg->FnOk l.prog w (K w.params) mg base (CX w) k fa fd [x] (sp w))
  (hsp:∀(w:dJ) (H:Hp) (a:aX) (ns:List Int),ns.length<=n->Only H->SqL (K w.params) H a (ns.map V.int)->sp w [.ref a] H (fun v _=>v=.bl true) fun _ _ _=>False)
  (hCX:∀(w:dJ) (H:Hp) (s:aH) (e:aD) (s':aH),CX w [] H s (fun _ _ _=>False) e s'->False) :
  zO q loose XP YP l.row.toRowW d [] (fun f vs=>xK f vs):=by
 refine Att.ang hn hdf fun w s₀ s₁ mg mb fa o pm cd doc a vs ns G Y ho hd hcd hmg hobj hints hlen hg =>?_
 have KX:=hY w _ Y;obtain⟨fd,hb,hF⟩:=F w mg fa _ KX G.T.g hmg;exact axd KX G.T.g G.T.b G.T.builtins G.T.nolimit hg hobj hints (cR hlen hn2) hr hF hb (fun H hO hS=>hsp w H a ns hlen hO hS) fun H e s'=>hCX w H s₁ e s'
def j8(s:iJ):Arguments:=match s with
 | .FunctionDef _ a _ _ _ _ _ _ _ _=>a
 | _=>{ posonlyargs:=[],args:=[],vararg:=none,kwonlyargs:=[],kw_defaults:=[],kwarg:=none,defaults:=[] }
def ie(s:iJ):List iJ:=match s with
 | .FunctionDef _ _ b _ _ _ _ _ _ _=>b
 | _=>[]
def ao(s:iJ):pC:=match s with
 | .FunctionDef _ _ _ _ _ _ sc _ _ _=>sc
 | _=>{ kind:=.function,names:=[],isGenerator:=false,isCoroutine:=false }
abbrev CX0:CXT:=fun _ _ _ _ _ _=>False
abbrev E0:XK:=fun _ _ _=>False
theorem a8t{X:Cx}:avq CX0 X E0:=fun _ _ _ _ _ _ _ h=>h.elim
structure Fun (K:Fg9) (x qual:Str) (st:iJ) (f:aX) (fd:fJ):Prop where
 ex:∃(oc:aD) (od:Option aX) (kV doc pm:aD) (an:Option aX) (cdv ct:aD) (osl:Array (Option aD)),
  fd=fnOf x qual (j8 st) (ie st) (ao st) .none kV doc pm an cdv ct/\K.lookup f=some ⟨oc,od,.func fd,osl⟩/\codeIn K cdv qual=true
 kp:oA K (.ref f)=true
section
variable{P:cA}{w:dJ}{K:Fg9}{mg:Str->Option aD}{base:fK}
theorem Fun.ok{x qual:Str}{st:iJ}{f:aX}{fd:fJ}{N ps:List Str}{k:Nat}{sp:Sp}(F:Fun K x qual st f fd)(S:FnScope N ps (ao st))(len:∀vs H Q E,sp vs H Q E->vs.length=ps.length)
  (hbody:∀(cdv:aD) (A:cW) (outer:List Env) (s:aH) (H:Hp) (vs:List V) (Q:VK) (E:XK),Room k (A.deeper (pO qual (ao st) s.heap.objs.size f cdv))->sp vs H Q E ->
   ∃t,PSs (cxOf CX0 P w K mg base N qual (ao st) f cdv A outer s H E).nox (ie st) t/\t { nx:=fun _ H'=>Q .non H',rt:=Q } (start N vs) H):FnOk P w K mg base CX0 (k+1) f fd ps sp:=by
 obtain⟨oc,od,kV,doc,pm,an,cdv,ct,osl,rfl,lk,hcd⟩:=F.ex;refine a6f lk hcd S len fun A outer s H vs Q E hr hsp =>?_
 obtain⟨t,h,q⟩:=hbody cdv A outer s H vs Q E hr hsp;exact⟨t,h.nox,q⟩
theorem Fun.binds{x qual:Str}{st:iJ}{f:aX}{fd:fJ}{ps:List Str}(F:Fun K x qual st f fd)
  (h:∀(kV doc pm:aD) (an:Option aX) (cdv ct:aD) (us:List aD),us.length=ps.length->qO (fnOf x qual (j8 st) (ie st) (ao st) .none kV doc pm an cdv ct) ⟨us,[]⟩=pure (ps.zip us)):Binds K fd ps []:=by
 obtain⟨oc,od,kV,doc,pm,an,cdv,ct,osl,rfl,lk,hcd⟩:=F.ex;exact .all (h kV doc pm an cdv ct)
theorem aop{x qual:Str}{st:iJ}{f:aX}{oc:aD}{od an:Option aX}{osl:Array (Option aD)}{kV doc pm cdv ct:aD}(l:K.lookup f=some ⟨oc,od,.func (fnOf x qual (j8 st) (ie st) (ao st) .none kV doc pm an cdv ct),osl⟩)
  (c:codeIn K cdv qual=true) (k:oA K (.ref f)=true):Fun K x qual st f (fnOf x qual (j8 st) (ie st) (ao st) .none kV doc pm an cdv ct):=⟨⟨oc,od,kV,doc,pm,an,cdv,ct,osl,rfl,l,c⟩,k⟩
end
theorem ar5{n:Nat}(h:n<=1000):n < cN:=Nat.lt_of_le_of_lt h (by decide)
section
variable{X:Cx}
theorem pv(i:Nat){x:Str}{pos:Pos}(hN:X.N[i]? = some x:=by rfl)(hv:Vis X.env.scope x:=by first | exact bI rfl | exact mO (bI rfl) | exact mO (mO rfl))(hd:(x==("__debug__" : Str))=false:=by decide)
  (hcd:(x==("__classdict__" : Str))=false:=by decide):PE X (.Name x pos) (tVar i):=a4a hN hv hd hcd
end
theorem iteF{A B:Prop}(h:B):if false=true then A else B:=by
 rw[if_neg cX];exact h
theorem iteT{A B:Prop}(h:A):if true=true then A else B:=by
 rw[if_pos rfl];exact h
def Same(H H':Hp):Prop:=∀b o,H b=some o->H' b=some o
theorem Same.refl(H:Hp):Same H H:=fun _ _ h=>h
theorem Same.trans{H H1 H2:Hp}(a:Same H H1)(b:Same H1 H2):Same H H2:=fun c o h=>b c o (a c o h)
theorem Same.seq{K:Fg9}{H H':Hp}{a:aX}{xs:List V}(e:Same H H')(h:SqL K H a xs):SqL K H' a xs:=by
 rcases h with(h | ⟨o,h⟩) | h
 ·exact .inl (.inl (e _ _ h))
 ·exact .inl (.inr ⟨o,e _ _ h⟩)
 ·exact .inr h
end L2
namespace Mn
open L2
def aab(env:Env)(fr:List Str):List (Str×Addr):=fr.filterMap fun n=>(env.cells.lookup n).map fun c=>(n,c)
theorem agu{env:Env}{n:Str}{r:List Str}(e:env.cells.lookup n=none):aab env (n::r)=aab env r:=by
 unfold aab;rw[iI,e];rfl
theorem acr{env:Env}{n:Str}{r:List Str}{c:aX}(e:env.cells.lookup n=some c):aab env (n::r)=(n,c)::aab env r:=by
 unfold aab;rw[iI,e];rfl
theorem look_same{x:Str}{c:aX}{l:List (Str×Addr)}:cT x ((x,c)::l)=some c:=by
 have hb:(x==x)=true:=beq_iff_eq.mpr rfl;simp only[cT,hb]
theorem ahk{x n:Str}{c:aX}{l:List (Str×Addr)}(h:x≠n):cT x ((n,c)::l)=l.lookup x:=by
 have hb:(x==n)=false:=beq_eq_false_iff_ne.mpr h;simp only[cT,hb]
theorem ut{env:Env}:∀{fr:List Str} {x:Str} {c:aX},(aab env fr).lookup x=some c->env.cells.lookup x=some c
 | [],x,c,h=>by
  have h':(none:Option aX)=some c:=h;cases h'
 | n::r,x,c,h=>by
  cases e:env.cells.lookup n with
  | none =>
   rw[agu e] at h;exact ut h
  | some d =>
   rw[acr e] at h
   by_cases hx:x=n
   ·subst hx;rw[look_same] at h;rw[e];exact h
   ·rw[ahk hx] at h;exact ut h
theorem ab0{env:Env}:∀{fr:List Str} {x:Str} {c:aX},x∈fr->env.cells.lookup x=some c->(aab env fr).lookup x=some c
 | [],x,c,hm,h=>absurd hm (by simp)
 | n::r,x,c,hm,h=>by
  by_cases hx:x=n
  ·subst hx;rw[acr h,look_same]
  ·have hm':x∈r:=(bF.mp hm).elim (fun e=>absurd e hx) id
   cases e:env.cells.lookup n with
   | none =>
    rw[agu e];exact ab0 hm' h
   | some d =>
    rw[acr e,ahk hx];exact ab0 hm' h
def afh(XN fr:List Str):List Str->List (Option Nat)->Bool
 | [],[]=>true
 | _::N,none::r=>afh XN fr N r
 | x::N,some j::r=>XN[j]? == some x&&fr.contains x&&afh XN fr N r
 | _,_=>false
theorem afg{XN fr:List Str}:∀{N:List Str} {src:List (Option Nat)} {i j:Nat} {x:Str},afh XN fr N src=true->N[i]? = some x->src[i]? = some (some j)->XN[j]? = some x/\x∈fr
 | [],[],i,j,x,_,h,_=>by simp at h
 | [],_::_,i,j,x,_,h,_=>by simp at h
 | _::_,[],i,j,x,_,_,h=>by simp at h
 | y::N,none::r,0,j,x,_,_,h=>by simp at h
 | y::N,none::r,i+1,j,x,hk,h1,h2=>afg (N:=N) (src:=r) (i:=i) hk (by simpa using h1) (by simpa using h2)
 | y::N,some k::r,0,j,x,hk,h1,h2=>by
  simp only[afh,bG] at hk;obtain⟨⟨a,b⟩,_⟩:=hk;simp at h1 h2;subst h1 h2;exact⟨by simpa using a,by simpa using b⟩
 | y::N,some k::r,i+1,j,x,hk,h1,h2=>by
  simp only[afh,bG] at hk;exact afg (N:=N) (src:=r) (i:=i) hk.2 (by simpa using h1) (by simpa using h2)
theorem afe{XN fr:List Str}:∀{N:List Str} {src:List (Option Nat)},afh XN fr N src=true->src.length=N.length
 | [],[],_=>rfl
 | [],_::_,h=>by simp[afh] at h
 | _::_,[],h=>by simp[afh] at h
 | _::N,none::r,h=>by
  have:=afe (N:=N) (src:=r) h;simp[this]
 | _::N,some k::r,h=>by
  simp only[afh,bG] at h;have:=afe (N:=N) (src:=r) h.2;simp[this]
def pick(src:List (Option Nat))(σ:L2.St):L2.St:=src.map fun o=>o.bind fun j=>(σ[j]?).bind id
theorem awg{src:List (Option Nat)}{σ:L2.St}{i:Nat}{v:V}(h:(pick src σ)[i]? = some (some v)):∃j,src[i]? = some (some j)/\σ[j]? = some (some v):=by
 unfold pick at h;rw[bB] at h;cases e:src[i]? with
 | none=>rw[e] at h;cases h
 | some o =>
  rw[e] at h;have h':(o.bind fun j=>(σ[j]?).bind id)=some v:=cP h
  cases o with
  | none=>cases h'
  | some j =>
   refine⟨j,rfl,?_⟩;have h2:(σ[j]?).bind id=some v:=h';cases q:σ[j]? with
   | none=>rw[q] at h2;cases h2
   | some z =>
    rw[q] at h2;have h3:z=some v:=h2;rw[h3]
def ahv(env:Env)(XN:List Str)(scope:pC)(fr N:List Str)(src:List (Option Nat)):Bool :=
 scope.names.all (fun y=>y.2 != .cell&&(y.2 != .local||scope.names.lookup y.1==some .local)&&(y.2 != .free||fr.contains y.1)) &&
 fr.all (fun x=>scope.names.lookup x==some .free&&(env.kindOf x==some .cell||env.kindOf x==some .free))&&afh XN fr N src
structure CompOk (env:Env) (XN:List Str) (scope:pC) (fr N:List Str) (src:List (Option Nat)):Prop where
 cell:∀y∈scope.names,y.2≠.cell
 loc:∀y∈scope.names,y.2=.local->scope.names.lookup y.1=some .local
 free:∀y∈scope.names,y.2=.free->y.1∈fr
 frk:∀x∈fr,scope.names.lookup x=some .free
 out:∀x∈fr,env.kindOf x=some .cell∨env.kindOf x=some .free
 src:afh XN fr N src=true
theorem CompOk.of{env:Env}{XN:List Str}{scope:pC}{fr N:List Str}{src:List (Option Nat)}(h:ahv env XN scope fr N src=true):CompOk env XN scope fr N src:=by
 simp only[ahv,bG,dD] at h;obtain⟨⟨h1,h2⟩,h3⟩:=h;refine⟨fun y hy =>?_,fun y hy e =>?_,fun y hy e =>?_,fun x hx =>?_,fun x hx =>?_,h3⟩
 ·have:=(h1 y hy).1.1
  simpa using this
 ·have:=(h1 y hy).1.2;rw[e] at this
  simpa using this
 ·have:=(h1 y hy).2;rw[e] at this
  simpa using this
 ·have:=(h2 x hx).1
  simpa using this
 ·have:=(h2 x hx).2
  simpa using this
theorem ael{env:Env}:∀{names:List (Str×NameKind)} {x:Str} {k:uT},
  (names.map fun(n,k)=>if (k==eY&&env.scope.kind==.function&&env.kindOf n==some .cell) then (n,kZ) else (n,k)).lookup x=some k ->
  ∃k0,names.lookup x=some k0/\(k=k0∨(k0=.free/\k=.cell))
 | [],x,k,h=>by simp at h
 | (n,q)::r,x,k,h=>by
  by_cases hx:x=n
  ·subst hx;have hb:(x==x)=true:=beq_iff_eq.mpr rfl;refine⟨q,by simp only[cT,hb],?_⟩
   by_cases hc:(q==eY&&env.scope.kind==.function&&env.kindOf x==some .cell)=true
   ·rw[aW] at h;simp only[hc,if_true,cT,hb] at h;simp only[bG] at hc;exact .inr ⟨by simpa using hc.1.1,(cP h).symm⟩
   ·rw[aW] at h;simp only[hc,cT,hb] at h;exact .inl (by simpa using h.symm)
  ·have hb:(x==n)=false:=beq_eq_false_iff_ne.mpr hx;have h':(r.map fun(n,k)=>if (k==eY&&env.scope.kind==.function&&env.kindOf n==some .cell) then (n,kZ) else (n,k)).lookup x=some k:=by
    rw[aW] at h
    by_cases hc:(q==eY&&env.scope.kind==.function&&env.kindOf n==some .cell)=true
    ·simp only[hc,if_true,cT,hb] at h;exact h
    ·have h2:cT x ((if (q==eY&&env.scope.kind==.function&&env.kindOf n==some .cell)=true then (n,kZ) else (n,q))::(r.map fun(n,k)=>if (k==eY&&env.scope.kind==.function&&env.kindOf n==some .cell) then (n,kZ) else (n,k)))=some k:=h
     rw[if_neg hc] at h2;simp only[cT,hb] at h2;exact h2
   obtain⟨k0,e,d⟩:=ael h';exact⟨k0,by simp only[cT,hb];exact e,d⟩
theorem aa3{env:Env}:∀{names:List (Str×NameKind)} {x:Str},names.lookup x=some .free ->
  (names.map fun(n,k)=>if (k==eY&&env.scope.kind==.function&&env.kindOf n==some .cell) then (n,kZ) else (n,k)).lookup x=some .free ∨
  (names.map fun(n,k)=>if (k==eY&&env.scope.kind==.function&&env.kindOf n==some .cell) then (n,kZ) else (n,k)).lookup x=some .cell
 | [],x,h=>by simp at h
 | (n,q)::r,x,h=>by
  by_cases hx:x=n
  ·subst hx;have hb:(x==x)=true:=beq_iff_eq.mpr rfl;simp only[cT,hb] at h;have hq:q=.free:=cP h;subst hq
   by_cases hc:(eY==eY&&env.scope.kind==.function&&env.kindOf x==some .cell)=true
   ·right
    rw[aW];simp only[hc,if_true,cT,hb]
   ·left
    show cT x ((if (eY==eY&&env.scope.kind==.function&&env.kindOf x==some .cell)=true then (x,kZ) else (x,eY))::_)=some eY
    rw[if_neg hc];simp only[cT,hb]
  ·have hb:(x==n)=false:=beq_eq_false_iff_ne.mpr hx;simp only[cT,hb] at h;rw[aW]
   by_cases hc:(q==eY&&env.scope.kind==.function&&env.kindOf n==some .cell)=true
   ·simp only[hc,if_true,cT,hb];exact aa3 h
   ·simp only[hc,cT,hb]
    simpa[cT,hb] using aa3 (env:=env) h
def cxC(X:Cx)(N:List Str)(scope:pC)(fr:List Str)(fp:List aX)(s:aH)(H:Hp):Cx where
 prog:=X.prog
 w:=X.w
 K:=X.K
 mg:=X.mg
 base:=X.base
 A:=X.A
 N:=N
 s₀:=s
 H₀:=H
 env:=compEnvC scope (aab X.env fr) s.heap.objs.size X.env
 outer:=X.stack
 stack:=X.stack
 ex:=fp
 fn:=fun _=>false
 calm:=X.calm
 pn:=[]
 xe:=fun _ _=>False
section
variable{X:Cx}{zv:List (aX×Obj)}{σ:L2.St}{H:Hp}{s:aH}{scope:pC}{fr N:List Str}{src:List (Option Nat)}{fp:List aX}
theorem a6m(I:Inv X zv σ H s)(C:CompOk X.env X.N scope fr N src)(hkind:scope.kind=.function)(hf:∀b∈fp,FpOk X zv H b)(hl:∀b∈fp,b < s.heap.objs.size):(cxC X N scope fr fp s H).Ok where
 mod:=I.ok.mod
 kind:=hkind
 glob:=I.ok.glob
 blt:=I.ok.blt
 above:=aN _
 inj:=fun x y c h1 h2=>I.ok.inj x y c (ut h1) (ut h2)
 has:=fun x hx=>by
  have mem:∀k,(k=kZ∨k=eY)->(cxC X N scope fr fp s H).env.kindOf x=some k->x∈fr:=fun k hk e=>by
   obtain⟨k0,e0,d⟩:=ael (env:=X.env) (names:=scope.names) e;have hm:=jH e0;rcases d with rfl | ⟨rfl,_⟩
   ·rcases hk with rfl | rfl
    ·exact absurd rfl (C.cell _ hm)
    ·exact C.free _ hm rfl
   ·exact C.free _ hm rfl
  have hm:x∈fr:=by
   rcases hx with e | e
   ·exact mem _ (.inl rfl) e
   ·exact mem _ (.inr rfl) e
  obtain⟨c,hc⟩:=I.ok.has x (C.out x hm);exact⟨c,ab0 hm hc⟩
 cab:=fun _ _ h _=>absurd h cX
 hd:=I.ok.hd
 frames:=I.ok.frames
 stk:=.inl rfl
 exf:=fun b hb=>⟨Nat.ne_of_lt (hl b hb),fun x c e=>(hf b hb).2.2.2.2.1 x c (ut e)⟩
 bs:=I.bs
 bsz:=cR I.ok.bsz I.sz
 noex:=fun b o e hb=>by
  rcases(hf b hb).2.2.2.1 with z | z
  ·exact I.ok.noex b o e z
  ·exact absurd (cF (aR e) (cR I.ok.bsz z)) (mC _)
 exfs:=fun b hb z=>by
  rcases bF.mp (I.stkSub b z) with e | e
  ·exact(hf b hb).2.1 e
  ·exact(hf b hb).2.2.1 e
 funs:=I.stack
 frf:=I.stkFree
theorem aol(I:Inv X zv σ H s)(C:CompOk X.env X.N scope fr N src)(hkind:scope.kind=.function)(hf:∀b∈fp,FpOk X zv H b)(hl:∀b∈fp,b < s.heap.objs.size){h':fK}{tk:Nat}{m:Str->Option aD}
  (hns:h'.Ns s.heap.objs.size m) (hk:∀b o,s.heap.get? b=some o->h'.get? b=some o):Inv (cxC X N scope fr fp s H) [] (pick src σ) H { s with heap:=h',toks:=tk } where
 ok:=a6m I C hkind hf hl
 os:=rfl
 bare:=I.bare
 base:=Un.kept hk
 loc:=by
  refine⟨m,hns,fun i x v h1 h2 h3 =>?_⟩
  obtain⟨j,hj,hv⟩:=awg h2;obtain⟨hN,hm⟩:=afg C.src h1 hj;obtain⟨mo,_,hlo⟩:=I.loc;have vis:Vis X.env.scope x:=by
   rcases C.out x hm with e | e
   ·exact .inr (.inl e)
   ·exact .inr (.inr e)
  obtain⟨u,r,l⟩:=hlo j x v hN hv vis;refine⟨u,r,.inr ⟨?_,?_⟩⟩
  ·rcases aa3 (env:=X.env) (C.frk x hm) with e | e
   ·exact .inr e
   ·exact .inl e
  ·rcases l with⟨e,_⟩ | ⟨_,c,hc,z⟩
   ·rcases C.out x hm with q | q
    ·rw[q] at e;cases e
    ·rw[q] at e;cases e
   ·obtain⟨o,ho,hd⟩:=z;exact⟨c,ab0 hm hc,o,hk c o ho,hd⟩
 cell:=fun x c e=>by
  obtain⟨v,o,ho,hd⟩:=I.cell x c (ut e);exact⟨v,o,hk c o ho,hd⟩
 free:=I.hok.fresh (aN _)
 freeC:=fun x c e=>I.freeC x c (ut e)
 pin:=fun p hp=>absurd (show p∈([]:List (aX×Obj)) from hp) (by simp)
 hok:=I.hok.kept hk
 len:=by
  unfold pick;rw[aM];exact afe C.src
theorem aom{pins':List (aX×Obj)}{σ':L2.St}{H':Hp}{s':aH}{h'':fK}(I:Inv X zv σ H s)(hf:∀b∈fp,FpOk X zv H b)(J:Inv (cxC X N scope fr fp s H) pins' σ' H' s')
  (hs:fP s.heap.objs.size s'.heap h''):Inv X zv σ H' { s' with heap:=h'' }:=by
 have k:∀b o,b≠s.heap.objs.size->s'.heap.get? b=some o->h''.get? b=some o:=fun b o hb e=>(hs.2 b hb).trans e
 have old:∀b o,s.heap.get? b=some o->b≠s.heap.objs.size:=fun b o e=>bQ (aR e)
 have un:Un (frs X.stack) fp H H' s.heap h'':=by
  have u:Un (frs X.stack) fp H H' s.heap s'.heap:=J.base;refine⟨fun b o e n hb hx=>k b o (old b o e) (u.keep b o e n hb hx),fun b o e n hb hx =>?_,u.free,fun b o e hx =>?_,u.tups,u.frzs,u.tbls⟩
  ·obtain⟨sl,q⟩:=u.slot b o e n hb hx;exact⟨sl,k b _ (old b o e) q⟩
  ·obtain⟨o',q⟩:=u.there b o e hx;exact⟨o',k b _ (old b o e) q⟩
 have hok:HOk X.prog X.w H' h'':=fun b u e=>by
  have nC:∀c z,H' c=some z->c≠s.heap.objs.size:=fun c z q w=>by
   have f:H' s.heap.objs.size=none:=J.free;rw[w,f] at q;cases q
  refine(J.hok b u e).stay (fun c v hc q=>k c v ?_ q) (fun _ q=>q) fun _ _ q=>q
  rcases hc with z | z
  ·rw[z];exact nC b u e
  ·exact nC c _ z
 have os:s'.os=s.os:=J.os;refine Inv.call' (s':={ s' with heap:=h'' }) I os un hok J.bare fun b hb =>?_
 obtain⟨_,f1,_,f3,f4,f5⟩:=hf b hb;exact⟨f3,f1,f4,f5⟩
end
def al1(ifs:List dX)(env:Env):Sem Bool:=forIn ifs true fun c r=>if r=true then do let ok <-isTrue c env (eval c env);pure (yW ok) else pure (yW r)
def PIf(X:Cx)(ifs:List dX)(t:TT):Prop :=
 ∀(zv:List (aX×Obj)) (s:aH) (σ:L2.St) (H:Hp) (Q:Bool->Hp->Prop),Inv X zv σ H s->t σ H Q->bL (bU X.prog X.w) X.A (al1 ifs X.env) (TP X zv σ Q) X.xe s
def tYes:TT:=fun _ H Q=>Q true H
theorem a0q{X:Cx}:PIf X [] tYes:=fun zv s σ H Q I h=>by
 show bL _ _ (pure true) _ _ s;exact aG ⟨H,I,h⟩
theorem a0p{X:Cx}{c:dX}{t:TT}(hc:PT X c t):PIf X [c] t:=fun zv s σ H Q I h=>by
 unfold al1;rw[qH];rw[if_pos rfl];refine aA (aA (thn (hc zv s σ H _ I h) fun b s1 q=>aG ?_))
 show bL _ _ (forIn [] b _) _ _ s1;exact aG q
section
variable{prog:cA}{w:dJ}{A:cW}{R:Result->aH->Prop}{s:aH}
theorem compLoop{elt target iter:dX}{ifs:List dX}{scope:pC}{pos:Pos}{it acc:aD}{env:Env}(I:Nat->aH->Prop)
  (turn:∀n s,I n s->bL (bU prog w) A (oR it) (fun r s₁=>match r with
   | none=>R (.ok .next) s₁
   | some v=>bL (bU prog w) A (letOwnedTupleGo target it v) (fun _ s₁'=>bL (bU prog w) A (mZ target env v) (fun _ s₂ =>
     bL (bU prog w) A (al1 ifs env) (fun ok s₃ =>
      if ok=true then bL (bU prog w) A (eval elt env) (fun x s₄ =>
       bL (bU prog w) A (call (.builtin "list.append") [acc,x]) (fun _ s₅=>∃m,m < n/\I m s₅) (fun _ _=>False) s₄) (fun _ _=>False) s₃
      else ∃m,m < n/\I m s₃) (fun _ _=>False) s₂) (fun _ _=>False) s₁') (fun _ _=>False) s₁) (fun _ _=>False) s)
  (n:Nat) (h:I n s) :
  pB (bU prog w) A (.compLoop (.ListComp elt [⟨target,iter,ifs,0⟩] scope pos) 0 it acc env) R s:=by
 refine codeAny_loop rfl I (fun n s hI =>?_) n h
 show bL _ A ((compTurn (.ListComp elt [⟨target,iter,ifs,0⟩] scope pos) 0 it acc env).onRaise (fun x=>do noteFrame x env;theTreesLotGoes x)) _ _ s
 refine wpAny_noted ?_;rw[compTurn_list];refine aA (kE (aA (bC (turn n s hI) (fun r s₁ h₁ =>?_) fun _ _ h'=>h'.elim)))
 cases r with
 | none=>exact aG h₁
 | some v =>
  refine aA (bC h₁ (fun _ s₁' h₁' =>?_) fun _ _ h'=>h'.elim)
  refine aA (bC h₁' (fun _ s₂ h₂=>aA (bC h₂ (fun ok s₃ h₃ =>?_) fun _ _ h'=>h'.elim)) fun _ _ h'=>h'.elim)
  cases ok with
  | false=>exact aG ⟨rfl,h₃⟩
  | true =>
   exact aA (aA (bC h₃ (fun x s₄ h₄=>aA (bC h₄ (fun _ s₅ h₅=>aG (aG ⟨rfl,h₅⟩)) fun _ _ h'=>h'.elim)) fun _ _ h'=>h'.elim))
end
def a65(J:It)(g:TG)(ti:TT)(te:TE)(Q:VK)(d:aX)(σ0:L2.St)(H1:Hp):Prop :=
 ∃W:Nat->Nat->List V->L2.St->Hp->Prop,(∃m,W 0 m [] σ0 (upd H1 d (.lst [])))/\∀i m ys σ H2,W i m ys σ H2->H2 d=some (.lst ys) /\
  ((J.stop i H2/\Q (.ref d) H2)∨(J.go i H2/\∀x H3,J.yld i H2 x H3->g x σ H3 fun σ4 H4=>ti σ4 H4 fun b H5 =>
   if b=true then te σ4 H5 fun y H6=>H6 d=some (.lst ys)/\ys.length < cN/\∃m',m' < m/\W (i+1) m' (ys++[y]) σ4 (upd H6 d (.lst (ys++[y]))) else ∃m',m' < m/\W (i+1) m' ys σ4 H5))
def azx(wi:TI)(g:TG)(ti:TT)(te:TE)(src:List (Option Nat)):TE:=fun σ H Q=>wi σ H fun J H1=>∀d,H1 d=none->a65 J g ti te Q d (pick src σ) H1
theorem ald{X:Cx}{tg iter elt:dX}{ifs:List dX}{scope:pC}{pos:Pos}{J:It}{fp:List aX}{it d:aX}{tn:Nat->fK->Prop}{g:TG}{ti:TT}{te:TE}{Q:VK}{R:Result->aH->Prop}
  {W:Nat->Nat->List V->L2.St->Hp->Prop} {m0:Nat} {σ0:L2.St} {H0:Hp} {s:aH} (hc:X.calm=true) (hE:X.xe=fun _ _=>False) (T:Turn X.prog X.w X.K tg J fp it tn)
  (hf:∀H':Hp,(∀b∈fp,H' b=none)->∀b∈fp,FpOk X [] H' b) (hg:PG X tg g) (ht:PIf X ifs ti) (he:PE X elt te)
  (turn:∀i m ys σ H2,W i m ys σ H2->H2 d=some (.lst ys) /\
   ((J.stop i H2/\Q (.ref d) H2)∨(J.go i H2/\∀x H3,J.yld i H2 x H3->g x σ H3 fun σ4 H4=>ti σ4 H4 fun b H5 =>
    if b=true then te σ4 H5 fun y H6=>H6 d=some (.lst ys)/\ys.length < cN/\∃m',m' < m/\W (i+1) m' (ys++[y]) σ4 (upd H6 d (.lst (ys++[y]))) else ∃m',m' < m/\W (i+1) m' ys σ4 H5)))
  (w0:W 0 m0 [] σ0 H0) (I0:Inv X [] σ0 H0 s) (st0:tn 0 s.heap) (fr0:∀b∈fp,H0 b=none)
  (hR:∀σ' H' s',Inv X [] σ' H' s'->Q (.ref d) H'->R (.ok .next) s') :
  pB (bU X.prog X.w) X.A (.compLoop (.ListComp elt [⟨tg,iter,ifs,0⟩] scope pos) 0 (.ref it) (.ref d) X.env) R s:=by
 have hE':∀e s',X.xe e s'->False:=fun e s' h=>by rw[hE] at h;exact h
 refine compLoop (fun n s'=>∃i ys σ' H',Inv X [] σ' H' s'/\tn i s'.heap/\(∀b∈fp,H' b=none)/\W i n ys σ' H') ?_ m0 ⟨0,[],σ0,H0,I0,st0,fr0,w0⟩
 rintro n s5 ⟨i,ys,σ5,H5,I5,st5,fr5,w5⟩
 obtain⟨hD,alt⟩:=turn i n ys σ5 H5 w5;rcases alt with⟨stop,qn⟩ | ⟨go,step⟩
 ·refine bC (T.done X rfl rfl rfl hc i [] s5 σ5 H5 (fun _ _=>False) I5 (hf _ fr5) st5 stop) (fun r s6 ⟨hr,I6⟩ =>?_) fun _ _ e=>e
  subst hr;exact hR σ5 H5 s6 I6 qn
 ·refine bC (T.item X rfl rfl rfl hc i [] s5 σ5 H5 (fun _ _=>False) I5 (hf _ fr5) st5 go) (fun r s6 ⟨u,hr,h6⟩ =>?_) fun _ _ e=>e
  subst hr;refine bC h6 (fun _ s7 ⟨x,H7,I7,r7,y7,st7,fr7⟩ =>?_) fun _ _ e=>e
  have I7':=I7.pinned (hf _ fr7) (T.obj _ _ st7);have again:∀{σ':L2.St} {H':Hp} {s':aH} {ys':List V} {m':Nat},Inv X ([]++ajy fp s7.heap) σ' H' s'->W (i+1) m' ys' σ' H'->∃i ys σ' H',Inv X [] σ' H' s'/\tn i s'.heap/\(∀b∈fp,H' b=none)/\W i m' ys σ' H':=fun{σ' H' s' ys' m'} Ia wa=>by
   refine⟨i+1,ys',σ',H',Ia.unpinned,T.keep _ _ _ st7 fun b hb o e=>(Ia.pin (b,o) (cM _ (cM _ (abr hb e)))).1,fun b hb =>?_,wa⟩
   obtain⟨o,e,d⟩:=T.obj _ _ st7 b hb;exact(Ia.pin (b,o) (cM _ (cM _ (abr hb e)))).2.1
  refine bC (hg _ s7 σ5 H7 x u _ I7' r7 (step x H7 y7)) (fun _ s8 ⟨σ8,H8,I8,q8⟩ =>?_) hE'
  refine bC (ht _ s8 σ8 H8 _ I8 q8) (fun ok s9 ⟨H9,I9,q9⟩ =>?_) hE'
  cases ok with
  | false =>
   rw[if_neg cX] at q9 ⊢
   obtain⟨m',hm,wa⟩:=q9;exact⟨m',hm,again I9 wa⟩
  | true =>
   rw[if_pos rfl] at q9 ⊢
   refine bC (he _ s9 σ8 H9 _ I9 q9) (fun z s10 ⟨y,H10,I10,r10,hd10,hz,m',hm,wa⟩ =>?_) hE'
   refine bC (zj _ s10 σ8 H10 (.ref d) [y] (.ref d) [z] (fun _ H'=>H'=upd H10 d (.lst (ys++[y]))) I10 rfl (.cons r10 .nil) ⟨d,ys,y,rfl,rfl,hd10,hz,rfl⟩) (fun _ s11 ⟨_,H11,I11,_,e11⟩ =>?_) hE'
   subst e11;exact⟨m',hm,again I11 wa⟩
theorem a0t{X:Cx}{tg iter elt:dX}{ifs:List dX}{scope:pC}{pos:Pos}{wi:TI}{g:TG}{ti:TT}{te:TE}(fr N:List Str)(src:List (Option Nat))(hc:X.calm=true)(hi:PI X tg iter wi)
  (hg:∀fp s H,PG (cxC X N scope fr fp s H) tg g) (ht:∀fp s H,PIf (cxC X N scope fr fp s H) ifs ti) (he:∀fp s H,PE (cxC X N scope fr fp s H) elt te)
  (hok:ahv X.env X.N scope fr N src=true:=by rfl) (hkind:scope.kind=.function:=by rfl) (hclos:closureFor scope X.env=pure (aab X.env fr):=by rfl)
  (hs:∀x,foldedSetIterable iter X.env x=pure x:=by intro _;rfl):PE X (.ListComp elt [⟨tg,iter,ifs,0⟩] scope pos) (azx wi g ti te src):=by
 have C:=CompOk.of hok;intro zv s σ H Q I h;rw[eval_ListComp];refine wpAny_comprehension_free (use:=none) rfl hs hclos hkind C.loc (bC (hi zv s σ H _ I h) (fun v s1 h1=>bC h1 (fun itv s2 h2 =>?_) fun _ _ e=>e) fun _ _ e=>e)
 obtain⟨it,fp,tn,J,H2,e,I2,T,st2,f2,q2⟩:=h2;subst e;have hd0:H2 s2.heap.objs.size=none:=I2.hok.fresh (aN _);obtain⟨W,⟨m0,w0⟩,turn⟩:=q2 s2.heap.objs.size hd0;refine cJ ?_;generalize hs3:({ s2 with heap:=s2.heap.push { cls:=.type "list", dict:=none,data:=.seq ([]:List aD).toArray } }:aH)=s3
 have keep2:∀b o,s2.heap.get? b=some o->s3.heap.get? b=some o:=fun b o e=>by rw[<-hs3];exact aB _ e
 have I3:Inv X zv σ (upd H2 s2.heap.objs.size (.lst [])) s3:=by
  rw[<-hs3];exact I2.laid (t':=s2.toks) (fun b u q=>aB _ q) (aN _) ⟨Nat.zero_le _,[],0,.nil,aO _ rfl⟩
 have ne0:∀b∈fp,b≠s2.heap.objs.size:=fun b hb=>by
  obtain⟨o,e,_⟩:=T.obj _ _ st2 b hb;exact bQ (aR e)
 have f3:∀b∈fp,FpOk X zv (upd H2 s2.heap.objs.size (.lst [])) b:=fun b hb=>⟨by rw[bw (ne0 b hb)];exact(f2 b hb).1,(f2 b hb).2⟩
 have lt3:∀b∈fp,b < s3.heap.objs.size:=fun b hb=>by
  obtain⟨o,e,_⟩:=T.obj _ _ st2 b hb;exact aR (keep2 b o e)
 refine wpAny_newFunctionEnv C.cell (by intro y hy;simp at hy) (fun h₁ hns₁ hsb₁ =>?_) hkind
 have keep3:∀b o,s3.heap.get? b=some o->h₁.get? b=some o:=fun b o e=>hsb₁.extBut b o (bQ (aR e)) (aB _ e)
 have st4:tn 0 h₁:=T.keep _ _ _ st2 fun b hb o e=>keep3 b o (keep2 b o e)
 have I4:=aol (tk:=s3.toks+([]:List (Str×Value)).length) I3 C hkind f3 lt3 hns₁ keep3;have loop:=ald (X:=cxC X N scope fr fp s3 (upd H2 s2.heap.objs.size (.lst []))) (iter:=iter) (scope:=scope) (pos:=pos) (d:=s2.heap.objs.size)
  (R:=compPost (bU X.prog X.w) X.A X.xe none (EP X zv σ Q) (.ref s2.heap.objs.size) s3.heap.objs.size) hc rfl T
  (fun H' hn b hb=>⟨hn b hb,bQ (lt3 b hb),I4.ok.exfs b hb,.inl hb,(I4.ok.exf b hb).2,fun p hp=>absurd (show p∈([]:List (aX×Obj)) from hp) (by simp)⟩)
  (hg fp s3 _) (ht fp s3 _) (he fp s3 _) turn w0 I4 st4 (fun b hb=>(f3 b hb).1) (fun σ' H' s' I6 qn=>by
   obtain⟨m6,hn6,_⟩:=I6.loc;exact⟨m6,hn6,fun h'' hs''=>⟨.ref s2.heap.objs.size,H',aom I3 f3 I6 hs'',rfl,qn⟩⟩)
 exact codeAny_compStart_list loop (T.self _ 0 _ _ _ st4 loop)
theorem Same.new{H:Hp}{p:aX}(h:H p=none)(o:HO):Same H (upd H p o):=fun b u q=>by rw[bw (jh q h)];exact q
structure ItOf (J:It) (xs:List V) (S:Hp->Prop):Prop where
 go:∀i H,S H->i < xs.length->J.go i H
 yld:∀i H x H',S H->J.yld i H x H'->H'=H/\(i < xs.length->xs[i]? = some x)
 stop:∀i H,S H->xs.length<=i->J.stop i H
theorem axh{K:Fg9}{a:aX}{xs:List V}:ItOf (Itt K a) xs fun H=>SqT K H a xs :=
 ⟨fun i H h hi=>⟨xs,xs[i],h,by simp[hi]⟩,fun i H x H' h y=>⟨y.1,fun _=>y.2 xs h⟩,fun i H h hi=>⟨xs,h,hi⟩⟩
theorem aoj{K:Fg9}{a:aX}{xs:List V}:ItOf (Itl K a) xs fun H=>SqL K H a xs :=
 ⟨fun i H h hi=>⟨xs,xs[i],h,by simp[hi]⟩,fun i H x H' h y=>⟨y.1,fun _=>y.2 xs h⟩,fun i H h hi=>⟨xs,h,hi⟩⟩
def ups(lo:Int)(n:Nat):List V:=(aJ n).map fun i=>V.int (lo+(i:Nat))
theorem ah0(lo:Int)(n:Nat):(ups lo n).length=n:=by simp[ups]
theorem azq{lo:Int}{n i:Nat}(h:i < n):(ups lo n)[i]? = some (.int (lo+(i:Nat))):=by
 unfold ups;rw[bB,cQ h];rfl
theorem aoi{lo:Int}{n:Nat}:ItOf (Itr lo n) (ups lo n) fun _=>True :=
 ⟨fun i H _ hi=>by rw[ah0] at hi;exact hi,fun i H x H' _ y=>⟨y.1,fun hi=>by rw[ah0] at hi;rw[azq hi,y.2]⟩,fun i H _ hi=>by rw[ah0] at hi;exact hi⟩
section
variable{X:Cx}
def rAll(K:Fg9):List V->Hp->VK->Prop:=fun xs H Q=>∃(p:aX) (bs:List Bool),xs=[.ref p]/\SqL K H p (bs.map V.bl)/\Q (.bl (bs.all id)) H
theorem ayc(hc:X.calm=true):abn X (.builtin "all") (rAll X.K):=by
 intro zv s σ H xs us Q I r h;obtain⟨p,bs,rfl,hq,q⟩:=h;obtain⟨u,rfl,ru⟩:=vals1 r;cases ru;obtain⟨its,rv,pl,hz⟩:=I.list hq;have hl:=pl.isList;have hlen:=rv.length;rw[aM] at hlen;have hlt:p < s.heap.objs.size:=by obtain⟨_,e,_⟩:=hl;exact aR e
 refine call_all_walk (wpAny_pyIter_list hl ?_);refine⟨s.heap.objs.size,[s.heap.objs.size,p],[s.heap.objs.size],its.toArray.size,_,_,fun i=>(bs[i]?).getD true,rfl,Walks.list (A:=X.A.in1) (I.ok.hd hc) _ p (bQ hlt) its.toArray,
  ⟨⟨_,aO _ rfl,rfl,rfl⟩,hl.push _⟩,fun i v s' Q' E' hP hQ =>?_,fun h' tk hk =>?_⟩
 ·have hi:its[i]? = some v:=by simpa using hP
  cases e:bs[i]? with
  | none =>
   have h1:bs.length<=i:=List.getElem?_eq_none_iff.mp e;have h2:i < its.length:=(aK.mp hi).1;omega
  | some b =>
   obtain⟨u,hu,ru⟩:=rv.get (i:=i) (x:=V.bl b) (by rw[bB,e];rfl)
   rw[hi] at hu;cases hu;obtain rfl:v=rM b:=ru;simp only[e,Option.getD_some] at hQ;exact wpAny_truthy_bool hQ
 ·have e:((aJ its.toArray.size).all fun i=>(bs[i]?).getD true)=bs.all id:=by
   rw[aU,<-hlen];exact LSm.range_all bs
  rw[e];exact⟨.bl (bs.all id),H,I.kept (t':=tk) (uW hk),rfl,q⟩
end
def Dfn(P:cA)(w:dJ)(K:Fg9)(mg:Str->Option aD)(base:fK)(x:Str)(ps:List Str)(k:Nat)(sp:Sp):Prop :=
 ∃(f:aX) (fd:fJ),FnOk P w K mg base CX0 k f fd ps sp/\mg x=some (.ref f)/\oA K (.ref f)=true/\Binds K fd ps []
section
variable{X:Cx}{x:Str}{ps:List Str}{k:Nat}{sp:Sp}{e:dX}{es:List dX}{t:TA}{p pos:Pos}
theorem a8r(F:Dfn X.prog X.w X.K X.mg X.base x ps k sp)(hr:Room k X.A)(hg:Gl X x)(ha:PA X (e::es) t)(hdb:(x==("__debug__" : Str))=false:=by decide)
  (he:aQ (e::es) X.env=(false,eval e X.env)::aQ es X.env:=by rfl) (hpl:(jD pos (aQ es X.env)).any (·.1)=false:=by rfl):PE X (.Call (.Name x p) (e::es) [] pos) (azy sp [] E0 t):=by
 obtain⟨f,fd,F,hm,hk,hb⟩:=F;exact a0v F hr hg hm hk hb .nil a8t ha hdb he hpl
theorem awk{n:Int}(hg:Gl X x)(hm:∃t,X.mg x=some (.int n t))(hd:(x==("__debug__" : Str))=false:=by decide):PE X (.Name x pos) (tC (.int n)):=by
 obtain⟨t,hm⟩:=hm;exact asx hg hm ⟨t,rfl⟩ hd
theorem aj1{T:String}(hg:Gl X x)(hm:X.mg x=none)(hv:cD x=some (.type T))(hn:x ≠ "__name__" := by decide)(hd:(x==("__debug__" : Str))=false:=by decide):PE X (.Name x pos) (tC (.ty T)) :=
 a0w hg hm hv rfl hn hd
end
section
variable{X:Cx}
end
section
variable{prog:cA}{w:dJ}{A:cW}{E:aD->aH->Prop}{s:aH}
theorem aya{t b:aX}{vs ws:List aD}{Q:aD->aH->Prop}(ht:xX s.heap t vs.toArray)(hb:xX s.heap b ws.toArray)(hv:vs=[])(h:Q (.ref b) s):bL (bU prog w) A (gF .Add (.ref t) (.ref b)) Q E s:=by
 obtain⟨⟨cls,dd,data,sl⟩,ho,hc,n,hd⟩:=id ht;obtain⟨⟨cls2,dd2,data2,sl2⟩,ho2,hc2,n2,hd2⟩:=id hb;simp only at hc hd hc2 hd2;subst hc hd hc2 hd2;exact concat_meets ⟨_,ho,rfl⟩ ⟨_,ho2,rfl⟩ noFill_tuple_add seq_tuple_add pW pH (oW _ _)
  (tuple_addW0 t b vs.toArray ws.toArray n n2 dd dd2 sl sl2 (by simp[hv])) ⟨ho,ho2,h⟩
end
section
variable{X:Cx}
end
section
variable{X:Cx}
def a3g(x:Str)(n:Int):TE:=fun _ H Q=>∀p,H p=none->Q (.ref p) (upd H p (.dK [(nR x,.int n)]))
theorem awm{x:Str}{n:Int}{j1 j2:Nat}{p1 p2 pos:Pos}:PE X (.Dict [some (.Constant (.str x) j1 p1)] [.Constant (.int n) j2 p2] pos) (a3g x n):=by
 intro zv s σ H Q I q;have big:sysModules < s.heap.objs.size:=by
  have h:bA < s.heap.objs.size:=(I.mod.glob.keeps I.bk).lt;exact oF (by decide) h
 have hn:=I.hok.fresh (aN s.heap.objs.size);refine wpAny_Dict_walk (knd:=yr X.prog X.w) rfl rfl (by simp) (by show 1<=15;decide) ?_
 refine pairTrees_cons_walk (xF (wpAny_Constant_int (pairTrees_nil_walk ?_)));refine⟨[((nR x:Key),oU n (s.toks+1))],⟨af3 X.prog X.w x s.toks,rfl,oV⟩,Heap.DictOf.new s.heap,fun h' dd hs =>?_⟩
 refine⟨.ref s.heap.objs.size,upd H s.heap.objs.size (.dK [(nR x,.int n)]),?_,rfl,q _ hn⟩;refine I.laid (fun b u e=>hs.extBut b u (bQ (aR e)) (aB _ e)) (aN _) ?_
 exact⟨by show 1<=cN;decide,beq_eq_false_iff_ne.mpr (gG (bQ big)),_,.cons ⟨rfl,_,rfl⟩ .nil,dd⟩
end
theorem aas:fillsNumberSlot (.type "tuple") "mul" = pure false :=
 PySem.fillsNumberSlot_seq (id := "tuple.__mul__") (r:=some (.builtin "tuple.__rmul__")) pR.lookup (by decide +kernel) yD.lookup (by decide +kernel)
theorem aek:seqRepeat? (.type "tuple")=pure (some (.builtin "tuple.__mul__")):=by
 unfold seqRepeat?;rw[yJ (T := "tuple") (name := "__mul__") (id := "tuple.__mul__") pR.lookup (by decide +kernel),yJ (T := "tuple") (name := "__rmul__") (id := "tuple.__rmul__") yD.lookup (by decide +kernel)]
 rfl
theorem ab2(a:Int)(t:Tok)(l:aX)(items:Array aD)(n:Nat)(dd:Option aX)(sl:Array (Option aD)) :
  Meets (jL.«int.__rmul__» ⟨[.int a t,.ref l],[]⟩) (fun _ R s=>s.heap.get? l=some { cls:=.type "tuple", dict:=dd,data:=.seq items n,slots:=sl }/\R (.ok (.ret vL)) s) :=
 .of_wp fun prog w A R s h=>by obtain⟨hp,g,d,tk,os⟩:=s;obtain⟨hl,h⟩:=h;wp_walk;exact⟨_,rfl,h⟩
theorem apm(l:aX)(items:Array aD)(n:Nat)(dd:Option aX)(sl:Array (Option aD))(x:Int)(u:Tok)(h0:items.isEmpty=false)(h2:2<=x)(h63:x < 2 ^ 63)(hsz:items.size*x.toNat<=cN) :
  Meets (jL.«tuple.__mul__» ⟨[.ref l,.int x u],[]⟩) (fun _ R s=>s.heap.get? l=some { cls:=.type "tuple", dict:=dd,data:=.seq items n,slots:=sl } /\
   R (.ok (.ret (dF s.heap.objs.size))) { s with heap:=s.heap.push { cls:=kI "tuple", data:=Data.seq (nQ (fun x1 x2=>x1++x2) #[] (aV x.toNat items)) },toks:=s.toks }) :=
 .of_wp fun prog w A R s h=>by
  obtain⟨hp,g,d,tk,os⟩:=s;obtain⟨hl,h⟩:=h;have c1:(decide (x < -2 ^ 63)||decide (x≥2 ^ 63))=false:=by
   rw[vN];exact⟨decide_eq_false (by omega),decide_eq_false (by omega)⟩
  have c2:(items.isEmpty||x==1)=false:=by
   rw[h0,Bool.false_or,beq_eq_false_iff_ne];omega
  have c3:(decide (x<=0)||items.isEmpty)=false:=by
   rw[h0,zW];exact decide_eq_false (by omega)
  have e4:((items.size:Int)*x)=((items.size*x.toNat:Nat):Int):=by
   have:x=(x.toNat:Int):=by omega
   rw[Int.natCast_mul,<-this]
  have h4:(cN:Int)<=(2 ^ 63 - 1) / 8:=by decide
  have c4:¬((items.size:Int)*x > (2 ^ 63 - 1) / 8):=by rw[e4];omega
  have c5:uA ((items.size:Int)*x)=false:=by
   unfold uA;rw[e4];exact decide_eq_false (by omega)
  wp_walk;refine wpAny_ite_false (by rw[c1];rfl) ?_
  wp_walk;refine wpAny_ite_false (by rw[c2];rfl) ?_
  try dsimp only
  refine wpAny_ite_false (by rw[c3];rfl) ?_
  try dsimp only
  refine wpAny_ite_false (decide_eq_false c4) ?_
  try dsimp only
  refine wpAny_ite_false (by rw[c5];rfl) ?_
  have hso:sizeOk (.seq (nQ (fun x1 x2=>x1++x2) #[] (aV x.toNat items))):=by
   show(nQ (fun x1 x2=>x1++x2) #[] (aV x.toNat items)).size<=cN
   have hn:=foldl_rep items.toList x.toNat [];rw[aZ] at hn;have hn':nQ (fun x1 x2=>x1++x2) #[] (aV x.toNat items)=(aV x.toNat items.toList).flatten.toArray:=hn
   rw[hn',aU,len_rep,bT,lO];exact hsz
  refine aA (m:=jC _) (cJ (aG ⟨_,rfl,h⟩) hso)
theorem apn(l:aX)(items:Array aD)(n:Nat)(dd:Option aX)(sl:Array (Option aD))(x:Int)(u:Tok)(hx:x=1) :
  Meets (jL.«tuple.__mul__» ⟨[.ref l,.int x u],[]⟩) (fun _ R s=>s.heap.get? l=some { cls:=.type "tuple", dict:=dd,data:=.seq items n,slots:=sl }/\R (.ok (.ret (dF l))) s) :=
 .of_wp fun prog w A R s h=>by
  obtain⟨hp,g,d,tk,os⟩:=s;obtain⟨hl,h⟩:=h;have c1:(decide (x < -2 ^ 63)||decide (x≥2 ^ 63))=false:=by
   rw[vN];exact⟨decide_eq_false (by omega),decide_eq_false (by omega)⟩
  have c2:(items.isEmpty||x==1)=true:=by rw[hx];simp
  wp_walk;exact⟨_,rfl,h⟩
section
variable{X:Cx}
theorem a0y:OpR X (gF .Mult) (fun x y H Q=>∃a xs,x=.ref a/\y=.int 1/\H a=some (.tup xs)/\Q (.ref a) H):=by
 intro zv s σ H x y v u Q I rx ry h;obtain⟨a,xs,rfl,rfl,ha,q⟩:=h;cases rx;obtain⟨t,rfl⟩:=ry;obtain⟨its,r1,p1,_⟩:=I.tuple (SqT.of ha);obtain⟨⟨cls,dd,data,sl⟩,ho,hc,n,hd⟩:=id p1;simp only at hc hd;subst hc hd;exact wpAny_binaryOp_repeat_ref (T := "tuple") (U := "int") (by decide) ⟨_,ho,rfl⟩ (fun s'=>typeIs_int s' 1 t) aas tR mJ aek sX.lookup
  (jO mJ (typeIs_int s 1 t) sY (rR _ _) (ab2 1 t a its.toArray n dd sl)
   ⟨ho,rfl,⟨_,ho,rfl⟩,jO pR ⟨_,ho,rfl⟩ yF (wY _ _) (apn a its.toArray n dd sl 1 t rfl) ⟨ho,⟨.ref a,H,I,rfl,q⟩⟩⟩)
def a3o:R2:=fun x y H Q=>∃a xs k,x=.ref a/\y=.int k/\H a=some (.tup xs)/\xs≠[]/\2<=k/\k < 2 ^ 63/\xs.length*k.toNat<=cN/\∀p,H p=none->Q (.ref p) (upd H p (.tup (aV k.toNat xs).flatten))
theorem aws:OpR X (gF .Mult) a3o:=by
 intro zv s σ H x y v u Q I rx ry h;obtain⟨a,xs,k,rfl,rfl,ha,hx,h2,h63,hz,q⟩:=h;cases rx;obtain⟨t,rfl⟩:=ry;obtain⟨its,r1,p1,_⟩:=I.tuple (SqT.of ha);obtain⟨⟨cls,dd,data,sl⟩,ho,hc,n,hd⟩:=id p1;simp only at hc hd;subst hc hd;have hnew:nQ (fun x1 x2=>x1++x2) #[] (aV k.toNat its.toArray)=(aV k.toNat its).flatten.toArray:=by
  have:=foldl_rep its k.toNat [];rw[aZ] at this;exact this
 refine wpAny_binaryOp_repeat_ref (T := "tuple") (U := "int") (by decide) ⟨_,ho,rfl⟩ (fun s'=>typeIs_int s' k t) aas tR mJ aek sX.lookup
  (jO mJ (typeIs_int s k t) sY (rR _ _) (ab2 k t a its.toArray n dd sl)
   ⟨ho,rfl,⟨_,ho,rfl⟩,jO pR ⟨_,ho,rfl⟩ yF (wY _ _) (apm a its.toArray n dd sl k t ?_ h2 h63 ?_) ⟨ho,?_⟩⟩)
 ·cases its with
  | nil=>exact absurd (r1.nil_iff.mp rfl) hx
  | cons _ _=>rfl
 ·rw[aU,<-r1.length];exact hz
 ·rw[hnew];refine⟨.ref s.heap.objs.size,_,I.laid (t':=s.toks) (o:=.tup (aV k.toNat xs).flatten) (fun b ob q=>aB _ q) (aN _) ?_,rfl,q _ (I.hok.fresh (aN _))⟩
  exact⟨by rw[len_rep,lO];exact hz,_,r1.rep k.toNat,IsTp.new _ _⟩
end
section
variable{prog:cA}{w:dJ}{A:cW}{E:aD->aH->Prop}{s:aH}
theorem acj{t sl:aX}{items:Array aD}{vl vu:aD}{lo hi:Option Int}{Q:aD->aH->Prop}(ht:xX s.heap t items)(hs:s.heap.IsSliceOf sl vl vu .none)(pl:rZ vl lo)(pu:rZ vu hi)
  (h1:HT.sIx items.size 0 lo=0) (h2:HT.sIx items.size items.size hi=items.size) (h:Q (.ref t) s):bL (bU prog w) A (rJ (.ref t) (.ref sl)) Q E s:=by
 obtain⟨os,hos,hcs,hds⟩:=id hs;have hTs:s.TypeIs (.ref sl) "slice" := ⟨os,hos,hcs⟩;unfold rJ
 try with_reducible refine eX ?_
 first | refine aA (aG ?_) | skip
 refine aA (wpAny_sequenceKey ht.typeIs (by decide) ?_)
 refine aA (eG (name:=jV "__getitem__") ht.typeIs fG
  (fD fG ht.typeIs entry_tuple_getitem ?_ (args_tuple_getitem _ _)))
 show bL _ _ (uB (.ref t) >>= _) _ _ s;refine aA (tupleItemsOf_ ht ?_);refine aA (wpAny_typeOf hTs ?_);rw[if_pos (by decide)]
 refine aA (HT.aaq hs pl pu ?_);have hyes:(((HT.sIx items.size 0 lo:Nat):Int)==0&&(1:Int)==1&&(HT.sIx items.size items.size hi - HT.sIx items.size 0 lo)==items.size)=true:=by
  rw[h1,h2];simp
 show bL _ _ (if (((HT.sIx items.size 0 lo:Nat):Int)==0&&(1:Int)==1&&(HT.sIx items.size items.size hi - HT.sIx items.size 0 lo)==items.size)=true then _ else _) _ _ s
 rw[if_pos hyes];refine aA (aA (wpAny_typeOf ht.typeIs (aG ?_)));rw[if_pos (by decide)]
 exact aA (mU (aG ⟨_,rfl,aG h⟩))
end
section
variable{X:Cx}
end
section
variable{X:Cx}(K:Fg9)(hK:X.K=K)
include hK
variable{tg:dX}
end
theorem kh:cD "len" = some (.builtin "len"):=by decide +kernel
theorem azk:cD "all" = some (.builtin "all"):=by decide +kernel
theorem bh:cD "isinstance" = some (.builtin "isinstance"):=by decide +kernel
theorem azj:cD "max" = some (.builtin "max"):=by decide +kernel
theorem a6r:cD "min" = some (.builtin "min"):=by decide +kernel
theorem avj:cD "sorted" = some (.builtin "sorted"):=by decide +kernel
theorem avk:cD "divmod" = some (.builtin "divmod"):=by decide +kernel
theorem apa:cD "int" = some (.type "int"):=by decide +kernel
theorem ane:cD "bool" = some (.type "bool"):=by decide +kernel
theorem uy:cD "tuple" = some (.type "tuple"):=by decide +kernel
theorem aap:cD "list" = some (.type "list"):=by decide +kernel
theorem ayd:cD "range" = some (.type "range"):=by decide +kernel
theorem a6q:cD "set" = some (.type "set"):=by decide +kernel
theorem aln:cD "enumerate" = some (.type "enumerate"):=by decide +kernel
structure ExcK (K:Fg9) (C:aX):Prop where
 ga:lM K (.ref C) "__getattribute__" = some (some (.builtin "BaseException.__getattribute__"))
 gh:lM K (.ref C) "__getattr__" = some none
 be:kJ K C (.type "BaseException")=some true
 hd:kO K C=true
 cl:lM K (.ref C) "__class__" = some (some (.builtin "object.__class__"))
 sp:mX K (.builtin "object.__class__") "__get__" = some (some (.builtin "getset_descriptor.__get__"))
 tk:pY K (.builtin "object.__class__")=some true
 ob:kJ K C (.type "object")=some true
 no:∀T∈["int","bool","tuple","list","str","dict"],gW K (.ref C) (.type T)=some false
theorem am2{K:Fg9}{C:aX}{od:Option Obj}{name:Str}{a g:aD}(hc:(lY K C).isSome=true)(ha:lM K (.ref C) name=some (some a))(hg:mX K a "__get__" = some (some g))(ht:pY K a=some true):nT K C od name=some (.bind g a):=by
 obtain⟨cd,hc⟩:=uM.mp hc;unfold nT;rw[hc,pP,ha,pP];simp[hg,ht]
section
variable{prog:cA}{w:dJ}{A:cW}{E:aD->aH->Prop}{s:aH}{K:Fg9}{x D:aX}{ox:Obj}{od:Option Obj}{name:Str}
theorem aos{fill expr:Bool}{tk:Tok}{Q:aD->aH->Prop}(X:K.In s.heap)(I:gJ s.heap x ox D od)(k:ExcK K D)
  (h:bL (bU prog w) A.in1 (jL.«object.__getattribute__» ⟨[.ref x,.str name tk],[]⟩)
   (fun fin s'=>match fin with | .done (.ret v)=>bL (bU prog w) A (handedOut v) Q E s' | _=>False) (fun _ _=>False) s) :
  bL (bU prog w) A (getAttrBy (.ref x) (.str name tk) fill expr) Q E s:=by
 obtain⟨hh,g,d,t,os⟩:=s;have L0:=I.type (M:=bU prog w);have L1:=qP (M:=bU prog w) X k.ga;have L2:=qP (M:=bU prog w) X k.gh;have L3:kW (bU prog w) hh (isInstance (.ref x) (.type "BaseException")) true:=L0.andThen (vW X k.be);unfold getAttrBy;refine eX (aA (L0.at (aA (L1.at ?_))));have hx2:(nM "BaseException.__getattribute__" == nM "object.__getattribute__")=false:=by decide +kernel
 have hx1:(onTheHeap (dF D)&&nM "BaseException.__getattribute__" == nM "object.__getattribute__")=false:=by rw[hx2,qW]
 simp only[hx1,mL,if_false];unfold getAttrByItsOwn hookBefore;rw[if_pos (show onTheHeap (dF D)=true from rfl)]
 refine aA ?_;refine L2.at (aA (wpAny_attempt (eX ?_)));have hx0:(expr&&onTheHeap (nM "BaseException.__getattribute__"))=false:=by cases expr <;> rfl
 unfold callGetattribute;rw[if_neg (by rw[hx0];exact cX)]
 unfold boundAndCalled;refine aA (wpAny_of_eq (uQ.ga.bind (.ref x)) ?_);have hk1:builtinKind "BaseException.__getattribute__" = some .slot:=by decide +kernel
 have hs1:splitId "BaseException.__getattribute__" = some ("BaseException","__getattribute__"):=by decide +kernel
 have ha1:=PySem.F.args_bexc_ga (.ref x) (.str name tk);dsimp only[dW,aZ];refine mV (codeAny_call_builtin (id := "BaseException.__getattribute__") (args:=⟨[.ref x,.str name tk],[]⟩) uQ.ga.plain PySem.F.entry_bexc_ga ?_);refine wL (i := "BaseException.__getattribute__") (owner := "BaseException") (n := "__getattribute__") (self:=.ref x) (rest:=[.str name tk]) (kw:=[]) hk1 hs1 L3 ha1 ?_;refine bC h (fun fin s' z =>?_) fun _ _ z=>z.elim
 rcases fin with(_ | _ | _ | _) | _ <;> first | exact z | exact z.elim
theorem axx{g a:aD}{tk:Tok}{P:aD->aH->Prop}(X:K.In s.heap)(I:gJ s.heap x ox D od)(hf:nT K D od name=some (.bind g a))
  (h:bL (bU prog w) A (call g [a,.ref x,.ref D]) P E s) :
  bL (bU prog w) A (jL.«object.__getattribute__» ⟨[.ref x,.str name tk],[]⟩) (fun fin s'=>match fin with | .done (.ret v)=>P v s' | _=>False) E s:=by
 obtain⟨hh,gg,d,t,os⟩:=s;have L0:=I.type (M:=bU prog w);have L1:=wJ (M:=bU prog w) X I hf;unfold jL.«object.__getattribute__»
 refine aA (aG (aA (aG (aA (L0.at (aA (L1.at ?_)))))));show bL _ _ (Builtin.ObjectAttr.bindTo g a (.ref x) (.ref D)) _ _ _;show bL _ _ (mW [a] (call g [a,.ref x,.ref D]) >>= ret) _ _ _;exact aA (eX (bC h (fun v s' z=>aG z) fun _ _ z=>z))
theorem exc_value{v:aD}{tk:Tok}{Q:Fin->aH->Prop}(X:K.In s.heap)(I:gJ s.heap x ox D od)(hf:nT K D od name=some (.value v))(h:Q (.done (.ret v)) s) :
  bL (bU prog w) A (jL.«object.__getattribute__» ⟨[.ref x,.str name tk],[]⟩) Q E s:=by
 obtain⟨hh,gg,d,t,os⟩:=s;have L0:=I.type (M:=bU prog w);have L1:=wJ (M:=bU prog w) X I hf;unfold jL.«object.__getattribute__»
 refine aA (aG (aA (aG (aA (L0.at (aA (L1.at ?_)))))));exact aG h
end
theorem aoh{K:Fg9}{x D:aX}(k:ExcK K D):PySem.W.KitX K (.ref x) (.ref D) (fun h=>∃ox od,gJ h x ox D od) where
 ty:=fun _ _ _ ⟨_,_,I⟩=>I.type
 it:=fun _ _ X _=>by
  obtain⟨cdD,hcD,_⟩:=jM k.hd;unfold lY at hcD;split at hcD
  ·rename_i c' d' cd' sl' ho;intro A' Q' E' s' k q;unfold isType loadHead;exact aA (wpAny_loadPart (k _ _ (X _ _ ho)) (aG q))
  ·cases hcD
 ne:=fun h tp dd its n sl X htp=>by
  obtain⟨cdD,hcD,_⟩:=jM k.hd;refine Bool.eq_false_iff.mpr fun q =>?_
  have e:D=tp:=zL (beq_iff_eq.mp q);subst e;unfold lY at hcD;split at hcD
  ·rename_i c' d' cd' sl' ho;have z:=(X _ _ ho).symm.trans htp;cases z
  ·cases hcD
 ca:=fun{prog w A E Q s} X ⟨ox,od,I⟩ q=>by
  have hf:nT K D od "__class__" = some (.bind (.builtin "getset_descriptor.__get__") (.builtin "object.__class__")):=am2 (by obtain⟨cd,hc,_⟩:=jM k.hd;rw[hc];rfl) k.cl k.sp k.tk
  unfold getAttr? getAttrBy?;refine aA (wpAny_mkText (aA (wpAny_attempt (aos (s:={ s with toks:=s.toks+1 }) X I k (axx (s:={ s with toks:=s.toks+1 }) X I hf
   (mV (PySem.W.class_get (s:={ s with toks:=s.toks+1 }) (ox:=ox) (od:=od) X I k.ob (PySem.W.handed_on rfl (aG q)))))))))
end Mn
namespace Dn
open L2 Mn
inductive D where
 | non | bl (b:Bool) | int (i:Int) | str (x:Str) | tup (l:List D) | lst (l:List D) | kst (l:List D) | dct (kvs:List (Key×D)) | exn (c:Str) (fs:List (Str×Int)) | dtt (kvs:List (List Int×Int))
def exO(a C:aX)(dx:Option aX):fK->Prop:=fun h=>∃oe vs,h.get? a=some oe/\oe.cls=.ref C/\oe.dict=dx/\oe.data=.fields vs
section
variable(K:Fg9)(F:Hp)
mutual
inductive Is:D->V->Prop
 | non:Is .non .non
 | bl (b:Bool):Is (.bl b) (.bl b)
 | int (i:Int):Is (.int i) (.int i)
 | str (x:Str):Is (.str x) (.str x)
 | tup {a:aX} {vs:List V} {ds:List D} (e:F a=some (.tup vs)) (h:IsL ds vs):Is (.tup ds) (.ref a)
 | lst {a:aX} {vs:List V} {ds:List D} (e:F a=some (.lst vs)) (h:IsL ds vs):Is (.lst ds) (.ref a)
 | kst {a:aX} {vs:List V} {ds:List D} (e:SqL K F a vs) (h:IsL ds vs):Is (.kst ds) (.ref a)
 | dct {a:aX} {kvs:List (Key×V)} {ds:List (Key×D)} (e:F a=some (.dK kvs)) (h:IsK ds kvs):Is (.dct ds) (.ref a)
 | exn {a C:aX} {c:Str} {dx:Option aX} {fs:List (Str×Int)} (e:F a=some (.ext (exO a C dx))) (hc:nsIn K bA c=some (some (.ref C))) (hk:ExcK K C)
   (hf:(dx=none/\fs=[])∨∃d,dx=some d/\F d=some (.xd (fs.map fun p=>(p.1,V.int p.2)))):Is (.exn c fs) (.ref a)
 | dtt {a:aX} {ds:List (List Int×Int)} (e:F a=some (.dT (ds.map fun p=>(p.1.map jR,V.int p.2)))):Is (.dtt ds) (.ref a)
inductive IsL:List D->List V->Prop
 | nil:IsL [] []
 | cons {d:D} {v:V} {ds:List D} {vs:List V} (h:Is d v) (t:IsL ds vs):IsL (d::ds) (v::vs)
inductive IsK:List (Key×D)->List (Key×V)->Prop
 | nil:IsK [] []
 | cons {k:Key} {d:D} {v:V} {ds:List (Key×D)} {vs:List (Key×V)} (h:Is d v) (t:IsK ds vs):IsK ((k,d)::ds) ((k,v)::vs)
end
end
section
variable{K:Fg9}{F F':Hp}
mutual
theorem Is.mono(g:Same F F'):∀{d:D} {v:V},Is K F d v->Is K F' d v
 | _,_,.non=>.non
 | _,_,.bl b=>.bl b
 | _,_,.int i=>.int i
 | _,_,.str x=>.str x
 | _,_,.tup e h=>.tup (g _ _ e) (IsL.mono g h)
 | _,_,.lst e h=>.lst (g _ _ e) (IsL.mono g h)
 | _,_,.kst e h=>.kst (L2.Same.seq g e) (IsL.mono g h)
 | _,_,.dct e h=>.dct (g _ _ e) (IsK.mono g h)
 | _,_,.exn e hc hk hf=>.exn (g _ _ e) hc hk (hf.imp id fun⟨d,h1,h2⟩=>⟨d,h1,g _ _ h2⟩)
 | _,_,.dtt e=>.dtt (g _ _ e)
theorem IsL.mono(g:Same F F'):∀{ds:List D} {vs:List V},IsL K F ds vs->IsL K F' ds vs
 | _,_,.nil=>.nil
 | _,_,.cons h t=>.cons (Is.mono g h) (IsL.mono g t)
theorem IsK.mono(g:Same F F'):∀{ds:List (Key×D)} {vs:List (Key×V)},IsK K F ds vs->IsK K F' ds vs
 | _,_,.nil=>.nil
 | _,_,.cons h t=>.cons (Is.mono g h) (IsK.mono g t)
end
theorem IsL.length:∀{ds:List D} {vs:List V},IsL K F ds vs->ds.length=vs.length
 | _,_,.nil=>rfl
 | _,_,.cons _ t=>by simp[IsL.length t]
theorem IsL.append:∀{ds es:List D} {vs ws:List V},IsL K F ds vs->IsL K F es ws->IsL K F (ds++es) (vs++ws)
 | _,_,_,_,.nil,h=>h
 | _,_,_,_,.cons h t,k=>.cons h (IsL.append t k)
theorem IsL.take:∀{ds:List D} {vs:List V} (n:Nat),IsL K F ds vs->IsL K F (ds.take n) (vs.take n)
 | _,_,0,_=>by simpa using IsL.nil
 | _,_,_+1,.nil=>.nil
 | _,_,n+1,.cons h t=>.cons h (IsL.take n t)
theorem IsL.drop:∀{ds:List D} {vs:List V} (n:Nat),IsL K F ds vs->IsL K F (ds.drop n) (vs.drop n)
 | _,_,0,h=>h
 | _,_,_+1,.nil=>.nil
 | _,_,n+1,.cons _ t=>IsL.drop n t
theorem IsL.get:∀{ds:List D} {vs:List V} {i:Nat} {d:D},IsL K F ds vs->ds[i]? = some d->∃v,vs[i]? = some v/\Is K F d v
 | _,_,_,_,.nil,e=>by simp at e
 | _,_,0,_,.cons h _,e=>by simp at e;subst e;exact⟨_,rfl,h⟩
 | _,_,i+1,v,.cons _ t,e=>by
  obtain⟨d,h1,h2⟩:=IsL.get (i:=i) (d:=v) t (by simpa using e)
  exact⟨d,by simpa using h1,h2⟩
theorem IsL.set{d:D}{v:V}(h:Is K F d v):∀{ds:List D} {vs:List V} (i:Nat),IsL K F ds vs->IsL K F (ds.set i d) (vs.set i v)
 | _,_,_,.nil=>.nil
 | _,_,0,.cons _ t=>.cons h t
 | _,_,i+1,.cons q t=>.cons q (IsL.set h i t)
theorem IsL.rep{ds:List D}{vs:List V}(h:IsL K F ds vs):∀k:Nat,IsL K F (aV k ds).flatten (aV k vs).flatten
 | 0=>by simpa using IsL.nil
 | k+1=>by
  rw[fZ,fZ,jA,jA];exact h.append (IsL.rep h k)
theorem IsL.int_inv{ns:List Int}:∀{vs:List V},IsL K F (ns.map D.int) vs->vs=ns.map V.int:=by
 induction ns with
 | nil =>
  intro _ h;cases h;rfl
 | cons n r ih =>
  intro _ h;cases h with
  | cons h t =>
   cases h;rw[ih t];rfl
theorem IsL.bl_inv{ns:List Bool}:∀{vs:List V},IsL K F (ns.map D.bl) vs->vs=ns.map V.bl:=by
 induction ns with
 | nil =>
  intro _ h;cases h;rfl
 | cons n r ih =>
  intro _ h;cases h with
  | cons h t =>
   cases h;rw[ih t];rfl
theorem ae5:∀ns:List Int,IsL K F (ns.map D.int) (ns.map V.int)
 | []=>.nil
 | n::r=>.cons (.int n) (ae5 r)
end
inductive Sl where
 | emp | val (d:D) | own (t:Option Nat) (l:List D) | box (c:Str) (fs:List (Str×(Nat ⊕ D))) | lol (ts:List Nat) | lnk (k:Nat)
abbrev Ro:=List Sl
def Owns(ρ:Ro)(σ:L2.St)(i:Nat)(a:aX):Prop:=(∃t l,ρ[i]? = some (.own t l))/\σ[i]? = some (some (.ref a))
def Own(ρ:Ro)(σ:L2.St)(a:aX):Prop:=∃i,Owns ρ σ i a
def SlOk(K:Fg9)(tg:Nat->aX)(F H:Hp):Sl->Option V->Prop
 | .emp,_=>True
 | .val d,o=>∃v,o=some v/\Is K F d v
 | .own t l,o=>∃a vs,o=some (.ref a)/\F a=none/\H a=some (.lst vs)/\IsL K F l vs/\∀k,t=some k->tg k=a
 | .box c fs,o=>∃a C dx fvs,o=some (.ref a)/\F a=none/\H a=some (.ins C dx fvs)/\nsIn K bA c=some (some (.ref C))/\(∀f,fs.lookup f=none->fvs.lookup f=none)/\(∀f k,fs.lookup f=some (.inl k)->fvs.lookup f=some (.ref (tg k)))/\∀f d,fs.lookup f=some (.inr d)->∃v,fvs.lookup f=some v/\Is K F d v
 | .lol ts,o=>∃a,o=some (.ref a)/\F a=some (.lst (ts.map fun k=>V.ref (tg k)))
 | .lnk k,o=>o=some (.ref (tg k))
structure Good (K:Fg9) (tg:Nat->aX) (F H:Hp) (ρ:Ro) (σ:L2.St):Prop where
 sub:Same F H
 len:ρ.length=σ.length
 sl:∀(i:Nat) (s:Sl) (o:Option V),ρ[i]? = some s->σ[i]? = some o->SlOk K tg F H s o
 inj:∀(i j:Nat) (a:aX),Owns ρ σ i a->Owns ρ σ j a->i=j
structure Ext (O O':aX->Prop) (F H F' H':Hp):Prop where
 sub:Same F F'
 new:∀a o,F' a=some o->F a=some o∨H a=none∨O a
 keep:∀a o,H a=some o->¬O a->H' a=some o
 own:∀a,O' a->O a∨H a=none
 there:∀a,H' a=none->H a=none
theorem Ext.refl(O:aX->Prop)(F H:Hp):Ext O O F H F H:=⟨fun _ _ e=>e,fun _ _ e=>.inl e,fun _ _ e _=>e,fun _ h=>.inl h,fun _ h=>h⟩
theorem Ext.trans{O O1 O2:aX->Prop}{F H F1 H1 F2 H2:Hp}(a:Ext O O1 F H F1 H1)(b:Ext O1 O2 F1 H1 F2 H2):Ext O O2 F H F2 H2 where
 sub:=a.sub.trans b.sub
 new:=fun c o e=>by
  rcases b.new c o e with q | q | q
  ·exact a.new c o q
  ·exact .inr (.inl (a.there c q))
  ·rcases a.own c q with z | z
   ·exact .inr (.inr z)
   ·exact .inr (.inl z)
 keep:=fun c o e n=>b.keep c o (a.keep c o e n) fun z=>by
  rcases a.own c z with q | q
  ·exact n q
  ·rw[e] at q;cases q
 own:=fun c z=>by
  rcases b.own c z with q | q
  ·exact a.own c q
  ·exact .inr (a.there c q)
 there:=fun c z=>a.there c (b.there c z)
section
variable{K:Fg9}{tg:Nat->aX}{F H F' H':Hp}{ρ ρ':Ro}{σ:L2.St}
theorem Good.ownAt(G:Good K tg F H ρ σ){a:aX}(h:Own ρ σ a):F a=none/\∃vs,H a=some (.lst vs):=by
 obtain⟨i,⟨t,l,e⟩,q⟩:=h;obtain⟨b,vs,e1,f,e2,_⟩:=G.sl i _ _ e q;cases e1;exact⟨f,vs,e2⟩
theorem Good.grow(G:Good K tg F H ρ σ)(s:Same F F')(s':Same F' H')(k:∀a,Own ρ σ a->F' a=none/\H' a=H a)(kb:∀a C dx fvs,F a=none->H a=some (.ins C dx fvs)->F' a=none/\H' a=H a):Good K tg F' H' ρ σ where
 sub:=s'
 len:=G.len
 inj:=G.inj
 sl:=fun i sl o e q=>by
  have z:=G.sl i sl o e q;cases sl with
  | emp=>trivial
  | val d =>
   obtain⟨v,e1,h⟩:=z;exact⟨v,e1,h.mono s⟩
  | lol ts =>
   obtain⟨a,e1,e2⟩:=z;exact⟨a,e1,s _ _ e2⟩
  | lnk k=>exact z
  | box c fs =>
   obtain⟨a,C,dx,fvs,e1,e2,e3,e4,e7,e5,e6⟩:=z;obtain⟨f1,f2⟩:=kb a C dx fvs e2 e3;exact⟨a,C,dx,fvs,e1,f1,f2.trans e3,e4,e7,e5,fun f d h=>(e6 f d h).imp fun v h=>⟨h.1,h.2.mono s⟩⟩
  | own t l =>
   obtain⟨a,vs,e1,f,e2,h,ht⟩:=z;have w:=k a ⟨i,⟨t,l,e⟩,by rw[q,e1]⟩
   exact⟨a,vs,e1,w.1,by rw[w.2];exact e2,h.mono s,ht⟩
theorem Same.put{p:aX}(s:Same F H)(h:H p=none)(o:HO):Same (upd F p o) (upd H p o):=fun b u e=>by
 by_cases hb:b=p
 ·subst hb;rw[dh] at e ⊢
  exact e
 ·rw[bw hb] at e ⊢
  exact s b u e
theorem Good.freeF(G:Good K tg F H ρ σ){p:aX}(h:H p=none):F p=none:=by
 cases e:F p with
 | none=>rfl
 | some o=>rw[G.sub p o e] at h;cases h
theorem Good.own_ne(G:Good K tg F H ρ σ){p a:aX}(h:H p=none)(w:Own ρ σ a):a≠p:=by
 obtain⟨_,vs,e⟩:=G.ownAt w;exact jh e h
theorem Good.new(G:Good K tg F H ρ σ){p:aX}(h:H p=none)(o:HO):Good K tg (upd F p o) (upd H p o) ρ σ :=
 G.grow (Same.new (G.freeF h) o) (Same.put G.sub h o) (fun a w=>by
  rw[bw (G.own_ne h w),bw (G.own_ne h w)];exact⟨(G.ownAt w).1,rfl⟩) fun a C dx fvs h1 h2=>by
  rw[bw (jh h2 h),bw (jh h2 h)];exact⟨h1,rfl⟩
theorem Good.newX(G:Good K tg F H ρ σ){p:aX}(h:H p=none)(o:HO):Ext (Own ρ σ) (Own ρ σ) F H (upd F p o) (upd H p o) where
 sub:=Same.new (G.freeF h) o
 new:=fun a u e=>by
  by_cases ha:a=p
  ·subst ha;exact .inr (.inl h)
  ·rw[bw ha] at e;exact .inl e
 keep:=fun a u e _=>by rw[bw (jh e h)];exact e
 own:=fun a w=>.inl w
 there:=fun a e=>by
  by_cases ha:a=p
  ·subst ha;exact h
  ·rw[bw ha] at e;exact e
theorem Good.fresh(G:Good K tg F H ρ σ){p:aX}(h:H p=none)(o:HO):Good K tg F (upd H p o) ρ σ :=
 G.grow (Same.refl F) (fun b u e=>by rw[bw (jh (G.sub b u e) h)];exact G.sub b u e) (fun a w=>by
  rw[bw (G.own_ne h w)];exact⟨(G.ownAt w).1,rfl⟩) fun a C dx fvs h1 h2=>⟨h1,bw (jh h2 h)⟩
theorem Good.freshX(G:Good K tg F H ρ σ){p:aX}(h:H p=none)(o:HO):Ext (Own ρ σ) (Own ρ σ) F H F (upd H p o) where
 sub:=Same.refl F
 new:=fun a u e=>.inl e
 keep:=fun a u e _=>by rw[bw (jh e h)];exact e
 own:=fun a w=>.inl w
 there:=fun a e=>by
  by_cases ha:a=p
  ·subst ha;exact h
  ·rw[bw ha] at e;exact e
theorem Good.freeze(G:Good K tg F H ρ σ){p:aX}{o:HO}(h:H p=some o)(n:¬Own ρ σ p)(hf:F p=none)(hi:∀C dx fs,o≠.ins C dx fs:=by intro _ _ _ z;cases z):Good K tg (upd F p o) H ρ σ :=
 G.grow (Same.new hf o) (fun b u e=>by
  by_cases hb:b=p
  ·subst hb;rw[dh] at e;cases e;exact h
  ·rw[bw hb] at e;exact G.sub b u e) (fun a w=>by
  have:a≠p:=fun z=>n (z▸w)
  rw[bw this];exact⟨(G.ownAt w).1,rfl⟩) fun a C dx fvs h1 h2=>by
  have:a≠p:=fun z=>by
   subst z;rw[h] at h2;exact hi _ _ _ (cP h2)
  rw[bw this];exact⟨h1,rfl⟩
end
end Dn
namespace Dn
open L2 Mn
structure Exn where
 cls:Str
 fs:List (Str×Int)
inductive Out (α:Type) where
 | ok (a:α) | exc (x:Exn)
abbrev M(α:Type):=Ro->Option (Out α×Ro)
noncomputable def M.bind{α β:Type}(m:M α)(k:α->M β):M β:=fun ρ=>match m ρ with
 | some (.ok a,ρ1)=>k a ρ1
 | some (.exc x,ρ1)=>some (.exc x,ρ1)
 | none=>none
noncomputable def ret{α:Type}(a:α):M α:=fun ρ=>some (.ok a,ρ)
noncomputable def lift{α:Type}(o:Option α):M α:=fun ρ=>match o with
 | some a=>some (.ok a,ρ)
 | none=>none
section
variable{α β:Type}
theorem bj{m:M α}{k:α->M β}{ρ ρ2:Ro}{b:β}(h:m.bind k ρ=some (.ok b,ρ2)):∃a ρ1,m ρ=some (.ok a,ρ1)/\k a ρ1=some (.ok b,ρ2):=by
 unfold M.bind at h;split at h
 ·exact⟨_,_,by assumption,h⟩
 ·cases h
 ·cases h
theorem gk{o:Option α}{ρ ρ2:Ro}{b:α}(h:lift o ρ=some (.ok b,ρ2)):o=some b/\ρ2=ρ:=by
 unfold lift at h;split at h
 ·cases h;exact⟨rfl,rfl⟩
 ·cases h
theorem jy{a b:α}{ρ ρ2:Ro}(h:ret a ρ=some (.ok b,ρ2)):a=b/\ρ2=ρ:=by
 unfold ret at h;cases h;exact⟨rfl,rfl⟩
@[simp] theorem a66(a:α)(k:α->M β):(ret a).bind k=k a:=rfl
@[simp] theorem a5n(a:α):lift (some a)=ret a:=rfl
end
inductive Rv where
 | v (d:D) | fr (l:List D)
 | tf (d:D) (l:List D)
abbrev Rel(α:Type):=α->V->(H:Hp)->(O:aX->Prop)->(F' H':Hp)->(O':aX->Prop)->Prop
def relD(K:Fg9):Rel D:=fun d v _ _ F' _ _=>Is K F' d v
def Bor(K:Fg9)(F H:Hp)(d:D)(v:V):Prop:=Is K F d v∨∃a vs l,d=.lst l/\v=.ref a/\H a=some (.lst vs)/\IsL K F l vs
def relB(K:Fg9):Rel D:=fun d v _ _ F' H' _=>Bor K F' H' d v
def relR(K:Fg9):Rel Rv:=fun r v H O F' H' O'=>match r with
 | .v d=>Is K F' d v
 | .fr l=>∃a vs,v=.ref a/\(H a=none∨O a)/\F' a=none/\H' a=some (.lst vs)/\IsL K F' l vs/\¬O' a
 | .tf d l=>∃t u a vs,v=.ref t/\F' t=some (.tup [u,.ref a])/\Is K F' d u/\(H a=none∨O a)/\F' a=none/\H' a=some (.lst vs)/\IsL K F' l vs/\¬O' a
def T{α:Type}(K:Fg9)(rel:Rel α)(m:M α):TE:=fun σ H Q=>∃tg F ρ a ρ',Good K tg F H ρ σ/\m ρ=some (.ok a,ρ') /\
 ∀v H' F',Good K tg F' H' ρ' σ->Ext (Own ρ σ) (Own ρ' σ) F H F' H'->rel a v H (Own ρ σ) F' H' (Own ρ' σ)->Q v H'
structure EV (K:Fg9) (X:Cx) (e:dX) (m:M D):Prop where
 go:X.K=K->PE X e (T K (relD K) m)
instance {K:Fg9} {X:Cx} {e:dX} {m:M D}:CoeFun (EV K X e m) fun _=>X.K=K->PE X e (T K (relD K) m):=⟨EV.go⟩
structure EB (K:Fg9) (X:Cx) (e:dX) (m:M D):Prop where
 go:X.K=K->PE X e (T K (relB K) m)
instance {K:Fg9} {X:Cx} {e:dX} {m:M D}:CoeFun (EB K X e m) fun _=>X.K=K->PE X e (T K (relB K) m):=⟨EB.go⟩
structure ER (K:Fg9) (X:Cx) (e:dX) (m:M Rv):Prop where
 go:X.K=K->PE X e (T K (relR K) m)
instance {K:Fg9} {X:Cx} {e:dX} {m:M Rv}:CoeFun (ER K X e m) fun _=>X.K=K->PE X e (T K (relR K) m):=⟨ER.go⟩
theorem PE.imp{X:Cx}{e:dX}{t t':TE}(h:PE X e t)(w:∀σ H Q,t' σ H Q->t σ H Q):PE X e t':=fun zv s σ H Q I q=>h zv s σ H Q I (w σ H Q q)
section
variable{K:Fg9}{X:Cx}{e a b:dX}{pos:Pos}
theorem EV.toB{m:M D}(h:EV K X e m):EB K X e m:=EB.mk fun hk=>PE.imp (h hk) fun σ H Q ⟨tg,F,ρ,d,ρ',G,em,q⟩=>⟨tg,F,ρ,d,ρ',G,em,fun v H' F' G' x r=>q v H' F' G' x (.inl r)⟩
def M.v(m:M D):M Rv:=m.bind fun d=>ret (.v d)
theorem EV.toR{m:M D}(h:EV K X e m):ER K X e m.v:=ER.mk fun hk=>PE.imp (h hk) fun σ H Q z9=>by
 obtain⟨tg,F,ρ,r,ρ',G,em,q⟩:=z9;obtain⟨d,ρ1,e1,e2⟩:=bj em;obtain⟨rfl,rfl⟩:=jy e2;exact⟨tg,F,ρ,d,_,G,e1,fun v H' F' G' x r=>q v H' F' G' x r⟩
def Rv.d:Rv->D
 | .v d=>d
 | .fr l=>.lst l
 | .tf d l=>.tup [d,.lst l]
def M.d(m:M Rv):M D:=m.bind fun r=>ret r.d
theorem frz{tg:Nat->aX}{O:aX->Prop}{F H F' H':Hp}{ρ':Ro}{σ':L2.St}{r:Rv}{v:V}(G:Good K tg F' H' ρ' σ')(x:Ext O (Own ρ' σ') F H F' H')(h:relR K r v H O F' H' (Own ρ' σ')) :
  ∃F2,Good K tg F2 H' ρ' σ'/\Ext O (Own ρ' σ') F H F2 H'/\Is K F2 r.d v:=by
 cases r with
 | v d=>exact⟨F',G,x,h⟩
 | fr l =>
  obtain⟨a,vs,rfl,ha,hf,hh,hl,hn⟩:=h;refine⟨upd F' a (.lst vs),G.freeze hh hn hf,⟨x.sub.trans (Same.new hf _),fun b o e =>?_,x.keep,x.own,x.there⟩,.lst dh (hl.mono (Same.new hf _))⟩
  by_cases hb:b=a
  ·subst hb;exact .inr ha
  ·rw[bw hb] at e;exact x.new b o e
 | tf d l =>
  obtain⟨t,u,a,vs,rfl,ht,hd,ha,hf,hh,hl,hn⟩:=h;have hta:t≠a:=fun z=>by rw[z,hf] at ht;cases ht
  refine⟨upd F' a (.lst vs),G.freeze hh hn hf,⟨x.sub.trans (Same.new hf _),fun b o e =>?_,x.keep,x.own,x.there⟩,.tup (by rw[bw hta];exact ht) (.cons (hd.mono (Same.new hf _)) (.cons (.lst dh (hl.mono (Same.new hf _))) .nil))⟩
  by_cases hb:b=a
  ·subst hb;exact .inr ha
  ·rw[bw hb] at e;exact x.new b o e
theorem ER.toD{m:M Rv}(h:ER K X e m):EV K X e m.d:=EV.mk fun hk=>PE.imp (h hk) fun σ H Q z9=>by
 obtain⟨tg,F,ρ,d,ρ',G,em,q⟩:=z9;obtain⟨r,ρ1,e1,e2⟩:=bj em;obtain⟨rfl,rfl⟩:=jy e2;refine⟨tg,F,ρ,r,_,G,e1,fun v H' F' G' x w =>?_⟩
 obtain⟨F2,G2,x2,i2⟩:=frz G' x w;exact q v H' F2 G2 x2 i2
noncomputable def dq(i:Nat):M D:=fun ρ=>match ρ[i]? with
 | some (.val d)=>some (.ok d,ρ)
 | some (.own _ l)=>some (.ok (.lst l),ρ)
 | _=>none
theorem Good.at{tg:Nat->aX}{F H:Hp}{ρ:Ro}{σ:L2.St}(G:Good K tg F H ρ σ){i:Nat}{s:Sl}(e:ρ[i]? = some s):∃o,σ[i]? = some o/\SlOk K tg F H s o:=by
 have hi:i < σ.length:=by rw[<-G.len];exact(aK.mp e).1
 exact⟨σ[i],aF hi,G.sl i s _ e (aF hi)⟩
theorem qx{tg:Nat->aX}{F H:Hp}{ρ ρ':Ro}{σ:L2.St}(G:Good K tg F H ρ σ){i:Nat}{d:D}(em:dq i ρ=some (.ok d,ρ')):ρ'=ρ/\∃v,σ[i]? = some (some v)/\Bor K F H d v:=by
 unfold dq at em;split at em
 ·rename_i d' e';cases em;obtain⟨o,ho,v,rfl,hv⟩:=G.at e';exact⟨rfl,v,ho,.inl hv⟩
 ·rename_i t l e';cases em;obtain⟨o,ho,a,vs,rfl,hf,hh,hl,_⟩:=G.at e';exact⟨rfl,_,ho,.inr ⟨a,vs,l,rfl,rfl,hh,hl⟩⟩
 ·cases em
theorem bz{i:Nat}(h:PE X e (tVar i)):EB K X e (dq i):=EB.mk fun _=>PE.imp h fun σ H Q z9=>by
 obtain⟨tg,F,ρ,d,ρ',G,em,q⟩:=z9;obtain⟨rfl,v,ho,hv⟩:=qx G em;exact⟨v,ho,q v H F G (Ext.refl _ _ _) hv⟩
def af5(i:Nat):M Rv:=fun ρ=>match ρ[i]? with
 | some (.val d)=>some (.ok (.v d),ρ)
 | some (.own none l)=>some (.ok (.fr l),ρ.set i .emp)
 | _=>none
theorem getset{α:Type}{l:List α}{i:Nat}{x y:α}(e:l[i]? = some y)(j:Nat):(l.set i x)[j]? = if i=j then some x else l[j]? := by
 rw[bJ];have hi:=(aK.mp e).1
 by_cases h:i=j
 ·subst h;simp[hi]
 ·simp[h]
theorem Good.drop{tg:Nat->aX}{F H:Hp}{ρ:Ro}{σ:L2.St}(G:Good K tg F H ρ σ)(i:Nat):Good K tg F H (ρ.set i .emp) σ:=by
 have sub:∀j t l,(bR ρ i Sl.emp)[j]? = some (Sl.own t l)->(ρ:List Sl)[j]? = some (Sl.own t l):=fun j t l e=>by
  rw[bJ] at e;split at e
  ·split at e <;> cases e
  ·exact e
 refine⟨G.sub,by rw[cZ];exact G.len,fun j s o e q =>?_,fun j k a ⟨⟨t,l,e⟩,q⟩ ⟨⟨t',l',e'⟩,q'⟩=>G.inj j k a ⟨⟨t,l,sub _ _ _ e⟩,q⟩ ⟨⟨t',l',sub _ _ _ e'⟩,q'⟩⟩
 rw[bJ] at e;split at e
 ·split at e
  ·cases e;trivial
  ·cases e
 ·exact G.sl j s o e q
theorem ae1{ρ:Ro}{σ:L2.St}{i:Nat}{a:aX}(h:Own (ρ.set i .emp) σ a):Own ρ σ a/\∀t l,ρ[i]? = some (.own t l)->∀(inj:∀i j a,Owns ρ σ i a->Owns ρ σ j a->i=j),¬Owns ρ σ i a:=by
 obtain⟨j,⟨t,l,e⟩,q⟩:=h;rw[bJ] at e;split at e
 ·split at e <;> cases e
 ·rename_i hne;have w:Owns ρ σ j a:=⟨⟨t,l,e⟩,q⟩;exact⟨⟨j,w⟩,fun t' l' _ inj z=>hne (inj _ _ _ z w)⟩
theorem aak{i:Nat}(h:PE X e (tVar i)):ER K X e (af5 i):=ER.mk fun _=>PE.imp h fun σ H Q z9=>by
 obtain⟨tg,F,ρ,d,ρ',G,em,q⟩:=z9;unfold af5 at em;split at em
 ·rename_i d' e';cases em;obtain⟨o,ho,v,rfl,hv⟩:=G.at e';exact⟨v,ho,q v H F G (Ext.refl _ _ _) hv⟩
 ·rename_i l e';cases em;obtain⟨o,ho,a,vs,rfl,hf,hh,hl,_⟩:=G.at e';have w:Owns ρ σ i a:=⟨⟨_,_,e'⟩,ho⟩;refine⟨_,ho,q _ H F (G.drop i) ⟨Same.refl _,fun _ _ e=>.inl e,fun _ _ e _=>e,fun b z=>.inl (ae1 z).1,fun _ z=>z⟩ ⟨a,vs,rfl,.inr ⟨i,w⟩,hf,hh,hl,fun z=>(ae1 z).2 _ _ e' G.inj w⟩⟩
 ·cases em
noncomputable def mVar(i:Nat):M D:=fun ρ=>match ρ[i]? with
 | some (.val d)=>some (.ok d,ρ)
 | some (.own none l)=>some (.ok (.lst l),ρ.set i (.val (.lst l)))
 | _=>none
theorem awp{ρ:Ro}{σ:L2.St}{i:Nat}{d:D}{a:aX}(h:Own (ρ.set i (.val d)) σ a):Own (ρ.set i .emp) σ a:=by
 obtain⟨j,⟨t,l,e⟩,q⟩:=h;refine⟨j,⟨t,l,?_⟩,q⟩;rw[bJ] at e ⊢
 split at e
 ·split at e <;> cases e
 ·rename_i hne;rw[if_neg hne];exact e
theorem Good.setv{tg:Nat->aX}{F H:Hp}{ρ:Ro}{σ:L2.St}{i:Nat}{d:D}{v:V}(G:Good K tg F H (ρ.set i .emp) σ)(e:σ[i]? = some (some v))(h:Is K F d v):Good K tg F H (ρ.set i (.val d)) σ:=by
 have sub:∀j t l,(bR ρ i (Sl.val d))[j]? = some (Sl.own t l)->(bR ρ i Sl.emp)[j]? = some (Sl.own t l):=fun j t l z=>by
  rw[bJ] at z ⊢
  split at z
  ·split at z <;> cases z
  ·rename_i hne;rw[if_neg hne];exact z
 refine⟨G.sub,by have:=G.len;rw[cZ] at this ⊢;exact this,fun j s o z q =>?_,fun j k a ⟨⟨t,l,z⟩,q⟩ ⟨⟨t',l',z'⟩,q'⟩=>G.inj j k a ⟨⟨t,l,sub _ _ _ z⟩,q⟩ ⟨⟨t',l',sub _ _ _ z'⟩,q'⟩⟩
 by_cases hij:i=j
 ·subst hij;rw[bJ,if_pos rfl] at z;split at z
  ·cases z;rw[e] at q;cases q;exact⟨v,rfl,h⟩
  ·cases z
 ·refine G.sl j s o ?_ q;rw[bJ,if_neg hij] at z ⊢
  exact z
theorem bc{i:Nat}(h:PE X e (tVar i)):EV K X e (mVar i):=EV.mk fun _=>PE.imp h fun σ H Q z9=>by
 obtain⟨tg,F,ρ,d,ρ',G,em,q⟩:=z9;unfold mVar at em;split at em
 ·rename_i d' e';cases em;obtain⟨o,ho,v,rfl,hv⟩:=G.at e';exact⟨v,ho,q v H F G (Ext.refl _ _ _) hv⟩
 ·rename_i l e';cases em;obtain⟨o,ho,a,vs,rfl,hf,hh,hl,_⟩:=G.at e';have w:Owns ρ σ i a:=⟨⟨_,_,e'⟩,ho⟩;have nown:¬Own (ρ.set i .emp) σ a:=fun z=>(ae1 z).2 _ _ e' G.inj w
  have G2:=(G.drop i).freeze hh nown hf;have i2:Is K (upd F a (.lst vs)) (.lst l) (.ref a):=.lst dh (hl.mono (Same.new hf _));refine⟨_,ho,q _ H _ (G2.setv ho i2) ⟨Same.new hf _,fun b o z =>?_,fun _ _ z _=>z,fun b z=>.inl (ae1 (awp z)).1,fun _ z=>z⟩ i2⟩
  by_cases hb:b=a
  ·subst hb;exact .inr (.inr ⟨i,w⟩)
  ·rw[bw hb] at z;exact .inl z
 ·cases em
theorem ev_c{d:D}{v:V}(h:PE X e (tC v))(hi:∀F,Is K F d v):EV K X e (ret d):=EV.mk fun _=>PE.imp h fun σ H Q z9=>by
 obtain⟨tg,F,ρ,d',ρ',G,em,q⟩:=z9;obtain⟨rfl,rfl⟩:=jy em;exact q v H F G (Ext.refl _ _ _) (hi F)
theorem bf{i:Int}{j:Nat}:EV K X (.Constant (.int i) j pos) (ret (.int i)):=ev_c a4h fun _=>.int i
theorem aaa{i:Bool}{j:Nat}:EV K X (.Constant (.bool i) j pos) (ret (.bl i)):=ev_c a8s fun _=>.bl i
theorem ahs{j:Nat}:EV K X (.Constant .none j pos) (ret .non):=ev_c a4e fun _=>.non
theorem ig{i:Str}{j:Nat}:EV K X (.Constant (.str i) j pos) (ret (.str i)):=ev_c a4b fun _=>.str i
def T2(K:Fg9)(m:M (D×D))(σ:L2.St)(H:Hp)(R:V->V->Hp->Prop):Prop:=∃tg F ρ p ρ',Good K tg F H ρ σ/\m ρ=some (.ok p,ρ') /\
 ∀x y H' F',Good K tg F' H' ρ' σ->Ext (Own ρ σ) (Own ρ' σ) F H F' H'->Bor K F' H' p.1 x->Bor K F' H' p.2 y->R x y H'
structure E2 (K:Fg9) (X:Cx) (a b:dX) (m:M (D×D)):Prop where
 go:X.K=K->∃ta tb,PE X a ta/\PE X b tb/\∀σ H R,T2 K m σ H R->ta σ H fun x H1=>tb σ H1 fun y H2=>R x y H2
instance {K:Fg9} {X:Cx} {a b:dX} {m:M (D×D)}:CoeFun (E2 K X a b m) fun _=>X.K=K->∃ta tb,PE X a ta/\PE X b tb/\∀σ H R,T2 K m σ H R->ta σ H fun x H1=>tb σ H1 fun y H2=>R x y H2:=⟨E2.go⟩
def fu(m1 m2:M D):M (D×D):=m1.bind fun x=>m2.bind fun y=>ret (x,y)
def dj(i:Nat)(m2:M D):M (D×D):=(dq i).bind fun _=>m2.bind fun y=>(dq i).bind fun x=>ret (x,y)
theorem e2_v{m1 m2:M D}(ha:EV K X a m1)(hb:EB K X b m2):E2 K X a b (fu m1 m2):=E2.mk fun hk=>⟨_,_,ha hk,hb hk,fun σ H R z9=>by
 obtain⟨tg,F,ρ,p,ρ',G,em,q⟩:=z9;obtain⟨d1,ρ1,e1,em⟩:=bj em;obtain⟨d2,ρ2,e2,em⟩:=bj em;obtain⟨rfl,rfl⟩:=jy em;exact⟨tg,F,ρ,d1,ρ1,G,e1,fun x H1 F1 G1 x1 r1=>⟨tg,F1,ρ1,d2,_,G1,e2,fun y H2 F2 G2 x2 r2=>q x y H2 F2 G2 (x1.trans x2) (.inl (r1.mono x2.sub)) r2⟩⟩⟩
theorem e2_n{i:Nat}{m2:M D}(ha:PE X a (tVar i))(hb:EB K X b m2):E2 K X a b (dj i m2):=E2.mk fun hk=>⟨_,_,ha,hb hk,fun σ H R z9=>by
 obtain⟨tg,F,ρ,p,ρ',G,em,q⟩:=z9;obtain⟨d0,ρ0,e0,em⟩:=bj em;obtain⟨d2,ρ2,e2,em⟩:=bj em;obtain⟨d1,ρ1,e1,em⟩:=bj em;obtain⟨rfl,rfl⟩:=jy em;obtain⟨rfl,v,hv,_⟩:=qx G e0;exact⟨v,hv,tg,F,ρ0,d2,ρ2,G,e2,fun y H2 F2 G2 x2 r2=>by
  obtain⟨rfl,v',hv',b'⟩:=qx G2 e1;rw[hv] at hv';cases hv';exact q v y H2 F2 G2 x2 b' r2⟩⟩
end
section
variable{K:Fg9}{X:Cx}{e a b c:dX}{es:List dX}{pos p:Pos}
section
variable{F H:Hp}{x:V}
theorem Bor.lst{l:List D}(g:Same F H)(h:Bor K F H (.lst l) x):∃a vs,x=.ref a/\H a=some (.lst vs)/\IsL K F l vs:=by
 rcases h with h | ⟨a,vs,l',e1,e2,e3,h⟩
 ·cases h with
  | lst e h=>exact⟨_,_,rfl,g _ _ e,h⟩
 ·cases e1;exact⟨a,vs,e2,e3,h⟩
theorem Bor.tup{l:List D}(h:Bor K F H (.tup l) x):∃a vs,x=.ref a/\F a=some (.tup vs)/\IsL K F l vs:=by
 rcases h with h | ⟨a,vs,l',e1,_⟩
 ·cases h with
  | tup e h=>exact⟨_,_,rfl,e,h⟩
 ·cases e1
theorem Bor.kst{l:List D}(h:Bor K F H (.kst l) x):∃a vs,x=.ref a/\SqL K F a vs/\IsL K F l vs:=by
 rcases h with h | ⟨a,vs,l',e1,_⟩
 ·cases h with
  | kst e h=>exact⟨_,_,rfl,e,h⟩
 ·cases e1
theorem Bor.int{i:Int}(h:Bor K F H (.int i) x):x=.int i:=by
 rcases h with h | ⟨a,vs,l',e1,_⟩
 ·cases h;rfl
 ·cases e1
theorem Bor.bl{i:Bool}(h:Bor K F H (.bl i) x):x=.bl i:=by
 rcases h with h | ⟨a,vs,l',e1,_⟩
 ·cases h;rfl
 ·cases e1
theorem Bor.str{i:Str}(h:Bor K F H (.str i) x):x=.str i:=by
 rcases h with h | ⟨a,vs,l',e1,_⟩
 ·cases h;rfl
 ·cases e1
theorem Bor.non(h:Bor K F H .non x):x=.non:=by
 rcases h with h | ⟨a,vs,l',e1,_⟩
 ·cases h;rfl
 ·cases e1
end
def Res(K:Fg9)(tg:Nat->aX)(F H:Hp)(ρ:Ro)(σ:L2.St)(r:Rv)(Q:VK):Prop :=
 ∀v H' F',Good K tg F' H' ρ σ->Ext (Own ρ σ) (Own ρ σ) F H F' H'->relR K r v H (Own ρ σ) F' H' (Own ρ σ)->Q v H'
section
variable{tg:Nat->aX}{F H:Hp}{ρ:Ro}{σ:L2.St}{Q:VK}
theorem Res.same{d:D}{v:V}(G:Good K tg F H ρ σ)(q:Res K tg F H ρ σ (.v d) Q)(h:Is K F d v):Q v H:=q v H F G (Ext.refl _ _ _) h
theorem Res.tup{l:List D}{vs:List V}(G:Good K tg F H ρ σ)(q:Res K tg F H ρ σ (.v (.tup l)) Q)(h:IsL K F l vs){p:aX}(hp:H p=none):Q (.ref p) (upd H p (.tup vs)) :=
 q _ _ _ (G.new hp _) (G.newX hp _) (.tup dh (h.mono (Same.new (G.freeF hp) _)))
theorem Res.lst{l:List D}{vs:List V}(G:Good K tg F H ρ σ)(q:Res K tg F H ρ σ (.fr l) Q)(h:IsL K F l vs){p:aX}(hp:H p=none):Q (.ref p) (upd H p (.lst vs)) :=
 q _ _ _ (G.fresh hp _) (G.freshX hp _) ⟨p,vs,rfl,.inl hp,G.freeF hp,dh,h,fun z=>G.own_ne hp z rfl⟩
end
def rOf(K:Fg9)(g:D->D->Option Rv):R2:=fun x y H Q=>∃tg F ρ σ d1 d2 r,Good K tg F H ρ σ/\Bor K F H d1 x/\Bor K F H d2 y/\g d1 d2=some r/\Res K tg F H ρ σ r Q
structure OpD (K:Fg9) (X:Cx) (f:aD->aD->Sem aD) (g:D->D->Option Rv):Prop where
 go:X.K=K->OpR X f (rOf K g)
instance {K:Fg9} {X:Cx} {f:aD->aD->Sem aD} {g:D->D->Option Rv}:CoeFun (OpD K X f g) fun _=>X.K=K->OpR X f (rOf K g):=⟨OpD.go⟩
def mOp(g:D->D->Option Rv)(m:M (D×D)):M Rv:=m.bind fun p=>lift (g p.1 p.2)
theorem an2{g:D->D->Option Rv}{m:M (D×D)}{ta tb:TE}(h:∀σ H R,T2 K m σ H R->ta σ H fun x H1=>tb σ H1 fun y H2=>R x y H2)(σ:L2.St)(H:Hp)(Q:VK)(t:T K (relR K) (mOp g m) σ H Q):tOp (rOf K g) ta tb σ H Q:=by
 obtain⟨tg,F,ρ,r,ρ',G,em,q⟩:=t;obtain⟨p,ρ1,e1,em⟩:=bj em;obtain⟨e2,rfl⟩:=gk em;refine h σ H _ ⟨tg,F,ρ,p,_,G,e1,fun x y H' F' G' x' bx by'=>⟨tg,F',_,σ,p.1,p.2,r,G',bx,by',e2,fun v H2 F2 G2 x2 rr=>q v H2 F2 G2 (x'.trans x2) ?_⟩⟩
 cases r with
 | v d=>exact rr
 | fr l =>
  obtain⟨a,vs,ev,ha,w⟩:=rr;refine⟨a,vs,ev,?_,w⟩;rcases ha with ha | ha
  ·exact .inl (x'.there a ha)
  ·exact(x'.own a ha).symm
 | tf d l =>
  obtain⟨t,u,a,vs,ev,ht,hd,ha,w⟩:=rr;refine⟨t,u,a,vs,ev,ht,hd,?_,w⟩;rcases ha with ha | ha
  ·exact .inl (x'.there a ha)
  ·exact(x'.own a ha).symm
theorem dw{op:Operator}{g:D->D->Option Rv}{m:M (D×D)}(ho:OpD K X (gF op) g)(h:E2 K X a b m):ER K X (.BinOp a op b pos) (mOp g m):=ER.mk fun hk=>by
 obtain⟨ta,tb,ha,hb,h⟩:=h hk;exact PE.imp (a8q (ho hk) ha hb) (an2 h)
theorem aut{op:uY}{g:D->D->Option Rv}{m:M (D×D)}(ho:OpD K X (fW op) g)(h:E2 K X a b m)(hm:jG op b=false):ER K X (.Compare a [op] [b] pos) (mOp g m):=ER.mk fun hk=>by
 obtain⟨ta,tb,ha,hb,h⟩:=h hk;exact PE.imp (a0u (ho hk) ha hb hm) (an2 h)
def capS:Nat:=16777216
theorem adl{n:Nat}(h:n<=capS):n<=cN:=by rw[fY];exact h
def gAdd:D->D->Option Rv
 | .int i,.int j=>some (.v (.int (i+j)))
 | .tup l,.tup k=>if l.length+k.length<=capS then some (.v (.tup (l++k))) else none
 | .lst l,.lst k=>if l.length+k.length<=capS then some (.fr (l++k)) else none
 | .str i,.str j=>if i.length+j.length<=capS then some (.v (.str (i++j))) else none
 | _,_=>none
theorem jc:OpD K X (gF .Add) gAdd:=OpD.mk fun hk=>by
 intro zv s σ0 H x y v u Q I rx ry z9;obtain⟨tg,F,ρ,σ,d1,d2,r,G,b1,b2,eg,q⟩:=z9;subst hk;unfold gAdd at eg;split at eg
 ·cases eg;obtain rfl:=b1.int;obtain rfl:=b2.int;exact a4t zv s σ0 H _ _ v u Q I rx ry ⟨_,_,rfl,rfl,Res.same G q (.int _)⟩
 ·split at eg
  ·rename_i hz;cases eg;obtain⟨a1,vs1,rfl,s1,i1⟩:=b1.tup;obtain⟨a2,vs2,rfl,s2,i2⟩:=b2.tup;have l1:=i1.length;have l2:=i2.length
   by_cases hx:vs1=[]
   ·subst hx;cases i1;cases rx;cases ry;obtain⟨its,r1,p1,_⟩:=I.tuple (SqT.of (G.sub _ _ s1));obtain⟨its2,r2,p2,_⟩:=I.tuple (SqT.of (G.sub _ _ s2));exact aya p1 p2 (r1.nil_iff.mpr rfl) ⟨.ref a2,H,I,rfl,Res.same G q (.tup s2 i2)⟩
   ·refine a00 zv s σ0 H _ _ v u Q I rx ry ⟨a1,a2,vs1,vs2,rfl,rfl,SqT.of (G.sub _ _ s1),SqT.of (G.sub _ _ s2),hx,by rw[<-l1,<-l2];exact adl hz,fun e =>?_,fun _ p hp=>Res.tup G q (i1.append i2) hp⟩
    subst e;cases i2;exact Res.same G q (.tup s1 (by simpa using i1))
  ·cases eg
 ·split at eg
  ·rename_i hz;cases eg;obtain⟨a1,vs1,rfl,s1,i1⟩:=b1.lst G.sub;obtain⟨a2,vs2,rfl,s2,i2⟩:=b2.lst G.sub;have l1:=i1.length;have l2:=i2.length;exact a4s zv s σ0 H _ _ v u Q I rx ry ⟨a1,a2,vs1,vs2,rfl,rfl,s1,s2,by rw[<-l1,<-l2];exact adl hz,fun p hp=>Res.lst G q (i1.append i2) hp⟩
  ·cases eg
 ·split at eg
  ·rename_i hz;cases eg;obtain rfl:=b1.str;obtain rfl:=b2.str;exact ap3 zv s σ0 H _ _ v u Q I rx ry ⟨_,_,rfl,rfl,adl hz,Res.same G q (.str _)⟩
  ·cases eg
 ·cases eg
def gInt(f:Int->Int->Option Int):D->D->Option Rv
 | .int i,.int j=>(f i j).map fun k=>.v (.int k)
 | _,_=>none
theorem amh{op:Operator}{f:Int->Int->Option Int}{C:Int->Int->Prop}{g:Int->Int->Int}(h:OpR X (gF op) (rI C fun i j=>.int (g i j)))(hf:∀i j k,f i j=some k->C i j/\k=g i j):OpD K X (gF op) (gInt f):=OpD.mk fun hk=>by
 intro zv s σ0 H x y v u Q I rx ry z9;obtain⟨tg,F,ρ,σ,d1,d2,r,G,b1,b2,eg,q⟩:=z9;unfold gInt at eg;split at eg
 ·rename_i i j;obtain rfl:=b1.int;obtain rfl:=b2.int;cases z:f i j with
  | none=>rw[z] at eg;cases eg
  | some k =>
   rw[z] at eg;cases eg;obtain⟨h1,rfl⟩:=hf i j k z;exact h zv s σ0 H _ _ v u Q I rx ry ⟨_,_,rfl,rfl,h1,Res.same G q (.int _)⟩
 ·cases eg
def fSub(i j:Int):Option Int:=some (i - j)
def fMul(i j:Int):Option Int:=if (-18446744073709551616 < i/\i < 18446744073709551616)∨(-18446744073709551616 < j/\j < 18446744073709551616) then some (i*j) else none
theorem a4z{i j:Int}(h0:0 < j)(h:j < 1000000000000000000000000000000000000000000000000000000000000):tE i j=false:=by
 have e2:(2:Nat) ^ 200=1606938044258990275541962092341162602522202993782792835301376:=by decide +kernel
 have hl:j.natAbs.log2 < 200:=(Nat.log2_lt (by omega)).2 (by rw[e2];omega)
 have hd:¬(j.natAbs.log2 / 30+1 > 300):=by omega
 have hj:(j==0)=false:=by
  rw[beq_eq_false_iff_ne];omega
 unfold tE;simp only[hj,mL,if_false,hd,decide_false,uI]
theorem awt:OpR X (gF .FloorDiv) (rI (fun _ j=>0 < j/\j < 1000000000000000000000000000000000000000000000000000000000000) fun i j=>.int (i / j)):=opI fun i j _ _ _ _ _ hc q=>by
 have h1:(0:Int) < j:=hc.1;exact floordiv_int (by omega) (by rw[tY i (by omega)];exact q) (.inl (a4z hc.1 hc.2))
def fDiv(i j:Int):Option Int:=if 0 < j/\j < 1000000000000000000000000000000000000000000000000000000000000 then some (i / j) else none
def fMod(i j:Int):Option Int:=if 0 < j then some (i % j) else none
def fPow(i j:Int):Option Int:=if 0<=j/\j<=1000000/\i.natAbs < 18446744073709551616 then some (i ^ j.toNat) else none
theorem ace:OpD K X (gF .Sub) (gInt fSub):=OpD.mk fun hk=>by
 intro zv s σ0 H x y v u Q I rx ry z9;obtain⟨tg,F,ρ,σ,d1,d2,r,G,b1,b2,eg,q⟩:=z9;unfold gInt at eg;split at eg
 ·obtain rfl:=b1.int;obtain rfl:=b2.int;cases eg;exact a4n zv s σ0 H _ _ v u Q I rx ry ⟨_,_,rfl,rfl,Res.same G q (.int _)⟩
 ·cases eg
end
mutual
def toPy:D->PyData
 | .non=>.none
 | .bl b=>.bool b
 | .int i=>.int i
 | .str x=>.str x
 | .tup l=>.tuple (adu l)
 | .lst l=>.list (adu l)
 | .kst l=>.list (adu l)
 | .dct _=>.dict []
 | .exn _ _=>.dict []
 | .dtt _=>.dict []
def adu:List D->List PyData
 | []=>[]
 | d::r=>toPy d::adu r
end
def okD:Nat->D->Bool
 | _,.non=>true
 | _,.bl _=>true
 | _,.int _=>true
 | _,.str x=>PyData.strOk x
 | n+1,.tup l=>l.all (okD n)
 | n+1,.lst l=>l.all (okD n)
 | n+1,.kst l=>l.all (okD n)
 | _,_=>false
theorem aio{n:Nat}(ih:∀d,okD n d=true->(toPy d).canLay0=true/\(toPy d).depth<=n):∀l:List D,l.all (okD n)=true->xP (adu l)=true/\yR (adu l)<=n
 | [],_=>⟨rfl,gQ _⟩
 | d::r,h=>by
  rw[nP,bG] at h;obtain⟨h1,h2⟩:=ih d h.1;obtain⟨h3,h4⟩:=aio ih r h.2;refine⟨?_,?_⟩
  ·show(PyData.canLay0 (toPy d)&&xP (adu r))=true;rw[h1,h3];rfl
  ·show max (PyData.depth (toPy d)) (yR (adu r))<=n;omega
theorem aar:∀(n:Nat) (d:D),okD n d=true->(toPy d).canLay0=true/\(toPy d).depth<=n
 | n,.non,_=>⟨rfl,gQ _⟩
 | n,.bl _,_=>⟨rfl,gQ _⟩
 | n,.int _,_=>⟨rfl,gQ _⟩
 | n,.str x,h=>by
  refine⟨?_,gQ _⟩;cases n <;> exact h
 | n+1,.tup l,h=>by
  obtain⟨h1,h2⟩:=aio (aar n) l h;exact⟨h1,sJ h2⟩
 | n+1,.lst l,h=>by
  obtain⟨h1,h2⟩:=aio (aar n) l h;exact⟨h1,sJ h2⟩
 | n+1,.kst l,h=>by
  obtain⟨h1,h2⟩:=aio (aar n) l h;exact⟨h1,sJ h2⟩
 | 0,.tup l,h=>by cases h
 | 0,.lst l,h=>by cases h
 | 0,.kst l,h=>by cases h
 | 0,.dct l,h=>by cases h
 | n+1,.dct l,h=>by cases h
 | 0,.exn _ _,h=>by cases h
 | n+1,.exn _ _,h=>by cases h
 | 0,.dtt _,h=>by cases h
 | n+1,.dtt _,h=>by cases h
def eqD(a b:D):Bool:=rP (toPy a) (toPy b)
def eqDs:List D->List D->Bool
 | [],[]=>true
 | a::r,b::t=>eqD a b&&eqDs r t
 | _,_=>false
theorem am6:∀a b:List D,zP (adu a) (adu b)=eqDs a b
 | [],[]=>rfl
 | a::r,b::t=>by
  show(rP (toPy a) (toPy b)&&zP (adu r) (adu t))=_;rw[am6 r t];rfl
 | [],_::_=>rfl
 | _::_,[]=>rfl
section
variable{K:Fg9}{X:Cx}
section
variable{zv:List (aX×Obj)}{σ:L2.St}{F H:Hp}{s:aH}
mutual
theorem yh(I:Inv X zv σ H s)(g:Same F H):∀{n:Nat} {d:D} {v:V} {u:aD},Is X.K F d v->okD n d=true->RelV v u->∃as,Reads s.heap u (toPy d) as
 | _,_,_,_,.non,_,r=>by cases r;exact⟨_,.none⟩
 | _,_,_,_,.bl b,_,r=>by cases r;exact⟨_,.bool b⟩
 | _,_,_,_,.int i,_,r=>by obtain⟨t,rfl⟩:=r;exact⟨_,.int i t⟩
 | _,_,_,_,.str i,_,r=>by obtain⟨t,rfl⟩:=r;exact⟨_,.str i t⟩
 | 0,_,_,_,.tup e h,k,r=>by cases k
 | n+1,_,_,_,.tup e h,k,r=>by
  cases r;obtain⟨its,rv,p1,_⟩:=I.tuple (SqT.of (g _ _ e));obtain⟨o,ho,hc,m,hd⟩:=p1;obtain⟨as,ra⟩:=aa4 I g h k rv;exact⟨_,.tuple ho hc hd (by simpa using ra)⟩
 | 0,_,_,_,.lst e h,k,r=>by cases k
 | n+1,_,_,_,.lst e h,k,r=>by
  cases r;obtain⟨its,rv,p1,_⟩:=I.list (SqL.of (g _ _ e));obtain⟨o,ho,hc,m,hd⟩:=p1.isList;obtain⟨as,ra⟩:=aa4 I g h k rv;exact⟨_,.list ho hc hd (by simpa using ra)⟩
 | 0,_,_,_,.kst e h,k,r=>by cases k
 | n+1,_,_,_,.kst e h,k,r=>by
  cases r;obtain⟨its,rv,p1,_⟩:=I.list (L2.Same.seq g e);obtain⟨o,ho,hc,m,hd⟩:=p1.isList;obtain⟨as,ra⟩:=aa4 I g h k rv;exact⟨_,.list ho hc hd (by simpa using ra)⟩
 | 0,_,_,_,.dct e h,k,r=>by cases k
 | n+1,_,_,_,.dct e h,k,r=>by cases k
 | 0,_,_,_,.exn ..,k,r=>by cases k
 | n+1,_,_,_,.exn ..,k,r=>by cases k
 | 0,_,_,_,.dtt ..,k,r=>by cases k
 | n+1,_,_,_,.dtt ..,k,r=>by cases k
theorem aa4(I:Inv X zv σ H s)(g:Same F H):∀{n:Nat} {ds:List D} {vs:List V} {us:List aD},IsL X.K F ds vs->ds.all (okD n)=true->Vals vs us->∃as,ReadsAll s.heap us (adu ds) as
 | _,_,_,_,.nil,_,r=>by cases r;exact⟨_,.nil⟩
 | n,_,_,_,.cons h t,k,r=>by
  rw[nP,bG] at k;cases r with
  | cons r1 r2 =>
   obtain⟨as,ra⟩:=yh I g h k.1 r1;obtain⟨bs,rb⟩:=aa4 I g t k.2 r2;exact⟨_,.cons ra rb⟩
end
theorem zb(I:Inv X zv σ H s)(g:Same F H){n:Nat}{d:D}{v:V}{u:aD}(h:Bor X.K F H d v)(k:okD n d=true)(r:RelV v u):∃as,Reads s.heap u (toPy d) as:=by
 rcases h with h | ⟨a,vs,l,rfl,rfl,e,h⟩
 ·exact yh I g h k r
 ·cases r;cases n with
  | zero=>cases k
  | succ n =>
   obtain⟨its,rv,p1,_⟩:=I.list (SqL.of e);obtain⟨o,ho,hc,m,hd⟩:=p1.isList;obtain⟨as,ra⟩:=aa4 I g h k rv;exact⟨_,.list ho hc hd (by simpa using ra)⟩
end
def gEq(neg:Bool)(a b:D):Option Rv:=if okD 30 a&&okD 30 b then some (.v (.bl (if neg then !eqD a b else eqD a b))) else none
theorem aj4(hu:X.A.units+64 < cLine):OpD K X (fW .Eq) (gEq false):=OpD.mk fun hk=>by
 intro zv s σ0 H x y v u Q I rx ry z9;obtain⟨tg,F,ρ,σ,d1,d2,r,G,b1,b2,eg,q⟩:=z9;subst hk;unfold gEq at eg;split at eg
 ·rename_i ho;rw[bG] at ho;cases eg;obtain⟨as,ra⟩:=zb I G.sub b1 ho.1 rx;obtain⟨bs,rb⟩:=zb I G.sub b2 ho.2 ry;obtain⟨c1,p1⟩:=aar _ _ ho.1;obtain⟨c2,p2⟩:=aar _ _ ho.2;exact PySem.SeqAt.compareEq_reads ra rb c1 c2 (by omega) ⟨.bl _,H,I,rfl,Res.same G q (.bl _)⟩
 ·cases eg
theorem yj(hu:X.A.units+64 < cLine):OpD K X (fW .NotEq) (gEq true):=OpD.mk fun hk=>by
 intro zv s σ0 H x y v u Q I rx ry z9;obtain⟨tg,F,ρ,σ,d1,d2,r,G,b1,b2,eg,q⟩:=z9;subst hk;unfold gEq at eg;split at eg
 ·rename_i ho;rw[bG] at ho;cases eg;obtain⟨as,ra⟩:=zb I G.sub b1 ho.1 rx;obtain⟨bs,rb⟩:=zb I G.sub b2 ho.2 ry;obtain⟨c1,p1⟩:=aar _ _ ho.1;obtain⟨c2,p2⟩:=aar _ _ ho.2;exact PySem.SeqAt.compareNe_reads ra rb c1 c2 (by omega) ⟨.bl _,H,I,rfl,Res.same G q (.bl _)⟩
 ·cases eg
def itemsD:D->Option (List D)
 | .tup l=>some l
 | .lst l=>some l
 | .kst l=>some l
 | _=>none
def gIn(neg:Bool)(a b:D):Option Rv:=match itemsD b with
 | some l=>if okD 30 a&&l.all (okD 30) then some (.v (.bl (if neg then !l.any (fun y=>eqD y a) else l.any (fun y=>eqD y a)))) else none
 | none=>none
open Classical in
noncomputable def yu(h:fK)(dx:PyData)(u:aD):Bool:=decide (∃d as,Reads h u d as/\d.canLay0=true/\rP d dx=true)
open Classical in
theorem ae7{h:fK}{dx d:PyData}{u:aD}{as:List aX}(r:Reads h u d as)(c:d.canLay0=true):yu h dx u=rP d dx:=by
 unfold yu;cases e:rP d dx with
 | true=>exact decide_eq_true ⟨d,as,r,c,e⟩
 | false =>
  refine decide_eq_false ?_
  rintro⟨d',as',r',c',e'⟩
  rw[<-PySem.SeqAt.Reads.unique d d' u as as' c r r'] at e';rw[e] at e';cases e'
theorem vh{zv:List (aX×Obj)}{σ:L2.St}{F H:Hp}{s:aH}(I:Inv X zv σ H s)(g:Same F H){a:D}{n:Nat}:∀{ds:List D} {vs:List V} {us:List aD},IsL X.K F ds vs->ds.all (okD n)=true->Vals vs us ->
  us.any (yu s.heap (toPy a))=ds.any (fun y=>eqD y a)/\∀u∈us,∃d as,Reads s.heap u d as/\d.canLay0=true/\d.depth<=n
 | _,_,_,.nil,_,r=>by cases r;exact⟨rfl,fun u hu=>by cases hu⟩
 | _,_,_,.cons h t,k,r=>by
  rw[nP,bG] at k;cases r with
  | cons r1 r2 =>
   obtain⟨as,ra⟩:=yh I g h k.1 r1;obtain⟨c,p⟩:=aar _ _ k.1;obtain⟨e,z⟩:=vh I g (a:=a) t k.2 r2;refine⟨?_,fun u hu =>?_⟩
   ·rw[zT,zT,e,ae7 ra c];rfl
   ·rcases bF.mp hu with rfl | hu
    ·exact⟨_,as,ra,c,p⟩
    ·exact z u hu
theorem uo{s:aH}{A:cW}(hu:A.units+64 < cLine){us:List aD}{a:D}{v:aD}{as:List aX}(ra:Reads s.heap v (toPy a) as)(ka:okD 30 a=true)(z:∀u∈us,∃d as,Reads s.heap u d as/\d.canLay0=true/\d.depth<=30) :
  ∀u∈us,SeqAt.EqAt A.in1 s u v (yu s.heap (toPy a) u):=fun u hm=>by
 obtain⟨d,bs,rb,c,p⟩:=z u hm;obtain⟨c2,p2⟩:=aar _ _ ka;rw[ae7 rb c];refine PySem.SeqAt.eqAt_reads d (toPy a) A.in1 s u v bs as rb ra c c2 ?_;show A.units+1+_ < _;omega
theorem ak0{a b:D}{neg:Bool}{r:Rv}(h:gIn neg a b=some r):∃l,itemsD b=some l/\okD 30 a=true/\l.all (okD 30)=true/\r=.v (.bl (if neg then !l.any (fun y=>eqD y a) else l.any (fun y=>eqD y a))):=by
 unfold gIn at h;split at h
 ·rename_i l e;split at h
  ·rename_i ho;rw[bG] at ho;cases h;exact⟨l,e,ho.1,ho.2,rfl⟩
  ·cases h
 ·cases h
theorem afk{F H:Hp}{d:D}{l:List D}{x:V}(g:Same F H)(e:itemsD d=some l)(h:Bor K F H d x):∃a vs,x=.ref a/\IsL K F l vs/\(SqL K H a vs∨SqT K H a vs):=by
 cases d with
 | tup k =>
  cases e;obtain⟨a,vs,rfl,e,h⟩:=h.tup;exact⟨a,vs,rfl,h,.inr (SqT.of (g _ _ e))⟩
 | lst k =>
  cases e;obtain⟨a,vs,rfl,e,h⟩:=h.lst g;exact⟨a,vs,rfl,h,.inl (SqL.of e)⟩
 | kst k =>
  cases e;obtain⟨a,vs,rfl,e,h⟩:=h.kst;exact⟨a,vs,rfl,h,.inl (L2.Same.seq g e)⟩
 | _=>cases e
theorem a4m(hu:X.A.units+64 < cLine):OpD K X (fW .In) (gIn false):=OpD.mk fun hk=>by
 intro zv s σ0 H x y v u Q I rx ry z9;obtain⟨tg,F,ρ,σ,d1,d2,r,G,b1,b2,eg,q⟩:=z9;subst hk;obtain⟨l,e,k1,k2,rfl⟩:=ak0 eg;obtain⟨as,ra⟩:=zb I G.sub b1 k1 rx;obtain⟨p,vs,rfl,hl,hs⟩:=afk G.sub e b2;cases ry;rcases hs with hs | hs
 ·obtain⟨its,rv,pl,_⟩:=I.list hs;obtain⟨ea,z⟩:=vh I G.sub (a:=d1) hl k2 rv;refine SeqAt.in_listAt (yu s.heap (toPy d1)) pl.isList (fun w hw=>uo hu ra k1 z w (by simpa using hw)) ⟨.bl _,H,I,rfl,?_⟩
  rw[show its.toArray.any (yu s.heap (toPy d1))=its.any (yu s.heap (toPy d1)) by simp,ea]
  exact Res.same G q (.bl _)
 ·obtain⟨its,rv,pl,_⟩:=I.tuple hs;obtain⟨ea,z⟩:=vh I G.sub (a:=d1) hl k2 rv;refine SeqAt.in_tupleAt (yu s.heap (toPy d1)) pl (fun w hw=>uo hu ra k1 z w (by simpa using hw)) ⟨.bl _,H,I,rfl,?_⟩
  rw[show its.toArray.any (yu s.heap (toPy d1))=its.any (yu s.heap (toPy d1)) by simp,ea]
  exact Res.same G q (.bl _)
theorem as5(hu:X.A.units+64 < cLine):OpD K X (fW .NotIn) (gIn true):=OpD.mk fun hk=>by
 intro zv s σ0 H x y v u Q I rx ry z9;obtain⟨tg,F,ρ,σ,d1,d2,r,G,b1,b2,eg,q⟩:=z9;subst hk;obtain⟨l,e,k1,k2,rfl⟩:=ak0 eg;obtain⟨as,ra⟩:=zb I G.sub b1 k1 rx;obtain⟨p,vs,rfl,hl,hs⟩:=afk G.sub e b2;cases ry;rcases hs with hs | hs
 ·obtain⟨its,rv,pl,_⟩:=I.list hs;obtain⟨ea,z⟩:=vh I G.sub (a:=d1) hl k2 rv;refine SeqAt.notIn_listAt (yu s.heap (toPy d1)) pl.isList (fun w hw=>uo hu ra k1 z w (by simpa using hw)) ⟨.bl _,H,I,rfl,?_⟩
  rw[show its.toArray.any (yu s.heap (toPy d1))=its.any (yu s.heap (toPy d1)) by simp,ea]
  exact Res.same G q (.bl _)
 ·obtain⟨its,rv,pl,_⟩:=I.tuple hs;obtain⟨ea,z⟩:=vh I G.sub (a:=d1) hl k2 rv;refine SeqAt.notIn_tupleAt (yu s.heap (toPy d1)) pl (fun w hw=>uo hu ra k1 z w (by simpa using hw)) ⟨.bl _,H,I,rfl,?_⟩
  rw[show its.toArray.any (yu s.heap (toPy d1))=its.any (yu s.heap (toPy d1)) by simp,ea]
  exact Res.same G q (.bl _)
end
end Dn
namespace Dn
open L2 Mn
section
variable{K:Fg9}{X:Cx}{e a b c:dX}{es:List dX}{pos p:Pos}
theorem as8:OpD K X (gF .FloorDiv) (gInt fDiv):=amh awt fun i j k h=>by
 unfold fDiv at h;split at h
 ·cases h;exact⟨by assumption,rfl⟩
 ·cases h
theorem acf:OpD K X (gF .Mod) (gInt fMod):=amh a4r fun i j k h=>by
 unfold fMod at h;split at h
 ·cases h;exact⟨by assumption,rfl⟩
 ·cases h
theorem as4:OpD K X (gF .Pow) (gInt fPow):=amh a4p fun i j k h=>by
 unfold fPow at h;split at h
 ·rename_i hc;cases h;exact⟨⟨hc.1,hc.2.1,hc.2.2⟩,rfl⟩
 ·cases h
def gMul:D->D->Option Rv
 | .int i,.int j=>(fMul i j).map fun k=>.v (.int k)
 | .tup l,.int k=>if k=1 then some (.v (.tup l)) else if l≠[]/\2<=k/\k < 9223372036854775808/\l.length*k.toNat<=capS then some (.v (.tup (aV k.toNat l).flatten)) else none
 | .lst l,.int k=>if k.natAbs < 9223372036854775808/\l.length*k.toNat<=capS then some (.fr (aV k.toNat l).flatten) else none
 | _,_=>none
theorem vy:OpD K X (gF .Mult) gMul:=OpD.mk fun hk=>by
 intro zv s σ0 H x y v u Q I rx ry z9;obtain⟨tg,F,ρ,σ,d1,d2,r,G,b1,b2,eg,q⟩:=z9;subst hk;unfold gMul at eg;split at eg
 ·rename_i i j;obtain rfl:=b1.int;obtain rfl:=b2.int;unfold fMul at eg;split at eg
  ·rename_i hc;cases eg;exact a4q zv s σ0 H _ _ v u Q I rx ry ⟨_,_,rfl,rfl,hc,Res.same G q (.int _)⟩
  ·cases eg
 ·rename_i l k;split at eg
  ·rename_i hk1;subst hk1;cases eg;obtain⟨a1,vs1,rfl,s1,i1⟩:=b1.tup;obtain rfl:=b2.int;exact a0y zv s σ0 H _ _ v u Q I rx ry ⟨a1,vs1,rfl,rfl,G.sub _ _ s1,Res.same G q (.tup s1 i1)⟩
  split at eg
  ·rename_i hc;obtain⟨h0,h2,h3,hz⟩:=hc;cases eg;obtain⟨a1,vs1,rfl,s1,i1⟩:=b1.tup;obtain rfl:=b2.int;have l1:=i1.length;refine aws zv s σ0 H _ _ v u Q I rx ry ⟨a1,vs1,k,rfl,rfl,G.sub _ _ s1,?_,h2,h3,by rw[<-l1];exact adl hz,fun p hp=>Res.tup G q (i1.rep _) hp⟩
   intro z;subst z;cases i1;exact h0 rfl
  ·cases eg
 ·rename_i l k;split at eg
  ·rename_i hc;obtain⟨hab,hz⟩:=hc;have h0 : -9223372036854775808<=k:=by omega
   have h2:k < 9223372036854775808:=by omega
   cases eg;obtain⟨a1,vs1,rfl,s1,i1⟩:=b1.lst G.sub;obtain rfl:=b2.int;have l1:=i1.length;exact a4o zv s σ0 H _ _ v u Q I rx ry ⟨a1,k,vs1,rfl,rfl,s1,h0,h2,by rw[<-l1];exact adl hz,fun p hp=>Res.lst G q (i1.rep _) hp⟩
  ·cases eg
 ·cases eg
def gCmp(f:Int->Int->Bool):D->D->Option Rv
 | .int i,.int j=>some (.v (.bl (f i j)))
 | _,_=>none
theorem aif{op:uY}{f:Int->Int->Bool}(h:OpR X (fW op) (rI0 fun i j=>.bl (f i j))):OpD K X (fW op) (gCmp f):=OpD.mk fun hk=>by
 intro zv s σ0 H x y v u Q I rx ry z9;obtain⟨tg,F,ρ,σ,d1,d2,r,G,b1,b2,eg,q⟩:=z9;unfold gCmp at eg;split at eg
 ·cases eg;obtain rfl:=b1.int;obtain rfl:=b2.int;exact h zv s σ0 H _ _ v u Q I rx ry ⟨_,_,rfl,rfl,Res.same G q (.bl _)⟩
 ·cases eg
theorem as6:OpD K X (fW .Lt) (gCmp fun i j=>decide (i < j)):=aif a8u
theorem a4l:OpD K X (fW .LtE) (gCmp fun i j=>decide (i<=j)):=aif a0z
theorem as7:OpD K X (fW .Gt) (gCmp fun i j=>decide (j < i)):=aif a8v
theorem aj3:OpD K X (fW .GtE) (gCmp fun i j=>decide (j<=i)):=aif a8w
def gNeg:D->Option D
 | .int i=>some (.int (-i))
 | _=>none
def mUn(g:D->Option D)(m:M D):M D:=m.bind fun d=>lift (g d)
theorem zy{m:M D}(h:EV K X a m):EV K X (.UnaryOp .USub a pos) (mUn gNeg m):=EV.mk fun hk=>PE.imp (a8p a3b (h hk)) fun σ H Q z9=>by
 obtain⟨tg,F,ρ,d,ρ',G,em,q⟩:=z9;obtain⟨d1,ρ1,e1,em⟩:=bj em;obtain⟨e2,rfl⟩:=gk em;refine⟨tg,F,ρ,d1,_,G,e1,fun v H' F' G' x r =>?_⟩
 cases d1 with
 | int i =>
  cases e2;cases r;exact⟨i,rfl,q _ H' F' G' x (.int _)⟩
 | _=>cases e2
def asB:D->Option Bool
 | .bl b=>some b
 | _=>none
def gNot(d:D):Option D:=(asB d).map fun k=>.bl (!k)
theorem apg{d:D}{k:Bool}(h:asB d=some k):d=.bl k:=by
 cases d with
 | bl b=>cases h;rfl
 | _=>cases h
theorem aup{m:M D}(h:EV K X a m):EV K X (.UnaryOp .Not a pos) (mUn gNot m):=EV.mk fun hk=>PE.imp (a4d (h hk)) fun σ H Q z9=>by
 obtain⟨tg,F,ρ,d,ρ',G,em,q⟩:=z9;obtain⟨d1,ρ1,e1,em⟩:=bj em;obtain⟨e2,rfl⟩:=gk em;refine⟨tg,F,ρ,d1,_,G,e1,fun v H' F' G' x r =>?_⟩
 cases d1 with
 | bl i =>
  cases e2;cases r;exact⟨i,rfl,q _ H' F' G' x (.bl _)⟩
 | _=>cases e2
def mAnd(m1 m2:M D):M D:=m1.bind fun d=>(lift (asB d)).bind fun k=>if k=true then m2 else ret (.bl false)
theorem aou{op}{m:M D}(h:EV K X a m):EV K X (.BoolOp op [a] pos) m:=EV.mk fun hk=>a4c (h hk)
theorem aow{m1 m2:M D}{rest:List dX}(h1:EV K X a m1)(h2:EV K X (.BoolOp .And (b::rest) pos) m2):EV K X (.BoolOp .And (a::b::rest) pos) (mAnd m1 m2):=EV.mk fun hk=>PE.imp (a4j (h1 hk) (h2 hk)) fun σ H Q z9=>by
 obtain⟨tg,F,ρ,d,ρ',G,em,q⟩:=z9;obtain⟨d1,ρ1,e1,em⟩:=bj em;obtain⟨k,ρ2,e2,em⟩:=bj em;obtain⟨e3,rfl⟩:=gk e2;obtain rfl:=apg e3;refine⟨tg,F,ρ,_,_,G,e1,fun v H' F' G' x r =>?_⟩
 cases r;refine⟨k,rfl,?_⟩;cases k with
 | true=>exact iteT ⟨tg,F',_,d,ρ',G',em,fun v2 H2 F2 G2 x2 r2=>q v2 H2 F2 G2 (x.trans x2) r2⟩
 | false =>
  obtain⟨rfl,rfl⟩:=jy (show ret (D.bl false) _=_ from em)
  exact iteF (q _ H' F' G' x (.bl _))
def TB(K:Fg9)(m:M Bool):TT:=fun σ H Q=>∃tg F ρ k ρ',Good K tg F H ρ σ/\m ρ=some (.ok k,ρ')/\∀H' F',Good K tg F' H' ρ' σ->Ext (Own ρ σ) (Own ρ' σ) F H F' H'->Q k H'
structure ET (K:Fg9) (X:Cx) (e:dX) (m:M Bool):Prop where
 go:X.K=K->PT X e (TB K m)
instance {K:Fg9} {X:Cx} {e:dX} {m:M Bool}:CoeFun (ET K X e m) fun _=>X.K=K->PT X e (TB K m):=⟨ET.go⟩
structure EW (K:Fg9) (X:Cx) (e:dX) (m:M Bool):Prop where
 go:X.K=K->PW X e (TB K m)
instance {K:Fg9} {X:Cx} {e:dX} {m:M Bool}:CoeFun (EW K X e m) fun _=>X.K=K->PW X e (TB K m):=⟨EW.go⟩
theorem PT.imp{t t':TT}(h:PT X e t)(w:∀σ H Q,t' σ H Q->t σ H Q):PT X e t':=fun zv s σ H Q I q=>h zv s σ H Q I (w σ H Q q)
theorem PW.imp{t t':TT}(h:PW X e t)(w:∀σ H Q,t' σ H Q->t σ H Q):PW X e t':=fun wh zv s σ H Q I q=>h wh zv s σ H Q I (w σ H Q q)
theorem EW.pt{m:M Bool}(h:EW K X e m):ET K X e m:=ET.mk fun hk=>(h hk).pt
def wg(m:M D):M Bool:=m.bind fun d=>lift (asB d)
theorem avz{m:M D}(σ:L2.St)(H:Hp)(Q:Bool->Hp->Prop)(t:TB K (wg m) σ H Q):tB (T K (relD K) m) σ H Q:=by
 obtain⟨tg,F,ρ,k,ρ',G,em,q⟩:=t;obtain⟨d1,ρ1,e1,em⟩:=bj em;obtain⟨e3,rfl⟩:=gk em;obtain rfl:=apg e3;refine⟨tg,F,ρ,_,_,G,e1,fun v H' F' G' x r =>?_⟩
 cases r;exact⟨k,rfl,q H' F' G' x⟩
theorem xj{m:M D}(h:EV K X e m)(he:∀whole,isTrue e X.env whole=(do let v <-whole;standAt e.pos;mW [v] (truthy v)):=by intro _;rfl):ET K X e (wg m):=ET.mk fun hk=>PT.imp (a3t (h hk) he) avz
def ju(g:D->D->Option Rv)(m:M (D×D)):M Bool:=wg (mOp g m).d
theorem jz{op:uY}{g:D->D->Option Rv}{m:M (D×D)}(ho:OpD K X (fW op) g)(h:E2 K X a b m)(hm:jG op b=false):ET K X (.Compare a [op] [b] pos) (ju g m):=ET.mk fun hk=>by
 obtain⟨ta,tb,ha,hb,h⟩:=h hk;refine PT.imp (a0f (ho hk) ha hb hm) fun σ H Q t =>?_
 obtain⟨tg,F,ρ,k,ρ',G,em,q⟩:=t;obtain⟨d1,ρ1,e1,em⟩:=bj em;obtain⟨e3,rfl⟩:=gk em;obtain rfl:=apg e3;obtain⟨r,ρ2,e1,em⟩:=bj e1;obtain⟨er,rfl⟩:=jy em;refine an2 h σ H _ ⟨tg,F,ρ,r,_,G,e1,fun v H' F' G' x w =>?_⟩
 cases r with
 | v d =>
  have er:d=.bl k:=er;subst er;have w:Is K F' (.bl k) v:=w;cases w;exact⟨k,rfl,q H' F' G' x⟩
 | fr l=>cases er
 | tf d l=>cases er
def ad7(m:M Bool):M Bool:=m.bind fun k=>ret (!k)
theorem ade{m:M Bool}(h:ET K X a m):ET K X (.UnaryOp .Not a pos) (ad7 m):=ET.mk fun hk=>PT.imp (a3u (h hk)) fun σ H Q z9=>by
 obtain⟨tg,F,ρ,k,ρ',G,em,q⟩:=z9;obtain⟨d1,ρ1,e1,em⟩:=bj em;obtain⟨rfl,rfl⟩:=jy em;exact⟨tg,F,ρ,d1,_,G,e1,fun H' F' G' x=>q H' F' G' x⟩
def aw8(m1 m2:M Bool):M Bool:=m1.bind fun k=>if k=true then m2 else ret false
def mOrB(m1 m2:M Bool):M Bool:=m1.bind fun k=>if k=true then ret true else m2
theorem a2e{m:M Bool}(h:ET K X a m):EW K X (.BoolOp .And [a] pos) m:=EW.mk fun hk=>a0e (h hk)
theorem ahr{m:M Bool}(h:ET K X a m):EW K X (.BoolOp .Or [a] pos) m:=EW.mk fun hk=>a3p (h hk)
theorem azd{m1 m2:M Bool}{rest:List dX}(h1:ET K X a m1)(h2:EW K X (.BoolOp .And (b::rest) pos) m2):EW K X (.BoolOp .And (a::b::rest) pos) (aw8 m1 m2):=EW.mk fun hk=>PW.imp (a3q (h1 hk) (h2 hk)) fun σ H Q z9=>by
 obtain⟨tg,F,ρ,d,ρ',G,em,q⟩:=z9;obtain⟨k,ρ1,e1,em⟩:=bj em;refine⟨tg,F,ρ,k,_,G,e1,fun H' F' G' x =>?_⟩
 cases k with
 | true=>exact iteT ⟨tg,F',_,d,ρ',G',em,fun H2 F2 G2 x2=>q H2 F2 G2 (x.trans x2)⟩
 | false =>
  obtain⟨rfl,rfl⟩:=jy (show ret false _=_ from em)
  exact iteF (q H' F' G' x)
theorem am4{m1 m2:M Bool}{rest:List dX}(h1:ET K X a m1)(h2:EW K X (.BoolOp .Or (b::rest) pos) m2):EW K X (.BoolOp .Or (a::b::rest) pos) (mOrB m1 m2):=EW.mk fun hk=>PW.imp (a8k (h1 hk) (h2 hk)) fun σ H Q z9=>by
 obtain⟨tg,F,ρ,d,ρ',G,em,q⟩:=z9;obtain⟨k,ρ1,e1,em⟩:=bj em;refine⟨tg,F,ρ,k,_,G,e1,fun H' F' G' x =>?_⟩
 cases k with
 | false=>exact iteF ⟨tg,F',_,d,ρ',G',em,fun H2 F2 G2 x2=>q H2 F2 G2 (x.trans x2)⟩
 | true =>
  obtain⟨rfl,rfl⟩:=jy (show ret true _=_ from em)
  exact iteT (q H' F' G' x)
def aoc(f g:Int->Int->Bool)(m1 m2 m3:M D):M D:=m1.bind fun x=>m2.bind fun y=>match x,y with
 | .int i,.int j=>if f i j=true then m3.bind fun z=>match z with
  | .int k=>ret (.bl (g j k))
  | _=>lift none
  else ret (.bl false)
 | _,_=>lift none
theorem ava{f g:Int->Int->Bool}{m1 m2 m3:M D}(σ:L2.St)(H:Hp)(Q:VK)(t:T K (relD K) (aoc f g m1 m2 m3) σ H Q) :
  ayl (rI0 fun i j=>.bl (f i j)) (rI0 fun i j=>.bl (g i j)) (T K (relD K) m1) (T K (relD K) m2) (T K (relD K) m3) σ H Q:=by
 obtain⟨tg,F,ρ,d,ρ',G,em,q⟩:=t;obtain⟨d1,ρ1,e1,em⟩:=bj em;obtain⟨d2,ρ2,e2,em⟩:=bj em;have bad:∀{ρ:Ro},(lift (none:Option D)) ρ=some (.ok d,ρ')->False:=fun z=>by
  obtain⟨z,_⟩:=gk z;cases z
 cases d1 with
 | int i =>
  cases d2 with
  | int j =>
   refine⟨tg,F,ρ,_,ρ1,G,e1,fun v H1 F1 G1 x1 r1=>⟨tg,F1,ρ1,_,ρ2,G1,e2,fun v2 H2 F2 G2 x2 r2 =>?_⟩⟩
   cases r1;cases r2;refine⟨i,j,rfl,rfl,f i j,rfl,?_⟩;have em:(if f i j=true then m3.bind fun z=>match z with
    | .int k=>ret (.bl (g j k))
    | _=>lift none
    else ret (.bl false)) ρ2=some (.ok d,ρ'):=em
   by_cases hf:f i j=true
   ·rw[if_pos hf] at em ⊢
    obtain⟨d3,ρ3,e3,em⟩:=bj em;refine⟨tg,F2,ρ2,d3,ρ3,G2,e3,fun v3 H3 F3 G3 x3 r3 =>?_⟩
    cases d3 with
    | int k =>
     obtain⟨rfl,rfl⟩:=jy (show ret (D.bl (g j k)) _=_ from em)
     cases r3;exact⟨j,k,rfl,rfl,q _ H3 F3 G3 ((x1.trans x2).trans x3) (.bl _)⟩
    | _=>exact(bad em).elim
   ·rw[if_neg hf] at em ⊢
    obtain⟨rfl,rfl⟩:=jy em;exact q _ H2 F2 G2 (x1.trans x2) (.bl _)
  | _=>exact(bad em).elim
 | _=>cases d2 <;> exact(bad em).elim
theorem ax0{op op':uY}{f g:Int->Int->Bool}{m1 m2 m3:M D}(ho:OpR X (fW op) (rI0 fun i j=>.bl (f i j)))(ho':OpR X (fW op') (rI0 fun i j=>.bl (g i j)))(h1:EV K X a m1)(h2:EV K X b m2)(h3:EV K X c m3)
  (hm:lastMarks [op,op'] [b,c]=false:=by with_unfolding_all rfl):EV K X (.Compare a [op,op'] [b,c] pos) (aoc f g m1 m2 m3):=EV.mk fun hk=>PE.imp (awn ho ho' (h1 hk) (h2 hk) (h3 hk) hm) ava
def mIf{α:Type}(m:M Bool)(m1 m2:M α):M α:=m.bind fun k=>if k=true then m1 else m2
theorem a94{m:M Bool}{m1 m2:M Rv}(h:ET K X c m)(h1:ER K X a m1)(h2:ER K X b m2):ER K X (.IfExp c a b pos) (mIf m m1 m2):=ER.mk fun hk=>PE.imp (awj (h hk) (h1 hk) (h2 hk)) fun σ H Q z9=>by
 obtain⟨tg,F,ρ,d,ρ',G,em,q⟩:=z9;obtain⟨k,ρ1,e1,em⟩:=bj em;refine⟨tg,F,ρ,k,_,G,e1,fun H' F' G' x =>?_⟩
 have fin:∀{m':M Rv},m' ρ1=some (.ok d,ρ')->T K (relR K) m' σ H' Q:=fun{m'} e'=>⟨tg,F',ρ1,d,ρ',G',e',fun v H2 F2 G2 x2 r2=>q v H2 F2 G2 (x.trans x2) (by
  cases d with
  | v d=>exact r2
  | fr l =>
   obtain⟨a,vs,ev,ha,w⟩:=r2;refine⟨a,vs,ev,?_,w⟩;rcases ha with ha | ha
   ·exact .inl (x.there a ha)
   ·exact(x.own a ha).symm
  | tf d l =>
   obtain⟨t,u,a,vs,ev,ht,hd,ha,w⟩:=r2;refine⟨t,u,a,vs,ev,ht,hd,?_,w⟩;rcases ha with ha | ha
   ·exact .inl (x.there a ha)
   ·exact(x.own a ha).symm)⟩
 cases k with
 | true=>exact iteT (fin em)
 | false=>exact iteF (fin em)
end
section
variable{K:Fg9}{X:Cx}{e a b c:dX}{es:List dX}{pos p p2:Pos}
def TL(K:Fg9)(m:M (List D)):TA:=fun σ H Q=>∃tg F ρ ds ρ',Good K tg F H ρ σ/\m ρ=some (.ok ds,ρ')/\∀vs H' F',Good K tg F' H' ρ' σ->Ext (Own ρ σ) (Own ρ' σ) F H F' H'->IsL K F' ds vs->Q vs H'
structure ED (K:Fg9) (X:Cx) (es:List dX) (m:M (List D)):Prop where
 go:X.K=K->PA X es (TL K m)
instance {K:Fg9} {X:Cx} {es:List dX} {m:M (List D)}:CoeFun (ED K X es m) fun _=>X.K=K->PA X es (TL K m):=⟨ED.go⟩
theorem PA.imp{t t':TA}(h:PA X es t)(w:∀σ H Q,t' σ H Q->t σ H Q):PA X es t':=fun ps zv s σ H Q I q=>h ps zv s σ H Q I (w σ H Q q)
def mNil:M (List D):=ret []
def aq(m:M D)(ms:M (List D)):M (List D):=m.bind fun d=>ms.bind fun ds=>ret (d::ds)
theorem bu:ED K X [] mNil:=ED.mk fun _=>PA.imp aa6 fun σ H Q z9=>by
 obtain⟨tg,F,ρ,ds,ρ',G,em,q⟩:=z9;obtain⟨rfl,rfl⟩:=jy em;exact q [] H F G (Ext.refl _ _ _) .nil
theorem aa{m:M D}{ms:M (List D)}(h:EV K X e m)(t:ED K X es ms)(hs:aQ (e::es) X.env=(false,eval e X.env)::aQ es X.env:=by rfl):ED K X (e::es) (aq m ms):=ED.mk fun hk=>PA.imp (mj (h hk) (t hk) hs) fun σ H Q z9=>by
 obtain⟨tg,F,ρ,ds,ρ',G,em,q⟩:=z9;obtain⟨d,ρ1,e1,em⟩:=bj em;obtain⟨r,ρ2,e2,em⟩:=bj em;obtain⟨rfl,rfl⟩:=jy em;exact⟨tg,F,ρ,d,ρ1,G,e1,fun v H1 F1 G1 x1 r1=>⟨tg,F1,ρ1,r,_,G1,e2,fun vs H2 F2 G2 x2 r2=>q _ H2 F2 G2 (x1.trans x2) (.cons (r1.mono x2.sub) r2)⟩⟩
def gTup(ds:List D):Option D:=if ds.length<=capS then some (.tup ds) else none
def gLst(ds:List D):Option Rv:=if ds.length<=capS then some (.fr ds) else none
def mTup(m:M (List D)):M D:=m.bind fun ds=>lift (gTup ds)
def mLst(m:M (List D)):M Rv:=m.bind fun ds=>lift (gLst ds)
theorem gw{k}{m:M (List D)}(h:ED K X es m):EV K X (.Tuple es k pos) (mTup m):=EV.mk fun hk=>PE.imp (ayv (h hk)) fun σ H Q z9=>by
 obtain⟨tg,F,ρ,d,ρ',G,em,q⟩:=z9;obtain⟨ds,ρ1,e1,em⟩:=bj em;obtain⟨e2,rfl⟩:=gk em;unfold gTup at e2;split at e2
 ·rename_i hz;cases e2;refine⟨tg,F,ρ,ds,_,G,e1,fun vs H1 F1 G1 x1 r1=>⟨by rw[<-r1.length];exact adl hz,fun p hp=>q _ _ _ (G1.new hp _) (x1.trans (G1.newX hp _)) (.tup dh (r1.mono (Same.new (G1.freeF hp) _)))⟩⟩
 ·cases e2
theorem ji{m:M (List D)}(h:ED K X es m):ER K X (.List es pos) (mLst m):=ER.mk fun hk=>PE.imp (a4f (h hk)) fun σ H Q z9=>by
 obtain⟨tg,F,ρ,d,ρ',G,em,q⟩:=z9;obtain⟨ds,ρ1,e1,em⟩:=bj em;obtain⟨e2,rfl⟩:=gk em;unfold gLst at e2;split at e2
 ·rename_i hz;cases e2;refine⟨tg,F,ρ,ds,_,G,e1,fun vs H1 F1 G1 x1 r1=>⟨by rw[<-r1.length];exact adl hz,fun p hp=>q _ _ _ (G1.fresh hp _) (x1.trans (G1.freshX hp _)) ⟨p,vs,rfl,.inl (x1.there p hp),G1.freeF hp,dh,r1,fun z=>G1.own_ne hp z rfl⟩⟩⟩
 ·cases e2
theorem axz{x:Str}{n:Int}{j1 j2:Nat}{p1 p2:Pos}:EV K X (.Dict [some (.Constant (.str x) j1 p1)] [.Constant (.int n) j2 p2] pos) (ret (.dct [(nR x,.int n)])):=EV.mk fun _=>PE.imp awm fun σ H Q z9=>by
 obtain⟨tg,F,ρ,d,ρ',G,em,q⟩:=z9;obtain⟨rfl,rfl⟩:=jy em;exact fun p hp=>q _ _ _ (G.new hp _) (G.newX hp _) (.dct dh (.cons (.int n) .nil))
inductive BorL (K:Fg9) (F H:Hp):List D->List V->Prop
 | nil:BorL K F H [] []
 | cons {d:D} {v:V} {ds:List D} {vs:List V} (h:Bor K F H d v) (t:BorL K F H ds vs):BorL K F H (d::ds) (v::vs)
def TA'(K:Fg9)(m:M (List D)):TA:=fun σ H Q=>∃tg F ρ ds ρ',Good K tg F H ρ σ/\m ρ=some (.ok ds,ρ')/\∀vs H' F',Good K tg F' H' ρ' σ->Ext (Own ρ σ) (Own ρ' σ) F H F' H'->BorL K F' H' ds vs->Q vs H'
structure EA (K:Fg9) (X:Cx) (es:List dX) (m:M (List D)):Prop where
 go:X.K=K->PA X es (TA' K m)
instance {K:Fg9} {X:Cx} {es:List dX} {m:M (List D)}:CoeFun (EA K X es m) fun _=>X.K=K->PA X es (TA' K m):=⟨EA.go⟩
def iu(i:Nat)(ms:M (List D)):M (List D):=(dq i).bind fun _=>ms.bind fun ds=>(dq i).bind fun d=>ret (d::ds)
theorem f9:EA K X [] mNil:=EA.mk fun _=>PA.imp aa6 fun σ H Q z9=>by
 obtain⟨tg,F,ρ,ds,ρ',G,em,q⟩:=z9;obtain⟨rfl,rfl⟩:=jy em;exact q [] H F G (Ext.refl _ _ _) .nil
theorem ea_v{m:M D}{ms:M (List D)}(h:EV K X e m)(t:EA K X es ms)(hs:aQ (e::es) X.env=(false,eval e X.env)::aQ es X.env:=by rfl):EA K X (e::es) (aq m ms):=EA.mk fun hk=>PA.imp (mj (h hk) (t hk) hs) fun σ H Q z9=>by
 obtain⟨tg,F,ρ,ds,ρ',G,em,q⟩:=z9;obtain⟨d,ρ1,e1,em⟩:=bj em;obtain⟨r,ρ2,e2,em⟩:=bj em;obtain⟨rfl,rfl⟩:=jy em;exact⟨tg,F,ρ,d,ρ1,G,e1,fun v H1 F1 G1 x1 r1=>⟨tg,F1,ρ1,r,_,G1,e2,fun vs H2 F2 G2 x2 r2=>q _ H2 F2 G2 (x1.trans x2) (.cons (.inl (r1.mono x2.sub)) r2)⟩⟩
theorem ea_n{i:Nat}{ms:M (List D)}(h:PE X e (tVar i))(t:EA K X es ms)(hs:aQ (e::es) X.env=(false,eval e X.env)::aQ es X.env:=by rfl):EA K X (e::es) (iu i ms):=EA.mk fun hk=>PA.imp (mj h (t hk) hs) fun σ H Q z9=>by
 obtain⟨tg,F,ρ,ds,ρ',G,em,q⟩:=z9;obtain⟨d0,ρ0,e0,em⟩:=bj em;obtain⟨r,ρ2,e2,em⟩:=bj em;obtain⟨d,ρ1,e1,em⟩:=bj em;obtain⟨rfl,rfl⟩:=jy em;obtain⟨rfl,v,hv,_⟩:=qx G e0;exact⟨v,hv,tg,F,ρ0,r,_,G,e2,fun vs H2 F2 G2 x2 r2=>by
  obtain⟨rfl,v',hv',b'⟩:=qx G2 e1;rw[hv] at hv';cases hv';exact q _ H2 F2 G2 x2 (.cons b' r2)⟩
def rcOf(K:Fg9)(g:List D->Option Rv):List V->Hp->VK->Prop:=fun vs H Q=>∃tg F ρ σ ds r,Good K tg F H ρ σ/\BorL K F H ds vs/\g ds=some r/\Res K tg F H ρ σ r Q
structure CallD (K:Fg9) (X:Cx) (f:aD) (g:List D->Option Rv):Prop where
 go:X.K=K->abn X f (rcOf K g)
instance {K:Fg9} {X:Cx} {f:aD} {g:List D->Option Rv}:CoeFun (CallD K X f g) fun _=>X.K=K->abn X f (rcOf K g):=⟨CallD.go⟩
def jf(g:List D->Option Rv)(m:M (List D)):M Rv:=m.bind fun ds=>lift (g ds)
theorem lg{O O1 O2:aX->Prop}{F H F1 H1 F2 H2:Hp}{r:Rv}{v:V}(x:Ext O O1 F H F1 H1)(h:relR K r v H1 O1 F2 H2 O2):relR K r v H O F2 H2 O2:=by
 cases r with
 | v d=>exact h
 | fr l =>
  obtain⟨a,vs,ev,ha,w⟩:=h;refine⟨a,vs,ev,?_,w⟩;rcases ha with ha | ha
  ·exact .inl (x.there a ha)
  ·exact(x.own a ha).symm
 | tf d l =>
  obtain⟨t,u,a,vs,ev,ht,hd,ha,w⟩:=h;refine⟨t,u,a,vs,ev,ht,hd,?_,w⟩;rcases ha with ha | ha
  ·exact .inl (x.there a ha)
  ·exact(x.own a ha).symm
theorem ao9{g:List D->Option Rv}{m:M (List D)}(σ:L2.St)(H:Hp)(Q:VK)(t:T K (relR K) (jf g m) σ H Q):tCB (rcOf K g) (TA' K m) σ H Q:=by
 obtain⟨tg,F,ρ,r,ρ',G,em,q⟩:=t;obtain⟨ds,ρ1,e1,em⟩:=bj em;obtain⟨e2,rfl⟩:=gk em;exact⟨tg,F,ρ,ds,_,G,e1,fun vs H' F' G' x' bl=>⟨tg,F',_,σ,ds,r,G',bl,e2,fun v H2 F2 G2 x2 rr=>q v H2 F2 G2 (x'.trans x2) (lg x' rr)⟩⟩
section
variable{x:Str}{id Ty:String}{g:List D->Option Rv}{m:M (List D)}
theorem dz(hc:CallD K X (.builtin id) g)(hg:Gl X x)(hm:X.mg x=none)(hv:cD x=some (.builtin id))(ha:EA K X (e::es) m)(hn:x ≠ "__name__" := by decide)(hdb:(x==("__debug__" : Str))=false:=by decide)
  (he:aQ (e::es) X.env=(false,eval e X.env)::aQ es X.env:=by rfl) (hpl:(jD pos (aQ es X.env)).any (·.1)=false:=by rfl):ER K X (.Call (.Name x p) (e::es) [] pos) (jf g m):=ER.mk fun hk=>PE.imp (ac1 (hc hk) hg hm hv (ha hk) hn hdb he hpl) ao9
theorem jd(hc:CallD K X (.type Ty) g)(hg:Gl X x)(hm:X.mg x=none)(hv:cD x=some (.type Ty))(ha:EA K X (e::es) m)(hn:x ≠ "__name__" := by decide)(hdb:(x==("__debug__" : Str))=false:=by decide)
  (he:aQ (e::es) X.env=(false,eval e X.env)::aQ es X.env:=by rfl) (hpl:(jD pos (aQ es X.env)).any (·.1)=false:=by rfl):ER K X (.Call (.Name x p) (e::es) [] pos) (jf g m):=ER.mk fun hk=>PE.imp (ac0 (hc hk) hg hm hv (ha hk) hn hdb he hpl) ao9
end
theorem BorL.one{F H:Hp}{d:D}{vs:List V}(h:BorL K F H [d] vs):∃v,vs=[v]/\Bor K F H d v:=by
 cases h with
 | cons h t=>cases t;exact⟨_,rfl,h⟩
theorem BorL.two{F H:Hp}{d d':D}{vs:List V}(h:BorL K F H [d,d'] vs):∃v v',vs=[v,v']/\Bor K F H d v/\Bor K F H d' v':=by
 cases h with
 | cons h t =>
  obtain⟨v',rfl,h'⟩:=t.one;exact⟨_,_,rfl,h,h'⟩
def g1(f:D->Option Rv):List D->Option Rv
 | [d]=>f d
 | _=>none
def g2(f:D->D->Option Rv):List D->Option Rv
 | [d,d']=>f d d'
 | _=>none
theorem ahw{f:D->Option Rv}{w:aD} (h:X.K=K->∀(zv:List (aX×Obj)) (s:aH) (σ0:L2.St) (H:Hp) (x:V) (u:aD) (Q:VK) (tg:Nat->aX) (F:Hp) (ρ:Ro) (σ:L2.St) (d:D) (r:Rv),Inv X zv σ0 H s->RelV x u->Good K tg F H ρ σ->Bor K F H d x->f d=some r->Res K tg F H ρ σ r Q ->
  bL (bU X.prog X.w) X.A (call w [u]) (EP X zv σ0 Q) X.xe s):CallD K X w (g1 f):=CallD.mk fun hk=>by
 intro zv s σ0 H xs us Q I r z9;obtain⟨tg,F,ρ,σ,ds,rv,G,bl,eg,q⟩:=z9
 match ds,eg with
 | [d],eg =>
  obtain⟨v,rfl,bv⟩:=bl.one;obtain⟨u,rfl,ru⟩:=vals1 r;exact h hk zv s σ0 H v u Q tg F ρ σ d rv I ru G bv eg q
theorem j9:CallD K X (.builtin "len") (g1 fun d=>(itemsD d).map fun l=>.v (.int l.length)):=ahw fun hk zv s σ0 H x u Q tg F ρ σ d r I ru G bd eg q=>by
 subst hk;cases e:itemsD d with
 | none=>rw[e] at eg;cases eg
 | some l =>
  rw[e] at eg;cases eg;obtain⟨a,vs,rfl,hl,hs⟩:=afk G.sub e bd;have q':=Res.same G q (.int _);rw[hl.length] at q';exact ali zv s σ0 H [.ref a] [u] Q I (.cons ru .nil) ⟨a,vs,rfl,hs,q'⟩
def aau:List D->Option (List Bool)
 | []=>some []
 | .bl b::r=>(aau r).map (b :: ·)
 | _::_=>none
theorem alo:∀{l:List D} {bs:List Bool},aau l=some bs->l=bs.map D.bl
 | [],_,h=>by cases h;rfl
 | .bl b::r,bs,h=>by
  have h':(aau r).map (b :: ·)=some bs:=h;cases e:aau r with
  | none=>rw[e] at h';cases h'
  | some t =>
   rw[e] at h';cases h';rw[alo e];rfl
 | .non::_,_,h=>by cases h
 | .int _::_,_,h=>by cases h
 | .str _::_,_,h=>by cases h
 | .tup _::_,_,h=>by cases h
 | .lst _::_,_,h=>by cases h
 | .kst _::_,_,h=>by cases h
 | .dct _::_,_,h=>by cases h
@[simp] theorem ahx(bs:List Bool):aau (bs.map D.bl)=some bs:=by
 induction bs with
 | nil=>rfl
 | cons b r ih=>show(aau (r.map D.bl)).map (b :: ·)=_;rw[ih];rfl
def gAll:D->Option Rv
 | .lst l=>(aau l).map fun bs=>.v (.bl (bs.all id))
 | _=>none
theorem azi(hc:X.calm=true):CallD K X (.builtin "all") (g1 gAll):=ahw fun hk zv s σ0 H x u Q tg F ρ σ d r I ru G bd eg q=>by
 subst hk;cases d with
 | lst l =>
  have eg:(aau l).map (fun bs=>Rv.v (.bl (bs.all id)))=some r:=eg
  cases e:aau l with
  | none=>rw[e] at eg;cases eg
  | some bs =>
   rw[e] at eg;cases eg;obtain⟨a,vs,rfl,ea,hl⟩:=bd.lst G.sub;rw[alo e] at hl;rw[hl.bl_inv] at ea;exact ayc hc zv s σ0 H [.ref a] [u] Q I (.cons ru .nil) ⟨a,bs,rfl,SqL.of ea,Res.same G q (.bl _)⟩
 | _=>cases eg
def axs:D->Option Rv
 | .int i=>some (.v (.int i))
 | .bl k=>some (.v (.int (if k then 1 else 0)))
 | _=>none
theorem a6o:CallD K X (.type "int") (g1 axs):=ahw fun hk zv s σ0 H x u Q tg F ρ σ d r I ru G bd eg q=>by
 cases d with
 | int i =>
  cases eg;obtain rfl:=bd.int;exact alk zv s σ0 H [_] [u] Q I (.cons ru .nil) (.inl ⟨i,rfl,Res.same G q (.int _)⟩)
 | bl k =>
  cases eg;obtain rfl:=bd.bl;exact alk zv s σ0 H [_] [u] Q I (.cons ru .nil) (.inr ⟨k,rfl,Res.same G q (.int _)⟩)
 | _=>cases eg
theorem ux:CallD K X (.type "tuple") (g1 fun d=>(itemsD d).map fun l=>.v (.tup l)):=ahw fun hk zv s σ0 H x u Q tg F ρ σ d r I ru G bd eg q=>by
 subst hk;cases d with
 | tup l =>
  cases eg;obtain⟨a,vs,rfl,ea,hl⟩:=bd.tup;exact aao zv s σ0 H [_] [u] Q I (.cons ru .nil) ⟨a,vs,rfl,.inr ⟨SqT.of (G.sub _ _ ea),Res.same G q (.tup ea hl)⟩⟩
 | lst l =>
  cases eg;obtain⟨a,vs,rfl,ea,hl⟩:=bd.lst G.sub;exact aao zv s σ0 H [_] [u] Q I (.cons ru .nil) ⟨a,vs,rfl,.inl ⟨SqL.of ea,fun p hp=>Res.tup G q hl hp⟩⟩
 | kst l =>
  cases eg;obtain⟨a,vs,rfl,ea,hl⟩:=bd.kst;exact aao zv s σ0 H [_] [u] Q I (.cons ru .nil) ⟨a,vs,rfl,.inl ⟨L2.Same.seq G.sub ea,fun p hp=>Res.tup G q hl hp⟩⟩
 | _=>cases eg
theorem acs:CallD K X (.type "list") (g1 fun d=>(itemsD d).map fun l=>.fr l):=ahw fun hk zv s σ0 H x u Q tg F ρ σ d r I ru G bd eg q=>by
 subst hk;cases e:itemsD d with
 | none=>rw[e] at eg;cases eg
 | some l =>
  rw[e] at eg;cases eg;obtain⟨a,vs,rfl,hl,hs⟩:=afk G.sub e bd;exact alh zv s σ0 H [_] [u] Q I (.cons ru .nil) ⟨a,vs,rfl,hs,fun p hp=>Res.lst G q hl hp⟩
theorem azg{f:D->D->Option Rv}{w:aD} (h:X.K=K->∀(zv:List (aX×Obj)) (s:aH) (σ0:L2.St) (H:Hp) (x y:V) (u v:aD) (Q:VK) (tg:Nat->aX) (F:Hp) (ρ:Ro) (σ:L2.St) (d d':D) (r:Rv),Inv X zv σ0 H s->RelV x u->RelV y v->Good K tg F H ρ σ->Bor K F H d x->Bor K F H d' y->f d d'=some r->Res K tg F H ρ σ r Q ->
  bL (bU X.prog X.w) X.A (call w [u,v]) (EP X zv σ0 Q) X.xe s):CallD K X w (g2 f):=CallD.mk fun hk=>by
 intro zv s σ0 H xs us Q I r z9;obtain⟨tg,F,ρ,σ,ds,rv,G,bl,eg,q⟩:=z9
 match ds,eg with
 | [d,d'],eg =>
  obtain⟨v,v',rfl,bv,bv'⟩:=bl.two;obtain⟨u,w,rfl,ru,rw'⟩:=vals2 r;exact h hk zv s σ0 H v v' u w Q tg F ρ σ d d' rv I ru rw' G bv bv' eg q
theorem azh(hc:X.calm=true):CallD K X (.builtin "max") (g2 (gInt fun i j=>some (if j > i then j else i))):=azg fun hk zv s σ0 H x y u v Q tg F ρ σ d d' r I ru rv G bd bd' eg q=>by
 unfold gInt at eg;split at eg
 ·cases eg;obtain rfl:=bd.int;obtain rfl:=bd'.int;exact avf hc zv s σ0 H [_,_] [u,v] Q I (.cons ru (.cons rv .nil)) ⟨_,_,rfl,Res.same G q (.int _)⟩
 ·cases eg
theorem alm:abn X (.builtin "divmod") (fun xs H Q=>∃i j,xs=[.int i,.int j]/\(0 < j/\j < 1000000000000000000000000000000000000000000000000000000000000)/\∀p,H p=none->Q (.ref p) (upd H p (.tup [.int (i / j),.int (i % j)]))):=by
 intro zv s σ H xs us Q I r h;obtain⟨i,j,rfl,hj,q⟩:=h;obtain⟨u,w',rfl,⟨t,rfl⟩,⟨t',rfl⟩⟩:=vals2 r;have h1:=hj.1;refine divmod_int (by omega) ?_ (.inl (a4z hj.1 hj.2))
 rw[tY i (by omega),tX i (by omega)]
 refine⟨.ref s.heap.objs.size,_,?_,rfl,q _ (I.hok.fresh (aN _))⟩;exact I.laid (fun b o e=>aB _ e) (aN _) ⟨by simp only[bN,qG];rw[fY];decide,[.int (i / j) s.toks,.int (i % j) (s.toks+1)],.cons ⟨_,rfl⟩ (.cons ⟨_,rfl⟩ .nil),⟨_,aO s.heap rfl,rfl,rfl,0,rfl⟩⟩
def ai0:D->D->Option Rv
 | .int i,.int j=>if 0 < j/\j < 1000000000000000000000000000000000000000000000000000000000000 then some (.v (.tup [.int (i / j),.int (i % j)])) else none
 | _,_=>none
theorem avc:CallD K X (.builtin "divmod") (g2 ai0):=azg fun hk zv s σ0 H x y u v Q tg F ρ σ d d' r I ru rv G bd bd' eg q=>by
 unfold ai0 at eg;split at eg
 ·split at eg
  ·rename_i hc;cases eg;obtain rfl:=bd.int;obtain rfl:=bd'.int;exact alm zv s σ0 H [_,_] [u,v] Q I (.cons ru (.cons rv .nil)) ⟨_,_,rfl,hc,fun p hp=>Res.tup G q (.cons (.int _) (.cons (.int _) .nil)) hp⟩
  ·cases eg
 ·cases eg
inductive Ty where
 | int | bool | tuple | list | str | dict
def Ty.nm:Ty->String
 | .int => "int" | .bool => "bool" | .tuple => "tuple" | .list => "list" | .str => "str" | .dict => "dict"
def tyD:D->aD
 | .non=>.type "NoneType"
 | .bl _=>.type "bool"
 | .int _=>.type "int"
 | .str _=>.type "str"
 | .tup _=>.type "tuple"
 | .lst _=>.type "list"
 | .kst _=>.type "list"
 | .dct _=>.type "dict"
 | .exn _ _=>.type "NoneType"
 | .dtt _=>.type "dict"
def isTy:Ty->D->Bool
 | .int,.int _=>true
 | .int,.bl _=>true
 | .bool,.bl _=>true
 | .tuple,.tup _=>true
 | .list,.lst _=>true
 | .list,.kst _=>true
 | .str,.str _=>true
 | .dict,.dct _=>true
 | .dict,.dtt _=>true
 | _,_=>false
theorem ay5(t:Ty)(d:D):gY K (tyD d) (.type t.nm)=some (isTy t d):=by
 cases d <;> cases t <;> kernel_rfl
theorem avh{X:Cx}:abn X (.builtin "isinstance") (fun xs H Q=>∃F d x t,xs=[x,.ty (Ty.nm t)]/\Same F H/\Bor X.K F H d x/\Q (.bl (isTy t d)) H):=by
 intro zv s σ H xs us Q I r z9;obtain⟨F,d,x,t,e,g,h,q⟩:=z9;subst e;obtain⟨u,w',rfl,r1,r2⟩:=vals2 r;obtain rfl:w'=kI t.nm:=r2;have fin:∀tk,EP X zv σ Q (.bool (isTy t d)) { s with toks:=tk }:=fun tk=>⟨.bl _,H,I.tok tk,rfl,q⟩
 have go:TyOf X.K H x (tyD d)->bL (bU X.prog X.w) X.A (call (.builtin "isinstance") [u,.type t.nm]) (EP X zv σ Q) X.xe s:=fun ty=>at6 I r1 ty (ay5 t d) fin
 cases d with
 | non=>obtain rfl:=h.non;exact go .non
 | bl b=>obtain rfl:=h.bl;exact go (.bl b)
 | int b=>obtain rfl:=h.int;exact go (.int b)
 | str b=>obtain rfl:=h.str;exact go (.str b)
 | tup b=>obtain⟨a,vs,rfl,e,_⟩:=h.tup;exact go (.tup (g _ _ e))
 | lst b=>obtain⟨a,vs,rfl,e,_⟩:=h.lst g;exact go (.lst e)
 | kst b =>
  obtain⟨a,vs,rfl,e,_⟩:=h.kst;cases(show u=dF a from r1)
  obtain⟨its,_,pl,_⟩:=I.list (L2.Same.seq g e);obtain⟨o,ho,hc,n,hd⟩:=pl.isList;exact eH rO I.kIn ⟨o,ho,hc⟩ (ay5 t (.kst b)) (fun z=>nomatch z) fin
 | dct b =>
  rcases h with h | ⟨a,vs,l',e1,_⟩
  ·cases h with
   | dct e h=>exact go (.dK (g _ _ e))
  ·cases e1
 | dtt b =>
  rcases h with h | ⟨a,vs,l',e1,_⟩
  ·cases h with
   | dtt e=>exact go (.dT (g _ _ e))
  ·cases e1
 | exn c fs =>
  rcases h with h | ⟨a,vs,l',e1,_⟩
  ·cases h with
   | @exn a C c dx fs e hc hk hf =>
    cases(show u=dF a from r1)
    obtain⟨⟨oe,ws,h1,h2,h3,h4⟩,_⟩:=(show uv X.prog X.w H s.heap a (.ext (exO a C dx)) from I.hok a _ (g _ _ e))
    have hno:jP oe=true:=by unfold jP;rw[h4]
    have ia:∃ox od,gJ s.heap a ox C od:=by
     rcases hf with⟨rfl,_⟩ | ⟨d,rfl,hd⟩
     ·exact⟨oe,none,h1,h2,hno,by rw[h3];trivial⟩
     ·obtain⟨mA,⟨od,_,_,e1,_⟩,_⟩:=(show uv X.prog X.w H s.heap d (.xd _) from I.hok d _ (g _ _ hd))
      exact⟨oe,some od,h1,h2,hno,by rw[h3];exact e1⟩
    have kq:gY X.K (.ref C) (.type t.nm)=some false:=by
     have h5:gW X.K (.ref C) (.type t.nm)=some false:=hk.no _ (by cases t <;> simp[Ty.nm])
     have h6:yQ t.nm=true:=by cases t <;> kernel_rfl
     unfold gY zG;rw[if_neg (by simp)]
     show(if yQ t.nm=true then gW X.K (.ref C) (.type t.nm) else none)=some false
     rw[if_pos h6];exact h5
    have e7:isTy t (.exn c fs)=false:=by cases t <;> rfl
    exact eH (aoh hk) I.kIn ia kq (fun z=>nomatch z) fun tk=>e7▸fin tk
  ·cases e1
def mIsi(t:Ty)(m:M D):M D:=m.bind fun d=>ret (.bl (isTy t d))
theorem agi{t:Ty}{tn:dX}{m:M D}{x:Str}(ht:PE X tn (tC (.ty t.nm)))(hg:Gl X x)(hm:X.mg x=none)(hv:cD x=some (.builtin "isinstance"))(h:EB K X e m)(hn:x ≠ "__name__" := by decide)(hdb:(x==("__debug__" : Str))=false:=by decide)
  (h1:aQ [tn] X.env=(false,eval tn X.env)::aQ [] X.env:=by rfl) (he:aQ [e,tn] X.env=(false,eval e X.env)::aQ [tn] X.env:=by rfl) (hpl:(jD pos (aQ [tn] X.env)).any (·.1)=false:=by rfl) :
  EV K X (.Call (.Name x p) [e,tn] [] pos) (mIsi t m):=EV.mk fun hk=>by
 refine PE.imp (ac1 avh hg hm hv (mj (h hk) (mj ht aa6 h1) he) hn hdb he hpl) fun σ H Q z9 =>?_
 obtain⟨tg,F,ρ,d,ρ',G,em,q⟩:=z9;obtain⟨d1,ρ1,e1,em⟩:=bj em;obtain⟨rfl,rfl⟩:=jy em;subst hk;exact⟨tg,F,ρ,d1,_,G,e1,fun v H' F' G' x bv=>⟨F',d1,v,t,rfl,G'.sub,bv,q _ H' F' G' x (.bl _)⟩⟩
def gIx(d i:D):Option Rv:=match i with
 | .int k=>(itemsD d).bind fun l=>(atI l k).map fun x=>.v x
 | _=>none
theorem a6t{F:Hp}{l:List D}{vs:List V}{k:Int}{d:D}(h:IsL K F l vs)(e:atI l k=some d):∃v,atI vs k=some v/\Is K F d v:=by
 unfold atI at e ⊢
 rw[h.length] at e;cases q:ixN vs.length k with
 | none=>rw[q] at e;cases e
 | some j =>
  rw[q] at e;obtain⟨v,e1,e2⟩:=h.get (i:=j) e;exact⟨v,e1,e2⟩
theorem ixd:X.K=K->IxR X (rOf K gIx):=fun hk=>by
 intro value slice zv s σ0 H x y v u Q I rx ry z9 hs;obtain⟨tg,F,ρ,σ,d1,d2,r,G,b1,b2,eg,q⟩:=z9;subst hk;cases d2 with
 | int k =>
  have eg:(itemsD d1).bind (fun l=>(atI l k).map fun x=>Rv.v x)=some r:=eg
  cases e:itemsD d1 with
  | none=>rw[e] at eg;cases eg
  | some l =>
   rw[e] at eg;have eg:(atI l k).map (fun x=>Rv.v x)=some r:=eg
   cases e2:atI l k with
   | none=>rw[e2] at eg;cases eg
   | some d =>
    rw[e2] at eg;cases eg;obtain⟨a,vs,rfl,hl,hq⟩:=afk G.sub e b1;obtain rfl:=b2.int;obtain⟨z,hz,iz⟩:=a6t hl e2;rcases hq with hq | hq
    ·exact a1i value slice zv s σ0 H _ _ v u Q I rx ry ⟨a,vs,k,z,rfl,rfl,hq,hz,Res.same G q iz⟩ hs
    ·exact a5v value slice zv s σ0 H _ _ v u Q I rx ry ⟨a,vs,k,z,rfl,rfl,hq,hz,Res.same G q iz⟩ hs
 | _=>cases eg
theorem jx{m:M (D×D)}(h:E2 K X a b m)(hs:ank b):ER K X (.Subscript a b pos) (mOp gIx m):=ER.mk fun hk=>by
 obtain⟨ta,tb,ha,hb,h⟩:=h hk;exact PE.imp (a4g (ixd hk) ha hb hs) (an2 h)
def TOp(K:Fg9)(m:M (Option Int)):TO:=fun σ H Q=>∃tg F ρ o ρ',Good K tg F H ρ σ/\m ρ=some (.ok o,ρ')/\∀H' F',Good K tg F' H' ρ' σ->Ext (Own ρ σ) (Own ρ' σ) F H F' H'->Q o H'
structure EO (K:Fg9) (X:Cx) (e:Option dX) (m:M (Option Int)):Prop where
 go:X.K=K->PO X e (TOp K m)
instance {K:Fg9} {X:Cx} {e:Option dX} {m:M (Option Int)}:CoeFun (EO K X e m) fun _=>X.K=K->PO X e (TOp K m):=⟨EO.go⟩
theorem PO.imp{eo:Option dX}{t t':TO}(h:PO X eo t)(w:∀σ H Q,t' σ H Q->t σ H Q):PO X eo t':=fun zv s σ H Q I q=>h zv s σ H Q I (w σ H Q q)
theorem am8:EO K X none (ret none):=EO.mk fun _=>PO.imp a0o fun σ H Q z9=>by
 obtain⟨tg,F,ρ,o,ρ',G,em,q⟩:=z9;obtain⟨rfl,rfl⟩:=jy em;exact q H F G (Ext.refl _ _ _)
def asI:D->Option Int
 | .int i=>some i
 | _=>none
theorem apf{d:D}{k:Int}(h:asI d=some k):d=.int k:=by
 cases d with
 | int b=>cases h;rfl
 | _=>cases h
def aiu(m:M D):M (Option Int):=m.bind fun d=>lift ((asI d).map some)
theorem agj{m:M D}(h:EV K X e m):EO K X (some e) (aiu m):=EO.mk fun hk=>PO.imp (a0n (h hk)) fun σ H Q z9=>by
 obtain⟨tg,F,ρ,o,ρ',G,em,q⟩:=z9;obtain⟨d,ρ1,e1,em⟩:=bj em;obtain⟨e2,rfl⟩:=gk em;refine⟨tg,F,ρ,d,_,G,e1,fun v H' F' G' x r =>?_⟩
 cases d with
 | int i =>
  cases e2;cases r;exact⟨i,rfl,q H' F' G' x⟩
 | _=>cases e2
def cutD(l:List D)(lo hi:Option Int):List D:=(l.drop (HT.sIx l.length 0 lo)).take (HT.sIx l.length l.length hi - HT.sIx l.length 0 lo)
theorem au3{F:Hp}{l:List D}{vs:List V}(h:IsL K F l vs)(lo hi:Option Int):IsL K F (cutD l lo hi) (cutV vs lo hi):=by
 unfold cutD cutV;rw[h.length];exact(h.drop _).take _
def gCut(d:D)(lo hi:Option Int):Option Rv:=match d with
 | .tup l=>some (.v (.tup (cutD l lo hi)))
 | .lst l=>some (.fr (cutD l lo hi))
 | .kst l=>some (.fr (cutD l lo hi))
 | _=>none
def rsOf(K:Fg9):V->Option Int->Option Int->Hp->VK->Prop:=fun x lo hi H Q=>∃tg F ρ σ d r,Good K tg F H ρ σ/\Bor K F H d x/\gCut d lo hi=some r/\Res K tg F H ρ σ r Q
theorem sld(hk:X.K=K):SlR X (rsOf K):=by
 intro zv s σ0 H x v vl vu lo hi sl Q I rx hs pl pu z9;obtain⟨tg,F,ρ,σ,d,r,G,bd,eg,q⟩:=z9;subst hk;cases d with
 | tup l =>
  cases eg;obtain⟨a,vs,rfl,ea,hl⟩:=bd.tup
  by_cases hw:HT.sIx vs.length 0 lo=0/\HT.sIx vs.length vs.length hi=vs.length
  ·have ec:cutD l lo hi=l:=by
    unfold cutD;rw[hl.length,hw.1,hw.2,zJ,Nat.sub_zero,<-hl.length,yM]
   rw[ec] at q;cases rx;obtain⟨its,r,ht,hz⟩:=I.tuple (SqT.of (G.sub _ _ ea));have hlen:its.toArray.size=vs.length:=by rw[aU];exact r.length.symm
   refine⟨"tuple", _,fG.lookup,ht.typeIs,?_⟩;exact acj ht hs pl pu (by rw[hlen];exact hw.1) (by rw[hlen];exact hw.2) ⟨.ref a,H,I,rfl,Res.same G q (.tup ea hl)⟩
  ·exact a3j zv s σ0 H _ v vl vu lo hi sl Q I rx hs pl pu ⟨a,vs,rfl,SqT.of (G.sub _ _ ea),hw,fun p hp=>Res.tup G q (au3 hl lo hi) hp⟩
 | lst l =>
  cases eg;obtain⟨a,vs,rfl,ea,hl⟩:=bd.lst G.sub;exact ar6 zv s σ0 H _ v vl vu lo hi sl Q I rx hs pl pu ⟨a,vs,rfl,SqL.of ea,fun p hp=>Res.lst G q (au3 hl lo hi) hp⟩
 | kst l =>
  cases eg;obtain⟨a,vs,rfl,ea,hl⟩:=bd.kst;exact ar6 zv s σ0 H _ v vl vu lo hi sl Q I rx hs pl pu ⟨a,vs,rfl,L2.Same.seq G.sub ea,fun p hp=>Res.lst G q (au3 hl lo hi) hp⟩
 | _=>cases eg
def mCut(m:M D)(ml mh:M (Option Int)):M Rv:=m.bind fun d=>ml.bind fun lo=>mh.bind fun hi=>lift (gCut d lo hi)
def ati(i:Nat)(ml mh:M (Option Int)):M Rv:=(dq i).bind fun _=>ml.bind fun lo=>mh.bind fun hi=>(dq i).bind fun d=>lift (gCut d lo hi)
theorem aze{m:M D}{ml mh:M (Option Int)}{lo hi:Option dX}(h:EV K X a m)(hl:EO K X lo ml)(hh:EO K X hi mh):ER K X (.Subscript a (.Slice lo hi none p2) pos) (mCut m ml mh):=ER.mk fun hk=>PE.imp (anx (sld hk) (h hk) (hl hk) (hh hk)) fun σ H Q z9=>by
 obtain⟨tg,F,ρ,r,ρ',G,em,q⟩:=z9;obtain⟨d,ρ1,e1,em⟩:=bj em;obtain⟨o1,ρ2,e2,em⟩:=bj em;obtain⟨o2,ρ3,e3,em⟩:=bj em;obtain⟨e4,rfl⟩:=gk em;refine⟨tg,F,ρ,d,ρ1,G,e1,fun v H1 F1 G1 x1 r1=>⟨tg,F1,ρ1,o1,ρ2,G1,e2,fun H2 F2 G2 x2=>⟨tg,F2,ρ2,o2,_,G2,e3,fun H3 F3 G3 x3 =>?_⟩⟩⟩
 exact⟨tg,F3,_,σ,d,r,G3,.inl ((r1.mono x2.sub).mono x3.sub),e4,fun v' H4 F4 G4 x4 rr=>q v' H4 F4 G4 (((x1.trans x2).trans x3).trans x4) (lg ((x1.trans x2).trans x3) rr)⟩
theorem aus{i:Nat}{ml mh:M (Option Int)}{lo hi:Option dX}(h:PE X a (tVar i))(hl:EO K X lo ml)(hh:EO K X hi mh):ER K X (.Subscript a (.Slice lo hi none p2) pos) (ati i ml mh):=ER.mk fun hk=>PE.imp (anx (sld hk) h (hl hk) (hh hk)) fun σ H Q z9=>by
 obtain⟨tg,F,ρ,r,ρ',G,em,q⟩:=z9;obtain⟨d0,ρ0,e0,em⟩:=bj em;obtain⟨o1,ρ2,e2,em⟩:=bj em;obtain⟨o2,ρ3,e3,em⟩:=bj em;obtain⟨d,ρ4,e1,em⟩:=bj em;obtain⟨e4,rfl⟩:=gk em;obtain⟨rfl,v,hv,_⟩:=qx G e0;refine⟨v,hv,tg,F,ρ0,o1,ρ2,G,e2,fun H2 F2 G2 x2=>⟨tg,F2,ρ2,o2,_,G2,e3,fun H3 F3 G3 x3 =>?_⟩⟩
 obtain⟨rfl,v',hv',b'⟩:=qx G3 e1;rw[hv] at hv';cases hv';exact⟨tg,F3,_,σ,d,r,G3,b',e4,fun v' H4 F4 G4 x4 rr=>q v' H4 F4 G4 ((x2.trans x3).trans x4) (lg (x2.trans x3) rr)⟩
end
inductive Fl where
 | nx | ret (r:Rv) | brk | cont | exc (x:Exn)
abbrev Sd:=Ro->Option (Fl×Ro)
section
variable{K:Fg9}{X:Cx}{e a b c tgt:dX}{es:List dX}{pos p p2:Pos}{st:iJ}{ss:List iJ}
def FlOk(K:Fg9)(tg:Nat->aX)(ρ:Ro)(σ:L2.St)(F H:Hp)(E:Ends)(fl:Fl)(ρ':Ro):Prop:=match fl with
 | .nx=>∀σ' H' F',Good K tg F' H' ρ' σ'->Ext (Own ρ σ) (Own ρ' σ') F H F' H'->E.nx σ' H'
 | .brk=>∀σ' H' F',Good K tg F' H' ρ' σ'->Ext (Own ρ σ) (Own ρ' σ') F H F' H'->E.bk σ' H'
 | .cont=>∀σ' H' F',Good K tg F' H' ρ' σ'->Ext (Own ρ σ) (Own ρ' σ') F H F' H'->E.ct σ' H'
 | .ret r=>∀v σ' H' F',Good K tg F' H' ρ' σ'->Ext (Own ρ σ) (Own ρ' σ') F H F' H'->relR K r v H (Own ρ σ) F' H' (Own ρ' σ')->E.rt v H'
 | .exc _=>False
def TSd(K:Fg9)(g:Sd):TS:=fun E σ H=>∃tg F ρ fl ρ',Good K tg F H ρ σ/\g ρ=some (fl,ρ')/\FlOk K tg ρ σ F H E fl ρ'
structure SV (K:Fg9) (X:Cx) (st:iJ) (g:Sd):Prop where
 go:X.K=K->PS X st (TSd K g)
instance {K:Fg9} {X:Cx} {st:iJ} {g:Sd}:CoeFun (SV K X st g) fun _=>X.K=K->PS X st (TSd K g):=⟨SV.go⟩
structure SVs (K:Fg9) (X:Cx) (ss:List iJ) (g:Sd):Prop where
 go:X.K=K->PSs X ss (TSd K g)
instance {K:Fg9} {X:Cx} {ss:List iJ} {g:Sd}:CoeFun (SVs K X ss g) fun _=>X.K=K->PSs X ss (TSd K g):=⟨SVs.go⟩
theorem PS.imp{t t':TS}(h:PS X st t)(w:∀E σ H,t' E σ H->t E σ H):PS X st t':=fun zv s σ H E I q=>h zv s σ H E I (w E σ H q)
theorem PSs.imp{t t':TS}(h:PSs X ss t)(w:∀E σ H,t' E σ H->t E σ H):PSs X ss t':=fun zv s σ H E I q=>h zv s σ H E I (w E σ H q)
theorem FlOk.back{tg:Nat->aX}{ρ ρ1 ρ':Ro}{σ σ1:L2.St}{F H F1 H1:Hp}{E:Ends}{fl:Fl}(x:Ext (Own ρ σ) (Own ρ1 σ1) F H F1 H1)(h:FlOk K tg ρ σ F H E fl ρ'):FlOk K tg ρ1 σ1 F1 H1 E fl ρ':=by
 cases fl with
 | nx=>exact fun σ' H' F' G' x'=>h σ' H' F' G' (x.trans x')
 | brk=>exact fun σ' H' F' G' x'=>h σ' H' F' G' (x.trans x')
 | cont=>exact fun σ' H' F' G' x'=>h σ' H' F' G' (x.trans x')
 | ret r=>exact fun v σ' H' F' G' x' rr=>h v σ' H' F' G' (x.trans x') (lg x rr)
 | exc _=>exact h
def dNx:Sd:=fun ρ=>some (.nx,ρ)
noncomputable def dSeq(g k:Sd):Sd:=fun ρ=>match g ρ with
 | some (.nx,ρ1)=>k ρ1
 | r=>r
theorem jm:SVs K X [] dNx:=SVs.mk fun _=>PSs.imp a0g fun E σ H z9=>by
 obtain⟨tg,F,ρ,fl,ρ',G,em,q⟩:=z9;cases em;exact q σ H F G (Ext.refl _ _ _)
theorem az{g:Sd}(h:SV K X st g):SVs K X [st] g:=SVs.mk fun hk=>aid (h hk)
theorem ak{g k:Sd}(h:SV K X st g)(t:SVs K X ss k):SVs K X (st::ss) (dSeq g k):=SVs.mk fun hk=>PSs.imp (ae0 (h hk) (t hk)) fun E σ H z9=>by
 obtain⟨tg,F,ρ,fl,ρ',G,em,q⟩:=z9;unfold dSeq at em;split at em
 ·rename_i ρ1 e1;exact⟨tg,F,ρ,.nx,ρ1,G,e1,fun σ' H' F' G' x=>⟨tg,F',ρ1,fl,ρ',G',em,q.back x⟩⟩
 ·rename_i hn;refine⟨tg,F,ρ,fl,ρ',G,em,?_⟩;cases fl with
  | nx=>exact absurd em (hn ρ')
  | brk=>exact q
  | cont=>exact q
  | ret r=>exact q
  | exc _=>exact q
noncomputable def dM{α:Type}(m:M α)(k:α->Sd):Sd:=fun ρ=>match m ρ with
 | some (.ok x,ρ1)=>k x ρ1
 | some (.exc x,ρ1)=>some (.exc x,ρ1)
 | none=>none
theorem ww{α:Type}{m:M α}{k:α->Sd}{ρ ρ':Ro}{fl:Fl}{P:Prop}(h:dM m k ρ=some (fl,ρ'))(hx:FlOk K tg ρ0 σ0 F0 H0 E0' fl ρ')(go:∀x ρ1,m ρ=some (.ok x,ρ1)->k x ρ1=some (fl,ρ')->P):P:=by
 unfold dM at h;split at h
 ·exact go _ _ (by assumption) h
 ·cases h;exact(show False from hx).elim
 ·cases h
noncomputable def dRet(m:M Rv):Sd:=dM m fun r ρ=>some (.ret r,ρ)
theorem fc{m:M Rv}(h:ER K X e m):SV K X (.Return (some e) pos) (dRet m):=SV.mk fun hk=>PS.imp (a3w (h hk)) fun E σ H ⟨tg,F,ρ,fl,ρ',G,em,q⟩=>ww em q fun r ρ1 e1 em=>by
 cases em;exact⟨tg,F,ρ,r,_,G,e1,fun v H' F' G' x rr=>q v σ H' F' G' x rr⟩
noncomputable def dIf(m:M Bool)(g k:Sd):Sd:=dM m fun z=>if z=true then g else k
theorem vm{m:M Bool}{g k:Sd}{ss':List iJ}(h:ET K X c m)(h1:SVs K X ss g)(h2:SVs K X ss' k):SV K X (.If c ss ss' pos) (dIf m g k):=SV.mk fun hk=>PS.imp (a8n (h hk) (h1 hk) (h2 hk)) fun E σ H ⟨tg,F,ρ,fl,ρ',G,em,q⟩=>ww em q fun z ρ1 e1 em=>by
 refine⟨tg,F,ρ,z,ρ1,G,e1,fun H' F' G' x =>?_⟩
 cases z with
 | true=>exact iteT ⟨tg,F',ρ1,fl,ρ',G',em,q.back x⟩
 | false=>exact iteF ⟨tg,F',ρ1,fl,ρ',G',em,q.back x⟩
def agq{α:Type}(m:M α):Sd:=dM m fun _ ρ=>some (.nx,ρ)
theorem wz{m:M Rv}(h:ER K X e m)(hs:gU e none pos.line X.env=pure false:=by rfl):SV K X (.Expr e pos) (agq m):=SV.mk fun hk=>PS.imp (a0j (h hk) hs) fun E σ H ⟨tg,F,ρ,fl,ρ',G,em,q⟩=>ww em q fun r ρ1 e1 em=>by
 cases em;exact⟨tg,F,ρ,r,_,G,e1,fun v H' F' G' x rr=>q σ H' F' G' x⟩
section
variable{tg:Nat->aX}{F H:Hp}{ρ:Ro}{σ:L2.St}
theorem ame{i:Nat}{s:Sl}{v:V}{b:aX}(hl:ρ.length=σ.length)(h:Own (bR ρ i s) (bR σ i (some v)) b):Own ρ σ b∨((∃t l,s=.own t l)/\v=.ref b):=by
 obtain⟨j,⟨t,l,e⟩,q⟩:=h;rw[bJ] at e q
 by_cases hj:i=j
 ·subst hj;rw[if_pos rfl] at e q;split at e
  ·rename_i hi;rw[if_pos (by rw[<-hl];exact hi)] at q
   cases e;cases q;exact .inr ⟨⟨t,l,rfl⟩,rfl⟩
  ·cases e
 ·rw[if_neg hj] at e q;exact .inl ⟨j,⟨t,l,e⟩,q⟩
theorem Good.put(G:Good K tg F H ρ σ){s:Sl}{v:V}(i:Nat)(h:SlOk K tg F H s (some v))(n:∀t l a,s=.own t l->v=.ref a->¬Own ρ σ a):Good K tg F H (bR ρ i s) (bR σ i (some v)) where
 sub:=G.sub
 len:=by rw[cZ,cZ];exact G.len
 sl:=fun j s' o e q=>by
  rw[bJ] at e q
  by_cases hj:i=j
  ·subst hj;rw[if_pos rfl] at e q;split at e
   ·rename_i hi;rw[if_pos (by rw[<-G.len];exact hi)] at q
    cases e;cases q;exact h
   ·cases e
  ·rw[if_neg hj] at e q;exact G.sl j s' o e q
 inj:=fun j k a ⟨⟨t,l,e⟩,q⟩ ⟨⟨t',l',e'⟩,q'⟩=>by
  rw[bJ] at e q e' q'
  by_cases hj:i=j
  ·subst hj;rw[if_pos rfl] at e q
   by_cases hk:i=k
   ·exact hk
   ·rw[if_neg hk] at e' q';split at e
    ·rename_i hi;rw[if_pos (by rw[<-G.len];exact hi)] at q
     cases e;cases q;exact absurd ⟨k,⟨t',l',e'⟩,q'⟩ (n t l a rfl rfl)
    ·cases e
  ·rw[if_neg hj] at e q
   by_cases hk:i=k
   ·subst hk;rw[if_pos rfl] at e' q';split at e'
    ·rename_i hi;rw[if_pos (by rw[<-G.len];exact hi)] at q'
     cases e';cases q';exact absurd ⟨j,⟨t,l,e⟩,q⟩ (n t' l' a rfl rfl)
    ·cases e'
   ·rw[if_neg hk] at e' q';exact G.inj j k a ⟨⟨t,l,e⟩,q⟩ ⟨⟨t',l',e'⟩,q'⟩
def Rv.sl:Rv->Sl
 | .v d=>.val d
 | .fr l=>.own none l
 | .tf _ _=>.emp
theorem Good.store{F0 H0:Hp}{O:aX->Prop}(G:Good K tg F H ρ σ)(x:Ext O (Own ρ σ) F0 H0 F H){r:Rv}{v:V}(i:Nat)(h:relR K r v H0 O F H (Own ρ σ)) :
  Good K tg F H (bR ρ i r.sl) (bR σ i (some v))/\Ext O (Own (bR ρ i r.sl) (bR σ i (some v))) F0 H0 F H:=by
 cases r with
 | v d =>
  refine⟨G.put i ⟨v,rfl,h⟩ (fun t l a e=>by cases e),x.sub,x.new,x.keep,fun b w =>?_,x.there⟩
  rcases ame G.len w with w | ⟨⟨t,l,e⟩,_⟩
  ·exact x.own b w
  ·cases e
 | fr l =>
  obtain⟨a,vs,rfl,ha,hf,hh,hl,hn⟩:=h;refine⟨G.put i ⟨a,vs,rfl,hf,hh,hl,fun k e=>by cases e⟩ (fun t l' b _ e2=>by cases e2;exact hn),x.sub,x.new,x.keep,fun b w =>?_,x.there⟩
  rcases ame G.len w with w | ⟨_,e⟩
  ·exact x.own b w
  ·cases e;exact ha.symm
 | tf d l =>
  refine⟨G.put i trivial (fun t l a e=>by cases e),x.sub,x.new,x.keep,fun b w =>?_,x.there⟩
  rcases ame G.len w with w | ⟨⟨t,l,e⟩,_⟩
  ·exact x.own b w
  ·cases e
end
def dSet(i:Nat)(m:M Rv):Sd:=dM m fun r ρ=>some (.nx,bR ρ i r.sl)
theorem cz{i:Nat}{x:Str}{m:M Rv}(hN:X.N.Nodup)(hi:X.N[i]? = some x)(hx:Loc X.env.scope x)(h:ER K X e m)(hs:gU e (some (.Name x p)) pos.line X.env=pure false:=by rfl)(hf:X.fn x=true∨X.env.scope.names.lookup x=some .local:=by first | exact .inl rfl | exact .inr rfl | assumption) :
  SV K X (.Assign [.Name x p] e pos) (dSet i m):=SV.mk fun hk=>PS.imp (ayr hN hi hx (h hk) hs hf) fun E σ H ⟨tg,F,ρ,fl,ρ',G,em,q⟩=>ww em q fun r ρ1 e1 em=>by
 cases em;refine⟨tg,F,ρ,r,ρ1,G,e1,fun v H' F' G' x rr =>?_⟩
 obtain⟨G2,x2⟩:=G'.store x i rr;exact q _ H' F' G2 x2
def TGd(K:Fg9)(b:D->Ro->Option Ro):TG:=fun v σ H Q=>∃tg F ρ d ρ',Good K tg F H ρ σ/\Is K F d v/\b d ρ=some ρ'/\∀σ' H' F',Good K tg F' H' ρ' σ'->Ext (Own ρ σ) (Own ρ' σ') F H F' H'->Q σ' H'
structure GV (K:Fg9) (X:Cx) (e:dX) (b:D->Ro->Option Ro):Prop where
 go:X.K=K->PG X e (TGd K b)
instance {K:Fg9} {X:Cx} {e:dX} {b:D->Ro->Option Ro}:CoeFun (GV K X e b) fun _=>X.K=K->PG X e (TGd K b):=⟨GV.go⟩
theorem PG.imp{t t':TG}(h:PG X e t)(w:∀v σ H Q,t' v σ H Q->t v σ H Q):PG X e t':=fun zv s σ H v u Q I r q=>h zv s σ H v u Q I r (w v σ H Q q)
def cu(i:Nat):D->Ro->Option Ro:=fun d ρ=>some (bR ρ i (.val d))
theorem Good.storeV{tg:Nat->aX}{F H:Hp}{ρ:Ro}{σ:L2.St}(G:Good K tg F H ρ σ){d:D}{v:V}(i:Nat)(h:Is K F d v):Good K tg F H (bR ρ i (.val d)) (bR σ i (some v))/\Ext (Own ρ σ) (Own (bR ρ i (.val d)) (bR σ i (some v))) F H F H :=
 G.store (r:=.v d) (Ext.refl _ _ _) i h
theorem cj{i:Nat}{x:Str}(hN:X.N.Nodup)(hi:X.N[i]? = some x)(hx:Loc X.env.scope x)(hf:X.fn x=true∨X.env.scope.names.lookup x=some .local:=by first | exact .inl rfl | exact .inr rfl | assumption):GV K X (.Name x pos) (cu i):=GV.mk fun _=>PG.imp (afy hN hi hx hf) fun v σ H Q z9=>by
 obtain⟨tg,F,ρ,d,ρ',G,h,em,q⟩:=z9;cases em;obtain⟨G2,x2⟩:=G.storeV i h;exact q _ H F G2 x2
def TGsd(K:Fg9)(b:List D->Ro->Option Ro):TGs:=fun vs σ H Q=>∃tg F ρ ds ρ',Good K tg F H ρ σ/\IsL K F ds vs/\b ds ρ=some ρ'/\∀σ' H' F',Good K tg F' H' ρ' σ'->Ext (Own ρ σ) (Own ρ' σ') F H F' H'->Q σ' H'
structure GVs (K:Fg9) (X:Cx) (es:List dX) (b:List D->Ro->Option Ro):Prop where
 go:X.K=K->PGs X es (TGsd K b)
instance {K:Fg9} {X:Cx} {es:List dX} {b:List D->Ro->Option Ro}:CoeFun (GVs K X es b) fun _=>X.K=K->PGs X es (TGsd K b):=⟨GVs.go⟩
theorem PGs.imp{t t':TGs}(h:PGs X es t)(w:∀v σ H Q,t' v σ H Q->t v σ H Q):PGs X es t':=fun zv s σ H v u Q I r q=>h zv s σ H v u Q I r (w v σ H Q q)
def bNil:List D->Ro->Option Ro:=fun ds ρ=>match ds with
 | []=>some ρ
 | _=>none
def qd(b:D->Ro->Option Ro)(bs:List D->Ro->Option Ro):List D->Ro->Option Ro:=fun ds ρ=>match ds with
 | d::r=>(b d ρ).bind (bs r)
 | _=>none
theorem aa9:GVs K X [] bNil:=GVs.mk fun _=>PGs.imp amd fun vs σ H Q z9=>by
 obtain⟨tg,F,ρ,ds,ρ',G,h,em,q⟩:=z9;cases ds with
 | nil=>cases em;cases h;exact⟨rfl,q σ H F G (Ext.refl _ _ _)⟩
 | cons _ _=>cases em
theorem j5{b:D->Ro->Option Ro}{bs:List D->Ro->Option Ro}(h1:GV K X e b)(h2:GVs K X es bs)(hs:(dU (e::es) X.env).map (·.2)=mZ e X.env::(dU es X.env).map (·.2):=by rfl):GVs K X (e::es) (qd b bs):=GVs.mk fun hk=>PGs.imp (acy (h1 hk) (h2 hk) hs) fun vs σ H Q z9=>by
 obtain⟨tg,F,ρ,ds,ρ',G,h,em,q⟩:=z9;cases h with
 | nil=>cases em
 | @cons d v ds vs hd ht =>
  have em:(b d ρ).bind (bs ds)=some ρ':=em;cases e1:b d ρ with
  | none=>rw[e1] at em;cases em
  | some ρ1 =>
   rw[e1] at em;exact⟨v,vs,rfl,tg,F,ρ,d,ρ1,G,hd,e1,fun σ' H' F' G' x=>⟨tg,F',ρ1,ds,ρ',G',ht.mono x.sub,em,fun σ2 H2 F2 G2 x2=>q σ2 H2 F2 G2 (x.trans x2)⟩⟩
def bTup(n:Nat)(bs:List D->Ro->Option Ro):D->Ro->Option Ro:=fun d ρ=>match d with
 | .tup l=>if l.length=n then bs l ρ else none
 | _=>none
theorem aep{k n:Nat}{bs:List D->Ro->Option Ro}(hc:X.calm=true)(h:GVs K X es bs)(hn:(dU es X.env).length=n:=by rfl)(hst:(dU es X.env).findIdx? (·.1)=none:=by rfl):GV K X (.Tuple es k pos) (bTup n bs):=GV.mk fun hk=>PG.imp (asw hc (h hk) hn hst) fun v σ H Q z9=>by
 obtain⟨tg,F,ρ,d,ρ',G,hd,em,q⟩:=z9;cases hd with
 | @tup a vs ds e hl =>
  have em:(if ds.length=n then bs ds ρ else none)=some ρ':=em
  split at em
  ·rename_i hz;exact⟨a,vs,rfl,SqT.of (G.sub _ _ e),by rw[<-hl.length];exact hz,tg,F,ρ,ds,ρ',G,hl,em,q⟩
  ·cases em
 | _=>cases em
def dAsg(m:M D)(b:D->Ro->Option Ro):Sd:=dM m fun d ρ=>(b d ρ).map fun ρ'=>(.nx,ρ')
theorem aym{m:M D}{b:D->Ro->Option Ro}(h:EV K X e m)(hg:GV K X tgt b)(hs:swapsWithSole [tgt] e pos.line X.env=pure false:=by rfl)(hw:swappedStores [tgt] e X.env=pure none:=by rfl)
  (h1:(dU [tgt] X.env).map (·.2)=[mZ tgt X.env]:=by rfl):SV K X (.Assign [tgt] e pos) (dAsg m b):=SV.mk fun hk=>PS.imp (anw (h hk) (hg hk) hs hw h1) fun E σ H ⟨tg,F,ρ,fl,ρ',G,em,q⟩=>ww em q fun d ρ1 e1 em=>by
 refine⟨tg,F,ρ,d,ρ1,G,e1,fun v H' F' G' x r =>?_⟩
 cases e2:b d ρ1 with
 | none=>rw[e2] at em;cases em
 | some ρ2 =>
  rw[e2] at em;cases em;exact⟨tg,F',ρ1,d,_,G',r,e2,fun σ2 H2 F2 G2 x2=>q σ2 H2 F2 G2 (x.trans x2)⟩
theorem Good.mut{tg:Nat->aX}{F H:Hp}{ρ:Ro}{σ:L2.St}(G:Good K tg F H ρ σ){i:Nat}{t:Option Nat}{l l':List D}{a:aX}{ys:List V}(e:(ρ:List Sl)[i]? = some (.own t l))(q:σ[i]? = some (some (.ref a)))(h:IsL K F l' ys) :
  Good K tg F (upd H a (.lst ys)) (bR ρ i (.own t l')) σ/\Ext (Own ρ σ) (Own (bR ρ i (.own t l')) σ) F H F (upd H a (.lst ys)):=by
 obtain⟨a',vs,e1,hf,hh,hl,ht⟩:=G.sl i _ _ e q;cases e1;have ow:∀j b,Owns (bR ρ i (.own t l')) σ j b->Owns ρ σ j b:=fun j b ⟨⟨t2,l2,e2⟩,q2⟩=>by
  rw[bJ] at e2
  by_cases hj:i=j
  ·subst hj;exact⟨⟨t,l,e⟩,q2⟩
  ·rw[if_neg hj] at e2;exact⟨⟨t2,l2,e2⟩,q2⟩
 have me:Own ρ σ a:=⟨i,⟨t,l,e⟩,q⟩;refine⟨⟨fun b o z =>?_,by rw[cZ];exact G.len,fun j s o e2 q2 =>?_,fun j k b w1 w2=>G.inj j k b (ow _ _ w1) (ow _ _ w2)⟩,Same.refl F,fun _ _ z=>.inl z,fun b o z n =>?_,fun b ⟨j,w⟩=>.inl ⟨j,ow j b w⟩,fun b z =>?_⟩
 ·have hb:b≠a:=fun z2=>by
   subst z2;rw[hf] at z;cases z
  rw[bw hb];exact G.sub b o z
 ·rw[bJ] at e2
  by_cases hj:i=j
  ·subst hj;rw[if_pos rfl] at e2;split at e2
   ·cases e2;rw[q] at q2;cases q2;exact⟨a,ys,rfl,hf,dh,h,ht⟩
   ·cases e2
  ·rw[if_neg hj] at e2;have z:=G.sl j s o e2 q2;cases s with
   | emp=>trivial
   | val d=>exact z
   | lol ts=>exact z
   | lnk k=>exact z
   | box c fs =>
    obtain⟨b,C,dx,fvs,e1,e2,e3,e4⟩:=z;have hb:b≠a:=fun z2=>by
     subst z2;rw[e3] at hh;cases hh
    exact⟨b,C,dx,fvs,e1,e2,by rw[bw hb];exact e3,e4⟩
   | own t2 l2 =>
    obtain⟨b,ws,e3,hf3,hh3,hl3,ht3⟩:=z;have hb:b≠a:=fun z2=>by
     subst z2;exact hj (G.inj i j b ⟨⟨t,l,e⟩,q⟩ ⟨⟨t2,l2,e2⟩,by rw[q2,e3]⟩)
    exact⟨b,ws,e3,hf3,by rw[bw hb];exact hh3,hl3,ht3⟩
 ·have hb:b≠a:=fun z2=>n (z2▸me)
  rw[bw hb];exact z
 ·by_cases hb:b=a
  ·subst hb;rw[dh] at z;cases z
  ·rw[bw hb] at z;exact z
def mOwn(i:Nat):M (List D):=fun ρ=>match ρ[i]? with
 | some (.own _ l)=>some (.ok l,ρ)
 | _=>none
theorem afz{tg:Nat->aX}{F H:Hp}{ρ ρ':Ro}{σ:L2.St}(G:Good K tg F H ρ σ){i:Nat}{l:List D}(em:mOwn i ρ=some (.ok l,ρ')):ρ'=ρ/\∃t a xs,(ρ:List Sl)[i]? = some (.own t l)/\σ[i]? = some (some (.ref a))/\H a=some (.lst xs)/\IsL K F l xs:=by
 unfold mOwn at em;split at em
 ·rename_i t l' e';cases em;obtain⟨o,ho,a,vs,rfl,hf,hh,hl,_⟩:=G.at e';exact⟨rfl,t,a,vs,e',ho,hh,hl⟩
 ·cases em
def ac6(i:Nat)(l':List D):M Unit:=fun ρ=>match ρ[i]? with
 | some (.own t _)=>some (.ok (),bR ρ i (.own t l'))
 | _=>none
def mMut(i:Nat)(g:List D->List D->Option (D×List D))(ms:M (List D)):M D:=(mOwn i).bind fun _=>ms.bind fun ds=>(mOwn i).bind fun l=>(lift (g l ds)).bind fun r=>(ac6 i r.2).bind fun _=>ret r.1
def MutD(K:Fg9)(r:V->List V->Hp->VK->Prop)(g:List D->List D->Option (D×List D)):Prop :=
 ∀(F H:Hp) (a:aX) (xs vs:List V) (l ds:List D) (d:D) (l':List D) (Q:VK),Same F H->H a=some (.lst xs)->xs.length<=capS->IsL K F l xs->IsL K F ds vs->g l ds=some (d,l')->(∀v ys,Is K F d v->IsL K F l' ys->Q v (upd H a (.lst ys)))->r (.ref a) vs H Q
theorem amm{tg:Nat->aX}{F H:Hp}{ρ ρ2:Ro}{σ:L2.St}(G:Good K tg F H ρ σ){i:Nat}{l':List D}{u:Unit}{a:aX}{ys:List V}(e:ac6 i l' ρ=some (.ok u,ρ2))(q:σ[i]? = some (some (.ref a)))(h:IsL K F l' ys) :
  Good K tg F (upd H a (.lst ys)) ρ2 σ/\Ext (Own ρ σ) (Own ρ2 σ) F H F (upd H a (.lst ys)):=by
 unfold ac6 at e;split at e
 ·rename_i t l e';cases e;exact G.mut e' q h
 ·cases e
theorem agh{i:Nat}{name:Str}{id:String}{r:V->List V->Hp->VK->Prop}{g:List D->List D->Option (D×List D)}{ms:M (List D)}{apos cpos:Pos}(hr:MutD K r g)(slot:Slot "list" name id)(hty:typeOf (.builtin id)=pure (.type "method_descriptor"))(hm:MtR X id r)(ho:PE X a (tVar i))(ha:ED K X (e::es) ms)
  (hbase:attributeBase a name X.env (eval a X.env)=eval a X.env:=by rfl)
  (hfew:((jD cpos (aQ (e::es) X.env)).all (fun x => !x.1)&&(backToKw cpos (keywordEach [] X.env)).all (fun x=>x.1.isSome)
   && decide ((e::es).length+([]:List rB).length+(if ([]:List rB).isEmpty then 0 else 1) < 30))=true:=by rfl)
  (hline:(apos.endLine==cpos.line)=true:=by rfl) (hs:aQ (e::es) X.env=(false,eval e X.env)::aQ es X.env:=by rfl) (hplain:(jD cpos (aQ es X.env)).any (·.1)=false:=by rfl) :
  EV K X (.Call (.Attribute a name apos) (e::es) [] cpos) (mMut i g ms):=EV.mk fun hk=>by
 intro zv s σ H Q I z9;obtain⟨tg,F,ρ,d,ρ',G,em,q⟩:=z9;obtain⟨l0,ρ0,e0,em1⟩:=bj em;obtain⟨ds,ρ1,e1,em2⟩:=bj em1;obtain⟨l,ρ2,e2,em3⟩:=bj em2;obtain⟨x,ρ3,e3,em4⟩:=bj em3;obtain⟨u,ρ4,e4,em5⟩:=bj em4;obtain⟨rfl,rfl⟩:=jy em5;obtain⟨eg,rfl⟩:=gk e3;obtain⟨rfl,t0,b,xs0,es0,hv,hh0,hl0⟩:=afz G e0;refine awo (r:=fun x vs H Q=>(∀b xs,x=.ref b->H b=some (.lst xs)->xs.length<=capS)->r x vs H Q) pG slot hty (fun zv s σ H x xs v us Q I rx rv h=>hm zv s σ H x xs v us Q I rx rv (h fun b xs _ hb =>?_)) ho (ha hk) hbase hfew hline hs hplain zv s σ H Q I ?_
 ·obtain⟨z,_⟩:=I.lstM hb;rw[fY] at z;exact z
 refine⟨_,hv,.inl ⟨rfl,_,SqL.of hh0⟩,tg,F,ρ0,ds,ρ1,G,e1,fun vs H1 F1 G1 x1 r1 cap =>?_⟩
 obtain⟨rfl,t,a',xs,es',hv',hh,hl⟩:=afz G1 e2;rw[hv] at hv';cases hv';refine hr F1 H1 _ xs vs l ds x.1 x.2 Q G1.sub hh (cap _ _ rfl hh) hl r1 eg fun w ys iw il =>?_
 obtain⟨G2,x2⟩:=amm G1 e4 hv il;exact q w _ F1 G2 (x1.trans x2) iw
def aco(l ds:List D):Option (D×List D):=match ds with
 | [d]=>if l.length < capS then some (.non,l++[d]) else none
 | _=>none
theorem zg:MutD K asn aco:=by
 intro F H a xs vs l ds d l' Q g hh hc hl hd eg q
 match ds,eg with
 | [d1],eg =>
  have eg:(if l.length < capS then some (D.non,l++[d1]) else none)=some (d,l'):=eg
  split at eg
  ·rename_i hz;cases eg;cases hd with
   | cons h t =>
    cases t;exact⟨a,xs,_,rfl,rfl,hh,by rw[fY,<-hl.length];exact hz,q _ _ .non (hl.append (.cons h .nil))⟩
  ·cases eg
def dSub(i:Nat)(mi m:M D):Sd:=dM m fun d=>dM (mOwn i) fun _=>dM mi fun k=>dM (mOwn i) fun l=>dM (lift ((asI k).bind (ixN l.length))) fun j=>dM (ac6 i (l.set j d)) fun _=>dNx
theorem afd{i:Nat}{mi m:M D}(h:EV K X e m)(ho:PE X a (tVar i))(hi:EV K X b mi)(hs:swapsWithSole [.Subscript a b p] e pos.line X.env=pure false:=by rfl)(hw:swappedStores [.Subscript a b p] e X.env=pure none:=by rfl)
  (h1:(dU [.Subscript a b p] X.env).map (·.2)=[mZ (.Subscript a b p) X.env]:=by rfl)
  (ha:∀v,mZ (.Subscript a b p) X.env v=(do
   let ov <-mW [v] (eval a X.env)
   let iv <-mW [v,ov] (eval b X.env)
   standAt p
   mW [v,ov,iv] (setItem ov iv v)
   release [v,ov,iv] []):=by intro _;rfl):SV K X (.Assign [.Subscript a b p] e pos) (dSub i mi m):=SV.mk fun hk=>PS.imp (anw (h hk) (ayu ho (hi hk) set_list ha) hs hw h1) fun E σ H ⟨tg,F,ρ,fl,ρ',G,em,q⟩ =>
 ww em q fun d ρ1 e1 em=>ww em q fun l0 ρ0 e0 em=>ww em q fun k ρ2 e2 em=>ww em q fun l ρ3 e3 em=>ww em q fun j ρ4 e4 em=>ww em q fun u ρ5 e5 em=>by
 cases em;obtain⟨e6,rfl⟩:=gk e4;refine⟨tg,F,ρ,d,ρ1,G,e1,fun v H1 F1 G1 x1 r1 =>?_⟩
 obtain⟨rfl,t0,a0,xs0,es0,hv,hh0,hl0⟩:=afz G1 e0;refine⟨_,hv,tg,F1,_,k,ρ2,G1,e2,fun w H2 F2 G2 x2 r2 =>?_⟩
 obtain⟨rfl,t,a1,xs,es1,hv',hh,hl⟩:=afz G2 e3;rw[hv] at hv';cases hv';cases ek:asI k with
 | none=>rw[ek] at e6;cases e6
 | some n =>
  rw[ek] at e6;obtain rfl:=apf ek;cases r2;obtain⟨G3,x3⟩:=amm G2 e5 hv (hl.set (r1.mono x2.sub) j);exact⟨_,xs,n,j,rfl,rfl,hh,by rw[<-hl.length];exact e6,q _ _ F2 G3 ((x1.trans x2).trans x3)⟩
end
section
variable{K:Fg9}{X:Cx}{e a b c tgt iter elt:dX}{es:List dX}{pos p p2:Pos}{st:iJ}{ss:List iJ}
theorem _root_.Mn.ItOf.imp{J:It}{xs:List V}{S S':Hp->Prop}(Z:ItOf J xs S)(h:∀H,S' H->S H):ItOf J xs S':=⟨fun i H q=>Z.go i H (h H q),fun i H x H' q=>Z.yld i H x H' (h H q),fun i H q=>Z.stop i H (h H q)⟩
def Alt(K:Fg9)(F:Hp)(d:D)(x:V)(H H':Hp):Prop:=(H'=H/\Is K F d x)∨∃q vs ds,H q=none/\x=.ref q/\H'=upd H q (.tup vs)/\d=.tup ds/\IsL K F ds vs
structure ItD (K:Fg9) (J:It) (l:List D) (F:Hp):Prop where
 go:∀i H,Same F H->i < l.length->J.go i H
 yld:∀i H x H' d,Same F H->J.yld i H x H'->l[i]? = some d->Alt K F d x H H'
 stop:∀H,Same F H->J.stop l.length H
theorem ItD.of{J:It}{l:List D}{vs:List V}{F:Hp}(il:IsL K F l vs)(Z:ItOf J vs fun H2=>Same F H2):ItD K J l F where
 go:=fun i H s hi=>Z.go i H s (by rw[<-il.length];exact hi)
 yld:=fun i H x H' d s y hd=>by
  obtain⟨v,hv,iv⟩:=il.get hd;obtain⟨e,z⟩:=Z.yld i H x H' s y;have:=z (aK.mp hv).1;rw[hv] at this;cases this;exact .inl ⟨e,iv⟩
 stop:=fun H s=>Z.stop _ H s (by rw[<-il.length];exact aN _)
theorem ajf{tg:Nat->aX}{O:aX->Prop}{F H F1 F2 H2 H3:Hp}{ρ2:Ro}{σ2:L2.St}{d:D}{x:V}(G2:Good K tg F2 H2 ρ2 σ2)(x2:Ext O (Own ρ2 σ2) F H F2 H2)(s2:Same F1 F2)(a:Alt K F1 d x H2 H3) :
  ∃F3,Good K tg F3 H3 ρ2 σ2/\Ext O (Own ρ2 σ2) F H F3 H3/\Same F1 F3/\Is K F3 d x/\Ext (Own ρ2 σ2) (Own ρ2 σ2) F2 H2 F3 H3:=by
 rcases a with⟨rfl,id⟩ | ⟨q,vs,ds,hq,rfl,rfl,rfl,il⟩
 ·exact⟨F2,G2,x2,s2,id.mono s2,Ext.refl _ _ _⟩
 ·have z:=G2.newX hq (.tup vs);exact⟨_,G2.new hq _,x2.trans z,s2.trans z.sub,.tup dh (il.mono (s2.trans z.sub)),z⟩
theorem auj{J:It}{l:List D}{F:Hp}(Z:ItD K J l F){g:TG}{tb:TS}{D':Ends}{σ:L2.St}{H:Hp}(Pv:Nat->L2.St->Hp->Prop)(h0:Pv 0 σ H)(hl:∀i σ H,i<=l.length->Pv i σ H->Same F H)
  (hs:∀i d x σ H H',l[i]? = some d->Pv i σ H->Alt K F d x H H'->g x σ H' fun σ2 H2=>tb { D' with nx:=Pv (i+1),ct:=Pv (i+1),bk:=D'.nx } σ2 H2) (hd:∀σ H,Pv l.length σ H->D'.nx σ H) :
  ∃W:Nat->Nat->L2.St->Hp->Prop,(∃m,W 0 m σ H)/\∀i m σ H,W i m σ H ->
   (J.stop i H/\D'.nx σ H)∨(J.go i H/\∃N:L2.St->Hp->Prop,(∀σ' H',N σ' H'->∃m',m' < m/\W (i+1) m' σ' H')/\∀x H',J.yld i H x H'->g x σ H' fun σ2 H2=>tb { D' with nx:=N,ct:=N,bk:=D'.nx } σ2 H2):=by
 refine⟨fun i m σ H=>m=l.length - i/\i<=l.length/\Pv i σ H,⟨l.length,by simp,gQ _,h0⟩,?_⟩
 rintro i m σ H ⟨rfl,hi,p⟩
 have q:=hl i σ H hi p
 by_cases hlt:i < l.length
 ·exact .inr ⟨Z.go i H q hlt,Pv (i+1),fun σ' H' p'=>⟨l.length - (i+1),by omega,rfl,hlt,p'⟩,fun x H' y=>hs i _ x σ H H' (aF hlt) p (Z.yld i H x H' _ q y (aF hlt))⟩
 ·have e:i=l.length:=by omega
  subst e;exact .inl ⟨Z.stop H q,hd σ H p⟩
theorem ax8{J:It}{l:List D}{F:Hp}(Z:ItD K J l F){d:aX}{g:TG}{ti:TT}{te:TE}{Q:VK}{σ0:L2.St}{H1:Hp}(Pv:Nat->List V->L2.St->Hp->Prop)(h0:Pv 0 [] σ0 (upd H1 d (.lst [])))
  (hl:∀i ys σ H,i<=l.length->Pv i ys σ H->Same F H/\H d=some (.lst ys))
  (hs:∀i e x ys σ H H' (M:List V->L2.St->Hp->Prop),l[i]? = some e->Pv i ys σ H->Alt K F e x H H'->(∀ys' σ' H',Pv (i+1) ys' σ' H'->M ys' σ' H') ->
   g x σ H' fun σ4 H4=>ti σ4 H4 fun b H5=>if b=true then te σ4 H5 fun y H6=>H6 d=some (.lst ys)/\ys.length < cN/\M (ys++[y]) σ4 (upd H6 d (.lst (ys++[y]))) else M ys σ4 H5)
  (hd:∀ys σ H,Pv l.length ys σ H->Q (.ref d) H):a65 J g ti te Q d σ0 H1:=by
 refine⟨fun i m ys σ H=>m=l.length - i/\i<=l.length/\Pv i ys σ H,⟨l.length,by simp,gQ _,h0⟩,?_⟩
 rintro i m ys σ H ⟨rfl,hi,p⟩
 obtain⟨q,e⟩:=hl i ys σ H hi p;refine⟨e,?_⟩
 by_cases hlt:i < l.length
 ·exact .inr ⟨Z.go i H q hlt,fun x H' y=>hs i _ x ys σ H H' (fun ys' σ' H'=>∃m',m' < l.length - i/\(m'=l.length - (i+1)/\i+1<=l.length/\Pv (i+1) ys' σ' H')) (aF hlt) p (Z.yld i H x H' _ q y (aF hlt)) fun ys' σ' H' p'=>⟨l.length - (i+1),by omega,rfl,hlt,p'⟩⟩
 ·have e:i=l.length:=by omega
  subst e;exact .inl ⟨Z.stop H q,hd ys σ H p⟩
def TIt(K:Fg9)(m:M (List D)):TI:=fun σ H R=>∃tg F ρ l ρ',Good K tg F H ρ σ/\m ρ=some (.ok l,ρ')/\∀J H' F',Good K tg F' H' ρ' σ->Ext (Own ρ σ) (Own ρ' σ) F H F' H'->ItD K J l F'->R J H'
structure IT (K:Fg9) (X:Cx) (tgt iter:dX) (m:M (List D)):Prop where
 go:X.K=K->PI X tgt iter (TIt K m)
instance {K:Fg9} {X:Cx} {tgt iter:dX} {m:M (List D)}:CoeFun (IT K X tgt iter m) fun _=>X.K=K->PI X tgt iter (TIt K m):=⟨IT.go⟩
def lq(m:M D):M (List D):=m.bind fun d=>lift (itemsD d)
theorem ou{m:M D}(h:EV K X iter m):IT K X tgt iter (lq m):=IT.mk fun hk=>by
 intro zv s σ H R I z9;obtain⟨tg,F,ρ,l,ρ',G,em,q⟩:=z9;obtain⟨d,ρ1,e1,em⟩:=bj em;obtain⟨e2,rfl⟩:=gk em;have h:=h hk;subst hk;cases d with
 | tup k =>
  cases e2;refine a3z h zv s σ H R I ⟨tg,F,ρ,_,_,G,e1,fun v H' F' G' x r =>?_⟩
  cases r with
  | @tup a vs _ e hl=>exact⟨a,rfl,⟨vs,SqT.of (G'.sub _ _ e)⟩,q _ H' F' G' x (.of hl (axh.imp fun H2 g=>SqT.of (g _ _ e)))⟩
 | lst k =>
  cases e2;refine asv h zv s σ H R I ⟨tg,F,ρ,_,_,G,e1,fun v H' F' G' x r =>?_⟩
  cases r with
  | @lst a vs _ e hl=>exact⟨a,rfl,⟨vs,SqL.of (G'.sub _ _ e)⟩,q _ H' F' G' x (.of hl (aoj.imp fun H2 g=>SqL.of (g _ _ e)))⟩
 | kst k =>
  cases e2;refine asv h zv s σ H R I ⟨tg,F,ρ,_,_,G,e1,fun v H' F' G' x r =>?_⟩
  cases r with
  | @kst a vs _ e hl=>exact⟨a,rfl,⟨vs,L2.Same.seq G'.sub e⟩,q _ H' F' G' x (.of hl (aoj.imp fun H2 g=>L2.Same.seq g e))⟩
 | _=>cases e2
def rangeD(lo:Int)(n:Nat):List D:=(aJ n).map fun i=>D.int (lo+(i:Nat))
theorem aia{F:Hp}(lo:Int)(n:Nat):IsL K F (rangeD lo n) (ups lo n):=by
 have e1:rangeD lo n=((aJ n).map fun i=>lo+((i:Nat):Int)).map D.int:=by unfold rangeD;rw[bY];rfl
 have e2:ups lo n=((aJ n).map fun i=>lo+((i:Nat):Int)).map V.int:=by unfold ups;rw[bY];rfl
 rw[e1,e2];exact ae5 _
theorem aq5{j:Int}(h:j.natAbs < 4611686018427387904) : -2 ^ 62<=j/\j < 2 ^ 62:=by
 have e:(2:Int) ^ 62=4611686018427387904:=by decide
 rw[e];omega
def qe:List D->Option (List D)
 | [.int j]=>if j.natAbs < 4611686018427387904 then some (rangeD 0 j.toNat) else none
 | _=>none
def aix:List D->Option (List D)
 | [.int i,.int j]=>if i.natAbs < 4611686018427387904/\j.natAbs < 4611686018427387904 then some (rangeD i (j - i).toNat) else none
 | _=>none
def mGet{α β:Type}(g:α->Option β)(m:M α):M β:=m.bind fun ds=>lift (g ds)
theorem lr{m:M (List D)}(hg:Gl X "range")(hm:X.mg "range" = none)(h:ED K X [a] m)(hs:aQ [a] X.env=[(false,eval a X.env)]:=by rfl):IT K X tgt (.Call (.Name "range" p) [a] [] pos) (mGet qe m):=IT.mk fun hk=>by
 intro zv s σ H R I z9;obtain⟨tg,F,ρ,l,ρ',G,em,q⟩:=z9;obtain⟨ds,ρ1,e1,em⟩:=bj em;obtain⟨e2,rfl⟩:=gk em;refine asu hg hm (h hk) hs zv s σ H R I ⟨tg,F,ρ,ds,_,G,e1,fun vs H' F' G' x r =>?_⟩
 unfold qe at e2;split at e2
 ·split at e2
  ·rename_i j hc;cases e2;cases r with
   | cons h t =>
    cases t;cases h;exact⟨_,rfl,(aq5 hc).1,(aq5 hc).2,q _ H' F' G' x (.of (aia 0 _) (aoi.imp fun _ _=>trivial))⟩
  ·cases e2
 ·cases e2
theorem aty{m:M (List D)}(hg:Gl X "range")(hm:X.mg "range" = none)(h:ED K X [a,b] m)(hs:aQ [a,b] X.env=[(false,eval a X.env),(false,eval b X.env)]:=by rfl)(hs2:aQ [b] X.env=[(false,eval b X.env)]:=by rfl):IT K X tgt (.Call (.Name "range" p) [a,b] [] pos) (mGet aix m):=IT.mk fun hk=>by
 intro zv s σ H R I z9;obtain⟨tg,F,ρ,l,ρ',G,em,q⟩:=z9;obtain⟨ds,ρ1,e1,em⟩:=bj em;obtain⟨e2,rfl⟩:=gk em;refine ass hg hm (h hk) hs hs2 zv s σ H R I ⟨tg,F,ρ,ds,_,G,e1,fun vs H' F' G' x r =>?_⟩
 unfold aix at e2;split at e2
 ·split at e2
  ·rename_i i j hc;cases e2;cases r with
   | cons h t =>
    cases t with
    | cons h2 t =>
     cases t;cases h;cases h2;exact⟨_,_,rfl,⟨(aq5 hc.1).1,(aq5 hc.1).2,(aq5 hc.2).1,(aq5 hc.2).2⟩,q _ H' F' G' x (.of (aia _ _) (aoi.imp fun _ _=>trivial))⟩
  ·cases e2
 ·cases e2
noncomputable def forD(b:D->Ro->Option Ro)(g:Sd):List D->Sd
 | [],ρ=>some (.nx,ρ)
 | d::ds,ρ=>match b d ρ with
  | none=>none
  | some ρ1=>match g ρ1 with
   | some (.nx,ρ2)=>forD b g ds ρ2
   | some (.cont,ρ2)=>forD b g ds ρ2
   | some (.brk,ρ2)=>some (.nx,ρ2)
   | some (.ret r,ρ2)=>some (.ret r,ρ2)
   | some (.exc x,ρ2)=>some (.exc x,ρ2)
   | none=>none
def dFor(m:M (List D))(b:D->Ro->Option Ro)(g:Sd):Sd:=dM m (forD b g)
theorem sy{m:M (List D)}{b:D->Ro->Option Ro}{g:Sd}(hp:tK (bU X.prog X.w) X.A X.env X.xe)(hc:X.calm=true)(hi:IT K X tgt iter m)(hg:GV K X tgt b)(hb:SVs K X ss g)
  (hs:∀x,foldedSetIterable iter X.env x=pure x:=by intro _;rfl):SV K X (.For tgt iter ss [] pos) (dFor m b g):=SV.mk fun hk=>PS.imp (ays hp hc (hi hk) (hg hk) (hb hk) hs) fun E σ H ⟨tg,F,ρ,fl,ρ',G,em,q⟩=>ww em q fun l ρ1 e1 em=>by
 refine⟨tg,F,ρ,l,ρ1,G,e1,fun J H1 F1 G1 x1 Z =>?_⟩
 refine auj Z (fun i σ2 H2=>∃F2 ρ2,Good K tg F2 H2 ρ2 σ2/\Ext (Own ρ σ) (Own ρ2 σ2) F H F2 H2/\Same F1 F2/\forD b g (l.drop i) ρ2=some (fl,ρ')) ⟨F1,ρ1,G1,x1,Same.refl _,em⟩ (fun i σ2 H2 _ ⟨F2,ρ2,G2,_,s2,_⟩=>s2.trans G2.sub) ?_ ?_
 ·rintro i d x σ2 H2' H2 hd ⟨F2',ρ2,G2',x2',s2',em2⟩ al
  obtain⟨F2,G2,x2,s2,id,_⟩:=ajf G2' x2' s2' al;have hlt:i < l.length:=(aK.mp hd).1;have ed:l[i]=d:=(aK.mp hd).2;rw[oM hlt,ed] at em2;unfold forD at em2;split at em2
  ·cases em2
  ·rename_i ρ3 e3;refine⟨tg,F2,ρ2,d,ρ3,G2,id,e3,fun σ3 H3 F3 G3 x3 =>?_⟩
   have again:∀{ρ4:Ro},forD b g (l.drop (i+1)) ρ4=some (fl,ρ')->∀σ' H' F',Good K tg F' H' ρ4 σ'->Ext (Own ρ3 σ3) (Own ρ4 σ') F3 H3 F' H' ->
     ∃F2 ρ2,Good K tg F2 H' ρ2 σ'/\Ext (Own ρ σ) (Own ρ2 σ') F H F2 H'/\Same F1 F2/\forD b g (l.drop (i+1)) ρ2=some (fl,ρ') :=
    fun{ρ4} e4 σ' H' F' G' x'=>⟨F',ρ4,G',(x2.trans x3).trans x',(s2.trans x3.sub).trans x'.sub,e4⟩
   split at em2
   ·rename_i ρ4 e4;exact⟨tg,F3,ρ3,.nx,ρ4,G3,e4,again em2⟩
   ·rename_i ρ4 e4;exact⟨tg,F3,ρ3,.cont,ρ4,G3,e4,again em2⟩
   ·rename_i ρ4 e4;cases em2;exact⟨tg,F3,ρ3,.brk,_,G3,e4,fun σ' H' F' G' x'=>q σ' H' F' G' ((x2.trans x3).trans x')⟩
   ·rename_i r ρ4 e4;cases em2;exact⟨tg,F3,ρ3,.ret r,_,G3,e4,fun v σ' H' F' G' x' rr=>q v σ' H' F' G' ((x2.trans x3).trans x') (lg (x2.trans x3) rr)⟩
   ·cases em2;exact(show False from q).elim
   ·cases em2
 ·rintro σ2 H2 ⟨F2,ρ2,G2,x2,s2,em2⟩
  rw[pX (aN _)] at em2;cases em2;exact q σ2 H2 F2 G2 x2
noncomputable def whileD(c:M Bool)(g:Sd):Nat->Sd
 | 0,_=>none
 | n+1,ρ=>match c ρ with
  | some (.ok true,ρ1)=>match g ρ1 with
   | some (.nx,ρ2)=>whileD c g n ρ2
   | some (.cont,ρ2)=>whileD c g n ρ2
   | some (.brk,ρ2)=>some (.nx,ρ2)
   | some (.ret r,ρ2)=>some (.ret r,ρ2)
   | some (.exc x,ρ2)=>some (.exc x,ρ2)
   | none=>none
  | some (.ok false,ρ1)=>some (.nx,ρ1)
  | some (.exc x,ρ1)=>some (.exc x,ρ1)
  | none=>none
theorem aey{m:M Bool}{g:Sd}(n:Nat)(hp:tK (bU X.prog X.w) X.A X.env X.xe)(hc:ET K X c m)(hb:SVs K X ss g):SV K X (.While c ss [] pos) (whileD m g n):=SV.mk fun hk=>PS.imp (awd hp (hc hk) (hb hk)) fun E σ H z9=>by
 obtain⟨tg,F,ρ,fl,ρ',G,em,q⟩:=z9;refine⟨fun k σ2 H2=>∃F2 ρ2,Good K tg F2 H2 ρ2 σ2/\Ext (Own ρ σ) (Own ρ2 σ2) F H F2 H2/\whileD m g k ρ2=some (fl,ρ'),⟨n,F,ρ,G,Ext.refl _ _ _,em⟩,?_⟩
 rintro k σ2 H2 ⟨F2,ρ2,G2,x2,em2⟩
 cases k with
 | zero=>cases em2
 | succ k =>
  unfold whileD at em2;split at em2
  ·rename_i ρ3 e3;refine⟨tg,F2,ρ2,true,ρ3,G2,e3,fun H3 F3 G3 x3=>iteT ?_⟩
   refine⟨fun σ' H'=>∃F2 ρ2,Good K tg F2 H' ρ2 σ'/\Ext (Own ρ σ) (Own ρ2 σ') F H F2 H'/\whileD m g k ρ2=some (fl,ρ'),fun σ' H' h=>⟨k,lK k,h⟩,?_⟩
   split at em2
   ·rename_i ρ4 e4;exact⟨tg,F3,ρ3,.nx,ρ4,G3,e4,fun σ' H' F' G' x'=>⟨F',ρ4,G',(x2.trans x3).trans x',em2⟩⟩
   ·rename_i ρ4 e4;exact⟨tg,F3,ρ3,.cont,ρ4,G3,e4,fun σ' H' F' G' x'=>⟨F',ρ4,G',(x2.trans x3).trans x',em2⟩⟩
   ·rename_i ρ4 e4;cases em2;exact⟨tg,F3,ρ3,.brk,_,G3,e4,fun σ' H' F' G' x'=>q σ' H' F' G' ((x2.trans x3).trans x')⟩
   ·rename_i r ρ4 e4;cases em2;exact⟨tg,F3,ρ3,.ret r,_,G3,e4,fun v σ' H' F' G' x' rr=>q v σ' H' F' G' ((x2.trans x3).trans x') (lg (x2.trans x3) rr)⟩
   ·cases em2;exact(show False from q).elim
   ·cases em2
  ·rename_i ρ3 e3;cases em2;exact⟨tg,F2,ρ2,false,_,G2,e3,fun H3 F3 G3 x3=>iteF (q σ2 H3 F3 G3 (x2.trans x3))⟩
  ·cases em2;exact(show False from q).elim
  ·cases em2
end
def akn(ρ:Ro)(i:Nat)(o:Option Nat)(d:Option D):Sl:=match o with
 | some j=>match ρ[j]? with
  | some (.val d)=>.val d
  | some (.own _ l)=>.own (some i) l
  | _=>.emp
 | none=>match d with
  | some d=>.val d
  | none=>.emp
def lend(ρ:Ro)(js:List (Option Nat))(ds:List (Option D)):Ro:=(zQ js ds).mapIdx fun i p=>akn ρ i p.1 p.2
def okJs(ρ:Ro):List (Option Nat)->Bool
 | []=>true
 | none::r=>okJs ρ r
 | some j::r=>(match ρ[j]? with
  | some (.own _ _) => !r.contains (some j)
  | _=>true)&&okJs ρ r
theorem aip{ρ:Ro}:∀{js:List (Option Nat)} {i i' j:Nat} {t:Option Nat} {l:List D},okJs ρ js=true->js[i]? = some (some j)->js[i']? = some (some j)->ρ[j]? = some (.own t l)->i=i'
 | [],_,_,_,_,_,_,h,_,_=>by simp at h
 | o::r,0,0,_,_,_,_,_,_,_=>rfl
 | o::r,0,i'+1,j,t,l,hk,h,h',e=>by
  simp at h h';subst h;unfold okJs at hk;rw[e,bG] at hk;have:=iT h';simp[this] at hk
 | o::r,i+1,0,j,t,l,hk,h,h',e=>by
  simp at h h';subst h';unfold okJs at hk;rw[e,bG] at hk;have:=iT h;simp[this] at hk
 | none::r,i+1,i'+1,j,t,l,hk,h,h',e=>by
  rw[aip (js:=r) (i:=i) (i':=i') (j:=j) (by unfold okJs at hk;exact hk) (by simpa using h) (by simpa using h') e]
 | some k::r,i+1,i'+1,j,t,l,hk,h,h',e=>by
  unfold okJs at hk;rw[bG] at hk;rw[aip (js:=r) (i:=i) (i':=i') (j:=j) hk.2 (by simpa using h) (by simpa using h') e]
def putS(js:List (Option Nat))(ps:Ro)(j:Nat)(s:Sl):Sl:=match js.findIdx? (fun o=>o==some j) with
 | none=>s
 | some i=>match s with
  | .own t _=>match ps[i]? with
   | some (.own (some i') l')=>if i'=i then .own t l' else .emp
   | _=>.emp
  | s=>s
def putB(ρ:Ro)(js:List (Option Nat))(ps:Ro):Ro:=ρ.mapIdx fun j s=>putS js ps j s
def tgOf(τ:L2.St)(i:Nat):aX:=match τ[i]? with
 | some (some (.ref a))=>a
 | _=>0
section
variable{K:Fg9}{tg:Nat->aX}{F H F' H':Hp}{ρ ps:Ro}{σ τ:L2.St}{js:List (Option Nat)}{ds:List (Option D)}{O':aX->Prop}
theorem aod{i:Nat}{s:Sl}(h:(lend ρ js ds:List Sl)[i]? = some s):∃o d,js[i]? = some o/\ds[i]? = some d/\s=akn ρ i o d:=by
 unfold lend at h;rw[nJ] at h;cases e:(zQ js ds)[i]? with
 | none=>rw[e] at h;cases h
 | some p =>
  rw[e] at h;cases h;rw[List.getElem?_zip_eq_some] at e;exact⟨p.1,p.2,e.1,e.2,rfl⟩
theorem axa{i:Nat}{t:Option Nat}{l:List D}(h:(lend ρ js ds:List Sl)[i]? = some (.own t l)):∃j t',js[i]? = some (some j)/\ρ[j]? = some (.own t' l)/\t=some i:=by
 obtain⟨o,d,e1,e2,e3⟩:=aod h;unfold akn at e3;cases o with
 | none=>cases d <;> cases e3
 | some j =>
  simp only at e3;cases e:ρ[j]? with
  | none=>rw[e] at e3;cases e3
  | some s =>
   rw[e] at e3;cases s with
   | emp=>cases e3
   | val _=>cases e3
   | box _ _=>cases e3
   | lol _=>cases e3
   | lnk _=>cases e3
   | own t' l'=>cases e3;exact⟨j,t',e1,e,rfl⟩
structure Lent (K:Fg9) (F:Hp) (σ τ:L2.St) (js:List (Option Nat)) (ds:List (Option D)):Prop where
 l1:τ.length=js.length
 l2:ds.length=js.length
 h1:∀(i j:Nat) (o:Option V),js[i]? = some (some j)->σ[j]? = some o->τ[i]? = some o
 h2:∀(i:Nat) (d:D),js[i]? = some none->ds[i]? = some (some d)->∃v,τ[i]? = some (some v)/\Is K F d v
theorem Good.σ_at(G:Good K tg F H ρ σ){j:Nat}{s:Sl}(e:(ρ:List Sl)[j]? = some s):∃o,σ[j]? = some o:=by
 obtain⟨o,h,_⟩:=G.at e;exact⟨o,h⟩
theorem abt(G:Good K tg F H ρ σ)(L:Lent K F σ τ js ds){i:Nat}{a:aX}(h:Owns (lend ρ js ds) τ i a):∃j,js[i]? = some (some j)/\Owns ρ σ j a:=by
 obtain⟨⟨t,l,e⟩,q⟩:=h;obtain⟨j,t',e1,e2,_⟩:=axa e;obtain⟨o,ho⟩:=G.σ_at e2;have:=L.h1 i j o e1 ho;rw[q] at this;cases this;exact⟨j,e1,⟨t',l,e2⟩,ho⟩
theorem aa7(G:Good K tg F H ρ σ)(hk:okJs ρ js=true)(L:Lent K F σ τ js ds):Good K (tgOf τ) F H (lend ρ js ds) τ where
 sub:=G.sub
 len:=by
  unfold lend;rw[wV,List.length_zip,L.l2,L.l1];omega
 sl:=fun i s o e q=>by
  obtain⟨oj,d,e1,e2,rfl⟩:=aod e;unfold akn;cases oj with
  | none =>
   cases d with
   | none=>trivial
   | some d =>
    obtain⟨v,h1,h2⟩:=L.h2 i d e1 e2;rw[q] at h1;cases h1;exact⟨v,rfl,h2⟩
  | some j =>
   simp only;cases e3:ρ[j]? with
   | none=>trivial
   | some s =>
    obtain⟨o',ho,w⟩:=G.at e3;have:=L.h1 i j o' e1 ho;rw[q] at this;cases this;cases s with
    | emp=>trivial
    | val d=>exact w
    | box _ _=>trivial
    | lol _=>trivial
    | lnk _=>trivial
    | own t l =>
     obtain⟨a,vs,rfl,hf,hh,hl,_⟩:=w;refine⟨a,vs,rfl,hf,hh,hl,fun k e =>?_⟩
     cases e;unfold tgOf;rw[q]
 inj:=fun i i' a w w'=>by
  obtain⟨j,e,v⟩:=abt G L w;obtain⟨j',e',v'⟩:=abt G L w';have:=G.inj j j' a v v';subst this;obtain⟨⟨t,l,z⟩,_⟩:=v;exact aip hk e e' z
structure Fin (K:Fg9) (F' H':Hp) (τ:L2.St) (ps:Ro) (O':aX->Prop):Prop where
 at':∀(i:Nat) (l:List D),(ps:List Sl)[i]? = some (.own (some i) l)->O' (tgOf τ i)/\F' (tgOf τ i)=none/\∃vs,H' (tgOf τ i)=some (.lst vs)/\IsL K F' l vs
theorem aic{j:Nat}{s:Sl}(h:(putB ρ js ps:List Sl)[j]? = some s):∃s0:Sl,(ρ:List Sl)[j]? = some s0/\((∃t l,s0=Sl.own t l/\∃i:Nat,js[i]? = some (some j)/\((∃l',(ps:List Sl)[i]? = some (Sl.own (some i) l')/\s=Sl.own t l')∨s=Sl.emp)) ∨
  (s=s0/\∀t l,s0=Sl.own t l->∀i:Nat,js[i]? ≠ some (some j))):=by
 unfold putB at h;rw[nJ] at h;cases e:(ρ:List Sl)[j]? with
 | none=>rw[e] at h;cases h
 | some s0 =>
  rw[e] at h;refine⟨s0,rfl,?_⟩;have h:putS js ps j s0=s:=cP h;unfold putS at h;cases ei:js.findIdx? (fun o=>o==some j) with
  | none =>
   rw[ei] at h;have h:s0=s:=h;refine .inr ⟨h.symm,fun _ _ _ i z =>?_⟩
   rw[uG] at ei;have:=ei _ (iT z);simp at this
  | some i =>
   rw[ei] at h;cases s0 with
   | emp=>exact .inr ⟨(show Sl.emp=s from h).symm,fun t l z=>by cases z⟩
   | val d=>exact .inr ⟨(show Sl.val d=s from h).symm,fun t l z=>by cases z⟩
   | box c fs=>exact .inr ⟨(show Sl.box c fs=s from h).symm,fun t l z=>by cases z⟩
   | lol ts=>exact .inr ⟨(show Sl.lol ts=s from h).symm,fun t l z=>by cases z⟩
   | lnk k=>exact .inr ⟨(show Sl.lnk k=s from h).symm,fun t l z=>by cases z⟩
   | own t l =>
    refine .inl ⟨t,l,rfl,i,?_,?_⟩
    ·obtain⟨hi,hb,_⟩:=mG.mp ei;rw[aF hi];exact congrArg some (eq_of_beq hb)
    ·have h:(match (ps:List Sl)[i]? with
      | some (.own (some i') l')=>if i'=i then Sl.own t l' else .emp
      | _=>.emp)=s:=h
     cases ep:(ps:List Sl)[i]? with
     | none=>rw[ep] at h;exact .inr h.symm
     | some sp =>
      rw[ep] at h;cases sp with
      | emp=>exact .inr h.symm
      | val _=>exact .inr h.symm
      | box _ _=>exact .inr h.symm
      | lol _=>exact .inr h.symm
      | lnk _=>exact .inr h.symm
      | own t' l' =>
       cases t' with
       | none=>exact .inr h.symm
       | some i' =>
        have h2:(if i'=i then Sl.own t l' else .emp)=s:=h
        by_cases z:i'=i
        ·subst z;rw[if_pos rfl] at h2;exact .inl ⟨l',rfl,h2.symm⟩
        ·rw[if_neg z] at h2;exact .inr h2.symm
theorem ado{j:Nat}{a:aX}(h:Owns (putB ρ js ps) σ j a):Owns ρ σ j a:=by
 obtain⟨⟨t,l,e⟩,q⟩:=h;obtain⟨s0,e0,h | ⟨rfl,_⟩⟩:=aic e
 ·obtain⟨t',l',rfl,i,_,⟨l2,_,z⟩ | z⟩:=h
  ·exact⟨⟨t',l',e0⟩,q⟩
  ·cases z
 ·exact⟨⟨t,l,e0⟩,q⟩
theorem adp(G:Good K tg F H ρ σ)(L:Lent K F σ τ js ds)(x:Ext (Own (lend ρ js ds) τ) O' F H F' H')(s':Same F' H')(fin:Fin K F' H' τ ps O'):Good K tg F' H' (putB ρ js ps) σ where
 sub:=s'
 len:=by
  unfold putB;rw[wV];exact G.len
 sl:=fun j s o e q=>by
  obtain⟨s0,e0,h | ⟨rfl,hn⟩⟩:=aic e
  ·obtain⟨t,l,rfl,i,ei,⟨l',ep,rfl⟩ | rfl⟩:=h
   ·obtain⟨a,vs,rfl,hf,hh,hl,ht⟩:=G.sl j _ _ e0 q;obtain⟨_,hf',ws,hh',hl'⟩:=fin.at' i l' ep;have:=L.h1 i j _ ei q;have et:tgOf τ i=a:=by
     unfold tgOf;rw[this]
    rw[et] at hf' hh';exact⟨a,ws,rfl,hf',hh',hl',ht⟩
   ·trivial
  ·have w:=G.sl j _ _ e0 q;cases s with
   | emp=>trivial
   | val d =>
    obtain⟨v,h1,h2⟩:=w;exact⟨v,h1,h2.mono x.sub⟩
   | lol ts =>
    obtain⟨a,h1,h2⟩:=w;exact⟨a,h1,x.sub _ _ h2⟩
   | lnk k=>exact w
   | box c fs =>
    obtain⟨a,C,dx,fvs,e1,e2,e3,e4,e7,e5,e6⟩:=w;have no:¬Own (lend ρ js ds) τ a:=fun⟨i,z⟩=>by
     obtain⟨j',_,v⟩:=abt G L z;obtain⟨_,vs,hv⟩:=G.ownAt ⟨j',v⟩;rw[e3] at hv;cases hv
    have hf:F' a=none:=by
     cases z:F' a with
     | none=>rfl
     | some o =>
      rcases x.new a o z with z | z | z
      ·rw[e2] at z;cases z
      ·rw[e3] at z;cases z
      ·exact absurd z no
    exact⟨a,C,dx,fvs,e1,hf,x.keep a _ e3 no,e4,e7,e5,fun f d h=>(e6 f d h).imp fun v h=>⟨h.1,h.2.mono x.sub⟩⟩
   | own t l =>
    obtain⟨a,vs,rfl,hf,hh,hl,ht⟩:=w;have no:¬Own (lend ρ js ds) τ a:=fun⟨i,z⟩=>by
     obtain⟨j',e1,v⟩:=abt G L z;have:=G.inj j' j a v ⟨⟨t,l,e0⟩,q⟩;subst this;exact hn t l rfl i e1
    refine⟨a,vs,rfl,?_,x.keep a _ hh no,hl.mono x.sub,ht⟩;cases z:F' a with
    | none=>rfl
    | some o =>
     rcases x.new a o z with z | z | z
     ·rw[hf] at z;cases z
     ·rw[hh] at z;cases z
     ·exact absurd z no
 inj:=fun i j a w w'=>G.inj i j a (ado w) (ado w')
theorem aah(G:Good K tg F H ρ σ)(L:Lent K F σ τ js ds){a:aX}(h:Own (lend ρ js ds) τ a):Own ρ σ a:=by
 obtain⟨i,h⟩:=h;obtain⟨j,_,h⟩:=abt G L h;exact⟨j,h⟩
theorem ae9(G:Good K tg F H ρ σ)(L:Lent K F σ τ js ds)(x:Ext (Own (lend ρ js ds) τ) O' F H F' H'):Ext (Own ρ σ) (Own (putB ρ js ps) σ) F H F' H' where
 sub:=x.sub
 new:=fun a o e=>by
  rcases x.new a o e with z | z | z
  ·exact .inl z
  ·exact .inr (.inl z)
  ·exact .inr (.inr (aah G L z))
 keep:=fun a o e n=>x.keep a o e fun z=>n (aah G L z)
 own:=fun a ⟨j,w⟩=>.inl ⟨j,ado w⟩
 there:=x.there
theorem avm(G:Good K tg F H ρ σ)(L:Lent K F σ τ js ds)(fin:Fin K F' H' τ ps O'){a:aX}(ha:H a=none∨Own (lend ρ js ds) τ a)(hn:¬O' a):¬Own (putB ρ js ps) σ a:=fun⟨j,w⟩=>by
 have v:=ado w;obtain⟨⟨t,l2,e⟩,q⟩:=w;obtain⟨s0,e0,z | ⟨rfl,hno⟩⟩:=aic e
 ·obtain⟨t',l',rfl,i,ei,⟨l3,ep,z⟩ | z⟩:=z
  ·have et:tgOf τ i=a:=by
    unfold tgOf;rw[L.h1 i j _ ei q]
   have:=(fin.at' i l3 ep).1;rw[et] at this;exact hn this
  ·cases z
 ·rcases ha with ha | ⟨i,z⟩
  ·obtain⟨a',vs',ea,_,e2,_⟩:=G.sl j _ _ e0 q;cases ea;rw[ha] at e2;cases e2
  ·obtain⟨j',e1,v'⟩:=abt G L z;have:=G.inj j' j a v' v;subst this;exact hno t l2 rfl i e1
theorem apc(G:Good K tg F H ρ σ)(L:Lent K F σ τ js ds)(fin:Fin K F' H' τ ps O'){r:Rv}{v:V}(h:relR K r v H (Own (lend ρ js ds) τ) F' H' O'):relR K r v H (Own ρ σ) F' H' (Own (putB ρ js ps) σ):=by
 cases r with
 | v d=>exact h
 | fr l =>
  obtain⟨a,vs,rfl,ha,hf,hh,hl,hn⟩:=h;exact⟨a,vs,rfl,ha.imp id (aah G L),hf,hh,hl,avm G L fin ha hn⟩
 | tf d l =>
  obtain⟨t,u,a,vs,rfl,ht,hd,ha,hf,hh,hl,hn⟩:=h;exact⟨t,u,a,vs,rfl,ht,hd,ha.imp id (aah G L),hf,hh,hl,avm G L fin ha hn⟩
end
abbrev Fd:=Ro->Option (Out Rv×Ro)
noncomputable def fnD(nl np:Nat)(g:Sd):Fd:=fun as=>match g (as++aV (nl - np) .emp) with
 | some (.ret r,ρ)=>some (.ok r,ρ.take np)
 | some (.nx,ρ)=>some (.ok (.v .non),ρ.take np)
 | some (.exc x,ρ)=>some (.exc x,ρ.take np)
 | _=>none
def spOf(K:Fg9)(n:Nat)(f:Fd):Sp:=fun vs H Q _=>vs.length=n/\∃F as r ps,Good K (tgOf (vs.map some)) F H as (vs.map some)/\f as=some (.ok r,ps) /\
 ∀v H' F' O',Same F' H'->Ext (Own as (vs.map some)) O' F H F' H'->Fin K F' H' (vs.map some) ps O'->relR K r v H (Own as (vs.map some)) F' H' O'->Q v H'
section
variable{K:Fg9}
theorem a0x{as:Ro}{τ:L2.St}{n:Nat}{a:aX}(hl:as.length=τ.length)(h:Own (as++aV n .emp) (τ++aV n none) a):Own as τ a:=by
 obtain⟨i,⟨t,l,e⟩,q⟩:=h
 by_cases hi:i < as.length
 ·rw[bZ hi] at e;rw[bZ (by omega)] at q
  exact⟨i,⟨t,l,e⟩,q⟩
 ·rw[eE (by omega),mD] at e
  split at e <;> cases e
theorem awq{as:Ro}{τ:L2.St}{n:Nat}{a:aX}(hl:as.length=τ.length)(h:Own as τ a):Own (as++aV n .emp) (τ++aV n none) a:=by
 obtain⟨i,⟨t,l,e⟩,q⟩:=h;have hi:=(aK.mp e).1;exact⟨i,⟨t,l,by rw[bZ hi];exact e⟩,by rw[bZ (by omega)];exact q⟩
theorem zc{as:Ro}{τ:L2.St}{n:Nat}(hl:as.length=τ.length):Own (as++aV n .emp) (τ++aV n none)=Own as τ:=funext fun a=>propext ⟨a0x hl,awq hl⟩
theorem Good.app{tg:Nat->aX}{F H:Hp}{as:Ro}{τ:L2.St}(G:Good K tg F H as τ)(n:Nat):Good K tg F H (as++aV n .emp) (τ++aV n none) where
 sub:=G.sub
 len:=by rw[bM,bM,G.len,qF,qF]
 sl:=fun i s o e q=>by
  have hl:=G.len
  by_cases hi:i < as.length
  ·rw[bZ hi] at e;rw[bZ (by omega)] at q
   exact G.sl i s o e q
  ·rw[eE (by omega),mD] at e
   split at e
   ·cases e;trivial
   ·cases e
 inj:=fun i j a w w'=>by
  have hl:=G.len;have f:∀k,Owns (as++aV n .emp) (τ++aV n none) k a->Owns as τ k a:=fun k ⟨⟨t,l,e⟩,q⟩=>by
   by_cases hi:k < as.length
   ·rw[bZ hi] at e;rw[bZ (by omega)] at q
    exact⟨⟨t,l,e⟩,q⟩
   ·rw[eE (by omega),mD] at e
    split at e <;> cases e
  exact G.inj i j a (f i w) (f j w')
theorem a91{P:cA}{w:dJ}{mg:Str->Option aD}{base:fK}{x qual:Str}{st:iJ}{f:aX}{fd:fJ}{N ps:List Str}{k:Nat}{g:Sd}(F:Fun K x qual st f fd)(S:FnScope N ps (ao st))
  (body:∀(cdv:aD) (A:cW) (outer:List Env) (s:aH) (H:Hp) (E:XK),Room k (A.deeper (pO qual (ao st) s.heap.objs.size f cdv))->SVs K (cxOf CX0 P w K mg base N qual (ao st) f cdv A outer s H E).nox (ie st) g) :
  FnOk P w K mg base CX0 (k+1) f fd ps (spOf K ps.length (fnD N.length ps.length g)):=by
 refine F.ok S (fun vs H Q E h=>h.1) (fun cdv A outer s H vs Q E hr h=>⟨_,body cdv A outer s H E hr rfl,?_⟩)
 obtain⟨hn,F,as,r,ps',G,em,q⟩:=h;have hl:as.length=(vs.map some).length:=G.len;have G1:=G.app (N.length - vs.length);have es:start N vs=vs.map some++aV (N.length - vs.length) none:=rfl;rw[es];unfold fnD at em;rw[<-hn] at em;have fin:∀{ρ':Ro} {σ':L2.St} {F' H':Hp},Good K (tgOf (vs.map some)) F' H' ρ' σ'->Fin K F' H' (vs.map some) (ρ'.take vs.length) (Own ρ' σ'):=fun{ρ' σ' F' H'} G'=>⟨fun i l e=>by
  have hi:=(aK.mp e).1;rw[gC] at hi;rw[lQ (by omega)] at e
  obtain⟨o,ho,a,ws,rfl,hf,hh,hl,ht⟩:=G'.at e;rw[ht i rfl];exact⟨⟨i,⟨_,_,e⟩,ho⟩,hf,ws,hh,hl⟩⟩
 split at em
 ·rename_i r' ρ' e;cases em;refine⟨_,F,_,.ret r,ρ',G1,e,fun v σ' H' F' G' x' rr =>?_⟩
  rw[zc hl] at x' rr;exact q v H' F' (Own ρ' σ') G'.sub x' (fin G') rr
 ·rename_i ρ' e;cases em;refine⟨_,F,_,.nx,ρ',G1,e,fun σ' H' F' G' x' =>?_⟩
  rw[zc hl] at x';exact q .non H' F' (Own ρ' σ') G'.sub x' (fin G') .non
 ·cases em
 ·cases em
end
section
variable{K:Fg9}{X:Cx}{e a b c tgt iter elt:dX}{es:List dX}{pos p p2:Pos}
inductive AR (K:Fg9) (F:Hp) (σ:L2.St):List (Option Nat)->List (Option D)->List V->Prop
 | nil:AR K F σ [] [] []
 | ex {d:D} {v:V} {js:List (Option Nat)} {ds:List (Option D)} {vs:List V} (h:Is K F d v) (t:AR K F σ js ds vs):AR K F σ (none::js) (some d::ds) (v::vs)
 | nm {j:Nat} {v:V} {js:List (Option Nat)} {ds:List (Option D)} {vs:List V} (h:σ[j]? = some (some v)) (t:AR K F σ js ds vs):AR K F σ (some j::js) (none::ds) (v::vs)
theorem AR.lent{F:Hp}{σ:L2.St}:∀{js:List (Option Nat)} {ds:List (Option D)} {vs:List V},AR K F σ js ds vs->Lent K F σ (vs.map some) js ds
 | _,_,_,.nil=>⟨rfl,rfl,fun i j o h=>by simp at h,fun i d h=>by simp at h⟩
 | _,_,_,.ex h t=>by
  have L:=t.lent;refine⟨by simp[by simpa using L.l1],by simp[L.l2],fun i j o h q =>?_,fun i d h q =>?_⟩
  ·cases i with
   | zero=>simp at h
   | succ i=>simpa using L.h1 i j o (by simpa using h) q
  ·cases i with
   | zero=>simp at q;subst q;exact⟨_,rfl,‹_›⟩
   | succ i=>simpa using L.h2 i d (by simpa using h) (by simpa using q)
 | _,_,_,.nm h t=>by
  have L:=t.lent;refine⟨by simp[by simpa using L.l1],by simp[L.l2],fun i j o h' q =>?_,fun i d h' q =>?_⟩
  ·cases i with
   | zero =>
    simp at h';subst h';rw[h] at q;cases q;rfl
   | succ i=>simpa using L.h1 i j o (by simpa using h') q
  ·cases i with
   | zero=>simp at h'
   | succ i=>simpa using L.h2 i d (by simpa using h') (by simpa using q)
theorem AR.length{F:Hp}{σ:L2.St}{js:List (Option Nat)}{ds:List (Option D)}{vs:List V}(h:AR K F σ js ds vs):vs.length=js.length:=by
 have:=h.lent.l1
 simpa using this
def TAg(K:Fg9)(js:List (Option Nat))(m:M (List (Option D))):TA:=fun σ H Q=>∃tg F ρ ds ρ',Good K tg F H ρ σ/\m ρ=some (.ok ds,ρ')/\∀vs H' F',Good K tg F' H' ρ' σ->Ext (Own ρ σ) (Own ρ' σ) F H F' H'->AR K F' σ js ds vs->Q vs H'
structure EG (K:Fg9) (X:Cx) (es:List dX) (js:List (Option Nat)) (m:M (List (Option D))):Prop where
 go:X.K=K->PA X es (TAg K js m)
instance {K:Fg9} {X:Cx} {es:List dX} {js:List (Option Nat)} {m:M (List (Option D))}:CoeFun (EG K X es js m) fun _=>X.K=K->PA X es (TAg K js m):=⟨EG.go⟩
def gq:M (List (Option D)):=ret []
def dg(m:M D)(ms:M (List (Option D))):M (List (Option D)):=m.bind fun d=>ms.bind fun ds=>ret (some d::ds)
def gj(j:Nat)(ms:M (List (Option D))):M (List (Option D)):=(dq j).bind fun _=>ms.bind fun ds=>ret (none::ds)
theorem di:EG K X [] [] gq:=EG.mk fun _=>PA.imp aa6 fun σ H Q z9=>by
 obtain⟨tg,F,ρ,ds,ρ',G,em,q⟩:=z9;obtain⟨rfl,rfl⟩:=jy em;exact q [] H F G (Ext.refl _ _ _) .nil
theorem eg_v{m:M D}{js:List (Option Nat)}{ms:M (List (Option D))}(h:EV K X e m)(t:EG K X es js ms)(hs:aQ (e::es) X.env=(false,eval e X.env)::aQ es X.env:=by rfl):EG K X (e::es) (none::js) (dg m ms):=EG.mk fun hk=>PA.imp (mj (h hk) (t hk) hs) fun σ H Q z9=>by
 obtain⟨tg,F,ρ,ds,ρ',G,em,q⟩:=z9;obtain⟨d,ρ1,e1,em⟩:=bj em;obtain⟨r,ρ2,e2,em⟩:=bj em;obtain⟨rfl,rfl⟩:=jy em;exact⟨tg,F,ρ,d,ρ1,G,e1,fun v H1 F1 G1 x1 r1=>⟨tg,F1,ρ1,r,_,G1,e2,fun vs H2 F2 G2 x2 r2=>q _ H2 F2 G2 (x1.trans x2) (.ex (r1.mono x2.sub) r2)⟩⟩
theorem eg_n{j:Nat}{js:List (Option Nat)}{ms:M (List (Option D))}(h:PE X e (tVar j))(t:EG K X es js ms)(hs:aQ (e::es) X.env=(false,eval e X.env)::aQ es X.env:=by rfl):EG K X (e::es) (some j::js) (gj j ms):=EG.mk fun hk=>PA.imp (mj h (t hk) hs) fun σ H Q z9=>by
 obtain⟨tg,F,ρ,ds,ρ',G,em,q⟩:=z9;obtain⟨d0,ρ0,e0,em⟩:=bj em;obtain⟨r,ρ2,e2,em⟩:=bj em;obtain⟨rfl,rfl⟩:=jy em;obtain⟨rfl,v,hv,_⟩:=qx G e0;exact⟨v,hv,tg,F,ρ0,r,_,G,e2,fun vs H2 F2 G2 x2 r2=>q _ H2 F2 G2 x2 (.nm hv r2)⟩
noncomputable def mFn(f:Fd)(js:List (Option Nat))(ms:M (List (Option D))):M Rv:=ms.bind fun ds ρ=>if okJs ρ js=true then match f (lend ρ js ds) with
  | some (.ok r,ps)=>some (.ok r,putB ρ js ps)
  | some (.exc x,ps)=>some (.exc x,putB ρ js ps)
  | none=>none
 else none
theorem ayz{f:Fd}{js:List (Option Nat)}{ms:M (List (Option D))}{ρ ρ':Ro}{r:Rv}(h:mFn f js ms ρ=some (.ok r,ρ')):∃ds ρ1 ps,ms ρ=some (.ok ds,ρ1)/\okJs ρ1 js=true/\f (lend ρ1 js ds)=some (.ok r,ps)/\ρ'=putB ρ1 js ps:=by
 obtain⟨ds,ρ1,e1,em⟩:=bj h;have em:(if okJs ρ1 js=true then match f (lend ρ1 js ds) with
  | some (.ok r,ps)=>some (Out.ok r,putB ρ1 js ps)
  | some (.exc x,ps)=>some (.exc x,putB ρ1 js ps)
  | none=>none
  else none)=some (.ok r,ρ'):=em
 split at em
 ·rename_i hk;split at em
  ·rename_i r' ps e2;cases em;exact⟨ds,ρ1,ps,e1,hk,e2,rfl⟩
  ·cases em
  ·cases em
 ·cases em
theorem ik{f:Fd}{n k:Nat}{x:Str}{pn:List Str}{js:List (Option Nat)}{ms:M (List (Option D))}(F:Dfn X.prog X.w X.K X.mg X.base x pn k (spOf K n f))(hr:Room k X.A)(hg:Gl X x)(ha:EG K X (e::es) js ms)(hn:js.length=n:=by rfl)(hdb:(x==("__debug__" : Str))=false:=by decide)
  (he:aQ (e::es) X.env=(false,eval e X.env)::aQ es X.env:=by rfl) (hpl:(jD pos (aQ es X.env)).any (·.1)=false:=by rfl):ER K X (.Call (.Name x p) (e::es) [] pos) (mFn f js ms):=ER.mk fun hk=>PE.imp (a8r F hr hg (ha hk) hdb he hpl) fun σ H Q z9=>by
 obtain⟨tg,F,ρ,r,ρ',G,em,q⟩:=z9;obtain⟨ds,ρ1,ps,e1,hj,e2,rfl⟩:=ayz em;refine⟨tg,F,ρ,ds,ρ1,G,e1,fun vs H1 F1 G1 x1 ar =>?_⟩
 have L:=ar.lent;show spOf K n f (vs++[]) H1 Q E0;rw[gM];refine⟨by rw[ar.length];exact hn,F1,_,r,ps,aa7 G1 hj L,e2,fun v H' F' O' s' x' fin rr =>?_⟩
 exact q v H' F' (adp G1 L x' s' fin) (x1.trans (ae9 G1 L x')) (lg x1 (apc G1 L fin rr))
structure EIf (K:Fg9) (X:Cx) (ifs:List dX) (m:M Bool):Prop where
 go:X.K=K->PIf X ifs (TB K m)
instance {K:Fg9} {X:Cx} {ifs:List dX} {m:M Bool}:CoeFun (EIf K X ifs m) fun _=>X.K=K->PIf X ifs (TB K m):=⟨EIf.go⟩
theorem km:EIf K X [] (ret true):=EIf.mk fun _ zv s σ H Q I z9=>by
 obtain⟨tg,F,ρ,k,ρ',G,em,q⟩:=z9;obtain⟨rfl,rfl⟩:=jy em;exact a0q zv s σ H Q I (q H F G (Ext.refl _ _ _))
theorem agl{m:M Bool}(h:ET K X c m):EIf K X [c] m:=EIf.mk fun hk=>a0p (h hk)
noncomputable def compD(b:D->Ro->Option Ro)(mc:M Bool)(me:M D):List D->List D->M (List D)
 | [],ys=>ret ys
 | d::ds,ys=>fun ρ=>match b d ρ with
  | none=>none
  | some ρ1=>(mc.bind fun k=>if k=true then me.bind fun y=>compD b mc me ds (ys++[y]) else compD b mc me ds ys) ρ1
theorem agt{b:D->Ro->Option Ro}{mc:M Bool}{me:M D}:∀{l ys yf:List D} {ρ ρ':Ro},compD b mc me l ys ρ=some (.ok yf,ρ')->ys.length<=yf.length
 | [],ys,yf,ρ,ρ',h=>by
  obtain⟨rfl,_⟩:=jy (show ret ys ρ=_ from h)
  exact aN _
 | d::ds,ys,yf,ρ,ρ',h=>by
  unfold compD at h;split at h
  ·cases h
  ·obtain⟨k,ρ2,e2,h⟩:=bj h;split at h
   ·obtain⟨y,ρ3,e3,h⟩:=bj h;have:=agt h;rw[bM] at this;omega
   ·exact agt h
def qz(src:List (Option Nat))(mi:M (List D))(b:D->Ro->Option Ro)(mc:M Bool)(me:M D):M Rv:=mi.bind fun l ρ=>if okJs ρ src=true then match compD b mc me l [] (lend ρ src (src.map fun _=>none)) with
  | some (.ok ys,ps)=>if ys.length<=capS then some (.ok (.fr ys),putB ρ src ps) else none
  | some (.exc x,ps)=>some (.exc x,putB ρ src ps)
  | none=>none
 else none
theorem aob{src:List (Option Nat)}{mi:M (List D)}{b:D->Ro->Option Ro}{mc:M Bool}{me:M D}{ρ ρ':Ro}{r:Rv}(h:qz src mi b mc me ρ=some (.ok r,ρ')):∃l ρ1 ys ps,mi ρ=some (.ok l,ρ1)/\okJs ρ1 src=true/\compD b mc me l [] (lend ρ1 src (src.map fun _=>none))=some (.ok ys,ps)/\ys.length<=capS/\r=.fr ys/\ρ'=putB ρ1 src ps:=by
 obtain⟨l,ρ1,e1,em⟩:=bj h;have em:(if okJs ρ1 src=true then match compD b mc me l [] (lend ρ1 src (src.map fun _=>none)) with
  | some (.ok ys,ps)=>if ys.length<=capS then some (Out.ok (Rv.fr ys),putB ρ1 src ps) else none
  | some (.exc x,ps)=>some (.exc x,putB ρ1 src ps)
  | none=>none
  else none)=some (.ok r,ρ'):=em
 split at em
 ·rename_i hk;split at em
  ·rename_i ys ps e2;split at em
   ·rename_i hz;cases em;exact⟨l,ρ1,ys,ps,e1,hk,e2,hz,rfl,rfl⟩
   ·cases em
  ·cases em
  ·cases em
 ·cases em
theorem asq{F:Hp}{σ:L2.St}(src:List (Option Nat)):Lent K F σ (pick src σ) src (src.map fun _=>none):=by
 refine⟨by simp[pick],by simp,fun i j o h q =>?_,fun i d h q =>?_⟩
 ·unfold pick;rw[bB,h];show some ((σ[j]?).bind id)=some o;rw[q];rfl
 ·rw[bB,h] at q;cases q
theorem Ext.upd{O O':aX->Prop}{F H F' H':Hp}{d:aX}{o:HO}(x:Ext O O' F H F' H')(h:H d=none):Ext O O' F H F' (upd H' d o) :=
 ⟨x.sub,x.new,fun a u e n=>by rw[bw (jh e h)];exact x.keep a u e n,x.own,fun a e=>by
  by_cases ha:a=d
  ·subst ha;exact h
  ·rw[bw ha] at e;exact x.there a e⟩
theorem Good.upd{tg:Nat->aX}{F H:Hp}{ρ:Ro}{σ:L2.St}{d:aX}(G:Good K tg F H ρ σ)(hf:F d=none)(hn:¬Own ρ σ d)(o:HO)(hi:∀C dx fs,H d≠some (.ins C dx fs)):Good K tg F (upd H d o) ρ σ :=
 G.grow (Same.refl F) (fun b u e=>by
  have hb:b≠d:=fun z=>by
   subst z;rw[hf] at e;cases e
  rw[bw hb];exact G.sub b u e) (fun a w=>⟨(G.ownAt w).1,by
  have hb:a≠d:=fun z=>hn (z▸w)
  rw[bw hb]⟩) fun a C dx fvs h1 h2=>⟨h1,by
  have hb:a≠d:=fun z=>hi C dx fvs (z▸h2)
  rw[bw hb]⟩
theorem ao3{mi:M (List D)}{bb:D->Ro->Option Ro}{mc:M Bool}{me:M D}{src:List (Option Nat)}(σ:L2.St)(H:Hp)(Q:VK)(t:T K (relR K) (qz src mi bb mc me) σ H Q):azx (TIt K mi) (TGd K bb) (TB K mc) (T K (relD K) me) src σ H Q:=by
 obtain⟨tg,F,ρ,r,ρ',G,em,q⟩:=t;obtain⟨l,ρ1,yf,ps,e1,hj,e2,hz,rfl,rfl⟩:=aob em;refine⟨tg,F,ρ,l,ρ1,G,e1,fun J H1 F1 G1 x1 Z dd hd =>?_⟩
 have L:Lent K F1 σ (pick src σ) src (src.map fun _=>none):=asq src
 have Gl:=aa7 G1 hj L;have own0:¬Own (lend ρ1 src (src.map fun _=>none)) (pick src σ) dd:=fun z=>Gl.own_ne hd z rfl
 refine ax8 Z (fun i ys σc Hc=>∃Fc ρc yd,Good K (tgOf (pick src σ)) Fc Hc ρc σc/\Ext (Own (lend ρ1 src (src.map fun _=>none)) (pick src σ)) (Own ρc σc) F1 H1 Fc Hc/\Fc dd=none/\¬Own ρc σc dd/\Hc dd=some (.lst ys)/\IsL K Fc yd ys/\compD bb mc me (l.drop i) yd ρc=some (.ok yf,ps))
  ⟨F1,_,[],Gl.upd (G1.freeF hd) own0 _ (fun _ _ _ z=>by rw[hd] at z;cases z),(Ext.refl _ _ _).upd hd,G1.freeF hd,own0,dh,.nil,e2⟩ ?_ ?_ ?_
 ·rintro i ys σc Hc _ ⟨Fc,ρc,yd,Gc,xc,_,_,hdd,_,_⟩
  exact⟨xc.sub.trans Gc.sub,hdd⟩
 ·rintro i d x ys σc Hc0 Hc M hdl ⟨Fc0,ρc,yd,Gc0,xc0,fd0,od0,hdd0,iy0,ec⟩ al hM
  obtain⟨Fc,Gc,xc,_,idl,xa⟩:=ajf Gc0 xc0 xc0.sub al;have iy:=iy0.mono xa.sub;have hlt:i < l.length:=(aK.mp hdl).1;have edl:l[i]=d:=(aK.mp hdl).2;rw[oM hlt,edl] at ec;unfold compD at ec;have step:∀{F2 H2:Hp} {ρ2 ρ3:Ro} {σ2 σ3:L2.St} {F3 H3:Hp},F2 dd=none->¬Own ρ2 σ2 dd->H2 dd=some (.lst ys)->Ext (Own ρ2 σ2) (Own ρ3 σ3) F2 H2 F3 H3->F3 dd=none/\¬Own ρ3 σ3 dd/\H3 dd=some (.lst ys):=fun{F2 H2 ρ2 ρ3 σ2 σ3 F3 H3} h1 h2 h3 x3=>by
   refine⟨?_,fun z =>?_,x3.keep _ _ h3 h2⟩
   ·cases z:F3 dd with
    | none=>rfl
    | some o =>
     rcases x3.new _ _ z with z | z | z
     ·rw[h1] at z;cases z
     ·rw[h3] at z;cases z
     ·exact absurd z h2
   ·rcases x3.own _ z with z | z
    ·exact h2 z
    ·rw[h3] at z;cases z
  obtain⟨fd,od,hdd⟩:=step fd0 od0 hdd0 xa;split at ec
  ·cases ec
  ·rename_i ρ2 eb;refine⟨_,Fc,ρc,d,ρ2,Gc,idl,eb,fun σ2 H2 F2 G2 x2 =>?_⟩
   obtain⟨k,ρ3,ek,ec⟩:=bj ec;obtain⟨fd2,od2,hdd2⟩:=step fd od hdd x2;refine⟨_,F2,ρ2,k,ρ3,G2,ek,fun H3 F3 G3 x3 =>?_⟩
   obtain⟨fd3,od3,hdd3⟩:=step fd2 od2 hdd2 x3;cases k with
   | false =>
    refine iteF (hM _ _ _ ⟨F3,ρ3,yd,G3,(xc.trans x2).trans x3,fd3,od3,hdd3,(iy.mono x2.sub).mono x3.sub,ec⟩)
   | true =>
    obtain⟨y,ρ4,ey,ec⟩:=bj ec;refine iteT ⟨_,F3,ρ3,y,ρ4,G3,ey,fun v H4 F4 G4 x4 iv =>?_⟩
    obtain⟨fd4,od4,hdd4⟩:=step fd3 od3 hdd3 x4;refine⟨hdd4,?_,hM _ _ _ ⟨F4,ρ4,yd++[y],G4.upd fd4 od4 _ (fun _ _ _ z=>by rw[hdd4] at z;cases z),(((xc.trans x2).trans x3).trans x4).upd hd,fd4,od4,dh,?_,ec⟩⟩
    ·have:=agt ec;rw[bM,iy.length] at this;rw[fY];exact cF (by simpa using lK ys.length) (cR this hz)
    ·exact(((iy.mono x2.sub).mono x3.sub).mono x4.sub).append (.cons iv .nil)
 ·rintro ys σc Hc ⟨Fc,ρc,yd,Gc,xc,fd,od,hdd,iy,ec⟩
  rw[pX (aN _)] at ec;obtain⟨rfl,rfl⟩:=jy (show ret yd ρc=_ from ec)
  have fin:Fin K Fc Hc (pick src σ) ps (Own ps σc):=⟨fun i l' e=>by
   obtain⟨o,ho,a,ws,rfl,hf,hh,hl,ht⟩:=Gc.at e;rw[ht i rfl];exact⟨⟨i,⟨_,_,e⟩,ho⟩,hf,ws,hh,hl⟩⟩
  refine q _ Hc Fc (adp G1 L xc Gc.sub fin) (x1.trans (ae9 G1 L xc)) ⟨dd,ys,rfl,.inl (x1.there dd hd),fd,hdd,iy,fun⟨j,w⟩ =>?_⟩
  exact G1.own_ne hd ⟨j,ado w⟩ rfl
theorem mq{ifs:List dX}{scope:pC}{mi:M (List D)}{bb:D->Ro->Option Ro}{mc:M Bool}{me:M D}(fr N:List Str)(src:List (Option Nat))(hc:X.calm=true)(hi:IT K X tgt iter mi)
  (hg:∀fp s H,GV K (cxC X N scope fr fp s H) tgt bb) (ht:∀fp s H,EIf K (cxC X N scope fr fp s H) ifs mc) (he:∀fp s H,EV K (cxC X N scope fr fp s H) elt me)
  (hok:ahv X.env X.N scope fr N src=true:=by rfl) (hkind:scope.kind=.function:=by rfl) (hclos:closureFor scope X.env=pure (aab X.env fr):=by rfl)
  (hs:∀x,foldedSetIterable iter X.env x=pure x:=by intro _;rfl):ER K X (.ListComp elt [⟨tgt,iter,ifs,0⟩] scope pos) (qz src mi bb mc me):=ER.mk fun hk=>by
 have hkc:∀fp s H,(cxC X N scope fr fp s H).K=K:=fun _ _ _=>hk
 refine PE.imp (a0t fr N src hc (hi hk) (fun fp s H=>(hg fp s H).go (hkc _ _ _)) (fun fp s H=>(ht fp s H).go (hkc _ _ _)) (fun fp s H=>(he fp s H).go (hkc _ _ _)) hok hkind hclos hs) ao3
end
end Dn
namespace Mn
open L2
theorem a0h{X:Cx}{tg iter elt:dX}{ifs:List dX}{scope:pC}{cpos pos px:Pos}{wi:TI}{g:TG}{ti:TT}{te:TE}{i:Nat}{x:Str}(fr N:List Str)(src:List (Option Nat))(hN:X.N.Nodup)(hxi:X.N[i]? = some x)(hx:Loc X.env.scope x)(hc:X.calm=true)(hi:PI X tg iter wi)
  (hg:∀fp s H,PG (cxC X N scope fr fp s H) tg g) (ht:∀fp s H,PIf (cxC X N scope fr fp s H) ifs ti) (he:∀fp s H,PE (cxC X N scope fr fp s H) elt te)
  (hsw:gU (.ListComp elt [⟨tg,iter,ifs,0⟩] scope cpos) (some (.Name x px)) pos.line X.env=pure true:=by rfl)
  (hok:ahv X.env X.N scope fr N src=true:=by rfl) (hkind:scope.kind=.function:=by rfl) (hclos:closureFor scope X.env=pure (aab X.env fr):=by rfl)
  (hs:∀x,foldedSetIterable iter X.env x=pure x:=by intro _;rfl) (hf:X.fn x=true∨X.env.scope.names.lookup x=some .local:=by first | exact .inl rfl | exact .inr rfl | assumption) :
  PS X (.Assign [.Name x px] (.ListComp elt [⟨tg,iter,ifs,0⟩] scope cpos) pos) (tAsg (azx wi g ti te src) (a1s i)):=by
 have C:=CompOk.of hok;intro zv s σ H D I h;rw[exec_Assign_Name_used _ _ _ _ hsw];refine aA (kE (aA ?_));show bL _ _ (comprehension (.ListComp elt [⟨tg,iter,ifs,0⟩] scope cpos) scope X.env (firstIterPos [⟨tg,iter,ifs,0⟩] cpos) (newList []) (firstAsync [⟨tg,iter,ifs,0⟩]) (firstIter [⟨tg,iter,ifs,0⟩] X.env) (some (mZ (.Name x px) X.env)) >>= fun _=>pure ()) _ _ _
 refine aA (wpAny_comprehension_free (use:=some (mZ (.Name x px) X.env)) (Q:=fun _ s'=>bL (bU X.prog X.w) X.A (pure ()) (fun _ s''=>bL (bU X.prog X.w) X.A (pure Flow.next) (SP X zv D) X.xe s'') X.xe s') rfl hs hclos hkind C.loc (bC (hi zv s σ H _ I h) (fun v s1 h1=>bC h1 (fun itv s2 h2 =>?_) fun _ _ e=>e) fun _ _ e=>e))
 obtain⟨it,fp,tn,J,H2,e,I2,T,st2,f2,q2⟩:=h2;subst e;have hd0:H2 s2.heap.objs.size=none:=I2.hok.fresh (aN _);obtain⟨W,⟨m0,w0⟩,turn⟩:=q2 s2.heap.objs.size hd0;refine cJ ?_;generalize hs3:({ s2 with heap:=s2.heap.push { cls:=.type "list", dict:=none,data:=.seq ([]:List aD).toArray } }:aH)=s3
 have keep2:∀b o,s2.heap.get? b=some o->s3.heap.get? b=some o:=fun b o e=>by rw[<-hs3];exact aB _ e
 have I3:Inv X zv σ (upd H2 s2.heap.objs.size (.lst [])) s3:=by
  rw[<-hs3];exact I2.laid (t':=s2.toks) (fun b u q=>aB _ q) (aN _) ⟨Nat.zero_le _,[],0,.nil,aO _ rfl⟩
 have ne0:∀b∈fp,b≠s2.heap.objs.size:=fun b hb=>by
  obtain⟨o,e,_⟩:=T.obj _ _ st2 b hb;exact bQ (aR e)
 have f3:∀b∈fp,FpOk X zv (upd H2 s2.heap.objs.size (.lst [])) b:=fun b hb=>⟨by rw[bw (ne0 b hb)];exact(f2 b hb).1,(f2 b hb).2⟩
 have lt3:∀b∈fp,b < s3.heap.objs.size:=fun b hb=>by
  obtain⟨o,e,_⟩:=T.obj _ _ st2 b hb;exact aR (keep2 b o e)
 refine wpAny_newFunctionEnv C.cell (by intro y hy;simp at hy) (fun h₁ hns₁ hsb₁ =>?_) hkind
 have keep3:∀b o,s3.heap.get? b=some o->h₁.get? b=some o:=fun b o e=>hsb₁.extBut b o (bQ (aR e)) (aB _ e)
 have st4:tn 0 h₁:=T.keep _ _ _ st2 fun b hb o e=>keep3 b o (keep2 b o e)
 have I4:=aol (tk:=s3.toks+([]:List (Str×Value)).length) I3 C hkind f3 lt3 hns₁ keep3;have loop:=ald (X:=cxC X N scope fr fp s3 (upd H2 s2.heap.objs.size (.lst []))) (iter:=iter) (scope:=scope) (pos:=cpos) (d:=s2.heap.objs.size) (Q:=fun v H1=>D.nx (σ.set i (some v)) H1)
  (R:=compPost (bU X.prog X.w) X.A X.xe (some (mZ (.Name x px) X.env)) (fun _ s'=>bL (bU X.prog X.w) X.A (pure ()) (fun _ s''=>bL (bU X.prog X.w) X.A (pure Flow.next) (SP X zv D) X.xe s'') X.xe s') (.ref s2.heap.objs.size) s3.heap.objs.size) hc rfl T
  (fun H' hn b hb=>⟨hn b hb,bQ (lt3 b hb),I4.ok.exfs b hb,.inl hb,(I4.ok.exf b hb).2,fun p hp=>absurd (show p∈([]:List (aX×Obj)) from hp) (by simp)⟩)
  (hg fp s3 _) (ht fp s3 _) (he fp s3 _) turn w0 I4 st4 (fun b hb=>(f3 b hb).1) (fun σ' H' s' I6 qn=>by
   obtain⟨m6,hn6,_⟩:=I6.loc;have fC:FpOk X zv H' s3.heap.objs.size:=I3.fpOk (aN _) I6.free;have I7:Inv X zv σ H' s':=aom I3 f3 I6 (xZ ..);refine wpAny_assign_Name (ajm I7 hN hxi hx (v:=.ref s2.heap.objs.size) rfl (fun s8 I8 ⟨a,sb,ha⟩ =>?_) hf)
   have hne:s3.heap.objs.size≠a:=by
    rcases ha with rfl | ha
    ·exact fC.2.1
    ·exact(fC.2.2.2.2.1 x a ha).symm
   obtain⟨o6,es6,ep6,g6,r6⟩:=hn6;refine⟨m6,⟨o6,es6,ep6,(sb.2 _ hne).trans g6,r6⟩,fun h9 sb9=>aG (aG ⟨_,H',?_,qn⟩)⟩
   exact I8.turned (t':=s8.toks) (it:=s3.heap.objs.size) (fun b o hb e=>(sb9.2 b hb).trans e) fC.1 fC.2.1 fC.2.2.2.1 fC.2.2.2.2.1 fC.2.2.2.2.2)
 exact codeAny_compStart_list loop (T.self _ 0 _ _ _ st4 loop)
end Mn
namespace Dn
open L2 Mn
section
variable{K:Fg9}{X:Cx}{tgt iter elt:dX}{pos p:Pos}
theorem adw{i:Nat}{x:Str}{ifs:List dX}{scope:pC}{cpos:Pos}{mi:M (List D)}{bb:D->Ro->Option Ro}{mc:M Bool}{me:M D}(fr N:List Str)(src:List (Option Nat))(hN:X.N.Nodup)(hxi:X.N[i]? = some x)(hx:Loc X.env.scope x)(hc:X.calm=true)(hi:IT K X tgt iter mi)
  (hg:∀fp s H,GV K (cxC X N scope fr fp s H) tgt bb) (ht:∀fp s H,EIf K (cxC X N scope fr fp s H) ifs mc) (he:∀fp s H,EV K (cxC X N scope fr fp s H) elt me)
  (hsw:gU (.ListComp elt [⟨tgt,iter,ifs,0⟩] scope cpos) (some (.Name x p)) pos.line X.env=pure true:=by rfl)
  (hok:ahv X.env X.N scope fr N src=true:=by rfl) (hkind:scope.kind=.function:=by rfl) (hclos:closureFor scope X.env=pure (aab X.env fr):=by rfl)
  (hs:∀x,foldedSetIterable iter X.env x=pure x:=by intro _;rfl) (hf:X.fn x=true∨X.env.scope.names.lookup x=some .local:=by first | exact .inl rfl | exact .inr rfl | assumption) :
  SV K X (.Assign [.Name x p] (.ListComp elt [⟨tgt,iter,ifs,0⟩] scope cpos) pos) (dSet i (qz src mi bb mc me)):=SV.mk fun hk=>by
 have hkc:∀fp s H,(cxC X N scope fr fp s H).K=K:=fun _ _ _=>hk
 refine PS.imp (a0h fr N src hN hxi hx hc (hi hk) (fun fp s H=>(hg fp s H).go (hkc _ _ _)) (fun fp s H=>(ht fp s H).go (hkc _ _ _)) (fun fp s H=>(he fp s H).go (hkc _ _ _)) hsw hok hkind hclos hs hf) fun E σ H ⟨tg,F,ρ,fl,ρ',G,em,q⟩=>ww em q fun r ρ1 e1 em =>?_
 cases em;refine ao3 σ H _ ⟨tg,F,ρ,r,ρ1,G,e1,fun v H' F' G' x rr =>?_⟩
 obtain⟨G2,x2⟩:=G'.store x i rr;exact q _ H' F' G2 x2
end
@[irreducible] def fuel:Nat:=1000000000
section
variable{K:Fg9}{X:Cx}{e a b c:dX}{es:List dX}{pos p p2:Pos}
def isN:D->Bool
 | .non=>true
 | _=>false
def mIsN(neg:Bool)(m:M D):M D:=m.bind fun d=>ret (.bl (if neg then !isN d else isN d))
theorem a2q{F H:Hp}{d:D}{x:V}(h:Bor K F H d x):decide (x=.non)=isN d:=by
 rcases h with h | ⟨a,vs,l',rfl,rfl,_⟩
 ·cases h <;> first | rfl | (simp[isN])
 ·simp[isN]
theorem a1k{neg:Bool}{m:M D}{t:TE->TE}(ht:∀te σ H Q,t te σ H Q=te σ H fun x H1=>Q (.bl (if neg then !decide (x=.non) else decide (x=.non))) H1)(σ:L2.St)(H:Hp)(Q:VK)(h:T K (relD K) (mIsN neg m) σ H Q):t (T K (relB K) m) σ H Q:=by
 rw[ht];obtain⟨tg,F,ρ,d,ρ',G,em,q⟩:=h;obtain⟨d1,ρ1,e1,em⟩:=bj em;obtain⟨rfl,rfl⟩:=jy em;refine⟨tg,F,ρ,d1,_,G,e1,fun v H' F' G' x r =>?_⟩
 show Q (.bl (if neg then !decide (v=.non) else decide (v=.non))) H'
 rw[a2q r];exact q _ H' F' G' x (.bl _)
theorem axi{neg:Bool}{m:M D}{t:TE->TE}(ht:∀te σ H Q,t te σ H Q=te σ H fun x H1=>Q (.bl (if neg then !decide (x=.non) else decide (x=.non))) H1)(σ:L2.St)(H:Hp)(Q:Bool->Hp->Prop)(h:TB K (wg (mIsN neg m)) σ H Q):tB (t (T K (relB K) m)) σ H Q:=by
 obtain⟨tg,F,ρ,k,ρ',G,em,q⟩:=h;obtain⟨d1,ρ1,e1,em⟩:=bj em;obtain⟨e3,rfl⟩:=gk em;obtain rfl:=apg e3;refine a1k ht σ H _ ⟨tg,F,ρ,_,_,G,e1,fun v H' F' G' x r =>?_⟩
 cases r;exact⟨k,rfl,q H' F' G' x⟩
theorem ak3{j:Nat}{m:M D}(h:EB K X a m):ET K X (.Compare a [.Is] [.Constant .none j p] p2) (wg (mIsN false m)):=ET.mk fun hk=>PT.imp (a3v (a4k (h hk))) (axi (t:=tIsN) fun _ _ _ _=>rfl)
end
def anl(f:Fd):Prop:=∀ns:List Int,ns.length<=63->∃ps,f [.val (.kst (ns.map D.int))]=some (.ok (.v (.bl true)),ps)
theorem a3i{K:Fg9}{f:Fd}(h:anl f)(H:Hp)(a:aX)(ns:List Int)(hn:ns.length<=63)(hS:SqL K H a (ns.map V.int)):spOf K 1 f [.ref a] H (fun v _=>v=.bl true) fun _ _ _=>False:=by
 obtain⟨ps,e⟩:=h ns hn;refine⟨rfl,H,_,_,ps,⟨Same.refl H,rfl,fun i s o e1 e2 =>?_,fun i j b ⟨⟨t,l,e1⟩,_⟩ _=>by cases i <;> simp at e1⟩,e,fun v H' F' O' _ _ _ rr =>?_⟩
 ·cases i with
  | zero =>
   simp at e1 e2;subst e1 e2;exact⟨_,rfl,.kst hS (ae5 ns)⟩
  | succ i=>simp at e1
 ·have rr:Is K F' (.bl true) v:=rr;cases rr;rfl
theorem walk{l:tH}{q:cA}{loose:List Str}{XP:(Str->Option aD)->fK->Prop}{YP:dJ->fK->Prop}{d:DefRec}{K:Params->Fg9}{f:Fd}{k:Nat}(ht:anl f)(hn:l.most=some 63)(hdf:d.params.defaults=[])(hr:Room k rK)
  (hY:∀(w:dJ) (h:fK),YP w h->(K w.params).In h)
  (F:∀(w:dJ) (mg:Str->Option aD) (fa:aX) (h:fK),(K w.params).In h->h.Ns bA mg->mg d.name=some (.ref fa) ->
   ∃fd:fJ,(∀(s:aH) (u:aD),nH s fd ⟨[u],[]⟩ [("script", u)])/\∀base:fK,(K w.params).In base->base.Ns bA mg->FnOk l.prog w (K w.params) mg base CX0 k fa fd ["script"] (spOf (K w.params) 1 f)) :
  zO q loose XP YP l.row.toRowW d [] (fun f vs=>xK f vs) :=
 L2.azp (n:=63) (k:=k) (x := "script") (CX:=fun _=>CX0) (sp:=fun w=>spOf (K w.params) 1 f) hn (by decide) hdf hr hY F (fun _ H a ns hl _ hS=>a3i ht H a ns hl hS) fun _ _ _ _ _ z=>z
section
variable{α β:Type}(ρ:Ro)
@[simp] theorem bau(a:α):ret a ρ=some (.ok a,ρ):=rfl
@[simp] theorem a9g(o:Option α):lift o ρ=match o with
 | some a=>some (.ok a,ρ)
 | none=>none:=rfl
@[simp] theorem bah(m:M α)(k:α->M β):M.bind m k ρ=match m ρ with
 | some (.ok a,ρ1)=>k a ρ1
 | some (.exc x,ρ1)=>some (.exc x,ρ1)
 | none=>none:=rfl
@[simp] theorem v_ap(m:M D):M.v m ρ=(m.bind fun d=>ret (.v d)) ρ:=rfl
@[simp] theorem d_ap(m:M Rv):M.d m ρ=(m.bind fun r=>ret r.d) ρ:=rfl
@[simp] theorem bbb(d:D):(Rv.v d).d=d:=rfl
@[simp] theorem bas(l:List D):(Rv.fr l).d=.lst l:=rfl
@[simp] theorem baq(d:D)(l:List D):(Rv.tf d l).d=.tup [d,.lst l]:=rfl
@[simp] theorem bba(d:D):(Rv.v d).sl=.val d:=rfl
@[simp] theorem bap(l:List D):(Rv.fr l).sl=.own none l:=rfl
@[simp] theorem a81(i:Nat):mVar i ρ=match ρ[i]? with
 | some (.val d)=>some (.ok d,ρ)
 | some (.own none l)=>some (.ok (.lst l),ρ.set i (.val (.lst l)))
 | _=>none:=rfl
@[simp] theorem a68(i:Nat):dq i ρ=match ρ[i]? with
 | some (.val d)=>some (.ok d,ρ)
 | some (.own _ l)=>some (.ok (.lst l),ρ)
 | _=>none:=rfl
@[simp] theorem a7e(i:Nat):af5 i ρ=match ρ[i]? with
 | some (.val d)=>some (.ok (.v d),ρ)
 | some (.own none l)=>some (.ok (.fr l),ρ.set i .emp)
 | _=>none:=rfl
@[simp] theorem a83(i:Nat):mOwn i ρ=match ρ[i]? with
 | some (.own _ l)=>some (.ok l,ρ)
 | _=>none:=rfl
@[simp] theorem a5c(i:Nat)(l':List D):ac6 i l' ρ=match ρ[i]? with
 | some (.own t _)=>some (.ok (),bR ρ i (.own t l'))
 | _=>none:=rfl
@[simp] theorem a7c(m1 m2:M D):fu m1 m2 ρ=(m1.bind fun x=>m2.bind fun y=>ret (x,y)) ρ:=rfl
@[simp] theorem a5d(i:Nat)(m2:M D):dj i m2 ρ=((dq i).bind fun _=>m2.bind fun y=>(dq i).bind fun x=>ret (x,y)) ρ:=rfl
@[simp] theorem bax(g:D->D->Option Rv)(m:M (D×D)):mOp g m ρ=(m.bind fun p=>lift (g p.1 p.2)) ρ:=rfl
@[simp] theorem baw(g:D->Option D)(m:M D):mUn g m ρ=(m.bind fun d=>lift (g d)) ρ:=rfl
@[simp] theorem a9f(m1 m2:M D):mAnd m1 m2 ρ=(m1.bind fun d=>(lift (asB d)).bind fun k=>if k=true then m2 else ret (.bl false)) ρ:=rfl
@[simp] theorem a7a(m:M D):wg m ρ=(m.bind fun d=>lift (asB d)) ρ:=rfl
@[simp] theorem a5b(g:D->D->Option Rv)(m:M (D×D)):ju g m ρ=wg (mOp g m).d ρ:=rfl
@[simp] theorem a7d(m:M Bool):ad7 m ρ=(m.bind fun k=>ret (!k)) ρ:=rfl
@[simp] theorem a7m(m1 m2:M Bool):aw8 m1 m2 ρ=(m1.bind fun k=>if k=true then m2 else ret false) ρ:=rfl
@[simp] theorem a84(m1 m2:M Bool):mOrB m1 m2 ρ=(m1.bind fun k=>if k=true then ret true else m2) ρ:=rfl
@[simp] theorem bay(m:M Bool)(m1 m2:M α):mIf m m1 m2 ρ=(m.bind fun k=>if k=true then m1 else m2) ρ:=rfl
@[simp] theorem ba0(c:Prop)[Decidable c](m1 m2:M α):(if c then m1 else m2) ρ=if c then m1 ρ else m2 ρ:=by split <;> rfl
@[simp] theorem a9n(c:Prop)[Decidable c](m1 m2:Sd):(if c then m1 else m2) ρ=if c then m1 ρ else m2 ρ:=by split <;> rfl
@[simp] theorem ba9(b:Bool):asB (.bl b)=some b:=rfl
@[simp] theorem bak(b:Int):asI (.int b)=some b:=rfl
@[simp] theorem a9u(b:Bool):gNot (.bl b)=some (.bl (!b)):=rfl
@[simp] theorem a7o(b:Int):gNeg (.int b)=some (.int (-b)):=rfl
@[simp] theorem a70(i j:Int):gAdd (.int i) (.int j)=some (.v (.int (i+j))):=rfl
@[simp] theorem a7y(l k:List D):gAdd (.tup l) (.tup k)=if l.length+k.length<=capS then some (.v (.tup (l++k))) else none:=rfl
@[simp] theorem a7z(l k:List D):gAdd (.lst l) (.lst k)=if l.length+k.length<=capS then some (.fr (l++k)) else none:=rfl
@[simp] theorem a7s(f:Int->Int->Option Int)(i j:Int):gInt f (.int i) (.int j)=(f i j).map fun k=>.v (.int k):=rfl
@[simp] theorem a93(i j:Int):fSub i j=some (i - j):=rfl
@[simp] theorem a7q(i j:Int):gMul (.int i) (.int j)=(fMul i j).map fun k=>.v (.int k):=rfl
@[simp] theorem a7p(l:List D)(k:Int):gMul (.tup l) (.int k)=if k=1 then some (.v (.tup l)) else if l≠[]/\2<=k/\k < 9223372036854775808/\l.length*k.toNat<=capS then some (.v (.tup (aV k.toNat l).flatten)) else none:=rfl
@[simp] theorem axq(l:List D)(k:Int):gMul (.lst l) (.int k)=if k.natAbs < 9223372036854775808/\l.length*k.toNat<=capS then some (.fr (aV k.toNat l).flatten) else none:=rfl
@[simp] theorem a7x(f:Int->Int->Bool)(i j:Int):gCmp f (.int i) (.int j)=some (.v (.bl (f i j))):=rfl
@[simp] theorem a89(t:Ty)(m:M D):mIsi t m ρ=(m.bind fun d=>ret (.bl (isTy t d))) ρ:=rfl
@[simp] theorem a5j(f g:Int->Int->Bool)(m1 m2 m3:M D):aoc f g m1 m2 m3 ρ=(m1.bind fun x=>m2.bind fun y=>match x,y with
 | .int i,.int j=>if f i j=true then m3.bind fun z=>match z with
  | .int k=>ret (.bl (g j k))
  | _=>lift none
  else ret (.bl false)
 | _,_=>lift none) ρ:=rfl
@[simp] theorem a85:mNil ρ=some (.ok [],ρ):=rfl
@[simp] theorem a7j(m:M D)(ms:M (List D)):aq m ms ρ=(m.bind fun d=>ms.bind fun ds=>ret (d::ds)) ρ:=rfl
@[simp] theorem a5i(i:Nat)(ms:M (List D)):iu i ms ρ=((dq i).bind fun _=>ms.bind fun ds=>(dq i).bind fun d=>ret (d::ds)) ρ:=rfl
@[simp] theorem a82(m:M (List D)):mTup m ρ=(m.bind fun ds=>lift (gTup ds)) ρ:=rfl
@[simp] theorem a87(m:M (List D)):mLst m ρ=(m.bind fun ds=>lift (gLst ds)) ρ:=rfl
@[simp] theorem a7l(g:List D->Option Rv)(m:M (List D)):jf g m ρ=(m.bind fun ds=>lift (g ds)) ρ:=rfl
@[simp] theorem ba3(f:D->Option Rv)(d:D):g1 f [d]=f d:=rfl
@[simp] theorem ba2(f:D->D->Option Rv)(d d':D):g2 f [d,d']=f d d':=rfl
@[simp] theorem a5x(l:List D):itemsD (.tup l)=some l:=rfl
@[simp] theorem a5y(l:List D):itemsD (.lst l)=some l:=rfl
@[simp] theorem a5z(l:List D):itemsD (.kst l)=some l:=rfl
@[simp] theorem aoo(l:List D):gAll (.lst l)=(aau l).map fun bs=>.v (.bl (bs.all id)):=rfl
@[simp] theorem a6c(i:Int):axs (.int i)=some (.v (.int i)):=rfl
@[simp] theorem a7t(i:Bool):axs (.bl i)=some (.v (.int (if i then 1 else 0))):=rfl
@[simp] theorem a9w(d:D)(k:Int):gIx d (.int k)=(itemsD d).bind fun l=>(atI l k).map fun x=>.v x:=rfl
@[simp] theorem a9e(m:M D)(ml mh:M (Option Int)):mCut m ml mh ρ=(m.bind fun d=>ml.bind fun lo=>mh.bind fun hi=>lift (gCut d lo hi)) ρ:=rfl
@[simp] theorem a7i(i:Nat)(ml mh:M (Option Int)):ati i ml mh ρ=((dq i).bind fun _=>ml.bind fun lo=>mh.bind fun hi=>(dq i).bind fun d=>lift (gCut d lo hi)) ρ:=rfl
@[simp] theorem a7b(m:M D):aiu m ρ=(m.bind fun d=>lift ((asI d).map some)) ρ:=rfl
@[simp] theorem a7u(l:List D)(lo hi:Option Int):gCut (.tup l) lo hi=some (.v (.tup (cutD l lo hi))):=rfl
@[simp] theorem a7v(l:List D)(lo hi:Option Int):gCut (.lst l) lo hi=some (.fr (cutD l lo hi)):=rfl
@[simp] theorem a7w(l:List D)(lo hi:Option Int):gCut (.kst l) lo hi=some (.fr (cutD l lo hi)):=rfl
@[simp] theorem a9a(neg:Bool)(m:M D):mIsN neg m ρ=(m.bind fun d=>ret (.bl (if neg then !isN d else isN d))) ρ:=rfl
@[simp] theorem a5e(m:M D):lq m ρ=(m.bind fun d=>lift (itemsD d)) ρ:=rfl
@[simp] theorem a9c(g:α->Option β)(m:M α):mGet g m ρ=(m.bind fun ds=>lift (g ds)) ρ:=rfl
@[simp] theorem amy(j:Int):qe [.int j]=if j.natAbs < 4611686018427387904 then some (rangeD 0 j.toNat) else none:=rfl
@[simp] theorem a1q(i j:Int):aix [.int i,.int j]=if i.natAbs < 4611686018427387904/\j.natAbs < 4611686018427387904 then some (rangeD i (j - i).toNat) else none:=rfl
@[simp] theorem a1w(i j:Int):ai0 (.int i) (.int j)=if 0 < j/\j < 1000000000000000000000000000000000000000000000000000000000000 then some (.v (.tup [.int (i / j),.int (i % j)])) else none:=rfl
@[simp] theorem a86(i:Nat)(g:List D->List D->Option (D×List D))(ms:M (List D)):mMut i g ms ρ=((mOwn i).bind fun _=>ms.bind fun ds=>(mOwn i).bind fun l=>(lift (g l ds)).bind fun r=>(ac6 i r.2).bind fun _=>ret r.1) ρ:=rfl
@[simp] theorem a1z(l:List D)(d:D):aco l [d]=if l.length < capS then some (.non,l++[d]) else none:=rfl
@[simp] theorem a7h:gq ρ=some (.ok [],ρ):=rfl
@[simp] theorem a5g(m:M D)(ms:M (List (Option D))):dg m ms ρ=(m.bind fun d=>ms.bind fun ds=>ret (some d::ds)) ρ:=rfl
@[simp] theorem a5f(j:Nat)(ms:M (List (Option D))):gj j ms ρ=((dq j).bind fun _=>ms.bind fun ds=>ret (none::ds)) ρ:=rfl
@[simp] theorem baz(f:Fd)(js:List (Option Nat))(ms:M (List (Option D))):mFn f js ms ρ=(ms.bind fun ds ρ=>if okJs ρ js=true then match f (lend ρ js ds) with
  | some (.ok r,ps)=>some (.ok r,putB ρ js ps)
  | some (.exc x,ps)=>some (.exc x,putB ρ js ps)
  | none=>none
 else none) ρ:=rfl
@[simp] theorem a7k(src:List (Option Nat))(mi:M (List D))(b:D->Ro->Option Ro)(mc:M Bool)(me:M D):qz src mi b mc me ρ=(mi.bind fun l ρ=>if okJs ρ src=true then match compD b mc me l [] (lend ρ src (src.map fun _=>none)) with
  | some (.ok ys,ps)=>if ys.length<=capS then some (.ok (.fr ys),putB ρ src ps) else none
  | some (.exc x,ps)=>some (.exc x,putB ρ src ps)
  | none=>none
 else none) ρ:=rfl
@[simp] theorem a67:okJs ρ []=true:=rfl
@[simp] theorem a4x(r:List (Option Nat)):okJs ρ (none::r)=okJs ρ r:=rfl
@[simp] theorem a4w(j:Nat)(r:List (Option Nat)):okJs ρ (some j::r)=((match ρ[j]? with
  | some (.own _ _) => !r.contains (some j)
  | _=>true)&&okJs ρ r):=rfl
@[simp] theorem lend_eq(js:List (Option Nat))(ds:List (Option D)):lend ρ js ds=(zQ js ds).mapIdx fun i p=>akn ρ i p.1 p.2:=rfl
@[simp] theorem a2w(i j:Nat)(d:Option D):akn ρ i (some j) d=match ρ[j]? with
  | some (.val d)=>.val d
  | some (.own _ l)=>.own (some i) l
  | _=>.emp:=rfl
@[simp] theorem a9h(i:Nat)(d:D):akn ρ i none (some d)=.val d:=rfl
@[simp] theorem a9i(i:Nat):akn ρ i none none=.emp:=rfl
@[simp] theorem a8m(js:List (Option Nat))(ps:Ro):putB ρ js ps=ρ.mapIdx fun j s=>putS js ps j s:=rfl
@[simp] theorem a8l(js:List (Option Nat))(ps:Ro)(j:Nat)(s:Sl):putS js ps j s=match js.findIdx? (fun o=>o==some j) with
 | none=>s
 | some i=>match s with
  | .own t _=>match ps[i]? with
   | some (.own (some i') l')=>if i'=i then .own t l' else .emp
   | _=>.emp
  | s=>s:=rfl
@[simp] theorem ba4(nl np:Nat)(g:Sd):fnD nl np g ρ=match g (ρ++aV (nl - np) .emp) with
 | some (.ret r,ρ)=>some (.ok r,ρ.take np)
 | some (.nx,ρ)=>some (.ok (.v .non),ρ.take np)
 | some (.exc x,ρ)=>some (.exc x,ρ.take np)
 | _=>none:=rfl
@[simp] theorem ba7:dNx ρ=some (.nx,ρ):=rfl
@[simp] theorem bab(g k:Sd):dSeq g k ρ=match g ρ with
 | some (.nx,ρ1)=>k ρ1
 | r=>r:=rfl
@[simp] theorem bbc(m:M α)(k:α->Sd):dM m k ρ=match m ρ with
 | some (.ok x,ρ1)=>k x ρ1
 | some (.exc x,ρ1)=>some (.exc x,ρ1)
 | none=>none:=rfl
@[simp] theorem bac(m:M Rv):dRet m ρ=dM m (fun r ρ=>some (.ret r,ρ)) ρ:=rfl
@[simp] theorem ba8(m:M Bool)(g k:Sd):dIf m g k ρ=dM m (fun z=>if z=true then g else k) ρ:=rfl
@[simp] theorem a72(m:M α):agq m ρ=dM m (fun _ ρ=>some (.nx,ρ)) ρ:=rfl
@[simp] theorem baa(i:Nat)(m:M Rv):dSet i m ρ=dM m (fun r ρ=>some (.nx,bR ρ i r.sl)) ρ:=rfl
@[simp] theorem baf(m:M D)(b:D->Ro->Option Ro):dAsg m b ρ=dM m (fun d ρ=>(b d ρ).map fun ρ'=>(.nx,ρ')) ρ:=rfl
@[simp] theorem a99(i:Nat)(mi m:M D):dSub i mi m ρ=(dM m fun d=>dM (mOwn i) fun _=>dM mi fun k=>dM (mOwn i) fun l=>dM (lift ((asI k).bind (ixN l.length))) fun j=>dM (ac6 i (l.set j d)) fun _=>dNx) ρ:=rfl
@[simp] theorem bae(m:M (List D))(b:D->Ro->Option Ro)(g:Sd):dFor m b g ρ=dM m (forD b g) ρ:=rfl
@[simp] theorem a74(i:Nat)(d:D):cu i d ρ=some (bR ρ i (.val d)):=rfl
@[simp] theorem baj:bNil [] ρ=some ρ:=rfl
@[simp] theorem a75(b:D->Ro->Option Ro)(bs:List D->Ro->Option Ro)(d:D)(r:List D):qd b bs (d::r) ρ=(b d ρ).bind (bs r):=rfl
@[simp] theorem bai(n:Nat)(bs:List D->Ro->Option Ro)(l:List D):bTup n bs (.tup l) ρ=if l.length=n then bs l ρ else none:=rfl
end
section
variable(c:Prop)[Decidable c](b:Bool)(ρ:Ro)
@[simp] theorem a9m:(if c then some (Out.ok (D.bl b),ρ) else some (Out.ok (D.bl false),ρ))=some (.ok (.bl (decide c&&b)),ρ):=by by_cases h:c <;> simp[h]
end
@[simp] theorem b8{n:Nat}(h:n<=1000):n<=capS:=cR h (by decide)
@[simp] theorem a9t(ds:List D):gTup ds=if ds.length<=capS then some (.tup ds) else none:=rfl
@[simp] theorem a9v(ds:List D):gLst ds=if ds.length<=capS then some (.fr ds) else none:=rfl
@[simp] theorem anf{α:Type}(l:List α)(f:α->Bool):aau (l.map fun d=>D.bl (f d))=some (l.map f):=by
 have:=ahx (l.map f);rw[bY] at this;exact this
def xf(s:Sl):List D->Sl
 | []=>s
 | d::r=>xf (.val d) r
theorem lw{me:M D}{rest:Ro}{f:D->D}:∀{l:List D} {ys:List D} {s:Sl},(∀d∈l,me (.val d::rest)=some (.ok (f d),.val d::rest))->compD (cu 0) (ret true) me l ys (s::rest)=some (.ok (ys++l.map f),xf s l::rest)
 | [],ys,s,_=>by simp[compD,xf]
 | d::r,ys,s,h=>by
  have h1:=h d (aP ..);have ih:=lw (me:=me) (rest:=rest) (f:=f) (l:=r) (ys:=ys++[f d]) (s:=.val d) fun x hx=>h x (aL _ hx)
  simp[compD,h1,ih,xf]
theorem qt{mc:M Bool}{me:M D}{rest:Ro}{p:D->Bool}{f:D->D}:∀{l:List D} {ys:List D} {s:Sl},(∀d∈l,mc (.val d::rest)=some (.ok (p d),.val d::rest))->(∀d∈l,p d=true->me (.val d::rest)=some (.ok (f d),.val d::rest)) ->
  compD (cu 0) mc me l ys (s::rest)=some (.ok (ys++(l.filter p).map f),xf s l::rest)
 | [],ys,s,_,_=>by simp[compD,xf]
 | d::r,ys,s,hc,h=>by
  have h0:=hc d (aP ..);cases hp:p d with
  | true =>
   have h1:=h d (aP ..) hp;have ih:=qt (mc:=mc) (me:=me) (rest:=rest) (p:=p) (f:=f) (l:=r) (ys:=ys++[f d]) (s:=.val d) (fun x hx=>hc x (aL _ hx)) fun x hx=>h x (aL _ hx)
   simp[compD,h0,h1,ih,xf,hp]
  | false =>
   have ih:=qt (mc:=mc) (me:=me) (rest:=rest) (p:=p) (f:=f) (l:=r) (ys:=ys) (s:=.val d) (fun x hx=>hc x (aL _ hx)) fun x hx=>h x (aL _ hx)
   simp[compD,h0,ih,xf,hp]
@[simp] theorem a71(b:D->Ro->Option Ro)(g:Sd)(ρ:Ro):forD b g [] ρ=some (.nx,ρ):=rfl
theorem jl(b:D->Ro->Option Ro)(g:Sd)(d:D)(ds:List D)(ρ:Ro):forD b g (d::ds) ρ=match b d ρ with
  | none=>none
  | some ρ1=>match g ρ1 with
   | some (.nx,ρ2)=>forD b g ds ρ2
   | some (.cont,ρ2)=>forD b g ds ρ2
   | some (.brk,ρ2)=>some (.nx,ρ2)
   | some (.ret r,ρ2)=>some (.ret r,ρ2)
   | some (.exc x,ρ2)=>some (.exc x,ρ2)
   | none=>none:=rfl
@[simp] theorem a92{α:Type}(p:α->Bool)(a:α)(l:List α):rF p (a::l)=if p a=true then some 0 else (rF p l).map (· + 1):=by
 rw[List.findIdx?_cons]
@[simp] theorem ba5{α:Type}(p:α->Bool):rF p ([]:List α)=none:=rfl
theorem au5(ns:List Int)(lo hi:Option Int):∃ms:List Int,cutD (ns.map D.int) lo hi=ms.map D.int/\ms.length<=ns.length:=by
 refine⟨(ns.drop (HT.sIx ns.length 0 lo)).take (HT.sIx ns.length ns.length hi - HT.sIx ns.length 0 lo),?_,?_⟩
 ·unfold cutD;rw[aM,zR,uU]
 ·rw[gC,jN];omega
theorem aby{b:D->Ro->Option Ro}{g:Sd}(Inv:Nat->Ro->Prop):∀{l:List D} {ρ:Ro} (k:Nat),Inv k ρ->(∀i d ρ,l[i]? = some d->Inv (k+i) ρ->∃ρ1 ρ2,b d ρ=some ρ1/\(g ρ1=some (.nx,ρ2)∨g ρ1=some (.cont,ρ2))/\Inv (k+i+1) ρ2) ->
  ∃ρ',forD b g l ρ=some (.nx,ρ')/\Inv (k+l.length) ρ'
 | [],ρ,k,h0,_=>⟨ρ,rfl,h0⟩
 | d::r,ρ,k,h0,hs=>by
  obtain⟨ρ1,ρ2,e1,e2,h1⟩:=hs 0 d ρ rfl h0;obtain⟨ρ',e3,h3⟩:=aby (b:=b) (g:=g) Inv (l:=r) (ρ:=ρ2) (k+1) h1 fun i x ρ hx hi=>by
   have:=hs (i+1) x ρ (by simpa using hx) ((show k+(i+1)=k+1+i by omega)▸hi)
   have e:k+(i+1)+1=k+1+i+1:=by omega
   rw[e] at this;exact this
  refine⟨ρ',?_,?_⟩
  ·rw[jl,e1];rcases e2 with e2 | e2 <;> simp only[e2] <;> exact e3
  ·have e:k+(d::r).length=k+1+r.length:=by simp;omega
   rw[e];exact h3
theorem abl{b:D->Ro->Option Ro}{mc:M Bool}{me:M D}(Inv:Nat->List D->Ro->Prop):∀{l:List D} {ys:List D} {ρ:Ro} (k:Nat),Inv k ys ρ ->
  (∀i d ys ρ,l[i]? = some d->Inv (k+i) ys ρ->∃ρ1 ρ2 z,b d ρ=some ρ1/\mc ρ1=some (.ok z,ρ2)/\((z=false/\Inv (k+i+1) ys ρ2)∨(z=true/\∃y ρ3,me ρ2=some (.ok y,ρ3)/\Inv (k+i+1) (ys++[y]) ρ3))) ->
  ∃ys' ρ',compD b mc me l ys ρ=some (.ok ys',ρ')/\Inv (k+l.length) ys' ρ'
 | [],ys,ρ,k,h0,_=>⟨ys,ρ,rfl,h0⟩
 | d::r,ys,ρ,k,h0,hs=>by
  obtain⟨ρ1,ρ2,z,e1,e2,h1⟩:=hs 0 d ys ρ rfl h0;have nxt:∀{ys':List D} {ρ':Ro},Inv (k+0+1) ys' ρ'->∃ys2 ρ2,compD b mc me r ys' ρ'=some (.ok ys2,ρ2)/\Inv (k+1+r.length) ys2 ρ2:=fun{ys' ρ'} hi =>
   abl (b:=b) (mc:=mc) (me:=me) Inv (l:=r) (ys:=ys') (ρ:=ρ') (k+1) hi fun i x ys ρ hx hi=>by
    have:=hs (i+1) x ys ρ (by simpa using hx) ((show k+(i+1)=k+1+i by omega)▸hi)
    have e:k+(i+1)+1=k+1+i+1:=by omega
    rw[e] at this;exact this
  have el:k+(d::r).length=k+1+r.length:=by simp;omega
  rw[el];rcases h1 with⟨rfl,h1⟩ | ⟨rfl,y,ρ3,e3,h1⟩
  ·obtain⟨ys2,ρ4,e4,h4⟩:=nxt h1;exact⟨ys2,ρ4,by simp[compD,e1,e2,e4],h4⟩
  ·obtain⟨ys2,ρ4,e4,h4⟩:=nxt h1;exact⟨ys2,ρ4,by simp[compD,e1,e2,e3,e4],h4⟩
@[simp] theorem a9y(neg:Bool)(a b:Int):gEq neg (.int a) (.int b)=some (.v (.bl (if neg then !(a==b) else (a==b)))):=rfl
@[simp] theorem ba1(neg:Bool)(a b:Bool):gEq neg (.bl a) (.bl b)=some (.v (.bl (if neg then !(a==b) else (a==b)))):=rfl
section
variable{K:Fg9}{X:Cx}{e a b c:dX}{es:List dX}{pos p p2:Pos}
def rm:List D->Option (List Int)
 | []=>some []
 | .int i::r=>(rm r).map (i :: ·)
 | _::_=>none
theorem ac9:∀{l:List D} {ns:List Int},rm l=some ns->l=ns.map D.int
 | [],_,h=>by cases h;rfl
 | .int b::r,bs,h=>by
  have h':(rm r).map (b :: ·)=some bs:=h;cases e:rm r with
  | none=>rw[e] at h';cases h'
  | some t =>
   rw[e] at h';cases h';rw[ac9 e];rfl
 | .non::_,_,h=>by cases h
 | .bl _::_,_,h=>by cases h
 | .str _::_,_,h=>by cases h
 | .tup _::_,_,h=>by cases h
 | .lst _::_,_,h=>by cases h
 | .kst _::_,_,h=>by cases h
 | .dct _::_,_,h=>by cases h
@[simp] theorem vf(ns:List Int):rm (ns.map D.int)=some ns:=by
 induction ns with
 | nil=>rfl
 | cons b r ih=>show(rm (r.map D.int)).map (b :: ·)=_;rw[ih];rfl
def insI(x:Int):List Int->List Int
 | []=>[x]
 | y::r=>if x<=y then x::y::r else y::insI x r
def sortI:List Int->List Int
 | []=>[]
 | x::r=>insI x (sortI r)
theorem insI_perm(x:Int):∀l:List Int,(insI x l).Perm (x::l)
 | []=>.refl _
 | y::r=>by
  unfold insI;split
  ·exact .refl _
  ·exact((insI_perm x r).cons y).trans (.swap x y r)
theorem sortI_perm:∀l:List Int,(sortI l).Perm l
 | []=>.refl _
 | x::r=>(insI_perm x (sortI r)).trans ((sortI_perm r).cons x)
theorem aga(x:Int):∀{l:List Int},l.Pairwise (· <= ·)->(insI x l).Pairwise (· <= ·)
 | [],_=>by simp[insI]
 | y::r,h=>by
  unfold insI;rw[iK] at h;split
  ·rename_i hxy;rw[iK,iK];refine⟨fun z hz =>?_,h⟩
   rcases bF.mp hz with rfl | hz
   ·exact hxy
   ·exact Int.le_trans hxy (h.1 z hz)
  ·rename_i hxy;rw[iK];refine⟨fun z hz =>?_,aga x h.2⟩
   rcases bF.mp ((insI_perm x r).mem_iff.mp hz) with rfl | hz
   ·omega
   ·exact h.1 z hz
theorem aeg:∀l:List Int,(sortI l).Pairwise (· <= ·)
 | []=>.nil
 | x::r=>aga x (aeg r)
theorem ahb:∀{l k:List Int},l.Perm k->l.Pairwise (· <= ·)->k.Pairwise (· <= ·)->l=k
 | [],k,h,_,_=>h.nil_eq
 | x::r,[],h,_,_=>absurd h.length_eq (by simp)
 | x::r,y::t,h,hl,hk=>by
  rw[iK] at hl hk;have e:x=y:=by
   have h1:x∈y::t:=h.mem_iff.mp (aP ..);have h2:y∈x::r:=h.mem_iff.mpr (aP ..);rcases bF.mp h1 with h1 | h1
   ·exact h1
   ·rcases bF.mp h2 with h2 | h2
    ·exact h2.symm
    ·have a:=hk.1 x h1;have b:=hl.1 y h2;omega
  subst e;rw[ahb ((List.perm_cons x).mp h) hl.2 hk.2]
theorem av2{l k:List Int}(h:l.Perm k)(hs:l.Pairwise (· <= ·)):l=sortI k:=ahb (h.trans (sortI_perm k).symm) hs (aeg k)
theorem aef:∀{ns:List Int} {us:List aD},pK us ns->Vals (ns.map V.int) us
 | _,_,.nil=>.nil
 | _,_,.cons n t h=>.cons ⟨t,rfl⟩ (aef h)
open PySem.AutoSeq1 in
theorem am3(l b:aX)(xs ys:Array aD)(n k:Nat)(dd:Option aX)(sl:Array (Option aD))(hz:xs.size+ys.size<=cN) :
  Meets (jL.«list.extend» ⟨[.ref l,.ref b],[]⟩) (fun _ R s=>s.heap.get? l=some { cls:=.type "list", data:=.seq xs n } /\
   s.heap.get? b=some { cls:=.type "tuple", dict:=dd,data:=.seq ys k,slots:=sl }/\R (.ok (.ret cU)) { s with heap:=s.heap.update l (jQ fun x=>x++ys),toks:=s.toks }) :=
 .of_wp fun prog w A R s h=>by
  obtain⟨hp,g,d,tk,os⟩:=s;obtain⟨hl,hb,h⟩:=h;have f1:=idx_int;have f2:=AutoSeq1.sub_tuple_tuple;have f3:=AutoSeq1.sub_list_list;have f4:=AutoSeq1.sub_tuple_list;have f5:=AutoSeq1.sub_list_tuple;have h1:xs.size<=cN:=by omega
  have h2:(xs++ys).size<=cN+1:=by rw[Array.size_append];omega
  have h0:¬(!xs.isEmpty&&lV (xs.size+ys.size))=true:=by
   rw[aiq hz,qW];exact cX
  wp_walk using (wpAny_updateSeq hl rfl (hz:=h1) (_hz':=h2)),wpAny_loadPart' hl,wpAny_loadPart' hb;exact⟨_,rfl,h⟩
def aib:V->List V->Hp->VK->Prop:=fun x vs H Q=>∃l b xs zs,x=.ref l/\vs=[.ref b]/\H l=some (.lst xs)/\H b=some (.tup zs)/\xs.length+zs.length<=cN/\Q .non (upd H l (.lst (xs++zs)))
theorem aqa:MtR X "list.extend" aib:=by
 intro zv s σ H x vs v us Q I rx rv h;obtain⟨l,b,xs,zs,rfl,rfl,hH,hB,hz,q⟩:=h;cases rx;obtain⟨u,rfl,ru⟩:=rv.one;cases ru;obtain⟨z,its,n,r,hl,e⟩:=I.lstM hH;obtain⟨its2,r2,p2,_⟩:=I.tuple (SqT.of hB);obtain⟨⟨cls,dd,data,sl⟩,ho,hc,n2,hd⟩:=p2;simp only at hc hd;subst hc hd;have hl2:=r2.length;refine jO wX ⟨_,e,rfl⟩ wF (vM _ _) (am3 l b its.toArray its2.toArray n n2 dd sl (by simp only[aU];omega)) ⟨e,ho,?_⟩
 refine⟨.non,_,I.lset (its':=its++its2) hH e (by simp) (r.append r2) ?_,rfl,q⟩
 rw[bM];omega
def aiy(l ds:List D):Option (D×List D):=match ds with
 | [.lst k]=>if l.length+k.length<=capS then some (.non,l++k) else none
 | [.tup k]=>if l.length+k.length<=capS then some (.non,l++k) else none
 | _=>none
@[simp] theorem a1v(l k:List D):aiy l [.lst k]=if l.length+k.length<=capS then some (.non,l++k) else none:=rfl
@[simp] theorem a1u(l k:List D):aiy l [.tup k]=if l.length+k.length<=capS then some (.non,l++k) else none:=rfl
theorem ahi:MtR X "list.extend" (fun x vs H Q=>amc x vs H Q∨aib x vs H Q):=fun zv s σ H x vs v us Q I rx rv h=>by
 rcases h with h | h
 ·exact atf zv s σ H x vs v us Q I rx rv h
 ·exact aqa zv s σ H x vs v us Q I rx rv h
theorem ahh:MutD K (fun x vs H Q=>amc x vs H Q∨aib x vs H Q) aiy:=by
 intro F H a xs vs l ds d l' Q g hh hc hl hd eg q
 match ds,eg with
 | [.lst k],eg =>
  have eg:(if l.length+k.length<=capS then some (D.non,l++k) else none)=some (d,l'):=eg
  split at eg
  ·rename_i hz;cases eg;cases hd with
   | cons h t =>
    cases t;cases h with
    | @lst b ws _ eb hk=>exact .inl ⟨a,b,xs,ws,rfl,rfl,hh,g _ _ eb,by rw[<-hl.length,<-hk.length];exact adl hz,q _ _ .non (hl.append hk)⟩
  ·cases eg
 | [.tup k],eg =>
  have eg:(if l.length+k.length<=capS then some (D.non,l++k) else none)=some (d,l'):=eg
  split at eg
  ·rename_i hz;cases eg;cases hd with
   | cons h t =>
    cases t;cases h with
    | @tup b ws _ eb hk=>exact .inr ⟨a,b,xs,ws,rfl,rfl,hh,g _ _ eb,by rw[<-hl.length,<-hk.length];exact adl hz,q _ _ .non (hl.append hk)⟩
  ·cases eg
end
section
variable{K:Fg9}{X:Cx}{e a b c:dX}{es:List dX}{pos p p2:Pos}
def adn(lt:Int->Int->Bool):List Int->Int
 | []=>0
 | x::r=>r.foldl (fun m y=>if lt y m=true then y else m) x
theorem avl(lt:Int->Int->Bool)(ns:List Int):∀k,k < ns.length->qZ (fun i j=>lt (ns.getD i 0) (ns.getD j 0)) k<=k/\ns.getD (qZ (fun i j=>lt (ns.getD i 0) (ns.getD j 0)) k) 0=adn lt (ns.take (k+1))
 | 0,h=>by
  cases ns with
  | nil=>simp at h
  | cons x r=>exact⟨Nat.le_refl _,rfl⟩
 | k+1,h=>by
  obtain⟨h1,h2⟩:=avl lt ns k (by omega)
  have ht:ns.take (k+1+1)=ns.take (k+1)++[ns.getD (k+1) 0]:=by
   rw[List.take_add_one,aF h];simp[List.getD,aF h]
  have hb:adn lt (ns.take (k+1+1))=if lt (ns.getD (k+1) 0) (adn lt (ns.take (k+1)))=true then ns.getD (k+1) 0 else adn lt (ns.take (k+1)):=by
   rw[ht];cases ns with
   | nil=>simp at h
   | cons x r=>simp[adn,List.foldl_append]
  have ha:qZ (fun i j=>lt (ns.getD i 0) (ns.getD j 0)) (k+1)=if lt (ns.getD (k+1) 0) (ns.getD (qZ (fun i j=>lt (ns.getD i 0) (ns.getD j 0)) k) 0)=true then k+1 else qZ (fun i j=>lt (ns.getD i 0) (ns.getD j 0)) k:=rfl
  rw[hb,<-h2,ha]
  by_cases hc:lt (ns.getD (k+1) 0) (ns.getD (qZ (fun i j=>lt (ns.getD i 0) (ns.getD j 0)) k) 0)=true
  ·rw[if_pos hc,if_pos hc];exact⟨Nat.le_refl _,rfl⟩
  ·rw[if_neg hc,if_neg hc];exact⟨by omega,rfl⟩
theorem ayf(lt:Int->Int->Bool)(ns:List Int)(h:ns≠[]):qZ (fun i j=>lt (ns.getD i 0) (ns.getD j 0)) (ns.length - 1) < ns.length/\ns.getD (qZ (fun i j=>lt (ns.getD i 0) (ns.getD j 0)) (ns.length - 1)) 0=adn lt ns:=by
 have hl:0 < ns.length:=nU.mpr h;obtain⟨h1,h2⟩:=avl lt ns (ns.length - 1) (by omega)
 refine⟨by omega,?_⟩
 rw[h2,show ns.length - 1+1=ns.length by omega,yM]
def a6e(lt:Int->Int->Bool):D->Option Rv
 | .lst l=>(rm l).bind fun ns=>if ns=[] then none else some (.v (.int (adn lt ns)))
 | .tup l=>(rm l).bind fun ns=>if ns=[] then none else some (.v (.int (adn lt ns)))
 | _=>none
theorem am0{lt:Int->Int->Bool}{d:D}{r:Rv}(h:a6e lt d=some r):∃ns:List Int,ns≠[]/\r=.v (.int (adn lt ns))/\(d=.lst (ns.map D.int)∨d=.tup (ns.map D.int)):=by
 have go:∀l,(rm l).bind (fun ns=>if ns=[] then none else some (Rv.v (.int (adn lt ns))))=some r->∃ns:List Int,ns≠[]/\r=.v (.int (adn lt ns))/\l=ns.map D.int:=fun l h=>by
  cases e:rm l with
  | none=>rw[e] at h;cases h
  | some ns =>
   rw[e] at h;have h:(if ns=[] then none else some (Rv.v (.int (adn lt ns))))=some r:=h
   split at h
   ·cases h
   ·rename_i hn;cases h;exact⟨ns,hn,rfl,ac9 e⟩
 cases d with
 | lst l=>obtain⟨ns,h1,h2,rfl⟩:=go l h;exact⟨ns,h1,h2,.inl rfl⟩
 | tup l=>obtain⟨ns,h1,h2,rfl⟩:=go l h;exact⟨ns,h1,h2,.inr rfl⟩
 | _=>cases h
theorem af9{ns:List Int}{its:List aD}(rv:Vals (ns.map V.int) its)(i:Nat)(v:aD)(h:its.toArray[i]? = some v):∃t,v=.int (ns.getD i 0) t:=by
 have h:its[i]? = some v:=by simpa using h
 have hi:i < its.length:=(aK.mp h).1;have hl:=rv.length;rw[aM] at hl;have hi':i < ns.length:=by omega
 obtain⟨u,hu,t,rfl⟩:=rv.get (i:=i) (x:=V.int ns[i]) (by rw[bB,aF hi'];rfl)
 rw[h] at hu;cases hu;exact⟨t,by simp[List.getD,aF hi']⟩
def a1t:D->Option Rv:=a6e fun i j=>decide (i < j)
theorem a2l(hc:X.calm=true):CallD K X (.builtin "min") (g1 a1t):=ahw fun hk zv s σ0 H x u Q tg F ρ σ d r I ru G bd eg q=>by
 subst hk;obtain⟨ns,hn,rfl,hd⟩:=am0 eg;have q':=Res.same G q (.int _);obtain⟨hb1,hb2⟩:=ayf (fun i j=>decide (i < j)) ns hn
 have fin:∀{its:List aD} (rv:Vals (ns.map V.int) its) {v:aD} {h':fK} {tk:Nat},its.toArray[qZ (fun i j=>decide (ns.getD i 0 < ns.getD j 0)) (its.toArray.size - 1)]? = some v->(∀b o,s.heap.get? b=some o->h'.get? b=some o)->EP X zv σ0 Q v { s with heap:=h',toks:=tk }:=fun{its} rv {v h' tk} hv hk=>by
  have hl:=rv.length;rw[aM] at hl;rw[aU,<-hl] at hv;obtain⟨t,rfl⟩:=af9 rv _ v hv;exact⟨.int (adn (fun i j=>decide (i < j)) ns),H,I.kept hk,⟨t,by rw[hb2]⟩,q'⟩
 rcases hd with rfl | rfl
 ·obtain⟨a,vs,rfl,ea,hl⟩:=bd.lst G.sub;rw[hl.int_inv] at ea;cases ru;obtain⟨its,rv,pl,_⟩:=I.list (SqL.of ea);have hl':=pl.isList;have hlt:a < s.heap.objs.size:=by obtain⟨_,e,_⟩:=hl';exact aR e
  have hlen:=rv.length;rw[aM] at hlen;refine call_min_walk (wpAny_pyIter_list hl' ⟨s.heap.objs.size,[s.heap.objs.size,a],[s.heap.objs.size],its.toArray.size,_,_,_,rfl,Walks.list (A:=X.A.in1) (I.ok.hd hc) _ a (bQ hlt) its.toArray,
   ⟨⟨_,aO _ rfl,rfl,rfl⟩,hl'.push _⟩,fun b hb =>?_,?_,zV (fun i=>ns.getD i 0) (fun i v=>af9 rv i v),fun v h' tk hP hk=>fin rv hP (uW hk)⟩)
  ·have hs:∀o:Obj,(s.heap.push o).objs.size=s.heap.objs.size+1:=fun o=>cY ..
   show b < (s.heap.push _).objs.size;rw[hs];rcases bF.mp hb with hb | hb
   ·exact hb▸Nat.lt_succ_self _
   ·have hb:b=a:=by simpa using hb
    exact hb▸Nat.lt_succ_of_lt hlt
  ·rw[aU,<-hlen];exact nU.mpr hn
 ·obtain⟨a,vs,rfl,ea,hl⟩:=bd.tup;rw[hl.int_inv] at ea;cases ru;obtain⟨its,rv,pl,_⟩:=I.tuple (SqT.of (G.sub _ _ ea));have hlt:a < s.heap.objs.size:=by obtain⟨_,e,_⟩:=pl;exact aR e
  have hlen:=rv.length;rw[aM] at hlen;refine call_min_walk (wpAny_pyIter_tuple pl ⟨s.heap.objs.size,[s.heap.objs.size,a],[s.heap.objs.size],its.toArray.size,_,_,_,rfl,Walks.tuple (A:=X.A.in1) (I.ok.hd hc) _ a (bQ hlt) its.toArray,
   ⟨⟨_,aO _ rfl,rfl,rfl⟩,pl.push _⟩,fun b hb =>?_,?_,zV (fun i=>ns.getD i 0) (fun i v=>af9 rv i v),fun v h' tk hP hk=>fin rv hP (uW hk)⟩)
  ·have hs:∀o:Obj,(s.heap.push o).objs.size=s.heap.objs.size+1:=fun o=>cY ..
   show b < (s.heap.push _).objs.size;rw[hs];rcases bF.mp hb with hb | hb
   ·exact hb▸Nat.lt_succ_self _
   ·have hb:b=a:=by simpa using hb
    exact hb▸Nat.lt_succ_of_lt hlt
  ·rw[aU,<-hlen];exact nU.mpr hn
end
section
variable{K:Fg9}{X:Cx}{e a b c:dX}{es:List dX}{pos p p2:Pos}
def rmOf(K:Fg9)(g:D->List D->Option D):V->List V->Hp->VK->Prop:=fun x vs H Q=>∃F d ds r,Same F H/\Bor K F H d x/\IsL K F ds vs/\g d ds=some r/\∀v,Is K F r v->Q v H
def aw6(i:Nat)(g:D->List D->Option D)(ms:M (List D)):M D:=(dq i).bind fun d0=>(lift (match d0 with
 | .lst _=>some ()
 | _=>none)).bind fun _=>ms.bind fun ds=>(dq i).bind fun d=>lift (g d ds)
theorem am5{i:Nat}{name:Str}{id:String}{g:D->List D->Option D}{ms:M (List D)}{apos cpos:Pos}(slot:Slot "list" name id)(hty:typeOf (.builtin id)=pure (.type "method_descriptor"))(hm:X.K=K->MtR X id (rmOf K g))(ho:PE X a (tVar i))(ha:ED K X (e::es) ms)
  (hbase:attributeBase a name X.env (eval a X.env)=eval a X.env:=by rfl)
  (hfew:((jD cpos (aQ (e::es) X.env)).all (fun x => !x.1)&&(backToKw cpos (keywordEach [] X.env)).all (fun x=>x.1.isSome)
   && decide ((e::es).length+([]:List rB).length+(if ([]:List rB).isEmpty then 0 else 1) < 30))=true:=by rfl)
  (hline:(apos.endLine==cpos.line)=true:=by rfl) (hs:aQ (e::es) X.env=(false,eval e X.env)::aQ es X.env:=by rfl) (hplain:(jD cpos (aQ es X.env)).any (·.1)=false:=by rfl) :
  EV K X (.Call (.Attribute a name apos) (e::es) [] cpos) (aw6 i g ms):=EV.mk fun hk=>PE.imp (awo pG slot hty (hm hk) ho (ha hk) hbase hfew hline hs hplain) fun σ H Q z9=>by
 obtain⟨tg,F,ρ,d,ρ',G,em,q⟩:=z9;obtain⟨d0,ρ0,e0,em1⟩:=bj em;obtain⟨u0,ρ9,e9,em2⟩:=bj em1;obtain⟨ds,ρ1,e1,em3⟩:=bj em2;obtain⟨d1,ρ2,e2,em4⟩:=bj em3;obtain⟨e3,rfl⟩:=gk em4;obtain⟨e9,rfl⟩:=gk e9;obtain⟨rfl,v,hv,bv⟩:=qx G e0;have ty:∃b,v=.ref b/\∃xs,SqL X.K H b xs:=by
  cases d0 with
  | lst l =>
   obtain⟨b,xs,rfl,hb,_⟩:=bv.lst G.sub;exact⟨b,rfl,xs,SqL.of hb⟩
  | _=>cases e9
 obtain⟨b,rfl,hty'⟩:=ty;refine⟨_,hv,.inl ⟨rfl,hty'⟩,tg,F,_,ds,ρ1,G,e1,fun vs H1 F1 G1 x1 r1 =>?_⟩
 obtain⟨rfl,v',hv',b'⟩:=qx G1 e2;rw[hv] at hv';cases hv';exact⟨F1,d1,ds,d,G1.sub,b',r1,e3,fun w iw=>q w H1 F1 G1 x1 iw⟩
def auf(d:D)(ds:List D):Option D:=match d,ds with
 | .lst l,[x]=>if okD 30 x&&l.all (okD 30) then some (.int (l.countP fun y=>eqD y x)) else none
 | _,_=>none
theorem abk{zv:List (aX×Obj)}{σ:L2.St}{F H:Hp}{s:aH}(I:Inv X zv σ H s)(g:Same F H){a:D}{n:Nat}:∀{ds:List D} {vs:List V} {us:List aD},IsL X.K F ds vs->ds.all (okD n)=true->Vals vs us ->
  us.countP (yu s.heap (toPy a))=ds.countP (fun y=>eqD y a)
 | _,_,_,.nil,_,r=>by cases r;rfl
 | _,_,_,.cons h t,k,r=>by
  rw[nP,bG] at k;cases r with
  | cons r1 r2 =>
   obtain⟨as,ra⟩:=yh I g h k.1 r1;obtain⟨c,p⟩:=aar _ _ k.1;rw[sW,sW,abk I g t k.2 r2,ae7 ra c];rfl
theorem aw1(hu:X.A.units+64 < cLine):X.K=K->MtR X "list.count" (rmOf K auf):=fun hk=>by
 subst hk;intro zv s σ H x vs v us Q I rx rv z9;obtain⟨F,d,ds,r,g,bd,il,eg,q⟩:=z9
 match d,ds,eg with
 | .lst l,[y],eg =>
  have eg:(if okD 30 y&&l.all (okD 30) then some (D.int (l.countP fun z=>eqD z y)) else none)=some r:=eg
  split at eg
  ·rename_i ho;rw[bG] at ho;cases eg;cases il with
   | cons hy t =>
    cases t;obtain⟨u,rfl,ru⟩:=rv.one;obtain⟨p,ws,rfl,ea,hl⟩:=bd.lst g;cases rx;obtain⟨its,rw',pl,_⟩:=I.list (SqL.of ea);obtain⟨as,ra⟩:=yh I g hy ho.1 ru;obtain⟨_,z⟩:=vh I g (a:=y) hl ho.2 rw';obtain⟨⟨cls,dd,data,sl⟩,h1,hc,n,hd⟩:=pl.isList;simp only at hc hd;subst hc hd;refine jO uP ⟨_,h1,rfl⟩ PySem.F.entry_list_count (PySem.F.args_list_count_2 _ _) (SeqAt.list_countAt p its.toArray n dd sl u (yu s.heap (toPy y))) ⟨h1,fun w hw =>?_,?_⟩
    ·exact uo (A:=X.A) hu ra ho.1 z w (by simpa using hw)
    ·refine⟨.int (l.countP fun z=>eqD z y),H,I.tok _,⟨s.toks,?_⟩,q _ (.int _)⟩
     rw[abk I g (a:=y) hl ho.2 rw']
  ·cases eg
def aue(d:D)(ds:List D):Option D:=match d,ds with
 | .tup l,[x]=>if okD 30 x&&l.all (okD 30) then some (.int (l.countP fun y=>eqD y x)) else none
 | _,_=>none
theorem atg(hu:X.A.units+64 < cLine):X.K=K->MtR X "tuple.count" (rmOf K aue):=fun hk=>by
 subst hk;intro zv s σ H x vs v us Q I rx rv z9;obtain⟨F,d,ds,r,g,bd,il,eg,q⟩:=z9
 match d,ds,eg with
 | .tup l,[y],eg =>
  have eg:(if okD 30 y&&l.all (okD 30) then some (D.int (l.countP fun z=>eqD z y)) else none)=some r:=eg
  split at eg
  ·rename_i ho;rw[bG] at ho;cases eg;cases il with
   | cons hy t =>
    cases t;obtain⟨u,rfl,ru⟩:=rv.one;obtain⟨p,ws,rfl,ea,hl⟩:=bd.tup;cases rx;obtain⟨its,rw',pl,_⟩:=I.tuple (SqT.of (g _ _ ea));obtain⟨as,ra⟩:=yh I g hy ho.1 ru;obtain⟨_,z⟩:=vh I g (a:=y) hl ho.2 rw';obtain⟨⟨cls,dd,data,sl⟩,h1,hc,n,hd⟩:=pl;simp only at hc hd;subst hc hd;refine jO uK ⟨_,h1,rfl⟩ PySem.F.entry_tuple_count (PySem.F.args_tuple_count_2 _ _) (SeqAt.tuple_countAt p its.toArray n dd sl u (yu s.heap (toPy y))) ⟨h1,fun w hw =>?_,?_⟩
    ·exact uo (A:=X.A) hu ra ho.1 z w (by simpa using hw)
    ·refine⟨.int (l.countP fun z=>eqD z y),H,I.tok _,⟨s.toks,?_⟩,q _ (.int _)⟩
     rw[abk I g (a:=y) hl ho.2 rw']
  ·cases eg
theorem PE.or{t1 t2:TE}(h1:PE X e t1)(h2:PE X e t2):PE X e fun σ H Q=>t1 σ H Q∨t2 σ H Q:=fun zv s σ H Q I h=>h.elim (h1 zv s σ H Q I) (h2 zv s σ H Q I)
def ai1(d:D)(ds:List D):Option D:=match d with
 | .lst _=>auf d ds
 | .tup _=>aue d ds
 | _=>none
def aoa(i:Nat)(ms:M (List D)):M D:=(dq i).bind fun d0=>ms.bind fun ds=>(dq i).bind fun d=>(lift (match d0,d with
 | .lst _,.lst _=>some ()
 | .tup _,.tup _=>some ()
 | _,_=>none)).bind fun _=>lift (ai1 d ds)
theorem ax9{d0 d:D}{u:Unit} (h:(match d0,d with
 | .lst _,.lst _=>some ()
 | .tup _,.tup _=>some ()
 | _,_=>none)=some u):(∃l l1,d0=.lst l/\d=.lst l1)∨∃l l1,d0=.tup l/\d=.tup l1:=by
 split at h
 ·exact .inl ⟨_,_,rfl,rfl⟩
 ·exact .inr ⟨_,_,rfl,rfl⟩
 ·cases h
theorem ai4{i:Nat}{ms:M (List D)}{apos cpos:Pos}(hu:X.A.units+64 < cLine)(ho:PE X a (tVar i))(ha:ED K X (e::es) ms)
  (hbase:attributeBase a "count" X.env (eval a X.env)=eval a X.env:=by rfl)
  (hfew:((jD cpos (aQ (e::es) X.env)).all (fun x => !x.1)&&(backToKw cpos (keywordEach [] X.env)).all (fun x=>x.1.isSome)
   && decide ((e::es).length+([]:List rB).length+(if ([]:List rB).isEmpty then 0 else 1) < 30))=true:=by rfl)
  (hline:(apos.endLine==cpos.line)=true:=by rfl) (hs:aQ (e::es) X.env=(false,eval e X.env)::aQ es X.env:=by rfl) (hplain:(jD cpos (aQ es X.env)).any (·.1)=false:=by rfl) :
  EV K X (.Call (.Attribute a "count" apos) (e::es) [] cpos) (aoa i ms):=EV.mk fun hk=>PE.imp (PE.or (awo pG uP PySem.F.type_list_count (aw1 hu hk) ho (ha hk) hbase hfew hline hs hplain) (awo PySem.F.plainAttrs_tuple uK PySem.F.type_tuple_count (atg hu hk) ho (ha hk) hbase hfew hline hs hplain)) fun σ H Q z9=>by
 obtain⟨tg,F,ρ,d,ρ',G,em,q⟩:=z9;obtain⟨d0,ρ0,e0,em1⟩:=bj em;obtain⟨ds,ρ1,e1,em3⟩:=bj em1;obtain⟨d1,ρ2,e2,em4⟩:=bj em3;obtain⟨u0,ρ9,e9,em5⟩:=bj em4;obtain⟨e3,rfl⟩:=gk em5;obtain⟨g9,rfl⟩:=gk e9;obtain⟨rfl,v,hv,bv⟩:=qx G e0;rcases ax9 g9 with⟨l,l1,rfl,rfl⟩ | ⟨l,l1,rfl,rfl⟩
 ·obtain⟨b,xs,rfl,hb,_⟩:=bv.lst G.sub;refine .inl ⟨_,hv,.inl ⟨rfl,xs,SqL.of hb⟩,tg,F,_,ds,ρ1,G,e1,fun vs H1 F1 G1 x1 r1 =>?_⟩
  obtain⟨rfl,v',hv',b'⟩:=qx G1 e2;rw[hv] at hv';cases hv';exact⟨F1,.lst l1,ds,d,G1.sub,b',r1,e3,fun w iw=>q w H1 F1 G1 x1 iw⟩
 ·obtain⟨b,xs,rfl,hb,_⟩:=bv.tup;refine .inr ⟨_,hv,.inr (.inl ⟨rfl,.inr ⟨xs,G.sub _ _ hb⟩⟩),tg,F,_,ds,ρ1,G,e1,fun vs H1 F1 G1 x1 r1 =>?_⟩
  obtain⟨rfl,v',hv',b'⟩:=qx G1 e2;rw[hv] at hv';cases hv';exact⟨F1,.tup l1,ds,d,G1.sub,b',r1,e3,fun w iw=>q w H1 F1 G1 x1 iw⟩
def age(d:D)(ds:List D):Option D:=match d,ds with
 | .lst l,[x]=>if okD 30 x&&l.all (okD 30) then (l.findIdx? fun y=>eqD y x).map fun i=>.int i else none
 | _,_=>none
theorem apd{zv:List (aX×Obj)}{σ:L2.St}{F H:Hp}{s:aH}(I:Inv X zv σ H s)(g:Same F H){a:D}{n:Nat}{ds:List D}{vs:List V}{us:List aD}(il:IsL X.K F ds vs)(k:ds.all (okD n)=true)(rv:Vals vs us)(i:Nat)(hi:i < us.length)(hd:i < ds.length) :
  yu s.heap (toPy a) us[i]=eqD ds[i] a:=by
 obtain⟨v,hv,iv⟩:=il.get (i:=i) (aF hd);obtain⟨u,hu,ru⟩:=rv.get hv;rw[aF hi] at hu;cases hu;have ko:okD n ds[i]=true:=dD.mp k _ (dC hd);obtain⟨as,ra⟩:=yh I g iv ko ru;rw[ae7 ra (aar _ _ ko).1];rfl
theorem ais(hu:X.A.units+64 < cLine):X.K=K->MtR X "list.index" (rmOf K age):=fun hk=>by
 subst hk;intro zv s σ H x vs v us Q I rx rv z9;obtain⟨F,d,ds,r,g,bd,il,eg,q⟩:=z9
 match d,ds,eg with
 | .lst l,[y],eg =>
  have eg:(if okD 30 y&&l.all (okD 30) then (l.findIdx? fun z=>eqD z y).map (fun i=>D.int i) else none)=some r:=eg
  split at eg
  ·rename_i ho;rw[bG] at ho;cases ei:l.findIdx? (fun z=>eqD z y) with
   | none=>rw[ei] at eg;cases eg
   | some j =>
    rw[ei] at eg;cases eg;obtain⟨hj,hhit,hno⟩:=mG.mp ei;cases il with
    | cons hy t =>
     cases t;obtain⟨u,rfl,ru⟩:=rv.one;obtain⟨p,ws,rfl,ea,hl⟩:=bd.lst g;cases rx;obtain⟨its,rw',pl,hz⟩:=I.list (SqL.of ea);have l1:=hl.length;have l2:=rw'.length;rw[fY] at hz;obtain⟨as,ra⟩:=yh I g hy ho.1 ru;obtain⟨_,z⟩:=vh I g (a:=y) hl ho.2 rw';obtain⟨⟨cls,dd,data,sl⟩,h1,hc,n,hd⟩:=pl.isList;simp only at hc hd;subst hc hd;have hj':j < its.toArray.size:=by rw[aU];omega
     refine jO lZ ⟨_,h1,rfl⟩ PySem.F.entry_list_index (PySem.F.args_list_index_2 _ _) (SeqAt.list_indexAt p its.toArray n dd sl u (yu s.heap (toPy y)) j hj' (by omega) ?_ fun m hm hlt =>?_) ⟨h1,fun w hw =>?_,?_⟩
     ·have:=apd I g (a:=y) hl ho.2 rw' j (by omega) hj
      simpa[this] using hhit
     ·rw[aU] at hm;have:=apd I g (a:=y) hl ho.2 rw' m hm (by omega)
      have hn:=hno m hlt
      simpa[this] using hn
     ·exact uo (A:=X.A) hu ra ho.1 z w (by simpa using hw)
     ·exact⟨.int j,H,I.tok _,⟨_,rfl⟩,q _ (.int _)⟩
  ·cases eg
section
variable(ρ:Ro)
@[simp] theorem a7f(i:Nat)(g:D->List D->Option D)(ms:M (List D)):aw6 i g ms ρ=((dq i).bind fun d0=>(lift (match d0 with
 | .lst _=>some ()
 | _=>none)).bind fun _=>ms.bind fun ds=>(dq i).bind fun d=>lift (g d ds)) ρ:=rfl
@[simp] theorem a2y(l:List D)(x:D):auf (.lst l) [x]=if okD 30 x&&l.all (okD 30) then some (.int (l.countP fun y=>eqD y x)) else none:=rfl
@[simp] theorem a2x(l:List D)(x:D):age (.lst l) [x]=if okD 30 x&&l.all (okD 30) then (l.findIdx? fun y=>eqD y x).map (fun i=>D.int i) else none:=rfl
end
end
end Dn
namespace En
open PySem PySem.Builtin
def It1(k:Bool)(h:fK)(it l:aX)(i:Nat):Prop:=cond k (h.IsTupleIter it l i) (h.IsListIter it l i)
def Sq1(k:Bool)(h:fK)(l:aX)(xs:Array aD):Prop:=cond k (h.IsTuple l xs) (h.IsList l xs)
section
variable{prog:cA}{w:dJ}{A:cW}{E:aD->aH->Prop}{s:aH}
theorem a05{it t:aX}{i:Nat}{xs:Array aD}{x:aD}{Q:aD->aH->Prop}(h1:s.heap.IsTupleIter it t i)(h2:s.heap.IsTuple t xs)(hx:xs[i]? = some x)
  (q:∀h',h'.IsTupleIter it t (i+1)->fP it s.heap h'->Q x { s with heap:=h' }):bL (bU prog w) A (SmallTypes.nextOf (.ref it)) Q E s:=by
 obtain⟨o1,e1,c1,d1⟩:=id h1;obtain⟨o2,e2,_,k2,d2⟩:=h2;have nn:¬((dF t==cU)=true):=cX;unfold SmallTypes.nextOf;refine aA (eG (name:=jV "__next__") h1.typeIs lF (fD lF h1.typeIs tU ?_ (sZ _)));refine aA (m:=field (.ref it) 0) (eF e1 d1 (x:=.ref t) rfl ?_);show bL _ _ (if (dF t==cU)=true then _ else (field (.ref it) 1 >>= _)) _ _ s;rw[if_neg nn]
 refine aA (m:=field (.ref it) 1) (eF e1 d1 (x:=.int i 0) rfl ?_);refine aA (m:=seqItems? (.ref t)) (iQ e2 d2 ?_);simp only[cC,hx];refine aA (fV e1 d1 (by simp) (aG ⟨x,rfl,aG (q _ ?_ (dR ..))⟩))
 refine⟨_,cH _ e1 (fB (bV d1 _)),(kY ..).trans c1,?_⟩;rw[bV d1];simp[lE]
theorem a2i{it t:aX}{i:Nat}{xs:Array aD}{Q:aD->aH->Prop}(hh:A.handled=none)(h1:s.heap.IsTupleIter it t i)(h2:s.heap.IsTuple t xs)(hx:xs[i]? = none)
  (q:∀h' e,wD it s.heap h'->(∃o,h'.get? e=some o/\o.cls=.type "StopIteration")->E (.ref e) { s with heap:=h' }):bL (bU prog w) A (SmallTypes.nextOf (.ref it)) Q E s:=by
 obtain⟨o1,e1,c1,d1⟩:=id h1;obtain⟨o2,e2,_,k2,d2⟩:=h2;have nn:¬((dF t==cU)=true):=cX;unfold SmallTypes.nextOf;refine aA (eG (name:=jV "__next__") h1.typeIs lF (fD lF h1.typeIs tU ?_ (sZ _)));refine aA (m:=field (.ref it) 0) (eF e1 d1 (x:=.ref t) rfl ?_);show bL _ _ (if (dF t==cU)=true then _ else (field (.ref it) 1 >>= _)) _ _ s;rw[if_neg nn]
 refine aA (m:=field (.ref it) 1) (eF e1 d1 (x:=.int i 0) rfl ?_);refine aA (m:=seqItems? (.ref t)) (iQ e2 d2 ?_);simp only[cC,hx];refine aA (mU (aA (fV e1 d1 (by simp) ?_)))
 refine aA (m:=newExc (.type "StopIteration") []) ?_;simp only[newExc,newTuple];refine aA (cJ ?_ (by size_fits))
 refine aA (m:=firstArgMember _ _) (wpAny_of_eq (a:=cU) (by first | rfl | (simp only[firstArgMember];rfl)) (cJ ?_ (by size_fits)))
 simp only[raiseNew];refine aA (wpAny_handled ?_);first | rw[show A.in1.handled=none from hh] | rw[hh]
 refine aA (aG (wpAny_throw (q _ _ ?_ ⟨_,aO _ rfl,rfl⟩)));exact((dR ..).extBut.push _).push _
theorem src(hh:A.handled=none)(k:Bool)(it l:aX)(ne:l≠it)(xs:Array aD):Draws prog w A it [it,l] xs.size (fun i v=>xs[i]? = some v) (fun i h=>It1 k h it l i/\Sq1 k h l xs):=by
 cases k with
 | false=>exact Draws.list hh it l ne xs
 | true=>exact{
   live:=fun _ _ z=>let ⟨o,e,_⟩:=z.1;⟨o,e⟩
   frame:=fun _ _ _ z kk=>⟨(let ⟨o,e,r⟩:=z.1;⟨o,kk it (by simp) o e,r⟩),(let ⟨o,e,r⟩:=z.2;⟨o,kk l (by simp) o e,r⟩)⟩
   item:=fun i s Q E hi z q=>a05 z.1 z.2 (x:=xs[i]) (by simp[hi]) fun h' z' sb=>q _ h' s.toks (by simp[hi]) ⟨z',Heap.IsTuple.extBut z.2 sb.extBut ne⟩ sb
   done:=fun s Q E z q=>a2i hh z.1 z.2 (by simp) q }
theorem It1.at{k:Bool}{h h':fK}{it l:aX}{i:Nat}(x:It1 k h it l i)(e:∀o,h.get? it=some o->h'.get? it=some o):It1 k h' it l i:=by
 cases k <;> exact(let ⟨o,z,r⟩:=x;⟨o,e _ z,r⟩)
theorem It1.got{k:Bool}{h:fK}{it l:aX}{i:Nat}(x:It1 k h it l i):∃o,h.get? it=some o/\∀v,o.data≠.cell v:=by
 cases k <;> exact(let ⟨o,z,_,r⟩:=x;⟨o,z,fun v e=>by rw[r] at e;cases e⟩)
theorem Sq1.at{k:Bool}{h h':fK}{l:aX}{xs:Array aD}(x:Sq1 k h l xs)(e:∀o,h.get? l=some o->h'.get? l=some o):Sq1 k h' l xs:=by
 cases k <;> exact(let ⟨o,z,r⟩:=x;⟨o,e _ z,r⟩)
theorem Sq1.got{k:Bool}{h:fK}{l:aX}{xs:Array aD}(x:Sq1 k h l xs):∃o,h.get? l=some o:=by
 cases k <;> exact(let ⟨o,z,_⟩:=x;⟨o,z⟩)
theorem axe{k:Bool}{l:aX}{xs:Array aD}{Q:aD->aH->Prop}(h:Sq1 k s.heap l xs)
  (q:Q (.ref s.heap.objs.size) { s with heap:=s.heap.push { cls:=.type (cond k "tuple_iterator" "list_iterator"),data:=.fields #[.ref l,.int 0 0] } }):bL (bU prog w) A (pyIter (.ref l)) Q E s:=by
 cases k with
 | false=>exact wpAny_pyIter_list h q
 | true=>exact wpAny_pyIter_tuple h q
theorem amt{k:Bool}{h:fK}{l a:aX}(e:h.get? a=some { cls:=.type (cond k "tuple_iterator" "list_iterator"),data:=.fields #[.ref l,.int 0 0] }):It1 k h a l 0:=by
 cases k <;> exact⟨_,e,rfl,rfl⟩
end
set_option maxRecDepth 100000
abbrev eh1(k:Bool)(h:fK)(l:aX):fK:=h.push { cls:=.type (cond k "tuple_iterator" "list_iterator"),data:=.fields #[.ref l,.int 0 0] }
abbrev eh2(k:Bool)(h:fK)(l:aX):fK:=(eh1 k h l).push { cls:=.type "enumerate", data:=.fields #[.none,.bool false,.ref h.objs.size,lE 0,.none,.none] }
theorem a1d(k:Bool)(l:aX)(o:Obj)(xs:Array aD) :
  Meets (jL.«enumerate.__new__» ⟨[.type "enumerate", .ref l],[]⟩) (fun _ R s=>s.heap.get? l=some o/\Sq1 k s.heap l xs/\R (.ok (.ret (.ref (eh1 k s.heap l).objs.size))) { s with heap:=eh2 k s.heap l }) :=
 .of_wp fun prog w A R s h=>by
  obtain⟨hp,g,d,tk,os⟩:=s;obtain⟨ho,r1,h⟩:=h;have sb:=sub_enumerate;have r1:Sq1 k (vU ⟨hp,g,d,tk,os⟩) l xs:=r1;wp_walk using pA ho;refine wpAny_stack_any fun st=>aG ?_
  split
  ·rename_i c _ _ _ _ _;cases(c==kI "enumerate") <;> (wp_walk using pA ho,axe r1;exact⟨_,rfl,h⟩)
  ·wp_walk using pA ho,axe r1;exact⟨_,rfl,h⟩
theorem avi{prog:cA}{w:dJ}{A:cW}{E:aD->aH->Prop}{s:aH}{k:Bool}{l:aX}{xs:Array aD}{Q:aD->aH->Prop}(s1:Sq1 k s.heap l xs)
  (q:∀h',IsEnum h' (s.heap.objs.size+1) s.heap.objs.size 0 .none->It1 k h' s.heap.objs.size l 0->h'.objs.size=s.heap.objs.size+2->(∀b o,s.heap.get? b=some o->h'.get? b=some o)->Q (.ref (s.heap.objs.size+1)) { s with heap:=h' }) :
  bL (bU prog w) A (call (.type "enumerate") [.ref l]) Q E s:=by
 obtain⟨o,ho⟩:=s1.got;refine callType_new F.called_enumerate (by decide) (F.typeCall_enumerate_1 _) (F.newCall_enumerate_1 _) (fun obj=>F.args_object_init_2 obj _) F.entry_enumerate_new (a1d k l o xs) ⟨ho,s1,?_⟩
 have z1:(eh1 k s.heap l).objs.size=s.heap.objs.size+1:=cY ..
 have g2:(eh2 k s.heap l).get? (eh1 k s.heap l).objs.size=some _:=aO _ rfl;have g1:(eh2 k s.heap l).get? s.heap.objs.size=some _:=aB _ (aO _ rfl);rw[z1] at g2;show _/\_;rw[z1];exact⟨⟨_,g2,rfl⟩,q _ g2 (amt g1) (by rw[cY,z1]) fun b o x=>aB _ (aB _ x)⟩
end En
namespace En
open PySem PySem.Builtin
set_option maxRecDepth 100000
theorem azv(v1 v2:aD):checkTypeCall "zip" ⟨[v1,v2],[]⟩=pure ():=by kernel_rfl
theorem a1b(v1 v2:aD):checkBuiltinCall "zip.__new__" ⟨[.type "zip", v1,v2],[]⟩=pure ():=by kernel_rfl
theorem a2u(o v1 v2:aD):argsOk "object.__init__" ⟨[o,v1,v2],[]⟩:=by
 unfold argsOk;rw[signature?_of (id := "object.__init__") (n:=['_','_','t','i','n','i','_','_']) (o:=['t','c','e','j','b','o']) (by kernel_rfl) F.owner_object];kernel_rfl
abbrev Row2(h:fK)(T:aX)(v1 v2:aD):Prop:=h.get? T=some { cls:=.type "tuple", data:=.seq #[v1,v2] }
structure Apart2 (z TI TO i1 i2 l1 l2:aX):Prop where
 nTIz:TI≠z
 nTOz:TO≠z
 nTOTI:TO≠TI
 ni1z:i1≠z
 ni1TI:i1≠TI
 ni1TO:i1≠TO
 ni2z:i2≠z
 ni2TI:i2≠TI
 ni2TO:i2≠TO
 ni2i1:i2≠i1
 nl1z:l1≠z
 nl1TO:l1≠TO
 nl1i1:l1≠i1
 nl1i2:l1≠i2
 nl2z:l2≠z
 nl2TO:l2≠TO
 nl2i1:l2≠i1
 nl2i2:l2≠i2
section
variable{prog:cA}{w:dJ}{A:cW}{E:aD->aH->Prop}{s:aH}
theorem a3s{T:aX}{v1 v2 x:aD}{Q:Unit->aH->Prop}(h:Row2 s.heap T v1 v2)(q:∀h',Row2 h' T x v2->fP T s.heap h'->Q () { s with heap:=h' }):bL (bU prog w) A (updateSeq T (·.setIfInBounds 0 x)) Q E s:=by
 refine wpAny_updateSeq h rfl (q _ (show Heap.get? _ T=_ from ?_) (dR ..))
 rw[cH _ h rfl];simp[jQ]
theorem a3r{T:aX}{v1 v2 x:aD}{Q:Unit->aH->Prop}(h:Row2 s.heap T v1 v2)(q:∀h',Row2 h' T v1 x->fP T s.heap h'->Q () { s with heap:=h' }):bL (bU prog w) A (updateSeq T (·.setIfInBounds 1 x)) Q E s:=by
 refine wpAny_updateSeq h rfl (q _ (show Heap.get? _ T=_ from ?_) (dR ..))
 rw[cH _ h rfl];simp[jQ]
theorem aq7{z TI TO i1 i2 l1 l2:aX}{k1 k2:Bool}{i:Nat}{x1 x2:Array aD}{v1 v2:aD}{Q:aD->aH->Prop}(hh:A.handled=none)(D:Apart2 z TI TO i1 i2 l1 l2)
  (hz:tO s.heap z TI TO .none) (hI:Row2 s.heap TI (.ref i1) (.ref i2)) (hO:Row2 s.heap TO v1 v2) (h1:It1 k1 s.heap i1 l1 i) (s1:Sq1 k1 s.heap l1 x1) (h2:It1 k2 s.heap i2 l2 i) (s2:Sq1 k2 s.heap l2 x2) (b1:i < x1.size) (b2:i < x2.size)
  (q:∀h' tk y1 y2,x1[i]? = some y1->x2[i]? = some y2->tO h' z TI TO (lE s.heap.objs.size)->Row2 h' TO y1 y2->It1 k1 h' i1 l1 (i+1)->It1 k2 h' i2 l2 (i+1)->Row2 h' s.heap.objs.size y1 y2->h'.objs.size=s.heap.objs.size+1 ->
   (∀c o,c≠z->c≠TO->c≠i1->c≠i2->s.heap.get? c=some o->h'.get? c=some o)->Q (.ref s.heap.objs.size) { s with heap:=h',toks:=tk }) :
  bL (bU prog w) A (jL.«zip.__next__» ⟨[.ref z],[]⟩) (fun fin s'=>∃v,fin=.done (.ret v)/\Q v s') E s:=by
 refine aA (m:=field (.ref z) 2) (eF hz rfl (x:=.bool false) rfl ?_);refine aA (m:=field (.ref z) 3) (eF hz rfl (x:=.ref TI) rfl ?_);refine aA (iQ hI rfl ?_);refine aA (m:=SmallTypes.ownedTupleIsFree (.ref z)) ?_;unfold SmallTypes.ownedTupleIsFree;refine aA (eF hz rfl (x:=.none) rfl (aG ?_));simp only[if_true];refine aA (mU (aA (eF hz rfl (x:=.ref TO) rfl ?_)));refine aA (wpAny_setField_rec hz (by simp) fun g0 z0 a0 =>?_)
 have z0:tO g0 z TI TO .ellipsis:=z0;refine aA ?_;simp only[yL,yS,qH,uF];refine aA (aA (wpAny_onRaise ?_));refine aA (m:=SmallTypes.nextOf (.ref i1)) ((src hh k1 i1 l1 D.nl1i1 x1).item i _ _ _ b1 ⟨(h1.at fun _ e=>(a0.extBut _ _ D.ni1z e)),(s1.at fun _ e=>(a0.extBut _ _ D.nl1z e))⟩ fun y1 f1 t1 p1 q1 c1=>aG ?_)
 have c1:fP i1 g0 f1:=c1;have P1:Row2 f1 TO v1 v2:=(c1.extBut _ _ D.ni1TO.symm (a0.extBut _ _ D.nTOz hO));refine aA (iQ P1 rfl ?_);refine aA (a3s P1 fun g1 O1 a1 =>?_)
 have a1:fP TO f1 g1:=a1;refine aA (wpAny_letGo (aG ?_));refine aA (aA (wpAny_onRaise ?_));refine aA (m:=SmallTypes.nextOf (.ref i2)) ((src hh k2 i2 l2 D.nl2i2 x2).item i _ _ _ b2 ⟨(h2.at fun _ e=>(a1.extBut _ _ D.ni2TO (c1.extBut _ _ D.ni2i1 (a0.extBut _ _ D.ni2z e)))),(s2.at fun _ e=>(a1.extBut _ _ D.nl2TO (c1.extBut _ _ D.nl2i1 (a0.extBut _ _ D.nl2z e))))⟩ fun y2 f2 t2 p2 q2 c2=>aG ?_)
 have c2:fP i2 g1 f2:=c2;have P2:Row2 f2 TO y1 v2:=(c2.extBut _ _ D.ni2TO.symm O1);refine aA (iQ P2 rfl ?_);refine aA (a3r P2 fun g2 O2 a2 =>?_)
 have a2:fP TO f2 g2:=a2;refine aA (wpAny_letGo (aG (aG ?_)));refine aA (iQ O2 rfl (aA (wpAny_newTuple ?_)));have sz:g2.objs.size=s.heap.objs.size:=by rw[a2.1,c2.1,a1.1,c1.1,a0.1]
 have zn:tO g2 z TI TO .ellipsis:=(a2.extBut _ _ D.nTOz.symm (c2.extBut _ _ D.ni2z.symm (a1.extBut _ _ D.nTOz.symm (c1.extBut _ _ D.ni1z.symm z0))));have kn:∀c o,c≠z->c≠TO->c≠i1->c≠i2->s.heap.get? c=some o->g2.get? c=some o:=fun c o n0 n1 n2 n3 e=>(a2.extBut _ _ n1 (c2.extBut _ _ n3 (a1.extBut _ _ n1 (c1.extBut _ _ n2 (a0.extBut _ _ n0 e)))))
 have j1:It1 k1 g2 i1 l1 (i+1):=q1.1.at fun _ e=>(a2.extBut _ _ D.ni1TO (c2.extBut _ _ D.ni2i1.symm (a1.extBut _ _ D.ni1TO e)))
 have j2:It1 k2 g2 i2 l2 (i+1):=q2.1.at fun _ e=>(a2.extBut _ _ D.ni2TO e)
 have lz:z < g2.objs.size:=aR zn;refine aA (m:=SmallTypes.ownedTupleHandOut (.ref z) (.ref g2.objs.size)) ?_;unfold SmallTypes.ownedTupleHandOut;have zp:tO (g2.push { cls:=.type "tuple", data:=.seq #[y1,y2] }) z TI TO .ellipsis:=aB _ zn;refine aA (wpAny_setField_rec zp (by simp) fun e1 z1 b1' =>?_)
 have z1:tO e1 z TI TO (lE g2.objs.size):=z1;refine wpAny_setField_rec z1 (by simp) fun e2 z2 b2' =>?_
 have z2:tO e2 z TI TO (lE g2.objs.size):=z2;have up:∀c o,c≠z->g2.get? c=some o->e2.get? c=some o:=fun c o n1 e=>b2'.extBut _ _ n1 (b1'.extBut _ _ n1 (aB _ e))
 have t2:Row2 e2 g2.objs.size y1 y2:=b2'.extBut _ _ (gK lz) (b1'.extBut _ _ (gK lz) (aO _ rfl));have s2':e2.objs.size=g2.objs.size+1:=by rw[b2'.1,b1'.1,cY]
 rw[sz] at z2 t2 s2';refine aG ⟨_,rfl,?_⟩;show Q (.ref g2.objs.size) _;rw[sz];exact q e2 _ y1 y2 p1 p2 z2 (up _ _ D.nTOz O2) (j1.at fun _ e=>up _ _ D.ni1z e) (j2.at fun _ e=>up _ _ D.ni2z e) t2 s2' fun c o n0 n1 n2 n3 e=>up c o n0 (kn c o n0 n1 n2 n3 e)
theorem avt{z TI TO i1 i2 l1 l2:aX}{k1:Bool}{x1:Array aD}{v1 v2:aD}{Q:Fin->aH->Prop}(hh:A.handled=none)(D:Apart2 z TI TO i1 i2 l1 l2)
  (hz:tO s.heap z TI TO .none) (hI:Row2 s.heap TI (.ref i1) (.ref i2)) (hO:Row2 s.heap TO v1 v2) (h1:It1 k1 s.heap i1 l1 x1.size) (s1:Sq1 k1 s.heap l1 x1)
  (q:∀h' e,(∀c o,c≠z->c≠i1->s.heap.get? c=some o->h'.get? c=some o)->(∃o,h'.get? e=some o/\o.cls=.type "StopIteration")->E (.ref e) { s with heap:=h' }) :
  bL (bU prog w) A (jL.«zip.__next__» ⟨[.ref z],[]⟩) Q E s:=by
 refine aA (m:=field (.ref z) 2) (eF hz rfl (x:=.bool false) rfl ?_);refine aA (m:=field (.ref z) 3) (eF hz rfl (x:=.ref TI) rfl ?_);refine aA (iQ hI rfl ?_);refine aA (m:=SmallTypes.ownedTupleIsFree (.ref z)) ?_;unfold SmallTypes.ownedTupleIsFree;refine aA (eF hz rfl (x:=.none) rfl (aG ?_));simp only[if_true];refine aA (mU (aA (eF hz rfl (x:=.ref TO) rfl ?_)));refine aA (wpAny_setField_rec hz (by simp) fun g0 z0 a0 =>?_)
 have z0:tO g0 z TI TO .ellipsis:=z0;refine aA ?_;simp only[yL,yS,qH,uF];refine aA (aA (wpAny_onRaise ?_));refine aA (m:=SmallTypes.nextOf (.ref i1)) ((src hh k1 i1 l1 D.nl1i1 x1).done _ _ _ ⟨(h1.at fun _ e=>a0.extBut _ _ D.ni1z e),(s1.at fun _ e=>a0.extBut _ _ D.nl1z e)⟩ fun f1 e c1 ⟨oe,he,ce⟩ =>?_)
 have zf:tO f1 z TI TO .ellipsis:=c1 _ _ D.ni1z.symm z0;have ez:e≠z:=fun x=>by subst x;rw[zf] at he;cases he;simp at ce
 refine wpAny_setField_rec zf (by simp) fun f2 _ a1=>q f2 e (fun c o n1 n2 y=>a1.extBut _ _ n1 (c1 _ _ n2 (a0.extBut _ _ n1 y))) ⟨oe,a1.extBut _ _ ez he,ce⟩
abbrev aq9(h:fK)(k1 k2:Bool)(l1 l2:aX):fK:=h.push { cls:=.type (cond k1 "tuple_iterator" "list_iterator"),data:=.fields #[.ref l1,.int 0 0] }
abbrev avw(h:fK)(k1 k2:Bool)(l1 l2:aX):fK:=(aq9 h k1 k2 l1 l2).push { cls:=.type (cond k2 "tuple_iterator" "list_iterator"),data:=.fields #[.ref l2,.int 0 0] }
abbrev avv(h:fK)(k1 k2:Bool)(l1 l2:aX):fK:=(avw h k1 k2 l1 l2).push { cls:=.type "tuple", data:=.seq #[.ref h.objs.size,.ref (aq9 h k1 k2 l1 l2).objs.size] }
abbrev avu(h:fK)(k1 k2:Bool)(l1 l2:aX):fK:=(avv h k1 k2 l1 l2).push { cls:=.type "tuple", data:=.seq #[.none,.none] }
abbrev alx(h:fK)(k1 k2:Bool)(l1 l2:aX):fK:=(avu h k1 k2 l1 l2).push { cls:=.type "zip", data:=.fields #[.none,.bool false,.bool false,.ref (avw h k1 k2 l1 l2).objs.size,.ref (avv h k1 k2 l1 l2).objs.size] }
theorem a1c(k1 k2:Bool)(l1 l2:aX)(x1 x2:Array aD) :
  Meets (jL.«zip.__new__» ⟨[.type "zip", .ref l1,.ref l2],[]⟩) (fun _ R s=>Sq1 k1 s.heap l1 x1/\Sq1 k2 s.heap l2 x2/\R (.ok (.ret (.ref (avu s.heap k1 k2 l1 l2).objs.size))) { s with heap:=alx s.heap k1 k2 l1 l2 }) :=
 .of_wp fun prog w A R s h=>by
  obtain⟨hp,g,d,tk,os⟩:=s;obtain⟨s1,s2,h⟩:=h;have sb:=sub_zip;have r1:Sq1 k1 (vU ⟨hp,g,d,tk,os⟩) l1 x1:=s1.at fun _ e=>e
  have r2:Sq1 k2 (vU ⟨aq9 hp k1 k2 l1 l2,g,d,tk,os⟩) l2 x2:=s2.at fun _ e=>aB _ (e)
  wp_walk using axe r1,axe r2;exact⟨_,rfl,h⟩
theorem avd{k1 k2:Bool}{l1 l2:aX}{x1 x2:Array aD}{Q:aD->aH->Prop}(s1:Sq1 k1 s.heap l1 x1)(s2:Sq1 k2 s.heap l2 x2)
  (q:∀h',tO h' (s.heap.objs.size+4) (s.heap.objs.size+2) (s.heap.objs.size+3) .none->Row2 h' (s.heap.objs.size+2) (.ref s.heap.objs.size) (.ref (s.heap.objs.size+1))->Row2 h' (s.heap.objs.size+3) .none .none->It1 k1 h' s.heap.objs.size l1 0->It1 k2 h' (s.heap.objs.size+1) l2 0->h'.objs.size=s.heap.objs.size+5->(∀c o,s.heap.get? c=some o->h'.get? c=some o)->Q (.ref (s.heap.objs.size+4)) { s with heap:=h' }) :
  bL (bU prog w) A (call (.type "zip") [.ref l1,.ref l2]) Q E s:=by
 refine callType_new F.called_zip (by decide) (azv _ _) (a1b _ _) (fun obj=>a2u obj _ _) F.entry_zip_new (a1c k1 k2 l1 l2 x1 x2) ⟨s1,s2,?_⟩
 have e1:(aq9 s.heap k1 k2 l1 l2).objs.size=s.heap.objs.size+1:=by rw[cY]
 have e2:(avw s.heap k1 k2 l1 l2).objs.size=s.heap.objs.size+2:=by rw[cY,e1]
 have eI:(avv s.heap k1 k2 l1 l2).objs.size=s.heap.objs.size+3:=by rw[cY,e2]
 have eO:(avu s.heap k1 k2 l1 l2).objs.size=s.heap.objs.size+4:=by rw[cY,eI]
 have eZ:(alx s.heap k1 k2 l1 l2).objs.size=s.heap.objs.size+5:=by rw[cY,eO]
 have gZ:(alx s.heap k1 k2 l1 l2).get? (avu s.heap k1 k2 l1 l2).objs.size=some _:=aO _ rfl;have gO:(alx s.heap k1 k2 l1 l2).get? (avv s.heap k1 k2 l1 l2).objs.size=some _:=aB _ (aO _ rfl);have gI:(alx s.heap k1 k2 l1 l2).get? (avw s.heap k1 k2 l1 l2).objs.size=some _:=aB _ (aB _ (aO _ rfl));have j1:(alx s.heap k1 k2 l1 l2).get? s.heap.objs.size=some _:=aB _ (aB _ (aB _ (aB _ (aO _ rfl))));have j2:(alx s.heap k1 k2 l1 l2).get? (aq9 s.heap k1 k2 l1 l2).objs.size=some _:=aB _ (aB _ (aB _ (aO _ rfl)));show _/\_;rw[e2,eI,eO] at gZ;rw[e1,e2] at gI;rw[eI] at gO;rw[e1] at j2;rw[eO];exact⟨⟨_,gZ,rfl⟩,q _ gZ gI gO (amt j1) (amt j2) eZ fun c o x=>aB _ (aB _ (aB _ (aB _ (aB _ (x)))))⟩
end
structure Apart3 (z TI TO i1 i2 i3 l1 l2 l3:aX):Prop where
 nTIz:TI≠z
 nTOz:TO≠z
 nTOTI:TO≠TI
 ni1z:i1≠z
 ni1TI:i1≠TI
 ni1TO:i1≠TO
 ni2z:i2≠z
 ni2TI:i2≠TI
 ni2TO:i2≠TO
 ni2i1:i2≠i1
 ni3z:i3≠z
 ni3TI:i3≠TI
 ni3TO:i3≠TO
 ni3i1:i3≠i1
 ni3i2:i3≠i2
 nl1z:l1≠z
 nl1TO:l1≠TO
 nl1i1:l1≠i1
 nl1i2:l1≠i2
 nl1i3:l1≠i3
 nl2z:l2≠z
 nl2TO:l2≠TO
 nl2i1:l2≠i1
 nl2i2:l2≠i2
 nl2i3:l2≠i3
 nl3z:l3≠z
 nl3TO:l3≠TO
 nl3i1:l3≠i1
 nl3i2:l3≠i2
 nl3i3:l3≠i3
section
variable{prog:cA}{w:dJ}{A:cW}{E:aD->aH->Prop}{s:aH}
end
end En
namespace Mn
open L2 En
def SqK(k:Bool)(K:Fg9)(H:Hp)(a:aX)(xs:List V):Prop:=cond k (SqT K H a xs) (SqL K H a xs)
theorem afb{xs:List V}{us:List aD}(r:Vals xs us){i:Nat}{x:V}{u:aD}(h:xs[i]? = some x)(h':us.toArray[i]? = some u):RelV x u:=by
 obtain⟨u',e,z⟩:=r.get h;have:us[i]? = some u:=by simpa using h'
 rw[this] at e;cases e;exact z
section
variable{X:Cx}{zv:List (aX×Obj)}{σ:L2.St}{H:Hp}{s:aH}{h':fK}{a:aX}{xs ys:List V}{k:Bool}
theorem aen(I:Inv X zv σ H s)(h:SqK k X.K H a xs):∃its:List aD,Vals xs its/\Sq1 k s.heap a its.toArray:=by
 cases k with
 | false =>
  obtain⟨its,r,p,_⟩:=I.list h;exact⟨its,r,p.isList⟩
 | true =>
  obtain⟨its,r,p,_⟩:=I.tuple h;exact⟨its,r,p⟩
theorem amu(I:Inv X zv σ H s)(h:SqK k X.K H a xs)(h2:SqK k X.K H a ys):xs=ys:=by
 cases k with
 | false=>exact I.list_inj h h2
 | true=>exact I.tuple_inj h h2
theorem aea{t':Nat}{fp:List aX}(I:Inv X zv σ H s)(kk:∀b o,b∉fp->s.heap.get? b=some o->h'.get? b=some o)(hf:∀b∈fp,FpOk X zv H b):Inv X zv σ H { s with heap:=h',toks:=t' }:=by
 have nit:∀b u,H b=some u->b∉fp:=fun b u e z=>by rw[(hf b z).1] at e;cases e
 have nL:X.env.locals∉fp:=fun z=>(hf _ z).2.1 rfl
 refine I.step (g':=s.gens) (d':=s.drawn) (ch:=fp) (fun b hb=>⟨(hf b hb).2.2.2.1,(hf b hb).2.1,(hf b hb).2.2.2.2.1,(hf b hb).2.2.2.2.2⟩) (fun b o _ _ hc e _=>kk b o hc e) (fun b o _ _ hc e _=>⟨o.slots,kk b o hc e⟩) (fun _ _ _ _ n=>n)
  (fun b o hc e=>⟨o,kk b o hc e⟩) (fun _ _ e=>e) (fun _ _ _ e=>e) (fun b ps e=>⟨#[],by rw[e];simp⟩) (fun m hm =>?_) (fun b u e =>?_) I.bare
 ·obtain⟨o,es,ep,ho,r⟩:=hm;exact⟨o,es,ep,kk _ o nL ho,r⟩
 ·refine(I.hok b u e).stay (fun c v hc q=>kk c v ?_ q) (fun _ q=>q) fun _ _ q=>q
  rcases hc with z | z
  ·rw[z];exact nit b u e
  ·exact nit c _ z
theorem at7{t':Nat}{fp:List aX}{vs:List V}{us:List aD}(I:Inv X zv σ H s)(kk:∀b o,b∉fp->s.heap.get? b=some o->h'.get? b=some o)(hf:∀b∈fp,FpOk X zv H b)(hb:∀b∈fp,b < s.heap.objs.size)
  (r:Vals vs us) (hz:vs.length<=cN) (ht:h'.get? s.heap.objs.size=some { cls:=.type "tuple", data:=.seq us.toArray }):Inv X zv σ (upd H s.heap.objs.size (.tup vs)) { s with heap:=h',toks:=t' }:=by
 have I1:=I.laid (h':=s.heap.push { cls:=.type "tuple", data:=.seq us.toArray }) (t':=s.toks) (a:=s.heap.objs.size) (o:=.tup vs) (fun b u e=>aB _ e) (aN _) ⟨hz,us,r,⟨_,aO _ rfl,rfl,rfl,_,rfl⟩⟩
 have k2:∀b o,b∉fp->(s.heap.push { cls:=.type "tuple", data:=.seq us.toArray }).get? b=some o->h'.get? b=some o:=fun b o hn e=>by
  rcases Heap.get?_push_cases e with⟨rfl,rfl⟩ | e
  ·exact ht
  ·exact kk b o hn e
 have f2:∀b∈fp,FpOk X zv (upd H s.heap.objs.size (.tup vs)) b:=fun b hb'=>by
  obtain⟨f0,f⟩:=hf b hb';exact⟨by rw[bw (bQ (hb b hb'))];exact f0,f⟩
 have R:=aea (t':=t') (h':=h') (fp:=fp) I1 k2 f2;exact R
end
theorem ay6{k:Bool}{h:fK}{it a l:aX}{i:Nat}{xs:Array aD}(x:It1 k h it l i){k':Bool}(y:Sq1 k' h a xs):a≠it:=fun e=>by
 subst e;cases k <;> cases k' <;> exact(by
  obtain⟨o,e1,c1,_⟩:=x;obtain⟨o',e2,c2,_⟩:=y;rw[e1] at e2;cases e2;rw[c1] at c2;simp at c2)
theorem a8e{h:fK}{a b:aX}{o:Obj}{n:String}{k:Bool}{xs:Array aD}(e:h.get? b=some o)(c:o.cls=.type n)(hn:n ≠ "list" /\ n ≠ "tuple")(y:Sq1 k h a xs):a≠b:=fun z=>by
 subst z;cases k <;> exact(by
  obtain⟨o',e2,c2,_⟩:=y;rw[e] at e2;cases e2;rw[c] at c2;simp at c2
  first | exact hn.1 c2 | exact hn.2 c2)
def Ite(K:Fg9)(k:Bool)(a:aX):It :=
 ⟨fun i H=>∃xs x,SqK k K H a xs/\xs[i]? = some x,fun i H x H'=>∃q v,H q=none/\x=.ref q/\H'=upd H q (.tup [.int i,v])/\∀xs,SqK k K H a xs->xs[i]? = some v,fun i H=>∃xs,SqK k K H a xs/\xs.length=i⟩
theorem ars{P:cA}{w:dJ}{K:Fg9}{elts:List dX}{n:Nat}{pos:Pos}(k:Bool)(a e it:aX)(ne:e≠it) :
  Turn P w K (.Tuple elts n pos) (Ite K k a) [e,it] e (fun i h=>(∃old,IsEnum h e it i old)/\It1 k h it a i) where
 mem:=by simp
 obj:=fun i h st b hb=>by
  have hb:b=e∨b=it:=by simpa using hb
  rcases hb with rfl | rfl
  ·obtain⟨old,z⟩:=st.1;exact⟨_,z,fun v z=>by cases z⟩
  ·exact st.2.got
 keep:=fun i h h' st kk=>by
  obtain⟨⟨old,z⟩,y⟩:=st;exact⟨⟨old,kk e (by simp) _ z⟩,y.at fun o z=>kk it (by simp) o z⟩
 item:=by
  intro X hP hw hK hc i zv s σ H E I hf st hg;subst hP hw hK;obtain⟨⟨old,he⟩,hi⟩:=st;obtain⟨xs,x,hq,hx⟩:=hg;obtain⟨its,rv,sq⟩:=aen I hq;obtain⟨u,hu,ru⟩:=rv.get hx;have hlt:i < its.toArray.size:=by simpa using (aK.mp hu).1
  have nai:=ay6 hi sq;have nae:a≠e:=a8e he rfl (by decide) sq
  have D:=En.src (prog:=X.prog) (w:=X.w) (A:=X.A.in1) (I.ok.hd hc) k it a nai its.toArray;refine wpAny_pyNext_enum_itemD D he ⟨hi,sq⟩ hlt ne (by simp[ne,nae.symm]) fun y g tk hy ho hs hT hz hk =>?_
  refine⟨_,rfl,wpAny_letOwnedTupleGo_enum ho fun g2 he2 sb =>?_⟩
  have ry:=afb rv hx hy;have lte:e < s.heap.objs.size:=aR he;have lti:it < s.heap.objs.size:=by obtain⟨o,z,_⟩:=hi.got;exact aR z
  have fr:H s.heap.objs.size=none:=I.hok.fresh (aN _);refine⟨.ref s.heap.objs.size,upd H s.heap.objs.size (.tup [.int i,x]),?_,rfl,⟨_,x,fr,rfl,rfl,fun ys hy=>by rw[amu I hy hq];exact hx⟩,⟨⟨_,he2⟩,hs.1.at fun o z=>sb.extBut _ _ ne.symm z⟩,fun b hb =>?_⟩
  ·refine at7 (fp:=[e,it]) (us:=[.int i tk,y]) I (fun b o hn z =>?_) hf (fun b hb =>?_) (.cons ⟨tk,rfl⟩ (.cons ry .nil)) (by rw[fY];simp) (sb.extBut _ _ (gK lte) hT)
   ·have h1:b≠e:=fun z=>hn (by simp[z])
    have h2:b≠it:=fun z=>hn (by simp[z])
    exact sb.extBut _ _ h1 (hk b o h1 h2 z)
   ·have hb:b=e∨b=it:=by simpa using hb
    rcases hb with rfl | rfl
    ·exact lte
    ·exact lti
  ·have hb':b=e∨b=it:=by simpa using hb
   rw[bw (by rcases hb' with rfl | rfl;exact bQ lte;exact bQ lti)]
   exact(hf b hb).1
 done:=by
  intro X hP hw hK hc i zv s σ H E I hf st hg;subst hP hw hK;obtain⟨⟨old,he⟩,hi⟩:=st;obtain⟨xs,hq,hx⟩:=hg;obtain⟨its,rv,sq⟩:=aen I hq;have hl:i=its.toArray.size:=by have:=rv.length;simp;omega
  subst hl;have D:=En.src (prog:=X.prog) (w:=X.w) (A:=X.A.in1) (I.ok.hd hc) k it a (ay6 hi sq) its.toArray;refine wpAny_pyNext_enum_endD D he ⟨hi,sq⟩ fun g eb=>⟨rfl,aea (t':=s.toks) (fp:=[e,it]) I (fun b o hn z=>eb b o (fun z=>hn (by simp[z])) z) hf⟩
 self:=fun _ _ _ _ _ st h=>let ⟨_,z⟩:=st.1;wpAny_pyIter_enum z h
theorem a6p:cD "zip" = some (.type "zip"):=by decide +kernel
section
variable{X:Cx}
def a9s(K:Fg9)(ta:TA):TI:=fun σ H R=>ta σ H fun vs H1=>∃a k,vs=[.ref a]/\(∃xs,SqK k K H1 a xs)/\R (Ite K k a) H1
theorem a0s{a:dX}{ta:TA}{p pos:Pos}{elts:List dX}{n:Nat}{tp:Pos}(hg:Gl X "enumerate")(hm:X.mg "enumerate" = none)(ha:PA X [a] ta)(hs:aQ [a] X.env=[(false,eval a X.env)]:=by rfl) :
  PI X (.Tuple elts n tp) (.Call (.Name "enumerate" p) [a] [] pos) (a9s X.K ta):=by
 intro zv s σ H R I h;refine Call_ (af7 I hg hm aln (iH (thn (ha pos zv s σ H _ I h) fun us s1 ⟨vs,H1,I1,r1,q1⟩ =>?_) hs rfl))
 obtain⟨b,k,rfl,⟨xs,hq⟩,q⟩:=q1;obtain⟨u,rfl,ru⟩:=vals1 r1;cases ru;obtain⟨its,rv,sq⟩:=aen I1 hq;refine avi sq fun g he hi hz kk=>wpAny_pyIter_enum he ?_
 have I2:Inv X zv σ H1 { s1 with heap:=g }:=I1.kept (t':=s1.toks) kk
 refine⟨_,[s1.heap.objs.size+1,s1.heap.objs.size],_,_,H1,rfl,I2,ars k b _ _ (Nat.succ_ne_self _),⟨⟨_,he⟩,hi⟩,fun c hc =>?_,q⟩
 have hc:c=s1.heap.objs.size+1∨c=s1.heap.objs.size:=by simpa using hc
 rcases hc with rfl | rfl
 ·exact I1.fpOk (mY _) (I1.hok.fresh (mY _))
 ·exact I1.fpOk (aN _) (I1.hok.fresh (aN _))
end
end Mn
namespace En
open PySem PySem.Builtin
theorem ayx{prog:cA}{w:dJ}{A:cW}{E:aD->aH->Prop}{s:aH}{z TI TO:aX}{f0:aD}{Q:Option aD->aH->Prop}(hz:tO s.heap z TI TO f0)
  (h:bL (bU prog w) A.in1 (jL.«zip.__next__» ⟨[.ref z],[]⟩) (fun fin s'=>∃v,fin=.done (.ret v)/\Q (some v) s') (fun e s'=>∃a o,e=.ref a/\s'.heap.get? a=some o/\o.cls=.type "StopIteration" /\ Q none s') s) :
  bL (bU prog w) A (oR (.ref z)) Q E s:=by
 have tz:s.TypeIs (.ref z) "zip" := ⟨_,hz,rfl⟩;unfold oR;refine aA (wpAny_attempt (eG (name:=jV "__next__") tz yX (fD yX tz F.entry_zip_next (bC h (fun fin s' ⟨v,e,q⟩=>⟨v,e,aG q⟩) fun e s' ⟨a,o,e1,e2,e3,q⟩ =>?_) (F.args_zip_next_1 _))))
 subst e1;exact aA (wpAny_isInstance (T := "StopIteration") (b:=true) ⟨o,e2,e3⟩ isSubtype_stop (aG q))
end En
namespace Mn
open L2 En
def Itz2(K:Fg9)(k1 k2:Bool)(a1 a2:aX):It :=
 ⟨fun i H=>∃x1 x2 v1 v2,(SqK k1 K H a1 x1/\x1[i]? = some v1)/\(SqK k2 K H a2 x2/\x2[i]? = some v2),fun i H x H'=>∃q v1 v2,H q=none/\x=.ref q/\H'=upd H q (.tup [v1,v2])/\(∀xs,SqK k1 K H a1 xs->xs[i]? = some v1)/\(∀xs,SqK k2 K H a2 xs->xs[i]? = some v2),fun i H=>∃xs,SqK k1 K H a1 xs/\xs.length=i⟩
theorem aro{P:cA}{w:dJ}{K:Fg9}{elts:List dX}{n:Nat}{pos:Pos}(k1 k2:Bool)(a1 a2 z TI TO i1 i2:aX)(D:Apart2 z TI TO i1 i2 a1 a2) :
  Turn P w K (.Tuple elts n pos) (Itz2 K k1 k2 a1 a2) [z,TI,TO,i1,i2] z (fun i h=>tO h z TI TO .none/\Row2 h TI (.ref i1) (.ref i2)/\(∃v1 v2,Row2 h TO v1 v2)/\It1 k1 h i1 a1 i/\It1 k2 h i2 a2 i) where
 mem:=by simp
 obj:=fun i h ⟨hz,hI,⟨v1,v2,hO⟩,h1,h2⟩ b hb=>by
  have hb:b=z∨b=TI∨b=TO∨b=i1∨b=i2:=by simpa using hb
  rcases hb with rfl | rfl | rfl | rfl | rfl
  ·exact⟨_,hz,fun v z=>by cases z⟩
  ·exact⟨_,hI,fun v z=>by cases z⟩
  ·exact⟨_,hO,fun v z=>by cases z⟩
  ·exact h1.got
  ·exact h2.got
 keep:=fun i h h' ⟨hz,hI,⟨v1,v2,hO⟩,h1,h2⟩ kk=>⟨kk z (by simp) _ hz,kk TI (by simp) _ hI,⟨v1,v2,kk TO (by simp) _ hO⟩,h1.at fun o e=>kk i1 (by simp) o e,h2.at fun o e=>kk i2 (by simp) o e⟩
 item:=by
  intro X hP hw hK hc i zv s σ H E I hf st hg;subst hP hw hK;obtain⟨hz,hI,⟨o1,o2,hO⟩,h1,h2⟩:=st;obtain⟨x1,x2,v1,v2,⟨hq1,hx1⟩,⟨hq2,hx2⟩⟩:=hg;obtain⟨t1,r1,s1⟩:=aen I hq1;obtain⟨u1,hu1,_⟩:=r1.get hx1;have b1:i < t1.toArray.size:=by simpa using (aK.mp hu1).1
  obtain⟨t2,r2,s2⟩:=aen I hq2;obtain⟨u2,hu2,_⟩:=r2.get hx2;have b2:i < t2.toArray.size:=by simpa using (aK.mp hu2).1
  refine ayx hz (aq7 (I.ok.hd hc) D hz hI hO h1 s1 h2 s2 b1 b2 fun g tk y1 y2 p1 p2 z2 O2 j1 j2 T2 hsz hk =>?_)
  refine⟨_,rfl,wpAny_letOwnedTupleGo_zip z2 fun g2 he2 sb =>?_⟩
  have fr:H s.heap.objs.size=none:=I.hok.fresh (aN _);have lt:∀b∈[z,TI,TO,i1,i2],b < s.heap.objs.size:=fun b hb=>by
   have hb:b=z∨b=TI∨b=TO∨b=i1∨b=i2:=by simpa using hb
   rcases hb with rfl | rfl | rfl | rfl | rfl
   ·exact aR hz
   ·exact aR hI
   ·exact aR hO
   ·obtain⟨o,e,_⟩:=h1.got;exact aR e
   ·obtain⟨o,e,_⟩:=h2.got;exact aR e
  have up:∀b o,b∉[z,TI,TO,i1,i2]->s.heap.get? b=some o->g2.get? b=some o:=fun b o hn e=>sb.extBut _ _ (fun x=>hn (by simp[x])) (hk b o (fun x=>hn (by simp[x])) (fun x=>hn (by simp[x])) (fun x=>hn (by simp[x])) (fun x=>hn (by simp[x])) e)
  have TI2:g2.get? TI=_:=sb.extBut _ _ D.nTIz (hk TI _ D.nTIz D.nTOTI.symm D.ni1TI.symm D.ni2TI.symm hI);refine⟨.ref s.heap.objs.size,upd H s.heap.objs.size (.tup [v1,v2]),?_,rfl,⟨_,v1,v2,fr,rfl,rfl,fun ys hy=>by rw[amu I hy hq1];exact hx1,fun ys hy=>by rw[amu I hy hq2];exact hx2⟩,⟨he2,TI2,⟨y1,y2,sb.extBut _ _ D.nTOz O2⟩,(j1.at fun o e=>sb.extBut _ _ D.ni1z e),(j2.at fun o e=>sb.extBut _ _ D.ni2z e)⟩,fun b hb =>?_⟩
  ·exact at7 (fp:=[z,TI,TO,i1,i2]) (us:=[y1,y2]) I up hf lt (.cons (afb r1 hx1 p1) (.cons (afb r2 hx2 p2) .nil)) (by rw[fY];simp) (sb.extBut _ _ (gK (lt z (by simp))) T2)
  ·rw[bw (bQ (lt b hb))];exact(hf b hb).1
 done:=by
  intro X hP hw hK hc i zv s σ H E I hf st hg;subst hP hw hK;obtain⟨hz,hI,⟨o1,o2,hO⟩,h1,h2⟩:=st;obtain⟨xs,hq,hx⟩:=hg;obtain⟨its,rv,sq⟩:=aen I hq;have hl:i=its.toArray.size:=by have:=rv.length;simp;omega
  subst hl;refine ayx hz (avt (I.ok.hd hc) D hz hI hO h1 sq fun g e kk ⟨o,he,ce⟩=>⟨e,o,rfl,he,ce,rfl,aea (t':=s.toks) (fp:=[z,TI,TO,i1,i2]) I (fun b o hn z=>kk b o (fun z=>hn (by simp[z])) (fun z=>hn (by simp[z])) z) hf⟩)
 self:=fun _ _ _ _ _ st h=>wpAny_pyIter_zip st.1 h
theorem apart2{N l1 l2:Nat}(h1:l1 < N)(h2:l2 < N):Apart2 (N+4) (N+2) (N+3) N (N+1) l1 l2:=by
 constructor <;> (intro e;have e:(_:Nat)=_:=e;omega)
section
variable{X:Cx}
def a9o(K:Fg9)(ta:TA):TI:=fun σ H R=>ta σ H fun vs H1=>∃a1 a2 k1 k2,vs=[.ref a1,.ref a2]/\(∃xs,SqK k1 K H1 a1 xs)/\(∃xs,SqK k2 K H1 a2 xs)/\R (Itz2 K k1 k2 a1 a2) H1
theorem a0r{e1 e2:dX}{ta:TA}{p pos:Pos}{elts:List dX}{n:Nat}{tp:Pos}(hg:Gl X "zip")(hm:X.mg "zip" = none)(ha:PA X [e1,e2] ta)(hs:aQ [e1,e2] X.env=[(false,eval e1 X.env),(false,eval e2 X.env)]:=by rfl)(hs2:aQ [e2] X.env=[(false,eval e2 X.env)]:=by rfl) :
  PI X (.Tuple elts n tp) (.Call (.Name "zip" p) [e1,e2] [] pos) (a9o X.K ta):=by
 intro zv s σ H R I h;refine Call_ (af7 I hg hm a6p (iH (thn (ha pos zv s σ H _ I h) fun us s1 ⟨vs,H1,I1,r1,q1⟩ =>?_) (by rw[hs,hs2]) (by rw[hs2];rfl)))
 obtain⟨a1,a2,k1,k2,rfl,⟨x1,hq1⟩,⟨x2,hq2⟩,q⟩:=q1;obtain⟨u1,u2,rfl,ru1,ru2⟩:=vals2 r1;cases ru1;cases ru2;obtain⟨t1,r1',sq1⟩:=aen I1 hq1;have b1:a1 < s1.heap.objs.size:=by obtain⟨o,e⟩:=sq1.got;exact aR e
 obtain⟨t2,r2',sq2⟩:=aen I1 hq2;have b2:a2 < s1.heap.objs.size:=by obtain⟨o,e⟩:=sq2.got;exact aR e
 refine avd sq1 sq2 fun g hz hI hO h1 h2 hsz kk=>wpAny_pyIter_zip hz ?_
 have I2:Inv X zv σ H1 { s1 with heap:=g }:=I1.kept (t':=s1.toks) kk
 refine⟨_,[s1.heap.objs.size+4,s1.heap.objs.size+2,s1.heap.objs.size+3,s1.heap.objs.size,s1.heap.objs.size+1],_,_,H1,rfl,I2,aro k1 k2 a1 a2 _ _ _ _ _ (apart2 b1 b2),⟨hz,hI,⟨_,_,hO⟩,h1,h2⟩,fun c hc =>?_,q⟩
 have hc:s1.heap.objs.size<=c:=by
  simp only[bF,eQ,or_false] at hc;rcases hc with rfl | rfl | rfl | rfl | rfl <;> first | exact aN _ | exact Nat.le_add_right _ _
 exact I1.fpOk hc (I1.hok.fresh hc)
end
section
variable{X:Cx}
end
end Mn
namespace Dn
open L2 Mn
section
variable{K:Fg9}{X:Cx}{e a b c:dX}{es elts:List dX}{pos p tp:Pos}{n:Nat}
theorem asd{F:Hp}{d:D}{l:List D}{v:V}(e:itemsD d=some l)(h:Is K F d v):∃a k vs,v=.ref a/\IsL K F l vs/\∀H,Same F H->SqK k K H a vs:=by
 cases h with
 | tup e1 h1=>cases e;exact⟨_,true,_,rfl,h1,fun H g=>SqT.of (g _ _ e1)⟩
 | lst e1 h1=>cases e;exact⟨_,false,_,rfl,h1,fun H g=>SqL.of (g _ _ e1)⟩
 | kst e1 h1=>cases e;exact⟨_,false,_,rfl,h1,fun H g=>L2.Same.seq g e1⟩
 | _=>cases e
def aev(l:List D):List D:=l.mapIdx fun i d=>.tup [.int (i:Nat),d]
def aud:List D->Option (List D)
 | [d]=>(itemsD d).map aev
 | _=>none
theorem adf(l:List D):(aev l).length=l.length:=by unfold aev;simp
theorem agk{l:List D}{i:Nat}{d:D}(h:(aev l)[i]? = some d):∃d0,l[i]? = some d0/\d=.tup [.int (i:Nat),d0]:=by
 unfold aev at h;rw[nJ] at h;cases e:l[i]? with
 | none=>rw[e] at h;cases h
 | some d0=>rw[e] at h;cases h;exact⟨d0,rfl,rfl⟩
theorem axg{F:Hp}{k:Bool}{a:aX}{l:List D}{vs:List V}(il:IsL K F l vs)(hs:∀H,Same F H->SqK k K H a vs):ItD K (Ite K k a) (aev l) F where
 go:=fun i H s hi=>by
  have hi:i < vs.length:=by rw[<-il.length,<-adf];exact hi
  exact⟨vs,_,hs H s,aF hi⟩
 yld:=fun i H x H' d s y hd=>by
  obtain⟨d0,h0,rfl⟩:=agk hd;obtain⟨q,v,hq,rfl,rfl,hv⟩:=y;obtain⟨v',e1,i1⟩:=il.get h0;have:=hv _ (hs H s);rw[e1] at this;cases this;exact .inr ⟨q,_,_,hq,rfl,rfl,rfl,.cons (.int _) (.cons i1 .nil)⟩
 stop:=fun H s=>⟨vs,hs H s,by rw[adf,il.length]⟩
theorem ams{m:M (List D)}(hg:Gl X "enumerate")(hm:X.mg "enumerate" = none)(h:ED K X [a] m)(hs:aQ [a] X.env=[(false,eval a X.env)]:=by rfl):IT K X (.Tuple elts n tp) (.Call (.Name "enumerate" p) [a] [] pos) (mGet aud m):=IT.mk fun hk=>by
 intro zv s σ H R I z9;obtain⟨tg,F,ρ,l,ρ',G,em,q⟩:=z9;obtain⟨ds,ρ1,e1,em⟩:=bj em;obtain⟨e2,rfl⟩:=gk em;have h:=h hk;subst hk;refine a0s hg hm h hs zv s σ H R I ⟨tg,F,ρ,ds,_,G,e1,fun vs H' F' G' x r =>?_⟩
 match ds,e2 with
 | [d],e2 =>
  have e2:(itemsD d).map aev=some l:=e2;cases e3:itemsD d with
  | none=>rw[e3] at e2;cases e2
  | some l0 =>
   rw[e3] at e2;cases e2;cases r with
   | cons h1 t =>
    cases t;obtain⟨b,k,ws,rfl,il,hq⟩:=asd e3 h1;exact⟨b,k,rfl,⟨ws,hq _ G'.sub⟩,q _ H' F' G' x (axg il hq)⟩
def qu(l1 l2:List D):List D:=qC (fun x y=>.tup [x,y]) l1 l2
def aqq:List D->Option (List D)
 | [a,b]=>(itemsD a).bind fun l1=>(itemsD b).bind fun l2=>if l1.length<=l2.length then some (qu l1 l2) else none
 | _=>none
theorem ajh{l1 l2:List D}{i:Nat}{d:D}(h:(qu l1 l2)[i]? = some d):∃d1 d2,l1[i]? = some d1/\l2[i]? = some d2/\d=.tup [d1,d2]:=by
 unfold qu at h;rw[nF] at h;cases e1:l1[i]? with
 | none=>rw[e1] at h;cases h
 | some d1 =>
  cases e2:l2[i]? with
  | none=>rw[e1,e2] at h;cases h
  | some d2=>rw[e1,e2] at h;cases h;exact⟨_,_,rfl,rfl,rfl⟩
theorem axf{F:Hp}{k1 k2:Bool}{a1 a2:aX}{l1 l2:List D}{x1 x2:List V}(h:l1.length<=l2.length)(i1:IsL K F l1 x1)(i2:IsL K F l2 x2)(s1:∀H,Same F H->SqK k1 K H a1 x1)(s2:∀H,Same F H->SqK k2 K H a2 x2):ItD K (Itz2 K k1 k2 a1 a2) (qu l1 l2) F where
 go:=fun i H s hi=>by
  have z1:=i1.length;have z2:=i2.length;have hi:i < l1.length:=by unfold qu at hi;simp at hi;omega
  exact⟨x1,x2,_,_,⟨s1 H s,aF (by omega)⟩,s2 H s,aF (by omega)⟩
 yld:=fun i H x H' d s y hd=>by
  obtain⟨d1,d2,h1,h2,rfl⟩:=ajh hd;obtain⟨q,v1,v2,hq,rfl,rfl,y1,y2⟩:=y;obtain⟨w1,e1,j1⟩:=i1.get h1;obtain⟨w2,e2,j2⟩:=i2.get h2;have z1:=y1 _ (s1 H s);have z2:=y2 _ (s2 H s);rw[e1] at z1;rw[e2] at z2;cases z1;cases z2;exact .inr ⟨q,_,_,hq,rfl,rfl,rfl,.cons j1 (.cons j2 .nil)⟩
 stop:=fun H s=>⟨x1,s1 H s,by unfold qu;rw[jJ,<-i1.length];omega⟩
theorem aiv{m:M (List D)}(hg:Gl X "zip")(hm:X.mg "zip" = none)(h:ED K X [a,b] m)(hs:aQ [a,b] X.env=[(false,eval a X.env),(false,eval b X.env)]:=by rfl)(hs2:aQ [b] X.env=[(false,eval b X.env)]:=by rfl) :
  IT K X (.Tuple elts n tp) (.Call (.Name "zip" p) [a,b] [] pos) (mGet aqq m):=IT.mk fun hk=>by
 intro zv s σ H R I z9;obtain⟨tg,F,ρ,l,ρ',G,em,q⟩:=z9;obtain⟨ds,ρ1,e1,em⟩:=bj em;obtain⟨e2,rfl⟩:=gk em;have h:=h hk;subst hk;refine a0r hg hm h hs hs2 zv s σ H R I ⟨tg,F,ρ,ds,_,G,e1,fun vs H' F' G' x r =>?_⟩
 match ds,e2 with
 | [d,d'],e2 =>
  have e2:((itemsD d).bind fun l1=>(itemsD d').bind fun l2=>if l1.length<=l2.length then some (qu l1 l2) else none)=some l:=e2
  cases e3:itemsD d with
  | none=>rw[e3] at e2;cases e2
  | some l1 =>
   cases e4:itemsD d' with
   | none=>rw[e3,e4] at e2;cases e2
   | some l2 =>
    rw[e3,e4] at e2;have e2:(if l1.length<=l2.length then some (qu l1 l2) else none)=some l:=e2
    split at e2
    ·rename_i hle;cases e2;cases r with
     | cons h1 t =>
      cases t with
      | cons h2 t =>
       cases t;obtain⟨b1,k1,w1,rfl,il1,hq1⟩:=asd e3 h1;obtain⟨b2,k2,w2,rfl,il2,hq2⟩:=asd e4 h2;exact⟨b1,b2,k1,k2,rfl,⟨w1,hq1 _ G'.sub⟩,⟨w2,hq2 _ G'.sub⟩,q _ H' F' G' x (axf hle il1 il2 hq1 hq2)⟩
    ·cases e2
end
end Dn
namespace Mn
open L2
theorem axo{X:Cx}:PGet X (rIxL X.K):=by
 intro zv s σ H x y v u Q I rx ry h;obtain⟨p,xs,i,z,rfl,rfl,hq,he,q⟩:=h;cases rx;obtain⟨t,rfl⟩:=ry;obtain⟨its,r,pl,hz⟩:=I.list hq;obtain⟨j,h1,h2,h3,h4,h5⟩:=anh he;obtain⟨w,ew,rw'⟩:=r.get h2;have hl:=r.length;have hn:=akm;have fin:EP X zv σ Q w s:=⟨z,H,I,rw',q⟩
 by_cases h0:0<=i
 ·have hj:i.toNat=j:=by
   rw[seqIndex_of h0 h5] at h1;exact cP h1
  exact wpAny_getItem_list pl.isList h0 (by omega) (by rw[hj];simpa using ew) fin
 ·have hj:(i+(its.toArray.size:Int)).toNat=j:=by
   rw[seqIndex_neg (by omega) h4] at h1
   have:=cP h1;rw[aU,<-hl];exact this
  exact wpAny_getItem_list_neg pl.isList (by omega) (by simp only[aU];omega) (by omega) (by rw[hj];simpa using ew) fin
end Mn
namespace Dn
open L2 Mn
section
variable{K:Fg9}{X:Cx}{e a b:dX}{pos p:Pos}
def ai9(f:Int->Int->Int)(i:Nat)(mi m:M D):Sd:=dM (mOwn i) fun _=>dM mi fun k=>dM (mOwn i) fun l=>dM (lift ((asI k).bind (ixN l.length))) fun j=>dM (lift ((l[j]?).bind asI)) fun x=>dM m fun y=>dM (lift (asI y)) fun y=>dM (mOwn i) fun l2=>dM (lift (if l2.length=l.length then some () else none)) fun _=>dM (ac6 i (l2.set j (.int (f x y)))) fun _=>dNx
theorem a5w{n:Nat}{k:Int}{j:Nat}{α:Type}{l:List α}(hn:l.length=n)(h:ixN n k=some j):atI l k=l[j]? := by
 unfold atI;rw[hn,h];rfl
theorem ajk{f:Int->Int->Int}{op:Operator}{i:Nat}{mi m:M D}(ho:PE X a (tVar i))(hi:EV K X b mi)(h:EV K X e m)(hp:PIp X op (ipI f))
  (ha:∀ov iv new,augStore b ov iv new=(do mW [new,ov,iv] (setItem ov iv new);release [new,ov,iv] [];pure .next):=by intros;rfl):SV K X (.AugAssign (.Subscript a b p) op e pos) (ai9 f i mi m):=SV.mk fun hk=>by
 subst hk;refine PS.imp (a0k ho (hi rfl) axo (h rfl) hp set_list ha) fun E σ H z9 =>?_
 obtain⟨tg,F,ρ,fl,ρ',G,em,q⟩:=z9;refine ww em q fun l0 ρ0 e0 em=>ww em q fun k ρ1 e1 em=>ww em q fun l ρ2 e2 em=>ww em q fun j ρ3 e3 em=>ww em q fun x ρ4 e4 em=>ww em q fun y ρ5 e5 em=>ww em q fun y' ρ6 e6 em=>ww em q fun l2 ρ7 e7 em=>ww em q fun u ρ8 e8 em=>ww em q fun u2 ρ9 e9 em =>?_
 cases em;obtain⟨rfl,t0,a0,xs0,es0,hv,hh0,hl0⟩:=afz G e0;refine⟨_,hv,tg,F,_,k,ρ1,G,e1,fun w H1 F1 G1 x1 r1 =>?_⟩
 obtain⟨rfl,t1,a1,xs1,es1,hv1,hh1,hl1⟩:=afz G1 e2;rw[hv] at hv1;cases hv1;obtain⟨g3,rfl⟩:=gk e3;obtain⟨g4,rfl⟩:=gk e4;cases ek:asI k with
 | none=>rw[ek] at g3;cases g3
 | some n =>
  rw[ek] at g3;obtain rfl:=apf ek;cases r1;have e3:ixN l.length n=some j:=g3;cases ej:l[j]? with
  | none=>rw[ej] at g4;cases g4
  | some d =>
   rw[ej] at g4;have h4:asI d=some x:=g4;obtain rfl:=apf h4;obtain⟨v,ev,iv⟩:=hl1.get ej;cases iv;refine⟨_,xs1,n,.int x,rfl,rfl,SqL.of hh1,by rw[a5w hl1.length.symm e3];exact ev,?_⟩
   refine⟨tg,F1,_,y,ρ5,G1,e5,fun w2 H2 F2 G2 x2 r2 =>?_⟩
   obtain⟨g6,rfl⟩:=gk e6;obtain rfl:=apf g6;cases r2;refine⟨x,y',rfl,rfl,?_⟩;obtain⟨rfl,t2,a2,xs2,es2,hv2,hh2,hl2⟩:=afz G2 e7;rw[hv] at hv2;cases hv2;obtain⟨g8,rfl⟩:=gk e8;split at g8
   ·rename_i hlen;obtain⟨G3,x3⟩:=amm G2 e9 hv (hl2.set (Is.int (f x y')) j);exact⟨_,xs2,n,j,rfl,rfl,hh2,by rw[<-hl2.length,hlen];exact e3,q _ _ F2 G3 ((x1.trans x2).trans x3)⟩
   ·cases g8
end
section
variable{K:Fg9}{X:Cx}{a:dX}{pos p p2 pos2:Pos}
theorem ave:abn X (.type "range") (fun xs H Q=>∃b,xs=[.int b]/\∀q,H q=none->Q (.ref q) (upd H q (.rng 0 b))):=by
 intro zv s σ H xs us Q I r h;obtain⟨b,rfl,q⟩:=h;obtain⟨u,rfl,ru⟩:=vals1 r;obtain⟨t,rfl⟩:=ru;exact call_range_1 ⟨.ref s.heap.objs.size,_,I.laid (t':=s.toks+1+1) (o:=.rng 0 b) (fun b ob q=>aB _ q) (aN _) ⟨_,_,_,aO _ rfl⟩,rfl,q _ (I.hok.fresh (aN _))⟩
theorem avy{acc:Array aD}{n:Nat}(h:ItemsOf (fun i v=>∃t,v=.int (0+i*1) t) acc n):Vals (ups 0 n) acc.toList:=by
 have key:∀(l:List aD) (k:Nat),(∀j v,l[j]? = some v->∃t,v=oU ((k+j:Nat):Int) t)->Vals ((List.range' k l.length).map fun(i:Nat)=>V.int ((i:Nat):Int)) l:=by
  intro l
  induction l with
  | nil=>intro k _;exact .nil
  | cons x r ih =>
   intro k hk;rw[bN,List.range'_succ,aW];refine .cons ?_ (ih (k+1) fun j v hj =>?_)
   ·obtain⟨t,rfl⟩:=hk 0 x rfl;exact⟨t,by simp⟩
   ·obtain⟨t,rfl⟩:=hk (j+1) v (by simpa using hj)
    exact⟨t,by rw[show k+(j+1)=k+1+j by omega]⟩
 have e:=key acc.toList 0 fun j v hj=>by
  obtain⟨t,rfl⟩:=h.2 j v (by simpa using hj)
  exact⟨t,by simp⟩
 have hs:acc.toList.length=n:=by simpa using h.1
 rw[hs] at e;unfold ups;rw[List.range_eq_range']
 simpa using e
theorem alg(hc:X.calm=true):abn X (.type "list") (fun xs H Q=>∃p b,xs=[.ref p]/\H p=some (.rng 0 b)/\b.natAbs < 1000000/\∀q,H q=none->Q (.ref q) (upd H q (.lst (ups 0 b.toNat)))):=by
 intro zv s σ H xs us Q I r h;obtain⟨p,b,rfl,hp,hb,q⟩:=h;obtain⟨u,rfl,ru⟩:=vals1 r;cases ru;obtain⟨t,u,v,e⟩:=I.hok p _ hp;have e62:(2:Int) ^ 62=4611686018427387904:=by decide
 have e24:(2:Nat) ^ 24=16777216:=by decide
 refine call_list_range (I.ok.hd hc) e (small_one (by omega) (by omega) (by omega) (by omega)) (n:=b.toNat) (by rw[rangeSize_one];split <;> omega) (by omega) fun h' tk acc c' kk e' it =>?_
 refine⟨.ref s.heap.objs.size,_,?_,rfl,q _ (I.hok.fresh (aN _))⟩;exact I.laid kk (aN _) ⟨by rw[ah0,fY];omega,acc.toList,c',avy it,by simpa using e'⟩
def abw:List D->Option Rv
 | [.int j]=>if j.natAbs < 1000000 then some (.fr (rangeD 0 j.toNat)) else none
 | _=>none
def ad6(m:M (List D)):M Rv:=m.bind fun ds=>lift (abw ds)
@[simp] theorem aw3(ρ:Ro)(m:M (List D)):ad6 m ρ=(m.bind fun ds=>lift (abw ds)) ρ:=rfl
@[simp] theorem avs(j:Int):abw [.int j]=if j.natAbs < 1000000 then some (.fr (rangeD 0 j.toNat)) else none:=rfl
theorem ak5{m:M (List D)}(hc:X.calm=true)(hg1:Gl X "list")(hm1:X.mg "list" = none)(hg2:Gl X "range")(hm2:X.mg "range" = none)(h:ED K X [a] m)
  (he:aQ [a] X.env=[(false,eval a X.env)]:=by rfl) (he2:aQ [.Call (.Name "range" p2) [a] [] pos2] X.env=[(false,eval (.Call (.Name "range" p2) [a] [] pos2) X.env)]:=by rfl) :
  ER K X (.Call (.Name "list" p) [.Call (.Name "range" p2) [a] [] pos2] [] pos) (ad6 m):=ER.mk fun hk=>PE.imp (ac0 (alg hc) hg1 hm1 aap (mj (ac0 ave hg2 hm2 ayd (h hk) (by decide) (by decide) he rfl) aa6 he2) (by decide) (by decide) he2 rfl) fun σ H Q z9=>by
 obtain⟨tg,F,ρ,r,ρ',G,em,q⟩:=z9;obtain⟨ds,ρ1,e1,em⟩:=bj em;obtain⟨e2,rfl⟩:=gk em;refine⟨tg,F,ρ,ds,_,G,e1,fun vs H1 F1 G1 x1 bl =>?_⟩
 unfold abw at e2;split at e2
 ·rename_i j;split at e2
  ·rename_i hb;cases e2;cases bl with
   | cons hd t =>
    cases t;cases hd;refine⟨j,rfl,fun a hna =>?_⟩
    refine⟨a,j,rfl,dh,hb,fun b hnb =>?_⟩
    have G2:=G1.fresh hna (.rng 0 j);have X2:=G1.freshX hna (.rng 0 j);exact Res.lst G2 (fun v H3 F3 G3 x3 rr=>q v H3 F3 G3 ((x1.trans X2).trans x3) (lg (x1.trans X2) rr)) (aia 0 _) hnb
  ·cases e2
 ·cases e2
end
end Dn
namespace L2
section
variable{M:vX}{A:cW}{E:aD->aH->Prop}{s:aH}
structure KeptBut (fs ch:List aX) (h h':fK):Prop where
 keep:∀b o,b∉ch->b∉fs->h.get? b=some o->h'.get? b=some o
 slot:∀b o,b∉ch->h.get? b=some o->∃sl,h'.get? b=some { o with slots:=sl }
theorem KeptBut.trans{fs ch:List aX}{h h1 h2:fK}(a:KeptBut fs ch h h1)(b:KeptBut fs ch h1 h2):KeptBut fs ch h h2 :=
 ⟨fun c o n1 n2 e=>b.keep c o n1 n2 (a.keep c o n1 n2 e),fun c o n e=>let ⟨_,e1⟩:=a.slot c o n e;let ⟨sl,e2⟩:=b.slot c _ n e1;⟨sl,e2⟩⟩
theorem KeptBut.sub{fs ch ch':List aX}{h h':fK}(a:KeptBut fs ch h h')(q:∀b∈ch,b∈ch'):KeptBut fs ch' h h' :=
 ⟨fun c o n1 n2 e=>a.keep c o (fun z=>n1 (q c z)) n2 e,fun c o n e=>a.slot c o (fun z=>n (q c z)) e⟩
theorem KeptBut.upd{fs:List aX}{h:fK}{a:aX}{f:Obj->Obj}:KeptBut fs [a] h (h.update a f) :=
 ⟨fun b o n _ e=>by rw[bK _ _ (fun z=>n (by simp[z]))];exact e,fun b o n e=>⟨o.slots,by rw[bK _ _ (fun z=>n (by simp[z]))];exact e⟩⟩
theorem akh{base:fK}{env:Env}{outer:List Env}{L e:aX}{oe:Obj}{vs:Array aD}{head:aD}{hadNext:Bool}{Q:Unit->aH->Prop}
  (hfr:A.frames=some (env::outer)) (hl:s.heap.FunFrames base (env::outer)) (hf:env.frame=some L) (he:s.heap.get? e=some oe) (hd:oe.data=.fields vs) (hsz:1 < vs.size)
  (h:∀h' T ts,s.heap.objs.size<=T->KeptBut (frs (env::outer)) [e] s.heap h'->h'.get? e=some (oe.mapFields (·.setIfInBounds 1 (.ref T)))->h'.get? T=some { cls:=.type "traceback", dict:=none,data:=.fields ts }->ts[3]? = some (lE L)->Q () { s with heap:=h' }) :
  bL M A (do let a <-frameOf env;let pl <-entryPlaceOf L hadNext;let b <-wG head a .none (lE L) .none pl;setField (.ref e) 1 b) Q E s:=by
 have hene:e∉frs (env::outer):=fun hm=>by
  obtain⟨_,o,ho,hnf⟩:=hl.mem hm;rw[he] at ho;injection ho with ho;subst ho;exact hnf vs hd
 refine aA (wpAny_frameOf_fun hfr hl hf fun h₁ hs₁ =>?_)
 refine aA (wpAny_entryPlaceOf fun pl hpl =>?_)
 unfold wG newFields;refine aA (cJ ?_ (hpl.sizeOk5 _ _ _ _ _));have he₁:h₁.get? e=some oe:=(hs₁.2.1 e hene).trans he;have he₂:=aB (h:=h₁) { cls:=.type "traceback", dict:=none,data:=.fields ([head,.ref L,.none,lE L,.none]++(if pl.isEmpty then aV 6 cU else pl)).toArray } he₁
 refine fV he₂ hd hsz (h _ h₁.objs.size ([head,.ref L,.none,lE L,.none]++(if pl.isEmpty then aV 6 cU else pl)).toArray ?_ ?_ ?_ ?_ ?_)
 ·exact vI hs₁.1.symm
 ·have keep:∀b o,b≠e->h₁.get? b=some o->((h₁.push { cls:=.type "traceback", dict:=none,data:=.fields ([head,.ref L,.none,lE L,.none]++(if pl.isEmpty then aV 6 cU else pl)).toArray }).update e (nO (·.setIfInBounds 1 (dF h₁.objs.size)))).get? b=some o:=fun b o hbe hb=>by
   rw[bK _ _ (gG hbe)];exact aB _ hb
  refine⟨fun b o n1 n2 hb=>keep b o (fun z=>n1 (by simp[z])) ((hs₁.2.1 b n2).trans hb),fun b o n hb =>?_⟩
  obtain⟨sl,q⟩:=hs₁.2.2 b o hb;exact⟨sl,keep b _ (fun z=>n (by simp[z])) q⟩
 ·exact cH _ he₂ (fB (bV hd _))
 ·rw[bK _ _ (gG (gK (aR he₁)))];exact aO h₁ rfl
 ·rcases hpl with rfl | ⟨_,_,_,_,_,_,_,rfl⟩ <;> simp
end
structure FlyAt (h:fK) (a:aX) (C:aX) (dx:Option aX) (ch:List aX) (L:aX):Prop where
 obj:∃oe vs,h.get? a=some oe/\oe.cls=.ref C/\oe.dict=dx/\oe.data=.fields vs/\1 < vs.size /\
  ((vs[1]? = some .none/\ch=[a])∨∃T oT ts fl,ch=[a,T]/\vs[1]? = some (.ref T)/\T≠a/\h.get? T=some oT/\oT.data=.fields ts/\ts[3]? = some fl/\(fl=.none∨fl=lE L))
theorem FlyAt.fresh{h:fK}{a C L:aX}{dx:Option aX}{ch:List aX}(x:FlyAt h a C dx ch L):a∈ch:=by
 obtain⟨oe,vs,_,_,_,_,_,⟨_,e⟩ | ⟨T,_,_,_,e,_⟩⟩:=x.obj <;> simp[e]
section
variable{M:vX}{A:cW}{E:aD->aH->Prop}{s:aH}
theorem ab5(o:Obj)(f):(o.mapFields f).dict=o.dict:=by
 obtain⟨c,d,dt,sl⟩:=o;cases dt <;> rfl
theorem a4y{base:fK}{env:Env}{outer:List Env}{L a C:aX}{dx:Option aX}{ch:List aX}{Q:Unit->aH->Prop}
  (hfr:A.frames=some (env::outer)) (hl:s.heap.FunFrames base (env::outer)) (hf:env.frame=some L) (x:FlyAt s.heap a C dx ch L)
  (h:∀h' T oT ts oe vs,(T∈ch∨s.heap.objs.size<=T)->KeptBut (frs (env::outer)) ch s.heap h'->h'.get? a=some oe->oe.cls=.ref C->oe.dict=dx->oe.data=.fields vs->1 < vs.size->vs[1]? = some (.ref T)->T≠a->h'.get? T=some oT->oT.data=.fields ts->ts[3]? = some (lE L)->Q () { s with heap:=h' }) :
  bL M A (noteFrame (.ref a) env) Q E s:=by
 obtain⟨oe,vs,he,hc,hdx,hd,hsz,alt⟩:=x.obj;unfold noteFrame;simp only[hf];rcases alt with⟨h1,rfl⟩ | ⟨T,oT,ts,fl,rfl,h1,hTa,hT,hdT,h3,hfl⟩
 ·refine aA (eF he hd h1 ?_);rw[if_neg (by decide)]
  refine akh hfr hl hf he hd hsz fun h' T ts hT k e1 e2 e3 =>?_
  refine h h' T _ ts _ _ (.inr hT) k e1 (by rw[kY];exact hc) (by rw[ab5];exact hdx) (bV hd _) (by simpa using hsz) (by simp[hsz]) ?_ e2 rfl e3
  exact gK (cF (aR he) hT)
 ·refine aA (eF he hd h1 ?_);rw[if_pos (show(dF T != cU)=true from by simp)]
  refine aA (eF hT hdT h3 ?_);rcases hfl with rfl | rfl
  ·rw[if_neg (show ¬((cU==lE L)=true) from by simp[lE])]
   refine aA (fV hT hdT (fL.mp h3).1 ?_);have k0:KeptBut (frs (env::outer)) [T] s.heap (s.heap.update T (nO (·.setIfInBounds 3 cU))):=KeptBut.upd;have he':=(bK s.heap (nO (·.setIfInBounds 3 cU)) hTa).trans he;refine akh hfr (hl.of_keeps fun b o hb hnf =>?_) hf he' hd hsz fun h' T' ts' hT' k e1 e2 e3 =>?_
   ·exact⟨o,(bK _ _ fun z=>by rw[<-z,hT] at hb;cases hb;exact hnf _ hdT).trans hb,rfl⟩
   ·have hsz':s.heap.objs.size<=T':=by
     have:(s.heap.update T (nO (·.setIfInBounds 3 cU))).objs.size=s.heap.objs.size:=Heap.size_after_update ..
     exact this▸hT'
    refine h h' T' _ ts' _ _ (.inr hsz') ((k0.sub (by simp)).trans (k.sub (by simp))) e1 (by rw[kY];exact hc) (by rw[ab5];exact hdx) (bV hd _) (by simpa using hsz) (by simp[hsz]) ?_ e2 rfl e3
    exact gK (cF (aR he) hsz')
  ·rw[if_pos (show(lE L==lE L)=true from by simp)]
   refine aG (h s.heap T oT ts oe vs (.inl (by simp)) ⟨fun _ _ _ _ e=>e,fun _ o _ e=>⟨o.slots,e⟩⟩ he hc hdx hd hsz h1 hTa hT hdT h3)
theorem a5q{base:fK}{env:Env}{outer:List Env}{L a C:aX}{dx:Option aX}{ch:List aX}{Q:Unit->aH->Prop}
  (hfr:A.frames=some (env::outer)) (hl:s.heap.FunFrames base (env::outer)) (hf:env.frame=some L) (x:FlyAt s.heap a C dx ch L)
  (h:∀h' ch',(∀b∈ch',b∈ch∨s.heap.objs.size<=b)->KeptBut (frs (env::outer)) ch s.heap h'->(∀L',FlyAt h' a C dx ch' L')->Q () { s with heap:=h' }) :
  bL M A (leaving env (.ref a)) Q E s:=by
 unfold leaving;refine aA (a4y hfr hl hf x fun h' T oT ts oe vs hT k e1 e2 e3 e4 e5 e6 e7 e8 e9 e10 =>?_)
 unfold setFlight;refine aA (eF e1 e4 e6 ?_);rw[if_pos (show(dF T != cU)=true from by simp)]
 have hsz3:3 < ts.size:=(fL.mp e10).1;refine fV e8 e9 hsz3 (h _ [a,T] (fun b hb =>?_) ?_ fun L'=>⟨oe,vs,(bK _ _ e7).trans e1,e2,e3,e4,e5,.inr ⟨T,_,_,.none,rfl,e6,e7,cH _ e8 (fB (bV e9 _)),bV e9 _,by simp[hsz3],.inl rfl⟩⟩)
 ·have:b=a∨b=T:=by simpa using hb
  rcases this with rfl | rfl
  ·exact .inl x.fresh
  ·exact hT
 ·rcases hT with hT | hT
  ·exact k.trans (KeptBut.upd.sub (by simp[hT]))
  ·refine⟨fun b o n1 n2 e =>?_,fun b o n e =>?_⟩
   ·rw[bK _ _ fun z=>absurd (aR e) (by rw[<-z];exact oX.mpr hT)]
    exact k.keep b o n1 n2 e
   ·obtain⟨sl,q⟩:=k.slot b o n e;exact⟨sl,by rw[bK _ _ fun z=>absurd (aR e) (by rw[<-z];exact oX.mpr hT)];exact q⟩
end
end L2
namespace Dn
open L2 Mn
def a2v(F:Hp)(dx:Option aX)(fs:List (Str×Int)):Prop:=(dx=none/\fs=[])∨∃d,dx=some d/\F d=some (.xd (fs.map fun p=>(p.1,V.int p.2)))
structure ClsOk (K:Fg9) (c:Str) (C:aX):Prop where
 ns:nsIn K bA c=some (some (.ref C))
 ok:ExcK K C
def FpX(X:Cx)(zv:List (aX×Obj))(H:Hp)(b:aX):Prop :=
 H b=none/\b≠X.env.locals/\b∉X.fs/\(b∈X.ex∨X.s₀.heap.get? b=none)/\(∀x c,X.env.cells.lookup x=some c->c≠b)/\∀p∈X.pn++zv,p.1≠b
section
variable{X:Cx}{zv:List (aX×Obj)}{σ:L2.St}{H H':Hp}{s:aH}
theorem Inv.fpX{b:aX}(I:Inv X zv σ H s)(hb:s.heap.get? b=none)(hn:H' b=none):FpX X zv H' b:=by
 have no:∀{o},s.heap.get? b=some o->False:=fun e=>by rw[hb] at e;cases e
 refine⟨hn,fun z =>?_,fun z =>?_,?_,fun x c e z =>?_,fun p hp z =>?_⟩
 ·obtain⟨m,⟨o,_,_,ho,_⟩,_⟩:=I.loc;rw[<-z] at ho;exact no ho
 ·obtain⟨_,o,ho,_⟩:=I.funs.mem z;exact no ho
 ·by_cases hx:b∈X.ex
  ·exact .inl hx
  ·refine .inr ?_;cases e:X.s₀.heap.get? b with
   | none=>rfl
   | some o =>
    obtain⟨o',e'⟩:=I.base.there b o e hx;exact(no e').elim
 ·obtain⟨v,o,ho,_⟩:=I.cell x c e;rw[z] at ho;exact no ho
 ·have:=(I.pin p hp).1;rw[z] at this;exact no this
theorem Inv.records{h':fK}{ch:List aX}(I:Inv X zv σ H s)(k:KeptBut (frs X.stack) ch s.heap h')(hch:∀b∈ch,FpX X zv H b):Inv X zv σ H { s with heap:=h' }:=by
 have nt:∀c z,H c=some z->c∉ch/\c∉frs X.stack:=fun c z q=>⟨(fun m=>by have:=(hch c m).1;rw[q] at this;cases this),(fun m=>by have:=I.stkFree c m;rw[q] at this;cases this)⟩
 have nb:∀b o,X.s₀.heap.get? b=some o->b∉X.ex->b∉ch:=fun b o e hx m=>by
  rcases(hch b m).2.2.2.1 with z | z
  ·exact hx z
  ·rw[z] at e;cases e
 have nl:∀b o,X.s₀.heap.get? b=some o->b∉X.fs->b∉frs X.stack:=fun b o e hf m=>by
  rcases bF.mp (I.stkSub b m) with z | z
  ·exact absurd (aR e) (by rw[z];exact oX.mpr I.ok.above)
  ·exact hf z
 have cellK:∀x c,X.env.cells.lookup x=some c->∀v,s.heap.IsCell c v->h'.IsCell c v:=fun x c e v hq0=>by
  obtain⟨o,ho,hd⟩:=hq0;obtain⟨sl,q⟩:=k.slot c o (fun m=>(hch c m).2.2.2.2.1 x c e rfl) ho
  exact⟨_,q,hd⟩
 refine⟨I.ok,I.os,I.bare,⟨fun b o e n hb hx=>k.keep b o (nb b o e hx) (nl b o e hb) (I.base.keep b o e n hb hx),fun b o e n hb hx =>?_,I.base.free,fun b o e hx =>?_,I.base.tups,I.base.frzs,I.base.tbls⟩,?_,fun x c e =>?_,I.free,I.freeC,fun p hp =>?_,fun b u e =>?_,I.len⟩
 ·obtain⟨sl,e1⟩:=I.base.slot b o e n hb hx;obtain⟨sl',e2⟩:=k.slot b _ (nb b o e hx) e1;exact⟨sl',e2⟩
 ·obtain⟨o',e1⟩:=I.base.there b o e hx;obtain⟨sl,e2⟩:=k.slot b o' (nb b o e hx) e1;exact⟨_,e2⟩
 ·obtain⟨m,⟨o,es,ep,ho,r⟩,hl⟩:=I.loc;obtain⟨sl,q⟩:=k.slot _ o (fun m=>(hch _ m).2.1 rfl) ho
  refine⟨m,⟨_,es,ep,q,r⟩,fun i x v e1 e2 e3 =>?_⟩
  obtain⟨u,rv,l⟩:=hl i x v e1 e2 e3;refine⟨u,rv,?_⟩;rcases l with l | ⟨kk,c,e,z⟩
  ·exact .inl l
  ·exact .inr ⟨kk,c,e,cellK x c e _ z⟩
 ·obtain⟨v,z⟩:=I.cell x c e;exact⟨v,cellK x c e v z⟩
 ·obtain⟨e,n,ne,nf,d⟩:=I.pin p hp;refine⟨k.keep p.1 p.2 (fun m=>(hch _ m).2.2.2.2.2 p hp rfl) (fun m =>?_) e,n,ne,nf,d⟩
  rcases bF.mp (I.stkSub _ m) with z | z
  ·exact ne z
  ·exact nf z
 ·refine(I.hok b u e).stay (fun c v hc q =>?_) (fun _ q=>q) fun _ _ q=>q
  rcases hc with z | z
  ·rw[z] at q ⊢;exact k.keep _ _ (nt b u e).1 (nt b u e).2 q
  ·exact k.keep _ _ (nt c _ z).1 (nt c _ z).2 q
end
def FlyX(K:Fg9)(X:Cx)(zv:List (aX×Obj))(x:Exn)(F H:Hp)(h:fK)(e:aD):Prop :=
 ∃a C dx ch,e=.ref a/\ClsOk K x.cls C/\a2v F dx x.fs/\FlyAt h a C dx ch X.env.locals/\∀b∈ch,FpX X zv H b
def RX(K:Fg9)(X:Cx)(zv:List (aX×Obj))(tg:Nat->aX)(ρ:Ro)(σ:L2.St)(F H:Hp)(x:Exn)(ρ':Ro)(e:aD)(s':aH):Prop :=
 ∃σ' H' F',Inv X zv σ' H' s'/\Good K tg F' H' ρ' σ'/\Ext (Own ρ σ) (Own ρ' σ') F H F' H'/\FlyX K X zv x F' H' s'.heap e
theorem RX.back{K:Fg9}{X:Cx}{zv:List (aX×Obj)}{tg:Nat->aX}{ρ ρ1 ρ':Ro}{σ σ1:L2.St}{F H F1 H1:Hp}{x:Exn}{e:aD}{s':aH}(q:Ext (Own ρ σ) (Own ρ1 σ1) F H F1 H1)(h:RX K X zv tg ρ1 σ1 F1 H1 x ρ' e s'):RX K X zv tg ρ σ F H x ρ' e s' :=
 let ⟨σ',H',F',I,G,y,f⟩:=h;⟨σ',H',F',I,G,q.trans y,f⟩
abbrev XGo(K:Fg9)(X:Cx)(α:Type)(c:Sem α)(m:Ro->Option (Exn×Ro)):Prop :=
 X.K=K->X.xe=(fun _ _=>False)->∀zv s σ H tg F ρ x ρ',Inv X zv σ H s->Good K tg F H ρ σ->m ρ=some (x,ρ')->bL (bU X.prog X.w) X.A c (fun _ _=>False) (RX K X zv tg ρ σ F H x ρ') s
def exE{α:Type}(m:M α):Ro->Option (Exn×Ro):=fun ρ=>match m ρ with
 | some (.exc x,ρ')=>some (x,ρ')
 | _=>none
def exS(g:Sd):Ro->Option (Exn×Ro):=fun ρ=>match g ρ with
 | some (.exc x,ρ')=>some (x,ρ')
 | _=>none
theorem j4{α:Type}{m:M α}{ρ ρ':Ro}{x:Exn}:exE m ρ=some (x,ρ')↔m ρ=some (.exc x,ρ'):=by
 unfold exE;split
 ·rename_i y ρ1 e;rw[e];constructor
  ·intro h;cases h;rfl
  ·intro h;cases h;rfl
 ·rename_i hn;constructor
  ·intro h;cases h
  ·intro h;exact absurd h (hn x ρ')
theorem qg{g:Sd}{ρ ρ':Ro}{x:Exn}:exS g ρ=some (x,ρ')↔g ρ=some (.exc x,ρ'):=by
 unfold exS;split
 ·rename_i y ρ1 e;rw[e];constructor
  ·intro h;cases h;rfl
  ·intro h;cases h;rfl
 ·rename_i hn;constructor
  ·intro h;cases h
  ·intro h;exact absurd h (hn x ρ')
structure XE (K:Fg9) (X:Cx) (e:dX) {α:Type} (m:M α):Prop where
 go:XGo K X aD (eval e X.env) (exE m)
structure XA (K:Fg9) (X:Cx) (es:List dX) {α:Type} (m:M α):Prop where
 go:∀(pos:Pos),XGo K X (List aD) (spliced (jD pos (aQ es X.env))) (exE m)
structure XS (K:Fg9) (X:Cx) (st:iJ) (g:Sd):Prop where
 go:XGo K X Flow (exec st X.env) (exS g)
structure XSs (K:Fg9) (X:Cx) (ss:List iJ) (g:Sd):Prop where
 go:XGo K X Flow (execs ss X.env) (exS g)
def NoX{α:Type}(m:M α):Prop:=∀ρ x ρ',m ρ≠some (.exc x,ρ')
def NoS(g:Sd):Prop:=∀ρ x ρ',g ρ≠some (.exc x,ρ')
section
variable{K:Fg9}{X:Cx}{e a b c:dX}{es:List dX}{pos p:Pos}{st:iJ}{ss:List iJ}
theorem XE.no{α:Type}{m:M α}(h:NoX m):XE K X e m:=⟨fun _ _ zv s σ H tg F ρ x ρ' I G em=>absurd (j4.mp em) (h ρ x ρ')⟩
theorem XS.no{g:Sd}(h:NoS g):XS K X st g:=⟨fun _ _ zv s σ H tg F ρ x ρ' I G em=>absurd (qg.mp em) (h ρ x ρ')⟩
theorem ao2{α:Type}{m:M α}{k:α->Sd}{ρ ρ':Ro}{x:Exn}(h:dM m k ρ=some (.exc x,ρ')):m ρ=some (.exc x,ρ')∨∃a ρ1,m ρ=some (.ok a,ρ1)/\k a ρ1=some (.exc x,ρ'):=by
 unfold dM at h;split at h
 ·exact .inr ⟨_,_,by assumption,h⟩
 ·cases h;exact .inl (by assumption)
 ·cases h
theorem su{α β:Type}{m:M α}{k:α->M β}{ρ ρ':Ro}{x:Exn}(h:m.bind k ρ=some (.exc x,ρ')):m ρ=some (.exc x,ρ')∨∃a ρ1,m ρ=some (.ok a,ρ1)/\k a ρ1=some (.exc x,ρ'):=by
 unfold M.bind at h;split at h
 ·exact .inr ⟨_,_,by assumption,h⟩
 ·cases h;exact .inl (by assumption)
 ·cases h
theorem XA.no{α:Type}{m:M α}(h:NoX m):XA K X es m:=⟨fun _ _ _ zv s σ H tg F ρ x ρ' I G em=>absurd (j4.mp em) (h ρ x ρ')⟩
theorem aly:XSs K X [] dNx:=⟨fun _ _ zv s σ H tg F ρ x ρ' I G em=>by cases em⟩
theorem aav{g:Sd}(h:XS K X st g):XSs K X [st] g:=⟨fun hk hn zv s σ H tg F ρ x ρ' I G em=>wpAny_execs_cons (bC (h.go hk hn zv s σ H tg F ρ x ρ' I G em) (fun _ _ z=>z.elim) fun _ _ z=>z)⟩
theorem xr{g k:Sd}(h:SV K X st g)(hx:XS K X st g)(t:XSs K X ss k):XSs K X (st::ss) (dSeq g k):=⟨fun hk hn zv s σ H tg F ρ x ρ' I G em=>by
 have em:=qg.mp em;unfold dSeq at em;split at em
 ·rename_i ρ1 e1;refine wpAny_execs_cons (bC (h.go hk zv s σ H { nx:=fun σ1 H1=>∃F1,Good K tg F1 H1 ρ1 σ1/\Ext (Own ρ σ) (Own ρ1 σ1) F H F1 H1,rt:=fun _ _=>False } I ⟨tg,F,ρ,.nx,ρ1,G,e1,fun σ' H' F' G' x=>⟨F',G',x⟩⟩) (fun f s1 q =>?_) fun e s1 q=>by rw[hn] at q;exact q.elim)
  cases f with
  | next =>
   obtain⟨σ1,H1,I1,F1,G1,x1⟩:=q;exact bC (t.go hk hn zv s1 σ1 H1 tg F1 ρ1 x ρ' I1 G1 (qg.mpr em)) (fun _ _ z=>z.elim) fun _ _ z=>z.back x1
  | ret v=>obtain⟨_,_,_,_,_,z⟩:=q;exact z.elim
  | brk=>obtain⟨_,_,_,z⟩:=q;exact z.elim
  | cont=>obtain⟨_,_,_,z⟩:=q;exact z.elim
 ·exact wpAny_execs_cons (bC (hx.go hk hn zv s σ H tg F ρ x ρ' I G (qg.mpr em)) (fun _ _ z=>z.elim) fun _ _ z=>z)⟩
theorem arh{α:Type}{m:M α}(h:XE K X e m)(hs:gU e none pos.line X.env=pure false:=by rfl):XS K X (.Expr e pos) (agq m):=⟨fun hk hn zv s σ H tg F ρ x ρ' I G em=>by
 rcases ao2 (qg.mp em) with em | ⟨_,_,_,em⟩
 ·exact wpAny_Expr_any (bC (h.go hk hn zv s σ H tg F ρ x ρ' I G (j4.mpr em)) (fun _ _ z=>z.elim) fun _ _ z=>z) I.quiet hs
 ·cases em⟩
theorem a3a{m:M Rv}(h:XE K X e m):XS K X (.Return (some e) pos) (dRet m):=⟨fun hk hn zv s σ H tg F ρ x ρ' I G em=>by
 rcases ao2 (qg.mp em) with em | ⟨_,_,_,em⟩
 ·exact wpAny_Return_some (bC (h.go hk hn zv s σ H tg F ρ x ρ' I G (j4.mpr em)) (fun _ _ z=>z.elim) fun _ _ z=>z)
 ·cases em⟩
theorem ayk{i:Nat}{y:Str}{m:M Rv}(h:XE K X e m)(hs:gU e (some (.Name y p)) pos.line X.env=pure false:=by rfl):XS K X (.Assign [.Name y p] e pos) (dSet i m):=⟨fun hk hn zv s σ H tg F ρ x ρ' I G em=>by
 rcases ao2 (qg.mp em) with em | ⟨_,_,_,em⟩
 ·exact wpAny_Assign_Name (bC (h.go hk hn zv s σ H tg F ρ x ρ' I G (j4.mpr em)) (fun _ _ z=>z.elim) fun _ _ z=>z) hs
 ·cases em⟩
theorem azn{m:M Bool}{g k:Sd}{ss':List iJ}(h:ET K X c m)(hm:NoX m)(h1:XSs K X ss g)(h2:XSs K X ss' k):XS K X (.If c ss ss' pos) (dIf m g k):=⟨fun hk hn zv s σ H tg F ρ x ρ' I G em=>by
 rcases ao2 (qg.mp em) with em | ⟨z,ρ1,e1,em⟩
 ·exact absurd em (hm _ _ _)
 ·refine wpAny_If (bC (h.go hk zv s σ H (fun b H1=>b=z/\∃F1,Good K tg F1 H1 ρ1 σ/\Ext (Own ρ σ) (Own ρ1 σ) F H F1 H1) I ⟨tg,F,ρ,z,ρ1,G,e1,fun H' F' G' x=>⟨rfl,F',G',x⟩⟩) (fun d s1 ⟨H1,I1,hz,F1,G1,x1⟩ =>?_) fun e s1 q=>by rw[hn] at q;exact q.elim)
  subst hz;cases d with
  | true=>exact bC (h1.go hk hn zv s1 σ H1 tg F1 ρ1 x ρ' I1 G1 (qg.mpr em)) (fun _ _ z=>z.elim) fun _ _ z=>z.back x1
  | false=>exact bC (h2.go hk hn zv s1 σ H1 tg F1 ρ1 x ρ' I1 G1 (qg.mpr em)) (fun _ _ z=>z.elim) fun _ _ z=>z.back x1⟩
def CX1(P:cA)(w:dJ):CXT:=fun outer H s E e s'=>∃H' a C dx ch,e=.ref a/\s'.os=s.os/\qN s'.gens/\Un (frs outer) [] H H' s.heap s'.heap/\HOk P w H' s'.heap /\
 (∀L',FlyAt s'.heap a C dx ch L')/\(∀b∈ch,s.heap.get? b=none/\H' b=none)/\E (.ref C) dx H'
def spX(K:Fg9)(n:Nat)(f:Fd):Sp:=fun vs H _ E=>vs.length=n/\∃F as x ps,Good K (tgOf (vs.map some)) F H as (vs.map some)/\f as=some (.exc x,ps) /\
 ∀C dx H' F' O',Same F' H'->Ext (Own as (vs.map some)) O' F H F' H'->Fin K F' H' (vs.map some) ps O'->ClsOk K x.cls C->a2v F' dx x.fs->E (.ref C) dx H'
def DfnX(P:cA)(w:dJ)(K:Fg9)(mg:Str->Option aD)(base:fK)(x:Str)(ps:List Str)(k:Nat)(sp:Sp):Prop :=
 ∃(f:aX) (fd:fJ),FnOk P w K mg base (CX1 P w) k f fd ps sp/\mg x=some (.ref f)/\oA K (.ref f)=true/\Binds K fd ps []
theorem a1f{f:Fd}{js:List (Option Nat)}{ms:M (List (Option D))}{ρ ρ':Ro}{x:Exn}(h:mFn f js ms ρ=some (.exc x,ρ')) :
  ms ρ=some (.exc x,ρ')∨∃ds ρ1 ps,ms ρ=some (.ok ds,ρ1)/\okJs ρ1 js=true/\f (lend ρ1 js ds)=some (.exc x,ps)/\ρ'=putB ρ1 js ps:=by
 rcases su h with h | ⟨ds,ρ1,e1,em⟩
 ·exact .inl h
 ·split at em
  ·rename_i hj;split at em
   ·cases em
   ·rename_i y ps e2;cases em;exact .inr ⟨ds,ρ1,ps,e1,hj,e2,rfl⟩
   ·cases em
  ·cases em
theorem arj{f:Fd}{n k:Nat}{x:Str}{pn:List Str}{js:List (Option Nat)}{ms:M (List (Option D))}(F:DfnX X.prog X.w X.K X.mg X.base x pn k (spX K n f))(hr:Room k X.A)(hg:Gl X x)(ha:EG K X (e::es) js ms)(hxa:XA K X (e::es) ms)(hn:js.length=n:=by rfl)(hdb:(x==("__debug__" : Str))=false:=by decide)
  (he:aQ (e::es) X.env=(false,eval e X.env)::aQ es X.env:=by rfl) (hpl:(jD pos (aQ es X.env)).any (·.1)=false:=by rfl):XE K X (.Call (.Name x p) (e::es) [] pos) (mFn f js ms):=⟨fun hk hno zv s σ H tg F0 ρ y ρ' I G em=>by
 obtain⟨fa,fd,Fo,hm,hkp,hb⟩:=F;refine wpAny_Call_Name_kw (aa8 I hg hm ?_ hdb);rcases a1f (j4.mp em) with em | ⟨ds,ρ1,ps,e1,hj,e2,rfl⟩
 ·exact oE (h₀:=X.base) I.ok.mod.kin hkp (bC (hxa.go pos hk hno zv s σ H tg F0 ρ y ρ' I G (j4.mpr em)) (fun _ _ z=>z.elim) fun _ _ z=>z) he hpl
 ·refine oE (h₀:=X.base) I.ok.mod.kin hkp (bC (ha.go hk pos zv s σ H (fun vs H1=>∃F1,Good K tg F1 H1 ρ1 σ/\Ext (Own ρ σ) (Own ρ1 σ) F0 H F1 H1/\AR K F1 σ js ds vs) I ⟨tg,F0,ρ,ds,ρ1,G,e1,fun vs H1 F1 G1 x1 ar=>⟨F1,G1,x1,ar⟩⟩) (fun us s1 ⟨vs,H1,I1,r,F1,G1,x1,ar⟩=>⟨I1.kIn,?_⟩) fun e s1 q=>by rw[hno] at q;exact q.elim) he hpl
  have L:=ar.lent;have hl:(us++[]).length=pn.length:=by
   rw[gM,<-r.length];exact Fo.len vs H1 (fun _ _=>True) (fun _ _ _=>True) ⟨by rw[ar.length];exact hn,F1,_,y,ps,aa7 G1 hj L,e2,fun _ _ _ _ _ _ _ _ _ _=>trivial⟩
  have hbn:=hb s1 us I1.kIn hl;rw[gM] at hbn;refine mV (jU (Fo.run X.A X.stack s1 H1 ⟨[]++us,[]⟩ us vs (fun _ _=>False) (fun cv dx H2=>∃C F2,cv=.ref C/\Good K tg F2 H2 (putB ρ1 js ps) σ/\Ext (Own ρ σ) (Own (putB ρ1 js ps) σ) F0 H F2 H2/\ClsOk K y.cls C/\a2v F2 dx y.fs) hr I1.env0 hbn r
   ⟨by rw[ar.length];exact hn,F1,_,y,ps,aa7 G1 hj L,e2,fun C dx H2 F2 O2 s2 x2 fin hc hf=>⟨C,F2,rfl,adp G1 L x2 s2 fin,x1.trans (ae9 G1 L x2),hc,hf⟩⟩) fun r s' hq =>?_)
  cases r with
  | ok fl =>
   cases fl with
   | ret u=>obtain⟨_,_,_,_,_,_,_,z⟩:=hq;exact z.elim
   | next=>exact fU hq
   | brk=>exact fU hq
   | cont=>exact fU hq
  | error er =>
   obtain⟨H',a,C,dx,ch,rfl,os,bare,un,hok,fl,hch,C',F2,ce,G2,x2,hc,hf⟩:=hq;cases ce;exact⟨σ,H',F2,I1.call' os un hok bare (fun b z=>absurd z (by simp)),G2,x2,a,C,dx,ch,rfl,hc,hf,fl _,fun b hb=>Inv.fpX I1 (hch b hb).1 (hch b hb).2⟩⟩
end
theorem fn_x{K:Fg9}{P:cA}{w:dJ}{mg:Str->Option aD}{base:fK}{x qual:Str}{st:iJ}{f:aX}{fd:fJ}{N ps:List Str}{k nl np:Nat}{g:Sd}(F:Fun K x qual st f fd)(S:FnScope N ps (ao st))(h1:N.length=nl)(h2:ps.length=np)
  (body:∀(cdv:aD) (A:cW) (outer:List Env) (s:aH) (H:Hp) (E:XK),Room k (A.deeper (pO qual (ao st) s.heap.objs.size f cdv))->XSs K (cxOf CX0 P w K mg base N qual (ao st) f cdv A outer s H E).nox (ie st) g) :
  FnOk P w K mg base (CX1 P w) (k+1) f fd ps (spX K np (fnD nl np g)):=by
 subst h1 h2;obtain⟨oc,od,kV,doc,pm,an,cdv,ct,osl,rfl,lk,hcd⟩:=F.ex;refine a6f lk hcd S (fun vs H Q E h=>h.1) fun A outer s H vs Q E hr hsp =>?_
 obtain⟨hn,F0,as,y,ps',G,em,q⟩:=hsp;have hl:as.length=(vs.map some).length:=G.len;have G1:=G.app (N.length - vs.length);have es:start N vs=vs.map some++aV (N.length - vs.length) none:=rfl;unfold fnD at em;rw[<-hn] at em;have fin:∀{ρ':Ro} {σ':L2.St} {F' H':Hp},Good K (tgOf (vs.map some)) F' H' ρ' σ'->Fin K F' H' (vs.map some) (ρ'.take vs.length) (Own ρ' σ'):=fun{ρ' σ' F' H'} G'=>⟨fun i l e=>by
  have hi:=(aK.mp e).1;rw[gC] at hi;rw[lQ (by omega)] at e
  obtain⟨o,ho,a,ws,rfl,hf,hh,hl,ht⟩:=G'.at e;rw[ht i rfl];exact⟨⟨i,⟨_,_,e⟩,ho⟩,hf,ws,hh,hl⟩⟩
 refine⟨fun _ σ0 H0=>σ0=start N vs/\H0=H,fun zv s1 σ0 H0 D I hs =>?_,rfl,rfl⟩
 obtain⟨hs1,hs2⟩:=hs;subst hs2;rw[hs1,es] at I;split at em
 ·cases em
 ·cases em
 ·rename_i y' ρ' e;cases em;have run:=(body cdv A outer s H0 E hr).go rfl rfl zv s1 _ H0 (tgOf (vs.map some)) F0 _ y ρ' (I.wish _) G1 (qg.mpr e);refine bC run (fun _ _ z=>z.elim) fun er s' z9 =>?_
  obtain⟨σ',H',F',J,G',x',a,C,dx,ch,e1,hc,hf,fl,hch⟩:=z9;subst e1;rw[zc hl] at x';show bL _ _ (leaving _ (.ref a)) _ _ s';refine a5q J.ok.frames J.stack rfl fl fun h' ch' hc' kb fl' =>?_
  have J2:=Inv.records J kb hch;have hsz:s.heap.objs.size<=s'.heap.objs.size:=J.sz;refine⟨H',a,C,dx,ch',rfl,J.os,J.bare,J2.base,J2.hok,fl',fun b hb =>?_,q C dx H' F' (Own ρ' σ') G'.sub x' (fin G') hc hf⟩
  rcases hc' b hb with z | z
  ·obtain⟨f1,_,_,f3,_⟩:=hch b z;rcases f3 with f3 | f3
   ·exact absurd (show b∈([]:List aX) from f3) (by simp)
   ·exact⟨f3,f1⟩
  ·exact⟨Heap.get?_none_of_le (cR hsz z),J.hok.fresh z⟩
 ·cases em
theorem af2{P:cA}{w:dJ}{H:Hp}{h:fK}{a:aX}{o:HO}(x:uv P w H h a o):∃ob,h.get? a=some ob:=by
 cases o with
 | lst xs=>obtain⟨_,_,_,_,e⟩:=x;exact⟨_,e⟩
 | tup xs=>obtain⟨_,_,_,ob,e,_⟩:=x;exact⟨_,e⟩
 | dK kvs=>obtain⟨_,_,_,_,o,_,_,e,_⟩:=x;exact⟨_,e⟩
 | dT kvs=>obtain⟨_,_,_,_,o,_,_,e,_⟩:=x;exact⟨_,e⟩
 | set S n=>obtain⟨o,_,_,_,e,_⟩:=x;exact⟨_,e⟩
 | ins C dx fs=>obtain⟨_,_,_,e,_⟩:=x;exact⟨_,e⟩
 | own y=>exact x
 | xd fs=>obtain⟨_,⟨_,_,_,e,_⟩,_⟩:=x;exact⟨_,e⟩
 | rng lo hi=>obtain⟨_,_,_,e⟩:=x;exact⟨_,e⟩
 | frz ob u=>exact⟨_,x.1⟩
 | tbl ps=>exact⟨_,x⟩
 | met f y=>exact⟨_,x⟩
 | ext φ=>exact x.2.1
abbrev bmV:List aD:=[.type "ValueError", .type "Exception", .type "BaseException", .type "object"]
theorem a2c{K:Fg9}{h:fK}{C:aX}{bmB:List aD}{newId:String}(X:K.In h)(q:pD K C bmB newId=true) :
  ∃bm N nm qn bs hdct sn sub ab col dd k0 k1 k2 k3 k5 mN,h.get? C=some (excClassObj nm qn C N bs bm hdct sn sub ab col dd k0 k1 k2 k3 k5 newId)/\h.Ns N mN/\mN "__init__" = none/\OwnTail h bmB bm:=by
 unfold pD at q;split at q
 ·rename_i dd cd sl ho;split at q
  ·rename_i C' bm k0 k1 k2 k3 n k5 hm hs;simp only[bG,beq_iff_eq,yG] at q;obtain⟨⟨⟨⟨⟨e1,e2⟩,e3⟩,e4⟩,e5⟩,e6⟩:=q;subst e1 e2;obtain⟨nm,bs,mro,ns,qn,hd,sn,sub,ab,col,del⟩:=cd;have hm:mro=_:=hm;have e3:del=false:=e3;subst hm e3;have z:sl = #[k0,k1,k2,k3,some (.builtin n),k5]:=yP.mp hs;subst z;exact⟨bm,ns,nm,qn,bs,hd,sn,sub,ab,col,dd,k0,k1,k2,k3,k5,h.nsMap ns,X _ _ ho,.of_isNs (rD X e5),PySem.W.nsMap_none_of_in X e5 e6,wI X e4⟩
  ·cases q
 ·cases q
def ahu(x:Exn):Sd:=fun ρ=>some (.exc x,ρ)
section
variable{K:Fg9}{X:Cx}{c:Str}{C:aX}{np cpos pos:Pos}
theorem arf(hcalm:X.calm=true)(hg:Gl X c)(hm:X.mg c=some (.ref C))(k:ClsOk X.K c C)(q:pD X.K C bmV "ValueError.__new__" = true)(hd:(c==("__debug__" : Str))=false:=by decide) :
  XS K X (.Raise (some (.Call (.Name c np) [] [] cpos)) none pos) (ahu ⟨c,[]⟩):=⟨fun hk hn zv s σ H tg F ρ x ρ' I G em=>by
 have em:=qg.mp em;cases em;subst hk;obtain⟨tl,N,nm,qn,bs,hdct,sn,sub,ab,col,dd,k0,k1,k2,k3,k5,mN,hC,hN,hni,T⟩:=a2c I.kIn q;refine wpAny_Raise_call_subU (C:=C) (nm:=nm) (q:=qn) (N:=N) (bs:=bs) (bm:=tl) (hdct:=hdct) (sn:=sn) (sub:=sub) (ab:=ab) (col:=col) (dd:=dd) (k0:=k0) (k1:=k1) (k2:=k2) (k3:=k3) (k5:=k5)
  dI (by decide +kernel) dI (mN:=mN) (T.hasType dI.hasBase) (I.ok.hd hcalm) rfl hni ?_
 refine aa8 I hg hm ⟨rfl,?_⟩ hd;refine evalArgs_empty ⟨rfl,gQ _,hC,hN,T,fun h' e hme =>?_⟩
 obtain⟨t,he,_,_⟩:=hme.there;have J:Inv X zv σ H { s with heap:=h' }:=I.kept (t':=s.toks) hme.keeps
 have hnH:H e=none:=by
  cases z:H e with
  | none=>rfl
  | some o =>
   obtain⟨ob,h1⟩:=af2 (I.hok e o z);have h2:s.heap.get? e=none:=hme.new;rw[h2] at h1;cases h1
 exact⟨σ,H,F,J,G,Ext.refl _ _ _,e,C,none,[e],rfl,k,.inl ⟨rfl,rfl⟩,⟨_,_,he,rfl,rfl,rfl,by simp,.inl ⟨rfl,rfl⟩⟩,fun b hb=>by
  obtain rfl:=bO.mp hb;exact Inv.fpX I hme.new hnH⟩⟩
end
end Dn
namespace L2
section
variable{X:Cx}{zv:List (aX×Obj)}{σ:List (Option V)}{H:Hp}{s:aH}
theorem a6k{M:vX}{A:cW}{E:aD->aH->Prop}{i:Nat}{x:Str}{v:V}{Q:Unit->aH->Prop}(I:Inv X zv σ H s)(hN:X.N.Nodup)(hi:X.N[i]? = some x)(hk:X.env.scope.names.lookup x=some .local)(hv:σ[i]? = some (some v))
  (h:∀s',Inv X zv (σ.set i none) H s'->Q () s'):bL M A (unbindName X.env x) Q E s:=by
 obtain⟨m,hn,hl⟩:=id I.loc;have hcls:(X.env.scope.kind==.class||(X.env.scope.kind==.module&&X.env.locals != X.env.globals))=false:=by rw[I.ok.kind];rfl
 have hiσ:i < σ.length:=(aK.mp hv).1;obtain⟨u,_,lk⟩:=hl i x v hi hv (.inl hk);have hmx:∃u,m x=some u:=by
  rcases lk with⟨_,e⟩ | ⟨k,_⟩
  ·exact⟨u,e⟩
  ·rcases k with k | k
   ·exact absurd (hk.symm.trans k) (by simp)
   ·exact absurd (hk.symm.trans k) (by simp)
 obtain⟨u0,hmx⟩:=hmx;refine wpAny_unbindName_local hk hn hmx hcls fun h' u' hn' hs=>h _ ?_
 have ne0:∀b o,X.s₀.heap.get? b=some o->b≠X.env.locals:=fun b o e=>bQ (cF (aR e) I.ok.above)
 refine⟨I.ok,I.os,I.bare,⟨fun b o e n hb hx=>(hs.2 b (ne0 b o e)).trans (I.base.keep b o e n hb hx),fun b o e n hb hx =>?_,I.base.free,fun b o e hx =>?_,I.base.tups,I.base.frzs,I.base.tbls⟩,⟨_,hn',fun j y v' e1 e2 e3 =>?_⟩,fun y c e =>?_,I.free,I.freeC,fun p hp =>?_,fun b ob e =>?_,by simpa using I.len⟩
 ·obtain⟨sl,e1⟩:=I.base.slot b o e n hb hx;exact⟨sl,(hs.2 b (ne0 b o e)).trans e1⟩
 ·obtain⟨o',e1⟩:=I.base.there b o e hx;exact⟨o',(hs.2 b (ne0 b o e)).trans e1⟩
 ·by_cases hj:j=i
  ·subst hj;rw[fQ hiσ] at e2;cases e2
  ·rw[fO (gG hj)] at e2;obtain⟨u',r',q⟩:=hl j y v' e1 e2 e3;refine⟨u',r',?_⟩;rcases q with⟨k,e⟩ | ⟨k,c,e,z⟩
   ·refine .inl ⟨k,?_⟩;have:y≠x:=fun e=>hj (air hN e1 (e▸hi))
    simp[this,e]
   ·exact .inr ⟨k,c,e,z.sameBut hs (I.cne y c e)⟩
 ·obtain⟨w',z⟩:=I.cell y c e;exact⟨w',z.sameBut hs (I.cne y c e)⟩
 ·obtain⟨e,n,ne,nf,d⟩:=I.pin p hp;exact⟨(hs.2 p.1 ne).trans e,n,ne,nf,d⟩
 ·have nL:∀c z,H c=some z->c≠X.env.locals:=fun c z q w=>by
   have:=I.free;rw[<-w,q] at this;cases this
  refine(I.hok b ob e).stay (fun c w' hc q=>(hs.2 c ?_).trans q) (fun _ q=>q) fun _ _ q=>q
  rcases hc with z | z
  ·rw[z];exact nL b ob e
  ·exact nL c _ z
end
section
variable{M:vX}{A:cW}{E:aD->aH->Prop}{s:aH}
theorem azs{fs:List aX}{a C:aX}{dx:Option aX}{ch:List aX}{L:aX}{Q:Unit->aH->Prop}(x:FlyAt s.heap a C dx ch L)(hT:ch≠[a])
  (h:∀h',KeptBut fs ch s.heap h'->(∀L',FlyAt h' a C dx ch L')->h'.get? a=s.heap.get? a->Q () { s with heap:=h' }):bL M A (setFlight (.ref a) none) Q E s:=by
 obtain⟨oe,vs,he,hc,hdx,hd,hsz,⟨_,e⟩ | ⟨T,oT,ts,fl,rfl,h1,hTa,hT,hdT,h3,hfl⟩⟩:=x.obj
 ·exact absurd e hT
 ·unfold setFlight;refine aA (eF he hd h1 ?_);rw[if_pos (show(dF T != cU)=true from by simp)]
  have hsz3:3 < ts.size:=(fL.mp h3).1;refine fV hT hdT hsz3 (h _ (KeptBut.upd.sub (by simp)) (fun L'=>⟨oe,vs,(bK _ _ hTa).trans he,hc,hdx,hd,hsz,.inr ⟨T,_,_,.none,rfl,h1,hTa,cH _ hT (fB (bV hdT _)),bV hdT _,by simp[hsz3],.inl rfl⟩⟩) (bK _ _ hTa))
theorem atb{base:fK}{env:Env}{outer:List Env}{L a C:aX}{dx:Option aX}{ch:List aX}{Q:Unit->aH->Prop}
  (hfr:A.frames=some (env::outer)) (hl:s.heap.FunFrames base (env::outer)) (hf:env.frame=some L) (x:FlyAt s.heap a C dx ch L)
  (h:∀h' ch',ch'≠[a]->(∀b∈ch',b∈ch∨s.heap.objs.size<=b)->KeptBut (frs (env::outer)) ch s.heap h'->(∀L',FlyAt h' a C dx ch' L')->Q () { s with heap:=h' }) :
  bL M A (noteFrame (.ref a) env) (fun _ s'=>bL M A (setFlight (.ref a) none) Q E s') E s:=by
 refine a4y hfr hl hf x fun h' T oT ts oe vs hT k e1 e2 e3 e4 e5 e6 e7 e8 e9 e10 =>?_
 unfold setFlight;refine aA (eF e1 e4 e6 ?_);rw[if_pos (show(dF T != cU)=true from by simp)]
 have hsz3:3 < ts.size:=(fL.mp e10).1;refine fV e8 e9 hsz3 (h _ [a,T] (by simp) (fun b hb =>?_) ?_ fun L'=>⟨oe,vs,(bK _ _ e7).trans e1,e2,e3,e4,e5,.inr ⟨T,_,_,.none,rfl,e6,e7,cH _ e8 (fB (bV e9 _)),bV e9 _,by simp[hsz3],.inl rfl⟩⟩)
 ·have:b=a∨b=T:=by simpa using hb
  rcases this with rfl | rfl
  ·exact .inl x.fresh
  ·exact hT
 ·rcases hT with hT | hT
  ·exact k.trans (KeptBut.upd.sub (by simp[hT]))
  ·refine⟨fun b o n1 n2 e =>?_,fun b o n e =>?_⟩
   ·rw[bK _ _ fun z=>absurd (aR e) (by rw[<-z];exact oX.mpr hT)]
    exact k.keep b o n1 n2 e
   ·obtain⟨sl,q⟩:=k.slot b o n e;exact⟨sl,by rw[bK _ _ fun z=>absurd (aR e) (by rw[<-z];exact oX.mpr hT)];exact q⟩
structure CatK (K:Fg9) (B:aX):Prop where
 cls:(lY K B).isSome=true
 ty:qU K (.ref B)=some (.type "type")
 base:gW K (.ref B) (.type "BaseException")=some true
theorem aw4{K:Fg9}{a C B:aX}{oe:Obj}{b:Bool}{Q:Bool->aH->Prop}(X:K.In s.heap)(k:CatK K B)(he:s.heap.get? a=some oe)(hc:oe.cls=.ref C)(hs:gW K (.ref C) (.ref B)=some b)(h:Q b s):bL M A (excMatches (.ref a) (.ref B)) Q E s:=by
 obtain⟨hp,g,d,tk,os⟩:=s;have L0:kW M hp (isInstance (.ref B) (.type "tuple")) false:=(PySem.W.looks_typeIn X k.ty).andThen (vG (by rw[isSubtype_type];kernel_rfl))
 have L1:kW M hp (isType (.ref B)) true:=by
  have z:=k.cls;unfold lY at z;split at z
  ·rename_i c' d' cd' sl' ho;intro A' Q' E' s' kk q;unfold isType loadHead;exact aA (wpAny_loadPart (kk _ _ (X _ _ ho)) (aG q))
  ·cases z
 have L2:=vV (M:=M) X k.base;have L3:=vV (M:=M) X hs;have L4:kW M hp (isExcClass (.ref B)) true:=L1.andThen (by rw[if_pos rfl];exact L2)
 have L5:kW M hp (typeOf (.ref a)) (.ref C):=(PySem.W.Looks.ld he).andThen (vG (by rw[hc]))
 unfold excMatches;refine aA (L0.at ?_);simp only[mL,if_false];refine aA (aG ?_);simp only[qH,uF];refine aA (aA (aA (L4.at ?_)));rw[if_neg (by simp)]
 refine aG (aG (aA (L5.at (aA (aA (aA (L3.at ?_)))))));cases b with
 | true =>
  rw[if_pos rfl];exact aG (aG (aG h))
 | false =>
  rw[if_neg cX];exact aG (aG (aG h))
end
end L2
namespace Dn
open L2 Mn
def aiw(c0 c:Str):Bool:=c0==c||c == "ArrowError" || c == "ValueError"
def clsAt(K:Fg9)(c:Str):Option aX:=match nsIn K bA c with
 | some (some (.ref C))=>some C
 | _=>none
def ah4(K:Fg9)(ns:List Str):Bool:=ns.all fun c0=>match clsAt K c0 with
 | some C0=>(ns.all fun c=>match clsAt K c with
  | some C=>gY K (.ref C0) (.ref C)==some (aiw c0 c)
  | none=>false)&&gY K (.ref C0) (.type "ValueError")==some true
 | none=>false
theorem adk{K:Fg9}{c:Str}{C:aX}(h:nsIn K bA c=some (some (.ref C))):clsAt K c=some C:=by
 unfold clsAt;rw[h]
theorem ano{K:Fg9}{ns:List Str}{c0 c:Str}{C0 C:aX}(h:ah4 K ns=true)(h0:ns.contains c0=true)(h1:ns.contains c=true)(e0:nsIn K bA c0=some (some (.ref C0)))(e1:nsIn K bA c=some (some (.ref C))) :
  gY K (.ref C0) (.ref C)=some (aiw c0 c):=by
 have z:=dD.mp h c0 (dZ.mp h0);rw[adk e0] at z;have z1:=dD.mp (vO.mp z).1 c (dZ.mp h1);rw[adk e1] at z1;exact beq_iff_eq.mp z1
theorem az2{K:Fg9}{ns:List Str}{c0:Str}{C0:aX}(h:ah4 K ns=true)(h0:ns.contains c0=true)(e0:nsIn K bA c0=some (some (.ref C0))):gY K (.ref C0) (.type "ValueError")=some true:=by
 have z:=dD.mp h c0 (dZ.mp h0);rw[adk e0] at z;exact beq_iff_eq.mp (vO.mp z).2
def gIsC(ns:List Str)(c:Str):D->Option D
 | .exn c0 _=>if ns.contains c0 then some (.bl (aiw c0 c)) else none
 | _=>none
def mIsC(ns:List Str)(c:Str)(m:M D):M D:=m.bind fun d=>lift (gIsC ns c d)
section
variable{K:Fg9}{X:Cx}{e:dX}{pos p:Pos}
theorem alj{X:Cx}{cv:aD}{cV:V}(rc:∀u,RelV cV u->u=cv):abn X (.builtin "isinstance") (fun xs H Q=>∃F c0 fs x b,xs=[x,cV]/\Same F H/\Is X.K F (.exn c0 fs) x/\(∀C0,nsIn X.K bA c0=some (some (.ref C0))->gY X.K (.ref C0) cv=some b)/\Q (.bl b) H):=by
 intro zv s σ H xs us Q I r z9;obtain⟨F,c0,fs,x,b,e,g,h,hk1,q⟩:=z9;subst e;obtain⟨u,w',rfl,r1,r2⟩:=vals2 r;obtain rfl:=rc w' r2;have fin:∀tk,EP X zv σ Q (.bool b) { s with toks:=tk }:=fun tk=>⟨.bl _,H,I.tok tk,rfl,q⟩
 cases h with
 | @exn a C c dx fs e hc hk hf =>
  cases(show u=dF a from r1)
  obtain⟨⟨oe,ws,h1,h2,h3,h4⟩,_⟩:=(show uv X.prog X.w H s.heap a (.ext (exO a C dx)) from I.hok a _ (g _ _ e))
  have hno:jP oe=true:=by unfold jP;rw[h4]
  have ia:∃ox od,gJ s.heap a ox C od:=by
   rcases hf with⟨rfl,_⟩ | ⟨d,rfl,hd⟩
   ·exact⟨oe,none,h1,h2,hno,by rw[h3];trivial⟩
   ·obtain⟨mA,⟨od,_,_,e1,_⟩,_⟩:=(show uv X.prog X.w H s.heap d (.xd _) from I.hok d _ (g _ _ hd))
    exact⟨oe,some od,h1,h2,hno,by rw[h3];exact e1⟩
  exact eH (aoh hk) I.kIn ia (hk1 C hc) (fun z=>nomatch z) fin
theorem azc{F H:Hp}{d:D}{v:V}{ns:List Str}{c:Str}{r:D}(b:Bor K F H d v)(e:gIsC ns c d=some r):∃c0 fs,d=.exn c0 fs/\Is K F (.exn c0 fs) v/\ns.contains c0=true/\r=.bl (aiw c0 c):=by
 cases d with
 | exn c0 fs =>
  have e:(if ns.contains c0 then some (D.bl (aiw c0 c)) else none)=some r:=e
  split at e
  ·rename_i hn;cases e;refine⟨c0,fs,rfl,?_,hn,rfl⟩;rcases b with b | ⟨_,_,_,z,_⟩
   ·exact b
   ·cases z
  ·cases e
 | _=>cases e
theorem a2f{ns:List Str}{c:Str}{C:aX}{m:M D}{x:Str}{pc:Pos}(sub:ah4 K ns=true)(h1:ns.contains c=true)(hgC:Gl X c)(hmC:X.mg c=some (.ref C))(hnC:nsIn K bA c=some (some (.ref C)))
  (hg:Gl X x) (hm:X.mg x=none) (hv:cD x=some (.builtin "isinstance")) (h:EB K X e m) (hdC:(c==("__debug__" : Str))=false:=by decide) (hn:x ≠ "__name__" := by decide) (hdb:(x==("__debug__" : Str))=false:=by decide)
  (h1':aQ [.Name c pc] X.env=(false,eval (.Name c pc) X.env)::aQ [] X.env:=by rfl) (he:aQ [e,.Name c pc] X.env=(false,eval e X.env)::aQ [.Name c pc] X.env:=by rfl) (hpl:(jD pos (aQ [.Name c pc] X.env)).any (·.1)=false:=by rfl) :
  EV K X (.Call (.Name x p) [e,.Name c pc] [] pos) (mIsC ns c m):=EV.mk fun hk=>by
 refine PE.imp (ac1 (alj (cv:=.ref C) (cV:=.ref C) fun u r=>r) hg hm hv (mj (h hk) (mj (asx (v:=.ref C) hgC hmC rfl hdC) aa6 h1') he) hn hdb he hpl) fun σ H Q z9 =>?_
 obtain⟨tg,F,ρ,d,ρ',G,em,q⟩:=z9;obtain⟨d1,ρ1,e1,em⟩:=bj em;obtain⟨e2,rfl⟩:=gk em;subst hk;refine⟨tg,F,ρ,d1,_,G,e1,fun v H' F' G' x bv =>?_⟩
 obtain⟨c0,fs,rfl,hi,h0,rfl⟩:=azc bv e2;exact⟨F',c0,fs,v,_,rfl,G'.sub,hi,fun C0 e0=>ano sub h0 h1 e0 hnC,q _ H' F' G' x (.bl _)⟩
theorem auq{ns:List Str}{m:M D}{x:Str}{pc:Pos}(sub:ah4 K ns=true)(hgC:Gl X "ValueError")(hmC:X.mg "ValueError" = none)(hvC:cD "ValueError" = some (.type "ValueError"))
  (hg:Gl X x) (hm:X.mg x=none) (hv:cD x=some (.builtin "isinstance")) (h:EB K X e m) (hn:x ≠ "__name__" := by decide) (hdb:(x==("__debug__" : Str))=false:=by decide)
  (h1':aQ [.Name "ValueError" pc] X.env=(false,eval (.Name "ValueError" pc) X.env)::aQ [] X.env:=by rfl) (he:aQ [e,.Name "ValueError" pc] X.env=(false,eval e X.env)::aQ [.Name "ValueError" pc] X.env:=by rfl) (hpl:(jD pos (aQ [.Name "ValueError" pc] X.env)).any (·.1)=false:=by rfl) :
  EV K X (.Call (.Name x p) [e,.Name "ValueError" pc] [] pos) (mIsC ns "ValueError" m):=EV.mk fun hk=>by
 refine PE.imp (ac1 (alj (cv:=.type "ValueError") (cV:=.ty "ValueError") fun u r=>r) hg hm hv (mj (h hk) (mj (aj1 hgC hmC hvC) aa6 h1') he) hn hdb he hpl) fun σ H Q z9 =>?_
 obtain⟨tg,F,ρ,d,ρ',G,em,q⟩:=z9;obtain⟨d1,ρ1,e1,em⟩:=bj em;obtain⟨e2,rfl⟩:=gk em;subst hk;refine⟨tg,F,ρ,d1,_,G,e1,fun v H' F' G' x bv =>?_⟩
 obtain⟨c0,fs,rfl,hi,h0,rfl⟩:=azc bv e2;refine⟨F',c0,fs,v,aiw c0 "ValueError", rfl,G'.sub,hi,fun C0 e0 =>?_,q _ H' F' G' x (.bl _)⟩
 rw[az2 sub h0 e0];simp[aiw]
end
theorem adm:cD "ValueError" = some (.type "ValueError"):=by decide +kernel
@[simp] theorem a9b(ns:List Str)(c:Str)(m:M D)(ρ:Ro):mIsC ns c m ρ=(m.bind fun d=>lift (gIsC ns c d)) ρ:=rfl
@[simp] theorem a7r(ns:List Str)(c c0:Str)(fs:List (Str×Int)):gIsC ns c (.exn c0 fs)=if ns.contains c0 then some (.bl (aiw c0 c)) else none:=rfl
end Dn
namespace L2
structure RoomU (k:Nat) (A:cW):Prop where
 dp:A.depth+3*k+5 < recursionLimit
 un:A.units+16*k+200 < cLine
 gd:A.guards=some []
theorem RoomU.mono{j k:Nat}{A:cW}(r:RoomU k A)(h:j<=k):RoomU j A:=⟨by have:=r.dp;omega,by have:=r.un;omega,r.gd⟩
theorem RoomU.deeper{k:Nat}{A:cW}(r:RoomU (k+1) A)(env:Env):RoomU k (A.deeper env) :=
 ⟨by have:=r.dp;show A.depth+1+3*k+5 < _;omega,by have:=r.un;show A.units+3+16*k+200 < _;omega,r.gd⟩
theorem RoomU.depth{k:Nat}{A:cW}(r:RoomU k A):A.depth < recursionLimit:=by have:=r.dp;omega
theorem RoomU.units{k:Nat}{A:cW}(r:RoomU k A):A.units+64 < cLine:=by have:=r.un;omega
theorem Room.mark{k:Nat}{A:cW}(r:Room k A)(e:aD):RoomU k (A.mark (some e)):=⟨r.dp,r.un,r.gd⟩
def cxU(P:cA)(w:dJ)(K:Fg9)(mg:Str->Option aD)(base:fK)(N:List Str)(qual:Str)(scope:pC)(f:aX)(cd:aD)(A:cW)(outer:List Env)(s:aH)(H:Hp):Cx :=
 { (cxOf CX0 P w K mg base N qual scope f cd A outer s H E0).nox with calm:=false }
structure FnOkU (P:cA) (w:dJ) (K:Fg9) (mg:Str->Option aD) (base:fK) (k:Nat) (f:aX) (fd:fJ) (ps:List Str) (sp:Sp):Prop where
 len:∀vs H Q E,sp vs H Q E->vs.length=ps.length
 run:∀(A:cW) (outer:List Env) (s:aH) (H:Hp) (args:Args) (us:List aD) (vs:List V) (Q:VK),RoomU k A->Env0 P w K mg base A outer s H->nH s fd args (ps.zip us)->Vals vs us->sp vs H Q E0 ->
  pB (bU P w) A (.call (.ref f) args) (CR CX0 outer P w H s Q E0) s
theorem Fun.okU{P:cA}{w:dJ}{K:Fg9}{mg:Str->Option aD}{base:fK}{x qual:Str}{st:iJ}{f:aX}{fd:fJ}{N ps:List Str}{k:Nat}{sp:Sp}(F:Fun K x qual st f fd)(S:FnScope N ps (ao st))(len:∀vs H Q E,sp vs H Q E->vs.length=ps.length)
  (hbody:∀(cdv:aD) (A:cW) (outer:List Env) (s:aH) (H:Hp) (vs:List V) (Q:VK),RoomU k (A.deeper (pO qual (ao st) s.heap.objs.size f cdv))->sp vs H Q E0 ->
   ∃t,PSs (cxU P w K mg base N qual (ao st) f cdv A outer s H) (ie st) t/\t { nx:=fun _ H'=>Q .non H',rt:=Q } (start N vs) H):FnOkU P w K mg base (k+1) f fd ps sp:=by
 obtain⟨oc,od,kV,doc,pm,an,cdv,ct,osl,rfl,lk,hcd⟩:=F.ex;refine⟨len,fun A outer s H args us vs Q hr e0 hb r hsp =>?_⟩
 have hl:=len _ _ _ _ hsp;have KX:K.In s.heap:=e0.mod.kin.keeps fun b o e=>(e0.bs b o e).1
 have lim:s.heap.NoLimit:=e0.mod.nolimit.keeps fun b o e=>(e0.bs b o e).1
 have hkind:∀y∈ps.zip us,(ao st).names.lookup y.1=some .local∨((ao st).names.lookup y.1=some .cell/\((cellsFrom (s.heap.objs.size+1) (ao st).names []).lookup y.1).isSome=true):=fun y hy=>by
  rcases S.par y.1 (qD hy).1 with q | q
  ·exact .inl q
  ·exact .inr ⟨q,pU _ _ _ (.inl q)⟩
 refine codeAny_call_function hr.depth (KX _ _ lk) rfl S.co S.gen rfl (wK KX hcd) (hb _ _ _ _ ?_);refine wpAny_newFunctionEnv_cells S.kind hkind fun env he s1 x =>?_
 subst he;refine⟨lim.keeps x.toInCall.keep,codeAny_func ?_⟩;obtain⟨t,ht,hq⟩:=hbody cdv A outer s H vs Q (hr.deeper _) hsp;have e1:Env0 P w K mg base { A with handled:=none } outer s H:=⟨e0.frames,e0.mod,e0.bs,e0.bsz,e0.funs,e0.frf,e0.hok,e0.bare⟩
 have J:Inv (cxOf CX0 P w K mg base N qual (ao st) f cdv { A with handled:=none } outer s H E0) [] (start N vs) H s1:=aks S rfl e1 hl r x
 have I:Inv (cxU P w K mg base N qual (ao st) f cdv A outer s H) [] (start N vs) H s1 :=
  ⟨⟨J.ok.mod,J.ok.kind,J.ok.glob,J.ok.blt,J.ok.above,J.ok.inj,J.ok.has,J.ok.cab,(fun z=>absurd z cX),vP e0.frames,J.ok.stk,J.ok.exf,J.ok.bs,J.ok.bsz,J.ok.noex,J.ok.exfs,J.ok.funs,J.ok.frf⟩,J.os,J.bare,J.base,J.loc,J.cell,J.free,J.freeC,J.pin,J.hok,J.len⟩
 refine bC (ht [] s1 (start N vs) H _ I hq) (fun fl s' hs =>?_) fun e s' hs=>fU hs
 have fin:∀{σ':St} {H':Hp} {v:V} {u:aD},Inv (cxU P w K mg base N qual (ao st) f cdv A outer s H) [] σ' H' s'->RelV v u->Q v H'->CE outer P w H s Q u s' :=
  fun{σ' H' v u} J rv q=>⟨v,H',J.os,J.bare,J.base,J.hok,rv,q⟩
 cases fl with
 | ret u =>
  obtain⟨v,σ',H',J,rv,q⟩:=hs;exact fin J rv q
 | next =>
  obtain⟨σ',H',J,q⟩:=hs;exact fin (v:=V.non) (u:=cU) J rfl q
 | brk =>
  obtain⟨_,_,_,q⟩:=hs;exact fU q
 | cont =>
  obtain⟨_,_,_,q⟩:=hs;exact fU q
def DfnU(P:cA)(w:dJ)(K:Fg9)(mg:Str->Option aD)(base:fK)(x:Str)(ps:List Str)(k:Nat)(sp:Sp):Prop :=
 ∃(f:aX) (fd:fJ),FnOkU P w K mg base k f fd ps sp/\mg x=some (.ref f)/\oA K (.ref f)=true/\Binds K fd ps []
theorem a4i{X:Cx}{x:Str}{ps:List Str}{k:Nat}{sp:Sp}{e:dX}{es:List dX}{t:TA}{p pos:Pos}(F:DfnU X.prog X.w X.K X.mg X.base x ps k sp)(hr:RoomU k X.A)(hg:Gl X x)(ha:PA X (e::es) t)(hdb:(x==("__debug__" : Str))=false:=by decide)
  (he:aQ (e::es) X.env=(false,eval e X.env)::aQ es X.env:=by rfl) (hpl:(jD pos (aQ es X.env)).any (·.1)=false:=by rfl):PE X (.Call (.Name x p) (e::es) [] pos) (azy sp [] E0 t):=by
 obtain⟨f,fd,F,hm,hk,hb⟩:=F;intro zv s σ H Q I h;refine wpAny_Call_Name_kw (aa8 I hg hm ?_ hdb);refine oE (h₀:=X.base) I.ok.mod.kin hk (thn (ha pos zv s σ H _ I h) fun us s1 ⟨vs,H1,I1,r,q⟩=>⟨I1.kIn,?_⟩) he hpl
 have q:sp (vs++[]) H1 Q E0:=q;rw[gM] at q;have hl:(us++[]).length=ps.length:=by rw[gM,<-r.length];exact F.len _ _ _ _ q
 have hbn:=hb s1 us I1.kIn hl;rw[gM] at hbn;refine mV (jU (F.run X.A X.stack s1 H1 ⟨[]++us,[]⟩ us vs Q hr I1.env0 hbn r q) fun r s' hq =>?_)
 cases r with
 | error e=>exact fU hq
 | ok fl =>
  cases fl with
  | ret u=>exact I1.after hq
  | next=>exact fU hq
  | brk=>exact fU hq
  | cont=>exact fU hq
end L2
namespace Dn
open L2 Mn
theorem aur{K:Fg9}{X:Cx}{e:dX}{es:List dX}{pos p:Pos}{f:Fd}{n k:Nat}{x:Str}{pn:List Str}{js:List (Option Nat)}{ms:M (List (Option D))}(F:DfnU X.prog X.w X.K X.mg X.base x pn k (spOf K n f))(hr:RoomU k X.A)(hg:Gl X x)(ha:EG K X (e::es) js ms)(hn:js.length=n:=by rfl)(hdb:(x==("__debug__" : Str))=false:=by decide)
  (he:aQ (e::es) X.env=(false,eval e X.env)::aQ es X.env:=by rfl) (hpl:(jD pos (aQ es X.env)).any (·.1)=false:=by rfl):ER K X (.Call (.Name x p) (e::es) [] pos) (mFn f js ms):=ER.mk fun hk=>PE.imp (a4i F hr hg (ha hk) hdb he hpl) fun σ H Q z9=>by
 obtain⟨tg,F,ρ,r,ρ',G,em,q⟩:=z9;obtain⟨ds,ρ1,ps,e1,hj,e2,rfl⟩:=ayz em;refine⟨tg,F,ρ,ds,ρ1,G,e1,fun vs H1 F1 G1 x1 ar =>?_⟩
 have L:=ar.lent;show spOf K n f (vs++[]) H1 Q E0;rw[gM];refine⟨by rw[ar.length];exact hn,F1,_,r,ps,aa7 G1 hj L,e2,fun v H' F' O' s' x' fin rr =>?_⟩
 exact q v H' F' (adp G1 L x' s' fin) (x1.trans (ae9 G1 L x')) (lg x1 (apc G1 L fin rr))
theorem aul{K:Fg9}{P:cA}{w:dJ}{mg:Str->Option aD}{base:fK}{x qual:Str}{st:iJ}{f:aX}{fd:fJ}{N ps:List Str}{k nl np:Nat}{g:Sd}(F:Fun K x qual st f fd)(S:FnScope N ps (ao st))(h1:N.length=nl)(h2:ps.length=np)
  (body:∀(cdv:aD) (A:cW) (outer:List Env) (s:aH) (H:Hp),RoomU k (A.deeper (pO qual (ao st) s.heap.objs.size f cdv))->SVs K (cxU P w K mg base N qual (ao st) f cdv A outer s H) (ie st) g) :
  FnOkU P w K mg base (k+1) f fd ps (spOf K np (fnD nl np g)):=by
 subst h1 h2;refine F.okU S (fun vs H Q E h=>h.1) fun cdv A outer s H vs Q hr h=>⟨_,body cdv A outer s H hr rfl,?_⟩
 obtain⟨hn,F,as,r,ps',G,em,q⟩:=h;have hl:as.length=(vs.map some).length:=G.len;have G1:=G.app (N.length - vs.length);have es:start N vs=vs.map some++aV (N.length - vs.length) none:=rfl;rw[es];unfold fnD at em;rw[<-hn] at em;have fin:∀{ρ':Ro} {σ':L2.St} {F' H':Hp},Good K (tgOf (vs.map some)) F' H' ρ' σ'->Fin K F' H' (vs.map some) (ρ'.take vs.length) (Own ρ' σ'):=fun{ρ' σ' F' H'} G'=>⟨fun i l e=>by
  have hi:=(aK.mp e).1;rw[gC] at hi;rw[lQ (by omega)] at e
  obtain⟨o,ho,a,ws,rfl,hf,hh,hl,ht⟩:=G'.at e;rw[ht i rfl];exact⟨⟨i,⟨_,_,e⟩,ho⟩,hf,ws,hh,hl⟩⟩
 split at em
 ·rename_i r' ρ' e;cases em;refine⟨_,F,_,.ret r,ρ',G1,e,fun v σ' H' F' G' x' rr =>?_⟩
  rw[zc hl] at x' rr;exact q v H' F' (Own ρ' σ') G'.sub x' (fin G') rr
 ·rename_i ρ' e;cases em;refine⟨_,F,_,.nx,ρ',G1,e,fun σ' H' F' G' x' =>?_⟩
  rw[zc hl] at x';exact q .non H' F' (Own ρ' σ') G'.sub x' (fin G') .non
 ·cases em
 ·cases em
def cxH(X:Cx)(ev:aD):Cx:={ X with A:=X.A.mark (some ev),calm:=false }
section
variable{K:Fg9}{X:Cx}{zv:List (aX×Obj)}{σ:L2.St}{H:Hp}{s:aH}{tg:Nat->aX}{F:Hp}{ρ:Ro}
theorem Inv.hnd(I:Inv X zv σ H s)(ev:aD):Inv (cxH X ev) zv σ H s :=
 ⟨⟨I.ok.mod,I.ok.kind,I.ok.glob,I.ok.blt,I.ok.above,I.ok.inj,I.ok.has,I.ok.cab,(fun z=>absurd z cX),I.ok.frames,I.ok.stk,I.ok.exf,I.ok.bs,I.ok.bsz,I.ok.noex,I.ok.exfs,I.ok.funs,I.ok.frf⟩,I.os,I.bare,I.base,I.loc,I.cell,I.free,I.freeC,I.pin,I.hok,I.len⟩
theorem Inv.unhnd{ev:aD}(hd:X.calm=true->X.A.handled=none)(I:Inv (cxH X ev) zv σ H s):Inv X zv σ H s :=
 ⟨⟨I.ok.mod,I.ok.kind,I.ok.glob,I.ok.blt,I.ok.above,I.ok.inj,I.ok.has,I.ok.cab,hd,I.ok.frames,I.ok.stk,I.ok.exf,I.ok.bs,I.ok.bsz,I.ok.noex,I.ok.exfs,I.ok.funs,I.ok.frf⟩,I.os,I.bare,I.base,I.loc,I.cell,I.free,I.freeC,I.pin,I.hok,I.len⟩
theorem Inv.track{a:aX}{o:HO}(I:Inv X zv σ H s)(f:FpX X zv H a)(new:uv X.prog X.w (upd H a o) s.heap a o):Inv X zv σ (upd H a o) s:=by
 have ne:∀b z,H b=some z->b≠a:=fun b z q w=>by rw[w,f.1] at q;cases q
 refine⟨I.ok,I.os,I.bare,⟨I.base.keep,I.base.slot,fun b o' e n hx =>?_,I.base.there,fun b xs q =>?_,fun b ob u q =>?_,fun b ps q =>?_⟩,I.loc,I.cell,?_,fun x c e =>?_,fun p hp =>?_,fun b u e =>?_,I.len⟩
 ·rw[bw (fun w=>by
   rcases f.2.2.2.1 with z | z
   ·exact hx (w▸z)
   ·rw[w,z] at e;cases e)]
  exact I.base.free b o' e n hx
 ·have:=I.base.tups b xs q;rw[bw (ne _ _ this)];exact this
 ·have:=I.base.frzs b ob u q;rw[bw (ne _ _ this)];exact this
 ·obtain⟨more,h1⟩:=I.base.tbls b ps q;exact⟨more,by rw[bw (ne _ _ h1)];exact h1⟩
 ·rw[bw (gG f.2.1)];exact I.free
 ·rw[bw (f.2.2.2.2.1 x c e)];exact I.freeC x c e
 ·obtain⟨h1,h2,h3,h4,h5⟩:=I.pin p hp;exact⟨h1,by rw[bw (f.2.2.2.2.2 p hp)];exact h2,h3,h4,h5⟩
 ·by_cases hb:b=a
  ·subst hb;rw[dh] at e;cases e;exact new
  ·rw[bw hb] at e;refine(I.hok b u e).stay (fun c v _ q=>q) (fun c q =>?_) fun c xs q =>?_
   ·rw[bw (ne _ _ q)];exact q
   ·rw[bw (ne _ _ q)];exact q
theorem ap2{i:Nat}{a:aX}{σ':L2.St}(hs:∀j,j≠i->σ'[j]? = σ[j]?)(h:Own (bR ρ i .emp) σ' a):Own ρ σ a:=by
 obtain⟨j,⟨t,l,e⟩,q⟩:=h;rw[bJ] at e
 by_cases hj:i=j
 ·subst hj;rw[if_pos rfl] at e;split at e <;> cases e
 ·rw[if_neg hj] at e;exact⟨j,⟨t,l,e⟩,by rw[<-hs j (gG hj)];exact q⟩
theorem Good.forget(G:Good K tg F H ρ σ)(i:Nat):Good K tg F H (bR ρ i .emp) (bR σ i none) where
 sub:=G.sub
 len:=by rw[cZ,cZ];exact G.len
 sl:=fun j s o e q=>by
  rw[bJ] at e q
  by_cases hj:i=j
  ·subst hj;rw[if_pos rfl] at e;split at e
   ·cases e;trivial
   ·cases e
  ·rw[if_neg hj] at e q;exact G.sl j s o e q
 inj:=fun j k a ⟨⟨t,l,e⟩,q⟩ ⟨⟨t',l',e'⟩,q'⟩=>by
  have f:∀{j t l},(bR ρ i Sl.emp)[j]? = some (Sl.own t l)->i≠j:=fun{j t l} e z=>by
   subst z;rw[bJ,if_pos rfl] at e;split at e <;> cases e
  have n1:=f e;have n2:=f e';rw[bJ,if_neg n1] at e q;rw[bJ,if_neg n2] at e' q';exact G.inj j k a ⟨⟨t,l,e⟩,q⟩ ⟨⟨t',l',e'⟩,q'⟩
theorem Ext.less{O O' O2:aX->Prop}{F H F' H':Hp}(x:Ext O O' F H F' H')(h:∀a,O2 a->O' a):Ext O O2 F H F' H':=⟨x.sub,x.new,x.keep,fun a z=>x.own a (h a z),x.there⟩
theorem asl{O O' O2:aX->Prop}{F' H H':Hp}{r:Rv}{v:V}(x:relR K r v H O F' H' O')(h:∀a,O2 a->O' a):relR K r v H O F' H' O2:=by
 cases r with
 | v d=>exact x
 | fr l =>
  obtain⟨a,vs,e1,e2,e3,e4,e5,e6⟩:=x;exact⟨a,vs,e1,e2,e3,e4,e5,fun z=>e6 (h a z)⟩
 | tf d l =>
  obtain⟨t,u,a,vs,e0,e1,e2,e3,e4,e5,e6,e7⟩:=x;exact⟨t,u,a,vs,e0,e1,e2,e3,e4,e5,e6,fun z=>e7 (h a z)⟩
end
def dTry(ns:List Str)(gb:Sd)(i:Nat)(gh:Sd):Sd:=fun ρ=>match gb ρ with
 | some (.exc x,ρ1)=>if ns.contains x.cls then match gh (bR ρ1 i (.val (.exn x.cls x.fs))) with
   | some (.exc _,_)=>none
   | some (fl,ρ2)=>some (fl,bR ρ2 i .emp)
   | none=>none
  else none
 | r=>r
structure CatN (K:Fg9) (B:aX):Prop extends CatK K B where
 ns:nsIn K bA "ArrowError" = some (some (.ref B))
 self:gW K (.ref B) (.ref B)=some true
theorem apq{K:Fg9}{C B:aX}(k:CatN K B)(h:gY K (.ref C) (.ref B)=some true):gW K (.ref C) (.ref B)=some true:=by
 by_cases e:C=B
 ·rw[e];exact k.self
 ·have h1:(if (dF C==dF B)=true then some true else zG K (.ref C) (.ref B))=some true:=h
  rw[if_neg (fun z=>e (zL (beq_iff_eq.mp z)))] at h1
  have h2:(if ((lY K B).isSome&&qU K (.ref B)==some (.type "type"))=true then gW K (.ref C) (.ref B) else none)=some true:=h1
  split at h2
  ·exact h2
  ·cases h2
def bao(K:Fg9)(tg:Nat->aX)(ρ:Ro)(σ:L2.St)(F H:Hp)(ρ2:Ro)(fl:Fl):Ends where
 nx:=fun σ6 H6=>fl=.nx/\∃F6,Good K tg F6 H6 ρ2 σ6/\Ext (Own ρ σ) (Own ρ2 σ6) F H F6 H6
 bk:=fun σ6 H6=>fl=.brk/\∃F6,Good K tg F6 H6 ρ2 σ6/\Ext (Own ρ σ) (Own ρ2 σ6) F H F6 H6
 ct:=fun σ6 H6=>fl=.cont/\∃F6,Good K tg F6 H6 ρ2 σ6/\Ext (Own ρ σ) (Own ρ2 σ6) F H F6 H6
 rt:=fun v H6=>∃r σ6 F6,fl=.ret r/\Good K tg F6 H6 ρ2 σ6/\Ext (Own ρ σ) (Own ρ2 σ6) F H F6 H6/\relR K r v H (Own ρ σ) F6 H6 (Own ρ2 σ6)
section
variable{K:Fg9}{X:Cx}{pos hpos bp:Pos}{n:Str}{B:aX}{i:Nat}{b₀:iJ}{body suite:List iJ}{ns:List Str}{gb gh:Sd}
theorem a3h(hcalm:X.calm=true)(hno:X.xe=fun _ _=>False)(hfr:X.env.frame=some X.env.locals)(hst:X.stack=X.env::X.outer)(hN:X.N.Nodup)(hi:X.N[i]? = some n)(hk0:X.env.scope.names.lookup n=some .local)
  (hgB:Gl X "ArrowError") (hmB:X.mg "ArrowError" = some (.ref B)) (cat:CatN K B) (sub:ah4 K ns=true) (hB:ns.contains "ArrowError" = true) (hb:SVs K X body gb) (hx:XSs K X body gb) (hh:∀ev,SVs K (cxH X ev) (b₀::suite) gh) :
  SV K X (.Try body [.ExceptHandler (some (.Name "ArrowError" bp)) (some n) (b₀::suite) hpos] [] [] pos) (dTry ns gb i gh):=SV.mk fun hk zv s σ H E I z9=>by
 obtain⟨tg,F,ρ,fl,ρ',G,em,q⟩:=z9;refine wpAny_Try_except ?_;unfold dTry at em;split at em
 ·rename_i x ρ1 e1;split at em
  ·rename_i hc0;split at em
   ·cases em
   ·rename_i fl' ρ2 hne e2;cases em;refine bC (hx.go hk hno zv s σ H tg F ρ x ρ1 I G (qg.mpr e1)) (fun _ _ z=>z.elim) fun er s1 z9 =>?_
    obtain⟨σ1,H1,F1,I1,G1,x1,a,C,dx,ch,ea,hc,hf,fly,hch⟩:=z9;subst ea;have hl1:=I1.stack;rw[hst] at hl1;refine atb (by rw[<-hst];exact I1.ok.frames) hl1 hfr fly fun h2 ch2 hne2 hch2 kb2 fly2 =>?_
    rw[<-hst] at kb2;have I2:=Inv.records I1 kb2 hch;have fp2:∀b∈ch2,FpX X zv H1 b:=fun b hb=>by
     rcases hch2 b hb with z | z
     ·exact hch b z
     ·exact Inv.fpX I1 (iV z) (I1.hok.fresh z)
    obtain⟨oe,vs,he,hcl,_⟩:=(fly2 X.env.locals).obj;have hsub:=apq cat (by have z:=ano sub hc0 hB hc.ns cat.ns;rw[z];simp[aiw])
    refine wpAny_handleBy_cons (codeAny_handlers_test (aa8 (X:=cxH X (.ref a)) (Inv.hnd I2 _) hgB hmB ?_ (by decide))) (by intro z;cases z)
    refine aw4 (hk▸I2.kIn) cat.toCatK he hcl hsub ?_;refine codeAny_handlers_suite_as ?_;refine azs (fs:=frs X.stack) (fly2 X.env.locals) hne2 fun h3 kb3 fly3 ha3 =>?_
    have I3:=Inv.records I2 kb3 fp2;obtain⟨oe3,vs3,he3,hcl3,hdx3,hd3,_⟩:=(fly3 X.env.locals).obj;have fa:FpX X zv H1 a:=fp2 a (fly2 X.env.locals).fresh;have I4:=Inv.track (o:=.ext (exO a C dx)) I3 fa ⟨⟨oe3,vs3,he3,hcl3,hdx3,hd3⟩,⟨oe3,he3⟩,fun g1 g2 ⟨o,vs',h1,h2,h3,h4⟩ kp=>⟨o,vs',kp o h1,h2,h3,h4⟩⟩
    have G4:=G1.new fa.1 (.ext (exO a C dx));have x4:=G1.newX fa.1 (.ext (exO a C dx));have isE:Is K (upd F1 a (.ext (exO a C dx))) (.exn x.cls x.fs) (.ref a):=.exn dh hc.ns hc.ok (hf.imp id fun⟨d,h1,h2⟩=>⟨d,h1,x4.sub _ _ h2⟩)
    obtain⟨G5,x5⟩:=G4.storeV i isE;refine aez I4 hN hi (.inl hk0) (v:=.ref a) rfl (fun s5 I5 =>?_) (.inr hk0)
    have hx5:=(x1.trans x4).trans x5;have back:∀{f:Flow} {s6:aH} {σ6:L2.St} {H6:Hp},Inv (cxH X (.ref a)) zv σ6 H6 s6->(∀s7,Inv X zv (bR σ6 i none) H6 s7->SP X zv E f s7) ->
      bL (bU X.prog X.w) X.A (do bindName X.env n .none;unbindBehindTheSuite X.env n hpos) (fun _ s7=>SP X zv E f s7) X.xe s6:=fun{f s6 σ6 H6} I6 fin=>by
     have I6:=Inv.unhnd I.ok.hd I6;refine aA (wpAny_bindName (aez I6 hN hi (.inl hk0) (v:=.non) rfl (fun s7 I7 =>?_) (.inr hk0)))
     unfold unbindBehindTheSuite;refine wpAny_onRaise (a6k I7 hN hi hk0 (v:=.non) (fQ (by rw[I6.len];exact(aK.mp hi).1)) fun s8 I8=>fin s8 ?_)
     rw[List.set_set] at I8;exact I8
    refine bC ((hh (.ref a)).go hk zv s5 _ _ (bao K tg ρ σ F H ρ2 fl) (Inv.hnd I5 (.ref a))
      ⟨tg,_,_,fl,ρ2,G5,e2,?_⟩) (fun f s6 hs =>?_) fun _ _ z=>by
       have z:X.xe _ _:=z;rw[hno] at z;exact z.elim
    ·cases fl with
     | nx=>exact fun σ6 H6 F6 G6 x6=>⟨rfl,F6,G6,hx5.trans x6⟩
     | brk=>exact fun σ6 H6 F6 G6 x6=>⟨rfl,F6,G6,hx5.trans x6⟩
     | cont=>exact fun σ6 H6 F6 G6 x6=>⟨rfl,F6,G6,hx5.trans x6⟩
     | ret r=>exact fun v σ6 H6 F6 G6 x6 rr=>⟨r,σ6,F6,rfl,G6,hx5.trans x6,lg hx5 rr⟩
     | exc y=>exact(hne y rfl).elim
    ·have sub6:∀(σ6:L2.St) (a:aX),Own (bR ρ2 i .emp) (bR σ6 i none) a->Own ρ2 σ6 a:=fun σ6 a z=>ap2 (fun j hj=>fO (gG hj)) z
     cases f with
     | next =>
      obtain⟨σ6,H6,I6,rfl,F6,G6,x6⟩:=hs;exact back I6 fun s7 I7=>⟨_,H6,I7,q _ H6 F6 (G6.forget i) (x6.less (sub6 σ6))⟩
     | brk =>
      obtain⟨σ6,H6,I6,rfl,F6,G6,x6⟩:=hs;exact back I6 fun s7 I7=>⟨_,H6,I7,q _ H6 F6 (G6.forget i) (x6.less (sub6 σ6))⟩
     | cont =>
      obtain⟨σ6,H6,I6,rfl,F6,G6,x6⟩:=hs;exact back I6 fun s7 I7=>⟨_,H6,I7,q _ H6 F6 (G6.forget i) (x6.less (sub6 σ6))⟩
     | ret u =>
      obtain⟨v,σ6,H6,I6,rv,r,σ6',F6,rfl,G6,x6,rr⟩:=hs;exact back I6 fun s7 I7=>⟨v,_,H6,I7,rv,q v _ H6 F6 (G6.forget i) (x6.less (sub6 σ6')) (asl rr (sub6 σ6'))⟩
   ·cases em
  ·cases em
 ·rename_i hn;refine bC (hb.go hk zv s σ H E I ⟨tg,F,ρ,fl,ρ',G,em,q⟩) (fun f s1 z =>?_) fun er s1 z=>by rw[hno] at z;exact z.elim
  cases f with
  | next=>exact wpAny_execs_nil z
  | ret v=>exact z
  | brk=>exact z
  | cont=>exact z
end
def okS{α:Type}(m:M α):M α:=fun ρ=>match m ρ with
 | some (.ok a,ρ1)=>some (.ok a,ρ1)
 | _=>none
def dOk(g:Sd):Sd:=fun ρ=>match g ρ with
 | some (.exc _,_)=>none
 | r=>r
@[simp] theorem bav{α:Type}(m:M α)(ρ:Ro):okS m ρ=match m ρ with
 | some (.ok a,ρ1)=>some (.ok a,ρ1)
 | _=>none:=rfl
@[simp] theorem ba6(g:Sd)(ρ:Ro):dOk g ρ=match g ρ with
 | some (.exc _,_)=>none
 | r=>r:=rfl
theorem ake{α:Type}{m:M α}{ρ ρ':Ro}{o:Out α}(h:okS m ρ=some (o,ρ')):m ρ=some (o,ρ')/\∃a,o=.ok a:=by
 unfold okS at h;split at h
 ·rename_i a ρ1 e;cases h;exact⟨e,a,rfl⟩
 ·cases h
theorem au2{g:Sd}{ρ ρ':Ro}{fl:Fl}(h:dOk g ρ=some (fl,ρ')):g ρ=some (fl,ρ')/\∀x,fl≠.exc x:=by
 unfold dOk at h;split at h
 ·cases h
 ·rename_i hn;exact⟨h,fun x e=>hn x ρ' (by rw[h,e])⟩
theorem vz{α:Type}{m:M α}:NoX (okS m):=fun ρ x ρ' h=>by
 obtain⟨_,a,e⟩:=ake h;cases e
theorem atc{g:Sd}:NoS (dOk g):=fun ρ x ρ' h=>(au2 h).2 x rfl
section
variable{K:Fg9}{X:Cx}{e a b c:dX}{es:List dX}{pos p:Pos}{st:iJ}{ss:List iJ}
theorem SV.s{g:Sd}(h:SV K X st g):SV K X st (dOk g):=SV.mk fun hk=>PS.imp (h.go hk) fun E σ H ⟨tg,F,ρ,fl,ρ',G,em,q⟩=>⟨tg,F,ρ,fl,ρ',G,(au2 em).1,q⟩
theorem EV.s{m:M D}(h:EV K X e m):EV K X e (okS m):=EV.mk fun hk=>PE.imp (h.go hk) fun σ H Q ⟨tg,F,ρ,d,ρ',G,em,q⟩=>⟨tg,F,ρ,d,ρ',G,(ake em).1,q⟩
theorem ER.s{m:M Rv}(h:ER K X e m):ER K X e (okS m):=ER.mk fun hk=>PE.imp (h.go hk) fun σ H Q ⟨tg,F,ρ,d,ρ',G,em,q⟩=>⟨tg,F,ρ,d,ρ',G,(ake em).1,q⟩
theorem ET.s{m:M Bool}(h:ET K X e m):ET K X e (okS m):=ET.mk fun hk=>fun zv s σ H Q I ⟨tg,F,ρ,d,ρ',G,em,q⟩=>h.go hk zv s σ H Q I ⟨tg,F,ρ,d,ρ',G,(ake em).1,q⟩
theorem EG.s{js:List (Option Nat)}{m:M (List (Option D))}(h:EG K X es js m):EG K X es js (okS m):=EG.mk fun hk=>PA.imp (h.go hk) fun σ H Q ⟨tg,F,ρ,d,ρ',G,em,q⟩=>⟨tg,F,ρ,d,ρ',G,(ake em).1,q⟩
theorem av0{x:Exn}:SV K X st (ahu x):=SV.mk fun _=>PS.imp aie fun E σ H z9=>by
 obtain⟨tg,F,ρ,fl,ρ',G,em,q⟩:=z9;cases em;exact(show False from q).elim
theorem aji{g:Sd}:XS K X st (dOk g):=XS.no atc
theorem XE.d{m:M Rv}(h:XE K X e m):XE K X e m.d:=⟨fun hk hn zv s σ H tg F ρ x ρ' I G em=>by
 rcases su (j4.mp em) with em | ⟨_,_,_,em⟩
 ·exact h.go hk hn zv s σ H tg F ρ x ρ' I G (j4.mpr em)
 ·cases em⟩
theorem XE.v{m:M D}(h:XE K X e m):XE K X e m.v:=⟨fun hk hn zv s σ H tg F ρ x ρ' I G em=>by
 rcases su (j4.mp em) with em | ⟨_,_,_,em⟩
 ·exact h.go hk hn zv s σ H tg F ρ x ρ' I G (j4.mpr em)
 ·cases em⟩
theorem ag8{α:Type}{l:α}:XA K X [] (ret l):=XA.no fun ρ x ρ' h=>by cases h
theorem xa_v{m:M D}{js:List (Option Nat)}{ms:M (List (Option D))}(h:EV K X e m)(hx:XE K X e m)(t:XA K X es ms)(hs:aQ (e::es) X.env=(false,eval e X.env)::aQ es X.env:=by rfl):XA K X (e::es) (dg m ms):=⟨fun pos hk hn zv s σ H tg F ρ x ρ' I G em=>by
 rw[hs];refine oJ ?_;rcases su (j4.mp em) with em | ⟨d,ρ1,e1,em⟩
 ·exact bC (hx.go hk hn zv s σ H tg F ρ x ρ' I G (j4.mpr em)) (fun _ _ z=>z.elim) fun _ _ z=>z
 ·rcases su em with em | ⟨_,_,_,em⟩
  ·refine bC (h.go hk zv s σ H (fun _ H1=>∃F1,Good K tg F1 H1 ρ1 σ/\Ext (Own ρ σ) (Own ρ1 σ) F H F1 H1) I ⟨tg,F,ρ,d,ρ1,G,e1,fun v H1 F1 G1 x1 _=>⟨F1,G1,x1⟩⟩) (fun u s1 ⟨v,H1,I1,_,F1,G1,x1⟩ =>?_) fun e s1 q=>by rw[hn] at q;exact q.elim
   exact bC (t.go pos hk hn zv s1 σ H1 tg F1 ρ1 x ρ' I1 G1 (j4.mpr em)) (fun _ _ z=>z.elim) fun _ _ z=>z.back x1
  ·cases em⟩
theorem xa_n{j:Nat}{ms:M (List (Option D))}(h:PE X e (tVar j))(t:XA K X es ms)(hs:aQ (e::es) X.env=(false,eval e X.env)::aQ es X.env:=by rfl):XA K X (e::es) (gj j ms):=⟨fun pos hk hn zv s σ H tg F ρ x ρ' I G em=>by
 rw[hs];refine oJ ?_;rcases su (j4.mp em) with em1 | ⟨d,ρ1,e1,em2⟩
 ·exfalso;unfold dq at em1;split at em1 <;> cases em1
 ·obtain⟨hρ,v,hv,_⟩:=qx G e1;rw[hρ] at em2;rcases su em2 with em3 | ⟨_,_,_,em3⟩
  ·refine bC (h zv s σ H (fun _ H1=>H1=H) I ⟨v,hv,rfl⟩) (fun u s1 ⟨_,H1,I1,_,e⟩ =>?_) fun e s1 q=>by rw[hn] at q;exact q.elim
   subst e;exact bC (t.go pos hk hn zv s1 σ H1 tg F ρ x ρ' I1 G (j4.mpr em3)) (fun _ _ z=>z.elim) fun _ _ z=>z
  ·cases em3⟩
theorem ari{m:M D}{ms:M (List D)}(h:EV K X e m)(hx:XE K X e m)(t:XA K X es ms)(hs:aQ (e::es) X.env=(false,eval e X.env)::aQ es X.env:=by rfl):XA K X (e::es) (aq m ms):=⟨fun pos hk hn zv s σ H tg F ρ x ρ' I G em=>by
 rw[hs];refine oJ ?_;rcases su (j4.mp em) with em | ⟨d,ρ1,e1,em⟩
 ·exact bC (hx.go hk hn zv s σ H tg F ρ x ρ' I G (j4.mpr em)) (fun _ _ z=>z.elim) fun _ _ z=>z
 ·rcases su em with em | ⟨_,_,_,em⟩
  ·refine bC (h.go hk zv s σ H (fun _ H1=>∃F1,Good K tg F1 H1 ρ1 σ/\Ext (Own ρ σ) (Own ρ1 σ) F H F1 H1) I ⟨tg,F,ρ,d,ρ1,G,e1,fun v H1 F1 G1 x1 _=>⟨F1,G1,x1⟩⟩) (fun u s1 ⟨v,H1,I1,_,F1,G1,x1⟩ =>?_) fun e s1 q=>by rw[hn] at q;exact q.elim
   exact bC (t.go pos hk hn zv s1 σ H1 tg F1 ρ1 x ρ' I1 G1 (j4.mpr em)) (fun _ _ z=>z.elim) fun _ _ z=>z.back x1
  ·cases em⟩
end
section
variable{K:Fg9}{X:Cx}{e:dX}{es:List dX}{pos p:Pos}
end
def ClsT(K:Fg9)(mg:Str->Option aD)(c:Str):Prop:=∃C,mg c=some (.ref C)/\ClsOk K c C
def RaiT(K:Fg9)(mg:Str->Option aD)(c:Str):Prop:=∃C,mg c=some (.ref C)/\ClsOk K c C/\pD K C bmV "ValueError.__new__" = true
def CatT(K:Fg9)(mg:Str->Option aD):Prop:=∃B,mg "ArrowError" = some (.ref B)/\CatN K B
section
variable{K:Fg9}{X:Cx}{e:dX}{pos p np cpos hpos bp:Pos}{c:Str}
theorem ara(hk:X.K=K)(hcalm:X.calm=true)(hg:Gl X c)(h:RaiT K X.mg c)(hd:(c==("__debug__" : Str))=false:=by decide):XS K X (.Raise (some (.Call (.Name c np) [] [] cpos)) none pos) (ahu ⟨c,[]⟩):=by
 obtain⟨C,hm,k,q⟩:=h;subst hk;exact arf hcalm hg hm k q hd
theorem jn{ns:List Str}{m:M D}{x:Str}{pc:Pos}(sub:ah4 K ns=true)(h1:ns.contains c=true)(hgC:Gl X c)(hC:ClsT K X.mg c)(hg:Gl X x)(hm:X.mg x=none)(hv:cD x=some (.builtin "isinstance"))(h:EB K X e m)
  (hdC:(c==("__debug__" : Str))=false:=by decide) (hn:x ≠ "__name__" := by decide) (hdb:(x==("__debug__" : Str))=false:=by decide)
  (h1':aQ [.Name c pc] X.env=(false,eval (.Name c pc) X.env)::aQ [] X.env:=by rfl) (he:aQ [e,.Name c pc] X.env=(false,eval e X.env)::aQ [.Name c pc] X.env:=by rfl) (hpl:(jD pos (aQ [.Name c pc] X.env)).any (·.1)=false:=by rfl) :
  EV K X (.Call (.Name x p) [e,.Name c pc] [] pos) (mIsC ns c m):=by
 obtain⟨C,hmC,k⟩:=hC;exact a2f sub h1 hgC hmC k.ns hg hm hv h hdC hn hdb h1' he hpl
theorem az0{n:Str}{i:Nat}{b₀:iJ}{body suite:List iJ}{ns:List Str}{gb gh:Sd}(hcalm:X.calm=true)(hno:X.xe=fun _ _=>False)(hfr:X.env.frame=some X.env.locals)(hst:X.stack=X.env::X.outer)(hN:X.N.Nodup)(hi:X.N[i]? = some n)(hk0:X.env.scope.names.lookup n=some .local)
  (hgB:Gl X "ArrowError") (hB:CatT K X.mg) (sub:ah4 K ns=true) (hB2:ns.contains "ArrowError" = true) (hb:SVs K X body gb) (hx:XSs K X body gb) (hh:∀ev,SVs K (cxH X ev) (b₀::suite) gh) :
  SV K X (.Try body [.ExceptHandler (some (.Name "ArrowError" bp)) (some n) (b₀::suite) hpos] [] [] pos) (dTry ns gb i gh):=by
 obtain⟨B,hm,cat⟩:=hB;exact a3h hcalm hno hfr hst hN hi hk0 hgB hm cat sub hB2 hb hx hh
end
@[simp] theorem a6l(x:Exn)(ρ:Ro):ahu x ρ=some (.exc x,ρ):=rfl
def a2d(K:Fg9)(C:aX):Bool:=(lM K (.ref C) "__getattribute__" == some (some (.builtin "BaseException.__getattribute__")))&&(lM K (.ref C) "__getattr__" == some none)&&(kJ K C (.type "BaseException")==some true)&&kO K C&&(lM K (.ref C) "__class__" == some (some (.builtin "object.__class__")))&&(mX K (.builtin "object.__class__") "__get__" == some (some (.builtin "getset_descriptor.__get__"))) &&
 (pY K (.builtin "object.__class__")==some true)&&(kJ K C (.type "object")==some true)&&["int","bool","tuple","list","str","dict"].all fun T=>gW K (.ref C) (.type T)==some false
theorem axy{K:Fg9}{C:aX}(h:a2d K C=true):ExcK K C:=by
 unfold a2d at h;simp only[bG,beq_iff_eq] at h;obtain⟨⟨⟨⟨⟨⟨⟨⟨h0,h1⟩,h8⟩,h2⟩,h3⟩,h4⟩,h5⟩,h6⟩,h7⟩:=h;exact⟨h0,h1,h8,h2,h3,h4,h5,h6,fun T hT=>beq_iff_eq.mp (dD.mp h7 T hT)⟩
def ale(K:Fg9)(ns:List Str):Bool:=ns.all fun c=>match clsAt K c with
 | some C=>a2d K C
 | none=>false
def ayq(K:Fg9)(ns:List Str):Bool:=ns.all fun c=>match clsAt K c with
 | some C=>pD K C bmV "ValueError.__new__"
 | none=>false
def catB(K:Fg9):Bool:=match clsAt K "ArrowError" with
 | some B=>kO K B&&(qU K (.ref B)==some (.type "type"))&&(gW K (.ref B) (.type "BaseException")==some true)&&(gW K (.ref B) (.ref B)==some true)
 | none=>false
theorem ae8{K:Fg9}{c:Str}{C:aX}(h:clsAt K c=some C):nsIn K bA c=some (some (.ref C)):=by
 unfold clsAt at h;split at h
 ·rename_i C' e;cases h;exact e
 ·cases h
section
variable{K:Fg9}{h:fK}{mg:Str->Option aD}{ns:List Str}{c:Str}
theorem qi(X:K.In h)(G:h.Ns bA mg)(e:ale K ns=true)(hc:ns.contains c=true):ClsT K mg c:=by
 have z:=dD.mp e c (dZ.mp hc);split at z
 ·rename_i C q;exact⟨C,mg_of X G (ae8 q),ae8 q,axy z⟩
 ·cases z
theorem aa5{rs:List Str}(X:K.In h)(G:h.Ns bA mg)(e:ale K ns=true)(hc:ns.contains c=true)(e2:ayq K rs=true)(hr:rs.contains c=true):RaiT K mg c:=by
 obtain⟨C,h1,h2⟩:=qi X G e hc;have z:=dD.mp e2 c (dZ.mp hr);rw[adk h2.ns] at z;exact⟨C,h1,h2,z⟩
theorem a2n(X:K.In h)(G:h.Ns bA mg)(e:catB K=true):CatT K mg:=by
 unfold catB at e;split at e
 ·rename_i B q;simp only[bG,beq_iff_eq] at e;obtain⟨⟨⟨h1,h2⟩,h3⟩,h4⟩:=e;obtain⟨cd,hc,_⟩:=jM h1;exact⟨B,mg_of X G (ae8 q),⟨by rw[hc];rfl,h2,h3⟩,ae8 q,h4⟩
 ·cases e
end
section
variable{K:Fg9}{X:Cx}{a b e:dX}{pos:Pos}{m1:M D}{m2 m:M Rv}
def aw5(m1:M D)(m2:M Rv):M Rv:=m1.bind fun d=>m2.bind fun r=>match r with
 | .v d2=>ret (.v (.tup [d,d2]))
 | .fr l=>ret (.tf d l)
 | .tf _ _=>lift none
@[simp] theorem a69(ρ:Ro):aw5 m1 m2 ρ=(m1.bind fun d=>m2.bind fun r=>match r with
 | .v d2=>ret (.v (.tup [d,d2]))
 | .fr l=>ret (.tf d l)
 | .tf _ _=>lift none) ρ:=rfl
theorem a2g{k}(h1:EV K X a m1)(h2:ER K X b m2)(hs1:aQ [a,b] X.env=(false,eval a X.env)::aQ [b] X.env:=by rfl)(hs2:aQ [b] X.env=(false,eval b X.env)::aQ [] X.env:=by rfl):ER K X (.Tuple [a,b] k pos) (aw5 m1 m2) :=
 ER.mk fun hk=>PE.imp (ayv (mj (h1 hk) (mj (h2 hk) aa6 hs2) hs1)) fun σ H Q z9=>by
 obtain⟨tg,F,ρ,r,ρ',G,em,q⟩:=z9;obtain⟨d,ρ1,e1,em⟩:=bj em;obtain⟨r2,ρ2,e2,em⟩:=bj em;refine⟨tg,F,ρ,d,ρ1,G,e1,fun v1 H1 F1 G1 x1 i1=>⟨tg,F1,ρ1,r2,ρ2,G1,e2,fun v2 H2 F2 G2 x2 i2=>⟨by rw[fY];show 2<=16777216;decide,fun p hp =>?_⟩⟩⟩
 have hnp:=Same.new (G2.freeF hp) (.tup [v1,v2]);have i1:Is K F1 d v1:=i1;cases r2 with
 | v d2 =>
  obtain⟨rfl,rfl⟩:=jy em;have i2:Is K F2 d2 v2:=i2;exact q _ _ _ (G2.new hp _) ((x1.trans x2).trans (G2.newX hp _)) (.tup dh (.cons ((i1.mono x2.sub).mono hnp) (.cons (i2.mono hnp) .nil)))
 | fr l =>
  obtain⟨rfl,rfl⟩:=jy em;obtain⟨c,vs,rfl,hc,hf,hh,hl,hn⟩:=lg (r:=.fr l) x1 i2;have hcp:c≠p:=fun z=>by rw[z,hp] at hh;cases hh
  exact q _ _ _ (G2.new hp _) ((x1.trans x2).trans (G2.newX hp _)) ⟨p,v1,c,vs,rfl,dh,(i1.mono x2.sub).mono hnp,hc,by rw[bw hcp];exact hf,by rw[bw hcp];exact hh,hl.mono hnp,hn⟩
 | tf d l=>cases em
theorem azo{k}(h:XA K X [a,b] (aq m1 (aq (M.d m2) mNil))):XE K X (.Tuple [a,b] k pos) (aw5 m1 m2):=⟨fun hk hn zv s σ H tg F ρ x ρ' I G em=>by
 have e:aq m1 (aq (M.d m2) mNil) ρ=some (.exc x,ρ'):=by
  rcases su (j4.mp em) with em | ⟨d,ρ1,e1,em⟩
  ·unfold aq M.bind;rw[em]
  ·rcases su em with em | ⟨r,ρ2,e2,em⟩
   ·unfold aq M.d M.bind;rw[e1];simp only[em]
   ·cases r <;> cases em
 exact wpAny_Tuple_spliced (bC (h.go pos hk hn zv s σ H tg F ρ x ρ' I G (j4.mpr e)) (fun _ _ z=>z.elim) fun _ _ z=>z)⟩
def a2j(i j:Nat)(m:M Rv):Sd:=dM m fun r ρ=>match r with
 | .tf d l=>some (.nx,bR (bR ρ i (.val d)) j (.own none l))
 | .v (.tup [d,d2])=>some (.nx,bR (bR ρ i (.val d)) j (.val d2))
 | _=>none
theorem az1{i j:Nat}{x y:Str}{px py pt:Pos}{kt:Nat}(hc:X.calm=true)(hN:X.N.Nodup)(hi:X.N[i]? = some x)(hj:X.N[j]? = some y)(hx:Loc X.env.scope x)(hy:Loc X.env.scope y)(h:ER K X e m)
  (hfx:X.fn x=true∨X.env.scope.names.lookup x=some .local:=by first | exact .inl rfl | exact .inr rfl | assumption) (hfy:X.fn y=true∨X.env.scope.names.lookup y=some .local:=by first | exact .inl rfl | exact .inr rfl | assumption)
  (hs:swapsWithSole [.Tuple [.Name x px,.Name y py] kt pt] e pos.line X.env=pure false:=by rfl) (hw:swappedStores [.Tuple [.Name x px,.Name y py] kt pt] e X.env=pure none:=by rfl)
  (h1:(dU [.Tuple [.Name x px,.Name y py] kt pt] X.env).map (·.2)=[mZ (.Tuple [.Name x px,.Name y py] kt pt) X.env]:=by rfl)
  (hs2:(dU [.Name x px,.Name y py] X.env).map (·.2)=mZ (.Name x px) X.env::(dU [.Name y py] X.env).map (·.2):=by rfl)
  (hs3:(dU [.Name y py] X.env).map (·.2)=mZ (.Name y py) X.env::(dU [] X.env).map (·.2):=by rfl)
  (hn:(dU [.Name x px,.Name y py] X.env).length=2:=by rfl) (hst:(dU [.Name x px,.Name y py] X.env).findIdx? (·.1)=none:=by rfl) :
  SV K X (.Assign [.Tuple [.Name x px,.Name y py] kt pt] e pos) (a2j i j m):=SV.mk fun hk=>PS.imp (anw (h hk) (asw hc (acy (afy hN hi hx hfx) (acy (afy hN hj hy hfy) amd hs3) hs2) hn hst) hs hw h1) fun E σ H ⟨tg,F,ρ,fl,ρ',G,em,q⟩=>ww em q fun r ρ1 e1 em=>by
 refine⟨tg,F,ρ,r,ρ1,G,e1,fun v H' F' G' x' rr =>?_⟩
 match r,em,rr with
 | .tf d l,em,rr =>
  obtain⟨t,u,c,vs,rfl,ht,hd,hcf,hf,hh,hl,hno⟩:=rr;cases em;obtain⟨G2,x2⟩:=G'.storeV i hd;obtain⟨G3,x3⟩:=G2.store (r:=.fr l) (x'.trans x2) j ⟨c,vs,rfl,hcf,hf,hh,hl,fun z=>by
   rcases x2.own c z with z | z
   ·exact hno z
   ·rw[hh] at z;cases z⟩
  exact⟨t,[u,.ref c],rfl,SqT.of (G'.sub _ _ ht),rfl,u,[.ref c],rfl,.ref c,[],rfl,rfl,q _ H' F' G3 x3⟩
 | .v (.tup [d,d2]),em,rr =>
  cases em;have rr:Is K F' (.tup [d,d2]) v:=rr;cases rr with
  | @tup t us ds ht hl =>
   cases hl with
   | @cons _ u _ _ hd hl =>
    cases hl with
    | @cons _ u2 _ _ hd2 hl =>
     cases hl;obtain⟨G2,x2⟩:=G'.storeV i hd;obtain⟨G3,x3⟩:=G2.storeV j hd2;exact⟨t,[u,u2],rfl,SqT.of (G'.sub _ _ ht),rfl,u,[u2],rfl,u2,[],rfl,rfl,q _ H' F' G3 ((x'.trans x2).trans x3)⟩
 | .fr _,em,_=>cases em
end
@[simp] theorem a73(i j:Nat)(m:M Rv)(ρ:Ro):a2j i j m ρ=dM m (fun r ρ=>match r with
 | .tf d l=>some (.nx,bR (bR ρ i (.val d)) j (.own none l))
 | .v (.tup [d,d2])=>some (.nx,bR (bR ρ i (.val d)) j (.val d2))
 | _=>none) ρ:=rfl
def ag4:D->Bool
 | .non | .bl _ | .int _ | .str _=>true
 | _=>false
def amf:Sl->Bool
 | .own _ l=>l.all ag4
 | _=>true
theorem Is.flat{K:Fg9}{F F2:Hp}{d:D}{v:V}(h:Is K F d v)(hd:ag4 d=true):Is K F2 d v:=by
 cases h with
 | non=>exact .non
 | bl b=>exact .bl b
 | int i=>exact .int i
 | str x=>exact .str x
 | _=>cases hd
theorem IsL.flat{K:Fg9}{F F2:Hp}:∀{l:List D} {vs:List V},IsL K F l vs->l.all ag4=true->IsL K F2 l vs
 | [],_,h,_=>by cases h;exact .nil
 | d::r,_,h,hd=>by
  rw[nP,bG] at hd;cases h with
  | cons h t=>exact .cons (h.flat hd.1) (t.flat hd.2)
def aw7(i:Nat)(m:M Rv):M Rv:=fun ρ=>match ρ[i]?,m ρ with
 | some (.own none l),some (.ok (.fr ys),ρ')=>if ys.all ag4=true/\ρ.all amf=true then some (.ok (.fr ys),ρ) else none
 | _,_=>none
def avr(i:Nat)(m:M Rv):Prop:=∀(ρ ρ':Ro) (l ys:List D),ρ[i]? = some (.own none l)->m ρ=some (.ok (.fr ys),ρ')->ρ'=bR ρ i (.val (.lst l))
theorem aql{i:Nat}{b:D->Ro->Option Ro}{mc:M Bool}{me:M D}:avr i (qz [none] (lq (mVar i)) b mc me):=fun ρ ρ' l ys ei h=>by
 obtain⟨l2,ρ1,ys2,ps,e1,_,_,_,_,rfl⟩:=aob h;obtain⟨d,ρ2,e2,e3⟩:=bj e1;obtain⟨_,rfl⟩:=gk e3;have e4:ρ1=bR ρ i (.val (.lst l)):=by
  unfold mVar at e2;rw[ei] at e2;cases e2;rfl
 rw[e4];refine iG fun j =>?_
 unfold putB;rw[nJ];cases(bR ρ i (Sl.val (.lst l)))[j]? with
 | none=>rfl
 | some s=>exact congrArg some (by unfold putS;cases s <;> rfl)
theorem a2h{K:Fg9}{X:Cx}{e:dX}{m:M Rv}(i:Nat)(h:ER K X e m)(hm:avr i m:=by exact aql):ER K X e (aw7 i m):=ER.mk fun hk=>PE.imp (h hk) fun σ H Q z9=>by
 obtain⟨tg,F,ρ,r,ρ',G,em,q⟩:=z9;unfold aw7 at em;split at em
 ·rename_i l ys ρ1 ei e1;split at em
  ·rename_i hc;obtain⟨hy,hfl⟩:=hc;obtain rfl:=hm _ _ _ _ ei e1;cases em;refine⟨tg,F,ρ,.fr ys,_,G,e1,fun v H' F' G' x rr =>?_⟩
   obtain⟨b,vs,rfl,hb,hfb,hhb,hlb,hnb⟩:=rr;have hi:i < ρ.length:=(aK.mp ei).1;obtain⟨oi,hoi,ai,vi,rfl,hfi,hhi,hli,hti⟩:=G.at ei;have hset:∀j,(bR ρ i (.val (.lst l)))[j]? = if i=j then some (.val (.lst l)) else ρ[j]? := getset ei
   have frI:∃vs',F' ai=some (.lst vs')/\IsL K F' l vs':=by
    obtain⟨v',ev,hv⟩:=G'.sl i _ _ (by rw[hset,if_pos rfl]) hoi
    cases ev;cases hv with
    | lst e hl=>exact⟨_,e,hl⟩
   obtain⟨vi',hFi,hli'⟩:=frI;have flatAt:∀(j:Nat) (t:Option Nat) (l':List D),(ρ:List Sl)[j]? = some (Sl.own t l')->l'.all ag4=true:=fun j t l' e=>dD.mp hfl _ (iT e)
   refine q _ H' F ⟨x.sub.trans G'.sub,G.len,fun j s o e1 e2 =>?_,G.inj⟩ ⟨Same.refl _,fun c o e=>.inl e,x.keep,fun c z=>.inl z,x.there⟩ ⟨b,vs,rfl,hb,?_,hhb,hlb.flat hy,fun⟨j,⟨t,l',ej⟩,ev⟩ =>?_⟩
   ·have s1:=G.sl j s o e1 e2;cases s with
    | own t l' =>
     obtain⟨a,vs1,rfl,ha,_,_,ht⟩:=s1
     by_cases hj:i=j
     ·subst hj;rw[ei] at e1;cases e1;rw[hoi] at e2;cases e2;exact⟨ai,vi',rfl,ha,G'.sub _ _ hFi,hli'.flat (flatAt i _ _ ei),ht⟩
     ·obtain⟨a2,vs2,ea,_,hh2,hl2,_⟩:=G'.sl j _ _ (by rw[hset,if_neg hj];exact e1) e2
      cases ea;exact⟨a,vs2,rfl,ha,hh2,hl2.flat (flatAt j _ _ e1),ht⟩
    | box c fs =>
     obtain⟨a,C,dx,fvs,z1,z2,z3,z4⟩:=s1;exact⟨a,C,dx,fvs,z1,z2,x.keep a _ z3 (fun w=>by
      obtain⟨_,vs,hv⟩:=G.ownAt w;rw[z3] at hv;cases hv),z4⟩
    | emp=>exact s1
    | val _=>exact s1
    | lol _=>exact s1
    | lnk _=>exact s1
   ·cases z:F b with
    | none=>rfl
    | some o=>rw[x.sub _ _ z] at hfb;cases hfb
   ·by_cases hj:i=j
    ·subst hj;rw[hoi] at ev;cases ev;rw[hFi] at hfb;cases hfb
    ·exact hnb ⟨j,⟨t,l',by rw[hset,if_neg hj];exact ej⟩,ev⟩
  ·cases em
 ·cases em
@[simp] theorem a7g(i:Nat)(m:M Rv)(ρ:Ro):aw7 i m ρ=match ρ[i]?,m ρ with
 | some (.own none l),some (.ok (.fr ys),ρ')=>if ys.all ag4=true/\ρ.all amf=true then some (.ok (.fr ys),ρ) else none
 | _,_=>none:=rfl
end Dn
namespace Mn
open L2
section
variable{prog:cA}{w:dJ}{A:cW}{E:aD->aH->Prop}{h:fK}{g:Array GenState}{d:Drawn}{t:Nat}{os:OsState}
variable{nm q:Str}{C N:aX}{bs bm bmB:List aD}{hdct:Bool}{sn:List Str}{sub:List aD}{ab:Bool}{col:Option Bool}{dd:Option aX}{k0 k1 k2 k3 k5:Option aD}{B Bn newId nid initId inN:String}{bmN:List aD}
theorem afc(Fn:ExcBaseFacts Bn newId inN bmN)(hBn:bmB.contains (.type Bn)=true)(F:ExcBaseFacts B nid initId bmB)(T:OwnTail h bmB bm){mN:Str->Option aD}{rest:List aD}{fI:aX}{oI:Obj}{Q:Fin->aH->Prop}
  (hC:h.get? C=some (excClassObj nm q C N bs bm hdct sn sub ab col dd k0 k1 k2 k3 k5 newId)) (hn:h.Ns N mN) (hi:mN "__init__" = some (.ref fI)) (hfI:h.get? fI=some oI) (hfc:oI.cls=.type "function")
  (hq:∀h' e,uH h h' e (.ref C) rest->bL (bU prog w) A (call (.ref fI) (.ref e::rest)) (fun r s'=>r=.none/\Q (.done (.ret (.ref e))) s') E ⟨h',g,d,t,os⟩) (hrest:rest.length<=cN:=by size_fits) :
  bL (bU prog w) A (jL.«type.__call__» ⟨.ref C::rest,[]⟩) Q E ⟨h,g,d,t,os⟩:=by
 repeat (first | with_reducible refine wpAny_loadPart_at hC ?_ | with_reducible refine wpAny_madeBy_exc hC ?_ | wp_step)
 refine codeAny_call_builtin_code (wZ _ Fn.quiet) (wpAny_check_new_subU Fn hBn T hC ?_);refine codeAny_exc_new_subU Fn hBn F T hC ?_ hrest;show bL _ _ _ _ _ _
 let o1:Obj:={ cls:=.type "tuple", data:=.seq rest.toArray }
 let o2:Obj:={ cls:=.ref C,data:=.fields #[.ref h.objs.size,.none,.none,.none,.bool false,.none] }
 have keep:∀b o,h.get? b=some o->((h.push o1).push o2).get? b=some o:=fun b o e=>aB _ (aB _ e)
 have hC1:=keep _ _ hC;have hf1:=keep _ _ hfI;have hn1:((h.push o1).push o2).Ns N mN:=let ⟨o,es,ep,e,r⟩:=hn;⟨o,es,ep,keep _ _ e,r⟩
 have hget:((h.push o1).push o2).get? (h.objs.size+1)=some o2:=by heap_get
 have hcC:(dF C::bm).contains (.ref C)=true:=by simp
 have T1:=T.keeps (h':=(h.push o1).push o2) keep;unfold isInstance
 repeat (first | with_reducible refine wpAny_loadPart_at hget ?_ | (with_reducible refine wpAny_isSubtype_exc hC1 ?_;rw[hcC]) | wp_step)
 show bL _ _ (typeLookup (.ref C) _) _ _ _;refine wpAny_typeLookup_tail hC1 hn1 T1 F.mroIs F.init.lookup ?_;rw[hi];refine eX (aA ?_);unfold bindSpecial;refine aA (wpAny_typeOf (T := "function") ⟨_,hf1,hfc⟩ ?_);rw[if_pos (by decide)]
 refine aG (aA (bC (hq _ (h.objs.size+1) ⟨keep,iV (mY _),h.objs.size,hget,iV (aN _),?_⟩) (fun r s' hr =>?_) fun _ _ x=>x))
 ·exact aB _ (xY rfl rfl)
 ·obtain⟨rfl,hQ⟩:=hr;wp_walk;exact hQ
theorem aqx(Fn:ExcBaseFacts Bn newId inN bmN)(hBn:bmB.contains (.type Bn)=true)(F:ExcBaseFacts B nid initId bmB)(T:OwnTail h bmB bm){mN:Str->Option aD}{rest:List aD}{fI:aX}{oI:Obj}{Q:aD->aH->Prop}
  (hC:h.get? C=some (excClassObj nm q C N bs bm hdct sn sub ab col dd k0 k1 k2 k3 k5 newId)) (hn:h.Ns N mN) (hi:mN "__init__" = some (.ref fI)) (hfI:h.get? fI=some oI) (hfc:oI.cls=.type "function")
  (hq:∀h' e,uH h h' e (.ref C) rest->bL (bU prog w) (A.under (.builtin "type.__call__" ⟨.ref C::rest,[]⟩)) (call (.ref fI) (.ref e::rest)) (fun r s'=>r=.none/\Q (.ref e) s') E ⟨h',g,d,t,os⟩) (hrest:rest.length<=cN:=by size_fits) :
  bL (bU prog w) A (call (.ref C) rest) Q E ⟨h,g,d,t,os⟩:=by
 have f1:=tc_lookup;have f2:=tc_bind (.ref C);have hT:(⟨h,g,d,t,os⟩:aH).TypeIs (.ref C) "type" := ⟨_,hC,rfl⟩;refine mV (codeAny_of_tree ?_);show bL _ _ (callAny (.ref C) _) _ _ _
 repeat (any_goals (first | assumption | with_reducible refine wpAny_loadPart_at hC ?_ | wp_step))
 refine⟨rfl,?_⟩;exact codeAny_call_builtin_at (wZ _ (by decide +kernel)) entry_typeCall (wpAny_check_type_call_sub hC (afc (hrest:=hrest) Fn hBn F T hC hn hi hfI hfc fun h' e hm=>hq h' e hm))
end
end Mn
namespace Dn
open L2 Mn
def refB:aD->Bool
 | .ref _=>true
 | _=>false
def aec(K:Fg9)(C:aX):Bool:=(lY K C).any fun cd=>cd.mro.dropWhile refB==bmV
theorem ahe(self:aD):∀{l:List aD},l.dropWhile refB=bmV->refuseLoop self "__setattr__" l=pure ()
 | .ref c::r,e=>by rw[refuseLoop_ref];exact ahe self (by simpa[zK,refB] using e)
 | [],e=>by cases e
 | .type n::r,e=>by
  have:(kI n::r)=bmV:=by simpa[zK,refB] using e
  rw[this];exact PySem.F.store_ValueError.passes self
 | .none::r,e=>nomatch (show(cU::r:List aD)=bmV from e)
 | .ellipsis::r,e=>nomatch (show(Value.ellipsis::r:List aD)=bmV from e)
 | .notImplemented::r,e=>nomatch (show(vL::r:List aD)=bmV from e)
 | .bool b::r,e=>nomatch (show(rM b::r:List aD)=bmV from e)
 | .int i t::r,e=>nomatch (show(oU i t::r:List aD)=bmV from e)
 | .float b t::r,e=>nomatch (show(vR b t::r:List aD)=bmV from e)
 | .str x t::r,e=>nomatch (show(vC x t::r:List aD)=bmV from e)
 | .bytes b t::r,e=>nomatch (show(Value.bytes b t::r:List aD)=bmV from e)
 | .builtin i::r,e=>nomatch (show(nM i::r:List aD)=bmV from e)
section
variable{prog:cA}{w:dJ}{A:cW}{E:aD->aH->Prop}{s:aH}{K:Fg9}{x C:aX}{ox:Obj}{od:Option Obj}{name:Str}{v:aD}
theorem asy{tk:Tok}{R:Result->aH->Prop}(X:K.In s.heap)(I:gJ s.heap x ox C od)(hp:aec K C=true)(hob:kJ K C (.type "object")=some true)(ht:lX K C name=some none)
  (h:∀b,bL (bU prog w) A.in1 (Builtin.ObjectAttr.storeInOwnDict (.ref x) (.ref C) (.str name tk) name v b)
   (fun fin s'=>match fin with | .done f=>R (.ok f) s' | .again c'=>c'.quiet=true/\pB (bU prog w) A c' R s') (fun e s'=>R (.error e) s') s) :
  pB (bU prog w) A (.call (.builtin "object.__setattr__") ⟨[.ref x,.str name tk,v],[]⟩) R s:=by
 have SF:=PySem.F.store_object;obtain⟨cd,hc,ho⟩:=jM hp;have ho:=beq_iff_eq.mp ho;have sub:kW (bU prog w) s.heap (isInstance (.ref x) (.type "object")) true:=I.type.andThen (vW X hob);refine codeAny_call_builtin SF.slot.plain SF.entry (@wL (bU prog w) _ _ s "object.__setattr__" "object" "__setattr__" (.ref x) [.str name tk,v] [] _ SF.kind SF.split sub (SF.args (.ref x) (.str name tk) v) ?_);obtain⟨attr,ha,hr⟩:=uR.mp ht;have hm:kW (bU prog w) s.heap (mroOf (.ref C)) cd.mro:=(rA X hc).andThen .now;have L3:kW (bU prog w) s.heap (Builtin.ObjectAttr.storeTaker? attr) none:=by
  cases attr with
  | none=>exact .now
  | some a =>
   obtain⟨b,hb,hz⟩:=eV.mp hr;refine(PySem.W.looks_takesIn X hb).andThen ?_;cases b with
   | true=>cases hz
   | false=>exact .now
 rw[PySem.W.osa_eq,refuse_eq];refine aA (aA (I.type.here (aA (hm.here ?_))));rw[ahe _ ho];refine aG (aA (I.type.here (aA ((qP X ha).here (aA (L3.here ?_))))));exact h _
theorem afj{vs:Array aD}{Q:Unit->aH->Prop}(X:K.In s.heap)(I:gJ s.heap x ox C none)(hx:s.heap.get? x=some ox)(hc:ox.cls=.ref C)(hdn:ox.dict=none)(hdt:ox.data=.fields vs)
  (hs:lM K (.ref C) "__setattr__" = some (some (.builtin "object.__setattr__"))) (hp:aec K C=true) (hob:kJ K C (.type "object")=some true) (ht:lX K C name=some none) (hh:kO K C=true)
  (h:∀h' tk',h'.get? x=some { ox with dict:=some s.heap.objs.size }->h'.Ns1 s.heap.objs.size (fun y=>if y=name then some v else none)->(∀b o,b≠x->s.heap.get? b=some o->h'.get? b=some o)->Q () { s with heap:=h',toks:=tk' }) :
  bL (bU prog w) A (setAttr (.ref x) name v) Q E s:=by
 obtain⟨oc,odict,odata,osl⟩:=ox;simp only at hc hdn hdt;subst hc hdn hdt;refine xM X I hs (asy (s:={ s with toks:=s.toks+1 }) X I hp hob ht fun b =>?_)
 obtain⟨cd,hcd,hd'⟩:=jM hh;have hxs:x≠s.heap.objs.size:=bQ (aR hx);refine aA (aG (aA (aA (wpAny_loadPart hx (aA (wM (s:={ s with toks:=s.toks+1 }) (rA X hcd) ?_))))))
 rw[hd']
 let o0:Obj:={ cls:=.type "dict", data:=.dict #[] }
 have hx1:(s.heap.push o0).get? x=some ⟨.ref C,none,.fields vs,osl⟩:=aB _ hx;have hgd:((s.heap.push o0).update x fun o=>{ cls:=o.cls,dict:=some s.heap.objs.size,data:=o.data,slots:=o.slots }).get? s.heap.objs.size=some o0:=(wC _ _ _ _ hxs.symm).trans (xY rfl rfl)
 have hnd:((s.heap.push o0).update x fun o=>{ cls:=o.cls,dict:=some s.heap.objs.size,data:=o.data,slots:=o.slots }).Ns s.heap.objs.size (fun _=>none):=⟨_,#[],_,hgd,rfl,fun e he=>absurd he (by simp),fun _=>rfl⟩
 refine aA (wpAny_alloc' (aA (wpAny_update' hx1 (aG ?_))));show bL _ _ (jF s.heap.objs.size (.str name _) name v) _ _ _;unfold jF sG;refine aA (aG (aA (wpAny_nsSet1 (yC hnd) fun h' hn' hs' =>?_)))
 obtain⟨oD,esD,epD,hoD,hdD,hcD⟩:=hn'.count (vQ name v Within.nil);refine aA (wpAny_lookBehind hoD (by rw[hdD];exact pastItsLine_dict (cR hcD (by rw[bN,qG,fY];omega))) (aG ?_))
 refine h h' _ ((hs'.2 x hxs).trans (cH _ hx1 rfl)) hn' fun b o hb e=>(hs'.2 b (bQ (aR e))).trans ((wC _ _ _ _ hb).trans (aB _ e))
end
def exV(a C:aX)(dx:Option aX)(vs:Array aD):fK->Prop:=fun h=>∃oe,h.get? a=some oe/\oe.cls=.ref C/\oe.dict=dx/\oe.data=.fields vs
section
variable{vs:Array aD}{X:Cx}{zv:List (aX×Obj)}{σ:L2.St}{H:Hp}{s:aH}{A:cW}{E:aD->aH->Prop}{a C:aX}{f:Str}
theorem asa{y:V}{u:aD}{Q:Unit->aH->Prop}(I:Inv X zv σ H s)(e:H a=some (.ext (exV a C none vs)))(k:ExcK X.K C)(hs:lM X.K (.ref C) "__setattr__" = some (some (.builtin "object.__setattr__")))(hp:aec X.K C=true)(ht:lX X.K C f=some none)(ry:RelV y u)
  (h:∀d s',H d=none->Inv X zv σ (upd (upd H a (.ext (exV a C (some d) vs))) d (.xd [(f,y)])) s'->Q () s'):bL (bU X.prog X.w) A (setAttr (.ref a) f u) Q E s:=by
 obtain⟨⟨oe,he,hc,hdn,hdt⟩,_,_⟩:=I.hok _ _ e;refine afj I.kIn ⟨he,hc,by unfold jP;rw[hdt],by rw[hdn];trivial⟩ he hc hdn hdt hs hp k.ob ht k.hd fun h' tk' e1 e2 e3 =>?_
 have hd:H s.heap.objs.size=none:=I.hok.fresh (aN _);have hda:s.heap.objs.size≠a:=gK (aR he);have I2:=I.write (x:=a) (e:=a) (o:=.ext (exV a C (some s.heap.objs.size) vs)) (t':=tk') (h':=h') (by rw[e];trivial) (.inl rfl) (fun b u hb q=>e3 b u hb q) ⟨_,e1⟩ ⟨⟨_,e1,hc,rfl,hdt⟩,⟨_,e1⟩,fun h1 h2 p q=>by obtain⟨oe,z1,z2⟩:=p;exact⟨oe,q _ z1,z2⟩⟩
 have fp:FpX X zv (upd H a (.ext (exV a C (some s.heap.objs.size) vs))) s.heap.objs.size:=Inv.fpX I (iV (aN _)) (by rw[bw hda];exact hd)
 refine h s.heap.objs.size _ hd (Inv.track I2 fp ⟨_,e2,fun g =>?_⟩)
 by_cases q:g=f
 ·subst q;have e1:[(g,y)].lookup g=some y:=by simp[cT]
  rw[e1];show RelO (some y) (if g=g then some u else none)
  rw[if_pos rfl];exact ry
 ·have:(g==f)=false:=beq_eq_false_iff_ne.mpr q;simp[cT,this,q,RelO]
structure FldK (K:Fg9) (C:aX) (f:Str):Prop where
 k:ExcK K C
 sa:lM K (.ref C) "__setattr__" = some (some (.builtin "object.__setattr__"))
 ov:aec K C=true
 tk:lX K C f=some none
def a3m(C:aX)(vs:Array aD)(ta tv:TE)(f:Str):TS:=fun D σ H=>tv σ H fun y H1=>ta σ H1 fun x H2=>∃a,x=.ref a/\H2 a=some (.ext (exV a C none vs))/\∀d,H2 d=none->D.nx σ (upd (upd H2 a (.ext (exV a C (some d) vs))) d (.xd [(f,y)]))
theorem a0i{o value:dX}{ta tv:TE}{pos pos':Pos}(k:FldK X.K C f)(ha:PE X o ta)(hv:PE X value tv)(hs:gU value (some (.Attribute o f pos')) pos.line X.env=pure false):PS X (.Assign [.Attribute o f pos'] value pos) (a3m C vs ta tv f):=by
 intro zv s σ H D I h;refine plainObj_wpAny_Assign_Attribute (thn (hv zv s σ H _ I h) fun u s1 ⟨y,H1,I1,ry,q⟩=>thn (ha zv s1 σ H1 _ I1 q) fun ov s2 ⟨x,H2,I2,rx,a,ex,ea,q2⟩ =>?_) hs
 subst ex;obtain rfl:ov=dF a:=rx;exact asa I2 ea k.k k.sa k.ov k.tk ry fun d s3 hd I3=>⟨σ,_,I3,q2 d hd⟩
def spI(C:aX)(vs:Array aD)(f:Str):Sp:=fun us H Q _=>∃a i,us=[.ref a,.int i]/\H a=some (.ext (exV a C none vs))/\∀d,H d=none->Q .non (upd (upd H a (.ext (exV a C (some d) vs))) d (.xd [(f,.int i)]))
theorem a2b{K:Fg9}{P:cA}{w:dJ}{mg:Str->Option aD}{base:fK}{x qual:Str}{st:iJ}{fa:aX}{fd:fJ}{k:Nat}{p1 p2 p3 p4:Pos}(F:Fun K x qual st fa fd)(S:FnScope ["self", f] ["self", f] (ao st))(hf:FldK K C f)
  (hb:ie st=[.Assign [.Attribute (.Name "self" p1) f p2] (.Name f p3) p4]) (h1:(f==("__debug__" : Str))=false) (h2:(f==("__classdict__" : Str))=false)
  (hs:∀env,gU (.Name f p3) (some (.Attribute (.Name "self" p1) f p2)) p4.line env=pure false) (hv1:Vis (ao st) "self") (hv2:Vis (ao st) f) :
  FnOk P w K mg base CX0 (k+1) fa fd ["self", f] (spI C vs f):=by
 refine F.ok S (fun us H Q E h =>?_) fun cdv A outer s H us Q E hr h=>⟨a3m C vs (tVar 0) (tVar 1) f,?_,?_⟩
 ·obtain⟨a,i,rfl,_⟩:=h;rfl
 ·rw[hb];exact aid (a0i hf (pv 0 rfl hv1) (pv 1 rfl hv2 h1 h2) (hs _))
 ·obtain⟨a,i,rfl,e,q⟩:=h;exact⟨_,rfl,_,rfl,a,rfl,e,fun d hd=>q d hd⟩
end
end Dn
namespace Mn
open L2
section
variable{M:vX}{A:cW}{E:aD->aH->Prop}{env:Env}
variable{nm q:Str}{C N:aX}{bs bm:List aD}{hdct:Bool}{sn:List Str}{sub:List aD}{ab:Bool}{col:Option Bool}{dd:Option aX}{k0 k1 k2 k3 k5:Option aD}{newId:String}
theorem ahf{s:aH}{x:Sem aD}{Q:Flow->aH->Prop}(hbase:bm.contains (.type "BaseException")=true)(hh:A.handled=none)
  (h:bL M A x (fun v s₁=>∃e oe vs,v=.ref e/\s₁.heap.get? C=some (excClassObj nm q C N bs bm hdct sn sub ab col dd k0 k1 k2 k3 k5 newId)/\s₁.heap.get? e=some oe/\oe.cls=.ref C/\oe.data=.fields vs/\vs[1]? = some .none/\E (.ref e) s₁) E s) :
  bL M A (raiseStmt env (some x) none) Q E s:=by
 have hcB:(dF C::bm).contains (.type "BaseException")=true:=by rw[List.contains_cons,hbase,Bool.or_true]
 unfold raiseStmt;refine aA (bC h (fun v s₁ h₁ =>?_) fun _ _ x=>x)
 obtain⟨e,⟨oc,od,odt,osl⟩,vs,rfl,hC,he,hc,hd,h1,hE⟩:=h₁;simp only at hc hd;subst hc hd;obtain⟨hp,g,d,tk,os⟩:=s₁
 repeat (first | with_reducible refine wpAny_loadPart_at he ?_ | with_reducible refine wpAny_loadPart_at hC ?_ | (with_reducible refine wpAny_isSubtype_exc hC ?_;rw[hcB]) | wp_step)
 rw[h1];exact aG (aG (wpAny_raiseNew_none hh hE))
end
section
variable{prog:cA}{w:dJ}{A:cW}{E:aD->aH->Prop}{s:aH}{env:Env}
variable{nm q:Str}{C N:aX}{bs bm bmB:List aD}{hdct:Bool}{sn:List Str}{sub:List aD}{ab:Bool}{col:Option Bool}{dd:Option aX}{k0 k1 k2 k3 k5:Option aD}{B Bn newId nid initId inN:String}{bmN:List aD}
theorem afv(Fn:ExcBaseFacts Bn newId inN bmN)(hBn:bmB.contains (.type Bn)=true)(F:ExcBaseFacts B nid initId bmB){x:Str}{np cpos pos:Pos}{args:List dX}{Q:Flow->aH->Prop}{fI:aX}
  (hbase:bm.contains (.type "BaseException")=true) (hh:A.handled=none) (hplain:(jD cpos (aQ args env)).any (·.1)=false)
  (h:bL (bU prog w) A (eval (.Name x np) env) (fun f s₁=>f=.ref C/\bL (bU prog w) A (evalArgs (.ref C) true (jD cpos (aQ args env)) [])
   (fun a s₂=>a.kw=[]/\a.pos.length<=cN/\s₂.heap.get? C=some (excClassObj nm q C N bs bm hdct sn sub ab col dd k0 k1 k2 k3 k5 newId)/\(∃mN,s₂.heap.Ns N mN/\mN "__init__" = some (.ref fI))/\OwnTail s₂.heap bmB bm/\(∃oI,s₂.heap.get? fI=some oI/\oI.cls=.type "function") /\
    ∀h' e,uH s₂.heap h' e (.ref C) a.pos->bL (bU prog w) (A.under (.builtin "type.__call__" ⟨.ref C::a.pos,[]⟩)) (call (.ref fI) (.ref e::a.pos))
     (fun r s'=>r=.none/\s'.heap.get? C=some (excClassObj nm q C N bs bm hdct sn sub ab col dd k0 k1 k2 k3 k5 newId)/\∃oe vs,s'.heap.get? e=some oe/\oe.cls=.ref C/\oe.data=.fields vs/\vs[1]? = some .none/\E (.ref e) s') E { s₂ with heap:=h' }) E s₁) E s) :
  bL (bU prog w) A (exec (.Raise (some (.Call (.Name x np) args [] cpos)) none pos) env) Q E s:=by
 rw[arm_exec_Raise]
 first
  | refine aA (kE (ahf (C:=C) (nm:=nm) (q:=q) (N:=N) (bs:=bs) (bm:=bm) (hdct:=hdct) (sn:=sn) (sub:=sub) (ab:=ab) (col:=col) (dd:=dd) (k0:=k0) (k1:=k1) (k2:=k2) (k3:=k3) (k5:=k5) (newId:=newId) hbase hh (aA (bC (wpAny_Call_ofName (bC h (fun f s₁ h₁ =>?_) fun _ _ x=>x)) (fun v s₃ h₃=>aA (kE (aG h₃))) fun _ _ x=>x))))
  | (simp only[evalOpt,Option.map];refine aA (kE (ahf (C:=C) (nm:=nm) (q:=q) (N:=N) (bs:=bs) (bm:=bm) (hdct:=hdct) (sn:=sn) (sub:=sub) (ab:=ab) (col:=col) (dd:=dd) (k0:=k0) (k1:=k1) (k2:=k2) (k3:=k3) (k5:=k5) (newId:=newId) hbase hh (aA (bC (wpAny_Call_ofName (bC h (fun f s₁ h₁ =>?_) fun _ _ x=>x)) (fun v s₃ h₃=>aA (kE (aG h₃))) fun _ _ x=>x)))))
 obtain⟨rfl,h₁⟩:=h₁;unfold callWith;refine aA (eX (bC h₁ (fun a s₂ h₂=>aA (kE ?_)) fun _ _ x=>x))
 obtain⟨apos,akw⟩:=a;obtain⟨hkw,hlen,hC,⟨mN,hn,hi⟩,T,⟨oI,hfI,hfc⟩,h₂⟩:=h₂;obtain rfl:akw=[]:=hkw;obtain⟨hp,g,d,tk,os⟩:=s₂;simp only[hplain];refine aA (wpAny_keeperOf_exc hC ?_);refine aA (aqx (hrest:=hlen) Fn hBn F T hC hn hi hfI hfc fun h' e hm=>bC (h₂ h' e hm) (fun r s' ⟨hr,hC',oe,vs,he,hc,hd,h1,hE⟩=>⟨hr,aA (eX (wpAny_point (aG ?_)))⟩) fun _ _ z=>z)
 exact⟨e,oe,vs,rfl,hC',he,hc,hd,h1,hE⟩
end
end Mn
namespace Dn
open L2 Mn
theorem aew{H:Hp}{a b:aX}{o:HO}(h:upd H a o b=none):H b=none:=by
 by_cases z:b=a
 ·rw[z,dh] at h;cases h
 ·rw[bw z] at h;exact h
theorem acu{H:Hp}{a b:aX}{φ:fK->Prop}{u:HO}(h:upd H a (.ext φ) b=some u)(hu:∀ψ,u≠.ext ψ):H b=some u:=by
 by_cases z:b=a
 ·rw[z,dh] at h;cases h;exact absurd rfl (hu φ)
 ·rw[bw z] at h;exact h
theorem Inv.untrack{X:Cx}{zv:List (aX×Obj)}{σ:L2.St}{H:Hp}{s:aH}{a:aX}{φ:fK->Prop}(I:L2.Inv X zv σ (upd H a (.ext φ)) s)(hn:H a=none):L2.Inv X zv σ H s :=
 ⟨I.ok,I.os,I.bare,⟨I.base.keep,I.base.slot,fun b o e n hx=>aew (I.base.free b o e n hx),I.base.there,fun b xs q=>acu (I.base.tups b xs q) (fun _ z=>by cases z),fun b ob u q=>acu (I.base.frzs b ob u q) (fun _ z=>by cases z),fun b ps q=>let ⟨more,h⟩:=I.base.tbls b ps q;⟨more,acu h (fun _ z=>by cases z)⟩⟩,
  I.loc,I.cell,aew I.free,fun x c e=>aew (I.freeC x c e),fun p hp=>let ⟨h1,h2,h3⟩:=I.pin p hp;⟨h1,aew h2,h3⟩,fun b u e=>by
   have hb:b≠a:=fun z=>by rw[z,hn] at e;cases e
   exact(I.hok b u (by rw[bw hb];exact e)).stay (fun c v _ q=>q) (fun c q=>acu q (fun _ z=>by cases z)) fun c xs q=>acu q (fun _ z=>by cases z),I.len⟩
def agg(K:Fg9)(C fI:aX):Bool:=match K.lookup C with
 | some ⟨.type "type", _,.cls cd,sl⟩=>(match cd.mro,sl.toList with
  | .ref C'::bm,[_,_,_,_,some (.builtin n),_]=>C'==C&&n == "ValueError.__new__" && !cd.hasDel&&PySem.W.tailIn K bmV bm&&PySem.W.nsOkIn K cd.ns&&nsIn K cd.ns "__init__" == some (some (.ref fI))&&qU K (.ref fI)==some (.type "function")
  | _,_=>false)
 | _=>false
theorem a06{K:Fg9}{h:fK}{N:aX}{mg:Str->Option aD}{n:Str}{v:aD}(X:K.In h)(G:h.Ns N mg)(e:nsIn K N n=some (some v)):mg n=some v:=by
 obtain⟨o,es,ep,ho,hd,_,hf⟩:=G;unfold nsIn at e;split at e
 ·rename_i c d es' n' sl q;have:=X _ _ q;rw[ho] at this;cases this;cases hd;split at e
  ·rename_i en he;cases e;rw[<-hf];unfold nsFind findBy;rw[<-xG,he];rfl
  ·split at e <;> cases e
 ·cases e
theorem aot{K:Fg9}{C fI:aX}(q:agg K C fI=true) :
  ∃bm N nm qn bs hdct sn sub ab col dd k0 k1 k2 k3 k5,∀h:fK,K.In h->h.get? C=some (excClassObj nm qn C N bs bm hdct sn sub ab col dd k0 k1 k2 k3 k5 "ValueError.__new__")/\(∃mN,h.Ns N mN/\mN "__init__" = some (.ref fI))/\OwnTail h bmV bm/\∃oI,h.get? fI=some oI/\oI.cls=.type "function" := by
 unfold agg at q;split at q
 ·rename_i dd cd sl ho;split at q
  ·rename_i C' bm k0 k1 k2 k3 n k5 hm hs;simp only[bG,beq_iff_eq,yG] at q;obtain⟨⟨⟨⟨⟨⟨e1,e2⟩,e3⟩,e4⟩,e5⟩,e6⟩,e7⟩:=q;subst e1 e2;obtain⟨nm,bs,mro,ns,qn,hd,sn,sub,ab,col,del⟩:=cd;have hm:mro=_:=hm;have e3:del=false:=e3;subst hm e3;have z:sl = #[k0,k1,k2,k3,some (.builtin "ValueError.__new__"),k5]:=yP.mp hs;subst z;refine⟨bm,ns,nm,qn,bs,hd,sn,sub,ab,col,dd,k0,k1,k2,k3,k5,fun h X=>⟨X _ _ ho,⟨h.nsMap ns,.of_isNs (rD X e5),?_⟩,wI X e4,?_⟩⟩
   ·exact a06 X (.of_isNs (rD X e5)) e6
   ·obtain⟨o,ho2,hc2⟩:=eV.mp e7;exact⟨o,X _ _ ho2,hc2⟩
  ·cases q
 ·cases q
def acq(c f:Str)(m:M D):Sd:=dM m fun d ρ=>match d with
 | .int i=>some (.exc ⟨c,[(f,i)]⟩,ρ)
 | _=>none
section
variable{K:Fg9}{X:Cx}{c f:Str}{C fI:aX}{fd:fJ}{kk:Nat}{e1:dX}{m:M D}{np cpos pos:Pos}
theorem ard(hcalm:X.calm=true)(hg:Gl X c)(hm:X.mg c=some (.ref C))(k:ClsOk X.K c C)(qq:agg X.K C fI=true)(Fi:∀vs,FnOk X.prog X.w X.K X.mg X.base CX0 kk fI fd ["self", f] (spI C vs f))(hb:∀s us,us.length=2->nH s fd ⟨us,[]⟩ ((["self", f]:List Str).zip us))
  (hr:Room (kk+1) X.A) (h:EV K X e1 m) (hn:NoX m) (hs:aQ [e1] X.env=(false,eval e1 X.env)::aQ [] X.env:=by rfl) (hd:(c==("__debug__" : Str))=false:=by decide) :
  XS K X (.Raise (some (.Call (.Name c np) [e1] [] cpos)) none pos) (acq c f m):=⟨fun hk hnx zv s σ H tg F ρ x ρ' I G em=>by
 have em:=qg.mp em;unfold acq dM at em;split at em
 ·rename_i d ρ1 em1;dsimp only at em;split at em
  ·rename_i i;cases em;have h:=h hk;subst hk;obtain⟨bm,N,nm,qn,bs,hdct,sn,sub,ab,col,dd,k0,k1,k2,k3,k5,hobj⟩:=aot qq;have T0:=(hobj _ I.kIn).2.2.1;refine afv (C:=C) (nm:=nm) (q:=qn) (N:=N) (bs:=bs) (bm:=bm) (hdct:=hdct) (sn:=sn) (sub:=sub) (ab:=ab) (col:=col) (dd:=dd) (k0:=k0) (k1:=k1) (k2:=k2) (k3:=k3) (k5:=k5) (fI:=fI)
    dI (by decide +kernel) dI (T0.hasType dI.hasBase) (I.ok.hd hcalm) (by rw[hs];rfl) ?_
   refine aa8 I hg hm ⟨rfl,?_⟩ hd;have pa:=mj h aa6 hs cpos zv s σ H (fun vs H1=>∃F1,vs=[.int i]/\Good X.K tg F1 H1 ρ' σ/\Ext (Own ρ σ) (Own ρ' σ) F H F1 H1) I ⟨tg,F,ρ,.int i,ρ',G,em1,fun v H' F' G' x' r=>by
    cases r;exact⟨F',rfl,G',x'⟩⟩
   rw[hs] at pa ⊢
   refine qR (bC pa (fun us s2 ⟨vs,H2,I2,r2,F2,ev,G2,x2⟩ =>?_) fun e s1 q=>by rw[hnx] at q;exact q.elim)
   subst ev;have hlen:us.length=1:=r2.length.symm;obtain⟨o1,o2,o3,o4⟩:=hobj _ I2.kIn;refine⟨rfl,by rw[fY];show us.length<=_;omega,o1,o2,o3,o4,fun h' e hme =>?_⟩
   obtain⟨t,he,_,_⟩:=hme.there;have hnH:H2 e=none:=by
    cases z:H2 e with
    | none=>rfl
    | some o =>
     obtain⟨ob,h1⟩:=af2 (I2.hok e o z);have h2:s2.heap.get? e=none:=hme.new;rw[h2] at h1;cases h1
   have J:L2.Inv X zv σ H2 { s2 with heap:=h' }:=I2.kept (t':=s2.toks) hme.keeps
   have J1:L2.Inv X zv σ (upd H2 e (.ext (exV e C none #[.ref t,.none,.none,.none,.bool false,.none]))) { s2 with heap:=h' } :=
    Inv.track J (Inv.fpX I2 hme.new hnH) ⟨⟨_,he,rfl,rfl,rfl⟩,⟨_,he⟩,fun h1 h2 p q=>by obtain⟨oe,z1,z2⟩:=p;exact⟨oe,q _ z1,z2⟩⟩
   refine mV (jU ((Fi #[.ref t,.none,.none,.none,.bool false,.none]).run (X.A.under (.builtin "type.__call__" ⟨.ref C::us,[]⟩)) X.stack _ _ ⟨.ref e::us,[]⟩ (.ref e::us) [.ref e,.int i]
    (fun v H3=>v=.non/\∃d,upd H2 e (.ext (exV e C none #[.ref t,.none,.none,.none,.bool false,.none])) d=none/\H3=upd (upd (upd H2 e (.ext (exV e C none #[.ref t,.none,.none,.none,.bool false,.none]))) e (.ext (exV e C (some d) #[.ref t,.none,.none,.none,.bool false,.none]))) d (.xd [(f,.int i)]))
    (fun _ _ _=>False) (hr.make C us []) (J1.env0.make C us []) (hb _ _ (by rw[bN,hlen])) (.cons rfl r2) ⟨e,i,rfl,dh,fun d hd=>⟨rfl,d,hd,rfl⟩⟩) fun r s' z =>?_)
   cases r with
   | error er=>exact z.elim
   | ok fl =>
    cases fl with
    | ret u =>
    obtain⟨v,H3,J3,rv,rfl,d,hd,rfl⟩:=Inv.after J1 z;have hde:d≠e:=fun q=>by rw[q,dh] at hd;cases hd
    have hd2:H2 d=none:=by rw[bw hde] at hd;exact hd
    have eq:upd (upd (upd H2 e (.ext (exV e C none #[.ref t,.none,.none,.none,.bool false,.none]))) e (.ext (exV e C (some d) #[.ref t,.none,.none,.none,.bool false,.none]))) d (.xd [(f,.int i)])=upd (upd H2 d (.xd [(f,.int i)])) e (.ext (exV e C (some d) #[.ref t,.none,.none,.none,.bool false,.none])):=by
     rw[alz]
     funext b
     unfold upd
     by_cases q1:b=d
     ·rw[if_pos q1,if_neg (fun q=>hde (q1.symm.trans q)),if_pos q1]
     ·rw[if_neg q1,if_neg q1]
    rw[eq] at J3;obtain⟨⟨oe,he2,hc2,hdx2,hdt2⟩,_⟩:=J3.hok e _ dh;have hne:upd H2 d (.xd [(f,.int i)]) e=none:=by rw[bw (gG hde)];exact hnH
    have J4:=Inv.untrack J3 hne;have rv:u=cU:=rv;refine⟨rv,(hobj _ J4.kIn).1,oe,_,he2,hc2,hdt2,rfl,σ,upd H2 d (.xd [(f,.int i)]),upd F2 d (.xd [(f,.int i)]),J4,G2.new hd2 _,x2.trans (G2.newX hd2 _),e,C,some d,[e],rfl,k,.inr ⟨d,rfl,dh⟩,⟨oe,_,he2,hc2,hdx2,hdt2,by simp,.inl ⟨rfl,rfl⟩⟩,fun b hb =>?_⟩
    obtain rfl:=bO.mp hb;exact Inv.fpX I2 hme.new hne
    | _=>exact z.elim
  ·cases em
 ·rename_i y ρ1 em1;exact absurd em1 (hn _ _ _)
 ·cases em⟩
end
theorem af6(f:Str):∀fs:List (Str×Int),(fs.map fun p=>(p.1,V.int p.2)).lookup f=(fs.lookup f).map V.int
 | []=>rfl
 | (g,i)::r=>by
  rw[aW,pQ,pQ];cases f==g
  ·exact af6 f r
  ·rfl
def mFld(cs:List Str)(f:Str)(m:M D):M D:=m.bind fun d=>match d with
 | .exn c fs=>if cs.contains c=true then lift ((fs.lookup f).map D.int) else lift none
 | _=>lift none
@[simp] theorem a9d(cs:List Str)(f:Str)(m:M D)(ρ:Ro):mFld cs f m ρ=(m.bind fun d=>match d with
 | .exn c fs=>if cs.contains c=true then lift ((fs.lookup f).map D.int) else lift none
 | _=>lift none) ρ:=rfl
theorem aov{K:Fg9}{X:Cx}{e:dX}{m:M D}{cs:List Str}{f:Str}{pos:Pos}(hF:∀c C,cs.contains c=true->nsIn K bA c=some (some (.ref C))->lM K (.ref C) f=some none)(h:EV K X e m)(hb:attributeBase e f X.env (eval e X.env)=eval e X.env:=by rfl) :
  EV K X (.Attribute e f pos) (mFld cs f m):=EV.mk fun hk=>by
 intro zv s σ H Q I z9;obtain⟨tg,F,ρ,d,ρ',G,em,q⟩:=z9;obtain⟨d1,ρ1,e1,em⟩:=bj em;refine a2r hb (thn (h hk zv s σ H (fun x H1=>∃F1,Good K tg F1 H1 ρ1 σ/\Ext (Own ρ σ) (Own ρ1 σ) F H F1 H1/\Is K F1 d1 x) I ⟨tg,F,ρ,d1,ρ1,G,e1,fun v H' F' G' x' r=>⟨F',G',x',r⟩⟩) fun u s1 ⟨x,H1,I1,rx,F1,G1,x1,i1⟩ =>?_)
 subst hk;cases i1 with
 | @exn a C c dx fs ea hc hk hf =>
  dsimp only at em;split at em
  ·rename_i hcs;obtain⟨e2,rfl⟩:=gk em;obtain⟨i,hi,rfl⟩:=eV.mp e2;rcases hf with⟨_,rfl⟩ | ⟨d,rfl,hFd⟩
   ·cases hi
   ·obtain rfl:u=dF a:=rx;obtain⟨⟨oe,vs,he,hcl,hdx,hdt⟩,_⟩:=I1.hok a _ (G1.sub _ _ ea);obtain⟨mA,hns,hrel⟩:=I1.hok d _ (G1.sub _ _ hFd);obtain⟨od,ho,hl⟩:=akl hns;have J:gJ s1.heap a oe C (some od):=⟨he,hcl,by unfold jP;rw[hdt],by rw[hdx];exact ho⟩
    have hr:=hrel f;rw[af6,hi] at hr;cases hm:mA f with
    | none=>rw[hm] at hr;exact hr.elim
    | some v =>
     rw[hm] at hr;obtain⟨t,rfl⟩:∃t,v=.int i t:=hr
     have hfo:=PySem.W.findObj_own (od:=od) hk.hd (hF c C hcs hc) rfl (by rw[hl,hm])
     unfold getAttr;refine aA (wpAny_mkText (aos (s:={ s1 with toks:=s1.toks+1 }) I1.kIn J hk (exc_value (s:={ s1 with toks:=s1.toks+1 }) I1.kIn J hfo ?_)))
     exact aG ⟨.int i,H1,I1.kept (t':=s1.toks+1) (fun _ _ z=>z),⟨t,rfl⟩,q _ H1 F1 G1 x1 (.int i)⟩
  ·cases em
 | _=>cases em
def au8(s:iJ):iJ:=match s with
 | .ClassDef _ _ _ b _ _ _ _ _ _ _=>b.getD 0 s
 | _=>s
section
variable{K:Fg9}{X:Cx}{c f:Str}{st st':iJ}{e1:dX}{m:M D}{np cpos pos p1 p2 p3 p4:Pos}
theorem arz:SV K X st (acq c f m):=SV.mk fun _=>PS.imp aie fun E σ H z9=>by
 obtain⟨tg,F,ρ,fl,ρ',G,em,q⟩:=z9;unfold acq dM at em;split at em
 ·dsimp only at em;split at em
  ·cases em;exact(show False from q).elim
  ·cases em
 ·cases em;exact(show False from q).elim
 ·cases em
structure IniT (K:Fg9) (mg:Str->Option aD) (c f q:Str) (st:iJ):Prop where
 ex:∃C fI fd,mg c=some (.ref C)/\ClsOk K c C/\agg K C fI=true/\FldK K C f/\Fun K "__init__" q st fI fd
theorem arb{q:Str}(hk:X.K=K)(hcalm:X.calm=true)(hg:Gl X c)(h:IniT K X.mg c f q st)(S:FnScope ["self", f] ["self", f] (ao st))(hb:ie st=[.Assign [.Attribute (.Name "self" p1) f p2] (.Name f p3) p4])(h1:(f==("__debug__" : Str))=false)(h2:(f==("__classdict__" : Str))=false)
  (hs:∀env,gU (.Name f p3) (some (.Attribute (.Name "self" p1) f p2)) p4.line env=pure false) (hv1:Vis (ao st) "self") (hv2:Vis (ao st) f)
  (hbd:∀fI fd,Fun K "__init__" q st fI fd->∀s us,us.length=2->nH s fd ⟨us,[]⟩ ((["self", f]:List Str).zip us))
  (hr:Room 2 X.A) (he:EV K X e1 m) (hn:NoX m) (hst:aQ [e1] X.env=(false,eval e1 X.env)::aQ [] X.env:=by rfl) (hd:(c==("__debug__" : Str))=false:=by decide) :
  XS K X (.Raise (some (.Call (.Name c np) [e1] [] cpos)) none pos) (acq c f m):=by
 subst hk;obtain⟨C,fI,fd,hm,k,qq,kf,F⟩:=h.ex;exact ard (kk:=1) hcalm hg hm k qq (fun vs=>a2b F S kf hb h1 h2 hs hv1 hv2) (hbd fI fd F) hr he hn hst hd
theorem aqn{q:Str}(h:∀(kV doc pm:aD) (an:Option aX) (cdv ct:aD) (us:List aD),us.length=2->qO (fnOf "__init__" q (j8 st) (ie st) (ao st) .none kV doc pm an cdv ct) ⟨us,[]⟩=pure ((["self", f]:List Str).zip us)) :
  ∀fI fd,Fun K "__init__" q st fI fd->∀s us,us.length=2->nH s fd ⟨us,[]⟩ ((["self", f]:List Str).zip us):=fun fI fd F s us hl=>by
 obtain⟨oc,od,kV,doc,pm,an,cdv,ct,osl,rfl,lk,hcd⟩:=F.ex;exact .of_eq (h kV doc pm an cdv ct us hl)
def akt(K:Fg9)(C fI:aX)(f:Str):Bool:=agg K C fI&&(lM K (.ref C) "__setattr__" == some (some (.builtin "object.__setattr__")))&&aec K C&&(lX K C f==some none)
theorem axj{h:fK}{mg:Str->Option aD}{ns:List Str}{q:Str}{C fI:aX}{fd:fJ}(X:K.In h)(G:h.Ns bA mg)(e:ale K ns=true)(hc:ns.contains c=true)(aC:nsIn K bA c=some (some (.ref C)))(e2:akt K C fI f=true)(F:Fun K "__init__" q st fI fd):IniT K mg c f q st:=by
 obtain⟨C',h1,h2⟩:=qi X G e hc;have z:=h2.ns.symm.trans aC;cases z;unfold akt at e2;simp only[bG,beq_iff_eq] at e2;obtain⟨⟨⟨a1,a2⟩,a3⟩,a4⟩:=e2;exact⟨C,fI,fd,h1,h2,a1,⟨h2.ok,a2,a3,a4⟩,F⟩
def aum(K:Fg9)(cs:List Str)(f:Str):Bool:=cs.all fun c=>match clsAt K c with
 | some C=>lM K (.ref C) f==some none
 | none=>false
theorem ae6{cs:List Str}(h:aum K cs f=true):∀c C,cs.contains c=true->nsIn K bA c=some (some (.ref C))->lM K (.ref C) f=some none:=fun c C hc hn=>by
 have z:=dD.mp h c (dZ.mp hc);rw[adk hn] at z;exact beq_iff_eq.mp z
end
end Dn
namespace Stt
open PySem
def Rise(t:dH):Prop:=t.place.toList.Pairwise (· < ·)
theorem Rise.lt{t:dH}(h:Rise t){i j:Nat}{x y:Nat}(hij:i < j)(hx:t.place[i]? = some x)(hy:t.place[j]? = some y):x < y:=by
 obtain⟨hi,rfl⟩:=fL.mp hx;obtain⟨hj,rfl⟩:=fL.mp hy;have:=List.pairwise_iff_getElem.mp h i j (by simpa using hi) (by simpa using hj) hij
 simpa using this
def Cut(xs:Array Nat)(j p:Nat):Prop:=p<=xs.size/\(∀i x,i < p->xs[i]? = some x->x < j)/\∀i x,p<=i->xs[i]? = some x->j<=x
theorem ajc{xs:Array Nat}(hs:xs.toList.Pairwise (· < ·))(j:Nat):∀(fuel lo hi:Nat),hi - lo<=fuel->lo<=hi->hi<=xs.size->(∀i x,i < lo->xs[i]? = some x->x < j)->(∀i x,hi<=i->xs[i]? = some x->j<=x) ->
  Cut xs j (xJ xs j fuel lo hi)
 | 0,lo,hi,hf,hle,hsz,a,b=>by
  have:lo=hi:=by omega
  subst this;exact⟨hsz,a,b⟩
 | fuel+1,lo,hi,hf,hle,hsz,a,b=>by
  unfold xJ;split
  ·rename_i hlt;dsimp only;have hm:(lo+hi) / 2 < xs.size:=by omega
   have hg:xs.getD ((lo+hi) / 2) j=xs[(lo+hi) / 2]:=by simp[yI,hm]
   have hx:xs[(lo+hi) / 2]? = some (xs[(lo+hi) / 2]):=by simp[hm]
   rw[hg]
   by_cases hc:xs[(lo+hi) / 2] < j
   ·rw[if_pos hc];refine ajc hs j fuel ((lo+hi) / 2+1) hi (by omega) (by omega) hsz (fun i x hi' hx' =>?_) b
    rcases iB i ((lo+hi) / 2) with h | h
    ·exact oF (Rise.lt (t:={ mask:=0,place:=xs,dummies := #[],finger:=0,led:=true,moves:=0,plain:=true }) hs h hx' hx) hc
    ·have:i=(lo+hi) / 2:=by omega
     subst this;rw[hx] at hx';cases hx';exact hc
   ·rw[if_neg hc];refine ajc hs j fuel lo ((lo+hi) / 2) (by omega) (by omega) (by omega) a (fun i x hi' hx' =>?_)
    rcases iB ((lo+hi) / 2) i with h | h
    ·exact cR (oX.mp hc) (oG (Rise.lt (t:={ mask:=0,place:=xs,dummies := #[],finger:=0,led:=true,moves:=0,plain:=true }) hs h hx hx'))
    ·have:i=(lo+hi) / 2:=by omega
     subst this;rw[hx] at hx';cases hx';omega
  ·have:lo=hi:=by omega
   subst this;exact⟨hsz,a,b⟩
theorem agx{xs:Array Nat}(hs:xs.toList.Pairwise (· < ·))(j:Nat):Cut xs j (fX xs j) :=
 ajc hs j xs.size 0 xs.size (by omega) (gQ _) (aN _) (fun i x h _=>absurd h (pZ _)) fun i x h hx=>by
  obtain⟨h',_⟩:=fL.mp hx;omega
theorem aqy{t:dH}(h:Rise t):fX t.place 0=0:=by
 obtain⟨hp,a,b⟩:=agx h 0;rcases wN (fX t.place 0) with h0 | h0
 ·exact h0
 ·have h1:0 < t.place.size:=by omega
  exact absurd (a 0 t.place[0] h0 (by simp[h1])) (pZ _)
theorem aqz{t:dH}(h:Rise t){i x:Nat}(hx:t.place[i]? = some x):fX t.place (x+1)=i+1:=by
 obtain⟨hp,a,b⟩:=agx h (x+1);rcases Nat.lt_trichotomy (fX t.place (x+1)) (i+1) with h1 | h1 | h1
 ·have:=b i x (by omega) hx
  omega
 ·exact h1
 ·have h2:i+1 < t.place.size:=by omega
  have h3:t.place[i+1]? = some t.place[i+1]:=by simp[h2]
  have:=a (i+1) _ h1 h3;have:=h.lt (lK i) hx h3;omega
theorem amb{t:dH}(h:Rise t){j:Nat}(hj:t.place[fX t.place j]? ≠ some j):(SetTable.insertAt t.place (fX t.place j) j).toList.Pairwise (· < ·):=by
 obtain⟨hp,a,b⟩:=agx h j;rw[SetTable.toList_insertAt];generalize hq:fX t.place j=p at *;rw[List.pairwise_append];refine⟨List.Pairwise.sublist (xR _ _) h,?_,?_⟩
 ·rw[iK];refine⟨fun y hy =>?_,qJ (List.drop_sublist _ _) h⟩
  obtain⟨i,hi,rfl⟩:=iU.mp hy;rw[jN,bT] at hi;rw[xV,qT];have h1:t.place[p+i]? = some t.place[p+i]:=by simp
  have h2:=b (p+i) _ (by omega) h1
  rcases Nat.eq_or_lt_of_le h2 with e | e
  ·exfalso;rcases wN i with z | z
   ·subst z;exact hj (by rw[e];exact h1)
   ·have h3:t.place[p]? = some t.place[p]:=by simp
    have h4:=h.lt (show p < p+i by omega) h3 h1
    have h5:=b p _ (aN _) h3;omega
  ·exact e
 ·intro x hx y hy;have hxj:x < j:=by
   obtain⟨i,hi,rfl⟩:=iU.mp hx;rw[gC,bT] at hi;rw[List.getElem_take,qT];exact a i _ (by omega) (by simp)
  rcases bF.mp hy with rfl | hy
  ·exact hxj
  ·obtain⟨i,hi,rfl⟩:=iU.mp hy;rw[jN,bT] at hi;rw[xV,qT];have:=b (p+i) t.place[p+i] (by omega) (by simp)
   omega
def Away(t:dH)(j:Nat):Prop:=t.place[fX t.place j]? ≠ some j
theorem ajn{t:dH}{j:Nat}(h:∀i,t.slot j≠.live i):Away t j:=fun e=>h (fX t.place j) (by
 unfold SetTable.slot;dsimp only;rw[if_pos (by rw[e];exact beq_self_eq_true _)])
theorem ad2{t:dH}{f:Nat->Int}{h:Int}:∀(fuel:Nat) (p:zF) (j:Nat) (d:Option Nat),(∀x,p.dummy=some x->Away t x)->xH t f h fuel p=some (.empty j d)->Away t (d.getD j)
 | 0,p,j,d,_,e=>by cases e
 | fuel+1,p,j,d,hd,e=>by
  unfold xH at e;have adv:∀q:zF,(t.advance q).dummy=q.dummy:=fun q=>by unfold SetTable.advance;split <;> rfl
  split at e
  ·rename_i hs;cases e;cases hq:p.dummy with
   | none=>exact ajn fun i z=>by rw[sI,hs] at z;cases z
   | some x=>exact hd x hq
  ·rename_i hs;refine ad2 fuel _ j d (fun x hx =>?_) e
   rw[adv] at hx;cases hx;exact ajn fun i z=>by rw[hs] at z;cases z
  ·split at e
   ·cases e
   ·exact ad2 fuel _ j d (fun x hx=>by rw[adv] at hx;exact hd x hx) e
theorem aui{t:dH}{h:Int}{j:Nat}{b:Bool}(e:t.freeSlot h=some (j,b)):Away t j:=by
 unfold SetTable.freeSlot at e;split at e
 ·rename_i j' d hp;cases e;exact ad2 _ _ j' d (fun x hx=>by cases hx) hp
 ·cases e
theorem apz(n:Nat):(Array.range n).toList.Pairwise (· < ·):=by
 rw[Array.toList_range];exact mQ
def Kept(b:Bool)(t:dH):Prop:=Rise t/\t.led=b
theorem Kept.standIn{b:Bool}{t:dH}(h:Kept b t)(n:Nat):Kept b (t.standIn n):=⟨apz n,h.2⟩
theorem amq{b:Bool}{t:dH}(h:Kept b t)(es:Array (Int×Value))(k:Int)(x:aD):Kept b (layNew t es k x).2.1:=by
 unfold layNew;split
 ·rename_i slot wd e;dsimp only;have h':Kept b (t.put slot).1:=⟨amb h.1 (aui e),h.2⟩;unfold SetTable.orStandIn;split
  ·exact h'
  ·exact h'.standIn _
 ·exact h.standIn _
theorem atm{m f mv:Nat}{b p:Bool}{hs:Array Int}{t:dH}{o:Array Nat}(e:zN m f mv b p hs=some (t,o)):Kept b t:=by
 unfold zN at e;cases e1:SetTable.layClean m hs with
 | none=>rw[e1] at e;cases e
 | some ow =>
  rw[e1] at e;cases e;refine⟨?_,rfl⟩;show List.Pairwise _ _;dsimp only;have h0:((aJ (m+1)).filterMap fun j=>(ow.getD j none).map (j,·)).map (·.1)=(aJ (m+1)).filter fun j=>(ow.getD j none).isSome:=by
   generalize aJ (m+1)=l
   induction l with
   | nil=>rfl
   | cons a r ih =>
    cases h:ow.getD a none with
    | none=>simp only[iI,lL,h,Option.map_none,Option.isSome_none];simpa using ih
    | some z=>simp only[iI,lL,h,Option.map_some,Option.isSome_some,aW];simpa using ih
  rw[h0];exact qJ wA mQ
theorem apx{b:Bool}{t:dH}(h:Kept b t)(es:Array (Int×Value))(n:Nat):Kept b (relayAll t es n).2.1:=by
 unfold relayAll;split
 ·rename_i t' o e;dsimp only;split
  ·have:=atm e;rw[h.2] at this;exact this
  ·exact h.standIn _
 ·exact h.standIn _
theorem aqr(b:Bool):Kept b (.fresh 0 0 b):=⟨List.Pairwise.nil,rfl⟩
open PySem.Spec PyProof.Rows
def keyE(e:Int×Value):Int:=match e.2 with
 | .int k _=>k
 | _=>0
def Ent(e:Int×Value):Prop:=∃k u,e=(qY k,oU k u)
structure SetG (w:dJ) (es:Array (Int×Value)) (t:dH) (ns:List Int):Prop where
 ent:∀e∈es.toList,Ent e
 nd:(es.toList.map keyE).Nodup
 mem:∀k,k∈es.toList.map keyE↔k∈ns
 fit:t.fits es.size=true
 kept:Kept (!w.params.followText "set-order") t
def setO(es:Array (Int×Value))(ep:Nat)(t:dH):Obj:={ cls:=.type "set", dict:=none,data:=.set es ep t }
theorem SetG.elems{prog:cA}{w:dJ}{es:Array (Int×Value)}{t:dH}{ns:List Int}(g:SetG w es t ns):ElemsOf (qX prog w) es.toList:=fun e he=>by
 obtain⟨k,u,rfl⟩:=g.ent e he;exact⟨⟨k,intKind_is _ _ _ _,rfl⟩,rfl⟩
theorem SetG.empty(w:dJ):SetG w #[] (.fresh 0 0 (!w.params.followText "set-order")) []:=⟨fun e he=>by simp at he,xW,fun k=>by simp,rfl,aqr _⟩
theorem auu{e:Int×Value}(h:Ent e)(k:Int):tG k e.2=true↔keyE e=k:=by
 obtain⟨j,u,rfl⟩:=h;simp[tG,keyE]
theorem SetG.push{w:dJ}{es es':Array (Int×Value)}{t t':dH}{ns:List Int}{k:Int}{u:Tok}(g:SetG w es t ns)(hn:k∉es.toList.map keyE)(hp:es'.toList.Perm (es.push (qY k,.int k u)).toList)(hf:t'.fits es'.size=true)
  (hk:Kept (!w.params.followText "set-order") t'):SetG w es' t' (ns++[k]):=by
 rw[yH] at hp;have hm:=hp.map keyE;rw[bW] at hm;refine⟨fun e he =>?_,?_,fun j =>?_,hf,hk⟩
 ·rcases dG.mp (hp.mem_iff.mp he) with h | h
  ·exact g.ent e h
  ·rw[bO] at h;exact⟨k,u,h⟩
 ·rw[hm.nodup_iff,oY];refine⟨g.nd,by simp,fun a ha b hb e =>?_⟩
  simp only[aW,rY,bO] at hb;subst hb;subst e;exact hn ha
 ·rw[hm.mem_iff,dG,dG,g.mem j];rfl
theorem SetG.perm{w:dJ}{es es':Array (Int×Value)}{t t':dH}{ns:List Int}(g:SetG w es t ns)(hp:es'.toList.Perm es.toList)(hf:t'.fits es'.size=true)(hk:Kept (!w.params.followText "set-order") t'):SetG w es' t' ns :=
 ⟨fun e he=>g.ent e (hp.mem_iff.mp he),(hp.map keyE).nodup_iff.mpr g.nd,fun k=>by rw[(hp.map keyE).mem_iff,g.mem k],hf,hk⟩
section
variable{prog:cA}{w:dJ}{A:cW}{E:aD->aH->Prop}{s:aH}
theorem anp{h:fK}{a:aX}{es es':Array (Int×Value)}{ep:Nat}{t t':dH}(ho:h.get? a=some (setO es ep t)):(h.update a (xQ es' t')).get? a=some (setO es' (ep+1) t'):=by
 have:=cH (xQ es' t') ho (by rw[putSet_of es' t' (o:=setO es ep t) rfl];rfl)
 rw[putSet_of es' t' (o:=setO es ep t) rfl] at this;exact this
theorem azl{a:aX}{es es1:Array (Int×Value)}{ep:Nat}{t t2:dH}{ns:List Int}(g:Bool->Sem Unit)(hg:∀(b:Bool) (s₁:aH) (Q':Unit->aH->Prop),Q' () s₁->bL (bU prog w) A (g b) Q' E s₁)
  (ho:s.heap.get? a=some (setO es ep t)) (G:SetG w es1 t2 ns) (hb:es1.size < oO) {wasDummy:Bool} {R:Option Bool->aH->Prop}
  (h:∀h' es' ep' t',fP a s.heap h'->h'.get? a=some (setO es' ep' t')->SetG w es' t' ns->es'.size=es1.size->R (some true) { s with heap:=h' }) :
  bL (bU prog w) A (do
    storeSet a es1 t2
    if (!wasDummy&&t2.tooFull)=true then do
      g (relayAll t2 es1 (oK es1.size)).2.2
      storeSet a (relayAll t2 es1 (oK es1.size)).1 (relayAll t2 es1 (oK es1.size)).2.1
      pure (some true)
     else pure (some true)) R E s:=by
 refine aA (wpAny_storeSet_of ho rfl ?_ (fits_of_scanBound hb));have h1:=anp (es':=es1) (t':=t2) ho;have b1:=dR s.heap a (xQ es1 t2);split
 ·have hp:=relayAll_perm t2 es1 (oK es1.size);have hsz:(relayAll t2 es1 (oK es1.size)).1.size=es1.size:=by rw[<-bT,hp.length_eq,bT]
  refine aA (hg _ _ _ ?_);refine aA (wpAny_storeSet_of h1 rfl ?_ (fits_of_scanBound (by rw[hsz];exact hb)))
  exact aG (h _ _ _ _ (b1.trans (dR _ a _)) (anp h1) (G.perm hp (relayAll_fits _ _ _) (apx G.kept _ _)) hsz)
 ·exact aG (h _ _ _ _ b1 h1 G rfl)
theorem a6v{a:aX}{es:Array (Int×Value)}{ep:Nat}{t:dH}{ns:List Int}{k:Int}{u:Tok}{Q:Bool->aH->Prop}(ho:s.heap.get? a=some (setO es ep t))(G:SetG w es t ns)(hb:es.size+1 < oO)
  (h:∀h' es' ep' t' b,fP a s.heap h'->h'.get? a=some (setO es' ep' t')->SetG w es' t' (ns++[k])->es'.size<=es.size+1->Q b { s with heap:=h' }) :
  bL (bU prog w) A (setAddHashed a (.int k u) (qY k)) Q E s:=by
 have hel:ElemsOf (qX prog w) es.toList:=G.elems;have hkey:(qX prog w).is k (.int k u)=true:=intKind_is _ _ _ _;unfold setAddHashed setAddHashedIn;refine eX (aA (wpAny_setState_of ho rfl G.fit ?_));dsimp only;rw[byScan_of (knd:=qX prog w) rfl (by omega) hel]
 simp only[↓reduceIte];unfold setAddByScan;refine aA ?_;refine aA (mU ?_);refine aA (wpAny_setScan_of (knd:=qX prog w) hkey ho rfl G.fit hel ?_);cases hr:rF (fun e=>(qX prog w).is k e.2) es.toList with
 | some j =>
  dsimp only;obtain⟨hj,hpj,_⟩:=mG.mp hr;have hin:k∈es.toList.map keyE:=bD.mpr ⟨_,dC hj,(auu (G.ent _ (dC hj)) k).mp hpj⟩;refine aG (aG ?_);refine h s.heap es ep t _ (xZ a s.heap) ho ⟨G.ent,G.nd,fun j' =>?_,G.fit,G.kept⟩ (by omega)
  rw[dG,bO,G.mem j'];exact⟨.inl,fun z=>z.elim id fun z=>z▸(G.mem k).mp hin⟩
 | none =>
  dsimp only;have hout:k∉es.toList.map keyE:=fun z=>by
   obtain⟨e,he,hk⟩:=bD.mp z;have h1:=uG.mp hr e he;have h2:(qX prog w).is k e.2=true:=(auu (G.ent e he) k).mpr hk;rw[h2] at h1;cases h1
  have hgw:∀(b:Bool) {s₁:aH} {Q':Unit->aH->Prop},Q' () s₁->bL (bU prog w) A (match b with | true=>rule "set.scan.the-table-gave-way" | false=>pure ()) Q' E s₁ :=
   fun b s₁ Q' hq=>by cases b <;> first | exact aG hq | exact mU hq
  have hperm:=layNew_perm t es (qY k) (.int k u);have hfits:=layNew_fits t es (qY k) (.int k u);have hkept:=amq G.kept es (qY k) (.int k u);show bL (bU prog w) A _ _ _ _
  change bL (bU prog w) A (match layNew t es (qY k) (.int k u) with | (es,t,wasDummy,gave)=>_) _ _ _
  generalize hL:layNew t es (qY k) (.int k u)=L at hperm hfits hkept ⊢
  obtain⟨es1,t1,wasDummy,gave⟩:=L;dsimp only at hperm hfits hkept ⊢
  have G1:=G.push hout hperm hfits hkept;have hsz1:es1.size=es.size+1:=by rw[<-bT,hperm.length_eq,bT,Array.size_push]
  refine aA (hgw _ ?_);split
  ·refine aA ?_;rw[hashByValue_scannable 8 rfl];refine aG ?_;refine azl _ ?_ ho (ns:=ns++[k]) ?_ (by omega) ?_
   ·intro b s₁ Q' hq;cases b <;> first | exact aG hq | exact mU hq
   ·exact G1
   ·intro h' es' ep' t' hsb ho' G' hz;exact aG (h h' es' ep' t' _ hsb ho' G' (by omega))
  ·refine aA (aG ?_);simp only[↓reduceIte];refine azl _ ?_ ho (ns:=ns++[k]) G1 (by omega) ?_
   ·intro b s₁ Q' hq;cases b <;> first | exact aG hq | exact mU hq
   ·intro h' es' ep' t' hsb ho' G' hz;exact aG (h h' es' ep' t' _ hsb ho' G' (by omega))
end
section
variable{prog:cA}{w:dJ}{A:cW}{R:Result->aH->Prop}{I:aX}{fp wr:List aX}{G:Array GenState->Array GenState->Prop}{n:Nat}{P:Nat->aD->Prop}{St:Nat->aH->Prop}
theorem azr(W:WalksS prog w A.in1 I fp wr G n P St)(S:aX)(hSf:S∉fp)(val:Nat->Int)(hval:∀i v,P i v->∃t,v=.int (val i) t)(hb:n+1 < oO) :
  ∀(k i:Nat) (s:aH) (es:Array (Int×Value)) (ep:Nat) (t:dH),n - i=k->i<=n->St i s->s.heap.get? S=some (setO es ep t)->SetG w es t ((aJ i).map val)->es.size<=i ->
   (∀s' es' ep' t',Moved (S::wr) G s s'->s'.heap.get? S=some (setO es' ep' t')->SetG w es' t' ((aJ n).map val)->es'.size<=n->R (.ok (.ret .none)) s') ->
   pB (bU prog w) A (.builtin "set.update.loop" ⟨[.ref S,.ref I],[]⟩) R s:=by
 have hSw:S∉wr:=fun h=>hSf (W.sub _ h)
 have hsub:∀b∈wr,b∈S::wr:=fun b hb=>aL _ hb
 intro k
 induction k with
 | zero =>
  intro i s es ep t hk hi hst ho g hz hR;have hin:i=n:=by omega
  subst hin;refine codeAny_builtin uX ?_;rw[lH pN _];show bL _ A.in1 (oR (.ref I) >>= _) _ _ s;refine aA (W.done s _ _ hst fun s' hm =>?_)
  show bL _ A.in1 (ret cU) _ _ s';exact aG (hR s' es ep t (hm.mono hsub) (hm.heap S _ hSw ho) g hz)
 | succ k ih =>
  intro i s es ep t hk hi hst ho g hz hR;have hlt:i < n:=by omega
  refine codeAny_builtin uX ?_;rw[lH pN _];show bL _ A.in1 (oR (.ref I) >>= _) _ _ s;refine aA (W.item i s _ _ hlt hst fun v s' hP hst' hm =>?_)
  obtain⟨u,rfl⟩:=hval i v hP;have ho':s'.heap.get? S=some (setO es ep t):=hm.heap S _ hSw ho;show bL _ A.in1 (mW [oU (val i) u] (setAdd S (.int (val i) u)) >>= _) _ _ s';refine aA (eX ?_);unfold setAdd;refine eX ?_;refine aA ((qX prog w).pyHash (k:=val i) (intKind_is _ _ _ _) ?_);refine a6v (s:={ s' with toks:=s'.toks+1 }) (u:=u) (k:=val i) ho' g (by omega) fun h' es' ep' t' b hsb ho2 g2 hz2 =>?_
  have g3:SetG w es' t' ((aJ (i+1)).map val):=by
   rw[jX,bW];exact g2
  refine aG ⟨plainId_quiet pN _,ih (i+1) _ es' ep' t' (by omega) hlt (W.frame _ s' _ _ hst' (mY _) fun b hb o e =>?_) ho2 g3 (by omega) fun s'' es'' ep'' t'' hm'' ho'' g'' hz'' =>?_⟩
  ·rw[hsb.2 b (fun h:b=S=>hSf (by rw[<-h];exact hb))];exact e
  ·refine hR s'' es'' ep'' t'' (Moved.trans W.gtrans ((hm.mono hsub).then_heap (mY _) fun b o hb e =>?_) hm'') ho'' g'' hz''
   rw[hsb.2 b (fun h:b=S=>hb (by rw[h];exact aP))];exact e
end
theorem sub_tuple_set:isSubtype (.type "tuple") (.type "set")=pure false:=by rw[isSubtype_type];kernel_rfl
theorem sub_tuple_frozenset:isSubtype (.type "tuple") (.type "frozenset")=pure false:=by rw[isSubtype_type];kernel_rfl
section
variable{prog:cA}{w:dJ}{A:cW}{E:aD->aH->Prop}{s:aH}
abbrev fresh0(w:dJ):Obj:=setO #[] 0 (.fresh 0 0 (!w.params.followText "set-order"))
theorem a1a(a:aD){Q₁:aD->aH->Prop}(h:Q₁ (.ref s.heap.objs.size) { s with heap:=s.heap.push (fresh0 w) }) :
  pB (bU prog w) A (.call (.builtin "set.__new__") ⟨[.type "set", a],[]⟩) (wants Q₁ E) s:=by
 refine codeAny_of_tree ?_;show bL _ A.in1 (do checkBuiltinCall "set.__new__" ⟨[.type "set", a],[]⟩;again (.builtin "set.__new__" ⟨[.type "set", a],[]⟩)) _ _ s
 refine aA (wpAny_of_eq (F.newCall_set_1 a) (aG ⟨plainId_quiet zA _,codeAny_builtin F.entry_set_new ?_⟩));rw[lH zA _];unfold jL.«set.__new__» Builtin.Frozenset.newClass;have hsub:=sub_set_self;obtain⟨hp,g,d,tk,os⟩:=s;dsimp only;wp_walk;refine wpAny_askSetting (aG ?_);dsimp only;simp only[newObj];refine aA (wpAny_alloc (aG ?_));exact aG h
set_option maxRecDepth 100000 in
set_option maxHeartbeats 3200000 in
theorem a3k{l:aX}{items:Array aD}{ns:List Int}{Q:aD->aH->Prop}(hh:A.handled=none)(hl:s.heap.IsTuple l items)(hi:pK items.toList ns)(hb:items.size+1 < oO)
  (h:∀(h':fK) (tk:Nat) es ep t,h'.get? s.heap.objs.size=some (setO es ep t)->SetG w es t ns->es.size<=items.size->(∀b o,s.heap.get? b=some o->h'.get? b=some o)->Q (.ref s.heap.objs.size) { s with heap:=h',toks:=tk }) :
  bL (bU prog w) A (call (.type "set") [.ref l]) Q E s:=by
 obtain⟨c,tl,hmro⟩:=lU.mro;have hmade:=lU.made;have hsub:=lU.sub;refine mV (codeAny_of_tree ?_);show bL _ _ (callAny (.type "set") _) _ _ _;refine aG ⟨Code.quiet_builtin _ (by decide +kernel),codeAny_builtin F.entry_type_call ?_⟩
 rw[Around.under_plain (weight_type_call_type "set" [.ref l] []) rfl];have h1:=lU.notType;have h2:=lU.canCreate;have hct:=F.typeCall_set_1 (.ref l)
 repeat (any_goals (first | assumption | wp_step))
 refine jU (a1a (.ref l) (E:=E) (Q₁:=fun obj s₁=>obj=.ref s.heap.objs.size/\s₁={ s with heap:=s.heap.push (fresh0 w) }) ⟨rfl,rfl⟩) fun r s₁ hr =>?_
 cases r with
 | error e=>exact hr
 | ok fl =>
  cases fl with
  | ret obj =>
   obtain⟨rfl,rfl⟩:=hr;have hS:(s.heap.push (fresh0 w)).get? s.heap.objs.size=some (fresh0 w):=aO _ rfl;have hT:Shared.TypeIs { s with heap:=s.heap.push (fresh0 w) } (.ref s.heap.objs.size) "set" := ⟨_,hS,rfl⟩
   have hli:=lU.init.lookup;have hbi:=lU.init.bind (.ref s.heap.objs.size)
   repeat (any_goals (first | assumption | wp_step))
   refine jU (codeAny_call_builtin (R:=wants (fun r s₂=>r=.none/\∃h' tk es ep t,s₂={ s with heap:=h',toks:=tk }/\h'.get? s.heap.objs.size=some (setO es ep t)/\SetG w es t ns/\es.size<=items.size /\
     (∀b o,s.heap.get? b=some o->h'.get? b=some o)) E) lU.init.plain F.entry_set_init (check_set_init_1 hT ?_)) fun r₂ s₂ hr₂ =>?_
   ·obtain⟨ol,hol,hcl,nl,hdl⟩:=hl;obtain⟨ocls,odict,odata,oslots⟩:=ol;simp only at hcl hdl;subst hcl;subst hdl;have hol':(s.heap.push (fresh0 w)).get? l=some { cls:=.type "tuple", dict:=odict,data:=.seq items nl,slots:=oslots }:=aB _ hol;have hsls:=sub_tuple_set;have hslf:=sub_tuple_frozenset;have hne:(kI "tuple" == kI "dict")=false:=by decide
    have hl1:(s.heap.push (fresh0 w)).IsTuple l items:=⟨_,hol',rfl,nl,rfl⟩;unfold jL.«set.__init__» noKeywords Builtin.Frozenset.updateFrom;generalize hPI:pyIter=PI;wp_walk;subst hPI;refine wpAny_pyIter_tuple hl1 ?_;refine aA (wpAny_runValue ?_);have hlS:l < s.heap.objs.size:=aR hol;have hh3:A.in1.in1.in1.handled=none:=by simp[hh]
    have hneI:l≠(s.heap.push (fresh0 w)).objs.size:=by
     rw[cY];exact bQ (rQ hlS)
    have hSf:s.heap.objs.size∉[(s.heap.push (fresh0 w)).objs.size,l]:=by
     rw[cY];simp only[bF,bO,eQ,or_false,not_or];exact⟨Nat.ne_of_lt (lK _),gK hlS⟩
    have hval:∀(i:Nat) (v:aD),items[i]? = some v->∃t,v=.int ((fun i=>ns.getD i 0) i) t:=fun i v hv =>
     PyProof.Rows.IntsAre.int_at hi i v (by rw[qM];exact hv)
    have hlen:items.size=ns.length:=by rw[<-bT];exact hi.length
    have hns:(aJ items.size).map (fun i=>ns.getD i 0)=ns:=by
     rw[hlen];apply sU
     ·simp
     ·intro i h1 h2;simp[aY,h2]
    refine azr ((Walks.tuple hh3 _ l hneI items).toS) s.heap.objs.size hSf (fun i=>ns.getD i 0) hval hb (items.size - 0) 0 _ #[] 0 _ (by omega) (gQ _)
     ⟨⟨_,aO _ rfl,rfl,rfl⟩,(hl1.push _)⟩ (aB _ hS) (SetG.empty w) (gQ _) ?hR
    case hR =>
     intro s' es ep t hm ho' g' hz';rw[hns] at g';obtain⟨h',g₀,d',tk',os'⟩:=s';have eg:g₀=s.gens:=hm.gens;have ed:d'=s.drawn:=hm.drawn;have eo:os'=s.os:=hm.os;subst eg;subst ed;subst eo;show bL _ _ _ _ _ _;refine aG ?_;show bL _ _ (ret cU) _ _ _;refine aG ⟨rfl,h',tk',es,ep,t,rfl,ho',g',hz',fun b o e =>?_⟩
     have hlt:=aR e;have hb1:b≠s.heap.objs.size:=bQ hlt;have hb2:b≠(s.heap.push (fresh0 w)).objs.size:=by
      rw[cY];exact bQ (rQ hlt)
     exact hm.heap b o (by simp only[bF,bO,eQ,or_false,not_or];exact⟨hb1,hb2⟩) (aB _ (aB _ e))
   ·cases r₂ with
    | error e=>exact hr₂
    | ok fl₂ =>
     cases fl₂ with
     | ret r =>
      obtain⟨rfl,h',tk,es,ep,t,rfl,hS',g',hz',hk'⟩:=hr₂
      repeat (any_goals (first | assumption | wp_step))
      exact h _ _ _ _ _ hS' g' hz' hk'
     | _=>exact hr₂.elim
  | _=>exact hr.elim
end
theorem ag5:entryFor table "set.__iter__" = some jL.«frozenset.__iter__» :=
 entryFor_alias (id' := "frozenset.__iter__") (by kernel_rfl) rfl (by decide +kernel) (by kernel_rfl)
theorem ir:Slot "set_iterator" "__next__" "set_iterator.__next__" :=
 .of (owner := "set_iterator") (n := "__next__") (by rw[typeLookup_type,builtinLookup_eq_fast];kernel_rfl) (by decide +kernel) (by decide +kernel) (by decide +kernel)
  (by first | exact .inl (by decide +kernel) | exact .inr (by decide +kernel)) (by rw[isSubtype_type];kernel_rfl)
theorem wu:entryFor table "set_iterator.__next__" = some jL.«set_iterator.__next__» := entryFor_of_tree (by kernel_rfl)
theorem aeh:Slot "set_iterator" "__iter__" "set_iterator.__iter__" :=
 .of (owner := "set_iterator") (n := "__iter__") (by rw[typeLookup_type,builtinLookup_eq_fast];kernel_rfl) (by decide +kernel) (by decide +kernel) (by decide +kernel)
  (by first | exact .inl (by decide +kernel) | exact .inr (by decide +kernel)) (by rw[isSubtype_type];kernel_rfl)
theorem ai6:entryFor table "set_iterator.__iter__" = some jL.«dict_keyiterator.__iter__» :=
 entryFor_alias (id' := "dict_keyiterator.__iter__") (by kernel_rfl) rfl (by decide +kernel) (by kernel_rfl)
theorem anz:Manifest.owners.lookup (String.ofList ['r','o','t','a','r','e','t','i','_','t','e','s'].reverse)=some Manifest.sig_set_iterator:=by kernel_rfl
theorem yo(a:aD):argsOk "set_iterator.__next__" ⟨[a],[]⟩:=by
 unfold argsOk;rw[signature?_of (id := "set_iterator.__next__") (n:=['_','_','t','x','e','n','_','_']) (o:=['r','o','t','a','r','e','t','i','_','t','e','s']) (by kernel_rfl) anz];kernel_rfl
theorem alu(a:aD):argsOk "set_iterator.__iter__" ⟨[a],[]⟩:=by
 unfold argsOk;rw[signature?_of (id := "set_iterator.__iter__") (n:=['_','_','r','e','t','i','_','_']) (o:=['r','o','t','a','r','e','t','i','_','t','e','s']) (by kernel_rfl) anz];kernel_rfl
def IsSI(h:fK)(I S:aX)(first:aD)(i n ep:Nat):Prop:=∃o,h.get? I=some o/\o.cls=.type "set_iterator" /\ o.data=.fields #[first,.int i 0,.ref S,.int n 0,.int ep 0]
theorem IsSI.typeIs{s:aH}{I S:aX}{first:aD}{i n ep:Nat}(x:IsSI s.heap I S first i n ep):s.TypeIs (.ref I) "set_iterator" := let ⟨o,ho,hc,_⟩:=x;⟨o,ho,hc⟩
theorem IsSI.at{h h':fK}{I S:aX}{first:aD}{i n ep:Nat}(x:IsSI h I S first i n ep)(e:∀o,h.get? I=some o->h'.get? I=some o):IsSI h' I S first i n ep:=let ⟨o,ho,r⟩:=x;⟨o,e _ ho,r⟩
section
variable{prog:cA}{w:dJ}{A:cW}{E:aD->aH->Prop}{s:aH}
theorem al3{I S:aX}{first:aD}{i n ep:Nat}{Q:aD->aH->Prop}(hit:IsSI s.heap I S first i n ep)(h:Q (.ref I) s):bL (bU prog w) A (pyIter (.ref I)) Q E s:=by
 refine wpAny_pyIter_slot hit.typeIs aeh (fD aeh hit.typeIs ai6 ?_ (alu _));show bL _ _ (ret (.ref I)) _ _ s;exact aG ⟨_,rfl, "set_iterator", _,hit.typeIs,ir.lookup,h⟩
theorem ar7{I S:aX}{slot i:Nat}{es:Array (Int×Value)}{ep:Nat}{t:dH}{Q:Option aD->aH->Prop}{x:aD}{slot':Nat}(hit:IsSI s.heap I S (.int slot 0) i es.size ep)(ho:s.heap.get? S=some (setO es ep t))(hf:t.fits es.size=true)
  (hn:∀(A':cW) (Q':Option (aD×Nat)->aH->Prop) (E':aD->aH->Prop),Q' (some (x,slot')) s->bL (bU prog w) A' (rH S slot i ep) Q' E' s)
  (hQ:∀h',IsSI h' I S (.int slot' 0) (i+1) es.size ep->fP I s.heap h'->Q (some x) { s with heap:=h' }) :
  bL (bU prog w) A (oR (.ref I)) Q E s:=by
 obtain⟨o,hI,hc,hd⟩:=id hit;unfold oR;refine aA (wpAny_attempt (eG (name:=jV "__next__") hit.typeIs ir
  (fD ir hit.typeIs wu ?_ (yo _))))
 refine aA (aG ?_);refine aA (wpAny_fieldsOf hI hd ?_);dsimp only;refine aA (wpAny_setEntries_of ho rfl hf ?_);rw[if_neg (by simp)]
 simp only[cC];refine aA (hn _ _ _ ?_);dsimp only;refine aA (fV hI hd (by simp) ?_)
 have h1:=cH (nO (·.setIfInBounds 0 (lE (slot':Int)))) hI (fB (bV hd _));refine aA (fV h1 (bV hd _) (by simp) ?_)
 refine aG ⟨_,rfl,aG (hQ _ ?_ ((dR ..).trans (dR ..)))⟩;exact⟨_,cH _ h1 (fB (bV (bV hd _) _)),(kY ..).trans ((kY ..).trans hc),by
  rw[bV (bV hd _)];simp[lE]⟩
theorem ayn{I S:aX}{slot i:Nat}{es:Array (Int×Value)}{ep:Nat}{t:dH}{Q:Option aD->aH->Prop}(hh:A.handled=none)(hit:IsSI s.heap I S (.int slot 0) i es.size ep)(ho:s.heap.get? S=some (setO es ep t))(hf:t.fits es.size=true)
  (hn:∀(A':cW) (Q':Option (aD×Nat)->aH->Prop) (E':aD->aH->Prop),Q' none s->bL (bU prog w) A' (rH S slot i ep) Q' E' s)
  (hQ:∀h',wD I s.heap h'->Q none { s with heap:=h' }):bL (bU prog w) A (oR (.ref I)) Q E s:=by
 obtain⟨o,hI,hc,hd⟩:=id hit;unfold oR;refine aA (wpAny_attempt (eG (name:=jV "__next__") hit.typeIs ir
  (fD ir hit.typeIs wu ?_ (yo _))))
 refine aA (aG ?_);refine aA (wpAny_fieldsOf hI hd ?_);dsimp only;refine aA (wpAny_setEntries_of ho rfl hf ?_);rw[if_neg (by simp)]
 simp only[cC];refine aA (hn _ _ _ ?_);dsimp only;refine aA (fV hI hd (by simp) ?_)
 show bL _ _ (newExc (.type "StopIteration") [] >>= _) _ _ _;refine aA ?_;simp only[newExc,newTuple];refine aA (cJ ?_ (by size_fits))
 refine aA (m:=firstArgMember _ _) (wpAny_of_eq (a:=cU) (by first | rfl | (simp only[firstArgMember];rfl)) ?_)
 refine cJ ?_ (by size_fits)
 simp only[raiseNew];refine aA (wpAny_handled ?_);rw[show A.in1.handled=none from hh]
 refine aA (aG (wpAny_throw ?_));refine aA (wpAny_isInstance (T := "StopIteration") (b:=true) ⟨_,aO _ rfl,rfl⟩ isSubtype_stop ?_);exact aG (hQ _ (((dR ..).extBut.push _).push _))
theorem av4{I S q:aX}{i j m:Nat}{es:Array (Int×Value)}{ep:Nat}{t:dH}{Q:Option aD->aH->Prop}{x:Int×Value}{ps:Array aD}(hit:IsSI s.heap I S (.ref q) i es.size ep)(ho:s.heap.get? S=some (setO es ep t))(hf:t.fits es.size=true)
  (hq:∃oq,s.heap.get? q=some oq/\oq.data=.seq ps m) (hp:ps[i]? = some (.int (j:Nat) 0)) (hx:es[j]? = some x)
  (hQ:∀h',IsSI h' I S (.ref q) (i+1) es.size ep->fP I s.heap h'->Q (some x.2) { s with heap:=h' }) :
  bL (bU prog w) A (oR (.ref I)) Q E s:=by
 obtain⟨o,hI,hc,hd⟩:=id hit;obtain⟨oq,hoq,hdq⟩:=hq;unfold oR;refine aA (wpAny_attempt (eG (name:=jV "__next__") hit.typeIs ir
  (fD ir hit.typeIs wu ?_ (yo _))))
 refine aA (aG ?_);refine aA (wpAny_fieldsOf hI hd ?_);dsimp only;refine aA (wpAny_setEntries_of ho rfl hf ?_);rw[if_neg (by simp)]
 refine aA (iQ hoq hdq ?_);dsimp only;simp only[cC,hp];unfold setNextDrawn;refine aA (aA (wpAny_setState_of ho rfl hf ?_));dsimp only;rw[if_neg (by simp)]
 rw[hx];refine aG ?_;refine aA (fV hI hd (by simp) ?_)
 refine aG ⟨_,rfl,aG (hQ _ ?_ (dR ..))⟩;exact⟨_,cH _ hI (fB (bV hd _)),(kY ..).trans hc,by
  rw[bV hd];simp[lE]⟩
theorem ajp{I S q:aX}{i m:Nat}{es:Array (Int×Value)}{ep:Nat}{t:dH}{Q:Option aD->aH->Prop}{ps:Array aD}(hh:A.handled=none)(hit:IsSI s.heap I S (.ref q) i es.size ep)(ho:s.heap.get? S=some (setO es ep t))(hf:t.fits es.size=true)
  (hq:∃oq,s.heap.get? q=some oq/\oq.data=.seq ps m) (hp:ps[i]? = none)
  (hQ:∀h',wD I s.heap h'->Q none { s with heap:=h' }):bL (bU prog w) A (oR (.ref I)) Q E s:=by
 obtain⟨o,hI,hc,hd⟩:=id hit;obtain⟨oq,hoq,hdq⟩:=hq;unfold oR;refine aA (wpAny_attempt (eG (name:=jV "__next__") hit.typeIs ir
  (fD ir hit.typeIs wu ?_ (yo _))))
 refine aA (aG ?_);refine aA (wpAny_fieldsOf hI hd ?_);dsimp only;refine aA (wpAny_setEntries_of ho rfl hf ?_);rw[if_neg (by simp)]
 refine aA (iQ hoq hdq ?_);dsimp only;simp only[cC,hp];refine aA (fV hI hd (by simp) ?_)
 have h1:=cH (nO (·.setIfInBounds 0 (lE 0))) hI (fB (bV hd _));refine aA (fV h1 (bV hd _) (by simp) ?_)
 show bL _ _ (newExc (.type "StopIteration") [] >>= _) _ _ _;refine aA ?_;simp only[newExc,newTuple];refine aA (cJ ?_ (by size_fits))
 refine aA (m:=firstArgMember _ _) (wpAny_of_eq (a:=cU) (by first | rfl | (simp only[firstArgMember];rfl)) ?_)
 refine cJ ?_ (by size_fits)
 simp only[raiseNew];refine aA (wpAny_handled ?_);rw[show A.in1.handled=none from hh]
 refine aA (aG (wpAny_throw ?_));refine aA (wpAny_isInstance (T := "StopIteration") (b:=true) ⟨_,aO _ rfl,rfl⟩ isSubtype_stop ?_);exact aG (hQ _ ((((dR ..).trans (dR ..)).extBut.push _).push _))
end
section
variable{prog:cA}{w:dJ}{A:cW}{E:aD->aH->Prop}{s:aH}
theorem agw{Q:Bool->aH->Prop}(h:Q (w.params.followText "set-order") s):bL (bU prog w) A setsByText Q E s:=by
 unfold setsByText;exact aA (wpAny_askSetting (aG h))
theorem ap9{S:aX}{slot g i j:Nat}{es:Array (Int×Value)}{ep:Nat}{t:dH}{e:Int×Value}{Q:Option (aD×Nat)->aH->Prop}(ho:s.heap.get? S=some (setO es ep t))(hf:t.fits es.size=true)
  (hw:w.params.followText "set-order" = false) (hd:(!t.plain&&decide (es.size > 1))=false) (hl:t.led=true) (hb:fX t.place slot=i) (he:es[i]? = some e) (hp:t.place[i]? = some j)
  (h:Q (some (e.2,j+1)) s):bL (bU prog w) A (rH S slot g ep) Q E s:=by
 unfold rH;refine aA (wpAny_setState_of ho rfl hf ?_);dsimp only;refine aA (agw ?_);rw[hw,if_neg (by simp)]
 show bL _ _ (if (!t.plain&&decide (es.size > 1))=true then _ else _) _ _ _
 rw[hd,if_neg (by simp)]
 refine aA (m:=if (!t.led && !es.isEmpty)=true then _ else _) ?_
 rw[hl,if_neg (by simp)]
 refine aG ?_;rw[hb,he,hp];exact aG h
theorem atd{S:aX}{slot g i:Nat}{es:Array (Int×Value)}{ep:Nat}{t:dH}{Q:Option (aD×Nat)->aH->Prop}(ho:s.heap.get? S=some (setO es ep t))(hf:t.fits es.size=true)
  (hw:w.params.followText "set-order" = false) (hd:(!t.plain&&decide (es.size > 1))=false) (hl:t.led=true) (hb:fX t.place slot=i) (he:es[i]? = none)
  (h:Q none s):bL (bU prog w) A (rH S slot g ep) Q E s:=by
 unfold rH;refine aA (wpAny_setState_of ho rfl hf ?_);dsimp only;refine aA (agw ?_);rw[hw,if_neg (by simp)]
 show bL _ _ (if (!t.plain&&decide (es.size > 1))=true then _ else _) _ _ _
 rw[hd,if_neg (by simp)]
 refine aA (m:=if (!t.led && !es.isEmpty)=true then _ else _) ?_
 rw[hl,if_neg (by simp)]
 refine aG ?_;rw[hb,he];exact aG h
theorem akg{S:aX}{slot g:Nat}{es:Array (Int×Value)}{ep:Nat}{t:dH}{Q:Option (aD×Nat)->aH->Prop}(ho:s.heap.get? S=some (setO es ep t))(hf:t.fits es.size=true)
  (hw:w.params.followText "set-order" = true) (h:Q (((lW (w.params.setOrder S ep) es)[g]?).map fun e=>(e.2,slot)) s):bL (bU prog w) A (rH S slot g ep) Q E s:=by
 unfold rH;refine aA (wpAny_setState_of ho rfl hf ?_);dsimp only;refine aA (agw ?_);rw[hw,if_pos rfl,if_neg (by simp)]
 unfold setWalk;refine aA (aA (wpAny_setState_of ho rfl hf ?_));dsimp only;refine aA (agw ?_);rw[hw,if_pos rfl];exact aA (wpAny_askSetting (aG (aG h)))
theorem aed{α:Type}:∀(l:List α) (i:Nat) (x:α),l[i]? = some x->(x::l.eraseIdx i).Perm l
 | [],i,x,h=>by simp at h
 | a::r,0,x,h=>by simp at h;subst h;exact .refl _
 | a::r,i+1,x,h=>by
  rw[List.getElem?_cons_succ] at h;exact(List.Perm.swap a x _).trans ((aed r i x h).cons a)
theorem asr{α:Type}(next:Nat->Nat):∀(fuel k:Nat) (left:List α) (out:Array α),left.length=fuel->(lW.go next fuel k left out).toList.Perm (out.toList++left)
 | 0,k,left,out,h=>by
  have:left=[]:=uV.mp h;subst this;show out.toList.Perm _;simp
 | fuel+1,k,left,out,h=>by
  have hlt:next k % left.length < left.length:=Nat.mod_lt _ (by omega)
  unfold lW.go;have hx:left[next k % left.length]? = some left[next k % left.length]:=aF hlt;rw[hx];dsimp only;have hlen:(left.eraseIdx (next k % left.length)).length=fuel:=by rw[tW hlt];omega
  refine(asr next fuel (k+1) _ _ hlen).trans ?_;rw[yH,cB];exact List.Perm.append_left _ (aed _ _ _ hx)
theorem afx{α:Type}(next:Nat->Nat)(xs:Array α):(lW next xs).toList.Perm xs.toList:=by
 have:=asr next xs.size 0 xs.toList #[] (by simp)
 simpa[lW] using this
theorem aht:∀(n:Nat) {α:Type} (xs:List α) (s:aH) (Q:List α->aH->Prop),xs.length=n->(∀ys d,ys.Perm xs->Q ys { s with drawn:=d })->bL (bU prog w) A (drawOrder n xs) Q E s
 | 0,α,xs,s,Q,h,q=>by
  have:xs=[]:=uV.mp h;subst this;exact aG (q [] s.drawn (.refl _))
 | n+1,α,[],s,Q,h,q=>by cases h
 | n+1,α,x::r,s,Q,h,q=>by
  unfold drawOrder;intro Γ p hΓ;show(x::r).length≠0/\_;refine⟨by simp,?_⟩
  revert Γ p hΓ
  show bL _ _ (match (x::r)[(bU prog w).w.draws .order (s.drawn.get .order) % (x::r).length]? with | some y=>_ | none=>_) _ _ _
  have hlt:(bU prog w).w.draws .order (s.drawn.get .order) % (x::r).length < (x::r).length:=Nat.mod_lt _ (by simp)
  have hx:=aF hlt;rw[hx];refine aA (aht n _ _ _ (by rw[tW hlt];simpa using h) fun ys d hp =>?_)
  exact aG (q _ _ ((hp.cons _).trans (aed _ _ _ hx)))
end
def PW(ord:Array (Int×Value))(i:Nat)(v:aD):Prop:=∃e,ord[i]? = some e/\v=e.2
theorem al4{h h':fK}{I S:aX}{o:Obj}(hne:S≠I)(ho:h.get? S=some o)(hs:fP I h h'):h'.get? S=some o:=(hs.2 S hne).trans ho
theorem aun{t:dH}{n:Nat}(h:t.fits n=true):t.place.size=n:=by
 unfold SetTable.fits at h;rw[bG] at h;exact eq_of_beq h.1
section
variable{prog:cA}{w:dJ}{A:cW}
theorem avx(hh:A.handled=none)(I S:aX)(hne:S≠I){es:Array (Int×Value)}{ep:Nat}{t:dH}(hf:t.fits es.size=true)(hw:w.params.followText "set-order" = true) :
  Walks prog w A I [I,S] [I] es.size (PW (lW (w.params.setOrder S ep) es)) (fun i h=>IsSI h I S (.int (0:Nat) 0) i es.size ep/\h.get? S=some (setO es ep t)) where
 sub:=fun b hb=>by simp at hb;simp[hb]
 frame:=fun _ _ _ st hk=>⟨st.1.at fun o e=>hk I (by simp) o e,hk S (by simp) _ st.2⟩
 item:=fun i s Q E hi st hQ=>by
  have hsz:(lW (w.params.setOrder S ep) es).size=es.size:=by rw[<-bT,(afx _ _).length_eq,bT]
  have hx:(lW (w.params.setOrder S ep) es)[i]? = some (lW (w.params.setOrder S ep) es)[i]:=by simp[hsz,hi]
  refine ar7 (x:=((lW (w.params.setOrder S ep) es)[i]).2) (slot':=0) st.1 st.2 hf (fun A' Q' E' q=>akg st.2 hf hw (by rw[hx];exact q)) fun h' hit' hs' =>?_
  exact hQ _ h' s.toks ⟨_,hx,rfl⟩ ⟨hit',al4 hne st.2 hs'⟩ fun b o hb e=>hs'.extBut b o (fun h=>hb (by simp[h])) e
 done:=fun s Q E st hQ=>by
  have hsz:(lW (w.params.setOrder S ep) es).size=es.size:=by rw[<-bT,(afx _ _).length_eq,bT]
  refine ayn hh st.1 st.2 hf (fun A' Q' E' q=>akg st.2 hf hw (by rw[vB (by omega)];exact q)) fun h' he'=>hQ h' s.toks fun b o hb e=>he' b o (fun h=>hb (by simp[h])) e
 self:=fun _ _ _ _ st hQ=>al3 st.1 hQ
theorem arl(hh:A.handled=none)(I S:aX)(hne:S≠I){es:Array (Int×Value)}{ep:Nat}{t:dH}(hf:t.fits es.size=true)(hw:w.params.followText "set-order" = false)(hr:Rise t)(hd:(!t.plain&&decide (es.size > 1))=false)(hl:t.led=true) :
  Walks prog w A I [I,S] [I] es.size (PW es) (fun i h=>(∃slot:Nat,fX t.place slot=i/\IsSI h I S (.int slot 0) i es.size ep)/\h.get? S=some (setO es ep t)) where
 sub:=fun b hb=>by simp at hb;simp[hb]
 frame:=fun _ _ _ ⟨⟨slot,hb,st⟩,ho⟩ hk=>⟨⟨slot,hb,st.at fun o e=>hk I (by simp) o e⟩,hk S (by simp) _ ho⟩
 item:=fun i s Q E hi ⟨⟨slot,hb,st⟩,ho⟩ hQ=>by
  have hx:es[i]? = some es[i]:=by simp[hi]
  have hps:=aun hf;have hp:t.place[i]? = some (t.place[i]):=by simp[hps,hi]
  refine ar7 (x:=(es[i]).2) (slot':=t.place[i]+1) st ho hf (fun A' Q' E' q=>ap9 ho hf hw hd hl hb hx hp q) fun h' hit' hs' =>?_
  exact hQ _ h' s.toks ⟨_,hx,rfl⟩ ⟨⟨_,aqz hr hp,hit'⟩,al4 hne ho hs'⟩ fun b o hb e=>hs'.extBut b o (fun h=>hb (by simp[h])) e
 done:=fun s Q E ⟨⟨slot,hb,st⟩,ho⟩ hQ=>by
  refine ayn hh st ho hf (fun A' Q' E' q=>atd ho hf hw hd hl hb (vB (aN _)) q) fun h' he'=>hQ h' s.toks fun b o hb e=>he' b o (fun h=>hb (by simp[h])) e
 self:=fun _ _ _ _ ⟨⟨slot,hb,st⟩,ho⟩ hQ=>al3 st hQ
theorem arn(hh:A.handled=none)(I S q:aX)(hne:S≠I)(hq:q≠I){es:Array (Int×Value)}{ep:Nat}{t:dH}(hf:t.fits es.size=true)(js:List Nat)(hj:js.Perm (aJ es.size)) :
  Walks prog w A I [I,S,q] [I] es.size (PW (js.map fun j=>es.getD j (0,.none)).toArray) (fun i h=>IsSI h I S (.ref q) i es.size ep/\h.get? S=some (setO es ep t)/\∃oq m,h.get? q=some oq/\oq.data=.seq (js.map fun(j:Nat)=>lE j).toArray m) where
 sub:=fun b hb=>by simp at hb;simp[hb]
 frame:=fun _ _ _ ⟨st,ho,oq,m,h1,h2⟩ hk=>⟨st.at fun o e=>hk I (by simp) o e,hk S (by simp) _ ho,oq,m,hk q (by simp) _ h1,h2⟩
 item:=fun i s Q E hi ⟨st,ho,oq,m,h1,h2⟩ hQ=>by
  have hlen:js.length=es.size:=by rw[hj.length_eq,iC]
  have hjlt:js[i] < es.size:=cO.mp (hj.mem_iff.mp (dC (by omega)))
  have hx:es[js[i]]? = some es[js[i]]:=by simp[hjlt]
  refine av4 (j:=js[i]) (x:=es[js[i]]) st ho hf ⟨oq,h1,h2⟩ (by simp[hlen,hi,lE]) hx fun h' hit' hs' =>?_
  refine hQ _ h' s.toks ⟨es[js[i]],?_,rfl⟩ ⟨hit',al4 hne ho hs',oq,m,(hs'.2 q hq).trans h1,h2⟩ fun b o hb e=>hs'.extBut b o (fun h=>hb (by simp[h])) e
  simp[hlen,hi,yI,hjlt]
 done:=fun s Q E ⟨st,ho,oq,m,h1,h2⟩ hQ=>by
  have hlen:js.length=es.size:=by rw[hj.length_eq,iC]
  refine ajp hh st ho hf ⟨oq,h1,h2⟩ (by simp[hlen]) fun h' he'=>hQ h' s.toks fun b o hb e=>he' b o (fun h=>hb (by simp[h])) e
 self:=fun _ _ _ _ st hQ=>al3 st.1 hQ
variable{E:aD->aH->Prop}{s:aH}
theorem asb{S:aX}{es:Array (Int×Value)}{ep:Nat}{t:dH}{Q:Bool->aH->Prop}(ho:s.heap.get? S=some (setO es ep t))(hf:t.fits es.size=true)(h:Q (!w.params.followText "set-order" && (!t.plain&&decide (es.size > 1))) s) :
  bL (bU prog w) A (setDrawn S) Q E s:=by
 unfold setDrawn;refine aA (wpAny_setState_of ho rfl hf ?_);dsimp only;refine aA (agw ?_);exact aG h
theorem av6{S:aX}{es:Array (Int×Value)}{ep:Nat}{t:dH}{ns:List Int}{Q:aD->aH->Prop}(ho:s.heap.get? S=some (setO es ep t))(G:SetG w es t ns)(hb:es.size < oO)
  (h:∀(I:aX) (fp:List aX) (St:Nat->fK->Prop) (ord:Array (Int×Value)) (s':aH),(∀A':cW,A'.handled=none->Walks prog w A' I fp [I] es.size (PW ord) St)->St 0 s'.heap->ord.toList.Perm es.toList ->
   s.heap.objs.size<=I->(∀b∈fp,b=S∨s.heap.objs.size<=b)->(∀b o,s.heap.get? b=some o->s'.heap.get? b=some o)->s'.gens=s.gens->s'.os=s.os->s'.toks=s.toks->Q (.ref I) s') :
  bL (bU prog w) A (pyIter (.ref S)) Q E s:=by
 have hT:s.TypeIs (.ref S) "set" := ⟨_,ho,rfl⟩;have hSlt:S < s.heap.objs.size:=aR ho;refine wpAny_pyIter_slot hT yZ (fD yZ hT ag5 ?_ (F.args_set_iter_1 _));show bL _ _ (pure S >>= _) _ _ s;refine aA (aG ?_);unfold Builtin.Frozenset.sizeOf;refine aA (aA (wpAny_setEntries_of ho rfl G.fit (aG ?_)));refine aA (asb ho G.fit ?_);cases hw:w.params.followText "set-order" with
 | true =>
  rw[Bool.not_true,uI,if_neg (by simp)]
  refine aA (aG ?_);refine aA (wpAny_setEpoch_of ho rfl G.fit ?_);refine aA (cJ (aG ⟨_,rfl, "set_iterator", _,⟨_,aO _ rfl,rfl⟩,ir.lookup,?_⟩));refine h s.heap.objs.size [s.heap.objs.size,S] _ _ _ (fun A' hh=>avx hh _ S (bQ hSlt) G.fit hw) ⟨⟨_,aO _ rfl,rfl,rfl⟩,aB _ ho⟩ (afx _ _) (aN _) (fun b hb =>?_) (fun b o e=>aB _ e) rfl rfl rfl
  simp only[bF,eQ,or_false] at hb;rcases hb with rfl | rfl
  ·exact .inr (aN _)
  ·exact .inl rfl
 | false =>
  have hl:t.led=true:=by
   have:=G.kept.2;rw[hw] at this;exact this
  cases hd:(!t.plain&&decide (es.size > 1)) with
  | false =>
   rw[qW,if_neg (by simp)]
   refine aA (aG ?_);refine aA (wpAny_setEpoch_of ho rfl G.fit ?_);refine aA (cJ (aG ⟨_,rfl, "set_iterator", _,⟨_,aO _ rfl,rfl⟩,ir.lookup,?_⟩));refine h s.heap.objs.size [s.heap.objs.size,S] _ _ _ (fun A' hh=>arl hh _ S (bQ hSlt) G.fit hw G.kept.1 hd hl) ⟨⟨0,aqy G.kept.1,_,aO _ rfl,rfl,rfl⟩,aB _ ho⟩ (.refl _) (aN _) (fun b hb =>?_) (fun b o e=>aB _ e) rfl rfl rfl
   simp only[bF,eQ,or_false] at hb;rcases hb with rfl | rfl
   ·exact .inr (aN _)
   ·exact .inl rfl
  | true =>
   rw[Bool.not_false,Bool.true_and,if_pos rfl];refine aA (aht _ (aJ es.size) _ _ iC fun js d hj =>?_)
   have hlen:js.length=es.size:=by rw[hj.length_eq,iC]
   simp only[newTuple];refine aA (cJ ?_ (by show(js.map fun(i:Nat)=>lE i).toArray.size<=cN;rw[aU,aM,hlen];exact fits_of_scanBound hb))
   refine aA (wpAny_setEpoch_of (aB _ ho) rfl G.fit ?_);refine aA (cJ (aG ⟨_,rfl, "set_iterator", _,⟨_,aO _ rfl,rfl⟩,ir.lookup,?_⟩));have hq:∀o:Obj,s.heap.objs.size≠(s.heap.push o).objs.size:=fun o=>by rw[cY];exact bQ (lK _)
   have hS2:∀o:Obj,S≠(s.heap.push o).objs.size:=fun o=>by rw[cY];exact bQ (rQ hSlt)
   refine h _ _ _ _ _ (fun A' hh=>arn hh _ S s.heap.objs.size (hS2 _) (hq _) G.fit js hj) ⟨⟨_,aO _ rfl,rfl,rfl⟩,aB _ (aB _ ho),_,_,aB _ (aO _ rfl),rfl⟩ ?_ ?_ (fun b hb =>?_) (fun b o e=>aB _ (aB _ e)) rfl rfl rfl
   ·refine(hj.map _).trans ?_;have e:(aJ es.size).map (fun j=>es.getD j (0,cU))=es.toList:=by
     apply sU
     ·simp
     ·intro i h1 h2;have h3:i < es.size:=by simpa using h2
      simp[yI,h3]
    rw[e]
   ·rw[cY];exact mY _
   ·simp only[bF,eQ,or_false] at hb;rcases hb with rfl | rfl | rfl
    ·right;rw[cY];exact mY _
    ·exact .inl rfl
    ·exact .inr (aN _)
end
theorem ag0:typeLookup (.type "set") "__len__" = pure (some (.builtin "set.__len__")):=by rw[typeLookup_type,builtinLookup_eq_fast];kernel_rfl
theorem aeo:∀{es:List (Int×Value)},(∀e∈es,Ent e)->pK (es.map (·.2)) (es.map keyE)
 | [],_=>.nil
 | e::r,h=>by
  obtain⟨k,u,he⟩:=h e (aP ..);subst he;exact .cons k u (aeo fun e he=>h e (aL _ he))
theorem atw{ord:Array (Int×Value)}{acc:Array aD}{n:Nat}(h:ItemsOf (PW ord) acc n)(hn:ord.size=n):acc.toList=ord.toList.map (·.2):=by
 apply sU
 ·rw[aM,bT,bT,h.1,hn]
 ·intro i h1 h2;obtain⟨e,he,hv⟩:=h.2 i acc.toList[i] (by rw[<-qM];exact aF h1)
  rw[hv,List.getElem_map];rw[<-qM] at he;have h3:i < ord.toList.length:=by simpa using h2
  rw[aF h3] at he;cases he;rfl
theorem ar3{h:fK}{a:aX}{xs:Array aD}{n:Nat}(ho:h.get? a=some (seqObj "list" xs n))(vs:List aD)(out:Array aD):∃m,(sortedHeap h a vs out).get? a=some (seqObj "list" out m) :=
 ⟨_,get?_update_seq (aB _ (aB _ (get?_update_seq ho (fun _ => #[])))) (fun _=>out)⟩
theorem aps{h:fK}{a b:aX}{o:Obj}{vs:List aD}{out:Array aD}(e:h.get? b=some o)(hb:b≠a):(sortedHeap h a vs out).get? b=some o :=
 (bK _ _ (gG hb)).trans (aB _ (aB _ ((bK _ _ (gG hb)).trans e)))
section
variable{prog:cA}{w:dJ}{A:cW}{E:aD->aH->Prop}{s:aH}
theorem anc{S:aX}{es:Array (Int×Value)}{ep:Nat}{t:dH}{ns:List Int}{Q:List aD->aH->Prop}(hh:A.handled=none)(ho:s.heap.get? S=some (setO es ep t))(G:SetG w es t ns)(hb:es.size < oO)
  (hQ:∀(s':aH) (acc:List aD) (ks:List Int),s.heap.objs.size < s'.heap.objs.size->(∀b o,s.heap.get? b=some o->s'.heap.get? b=some o)->s'.gens=s.gens->s'.os=s.os->pK acc ks->ks.Perm (es.toList.map keyE)->Q acc s') :
  bL (bU prog w) A (collect (.ref S)) Q E s:=by
 have hSlt:S < s.heap.objs.size:=aR ho;unfold collect;refine aA (wpAny_runValue (codeAny_builtin F.entry_proto_collect ?_));rw[lH F.plain_proto_collect _];show bL _ A.in1 (newList [] >>= fun l=>again (.builtin "list.__iadd__" ⟨[l,.ref S],[]⟩)) _ _ s
 refine aA (cJ ?_);refine aG ⟨plainId_quiet yE _,codeAny_builtin F.entry_list_iadd ?_⟩;rw[lH yE _];have ho1:(s.heap.push { cls:=.type "list", data:=.seq ([]:List aD).toArray }).get? S=some (setO es ep t):=aB _ ho;have hL:(s.heap.push { cls:=.type "list", data:=.seq ([]:List aD).toArray }).get? s.heap.objs.size=some { cls:=.type "list", data:=.seq ([]:List aD).toArray }:=aO _ rfl;have hold:∀b o,s.heap.get? b=some o->(s.heap.push { cls:=.type "list", data:=.seq ([]:List aD).toArray }).get? b=some o:=fun b o e=>aB _ e
 have hsz1:(s.heap.push { cls:=.type "list", data:=.seq ([]:List aD).toArray }).objs.size=s.heap.objs.size+1:=cY _ _;show bL _ A.in1 (tV (.ref s.heap.objs.size) (.ref S) (.ref s.heap.objs.size)) _ _ { s with heap:=s.heap.push { cls:=.type "list", data:=.seq ([]:List aD).toArray } }
 generalize s.heap.push { cls:=.type "list", data:=.seq ([]:List aD).toArray }=H1 at ho1 hL hold hsz1 ⊢
 unfold tV;refine aA (wpAny_typeOf (T := "set") ⟨_,ho1,rfl⟩ ?_);have h1:uO (.ref s.heap.objs.size) (.ref S)=false:=by simp[uO,gK hSlt]
 have h2:(kI "set" == kI "list")=false:=by decide
 have h3:(kI "set" == kI "tuple")=false:=by decide
 simp only[h1,h2,h3,zW,mL,if_false];refine aA (av6 (s:={ s with heap:=H1 }) ho1 G hb fun I fp St ord s2 W hst hord hI hfp hk2 hg2 ho2 ht2 =>?_)
 have hSs:s2.heap.get? S=some (setO es ep t):=hk2 _ _ ho1;have hLs:s2.heap.get? s.heap.objs.size=some { cls:=.type "list", data:=.seq ([]:List aD).toArray }:=hk2 _ _ hL;refine aA (eX ?_);unfold Builtin.List.listLengthHint;refine aA (wpAny_specialOf (T := "set") ⟨_,hSs,rfl⟩ ag0 ?_);generalize hid:("set.__len__" : String)=id0
 wp_delta
 rw[show splitId id0=some ("set","__len__") from by subst hid;decide +kernel]
 subst hid;refine aA (wpAny_isInstance (T := "set") (b:=true) ⟨_,hSs,rfl⟩ (by rw[isSubtype_type];kernel_rfl) ?_)
 show bL _ A.in1 (typeOf (dF S) >>= _) _ _ _;refine aA (wpAny_typeOf (T := "set") ⟨_,hSs,rfl⟩ ?_);refine aG ?_;rw[if_pos (by decide)]
 refine aA (mU ?_);refine aA ?_;show bL _ A.in1 (updateSeq s.heap.objs.size (·.push .none) >>= fun _=>updateSeq s.heap.objs.size (·.pop)) _ _ _
 refine aA (wpAny_updateSeq hLs rfl ?_);have hS₂:=cH (jQ (·.push cU)) hLs rfl;refine wpAny_updateSeq hS₂ rfl ?_;have hS₃:=cH (jQ (·.pop)) hS₂ rfl;have oth:∀b o,b≠s.heap.objs.size->s2.heap.get? b=some o ->
   ((s2.heap.update s.heap.objs.size (jQ (·.push cU))).update s.heap.objs.size (jQ (·.pop))).get? b=some o :=
  fun b o hb e=>(bK _ _ (gG hb)).trans ((bK _ _ (gG hb)).trans e)
 have hSf:s.heap.objs.size∉fp:=fun hm=>by
  rcases hfp _ hm with e | e
  ·exact gK hSlt e
  ·have e':s.heap.objs.size+1<=s.heap.objs.size:=hsz1▸e;exact Nat.not_succ_le_self _ e'
 have hIne:s.heap.objs.size+1<=I:=hsz1▸hI;refine aG ⟨plainId_quiet F.plain_extend_loop _,codeAny_extend_loopS (W A.in1 hh).toS (fits_of_scanBound hb) _ hSf _ es.size 0 _ _ _ rfl (gQ _)
  ((W A.in1 hh).frame 0 s2.heap _ hst fun b hb o e=>oth b o (fun h=>hSf (h▸hb)) e) hS₃ (ItemsOf.nil _) fun s' acc' c' hm hS' hacc =>?_⟩
 show bL _ A (load s.heap.objs.size >>= _) _ _ s';refine aA (wpAny_load hS' ?_);have hosz:ord.size=es.size:=by rw[<-bT,hord.length_eq,bT]
 have hacc':=atw hacc hosz;refine aG (hQ s' acc'.toList (ord.toList.map keyE) (aR hS') (fun b o e =>?_) (hm.gens.trans hg2) (hm.os.trans ho2) ?_ (hord.map _))
 ·have hlt:=aR e;refine hm.heap b o (fun hb =>?_) (oth b o (bQ hlt) (hk2 b o (hold b o e)))
  simp only[bF,eQ,or_false] at hb;rcases hb with rfl | rfl
  ·exact mC _ hlt
  ·exact absurd hlt (oX.mpr (cR (mY _) hIne))
 ·rw[hacc'];exact aeo fun e he=>G.ent e (hord.mem_iff.mp he)
set_option maxHeartbeats 1000000 in
theorem apr{S:aX}{es:Array (Int×Value)}{ep:Nat}{t:dH}{ns:List Int}{Q:aD->aH->Prop}(hh:A.handled=none)(ho:s.heap.get? S=some (setO es ep t))(G:SetG w es t ns)(h64:es.size < 64)
  (h:∀(s':aH) (a:aX) (out:Array aD) (m:Nat) (ns':List Int),s.heap.objs.size<=a->(∀b o,s.heap.get? b=some o->s'.heap.get? b=some o)->s'.gens=s.gens->s'.os=s.os->s'.heap.get? a=some (seqObj "list" out m) ->
   pK out.toList ns'->ns'.Perm (es.toList.map keyE)->ns'.Pairwise (· <= ·)->Q (.ref a) s') :
  bL (bU prog w) A (call (.builtin "sorted") [.ref S]) Q E s:=by
 refine Calls.call_function_entry kind_sorted plain_sorted entry_sorted (args_sorted1 _) ?_;unfold jL.«sorted»
 refine aA (m:=checkCount "sorted" 1 1 _) (aG ?_);refine aA (anc hh ho G (by unfold oO;omega) fun s1 acc ks hlt1 hk hg hos hI hp =>?_)
 have hlen:acc.length=es.size:=by rw[hI.length,hp.length_eq,aM,bT]
 refine aA (wpAny_newList ?_);have hoL:(s1.heap.push (seqObj "list" acc.toArray 0)).get? s1.heap.objs.size=some (seqObj "list" acc.toArray 0):=aO _ rfl;show bL _ _ _ _ _ { s1 with heap:=s1.heap.push (seqObj "list" acc.toArray 0) }
 refine aA (eX (fD slot_list_sort ⟨_,hoL,rfl⟩ entry_list_sort (list_sort_tree hoL hI (by omega) fun out ns' a1 a2 a3=>⟨_,rfl,?_⟩) (args_list_sort _)))
 obtain⟨m,hm⟩:=ar3 hoL acc out;refine aG ⟨_,rfl,?_⟩;refine h _ s1.heap.objs.size out m ns' (oG hlt1) ?_ hg hos hm a1 (a2.trans hp) a3;intro b o e;exact aps (aB _ (hk b o e)) (bQ (oF (aR e) hlt1))
end
end Stt
namespace Dn
open L2 Mn
def dedI:List Int->List Int
 | []=>[]
 | x::r=>if r.contains x then dedI r else x::dedI r
theorem ac5:∀(l:List Int) (x:Int),x∈dedI l↔x∈l
 | [],x=>.rfl
 | y::r,x=>by
  unfold dedI;split
  ·rename_i h;rw[ac5 r x,bF];exact⟨.inr,fun z=>z.elim (fun e=>e▸List.contains_iff_mem.mp h) id⟩
  ·rw[bF,bF,ac5 r x]
theorem abp:∀l:List Int,(dedI l).Nodup
 | []=>xW
 | y::r=>by
  unfold dedI;split
  ·exact abp r
  ·rename_i h;exact List.Pairwise.cons (fun z hz e=>h (dZ.mpr (e▸(ac5 r z).mp hz))) (abp r)
theorem ach:∀l:List Int,(dedI l).length<=l.length
 | []=>aN _
 | y::r=>by
  unfold dedI;have:=ach r;split
  ·simp only[bN];omega
  ·simp only[bN];omega
theorem acz:∀{a b:List Int},a.Nodup->b.Nodup->(∀x,x∈a↔x∈b)->a.Perm b
 | [],b,_,_,h=>by
  cases b with
  | nil=>exact .refl _
  | cons y r=>exact absurd ((h y).mpr (aP ..)) (eQ)
 | x::r,b,ha,hb,h=>by
  have hx:x∈b:=(h x).mp (aP ..);have hp:=List.perm_cons_erase hx;refine(List.Perm.cons x (acz (List.Pairwise.of_cons ha) (hb.erase x) fun y =>?_)).trans hp.symm
  rw[hb.mem_erase_iff];have hxr:x∉r:=fun z=>(iK.mp ha).1 x z rfl
  constructor
  ·intro hy;exact⟨fun e=>hxr (e▸hy),(h y).mp (aL _ hy)⟩
  ·rintro⟨hne,hy⟩
   exact(bF.mp ((h y).mpr hy)).resolve_left hne
def setI(ns:List Int):List Int:=sortI (dedI ns)
section
variable{K:Fg9}{X:Cx}{e a b c:dX}{es:List dX}{pos p p2:Pos}
def SetH(w:dJ)(a:aX)(ns:List Int):fK->Prop:=fun h=>∃es ep t,h.get? a=some (Stt.setO es ep t)/\Stt.SetG w es t ns/\es.size<=ns.length
def a8g(w:dJ):List V->Hp->VK->Prop:=fun vs H Q=>∃p ns,vs=[.ref p]/\H p=some (.tup (ns.map V.int))/\ns.length < 4000/\∀a,H a=none->Q (.ref a) (upd H a (.ext (SetH w a ns)))
theorem ayb(hc:X.calm=true):abn X (.type "set") (a8g X.w):=by
 intro zv s σ H xs us Q I r z9;obtain⟨p,ns,hv,hp,hz,q⟩:=z9;subst hv;obtain⟨u,rfl,ru⟩:=vals1 r;cases ru;obtain⟨its,rv,pt,_⟩:=I.tuple (SqT.of hp);have hlen:=rv.length;rw[aM] at hlen;refine Stt.a3k (I.ok.hd hc) pt (intsAre_of rv) (by rw[aU];unfold oO;omega) fun h' tk es ep t ho g hsz hk =>?_
 have hn:H s.heap.objs.size=none:=I.hok.fresh (aN _);refine⟨.ref s.heap.objs.size,_,I.laid hk (aN _) ?_,rfl,q _ hn⟩;refine⟨⟨es,ep,t,ho,g,?_⟩,⟨_,ho⟩,fun h1 h2 ⟨es,ep,t,z,g,zz⟩ k=>⟨es,ep,t,k _ z,g,zz⟩⟩
 have hsz':es.size<=its.length:=by simpa using hsz
 omega
def rcSS(w:dJ):List V->Hp->VK->Prop:=fun vs H Q=>∃a ns,vs=[.ref a]/\H a=some (.ext (SetH w a ns))/\ns.length < 64/\∀b,H b=none->Q (.ref b) (upd H b (.lst ((setI ns).map V.int)))
theorem a2o(hc:X.calm=true):abn X (.builtin "sorted") (rcSS X.w):=by
 intro zv s σ H xs us Q I r z9;obtain⟨a,ns,hv,ha,hz,q⟩:=z9;subst hv;obtain⟨u,rfl,ru⟩:=vals1 r;cases ru;obtain⟨⟨es,ep,t,ho,g,hsz⟩,_⟩:=I.hok a _ ha;refine Stt.apr (I.ok.hd hc) ho g (by omega) fun s' b out m ns' hb hk hg hos hob hI hp hs =>?_
 have hn:H b=none:=I.hok.fresh hb;have e':ns'=setI ns:=av2 (hp.trans (acz g.nd (abp ns) fun k=>by rw[g.mem k,ac5])) hs
 subst e';obtain⟨h',g',d',tk',os'⟩:=s';subst hg;subst hos;have I1:Inv X zv σ (upd H b (.lst ((setI ns).map V.int))) { s with heap:=h',toks:=tk' }:=I.laid hk hb ⟨by
  rw[aM];have h1:(setI ns).length=(dedI ns).length:=(sortI_perm _).length_eq;have h2:=ach ns;exact oG (ar5 (by omega)),out.toList,m,aef hI,by simpa using hob⟩
 exact⟨.ref b,_,⟨I1.ok,I1.os,I1.bare,I1.base,I1.loc,I1.cell,I1.free,I1.freeC,I1.pin,I1.hok,I1.len⟩,rfl,q b hn⟩
def gSet:D->Option Rv
 | .tup l=>(rm l).bind fun ns=>if ns.length < 64 then some (.fr ((setI ns).map D.int)) else none
 | _=>none
theorem ak4{x y:Str}{m:M (List D)}{pp qq:Pos}{ppos:Pos}(hc:X.calm=true)(hg1:Gl X x)(hm1:X.mg x=none)(hv1:cD x=some (.builtin "sorted"))(hg2:Gl X y)(hm2:X.mg y=none)(hv2:cD y=some (.type "set"))
  (ha:EA K X [e] m) (hn1:x ≠ "__name__" := by decide) (hdb1:(x==("__debug__" : Str))=false:=by decide) (hn2:y ≠ "__name__" := by decide) (hdb2:(y==("__debug__" : Str))=false:=by decide)
  (he:aQ [e] X.env=[(false,eval e X.env)]:=by rfl) (he2:aQ [.Call (.Name y qq) [e] [] ppos] X.env=[(false,eval (.Call (.Name y qq) [e] [] ppos) X.env)]:=by rfl) :
  ER K X (.Call (.Name x pp) [.Call (.Name y qq) [e] [] ppos] [] pos) (jf (g1 gSet) m):=ER.mk fun hk=>PE.imp (ac1 (a2o hc) hg1 hm1 hv1 (mj (ac0 (ayb hc) hg2 hm2 hv2 (ha hk) hn2 hdb2 he rfl) aa6 he2) hn1 hdb1 he2 rfl) fun σ H Q z9=>by
 obtain⟨tg,F,ρ,r,ρ',G,em,q⟩:=z9;obtain⟨ds,ρ1,e1,em⟩:=bj em;obtain⟨e2,rfl⟩:=gk em;refine⟨tg,F,ρ,ds,_,G,e1,fun vs H1 F1 G1 x1 bl =>?_⟩
 cases ds with
 | nil=>cases e2
 | cons d tl =>
  cases tl with
  | cons _ _=>cases e2
  | nil =>
   cases d with
   | tup l =>
    have e2:(rm l).bind (fun ns=>if ns.length < 64 then some (Rv.fr ((setI ns).map D.int)) else none)=some r:=e2
    cases ei:rm l with
    | none=>rw[ei] at e2;cases e2
    | some ns =>
     rw[ei] at e2;have e2:(if ns.length < 64 then some (Rv.fr ((setI ns).map D.int)) else none)=some r:=e2
     split at e2
     ·rename_i h64;cases e2;obtain⟨v,rfl,bv⟩:=bl.one;obtain⟨p,ws,rfl,ea,hl⟩:=bv.tup;rw[ac9 ei] at hl;rw[hl.int_inv] at ea;refine⟨p,ns,rfl,G1.sub _ _ ea,by omega,fun a hna =>?_⟩
      show rcSS X.w _ _ _;refine⟨a,ns,rfl,dh,h64,fun b hnb =>?_⟩
      have G2:=G1.fresh hna (.ext (SetH X.w a ns));have X2:=G1.freshX hna (.ext (SetH X.w a ns));exact Res.lst G2 (fun v H3 F3 G3 x3 rr=>q v H3 F3 G3 ((x1.trans X2).trans x3) (lg (x1.trans X2) rr)) (ae5 _) hnb
     ·cases e2
   | _=>cases e2
@[simp] theorem a7n(l:List D):gSet (.tup l)=(rm l).bind fun ns=>if ns.length < 64 then some (.fr ((setI ns).map D.int)) else none:=rfl
end
theorem yw{c:M Bool}{g:Sd}(Inv:Nat->Ro->Prop)(Done:Ro->Prop)(hs:∀k ρ,Inv k ρ->(∃ρ',c ρ=some (.ok false,ρ')/\Done ρ')∨∃ρ1 ρ2 k',c ρ=some (.ok true,ρ1)/\g ρ1=some (.nx,ρ2)/\k' < k/\Inv k' ρ2) :
  ∀(n k:Nat) (ρ:Ro),k < n->Inv k ρ->∃ρ',whileD c g n ρ=some (.nx,ρ')/\Done ρ'
 | 0,k,ρ,h,_=>absurd h (pZ _)
 | n+1,k,ρ,h,h0=>by
  unfold whileD;rcases hs k ρ h0 with⟨ρ',e,d⟩ | ⟨ρ1,ρ2,k',e1,e2,hk,h2⟩
  ·rw[e];exact⟨ρ',rfl,d⟩
  ·rw[e1];dsimp only;rw[e2];exact yw Inv Done hs n k' ρ2 (by omega) h2
theorem aoq:100000 < fuel:=by unfold fuel;decide
theorem am7(a b:Int):eqD (.int a) (.int b)=decide (a=b):=by
 show(a==b)=_
 by_cases h:a=b <;> simp[h]
theorem a2s(ns:List Int)(a:Int):(ns.map D.int).any (fun y=>eqD y (.int a))=decide (a∈ns):=by
 induction ns with
 | nil=>simp
 | cons x r ih=>simp[am7,bF,ih,eq_comm]
theorem aem(n:Nat)(ns:List Int):(ns.map D.int).all (okD n)=true:=by
 induction ns with
 | nil=>rfl
 | cons x r ih=>simp[okD]
theorem auc(neg:Bool)(a:Int)(ns:List Int):gIn neg (.int a) (.lst (ns.map D.int))=some (.v (.bl (if neg then !decide (a∈ns) else decide (a∈ns)))):=by
 have h:=aem 30 ns;have h2:=a2s ns a;simp only[gIn,itemsD,h,h2];simp[okD]
theorem ai5:∀(a b:List Int),eqDs (a.map D.int) (b.map D.int)=decide (a=b)
 | [],[]=>rfl
 | [],_::_=>rfl
 | _::_,[]=>rfl
 | x::r,y::t=>by
  show(eqD (.int x) (.int y)&&eqDs (r.map D.int) (t.map D.int))=_;rw[am7,ai5 r t]
  by_cases h:x=y <;> simp[h]
theorem ak6(a b:List Int):eqD (.tup (a.map D.int)) (.tup (b.map D.int))=decide (a=b):=by
 rw[<-ai5];exact am6 _ _
theorem aiz(neg:Bool)(a b:List Int):gEq neg (.tup (a.map D.int)) (.tup (b.map D.int))=some (.v (.bl (if neg then !decide (a=b) else decide (a=b)))):=by
 have h1:okD 30 (.tup (a.map D.int))=true:=aem 29 a;have h2:okD 30 (.tup (b.map D.int))=true:=aem 29 b;simp only[gEq,h1,h2,ak6];simp
theorem auk(r:List Int):∀x:Int,(0<=r.foldl (fun m y=>if decide (y < m)=true then y else m) x)↔0<=x/\∀y∈r,0<=y:=by
 induction r with
 | nil=>intro x;simp
 | cons z t ih =>
  intro x;rw[mF,ih]
  by_cases h:z < x
  ·simp only[h,decide_true,if_true,bF,forall_eq_or_imp];constructor
   ·rintro⟨a,b⟩;exact⟨by omega,a,b⟩
   ·rintro⟨_,a,b⟩;exact⟨a,b⟩
  ·simp only[h,decide_false,mL,if_false,bF,forall_eq_or_imp];constructor
   ·rintro⟨a,b⟩;exact⟨a,by omega,b⟩
   ·rintro⟨a,_,b⟩;exact⟨a,b⟩
def minI(ns:List Int):Int:=adn (fun i j=>decide (i < j)) ns
theorem an7{ns:List Int}(h:ns≠[]):0<=minI ns↔∀y∈ns,0<=y:=by
 cases ns with
 | nil=>exact absurd rfl h
 | cons x r =>
  show 0<=r.foldl (fun m y=>if decide (y < m)=true then y else m) x↔_
  rw[auk];simp
theorem axr{ns:List Int}(h:ns≠[]):a1t (.lst (ns.map D.int))=some (.v (.int (minI ns))):=by
 show(rm (ns.map D.int)).bind _=_;rw[vf];simp[h,minI]
theorem aub{ns:List Int}(h:ns.length < 64):gSet (.tup (ns.map D.int))=some (.fr ((setI ns).map D.int)):=by
 show(rm (ns.map D.int)).bind _=_;rw[vf];simp[h]
theorem an8(ns:List Int)(x:Int):x∈setI ns↔x∈ns:=by
 unfold setI;rw[(sortI_perm _).mem_iff,ac5]
theorem ap8(ns:List Int):(setI ns).Nodup:=by
 unfold setI;rw[(sortI_perm _).nodup_iff];exact abp ns
@[simp] theorem a6d(d:D):aud [d]=(itemsD d).map aev:=rfl
@[simp] theorem a6b(a b:D):aqq [a,b]=(itemsD a).bind fun l1=>(itemsD b).bind fun l2=>if l1.length<=l2.length then some (qu l1 l2) else none:=rfl
@[simp] theorem a2z(ρ:Ro)(f:Int->Int->Int)(i:Nat)(mi m:M D):ai9 f i mi m ρ=(dM (mOwn i) fun _=>dM mi fun k=>dM (mOwn i) fun l=>dM (lift ((asI k).bind (ixN l.length))) fun j=>dM (lift ((l[j]?).bind asI)) fun x=>dM m fun y=>dM (lift (asI y)) fun y=>dM (mOwn i) fun l2=>dM (lift (if l2.length=l.length then some () else none)) fun _=>dM (ac6 i (l2.set j (.int (f x y)))) fun _=>dNx) ρ:=rfl
@[simp] theorem a5h(ρ:Ro)(i:Nat)(ms:M (List D)):aoa i ms ρ=((dq i).bind fun d0=>ms.bind fun ds=>(dq i).bind fun d=>(lift (match d0,d with
 | .lst _,.lst _=>some ()
 | .tup _,.tup _=>some ()
 | _,_=>none)).bind fun _=>lift (ai1 d ds)) ρ:=rfl
@[simp] theorem a1y(l:List D)(x:D):ai1 (.lst l) [x]=if okD 30 x&&l.all (okD 30) then some (.int (l.countP fun y=>eqD y x)) else none:=rfl
@[simp] theorem a1x(l:List D)(x:D):ai1 (.tup l) [x]=if okD 30 x&&l.all (okD 30) then some (.int (l.countP fun y=>eqD y x)) else none:=rfl
theorem aq8{l1 l2:List D}(h:l1.length<=l2.length):(qu l1 l2).length=l1.length:=by unfold qu;rw[jJ];omega
theorem adq{ns:List Int}{k:Int}(h0:0<=k)(h1:k < (ns.length:Int)):atI (ns.map D.int) k=some (.int (ns.getD k.toNat 0)):=by
 have hk:k.toNat < ns.length:=by omega
 have q:atI (ns.map D.int) ((k.toNat:Nat):Int)=some (.int (ns.getD k.toNat 0)):=aje (by simp[aF hk])
 rw[show((k.toNat:Nat):Int)=k by omega] at q
 exact q
theorem ad8{n:Nat}{k:Int}(h0:0<=k)(h1:k < (n:Int)):ixN n k=some k.toNat:=by
 unfold ixN;simp[h0,h1]
theorem jg{K:Fg9}{P:cA}{w:dJ}{mg:Str->Option aD}{base:fK}{x qual:Str}{st:iJ}{f:aX}{fd:fJ}{N ps:List Str}{k nl np:Nat}{g:Sd}(F:Fun K x qual st f fd)(S:FnScope N ps (ao st))(h1:N.length=nl)(h2:ps.length=np)
  (body:∀(cdv:aD) (A:cW) (outer:List Env) (s:aH) (H:Hp) (E:XK),Room k (A.deeper (pO qual (ao st) s.heap.objs.size f cdv))->SVs K (cxOf CX0 P w K mg base N qual (ao st) f cdv A outer s H E).nox (ie st) g) :
  FnOk P w K mg base CX0 (k+1) f fd ps (spOf K np (fnD nl np g)):=by
 subst h1 h2;exact a91 F S body
end Dn
namespace Mn
open L2
section
variable{X:Cx}
end
end Mn
namespace Dn
open L2 Mn
section
variable{K:Fg9}{X:Cx}
end
theorem mkSc{N P:List Str}{sc:pC}(a:sc.kind=.function)(b:sc.isCoroutine=false)(c:sc.isGenerator=false)(e:N.take P.length=P)(d:N.Nodup/\(∀x∈P,sc.names.lookup x=some .local∨sc.names.lookup x=some .cell)/\∀y∈sc.names,y.2≠.free):FnScope N P sc:=⟨a,b,c,d.1,e,d.2.1,d.2.2⟩
def okR{α:Type}(m:M α)(ρ:Ro):Option (α×Ro):=match m ρ with
 | some (.ok a,ρ')=>some (a,ρ')
 | _=>none
theorem a4v{α:Type}{m:M α}{ρ ρ':Ro}{a:α}(h:okR m ρ=some (a,ρ')):m ρ=some (.ok a,ρ'):=by
 unfold okR at h;split at h
 ·rename_i e;cases h;exact e
 ·cases h
theorem ajb{α β:Type}{o:Option α}{f:α->Option β}{b:β}(h:o.bind f=some b):∃a,o=some a/\f a=some b:=by
 cases o with
 | none=>cases h
 | some a=>exact⟨a,rfl,h⟩
section
variable{K:Fg9}{X:Cx}
theorem Good.empS{tg:Nat->aX}{F H:Hp}{ρ:Ro}{σ:L2.St}(G:Good K tg F H ρ σ)(i:Nat)(o:Option V):Good K tg F H (bR ρ i .emp) (bR σ i o)/\∀a,Own (bR ρ i .emp) (bR σ i o) a->Own ρ σ a:=by
 have key:∀j (t:Option Nat) (l:List D),(bR ρ i Sl.emp)[j]? = some (Sl.own t l)->i≠j/\ρ[j]? = some (Sl.own t l):=fun j t l e=>by
  rw[bJ] at e;split at e
  ·split at e <;> cases e
  ·rename_i h;exact⟨h,e⟩
 have ow:∀j a,Owns (bR ρ i .emp) (bR σ i o) j a->Owns ρ σ j a:=fun j a z=>by
  obtain⟨⟨t,l,e⟩,q⟩:=z;obtain⟨h,e'⟩:=key j t l e;rw[fO h] at q;exact⟨⟨t,l,e'⟩,q⟩
 refine⟨⟨G.sub,by rw[cZ,cZ];exact G.len,fun j sl o' e q =>?_,fun j1 j2 a h1 h2=>G.inj j1 j2 a (ow j1 a h1) (ow j2 a h2)⟩,fun a z =>?_⟩
 ·by_cases h:i=j
  ·subst h;rw[bJ] at e;simp only[if_true] at e;split at e
   ·cases e;trivial
   ·cases e
  ·rw[fO h] at e q;exact G.sl j sl o' e q
 ·obtain⟨j,z⟩:=z;exact⟨j,ow j a z⟩
end
section
variable{prog:cA}{w:dJ}{A:cW}{E:aD->aH->Prop}{s:aH}{K:Fg9}{x C:aX}{ox:Obj}{name:Str}{v:aD}
theorem ajq{vs:Array aD}{Q:Unit->aH->Prop}{d:aX}{od:Obj}{m:Str->Option aD}{ns:List Str}(X:K.In s.heap)(I:gJ s.heap x ox C (some od))(hx:s.heap.get? x=some ox)(hc:ox.cls=.ref C)(hdn:ox.dict=some d)(hdt:ox.data=.fields vs)(hn:s.heap.Ns1 d m)(hw:vD m ns)(hl:ns.length<=1000)
  (hs:lM K (.ref C) "__setattr__" = some (some (.builtin "object.__setattr__"))) (hp:aec K C=true) (hob:kJ K C (.type "object")=some true) (ht:lX K C name=some none) (hh:kO K C=true)
  (h:∀h' tk',h'.Ns1 d (fun y=>if y=name then some v else m y)->fP d s.heap h'->Q () { s with heap:=h',toks:=tk' }) :
  bL (bU prog w) A (setAttr (.ref x) name v) Q E s:=by
 obtain⟨oc,odict,odata,osl⟩:=ox;simp only at hc hdn hdt;subst hc hdn hdt;refine xM X I hs (asy (s:={ s with toks:=s.toks+1 }) X I hp hob ht fun b =>?_)
 obtain⟨cd,hcd,hd'⟩:=jM hh;refine aA (aG (aA (aA (wpAny_loadPart hx (aA (wM (s:={ s with toks:=s.toks+1 }) (rA X hcd) ?_))))))
 rw[hd'];refine aG (a:=some d) ?_;show bL _ _ (jF d (.str name _) name v) _ _ _;unfold jF sG;refine aA (aG (aA (wpAny_nsSet1 (s:={ s with toks:=s.toks+1 }) hn fun h' hn' hs' =>?_)))
 obtain⟨oD,esD,epD,hoD,hdD,hcD⟩:=hn'.count (vQ name v hw);refine aA (wpAny_lookBehind hoD (by rw[hdD];exact pastItsLine_dict (cR hcD (by rw[bN,fY];omega))) (aG ?_))
 exact h h' _ hn' hs'
end
def nsV(d:aX)(f:Str)(y:V):fK->Prop:=fun h=>∃u,RelV y u/\h.Ns1 d fun x=>if x=f then some u else none
section
variable{vs:Array aD}{X:Cx}{zv:List (aX×Obj)}{σ:L2.St}{H:Hp}{s:aH}{A:cW}{E:aD->aH->Prop}{a C:aX}{f g:Str}
theorem apv{y:V}{u:aD}{Q:Unit->aH->Prop}(I:Inv X zv σ H s)(e:H a=some (.ext (exV a C none vs)))(k:FldK X.K C f)(ry:RelV y u)
  (h:∀d s',H d=none->Inv X zv σ (upd (upd H a (.ext (exV a C (some d) vs))) d (.ext (nsV d f y))) s'->Q () s'):bL (bU X.prog X.w) A (setAttr (.ref a) f u) Q E s:=by
 obtain⟨⟨oe,he,hc,hdn,hdt⟩,_,_⟩:=I.hok _ _ e;refine afj I.kIn ⟨he,hc,by unfold jP;rw[hdt],by rw[hdn];trivial⟩ he hc hdn hdt k.sa k.ov k.k.ob k.tk k.k.hd fun h' tk' e1 e2 e3 =>?_
 have hd:H s.heap.objs.size=none:=I.hok.fresh (aN _);have hda:s.heap.objs.size≠a:=gK (aR he);have I2:=I.write (x:=a) (e:=a) (o:=.ext (exV a C (some s.heap.objs.size) vs)) (t':=tk') (h':=h') (by rw[e];trivial) (.inl rfl) (fun b u hb q=>e3 b u hb q) ⟨_,e1⟩ ⟨⟨_,e1,hc,rfl,hdt⟩,⟨_,e1⟩,fun h1 h2 p q=>by obtain⟨oe,z1,z2⟩:=p;exact⟨oe,q _ z1,z2⟩⟩
 have fp:FpX X zv (upd H a (.ext (exV a C (some s.heap.objs.size) vs))) s.heap.objs.size:=Inv.fpX I (iV (aN _)) (by rw[bw hda];exact hd)
 obtain⟨o0,_,_,z0,_⟩:=id e2;exact h s.heap.objs.size _ hd (Inv.track I2 fp ⟨⟨u,ry,e2⟩,⟨o0,z0⟩,fun h1 h2 p q=>by obtain⟨u,r,n⟩:=p;exact⟨u,r,n.at q⟩⟩)
theorem apu{y z:V}{u:aD}{d:aX}{Q:Unit->aH->Prop}(I:Inv X zv σ H s)(e:H a=some (.ext (exV a C (some d) vs)))(ed:H d=some (.ext (nsV d f y)))(hfg:g≠f)(k:FldK X.K C g)(rz:RelV z u)
  (h:∀s',Inv X zv σ (upd H d (.xd [(f,y),(g,z)])) s'->Q () s'):bL (bU X.prog X.w) A (setAttr (.ref a) g u) Q E s:=by
 obtain⟨⟨oe,he,hc,hdn,hdt⟩,_,_⟩:=I.hok _ _ e;obtain⟨⟨u1,r1,n1⟩,⟨od,hod⟩,_⟩:=I.hok _ _ ed;refine ajq (od:=od) (ns:=[f]) I.kIn ⟨he,hc,by unfold jP;rw[hdt],by rw[hdn];exact hod⟩ he hc hdn hdt n1 (vQ f u1 Within.nil) (show 1<=1000 by decide) k.sa k.ov k.k.ob k.tk k.k.hd fun h' tk' n2 hs' =>?_
 obtain⟨o2,es2,ep2,ho2,hz2⟩:=id n2;refine h _ (I.write (x:=d) (e:=d) (t':=tk') (h':=h') (by rw[ed];trivial) (.inl rfl) (fun b u hb q=>(hs'.2 b hb).trans q) ⟨_,ho2⟩ ⟨_,n2,fun q =>?_⟩)
 by_cases q1:q=f
 ·subst q1;have:[(q,y),(g,z)].lookup q=some y:=by simp[cT]
  rw[this];show RelO (some y) (if q=g then some u else if q=q then some u1 else none)
  rw[if_neg (gG hfg),if_pos rfl];exact r1
 ·have b1:(q==f)=false:=beq_eq_false_iff_ne.mpr q1
  by_cases q2:q=g
  ·subst q2;have:[(f,y),(q,z)].lookup q=some z:=by simp[cT,b1]
   rw[this];show RelO (some z) (if q=q then some u else _)
   rw[if_pos rfl];exact rz
  ·have b2:(q==g)=false:=beq_eq_false_iff_ne.mpr q2;simp[cT,b1,b2,q1,q2,RelO]
def ayp(C:aX)(vs:Array aD)(ta tv:TE)(f:Str):TS:=fun D σ H=>tv σ H fun y H1=>ta σ H1 fun x H2=>∃a,x=.ref a/\H2 a=some (.ext (exV a C none vs))/\∀d,H2 d=none->D.nx σ (upd (upd H2 a (.ext (exV a C (some d) vs))) d (.ext (nsV d f y)))
def ayo(C:aX)(vs:Array aD)(ta tv:TE)(f g:Str):TS:=fun D σ H=>tv σ H fun z H1=>ta σ H1 fun x H2=>∃a d y,x=.ref a/\H2 a=some (.ext (exV a C (some d) vs))/\H2 d=some (.ext (nsV d f y))/\D.nx σ (upd H2 d (.xd [(f,y),(g,z)]))
theorem awf{o value:dX}{ta tv:TE}{pos pos':Pos}(k:FldK X.K C f)(ha:PE X o ta)(hv:PE X value tv)(hs:gU value (some (.Attribute o f pos')) pos.line X.env=pure false):PS X (.Assign [.Attribute o f pos'] value pos) (ayp C vs ta tv f):=by
 intro zv s σ H D I h;refine plainObj_wpAny_Assign_Attribute (thn (hv zv s σ H _ I h) fun u s1 z9 =>?_) hs
 obtain⟨y,H1,I1,ry,q⟩:=z9;refine thn (ha zv s1 σ H1 _ I1 q) fun ov s2 z8 =>?_
 obtain⟨x,H2,I2,rx,a,ex,ea,q2⟩:=z8;subst ex;obtain rfl:ov=dF a:=rx;exact apv I2 ea k ry fun d s3 hd I3=>⟨σ,_,I3,q2 d hd⟩
theorem awe{o value:dX}{ta tv:TE}{pos pos':Pos}(hfg:g≠f)(k:FldK X.K C g)(ha:PE X o ta)(hv:PE X value tv)(hs:gU value (some (.Attribute o g pos')) pos.line X.env=pure false):PS X (.Assign [.Attribute o g pos'] value pos) (ayo C vs ta tv f g):=by
 intro zv s σ H D I h;refine plainObj_wpAny_Assign_Attribute (thn (hv zv s σ H _ I h) fun u s1 z9 =>?_) hs
 obtain⟨y,H1,I1,ry,q⟩:=z9;refine thn (ha zv s1 σ H1 _ I1 q) fun ov s2 z8 =>?_
 obtain⟨x,H2,I2,rx,a,d,y1,ex,ea,ed,q2⟩:=z8;subst ex;obtain rfl:ov=dF a:=rx;exact apu I2 ea ed hfg k ry fun s3 I3=>⟨σ,_,I3,q2⟩
def spI2(C:aX)(vs:Array aD)(f g:Str):Sp:=fun us H Q _=>∃a i j,us=[.ref a,.int i,.int j]/\H a=some (.ext (exV a C none vs))/\∀d,H d=none->Q .non (upd (upd H a (.ext (exV a C (some d) vs))) d (.xd [(f,.int i),(g,.int j)]))
theorem axv{K:Fg9}{P:cA}{w:dJ}{mg:Str->Option aD}{base:fK}{x qual:Str}{st:iJ}{fa:aX}{fd:fJ}{k:Nat}{p1 p2 p3 p4 r1 r2 r3 r4:Pos}(F:Fun K x qual st fa fd)(S:FnScope ["self", f,g] ["self", f,g] (ao st))(hf:FldK K C f)(hg:FldK K C g)(hfg:g≠f)
  (hb:ie st=[.Assign [.Attribute (.Name "self" p1) f p2] (.Name f p3) p4,.Assign [.Attribute (.Name "self" r1) g r2] (.Name g r3) r4]) (h1:(f==("__debug__" : Str))=false) (h2:(f==("__classdict__" : Str))=false) (h3:(g==("__debug__" : Str))=false) (h4:(g==("__classdict__" : Str))=false)
  (hs:∀env,gU (.Name f p3) (some (.Attribute (.Name "self" p1) f p2)) p4.line env=pure false) (ht:∀env,gU (.Name g r3) (some (.Attribute (.Name "self" r1) g r2)) r4.line env=pure false) (hv1:Vis (ao st) "self") (hv2:Vis (ao st) f) (hv3:Vis (ao st) g) :
  FnOk P w K mg base CX0 (k+1) fa fd ["self", f,g] (spI2 C vs f g):=by
 refine F.ok S (fun us H Q E h =>?_) fun cdv A outer s H us Q E hr h=>⟨tSeq (ayp C vs (tVar 0) (tVar 1) f) (ayo C vs (tVar 0) (tVar 2) f g),?_,?_⟩
 ·obtain⟨a,i,j,rfl,_⟩:=h;rfl
 ·rw[hb];exact ae0 (awf hf (pv 0 rfl hv1) (pv 1 rfl hv2 h1 h2) (hs _)) (aid (awe hfg hg (pv 0 rfl hv1) (pv 2 rfl hv3 h3 h4) (ht _)))
 ·obtain⟨a,i,j,rfl,e,q⟩:=h;refine⟨_,rfl,_,rfl,a,rfl,e,fun d hd =>?_⟩
  have hda:d≠a:=fun z=>by rw[z,e] at hd;cases hd
  refine⟨_,rfl,_,rfl,a,d,.int i,rfl,by rw[bw (gG hda),dh],dh,?_⟩
  rw[alz];exact q d hd
end
def mTwo(m1 m2:M D):M (D×D):=m1.bind fun a=>m2.bind fun b=>ret (a,b)
theorem a09{m1 m2:M D}(h1:NoX m1)(h2:NoX m2):NoX (mTwo m1 m2):=fun ρ x ρ' e=>by
 unfold mTwo M.bind at e;split at e
 ·dsimp only at e;split at e
  ·cases e
  ·rename_i z;exact h2 _ _ _ (by rw[z])
  ·cases e
 ·rename_i z;exact h1 _ _ _ (by rw[z])
 ·cases e
def acp(c f g:Str)(m:M (D×D)):Sd:=dM m fun d ρ=>match d with
 | (.int i,.int j)=>some (.exc ⟨c,[(f,i),(g,j)]⟩,ρ)
 | _=>none
section
variable{K:Fg9}{X:Cx}{c f g:Str}{C fI:aX}{fd:fJ}{kk:Nat}{e1 e2:dX}{m1 m2:M D}{np cpos pos:Pos}{st st':iJ}
theorem arc(hcalm:X.calm=true)(hg:Gl X c)(hm:X.mg c=some (.ref C))(k:ClsOk X.K c C)(qq:agg X.K C fI=true)(Fi:∀vs,FnOk X.prog X.w X.K X.mg X.base CX0 kk fI fd ["self", f,g] (spI2 C vs f g))(hb:∀s us,us.length=3->nH s fd ⟨us,[]⟩ ((["self", f,g]:List Str).zip us))
  (hr:Room (kk+1) X.A) (h1:EV K X e1 m1) (h2:EV K X e2 m2) (hn1:NoX m1) (hn2:NoX m2) (hs:aQ [e1,e2] X.env=(false,eval e1 X.env)::aQ [e2] X.env:=by rfl) (hs2:aQ [e2] X.env=(false,eval e2 X.env)::aQ [] X.env:=by rfl) (hd:(c==("__debug__" : Str))=false:=by decide) :
  XS K X (.Raise (some (.Call (.Name c np) [e1,e2] [] cpos)) none pos) (acp c f g (mTwo m1 m2)):=⟨fun hk hnx zv s σ H tg F ρ x ρ' I G em=>by
 have em:=qg.mp em;unfold acp dM at em;split at em
 ·rename_i d ρ1 em1;dsimp only at em;split at em
  ·rename_i i j;cases em;have h1:=h1 hk;have h2:=h2 hk;subst hk;obtain⟨d1,ρ2,ea,em1⟩:=bj em1;obtain⟨d2,ρ3,eb,em1⟩:=bj em1;cases em1;obtain⟨bm,N,nm,qn,bs,hdct,sn,sub,ab,col,dd,k0,k1,k2,k3,k5,hobj⟩:=aot qq;have T0:=(hobj _ I.kIn).2.2.1;refine afv (C:=C) (nm:=nm) (q:=qn) (N:=N) (bs:=bs) (bm:=bm) (hdct:=hdct) (sn:=sn) (sub:=sub) (ab:=ab) (col:=col) (dd:=dd) (k0:=k0) (k1:=k1) (k2:=k2) (k3:=k3) (k5:=k5) (fI:=fI)
    dI (by decide +kernel) dI (T0.hasType dI.hasBase) (I.ok.hd hcalm) (by rw[hs,hs2];rfl) ?_
   refine aa8 I hg hm ⟨rfl,?_⟩ hd;have pa:=mj h1 (mj h2 aa6 hs2) hs cpos zv s σ H (fun vs H1=>∃F1,vs=[.int i,.int j]/\Good X.K tg F1 H1 ρ' σ/\Ext (Own ρ σ) (Own ρ' σ) F H F1 H1) I ⟨tg,F,ρ,.int i,ρ2,G,ea,fun v H' F' G' x' r=>by
    cases r;exact⟨tg,F',ρ2,.int j,ρ',G',eb,fun v H2 F2 G2 x2 r2=>by
     cases r2;exact⟨F2,rfl,G2,x'.trans x2⟩⟩⟩
   rw[hs,hs2] at pa ⊢
   refine qR (bC pa (fun us s2 z9 =>?_) fun e s1 q=>by rw[hnx] at q;exact q.elim)
   obtain⟨vs,H2,I2,r2,F2,ev,G2,x2⟩:=z9;subst ev;have hlen:us.length=2:=r2.length.symm;obtain⟨o1,o2,o3,o4⟩:=hobj _ I2.kIn;refine⟨rfl,by rw[fY];show us.length<=_;omega,o1,o2,o3,o4,fun h' e hme =>?_⟩
   obtain⟨t,he,_,_⟩:=hme.there;have hnH:H2 e=none:=by
    cases z:H2 e with
    | none=>rfl
    | some o =>
     obtain⟨ob,h1⟩:=af2 (I2.hok e o z);have h2:s2.heap.get? e=none:=hme.new;rw[h2] at h1;cases h1
   have J:L2.Inv X zv σ H2 { s2 with heap:=h' }:=I2.kept (t':=s2.toks) hme.keeps
   have J1:L2.Inv X zv σ (upd H2 e (.ext (exV e C none #[.ref t,.none,.none,.none,.bool false,.none]))) { s2 with heap:=h' } :=
    Inv.track J (Inv.fpX I2 hme.new hnH) ⟨⟨_,he,rfl,rfl,rfl⟩,⟨_,he⟩,fun h1 h2 p q=>by obtain⟨oe,z1,z2⟩:=p;exact⟨oe,q _ z1,z2⟩⟩
   refine mV (jU ((Fi #[.ref t,.none,.none,.none,.bool false,.none]).run (X.A.under (.builtin "type.__call__" ⟨.ref C::us,[]⟩)) X.stack _ _ ⟨.ref e::us,[]⟩ (.ref e::us) [.ref e,.int i,.int j]
    (fun v H3=>v=.non/\∃d,upd H2 e (.ext (exV e C none #[.ref t,.none,.none,.none,.bool false,.none])) d=none/\H3=upd (upd (upd H2 e (.ext (exV e C none #[.ref t,.none,.none,.none,.bool false,.none]))) e (.ext (exV e C (some d) #[.ref t,.none,.none,.none,.bool false,.none]))) d (.xd [(f,.int i),(g,.int j)]))
    (fun _ _ _=>False) (hr.make C us []) (J1.env0.make C us []) (hb _ _ (by rw[bN,hlen])) (.cons rfl r2) ⟨e,i,j,rfl,dh,fun d hd=>⟨rfl,d,hd,rfl⟩⟩) fun r s' z =>?_)
   cases r with
   | error er=>exact z.elim
   | ok fl =>
    cases fl with
    | ret u =>
    obtain⟨v,H3,J3,rv,rfl,d,hd,rfl⟩:=Inv.after J1 z;have hde:d≠e:=fun q=>by rw[q,dh] at hd;cases hd
    have hd2:H2 d=none:=by rw[bw hde] at hd;exact hd
    have eq:upd (upd (upd H2 e (.ext (exV e C none #[.ref t,.none,.none,.none,.bool false,.none]))) e (.ext (exV e C (some d) #[.ref t,.none,.none,.none,.bool false,.none]))) d (.xd [(f,.int i),(g,.int j)])=upd (upd H2 d (.xd [(f,.int i),(g,.int j)])) e (.ext (exV e C (some d) #[.ref t,.none,.none,.none,.bool false,.none])):=by
     rw[alz]
     funext b
     unfold upd
     by_cases q1:b=d
     ·rw[if_pos q1,if_neg (fun q=>hde (q1.symm.trans q)),if_pos q1]
     ·rw[if_neg q1,if_neg q1]
    rw[eq] at J3;obtain⟨⟨oe,he2,hc2,hdx2,hdt2⟩,_⟩:=J3.hok e _ dh;have hne:upd H2 d (.xd [(f,.int i),(g,.int j)]) e=none:=by rw[bw (gG hde)];exact hnH
    have J4:=Inv.untrack J3 hne;have rv:u=cU:=rv;refine⟨rv,(hobj _ J4.kIn).1,oe,_,he2,hc2,hdt2,rfl,σ,upd H2 d (.xd [(f,.int i),(g,.int j)]),upd F2 d (.xd [(f,.int i),(g,.int j)]),J4,G2.new hd2 _,x2.trans (G2.newX hd2 _),e,C,some d,[e],rfl,k,.inr ⟨d,rfl,dh⟩,⟨oe,_,he2,hc2,hdx2,hdt2,by simp,.inl ⟨rfl,rfl⟩⟩,fun b hb =>?_⟩
    obtain rfl:=bO.mp hb;exact Inv.fpX I2 hme.new hne
    | _=>exact z.elim
  ·cases em
 ·rename_i y ρ1 em1;exact absurd em1 (a09 hn1 hn2 _ _ _)
 ·cases em⟩
theorem ajl{m:M (D×D)}:SV K X st (acp c f g m):=SV.mk fun _=>PS.imp aie fun E σ H z9=>by
 obtain⟨tg,F,ρ,fl,ρ',G,em,q⟩:=z9;unfold acp dM at em;split at em
 ·dsimp only at em;split at em
  ·cases em;exact(show False from q).elim
  ·cases em
 ·cases em;exact(show False from q).elim
 ·cases em
structure IniT2 (K:Fg9) (mg:Str->Option aD) (c f g q:Str) (st:iJ):Prop where
 ex:∃C fI fd,mg c=some (.ref C)/\ClsOk K c C/\agg K C fI=true/\FldK K C f/\FldK K C g/\Fun K "__init__" q st fI fd
variable{p1 p2 p3 p4 r1 r2 r3 r4:Pos}
theorem apj{q:Str}(hk:X.K=K)(hcalm:X.calm=true)(hgl:Gl X c)(h:IniT2 K X.mg c f g q st)(S:FnScope ["self", f,g] ["self", f,g] (ao st))(hfg:g≠f)(hb:ie st=[.Assign [.Attribute (.Name "self" p1) f p2] (.Name f p3) p4,.Assign [.Attribute (.Name "self" r1) g r2] (.Name g r3) r4])(h1:(f==("__debug__" : Str))=false)(h2:(f==("__classdict__" : Str))=false)(h3:(g==("__debug__" : Str))=false)(h4:(g==("__classdict__" : Str))=false)
  (hs:∀env,gU (.Name f p3) (some (.Attribute (.Name "self" p1) f p2)) p4.line env=pure false) (ht:∀env,gU (.Name g r3) (some (.Attribute (.Name "self" r1) g r2)) r4.line env=pure false) (hv1:Vis (ao st) "self") (hv2:Vis (ao st) f) (hv3:Vis (ao st) g)
  (hbd:∀fI fd,Fun K "__init__" q st fI fd->∀s us,us.length=3->nH s fd ⟨us,[]⟩ ((["self", f,g]:List Str).zip us))
  (hr:Room 2 X.A) (he1:EV K X e1 m1) (he2:EV K X e2 m2) (hn1:NoX m1) (hn2:NoX m2) (hst:aQ [e1,e2] X.env=(false,eval e1 X.env)::aQ [e2] X.env:=by rfl) (hst2:aQ [e2] X.env=(false,eval e2 X.env)::aQ [] X.env:=by rfl) (hd:(c==("__debug__" : Str))=false:=by decide) :
  XS K X (.Raise (some (.Call (.Name c np) [e1,e2] [] cpos)) none pos) (acp c f g (mTwo m1 m2)):=by
 subst hk;obtain⟨C,fI,fd,hm,k,qq,kf,kg,F⟩:=h.ex;exact arc (kk:=1) hcalm hgl hm k qq (fun vs=>axv F S kf kg hfg hb h1 h2 h3 h4 hs ht hv1 hv2 hv3) (hbd fI fd F) hr he1 he2 hn1 hn2 hst hst2 hd
theorem amw{q:Str}(h:∀(kV doc pm:aD) (an:Option aX) (cdv ct:aD) (us:List aD),us.length=3->qO (fnOf "__init__" q (j8 st) (ie st) (ao st) .none kV doc pm an cdv ct) ⟨us,[]⟩=pure ((["self", f,g]:List Str).zip us)) :
  ∀fI fd,Fun K "__init__" q st fI fd->∀s us,us.length=3->nH s fd ⟨us,[]⟩ ((["self", f,g]:List Str).zip us):=fun fI fd F s us hl=>by
 obtain⟨oc,od,kV,doc,pm,an,cdv,ct,osl,rfl,lk,hcd⟩:=F.ex;exact .of_eq (h kV doc pm an cdv ct us hl)
theorem axk{h:fK}{mg:Str->Option aD}{ns:List Str}{q:Str}{C fI:aX}{fd:fJ}(X:K.In h)(G:h.Ns bA mg)(e:ale K ns=true)(hc:ns.contains c=true)(aC:nsIn K bA c=some (some (.ref C)))(e2:akt K C fI f=true)(e3:akt K C fI g=true)(F:Fun K "__init__" q st fI fd):IniT2 K mg c f g q st:=by
 obtain⟨C',h1,h2⟩:=qi X G e hc;have z:=h2.ns.symm.trans aC;cases z;unfold akt at e2 e3;simp only[bG,beq_iff_eq] at e2 e3;obtain⟨⟨⟨a1,a2⟩,a3⟩,a4⟩:=e2;obtain⟨⟨⟨_,b2⟩,b3⟩,b4⟩:=e3;exact⟨C,fI,fd,h1,h2,a1,⟨h2.ok,a2,a3,a4⟩,⟨h2.ok,b2,b3,b4⟩,F⟩
end
abbrev NtX:=List (List Key×Addr×Value)
def kvT(ds:List (List Int×Int)):List (List Key×V):=ds.map fun p=>(p.1.map jR,V.int p.2)
theorem amv:∀{a b:List Int},a.map (jR:Int->Key)=b.map jR->a=b
 | [],[],_=>rfl
 | [],_::_,h=>by cases h
 | _::_,[],h=>by cases h
 | x::r,y::t,h=>by
  rw[aW,aW,yV,Sum.inl.injEq] at h;rw[h.1,amv h.2]
theorem atr(ns:List Int):(ns.map (jR:Int->Key)).map kV=ns.map V.int:=by rw[bY];rfl
section
variable{K:Fg9}{X:Cx}
theorem atx{P:cA}{w:dJ}:∀{ks:List Key} {us:List aD},Vals (ks.map kV) us->ItemsAre (yr P w) ks us
 | [],_,h=>by cases h;exact .nil
 | .inl n::ks,_,h=>by
  cases h with
  | cons a b =>
   obtain⟨t,rfl⟩:=a;exact .cons (amn P w n t) (atx b)
 | .inr x::ks,_,h=>by
  cases h with
  | cons a b =>
   obtain⟨t,rfl⟩:=a;exact .cons (af3 P w x t) (atx b)
theorem amr{zv:List (aX×Obj)}{σ:L2.St}{H:Hp}{s:aH}(I:Inv X zv σ H s){a:aX}{ks:List Key}(e:H a=some (.tup (ks.map kV))):IsTupleKey (yr X.prog X.w) s.heap ks a:=by
 obtain⟨its,rv,⟨o,f1,f2,n,f3⟩,_⟩:=I.tuple (SqT.of e);exact⟨o,its.toArray,n,f1,f2,f3,atx rv⟩
abbrev PrT(H:Hp):List Key×V->List Key×Addr×Value->Prop:=fun p q=>p.1=q.1/\H q.2.1=some (.tup (p.1.map kV))/\RelV p.2 q.2.2
theorem a6j{zv:List (aX×Obj)}{σ:L2.St}{H:Hp}{s:aH}(I:Inv X zv σ H s){d:aX}{kvs:List (List Key×V)}(h:H d=some (.dT kvs)):∃xs:NtX,rE (PrT H) kvs xs/\s.heap.DictOfH (tupleKind (yr X.prog X.w)) d xs/\(d==sysModules)=false:=by
 obtain⟨hz0,hsys,xs,pr,o,es,ep,f1,f2,f3,f4,f5⟩:=(show uv X.prog X.w H s.heap d (.dT kvs) from I.hok d _ h)
 refine⟨xs,pr,⟨o,es,ep,f1,f2,f3,f4,?_,f5⟩,hsys⟩
 clear f4 f5 f3 h hz0
 intro x hx
 induction pr with
 | nil=>cases hx
 | cons a r ih =>
  rcases bF.mp hx with z | z
  ·subst z;obtain⟨a1,a2,_⟩:=a;rw[a1] at a2;exact amr I a2
  ·exact ih z
theorem aso{H:Hp}{kvs:List (List Key×V)}{xs:NtX}(pr:rE (PrT H) kvs xs):xs.map (·.1)=kvs.map (·.1):=by
 induction pr with
 | nil=>rfl
 | cons a r ih=>rw[aW,aW,ih,a.1]
theorem a3x{H:Hp}{kvs:List (List Key×V)}{xs:NtX}(pr:rE (PrT H) kvs xs):xs.length=kvs.length:=by
 have:=congrArg vZ (aso pr)
 simpa using this
def aqe:List (List Key×V)->List Key->Option V
 | [],_=>none
 | (k,v)::r,q=>if k=q then some v else aqe r q
theorem a0m{H:Hp}{k:List Key}{v:V}{kvs:List (List Key×V)}{xs:NtX}(pr:rE (PrT H) kvs xs)(h:aqe kvs k=some v):∃p:aX×Value,atKey xs k=some p/\RelV v p.2:=by
 induction pr with
 | nil=>cases h
 | @cons a b l1 l2 hab r ih =>
  obtain⟨ka,va⟩:=a;obtain⟨kb,ab,vb⟩:=b;obtain⟨e1,e2,e3⟩:=hab;dsimp only at e1 e2 e3;subst e1;have h:(if ka=k then some va else aqe l1 k)=some v:=h
  by_cases e:ka=k
  ·subst e;rw[if_pos rfl] at h;cases h;exact⟨(ab,vb),by simp[atKey],e3⟩
  ·rw[if_neg e] at h;obtain⟨p,hp,hr⟩:=ih h;refine⟨p,?_,hr⟩;rw[<-hp];simp[atKey,List.find?_cons,e]
theorem a0l{H:Hp}{a:List Key×V}{b:List Key×Addr×Value}{kvs:List (List Key×V)}{xs:NtX}(pr:rE (PrT H) kvs xs)(h:PrT H a b):rE (PrT H) (kvs++[a]) (xs++[b]):=by
 induction pr with
 | nil=>exact .cons h .nil
 | cons x r ih=>exact .cons x ih
theorem awl{pos:Pos}:PE X (.Dict [] [] pos) (fun _ H Q=>∀p,H p=none->Q (.ref p) (upd H p (.dT []))):=by
 intro zv s σ H Q I q;have big:sysModules < s.heap.objs.size:=by
  have h:bA < s.heap.objs.size:=(I.mod.glob.keeps I.bk).lt;exact oF (by decide) h
 have hn:=I.hok.fresh (aN s.heap.objs.size);refine wpAny_Dict_empty ⟨.ref s.heap.objs.size,upd H s.heap.objs.size (.dT []),?_,rfl,q _ hn⟩;refine I.laid (t':=s.toks) (fun b u e=>aB _ e) (aN _) ?_
 have e:(s.heap.push { cls:=.type "dict", data:=.dict #[] }).get? s.heap.objs.size=some { cls:=.type "dict", data:=.dict #[] }:=aO _ rfl;exact⟨Nat.zero_le _,beq_eq_false_iff_ne.mpr (gG (bQ big)),[],.nil,_,#[],0,e,⟨rfl,rfl,rfl⟩,rfl,rfl,List.nodup_nil⟩
def rIxD:R2:=fun x y H Q=>∃d a kvs ks v,x=.ref d/\y=.ref a/\H d=some (.dT kvs)/\H a=some (.tup (ks.map kV))/\aqe kvs ks=some v/\Q v H
theorem ix_D(hu:X.A.units+64 < cLine):IxR X rIxD:=by
 intro value slice zv s σ H x y v u Q I rx ry h hs;obtain⟨d,a,kvs,ks,z,rfl,rfl,e1,e2,e3,q⟩:=h;cases rx;cases ry;obtain⟨xs,pr,m,md⟩:=a6j I e1;obtain⟨p,hp,rz⟩:=a0m pr e3;exact tail_any m.typeIs slot_dict_getitem.lookup (wpAny_getItem_heap (knd:=tupleKind (yr X.prog X.w)) (by show X.A.units+1 < _;omega) (amr I e2) m hp ⟨z,H,I.tok _,rz,q⟩) hs
def a8i:TSet:=fun o i v H Q=>∃d a kvs ks,o=.ref d/\i=.ref a/\H d=some (.dT kvs)/\H a=some (.tup (ks.map kV))/\ks∉kvs.map (·.1)/\kvs.length<=1000/\Q (upd H d (.dT (kvs++[(ks,v)])))
theorem a8f(hu:X.A.units+64 < cLine):PSet X a8i:=by
 intro zv s σ H o i v ov iv u Q I ro ri rv h;obtain⟨d,a,kvs,ks,rfl,rfl,e1,e2,hn,hz,q⟩:=h;cases ro;cases ri;obtain⟨xs,pr,m,md⟩:=a6j I e1;have ek:atKey xs ks=none:=by
  unfold atKey;rw[Option.map_eq_none_iff,List.find?_eq_none];intro x hx z;refine hn ?_;rw[<-aso pr,<-of_decide_eq_true z];exact bD.mpr ⟨x,hx,rfl⟩
 have hl:=a3x pr;refine wpAny_setItem_heap (knd:=tupleKind (yr X.prog X.w)) (by show X.A.units+1 < _;omega) (amr I e2) m (fun h' m' hs =>?_) (by rw[fY];omega)
 rw[storedH_new ek] at m';refine⟨_,?_,q⟩;obtain⟨o,es,ep,f1,f2,f3,f4,_,f5⟩:=m';have ne:∀{b:aX} {xs:List V},H b=some (.tup xs)->b≠d:=fun e z=>by rw[z,e1] at e;cases e
 refine I.write (by rw[e1];trivial) (.inl rfl) (fun b u hb e=>(hs.2 b hb).trans e) ⟨o,f1⟩ ⟨?_,md,xs++[(ks,a,u)],?_,o,es,ep,f1,f2,f3,f4,f5⟩
 ·rw[bM,fY];show kvs.length+1<=_;omega
 ·refine Paired.mapP (a0l pr (a:=(ks,v)) (b:=(ks,a,u)) ⟨rfl,e2,rv⟩) fun x y h =>?_
  obtain⟨h1,h2,h3⟩:=h;exact⟨h1,by rw[bw (ne h2)];exact h2,h3⟩
def gIxD:D->D->Option D
 | .dtt ds,.tup l=>(rm l).bind fun ns=>(ds.lookup ns).map D.int
 | _,_=>none
theorem ay1{ns:List Int}{n:Int}:∀{ds:List (List Int×Int)},ds.lookup ns=some n->aqe (kvT ds) (ns.map jR)=some (V.int n)
 | [],h=>by cases h
 | (k,m)::r,h=>by
  show(if k.map (jR:Int->Key)=ns.map jR then some (V.int m) else aqe (kvT r) (ns.map jR))=_
  rw[pQ] at h
  by_cases e:ns=k
  ·subst e;rw[beq_self_eq_true] at h;cases h;rw[if_pos rfl]
  ·rw[beq_eq_false_iff_ne.mpr e] at h;rw[if_neg fun q=>e (amv q).symm]
   exact ay1 h
def mIxD(m1 m2:M D):M D:=m1.bind fun a=>m2.bind fun b=>lift (gIxD a b)
theorem a6h{a b:dX}{pos:Pos}{m1 m2:M D}(hu:X.A.units+64 < cLine)(h1:EV K X a m1)(h2:EV K X b m2)(hs:ank b):EV K X (.Subscript a b pos) (mIxD m1 m2):=EV.mk fun hk=>PE.imp (a4g (ix_D hu) (h1 hk) (h2 hk) hs) fun σ H Q z9=>by
 obtain⟨tg,F,ρ,d,ρ',G,em,q⟩:=z9;obtain⟨d1,ρ1,e1,em⟩:=bj em;obtain⟨d2,ρ2,e2,em⟩:=bj em;obtain⟨e3,rfl⟩:=gk em;refine⟨tg,F,ρ,d1,ρ1,G,e1,fun v H1 F1 G1 x1 r1=>⟨tg,F1,ρ1,d2,_,G1,e2,fun u H2 F2 G2 x2 r2 =>?_⟩⟩
 have r1:Is K F1 d1 v:=r1;have r2:Is K F2 d2 u:=r2;cases d1 with
 | dtt ds =>
  cases d2 with
  | tup l =>
   have e3:(rm l).bind (fun ns=>(ds.lookup ns).map D.int)=some d:=e3
   obtain⟨ns,en,e3⟩:=uR.mp e3;obtain⟨n,e4,rfl⟩:=eV.mp e3;rw[ac9 en] at r2;have r1:=Is.mono x2.sub r1;cases r1 with
   | dtt ed =>
    cases r2 with
    | tup et hl =>
     rw[hl.int_inv,<-atr] at et;exact⟨_,_,_,_,_,rfl,rfl,G2.sub _ _ ed,G2.sub _ _ et,ay1 e4,q _ H2 F2 G2 (x1.trans x2) (.int n)⟩
  | _=>cases e3
 | _=>cases e3
@[simp] theorem a88(m1 m2:M D)(ρ:Ro):mIxD m1 m2 ρ=(m1.bind fun a=>m2.bind fun b=>lift (gIxD a b)) ρ:=rfl
@[simp] theorem a9x(ds:List (List Int×Int))(l:List D):gIxD (.dtt ds) (.tup l)=(rm l).bind fun ns=>(ds.lookup ns).map D.int:=rfl
end
def keyN:D->Option (List Int×Int)
 | .tup [.int k,.tup l]=>(rm l).map fun ns=>(ns,k)
 | _=>none
theorem a1g{d:D}{k:List Int×Int}(h:keyN d=some k):d=.tup [.int k.2,.tup (k.1.map D.int)]:=by
 unfold keyN at h;split at h
 ·obtain⟨ns,e,rfl⟩:=eV.mp h;rw[ac9 e]
 ·cases h
@[simp] theorem a1h(k:Int)(ns:List Int):keyN (.tup [.int k,.tup (ns.map D.int)])=some (ns,k):=by
 show(rm (ns.map D.int)).map _=_;rw[vf];rfl
def numD(iN iA:Nat):List D->List (List Int×Int)->Ro->Option (List (List Int×Int)×Ro)
 | [],kvs,ρ=>some (kvs,ρ)
 | d::r,kvs,ρ=>(keyN d).bind fun k=>if (decide (k.1∈kvs.map (·.1))||decide (1000 < kvs.length)||decide (ρ.length<=iN)||decide (ρ.length<=iA))=true then none else numD iN iA r (kvs++[k]) (bR (bR ρ iN (.val (.int k.2))) iA (.val (.tup (k.1.map D.int))))
def dNum(iD iN iA:Nat)(mi:M (List D))(g:Sd):Sd:=fun ρ=>(ρ[iD]?).bind fun _=>(okR mi (bR ρ iD .emp)).bind fun q=>(numD iN iA q.1 [] q.2).bind fun z=>g (bR z.2 iD (.val (.dtt z.1)))
section
variable{K:Fg9}{X:Cx}
structure NumI (K:Fg9) (tg:Nat->aX) (F0 H0:Hp) (O:aX->Prop) (iD:Nat) (p:aX) (kvs:List (List Int×Int)) (F H:Hp) (ρ:Ro) (σ:L2.St):Prop where
 good:Good K tg F H ρ σ
 ext:Ext O (Own ρ σ) F0 H0 F H
 at':σ[iD]? = some (some (.ref p))
 new:H0 p=none
 free:F p=none
 nown:¬Own ρ σ p
 kv:H p=some (.dT (kvT kvs))
section
variable{tg:Nat->aX}{F0 H0:Hp}{O:aX->Prop}{iD:Nat}{p:aX}{kvs:List (List Int×Int)}{F H F' H':Hp}{ρ ρ':Ro}{σ σ':L2.St}
theorem NumI.step(J:NumI K tg F0 H0 O iD p kvs F H ρ σ)(G:Good K tg F' H' ρ' σ')(x:Ext (Own ρ σ) (Own ρ' σ') F H F' H')(hs:σ'[iD]? = σ[iD]?):NumI K tg F0 H0 O iD p kvs F' H' ρ' σ':=by
 refine⟨G,J.ext.trans x,hs.trans J.at',J.new,?_,fun z =>?_,x.keep _ _ J.kv J.nown⟩
 ·cases e:F' p with
  | none=>rfl
  | some o =>
   rcases x.new p o e with q | q | q
   ·rw[J.free] at q;cases q
   ·rw[J.kv] at q;cases q
   ·exact absurd q J.nown
 ·rcases x.own p z with q | q
  ·exact J.nown q
  ·rw[J.kv] at q;cases q
theorem NumI.store(J:NumI K tg F0 H0 O iD p kvs F H ρ σ){i:Nat}(hi:i≠iD){d:D}{v:V}(h:Is K F d v):NumI K tg F0 H0 O iD p kvs F H (bR ρ i (.val d)) (bR σ i (some v)):=by
 obtain⟨G,x⟩:=J.good.storeV i h;exact J.step G x (fO hi)
theorem NumI.write(J:NumI K tg F0 H0 O iD p kvs F H ρ σ)(k:List Int×Int):NumI K tg F0 H0 O iD p (kvs++[k]) F (upd H p (.dT (kvT kvs++[(k.1.map jR,V.int k.2)]))) ρ σ:=by
 have hp:∀b o,F b=some o->b≠p:=fun b o e z=>by rw[z,J.free] at e;cases e
 refine⟨J.good.grow (Same.refl F) (fun b o e=>by rw[bw (hp b o e)];exact J.good.sub b o e) (fun c w =>?_) (fun c C dx fvs f1 f2=>⟨f1,?_⟩),?_,J.at',J.new,J.free,J.nown,?_⟩
 ·have:c≠p:=fun z=>J.nown (z▸w)
  rw[bw this];exact⟨(J.good.ownAt w).1,rfl⟩
 ·have:c≠p:=fun z=>by rw[z,J.kv] at f2;cases f2
  rw[bw this]
 ·refine⟨J.ext.sub,J.ext.new,fun c o e n' =>?_,J.ext.own,fun c e =>?_⟩
  ·have:c≠p:=fun z=>by rw[z,J.new] at e;cases e
   rw[bw this];exact J.ext.keep c o e n'
  ·by_cases hc:c=p
   ·rw[hc];exact J.new
   ·rw[bw hc] at e;exact J.ext.there c e
 ·rw[dh];unfold kvT;rw[bW];rfl
theorem NumI.fin(J:NumI K tg F0 H0 O iD p kvs F H ρ σ):∃F',Good K tg F' H (bR ρ iD (.val (.dtt kvs))) σ/\Ext O (Own (bR ρ iD (.val (.dtt kvs))) σ) F0 H0 F' H:=by
 have hp:∀b o,F b=some o->b≠p:=fun b o e z=>by rw[z,J.free] at e;cases e
 have s1:Same F (upd F p (.dT (kvT kvs))):=fun b o e=>by rw[bw (hp b o e)];exact e
 have G1:Good K tg (upd F p (.dT (kvT kvs))) H ρ σ:=J.good.grow s1 (fun b o e=>by
   by_cases z:b=p
   ·rw[z,dh] at e;cases e;rw[z];exact J.kv
   ·rw[bw z] at e;exact J.good.sub b o e) (fun c w=>⟨by
   have:c≠p:=fun z=>J.nown (z▸w)
   rw[bw this];exact(J.good.ownAt w).1,rfl⟩) fun c C dx fvs f1 f2=>⟨by
   have:c≠p:=fun z=>by rw[z,J.kv] at f2;cases f2
   rw[bw this];exact f1,rfl⟩
 have x1:Ext O (Own ρ σ) F0 H0 (upd F p (.dT (kvT kvs))) H:=⟨J.ext.sub.trans s1,fun a o e=>by
   by_cases z:a=p
   ·rw[z];exact .inr (.inl J.new)
   ·rw[bw z] at e;exact J.ext.new a o e,J.ext.keep,J.ext.own,J.ext.there⟩
 obtain⟨G2,x2⟩:=G1.storeV iD (d:=.dtt kvs) (v:=.ref p) (.dtt dh);have e:bR σ iD (some (.ref p))=σ:=by
  apply iG;intro j
  by_cases z:iD=j
  ·subst z;rw[fQ (aK.mp J.at').1,J.at']
  ·rw[fO z]
 rw[e] at G2 x2;exact⟨_,G2,x1.trans x2⟩
end
variable{eD eN eA iter:dX}{ss:List iJ}{p1 p2 p3 p7 p8 p10 p11 p12 p14:Pos}
theorem azz{iD iN iA kt:Nat}{xD xN xA:Str}{mi:M (List D)}{g:Sd}(hu:X.A.units+64 < cLine)(hp:tK (bU X.prog X.w) X.A X.env X.xe)(hc:X.calm=true)(hN:X.N.Nodup)
  (nD:X.N[iD]? = some xD) (nN:X.N[iN]? = some xN) (nA:X.N[iA]? = some xA) (lD:Loc X.env.scope xD) (lN:Loc X.env.scope xN) (lA:Loc X.env.scope xA) (dN:iN≠iD) (dA:iA≠iD) (dNA:iN≠iA)
  (sD:PE X eD (tVar iD)) (sN:PE X eN (tVar iN)) (sA:PE X eA (tVar iA)) (hi:IT K X (.Tuple [.Name xN p10,.Name xA p11] kt p12) iter mi) (hg:SVs K X ss g)
  (w1:gU (.Dict [] [] p2) (some (.Name xD p1)) p3.line X.env=pure false:=by rfl) (f1:X.fn xD=true∨X.env.scope.names.lookup xD=some .local:=by first | exact .inl rfl | exact .inr rfl | assumption)
  (w3:swapsWithSole [.Subscript eD eA p7] eN p8.line X.env=pure false:=by rfl) (w4:swappedStores [.Subscript eD eA p7] eN X.env=pure none:=by rfl)
  (w5:(dU [.Subscript eD eA p7] X.env).map (·.2)=[mZ (.Subscript eD eA p7) X.env]:=by rfl)
  (w6:∀v,mZ (.Subscript eD eA p7) X.env v=(do
   let ov <-mW [v] (eval eD X.env)
   let iv <-mW [v,ov] (eval eA X.env)
   standAt p7
   mW [v,ov,iv] (setItem ov iv v)
   release [v,ov,iv] []):=by intro _;rfl)
  (w11:(dU [.Name xN p10,.Name xA p11] X.env).map (·.2)=mZ (.Name xN p10) X.env::(dU [.Name xA p11] X.env).map (·.2):=by rfl) (w12:(dU [.Name xA p11] X.env).map (·.2)=mZ (.Name xA p11) X.env::(dU [] X.env).map (·.2):=by rfl)
  (w13:(dU [.Name xN p10,.Name xA p11] X.env).length=2:=by rfl) (w14:(dU [.Name xN p10,.Name xA p11] X.env).findIdx? (·.1)=none:=by rfl)
  (f3:X.fn xN=true∨X.env.scope.names.lookup xN=some .local:=by first | exact .inl rfl | exact .inr rfl | assumption) (f4:X.fn xA=true∨X.env.scope.names.lookup xA=some .local:=by first | exact .inl rfl | exact .inr rfl | assumption)
  (hs:∀x,foldedSetIterable iter X.env x=pure x:=by intro _;rfl) :
  SVs K X (.Assign [.Name xD p1] (.Dict [] [] p2) p3::.For (.Tuple [.Name xN p10,.Name xA p11] kt p12) iter [.Assign [.Subscript eD eA p7] eN p8] [] p14::ss) (dNum iD iN iA mi g) :=
 SVs.mk fun hk=>PSs.imp (ae0 (ayr hN nD lD awl w1 f1) (ae0 (ays hp hc (hi hk) (asw hc (acy (afy hN nN lN f3) (acy (afy hN nA lA f4) amd w12) w11) w13 w14) (aid (anw sN (ayu sD sA (a8f hu) w6) w3 w4 w5)) hs) (hg hk))) fun E σ H z9=>by
 obtain⟨tg,F,ρ,fl,ρ',G,em,q⟩:=z9;subst hk;obtain⟨sl0,esl,em⟩:=ajb em;obtain⟨⟨l,ρ0⟩,em0,em⟩:=ajb em;obtain⟨⟨kvE,ρE⟩,emL,emF⟩:=ajb em
 clear em
 intro p hpn;have Gf:=G.fresh hpn (.dT []);have Xf:=G.freshX hpn (.dT []);obtain⟨Ge,oe⟩:=Gf.empS iD (some (.ref p));have oe':=oe;have hlen:iD < σ.length:=by
  rw[<-G.len];exact(aK.mp esl).1
 have J0:NumI X.K tg F H (Own ρ σ) iD p [] F (upd H p (.dT [])) (bR ρ iD .emp) (bR σ iD (some (.ref p))) :=
  ⟨Ge,⟨Xf.sub,Xf.new,Xf.keep,fun a z=>Xf.own a (oe a z),Xf.there⟩,by rw[fQ hlen],hpn,G.freeF hpn,(fun z=>by
   obtain⟨_,vs,e⟩:=G.ownAt (oe' p z);rw[hpn] at e;cases e),dh⟩
 refine⟨tg,F,bR ρ iD .emp,l,ρ0,Ge,a4v em0,fun J H1 F1 G1 x1 Z =>?_⟩
 have J1:=J0.step G1 x1 rfl;refine auj Z (fun i σ2 H2=>∃kvs F2 ρ2,NumI X.K tg F H (Own ρ σ) iD p kvs F2 H2 ρ2 σ2/\Same F1 F2/\numD iN iA (l.drop i) kvs ρ2=some (kvE,ρE)) ⟨[],F1,ρ0,J1,Same.refl _,emL⟩ (fun i σ2 H2 _ z8=>by obtain⟨kvs,F2,ρ2,J2,s2,_⟩:=z8;exact s2.trans J2.good.sub) ?_ ?_
 ·rintro i d x σ2 H2' H2 hd z7 al
  obtain⟨kvs,F2',ρ2,J2',s2',em2⟩:=z7;obtain⟨F2,G2,x2,s2,id,x2s⟩:=ajf J2'.good J2'.ext s2' al;have J2:=J2'.step G2 x2s rfl;have hlt:i < l.length:=(aK.mp hd).1;have ed:l[i]=d:=(aK.mp hd).2;rw[oM hlt,ed] at em2;obtain⟨k,ek,em2⟩:=ajb em2;have ek:keyN d=some k:=ek;split at em2
  ·cases em2
  rename_i hc2;simp only[zE,decide_eq_true_eq,not_or] at hc2;rw[a1g ek] at id;cases id with
  | tup e8 hl8 =>
   cases hl8 with
   | cons i1 t1 =>
    cases t1 with
    | cons i2 t2 =>
     cases t2;have J3:=(J2.store dN i1).store dA i2;cases i1;cases i2 with
     | @tup a vs ds ea hla =>
      have hla':=hla.int_inv;have ea':F2 a=some (.tup ((k.1.map (jR:Int->Key)).map kV)):=by rw[atr,<-hla'];exact ea
      obtain⟨⟨⟨c1,c2⟩,c3⟩,c4⟩:=hc2;have hl2:=J2.good.len;have n1:iN < σ2.length:=by omega
      have n2:iA < σ2.length:=by omega
      have g1:(bR (bR σ2 iN (some (V.int k.2))) iA (some (V.ref a)))[iN]? = some (some (V.int k.2)):=by rw[fO (gG dNA),fQ n1]
      have g2:(bR (bR σ2 iN (some (V.int k.2))) iA (some (V.ref a)))[iA]? = some (some (V.ref a)):=fQ (by rw[cZ];exact n2)
      have nin:k.1.map (jR:Int->Key)∉(kvT kvs).map (·.1):=fun z=>by
       obtain⟨y,hy,e⟩:=bD.mp z;obtain⟨w,hw,rfl⟩:=bD.mp hy;exact c1 (bD.mpr ⟨w,hw,amv e⟩)
      have hkl:(kvT kvs).length<=1000:=by unfold kvT;rw[aM];omega
      exact⟨_,_,rfl,SqT.of (J2.good.sub _ _ e8),rfl,_,_,rfl,_,_,rfl,rfl,_,g1,_,J3.at',_,g2,p,a,kvT kvs,k.1.map jR,rfl,rfl,J3.kv,J2.good.sub _ _ ea',nin,hkl,kvs++[k],F2,_,J3.write k,s2,em2⟩
 ·rintro σ2 H2 ⟨kvs,F2,ρ2,J2,s2,em2⟩
  rw[pX (aN _)] at em2;cases em2;obtain⟨F3,G3,x3⟩:=J2.fin;exact⟨tg,F3,_,fl,ρ',G3,emF,FlOk.back x3 q⟩
theorem SVs.s{g:Sd}(h:SVs K X ss g):SVs K X ss (dOk g):=SVs.mk fun hk=>PSs.imp (h.go hk) fun E σ H z9=>by
 obtain⟨tg,F,ρ,fl,ρ',G,em,q⟩:=z9;exact⟨tg,F,ρ,fl,ρ',G,(au2 em).1,q⟩
theorem azm{g:Sd}:XSs K X ss (dOk g):=⟨fun _ _ zv s σ H tg F ρ x ρ' I G em=>absurd (qg.mp em) (atc ρ x ρ')⟩
end
end Dn
end
namespace Dn
open PySem L2
@[simp] abbrev gL9(d:D):Option Rv:=(itemsD d).map fun l=>.v (.int l.length)
@[simp] abbrev gT9(d:D):Option Rv:=(itemsD d).map fun l=>.v (.tup l)
end Dn
namespace My
open PySem L2 Mn Dn
def NS:List Str:=["ArrowError","NoArrows","NoRoom","NoWalkers","NotShut","NeverBack","NoTour","NoRow","NoHouse","NotOpen","Nobody","NoText","TooGreat"]
def ahm:Sd :=
 (dRet (M.v (mAnd (mIsi .int (dq 0)) (mUn gNot (mIsi .bool (dq 0))))))
def zx:Fd:=fnD 1 1 ahm
def zq:Sd :=
 (dRet (M.v (mAnd (M.d (mFn zx [some 0] (gj 0 gq))) (aoc (fun i j=>decide (i<=j)) (fun i j=>decide (i<=j)) (mVar 1) (mVar 0) (mVar 2)))))
def j7:Fd:=fnD 3 3 zq
def aat:Sd :=
 (dRet (mFn j7 [none,none,none] (dg (mVar 1) (dg (ret (.int 0)) (dg (M.d (mOp (gInt fSub) (fu (M.d (jf (g1 gL9) (iu 0 mNil))) (ret (.int 1))))) gq)))))
def lu:Fd:=fnD 2 2 aat
def wj:Sd :=
 (dIf (okS (ad7 (wg (M.d (mFn lu [some 0,none] (gj 0 (dg (mVar 1) gq))))))) (ahu ⟨"NoRoom", []⟩) dNx)
def gr:Fd:=fnD 2 2 wj
def ana:M D :=
 (M.d (mOp (gIn false) (dj 0 (dq 1))))
def aja:M Bool :=
 (wg (M.d (jf (g1 gAll) (aq (M.d (qz [none,some 1] (lq (M.d (mOp gIx (dj 2 (dq 0))))) (cu 0) (ret true) ana)) mNil))))
def am9:M D :=
 (mVar 0)
def ah3:M Bool :=
 (ju (gCmp fun i j=>decide (i < j)) (fu (M.d (jf (g1 gL9) (iu 1 mNil))) (dq 2)))
def ahz:Sd :=
 (dSeq (dSet 2 (jf (g1 gL9) (iu 1 mNil))) (dSet 1 (qz [none,some 1,some 0] (lq (mVar 1)) (cu 0) aja am9)))
def ay9:Sd :=
 (dSeq (dSet 1 (ad6 (aq (M.d (jf (g1 gL9) (iu 0 mNil))) mNil))) (dSeq (dSet 2 (mOp gAdd (fu (M.d (jf (g1 gL9) (iu 1 mNil))) (ret (.int 1))))) (dSeq (whileD ah3 ahz fuel) (dRet (jf (g1 gT9) (iu 1 mNil))))))
def ahp:Fd:=fnD 3 1 ay9
def aky:Sd :=
 (dRet (mOp (gEq false) (fu (M.d (mFn ahp [some 0] (gj 0 gq))) (mTup mNil))))
def abe:Fd:=fnD 1 1 aky
def ug:Sd :=
 (dSeq (dOk (dSet 1 (mFn ahp [some 0] (gj 0 gq)))) (dIf (okS (ju (gEq true) (dj 1 (mTup mNil)))) (acq "NotOpen" "room" (okS (M.d (mOp gIx (dj 1 (ret (.int 0))))))) dNx))
def gn:Fd:=fnD 2 1 ug
def aci:Sd :=
 (dIf (ju (gEq true) (fu (M.d (mOp gIx (fu (M.d (mOp gIx (dj 0 (dq 2)))) (dq 1)))) (ret (.int 0)))) (dRet (af5 2)) dNx)
def ahl:Sd :=
 (dSeq (dFor (mGet aix (aq (mVar 1) (aq (M.d (jf (g1 gL9) (iu 0 mNil))) mNil))) (cu 2) aci) (dRet (M.v (ret .non))))
def zu:Fd:=fnD 3 2 ahl
def aee:M D :=
 (M.d (jf (g1 fun d=>(itemsD d).map fun l=>.fr l) (iu 0 mNil)))
def aqt:M D :=
 (mUn gNeg (mVar 0))
def aku:Sd :=
 (dSeq (dSet 3 (qz [none] (lq (mVar 0)) (cu 0) (ret true) aee)) (dSeq (dIf (ju (gEq true) (dj 1 (dq 2))) (dSeq (dSub 3 (mVar 1) (M.d (jf (g1 fun d=>(itemsD d).map fun l=>.fr l) (aq (M.d (mOp gIx (dj 0 (dq 2)))) mNil)))) (dSub 3 (mVar 2) (M.d (qz [none] (lq (M.d (mOp gIx (dj 0 (dq 1))))) (cu 0) (ret true) aqt)))) dNx) (dRet (af5 3))))
def abd:Fd:=fnD 4 3 aku
def abz:M D :=
 (M.d (mOp (gInt fDiv) (fu (M.d (mOp (gInt fSub) (fu (M.d (mOp gMul (fu (M.d (mOp gIx (dj 3 (dq 5)))) (dq 0)))) (M.d (mOp gMul (fu (M.d (mOp gIx (dj 2 (dq 5)))) (dq 1))))))) (dq 4))))
def abv:Sd :=
 (dIf (ju (gEq false) (dj 5 (dq 1))) (agq (M.v (mMut 4 aco (aq (M.d (jf (g1 fun d=>(itemsD d).map fun l=>.fr l) (iu 3 mNil))) mNil)))) (agq (M.v (mMut 4 aco (aq (M.d (qz [none,none,some 6,some 3,some 2,some 1] (mGet aqq (aq (mVar 6) (aq (mVar 3) mNil))) (bTup 2 (qd (cu 0) (qd (cu 1) bNil))) (ret true) abz)) mNil)))))
def akz:Sd :=
 (dSeq (dSet 3 (mOp gIx (dj 0 (dq 1)))) (dSeq (dSet 4 (mLst mNil)) (dSeq (dFor (mGet aud (aq (mVar 0) mNil)) (bTup 2 (qd (cu 5) (qd (cu 6) bNil))) abv) (dRet (af5 4)))))
def abf:Fd:=fnD 7 3 akz
def adg:M D :=
 (M.d (mOp gAdd (fu (M.d (jf (g1 fun d=>(itemsD d).map fun l=>.fr l) (iu 0 mNil))) (M.d (mLst (aq (mVar 1) mNil))))))
def ac8:Sd :=
 (dSeq (dSet 5 (mFn zu [some 2,none] (gj 2 (dg (mVar 4) gq)))) (dSeq (dIf (wg (mIsN false (dq 5))) (dRet (M.v (ret .non))) dNx) (dSeq (dSet 2 (mFn abd [none,none,none] (dg (mVar 2) (dg (mVar 4) (dg (mVar 5) gq))))) (dSeq (dSet 2 (mFn abf [none,some 4,some 3] (dg (mVar 2) (gj 4 (gj 3 gq))))) (dSet 3 (mOp gIx (fu (M.d (mOp gIx (dj 2 (dq 4)))) (dq 4))))))))
def agm:M D :=
 (M.d (mOp gIx (dj 0 (M.d (jf (g1 gL9) (iu 1 mNil))))))
def aon:Sd :=
 (dSeq (dSet 2 (qz [none,none] (mGet aqq (aq (mVar 0) (aq (mVar 1) mNil))) (bTup 2 (qd (cu 0) (qd (cu 1) bNil))) (ret true) adg)) (dSeq (dSet 3 (M.v (ret (.int 1)))) (dSeq (dFor (mGet qe (aq (M.d (jf (g1 gL9) (iu 0 mNil))) mNil)) (cu 4) ac8) (dRet (M.v (mTup (aq (M.d (qz [none,some 0] (lq (mVar 2)) (cu 0) (ret true) agm)) (aq (mVar 3) mNil))))))))
def adc:Fd:=fnD 6 2 aon
def ada:Sd :=
 (dSeq (dSet 1 (mFn adc [none,none] (dg (mVar 0) (dg (M.d (mOp gMul (fu (M.d (mLst (aq (ret (.int 0)) mNil))) (M.d (jf (g1 gL9) (iu 0 mNil)))))) gq)))) (dRet (mIf (wg (mIsN false (dq 1))) (M.v (ret (.int 0))) (mOp gIx (dj 1 (ret (.int 1)))))))
def rn:Fd:=fnD 2 1 ada
def xm:M D :=
 (mUn gNeg (aoa 1 (aq (mVar 0) mNil)))
def l1_doors_square:Sd :=
 (dSeq (dSet 4 (qz [none,some 3] (mGet qe (aq (M.d (jf (g1 gL9) (iu 0 mNil))) mNil)) (cu 0) (ret true) xm)) (dSeq (ai9 (fun i j=>i+j) 4 (mVar 2) (M.d (jf (g1 gL9) (iu 3 mNil)))) (agq (M.v (mMut 1 aco (aq (mVar 4) mNil))))))
def ab3:Sd :=
 (dSeq (dSet 1 (mLst mNil)) (dSeq (dFor (mGet aud (aq (mVar 0) mNil)) (bTup 2 (qd (cu 2) (qd (cu 3) bNil))) l1_doors_square) (dRet (af5 1))))
def qj:Fd:=fnD 5 1 ab3
def aua:Sd :=
 (dSeq (dSet 3 (mOp gIx (dj 1 (dq 2)))) (dSeq (dSub 1 (mVar 2) (M.d (mOp (gInt fMod) (fu (M.d (mOp gAdd (dj 3 (ret (.int 1))))) (M.d (jf (g1 gL9) (aq (M.d (mOp gIx (dj 0 (dq 2)))) mNil))))))) (dRet (mOp gIx (fu (M.d (mOp gIx (dj 0 (dq 2)))) (dq 3))))))
def agf:Fd:=fnD 4 3 aua
def abo:M Bool :=
 (ju (gCmp fun i j=>decide (j<=i)) (dj 5 (ret (.int 0))))
def adt:Sd :=
 (dSeq (ai9 (fun i j=>i+j) 4 (mVar 5) (ret (.int 1))) (dSet 5 (mFn agf [some 0,some 3,none] (gj 0 (gj 3 (dg (mVar 5) gq))))))
def akx:Sd :=
 (dSeq (dSet 3 (jf (g1 fun d=>(itemsD d).map fun l=>.fr l) (iu 1 mNil))) (dSeq (dSet 4 (mOp gMul (fu (M.d (mLst (aq (ret (.int 0)) mNil))) (M.d (jf (g1 gL9) (iu 0 mNil)))))) (dSeq (dSet 5 (M.v (mVar 2))) (dSeq (whileD abo adt fuel) (dRet (M.v (mTup (aq (mVar 5) (aq (M.d (jf (g1 gT9) (iu 3 mNil))) (aq (M.d (jf (g1 gT9) (iu 4 mNil))) mNil))))))))))
def f_led_out:Fd:=fnD 6 3 akx
def aba:Sd :=
 (dSeq (agq (mFn gn [some 0] (gj 0 gq))) (dOk (dRet (mFn rn [none] (dg (M.d (mFn qj [none] (dg (mVar 0) gq))) gq)))))
def jb:Fd:=fnD 1 1 aba
def abh:M D :=
 (mTup (aq (M.d (mOp gIx (dj 1 (M.d (mOp (gInt fSub) (dj 0 (ret (.int 1)))))))) mNil))
def agb:Sd :=
 (dSeq (dSet 2 (jf (g1 gT9) (aq (M.d (qz [none,none] (mGet aqq (aq (mVar 1) (aq (mVar 0) mNil))) (bTup 2 (qd (cu 0) (qd (cu 1) bNil))) (ret true) abh)) mNil))) (dRet (mFn abe [none] (dg (M.d (mOp gAdd (dj 2 (M.d (ati 0 (aiu (M.d (jf (g1 gL9) (iu 1 mNil)))) (ret none)))))) gq))))
def uh:Fd:=fnD 3 2 agb
def abi:M D :=
 (M.d (mOp gAdd (dj 1 (mTup (aq (mVar 0) mNil)))))
def abm:M Bool :=
 (wg (M.d (mFn uh [some 1,some 0] (gj 1 (gj 0 gq)))))
def abg:M D :=
 (mVar 0)
def vd:Sd :=
 (dSeq (dSet 6 (qz [none,some 5] (mGet qe (aq (M.d (jf (g1 gL9) (iu 3 mNil))) mNil)) (cu 0) (ret true) abi)) (agq (M.v (mMut 4 aiy (aq (M.d (qz [none,some 0] (lq (mVar 6)) (cu 0) abm abg)) mNil)))))
def u9:Sd :=
 (dSeq (dSet 4 (mLst mNil)) (dSeq (dFor (lq (mVar 2)) (cu 5) vd) (dSet 2 (af5 4))))
def aaj:Sd :=
 (dSeq (dSet 1 (mFn jb [none] (dg (okS (mVar 0)) gq))) (dSeq (dIf (okS (ju (gCmp fun i j=>decide (j < i)) (dj 1 (ret (.int 300))))) (acp "TooGreat" "many" "most" (mTwo (okS (mVar 1)) (okS (ret (.int 300))))) dNx) (dSeq (dOk (dSet 2 (mLst (aq (mTup mNil) mNil)))) (dSeq (dOk (dFor (lq (mVar 0)) (cu 3) u9)) (dOk (dRet (af5 2)))))))
def jw:Fd:=fnD 7 1 aaj
def ai7:M D :=
 (mIxD (mVar 2) (M.d (mOp gIx (fu (M.d (mFn f_led_out [some 3,some 0,some 1] (gj 3 (gj 0 (gj 1 gq))))) (ret (.int 1))))))
def akv:Sd :=
 (dSeq (agq (mFn gr [some 0,none] (gj 0 (dg (okS (mVar 1)) gq)))) (dSeq (dSet 2 (mFn jw [none] (dg (okS (mVar 0)) gq))) (dOk (dNum 3 4 5 (mGet aud (aq (mVar 2) mNil)) (dRet (qz [none,some 1,some 3,some 0] (lq (mVar 2)) (cu 0) (ret true) ai7))))))
def zr:Fd:=fnD 6 2 akv
def acn:Sd :=
 (dSeq (dIf (ju (gCmp fun i j=>decide (i < j)) (dj 1 (M.d (jf (g1 gL9) (iu 0 mNil))))) (dRet (mOp gIx (dj 0 (dq 1)))) dNx) (dRet (M.v (ret (.int 0)))))
def f__law_cell:Fd:=fnD 2 2 acn
def ahn:Sd :=
 (dSeq (dSet 1 (jf (g2 (gInt fun i j=>some (if j > i then j else i))) (iu 0 (aq (M.d (mOp (gInt fSub) (fu (ret (.int 0)) (dq 0)))) mNil)))) (dRet (mLst (aq (mVar 1) (aq (M.d (jf (g1 axs) (aq (M.d (mOp (gCmp fun i j=>decide (j<=i)) (dj 1 (M.d (mOp (gInt fPow) (fu (ret (.int 10)) (ret (.int 18)))))))) mNil))) mNil)))))
def f__law_pen:Fd:=fnD 2 1 ahn
def acl:Sd :=
 (dSeq (dIf (ju (gEq false) (fu (M.d (mOp gIx (dj 0 (ret (.int 1))))) (ret (.int 1)))) (dSeq (dAsg (M.d (jf (g2 ai0) (aq (M.d (mOp gIx (dj 0 (ret (.int 0))))) (iu 1 mNil)))) (bTup 2 (qd (cu 2) (qd (cu 3) bNil)))) (dSeq (dSub 0 (ret (.int 0)) (mVar 2)) (dRet (af5 3)))) dNx) (dSeq (dSet 4 (mOp (gInt fMod) (fu (M.d (mOp gMul (fu (M.d (mOp gAdd (fu (M.d (mOp (gInt fMod) (fu (M.d (mOp gIx (dj 0 (ret (.int 0))))) (ret (.int 2147483647))))) (ret (.int 40503))))) (ret (.int 69621))))) (ret (.int 2147483629))))) (dSeq (dSet 4 (mOp (gInt fMod) (fu (M.d (mOp gAdd (fu (M.d (mOp gMul (dj 4 (dq 4)))) (ret (.int 7817))))) (ret (.int 2147483587))))) (dSeq (dSub 0 (ret (.int 0)) (M.d (mOp (gInt fMod) (fu (M.d (mOp gAdd (fu (M.d (mOp gMul (dj 4 (ret (.int 48271))))) (ret (.int 11))))) (ret (.int 2147483629)))))) (dRet (mOp (gInt fMod) (fu (M.d (mOp (gInt fDiv) (fu (M.d (mOp gIx (dj 0 (ret (.int 0))))) (ret (.int 32))))) (dq 1))))))))
def f__law_draw:Fd:=fnD 5 2 acl
def aeq:Sd :=
 (dRet (M.v (mAnd (mIsi .int (dq 0)) (mUn gNot (mIsi .bool (dq 0))))))
def j0:Fd:=fnD 1 1 aeq
def aho:Sd :=
 (dSeq (dSet 1 (mLst (aq (ret .non) (aq (ret (.bl true)) (aq (ret (.bl false)) (aq (mUn gNeg (ret (.int 1))) (aq (ret (.str "1")) (aq (ret (.str "")) (aq (mTup mNil) (aq (M.d (mLst mNil)) (aq (mTup (aq (ret (.int 0)) mNil)) (aq (M.d (mLst (aq (ret (.int 0)) mNil))) (aq (ret (.dct [(nR "a", .int 1)])) (aq (mTup (aq (ret (.int 0)) (aq (ret (.int 1)) mNil))) (aq (M.d (mOp (gInt fPow) (fu (ret (.int 10)) (ret (.int 30))))) (aq (mTup (aq (mTup (aq (ret (.int 0)) mNil)) mNil)) (aq (ret (.str "ab")) mNil))))))))))))))))) (dRet (mOp gIx (fu (M.d (mOp gAdd (dj 1 (M.d (mLst (aq (mTup (aq (mTup (aq (mUn gNeg (ret (.int 1))) mNil)) (aq (mTup (aq (ret (.int 0)) (aq (ret (.int 1)) mNil))) mNil))) mNil)))))) (M.d (mFn f__law_draw [some 0,none] (gj 0 (dg (ret (.int 16)) gq))))))))
def f__law_odd:Fd:=fnD 2 1 aho
def aan:M D :=
 (M.d (mOp (gInt fSub) (fu (M.d (mFn f__law_draw [some 1,none] (gj 1 (dg (M.d (mOp gAdd (dj 2 (dq 3)))) gq)))) (dq 3))))
def aai:Sd :=
 (dSeq (dSet 7 (mOp gAdd (fu (ret (.int 1)) (M.d (mFn f__law_draw [some 0,some 2] (gj 0 (gj 2 gq))))))) (agq (M.v (mMut 5 aco (aq (M.d (jf (g1 gT9) (aq (M.d (qz [none,some 0,some 3,some 4] (mGet qe (aq (mVar 7) mNil)) (cu 0) (ret true) aan)) mNil))) mNil)))))
def aet:Sd :=
 (dSeq (dSet 3 (mOp gAdd (fu (ret (.int 1)) (M.d (mFn f__law_draw [some 0,some 1] (gj 0 (gj 1 gq))))))) (dSeq (dSet 4 (mOp gIx (fu (M.d (mLst (aq (ret (.int 0)) (aq (ret (.int 1)) (aq (ret (.int 3)) (aq (ret (.int 3)) mNil)))))) (M.d (mFn f__law_draw [some 0,none] (gj 0 (dg (ret (.int 4)) gq))))))) (dSeq (dSet 5 (mLst mNil)) (dSeq (dFor (mGet qe (aq (mVar 3) mNil)) (cu 6) aai) (dRet (jf (g1 gT9) (iu 5 mNil)))))))
def f__law_house:Fd:=fnD 8 3 aet
def xq:M Bool :=
 (ju (gIn true) (dj 0 (dq 1)))
def xn:M D :=
 (mVar 0)
def mz:M Bool :=
 (ju (gCmp fun i j=>decide (i < j)) (dj 3 (M.d (jf (g1 gL9) (iu 2 mNil)))))
def jr:Sd :=
 (dSeq (dIf (ju (gCmp fun i j=>decide (j<=i)) (fu (M.d (mOp gIx (dj 2 (dq 3)))) (ret (.int 0)))) (dSet 2 (mOp gAdd (dj 2 (M.d (qz [none,some 2] (lq (M.d (jf (g1 gSet) (aq (M.d (mOp gIx (dj 0 (M.d (mOp gIx (dj 2 (dq 3))))))) mNil)))) (cu 0) xq xn))))) dNx) (dSet 3 (mOp gAdd (dj 3 (ret (.int 1))))))
def ab4:Sd :=
 (dSeq (dSet 2 (mLst (aq (mVar 1) mNil))) (dSeq (dSet 3 (M.v (ret (.int 0)))) (dSeq (whileD mz jr fuel) (dRet (af5 2)))))
def ql:Fd:=fnD 4 2 ab4
def l1__law_open:Sd :=
 (dIf (ju (gCmp fun i j=>decide (j<=i)) (fu (M.d (jf (g1 a1t) (aq (M.d (mFn ql [some 3,none] (gj 3 (dg (mVar 4) gq)))) mNil))) (ret (.int 0)))) (dSeq (dSet 5 (mFn f__law_draw [some 0,none] (gj 0 (dg (M.d (jf (g1 gL9) (aq (M.d (mOp gIx (dj 3 (dq 4)))) mNil))) gq)))) (dSub 3 (mVar 4) (M.d (mOp gAdd (fu (M.d (mOp gAdd (fu (M.d (mCut (M.d (mOp gIx (dj 3 (dq 4)))) (ret none) (aiu (mVar 5)))) (mTup (aq (M.d (mOp (gInt fSub) (fu (mUn gNeg (ret (.int 1))) (M.d (mFn f__law_draw [some 0,none] (gj 0 (dg (ret (.int 3)) gq))))))) mNil))))) (M.d (mCut (M.d (mOp gIx (dj 3 (dq 4)))) (aiu (M.d (mOp gAdd (dj 5 (ret (.int 1)))))) (ret none)))))))) dNx)
def agd:Sd :=
 (dSeq (dSet 3 (jf (g1 fun d=>(itemsD d).map fun l=>.fr l) (aq (M.d (mFn f__law_house [some 0,some 1,some 2] (gj 0 (gj 1 (gj 2 gq))))) mNil))) (dSeq (dFor (mGet qe (aq (M.d (jf (g1 gL9) (iu 3 mNil))) mNil)) (cu 4) l1__law_open) (dRet (jf (g1 gT9) (iu 3 mNil)))))
def f__law_open:Fd:=fnD 6 3 agd
def amx:Sd :=
 (dSeq (dSet 1 (mLst (aq (mIsC NS "NoArrows" (dq 0)) (aq (mIsC NS "NoRoom" (dq 0)) (aq (mIsC NS "NoWalkers" (dq 0)) (aq (mIsC NS "NotShut" (dq 0)) mNil)))))) (dSeq (dSet 1 (mOp gAdd (dj 1 (M.d (mLst (aq (mIsC NS "NeverBack" (dq 0)) (aq (mIsC NS "NoTour" (dq 0)) (aq (mIsC NS "NoRow" (dq 0)) (aq (mIsC NS "NoHouse" (dq 0)) mNil))))))))) (dSeq (dSet 1 (mOp gAdd (dj 1 (M.d (mLst (aq (mIsC NS "NotOpen" (dq 0)) (aq (mIsC NS "Nobody" (dq 0)) (aq (mIsC NS "NoText" (dq 0)) (aq (mIsC NS "TooGreat" (dq 0)) mNil))))))))) (dSeq (dIf (mOrB (ad7 (wg (mIsC NS "ValueError" (dq 0)))) (ju (gEq true) (fu (aoa 1 (aq (ret (.bl true)) mNil)) (ret (.int 1))))) (dRet (M.v (ret (.str "other")))) dNx) (dSeq (dSet 2 (mLst (aq (ret (.str "arrows")) (aq (ret (.str "room")) (aq (ret (.str "walkers")) (aq (ret (.str "shut")) (aq (ret (.str "never")) (aq (ret (.str "tour")) (aq (ret (.str "row")) (aq (ret (.str "house")) (aq (ret (.str "open")) (aq (ret (.str "nobody")) mNil)))))))))))) (dRet (mOp gIx (fu (M.d (mOp gAdd (dj 2 (M.d (mLst (aq (ret (.str "text")) (aq (ret (.str "great")) mNil))))))) (aw6 1 age (aq (ret (.bl true)) mNil))))))))))
def qp:Fd:=fnD 3 1 amx
def aam:M D :=
 (M.d (mOp gIx (dj 1 (M.d (mOp (gInt fSub) (dj 0 (ret (.int 1))))))))
def abb:Sd :=
 (dRet (qz [none,none] (mGet aqq (aq (mVar 1) (aq (mVar 0) mNil))) (bTup 2 (qd (cu 0) (qd (cu 1) bNil))) (ret true) aam))
def f__law_lasts:Fd:=fnD 2 2 abb
def oh:Sd :=
 (dIf (ju (gCmp fun i j=>decide (i<=j)) (fu (ret (.int 0)) (dq 2))) (dSeq (dSet 2 (mOp gIx (dj 0 (dq 2)))) (dIf (ju (gEq false) (dj 2 (dq 1))) (dRet (M.v (ret (.bl false)))) dNx)) dNx)
def l2__law_free:Sd :=
 (dSeq (dSet 2 (M.v (mVar 1))) (dFor (mGet qe (aq (M.d (jf (g1 gL9) (iu 0 mNil))) mNil)) (cu 3) oh))
def ack:Sd :=
 (dSeq (dFor (mGet qe (aq (M.d (jf (g1 gL9) (iu 0 mNil))) mNil)) (cu 1) l2__law_free) (dRet (M.v (ret (.bl true)))))
def um:Fd:=fnD 4 1 ack
def ur:M D :=
 (M.d (mOp gAdd (dj 1 (mTup (aq (mVar 0) mNil)))))
def j6:Sd :=
 (dSet 3 (mOp gAdd (dj 3 (M.d (qz [none,some 4] (mGet qe (aq (M.d (jf (g1 gL9) (iu 2 mNil))) mNil)) (cu 0) (ret true) ur)))))
def jq:Sd :=
 (dSeq (dSet 3 (mLst mNil)) (dSeq (dFor (lq (mVar 1)) (cu 4) j6) (dSet 1 (M.v (mVar 3)))))
def qb:M Bool :=
 (wg (M.d (mFn um [none] (dg (M.d (mFn f__law_lasts [some 1,some 0] (gj 1 (gj 0 gq)))) gq))))
def uq:M D :=
 (mVar 0)
def wk:Sd :=
 (dSeq (dSet 1 (mLst (aq (mTup mNil) mNil))) (dSeq (dFor (lq (mVar 0)) (cu 2) jq) (dRet (qz [none,some 0] (lq (mVar 1)) (cu 0) qb uq))))
def jk:Fd:=fnD 5 1 wk
def aer:Sd :=
 (dSeq (dAsg (M.d (mOp gIx (fu (M.d (mLst (aq (mTup (aq (ret (.int 2)) (aq (ret (.int 6)) mNil))) (aq (mTup (aq (ret (.int 3)) (aq (ret (.int 4)) mNil))) (aq (mTup (aq (ret (.int 4)) (aq (ret (.int 3)) mNil))) (aq (mTup (aq (ret (.int 5)) (aq (ret (.int 2)) mNil))) (aq (mTup (aq (ret (.int 6)) (aq (ret (.int 2)) mNil))) mNil))))))) (M.d (mFn f__law_draw [some 0,none] (gj 0 (dg (ret (.int 5)) gq))))))) (bTup 2 (qd (cu 1) (qd (cu 2) bNil)))) (dRet (mFn f__law_open [some 0,some 1,some 2] (gj 0 (gj 1 (gj 2 gq))))))
def f__law_small:Fd:=fnD 3 1 aer
def xu:M Bool :=
 (ju (gCmp fun i j=>decide (j<=i)) (dj 2 (ret (.int 0))))
def aaw:Sd :=
 (dSeq (dSet 4 (mOp gIx (fu (M.d (mOp gIx (dj 0 (dq 2)))) (M.d (mOp gIx (dj 3 (dq 2))))))) (dSeq (dSub 3 (mVar 2) (M.d (mOp (gInt fMod) (fu (M.d (mOp gAdd (fu (M.d (mOp gIx (dj 3 (dq 2)))) (ret (.int 1))))) (M.d (jf (g1 gL9) (aq (M.d (mOp gIx (dj 0 (dq 2)))) mNil))))))) (dSet 2 (M.v (mVar 4)))))
def agc:Sd :=
 (dSeq (dSet 3 (jf (g1 fun d=>(itemsD d).map fun l=>.fr l) (iu 1 mNil))) (dSeq (whileD xu aaw fuel) (dRet (jf (g1 gT9) (iu 3 mNil)))))
def f__law_sent:Fd:=fnD 5 3 agc
def ym:Sd :=
 (dSeq (dSet 3 (mFn qp [some 2] (gj 2 gq))) (dSeq (dIf (aw8 (ju (gEq false) (dj 3 (ret (.str "great")))) (aw8 (wg (M.d (mFn j0 [none] (dg (mFld ["TooGreat"] "many" (mVar 2)) gq)))) (wg (M.d (mFn j0 [none] (dg (mFld ["TooGreat"] "most" (mVar 2)) gq)))))) (dRet (M.v (mTup (aq (mVar 3) (aq (mTup (aq (mFld ["TooGreat"] "many" (mVar 2)) (aq (mFld ["TooGreat"] "most" (mVar 2)) mNil))) mNil))))) dNx) (dRet (M.v (mTup (aq (mVar 3) (aq (ret .non) mNil)))))))
def xg:Sd :=
 (dTry NS (dRet (aw5 (okS (ret (.str "told"))) (mFn zr [none,none] (dg (okS (mVar 0)) (dg (okS (mVar 1)) gq))))) 2 ym)
def cg:Fd:=fnD 4 2 xg
def sr:M D :=
 (aw6 1 age (aq (M.d (mFn f__law_sent [some 3,some 0,some 2] (gj 3 (gj 0 (gj 2 gq))))) mNil))
def aal:M D :=
 (M.d (mFn j0 [some 0] (gj 0 gq)))
def l1__law_right:Sd :=
 (dSeq (a2j 5 6 (mFn cg [none,none] (dg (mVar 0) (dg (mVar 1) gq)))) (dSeq (dIf (mOrB (ju (gEq true) (dj 5 (ret (.str "told")))) (mOrB (ad7 (wg (mIsi .list (dq 6)))) (ju (gEq true) (dj 6 (dq 3))))) (dRet (M.v (ret (.bl false)))) dNx) (dSeq (dIf (ad7 (wg (M.d (jf (g1 gAll) (aq (M.d (aw7 6 (qz [none] (lq (mVar 6)) (cu 0) (ret true) aal))) mNil))))) (dRet (M.v (ret (.bl false)))) dNx) (agq (M.v (mMut 6 aco (aq (ret (.int 0)) mNil)))))))
def aes:Sd :=
 (dSeq (dSet 2 (mFn jk [none] (dg (mVar 0) gq))) (dSeq (dSet 3 (qz [none,some 2,some 1,some 0] (lq (mVar 2)) (cu 0) (ret true) sr)) (dSeq (dFor (mGet qe (aq (ret (.int 2)) mNil)) (cu 4) l1__law_right) (dRet (M.v (ret (.bl true)))))))
def fj:Fd:=fnD 7 2 aes
def aoy:M D :=
 (M.d (mOp gIx (fu (M.d (mFn cg [some 1,some 0] (gj 1 (gj 0 gq)))) (ret (.int 0)))))
def aog:Sd :=
 (dIf (ad7 (wg (M.d (mFn fj [none,none] (dg (mVar 4) (dg (mVar 5) gq)))))) (dRet (M.v (ret (.bl false)))) dNx)
def aof:Sd :=
 (dIf (mOrB (ju (gEq true) (fu (M.d (mOp gIx (fu (M.d (mFn cg [none,none] (dg (mVar 4) (dg (mVar 6) gq)))) (ret (.int 0))))) (ret (.str "room")))) (ju (gEq true) (fu (M.d (mOp gIx (fu (M.d (mFn cg [none,none] (dg (mTup (aq (mTup (aq (ret (.int 0)) mNil)) mNil)) (dg (mVar 6) gq)))) (ret (.int 0))))) (ret (.str "room"))))) (dRet (M.v (ret (.bl false)))) dNx)
def auv:M D :=
 (M.d (jf (g2 (gInt fun i j=>some (if j > i then j else i))) (aq (ret (.int 0)) (iu 0 mNil))))
def aox:M D :=
 (M.d (jf (g1 gT9) (aq (M.d (qz [none] (lq (mVar 0)) (cu 0) (ret true) auv)) mNil)))
def l3_law:Sd :=
 (dSeq (dSet 3 (mFn f__law_pen [some 2] (gj 2 gq))) (dSeq (dSet 4 (mFn f__law_small [some 3] (gj 3 gq))) (dSeq (dFor (mGet qe (aq (M.d (jf (g1 gL9) (iu 4 mNil))) mNil)) (cu 5) aog) (dSeq (dFor (lq (M.d (mLst (aq (M.d (jf (g1 gL9) (iu 4 mNil))) (aq (mUn gNeg (ret (.int 1))) (aq (ret (.bl true)) (aq (ret .non) (aq (M.d (mFn f__law_odd [some 3] (gj 3 gq))) mNil)))))))) (cu 6) aof) (dSeq (dSet 7 (jf (g1 gT9) (aq (M.d (qz [none] (lq (mVar 4)) (cu 0) (ret true) aox)) mNil))) (dIf (ju (gEq true) (fu (M.d (mOp gIx (fu (M.d (mFn cg [none,none] (dg (mVar 7) (dg (ret (.int 0)) gq)))) (ret (.int 0))))) (ret (.str "open")))) (dRet (M.v (ret (.bl false)))) dNx))))))
def a6a:Sd :=
 (dSeq (dSet 1 (M.v (mTup (aq (M.d (mOp gMul (fu (mTup (aq (mUn gNeg (ret (.int 1))) mNil)) (ret (.int 6))))) (aq (M.d (mOp gMul (fu (mTup (aq (mUn gNeg (ret (.int 1))) mNil)) (ret (.int 6))))) (aq (M.d (mOp gMul (fu (mTup (aq (mUn gNeg (ret (.int 1))) (aq (ret (.int 0)) mNil))) (ret (.int 3))))) (aq (M.d (mOp gMul (fu (mTup (aq (mUn gNeg (ret (.int 1))) (aq (ret (.int 1)) mNil))) (ret (.int 3))))) mNil))))))) (dSeq (dIf (mOrB (ad7 (wg (M.d (mFn fj [none,none] (dg (mTup (aq (mTup (aq (mUn gNeg (ret (.int 1))) mNil)) mNil)) (dg (ret (.int 0)) gq)))))) (ad7 (wg (M.d (mFn fj [none,none] (dg (mTup (aq (mTup (aq (mUn gNeg (ret (.int 1))) (aq (ret (.int 0)) (aq (ret (.int 0)) mNil)))) mNil)) (dg (ret (.int 0)) gq))))))) (dRet (M.v (ret (.bl false)))) dNx) (dSeq (dIf (mOrB (ju (gEq true) (fu (M.d (mFn cg [none,none] (dg (mVar 1) (dg (ret (.int 0)) gq)))) (mTup (aq (ret (.str "great")) (aq (mTup (aq (M.d (mFn jb [none] (dg (mVar 1) gq))) (aq (ret (.int 300)) mNil))) mNil))))) (ju (gEq true) (fu (M.d (mOp gIx (fu (M.d (mFn cg [none,none] (dg (mVar 1) (dg (ret (.int 3)) gq)))) (ret (.int 0))))) (ret (.str "great"))))) (dRet (M.v (ret (.bl false)))) dNx) (dSeq (dIf (ju (gEq true) (fu (M.d (qz [none,some 1] (lq (M.d (mLst (aq (ret (.int 4)) (aq (mUn gNeg (ret (.int 1))) (aq (ret (.bl true)) (aq (ret .non) mNil))))))) (cu 0) (ret true) aoy)) (M.d (mOp gMul (fu (M.d (mLst (aq (ret (.str "room")) mNil))) (ret (.int 4))))))) (dRet (M.v (ret (.bl false)))) dNx) (dSeq (dFor (lq (M.d (mOp gAdd (fu (M.d (mLst (aq (M.d (mFn f__law_cell [some 0,none] (gj 0 (dg (ret (.int 0)) gq)))) mNil))) (M.d (ati 0 (aiu (ret (.int 1))) (aiu (ret (.int 3))))))))) (cu 2) l3_law) (dRet (M.v (ret (.bl true)))))))))
def axw:Fd:=fnD 8 1 a6a
def afa:D->Bool
 | .int _=>true
 | _=>false
def qw(a b:Int):D->Bool
 | .int i=>decide (a<=i)&&decide (i<=b)
 | _=>false
@[simp] theorem a1l(d:D):zx [.val d]=some (.ok (.v (.bl (afa d))),[.val d]):=by
 cases d <;> simp[zx,ahm,isTy,afa]
@[simp] theorem aok(d:D)(a b:Int):j7 [.val d,.val (.int a),.val (.int b)]=some (.ok (.v (.bl (qw a b d))),[.val d,.val (.int a),.val (.int b)]):=by
 cases d <;> simp[j7,zq,afa,qw]
theorem avb(ns:List Int)(k:Int)(h:0<=k):∃n,f__law_cell [.val (.kst (ns.map D.int)),.val (.int k)]=some (.ok (.v (.int n)),[.val (.kst (ns.map D.int)),.val (.int k)]):=by
 by_cases hk:k < (ns.length:Int)
 ·have e:atI (ns.map D.int) k=some (.int (ns[k.toNat]'(by omega))):=by
   have h2:atI (ns.map D.int) ((k.toNat:Nat):Int)=some (.int (ns[k.toNat]'(by omega))):=aje (by simp[bB,aF (show k.toNat < ns.length by omega)])
   rw[show((k.toNat:Nat):Int)=k by omega] at h2
   exact h2
  exact⟨ns[k.toNat]'(by omega),by simp[f__law_cell,acn,hk,e]⟩
 ·exact⟨0,by simp[f__law_cell,acn,hk]⟩
def pen(P:Int×Int):List D:=[.int P.1,.int P.2]
theorem awi(n:Int):∃P,f__law_pen [.val (.int n)]=some (.ok (.fr (pen P)),[.val (.int n)]):=by
 refine⟨(if 0 - n > n then 0 - n else n,if 10 ^ 18<=(if 0 - n > n then 0 - n else n) then 1 else 0),?_⟩
 simp[f__law_pen,ahn,pen,fPow]
theorem vg(P:Int×Int)(m:Int)(h0:0 < m)(h1:m < 1000000000000000000000000000000000000000000000000000000000000):∃r P',f__law_draw [.own (some 0) (pen P),.val (.int m)]=some (.ok (.v (.int r)),[.own (some 0) (pen P'),.val (.int m)])/\0<=r/\r < m:=by
 obtain⟨a,b⟩:=P
 by_cases hb:b=1
 ·refine⟨a % m,(a / m,b),?_,nZ _ (by omega),jT _ h0⟩
  simp[f__law_draw,acl,pen,hb,h0,h1,atI,ixN]
 ·have z0:0<=(a % 2147483647+40503)*69621 % 2147483629:=nZ _ (by decide)
  have z1:(a % 2147483647+40503)*69621 % 2147483629 < 2147483629:=jT _ (by decide)
  generalize hz:(a % 2147483647+40503)*69621 % 2147483629=z at z0 z1;have hm:fMul z z=some (z*z):=by
   unfold fMul;rw[if_pos (.inl ⟨by omega,by omega⟩)]
  refine⟨((z*z+7817) % 2147483587*48271+11) % 2147483629 / 32 % m,(((z*z+7817) % 2147483587*48271+11) % 2147483629,b),?_,nZ _ (by omega),jT _ h0⟩
  have h69:∀x:Int,fMul x 69621=some (x*69621):=fun x=>by unfold fMul;rw[if_pos (.inr (by decide))]
  have h48:∀x:Int,fMul x 48271=some (x*48271):=fun x=>by unfold fMul;rw[if_pos (.inr (by decide))]
  simp[f__law_draw,acl,pen,hb,h0,h1,atI,ixN,h69,h48,hm,fMod,fDiv,hz]
structure HouseOk (m w:Int) (qv:LL9):Prop where
 one:1<=qv.length
 most:(qv.length:Int)<=m
 room:∀r∈qv,1<=r.length/\(r.length:Int)<=w/\∀x∈r,-3<=x/\x < (qv.length:Int)
def hDs(qv:LL9):List D:=qv.map fun r=>D.tup (r.map D.int)
def hD(qv:LL9):D:=.tup (hDs qv)
theorem aqp(P:Int×Int)(m w:Int)(m1:1<=m)(m2:m<=10)(w1:1<=w)(w2:w<=6):∃qv P',f__law_house [.own (some 0) (pen P),.val (.int m),.val (.int w)]=some (.ok (.v (hD qv)),[.own (some 0) (pen P'),.val (.int m),.val (.int w)])/\HouseOk m w qv:=by
 obtain⟨r1,P1,e1,r1a,r1b⟩:=vg P m (by omega) (by omega)
 obtain⟨r2,P2,e2,r2a,r2b⟩:=vg P1 4 (by decide) (by decide)
 have hg:∃g:Int,atI [D.int 0,D.int 1,D.int 3,D.int 3] r2=some (.int g)/\0<=g/\g<=3:=by
  have:r2=0∨r2=1∨r2=2∨r2=3:=by omega
  rcases this with rfl | rfl | rfl | rfl
  ·exact⟨0,rfl,by decide,by decide⟩
  ·exact⟨1,rfl,by decide,by decide⟩
  ·exact⟨3,rfl,by decide,by decide⟩
  ·exact⟨3,rfl,by decide,by decide⟩
 obtain⟨g,eg,g0,g3⟩:=hg;have loop:=aby (b:=cu 6) (g:=aai) (fun i ρ=>∃qv P o1 o2,ρ=[.own (some 0) (pen P),.val (.int m),.val (.int w),.val (.int (1+r1)),.val (.int g),.own none (hDs qv),o1,o2]/\qv.length=i/\∀r∈qv,1<=r.length/\(r.length:Int)<=w/\∀x∈r,-3<=x/\x < 1+r1)
  (l:=rangeD 0 (1+r1).toNat) (ρ:=[.own (some 0) (pen P2),.val (.int m),.val (.int w),.val (.int (1+r1)),.val (.int g),.own none [],.emp,.emp]) 0 ⟨[],P2,.emp,.emp,rfl,rfl,by simp⟩ ?_
 ·obtain⟨ρ',e3,qv,P3,o1,o2,rfl,hl,hr⟩:=loop;have hl:qv.length=(1+r1).toNat:=by simpa[rangeD] using hl
  refine⟨qv,P3,?_,by omega,by omega,fun r h =>?_⟩
  ·have hb:(1+r1).natAbs < 4611686018427387904:=by omega
   simp[f__law_house,aet,e1,e2,eg,hb,e3,hD]
  ·obtain⟨a,b,c⟩:=hr r h;exact⟨a,b,fun x hx=>by have:=c x hx;omega⟩
 ·rintro i d ρ hd ⟨qv,P4,o1,o2,rfl,hl,hr⟩
  obtain⟨r5,P5,e5,r5a,r5b⟩:=vg P4 w (by omega) (by omega)
  have comp:=abl (b:=cu 0) (mc:=ret true) (me:=aan) (fun j ys ρ=>∃ns P o,ρ=[o,.own (some 1) (pen P),.val (.int (1+r1)),.val (.int g)]/\ys=ns.map D.int/\ns.length=j/\∀x∈ns,-3<=x/\x < 1+r1)
   (l:=rangeD 0 (1+r5).toNat) (ys:=[]) (ρ:=[.emp,.own (some 1) (pen P5),.val (.int (1+r1)),.val (.int g)]) 0 ⟨[],P5,.emp,rfl,rfl,rfl,by simp⟩ ?_
  ·obtain⟨ys,ρ',e6,ns,P6,o,rfl,rfl,hn,hx⟩:=comp;have hn:ns.length=(1+r5).toNat:=by simpa[rangeD] using hn
   have hb:(1+r5).natAbs < 4611686018427387904:=by omega
   have hc1:ns.length<=capS:=b8 (by omega)
   have hi:i < (1+r1).toNat:=by
    have:=(aK.mp hd).1
    simpa[rangeD] using this
   have hc2:(hDs qv).length < capS:=by simp[hDs,capS];omega
   refine⟨_,[.own (some 0) (pen P6),.val (.int m),.val (.int w),.val (.int (1+r1)),.val (.int g),.own none (hDs (qv++[ns])),.val d,.val (.int (1+r5))],rfl,.inl (by simp[aai,e5,hb,e6,hc1,hc2];simp[hDs]),qv++[ns],P6,_,_,rfl,by simp[hl],fun r h =>?_⟩
   rcases dG.mp h with h | h
   ·exact hr r h
   ·obtain rfl:r=ns:=by simpa using h
    exact⟨by omega,by omega,hx⟩
  ·rintro j d ys ρ hd ⟨ns,P6,o,rfl,rfl,hn,hx⟩
   obtain⟨r7,P7,e7,r7a,r7b⟩:=vg P6 (1+r1+g) (by omega) (by omega)
   refine⟨_,_,true,rfl,rfl,.inr ⟨rfl,.int (r7 - g),_,by simp[aan,e7];rfl,ns++[r7 - g],P7,_,rfl,by simp,by simp[hn],fun x h =>?_⟩⟩
   rcases dG.mp h with h | h
   ·exact hx x h
   ·obtain rfl:x=r7 - g:=by simpa using h
    omega
@[simp] theorem ay2(d:D):j0 [.val d]=some (.ok (.v (.bl (afa d))),[.val d]):=by
 cases d <;> simp[j0,aeq,isTy,afa]
structure Hs (qv:LL9):Prop where
 one:1<=qv.length
 most:qv.length<=10
 room:∀r∈qv,1<=r.length/\r.length<=6/\∀x∈r,-3<=x/\x < (qv.length:Int)
def dr(qv:LL9)(x:Int):List Int:=qv.getD x.toNat []
inductive Rch (qv:LL9) (a:Int):Int->Prop
 | base:Rch qv a a
 | step {x d:Int}:Rch qv a x->0<=x->d∈dr qv x->Rch qv a d
theorem agy{qv:LL9}{x:Int}(h0:0<=x)(h1:x < (qv.length:Int)):atI (hDs qv) x=some (.tup ((dr qv x).map D.int)):=by
 have hk:x.toNat < qv.length:=by omega
 have q:atI (hDs qv) ((x.toNat:Nat):Int)=some (.tup ((dr qv x).map D.int)):=aje (by simp[hDs,dr,aF hk])
 rw[show((x.toNat:Nat):Int)=x by omega] at q
 exact q
theorem Hs.dr{qv:LL9}(h:Hs qv){x:Int}(h0:0<=x)(h1:x < (qv.length:Int)):1<=(dr qv x).length/\(My.dr qv x).length<=6/\∀y∈My.dr qv x,-3<=y/\y < (qv.length:Int):=by
 have hk:x.toNat < qv.length:=by omega
 have e:My.dr qv x=qv[x.toNat]:=by simp[My.dr,hk]
 rw[e];exact h.room _ (dC hk)
theorem Rch.range{qv:LL9}(h:Hs qv){a x:Int}(ha:0<=a/\a < (qv.length:Int))(r:Rch qv a x) : -3<=x/\x < (qv.length:Int):=by
 induction r with
 | base=>omega
 | step r h0 hd ih=>exact(h.dr h0 ih.2).2.2 _ hd
theorem akf:∀(m:Nat) (l:List Int),l.Nodup->(∀x∈l,-3<=x/\x < (m:Int) - 3)->l.length<=m
 | 0,l,_,h=>by
  cases l with
  | nil=>simp
  | cons x r=>have:=h x (aP ..);omega
 | m+1,l,hn,h=>by
  have h1:(l.erase ((m:Int) - 3)).length<=m:=akf m _ (hn.erase _) fun x hx=>by
   rw[hn.mem_erase_iff] at hx;have:=h x hx.2;have:=hx.1;omega
  have h2:l.length<=(l.erase ((m:Int) - 3)).length+1:=by
   rw[xU];split <;> omega
  omega
theorem a0b{qv:LL9}(h:Hs qv){a:Int}(ha:0<=a/\a < (qv.length:Int)){ns:List Int}(hn:ns.Nodup)(hr:∀x∈ns,Rch qv a x):ns.length<=13:=by
 have:=akf (qv.length+3) ns hn fun x hx=>by have:=Rch.range h ha (hr x hx);omega
 have:=h.most;omega
theorem apy{qv:LL9}{a:Int}{ns:List Int}(h0:a∈ns)(hc:∀x∈ns,0<=x->∀d∈dr qv x,d∈ns){x:Int}(r:Rch qv a x):x∈ns:=by
 induction r with
 | base=>exact h0
 | step r h0 hd ih=>exact hc _ ih h0 _ hd
theorem a6s{ns:List Int}{i:Nat}(h:i < ns.length):atI (ns.map D.int) (i:Int)=some (.int ns[i]):=aje (by simp[aF h])
def a6z(qv:LL9)(S:Sl):Prop:=S=.val (hD qv)∨S=.own (some 0) (hDs qv)
theorem ajw{qv:LL9}(h:Hs qv){S:Sl}(hS:a6z qv S){a:Int}{ns:List Int}{i:Nat}(hi:i < ns.length)(hz:ns.length<=13)(hx:ns[i] < (qv.length:Int)) :
  jr [S,.val (.int a),.own none (ns.map D.int),.val (.int (i:Nat))]=some (.nx,[S,.val (.int a),.own none ((if 0<=ns[i] then ns++(setI (dr qv ns[i])).filter (fun d => !decide (d∈ns)) else ns).map D.int),.val (.int ((i:Nat)+1))]):=by
 have ei:=a6s hi
 by_cases h0:0<=ns[i]
 ·obtain⟨k1,k2,k3⟩:=h.dr h0 hx;have er:=agy h0 hx;have es:=aub (ns:=dr qv ns[i]) (by omega)
  have ef:compD (cu 0) xq xn ((setI (dr qv ns[i])).map D.int) [] [.emp,.own (some 1) (ns.map D.int)]=some (.ok (((setI (dr qv ns[i])).filter (fun d => !decide (d∈ns))).map D.int),xf .emp ((setI (dr qv ns[i])).map D.int)::[.own (some 1) (ns.map D.int)]):=by
   rw[qt (p:=fun d=>match d with | .int k => !decide (k∈ns) | _=>false) (f:=id)]
   ·simp[tM,jB]
   ·intro d hd;obtain⟨k,_,rfl⟩:=bD.mp hd;simp[xq,auc]
   ·intro d hd _;simp[xn]
  have hlen:(setI (dr qv ns[i])).length<=6:=by
   unfold setI;rw[(sortI_perm _).length_eq];exact cR (ach _) k2
  have hc1:((setI (dr qv ns[i])).filter (fun d => !decide (d∈ns))).length<=6:=cR (gB _ _) hlen
  have hc2:ns.length+((setI (dr qv ns[i])).filter (fun d => !decide (d∈ns))).length<=capS:=b8 (by omega)
  have hc3:((setI (dr qv ns[i])).filter (fun d => !decide (d∈ns))).length<=capS:=b8 (by omega)
  rcases hS with rfl | rfl
  ·simp[jr,hD,ei,h0,er,es,ef,hc1,hc2,hc3]
  ·simp[jr,ei,h0,er,es,ef,hc1,hc2,hc3]
 ·simp[jr,ei,h0]
theorem ajx{qv:LL9}(h:Hs qv){S:Sl}(hS:a6z qv S){a:Int}(ha:0<=a/\a < (qv.length:Int)) :
  ∃ns:List Int,ql [S,.val (.int a)]=some (.ok (.fr (ns.map D.int)),[S,.val (.int a)])/\ns≠[]/\∀x,x∈ns↔Rch qv a x:=by
 have loop:=yw (c:=mz) (g:=jr)
  (fun k ρ=>∃(ns:List Int) (i:Nat),ρ=[S,.val (.int a),.own none (ns.map D.int),.val (.int (i:Nat))]/\k=20 - i/\i<=ns.length/\ns.Nodup/\a∈ns/\(∀x∈ns,Rch qv a x)/\∀j (hj:j < ns.length),j < i->0<=ns[j]->∀d∈dr qv ns[j],d∈ns)
  (fun ρ=>∃(ns:List Int) (o:Sl),ρ=[S,.val (.int a),.own none (ns.map D.int),o]/\ns≠[]/\∀x,x∈ns↔Rch qv a x) ?_ fuel 20 [S,.val (.int a),.own none ([a].map D.int),.val (.int ((0:Nat):Int))] (oF (by decide) aoq)
  ⟨[a],0,rfl,rfl,by simp,by simp,by simp,by simp;exact .base,fun j hj hlt=>absurd hlt (pZ _)⟩
 ·obtain⟨ρ',e,ns,o,rfl,hne,hm⟩:=loop;have e:whileD mz jr fuel [S,.val (.int a),.own none [.int a],.val (.int 0)]=some (.nx,[S,.val (.int a),.own none (ns.map D.int),o]):=e;refine⟨ns,?_,hne,hm⟩;rcases hS with rfl | rfl <;> simp[ql,ab4,e]
 ·rintro k ρ ⟨ns,i,rfl,rfl,hi,hn,h0,hr,hc⟩
  have hz:=a0b h ha hn hr
  by_cases hlt:i < ns.length
  ·refine .inr ⟨[S,.val (.int a),.own none (ns.map D.int),.val (.int (i:Nat))],_,20 - (i+1),?_,ajw h hS hlt hz (Rch.range h ha (hr _ (dC hlt))).2,by omega,?_⟩
   ·have:(i:Int) < (ns.length:Int):=by omega
    rcases hS with rfl | rfl <;> simp[mz,this]
   ·by_cases hp:0<=ns[i]
    ·rw[if_pos hp];refine⟨_,i+1,rfl,rfl,by simp;omega,?_,fM _ h0,?_,?_⟩
     ·rw[oY];refine⟨hn,qJ wA (ap8 _),fun x hx y hy e =>?_⟩
      have:=(cL.mp hy).2;subst e;simp[hx] at this
     ·intro x hx;rcases dG.mp hx with hx | hx
      ·exact hr x hx
      ·exact .step (hr _ (dC hlt)) hp ((an8 _ _).mp (cL.mp hx).1)
     ·intro j hj hji hjp d hd;have hjl:j < ns.length:=by omega
      rw[List.getElem_append_left hjl] at hjp hd;rcases iB j i with z | z
      ·exact fM _ (hc j hjl z hjp d hd)
      ·have:j=i:=by omega
       subst this
       by_cases hdn:d∈ns
       ·exact fM _ hdn
       ·exact cM _ (cL.mpr ⟨(an8 _ _).mpr hd,by simp[hdn]⟩)
    ·rw[if_neg hp];refine⟨_,i+1,rfl,rfl,hlt,hn,h0,hr,?_⟩;intro j hj hji hjp d hd;rcases iB j i with z | z
     ·exact hc j hj z hjp d hd
     ·have:j=i:=by omega
      subst this;exact absurd hjp hp
  ·refine .inl ⟨[S,.val (.int a),.own none (ns.map D.int),.val (.int (i:Nat))],?_,ns,_,rfl,wQ h0,fun x=>⟨hr x,apy h0 fun y hy hp d hd =>?_⟩⟩
   ·have:¬(i:Int) < (ns.length:Int):=by omega
    rcases hS with rfl | rfl <;> simp[mz,this]
   ·obtain⟨j,hj,rfl⟩:=iU.mp hy;exact hc j hj (by omega) hp d hd
open Classical in
noncomputable def caught(qv:LL9)(a:Int):Bool:=decide (∀x,Rch qv a x->0<=x)
theorem jj(qv:LL9)(a:Int):caught qv a=true↔∀x,Rch qv a x->0<=x:=by
 unfold caught;exact @decide_eq_true_iff _ (mK _)
def upto(n:Nat):List Int:=(aJ n).map fun i=>((i:Nat):Int)
theorem ue(n:Nat):rangeD 0 n=(upto n).map D.int:=by
 unfold rangeD upto;rw[bY];apply dO;intro i _;simp
theorem uw{n:Nat}{x:Int}(h:x∈upto n):0<=x/\x < (n:Int):=by
 obtain⟨i,hi,rfl⟩:=bD.mp h;have:=cO.mp hi;omega
noncomputable def trapI(qv:LL9):List Int:=(upto qv.length).filter (caught qv)
theorem afi{qv:LL9}(h:Hs qv):(qv.length:Int).natAbs < 4611686018427387904:=by have:=h.most;omega
theorem asm{qv:LL9}(h:Hs qv):qe [.int (qv.length:Int)]=some (rangeD 0 qv.length):=by
 rw[amy,if_pos (afi h),cC]
def keepI(qv:LL9)(S:List Int):List Int:=S.filter fun x=>(dr qv x).all fun d=>decide (d∈S)
theorem azt{qv:LL9}(h:Hs qv)(S:List Int){x:Int}(h0:0<=x)(h1:x < (qv.length:Int)) :
  aja [.val (.int x),.val (.lst (S.map D.int)),.val (hD qv)]=some (.ok ((dr qv x).all fun d=>decide (d∈S)),[.val (.int x),.val (.lst (S.map D.int)),.val (hD qv)]):=by
 have er:=agy h0 h1;obtain⟨k1,k2,k3⟩:=h.dr h0 h1;have ef:compD (cu 0) (ret true) ana ((dr qv x).map D.int) [] [.emp,.val (.lst (S.map D.int))]=some (.ok ((dr qv x).map fun d=>.bl (decide (d∈S))),xf .emp ((dr qv x).map D.int)::[.val (.lst (S.map D.int))]):=by
  rw[lw (f:=fun d=>match d with | .int k=>.bl (decide (k∈S)) | _=>.non)]
  ·simp
  ·intro d hd;obtain⟨k,_,rfl⟩:=bD.mp hd;simp[ana,auc]
 have hc:(dr qv x).length<=capS:=b8 (by omega)
 have hb:aau ((dr qv x).map fun d=>D.bl (decide (d∈S)))=some ((dr qv x).map fun d=>decide (d∈S)):=anf _ _
 simp[aja,hD,er,ef,hc,hb,jB]
theorem aru{qv:LL9}(h:Hs qv)(S:List Int)(hS:∀x∈S,0<=x/\x < (qv.length:Int)) :
  compD (cu 0) aja am9 (S.map D.int) [] [.emp,.val (.lst (S.map D.int)),.val (hD qv)]=some (.ok ((keepI qv S).map D.int),xf .emp (S.map D.int)::[.val (.lst (S.map D.int)),.val (hD qv)]):=by
 rw[qt (p:=fun d=>match d with | .int x=>(dr qv x).all fun d=>decide (d∈S) | _=>false) (f:=id)]
 ·simp only[keepI,tM,jB,vY,aZ]
 ·intro d hd;obtain⟨k,hk,rfl⟩:=bD.mp hd;exact azt h S (hS k hk).1 (hS k hk).2
 ·intro d hd _;simp[am9]
theorem a3d{qv:LL9}(h:Hs qv){S:List Int}(hS:∀x∈S,0<=x/\x < (qv.length:Int))(hl:S.length<=10)(o:Sl) :
  ahz [.val (hD qv),.own none (S.map D.int),o]=some (.nx,[.val (hD qv),.own none ((keepI qv S).map D.int),.val (.int (S.length:Nat))]):=by
 have e:=aru h S hS;have hc:(keepI qv S).length<=capS:=b8 (cR (gB _ _) (by omega))
 generalize keepI qv S=T at e hc;simp only[hD] at e ⊢
 simp[ahz,e,hc]
theorem awc{qv:LL9}{x d y:Int}(h0:0<=x)(hd:d∈dr qv x)(hy:Rch qv d y):Rch qv x y:=by
 induction hy with
 | base=>exact .step .base h0 hd
 | step r h1 hd1 ih=>exact .step ih h1 hd1
theorem al0{qv:LL9}(h:Hs qv):ahp [.val (hD qv)]=some (.ok (.v (.tup ((trapI qv).map D.int))),[.val (hD qv)]):=by
 have hm:=h.most;have ul:(upto qv.length).length=qv.length:=by simp[upto]
 have e0:((upto qv.length).filter fun _=>true)=upto qv.length:=wB.mpr fun _ _=>rfl
 have loop:=yw (c:=ah3) (g:=ahz)
  (fun k ρ=>∃(p:Int->Bool) (m:Nat),ρ=[.val (hD qv),.own none (((upto qv.length).filter p).map D.int),.val (.int (m:Nat))]/\k=m/\((upto qv.length).filter p).length<=m/\(m=((upto qv.length).filter p).length->keepI qv ((upto qv.length).filter p)=(upto qv.length).filter p)/\∀x∈trapI qv,p x=true)
  (fun ρ=>∃o,ρ=[.val (hD qv),.own none ((trapI qv).map D.int),o]) ?_ fuel (qv.length+1) [.val (hD qv),.own none (((upto qv.length).filter fun _=>true).map D.int),.val (.int ((qv.length+1:Nat):Int))] (oF (show qv.length+1 < 100000 by omega) aoq)
  ⟨fun _=>true,qv.length+1,rfl,rfl,by rw[e0,ul];omega,fun z=>by rw[e0,ul] at z;omega,fun _ _=>rfl⟩
 ·obtain⟨ρ',e,o,rfl⟩:=loop;rw[e0] at e;have hb:qe [.int (qv.length:Int)]=some (rangeD 0 qv.length):=asm h;have hb':qv.length < 1000000:=by omega
  have hl:(hDs qv).length=qv.length:=by simp[hDs]
  have er:=ue qv.length;have hcast:((qv.length+1:Nat):Int)=(qv.length:Int)+1:=by omega
  rw[hcast] at e;simp only[hD] at e ⊢
  simp[ahp,ay9,hl,hb',er,ul,e]
 ·rintro k ρ ⟨p,m,rfl,hkm,hle,hcl,hp⟩
  subst hkm;have hS:∀x∈(upto qv.length).filter p,0<=x/\x < (qv.length:Int):=fun x hx=>uw (cL.mp hx).1
  have hl:((upto qv.length).filter p).length<=10:=cR (gB _ _) (by omega)
  by_cases hlt:((upto qv.length).filter p).length < k
  ·refine .inr ⟨_,_,((upto qv.length).filter p).length,?_,a3d h hS hl (.val (.int (k:Nat))),hlt,(fun x=>((dr qv x).all fun d=>decide (d∈(upto qv.length).filter p))&&p x),((upto qv.length).filter p).length,?_,rfl,?_,?_,?_⟩
   ·generalize (upto qv.length).filter p=S at hlt;have:(S.length:Int) < (k:Int):=by omega
    simp[ah3,this]
   ·unfold keepI;rw[rG]
   ·rw[<-rG];exact gB _ _
   ·rw[<-rG];intro z;have:keepI qv ((upto qv.length).filter p)=(upto qv.length).filter p:=wB.mpr fun a ha=>by
     by_cases q:((dr qv a).all fun d=>decide (d∈(upto qv.length).filter p))=true
     ·exact q
     ·exfalso;have:(((upto qv.length).filter p).filter fun x=>(dr qv x).all fun d=>decide (d∈(upto qv.length).filter p)).length < ((upto qv.length).filter p).length:=List.length_filter_lt_length_iff_exists.mpr ⟨a,ha,by simpa using q⟩
      omega
    show keepI qv (keepI qv ((upto qv.length).filter p))=keepI qv ((upto qv.length).filter p);rw[this,this]
   ·intro x hx;rw[bG];refine⟨List.all_eq_true.mpr fun d hd=>decide_eq_true ?_,hp x hx⟩
    obtain⟨x1,x2⟩:=cL.mp hx;have hx0:=uw x1;have hd0:0<=d:=(jj qv x).mp x2 d (.step .base hx0.1 hd);have hd1:=((h.dr hx0.1 hx0.2).2.2 d hd).2;have du:d∈upto qv.length:=by
     unfold upto;exact bD.mpr ⟨d.toNat,cO.mpr (by omega),by omega⟩
    have dt:d∈trapI qv:=cL.mpr ⟨du,(jj qv d).mpr fun y hy=>(jj qv x).mp x2 y (awc hx0.1 hd hy)⟩
    exact cL.mpr ⟨du,hp d dt⟩
  ·refine .inl ⟨[.val (hD qv),.own none (((upto qv.length).filter p).map D.int),.val (.int (k:Nat))],?_,.val (.int (k:Nat)),?_⟩
   ·generalize (upto qv.length).filter p=S at hlt;have:¬(S.length:Int) < (k:Int):=by omega
    simp[ah3,this]
   ·have hk:=hcl (by omega)
    have:(upto qv.length).filter p=trapI qv:=by
     unfold trapI;refine oZ fun x hx =>?_
     by_cases c:caught qv x=true
     ·rw[c];exact hp x (cL.mpr ⟨hx,c⟩)
     ·have:p x=false:=by
       cases q:p x with
       | false=>rfl
       | true =>
        exfalso;refine c ((jj qv x).mpr fun y hy =>?_)
        have:y∈(upto qv.length).filter p:=by
         induction hy with
         | base=>exact cL.mpr ⟨hx,q⟩
         | step r h0 hd ih =>
          rw[<-hk] at ih;have:=dD.mp (cL.mp ih).2 _ hd
          simpa using this
        exact(hS y this).1
      rw[this]
      simpa using c
    rw[this]
theorem HouseOk.hs{m w:Int}{qv:LL9}(h:HouseOk m w qv)(hm:m<=10)(hw:w<=6):Hs qv :=
 ⟨h.one,by have:=h.most;omega,fun r hr=>by obtain⟨a,b,c⟩:=h.room r hr;exact⟨a,by omega,c⟩⟩
theorem al8{n d:Nat}{k:Int}(h0:0<=k):HT.sIx n d (some k)=min k.toNat n:=by
 show(if k < 0 then (k+(n:Int)).toNat else min k.toNat n)=_
 rw[if_neg (by omega)]
theorem a6n{ns:List Int}{k:Int}(h0:0<=k)(h1:k < (ns.length:Int)):cutD (ns.map D.int) none (some k)=(ns.take k.toNat).map D.int:=by
 unfold cutD;rw[al8 h0,aM,zR];have:HT.sIx ns.length 0 none=0:=rfl;rw[this,tL (by omega),Nat.sub_zero,zJ]
theorem ax7{ns:List Int}{k:Int}(h0:0<=k)(h1:k<=(ns.length:Int)):cutD (ns.map D.int) (some k) none=(ns.drop k.toNat).map D.int:=by
 unfold cutD;rw[al8 h0,aM,uU];have:HT.sIx ns.length ns.length none=ns.length:=rfl;rw[this,tL (by omega)]
 exact uZ (by simp)
def bend(r:List Int)(k:Nat)(x:Int):List Int:=r.take k++[x]++r.drop (k+1)
theorem av5(qv:LL9)(j:Nat)(r:List Int):(hDs qv).set j (.tup (r.map D.int))=hDs (qv.set j r):=by
 simp[hDs,List.map_set]
theorem Hs.set{qv:LL9}(h:Hs qv)(j:Nat){r:List Int}(hr:1<=r.length/\r.length<=6/\∀x∈r,-3<=x/\x < (qv.length:Int)):Hs (qv.set j r) :=
 ⟨by rw[cZ];exact h.one,by rw[cZ];exact h.most,fun q hq=>by
  rw[cZ];rcases uE hq with z | rfl
  ·exact h.room q z
  ·exact hr⟩
def Opn(qv:LL9)(a:Int):Prop:=∃x,Rch qv a x/\x < 0
theorem anb{qv:LL9}{k:Int}(h0:0<=k)(h1:k < (qv.length:Int))(r:List Int):dr (qv.set k.toNat r) k=r:=by
 have:k.toNat < qv.length:=by omega
 simp[dr,this]
theorem auw{qv:LL9}{k y:Int}(h0:0<=k)(hy:0<=y)(hne:y≠k)(r:List Int):dr (qv.set k.toNat r) y=dr qv y:=by
 have:k.toNat≠y.toNat:=by omega
 simp[dr,bJ,this]
theorem az9{qv:LL9}{k a y:Int}(h0:0<=k)(r:List Int)(h:Rch qv a y):Rch (qv.set k.toNat r) a y∨Rch qv k y:=by
 induction h with
 | base=>exact .inl .base
 | step p hp hd ih =>
  rename_i x d;rcases ih with ih | ih
  ·by_cases e:x=k
   ·subst e;exact .inr (.step .base hp hd)
   ·exact .inl (.step ih hp (by rw[auw h0 hp e];exact hd))
  ·exact .inr (.step ih hp hd)
theorem asz{qv:LL9}(h:Hs qv){W:Nat}(hW:∀r∈qv,r.length<=W)(P:Int×Int){A B o:Sl}{k:Int}(h0:0<=k)(h1:k < (qv.length:Int)) :
  ∃rooms' P' o',l1__law_open [.own (some 0) (pen P),A,B,.own none (hDs qv),.val (.int k),o]=some (.nx,[.own (some 0) (pen P'),A,B,.own none (hDs rooms'),.val (.int k),o'])/\Hs rooms'/\(∀r∈rooms',r.length<=W)/\rooms'.length=qv.length/\Opn rooms' k/\∀a,Opn qv a->Opn rooms' a:=by
 obtain⟨ns,e,hne,hm⟩:=ajx h (S:=.own (some 0) (hDs qv)) (.inr rfl) ⟨h0,h1⟩;have em:=axr hne
 by_cases z:0<=minI ns
 ·have hcaught:∀x,Rch qv k x->0<=x:=fun x hx=>(an7 hne).mp z x ((hm x).mpr hx)
  obtain⟨a1,a2,a3⟩:=h.dr h0 h1;have er:=agy h0 h1;have aw:=hW (dr qv k) (by
   have hk:k.toNat < qv.length:=by omega
   unfold dr;rw[aY,aF hk];exact dC hk)
  generalize hrow:dr qv k=r at a1 a2 a3 er aw;obtain⟨r1,P1,e1,r1a,r1b⟩:=vg P r.length (by omega) (by omega)
  obtain⟨r2,P2,e2,r2a,r2b⟩:=vg P1 3 (by decide) (by decide)
  have c1:=a6n (ns:=r) r1a r1b;have c2:=ax7 (ns:=r) (k:=r1+1) (by omega) (by omega)
  have hk:(r1+1).toNat=r1.toNat+1:=by omega
  rw[hk] at c2;have ix:ixN (hDs qv).length k=some k.toNat:=by
   have hl:(hDs qv).length=qv.length:=by simp[hDs]
   rw[hl];unfold ixN;simp[h0,h1]
  have k1:(r.take r1.toNat).length<=6:=by rw[gC];omega
  have k2:(r.drop (r1.toNat+1)).length<=6:=by rw[jN];omega
  have k3:(r.take r1.toNat).length+1<=capS:=b8 (by omega)
  have k4:(r.take r1.toNat).length+1+(r.drop (r1.toNat+1)).length<=capS:=b8 (by omega)
  have hin:(-1 - r2)∈bend r r1.toNat (-1 - r2):=by simp[bend]
  refine⟨qv.set k.toNat (bend r r1.toNat (-1 - r2)),P2,.val (.int r1),?_,h.set _ ?_,fun q hq =>?_,cZ,⟨-1 - r2,.step .base h0 (by rw[anb h0 h1];exact hin),by omega⟩,fun a ⟨x,hx,hx0⟩ =>?_⟩
  ·rw[<-av5];unfold bend;generalize r.take r1.toNat=ta at c1 k3 k4;generalize r.drop (r1.toNat+1)=td at c2 k4;simp[l1__law_open,e,em,z,er,e1,e2,c1,c2,k3,k4,ix]
  ·refine⟨by simp[bend];omega,by simp[bend];omega,fun x hx =>?_⟩
   have:=h.one;unfold bend at hx;rcases dG.mp hx with hx | hx
   ·rcases dG.mp hx with hx | hx
    ·exact a3 x (List.mem_of_mem_take hx)
    ·rw[bO] at hx;omega
   ·exact a3 x (List.mem_of_mem_drop hx)
  ·rcases uE hq with z | rfl
   ·exact hW q z
   ·simp[bend];omega
  ·rcases az9 h0 (bend r r1.toNat (-1 - r2)) hx with q | q
   ·exact⟨x,q,hx0⟩
   ·have:=hcaught x q;omega
 ·refine⟨qv,P,o,by simp[l1__law_open,e,em,z],h,hW,rfl,?_,fun _ x=>x⟩
  have:¬ ∀y∈ns,0<=y:=fun w=>z ((an7 hne).mpr w)
  apply bH;intro w;refine this fun y hy =>?_
  rcases jE y 0 with q | q
  ·exact absurd ⟨y,(hm y).mp hy,q⟩ w
  ·exact q
theorem aex{qv:LL9}(h:∀a,0<=a->a < (qv.length:Int)->Opn qv a):trapI qv=[]:=by
 unfold trapI;refine mR.mpr fun a ha hc =>?_
 obtain⟨x,hx,hx0⟩:=h a (uw ha).1 (uw ha).2;have:=(jj qv a).mp hc x hx;omega
theorem open_spec(P:Int×Int)(m w:Int)(m1:1<=m)(m2:m<=10)(w1:1<=w)(w2:w<=6):∃qv P',f__law_open [.own (some 0) (pen P),.val (.int m),.val (.int w)]=some (.ok (.v (hD qv)),[.own (some 0) (pen P'),.val (.int m),.val (.int w)])/\Hs qv/\trapI qv=[]/\(qv.length:Int)<=m/\∀r∈qv,r.length<=w.toNat:=by
 obtain⟨qv,P1,e1,ho⟩:=aqp P m w m1 m2 w1 w2;have h:=ho.hs m2 w2;have loop:=aby (b:=cu 4) (g:=l1__law_open) (fun i ρ=>∃rs P o1 o2,ρ=[.own (some 0) (pen P),.val (.int m),.val (.int w),.own none (hDs rs),o1,o2]/\Hs rs/\(∀r∈rs,r.length<=w.toNat)/\rs.length=qv.length/\∀a:Int,0<=a->a < (i:Int)->Opn rs a)
  (l:=rangeD 0 qv.length) (ρ:=[.own (some 0) (pen P1),.val (.int m),.val (.int w),.own none (hDs qv),.emp,.emp]) 0 ⟨qv,P1,.emp,.emp,rfl,h,fun r hr=>by have:=(ho.room r hr).2.1;omega,rfl,fun a x y=>by omega⟩ ?_
 ·obtain⟨ρ',e2,rs,P2,o1,o2,rfl,hs,hw,hl,hop⟩:=loop;refine⟨rs,P2,?_,hs,aex fun a x y=>hop a x (by simp[rangeD];omega),by rw[hl];exact ho.most,hw⟩
  have hl0:(hDs qv).length=qv.length:=by simp[hDs]
  have hb':qv.length < 4611686018427387904:=by simpa using afi h
  simp[f__law_open,agd,e1,hD,hl0,hb',e2]
 ·rintro i d ρ hd ⟨rs,P3,o1,o2,rfl,hs,hw,hl,hop⟩
  rw[ue,bB] at hd;obtain⟨k,hk,rfl⟩:=eV.mp hd;have hk':=uw (iT hk);have hki:k=(i:Int):=by
   unfold upto at hk;rw[bB] at hk;obtain⟨j,hj,rfl⟩:=eV.mp hk;have hlt:i < qv.length:=by
    have:=(aK.mp hj).1
    simpa using this
   rw[cQ hlt] at hj;cases hj;rfl
  obtain⟨rs',P4,o',e3,hs',hw',hl',h5,h6⟩:=asz hs hw P3 (A:=.val (.int m)) (B:=.val (.int w)) (o:=o2) hk'.1 (by rw[hl];exact hk'.2)
  refine⟨[.own (some 0) (pen P3),.val (.int m),.val (.int w),.own none (hDs rs),.val (.int k),o2],_,rfl,.inl e3,rs',P4,_,_,rfl,hs',hw',hl'.trans hl,fun a x y =>?_⟩
  by_cases q:a=k
  ·rw[q];exact h5
  ·exact h6 a (hop a x (by omega))
theorem yt(qv:LL9):(hDs qv).length=qv.length:=by simp[hDs]
theorem a1n{qv:LL9}{i:Nat}{d:D}(h:(hDs qv)[i]? = some d):∃r,qv[i]? = some r/\d=.tup (r.map D.int):=by
 unfold hDs at h;rw[bB] at h;obtain⟨r,e,rfl⟩:=eV.mp h;exact⟨r,e,rfl⟩
structure Arr (qv:LL9) (as:List Int):Prop where
 len:as.length=qv.length
 ok:∀(i:Nat) (a:Int) (r:List Int),as[i]? = some a->qv[i]? = some r->0<=a/\a < (r.length:Int)
def ar(as:List Int)(x:Int):Int:=as.getD x.toNat 0
theorem Arr.at{qv:LL9}{as:List Int}(h:Arr qv as){x:Int}(h0:0<=x)(h1:x < (qv.length:Int)):0<=ar as x/\ar as x < ((dr qv x).length:Int):=by
 have hk:x.toNat < qv.length:=by omega
 have hk2:x.toNat < as.length:=by rw[h.len];exact hk
 have:=h.ok x.toNat as[x.toNat] qv[x.toNat] (aF hk2) (aF hk)
 simpa[ar,dr,hk,hk2] using this
def gone(qv:LL9)(as:List Int)(k:Int):List Int:=as.set k.toNat ((ar as k+1) % ((dr qv k).length:Int))
def led(qv:LL9)(as:List Int)(k:Int):Int:=(dr qv k).getD (ar as k).toNat 0
section
variable{qv:LL9}(h:Hs qv){as:List Int}(ha:Arr qv as){k:Int}(h0:0<=k)(h1:k < (qv.length:Int))
include h ha h0 h1
theorem ape:atI (as.map D.int) k=some (.int (ar as k)):=adq h0 (by rw[ha.len];exact h1)
theorem avo:atI ((dr qv k).map D.int) (ar as k)=some (.int (led qv as k)):=adq (ha.at h0 h1).1 (ha.at h0 h1).2
theorem ak1(x:Int):fMod x ((dr qv k).length:Int)=some (x % ((dr qv k).length:Int)):=by
 have:=(h.dr h0 h1).1;unfold fMod;rw[if_pos (by omega)]
end
section
variable{qv:LL9}(h:Hs qv){as:List Int}(ha:Arr qv as){k:Int}(h0:0<=k)(h1:k < (qv.length:Int))
include h ha h0 h1
theorem axm:Arr qv (gone qv as k):=by
 have hd:=(h.dr h0 h1).1;refine⟨by unfold gone;rw[cZ];exact ha.len,fun i a r g1 g2 =>?_⟩
 unfold gone at g1;rw[bJ] at g1;split at g1
 ·rename_i hi;subst hi;split at g1
  ·cases g1;have:dr qv k=r:=by simp[dr,g2]
   rw[this] at hd ⊢
   exact⟨Int.emod_nonneg _ (by omega),jT _ (by omega)⟩
  ·cases g1
 ·exact ha.ok i a r g1 g2
end
theorem a5o{qv:LL9}(h:Hs qv){as:List Int}(ha:Arr qv as){k:Int}(h0:0<=k)(h1:k < (qv.length:Int)) : -3<=led qv as k/\led qv as k < (qv.length:Int):=by
 obtain⟨a1,a2⟩:=ha.at h0 h1;have hk:(ar as k).toNat < (dr qv k).length:=by omega
 have:led qv as k∈dr qv k:=by
  unfold led;simp[hk]
 exact(h.dr h0 h1).2.2 _ this
@[simp] theorem zm(qv:LL9)(d:D):lu [.val (hD qv),.val d]=some (.ok (.v (.bl (qw 0 ((qv.length:Int) - 1) d))),[.val (hD qv),.val d]):=by
 simp[lu,aat,hD,hDs]
def run(qv:LL9)(as:List Int)(k:Int):Nat->List Int×Int
 | 0=>(as,k)
 | n+1=>(gone qv (run qv as k n).1 (run qv as k n).2,led qv (run qv as k n).1 (run qv as k n).2)
def bump(l:List Int)(x:Int):List Int:=l.set x.toNat (l.getD x.toNat 0+1)
def cnt(qv:LL9)(as:List Int)(k:Int):Nat->List Int
 | 0=>aV qv.length 0
 | t+1=>bump (cnt qv as k t) (run qv as k t).2
section
variable{qv:LL9}(h:Hs qv){as:List Int}(ha:Arr qv as){k:Int}(h0:0<=k)(h1:k < (qv.length:Int))
include h ha h0 h1
theorem aa2:∀t:Nat,(∀i < t,0<=(run qv as k i).2)->Arr qv (run qv as k t).1 /\ -3<=(run qv as k t).2/\(run qv as k t).2 < (qv.length:Int)
 | 0,_=>⟨ha,by show -3<=k;omega,h1⟩
 | t+1,hp=>by
  obtain⟨a1,a2,a3⟩:=aa2 t fun i hi=>hp i (by omega)
  have a0:=hp t (by omega)
  exact⟨axm h a1 a0 a3,a5o h a1 a0 a3⟩
omit ha h0 h1 in
theorem a2k(t:Nat):(cnt qv as k t).length=qv.length:=by
 induction t with
 | zero=>simp[cnt]
 | succ t ih=>simp[cnt,bump,ih]
theorem axb{bs:List Int}(hb:Arr qv bs):agf [.val (hD qv),.own (some 1) (bs.map D.int),.val (.int k)]=some (.ok (.v (.int (led qv bs k))),[.val (hD qv),.own (some 1) ((gone qv bs k).map D.int),.val (.int k)]):=by
 have e1:=agy h0 h1;have e2:=ape h hb h0 h1;have e3:=avo h hb h0 h1;have e4:=ak1 h hb h0 h1 (ar bs k+1);have e5:ixN bs.length k=some k.toNat:=ad8 h0 (by rw[hb.len];exact h1)
 simp[agf,aua,hD,e1,e2,e3,e4,e5,gone]
theorem aqf{T:Nat}(hT:T < fuel)(hp:∀i < T,0<=(run qv as k i).2)(hn:(run qv as k T).2 < 0) :
  f_led_out [.val (hD qv),.val (.tup (as.map D.int)),.val (.int k)]=some (.ok (.v (.tup [.int (run qv as k T).2,.tup ((run qv as k T).1.map D.int),.tup ((cnt qv as k T).map D.int)])),[.val (hD qv),.val (.tup (as.map D.int)),.val (.int k)]):=by
 have loop:=yw (c:=abo) (g:=adt)
  (fun n ρ=>∃t:Nat,t<=T/\n=T - t/\ρ=[.val (hD qv),.val (.tup (as.map D.int)),.val (.int k),.own none ((run qv as k t).1.map D.int),.own none ((cnt qv as k t).map D.int),.val (.int (run qv as k t).2)])
  (fun ρ=>ρ=[.val (hD qv),.val (.tup (as.map D.int)),.val (.int k),.own none ((run qv as k T).1.map D.int),.own none ((cnt qv as k T).map D.int),.val (.int (run qv as k T).2)])
  ?_ fuel T [.val (hD qv),.val (.tup (as.map D.int)),.val (.int k),.own none (as.map D.int),.own none ((aV qv.length (0:Int)).map D.int),.val (.int k)] hT ⟨0,by omega,rfl,rfl⟩
 ·obtain⟨ρ',e,rfl⟩:=loop;have hm:=h.most;have hl:=yt qv;have hb1:qv.length < 9223372036854775808:=by omega
  have hb3:qv.length<=capS:=b8 (by omega)
  have hr:(aV qv.length [D.int 0]).flatten=(aV qv.length (0:Int)).map D.int:=by
   rw[wU];generalize qv.length=n
   induction n with
   | zero=>rfl
   | succ n ih=>rw[fZ,jA,ih,fZ];rfl
  simp only[hD] at e ⊢
  simp[f_led_out,akx,hl,hb1,hb3,hr,-wU,e]
 ·rintro n ρ ⟨t,t2,rfl,rfl⟩
  rcases iB t T with q | q
  ·have hp':∀i < t,0<=(run qv as k i).2:=fun i hi=>hp i (by omega)
   obtain⟨a1,a2,a3⟩:=aa2 h ha h0 h1 t hp';have p0:=hp t q;have e1:=axb h a1 p0 a3 a1;have hcl:=a2k h (as:=as) (k:=k) t;have ix:ixN (cnt qv as k t).length (run qv as k t).2=some (run qv as k t).2.toNat:=by rw[hcl];exact ad8 p0 a3
   have hlt:(run qv as k t).2.toNat < (cnt qv as k t).length:=by rw[hcl];omega
   refine .inr ⟨[.val (hD qv),.val (.tup (as.map D.int)),.val (.int k),.own none ((run qv as k t).1.map D.int),.own none ((cnt qv as k t).map D.int),.val (.int (run qv as k t).2)],[.val (hD qv),.val (.tup (as.map D.int)),.val (.int k),.own none ((run qv as k (t+1)).1.map D.int),.own none ((cnt qv as k (t+1)).map D.int),.val (.int (run qv as k (t+1)).2)],T - (t+1),?_,?_,by omega,t+1,by omega,rfl,rfl⟩
   ·simp[abo,p0]
   ·simp[adt,ix,hlt,e1,run,cnt,bump]
  ·have:t=T:=by omega
   subst this;have:¬0<=(run qv as k t).2:=by omega
   exact .inl ⟨[.val (hD qv),.val (.tup (as.map D.int)),.val (.int k),.own none ((run qv as k t).1.map D.int),.own none ((cnt qv as k t).map D.int),.val (.int (run qv as k t).2)],by simp[abo,this],rfl⟩
end
theorem ahg:∀(m:Nat) (l:List Int),l.Nodup->(∀x∈l,0<=x/\x < (m:Int))->l.length<=m
 | 0,l,_,h=>by
  cases l with
  | nil=>simp
  | cons x r=>have:=h x (aP ..);omega
 | m+1,l,hn,h=>by
  have h1:(l.erase (m:Int)).length<=m:=ahg m _ (hn.erase _) fun x hx=>by
   rw[hn.mem_erase_iff] at hx;have:=h x hx.2;have:=hx.1;omega
  have h2:l.length<=(l.erase (m:Int)).length+1:=by
   rw[xU];split <;> omega
  omega
theorem pig(f:Nat->Int)(n:Nat)(hf:∀i,i<=n->0<=f i/\f i < (n:Int)):∃i j,i < j/\j<=n/\f i=f j:=by
 apply bH;intro H;have hn:((aJ (n+1)).map f).Nodup:=by
  rw[List.Nodup,xT];refine uN (fun{a b} ha hb hlt e=>H ⟨a,b,hlt,?_,e⟩) mQ
  have:=cO.mp hb;omega
 have:=ahg n _ hn fun x hx=>by
  obtain⟨i,hi,rfl⟩:=bD.mp hx;have:=cO.mp hi;exact hf i (by omega)
 rw[aM,iC] at this;omega
theorem least{P:Nat->Prop}:∀n,P n->∃m,P m/\∀i < m,¬P i:=fun n=>by
 induction n using Nat.strongRecOn with
 | _ n ih =>
  intro hn
  by_cases q:∃i,i < n/\P i
  ·obtain⟨i,hi,hp⟩:=q;exact ih i hi hp
  ·exact⟨n,hn,fun i hi hp=>q ⟨i,hi,hp⟩⟩
def code:List Int->Int
 | []=>0
 | a::r=>a+6*code r
theorem au7:∀{l:List Int},(∀a∈l,0<=a/\a < 6)->0<=code l/\code l < ((6 ^ l.length:Nat):Int)
 | [],_=>⟨Int.le_refl 0,by show(0:Int) < ((6 ^ 0:Nat):Int);decide⟩
 | a::r,h=>by
  obtain⟨h1,h2⟩:=au7 (l:=r) fun x hx=>h x (aL _ hx)
  have h3:=h a (aP ..);have e:6 ^ (a::r).length=6*6 ^ r.length:=by rw[bN,rW,lO]
  rw[e];show 0<=a+6*code r/\a+6*code r < _;generalize 6 ^ r.length=q at *;constructor <;> omega
theorem code_inj:∀{l m:List Int},l.length=m.length->(∀a∈l,0<=a/\a < 6)->(∀a∈m,0<=a/\a < 6)->code l=code m->l=m
 | [],[],_,_,_,_=>rfl
 | [],_::_,h,_,_,_=>by simp at h
 | _::_,[],h,_,_,_=>by simp at h
 | a::r,b::t,h,h1,h2,e=>by
  have a1:=h1 a (aP ..);have b1:=h2 b (aP ..);have e:a+6*code r=b+6*code t:=e;have hab:a=b:=by omega
  have hr:code r=code t:=by omega
  rw[hab,code_inj (by simpa using h) (fun x hx=>h1 x (aL _ hx)) (fun x hx=>h2 x (aL _ hx)) hr]
theorem ani{qv:LL9}(h:Hs qv){bs:List Int}(hb:Arr qv bs):∀a∈bs,0<=a/\a < 6:=fun a ha=>by
 obtain⟨i,hi,rfl⟩:=iU.mp ha;have hr:i < qv.length:=by rw[<-hb.len];exact hi
 have h1:=hb.ok i bs[i] qv[i] (aF hi) (aF hr);have h2:=(h.room qv[i] (dC hr)).2.1;omega
theorem aeu{qv:LL9}{bs:List Int}{p:Int}(hp:p.toNat < bs.length):ar (gone qv bs p) p=(ar bs p+1) % ((dr qv p).length:Int):=by
 unfold gone;generalize (ar bs p+1) % ((dr qv p).length:Int)=z;unfold ar;simp[hp]
theorem ahy{qv:LL9}{bs:List Int}{p x:Int}(hx:0<=x)(hp:0<=p)(hne:x≠p):ar (gone qv bs p) x=ar bs x:=by
 have:p.toNat≠x.toNat:=by omega
 unfold gone;generalize (ar bs p+1) % ((dr qv p).length:Int)=z;unfold ar;simp[aY,bJ,this]
theorem ajt(qv:LL9)(as:List Int)(k:Int){i j:Nat}(e:run qv as k i=run qv as k j):∀m,run qv as k (i+m)=run qv as k (j+m)
 | 0=>e
 | m+1=>by
  have ih:=ajt qv as k e m;show(gone qv (run qv as k (i+m)).1 (run qv as k (i+m)).2,led qv (run qv as k (i+m)).1 (run qv as k (i+m)).2)=(gone qv (run qv as k (j+m)).1 (run qv as k (j+m)).2,led qv (run qv as k (j+m)).1 (run qv as k (j+m)).2);rw[ih]
section
variable{qv:LL9}(h:Hs qv){as:List Int}(ha:Arr qv as){k:Int}(h0:0<=k)(h1:k < (qv.length:Int))
section
variable(hv:∀t,0<=(run qv as k t).2)
include hv
theorem anm{x:Int}(hx:0<=x):∀(m t:Nat),(run qv as k (t+m)).2=x->∃t1,t<=t1/\(run qv as k t1).2=x/\ar (run qv as k t1).1 x=ar (run qv as k t).1 x
 | 0,t,e=>⟨t,aN t,e,rfl⟩
 | m+1,t,e=>by
  by_cases q:(run qv as k t).2=x
  ·exact⟨t,aN t,q,rfl⟩
  ·obtain⟨t1,a,b,c⟩:=anm hx m (t+1) (by rw[show t+1+m=t+(m+1) by omega];exact e)
   refine⟨t1,by omega,b,?_⟩
   rw[c];exact ahy hx (hv t) (fun z=>q z.symm)
include h ha h0 h1
theorem arw{x:Int}(hx:0<=x)(hx1:x < (qv.length:Int))(ho:∀T:Nat,∃t,T<=t/\(run qv as k t).2=x){d:Int}(hd0:0<=d)(hd1:d < ((dr qv x).length:Int)):∀(m t:Nat),(run qv as k t).2=x->(ar (run qv as k t).1 x+(m:Int)) % ((dr qv x).length:Int)=d->∃t',t<=t'/\(run qv as k t').2=x/\ar (run qv as k t').1 x=d
 | 0,t,e,q=>by
  have a1:=(aa2 h ha h0 h1 t fun i _=>hv i).1
  have b:=a1.at hx hx1;refine⟨t,aN t,e,?_⟩;rw[show(ar (run qv as k t).1 x+((0:Nat):Int))=ar (run qv as k t).1 x by omega,gH b.1 b.2] at q
  exact q
 | m+1,t,e,q=>by
  have a1:=(aa2 h ha h0 h1 t fun i _=>hv i).1
  obtain⟨s,hs,es⟩:=ho (t+1);obtain⟨t1,a,b,c⟩:=anm hv hx (s - (t+1)) (t+1) (by rw[show t+1+(s - (t+1))=s by omega];exact es)
  have c2:ar (run qv as k (t+1)).1 x=(ar (run qv as k t).1 x+1) % ((dr qv x).length:Int):=by
   show ar (gone qv (run qv as k t).1 (run qv as k t).2) x=_;rw[e];exact aeu (by rw[a1.len];omega)
  obtain⟨t',a',b',c'⟩:=arw hx hx1 ho hd0 hd1 m t1 b (by
   rw[c,c2,Int.emod_add_emod,<-q]
   congr 1
   omega)
  exact⟨t',by omega,b',c'⟩
theorem aww{x y:Int}(hx:0<=x)(hx1:x < (qv.length:Int))(ho:∀T:Nat,∃t,T<=t/\(run qv as k t).2=x)(hy:y∈dr qv x):∀T:Nat,∃t,T<=t/\(run qv as k t).2=y:=fun T=>by
 obtain⟨i,hi,e⟩:=iU.mp hy;obtain⟨t,ht,et⟩:=ho T;have b:=(aa2 h ha h0 h1 t fun i _=>hv i).1.at hx hx1
 obtain⟨t',a',b',c'⟩:=arw h ha h0 h1 hv hx hx1 ho (d:=(i:Int)) (by omega) (by omega) ((i:Int) - ar (run qv as k t).1 x+((dr qv x).length:Int)).toNat t et (by
  rw[show ar (run qv as k t).1 x+((((i:Int) - ar (run qv as k t).1 x+((dr qv x).length:Int)).toNat:Nat):Int)=(i:Int)+((dr qv x).length:Int) by omega,oH]
  exact gH (by omega) (by omega))
 refine⟨t'+1,by omega,?_⟩
 show led qv (run qv as k t').1 (run qv as k t').2=y;rw[b'];unfold led;rw[c',cC,aY,aF hi];exact e
theorem av3:∃x:Int,∀T:Nat,∃t,T<=t/\(run qv as k t).2=x:=by
 apply bH;intro H;have H1:∀x:Int,∃T:Nat,∀t,T<=t->(run qv as k t).2≠x:=fun x=>by
  apply bH;intro q;refine H ⟨x,fun T =>?_⟩
  apply bH;intro z;exact q ⟨T,fun t ht e=>z ⟨t,ht,e⟩⟩
 have H2:∀m:Nat,∃T:Nat,∀t,T<=t->∀x:Int,0<=x->x < (m:Int)->(run qv as k t).2≠x:=fun m=>by
  induction m with
  | zero=>exact⟨0,fun t _ x a b=>by omega⟩
  | succ m ih =>
   obtain⟨T,hT⟩:=ih;obtain⟨T2,hT2⟩:=H1 (m:Int);refine⟨T+T2,fun t ht x a b =>?_⟩
   by_cases q:x=(m:Int)
   ·rw[q];exact hT2 t (by omega)
   ·exact hT t (by omega) x a (by omega)
 obtain⟨T,hT⟩:=H2 qv.length;exact hT T (aN T) (run qv as k T).2 (hv T) (aa2 h ha h0 h1 T fun i _=>hv i).2.2 rfl
end
include h ha h0 h1
theorem ark(hop:trapI qv=[]):∃T,T < fuel/\(∀i < T,0<=(run qv as k i).2)/\(run qv as k T).2 < 0:=by
 have ex:∃T,(run qv as k T).2 < 0:=by
  apply bH;intro H;have hv:∀t,0<=(run qv as k t).2:=fun t=>by
   rcases jE (run qv as k t).2 0 with q | q
   ·exact absurd ⟨t,q⟩ H
   ·exact q
  obtain⟨x,ho⟩:=av3 h ha h0 h1 hv;have lim:∀y:Int,(∀T:Nat,∃t,T<=t/\(run qv as k t).2=y)->0<=y/\y < (qv.length:Int):=fun y hy=>by
   obtain⟨t,_,e⟩:=hy 0;rw[<-e];exact⟨hv t,(aa2 h ha h0 h1 t fun i _=>hv i).2.2⟩
  have hx:=lim x ho;have nc:caught qv x≠true:=fun c=>by
   have:x∈trapI qv:=cL.mpr ⟨by
    unfold upto;exact bD.mpr ⟨x.toNat,cO.mpr (by omega),by omega⟩,c⟩
   rw[hop] at this;cases this
  apply nc;refine(jj qv x).mpr fun z hz =>?_
  have:∀T:Nat,∃t,T<=t/\(run qv as k t).2=z:=by
   induction hz with
   | base=>exact ho
   | step r hp hd ih=>exact aww h ha h0 h1 hv hp (lim _ ih).2 ih hd
  exact(lim z this).1
 obtain⟨T0,e0⟩:=ex;obtain⟨T,eT,hl⟩:=least (P:=fun T=>(run qv as k T).2 < 0) T0 e0
 have hp:∀i < T,0<=(run qv as k i).2:=fun i hi=>by
  have:¬(run qv as k i).2 < 0:=hl i hi;omega
 refine⟨T,?_,hp,eT⟩;have hm:=h.most;have hs:6 ^ qv.length<=60466176:=cR (lG (by decide) hm) (by decide)
 have hT:T<=10*6 ^ qv.length:=by
  rcases iB (10*6 ^ qv.length) T with q | q
  ·exfalso;have ok:∀i,i < T->Arr qv (run qv as k i).1/\0<=(run qv as k i).2/\(run qv as k i).2 < (qv.length:Int):=fun i hi=>by
    obtain⟨a,b,c⟩:=aa2 h ha h0 h1 i fun j hj=>hp j (by omega)
    exact⟨a,hp i hi,c⟩
   have cd:∀i,i < T->0<=code (run qv as k i).1/\code (run qv as k i).1 < ((6 ^ qv.length:Nat):Int):=fun i hi=>by
    have a:=(ok i hi).1;have:=au7 (ani h a);rw[a.len] at this;exact this
   obtain⟨i,j,hij,hj,e⟩:=pig (fun i=>10*code (run qv as k i).1+(run qv as k i).2) (10*6 ^ qv.length) fun i hi=>by
    have a:=ok i (by omega)
    have b:=cd i (by omega)
    generalize 6 ^ qv.length=q6 at *;constructor <;> omega
   have ai:=ok i (by omega)
   have aj:=ok j (by omega)
   have e:10*code (run qv as k i).1+(run qv as k i).2=10*code (run qv as k j).1+(run qv as k j).2:=e;have e1:(run qv as k i).2=(run qv as k j).2:=by omega
   have e2:(run qv as k i).1=(run qv as k j).1:=code_inj (by rw[ai.1.len,aj.1.len]) (ani h ai.1) (ani h aj.1) (by omega)
   have e3:run qv as k i=run qv as k j:=Prod.ext e2 e1;have e4:=ajt qv as k e3 (T - j);rw[show j+(T - j)=T by omega] at e4
   have:=hp (i+(T - j)) (by omega)
   rw[e4] at this;omega
  ·exact q
 have hf:604661761 < fuel:=by unfold fuel;decide
 omega
end
theorem art{qv:LL9}{y:Int}(y0:0<=y)(y1:y < (qv.length:Int))(h:∀z,Rch qv y z->0<=z):y∈trapI qv:=cL.mpr ⟨by
 unfold upto;exact bD.mpr ⟨y.toNat,cO.mpr (by omega),by omega⟩,(jj qv y).mpr h⟩
abbrev Rw:=Nat->Int
def lap(c:Nat)(F:List Rw->Int):List Rw->List Rw->Int
 | _,[]=>0
 | pre,r::rs=>r c*F (pre++rs) - lap c F (pre++[r]) rs
def det:List Nat->List Rw->Int
 | [],[]=>1
 | [],_::_=>0
 | c::cs,rows=>lap c (det cs) [] rows
def SW(F:List Rw->Int):Prop:=∀p a b q,F (p++a::b::q) = - F (p++b::a::q)
theorem atk{c:Nat}{F:List Rw->Int}(hF:SW F)(a b:Rw):∀(q p1 p2:List Rw),lap c F (p1++a::b::p2) q = - lap c F (p1++b::a::p2) q
 | [],_,_=>by simp[lap]
 | r::q,p1,p2=>by
  have ih:=atk (c:=c) hF a b q p1 (p2++[r]);have e:=hF p1 a b (p2++q);simp only[lap,cB,dW] at ih e ⊢
  rw[ih,e,jK];omega
theorem ay3{c:Nat}{F:List Rw->Int}(hF:SW F)(a b:Rw)(q:List Rw):∀(p pre:List Rw),lap c F pre (p++a::b::q) = - lap c F pre (p++b::a::q)
 | [],pre=>by
  have h:=atk (c:=c) hF a b q pre [];simp only[lap,aZ,cB,dW] at h ⊢
  rw[h];omega
 | r::p,pre=>by
  have ih:=ay3 (c:=c) hF a b q p (pre++[r]);have e:=hF (pre++p) a b q;simp only[lap,cB,dW] at ih e ⊢
  rw[ih,e,jK];omega
theorem ak8:∀cs,SW (det cs)
 | []=>fun p a b q=>by
  have e:∀x:List Rw,x≠[]->det [] x=0:=fun x hx=>by
   cases x with
   | nil=>exact absurd rfl hx
   | cons=>rfl
  rw[e _ (by simp),e _ (by simp)]
  rfl
 | c::cs=>fun p a b q=>ay3 (ak8 cs) a b q p []
def LN(F:List Rw->Int):Prop:=∀p (x y:Int) (a b:Rw) q,F (p++(fun j=>x*a j+y*b j)::q)=x*F (p++a::q)+y*F (p++b::q)
theorem atl{c:Nat}{F:List Rw->Int}(hF:LN F)(x y:Int)(a b:Rw):∀(q p1 p2:List Rw),lap c F (p1++(fun j=>x*a j+y*b j)::p2) q=x*lap c F (p1++a::p2) q+y*lap c F (p1++b::p2) q
 | [],_,_=>by simp[lap]
 | r::q,p1,p2=>by
  have ih:=atl (c:=c) hF x y a b q p1 (p2++[r]);have e:=hF p1 x y a b (p2++q);simp only[lap,cB,dW] at ih e ⊢
  rw[ih,e,iR,pM,pM,dB,dB (r c)];omega
theorem ay4{c:Nat}{F:List Rw->Int}(hF:LN F)(x y:Int)(a b:Rw)(q:List Rw):∀(p pre:List Rw),lap c F pre (p++(fun j=>x*a j+y*b j)::q)=x*lap c F pre (p++a::q)+y*lap c F pre (p++b::q)
 | [],pre=>by
  have h:=atl (c:=c) hF x y a b q pre [];simp only[lap,aZ] at h ⊢
  rw[h,Int.add_mul,pM,pM,lC,lC];omega
 | r::p,pre=>by
  have ih:=ay4 (c:=c) hF x y a b q p (pre++[r]);have e:=hF (pre++p) x y a b q;simp only[lap,cB,dW] at ih e ⊢
  rw[ih,e,iR,pM,pM,dB,dB (r c)];omega
theorem ala:∀cs,LN (det cs)
 | []=>fun p x y a b q=>by
  have e:∀z:List Rw,z≠[]->det [] z=0:=fun z hx=>by
   cases z with
   | nil=>exact absurd rfl hx
   | cons=>rfl
  rw[e _ (by simp),e _ (by simp),e _ (by simp)]
  simp
 | c::cs=>fun p x y a b q=>ay4 (ala cs) x y a b q p []
theorem ao0(cs:List Nat)(a:Rw):∀(q p r:List Rw),det cs (p++a::(q++a::r))=0
 | [],p,r=>by
  have:=ak8 cs p a a r;simp only[aZ];omega
 | x::q,p,r=>by
  have h:=ak8 cs p a x (q++a::r);have ih:=ao0 cs a q (p++[x]) r;simp only[cB,dW,aZ] at h ih ⊢
  rw[h,ih];rfl
theorem azf(cs:List Nat)(a:Rw):∀(q p r:List Rw),det cs (p++(q++a::r))=det cs (p++a::(q++r))∨det cs (p++(q++a::r)) = - det cs (p++a::(q++r))
 | [],p,r=>.inl rfl
 | x::q,p,r=>by
  have h:=ak8 cs p x a (q++r);have ih:=azf cs a q (p++[x]) r;simp only[cB,dW,aZ] at h ih ⊢
  rcases ih with e | e
  ·right;rw[e,h]
  ·left;rw[e,h];omega
def clr(x u:Int)(r k:Rw):Rw:=fun j=>x*r j+(-u)*k j
theorem ai8(C:List Nat)(k:Rw)(x:Int)(u:Rw->Int):∀(rs pre:List Rw),det C (k::(pre++rs.map fun r=>clr x (u r) r k))=x ^ rs.length*det C (k::(pre++rs))
 | [],pre=>by simp
 | r::rs,pre=>by
  have e:=ala C (k::pre) x (-(u r)) r k (rs.map fun r=>clr x (u r) r k)
  have z:=ao0 C k pre [] (rs.map fun r=>clr x (u r) r k)
  have ih:=ai8 C k x u rs (pre++[r]);simp only[cB,dW,aZ,aW,bN] at e z ih ⊢
  show det C (k::(pre++(fun j=>x*r j+(-(u r))*k j)::_))=_
  rw[e,z,ih,iM,nG,lR,gD (x ^ rs.length) x,lC]
theorem ae3{c:Nat}{F:List Rw->Int}:∀(rs pre:List Rw),(∀r∈rs,r c=0)->lap c F pre rs=0
 | [],_,_=>rfl
 | r::rs,pre,h=>by
  show r c*F (pre++rs) - lap c F (pre++[r]) rs=0;rw[h r (aP ..),ae3 rs _ fun x hx=>h x (aL _ hx)]
  simp
theorem chio(c:Nat)(cs:List Nat)(k:Rw)(rs:List Rw):k c*det cs (rs.map fun r=>clr (k c) (r c) r k)=k c ^ rs.length*det (c::cs) (k::rs):=by
 have e:=ai8 (c::cs) k (k c) (fun r=>r c) rs []
 rw[aZ,aZ] at e;rw[<-e];show _=lap c (det cs) [] (k::_);show _=k c*det cs ([]++_) - lap c (det cs) ([]++[k]) _;rw[ae3]
 ·simp
 ·intro r hr;obtain⟨r0,_,rfl⟩:=bD.mp hr;show k c*r0 c+(-(r0 c))*k c=0;rw[pL,gD];omega
theorem adi(cs:List Nat)(x:Int):∀(rs pre:List Rw),det cs (pre++rs.map fun r j=>x*r j)=x ^ rs.length*det cs (pre++rs)
 | [],pre=>by simp
 | r::rs,pre=>by
  have e:=ala cs pre x 0 r r (rs.map fun r j=>x*r j)
  have ih:=adi cs x rs (pre++[r]);have z:(fun j=>x*r j+0*r j)=fun j=>x*r j:=by funext j;simp
  rw[z] at e;simp only[cB,dW,aZ,aW,bN] at e ih ⊢
  rw[e,ih,jZ,nG,lR,gD (x ^ rs.length) x,lC]
def Dvd(d:Int)(n:Nat)(M:Nat->Rw):Prop:=∀(is cs:List Nat),(∀i∈is,i < n)->is≠[]->d ^ (is.length - 1) ∣ det cs (is.map M)
theorem Dvd.one(n:Nat)(M:Nat->Rw):Dvd 1 n M:=fun is cs _ _=>by rw[Int.one_pow];exact Int.one_dvd _
theorem Dvd.two{d:Int}{n:Nat}{M:Nat->Rw}(h:Dvd d n M){i k:Nat}(hi:i < n)(hk:k < n)(c j:Nat):d ∣ M k c*M i j - M i c*M k j:=by
 have:=h [k,i] [c,j] (fun x hx=>by simp at hx;omega) (by simp)
 simp[det,lap] at this;have e:d ^ 1=d:=by rw[lR,Int.pow_zero,nY]
 rwa[e] at this
def stM(d:Int)(k:Nat)(M:Nat->Rw):Nat->Rw:=fun i j=>if i=k then M k j else (M k k*M i j - M i k*M k j) / d
section
variable{d:Int}{n:Nat}{M:Nat->Rw}(h:Dvd d n M){k:Nat}(hk:k < n)(hd:d≠0)
include h hk hd
omit hd in
theorem ar0{i:Nat}(hi:i < n)(hne:i≠k)(j:Nat):d*stM d k M i j=M k k*M i j - M i k*M k j:=by
 unfold stM;rw[if_neg hne];exact Int.mul_ediv_cancel' (h.two hi hk k j)
theorem ah5(is:List Nat)(hi:∀i∈is,i < n)(hn:k∉is):(is.map (stM d k M)).map (fun r j=>d*r j)=(is.map M).map fun r=>clr (M k k) (r k) r (M k):=by
 rw[bY,bY];apply dO;intro i hm
 funext j
 have:=ar0 h hk (hi i hm) (fun e=>hn (e▸hm)) j
 show d*stM d k M i j=M k k*M i j+(-(M i k))*M k j;rw[this,pL];omega
theorem Dvd.step(hp:M k k≠0):Dvd (M k k) n (stM d k M):=fun is cs hi hne=>by
 by_cases hm:k∈is
 ·obtain⟨a,b,rfl⟩:=mH hm
  by_cases ha:k∈a++b
  ·-- twice
   have z:det cs ((a++k::b).map (stM d k M))=0:=by
    rw[bW,aW];rcases dG.mp ha with q | q
    ·obtain⟨a1,a2,rfl⟩:=mH q;rw[bW,aW,cB,dW];exact ao0 cs _ _ _ _
    ·obtain⟨b1,b2,rfl⟩:=mH q;rw[bW,aW];exact ao0 cs _ _ _ _
   rw[z];exact Int.dvd_zero _
  ·have hab:∀i∈a++b,i < n:=fun i q=>hi i (by
    rcases dG.mp q with q | q
    ·exact fM _ q
    ·exact cM _ (aL _ q))
   have e1:=ah5 h hk hd (a++b) hab ha;have ek:stM d k M k=M k:=by funext j;unfold stM;rw[if_pos rfl]
   have e2:=adi cs d ((a++b).map (stM d k M)) [M k];have e3:=ai8 cs (M k) (M k k) (fun r=>r k) ((a++b).map M) []
   obtain⟨q,e4⟩:=h (k::(a++b)) cs (fun i hi'=>by
    rcases bF.mp hi' with rfl | z
    ·exact hk
    ·exact hab i z) (by simp)
   rw[e1] at e2;simp only[aZ,dW,aM,aW,bN,wO] at e2 e3 e4;rw[e3,e4] at e2;have e5:det cs (M k::(a++b).map (stM d k M))=M k k ^ (a++b).length*q:=by
    refine eU (nW hd) ((e2.symm).trans ?_);rw[dB]
   have e6:=azf cs (M k) (a.map (stM d k M)) [] (b.map (stM d k M));rw[aZ,aZ,<-bW,e5] at e6;rw[bW,aW,ek,show(a++k::b).length - 1=(a++b).length by simp]
   rcases e6 with z | z
   ·exact⟨q,z⟩
   ·exact⟨-q,by rw[z,jK]⟩
 ·have e1:=ah5 h hk hd is hi hm;have e2:=adi cs d (is.map (stM d k M)) [];have e3:=chio k cs (M k) (is.map M);obtain⟨q,e4⟩:=h (k::is) (k::cs) (fun i hi'=>by
   rcases bF.mp hi' with rfl | z
   ·exact hk
   ·exact hi i z) (by simp)
  rw[e1] at e2;simp only[aZ,aM,aW,bN,wO] at e2 e3 e4;rw[e2,e4] at e3;have e5:M k k*det cs (is.map (stM d k M))=M k k ^ is.length*q:=by
   refine eU (show d ^ is.length≠0 from nW hd) ?_
   rw[dB,e3,dB]
  have hl:is.length=is.length - 1+1:=by have:=nU.mpr hne;omega
  rw[hl,lR,gD (M k k ^ (is.length - 1)) (M k k),lC] at e5;exact⟨q,eU hp e5⟩
end
theorem al2{f:Int->Int}{m:Int}:∀{l:List Int},(∀d∈l,f d<=m)->(l.map f).sum<=m*(l.length:Int)
 | [],_=>by simp
 | d::l,h=>by
  have a:=h d (aP ..);have b:=al2 (l:=l) fun x hx=>h x (aL _ hx)
  rw[aW,fH,bN,tQ,iR];simp;omega
theorem aha{f:Int->Int}{m:Int}:∀{l:List Int},(∀d∈l,f d<=m)->m*(l.length:Int)<=(l.map f).sum->∀d∈l,f d=m
 | d::l,h,hs,x,hx=>by
  have a:=h d (aP ..);have b:=al2 (l:=l) fun x hx=>h x (aL _ hx)
  rw[aW,fH,bN,tQ,iR] at hs;simp at hs;rcases bF.mp hx with rfl | q
  ·omega
  ·exact aha (fun x hx=>h x (aL _ hx)) (by omega) x q
theorem avp(X:Int->Int):∀n:Nat,0 < n->∃i:Int,0<=i/\i < (n:Int)/\∀j:Int,0<=j->j < (n:Int)->X j<=X i
 | 1,_=>⟨0,by omega,by omega,fun j a b=>by
  have:j=0:=by omega
  rw[this];exact rC _⟩
 | n+2,_=>by
  obtain⟨i,i0,i1,h⟩:=avp X (n+1) (by omega)
  by_cases q:X i<=X ((n+1:Nat):Int)
  ·refine⟨((n+1:Nat):Int),by omega,by omega,fun j a b =>?_⟩
   by_cases e:j=((n+1:Nat):Int)
   ·rw[e];exact rC _
   ·exact Int.le_trans (h j a (by omega)) q
  ·refine⟨i,i0,by omega,fun j a b =>?_⟩
   by_cases e:j=((n+1:Nat):Int)
   ·rw[e];omega
   ·exact h j a (by omega)
section
variable{qv:LL9}(h:Hs qv)(hop:trapI qv=[])
include h hop
theorem an9{X:Int->Int}(hg:∀d,d < 0->X d=0)(hX:∀i,0<=i->i < (qv.length:Int)->0 < X i->((dr qv i).length:Int)*X i<=((dr qv i).map X).sum)(i:Int)(i0:0<=i)(i1:i < (qv.length:Int)):X i<=0:=by
 apply bH;intro hi;obtain⟨t,t0,t1,ht⟩:=avp X qv.length h.one;have hpos:0 < X t:=by have:=ht i i0 i1;omega
 have le:∀y,0<=y->y < (qv.length:Int)->∀d∈dr qv y,X d<=X t:=fun y y0 y1 d hd=>by
  have b:=(h.dr y0 y1).2.2 d hd;rcases jE d 0 with q | q
  ·rw[hg d q];omega
  ·exact ht d q b.2
 have all:∀z,Rch qv t z->(0<=z/\z < (qv.length:Int))/\X z=X t:=fun z hz=>by
  induction hz with
  | base=>exact⟨⟨t0,t1⟩,rfl⟩
  | @step x d r _ hd ih =>
   obtain⟨⟨x0,x1⟩,e⟩:=ih;have a:=hX x x0 x1 (by omega)
   rw[e,gD] at a;have q:=aha (le x x0 x1) a d hd;have b:=(h.dr x0 x1).2.2 d hd;refine⟨⟨?_,b.2⟩,q⟩;rcases jE d 0 with z | z
   ·rw[hg d z] at q;omega
   ·exact z
 have:=art t0 t1 fun z hz=>(all z hz).1.1
 rw[hop] at this;cases this
end
def dot:Nat->Rw->Rw->Int
 | 0,_,_=>0
 | m+1,r,y=>dot m r y+r m*y m
theorem ago(x z:Int)(a b y:Rw):∀m,dot m (fun j=>x*a j+z*b j) y=x*dot m a y+z*dot m b y
 | 0=>by simp[dot]
 | m+1=>by
  show dot m _ y+(x*a m+z*b m)*y m=x*(dot m a y+a m*y m)+z*(dot m b y+b m*y m);rw[ago x z a b y m,Int.add_mul,iR,iR,lC,lC];omega
theorem abj{a b y z:Rw}:∀m,(∀j < m,a j=b j)->(∀j < m,y j=z j)->dot m a y=dot m b z
 | 0,_,_=>rfl
 | m+1,h,g=>by
  show dot m a y+_=dot m b z+_;rw[abj m (fun j hj=>h j (by omega)) (fun j hj=>g j (by omega)),h m (by omega),g m (by omega)]
theorem adh{a y:Rw}:∀m,(∀j < m,a j*y j=0)->dot m a y=0
 | 0,_=>rfl
 | m+1,h=>by
  show dot m a y+_=0;rw[adh m fun j hj=>h j (by omega),h m (by omega)]
  rfl
theorem agn{a y:Rw}{i:Nat}:∀m,i < m->(∀j < m,j≠i->a j*y j=0)->dot m a y=a i*y i
 | m+1,hi,h=>by
  show dot m a y+a m*y m=_
  by_cases e:i=m
  ·subst e;rw[adh i fun j hj=>h j (by omega) (by omega)]
   omega
  ·rw[agn m (by omega) fun j hj=>h j (by omega),h m (by omega) (gG e)]
   omega
theorem auz{a y z:Rw}:∀m,dot m a (fun j=>y j+z j)=dot m a y+dot m a z
 | 0=>rfl
 | m+1=>by
  show dot m a _+a m*(y m+z m)=dot m a y+a m*y m+(dot m a z+a m*z m);rw[auz m,iR];omega
def BS(M0:Nat->Rw):Nat->Int×(Nat->Rw)
 | 0=>(1,M0)
 | k+1=>((BS M0 k).2 k k,stM (BS M0 k).1 k (BS M0 k).2)
structure BJ (n m:Nat) (M0:Nat->Rw) (P:Nat->Prop) (d:Int) (M:Nat->Rw):Prop where
 pos:0 < d
 dvd:Dvd d n M
 pin:∀j,P j->j < n
 shape:∀i < n,∀j,P j->M i j=if i=j then d else 0
 back:∀y,(∀j,P j->dot m (M j) y=0)->(∀j,P j->dot m (M0 j) y=0)/\∀i,i < n->¬P i->dot m (M i) y=d*dot m (M0 i) y
theorem BJ.zero(n m:Nat)(M0:Nat->Rw):BJ n m M0 (fun _=>False) 1 M0:=⟨by decide,Dvd.one n M0,fun _ h=>h.elim,fun _ _ _ h=>h.elim,fun y _=>⟨fun j hj=>hj.elim,fun i _ _=>by rw[nY]⟩⟩
theorem BJ.to{n m:Nat}{M0:Nat->Rw}{P Q:Nat->Prop}{d:Int}{M:Nat->Rw}(b:BJ n m M0 P d M)(h:∀j,P j↔Q j):BJ n m M0 Q d M:=by
 have:P=Q:=funext fun j=>propext (h j)
 rwa[<-this]
theorem BJ.step{n m:Nat}{M0:Nat->Rw}{P:Nat->Prop}{d:Int}{M:Nat->Rw}(b:BJ n m M0 P d M){k:Nat}(hk:k < n)(hnk:¬P k)(hp:0 < M k k):BJ n m M0 (fun j=>P j∨j=k) (M k k) (stM d k M):=by
 obtain⟨p1,p2,pin,p3,p4⟩:=b;have mul:=fun{i:Nat} (hi:i < n) (hne:i≠k) j=>ar0 p2 hk hi hne j
 have hd:d≠0:=by omega
 have st:=p2.step hk hd (by omega)
 have ek:stM d k M k=M k:=by funext j;unfold stM;rw[if_pos rfl]
 have dm:∀i,i < n->i≠k->∀y,d*dot m (stM d k M i) y=M k k*dot m (M i) y - M i k*dot m (M k) y:=fun i hi hne y=>by
  have a:=ago d 0 (stM d k M i) (stM d k M i) y m;have c:=ago (M k k) (-(M i k)) (M i) (M k) y m;rw[jZ,nG] at a;rw[<-a,Int.sub_eq_add_neg,<-pL,<-c];refine abj m (fun j _ =>?_) fun _ _=>rfl
  rw[jZ,nG,mul hi hne j,pL];omega
 refine⟨hp,st,fun j hj =>?_,fun i hi j hj =>?_,fun y hy =>?_⟩
 ·rcases hj with z | z
  ·exact pin j z
  ·omega
 ·by_cases hik:i=k
  ·subst hik;rw[ek]
   by_cases hjk:j=i
   ·subst hjk;rw[if_pos rfl]
   ·have hPj:P j:=hj.elim id fun z=>absurd z hjk
    rw[if_neg (gG hjk),p3 i hi j hPj,if_neg (gG hjk)]
  ·refine eU hd ?_;rw[mul hi hik j]
   by_cases hjk:j=k
   ·subst hjk;rw[if_neg hik,gD];omega
   ·have hPj:P j:=hj.elim id fun z=>absurd z hjk
    rw[p3 i hi j hPj,p3 k hk j hPj,if_neg (show ¬k=j from gG hjk)]
    by_cases hij:i=j
    ·rw[if_pos hij,if_pos hij,gD];omega
    ·rw[if_neg hij,if_neg hij];simp
 ·have hkk:dot m (M k) y=0:=by have:=hy k (.inr rfl);rwa[ek] at this
  have hj:∀j,P j->dot m (M j) y=0:=fun j hj=>by
   have hjk:j≠k:=fun e=>hnk (e▸hj)
   have a:=dm j (pin j hj) hjk y;rw[hy j (.inl hj),hkk,iM,iM,vK] at a;rcases qK.mp a.symm with z | z
   ·omega
   ·exact z
  obtain⟨b1,b2⟩:=p4 y hj;refine⟨fun j hj' =>?_,fun i hi hki =>?_⟩
  ·rcases hj' with z | z
   ·exact b1 j z
   ·subst z;have:=b2 j hk hnk;rw[hkk] at this;rcases qK.mp this.symm with z | z
    ·omega
    ·exact z
  ·have hik:i≠k:=fun e=>hki (.inr e)
   have a:=dm i hi hik y;rw[hkk,iM,vK,b2 i hi (fun z=>hki (.inl z)),dB] at a
   exact eU hd a
def dsq(qv:LL9):Nat->Rw:=fun i j=>(if i=j then ((dr qv (i:Int)).length:Int) else 0) - ((dr qv (i:Int)).count (j:Int):Int)
def xt(y:Rw)(d:Int):Int:=if d < 0 then 0 else y d.toNat
theorem ak7(y:Rw){n:Nat}:∀l:List Int,(∀d∈l,d < (n:Int))->dot n (fun j=>(l.count (j:Int):Int)) y=(l.map (xt y)).sum
 | [],_=>adh n fun j _=>by simp
 | d::l,h=>by
  have ih:=ak7 y l fun x hx=>h x (aL _ hx)
  have hd:=h d (aP ..);have e:=ago 1 1 (fun j=>(l.count (j:Int):Int)) (fun j=>if d=(j:Int) then 1 else 0) y n
  rw[ih,nY,nY] at e;rw[aW,fH];have e1:dot n (fun j=>(((d::l).count (j:Int):Nat):Int)) y=dot n (fun j=>1*(l.count (j:Int):Int)+1*(if d=(j:Int) then 1 else 0)) y:=by
   refine abj n (fun j _ =>?_) fun _ _=>rfl
   rw[qI]
   by_cases q:d=(j:Int)
   ·simp[q]
   ·simp[q]
  have e2:dot n (fun j=>if d=(j:Int) then 1 else 0) y=xt y d:=by
   unfold xt
   by_cases q:d < 0
   ·rw[if_pos q];exact adh n fun j _=>by rw[if_neg (by omega),jZ]
   ·rw[if_neg q,agn (i:=d.toNat) n (by omega) fun j _ hj=>by rw[if_neg (by omega),jZ],if_pos (by omega),nY]
  rw[e1,e,e2];omega
section
variable{qv:LL9}(h:Hs qv)
include h
theorem auy(y:Rw){i:Nat}(hi:i < qv.length):dot qv.length (dsq qv i) y=((dr qv (i:Int)).length:Int)*y i - ((dr qv (i:Int)).map (xt y)).sum:=by
 have e:=ago 1 (-1) (fun j=>if i=j then ((dr qv (i:Int)).length:Int) else 0) (fun j=>((dr qv (i:Int)).count (j:Int):Int)) y qv.length
 rw[ak7 y _ fun d hd=>((h.dr (x:=(i:Int)) (by omega) (by omega)).2.2 d hd).2] at e
 have e1:dot qv.length (dsq qv i) y=dot qv.length (fun j=>1*(if i=j then ((dr qv (i:Int)).length:Int) else 0)+(-1)*((dr qv (i:Int)).count (j:Int):Int)) y:=by
  refine abj _ (fun j _ =>?_) fun _ _=>rfl
  unfold dsq;omega
 have e2:dot qv.length (fun j=>if i=j then ((dr qv (i:Int)).length:Int) else 0) y=((dr qv (i:Int)).length:Int)*y i:=by
  rw[agn (i:=i) _ hi fun j _ hj=>by rw[if_neg (gG hj),jZ],if_pos rfl]
 rw[e1,e,e2];omega
variable(hop:trapI qv=[])
include hop
theorem ate(y:Rw)(l:List Int):(l.map fun d => - xt y d).sum = - (l.map (xt y)).sum:=by
 induction l with
 | nil=>rfl
 | cons x l ih=>rw[aW,aW,fH,fH,ih];omega
open Classical in
theorem colY{M0:Nat->Rw}(hM:∀i < qv.length,∀j < qv.length,M0 i j=dsq qv i j){P:Nat->Prop}{d:Int}{M:Nat->Rw}(b:BJ qv.length (qv.length+1) M0 P d M){k:Nat}(hk:k < qv.length)(hnk:¬P k):∃Y:Rw,Y k=d/\(∀j,¬P j->j≠k->Y j=0)/\(∀i,P i->M i k = - Y i)/\(∀i,P i->((dr qv (i:Int)).length:Int)*Y i - ((dr qv (i:Int)).map (xt Y)).sum=0)/\∀i < qv.length,¬P i->((dr qv (i:Int)).length:Int)*Y i - ((dr qv (i:Int)).map (xt Y)).sum=M i k:=by
 obtain⟨p1,p2,pin,p3,p4⟩:=b;have ds:∀i,dot (qv.length+1) (M i) (fun j=>(if P j then - M j k else 0)+(if j=k then d else 0))=dot (qv.length+1) (M i) (fun j=>if P j then - M j k else 0)+M i k*d:=fun i=>by
  rw[auz,agn (i:=k) (y:=fun j=>if j=k then d else 0) _ (by omega) fun j _ hj=>by rw[if_neg hj,iM]]
  rw[if_pos rfl]
 obtain⟨q1,q2⟩:=p4 (fun j=>(if P j then - M j k else 0)+(if j=k then d else 0)) fun j hj=>by
  have hjn:=pin j hj;rw[ds j,agn (i:=j) _ (by omega) fun j' hj' hne=>by
   by_cases q:P j'
   ·rw[p3 j hjn j' q,if_neg (gG hne),jZ]
   ·rw[if_neg q,iM],p3 j hjn j hj,if_pos rfl,if_pos hj,jK,gD]
  omega
 have q2:∀i,i < qv.length->¬P i->dot (qv.length+1) (M0 i) (fun j=>(if P j then - M j k else 0)+(if j=k then d else 0))=M i k:=fun i hi hki=>by
  have q2:=q2 i hi hki;rw[ds i,adh _ fun j' hj'=>by
   by_cases q:P j'
   ·rw[p3 i hi j' q,if_neg (fun e:i=j'=>hki (by rw[e];exact q)),jZ]
   ·rw[if_neg q,iM],Int.zero_add,gD] at q2
  exact(eU (by omega) q2).symm
 have hPn:¬P qv.length:=fun z=>by have:=pin _ z;omega
 have lo:∀i,i < qv.length->dot (qv.length+1) (M0 i) (fun j=>(if P j then - M j k else 0)+(if j=k then d else 0))=((dr qv (i:Int)).length:Int)*((if P i then - M i k else 0)+(if i=k then d else 0)) - ((dr qv (i:Int)).map (xt fun j=>(if P j then - M j k else 0)+(if j=k then d else 0))).sum:=fun i hi=>by
  rw[<-auy h (fun j=>(if P j then - M j k else 0)+(if j=k then d else 0)) hi]
  show dot qv.length _ _+M0 i qv.length*((if P qv.length then - M qv.length k else 0)+(if qv.length=k then d else 0))=_
  rw[if_neg hPn,if_neg (by omega),nG,iM,nG]
  exact abj _ (fun j hj=>hM i hi j hj) fun _ _=>rfl
 refine⟨fun j=>(if P j then - M j k else 0)+(if j=k then d else 0),?_,fun j hj hjk =>?_,fun i hi =>?_,fun i hi =>?_,fun i hi hki =>?_⟩
 ·show(if P k then _ else _)+(if k=k then d else 0)=d
  rw[if_neg hnk,if_pos rfl,Int.zero_add]
 ·show(if P j then _ else _)+(if j=k then d else 0)=0
  rw[if_neg hj,if_neg hjk];rfl
 ·show M i k = - ((if P i then - M i k else 0)+(if i=k then d else 0))
  rw[if_pos hi,if_neg (fun e:i=k=>hnk (by rw[<-e];exact hi))]
  omega
 ·rw[<-lo i (pin i hi),q1 i hi]
 ·rw[<-lo i hi,q2 i hi hki]
theorem ayt{M0:Nat->Rw}(hM:∀i < qv.length,∀j < qv.length,M0 i j=dsq qv i j){P:Nat->Prop}{d:Int}{M:Nat->Rw}(b:BJ qv.length (qv.length+1) M0 P d M){k:Nat}(hk:k < qv.length)(hnk:¬P k):0 < M k k/\M k k<=6*d/\∀i < qv.length,-(6*d)<=M i k/\M i k<=6*d:=by
 have p1:=b.pos;have pin:=b.pin;obtain⟨Y,Yk,Yb,m1,q1,q2⟩:=colY h hop hM b hk hnk;have hx0:∀d,d < 0->xt Y d=0:=fun d hd=>by unfold xt;rw[if_pos hd]
 have xi:∀i:Int,0<=i->xt Y i=Y i.toNat:=fun i hi=>by unfold xt;rw[if_neg (by omega)]
 have nn:∀i:Int,0<=i->i < (qv.length:Int)->0<=xt Y i:=fun i i0 i1=>by
  have:=an9 h hop (X:=fun d => - xt Y d) (fun d hd=>by show - xt Y d=0;rw[hx0 d hd];rfl) (fun i i0 i1 hi=>by
   have hik:P i.toNat:=by
    apply bH;intro z
    by_cases e:i.toNat=k
    ·rw[xi i i0,e,Yk] at hi;omega
    ·rw[xi i i0,Yb _ z e] at hi;omega
   have a:=q1 _ hik;rw[show((i.toNat:Nat):Int)=i by omega] at a
   rw[ate h hop,xi i i0,jK];omega) i i0 i1
  omega
 have up:∀i:Int,0<=i->i < (qv.length:Int)->xt Y i<=d:=fun i i0 i1=>by
  have:=an9 h hop (X:=xt fun j=>Y j+(-d)) (fun d hd=>by unfold xt;rw[if_pos hd]) (fun i i0 i1 hi=>by
   have e:xt (fun j=>Y j+(-d)) i=Y i.toNat+(-d):=by unfold xt;rw[if_neg (by omega)]
   rw[e] at hi ⊢
   have hik:P i.toNat:=by
    apply bH;intro z
    by_cases e:i.toNat=k
    ·rw[e,Yk] at hi;omega
    ·rw[Yb _ z e] at hi;omega
   have a:=q1 _ hik;rw[show((i.toNat:Nat):Int)=i by omega] at a
   have s:∀l:List Int,(l.map (xt Y)).sum - d*(l.length:Int)<=(l.map (xt fun j=>Y j+(-d))).sum:=fun l=>by
    induction l with
    | nil=>simp
    | cons x l ih =>
     rw[aW,aW,fH,fH,bN,tQ,iR];have:xt Y x - d<=xt (fun j=>Y j+(-d)) x:=by
      unfold xt;split
      ·omega
      ·show Y x.toNat - d<=Y x.toNat+(-d);omega
     simp;omega
   have:=s (dr qv i);rw[iR,jK,gD _ d];omega) i i0 i1
  have e:xt (fun j=>Y j+(-d)) i=xt Y i+(-d):=by unfold xt;rw[if_neg (by omega),if_neg (by omega)]
  rw[e] at this;omega
 have sb:∀i:Nat,i < qv.length->0<=((dr qv (i:Int)).map (xt Y)).sum/\((dr qv (i:Int)).map (xt Y)).sum<=6*d:=fun i hi=>by
  obtain⟨_,l6,hb⟩:=h.dr (x:=(i:Int)) (by omega) (by omega)
  have s1:∀x∈dr qv (i:Int),0<=xt Y x/\xt Y x<=d:=fun x hx=>by
   rcases jE x 0 with z | z
   ·rw[hx0 x z];omega
   ·exact⟨nn x z (hb x hx).2,up x z (hb x hx).2⟩
  have s2:=al2 (f:=xt Y) (m:=d) fun x hx=>(s1 x hx).2
  have s3:d*((dr qv (i:Int)).length:Int)<=d*6:=Int.mul_le_mul_of_nonneg_left (by omega) (by omega)
  refine⟨?_,by omega⟩
  have s4:∀l:List Int,(∀x∈l,0<=xt Y x)->0<=(l.map (xt Y)).sum:=fun l=>by
   induction l with
   | nil=>intro _;simp
   | cons x l ih =>
    intro hl;rw[aW,fH];have:=ih fun y hy=>hl y (aL _ hy)
    have:=hl x (aP ..);omega
  exact s4 _ fun x hx=>(s1 x hx).1
 have dk:=h.dr (x:=(k:Int)) (by omega) (by omega)
 have a:=q2 k hk hnk;rw[Yk] at a;have kd:((dr qv (k:Int)).length:Int)*d<=6*d:=Int.mul_le_mul_of_nonneg_right (by omega) (by omega)
 have pos:0 < M k k:=by
  apply bH;intro hneg;have:=an9 h hop (X:=xt Y) hx0 (fun i i0 i1 hi=>by
   rw[xi i i0] at hi ⊢
   by_cases z:P i.toNat
   ·have c:=q1 _ z;rw[show((i.toNat:Nat):Int)=i by omega] at c
    omega
   ·by_cases e:i.toNat=k
    ·have c:=q2 i.toNat (by omega) z
     rw[show((i.toNat:Nat):Int)=i by omega,e] at c
     rw[e];omega
    ·rw[Yb _ z e] at hi;omega) (k:Int) (by omega) (by omega)
  rw[xi _ (by omega),cC,Yk] at this
  omega
 have sk:=sb k hk;refine⟨pos,by omega,fun i hi =>?_⟩
 by_cases z:P i
 ·rw[m1 i z];have u:=up (i:Int) (by omega) (by omega)
  have l:=nn (i:Int) (by omega) (by omega)
  rw[xi _ (by omega),cC] at u l
  omega
 ·by_cases e:i=k
  ·subst e;omega
  ·have c:=q2 i hi z;rw[Yb i z e,iM] at c;have:=sb i hi;omega
theorem api{M0:Nat->Rw}(hM:∀i < qv.length,∀j < qv.length,M0 i j=dsq qv i j):∀k,k<=qv.length->BJ qv.length (qv.length+1) M0 (fun j=>j < k) (BS M0 k).1 (BS M0 k).2/\(BS M0 k).1<=6 ^ k
 | 0,_=>⟨(BJ.zero ..).to fun j=>⟨fun z=>z.elim,fun z=>by omega⟩,by show(1:Int)<=1;omega⟩
 | k+1,hk=>by
  obtain⟨a,c⟩:=api hM k (by omega)
  obtain⟨p1,p2,_⟩:=ayt h hop hM a (k:=k) (by omega) (by omega)
  refine⟨(a.step (by omega) (by omega) p1).to fun j=>by omega,?_⟩
  show(BS M0 k).2 k k<=6 ^ (k+1);rw[lR,gD];omega
theorem a8o{M0:Nat->Rw}(hM:∀i < qv.length,∀j < qv.length,M0 i j=dsq qv i j){k:Nat}(b:BJ qv.length (qv.length+1) M0 (fun j=>j < k) (BS M0 k).1 (BS M0 k).2)(hk:k < qv.length):0 < (BS M0 k).2 k k/\(BS M0 k).2 k k<=6*(BS M0 k).1/\∀i < qv.length,-(6*(BS M0 k).1)<=(BS M0 k).2 i k/\(BS M0 k).2 i k<=6*(BS M0 k).1:=ayt h hop hM b hk (by omega)
end
section
variable{qv:LL9}(h:Hs qv)(hop:trapI qv=[])
include h hop
end
def rwD(m:Nat)(r:Rw):D:=.lst ((aJ m).map fun j=>.int (r j))
def mtD(n m:Nat)(M:Nat->Rw):List D:=(aJ n).map fun i=>rwD m (M i)
theorem uf(n m:Nat)(M:Nat->Rw):(mtD n m M).length=n:=by simp[mtD]
theorem ait(n m:Nat)(M:Nat->Rw):mtD (n+1) m M=mtD n m M++[rwD m (M n)]:=by unfold mtD;rw[jX,bW];rfl
theorem ath{n m:Nat}{M:Nat->Rw}{k:Nat}(hk:k < n):atI (mtD n m M) (k:Int)=some (rwD m (M k)):=by
 unfold atI;rw[ad8 (by omega) (by rw[uf];omega),cC]
 show(mtD n m M)[k]? = _;unfold mtD;rw[bB,cQ hk];rfl
theorem ajv{m:Nat}{r:Rw}{k:Nat}(hk:k < m):atI ((aJ m).map fun j=>D.int (r j)) (k:Int)=some (.int (r k)):=by
 unfold atI;rw[ad8 (by omega) (by simp;omega),cC]
 show((aJ m).map fun j=>D.int (r j))[k]? = _
 rw[bB,cQ hk];rfl
theorem vq(m:Nat)(r:Rw):((aJ m).map fun j=>D.int (r j)).length=m:=by simp
theorem ap0{k n:Nat}(hk:k < n):∃rest,rangeD (k:Int) (n - k)=.int (k:Int)::rest:=by
 obtain⟨c,hc⟩:∃c,n - k=c+1:=⟨n - k - 1,by omega⟩
 rw[hc];refine⟨(aJ c).map fun i=>.int ((k:Int)+((i+1:Nat):Int)),?_⟩
 unfold rangeD;rw[vA,aW,bY];show D.int ((k:Int)+((0:Nat):Int))::_=_;rw[show(k:Int)+((0:Nat):Int)=k by omega]
 rfl
theorem al9{n m:Nat}{M:Nat->Rw}{k:Nat}(hk:k < n)(hm:k < m)(hn:n < 1000)(h0:M k k≠0):zu [.own (some 0) (mtD n m M),.val (.int (k:Int))]=some (.ok (.v (.int (k:Int))),[.own (some 0) (mtD n m M),.val (.int (k:Int))]):=by
 have e1:=ath (m:=m) (M:=M) hk;have e2:=ajv (r:=M k) hm;have hl:=uf n m M;obtain⟨rest,er⟩:=ap0 hk;unfold rwD at e1;generalize (aJ m).map (fun j=>D.int (M k j))=rr at *
 generalize M k k=v at *;generalize mtD n m M=mm at *;have e3:aci [.own (some 0) mm,.val (.int (k:Int)),.val (.int (k:Int))]=some (.ret (.v (.int (k:Int))),[.own (some 0) mm,.val (.int (k:Int)),.val (.int (k:Int))]):=by
  simp[aci,e1,e2,h0]
 have hb:((n:Int) - (k:Int)).toNat=n - k:=by omega
 have hb1:k < 4611686018427387904:=by omega
 have hb2:n < 4611686018427387904:=by omega
 simp[zu,ahl,hl,hb,hb1,hb2,er,jl,e3]
theorem au6(n m:Nat)(M:Nat->Rw)(hm:m<=1000):compD (cu 0) (ret true) aee (mtD n m M) [] [.emp]=some (.ok (mtD n m M),xf .emp (mtD n m M)::[]):=by
 rw[lw (f:=id)]
 ·simp
 ·intro d hd;unfold mtD at hd;obtain⟨i,_,rfl⟩:=bD.mp hd;have hl:=vq m (M i);unfold rwD;have hc:((aJ m).map fun j=>D.int (M i j)).length<=capS:=by rw[hl];exact b8 hm
  generalize (aJ m).map (fun j=>D.int (M i j))=rr at *
  simp[aee,hc]
theorem apo{n m:Nat}{M:Nat->Rw}(k:Int)(hn:n<=1000)(hm:m<=1000):abd [.val (.lst (mtD n m M)),.val (.int k),.val (.int k)]=some (.ok (.fr (mtD n m M)),[.val (.lst (mtD n m M)),.val (.int k),.val (.int k)]):=by
 have e:=au6 n m M hm;have hl:=uf n m M;have hc:(mtD n m M).length<=capS:=by rw[hl];exact b8 hn
 generalize mtD n m M=mm at *;simp[abd,aku,e,hc]
theorem aqw{m:Nat}{k i:Nat}{M:Nat->Rw}{d:Int}(hk:k < m)(hd0:0 < d)(hd1:d < 1000000000000000000000000000000000000000000000000000000000000)(hik:i≠k)(hkk : -18446744073709551616 < M k k/\M k k < 18446744073709551616)(hic : -18446744073709551616 < M i k/\M i k < 18446744073709551616):∃q1 q2,compD (bTup 2 (qd (cu 0) (qd (cu 1) bNil))) (ret true) abz (qu ((aJ m).map fun j=>D.int (M i j)) ((aJ m).map fun j=>D.int (M k j))) [] [.emp,.emp,.val (rwD m (M i)),.val (rwD m (M k)),.val (.int d),.val (.int (k:Int))] =
  some (.ok ((aJ m).map fun j=>D.int (stM d k M i j)),[q1,q2,.val (rwD m (M i)),.val (rwD m (M k)),.val (.int d),.val (.int (k:Int))]):=by
 have ek:=ajv (r:=M k) hk;have ei:=ajv (r:=M i) hk;have comp:=abl (b:=bTup 2 (qd (cu 0) (qd (cu 1) bNil))) (mc:=ret true) (me:=abz) (fun j ys ρ=>∃o1 o2:Sl,ρ=[o1,o2,.val (rwD m (M i)),.val (rwD m (M k)),.val (.int d),.val (.int (k:Int))]/\ys=(aJ j).map fun j=>D.int (stM d k M i j))
  (l:=qu ((aJ m).map fun j=>D.int (M i j)) ((aJ m).map fun j=>D.int (M k j))) (ys:=[]) (ρ:=[.emp,.emp,.val (rwD m (M i)),.val (rwD m (M k)),.val (.int d),.val (.int (k:Int))]) 0 ⟨.emp,.emp,rfl,rfl⟩ ?_
 ·obtain⟨ys,ρ',e6,o1,o2,rfl,rfl⟩:=comp;have hz:(qu ((aJ m).map fun j=>D.int (M i j)) ((aJ m).map fun j=>D.int (M k j))).length=m:=by unfold qu;rw[jJ,vq,vq];omega
  rw[hz,dY] at e6;exact⟨o1,o2,e6⟩
 ·rintro j z ys ρ hd ⟨o1,o2,rfl,rfl⟩
  have hj:j < m:=by
   rcases iB j m with q | q
   ·exact q
   ·rw[cG (by unfold qu;rw[jJ,vq];omega)] at hd
    cases hd
  have ed:z=.tup [.int (M i j),.int (M k j)]:=by
   unfold qu at hd;rw[nF,bB,bB,cQ hj] at hd;exact(cP hd).symm
  subst ed;have es:stM d k M i j=(M k k*M i j - M i k*M k j) / d:=by unfold stM;rw[if_neg hik]
  have fd:fDiv (M k k*M i j - M i k*M k j) d=some ((M k k*M i j - M i k*M k j) / d):=by unfold fDiv;rw[if_pos ⟨hd0,hd1⟩]
  refine⟨[.val (.int (M i j)),.val (.int (M k j)),.val (rwD m (M i)),.val (rwD m (M k)),.val (.int d),.val (.int (k:Int))],_,true,by simp,rfl,.inr ⟨rfl,.int (stM d k M i j),[.val (.int (M i j)),.val (.int (M k j)),.val (rwD m (M i)),.val (rwD m (M k)),.val (.int d),.val (.int (k:Int))],?_,_,_,rfl,?_⟩⟩
  ·rw[es];unfold rwD;generalize (aJ m).map (fun j=>D.int (M k j))=rk at *
   generalize (aJ m).map (fun j=>D.int (M i j))=ri at *
   generalize M k k=a1 at *;generalize M i j=a2 at *;generalize M i k=a3 at *;generalize M k j=a4 at *;have m1:fMul a1 a2=some (a1*a2):=by unfold fMul;rw[if_pos (.inl hkk)]
   have m2:fMul a3 a4=some (a3*a4):=by unfold fMul;rw[if_pos (.inl hic)]
   simp[abz,ek,ei,m1,m2,fd]
  ·rw[dY,jX,bW];rfl
theorem aqv{n m:Nat}{k:Nat}{M:Nat->Rw}{d:Int}(hkn:k < n)(hk:k < m)(hn:n<=1000)(hm:m<=1000)(hd0:0 < d)(hd1:d < 1000000000000000000000000000000000000000000000000000000000000)(hcol:∀i < n,-18446744073709551616 < M i k/\M i k < 18446744073709551616):abf [.val (.lst (mtD n m M)),.val (.int (k:Int)),.val (.int d)]=some (.ok (.fr (mtD n m (stM d k M))),[.val (.lst (mtD n m M)),.val (.int (k:Int)),.val (.int d)]):=by
 have loop:=aby (b:=bTup 2 (qd (cu 5) (qd (cu 6) bNil))) (g:=abv) (fun i ρ=>∃o5 o6,ρ=[.val (.lst (mtD n m M)),.val (.int (k:Int)),.val (.int d),.val (rwD m (M k)),.own none (mtD i m (stM d k M)),o5,o6])
  (l:=aev (mtD n m M)) (ρ:=[.val (.lst (mtD n m M)),.val (.int (k:Int)),.val (.int d),.val (rwD m (M k)),.own none [],.emp,.emp]) 0 ⟨.emp,.emp,rfl⟩ ?_
 ·obtain⟨ρ',e,o5,o6,rfl⟩:=loop;rw[adf,uf,dY] at e;have e1:=ath (m:=m) (M:=M) hkn;generalize mtD n m (stM d k M)=m2 at *;generalize mtD n m M=mm at *;generalize rwD m (M k)=rk at *;simp[abf,akz,e1,e]
 ·rintro i z ρ hd ⟨o5,o6,rfl⟩
  rw[dY];obtain⟨d0,g1,rfl⟩:=agk hd;have hi:i < n:=by
   have:=(aK.mp g1).1;rwa[uf] at this
  have ed:d0=rwD m (M i):=by
   unfold mtD at g1;rw[bB,cQ hi] at g1;exact(cP g1).symm
  subst ed;refine⟨[.val (.lst (mtD n m M)),.val (.int (k:Int)),.val (.int d),.val (rwD m (M k)),.own none (mtD i m (stM d k M)),.val (.int (i:Int)),.val (rwD m (M i))],[.val (.lst (mtD n m M)),.val (.int (k:Int)),.val (.int d),.val (rwD m (M k)),.own none (mtD (i+1) m (stM d k M)),.val (.int (i:Int)),.val (rwD m (M i))],rfl,.inl ?_,_,_,rfl⟩;have hcap:(mtD i m (stM d k M)).length < capS:=by rw[uf];unfold capS;omega
  rw[ait]
  by_cases hik:i=k
  ·subst hik;have ek:stM d i M i=M i:=by funext j;unfold stM;rw[if_pos rfl]
   rw[ek];have hl:=vq m (M i);have hc:((aJ m).map fun j=>D.int (M i j)).length<=capS:=by rw[hl];exact b8 hm
   unfold rwD;generalize (aJ m).map (fun j=>D.int (M i j))=rr at *
   generalize mtD i m (stM d i M)=m2 at *;generalize mtD n m M=mm at *;simp[abv,hc,hcap]
  ·obtain⟨q1,q2,e⟩:=aqw (M:=M) hk hd0 hd1 hik (hcol k hkn) (hcol i hi);have l1:=vq m (M i);have l2:=vq m (M k);have l3:=vq m (stM d k M i);have hle:((aJ m).map fun j=>D.int (M i j)).length<=((aJ m).map fun j=>D.int (M k j)).length:=by rw[l1,l2];exact aN _
   have hc:((aJ m).map fun j=>D.int (stM d k M i j)).length<=capS:=by rw[l3];exact b8 hm
   have hne:¬((i:Int)=(k:Int)):=by omega
   unfold rwD at e ⊢
   generalize (aJ m).map (fun j=>D.int (stM d k M i j))=rs at *
   generalize (aJ m).map (fun j=>D.int (M i j))=ri at *
   generalize (aJ m).map (fun j=>D.int (M k j))=rk at *
   generalize mtD i m (stM d k M)=m2 at *;generalize mtD n m M=mm at *;simp[abv,hne,hle,e,hc,hcap]
def aug(A:Nat->Rw)(n:Nat)(c:Rw):Nat->Rw:=fun i j=>if j < n then A i j else c i
theorem az7(A:Nat->Rw)(n:Nat)(c:Rw)(i:Nat):rwD (n+1) (aug A n c i)=.lst (((aJ n).map fun j=>.int (A i j))++[.int (c i)]):=by
 unfold rwD;rw[jX,bW]
 congr 2
 ·apply dO;intro j hj;have:=cO.mp hj;unfold aug;rw[if_pos this]
 ·show[D.int (aug A n c i n)]=_;unfold aug;rw[if_neg (by omega)]
theorem ayh{A:Nat->Rw}{n:Nat}{c:Rw}(hn:n<=100):∃q1 q2,compD (bTup 2 (qd (cu 0) (qd (cu 1) bNil))) (ret true) adg (qu (mtD n n A) ((aJ n).map fun i=>.int (c i))) [] [.emp,.emp]=some (.ok (mtD n (n+1) (aug A n c)),[q1,q2]):=by
 have comp:=abl (b:=bTup 2 (qd (cu 0) (qd (cu 1) bNil))) (mc:=ret true) (me:=adg) (fun j ys ρ=>∃o1 o2:Sl,ρ=[o1,o2]/\ys=mtD j (n+1) (aug A n c))
  (l:=qu (mtD n n A) ((aJ n).map fun i=>D.int (c i))) (ys:=[]) (ρ:=[.emp,.emp]) 0 ⟨.emp,.emp,rfl,rfl⟩ ?_
 ·obtain⟨ys,ρ',e6,o1,o2,rfl,rfl⟩:=comp;have hz:(qu (mtD n n A) ((aJ n).map fun i=>D.int (c i))).length=n:=by unfold qu;rw[jJ,uf,vq];omega
  rw[hz,dY] at e6;exact⟨o1,o2,e6⟩
 ·rintro j z ys ρ hd ⟨o1,o2,rfl,rfl⟩
  have hj:j < n:=by
   rcases iB j n with q | q
   ·exact q
   ·rw[cG (by unfold qu;rw[jJ,uf];omega)] at hd
    cases hd
  have ed:z=.tup [rwD n (A j),.int (c j)]:=by
   unfold qu mtD at hd;rw[nF,bB,bB,cQ hj] at hd;exact(cP hd).symm
  subst ed;have hl:=vq n (A j);have hc:((aJ n).map fun i=>D.int (A j i)).length<=capS:=by rw[hl];exact b8 (by omega)
  have hc2:((aJ n).map fun i=>D.int (A j i)).length+1<=capS:=by rw[hl];exact b8 (by omega)
  refine⟨[.val (rwD n (A j)),.val (.int (c j))],_,true,by simp,rfl,.inr ⟨rfl,rwD (n+1) (aug A n c j),[.val (rwD n (A j)),.val (.int (c j))],?_,_,_,rfl,?_⟩⟩
  ·rw[az7];unfold rwD;generalize (aJ n).map (fun i=>D.int (A j i))=rr at *
   simp[adg,hc,hc2]
  ·rw[dY,ait]
def tops(qv:LL9)(c:Rw):Nat->Int:=fun i=>(BS (aug (dsq qv) qv.length c) qv.length).2 i qv.length
def botm(qv:LL9)(c:Rw):Int:=(BS (aug (dsq qv) qv.length c) qv.length).1
section
variable{qv:LL9}(h:Hs qv)(hop:trapI qv=[])(c:Rw)
include h hop
theorem ajd:∀i < qv.length,∀j < qv.length,aug (dsq qv) qv.length c i j=dsq qv i j:=fun i _ j hj=>by unfold aug;rw[if_pos hj]
theorem ar4:adc [.val (.lst (mtD qv.length qv.length (dsq qv))),.val (.lst ((aJ qv.length).map fun i=>.int (c i)))]=some (.ok (.v (.tup [.lst ((aJ qv.length).map fun i=>.int (tops qv c i)),.int (botm qv c)])),[.val (.lst (mtD qv.length qv.length (dsq qv))),.val (.lst ((aJ qv.length).map fun i=>.int (c i)))]):=by
 have hm:=h.most;generalize hM:aug (dsq qv) qv.length c=M0;have hM0:=ajd h hop c;rw[hM] at hM0;have all:=api h hop hM0;have loop:=aby (b:=cu 4) (g:=ac8) (fun k ρ=>k<=qv.length->∃o4 o5,ρ=[.val (.lst (mtD qv.length qv.length (dsq qv))),.val (.lst ((aJ qv.length).map fun i=>D.int (c i))),.own none (mtD qv.length (qv.length+1) (BS M0 k).2),.val (.int (BS M0 k).1),o4,o5])
  (l:=rangeD 0 qv.length) (ρ:=[.val (.lst (mtD qv.length qv.length (dsq qv))),.val (.lst ((aJ qv.length).map fun i=>D.int (c i))),.own none (mtD qv.length (qv.length+1) M0),.val (.int 1),.emp,.emp]) 0 (fun _=>⟨.emp,.emp,rfl⟩) ?_
 ·obtain⟨ρ',e,hρ⟩:=loop;have rl:(rangeD 0 qv.length).length=qv.length:=by simp[rangeD]
  rw[rl,dY] at hρ;obtain⟨o4,o5,rfl⟩:=hρ (aN _);obtain⟨q1,q2,e1⟩:=ayh (A:=dsq qv) (n:=qv.length) (c:=c) (by omega)
  rw[hM] at e1;have ec:compD (cu 0) (ret true) agm (mtD qv.length (qv.length+1) (BS M0 qv.length).2) [] [.emp,.val (.lst (mtD qv.length qv.length (dsq qv)))]=some (.ok ((aJ qv.length).map fun i=>.int (tops qv c i)),xf .emp (mtD qv.length (qv.length+1) (BS M0 qv.length).2)::[.val (.lst (mtD qv.length qv.length (dsq qv)))]):=by
   have hl:=uf qv.length qv.length (dsq qv);have et:=fun i=>ajv (r:=(BS M0 qv.length).2 i) (m:=qv.length+1) (k:=qv.length) (by omega)
   have eg:∀i,((aJ (qv.length+1)).map fun j=>D.int ((BS M0 qv.length).2 i j))[qv.length]? = some (.int ((BS M0 qv.length).2 i qv.length)):=fun i=>by
    rw[bB,cQ (by omega)]
    rfl
   rw[lw (f:=fun d=>match d with | .lst l=>(l[qv.length]?).getD .non | d=>d)]
   ·congr 3
    unfold mtD;rw[aZ,bY];apply dO;intro i _;show(((aJ (qv.length+1)).map fun j=>D.int ((BS M0 qv.length).2 i j))[qv.length]?).getD .non=.int (tops qv c i)
    rw[eg i];unfold tops;rw[hM];rfl
   ·intro d hd;unfold mtD at hd;obtain⟨i,_,rfl⟩:=bD.mp hd;have k1:=et i;have k2:=eg i
    clear e1 e hρ
    unfold rwD;generalize (aJ (qv.length+1)).map (fun j=>D.int ((BS M0 qv.length).2 i j))=rr at *
    generalize mtD qv.length qv.length (dsq qv)=mm at *;simp[agm,hl,k1,k2]
  have hl1:=uf qv.length qv.length (dsq qv);have hl2:=vq qv.length c;have hle:(mtD qv.length qv.length (dsq qv)).length<=((aJ qv.length).map fun i=>D.int (c i)).length:=by rw[hl1,hl2];exact aN _
  have hc1:(mtD qv.length (qv.length+1) M0).length<=capS:=by rw[uf];exact b8 (by omega)
  have hc2:((aJ qv.length).map fun i=>D.int (tops qv c i)).length<=capS:=by rw[vq qv.length (tops qv c)];exact b8 (by omega)
  have hb:qv.length < 4611686018427387904:=by omega
  have ed:botm qv c=(BS M0 qv.length).1:=by unfold botm;rw[hM]
  rw[ed];generalize (aJ qv.length).map (fun i=>D.int (tops qv c i))=tt at *
  generalize mtD qv.length (qv.length+1) (BS M0 qv.length).2=m3 at *;generalize mtD qv.length (qv.length+1) M0=m2 at *;generalize (aJ qv.length).map (fun i=>D.int (c i))=cc at *
  generalize mtD qv.length qv.length (dsq qv)=mm at *;generalize (BS M0 qv.length).1=dn at *;simp[adc,aon,e1,hc1,hl1,hl2,hb,e,ec,hc2]
 ·rintro k z ρ hd hρ
  rw[dY];have hk:k < qv.length:=by
   have:=(aK.mp hd).1
   simpa[rangeD] using this
  rw[dY] at hρ;obtain⟨o4,o5,rfl⟩:=hρ (by omega)
  have ez:z=.int (k:Int):=by
   unfold rangeD at hd;rw[bB,cQ hk] at hd;have:=(cP hd).symm
   simpa using this
  subst ez;obtain⟨b1,b2⟩:=all k (by omega)
  obtain⟨p1,p2,p3⟩:=a8o h hop hM0 b1 hk;have d0:=b1.pos;have d2:(BS M0 k).1<=60466176:=by
   have:(6:Int) ^ k<=6 ^ 10:=by
    have:=lG (show 0 < 6 by decide) (show k<=10 by omega)
    exact_mod_cast this
   have e10:(6:Int) ^ 10=60466176:=by decide
   omega
  have d1:(BS M0 k).1 < 1000000000000000000000000000000000000000000000000000000000000:=by omega
  have e1:=al9 (M:=(BS M0 k).2) hk (show k < qv.length+1 by omega) (by omega) (by omega)
  have e2:=apo (n:=qv.length) (m:=qv.length+1) (M:=(BS M0 k).2) (k:Int) (by omega) (by omega)
  have e3:=aqv (M:=(BS M0 k).2) hk (show k < qv.length+1 by omega) (by omega) (by omega) d0 d1 (fun i hi=>by have:=p3 i hi;omega)
  have e4:=ath (m:=qv.length+1) (M:=stM (BS M0 k).1 k (BS M0 k).2) hk;have e5:=ajv (r:=stM (BS M0 k).1 k (BS M0 k).2 k) (show k < qv.length+1 by omega)
  have e6:stM (BS M0 k).1 k (BS M0 k).2 k k=(BS M0 k).2 k k:=by unfold stM;rw[if_pos rfl]
  rw[e6] at e5;refine⟨_,[.val (.lst (mtD qv.length qv.length (dsq qv))),.val (.lst ((aJ qv.length).map fun i=>D.int (c i))),.own none (mtD qv.length (qv.length+1) (BS M0 (k+1)).2),.val (.int (BS M0 (k+1)).1),.val (.int (k:Int)),.val (.int (k:Int))],rfl,.inl ?_,fun _=>⟨_,_,rfl⟩⟩
  show ac8 [.val (.lst (mtD qv.length qv.length (dsq qv))),.val (.lst ((aJ qv.length).map fun i=>D.int (c i))),.own none (mtD qv.length (qv.length+1) (BS M0 k).2),.val (.int (BS M0 k).1),.val (.int (k:Int)),o5]=some (Fl.nx,[.val (.lst (mtD qv.length qv.length (dsq qv))),.val (.lst ((aJ qv.length).map fun i=>D.int (c i))),.own none (mtD qv.length (qv.length+1) (stM (BS M0 k).1 k (BS M0 k).2)),.val (.int ((BS M0 k).2 k k)),.val (.int (k:Int)),.val (.int (k:Int))])
  unfold rwD at e4;generalize (aJ (qv.length+1)).map (fun j=>D.int (stM (BS M0 k).1 k (BS M0 k).2 k j))=rk at *
  generalize mtD qv.length (qv.length+1) (stM (BS M0 k).1 k (BS M0 k).2)=m3 at *;generalize mtD qv.length (qv.length+1) (BS M0 k).2=m2 at *;generalize (aJ qv.length).map (fun i=>D.int (c i))=cc at *
  generalize mtD qv.length qv.length (dsq qv)=mm at *;generalize (BS M0 k).2 k k=pk at *;generalize (BS M0 k).1=dk at *;simp[ac8,e1,isN,e2,e3,e4,e5]
end
theorem ags(x:Int):∀V:List Int,(V.map D.int).countP (fun y=>eqD y (.int x))=V.count x
 | []=>rfl
 | a::V=>by
  have e:=am7 a x;rw[aW,sW,ags x V,qI,e]
  by_cases q:a=x <;> simp[q]
theorem aw0(n:Nat)(r:List Int):compD (cu 0) (ret true) xm (rangeD 0 n) [] [.emp,.val (.tup (r.map D.int))]=some (.ok ((aJ n).map fun(j:Nat)=>.int (-((r.count (j:Int):Nat):Int))),xf .emp (rangeD 0 n)::[.val (.tup (r.map D.int))]):=by
 have ok:=aem 30 r;have hc:=fun x=>ags x r
 rw[lw (f:=fun d=>match d with | .int k=>.int (-((r.count k:Nat):Int)) | d=>d)]
 ·unfold rangeD;rw[aZ,bY]
  congr 3
  apply dO;intro i _;simp
 ·intro d hd;unfold rangeD at hd;obtain⟨k,_,rfl⟩:=bD.mp hd;have hk:=hc (k:Int);generalize r.map D.int=vv at *;simp[xm,ok,hk,okD]
section
variable{qv:LL9}(h:Hs qv)
include h
theorem az3{i:Nat}(hi:i < qv.length)(o4:Sl):∃q4,l1_doors_square [.val (hD qv),.own none (mtD i qv.length (dsq qv)),.val (.int (i:Int)),.val (.tup ((dr qv (i:Int)).map D.int)),o4]=some (.nx,[.val (hD qv),.own none (mtD (i+1) qv.length (dsq qv)),.val (.int (i:Int)),.val (.tup ((dr qv (i:Int)).map D.int)),q4]):=by
 have hm:=h.most;have hl:=yt qv;have e1:=aw0 qv.length (dr qv (i:Int));have hb:qv.length < 4611686018427387904:=by omega
 have rl:((aJ qv.length).map fun(j:Nat)=>D.int (-(((dr qv (i:Int)).count (j:Int):Nat):Int))).length=qv.length:=by simp
 have hc:((aJ qv.length).map fun(j:Nat)=>D.int (-(((dr qv (i:Int)).count (j:Int):Nat):Int))).length<=capS:=by rw[rl];exact b8 (by omega)
 have ix:ixN ((aJ qv.length).map fun(j:Nat)=>D.int (-(((dr qv (i:Int)).count (j:Int):Nat):Int))).length (i:Int)=some i:=by
  rw[rl,ad8 (by omega) (by omega),cC]
 have ia:((aJ qv.length).map fun(j:Nat)=>D.int (-(((dr qv (i:Int)).count (j:Int):Nat):Int)))[i]? = some (.int (-(((dr qv (i:Int)).count (i:Int):Nat):Int))):=by
  rw[bB,cQ hi];rfl
 have es:((aJ qv.length).map fun(j:Nat)=>D.int (-(((dr qv (i:Int)).count (j:Int):Nat):Int))).set i (.int (-(((dr qv (i:Int)).count (i:Int):Nat):Int)+((dr qv (i:Int)).length:Int)))=(aJ qv.length).map fun j=>D.int (dsq qv i j):=by
  apply iG;intro j;rw[bJ,rl]
  by_cases hj:j < qv.length
  ·rw[bB,bB,cQ hj]
   by_cases e:i=j
   ·subst e;rw[if_pos rfl,if_pos hj];show _=some (D.int (dsq qv i i));unfold dsq;rw[if_pos rfl]
    congr 2
    omega
   ·rw[if_neg e];show some (D.int _)=some (D.int (dsq qv i j));unfold dsq;rw[if_neg e]
    congr 2
    omega
  ·rw[if_neg (by omega),cG (by simp;omega),cG (by simp;omega)]
 have dl:((dr qv (i:Int)).map D.int).length=(dr qv (i:Int)).length:=aM ..
 have hcap:(mtD i qv.length (dsq qv)).length < capS:=by rw[uf];unfold capS;omega
 rw[ait];unfold rwD;rw[<-es];generalize ((aJ qv.length).map fun(j:Nat)=>D.int (-(((dr qv (i:Int)).count (j:Int):Nat):Int)))=rr at *
 generalize (-(((dr qv (i:Int)).count (i:Int):Nat):Int))=v at *;generalize (dr qv (i:Int)).length=ln at *;generalize (dr qv (i:Int)).map D.int=dd at *;generalize mtD i qv.length (dsq qv)=mm at *;refine⟨.val (.lst (rr.set i (.int (v+(ln:Int))))),?_⟩;have hc':qv.length<=capS:=b8 (by omega)
 have ix':ixN qv.length (i:Int)=some i:=by rw[<-rl];exact ix
 simp only[hD] at *;simp[l1_doors_square,hl,hb,e1,hc',rl,dl,ix',ia,hcap]
theorem agp:qj [.val (hD qv)]=some (.ok (.fr (mtD qv.length qv.length (dsq qv))),[.val (hD qv)]):=by
 have loop:=aby (b:=bTup 2 (qd (cu 2) (qd (cu 3) bNil))) (g:=l1_doors_square) (fun i ρ=>∃o2 o3 o4,ρ=[.val (hD qv),.own none (mtD i qv.length (dsq qv)),o2,o3,o4])
  (l:=aev (hDs qv)) (ρ:=[.val (hD qv),.own none [],.emp,.emp,.emp]) 0 ⟨.emp,.emp,.emp,rfl⟩ ?_
 ·obtain⟨ρ',e,o2,o3,o4,rfl⟩:=loop;rw[adf,yt,dY] at e;generalize mtD qv.length qv.length (dsq qv)=mm at *;simp only[hD] at *;simp[qj,ab3,e]
 ·rintro i z ρ hd ⟨o2,o3,o4,rfl⟩
  rw[dY];obtain⟨d0,g1,rfl⟩:=agk hd;have hi:i < qv.length:=by
   have:=(aK.mp g1).1;rwa[yt] at this
  have ed:d0=.tup ((dr qv (i:Int)).map D.int):=by
   unfold hDs at g1;rw[bB,aF hi] at g1;unfold dr;rw[cC,aY,aF hi];exact(cP g1).symm
  subst ed;obtain⟨q4,e⟩:=az3 h hi o4;exact⟨_,_,rfl,.inl e,_,_,_,rfl⟩
end
section
variable{qv:LL9}(h:Hs qv)(hop:trapI qv=[])
include h hop
end
section
variable{qv:LL9}(h:Hs qv)(hop:trapI qv=[])(c:Rw)
include h hop
end
theorem aoz(cs:List Nat)(k:Rw):∀(a p r:List Rw),det cs (p++(a++k::r))=(-1) ^ a.length*det cs (p++k::(a++r))
 | [],p,r=>by simp
 | x::a,p,r=>by
  have ih:=aoz cs k a (p++[x]) r;have h:=ak8 cs p x k (a++r);simp only[cB,dW,aZ] at ih h ⊢
  rw[ih,h,bN,lR,lC,jK,pL,nY,jK]
theorem ax5{d:Int}{n:Nat}{M:Nat->Rw}(h:Dvd d n M){k:Nat}(hk:k < n)(hd:d≠0)(cs a b:List Nat)(hi:∀i∈a++b,i < n)(hn:k∉a++b):d ^ (a++b).length*det cs ((a++k::b).map (stM d k M))=(M k k) ^ (a++b).length*det cs ((a++k::b).map M):=by
 have e1:=ah5 h hk hd (a++b) hi hn;have ek:stM d k M k=M k:=by funext j;unfold stM;rw[if_pos rfl]
 have e2:=adi cs d ((a++b).map (stM d k M)) [M k];have e3:=ai8 cs (M k) (M k k) (fun r=>r k) ((a++b).map M) []
 rw[e1] at e2;simp only[aZ,dW,aM] at e2 e3;rw[e3] at e2;have f1:=aoz cs (M k) (a.map (stM d k M)) [] (b.map (stM d k M));have f2:=aoz cs (M k) (a.map M) [] (b.map M);rw[aZ,aZ,aM,<-bW] at f1 f2;have g1:(a++k::b).map (stM d k M)=a.map (stM d k M)++M k::b.map (stM d k M):=by rw[bW,aW,ek]
 have g2:(a++k::b).map M=a.map M++M k::b.map M:=by rw[bW,aW]
 rw[g1,f1,g2,f2,dB,dB ((M k k) ^ _),e2]
theorem av1{n k:Nat}(hk:k < n):∃a b,aJ n=a++k::b/\(∀i∈a++b,i < n)/\k∉a++b/\(a++b).length=n - 1:=by
 obtain⟨a,b,e⟩:=mH (cO.mpr hk);have nd:=yN (n:=n);rw[e] at nd;have l:=congrArg vZ e;refine⟨a,b,e,fun i hi =>?_,?_,?_⟩
 ·have:i∈List.range n:=by
   rw[e];rcases dG.mp hi with z | z
   ·exact fM _ z
   ·exact cM _ (aL _ z)
  exact cO.mp this
 ·intro z;rw[oY] at nd;rcases dG.mp z with q | q
  ·exact nd.2.2 k q k (aP ..) rfl
  ·exact(jY.mp nd.2.1).1 q
 ·simp at l;simp;omega
theorem ao1{d:Int}{M:Nat->Rw}:∀(is:List Nat),is.Nodup->(∀i∈is,∀j∈is,M i j=if i=j then d else 0)->det is (is.map M)=d ^ is.length
 | [],_,_=>by simp[det]
 | c::cs,nd,h=>by
  show lap c (det cs) [] (M c::cs.map M)=_;show M c c*det cs ([]++cs.map M) - lap c (det cs) ([]++[M c]) (cs.map M)=_;rw[ae3,aZ,ao1 cs (jY.mp nd).2 fun i hi j hj=>h i (aL _ hi) j (aL _ hj),h c (aP ..) c (aP ..),if_pos rfl,bN,lR,gD,vK]
  intro r hr;obtain⟨i,hi,rfl⟩:=bD.mp hr;rw[h i (aL _ hi) c (aP ..),if_neg];intro e;exact(jY.mp nd).1 (e▸hi)
theorem aoe{c:Nat}{F:List Rw->Int}{A B:Nat->Rw}:∀(q p:List Nat),(∀l:List Nat,(∀i∈l,i∈p++q)->F (l.map A)=F (l.map B))->(∀i∈q,A i c=B i c)->lap c F (p.map A) (q.map A)=lap c F (p.map B) (q.map B)
 | [],p,_,_=>rfl
 | r::q,p,hF,hc=>by
  show A r c*F (p.map A++q.map A) - lap c F (p.map A++[A r]) (q.map A)=B r c*F (p.map B++q.map B) - lap c F (p.map B++[B r]) (q.map B);have e1:=hF (p++q) fun i hi=>by
   rcases dG.mp hi with z | z
   ·exact fM _ z
   ·exact cM _ (aL _ z)
  have e2:=aoe (c:=c) (F:=F) (A:=A) (B:=B) q (p++[r]) (fun l hl=>hF l fun i hi=>by have:=hl i hi;simpa using this) fun i hi=>hc i (aL _ hi)
  rw[bW,bW] at e1;rw[bW,bW] at e2;have e2:lap c F (p.map A++[A r]) (q.map A)=lap c F (p.map B++[B r]) (q.map B):=e2;rw[e1,e2,hc r (aP ..)]
theorem alb:∀(cs is:List Nat) (A B:Nat->Rw),(∀i∈is,∀j∈cs,A i j=B i j)->det cs (is.map A)=det cs (is.map B)
 | [],[],_,_,_=>rfl
 | [],_::_,_,_,_=>rfl
 | c::cs,is,A,B,h=>by
  have:=aoe (c:=c) (F:=det cs) (A:=A) (B:=B) is [] (fun l hl=>alb cs l A B fun i hi j hj=>h i (by simpa using hl i hi) j (aL _ hj)) fun i hi=>h i hi c (aP ..)
  exact this
theorem ax6(cs:List Nat)(A B:Nat->Rw)(h:∀i∈cs,∀j∈cs,A i j=B i j):det cs (cs.map A)=det cs (cs.map B):=alb cs cs A B h
theorem aye{n:Nat}{A:Nat->Rw}{c:Rw}(one:1<=n)(all:∀k,k<=n->BJ n (n+1) (aug A n c) (fun j=>j < k) (BS (aug A n c) k).1 (BS (aug A n c) k).2):(BS (aug A n c) n).1=det (aJ n) ((aJ n).map A):=by
 have inv:∀k,k<=n->det (aJ n) ((aJ n).map (BS (aug A n c) k).2)=(BS (aug A n c) k).1 ^ (n - 1)*det (aJ n) ((aJ n).map (aug A n c)):=fun k=>by
  induction k with
  | zero =>
   intro _;show _=(1:Int) ^ _*_;rw[Int.one_pow,nY];rfl
  | succ k ih =>
   intro hk;have ih:=ih (by omega)
   have a:=all k (by omega)
   obtain⟨x,y,e,h1,h2,h3⟩:=av1 (n:=n) (k:=k) (by omega)
   have s:=ax5 a.dvd (k:=k) (by omega) (by have:=a.pos;omega) (aJ n) x y h1 h2
   rw[h3,<-e,ih] at s;refine eU (a:=(BS (aug A n c) k).1 ^ (n - 1)) (nW (by have:=a.pos;omega)) ?_
   show _*det _ ((aJ n).map (stM (BS (aug A n c) k).1 k (BS (aug A n c) k).2))=_*((BS (aug A n c) k).2 k k ^ _*_);rw[s,dB]
 have q:=inv n (aN _);have a:=all n (aN _);have d:=ao1 (d:=(BS (aug A n c) n).1) (M:=(BS (aug A n c) n).2) (aJ n) yN fun i hi j hj=>a.shape i (cO.mp hi) j (cO.mp hj)
 rw[d,iC] at q;have q2:(BS (aug A n c) n).1 ^ (n - 1)*(BS (aug A n c) n).1=(BS (aug A n c) n).1 ^ (n - 1)*det (aJ n) ((aJ n).map (aug A n c)):=by
  rw[<-q,<-lR]
  congr 1
  omega
 have q3:=eU (nW (by have:=a.pos;omega)) q2
 rw[q3];exact ax6 (aJ n) _ _ fun i _ j hj=>by unfold aug;rw[if_pos (cO.mp hj)]
theorem apb{qv:LL9}(h:Hs qv)(hop:trapI qv=[])(c:Rw):botm qv c=det (aJ qv.length) ((aJ qv.length).map (dsq qv)):=aye h.one fun k hk=>(api h hop (ajd h hop c) k hk).1
def cdot:List Nat->Rw->Rw->Int
 | [],_,_=>0
 | c::cs,x,r=>x c*r c+cdot cs x r
theorem ao6(x a b:Rw)(p q:Int):∀cs,cdot cs x (fun j=>p*a j+q*b j)=p*cdot cs x a+q*cdot cs x b
 | []=>by simp[cdot]
 | c::cs=>by
  show x c*(p*a c+q*b c)+cdot cs x _=p*(x c*a c+cdot cs x a)+q*(x c*b c+cdot cs x b);rw[ao6 x a b p q cs,iR,iR,iR,dB (x c) p,dB (x c) q];omega
theorem alf{x:Rw}(r:Rw):∀cs,(∀j∈cs,x j=0)->cdot cs x r=0
 | [],_=>rfl
 | c::cs,h=>by
  show x c*r c+cdot cs x r=0;rw[h c (aP ..),alf r cs fun j hj=>h j (aL _ hj),jZ]
  rfl
theorem au1(x:Rw):∀(cs:List Nat) (rows:List Rw),(∀r∈rows,cdot cs x r=0)->(∃j∈cs,x j≠0)->det cs rows=0
 | [],_,_,⟨_,h,_⟩=>by cases h
 | c::cs,rows,hr,hx=>by
  by_cases hz:∀r∈rows,r c=0
  ·exact ae3 rows [] hz
  ·obtain⟨k,hk,hkc⟩:∃k,k∈rows/\k c≠0:=by
    apply bH;intro z;exact hz fun r hr'=>bH fun q=>z ⟨r,hr',q⟩
   obtain⟨a,b,rfl⟩:=mH hk;have e:=chio c cs k (a++b);have hx':∃j∈cs,x j≠0:=by
    apply bH;intro z;have z0:∀j∈cs,x j=0:=fun j hj=>bH fun q=>z ⟨j,hj,q⟩
    have q:=hr k hk;have q:x c*k c+cdot cs x k=0:=q;rw[alf k cs z0,nG] at q;obtain⟨j,hj,hne⟩:=hx;rcases bF.mp hj with w | w
    ·subst w;rcases qK.mp q with v | v
     ·exact hne v
     ·exact hkc v
    ·exact hne (z0 j w)
   have d0:=au1 x cs ((a++b).map fun r=>clr (k c) (r c) r k) (fun r hr'=>by
    obtain⟨r0,h0,rfl⟩:=bD.mp hr';have h1:x c*r0 c+cdot cs x r0=0:=hr r0 (by
     rcases dG.mp h0 with w | w
     ·exact fM _ w
     ·exact cM _ (aL _ w))
    have h2:x c*k c+cdot cs x k=0:=hr k hk;show cdot cs x (fun j=>k c*r0 j+(-(r0 c))*k j)=0
    rw[ao6,show cdot cs x r0 = -(x c*r0 c) by omega,show cdot cs x k = -(x c*k c) by omega,jK,pL,jK,Int.neg_neg,dB (k c),dB (r0 c),gD (k c) (r0 c)]
    omega) hx'
   rw[d0,iM] at e;have e2:det (c::cs) (k::(a++b))=0:=by
    rcases qK.mp e.symm with w | w
    ·exact absurd w (nW hkc)
    ·exact w
   have f:=aoz (c::cs) k a [] b;rw[aZ,aZ,e2,iM] at f;exact f
theorem au0{α:Type}(cs:List Nat)(p q:List Rw)(r:α->Rw):∀l:List α,det cs (p++(fun j=>(l.map fun d=>r d j).sum)::q)=(l.map fun d=>det cs (p++r d::q)).sum
 | []=>by
  have:=ala cs p 0 0 (fun _=>0) (fun _=>0) q
  have e:(fun j=>(([]:List α).map fun d=>r d j).sum)=fun j=>(0:Int)*(fun _=>(0:Int)) j+0*(fun _=>(0:Int)) j:=by funext j;simp
  rw[e,this];simp
 | d::l=>by
  have:=ala cs p 1 1 (r d) (fun j=>(l.map fun d=>r d j).sum) q
  have e:(fun j=>((d::l).map fun d=>r d j).sum)=fun j=>1*r d j+1*(l.map fun d=>r d j).sum:=by funext j;simp
  rw[e,this,au0 cs p q r l,aW,fH];omega
def picks{α:Type}:List (List α)->List (List α)
 | []=>[[]]
 | l::ls=>l.flatMap fun d=>(picks ls).map fun c=>d::c
theorem sum_map_add{α:Type}(f:α->Int):∀a b:List α,((a++b).map f).sum=(a.map f).sum+(b.map f).sum:=fun a b=>by rw[bW,yU]
theorem aac{α β:Type}(f:β->Int)(g:α->List β):∀l:List α,((l.flatMap g).map f).sum=(l.map fun d=>((g d).map f).sum).sum
 | []=>rfl
 | d::l=>by
  rw[lB,sum_map_add,aac f g l,aW,fH]
theorem ak9(cs:List Nat):∀(ls:List (List Rw)) (p:List Rw),det cs (p++ls.map fun l j=>(l.map fun r=>r j).sum)=((picks ls).map fun c=>det cs (p++c)).sum
 | [],p=>by simp[picks]
 | l::ls,p=>by
  rw[aW,au0 cs p _ (fun r=>r) l]
  unfold picks;rw[aac]
  congr 1
  apply dO;intro r _;have:=ak9 cs ls (p++[r]);rw[cB] at this;rw[bY];have e:(fun c=>det cs (p++c))∘(fun c=>r::c)=fun c=>det cs ((p++[r])++c):=by
   funext c
   simp
  rw[e,<-this];rfl
section
variable{qv:LL9}(h:Hs qv)(hop:trapI qv=[])
include h hop
theorem a3y{M0:Nat->Rw}(hM:∀i < qv.length,∀j < qv.length,M0 i j=dsq qv i j){P:Nat->Prop}{d:Int}{M:Nat->Rw}(b:BJ qv.length (qv.length+1) M0 P d M){k:Nat}(hk:k < qv.length)(hnk:¬P k):M k k<=((dr qv (k:Int)).length:Int)*d:=by
 obtain⟨Y,Yk,Yb,m1,q1,q2⟩:=colY h hop hM b hk hnk;have p1:=b.pos;have hx0:∀d,d < 0->xt Y d=0:=fun d hd=>by unfold xt;rw[if_pos hd]
 have xi:∀i:Int,0<=i->xt Y i=Y i.toNat:=fun i hi=>by unfold xt;rw[if_neg (by omega)]
 have nn:∀i:Int,0<=i->i < (qv.length:Int)->0<=xt Y i:=fun i i0 i1=>by
  have:=an9 h hop (X:=fun d => - xt Y d) (fun d hd=>by show - xt Y d=0;rw[hx0 d hd];rfl) (fun i i0 i1 hi=>by
   have hik:P i.toNat:=by
    apply bH;intro z
    by_cases e:i.toNat=k
    ·rw[xi i i0,e,Yk] at hi;omega
    ·rw[xi i i0,Yb _ z e] at hi;omega
   have a:=q1 _ hik;rw[show((i.toNat:Nat):Int)=i by omega] at a
   rw[ate h hop,xi i i0,jK];omega) i i0 i1
  omega
 have a:=q2 k hk hnk;rw[Yk] at a;have s4:∀l:List Int,(∀x∈l,0<=xt Y x)->0<=(l.map (xt Y)).sum:=fun l=>by
  induction l with
  | nil=>intro _;simp
  | cons x l ih =>
   intro hl;rw[aW,fH];have:=ih fun y hy=>hl y (aL _ hy)
   have:=hl x (aP ..);omega
 have:=s4 (dr qv (k:Int)) fun x hx=>by
  rcases jE x 0 with z | z
  ·rw[hx0 x z];omega
  ·exact nn x z ((h.dr (x:=(k:Int)) (by omega) (by omega)).2.2 x hx).2
 omega
theorem a2p(h1:∀k,k < qv.length->(dr qv (k:Int)).length=1):botm qv (fun _=>0)=1:=by
 have all:=api h hop (ajd h hop fun _=>0)
 have le:∀k,k<=qv.length->(BS (aug (dsq qv) qv.length fun _=>0) k).1<=1:=fun k=>by
  induction k with
  | zero=>intro _;exact rC _
  | succ k ih =>
   intro hk;have a:=ih (by omega)
   have p:=a3y h hop (ajd h hop fun _=>0) (all k (by omega)).1 (k:=k) (by omega) (by omega)
   rw[h1 k (by omega)] at p
   show(BS (aug (dsq qv) qv.length fun _=>0) k).2 k k<=1
   omega
 have a:=(all qv.length (aN _)).1.pos;have b:=le qv.length (aN _);unfold botm;omega
end
def ch(v:List Int):LL9:=v.map fun d=>[d]
theorem aqu{v:List Int}{i:Nat}(hi:i < v.length):dr (ch v) (i:Int)=[v[i]]:=by
 unfold dr ch;rw[cC,aY,bB,aF hi];rfl
theorem ao4(v:List Int):(ch v).length=v.length:=by simp[ch]
theorem bag{v:List Int}(h1:1<=v.length)(h2:v.length<=10)(hv:∀d∈v,-3<=d/\d < (v.length:Int)):Hs (ch v):=⟨by rw[ao4];exact h1,by rw[ao4];exact h2,fun r hr=>by
 obtain⟨d,hd,rfl⟩:=bD.mp hr;refine⟨by simp,by simp,fun x hx =>?_⟩
 rw[bO] at hx;rw[hx,ao4];exact hv d hd⟩
theorem ao8(x r:Rw):∀a b,cdot (a++b) x r=cdot a x r+cdot b x r
 | [],b=>by simp[cdot]
 | c::a,b=>by
  show x c*r c+cdot (a++b) x r=x c*r c+cdot a x r+cdot b x r;rw[ao8 x r a b];omega
theorem ao7(x r:Rw):∀n,cdot (aJ n) x r=dot n r x
 | 0=>rfl
 | n+1=>by
  rw[jX,ao8,ao7 x r n];show _+(x n*r n+0)=dot n r x+r n*x n;rw[gD (x n)];omega
theorem a0a{v:List Int}{i:Nat}(hi:i < v.length){z:Int}(h:Rch (ch v) (i:Int) z):z=(i:Int)∨Rch (ch v) v[i] z:=by
 induction h with
 | base=>exact .inl rfl
 | @step x d hr hx hd ih =>
  rcases ih with e | e
  ·right
   rw[e,aqu hi,bO] at hd;rw[hd];exact .base
  ·exact .inr (.step e hx hd)
theorem a0d{v:List Int}{i:Nat}(hi:i < v.length){z:Int}(h:Rch (ch v) v[i] z):Rch (ch v) (i:Int) z:=by
 induction h with
 | base=>exact .step .base (by omega) (by rw[aqu hi];simp)
 | step hr hx hd ih=>exact .step ih hx hd
theorem ah1(qv:LL9)(i:Nat)(hi:i < qv.length):(i:Int)∈trapI qv↔∀z,Rch qv (i:Int) z->0<=z:=⟨fun h=>(jj qv _).mp (cL.mp h).2,fun h=>art (by omega) (by omega) h⟩
theorem leaf{v:List Int}(h1:1<=v.length)(h2:v.length<=10)(hv:∀d∈v,-3<=d/\d < (v.length:Int)):det (aJ v.length) ((aJ v.length).map (dsq (ch v)))=if trapI (ch v)=[] then 1 else 0:=by
 have h:=bag h1 h2 hv;have hl:=ao4 v
 by_cases q:trapI (ch v)=[]
 ·rw[if_pos q];have e:=apb h q (fun _=>0)
  rw[a2p h q fun k hk=>by rw[aqu (by omega)];rfl,hl] at e
  exact e.symm
 ·rw[if_neg q];have x0:∀i:Nat,i < v.length->dot v.length (dsq (ch v) i) (fun j=>if (j:Int)∈trapI (ch v) then 1 else 0)=0:=fun i hi=>by
   have e:=auy h (fun j=>if (j:Int)∈trapI (ch v) then 1 else 0) (i:=i) (by omega)
   rw[hl,aqu hi] at e;rw[e];have hb:=hv v[i] (dC hi);show((1:Nat):Int)*(if (i:Int)∈trapI (ch v) then 1 else 0) - (([v[i]].map (xt _)).sum)=0
   rw[aW,rY,fH,List.sum_nil]
   by_cases g:v[i] < 0
   ·have ni:¬(i:Int)∈trapI (ch v):=fun w=>by
     have:=(ah1 (ch v) i (by omega)).mp w v[i] (.step .base (by omega) (by rw[aqu hi];simp))
     omega
    unfold xt;rw[if_neg ni,if_pos g];rfl
   ·have eq:((i:Int)∈trapI (ch v))↔((v[i].toNat:Nat):Int)∈trapI (ch v):=by
     rw[ah1 (ch v) i (by omega),ah1 (ch v) v[i].toNat (by omega),show((v[i].toNat:Nat):Int)=v[i] by omega]
     exact⟨fun w z hz=>w z (a0d hi hz),fun w z hz=>by
      rcases a0a hi hz with e | e
      ·omega
      ·exact w z e⟩
    unfold xt;rw[if_neg g];show((1:Nat):Int)*(if (i:Int)∈trapI (ch v) then 1 else 0) - ((if ((v[i].toNat:Nat):Int)∈trapI (ch v) then 1 else 0)+0)=0
    by_cases w:(i:Int)∈trapI (ch v)
    ·rw[if_pos w,if_pos (eq.mp w)];rfl
    ·rw[if_neg w,if_neg fun z=>w (eq.mpr z)]
     rfl
  refine au1 (fun j=>if (j:Int)∈trapI (ch v) then 1 else 0) (aJ v.length) _ (fun r hr =>?_) ?_
  ·obtain⟨i,hi,rfl⟩:=bD.mp hr;rw[ao7];exact x0 i (cO.mp hi)
  ·obtain⟨t,ht⟩:=List.exists_mem_of_ne_nil _ q;have:=(cL.mp ht).1;unfold upto at this;obtain⟨k,hk,rfl⟩:=bD.mp this;refine⟨k,by rw[<-hl];exact hk,?_⟩
   show(if ((k:Nat):Int)∈trapI (ch v) then (1:Int) else 0)≠0
   rw[if_pos ht]
   decide
def rowC(i:Nat)(d:Int):Rw:=fun j=>(if i=j then 1 else 0) - (if d=(j:Int) then 1 else 0)
theorem ant(i j:Nat):∀l:List Int,(l.map fun d=>rowC i d j).sum=(if i=j then (l.length:Int) else 0) - ((l.count (j:Int):Nat):Int)
 | []=>by simp
 | d::l=>by
  rw[aW,fH,ant i j l,qI,bN];unfold rowC
  by_cases a:i=j <;> by_cases b:d=(j:Int) <;> simp[a,b] <;> omega
def lsF:Nat->LL9->List (List Rw)
 | _,[]=>[]
 | k,r::rs=>r.map (rowC k)::lsF (k+1) rs
def rwF:Nat->List Int->List Rw
 | _,[]=>[]
 | k,d::v=>rowC k d::rwF (k+1) v
theorem atj:∀(rs:LL9) (k i:Nat),(lsF k rs)[i]? = (rs[i]?).map fun r=>r.map (rowC (k+i))
 | [],k,i=>by simp[lsF]
 | r::rs,k,0=>by simp[lsF]
 | r::rs,k,i+1=>by
  show(lsF (k+1) rs)[i]? = _;rw[atj rs (k+1) i,show k+1+i=k+(i+1) by omega]
  simp
theorem asj:∀(v:List Int) (k i:Nat),(rwF k v)[i]? = (v[i]?).map (rowC (k+i))
 | [],k,i=>by simp[rwF]
 | d::v,k,0=>by simp[rwF]
 | d::v,k,i+1=>by
  show(rwF (k+1) v)[i]? = _;rw[asj v (k+1) i,show k+1+i=k+(i+1) by omega]
  simp
theorem aj0:∀(rs:LL9) (k:Nat),picks (lsF k rs)=(picks rs).map (rwF k)
 | [],k=>rfl
 | r::rs,k=>by
  show(r.map (rowC k)).flatMap (fun d=>(picks (lsF (k+1) rs)).map fun c=>d::c)=(r.flatMap fun d=>(picks rs).map fun c=>d::c).map (rwF k)
  rw[aj0 rs (k+1),sS,yO]
  congr 1
  funext d
  rw[bY,bY];rfl
theorem afw:∀{rs:LL9} {v:List Int},v∈picks rs->v.length=rs.length/\∀d∈v,∃r∈rs,d∈r
 | [],v,h=>by
  have:v=[]:=by simpa[picks] using h
  subst this;exact⟨rfl,fun d hd=>by cases hd⟩
 | r::rs,v,h=>by
  unfold picks at h;obtain⟨d,hd,hv⟩:=sO.mp h;obtain⟨c,hc,rfl⟩:=bD.mp hv;obtain⟨a,b⟩:=afw hc;refine⟨by rw[bN,bN,a],fun x hx =>?_⟩
  rcases bF.mp hx with e | e
  ·exact⟨r,aP ..,e▸hd⟩
  ·obtain⟨q,hq,z⟩:=b x e;exact⟨q,aL _ hq,z⟩
theorem av9(qv:LL9):((lsF 0 qv).map fun l j=>(l.map fun r=>r j).sum)=(aJ qv.length).map (dsq qv):=by
 apply iG;intro i;rw[bB,bB,atj]
 by_cases hi:i < qv.length
 ·rw[aF hi,cQ hi];show some _=some _
  congr 1
  funext j
  show((qv[i].map (rowC (0+i))).map fun r=>r j).sum=dsq qv i j
  rw[bY];have:=ant (0+i) j qv[i];have e:dr qv (i:Int)=qv[i]:=by
   unfold dr;rw[cC,aY,aF hi];rfl
  unfold dsq;rw[e];rw[dY] at this ⊢
  exact this
 ·rw[cG (by omega),cG (by simp;omega)]
  rfl
theorem az6(v:List Int):rwF 0 v=(aJ v.length).map (dsq (ch v)):=by
 apply iG;intro i;rw[asj,bB]
 by_cases hi:i < v.length
 ·rw[aF hi,cQ hi];show some _=some _
  congr 1
  funext j
  unfold dsq rowC;rw[aqu hi,dY];generalize v[i]=x;have e:(([x].count (j:Int):Nat):Int)=if x=(j:Int) then 1 else 0:=by
   rw[qI,List.count_nil]
   by_cases b:x=(j:Int) <;> simp[b]
  rw[e];rfl
 ·rw[cG (by omega),cG (by simp;omega)]
  rfl
theorem tree{qv:LL9}(h:Hs qv)(hop:trapI qv=[])(c:Rw):botm qv c=((picks qv).map fun v=>if trapI (ch v)=[] then (1:Int) else 0).sum:=by
 rw[apb h hop c,<-av9];have e:=ak9 (aJ qv.length) (lsF 0 qv) [];rw[aZ] at e;rw[e,aj0,bY]
 congr 1
 apply dO;intro v hv;obtain⟨a,b⟩:=afw hv;show det (aJ qv.length) ([]++rwF 0 v)=_;rw[aZ,az6,<-a];have h1:=h.one;have h2:=h.most;exact leaf (by omega) (by omega) fun d hd=>by
  obtain⟨r,hr,hdr⟩:=b d hd;have:=(h.room r hr).2.2 d hdr;omega
def wd(qv:LL9)(k:Int):Int:=((dr qv k).length:Int)
def ac7(qv:LL9)(as:List Int)(k:Int):Int:=(dr qv k).getD ((ar as k - 1) % wd qv k).toNat 0
theorem avn{r:List Int}{a:Int}(h0:0<=a)(h1:a < (r.length:Int)):atI (r.map D.int) (a - 1)=some (.int (r.getD ((a - 1) % (r.length:Int)).toNat 0)):=by
 by_cases z:1<=a
 ·rw[gH (by omega) (by omega)]
  exact adq (by omega) (by omega)
 ·have:a=0:=by omega
  subst this;have e:((0:Int) - 1) % (r.length:Int)=(r.length:Int) - 1:=by
   have:=oH ((0:Int) - 1) (r.length:Int);rw[<-this,gH (by omega) (by omega)]
   omega
  rw[e];have hn:((r.length:Int) - 1).toNat=r.length - 1:=by omega
  rw[hn];have hl:r.length - 1 < r.length:=by omega
  have h3:ixN (r.map D.int).length (0 - 1)=some (r.length - 1):=by
   unfold ixN;rw[aM];have a1:¬(0<=(0:Int) - 1):=by omega
   have a2 : -(r.length:Int)<=(0:Int) - 1:=by omega
   simp[a2];omega
  unfold atI;rw[h3];simp[aF hl]
def lasts(qv:LL9)(as:List Int):List Int:=(aJ qv.length).map fun(i:Nat)=>ac7 qv as (i:Int)
theorem nu(qv:LL9)(as:List Int):(lasts qv as).length=qv.length:=by unfold lasts;rw[aM,iC]
theorem aqg(qv:LL9)(as:List Int)(j:Nat):((aJ (j+1)).map fun(i:Nat)=>ac7 qv as (i:Int))=((aJ j).map fun(i:Nat)=>ac7 qv as (i:Int))++[ac7 qv as (j:Int)]:=by
 rw[jX,bW];rfl
def lp(L:List Int):LL9:=L.map fun y=>[y]
theorem ahj(L:List Int):(lp L).length=L.length:=aM ..
theorem ax4{L:List Int}{x:Int}(h0:0<=x)(h1:x < (L.length:Int)):dr (lp L) x=[L.getD x.toNat 0]:=by
 have hk:x.toNat < L.length:=by omega
 simp[dr,lp,hk]
structure Ways (L:List Int):Prop where
 one:1<=L.length
 most:L.length<=10
 ok:∀y∈L,-3<=y/\y < (L.length:Int)
theorem Ways.hs{L:List Int}(w:Ways L):Hs (lp L):=⟨by rw[ahj];exact w.one,by rw[ahj];exact w.most,fun r hr=>by
 obtain⟨y,hy,rfl⟩:=bD.mp hr;rw[ahj];exact⟨by simp,by simp,fun x hx=>by rw[bO] at hx;rw[hx];exact w.ok _ hy⟩⟩
theorem abu{qv:LL9}(h:Hs qv){as:List Int}(ha:Arr qv as):Ways (lasts qv as):=⟨by rw[nu];exact h.one,by rw[nu];exact h.most,fun y hy=>by
 rw[nu];unfold lasts at hy;obtain⟨i,hi,rfl⟩:=bD.mp hy;have hi:=cO.mp hi;obtain⟨a1,a2,a3⟩:=h.dr (x:=(i:Int)) (by omega) (by omega)
 refine a3 _ ?_;unfold ac7;have w0:0 < wd qv (i:Int):=by unfold wd;omega
 have b0:=nZ (ar as (i:Int) - 1) (show wd qv (i:Int)≠0 by omega)
 have b1:=jT (ar as (i:Int) - 1) w0;have hk:((ar as (i:Int) - 1) % wd qv (i:Int)).toNat < (dr qv (i:Int)).length:=by unfold wd at *;omega
 rw[aY,aF hk];exact dC hk⟩
section
variable{qv:LL9}(h:Hs qv){as:List Int}(ha:Arr qv as)
include h ha
theorem ako:f__law_lasts [.val (hD qv),.val (.tup (as.map D.int))]=some (.ok (.fr ((lasts qv as).map D.int)),[.val (hD qv),.val (.tup (as.map D.int))]):=by
 have e1:(f__law_lasts:Fd)=fnD 2 2 abb:=rfl;have hl:=ha.len;have hm:=h.most;have hle:(as.map D.int).length<=(hDs qv).length:=by rw[yt,aM];omega
 have comp:=abl (b:=bTup 2 (qd (cu 0) (qd (cu 1) bNil))) (mc:=ret true) (me:=aam) (fun j ys ρ=>∃(o1 o2:Sl),ρ=[o1,o2]/\ys=((aJ j).map fun(i:Nat)=>ac7 qv as (i:Int)).map D.int)
  (l:=qu (as.map D.int) (hDs qv)) (ys:=[]) (ρ:=[.emp,.emp]) 0 ⟨.emp,.emp,rfl,rfl⟩ ?_
 ·obtain⟨ys,ρ',e6,o1,o2,rfl,rfl⟩:=comp;rw[aq8 hle,aM,dY,hl] at e6;have hc:((lasts qv as).map D.int).length<=capS:=by rw[aM,nu];exact b8 (by omega)
  have hle2:as.length<=(hDs qv).length:=by simpa using hle
  change compD _ _ _ _ _ _=some (.ok ((lasts qv as).map D.int),_) at e6
  generalize (lasts qv as).map D.int=ld at *;simp only[hD];simp[f__law_lasts,abb,hle2,e6,hc]
 ·rintro j d ys ρ hd ⟨o1,o2,rfl,rfl⟩
  obtain⟨d1,d2,g1,g2,rfl⟩:=ajh hd;obtain⟨r,hr,rfl⟩:=a1n g2;rw[bB] at g1;obtain⟨a,ea,rfl⟩:=eV.mp g1;obtain⟨b0,b1⟩:=ha.ok j a r ea hr;have er:dr qv (j:Int)=r:=by unfold dr;rw[aY,cC,hr];rfl
  have e3:ar as (j:Int)=a:=by unfold ar;rw[aY,cC,ea];rfl
  have e4:=avn b0 b1;have e5:ac7 qv as ((0+j:Nat):Int)=r.getD ((a - 1) % (r.length:Int)).toNat 0:=by rw[dY];unfold ac7 wd;rw[er,e3]
  refine⟨[.val (.int a),.val (.tup (r.map D.int))],_,true,by simp,rfl,.inr ⟨rfl,.int (r.getD ((a - 1) % (r.length:Int)).toNat 0),[.val (.int a),.val (.tup (r.map D.int))],by simp[aam,e4],_,_,rfl,?_⟩⟩
  rw[aqg,bW,e5];rfl
end
def nxt(L:List Int)(p:Int):Int:=if 0<=p then L.getD p.toNat 0 else p
def itr(L:List Int)(p:Int):Nat->Int
 | 0=>p
 | t+1=>itr L (nxt L p) t
theorem ad9(L:List Int):∀(s t:Nat) (p:Int),itr L p (s+t)=itr L (itr L p s) t
 | 0,t,p=>by rw[dY];rfl
 | s+1,t,p=>by
  rw[show s+1+t=(s+t)+1 by omega]
  exact ad9 L s t (nxt L p)
theorem atv(L:List Int){p:Int}(h:p < 0):∀t:Nat,itr L p t=p
 | 0=>rfl
 | t+1=>by
  have:nxt L p=p:=if_neg (by omega)
  show itr L (nxt L p) t=p;rw[this];exact atv L h t
theorem ayw{L:List Int}(w:Ways L){p:Int}(hp:p < (L.length:Int)):nxt L p < (L.length:Int):=by
 unfold nxt;split
 ·rename_i h0;have hk:p.toNat < L.length:=by omega
  rw[aY,aF hk];exact(w.ok _ (dC hk)).2
 ·exact hp
theorem akr{L:List Int}(w:Ways L):∀(t:Nat) {p:Int},p < (L.length:Int)->itr L p t < (L.length:Int)
 | 0,_,h=>h
 | t+1,_,h=>akr w t (ayw w h)
theorem anu{L:List Int}(w:Ways L):(∃s∈upto L.length,∃t,1<=t/\t<=L.length/\itr L s t=s)↔trapI (lp L)≠[]:=by
 have tI:trapI (lp L)=(upto L.length).filter (caught (lp L)):=by unfold trapI;rw[ahj]
 constructor
 ·rintro⟨s,hs,t,t1,t2,e⟩
  have s0:=uw hs;have em:∀m:Nat,itr L s (m*t)=s:=fun m=>by
   induction m with
   | zero=>rw[Nat.zero_mul];rfl
   | succ m ih=>rw[Nat.succ_mul,ad9,ih,e]
  have hp:∀m:Nat,0<=itr L s m:=fun m=>by
   rcases jE (itr L s m) 0 with q | q
   ·exfalso;have hle:m<=m*t:=pJ m t1;have h1:=ad9 L m (m*t - m) s;rw[show m+(m*t - m)=m*t by omega,em m,atv L q] at h1
    omega
   ·exact q
  have hr:∀x,Rch (lp L) s x->∃m,x=itr L s m:=fun x hx=>by
   induction hx with
   | base=>exact⟨0,rfl⟩
   | step r h0 hd ih =>
    obtain⟨m,rfl⟩:=ih;have hl:=akr w m s0.2;rw[ax4 h0 hl,bO] at hd;refine⟨m+1,?_⟩;rw[ad9,hd];show _=nxt L (itr L s m);exact(if_pos h0).symm
  have:s∈trapI (lp L):=by
   rw[tI];refine cL.mpr ⟨hs,(jj _ _).mpr fun x hx =>?_⟩
   obtain⟨m,rfl⟩:=hr x hx;exact hp m
  exact wQ this
 ·intro hne;obtain⟨a,r,ha⟩:=List.exists_cons_of_ne_nil hne;have hm:a∈trapI (lp L):=by rw[ha];exact aP ..
  rw[tI] at hm;obtain⟨a1,a2⟩:=cL.mp hm;have a0:=uw a1;have hc:=(jj _ _).mp a2;have hr:∀m:Nat,Rch (lp L) a (itr L a m):=fun m=>by
   induction m with
   | zero=>exact .base
   | succ m ih =>
    have h0:=hc _ ih;have hl:=akr w m a0.2;rw[ad9];refine .step ih h0 ?_;rw[ax4 h0 hl,bO];show nxt L (itr L a m)=_;exact if_pos h0
  obtain⟨i,j,hij,hj,e⟩:=pig (fun m=>itr L a m) L.length fun m _=>⟨hc _ (hr m),akr w m a0.2⟩
  have hi0:=hc _ (hr i);have hi1:=akr w i a0.2;refine⟨itr L a i,?_,j - i,by omega,by omega,?_⟩
  ·unfold upto;exact bD.mpr ⟨(itr L a i).toNat,cO.mpr (by omega),by omega⟩
  ·rw[<-ad9,show i+(j - i)=j by omega]
   exact e.symm
section
variable{L:List Int}(w:Ways L)
include w
theorem auh{s:Int}(hs:0<=s):∀(l:List D) (p:Int) (o:Sl),p < (L.length:Int) ->
  ((∃t,1<=t/\t<=l.length/\itr L p t=s)/\∃ρ,forD (cu 3) oh l [.val (.lst (L.map D.int)),.val (.int s),.val (.int p),o]=some (.ret (.v (.bl false)),.val (.lst (L.map D.int))::ρ)) ∨
  ((∀t,1<=t->t<=l.length->itr L p t≠s)/\∃q o',forD (cu 3) oh l [.val (.lst (L.map D.int)),.val (.int s),.val (.int p),o]=some (.nx,[.val (.lst (L.map D.int)),.val (.int s),.val (.int q),o']))
 | [],p,o,hp=>.inr ⟨fun t a b=>by simp at b;omega,p,o,rfl⟩
 | d::r,p,o,hp=>by
  by_cases hq:0<=p/\nxt L p=s
  ·obtain⟨h0,hq⟩:=hq;have e:=adq (ns:=L) h0 hp;have en:nxt L p=L.getD p.toNat 0:=if_pos h0;rw[<-en,hq] at e;refine .inl ⟨⟨1,by omega,by simp,hq⟩,[.val (.int s),.val (.int s),.val d],?_⟩
   generalize L.map D.int=LL at *;simp[jl,oh,h0,e]
  ·have one:oh [.val (.lst (L.map D.int)),.val (.int s),.val (.int p),.val d]=some (.nx,[.val (.lst (L.map D.int)),.val (.int s),.val (.int (nxt L p)),.val d]):=by
    by_cases h0:0<=p
    ·have e:=adq (ns:=L) h0 hp;have en:nxt L p=L.getD p.toNat 0:=if_pos h0;rw[<-en] at e;have hne:¬nxt L p=s:=fun z=>hq ⟨h0,z⟩
     generalize nxt L p=np at *;generalize L.map D.int=LL at *;simp[oh,h0,e,hne]
    ·have en:nxt L p=p:=if_neg h0;rw[en];simp[oh,h0]
   have hne:nxt L p≠s:=fun z=>by
    by_cases h0:0<=p
    ·exact hq ⟨h0,z⟩
    ·have en:nxt L p=p:=if_neg h0;omega
   rcases auh hs r (nxt L p) (.val d) (ayw w hp) with⟨⟨t,t1,t2,t3⟩,ρ,z⟩ | ⟨z1,q,o',z⟩
   ·refine .inl ⟨⟨t+1,by omega,by simp;omega,t3⟩,ρ,?_⟩
    generalize nxt L p=np at *;generalize L.map D.int=LL at *;rw[jl];simp[one,z]
   ·refine .inr ⟨fun t a b =>?_,q,o',?_⟩
    ·cases t with
     | zero=>omega
     | succ t =>
      cases t with
      | zero=>exact hne
      | succ t=>exact z1 (t+1) (by omega) (by simp at b;omega)
    ·generalize nxt L p=np at *;generalize L.map D.int=LL at *;rw[jl];simp[one,z]
theorem axu{s:Int}(hs:0<=s)(h1:s < (L.length:Int))(o1 o2:Sl) :
  ((∃t,1<=t/\t<=L.length/\itr L s t=s)/\∃ρ,l2__law_free [.val (.lst (L.map D.int)),.val (.int s),o1,o2]=some (.ret (.v (.bl false)),.val (.lst (L.map D.int))::ρ)) ∨
  ((∀t,1<=t->t<=L.length->itr L s t≠s)/\∃q1 q2,l2__law_free [.val (.lst (L.map D.int)),.val (.int s),o1,o2]=some (.nx,[.val (.lst (L.map D.int)),.val (.int s),q1,q2])):=by
 have hm:=w.most;have hb:L.length < 4611686018427387904:=by omega
 have rl:(rangeD 0 L.length).length=L.length:=by simp[rangeD]
 have hl:(L.map D.int).length=L.length:=aM ..
 rcases auh w hs (rangeD 0 L.length) s o2 h1 with⟨c,ρ,z⟩ | ⟨c,q,o',z⟩
 ·rw[rl] at c;refine .inl ⟨c,ρ,?_⟩;generalize L.map D.int=LL at *;simp[l2__law_free,hl,hb,z]
 ·rw[rl] at c;refine .inr ⟨c,.val (.int q),o',?_⟩;generalize L.map D.int=LL at *;simp[l2__law_free,hl,hb,z]
theorem aor:∀(ss:List Int) (o1 o2 o3:Sl),(∀s∈ss,0<=s/\s < (L.length:Int)) ->
  ((∃s∈ss,∃t,1<=t/\t<=L.length/\itr L s t=s)/\∃ρ,forD (cu 1) l2__law_free (ss.map D.int) [.val (.lst (L.map D.int)),o1,o2,o3]=some (.ret (.v (.bl false)),.val (.lst (L.map D.int))::ρ)) ∨
  ((¬ ∃s∈ss,∃t,1<=t/\t<=L.length/\itr L s t=s)/\∃ρ,forD (cu 1) l2__law_free (ss.map D.int) [.val (.lst (L.map D.int)),o1,o2,o3]=some (.nx,.val (.lst (L.map D.int))::ρ))
 | [],o1,o2,o3,_=>.inr ⟨fun⟨_,hs,_⟩=>absurd hs eQ,[o1,o2,o3],rfl⟩
 | s::r,o1,o2,o3,hs=>by
  have s0:=hs s (aP ..);rcases axu w s0.1 s0.2 o2 o3 with⟨c,ρ,z⟩ | ⟨c,q1,q2,z⟩
  ·refine .inl ⟨⟨s,aP ..,c⟩,ρ,?_⟩;generalize L.map D.int=LL at *;rw[aW,jl];simp[z]
  ·rcases aor r (.val (.int s)) q1 q2 fun x hx=>hs x (aL _ hx) with⟨⟨x,hx,c2⟩,ρ,z2⟩ | ⟨c2,ρ,z2⟩
   ·refine .inl ⟨⟨x,aL _ hx,c2⟩,ρ,?_⟩;generalize L.map D.int=LL at *;rw[aW,jl];simp[z,z2]
   ·refine .inr ⟨fun⟨x,hx,t,t1,t2,t3⟩ =>?_,ρ,?_⟩
    ·rcases bF.mp hx with rfl | hx
     ·exact c t t1 t2 t3
     ·exact c2 ⟨x,hx,t,t1,t2,t3⟩
    ·generalize L.map D.int=LL at *;rw[aW,jl];simp[z,z2]
theorem free_eq:um [.val (.lst (L.map D.int))]=some (.ok (.v (.bl (decide (trapI (lp L)=[])))),[.val (.lst (L.map D.int))]):=by
 have hm:=w.most;have hb:L.length < 4611686018427387904:=by omega
 have hl:(L.map D.int).length=L.length:=aM ..
 have er:=ue L.length;rcases aor w (upto L.length) .emp .emp .emp fun s hs=>uw hs with⟨c,ρ,z⟩ | ⟨c,ρ,z⟩
 ·rw[decide_eq_false ((anu w).mp c)];rw[<-er] at z;generalize L.map D.int=LL at *;simp[um,ack,hl,hb,z]
 ·have:trapI (lp L)=[]:=bH fun q=>c ((anu w).mpr q)
  rw[decide_eq_true this];rw[<-er] at z;generalize L.map D.int=LL at *;simp[um,ack,hl,hb,z]
end
theorem af4:∀{a b:List Int},a.map D.int=b.map D.int->a=b
 | [],[],_=>rfl
 | [],_::_,h=>by cases h
 | _::_,[],h=>by cases h
 | x::r,y::t,h=>by
  rw[aW,aW,yV,D.int.injEq] at h;rw[h.1,af4 h.2]
def tD(s:List Int):D:=.tup (s.map D.int)
theorem arx{a b:List Int}(h:tD a=tD b):a=b:=af4 (D.tup.inj h)
def ext1(s r:List Int):LL9:=(aJ r.length).map fun(i:Nat)=>s++[(i:Int)]
def exts(acc:LL9)(r:List Int):LL9:=acc.flatMap fun s=>ext1 s r
def alls(qv:LL9):LL9:=qv.foldl exts [[]]
theorem ae2{acc:LL9}{r u:List Int}:u∈exts acc r↔∃s∈acc,∃i:Nat,i < r.length/\u=s++[(i:Int)]:=by
 unfold exts ext1;rw[sO];constructor
 ·rintro⟨s,hs,hu⟩
  obtain⟨i,hi,rfl⟩:=bD.mp hu;exact⟨s,hs,i,cO.mp hi,rfl⟩
 ·rintro⟨s,hs,i,hi,rfl⟩
  exact⟨s,hs,bD.mpr ⟨i,cO.mpr hi,rfl⟩⟩
theorem ai2{W:Nat}{acc:LL9}{r:List Int}(hr:r.length<=W):(exts acc r).length<=W*acc.length:=by
 unfold exts ext1
 induction acc with
 | nil=>exact gQ _
 | cons s t ih =>
  rw[lB,bM,aM,iC,bN,vH];omega
theorem aph:∀(qv pre:LL9) (acc:LL9),(∀s∈acc,Arr pre s)->∀s∈qv.foldl exts acc,Arr (pre++qv) s
 | [],pre,acc,hm=>by rw[gM];exact hm
 | r::rest,pre,acc,hm=>by
  have step:∀s∈exts acc r,Arr (pre++[r]) s:=fun s=>by
   rw[ae2]
   rintro⟨u,hu,i,hi,rfl⟩
   have au:=hm u hu;refine⟨by rw[bM,bM,au.len];rfl,fun j a q g1 g2 =>?_⟩
   rcases iB j u.length with z | z
   ·rw[bZ z] at g1;rw[bZ (by rw[<-au.len];exact z)] at g2
    exact au.ok j a q g1 g2
   ·have hj:j=u.length:=by
     have:=(aK.mp g1).1;rw[bM] at this;simp at this;omega
    rw[eE z,hj,rT] at g1;rw[eE (by rw[<-au.len];exact z),hj,au.len,rT] at g2
    have g1:(i:Int)=a:=by simpa using g1
    have g2:r=q:=by simpa using g2
    subst g1 g2;omega
  have:=aph rest (pre++[r]) (exts acc r) step;rw[cB] at this;exact this
theorem anj(qv:LL9):∀s∈alls qv,Arr qv s:=by
 have:=aph qv [] [[]] fun s hs=>by
  rw[bO] at hs;subst hs;exact⟨rfl,fun i a r g1 _=>by simp at g1⟩
 rw[aZ] at this;exact this
theorem all1(H F o4':Sl)(r s:List Int)(MM:List D)(hr:r.length<=6)(hs:s.length<=10)(hM:MM.length<=900):j6 [H,F,.val (.tup (r.map D.int)),.own none MM,.val (tD s)]=some (.nx,[H,F,.val (.tup (r.map D.int)),.own none (MM++(ext1 s r).map tD),.val (tD s)]):=by
 have hb:r.length < 4611686018427387904:=by omega
 have ec:compD (cu 0) (ret true) ur (rangeD 0 r.length) [] [.emp,.val (.tup (s.map D.int))]=some (.ok ((ext1 s r).map tD),xf .emp (rangeD 0 r.length)::[.val (.tup (s.map D.int))]):=by
  have hc:(s.map D.int).length+1<=capS:=by rw[aM];exact b8 (by omega)
  rw[ue,lw (f:=fun d=>.tup (s.map D.int++[d]))]
  ·unfold ext1 upto tD;rw[bY,bY,bY];simp[jB]
  ·intro d hd;generalize s.map D.int=ss at *;simp[ur,hc]
 have hl:((ext1 s r).map tD).length=r.length:=by simp[ext1]
 have hc1:((ext1 s r).map tD).length<=capS:=b8 (by omega)
 have hc2:MM.length+((ext1 s r).map tD).length<=capS:=b8 (by omega)
 have hrl:(r.map D.int).length=r.length:=aM ..
 show j6 [H,F,.val (.tup (r.map D.int)),.own none MM,.val (.tup (s.map D.int))]=some (.nx,[H,F,.val (.tup (r.map D.int)),.own none (MM++(ext1 s r).map tD),.val (.tup (s.map D.int))]);generalize (ext1 s r).map tD=EE at *;generalize s.map D.int=ss at *;generalize r.map D.int=rr at *;simp[j6,hrl,hb,ec,hc1,hc2]
theorem all2(H F:Sl){W:Nat}(hW:W<=6)(r:List Int)(hr:r.length<=W):∀(acc:LL9) (MM:List D) (o4:Sl),(∀s∈acc,s.length<=10)->MM.length+W*acc.length<=900->∃q4,forD (cu 4) j6 (acc.map tD) [H,F,.val (.tup (r.map D.int)),.own none MM,o4]=some (.nx,[H,F,.val (.tup (r.map D.int)),.own none (MM++(exts acc r).map tD),q4])
 | [],MM,o4,_,_=>⟨o4,by unfold exts;simp[forD]⟩
 | s::acc,MM,o4,hs,hM=>by
  rw[bN,vH] at hM;have hl:((ext1 s r).map tD).length=r.length:=by simp[ext1]
  have e1:=all1 H F o4 r s MM (by omega) (hs s (aP ..)) (by omega)
  obtain⟨q4,e2⟩:=all2 H F hW r hr acc (MM++(ext1 s r).map tD) (.val (tD s)) (fun u hu=>hs u (aL _ hu)) (by rw[bM,hl];omega)
  refine⟨q4,?_⟩;have e3:(exts (s::acc) r).map tD=(ext1 s r).map tD++(exts acc r).map tD:=by
   unfold exts;rw[lB,bW]
  rw[aW,jl,e3,<-cB];generalize r.map D.int=rr at *;simp[e1,e2]
theorem all3(H:Sl){W:Nat}(hW:W<=6)(hW1:1<=W):∀(qv:LL9) (acc:LL9) (S o2 o3 o4:Sl) (n:Nat),(S=.own none (acc.map tD)∨S=.val (.lst (acc.map tD)))->(∀r∈qv,r.length<=W)->(∀s∈acc,s.length<=n)->n+qv.length<=10->acc.length*W ^ qv.length<=100->∃S' q2 q3 q4,(S'=.own none ((qv.foldl exts acc).map tD)∨S'=.val (.lst ((qv.foldl exts acc).map tD)))/\forD (cu 2) jq (hDs qv) [H,S,o2,o3,o4]=some (.nx,[H,S',q2,q3,q4])
 | [],acc,S,o2,o3,o4,n,hS,_,_,_,_=>⟨S,o2,o3,o4,hS,rfl⟩
 | r::rest,acc,S,o2,o3,o4,n,hS,hr,hs,hn,hl=>by
  rw[bN] at hn hl;have hr3:=hr r (aP ..);have hx:=ai2 (acc:=acc) hr3;have p3:1<=W ^ rest.length:=zH _ _ (by omega)
  have ep:acc.length*W ^ (rest.length+1)=W*acc.length*W ^ rest.length:=by
   rw[rW,<-pI,lO (acc.length*W ^ rest.length) W,pI]
  rw[ep] at hl;have hacc:W*acc.length<=W*acc.length*W ^ rest.length:=pJ _ p3;obtain⟨q4,e1⟩:=all2 H (.val (.lst (acc.map tD))) hW r hr3 acc [] o4 (fun s h=>by have:=hs s h;omega) (by rw[qG];omega)
  rw[aZ] at e1;have e2:jq [H,S,.val (.tup (r.map D.int)),o3,o4]=some (.nx,[H,.val (.lst ((exts acc r).map tD)),.val (.tup (r.map D.int)),.val (.lst ((exts acc r).map tD)),q4]):=by
   generalize (exts acc r).map tD=EE at *;generalize acc.map tD=AA at *;generalize r.map D.int=rr at *;rcases hS with rfl | rfl
   ·simp[jq,e1]
   ·simp[jq,e1]
  obtain⟨S',q2,q3,q5,hS',e3⟩:=all3 H hW hW1 rest (exts acc r) (.val (.lst ((exts acc r).map tD))) (.val (.tup (r.map D.int))) (.val (.lst ((exts acc r).map tD))) q4 (n+1) (.inr rfl) (fun q hq=>hr q (aL _ hq)) (fun u hu=>by
   obtain⟨s,hs1,i,_,rfl⟩:=ae2.mp hu;have:=hs s hs1;rw[bM];simp;omega) (by omega) (cR (qQ _ hx) hl)
  refine⟨S',q2,q3,q5,hS',?_⟩;have eh:hDs (r::rest)=.tup (r.map D.int)::hDs rest:=rfl;rw[eh,jl];generalize (exts acc r).map tD=EE at *;generalize r.map D.int=rr at *;simp[e2,e3]
open Classical in
theorem ak2(P:List Int->Prop)(l:LL9):(l.map tD).filter (fun d=>decide (∃s,d=tD s/\P s))=(l.filter fun s=>decide (P s)).map tD:=by
 rw[tM]
 congr 1
 apply oZ;intro s _;show decide (∃s',tD s=tD s'/\P s')=decide (P s)
 refine decide_eq_decide.mpr ⟨?_,fun hp=>⟨s,rfl,hp⟩⟩
 rintro⟨s',e,hp⟩
 rw[arx e];exact hp
noncomputable def frees(qv:LL9):LL9:=(alls qv).filter fun s=>decide (trapI (lp (lasts qv s))=[])
theorem ayj{W n:Nat}{qv:LL9}(hW1:1<=W)(hw:∀r∈qv,r.length<=W)(hn:qv.length<=n):(alls qv).length<=W ^ n:=by
 have:∀(rs:LL9) (acc:LL9),(∀r∈rs,r.length<=W)->(rs.foldl exts acc).length<=acc.length*W ^ rs.length:=fun rs=>by
  induction rs with
  | nil=>intro acc _;simp
  | cons r t ih =>
   intro acc hr;have h1:=ih (exts acc r) fun q hq=>hr q (aL _ hq)
   have h2:=ai2 (acc:=acc) (hr r (aP ..));rw[mF,bN,rW];refine cR h1 (cR (qQ _ h2) ?_);rw[lO W,pI,lO W];exact aN _
 have h1:=this qv [[]] hw;have h2:W ^ qv.length<=W ^ n:=lG hW1 hn;unfold alls;have h4:[([]:List Int)].length=1:=rfl;rw[h4,Nat.one_mul] at h1;omega
section
variable{qv:LL9}(h:Hs qv){W n:Nat}(hW:W<=6)(hW1:1<=W)(hw:∀r∈qv,r.length<=W)(hn:qv.length<=n)(hp:W ^ n<=100)
include h hW hW1 hw hn hp
theorem alw:jk [.val (hD qv)]=some (.ok (.fr ((frees qv).map tD)),[.val (hD qv)])/\(frees qv).length<=100:=by
 have hm:=h.most;have h2:W ^ qv.length<=W ^ n:=lG hW1 hn;obtain⟨S',q2,q3,q4,hS',e1⟩:=all3 (.val (hD qv)) hW hW1 qv [[]] (.own none [.tup []]) .emp .emp .emp 0 (.inl rfl) hw (fun s hs=>by rw[bO] at hs;rw[hs];exact aN _) (by omega) (by
  have h4:[([]:List Int)].length=1:=rfl;rw[h4];omega)
 have ec:∀{s0:Sl},compD (cu 0) qb uq ((alls qv).map tD) [] [s0,.val (hD qv)]=some (.ok ((frees qv).map tD),xf s0 ((alls qv).map tD)::[.val (hD qv)]):=fun{s0}=>by
  classical
  rw[qt (p:=fun d=>decide (∃s,d=tD s/\trapI (lp (lasts qv s))=[])) (f:=id)]
  ·rw[vY,aZ,ak2];unfold frees
   congr
   funext s
   exact decide_eq_decide.mpr Iff.rfl
  ·intro d hd;obtain⟨s,hs,rfl⟩:=bD.mp hd;have ha:=anj qv s hs;have e:=ako h ha;have e2:=free_eq (abu h ha);have ep:decide (∃s',tD s=tD s'/\trapI (lp (lasts qv s'))=[])=decide (trapI (lp (lasts qv s))=[]):=decide_eq_decide.mpr ⟨by
    rintro⟨s',e,hp⟩
    rw[arx e];exact hp,fun hp=>⟨s,rfl,hp⟩⟩
   rw[ep];show qb [.val (.tup (s.map D.int)),.val (hD qv)]=some (.ok _,[.val (.tup (s.map D.int)),.val (hD qv)]);generalize decide (trapI (lp (lasts qv s))=[])=bb at *;generalize (lasts qv s).map D.int=LL at *;generalize s.map D.int=ss at *;generalize hD qv=hh at *;cases bb <;> simp[qb,e,e2]
  ·intro d _ _;simp[uq]
 have hal:=ayj hW1 hw hn;have hfl:(frees qv).length<=100:=cR (gB _ _) (by omega)
 refine⟨?_,hfl⟩;have hc:((frees qv).map tD).length<=capS:=by
  rw[aM];exact b8 (by omega)
 have e1:forD (cu 2) jq (hDs qv) [.val (hD qv),.own none [.tup []],.emp,.emp,.emp]=some (.nx,[.val (hD qv),S',q2,q3,q4]):=e1;have eI:itemsD (hD qv)=some (hDs qv):=rfl;have hS2:S'=.own none ((alls qv).map tD)∨S'=.val (.lst ((alls qv).map tD)):=hS';generalize (frees qv).map tD=FF at *;generalize (alls qv).map tD=AA at *;simp only[hD] at *;rcases hS2 with rfl | rfl
 ·simp[jk,wk,e1,ec,hc]
 ·simp[jk,wk,e1,ec,hc]
end
def upI(r:List Int):List Int:=(aJ r.length).map fun(i:Nat)=>(i:Int)
def lz(r:List Int)(a:Int):Int:=r.getD ((a - 1) % (r.length:Int)).toNat 0
theorem ahq:∀(rs acc:LL9),rs.foldl exts acc=acc.flatMap fun s=>(picks (rs.map upI)).map fun c=>s++c
 | [],acc=>by simp[picks]
 | r::rs,acc=>by
  rw[mF,ahq rs (exts acc r)];unfold exts;rw[List.flatMap_assoc]
  congr 1
  funext s
  show(ext1 s r).flatMap _=((upI r).flatMap fun d=>(picks (rs.map upI)).map fun c=>d::c).map fun c=>s++c
  unfold ext1 upI;rw[sS,sS,yO]
  congr 1
  funext i
  rw[bY]
  congr 1
  funext c
  simp
theorem aq0(qv:LL9):alls qv=picks (qv.map upI):=by
 unfold alls;rw[ahq];simp
theorem az8(F:Int->Int)(r:List Int):((upI r).map fun a=>F (lz r a)).sum=(r.map F).sum:=by
 have e:∀l:List Int,l.map F=(aJ l.length).map fun i=>F (l.getD i 0):=fun l=>by
  apply iG;intro i;rw[bB,bB]
  by_cases hi:i < l.length
  ·rw[cQ hi,aF hi];simp[hi]
  ·rw[cG (by omega),cG (by simp;omega)]
   rfl
 rw[e r];unfold upI;rw[bY];cases hn:r.length with
 | zero=>rfl
 | succ n =>
  have e0:(fun a=>F (lz r a)) (((0:Nat):Int))=F (r.getD n 0):=by
   show F (lz r 0)=_;unfold lz;have:((0:Int) - 1) % (r.length:Int)=(r.length:Int) - 1:=by
    have:=oH ((0:Int) - 1) (r.length:Int);rw[<-this,gH (by omega) (by omega)]
    omega
   rw[this,hn]
   congr 2
   omega
  have e1:∀i,i < n->(fun a=>F (lz r a)) (((i+1:Nat)):Int)=F (r.getD i 0):=fun i hi=>by
   show F (lz r ((i+1:Nat):Int))=_;unfold lz;rw[show(((i+1:Nat):Int) - 1)=(i:Int) by omega,gH (by omega) (by omega),cC]
  have l1:((aJ (n+1)).map ((fun a=>F (lz r a))∘fun(i:Nat)=>(i:Int))).sum=F (r.getD n 0)+((aJ n).map fun i=>F (r.getD i 0)).sum:=by
   rw[vA,aW,fH,bY];have:(aJ n).map (((fun a=>F (lz r a))∘fun(i:Nat)=>(i:Int))∘Nat.succ)=(aJ n).map fun i=>F (r.getD i 0):=dO fun i hi=>e1 i (cO.mp hi)
   rw[this]
   congr 1
  rw[l1,jX,bW,yU];simp;omega
theorem ajz:∀(qv:LL9) (F:List Int->Int),((picks (qv.map upI)).map fun s=>F (qC lz qv s)).sum=((picks qv).map F).sum
 | [],F=>by simp[picks]
 | r::rs,F=>by
  show(((upI r).flatMap fun d=>(picks (rs.map upI)).map fun c=>d::c).map _).sum=((r.flatMap fun d=>(picks rs).map fun c=>d::c).map F).sum
  rw[aac,aac];have e:∀a:Int,(((picks (rs.map upI)).map fun c=>a::c).map fun s=>F (qC lz (r::rs) s)).sum=(fun d=>(((picks rs).map fun c=>d::c).map F).sum) (lz r a):=fun a=>by
   have:=ajz rs fun c=>F (lz r a::c)
   rw[bY];show _=(((picks rs).map fun c=>lz r a::c).map F).sum
   rw[bY];exact this
  have e2:=az8 (fun d=>(((picks rs).map fun c=>d::c).map F).sum) r
  rw[<-e2]
  congr 1
  exact dO fun a _=>e a
theorem akp{qv:LL9}{s:List Int}(hs:s.length=qv.length):lasts qv s=qC lz qv s:=by
 apply iG;intro i;unfold lasts;rw[bB,nF]
 by_cases hi:i < qv.length
 ·have hi2:i < s.length:=by omega
  rw[cQ hi,aF hi,aF hi2];show some (ac7 qv s (i:Int))=some (lz qv[i] s[i]);unfold ac7 wd lz ar dr;rw[cC,aY (l:=qv),aY (l:=s),aF hi,aF hi2];rfl
 ·rw[cG (by simp;omega),cG (l:=qv) (by omega)]
  rfl
theorem alc{α:Type}(p:α->Prop)[DecidablePred p]:∀l:List α,(((l.filter fun x=>decide (p x)).length:Nat):Int)=(l.map fun x=>if p x then (1:Int) else 0).sum
 | []=>rfl
 | x::l=>by
  rw[aW,fH,<-alc p l,lL]
  by_cases q:p x
  ·simp[q];omega
  ·simp[q]
theorem abx{qv:LL9}(h:Hs qv)(hop:trapI qv=[])(c:Rw):(((frees qv).length:Nat):Int)=botm qv c:=by
 rw[tree h hop c];unfold frees;rw[alc fun s=>trapI (lp (lasts qv s))=[]]
 have:=ajz qv fun v=>if trapI (ch v)=[] then (1:Int) else 0
 rw[<-this,aq0]
 congr 1
 apply dO;intro s hs;have hl:=(afw hs).1;rw[aM] at hl;rw[akp hl];rfl
theorem axt(neg:Bool)(a b:List Int):gEq neg (.lst (a.map D.int)) (.lst (b.map D.int))=some (.v (.bl (if neg then !decide (a=b) else decide (a=b)))):=by
 have h1:okD 30 (.lst (a.map D.int))=true:=aem 29 a;have h2:okD 30 (.lst (b.map D.int))=true:=aem 29 b;have h3:eqD (.lst (a.map D.int)) (.lst (b.map D.int))=decide (a=b):=by
  rw[<-ai5];exact am6 _ _
 simp only[gEq,h1,h2,h3];rfl
theorem at0(x:D)(l:List D):atI (x::l) 0=some x:=by simp[atI,ixN]
theorem ato(i:Int):qp [.val (.exn "NotOpen" [("room", i)])]=some (.ok (.v (.str "open")),[.val (.exn "NotOpen" [("room", i)])]):=by kernel_rfl
theorem a08:("NotOpen" : Str)∈NS:=dZ.mp (by decide +kernel)
section
variable{qv:LL9}(h:Hs qv)
include h
theorem awy{i:Int}{r:List Int}(ht:trapI qv=i::r):gn [.val (hD qv)]=some (.exc ⟨"NotOpen", [("room", i)]⟩,[.val (hD qv)]):=by
 have q:=al0 h;rw[ht,aW] at q;have e3:gEq true (.tup (D.int i::r.map D.int)) (.tup [])=some (.v (.bl true)):=aiz true (i::r) [];have a0:atI (D.int i::r.map D.int) 0=some (.int i):=at0 _ _;generalize hD qv=hh at *;generalize r.map D.int=rr at *;simp[gn,ug,acq,dM,q,e3,a0]
theorem aqm(hop:trapI qv=[]):gn [.val (hD qv)]=some (.ok (.v .non),[.val (hD qv)]):=by
 have q:=al0 h;rw[hop] at q;have e3:gEq true (.tup []) (.tup [])=some (.v (.bl false)):=aiz true [] [];simp[gn,ug,q,e3]
end
def fo(r:Int)(L:List Int)(x:Int):Int:=if 0<=x then L.getD x.toNat 0 else r
def itF(r:Int)(L:List Int)(x:Int):Nat->Int
 | 0=>x
 | m+1=>itF r L (fo r L x) m
theorem at5(r:Int)(L:List Int):∀(s t:Nat) (x:Int),itF r L x (s+t)=itF r L (itF r L x s) t
 | 0,t,x=>by rw[dY];rfl
 | s+1,t,x=>by
  rw[show s+1+t=(s+t)+1 by omega]
  exact at5 r L s t (fo r L x)
theorem ae4(r:Int)(L:List Int)(x:Int)(m:Nat):itF r L x (m+1)=fo r L (itF r L x m):=at5 r L m 1 x
def InN(L:List Int)(x:Int):Prop := -3<=x/\x < (L.length:Int)
def aq6(r:Int)(L:List Int)(p:Int):Prop:=∀x,InN L x->∃m,itF r L x m=p
section
variable{L:List Int}(w:Ways L){r:Int}(r0:0<=r)(r1:r < (L.length:Int))
include w r0 r1
theorem a90{x:Int}(hx:InN L x):InN L (fo r L x):=by
 unfold fo;split
 ·rename_i h0;have hk:x.toNat < L.length:=by have:=hx.2;omega
  rw[aY,aF hk];exact w.ok _ (dC hk)
 ·exact⟨by omega,r1⟩
theorem at4:∀(m:Nat) {x:Int},InN L x->InN L (itF r L x m)
 | 0,_,h=>h
 | m+1,_,h=>at4 m (a90 w r0 r1 h)
theorem azb{p d:Int}(p0:0<=p)(p1:p < (L.length:Int))(x:Int):fo r (L.set p.toNat d) x=if x=p then d else fo r L x:=by
 unfold fo
 by_cases hx:x=p
 ·subst hx;have hk:x.toNat < L.length:=by omega
  rw[if_pos p0,if_pos rfl,aY,bJ];simp[hk]
 ·rw[if_neg hx]
  by_cases h0:0<=x
  ·have:p.toNat≠x.toNat:=by omega
   rw[if_pos h0,if_pos h0,aY,bJ,if_neg this,<-aY]
  ·rw[if_neg h0,if_neg h0]
theorem atz{p d:Int}(p0:0<=p)(p1:p < (L.length:Int)):∀(m:Nat) {x:Int},(∀i < m,itF r L x i≠p)->itF r (L.set p.toNat d) x m=itF r L x m
 | 0,_,_=>rfl
 | m+1,x,h=>by
  have h0:x≠p:=h 0 (by omega)
  show itF r (L.set p.toNat d) (fo r (L.set p.toNat d) x) m=itF r L (fo r L x) m;rw[azb w r0 r1 p0 p1,if_neg h0];exact atz p0 p1 m fun i hi=>h (i+1) (by omega)
theorem aq2{p d:Int}(p0:0<=p)(p1:p < (L.length:Int))(h:aq6 r L p):aq6 r (L.set p.toNat d) d:=fun x hx=>by
 have hx:InN L x:=by unfold InN at *;rw[cZ] at hx;exact hx
 obtain⟨m0,e0⟩:=h x hx;obtain⟨m,e,hmin⟩:=least (P:=fun m=>itF r L x m=p) m0 e0
 refine⟨m+1,?_⟩;rw[ae4,atz w r0 r1 p0 p1 m hmin,e,azb w r0 r1 p0 p1,if_pos rfl]
theorem a0c{x z:Int}(hx:InN L x)(h:Rch (lp L) x z):InN L z/\∃m,itF r L x m=z:=by
 induction h with
 | base=>exact⟨hx,0,rfl⟩
 | step _ h0 hd ih =>
  obtain⟨hin,m,e⟩:=ih;rw[ax4 h0 hin.2,bO] at hd;have:fo r L (itF r L x m)=L.getD (itF r L x m).toNat 0:=if_pos (by rw[e];exact h0)
  have e2:itF r L x (m+1)=L.getD (itF r L x m).toNat 0:=by rw[ae4,this]
  rw[e] at e2;rw[hd];exact⟨by rw[<-e2];exact at4 w r0 r1 _ hx,m+1,e2⟩
theorem aq3(hf:trapI (lp L)=[]):aq6 r L r:=fun x hx=>by
 by_cases h0:0<=x
 ·have nc:caught (lp L) x≠true:=fun c=>by
   have:x∈trapI (lp L):=cL.mpr ⟨by
    unfold upto;rw[ahj];exact bD.mpr ⟨x.toNat,cO.mpr (by have:=hx.2;omega),by omega⟩,c⟩
   rw[hf] at this;cases this
  rw[Ne,jj] at nc;have:∃z,Rch (lp L) x z/\z < 0:=by
   apply bH;intro H;refine nc fun z hz =>?_
   rcases jE z 0 with q | q
   ·exact absurd ⟨z,hz,q⟩ H
   ·exact q
  obtain⟨z,hz,zn⟩:=this;obtain⟨_,m,e⟩:=a0c w r0 r1 hx hz;refine⟨m+1,?_⟩;rw[ae4,e];exact if_neg (by omega)
 ·exact⟨1,if_neg h0⟩
theorem auo{x:Int}(hx:InN L x){m:Nat}(hm:itF r L x m < 0):∃i,i<=m/\itF r L x i < 0/\∀j < i,0<=itF r L x j:=by
 obtain⟨i,hi,hmin⟩:=least (P:=fun i=>itF r L x i < 0) m hm
 refine⟨i,?_,hi,fun j hj =>?_⟩
 ·rcases iB m i with q | q
  ·exact absurd hm (hmin m q)
  ·exact q
 ·have:¬itF r L x j < 0:=hmin j hj;omega
theorem at3{x:Int}(hx:InN L x):∀m,(∀j < m,0<=itF r L x j)->Rch (lp L) x (itF r L x m)
 | 0,_=>.base
 | m+1,h=>by
  have ih:=at3 hx m fun j hj=>h j (by omega)
  have h0:=h m (by omega)
  have hin:=at4 w r0 r1 m hx;rw[ae4];refine .step ih h0 ?_;rw[ax4 h0 hin.2,bO];exact if_pos h0
theorem a2a{g:Int}(hg:g < 0)(h:aq6 r L g):trapI (lp L)=[]:=by
 unfold trapI;refine mR.mpr fun x hx hc =>?_
 rw[ahj] at hx;have hx':=uw hx;have hin:InN L x:=⟨by omega,hx'.2⟩
 obtain⟨m,e⟩:=h x hin;obtain⟨i,_,hi,hj⟩:=auo w r0 r1 hin (m:=m) (by rw[e];exact hg)
 have:=(jj (lp L) x).mp hc _ (at3 w r0 r1 hin i hj);omega
end
theorem aw2{a w:Int}(h0:0<=a)(h1:a < w):((a+1) % w - 1) % w=a:=by
 rcases jE (a+1) w with q | q
 ·rw[gH (by omega) q,show a+1 - 1=a by omega,gH h0 h1]
 ·have e0:a+1=w:=by omega
  have e:=oH (-1) w;rw[e0,Int.emod_self,show(0:Int) - 1 = -1 by omega,<-e,gH (by omega) (by omega)]
  omega
theorem akq{qv:LL9}{as:List Int}{i:Nat}(hi:i < qv.length):(lasts qv as)[i]? = some (ac7 qv as (i:Int)):=by
 unfold lasts;rw[bB,cQ hi];rfl
section
variable{qv:LL9}(h:Hs qv){bs:List Int}(hb:Arr qv bs){p:Int}(p0:0<=p)(p1:p < (qv.length:Int))
include h hb p0 p1
theorem aqi:ac7 qv (gone qv bs p) p=led qv bs p:=by
 have a:=hb.at p0 p1;have hl:=hb.len;unfold ac7 wd led;rw[aeu (by omega),aw2 a.1 a.2]
theorem aqh:lasts qv (gone qv bs p)=(lasts qv bs).set p.toNat (led qv bs p):=by
 apply iG;intro i
 by_cases hi:i < qv.length
 ·rw[akq hi,bJ]
  by_cases q:p.toNat=i
  ·rw[if_pos q,if_pos (by rw[nu];omega)]
   have:((i:Nat):Int)=p:=by omega
   rw[this,aqi h hb p0 p1]
  ·rw[if_neg q,akq hi];unfold ac7;rw[ahy (by omega) p0 (by omega)]
 ·rw[cG (by rw[nu];omega),cG (by rw[cZ,nu];omega)]
end
section
variable{qv:LL9}(h:Hs qv){as:List Int}(ha:Arr qv as){k:Int}(h0:0<=k)(h1:k < (qv.length:Int))(hf:trapI (lp (lasts qv as))=[])
include h ha h0 h1 hf
theorem aju:∀t:Nat,(∀i < t,0<=(run qv as k i).2)->aq6 k (lasts qv (run qv as k t).1) (run qv as k t).2
 | 0,_=>aq3 (abu h ha) h0 (by rw[nu];exact h1) hf
 | t+1,hp=>by
  have hp':∀i < t,0<=(run qv as k i).2:=fun i hi=>hp i (by omega)
  obtain⟨a1,a2,a3⟩:=aa2 h ha h0 h1 t hp';have ih:=aju t hp';have p0:=hp t (by omega)
  show aq6 k (lasts qv (gone qv (run qv as k t).1 (run qv as k t).2)) (led qv (run qv as k t).1 (run qv as k t).2);rw[aqh h a1 p0 a3];exact aq2 (abu h a1) h0 (by rw[nu];exact h1) p0 (by rw[nu];exact a3) ih
end
theorem a04(P:Int×Int):∃d P',f__law_odd [.own (some 0) (pen P)]=some (.ok (.v d),[.own (some 0) (pen P')])/\∀n:Nat,n<=10->qw 0 ((n:Int) - 1) d=false:=by
 obtain⟨r,P',e,h0,h1⟩:=vg P 16 (by decide) (by decide)
 have big:fPow 10 30=some 1000000000000000000000000000000:=by decide +kernel
 have hT:∃d,atI [.non,.bl true,.bl false,.int (-1),.str "1", .str "", .tup [],.lst [],.tup [.int 0],.lst [.int 0],.dct [(nR "a", .int 1)],.tup [.int 0,.int 1],.int 1000000000000000000000000000000,.tup [.tup [.int 0]],.str "ab", .tup [.tup [.int (-1)],.tup [.int 0,.int 1]]] r=some d/\∀n:Nat,n<=10->qw 0 ((n:Int) - 1) d=false:=by
  have:r=0∨r=1∨r=2∨r=3∨r=4∨r=5∨r=6∨r=7∨r=8∨r=9∨r=10∨r=11∨r=12∨r=13∨r=14∨r=15:=by omega
  have hn:∀i:Int,i < 0∨10<=i->∀n:Nat,n<=10->qw 0 ((n:Int) - 1) (.int i)=false:=fun i hi n hn=>by
   show(decide (0<=i)&&decide (i<=(n:Int) - 1))=false;rw[qL,decide_eq_false_iff_not,decide_eq_false_iff_not];omega
  rcases this with rfl | rfl | rfl | rfl | rfl | rfl | rfl | rfl | rfl | rfl | rfl | rfl | rfl | rfl | rfl | rfl
  ·exact⟨_,rfl,fun _ _=>rfl⟩
  ·exact⟨_,rfl,fun _ _=>rfl⟩
  ·exact⟨_,rfl,fun _ _=>rfl⟩
  ·exact⟨_,rfl,hn _ (by decide)⟩
  ·exact⟨_,rfl,fun _ _=>rfl⟩
  ·exact⟨_,rfl,fun _ _=>rfl⟩
  ·exact⟨_,rfl,fun _ _=>rfl⟩
  ·exact⟨_,rfl,fun _ _=>rfl⟩
  ·exact⟨_,rfl,fun _ _=>rfl⟩
  ·exact⟨_,rfl,fun _ _=>rfl⟩
  ·exact⟨_,rfl,fun _ _=>rfl⟩
  ·exact⟨_,rfl,fun _ _=>rfl⟩
  ·exact⟨_,rfl,hn _ (by decide)⟩
  ·exact⟨_,rfl,fun _ _=>rfl⟩
  ·exact⟨_,rfl,fun _ _=>rfl⟩
  ·exact⟨_,rfl,fun _ _=>rfl⟩
 obtain⟨T,eT,t⟩:=hT;have hc:(16:Nat)<=capS:=by decide
 exact⟨T,P',by simp[f__law_odd,aho,e,big,eT,hc],t⟩
section
variable{qv:LL9}(h:Hs qv)
include h
theorem ag6(hop:trapI qv=[]):rn [.val (.lst (mtD qv.length qv.length (dsq qv)))]=some (.ok (.v (.int (botm qv fun _=>0))),[.val (.lst (mtD qv.length qv.length (dsq qv)))]):=by
 have hm:=h.most;have e:=ar4 h hop fun _=>0
 have er:((aJ qv.length).map fun _=>D.int 0)=aV qv.length (D.int 0):=by
  rw[List.map_const'];simp
 rw[er] at e;have ml:=uf qv.length qv.length (dsq qv);have hc:qv.length<=capS:=b8 (by omega)
 have hb:qv.length < 9223372036854775808:=by omega
 have a1:∀x y:D,atI [x,y] 1=some y:=fun x y=>by simp[atI,ixN]
 generalize (aJ qv.length).map (fun i=>D.int (tops qv (fun _=>0) i))=TT at *
 generalize botm qv (fun _=>0)=bb at *
 generalize mtD qv.length qv.length (dsq qv)=MM at *;simp[rn,ada,ml,hc,hb,e,a1,isN]
theorem ajg(hop:trapI qv=[]):jb [.val (hD qv)]=some (.ok (.v (.int (botm qv fun _=>0))),[.val (hD qv)]):=by
 have e1:=aqm h hop;have e2:=agp h;have e3:=ag6 h hop;generalize mtD qv.length qv.length (dsq qv)=MM at *;generalize botm qv (fun _=>0)=bb at *
 generalize hD qv=hh at *;simp[jb,aba,e1,e2,e3]
theorem a1j:abe [.val (hD qv)]=some (.ok (.v (.bl (decide (trapI qv=[])))),[.val (hD qv)]):=by
 have q:=al0 h;have e:=aiz false (trapI qv) [];have e:gEq false (.tup ((trapI qv).map D.int)) (.tup [])=_:=e;generalize (trapI qv).map D.int=tt at *;generalize hD qv=hh at *;simp[abe,aky,q,e]
end
def mixB:LL9->List Int->LL9
 | r::rs,a::s=>[lz r a]::mixB rs s
 | rs,[]=>rs
 | [],_::_=>[]
theorem abq(rs:LL9):mixB rs []=rs:=by cases rs <;> rfl
theorem yl:∀(rs:LL9) (s:List Int),(mixB rs s).length=rs.length
 | r::rs,a::s=>by show(mixB rs s).length+1=_;rw[yl rs s];rfl
 | rs,[]=>by rw[abq]
 | [],_::_=>rfl
theorem an6:∀(rs:LL9) (s:List Int),s.length=rs.length->mixB rs s=lp (qC lz rs s)
 | r::rs,a::s,h=>by
  show[lz r a]::mixB rs s=_;rw[an6 rs s (Nat.succ.inj h)];rfl
 | [],[],_=>rfl
 | r::rs,[],h=>by cases h
 | [],_::_,h=>by cases h
def prB(rs:LL9)(s:List Int):LL9:=(mixB rs s).take s.length
theorem aki:∀(rs:LL9) (s:List Int),s.length<=rs.length->(mixB rs s).drop s.length=rs.drop s.length
 | r::rs,a::s,h=>aki rs s (Nat.le_of_succ_le_succ h)
 | rs,[],_=>by rw[abq]
 | [],_::_,h=>by cases h
def Beg(rs:LL9)(s:List Int):Prop:=s.length<=rs.length/\∀(i:Nat) (a:Int) (r:List Int),s[i]? = some a->rs[i]? = some r->0<=a/\a < (r.length:Int)
theorem Beg.tail{r:List Int}{rs:LL9}{a:Int}{s:List Int}(h:Beg (r::rs) (a::s)):Beg rs s:=⟨Nat.le_of_succ_le_succ h.1,fun i b q g1 g2=>h.2 (i+1) b q g1 g2⟩
theorem Beg.head{r:List Int}{rs:LL9}{a:Int}{s:List Int}(h:Beg (r::rs) (a::s)):0<=a/\a < (r.length:Int):=h.2 0 a r rfl rfl
theorem Arr.beg{pre rest:LL9}{s:List Int}(h:Arr pre s):Beg (pre++rest) s:=⟨by rw[h.len,bM];omega,fun i a r g1 g2=>by
 have hi:i < s.length:=(aK.mp g1).1;rw[bZ (by rw[<-h.len];exact hi)] at g2
 exact h.ok i a r g1 g2⟩
theorem ay0{r:List Int}{a:Int}(h0:0<=a)(h1:a < (r.length:Int)):lz r a∈r:=by
 unfold lz;have hp:0 < (r.length:Int):=by omega
 have e1:=nZ (a - 1) (show(r.length:Int)≠0 by omega)
 have e2:=jT (a - 1) hp;have hk:((a - 1) % (r.length:Int)).toNat < r.length:=by omega
 rw[aY,aF hk];exact dC hk
theorem an3:∀(rs:LL9) (s:List Int),Beg rs s->∀i:Nat,i < rs.length->(mixB rs s).getD i []≠[]/\(∀x∈(mixB rs s).getD i [],x∈rs.getD i [])∨(mixB rs s).getD i []=rs.getD i []
 | r::rs,a::s,h,0,_=>.inl ⟨by show[lz r a]≠[];simp,fun x hx=>by
   have hx:x∈[lz r a]:=hx;rw[bO] at hx;rw[hx];exact ay0 h.head.1 h.head.2⟩
 | r::rs,a::s,h,i+1,hi=>an3 rs s h.tail i (Nat.lt_of_succ_lt_succ hi)
 | rs,[],_,i,_=>.inr (by rw[abq])
 | [],_::_,h,_,_=>by have:=h.1;simp at this
theorem an4:∀(rs:LL9) (s:List Int),Beg rs s->∀q∈mixB rs s,q∈rs∨∃r∈rs,∃x∈r,q=[x]
 | r::rs,a::s,h,q,hq=>by
  rcases bF.mp (show q∈[lz r a]::mixB rs s from hq) with z | z
  ·exact .inr ⟨r,aP ..,_,ay0 h.head.1 h.head.2,z⟩
  ·rcases an4 rs s h.tail q z with y | ⟨r',hr,y⟩
   ·exact .inl (aL _ y)
   ·exact .inr ⟨r',aL _ hr,y⟩
 | rs,[],_,q,hq=>.inl (by rwa[abq] at hq)
 | [],_::_,h,_,_=>by have:=h.1;simp at this
theorem a1e{qv:LL9}(h:Hs qv){s:List Int}(b:Beg qv s):Hs (mixB qv s):=⟨by rw[yl];exact h.one,by rw[yl];exact h.most,fun q hq=>by
 rw[yl];rcases an4 qv s b q hq with z | ⟨r,hr,x,hx,rfl⟩
 ·exact h.room q z
 ·refine⟨Nat.le_refl 1,(by decide:(1:Nat)<=6),fun y hy =>?_⟩
  rw[bO] at hy;rw[hy];exact(h.room r hr).2.2 x hx⟩
theorem Rch.more{A B:LL9}(hs:∀x:Int,∀d∈dr A x,d∈dr B x){a x:Int}(h:Rch A a x):Rch B a x:=by
 induction h with
 | base=>exact .base
 | step _ h0 hd ih=>exact .step ih h0 (hs _ _ hd)
theorem an1(qv:LL9):trapI qv=[]↔∀a,0<=a->a < (qv.length:Int)->∃x,Rch qv a x/\x < 0:=by
 constructor
 ·intro h a a0 a1;apply bH;intro H;have hc:caught qv a=true:=(jj qv a).mpr fun x hx=>by
   rcases jE x 0 with q | q
   ·exact absurd ⟨x,hx,q⟩ H
   ·exact q
  unfold trapI at h;have:=mR.mp h a (bD.mpr ⟨a.toNat,cO.mpr (by omega),by omega⟩)
  exact this hc
 ·intro h;exact aex h
theorem as3{A B:LL9}(hl:A.length=B.length)(hs:∀x:Int,∀d∈dr A x,d∈dr B x)(h:trapI A=[]):trapI B=[]:=(an1 B).mpr fun a a0 a1=>by
 obtain⟨x,hx,x0⟩:=(an1 A).mp h a a0 (by rw[hl];exact a1)
 exact⟨x,hx.more hs,x0⟩
theorem an5:∀(rs:LL9) (s t:List Int),Beg rs (s++t)->∀i:Nat,∀d∈(mixB rs (s++t)).getD i [],d∈(mixB rs s).getD i []
 | rs,[],t,h,i,d,hd=>by
  rw[aZ] at hd h;rw[abq]
  by_cases q:i < rs.length
  ·rcases an3 rs t h i q with⟨_,z⟩ | z
   ·exact z d hd
   ·rwa[z] at hd
  ·rw[aY,cG (by rw[yl];omega)] at hd
   cases hd
 | r::rs,a::s,t,h,0,d,hd=>hd
 | r::rs,a::s,t,h,i+1,d,hd=>an5 rs s t h.tail i d hd
 | [],_::_,t,h,_,_,_=>by have:=h.1;simp at this
theorem axn{qv:LL9}{s t:List Int}(b:Beg qv (s++t))(h:trapI (mixB qv (s++t))=[]):trapI (mixB qv s)=[] :=
 as3 (by rw[yl,yl]) (fun x d hd=>an5 qv s t b x.toNat d hd) h
theorem agv:∀(rs:LL9) (s:List Int) (ys:List D) (o1 o2:Sl),Beg rs s->∃q1 q2,compD (bTup 2 (qd (cu 0) (qd (cu 1) bNil))) (ret true) abh (qu (s.map D.int) (hDs rs)) ys [o1,o2]=some (.ok (ys++hDs (prB rs s)),[q1,q2])
 | rs,[],ys,o1,o2,_=>⟨o1,o2,by simp[qu,compD,prB,hDs]⟩
 | [],_::_,_,_,_,h=>by have:=h.1;simp at this
 | r::rs,a::s,ys,o1,o2,h=>by
  obtain⟨q1,q2,e⟩:=agv rs s (ys++[.tup [.int (lz r a)]]) (.val (.int a)) (.val (.tup (r.map D.int))) h.tail;refine⟨q1,q2,?_⟩;have e1:qu ((a::s).map D.int) (hDs (r::rs))=.tup [.int a,.tup (r.map D.int)]::qu (s.map D.int) (hDs rs):=rfl;have e2:ys++hDs (prB (r::rs) (a::s))=ys++[.tup [.int (lz r a)]]++hDs (prB rs s):=by
   rw[cB];rfl
  have e3:=avn h.head.1 h.head.2;have e3:atI (r.map D.int) (a - 1)=some (.int (lz r a)):=e3;rw[e1,e2,<-e];generalize qu (s.map D.int) (hDs rs)=zz at *;generalize r.map D.int=rr at *;simp[compD,abh,e3]
theorem au4{l:List D}{k:Nat}(h1:k<=l.length):cutD l (some (k:Int)) none=l.drop k:=by
 unfold cutD;rw[al8 (by omega)]
 have:HT.sIx l.length l.length none=l.length:=rfl;rw[this,cC,tL h1];exact uZ (by simp)
theorem a5a{qv:LL9}(h:Hs qv){s:List Int}(b:Beg qv s):uh [.val (hD qv),.val (tD s)]=some (.ok (.v (.bl (decide (trapI (mixB qv s)=[])))),[.val (hD qv),.val (tD s)]):=by
 obtain⟨q1,q2,e1⟩:=agv qv s [] .emp .emp b;have e2:=a1j (a1e h b);have hm:=h.most;have hl:=yt qv;have hsl:=b.1;have lp':(prB qv s).length=s.length:=by unfold prB;rw[gC,yl];omega
 have c1:(hDs (prB qv s)).length<=capS:=by rw[yt,lp'];exact b8 (by omega)
 have c2:(hDs (prB qv s)).length+((hDs qv).drop s.length).length<=capS:=by rw[yt,lp',jN,hl];exact b8 (by omega)
 have e3:hDs (prB qv s)++(hDs qv).drop s.length=hDs (mixB qv s):=by
  have:hDs (mixB qv s)=hDs ((mixB qv s).take s.length)++hDs ((mixB qv s).drop s.length):=by
   unfold hDs;rw[<-bW,List.take_append_drop]
  rw[this,aki _ _ hsl];unfold hDs prB;rw[uU]
 have e4:=au4 (l:=hDs qv) (k:=s.length) (by rw[hl];exact hsl)
 have e5:((s.map D.int).length:Int)=(s.length:Int):=by rw[aM]
 have w1:(s.map D.int).length<=(hDs qv).length:=by rw[aM,hl];exact hsl
 unfold hD at e2;rw[<-e3] at e2;rw[aZ] at e1;show uh [.val (hD qv),.val (.tup (s.map D.int))]=some (.ok (.v (.bl (decide (trapI (mixB qv s)=[])))),[.val (hD qv),.val (.tup (s.map D.int))]);generalize decide (trapI (mixB qv s)=[])=bb at *;rw[<-e5] at e4;have e6:(hDs qv).drop s.length=(hDs qv).drop (s.map D.int).length:=by rw[aM]
 rw[e6] at e2 e4 c2;generalize s.map D.int=ss at *;generalize hDs (prB qv s)=pp at *;simp only[hD] at *;generalize hDs qv=hh at *;generalize List.drop ss.length hh=dd at *;simp[uh,agb,e1,c1,c2,e2,e4,w1]
noncomputable def gos(qv:LL9)(l:LL9):LL9:=l.filter fun s=>decide (trapI (mixB qv s)=[])
theorem ai3{pre rest:LL9}{r s u:List Int}(hs:Arr pre s)(hu:u∈ext1 s r):Arr (pre++[r]) u/\Beg (pre++r::rest) u:=by
 obtain⟨i,hi,rfl⟩:=bD.mp hu;have hi:=cO.mp hi;have a:Arr (pre++[r]) (s++[(i:Int)]):=⟨by rw[bM,bM,hs.len];rfl,fun j a q g1 g2=>by
  rcases iB j s.length with z | z
  ·rw[bZ z] at g1;rw[bZ (by rw[<-hs.len];exact z)] at g2
   exact hs.ok j a q g1 g2
  ·have hj:j=s.length:=by
    have:=(aK.mp g1).1;rw[bM] at this;simp at this;omega
   rw[eE z,hj,rT] at g1;rw[eE (by rw[<-hs.len];exact z),hj,hs.len,rT] at g2
   have g1:(i:Int)=a:=by simpa using g1
   have g2:r=q:=by simpa using g2
   subst g1 g2;omega⟩
 have e:pre++r::rest=(pre++[r])++rest:=by simp
 exact⟨a,by rw[e];exact a.beg⟩
theorem a1o(qv:LL9)(l:LL9):(l.map tD).filter (fun d => @decide (∃s,d=tD s/\trapI (mixB qv s)=[]) (mK _))=(gos qv l).map tD:=by
 classical
 have:=ak2 (fun s=>trapI (mixB qv s)=[]) l
 unfold gos;refine this.trans (congrArg (List.map tD) (oZ fun s _ =>?_))
 exact decide_eq_decide.mpr Iff.rfl
section
variable{qv:LL9}(h:Hs qv)
include h
theorem ago1{pre rest:LL9}{r:List Int}(er:qv=pre++r::rest){s:List Int}(hs:Arr pre s)(M1 T2 o6:Sl)(MM:List D)(hM:MM.length<=80000) :
  vd [.val (hD qv),M1,T2,.val (.tup (r.map D.int)),.own none MM,.val (tD s),o6]=some (.nx,[.val (hD qv),M1,T2,.val (.tup (r.map D.int)),.own none (MM++(gos qv (ext1 s r)).map tD),.val (tD s),.val (.lst ((ext1 s r).map tD))]):=by
 have hm:=h.most;have hr:r∈qv:=by rw[er];simp
 have hr6:=(h.room r hr).2.1;have hpl:pre.length<=10:=by rw[er] at hm;simp at hm;omega
 have hsl:=hs.len;have hb:r.length < 4611686018427387904:=by omega
 have ec:compD (cu 0) (ret true) abi (rangeD 0 r.length) [] [.emp,.val (.tup (s.map D.int))]=some (.ok ((ext1 s r).map tD),xf .emp (rangeD 0 r.length)::[.val (.tup (s.map D.int))]):=by
  have hc:(s.map D.int).length+1<=capS:=by rw[aM];exact b8 (by omega)
  rw[ue,lw (f:=fun d=>.tup (s.map D.int++[d]))]
  ·unfold ext1 upto tD;rw[bY,bY,bY];simp[jB]
  ·intro d hd;generalize s.map D.int=ss at *;simp[abi,hc]
 have ef:compD (cu 0) abm abg ((ext1 s r).map tD) [] [.emp,.val (hD qv)]=some (.ok ((gos qv (ext1 s r)).map tD),xf .emp ((ext1 s r).map tD)::[.val (hD qv)]):=by
  rw[qt (p:=fun d => @decide (∃s,d=tD s/\trapI (mixB qv s)=[]) (mK _)) (f:=id)]
  ·rw[vY,aZ,a1o]
  ·intro d hd;obtain⟨u,hu,rfl⟩:=bD.mp hd;have b:Beg qv u:=by rw[er];exact(ai3 hs hu).2
   have e:=a5a h b;have ep : @decide (∃s',tD u=tD s'/\trapI (mixB qv s')=[]) (mK _)=decide (trapI (mixB qv u)=[]):=decide_eq_decide.mpr ⟨by
    rintro⟨s',e,hp⟩
    rw[arx e];exact hp,fun hp=>⟨u,rfl,hp⟩⟩
   rw[ep];generalize decide (trapI (mixB qv u)=[])=bb at *;generalize tD u=uu at *;generalize hD qv=hh at *;simp[abm,e]
  ·intro d _ _;simp[abg]
 have hl:((ext1 s r).map tD).length=r.length:=by simp[ext1]
 have hg:((gos qv (ext1 s r)).map tD).length<=6:=by
  rw[aM];refine cR (gB _ _) ?_;rw[<-aM (f:=tD),hl];exact hr6
 have hc1:((ext1 s r).map tD).length<=capS:=b8 (by omega)
 have hc0:((gos qv (ext1 s r)).map tD).length<=capS:=b8 (by omega)
 have hc2:MM.length+((gos qv (ext1 s r)).map tD).length<=capS:=by unfold capS;omega
 have hrl:(r.map D.int).length=r.length:=aM ..
 show vd [.val (hD qv),M1,T2,.val (.tup (r.map D.int)),.own none MM,.val (.tup (s.map D.int)),o6]=some (.nx,[.val (hD qv),M1,T2,.val (.tup (r.map D.int)),.own none (MM++(gos qv (ext1 s r)).map tD),.val (.tup (s.map D.int)),.val (.lst ((ext1 s r).map tD))]);generalize (gos qv (ext1 s r)).map tD=GG at *;generalize (ext1 s r).map tD=EE at *;generalize s.map D.int=ss at *;generalize r.map D.int=rr at *;generalize hD qv=hh at *;simp[vd,hrl,hb,ec,ef,hc0,hc1,hc2]
theorem ago2{pre rest:LL9}{r:List Int}(er:qv=pre++r::rest)(M1 T2:Sl):∀(acc:LL9) (MM:List D) (o5 o6:Sl),(∀s∈acc,Arr pre s)->MM.length+6*acc.length<=80000->∃q5 q6,forD (cu 5) vd (acc.map tD) [.val (hD qv),M1,T2,.val (.tup (r.map D.int)),.own none MM,o5,o6]=some (.nx,[.val (hD qv),M1,T2,.val (.tup (r.map D.int)),.own none (MM++(gos qv (exts acc r)).map tD),q5,q6])
 | [],MM,o5,o6,_,_=>⟨o5,o6,by unfold exts gos;simp[forD]⟩
 | s::acc,MM,o5,o6,hs,hM=>by
  rw[bN,vH] at hM;have hr:r∈qv:=by rw[er];simp
  have hr6:=(h.room r hr).2.1;have hl:((gos qv (ext1 s r)).map tD).length<=6:=by
   rw[aM];refine cR (gB _ _) ?_;simp[ext1];exact hr6
  have e1:=ago1 h er (hs s (aP ..)) M1 T2 o6 MM (by omega)
  obtain⟨q5,q6,e2⟩:=ago2 er M1 T2 acc (MM++(gos qv (ext1 s r)).map tD) (.val (tD s)) (.val (.lst ((ext1 s r).map tD))) (fun u hu=>hs u (aL _ hu)) (by rw[bM];omega)
  refine⟨q5,q6,?_⟩;have e3:(gos qv (exts (s::acc) r)).map tD=(gos qv (ext1 s r)).map tD++(gos qv (exts acc r)).map tD:=by
   unfold exts gos;rw[lB,wW,bW]
  rw[aW,jl,e3,<-cB];generalize r.map D.int=rr at *;generalize hD qv=hh at *;simp[e1,e2]
theorem thin(pre rest:LL9)(r:List Int)(er:qv=pre++r::rest)(acc:LL9)(ha:∀s∈acc,Arr pre s):gos qv (exts (gos qv acc) r)=gos qv (exts acc r):=by
 unfold exts
 induction acc with
 | nil=>rfl
 | cons s t ih =>
  have ih:=ih fun u hu=>ha u (aL _ hu)
  have hs:=ha s (aP ..);have sp:∀l:LL9,gos qv (ext1 s r++l)=gos qv (ext1 s r)++gos qv l:=fun l=>by unfold gos;rw[wW]
  rw[lB,sp,<-ih]
  by_cases q:trapI (mixB qv s)=[]
  ·have e:gos qv (s::t)=s::gos qv t:=by unfold gos;rw[lL,if_pos (by simp[q])]
   rw[e,lB,sp]
  ·have e:gos qv (s::t)=gos qv t:=by unfold gos;rw[lL,if_neg (by simp[q])]
   have z:gos qv (ext1 s r)=[]:=by
    unfold gos;refine mR.mpr fun u hu =>?_
    rw[decide_eq_true_eq];intro go;obtain⟨i,_,rfl⟩:=bD.mp hu;refine q (axn (t:=[(i:Int)]) ?_ go);rw[er];exact(ai3 hs hu).2
   rw[e,z,aZ]
theorem ago3(M1:Sl):∀(rest pre:LL9) (acc:LL9) (o3 o4 o5 o6:Sl),qv=pre++rest->(∀s∈acc,Arr pre s)->acc.length*6 ^ rest.length<=50000->∃q3 q4 q5 q6,forD (cu 3) u9 (hDs rest) [.val (hD qv),M1,.own none ((gos qv acc).map tD),o3,o4,o5,o6]=some (.nx,[.val (hD qv),M1,.own none ((gos qv (rest.foldl exts acc)).map tD),q3,q4,q5,q6])
 | [],pre,acc,o3,o4,o5,o6,_,_,_=>⟨o3,o4,o5,o6,rfl⟩
 | r::rest,pre,acc,o3,o4,o5,o6,er,ha,hl=>by
  have hr:r∈qv:=by rw[er];simp
  have hr6:=(h.room r hr).2.1;have hx:=ai2 (W:=6) (acc:=acc) hr6;have p3:1<=6 ^ rest.length:=zH _ _ (by decide)
  rw[bN] at hl;have ep:acc.length*6 ^ (rest.length+1)=6*acc.length*6 ^ rest.length:=by
   rw[rW,<-pI,lO (acc.length*6 ^ rest.length) 6,pI]
  rw[ep] at hl;have hacc:6*acc.length<=6*acc.length*6 ^ rest.length:=pJ _ p3;have hgl:(gos qv acc).length<=acc.length:=gB _ _;obtain⟨q5,q6,e1⟩:=ago2 h er M1 (.val (.lst ((gos qv acc).map tD))) (gos qv acc) [] o5 o6 (fun s hs=>ha s (cL.mp hs).1) (by rw[qG];omega)
  rw[aZ,thin h pre rest r er acc ha] at e1;have e2:u9 [.val (hD qv),M1,.own none ((gos qv acc).map tD),.val (.tup (r.map D.int)),o4,o5,o6]=some (.nx,[.val (hD qv),M1,.own none ((gos qv (exts acc r)).map tD),.val (.tup (r.map D.int)),.emp,q5,q6]):=by
   generalize (gos qv (exts acc r)).map tD=EE at *;generalize (gos qv acc).map tD=AA at *;generalize r.map D.int=rr at *;generalize hD qv=hh at *;simp[u9,e1]
  obtain⟨q3,q4,q5',q6',e3⟩:=ago3 M1 rest (pre++[r]) (exts acc r) (.val (.tup (r.map D.int))) .emp q5 q6 (by rw[er];simp) (fun u hu=>by
   obtain⟨s,hs1,hu⟩:=sO.mp hu;exact(ai3 (rest:=rest) (ha s hs1) hu).1) (cR (qQ _ hx) hl)
  refine⟨q3,q4,q5',q6',?_⟩;have eh:hDs (r::rest)=.tup (r.map D.int)::hDs rest:=rfl;rw[eh,jl];generalize (gos qv (exts acc r)).map tD=EE at *;generalize (gos qv acc).map tD=AA at *;generalize r.map D.int=rr at *;generalize hD qv=hh at *;simp[e2,e3,mF]
theorem at9:gos qv (alls qv)=frees qv:=by
 unfold gos frees;refine oZ fun s hs =>?_
 have a:=anj qv s hs;rw[akp a.len,an6 qv s a.len]
theorem alv(hop:trapI qv=[])(h6:qv.length<=6)(hb:botm qv (fun _=>0)<=300):jw [.val (hD qv)]=some (.ok (.fr ((frees qv).map tD)),[.val (hD qv)]):=by
 have e0:=ajg h hop;have hbn:¬300 < botm qv fun _=>0:=by omega
 have h2:(6:Nat) ^ qv.length<=6 ^ 6:=lG (by decide) h6
 have h3:(6:Nat) ^ 6=46656:=by decide
 have g0:gos qv [[]]=[[]]:=by
  unfold gos;rw[lL,if_pos (by rw[abq];simp[hop])]
  rfl
 obtain⟨q3,q4,q5,q6,e1⟩:=ago3 h (.val (.int (botm qv fun _=>0))) qv [] [[]] .emp .emp .emp .emp rfl (fun s hs=>by
  rw[bO] at hs;subst hs;exact⟨rfl,fun i a r g1 _=>by simp at g1⟩) (by
  have h4:[([]:List Int)].length=1:=rfl;rw[h4];omega)
 rw[g0] at e1;have e2:qv.foldl exts [[]]=alls qv:=rfl;rw[e2,at9 h] at e1;have e1:forD (cu 3) u9 (hDs qv) [.val (hD qv),.val (.int (botm qv fun _=>0)),.own none [.tup []],.emp,.emp,.emp,.emp]=_:=e1
 generalize (frees qv).map tD=FF at *;generalize botm qv (fun _=>0)=bb at *
 simp only[hD] at *;generalize hDs qv=hh at *;simp[jw,aaj,e0,hbn,e1]
theorem agz(hop:trapI qv=[])(hb:300 < botm qv fun _=>0):jw [.val (hD qv)]=some (.exc ⟨"TooGreat", [("many", botm qv fun _=>0),("most", 300)]⟩,[.val (hD qv)]):=by
 have e0:=ajg h hop;generalize botm qv (fun _=>0)=bb at *
 generalize hD qv=hh at *;simp[jw,aaj,e0,hb,acp,dM,mTwo]
theorem ag7{i:Int}{r:List Int}(ht:trapI qv=i::r):jw [.val (hD qv)]=some (.exc ⟨"NotOpen", [("room", i)]⟩,[.val (hD qv)]):=by
 have s1:=awy h ht;have e1:jb [.val (hD qv)]=some (.exc ⟨"NotOpen", [("room", i)]⟩,[.val (hD qv)]):=by
  generalize hD qv=hh at *;simp[jb,aba,s1]
 generalize hD qv=hh at *;simp[jw,aaj,e1]
end
theorem akj:∀(rs:LL9) (acc:LL9) (s t:List Int),s∈acc->Arr rs t->s++t∈rs.foldl exts acc
 | [],acc,s,t,hs,ht=>by
  have:t=[]:=sV ht.len;rw[this,gM];exact hs
 | r::rs,acc,s,[],hs,ht=>by have:=ht.len;cases this
 | r::rs,acc,s,a::t,hs,ht=>by
  have h0:=ht.ok 0 a r rfl rfl;have ht':Arr rs t:=⟨Nat.succ.inj ht.len,fun i b q g1 g2=>ht.ok (i+1) b q g1 g2⟩
  have hm:s++[a]∈exts acc r:=ae2.mpr ⟨s,hs,a.toNat,by omega,by rw[show((a.toNat:Nat):Int)=a by omega]⟩
  have:=akj rs (exts acc r) (s++[a]) t hm ht';rw[cB] at this;exact this
theorem ayi{qv:LL9}{s:List Int}(h:Arr qv s):s∈alls qv:=by
 have:=akj qv [[]] [] s (bO.mpr rfl) h;exact this
theorem adb{qv:LL9}{s:List Int}:s∈frees qv↔Arr qv s/\trapI (lp (lasts qv s))=[]:=by
 unfold frees;rw[cL];constructor
 ·rintro⟨a,b⟩
  exact⟨anj qv s a,of_decide_eq_true b⟩
 ·rintro⟨a,b⟩
  exact⟨ayi a,decide_eq_true b⟩
noncomputable def outS(qv:LL9)(k:Int)(s:List Int):List Int:=by
 classical
 exact if h:∃T,T < fuel/\(∀i < T,0<=(run qv s k i).2)/\(run qv s k T).2 < 0 then (run qv s k h.choose).1 else []
section
variable{qv:LL9}(h:Hs qv)(hop:trapI qv=[]){k:Int}(h0:0<=k)(h1:k < (qv.length:Int)){s:List Int}
include h hop h0 h1
theorem amg(hs:Arr qv s):∃T,T < fuel/\(∀i < T,0<=(run qv s k i).2)/\(run qv s k T).2 < 0/\outS qv k s=(run qv s k T).1:=by
 have ex:=ark h hs h0 h1 hop;refine⟨ex.choose,ex.choose_spec.1,ex.choose_spec.2.1,ex.choose_spec.2.2,?_⟩;unfold outS;rw[dif_pos ex]
theorem aj2(hs:s∈frees qv):outS qv k s∈frees qv:=by
 obtain⟨a,f⟩:=adb.mp hs;obtain⟨T,_,hp,hn,e⟩:=amg h hop h0 h1 a;obtain⟨b1,b2,b3⟩:=aa2 h a h0 h1 T hp;have al:=aju h a h0 h1 f T hp;rw[e,adb];exact⟨b1,a2a (abu h b1) h0 (by rw[nu];exact h1) hn al⟩
theorem a5p(hs:Arr qv s):∃g c,f_led_out [.val (hD qv),.val (tD s),.val (.int k)]=some (.ok (.v (.tup [.int g,tD (outS qv k s),c])),[.val (hD qv),.val (tD s),.val (.int k)]):=by
 obtain⟨T,hT,hp,hn,e⟩:=amg h hop h0 h1 hs;have:=aqf h hs h0 h1 hT hp hn;exact⟨_,_,by rw[e];exact this⟩
theorem aw9(hs:Arr qv s):∃q,f__law_sent [.val (hD qv),.val (tD s),.val (.int k)]=some (.ok (.v (tD (outS qv k s))),[.val (hD qv),.val (tD s),.val (.int q)]):=by
 obtain⟨T,hT,hp,hn,e⟩:=amg h hop h0 h1 hs;have hm:=h.most;rw[e];refine⟨(run qv s k T).2,?_⟩;have loop:=yw (c:=xu) (g:=aaw)
  (fun m ρ=>∃t o,t<=T/\m=T - t/\ρ=[.val (hD qv),.val (.tup (s.map D.int)),.val (.int (run qv s k t).2),.own none ((run qv s k t).1.map D.int),o])
  (fun ρ=>∃o,ρ=[.val (hD qv),.val (.tup (s.map D.int)),.val (.int (run qv s k T).2),.own none ((run qv s k T).1.map D.int),o])
  ?_ fuel T [.val (hD qv),.val (.tup (s.map D.int)),.val (.int k),.own none (s.map D.int),.emp] hT ⟨0,.emp,by omega,rfl,rfl⟩
 ·obtain⟨ρ',e,o,rfl⟩:=loop;show f__law_sent [.val (hD qv),.val (.tup (s.map D.int)),.val (.int k)]=some (.ok (.v (.tup ((run qv s k T).1.map D.int))),[.val (hD qv),.val (.tup (s.map D.int)),.val (.int (run qv s k T).2)]);generalize (run qv s k T).1.map D.int=R1 at *;generalize (run qv s k T).2=R2 at *;generalize s.map D.int=ss at *;generalize hD qv=hh at *;simp[f__law_sent,agc,e]
 ·rintro m ρ ⟨t,o,ht,rfl,rfl⟩
  obtain⟨a1,a2,a3⟩:=aa2 h hs h0 h1 t fun i hi=>hp i (by omega)
  rcases iB t T with q | q
  ·have p0:=hp t q;have er:run qv s k (t+1)=(gone qv (run qv s k t).1 (run qv s k t).2,led qv (run qv s k t).1 (run qv s k t).2):=rfl;have e1:=agy p0 a3;have e2:=ape h a1 p0 a3;have e3:=avo h a1 p0 a3;have e4:=ak1 h a1 p0 a3 (ar (run qv s k t).1 (run qv s k t).2+1);have e5:ixN (run qv s k t).1.length (run qv s k t).2=some (run qv s k t).2.toNat:=ad8 p0 (by rw[a1.len];exact a3)
   refine .inr ⟨[.val (hD qv),.val (.tup (s.map D.int)),.val (.int (run qv s k t).2),.own none ((run qv s k t).1.map D.int),o],[.val (hD qv),.val (.tup (s.map D.int)),.val (.int (run qv s k (t+1)).2),.own none ((run qv s k (t+1)).1.map D.int),.val (.int (run qv s k (t+1)).2)],T - (t+1),?_,?_,by omega,t+1,_,by omega,rfl,rfl⟩
   ·simp[xu,p0]
   ·rw[er];simp[aaw,hD,e1,e2,e3,e4,e5,gone]
  ·have:t=T:=by omega
   subst this;refine .inl ⟨_,?_,o,rfl⟩;have hn':¬0<=(run qv s k t).2:=by omega
   simp[xu,hn']
end
def ixR(rows:LL9)(u:List Int):Nat:=rows.findIdx fun r=>decide (r=u)
theorem ax1(a b:List Int):eqD (tD a) (tD b)=decide (a=b):=ak6 a b
theorem aqo{rows:LL9}{u:List Int}(hu:u∈rows):age (.lst (rows.map tD)) [tD u]=some (.int (ixR rows u:Int)):=by
 have h1:(rows.map tD).all (okD 30)=true:=by
  rw[vJ,dD];exact fun s _=>aem 29 s
 have ho:okD 30 (tD u)=true:=aem 29 u;have e:((rows.map tD).findIdx? fun y=>eqD y (tD u))=some (ixR rows u):=by
  rw[List.findIdx?_map];have e1:((fun y=>eqD y (tD u))∘tD)=fun r=>decide (r=u):=funext fun r=>ax1 r u
  rw[e1];unfold ixR;rw[List.findIdx?_eq_some_of_exists ⟨u,hu,by simp⟩]
 simp only[age,ho,h1,Bool.and_self,if_true,e];rfl
def numR(j:Nat):LL9->List (List Int×Int)
 | []=>[]
 | r::t=>(r,(j:Int))::numR (j+1) t
theorem akk{u:List Int}:∀(rows:LL9) (j:Nat),u∈rows->(numR j rows).lookup u=some ((j+ixR rows u:Nat):Int)
 | [],_,h=>by cases h
 | r::t,j,h=>by
  show cT u ((r,(j:Int))::numR (j+1) t)=_;rw[pQ];unfold ixR;rw[List.findIdx_cons]
  by_cases e:r=u
  ·subst e;simp
  ·have e':(u==r)=false:=beq_eq_false_iff_ne.mpr fun q=>e q.symm
   have hm:u∈t:=by
    rcases bF.mp h with q | q
    ·exact absurd q.symm e
    ·exact q
   rw[e'];have:=akk t (j+1) hm;dsimp only;rw[this,decide_eq_false e];unfold ixR;simp;omega
theorem ayy(a0 a1 a2 a3:Sl):∀(rows:LL9) (j:Nat) (kvs:List (List Int×Int)) (o4 o5:Sl),(kvs.map (·.1)++rows).Nodup->kvs.length+rows.length<=1000->∃q4 q5,numD 4 5 ((rows.map tD).mapIdx fun i d=>D.tup [.int ((j+i:Nat):Int),d]) kvs [a0,a1,a2,a3,o4,o5]=some (kvs++numR j rows,[a0,a1,a2,a3,q4,q5])
 | [],j,kvs,o4,o5,_,_=>⟨o4,o5,by simp[numD,numR]⟩
 | r::t,j,kvs,o4,o5,nd,hl=>by
  rw[bN] at hl;obtain⟨q4,q5,e⟩:=ayy a0 a1 a2 a3 t (j+1) (kvs++[(r,(j:Int))]) (.val (.int (j:Int))) (.val (.tup (r.map D.int))) (by
   rw[bW,cB];exact nd) (by rw[bM];simp;omega)
  refine⟨q4,q5,?_⟩;have hr:r∉kvs.map (·.1):=fun z=>by
   have:=(oY.mp nd).2.2 r z r (aP ..);exact this rfl
  rw[aW,List.mapIdx_cons];have e2:((t.map tD).mapIdx fun i d=>D.tup [.int ((j+(i+1):Nat):Int),d])=(t.map tD).mapIdx fun i d=>D.tup [.int ((j+1+i:Nat):Int),d]:=by
   congr 1
   funext i d
   rw[show j+(i+1)=j+1+i by omega]
  rw[e2];have ek:keyN (.tup [.int ((j+0:Nat):Int),tD r])=some (r,(j:Int)):=a1h _ _;show((keyN (.tup [.int ((j+0:Nat):Int),tD r])).bind _)=_;rw[ek,pP,if_neg (by simp only[zE,decide_eq_true_eq,not_or];exact⟨⟨⟨hr,by omega⟩,(show ¬6<=4 by decide)⟩,(show ¬6<=5 by decide)⟩)]
  have e3:kvs++numR j (r::t)=kvs++[(r,(j:Int))]++numR (j+1) t:=by rw[cB];rfl
  rw[e3,<-e];rfl
noncomputable def movs(qv:LL9)(k:Int):List Int:=(frees qv).map fun s=>(ixR (frees qv) (outS qv k s):Int)
theorem atn:qp [.val (.exn "NoRoom" [])]=some (.ok (.v (.str "room")),[.val (.exn "NoRoom" [])]):=by kernel_rfl
theorem a07:("NoRoom" : Str)∈NS:=dZ.mp (by decide +kernel)
theorem aqj(i j:Int):qp [.val (.exn "TooGreat" [("many", i),("most", j)])]=some (.ok (.v (.str "great")),[.val (.exn "TooGreat" [("many", i),("most", j)])]):=by kernel_rfl
theorem awx:("TooGreat" : Str)∈NS:=dZ.mp (by decide +kernel)
theorem a97:gEq false (.str "great") (.str "great")=some (.v (.bl true)):=by kernel_rfl
theorem a96:gEq false (.str "open") (.str "great")=some (.v (.bl false)):=by kernel_rfl
theorem a95:gEq false (.str "room") (.str "great")=some (.v (.bl false)):=by kernel_rfl
theorem a8x:gEq true (.str "told") (.str "told")=some (.v (.bl false)):=by kernel_rfl
theorem a8z:gEq true (.str "open") (.str "open")=some (.v (.bl false)):=by kernel_rfl
theorem a8y:gEq true (.str "room") (.str "room")=some (.v (.bl false)):=by kernel_rfl
theorem a80:gEq true (.str "great") (.str "great")=some (.v (.bl false)):=by kernel_rfl
theorem fl_m(i j:Int):cT ("many" : Str) [(("many" : Str),i),(("most" : Str),j)]=some i:=by simp[cT]
theorem fl_n(i j:Int):cT ("most" : Str) [(("many" : Str),i),(("most" : Str),j)]=some j:=by
 have:(("most" : Str) == "many")=false:=by decide
 simp[cT,this]
theorem aqs{acc:LL9}(r:List Int)(n:Nat)(hl:∀s∈acc,s.length=n)(h:acc.Nodup):(exts acc r).Nodup:=by
 unfold exts;rw[List.Nodup,List.pairwise_flatMap];refine⟨fun s _ =>?_,?_⟩
 ·unfold ext1;rw[xT];refine List.Pairwise.imp (fun{a b} hab q =>?_) mQ
  have:=List.append_cancel_left q;simp at this;omega
 ·refine uN (fun{s t} hs ht hst x hx y hy q =>?_) h
  obtain⟨i,_,rfl⟩:=bD.mp hx;obtain⟨j,_,rfl⟩:=bD.mp hy;exact hst (List.append_inj_left q ((hl s hs).trans (hl t ht).symm))
theorem aq1(qv:LL9):(alls qv).Nodup:=by
 have:∀(rs:LL9) (n:Nat) (acc:LL9),(∀s∈acc,s.length=n)->acc.Nodup->(rs.foldl exts acc).Nodup:=fun rs=>by
  induction rs with
  | nil=>intro n acc _ h;exact h
  | cons r t ih =>
   intro n acc hl h;rw[mF];refine ih (n+1) _ (fun u hu =>?_) (aqs r n hl h)
   obtain⟨s,hs,i,_,rfl⟩:=ae2.mp hu;rw[bM,hl s hs];rfl
 exact this qv 0 [[]] (fun s hs=>by rw[bO] at hs;rw[hs];rfl) (List.pairwise_singleton _ _)
theorem am1(qv:LL9):(frees qv).Nodup:=List.Pairwise.filter _ (aq1 qv)
section
variable{qv:LL9}(h:Hs qv)
include h
theorem ama{k:Int}(h0:0<=k)(h1:k < (qv.length:Int)):gr [.val (hD qv),.val (.int k)]=some (.ok (.v .non),[.val (hD qv),.val (.int k)]):=by
 have e:=zm qv (.int k);have w:qw 0 ((qv.length:Int) - 1) (.int k)=true:=by
  show(decide (0<=k)&&decide (k<=(qv.length:Int) - 1))=true;rw[bG,decide_eq_true_eq,decide_eq_true_eq];omega
 rw[w] at e;generalize hD qv=hh at *;simp[gr,wj,e]
omit h in
theorem awa{d:D}(w:qw 0 ((qv.length:Int) - 1) d=false):gr [.val (hD qv),.val d]=some (.exc ⟨"NoRoom", []⟩,[.val (hD qv),.val d]):=by
 have e:=zm qv d;rw[w] at e;generalize hD qv=hh at *;simp[gr,wj,ahu,e]
theorem asf(hop:trapI qv=[]){k:Int}(h0:0<=k)(h1:k < (qv.length:Int)){s0:Sl}:compD (cu 0) (ret true) ai7 ((frees qv).map tD) [] [s0,.val (.int k),.val (.dtt (numR 0 (frees qv))),.val (hD qv)]=some (.ok ((movs qv k).map D.int),xf s0 ((frees qv).map tD)::[.val (.int k),.val (.dtt (numR 0 (frees qv))),.val (hD qv)]):=by
 rw[lw (f:=fun d=>match d with | .tup l=>(match rm l with | some ns=>D.int (ixR (frees qv) (outS qv k ns):Int) | none=>.non) | _=>.non)]
 ·rw[aZ]
  congr 3
  unfold movs;rw[bY,bY];apply dO;intro s _;show(match rm (s.map D.int) with | some ns=>D.int (ixR (frees qv) (outS qv k ns):Int) | none=>.non)=_
  rw[vf];rfl
 ·intro d hd;obtain⟨s,hs,rfl⟩:=bD.mp hd;obtain⟨g,c,e⟩:=a5p h hop h0 h1 (adb.mp hs).1;have lk:=akk (frees qv) 0 (aj2 h hop h0 h1 hs);rw[dY] at lk;have a1:∀x y z:D,atI [x,y,z] 1=some y:=fun _ _ _=>rfl
  have iD:=vf (outS qv k s);show ai7 [.val (tD s),.val (.int k),.val (.dtt (numR 0 (frees qv))),.val (hD qv)]=some (.ok (match rm (s.map D.int) with | some ns=>D.int (ixR (frees qv) (outS qv k ns):Int) | none=>.non),_)
  rw[vf];dsimp only;have gx:gIxD (.dtt (numR 0 (frees qv))) (tD (outS qv k s))=some (.int (ixR (frees qv) (outS qv k s):Int)):=by
   show(rm ((outS qv k s).map D.int)).bind _=_;rw[iD,pP,lk];rfl
  generalize tD (outS qv k s)=tu at *;generalize (ixR (frees qv) (outS qv k s):Int)=ii at *;generalize numR 0 (frees qv)=kv at *;generalize tD s=ts at *;generalize hD qv=hh at *;simp[ai7,e,a1,gx]
theorem az5(hop:trapI qv=[])(h6:qv.length<=6)(hb:botm qv (fun _=>0)<=300){k:Int}(h0:0<=k)(h1:k < (qv.length:Int)):zr [.val (hD qv),.val (.int k)]=some (.ok (.fr ((movs qv k).map D.int)),[.val (hD qv),.val (.int k)]):=by
 have e1:=ama h h0 h1;have e2:=alv h hop h6 hb;have hn:(frees qv).length<=300:=by
  have:=abx h hop fun _=>0
  omega
 obtain⟨q4,q5,e3⟩:=ayy (.val (hD qv)) (.val (.int k)) (.val (.lst ((frees qv).map tD))) .emp (frees qv) 0 [] .emp .emp (by simpa using am1 qv) (by simp;omega)
 have e3:numD 4 5 (aev ((frees qv).map tD)) [] [.val (hD qv),.val (.int k),.val (.lst ((frees qv).map tD)),.emp,.emp,.emp]=some (numR 0 (frees qv),[.val (hD qv),.val (.int k),.val (.lst ((frees qv).map tD)),.emp,q4,q5]):=by
  rw[<-aZ (numR 0 (frees qv)),<-e3];unfold aev
  congr 2
  funext i d
  rw[dY]
 have e4:=fun s0=>asf h hop h0 h1 (s0:=s0)
 have c1:((movs qv k).map D.int).length<=capS:=by unfold movs;rw[aM,aM];exact b8 (by omega)
 generalize (movs qv k).map D.int=mm at *;generalize numR 0 (frees qv)=kv at *;generalize (frees qv).map tD=FF at *;generalize hD qv=hh at *;simp[zr,akv,dNum,okR,e1,e2,e3,e4,c1]
theorem av7(hop:trapI qv=[])(hb:300 < botm qv fun _=>0){k:Int}(h0:0<=k)(h1:k < (qv.length:Int)):zr [.val (hD qv),.val (.int k)]=some (.exc ⟨"TooGreat", [("many", botm qv fun _=>0),("most", 300)]⟩,[.val (hD qv),.val (.int k)]):=by
 have e1:=ama h h0 h1;have e2:=agz h hop hb;generalize botm qv (fun _=>0)=bb at *
 generalize hD qv=hh at *;simp[zr,akv,e1,e2]
omit h in
theorem av8{d:D}(w:qw 0 ((qv.length:Int) - 1) d=false):zr [.val (hD qv),.val d]=some (.exc ⟨"NoRoom", []⟩,[.val (hD qv),.val d]):=by
 have e1:=awa w;generalize hD qv=hh at *;simp[zr,akv,e1]
theorem ase{i:Int}{r:List Int}(ht:trapI qv=i::r){k:Int}(h0:0<=k)(h1:k < (qv.length:Int)):zr [.val (hD qv),.val (.int k)]=some (.exc ⟨"NotOpen", [("room", i)]⟩,[.val (hD qv),.val (.int k)]):=by
 have e1:=ama h h0 h1;have e2:=ag7 h ht;generalize hD qv=hh at *;simp[zr,akv,e1,e2]
theorem azu(hop:trapI qv=[])(h6:qv.length<=6)(hb:botm qv (fun _=>0)<=300){k:Int}(h0:0<=k)(h1:k < (qv.length:Int)):cg [.val (hD qv),.val (.int k)]=some (.ok (.tf (.str "told") ((movs qv k).map D.int)),[.val (hD qv),.val (.int k)]):=by
 have e:=az5 h hop h6 hb h0 h1;generalize (movs qv k).map D.int=mm at *;generalize hD qv=hh at *;simp[cg,xg,dTry,e]
theorem ag9(hop:trapI qv=[])(hb:300 < botm qv fun _=>0){k:Int}(h0:0<=k)(h1:k < (qv.length:Int)):cg [.val (hD qv),.val (.int k)]=some (.ok (.v (.tup [.str "great", .tup [.int (botm qv fun _=>0),.int 300]])),[.val (hD qv),.val (.int k)]):=by
 have e:=av7 h hop hb h0 h1;have kk:=aqj (botm qv fun _=>0) 300
 have n:=awx;have q:=a97;have f1:=fl_m (botm qv fun _=>0) 300
 have f2:=fl_n (botm qv fun _=>0) 300
 generalize botm qv (fun _=>0)=bb at *
 generalize hD qv=hh at *;simp[cg,xg,ym,dTry,e,kk,n,q,f1,f2,afa]
omit h in
theorem ah2{d:D}(w:qw 0 ((qv.length:Int) - 1) d=false):cg [.val (hD qv),.val d]=some (.ok (.v (.tup [.str "room", .non])),[.val (hD qv),.val d]):=by
 have e:=av8 (qv:=qv) w;have kk:=atn;have n:=a07;have q:=a95;generalize hD qv=hh at *;simp[cg,xg,ym,dTry,e,kk,n,q]
theorem arv{i:Int}{r:List Int}(ht:trapI qv=i::r){k:Int}(h0:0<=k)(h1:k < (qv.length:Int)):cg [.val (hD qv),.val (.int k)]=some (.ok (.v (.tup [.str "open", .non])),[.val (hD qv),.val (.int k)]):=by
 have e:=ase h ht h0 h1;have kk:=ato i;have n:=a08;have q:=a96;generalize hD qv=hh at *;simp[cg,xg,ym,dTry,e,kk,n,q]
end
theorem apt(P:Int×Int):∃qv P',f__law_small [.own (some 0) (pen P)]=some (.ok (.v (hD qv)),[.own (some 0) (pen P')])/\Hs qv/\trapI qv=[]/\∃W n:Nat,W<=6/\1<=W/\(∀r∈qv,r.length<=W)/\qv.length<=n/\W ^ n<=100/\n<=6:=by
 obtain⟨r1,P1,e1,r1a,r1b⟩:=vg P 5 (by decide) (by decide)
 have hm:∃m w:Nat,atI [D.tup [.int 2,.int 6],.tup [.int 3,.int 4],.tup [.int 4,.int 3],.tup [.int 5,.int 2],.tup [.int 6,.int 2]] r1=some (.tup [.int (m:Int),.int (w:Int)])/\1<=m/\m<=10/\1<=w/\w<=6/\w ^ m<=100/\m<=6:=by
  have:r1=0∨r1=1∨r1=2∨r1=3∨r1=4:=by omega
  rcases this with rfl | rfl | rfl | rfl | rfl
  ·exact⟨2,6,rfl,by decide,by decide,by decide,by decide,by decide,by decide⟩
  ·exact⟨3,4,rfl,by decide,by decide,by decide,by decide,by decide,by decide⟩
  ·exact⟨4,3,rfl,by decide,by decide,by decide,by decide,by decide,by decide⟩
  ·exact⟨5,2,rfl,by decide,by decide,by decide,by decide,by decide,by decide⟩
  ·exact⟨6,2,rfl,by decide,by decide,by decide,by decide,by decide,by decide⟩
 obtain⟨m,w,em,m1,m2,w1,w2,hp,m6⟩:=hm;obtain⟨qv,P2,e2,h,hop,hl,hw⟩:=open_spec P1 (m:Int) (w:Int) (by omega) (by omega) (by omega) (by omega)
 exact⟨qv,P2,by generalize hD qv=hh at *;simp[f__law_small,aer,e1,em,e2],h,hop,w,m,w2,w1,fun r hr=>by have:=hw r hr;omega,by omega,hp,m6⟩
theorem ay8{r:List Int}(h1:1<=r.length)(h6:r.length<=6)(hr:∀x∈r,-3<=x/\x < 1):Hs [r]:=⟨by simp,by simp,fun r' hr'=>by
 rw[bO] at hr';rw[hr'];exact⟨h1,h6,hr⟩⟩
theorem an0{r:List Int}{d:Int}(hd:d∈r)(h0:d < 0):trapI [r]=[]:=aex fun a a0 a1=>by
 have:a=0:=by simp at a1;omega
 rw[this];exact⟨d,.step .base (by decide) hd,h0⟩
theorem awr{qv:LL9}(hn:∀r∈qv,∃d∈r,d < 0):trapI qv=[]:=aex fun a a0 a1=>by
 have hk:a.toNat < qv.length:=by omega
 have hr:dr qv a∈qv:=by
  unfold dr;rw[aY,aF hk];exact dC hk
 obtain⟨d,hd,d0⟩:=hn _ hr;exact⟨d,.step .base a0 hd,d0⟩
theorem ax2{hh ts tu kk ii:D}{FF:List D}{q:Sl}(e:f__law_sent [.val hh,.val ts,.val kk]=some (.ok (.v tu),[.val hh,.val ts,q]))(gx:age (.lst FF) [tu]=some ii):sr [.val ts,.val (.lst FF),.val kk,.val hh]=some (.ok ii,[.val ts,.val (.lst FF),.val kk,.val hh]):=by
 simp[sr,e,gx]
section
variable{qv:LL9}(h:Hs qv)(hop:trapI qv=[]){k:Int}(h0:0<=k)(h1:k < (qv.length:Int))
include h hop h0 h1
theorem ax3{s0:Sl}:compD (cu 0) (ret true) sr ((frees qv).map tD) [] [s0,.val (.lst ((frees qv).map tD)),.val (.int k),.val (hD qv)]=some (.ok ((movs qv k).map D.int),xf s0 ((frees qv).map tD)::[.val (.lst ((frees qv).map tD)),.val (.int k),.val (hD qv)]):=by
 rw[lw (f:=fun d=>match d with | .tup l=>(match rm l with | some ns=>D.int (ixR (frees qv) (outS qv k ns):Int) | none=>.non) | _=>.non)]
 ·rw[aZ]
  congr 3
  unfold movs;rw[bY,bY];apply dO;intro s _;show(match rm (s.map D.int) with | some ns=>D.int (ixR (frees qv) (outS qv k ns):Int) | none=>.non)=_
  rw[vf];rfl
 ·intro d hd;obtain⟨s,hs,rfl⟩:=bD.mp hd;obtain⟨q,e⟩:=aw9 h hop h0 h1 (adb.mp hs).1;have gx:=aqo (aj2 h hop h0 h1 hs);show sr [.val (tD s),.val (.lst ((frees qv).map tD)),.val (.int k),.val (hD qv)]=some (.ok (match rm (s.map D.int) with | some ns=>D.int (ixR (frees qv) (outS qv k ns):Int) | none=>.non),_)
  rw[vf];dsimp only;exact ax2 e gx
variable(h6:qv.length<=6)(hb:botm qv (fun _=>0)<=300)
include h6 hb
theorem arq(FF:D)(j:Int)(o5 o6:Sl):∃q6,l1__law_right [.val (hD qv),.val (.int k),.val FF,.own none ((movs qv k).map D.int),.val (.int j),o5,o6]=some (.nx,[.val (hD qv),.val (.int k),.val FF,.own none ((movs qv k).map D.int),.val (.int j),.val (.str "told"),q6]):=by
 have e:=azu h hop h6 hb h0 h1;have c:∀s0,compD (cu 0) (ret true) aal ((movs qv k).map D.int) [] [s0]=some (.ok (((movs qv k).map fun _=>true).map D.bl),xf s0 ((movs qv k).map D.int)::[]):=fun s0=>by
  rw[lw (f:=fun _=>D.bl true)]
  ·rw[aZ,bY,bY];rfl
  ·intro d hd;obtain⟨i,_,rfl⟩:=bD.mp hd;simp[aal,afa]
 have hn:(movs qv k).length<=300:=by
  have:=abx h hop fun _=>0
  unfold movs;rw[aM];omega
 have q1:=a8x;have q2:gEq true (.lst ((movs qv k).map D.int)) (.lst ((movs qv k).map D.int))=some (.v (.bl false)):=by rw[axt];simp
 have q3:((movs qv k).map D.int).all ag4=true:=by
  rw[vJ,dD];exact fun _ _=>rfl
 have gA:gAll (.lst (((movs qv k).map fun _=>true).map D.bl))=some (.v (.bl true)):=by
  rw[aoo,ahx];simp
 have fb:(((movs qv k).map fun _=>true).map D.bl).all ag4=true:=by
  rw[vJ,dD];exact fun _ _=>rfl
 have c1:(((movs qv k).map fun _=>true).map D.bl).length<=capS:=by rw[aM,aM];exact b8 (by omega)
 have c2:((movs qv k).map D.int).length < capS:=by rw[aM];unfold capS;omega
 refine⟨.own none ((movs qv k).map D.int++[.int 0]),?_⟩;generalize (((movs qv k).map fun _=>true).map D.bl)=bs at *
 generalize (movs qv k).map D.int=MM at *;generalize hD qv=hh at *;have fb':∀x∈bs,ag4 x=true:=dD.mp fb
 have q3':∀x∈MM,ag4 x=true:=dD.mp q3
 simp[-aoo,l1__law_right,e,q1,q2,isTy,c,c1,gA,amf,fb,q3,fb',q3',c2]
theorem awb(ea:jk [.val (hD qv)]=some (.ok (.fr ((frees qv).map tD)),[.val (hD qv)])):fj [.val (hD qv),.val (.int k)]=some (.ok (.v (.bl true)),[.val (hD qv),.val (.int k)]):=by
 obtain⟨q4,e1⟩:=arq h hop h0 h1 h6 hb (.lst ((frees qv).map tD)) 0 .emp .emp;obtain⟨q5,e2⟩:=arq h hop h0 h1 h6 hb (.lst ((frees qv).map tD)) 1 (.val (.str "told")) q4;have e3:=fun s0=>ax3 h hop h0 h1 (s0:=s0)
 have hn:(movs qv k).length<=300:=by
  have:=abx h hop fun _=>0
  unfold movs;rw[aM];omega
 have c1:((movs qv k).map D.int).length<=capS:=by rw[aM];exact b8 (by omega)
 have r2:rangeD 0 2=[.int 0,.int 1]:=rfl;generalize (movs qv k).map D.int=MM at *;generalize (frees qv).map tD=FF at *;generalize hD qv=hh at *;simp[fj,aes,ea,e3,c1,r2,jl,e1,e2]
end
theorem afu{qv:LL9}(h:Hs qv)(hop:trapI qv=[]){W n:Nat}(hW:W<=6)(hW1:1<=W)(hw:∀r∈qv,r.length<=W)(hn:qv.length<=n)(hp:W ^ n<=100)(n6:n<=6){k:Int}(h0:0<=k)(h1:k < (qv.length:Int)):fj [.val (hD qv),.val (.int k)]=some (.ok (.v (.bl true)),[.val (hD qv),.val (.int k)]):=by
 obtain⟨e,l⟩:=alw h hW hW1 hw hn hp;exact awb h hop h0 h1 (by omega) (by have:=abx h hop fun _=>0;omega) e
theorem ar9{qv:LL9}(h:Hs qv):Hs (qv.map fun r=>r.map fun d=>if d > 0 then d else 0) :=
 ⟨by rw[aM];exact h.one,by rw[aM];exact h.most,fun q hq=>by
  obtain⟨r,hr,rfl⟩:=bD.mp hq;obtain⟨a,b,c⟩:=h.room r hr;have h1:=h.one;refine⟨by rw[aM];exact a,by rw[aM];exact b,fun x hx =>?_⟩
  obtain⟨y,hy,rfl⟩:=bD.mp hx;have:=c y hy;rw[aM];split <;> omega⟩
theorem a98{r:List Int}(hr:r.length<=6):aox [.val (.tup (r.map D.int))]=some (.ok (.tup ((r.map fun d=>if d > 0 then d else 0).map D.int)),[.val (.tup (r.map D.int))]):=by
 have ef:compD (cu 0) (ret true) auv (r.map D.int) [] [.emp]=some (.ok ((r.map fun d=>if d > 0 then d else 0).map D.int),xf .emp (r.map D.int)::[]):=by
  rw[lw (f:=fun d=>match d with | .int k=>.int (if k > 0 then k else 0) | _=>.non)]
  ·simp[jB]
  ·intro d hd;obtain⟨k,_,rfl⟩:=bD.mp hd;simp[auv]
 have hc:r.length<=capS:=b8 (by omega)
 simp[-bY,aox,ef,hc]
theorem az4{qv:LL9}(h:Hs qv):compD (cu 0) (ret true) aox (hDs qv) [] [.emp]=some (.ok (hDs (qv.map fun r=>r.map fun d=>if d > 0 then d else 0)),xf .emp (hDs qv)::[]):=by
 rw[lw (f:=fun d=>match d with | .tup l=>.tup ((((rm l).getD []).map fun d=>if d > 0 then d else 0).map D.int) | _=>.non)]
 ·simp[hDs,jB]
 ·intro d hd;obtain⟨r,hr,rfl⟩:=bD.mp hd;rw[a98 (h.room r hr).2.1];simp
theorem ar8{qv:LL9}(h:Hs qv):∃i r,trapI (qv.map fun r=>r.map fun d=>if d > 0 then d else 0)=i::r:=by
 have h2:=ar9 h;have pos:∀q∈(qv.map fun r=>r.map fun d=>if d > 0 then d else 0),∀x∈q,(0:Int)<=x:=fun q hq x hx=>by
  obtain⟨r,hr,rfl⟩:=bD.mp hq;obtain⟨y,hy,rfl⟩:=bD.mp hx;split <;> omega
 generalize (qv.map fun r=>r.map fun d=>if d > 0 then d else 0)=R at *
 have hc:caught R 0=true:=(jj R 0).mpr fun x hx=>by
  induction hx with
  | base=>exact rC _
  | @step y d _ y0 hd _ =>
   unfold dr at hd
   by_cases z:y.toNat < R.length
   ·rw[aY,aF z] at hd;exact pos _ (dC z) d hd
   ·rw[aY,cG (by omega)] at hd
    cases hd
 have hm:(0:Int)∈trapI R:=by
  unfold trapI;exact cL.mpr ⟨List.mem_map.mpr ⟨0,cO.mpr h2.one,rfl⟩,hc⟩
 cases e:trapI R with
 | nil=>rw[e] at hm;cases hm
 | cons i r=>exact⟨i,r,rfl⟩
theorem a5m{qv:LL9}(hr:∀k:Int,0<=k->k < (qv.length:Int)->fj [.val (hD qv),.val (.int k)]=some (.ok (.v (.bl true)),[.val (hD qv),.val (.int k)]))(a0 a1 a2 a3 a6 a7:Sl):∀(ns:List Int) (o5:Sl),(∀k∈ns,0<=k/\k < (qv.length:Int))->∃q5,forD (cu 5) aog (ns.map D.int) [a0,a1,a2,a3,.val (hD qv),o5,a6,a7]=some (.nx,[a0,a1,a2,a3,.val (hD qv),q5,a6,a7])
 | [],o5,_=>⟨o5,rfl⟩
 | k::r,o5,hk=>by
  have e:=hr k (hk k (aP ..)).1 (hk k (aP ..)).2;obtain⟨q5,e2⟩:=a5m hr a0 a1 a2 a3 a6 a7 r (.val (.int k)) fun z hz=>hk z (aL _ hz)
  refine⟨q5,?_⟩;rw[aW,jl];generalize hD qv=hh at *;have st:aog [a0,a1,a2,a3,.val hh,.val (.int k),a6,a7]=some (.nx,[a0,a1,a2,a3,.val hh,.val (.int k),a6,a7]):=by simp[aog,e]
  simp[st,e2]
theorem ayg{hh d:D}{a0 a1 a2 a3 a5 a7:Sl}(e1:cg [.val hh,.val d]=some (.ok (.v (.tup [.str "room", .non])),[.val hh,.val d]))(e2:cg [.val (.tup [.tup [.int 0]]),.val d]=some (.ok (.v (.tup [.str "room", .non])),[.val (.tup [.tup [.int 0]]),.val d])):aof [a0,a1,a2,a3,.val hh,a5,.val d,a7]=some (.nx,[a0,a1,a2,a3,.val hh,a5,.val d,a7]):=by
 have z:=a8y;have a0':∀x y:D,atI [x,y] 0=some x:=fun _ _=>rfl
 simp[aof,e1,e2,z,a0']
theorem a5l{qv:LL9}(a0 a1 a2 a3 a5 a7:Sl):∀(ds:List D) (o6:Sl),(∀d∈ds,qw 0 ((qv.length:Int) - 1) d=false/\qw 0 ((1:Int) - 1) d=false)->∃q6,forD (cu 6) aof ds [a0,a1,a2,a3,.val (hD qv),a5,o6,a7]=some (.nx,[a0,a1,a2,a3,.val (hD qv),a5,q6,a7])
 | [],o6,_=>⟨o6,rfl⟩
 | d::r,o6,hk=>by
  have w:=hk d (aP ..);have e1:=ah2 (qv:=qv) w.1;have e2:cg [.val (.tup [.tup [.int 0]]),.val d]=_:=ah2 (qv:=[[0]]) (d:=d) w.2;have e:=ayg (a0:=a0) (a1:=a1) (a2:=a2) (a3:=a3) (a5:=a5) (a7:=a7) e1 e2;obtain⟨q6,e3⟩:=a5l a0 a1 a2 a3 a5 a7 r (.val d) fun z hz=>hk z (aL _ hz)
  refine⟨q6,?_⟩;rw[jl];generalize hD qv=hh at *;simp[e,e3]
theorem a9j(S G:Sl)(n:Int)(a3 a4 a5 a6 a7:Sl):∃b3 b4 b5 b6 b7,l3_law [S,G,.val (.int n),a3,a4,a5,a6,a7]=some (.nx,[S,G,.val (.int n),b3,b4,b5,b6,b7]):=by
 obtain⟨P,e0⟩:=awi n;obtain⟨qv,P1,e1,h,hop,W,m,w1,w2,w3,w4,w5,w6⟩:=apt P;have hm:=h.most;have ho:=h.one;obtain⟨od,P2,e2,hod⟩:=a04 P1;obtain⟨q5,e3⟩:=a5m (fun k k0 k1=>afu h hop w1 w2 w3 w4 w5 w6 k0 k1) S G (.val (.int n)) (.own none (pen P1)) a6 a7 (upto qv.length) a5 fun k hk=>uw hk
 obtain⟨q6,e4⟩:=a5l (qv:=qv) S G (.val (.int n)) (.own none (pen P2)) q5 a7 [.int (qv.length:Int),.int (-1),.bl true,.non,od] a6 fun d hd=>by
  have hint:∀i:Int,i < 0∨(qv.length:Int)<=i->qw 0 ((qv.length:Int) - 1) (.int i)=false/\qw 0 ((1:Int) - 1) (.int i)=false:=fun i hi=>by
   constructor
   ·show(decide (0<=i)&&decide (i<=(qv.length:Int) - 1))=false;rw[qL,decide_eq_false_iff_not,decide_eq_false_iff_not];omega
   ·show(decide (0<=i)&&decide (i<=(1:Int) - 1))=false;rw[qL,decide_eq_false_iff_not,decide_eq_false_iff_not];omega
  simp only[bF,eQ,or_false] at hd;rcases hd with rfl | rfl | rfl | rfl | rfl
  ·exact hint _ (.inr (rC _))
  ·exact hint _ (.inl (by decide))
  ·exact⟨rfl,rfl⟩
  ·exact⟨rfl,rfl⟩
  ·exact⟨hod _ hm,hod 1 (by decide)⟩
 have e5:=az4 h;obtain⟨i,r,ht⟩:=ar8 h;have hs:=ar9 h;have e6:=arv hs ht (k:=0) (by decide) (by have:=hs.one;omega)
 have hl:=yt qv;have hb:qv.length < 4611686018427387904:=by omega
 have hc:(hDs (qv.map fun r=>r.map fun d=>if d > 0 then d else 0)).length<=capS:=by rw[yt,aM];exact b8 (by omega)
 have z:=a8z;have a0':∀x y:D,atI [x,y] 0=some x:=fun _ _=>rfl
 rw[<-ue] at e3;have c5:5<=capS:=b8 (by decide)
 refine⟨.own none (pen P2),.val (hD qv),q5,q6,.val (hD (qv.map fun r=>r.map fun d=>if d > 0 then d else 0)),?_⟩
 generalize (qv.map fun r=>r.map fun d=>if d > 0 then d else 0)=rooms2 at *
 clear hod ht hs h hop
 simp only[hD] at *;generalize hDs rooms2=hh2 at *;generalize hDs qv=hh at *;simp[l3_law,e0,e1,hl,hb,e3,e2,e4,e5,hc,e6,z,a0']
theorem a5k(S G:Sl):∀(ns:List Int) (q a3 a4 a5 a6 a7:Sl),∃ρ,forD (cu 2) l3_law (ns.map D.int) [S,G,q,a3,a4,a5,a6,a7]=some (.nx,S::ρ)
 | [],q,a3,a4,a5,a6,a7=>⟨_,rfl⟩
 | n::r,q,a3,a4,a5,a6,a7=>by
  obtain⟨b3,b4,b5,b6,b7,z⟩:=a9j S G n a3 a4 a5 a6 a7;obtain⟨ρ,z2⟩:=a5k S G r (.val (.int n)) b3 b4 b5 b6 b7;exact⟨ρ,by rw[aW,jl];simp[z,z2]⟩
def gR:LL9:=[[-1,-1,-1,-1,-1,-1],[-1,-1,-1,-1,-1,-1],[-1,0,-1,0,-1,0],[-1,1,-1,1,-1,1]]
theorem amz:trapI gR=[]:=awr fun r hr=>by
 unfold gR at hr;simp only[bF,eQ,or_false] at hr;rcases hr with rfl | rfl | rfl | rfl <;> exact⟨-1,by decide,by decide⟩
theorem a1r:Hs gR:=⟨by decide,by decide,fun r hr=>by
 have hl:(gR.length:Int)=4:=rfl;rw[hl];unfold gR at hr;simp only[bF,eQ,or_false] at hr;rcases hr with rfl | rfl | rfl | rfl <;> exact⟨by decide,by decide,by decide⟩⟩
theorem aza:300 < botm gR fun _=>0:=by decide +kernel
theorem a6i:gEq true (.lst [.str "room", .str "room", .str "room", .str "room"]) (.lst [.str "room", .str "room", .str "room", .str "room"])=some (.v (.bl false)):=by kernel_rfl
def A1:Sd:=(dSet 1 (M.v (mTup (aq (M.d (mOp gMul (fu (mTup (aq (mUn gNeg (ret (.int 1))) mNil)) (ret (.int 6))))) (aq (M.d (mOp gMul (fu (mTup (aq (mUn gNeg (ret (.int 1))) mNil)) (ret (.int 6))))) (aq (M.d (mOp gMul (fu (mTup (aq (mUn gNeg (ret (.int 1))) (aq (ret (.int 0)) mNil))) (ret (.int 3))))) (aq (M.d (mOp gMul (fu (mTup (aq (mUn gNeg (ret (.int 1))) (aq (ret (.int 1)) mNil))) (ret (.int 3))))) mNil)))))))
def A2:Sd:=(dIf (mOrB (ad7 (wg (M.d (mFn fj [none,none] (dg (mTup (aq (mTup (aq (mUn gNeg (ret (.int 1))) mNil)) mNil)) (dg (ret (.int 0)) gq)))))) (ad7 (wg (M.d (mFn fj [none,none] (dg (mTup (aq (mTup (aq (mUn gNeg (ret (.int 1))) (aq (ret (.int 0)) (aq (ret (.int 0)) mNil)))) mNil)) (dg (ret (.int 0)) gq))))))) (dRet (M.v (ret (.bl false)))) dNx)
def A3:Sd:=(dIf (mOrB (ju (gEq true) (fu (M.d (mFn cg [none,none] (dg (mVar 1) (dg (ret (.int 0)) gq)))) (mTup (aq (ret (.str "great")) (aq (mTup (aq (M.d (mFn jb [none] (dg (mVar 1) gq))) (aq (ret (.int 300)) mNil))) mNil))))) (ju (gEq true) (fu (M.d (mOp gIx (fu (M.d (mFn cg [none,none] (dg (mVar 1) (dg (ret (.int 3)) gq)))) (ret (.int 0))))) (ret (.str "great"))))) (dRet (M.v (ret (.bl false)))) dNx)
def A4:Sd:=(dIf (ju (gEq true) (fu (M.d (qz [none,some 1] (lq (M.d (mLst (aq (ret (.int 4)) (aq (mUn gNeg (ret (.int 1))) (aq (ret (.bl true)) (aq (ret .non) mNil))))))) (cu 0) (ret true) aoy)) (M.d (mOp gMul (fu (M.d (mLst (aq (ret (.str "room")) mNil))) (ret (.int 4))))))) (dRet (M.v (ret (.bl false)))) dNx)
def A5:Sd:=(dSeq (dFor (lq (M.d (mOp gAdd (fu (M.d (mLst (aq (M.d (mFn f__law_cell [some 0,none] (gj 0 (dg (ret (.int 0)) gq)))) mNil))) (M.d (ati 0 (aiu (ret (.int 1))) (aiu (ret (.int 3))))))))) (cu 2) l3_law) (dRet (M.v (ret (.bl true)))))
theorem axp:a6a=dSeq A1 (dSeq A2 (dSeq A3 (dSeq A4 A5))):=rfl
theorem ban(S:Sl):A1 [S,.emp,.emp,.emp,.emp,.emp,.emp,.emp]=some (.nx,[S,.val (hD gR),.emp,.emp,.emp,.emp,.emp,.emp]):=rfl
theorem a6y{d1 d2:D}{m1 m2:M D}{ρ:Ro}{a b c d e f g h:Sl}(er:ρ=[a,b,c,d,e,f,g,h])(k1:fj [.val d1,.val (.int 0)]=some (.ok (.v (.bl true)),[.val d1,.val (.int 0)]))(k2:fj [.val d2,.val (.int 0)]=some (.ok (.v (.bl true)),[.val d2,.val (.int 0)]))(h1:m1 ρ=some (.ok d1,ρ))(h2:m2 ρ=some (.ok d2,ρ)) :
  (dIf (mOrB (ad7 (wg (M.d (mFn fj [none,none] (dg m1 (dg (ret (.int 0)) gq)))))) (ad7 (wg (M.d (mFn fj [none,none] (dg m2 (dg (ret (.int 0)) gq))))))) (dRet (M.v (ret (.bl false)))) dNx) ρ=some (.nx,ρ):=by
 subst er;simp[h1,h2,k1,k2]
theorem a9l:fj [.val (hD [[-1]]),.val (.int 0)]=some (.ok (.v (.bl true)),[.val (hD [[-1]]),.val (.int 0)]):=afu (qv:=[[-1]]) (ay8 (by decide) (by decide) (by decide)) (an0 (d := -1) (by decide) (by decide)) (W:=1) (n:=1) (by decide) (by decide) (by decide) (by decide) (by decide) (by decide) (by decide) (by decide)
theorem a9k:fj [.val (hD [[-1,0,0]]),.val (.int 0)]=some (.ok (.v (.bl true)),[.val (hD [[-1,0,0]]),.val (.int 0)]):=afu (qv:=[[-1,0,0]]) (ay8 (by decide) (by decide) (by decide)) (an0 (d := -1) (by decide) (by decide)) (W:=3) (n:=1) (by decide) (by decide) (by decide) (by decide) (by decide) (by decide) (by decide) (by decide)
theorem bam(a b c d e f g h:Sl):A2 [a,b,c,d,e,f,g,h]=some (.nx,[a,b,c,d,e,f,g,h]):=a6y rfl a9l a9k rfl rfl
theorem a6x{G:D}{bb:Int}{a c d e f g h:Sl}(t0:cg [.val G,.val (.int 0)]=some (.ok (.v (.tup [.str "great", .tup [.int bb,.int 300]])),[.val G,.val (.int 0)]))(t3:cg [.val G,.val (.int 3)]=some (.ok (.v (.tup [.str "great", .tup [.int bb,.int 300]])),[.val G,.val (.int 3)]))(am:jb [.val G]=some (.ok (.v (.int bb)),[.val G])):A3 [a,.val G,c,d,e,f,g,h]=some (.nx,[a,.val G,c,d,e,f,g,h]):=by
 have q:gEq true (.tup [.str "great", .tup [.int bb,.int 300]]) (.tup [.str "great", .tup [.int bb,.int 300]])=some (.v (.bl false)):=by
  have hd:okD 30 (.tup [.str "great", .tup [.int bb,.int 300]])=true:=by
   show([D.str "great", .tup [.int bb,.int 300]].all (okD 29))=true;simp only[nP,List.all_nil,Bool.and_true,bG];exact⟨by show PyData.strOk _=true;kernel_rfl,rfl⟩
  have e:eqD (.tup [.str "great", .tup [.int bb,.int 300]]) (.tup [.str "great", .tup [.int bb,.int 300]])=true:=PySem.SeqAt.eqv_refl _ (aar _ _ hd).1;unfold gEq;rw[hd,e];rfl
 have z:=a80;have a0':∀x y:D,atI [x,y] 0=some x:=fun _ _=>rfl
 simp[A3,t0,t3,am,q,z,a0']
theorem a6w{G:D}{a c d e f g h:Sl}(tb:∀x∈[D.int 4,.int (-1),.bl true,.non],cg [.val G,.val x]=some (.ok (.v (.tup [.str "room", .non])),[.val G,.val x])):A4 [a,.val G,c,d,e,f,g,h]=some (.nx,[a,.val G,c,d,e,f,g,h]):=by
 have t1:=tb (.int 4) (by simp)
 have t2:=tb (.int (-1)) (by simp)
 have t3:=tb (.bl true) (by simp)
 have t4:=tb .non (by simp)
 have q:=a6i;have a0':∀x y:D,atI [x,y] 0=some x:=fun _ _=>rfl
 have gm:gMul (.lst [.str "room"]) (.int 4)=some (.fr [.str "room", .str "room", .str "room", .str "room"]):=rfl;have c4:4<=capS:=b8 (by decide)
 have ec:compD (cu 0) (ret true) aoy [.int 4,.int (-1),.bl true,.non] [] [.emp,.val G]=some (.ok [.str "room", .str "room", .str "room", .str "room"],[.val .non,.val G]):=by
  simp[compD,aoy,t1,t2,t3,t4,a0']
 simp[-axq,A4,ec,gm,q,c4]
theorem bal(ns:List Int)(hn:ns.length<=63)(G:Sl):∃ρ,A5 [.val (.kst (ns.map D.int)),G,.emp,.emp,.emp,.emp,.emp,.emp]=some (.ret (.v (.bl true)),ρ):=by
 obtain⟨n0,e0⟩:=avb ns 0 (by decide)
 obtain⟨ms,em,hm⟩:=au5 ns (some 1) (some 3);have hc:1+ms.length<=capS:=b8 (by omega)
 obtain⟨ρ,q⟩:=a5k (.val (.kst (ns.map D.int))) G (n0::ms) .emp .emp .emp .emp .emp .emp;simp only[aW] at q;exact⟨.val (.kst (ns.map D.int))::ρ,by simp[A5,e0,em,hc,q]⟩
theorem seq5{g1 g2 g3 g4 g5:Sd}{ρ0 ρ ρ':Ro}(h1:g1 ρ0=some (.nx,ρ))(h2:g2 ρ=some (.nx,ρ))(h3:g3 ρ=some (.nx,ρ))(h4:g4 ρ=some (.nx,ρ))(h5:g5 ρ=some (.ret (.v (.bl true)),ρ')):dSeq g1 (dSeq g2 (dSeq g3 (dSeq g4 g5))) ρ0=some (.ret (.v (.bl true)),ρ'):=by simp[h1,h2,h3,h4,h5]
theorem a6g{g:Sd}{x:Sl}{ρ':Ro}(h:g [x,.emp,.emp,.emp,.emp,.emp,.emp,.emp]=some (.ret (.v (.bl true)),ρ')):∃ps,fnD 8 1 g [x]=some (.ok (.v (.bl true)),ps):=⟨ρ'.take 1,by simp[h]⟩
theorem axc:anl axw:=fun ns hn=>by
 obtain⟨ρ,h5⟩:=bal ns hn (.val (hD gR));have t0:=ag9 a1r amz aza (k:=0) (by decide) (by decide)
 have t3:=ag9 a1r amz aza (k:=3) (by decide) (by decide)
 have am:=ajg a1r amz;have tb:∀x∈[D.int 4,.int (-1),.bl true,.non],cg [.val (hD gR),.val x]=some (.ok (.v (.tup [.str "room", .non])),[.val (hD gR),.val x]):=fun x hx=>ah2 (by
  have hl:(gR.length:Int)=4:=rfl;rw[hl];simp only[bF,eQ,or_false] at hx;rcases hx with rfl | rfl | rfl | rfl <;> rfl)
 have m:=seq5 (ban _) (bam _ _ _ _ _ _ _ _) (a6x t0 t3 am) (a6w tb) h5;rw[<-axp] at m;exact a6g m
end My
set_option maxHeartbeats 0
namespace My
open PySem L2 Mn Dn
def top(i:Nat):iJ:=PySem.Challenge.pw_turnarrows_k38_sent_to_one_another.main.body.getD i (.Pass ⟨0,0,0,0⟩)
abbrev adz:iJ:=top 15
theorem al6:FnScope ["thing"] ["thing"] (ao adz):=mkSc rfl rfl rfl rfl (by decide +kernel)
abbrev ud:iJ:=top 16
theorem acv:FnScope ["thing","least","most"] ["thing","least","most"] (ao ud):=mkSc rfl rfl rfl rfl (by decide +kernel)
abbrev vo:iJ:=top 18
theorem adx:FnScope ["house","thing"] ["house","thing"] (ao vo):=mkSc rfl rfl rfl rfl (by decide +kernel)
abbrev qm:iJ:=top 19
theorem yx:FnScope ["house","thing"] ["house","thing"] (ao qm):=mkSc rfl rfl rfl rfl (by decide +kernel)
abbrev asi:iJ:=top 20
theorem afl:FnScope ["house","staying","many"] ["house"] (ao asi):=mkSc rfl rfl rfl rfl (by decide +kernel)
abbrev afs:iJ:=top 21
theorem apw:FnScope ["house"] ["house"] (ao afs):=mkSc rfl rfl rfl rfl (by decide +kernel)
abbrev pq:iJ:=top 22
theorem my:FnScope ["house","rooms"] ["house"] (ao pq):=mkSc rfl rfl rfl rfl (by decide +kernel)
abbrev ady:iJ:=top 24
theorem afn:FnScope ["rows","at","number"] ["rows","at"] (ao ady):=mkSc rfl rfl rfl rfl (by decide +kernel)
abbrev afq:iJ:=top 25
theorem ahd:FnScope ["rows","one","other","told"] ["rows","one","other"] (ao afq):=mkSc rfl rfl rfl rfl (by decide +kernel)
abbrev aft:iJ:=top 26
theorem za:FnScope ["rows","at","bottom","head","told","number","row"] ["rows","at","bottom"] (ao aft):=mkSc rfl rfl rfl rfl (by decide +kernel)
abbrev ah8:iJ:=top 27
theorem uz:FnScope ["rows","right","work","bottom","at","found"] ["rows","right"] (ao ah8):=mkSc rfl rfl rfl rfl (by decide +kernel)
abbrev aae:iJ:=top 28
theorem ab1:FnScope ["rows","told"] ["rows"] (ao aae):=mkSc rfl rfl rfl rfl (by decide +kernel)
abbrev yp:iJ:=top 29
theorem nj:FnScope ["house","rows","room","doors","row"] ["house"] (ao yp):=mkSc rfl rfl rfl rfl (by decide +kernel)
abbrev al7:iJ:=top 31
theorem anq:FnScope ["house","turning","room","door"] ["house","turning","room"] (ao al7):=mkSc rfl rfl rfl rfl (by decide +kernel)
abbrev afr:iJ:=top 32
theorem yz:FnScope ["house","arrows","room","turning","leavings","place"] ["house","arrows","room"] (ao afr):=mkSc rfl rfl rfl rfl (by decide +kernel)
abbrev ye:iJ:=top 35
theorem acw:FnScope ["house"] ["house"] (ao ye):=mkSc rfl rfl rfl rfl (by decide +kernel)
abbrev ab6:iJ:=top 36
theorem aei:FnScope ["house","begun","chosen"] ["house","begun"] (ao ab6):=mkSc rfl rfl rfl rfl (by decide +kernel)
abbrev aaf:iJ:=top 37
theorem gf:FnScope ["house","many","told","doors","longer","begun","ways"] ["house"] (ao aaf):=mkSc rfl rfl rfl rfl (by decide +kernel)
abbrev anr:iJ:=top 38
theorem afm:FnScope ["house","room","arrows_again","numbers","number","arrows"] ["house","room"] (ao anr):=mkSc rfl rfl rfl rfl (by decide +kernel)
abbrev acd:iJ:=top 40
theorem ajs:FnScope ["script","k"] ["script","k"] (ao acd):=mkSc rfl rfl rfl rfl (by decide +kernel)
abbrev ad0:iJ:=top 41
theorem afo:FnScope ["cell","left"] ["cell"] (ao ad0):=mkSc rfl rfl rfl rfl (by decide +kernel)
abbrev acb:iJ:=top 42
theorem u6:FnScope ["pen","many","left","found","stir"] ["pen","many"] (ao acb):=mkSc rfl rfl rfl rfl (by decide +kernel)
abbrev yg:iJ:=top 43
theorem acx:FnScope ["thing"] ["thing"] (ao yg):=mkSc rfl rfl rfl rfl (by decide +kernel)
abbrev ad1:iJ:=top 44
theorem afp:FnScope ["pen","some"] ["pen"] (ao ad1):=mkSc rfl rfl rfl rfl (by decide +kernel)
abbrev aa1:iJ:=top 45
theorem ph:FnScope ["pen","most","doors","many","gates","house","room","wide"] ["pen","most","doors"] (ao aa1):=mkSc rfl rfl rfl rfl (by decide +kernel)
abbrev yq:iJ:=top 46
theorem nq:FnScope ["house","room","found","at"] ["house","room"] (ao yq):=mkSc rfl rfl rfl rfl (by decide +kernel)
abbrev ab9:iJ:=top 47
theorem yc:FnScope ["pen","most","doors","house","room","at"] ["pen","most","doors"] (ao ab9):=mkSc rfl rfl rfl rfl (by decide +kernel)
abbrev aag:iJ:=top 48
theorem jo:FnScope ["e","marks","words"] ["e"] (ao aag):=mkSc rfl rfl rfl rfl (by decide +kernel)
abbrev aa0:iJ:=top 49
theorem ah7:FnScope ["house","some"] ["house","some"] (ao aa0):=mkSc rfl rfl rfl rfl (by decide +kernel)
abbrev aca:iJ:=top 50
theorem u5:FnScope ["places","start","place","pace"] ["places"] (ao aca):=mkSc rfl rfl rfl rfl (by decide +kernel)
abbrev vp:iJ:=top 51
theorem je:FnScope ["house","found","room","more","one"] ["house"] (ao vp):=mkSc rfl rfl rfl rfl (by decide +kernel)
abbrev aay:iJ:=top 52
theorem aad:FnScope ["pen","most","doors"] ["pen"] (ao aay):=mkSc rfl rfl rfl rfl (by decide +kernel)
abbrev ab8:iJ:=top 53
theorem xx:FnScope ["house","some","room","here","door"] ["house","some","room"] (ao ab8):=mkSc rfl rfl rfl rfl (by decide +kernel)
abbrev ab7:iJ:=top 54
theorem aax:FnScope ["house","room","e","word"] ["house","room"] (ao ab7):=mkSc rfl rfl rfl rfl (by decide +kernel)
abbrev aaz:iJ:=top 55
theorem qy:FnScope ["house","room","some","due","turn","word","found"] ["house","room"] (ao aaz):=mkSc rfl rfl rfl rfl (by decide +kernel)
abbrev ah9:iJ:=top 56
theorem aej:FnScope ["script","great","cell","pen","house","room","bad","shut"] ["script"] (ao ah9):=mkSc rfl rfl rfl rfl (by decide +kernel)
theorem lnS{k:Nat}{us:List aD}(h:us.length=k+1):∃a r,us=a::r/\r.length=k:=by
 cases us with
 | nil=>cases h
 | cons a r=>exact⟨a,r,rfl,Nat.succ.inj h⟩
theorem ln1{us:List aD}(h:us.length=1):∃a0,us=[a0]:=by
 obtain⟨a,r,rfl,h'⟩:=lnS h;cases sV h';exact⟨a,rfl⟩
theorem ln2{us:List aD}(h:us.length=2):∃a0 a1,us=[a0,a1]:=by
 obtain⟨a,r,rfl,h'⟩:=lnS h;obtain⟨_,rfl⟩:=ln1 h';exact⟨_,_,rfl⟩
theorem ln3{us:List aD}(h:us.length=3):∃a0 a1 a2,us=[a0,a1,a2]:=by
 obtain⟨a,r,rfl,h'⟩:=lnS h;obtain⟨_,_,rfl⟩:=ln2 h';exact⟨_,_,_,rfl⟩
abbrev wy:iJ:=au8 (top 10)
theorem al5:FnScope ["self","room"] ["self","room"] (ao wy):=mkSc rfl rfl rfl rfl (by decide +kernel)
abbrev uc:iJ:=au8 (top 13)
theorem ajr:FnScope ["self","many","most"] ["self","many","most"] (ao uc):=mkSc rfl rfl rfl rfl (by decide +kernel)
structure Txt (K:Fg9) (mg:Str->Option aD):Prop where
 c_MOST_TOLD:∃t,mg "MOST_TOLD" = some (.int 300 t)
 z_ValueError:mg "ValueError" = none
 z_all:mg "all" = none
 z_bool:mg "bool" = none
 z_divmod:mg "divmod" = none
 z_enumerate:mg "enumerate" = none
 z_int:mg "int" = none
 z_isinstance:mg "isinstance" = none
 z_len:mg "len" = none
 z_list:mg "list" = none
 z_max:mg "max" = none
 z_min:mg "min" = none
 z_range:mg "range" = none
 z_set:mg "set" = none
 z_sorted:mg "sorted" = none
 z_tuple:mg "tuple" = none
 z_zip:mg "zip" = none
 sub:ah4 K NS=true
 cat:CatT K mg
 k_ArrowError:ClsT K mg "ArrowError"
 k_NoArrows:ClsT K mg "NoArrows"
 k_NoRoom:ClsT K mg "NoRoom"
 k_NoWalkers:ClsT K mg "NoWalkers"
 k_NotShut:ClsT K mg "NotShut"
 k_NeverBack:ClsT K mg "NeverBack"
 k_NoTour:ClsT K mg "NoTour"
 k_NoRow:ClsT K mg "NoRow"
 k_NoHouse:ClsT K mg "NoHouse"
 k_NotOpen:ClsT K mg "NotOpen"
 k_Nobody:ClsT K mg "Nobody"
 k_NoText:ClsT K mg "NoText"
 k_TooGreat:ClsT K mg "TooGreat"
 r_ArrowError:RaiT K mg "ArrowError"
 r_NoArrows:RaiT K mg "NoArrows"
 r_NoRoom:RaiT K mg "NoRoom"
 r_NoWalkers:RaiT K mg "NoWalkers"
 r_NotShut:RaiT K mg "NotShut"
 r_NeverBack:RaiT K mg "NeverBack"
 r_NoTour:RaiT K mg "NoTour"
 r_NoRow:RaiT K mg "NoRow"
 i_NotOpen:IniT K mg "NotOpen" "room" "NotOpen.__init__" wy
 i_TooGreat:IniT2 K mg "TooGreat" "many" "most" "TooGreat.__init__" uc
 n_many:aum K ["TooGreat"] "many" = true
 n_most:aum K ["TooGreat"] "most" = true
section
variable(P:cA)(w:dJ)(K:Fg9)(mg:Str->Option aD)(base:fK)
abbrev Dd0:Prop:=Dfn P w K mg base "is_whole" ["thing"] 1 (spOf K 1 zx)
abbrev Dd1:Prop:=Dfn P w K mg base "is_whole_within" ["thing","least","most"] 2 (spOf K 3 j7)
abbrev Dd2:Prop:=Dfn P w K mg base "is_room_number" ["house","thing"] 3 (spOf K 2 lu)
abbrev Dd4:Prop:=Dfn P w K mg base "trap" ["house"] 1 (spOf K 1 ahp)
abbrev Dd7:Prop:=Dfn P w K mg base "row_with" ["rows","at"] 1 (spOf K 2 zu)
abbrev Dd8:Prop:=Dfn P w K mg base "swapped" ["rows","one","other"] 1 (spOf K 3 abd)
abbrev Dd9:Prop:=Dfn P w K mg base "cleared" ["rows","at","bottom"] 1 (spOf K 3 abf)
abbrev Dd10:Prop:=Dfn P w K mg base "solved" ["rows","right"] 2 (spOf K 2 adc)
abbrev Dd13:Prop:=Dfn P w K mg base "leave" ["house","turning","room"] 1 (spOf K 3 agf)
abbrev Dd6:Prop:=Dfn P w K mg base "refuse_not_open" ["house"] 3 (spOf K 1 gn)
abbrev Dd12:Prop:=Dfn P w K mg base "doors_square" ["house"] 1 (spOf K 1 qj)
abbrev Dd11:Prop:=Dfn P w K mg base "determinant" ["rows"] 3 (spOf K 1 rn)
abbrev Dx6:Prop:=DfnX P w K mg base "refuse_not_open" ["house"] 3 (spX K 1 gn)
abbrev Dd5:Prop:=Dfn P w K mg base "is_open" ["house"] 2 (spOf K 1 abe)
abbrev Dd15:Prop:=Dfn P w K mg base "again_many" ["house"] 4 (spOf K 1 jb)
abbrev Dd16:Prop:=Dfn P w K mg base "may_go_on" ["house","begun"] 3 (spOf K 2 uh)
abbrev Dx15:Prop:=DfnX P w K mg base "again_many" ["house"] 4 (spX K 1 jb)
abbrev Dd3:Prop:=Dfn P w K mg base "refuse_no_room" ["house","thing"] 4 (spOf K 2 gr)
abbrev Dd17:Prop:=Dfn P w K mg base "all_again" ["house"] 5 (spOf K 1 jw)
abbrev Dd14:Prop:=Dfn P w K mg base "led_out" ["house","arrows","room"] 2 (spOf K 3 f_led_out)
abbrev Dx3:Prop:=DfnX P w K mg base "refuse_no_room" ["house","thing"] 4 (spX K 2 gr)
abbrev Dx17:Prop:=DfnX P w K mg base "all_again" ["house"] 5 (spX K 1 jw)
abbrev Dd21:Prop:=Dfn P w K mg base "_law_draw" ["pen","many"] 1 (spOf K 2 f__law_draw)
abbrev Dd24:Prop:=Dfn P w K mg base "_law_house" ["pen","most","doors"] 2 (spOf K 3 f__law_house)
abbrev Dd25:Prop:=Dfn P w K mg base "_law_reached" ["house","room"] 1 (spOf K 2 ql)
abbrev Dd28:Prop:=Dfn P w K mg base "_law_lasts" ["house","some"] 1 (spOf K 2 f__law_lasts)
abbrev Dd29:Prop:=Dfn P w K mg base "_law_free" ["places"] 1 (spOf K 1 um)
abbrev Dd26:Prop:=Dfn P w K mg base "_law_open" ["pen","most","doors"] 3 (spOf K 3 f__law_open)
abbrev Dd18:Prop:=Dfn P w K mg base "sent" ["house","room"] 6 (spOf K 2 zr)
abbrev Dx18:Prop:=DfnX P w K mg base "sent" ["house","room"] 6 (spX K 2 zr)
abbrev Du27:Prop:=DfnU P w K mg base "_law_kind" ["e"] 1 (spOf K 1 qp)
abbrev Du22:Prop:=DfnU P w K mg base "_law_whole" ["thing"] 1 (spOf K 1 j0)
abbrev Dd30:Prop:=Dfn P w K mg base "_law_all_again" ["house"] 2 (spOf K 1 jk)
abbrev Dd32:Prop:=Dfn P w K mg base "_law_sent" ["house","some","room"] 1 (spOf K 3 f__law_sent)
abbrev Dd33:Prop:=Dfn P w K mg base "_law_told" ["house","room"] 7 (spOf K 2 cg)
abbrev Dd22:Prop:=Dfn P w K mg base "_law_whole" ["thing"] 1 (spOf K 1 j0)
abbrev Dd34:Prop:=Dfn P w K mg base "_law_right" ["house","room"] 8 (spOf K 2 fj)
abbrev Dd19:Prop:=Dfn P w K mg base "_law_cell" ["script","k"] 1 (spOf K 2 f__law_cell)
abbrev Dd20:Prop:=Dfn P w K mg base "_law_pen" ["cell"] 1 (spOf K 1 f__law_pen)
abbrev Dd31:Prop:=Dfn P w K mg base "_law_small" ["pen"] 4 (spOf K 1 f__law_small)
abbrev Dd23:Prop:=Dfn P w K mg base "_law_odd" ["pen"] 2 (spOf K 1 f__law_odd)
end
section
variable{P:cA}{w:dJ}{K:Fg9}{mg:Str->Option aD}{base:fK}{f:aX}{fd:fJ}
theorem amj(F:Fun K "is_whole" "is_whole" adz f fd)(T:Txt K mg):FnOk P w K mg base CX0 1 f fd ["thing"] (spOf K 1 zx) :=
 jg F al6 rfl rfl fun cdv A outer s H E hr =>
  (az (fc (EV.toR (aow (agi (t:=.int) (aj1 (by rfl) T.z_int apa) (by rfl) T.z_isinstance bh (bz (pv 0))) (aou (aup (agi (t:=.bool) (aj1 (by rfl) T.z_bool ane) (by rfl) T.z_isinstance bh (bz (pv 0)))))))))
theorem ac4(F:Fun K "is_whole_within" "is_whole_within" ud f fd)(T:Txt K mg)(d0:Dd0 P w K mg base):FnOk P w K mg base CX0 2 f fd ["thing","least","most"] (spOf K 3 j7) :=
 jg F acv rfl rfl fun cdv A outer s H E hr =>
  (az (fc (EV.toR (aow (ER.toD (ik d0 (hr.mono (by decide)) (by rfl) (eg_n (pv 0) di))) (aou (ax0 a0z a0z (bc (pv 1)) (bc (pv 0)) (bc (pv 2))))))))
theorem ad4(F:Fun K "is_room_number" "is_room_number" vo f fd)(T:Txt K mg)(d1:Dd1 P w K mg base):FnOk P w K mg base CX0 3 f fd ["house","thing"] (spOf K 2 lu) :=
 jg F adx rfl rfl fun cdv A outer s H E hr =>
  (az (fc (ik d1 (hr.mono (by decide)) (by rfl) (eg_v (bc (pv 1)) (eg_v bf (eg_v (ER.toD (dw ace (e2_v (ER.toD (dz j9 (by rfl) T.z_len kh (ea_n (pv 0) f9))) (EV.toB bf)))) di))))))
theorem ad3(F:Fun K "refuse_no_room" "refuse_no_room" qm f fd)(T:Txt K mg)(d2:Dd2 P w K mg base):FnOk P w K mg base CX0 4 f fd ["house","thing"] (spOf K 2 gr) :=
 jg F yx rfl rfl fun cdv A outer s H E hr =>
  (az (vm (ET.s (ade (xj (ER.toD (ik d2 (hr.mono (by decide)) (by rfl) (eg_n (pv 0) (eg_v (bc (pv 1)) di))))))) (az av0) jm))
theorem ac2(F:Fun K "refuse_no_room" "refuse_no_room" qm f fd)(T:Txt K mg)(d2:Dd2 P w K mg base):FnOk P w K mg base (CX1 P w) 4 f fd ["house","thing"] (spX K 2 gr) :=
 fn_x F yx rfl rfl fun cdv A outer s H E hr =>
  (aav (azn (ET.s (ade (xj (ER.toD (ik d2 (hr.mono (by decide)) (by rfl) (eg_n (pv 0) (eg_v (bc (pv 1)) di))))))) vz (aav (ara rfl rfl (by rfl) T.r_NoRoom)) aly))
theorem a01(F:Fun K "trap" "trap" asi f fd)(T:Txt K mg):FnOk P w K mg base CX0 1 f fd ["house"] (spOf K 1 ahp) :=
 jg F afl rfl rfl fun cdv A outer s H E hr =>
  (ak (cz (i:=1) afl.nd rfl (mO rfl) (ak5 rfl (by rfl) T.z_list (by rfl) T.z_range (aa (ER.toD (dz j9 (by rfl) T.z_len kh (ea_n (pv 0) f9))) bu))) (ak (cz (i:=2) afl.nd rfl (bI rfl) (dw jc (e2_v (ER.toD (dz j9 (by rfl) T.z_len kh (ea_n (pv 1) f9))) (EV.toB bf)))) (ak (aey fuel cI (jz as6 (e2_v (ER.toD (dz j9 (by rfl) T.z_len kh (ea_n (pv 1) f9))) (bz (pv 2))) (jt _)) (ak (cz (i:=2) afl.nd rfl (bI rfl) (dz j9 (by rfl) T.z_len kh (ea_n (pv 1) f9))) (az (cz (i:=1) afl.nd rfl (mO rfl) (mq ["staying","house"] ["room","staying","house"] [none,some 1,some 0] rfl (ou (bc (pv 1))) (fun _ _ _=>(cj (i:=0) (show(["room","staying","house"]:List Str).Nodup by decide +kernel) rfl (bI rfl))) (fun _ _ _=>(agl (xj (ER.toD (dz (azi rfl) (by rfl) T.z_all azk (ea_v (ER.toD (mq ["staying"] ["door","staying"] [none,some 1] rfl (ou (ER.toD (jx (e2_n (pv 2) (bz (pv 0))) (fun _ _=>by rfl)))) (fun _ _ _=>(cj (i:=0) (show(["door","staying"]:List Str).Nodup by decide +kernel) rfl (bI rfl))) (fun _ _ _=>km) (fun _ _ _=>(ER.toD (aut (a4m hr.units) (e2_n (pv 0) (bz (pv 1))) (by with_unfolding_all rfl)))))) f9)))))) (fun _ _ _=>(bc (pv 0)))))))) (az (fc (jd ux (by rfl) T.z_tuple uy (ea_n (pv 1) f9)))))))
theorem ap6(F:Fun K "is_open" "is_open" afs f fd)(T:Txt K mg)(d4:Dd4 P w K mg base):FnOk P w K mg base CX0 2 f fd ["house"] (spOf K 1 abe) :=
 jg F apw rfl rfl fun cdv A outer s H E hr =>
  (az (fc (aut (aj4 hr.units) (e2_v (ER.toD (ik d4 (hr.mono (by decide)) (by rfl) (eg_n (pv 0) di))) (EV.toB (gw bu))) (jt _))))
theorem ac3(F:Fun K "refuse_not_open" "refuse_not_open" pq f fd)(T:Txt K mg)(d4:Dd4 P w K mg base):FnOk P w K mg base CX0 3 f fd ["house"] (spOf K 1 gn) :=
 jg F my rfl rfl fun cdv A outer s H E hr =>
  (ak (SV.s (cz (i:=1) my.nd rfl (bI rfl) (ik d4 (hr.mono (by decide)) (by rfl) (eg_n (pv 0) di)))) (az (vm (ET.s (jz (yj hr.units) (e2_n (pv 1) (EV.toB (gw bu))) (jt _))) (az arz) jm)))
theorem acg(F:Fun K "refuse_not_open" "refuse_not_open" pq f fd)(T:Txt K mg)(d4:Dd4 P w K mg base):FnOk P w K mg base (CX1 P w) 3 f fd ["house"] (spX K 1 gn) :=
 fn_x F my rfl rfl fun cdv A outer s H E hr =>
  (xr (SV.s (cz (i:=1) my.nd rfl (bI rfl) (ik d4 (hr.mono (by decide)) (by rfl) (eg_n (pv 0) di)))) aji (aav (azn (ET.s (jz (yj hr.units) (e2_n (pv 1) (EV.toB (gw bu))) (jt _))) vz (aav (arb rfl rfl (by rfl) T.i_NotOpen al5 rfl (by decide) (by decide) (fun _=>rfl) (bI rfl) (bI rfl) (aqn fun _ _ _ _ _ _ us hl=>by obtain⟨_,_,rfl⟩:=ln2 hl;rfl) (hr.mono (by decide)) (EV.s (ER.toD (jx (e2_n (pv 1) (EV.toB bf)) (fun _ _=>by rfl)))) vz)) aly)))
theorem ami(F:Fun K "row_with" "row_with" ady f fd)(T:Txt K mg):FnOk P w K mg base CX0 1 f fd ["rows","at"] (spOf K 2 zu) :=
 jg F afn rfl rfl fun cdv A outer s H E hr =>
  (ak (sy cI rfl (aty (by rfl) T.z_range (aa (bc (pv 1)) (aa (ER.toD (dz j9 (by rfl) T.z_len kh (ea_n (pv 0) f9))) bu))) (cj (i:=2) afn.nd rfl (bI rfl)) (az (vm (jz (yj hr.units) (e2_v (ER.toD (jx (e2_v (ER.toD (jx (e2_n (pv 0) (bz (pv 2))) (fun _ _=>by rfl))) (bz (pv 1))) (fun _ _=>by rfl))) (EV.toB bf)) (jt _)) (az (fc (aak (pv 2)))) jm))) (az (fc (EV.toR ahs))))
theorem ap4(F:Fun K "swapped" "swapped" afq f fd)(T:Txt K mg):FnOk P w K mg base CX0 1 f fd ["rows","one","other"] (spOf K 3 abd) :=
 jg F ahd rfl rfl fun cdv A outer s H E hr =>
  (ak (adw (i:=3) [] ["row"] [none] ahd.nd rfl (bI rfl) rfl (ou (bc (pv 0))) (fun _ _ _=>(cj (i:=0) (show(["row"]:List Str).Nodup by decide +kernel) rfl (bI rfl))) (fun _ _ _=>km) (fun _ _ _=>(ER.toD (jd acs (by rfl) T.z_list aap (ea_n (pv 0) f9))))) (ak (vm (jz (yj hr.units) (e2_n (pv 1) (bz (pv 2))) (jt _)) (ak (afd (ER.toD (jd acs (by rfl) T.z_list aap (ea_v (ER.toD (jx (e2_n (pv 0) (bz (pv 2))) (fun _ _=>by rfl))) f9))) (pv 3) (bc (pv 1))) (az (afd (ER.toD (mq [] ["number"] [none] rfl (ou (ER.toD (jx (e2_n (pv 0) (bz (pv 1))) (fun _ _=>by rfl)))) (fun _ _ _=>(cj (i:=0) (show(["number"]:List Str).Nodup by decide +kernel) rfl (bI rfl))) (fun _ _ _=>km) (fun _ _ _=>(zy (bc (pv 0)))))) (pv 3) (bc (pv 2))))) jm) (az (fc (aak (pv 3))))))
theorem ap7(F:Fun K "cleared" "cleared" aft f fd)(T:Txt K mg):FnOk P w K mg base CX0 1 f fd ["rows","at","bottom"] (spOf K 3 abf) :=
 jg F za rfl rfl fun cdv A outer s H E hr =>
  (ak (cz (i:=3) za.nd rfl (mO rfl) (jx (e2_n (pv 0) (bz (pv 1))) (fun _ _=>by rfl))) (ak (cz (i:=4) za.nd rfl (bI rfl) (ji bu)) (ak (sy cI rfl (ams (by rfl) T.z_enumerate (aa (bc (pv 0)) bu)) (aep rfl (j5 (cj (i:=5) za.nd rfl (bI rfl)) (j5 (cj (i:=6) za.nd rfl (mO rfl)) aa9))) (az (vm (jz (aj4 hr.units) (e2_n (pv 5) (bz (pv 1))) (jt _)) (az (wz (EV.toR (agh zg iZ PySem.F.type_list_append zj (pv 4) (aa (ER.toD (jd acs (by rfl) T.z_list aap (ea_n (pv 3) f9))) bu))))) (az (wz (EV.toR (agh zg iZ PySem.F.type_list_append zj (pv 4) (aa (ER.toD (mq ["row","head","bottom","at"] ["own","over","row","head","bottom","at"] [none,none,some 6,some 3,some 2,some 1] rfl (aiv (by rfl) T.z_zip (aa (bc (pv 6)) (aa (bc (pv 3)) bu))) (fun _ _ _=>(aep rfl (j5 (cj (i:=0) (show(["own","over","row","head","bottom","at"]:List Str).Nodup by decide +kernel) rfl (bI rfl)) (j5 (cj (i:=1) (show(["own","over","row","head","bottom","at"]:List Str).Nodup by decide +kernel) rfl (bI rfl)) aa9)))) (fun _ _ _=>km) (fun _ _ _=>(ER.toD (dw as8 (e2_v (ER.toD (dw ace (e2_v (ER.toD (dw vy (e2_v (ER.toD (jx (e2_n (pv 3) (bz (pv 5))) (fun _ _=>by rfl))) (bz (pv 0))))) (EV.toB (ER.toD (dw vy (e2_v (ER.toD (jx (e2_n (pv 2) (bz (pv 5))) (fun _ _=>by rfl))) (bz (pv 1))))))))) (bz (pv 4)))))))) bu)))))))) (az (fc (aak (pv 4)))))))
theorem as9(F:Fun K "solved" "solved" ah8 f fd)(T:Txt K mg)(d7:Dd7 P w K mg base)(d8:Dd8 P w K mg base)(d9:Dd9 P w K mg base):FnOk P w K mg base CX0 2 f fd ["rows","right"] (spOf K 2 adc) :=
 jg F uz rfl rfl fun cdv A outer s H E hr =>
  (ak (adw (i:=2) [] ["row","number"] [none,none] uz.nd rfl (bI rfl) rfl (aiv (by rfl) T.z_zip (aa (bc (pv 0)) (aa (bc (pv 1)) bu))) (fun _ _ _=>(aep rfl (j5 (cj (i:=0) (show(["row","number"]:List Str).Nodup by decide +kernel) rfl (bI rfl)) (j5 (cj (i:=1) (show(["row","number"]:List Str).Nodup by decide +kernel) rfl (bI rfl)) aa9)))) (fun _ _ _=>km) (fun _ _ _=>(ER.toD (dw jc (e2_v (ER.toD (jd acs (by rfl) T.z_list aap (ea_n (pv 0) f9))) (EV.toB (ER.toD (ji (aa (bc (pv 1)) bu))))))))) (ak (cz (i:=3) uz.nd rfl (bI rfl) (EV.toR bf)) (ak (sy cI rfl (lr (by rfl) T.z_range (aa (ER.toD (dz j9 (by rfl) T.z_len kh (ea_n (pv 0) f9))) bu)) (cj (i:=4) uz.nd rfl (bI rfl)) (ak (cz (i:=5) uz.nd rfl (bI rfl) (ik d7 (hr.mono (by decide)) (by rfl) (eg_n (pv 2) (eg_v (bc (pv 4)) di)))) (ak (vm (ak3 (bz (pv 5))) (az (fc (EV.toR ahs))) jm) (ak (cz (i:=2) uz.nd rfl (bI rfl) (ik d8 (hr.mono (by decide)) (by rfl) (eg_v (bc (pv 2)) (eg_v (bc (pv 4)) (eg_v (bc (pv 5)) di))))) (ak (cz (i:=2) uz.nd rfl (bI rfl) (ik d9 (hr.mono (by decide)) (by rfl) (eg_v (bc (pv 2)) (eg_n (pv 4) (eg_n (pv 3) di))))) (az (cz (i:=3) uz.nd rfl (bI rfl) (jx (e2_v (ER.toD (jx (e2_n (pv 2) (bz (pv 4))) (fun _ _=>by rfl))) (bz (pv 4))) (fun _ _=>by rfl))))))))) (az (fc (EV.toR (gw (aa (ER.toD (mq ["rows"] ["row","rows"] [none,some 0] rfl (ou (bc (pv 2))) (fun _ _ _=>(cj (i:=0) (show(["row","rows"]:List Str).Nodup by decide +kernel) rfl (bI rfl))) (fun _ _ _=>km) (fun _ _ _=>(ER.toD (jx (e2_n (pv 0) (EV.toB (ER.toD (dz j9 (by rfl) T.z_len kh (ea_n (pv 1) f9))))) (fun _ _=>by rfl)))))) (aa (bc (pv 3)) bu)))))))))
theorem ag3(F:Fun K "determinant" "determinant" aae f fd)(T:Txt K mg)(d10:Dd10 P w K mg base):FnOk P w K mg base CX0 3 f fd ["rows"] (spOf K 1 rn) :=
 jg F ab1 rfl rfl fun cdv A outer s H E hr =>
  (ak (cz (i:=1) ab1.nd rfl (bI rfl) (ik d10 (hr.mono (by decide)) (by rfl) (eg_v (bc (pv 0)) (eg_v (ER.toD (dw vy (e2_v (ER.toD (ji (aa bf bu))) (EV.toB (ER.toD (dz j9 (by rfl) T.z_len kh (ea_n (pv 0) f9))))))) di)))) (az (fc (a94 (ak3 (bz (pv 1))) (EV.toR bf) (jx (e2_n (pv 1) (EV.toB bf)) (fun _ _=>by rfl))))))
theorem af0(F:Fun K "doors_square" "doors_square" yp f fd)(T:Txt K mg):FnOk P w K mg base CX0 1 f fd ["house"] (spOf K 1 qj) :=
 jg F nj rfl rfl fun cdv A outer s H E hr =>
  (ak (cz (i:=1) nj.nd rfl (bI rfl) (ji bu)) (ak (sy cI rfl (ams (by rfl) T.z_enumerate (aa (bc (pv 0)) bu)) (aep rfl (j5 (cj (i:=2) nj.nd rfl (bI rfl)) (j5 (cj (i:=3) nj.nd rfl (mO rfl)) aa9))) (ak (adw (i:=4) ["doors"] ["other","doors"] [none,some 3] nj.nd rfl (bI rfl) rfl (lr (by rfl) T.z_range (aa (ER.toD (dz j9 (by rfl) T.z_len kh (ea_n (pv 0) f9))) bu)) (fun _ _ _=>(cj (i:=0) (show(["other","doors"]:List Str).Nodup by decide +kernel) rfl (bI rfl))) (fun _ _ _=>km) (fun _ _ _=>(zy (ai4 hr.units (pv 1) (aa (bc (pv 0)) bu))))) (ak (ajk (pv 4) (bc (pv 2)) (ER.toD (dz j9 (by rfl) T.z_len kh (ea_n (pv 3) f9))) ay7) (az (wz (EV.toR (agh zg iZ PySem.F.type_list_append zj (pv 1) (aa (bc (pv 4)) bu)))))))) (az (fc (aak (pv 1))))))
theorem awv(F:Fun K "leave" "leave" al7 f fd)(T:Txt K mg):FnOk P w K mg base CX0 1 f fd ["house","turning","room"] (spOf K 3 agf) :=
 jg F anq rfl rfl fun cdv A outer s H E hr =>
  (ak (cz (i:=3) anq.nd rfl (bI rfl) (jx (e2_n (pv 1) (bz (pv 2))) (fun _ _=>by rfl))) (ak (afd (ER.toD (dw acf (e2_v (ER.toD (dw jc (e2_n (pv 3) (EV.toB bf)))) (EV.toB (ER.toD (dz j9 (by rfl) T.z_len kh (ea_v (ER.toD (jx (e2_n (pv 0) (bz (pv 2))) (fun _ _=>by rfl))) f9))))))) (pv 1) (bc (pv 2))) (az (fc (jx (e2_v (ER.toD (jx (e2_n (pv 0) (bz (pv 2))) (fun _ _=>by rfl))) (bz (pv 3))) (fun _ _=>by rfl))))))
theorem ap5(F:Fun K "led_out" "led_out" afr f fd)(T:Txt K mg)(d13:Dd13 P w K mg base):FnOk P w K mg base CX0 2 f fd ["house","arrows","room"] (spOf K 3 f_led_out) :=
 jg F yz rfl rfl fun cdv A outer s H E hr =>
  (ak (cz (i:=3) yz.nd rfl (bI rfl) (jd acs (by rfl) T.z_list aap (ea_n (pv 1) f9))) (ak (cz (i:=4) yz.nd rfl (bI rfl) (dw vy (e2_v (ER.toD (ji (aa bf bu))) (EV.toB (ER.toD (dz j9 (by rfl) T.z_len kh (ea_n (pv 0) f9))))))) (ak (cz (i:=5) yz.nd rfl (bI rfl) (EV.toR (bc (pv 2)))) (ak (aey fuel cI (jz aj3 (e2_n (pv 5) (EV.toB bf)) (jt _)) (ak (ajk (pv 4) (bc (pv 5)) bf ay7) (az (cz (i:=5) yz.nd rfl (bI rfl) (ik d13 (hr.mono (by decide)) (by rfl) (eg_n (pv 0) (eg_n (pv 3) (eg_v (bc (pv 5)) di)))))))) (az (fc (EV.toR (gw (aa (bc (pv 5)) (aa (ER.toD (jd ux (by rfl) T.z_tuple uy (ea_n (pv 3) f9))) (aa (ER.toD (jd ux (by rfl) T.z_tuple uy (ea_n (pv 4) f9))) bu)))))))))))
theorem aii(F:Fun K "again_many" "again_many" ye f fd)(T:Txt K mg)(d6:Dd6 P w K mg base)(d12:Dd12 P w K mg base)(d11:Dd11 P w K mg base)(x6:Dx6 P w K mg base):FnOk P w K mg base CX0 4 f fd ["house"] (spOf K 1 jb) :=
 jg F acw rfl rfl fun cdv A outer s H E hr =>
  (ak (wz (ik d6 (hr.mono (by decide)) (by rfl) (eg_n (pv 0) di))) (az (SV.s (fc (ik d11 (hr.mono (by decide)) (by rfl) (eg_v (ER.toD (ik d12 (hr.mono (by decide)) (by rfl) (eg_v (bc (pv 0)) di))) di))))))
theorem ag1(F:Fun K "again_many" "again_many" ye f fd)(T:Txt K mg)(d6:Dd6 P w K mg base)(d12:Dd12 P w K mg base)(d11:Dd11 P w K mg base)(x6:Dx6 P w K mg base):FnOk P w K mg base (CX1 P w) 4 f fd ["house"] (spX K 1 jb) :=
 fn_x F acw rfl rfl fun cdv A outer s H E hr =>
  (xr (wz (ik d6 (hr.mono (by decide)) (by rfl) (eg_n (pv 0) di))) (arh (arj x6 (hr.mono (by decide)) (by rfl) (eg_n (pv 0) di) (xa_n (pv 0) ag8))) (aav aji))
theorem aj5(F:Fun K "may_go_on" "may_go_on" ab6 f fd)(T:Txt K mg)(d5:Dd5 P w K mg base):FnOk P w K mg base CX0 3 f fd ["house","begun"] (spOf K 2 uh) :=
 jg F aei rfl rfl fun cdv A outer s H E hr =>
  (ak (cz (i:=2) aei.nd rfl (bI rfl) (jd ux (by rfl) T.z_tuple uy (ea_v (ER.toD (mq [] ["arrow","doors"] [none,none] rfl (aiv (by rfl) T.z_zip (aa (bc (pv 1)) (aa (bc (pv 0)) bu))) (fun _ _ _=>(aep rfl (j5 (cj (i:=0) (show(["arrow","doors"]:List Str).Nodup by decide +kernel) rfl (bI rfl)) (j5 (cj (i:=1) (show(["arrow","doors"]:List Str).Nodup by decide +kernel) rfl (bI rfl)) aa9)))) (fun _ _ _=>km) (fun _ _ _=>(gw (aa (ER.toD (jx (e2_n (pv 1) (EV.toB (ER.toD (dw ace (e2_n (pv 0) (EV.toB bf)))))) (fun _ _=>by rfl))) bu))))) f9))) (az (fc (ik d5 (hr.mono (by decide)) (by rfl) (eg_v (ER.toD (dw jc (e2_n (pv 2) (EV.toB (ER.toD (aus (pv 0) (agj (ER.toD (dz j9 (by rfl) T.z_len kh (ea_n (pv 1) f9)))) am8)))))) di)))))
theorem aj6(F:Fun K "all_again" "all_again" aaf f fd)(T:Txt K mg)(d15:Dd15 P w K mg base)(d16:Dd16 P w K mg base)(x15:Dx15 P w K mg base):FnOk P w K mg base CX0 5 f fd ["house"] (spOf K 1 jw) :=
 jg F gf rfl rfl fun cdv A outer s H E hr =>
  (ak (cz (i:=1) gf.nd rfl (bI rfl) (ik d15 (hr.mono (by decide)) (by rfl) (eg_v (EV.s (bc (pv 0))) di))) (ak (vm (ET.s (jz as7 (e2_n (pv 1) (EV.toB (ev_c (awk (by rfl) T.c_MOST_TOLD) fun _=>.int _))) (jt _))) (az ajl) jm) (ak (SV.s (cz (i:=2) gf.nd rfl (bI rfl) (ji (aa (gw bu) bu)))) (ak (SV.s (sy cI rfl (ou (bc (pv 0))) (cj (i:=3) gf.nd rfl (bI rfl)) (ak (cz (i:=4) gf.nd rfl (bI rfl) (ji bu)) (ak (sy cI rfl (ou (bc (pv 2))) (cj (i:=5) gf.nd rfl (mO rfl)) (ak (adw (i:=6) ["begun"] ["arrow","begun"] [none,some 5] gf.nd rfl (bI rfl) rfl (lr (by rfl) T.z_range (aa (ER.toD (dz j9 (by rfl) T.z_len kh (ea_n (pv 3) f9))) bu)) (fun _ _ _=>(cj (i:=0) (show(["arrow","begun"]:List Str).Nodup by decide +kernel) rfl (bI rfl))) (fun _ _ _=>km) (fun _ _ _=>(ER.toD (dw jc (e2_n (pv 1) (EV.toB (gw (aa (bc (pv 0)) bu)))))))) (az (wz (EV.toR (agh ahh uL PySem.F.type_list_extend ahi (pv 4) (aa (ER.toD (mq ["house"] ["way","house"] [none,some 0] rfl (ou (bc (pv 6))) (fun _ _ _=>(cj (i:=0) (show(["way","house"]:List Str).Nodup by decide +kernel) rfl (bI rfl))) (fun _ _ _=>(agl (xj (ER.toD (ik d16 (hr.mono (by decide)) (by rfl) (eg_n (pv 1) (eg_n (pv 0) di))))))) (fun _ _ _=>(bc (pv 0))))) bu))))))) (az (cz (i:=2) gf.nd rfl (bI rfl) (aak (pv 4)))))))) (az (SV.s (fc (aak (pv 2)))))))))
theorem aig(F:Fun K "all_again" "all_again" aaf f fd)(T:Txt K mg)(d15:Dd15 P w K mg base)(d16:Dd16 P w K mg base)(x15:Dx15 P w K mg base):FnOk P w K mg base (CX1 P w) 5 f fd ["house"] (spX K 1 jw) :=
 fn_x F gf rfl rfl fun cdv A outer s H E hr =>
  (xr (cz (i:=1) gf.nd rfl (bI rfl) (ik d15 (hr.mono (by decide)) (by rfl) (eg_v (EV.s (bc (pv 0))) di))) (ayk (arj x15 (hr.mono (by decide)) (by rfl) (eg_v (EV.s (bc (pv 0))) di) (xa_v (js:=[]) (EV.s (bc (pv 0))) (XE.no vz) ag8))) (xr (vm (ET.s (jz as7 (e2_n (pv 1) (EV.toB (ev_c (awk (by rfl) T.c_MOST_TOLD) fun _=>.int _))) (jt _))) (az ajl) jm) (azn (ET.s (jz as7 (e2_n (pv 1) (EV.toB (ev_c (awk (by rfl) T.c_MOST_TOLD) fun _=>.int _))) (jt _))) vz (aav (apj rfl rfl (by rfl) T.i_TooGreat ajr (by decide) rfl (by decide) (by decide) (by decide) (by decide) (fun _=>rfl) (fun _=>rfl) (bI rfl) (bI rfl) (bI rfl) (amw fun _ _ _ _ _ _ us hl=>by obtain⟨_,_,_,rfl⟩:=ln3 hl;rfl) (hr.mono (by decide)) (EV.s (bc (pv 1))) (EV.s (ev_c (awk (by rfl) T.c_MOST_TOLD) fun _=>.int _)) vz vz)) aly) (xr (SV.s (cz (i:=2) gf.nd rfl (bI rfl) (ji (aa (gw bu) bu)))) aji (xr (SV.s (sy cI rfl (ou (bc (pv 0))) (cj (i:=3) gf.nd rfl (bI rfl)) (ak (cz (i:=4) gf.nd rfl (bI rfl) (ji bu)) (ak (sy cI rfl (ou (bc (pv 2))) (cj (i:=5) gf.nd rfl (mO rfl)) (ak (adw (i:=6) ["begun"] ["arrow","begun"] [none,some 5] gf.nd rfl (bI rfl) rfl (lr (by rfl) T.z_range (aa (ER.toD (dz j9 (by rfl) T.z_len kh (ea_n (pv 3) f9))) bu)) (fun _ _ _=>(cj (i:=0) (show(["arrow","begun"]:List Str).Nodup by decide +kernel) rfl (bI rfl))) (fun _ _ _=>km) (fun _ _ _=>(ER.toD (dw jc (e2_n (pv 1) (EV.toB (gw (aa (bc (pv 0)) bu)))))))) (az (wz (EV.toR (agh ahh uL PySem.F.type_list_extend ahi (pv 4) (aa (ER.toD (mq ["house"] ["way","house"] [none,some 0] rfl (ou (bc (pv 6))) (fun _ _ _=>(cj (i:=0) (show(["way","house"]:List Str).Nodup by decide +kernel) rfl (bI rfl))) (fun _ _ _=>(agl (xj (ER.toD (ik d16 (hr.mono (by decide)) (by rfl) (eg_n (pv 1) (eg_n (pv 0) di))))))) (fun _ _ _=>(bc (pv 0))))) bu))))))) (az (cz (i:=2) gf.nd rfl (bI rfl) (aak (pv 4)))))))) aji (aav aji)))))
theorem a02(F:Fun K "sent" "sent" anr f fd)(T:Txt K mg)(d3:Dd3 P w K mg base)(d17:Dd17 P w K mg base)(d14:Dd14 P w K mg base)(x3:Dx3 P w K mg base)(x17:Dx17 P w K mg base):FnOk P w K mg base CX0 6 f fd ["house","room"] (spOf K 2 zr) :=
 jg F afm rfl rfl fun cdv A outer s H E hr =>
  (ak (wz (ik d3 (hr.mono (by decide)) (by rfl) (eg_n (pv 0) (eg_v (EV.s (bc (pv 1))) di)))) (ak (cz (i:=2) afm.nd rfl (bI rfl) (ik d17 (hr.mono (by decide)) (by rfl) (eg_v (EV.s (bc (pv 0))) di))) (SVs.s (azz (iD:=3) (iN:=4) (iA:=5) hr.units cI rfl afm.nd rfl rfl rfl (by first | exact bI rfl | exact mO rfl) (by first | exact bI rfl | exact mO rfl) (by first | exact bI rfl | exact mO rfl) (by decide) (by decide) (by decide) (pv 3) (pv 4) (pv 5) (ams (by rfl) T.z_enumerate (aa (bc (pv 2)) bu)) (az (fc (mq ["room","numbers","house"] ["arrows","room","numbers","house"] [none,some 1,some 3,some 0] rfl (ou (bc (pv 2))) (fun _ _ _=>(cj (i:=0) (show(["arrows","room","numbers","house"]:List Str).Nodup by decide +kernel) rfl (bI rfl))) (fun _ _ _=>km) (fun _ _ _=>(a6h hr.units (bc (pv 2)) (ER.toD (jx (e2_v (ER.toD (ik d14 (hr.mono (by decide)) (by rfl) (eg_n (pv 3) (eg_n (pv 0) (eg_n (pv 1) di))))) (EV.toB bf)) (fun _ _=>by rfl))) (fun _ _=>by rfl))))))))))
theorem awu(F:Fun K "sent" "sent" anr f fd)(T:Txt K mg)(d3:Dd3 P w K mg base)(d17:Dd17 P w K mg base)(d14:Dd14 P w K mg base)(x3:Dx3 P w K mg base)(x17:Dx17 P w K mg base):FnOk P w K mg base (CX1 P w) 6 f fd ["house","room"] (spX K 2 zr) :=
 fn_x F afm rfl rfl fun cdv A outer s H E hr =>
  (xr (wz (ik d3 (hr.mono (by decide)) (by rfl) (eg_n (pv 0) (eg_v (EV.s (bc (pv 1))) di)))) (arh (arj x3 (hr.mono (by decide)) (by rfl) (eg_n (pv 0) (eg_v (EV.s (bc (pv 1))) di)) (xa_n (pv 0) (xa_v (js:=[]) (EV.s (bc (pv 1))) (XE.no vz) ag8)))) (xr (cz (i:=2) afm.nd rfl (bI rfl) (ik d17 (hr.mono (by decide)) (by rfl) (eg_v (EV.s (bc (pv 0))) di))) (ayk (arj x17 (hr.mono (by decide)) (by rfl) (eg_v (EV.s (bc (pv 0))) di) (xa_v (js:=[]) (EV.s (bc (pv 0))) (XE.no vz) ag8))) azm))
theorem akd(F:Fun K "_law_cell" "_law_cell" acd f fd)(T:Txt K mg):FnOk P w K mg base CX0 1 f fd ["script","k"] (spOf K 2 f__law_cell) :=
 jg F ajs rfl rfl fun cdv A outer s H E hr =>
  (ak (vm (jz as6 (e2_n (pv 1) (EV.toB (ER.toD (dz j9 (by rfl) T.z_len kh (ea_n (pv 0) f9))))) (jt _)) (az (fc (jx (e2_n (pv 0) (bz (pv 1))) (fun _ _=>by rfl)))) jm) (az (fc (EV.toR bf))))
theorem amk(F:Fun K "_law_pen" "_law_pen" ad0 f fd)(T:Txt K mg):FnOk P w K mg base CX0 1 f fd ["cell"] (spOf K 1 f__law_pen) :=
 jg F afo rfl rfl fun cdv A outer s H E hr =>
  (ak (cz (i:=1) afo.nd rfl (bI rfl) (dz (azh rfl) (by rfl) T.z_max azj (ea_n (pv 0) (ea_v (ER.toD (dw ace (e2_v bf (bz (pv 0))))) f9)))) (az (fc (ji (aa (bc (pv 1)) (aa (ER.toD (jd a6o (by rfl) T.z_int apa (ea_v (ER.toD (aut aj3 (e2_n (pv 1) (EV.toB (ER.toD (dw as4 (e2_v bf (EV.toB bf)))))) (jt _))) f9))) bu))))))
theorem akc(F:Fun K "_law_draw" "_law_draw" acb f fd)(T:Txt K mg):FnOk P w K mg base CX0 1 f fd ["pen","many"] (spOf K 2 f__law_draw) :=
 jg F u6 rfl rfl fun cdv A outer s H E hr =>
  (ak (vm (jz (aj4 hr.units) (e2_v (ER.toD (jx (e2_n (pv 0) (EV.toB bf)) (fun _ _=>by rfl))) (EV.toB bf)) (jt _)) (ak (aym (ER.toD (dz avc (by rfl) T.z_divmod avk (ea_v (ER.toD (jx (e2_n (pv 0) (EV.toB bf)) (fun _ _=>by rfl))) (ea_n (pv 1) f9)))) (aep rfl (j5 (cj (i:=2) u6.nd rfl (bI rfl)) (j5 (cj (i:=3) u6.nd rfl (bI rfl)) aa9)))) (ak (afd (bc (pv 2)) (pv 0) bf) (az (fc (aak (pv 3)))))) jm) (ak (cz (i:=4) u6.nd rfl (bI rfl) (dw acf (e2_v (ER.toD (dw vy (e2_v (ER.toD (dw jc (e2_v (ER.toD (dw acf (e2_v (ER.toD (jx (e2_n (pv 0) (EV.toB bf)) (fun _ _=>by rfl))) (EV.toB bf)))) (EV.toB bf)))) (EV.toB bf)))) (EV.toB bf)))) (ak (cz (i:=4) u6.nd rfl (bI rfl) (dw acf (e2_v (ER.toD (dw jc (e2_v (ER.toD (dw vy (e2_n (pv 4) (bz (pv 4))))) (EV.toB bf)))) (EV.toB bf)))) (ak (afd (ER.toD (dw acf (e2_v (ER.toD (dw jc (e2_v (ER.toD (dw vy (e2_n (pv 4) (EV.toB bf)))) (EV.toB bf)))) (EV.toB bf)))) (pv 0) bf) (az (fc (dw acf (e2_v (ER.toD (dw as8 (e2_v (ER.toD (jx (e2_n (pv 0) (EV.toB bf)) (fun _ _=>by rfl))) (EV.toB bf)))) (bz (pv 1))))))))))
theorem aij(F:Fun K "_law_whole" "_law_whole" yg f fd)(T:Txt K mg):FnOk P w K mg base CX0 1 f fd ["thing"] (spOf K 1 j0) :=
 jg F acx rfl rfl fun cdv A outer s H E hr =>
  (az (fc (EV.toR (aow (agi (t:=.int) (aj1 (by rfl) T.z_int apa) (by rfl) T.z_isinstance bh (bz (pv 0))) (aou (aup (agi (t:=.bool) (aj1 (by rfl) T.z_bool ane) (by rfl) T.z_isinstance bh (bz (pv 0)))))))))
theorem ag2(F:Fun K "_law_whole" "_law_whole" yg f fd)(T:Txt K mg):FnOkU P w K mg base 1 f fd ["thing"] (spOf K 1 j0) :=
 aul F acx rfl rfl fun cdv A outer s H hr =>
  (az (fc (EV.toR (aow (agi (t:=.int) (aj1 (by rfl) T.z_int apa) (by rfl) T.z_isinstance bh (bz (pv 0))) (aou (aup (agi (t:=.bool) (aj1 (by rfl) T.z_bool ane) (by rfl) T.z_isinstance bh (bz (pv 0)))))))))
theorem aml(F:Fun K "_law_odd" "_law_odd" ad1 f fd)(T:Txt K mg)(d21:Dd21 P w K mg base):FnOk P w K mg base CX0 2 f fd ["pen"] (spOf K 1 f__law_odd) :=
 jg F afp rfl rfl fun cdv A outer s H E hr =>
  (ak (cz (i:=1) afp.nd rfl (bI rfl) (ji (aa ahs (aa aaa (aa aaa (aa (zy bf) (aa ig (aa ig (aa (gw bu) (aa (ER.toD (ji bu)) (aa (gw (aa bf bu)) (aa (ER.toD (ji (aa bf bu))) (aa axz (aa (gw (aa bf (aa bf bu))) (aa (ER.toD (dw as4 (e2_v bf (EV.toB bf)))) (aa (gw (aa (gw (aa bf bu)) bu)) (aa ig bu))))))))))))))))) (az (fc (jx (e2_v (ER.toD (dw jc (e2_n (pv 1) (EV.toB (ER.toD (ji (aa (gw (aa (gw (aa (zy bf) bu)) (aa (gw (aa bf (aa bf bu))) bu))) bu))))))) (EV.toB (ER.toD (ik d21 (hr.mono (by decide)) (by rfl) (eg_n (pv 0) (eg_v bf di)))))) (fun _ _=>by rfl)))))
theorem ain(F:Fun K "_law_house" "_law_house" aa1 f fd)(T:Txt K mg)(d21:Dd21 P w K mg base):FnOk P w K mg base CX0 2 f fd ["pen","most","doors"] (spOf K 3 f__law_house) :=
 jg F ph rfl rfl fun cdv A outer s H E hr =>
  (ak (cz (i:=3) ph.nd rfl (mO rfl) (dw jc (e2_v bf (EV.toB (ER.toD (ik d21 (hr.mono (by decide)) (by rfl) (eg_n (pv 0) (eg_n (pv 1) di)))))))) (ak (cz (i:=4) ph.nd rfl (mO rfl) (jx (e2_v (ER.toD (ji (aa bf (aa bf (aa bf (aa bf bu)))))) (EV.toB (ER.toD (ik d21 (hr.mono (by decide)) (by rfl) (eg_n (pv 0) (eg_v bf di)))))) (fun _ _=>by rfl))) (ak (cz (i:=5) ph.nd rfl (bI rfl) (ji bu)) (ak (sy cI rfl (lr (by rfl) T.z_range (aa (bc (pv 3)) bu)) (cj (i:=6) ph.nd rfl (bI rfl)) (ak (cz (i:=7) ph.nd rfl (bI rfl) (dw jc (e2_v bf (EV.toB (ER.toD (ik d21 (hr.mono (by decide)) (by rfl) (eg_n (pv 0) (eg_n (pv 2) di)))))))) (az (wz (EV.toR (agh zg iZ PySem.F.type_list_append zj (pv 5) (aa (ER.toD (jd ux (by rfl) T.z_tuple uy (ea_v (ER.toD (mq ["pen","many","gates"] ["door","pen","many","gates"] [none,some 0,some 3,some 4] rfl (lr (by rfl) T.z_range (aa (bc (pv 7)) bu)) (fun _ _ _=>(cj (i:=0) (show(["door","pen","many","gates"]:List Str).Nodup by decide +kernel) rfl (bI rfl))) (fun _ _ _=>km) (fun _ _ _=>(ER.toD (dw ace (e2_v (ER.toD (ik d21 (hr.mono (by decide)) (by rfl) (eg_n (pv 1) (eg_v (ER.toD (dw jc (e2_n (pv 2) (bz (pv 3))))) di)))) (bz (pv 3)))))))) f9))) bu))))))) (az (fc (jd ux (by rfl) T.z_tuple uy (ea_n (pv 5) f9))))))))
theorem af1(F:Fun K "_law_reached" "_law_reached" yq f fd)(T:Txt K mg):FnOk P w K mg base CX0 1 f fd ["house","room"] (spOf K 2 ql) :=
 jg F nq rfl rfl fun cdv A outer s H E hr =>
  (ak (cz (i:=2) nq.nd rfl (mO rfl) (ji (aa (bc (pv 1)) bu))) (ak (cz (i:=3) nq.nd rfl (bI rfl) (EV.toR bf)) (ak (aey fuel cI (jz as6 (e2_n (pv 3) (EV.toB (ER.toD (dz j9 (by rfl) T.z_len kh (ea_n (pv 2) f9))))) (jt _)) (ak (vm (jz aj3 (e2_v (ER.toD (jx (e2_n (pv 2) (bz (pv 3))) (fun _ _=>by rfl))) (EV.toB bf)) (jt _)) (az (cz (i:=2) nq.nd rfl (mO rfl) (dw jc (e2_n (pv 2) (EV.toB (ER.toD (mq ["found"] ["door","found"] [none,some 2] rfl (ou (ER.toD (ak4 rfl (by rfl) T.z_sorted avj (by rfl) T.z_set a6q (ea_v (ER.toD (jx (e2_n (pv 0) (EV.toB (ER.toD (jx (e2_n (pv 2) (bz (pv 3))) (fun _ _=>by rfl))))) (fun _ _=>by rfl))) f9)))) (fun _ _ _=>(cj (i:=0) (show(["door","found"]:List Str).Nodup by decide +kernel) rfl (bI rfl))) (fun _ _ _=>(agl (jz (as5 hr.units) (e2_n (pv 0) (bz (pv 1))) (by with_unfolding_all rfl)))) (fun _ _ _=>(bc (pv 0)))))))))) jm) (az (cz (i:=3) nq.nd rfl (bI rfl) (dw jc (e2_n (pv 3) (EV.toB bf))))))) (az (fc (aak (pv 2)))))))
theorem aj9(F:Fun K "_law_open" "_law_open" ab9 f fd)(T:Txt K mg)(d24:Dd24 P w K mg base)(d25:Dd25 P w K mg base)(d21:Dd21 P w K mg base):FnOk P w K mg base CX0 3 f fd ["pen","most","doors"] (spOf K 3 f__law_open) :=
 jg F yc rfl rfl fun cdv A outer s H E hr =>
  (ak (cz (i:=3) yc.nd rfl (bI rfl) (jd acs (by rfl) T.z_list aap (ea_v (ER.toD (ik d24 (hr.mono (by decide)) (by rfl) (eg_n (pv 0) (eg_n (pv 1) (eg_n (pv 2) di))))) f9))) (ak (sy cI rfl (lr (by rfl) T.z_range (aa (ER.toD (dz j9 (by rfl) T.z_len kh (ea_n (pv 3) f9))) bu)) (cj (i:=4) yc.nd rfl (bI rfl)) (az (vm (jz aj3 (e2_v (ER.toD (dz (a2l rfl) (by rfl) T.z_min a6r (ea_v (ER.toD (ik d25 (hr.mono (by decide)) (by rfl) (eg_n (pv 3) (eg_v (bc (pv 4)) di)))) f9))) (EV.toB bf)) (jt _)) (ak (cz (i:=5) yc.nd rfl (bI rfl) (ik d21 (hr.mono (by decide)) (by rfl) (eg_n (pv 0) (eg_v (ER.toD (dz j9 (by rfl) T.z_len kh (ea_v (ER.toD (jx (e2_n (pv 3) (bz (pv 4))) (fun _ _=>by rfl))) f9))) di)))) (az (afd (ER.toD (dw jc (e2_v (ER.toD (dw jc (e2_v (ER.toD (aze (ER.toD (jx (e2_n (pv 3) (bz (pv 4))) (fun _ _=>by rfl))) am8 (agj (bc (pv 5))))) (EV.toB (gw (aa (ER.toD (dw ace (e2_v (zy bf) (EV.toB (ER.toD (ik d21 (hr.mono (by decide)) (by rfl) (eg_n (pv 0) (eg_v bf di)))))))) bu)))))) (EV.toB (ER.toD (aze (ER.toD (jx (e2_n (pv 3) (bz (pv 4))) (fun _ _=>by rfl))) (agj (ER.toD (dw jc (e2_n (pv 5) (EV.toB bf))))) am8)))))) (pv 3) (bc (pv 4))))) jm))) (az (fc (jd ux (by rfl) T.z_tuple uy (ea_n (pv 3) f9))))))
theorem aka(F:Fun K "_law_kind" "_law_kind" aag f fd)(T:Txt K mg):FnOk P w K mg base CX0 1 f fd ["e"] (spOf K 1 qp) :=
 jg F jo rfl rfl fun cdv A outer s H E hr =>
  (ak (cz (i:=1) jo.nd rfl (bI rfl) (ji (aa (jn T.sub (by decide +kernel) (by rfl) T.k_NoArrows (by rfl) T.z_isinstance bh (bz (pv 0))) (aa (jn T.sub (by decide +kernel) (by rfl) T.k_NoRoom (by rfl) T.z_isinstance bh (bz (pv 0))) (aa (jn T.sub (by decide +kernel) (by rfl) T.k_NoWalkers (by rfl) T.z_isinstance bh (bz (pv 0))) (aa (jn T.sub (by decide +kernel) (by rfl) T.k_NotShut (by rfl) T.z_isinstance bh (bz (pv 0))) bu)))))) (ak (cz (i:=1) jo.nd rfl (bI rfl) (dw jc (e2_n (pv 1) (EV.toB (ER.toD (ji (aa (jn T.sub (by decide +kernel) (by rfl) T.k_NeverBack (by rfl) T.z_isinstance bh (bz (pv 0))) (aa (jn T.sub (by decide +kernel) (by rfl) T.k_NoTour (by rfl) T.z_isinstance bh (bz (pv 0))) (aa (jn T.sub (by decide +kernel) (by rfl) T.k_NoRow (by rfl) T.z_isinstance bh (bz (pv 0))) (aa (jn T.sub (by decide +kernel) (by rfl) T.k_NoHouse (by rfl) T.z_isinstance bh (bz (pv 0))) bu)))))))))) (ak (cz (i:=1) jo.nd rfl (bI rfl) (dw jc (e2_n (pv 1) (EV.toB (ER.toD (ji (aa (jn T.sub (by decide +kernel) (by rfl) T.k_NotOpen (by rfl) T.z_isinstance bh (bz (pv 0))) (aa (jn T.sub (by decide +kernel) (by rfl) T.k_Nobody (by rfl) T.z_isinstance bh (bz (pv 0))) (aa (jn T.sub (by decide +kernel) (by rfl) T.k_NoText (by rfl) T.z_isinstance bh (bz (pv 0))) (aa (jn T.sub (by decide +kernel) (by rfl) T.k_TooGreat (by rfl) T.z_isinstance bh (bz (pv 0))) bu)))))))))) (ak (vm (EW.pt (am4 (ade (xj (auq T.sub (by rfl) T.z_ValueError adm (by rfl) T.z_isinstance bh (bz (pv 0))))) (ahr (jz (yj hr.units) (e2_v (ai4 hr.units (pv 1) (aa aaa bu)) (EV.toB bf)) (jt _))))) (az (fc (EV.toR ig))) jm) (ak (cz (i:=2) jo.nd rfl (bI rfl) (ji (aa ig (aa ig (aa ig (aa ig (aa ig (aa ig (aa ig (aa ig (aa ig (aa ig bu)))))))))))) (az (fc (jx (e2_v (ER.toD (dw jc (e2_n (pv 2) (EV.toB (ER.toD (ji (aa ig (aa ig bu)))))))) (EV.toB (am5 lZ pF (ais hr.units) (pv 1) (aa aaa bu)))) (fun _ _=>by rfl)))))))))
theorem aih(F:Fun K "_law_kind" "_law_kind" aag f fd)(T:Txt K mg):FnOkU P w K mg base 1 f fd ["e"] (spOf K 1 qp) :=
 aul F jo rfl rfl fun cdv A outer s H hr =>
  (ak (cz (i:=1) jo.nd rfl (bI rfl) (ji (aa (jn T.sub (by decide +kernel) (by rfl) T.k_NoArrows (by rfl) T.z_isinstance bh (bz (pv 0))) (aa (jn T.sub (by decide +kernel) (by rfl) T.k_NoRoom (by rfl) T.z_isinstance bh (bz (pv 0))) (aa (jn T.sub (by decide +kernel) (by rfl) T.k_NoWalkers (by rfl) T.z_isinstance bh (bz (pv 0))) (aa (jn T.sub (by decide +kernel) (by rfl) T.k_NotShut (by rfl) T.z_isinstance bh (bz (pv 0))) bu)))))) (ak (cz (i:=1) jo.nd rfl (bI rfl) (dw jc (e2_n (pv 1) (EV.toB (ER.toD (ji (aa (jn T.sub (by decide +kernel) (by rfl) T.k_NeverBack (by rfl) T.z_isinstance bh (bz (pv 0))) (aa (jn T.sub (by decide +kernel) (by rfl) T.k_NoTour (by rfl) T.z_isinstance bh (bz (pv 0))) (aa (jn T.sub (by decide +kernel) (by rfl) T.k_NoRow (by rfl) T.z_isinstance bh (bz (pv 0))) (aa (jn T.sub (by decide +kernel) (by rfl) T.k_NoHouse (by rfl) T.z_isinstance bh (bz (pv 0))) bu)))))))))) (ak (cz (i:=1) jo.nd rfl (bI rfl) (dw jc (e2_n (pv 1) (EV.toB (ER.toD (ji (aa (jn T.sub (by decide +kernel) (by rfl) T.k_NotOpen (by rfl) T.z_isinstance bh (bz (pv 0))) (aa (jn T.sub (by decide +kernel) (by rfl) T.k_Nobody (by rfl) T.z_isinstance bh (bz (pv 0))) (aa (jn T.sub (by decide +kernel) (by rfl) T.k_NoText (by rfl) T.z_isinstance bh (bz (pv 0))) (aa (jn T.sub (by decide +kernel) (by rfl) T.k_TooGreat (by rfl) T.z_isinstance bh (bz (pv 0))) bu)))))))))) (ak (vm (EW.pt (am4 (ade (xj (auq T.sub (by rfl) T.z_ValueError adm (by rfl) T.z_isinstance bh (bz (pv 0))))) (ahr (jz (yj hr.units) (e2_v (ai4 hr.units (pv 1) (aa aaa bu)) (EV.toB bf)) (jt _))))) (az (fc (EV.toR ig))) jm) (ak (cz (i:=2) jo.nd rfl (bI rfl) (ji (aa ig (aa ig (aa ig (aa ig (aa ig (aa ig (aa ig (aa ig (aa ig (aa ig bu)))))))))))) (az (fc (jx (e2_v (ER.toD (dw jc (e2_n (pv 2) (EV.toB (ER.toD (ji (aa ig (aa ig bu)))))))) (EV.toB (am5 lZ pF (ais hr.units) (pv 1) (aa aaa bu)))) (fun _ _=>by rfl)))))))))
theorem aim(F:Fun K "_law_lasts" "_law_lasts" aa0 f fd)(T:Txt K mg):FnOk P w K mg base CX0 1 f fd ["house","some"] (spOf K 2 f__law_lasts) :=
 jg F ah7 rfl rfl fun cdv A outer s H E hr =>
  (az (fc (mq [] ["one","room"] [none,none] rfl (aiv (by rfl) T.z_zip (aa (bc (pv 1)) (aa (bc (pv 0)) bu))) (fun _ _ _=>(aep rfl (j5 (cj (i:=0) (show(["one","room"]:List Str).Nodup by decide +kernel) rfl (bI rfl)) (j5 (cj (i:=1) (show(["one","room"]:List Str).Nodup by decide +kernel) rfl (bI rfl)) aa9)))) (fun _ _ _=>km) (fun _ _ _=>(ER.toD (jx (e2_n (pv 1) (EV.toB (ER.toD (dw ace (e2_n (pv 0) (EV.toB bf)))))) (fun _ _=>by rfl)))))))
theorem akb(F:Fun K "_law_free" "_law_free" aca f fd)(T:Txt K mg):FnOk P w K mg base CX0 1 f fd ["places"] (spOf K 1 um) :=
 jg F u5 rfl rfl fun cdv A outer s H E hr =>
  (ak (sy cI rfl (lr (by rfl) T.z_range (aa (ER.toD (dz j9 (by rfl) T.z_len kh (ea_n (pv 0) f9))) bu)) (cj (i:=1) u5.nd rfl (bI rfl)) (ak (cz (i:=2) u5.nd rfl (bI rfl) (EV.toR (bc (pv 1)))) (az (sy cI rfl (lr (by rfl) T.z_range (aa (ER.toD (dz j9 (by rfl) T.z_len kh (ea_n (pv 0) f9))) bu)) (cj (i:=3) u5.nd rfl (bI rfl)) (az (vm (jz a4l (e2_v bf (bz (pv 2))) (jt _)) (ak (cz (i:=2) u5.nd rfl (bI rfl) (jx (e2_n (pv 0) (bz (pv 2))) (fun _ _=>by rfl))) (az (vm (jz (aj4 hr.units) (e2_n (pv 2) (bz (pv 1))) (jt _)) (az (fc (EV.toR aaa))) jm))) jm)))))) (az (fc (EV.toR aaa))))
theorem ad5(F:Fun K "_law_all_again" "_law_all_again" vp f fd)(T:Txt K mg)(d28:Dd28 P w K mg base)(d29:Dd29 P w K mg base):FnOk P w K mg base CX0 2 f fd ["house"] (spOf K 1 jk) :=
 jg F je rfl rfl fun cdv A outer s H E hr =>
  (ak (cz (i:=1) je.nd rfl (bI rfl) (ji (aa (gw bu) bu))) (ak (sy cI rfl (ou (bc (pv 0))) (cj (i:=2) je.nd rfl (bI rfl)) (ak (cz (i:=3) je.nd rfl (bI rfl) (ji bu)) (ak (sy cI rfl (ou (bc (pv 1))) (cj (i:=4) je.nd rfl (mO rfl)) (az (cz (i:=3) je.nd rfl (bI rfl) (dw jc (e2_n (pv 3) (EV.toB (ER.toD (mq ["one"] ["arrow","one"] [none,some 4] rfl (lr (by rfl) T.z_range (aa (ER.toD (dz j9 (by rfl) T.z_len kh (ea_n (pv 2) f9))) bu)) (fun _ _ _=>(cj (i:=0) (show(["arrow","one"]:List Str).Nodup by decide +kernel) rfl (bI rfl))) (fun _ _ _=>km) (fun _ _ _=>(ER.toD (dw jc (e2_n (pv 1) (EV.toB (gw (aa (bc (pv 0)) bu))))))))))))))) (az (cz (i:=1) je.nd rfl (bI rfl) (EV.toR (bc (pv 3)))))))) (az (fc (mq ["house"] ["one","house"] [none,some 0] rfl (ou (bc (pv 1))) (fun _ _ _=>(cj (i:=0) (show(["one","house"]:List Str).Nodup by decide +kernel) rfl (bI rfl))) (fun _ _ _=>(agl (xj (ER.toD (ik d29 (hr.mono (by decide)) (by rfl) (eg_v (ER.toD (ik d28 (hr.mono (by decide)) (by rfl) (eg_n (pv 1) (eg_n (pv 0) di)))) di)))))) (fun _ _ _=>(bc (pv 0))))))))
theorem aik(F:Fun K "_law_small" "_law_small" aay f fd)(T:Txt K mg)(d21:Dd21 P w K mg base)(d26:Dd26 P w K mg base):FnOk P w K mg base CX0 4 f fd ["pen"] (spOf K 1 f__law_small) :=
 jg F aad rfl rfl fun cdv A outer s H E hr =>
  (ak (aym (ER.toD (jx (e2_v (ER.toD (ji (aa (gw (aa bf (aa bf bu))) (aa (gw (aa bf (aa bf bu))) (aa (gw (aa bf (aa bf bu))) (aa (gw (aa bf (aa bf bu))) (aa (gw (aa bf (aa bf bu))) bu))))))) (EV.toB (ER.toD (ik d21 (hr.mono (by decide)) (by rfl) (eg_n (pv 0) (eg_v bf di)))))) (fun _ _=>by rfl))) (aep rfl (j5 (cj (i:=1) aad.nd rfl (bI rfl)) (j5 (cj (i:=2) aad.nd rfl (bI rfl)) aa9)))) (az (fc (ik d26 (hr.mono (by decide)) (by rfl) (eg_n (pv 0) (eg_n (pv 1) (eg_n (pv 2) di)))))))
theorem aj8(F:Fun K "_law_sent" "_law_sent" ab8 f fd)(T:Txt K mg):FnOk P w K mg base CX0 1 f fd ["house","some","room"] (spOf K 3 f__law_sent) :=
 jg F xx rfl rfl fun cdv A outer s H E hr =>
  (ak (cz (i:=3) xx.nd rfl (bI rfl) (jd acs (by rfl) T.z_list aap (ea_n (pv 1) f9))) (ak (aey fuel cI (jz aj3 (e2_n (pv 2) (EV.toB bf)) (jt _)) (ak (cz (i:=4) xx.nd rfl (bI rfl) (jx (e2_v (ER.toD (jx (e2_n (pv 0) (bz (pv 2))) (fun _ _=>by rfl))) (EV.toB (ER.toD (jx (e2_n (pv 3) (bz (pv 2))) (fun _ _=>by rfl))))) (fun _ _=>by rfl))) (ak (afd (ER.toD (dw acf (e2_v (ER.toD (dw jc (e2_v (ER.toD (jx (e2_n (pv 3) (bz (pv 2))) (fun _ _=>by rfl))) (EV.toB bf)))) (EV.toB (ER.toD (dz j9 (by rfl) T.z_len kh (ea_v (ER.toD (jx (e2_n (pv 0) (bz (pv 2))) (fun _ _=>by rfl))) f9))))))) (pv 3) (bc (pv 2))) (az (cz (i:=2) xx.nd rfl (bI rfl) (EV.toR (bc (pv 4)))))))) (az (fc (jd ux (by rfl) T.z_tuple uy (ea_n (pv 3) f9))))))
theorem aj7(F:Fun K "_law_told" "_law_told" ab7 f fd)(T:Txt K mg)(d18:Dd18 P w K mg base)(x18:Dx18 P w K mg base)(u27:Du27 P w K mg base)(u22:Du22 P w K mg base):FnOk P w K mg base CX0 7 f fd ["house","room"] (spOf K 2 cg) :=
 jg F aax rfl rfl fun cdv A outer s H E hr =>
  (az (az0 rfl rfl rfl rfl aax.nd rfl rfl (by rfl) T.cat T.sub (by decide +kernel) (az (fc (a2g (EV.s ig) (ik d18 (hr.mono (by decide)) (by rfl) (eg_v (EV.s (bc (pv 0))) (eg_v (EV.s (bc (pv 1))) di)))))) (aav (a3a (azo (ari (EV.s ig) (XE.no vz) (ari (ER.toD (ik d18 (hr.mono (by decide)) (by rfl) (eg_v (EV.s (bc (pv 0))) (eg_v (EV.s (bc (pv 1))) di)))) (XE.d (arj x18 (hr.mono (by decide)) (by rfl) (eg_v (EV.s (bc (pv 0))) (eg_v (EV.s (bc (pv 1))) di)) (xa_v (js:=[]) (EV.s (bc (pv 0))) (XE.no vz) (xa_v (js:=[]) (EV.s (bc (pv 1))) (XE.no vz) ag8)))) ag8))))) (fun ev=>(ak (cz (i:=3) aax.nd rfl (bI rfl) (aur u27 ((hr.mark ev).mono (by decide)) (by rfl) (eg_n (pv 2) di))) (ak (vm (EW.pt (azd (jz (aj4 (hr.mark ev).units) (e2_n (pv 3) (EV.toB ig)) (jt _)) (azd (xj (ER.toD (aur u22 ((hr.mark ev).mono (by decide)) (by rfl) (eg_v (aov (ae6 T.n_many) (bc (pv 2))) di)))) (a2e (xj (ER.toD (aur u22 ((hr.mark ev).mono (by decide)) (by rfl) (eg_v (aov (ae6 T.n_most) (bc (pv 2))) di)))))))) (az (fc (EV.toR (gw (aa (bc (pv 3)) (aa (gw (aa (aov (ae6 T.n_many) (bc (pv 2))) (aa (aov (ae6 T.n_most) (bc (pv 2))) bu))) bu)))))) jm) (az (fc (EV.toR (gw (aa (bc (pv 3)) (aa ahs bu)))))))))))
theorem ail(F:Fun K "_law_right" "_law_right" aaz f fd)(T:Txt K mg)(d30:Dd30 P w K mg base)(d32:Dd32 P w K mg base)(d33:Dd33 P w K mg base)(d22:Dd22 P w K mg base):FnOk P w K mg base CX0 8 f fd ["house","room"] (spOf K 2 fj) :=
 jg F qy rfl rfl fun cdv A outer s H E hr =>
  (ak (cz (i:=2) qy.nd rfl (mO rfl) (ik d30 (hr.mono (by decide)) (by rfl) (eg_v (bc (pv 0)) di))) (ak (adw (i:=3) ["some","room","house"] ["one","some","room","house"] [none,some 2,some 1,some 0] qy.nd rfl (bI rfl) rfl (ou (bc (pv 2))) (fun _ _ _=>(cj (i:=0) (show(["one","some","room","house"]:List Str).Nodup by decide +kernel) rfl (bI rfl))) (fun _ _ _=>km) (fun _ _ _=>(am5 lZ pF (ais hr.units) (pv 1) (aa (ER.toD (ik d32 (hr.mono (by decide)) (by rfl) (eg_n (pv 3) (eg_n (pv 0) (eg_n (pv 2) di))))) bu)))) (ak (sy cI rfl (lr (by rfl) T.z_range (aa bf bu)) (cj (i:=4) qy.nd rfl (bI rfl)) (ak (az1 (i:=5) (j:=6) rfl qy.nd rfl rfl (bI rfl) (bI rfl) (ik d33 (hr.mono (by decide)) (by rfl) (eg_v (bc (pv 0)) (eg_v (bc (pv 1)) di)))) (ak (vm (EW.pt (am4 (jz (yj hr.units) (e2_n (pv 5) (EV.toB ig)) (jt _)) (am4 (ade (xj (agi (t:=.list) (aj1 (by rfl) T.z_list aap) (by rfl) T.z_isinstance bh (bz (pv 6))))) (ahr (jz (yj hr.units) (e2_n (pv 6) (bz (pv 3))) (jt _)))))) (az (fc (EV.toR aaa))) jm) (ak (vm (ade (xj (ER.toD (dz (azi rfl) (by rfl) T.z_all azk (ea_v (ER.toD (a2h 6 (mq [] ["one"] [none] rfl (ou (bc (pv 6))) (fun _ _ _=>(cj (i:=0) (show(["one"]:List Str).Nodup by decide +kernel) rfl (bI rfl))) (fun _ _ _=>km) (fun _ _ _=>(ER.toD (ik d22 (hr.mono (by decide)) (by rfl) (eg_n (pv 0) di))))))) f9))))) (az (fc (EV.toR aaa))) jm) (az (wz (EV.toR (agh zg iZ PySem.F.type_list_append zj (pv 6) (aa bf bu))))))))) (az (fc (EV.toR aaa))))))
theorem a4u(F:Fun K "law" "law" ah9 f fd)(T:Txt K mg)(d34:Dd34 P w K mg base)(d15:Dd15 P w K mg base)(d33:Dd33 P w K mg base)(d19:Dd19 P w K mg base)(d20:Dd20 P w K mg base)(d31:Dd31 P w K mg base)(d23:Dd23 P w K mg base):FnOk P w K mg base CX0 9 f fd ["script"] (spOf K 1 axw) :=
 jg F aej rfl rfl fun cdv A outer s H E hr =>
  (ak (cz (i:=1) aej.nd rfl (mO rfl) (EV.toR (gw (aa (ER.toD (dw vy (e2_v (gw (aa (zy bf) bu)) (EV.toB bf)))) (aa (ER.toD (dw vy (e2_v (gw (aa (zy bf) bu)) (EV.toB bf)))) (aa (ER.toD (dw vy (e2_v (gw (aa (zy bf) (aa bf bu))) (EV.toB bf)))) (aa (ER.toD (dw vy (e2_v (gw (aa (zy bf) (aa bf bu))) (EV.toB bf)))) bu))))))) (ak (vm (EW.pt (am4 (ade (xj (ER.toD (ik d34 (hr.mono (by decide)) (by rfl) (eg_v (gw (aa (gw (aa (zy bf) bu)) bu)) (eg_v bf di)))))) (ahr (ade (xj (ER.toD (ik d34 (hr.mono (by decide)) (by rfl) (eg_v (gw (aa (gw (aa (zy bf) (aa bf (aa bf bu)))) bu)) (eg_v bf di))))))))) (az (fc (EV.toR aaa))) jm) (ak (vm (EW.pt (am4 (jz (yj hr.units) (e2_v (ER.toD (ik d33 (hr.mono (by decide)) (by rfl) (eg_v (bc (pv 1)) (eg_v bf di)))) (EV.toB (gw (aa ig (aa (gw (aa (ER.toD (ik d15 (hr.mono (by decide)) (by rfl) (eg_v (bc (pv 1)) di))) (aa bf bu))) bu))))) (jt _)) (ahr (jz (yj hr.units) (e2_v (ER.toD (jx (e2_v (ER.toD (ik d33 (hr.mono (by decide)) (by rfl) (eg_v (bc (pv 1)) (eg_v bf di)))) (EV.toB bf)) (fun _ _=>by rfl))) (EV.toB ig)) (jt _))))) (az (fc (EV.toR aaa))) jm) (ak (vm (jz (yj hr.units) (e2_v (ER.toD (mq ["great"] ["bad","great"] [none,some 1] rfl (ou (ER.toD (ji (aa bf (aa (zy bf) (aa aaa (aa ahs bu))))))) (fun _ _ _=>(cj (i:=0) (show(["bad","great"]:List Str).Nodup by decide +kernel) rfl (bI rfl))) (fun _ _ _=>km) (fun _ _ _=>(ER.toD (jx (e2_v (ER.toD (ik d33 (hr.mono (by decide)) (by rfl) (eg_n (pv 1) (eg_n (pv 0) di)))) (EV.toB bf)) (fun _ _=>by rfl)))))) (EV.toB (ER.toD (dw vy (e2_v (ER.toD (ji (aa ig bu))) (EV.toB bf)))))) (jt _)) (az (fc (EV.toR aaa))) jm) (ak (sy cI rfl (ou (ER.toD (dw jc (e2_v (ER.toD (ji (aa (ER.toD (ik d19 (hr.mono (by decide)) (by rfl) (eg_n (pv 0) (eg_v bf di)))) bu))) (EV.toB (ER.toD (aus (pv 0) (agj bf) (agj bf)))))))) (cj (i:=2) aej.nd rfl (bI rfl)) (ak (cz (i:=3) aej.nd rfl (bI rfl) (ik d20 (hr.mono (by decide)) (by rfl) (eg_n (pv 2) di))) (ak (cz (i:=4) aej.nd rfl (bI rfl) (ik d31 (hr.mono (by decide)) (by rfl) (eg_n (pv 3) di))) (ak (sy cI rfl (lr (by rfl) T.z_range (aa (ER.toD (dz j9 (by rfl) T.z_len kh (ea_n (pv 4) f9))) bu)) (cj (i:=5) aej.nd rfl (bI rfl)) (az (vm (ade (xj (ER.toD (ik d34 (hr.mono (by decide)) (by rfl) (eg_v (bc (pv 4)) (eg_v (bc (pv 5)) di)))))) (az (fc (EV.toR aaa))) jm))) (ak (sy cI rfl (ou (ER.toD (ji (aa (ER.toD (dz j9 (by rfl) T.z_len kh (ea_n (pv 4) f9))) (aa (zy bf) (aa aaa (aa ahs (aa (ER.toD (ik d23 (hr.mono (by decide)) (by rfl) (eg_n (pv 3) di))) bu)))))))) (cj (i:=6) aej.nd rfl (bI rfl)) (az (vm (EW.pt (am4 (jz (yj hr.units) (e2_v (ER.toD (jx (e2_v (ER.toD (ik d33 (hr.mono (by decide)) (by rfl) (eg_v (bc (pv 4)) (eg_v (bc (pv 6)) di)))) (EV.toB bf)) (fun _ _=>by rfl))) (EV.toB ig)) (jt _)) (ahr (jz (yj hr.units) (e2_v (ER.toD (jx (e2_v (ER.toD (ik d33 (hr.mono (by decide)) (by rfl) (eg_v (gw (aa (gw (aa bf bu)) bu)) (eg_v (bc (pv 6)) di)))) (EV.toB bf)) (fun _ _=>by rfl))) (EV.toB ig)) (jt _))))) (az (fc (EV.toR aaa))) jm))) (ak (cz (i:=7) aej.nd rfl (bI rfl) (jd ux (by rfl) T.z_tuple uy (ea_v (ER.toD (mq [] ["room"] [none] rfl (ou (bc (pv 4))) (fun _ _ _=>(cj (i:=0) (show(["room"]:List Str).Nodup by decide +kernel) rfl (bI rfl))) (fun _ _ _=>km) (fun _ _ _=>(ER.toD (jd ux (by rfl) T.z_tuple uy (ea_v (ER.toD (mq [] ["door"] [none] rfl (ou (bc (pv 0))) (fun _ _ _=>(cj (i:=0) (show(["door"]:List Str).Nodup by decide +kernel) rfl (bI rfl))) (fun _ _ _=>km) (fun _ _ _=>(ER.toD (dz (azh rfl) (by rfl) T.z_max azj (ea_v bf (ea_n (pv 0) f9))))))) f9)))))) f9))) (az (vm (jz (yj hr.units) (e2_v (ER.toD (jx (e2_v (ER.toD (ik d33 (hr.mono (by decide)) (by rfl) (eg_v (bc (pv 7)) (eg_v bf di)))) (EV.toB bf)) (fun _ _=>by rfl))) (EV.toB ig)) (jt _)) (az (fc (EV.toR aaa))) jm)))))))) (az (fc (EV.toR aaa))))))))
end
abbrev Q(K:Fg9)(x:Str)(st:iJ)(f:aX)(oc:aD)(od:Option aX)(kV dc pm:aD)(an:Option aX)(cd ct:aD)(sl:Array (Option aD)):Prop:=nsIn K bA x=some (some (.ref f))/\K.lookup f=some ⟨oc,od,.func (fnOf x x (j8 st) (ie st) (ao st) .none kV dc pm an cd ct),sl⟩/\codeIn K cd x=true/\oA K (.ref f)=true
section
variable{K:Fg9}{x:Str}{st:iJ}{f:aX}{oc:aD}{od:Option aX}{kV dc pm:aD}{an:Option aX}{cd ct:aD}{sl:Array (Option aD)}(q:Q K x st f oc od kV dc pm an cd ct sl){h:fK}{mg:Str->Option aD}
include q
theorem Q.F:Fun K x x st f (fnOf x x (j8 st) (ie st) (ao st) .none kV dc pm an cd ct):=aop q.2.1 q.2.2.1 q.2.2.2
theorem Q.E{ps:List Str}(X:K.In h)(G:h.Ns bA mg)(b:∀(kV doc pm:aD) (an:Option aX) (cdv ct:aD) (us:List aD),us.length=ps.length->qO (fnOf x x (j8 st) (ie st) (ao st) .none kV doc pm an cdv ct) ⟨us,[]⟩=pure (ps.zip us)):mg x=some (.ref f)/\oA K (.ref f)=true/\Binds K (fnOf x x (j8 st) (ie st) (ao st) .none kV dc pm an cd ct) ps []:=⟨mg_of X G q.1,q.2.2.2,(Q.F q).binds b⟩
theorem Q.E1{p0:Str}(X:K.In h)(G:h.Ns bA mg)(b:∀(kV doc pm:aD) (an:Option aX) (cdv ct u0:aD),qO (fnOf x x (j8 st) (ie st) (ao st) .none kV doc pm an cdv ct) ⟨[u0],[]⟩=pure ([p0].zip [u0]):=by intros;rfl):mg x=some (.ref f)/\oA K (.ref f)=true/\Binds K (fnOf x x (j8 st) (ie st) (ao st) .none kV dc pm an cd ct) [p0] []:=q.E X G fun _ _ _ _ _ _ us hl=>by obtain⟨_,rfl⟩:=ln1 hl;apply b
theorem Q.E2{p0 p1:Str}(X:K.In h)(G:h.Ns bA mg)(b:∀(kV doc pm:aD) (an:Option aX) (cdv ct u0 u1:aD),qO (fnOf x x (j8 st) (ie st) (ao st) .none kV doc pm an cdv ct) ⟨[u0,u1],[]⟩=pure ([p0,p1].zip [u0,u1]):=by intros;rfl):mg x=some (.ref f)/\oA K (.ref f)=true/\Binds K (fnOf x x (j8 st) (ie st) (ao st) .none kV dc pm an cd ct) [p0,p1] []:=q.E X G fun _ _ _ _ _ _ us hl=>by obtain⟨_,_,rfl⟩:=ln2 hl;apply b
theorem Q.E3{p0 p1 p2:Str}(X:K.In h)(G:h.Ns bA mg)(b:∀(kV doc pm:aD) (an:Option aX) (cdv ct u0 u1 u2:aD),qO (fnOf x x (j8 st) (ie st) (ao st) .none kV doc pm an cdv ct) ⟨[u0,u1,u2],[]⟩=pure ([p0,p1,p2].zip [u0,u1,u2]):=by intros;rfl):mg x=some (.ref f)/\oA K (.ref f)=true/\Binds K (fnOf x x (j8 st) (ie st) (ao st) .none kV dc pm an cd ct) [p0,p1,p2] []:=q.E X G fun _ _ _ _ _ _ us hl=>by obtain⟨_,_,_,rfl⟩:=ln3 hl;apply b
end
theorem a6u{l:tH}{w:dJ}{K:Fg9}{h:fK}{mg:Str->Option aD}(X:K.In h)(G:h.Ns bA mg)(hfa:mg "law" = some (.ref fa))
  {tk_MOST_TOLD:Tok}
  (q0:Q K "is_whole" adz f0' o0 p0 v0 t0 m0 n0 c0 r0 z0)
  (q1:Q K "is_whole_within" ud f1' o1 p1 v1 t1 m1 n1 c1 r1 z1)
  (q2:Q K "is_room_number" vo f2' o2 p2 v2 t2 m2 n2 c2 r2 z2)
  (q3:Q K "refuse_no_room" qm f3' o3 p3 v3 t3 m3 n3 c3 r3 z3)
  (q4:Q K "trap" asi f4' o4 p4 v4 t4 m4 n4 c4 r4 z4)
  (q5:Q K "is_open" afs f5' o5 p5 v5 t5 m5 n5 c5 r5 z5)
  (q6:Q K "refuse_not_open" pq f6' o6 p6 v6 t6 m6 n6 c6 r6 z6)
  (q7:Q K "row_with" ady f7' o7 p7 v7 t7 m7 n7 c7 r7 z7)
  (q8:Q K "swapped" afq f8' o8 p8 v8 t8 m8 n8 c8 r8 z8)
  (q9:Q K "cleared" aft f9' o9 p9 v9 t9 m9 n9 c9 r9 z9)
  (q10:Q K "solved" ah8 f10' o10 p10 v10 t10 m10 n10 c10 r10 z10)
  (q11:Q K "determinant" aae f11' o11 p11 v11 t11 m11 n11 c11 r11 z11)
  (q12:Q K "doors_square" yp f12' o12 p12 v12 t12 m12 n12 c12 r12 z12)
  (q13:Q K "leave" al7 f13' o13 p13 v13 t13 m13 n13 c13 r13 z13)
  (q14:Q K "led_out" afr f14' o14 p14 v14 t14 m14 n14 c14 r14 z14)
  (q15:Q K "again_many" ye f15' o15 p15 v15 t15 m15 n15 c15 r15 z15)
  (q16:Q K "may_go_on" ab6 f16' o16 p16 v16 t16 m16 n16 c16 r16 z16)
  (q17:Q K "all_again" aaf f17' o17 p17 v17 t17 m17 n17 c17 r17 z17)
  (q18:Q K "sent" anr f18' o18 p18 v18 t18 m18 n18 c18 r18 z18)
  (q19:Q K "_law_cell" acd f19' o19 p19 v19 t19 m19 n19 c19 r19 z19)
  (q20:Q K "_law_pen" ad0 f20' o20 p20 v20 t20 m20 n20 c20 r20 z20)
  (q21:Q K "_law_draw" acb f21' o21 p21 v21 t21 m21 n21 c21 r21 z21)
  (q22:Q K "_law_whole" yg f22' o22 p22 v22 t22 m22 n22 c22 r22 z22)
  (q23:Q K "_law_odd" ad1 f23' o23 p23 v23 t23 m23 n23 c23 r23 z23)
  (q24:Q K "_law_house" aa1 f24' o24 p24 v24 t24 m24 n24 c24 r24 z24)
  (q25:Q K "_law_reached" yq f25' o25 p25 v25 t25 m25 n25 c25 r25 z25)
  (q26:Q K "_law_open" ab9 f26' o26 p26 v26 t26 m26 n26 c26 r26 z26)
  (q27:Q K "_law_kind" aag f27' o27 p27 v27 t27 m27 n27 c27 r27 z27)
  (q28:Q K "_law_lasts" aa0 f28' o28 p28 v28 t28 m28 n28 c28 r28 z28)
  (q29:Q K "_law_free" aca f29' o29 p29 v29 t29 m29 n29 c29 r29 z29)
  (q30:Q K "_law_all_again" vp f30' o30 p30 v30 t30 m30 n30 c30 r30 z30)
  (q31:Q K "_law_small" aay f31' o31 p31 v31 t31 m31 n31 c31 r31 z31)
  (q32:Q K "_law_sent" ab8 f32' o32 p32 v32 t32 m32 n32 c32 r32 z32)
  (q33:Q K "_law_told" ab7 f33' o33 p33 v33 t33 m33 n33 c33 r33 z33)
  (q34:Q K "_law_right" aaz f34' o34 p34 v34 t34 m34 n34 c34 r34 z34)
  (a35:nsIn K bA "law" = some (some (.ref f35'))) (l35:K.lookup f35'=some ⟨oc35,od35,.func (fnOf "law" "law" (j8 ah9) (ie ah9) (ao ah9) .none kV35 dc35 pm35 an35 cd35 ct35),sl35⟩) (c35:codeIn K cd35 "law" = true) (k35:oA K (.ref f35')=true)
  (g_MOST_TOLD:nsIn K bA "MOST_TOLD" = some (some (.int 300 tk_MOST_TOLD)))
  {fi_NotOpen:aX} {ci0_NotOpen:aX} {odi_NotOpen ani_NotOpen:Option aX} {sli_NotOpen:Array (Option aD)} {oci_NotOpen kVi_NotOpen dci_NotOpen pmi_NotOpen cdi_NotOpen cti_NotOpen:aD} (aj_NotOpen:nsIn K bA "NotOpen" = some (some (.ref ci0_NotOpen))) (ai_NotOpen:lM K (.ref ci0_NotOpen) "__init__" = some (some (.ref fi_NotOpen))) (li_NotOpen:K.lookup fi_NotOpen=some ⟨oci_NotOpen,odi_NotOpen,.func (fnOf "__init__" "NotOpen.__init__" (j8 wy) (ie wy) (ao wy) .none kVi_NotOpen dci_NotOpen pmi_NotOpen ani_NotOpen cdi_NotOpen cti_NotOpen),sli_NotOpen⟩) (ci_NotOpen:codeIn K cdi_NotOpen "NotOpen.__init__" = true) (ki_NotOpen:oA K (.ref fi_NotOpen)=true) (e_iNotOpen:akt K ci0_NotOpen fi_NotOpen "room" = true)
  {fi_TooGreat:aX} {ci0_TooGreat:aX} {odi_TooGreat ani_TooGreat:Option aX} {sli_TooGreat:Array (Option aD)} {oci_TooGreat kVi_TooGreat dci_TooGreat pmi_TooGreat cdi_TooGreat cti_TooGreat:aD} (aj_TooGreat:nsIn K bA "TooGreat" = some (some (.ref ci0_TooGreat))) (ai_TooGreat:lM K (.ref ci0_TooGreat) "__init__" = some (some (.ref fi_TooGreat))) (li_TooGreat:K.lookup fi_TooGreat=some ⟨oci_TooGreat,odi_TooGreat,.func (fnOf "__init__" "TooGreat.__init__" (j8 uc) (ie uc) (ao uc) .none kVi_TooGreat dci_TooGreat pmi_TooGreat ani_TooGreat cdi_TooGreat cti_TooGreat),sli_TooGreat⟩) (ci_TooGreat:codeIn K cdi_TooGreat "TooGreat.__init__" = true) (ki_TooGreat:oA K (.ref fi_TooGreat)=true) (e_iTooGreat:akt K ci0_TooGreat fi_TooGreat "many" = true) (e_jTooGreat:akt K ci0_TooGreat fi_TooGreat "most" = true)
  (e_nmany:aum K ["TooGreat"] "many" = true)
  (e_nmost:aum K ["TooGreat"] "most" = true)
  (e_cls:ale K NS=true) (e_sub:ah4 K NS=true) (e_rai:ayq K ["ArrowError","NoArrows","NoRoom","NoWalkers","NotShut","NeverBack","NoTour","NoRow"]=true) (e_cat:catB K=true)
  (y_ValueError:nsIn K bA "ValueError" = some none)
  (y_all:nsIn K bA "all" = some none)
  (y_bool:nsIn K bA "bool" = some none)
  (y_divmod:nsIn K bA "divmod" = some none)
  (y_enumerate:nsIn K bA "enumerate" = some none)
  (y_int:nsIn K bA "int" = some none)
  (y_isinstance:nsIn K bA "isinstance" = some none)
  (y_len:nsIn K bA "len" = some none)
  (y_list:nsIn K bA "list" = some none)
  (y_max:nsIn K bA "max" = some none)
  (y_min:nsIn K bA "min" = some none)
  (y_range:nsIn K bA "range" = some none)
  (y_set:nsIn K bA "set" = some none)
  (y_sorted:nsIn K bA "sorted" = some none)
  (y_tuple:nsIn K bA "tuple" = some none)
  (y_zip:nsIn K bA "zip" = some none)
  : ∃fd:fJ,(∀(s:aH) (v:aD),nH s fd ⟨[v],[]⟩ [("script", v)])/\∀base:fK,K.In base->base.Ns bA mg->FnOk l.prog w K mg base CX0 9 fa fd ["script"] (spOf K 1 axw):=by
 have e:=hfa.symm.trans (mg_of X G a35);cases e;have T:Txt K mg:=⟨⟨_,mg_of X G g_MOST_TOLD⟩,gP X G y_ValueError,gP X G y_all,gP X G y_bool,gP X G y_divmod,gP X G y_enumerate,gP X G y_int,gP X G y_isinstance,gP X G y_len,gP X G y_list,gP X G y_max,gP X G y_min,gP X G y_range,gP X G y_set,gP X G y_sorted,gP X G y_tuple,gP X G y_zip,e_sub,a2n X G e_cat,qi X G e_cls (by decide +kernel),qi X G e_cls (by decide +kernel),qi X G e_cls (by decide +kernel),qi X G e_cls (by decide +kernel),qi X G e_cls (by decide +kernel),qi X G e_cls (by decide +kernel),qi X G e_cls (by decide +kernel),qi X G e_cls (by decide +kernel),qi X G e_cls (by decide +kernel),qi X G e_cls (by decide +kernel),qi X G e_cls (by decide +kernel),qi X G e_cls (by decide +kernel),qi X G e_cls (by decide +kernel),aa5 X G e_cls (by decide +kernel) e_rai (by decide +kernel),aa5 X G e_cls (by decide +kernel) e_rai (by decide +kernel),aa5 X G e_cls (by decide +kernel) e_rai (by decide +kernel),aa5 X G e_cls (by decide +kernel) e_rai (by decide +kernel),aa5 X G e_cls (by decide +kernel) e_rai (by decide +kernel),aa5 X G e_cls (by decide +kernel) e_rai (by decide +kernel),aa5 X G e_cls (by decide +kernel) e_rai (by decide +kernel),aa5 X G e_cls (by decide +kernel) e_rai (by decide +kernel),axj X G e_cls (by decide +kernel) aj_NotOpen e_iNotOpen (aop (st:=wy) li_NotOpen ci_NotOpen ki_NotOpen),axk X G e_cls (by decide +kernel) aj_TooGreat e_iTooGreat e_jTooGreat (aop (st:=uc) li_TooGreat ci_TooGreat ki_TooGreat),e_nmany,e_nmost⟩
 have F35:=aop (st:=ah9) l35 c35 k35;refine⟨fnOf "law" "law" (j8 ah9) (ie ah9) (ao ah9) .none kV35 dc35 pm35 an35 cd35 ct35,fun s v=>.of_eq rfl,fun base _ _ =>?_⟩
 have d0:Dd0 l.prog w K mg base:=⟨_,_,amj q0.F T,q0.E1 X G⟩;have d1:Dd1 l.prog w K mg base:=⟨_,_,ac4 q1.F T d0,q1.E3 X G⟩;have d2:Dd2 l.prog w K mg base:=⟨_,_,ad4 q2.F T d1,q2.E2 X G⟩;have d3:Dd3 l.prog w K mg base:=⟨_,_,ad3 q3.F T d2,q3.E2 X G⟩;have x3:Dx3 l.prog w K mg base:=⟨_,_,ac2 q3.F T d2,q3.E2 X G⟩;have d4:Dd4 l.prog w K mg base:=⟨_,_,a01 q4.F T,q4.E1 X G⟩;have d5:Dd5 l.prog w K mg base:=⟨_,_,ap6 q5.F T d4,q5.E1 X G⟩;have d6:Dd6 l.prog w K mg base:=⟨_,_,ac3 q6.F T d4,q6.E1 X G⟩;have x6:Dx6 l.prog w K mg base:=⟨_,_,acg q6.F T d4,q6.E1 X G⟩;have d7:Dd7 l.prog w K mg base:=⟨_,_,ami q7.F T,q7.E2 X G⟩;have d8:Dd8 l.prog w K mg base:=⟨_,_,ap4 q8.F T,q8.E3 X G⟩;have d9:Dd9 l.prog w K mg base:=⟨_,_,ap7 q9.F T,q9.E3 X G⟩;have d10:Dd10 l.prog w K mg base:=⟨_,_,as9 q10.F T d7 d8 d9,q10.E2 X G⟩;have d11:Dd11 l.prog w K mg base:=⟨_,_,ag3 q11.F T d10,q11.E1 X G⟩;have d12:Dd12 l.prog w K mg base:=⟨_,_,af0 q12.F T,q12.E1 X G⟩;have d13:Dd13 l.prog w K mg base:=⟨_,_,awv q13.F T,q13.E3 X G⟩;have d14:Dd14 l.prog w K mg base:=⟨_,_,ap5 q14.F T d13,q14.E3 X G⟩;have d15:Dd15 l.prog w K mg base:=⟨_,_,aii q15.F T d6 d12 d11 x6,q15.E1 X G⟩;have x15:Dx15 l.prog w K mg base:=⟨_,_,ag1 q15.F T d6 d12 d11 x6,q15.E1 X G⟩;have d16:Dd16 l.prog w K mg base:=⟨_,_,aj5 q16.F T d5,q16.E2 X G⟩;have d17:Dd17 l.prog w K mg base:=⟨_,_,aj6 q17.F T d15 d16 x15,q17.E1 X G⟩;have x17:Dx17 l.prog w K mg base:=⟨_,_,aig q17.F T d15 d16 x15,q17.E1 X G⟩;have d18:Dd18 l.prog w K mg base:=⟨_,_,a02 q18.F T d3 d17 d14 x3 x17,q18.E2 X G⟩;have x18:Dx18 l.prog w K mg base:=⟨_,_,awu q18.F T d3 d17 d14 x3 x17,q18.E2 X G⟩;have d19:Dd19 l.prog w K mg base:=⟨_,_,akd q19.F T,q19.E2 X G⟩;have d20:Dd20 l.prog w K mg base:=⟨_,_,amk q20.F T,q20.E1 X G⟩;have d21:Dd21 l.prog w K mg base:=⟨_,_,akc q21.F T,q21.E2 X G⟩;have u22:Du22 l.prog w K mg base:=⟨_,_,ag2 q22.F T,q22.E1 X G⟩;have d22:Dd22 l.prog w K mg base:=⟨_,_,aij q22.F T,q22.E1 X G⟩;have d23:Dd23 l.prog w K mg base:=⟨_,_,aml q23.F T d21,q23.E1 X G⟩;have d24:Dd24 l.prog w K mg base:=⟨_,_,ain q24.F T d21,q24.E3 X G⟩;have d25:Dd25 l.prog w K mg base:=⟨_,_,af1 q25.F T,q25.E2 X G⟩;have d26:Dd26 l.prog w K mg base:=⟨_,_,aj9 q26.F T d24 d25 d21,q26.E3 X G⟩;have u27:Du27 l.prog w K mg base:=⟨_,_,aih q27.F T,q27.E1 X G⟩;have d27:Dfn l.prog w K mg base _ _ _ _:=⟨_,_,aka (P:=l.prog) (w:=w) (base:=base) q27.F T,q27.E1 X G⟩;have d28:Dd28 l.prog w K mg base:=⟨_,_,aim q28.F T,q28.E2 X G⟩;have d29:Dd29 l.prog w K mg base:=⟨_,_,akb q29.F T,q29.E1 X G⟩;have d30:Dd30 l.prog w K mg base:=⟨_,_,ad5 q30.F T d28 d29,q30.E1 X G⟩;have d31:Dd31 l.prog w K mg base:=⟨_,_,aik q31.F T d21 d26,q31.E1 X G⟩;have d32:Dd32 l.prog w K mg base:=⟨_,_,aj8 q32.F T,q32.E3 X G⟩;have d33:Dd33 l.prog w K mg base:=⟨_,_,aj7 q33.F T d18 x18 u27 u22,q33.E2 X G⟩;have d34:Dd34 l.prog w K mg base:=⟨_,_,ail q34.F T d30 d32 d33 d22,q34.E2 X G⟩;exact a4u F35 T d34 d15 d33 d19 d20 d31 d23
end My
set_option genInjectivity false in
structure PySem.W.Fast where(tw14407256937793434368 tw5297091121115561888 tw15428744778050300896 tw5932405952208960609 tw3356830440833108161 tw10725235939460021761 tw11951691662882710113 tw14136642754542238465 tw17486365492914215905 tw8182591041089027170 tw12156827051487442434 tw12489413235797806594 tw2408551090818401922 tw14851355673832026882 tw17216272210381836259 tw13058460128887786564 tw10664451023848579941 tw16633831297896371206 tw10131326208475660934 tw3565638813450011751 tw16325216951871284007 tw8012579558051452775 tw716440425275089320 tw16778845294515161800 tw1164875075453933609 tw11334223279287964169 tw6551509075730292649 tw85564059810857546 tw14035445625304158987 tw3667670643936987884 tw1094210705505883245 tw7249327662936296557 tw5423614728728911085 tw4521895461769584013 tw4385795298012148750 tw4620137368785394607 tw14755713341286910480 tw212154876243636241 tw9545956883168046385 tw2682649540088295506 tw17555913353146693778 tw9571191953160365234 tw7506311366994106738 tw3080724937152430163 tw12118391011913028947 tw6871985141821763187 tw13279777996715877331 tw4631346053500364340 tw15580906122971874645 tw7687664278993548342 tw545401705047705750 tw9473824605232143574 tw16863612761685468790 tw7040172581110216470 tw10151339664412355863 tw8204395476992618807 tw5282037222226213495 tw12669944346966265623 tw15423399711550737335 tw130731623244540536 tw15750788515272680088 tw7779950392413414777 tw6937266104181611579 tw10055828278622864475 tw7073504299736184763 tw10970006526457696348 tw16262018852106228828 tw7011319471342509148 tw905665208768013788 tw341541123814964796 tw2906224705972622972 tw17999578432833253021 tw9335839363393352990 tw14600092635702346911 tw8629514270762587615 tw16038642545019490727 tw6604156453095127301 tw7620910603388311397 tw16452899922200036286 tw3649865054145960087 tw10905115150524633594 tw15305758449227101834 tw8222859822191319102 tw16980610794144353120 tw840633961088464311 tw4718040147113221978 tw3867876850155300442 tw17654254626809198620 tw6634386007286548655 tw12893450728179857247 tw7504045016564432028 tw5402991674309603442 tw10084163903758409527 tw15342025327555192775 tw15619174729877572251 tw11590086013925146629 tw11658434689009796596 tw3869405494531431649 tw9518351445356387500 tw13999169738613174757 tw5633077406953862721 tw4508163863531974077 tw2091728281239749296 tw13755444147835217507 tw12409108198794128764 tw16687778009427638324 tw3430166691055257757 tw7674276484247159156 tw9488434108710156946 tw6404027333253577410 tw3256805248304509285 tw638477487451457109 tw44617044646874783 tw9976908660839699153 tw11656958207827973371 tw7606926927390058965 tw16503842583072084373 tw12088860399295053246 tw9439169146301953712 tw198794629633521411 tw16927124467091191798 tw14644200160493124188 tw11511353833444776439 tw16490582924822410177 tw11001487871865461816 tw5615294814996149369 tw10670704715971560071 tw9398053464677655818 tw5410321852892393557 tw15087869294401887827 tw14125026364063365843 tw15011586284485163553 tw4923833391603997545 tw5949244396766423762 tw15747877139524323340 tw18140674923121482312 tw1017992255071519186 tw12062541684884432802 tw10101016228249507536 tw13261865255777051014 tw476979989677726970 tw14708690482428605586 tw9019616431036744859 tw8737432375899490530 tw7297240649362895943 tw16457353636606668962 tw17219299617325995471 tw17461016310756354083 tw12377058026510209220 tw5495222725663329352 tw16985305788551842945 tw7721327009936561995 tw14370302603685656475 tw17566634036695546262 tw16727028501723987809 tw2781455919658398883 tw13365632241353912339 tw8021643503670991387 tw7499924650467045385 tw3742665219774214063 tw14336599706649222698 tw892527226316344187 tw5478798816322724480 tw10565162076605901441 tw16447536092925541095 tw1951045334705160683 tw14699512251621699610 tw4549731946943396193 tw4380684743812084198 tw8547463377213837373 tw14305129429253837420 tw14116997050348209692 tw574685065754944997 tw17187682269672936225 tw17397526531600616582 tw17082823899177462686 tw4963875892023487020 tw4336990377868232712 tw11488834540381789234 tw11110375541473697397 tw9174803786926215342 tw3532609273348445418 tw5877716246261302705 tw7230768282866026535 tw9270249425599640348 tw10467911307391011804 tw9231960445951536387 tw11499760842777416189 tw2879689066430965827 tw5860009506351340226:Unit)
open PySem PySem.W PyProof.Rows
set_option maxRecDepth 100000 in
set_option maxHeartbeats 0 in
theorem PySem.Challenge.cw_turnarrows_k38_sent_to_one_another_holds : PySem.Challenge.rw_turnarrows_k38_sent_to_one_another.Holds := by
 w_on;o_law;k_head;(case hw=>w_witness2)
 k_fill
 refine Dn.walk (l:=PySem.Challenge.rw_turnarrows_k38_sent_to_one_another) (f:=My.axw) (k:=9) My.axc rfl rfl ⟨rfl,by decide,by decide,rfl⟩ (fun w h Y=>PySem.W.kIn_of Y) ?F
 case F =>
  intro w mg fa h KX G hmg;refine' My.a6u KX G hmg ?_ ?_ ?_ ?_ ?_ ?_ ?_ ?_ ?_ ?_ ?_ ?_ ?_ ?_ ?_ ?_ ?_ ?_ ?_ ?_ ?_ ?_ ?_ ?_ ?_ ?_ ?_ ?_ ?_ ?_ ?_ ?_ ?_ ?_ ?_ ?_ ?_ ?_ ?_ ?_ ?_ ?_ ?_ ?_ ?_ ?_ ?_ ?_ ?_ ?_ ?_ ?_ ?_ ?_ ?_ ?_ ?_ ?_ ?_ ?_ ?_ ?_ ?_ ?_ ?_ ?_ ?_ ?_ ?_ ?_ ?_ ?_ ?_ ?_ ?_
  all_goals try refine' And.intro ?_ (And.intro ?_ (And.intro ?_ ?_))
  any_goals k_is
  all_goals kernel_rfl
