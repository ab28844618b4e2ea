import PyProof.Rows.All
import Wide.All
import OpenK.AllK
import Wide.FinOn
import Lean
import PyProof.EqAt
import PyProof.EqKinds
import PyProof.TupleCall
import PySem.Challenge.RW_turnarrows_k17_rests_refused
set_option Elab.async false
set_option linter.all false
set_option maxRecDepth 100000
open Option renaming some->ZZ,none->ZY
open Bool renaming true->ZX,false->ZW
open Array renaming length_toList->bN,getElem?_eq_some_iff->dR,getElem?_toList->pP,getElem_toList->pW,getElem?_eq_none->uL,find?_toList->wH,toList_push->xR,getD->xT,toList_inj->yE
open Bool renaming and_eq_true->bB,false_ne_true->cY,false_eq_true->jJ,and_eq_false_iff->jP,true_and->mH,or_eq_true->sY,false_and->tW,or_eq_false_iff->vB,and_eq_true_iff->vC,not_eq_true'->xP,eq_false_iff->xQ,and_false->yW,or_false->zG,and_true->zH
open Classical renaming byContradiction->fK
open False renaming elim->eF
open ForInStep renaming yield->yJ
open Function renaming comp_def->oE
open Int renaming toNat_natCast->dZ,emod_lt_of_pos->fH,emod_eq_of_lt->fO,emod_nonneg->iG,natCast_add->jO,mul_le_mul_of_nonneg_left->lZ,lt_or_le->pN,emod_add_mul_ediv->pO,mul_add->qH,add_emod_right->qR,natCast_mul->sO,mul_one->sS,fmod_eq_emod_of_nonneg->tD,fdiv_eq_ediv_of_nonneg->tE,add_zero->uU,ediv_emod_unique->uZ,emod_add_emod->xF
open List renaming replicate->aD,getElem?_eq_getElem->aF,getElem?_eq_some_iff->aK,length_map->aL,mem_cons_of_mem->aR,getD_eq_getElem?_getD->aU,size_toArray->aW,getElem?_map->aX,getElem?_append_left->aY,mem_cons_self->aZ,mem_cons->bA,map_cons->bC,length_cons->bF,getElem?_set->bJ,lookup->bK,length_append->bV,range->bW,set->bZ,length_set->cC,getElem?_append_right->cD,append_nil->cF,not_mem_nil->cI,contains_iff_mem->cO,all_eq_true->cR,mem_of_getElem?->cT,mem_append->cU,mem_append_right->cX,sum_cons->dD,mem_singleton->dF,lookup_cons_self->dG,replicate_succ->dH,getElem_mem->dJ,length_replicate->dO,length_take->dX,mem_filter->eV,getElem?_cons_succ->fD,getElem?_take_of_lt->fM,pairwise_cons->fU,nil_append->fV,mem_map->fW,length_drop->fX,append_assoc->gB,getElem?_eq_none->gD,mem_iff_getElem->gH,mem_append_left->gJ,count_append->gW,getElem?_range->iC,filterMap_cons->iD,mem_range->iJ,getElem?_zip_eq_some->iK,flatten_cons->iW,getElem?_replicate->jC,map_map->jM,length_filter_le->jN,length_range->jW,all_cons->jX,drop_eq_getElem_cons->kI,foldl->lA,map_append->lG,length_nil->lH,forIn_cons->lJ,findIdx?_eq_some_iff_getElem->lK,pairwise_lt_range->lM,getElem?_set_self->lN,ext_getElem?->lR,mapIdx_cons->lY,getElem?_set_ne->mD,getElem?_mapIdx->mF,range_succ->mQ,nodup_cons->mR,length_zipWith->mU,length_zip->mV,length_pos_iff->mW,mem_replicate->nF,map_set->nG,forIn_nil->nO,findIdx?_eq_none_iff->nP,zipIdx_cons->oW,take_length->oX,cons_append->oY,drop_eq_nil_of_le->pC,zipIdx_nil->pH,of_mem_zip->pI,getElem?_zipWith->pJ,foldl_cons->pK,cons.injEq->pL,Pairwise.sublist->pM,zip_cons_cons->qL,findIdx?->qM,filter_filter->qN,any_cons->qO,Pairwise.cons->qP,Pairwise.nil->rD,map_nil->rF,ext_getElem->rN,zip->rQ,filter_map->sJ,length_eraseIdx_of_lt->sZ,mem_or_eq_of_mem_set->tO,getElem?_eq_none_iff->tQ,drop_zero->tR,append_eq_append_iff->tU,map_take->uH,length_eq_zero_iff->uI,take_of_length_le->uK,take->uQ,all_nil->uR,Pairwise.of_cons->uT,mem_of_mem_take->uX,count_replicate->uY,replicate_zero->vM,map_congr_left->vN,filter_sublist->vO,filter_eq_self->vP,mem_filterMap->wB,map_replicate->wC,length_mapIdx->wD,take_sublist->wR,pairwise_map->wU,nodup_append->wV,length_erase->wW,getElem_drop->wX,Pairwise.imp->wY,lookup_cons->xZ,filter_cons->yC,countP_cons->yD,sum_append->yI,take_succ->yR,mapM_cons->yS,dropWhile->yU,map_drop->zB
open Nat renaming le_refl->aP,ne_of_lt->bI,lt_of_lt_of_le->bY,le_trans->cW,zero_le->dN,ne_of_gt->fL,lt_succ_self->jE,le_succ->kO,zero_add->kZ,lt_irrefl->lF,lt_or_ge->lW,min_eq_left->mO,lt_trans->mZ,le_of_lt->nA,le_of_eq->nD,not_lt->oA,succ_le_succ->oV,not_lt_zero->pG,eq_zero_or_pos->qK,lt_succ_of_lt->rC,sub_zero->uO,mul_comm->uP,le_add_right->xY
open Ne renaming symm->gG
open Option renaming map_eq_some_iff->cB,some.inj->cN,bind_eq_some_iff->jB,getD_none->rM,isNone_iff_eq_none->tM,isSome_iff_exists->tZ,getD_some->xW,bind_some->xX,map_some->yH
open Or renaming inl->bO,inr->qJ
open PyProof renaming Rows.slot_tuple_getitem->fB,Rows.callWith_type1->iB,Rows.envOfC->mY,Rows.IntsAre->oN,Rows.F.plain_set_update_loop->oO,Rows.AllBare->pQ,Rows.LSm.kept_iter->qQ,Rows.F.entry_set_update_loop->uJ,Rows.IsTup->wZ
open PySem renaming wpAny_bind->aA,Heap.get?_push_of_some->aB,Value->aG,wpAny_pure->aH,Shared->aJ,Heap.get?_push_size->aM,Heap.lt_size->aN,starEach->aO,Addr->aQ,mainGlobals->aV,wpAny_mono->bD,wpAny->bG,Heap.get?_update_other->bH,model->bL,Heap.get?_update_self->bM,Obj.data_mapFields->bQ,bootBuiltins->bR,Program->bT,Heap.size_push->bU,wpAny_newObj_type->cA,wpAny_field->cG,Value.ref->cH,sizeLine->cJ,Heap.SameBut.update->cL,Value.none->cM,Heap.SameBut->cP,Around->cQ,SetTable->cZ,World->dB,PassesOwn.never->dC,Expr->dI,wpAny_callSpecial?_slot->dU,W.kia_one->dW,wpAny_seqItems->dY,Heap->eE,wpAny_holding->eG,NameKind.free->eH,FuncData->eQ,Obj.isFreed_of_fields->eU,wpAny_setField->eX,wpAny_call_entry->eY,wpAny_setField_rec->fG,SetTable.below->fJ,compareOp->fP,attributeBase->fQ,binaryOp->fY,F.excBase_ValueError->fZ,W.mg_none_of->gA,backTo->gC,sizeLine_eq->gF,Stmt->gK,W.subIn->gM,W.kitOne->gP,W.InstAt->gQ,W.hasDictIn->gR,W.emptyDict->gU,W.findIn->gY,Obj.mapSeq->iH,rawInt->iI,Builtin->iM,Heap.get?_none_of_le->iQ,swapsWith->iR,assignEach->iT,W.takerIn->iU,W.instObj->iV,Builtin.Tuple.tupleExact->iY,wpAny_standAt->iZ,mem_of_lookup->jA,W.any_some->jD,wpAny_rule->jF,Value.type->jG,W.callWith_K->jH,codeAny_mono->jK,Str.ofString->jL,wpAny_onRaise->jQ,W.Looks->jR,Obj.mapFields->jT,Obj.cls_mapFields->jU,NameKind.cell->jV,F.slot_tuple_iterator_next->jY,holding->jZ,Around.under_plainId->kE,Builtin.Slice.slicePlaces->kJ,W.keepIn->kW,call_meets->kY,F.called_set->lB,pickOrder->lC,W.mroIn->lD,W.clsIn->lE,F.slot_int_rmul->lL,wpAny_call->lO,W.specialIn->lQ,W.notCls->lU,W.isFn->lV,W.plainGet->lX,W.looks_findIn->mC,Value.builtin->mG,codeAny->mJ,Value.int->mK,W.findObj->mL,IsZip->mX,SetTable.grown->nH,Scope->nJ,W.typeIn->nM,Builtin.Slice.sliceAdjust->nQ,scanBound->nR,pyNext->nT,F.type_list_append->nW,F.slot_list_append->nY,F.args_tuple_add_2->nZ,AutoSeq1.wpAny_loadPart'->oF,Shared.heap->oG,W.excIn->oH,F.slot_list_index->oJ,F.plainAttrs_list->oK,F.entry_tuple_add->oM,BindsTo->oR,assign->oU,F.slot_tuple_mul->oZ,W.cellsFrom_some->pA,F.slot_tuple_add->pB,W.takesIn->pD,W.makesIn->pF,bindArgs->pR,Value.bool->pU,W.lookIn->pX,intKind->pY,hashInt->pZ,argBest->qC,W.plainGet_of->qD,W.looks_clsIn->qF,Keyword->qG,W.isNs_of_in->qI,Calls.spliced_cons->qT,setNext->qU,getItem->qW,callerA->qX,W.plainOver->qY,W.methodObj->qZ,W.kitx_list->rA,PyData.eqv->rB,F.args_int_rmul_2->rE,IsPart->rG,Code.isFrame->rH,Builtin.ObjectAttr.storeInDict->rJ,Around.under->rK,F.slot_int_index->rO,F.entry_int_rmul->rP,F.args_tuple_iterator_next_1->rR,Builtin.divisionGoesByPylong->rT,W.codeIn->rW,Value.str->rY,Value.float->rZ,W.OpenLaw->sH,PassesOwn->sI,Heap.get?->sU,F.fills_int_mul->sV,F.entry_tuple_iterator_next->sW,Builtin.List.listExtendWith->sX,Calls.Name_function_global->tG,Builtin.Tuple.tupleTooMany->tH,Builtin.Tuple.tupleItemsOf->tK,Builtin.Slice.sliceApplied->tL,Heap.MadeExcOf->tV,argsOk->tX,F.slot_tuple_count->tY,Builtin.List.listTooLong->uA,Builtin.List.listSameRef->uB,F.type_list_index->uC,F.slot_list_count->uD,F.attr_ValueError->uE,PyData.eqvAll->uF,NameKind->uG,Within->uM,W.Looks.of_pure->uN,Flow.next->uV,Value.notImplemented->uW,Calls.evalArgs_plain->vA,Around.frames_deeper->vD,Value.isInt->vG,Value.bytes->vH,W.looks_subIn->vI,W.looks_mroIn->vJ,W.findObj_own->vK,Model->vL,Heap.get?_update_ne->vQ,Heap.ExtBut->vR,EntryCells.newEntry->vU,Code.frames->vV,W.tail_of_in->vW,W.looks_find->vX,W.codeRec_of->vY,W.check_slot->vZ,W.Looks.here->wA,F.args_tuple_mul_2->wF,Code.quiet_builtin->wG,Walks.list->wI,SetTable.probe.go->wJ,SetTable.below.go->wK,call->wL,W.set_plain->wM,W.kitx_dict->wN,PyData.canLayAll0->wO,Obj.putSet->wQ,Heap.get?_push_at->xG,Heap.SameBut.refl->xH,Heap.Ns1.of_empty->xJ,F.slot_tuple_rmul->xK,F.plain_list_iadd->xM,F.entry_tuple_mul->xN,CmpOp->xO,seqSlot_of->xU,W.handedIn->xV,W.kitMeta->yF,PyData.depthAll->yG,F.slot_zip_next->yK,F.slot_set_iter->yL,F.plain_set_new->yM,F.entry_zip_new->yN,Code.isCreation->yO,SetTable.Probe->yP,W.kitCls->yQ,F.owner_object->yV,Value.ref.inj->yX,SetTable.laid->yZ,W.WalkO->zA,Code.isCaller->zE,CmpOf.ints_lt->zF
open Sum renaming inr->sE,inl->sG
open True renaming intro->nU
noncomputable section
open PySem.W (nsIn mg_of keepIn fnOf codeIn findIn mg_none_of)
abbrev Fg9:=PySem.W.Frag
abbrev LL9:=List (List Int)
section
open PySem PySem.Spec PyProof.Rows
namespace L2
abbrev Key:=Sum Int Str
def a4a:Key->aG->Bool
 |.inl k,v=>vG k v
 |.inr x,v=>Value.isStrOf x v
noncomputable def keyH(w:dB):Key->Int
 |.inl k=>pZ k
 |.inr x=>hashStr w x
theorem ni:∀{k:Key} {v:aG},a4a k v=ZX->(∃i t,k=sG i/\v=mK i t)∨(∃x t,k=sE x/\v=rY x t)
 |.inl i,v,h=>by
  obtain⟨t,e⟩:=Value.isInt_shape (k:=i) (v:=v) h;exact .inl ⟨i,t,rfl,e⟩
 |.inr x,v,h=>by
  obtain⟨t,e⟩:=Value.isStrOf_shape (x:=x) (v:=v) h;exact .inr ⟨x,t,rfl,e⟩
def a3z(a b:Int):decide ((sG a:Key)=sG b)=(a==b):=by
 by_cases e:a=b
 ·subst e;simp
 ·have h:¬(sG a:Key)=sG b:=λq=>e (Sum.inl.inj q)
  rw[decide_eq_false h];exact(beq_eq_false_iff_ne.mpr e).symm
def a3w(a b:Str):decide ((sE a:Key)=sE b)=decide (a=b):=by
 by_cases e:a=b
 ·subst e;simp
 ·have h:¬(sE a:Key)=sE b:=λq=>e (Sum.inr.inj q)
  rw[decide_eq_false h,decide_eq_false e]
def a3y(a:Int)(b:Str):decide ((sG a:Key)=sE b)=ZW:=decide_eq_false (λq=>nomatch q)
def a3x(a:Str)(b:Int):decide ((sE a:Key)=sG b)=ZW:=decide_eq_false (λq=>nomatch q)
def as3(prog:bT)(w:dB):PySem.KeyKind prog w Key where
 is:=a4a
 hash:=keyH w
 inj:=λv a b ha hb=>by
  rcases ni ha with⟨i,t,rfl,rfl⟩ |⟨x,t,rfl,rfl⟩
  ·rcases ni hb with⟨j,u,rfl,e⟩ |⟨y,u,rfl,e⟩
   ·injection e with e1 _;rw[e1]
   ·exact nomatch e
  ·rcases ni hb with⟨j,u,rfl,e⟩ |⟨y,u,rfl,e⟩
   ·exact nomatch e
   ·injection e with e1 _;rw[e1]
 byValue:=λk v h=>by
  rcases ni h with⟨i,t,rfl,rfl⟩ |⟨x,t,rfl,rfl⟩ <;> rfl
 pyHash:=λhv h=>by
  rcases ni hv with⟨i,t,rfl,rfl⟩ |⟨x,t,rfl,rfl⟩
  ·exact wpAny_pyHash_int h
  ·exact wpAny_pyHash_str h
 eqBool:=λhu hv h=>by
  rcases ni hu with⟨i,t,rfl,rfl⟩ |⟨x,t,rfl,rfl⟩
  ·rcases ni hv with⟨j,u,rfl,rfl⟩ |⟨y,u,rfl,rfl⟩
   ·rw[a3z] at h;exact wpAny_eqBool_int h
   ·rw[a3y] at h;exact SeqAt.EqAt.int_str i t y u _ _ _ _ h
  ·rcases ni hv with⟨j,u,rfl,rfl⟩ |⟨y,u,rfl,rfl⟩
   ·rw[a3x] at h;exact SeqAt.EqAt.str_int x t j u _ _ _ _ h
   ·rw[a3w] at h;exact wpAny_eqBool_str h
 «strs» := λk x t v h=>by
  rcases ni h with⟨i,u,rfl,e⟩ |⟨y,u,rfl,e⟩
  ·exact nomatch e
  ·injection e with e1 _
   subst e1;cases v <;> rfl
def IsTp(h:eE)(a:aQ)(items:Array aG):Prop:=∃o,h.get? a=ZZ o/\o.cls=.type "tuple" /\ o.dict=ZY/\∃n,o.data=.seq items n
def IsTp.tup{h:eE}{a:aQ}{items:Array aG}(x:IsTp h a items):wZ h a items:=let ⟨o,e,c,_,n,d⟩:=x;⟨o,e,c,n,d⟩
def IsTp.new(h:eE)(items:Array aG):IsTp (h.push { cls:=.type "tuple", data:=.seq items }) h.objs.size items:=⟨_,aM _ rfl,rfl,rfl,_,rfl⟩
inductive V where
 |non |bl (b:Bool) |int (i:Int) |str (x:Str) |byt (b:Array UInt8) |flt (b:UInt64) |ref (a:aQ) |ty (n:String)
 deriving DecidableEq
def RelV:V->aG->Prop
 |.non,u=>u=cM
 |.bl b,u=>u=pU b
 |.int i,u=>∃t,u=mK i t
 |.str x,u=>∃t,u=rY x t
 |.byt b,u=>∃t,u=vH b t
 |.flt b,u=>∃t,u=rZ b t
 |.ref a,u=>u=cH a
 |.ty n,u=>u=jG n
abbrev Vals:List V->List aG->Prop:=Paired RelV
def Vals.length{xs:List V}{us:List aG}(r:Vals xs us):xs.length=us.length:=Paired.length r
theorem Vals.get:∀{xs:List V} {us:List aG} {i:Nat} {x:V},Vals xs us->xs[i]? = ZZ x->∃u,us[i]? = ZZ u/\RelV x u
 |_,_,_,_,.nil,e=>by simp at e
 |_,_,0,_,.cons r _,e=>by simp at e;subst e;exact⟨_,rfl,r⟩
 |_,_,i+1,x,.cons _ t,e=>by
  obtain⟨u,h1,h2⟩:=Vals.get (i:=i) (x:=x) t (by simpa using e)
  exact⟨u,by simpa using h1,h2⟩
theorem Vals.set{x:V}{u:aG}(r:RelV x u):∀{xs:List V} {us:List aG} (i:Nat),Vals xs us->Vals (xs.set i x) (us.set i u)
 |_,_,_,.nil=>.nil
 |_,_,0,.cons _ t=>.cons r t
 |_,_,i+1,.cons q t=>.cons q (Vals.set r i t)
theorem Vals.append:∀{xs ys:List V} {us ws:List aG},Vals xs us->Vals ys ws->Vals (xs++ys) (us++ws)
 |_,_,_,_,.nil,s=>s
 |_,_,_,_,.cons r t,s=>.cons r (Vals.append t s)
theorem Vals.take:∀{xs:List V} {us:List aG} (n:Nat),Vals xs us->Vals (xs.take n) (us.take n)
 |_,_,0,_=>.nil
 |_,_,_+1,.nil=>.nil
 |_,_,n+1,.cons r t=>.cons r (Vals.take n t)
theorem Vals.drop:∀{xs:List V} {us:List aG} (n:Nat),Vals xs us->Vals (xs.drop n) (us.drop n)
 |_,_,0,r=>r
 |_,_,_+1,.nil=>.nil
 |_,_,n+1,.cons _ t=>Vals.drop n t
def RelO:Option V->Option aG->Prop
 |some v,ZZ u=>RelV v u
 |none,ZY=>True
 |_,_=>False
def KV{κ:Type}:List (κ×V)->List (κ×Value)->Prop:=Paired λ(p:κ×V) (q:κ×Value)=>p.1=q.1/\RelV p.2 q.2
def kV:Key->V
 |.inl i=>.int i
 |.inr x=>.str x
inductive HO where
 |lst (xs:List V)
 |tup (xs:List V)
 |dK (kvs:List (Key×V)) |dT (kvs:List (List Key×V))
 |set (S:Int->Bool) (n:Nat)
 |ins (C dx:aQ) (fs:List (Str×V))
 |own (x:aQ)
 |xd (fs:List (Str×V))
 |met (f x:aQ)
 |rng (lo hi:Int)
 |frz (o:Obj) (u:HO)
 |tbl (ps:Array aG)
 |ext (φ:eE->Prop)
abbrev Hp:=aQ->Option HO
noncomputable def upd(H:Hp)(a:aQ)(o:HO):Hp:=λb=>if b=a then ZZ o else H b
def gk{H:Hp}{a:aQ}{o:HO}:upd H a o a=ZZ o:=by unfold upd;rw[if_pos rfl]
def b7{H:Hp}{a b:aQ}{o:HO}(h:b≠a):upd H a o b=H b:=by unfold upd;rw[if_neg h]
def ayg{H:Hp}{a:aQ}{o u:HO}:upd (upd H a o) a u=upd H a u:=by
 funext b;unfold upd;split <;> rfl
def jj{H:Hp}{a b:aQ}{o:HO}(h:H a=ZZ o)(h':H b=ZY):a≠b:=by
 intro e;subst e;rw[h] at h';cases h'
section
variable(P:bT)(w:dB)
def xf(H:Hp)(h:eE)(a:aQ):HO->Prop
 |.lst xs=>xs.length<=cJ/\∃(its:List aG) (n:Nat),Vals xs its/\h.get? a=ZZ { cls:=.type "list", data:=.seq its.toArray n }
 |.tup xs=>xs.length<=cJ/\∃its:List aG,Vals xs its/\IsTp h a its.toArray
 |.dK kvs=>kvs.length<=cJ/\(a==sysModules)=ZW/\∃vs,KV kvs vs/\h.DictOf (as3 P w) a vs
 |.dT kvs=>kvs.length<=cJ/\(a==sysModules)=ZW/\∃xs:List (List Key×Addr×Value),
   Paired (λ(p:List Key×V) (q:List Key×Addr×Value)=>p.1=q.1/\H q.2.1=ZZ (.tup (p.1.map kV))/\RelV p.2 q.2.2) kvs xs /\
   ∃o es ep,h.get? a=ZZ o/\o.ExactDict/\o.data=.dict es ep/\es.toList=xs.map (entryOfKey (tupleKind (as3 P w)))/\(xs.map (·.1)).Nodup
 |.set S n=>h.SetOf (pY P w) a S n
 |.ins C dx fs=>H dx=ZZ (.own a)/\fs.length<=1000/\dx≠a/\h.get? a=ZZ (iV C dx) /\
   ∃mA,h.Ns1 dx mA/\(∀f,RelO (fs.lookup f) (mA f))/\uM mA (fs.map (·.1))
 |.own _=>∃o,h.get? a=ZZ o
 |.xd fs=>∃mA,h.Ns1 a mA/\∀f,RelO (fs.lookup f) (mA f)
 |.rng lo hi=>∃t u v,h.get? a=ZZ { cls:=.type "range", data:=.fields #[.int lo t,.int hi u,.int 1 v] }
 |.frz o u=>h.get? a=ZZ o/\xf H h a u
 |.tbl ps=>h.get? a=ZZ { cls:=.none,data:=.fields ps }
 |.met f x=>h.get? a=ZZ (qZ (.ref f) (.ref x))
 |.ext φ=>φ h/\(∃o,h.get? a=ZZ o)/\∀h1 h2:eE,φ h1->(∀o,h1.get? a=ZZ o->h2.get? a=ZZ o)->φ h2
def HOk(H:Hp)(h:eE):Prop:=∀a o,H a=ZZ o->xf P w H h a o
end
section
variable{P:bT}{w:dB}{H H':Hp}{h h':eE}{a:aQ}{o:HO}
theorem xf.lt(x:xf P w H h a o):a<h.objs.size:=by
 cases o with
 |lst xs=>obtain⟨_,_,_,_,e⟩:=x;exact aN e
 |tup xs=>obtain⟨_,_,_,p⟩:=x;exact p.tup.lt
 |dK kvs=>obtain⟨_,_,_,_,o,_,_,e,_⟩:=x;exact aN e
 |dT kvs=>obtain⟨_,_,_,_,o,_,_,e,_⟩:=x;exact aN e
 |set S n=>obtain⟨o,_,_,_,e,_⟩:=x;exact aN e
 |ins C dx fs=>obtain⟨_,_,_,e,_⟩:=x;exact aN e
 |own y=>obtain⟨_,e⟩:=x;exact aN e
 |xd fs=>obtain⟨_,⟨_,_,_,e,_⟩,_⟩:=x;exact aN e
 |rng lo hi=>obtain⟨_,_,_,e⟩:=x;exact aN e
 |frz ob u=>obtain⟨e,_⟩:=x;exact aN e
 |tbl ps=>exact aN (show h.get? a=ZZ _ from x)
 |met f y=>exact aN (show h.get? a=ZZ _ from x)
 |ext φ=>obtain⟨_,⟨_,e⟩,_⟩:=x;exact aN e
theorem ya{α β:Type}{F G:α->β->Prop}:∀{l₁:List α} {l₂:List β},Paired F l₁ l₂->(∀a b,F a b->G a b)->Paired G l₁ l₂
 |_,_,.nil,_=>.nil
 |_,_,.cons r t,f=>.cons (f _ _ r) (ya t f)
theorem xf.stay(x:xf P w H h a o)(k:∀b u,(b=a∨H b=ZZ (.own a))->h.get? b=ZZ u->h'.get? b=ZZ u)
  (ho:∀b,H b=ZZ (.own a)->H' b=ZZ (.own a)) (ht:∀b xs,H b=ZZ (.tup xs)->H' b=ZZ (.tup xs)):xf P w H' h' a o:=by
 induction o with
 |lst xs=>obtain⟨z,its,n,r,e⟩:=x;exact⟨z,its,n,r,k _ _ (.inl rfl) e⟩
 |tup xs=>obtain⟨z,its,r,ob,e,c⟩:=x;exact⟨z,its,r,ob,k _ _ (.inl rfl) e,c⟩
 |dK kvs=>obtain⟨z,y,vs,r,ob,es,ep,e,c⟩:=x;exact⟨z,y,vs,r,ob,es,ep,k _ _ (.inl rfl) e,c⟩
 |dT kvs=>
  obtain⟨z,y,xs,r,ob,es,ep,e,c⟩:=x;exact⟨z,y,xs,ya r λp q z=>⟨z.1,ht _ _ z.2.1,z.2.2⟩,ob,es,ep,k _ _ (.inl rfl) e,c⟩
 |set S n=>obtain⟨ob,es,ep,t,e,c⟩:=x;exact⟨ob,es,ep,t,k _ _ (.inl rfl) e,c⟩
 |ins C dx fs=>
  obtain⟨d,z,ne,e,mA,⟨od,es,ep,e2,c⟩,r⟩:=x;exact⟨ho _ d,z,ne,k _ _ (.inl rfl) e,mA,⟨od,es,ep,k _ _ (.inr d) e2,c⟩,r⟩
 |own y=>obtain⟨ob,e⟩:=x;exact⟨ob,k _ _ (.inl rfl) e⟩
 |xd fs=>obtain⟨mA,⟨od,es,ep,e,c⟩,r⟩:=x;exact⟨mA,⟨od,es,ep,k _ _ (.inl rfl) e,c⟩,r⟩
 |rng lo hi=>obtain⟨t,u,v,e⟩:=x;exact⟨t,u,v,k _ _ (.inl rfl) e⟩
 |frz ob u ih=>obtain⟨e,q⟩:=x;exact⟨k _ _ (.inl rfl) e,ih q⟩
 |tbl ps=>
  have e:h.get? a=ZZ { cls:=.none,data:=.fields ps }:=x;show h'.get? a=ZZ { cls:=.none,data:=.fields ps };exact k a _ (.inl rfl) e
 |met f y=>
  have e:h.get? a=ZZ (qZ (.ref f) (.ref y)):=x;show h'.get? a=ZZ (qZ (.ref f) (.ref y));exact k a _ (.inl rfl) e
 |ext φ=>obtain⟨p,⟨o,e⟩,st⟩:=x;exact⟨st _ _ p λo q=>k _ _ (.inl rfl) q,⟨o,k _ _ (.inl rfl) e⟩,st⟩
def HOk.lt(x:HOk P w H h)(e:H a=ZZ o):a<h.objs.size:=(x a o e).lt
theorem HOk.fresh(x:HOk P w H h)(e:h.objs.size<=a):H a=ZY:=by
 cases q:H a with
 |none=>rfl
 |some u=>exact absurd (bY (x.lt q) e) (lF _)
def HOk.kept(x:HOk P w H h)(k:∀b u,h.get? b=ZZ u->h'.get? b=ZZ u):HOk P w H h':=λa o e=>
 (x a o e).stay (λb u _ q=>k b u q) (λ_ q=>q) λ_ _ q=>q
def HOk.laid(x:HOk P w H h)(k:∀b u,h.get? b=ZZ u->h'.get? b=ZZ u)(hp:h.objs.size<=a)(new:xf P w (upd H a o) h' a o):HOk P w (upd H a o) h':=λb u e=>by
 have hn:=x.fresh hp
 by_cases hb:b=a
 ·subst hb;rw[gk] at e;cases e;exact new
 ·rw[b7 hb] at e;exact(x b u e).stay (λc v _ q=>k c v q) (λc q=>by rw[b7 (jj q hn)];exact q) λc xs q=>by rw[b7 (jj q hn)];exact q
end
def Rd(H:Hp)(a:aQ)(u:HO):Prop:=H a=ZZ u∨∃o,H a=ZZ (.frz o u)
def Rd.ok{P:bT}{w:dB}{H:Hp}{h:eE}{a:aQ}{u:HO}(r:Rd H a u)(x:HOk P w H h):xf P w H h a u:=by
 rcases r with r |⟨o,r⟩
 ·exact x a u r
 ·obtain⟨_,q⟩:=x a _ r;exact q
def Mut:Option HO->Prop
 |some (.lst _)=>True
 |some (.dK _)=>True
 |some (.dT _)=>True
 |some (.set _ _)=>True
 |some (.ins _ _ _)=>True
 |some (.ext _)=>True
 |_=>False
section
variable{P:bT}{w:dB}{H:Hp}{h h':eE}{x e:aQ}{o':HO}
def HOk.write(ok:HOk P w H h)(mu:Mut (H x))(he:e=x∨H e=ZZ (.own x))(k:∀b u,b≠e->h.get? b=ZZ u->h'.get? b=ZZ u)(heo:∃u,h'.get? e=ZZ u)
  (new:xf P w (upd H x o') h' x o'):HOk P w (upd H x o') h':=λb u q=>by
 have nown:∀c y,H c=ZZ (.own y)->c≠x:=λc y r z=>by subst z;rw[r] at mu;exact mu
 have ntup:∀c xs,H c=ZZ (.tup xs)->c≠x:=λc xs r z=>by subst z;rw[r] at mu;exact mu
 by_cases hb:b=x
 ·subst hb;rw[gk] at q;cases q;exact new
 ·rw[b7 hb] at q
  by_cases hbe:b=e
  ·have q':H b=ZZ (.own x):=by
    rcases he with z |z
    ·exact absurd (hbe.trans z) hb
    ·rw[hbe];exact z
   rw[q] at q';cases q';obtain⟨v,hv⟩:=heo;exact⟨v,by rw[hbe];exact hv⟩
  ·refine(ok b u q).stay (λc v hc r=>k c v ?_ r) (λc r=>by rw[b7 (nown c b r)];exact r) λc xs r=>by rw[b7 (ntup c xs r)];exact r
   rcases hc with rfl |hc
   ·exact hbe
   ·rintro rfl
    rcases he with z |z
    ·exact nown c b hc z
    ·rw[hc] at z;cases z;exact hb rfl
end
structure Un (fs ex:List aQ) (H H':Hp) (h h':eE):Prop where
 keep:∀b o,h.get? b=ZZ o->H b=ZY->b∉fs->b∉ex->h'.get? b=ZZ o
 slot:∀b o,h.get? b=ZZ o->H b=ZY->b∈fs->b∉ex->∃sl,h'.get? b=ZZ { o with slots:=sl }
 free:∀b o,h.get? b=ZZ o->H b=ZY->b∉ex->H' b=ZY
 there:∀b o,h.get? b=ZZ o->b∉ex->∃o',h'.get? b=ZZ o'
 tups:∀b xs,H b=ZZ (.tup xs)->H' b=ZZ (.tup xs)
 frzs:∀b o u,H b=ZZ (.frz o u)->H' b=ZZ (.frz o u)
 tbls:∀b ps,H b=ZZ (.tbl ps)->∃more,H' b=ZZ (.tbl (ps++more))
section
variable{fs fs' ex ex':List aQ}{H H1 H2:Hp}{h h1 h2 h':eE}{a x e:aQ}{o:HO}
def Un.any(u:Un fs ex H H1 h h1){b:aQ}{ob:Obj}(q:h.get? b=ZZ ob)(n:H b=ZY)(hx:b∉ex):∃sl,h1.get? b=ZZ { ob with slots:=sl }:=by
 by_cases hb:b∈fs
 ·exact u.slot b ob q n hb hx
 ·exact⟨ob.slots,u.keep b ob q n hb hx⟩
def Un.kept(k:∀b u,h.get? b=ZZ u->h'.get? b=ZZ u):Un fs ex H H h h' :=
 ⟨λb ob q _ _ _=>k b ob q,λb ob q _ _ _=>⟨ob.slots,k b ob q⟩,λ_ _ _ n _=>n,λb ob q _=>⟨ob,k b ob q⟩,λ_ _ q=>q,λ_ _ _ q=>q,λ_ ps q=>⟨#[],by rw[q];simp⟩⟩
def Un.refl:Un fs ex H H h h:=Un.kept λ_ _ q=>q
def Un.laid(k:∀b u,h.get? b=ZZ u->h'.get? b=ZZ u)(hp:h.objs.size<=a)(hn:H a=ZY):Un fs ex H (upd H a o) h h' where
 keep:=λb u q _ _ _=>k b u q
 slot:=λb u q _ _ _=>⟨u.slots,k b u q⟩
 free:=λb u q n _=>by rw[b7 (bI (bY (aN q) hp))];exact n
 there:=λb u q _=>⟨u,k b u q⟩
 tups:=λb xs q=>by rw[b7 (jj q hn)];exact q
 frzs:=λb u xs q=>by rw[b7 (jj q hn)];exact q
 tbls:=λb ps q=>⟨#[],by rw[b7 (jj q hn),q];simp⟩
def Un.write(mu:Mut (H x))(he:e=x∨H e=ZZ (.own x))(k:∀b u,b≠e->h.get? b=ZZ u->h'.get? b=ZZ u)(heo:∃u,h'.get? e=ZZ u):Un fs ex H (upd H x o) h h':=by
 have hx:∀b,H b=ZY->b≠x:=λb n z=>by subst z;rw[n] at mu;exact mu
 have hb:∀b,H b=ZY->b≠e:=λb n z=>by
  subst z;rcases he with r |r
  ·exact hx b n r
  ·rw[n] at r;cases r
 have hm:∀b u,H b=ZZ u->¬Mut (ZZ u)->b≠x:=λb u q nm z=>by subst z;rw[q] at mu;exact nm mu
 refine⟨λb u q n _ _=>k b u (hb b n) q,λb u q n _ _=>⟨u.slots,k b u (hb b n) q⟩,λb u q n _=>by rw[b7 (hx b n)];exact n,λb u q _=>?_,
  λb xs q=>by rw[b7 (hm b _ q λz=>z)];exact q,λb u xs q=>by rw[b7 (hm b _ q λz=>z)];exact q,λb ps q=>⟨#[],by rw[b7 (hm b _ q λz=>z),q];simp⟩⟩
 by_cases hbe:b=e
 ·subst hbe;exact heo
 ·exact⟨u,k b u hbe q⟩
end
noncomputable def trk(h:eE)(H:Hp):List aQ:=(bW h.objs.size).filter λa=>(H a).isSome
def hidT(h:eE)(H:Hp):eE:=PySem.W.hideAll h (trk h H)
def ate(h:eE)(H:Hp):(hidT h H).objs.size=h.objs.size:=PySem.W.hideAll_size _ _
def awo{h:eE}{H:Hp}{b:aQ}{o:Obj}(e:h.get? b=ZZ o)(n:H b=ZY):(hidT h H).get? b=ZZ o :=
 PySem.W.hideAll_get _ e λhm=>by
  have q:(H b).isSome=ZX:=(eV.mp hm).2;rw[n] at q;simp at q
theorem azu{h:eE}{H:Hp}{b:aQ}{o:Obj}(e:(hidT h H).get? b=ZZ o):h.get? b=ZZ o/\H b=ZY:=by
 have e':h.get? b=ZZ o:=PySem.W.of_hideAll (trk h H) e;refine⟨e',?_⟩;cases q:H b with
 |none=>rfl
 |some x=>
  have hm:b∈trk h H:=eV.mpr ⟨List.mem_range.mpr (aN e'),by simp[q]⟩
  have z:(hidT h H).get? b=ZY:=PySem.W.hideAll_none (trk h H) hm;rw[z] at e;cases e
def a04(g h:eE)(L:aQ):List (aQ×Obj):=(bW h.objs.size).filterMap λa=>if a=L∨(g.get? a).isSome=ZX then ZY else (h.get? a).map λo=>(a,o)
def rest(g h:eE)(L d:aQ):List (aQ×Obj):=(a04 g h L).filter λp=>decide (p.1≠d)
structure Mod (K:Fg9) (mg:Str->Option aG) (base:eE):Prop where
 kin:K.In base
 glob:base.Ns aV mg
 blt:∃mb,base.Ns builtinsNs mb/\∀x:Str,x ≠ "__name__" -> mb x=bR x
 nolimit:base.NoLimit
structure Cx where
 prog:bT
 w:dB
 K:Fg9
 mg:Str->Option aG
 base:eE
 A:cQ
 N:List Str
 s₀:aJ
 H₀:Hp
 env:Env
 outer:List Env
 stack:List Env
 ex:List aQ
 fn:Str->Bool
 calm:Bool
 pn:List (aQ×Obj)
 xe:aG->aJ->Prop
noncomputable def frs(l:List Env):List aQ:=l.filterMap (·.frame)
abbrev Cx.fs(X:Cx):List aQ:=frs X.outer
def Vis(sc:nJ)(x:Str):Prop:=sc.names.lookup x=ZZ .local∨sc.names.lookup x=ZZ .cell∨sc.names.lookup x=ZZ .free
def Loc(sc:nJ)(x:Str):Prop:=sc.names.lookup x=ZZ .local∨sc.names.lookup x=ZZ .cell
def Look(env:Env)(h:eE)(m:Str->Option aG)(x:Str)(u:aG):Prop :=
 (env.kindOf x=ZZ .local/\m x=ZZ u)∨((env.kindOf x=ZZ .cell∨env.kindOf x=ZZ .free)/\∃c,env.cells.lookup x=ZZ c/\h.IsCell c (ZZ u))
structure Cx.Ok (X:Cx):Prop where
 mod:Mod X.K X.mg X.base
 kind:X.env.scope.kind=.function
 glob:X.env.globals=aV
 blt:X.env.builtins=builtinsNs
 above:X.s₀.heap.objs.size<=X.env.locals
 inj:∀x y c,X.env.cells.lookup x=ZZ c->X.env.cells.lookup y=ZZ c->x=y
 has:∀x,(X.env.kindOf x=ZZ .cell∨X.env.kindOf x=ZZ .free)->∃c,X.env.cells.lookup x=ZZ c
 cab:∀x c,X.fn x=ZX->X.env.cells.lookup x=ZZ c->X.s₀.heap.objs.size<=c
 hd:X.calm=ZX->X.A.handled=ZY
 frames:X.A.frames=ZZ X.stack
 stk:X.stack=X.outer∨(X.stack=X.env::X.outer/\X.env.frame=ZZ X.env.locals)
 exf:∀b∈X.ex,b≠X.env.locals/\∀x c,X.env.cells.lookup x=ZZ c->c≠b
 bs:∀b o,X.base.get? b=ZZ o->X.s₀.heap.get? b=ZZ o/\X.H₀ b=ZY
 bsz:X.base.objs.size<=X.s₀.heap.objs.size
 noex:∀b o,X.base.get? b=ZZ o->b∉X.ex
 exfs:∀b∈X.ex,b∉X.fs
 funs:X.s₀.heap.FunFrames X.base X.outer
 frf:∀b∈X.fs,X.H₀ b=ZY
structure Inv (X:Cx) (zv:List (aQ×Obj)) (σ:List (Option V)) (H:Hp) (s:aJ):Prop where
 ok:X.Ok
 os:s.os=X.s₀.os
 bare:pQ s.gens
 base:Un X.fs X.ex X.H₀ H X.s₀.heap s.heap
 loc:∃m,s.heap.Ns X.env.locals m/\∀(i:Nat) (x:Str) (v:V),X.N[i]? = ZZ x->σ[i]? = ZZ (ZZ v)->Vis X.env.scope x->∃u,RelV v u/\Look X.env s.heap m x u
 cell:∀x c,X.env.cells.lookup x=ZZ c->∃v,s.heap.IsCell c v
 free:H X.env.locals=ZY
 freeC:∀x c,X.env.cells.lookup x=ZZ c->H c=ZY
 pin:∀p∈X.pn++zv,s.heap.get? p.1=ZZ p.2/\H p.1=ZY/\p.1≠X.env.locals/\p.1∉X.fs/\∀v,p.2.data≠.cell v
 hok:HOk X.prog X.w H s.heap
 len:σ.length=X.N.length
section
variable{X:Cx}{zv:List (aQ×Obj)}{σ:List (Option V)}{H H':Hp}{s:aJ}{h':eE}
def Cx.Ok.nofr(ok:X.Ok){b:aQ}{o:Obj}(e:X.base.get? b=ZZ o):b∉X.fs:=λhb=>by
 have:=(ok.funs.mem hb).1;rw[e] at this;cases this
def Inv.bs(I:Inv X zv σ H s):∀b o,X.base.get? b=ZZ o->s.heap.get? b=ZZ o/\H b=ZY:=λb o e=>
 ⟨I.base.keep b o (I.ok.bs b o e).1 (I.ok.bs b o e).2 (I.ok.nofr e) (I.ok.noex b o e),I.base.free b o (I.ok.bs b o e).1 (I.ok.bs b o e).2 (I.ok.noex b o e)⟩
def Inv.bk(I:Inv X zv σ H s):∀b o,X.base.get? b=ZZ o->s.heap.get? b=ZZ o:=λb o e=>(I.bs b o e).1
def Inv.mod(I:Inv X zv σ H s):Mod X.K X.mg X.base:=I.ok.mod
def Inv.kIn(I:Inv X zv σ H s):X.K.In s.heap:=I.ok.mod.kin.keeps I.bk
def Inv.lt(I:Inv X zv σ H s):X.env.locals<s.heap.objs.size:=let ⟨_,hn,_⟩:=I.loc;hn.lt
def Inv.sz(I:Inv X zv σ H s):X.s₀.heap.objs.size<=s.heap.objs.size:=cW I.ok.above (nA I.lt)
def Inv.nofs(I:Inv X zv σ H s){a:aQ}(h:s.heap.objs.size<=a):a∉X.fs:=λhb=>by
 obtain⟨_,o,ho,_⟩:=I.ok.funs.mem hb;exact absurd (bY (aN ho) (cW I.sz h)) (lF _)
def Inv.cne(I:Inv X zv σ H s):∀x c,X.env.cells.lookup x=ZZ c->c≠X.env.locals:=λx c e z=>by
 obtain⟨v,o,ho,hd⟩:=I.cell x c e;obtain⟨m,⟨o',es,ep,ho',hd',_⟩,_⟩:=I.loc;rw[z,ho'] at ho;cases ho;rw[hd'] at hd;cases hd
def Inv.funs(I:Inv X zv σ H s):s.heap.FunFrames X.base X.outer:=by
 have all:∀(l:List Env),(∀b∈frs l,b∈X.fs)->X.s₀.heap.FunFrames X.base l->s.heap.FunFrames X.base l:=by
  intro l
  induction l with
  |nil=>intro _ _;trivial
  |cons env r ih=>
   intro hs hl;obtain⟨hk,⟨L,o,hf,hn,ho,hd⟩,hr⟩:=hl;have hL:L∈X.fs:=hs L (by unfold frs;rw[iD,hf];exact aZ)
   obtain⟨sl,e⟩:=I.base.slot L o ho (I.ok.frf L hL) hL λz=>I.ok.exfs L z hL
   exact⟨hk,⟨L,_,hf,hn,e,hd⟩,ih (λb hb=>hs b (by unfold frs;rw[iD,hf];exact aR _ hb)) hr⟩
 exact all X.outer (λ_ hb=>hb) I.ok.funs
def Inv.stack(I:Inv X zv σ H s):s.heap.FunFrames X.base X.stack:=by
 rcases I.ok.stk with e |⟨e,hf⟩
 ·rw[e];exact I.funs
 ·rw[e];obtain⟨m,hn,_⟩:=I.loc;refine .cons (by rw[I.ok.kind];decide) hf hn ?_ I.funs
  exact iQ (cW I.ok.bsz I.ok.above)
def Inv.stkSub(I:Inv X zv σ H s):∀b∈frs X.stack,b∈X.env.locals::X.fs:=λb hb=>by
 rcases I.ok.stk with e |⟨e,hf⟩
 ·rw[e] at hb;exact aR _ hb
 ·rw[e] at hb;unfold frs at hb;rw[iD,hf] at hb;exact hb
def Inv.stkFree(I:Inv X zv σ H s):∀b∈frs X.stack,H b=ZY:=λb hb=>by
 rcases bA.mp (I.stkSub b hb) with e |hb
 ·rw[e];exact I.free
 ·obtain⟨_,o,ho,_⟩:=I.ok.funs.mem hb;exact I.base.free b o ho (I.ok.frf b hb) λz=>I.ok.exfs b z hb
def Inv.step{g':Array GenState}{t':Nat}{d':Drawn}{ch:List aQ}(I:Inv X zv σ H s)
  (hch:∀b∈ch,(b∈X.ex∨X.s₀.heap.objs.size<=b)/\b≠X.env.locals/\(∀x c,X.env.cells.lookup x=ZZ c->c≠b)/\∀p∈X.pn++zv,p.1≠b)
  (keep:∀b o,b≠X.env.locals->b∉X.fs->b∉ch->s.heap.get? b=ZZ o->H b=ZY->h'.get? b=ZZ o)
  (slot:∀b o,b≠X.env.locals->b∈X.fs->b∉ch->s.heap.get? b=ZZ o->H b=ZY->∃sl,h'.get? b=ZZ { o with slots:=sl }) (free:∀b o,b∉ch->s.heap.get? b=ZZ o->H b=ZY->H' b=ZY)
  (there:∀b o,b∉ch->s.heap.get? b=ZZ o->∃o',h'.get? b=ZZ o')
  (tups:∀b xs,H b=ZZ (.tup xs)->H' b=ZZ (.tup xs)) (frzs:∀b o u,H b=ZZ (.frz o u)->H' b=ZZ (.frz o u)) (tbls:∀b ps,H b=ZZ (.tbl ps)->∃more,H' b=ZZ (.tbl (ps++more)))
  (ns:∀m,s.heap.Ns X.env.locals m->h'.Ns X.env.locals m) (hok:HOk X.prog X.w H' h') (hg:pQ g') :
  Inv X zv σ H' { s with heap:=h',gens:=g',drawn:=d',toks:=t' }:=by
 have neL:∀b o,X.s₀.heap.get? b=ZZ o->b≠X.env.locals:=λb o e=>bI (bY (aN e) I.ok.above)
 have neC:∀b o,X.s₀.heap.get? b=ZZ o->b∉X.ex->b∉ch:=λb o e hx hb=>by
  rcases(hch b hb).1 with z |z
  ·exact hx z
  ·exact absurd (bY (aN e) z) (lF _)
 have cellK:∀x c,X.env.cells.lookup x=ZZ c->∀v,s.heap.IsCell c v->h'.IsCell c v:=λx c e v hq0=>by
  obtain⟨o,ho,hd⟩:=hq0;have nch:c∉ch:=λz=>(hch c z).2.2.1 x c e rfl
  by_cases hc:c∈X.fs
  ·obtain⟨sl,q⟩:=slot c o (I.cne x c e) hc nch ho (I.freeC x c e);exact⟨_,q,hd⟩
  ·exact⟨o,keep c o (I.cne x c e) hc nch ho (I.freeC x c e),hd⟩
 refine⟨I.ok,I.os,hg,⟨λb o e n hb hx=>?_,λb o e n hb hx=>?_,λb o e n hx=>?_,λb o e hx=>?_,λb xs e=>tups b xs (I.base.tups b xs e),λb o xs e=>frzs b o xs (I.base.frzs b o xs e),λb ps e=>?_⟩,?_,λx c e=>?_,?_,λx c e=>?_,λp hp=>?_,hok,I.len⟩
 ·exact keep b o (neL b o e) hb (neC b o e hx) (I.base.keep b o e n hb hx) (I.base.free b o e n hx)
 ·obtain⟨sl,e1⟩:=I.base.slot b o e n hb hx;obtain⟨sl',e2⟩:=slot b _ (neL b o e) hb (neC b o e hx) e1 (I.base.free b o e n hx);exact⟨sl',e2⟩
 ·obtain⟨o',e1⟩:=I.base.there b o e hx;exact free b o' (neC b o e hx) e1 (I.base.free b o e n hx)
 ·obtain⟨o',e1⟩:=I.base.there b o e hx;exact there b o' (neC b o e hx) e1
 ·obtain⟨m1,e1⟩:=I.base.tbls b ps e;obtain⟨m2,e2⟩:=tbls b _ e1;exact⟨m1++m2,by rw[e2,Array.append_assoc]⟩
 ·obtain⟨m,hn,hl⟩:=I.loc;refine⟨m,ns m hn,λi x v e1 e2 e3=>?_⟩
  obtain⟨u,r,l⟩:=hl i x v e1 e2 e3;refine⟨u,r,?_⟩;rcases l with l |⟨k,c,e,z⟩
  ·exact .inl l
  ·exact .inr ⟨k,c,e,cellK x c e _ z⟩
 ·obtain⟨v,z⟩:=I.cell x c e;exact⟨v,cellK x c e v z⟩
 ·obtain⟨m,⟨o,_,_,ho,_⟩,_⟩:=I.loc;exact free _ o (λz=>(hch _ z).2.1 rfl) ho I.free
 ·obtain⟨v,o,ho,hd⟩:=I.cell x c e;exact free c o (λz=>(hch c z).2.2.1 x c e rfl) ho (I.freeC x c e)
 ·obtain⟨e,n,ne,nf,d⟩:=I.pin p hp;have nch:p.1∉ch:=λz=>(hch p.1 z).2.2.2 p hp rfl
  exact⟨keep p.1 p.2 ne nf nch e n,free p.1 p.2 nch e n,ne,nf,d⟩
def Inv.un{t':Nat}(I:Inv X zv σ H s)(u:Un X.fs [] H H' s.heap h')(hok:HOk X.prog X.w H' h'):Inv X zv σ H' { s with heap:=h',toks:=t' }:=by
 obtain⟨m,⟨o,es,ep,ho,r⟩,_⟩:=id I.loc;obtain⟨sl,hL⟩:=u.any ho I.free (by simp)
 exact I.step (g':=s.gens) (d':=s.drawn) (ch:=[]) (λ_ z=>nomatch z) (λb o _ hb _ e n=>u.keep b o e n hb (by simp)) (λb o _ hb _ e n=>u.slot b o e n hb (by simp)) (λb o _ e n=>u.free b o e n (by simp)) (λb o _ e=>u.there b o e (by simp)) u.tups u.frzs u.tbls (λm' hm=>by
  obtain⟨o',es',ep',ho',r'⟩:=hm;rw[ho] at ho';cases ho';exact⟨_,es',ep',hL,r'⟩) hok I.bare
def Inv.call{g':Array GenState}{t':Nat}{d':Drawn}{ch:List aQ}(I:Inv X zv σ H s)(u:Un (frs X.stack) ch H H' s.heap h')(hok:HOk X.prog X.w H' h')(hg:pQ g')
  (hch:∀b∈ch,(b∈X.ex∨X.s₀.heap.objs.size<=b)/\b≠X.env.locals/\(∀x c,X.env.cells.lookup x=ZZ c->c≠b)/\∀p∈X.pn++zv,p.1≠b) :
  Inv X zv σ H' { s with heap:=h',gens:=g',drawn:=d',toks:=t' }:=by
 obtain⟨m,⟨o,es,ep,ho,r⟩,_⟩:=id I.loc;obtain⟨sl,hL⟩:=u.any ho I.free λz=>(hch _ z).2.1 rfl
 exact I.step (ch:=ch) hch (λb o hL hb hc e n=>u.keep b o e n (λz=>(bA.mp (I.stkSub b z)).elim hL hb) hc) (λb o _ _ hc e n=>u.any e n hc) (λb o hc e n=>u.free b o e n hc) (λb o hc e=>u.there b o e hc) u.tups u.frzs u.tbls (λm' hm=>by
  obtain⟨o',es',ep',ho',r'⟩:=hm;rw[ho] at ho';cases ho';exact⟨_,es',ep',hL,r'⟩) hok hg
def Inv.turned{t':Nat}{it:aQ}(I:Inv X zv σ H s)(k:∀b o,b≠it->s.heap.get? b=ZZ o->h'.get? b=ZZ o)(hn:H it=ZY)(hL:it≠X.env.locals)
  (h1:it∈X.ex∨X.s₀.heap.objs.size<=it) (h2:∀x c,X.env.cells.lookup x=ZZ c->c≠it) (h3:∀p∈X.pn++zv,p.1≠it):Inv X zv σ H { s with heap:=h',toks:=t' }:=by
 have nit:∀b u,H b=ZZ u->b≠it:=λb u e z=>by rw[z,hn] at e;cases e
 refine I.step (g':=s.gens) (d':=s.drawn) (ch:=[it]) (λb hb=>?_) (λb o _ _ hc e _=>k b o (λz=>hc (by simp[z])) e) (λb o _ _ hc e _=>⟨o.slots,k b o (λz=>hc (by simp[z])) e⟩) (λ_ _ _ _ n=>n)
  (λb o hc e=>⟨o,k b o (λz=>hc (by simp[z])) e⟩) (λ_ _ e=>e) (λ_ _ _ e=>e) (λb ps e=>⟨#[],by rw[e];simp⟩) (λm hm=>?_) (λb u e=>?_) I.bare
 ·have e:b=it:=by simpa using hb
  subst e;exact⟨h1,hL,h2,h3⟩
 ·obtain⟨o,es,ep,ho,r⟩:=hm;exact⟨o,es,ep,k _ o (gG hL) ho,r⟩
 ·refine(I.hok b u e).stay (λc v hc q=>k c v ?_ q) (λ_ q=>q) λ_ _ q=>q
  rcases hc with z |z
  ·rw[z];exact nit b u e
  ·exact nit c _ z
def Inv.tok(I:Inv X zv σ H s)(t:Nat):Inv X zv σ H { s with toks:=t }:=I.un (h':=s.heap) (t':=t) Un.refl I.hok
def Inv.kept{t':Nat}(I:Inv X zv σ H s)(k:∀b u,s.heap.get? b=ZZ u->h'.get? b=ZZ u):Inv X zv σ H { s with heap:=h',toks:=t' }:=I.un (Un.kept k) (I.hok.kept k)
def Inv.laid{a:aQ}{o:HO}{t':Nat}(I:Inv X zv σ H s)(k:∀b u,s.heap.get? b=ZZ u->h'.get? b=ZZ u)(hp:s.heap.objs.size<=a)(new:xf X.prog X.w (upd H a o) h' a o) :
  Inv X zv σ (upd H a o) { s with heap:=h',toks:=t' }:=I.un (Un.laid k hp (I.hok.fresh hp)) (I.hok.laid k hp new)
def Inv.write{x e:aQ}{o:HO}{t':Nat}(I:Inv X zv σ H s)(mu:Mut (H x))(he:e=x∨H e=ZZ (.own x))(k:∀b u,b≠e->s.heap.get? b=ZZ u->h'.get? b=ZZ u)(heo:∃u,h'.get? e=ZZ u)
  (new:xf X.prog X.w (upd H x o) h' x o):Inv X zv σ (upd H x o) { s with heap:=h',toks:=t' }:=I.un (Un.write mu he k heo) (I.hok.write mu he k heo new)
def Inv.pins_of{pins':List (aQ×Obj)}(I:Inv X zv σ H s)(h:∀p∈pins',s.heap.get? p.1=ZZ p.2/\H p.1=ZY/\p.1≠X.env.locals/\p.1∉X.fs/\∀v,p.2.data≠.cell v):Inv X pins' σ H s :=
 ⟨I.ok,I.os,I.bare,I.base,I.loc,I.cell,I.free,I.freeC,λp hp=>(cU.mp hp).elim (λz=>I.pin p (gJ _ z)) (h p),I.hok,I.len⟩
def ajs{N:List Str}(hN:N.Nodup){i j:Nat}{x:Str}(a:N[i]? = ZZ x)(b:N[j]? = ZZ x):i=j:=by
 obtain⟨h1,e1⟩:=aK.mp a;obtain⟨h2,e2⟩:=aK.mp b;exact(List.getElem_inj hN).mp (e1.trans e2.symm)
def akq{M:vL}{A:cQ}{E:aG->aJ->Prop}{i:Nat}{x:Str}{v:V}{u:aG}{Q:Unit->aJ->Prop}(I:Inv X zv σ H s)(hN:X.N.Nodup)(hi:X.N[i]? = ZZ x)(hx:Loc X.env.scope x)(r:RelV v u)
  (h:∀s',Inv X zv (σ.set i (ZZ v)) H s'->(∃a,cP a s.heap s'.heap/\(a=X.env.locals∨X.env.cells.lookup x=ZZ a))->Q () s') (hf:X.fn x=ZX∨X.env.scope.names.lookup x=ZZ .local:=by first |exact .inl rfl |exact .inr rfl |assumption):bG M A (storeName X.env x u) Q E s:=by
 obtain⟨m,hn,hl⟩:=id I.loc;have hcls:(X.env.scope.kind==.class||(X.env.scope.kind==.module&&X.env.locals != X.env.globals))=ZW:=by rw[I.ok.kind];rfl
 have hiσ:i < σ.length:=by rw[I.len];exact(aK.mp hi).1
 have cne:=I.cne;have tracked:∀{a:aQ} {h':eE},(∃o,s.heap.get? a=ZZ o/\H a=ZY)->cP a s.heap h'->HOk X.prog X.w H h':=λ{a h'} ha hs b ob e=>by
  obtain⟨_,_,hfree⟩:=ha;refine(I.hok b ob e).stay (λc w' hc q=>(hs.2 c ?_).trans q) (λ_ q=>q) λ_ _ q=>q
  rintro rfl
  rcases hc with rfl |hc
  ·rw[hfree] at e;cases e
  ·rw[hfree] at hc;cases hc
 rcases hx with hk |hk
 ·refine wpAny_storeName_local hk hn (λh' hn' hs=>?_) hcls
  obtain⟨oL,_,_,hoL,_⟩:=id hn;refine h _ ⟨I.ok,I.os,I.bare,⟨λb o e n hb hx=>?_,λb o e n hb hx=>?_,I.base.free,λb o e hx=>?_,I.base.tups,I.base.frzs,I.base.tbls⟩,⟨_,hn',λj y v' e1 e2 e3=>?_⟩,λy c e=>?_,I.free,I.freeC,λp hp=>?_,tracked ⟨oL,hoL,I.free⟩ hs,by simpa using I.len⟩ ⟨_,hs,.inl rfl⟩
  ·exact(hs.2 b (bI (bY (aN e) I.ok.above))).trans (I.base.keep b o e n hb hx)
  ·obtain⟨sl,e1⟩:=I.base.slot b o e n hb hx;exact⟨sl,(hs.2 b (bI (bY (aN e) I.ok.above))).trans e1⟩
  ·obtain⟨o',e1⟩:=I.base.there b o e hx;exact⟨o',(hs.2 b (bI (bY (aN e) I.ok.above))).trans e1⟩
  ·by_cases hj:j=i
   ·subst hj;rw[hi] at e1;cases e1;rw[lN hiσ] at e2;cases e2;exact⟨u,r,.inl ⟨hk,by simp⟩⟩
   ·rw[mD (gG hj)] at e2;obtain⟨u',r',q⟩:=hl j y v' e1 e2 e3;refine⟨u',r',?_⟩;rcases q with⟨k,e⟩ |⟨k,c,e,z⟩
    ·refine .inl ⟨k,?_⟩;have:y≠x:=λe=>hj (ajs hN e1 (e▸hi))
     simp[this,e]
    ·exact .inr ⟨k,c,e,z.sameBut hs (cne y c e)⟩
  ·obtain⟨w',z⟩:=I.cell y c e;exact⟨w',z.sameBut hs (cne y c e)⟩
  ·obtain⟨e,n,ne,nf,d⟩:=I.pin p hp;exact⟨(hs.2 p.1 ne).trans e,n,ne,nf,d⟩
 ·have hfn:X.fn x=ZX:=by
   rcases hf with z |z
   ·exact z
   ·rw[z] at hk;cases hk
  obtain⟨c,hc⟩:=I.ok.has x (.inl hk);obtain⟨w',z⟩:=I.cell x c hc;refine wpAny_storeName_cell I.ok.kind hk hc z (λh' hc' hs=>?_)
  obtain⟨oc,hoc,hocd⟩:=id z;refine h { s with heap:=h' } ⟨I.ok,I.os,I.bare,⟨λb o e n hb hx=>?_,λb o e n hb hx=>?_,I.base.free,λb o e hx=>?_,I.base.tups,I.base.frzs,I.base.tbls⟩,⟨m,hn.sameBut hs (gG (cne x c hc)),λj y v' e1 e2 e3=>?_⟩,λy c' e=>?_,I.free,I.freeC,λp hp=>?_,tracked ⟨oc,hoc,I.freeC x c hc⟩ hs,by simpa using I.len⟩ ⟨c,hs,.inr hc⟩
  ·exact(hs.2 b (bI (bY (aN e) (I.ok.cab x c hfn hc)))).trans (I.base.keep b o e n hb hx)
  ·obtain⟨sl,e1⟩:=I.base.slot b o e n hb hx;exact⟨sl,(hs.2 b (bI (bY (aN e) (I.ok.cab x c hfn hc)))).trans e1⟩
  ·obtain⟨o',e1⟩:=I.base.there b o e hx;exact⟨o',(hs.2 b (bI (bY (aN e) (I.ok.cab x c hfn hc)))).trans e1⟩
  ·by_cases hj:j=i
   ·subst hj;rw[hi] at e1;cases e1;rw[lN hiσ] at e2;cases e2;exact⟨u,r,.inr ⟨.inl hk,c,hc,hc'⟩⟩
   ·rw[mD (gG hj)] at e2;obtain⟨u',r',q⟩:=hl j y v' e1 e2 e3;refine⟨u',r',?_⟩;rcases q with q |⟨k,c',e,z'⟩
    ·exact .inl q
    ·refine .inr ⟨k,c',e,z'.sameBut hs ?_⟩
     rintro rfl
     exact hj (ajs hN e1 (I.ok.inj _ _ _ e hc▸hi))
  ·by_cases hcc:c'=c
   ·subst hcc;exact⟨_,hc'⟩
   ·obtain⟨w2,z2⟩:=I.cell y c' e;exact⟨w2,z2.sameBut hs hcc⟩
  ·obtain⟨e,n,ne,nf,d⟩:=I.pin p hp;refine⟨(hs.2 p.1 ?_).trans e,n,ne,nf,d⟩;intro q;rw[q,hoc] at e;have q':oc=p.2:=cN e;exact d w' (by rw[<-q'];exact hocd)
def ace{M:vL}{A:cQ}{E:aG->aJ->Prop}{i:Nat}{x:Str}{v:V}{u:aG}{Q:Unit->aJ->Prop}(I:Inv X zv σ H s)(hN:X.N.Nodup)(hi:X.N[i]? = ZZ x)(hx:Loc X.env.scope x)(r:RelV v u)
  (h:∀s',Inv X zv (σ.set i (ZZ v)) H s'->Q () s') (hf:X.fn x=ZX∨X.env.scope.names.lookup x=ZZ .local:=by first |exact .inl rfl |exact .inr rfl |assumption):bG M A (storeName X.env x u) Q E s :=
 akq I hN hi hx r (λs' I' _=>h s' I') hf
def Inv.call'{s':aJ}{ch:List aQ}(I:Inv X zv σ H s)(ho:s'.os=s.os)(u:Un (frs X.stack) ch H H' s.heap s'.heap)(hok:HOk X.prog X.w H' s'.heap)(hg:pQ s'.gens)
  (hch:∀b∈ch,(b∈X.ex∨X.s₀.heap.objs.size<=b)/\b≠X.env.locals/\(∀x c,X.env.cells.lookup x=ZZ c->c≠b)/\∀p∈X.pn++zv,p.1≠b):Inv X zv σ H' s':=by
 obtain⟨h',g',d',t',o'⟩:=s';have e:o'=s.os:=ho;subst e;exact I.call (g':=g') (t':=t') (d':=d') u hok hg hch
end
abbrev XK:=aG->Option aQ->Hp->Prop
abbrev St:=List (Option V)
abbrev VK:=V->Hp->Prop
abbrev TE:=St->Hp->VK->Prop
abbrev TT:=St->Hp->(Bool->Hp->Prop)->Prop
abbrev TA:=St->Hp->(List V->Hp->Prop)->Prop
structure Ends where
 nx:St->Hp->Prop
 rt:VK
 bk:St->Hp->Prop:=λ_ _=>False
 ct:St->Hp->Prop:=λ_ _=>False
abbrev TS:=Ends->St->Hp->Prop
def EP(X:Cx)(zv:List (aQ×Obj))(σ:St)(Q:VK)(u:aG)(s':aJ):Prop:=∃v H',Inv X zv σ H' s'/\RelV v u/\Q v H'
def TP(X:Cx)(zv:List (aQ×Obj))(σ:St)(Q:Bool->Hp->Prop)(b:Bool)(s':aJ):Prop:=∃H',Inv X zv σ H' s'/\Q b H'
def AP(X:Cx)(zv:List (aQ×Obj))(σ:St)(Q:List V->Hp->Prop)(us:List aG)(s':aJ):Prop:=∃vs H',Inv X zv σ H' s'/\Vals vs us/\Q vs H'
def SP(X:Cx)(zv:List (aQ×Obj))(D:Ends)(f:Flow)(s':aJ):Prop :=
 match f with
 |.next=>∃σ' H',Inv X zv σ' H' s'/\D.nx σ' H'
 |.brk=>∃σ' H',Inv X zv σ' H' s'/\D.bk σ' H'
 |.cont=>∃σ' H',Inv X zv σ' H' s'/\D.ct σ' H'
 |.ret u=>∃v σ' H',Inv X zv σ' H' s'/\RelV v u/\D.rt v H'
def PE(X:Cx)(e:dI)(t:TE):Prop :=
 ∀(zv:List (aQ×Obj)) (s:aJ) (σ:St) (H:Hp) (Q:VK),Inv X zv σ H s->t σ H Q->bG (bL X.prog X.w) X.A (eval e X.env) (EP X zv σ Q) X.xe s
def PT(X:Cx)(e:dI)(t:TT):Prop :=
 ∀(zv:List (aQ×Obj)) (s:aJ) (σ:St) (H:Hp) (Q:Bool->Hp->Prop),Inv X zv σ H s->t σ H Q->bG (bL X.prog X.w) X.A (isTrue e X.env (eval e X.env)) (TP X zv σ Q) X.xe s
def PW(X:Cx)(e:dI)(t:TT):Prop :=
 ∀(whole:Sem aG) (zv:List (aQ×Obj)) (s:aJ) (σ:St) (H:Hp) (Q:Bool->Hp->Prop),Inv X zv σ H s->t σ H Q->bG (bL X.prog X.w) X.A (isTrue e X.env whole) (TP X zv σ Q) X.xe s
def PW.pt{X:Cx}{e:dI}{t:TT}(h:PW X e t):PT X e t:=h _
def PA(X:Cx)(es:List dI)(t:TA):Prop :=
 ∀(pos:Pos) (zv:List (aQ×Obj)) (s:aJ) (σ:St) (H:Hp) (Q:List V->Hp->Prop),Inv X zv σ H s->t σ H Q->bG (bL X.prog X.w) X.A (spliced (gC pos (aO es X.env))) (AP X zv σ Q) X.xe s
def PS(X:Cx)(st:gK)(t:TS):Prop :=
 ∀(zv:List (aQ×Obj)) (s:aJ) (σ:St) (H:Hp) (D:Ends),Inv X zv σ H s->t D σ H->bG (bL X.prog X.w) X.A (exec st X.env) (SP X zv D) X.xe s
def PSs(X:Cx)(st:List gK)(t:TS):Prop :=
 ∀(zv:List (aQ×Obj)) (s:aJ) (σ:St) (H:Hp) (D:Ends),Inv X zv σ H s->t D σ H->bG (bL X.prog X.w) X.A (execs st X.env) (SP X zv D) X.xe s
def thn{α:Type}{t:Sem α}{Q Q':α->aJ->Prop}{M:vL}{A:cQ}{E:aG->aJ->Prop}{s:aJ}(h:bG M A t Q E s)(hQ:∀a s,Q a s->Q' a s):bG M A t Q' E s:=bD h hQ λ_ _ x=>x
section
variable{X:Cx}
def tVar(i:Nat):TE:=λσ H Q=>∃v,σ[i]? = ZZ (ZZ v)/\Q v H
def tC(v:V):TE:=λ_ H Q=>Q v H
def a2k{i:Nat}{x:Str}{pos:Pos}(hN:X.N[i]? = ZZ x)(hv:Vis X.env.scope x)(hd:(x==("__debug__" : Str))=ZW:=by decide)(hcd:(x==("__classdict__" : Str))=ZW:=by decide):PE X (.Name x pos) (tVar i):=by
 intro zv s σ H Q I h;obtain⟨v,e,h⟩:=h;obtain⟨m,hn,hl⟩:=I.loc;obtain⟨u,r,l⟩:=hl i x v hN e hv;have fin:EP X zv σ Q u s:=⟨v,H,I,r,h⟩;rcases l with⟨hk,hm⟩ |⟨hk,c,hc,hcell⟩
 ·exact wpAny_Name (wpAny_loadName_local I.ok.kind hk hn hm fin) hd
 ·rcases hk with hk |hk
  ·exact wpAny_Name (wpAny_loadName_cell I.ok.kind hk hc hcell fin) hd
  ·exact wpAny_Name (wpAny_loadName_free I.ok.kind hk hc hcell fin hcd) hd
def a2r{i j pos}:PE X (.Constant (.int i) j pos) (tC (.int i)):=λ_ _ _ H _ I h=>wpAny_Constant_int ⟨.int i,H,I.tok _,⟨_,rfl⟩,h⟩
def a7l{b j pos}:PE X (.Constant (.bool b) j pos) (tC (.bl b)):=λ_ _ _ H _ I h=>Constant_bool ⟨.bl b,H,I,rfl,h⟩
def a2p{j pos}:PE X (.Constant .none j pos) (tC .non):=λ_ _ _ H _ I h=>Constant_none ⟨.non,H,I,rfl,h⟩
def a2m{x j pos}:PE X (.Constant (.str x) j pos) (tC (.str x)):=λ_ _ _ H _ I h=>Calls.Constant_str ⟨.str x,H,I.tok _,⟨_,rfl⟩,h⟩
def Gl(X:Cx)(x:Str):Prop:=X.env.kindOf x=ZZ .globalImplicit
def abx{E:aG->aJ->Prop}{zv:List (aQ×Obj)}{s:aJ}{σ:St}{H:Hp}{x:Str}{u:aG}{pos:Pos}{Q:aG->aJ->Prop}(I:Inv X zv σ H s)(hg:Gl X x)(hm:X.mg x=ZZ u)(h:Q u s)
  (hd:(x==("__debug__" : Str))=ZW:=by decide):bG (bL X.prog X.w) X.A (eval (.Name x pos) X.env) Q E s :=
 tG I.ok.kind hg (Calls.loadGlobal_global (by rw[I.ok.glob];exact I.mod.glob.keeps I.bk) hm h) hd
def ag0{E:aG->aJ->Prop}{zv:List (aQ×Obj)}{s:aJ}{σ:St}{H:Hp}{x:Str}{u:aG}{pos:Pos}{Q:aG->aJ->Prop}(I:Inv X zv σ H s)(hg:Gl X x)(hm:X.mg x=ZY)(hv:bR x=ZZ u)(h:Q u s)
  (hn:x ≠ "__name__" := by decide) (hd:(x==("__debug__" : Str))=ZW:=by decide):bG (bL X.prog X.w) X.A (eval (.Name x pos) X.env) Q E s:=by
 obtain⟨mb,h1,h2⟩:=I.mod.blt;exact tG I.ok.kind hg (Calls.loadGlobal_builtin (by rw[I.ok.glob];exact I.mod.glob.keeps I.bk) hm (by rw[I.ok.blt];exact h1.keeps I.bk) ((h2 x hn).trans hv) h) hd
def asi{x:Str}{v:V}{u:aG}{pos:Pos}(hg:Gl X x)(hm:X.mg x=ZZ u)(r:RelV v u)(hd:(x==("__debug__" : Str))=ZW:=by decide):PE X (.Name x pos) (tC v) :=
 λ_ _ _ H _ I h=>abx I hg hm ⟨v,H,I,r,h⟩ hd
def azm{x:Str}{v:V}{u:aG}{pos:Pos}(hg:Gl X x)(hm:X.mg x=ZY)(hv:bR x=ZZ u)(r:RelV v u)(hn:x ≠ "__name__" := by decide)(hd:(x==("__debug__" : Str))=ZW:=by decide):PE X (.Name x pos) (tC v) :=
 λ_ _ _ H _ I h=>ag0 I hg hm hv ⟨v,H,I,r,h⟩ hn hd
variable{a b:dI}{ta tb:TE}{pos:Pos}
def tB(t:TE):TT:=λσ H Q=>t σ H λx H1=>∃c,x=.bl c/\Q c H1
def a2d{e:dI}{t:TE}(h:PE X e t)(he:∀whole,isTrue e X.env whole=(do let v <-whole;standAt e.pos;jZ [v] (truthy v)):=by intro _;rfl):PT X e (tB t):=by
 intro zv s σ H Q I hw;refine isTrue_plain (thn (h zv s σ H _ I hw) λv s1 ⟨x,H1,I1,r1,q1⟩=>?_) (he _)
 obtain⟨d,rfl,q⟩:=q1;cases r1;exact wpAny_truthy_bool ⟨H1,I1,q⟩
variable{tA tB':TT}{rest:List dI}
def tAnd(t u:TT):TT:=λσ H Q=>t σ H λc H1=>if c=ZX then u σ H1 Q else Q ZW H1
def tOr(t u:TT):TT:=λσ H Q=>t σ H λc H1=>if c=ZX then Q ZX H1 else u σ H1 Q
def tNot(t:TT):TT:=λσ H Q=>t σ H λc H1=>Q (!c) H1
theorem ay1(ha:PT X a tA):PW X (.BoolOp .And [a] pos) tA:=by
 intro wh zv s σ H Q I h;refine isTrue_and (thn (ha zv s σ H Q I h) λc s1 e=>?_)
 cases c with
 |true=>exact isTrue_and_nil e
 |false=>exact e
theorem a1w(ha:PT X a tA):PW X (.BoolOp .Or [a] pos) tA:=by
 intro wh zv s σ H Q I h;refine isTrue_or (thn (ha zv s σ H Q I h) λc s1 e=>?_)
 cases c with
 |false=>exact isTrue_or_nil e
 |true=>exact e
theorem a1x(ha:PT X a tA)(hb:PW X (.BoolOp .And (b::rest) pos) tB'):PW X (.BoolOp .And (a::b::rest) pos) (tAnd tA tB'):=by
 intro wh zv s σ H Q I h;refine isTrue_and (thn (ha zv s σ H _ I h) λc s1 ⟨H1,I1,q1⟩=>?_)
 cases c with
 |true=>exact hb wh zv s1 σ H1 Q I1 q1
 |false=>exact⟨H1,I1,q1⟩
theorem a7e(ha:PT X a tA)(hb:PW X (.BoolOp .Or (b::rest) pos) tB'):PW X (.BoolOp .Or (a::b::rest) pos) (tOr tA tB'):=by
 intro wh zv s σ H Q I h;refine isTrue_or (thn (ha zv s σ H _ I h) λc s1 ⟨H1,I1,q1⟩=>?_)
 cases c with
 |true=>exact⟨H1,I1,q1⟩
 |false=>exact hb wh zv s1 σ H1 Q I1 q1
def a2e(ha:PT X a tA):PT X (.UnaryOp .Not a pos) (tNot tA):=by
 intro zv s σ H Q I h;exact isTrue_not (ha zv s σ H (λc H1=>Q (!c) H1) I h)
def a68(ta tb:TE):TE:=λσ H Q=>ta σ H λx H1=>∃c,x=.bl c/\if c=ZX then tb σ H1 Q else Q (.bl ZW) H1
def a6w(ta:TE):TE:=λσ H Q=>ta σ H λx H1=>∃c,x=.bl c/\Q (.bl (!c)) H1
def a2n{op}{t:TE}(h:PE X a t):PE X (.BoolOp op [a] pos) t:=λzv s σ H Q I hw=>BoolOp_one (h zv s σ H Q I hw)
theorem a2v(ha:PE X a ta)(hb:PE X (.BoolOp .And (b::rest) pos) tb):PE X (.BoolOp .And (a::b::rest) pos) (a68 ta tb):=by
 intro zv s σ H Q I h;refine BoolOp_and (thn (ha zv s σ H _ I h) λv s1 ⟨x,H1,I1,r1,q1⟩=>?_)
 obtain⟨c,rfl,q1⟩:=q1;cases r1;refine wpAny_truthy_bool ?_;cases c with
 |true=>exact hb zv s1 σ H1 Q I1 q1
 |false=>exact⟨.bl ZW,H1,I1,rfl,q1⟩
def a2o(ha:PE X a ta):PE X (.UnaryOp .Not a pos) (a6w ta):=by
 intro zv s σ H Q I h;refine UnaryOp_ (thn (ha zv s σ H _ I h) λv s1 ⟨x,H1,I1,r1,q1⟩=>?_)
 obtain⟨c,rfl,q1⟩:=q1;cases r1;exact not_of (wpAny_truthy_bool ⟨.bl (!c),H1,I1,rfl,q1⟩)
def tIf(t:TT)(ta tb:TE):TE:=λσ H Q=>t σ H λc H1=>if c=ZX then ta σ H1 Q else tb σ H1 Q
theorem avx{c:dI}(hc:PT X c tA)(ha:PE X a ta)(hb:PE X b tb):PE X (.IfExp c a b pos) (tIf tA ta tb):=by
 intro zv s σ H Q I h;refine wpAny_IfExp (thn (hc zv s σ H _ I h) λd s1 ⟨H1,I1,q1⟩=>?_)
 cases d with
 |true=>exact ha zv s1 σ H1 Q I1 q1
 |false=>exact hb zv s1 σ H1 Q I1 q1
end
def SqL(K:Fg9)(H:Hp)(a:aQ)(xs:List V):Prop :=
 Rd H a (.lst xs) ∨
  ∃(o:Obj) (its:Array aG) (n:Nat),K.lookup a=ZZ o/\o.cls=.type "list" /\ o.dict=ZY/\o.data=.seq its n/\its.size<=cJ/\Vals xs its.toList
def SqT(K:Fg9)(H:Hp)(a:aQ)(xs:List V):Prop :=
 Rd H a (.tup xs) ∨
  ∃(o:Obj) (its:Array aG) (n:Nat),K.lookup a=ZZ o/\o.cls=.type "tuple" /\ o.data=.seq its n/\its.size<=cJ/\Vals xs its.toList
def absV:aG->Option V
 |.none=>ZZ .non
 |.bool b=>ZZ (.bl b)
 |.int i _=>ZZ (.int i)
 |.str x _=>ZZ (.str x)
 |.bytes b _=>ZZ (.byt b)
 |.float b _=>ZZ (.flt b)
 |.ref a=>ZZ (.ref a)
 |.type n=>ZZ (.ty n)
 |_=>ZY
theorem RelV.abs{x:V}{u:aG}(r:RelV x u):absV u=ZZ x:=by
 cases x with
 |non=>cases r;rfl
 |bl _=>cases r;rfl
 |int _=>obtain⟨t,rfl⟩:=r;rfl
 |str _=>obtain⟨t,rfl⟩:=r;rfl
 |byt _=>obtain⟨t,rfl⟩:=r;rfl
 |flt _=>obtain⟨t,rfl⟩:=r;rfl
 |ref _=>cases r;rfl
 |ty _=>cases r;rfl
def RelV.inj{x y:V}{u:aG}(r:RelV x u)(q:RelV y u):x=y:=cN (r.abs.symm.trans q.abs)
theorem Vals.inj:∀{xs ys:List V} {us:List aG},Vals xs us->Vals ys us->xs=ys
 |_,_,_,.nil,.nil=>rfl
 |_,_,_,.cons r t,.cons r' t'=>by rw[r.inj r',Vals.inj t t']
section
variable{X:Cx}{zv:List (aQ×Obj)}{σ:St}{H:Hp}{s:aJ}{a:aQ}{xs ys:List V}
def SqL.of{K:Fg9}(h:H a=ZZ (.lst xs)):SqL K H a xs:=.inl (.inl h)
def SqT.of{K:Fg9}(h:H a=ZZ (.tup xs)):SqT K H a xs:=.inl (.inl h)
def Inv.list(I:Inv X zv σ H s)(h:SqL X.K H a xs):∃its:List aG,Vals xs its/\PlainL s.heap a its.toArray/\xs.length<=cJ:=by
 rcases h with h |⟨o,its,n,hk,hc,hd,hs,hz,r⟩
 ·obtain⟨z,its,n,r,e⟩:=h.ok I.hok;exact⟨its,r,⟨_,n,e,rfl,rfl,rfl⟩,z⟩
 ·refine⟨its.toList,r,⟨o,n,I.kIn a o hk,hc,hd,by simpa using hs⟩,?_⟩
  have e:=r.length;simp only[bN] at e;omega
def Inv.tuple(I:Inv X zv σ H s)(h:SqT X.K H a xs):∃its:List aG,Vals xs its/\wZ s.heap a its.toArray/\xs.length<=cJ:=by
 rcases h with h |⟨o,its,n,hk,hc,hs,hz,r⟩
 ·obtain⟨z,its,r,p⟩:=h.ok I.hok;exact⟨its,r,p.tup,z⟩
 ·refine⟨its.toList,r,⟨o,I.kIn a o hk,hc,n,by simpa using hs⟩,?_⟩
  have e:=r.length;simp only[bN] at e;omega
def Inv.list_inj(I:Inv X zv σ H s)(h:SqL X.K H a xs)(h':SqL X.K H a ys):xs=ys:=by
 obtain⟨its,r,⟨o,n,e,_,_,d⟩,_⟩:=I.list h;obtain⟨its',r',⟨o',n',e',_,_,d'⟩,_⟩:=I.list h';rw[e] at e';cases e';rw[d] at d'
 injection d' with d1 _
 have:its=its':=by simpa using congrArg Array.toList d1
 subst this;exact r.inj r'
def Inv.tuple_inj(I:Inv X zv σ H s)(h:SqT X.K H a xs)(h':SqT X.K H a ys):xs=ys:=by
 obtain⟨its,r,⟨o,e,_,n,d⟩,_⟩:=I.tuple h;obtain⟨its',r',⟨o',e',_,n',d'⟩,_⟩:=I.tuple h';rw[e] at e';cases e';rw[d] at d'
 injection d' with d1 _
 have:its=its':=by simpa using congrArg Array.toList d1
 subst this;exact r.inj r'
end
abbrev Cx.wish(X:Cx)(E:aG->aJ->Prop):Cx:={ X with xe:=E }
abbrev Cx.nox(X:Cx):Cx:=X.wish λ_ _=>False
def Cx.Ok.wish{X:Cx}(ok:X.Ok)(E:aG->aJ->Prop):(X.wish E).Ok :=
 ⟨ok.mod,ok.kind,ok.glob,ok.blt,ok.above,ok.inj,ok.has,ok.cab,ok.hd,ok.frames,ok.stk,ok.exf,ok.bs,ok.bsz,ok.noex,ok.exfs,ok.funs,ok.frf⟩
def Cx.Ok.unwish{X:Cx}{E:aG->aJ->Prop}(ok:(X.wish E).Ok):X.Ok :=
 ⟨ok.mod,ok.kind,ok.glob,ok.blt,ok.above,ok.inj,ok.has,ok.cab,ok.hd,ok.frames,ok.stk,ok.exf,ok.bs,ok.bsz,ok.noex,ok.exfs,ok.funs,ok.frf⟩
section
variable{X:Cx}{zv:List (aQ×Obj)}{σ:St}{H:Hp}{s:aJ}{E:aG->aJ->Prop}
def Inv.wish(I:Inv X zv σ H s)(E:aG->aJ->Prop):Inv (X.wish E) zv σ H s:=⟨I.ok.wish E,I.os,I.bare,I.base,I.loc,I.cell,I.free,I.freeC,I.pin,I.hok,I.len⟩
def Inv.unwish(I:Inv (X.wish E) zv σ H s):Inv X zv σ H s:=⟨I.ok.unwish,I.os,I.bare,I.base,I.loc,I.cell,I.free,I.freeC,I.pin,I.hok,I.len⟩
theorem SP.unwish{D:Ends}{f:Flow}{s':aJ}(h:SP (X.wish E) zv D f s'):SP X zv D f s':=by
 cases f with
 |next=>obtain⟨σ',H',I,q⟩:=h;exact⟨σ',H',I.unwish,q⟩
 |brk=>obtain⟨σ',H',I,q⟩:=h;exact⟨σ',H',I.unwish,q⟩
 |cont=>obtain⟨σ',H',I,q⟩:=h;exact⟨σ',H',I.unwish,q⟩
 |ret u=>obtain⟨v,σ',H',I,r,q⟩:=h;exact⟨v,σ',H',I.unwish,r,q⟩
def PSs.nox{st:List gK}{t:TS}(h:PSs X.nox st t):PSs X st t:=λzv s σ H D I hw=>
 bD (h zv s σ H D (I.wish _) hw) (λ_ _ q=>q.unwish) λ_ _ z=>eF z
end
section
variable{X:Cx}{st:gK}{rest:List gK}{t u:TS}{e:dI}{te:TE}{pos:Pos}
def a6x:TS:=λD σ H=>D.nx σ H
def tSeq(t u:TS):TS:=λD σ H=>t { D with nx:=u D } σ H
def ar8:PSs X [] a6x:=λ_ _ σ H _ I h=>wpAny_execs_nil ⟨σ,H,I,h⟩
theorem ajg(h1:PS X st t)(h2:PSs X rest u):PSs X (st::rest) (tSeq t u):=by
 intro zv s σ H D I h;refine wpAny_execs_cons (thn (h1 zv s σ H { D with nx:=u D } I h) λf s1 q=>?_)
 cases f with
 |next=>
  obtain⟨σ',H',I',q⟩:=q;exact h2 zv s1 σ' H' D I' q
 |ret v=>exact q
 |brk=>exact q
 |cont=>exact q
theorem ar7(h1:PS X st t):PSs X [st] t:=by
 intro zv s σ H D I h;refine wpAny_execs_cons (thn (h1 zv s σ H D I h) λf s1 q=>?_)
 cases f with
 |next=>exact wpAny_execs_nil q
 |ret v=>exact q
 |brk=>exact q
 |cont=>exact q
def Inv.quiet{zv:List (aQ×Obj)}{σ:St}{H:Hp}{s:aJ}(I:Inv X zv σ H s):interactive X.env=ZW:=by simp[interactive,I.ok.kind]
def a65(te:TE):TS:=λD σ H=>te σ H λ_ H1=>D.nx σ H1
def ay6(he:PE X e te)(hs:iR e ZY pos.line X.env=pure ZW:=by rfl):PS X (.Expr e pos) (a65 te):=by
 intro zv s σ H D I h;exact wpAny_Expr_any (thn (he zv s σ H _ I h) λv s1 ⟨x,H1,I1,r1,q1⟩=>⟨σ,H1,I1,q1⟩) I.quiet hs
def tRet(te:TE):TS:=λD σ H=>te σ H D.rt
def a2f(he:PE X e te):PS X (.Return (ZZ e) pos) (tRet te):=by
 intro zv s σ H D I h;exact wpAny_Return_some (thn (he zv s σ H _ I h) λv s1 ⟨x,H1,I1,r1,q1⟩=>⟨x,σ,H1,I1,r1,q1⟩)
def tIfS(c:TT)(t u:TS):TS:=λD σ H=>c σ H λb H1=>if b=ZX then t D σ H1 else u D σ H1
theorem a7h{c:dI}{a b:List gK}{tc:TT}(hc:PT X c tc)(ha:PSs X a t)(hb:PSs X b u):PS X (.If c a b pos) (tIfS tc t u):=by
 intro zv s σ H D I h;refine wpAny_If (thn (hc zv s σ H _ I h) λd s1 ⟨H1,I1,q1⟩=>?_)
 cases d with
 |true=>exact ha zv s1 σ H1 D I1 q1
 |false=>exact hb zv s1 σ H1 D I1 q1
def a1k:TS:=λ_ _ _=>False
def aoj:PS X st a1k:=λ_ _ _ _ _ _ h=>h.elim
end
abbrev TG:=V->St->Hp->(St->Hp->Prop)->Prop
abbrev TGs:=List V->St->Hp->(St->Hp->Prop)->Prop
def PG(X:Cx)(target:dI)(t:TG):Prop :=
 ∀(zv:List (aQ×Obj)) (s:aJ) (σ:St) (H:Hp) (v:V) (u:aG) (Q:St->Hp->Prop),Inv X zv σ H s->RelV v u->t v σ H Q ->
  bG (bL X.prog X.w) X.A (oU target X.env u) (λ_ s'=>∃σ' H',Inv X zv σ' H' s'/\Q σ' H') X.xe s
def PGs(X:Cx)(ts:List dI)(t:TGs):Prop :=
 ∀(zv:List (aQ×Obj)) (s:aJ) (σ:St) (H:Hp) (vs:List V) (us:List aG) (Q:St->Hp->Prop),Inv X zv σ H s->Vals vs us->t vs σ H Q ->
  bG (bL X.prog X.w) X.A (assignInOrder ((iT ts X.env).map (·.2)) us) (λ_ s'=>∃σ' H',Inv X zv σ' H' s'/\Q σ' H') X.xe s
abbrev TSet:=V->V->V->Hp->(Hp->Prop)->Prop
def PSet(X:Cx)(t:TSet):Prop :=
 ∀(zv:List (aQ×Obj)) (s:aJ) (σ:St) (H:Hp) (o i v:V) (ov iv u:aG) (Q:Hp->Prop),Inv X zv σ H s->RelV o ov->RelV i iv->RelV v u->t o i v H Q ->
  bG (bL X.prog X.w) X.A (setItem ov iv u) (λ_ s'=>∃H',Inv X zv σ H' s'/\Q H') X.xe s
abbrev TIp:=V->V->Hp->VK->Prop
def PIp(X:Cx)(op:Operator)(t:TIp):Prop :=
 ∀(zv:List (aQ×Obj)) (s:aJ) (σ:St) (H:Hp) (x y:V) (v u:aG) (Q:VK),Inv X zv σ H s->RelV x v->RelV y u->t x y H Q ->
  bG (bL X.prog X.w) X.A (inplaceOp op v u) (EP X zv σ Q) X.xe s
section
variable{X:Cx}{pos:Pos}
def a0f(i:Nat):TG:=λv σ H Q=>Q (σ.set i (ZZ v)) H
def azf{i:Nat}{x:Str}(hN:X.N.Nodup)(hi:X.N[i]? = ZZ x)(hx:Loc X.env.scope x)(hf:X.fn x=ZX∨X.env.scope.names.lookup x=ZZ .local:=by first |exact .inl rfl |exact .inr rfl |assumption):PG X (.Name x pos) (a0f i):=by
 intro zv s σ H v u Q I r h;exact wpAny_assign_Name (ace I hN hi hx r (λs' I'=>⟨_,H,I',h⟩) hf)
def gNil:TGs:=λvs σ H Q=>vs=[]/\Q σ H
def a8p(t:TG)(u:TGs):TGs:=λvs σ H Q=>∃v r,vs=v::r/\t v σ H λσ' H'=>u r σ' H' Q
def aze:PGs X [] gNil:=by
 intro zv s σ H vs us Q I r h;obtain⟨e,h⟩:=h;subst e;cases r;exact assignInOrder_nil ⟨σ,H,I,h⟩
theorem avw{e:dI}{es:List dI}{t:TG}{u:TGs}(h1:PG X e t)(h2:PGs X es u)
  (hs:(iT (e::es) X.env).map (·.2)=oU e X.env::(iT es X.env).map (·.2):=by rfl):PGs X (e::es) (a8p t u):=by
 intro zv s σ H vs us Q I r h;obtain⟨v,vr,e1,h⟩:=h;subst e1;cases r with
 |cons r rr=>
  rw[hs];refine assignInOrder_cons (thn (h1 zv s σ H _ _ _ I r h) λ_ s1 ⟨σ1,H1,I1,q1⟩=>?_)
  exact h2 zv s1 σ1 H1 _ _ Q I1 rr q1
def gTup(K:Fg9)(n:Nat)(t:TGs):TG:=λv σ H Q=>∃a xs,v=.ref a/\SqT K H a xs/\xs.length=n/\t xs σ H Q
def a2j{es:List dI}{k:Nat}{t:TGs}{n:Nat}(hc:X.calm=ZX)(h:PGs X es t)
  (hn:(iT es X.env).length=n:=by rfl) (hst:(iT es X.env).findIdx? (·.1)=ZY:=by rfl):PG X (.Tuple es k pos) (gTup X.K n t):=by
 intro zv s σ H v u Q I r hw;obtain⟨a,xs,e1,hq,hl,hw⟩:=hw;subst e1;cases r;obtain⟨its,rv,ht,hz⟩:=I.tuple hq;refine assign_Tuple_tuple (I.ok.hd hc) ht (by simp[hn,<-hl,rv.length]) hst λh' hx=>?_
 have I1:Inv X zv σ H { s with heap:=h' }:=I.kept (t':=s.toks) λb o e=>hx b o (bI (aN e)) e
 exact h zv _ σ H xs _ Q I1 (by simpa using rv) hw
def gSub(to ti:TE)(t:TSet):TG:=λv σ H Q=>to σ H λo H1=>ti σ H1 λi H2=>t o i v H2 λH3=>Q σ H3
def axk{o i:dI}{to ti:TE}{t:TSet}(ho:PE X o to)(hi:PE X i ti)(hs:PSet X t)
  (ha:∀v,oU (.Subscript o i pos) X.env v=(do
   let ov <-jZ [v] (eval o X.env)
   let iv <-jZ [v,ov] (eval i X.env)
   standAt pos
   jZ [v,ov,iv] (setItem ov iv v)
   release [v,ov,iv] []):=by intro _;rfl):PG X (.Subscript o i pos) (gSub to ti t):=by
 intro zv s σ H v u Q I r h;rw[ha];refine aA (eG (thn (ho zv s σ H _ I h) λov s1 ⟨x,H1,I1,r1,q1⟩=>?_))
 refine aA (eG (thn (hi zv s1 σ H1 _ I1 q1) λiv s2 ⟨y,H2,I2,r2,q2⟩=>?_))
 refine aA (iZ (aA (eG (thn (hs zv s2 σ H2 x y v ov iv u _ I2 r1 r2 r q2) λ_ s3 ⟨H3,I3,q3⟩=>?_))))
 exact wpAny_release ⟨σ,H3,I3,q3⟩
def tAsg(te:TE)(g:TG):TS:=λD σ H=>te σ H λx H1=>g x σ H1 D.nx
def asa{tg e:dI}{te:TE}{g:TG}(he:PE X e te)(hg:PG X tg g)(hs:swapsWithSole [tg] e pos.line X.env=pure ZW:=by rfl)(hw:swappedStores [tg] e X.env=pure ZY:=by rfl)
  (h1:(iT [tg] X.env).map (·.2)=[oU tg X.env]:=by rfl):PS X (.Assign [tg] e pos) (tAsg te g):=by
 intro zv s σ H D I h;refine wpAny_Assign_stores (thn (he zv s σ H _ I h) λv s1 ⟨x,H1,I1,r1,q1⟩=>?_) hs hw
 rw[h1];exact thn (hg zv s1 σ H1 x v _ I1 r1 q1) λ_ s2 q=>q
def axh{i:Nat}{x:Str}{e:dI}{te:TE}{pos':Pos}(hN:X.N.Nodup)(hi:X.N[i]? = ZZ x)(hx:Loc X.env.scope x)(he:PE X e te)(hs:iR e (ZZ (.Name x pos')) pos.line X.env=pure ZW:=by rfl)(hf:X.fn x=ZX∨X.env.scope.names.lookup x=ZZ .local:=by first |exact .inl rfl |exact .inr rfl |assumption) :
  PS X (.Assign [.Name x pos'] e pos) (tAsg te (a0f i)):=by
 intro zv s σ H D I h;refine wpAny_Assign_Name (thn (he zv s σ H _ I h) λv s1 ⟨y,H1,I1,r1,q1⟩=>?_) hs
 exact ace I1 hN hi hx r1 (λs2 I2=>⟨_,H1,I2,q1⟩) hf
def tPar(i j:Nat)(ta:TA):TS:=λD σ H=>ta σ H λvs H1=>∃v w,vs=[v,w]/\D.nx ((σ.set i (ZZ v)).set j (ZZ w)) H1
def a2g{i j:Nat}{x y:Str}{a b:dI}{ta:TA}{px py pt:Pos}{kt k2 pt2}(hc:X.calm=ZX)(hN:X.N.Nodup)(hi:X.N[i]? = ZZ x)(hj:X.N[j]? = ZZ y)(hij:i≠j)
  (hx:X.env.scope.names.lookup x=ZZ .local) (hy:X.env.scope.names.lookup y=ZZ .local) (ha:PA X [a,b] ta)
  (hw:swappedStores [.Tuple [.Name x px,.Name y py] kt pt] (.Tuple [a,b] k2 pt2) X.env=pure (ZZ [x,y]))
  (hs:swapsWithSole [.Tuple [.Name x px,.Name y py] kt pt] (.Tuple [a,b] k2 pt2) pos.line X.env=pure ZW:=by rfl) :
  PS X (.Assign [.Tuple [.Name x px,.Name y py] kt pt] (.Tuple [a,b] k2 pt2) pos) (tPar i j ta):=by
 intro zv s σ H D I h;rw[exec_Assign_arm];refine aA (iZ ?_);rw[hs];refine aA (aH ?_);rw[if_neg (by decide)]
 refine aA (Tuple_ (thn (ha _ zv s σ H _ I h) λus s1 ⟨vs,H1,I1,r1,q1⟩=>?_))
 obtain⟨v,w,e1,q1⟩:=q1;subst e1;obtain⟨u1,u2,rfl,rv,rw'⟩:∃u1 u2,us=[u1,u2]/\RelV v u1/\RelV w u2:=by
  cases r1 with
  |cons p q=>
   cases q with
   |cons p' q'=>
    cases q';exact⟨_,_,rfl,p,p'⟩
 refine cA ?_ (by show 2<=cJ;decide)
 have I2:Inv X zv σ H1 { s1 with heap:=s1.heap.push { cls:=.type "tuple", data:=.seq [u1,u2].toArray } }:=I1.kept (t':=s1.toks) λb o e=>aB _ e
 rw[hw];refine aA (aH ?_);show bG (bL X.prog X.w) X.A (do rule "assign.swapped-stores";let items <-unpackItems (.ref s1.heap.objs.size) 2 ZY;assignInOrder [λv=>bindName X.env y v,λv=>bindName X.env x v] items.reverse;pure uV) _ _ _
 refine aA (jF (aA (unpackItems_tuple (items := #[u1,u2]) (I.ok.hd hc) (IsTup.new s1.heap _) λh' hx'=>?_)))
 have I3:=I2.kept (h':=h') (t':=s1.toks) λb o e=>hx' b o (bI (aN e)) e
 show bG _ _ (assignInOrder [λv=>bindName X.env y v,λv=>bindName X.env x v] [u2,u1] >>= λ_=>pure uV) _ _ _
 refine aA (assignInOrder_cons (wpAny_bindName (ace I3 hN hj (.inl hy) rw' (λs2 I4=>?_) (.inr hy))))
 refine assignInOrder_cons (wpAny_bindName (ace I4 hN hi (.inl hx) rv (λs3 I5=>assignInOrder_nil (aH ?_)) (.inr hx)))
 rw[List.set_comm _ _ (gG hij)] at I5;exact⟨_,H1,I5,q1⟩
def a67(to ti te:TE)(tget:V->V->Hp->VK->Prop)(tip:TIp)(tset:TSet):TS:=λD σ H=>to σ H λo H1=>ti σ H1 λi H2=>tget o i H2 λx H3=>te σ H3 λy H4=>tip x y H4 λz H5=>tset o i z H5 λH6=>D.nx σ H6
def PGet(X:Cx)(t:V->V->Hp->VK->Prop):Prop :=
 ∀(zv:List (aQ×Obj)) (s:aJ) (σ:St) (H:Hp) (o i:V) (ov iv:aG) (Q:VK),Inv X zv σ H s->RelV o ov->RelV i iv->t o i H Q ->
  bG (bL X.prog X.w) X.A (qW ov iv) (EP X zv σ Q) X.xe s
def ar9{o i e:dI}{to ti te:TE}{tget:V->V->Hp->VK->Prop}{tip:TIp}{tset:TSet}{op:Operator}{tpos:Pos}(ho:PE X o to)(hi:PE X i ti)(hg:PGet X tget)(he:PE X e te)(hp:PIp X op tip)(hs:PSet X tset)
  (ha:∀ov iv new,augStore i ov iv new=(do jZ [new,ov,iv] (setItem ov iv new);release [new,ov,iv] [];pure .next):=by intros;rfl):PS X (.AugAssign (.Subscript o i tpos) op e pos) (a67 to ti te tget tip tset):=by
 intro zv s σ H D I h;refine wpAny_AugAssign_SubscriptAny (thn (ho zv s σ H _ I h) λov s1 ⟨x1,H1,I1,r1,q1⟩=>?_) ha
 refine thn (hi zv s1 σ H1 _ I1 q1) λiv s2 ⟨x2,H2,I2,r2,q2⟩=>?_
 refine thn (hg zv s2 σ H2 x1 x2 ov iv _ I2 r1 r2 q2) λold s3 ⟨x3,H3,I3,r3,q3⟩=>?_
 refine thn (he zv s3 σ H3 _ I3 q3) λv s4 ⟨x4,H4,I4,r4,q4⟩=>?_
 refine thn (hp zv s4 σ H4 x3 x4 old v _ I4 r3 r4 q4) λnew s5 ⟨x5,H5,I5,r5,q5⟩=>?_
 exact thn (hs zv s5 σ H5 x1 x2 x5 ov iv new _ I5 r1 r2 r5 q5) λ_ s6 ⟨H6,I6,q6⟩=>⟨σ,H6,I6,q6⟩
def ipI(f:Int->Int->Int):TIp:=λx y H Q=>∃i j,x=.int i/\y=.int j/\Q (.int (f i j)) H
def aox:PIp X .Add (ipI λi j=>i+j):=by
 intro zv s σ H x y v u Q I r1 r2 h;obtain⟨i,j,e1,e2,q⟩:=h;subst e1;subst e2;obtain⟨t,rfl⟩:=r1;obtain⟨t',rfl⟩:=r2;exact iadd_int ⟨.int _,H,I.tok _,⟨_,rfl⟩,q⟩
def a4f:PIp X .Sub (ipI λi j=>i-j):=by
 intro zv s σ H x y v u Q I r1 r2 h;obtain⟨i,j,e1,e2,q⟩:=h;subst e1;subst e2;obtain⟨t,rfl⟩:=r1;obtain⟨t',rfl⟩:=r2;exact isub_int ⟨.int _,H,I.tok _,⟨_,rfl⟩,q⟩
end
section
variable{X:Cx}{pos:Pos}
def a1j(c:TT)(tb:TS):TS:=λD σ H=>∃W:Nat->St->Hp->Prop,(∃m,W m σ H)/\∀m σ H,W m σ H ->
 c σ H λb H1=>if b=ZX then ∃N:St->Hp->Prop,(∀σ' H',N σ' H'->∃m',m'<m/\W m' σ' H')/\tb { D with nx:=N,ct:=N,bk:=D.nx } σ H1 else D.nx σ H1
theorem avt{c:dI}{body:List gK}{tc:TT}{tb:TS}(hp:sI (bL X.prog X.w) X.A X.env X.xe)(hc:PT X c tc)(hb:PSs X body tb):PS X (.While c body [] pos) (a1j tc tb):=by
 intro zv s σ H D I h;obtain⟨W,⟨m0,w0⟩,turn⟩:=h;refine wpAny_While (codeAny_whileLoop (λn s'=>∃σ' H',Inv X zv σ' H' s'/\W n σ' H') ?_ m0 ⟨σ,H,I,w0⟩)
 rintro n s1 ⟨σ1,H1,I1,w1⟩
 refine wpAny_passesOwn hp (thn (hc zv s1 σ1 H1 _ I1 (turn n σ1 H1 w1)) λb s2 ⟨H2,I2,q2⟩=>?_)
 cases b with
 |true=>
  obtain⟨N,hN,q2⟩:=q2;rw[if_pos rfl];refine wpAny_passesOwn hp (thn (hb zv s2 σ1 H2 _ I2 q2) λf s3 q3=>?_)
  cases f with
  |next=>
   obtain⟨σ3,H3,I3,n3⟩:=q3;obtain⟨m',hm,w3⟩:=hN σ3 H3 n3;exact⟨m',hm,σ3,H3,I3,w3⟩
  |cont=>
   obtain⟨σ3,H3,I3,n3⟩:=q3;obtain⟨m',hm,w3⟩:=hN σ3 H3 n3;exact⟨m',hm,σ3,H3,I3,w3⟩
  |brk=>exact q3
  |ret v=>exact q3
 |false=>
  rw[if_neg cY];exact wpAny_execs_nil ⟨σ1,H2,I2,q2⟩
end
structure It where
 go:Nat->Hp->Prop
 yld:Nat->Hp->V->Hp->Prop
 stop:Nat->Hp->Prop
def FpOk(X:Cx)(zv:List (aQ×Obj))(H:Hp)(b:aQ):Prop :=
 H b=ZY/\b≠X.env.locals/\b∉X.fs/\(b∈X.ex∨X.s₀.heap.objs.size<=b)/\(∀x c,X.env.cells.lookup x=ZZ c->c≠b)/\∀p∈X.pn++zv,p.1≠b
def Inv.fpOk{X:Cx}{zv:List (aQ×Obj)}{σ:St}{H H':Hp}{s:aJ}{b:aQ}(I:Inv X zv σ H s)(hb:s.heap.objs.size<=b)(hn:H' b=ZY):FpOk X zv H' b:=by
 refine⟨hn,fL (bY I.lt hb),I.nofs hb,.inr (cW I.sz hb),λx c e z=>?_,λp hp z=>?_⟩
 ·obtain⟨v,q⟩:=I.cell x c e;exact absurd (bY q.lt (by rw[z];exact hb)) (lF _)
 ·exact absurd (bY (aN (I.pin p hp).1) (by rw[z];exact hb)) (lF _)
structure Turn (P:bT) (w:dB) (K:Fg9) (tg:dI) (J:It) (fp:List aQ) (it:aQ) (tn:Nat->eE->Prop):Prop where
 mem:it∈fp
 obj:∀i h,tn i h->∀b∈fp,∃o,h.get? b=ZZ o/\∀v,o.data≠.cell v
 keep:∀i h h',tn i h->(∀b∈fp,∀o,h.get? b=ZZ o->h'.get? b=ZZ o)->tn i h'
 item:∀(X:Cx),X.prog=P->X.w=w->X.K=K->X.calm=ZX->∀(i:Nat) (zv:List (aQ×Obj)) (s:aJ) (σ:St) (H:Hp) (E:aG->aJ->Prop),Inv X zv σ H s->(∀b∈fp,FpOk X zv H b)->tn i s.heap->J.go i H ->
  bG (bL P w) X.A (nT (.ref it)) (λr s1=>∃u,r=ZZ u /\
   bG (bL P w) X.A (letOwnedTupleGo tg (.ref it) u) (λ_ s2=>∃x H',Inv X zv σ H' s2/\RelV x u/\J.yld i H x H'/\tn (i+1) s2.heap/\∀b∈fp,H' b=ZY) E s1) E s
 done:∀(X:Cx),X.prog=P->X.w=w->X.K=K->X.calm=ZX->∀(i:Nat) (zv:List (aQ×Obj)) (s:aJ) (σ:St) (H:Hp) (E:aG->aJ->Prop),Inv X zv σ H s->(∀b∈fp,FpOk X zv H b)->tn i s.heap->J.stop i H ->
  bG (bL P w) X.A (nT (.ref it)) (λr s1=>r=ZY/\Inv X zv σ H s1) E s
 self:∀(A:cQ) (i:Nat) (s:aJ) (Q:aG->aJ->Prop) (E:aG->aJ->Prop),tn i s.heap->Q (.ref it) s->bG (bL P w) A (pyIter (.ref it)) Q E s
abbrev TI:=St->Hp->(It->Hp->Prop)->Prop
def PIE(X:Cx)(zv:List (aQ×Obj))(σ:St)(tg:dI)(R:It->Hp->Prop)(itv:aG)(s2:aJ):Prop :=
 ∃(it:aQ) (fp:List aQ) (tn:Nat->eE->Prop) (J:It) (H':Hp),itv=.ref it/\Inv X zv σ H' s2/\Turn X.prog X.w X.K tg J fp it tn/\tn 0 s2.heap/\(∀b∈fp,FpOk X zv H' b)/\R J H'
def PI(X:Cx)(tg iter:dI)(wi:TI):Prop :=
 ∀(zv:List (aQ×Obj)) (s:aJ) (σ:St) (H:Hp) (R:It->Hp->Prop),Inv X zv σ H s->wi σ H R ->
  bG (bL X.prog X.w) X.A (eval iter X.env) (λv s1=>bG (bL X.prog X.w) X.A (pyIter v) (PIE X zv σ tg R) X.xe s1) X.xe s
def a0b{M:vL}{A:cQ}{E:aG->aJ->Prop}{s:aJ}{tg:dI}{it:aQ}{u:aG}{o:Obj}{n:String}{vs:Array aG}{Q:Unit->aJ->Prop}(ho:s.heap.get? it=ZZ o)(hc:o.cls=.type n)(hd:o.data=.fields vs)
  (hn:["enumerate","zip","dict_itemiterator","dict_reverseitemiterator","odict_iterator","itertools.zip_longest","itertools.pairwise"].contains n=ZW) (hQ:Q () s):bG M A (letOwnedTupleGo tg (.ref it) u) Q E s:=by
 unfold letOwnedTupleGo;cases tg <;> first
  |exact aH hQ
  | (cases u <;> first
    |exact aH hQ
    | (refine aA (wpAny_load ho ?_)
       rw[hc,hd];show bG M A (if (["enumerate","zip","dict_itemiterator","dict_reverseitemiterator","odict_iterator","itertools.zip_longest","itertools.pairwise"].contains n&&vs[0]? == ZZ (iI _))=ZX then _ else _) Q E s
       rw[if_neg (by intro h;rw[hn,tW] at h;cases h)]
       exact aH hQ))
def Itl(K:Fg9)(a:aQ):It :=
 ⟨λi H=>∃xs x,SqL K H a xs/\xs[i]? = ZZ x,λi H x H'=>H'=H/\∀xs,SqL K H a xs->xs[i]? = ZZ x,λi H=>∃xs,SqL K H a xs/\xs.length<=i⟩
def Itt(K:Fg9)(a:aQ):It :=
 ⟨λi H=>∃xs x,SqT K H a xs/\xs[i]? = ZZ x,λi H x H'=>H'=H/\∀xs,SqT K H a xs->xs[i]? = ZZ x,λi H=>∃xs,SqT K H a xs/\xs.length<=i⟩
def Itr(lo:Int)(n:Nat):It:=⟨λi _=>i<n,λi H x H'=>H'=H/\x=.int (lo+i),λi _=>n<=i⟩
def arb{P:bT}{w:dB}{K:Fg9}{tg:dI}(a it:aQ):Turn P w K tg (Itl K a) [it] it (λi h=>h.IsListIter it a i) where
 mem:=by simp
 obj:=λi h st b hb=>by
  have e:b=it:=by simpa using hb
  subst e;obtain⟨o,e,c,d⟩:=st;exact⟨o,e,λv z=>by rw[d] at z;cases z⟩
 keep:=λi h h' st k=>st.at λo e=>k it (by simp) o e
 item:=by
  intro X hP hw hK hc i zv s σ H E I hf st hg;subst hP hw hK;obtain⟨xs,x,hq,hx⟩:=hg;obtain⟨its,rv,p,hz⟩:=I.list hq;obtain⟨u,hu,ru⟩:=rv.get hx;obtain⟨f0,f1,f2,f3,f4,f5⟩:=hf it (by simp)
  refine wpAny_pyNext_list_item st p.isList (x:=u) (by simpa using hu) λh' st' sb=>?_
  have I1:Inv X zv σ H { s with heap:=h' }:=I.turned (t':=s.toks) (λb o hb e=>(sb.2 b hb).trans e) f0 f1 f3 f4 f5
  obtain⟨o,e,c,d⟩:=id st';exact⟨u,rfl,a0b (s:={ s with heap:=h' }) e c d (by decide) ⟨x,H,I1,ru,⟨rfl,λys hy=>by rw[I.list_inj hy hq];exact hx⟩,st',λb hb=>(hf b hb).1⟩⟩
 done:=by
  intro X hP hw hK hc i zv s σ H E I hf st hg;subst hP hw hK;obtain⟨xs,hq,hx⟩:=hg;obtain⟨its,rv,p,hz⟩:=I.list hq;obtain⟨f0,f1,f2,f3,f4,f5⟩:=hf it (by simp)
  have hl:=rv.length;exact wpAny_pyNext_list_end (I.ok.hd hc) st p.isList (by simp;omega) λh' eb=>⟨rfl,I.turned (t':=s.toks) (λb o hb e=>eb b o hb e) f0 f1 f3 f4 f5⟩
 self:=λ_ _ _ _ _ st h=>wpAny_pyIter_listiter st h
def apm{P:bT}{w:dB}{K:Fg9}{tg:dI}(a it:aQ):Turn P w K tg (Itt K a) [it] it (λi h=>h.IsTupleIter it a i) where
 mem:=by simp
 obj:=λi h st b hb=>by
  have e:b=it:=by simpa using hb
  subst e;obtain⟨o,e,c,d⟩:=st;exact⟨o,e,λv z=>by rw[d] at z;cases z⟩
 keep:=λi h h' st k=>st.at λo e=>k it (by simp) o e
 item:=by
  intro X hP hw hK hc i zv s σ H E I hf st hg;subst hP hw hK;obtain⟨xs,x,hq,hx⟩:=hg;obtain⟨its,rv,p,hz⟩:=I.tuple hq;obtain⟨u,hu,ru⟩:=rv.get hx;obtain⟨f0,f1,f2,f3,f4,f5⟩:=hf it (by simp)
  refine wpAny_pyNext_tuple_item st (show s.heap.IsTuple a its.toArray from p) (x:=u) (by simpa using hu) λh' st' sb=>?_
  have I1:Inv X zv σ H { s with heap:=h' }:=I.turned (t':=s.toks) (λb o hb e=>(sb.2 b hb).trans e) f0 f1 f3 f4 f5
  obtain⟨o,e,c,d⟩:=id st';exact⟨u,rfl,a0b (s:={ s with heap:=h' }) e c d (by decide) ⟨x,H,I1,ru,⟨rfl,λys hy=>by rw[I.tuple_inj hy hq];exact hx⟩,st',λb hb=>(hf b hb).1⟩⟩
 done:=by
  intro X hP hw hK hc i zv s σ H E I hf st hg;subst hP hw hK;obtain⟨xs,hq,hx⟩:=hg;obtain⟨its,rv,p,hz⟩:=I.tuple hq;obtain⟨f0,f1,f2,f3,f4,f5⟩:=hf it (by simp)
  have hl:=rv.length;exact wpAny_pyNext_tuple_end (I.ok.hd hc) st (show s.heap.IsTuple a its.toArray from p) (by simp;omega) λh' eb=>⟨rfl,I.turned (t':=s.toks) (λb o hb e=>eb b o hb e) f0 f1 f3 f4 f5⟩
 self:=λ_ _ _ _ _ st h=>wpAny_pyIter_tupleiter st h
def apn{P:bT}{w:dB}{K:Fg9}{tg:dI}(it:aQ)(lo:Int)(n:Nat):Turn P w K tg (Itr lo n) [it] it (λi h=>IsRangeIter h it (lo+(i:Nat)*1) ((n:Int)-(i:Nat)) 1) where
 mem:=by simp
 obj:=λi h st b hb=>by
  have e:b=it:=by simpa using hb
  subst e;exact⟨_,st,λv z=>by
   have z':Data.fields _=Data.cell v:=z;cases z'⟩
 keep:=λi h h' st k=>k it (by simp) _ st
 item:=by
  intro X hP hw hK hc i zv s σ H E I hf st hg;subst hP hw hK;obtain⟨f0,f1,f2,f3,f4,f5⟩:=hf it (by simp)
  have W:=Walks.range (prog:=X.prog) (w:=X.w) (I.ok.hd hc) it lo 1 n;refine W.item i s _ _ hg st λv h' tk hv st' kk=>?_
  obtain⟨t,rfl⟩:=hv;have I1:Inv X zv σ H { s with heap:=h',toks:=tk }:=I.turned (λb o hb e=>kk b o (by simpa using hb) e) f0 f1 f3 f4 f5
  refine⟨_,rfl,a0b (s:={ s with heap:=h',toks:=tk }) (n := "range_iterator") st' rfl rfl (by decide) ⟨.int (lo+i),H,I1,⟨t,?_⟩,⟨rfl,rfl⟩,st',λb hb=>(hf b hb).1⟩⟩
  rw[sS]
 done:=by
  intro X hP hw hK hc i zv s σ H E I hf st hg;subst hP hw hK;obtain⟨f0,f1,f2,f3,f4,f5⟩:=hf it (by simp)
  exact wpAny_pyNext_range_end (I.ok.hd hc) st (by have:n<=i:=hg;omega) λh' eb=>⟨rfl,I.turned (t':=s.toks) (λb o hb e=>eb b o hb e) f0 f1 f3 f4 f5⟩
 self:=λ_ _ _ _ _ st h=>wpAny_pyIter_rangeiter st h
section
variable{X:Cx}{tg:dI}
def a8i(K:Fg9)(tl:TE):TI:=λσ H R=>tl σ H λx H1=>∃a,x=.ref a/\(∃xs,SqL K H1 a xs)/\R (Itl K a) H1
def iTup(K:Fg9)(tl:TE):TI:=λσ H R=>tl σ H λx H1=>∃a,x=.ref a/\(∃xs,SqT K H1 a xs)/\R (Itt K a) H1
def ash{l:dI}{tl:TE}(hl:PE X l tl):PI X tg l (a8i X.K tl):=by
 intro zv s σ H R I h;refine thn (hl zv s σ H _ I h) λv s1 ⟨x,H1,I1,r1,q1⟩=>?_
 obtain⟨a,e,⟨xs,hq⟩,q⟩:=q1;subst e;cases r1;obtain⟨its,rv,p,hz⟩:=I1.list hq;refine wpAny_pyIter_list p.isList ?_;refine⟨s1.heap.objs.size,[s1.heap.objs.size],_,_,H1,rfl,I1.kept (t':=s1.toks) λb o e=>aB _ e,arb a _,⟨_,aM _ rfl,rfl,rfl⟩,λb hb=>?_,q⟩
 have e:b=s1.heap.objs.size:=by simpa using hb
 subst e;exact I1.fpOk (aP _) (I1.hok.fresh (aP _))
def a2i{l:dI}{tl:TE}(hl:PE X l tl):PI X tg l (iTup X.K tl):=by
 intro zv s σ H R I h;refine thn (hl zv s σ H _ I h) λv s1 ⟨x,H1,I1,r1,q1⟩=>?_
 obtain⟨a,e,⟨xs,hq⟩,q⟩:=q1;subst e;cases r1;obtain⟨its,rv,p,hz⟩:=I1.tuple hq;refine wpAny_pyIter_tuple (show s1.heap.IsTuple a its.toArray from p) ?_
 refine⟨s1.heap.objs.size,[s1.heap.objs.size],_,_,H1,rfl,I1.kept (t':=s1.toks) λb o e=>aB _ e,apm a _,⟨_,aM _ rfl,rfl,rfl⟩,λb hb=>?_,q⟩
 have e:b=s1.heap.objs.size:=by simpa using hb
 subst e;exact I1.fpOk (aP _) (I1.hok.fresh (aP _))
def avs{zv:List (aQ×Obj)}{σ:St}{H:Hp}{s:aJ}{R:It->Hp->Prop}{E:aG->aJ->Prop}{lo hi:Int}{t u v:Tok}{tk:Nat}(I:Inv X zv σ H s)(h1 : -(2 ^ 62)<=lo)(h2:lo<2 ^ 62)(h3 : -(2 ^ 62)<=hi)(h4:hi<2 ^ 62)
  (q:R (Itr lo (hi-lo).toNat) H):bG (bL X.prog X.w) X.A (pyIter (.ref s.heap.objs.size)) (PIE X zv σ tg R) E { s with heap:=s.heap.push { cls:=.type "range", data:=.fields #[.int lo t,.int hi u,.int 1 v] },toks:=tk }:=by
 refine wpAny_pyIter_range (IsRange.new ..) (small_one h1 h2 h3 h4) ?_;have I1:Inv X zv σ H { s with heap:=s.heap.push { cls:=.type "range", data:=.fields #[.int lo t,.int hi u,.int 1 v] },toks:=tk }:=I.kept λb o e=>aB _ e
 refine⟨(s.heap.push { cls:=.type "range", data:=.fields #[.int lo t,.int hi u,.int 1 v] }).objs.size,[(s.heap.push { cls:=.type "range", data:=.fields #[.int lo t,.int hi u,.int 1 v] }).objs.size],_,_,H,rfl,
  I1.kept (t':=tk) λb o e=>aB _ e,apn _ lo (hi-lo).toNat,?_,λb hb=>?_,q⟩
 ·have e1:lo+((0:Nat):Int)*1=lo:=by simp
  have e2:(((hi-lo).toNat:Nat):Int)-((0:Nat):Int)=Builtin.Range.rangeSize lo hi 1:=by rw[rangeSize_one];split <;> omega
  show IsRangeIter _ _ (lo+((0:Nat):Int)*1) ((((hi-lo).toNat:Nat):Int)-((0:Nat):Int)) 1;rw[e1,e2];exact aM _ rfl
 ·have e:b=(s.heap.push { cls:=.type "range", data:=.fields #[.int lo t,.int hi u,.int 1 v] }).objs.size:=by simpa using hb
  subst e;exact I1.fpOk (aP _) (I1.hok.fresh (aP _))
def a8h(ta:TA):TI:=λσ H R=>ta σ H λvs H1=>∃j:Int,vs=[.int j] /\ -(2 ^ 62)<=j/\j<2 ^ 62/\R (Itr 0 j.toNat) H1
theorem asf{a:dI}{ta:TA}{p pos:Pos}(hg:Gl X "range")(hm:X.mg "range"=ZY)(ha:PA X [a] ta)(hs:aO [a] X.env=[(ZW,eval a X.env)]:=by rfl):PI X tg (.Call (.Name "range" p) [a] [] pos) (a8h ta):=by
 intro zv s σ H R I h;refine Call_ (ag0 I hg hm boot_range (iB (thn (ha pos zv s σ H _ I h) λus s1 ⟨vs,H1,I1,r1,q1⟩=>?_) hs rfl))
 obtain⟨j,e,q1,q2,q⟩:=q1;subst e;cases r1 with
 |cons r rr=>
  cases rr;obtain⟨t,rfl⟩:=r;exact call_range_1 (avs I1 (by omega) (by omega) q1 q2 (by simpa using q))
def tFor(wi:TI)(g:TG)(tb:TS):TS:=λD σ H=>wi σ H λJ H1=>∃W:Nat->Nat->St->Hp->Prop,(∃m,W 0 m σ H1)/\∀i m σ H,W i m σ H ->
 (J.stop i H/\D.nx σ H)∨(J.go i H/\∃N:St->Hp->Prop,(∀σ' H',N σ' H'->∃m',m'<m/\W (i+1) m' σ' H')/\∀x H',J.yld i H x H'->g x σ H' λσ2 H2=>tb { D with nx:=N,ct:=N,bk:=D.nx } σ2 H2)
def ak2(fp:List aQ)(h:eE):List (aQ×Obj):=fp.filterMap λb=>(h.get? b).map λo=>(b,o)
def aci{fp:List aQ}{h:eE}{b:aQ}{o:Obj}(hb:b∈fp)(e:h.get? b=ZZ o):(b,o)∈ak2 fp h:=wB.mpr ⟨b,hb,by rw[e];rfl⟩
theorem asp{fp:List aQ}{h:eE}{p:aQ×Obj}(hp:p∈ak2 fp h):p.1∈fp/\h.get? p.1=ZZ p.2:=by
 obtain⟨b,hb,e⟩:=wB.mp hp;cases q:h.get? b with
 |none=>rw[q] at e;cases e
 |some o=>
  rw[q] at e;have e':(b,o)=p:=cN e;subst e';exact⟨hb,q⟩
def Inv.pinned{zv:List (aQ×Obj)}{σ:St}{H:Hp}{s:aJ}{fp:List aQ}(I:Inv X zv σ H s)(hf:∀b∈fp,FpOk X zv H b)(ho:∀b∈fp,∃o,s.heap.get? b=ZZ o/\∀v,o.data≠.cell v):Inv X (zv++ak2 fp s.heap) σ H s :=
 I.pins_of λp hp=>(cU.mp hp).elim (λz=>I.pin p (cX _ z)) λz=>by
  obtain⟨hb,e⟩:=asp z;obtain⟨f0,f1,f2,_⟩:=hf p.1 hb;obtain⟨o,e',d⟩:=ho p.1 hb;rw[e] at e';cases e';exact⟨e,f0,f1,f2,d⟩
def Inv.unpinned{zv pl:List (aQ×Obj)}{σ:St}{H:Hp}{s:aJ}(I:Inv X (zv++pl) σ H s):Inv X zv σ H s:=I.pins_of λp hp=>I.pin p (cX _ (gJ _ hp))
def axj{iter:dI}{body:List gK}{wi:TI}{g:TG}{tb:TS}{pos:Pos}(hp:sI (bL X.prog X.w) X.A X.env X.xe)(hc:X.calm=ZX)(hi:PI X tg iter wi)(hg:PG X tg g)(hb:PSs X body tb)
  (hs:∀x,foldedSetIterable iter X.env x=pure x:=by intro _;rfl):PS X (.For tg iter body [] pos) (tFor wi g tb):=by
 intro zv s σ H D I h;refine wpAny_For (thn (hi zv s σ H _ I h) λv s1 h1=>thn h1 λitv s2 h2=>?_) hs
 obtain⟨it,fp,tn,J,H2,e,I2,T,st2,f2,W,⟨m0,w0⟩,turn⟩:=h2;subst e;have stat:∀{H':Hp},(∀b∈fp,H' b=ZY)->∀b∈fp,FpOk X zv H' b:=λhn b hb=>⟨hn b hb,(f2 b hb).2⟩
 refine codeAny_forLoop_any (λn s'=>∃i σ' H',Inv X zv σ' H' s'/\tn i s'.heap/\(∀b∈fp,H' b=ZY)/\W i n σ' H') ?_ m0 ⟨0,σ,H2,I2,st2,λb hb=>(f2 b hb).1,w0⟩
 rintro n s3 ⟨i,σ3,H3,I3,st3,fr3,w3⟩
 rcases turn i n σ3 H3 w3 with⟨stop,qn⟩ |⟨go,N,hN,step⟩
 ·refine wpAny_passesOwn hp (thn (T.done X rfl rfl rfl hc i zv s3 σ3 H3 X.xe I3 (stat fr3) st3 stop) λr s4 ⟨hr,I4⟩=>?_)
  subst hr;exact wpAny_execs_nil ⟨σ3,H3,I4,qn⟩
 ·refine wpAny_passesOwn hp (thn (T.item X rfl rfl rfl hc i zv s3 σ3 H3 X.xe I3 (stat fr3) st3 go) λr s4 ⟨u,hr,h4⟩=>?_)
  subst hr;refine wpAny_passesOwn hp (thn h4 λ_ s5 ⟨x,H5,I5,r5,y5,st5,fr5⟩=>?_)
  have I5':=I5.pinned (stat fr5) (T.obj _ _ st5);refine wpAny_passesOwn hp (thn (hg _ s5 σ3 H5 x u _ I5' r5 (step x H5 y5)) λ_ s6 ⟨σ6,H6,I6,q6⟩=>?_)
  refine wpAny_passesOwn hp (thn (hb _ s6 σ6 H6 _ I6 q6) λf s7 q7=>?_)
  have again:∀{σ7:St} {H7:Hp},Inv X (zv++ak2 fp s5.heap) σ7 H7 s7->N σ7 H7->∃m,m<n/\∃i σ' H',Inv X zv σ' H' s7/\tn i s7.heap/\(∀b∈fp,H' b=ZY)/\W i m σ' H':=λ{σ7 H7} I7 n7=>by
   obtain⟨m',hm,w7⟩:=hN σ7 H7 n7;refine⟨m',hm,i+1,σ7,H7,I7.unpinned,T.keep _ _ _ st5 λb hb o e=>(I7.pin (b,o) (cX _ (cX _ (aci hb e)))).1,λb hb=>?_,w7⟩
   obtain⟨o,e,d⟩:=T.obj _ _ st5 b hb;exact(I7.pin (b,o) (cX _ (cX _ (aci hb e)))).2.1
  cases f with
  |next=>obtain⟨σ7,H7,I7,n7⟩:=q7;exact again I7 n7
  |cont=>obtain⟨σ7,H7,I7,n7⟩:=q7;exact again I7 n7
  |brk=>obtain⟨σ7,H7,I7,q7⟩:=q7;exact⟨σ7,H7,I7.unpinned,q7⟩
  |ret v=>obtain⟨x7,σ7,H7,I7,r7,q7⟩:=q7;exact⟨x7,σ7,H7,I7.unpinned,r7,q7⟩
end
abbrev R2:=V->V->Hp->VK->Prop
def OpR(X:Cx)(f:aG->aG->Sem aG)(r:R2):Prop :=
 ∀(zv:List (aQ×Obj)) (s:aJ) (σ:St) (H:Hp) (x y:V) (v u:aG) (Q:VK),Inv X zv σ H s->RelV x v->RelV y u->r x y H Q ->
  bG (bL X.prog X.w) X.A (f v u) (EP X zv σ Q) X.xe s
def UnR(X:Cx)(f:aG->Sem aG)(r:V->Hp->VK->Prop):Prop :=
 ∀(zv:List (aQ×Obj)) (s:aJ) (σ:St) (H:Hp) (x:V) (v:aG) (Q:VK),Inv X zv σ H s->RelV x v->r x H Q ->
  bG (bL X.prog X.w) X.A (f v) (EP X zv σ Q) X.xe s
def abi(X:Cx)(f:aG)(r:List V->Hp->VK->Prop):Prop :=
 ∀(zv:List (aQ×Obj)) (s:aJ) (σ:St) (H:Hp) (xs:List V) (us:List aG) (Q:VK),Inv X zv σ H s->Vals xs us->r xs H Q ->
  bG (bL X.prog X.w) X.A (call f us) (EP X zv σ Q) X.xe s
def tOp(r:R2)(ta tb:TE):TE:=λσ H Q=>ta σ H λx H1=>tb σ H1 λy H2=>r x y H2 Q
def tUn(r:V->Hp->VK->Prop)(ta:TE):TE:=λσ H Q=>ta σ H λx H1=>r x H1 Q
def rI(C:Int->Int->Prop)(g:Int->Int->V):R2:=λx y H Q=>∃i j,x=.int i/\y=.int j/\C i j/\Q (g i j) H
def rI0(g:Int->Int->V):R2:=λx y H Q=>∃i j,x=.int i/\y=.int j/\Q (g i j) H
def rU(g:Int->V):V->Hp->VK->Prop:=λx H Q=>∃i,x=.int i/\Q (g i) H
section
variable{X:Cx}{a b c:dI}{ta tb tc:TE}{pos:Pos}
def binT(ha:PE X a ta)(hb:PE X b tb){zv:List (aQ×Obj)}{s:aJ}{σ:St}{H:Hp}{R:V->V->Hp->Prop}(I:Inv X zv σ H s)
  (h:ta σ H λx H1=>tb σ H1 λy H2=>R x y H2) {Q:aG->aJ->Prop} {f:aG->aG->Sem aG}
  (hf:∀v u s2 x y H2,Inv X zv σ H2 s2->RelV x v->RelV y u->R x y H2->bG (bL X.prog X.w) X.A (f v u) Q X.xe s2) :
  bG (bL X.prog X.w) X.A (eval a X.env) (λv s₁=>bG (bL X.prog X.w) X.A (eval b X.env) (λu s₂=>bG (bL X.prog X.w) X.A (f v u) Q X.xe s₂) X.xe s₁) X.xe s:=by
 refine thn (ha zv s σ H _ I h) λv s1 ⟨x,H1,I1,r1,q1⟩=>?_
 refine thn (hb zv s1 σ H1 _ I1 q1) λu s2 ⟨y,H2,I2,r2,q2⟩=>?_
 exact hf v u s2 x y H2 I2 r1 r2 q2
def a7j{op:Operator}{r:R2}(ho:OpR X (fY op) r)(ha:PE X a ta)(hb:PE X b tb):PE X (.BinOp a op b pos) (tOp r ta tb):=by
 intro zv s σ H Q I h;exact wpAny_BinOp (binT ha hb I h λv u s2 x y H2 I2 rx ry q=>ho zv s2 σ H2 x y v u Q I2 rx ry q)
def a7i{op:UnaryOp}{r:V->Hp->VK->Prop}(ho:UnR X (unaryOp op) r)(ha:PE X a ta):PE X (.UnaryOp op a pos) (tUn r ta):=by
 intro zv s σ H Q I h;exact UnaryOp_ (thn (ha zv s σ H _ I h) λv s1 ⟨x,H1,I1,r1,q1⟩=>ho zv s1 σ H1 x v Q I1 r1 q1)
def opI{f:aG->aG->Sem aG}{C:Int->Int->Prop}{g:Int->Int->Int}
  (rule:∀(i j:Int) (t u:Tok) (s:aJ) (Q:aG->aJ->Prop) (E:aG->aJ->Prop),C i j->Q (.int (g i j) s.toks) { s with toks:=s.toks+1 }->bG (bL X.prog X.w) X.A (f (.int i t) (.int j u)) Q E s) :
  OpR X f (rI C λi j=>.int (g i j)):=by
 intro zv s σ H x y v u Q I rx ry h;obtain⟨i,j,rfl,rfl,hc,q⟩:=h;obtain⟨t,rfl⟩:=rx;obtain⟨t',rfl⟩:=ry;exact rule i j t t' s _ _ hc ⟨.int (g i j),H,I.tok _,⟨_,rfl⟩,q⟩
def opI0{f:aG->aG->Sem aG}{g:Int->Int->Int}
  (rule:∀(i j:Int) (t u:Tok) (s:aJ) (Q:aG->aJ->Prop) (E:aG->aJ->Prop),Q (.int (g i j) s.toks) { s with toks:=s.toks+1 }->bG (bL X.prog X.w) X.A (f (.int i t) (.int j u)) Q E s) :
  OpR X f (rI0 λi j=>.int (g i j)):=by
 intro zv s σ H x y v u Q I rx ry h;obtain⟨i,j,rfl,rfl,q⟩:=h;obtain⟨t,rfl⟩:=rx;obtain⟨t',rfl⟩:=ry;exact rule i j t t' s _ _ ⟨.int (g i j),H,I.tok _,⟨_,rfl⟩,q⟩
def opB0{f:aG->aG->Sem aG}{g:Int->Int->Bool}
  (rule:∀(i j:Int) (t u:Tok) (s:aJ) (Q:aG->aJ->Prop) (E:aG->aJ->Prop),Q (.bool (g i j)) s->bG (bL X.prog X.w) X.A (f (.int i t) (.int j u)) Q E s) :
  OpR X f (rI0 λi j=>.bl (g i j)):=by
 intro zv s σ H x y v u Q I rx ry h;obtain⟨i,j,rfl,rfl,q⟩:=h;obtain⟨t,rfl⟩:=rx;obtain⟨t',rfl⟩:=ry;exact rule i j t t' s _ _ ⟨.bl (g i j),H,I,rfl,q⟩
def CPow(i j:Int):Prop:=0<=j/\j<=1000000/\i.natAbs<2 ^ 64
def CMul(i j:Int):Prop:=(-(2 ^ 64)<i/\i<2 ^ 64)∨(-(2 ^ 64)<j/\j<2 ^ 64)
def CMul.ok{i j:Int}(h:CMul i j):IntMulOk i j:=by
 rcases h with⟨h1,h2⟩ |⟨h1,h2⟩
 ·exact .of_left (intBits_le_64 h1 h2)
 ·exact .of_right (intBits_le_64 h1 h2)
def a3c:OpR X (fY .Add) (rI0 λi j=>.int (i+j)):=opI0 λ_ _ _ _ _ _ _ q=>add_int q
def a2w:OpR X (fY .Sub) (rI0 λi j=>.int (i-j)):=opI0 λ_ _ _ _ _ _ _ q=>sub_int q
def a2z:OpR X (fY .Mult) (rI CMul λi j=>.int (i*j)):=opI λ_ _ _ _ _ _ _ hc q=>mul_int q hc.ok
def a3a:OpR X (fY .Mod) (rI (λ_ j=>0<j) λi j=>.int (i % j)):=opI λi j _ _ _ _ _ hc q=>by
 have h1:(0:Int)<j:=hc;exact mod_int' (by omega) (by rw[tD i (by omega)];exact q)
def a2y:OpR X (fY .Pow) (rI CPow λi j=>.int (i ^ j.toNat)):=opI λ_ _ _ _ _ _ _ hc q=>pow_int_small hc.1 hc.2.1 hc.2.2 q
def unI{f:aG->Sem aG}{g:Int->Int}
  (rule:∀(i:Int) (t:Tok) (s:aJ) (Q:aG->aJ->Prop) (E:aG->aJ->Prop),Q (.int (g i) s.toks) { s with toks:=s.toks+1 }->bG (bL X.prog X.w) X.A (f (.int i t)) Q E s) :
  UnR X f (rU λi=>.int (g i)):=by
 intro zv s σ H x v Q I rx h;obtain⟨i,rfl,q⟩:=h;obtain⟨t,rfl⟩:=rx;exact rule i t s _ _ ⟨.int (g i),H,I.tok _,⟨_,rfl⟩,q⟩
def a1g:UnR X (unaryOp .USub) (rU λi=>.int (-i)):=unI λ_ _ _ _ _ q=>neg_int q
end
section
variable{X:Cx}{a b c:dI}{ta tb tc:TE}{pos:Pos}
def a7m:OpR X (fP .Lt) (rI0 λi j=>.bl (decide (i<j))):=opB0 λ_ _ _ _ _ _ _ q=>lt_int q
def av4:OpR X (fP .LtE) (rI0 λi j=>.bl (decide (i<=j))):=opB0 λ_ _ _ _ _ _ _ q=>le_int q
def a7n:OpR X (fP .Gt) (rI0 λi j=>.bl (decide (j<i))):=opB0 λ_ _ _ _ _ _ _ q=>gt_int q
def a7o:OpR X (fP .GtE) (rI0 λi j=>.bl (decide (j<=i))):=opB0 λ_ _ _ _ _ _ _ q=>ge_int q
noncomputable def je(b:dI){op:xO}(h:op≠.In:=by decide)(h2:op≠.NotIn:=by decide):behindInMarks op b=ZW:=by
 have e1:(op==CmpOp.In)=ZW:=by cases op <;> first |rfl |exact absurd rfl h
 have e2:(op==CmpOp.NotIn)=ZW:=by cases op <;> first |rfl |exact absurd rfl h2
 cases b <;> simp[behindInMarks,e1,e2]
def azk{op:xO}{r:R2}(ho:OpR X (fP op) r)(ha:PE X a ta)(hb:PE X b tb)(hm:behindInMarks op b=ZW):PE X (.Compare a [op] [b] pos) (tOp r ta tb):=by
 intro zv s σ H Q I h;exact wpAny_Compare1 (binT ha hb I h λv u s2 x y H2 I2 rx ry q=>ho zv s2 σ H2 x y v u Q I2 rx ry q) hm
def a6u(t:TE):TT:=λσ H Q=>t σ H λx H'=>∃k,x=.bl k/\Q k H'
def ay3{op:xO}{r:R2}(ho:OpR X (fP op) r)(ha:PE X a ta)(hb:PE X b tb)(hm:behindInMarks op b=ZW):PT X (.Compare a [op] [b] pos) (a6u (tOp r ta tb)):=by
 intro zv s σ H Q I h;refine wpAny_isTrue_Compare1 (thn (ha zv s σ H _ I h) λv s1 ⟨x,H1,I1,r1,q1⟩=>thn (hb zv s1 σ H1 _ I1 q1) λu s2 ⟨y,H2,I2,r2,q2⟩=>
  thn (ho zv s2 σ H2 x y v u _ I2 r1 r2 q2) λc s3 ⟨z,H3,I3,r3,k,e,q3⟩=>?_) hm
 subst e;cases r3;exact wpAny_truthy_bool ⟨H3,I3,q3⟩
def aw9(r r':R2)(ta tb tc:TE):TE:=λσ H Q=>ta σ H λx H1=>tb σ H1 λy H2=>r x y H2 λz H3=>∃k,z=.bl k /\
 (if k=ZX then tc σ H3 λw' H4=>r' y w' H4 Q else Q (.bl ZW) H3)
theorem avz{op op':xO}{r r':R2}(ho:OpR X (fP op) r)(ho':OpR X (fP op') r')(ha:PE X a ta)(hb:PE X b tb)(hc:PE X c tc)
  (hm:lastMarks [op,op'] [b,c]=ZW:=by with_unfolding_all rfl):PE X (.Compare a [op,op'] [b,c] pos) (aw9 r r' ta tb tc):=by
 intro zv s σ H Q I h;refine Compare_chain (thn (ha zv s σ H _ I h) λv s1 ⟨x,H1,I1,r1,q1⟩=>chain_link (thn (hb zv s1 σ H1 _ I1 q1) λu s2 ⟨y,H2,I2,r2,q2⟩=>
  thn (ho zv s2 σ H2 x y v u _ I2 r1 r2 q2) λd s3 ⟨z,H3,I3,r3,k,e,q3⟩=>?_)) hm
 subst e;cases r3;refine wpAny_truthy_bool ?_;cases k with
 |false=>exact ite_ff ⟨.bl ZW,H3,I3,rfl,q3⟩
 |true=>exact ite_tt (chain_last (thn (hc zv s3 σ H3 _ I3 q3) λw' s4 ⟨z',H4,I4,r4,q4⟩=>ho' zv s4 σ H4 y z' u w' Q I4 r2 r4 q4))
def alo:(cJ:Nat)<2 ^ 63:=by rw[gF];decide
def ap2:OpR X (fY .Add) (λx y H Q=>∃i j,x=.str i/\y=.str j/\i.length+j.length<=cJ/\Q (.str (i++j)) H):=by
 intro zv s σ H x y v u Q I rx ry h;obtain⟨i,j,rfl,rfl,hz,q⟩:=h;obtain⟨t,rfl⟩:=rx;obtain⟨t',rfl⟩:=ry;exact add_str (λt' tk=>⟨.str (i++j),H,I.tok _,⟨_,rfl⟩,q⟩) hz
theorem vals1{x:V}{us:List aG}(r:Vals [x] us):∃u,us=[u]/\RelV x u:=by
 cases r with
 |cons r1 r2=>cases r2;exact⟨_,rfl,r1⟩
theorem vals2{x y:V}{us:List aG}(r:Vals [x,y] us):∃u w',us=[u,w']/\RelV x u/\RelV y w':=by
 cases r with
 |cons r1 r2=>
  cases r2 with
  |cons r3 r4=>cases r4;exact⟨_,_,rfl,r1,r3⟩
def aup(hc:X.calm=ZX):abi X (.builtin "max") (λxs H Q=>∃i j,xs=[.int i,.int j]/\Q (.int (if j > i then j else i)) H):=by
 intro zv s σ H xs us Q I r h;obtain⟨i,j,rfl,q⟩:=h;obtain⟨u,w',rfl,⟨t,rfl⟩,⟨t',rfl⟩⟩:=vals2 r;refine max_two_ints (I.ok.hd hc) λh' tk k=>⟨_,H,I.kept k,?_,q⟩
 by_cases hj:j > i
 ·rw[if_pos hj,if_pos hj];exact⟨_,rfl⟩
 ·rw[if_neg hj,if_neg hj];exact⟨_,rfl⟩
def amd:abi X (.type "int") (λxs H Q=>(∃i,xs=[.int i]/\Q (.int i) H)∨∃k,xs=[.bl k]/\Q (.int (if k then 1 else 0)) H):=by
 intro zv s σ H xs us Q I r h;rcases h with⟨i,rfl,q⟩ |⟨k,rfl,q⟩
 ·obtain⟨u,rfl,t,rfl⟩:=vals1 r;exact call_int_int ⟨.int i,H,I,⟨_,rfl⟩,q⟩
 ·obtain⟨u,rfl,r1⟩:=vals1 r;cases r1;exact call_int_bool ⟨.int (if k then 1 else 0),H,I.tok _,⟨_,rfl⟩,q⟩
end
structure ObjM (h:eE) (x dx C:aQ) (mA:Str->Option aG):Prop where
 obj:h.get? x=ZZ (iV C dx)
 ns:h.Ns1 dx mA
 ne:dx≠x
def aln{h:eE}{dx:aQ}{mA:Str->Option aG}(n:h.Ns1 dx mA):∃od,h.get? dx=ZZ od/\∀name,pX name od=ZZ (mA name):=by
 obtain⟨o,es,ep,ho,hd,hk,_,hm⟩:=n;refine⟨o,ho,λname=>?_⟩
 have e:=hm name;unfold nsFind findBy at e;rw[<-wH] at e;unfold pX;rw[hd];dsimp only;split
 ·rename_i y q;rw[q] at e;exact congrArg ZZ e
 ·rename_i q;rw[q] at e;have a:es.toList.any (·.refKey)=ZW:=by
   rw[List.any_eq_false];intro y hy;obtain⟨z,t,hkey⟩:=hk y (Array.mem_toList_iff.mp hy);simp[DictEntry.refKey,hkey]
  have a':¬es.toList.any (·.refKey)=ZX:=by rw[a];exact cY
  rw[if_neg a'];exact congrArg ZZ e
def ObjM.look{h:eE}{x dx C:aQ}{mA:Str->Option aG}(I:ObjM h x dx C mA):∃od,gQ h x (iV C dx) C (ZZ od)/\∀name,pX name od=ZZ (mA name) :=
 let ⟨od,ho,hl⟩:=aln I.ns
 ⟨od,⟨I.obj,rfl,rfl,ho⟩,hl⟩
section
variable{prog:bT}{w:dB}{A:cQ}{E:aG->aJ->Prop}{s:aJ}{K:Fg9}{x dx C f:aQ}{mA:Str->Option aG}{name:Str}{v:aG}
def a0d{expr:Bool}{Q:aG->aJ->Prop}(X:K.In s.heap)(I:ObjM s.heap x dx C mA)(hg:lX K C name=ZX)(hh:gR K C=ZX)
  (ha:gY K (.ref C) name=ZZ ZY) (hv:mA name=ZZ v) (hv':xV v=ZX) (h:Q v { s with toks:=s.toks+1 }) :
  bG (bL prog w) A (getAttr (.ref x) name expr) Q E s:=by
 obtain⟨od,J,hl⟩:=I.look;exact PySem.W.get_value X J (qD hg).1 (vK hh ha rfl (by rw[hl,hv])) hv' h
def awp{pl:Sem Bool}{Q:aG×List aG->aJ->Prop}(X:K.In s.heap)(I:ObjM s.heap x dx C mA)(hg:lX K C name=ZX)
  (hf:gY K (.ref C) name=ZZ (ZZ (.ref f))) (ht:lV K (.ref f)=ZX) (hv:mA name=ZY) (h:Q (.ref f,[.ref x]) s) :
  bG (bL prog w) A (getMethod (.ref x) name pl) Q E s:=by
 obtain⟨od,J,hl⟩:=I.look;exact PySem.W.method_fn X J (qD hg).1 (qD hg).2 hf (beq_iff_eq.mp ht) (by show(pX name od).map (·.isSome)=ZZ ZW;rw[hl,hv];rfl) h
def ayx{ns:List Str}{Q:Unit->aJ->Prop}(X:K.In s.heap)(I:ObjM s.heap x dx C mA)
  (hs:gY K (.ref C) "__setattr__"=ZZ (ZZ (.builtin "object.__setattr__"))) (hp:qY K C=ZX) (ht:iU K C name=ZZ ZY) (hh:gR K C=ZX)
  (hw:uM mA ns) (hsz:ns.length<=cJ)
  (h:∀h',ObjM h' x dx C (λy=>if y=name then ZZ v else mA y)->cP dx s.heap h'->Q () { s with heap:=h',toks:=s.toks+2 }) :
  bG (bL prog w) A (setAttr (.ref x) name v) Q E s:=by
 obtain⟨od,J,hl⟩:=I.look;refine wM X J hs (PySem.W.osa_open (s:={ s with toks:=s.toks+1 }) (r:=ZY) X J hp ht λb=>?_)
 obtain⟨cd,hc,hd'⟩:=jD hh;have hx:s.heap.get? x=ZZ ⟨.ref C,ZZ dx,.plain,#[]⟩:=I.obj;refine aA (aH (aA (aA (wpAny_loadPart hx (aA (wA (s:={ s with toks:=s.toks+1 }) (qF X hc) ?_))))))
 rw[hd'];refine aH (a:=ZZ dx) (aA (aH (aA ?_)));refine wpAny_nsSet1 (s:={ s with toks:=s.toks+1 }) I.ns λh' hn2 hs2=>?_
 obtain⟨oD,esD,epD,hoD,hdD,hcD⟩:=hn2.count (PySem.Within.cons name v hw);refine aA (wpAny_lookBehind hoD (by rw[hdD];exact pastItsLine_dict (cW hcD (by rw[bF];omega))) ?_)
 exact aH (h _ ⟨(hs2.2 _ (gG I.ne)).trans I.obj,hn2,I.ne⟩ hs2)
def awc{R:Result->aJ->Prop}{vs:List aG}{kw:List (Str×Value)}(X:K.In s.heap)(hm:pF K C=ZX)
  (hi:gY K (.ref C) "__init__"=ZZ (ZZ (.ref f))) (hf:nM K (.ref f)=ZZ (.type "function"))
  (h:mJ (bL prog w) (A.under (.builtin "type.__call__" ⟨.ref C::vs,kw⟩)) (.call (.ref f) ⟨.ref (s.heap.objs.size+1)::vs,kw⟩) (PySem.W.InitBack (s.heap.objs.size+1) R)
   { s with heap:=(s.heap.push gU).push (iV C s.heap.objs.size) }) :
  mJ (bL prog w) A (.call (.ref C) ⟨vs,kw⟩) R s:=by
 obtain⟨hh,g,d,t,os⟩:=s;exact PySem.W.make_core (PySem.W.makes_of X hm) (mC X hi) (λself=>PySem.W.bind_fn X self hf) (.inl rfl) h
end
def putF(f:Str)(v:V):List (Str×V)->List (Str×V)
 | []=>[(f,v)]
 | (g,x)::r=>if g=f then (g,v)::r else (g,x)::putF f v r
theorem agv(f g:Str)(v:V):∀fs:List (Str×V),(putF f v fs).lookup g=if g=f then ZZ v else fs.lookup g
 | []=>by
  show bK g [(f,v)]=_
  by_cases h:g=f
  ·have hb:(g==f)=ZX:=beq_iff_eq.mpr h;simp only[bK,hb,if_pos h]
  ·have hb:(g==f)=ZW:=beq_eq_false_iff_ne.mpr h;simp only[bK,hb,if_neg h]
 | (k,x)::r=>by
  have ih:=agv f g v r;rw[show putF f v ((k,x)::r)=(if k=f then (k,v)::r else (k,x)::putF f v r) from rfl]
  by_cases hk:k=f
  ·rw[if_pos hk]
   by_cases h:g=k
   ·have hb:(g==k)=ZX:=beq_iff_eq.mpr h;simp only[bK,hb,if_pos (h.trans hk)]
   ·have hb:(g==k)=ZW:=beq_eq_false_iff_ne.mpr h;simp only[bK,hb,if_neg (λe:g=f=>h (e.trans hk.symm))]
  ·rw[if_neg hk]
   by_cases h:g=k
   ·have hb:(g==k)=ZX:=beq_iff_eq.mpr h;simp only[bK,hb,if_neg (λe:g=f=>hk (h.symm.trans e))]
   ·have hb:(g==k)=ZW:=beq_eq_false_iff_ne.mpr h;simp only[bK,hb];exact ih
theorem ag1(f:Str)(v:V):∀fs:List (Str×V),f∈(putF f v fs).map (·.1)/\∀g,g∈fs.map (·.1)->g∈(putF f v fs).map (·.1)
 | []=>⟨by simp[putF],λg h=>by simp at h⟩
 | (k,x)::r=>by
  obtain⟨i1,i2⟩:=ag1 f v r;rw[show putF f v ((k,x)::r)=(if k=f then (k,v)::r else (k,x)::putF f v r) from rfl]
  by_cases hk:k=f
  ·rw[if_pos hk];subst hk;exact⟨by simp,λg h=>by simpa using h⟩
  ·rw[if_neg hk];refine⟨?_,λg h=>?_⟩
   ·rw[bC];exact aR _ i1
   ·rw[bC] at h ⊢
    rcases bA.mp h with e |e
    ·exact bA.mpr (.inl e)
    ·exact aR _ (i2 g e)
theorem agx(f:Str)(v:V):∀fs:List (Str×V),(putF f v fs).length<=fs.length+1
 | []=>by simp[putF]
 | (k,x)::r=>by
  have ih:=agx f v r;rw[show putF f v ((k,x)::r)=(if k=f then (k,v)::r else (k,x)::putF f v r) from rfl]
  by_cases hk:k=f
  ·rw[if_pos hk,bF,bF];omega
  ·rw[if_neg hk,bF,bF];omega
theorem va{v:V}{o:Option aG}(r:RelO (ZZ v) o):∃u,o=ZZ u/\RelV v u:=by
 cases o with
 |none=>exact(show False from r).elim
 |some u=>exact⟨u,rfl,r⟩
theorem ua{o:Option aG}(r:RelO ZY o):o=ZY:=by
 cases o with
 |none=>rfl
 |some u=>exact(show False from r).elim
theorem atf{v:V}{u:aG}(r:RelV v u):xV u=ZX:=by
 cases v with
 |non=>cases(show u=cM from r);rfl
 |bl b=>cases(show u=pU b from r);rfl
 |int i=>obtain⟨t,e⟩:=(show ∃t,u=mK i t from r);cases e;rfl
 |str x=>obtain⟨t,e⟩:=(show ∃t,u=rY x t from r);cases e;rfl
 |byt b=>obtain⟨t,e⟩:=(show ∃t,u=vH b t from r);cases e;rfl
 |flt b=>obtain⟨t,e⟩:=(show ∃t,u=rZ b t from r);cases e;rfl
 |ref a=>cases(show u=cH a from r);rfl
 |ty n=>cases(show u=jG n from r);rfl
section
variable{P:bT}{w:dB}{H H':Hp}{h h':eE}{a C dx:aQ}{fs fs':List (Str×V)}
def ajw(hok:HOk P w H h)(e:H a=ZZ (.ins C dx fs)):∃mA,ObjM h a dx C mA/\(∀f,RelO (fs.lookup f) (mA f))/\uM mA (fs.map (·.1))/\fs.length<=1000/\H dx=ZZ (.own a):=by
 obtain⟨d,z,ne,ob,mA,n,r,q⟩:=(show xf P w H h a (.ins C dx fs) from hok a _ e)
 exact⟨mA,⟨ob,n,ne⟩,r,q,z,d⟩
end
structure Cls (K:Fg9) (C:aQ):Prop where
 pg:lX K C Str.empty=ZX
 hd:gR K C=ZX
 po:qY K C=ZX
 sa:gY K (.ref C) "__setattr__"=ZZ (ZZ (.builtin "object.__setattr__"))
noncomputable def Cls.get{K:Fg9}{C:aQ}(c:Cls K C)(f:Str):lX K C f=ZX:=c.pg
def acz(K:Fg9)(C:aQ)(f:Str):Prop:=gY K (.ref C) f=ZZ ZY
def acz.taker{K:Fg9}{C:aQ}{f:Str}(n:acz K C f):iU K C f=ZZ ZY:=by
 unfold iU;rw[show gY K (.ref C) f=ZZ ZY from n]
 rfl
structure Con (K:Fg9) (C:aQ) (f:Str) (v:V) (u:aG):Prop where
 at_:gY K (.ref C) f=ZZ (ZZ u)
 rel:RelV v u
 get:lQ K u "__get__"=ZZ ZY
 cp:PySem.W.copiedNames.contains f=ZW
structure Meth (K:Fg9) (C:aQ) (m:Str) (f:aQ):Prop where
 at_:gY K (.ref C) m=ZZ (ZZ (.ref f))
 fn:lV K (.ref f)=ZX
 kp:kW K (.ref f)=ZX
section
variable{X:Cx}{zv:List (aQ×Obj)}{σ:St}{H:Hp}{s:aJ}{a C dx:aQ}{fs:List (Str×V)}{f:Str}{v:V}{A:cQ}{E:aG->aJ->Prop}
def aqj{b:Bool}{Q:aG->aJ->Prop}(I:Inv X zv σ H s)(e:H a=ZZ (.ins C dx fs))(c:Cls X.K C)(n:acz X.K C f)(l:fs.lookup f=ZZ v)
  (h:∀u s',Inv X zv σ H s'->RelV v u->Q u s'):bG (bL X.prog X.w) A (getAttr (.ref a) f b) Q E s:=by
 obtain⟨mA,O,r,_,_,_⟩:=ajw I.hok e;obtain⟨u,hu,ru⟩:=va (v:=v) (o:=mA f) (by rw[<-l];exact r f)
 exact a0d I.kIn O (c.get f) c.hd n hu (atf ru) (h u _ (I.tok _) ru)
def aqi{m:Str}{g:aQ}{pl:Sem Bool}{Q:aG×List aG->aJ->Prop}(I:Inv X zv σ H s)(e:H a=ZZ (.ins C dx fs))(c:Cls X.K C)(k:Meth X.K C m g)(l:fs.lookup m=ZY)
  (h:Q (.ref g,[.ref a]) s):bG (bL X.prog X.w) A (getMethod (.ref a) m pl) Q E s:=by
 obtain⟨mA,O,r,_,_,_⟩:=ajw I.hok e;have hn:mA m=ZY:=ua (by rw[<-l];exact r m)
 exact awp I.kIn O (c.get m) k.at_ k.fn hn h
def apu{y:V}{u:aG}{Q:Unit->aJ->Prop}(I:Inv X zv σ H s)(e:H a=ZZ (.ins C dx fs))(c:Cls X.K C)(n:acz X.K C f)(hl:fs.length<1000)(ry:RelV y u)
  (h:∀s',Inv X zv σ (upd H a (.ins C dx (putF f y fs))) s'->Q () s'):bG (bL X.prog X.w) A (setAttr (.ref a) f u) Q E s:=by
 obtain⟨mA,O,r,wi,_,ho⟩:=ajw I.hok e;have hz:(fs.map (·.1)).length<=cJ:=by rw[aL,gF];omega
 refine ayx I.kIn O c.sa c.po n.taker c.hd wi hz λh' O' sb=>h _ ?_
 have hd:∃o,h'.get? dx=ZZ o:=let ⟨o,_,_,e',_⟩:=O'.ns;⟨o,e'⟩
 refine I.write (x:=a) (e:=dx) (by rw[e];exact nU) (.inr ho) (λb q hb z=>(sb.2 b hb).trans z) hd ?_
 refine⟨by rw[b7 O.ne];exact ho,?_,O.ne,O'.obj,_,O'.ns,λg=>?_,λg hg=>?_⟩
 ·have:=agx f y fs;omega
 ·show RelO ((putF f y fs).lookup g) (if g=f then ZZ u else mA g)
  rw[agv]
  by_cases q:g=f
  ·rw[if_pos q,if_pos q];exact ry
  ·rw[if_neg q,if_neg q];exact r g
 ·by_cases q:g=f
  ·rw[q];exact(ag1 f y fs).1
  ·refine(ag1 f y fs).2 g (wi g λz=>hg ?_)
   show(if g=f then ZZ u else mA g)=ZY
   rw[if_neg q];exact z
def Inv.made(I:Inv X zv σ H s):Inv X zv σ (upd (upd H s.heap.objs.size (.own (s.heap.objs.size+1))) (s.heap.objs.size+1) (.ins C s.heap.objs.size []))
  { s with heap:=(s.heap.push gU).push (iV C s.heap.objs.size) }:=by
 have e1:(s.heap.push gU).get? s.heap.objs.size=ZZ gU:=aM s.heap rfl;have e2:((s.heap.push gU).push (iV C s.heap.objs.size)).get? (s.heap.objs.size+1)=ZZ (iV C s.heap.objs.size):=by
  have:=aM (s.heap.push gU) (o:=iV C s.heap.objs.size) rfl;rwa[bU] at this
 have e3:(s.heap.push gU).Ns s.heap.objs.size (λ_=>ZY):=⟨PySem.W.emptyDict,#[],_,e1,rfl,(λe he=>absurd he (by simp)),λ_=>rfl⟩
 have I1:=I.laid (a:=s.heap.objs.size) (o:=.own (s.heap.objs.size+1)) (h':=s.heap.push gU) (t':=s.toks) (λb u q=>aB _ q) (aP _) ⟨_,e1⟩
 refine I1.laid (a:=s.heap.objs.size+1) (o:=.ins C s.heap.objs.size []) (t':=s.toks) (λb u q=>aB _ q) (nD (bU _ _)) ?_
 have ne:s.heap.objs.size≠s.heap.objs.size+1:=bI (jE _);refine⟨by rw[b7 ne,gk],dN _,ne,e2,λ_=>ZY,(xJ e3).at λo q=>aB _ q,λ_=>nU,λy hy=>absurd rfl hy⟩
def auy{prog:bT}{w:dB}{env:Env}{e:dI}{f:Str}{pos:Pos}{s:aJ}{Q:aG->aJ->Prop}(hb:fQ e f env (eval e env)=eval e env)
  (h:bG (bL prog w) A (eval e env) (λo s₁=>bG (bL prog w) A (getAttr o f ZX) Q E s₁) E s):bG (bL prog w) A (eval (.Attribute e f pos) env) Q E s :=
 Attribute_any_ h (by rw[arm_eval_Attribute,hb])
end
def tFld(K:Fg9)(ta:TE)(f:Str):TE:=λσ H Q=>ta σ H λx H1=>∃a C dx fs v,x=.ref a/\H1 a=ZZ (.ins C dx fs)/\Cls K C/\acz K C f/\fs.lookup f=ZZ v/\Q v H1
def sFld(K:Fg9)(ta tv:TE)(f:Str):TS:=λD σ H=>tv σ H λy H1=>ta σ H1 λx H2=>∃a C dx fs,x=.ref a/\H2 a=ZZ (.ins C dx fs)/\Cls K C/\acz K C f/\fs.length<1000 /\
 D.nx σ (upd H2 a (.ins C dx (putF f y fs)))
section
variable{X:Cx}{o e value:dI}{f:Str}{pos pos' tpos:Pos}{ta tv:TE}
def a2u(he:PE X e ta)(hb:fQ e f X.env (eval e X.env)=eval e X.env):PE X (.Attribute e f pos) (tFld X.K ta f):=by
 intro zv s σ H Q I h;refine auy hb (thn (he zv s σ H _ I h) λu s1 ⟨x,H1,I1,rx,a,C,dx,fs,v,ex,ea,c,n,l,q⟩=>?_)
 subst ex;obtain rfl:u=cH a:=rx;exact aqj I1 ea c n l λu' s2 I2 ru=>⟨v,H1,I2,ru,q⟩
def a2h(ha:PE X o ta)(hv:PE X value tv)(hs:iR value (ZZ (.Attribute o f pos')) pos.line X.env=pure ZW):PS X (.Assign [.Attribute o f pos'] value pos) (sFld X.K ta tv f):=by
 intro zv s σ H D I h;refine plainObj_wpAny_Assign_Attribute (thn (hv zv s σ H _ I h) λu s1 ⟨y,H1,I1,ry,q⟩=>thn (ha zv s1 σ H1 _ I1 q) λov s2 ⟨x,H2,I2,rx,a,C,dx,fs,ex,ea,c,n,l,q2⟩=>?_) hs
 subst ex;obtain rfl:ov=cH a:=rx;exact apu I2 ea c n l ry λs3 I3=>⟨σ,_,I3,q2⟩
end
section
variable{X:Cx}{zv:List (aQ×Obj)}{σ:St}{H:Hp}{s:aJ}{A:cQ}{E:aG->aJ->Prop}{Q:aG->aJ->Prop}{c:aG}{b:Bool}
inductive TyOf (K:Fg9) (H:Hp):V->aG->Prop where
 |non:TyOf K H .non (.type "NoneType")
 |bl (x:Bool):TyOf K H (.bl x) (.type "bool")
 |int (i:Int):TyOf K H (.int i) (.type "int")
 |str (x:Str):TyOf K H (.str x) (.type "str")
 |flt (x:UInt64):TyOf K H (.flt x) (.type "float")
 |lst {a:aQ} {xs:List V} (e:H a=ZZ (.lst xs)):TyOf K H (.ref a) (.type "list")
 |frz {a:aQ} {o:Obj} {xs:List V} (e:H a=ZZ (.frz o (.lst xs))):TyOf K H (.ref a) (.type "list")
 |tup {a:aQ} {xs:List V} (e:H a=ZZ (.tup xs)):TyOf K H (.ref a) (.type "tuple")
 |dK {a:aQ} {kvs:List (Key×V)} (e:H a=ZZ (.dK kvs)):TyOf K H (.ref a) (.type "dict")
 |dT {a:aQ} {kvs:List (List Key×V)} (e:H a=ZZ (.dT kvs)):TyOf K H (.ref a) (.type "dict")
 |ins {a C dx:aQ} {fs:List (Str×V)} (e:H a=ZZ (.ins C dx fs)) (cl:Cls K C) (ha:gY K (.ref C) "__class__"=ZZ (ZZ (.builtin "object.__class__")))
   (hn:lQ K (.builtin "object.__class__") "__get__"=ZZ (ZZ (.builtin "getset_descriptor.__get__"))) (htk:pD K (.builtin "object.__class__")=ZZ ZX)
   (hm:lD K C (.type "object")=ZZ ZX):TyOf K H (.ref a) (.ref C)
theorem atc{x:V}{u t:aG}(I:Inv X zv σ H s)(rx:RelV x u)(ty:TyOf X.K H x t)(e:gP X.K t c=ZZ b)(h:∀tk,Q (.bool b) { s with toks:=tk }) :
  bG (bL X.prog X.w) A (call (.builtin "isinstance") [u,c]) Q E s:=by
 cases ty with
 |non=>cases(show u=cM from rx);exact dW PySem.W.kitx_none I.kIn nU e (λz=>nomatch z) h
 |bl y=>cases(show u=pU y from rx);exact dW PySem.W.kitx_bool I.kIn nU e (λz=>nomatch z) h
 |int i=>obtain⟨t,q⟩:=(show ∃t,u=mK i t from rx);cases q;exact dW PySem.W.kitx_int I.kIn nU e (λz=>nomatch z) h
 |str y=>obtain⟨t,q⟩:=(show ∃t,u=rY y t from rx);cases q;exact dW PySem.W.kitx_str I.kIn nU e (λz=>nomatch z) h
 |flt y=>obtain⟨t,q⟩:=(show ∃t,u=rZ y t from rx);cases q;exact dW PySem.W.kitx_float I.kIn nU e (λz=>nomatch z) h
 | @lst a xs ea=>
  cases(show u=cH a from rx)
  obtain⟨_,_,n,_,h1⟩:=(show xf X.prog X.w H s.heap a (.lst xs) from I.hok a _ ea)
  exact dW rA I.kIn ⟨_,h1,rfl⟩ e (λz=>nomatch z) h
 | @frz a ob xs ea=>
  cases(show u=cH a from rx)
  obtain⟨_,_,_,n,_,h1⟩:=(show xf X.prog X.w H s.heap a (.frz ob (.lst xs)) from I.hok a _ ea)
  exact dW rA I.kIn ⟨_,h1,rfl⟩ e (λz=>nomatch z) h
 | @tup a xs ea=>
  cases(show u=cH a from rx)
  obtain⟨_,_,_,p⟩:=(show xf X.prog X.w H s.heap a (.tup xs) from I.hok a _ ea)
  obtain⟨o,h1,h2,_⟩:=p;exact dW PySem.W.kitx_tuple I.kIn ⟨o,h1,h2⟩ e (λz=>nomatch z) h
 | @dK a kvs ea=>
  cases(show u=cH a from rx)
  obtain⟨_,_,vs,_,p⟩:=(show xf X.prog X.w H s.heap a (.dK kvs) from I.hok a _ ea)
  obtain⟨o,es,ep,h1,h2,_⟩:=p;exact dW wN I.kIn ⟨o,h1,h2.1⟩ e (λz=>nomatch z) h
 | @dT a kvs ea=>
  cases(show u=cH a from rx)
  obtain⟨_,_,xs,_,o,es,ep,h1,h2,_⟩:=(show xf X.prog X.w H s.heap a (.dT kvs) from I.hok a _ ea)
  exact dW wN I.kIn ⟨o,h1,h2.1⟩ e (λz=>nomatch z) h
 | @ins a C dx fs ea cl ha hn htk hm=>
  cases(show u=cH a from rx)
  obtain⟨mA,O,_⟩:=ajw I.hok ea;obtain⟨od,J,_⟩:=O.look;exact dW (PySem.W.kitx_own (cl.get _) cl.hd ha hn htk hm) I.kIn J e (λz=>nomatch z) h
end
structure Room (k:Nat) (A:cQ):Prop where
 hd:A.handled=ZY
 dp:A.depth+3*k+5<recursionLimit
 un:A.units+16*k+200<cLine
 gd:A.guards=ZZ []
def Room.mono{j k:Nat}{A:cQ}(r:Room k A)(h:j<=k):Room j A:=⟨r.hd,by have:=r.dp;omega,by have:=r.un;omega,r.gd⟩
def Room.deeper{k:Nat}{A:cQ}(r:Room (k+1) A)(env:Env):Room k (A.deeper env) :=
 ⟨r.hd,by have:=r.dp;show A.depth+1+3*k+5<_;omega,by have:=r.un;show A.units+3+16*k+200<_;omega,r.gd⟩
def aqd{A:cQ}{C:aQ}{us:List aG}{kw:List (Str×Value)}:(A.under (.builtin "type.__call__" ⟨.ref C::us,kw⟩)).depth=A.depth+1:=by
 first |rfl |simp[rK,Code.weight,yO,Code.isGuard,zE,vV,rH,guardIds]
def aqc{A:cQ}{C:aQ}{us:List aG}{kw:List (Str×Value)}:(A.under (.builtin "type.__call__" ⟨.ref C::us,kw⟩)).units=A.units+1:=by
 first |rfl |simp[rK,Code.cUnits,vV,rH]
def anc{A:cQ}{C:aQ}{us:List aG}{kw:List (Str×Value)}:(A.under (.builtin "type.__call__" ⟨.ref C::us,kw⟩)).guards=A.guards:=by first |rfl |simp[rK,Code.weight,yO,Code.isGuard,zE,vV,rH,guardIds]
def Room.make{k:Nat}{A:cQ}(r:Room (k+1) A)(C:aQ)(us:List aG)(kw:List (Str×Value)):Room k (A.under (.builtin "type.__call__" ⟨.ref C::us,kw⟩)) :=
 ⟨r.hd,by have:=r.dp;rw[aqd];omega,by have:=r.un;rw[aqc];omega,by rw[anc];exact r.gd⟩
def Room.depth{k:Nat}{A:cQ}(r:Room k A):A.depth<recursionLimit:=by have:=r.dp;omega
def Room.units{k:Nat}{A:cQ}(r:Room k A):A.units+64<cLine:=by have:=r.un;omega
def tNil:TA:=λ_ H Q=>Q [] H
def a66(ta:TE)(tr:TA):TA:=λσ H Q=>ta σ H λx H1=>tr σ H1 λxs H2=>Q (x::xs) H2
abbrev Zb(x:Str):Prop:=(x==("__debug__" : Str))=ZW
abbrev Zc(X:Cx)(e:dI)(es:List dI):Prop:=aO (e::es) X.env=(ZW,eval e X.env)::aO es X.env
section
variable{X:Cx}{e:dI}{es:List dI}{te:TE}{t:TA}{pos:Pos}
def ad6:PA X [] tNil:=λ_ _ _ _ H Q I h=>Calls.spliced_nil ⟨[],H,I,.nil,h⟩
def sy(ha:PE X e te)(hr:PA X es t)(hs:Zc X e es:=by rfl):PA X (e::es) (a66 te t):=by
 intro pos zv s σ H Q I h;rw[hs];show bG _ _ (spliced ((ZW,eval e X.env)::gC pos (aO es X.env))) _ _ s;refine qT (thn (ha zv s σ H _ I h) λu s1 ⟨x,H1,I1,r1,q1⟩=>?_)
 exact thn (hr pos zv s1 σ H1 _ I1 q1) λus s2 ⟨xs,H2,I2,r2,q2⟩=>⟨x::xs,H2,I2,.cons r1 r2,q2⟩
def tTup(t:TA):TE:=λσ H Q=>t σ H λxs H1=>xs.length<=cJ/\∀p,H1 p=ZY->Q (.ref p) (upd H1 p (.tup xs))
def tLst(t:TA):TE:=λσ H Q=>t σ H λxs H1=>xs.length<=cJ/\∀p,H1 p=ZY->Q (.ref p) (upd H1 p (.lst xs))
def a2l{x1}(h:PA X es t):PE X (.Tuple es x1 pos) (tTup t):=by
 intro zv s σ H Q I hq;refine wpAny_Tuple_spliced (thn (h pos zv s σ H _ I hq) λus s1 ⟨xs,H1,I1,r,z,q⟩=>⟨by rw[<-r.length];exact z,?_⟩)
 have hf:H1 s1.heap.objs.size=ZY:=I1.hok.fresh (aP _);refine⟨.ref s1.heap.objs.size,upd H1 s1.heap.objs.size (.tup xs),I1.laid (t':=s1.toks) (λb u e=>aB _ e) (aP _) ?_,rfl,q _ hf⟩
 exact⟨z,us,r,⟨_,aM _ rfl,rfl,rfl,_,rfl⟩⟩
def a2q(h:PA X es t):PE X (.List es pos) (tLst t):=by
 intro zv s σ H Q I hq;refine wpAny_List_spliced (thn (h pos zv s σ H _ I hq) λus s1 ⟨xs,H1,I1,r,z,q⟩=>⟨by rw[<-r.length];exact z,?_⟩)
 have hf:H1 s1.heap.objs.size=ZY:=I1.hok.fresh (aP _);refine⟨.ref s1.heap.objs.size,upd H1 s1.heap.objs.size (.lst xs),I1.laid (t':=s1.toks) (λb u e=>aB _ e) (aP _) ?_,rfl,q _ hf⟩
 exact⟨z,us,0,r,aM _ rfl⟩
end
abbrev Sp:=List V->Hp->VK->XK->Prop
abbrev CXT:=List Env->Hp->aJ->XK->aG->aJ->Prop
structure Env0 (P:bT) (w:dB) (K:Fg9) (mg:Str->Option aG) (base:eE) (A:cQ) (outer:List Env) (s:aJ) (H:Hp):Prop where
 frames:A.frames=ZZ outer
 mod:Mod K mg base
 bs:∀b o,base.get? b=ZZ o->s.heap.get? b=ZZ o/\H b=ZY
 bsz:base.objs.size<=s.heap.objs.size
 funs:s.heap.FunFrames base outer
 frf:∀b∈frs outer,H b=ZY
 hok:HOk P w H s.heap
 bare:pQ s.gens
def CE(outer:List Env)(P:bT)(w:dB)(H:Hp)(s:aJ)(Q:VK)(u:aG)(s':aJ):Prop :=
 ∃v H',s'.os=s.os/\pQ s'.gens/\Un (frs outer) [] H H' s.heap s'.heap/\HOk P w H' s'.heap/\RelV v u/\Q v H'
def CR(CX:CXT)(outer:List Env)(P:bT)(w:dB)(H:Hp)(s:aJ)(Q:VK)(E:XK)(r:Result)(s':aJ):Prop :=
 match r with
 |.ok (.ret u)=>CE outer P w H s Q u s'
 |.ok _=>False
 |.error e=>CX outer H s E e s'
structure FnOk (P:bT) (w:dB) (K:Fg9) (mg:Str->Option aG) (base:eE) (CX:CXT) (k:Nat) (f:aQ) (fd:eQ) (ps:List Str) (sp:Sp):Prop where
 len:∀vs H Q E,sp vs H Q E->vs.length=ps.length
 run:∀(A:cQ) (outer:List Env) (s:aJ) (H:Hp) (args:Args) (us:List aG) (vs:List V) (Q:VK) (E:XK),Room k A->Env0 P w K mg base A outer s H->oR s fd args (ps.zip us)->Vals vs us->sp vs H Q E ->
  mJ (bL P w) A (.call (.ref f) args) (CR CX outer P w H s Q E) s
def Env0.make{P:bT}{w:dB}{K:Fg9}{mg:Str->Option aG}{base:eE}{A:cQ}{outer:List Env}{s:aJ}{H:Hp}(e:Env0 P w K mg base A outer s H)(C:aQ)(us:List aG)(kw:List (Str×Value)) :
  Env0 P w K mg base (A.under (.builtin "type.__call__" ⟨.ref C::us,kw⟩)) outer s H:=⟨by first |exact e.frames | (simpa[rK,Code.envs,rH,pushEnvs] using e.frames),e.mod,e.bs,e.bsz,e.funs,e.frf,e.hok,e.bare⟩
section
variable{X:Cx}{zv:List (aQ×Obj)}{σ:St}{H:Hp}{s s':aJ}
def Inv.env0(I:Inv X zv σ H s):Env0 X.prog X.w X.K X.mg X.base X.A X.stack s H :=
 ⟨I.ok.frames,I.ok.mod,I.bs,cW I.ok.bsz I.sz,I.stack,I.stkFree,I.hok,I.bare⟩
def Inv.after{Q:VK}{u:aG}(I:Inv X zv σ H s)(h:CE X.stack X.prog X.w H s Q u s'):EP X zv σ Q u s':=by
 obtain⟨v,H',os,bare,un,hok,r,q⟩:=h;obtain⟨hh,g,d,t,os'⟩:=s';obtain rfl:os'=s.os:=os;exact⟨v,H',I.call (h':=hh) (g':=g) (d':=d) (t':=t) (ch:=[]) un hok bare (λb z=>absurd z (by simp)),r,q⟩
end
def ayr(sp:Sp)(dvs:List V)(E:XK)(t:TA):TE:=λσ H Q=>t σ H λvs H1=>sp (vs++dvs) H1 Q E
def a6y(C:aQ)(m:Str)(sp:Sp)(dvs:List V)(E:XK)(ta:TE)(t:TA):TE:=λσ H Q=>ta σ H λx H1=>∃a dx fs,x=.ref a/\H1 a=ZZ (.ins C dx fs)/\fs.lookup m=ZY /\
 t σ H1 λvs H2=>sp (x::(vs++dvs)) H2 Q E
def a6z(C:aQ)(sp:Sp)(dvs:List V)(E:XK)(t:TA):TE:=λσ H Q=>t σ H λvs H1=>∀x dx,H1 x=ZY->H1 dx=ZY->dx≠x ->
 sp (.ref x::(vs++dvs)) (upd (upd H1 dx (.own x)) x (.ins C dx [])) (λv H2=>v=.non/\Q (.ref x) H2) E
def Binds(K:Fg9)(fd:eQ)(ps:List Str)(ds:List aG):Prop :=
 ∀(s:aJ) (us:List aG),K.In s.heap->(us++ds).length=ps.length->oR s fd ⟨us,[]⟩ (ps.zip (us++ds))
def Binds.all{K:Fg9}{fd:eQ}{ps:List Str}(h:∀us:List aG,us.length=ps.length->pR fd ⟨us,[]⟩=pure (ps.zip us)):Binds K fd ps []:=λs us _ hl=>by
 rw[cF] at hl ⊢
 exact .of_eq (h us hl)
def aiz(CX:CXT)(X:Cx)(E:XK):Prop:=∀(zv:List (aQ×Obj)) (σ:St) (H:Hp) (s:aJ) (e:aG) (s':aJ),Inv X zv σ H s->CX X.stack H s E e s'->X.xe e s'
section
variable{X:Cx}{CX:CXT}{k:Nat}{f C:aQ}{fd:eQ}{ps:List Str}{sp:Sp}{dvs:List V}{ds:List aG}{E:XK}{x m:Str}{p pos apos:Pos}{e o:dI}{es:List dI}{ta:TE}{t:TA}
theorem axd{zv:List (aQ×Obj)}{σ:St}{H:Hp}{s:aJ}{Q:VK}{us:List aG}{vs:List V}(F:FnOk X.prog X.w X.K X.mg X.base CX k f fd ps sp)(hr:Room k X.A)(hb:Binds X.K fd ps ds)(hd:Vals dvs ds)(hx:aiz CX X E)
  (I:Inv X zv σ H s) (r:Vals vs us) (h:sp (vs++dvs) H Q E):bG (bL X.prog X.w) X.A (call (.ref f) us) (EP X zv σ Q) X.xe s:=by
 have r2:Vals (vs++dvs) (us++ds):=r.append hd;have hl:(us++ds).length=ps.length:=by rw[<-r2.length];exact F.len _ _ _ _ h
 refine lO (jK (F.run X.A X.stack s H ⟨us,[]⟩ (us++ds) (vs++dvs) Q E hr I.env0 (hb s us I.kIn hl) r2 h) λr s' hq=>?_)
 cases r with
 |error e=>exact hx zv σ H s e s' I hq
 |ok fl=>
  cases fl with
  |ret u=>exact I.after hq
  |next=>exact eF hq
  |brk=>exact eF hq
  |cont=>exact eF hq
def azl(F:FnOk X.prog X.w X.K X.mg X.base CX k f fd ps sp)(hr:Room k X.A)(hg:Gl X x)(hm:X.mg x=ZZ (.ref f))(hk:kW X.K (.ref f)=ZX)(hb:Binds X.K fd ps ds)(hd:Vals dvs ds)(hx:aiz CX X E)
  (ha:PA X (e::es) t) (hdb:Zb x:=by decide) (he:Zc X e es:=by rfl) (hpl:(gC pos (aO es X.env)).any (·.1)=ZW:=by rfl) :
  PE X (.Call (.Name x p) (e::es) [] pos) (ayr sp dvs E t):=by
 intro zv s σ H Q I h;refine wpAny_Call_Name_kw (abx I hg hm ?_ hdb);refine jH (h₀:=X.base) I.ok.mod.kin hk (thn (ha pos zv s σ H _ I h) λus s1 ⟨vs,H1,I1,r,q⟩=>⟨I1.kIn,?_⟩) he hpl
 exact axd F hr hb hd hx I1 r q
def azg{pl:Sem Bool}(he:PE X o ta)(c:Cls X.K C)(hm:Meth X.K C m f)(F:FnOk X.prog X.w X.K X.mg X.base CX k f fd ps sp)(hr:Room k X.A)(hb:Binds X.K fd ps ds)(hd:Vals dvs ds)(hx:aiz CX X E)(ha:PA X (e::es) t)
  (hst:aO (e::es) X.env=(ZW,eval e X.env)::aO es X.env:=by rfl) (hpl:(gC pos (aO es X.env)).any (·.1)=ZW:=by rfl)
  (ht:eval (.Call (.Attribute o m apos) (e::es) [] pos) X.env=(do
   let ov <-eval o X.env
   standAt apos.atName
   let (f,first) <-jZ [ov] (getMethod ov m pl)
   callWith pos f first (gC pos (aO (e::es) X.env)) (backToKw pos (keywordEach [] X.env))):=by rfl) :
  PE X (.Call (.Attribute o m apos) (e::es) [] pos) (a6y C m sp dvs E ta t):=by
 intro zv s σ H Q I h;refine PySem.W.methodCall_KW (pl:=pl) (thn (he zv s σ H _ I h) λu s1 ⟨x,H1,I1,rx,a,dx,fs,ex,ea,l,q⟩=>?_) ht
 subst ex;obtain rfl:u=cH a:=rx;refine aqi I1 ea c hm l ?_;refine jH (first:=[.ref a]) (h₀:=X.base) I.ok.mod.kin hm.kp (thn (ha pos zv s1 σ H1 _ I1 q) λus s2 ⟨vs,H2,I2,r,q2⟩=>⟨I2.kIn,?_⟩) hst hpl
 exact axd (us:=.ref a::us) (vs:=.ref a::vs) F hr hb hd hx I2 (.cons rfl r) q2
structure Mk (K:Fg9) (C f:aQ):Prop where
 makes:pF K C=ZX
 init:gY K (.ref C) "__init__"=ZZ (ZZ (.ref f))
 fn:lV K (.ref f)=ZX
 kp:kW K (.ref C)=ZX
theorem avq{zv:List (aQ×Obj)}{σ:St}{H:Hp}{s:aJ}{Q:VK}{us:List aG}{vs:List V}(M:Mk X.K C f)(F:FnOk X.prog X.w X.K X.mg X.base CX k f fd ps sp)(hr:Room (k+1) X.A)(hb:Binds X.K fd ps ds)(hd:Vals dvs ds)
  (hx:aiz CX X E) (I:Inv X zv σ H s) (r:Vals vs us)
  (h:∀x dx,H x=ZY->H dx=ZY->dx≠x->sp (.ref x::(vs++dvs)) (upd (upd H dx (.own x)) x (.ins C dx [])) (λv H2=>v=.non/\Q (.ref x) H2) E) :
  bG (bL X.prog X.w) X.A (call (.ref C) us) (EP X zv σ Q) X.xe s:=by
 have hq:=h (s.heap.objs.size+1) s.heap.objs.size (I.hok.fresh (kO _)) (I.hok.fresh (aP _)) (bI (jE _));have I2:=Inv.made (C:=C) I;have r2:Vals (V.ref (s.heap.objs.size+1)::(vs++dvs)) (cH (s.heap.objs.size+1)::(us++ds)):=.cons rfl (r.append hd);have hl:(cH (s.heap.objs.size+1)::us++ds).length=ps.length:=by
  have e:=r2.length;rw[F.len _ _ _ _ hq] at e;exact e.symm
 refine lO (awc (f:=f) I.kIn M.makes M.init (beq_iff_eq.mp M.fn) (jK (F.run _ X.stack _ _ ⟨Value.ref (s.heap.objs.size+1)::us,[]⟩ (cH (s.heap.objs.size+1)::(us++ds)) _ _ E (hr.make C us [])
  (I2.env0.make C us []) (hb _ (cH (s.heap.objs.size+1)::us) I2.kIn hl) r2 hq) λr s' hq'=>?_))
 cases r with
 |error e=>exact hx zv σ _ _ e s' I2 hq'
 |ok fl=>
  cases fl with
  |ret u=>
   obtain⟨v,H',I3,rv,ev,q3⟩:=I2.after hq';subst ev;exact⟨rv,⟨V.ref (s.heap.objs.size+1),H',I3,rfl,q3⟩⟩
  |next=>exact eF hq'
  |brk=>exact eF hq'
  |cont=>exact eF hq'
def azh(M:Mk X.K C f)(F:FnOk X.prog X.w X.K X.mg X.base CX k f fd ps sp)(hr:Room (k+1) X.A)(hg:Gl X x)(hm:X.mg x=ZZ (.ref C))(hb:Binds X.K fd ps ds)(hd:Vals dvs ds)(hx:aiz CX X E)
  (ha:PA X (e::es) t) (hdb:Zb x:=by decide) (he:Zc X e es:=by rfl) (hpl:(gC pos (aO es X.env)).any (·.1)=ZW:=by rfl) :
  PE X (.Call (.Name x p) (e::es) [] pos) (a6z C sp dvs E t):=by
 intro zv s σ H Q I h;refine wpAny_Call_Name_kw (abx I hg hm ?_ hdb);refine jH (h₀:=X.base) I.ok.mod.kin M.kp (thn (ha pos zv s σ H _ I h) λus s1 ⟨vs,H1,I1,r,q⟩=>⟨I1.kIn,?_⟩) he hpl
 exact avq M F hr hb hd hx I1 r q
end
section
variable{X:Cx}{CX:CXT}{k:Nat}{f C:aQ}{fd:eQ}{ps ks:List Str}{sp:Sp}{E:XK}{x m:Str}{p pos apos kpos:Pos}{e o:dI}{es:List dI}{kws:List qG}{te ta:TE}{t tk:TA}{nm:Option Str}
structure KBinds (K:Fg9) (fd:eQ) (ps ks:List Str) (g:List aG->List aG->List aG) (gV:List V->List V->List V):Prop where
 to:∀(s:aJ) (us ws:List aG),K.In s.heap->(g us ws).length=ps.length->oR s fd ⟨us,ks.zip ws⟩ (ps.zip (g us ws))
 rel:∀{vs:List V} {us:List aG} {zs:List V} {ws:List aG},Vals vs us->Vals zs ws->Vals (gV vs zs) (g us ws)
variable{g:List aG->List aG->List aG}{gV:List V->List V->List V}
end
structure FnScope (N P:List Str) (sc:nJ):Prop where
 kind:sc.kind=.function
 co:sc.isCoroutine=ZW
 gen:sc.isGenerator=ZW
 nd:N.Nodup
 pre:N.take P.length=P
 par:∀x∈P,sc.names.lookup x=ZZ .local∨sc.names.lookup x=ZZ .cell
 nofree:∀y∈sc.names,y.2≠.free
theorem amh{kindOf:Str->Option uG}{x:Str}:∀{binds:List (Str×Value)} {m:Str->Option aG},(∀v,(x,v)∉binds)->bindL kindOf binds m x=m x
 | [],_,_=>rfl
 | (n,v)::r,m,h=>by
  unfold bindL;rw[amh λw hw=>h w (aR _ hw)]
  split
  ·have:x≠n:=by rintro rfl;exact h v aZ
   simp[this]
  ·rfl
theorem amj{kindOf:Str->Option uG}{x:Str}:∀{binds:List (Str×Value)} {m:Str->Option aG},(∀v,(x,v)∉binds)->bindC kindOf binds m x=m x
 | [],_,_=>rfl
 | (n,v)::r,m,h=>by
  unfold bindC;rw[amj λw hw=>h w (aR _ hw)]
  split
  ·rfl
  ·have:x≠n:=by rintro rfl;exact h v aZ
   simp[this]
theorem ami{kindOf:Str->Option uG}{x:Str}{v:aG}:∀{P:List Str} {vs:List aG} {i:Nat} {m:Str->Option aG},P.Nodup->P[i]? = ZZ x->vs[i]? = ZZ v->kindOf x=ZZ .local ->
  bindL kindOf (P.zip vs) m x=ZZ v
 | [],_,_,_,_,h,_,_=>by simp at h
 |_::_,[],_,_,_,_,h,_=>by simp at h
 |p::P,w::vs,0,m,nd,h1,h2,hk=>by
  simp at h1 h2;subst h1;subst h2;show bindL kindOf ((p,w)::P.zip vs) m p=_;unfold bindL;rw[amh λv hv=>(mR.mp nd).1 (pI hv).1,if_pos hk]
  simp
 |p::P,w::vs,i+1,m,nd,h1,h2,hk=>by
  show bindL kindOf ((p,w)::P.zip vs) m x=_;unfold bindL;exact ami (i:=i) (mR.mp nd).2 (by simpa using h1) (by simpa using h2) hk
theorem amk{kindOf:Str->Option uG}{x:Str}{v:aG}:∀{P:List Str} {vs:List aG} {i:Nat} {m:Str->Option aG},P.Nodup->P[i]? = ZZ x->vs[i]? = ZZ v->kindOf x≠ZZ .local ->
  bindC kindOf (P.zip vs) m x=ZZ v
 | [],_,_,_,_,h,_,_=>by simp at h
 |_::_,[],_,_,_,_,h,_=>by simp at h
 |p::P,w::vs,0,m,nd,h1,h2,hk=>by
  simp at h1 h2;subst h1;subst h2;show bindC kindOf ((p,w)::P.zip vs) m p=_;unfold bindC;rw[amj λv hv=>(mR.mp nd).1 (pI hv).1,if_neg hk]
  simp
 |p::P,w::vs,i+1,m,nd,h1,h2,hk=>by
  show bindC kindOf ((p,w)::P.zip vs) m x=_;unfold bindC;exact amk (i:=i) (mR.mp nd).2 (by simpa using h1) (by simpa using h2) hk
def start(N:List Str)(vs:List V):St:=vs.map ZZ++aD (N.length-vs.length) ZY
def cxOf(CX:CXT)(P:bT)(w:dB)(K:Fg9)(mg:Str->Option aG)(base:eE)(N:List Str)(qual:Str)(scope:nJ)(f:aQ)(cd:aG)(A:cQ)(outer:List Env)(s:aJ)(H:Hp)(E:XK):Cx where
 prog:=P
 w:=w
 K:=K
 mg:=mg
 base:=base
 A:=A.deeper (mY qual scope s.heap.objs.size f cd)
 N:=N
 s₀:=s
 H₀:=H
 env:=mY qual scope s.heap.objs.size f cd
 outer:=outer
 stack:=mY qual scope s.heap.objs.size f cd::outer
 ex:=[]
 calm:=ZX
 fn:=λ_=>ZX
 pn:=[]
 xe:=λe s'=>bG (bL P w) (A.deeper (mY qual scope s.heap.objs.size f cd)) (leaving (mY qual scope s.heap.objs.size f cd) e) (λ_ s''=>CX outer H s E e s'') (λe' s''=>CX outer H s E e' s'') s'
def apd{sc:nJ}{n:Nat}{x:Str}(h:sc.names.lookup x=ZZ .cell):∃c,(cellsFrom n sc.names []).lookup x=ZZ c:=by
 have q:=pA sc.names n [] (.inl h);exact tZ.mp q
def alv{CX:CXT}{P:bT}{w:dB}{K:Fg9}{mg:Str->Option aG}{base:eE}{N ps:List Str}{qual:Str}{scope:nJ}{f:aQ}{cd:aG}{A:cQ}{outer:List Env}{s s1:aJ}{H:Hp}{E:XK}{us:List aG}{vs:List V}
  (S:FnScope N ps scope) (hd:A.handled=ZY) (e0:Env0 P w K mg base A outer s H) (hl:vs.length=ps.length) (r:Vals vs us)
  (x:InCallC s s.heap.objs.size (bindL (mY qual scope s.heap.objs.size f cd).kindOf (ps.zip us) λ_=>ZY) (cellsFrom (s.heap.objs.size+1) scope.names []) (bindC (mY qual scope s.heap.objs.size f cd).kindOf (ps.zip us) λ_=>ZY) s1) :
  Inv (cxOf CX P w K mg base N qual scope f cd A outer s H E) [] (start N vs) H s1:=by
 have hpl:ps.length<=N.length:=by have:=congrArg List.length S.pre;rw[dX] at this;omega
 obtain⟨h1,tk,rfl,hk⟩:=x.done;have noA:∀b:aQ,b∉(cxOf CX P w K mg base N qual scope f cd A outer s H E).ex:=λb z=>absurd (show b∈([]:List aQ) from z) (by simp)
 refine⟨⟨e0.mod,S.kind,rfl,rfl,aP _,λy z c h1 h2=>?_,λy hy=>?_,λy c _ h=>?_,λ_=>hd,vD e0.frames,.inr ⟨rfl,rfl⟩,λb z=>absurd z (noA b),e0.bs,e0.bsz,λb _ _=>noA b,λb z=>absurd z (noA b),e0.funs,e0.frf⟩,
  rfl,e0.bare,Un.kept hk,⟨_,x.toInCall.ns,λi y v h1 h2 h3=>?_⟩,λy c h=>⟨_,x.cell y c h⟩,e0.hok.fresh (aP _),λy c h=>?_,λp hp=>absurd (show p∈([]:List (aQ×Obj)) from hp) (by simp),e0.hok.kept hk,?_⟩
 ·exact name_of_addr x.apart (jA h1) (jA h2)
 ·have hy:scope.names.lookup y=ZZ .cell∨scope.names.lookup y=ZZ .free:=hy;rcases hy with hy |hy
  ·exact apd hy
  ·exact absurd rfl (S.nofree _ (jA hy))
 ·exact nA (x.above y c (jA h))
 ·have hi:i<vs.length:=by
   unfold start at h2
   by_cases hi:i<vs.length
   ·exact hi
   ·rw[cD (by simpa using hi)] at h2
    rw[jC] at h2;split at h2 <;> cases h2
  have ha:vs[i]? = ZZ v:=by
   unfold start at h2;rw[aY (by simpa using hi),aX] at h2
   cases e:vs[i]? with
   |none=>rw[e] at h2;cases h2
   |some a=>rw[e] at h2;cases h2;rfl
  obtain⟨u,hu,rv⟩:=r.get ha;have hp:ps[i]? = ZZ y:=by
   rw[<-S.pre,fM (by omega)];exact h1
  have ndP:ps.Nodup:=by rw[<-S.pre];exact S.nd.sublist (wR _ _)
  refine⟨u,rv,?_⟩;rcases S.par y (cT hp) with k |k
  ·exact .inl ⟨k,ami ndP hp hu k⟩
  ·obtain⟨c,e⟩:=apd (n:=s.heap.objs.size+1) k;refine .inr ⟨.inl k,c,e,?_⟩;have q:=x.cell y c e;rw[amk ndP hp hu (by show scope.names.lookup y≠_;rw[k];decide)] at q
   exact q
 ·exact e0.hok.fresh (nA (x.above y c (jA h)))
 ·unfold start;show _=N.length;rw[bV,aL,dO];omega
theorem a4n{CX:CXT}{P:bT}{w:dB}{K:Fg9}{mg:Str->Option aG}{base:eE}{k:Nat}{f:aQ}{name qual:Str}{params:Arguments}{body:List gK}{scope:nJ}{dV kV doc pm cdv ct oc:aG}{an od:Option aQ}
  {osl:Array (Option aG)} {N ps:List Str} {sp:Sp} (lk:K.lookup f=ZZ ⟨oc,od,.func (fnOf name qual params body scope dV kV doc pm an cdv ct),osl⟩) (hcd:rW K cdv qual=ZX) (S:FnScope N ps scope)
  (len:∀vs H Q E,sp vs H Q E->vs.length=ps.length)
  (hbody:∀(A:cQ) (outer:List Env) (s:aJ) (H:Hp) (vs:List V) (Q:VK) (E:XK),Room k (A.deeper (mY qual scope s.heap.objs.size f cdv))->sp vs H Q E ->
   ∃t,PSs (cxOf CX P w K mg base N qual scope f cdv A outer s H E) body t/\t { nx:=λ_ H'=>Q .non H',rt:=Q } (start N vs) H) :
  FnOk P w K mg base CX (k+1) f (fnOf name qual params body scope dV kV doc pm an cdv ct) ps sp:=by
 refine⟨len,λA outer s H args us vs Q E hr e0 hb r hsp=>?_⟩
 have hl:=len _ _ _ _ hsp;have KX:K.In s.heap:=e0.mod.kin.keeps λb o e=>(e0.bs b o e).1
 have lim:s.heap.NoLimit:=e0.mod.nolimit.keeps λb o e=>(e0.bs b o e).1
 have hkind:∀y∈ps.zip us,scope.names.lookup y.1=ZZ .local∨(scope.names.lookup y.1=ZZ .cell/\((cellsFrom (s.heap.objs.size+1) scope.names []).lookup y.1).isSome=ZX):=λ⟨n,v⟩ hy=>by
  rcases S.par n (pI hy).1 with q |q
  ·exact .inl q
  ·exact .inr ⟨q,pA _ _ _ (.inl q)⟩
 refine codeAny_call_function hr.depth (KX _ _ lk) rfl S.co S.gen rfl (vY KX hcd) (hb _ _ _ _ ?_);refine wpAny_newFunctionEnv_cells S.kind hkind λenv he s1 x=>?_
 subst he;refine⟨lim.keeps x.toInCall.keep,codeAny_func ?_⟩;obtain⟨t,ht,hq⟩:=hbody A outer s H vs Q E (hr.deeper _) hsp;have I:Inv (cxOf CX P w K mg base N qual scope f cdv A outer s H E) [] (start N vs) H s1:=alv S hr.hd e0 hl r x;refine bD (ht [] s1 (start N vs) H _ I hq) (λfl s' hs=>?_) λe s' hs=>hs
 have fin:∀{σ':St} {H':Hp} {v:V} {u:aG},Inv (cxOf CX P w K mg base N qual scope f cdv A outer s H E) [] σ' H' s'->RelV v u->Q v H'->CE outer P w H s Q u s' :=
  λ{σ' H' v u} J rv q=>⟨v,H',J.os,J.bare,J.base,J.hok,rv,q⟩
 cases fl with
 |ret u=>
  obtain⟨v,σ',H',J,rv,q⟩:=hs;exact fin J rv q
 |next=>
  obtain⟨σ',H',J,q⟩:=hs;exact fin (v:=V.non) (u:=cM) J rfl q
 |brk=>
  obtain⟨_,_,_,q⟩:=hs;exact eF q
 |cont=>
  obtain⟨_,_,_,q⟩:=hs;exact eF q
section
variable{X:Cx}{x:Str}{p pos:Pos}{e:dI}{es:List dI}{t:TA}{id T:String}{r:List V->Hp->VK->Prop}
def tCB(r:List V->Hp->VK->Prop)(t:TA):TE:=λσ H Q=>t σ H λvs H1=>r vs H1 Q
def ad5(hc:abi X (.builtin id) r)(hg:Gl X x)(hm:X.mg x=ZY)(hv:bR x=ZZ (.builtin id))(ha:PA X (e::es) t)(hn:x ≠ "__name__" := by decide)(hdb:Zb x:=by decide)
  (he:Zc X e es:=by rfl) (hpl:(gC pos (aO es X.env)).any (·.1)=ZW:=by rfl):PE X (.Call (.Name x p) (e::es) [] pos) (tCB r t):=by
 intro zv s σ H Q I h;refine wpAny_Call_Name_kw (ag0 I hg hm hv ?_ hn hdb);exact PyProof.Rows.callWith_builtin1 (thn (ha pos zv s σ H _ I h) λus s1 ⟨vs,H1,I1,r1,q1⟩=>hc zv s1 σ H1 vs us Q I1 r1 q1) he hpl
def ad4(hc:abi X (.type T) r)(hg:Gl X x)(hm:X.mg x=ZY)(hv:bR x=ZZ (.type T))(ha:PA X (e::es) t)(hn:x ≠ "__name__" := by decide)(hdb:Zb x:=by decide)
  (he:Zc X e es:=by rfl) (hpl:(gC pos (aO es X.env)).any (·.1)=ZW:=by rfl):PE X (.Call (.Name x p) (e::es) [] pos) (tCB r t):=by
 intro zv s σ H Q I h;refine wpAny_Call_Name_kw (ag0 I hg hm hv ?_ hn hdb);exact iB (thn (ha pos zv s σ H _ I h) λus s1 ⟨vs,H1,I1,r1,q1⟩=>hc zv s1 σ H1 vs us Q I1 r1 q1) he hpl
end
end L2
namespace HT
open PySem PyProof.Rows
section
open PySem.SeqAt
open PySem.AutoSeq1 (wpAny_loadPart')
open PySem.MeetsSeq PySem.MeetsSeq2 PySem.MeetsSeq3
end
section
variable{prog:bT}{w:dB}{A:cQ}{E:aG->aJ->Prop}{s:aJ}
def a00{t b:aQ}{vs ws:List aG}{Q:aG->aJ->Prop}(ht:wZ s.heap t vs.toArray)(hb:wZ s.heap b ws.toArray)(hv:vs≠[])
  (h1:ws=[]->Q (.ref t) s) (h2:ws≠[]->Q (.ref s.heap.objs.size) { s with heap:=s.heap.push { cls:=.type "tuple", data:=.seq (vs++ws).toArray } })
  (hsz:vs.length+ws.length<=cJ):bG (bL prog w) A (fY .Add (.ref t) (.ref b)) Q E s:=by
 obtain⟨⟨cls,dd,data,sl⟩,ho,hc,n,hd⟩:=id ht;obtain⟨⟨cls2,dd2,data2,sl2⟩,ho2,hc2,n2,hd2⟩:=id hb;simp only at hc hd hc2 hd2;subst hc hd hc2 hd2;have e:vs.toArray++ws.toArray=(vs++ws).toArray:=by simp
 by_cases hw:ws=[]
 ·exact concat_meets ⟨_,ho,rfl⟩ ⟨_,ho2,rfl⟩ noFill_tuple_add seq_tuple_add pB oM (nZ _ _)
   (tuple_addW1 t b vs.toArray ws.toArray n n2 dd dd2 sl sl2 (by simpa using hv) (by simp[hw])) ⟨ho,ho2,h1 hw⟩
 ·refine concat_meets ⟨_,ho,rfl⟩ ⟨_,ho2,rfl⟩ noFill_tuple_add seq_tuple_add pB oM (nZ _ _)
   (tuple_addW2 t b vs.toArray ws.toArray n n2 dd dd2 sl sl2 (by simpa using hv) (by simpa using hw) (by rw[aW,aW];exact hsz)) ⟨ho,ho2,?_⟩
  rw[e];exact h2 hw
def sIx(n d:Nat):Option Int->Nat
 |none=>d
 |some v=>if v<0 then (v+(n:Int)).toNat else min v.toNat n
theorem a1s(n d:Nat)(hd:d<=n)(o:Option Int):sIx n d o<=n:=by
 cases o with
 |none=>exact hd
 |some v=>
  show(if v<0 then (v+(n:Int)).toNat else min v.toNat n)<=n
  by_cases hv:v<0
  ·rw[if_pos hv];omega
  ·rw[if_neg hv];exact Nat.min_le_right _ _
def auh(v:Int)(n d:Nat):(if v<0 then max (v+(n:Int)) 0 else min v (n:Int))=((sIx n d (ZZ v):Nat):Int):=by
 show(if v<0 then max (v+(n:Int)) 0 else min v (n:Int))=(((if v<0 then (v+(n:Int)).toNat else min v.toNat n):Nat):Int)
 by_cases hv:v<0
 ·simp only[if_pos hv];omega
 ·simp only[if_neg hv];omega
def aqs(lo hi:Option Int)(n:Nat):nQ lo hi 1 (n:Int)=(((sIx n 0 lo:Nat):Int),((sIx n n hi:Nat):Int)):=by
 have h1:¬((1:Int)<0):=by omega
 unfold nQ;simp only[h1,if_false];refine Prod.ext ?_ ?_
 ·cases lo with
  |none=>rfl
  |some v=>exact auh v n 0
 ·cases hi with
  |none=>rfl
  |some v=>exact auh v n n
def ap0(i j:Nat):kJ (i:Int) (j:Int) 1=j-i:=by
 unfold kJ;have h1:(1:Int) > 0:=by omega
 simp only[h1,if_true,Int.ediv_one];split <;> omega
theorem aid{v:aG}{o:Option Int}{Q:Option Int->aJ->Prop}(p:rG v o)(h:Q o s):bG (bL prog w) A (Builtin.Slice.slicePartIndex v) Q E s:=by
 cases p with
 |none=>exact slicePart_none h
 |int i t=>exact slicePart_int h
def abe{sl:aQ}{vl vu:aG}{lo hi:Option Int}{n:Nat}{Q:Int×Int×Nat->aJ->Prop}(hs:s.heap.IsSliceOf sl vl vu .none)(pl:rG vl lo)(pu:rG vu hi)
  (h:Q (((sIx n 0 lo:Nat):Int),1,sIx n n hi-sIx n 0 lo) s):bG (bL prog w) A (tL (.ref sl) (pure (n:Int))) Q E s:=by
 obtain⟨os,hos,hcs,hds⟩:=id hs;unfold tL Builtin.Slice.sliceFields;refine aA (aA (cG hos hds (x:=vl) rfl (aA (cG hos hds (x:=vu) rfl (aA (cG hos hds (x:=.none) rfl (aH ?_)))))));refine aA (slicePart_none ?_);show bG _ _ (if ((1:Int)==0)=ZX then _ else _) _ _ s
 rw[if_neg (by decide)]
 refine aA (aid pl (aA (aid pu (aA (aH ?_)))));show bG _ _ (match nQ lo hi 1 (n:Int) with | (lo,hi)=>pure (lo,(1:Int),kJ lo hi 1)) _ _ s
 rw[aqs lo hi n];show bG _ _ (pure (((sIx n 0 lo:Nat):Int),(1:Int),kJ ((sIx n 0 lo:Nat):Int) ((sIx n n hi:Nat):Int) 1)) _ _ s;rw[ap0];exact aH h
def avv(xs:Array aG)(i k:Nat):((bW k).filterMap λ(m:Nat)=>xs[((i:Int)+(m:Int)*1).toNat]?).toArray=((xs.toList.drop i).take k).toArray:=by
 have e:(λ(m:Nat)=>xs[((i:Int)+(m:Int)*1).toNat]?)=λm=>xs[i+m]? := by
  funext m
  have:((i:Int)+(m:Int)*1).toNat=i+m:=by omega
  rw[this]
 rw[e];have:=pick_run xs i k;rw[List.filterMap_map] at this;have e2:((λx=>xs[x]?)∘λx=>i+x)=λm=>xs[i+m]? := rfl
 rw[e2] at this;rw[this]
def ae8{t sl:aQ}{items:Array aG}{vl vu:aG}{lo hi:Option Int}{Q:aG->aJ->Prop}(ht:wZ s.heap t items)(hs:s.heap.IsSliceOf sl vl vu .none)(pl:rG vl lo)(pu:rG vu hi)
  (hw:¬(sIx items.size 0 lo=0/\sIx items.size items.size hi=items.size))
  (h:Q (.ref s.heap.objs.size) { s with heap:=s.heap.push { cls:=.type "tuple", data:=.seq ((items.toList.drop (sIx items.size 0 lo)).take (sIx items.size items.size hi-sIx items.size 0 lo)).toArray } })
  (hsz:items.size<=cJ):bG (bL prog w) A (qW (.ref t) (.ref sl)) Q E s:=by
 have htake:sizeOk (.seq ((items.toList.drop (sIx items.size 0 lo)).take (sIx items.size items.size hi-sIx items.size 0 lo)).toArray):=by
  show((items.toList.drop (sIx items.size 0 lo)).take (sIx items.size items.size hi-sIx items.size 0 lo)).toArray.size<=cJ;rw[aW,dX,fX,bN];omega
 have hj:sIx items.size items.size hi<=items.size:=a1s _ _ (aP _) hi;obtain⟨os,hos,hcs,hds⟩:=id hs;have hTs:s.TypeIs (.ref sl) "slice" := ⟨os,hos,hcs⟩;unfold qW
 try with_reducible refine eG ?_
 first |refine aA (aH ?_) |skip
 refine aA (wpAny_sequenceKey ht.typeIs (by decide) ?_)
 refine aA (dU (name:=jL "__getitem__") ht.typeIs fB
  (eY fB ht.typeIs entry_tuple_getitem ?_ (args_tuple_getitem _ _)))
 show bG _ _ (tK (.ref t) >>= _) _ _ s;refine aA (tupleItemsOf_ ht ?_);refine aA (wpAny_typeOf hTs ?_);rw[if_pos (by decide)]
 refine aA (abe hs pl pu ?_);have hno:¬((((sIx items.size 0 lo:Nat):Int)==0&&(1:Int)==1&&(sIx items.size items.size hi-sIx items.size 0 lo)==items.size)=ZX):=by
  intro q;rw[bB,bB] at q;have q1:((sIx items.size 0 lo:Nat):Int)=0:=eq_of_beq q.1.1;have q2:sIx items.size items.size hi-sIx items.size 0 lo=items.size:=eq_of_beq q.2;exact hw ⟨by omega,by omega⟩
 show bG _ _ (if (((sIx items.size 0 lo:Nat):Int)==0&&(1:Int)==1&&(sIx items.size items.size hi-sIx items.size 0 lo)==items.size)=ZX then _ else _) _ _ s
 rw[if_neg hno,avv]
 first
  |exact aA (m:=iY _) (cA (aH ⟨_,rfl,aH h⟩) htake)
  |exact aA (m:=iY _) (cA (aA (aH (aH ⟨_,rfl,aH h⟩))) htake)
  |exact aA (aA (m:=iY _) (cA (aH (aH ⟨_,rfl,aH h⟩)) htake))
  |exact aA (aA (m:=iY _) (cA (aH ⟨_,rfl,aH h⟩) htake))
end
end HT
namespace L2
abbrev TO:=St->Hp->(Option Int->Hp->Prop)->Prop
def PO(X:Cx)(e:Option dI)(t:TO):Prop :=
 ∀(zv:List (aQ×Obj)) (s:aJ) (σ:St) (H:Hp) (Q:Option Int->Hp->Prop),Inv X zv σ H s->t σ H Q ->
  bG (bL X.prog X.w) X.A (evalPart e X.env) (λu s'=>∃o H',Inv X zv σ H' s'/\rG u o/\Q o H') X.xe s
def ayp:TO:=λ_ H Q=>Q ZY H
def a6v(t:TE):TO:=λσ H Q=>t σ H λx H1=>∃i,x=.int i/\Q (ZZ i) H1
theorem intsAre_of{ns:List Int}:∀{us:List aG},Vals (ns.map V.int) us->oN us ns:=by
 induction ns with
 |nil=>intro us r;rw[rF] at r;cases r;exact .nil
 |cons n ns ih=>
  intro us r;rw[bC] at r;cases r with
  |cons r1 r2=>
   obtain⟨t,e⟩:=r1;subst e;exact .cons n t (ih r2)
section
variable{X:Cx}{e:dI}{te:TE}{lo hi:Option dI}{tl th:TO}{pos p2:Pos}
def ay8:PO X ZY ayp:=by
 intro zv s σ H Q I h;rw[evalPart_none];exact aH ⟨ZY,H,I,.none,h⟩
def ay7(h:PE X e te):PO X (ZZ e) (a6v te):=by
 intro zv s σ H Q I hw;rw[evalPart_some];refine thn (h zv s σ H _ I hw) λu s1 ⟨x,H1,I1,r1,q1⟩=>?_
 obtain⟨i,rfl,q⟩:=q1;obtain⟨t,rfl⟩:=r1;exact⟨ZZ i,H1,I1,.int i t,q⟩
def SlR(X:Cx)(r:V->Option Int->Option Int->Hp->VK->Prop):Prop :=
 ∀(zv:List (aQ×Obj)) (s:aJ) (σ:St) (H:Hp) (x:V) (v vl vu:aG) (lo hi:Option Int) (sl:aQ) (Q:VK),Inv X zv σ H s->RelV x v->s.heap.IsSliceOf sl vl vu .none->rG vl lo->rG vu hi->r x lo hi H Q ->
  ∃T id,typeLookup (.type T) "__getitem__"=pure (ZZ (.builtin id))/\s.TypeIs v T/\bG (bL X.prog X.w) X.A (qW v (.ref sl)) (EP X zv σ Q) X.xe s
def tSl(r:V->Option Int->Option Int->Hp->VK->Prop)(te:TE)(tl th:TO):TE:=λσ H Q=>te σ H λx H1=>tl σ H1 λl H2=>th σ H2 λu H3=>r x l u H3 Q
def aok{r:V->Option Int->Option Int->Hp->VK->Prop}(hr:SlR X r)(he:PE X e te)(hl:PO X lo tl)(hu:PO X hi th):PE X (.Subscript e (.Slice lo hi ZY p2) pos) (tSl r te tl th):=by
 intro zv s σ H Q I h;refine Subscript_ (thn (he zv s σ H _ I h) λv s1 ⟨x,H1,I1,r1,q1⟩=>?_)
 refine wpAny_Slice (thn (hl zv s1 σ H1 _ I1 q1) λvl s2 ⟨l,H2,I2,pl,q2⟩=>thn (hu zv s2 σ H2 _ I2 q2) λvu s3 ⟨u,H3,I3,pu,q3⟩=>?_)
 rw[evalPart_none];refine aH ?_;have I4:Inv X zv σ H3 { s3 with heap:=s3.heap.push { cls:=.type "slice", data:=.fields #[vl,vu,.none] } }:=I3.kept (t':=s3.toks) λb ob q=>aB _ q
 obtain⟨T,id,hT,ht,hg⟩:=hr zv { s3 with heap:=s3.heap.push { cls:=.type "slice", data:=.fields #[vl,vu,.none] } } σ H3 x v vl vu l u s3.heap.objs.size Q I4 r1 (Heap.IsSliceOf.new ..) pl pu q3
 show bG (bL X.prog X.w) X.A (subscriptTail e (.Slice lo hi ZY p2) v (.ref s3.heap.objs.size)) (EP X zv σ Q) X.xe { s3 with heap:=s3.heap.push { cls:=.type "slice", data:=.fields #[vl,vu,.none] } }
 exact tail_any (ops:=[.ref s3.heap.objs.size,v]) ht hT hg (by with_unfolding_all rfl)
def cutV(xs:List V)(lo hi:Option Int):List V:=(xs.drop (HT.sIx xs.length 0 lo)).take (HT.sIx xs.length xs.length hi-HT.sIx xs.length 0 lo)
def ahj(xs:List V)(lo hi:Option Int):(cutV xs lo hi).length<=xs.length:=by
 unfold cutV;rw[dX,fX];omega
def rSlT(K:Fg9):V->Option Int->Option Int->Hp->VK->Prop:=λx lo hi H Q=>∃a xs,x=.ref a/\SqT K H a xs /\
 ¬(HT.sIx xs.length 0 lo=0/\HT.sIx xs.length xs.length hi=xs.length)/\∀p,H p=ZY->Q (.ref p) (upd H p (.tup (cutV xs lo hi)))
def a1p:SlR X (rSlT X.K):=by
 intro zv s σ H x v vl vu lo hi sl Q I rx hs pl pu h;obtain⟨a,xs,rfl,hx,hw,q⟩:=h;cases rx;obtain⟨its,r,ht,hz⟩:=I.tuple hx;have hlen:its.toArray.size=xs.length:=by rw[aW];exact r.length.symm
 refine⟨"tuple", _,fB.lookup,ht.typeIs,?_⟩;refine HT.ae8 ht hs pl pu (by rw[hlen];exact hw) ?_ (by rw[hlen];exact hz)
 rw[hlen];refine⟨.ref s.heap.objs.size,_,I.laid (t':=s.toks) (o:=.tup (cutV xs lo hi)) (λb ob q=>aB _ q) (aP _) ?_,rfl,q _ (I.hok.fresh (aP _))⟩
 exact⟨Nat.le_trans (ahj xs lo hi) hz,_,(r.drop (HT.sIx xs.length 0 lo)).take (HT.sIx xs.length xs.length hi-HT.sIx xs.length 0 lo),IsTp.new _ _⟩
def a7d(K:Fg9):R2:=λx y H Q=>∃a b xs ys,x=.ref a/\y=.ref b/\SqT K H a xs/\SqT K H b ys/\xs≠[]/\xs.length+ys.length<=cJ /\
 (ys=[]->Q (.ref a) H)/\(ys≠[]->∀p,H p=ZY->Q (.ref p) (upd H p (.tup (xs++ys))))
theorem Vals.nil_iff{xs:List V}{us:List aG}(r:Vals xs us):us=[]↔xs=[]:=by
 cases r with
 |nil=>simp
 |cons _ _=>simp
def azr:OpR X (fY .Add) (a7d X.K):=by
 intro zv s σ H x y v u Q I rx ry h;obtain⟨a,b,xs,ys,rfl,rfl,ha,hb,hx,hz,q1,q2⟩:=h;cases rx;cases ry;obtain⟨its,r1,p1,_⟩:=I.tuple ha;obtain⟨its2,r2,p2,_⟩:=I.tuple hb;refine HT.a00 p1 p2 (λz=>hx (r1.nil_iff.mp z)) (λz=>⟨.ref a,H,I,rfl,q1 (r2.nil_iff.mp z)⟩) (λz=>?_) (by rw[<-r1.length,<-r2.length];exact hz)
 refine⟨.ref s.heap.objs.size,_,I.laid (t':=s.toks) (o:=.tup (xs++ys)) (λb ob q=>aB _ q) (aP _) ?_,rfl,q2 (λw=>z (r2.nil_iff.mpr w)) _ (I.hok.fresh (aP _))⟩
 exact⟨by rw[bV];exact hz,_,r1.append r2,IsTp.new _ _⟩
end
noncomputable def ixN(n:Nat)(i:Int):Option Nat:=if 0<=i then (if i<n then ZZ i.toNat else ZY) else if -(n:Int)<=i then ZZ (i+n).toNat else ZY
def atI{α:Type}(xs:List α)(i:Int):Option α:=(ixN xs.length i).bind λj=>xs[j]?
def ata{n:Nat}{i:Int}{j:Nat}(h:ixN n i=ZZ j):seqIndex? i n=ZZ j/\j<n /\ -(n:Int)<=i/\i<n:=by
 unfold ixN at h
 by_cases h0:0<=i
 ·rw[if_pos h0] at h
  by_cases h1:i<n
  ·rw[if_pos h1] at h;have e:i.toNat=j:=cN h;exact⟨by rw[seqIndex_of h0 h1,e],by omega,by omega,h1⟩
  ·rw[if_neg h1] at h;cases h
 ·rw[if_neg h0] at h
  by_cases h1 : -(n:Int)<=i
  ·rw[if_pos h1] at h;have e:(i+n).toNat=j:=cN h;exact⟨by rw[seqIndex_neg (by omega) h1,e],by omega,h1,by omega⟩
  ·rw[if_neg h1] at h;cases h
theorem an5{α:Type}{xs:List α}{i:Int}{v:α}(h:atI xs i=ZZ v):∃j,seqIndex? i xs.length=ZZ j/\xs[j]? = ZZ v/\j<xs.length /\ -(xs.length:Int)<=i/\i<xs.length:=by
 unfold atI at h;cases e:ixN xs.length i with
 |none=>rw[e] at h;cases h
 |some j=>
  rw[e] at h;obtain⟨h1,h2,h3,h4⟩:=ata e;exact⟨j,h1,h,h2,h3,h4⟩
def akb{α:Type}{xs:List α}{j:Nat}{v:α}(h:xs[j]? = ZZ v):atI xs (j:Int)=ZZ v:=by
 have hj:j<xs.length:=(aK.mp h).1;have e:ixN xs.length (j:Int)=ZZ j:=by
  unfold ixN;rw[if_pos (by omega),if_pos (by omega)];simp
 unfold atI;rw[e];exact h
def au2(b:dI):Prop:=∀o i,subscripted b ZW o i=operate [o,i] (qW o i)
def IxR(X:Cx)(r:R2):Prop :=
 ∀(value slice:dI) (zv:List (aQ×Obj)) (s:aJ) (σ:St) (H:Hp) (x y:V) (v u:aG) (Q:VK),Inv X zv σ H s->RelV x v->RelV y u->r x y H Q ->
  subscripted slice ZW v u=operate [v,u] (qW v u)->bG (bL X.prog X.w) X.A (subscriptTail value slice v u) (EP X zv σ Q) X.xe s
def MtR(X:Cx)(id:String)(r:V->List V->Hp->VK->Prop):Prop :=
 ∀(zv:List (aQ×Obj)) (s:aJ) (σ:St) (H:Hp) (x:V) (xs:List V) (v:aG) (us:List aG) (Q:VK),Inv X zv σ H s->RelV x v->Vals xs us->r x xs H Q ->
  bG (bL X.prog X.w) X.A (call (.builtin id) (v::us)) (EP X zv σ Q) X.xe s
section
variable{X:Cx}{a b:dI}{ta tb:TE}{pos:Pos}
def a7k{r:R2}(hr:IxR X r)(ha:PE X a ta)(hb:PE X b tb)(hs:au2 b):PE X (.Subscript a b pos) (tOp r ta tb):=by
 intro zv s σ H Q I h;exact Subscript_ (binT ha hb I h λv u s2 x y H2 I2 rx ry q=>hr a b zv s2 σ H2 x y v u Q I2 rx ry q (hs _ _))
def rIxL(K:Fg9):R2:=λx y H Q=>∃p xs i v,x=.ref p/\y=.int i/\SqL K H p xs/\atI xs i=ZZ v/\Q v H
def rIxT(K:Fg9):R2:=λx y H Q=>∃p xs i v,x=.ref p/\y=.int i/\SqT K H p xs/\atI xs i=ZZ v/\Q v H
def a0a:IxR X (rIxL X.K):=by
 intro value slice zv s σ H x y v u Q I rx ry h hs;obtain⟨p,xs,i,z,rfl,rfl,hq,he,q⟩:=h;cases rx;obtain⟨t,rfl⟩:=ry;obtain⟨its,r,pl,hz⟩:=I.list hq;obtain⟨j,h1,h2,h3,h4,h5⟩:=an5 he;obtain⟨w,ew,rw'⟩:=r.get h2;have hl:=r.length;have hn:=alo;have fin:EP X zv σ Q w s:=⟨z,H,I,rw',q⟩
 by_cases h0:0<=i
 ·have hj:i.toNat=j:=by
   rw[seqIndex_of h0 h5] at h1;exact cN h1
  exact item_listR pl.isList h0 (by omega) (by rw[hj];simpa using ew) fin hs
 ·have hj:(i+(its.toArray.size:Int)).toNat=j:=by
   rw[seqIndex_neg (by omega) h4] at h1
   rw[aW,<-hl];exact cN h1
  exact subscriptTail_builtinR (x:=w) pl.isList.typeIs slot_list_getitem.lookup
   (wpAny_getItem_list_neg (Q:=λr s'=>r=w/\EP X zv σ Q r s') pl.isList (by omega) (by rw[aW] <;> omega) (by omega) (by rw[hj];simpa using ew) ⟨rfl,fin⟩) hs
def a4b:IxR X (rIxT X.K):=by
 intro value slice zv s σ H x y v u Q I rx ry h hs;obtain⟨p,xs,i,z,rfl,rfl,hq,he,q⟩:=h;cases rx;obtain⟨t,rfl⟩:=ry;obtain⟨its,r,pl,hz⟩:=I.tuple hq;obtain⟨j,h1,h2,h3,h4,h5⟩:=an5 he;obtain⟨w,ew,rw'⟩:=r.get h2;have hl:=r.length;have hn:=alo;have fin:EP X zv σ Q w s:=⟨z,H,I,rw',q⟩;exact subscriptTail_builtinR (x:=w) pl.typeIs slot_tuple_getitem.lookup
  (getItem_tuple (j:=j) (Q:=λr s'=>r=w/\EP X zv σ Q r s') pl (by omega) (by omega) (by rw[aW,<-hl];exact h1) (by simpa using ew) ⟨rfl,fin⟩) hs
def aqb(its:List aG)(n j:Nat)(u:aG):iH (·.setIfInBounds j u) { cls:=.type "list", data:=.seq its.toArray n }={ cls:=.type "list", data:=.seq (its.set j u).toArray n }:=by
 simp[iH]
def Inv.lst{zv:List (aQ×Obj)}{σ:St}{H:Hp}{s:aJ}{p:aQ}{xs:List V}(I:Inv X zv σ H s)(h:H p=ZZ (.lst xs)) :
  ∃(its:List aG) (n:Nat),Vals xs its/\s.heap.get? p=ZZ { cls:=.type "list", data:=.seq its.toArray n }/\xs.length<=cJ:=by
 obtain⟨z,its,n,r,e⟩:=I.hok p _ h;exact⟨its,n,r,e,z⟩
def Inv.lstUpd{zv:List (aQ×Obj)}{σ:St}{H:Hp}{s:aJ}{p:aQ}{xs ys:List V}{its its':List aG}{n n':Nat}{f:Obj->Obj}(I:Inv X zv σ H s)(h:H p=ZZ (.lst xs))
  (ho:s.heap.get? p=ZZ { cls:=.type "list", data:=.seq its.toArray n }) (hf:f { cls:=.type "list", data:=.seq its.toArray n }={ cls:=.type "list", data:=.seq its'.toArray n' }) (r:Vals ys its') (hz:ys.length<=cJ) (t:Nat) :
  Inv X zv σ (upd H p (.lst ys)) { s with heap:=s.heap.update p f,toks:=t }:=by
 have e:(s.heap.update p f).get? p=ZZ { cls:=.type "list", data:=.seq its'.toArray n' }:=by
  rw[bM f ho (by rw[hf] <;> rfl),hf]
 refine I.write (x:=p) (e:=p) (by rw[h];trivial) (.inl rfl) (λb u hb q=>(bH _ _ (gG hb)).trans q) ⟨_,e⟩ ?_
 exact⟨hz,its',n',r,e⟩
def a7c:V->V->V->Hp->(Hp->Prop)->Prop:=λo i v H Q=>∃p xs k j,o=.ref p/\i=.int k/\H p=ZZ (.lst xs)/\ixN xs.length k=ZZ j/\Q (upd H p (.lst (xs.set j v)))
def set_list:PSet X a7c:=by
 intro zv s σ H o i v ov iv u Q I ro ri rv h;obtain⟨p,xs,k,j,rfl,rfl,hp,hj,q⟩:=h;cases ro;obtain⟨t,rfl⟩:=ri;obtain⟨its,n,r,ho,hz⟩:=I.lst hp;obtain⟨h1,h2,h3,h4⟩:=ata hj;have hl:=r.length;have hn:=alo;have I':Inv X zv σ (upd H p (.lst (xs.set j v))) { s with heap:=s.heap.update p (iH (·.setIfInBounds j u)) } :=
  I.lstUpd hp ho (aqb its n j u) (r.set rv j) (by rw[cC];exact hz) s.toks
 by_cases h0:0<=k
 ·have hk:k.toNat=j:=by
   rw[seqIndex_of h0 h4] at h1;exact cN h1
  exact PySem.W.ki_setAt ho h0 (by omega) (by rw[aW,<-hl];exact h4) (by rw[hk];exact⟨_,I',q⟩)
 ·have hk:(k+(its.toArray.size:Int)).toNat=j:=by
   rw[seqIndex_neg (by omega) h3] at h1
   rw[aW,<-hl];exact cN h1
  exact PySem.W.ki_setBack ho (by omega) (by rw[aW,<-hl];exact h3) (by omega) (by rw[hk];exact⟨_,I',q⟩)
def aks(lo hi:Option Int)(n:Nat):(sliceBounds lo hi ZY n).1=((HT.sIx n 0 lo:Nat):Int)/\(sliceBounds lo hi ZY n).2.1=((HT.sIx n n hi:Nat):Int)/\(sliceBounds lo hi ZY n).2.2=1:=by
 refine⟨?_,?_,rfl⟩
 ·cases lo with
  |none=>simp[sliceBounds,HT.sIx]
  |some i=>
   simp only[sliceBounds,HT.sIx,rM,show(1:Int) > 0 by decide,if_true]
   by_cases h:i<0
   ·simp only[h,if_true] <;> omega
   ·simp only[h,if_false] <;> omega
 ·cases hi with
  |none=>simp[sliceBounds,HT.sIx]
  |some i=>
   simp only[sliceBounds,HT.sIx,rM,show(1:Int) > 0 by decide,if_true]
   by_cases h:i<0
   ·simp only[h,if_true] <;> omega
   ·simp only[h,if_false] <;> omega
def ai9(its:List aG)(lo hi:Option Int):slicePick its.toArray lo hi ZY=((its.drop (HT.sIx its.length 0 lo)).take (HT.sIx its.length its.length hi-HT.sIx its.length 0 lo)).toArray:=by
 obtain⟨h1,h2,h3⟩:=aks lo hi its.toArray.size;unfold slicePick;rw[h1,h2,h3];simp only[sliceRange_one,pick_run,aW] <;> rfl
def rSlL(K:Fg9):V->Option Int->Option Int->Hp->VK->Prop:=λx lo hi H Q=>∃a xs,x=.ref a/\SqL K H a xs/\∀p,H p=ZY->Q (.ref p) (upd H p (.lst (cutV xs lo hi)))
def arn:SlR X (rSlL X.K):=by
 intro zv s σ H x v vl vu lo hi sl Q I rx hs pl pu h;obtain⟨a,xs,rfl,hx,q⟩:=h;cases rx;obtain⟨its,r,ht,hz⟩:=I.list hx;have hlen:=r.length;refine⟨"list", _,slot_list_getitem.lookup,ht.isList.typeIs,?_⟩;refine wpAny_getItem_list_slice ht.isList hs pl pu .none (by simp) ?_ (by rw[aW] <;> omega)
 rw[ai9,<-hlen];refine⟨.ref s.heap.objs.size,_,I.laid (t':=s.toks) (o:=.lst (cutV xs lo hi)) (λb ob q=>aB _ q) (aP _) ?_,rfl,q _ (I.hok.fresh (aP _))⟩
 exact⟨Nat.le_trans (ahj xs lo hi) hz,_,0,(r.drop (HT.sIx xs.length 0 lo)).take (HT.sIx xs.length xs.length hi-HT.sIx xs.length 0 lo),aM _ rfl⟩
def amb:abi X (.builtin "len") (λxs H Q=>∃p ys,xs=[.ref p]/\(SqL X.K H p ys∨SqT X.K H p ys)/\Q (.int ys.length) H):=by
 intro zv s σ H xs us Q I r h;obtain⟨p,ys,rfl,hq,q⟩:=h;obtain⟨u,rfl,rx⟩:=vals1 r;cases rx;have hn:=alo;rcases hq with hq |hq
 ·obtain⟨its,r',pl,hz⟩:=I.list hq;have hlen:=r'.length;exact Calls.call_len_list pl.isList (by simp only[aW] <;> omega) ⟨.int ys.length,H,I.tok _,⟨s.toks+1,by rw[aW,hlen]⟩,q⟩
 ·obtain⟨its,r',pl,hz⟩:=I.tuple hq;have hlen:=r'.length;exact len_tuple pl (by simp only[aW] <;> omega) ⟨.int ys.length,H,I.tok _,⟨s.toks+1,by rw[aW,hlen]⟩,q⟩
def ama:abi X (.type "list") (λxs H Q=>∃p ys,xs=[.ref p]/\(SqL X.K H p ys∨SqT X.K H p ys)/\∀l,H l=ZY->Q (.ref l) (upd H l (.lst ys))):=by
 intro zv s σ H xs us Q I r h;obtain⟨p,ys,rfl,hq,q⟩:=h;obtain⟨u,rfl,rx⟩:=vals1 r;cases rx;have fin:∀(its:List aG),Vals ys its->ys.length<=cJ->∀(h':eE) (c':Nat),(∀b o',s.heap.get? b=ZZ o'->h'.get? b=ZZ o') ->
   h'.get? s.heap.objs.size=ZZ { cls:=.type "list", dict:=ZY,data:=.seq its.toArray c',slots := #[] }->EP X zv σ Q (.ref s.heap.objs.size) { s with heap:=h' }:=λits r' hz h' c' kp e=>
  ⟨.ref s.heap.objs.size,_,I.laid (t':=s.toks) kp (aP _) (show xf X.prog X.w _ h' _ (.lst ys) from⟨hz,its,c',r',e⟩),rfl,q _ (I.hok.fresh (aP _))⟩
 rcases hq with hq |hq
 ·obtain⟨its,r',pl,hz⟩:=I.list hq;have hlen:=r'.length;obtain⟨o,ho,hc,n,hd⟩:=pl.isList;exact call_list_seq p (.inl rfl) ho hc hd (λh' c' kp e=>fin its r' hz h' c' kp e) (by simp only[aW] <;> omega)
 ·obtain⟨its,r',pl,hz⟩:=I.tuple hq;have hlen:=r'.length;obtain⟨o,ho,hc,n,hd⟩:=pl;exact call_list_seq p (.inr rfl) ho hc hd (λh' c' kp e=>fin its r' hz h' c' kp e) (by simp only[aW] <;> omega)
def aa8:abi X (.type "tuple") (λxs H Q=>∃p ys,xs=[.ref p]/\((SqL X.K H p ys/\∀l,H l=ZY->Q (.ref l) (upd H l (.tup ys)))∨(SqT X.K H p ys/\Q (.ref p) H))):=by
 intro zv s σ H xs us Q I r h;obtain⟨p,ys,rfl,h⟩:=h;obtain⟨u,rfl,rx⟩:=vals1 r;cases rx;rcases h with⟨hq,q⟩ |⟨hq,q⟩
 ·obtain⟨its,r',pl,hz⟩:=I.list hq;have hlen:=r'.length;refine call_tuple_list pl.isList (λh' kp=>?_) (by simp only[aW] <;> omega)
  have I1:Inv X zv σ H { s with heap:=h' }:=I.kept (t':=s.toks) kp
  have I2:Inv X zv σ (upd H h'.objs.size (.tup ys)) { s with heap:=h'.push { cls:=.type "tuple", data:=.seq its.toArray } } :=
   I1.laid (t':=s.toks) (λb o e=>aB _ e) (aP _) (show xf X.prog X.w _ _ _ (.tup ys) from⟨hz,its,r',IsTp.new _ _⟩)
  exact⟨.ref h'.objs.size,_,I2,rfl,q _ (I1.hok.fresh (aP _))⟩
 ·obtain⟨its,r',pl,hz⟩:=I.tuple hq;exact call_tuple_same pl ⟨.ref p,H,I,rfl,q⟩
def tyV(K:Fg9)(T:String)(x:V)(H:Hp):Prop:=match x with
 |.str _=>T = "str"
 |.int _=>T = "int"
 |.ref p=>(T = "list" /\ ∃xs,SqL K H p xs)∨(T = "tuple" /\ ((∃o,K.lookup p=ZZ o/\o.cls=.type "tuple" /\ o.dict=ZY)∨∃xs,H p=ZZ (.tup xs))) ∨
   (T = "dict" /\ ((∃kvs,H p=ZZ (.dK kvs))∨∃kvs,H p=ZZ (.dT kvs)))∨(T = "set" /\ ∃S n,H p=ZZ (.set S n))
 |_=>False
theorem a1h{zv:List (aQ×Obj)}{σ:St}{H:Hp}{s:aJ}{T:String}{x:V}{v:aG}(I:Inv X zv σ H s)(r:RelV x v)(ty:tyV X.K T x H) :
  s.TypeIs v T/\∀a,v=.ref a->∃ob,s.heap.get? a=ZZ ob/\ob.dict=ZY:=by
 cases x with
 |str z=>
  obtain⟨t,rfl⟩:=r;cases(show T = "str" from ty)
  exact⟨typeIs_str s z t,λ_ e=>nomatch e⟩
 |int i=>
  obtain⟨t,rfl⟩:=r;cases(show T = "int" from ty)
  exact⟨typeIs_int s i t,λ_ e=>nomatch e⟩
 |ref p=>
  cases r;rcases ty with⟨rfl,xs,hq⟩ |⟨rfl,⟨o,hk,hc,hd⟩ |⟨xs,hk⟩⟩ |⟨rfl,hk⟩ |⟨rfl,S,n,hk⟩
  ·obtain⟨its,_,pl,_⟩:=I.list hq;refine⟨pl.isList.typeIs,λa e=>?_⟩
   cases e;obtain⟨o,n,e,c,hd,_⟩:=pl;exact⟨o,e,hd⟩
  ·refine⟨⟨o,I.kIn p o hk,hc⟩,λa e=>?_⟩
   cases e;exact⟨o,I.kIn _ o hk,hd⟩
  ·obtain⟨_,_,_,o,e,hc,hd,_⟩:=I.hok p _ hk;refine⟨⟨o,e,hc⟩,λa e2=>?_⟩
   cases e2;exact⟨o,e,hd⟩
  ·have z:∃o,s.heap.get? p=ZZ o/\o.ExactDict:=by
    rcases hk with⟨kvs,hk⟩ |⟨kvs,hk⟩
    ·obtain⟨_,_,_,_,o,_,_,e,ex,_⟩:=I.hok p _ hk;exact⟨o,e,ex⟩
    ·obtain⟨_,_,_,_,o,_,_,e,ex,_⟩:=I.hok p _ hk;exact⟨o,e,ex⟩
   obtain⟨o,e,ex⟩:=z;refine⟨⟨o,e,ex.1⟩,λa e2=>?_⟩
   cases e2;exact⟨o,e,ex.2.1⟩
  ·obtain⟨o,_,_,_,e,ex,_⟩:=I.hok p _ hk;refine⟨⟨o,e,ex.1⟩,λa e2=>?_⟩
   cases e2;exact⟨o,e,ex.2.1⟩
 |_=>exact eF ty
def tBM(K:Fg9)(T:String)(r:V->List V->Hp->VK->Prop)(to:TE)(t:TA):TE:=λσ H Q=>to σ H λx H1=>tyV K T x H1/\t σ H1 λxs H2=>r x xs H2 Q
variable{o e:dI}{es:List dI}{to:TE}{t:TA}{name:Str}{apos cpos:Pos}{T id:String}{r:V->List V->Hp->VK->Prop}
def av0(pa:PlainAttrs T)(slot:Slot T name id)(hty:typeOf (.builtin id)=pure (.type "method_descriptor"))(hm:MtR X id r)(ho:PE X o to)(ha:PA X (e::es) t)
  (hbase:fQ o name X.env (eval o X.env)=eval o X.env:=by rfl)
  (hfew:((gC cpos (aO (e::es) X.env)).all (λx => !x.1)&&(backToKw cpos (keywordEach [] X.env)).all (λx=>x.1.isSome)
   && decide ((e::es).length+([]:List qG).length+(if ([]:List qG).isEmpty then 0 else 1)<30))=ZX:=by rfl)
  (hline:(apos.endLine==cpos.line)=ZX:=by rfl) (hs:Zc X e es:=by rfl) (hplain:(gC cpos (aO es X.env)).any (·.1)=ZW:=by rfl) :
  PE X (.Call (.Attribute o name apos) (e::es) [] cpos) (tBM X.K T r to t):=by
 intro zv s σ H Q I h;refine wpAny_Call_method_late hbase hfew hline rfl (thn (ho zv s σ H _ I h) λv s1 ⟨x,H1,I1,r1,ty,q1⟩=>?_)
 obtain⟨h1,h2⟩:=a1h I1 r1 ty;refine⟨T,id,pa,slot,hty,h1,h2,?_⟩;have hA:=ha cpos zv s1 σ H1 _ I1 q1;rw[hs] at hA ⊢
 refine Calls.callWith_builtin (by show(ZW||(gC cpos (aO es X.env)).any (·.1))=ZW;rw[hplain] <;> rfl) (vA ?_)
 exact thn hA λus s2 ⟨vs,H2,I2,r2,q2⟩=>hm zv s2 σ H2 x vs v us Q I2 r1 r2 q2
end
def MtM(X:Cx)(id:String)(r:V->List V->Hp->VK->Prop):Prop :=
 ∀(zv:List (aQ×Obj)) (s:aJ) (σ:St) (H:Hp) (x:V) (xs:List V) (v:aG) (us:List aG) (Q:VK),Inv X zv σ H s->RelV x v->Vals xs us->r x xs H Q ->
  bG (bL X.prog X.w) X.A (call (.builtin id) (v::us)) (EP X zv σ Q) X.xe s
theorem Vals.one:∀{x:V} {us:List aG},Vals [x] us->∃u,us=[u]/\RelV x u
 |_,_,.cons r .nil=>⟨_,rfl,r⟩
theorem Vals.rep{xs:List V}{us:List aG}(h:Vals xs us):∀k:Nat,Vals (aD k xs).flatten (aD k us).flatten
 | 0=>.nil
 |k+1=>by
  rw[dH,dH,iW,iW];exact Vals.append h (Vals.rep h k)
theorem foldl_rep(its:List aG):∀(k:Nat) (acc:List aG),
  lA (λx1 x2=>x1++x2) acc.toArray (aD k its.toArray)=(acc++(aD k its).flatten).toArray
 | 0,acc=>by simp
 |k+1,acc=>by
  have e:acc.toArray++its.toArray=(acc++its).toArray:=by simp
  have e2:(acc++its)++(aD k its).flatten=acc++(aD (k+1) its).flatten:=by
   rw[dH,iW,gB]
  rw[<-e2,<-foldl_rep its k (acc++its),<-e,dH,pK]
section
variable{X:Cx}{zv:List (aQ×Obj)}{σ:St}{H:Hp}{s:aJ}{l b:aQ}{xs ys zs:List V}
def Inv.lset{its its':List aG}{n:Nat}{f:Array aG->Array aG}{t':Nat}(I:Inv X zv σ H s)(hH:H l=ZZ (.lst xs))
  (e:s.heap.get? l=ZZ { cls:=.type "list", data:=.seq its.toArray n }) (hf:f its.toArray=its'.toArray) (hv:Vals ys its') (hz:ys.length<=cJ) :
  Inv X zv σ (upd H l (.lst ys)) { s with heap:=s.heap.update l (iH f),toks:=t' }:=by
 have q:=PySem.IsL.update e f;rw[hf] at q;refine I.write (x:=l) (e:=l) (by rw[hH];exact trivial) (.inl rfl) (λb' u hb hu=>(bH s.heap (iH f) (gG hb)).trans hu) ⟨_,q⟩ ?_
 exact⟨hz,its',_,hv,q⟩
def Inv.lnew{its:List aG}{t':Nat}(I:Inv X zv σ H s)(hv:Vals ys its)(hz:ys.length<=cJ) :
  Inv X zv σ (upd H s.heap.objs.size (.lst ys)) { s with heap:=s.heap.push { cls:=.type "list", data:=.seq its.toArray },toks:=t' } :=
 I.laid (λ_ _ q=>aB _ q) (aP _) ⟨hz,its,0,hv,aM _ rfl⟩
def Inv.fresh(I:Inv X zv σ H s):H s.heap.objs.size=ZY:=I.hok.fresh (aP _)
def Inv.lstM(I:Inv X zv σ H s)(hH:H l=ZZ (.lst xs)):xs.length<=cJ/\∃(its:List aG) (n:Nat),Vals xs its/\xs.length=its.length/\s.heap.get? l=ZZ { cls:=.type "list", data:=.seq its.toArray n }:=by
 obtain⟨z,its,n,r,e⟩:=I.hok l _ hH;exact⟨z,its,n,r,r.length,e⟩
def av8{n:Nat}(h:n<=cJ):uA n=ZW:=by
 unfold uA;exact decide_eq_false (by omega)
end
section
variable{X:Cx}
def ar6:V->List V->Hp->VK->Prop:=λx vs H Q=>∃l xs y,x=.ref l/\vs=[y]/\H l=ZZ (.lst xs)/\xs.length<cJ/\Q .non (upd H l (.lst (xs++[y])))
def aef:MtM X "list.append" ar6:=by
 intro zv s σ H x vs v us Q I rx rv h;obtain⟨l,xs,y,rfl,rfl,hH,hz,q⟩:=h;cases rx;obtain⟨u,rfl,ru⟩:=rv.one;obtain⟨z,its,n,r,hl,e⟩:=I.lstM hH;refine kY F.slot_list_append ⟨_,e,rfl⟩ F.entry_list_append (F.args_list_append_2 _ _) (PySem.list_append l its.toArray n u (by rw[aW];omega)) ⟨e,?_⟩
 refine⟨.non,_,I.lset (its':=its++[u]) hH e (by simp) (r.append (.cons ru .nil)) ?_,rfl,q⟩
 rw[bV,List.length_singleton];omega
def rCat:R2:=λx y H Q=>∃l b xs zs,x=.ref l/\y=.ref b/\H l=ZZ (.lst xs)/\H b=ZZ (.lst zs)/\xs.length+zs.length<=cJ/\∀p,H p=ZY->Q (.ref p) (upd H p (.lst (xs++zs)))
def a3b:OpR X (fY .Add) rCat:=by
 intro zv s σ H x y v u Q I rx ry h;obtain⟨l,b,xs,zs,rfl,rfl,hH,hB,hz,q⟩:=h;cases rx;cases ry;obtain⟨z,its,n,r,hl,e⟩:=I.lstM hH;obtain⟨z2,its2,n2,r2,hl2,e2⟩:=I.lstM hB;refine PySem.P.add_list e e2 ?_ (by rw[aW,aW];omega)
 have ea:its.toArray++its2.toArray=(its++its2).toArray:=by simp
 rw[ea];exact⟨.ref _,_,I.lnew (t':=s.toks) (r.append r2) (by rw[bV];omega),rfl,q _ I.fresh⟩
def rRep:R2:=λx y H Q=>∃l k xs,x=.ref l/\y=.int k/\H l=ZZ (.lst xs) /\ -(2 ^ 63)<=k/\k<2 ^ 63/\xs.length*k.toNat<=cJ /\
 ∀p,H p=ZY->Q (.ref p) (upd H p (.lst (aD k.toNat xs).flatten))
theorem len_rep{α:Type}(xs:List α)(k:Nat):(aD k xs).flatten.length=k*xs.length:=by
 induction k with
 |zero=>simp
 |succ k ih=>rw[dH,iW,bV,ih,Nat.succ_mul,Nat.add_comm]
def a2x:OpR X (fY .Mult) rRep:=by
 intro zv s σ H x y v u Q I rx ry h;obtain⟨l,k,xs,rfl,rfl,hH,h1,h2,hz,q⟩:=h;cases rx;obtain⟨t,rfl⟩:=ry;obtain⟨z,its,n,r,hl,e⟩:=I.lstM hH;have hlen:its.toArray.size*k.toNat<=cJ:=by rw[aW,<-hl];exact hz
 have hcap:¬its.toArray.size*k.toNat > (2 ^ 63-1) / 8:=by
  have:(cJ:Nat)<=(2 ^ 63-1) / 8:=by decide
  omega
 have hfit:¬(!Builtin.List.listFitsIndex k)=ZX:=by
  rw[fitsIndex_both h1 h2];exact cY
 have hlong:¬Builtin.List.listTooLong (its.toArray.size*k.toNat)=ZX:=by
  rw[av8 hlen];exact cY
 have hnew:lA (λx1 x2=>x1++x2) #[] (aD (if its.toArray.isEmpty=ZX then 0 else k.toNat) its.toArray)=(aD k.toNat its).flatten.toArray:=by
  have f0:∀m:Nat,lA (λx1 x2=>x1++x2) #[] (aD m its.toArray)=(aD m its).flatten.toArray:=λm=>by
   have:=foldl_rep its m [];rw[fV] at this;exact this
  rw[f0];cases its with
  |nil=>simp
  |cons a r'=>rw[if_neg (by simp)]
 refine wpAny_binaryOp_repeat_ref (T := "list") (U := "int") (by decide) ⟨_,e,rfl⟩ (λs'=>typeIs_int s' k t) noFill_list_mul sV lL repeat_list rO.lookup
  (kY lL (typeIs_int s k t) rP (rE _ _) (int___rmul___int_list k t l its.toArray n)
   ⟨e,rfl,⟨_,e,rfl⟩,kY F.slot_list_mul ⟨_,e,rfl⟩ F.entry_list_mul (F.args_list_mul_2 _ _) (AutoListH.list___mul___list_int_3 l its.toArray n k t hfit hcap hlong) ⟨e,?_⟩⟩)
 rw[hnew];exact⟨.ref _,_,I.lnew (t':=s.toks) (r.rep k.toNat) (by rw[len_rep,uP];exact hz),rfl,q _ I.fresh⟩
end
section
variable{prog:bT}{w:dB}{A:cQ}{E:aG->aJ->Prop}{s:aJ}
end
section
variable{X:Cx}
end
end L2
namespace Att
open PySem PySem.W PySem.Calls PyProof.Rows
theorem ag4{P:Params}{h:eE}:∀(ns:List Int) (vs:List aG),WellAll P h vs (ns.map WData.int)->oN vs ns:=by
 intro ns
 induction ns with
 |nil=>
  intro vs w;rw[rF] at w;cases w;exact .nil
 |cons n ns ih=>
  intro vs w;rw[bC] at w;cases w with
  |cons a b=>
   cases a;exact .cons _ _ (ih _ b)
theorem ars{l:OpenLaw}{n:Nat}(hn:l.most=ZZ n){P:Params}{h:eE}{args:List WData}{vals:List aG}
  (hpre:l.row.toRowW.claim.pre args=ZX) (hwl:WellAll P h vals args) :
  ∃a vs ns,vals=[cH a]/\args=[WData.list (ns.map WData.int)]/\h.get? a=ZZ { cls:=.type "list", data:=.seq vs.toArray }/\oN vs ns/\ns.length<=n:=by
 have hsh:WShape.hasAll [] args [.list .int]=ZX:=(pre_splitW hpre).1;have hc:l.pre.holds [] { args:=args }=ZX:=(pre_splitW hpre).2;obtain⟨d,r,rfl,h1,h2⟩:=hasAllW_cons hsh;obtain rfl:=hasAllW_nil h2;obtain⟨xs,rfl,h3⟩:=hasW_list h1;obtain⟨ns,rfl⟩:=items_int h3;have hlen:ns.length<=n:=by
  unfold OpenLaw.pre at hc;have h4:(WTm.not (.lt (.lit (.int (n:Int))) (.len (.arg 0)))).holds [] { args:=[.list (ns.map .int)] }=ZX:=by
   have h4:=(holds_andW hc).1;rw[hn] at h4;exact h4
  have h5:=condW_of h4 (w_not (w_lt w_lit (w_len_list (w_arg rfl))));rw[aL] at h5;refine Nat.le_of_not_lt λq=>?_
  have q':(n:Int)<((ns.length:Nat):Int):=by omega
  first
   | (rw[decide_eq_true q'] at h5;exact absurd h5 (by decide))
   | (simp at h5;omega)
 cases hwl with
 |cons w1 w2=>
  cases w2;cases w1 with
  |list ho hall=>exact⟨_,_,ns,rfl,rfl,ho,ag4 ns _ hall,hlen⟩
def asb(l:OpenLaw)(args:List WData):l.row.toRowW.claim.post args (.bool ZX) args=ZX :=
 postW_of (r:=l.row.toRowW) (X:=(ZX==ZX))
  (show WShape.has [] (.bool ZX) .bool=ZX by first |rfl |decide |simp[WShape.has,WShape.arms,WShape.armsAll])
  (show(WTm.eq .res (.lit (.bool ZX))).value [] { args:=args,res:=ZZ (.bool ZX),after:=args }=ZZ (.bool (ZX==ZX)) from w_eq_bool (w_res rfl) w_lit) rfl
def an4{l:OpenLaw}{n:Nat}{q:bT}{loose:List Str}{XP:(Str->Option aG)->eE->Prop}{YP:dB->eE->Prop}{d:DefRec}
  (hn:l.most=ZZ n) (hdf:d.params.defaults=[])
  (call:∀(w:dB) (s₀ s₁:aJ) (mg mb:Str->Option aG) (fa:aQ) (o:Obj) (pm cd doc:aG) (a:aQ) (vs:List aG) (ns:List Int),
   Ground q loose [] XP w s₀ mg mb s₁.heap->YP w s₁.heap ->
   s₁.heap.get? fa=ZZ o->o.data=.func (docDef d.name d.params d.body d.scope pm cd doc)->s₁.heap.CodeRec cd d.name->mg d.name=ZZ (.ref fa) ->
   s₁.heap.get? a=ZZ { cls:=.type "list", data:=.seq vs.toArray }->oN vs ns->ns.length<=n->s₁.gens = #[] ->
   mJ (bL l.prog w) qX (.call (.ref fa) ⟨[.ref a],[]⟩) (λr s'=>r=.ok (.ret (.bool ZX))/\OldK s₁.heap s'.heap/\s'.os=s₁.os/\pQ s'.gens) s₁) :
  WalkO q loose XP YP l.row.toRowW d [] (λf vs=>wL f vs):=by
 intro w s₀ s₁ mg mb G Y fa o pm cd doc dV kV ho hd hcd hD hmg hg args vals as hpre hlay hrd hwl hlo;obtain rfl:dV=.none:=Dflts.none hD hdf;obtain rfl:kV=.none:=Dflts.noKw hD;obtain⟨a,vs,ns,rfl,rfl,hobj,hints,hlen⟩:=ars hn hpre hwl;refine enter_call (jK (call w s₀ s₁ mg mb fa o pm cd doc a vs ns G Y ho (fd_plain hd) hcd hmg hobj hints hlen hg) λr s' hq=>?_)
 obtain⟨rfl,h2,h3,h4⟩:=hq;exact⟨.inl ⟨.bool ZX,.bool ZX,[],rfl,λ_=>rfl,.bool ZX,asb l _,λ_=>⟨List.Pairwise.nil,λ_ hm=>(nomatch hm)⟩⟩,h2,h3,h4⟩
section
variable{prog:bT}{w:dB}{A:cQ}{E:aG->aJ->Prop}{s:aJ}{K:Frag}
end
end Att
namespace L2
theorem akl:∀{vs:List aG} {ns:List Int},oN vs ns->Vals (ns.map V.int) vs
 |_,_,.nil=>.nil
 |_,_,.cons n t h=>.cons ⟨t,rfl⟩ (akl h)
def Only(H:Hp):Prop:=∀b,H b=ZY∨∃o xs,H b=ZZ (.frz o (.lst xs))
theorem awh{P:bT}{w:dB}{K:Fg9}{mg mb:Str->Option aG}{CX:CXT}{k:Nat}{fa a:aQ}{fd:eQ}{x:Str}{sp:Sp}{s₁:aJ}{vs:List aG}{ns:List Int}
  (KX:K.In s₁.heap) (hns:s₁.heap.Ns aV mg) (hb:s₁.heap.Ns builtinsNs mb) (hbb:∀x:Str,x ≠ "__name__" -> mb x=bR x) (hlim:s₁.heap.NoLimit) (hg:s₁.gens = #[])
  (ha:s₁.heap.get? a=ZZ { cls:=.type "list", data:=.seq vs.toArray }) (hi:oN vs ns) (hl:ns.length<=cJ) (hr:Room k qX)
  (F:∀base:eE,K.In base->base.Ns aV mg->FnOk P w K mg base CX k fa fd [x] sp) (hbind:∀(s:aJ) (u:aG),oR s fd ⟨[u],[]⟩ [(x,u)])
  (hsp:∀H:Hp,Only H->SqL K H a (ns.map V.int)->sp [.ref a] H (λv _=>v=.bl ZX) λ_ _ _=>False)
  (hCX:∀H e s',CX [] H s₁ (λ_ _ _=>False) e s'->False) :
  mJ (bL P w) qX (.call (.ref fa) ⟨[.ref a],[]⟩) (λr s'=>r=.ok (.ret (.bool ZX))/\OldK s₁.heap s'.heap/\s'.os=s₁.os/\pQ s'.gens) s₁:=by
 have rv:=akl hi;have lenV:=hi.length;have core:∀H:Hp,Only H->SqL K H a (ns.map V.int)->HOk P w H s₁.heap->(∀b,H b≠ZY->b=a)->(H a≠ZY->K.lookup a=ZY) ->
   mJ (bL P w) qX (.call (.ref fa) ⟨[.ref a],[]⟩) (λr s'=>r=.ok (.ret (.bool ZX))/\OldK s₁.heap s'.heap/\s'.os=s₁.os/\pQ s'.gens) s₁:=by
  intro H hO hS hok hA hK;have base_of:∀{b:aQ} {o:Obj},s₁.heap.get? b=ZZ o->H b=ZY->(hidT s₁.heap H).get? b=ZZ o:=λe n=>awo e n
  have noA:∀{b:aQ} {o:Obj} {es:Array DictEntry} {ep:Nat},s₁.heap.get? b=ZZ o->o.data=.dict es ep->H b=ZY:=λ{b o es ep} e d=>by
   cases q:H b with
   |none=>rfl
   |some u=>
    have e':b=a:=hA b (by rw[q];simp)
    subst e';rw[ha] at e;cases e;have d':Data.seq vs.toArray _=Data.dict es ep:=d;cases d'
  have nsK:∀{b:aQ} {m:Str->Option aG},s₁.heap.Ns b m->(hidT s₁.heap H).Ns b m:=λ{b m} ⟨o,es,ep,e,d,r⟩=>⟨o,es,ep,base_of e (noA e d),d,r⟩
  have hKb:K.In (hidT s₁.heap H):=λb o e=>base_of (KX b o e) (by
   cases q:H b with
   |none=>rfl
   |some u=>
    have e':b=a:=hA b (by rw[q];simp)
    subst e';rw[hK (by rw[q];simp)] at e;cases e)
  have hM:Mod K mg (hidT s₁.heap H):=⟨hKb,nsK hns,⟨mb,nsK hb,hbb⟩,let ⟨mc,h1,h2⟩:=hlim;⟨mc,nsK h1,h2⟩⟩
  have e0:Env0 P w K mg (hidT s₁.heap H) qX [] s₁ H:=⟨rfl,hM,λb o e=>azu e,nD (ate _ _),trivial,λb hb=>absurd (show b∈([]:List aQ) from hb) (by simp),hok,.of_eq hg⟩
  refine jK ((F _ hKb (nsK hns)).run qX [] s₁ H ⟨[.ref a],[]⟩ [.ref a] [.ref a] _ _ hr e0 (hbind s₁ (.ref a)) (.cons rfl .nil) (hsp H hO hS)) λr s' h=>?_
  cases r with
  |error e=>exact(hCX H e s' h).elim
  |ok fl=>
   cases fl with
   |next=>exact eF h
   |brk=>exact eF h
   |cont=>exact eF h
   |ret u=>
    obtain⟨v,H',os,bare,un,hok',r',q⟩:=h;have q':v=.bl ZX:=q;subst q';obtain rfl:u=pU ZX:=r';refine⟨rfl,OldK.of_keep λb o e=>?_,os,bare⟩
    cases q:H b with
    |none=>exact un.keep b o e q (by intro z;exact absurd (show b∈([]:List aQ) from z) (by simp)) (by simp)
    |some u=>
     rcases hO b with z |⟨ob,xs,z⟩
     ·rw[q] at z;cases z
     ·have z2:=un.frzs b ob _ z;obtain⟨e1,_⟩:=hok b _ z;obtain⟨e2,_⟩:=hok' b _ z2;rw[e] at e1;cases e1;exact e2
 cases hk:K.lookup a with
 |some o=>
  have e:=KX a o hk;rw[ha] at e;cases e;refine core (λ_=>ZY) (λ_=>.inl rfl) (.inr ⟨_,vs.toArray,_,hk,rfl,rfl,rfl,by rw[aW,lenV];exact hl,by simpa using rv⟩) (λb u z=>by have z':(ZY:Option HO)=ZZ u:=z;cases z') (λb z=>absurd rfl z) λz=>absurd rfl z
 |none=>
  refine core (λb=>if b=a then ZZ (.frz { cls:=.type "list", data:=.seq vs.toArray } (.lst (ns.map V.int))) else ZY) (λb=>?_) (.inl (.inr ⟨{ cls:=.type "list", data:=.seq vs.toArray },if_pos rfl⟩)) (λb u z=>?_) (λb z=>?_) λ_=>hk
  ·by_cases hb:b=a
   ·exact .inr ⟨_,_,if_pos hb⟩
   ·exact .inl (if_neg hb)
  ·by_cases hb:b=a
   ·have z':=(if_pos hb).symm.trans z;cases z';subst hb;exact⟨ha,by rw[aL];exact hl,vs,_,rv,ha⟩
   ·have z':=(if_neg hb).symm.trans z;cases z'
  ·by_cases hb:b=a
   ·exact hb
   ·exact absurd (if_neg hb) z
def ayc{l:sH}{n k:Nat}{q:bT}{loose:List Str}{XP:(Str->Option aG)->eE->Prop}{YP:dB->eE->Prop}{d:DefRec}{K:Params->Fg9}{CX:dB->CXT}{sp:dB->Sp}{x:Str}
  (hn:l.most=ZZ n) (hn2:n<=cJ) (hdf:d.params.defaults=[]) (hr:Room k qX)
  (hY:∀(w:dB) (h:eE),YP w h->(K w.params).In h)
  (F:∀(w:dB) (mg:Str->Option aG) (fa:aQ) (h:eE),(K w.params).In h->h.Ns aV mg->mg d.name=ZZ (.ref fa) ->
   ∃fd:eQ,(∀(s:aJ) (u:aG),oR s fd ⟨[u],[]⟩ [(x,u)]) /\
    ∀base:eE,(K w.params).In base->base.Ns aV mg->FnOk l.prog w (K w.params) mg base (CX w) k fa fd [x] (sp w))
  (hsp:∀(w:dB) (H:Hp) (a:aQ) (ns:List Int),ns.length<=n->Only H->SqL (K w.params) H a (ns.map V.int)->sp w [.ref a] H (λv _=>v=.bl ZX) λ_ _ _=>False)
  (hCX:∀(w:dB) (H:Hp) (s:aJ) (e:aG) (s':aJ),CX w [] H s (λ_ _ _=>False) e s'->False) :
  zA q loose XP YP l.row.toRowW d [] (λf vs=>wL f vs):=by
 refine Att.an4 hn hdf λw s₀ s₁ mg mb fa o pm cd doc a vs ns G Y ho hd hcd hmg hobj hints hlen hg=>?_
 have KX:=hY w _ Y;obtain⟨fd,hb,hF⟩:=F w mg fa _ KX G.T.g hmg;exact awh KX G.T.g G.T.b G.T.builtins G.T.nolimit hg hobj hints (cW hlen hn2) hr hF hb (λH hO hS=>hsp w H a ns hlen hO hS) λH e s'=>hCX w H s₁ e s'
def j8(s:gK):Arguments:=match s with
 |.FunctionDef _ a _ _ _ _ _ _ _ _=>a
 |_=>{ posonlyargs:=[],args:=[],vararg:=ZY,kwonlyargs:=[],kw_defaults:=[],kwarg:=ZY,defaults:=[] }
def jc(s:gK):List gK:=match s with
 |.FunctionDef _ _ b _ _ _ _ _ _ _=>b
 |_=>[]
def ao(s:gK):nJ:=match s with
 |.FunctionDef _ _ _ _ _ _ sc _ _ _=>sc
 |_=>{ kind:=.function,names:=[],isGenerator:=ZW,isCoroutine:=ZW }
abbrev CX0:CXT:=λ_ _ _ _ _ _=>False
abbrev E0:XK:=λ_ _ _=>False
def azn{X:Cx}:aiz CX0 X E0:=λ_ _ _ _ _ _ _ h=>h.elim
structure Fun (K:Fg9) (x qual:Str) (st:gK) (f:aQ) (fd:eQ):Prop where
 ex:∃(oc:aG) (od:Option aQ) (kV doc pm:aG) (an:Option aQ) (cdv ct:aG) (osl:Array (Option aG)),
  fd=fnOf x qual (j8 st) (jc st) (ao st) .none kV doc pm an cdv ct/\K.lookup f=ZZ ⟨oc,od,.func fd,osl⟩/\rW K cdv qual=ZX
 kp:kW K (.ref f)=ZX
section
variable{P:bT}{w:dB}{K:Fg9}{mg:Str->Option aG}{base:eE}
def Fun.ok{x qual:Str}{st:gK}{f:aQ}{fd:eQ}{N ps:List Str}{k:Nat}{sp:Sp}(F:Fun K x qual st f fd)(S:FnScope N ps (ao st))(len:∀vs H Q E,sp vs H Q E->vs.length=ps.length)
  (hbody:∀(cdv:aG) (A:cQ) (outer:List Env) (s:aJ) (H:Hp) (vs:List V) (Q:VK) (E:XK),Room k (A.deeper (mY qual (ao st) s.heap.objs.size f cdv))->sp vs H Q E ->
   ∃t,PSs (cxOf CX0 P w K mg base N qual (ao st) f cdv A outer s H E).nox (jc st) t/\t { nx:=λ_ H'=>Q .non H',rt:=Q } (start N vs) H):FnOk P w K mg base CX0 (k+1) f fd ps sp:=by
 obtain⟨oc,od,kV,doc,pm,an,cdv,ct,osl,rfl,lk,hcd⟩:=F.ex;refine a4n lk hcd S len λA outer s H vs Q E hr hsp=>?_
 obtain⟨t,h,q⟩:=hbody cdv A outer s H vs Q E hr hsp;exact⟨t,h.nox,q⟩
def Fun.binds{x qual:Str}{st:gK}{f:aQ}{fd:eQ}{ps:List Str}(F:Fun K x qual st f fd)
  (h:∀(kV doc pm:aG) (an:Option aQ) (cdv ct:aG) (us:List aG),us.length=ps.length->pR (fnOf x qual (j8 st) (jc st) (ao st) .none kV doc pm an cdv ct) ⟨us,[]⟩=pure (ps.zip us)):Binds K fd ps []:=by
 obtain⟨oc,od,kV,doc,pm,an,cdv,ct,osl,rfl,lk,hcd⟩:=F.ex;exact .all (h kV doc pm an cdv ct)
def ait{x qual:Str}{st:gK}{f:aQ}{oc:aG}{od an:Option aQ}{osl:Array (Option aG)}{kV doc pm cdv ct:aG}(l:K.lookup f=ZZ ⟨oc,od,.func (fnOf x qual (j8 st) (jc st) (ao st) .none kV doc pm an cdv ct),osl⟩)
  (c:rW K cdv qual=ZX) (k:kW K (.ref f)=ZX):Fun K x qual st f (fnOf x qual (j8 st) (jc st) (ao st) .none kV doc pm an cdv ct):=⟨⟨oc,od,kV,doc,pm,an,cdv,ct,osl,rfl,l,c⟩,k⟩
end
def arl{n:Nat}(h:n<=1000):n<cJ:=Nat.lt_of_le_of_lt h (by decide)
section
variable{X:Cx}
def pv(i:Nat){x:Str}{pos:Pos}(hN:X.N[i]? = ZZ x:=by rfl)(hv:Vis X.env.scope x:=by first |exact bO rfl |exact qJ (bO rfl) |exact qJ (qJ rfl))(hd:Zb x:=by decide)
  (hcd:(x==("__classdict__" : Str))=ZW:=by decide):PE X (.Name x pos) (tVar i):=a2k hN hv hd hcd
end
def iteF{A B:Prop}(h:B):if ZW=ZX then A else B:=by
 rw[if_neg cY];exact h
def iteT{A B:Prop}(h:A):if ZX=ZX then A else B:=by
 rw[if_pos rfl];exact h
def Same(H H':Hp):Prop:=∀b o,H b=ZZ o->H' b=ZZ o
def Same.refl(H:Hp):Same H H:=λ_ _ h=>h
def Same.trans{H H1 H2:Hp}(a:Same H H1)(b:Same H1 H2):Same H H2:=λc o h=>b c o (a c o h)
def Same.seq{K:Fg9}{H H':Hp}{a:aQ}{xs:List V}(e:Same H H')(h:SqL K H a xs):SqL K H' a xs:=by
 rcases h with(h |⟨o,h⟩) |h
 ·exact .inl (.inl (e _ _ h))
 ·exact .inl (.inr ⟨o,e _ _ h⟩)
 ·exact .inr h
end L2
namespace Mn
open L2
noncomputable def aat(env:Env)(fr:List Str):List (Str×Addr):=fr.filterMap λn=>(env.cells.lookup n).map λc=>(n,c)
def ahm{env:Env}{n:Str}{r:List Str}(e:env.cells.lookup n=ZY):aat env (n::r)=aat env r:=by
 unfold aat;rw[iD,e];rfl
def adp{env:Env}{n:Str}{r:List Str}{c:aQ}(e:env.cells.lookup n=ZZ c):aat env (n::r)=(n,c)::aat env r:=by
 unfold aat;rw[iD,e];rfl
def look_same{x:Str}{c:aQ}{l:List (Str×Addr)}:bK x ((x,c)::l)=ZZ c:=by
 have hb:(x==x)=ZX:=beq_iff_eq.mpr rfl;simp only[bK,hb]
def ain{x n:Str}{c:aQ}{l:List (Str×Addr)}(h:x≠n):bK x ((n,c)::l)=l.lookup x:=by
 have hb:(x==n)=ZW:=beq_eq_false_iff_ne.mpr h;simp only[bK,hb]
theorem vq{env:Env}:∀{fr:List Str} {x:Str} {c:aQ},(aat env fr).lookup x=ZZ c->env.cells.lookup x=ZZ c
 | [],x,c,h=>by
  have h':(ZY:Option aQ)=ZZ c:=h;cases h'
 |n::r,x,c,h=>by
  cases e:env.cells.lookup n with
  |none=>
   rw[ahm e] at h;exact vq h
  |some d=>
   rw[adp e] at h
   by_cases hx:x=n
   ·subst hx;rw[look_same] at h;rw[e];exact h
   ·rw[ain hx] at h;exact vq h
theorem acn{env:Env}:∀{fr:List Str} {x:Str} {c:aQ},x∈fr->env.cells.lookup x=ZZ c->(aat env fr).lookup x=ZZ c
 | [],x,c,hm,h=>absurd hm (by simp)
 |n::r,x,c,hm,h=>by
  by_cases hx:x=n
  ·subst hx;rw[adp h,look_same]
  ·have hm':x∈r:=(bA.mp hm).elim (λe=>absurd e hx) id
   cases e:env.cells.lookup n with
   |none=>
    rw[ahm e];exact acn hm' h
   |some d=>
    rw[adp e,ain hx];exact acn hm' h
noncomputable def agf(XN fr:List Str):List Str->List (Option Nat)->Bool
 | [],[]=>ZX
 |_::N,ZY::r=>agf XN fr N r
 |x::N,ZZ j::r=>XN[j]? == ZZ x&&fr.contains x&&agf XN fr N r
 |_,_=>ZW
theorem age{XN fr:List Str}:∀{N:List Str} {src:List (Option Nat)} {i j:Nat} {x:Str},agf XN fr N src=ZX->N[i]? = ZZ x->src[i]? = ZZ (ZZ j)->XN[j]? = ZZ x/\x∈fr
 | [],[],i,j,x,_,h,_=>by simp at h
 | [],_::_,i,j,x,_,h,_=>by simp at h
 |_::_,[],i,j,x,_,_,h=>by simp at h
 |y::N,ZY::r,0,j,x,_,_,h=>by simp at h
 |y::N,ZY::r,i+1,j,x,hk,h1,h2=>age (N:=N) (src:=r) (i:=i) hk (by simpa using h1) (by simpa using h2)
 |y::N,ZZ k::r,0,j,x,hk,h1,h2=>by
  simp only[agf,bB] at hk;obtain⟨⟨a,b⟩,_⟩:=hk;simp at h1 h2;subst h1 h2;exact⟨by simpa using a,by simpa using b⟩
 |y::N,ZZ k::r,i+1,j,x,hk,h1,h2=>by
  simp only[agf,bB] at hk;exact age (N:=N) (src:=r) (i:=i) hk.2 (by simpa using h1) (by simpa using h2)
theorem agd{XN fr:List Str}:∀{N:List Str} {src:List (Option Nat)},agf XN fr N src=ZX->src.length=N.length
 | [],[],_=>rfl
 | [],_::_,h=>by simp[agf] at h
 |_::_,[],h=>by simp[agf] at h
 |_::N,ZY::r,h=>by
  have:=agd (N:=N) (src:=r) h;simp[this]
 |_::N,ZZ k::r,h=>by
  simp only[agf,bB] at h;have:=agd (N:=N) (src:=r) h.2;simp[this]
def pick(src:List (Option Nat))(σ:L2.St):L2.St:=src.map λo=>o.bind λj=>(σ[j]?).bind id
theorem avu{src:List (Option Nat)}{σ:L2.St}{i:Nat}{v:V}(h:(pick src σ)[i]? = ZZ (ZZ v)):∃j,src[i]? = ZZ (ZZ j)/\σ[j]? = ZZ (ZZ v):=by
 unfold pick at h;rw[aX] at h;cases e:src[i]? with
 |none=>rw[e] at h;cases h
 |some o=>
  rw[e] at h;have h':(o.bind λj=>(σ[j]?).bind id)=ZZ v:=cN h
  cases o with
  |none=>cases h'
  |some j=>
   refine⟨j,rfl,?_⟩;have h2:(σ[j]?).bind id=ZZ v:=h';cases q:σ[j]? with
   |none=>rw[q] at h2;cases h2
   |some z=>
    rw[q] at h2;have h3:z=ZZ v:=h2;rw[h3]
def aiy(env:Env)(XN:List Str)(scope:nJ)(fr N:List Str)(src:List (Option Nat)):Bool :=
 scope.names.all (λy=>y.2 != .cell&&(y.2 != .local||scope.names.lookup y.1==ZZ .local)&&(y.2 != .free||fr.contains y.1)) &&
 fr.all (λx=>scope.names.lookup x==ZZ .free&&(env.kindOf x==ZZ .cell||env.kindOf x==ZZ .free))&&agf XN fr N src
structure CompOk (env:Env) (XN:List Str) (scope:nJ) (fr N:List Str) (src:List (Option Nat)):Prop where
 cell:∀y∈scope.names,y.2≠.cell
 loc:∀y∈scope.names,y.2=.local->scope.names.lookup y.1=ZZ .local
 free:∀y∈scope.names,y.2=.free->y.1∈fr
 frk:∀x∈fr,scope.names.lookup x=ZZ .free
 out:∀x∈fr,env.kindOf x=ZZ .cell∨env.kindOf x=ZZ .free
 src:agf XN fr N src=ZX
def CompOk.of{env:Env}{XN:List Str}{scope:nJ}{fr N:List Str}{src:List (Option Nat)}(h:aiy env XN scope fr N src=ZX):CompOk env XN scope fr N src:=by
 simp only[aiy,bB,cR] at h;obtain⟨⟨h1,h2⟩,h3⟩:=h;refine⟨λy hy=>?_,λy hy e=>?_,λy hy e=>?_,λx hx=>?_,λx hx=>?_,h3⟩
 ·have:=(h1 y hy).1.1
  simpa using this
 ·have:=(h1 y hy).1.2;rw[e] at this
  simpa using this
 ·have:=(h1 y hy).2;rw[e] at this
  simpa using this
 ·have:=(h2 x hx).1
  simpa using this
 ·have:=(h2 x hx).2
  simpa using this
theorem afl{env:Env}:∀{names:List (Str×NameKind)} {x:Str} {k:uG},
  (names.map λ(n,k)=>if (k==eH&&env.scope.kind==.function&&env.kindOf n==ZZ .cell) then (n,jV) else (n,k)).lookup x=ZZ k ->
  ∃k0,names.lookup x=ZZ k0/\(k=k0∨(k0=.free/\k=.cell))
 | [],x,k,h=>by simp at h
 | (n,q)::r,x,k,h=>by
  by_cases hx:x=n
  ·subst hx;have hb:(x==x)=ZX:=beq_iff_eq.mpr rfl;refine⟨q,by simp only[bK,hb],?_⟩
   by_cases hc:(q==eH&&env.scope.kind==.function&&env.kindOf x==ZZ .cell)=ZX
   ·rw[bC] at h;simp only[hc,if_true,bK,hb] at h;simp only[bB] at hc;exact .inr ⟨by simpa using hc.1.1,(cN h).symm⟩
   ·rw[bC] at h;simp only[hc,bK,hb] at h;exact .inl (by simpa using h.symm)
  ·have hb:(x==n)=ZW:=beq_eq_false_iff_ne.mpr hx;have h':(r.map λ(n,k)=>if (k==eH&&env.scope.kind==.function&&env.kindOf n==ZZ .cell) then (n,jV) else (n,k)).lookup x=ZZ k:=by
    rw[bC] at h
    by_cases hc:(q==eH&&env.scope.kind==.function&&env.kindOf n==ZZ .cell)=ZX
    ·simp only[hc,if_true,bK,hb] at h;exact h
    ·have h2:bK x ((if (q==eH&&env.scope.kind==.function&&env.kindOf n==ZZ .cell)=ZX then (n,jV) else (n,q))::(r.map λ(n,k)=>if (k==eH&&env.scope.kind==.function&&env.kindOf n==ZZ .cell) then (n,jV) else (n,k)))=ZZ k:=h
     rw[if_neg hc] at h2;simp only[bK,hb] at h2;exact h2
   obtain⟨k0,e,d⟩:=afl h';exact⟨k0,by simp only[bK,hb];exact e,d⟩
theorem abp{env:Env}:∀{names:List (Str×NameKind)} {x:Str},names.lookup x=ZZ .free ->
  (names.map λ(n,k)=>if (k==eH&&env.scope.kind==.function&&env.kindOf n==ZZ .cell) then (n,jV) else (n,k)).lookup x=ZZ .free ∨
  (names.map λ(n,k)=>if (k==eH&&env.scope.kind==.function&&env.kindOf n==ZZ .cell) then (n,jV) else (n,k)).lookup x=ZZ .cell
 | [],x,h=>by simp at h
 | (n,q)::r,x,h=>by
  by_cases hx:x=n
  ·subst hx;have hb:(x==x)=ZX:=beq_iff_eq.mpr rfl;simp only[bK,hb] at h;have hq:q=.free:=cN h;subst hq
   by_cases hc:(eH==eH&&env.scope.kind==.function&&env.kindOf x==ZZ .cell)=ZX
   ·right
    rw[bC];simp only[hc,if_true,bK,hb]
   ·left
    show bK x ((if (eH==eH&&env.scope.kind==.function&&env.kindOf x==ZZ .cell)=ZX then (x,jV) else (x,eH))::_)=ZZ eH
    rw[if_neg hc];simp only[bK,hb]
  ·have hb:(x==n)=ZW:=beq_eq_false_iff_ne.mpr hx;simp only[bK,hb] at h;rw[bC]
   by_cases hc:(q==eH&&env.scope.kind==.function&&env.kindOf n==ZZ .cell)=ZX
   ·simp only[hc,if_true,bK,hb];exact abp h
   ·simp only[hc,bK,hb]
    simpa[bK,hb] using abp (env:=env) h
def cxC(X:Cx)(N:List Str)(scope:nJ)(fr:List Str)(fp:List aQ)(s:aJ)(H:Hp):Cx where
 prog:=X.prog
 w:=X.w
 K:=X.K
 mg:=X.mg
 base:=X.base
 A:=X.A
 N:=N
 s₀:=s
 H₀:=H
 env:=compEnvC scope (aat X.env fr) s.heap.objs.size X.env
 outer:=X.stack
 stack:=X.stack
 ex:=fp
 fn:=λ_=>ZW
 calm:=X.calm
 pn:=[]
 xe:=λ_ _=>False
section
variable{X:Cx}{zv:List (aQ×Obj)}{σ:L2.St}{H:Hp}{s:aJ}{scope:nJ}{fr N:List Str}{src:List (Option Nat)}{fp:List aQ}
def a4u(I:Inv X zv σ H s)(C:CompOk X.env X.N scope fr N src)(hkind:scope.kind=.function)(hf:∀b∈fp,FpOk X zv H b)(hl:∀b∈fp,b<s.heap.objs.size):(cxC X N scope fr fp s H).Ok where
 mod:=I.ok.mod
 kind:=hkind
 glob:=I.ok.glob
 blt:=I.ok.blt
 above:=aP _
 inj:=λx y c h1 h2=>I.ok.inj x y c (vq h1) (vq h2)
 has:=λx hx=>by
  have mem:∀k,(k=jV∨k=eH)->(cxC X N scope fr fp s H).env.kindOf x=ZZ k->x∈fr:=λk hk e=>by
   obtain⟨k0,e0,d⟩:=afl (env:=X.env) (names:=scope.names) e;have hm:=jA e0;rcases d with rfl |⟨rfl,_⟩
   ·rcases hk with rfl |rfl
    ·exact absurd rfl (C.cell _ hm)
    ·exact C.free _ hm rfl
   ·exact C.free _ hm rfl
  have hm:x∈fr:=by
   rcases hx with e |e
   ·exact mem _ (.inl rfl) e
   ·exact mem _ (.inr rfl) e
  obtain⟨c,hc⟩:=I.ok.has x (C.out x hm);exact⟨c,acn hm hc⟩
 cab:=λ_ _ h _=>absurd h cY
 hd:=I.ok.hd
 frames:=I.ok.frames
 stk:=.inl rfl
 exf:=λb hb=>⟨Nat.ne_of_lt (hl b hb),λx c e=>(hf b hb).2.2.2.2.1 x c (vq e)⟩
 bs:=I.bs
 bsz:=cW I.ok.bsz I.sz
 noex:=λb o e hb=>by
  rcases(hf b hb).2.2.2.1 with z |z
  ·exact I.ok.noex b o e z
  ·exact absurd (bY (aN e) (cW I.ok.bsz z)) (lF _)
 exfs:=λb hb z=>by
  rcases bA.mp (I.stkSub b z) with e |e
  ·exact(hf b hb).2.1 e
  ·exact(hf b hb).2.2.1 e
 funs:=I.stack
 frf:=I.stkFree
def aoy(I:Inv X zv σ H s)(C:CompOk X.env X.N scope fr N src)(hkind:scope.kind=.function)(hf:∀b∈fp,FpOk X zv H b)(hl:∀b∈fp,b<s.heap.objs.size){h':eE}{tk:Nat}{m:Str->Option aG}
  (hns:h'.Ns s.heap.objs.size m) (hk:∀b o,s.heap.get? b=ZZ o->h'.get? b=ZZ o):Inv (cxC X N scope fr fp s H) [] (pick src σ) H { s with heap:=h',toks:=tk } where
 ok:=a4u I C hkind hf hl
 os:=rfl
 bare:=I.bare
 base:=Un.kept hk
 loc:=by
  refine⟨m,hns,λi x v h1 h2 h3=>?_⟩
  obtain⟨j,hj,hv⟩:=avu h2;obtain⟨hN,hm⟩:=age C.src h1 hj;obtain⟨mo,_,hlo⟩:=I.loc;have vis:Vis X.env.scope x:=by
   rcases C.out x hm with e |e
   ·exact .inr (.inl e)
   ·exact .inr (.inr e)
  obtain⟨u,r,l⟩:=hlo j x v hN hv vis;refine⟨u,r,.inr ⟨?_,?_⟩⟩
  ·rcases abp (env:=X.env) (C.frk x hm) with e |e
   ·exact .inr e
   ·exact .inl e
  ·rcases l with⟨e,_⟩ |⟨_,c,hc,z⟩
   ·rcases C.out x hm with q |q
    ·rw[q] at e;cases e
    ·rw[q] at e;cases e
   ·obtain⟨o,ho,hd⟩:=z;exact⟨c,acn hm hc,o,hk c o ho,hd⟩
 cell:=λx c e=>by
  obtain⟨v,o,ho,hd⟩:=I.cell x c (vq e);exact⟨v,o,hk c o ho,hd⟩
 free:=I.hok.fresh (aP _)
 freeC:=λx c e=>I.freeC x c (vq e)
 pin:=λp hp=>absurd (show p∈([]:List (aQ×Obj)) from hp) (by simp)
 hok:=I.hok.kept hk
 len:=by
  unfold pick;rw[aL];exact agd C.src
def aoz{pins':List (aQ×Obj)}{σ':L2.St}{H':Hp}{s':aJ}{h'':eE}(I:Inv X zv σ H s)(hf:∀b∈fp,FpOk X zv H b)(J:Inv (cxC X N scope fr fp s H) pins' σ' H' s')
  (hs:cP s.heap.objs.size s'.heap h''):Inv X zv σ H' { s' with heap:=h'' }:=by
 have k:∀b o,b≠s.heap.objs.size->s'.heap.get? b=ZZ o->h''.get? b=ZZ o:=λb o hb e=>(hs.2 b hb).trans e
 have old:∀b o,s.heap.get? b=ZZ o->b≠s.heap.objs.size:=λb o e=>bI (aN e)
 have un:Un (frs X.stack) fp H H' s.heap h'':=by
  have u:Un (frs X.stack) fp H H' s.heap s'.heap:=J.base;refine⟨λb o e n hb hx=>k b o (old b o e) (u.keep b o e n hb hx),λb o e n hb hx=>?_,u.free,λb o e hx=>?_,u.tups,u.frzs,u.tbls⟩
  ·obtain⟨sl,q⟩:=u.slot b o e n hb hx;exact⟨sl,k b _ (old b o e) q⟩
  ·obtain⟨o',q⟩:=u.there b o e hx;exact⟨o',k b _ (old b o e) q⟩
 have hok:HOk X.prog X.w H' h'':=λb u e=>by
  have nC:∀c z,H' c=ZZ z->c≠s.heap.objs.size:=λc z q w=>by
   have f:H' s.heap.objs.size=ZY:=J.free;rw[w,f] at q;cases q
  refine(J.hok b u e).stay (λc v hc q=>k c v ?_ q) (λ_ q=>q) λ_ _ q=>q
  rcases hc with z |z
  ·rw[z];exact nC b u e
  ·exact nC c _ z
 have os:s'.os=s.os:=J.os;refine Inv.call' (s':={ s' with heap:=h'' }) I os un hok J.bare λb hb=>?_
 obtain⟨_,f1,_,f3,f4,f5⟩:=hf b hb;exact⟨f3,f1,f4,f5⟩
end
def amv(ifs:List dI)(env:Env):Sem Bool:=forIn ifs ZX λc r=>if r=ZX then do let ok <-isTrue c env (eval c env);pure (yJ ok) else pure (yJ r)
def PIf(X:Cx)(ifs:List dI)(t:TT):Prop :=
 ∀(zv:List (aQ×Obj)) (s:aJ) (σ:L2.St) (H:Hp) (Q:Bool->Hp->Prop),Inv X zv σ H s->t σ H Q->bG (bL X.prog X.w) X.A (amv ifs X.env) (TP X zv σ Q) X.xe s
def tYes:TT:=λ_ H Q=>Q ZX H
def aza{X:Cx}:PIf X [] tYes:=λzv s σ H Q I h=>by
 show bG _ _ (pure ZX) _ _ s;exact aH ⟨H,I,h⟩
def ay9{X:Cx}{c:dI}{t:TT}(hc:PT X c t):PIf X [c] t:=λzv s σ H Q I h=>by
 unfold amv;rw[lJ];rw[if_pos rfl];refine aA (aA (thn (hc zv s σ H _ I h) λb s1 q=>aH ?_))
 show bG _ _ (forIn [] b _) _ _ s1;exact aH q
section
variable{prog:bT}{w:dB}{A:cQ}{R:Result->aJ->Prop}{s:aJ}
theorem compLoop{elt target iter:dI}{ifs:List dI}{scope:nJ}{pos:Pos}{it acc:aG}{env:Env}(I:Nat->aJ->Prop)
  (turn:∀n s,I n s->bG (bL prog w) A (nT it) (λr s₁=>match r with
   |none=>R (.ok .next) s₁
   |some v=>bG (bL prog w) A (letOwnedTupleGo target it v) (λ_ s₁'=>bG (bL prog w) A (oU target env v) (λ_ s₂=>
     bG (bL prog w) A (amv ifs env) (λok s₃=>
      if ok=ZX then bG (bL prog w) A (eval elt env) (λx s₄=>
       bG (bL prog w) A (call (.builtin "list.append") [acc,x]) (λ_ s₅=>∃m,m<n/\I m s₅) (λ_ _=>False) s₄) (λ_ _=>False) s₃
      else ∃m,m<n/\I m s₃) (λ_ _=>False) s₂) (λ_ _=>False) s₁') (λ_ _=>False) s₁) (λ_ _=>False) s)
  (n:Nat) (h:I n s) :
  mJ (bL prog w) A (.compLoop (.ListComp elt [⟨target,iter,ifs,0⟩] scope pos) 0 it acc env) R s:=by
 refine codeAny_loop rfl I (λn s hI=>?_) n h
 show bG _ A ((compTurn (.ListComp elt [⟨target,iter,ifs,0⟩] scope pos) 0 it acc env).onRaise (λx=>do noteFrame x env;theTreesLotGoes x)) _ _ s
 refine wpAny_noted ?_;rw[compTurn_list];refine aA (iZ (aA (bD (turn n s hI) (λr s₁ h₁=>?_) λ_ _ h'=>h'.elim)))
 cases r with
 |none=>exact aH h₁
 |some v=>
  refine aA (bD h₁ (λ_ s₁' h₁'=>?_) λ_ _ h'=>h'.elim)
  refine aA (bD h₁' (λ_ s₂ h₂=>aA (bD h₂ (λok s₃ h₃=>?_) λ_ _ h'=>h'.elim)) λ_ _ h'=>h'.elim)
  cases ok with
  |false=>exact aH ⟨rfl,h₃⟩
  |true=>
   exact aA (aA (bD h₃ (λx s₄ h₄=>aA (bD h₄ (λ_ s₅ h₅=>aH (aH ⟨rfl,h₅⟩)) λ_ _ h'=>h'.elim)) λ_ _ h'=>h'.elim))
end
def a5k(J:It)(g:TG)(ti:TT)(te:TE)(Q:VK)(d:aQ)(σ0:L2.St)(H1:Hp):Prop :=
 ∃W:Nat->Nat->List V->L2.St->Hp->Prop,(∃m,W 0 m [] σ0 (upd H1 d (.lst [])))/\∀i m ys σ H2,W i m ys σ H2->H2 d=ZZ (.lst ys) /\
  ((J.stop i H2/\Q (.ref d) H2)∨(J.go i H2/\∀x H3,J.yld i H2 x H3->g x σ H3 λσ4 H4=>ti σ4 H4 λb H5=>
   if b=ZX then te σ4 H5 λy H6=>H6 d=ZZ (.lst ys)/\ys.length<cJ/\∃m',m'<m/\W (i+1) m' (ys++[y]) σ4 (upd H6 d (.lst (ys++[y]))) else ∃m',m'<m/\W (i+1) m' ys σ4 H5))
def ayq(wi:TI)(g:TG)(ti:TT)(te:TE)(src:List (Option Nat)):TE:=λσ H Q=>wi σ H λJ H1=>∀d,H1 d=ZY->a5k J g ti te Q d (pick src σ) H1
def al8{X:Cx}{tg iter elt:dI}{ifs:List dI}{scope:nJ}{pos:Pos}{J:It}{fp:List aQ}{it d:aQ}{tn:Nat->eE->Prop}{g:TG}{ti:TT}{te:TE}{Q:VK}{R:Result->aJ->Prop}
  {W:Nat->Nat->List V->L2.St->Hp->Prop} {m0:Nat} {σ0:L2.St} {H0:Hp} {s:aJ} (hc:X.calm=ZX) (hE:X.xe=λ_ _=>False) (T:Turn X.prog X.w X.K tg J fp it tn)
  (hf:∀H':Hp,(∀b∈fp,H' b=ZY)->∀b∈fp,FpOk X [] H' b) (hg:PG X tg g) (ht:PIf X ifs ti) (he:PE X elt te)
  (turn:∀i m ys σ H2,W i m ys σ H2->H2 d=ZZ (.lst ys) /\
   ((J.stop i H2/\Q (.ref d) H2)∨(J.go i H2/\∀x H3,J.yld i H2 x H3->g x σ H3 λσ4 H4=>ti σ4 H4 λb H5=>
    if b=ZX then te σ4 H5 λy H6=>H6 d=ZZ (.lst ys)/\ys.length<cJ/\∃m',m'<m/\W (i+1) m' (ys++[y]) σ4 (upd H6 d (.lst (ys++[y]))) else ∃m',m'<m/\W (i+1) m' ys σ4 H5)))
  (w0:W 0 m0 [] σ0 H0) (I0:Inv X [] σ0 H0 s) (st0:tn 0 s.heap) (fr0:∀b∈fp,H0 b=ZY)
  (hR:∀σ' H' s',Inv X [] σ' H' s'->Q (.ref d) H'->R (.ok .next) s') :
  mJ (bL X.prog X.w) X.A (.compLoop (.ListComp elt [⟨tg,iter,ifs,0⟩] scope pos) 0 (.ref it) (.ref d) X.env) R s:=by
 have hE':∀e s',X.xe e s'->False:=λe s' h=>by rw[hE] at h;exact h
 refine compLoop (λn s'=>∃i ys σ' H',Inv X [] σ' H' s'/\tn i s'.heap/\(∀b∈fp,H' b=ZY)/\W i n ys σ' H') ?_ m0 ⟨0,[],σ0,H0,I0,st0,fr0,w0⟩
 rintro n s5 ⟨i,ys,σ5,H5,I5,st5,fr5,w5⟩
 obtain⟨hD,alt⟩:=turn i n ys σ5 H5 w5;rcases alt with⟨stop,qn⟩ |⟨go,step⟩
 ·refine bD (T.done X rfl rfl rfl hc i [] s5 σ5 H5 (λ_ _=>False) I5 (hf _ fr5) st5 stop) (λr s6 ⟨hr,I6⟩=>?_) λ_ _ e=>e
  subst hr;exact hR σ5 H5 s6 I6 qn
 ·refine bD (T.item X rfl rfl rfl hc i [] s5 σ5 H5 (λ_ _=>False) I5 (hf _ fr5) st5 go) (λr s6 ⟨u,hr,h6⟩=>?_) λ_ _ e=>e
  subst hr;refine bD h6 (λ_ s7 ⟨x,H7,I7,r7,y7,st7,fr7⟩=>?_) λ_ _ e=>e
  have I7':=I7.pinned (hf _ fr7) (T.obj _ _ st7);have again:∀{σ':L2.St} {H':Hp} {s':aJ} {ys':List V} {m':Nat},Inv X ([]++ak2 fp s7.heap) σ' H' s'->W (i+1) m' ys' σ' H'->∃i ys σ' H',Inv X [] σ' H' s'/\tn i s'.heap/\(∀b∈fp,H' b=ZY)/\W i m' ys σ' H':=λ{σ' H' s' ys' m'} Ia wa=>by
   refine⟨i+1,ys',σ',H',Ia.unpinned,T.keep _ _ _ st7 λb hb o e=>(Ia.pin (b,o) (cX _ (cX _ (aci hb e)))).1,λb hb=>?_,wa⟩
   obtain⟨o,e,d⟩:=T.obj _ _ st7 b hb;exact(Ia.pin (b,o) (cX _ (cX _ (aci hb e)))).2.1
  refine bD (hg _ s7 σ5 H7 x u _ I7' r7 (step x H7 y7)) (λ_ s8 ⟨σ8,H8,I8,q8⟩=>?_) hE'
  refine bD (ht _ s8 σ8 H8 _ I8 q8) (λok s9 ⟨H9,I9,q9⟩=>?_) hE'
  cases ok with
  |false=>
   rw[if_neg cY] at q9 ⊢
   obtain⟨m',hm,wa⟩:=q9;exact⟨m',hm,again I9 wa⟩
  |true=>
   rw[if_pos rfl] at q9 ⊢
   refine bD (he _ s9 σ8 H9 _ I9 q9) (λz s10 z9=>?_) hE'
   obtain⟨y,H10,I10,r10,hd10,hz,m',hm,wa⟩:=z9;refine bD (aef _ s10 σ8 H10 (.ref d) [y] (.ref d) [z] (λ_ H'=>H'=upd H10 d (.lst (ys++[y]))) I10 rfl (.cons r10 .nil) ⟨d,ys,y,rfl,rfl,hd10,hz,rfl⟩) (λ_ s11 ⟨_,H11,I11,_,e11⟩=>?_) hE'
   subst e11;exact⟨m',hm,again I11 wa⟩
def azj{X:Cx}{tg iter elt:dI}{ifs:List dI}{scope:nJ}{pos:Pos}{wi:TI}{g:TG}{ti:TT}{te:TE}(fr N:List Str)(src:List (Option Nat))(hc:X.calm=ZX)(hi:PI X tg iter wi)
  (hg:∀fp s H,PG (cxC X N scope fr fp s H) tg g) (ht:∀fp s H,PIf (cxC X N scope fr fp s H) ifs ti) (he:∀fp s H,PE (cxC X N scope fr fp s H) elt te)
  (hok:aiy X.env X.N scope fr N src=ZX:=by rfl) (hkind:scope.kind=.function:=by rfl) (hclos:closureFor scope X.env=pure (aat X.env fr):=by rfl)
  (hs:∀x,foldedSetIterable iter X.env x=pure x:=by intro _;rfl):PE X (.ListComp elt [⟨tg,iter,ifs,0⟩] scope pos) (ayq wi g ti te src):=by
 have C:=CompOk.of hok;intro zv s σ H Q I h;rw[eval_ListComp];refine wpAny_comprehension_free (use:=ZY) rfl hs hclos hkind C.loc (bD (hi zv s σ H _ I h) (λv s1 h1=>bD h1 (λitv s2 h2=>?_) λ_ _ e=>e) λ_ _ e=>e)
 obtain⟨it,fp,tn,J,H2,e,I2,T,st2,f2,q2⟩:=h2;subst e;have hd0:H2 s2.heap.objs.size=ZY:=I2.hok.fresh (aP _);obtain⟨W,⟨m0,w0⟩,turn⟩:=q2 s2.heap.objs.size hd0;refine cA ?_;generalize hs3:({ s2 with heap:=s2.heap.push { cls:=.type "list", dict:=ZY,data:=.seq ([]:List aG).toArray } }:aJ)=s3
 have keep2:∀b o,s2.heap.get? b=ZZ o->s3.heap.get? b=ZZ o:=λb o e=>by rw[<-hs3];exact aB _ e
 have I3:Inv X zv σ (upd H2 s2.heap.objs.size (.lst [])) s3:=by
  rw[<-hs3];exact I2.laid (t':=s2.toks) (λb u q=>aB _ q) (aP _) ⟨Nat.zero_le _,[],0,.nil,aM _ rfl⟩
 have ne0:∀b∈fp,b≠s2.heap.objs.size:=λb hb=>by
  obtain⟨o,e,_⟩:=T.obj _ _ st2 b hb;exact bI (aN e)
 have f3:∀b∈fp,FpOk X zv (upd H2 s2.heap.objs.size (.lst [])) b:=λb hb=>⟨by rw[b7 (ne0 b hb)];exact(f2 b hb).1,(f2 b hb).2⟩
 have lt3:∀b∈fp,b<s3.heap.objs.size:=λb hb=>by
  obtain⟨o,e,_⟩:=T.obj _ _ st2 b hb;exact aN (keep2 b o e)
 refine wpAny_newFunctionEnv C.cell (by intro y hy;simp at hy) (λh₁ hns₁ hsb₁=>?_) hkind
 have keep3:∀b o,s3.heap.get? b=ZZ o->h₁.get? b=ZZ o:=λb o e=>hsb₁.extBut b o (bI (aN e)) (aB _ e)
 have st4:tn 0 h₁:=T.keep _ _ _ st2 λb hb o e=>keep3 b o (keep2 b o e)
 have I4:=aoy (tk:=s3.toks+([]:List (Str×Value)).length) I3 C hkind f3 lt3 hns₁ keep3;have loop:=al8 (X:=cxC X N scope fr fp s3 (upd H2 s2.heap.objs.size (.lst []))) (iter:=iter) (scope:=scope) (pos:=pos) (d:=s2.heap.objs.size)
  (R:=compPost (bL X.prog X.w) X.A X.xe ZY (EP X zv σ Q) (.ref s2.heap.objs.size) s3.heap.objs.size) hc rfl T
  (λH' hn b hb=>⟨hn b hb,bI (lt3 b hb),I4.ok.exfs b hb,.inl hb,(I4.ok.exf b hb).2,λp hp=>absurd (show p∈([]:List (aQ×Obj)) from hp) (by simp)⟩)
  (hg fp s3 _) (ht fp s3 _) (he fp s3 _) turn w0 I4 st4 (λb hb=>(f3 b hb).1) (λσ' H' s' I6 qn=>by
   obtain⟨m6,hn6,_⟩:=I6.loc;exact⟨m6,hn6,λh'' hs''=>⟨.ref s2.heap.objs.size,H',aoz I3 f3 I6 hs'',rfl,qn⟩⟩)
 exact codeAny_compStart_list loop (T.self _ 0 _ _ _ st4 loop)
def Same.new{H:Hp}{p:aQ}(h:H p=ZY)(o:HO):Same H (upd H p o):=λb u q=>by rw[b7 (jj q h)];exact q
structure ItOf (J:It) (xs:List V) (S:Hp->Prop):Prop where
 go:∀i H,S H->i<xs.length->J.go i H
 yld:∀i H x H',S H->J.yld i H x H'->H'=H/\(i<xs.length->xs[i]? = ZZ x)
 stop:∀i H,S H->xs.length<=i->J.stop i H
def awl{K:Fg9}{a:aQ}{xs:List V}:ItOf (Itt K a) xs λH=>SqT K H a xs :=
 ⟨λi H h hi=>⟨xs,xs[i],h,by simp[hi]⟩,λi H x H' h y=>⟨y.1,λ_=>y.2 xs h⟩,λi H h hi=>⟨xs,h,hi⟩⟩
def aov{K:Fg9}{a:aQ}{xs:List V}:ItOf (Itl K a) xs λH=>SqL K H a xs :=
 ⟨λi H h hi=>⟨xs,xs[i],h,by simp[hi]⟩,λi H x H' h y=>⟨y.1,λ_=>y.2 xs h⟩,λi H h hi=>⟨xs,h,hi⟩⟩
def ups(lo:Int)(n:Nat):List V:=(bW n).map λi=>V.int (lo+(i:Nat))
def ai3(lo:Int)(n:Nat):(ups lo n).length=n:=by simp[ups]
def ayf{lo:Int}{n i:Nat}(h:i<n):(ups lo n)[i]? = ZZ (.int (lo+(i:Nat))):=by
 unfold ups;rw[aX,iC h];rfl
def awm{lo:Int}{n:Nat}:ItOf (Itr lo n) (ups lo n) λ_=>True :=
 ⟨λi H _ hi=>by rw[ai3] at hi;exact hi,λi H x H' _ y=>⟨y.1,λhi=>by rw[ai3] at hi;rw[ayf hi,y.2]⟩,λi H _ hi=>by rw[ai3] at hi;exact hi⟩
section
variable{X:Cx}
def rAll(K:Fg9):List V->Hp->VK->Prop:=λxs H Q=>∃(p:aQ) (bs:List Bool),xs=[.ref p]/\SqL K H p (bs.map V.bl)/\Q (.bl (bs.all id)) H
def aw4(hc:X.calm=ZX):abi X (.builtin "all") (rAll X.K):=by
 intro zv s σ H xs us Q I r h;obtain⟨p,bs,rfl,hq,q⟩:=h;obtain⟨u,rfl,ru⟩:=vals1 r;cases ru;obtain⟨its,rv,pl,hz⟩:=I.list hq;have hl:=pl.isList;have hlen:=rv.length;rw[aL] at hlen;have hlt:p<s.heap.objs.size:=by obtain⟨_,e,_⟩:=hl;exact aN e
 refine call_all_walk (wpAny_pyIter_list hl ?_);refine⟨s.heap.objs.size,[s.heap.objs.size,p],[s.heap.objs.size],its.toArray.size,_,_,λi=>(bs[i]?).getD ZX,rfl,wI (A:=X.A.in1) (I.ok.hd hc) _ p (bI hlt) its.toArray,
  ⟨⟨_,aM _ rfl,rfl,rfl⟩,hl.push _⟩,λi v s' Q' E' hP hQ=>?_,λh' tk hk=>?_⟩
 ·have hi:its[i]? = ZZ v:=by simpa using hP
  cases e:bs[i]? with
  |none=>
   have h1:bs.length<=i:=tQ.mp e;have h2:i<its.length:=(aK.mp hi).1;omega
  |some b=>
   obtain⟨u,hu,ru⟩:=rv.get (i:=i) (x:=V.bl b) (by rw[aX,e];rfl)
   rw[hi] at hu;cases hu;obtain rfl:v=pU b:=ru;simp only[e,xW] at hQ;exact wpAny_truthy_bool hQ
 ·have e:((bW its.toArray.size).all λi=>(bs[i]?).getD ZX)=bs.all id:=by
   rw[aW,<-hlen];exact LSm.range_all bs
  rw[e];exact⟨.bl (bs.all id),H,I.kept (t':=tk) (qQ hk),rfl,q⟩
end
def Dfn(P:bT)(w:dB)(K:Fg9)(mg:Str->Option aG)(base:eE)(x:Str)(ps:List Str)(k:Nat)(sp:Sp):Prop :=
 ∃(f:aQ) (fd:eQ),FnOk P w K mg base CX0 k f fd ps sp/\mg x=ZZ (.ref f)/\kW K (.ref f)=ZX/\Binds K fd ps []
section
variable{X:Cx}{x:Str}{ps:List Str}{k:Nat}{sp:Sp}{e:dI}{es:List dI}{t:TA}{p pos:Pos}
def a2t(F:Dfn X.prog X.w X.K X.mg X.base x ps k sp)(hr:Room k X.A)(hg:Gl X x)(ha:PA X (e::es) t)(hdb:Zb x:=by decide)
  (he:Zc X e es:=by rfl) (hpl:(gC pos (aO es X.env)).any (·.1)=ZW:=by rfl):PE X (.Call (.Name x p) (e::es) [] pos) (ayr sp [] E0 t):=by
 obtain⟨f,fd,F,hm,hk,hb⟩:=F;exact azl F hr hg hm hk hb .nil azn ha hdb he hpl
def azi{n:Int}(hg:Gl X x)(hm:∃t,X.mg x=ZZ (.int n t))(hd:Zb x:=by decide):PE X (.Name x pos) (tC (.int n)):=by
 obtain⟨t,hm⟩:=hm;exact asi hg hm ⟨t,rfl⟩ hd
def ak3{T:String}(hg:Gl X x)(hm:X.mg x=ZY)(hv:bR x=ZZ (.type T))(hn:x ≠ "__name__" := by decide)(hd:Zb x:=by decide):PE X (.Name x pos) (tC (.ty T)) :=
 azm hg hm hv rfl hn hd
end
section
variable{X:Cx}
end
section
variable{prog:bT}{w:dB}{A:cQ}{E:aG->aJ->Prop}{s:aJ}
def aw2{t b:aQ}{vs ws:List aG}{Q:aG->aJ->Prop}(ht:wZ s.heap t vs.toArray)(hb:wZ s.heap b ws.toArray)(hv:vs=[])(h:Q (.ref b) s):bG (bL prog w) A (fY .Add (.ref t) (.ref b)) Q E s:=by
 obtain⟨⟨cls,dd,data,sl⟩,ho,hc,n,hd⟩:=id ht;obtain⟨⟨cls2,dd2,data2,sl2⟩,ho2,hc2,n2,hd2⟩:=id hb;simp only at hc hd hc2 hd2;subst hc hd hc2 hd2;exact concat_meets ⟨_,ho,rfl⟩ ⟨_,ho2,rfl⟩ noFill_tuple_add seq_tuple_add pB oM (nZ _ _)
  (tuple_addW0 t b vs.toArray ws.toArray n n2 dd dd2 sl sl2 (by simp[hv])) ⟨ho,ho2,h⟩
end
section
variable{X:Cx}
end
section
variable{X:Cx}
end
def abf:fillsNumberSlot (.type "tuple") "mul"=pure ZW :=
 PySem.fillsNumberSlot_seq (id := "tuple.__mul__") (r:=ZZ (.builtin "tuple.__rmul__")) oZ.lookup (by decide +kernel) xK.lookup (by decide +kernel)
def afk:seqRepeat? (.type "tuple")=pure (ZZ (.builtin "tuple.__mul__")):=by
 unfold seqRepeat?;rw[xU (T := "tuple") (name := "__mul__") (id := "tuple.__mul__") oZ.lookup (by decide +kernel),xU (T := "tuple") (name := "__rmul__") (id := "tuple.__rmul__") xK.lookup (by decide +kernel)]
 rfl
def acu(a:Int)(t:Tok)(l:aQ)(items:Array aG)(n:Nat)(dd:Option aQ)(sl:Array (Option aG)) :
  Meets (iM.«int.__rmul__» ⟨[.int a t,.ref l],[]⟩) (λ_ R s=>s.heap.get? l=ZZ { cls:=.type "tuple", dict:=dd,data:=.seq items n,slots:=sl }/\R (.ok (.ret uW)) s) :=
 .of_wp λprog w A R s h=>by obtain⟨hp,g,d,tk,os⟩:=s;obtain⟨hl,h⟩:=h;wp_walk;exact⟨_,rfl,h⟩
def apo(l:aQ)(items:Array aG)(n:Nat)(dd:Option aQ)(sl:Array (Option aG))(x:Int)(u:Tok)(h0:items.isEmpty=ZW)(h2:2<=x)(h63:x<2 ^ 63)(hsz:items.size*x.toNat<=cJ) :
  Meets (iM.«tuple.__mul__» ⟨[.ref l,.int x u],[]⟩) (λ_ R s=>s.heap.get? l=ZZ { cls:=.type "tuple", dict:=dd,data:=.seq items n,slots:=sl } /\
   R (.ok (.ret (cH s.heap.objs.size))) { s with heap:=s.heap.push { cls:=jG "tuple", data:=Data.seq (lA (λx1 x2=>x1++x2) #[] (aD x.toNat items)) },toks:=s.toks }) :=
 .of_wp λprog w A R s h=>by
  obtain⟨hp,g,d,tk,os⟩:=s;obtain⟨hl,h⟩:=h;have c1:(decide (x < -2 ^ 63)||decide (x≥2 ^ 63))=ZW:=by
   rw[vB];exact⟨decide_eq_false (by omega),decide_eq_false (by omega)⟩
  have c2:(items.isEmpty||x==1)=ZW:=by
   rw[h0,Bool.false_or,beq_eq_false_iff_ne];omega
  have c3:(decide (x<=0)||items.isEmpty)=ZW:=by
   rw[h0,zG];exact decide_eq_false (by omega)
  have e4:((items.size:Int)*x)=((items.size*x.toNat:Nat):Int):=by
   have:x=(x.toNat:Int):=by omega
   rw[sO,<-this]
  have h4:(cJ:Int)<=(2 ^ 63-1) / 8:=by decide
  have c4:¬((items.size:Int)*x > (2 ^ 63-1) / 8):=by rw[e4];omega
  have c5:tH ((items.size:Int)*x)=ZW:=by
   unfold tH;rw[e4];exact decide_eq_false (by omega)
  wp_walk;refine wpAny_ite_false (by rw[c1];rfl) ?_
  wp_walk;refine wpAny_ite_false (by rw[c2];rfl) ?_
  try dsimp only
  refine wpAny_ite_false (by rw[c3];rfl) ?_
  try dsimp only
  refine wpAny_ite_false (decide_eq_false c4) ?_
  try dsimp only
  refine wpAny_ite_false (by rw[c5];rfl) ?_
  have hso:sizeOk (.seq (lA (λx1 x2=>x1++x2) #[] (aD x.toNat items))):=by
   show(lA (λx1 x2=>x1++x2) #[] (aD x.toNat items)).size<=cJ
   have hn:=foldl_rep items.toList x.toNat [];rw[fV] at hn;have hn':lA (λx1 x2=>x1++x2) #[] (aD x.toNat items)=(aD x.toNat items.toList).flatten.toArray:=hn
   rw[hn',aW,len_rep,bN,uP];exact hsz
  refine aA (m:=iY _) (cA (aH ⟨_,rfl,h⟩) hso)
def apq(l:aQ)(items:Array aG)(n:Nat)(dd:Option aQ)(sl:Array (Option aG))(x:Int)(u:Tok)(hx:x=1) :
  Meets (iM.«tuple.__mul__» ⟨[.ref l,.int x u],[]⟩) (λ_ R s=>s.heap.get? l=ZZ { cls:=.type "tuple", dict:=dd,data:=.seq items n,slots:=sl }/\R (.ok (.ret (cH l))) s) :=
 .of_wp λprog w A R s h=>by
  obtain⟨hp,g,d,tk,os⟩:=s;obtain⟨hl,h⟩:=h;have c1:(decide (x < -2 ^ 63)||decide (x≥2 ^ 63))=ZW:=by
   rw[vB];exact⟨decide_eq_false (by omega),decide_eq_false (by omega)⟩
  have c2:(items.isEmpty||x==1)=ZX:=by rw[hx];simp
  wp_walk;exact⟨_,rfl,h⟩
section
variable{X:Cx}
def azq:OpR X (fY .Mult) (λx y H Q=>∃a xs,x=.ref a/\y=.int 1/\H a=ZZ (.tup xs)/\Q (.ref a) H):=by
 intro zv s σ H x y v u Q I rx ry h;obtain⟨a,xs,rfl,rfl,ha,q⟩:=h;cases rx;obtain⟨t,rfl⟩:=ry;obtain⟨its,r1,p1,_⟩:=I.tuple (SqT.of ha);obtain⟨⟨cls,dd,data,sl⟩,ho,hc,n,hd⟩:=id p1;simp only at hc hd;subst hc hd;exact wpAny_binaryOp_repeat_ref (T := "tuple") (U := "int") (by decide) ⟨_,ho,rfl⟩ (λs'=>typeIs_int s' 1 t) abf sV lL afk rO.lookup
  (kY lL (typeIs_int s 1 t) rP (rE _ _) (acu 1 t a its.toArray n dd sl)
   ⟨ho,rfl,⟨_,ho,rfl⟩,kY oZ ⟨_,ho,rfl⟩ xN (wF _ _) (apq a its.toArray n dd sl 1 t rfl) ⟨ho,⟨.ref a,H,I,rfl,q⟩⟩⟩)
def a1v:R2:=λx y H Q=>∃a xs k,x=.ref a/\y=.int k/\H a=ZZ (.tup xs)/\xs≠[]/\2<=k/\k<2 ^ 63/\xs.length*k.toNat<=cJ/\∀p,H p=ZY->Q (.ref p) (upd H p (.tup (aD k.toNat xs).flatten))
def av3:OpR X (fY .Mult) a1v:=by
 intro zv s σ H x y v u Q I rx ry h;obtain⟨a,xs,k,rfl,rfl,ha,hx,h2,h63,hz,q⟩:=h;cases rx;obtain⟨t,rfl⟩:=ry;obtain⟨its,r1,p1,_⟩:=I.tuple (SqT.of ha);obtain⟨⟨cls,dd,data,sl⟩,ho,hc,n,hd⟩:=id p1;simp only at hc hd;subst hc hd;have hnew:lA (λx1 x2=>x1++x2) #[] (aD k.toNat its.toArray)=(aD k.toNat its).flatten.toArray:=by
  have:=foldl_rep its k.toNat [];rw[fV] at this;exact this
 refine wpAny_binaryOp_repeat_ref (T := "tuple") (U := "int") (by decide) ⟨_,ho,rfl⟩ (λs'=>typeIs_int s' k t) abf sV lL afk rO.lookup
  (kY lL (typeIs_int s k t) rP (rE _ _) (acu k t a its.toArray n dd sl)
   ⟨ho,rfl,⟨_,ho,rfl⟩,kY oZ ⟨_,ho,rfl⟩ xN (wF _ _) (apo a its.toArray n dd sl k t ?_ h2 h63 ?_) ⟨ho,?_⟩⟩)
 ·cases its with
  |nil=>exact absurd (r1.nil_iff.mp rfl) hx
  |cons _ _=>rfl
 ·rw[aW,<-r1.length];exact hz
 ·rw[hnew];refine⟨.ref s.heap.objs.size,_,I.laid (t':=s.toks) (o:=.tup (aD k.toNat xs).flatten) (λb ob q=>aB _ q) (aP _) ?_,rfl,q _ (I.hok.fresh (aP _))⟩
  exact⟨by rw[len_rep,uP];exact hz,_,r1.rep k.toNat,IsTp.new _ _⟩
end
section
variable{prog:bT}{w:dB}{A:cQ}{E:aG->aJ->Prop}{s:aJ}
def adh{t sl:aQ}{items:Array aG}{vl vu:aG}{lo hi:Option Int}{Q:aG->aJ->Prop}(ht:wZ s.heap t items)(hs:s.heap.IsSliceOf sl vl vu .none)(pl:rG vl lo)(pu:rG vu hi)
  (h1:HT.sIx items.size 0 lo=0) (h2:HT.sIx items.size items.size hi=items.size) (h:Q (.ref t) s):bG (bL prog w) A (qW (.ref t) (.ref sl)) Q E s:=by
 obtain⟨os,hos,hcs,hds⟩:=id hs;have hTs:s.TypeIs (.ref sl) "slice" := ⟨os,hos,hcs⟩;unfold qW
 try with_reducible refine eG ?_
 first |refine aA (aH ?_) |skip
 refine aA (wpAny_sequenceKey ht.typeIs (by decide) ?_)
 refine aA (dU (name:=jL "__getitem__") ht.typeIs fB
  (eY fB ht.typeIs entry_tuple_getitem ?_ (args_tuple_getitem _ _)))
 show bG _ _ (tK (.ref t) >>= _) _ _ s;refine aA (tupleItemsOf_ ht ?_);refine aA (wpAny_typeOf hTs ?_);rw[if_pos (by decide)]
 refine aA (HT.abe hs pl pu ?_);have hyes:(((HT.sIx items.size 0 lo:Nat):Int)==0&&(1:Int)==1&&(HT.sIx items.size items.size hi-HT.sIx items.size 0 lo)==items.size)=ZX:=by
  rw[h1,h2];simp
 show bG _ _ (if (((HT.sIx items.size 0 lo:Nat):Int)==0&&(1:Int)==1&&(HT.sIx items.size items.size hi-HT.sIx items.size 0 lo)==items.size)=ZX then _ else _) _ _ s
 rw[if_pos hyes];refine aA (aA (wpAny_typeOf ht.typeIs (aH ?_)));rw[if_pos (by decide)]
 exact aA (jF (aH ⟨_,rfl,aH h⟩))
end
section
variable{X:Cx}
end
section
variable{X:Cx}(K:Fg9)(hK:X.K=K)
include hK
variable{tg:dI}
end
def j0:bR "len"=ZZ (.builtin "len"):=by decide +kernel
def ahr:bR "all"=ZZ (.builtin "all"):=by decide +kernel
def a4z:bR "any"=ZZ (.builtin "any"):=by decide +kernel
def bj:bR "isinstance"=ZZ (.builtin "isinstance"):=by decide +kernel
def ax8:bR "max"=ZZ (.builtin "max"):=by decide +kernel
def ax7:bR "min"=ZZ (.builtin "min"):=by decide +kernel
def aut:bR "sorted"=ZZ (.builtin "sorted"):=by decide +kernel
def auu:bR "divmod"=ZZ (.builtin "divmod"):=by decide +kernel
def apf:bR "int"=ZZ (.type "int"):=by decide +kernel
def an2:bR "bool"=ZZ (.type "bool"):=by decide +kernel
def jt:bR "tuple"=ZZ (.type "tuple"):=by decide +kernel
def adq:bR "list"=ZZ (.type "list"):=by decide +kernel
def aw5:bR "range"=ZZ (.type "range"):=by decide +kernel
def a4y:bR "set"=ZZ (.type "set"):=by decide +kernel
def amf:bR "enumerate"=ZZ (.type "enumerate"):=by decide +kernel
structure ExcK (K:Fg9) (C:aQ):Prop where
 ga:gY K (.ref C) "__getattribute__"=ZZ (ZZ (.builtin "BaseException.__getattribute__"))
 gh:gY K (.ref C) "__getattr__"=ZZ ZY
 be:lD K C (.type "BaseException")=ZZ ZX
 hd:gR K C=ZX
 cl:gY K (.ref C) "__class__"=ZZ (ZZ (.builtin "object.__class__"))
 sp:lQ K (.builtin "object.__class__") "__get__"=ZZ (ZZ (.builtin "getset_descriptor.__get__"))
 tk:pD K (.builtin "object.__class__")=ZZ ZX
 ob:lD K C (.type "object")=ZZ ZX
 no:∀T∈["int","bool","tuple","list","str","dict"],gM K (.ref C) (.type T)=ZZ ZW
def anu{K:Fg9}{C:aQ}{od:Option Obj}{name:Str}{a g:aG}(hc:(lE K C).isSome=ZX)(ha:gY K (.ref C) name=ZZ (ZZ a))(hg:lQ K a "__get__"=ZZ (ZZ g))(ht:pD K a=ZZ ZX):mL K C od name=ZZ (.bind g a):=by
 obtain⟨cd,hc⟩:=tZ.mp hc;unfold mL;rw[hc,xX,ha,xX];simp[hg,ht]
section
variable{prog:bT}{w:dB}{A:cQ}{E:aG->aJ->Prop}{s:aJ}{K:Fg9}{x D:aQ}{ox:Obj}{od:Option Obj}{name:Str}
def ao6{fill expr:Bool}{tk:Tok}{Q:aG->aJ->Prop}(X:K.In s.heap)(I:gQ s.heap x ox D od)(k:ExcK K D)
  (h:bG (bL prog w) A.in1 (iM.«object.__getattribute__» ⟨[.ref x,.str name tk],[]⟩)
   (λfin s'=>match fin with |.done (.ret v)=>bG (bL prog w) A (handedOut v) Q E s' |_=>False) (λ_ _=>False) s) :
  bG (bL prog w) A (getAttrBy (.ref x) (.str name tk) fill expr) Q E s:=by
 obtain⟨hh,g,d,t,os⟩:=s;have L0:=I.type (M:=bL prog w);have L1:=mC (M:=bL prog w) X k.ga;have L2:=mC (M:=bL prog w) X k.gh;have L3:jR (bL prog w) hh (isInstance (.ref x) (.type "BaseException")) ZX:=L0.andThen (vJ X k.be);unfold getAttrBy;refine eG (aA (L0.at (aA (L1.at ?_))));have hx2:(mG "BaseException.__getattribute__" == mG "object.__getattribute__")=ZW:=by decide +kernel
 have hx1:(onTheHeap (cH D)&&mG "BaseException.__getattribute__" == mG "object.__getattribute__")=ZW:=by rw[hx2,yW]
 simp only[hx1,jJ,if_false];unfold getAttrByItsOwn hookBefore;rw[if_pos (show onTheHeap (cH D)=ZX from rfl)]
 refine aA ?_;refine L2.at (aA (wpAny_attempt (eG ?_)));have hx0:(expr&&onTheHeap (mG "BaseException.__getattribute__"))=ZW:=by cases expr <;> rfl
 unfold callGetattribute;rw[if_neg (by rw[hx0];exact cY)]
 unfold boundAndCalled;refine aA (wpAny_of_eq (uE.ga.bind (.ref x)) ?_);have hk1:builtinKind "BaseException.__getattribute__"=ZZ .slot:=by decide +kernel
 have hs1:splitId "BaseException.__getattribute__"=ZZ ("BaseException","__getattribute__"):=by decide +kernel
 have ha1:=PySem.F.args_bexc_ga (.ref x) (.str name tk);dsimp only[oY,fV];refine lO (codeAny_call_builtin (id := "BaseException.__getattribute__") (args:=⟨[.ref x,.str name tk],[]⟩) uE.ga.plain PySem.F.entry_bexc_ga ?_);refine vZ (i := "BaseException.__getattribute__") (owner := "BaseException") (n := "__getattribute__") (self:=.ref x) (rest:=[.str name tk]) (kw:=[]) hk1 hs1 L3 ha1 ?_;refine bD h (λfin s' z=>?_) λ_ _ z=>z.elim
 rcases fin with(_ |_ |_ |_) |_ <;> first |exact z |exact z.elim
def aww{g a:aG}{tk:Tok}{P:aG->aJ->Prop}(X:K.In s.heap)(I:gQ s.heap x ox D od)(hf:mL K D od name=ZZ (.bind g a))
  (h:bG (bL prog w) A (call g [a,.ref x,.ref D]) P E s) :
  bG (bL prog w) A (iM.«object.__getattribute__» ⟨[.ref x,.str name tk],[]⟩) (λfin s'=>match fin with |.done (.ret v)=>P v s' |_=>False) E s:=by
 obtain⟨hh,gg,d,t,os⟩:=s;have L0:=I.type (M:=bL prog w);have L1:=vX (M:=bL prog w) X I hf;unfold iM.«object.__getattribute__»
 refine aA (aH (aA (aH (aA (L0.at (aA (L1.at ?_)))))));show bG _ _ (Builtin.ObjectAttr.bindTo g a (.ref x) (.ref D)) _ _ _;show bG _ _ (jZ [a] (call g [a,.ref x,.ref D]) >>= ret) _ _ _;exact aA (eG (bD h (λv s' z=>aH z) λ_ _ z=>z))
def exc_value{v:aG}{tk:Tok}{Q:Fin->aJ->Prop}(X:K.In s.heap)(I:gQ s.heap x ox D od)(hf:mL K D od name=ZZ (.value v))(h:Q (.done (.ret v)) s) :
  bG (bL prog w) A (iM.«object.__getattribute__» ⟨[.ref x,.str name tk],[]⟩) Q E s:=by
 obtain⟨hh,gg,d,t,os⟩:=s;have L0:=I.type (M:=bL prog w);have L1:=vX (M:=bL prog w) X I hf;unfold iM.«object.__getattribute__»
 refine aA (aH (aA (aH (aA (L0.at (aA (L1.at ?_)))))));exact aH h
end
def aou{K:Fg9}{x D:aQ}(k:ExcK K D):PySem.W.KitX K (.ref x) (.ref D) (λh=>∃ox od,gQ h x ox D od) where
 ty:=λ_ _ _ ⟨_,_,I⟩=>I.type
 it:=λ_ _ X _=>by
  obtain⟨cdD,hcD,_⟩:=jD k.hd;unfold lE at hcD;split at hcD
  ·rename_i c' d' cd' sl' ho;intro A' Q' E' s' k q;unfold isType loadHead;exact aA (wpAny_loadPart (k _ _ (X _ _ ho)) (aH q))
  ·cases hcD
 ne:=λh tp dd its n sl X htp=>by
  obtain⟨cdD,hcD,_⟩:=jD k.hd;refine xQ.mpr λq=>?_
  have e:D=tp:=yX (beq_iff_eq.mp q);subst e;unfold lE at hcD;split at hcD
  ·rename_i c' d' cd' sl' ho;have z:=(X _ _ ho).symm.trans htp;cases z
  ·cases hcD
 ca:=λ{prog w A E Q s} X ⟨ox,od,I⟩ q=>by
  have hf:mL K D od "__class__"=ZZ (.bind (.builtin "getset_descriptor.__get__") (.builtin "object.__class__")):=anu (by obtain⟨cd,hc,_⟩:=jD k.hd;rw[hc];rfl) k.cl k.sp k.tk
  unfold getAttr? getAttrBy?;refine aA (wpAny_mkText (aA (wpAny_attempt (ao6 (s:={ s with toks:=s.toks+1 }) X I k (aww (s:={ s with toks:=s.toks+1 }) X I hf
   (lO (PySem.W.class_get (s:={ s with toks:=s.toks+1 }) (ox:=ox) (od:=od) X I k.ob (PySem.W.handed_on rfl (aH q)))))))))
end Mn
namespace Dn
open L2 Mn
inductive D where
 |non |bl (b:Bool) |int (i:Int) |str (x:Str) |tup (l:List D) |lst (l:List D) |kst (l:List D) |dct (kvs:List (Key×D)) |exn (c:Str) (fs:List (Str×Int))
def exO(a C:aQ)(dx:Option aQ):eE->Prop:=λh=>∃oe vs,h.get? a=ZZ oe/\oe.cls=.ref C/\oe.dict=dx/\oe.data=.fields vs
section
variable(K:Fg9)(F:Hp)
mutual
inductive Is:D->V->Prop
 |non:Is .non .non
 |bl (b:Bool):Is (.bl b) (.bl b)
 |int (i:Int):Is (.int i) (.int i)
 |str (x:Str):Is (.str x) (.str x)
 |tup {a:aQ} {vs:List V} {ds:List D} (e:F a=ZZ (.tup vs)) (h:IsL ds vs):Is (.tup ds) (.ref a)
 |lst {a:aQ} {vs:List V} {ds:List D} (e:F a=ZZ (.lst vs)) (h:IsL ds vs):Is (.lst ds) (.ref a)
 |kst {a:aQ} {vs:List V} {ds:List D} (e:SqL K F a vs) (h:IsL ds vs):Is (.kst ds) (.ref a)
 |dct {a:aQ} {kvs:List (Key×V)} {ds:List (Key×D)} (e:F a=ZZ (.dK kvs)) (h:IsK ds kvs):Is (.dct ds) (.ref a)
 |exn {a C:aQ} {c:Str} {dx:Option aQ} {fs:List (Str×Int)} (e:F a=ZZ (.ext (exO a C dx))) (hc:nsIn K aV c=ZZ (ZZ (.ref C))) (hk:ExcK K C)
   (hf:(dx=ZY/\fs=[])∨∃d,dx=ZZ d/\F d=ZZ (.xd (fs.map λp=>(p.1,V.int p.2)))):Is (.exn c fs) (.ref a)
inductive IsL:List D->List V->Prop
 |nil:IsL [] []
 |cons {d:D} {v:V} {ds:List D} {vs:List V} (h:Is d v) (t:IsL ds vs):IsL (d::ds) (v::vs)
inductive IsK:List (Key×D)->List (Key×V)->Prop
 |nil:IsK [] []
 |cons {k:Key} {d:D} {v:V} {ds:List (Key×D)} {vs:List (Key×V)} (h:Is d v) (t:IsK ds vs):IsK ((k,d)::ds) ((k,v)::vs)
end
end
section
variable{K:Fg9}{F F':Hp}
mutual
theorem Is.mono(g:Same F F'):∀{d:D} {v:V},Is K F d v->Is K F' d v
 |_,_,.non=>.non
 |_,_,.bl b=>.bl b
 |_,_,.int i=>.int i
 |_,_,.str x=>.str x
 |_,_,.tup e h=>.tup (g _ _ e) (IsL.mono g h)
 |_,_,.lst e h=>.lst (g _ _ e) (IsL.mono g h)
 |_,_,.kst e h=>.kst (L2.Same.seq g e) (IsL.mono g h)
 |_,_,.dct e h=>.dct (g _ _ e) (IsK.mono g h)
 |_,_,.exn e hc hk hf=>.exn (g _ _ e) hc hk (hf.imp id λ⟨d,h1,h2⟩=>⟨d,h1,g _ _ h2⟩)
theorem IsL.mono(g:Same F F'):∀{ds:List D} {vs:List V},IsL K F ds vs->IsL K F' ds vs
 |_,_,.nil=>.nil
 |_,_,.cons h t=>.cons (Is.mono g h) (IsL.mono g t)
theorem IsK.mono(g:Same F F'):∀{ds:List (Key×D)} {vs:List (Key×V)},IsK K F ds vs->IsK K F' ds vs
 |_,_,.nil=>.nil
 |_,_,.cons h t=>.cons (Is.mono g h) (IsK.mono g t)
end
theorem IsL.length:∀{ds:List D} {vs:List V},IsL K F ds vs->ds.length=vs.length
 |_,_,.nil=>rfl
 |_,_,.cons _ t=>by simp[IsL.length t]
theorem IsL.append:∀{ds es:List D} {vs ws:List V},IsL K F ds vs->IsL K F es ws->IsL K F (ds++es) (vs++ws)
 |_,_,_,_,.nil,h=>h
 |_,_,_,_,.cons h t,k=>.cons h (IsL.append t k)
theorem IsL.take:∀{ds:List D} {vs:List V} (n:Nat),IsL K F ds vs->IsL K F (ds.take n) (vs.take n)
 |_,_,0,_=>by simpa using IsL.nil
 |_,_,_+1,.nil=>.nil
 |_,_,n+1,.cons h t=>.cons h (IsL.take n t)
theorem IsL.drop:∀{ds:List D} {vs:List V} (n:Nat),IsL K F ds vs->IsL K F (ds.drop n) (vs.drop n)
 |_,_,0,h=>h
 |_,_,_+1,.nil=>.nil
 |_,_,n+1,.cons _ t=>IsL.drop n t
theorem IsL.get:∀{ds:List D} {vs:List V} {i:Nat} {d:D},IsL K F ds vs->ds[i]? = ZZ d->∃v,vs[i]? = ZZ v/\Is K F d v
 |_,_,_,_,.nil,e=>by simp at e
 |_,_,0,_,.cons h _,e=>by simp at e;subst e;exact⟨_,rfl,h⟩
 |_,_,i+1,v,.cons _ t,e=>by
  obtain⟨d,h1,h2⟩:=IsL.get (i:=i) (d:=v) t (by simpa using e)
  exact⟨d,by simpa using h1,h2⟩
theorem IsL.set{d:D}{v:V}(h:Is K F d v):∀{ds:List D} {vs:List V} (i:Nat),IsL K F ds vs->IsL K F (ds.set i d) (vs.set i v)
 |_,_,_,.nil=>.nil
 |_,_,0,.cons _ t=>.cons h t
 |_,_,i+1,.cons q t=>.cons q (IsL.set h i t)
theorem IsL.rep{ds:List D}{vs:List V}(h:IsL K F ds vs):∀k:Nat,IsL K F (aD k ds).flatten (aD k vs).flatten
 | 0=>by simpa using IsL.nil
 |k+1=>by
  rw[dH,dH,iW,iW];exact h.append (IsL.rep h k)
theorem IsL.int_inv{ns:List Int}:∀{vs:List V},IsL K F (ns.map D.int) vs->vs=ns.map V.int:=by
 induction ns with
 |nil=>
  intro _ h;cases h;rfl
 |cons n r ih=>
  intro _ h;cases h with
  |cons h t=>
   cases h;rw[ih t];rfl
theorem IsL.bl_inv{ns:List Bool}:∀{vs:List V},IsL K F (ns.map D.bl) vs->vs=ns.map V.bl:=by
 induction ns with
 |nil=>
  intro _ h;cases h;rfl
 |cons n r ih=>
  intro _ h;cases h with
  |cons h t=>
   cases h;rw[ih t];rfl
theorem af4:∀ns:List Int,IsL K F (ns.map D.int) (ns.map V.int)
 | []=>.nil
 |n::r=>.cons (.int n) (af4 r)
end
inductive Sl where
 |emp |val (d:D) |own (t:Option Nat) (l:List D) |box (c:Str) (fs:List (Str×(Nat ⊕ D)))
abbrev Ro:=List Sl
def Owns(ρ:Ro)(σ:L2.St)(i:Nat)(a:aQ):Prop:=(∃t l,ρ[i]? = ZZ (.own t l))/\σ[i]? = ZZ (ZZ (.ref a))
def Own(ρ:Ro)(σ:L2.St)(a:aQ):Prop:=∃i,Owns ρ σ i a
def SlOk(K:Fg9)(tg:Nat->aQ)(F H:Hp):Sl->Option V->Prop
 |.emp,_=>True
 |.val d,o=>∃v,o=ZZ v/\Is K F d v
 |.own t l,o=>∃a vs,o=ZZ (.ref a)/\F a=ZY/\H a=ZZ (.lst vs)/\IsL K F l vs/\∀k,t=ZZ k->tg k=a
 |.box c fs,o=>∃a C dx fvs,o=ZZ (.ref a)/\F a=ZY/\H a=ZZ (.ins C dx fvs)/\nsIn K aV c=ZZ (ZZ (.ref C))/\(∀f,fs.lookup f=ZY->fvs.lookup f=ZY)/\(∀f k,fs.lookup f=ZZ (.inl k)->fvs.lookup f=ZZ (.ref (tg k)))/\∀f d,fs.lookup f=ZZ (.inr d)->∃v,fvs.lookup f=ZZ v/\Is K F d v
structure Good (K:Fg9) (tg:Nat->aQ) (F H:Hp) (ρ:Ro) (σ:L2.St):Prop where
 sub:Same F H
 len:ρ.length=σ.length
 sl:∀(i:Nat) (s:Sl) (o:Option V),ρ[i]? = ZZ s->σ[i]? = ZZ o->SlOk K tg F H s o
 inj:∀(i j:Nat) (a:aQ),Owns ρ σ i a->Owns ρ σ j a->i=j
structure Ext (O O':aQ->Prop) (F H F' H':Hp):Prop where
 sub:Same F F'
 new:∀a o,F' a=ZZ o->F a=ZZ o∨H a=ZY∨O a
 keep:∀a o,H a=ZZ o->¬O a->H' a=ZZ o
 own:∀a,O' a->O a∨H a=ZY
 there:∀a,H' a=ZY->H a=ZY
def Ext.refl(O:aQ->Prop)(F H:Hp):Ext O O F H F H:=⟨λ_ _ e=>e,λ_ _ e=>.inl e,λ_ _ e _=>e,λ_ h=>.inl h,λ_ h=>h⟩
def Ext.trans{O O1 O2:aQ->Prop}{F H F1 H1 F2 H2:Hp}(a:Ext O O1 F H F1 H1)(b:Ext O1 O2 F1 H1 F2 H2):Ext O O2 F H F2 H2 where
 sub:=a.sub.trans b.sub
 new:=λc o e=>by
  rcases b.new c o e with q |q |q
  ·exact a.new c o q
  ·exact .inr (.inl (a.there c q))
  ·rcases a.own c q with z |z
   ·exact .inr (.inr z)
   ·exact .inr (.inl z)
 keep:=λc o e n=>b.keep c o (a.keep c o e n) λz=>by
  rcases a.own c z with q |q
  ·exact n q
  ·rw[e] at q;cases q
 own:=λc z=>by
  rcases b.own c z with q |q
  ·exact a.own c q
  ·exact .inr (a.there c q)
 there:=λc z=>a.there c (b.there c z)
section
variable{K:Fg9}{tg:Nat->aQ}{F H F' H':Hp}{ρ ρ':Ro}{σ:L2.St}
def Good.ownAt(G:Good K tg F H ρ σ){a:aQ}(h:Own ρ σ a):F a=ZY/\∃vs,H a=ZZ (.lst vs):=by
 obtain⟨i,⟨t,l,e⟩,q⟩:=h;obtain⟨b,vs,e1,f,e2,_⟩:=G.sl i _ _ e q;cases e1;exact⟨f,vs,e2⟩
def Good.grow(G:Good K tg F H ρ σ)(s:Same F F')(s':Same F' H')(k:∀a,Own ρ σ a->F' a=ZY/\H' a=H a)(kb:∀a C dx fvs,F a=ZY->H a=ZZ (.ins C dx fvs)->F' a=ZY/\H' a=H a):Good K tg F' H' ρ σ where
 sub:=s'
 len:=G.len
 inj:=G.inj
 sl:=λi sl o e q=>by
  have z:=G.sl i sl o e q;cases sl with
  |emp=>trivial
  |val d=>
   obtain⟨v,e1,h⟩:=z;exact⟨v,e1,h.mono s⟩
  |box c fs=>
   obtain⟨a,C,dx,fvs,e1,e2,e3,e4,e7,e5,e6⟩:=z;obtain⟨f1,f2⟩:=kb a C dx fvs e2 e3;exact⟨a,C,dx,fvs,e1,f1,f2.trans e3,e4,e7,e5,λf d h=>(e6 f d h).imp λv h=>⟨h.1,h.2.mono s⟩⟩
  |own t l=>
   obtain⟨a,vs,e1,f,e2,h,ht⟩:=z;have w:=k a ⟨i,⟨t,l,e⟩,by rw[q,e1]⟩
   exact⟨a,vs,e1,w.1,by rw[w.2];exact e2,h.mono s,ht⟩
def Same.put{p:aQ}(s:Same F H)(h:H p=ZY)(o:HO):Same (upd F p o) (upd H p o):=λb u e=>by
 by_cases hb:b=p
 ·subst hb;rw[gk] at e ⊢
  exact e
 ·rw[b7 hb] at e ⊢
  exact s b u e
theorem Good.freeF(G:Good K tg F H ρ σ){p:aQ}(h:H p=ZY):F p=ZY:=by
 cases e:F p with
 |none=>rfl
 |some o=>rw[G.sub p o e] at h;cases h
def Good.own_ne(G:Good K tg F H ρ σ){p a:aQ}(h:H p=ZY)(w:Own ρ σ a):a≠p:=by
 obtain⟨_,vs,e⟩:=G.ownAt w;exact jj e h
def Good.new(G:Good K tg F H ρ σ){p:aQ}(h:H p=ZY)(o:HO):Good K tg (upd F p o) (upd H p o) ρ σ :=
 G.grow (Same.new (G.freeF h) o) (Same.put G.sub h o) (λa w=>by
  rw[b7 (G.own_ne h w),b7 (G.own_ne h w)];exact⟨(G.ownAt w).1,rfl⟩) λa C dx fvs h1 h2=>by
  rw[b7 (jj h2 h),b7 (jj h2 h)];exact⟨h1,rfl⟩
def Good.newX(G:Good K tg F H ρ σ){p:aQ}(h:H p=ZY)(o:HO):Ext (Own ρ σ) (Own ρ σ) F H (upd F p o) (upd H p o) where
 sub:=Same.new (G.freeF h) o
 new:=λa u e=>by
  by_cases ha:a=p
  ·subst ha;exact .inr (.inl h)
  ·rw[b7 ha] at e;exact .inl e
 keep:=λa u e _=>by rw[b7 (jj e h)];exact e
 own:=λa w=>.inl w
 there:=λa e=>by
  by_cases ha:a=p
  ·subst ha;exact h
  ·rw[b7 ha] at e;exact e
def Good.fresh(G:Good K tg F H ρ σ){p:aQ}(h:H p=ZY)(o:HO):Good K tg F (upd H p o) ρ σ :=
 G.grow (Same.refl F) (λb u e=>by rw[b7 (jj (G.sub b u e) h)];exact G.sub b u e) (λa w=>by
  rw[b7 (G.own_ne h w)];exact⟨(G.ownAt w).1,rfl⟩) λa C dx fvs h1 h2=>⟨h1,b7 (jj h2 h)⟩
def Good.freshX(G:Good K tg F H ρ σ){p:aQ}(h:H p=ZY)(o:HO):Ext (Own ρ σ) (Own ρ σ) F H F (upd H p o) where
 sub:=Same.refl F
 new:=λa u e=>.inl e
 keep:=λa u e _=>by rw[b7 (jj e h)];exact e
 own:=λa w=>.inl w
 there:=λa e=>by
  by_cases ha:a=p
  ·subst ha;exact h
  ·rw[b7 ha] at e;exact e
def Good.freeze(G:Good K tg F H ρ σ){p:aQ}{o:HO}(h:H p=ZZ o)(n:¬Own ρ σ p)(hf:F p=ZY)(hi:∀C dx fs,o≠.ins C dx fs:=by intro _ _ _ z;cases z):Good K tg (upd F p o) H ρ σ :=
 G.grow (Same.new hf o) (λb u e=>by
  by_cases hb:b=p
  ·subst hb;rw[gk] at e;cases e;exact h
  ·rw[b7 hb] at e;exact G.sub b u e) (λa w=>by
  have:a≠p:=λz=>n (z▸w)
  rw[b7 this];exact⟨(G.ownAt w).1,rfl⟩) λa C dx fvs h1 h2=>by
  have:a≠p:=λz=>by
   subst z;rw[h] at h2;exact hi _ _ _ (cN h2)
  rw[b7 this];exact⟨h1,rfl⟩
end
end Dn
namespace Dn
open L2 Mn
structure Exn where
 cls:Str
 fs:List (Str×Int)
inductive Out (α:Type) where
 |ok (a:α) |exc (x:Exn)
abbrev M(α:Type):=Ro->Option (Out α×Ro)
noncomputable def M.bind{α β:Type}(m:M α)(k:α->M β):M β:=λρ=>match m ρ with
 |some (.ok a,ρ1)=>k a ρ1
 |some (.exc x,ρ1)=>ZZ (.exc x,ρ1)
 |none=>ZY
noncomputable def ret{α:Type}(a:α):M α:=λρ=>ZZ (.ok a,ρ)
noncomputable def lift{α:Type}(o:Option α):M α:=λρ=>match o with
 |some a=>ZZ (.ok a,ρ)
 |none=>ZY
section
variable{α β:Type}
def bf{m:M α}{k:α->M β}{ρ ρ2:Ro}{b:β}(h:m.bind k ρ=ZZ (.ok b,ρ2)):∃a ρ1,m ρ=ZZ (.ok a,ρ1)/\k a ρ1=ZZ (.ok b,ρ2):=by
 unfold M.bind at h;split at h
 ·exact⟨_,_,by assumption,h⟩
 ·cases h
 ·cases h
def ik{o:Option α}{ρ ρ2:Ro}{b:α}(h:lift o ρ=ZZ (.ok b,ρ2)):o=ZZ b/\ρ2=ρ:=by
 unfold lift at h;split at h
 ·cases h;exact⟨rfl,rfl⟩
 ·cases h
def j6{a b:α}{ρ ρ2:Ro}(h:ret a ρ=ZZ (.ok b,ρ2)):a=b/\ρ2=ρ:=by
 unfold ret at h;cases h;exact⟨rfl,rfl⟩
@[simp] theorem a5l(a:α)(k:α->M β):(ret a).bind k=k a:=rfl
@[simp] theorem a3s(a:α):lift (ZZ a)=ret a:=rfl
end
inductive Rv where
 |v (d:D) |fr (l:List D)
 |tf (d:D) (l:List D)
abbrev Rel(α:Type):=α->V->(H:Hp)->(O:aQ->Prop)->(F' H':Hp)->(O':aQ->Prop)->Prop
def relD(K:Fg9):Rel D:=λd v _ _ F' _ _=>Is K F' d v
def Bor(K:Fg9)(F H:Hp)(d:D)(v:V):Prop:=Is K F d v∨∃a vs l,d=.lst l/\v=.ref a/\H a=ZZ (.lst vs)/\IsL K F l vs
def relB(K:Fg9):Rel D:=λd v _ _ F' H' _=>Bor K F' H' d v
def relR(K:Fg9):Rel Rv:=λr v H O F' H' O'=>match r with
 |.v d=>Is K F' d v
 |.fr l=>∃a vs,v=.ref a/\(H a=ZY∨O a)/\F' a=ZY/\H' a=ZZ (.lst vs)/\IsL K F' l vs/\¬O' a
 |.tf d l=>∃t u a vs,v=.ref t/\F' t=ZZ (.tup [u,.ref a])/\Is K F' d u/\(H a=ZY∨O a)/\F' a=ZY/\H' a=ZZ (.lst vs)/\IsL K F' l vs/\¬O' a
def T{α:Type}(K:Fg9)(rel:Rel α)(m:M α):TE:=λσ H Q=>∃tg F ρ a ρ',Good K tg F H ρ σ/\m ρ=ZZ (.ok a,ρ') /\
 ∀v H' F',Good K tg F' H' ρ' σ->Ext (Own ρ σ) (Own ρ' σ) F H F' H'->rel a v H (Own ρ σ) F' H' (Own ρ' σ)->Q v H'
structure EV (K:Fg9) (X:Cx) (e:dI) (m:M D):Prop where
 go:X.K=K->PE X e (T K (relD K) m)
instance {K:Fg9} {X:Cx} {e:dI} {m:M D}:CoeFun (EV K X e m) λ_=>X.K=K->PE X e (T K (relD K) m):=⟨EV.go⟩
structure EB (K:Fg9) (X:Cx) (e:dI) (m:M D):Prop where
 go:X.K=K->PE X e (T K (relB K) m)
instance {K:Fg9} {X:Cx} {e:dI} {m:M D}:CoeFun (EB K X e m) λ_=>X.K=K->PE X e (T K (relB K) m):=⟨EB.go⟩
structure ER (K:Fg9) (X:Cx) (e:dI) (m:M Rv):Prop where
 go:X.K=K->PE X e (T K (relR K) m)
instance {K:Fg9} {X:Cx} {e:dI} {m:M Rv}:CoeFun (ER K X e m) λ_=>X.K=K->PE X e (T K (relR K) m):=⟨ER.go⟩
def PE.imp{X:Cx}{e:dI}{t t':TE}(h:PE X e t)(w:∀σ H Q,t' σ H Q->t σ H Q):PE X e t':=λzv s σ H Q I q=>h zv s σ H Q I (w σ H Q q)
section
variable{K:Fg9}{X:Cx}{e a b:dI}{pos:Pos}
def yb{m:M D}(h:EV K X e m):EB K X e m:=EB.mk λhk=>PE.imp (h hk) λσ H Q ⟨tg,F,ρ,d,ρ',G,em,q⟩=>⟨tg,F,ρ,d,ρ',G,em,λv H' F' G' x r=>q v H' F' G' x (.inl r)⟩
def M.v(m:M D):M Rv:=m.bind λd=>ret (.v d)
def wb{m:M D}(h:EV K X e m):ER K X e m.v:=ER.mk λhk=>PE.imp (h hk) λσ H Q z9=>by
 obtain⟨tg,F,ρ,r,ρ',G,em,q⟩:=z9;obtain⟨d,ρ1,e1,e2⟩:=bf em;obtain⟨rfl,rfl⟩:=j6 e2;exact⟨tg,F,ρ,d,_,G,e1,λv H' F' G' x r=>q v H' F' G' x r⟩
def Rv.d:Rv->D
 |.v d=>d
 |.fr l=>.lst l
 |.tf d l=>.tup [d,.lst l]
def M.d(m:M Rv):M D:=m.bind λr=>ret r.d
theorem frz{tg:Nat->aQ}{O:aQ->Prop}{F H F' H':Hp}{ρ':Ro}{σ':L2.St}{r:Rv}{v:V}(G:Good K tg F' H' ρ' σ')(x:Ext O (Own ρ' σ') F H F' H')(h:relR K r v H O F' H' (Own ρ' σ')) :
  ∃F2,Good K tg F2 H' ρ' σ'/\Ext O (Own ρ' σ') F H F2 H'/\Is K F2 r.d v:=by
 cases r with
 |v d=>exact⟨F',G,x,h⟩
 |fr l=>
  obtain⟨a,vs,rfl,ha,hf,hh,hl,hn⟩:=h;refine⟨upd F' a (.lst vs),G.freeze hh hn hf,⟨x.sub.trans (Same.new hf _),λb o e=>?_,x.keep,x.own,x.there⟩,.lst gk (hl.mono (Same.new hf _))⟩
  by_cases hb:b=a
  ·subst hb;exact .inr ha
  ·rw[b7 hb] at e;exact x.new b o e
 |tf d l=>
  obtain⟨t,u,a,vs,rfl,ht,hd,ha,hf,hh,hl,hn⟩:=h;have hta:t≠a:=λz=>by rw[z,hf] at ht;cases ht
  refine⟨upd F' a (.lst vs),G.freeze hh hn hf,⟨x.sub.trans (Same.new hf _),λb o e=>?_,x.keep,x.own,x.there⟩,.tup (by rw[b7 hta];exact ht) (.cons (hd.mono (Same.new hf _)) (.cons (.lst gk (hl.mono (Same.new hf _))) .nil))⟩
  by_cases hb:b=a
  ·subst hb;exact .inr ha
  ·rw[b7 hb] at e;exact x.new b o e
def vb{m:M Rv}(h:ER K X e m):EV K X e m.d:=EV.mk λhk=>PE.imp (h hk) λσ H Q z9=>by
 obtain⟨tg,F,ρ,d,ρ',G,em,q⟩:=z9;obtain⟨r,ρ1,e1,e2⟩:=bf em;obtain⟨rfl,rfl⟩:=j6 e2;refine⟨tg,F,ρ,r,_,G,e1,λv H' F' G' x w=>?_⟩
 obtain⟨F2,G2,x2,i2⟩:=frz G' x w;exact q v H' F2 G2 x2 i2
noncomputable def gr(i:Nat):M D:=λρ=>match ρ[i]? with
 |some (.val d)=>ZZ (.ok d,ρ)
 |some (.own _ l)=>ZZ (.ok (.lst l),ρ)
 |_=>ZY
def Good.at{tg:Nat->aQ}{F H:Hp}{ρ:Ro}{σ:L2.St}(G:Good K tg F H ρ σ){i:Nat}{s:Sl}(e:ρ[i]? = ZZ s):∃o,σ[i]? = ZZ o/\SlOk K tg F H s o:=by
 have hi:i < σ.length:=by rw[<-G.len];exact(aK.mp e).1
 exact⟨σ[i],aF hi,G.sl i s _ e (aF hi)⟩
def ph{tg:Nat->aQ}{F H:Hp}{ρ ρ':Ro}{σ:L2.St}(G:Good K tg F H ρ σ){i:Nat}{d:D}(em:gr i ρ=ZZ (.ok d,ρ')):ρ'=ρ/\∃v,σ[i]? = ZZ (ZZ v)/\Bor K F H d v:=by
 unfold gr at em;split at em
 ·rename_i d' e';cases em;obtain⟨o,ho,v,rfl,hv⟩:=G.at e';exact⟨rfl,v,ho,.inl hv⟩
 ·rename_i t l e';cases em;obtain⟨o,ho,a,vs,rfl,hf,hh,hl,_⟩:=G.at e';exact⟨rfl,_,ho,.inr ⟨a,vs,l,rfl,rfl,hh,hl⟩⟩
 ·cases em
def cg{i:Nat}(h:PE X e (tVar i)):EB K X e (gr i):=EB.mk λ_=>PE.imp h λσ H Q z9=>by
 obtain⟨tg,F,ρ,d,ρ',G,em,q⟩:=z9;obtain⟨rfl,v,ho,hv⟩:=ph G em;exact⟨v,ho,q v H F G (Ext.refl _ _ _) hv⟩
def alj(i:Nat):M Rv:=λρ=>match ρ[i]? with
 |some (.val d)=>ZZ (.ok (.v d),ρ)
 |some (.own ZY l)=>ZZ (.ok (.fr l),ρ.set i .emp)
 |_=>ZY
def Good.drop{tg:Nat->aQ}{F H:Hp}{ρ:Ro}{σ:L2.St}(G:Good K tg F H ρ σ)(i:Nat):Good K tg F H (ρ.set i .emp) σ:=by
 have sub:∀j t l,(bZ ρ i Sl.emp)[j]? = ZZ (Sl.own t l)->(ρ:List Sl)[j]? = ZZ (Sl.own t l):=λj t l e=>by
  rw[bJ] at e;split at e
  ·split at e <;> cases e
  ·exact e
 refine⟨G.sub,by rw[cC];exact G.len,λj s o e q=>?_,λj k a ⟨⟨t,l,e⟩,q⟩ ⟨⟨t',l',e'⟩,q'⟩=>G.inj j k a ⟨⟨t,l,sub _ _ _ e⟩,q⟩ ⟨⟨t',l',sub _ _ _ e'⟩,q'⟩⟩
 rw[bJ] at e;split at e
 ·split at e
  ·cases e;trivial
  ·cases e
 ·exact G.sl j s o e q
def ad7{ρ:Ro}{σ:L2.St}{i:Nat}{a:aQ}(h:Own (ρ.set i .emp) σ a):Own ρ σ a/\∀t l,ρ[i]? = ZZ (.own t l)->∀(inj:∀i j a,Owns ρ σ i a->Owns ρ σ j a->i=j),¬Owns ρ σ i a:=by
 obtain⟨j,⟨t,l,e⟩,q⟩:=h;rw[bJ] at e;split at e
 ·split at e <;> cases e
 ·rename_i hne;have w:Owns ρ σ j a:=⟨⟨t,l,e⟩,q⟩;exact⟨⟨j,w⟩,λt' l' _ inj z=>hne (inj _ _ _ z w)⟩
def ahg{i:Nat}(h:PE X e (tVar i)):ER K X e (alj i):=ER.mk λ_=>PE.imp h λσ H Q z9=>by
 obtain⟨tg,F,ρ,d,ρ',G,em,q⟩:=z9;unfold alj at em;split at em
 ·rename_i d' e';cases em;obtain⟨o,ho,v,rfl,hv⟩:=G.at e';exact⟨v,ho,q v H F G (Ext.refl _ _ _) hv⟩
 ·rename_i l e';cases em;obtain⟨o,ho,a,vs,rfl,hf,hh,hl,_⟩:=G.at e';have w:Owns ρ σ i a:=⟨⟨_,_,e'⟩,ho⟩;refine⟨_,ho,q _ H F (G.drop i) ⟨Same.refl _,λ_ _ e=>.inl e,λ_ _ e _=>e,λb z=>.inl (ad7 z).1,λ_ z=>z⟩ ⟨a,vs,rfl,.inr ⟨i,w⟩,hf,hh,hl,λz=>(ad7 z).2 _ _ e' G.inj w⟩⟩
 ·cases em
noncomputable def mVar(i:Nat):M D:=λρ=>match ρ[i]? with
 |some (.val d)=>ZZ (.ok d,ρ)
 |some (.own ZY l)=>ZZ (.ok (.lst l),ρ.set i (.val (.lst l)))
 |_=>ZY
def av1{ρ:Ro}{σ:L2.St}{i:Nat}{d:D}{a:aQ}(h:Own (ρ.set i (.val d)) σ a):Own (ρ.set i .emp) σ a:=by
 obtain⟨j,⟨t,l,e⟩,q⟩:=h;refine⟨j,⟨t,l,?_⟩,q⟩;rw[bJ] at e ⊢
 split at e
 ·split at e <;> cases e
 ·rename_i hne;rw[if_neg hne];exact e
def Good.setv{tg:Nat->aQ}{F H:Hp}{ρ:Ro}{σ:L2.St}{i:Nat}{d:D}{v:V}(G:Good K tg F H (ρ.set i .emp) σ)(e:σ[i]? = ZZ (ZZ v))(h:Is K F d v):Good K tg F H (ρ.set i (.val d)) σ:=by
 have sub:∀j t l,(bZ ρ i (Sl.val d))[j]? = ZZ (Sl.own t l)->(bZ ρ i Sl.emp)[j]? = ZZ (Sl.own t l):=λj t l z=>by
  rw[bJ] at z ⊢
  split at z
  ·split at z <;> cases z
  ·rename_i hne;rw[if_neg hne];exact z
 refine⟨G.sub,by have:=G.len;rw[cC] at this ⊢;exact this,λj s o z q=>?_,λj k a ⟨⟨t,l,z⟩,q⟩ ⟨⟨t',l',z'⟩,q'⟩=>G.inj j k a ⟨⟨t,l,sub _ _ _ z⟩,q⟩ ⟨⟨t',l',sub _ _ _ z'⟩,q'⟩⟩
 by_cases hij:i=j
 ·subst hij;rw[bJ,if_pos rfl] at z;split at z
  ·cases z;rw[e] at q;cases q;exact⟨v,rfl,h⟩
  ·cases z
 ·refine G.sl j s o ?_ q;rw[bJ,if_neg hij] at z ⊢
  exact z
def ak{i:Nat}(h:PE X e (tVar i)):EV K X e (mVar i):=EV.mk λ_=>PE.imp h λσ H Q z9=>by
 obtain⟨tg,F,ρ,d,ρ',G,em,q⟩:=z9;unfold mVar at em;split at em
 ·rename_i d' e';cases em;obtain⟨o,ho,v,rfl,hv⟩:=G.at e';exact⟨v,ho,q v H F G (Ext.refl _ _ _) hv⟩
 ·rename_i l e';cases em;obtain⟨o,ho,a,vs,rfl,hf,hh,hl,_⟩:=G.at e';have w:Owns ρ σ i a:=⟨⟨_,_,e'⟩,ho⟩;have nown:¬Own (ρ.set i .emp) σ a:=λz=>(ad7 z).2 _ _ e' G.inj w
  have G2:=(G.drop i).freeze hh nown hf;have i2:Is K (upd F a (.lst vs)) (.lst l) (.ref a):=.lst gk (hl.mono (Same.new hf _));refine⟨_,ho,q _ H _ (G2.setv ho i2) ⟨Same.new hf _,λb o z=>?_,λ_ _ z _=>z,λb z=>.inl (ad7 (av1 z)).1,λ_ z=>z⟩ i2⟩
  by_cases hb:b=a
  ·subst hb;exact .inr (.inr ⟨i,w⟩)
  ·rw[b7 hb] at z;exact .inl z
 ·cases em
def ev_c{d:D}{v:V}(h:PE X e (tC v))(hi:∀F,Is K F d v):EV K X e (ret d):=EV.mk λ_=>PE.imp h λσ H Q z9=>by
 obtain⟨tg,F,ρ,d',ρ',G,em,q⟩:=z9;obtain⟨rfl,rfl⟩:=j6 em;exact q v H F G (Ext.refl _ _ _) (hi F)
def bh{i:Int}{j:Nat}:EV K X (.Constant (.int i) j pos) (ret (.int i)):=ev_c a2r λ_=>.int i
def aaf{i:Bool}{j:Nat}:EV K X (.Constant (.bool i) j pos) (ret (.bl i)):=ev_c a7l λ_=>.bl i
def aft{j:Nat}:EV K X (.Constant .none j pos) (ret .non):=ev_c a2p λ_=>.non
def ji{i:Str}{j:Nat}:EV K X (.Constant (.str i) j pos) (ret (.str i)):=ev_c a2m λ_=>.str i
def T2(K:Fg9)(m:M (D×D))(σ:L2.St)(H:Hp)(R:V->V->Hp->Prop):Prop:=∃tg F ρ p ρ',Good K tg F H ρ σ/\m ρ=ZZ (.ok p,ρ') /\
 ∀x y H' F',Good K tg F' H' ρ' σ->Ext (Own ρ σ) (Own ρ' σ) F H F' H'->Bor K F' H' p.1 x->Bor K F' H' p.2 y->R x y H'
structure E2 (K:Fg9) (X:Cx) (a b:dI) (m:M (D×D)):Prop where
 go:X.K=K->∃ta tb,PE X a ta/\PE X b tb/\∀σ H R,T2 K m σ H R->ta σ H λx H1=>tb σ H1 λy H2=>R x y H2
instance {K:Fg9} {X:Cx} {a b:dI} {m:M (D×D)}:CoeFun (E2 K X a b m) λ_=>X.K=K->∃ta tb,PE X a ta/\PE X b tb/\∀σ H R,T2 K m σ H R->ta σ H λx H1=>tb σ H1 λy H2=>R x y H2:=⟨E2.go⟩
def jd(m1 m2:M D):M (D×D):=m1.bind λx=>m2.bind λy=>ret (x,y)
def dh(i:Nat)(m2:M D):M (D×D):=(gr i).bind λ_=>m2.bind λy=>(gr i).bind λx=>ret (x,y)
def e2_v{m1 m2:M D}(ha:EV K X a m1)(hb:EB K X b m2):E2 K X a b (jd m1 m2):=E2.mk λhk=>⟨_,_,ha hk,hb hk,λσ H R z9=>by
 obtain⟨tg,F,ρ,p,ρ',G,em,q⟩:=z9;obtain⟨d1,ρ1,e1,em⟩:=bf em;obtain⟨d2,ρ2,e2,em⟩:=bf em;obtain⟨rfl,rfl⟩:=j6 em;exact⟨tg,F,ρ,d1,ρ1,G,e1,λx H1 F1 G1 x1 r1=>⟨tg,F1,ρ1,d2,_,G1,e2,λy H2 F2 G2 x2 r2=>q x y H2 F2 G2 (x1.trans x2) (.inl (r1.mono x2.sub)) r2⟩⟩⟩
def e2_n{i:Nat}{m2:M D}(ha:PE X a (tVar i))(hb:EB K X b m2):E2 K X a b (dh i m2):=E2.mk λhk=>⟨_,_,ha,hb hk,λσ H R z9=>by
 obtain⟨tg,F,ρ,p,ρ',G,em,q⟩:=z9;obtain⟨d0,ρ0,e0,em⟩:=bf em;obtain⟨d2,ρ2,e2,em⟩:=bf em;obtain⟨d1,ρ1,e1,em⟩:=bf em;obtain⟨rfl,rfl⟩:=j6 em;obtain⟨rfl,v,hv,_⟩:=ph G e0;exact⟨v,hv,tg,F,ρ0,d2,ρ2,G,e2,λy H2 F2 G2 x2 r2=>by
  obtain⟨rfl,v',hv',b'⟩:=ph G2 e1;rw[hv] at hv';cases hv';exact q v y H2 F2 G2 x2 b' r2⟩⟩
end
section
variable{K:Fg9}{X:Cx}{e a b c:dI}{es:List dI}{pos p:Pos}
section
variable{F H:Hp}{x:V}
def Bor.lst{l:List D}(g:Same F H)(h:Bor K F H (.lst l) x):∃a vs,x=.ref a/\H a=ZZ (.lst vs)/\IsL K F l vs:=by
 rcases h with h |⟨a,vs,l',e1,e2,e3,h⟩
 ·cases h with
  |lst e h=>exact⟨_,_,rfl,g _ _ e,h⟩
 ·cases e1;exact⟨a,vs,e2,e3,h⟩
def Bor.tup{l:List D}(h:Bor K F H (.tup l) x):∃a vs,x=.ref a/\F a=ZZ (.tup vs)/\IsL K F l vs:=by
 rcases h with h |⟨a,vs,l',e1,_⟩
 ·cases h with
  |tup e h=>exact⟨_,_,rfl,e,h⟩
 ·cases e1
def Bor.kst{l:List D}(h:Bor K F H (.kst l) x):∃a vs,x=.ref a/\SqL K F a vs/\IsL K F l vs:=by
 rcases h with h |⟨a,vs,l',e1,_⟩
 ·cases h with
  |kst e h=>exact⟨_,_,rfl,e,h⟩
 ·cases e1
def Bor.int{i:Int}(h:Bor K F H (.int i) x):x=.int i:=by
 rcases h with h |⟨a,vs,l',e1,_⟩
 ·cases h;rfl
 ·cases e1
def Bor.bl{i:Bool}(h:Bor K F H (.bl i) x):x=.bl i:=by
 rcases h with h |⟨a,vs,l',e1,_⟩
 ·cases h;rfl
 ·cases e1
def Bor.str{i:Str}(h:Bor K F H (.str i) x):x=.str i:=by
 rcases h with h |⟨a,vs,l',e1,_⟩
 ·cases h;rfl
 ·cases e1
def Bor.non(h:Bor K F H .non x):x=.non:=by
 rcases h with h |⟨a,vs,l',e1,_⟩
 ·cases h;rfl
 ·cases e1
end
def Res(K:Fg9)(tg:Nat->aQ)(F H:Hp)(ρ:Ro)(σ:L2.St)(r:Rv)(Q:VK):Prop :=
 ∀v H' F',Good K tg F' H' ρ σ->Ext (Own ρ σ) (Own ρ σ) F H F' H'->relR K r v H (Own ρ σ) F' H' (Own ρ σ)->Q v H'
section
variable{tg:Nat->aQ}{F H:Hp}{ρ:Ro}{σ:L2.St}{Q:VK}
def ub{d:D}{v:V}(G:Good K tg F H ρ σ)(q:Res K tg F H ρ σ (.v d) Q)(h:Is K F d v):Q v H:=q v H F G (Ext.refl _ _ _) h
def Res.tup{l:List D}{vs:List V}(G:Good K tg F H ρ σ)(q:Res K tg F H ρ σ (.v (.tup l)) Q)(h:IsL K F l vs){p:aQ}(hp:H p=ZY):Q (.ref p) (upd H p (.tup vs)) :=
 q _ _ _ (G.new hp _) (G.newX hp _) (.tup gk (h.mono (Same.new (G.freeF hp) _)))
def Res.lst{l:List D}{vs:List V}(G:Good K tg F H ρ σ)(q:Res K tg F H ρ σ (.fr l) Q)(h:IsL K F l vs){p:aQ}(hp:H p=ZY):Q (.ref p) (upd H p (.lst vs)) :=
 q _ _ _ (G.fresh hp _) (G.freshX hp _) ⟨p,vs,rfl,.inl hp,G.freeF hp,gk,h,λz=>G.own_ne hp z rfl⟩
end
def rOf(K:Fg9)(g:D->D->Option Rv):R2:=λx y H Q=>∃tg F ρ σ d1 d2 r,Good K tg F H ρ σ/\Bor K F H d1 x/\Bor K F H d2 y/\g d1 d2=ZZ r/\Res K tg F H ρ σ r Q
structure OpD (K:Fg9) (X:Cx) (f:aG->aG->Sem aG) (g:D->D->Option Rv):Prop where
 go:X.K=K->OpR X f (rOf K g)
instance {K:Fg9} {X:Cx} {f:aG->aG->Sem aG} {g:D->D->Option Rv}:CoeFun (OpD K X f g) λ_=>X.K=K->OpR X f (rOf K g):=⟨OpD.go⟩
def mOp(g:D->D->Option Rv)(m:M (D×D)):M Rv:=m.bind λp=>lift (g p.1 p.2)
theorem aom{g:D->D->Option Rv}{m:M (D×D)}{ta tb:TE}(h:∀σ H R,T2 K m σ H R->ta σ H λx H1=>tb σ H1 λy H2=>R x y H2)(σ:L2.St)(H:Hp)(Q:VK)(t:T K (relR K) (mOp g m) σ H Q):tOp (rOf K g) ta tb σ H Q:=by
 obtain⟨tg,F,ρ,r,ρ',G,em,q⟩:=t;obtain⟨p,ρ1,e1,em⟩:=bf em;obtain⟨e2,rfl⟩:=ik em;refine h σ H _ ⟨tg,F,ρ,p,_,G,e1,λx y H' F' G' x' bx by'=>⟨tg,F',_,σ,p.1,p.2,r,G',bx,by',e2,λv H2 F2 G2 x2 rr=>q v H2 F2 G2 (x'.trans x2) ?_⟩⟩
 cases r with
 |v d=>exact rr
 |fr l=>
  obtain⟨a,vs,ev,ha,w⟩:=rr;refine⟨a,vs,ev,?_,w⟩;rcases ha with ha |ha
  ·exact .inl (x'.there a ha)
  ·exact(x'.own a ha).symm
 |tf d l=>
  obtain⟨t,u,a,vs,ev,ht,hd,ha,w⟩:=rr;refine⟨t,u,a,vs,ev,ht,hd,?_,w⟩;rcases ha with ha |ha
  ·exact .inl (x'.there a ha)
  ·exact(x'.own a ha).symm
def dj{op:Operator}{g:D->D->Option Rv}{m:M (D×D)}(ho:OpD K X (fY op) g)(h:E2 K X a b m):ER K X (.BinOp a op b pos) (mOp g m):=ER.mk λhk=>by
 obtain⟨ta,tb,ha,hb,h⟩:=h hk;exact PE.imp (a7j (ho hk) ha hb) (aom h)
def ahh{op:xO}{g:D->D->Option Rv}{m:M (D×D)}(ho:OpD K X (fP op) g)(h:E2 K X a b m)(hm:behindInMarks op b=ZW):ER K X (.Compare a [op] [b] pos) (mOp g m):=ER.mk λhk=>by
 obtain⟨ta,tb,ha,hb,h⟩:=h hk;exact PE.imp (azk (ho hk) ha hb hm) (aom h)
noncomputable def capS:Nat:=16777216
def ahp{n:Nat}(h:n<=capS):n<=cJ:=by rw[gF];exact h
def gAdd:D->D->Option Rv
 |.int i,.int j=>ZZ (.v (.int (i+j)))
 |.tup l,.tup k=>if l.length+k.length<=capS then ZZ (.v (.tup (l++k))) else ZY
 |.lst l,.lst k=>if l.length+k.length<=capS then ZZ (.fr (l++k)) else ZY
 |.str i,.str j=>if i.length+j.length<=capS then ZZ (.v (.str (i++j))) else ZY
 |_,_=>ZY
def jb:OpD K X (fY .Add) gAdd:=OpD.mk λhk=>by
 intro zv s σ0 H x y v u Q I rx ry z9;obtain⟨tg,F,ρ,σ,d1,d2,r,G,b1,b2,eg,q⟩:=z9;subst hk;unfold gAdd at eg;split at eg
 ·cases eg;obtain rfl:=b1.int;obtain rfl:=b2.int;exact a3c zv s σ0 H _ _ v u Q I rx ry ⟨_,_,rfl,rfl,ub G q (.int _)⟩
 ·split at eg
  ·rename_i hz;cases eg;obtain⟨a1,vs1,rfl,s1,i1⟩:=b1.tup;obtain⟨a2,vs2,rfl,s2,i2⟩:=b2.tup;have l1:=i1.length;have l2:=i2.length
   by_cases hx:vs1=[]
   ·subst hx;cases i1;cases rx;cases ry;obtain⟨its,r1,p1,_⟩:=I.tuple (SqT.of (G.sub _ _ s1));obtain⟨its2,r2,p2,_⟩:=I.tuple (SqT.of (G.sub _ _ s2));exact aw2 p1 p2 (r1.nil_iff.mpr rfl) ⟨.ref a2,H,I,rfl,ub G q (.tup s2 i2)⟩
   ·refine azr zv s σ0 H _ _ v u Q I rx ry ⟨a1,a2,vs1,vs2,rfl,rfl,SqT.of (G.sub _ _ s1),SqT.of (G.sub _ _ s2),hx,by rw[<-l1,<-l2];exact ahp hz,λe=>?_,λ_ p hp=>Res.tup G q (i1.append i2) hp⟩
    subst e;cases i2;exact ub G q (.tup s1 (by simpa using i1))
  ·cases eg
 ·split at eg
  ·rename_i hz;cases eg;obtain⟨a1,vs1,rfl,s1,i1⟩:=b1.lst G.sub;obtain⟨a2,vs2,rfl,s2,i2⟩:=b2.lst G.sub;have l1:=i1.length;have l2:=i2.length;exact a3b zv s σ0 H _ _ v u Q I rx ry ⟨a1,a2,vs1,vs2,rfl,rfl,s1,s2,by rw[<-l1,<-l2];exact ahp hz,λp hp=>Res.lst G q (i1.append i2) hp⟩
  ·cases eg
 ·split at eg
  ·rename_i hz;cases eg;obtain rfl:=b1.str;obtain rfl:=b2.str;exact ap2 zv s σ0 H _ _ v u Q I rx ry ⟨_,_,rfl,rfl,ahp hz,ub G q (.str _)⟩
  ·cases eg
 ·cases eg
def gInt(f:Int->Int->Option Int):D->D->Option Rv
 |.int i,.int j=>(f i j).map λk=>.v (.int k)
 |_,_=>ZY
def am5{op:Operator}{f:Int->Int->Option Int}{C:Int->Int->Prop}{g:Int->Int->Int}(h:OpR X (fY op) (rI C λi j=>.int (g i j)))(hf:∀i j k,f i j=ZZ k->C i j/\k=g i j):OpD K X (fY op) (gInt f):=OpD.mk λhk=>by
 intro zv s σ0 H x y v u Q I rx ry z9;obtain⟨tg,F,ρ,σ,d1,d2,r,G,b1,b2,eg,q⟩:=z9;unfold gInt at eg;split at eg
 ·rename_i i j;obtain rfl:=b1.int;obtain rfl:=b2.int;cases z:f i j with
  |none=>rw[z] at eg;cases eg
  |some k=>
   rw[z] at eg;cases eg;obtain⟨h1,rfl⟩:=hf i j k z;exact h zv s σ0 H _ _ v u Q I rx ry ⟨_,_,rfl,rfl,h1,ub G q (.int _)⟩
 ·cases eg
noncomputable def fSub(i j:Int):Option Int:=ZZ (i-j)
noncomputable def fMul(i j:Int):Option Int:=if (-18446744073709551616<i/\i<18446744073709551616)∨(-18446744073709551616<j/\j<18446744073709551616) then ZZ (i*j) else ZY
def a3g{i j:Int}(h0:0<j)(h:j<1000000000000000000000000000000000000000000000000000000000000):rT i j=ZW:=by
 have e2:(2:Nat) ^ 200=1606938044258990275541962092341162602522202993782792835301376:=by decide +kernel
 have hl:j.natAbs.log2<200:=(Nat.log2_lt (by omega)).2 (by rw[e2];omega)
 have hd:¬(j.natAbs.log2 / 30+1 > 300):=by omega
 have hj:(j==0)=ZW:=by
  rw[beq_eq_false_iff_ne];omega
 unfold rT;simp only[hj,jJ,if_false,hd,decide_false,tW]
def av5:OpR X (fY .FloorDiv) (rI (λ_ j=>0<j/\j<1000000000000000000000000000000000000000000000000000000000000) λi j=>.int (i / j)):=opI λi j _ _ _ _ _ hc q=>by
 have h1:(0:Int)<j:=hc.1;exact floordiv_int (by omega) (by rw[tE i (by omega)];exact q) (.inl (a3g hc.1 hc.2))
noncomputable def fDiv(i j:Int):Option Int:=if 0<j/\j<1000000000000000000000000000000000000000000000000000000000000 then ZZ (i / j) else ZY
noncomputable def fMod(i j:Int):Option Int:=if 0<j then ZZ (i % j) else ZY
noncomputable def fPow(i j:Int):Option Int:=if 0<=j/\j<=1000000/\i.natAbs<18446744073709551616 then ZZ (i ^ j.toNat) else ZY
def yq:OpD K X (fY .Sub) (gInt fSub):=OpD.mk λhk=>by
 intro zv s σ0 H x y v u Q I rx ry z9;obtain⟨tg,F,ρ,σ,d1,d2,r,G,b1,b2,eg,q⟩:=z9;unfold gInt at eg;split at eg
 ·obtain rfl:=b1.int;obtain rfl:=b2.int;cases eg;exact a2w zv s σ0 H _ _ v u Q I rx ry ⟨_,_,rfl,rfl,ub G q (.int _)⟩
 ·cases eg
end
mutual
def toPy:D->PyData
 |.non=>.none
 |.bl b=>.bool b
 |.int i=>.int i
 |.str x=>.str x
 |.tup l=>.tuple (ac1 l)
 |.lst l=>.list (ac1 l)
 |.kst l=>.list (ac1 l)
 |.dct _=>.dict []
 |.exn _ _=>.dict []
def ac1:List D->List PyData
 | []=>[]
 |d::r=>toPy d::ac1 r
end
def okD:Nat->D->Bool
 |_,.non=>ZX
 |_,.bl _=>ZX
 |_,.int _=>ZX
 |_,.str x=>PyData.strOk x
 |n+1,.tup l=>l.all (okD n)
 |n+1,.lst l=>l.all (okD n)
 |n+1,.kst l=>l.all (okD n)
 |_,_=>ZW
theorem ajq{n:Nat}(ih:∀d,okD n d=ZX->(toPy d).canLay0=ZX/\(toPy d).depth<=n):∀l:List D,l.all (okD n)=ZX->wO (ac1 l)=ZX/\yG (ac1 l)<=n
 | [],_=>⟨rfl,dN _⟩
 |d::r,h=>by
  rw[jX,bB] at h;obtain⟨h1,h2⟩:=ih d h.1;obtain⟨h3,h4⟩:=ajq ih r h.2;refine⟨?_,?_⟩
  ·show(PyData.canLay0 (toPy d)&&wO (ac1 r))=ZX;rw[h1,h3];rfl
  ·show max (PyData.depth (toPy d)) (yG (ac1 r))<=n;omega
theorem abv:∀(n:Nat) (d:D),okD n d=ZX->(toPy d).canLay0=ZX/\(toPy d).depth<=n
 |n,.non,_=>⟨rfl,dN _⟩
 |n,.bl _,_=>⟨rfl,dN _⟩
 |n,.int _,_=>⟨rfl,dN _⟩
 |n,.str x,h=>by
  refine⟨?_,dN _⟩;cases n <;> exact h
 |n+1,.tup l,h=>by
  obtain⟨h1,h2⟩:=ajq (abv n) l h;exact⟨h1,oV h2⟩
 |n+1,.lst l,h=>by
  obtain⟨h1,h2⟩:=ajq (abv n) l h;exact⟨h1,oV h2⟩
 |n+1,.kst l,h=>by
  obtain⟨h1,h2⟩:=ajq (abv n) l h;exact⟨h1,oV h2⟩
 | 0,.tup l,h=>by cases h
 | 0,.lst l,h=>by cases h
 | 0,.kst l,h=>by cases h
 | 0,.dct l,h=>by cases h
 |n+1,.dct l,h=>by cases h
 | 0,.exn _ _,h=>by cases h
 |n+1,.exn _ _,h=>by cases h
def eqD(a b:D):Bool:=rB (toPy a) (toPy b)
def eqDs:List D->List D->Bool
 | [],[]=>ZX
 |a::r,b::t=>eqD a b&&eqDs r t
 |_,_=>ZW
theorem aj3:∀a b:List D,uF (ac1 a) (ac1 b)=eqDs a b
 | [],[]=>rfl
 |a::r,b::t=>by
  show(rB (toPy a) (toPy b)&&uF (ac1 r) (ac1 t))=_;rw[aj3 r t];rfl
 | [],_::_=>rfl
 |_::_,[]=>rfl
section
variable{K:Fg9}{X:Cx}
section
variable{zv:List (aQ×Obj)}{σ:L2.St}{F H:Hp}{s:aJ}
mutual
theorem zu(I:Inv X zv σ H s)(g:Same F H):∀{n:Nat} {d:D} {v:V} {u:aG},Is X.K F d v->okD n d=ZX->RelV v u->∃as,Reads s.heap u (toPy d) as
 |_,_,_,_,.non,_,r=>by cases r;exact⟨_,.none⟩
 |_,_,_,_,.bl b,_,r=>by cases r;exact⟨_,.bool b⟩
 |_,_,_,_,.int i,_,r=>by obtain⟨t,rfl⟩:=r;exact⟨_,.int i t⟩
 |_,_,_,_,.str i,_,r=>by obtain⟨t,rfl⟩:=r;exact⟨_,.str i t⟩
 | 0,_,_,_,.tup e h,k,r=>by cases k
 |n+1,_,_,_,.tup e h,k,r=>by
  cases r;obtain⟨its,rv,p1,_⟩:=I.tuple (SqT.of (g _ _ e));obtain⟨o,ho,hc,m,hd⟩:=p1;obtain⟨as,ra⟩:=abq I g h k rv;exact⟨_,.tuple ho hc hd (by simpa using ra)⟩
 | 0,_,_,_,.lst e h,k,r=>by cases k
 |n+1,_,_,_,.lst e h,k,r=>by
  cases r;obtain⟨its,rv,p1,_⟩:=I.list (SqL.of (g _ _ e));obtain⟨o,ho,hc,m,hd⟩:=p1.isList;obtain⟨as,ra⟩:=abq I g h k rv;exact⟨_,.list ho hc hd (by simpa using ra)⟩
 | 0,_,_,_,.kst e h,k,r=>by cases k
 |n+1,_,_,_,.kst e h,k,r=>by
  cases r;obtain⟨its,rv,p1,_⟩:=I.list (L2.Same.seq g e);obtain⟨o,ho,hc,m,hd⟩:=p1.isList;obtain⟨as,ra⟩:=abq I g h k rv;exact⟨_,.list ho hc hd (by simpa using ra)⟩
 | 0,_,_,_,.dct e h,k,r=>by cases k
 |n+1,_,_,_,.dct e h,k,r=>by cases k
 | 0,_,_,_,.exn ..,k,r=>by cases k
 |n+1,_,_,_,.exn ..,k,r=>by cases k
theorem abq(I:Inv X zv σ H s)(g:Same F H):∀{n:Nat} {ds:List D} {vs:List V} {us:List aG},IsL X.K F ds vs->ds.all (okD n)=ZX->Vals vs us->∃as,ReadsAll s.heap us (ac1 ds) as
 |_,_,_,_,.nil,_,r=>by cases r;exact⟨_,.nil⟩
 |n,_,_,_,.cons h t,k,r=>by
  rw[jX,bB] at k;cases r with
  |cons r1 r2=>
   obtain⟨as,ra⟩:=zu I g h k.1 r1;obtain⟨bs,rb⟩:=abq I g t k.2 r2;exact⟨_,.cons ra rb⟩
end
def aal(I:Inv X zv σ H s)(g:Same F H){n:Nat}{d:D}{v:V}{u:aG}(h:Bor X.K F H d v)(k:okD n d=ZX)(r:RelV v u):∃as,Reads s.heap u (toPy d) as:=by
 rcases h with h |⟨a,vs,l,rfl,rfl,e,h⟩
 ·exact zu I g h k r
 ·cases r;cases n with
  |zero=>cases k
  |succ n=>
   obtain⟨its,rv,p1,_⟩:=I.list (SqL.of e);obtain⟨o,ho,hc,m,hd⟩:=p1.isList;obtain⟨as,ra⟩:=abq I g h k rv;exact⟨_,.list ho hc hd (by simpa using ra)⟩
end
def gEq(neg:Bool)(a b:D):Option Rv:=if okD 30 a&&okD 30 b then ZZ (.v (.bl (if neg then !eqD a b else eqD a b))) else ZY
def wk(hu:X.A.units+64<cLine):OpD K X (fP .Eq) (gEq ZW):=OpD.mk λhk=>by
 intro zv s σ0 H x y v u Q I rx ry z9;obtain⟨tg,F,ρ,σ,d1,d2,r,G,b1,b2,eg,q⟩:=z9;subst hk;unfold gEq at eg;split at eg
 ·rename_i ho;rw[bB] at ho;cases eg;obtain⟨as,ra⟩:=aal I G.sub b1 ho.1 rx;obtain⟨bs,rb⟩:=aal I G.sub b2 ho.2 ry;obtain⟨c1,p1⟩:=abv _ _ ho.1;obtain⟨c2,p2⟩:=abv _ _ ho.2;exact PySem.SeqAt.compareEq_reads ra rb c1 c2 (by omega) ⟨.bl _,H,I,rfl,ub G q (.bl _)⟩
 ·cases eg
def ad8(hu:X.A.units+64<cLine):OpD K X (fP .NotEq) (gEq ZX):=OpD.mk λhk=>by
 intro zv s σ0 H x y v u Q I rx ry z9;obtain⟨tg,F,ρ,σ,d1,d2,r,G,b1,b2,eg,q⟩:=z9;subst hk;unfold gEq at eg;split at eg
 ·rename_i ho;rw[bB] at ho;cases eg;obtain⟨as,ra⟩:=aal I G.sub b1 ho.1 rx;obtain⟨bs,rb⟩:=aal I G.sub b2 ho.2 ry;obtain⟨c1,p1⟩:=abv _ _ ho.1;obtain⟨c2,p2⟩:=abv _ _ ho.2;exact PySem.SeqAt.compareNe_reads ra rb c1 c2 (by omega) ⟨.bl _,H,I,rfl,ub G q (.bl _)⟩
 ·cases eg
def itemsD:D->Option (List D)
 |.tup l=>ZZ l
 |.lst l=>ZZ l
 |.kst l=>ZZ l
 |_=>ZY
def gIn(neg:Bool)(a b:D):Option Rv:=match itemsD b with
 |some l=>if okD 30 a&&l.all (okD 30) then ZZ (.v (.bl (if neg then !l.any (λy=>eqD y a) else l.any (λy=>eqD y a)))) else ZY
 |none=>ZY
open Classical in
noncomputable def aag(h:eE)(dx:PyData)(u:aG):Bool:=decide (∃d as,Reads h u d as/\d.canLay0=ZX/\rB d dx=ZX)
open Classical in
theorem af7{h:eE}{dx d:PyData}{u:aG}{as:List aQ}(r:Reads h u d as)(c:d.canLay0=ZX):aag h dx u=rB d dx:=by
 unfold aag;cases e:rB d dx with
 |true=>exact decide_eq_true ⟨d,as,r,c,e⟩
 |false=>
  refine decide_eq_false ?_
  rintro⟨d',as',r',c',e'⟩
  rw[<-PySem.SeqAt.Reads.unique d d' u as as' c r r'] at e';rw[e] at e';cases e'
theorem w6{zv:List (aQ×Obj)}{σ:L2.St}{F H:Hp}{s:aJ}(I:Inv X zv σ H s)(g:Same F H){a:D}{n:Nat}:∀{ds:List D} {vs:List V} {us:List aG},IsL X.K F ds vs->ds.all (okD n)=ZX->Vals vs us ->
  us.any (aag s.heap (toPy a))=ds.any (λy=>eqD y a)/\∀u∈us,∃d as,Reads s.heap u d as/\d.canLay0=ZX/\d.depth<=n
 |_,_,_,.nil,_,r=>by cases r;exact⟨rfl,λu hu=>by cases hu⟩
 |_,_,_,.cons h t,k,r=>by
  rw[jX,bB] at k;cases r with
  |cons r1 r2=>
   obtain⟨as,ra⟩:=zu I g h k.1 r1;obtain⟨c,p⟩:=abv _ _ k.1;obtain⟨e,z⟩:=w6 I g (a:=a) t k.2 r2;refine⟨?_,λu hu=>?_⟩
   ·rw[qO,qO,e,af7 ra c];rfl
   ·rcases bA.mp hu with rfl |hu
    ·exact⟨_,as,ra,c,p⟩
    ·exact z u hu
def vp{s:aJ}{A:cQ}(hu:A.units+64<cLine){us:List aG}{a:D}{v:aG}{as:List aQ}(ra:Reads s.heap v (toPy a) as)(ka:okD 30 a=ZX)(z:∀u∈us,∃d as,Reads s.heap u d as/\d.canLay0=ZX/\d.depth<=30) :
  ∀u∈us,SeqAt.EqAt A.in1 s u v (aag s.heap (toPy a) u):=λu hm=>by
 obtain⟨d,bs,rb,c,p⟩:=z u hm;obtain⟨c2,p2⟩:=abv _ _ ka;rw[af7 rb c];refine PySem.SeqAt.eqAt_reads d (toPy a) A.in1 s u v bs as rb ra c c2 ?_;show A.units+1+_<_;omega
def alz{a b:D}{neg:Bool}{r:Rv}(h:gIn neg a b=ZZ r):∃l,itemsD b=ZZ l/\okD 30 a=ZX/\l.all (okD 30)=ZX/\r=.v (.bl (if neg then !l.any (λy=>eqD y a) else l.any (λy=>eqD y a))):=by
 unfold gIn at h;split at h
 ·rename_i l e;split at h
  ·rename_i ho;rw[bB] at ho;cases h;exact⟨l,e,ho.1,ho.2,rfl⟩
  ·cases h
 ·cases h
theorem agi{F H:Hp}{d:D}{l:List D}{x:V}(g:Same F H)(e:itemsD d=ZZ l)(h:Bor K F H d x):∃a vs,x=.ref a/\IsL K F l vs/\(SqL K H a vs∨SqT K H a vs):=by
 cases d with
 |tup k=>
  cases e;obtain⟨a,vs,rfl,e,h⟩:=h.tup;exact⟨a,vs,rfl,h,.inr (SqT.of (g _ _ e))⟩
 |lst k=>
  cases e;obtain⟨a,vs,rfl,e,h⟩:=h.lst g;exact⟨a,vs,rfl,h,.inl (SqL.of e)⟩
 |kst k=>
  cases e;obtain⟨a,vs,rfl,e,h⟩:=h.kst;exact⟨a,vs,rfl,h,.inl (L2.Same.seq g e)⟩
 |_=>cases e
def axl(hu:X.A.units+64<cLine):OpD K X (fP .In) (gIn ZW):=OpD.mk λhk=>by
 intro zv s σ0 H x y v u Q I rx ry z9;obtain⟨tg,F,ρ,σ,d1,d2,r,G,b1,b2,eg,q⟩:=z9;subst hk;obtain⟨l,e,k1,k2,rfl⟩:=alz eg;obtain⟨as,ra⟩:=aal I G.sub b1 k1 rx;obtain⟨p,vs,rfl,hl,hs⟩:=agi G.sub e b2;cases ry;rcases hs with hs |hs
 ·obtain⟨its,rv,pl,_⟩:=I.list hs;obtain⟨ea,z⟩:=w6 I G.sub (a:=d1) hl k2 rv;refine SeqAt.in_listAt (aag s.heap (toPy d1)) pl.isList (λw hw=>vp hu ra k1 z w (by simpa using hw)) ⟨.bl _,H,I,rfl,?_⟩
  rw[show its.toArray.any (aag s.heap (toPy d1))=its.any (aag s.heap (toPy d1)) by simp,ea]
  exact ub G q (.bl _)
 ·obtain⟨its,rv,pl,_⟩:=I.tuple hs;obtain⟨ea,z⟩:=w6 I G.sub (a:=d1) hl k2 rv;refine SeqAt.in_tupleAt (aag s.heap (toPy d1)) pl (λw hw=>vp hu ra k1 z w (by simpa using hw)) ⟨.bl _,H,I,rfl,?_⟩
  rw[show its.toArray.any (aag s.heap (toPy d1))=its.any (aag s.heap (toPy d1)) by simp,ea]
  exact ub G q (.bl _)
def asn(hu:X.A.units+64<cLine):OpD K X (fP .NotIn) (gIn ZX):=OpD.mk λhk=>by
 intro zv s σ0 H x y v u Q I rx ry z9;obtain⟨tg,F,ρ,σ,d1,d2,r,G,b1,b2,eg,q⟩:=z9;subst hk;obtain⟨l,e,k1,k2,rfl⟩:=alz eg;obtain⟨as,ra⟩:=aal I G.sub b1 k1 rx;obtain⟨p,vs,rfl,hl,hs⟩:=agi G.sub e b2;cases ry;rcases hs with hs |hs
 ·obtain⟨its,rv,pl,_⟩:=I.list hs;obtain⟨ea,z⟩:=w6 I G.sub (a:=d1) hl k2 rv;refine SeqAt.notIn_listAt (aag s.heap (toPy d1)) pl.isList (λw hw=>vp hu ra k1 z w (by simpa using hw)) ⟨.bl _,H,I,rfl,?_⟩
  rw[show its.toArray.any (aag s.heap (toPy d1))=its.any (aag s.heap (toPy d1)) by simp,ea]
  exact ub G q (.bl _)
 ·obtain⟨its,rv,pl,_⟩:=I.tuple hs;obtain⟨ea,z⟩:=w6 I G.sub (a:=d1) hl k2 rv;refine SeqAt.notIn_tupleAt (aag s.heap (toPy d1)) pl (λw hw=>vp hu ra k1 z w (by simpa using hw)) ⟨.bl _,H,I,rfl,?_⟩
  rw[show its.toArray.any (aag s.heap (toPy d1))=its.any (aag s.heap (toPy d1)) by simp,ea]
  exact ub G q (.bl _)
end
end Dn
namespace Dn
open L2 Mn
section
variable{K:Fg9}{X:Cx}{e a b c:dI}{es:List dI}{pos p:Pos}
def aso:OpD K X (fY .FloorDiv) (gInt fDiv):=am5 av5 λi j k h=>by
 unfold fDiv at h;split at h
 ·cases h;exact⟨by assumption,rfl⟩
 ·cases h
def abt:OpD K X (fY .Mod) (gInt fMod):=am5 a3a λi j k h=>by
 unfold fMod at h;split at h
 ·cases h;exact⟨by assumption,rfl⟩
 ·cases h
def asm:OpD K X (fY .Pow) (gInt fPow):=am5 a2y λi j k h=>by
 unfold fPow at h;split at h
 ·rename_i hc;cases h;exact⟨⟨hc.1,hc.2.1,hc.2.2⟩,rfl⟩
 ·cases h
def gMul:D->D->Option Rv
 |.int i,.int j=>(fMul i j).map λk=>.v (.int k)
 |.tup l,.int k=>if k=1 then ZZ (.v (.tup l)) else if l≠[]/\2<=k/\k<9223372036854775808/\l.length*k.toNat<=capS then ZZ (.v (.tup (aD k.toNat l).flatten)) else ZY
 |.lst l,.int k=>if k.natAbs<9223372036854775808/\l.length*k.toNat<=capS then ZZ (.fr (aD k.toNat l).flatten) else ZY
 |_,_=>ZY
def aez:OpD K X (fY .Mult) gMul:=OpD.mk λhk=>by
 intro zv s σ0 H x y v u Q I rx ry z9;obtain⟨tg,F,ρ,σ,d1,d2,r,G,b1,b2,eg,q⟩:=z9;subst hk;unfold gMul at eg;split at eg
 ·rename_i i j;obtain rfl:=b1.int;obtain rfl:=b2.int;unfold fMul at eg;split at eg
  ·rename_i hc;cases eg;exact a2z zv s σ0 H _ _ v u Q I rx ry ⟨_,_,rfl,rfl,hc,ub G q (.int _)⟩
  ·cases eg
 ·rename_i l k;split at eg
  ·rename_i hk1;subst hk1;cases eg;obtain⟨a1,vs1,rfl,s1,i1⟩:=b1.tup;obtain rfl:=b2.int;exact azq zv s σ0 H _ _ v u Q I rx ry ⟨a1,vs1,rfl,rfl,G.sub _ _ s1,ub G q (.tup s1 i1)⟩
  split at eg
  ·rename_i hc;obtain⟨h0,h2,h3,hz⟩:=hc;cases eg;obtain⟨a1,vs1,rfl,s1,i1⟩:=b1.tup;obtain rfl:=b2.int;have l1:=i1.length;refine av3 zv s σ0 H _ _ v u Q I rx ry ⟨a1,vs1,k,rfl,rfl,G.sub _ _ s1,?_,h2,h3,by rw[<-l1];exact ahp hz,λp hp=>Res.tup G q (i1.rep _) hp⟩
   intro z;subst z;cases i1;exact h0 rfl
  ·cases eg
 ·rename_i l k;split at eg
  ·rename_i hc;obtain⟨hab,hz⟩:=hc;have h0 : -9223372036854775808<=k:=by omega
   have h2:k<9223372036854775808:=by omega
   cases eg;obtain⟨a1,vs1,rfl,s1,i1⟩:=b1.lst G.sub;obtain rfl:=b2.int;have l1:=i1.length;exact a2x zv s σ0 H _ _ v u Q I rx ry ⟨a1,k,vs1,rfl,rfl,s1,h0,h2,by rw[<-l1];exact ahp hz,λp hp=>Res.lst G q (i1.rep _) hp⟩
  ·cases eg
 ·cases eg
def gCmp(f:Int->Int->Bool):D->D->Option Rv
 |.int i,.int j=>ZZ (.v (.bl (f i j)))
 |_,_=>ZY
def am6{op:xO}{f:Int->Int->Bool}(h:OpR X (fP op) (rI0 λi j=>.bl (f i j))):OpD K X (fP op) (gCmp f):=OpD.mk λhk=>by
 intro zv s σ0 H x y v u Q I rx ry z9;obtain⟨tg,F,ρ,σ,d1,d2,r,G,b1,b2,eg,q⟩:=z9;unfold gCmp at eg;split at eg
 ·cases eg;obtain rfl:=b1.int;obtain rfl:=b2.int;exact h zv s σ0 H _ _ v u Q I rx ry ⟨_,_,rfl,rfl,ub G q (.bl _)⟩
 ·cases eg
def aij:OpD K X (fP .Lt) (gCmp λi j=>decide (i<j)):=am6 a7m
def axm:OpD K X (fP .Gt) (gCmp λi j=>decide (j<i)):=am6 a7n
def agq:OpD K X (fP .GtE) (gCmp λi j=>decide (j<=i)):=am6 a7o
def gNeg:D->Option D
 |.int i=>ZZ (.int (-i))
 |_=>ZY
def mUn(g:D->Option D)(m:M D):M D:=m.bind λd=>lift (g d)
theorem al2{m:M D}(h:EV K X a m):EV K X (.UnaryOp .USub a pos) (mUn gNeg m):=EV.mk λhk=>PE.imp (a7i a1g (h hk)) λσ H Q z9=>by
 obtain⟨tg,F,ρ,d,ρ',G,em,q⟩:=z9;obtain⟨d1,ρ1,e1,em⟩:=bf em;obtain⟨e2,rfl⟩:=ik em;refine⟨tg,F,ρ,d1,_,G,e1,λv H' F' G' x r=>?_⟩
 cases d1 with
 |int i=>
  cases e2;cases r;exact⟨i,rfl,q _ H' F' G' x (.int _)⟩
 |_=>cases e2
def asB:D->Option Bool
 |.bl b=>ZZ b
 |_=>ZY
def gNot(d:D):Option D:=(asB d).map λk=>.bl (!k)
theorem auz{d:D}{k:Bool}(h:asB d=ZZ k):d=.bl k:=by
 cases d with
 |bl b=>cases h;rfl
 |_=>cases h
theorem atz{m:M D}(h:EV K X a m):EV K X (.UnaryOp .Not a pos) (mUn gNot m):=EV.mk λhk=>PE.imp (a2o (h hk)) λσ H Q z9=>by
 obtain⟨tg,F,ρ,d,ρ',G,em,q⟩:=z9;obtain⟨d1,ρ1,e1,em⟩:=bf em;obtain⟨e2,rfl⟩:=ik em;refine⟨tg,F,ρ,d1,_,G,e1,λv H' F' G' x r=>?_⟩
 cases d1 with
 |bl i=>
  cases e2;cases r;exact⟨i,rfl,q _ H' F' G' x (.bl _)⟩
 |_=>cases e2
def mAnd(m1 m2:M D):M D:=m1.bind λd=>(lift (asB d)).bind λk=>if k=ZX then m2 else ret (.bl ZW)
def aiu{op}{m:M D}(h:EV K X a m):EV K X (.BoolOp op [a] pos) m:=EV.mk λhk=>a2n (h hk)
theorem aiv{m1 m2:M D}{rest:List dI}(h1:EV K X a m1)(h2:EV K X (.BoolOp .And (b::rest) pos) m2):EV K X (.BoolOp .And (a::b::rest) pos) (mAnd m1 m2):=EV.mk λhk=>PE.imp (a2v (h1 hk) (h2 hk)) λσ H Q z9=>by
 obtain⟨tg,F,ρ,d,ρ',G,em,q⟩:=z9;obtain⟨d1,ρ1,e1,em⟩:=bf em;obtain⟨k,ρ2,e2,em⟩:=bf em;obtain⟨e3,rfl⟩:=ik e2;obtain rfl:=auz e3;refine⟨tg,F,ρ,_,_,G,e1,λv H' F' G' x r=>?_⟩
 cases r;refine⟨k,rfl,?_⟩;cases k with
 |true=>exact iteT ⟨tg,F',_,d,ρ',G',em,λv2 H2 F2 G2 x2 r2=>q v2 H2 F2 G2 (x.trans x2) r2⟩
 |false=>
  obtain⟨rfl,rfl⟩:=j6 (show ret (D.bl ZW) _=_ from em)
  exact iteF (q _ H' F' G' x (.bl _))
def TB(K:Fg9)(m:M Bool):TT:=λσ H Q=>∃tg F ρ k ρ',Good K tg F H ρ σ/\m ρ=ZZ (.ok k,ρ')/\∀H' F',Good K tg F' H' ρ' σ->Ext (Own ρ σ) (Own ρ' σ) F H F' H'->Q k H'
structure ET (K:Fg9) (X:Cx) (e:dI) (m:M Bool):Prop where
 go:X.K=K->PT X e (TB K m)
instance {K:Fg9} {X:Cx} {e:dI} {m:M Bool}:CoeFun (ET K X e m) λ_=>X.K=K->PT X e (TB K m):=⟨ET.go⟩
structure EW (K:Fg9) (X:Cx) (e:dI) (m:M Bool):Prop where
 go:X.K=K->PW X e (TB K m)
instance {K:Fg9} {X:Cx} {e:dI} {m:M Bool}:CoeFun (EW K X e m) λ_=>X.K=K->PW X e (TB K m):=⟨EW.go⟩
def PT.imp{t t':TT}(h:PT X e t)(w:∀σ H Q,t' σ H Q->t σ H Q):PT X e t':=λzv s σ H Q I q=>h zv s σ H Q I (w σ H Q q)
def PW.imp{t t':TT}(h:PW X e t)(w:∀σ H Q,t' σ H Q->t σ H Q):PW X e t':=λwh zv s σ H Q I q=>h wh zv s σ H Q I (w σ H Q q)
def EW.pt{m:M Bool}(h:EW K X e m):ET K X e m:=ET.mk λhk=>(h hk).pt
def aad(m:M D):M Bool:=m.bind λd=>lift (asB d)
def avi{m:M D}(σ:L2.St)(H:Hp)(Q:Bool->Hp->Prop)(t:TB K (aad m) σ H Q):tB (T K (relD K) m) σ H Q:=by
 obtain⟨tg,F,ρ,k,ρ',G,em,q⟩:=t;obtain⟨d1,ρ1,e1,em⟩:=bf em;obtain⟨e3,rfl⟩:=ik em;obtain rfl:=auz e3;refine⟨tg,F,ρ,_,_,G,e1,λv H' F' G' x r=>?_⟩
 cases r;exact⟨k,rfl,q H' F' G' x⟩
def mq{m:M D}(h:EV K X e m)(he:∀whole,isTrue e X.env whole=(do let v <-whole;standAt e.pos;jZ [v] (truthy v)):=by intro _;rfl):ET K X e (aad m):=ET.mk λhk=>PT.imp (a2d (h hk) he) avi
def jr(g:D->D->Option Rv)(m:M (D×D)):M Bool:=aad (mOp g m).d
theorem jn{op:xO}{g:D->D->Option Rv}{m:M (D×D)}(ho:OpD K X (fP op) g)(h:E2 K X a b m)(hm:behindInMarks op b=ZW):ET K X (.Compare a [op] [b] pos) (jr g m):=ET.mk λhk=>by
 obtain⟨ta,tb,ha,hb,h⟩:=h hk;refine PT.imp (ay3 (ho hk) ha hb hm) λσ H Q t=>?_
 obtain⟨tg,F,ρ,k,ρ',G,em,q⟩:=t;obtain⟨d1,ρ1,e1,em⟩:=bf em;obtain⟨e3,rfl⟩:=ik em;obtain rfl:=auz e3;obtain⟨r,ρ2,e1,em⟩:=bf e1;obtain⟨er,rfl⟩:=j6 em;refine aom h σ H _ ⟨tg,F,ρ,r,_,G,e1,λv H' F' G' x w=>?_⟩
 cases r with
 |v d=>
  have er:d=.bl k:=er;subst er;have w:Is K F' (.bl k) v:=w;cases w;exact⟨k,rfl,q H' F' G' x⟩
 |fr l=>cases er
 |tf d l=>cases er
def adf(m:M Bool):M Bool:=m.bind λk=>ret (!k)
def qi{m:M Bool}(h:ET K X a m):ET K X (.UnaryOp .Not a pos) (adf m):=ET.mk λhk=>PT.imp (a2e (h hk)) λσ H Q z9=>by
 obtain⟨tg,F,ρ,k,ρ',G,em,q⟩:=z9;obtain⟨d1,ρ1,e1,em⟩:=bf em;obtain⟨rfl,rfl⟩:=j6 em;exact⟨tg,F,ρ,d1,_,G,e1,λH' F' G' x=>q H' F' G' x⟩
def az9(m1 m2:M Bool):M Bool:=m1.bind λk=>if k=ZX then m2 else ret ZW
def mOrB(m1 m2:M Bool):M Bool:=m1.bind λk=>if k=ZX then ret ZX else m2
def a0q{m:M Bool}(h:ET K X a m):EW K X (.BoolOp .And [a] pos) m:=EW.mk λhk=>ay1 (h hk)
def acx{m:M Bool}(h:ET K X a m):EW K X (.BoolOp .Or [a] pos) m:=EW.mk λhk=>a1w (h hk)
theorem a4p{m1 m2:M Bool}{rest:List dI}(h1:ET K X a m1)(h2:EW K X (.BoolOp .And (b::rest) pos) m2):EW K X (.BoolOp .And (a::b::rest) pos) (az9 m1 m2):=EW.mk λhk=>PW.imp (a1x (h1 hk) (h2 hk)) λσ H Q z9=>by
 obtain⟨tg,F,ρ,d,ρ',G,em,q⟩:=z9;obtain⟨k,ρ1,e1,em⟩:=bf em;refine⟨tg,F,ρ,k,_,G,e1,λH' F' G' x=>?_⟩
 cases k with
 |true=>exact iteT ⟨tg,F',_,d,ρ',G',em,λH2 F2 G2 x2=>q H2 F2 G2 (x.trans x2)⟩
 |false=>
  obtain⟨rfl,rfl⟩:=j6 (show ret ZW _=_ from em)
  exact iteF (q H' F' G' x)
theorem ah5{m1 m2:M Bool}{rest:List dI}(h1:ET K X a m1)(h2:EW K X (.BoolOp .Or (b::rest) pos) m2):EW K X (.BoolOp .Or (a::b::rest) pos) (mOrB m1 m2):=EW.mk λhk=>PW.imp (a7e (h1 hk) (h2 hk)) λσ H Q z9=>by
 obtain⟨tg,F,ρ,d,ρ',G,em,q⟩:=z9;obtain⟨k,ρ1,e1,em⟩:=bf em;refine⟨tg,F,ρ,k,_,G,e1,λH' F' G' x=>?_⟩
 cases k with
 |false=>exact iteF ⟨tg,F',_,d,ρ',G',em,λH2 F2 G2 x2=>q H2 F2 G2 (x.trans x2)⟩
 |true=>
  obtain⟨rfl,rfl⟩:=j6 (show ret ZX _=_ from em)
  exact iteT (q H' F' G' x)
def alm(f g:Int->Int->Bool)(m1 m2 m3:M D):M D:=m1.bind λx=>m2.bind λy=>match x,y with
 |.int i,.int j=>if f i j=ZX then m3.bind λz=>match z with
  |.int k=>ret (.bl (g j k))
  |_=>lift ZY
  else ret (.bl ZW)
 |_,_=>lift ZY
theorem aui{f g:Int->Int->Bool}{m1 m2 m3:M D}(σ:L2.St)(H:Hp)(Q:VK)(t:T K (relD K) (alm f g m1 m2 m3) σ H Q) :
  aw9 (rI0 λi j=>.bl (f i j)) (rI0 λi j=>.bl (g i j)) (T K (relD K) m1) (T K (relD K) m2) (T K (relD K) m3) σ H Q:=by
 obtain⟨tg,F,ρ,d,ρ',G,em,q⟩:=t;obtain⟨d1,ρ1,e1,em⟩:=bf em;obtain⟨d2,ρ2,e2,em⟩:=bf em;have bad:∀{ρ:Ro},(lift (ZY:Option D)) ρ=ZZ (.ok d,ρ')->False:=λz=>by
  obtain⟨z,_⟩:=ik z;cases z
 cases d1 with
 |int i=>
  cases d2 with
  |int j=>
   refine⟨tg,F,ρ,_,ρ1,G,e1,λv H1 F1 G1 x1 r1=>⟨tg,F1,ρ1,_,ρ2,G1,e2,λv2 H2 F2 G2 x2 r2=>?_⟩⟩
   cases r1;cases r2;refine⟨i,j,rfl,rfl,f i j,rfl,?_⟩;have em:(if f i j=ZX then m3.bind λz=>match z with
    |.int k=>ret (.bl (g j k))
    |_=>lift ZY
    else ret (.bl ZW)) ρ2=ZZ (.ok d,ρ'):=em
   by_cases hf:f i j=ZX
   ·rw[if_pos hf] at em ⊢
    obtain⟨d3,ρ3,e3,em⟩:=bf em;refine⟨tg,F2,ρ2,d3,ρ3,G2,e3,λv3 H3 F3 G3 x3 r3=>?_⟩
    cases d3 with
    |int k=>
     obtain⟨rfl,rfl⟩:=j6 (show ret (D.bl (g j k)) _=_ from em)
     cases r3;exact⟨j,k,rfl,rfl,q _ H3 F3 G3 ((x1.trans x2).trans x3) (.bl _)⟩
    |_=>exact(bad em).elim
   ·rw[if_neg hf] at em ⊢
    obtain⟨rfl,rfl⟩:=j6 em;exact q _ H2 F2 G2 (x1.trans x2) (.bl _)
  |_=>exact(bad em).elim
 |_=>cases d2 <;> exact(bad em).elim
def ao9{op op':xO}{f g:Int->Int->Bool}{m1 m2 m3:M D}(ho:OpR X (fP op) (rI0 λi j=>.bl (f i j)))(ho':OpR X (fP op') (rI0 λi j=>.bl (g i j)))(h1:EV K X a m1)(h2:EV K X b m2)(h3:EV K X c m3)
  (hm:lastMarks [op,op'] [b,c]=ZW:=by with_unfolding_all rfl):EV K X (.Compare a [op,op'] [b,c] pos) (alm f g m1 m2 m3):=EV.mk λhk=>PE.imp (avz ho ho' (h1 hk) (h2 hk) (h3 hk) hm) aui
def mIf{α:Type}(m:M Bool)(m1 m2:M α):M α:=m.bind λk=>if k=ZX then m1 else m2
theorem a0s{m:M Bool}{m1 m2:M Rv}(h:ET K X c m)(h1:ER K X a m1)(h2:ER K X b m2):ER K X (.IfExp c a b pos) (mIf m m1 m2):=ER.mk λhk=>PE.imp (avx (h hk) (h1 hk) (h2 hk)) λσ H Q z9=>by
 obtain⟨tg,F,ρ,d,ρ',G,em,q⟩:=z9;obtain⟨k,ρ1,e1,em⟩:=bf em;refine⟨tg,F,ρ,k,_,G,e1,λH' F' G' x=>?_⟩
 have fin:∀{m':M Rv},m' ρ1=ZZ (.ok d,ρ')->T K (relR K) m' σ H' Q:=λ{m'} e'=>⟨tg,F',ρ1,d,ρ',G',e',λv H2 F2 G2 x2 r2=>q v H2 F2 G2 (x.trans x2) (by
  cases d with
  |v d=>exact r2
  |fr l=>
   obtain⟨a,vs,ev,ha,w⟩:=r2;refine⟨a,vs,ev,?_,w⟩;rcases ha with ha |ha
   ·exact .inl (x.there a ha)
   ·exact(x.own a ha).symm
  |tf d l=>
   obtain⟨t,u,a,vs,ev,ht,hd,ha,w⟩:=r2;refine⟨t,u,a,vs,ev,ht,hd,?_,w⟩;rcases ha with ha |ha
   ·exact .inl (x.there a ha)
   ·exact(x.own a ha).symm)⟩
 cases k with
 |true=>exact iteT (fin em)
 |false=>exact iteF (fin em)
end
section
variable{K:Fg9}{X:Cx}{e a b c:dI}{es:List dI}{pos p p2:Pos}
def TL(K:Fg9)(m:M (List D)):TA:=λσ H Q=>∃tg F ρ ds ρ',Good K tg F H ρ σ/\m ρ=ZZ (.ok ds,ρ')/\∀vs H' F',Good K tg F' H' ρ' σ->Ext (Own ρ σ) (Own ρ' σ) F H F' H'->IsL K F' ds vs->Q vs H'
structure ED (K:Fg9) (X:Cx) (es:List dI) (m:M (List D)):Prop where
 go:X.K=K->PA X es (TL K m)
instance {K:Fg9} {X:Cx} {es:List dI} {m:M (List D)}:CoeFun (ED K X es m) λ_=>X.K=K->PA X es (TL K m):=⟨ED.go⟩
def PA.imp{t t':TA}(h:PA X es t)(w:∀σ H Q,t' σ H Q->t σ H Q):PA X es t':=λps zv s σ H Q I q=>h ps zv s σ H Q I (w σ H Q q)
def mNil:M (List D):=ret []
def bc(m:M D)(ms:M (List D)):M (List D):=m.bind λd=>ms.bind λds=>ret (d::ds)
def bz:ED K X [] mNil:=ED.mk λ_=>PA.imp ad6 λσ H Q z9=>by
 obtain⟨tg,F,ρ,ds,ρ',G,em,q⟩:=z9;obtain⟨rfl,rfl⟩:=j6 em;exact q [] H F G (Ext.refl _ _ _) .nil
def aj{m:M D}{ms:M (List D)}(h:EV K X e m)(t:ED K X es ms)(hs:Zc X e es:=by rfl):ED K X (e::es) (bc m ms):=ED.mk λhk=>PA.imp (sy (h hk) (t hk) hs) λσ H Q z9=>by
 obtain⟨tg,F,ρ,ds,ρ',G,em,q⟩:=z9;obtain⟨d,ρ1,e1,em⟩:=bf em;obtain⟨r,ρ2,e2,em⟩:=bf em;obtain⟨rfl,rfl⟩:=j6 em;exact⟨tg,F,ρ,d,ρ1,G,e1,λv H1 F1 G1 x1 r1=>⟨tg,F1,ρ1,r,_,G1,e2,λvs H2 F2 G2 x2 r2=>q _ H2 F2 G2 (x1.trans x2) (.cons (r1.mono x2.sub) r2)⟩⟩
def gTup(ds:List D):Option D:=if ds.length<=capS then ZZ (.tup ds) else ZY
def gLst(ds:List D):Option Rv:=if ds.length<=capS then ZZ (.fr ds) else ZY
def mTup(m:M (List D)):M D:=m.bind λds=>lift (gTup ds)
def mLst(m:M (List D)):M Rv:=m.bind λds=>lift (gLst ds)
def qg{k}{m:M (List D)}(h:ED K X es m):EV K X (.Tuple es k pos) (mTup m):=EV.mk λhk=>PE.imp (a2l (h hk)) λσ H Q z9=>by
 obtain⟨tg,F,ρ,d,ρ',G,em,q⟩:=z9;obtain⟨ds,ρ1,e1,em⟩:=bf em;obtain⟨e2,rfl⟩:=ik em;unfold gTup at e2;split at e2
 ·rename_i hz;cases e2;refine⟨tg,F,ρ,ds,_,G,e1,λvs H1 F1 G1 x1 r1=>⟨by rw[<-r1.length];exact ahp hz,λp hp=>q _ _ _ (G1.new hp _) (x1.trans (G1.newX hp _)) (.tup gk (r1.mono (Same.new (G1.freeF hp) _)))⟩⟩
 ·cases e2
def km{m:M (List D)}(h:ED K X es m):ER K X (.List es pos) (mLst m):=ER.mk λhk=>PE.imp (a2q (h hk)) λσ H Q z9=>by
 obtain⟨tg,F,ρ,d,ρ',G,em,q⟩:=z9;obtain⟨ds,ρ1,e1,em⟩:=bf em;obtain⟨e2,rfl⟩:=ik em;unfold gLst at e2;split at e2
 ·rename_i hz;cases e2;refine⟨tg,F,ρ,ds,_,G,e1,λvs H1 F1 G1 x1 r1=>⟨by rw[<-r1.length];exact ahp hz,λp hp=>q _ _ _ (G1.fresh hp _) (x1.trans (G1.freshX hp _)) ⟨p,vs,rfl,.inl (x1.there p hp),G1.freeF hp,gk,r1,λz=>G1.own_ne hp z rfl⟩⟩⟩
 ·cases e2
inductive BorL (K:Fg9) (F H:Hp):List D->List V->Prop
 |nil:BorL K F H [] []
 |cons {d:D} {v:V} {ds:List D} {vs:List V} (h:Bor K F H d v) (t:BorL K F H ds vs):BorL K F H (d::ds) (v::vs)
def TA'(K:Fg9)(m:M (List D)):TA:=λσ H Q=>∃tg F ρ ds ρ',Good K tg F H ρ σ/\m ρ=ZZ (.ok ds,ρ')/\∀vs H' F',Good K tg F' H' ρ' σ->Ext (Own ρ σ) (Own ρ' σ) F H F' H'->BorL K F' H' ds vs->Q vs H'
structure EA (K:Fg9) (X:Cx) (es:List dI) (m:M (List D)):Prop where
 go:X.K=K->PA X es (TA' K m)
instance {K:Fg9} {X:Cx} {es:List dI} {m:M (List D)}:CoeFun (EA K X es m) λ_=>X.K=K->PA X es (TA' K m):=⟨EA.go⟩
def f9(i:Nat)(ms:M (List D)):M (List D):=(gr i).bind λ_=>ms.bind λds=>(gr i).bind λd=>ret (d::ds)
def cu:EA K X [] mNil:=EA.mk λ_=>PA.imp ad6 λσ H Q z9=>by
 obtain⟨tg,F,ρ,ds,ρ',G,em,q⟩:=z9;obtain⟨rfl,rfl⟩:=j6 em;exact q [] H F G (Ext.refl _ _ _) .nil
def ea_v{m:M D}{ms:M (List D)}(h:EV K X e m)(t:EA K X es ms)(hs:Zc X e es:=by rfl):EA K X (e::es) (bc m ms):=EA.mk λhk=>PA.imp (sy (h hk) (t hk) hs) λσ H Q z9=>by
 obtain⟨tg,F,ρ,ds,ρ',G,em,q⟩:=z9;obtain⟨d,ρ1,e1,em⟩:=bf em;obtain⟨r,ρ2,e2,em⟩:=bf em;obtain⟨rfl,rfl⟩:=j6 em;exact⟨tg,F,ρ,d,ρ1,G,e1,λv H1 F1 G1 x1 r1=>⟨tg,F1,ρ1,r,_,G1,e2,λvs H2 F2 G2 x2 r2=>q _ H2 F2 G2 (x1.trans x2) (.cons (.inl (r1.mono x2.sub)) r2)⟩⟩
def ea_n{i:Nat}{ms:M (List D)}(h:PE X e (tVar i))(t:EA K X es ms)(hs:Zc X e es:=by rfl):EA K X (e::es) (f9 i ms):=EA.mk λhk=>PA.imp (sy h (t hk) hs) λσ H Q z9=>by
 obtain⟨tg,F,ρ,ds,ρ',G,em,q⟩:=z9;obtain⟨d0,ρ0,e0,em⟩:=bf em;obtain⟨r,ρ2,e2,em⟩:=bf em;obtain⟨d,ρ1,e1,em⟩:=bf em;obtain⟨rfl,rfl⟩:=j6 em;obtain⟨rfl,v,hv,_⟩:=ph G e0;exact⟨v,hv,tg,F,ρ0,r,_,G,e2,λvs H2 F2 G2 x2 r2=>by
  obtain⟨rfl,v',hv',b'⟩:=ph G2 e1;rw[hv] at hv';cases hv';exact q _ H2 F2 G2 x2 (.cons b' r2)⟩
def rcOf(K:Fg9)(g:List D->Option Rv):List V->Hp->VK->Prop:=λvs H Q=>∃tg F ρ σ ds r,Good K tg F H ρ σ/\BorL K F H ds vs/\g ds=ZZ r/\Res K tg F H ρ σ r Q
structure CallD (K:Fg9) (X:Cx) (f:aG) (g:List D->Option Rv):Prop where
 go:X.K=K->abi X f (rcOf K g)
instance {K:Fg9} {X:Cx} {f:aG} {g:List D->Option Rv}:CoeFun (CallD K X f g) λ_=>X.K=K->abi X f (rcOf K g):=⟨CallD.go⟩
def gw(g:List D->Option Rv)(m:M (List D)):M Rv:=m.bind λds=>lift (g ds)
theorem lr{O O1 O2:aQ->Prop}{F H F1 H1 F2 H2:Hp}{r:Rv}{v:V}(x:Ext O O1 F H F1 H1)(h:relR K r v H1 O1 F2 H2 O2):relR K r v H O F2 H2 O2:=by
 cases r with
 |v d=>exact h
 |fr l=>
  obtain⟨a,vs,ev,ha,w⟩:=h;refine⟨a,vs,ev,?_,w⟩;rcases ha with ha |ha
  ·exact .inl (x.there a ha)
  ·exact(x.own a ha).symm
 |tf d l=>
  obtain⟨t,u,a,vs,ev,ht,hd,ha,w⟩:=h;refine⟨t,u,a,vs,ev,ht,hd,?_,w⟩;rcases ha with ha |ha
  ·exact .inl (x.there a ha)
  ·exact(x.own a ha).symm
def ape{g:List D->Option Rv}{m:M (List D)}(σ:L2.St)(H:Hp)(Q:VK)(t:T K (relR K) (gw g m) σ H Q):tCB (rcOf K g) (TA' K m) σ H Q:=by
 obtain⟨tg,F,ρ,r,ρ',G,em,q⟩:=t;obtain⟨ds,ρ1,e1,em⟩:=bf em;obtain⟨e2,rfl⟩:=ik em;exact⟨tg,F,ρ,ds,_,G,e1,λvs H' F' G' x' bl=>⟨tg,F',_,σ,ds,r,G',bl,e2,λv H2 F2 G2 x2 rr=>q v H2 F2 G2 (x'.trans x2) (lr x' rr)⟩⟩
section
variable{x:Str}{id Ty:String}{g:List D->Option Rv}{m:M (List D)}
def b8(hc:CallD K X (.builtin id) g)(hg:Gl X x)(hm:X.mg x=ZY)(hv:bR x=ZZ (.builtin id))(ha:EA K X (e::es) m)(hn:x ≠ "__name__" := by decide)(hdb:Zb x:=by decide)
  (he:Zc X e es:=by rfl) (hpl:(gC pos (aO es X.env)).any (·.1)=ZW:=by rfl):ER K X (.Call (.Name x p) (e::es) [] pos) (gw g m):=ER.mk λhk=>PE.imp (ad5 (hc hk) hg hm hv (ha hk) hn hdb he hpl) ape
def ie(hc:CallD K X (.type Ty) g)(hg:Gl X x)(hm:X.mg x=ZY)(hv:bR x=ZZ (.type Ty))(ha:EA K X (e::es) m)(hn:x ≠ "__name__" := by decide)(hdb:Zb x:=by decide)
  (he:Zc X e es:=by rfl) (hpl:(gC pos (aO es X.env)).any (·.1)=ZW:=by rfl):ER K X (.Call (.Name x p) (e::es) [] pos) (gw g m):=ER.mk λhk=>PE.imp (ad4 (hc hk) hg hm hv (ha hk) hn hdb he hpl) ape
end
theorem BorL.one{F H:Hp}{d:D}{vs:List V}(h:BorL K F H [d] vs):∃v,vs=[v]/\Bor K F H d v:=by
 cases h with
 |cons h t=>cases t;exact⟨_,rfl,h⟩
theorem BorL.two{F H:Hp}{d d':D}{vs:List V}(h:BorL K F H [d,d'] vs):∃v v',vs=[v,v']/\Bor K F H d v/\Bor K F H d' v':=by
 cases h with
 |cons h t=>
  obtain⟨v',rfl,h'⟩:=t.one;exact⟨_,_,rfl,h,h'⟩
def g1(f:D->Option Rv):List D->Option Rv
 | [d]=>f d
 |_=>ZY
def g2(f:D->D->Option Rv):List D->Option Rv
 | [d,d']=>f d d'
 |_=>ZY
theorem ahn{f:D->Option Rv}{w:aG} (h:X.K=K->∀(zv:List (aQ×Obj)) (s:aJ) (σ0:L2.St) (H:Hp) (x:V) (u:aG) (Q:VK) (tg:Nat->aQ) (F:Hp) (ρ:Ro) (σ:L2.St) (d:D) (r:Rv),Inv X zv σ0 H s->RelV x u->Good K tg F H ρ σ->Bor K F H d x->f d=ZZ r->Res K tg F H ρ σ r Q ->
  bG (bL X.prog X.w) X.A (call w [u]) (EP X zv σ0 Q) X.xe s):CallD K X w (g1 f):=CallD.mk λhk=>by
 intro zv s σ0 H xs us Q I r z9;obtain⟨tg,F,ρ,σ,ds,rv,G,bl,eg,q⟩:=z9
 match ds,eg with
 | [d],eg=>
  obtain⟨v,rfl,bv⟩:=bl.one;obtain⟨u,rfl,ru⟩:=vals1 r;exact h hk zv s σ0 H v u Q tg F ρ σ d rv I ru G bv eg q
theorem jz:CallD K X (.builtin "len") (g1 λd=>(itemsD d).map λl=>.v (.int l.length)):=ahn λhk zv s σ0 H x u Q tg F ρ σ d r I ru G bd eg q=>by
 subst hk;cases e:itemsD d with
 |none=>rw[e] at eg;cases eg
 |some l=>
  rw[e] at eg;cases eg;obtain⟨a,vs,rfl,hl,hs⟩:=agi G.sub e bd;have q':=ub G q (.int _);rw[hl.length] at q';exact amb zv s σ0 H [.ref a] [u] Q I (.cons ru .nil) ⟨a,vs,rfl,hs,q'⟩
def aau:List D->Option (List Bool)
 | []=>ZZ []
 |.bl b::r=>(aau r).map (b :: ·)
 |_::_=>ZY
theorem amg:∀{l:List D} {bs:List Bool},aau l=ZZ bs->l=bs.map D.bl
 | [],_,h=>by cases h;rfl
 |.bl b::r,bs,h=>by
  have h':(aau r).map (b :: ·)=ZZ bs:=h;cases e:aau r with
  |none=>rw[e] at h';cases h'
  |some t=>
   rw[e] at h';cases h';rw[amg e];rfl
 |.non::_,_,h=>by cases h
 |.int _::_,_,h=>by cases h
 |.str _::_,_,h=>by cases h
 |.tup _::_,_,h=>by cases h
 |.lst _::_,_,h=>by cases h
 |.kst _::_,_,h=>by cases h
 |.dct _::_,_,h=>by cases h
@[simp] theorem afb(bs:List Bool):aau (bs.map D.bl)=ZZ bs:=by
 induction bs with
 |nil=>rfl
 |cons b r ih=>show(aau (r.map D.bl)).map (b :: ·)=_;rw[ih];rfl
def gAll:D->Option Rv
 |.lst l=>(aau l).map λbs=>.v (.bl (bs.all id))
 |_=>ZY
theorem aho(hc:X.calm=ZX):CallD K X (.builtin "all") (g1 gAll):=ahn λhk zv s σ0 H x u Q tg F ρ σ d r I ru G bd eg q=>by
 subst hk;cases d with
 |lst l=>
  have eg:(aau l).map (λbs=>Rv.v (.bl (bs.all id)))=ZZ r:=eg
  cases e:aau l with
  |none=>rw[e] at eg;cases eg
  |some bs=>
   rw[e] at eg;cases eg;obtain⟨a,vs,rfl,ea,hl⟩:=bd.lst G.sub;rw[amg e] at hl;rw[hl.bl_inv] at ea;exact aw4 hc zv s σ0 H [.ref a] [u] Q I (.cons ru .nil) ⟨a,bs,rfl,SqL.of ea,ub G q (.bl _)⟩
 |_=>cases eg
def awr:D->Option Rv
 |.int i=>ZZ (.v (.int i))
 |.bl k=>ZZ (.v (.int (if k then 1 else 0)))
 |_=>ZY
theorem a4x:CallD K X (.type "int") (g1 awr):=ahn λhk zv s σ0 H x u Q tg F ρ σ d r I ru G bd eg q=>by
 cases d with
 |int i=>
  cases eg;obtain rfl:=bd.int;exact amd zv s σ0 H [_] [u] Q I (.cons ru .nil) (.inl ⟨i,rfl,ub G q (.int _)⟩)
 |bl k=>
  cases eg;obtain rfl:=bd.bl;exact amd zv s σ0 H [_] [u] Q I (.cons ru .nil) (.inr ⟨k,rfl,ub G q (.int _)⟩)
 |_=>cases eg
theorem jx:CallD K X (.type "tuple") (g1 λd=>(itemsD d).map λl=>.v (.tup l)):=ahn λhk zv s σ0 H x u Q tg F ρ σ d r I ru G bd eg q=>by
 subst hk;cases d with
 |tup l=>
  cases eg;obtain⟨a,vs,rfl,ea,hl⟩:=bd.tup;exact aa8 zv s σ0 H [_] [u] Q I (.cons ru .nil) ⟨a,vs,rfl,.inr ⟨SqT.of (G.sub _ _ ea),ub G q (.tup ea hl)⟩⟩
 |lst l=>
  cases eg;obtain⟨a,vs,rfl,ea,hl⟩:=bd.lst G.sub;exact aa8 zv s σ0 H [_] [u] Q I (.cons ru .nil) ⟨a,vs,rfl,.inl ⟨SqL.of ea,λp hp=>Res.tup G q hl hp⟩⟩
 |kst l=>
  cases eg;obtain⟨a,vs,rfl,ea,hl⟩:=bd.kst;exact aa8 zv s σ0 H [_] [u] Q I (.cons ru .nil) ⟨a,vs,rfl,.inl ⟨L2.Same.seq G.sub ea,λp hp=>Res.tup G q hl hp⟩⟩
 |_=>cases eg
theorem afa:CallD K X (.type "list") (g1 λd=>(itemsD d).map λl=>.fr l):=ahn λhk zv s σ0 H x u Q tg F ρ σ d r I ru G bd eg q=>by
 subst hk;cases e:itemsD d with
 |none=>rw[e] at eg;cases eg
 |some l=>
  rw[e] at eg;cases eg;obtain⟨a,vs,rfl,hl,hs⟩:=agi G.sub e bd;exact ama zv s σ0 H [_] [u] Q I (.cons ru .nil) ⟨a,vs,rfl,hs,λp hp=>Res.lst G q hl hp⟩
theorem ax4{f:D->D->Option Rv}{w:aG} (h:X.K=K->∀(zv:List (aQ×Obj)) (s:aJ) (σ0:L2.St) (H:Hp) (x y:V) (u v:aG) (Q:VK) (tg:Nat->aQ) (F:Hp) (ρ:Ro) (σ:L2.St) (d d':D) (r:Rv),Inv X zv σ0 H s->RelV x u->RelV y v->Good K tg F H ρ σ->Bor K F H d x->Bor K F H d' y->f d d'=ZZ r->Res K tg F H ρ σ r Q ->
  bG (bL X.prog X.w) X.A (call w [u,v]) (EP X zv σ0 Q) X.xe s):CallD K X w (g2 f):=CallD.mk λhk=>by
 intro zv s σ0 H xs us Q I r z9;obtain⟨tg,F,ρ,σ,ds,rv,G,bl,eg,q⟩:=z9
 match ds,eg with
 | [d,d'],eg=>
  obtain⟨v,v',rfl,bv,bv'⟩:=bl.two;obtain⟨u,w,rfl,ru,rw'⟩:=vals2 r;exact h hk zv s σ0 H v v' u w Q tg F ρ σ d d' rv I ru rw' G bv bv' eg q
def ax5(hc:X.calm=ZX):CallD K X (.builtin "max") (g2 (gInt λi j=>ZZ (if j > i then j else i))):=ax4 λhk zv s σ0 H x y u v Q tg F ρ σ d d' r I ru rv G bd bd' eg q=>by
 unfold gInt at eg;split at eg
 ·cases eg;obtain rfl:=bd.int;obtain rfl:=bd'.int;exact aup hc zv s σ0 H [_,_] [u,v] Q I (.cons ru (.cons rv .nil)) ⟨_,_,rfl,ub G q (.int _)⟩
 ·cases eg
def ame:abi X (.builtin "divmod") (λxs H Q=>∃i j,xs=[.int i,.int j]/\(0<j/\j<1000000000000000000000000000000000000000000000000000000000000)/\∀p,H p=ZY->Q (.ref p) (upd H p (.tup [.int (i / j),.int (i % j)]))):=by
 intro zv s σ H xs us Q I r h;obtain⟨i,j,rfl,hj,q⟩:=h;obtain⟨u,w',rfl,⟨t,rfl⟩,⟨t',rfl⟩⟩:=vals2 r;have h1:=hj.1;refine divmod_int (by omega) ?_ (.inl (a3g hj.1 hj.2))
 rw[tE i (by omega),tD i (by omega)]
 refine⟨.ref s.heap.objs.size,_,?_,rfl,q _ (I.hok.fresh (aP _))⟩;exact I.laid (λb o e=>aB _ e) (aP _) ⟨by simp only[bF,lH];rw[gF];decide,[.int (i / j) s.toks,.int (i % j) (s.toks+1)],.cons ⟨_,rfl⟩ (.cons ⟨_,rfl⟩ .nil),⟨_,aM s.heap rfl,rfl,rfl,0,rfl⟩⟩
def ajz:D->D->Option Rv
 |.int i,.int j=>if 0<j/\j<1000000000000000000000000000000000000000000000000000000000000 then ZZ (.v (.tup [.int (i / j),.int (i % j)])) else ZY
 |_,_=>ZY
def aul:CallD K X (.builtin "divmod") (g2 ajz):=ax4 λhk zv s σ0 H x y u v Q tg F ρ σ d d' r I ru rv G bd bd' eg q=>by
 unfold ajz at eg;split at eg
 ·split at eg
  ·rename_i hc;cases eg;obtain rfl:=bd.int;obtain rfl:=bd'.int;exact ame zv s σ0 H [_,_] [u,v] Q I (.cons ru (.cons rv .nil)) ⟨_,_,rfl,hc,λp hp=>Res.tup G q (.cons (.int _) (.cons (.int _) .nil)) hp⟩
  ·cases eg
 ·cases eg
inductive Ty where
 |int |bool |tuple |list |str |dict
def Ty.nm:Ty->String
 |.int => "int" |.bool => "bool" |.tuple => "tuple" |.list => "list" |.str => "str" |.dict => "dict"
def tyD:D->aG
 |.non=>.type "NoneType"
 |.bl _=>.type "bool"
 |.int _=>.type "int"
 |.str _=>.type "str"
 |.tup _=>.type "tuple"
 |.lst _=>.type "list"
 |.kst _=>.type "list"
 |.dct _=>.type "dict"
 |.exn _ _=>.type "NoneType"
def isTy:Ty->D->Bool
 |.int,.int _=>ZX
 |.int,.bl _=>ZX
 |.bool,.bl _=>ZX
 |.tuple,.tup _=>ZX
 |.list,.lst _=>ZX
 |.list,.kst _=>ZX
 |.str,.str _=>ZX
 |.dict,.dct _=>ZX
 |_,_=>ZW
def axq(t:Ty)(d:D):gP K (tyD d) (.type t.nm)=ZZ (isTy t d):=by
 cases d <;> cases t <;> kernel_rfl
theorem auq{X:Cx}:abi X (.builtin "isinstance") (λxs H Q=>∃F d x t,xs=[x,.ty (Ty.nm t)]/\Same F H/\Bor X.K F H d x/\Q (.bl (isTy t d)) H):=by
 intro zv s σ H xs us Q I r z9;obtain⟨F,d,x,t,e,g,h,q⟩:=z9;subst e;obtain⟨u,w',rfl,r1,r2⟩:=vals2 r;obtain rfl:w'=jG t.nm:=r2;have fin:∀tk,EP X zv σ Q (.bool (isTy t d)) { s with toks:=tk }:=λtk=>⟨.bl _,H,I.tok tk,rfl,q⟩
 have go:TyOf X.K H x (tyD d)->bG (bL X.prog X.w) X.A (call (.builtin "isinstance") [u,.type t.nm]) (EP X zv σ Q) X.xe s:=λty=>atc I r1 ty (axq t d) fin
 cases d with
 |non=>obtain rfl:=h.non;exact go .non
 |bl b=>obtain rfl:=h.bl;exact go (.bl b)
 |int b=>obtain rfl:=h.int;exact go (.int b)
 |str b=>obtain rfl:=h.str;exact go (.str b)
 |tup b=>obtain⟨a,vs,rfl,e,_⟩:=h.tup;exact go (.tup (g _ _ e))
 |lst b=>obtain⟨a,vs,rfl,e,_⟩:=h.lst g;exact go (.lst e)
 |kst b=>
  obtain⟨a,vs,rfl,e,_⟩:=h.kst;cases(show u=cH a from r1)
  obtain⟨its,_,pl,_⟩:=I.list (L2.Same.seq g e);obtain⟨o,ho,hc,n,hd⟩:=pl.isList;exact dW rA I.kIn ⟨o,ho,hc⟩ (axq t (.kst b)) (λz=>nomatch z) fin
 |dct b=>
  rcases h with h |⟨a,vs,l',e1,_⟩
  ·cases h with
   |dct e h=>exact go (.dK (g _ _ e))
  ·cases e1
 |exn c fs=>
  rcases h with h |⟨a,vs,l',e1,_⟩
  ·cases h with
   | @exn a C c dx fs e hc hk hf=>
    cases(show u=cH a from r1)
    obtain⟨⟨oe,ws,h1,h2,h3,h4⟩,_⟩:=(show xf X.prog X.w H s.heap a (.ext (exO a C dx)) from I.hok a _ (g _ _ e))
    have hno:lU oe=ZX:=by unfold lU;rw[h4]
    have ia:∃ox od,gQ s.heap a ox C od:=by
     rcases hf with⟨rfl,_⟩ |⟨d,rfl,hd⟩
     ·exact⟨oe,ZY,h1,h2,hno,by rw[h3];trivial⟩
     ·obtain⟨mA,⟨od,_,_,e1,_⟩,_⟩:=(show xf X.prog X.w H s.heap d (.xd _) from I.hok d _ (g _ _ hd))
      exact⟨oe,ZZ od,h1,h2,hno,by rw[h3];exact e1⟩
    have kq:gP X.K (.ref C) (.type t.nm)=ZZ ZW:=by
     have h5:gM X.K (.ref C) (.type t.nm)=ZZ ZW:=hk.no _ (by cases t <;> simp[Ty.nm])
     have h6:yF t.nm=ZX:=by cases t <;> kernel_rfl
     unfold gP yQ;rw[if_neg (by simp)]
     show(if yF t.nm=ZX then gM X.K (.ref C) (.type t.nm) else ZY)=ZZ ZW
     rw[if_pos h6];exact h5
    have e7:isTy t (.exn c fs)=ZW:=by cases t <;> rfl
    exact dW (aou hk) I.kIn ia kq (λz=>nomatch z) λtk=>e7▸fin tk
  ·cases e1
def mIsi(t:Ty)(m:M D):M D:=m.bind λd=>ret (.bl (isTy t d))
def ahf{t:Ty}{tn:dI}{m:M D}{x:Str}(ht:PE X tn (tC (.ty t.nm)))(hg:Gl X x)(hm:X.mg x=ZY)(hv:bR x=ZZ (.builtin "isinstance"))(h:EB K X e m)(hn:x ≠ "__name__" := by decide)(hdb:Zb x:=by decide)
  (h1:aO [tn] X.env=(ZW,eval tn X.env)::aO [] X.env:=by rfl) (he:aO [e,tn] X.env=(ZW,eval e X.env)::aO [tn] X.env:=by rfl) (hpl:(gC pos (aO [tn] X.env)).any (·.1)=ZW:=by rfl) :
  EV K X (.Call (.Name x p) [e,tn] [] pos) (mIsi t m):=EV.mk λhk=>by
 refine PE.imp (ad5 auq hg hm hv (sy (h hk) (sy ht ad6 h1) he) hn hdb he hpl) λσ H Q z9=>?_
 obtain⟨tg,F,ρ,d,ρ',G,em,q⟩:=z9;obtain⟨d1,ρ1,e1,em⟩:=bf em;obtain⟨rfl,rfl⟩:=j6 em;subst hk;exact⟨tg,F,ρ,d1,_,G,e1,λv H' F' G' x bv=>⟨F',d1,v,t,rfl,G'.sub,bv,q _ H' F' G' x (.bl _)⟩⟩
def gIx(d i:D):Option Rv:=match i with
 |.int k=>(itemsD d).bind λl=>(atI l k).map λx=>.v x
 |_=>ZY
theorem a5c{F:Hp}{l:List D}{vs:List V}{k:Int}{d:D}(h:IsL K F l vs)(e:atI l k=ZZ d):∃v,atI vs k=ZZ v/\Is K F d v:=by
 unfold atI at e ⊢
 rw[h.length] at e;cases q:ixN vs.length k with
 |none=>rw[q] at e;cases e
 |some j=>
  rw[q] at e;obtain⟨v,e1,e2⟩:=h.get (i:=j) e;exact⟨v,e1,e2⟩
theorem ixd:X.K=K->IxR X (rOf K gIx):=λhk=>by
 intro value slice zv s σ0 H x y v u Q I rx ry z9 hs;obtain⟨tg,F,ρ,σ,d1,d2,r,G,b1,b2,eg,q⟩:=z9;subst hk;cases d2 with
 |int k=>
  have eg:(itemsD d1).bind (λl=>(atI l k).map λx=>Rv.v x)=ZZ r:=eg
  cases e:itemsD d1 with
  |none=>rw[e] at eg;cases eg
  |some l=>
   rw[e] at eg;have eg:(atI l k).map (λx=>Rv.v x)=ZZ r:=eg
   cases e2:atI l k with
   |none=>rw[e2] at eg;cases eg
   |some d=>
    rw[e2] at eg;cases eg;obtain⟨a,vs,rfl,hl,hq⟩:=agi G.sub e b1;obtain rfl:=b2.int;obtain⟨z,hz,iz⟩:=a5c hl e2;rcases hq with hq |hq
    ·exact a0a value slice zv s σ0 H _ _ v u Q I rx ry ⟨a,vs,k,z,rfl,rfl,hq,hz,ub G q iz⟩ hs
    ·exact a4b value slice zv s σ0 H _ _ v u Q I rx ry ⟨a,vs,k,z,rfl,rfl,hq,hz,ub G q iz⟩ hs
 |_=>cases eg
def su{m:M (D×D)}(h:E2 K X a b m)(hs:au2 b):ER K X (.Subscript a b pos) (mOp gIx m):=ER.mk λhk=>by
 obtain⟨ta,tb,ha,hb,h⟩:=h hk;exact PE.imp (a7k (ixd hk) ha hb hs) (aom h)
def TOp(K:Fg9)(m:M (Option Int)):TO:=λσ H Q=>∃tg F ρ o ρ',Good K tg F H ρ σ/\m ρ=ZZ (.ok o,ρ')/\∀H' F',Good K tg F' H' ρ' σ->Ext (Own ρ σ) (Own ρ' σ) F H F' H'->Q o H'
structure EO (K:Fg9) (X:Cx) (e:Option dI) (m:M (Option Int)):Prop where
 go:X.K=K->PO X e (TOp K m)
instance {K:Fg9} {X:Cx} {e:Option dI} {m:M (Option Int)}:CoeFun (EO K X e m) λ_=>X.K=K->PO X e (TOp K m):=⟨EO.go⟩
def PO.imp{eo:Option dI}{t t':TO}(h:PO X eo t)(w:∀σ H Q,t' σ H Q->t σ H Q):PO X eo t':=λzv s σ H Q I q=>h zv s σ H Q I (w σ H Q q)
def ab4:EO K X ZY (ret ZY):=EO.mk λ_=>PO.imp ay8 λσ H Q z9=>by
 obtain⟨tg,F,ρ,o,ρ',G,em,q⟩:=z9;obtain⟨rfl,rfl⟩:=j6 em;exact q H F G (Ext.refl _ _ _)
def asI:D->Option Int
 |.int i=>ZZ i
 |_=>ZY
theorem afu{d:D}{k:Int}(h:asI d=ZZ k):d=.int k:=by
 cases d with
 |int b=>cases h;rfl
 |_=>cases h
def afz(m:M D):M (Option Int):=m.bind λd=>lift ((asI d).map ZZ)
theorem aah{m:M D}(h:EV K X e m):EO K X (ZZ e) (afz m):=EO.mk λhk=>PO.imp (ay7 (h hk)) λσ H Q z9=>by
 obtain⟨tg,F,ρ,o,ρ',G,em,q⟩:=z9;obtain⟨d,ρ1,e1,em⟩:=bf em;obtain⟨e2,rfl⟩:=ik em;refine⟨tg,F,ρ,d,_,G,e1,λv H' F' G' x r=>?_⟩
 cases d with
 |int i=>
  cases e2;cases r;exact⟨i,rfl,q H' F' G' x⟩
 |_=>cases e2
def cutD(l:List D)(lo hi:Option Int):List D:=(l.drop (HT.sIx l.length 0 lo)).take (HT.sIx l.length l.length hi-HT.sIx l.length 0 lo)
def aud{F:Hp}{l:List D}{vs:List V}(h:IsL K F l vs)(lo hi:Option Int):IsL K F (cutD l lo hi) (cutV vs lo hi):=by
 unfold cutD cutV;rw[h.length];exact(h.drop _).take _
def gCut(d:D)(lo hi:Option Int):Option Rv:=match d with
 |.tup l=>ZZ (.v (.tup (cutD l lo hi)))
 |.lst l=>ZZ (.fr (cutD l lo hi))
 |.kst l=>ZZ (.fr (cutD l lo hi))
 |_=>ZY
def rsOf(K:Fg9):V->Option Int->Option Int->Hp->VK->Prop:=λx lo hi H Q=>∃tg F ρ σ d r,Good K tg F H ρ σ/\Bor K F H d x/\gCut d lo hi=ZZ r/\Res K tg F H ρ σ r Q
theorem sld(hk:X.K=K):SlR X (rsOf K):=by
 intro zv s σ0 H x v vl vu lo hi sl Q I rx hs pl pu z9;obtain⟨tg,F,ρ,σ,d,r,G,bd,eg,q⟩:=z9;subst hk;cases d with
 |tup l=>
  cases eg;obtain⟨a,vs,rfl,ea,hl⟩:=bd.tup
  by_cases hw:HT.sIx vs.length 0 lo=0/\HT.sIx vs.length vs.length hi=vs.length
  ·have ec:cutD l lo hi=l:=by
    unfold cutD;rw[hl.length,hw.1,hw.2,tR,uO,<-hl.length,oX]
   rw[ec] at q;cases rx;obtain⟨its,r,ht,hz⟩:=I.tuple (SqT.of (G.sub _ _ ea));have hlen:its.toArray.size=vs.length:=by rw[aW];exact r.length.symm
   refine⟨"tuple", _,fB.lookup,ht.typeIs,?_⟩;exact adh ht hs pl pu (by rw[hlen];exact hw.1) (by rw[hlen];exact hw.2) ⟨.ref a,H,I,rfl,ub G q (.tup ea hl)⟩
  ·exact a1p zv s σ0 H _ v vl vu lo hi sl Q I rx hs pl pu ⟨a,vs,rfl,SqT.of (G.sub _ _ ea),hw,λp hp=>Res.tup G q (aud hl lo hi) hp⟩
 |lst l=>
  cases eg;obtain⟨a,vs,rfl,ea,hl⟩:=bd.lst G.sub;exact arn zv s σ0 H _ v vl vu lo hi sl Q I rx hs pl pu ⟨a,vs,rfl,SqL.of ea,λp hp=>Res.lst G q (aud hl lo hi) hp⟩
 |kst l=>
  cases eg;obtain⟨a,vs,rfl,ea,hl⟩:=bd.kst;exact arn zv s σ0 H _ v vl vu lo hi sl Q I rx hs pl pu ⟨a,vs,rfl,L2.Same.seq G.sub ea,λp hp=>Res.lst G q (aud hl lo hi) hp⟩
 |_=>cases eg
def mCut(m:M D)(ml mh:M (Option Int)):M Rv:=m.bind λd=>ml.bind λlo=>mh.bind λhi=>lift (gCut d lo hi)
def ajt(i:Nat)(ml mh:M (Option Int)):M Rv:=(gr i).bind λ_=>ml.bind λlo=>mh.bind λhi=>(gr i).bind λd=>lift (gCut d lo hi)
def ax0{m:M D}{ml mh:M (Option Int)}{lo hi:Option dI}(h:EV K X a m)(hl:EO K X lo ml)(hh:EO K X hi mh):ER K X (.Subscript a (.Slice lo hi ZY p2) pos) (mCut m ml mh):=ER.mk λhk=>PE.imp (aok (sld hk) (h hk) (hl hk) (hh hk)) λσ H Q z9=>by
 obtain⟨tg,F,ρ,r,ρ',G,em,q⟩:=z9;obtain⟨d,ρ1,e1,em⟩:=bf em;obtain⟨o1,ρ2,e2,em⟩:=bf em;obtain⟨o2,ρ3,e3,em⟩:=bf em;obtain⟨e4,rfl⟩:=ik em;refine⟨tg,F,ρ,d,ρ1,G,e1,λv H1 F1 G1 x1 r1=>⟨tg,F1,ρ1,o1,ρ2,G1,e2,λH2 F2 G2 x2=>⟨tg,F2,ρ2,o2,_,G2,e3,λH3 F3 G3 x3=>?_⟩⟩⟩
 exact⟨tg,F3,_,σ,d,r,G3,.inl ((r1.mono x2.sub).mono x3.sub),e4,λv' H4 F4 G4 x4 rr=>q v' H4 F4 G4 (((x1.trans x2).trans x3).trans x4) (lr ((x1.trans x2).trans x3) rr)⟩
def ado{i:Nat}{ml mh:M (Option Int)}{lo hi:Option dI}(h:PE X a (tVar i))(hl:EO K X lo ml)(hh:EO K X hi mh):ER K X (.Subscript a (.Slice lo hi ZY p2) pos) (ajt i ml mh):=ER.mk λhk=>PE.imp (aok (sld hk) h (hl hk) (hh hk)) λσ H Q z9=>by
 obtain⟨tg,F,ρ,r,ρ',G,em,q⟩:=z9;obtain⟨d0,ρ0,e0,em⟩:=bf em;obtain⟨o1,ρ2,e2,em⟩:=bf em;obtain⟨o2,ρ3,e3,em⟩:=bf em;obtain⟨d,ρ4,e1,em⟩:=bf em;obtain⟨e4,rfl⟩:=ik em;obtain⟨rfl,v,hv,_⟩:=ph G e0;refine⟨v,hv,tg,F,ρ0,o1,ρ2,G,e2,λH2 F2 G2 x2=>⟨tg,F2,ρ2,o2,_,G2,e3,λH3 F3 G3 x3=>?_⟩⟩
 obtain⟨rfl,v',hv',b'⟩:=ph G3 e1;rw[hv] at hv';cases hv';exact⟨tg,F3,_,σ,d,r,G3,b',e4,λv' H4 F4 G4 x4 rr=>q v' H4 F4 G4 ((x2.trans x3).trans x4) (lr (x2.trans x3) rr)⟩
end
inductive Fl where
 |nx |ret (r:Rv) |brk |cont |exc (x:Exn)
abbrev Sd:=Ro->Option (Fl×Ro)
section
variable{K:Fg9}{X:Cx}{e a b c tgt:dI}{es:List dI}{pos p p2:Pos}{st:gK}{ss:List gK}
def FlOk(K:Fg9)(tg:Nat->aQ)(ρ:Ro)(σ:L2.St)(F H:Hp)(E:Ends)(fl:Fl)(ρ':Ro):Prop:=match fl with
 |.nx=>∀σ' H' F',Good K tg F' H' ρ' σ'->Ext (Own ρ σ) (Own ρ' σ') F H F' H'->E.nx σ' H'
 |.brk=>∀σ' H' F',Good K tg F' H' ρ' σ'->Ext (Own ρ σ) (Own ρ' σ') F H F' H'->E.bk σ' H'
 |.cont=>∀σ' H' F',Good K tg F' H' ρ' σ'->Ext (Own ρ σ) (Own ρ' σ') F H F' H'->E.ct σ' H'
 |.ret r=>∀v σ' H' F',Good K tg F' H' ρ' σ'->Ext (Own ρ σ) (Own ρ' σ') F H F' H'->relR K r v H (Own ρ σ) F' H' (Own ρ' σ')->E.rt v H'
 |.exc _=>False
def TSd(K:Fg9)(g:Sd):TS:=λE σ H=>∃tg F ρ fl ρ',Good K tg F H ρ σ/\g ρ=ZZ (fl,ρ')/\FlOk K tg ρ σ F H E fl ρ'
structure SV (K:Fg9) (X:Cx) (st:gK) (g:Sd):Prop where
 go:X.K=K->PS X st (TSd K g)
instance {K:Fg9} {X:Cx} {st:gK} {g:Sd}:CoeFun (SV K X st g) λ_=>X.K=K->PS X st (TSd K g):=⟨SV.go⟩
structure SVs (K:Fg9) (X:Cx) (ss:List gK) (g:Sd):Prop where
 go:X.K=K->PSs X ss (TSd K g)
instance {K:Fg9} {X:Cx} {ss:List gK} {g:Sd}:CoeFun (SVs K X ss g) λ_=>X.K=K->PSs X ss (TSd K g):=⟨SVs.go⟩
def PS.imp{t t':TS}(h:PS X st t)(w:∀E σ H,t' E σ H->t E σ H):PS X st t':=λzv s σ H E I q=>h zv s σ H E I (w E σ H q)
def PSs.imp{t t':TS}(h:PSs X ss t)(w:∀E σ H,t' E σ H->t E σ H):PSs X ss t':=λzv s σ H E I q=>h zv s σ H E I (w E σ H q)
theorem FlOk.back{tg:Nat->aQ}{ρ ρ1 ρ':Ro}{σ σ1:L2.St}{F H F1 H1:Hp}{E:Ends}{fl:Fl}(x:Ext (Own ρ σ) (Own ρ1 σ1) F H F1 H1)(h:FlOk K tg ρ σ F H E fl ρ'):FlOk K tg ρ1 σ1 F1 H1 E fl ρ':=by
 cases fl with
 |nx=>exact λσ' H' F' G' x'=>h σ' H' F' G' (x.trans x')
 |brk=>exact λσ' H' F' G' x'=>h σ' H' F' G' (x.trans x')
 |cont=>exact λσ' H' F' G' x'=>h σ' H' F' G' (x.trans x')
 |ret r=>exact λv σ' H' F' G' x' rr=>h v σ' H' F' G' (x.trans x') (lr x rr)
 |exc _=>exact h
noncomputable def dNx:Sd:=λρ=>ZZ (.nx,ρ)
noncomputable def dSeq(g k:Sd):Sd:=λρ=>match g ρ with
 |some (.nx,ρ1)=>k ρ1
 |r=>r
def jm:SVs K X [] dNx:=SVs.mk λ_=>PSs.imp ar8 λE σ H z9=>by
 obtain⟨tg,F,ρ,fl,ρ',G,em,q⟩:=z9;cases em;exact q σ H F G (Ext.refl _ _ _)
def au{g:Sd}(h:SV K X st g):SVs K X [st] g:=SVs.mk λhk=>ar7 (h hk)
def aq{g k:Sd}(h:SV K X st g)(t:SVs K X ss k):SVs K X (st::ss) (dSeq g k):=SVs.mk λhk=>PSs.imp (ajg (h hk) (t hk)) λE σ H z9=>by
 obtain⟨tg,F,ρ,fl,ρ',G,em,q⟩:=z9;unfold dSeq at em;split at em
 ·rename_i ρ1 e1;exact⟨tg,F,ρ,.nx,ρ1,G,e1,λσ' H' F' G' x=>⟨tg,F',ρ1,fl,ρ',G',em,q.back x⟩⟩
 ·rename_i hn;refine⟨tg,F,ρ,fl,ρ',G,em,?_⟩;cases fl with
  |nx=>exact absurd em (hn ρ')
  |brk=>exact q
  |cont=>exact q
  |ret r=>exact q
  |exc _=>exact q
noncomputable def dM{α:Type}(m:M α)(k:α->Sd):Sd:=λρ=>match m ρ with
 |some (.ok x,ρ1)=>k x ρ1
 |some (.exc x,ρ1)=>ZZ (.exc x,ρ1)
 |none=>ZY
def my{α:Type}{m:M α}{k:α->Sd}{ρ ρ':Ro}{fl:Fl}{P:Prop}(h:dM m k ρ=ZZ (fl,ρ'))(hx:FlOk K tg ρ0 σ0 F0 H0 E0' fl ρ')(go:∀x ρ1,m ρ=ZZ (.ok x,ρ1)->k x ρ1=ZZ (fl,ρ')->P):P:=by
 unfold dM at h;split at h
 ·exact go _ _ (by assumption) h
 ·cases h;exact(show False from hx).elim
 ·cases h
noncomputable def dRet(m:M Rv):Sd:=dM m λr ρ=>ZZ (.ret r,ρ)
def gn{m:M Rv}(h:ER K X e m):SV K X (.Return (ZZ e) pos) (dRet m):=SV.mk λhk=>PS.imp (a2f (h hk)) λE σ H ⟨tg,F,ρ,fl,ρ',G,em,q⟩=>my em q λr ρ1 e1 em=>by
 cases em;exact⟨tg,F,ρ,r,_,G,e1,λv H' F' G' x rr=>q v σ H' F' G' x rr⟩
noncomputable def dIf(m:M Bool)(g k:Sd):Sd:=dM m λz=>if z=ZX then g else k
theorem ud{m:M Bool}{g k:Sd}{ss':List gK}(h:ET K X c m)(h1:SVs K X ss g)(h2:SVs K X ss' k):SV K X (.If c ss ss' pos) (dIf m g k):=SV.mk λhk=>PS.imp (a7h (h hk) (h1 hk) (h2 hk)) λE σ H ⟨tg,F,ρ,fl,ρ',G,em,q⟩=>my em q λz ρ1 e1 em=>by
 refine⟨tg,F,ρ,z,ρ1,G,e1,λH' F' G' x=>?_⟩
 cases z with
 |true=>exact iteT ⟨tg,F',ρ1,fl,ρ',G',em,q.back x⟩
 |false=>exact iteF ⟨tg,F',ρ1,fl,ρ',G',em,q.back x⟩
def xr{α:Type}(m:M α):Sd:=dM m λ_ ρ=>ZZ (.nx,ρ)
def jo{m:M Rv}(h:ER K X e m)(hs:iR e ZY pos.line X.env=pure ZW:=by rfl):SV K X (.Expr e pos) (xr m):=SV.mk λhk=>PS.imp (ay6 (h hk) hs) λE σ H ⟨tg,F,ρ,fl,ρ',G,em,q⟩=>my em q λr ρ1 e1 em=>by
 cases em;exact⟨tg,F,ρ,r,_,G,e1,λv H' F' G' x rr=>q σ H' F' G' x⟩
section
variable{tg:Nat->aQ}{F H:Hp}{ρ:Ro}{σ:L2.St}
def ada{i:Nat}{s:Sl}{v:V}{b:aQ}(hl:ρ.length=σ.length)(h:Own (bZ ρ i s) (bZ σ i (ZZ v)) b):Own ρ σ b∨((∃t l,s=.own t l)/\v=.ref b):=by
 obtain⟨j,⟨t,l,e⟩,q⟩:=h;rw[bJ] at e q
 by_cases hj:i=j
 ·subst hj;rw[if_pos rfl] at e q;split at e
  ·rename_i hi;rw[if_pos (by rw[<-hl];exact hi)] at q
   cases e;cases q;exact .inr ⟨⟨t,l,rfl⟩,rfl⟩
  ·cases e
 ·rw[if_neg hj] at e q;exact .inl ⟨j,⟨t,l,e⟩,q⟩
def Good.put(G:Good K tg F H ρ σ){s:Sl}{v:V}(i:Nat)(h:SlOk K tg F H s (ZZ v))(n:∀t l a,s=.own t l->v=.ref a->¬Own ρ σ a):Good K tg F H (bZ ρ i s) (bZ σ i (ZZ v)) where
 sub:=G.sub
 len:=by rw[cC,cC];exact G.len
 sl:=λj s' o e q=>by
  rw[bJ] at e q
  by_cases hj:i=j
  ·subst hj;rw[if_pos rfl] at e q;split at e
   ·rename_i hi;rw[if_pos (by rw[<-G.len];exact hi)] at q
    cases e;cases q;exact h
   ·cases e
  ·rw[if_neg hj] at e q;exact G.sl j s' o e q
 inj:=λj k a ⟨⟨t,l,e⟩,q⟩ ⟨⟨t',l',e'⟩,q'⟩=>by
  rw[bJ] at e q e' q'
  by_cases hj:i=j
  ·subst hj;rw[if_pos rfl] at e q
   by_cases hk:i=k
   ·exact hk
   ·rw[if_neg hk] at e' q';split at e
    ·rename_i hi;rw[if_pos (by rw[<-G.len];exact hi)] at q
     cases e;cases q;exact absurd ⟨k,⟨t',l',e'⟩,q'⟩ (n t l a rfl rfl)
    ·cases e
  ·rw[if_neg hj] at e q
   by_cases hk:i=k
   ·subst hk;rw[if_pos rfl] at e' q';split at e'
    ·rename_i hi;rw[if_pos (by rw[<-G.len];exact hi)] at q'
     cases e';cases q';exact absurd ⟨j,⟨t,l,e⟩,q⟩ (n t' l' a rfl rfl)
    ·cases e'
   ·rw[if_neg hk] at e' q';exact G.inj j k a ⟨⟨t,l,e⟩,q⟩ ⟨⟨t',l',e'⟩,q'⟩
def Rv.sl:Rv->Sl
 |.v d=>.val d
 |.fr l=>.own ZY l
 |.tf _ _=>.emp
theorem Good.store{F0 H0:Hp}{O:aQ->Prop}(G:Good K tg F H ρ σ)(x:Ext O (Own ρ σ) F0 H0 F H){r:Rv}{v:V}(i:Nat)(h:relR K r v H0 O F H (Own ρ σ)) :
  Good K tg F H (bZ ρ i r.sl) (bZ σ i (ZZ v))/\Ext O (Own (bZ ρ i r.sl) (bZ σ i (ZZ v))) F0 H0 F H:=by
 cases r with
 |v d=>
  refine⟨G.put i ⟨v,rfl,h⟩ (λt l a e=>by cases e),x.sub,x.new,x.keep,λb w=>?_,x.there⟩
  rcases ada G.len w with w |⟨⟨t,l,e⟩,_⟩
  ·exact x.own b w
  ·cases e
 |fr l=>
  obtain⟨a,vs,rfl,ha,hf,hh,hl,hn⟩:=h;refine⟨G.put i ⟨a,vs,rfl,hf,hh,hl,λk e=>by cases e⟩ (λt l' b _ e2=>by cases e2;exact hn),x.sub,x.new,x.keep,λb w=>?_,x.there⟩
  rcases ada G.len w with w |⟨_,e⟩
  ·exact x.own b w
  ·cases e;exact ha.symm
 |tf d l=>
  refine⟨G.put i trivial (λt l a e=>by cases e),x.sub,x.new,x.keep,λb w=>?_,x.there⟩
  rcases ada G.len w with w |⟨⟨t,l,e⟩,_⟩
  ·exact x.own b w
  ·cases e
end
def dSet(i:Nat)(m:M Rv):Sd:=dM m λr ρ=>ZZ (.nx,bZ ρ i r.sl)
def iu{i:Nat}{x:Str}{m:M Rv}(hN:X.N.Nodup)(hi:X.N[i]? = ZZ x)(hx:Loc X.env.scope x)(h:ER K X e m)(hs:iR e (ZZ (.Name x p)) pos.line X.env=pure ZW:=by rfl)(hf:X.fn x=ZX∨X.env.scope.names.lookup x=ZZ .local:=by first |exact .inl rfl |exact .inr rfl |assumption) :
  SV K X (.Assign [.Name x p] e pos) (dSet i m):=SV.mk λhk=>PS.imp (axh hN hi hx (h hk) hs hf) λE σ H ⟨tg,F,ρ,fl,ρ',G,em,q⟩=>my em q λr ρ1 e1 em=>by
 cases em;refine⟨tg,F,ρ,r,ρ1,G,e1,λv H' F' G' x rr=>?_⟩
 obtain⟨G2,x2⟩:=G'.store x i rr;exact q _ H' F' G2 x2
def TGd(K:Fg9)(b:D->Ro->Option Ro):TG:=λv σ H Q=>∃tg F ρ d ρ',Good K tg F H ρ σ/\Is K F d v/\b d ρ=ZZ ρ'/\∀σ' H' F',Good K tg F' H' ρ' σ'->Ext (Own ρ σ) (Own ρ' σ') F H F' H'->Q σ' H'
structure GV (K:Fg9) (X:Cx) (e:dI) (b:D->Ro->Option Ro):Prop where
 go:X.K=K->PG X e (TGd K b)
instance {K:Fg9} {X:Cx} {e:dI} {b:D->Ro->Option Ro}:CoeFun (GV K X e b) λ_=>X.K=K->PG X e (TGd K b):=⟨GV.go⟩
def PG.imp{t t':TG}(h:PG X e t)(w:∀v σ H Q,t' v σ H Q->t v σ H Q):PG X e t':=λzv s σ H v u Q I r q=>h zv s σ H v u Q I r (w v σ H Q q)
def ir(i:Nat):D->Ro->Option Ro:=λd ρ=>ZZ (bZ ρ i (.val d))
def Good.storeV{tg:Nat->aQ}{F H:Hp}{ρ:Ro}{σ:L2.St}(G:Good K tg F H ρ σ){d:D}{v:V}(i:Nat)(h:Is K F d v):Good K tg F H (bZ ρ i (.val d)) (bZ σ i (ZZ v))/\Ext (Own ρ σ) (Own (bZ ρ i (.val d)) (bZ σ i (ZZ v))) F H F H :=
 G.store (r:=.v d) (Ext.refl _ _ _) i h
def cj{i:Nat}{x:Str}(hN:X.N.Nodup)(hi:X.N[i]? = ZZ x)(hx:Loc X.env.scope x)(hf:X.fn x=ZX∨X.env.scope.names.lookup x=ZZ .local:=by first |exact .inl rfl |exact .inr rfl |assumption):GV K X (.Name x pos) (ir i):=GV.mk λ_=>PG.imp (azf hN hi hx hf) λv σ H Q z9=>by
 obtain⟨tg,F,ρ,d,ρ',G,h,em,q⟩:=z9;cases em;obtain⟨G2,x2⟩:=G.storeV i h;exact q _ H F G2 x2
def TGsd(K:Fg9)(b:List D->Ro->Option Ro):TGs:=λvs σ H Q=>∃tg F ρ ds ρ',Good K tg F H ρ σ/\IsL K F ds vs/\b ds ρ=ZZ ρ'/\∀σ' H' F',Good K tg F' H' ρ' σ'->Ext (Own ρ σ) (Own ρ' σ') F H F' H'->Q σ' H'
structure GVs (K:Fg9) (X:Cx) (es:List dI) (b:List D->Ro->Option Ro):Prop where
 go:X.K=K->PGs X es (TGsd K b)
instance {K:Fg9} {X:Cx} {es:List dI} {b:List D->Ro->Option Ro}:CoeFun (GVs K X es b) λ_=>X.K=K->PGs X es (TGsd K b):=⟨GVs.go⟩
def PGs.imp{t t':TGs}(h:PGs X es t)(w:∀v σ H Q,t' v σ H Q->t v σ H Q):PGs X es t':=λzv s σ H v u Q I r q=>h zv s σ H v u Q I r (w v σ H Q q)
noncomputable def bNil:List D->Ro->Option Ro:=λds ρ=>match ds with
 | []=>ZZ ρ
 |_=>ZY
def qj(b:D->Ro->Option Ro)(bs:List D->Ro->Option Ro):List D->Ro->Option Ro:=λds ρ=>match ds with
 |d::r=>(b d ρ).bind (bs r)
 |_=>ZY
theorem uh:GVs K X [] bNil:=GVs.mk λ_=>PGs.imp aze λvs σ H Q z9=>by
 obtain⟨tg,F,ρ,ds,ρ',G,h,em,q⟩:=z9;cases ds with
 |nil=>cases em;cases h;exact⟨rfl,q σ H F G (Ext.refl _ _ _)⟩
 |cons _ _=>cases em
theorem dw{b:D->Ro->Option Ro}{bs:List D->Ro->Option Ro}(h1:GV K X e b)(h2:GVs K X es bs)(hs:(iT (e::es) X.env).map (·.2)=oU e X.env::(iT es X.env).map (·.2):=by rfl):GVs K X (e::es) (qj b bs):=GVs.mk λhk=>PGs.imp (avw (h1 hk) (h2 hk) hs) λvs σ H Q z9=>by
 obtain⟨tg,F,ρ,ds,ρ',G,h,em,q⟩:=z9;cases h with
 |nil=>cases em
 | @cons d v ds vs hd ht=>
  have em:(b d ρ).bind (bs ds)=ZZ ρ':=em;cases e1:b d ρ with
  |none=>rw[e1] at em;cases em
  |some ρ1=>
   rw[e1] at em;exact⟨v,vs,rfl,tg,F,ρ,d,ρ1,G,hd,e1,λσ' H' F' G' x=>⟨tg,F',ρ1,ds,ρ',G',ht.mono x.sub,em,λσ2 H2 F2 G2 x2=>q σ2 H2 F2 G2 (x.trans x2)⟩⟩
def bTup(n:Nat)(bs:List D->Ro->Option Ro):D->Ro->Option Ro:=λd ρ=>match d with
 |.tup l=>if l.length=n then bs l ρ else ZY
 |_=>ZY
theorem yu{k n:Nat}{bs:List D->Ro->Option Ro}(hc:X.calm=ZX)(h:GVs K X es bs)(hn:(iT es X.env).length=n:=by rfl)(hst:(iT es X.env).findIdx? (·.1)=ZY:=by rfl):GV K X (.Tuple es k pos) (bTup n bs):=GV.mk λhk=>PG.imp (a2j hc (h hk) hn hst) λv σ H Q z9=>by
 obtain⟨tg,F,ρ,d,ρ',G,hd,em,q⟩:=z9;cases hd with
 | @tup a vs ds e hl=>
  have em:(if ds.length=n then bs ds ρ else ZY)=ZZ ρ':=em
  split at em
  ·rename_i hz;exact⟨a,vs,rfl,SqT.of (G.sub _ _ e),by rw[<-hl.length];exact hz,tg,F,ρ,ds,ρ',G,hl,em,q⟩
  ·cases em
 |_=>cases em
def dAsg(m:M D)(b:D->Ro->Option Ro):Sd:=dM m λd ρ=>(b d ρ).map λρ'=>(.nx,ρ')
theorem a1n{m:M D}{b:D->Ro->Option Ro}(h:EV K X e m)(hg:GV K X tgt b)(hs:swapsWithSole [tgt] e pos.line X.env=pure ZW:=by rfl)(hw:swappedStores [tgt] e X.env=pure ZY:=by rfl)
  (h1:(iT [tgt] X.env).map (·.2)=[oU tgt X.env]:=by rfl):SV K X (.Assign [tgt] e pos) (dAsg m b):=SV.mk λhk=>PS.imp (asa (h hk) (hg hk) hs hw h1) λE σ H ⟨tg,F,ρ,fl,ρ',G,em,q⟩=>my em q λd ρ1 e1 em=>by
 refine⟨tg,F,ρ,d,ρ1,G,e1,λv H' F' G' x r=>?_⟩
 cases e2:b d ρ1 with
 |none=>rw[e2] at em;cases em
 |some ρ2=>
  rw[e2] at em;cases em;exact⟨tg,F',ρ1,d,_,G',r,e2,λσ2 H2 F2 G2 x2=>q σ2 H2 F2 G2 (x.trans x2)⟩
def dPar(i j:Nat)(m:M (List D)):Sd:=dM m λds ρ=>match ds with
 | [d,d']=>ZZ (.nx,bZ (bZ ρ i (.val d)) j (.val d'))
 |_=>ZY
theorem axa{i j:Nat}{x y:Str}{px py pt:Pos}{kt k2 pt2}{m:M (List D)}(hc:X.calm=ZX)(hN:X.N.Nodup)(hi:X.N[i]? = ZZ x)(hj:X.N[j]? = ZZ y)(hij:i≠j)
  (hx:X.env.scope.names.lookup x=ZZ .local) (hy:X.env.scope.names.lookup y=ZZ .local) (h:ED K X [a,b] m)
  (hw:swappedStores [.Tuple [.Name x px,.Name y py] kt pt] (.Tuple [a,b] k2 pt2) X.env=pure (ZZ [x,y]):=by rfl)
  (hs:swapsWithSole [.Tuple [.Name x px,.Name y py] kt pt] (.Tuple [a,b] k2 pt2) pos.line X.env=pure ZW:=by rfl) :
  SV K X (.Assign [.Tuple [.Name x px,.Name y py] kt pt] (.Tuple [a,b] k2 pt2) pos) (dPar i j m):=SV.mk λhk=>PS.imp (a2g hc hN hi hj hij hx hy (h hk) hw hs) λE σ H ⟨tg,F,ρ,fl,ρ',G,em,q⟩=>my em q λds ρ1 e1 em=>by
 refine⟨tg,F,ρ,ds,ρ1,G,e1,λvs H' F' G' x r=>?_⟩
 match ds,em with
 | [d,d'],em=>
  cases em;cases r with
  | @cons _ v _ _ h1 r=>
   cases r with
   | @cons _ v' _ _ h2 r=>
    cases r;obtain⟨G2,x2⟩:=G'.storeV i h1;obtain⟨G3,x3⟩:=G2.storeV j h2;exact⟨v,v',rfl,q _ H' F' G3 ((x.trans x2).trans x3)⟩
def Good.mut{tg:Nat->aQ}{F H:Hp}{ρ:Ro}{σ:L2.St}(G:Good K tg F H ρ σ){i:Nat}{t:Option Nat}{l l':List D}{a:aQ}{ys:List V}(e:(ρ:List Sl)[i]? = ZZ (.own t l))(q:σ[i]? = ZZ (ZZ (.ref a)))(h:IsL K F l' ys) :
  Good K tg F (upd H a (.lst ys)) (bZ ρ i (.own t l')) σ/\Ext (Own ρ σ) (Own (bZ ρ i (.own t l')) σ) F H F (upd H a (.lst ys)):=by
 obtain⟨a',vs,e1,hf,hh,hl,ht⟩:=G.sl i _ _ e q;cases e1;have ow:∀j b,Owns (bZ ρ i (.own t l')) σ j b->Owns ρ σ j b:=λj b ⟨⟨t2,l2,e2⟩,q2⟩=>by
  rw[bJ] at e2
  by_cases hj:i=j
  ·subst hj;exact⟨⟨t,l,e⟩,q2⟩
  ·rw[if_neg hj] at e2;exact⟨⟨t2,l2,e2⟩,q2⟩
 have me:Own ρ σ a:=⟨i,⟨t,l,e⟩,q⟩;refine⟨⟨λb o z=>?_,by rw[cC];exact G.len,λj s o e2 q2=>?_,λj k b w1 w2=>G.inj j k b (ow _ _ w1) (ow _ _ w2)⟩,Same.refl F,λ_ _ z=>.inl z,λb o z n=>?_,λb ⟨j,w⟩=>.inl ⟨j,ow j b w⟩,λb z=>?_⟩
 ·have hb:b≠a:=λz2=>by
   subst z2;rw[hf] at z;cases z
  rw[b7 hb];exact G.sub b o z
 ·rw[bJ] at e2
  by_cases hj:i=j
  ·subst hj;rw[if_pos rfl] at e2;split at e2
   ·cases e2;rw[q] at q2;cases q2;exact⟨a,ys,rfl,hf,gk,h,ht⟩
   ·cases e2
  ·rw[if_neg hj] at e2;have z:=G.sl j s o e2 q2;cases s with
   |emp=>trivial
   |val d=>exact z
   |box c fs=>
    obtain⟨b,C,dx,fvs,e1,e2,e3,e4⟩:=z;have hb:b≠a:=λz2=>by
     subst z2;rw[e3] at hh;cases hh
    exact⟨b,C,dx,fvs,e1,e2,by rw[b7 hb];exact e3,e4⟩
   |own t2 l2=>
    obtain⟨b,ws,e3,hf3,hh3,hl3,ht3⟩:=z;have hb:b≠a:=λz2=>by
     subst z2;exact hj (G.inj i j b ⟨⟨t,l,e⟩,q⟩ ⟨⟨t2,l2,e2⟩,by rw[q2,e3]⟩)
    exact⟨b,ws,e3,hf3,by rw[b7 hb];exact hh3,hl3,ht3⟩
 ·have hb:b≠a:=λz2=>n (z2▸me)
  rw[b7 hb];exact z
 ·by_cases hb:b=a
  ·subst hb;rw[gk] at z;cases z
  ·rw[b7 hb] at z;exact z
def mOwn(i:Nat):M (List D):=λρ=>match ρ[i]? with
 |some (.own _ l)=>ZZ (.ok l,ρ)
 |_=>ZY
def acs{tg:Nat->aQ}{F H:Hp}{ρ ρ':Ro}{σ:L2.St}(G:Good K tg F H ρ σ){i:Nat}{l:List D}(em:mOwn i ρ=ZZ (.ok l,ρ')):ρ'=ρ/\∃t a xs,(ρ:List Sl)[i]? = ZZ (.own t l)/\σ[i]? = ZZ (ZZ (.ref a))/\H a=ZZ (.lst xs)/\IsL K F l xs:=by
 unfold mOwn at em;split at em
 ·rename_i t l' e';cases em;obtain⟨o,ho,a,vs,rfl,hf,hh,hl,_⟩:=G.at e';exact⟨rfl,t,a,vs,e',ho,hh,hl⟩
 ·cases em
def abw(i:Nat)(l':List D):M Unit:=λρ=>match ρ[i]? with
 |some (.own t _)=>ZZ (.ok (),bZ ρ i (.own t l'))
 |_=>ZY
def mMut(i:Nat)(g:List D->List D->Option (D×List D))(ms:M (List D)):M D:=(mOwn i).bind λ_=>ms.bind λds=>(mOwn i).bind λl=>(lift (g l ds)).bind λr=>(abw i r.2).bind λ_=>ret r.1
def MutD(K:Fg9)(r:V->List V->Hp->VK->Prop)(g:List D->List D->Option (D×List D)):Prop :=
 ∀(F H:Hp) (a:aQ) (xs vs:List V) (l ds:List D) (d:D) (l':List D) (Q:VK),Same F H->H a=ZZ (.lst xs)->xs.length<=capS->IsL K F l xs->IsL K F ds vs->g l ds=ZZ (d,l')->(∀v ys,Is K F d v->IsL K F l' ys->Q v (upd H a (.lst ys)))->r (.ref a) vs H Q
def agu{tg:Nat->aQ}{F H:Hp}{ρ ρ2:Ro}{σ:L2.St}(G:Good K tg F H ρ σ){i:Nat}{l':List D}{u:Unit}{a:aQ}{ys:List V}(e:abw i l' ρ=ZZ (.ok u,ρ2))(q:σ[i]? = ZZ (ZZ (.ref a)))(h:IsL K F l' ys) :
  Good K tg F (upd H a (.lst ys)) ρ2 σ/\Ext (Own ρ σ) (Own ρ2 σ) F H F (upd H a (.lst ys)):=by
 unfold abw at e;split at e
 ·rename_i t l e';cases e;exact G.mut e' q h
 ·cases e
def at3{i:Nat}{name:Str}{id:String}{r:V->List V->Hp->VK->Prop}{g:List D->List D->Option (D×List D)}{ms:M (List D)}{apos cpos:Pos}(hr:MutD K r g)(slot:Slot "list" name id)(hty:typeOf (.builtin id)=pure (.type "method_descriptor"))(hm:MtR X id r)(ho:PE X a (tVar i))(ha:ED K X (e::es) ms)
  (hbase:fQ a name X.env (eval a X.env)=eval a X.env:=by rfl)
  (hfew:((gC cpos (aO (e::es) X.env)).all (λx => !x.1)&&(backToKw cpos (keywordEach [] X.env)).all (λx=>x.1.isSome)
   && decide ((e::es).length+([]:List qG).length+(if ([]:List qG).isEmpty then 0 else 1)<30))=ZX:=by rfl)
  (hline:(apos.endLine==cpos.line)=ZX:=by rfl) (hs:Zc X e es:=by rfl) (hplain:(gC cpos (aO es X.env)).any (·.1)=ZW:=by rfl) :
  EV K X (.Call (.Attribute a name apos) (e::es) [] cpos) (mMut i g ms):=EV.mk λhk=>by
 intro zv s σ H Q I z9;obtain⟨tg,F,ρ,d,ρ',G,em,q⟩:=z9;obtain⟨l0,ρ0,e0,em1⟩:=bf em;obtain⟨ds,ρ1,e1,em2⟩:=bf em1;obtain⟨l,ρ2,e2,em3⟩:=bf em2;obtain⟨x,ρ3,e3,em4⟩:=bf em3;obtain⟨u,ρ4,e4,em5⟩:=bf em4;obtain⟨rfl,rfl⟩:=j6 em5;obtain⟨eg,rfl⟩:=ik e3;obtain⟨rfl,t0,b,xs0,es0,hv,hh0,hl0⟩:=acs G e0;refine av0 (r:=λx vs H Q=>(∀b xs,x=.ref b->H b=ZZ (.lst xs)->xs.length<=capS)->r x vs H Q) oK slot hty (λzv s σ H x xs v us Q I rx rv h=>hm zv s σ H x xs v us Q I rx rv (h λb xs _ hb=>?_)) ho (ha hk) hbase hfew hline hs hplain zv s σ H Q I ?_
 ·obtain⟨z,_⟩:=I.lstM hb;rw[gF] at z;exact z
 refine⟨_,hv,.inl ⟨rfl,_,SqL.of hh0⟩,tg,F,ρ0,ds,ρ1,G,e1,λvs H1 F1 G1 x1 r1 cap=>?_⟩
 obtain⟨rfl,t,a',xs,es',hv',hh,hl⟩:=acs G1 e2;rw[hv] at hv';cases hv';refine hr F1 H1 _ xs vs l ds x.1 x.2 Q G1.sub hh (cap _ _ rfl hh) hl r1 eg λw ys iw il=>?_
 obtain⟨G2,x2⟩:=agu G1 e4 hv il;exact q w _ F1 G2 (x1.trans x2) iw
def ahb(l ds:List D):Option (D×List D):=match ds with
 | [d]=>if l.length<capS then ZZ (.non,l++[d]) else ZY
 |_=>ZY
theorem ae2:MutD K ar6 ahb:=by
 intro F H a xs vs l ds d l' Q g hh hc hl hd eg q
 match ds,eg with
 | [d1],eg=>
  have eg:(if l.length<capS then ZZ (D.non,l++[d1]) else ZY)=ZZ (d,l'):=eg
  split at eg
  ·rename_i hz;cases eg;cases hd with
   |cons h t=>
    cases t;exact⟨a,xs,_,rfl,rfl,hh,by rw[gF,<-hl.length];exact hz,q _ _ .non (hl.append (.cons h .nil))⟩
  ·cases eg
def dSub(i:Nat)(mi m:M D):Sd:=dM m λd=>dM (mOwn i) λ_=>dM mi λk=>dM (mOwn i) λl=>dM (lift ((asI k).bind (ixN l.length))) λj=>dM (abw i (l.set j d)) λ_=>dNx
theorem arj{i:Nat}{mi m:M D}(h:EV K X e m)(ho:PE X a (tVar i))(hi:EV K X b mi)(hs:swapsWithSole [.Subscript a b p] e pos.line X.env=pure ZW:=by rfl)(hw:swappedStores [.Subscript a b p] e X.env=pure ZY:=by rfl)
  (h1:(iT [.Subscript a b p] X.env).map (·.2)=[oU (.Subscript a b p) X.env]:=by rfl)
  (ha:∀v,oU (.Subscript a b p) X.env v=(do
   let ov <-jZ [v] (eval a X.env)
   let iv <-jZ [v,ov] (eval b X.env)
   standAt p
   jZ [v,ov,iv] (setItem ov iv v)
   release [v,ov,iv] []):=by intro _;rfl):SV K X (.Assign [.Subscript a b p] e pos) (dSub i mi m):=SV.mk λhk=>PS.imp (asa (h hk) (axk ho (hi hk) set_list ha) hs hw h1) λE σ H ⟨tg,F,ρ,fl,ρ',G,em,q⟩=>
 my em q λd ρ1 e1 em=>my em q λl0 ρ0 e0 em=>my em q λk ρ2 e2 em=>my em q λl ρ3 e3 em=>my em q λj ρ4 e4 em=>my em q λu ρ5 e5 em=>by
 cases em;obtain⟨e6,rfl⟩:=ik e4;refine⟨tg,F,ρ,d,ρ1,G,e1,λv H1 F1 G1 x1 r1=>?_⟩
 obtain⟨rfl,t0,a0,xs0,es0,hv,hh0,hl0⟩:=acs G1 e0;refine⟨_,hv,tg,F1,_,k,ρ2,G1,e2,λw H2 F2 G2 x2 r2=>?_⟩
 obtain⟨rfl,t,a1,xs,es1,hv',hh,hl⟩:=acs G2 e3;rw[hv] at hv';cases hv';cases ek:asI k with
 |none=>rw[ek] at e6;cases e6
 |some n=>
  rw[ek] at e6;obtain rfl:=afu ek;cases r2;obtain⟨G3,x3⟩:=agu G2 e5 hv (hl.set (r1.mono x2.sub) j);exact⟨_,xs,n,j,rfl,rfl,hh,by rw[<-hl.length];exact e6,q _ _ F2 G3 ((x1.trans x2).trans x3)⟩
end
section
variable{K:Fg9}{X:Cx}{e a b c tgt iter elt:dI}{es:List dI}{pos p p2:Pos}{st:gK}{ss:List gK}
def _root_.Mn.ItOf.imp{J:It}{xs:List V}{S S':Hp->Prop}(Z:ItOf J xs S)(h:∀H,S' H->S H):ItOf J xs S':=⟨λi H q=>Z.go i H (h H q),λi H x H' q=>Z.yld i H x H' (h H q),λi H q=>Z.stop i H (h H q)⟩
def Alt(K:Fg9)(F:Hp)(d:D)(x:V)(H H':Hp):Prop:=(H'=H/\Is K F d x)∨∃q vs ds,H q=ZY/\x=.ref q/\H'=upd H q (.tup vs)/\d=.tup ds/\IsL K F ds vs
structure ItD (K:Fg9) (J:It) (l:List D) (F:Hp):Prop where
 go:∀i H,Same F H->i<l.length->J.go i H
 yld:∀i H x H' d,Same F H->J.yld i H x H'->l[i]? = ZZ d->Alt K F d x H H'
 stop:∀H,Same F H->J.stop l.length H
def ItD.of{J:It}{l:List D}{vs:List V}{F:Hp}(il:IsL K F l vs)(Z:ItOf J vs λH2=>Same F H2):ItD K J l F where
 go:=λi H s hi=>Z.go i H s (by rw[<-il.length];exact hi)
 yld:=λi H x H' d s y hd=>by
  obtain⟨v,hv,iv⟩:=il.get hd;obtain⟨e,z⟩:=Z.yld i H x H' s y;have:=z (aK.mp hv).1;rw[hv] at this;cases this;exact .inl ⟨e,iv⟩
 stop:=λH s=>Z.stop _ H s (by rw[<-il.length];exact aP _)
def akc{tg:Nat->aQ}{O:aQ->Prop}{F H F1 F2 H2 H3:Hp}{ρ2:Ro}{σ2:L2.St}{d:D}{x:V}(G2:Good K tg F2 H2 ρ2 σ2)(x2:Ext O (Own ρ2 σ2) F H F2 H2)(s2:Same F1 F2)(a:Alt K F1 d x H2 H3) :
  ∃F3,Good K tg F3 H3 ρ2 σ2/\Ext O (Own ρ2 σ2) F H F3 H3/\Same F1 F3/\Is K F3 d x/\Ext (Own ρ2 σ2) (Own ρ2 σ2) F2 H2 F3 H3:=by
 rcases a with⟨rfl,id⟩ |⟨q,vs,ds,hq,rfl,rfl,rfl,il⟩
 ·exact⟨F2,G2,x2,s2,id.mono s2,Ext.refl _ _ _⟩
 ·have z:=G2.newX hq (.tup vs);exact⟨_,G2.new hq _,x2.trans z,s2.trans z.sub,.tup gk (il.mono (s2.trans z.sub)),z⟩
def atr{J:It}{l:List D}{F:Hp}(Z:ItD K J l F){g:TG}{tb:TS}{D':Ends}{σ:L2.St}{H:Hp}(Pv:Nat->L2.St->Hp->Prop)(h0:Pv 0 σ H)(hl:∀i σ H,i<=l.length->Pv i σ H->Same F H)
  (hs:∀i d x σ H H',l[i]? = ZZ d->Pv i σ H->Alt K F d x H H'->g x σ H' λσ2 H2=>tb { D' with nx:=Pv (i+1),ct:=Pv (i+1),bk:=D'.nx } σ2 H2) (hd:∀σ H,Pv l.length σ H->D'.nx σ H) :
  ∃W:Nat->Nat->L2.St->Hp->Prop,(∃m,W 0 m σ H)/\∀i m σ H,W i m σ H ->
   (J.stop i H/\D'.nx σ H)∨(J.go i H/\∃N:L2.St->Hp->Prop,(∀σ' H',N σ' H'->∃m',m'<m/\W (i+1) m' σ' H')/\∀x H',J.yld i H x H'->g x σ H' λσ2 H2=>tb { D' with nx:=N,ct:=N,bk:=D'.nx } σ2 H2):=by
 refine⟨λi m σ H=>m=l.length-i/\i<=l.length/\Pv i σ H,⟨l.length,by simp,dN _,h0⟩,?_⟩
 rintro i m σ H ⟨rfl,hi,p⟩
 have q:=hl i σ H hi p
 by_cases hlt:i<l.length
 ·exact .inr ⟨Z.go i H q hlt,Pv (i+1),λσ' H' p'=>⟨l.length-(i+1),by omega,rfl,hlt,p'⟩,λx H' y=>hs i _ x σ H H' (aF hlt) p (Z.yld i H x H' _ q y (aF hlt))⟩
 ·have e:i=l.length:=by omega
  subst e;exact .inl ⟨Z.stop H q,hd σ H p⟩
def aw0{J:It}{l:List D}{F:Hp}(Z:ItD K J l F){d:aQ}{g:TG}{ti:TT}{te:TE}{Q:VK}{σ0:L2.St}{H1:Hp}(Pv:Nat->List V->L2.St->Hp->Prop)(h0:Pv 0 [] σ0 (upd H1 d (.lst [])))
  (hl:∀i ys σ H,i<=l.length->Pv i ys σ H->Same F H/\H d=ZZ (.lst ys))
  (hs:∀i e x ys σ H H' (M:List V->L2.St->Hp->Prop),l[i]? = ZZ e->Pv i ys σ H->Alt K F e x H H'->(∀ys' σ' H',Pv (i+1) ys' σ' H'->M ys' σ' H') ->
   g x σ H' λσ4 H4=>ti σ4 H4 λb H5=>if b=ZX then te σ4 H5 λy H6=>H6 d=ZZ (.lst ys)/\ys.length<cJ/\M (ys++[y]) σ4 (upd H6 d (.lst (ys++[y]))) else M ys σ4 H5)
  (hd:∀ys σ H,Pv l.length ys σ H->Q (.ref d) H):a5k J g ti te Q d σ0 H1:=by
 refine⟨λi m ys σ H=>m=l.length-i/\i<=l.length/\Pv i ys σ H,⟨l.length,by simp,dN _,h0⟩,?_⟩
 rintro i m ys σ H ⟨rfl,hi,p⟩
 obtain⟨q,e⟩:=hl i ys σ H hi p;refine⟨e,?_⟩
 by_cases hlt:i<l.length
 ·exact .inr ⟨Z.go i H q hlt,λx H' y=>hs i _ x ys σ H H' (λys' σ' H'=>∃m',m'<l.length-i/\(m'=l.length-(i+1)/\i+1<=l.length/\Pv (i+1) ys' σ' H')) (aF hlt) p (Z.yld i H x H' _ q y (aF hlt)) λys' σ' H' p'=>⟨l.length-(i+1),by omega,rfl,hlt,p'⟩⟩
 ·have e:i=l.length:=by omega
  subst e;exact .inl ⟨Z.stop H q,hd ys σ H p⟩
def TIt(K:Fg9)(m:M (List D)):TI:=λσ H R=>∃tg F ρ l ρ',Good K tg F H ρ σ/\m ρ=ZZ (.ok l,ρ')/\∀J H' F',Good K tg F' H' ρ' σ->Ext (Own ρ σ) (Own ρ' σ) F H F' H'->ItD K J l F'->R J H'
structure IT (K:Fg9) (X:Cx) (tgt iter:dI) (m:M (List D)):Prop where
 go:X.K=K->PI X tgt iter (TIt K m)
instance {K:Fg9} {X:Cx} {tgt iter:dI} {m:M (List D)}:CoeFun (IT K X tgt iter m) λ_=>X.K=K->PI X tgt iter (TIt K m):=⟨IT.go⟩
def aam(m:M D):M (List D):=m.bind λd=>lift (itemsD d)
theorem abg{m:M D}(h:EV K X iter m):IT K X tgt iter (aam m):=IT.mk λhk=>by
 intro zv s σ H R I z9;obtain⟨tg,F,ρ,l,ρ',G,em,q⟩:=z9;obtain⟨d,ρ1,e1,em⟩:=bf em;obtain⟨e2,rfl⟩:=ik em;have h:=h hk;subst hk;cases d with
 |tup k=>
  cases e2;refine a2i h zv s σ H R I ⟨tg,F,ρ,_,_,G,e1,λv H' F' G' x r=>?_⟩
  cases r with
  | @tup a vs _ e hl=>exact⟨a,rfl,⟨vs,SqT.of (G'.sub _ _ e)⟩,q _ H' F' G' x (.of hl (awl.imp λH2 g=>SqT.of (g _ _ e)))⟩
 |lst k=>
  cases e2;refine ash h zv s σ H R I ⟨tg,F,ρ,_,_,G,e1,λv H' F' G' x r=>?_⟩
  cases r with
  | @lst a vs _ e hl=>exact⟨a,rfl,⟨vs,SqL.of (G'.sub _ _ e)⟩,q _ H' F' G' x (.of hl (aov.imp λH2 g=>SqL.of (g _ _ e)))⟩
 |kst k=>
  cases e2;refine ash h zv s σ H R I ⟨tg,F,ρ,_,_,G,e1,λv H' F' G' x r=>?_⟩
  cases r with
  | @kst a vs _ e hl=>exact⟨a,rfl,⟨vs,L2.Same.seq G'.sub e⟩,q _ H' F' G' x (.of hl (aov.imp λH2 g=>L2.Same.seq g e))⟩
 |_=>cases e2
def lu(lo:Int)(n:Nat):List D:=(bW n).map λi=>D.int (lo+(i:Nat))
def aoi{F:Hp}(lo:Int)(n:Nat):IsL K F (lu lo n) (ups lo n):=by
 have e1:lu lo n=((bW n).map λi=>lo+((i:Nat):Int)).map D.int:=by unfold lu;rw[jM];rfl
 have e2:ups lo n=((bW n).map λi=>lo+((i:Nat):Int)).map V.int:=by unfold ups;rw[jM];rfl
 rw[e1,e2];exact af4 _
def a5h{j:Int}(h:j.natAbs<4611686018427387904) : -2 ^ 62<=j/\j<2 ^ 62:=by
 have e:(2:Int) ^ 62=4611686018427387904:=by decide
 rw[e];omega
def vo:List D->Option (List D)
 | [.int j]=>if j.natAbs<4611686018427387904 then ZZ (lu 0 j.toNat) else ZY
 |_=>ZY
def mGet{α β:Type}(g:α->Option β)(m:M α):M β:=m.bind λds=>lift (g ds)
def yr{m:M (List D)}(hg:Gl X "range")(hm:X.mg "range"=ZY)(h:ED K X [a] m)(hs:aO [a] X.env=[(ZW,eval a X.env)]:=by rfl):IT K X tgt (.Call (.Name "range" p) [a] [] pos) (mGet vo m):=IT.mk λhk=>by
 intro zv s σ H R I z9;obtain⟨tg,F,ρ,l,ρ',G,em,q⟩:=z9;obtain⟨ds,ρ1,e1,em⟩:=bf em;obtain⟨e2,rfl⟩:=ik em;refine asf hg hm (h hk) hs zv s σ H R I ⟨tg,F,ρ,ds,_,G,e1,λvs H' F' G' x r=>?_⟩
 unfold vo at e2;split at e2
 ·split at e2
  ·rename_i j hc;cases e2;cases r with
   |cons h t=>
    cases t;cases h;exact⟨_,rfl,(a5h hc).1,(a5h hc).2,q _ H' F' G' x (.of (aoi 0 _) (awm.imp λ_ _=>trivial))⟩
  ·cases e2
 ·cases e2
noncomputable def forD(b:D->Ro->Option Ro)(g:Sd):List D->Sd
 | [],ρ=>ZZ (.nx,ρ)
 |d::ds,ρ=>match b d ρ with
  |none=>ZY
  |some ρ1=>match g ρ1 with
   |some (.nx,ρ2)=>forD b g ds ρ2
   |some (.cont,ρ2)=>forD b g ds ρ2
   |some (.brk,ρ2)=>ZZ (.nx,ρ2)
   |some (.ret r,ρ2)=>ZZ (.ret r,ρ2)
   |some (.exc x,ρ2)=>ZZ (.exc x,ρ2)
   |none=>ZY
def dFor(m:M (List D))(b:D->Ro->Option Ro)(g:Sd):Sd:=dM m (forD b g)
def abd{m:M (List D)}{b:D->Ro->Option Ro}{g:Sd}(hp:sI (bL X.prog X.w) X.A X.env X.xe)(hc:X.calm=ZX)(hi:IT K X tgt iter m)(hg:GV K X tgt b)(hb:SVs K X ss g)
  (hs:∀x,foldedSetIterable iter X.env x=pure x:=by intro _;rfl):SV K X (.For tgt iter ss [] pos) (dFor m b g):=SV.mk λhk=>PS.imp (axj hp hc (hi hk) (hg hk) (hb hk) hs) λE σ H ⟨tg,F,ρ,fl,ρ',G,em,q⟩=>my em q λl ρ1 e1 em=>by
 refine⟨tg,F,ρ,l,ρ1,G,e1,λJ H1 F1 G1 x1 Z=>?_⟩
 refine atr Z (λi σ2 H2=>∃F2 ρ2,Good K tg F2 H2 ρ2 σ2/\Ext (Own ρ σ) (Own ρ2 σ2) F H F2 H2/\Same F1 F2/\forD b g (l.drop i) ρ2=ZZ (fl,ρ')) ⟨F1,ρ1,G1,x1,Same.refl _,em⟩ (λi σ2 H2 _ ⟨F2,ρ2,G2,_,s2,_⟩=>s2.trans G2.sub) ?_ ?_
 ·rintro i d x σ2 H2' H2 hd ⟨F2',ρ2,G2',x2',s2',em2⟩ al
  obtain⟨F2,G2,x2,s2,id,_⟩:=akc G2' x2' s2' al;have hlt:i<l.length:=(aK.mp hd).1;have ed:l[i]=d:=(aK.mp hd).2;rw[kI hlt,ed] at em2;unfold forD at em2;split at em2
  ·cases em2
  ·rename_i ρ3 e3;refine⟨tg,F2,ρ2,d,ρ3,G2,id,e3,λσ3 H3 F3 G3 x3=>?_⟩
   have again:∀{ρ4:Ro},forD b g (l.drop (i+1)) ρ4=ZZ (fl,ρ')->∀σ' H' F',Good K tg F' H' ρ4 σ'->Ext (Own ρ3 σ3) (Own ρ4 σ') F3 H3 F' H' ->
     ∃F2 ρ2,Good K tg F2 H' ρ2 σ'/\Ext (Own ρ σ) (Own ρ2 σ') F H F2 H'/\Same F1 F2/\forD b g (l.drop (i+1)) ρ2=ZZ (fl,ρ') :=
    λ{ρ4} e4 σ' H' F' G' x'=>⟨F',ρ4,G',(x2.trans x3).trans x',(s2.trans x3.sub).trans x'.sub,e4⟩
   split at em2
   ·rename_i ρ4 e4;exact⟨tg,F3,ρ3,.nx,ρ4,G3,e4,again em2⟩
   ·rename_i ρ4 e4;exact⟨tg,F3,ρ3,.cont,ρ4,G3,e4,again em2⟩
   ·rename_i ρ4 e4;cases em2;exact⟨tg,F3,ρ3,.brk,_,G3,e4,λσ' H' F' G' x'=>q σ' H' F' G' ((x2.trans x3).trans x')⟩
   ·rename_i r ρ4 e4;cases em2;exact⟨tg,F3,ρ3,.ret r,_,G3,e4,λv σ' H' F' G' x' rr=>q v σ' H' F' G' ((x2.trans x3).trans x') (lr (x2.trans x3) rr)⟩
   ·cases em2;exact(show False from q).elim
   ·cases em2
 ·rintro σ2 H2 ⟨F2,ρ2,G2,x2,s2,em2⟩
  rw[pC (aP _)] at em2;cases em2;exact q σ2 H2 F2 G2 x2
noncomputable def whileD(c:M Bool)(g:Sd):Nat->Sd
 | 0,_=>ZY
 |n+1,ρ=>match c ρ with
  |some (.ok ZX,ρ1)=>match g ρ1 with
   |some (.nx,ρ2)=>whileD c g n ρ2
   |some (.cont,ρ2)=>whileD c g n ρ2
   |some (.brk,ρ2)=>ZZ (.nx,ρ2)
   |some (.ret r,ρ2)=>ZZ (.ret r,ρ2)
   |some (.exc x,ρ2)=>ZZ (.exc x,ρ2)
   |none=>ZY
  |some (.ok ZW,ρ1)=>ZZ (.nx,ρ1)
  |some (.exc x,ρ1)=>ZZ (.exc x,ρ1)
  |none=>ZY
theorem af2{m:M Bool}{g:Sd}(n:Nat)(hp:sI (bL X.prog X.w) X.A X.env X.xe)(hc:ET K X c m)(hb:SVs K X ss g):SV K X (.While c ss [] pos) (whileD m g n):=SV.mk λhk=>PS.imp (avt hp (hc hk) (hb hk)) λE σ H z9=>by
 obtain⟨tg,F,ρ,fl,ρ',G,em,q⟩:=z9;refine⟨λk σ2 H2=>∃F2 ρ2,Good K tg F2 H2 ρ2 σ2/\Ext (Own ρ σ) (Own ρ2 σ2) F H F2 H2/\whileD m g k ρ2=ZZ (fl,ρ'),⟨n,F,ρ,G,Ext.refl _ _ _,em⟩,?_⟩
 rintro k σ2 H2 ⟨F2,ρ2,G2,x2,em2⟩
 cases k with
 |zero=>cases em2
 |succ k=>
  unfold whileD at em2;split at em2
  ·rename_i ρ3 e3;refine⟨tg,F2,ρ2,ZX,ρ3,G2,e3,λH3 F3 G3 x3=>iteT ?_⟩
   refine⟨λσ' H'=>∃F2 ρ2,Good K tg F2 H' ρ2 σ'/\Ext (Own ρ σ) (Own ρ2 σ') F H F2 H'/\whileD m g k ρ2=ZZ (fl,ρ'),λσ' H' h=>⟨k,jE k,h⟩,?_⟩
   split at em2
   ·rename_i ρ4 e4;exact⟨tg,F3,ρ3,.nx,ρ4,G3,e4,λσ' H' F' G' x'=>⟨F',ρ4,G',(x2.trans x3).trans x',em2⟩⟩
   ·rename_i ρ4 e4;exact⟨tg,F3,ρ3,.cont,ρ4,G3,e4,λσ' H' F' G' x'=>⟨F',ρ4,G',(x2.trans x3).trans x',em2⟩⟩
   ·rename_i ρ4 e4;cases em2;exact⟨tg,F3,ρ3,.brk,_,G3,e4,λσ' H' F' G' x'=>q σ' H' F' G' ((x2.trans x3).trans x')⟩
   ·rename_i r ρ4 e4;cases em2;exact⟨tg,F3,ρ3,.ret r,_,G3,e4,λv σ' H' F' G' x' rr=>q v σ' H' F' G' ((x2.trans x3).trans x') (lr (x2.trans x3) rr)⟩
   ·cases em2;exact(show False from q).elim
   ·cases em2
  ·rename_i ρ3 e3;cases em2;exact⟨tg,F2,ρ2,ZW,_,G2,e3,λH3 F3 G3 x3=>iteF (q σ2 H3 F3 G3 (x2.trans x3))⟩
  ·cases em2;exact(show False from q).elim
  ·cases em2
end
def agy(ρ:Ro)(i:Nat)(o:Option Nat)(d:Option D):Sl:=match o with
 |some j=>match ρ[j]? with
  |some (.val d)=>.val d
  |some (.own _ l)=>.own (ZZ i) l
  |_=>.emp
 |none=>match d with
  |some d=>.val d
  |none=>.emp
def lend(ρ:Ro)(js:List (Option Nat))(ds:List (Option D)):Ro:=(rQ js ds).mapIdx λi p=>agy ρ i p.1 p.2
noncomputable def okJs(ρ:Ro):List (Option Nat)->Bool
 | []=>ZX
 |none::r=>okJs ρ r
 |some j::r=>(match ρ[j]? with
  |some (.own _ _) => !r.contains (ZZ j)
  |_=>ZX)&&okJs ρ r
theorem ajr{ρ:Ro}:∀{js:List (Option Nat)} {i i' j:Nat} {t:Option Nat} {l:List D},okJs ρ js=ZX->js[i]? = ZZ (ZZ j)->js[i']? = ZZ (ZZ j)->ρ[j]? = ZZ (.own t l)->i=i'
 | [],_,_,_,_,_,_,h,_,_=>by simp at h
 |o::r,0,0,_,_,_,_,_,_,_=>rfl
 |o::r,0,i'+1,j,t,l,hk,h,h',e=>by
  simp at h h';subst h;unfold okJs at hk;rw[e,bB] at hk;have:=cT h';simp[this] at hk
 |o::r,i+1,0,j,t,l,hk,h,h',e=>by
  simp at h h';subst h';unfold okJs at hk;rw[e,bB] at hk;have:=cT h;simp[this] at hk
 |none::r,i+1,i'+1,j,t,l,hk,h,h',e=>by
  rw[ajr (js:=r) (i:=i) (i':=i') (j:=j) (by unfold okJs at hk;exact hk) (by simpa using h) (by simpa using h') e]
 |some k::r,i+1,i'+1,j,t,l,hk,h,h',e=>by
  unfold okJs at hk;rw[bB] at hk;rw[ajr (js:=r) (i:=i) (i':=i') (j:=j) hk.2 (by simpa using h) (by simpa using h') e]
def putS(js:List (Option Nat))(ps:Ro)(j:Nat)(s:Sl):Sl:=match js.findIdx? (λo=>o==ZZ j) with
 |none=>s
 |some i=>match s with
  |.own t _=>match ps[i]? with
   |some (.own (ZZ i') l')=>if i'=i then .own t l' else .emp
   |_=>.emp
  |s=>s
def putB(ρ:Ro)(js:List (Option Nat))(ps:Ro):Ro:=ρ.mapIdx λj s=>putS js ps j s
noncomputable def tgOf(τ:L2.St)(i:Nat):aQ:=match τ[i]? with
 |some (ZZ (.ref a))=>a
 |_=>0
section
variable{K:Fg9}{tg:Nat->aQ}{F H F' H':Hp}{ρ ps:Ro}{σ τ:L2.St}{js:List (Option Nat)}{ds:List (Option D)}{O':aQ->Prop}
theorem aos{i:Nat}{s:Sl}(h:(lend ρ js ds:List Sl)[i]? = ZZ s):∃o d,js[i]? = ZZ o/\ds[i]? = ZZ d/\s=agy ρ i o d:=by
 unfold lend at h;rw[mF] at h;cases e:(rQ js ds)[i]? with
 |none=>rw[e] at h;cases h
 |some p=>
  rw[e] at h;cases h;rw[iK] at e;exact⟨p.1,p.2,e.1,e.2,rfl⟩
theorem awf{i:Nat}{t:Option Nat}{l:List D}(h:(lend ρ js ds:List Sl)[i]? = ZZ (.own t l)):∃j t',js[i]? = ZZ (ZZ j)/\ρ[j]? = ZZ (.own t' l)/\t=ZZ i:=by
 obtain⟨o,d,e1,e2,e3⟩:=aos h;unfold agy at e3;cases o with
 |none=>cases d <;> cases e3
 |some j=>
  simp only at e3;cases e:ρ[j]? with
  |none=>rw[e] at e3;cases e3
  |some s=>
   rw[e] at e3;cases s with
   |emp=>cases e3
   |val _=>cases e3
   |box _ _=>cases e3
   |own t' l'=>cases e3;exact⟨j,t',e1,e,rfl⟩
structure Lent (K:Fg9) (F:Hp) (σ τ:L2.St) (js:List (Option Nat)) (ds:List (Option D)):Prop where
 l1:τ.length=js.length
 l2:ds.length=js.length
 h1:∀(i j:Nat) (o:Option V),js[i]? = ZZ (ZZ j)->σ[j]? = ZZ o->τ[i]? = ZZ o
 h2:∀(i:Nat) (d:D),js[i]? = ZZ ZY->ds[i]? = ZZ (ZZ d)->∃v,τ[i]? = ZZ (ZZ v)/\Is K F d v
def Good.σ_at(G:Good K tg F H ρ σ){j:Nat}{s:Sl}(e:(ρ:List Sl)[j]? = ZZ s):∃o,σ[j]? = ZZ o:=by
 obtain⟨o,h,_⟩:=G.at e;exact⟨o,h⟩
def acj(G:Good K tg F H ρ σ)(L:Lent K F σ τ js ds){i:Nat}{a:aQ}(h:Owns (lend ρ js ds) τ i a):∃j,js[i]? = ZZ (ZZ j)/\Owns ρ σ j a:=by
 obtain⟨⟨t,l,e⟩,q⟩:=h;obtain⟨j,t',e1,e2,_⟩:=awf e;obtain⟨o,ho⟩:=G.σ_at e2;have:=L.h1 i j o e1 ho;rw[q] at this;cases this;exact⟨j,e1,⟨t',l,e2⟩,ho⟩
def wu(G:Good K tg F H ρ σ)(hk:okJs ρ js=ZX)(L:Lent K F σ τ js ds):Good K (tgOf τ) F H (lend ρ js ds) τ where
 sub:=G.sub
 len:=by
  unfold lend;rw[wD,mV,L.l2,L.l1];omega
 sl:=λi s o e q=>by
  obtain⟨oj,d,e1,e2,rfl⟩:=aos e;unfold agy;cases oj with
  |none=>
   cases d with
   |none=>trivial
   |some d=>
    obtain⟨v,h1,h2⟩:=L.h2 i d e1 e2;rw[q] at h1;cases h1;exact⟨v,rfl,h2⟩
  |some j=>
   simp only;cases e3:ρ[j]? with
   |none=>trivial
   |some s=>
    obtain⟨o',ho,w⟩:=G.at e3;have:=L.h1 i j o' e1 ho;rw[q] at this;cases this;cases s with
    |emp=>trivial
    |val d=>exact w
    |box _ _=>trivial
    |own t l=>
     obtain⟨a,vs,rfl,hf,hh,hl,_⟩:=w;refine⟨a,vs,rfl,hf,hh,hl,λk e=>?_⟩
     cases e;unfold tgOf;rw[q]
 inj:=λi i' a w w'=>by
  obtain⟨j,e,v⟩:=acj G L w;obtain⟨j',e',v'⟩:=acj G L w';have:=G.inj j j' a v v';subst this;obtain⟨⟨t,l,z⟩,_⟩:=v;exact ajr hk e e' z
structure Fin (K:Fg9) (F' H':Hp) (τ:L2.St) (ps:Ro) (O':aQ->Prop):Prop where
 at':∀(i:Nat) (l:List D),(ps:List Sl)[i]? = ZZ (.own (ZZ i) l)->O' (tgOf τ i)/\F' (tgOf τ i)=ZY/\∃vs,H' (tgOf τ i)=ZZ (.lst vs)/\IsL K F' l vs
theorem ajf{j:Nat}{s:Sl}(h:(putB ρ js ps:List Sl)[j]? = ZZ s):∃s0:Sl,(ρ:List Sl)[j]? = ZZ s0/\((∃t l,s0=Sl.own t l/\∃i:Nat,js[i]? = ZZ (ZZ j)/\((∃l',(ps:List Sl)[i]? = ZZ (Sl.own (ZZ i) l')/\s=Sl.own t l')∨s=Sl.emp)) ∨
  (s=s0/\∀t l,s0=Sl.own t l->∀i:Nat,js[i]? ≠ ZZ (ZZ j))):=by
 unfold putB at h;rw[mF] at h;cases e:(ρ:List Sl)[j]? with
 |none=>rw[e] at h;cases h
 |some s0=>
  rw[e] at h;refine⟨s0,rfl,?_⟩;have h:putS js ps j s0=s:=cN h;unfold putS at h;cases ei:js.findIdx? (λo=>o==ZZ j) with
  |none=>
   rw[ei] at h;have h:s0=s:=h;refine .inr ⟨h.symm,λ_ _ _ i z=>?_⟩
   rw[nP] at ei;have:=ei _ (cT z);simp at this
  |some i=>
   rw[ei] at h;cases s0 with
   |emp=>exact .inr ⟨(show Sl.emp=s from h).symm,λt l z=>by cases z⟩
   |val d=>exact .inr ⟨(show Sl.val d=s from h).symm,λt l z=>by cases z⟩
   |box c fs=>exact .inr ⟨(show Sl.box c fs=s from h).symm,λt l z=>by cases z⟩
   |own t l=>
    refine .inl ⟨t,l,rfl,i,?_,?_⟩
    ·obtain⟨hi,hb,_⟩:=lK.mp ei;rw[aF hi];exact congrArg ZZ (eq_of_beq hb)
    ·have h:(match (ps:List Sl)[i]? with
      |some (.own (ZZ i') l')=>if i'=i then Sl.own t l' else .emp
      |_=>.emp)=s:=h
     cases ep:(ps:List Sl)[i]? with
     |none=>rw[ep] at h;exact .inr h.symm
     |some sp=>
      rw[ep] at h;cases sp with
      |emp=>exact .inr h.symm
      |val _=>exact .inr h.symm
      |box _ _=>exact .inr h.symm
      |own t' l'=>
       cases t' with
       |none=>exact .inr h.symm
       |some i'=>
        have h2:(if i'=i then Sl.own t l' else .emp)=s:=h
        by_cases z:i'=i
        ·subst z;rw[if_pos rfl] at h2;exact .inl ⟨l',rfl,h2.symm⟩
        ·rw[if_neg z] at h2;exact .inr h2.symm
def aco{j:Nat}{a:aQ}(h:Owns (putB ρ js ps) σ j a):Owns ρ σ j a:=by
 obtain⟨⟨t,l,e⟩,q⟩:=h;obtain⟨s0,e0,h |⟨rfl,_⟩⟩:=ajf e
 ·obtain⟨t',l',rfl,i,_,⟨l2,_,z⟩ |z⟩:=h
  ·exact⟨⟨t',l',e0⟩,q⟩
  ·cases z
 ·exact⟨⟨t,l,e0⟩,q⟩
def zb(G:Good K tg F H ρ σ)(L:Lent K F σ τ js ds)(x:Ext (Own (lend ρ js ds) τ) O' F H F' H')(s':Same F' H')(fin:Fin K F' H' τ ps O'):Good K tg F' H' (putB ρ js ps) σ where
 sub:=s'
 len:=by
  unfold putB;rw[wD];exact G.len
 sl:=λj s o e q=>by
  obtain⟨s0,e0,h |⟨rfl,hn⟩⟩:=ajf e
  ·obtain⟨t,l,rfl,i,ei,⟨l',ep,rfl⟩ |rfl⟩:=h
   ·obtain⟨a,vs,rfl,hf,hh,hl,ht⟩:=G.sl j _ _ e0 q;obtain⟨_,hf',ws,hh',hl'⟩:=fin.at' i l' ep;have:=L.h1 i j _ ei q;have et:tgOf τ i=a:=by
     unfold tgOf;rw[this]
    rw[et] at hf' hh';exact⟨a,ws,rfl,hf',hh',hl',ht⟩
   ·trivial
  ·have w:=G.sl j _ _ e0 q;cases s with
   |emp=>trivial
   |val d=>
    obtain⟨v,h1,h2⟩:=w;exact⟨v,h1,h2.mono x.sub⟩
   |box c fs=>
    obtain⟨a,C,dx,fvs,e1,e2,e3,e4,e7,e5,e6⟩:=w;have no:¬Own (lend ρ js ds) τ a:=λ⟨i,z⟩=>by
     obtain⟨j',_,v⟩:=acj G L z;obtain⟨_,vs,hv⟩:=G.ownAt ⟨j',v⟩;rw[e3] at hv;cases hv
    have hf:F' a=ZY:=by
     cases z:F' a with
     |none=>rfl
     |some o=>
      rcases x.new a o z with z |z |z
      ·rw[e2] at z;cases z
      ·rw[e3] at z;cases z
      ·exact absurd z no
    exact⟨a,C,dx,fvs,e1,hf,x.keep a _ e3 no,e4,e7,e5,λf d h=>(e6 f d h).imp λv h=>⟨h.1,h.2.mono x.sub⟩⟩
   |own t l=>
    obtain⟨a,vs,rfl,hf,hh,hl,ht⟩:=w;have no:¬Own (lend ρ js ds) τ a:=λ⟨i,z⟩=>by
     obtain⟨j',e1,v⟩:=acj G L z;have:=G.inj j' j a v ⟨⟨t,l,e0⟩,q⟩;subst this;exact hn t l rfl i e1
    refine⟨a,vs,rfl,?_,x.keep a _ hh no,hl.mono x.sub,ht⟩;cases z:F' a with
    |none=>rfl
    |some o=>
     rcases x.new a o z with z |z |z
     ·rw[hf] at z;cases z
     ·rw[hh] at z;cases z
     ·exact absurd z no
 inj:=λi j a w w'=>G.inj i j a (aco w) (aco w')
def aa2(G:Good K tg F H ρ σ)(L:Lent K F σ τ js ds){a:aQ}(h:Own (lend ρ js ds) τ a):Own ρ σ a:=by
 obtain⟨i,h⟩:=h;obtain⟨j,_,h⟩:=acj G L h;exact⟨j,h⟩
def aba(G:Good K tg F H ρ σ)(L:Lent K F σ τ js ds)(x:Ext (Own (lend ρ js ds) τ) O' F H F' H'):Ext (Own ρ σ) (Own (putB ρ js ps) σ) F H F' H' where
 sub:=x.sub
 new:=λa o e=>by
  rcases x.new a o e with z |z |z
  ·exact .inl z
  ·exact .inr (.inl z)
  ·exact .inr (.inr (aa2 G L z))
 keep:=λa o e n=>x.keep a o e λz=>n (aa2 G L z)
 own:=λa ⟨j,w⟩=>.inl ⟨j,aco w⟩
 there:=x.there
def auw(G:Good K tg F H ρ σ)(L:Lent K F σ τ js ds)(fin:Fin K F' H' τ ps O'){a:aQ}(ha:H a=ZY∨Own (lend ρ js ds) τ a)(hn:¬O' a):¬Own (putB ρ js ps) σ a:=λ⟨j,w⟩=>by
 have v:=aco w;obtain⟨⟨t,l2,e⟩,q⟩:=w;obtain⟨s0,e0,z |⟨rfl,hno⟩⟩:=ajf e
 ·obtain⟨t',l',rfl,i,ei,⟨l3,ep,z⟩ |z⟩:=z
  ·have et:tgOf τ i=a:=by
    unfold tgOf;rw[L.h1 i j _ ei q]
   have:=(fin.at' i l3 ep).1;rw[et] at this;exact hn this
  ·cases z
 ·rcases ha with ha |⟨i,z⟩
  ·obtain⟨a',vs',ea,_,e2,_⟩:=G.sl j _ _ e0 q;cases ea;rw[ha] at e2;cases e2
  ·obtain⟨j',e1,v'⟩:=acj G L z;have:=G.inj j' j a v' v;subst this;exact hno t l2 rfl i e1
theorem aes(G:Good K tg F H ρ σ)(L:Lent K F σ τ js ds)(fin:Fin K F' H' τ ps O'){r:Rv}{v:V}(h:relR K r v H (Own (lend ρ js ds) τ) F' H' O'):relR K r v H (Own ρ σ) F' H' (Own (putB ρ js ps) σ):=by
 cases r with
 |v d=>exact h
 |fr l=>
  obtain⟨a,vs,rfl,ha,hf,hh,hl,hn⟩:=h;exact⟨a,vs,rfl,ha.imp id (aa2 G L),hf,hh,hl,auw G L fin ha hn⟩
 |tf d l=>
  obtain⟨t,u,a,vs,rfl,ht,hd,ha,hf,hh,hl,hn⟩:=h;exact⟨t,u,a,vs,rfl,ht,hd,ha.imp id (aa2 G L),hf,hh,hl,auw G L fin ha hn⟩
end
abbrev Fd:=Ro->Option (Out Rv×Ro)
noncomputable def fnD(nl np:Nat)(g:Sd):Fd:=λas=>match g (as++aD (nl-np) .emp) with
 |some (.ret r,ρ)=>ZZ (.ok r,ρ.take np)
 |some (.nx,ρ)=>ZZ (.ok (.v .non),ρ.take np)
 |some (.exc x,ρ)=>ZZ (.exc x,ρ.take np)
 |_=>ZY
def spOf(K:Fg9)(n:Nat)(f:Fd):Sp:=λvs H Q _=>vs.length=n/\∃F as r ps,Good K (tgOf (vs.map ZZ)) F H as (vs.map ZZ)/\f as=ZZ (.ok r,ps) /\
 ∀v H' F' O',Same F' H'->Ext (Own as (vs.map ZZ)) O' F H F' H'->Fin K F' H' (vs.map ZZ) ps O'->relR K r v H (Own as (vs.map ZZ)) F' H' O'->Q v H'
section
variable{K:Fg9}
def azo{as:Ro}{τ:L2.St}{n:Nat}{a:aQ}(hl:as.length=τ.length)(h:Own (as++aD n .emp) (τ++aD n ZY) a):Own as τ a:=by
 obtain⟨i,⟨t,l,e⟩,q⟩:=h
 by_cases hi:i<as.length
 ·rw[aY hi] at e;rw[aY (by omega)] at q
  exact⟨i,⟨t,l,e⟩,q⟩
 ·rw[cD (by omega),jC] at e
  split at e <;> cases e
def av2{as:Ro}{τ:L2.St}{n:Nat}{a:aQ}(hl:as.length=τ.length)(h:Own as τ a):Own (as++aD n .emp) (τ++aD n ZY) a:=by
 obtain⟨i,⟨t,l,e⟩,q⟩:=h;have hi:=(aK.mp e).1;exact⟨i,⟨t,l,by rw[aY hi];exact e⟩,by rw[aY (by omega)];exact q⟩
def uv{as:Ro}{τ:L2.St}{n:Nat}(hl:as.length=τ.length):Own (as++aD n .emp) (τ++aD n ZY)=Own as τ:=funext λa=>propext ⟨azo hl,av2 hl⟩
def Good.app{tg:Nat->aQ}{F H:Hp}{as:Ro}{τ:L2.St}(G:Good K tg F H as τ)(n:Nat):Good K tg F H (as++aD n .emp) (τ++aD n ZY) where
 sub:=G.sub
 len:=by rw[bV,bV,G.len,dO,dO]
 sl:=λi s o e q=>by
  have hl:=G.len
  by_cases hi:i<as.length
  ·rw[aY hi] at e;rw[aY (by omega)] at q
   exact G.sl i s o e q
  ·rw[cD (by omega),jC] at e
   split at e
   ·cases e;trivial
   ·cases e
 inj:=λi j a w w'=>by
  have hl:=G.len;have f:∀k,Owns (as++aD n .emp) (τ++aD n ZY) k a->Owns as τ k a:=λk ⟨⟨t,l,e⟩,q⟩=>by
   by_cases hi:k<as.length
   ·rw[aY hi] at e;rw[aY (by omega)] at q
    exact⟨⟨t,l,e⟩,q⟩
   ·rw[cD (by omega),jC] at e
    split at e <;> cases e
  exact G.inj i j a (f i w) (f j w')
def a8u{P:bT}{w:dB}{mg:Str->Option aG}{base:eE}{x qual:Str}{st:gK}{f:aQ}{fd:eQ}{N ps:List Str}{k:Nat}{g:Sd}(F:Fun K x qual st f fd)(S:FnScope N ps (ao st))
  (body:∀(cdv:aG) (A:cQ) (outer:List Env) (s:aJ) (H:Hp) (E:XK),Room k (A.deeper (mY qual (ao st) s.heap.objs.size f cdv))->SVs K (cxOf CX0 P w K mg base N qual (ao st) f cdv A outer s H E).nox (jc st) g) :
  FnOk P w K mg base CX0 (k+1) f fd ps (spOf K ps.length (fnD N.length ps.length g)):=by
 refine F.ok S (λvs H Q E h=>h.1) (λcdv A outer s H vs Q E hr h=>⟨_,body cdv A outer s H E hr rfl,?_⟩)
 obtain⟨hn,F,as,r,ps',G,em,q⟩:=h;have hl:as.length=(vs.map ZZ).length:=G.len;have G1:=G.app (N.length-vs.length);have es:start N vs=vs.map ZZ++aD (N.length-vs.length) ZY:=rfl;rw[es];unfold fnD at em;rw[<-hn] at em;have fin:∀{ρ':Ro} {σ':L2.St} {F' H':Hp},Good K (tgOf (vs.map ZZ)) F' H' ρ' σ'->Fin K F' H' (vs.map ZZ) (ρ'.take vs.length) (Own ρ' σ'):=λ{ρ' σ' F' H'} G'=>⟨λi l e=>by
  have hi:=(aK.mp e).1;rw[dX] at hi;rw[fM (by omega)] at e
  obtain⟨o,ho,a,ws,rfl,hf,hh,hl,ht⟩:=G'.at e;rw[ht i rfl];exact⟨⟨i,⟨_,_,e⟩,ho⟩,hf,ws,hh,hl⟩⟩
 split at em
 ·rename_i r' ρ' e;cases em;refine⟨_,F,_,.ret r,ρ',G1,e,λv σ' H' F' G' x' rr=>?_⟩
  rw[uv hl] at x' rr;exact q v H' F' (Own ρ' σ') G'.sub x' (fin G') rr
 ·rename_i ρ' e;cases em;refine⟨_,F,_,.nx,ρ',G1,e,λσ' H' F' G' x'=>?_⟩
  rw[uv hl] at x';exact q .non H' F' (Own ρ' σ') G'.sub x' (fin G') .non
 ·cases em
 ·cases em
end
section
variable{K:Fg9}{X:Cx}{e a b c tgt iter elt:dI}{es:List dI}{pos p p2:Pos}
inductive AR (K:Fg9) (F:Hp) (σ:L2.St):List (Option Nat)->List (Option D)->List V->Prop
 |nil:AR K F σ [] [] []
 |ex {d:D} {v:V} {js:List (Option Nat)} {ds:List (Option D)} {vs:List V} (h:Is K F d v) (t:AR K F σ js ds vs):AR K F σ (ZY::js) (ZZ d::ds) (v::vs)
 |nm {j:Nat} {v:V} {js:List (Option Nat)} {ds:List (Option D)} {vs:List V} (h:σ[j]? = ZZ (ZZ v)) (t:AR K F σ js ds vs):AR K F σ (ZZ j::js) (ZY::ds) (v::vs)
theorem AR.lent{F:Hp}{σ:L2.St}:∀{js:List (Option Nat)} {ds:List (Option D)} {vs:List V},AR K F σ js ds vs->Lent K F σ (vs.map ZZ) js ds
 |_,_,_,.nil=>⟨rfl,rfl,λi j o h=>by simp at h,λi d h=>by simp at h⟩
 |_,_,_,.ex h t=>by
  have L:=t.lent;refine⟨by simp[by simpa using L.l1],by simp[L.l2],λi j o h q=>?_,λi d h q=>?_⟩
  ·cases i with
   |zero=>simp at h
   |succ i=>simpa using L.h1 i j o (by simpa using h) q
  ·cases i with
   |zero=>simp at q;subst q;exact⟨_,rfl,‹_›⟩
   |succ i=>simpa using L.h2 i d (by simpa using h) (by simpa using q)
 |_,_,_,.nm h t=>by
  have L:=t.lent;refine⟨by simp[by simpa using L.l1],by simp[L.l2],λi j o h' q=>?_,λi d h' q=>?_⟩
  ·cases i with
   |zero=>
    simp at h';subst h';rw[h] at q;cases q;rfl
   |succ i=>simpa using L.h1 i j o (by simpa using h') q
  ·cases i with
   |zero=>simp at h'
   |succ i=>simpa using L.h2 i d (by simpa using h') (by simpa using q)
def AR.length{F:Hp}{σ:L2.St}{js:List (Option Nat)}{ds:List (Option D)}{vs:List V}(h:AR K F σ js ds vs):vs.length=js.length:=by
 have:=h.lent.l1
 simpa using this
def TAg(K:Fg9)(js:List (Option Nat))(m:M (List (Option D))):TA:=λσ H Q=>∃tg F ρ ds ρ',Good K tg F H ρ σ/\m ρ=ZZ (.ok ds,ρ')/\∀vs H' F',Good K tg F' H' ρ' σ->Ext (Own ρ σ) (Own ρ' σ) F H F' H'->AR K F' σ js ds vs->Q vs H'
structure EG (K:Fg9) (X:Cx) (es:List dI) (js:List (Option Nat)) (m:M (List (Option D))):Prop where
 go:X.K=K->PA X es (TAg K js m)
instance {K:Fg9} {X:Cx} {es:List dI} {js:List (Option Nat)} {m:M (List (Option D))}:CoeFun (EG K X es js m) λ_=>X.K=K->PA X es (TAg K js m):=⟨EG.go⟩
def fu:M (List (Option D)):=ret []
def az(m:M D)(ms:M (List (Option D))):M (List (Option D)):=m.bind λd=>ms.bind λds=>ret (ZZ d::ds)
def bw(j:Nat)(ms:M (List (Option D))):M (List (Option D)):=(gr j).bind λ_=>ms.bind λds=>ret (ZY::ds)
def bu:EG K X [] [] fu:=EG.mk λ_=>PA.imp ad6 λσ H Q z9=>by
 obtain⟨tg,F,ρ,ds,ρ',G,em,q⟩:=z9;obtain⟨rfl,rfl⟩:=j6 em;exact q [] H F G (Ext.refl _ _ _) .nil
def eg_v{m:M D}{js:List (Option Nat)}{ms:M (List (Option D))}(h:EV K X e m)(t:EG K X es js ms)(hs:Zc X e es:=by rfl):EG K X (e::es) (ZY::js) (az m ms):=EG.mk λhk=>PA.imp (sy (h hk) (t hk) hs) λσ H Q z9=>by
 obtain⟨tg,F,ρ,ds,ρ',G,em,q⟩:=z9;obtain⟨d,ρ1,e1,em⟩:=bf em;obtain⟨r,ρ2,e2,em⟩:=bf em;obtain⟨rfl,rfl⟩:=j6 em;exact⟨tg,F,ρ,d,ρ1,G,e1,λv H1 F1 G1 x1 r1=>⟨tg,F1,ρ1,r,_,G1,e2,λvs H2 F2 G2 x2 r2=>q _ H2 F2 G2 (x1.trans x2) (.ex (r1.mono x2.sub) r2)⟩⟩
def eg_n{j:Nat}{js:List (Option Nat)}{ms:M (List (Option D))}(h:PE X e (tVar j))(t:EG K X es js ms)(hs:Zc X e es:=by rfl):EG K X (e::es) (ZZ j::js) (bw j ms):=EG.mk λhk=>PA.imp (sy h (t hk) hs) λσ H Q z9=>by
 obtain⟨tg,F,ρ,ds,ρ',G,em,q⟩:=z9;obtain⟨d0,ρ0,e0,em⟩:=bf em;obtain⟨r,ρ2,e2,em⟩:=bf em;obtain⟨rfl,rfl⟩:=j6 em;obtain⟨rfl,v,hv,_⟩:=ph G e0;exact⟨v,hv,tg,F,ρ0,r,_,G,e2,λvs H2 F2 G2 x2 r2=>q _ H2 F2 G2 x2 (.nm hv r2)⟩
noncomputable def mFn(f:Fd)(js:List (Option Nat))(ms:M (List (Option D))):M Rv:=ms.bind λds ρ=>if okJs ρ js=ZX then match f (lend ρ js ds) with
  |some (.ok r,ps)=>ZZ (.ok r,putB ρ js ps)
  |some (.exc x,ps)=>ZZ (.exc x,putB ρ js ps)
  |none=>ZY
 else ZY
def axn{f:Fd}{js:List (Option Nat)}{ms:M (List (Option D))}{ρ ρ':Ro}{r:Rv}(h:mFn f js ms ρ=ZZ (.ok r,ρ')):∃ds ρ1 ps,ms ρ=ZZ (.ok ds,ρ1)/\okJs ρ1 js=ZX/\f (lend ρ1 js ds)=ZZ (.ok r,ps)/\ρ'=putB ρ1 js ps:=by
 obtain⟨ds,ρ1,e1,em⟩:=bf h;have em:(if okJs ρ1 js=ZX then match f (lend ρ1 js ds) with
  |some (.ok r,ps)=>ZZ (Out.ok r,putB ρ1 js ps)
  |some (.exc x,ps)=>ZZ (.exc x,putB ρ1 js ps)
  |none=>ZY
  else ZY)=ZZ (.ok r,ρ'):=em
 split at em
 ·rename_i hk;split at em
  ·rename_i r' ps e2;cases em;exact⟨ds,ρ1,ps,e1,hk,e2,rfl⟩
  ·cases em
  ·cases em
 ·cases em
def fj{f:Fd}{n k:Nat}{x:Str}{pn:List Str}{js:List (Option Nat)}{ms:M (List (Option D))}(F:Dfn X.prog X.w X.K X.mg X.base x pn k (spOf K n f))(hr:Room k X.A)(hg:Gl X x)(ha:EG K X (e::es) js ms)(hn:js.length=n:=by rfl)(hdb:Zb x:=by decide)
  (he:Zc X e es:=by rfl) (hpl:(gC pos (aO es X.env)).any (·.1)=ZW:=by rfl):ER K X (.Call (.Name x p) (e::es) [] pos) (mFn f js ms):=ER.mk λhk=>PE.imp (a2t F hr hg (ha hk) hdb he hpl) λσ H Q z9=>by
 obtain⟨tg,F,ρ,r,ρ',G,em,q⟩:=z9;obtain⟨ds,ρ1,ps,e1,hj,e2,rfl⟩:=axn em;refine⟨tg,F,ρ,ds,ρ1,G,e1,λvs H1 F1 G1 x1 ar=>?_⟩
 have L:=ar.lent;show spOf K n f (vs++[]) H1 Q E0;rw[cF];refine⟨by rw[ar.length];exact hn,F1,_,r,ps,wu G1 hj L,e2,λv H' F' O' s' x' fin rr=>?_⟩
 exact q v H' F' (zb G1 L x' s' fin) (x1.trans (aba G1 L x')) (lr x1 (aes G1 L fin rr))
def Za{f:Fd}{n k k':Nat}{x:Str}{pn:List Str}{js:List (Option Nat)}{ms:M (List (Option D))}(F:Dfn X.prog X.w X.K X.mg X.base x pn k (spOf K n f))(hr:Room k' X.A)(ha:EG K X (e::es) js ms)(hk:k<=k':=by decide)(hg:Gl X x:=by rfl)(hn:js.length=n:=by rfl)(hdb:Zb x:=by decide)(he:Zc X e es:=by rfl) (hpl:(gC pos (aO es X.env)).any (·.1)=ZW:=by rfl):ER K X (.Call (.Name x p) (e::es) [] pos) (mFn f js ms):=fj F (hr.mono hk) hg ha hn hdb he hpl
structure EIf (K:Fg9) (X:Cx) (ifs:List dI) (m:M Bool):Prop where
 go:X.K=K->PIf X ifs (TB K m)
instance {K:Fg9} {X:Cx} {ifs:List dI} {m:M Bool}:CoeFun (EIf K X ifs m) λ_=>X.K=K->PIf X ifs (TB K m):=⟨EIf.go⟩
def uq:EIf K X [] (ret ZX):=EIf.mk λ_ zv s σ H Q I z9=>by
 obtain⟨tg,F,ρ,k,ρ',G,em,q⟩:=z9;obtain⟨rfl,rfl⟩:=j6 em;exact aza zv s σ H Q I (q H F G (Ext.refl _ _ _))
def ahi{m:M Bool}(h:ET K X c m):EIf K X [c] m:=EIf.mk λhk=>ay9 (h hk)
noncomputable def compD(b:D->Ro->Option Ro)(mc:M Bool)(me:M D):List D->List D->M (List D)
 | [],ys=>ret ys
 |d::ds,ys=>λρ=>match b d ρ with
  |none=>ZY
  |some ρ1=>(mc.bind λk=>if k=ZX then me.bind λy=>compD b mc me ds (ys++[y]) else compD b mc me ds ys) ρ1
theorem ahl{b:D->Ro->Option Ro}{mc:M Bool}{me:M D}:∀{l ys yf:List D} {ρ ρ':Ro},compD b mc me l ys ρ=ZZ (.ok yf,ρ')->ys.length<=yf.length
 | [],ys,yf,ρ,ρ',h=>by
  obtain⟨rfl,_⟩:=j6 (show ret ys ρ=_ from h)
  exact aP _
 |d::ds,ys,yf,ρ,ρ',h=>by
  unfold compD at h;split at h
  ·cases h
  ·obtain⟨k,ρ2,e2,h⟩:=bf h;split at h
   ·obtain⟨y,ρ3,e3,h⟩:=bf h;have:=ahl h;rw[bV] at this;omega
   ·exact ahl h
def zc(src:List (Option Nat))(mi:M (List D))(b:D->Ro->Option Ro)(mc:M Bool)(me:M D):M Rv:=mi.bind λl ρ=>if okJs ρ src=ZX then match compD b mc me l [] (lend ρ src (src.map λ_=>ZY)) with
  |some (.ok ys,ps)=>if ys.length<=capS then ZZ (.ok (.fr ys),putB ρ src ps) else ZY
  |some (.exc x,ps)=>ZZ (.exc x,putB ρ src ps)
  |none=>ZY
 else ZY
def awd{src:List (Option Nat)}{mi:M (List D)}{b:D->Ro->Option Ro}{mc:M Bool}{me:M D}{ρ ρ':Ro}{r:Rv}(h:zc src mi b mc me ρ=ZZ (.ok r,ρ')):∃l ρ1 ys ps,mi ρ=ZZ (.ok l,ρ1)/\okJs ρ1 src=ZX/\compD b mc me l [] (lend ρ1 src (src.map λ_=>ZY))=ZZ (.ok ys,ps)/\ys.length<=capS/\r=.fr ys/\ρ'=putB ρ1 src ps:=by
 obtain⟨l,ρ1,e1,em⟩:=bf h;have em:(if okJs ρ1 src=ZX then match compD b mc me l [] (lend ρ1 src (src.map λ_=>ZY)) with
  |some (.ok ys,ps)=>if ys.length<=capS then ZZ (Out.ok (Rv.fr ys),putB ρ1 src ps) else ZY
  |some (.exc x,ps)=>ZZ (.exc x,putB ρ1 src ps)
  |none=>ZY
  else ZY)=ZZ (.ok r,ρ'):=em
 split at em
 ·rename_i hk;split at em
  ·rename_i ys ps e2;split at em
   ·rename_i hz;cases em;exact⟨l,ρ1,ys,ps,e1,hk,e2,hz,rfl,rfl⟩
   ·cases em
  ·cases em
  ·cases em
 ·cases em
def asd{F:Hp}{σ:L2.St}(src:List (Option Nat)):Lent K F σ (pick src σ) src (src.map λ_=>ZY):=by
 refine⟨by simp[pick],by simp,λi j o h q=>?_,λi d h q=>?_⟩
 ·unfold pick;rw[aX,h];show ZZ ((σ[j]?).bind id)=ZZ o;rw[q];rfl
 ·rw[aX,h] at q;cases q
def Ext.upd{O O':aQ->Prop}{F H F' H':Hp}{d:aQ}{o:HO}(x:Ext O O' F H F' H')(h:H d=ZY):Ext O O' F H F' (upd H' d o) :=
 ⟨x.sub,x.new,λa u e n=>by rw[b7 (jj e h)];exact x.keep a u e n,x.own,λa e=>by
  by_cases ha:a=d
  ·subst ha;exact h
  ·rw[b7 ha] at e;exact x.there a e⟩
def Good.upd{tg:Nat->aQ}{F H:Hp}{ρ:Ro}{σ:L2.St}{d:aQ}(G:Good K tg F H ρ σ)(hf:F d=ZY)(hn:¬Own ρ σ d)(o:HO)(hi:∀C dx fs,H d≠ZZ (.ins C dx fs)):Good K tg F (upd H d o) ρ σ :=
 G.grow (Same.refl F) (λb u e=>by
  have hb:b≠d:=λz=>by
   subst z;rw[hf] at e;cases e
  rw[b7 hb];exact G.sub b u e) (λa w=>⟨(G.ownAt w).1,by
  have hb:a≠d:=λz=>hn (z▸w)
  rw[b7 hb]⟩) λa C dx fvs h1 h2=>⟨h1,by
  have hb:a≠d:=λz=>hi C dx fvs (z▸h2)
  rw[b7 hb]⟩
def apb{mi:M (List D)}{bb:D->Ro->Option Ro}{mc:M Bool}{me:M D}{src:List (Option Nat)}(σ:L2.St)(H:Hp)(Q:VK)(t:T K (relR K) (zc src mi bb mc me) σ H Q):ayq (TIt K mi) (TGd K bb) (TB K mc) (T K (relD K) me) src σ H Q:=by
 obtain⟨tg,F,ρ,r,ρ',G,em,q⟩:=t;obtain⟨l,ρ1,yf,ps,e1,hj,e2,hz,rfl,rfl⟩:=awd em;refine⟨tg,F,ρ,l,ρ1,G,e1,λJ H1 F1 G1 x1 Z dd hd=>?_⟩
 have L:Lent K F1 σ (pick src σ) src (src.map λ_=>ZY):=asd src
 have Gl:=wu G1 hj L;have own0:¬Own (lend ρ1 src (src.map λ_=>ZY)) (pick src σ) dd:=λz=>Gl.own_ne hd z rfl
 refine aw0 Z (λi ys σc Hc=>∃Fc ρc yd,Good K (tgOf (pick src σ)) Fc Hc ρc σc/\Ext (Own (lend ρ1 src (src.map λ_=>ZY)) (pick src σ)) (Own ρc σc) F1 H1 Fc Hc/\Fc dd=ZY/\¬Own ρc σc dd/\Hc dd=ZZ (.lst ys)/\IsL K Fc yd ys/\compD bb mc me (l.drop i) yd ρc=ZZ (.ok yf,ps))
  ⟨F1,_,[],Gl.upd (G1.freeF hd) own0 _ (λ_ _ _ z=>by rw[hd] at z;cases z),(Ext.refl _ _ _).upd hd,G1.freeF hd,own0,gk,.nil,e2⟩ ?_ ?_ ?_
 ·rintro i ys σc Hc _ ⟨Fc,ρc,yd,Gc,xc,_,_,hdd,_,_⟩
  exact⟨xc.sub.trans Gc.sub,hdd⟩
 ·rintro i d x ys σc Hc0 Hc M hdl ⟨Fc0,ρc,yd,Gc0,xc0,fd0,od0,hdd0,iy0,ec⟩ al hM
  obtain⟨Fc,Gc,xc,_,idl,xa⟩:=akc Gc0 xc0 xc0.sub al;have iy:=iy0.mono xa.sub;have hlt:i<l.length:=(aK.mp hdl).1;have edl:l[i]=d:=(aK.mp hdl).2;rw[kI hlt,edl] at ec;unfold compD at ec;have step:∀{F2 H2:Hp} {ρ2 ρ3:Ro} {σ2 σ3:L2.St} {F3 H3:Hp},F2 dd=ZY->¬Own ρ2 σ2 dd->H2 dd=ZZ (.lst ys)->Ext (Own ρ2 σ2) (Own ρ3 σ3) F2 H2 F3 H3->F3 dd=ZY/\¬Own ρ3 σ3 dd/\H3 dd=ZZ (.lst ys):=λ{F2 H2 ρ2 ρ3 σ2 σ3 F3 H3} h1 h2 h3 x3=>by
   refine⟨?_,λz=>?_,x3.keep _ _ h3 h2⟩
   ·cases z:F3 dd with
    |none=>rfl
    |some o=>
     rcases x3.new _ _ z with z |z |z
     ·rw[h1] at z;cases z
     ·rw[h3] at z;cases z
     ·exact absurd z h2
   ·rcases x3.own _ z with z |z
    ·exact h2 z
    ·rw[h3] at z;cases z
  obtain⟨fd,od,hdd⟩:=step fd0 od0 hdd0 xa;split at ec
  ·cases ec
  ·rename_i ρ2 eb;refine⟨_,Fc,ρc,d,ρ2,Gc,idl,eb,λσ2 H2 F2 G2 x2=>?_⟩
   obtain⟨k,ρ3,ek,ec⟩:=bf ec;obtain⟨fd2,od2,hdd2⟩:=step fd od hdd x2;refine⟨_,F2,ρ2,k,ρ3,G2,ek,λH3 F3 G3 x3=>?_⟩
   obtain⟨fd3,od3,hdd3⟩:=step fd2 od2 hdd2 x3;cases k with
   |false=>
    refine iteF (hM _ _ _ ⟨F3,ρ3,yd,G3,(xc.trans x2).trans x3,fd3,od3,hdd3,(iy.mono x2.sub).mono x3.sub,ec⟩)
   |true=>
    obtain⟨y,ρ4,ey,ec⟩:=bf ec;refine iteT ⟨_,F3,ρ3,y,ρ4,G3,ey,λv H4 F4 G4 x4 iv=>?_⟩
    obtain⟨fd4,od4,hdd4⟩:=step fd3 od3 hdd3 x4;refine⟨hdd4,?_,hM _ _ _ ⟨F4,ρ4,yd++[y],G4.upd fd4 od4 _ (λ_ _ _ z=>by rw[hdd4] at z;cases z),(((xc.trans x2).trans x3).trans x4).upd hd,fd4,od4,gk,?_,ec⟩⟩
    ·have:=ahl ec;rw[bV,iy.length] at this;rw[gF];exact bY (by simpa using jE ys.length) (cW this hz)
    ·exact(((iy.mono x2.sub).mono x3.sub).mono x4.sub).append (.cons iv .nil)
 ·rintro ys σc Hc ⟨Fc,ρc,yd,Gc,xc,fd,od,hdd,iy,ec⟩
  rw[pC (aP _)] at ec;obtain⟨rfl,rfl⟩:=j6 (show ret yd ρc=_ from ec)
  have fin:Fin K Fc Hc (pick src σ) ps (Own ps σc):=⟨λi l' e=>by
   obtain⟨o,ho,a,ws,rfl,hf,hh,hl,ht⟩:=Gc.at e;rw[ht i rfl];exact⟨⟨i,⟨_,_,e⟩,ho⟩,hf,ws,hh,hl⟩⟩
  refine q _ Hc Fc (zb G1 L xc Gc.sub fin) (x1.trans (aba G1 L xc)) ⟨dd,ys,rfl,.inl (x1.there dd hd),fd,hdd,iy,λ⟨j,w⟩=>?_⟩
  exact G1.own_ne hd ⟨j,aco w⟩ rfl
def nq{ifs:List dI}{scope:nJ}{mi:M (List D)}{bb:D->Ro->Option Ro}{mc:M Bool}{me:M D}(fr N:List Str)(src:List (Option Nat))(hc:X.calm=ZX)(hi:IT K X tgt iter mi)
  (hg:∀fp s H,GV K (cxC X N scope fr fp s H) tgt bb) (ht:∀fp s H,EIf K (cxC X N scope fr fp s H) ifs mc) (he:∀fp s H,EV K (cxC X N scope fr fp s H) elt me)
  (hok:aiy X.env X.N scope fr N src=ZX:=by rfl) (hkind:scope.kind=.function:=by rfl) (hclos:closureFor scope X.env=pure (aat X.env fr):=by rfl)
  (hs:∀x,foldedSetIterable iter X.env x=pure x:=by intro _;rfl):ER K X (.ListComp elt [⟨tgt,iter,ifs,0⟩] scope pos) (zc src mi bb mc me):=ER.mk λhk=>by
 have hkc:∀fp s H,(cxC X N scope fr fp s H).K=K:=λ_ _ _=>hk
 refine PE.imp (azj fr N src hc (hi hk) (λfp s H=>(hg fp s H).go (hkc _ _ _)) (λfp s H=>(ht fp s H).go (hkc _ _ _)) (λfp s H=>(he fp s H).go (hkc _ _ _)) hok hkind hclos hs) apb
end
end Dn
namespace Mn
open L2
def ay4{X:Cx}{tg iter elt:dI}{ifs:List dI}{scope:nJ}{cpos pos px:Pos}{wi:TI}{g:TG}{ti:TT}{te:TE}{i:Nat}{x:Str}(fr N:List Str)(src:List (Option Nat))(hN:X.N.Nodup)(hxi:X.N[i]? = ZZ x)(hx:Loc X.env.scope x)(hc:X.calm=ZX)(hi:PI X tg iter wi)
  (hg:∀fp s H,PG (cxC X N scope fr fp s H) tg g) (ht:∀fp s H,PIf (cxC X N scope fr fp s H) ifs ti) (he:∀fp s H,PE (cxC X N scope fr fp s H) elt te)
  (hsw:iR (.ListComp elt [⟨tg,iter,ifs,0⟩] scope cpos) (ZZ (.Name x px)) pos.line X.env=pure ZX:=by rfl)
  (hok:aiy X.env X.N scope fr N src=ZX:=by rfl) (hkind:scope.kind=.function:=by rfl) (hclos:closureFor scope X.env=pure (aat X.env fr):=by rfl)
  (hs:∀x,foldedSetIterable iter X.env x=pure x:=by intro _;rfl) (hf:X.fn x=ZX∨X.env.scope.names.lookup x=ZZ .local:=by first |exact .inl rfl |exact .inr rfl |assumption) :
  PS X (.Assign [.Name x px] (.ListComp elt [⟨tg,iter,ifs,0⟩] scope cpos) pos) (tAsg (ayq wi g ti te src) (a0f i)):=by
 have C:=CompOk.of hok;intro zv s σ H D I h;rw[exec_Assign_Name_used _ _ _ _ hsw];refine aA (iZ (aA ?_));show bG _ _ (comprehension (.ListComp elt [⟨tg,iter,ifs,0⟩] scope cpos) scope X.env (firstIterPos [⟨tg,iter,ifs,0⟩] cpos) (newList []) (firstAsync [⟨tg,iter,ifs,0⟩]) (firstIter [⟨tg,iter,ifs,0⟩] X.env) (ZZ (oU (.Name x px) X.env)) >>= λ_=>pure ()) _ _ _
 refine aA (wpAny_comprehension_free (use:=ZZ (oU (.Name x px) X.env)) (Q:=λ_ s'=>bG (bL X.prog X.w) X.A (pure ()) (λ_ s''=>bG (bL X.prog X.w) X.A (pure uV) (SP X zv D) X.xe s'') X.xe s') rfl hs hclos hkind C.loc (bD (hi zv s σ H _ I h) (λv s1 h1=>bD h1 (λitv s2 h2=>?_) λ_ _ e=>e) λ_ _ e=>e))
 obtain⟨it,fp,tn,J,H2,e,I2,T,st2,f2,q2⟩:=h2;subst e;have hd0:H2 s2.heap.objs.size=ZY:=I2.hok.fresh (aP _);obtain⟨W,⟨m0,w0⟩,turn⟩:=q2 s2.heap.objs.size hd0;refine cA ?_;generalize hs3:({ s2 with heap:=s2.heap.push { cls:=.type "list", dict:=ZY,data:=.seq ([]:List aG).toArray } }:aJ)=s3
 have keep2:∀b o,s2.heap.get? b=ZZ o->s3.heap.get? b=ZZ o:=λb o e=>by rw[<-hs3];exact aB _ e
 have I3:Inv X zv σ (upd H2 s2.heap.objs.size (.lst [])) s3:=by
  rw[<-hs3];exact I2.laid (t':=s2.toks) (λb u q=>aB _ q) (aP _) ⟨Nat.zero_le _,[],0,.nil,aM _ rfl⟩
 have ne0:∀b∈fp,b≠s2.heap.objs.size:=λb hb=>by
  obtain⟨o,e,_⟩:=T.obj _ _ st2 b hb;exact bI (aN e)
 have f3:∀b∈fp,FpOk X zv (upd H2 s2.heap.objs.size (.lst [])) b:=λb hb=>⟨by rw[b7 (ne0 b hb)];exact(f2 b hb).1,(f2 b hb).2⟩
 have lt3:∀b∈fp,b<s3.heap.objs.size:=λb hb=>by
  obtain⟨o,e,_⟩:=T.obj _ _ st2 b hb;exact aN (keep2 b o e)
 refine wpAny_newFunctionEnv C.cell (by intro y hy;simp at hy) (λh₁ hns₁ hsb₁=>?_) hkind
 have keep3:∀b o,s3.heap.get? b=ZZ o->h₁.get? b=ZZ o:=λb o e=>hsb₁.extBut b o (bI (aN e)) (aB _ e)
 have st4:tn 0 h₁:=T.keep _ _ _ st2 λb hb o e=>keep3 b o (keep2 b o e)
 have I4:=aoy (tk:=s3.toks+([]:List (Str×Value)).length) I3 C hkind f3 lt3 hns₁ keep3;have loop:=al8 (X:=cxC X N scope fr fp s3 (upd H2 s2.heap.objs.size (.lst []))) (iter:=iter) (scope:=scope) (pos:=cpos) (d:=s2.heap.objs.size) (Q:=λv H1=>D.nx (σ.set i (ZZ v)) H1)
  (R:=compPost (bL X.prog X.w) X.A X.xe (ZZ (oU (.Name x px) X.env)) (λ_ s'=>bG (bL X.prog X.w) X.A (pure ()) (λ_ s''=>bG (bL X.prog X.w) X.A (pure uV) (SP X zv D) X.xe s'') X.xe s') (.ref s2.heap.objs.size) s3.heap.objs.size) hc rfl T
  (λH' hn b hb=>⟨hn b hb,bI (lt3 b hb),I4.ok.exfs b hb,.inl hb,(I4.ok.exf b hb).2,λp hp=>absurd (show p∈([]:List (aQ×Obj)) from hp) (by simp)⟩)
  (hg fp s3 _) (ht fp s3 _) (he fp s3 _) turn w0 I4 st4 (λb hb=>(f3 b hb).1) (λσ' H' s' I6 qn=>by
   obtain⟨m6,hn6,_⟩:=I6.loc;have fC:FpOk X zv H' s3.heap.objs.size:=I3.fpOk (aP _) I6.free;have I7:Inv X zv σ H' s':=aoz I3 f3 I6 (xH ..);refine wpAny_assign_Name (akq I7 hN hxi hx (v:=.ref s2.heap.objs.size) rfl (λs8 I8 ⟨a,sb,ha⟩=>?_) hf)
   have hne:s3.heap.objs.size≠a:=by
    rcases ha with rfl |ha
    ·exact fC.2.1
    ·exact(fC.2.2.2.2.1 x a ha).symm
   obtain⟨o6,es6,ep6,g6,r6⟩:=hn6;refine⟨m6,⟨o6,es6,ep6,(sb.2 _ hne).trans g6,r6⟩,λh9 sb9=>aH (aH ⟨_,H',?_,qn⟩)⟩
   exact I8.turned (t':=s8.toks) (it:=s3.heap.objs.size) (λb o hb e=>(sb9.2 b hb).trans e) fC.1 fC.2.1 fC.2.2.2.1 fC.2.2.2.2.1 fC.2.2.2.2.2)
 exact codeAny_compStart_list loop (T.self _ 0 _ _ _ st4 loop)
end Mn
namespace Dn
open L2 Mn
section
variable{K:Fg9}{X:Cx}{tgt iter elt:dI}{pos p:Pos}
def ayu{i:Nat}{x:Str}{ifs:List dI}{scope:nJ}{cpos:Pos}{mi:M (List D)}{bb:D->Ro->Option Ro}{mc:M Bool}{me:M D}(fr N:List Str)(src:List (Option Nat))(hN:X.N.Nodup)(hxi:X.N[i]? = ZZ x)(hx:Loc X.env.scope x)(hc:X.calm=ZX)(hi:IT K X tgt iter mi)
  (hg:∀fp s H,GV K (cxC X N scope fr fp s H) tgt bb) (ht:∀fp s H,EIf K (cxC X N scope fr fp s H) ifs mc) (he:∀fp s H,EV K (cxC X N scope fr fp s H) elt me)
  (hsw:iR (.ListComp elt [⟨tgt,iter,ifs,0⟩] scope cpos) (ZZ (.Name x p)) pos.line X.env=pure ZX:=by rfl)
  (hok:aiy X.env X.N scope fr N src=ZX:=by rfl) (hkind:scope.kind=.function:=by rfl) (hclos:closureFor scope X.env=pure (aat X.env fr):=by rfl)
  (hs:∀x,foldedSetIterable iter X.env x=pure x:=by intro _;rfl) (hf:X.fn x=ZX∨X.env.scope.names.lookup x=ZZ .local:=by first |exact .inl rfl |exact .inr rfl |assumption) :
  SV K X (.Assign [.Name x p] (.ListComp elt [⟨tgt,iter,ifs,0⟩] scope cpos) pos) (dSet i (zc src mi bb mc me)):=SV.mk λhk=>by
 have hkc:∀fp s H,(cxC X N scope fr fp s H).K=K:=λ_ _ _=>hk
 refine PS.imp (ay4 fr N src hN hxi hx hc (hi hk) (λfp s H=>(hg fp s H).go (hkc _ _ _)) (λfp s H=>(ht fp s H).go (hkc _ _ _)) (λfp s H=>(he fp s H).go (hkc _ _ _)) hsw hok hkind hclos hs hf) λE σ H ⟨tg,F,ρ,fl,ρ',G,em,q⟩=>my em q λr ρ1 e1 em=>?_
 cases em;refine apb σ H _ ⟨tg,F,ρ,r,ρ1,G,e1,λv H' F' G' x rr=>?_⟩
 obtain⟨G2,x2⟩:=G'.store x i rr;exact q _ H' F' G2 x2
end
@[irreducible] noncomputable def fuel:Nat:=1000000000
section
variable{K:Fg9}{X:Cx}{e a b c:dI}{es:List dI}{pos p p2:Pos}
end
def an7(f:Fd):Prop:=∀ns:List Int,ns.length<=63->∃ps,f [.val (.kst (ns.map D.int))]=ZZ (.ok (.v (.bl ZX)),ps)
def a1o{K:Fg9}{f:Fd}(h:an7 f)(H:Hp)(a:aQ)(ns:List Int)(hn:ns.length<=63)(hS:SqL K H a (ns.map V.int)):spOf K 1 f [.ref a] H (λv _=>v=.bl ZX) λ_ _ _=>False:=by
 obtain⟨ps,e⟩:=h ns hn;refine⟨rfl,H,_,_,ps,⟨Same.refl H,rfl,λi s o e1 e2=>?_,λi j b ⟨⟨t,l,e1⟩,_⟩ _=>by cases i <;> simp at e1⟩,e,λv H' F' O' _ _ _ rr=>?_⟩
 ·cases i with
  |zero=>
   simp at e1 e2;subst e1 e2;exact⟨_,rfl,.kst hS (af4 ns)⟩
  |succ i=>simp at e1
 ·have rr:Is K F' (.bl ZX) v:=rr;cases rr;rfl
def walk{l:sH}{q:bT}{loose:List Str}{XP:(Str->Option aG)->eE->Prop}{YP:dB->eE->Prop}{d:DefRec}{K:Params->Fg9}{f:Fd}{k:Nat}(ht:an7 f)(hn:l.most=ZZ 63)(hdf:d.params.defaults=[])(hr:Room k qX)
  (hY:∀(w:dB) (h:eE),YP w h->(K w.params).In h)
  (F:∀(w:dB) (mg:Str->Option aG) (fa:aQ) (h:eE),(K w.params).In h->h.Ns aV mg->mg d.name=ZZ (.ref fa) ->
   ∃fd:eQ,(∀(s:aJ) (u:aG),oR s fd ⟨[u],[]⟩ [("script", u)])/\∀base:eE,(K w.params).In base->base.Ns aV mg->FnOk l.prog w (K w.params) mg base CX0 k fa fd ["script"] (spOf (K w.params) 1 f)) :
  zA q loose XP YP l.row.toRowW d [] (λf vs=>wL f vs) :=
 L2.ayc (n:=63) (k:=k) (x := "script") (CX:=λ_=>CX0) (sp:=λw=>spOf (K w.params) 1 f) hn (by decide) hdf hr hY F (λ_ H a ns hl _ hS=>a1o ht H a ns hl hS) λ_ _ _ _ _ z=>z
section
variable{α β:Type}(ρ:Ro)
@[simp] theorem a9l(a:α):ret a ρ=ZZ (.ok a,ρ):=rfl
@[simp] theorem a79(o:Option α):lift o ρ=match o with
 |some a=>ZZ (.ok a,ρ)
 |none=>ZY:=rfl
@[simp] theorem a9c(m:M α)(k:α->M β):M.bind m k ρ=match m ρ with
 |some (.ok a,ρ1)=>k a ρ1
 |some (.exc x,ρ1)=>ZZ (.exc x,ρ1)
 |none=>ZY:=rfl
@[simp] theorem v_ap(m:M D):M.v m ρ=(m.bind λd=>ret (.v d)) ρ:=rfl
@[simp] theorem d_ap(m:M Rv):M.d m ρ=(m.bind λr=>ret r.d) ρ:=rfl
@[simp] theorem a92(d:D):(Rv.v d).d=d:=rfl
@[simp] theorem a9k(l:List D):(Rv.fr l).d=.lst l:=rfl
@[simp] theorem a9j(d:D)(l:List D):(Rv.tf d l).d=.tup [d,.lst l]:=rfl
@[simp] theorem a91(d:D):(Rv.v d).sl=.val d:=rfl
@[simp] theorem a9i(l:List D):(Rv.fr l).sl=.own ZY l:=rfl
@[simp] theorem a7p(i:Nat):mVar i ρ=match ρ[i]? with
 |some (.val d)=>ZZ (.ok d,ρ)
 |some (.own ZY l)=>ZZ (.ok (.lst l),ρ.set i (.val (.lst l)))
 |_=>ZY:=rfl
@[simp] theorem a5n(i:Nat):gr i ρ=match ρ[i]? with
 |some (.val d)=>ZZ (.ok d,ρ)
 |some (.own _ l)=>ZZ (.ok (.lst l),ρ)
 |_=>ZY:=rfl
@[simp] theorem a5s(i:Nat):alj i ρ=match ρ[i]? with
 |some (.val d)=>ZZ (.ok (.v d),ρ)
 |some (.own ZY l)=>ZZ (.ok (.fr l),ρ.set i .emp)
 |_=>ZY:=rfl
@[simp] theorem a7r(i:Nat):mOwn i ρ=match ρ[i]? with
 |some (.own _ l)=>ZZ (.ok l,ρ)
 |_=>ZY:=rfl
@[simp] theorem a3j(i:Nat)(l':List D):abw i l' ρ=match ρ[i]? with
 |some (.own t _)=>ZZ (.ok (),bZ ρ i (.own t l'))
 |_=>ZY:=rfl
@[simp] theorem a5q(m1 m2:M D):jd m1 m2 ρ=(m1.bind λx=>m2.bind λy=>ret (x,y)) ρ:=rfl
@[simp] theorem a3k(i:Nat)(m2:M D):dh i m2 ρ=((gr i).bind λ_=>m2.bind λy=>(gr i).bind λx=>ret (x,y)) ρ:=rfl
@[simp] theorem a9o(g:D->D->Option Rv)(m:M (D×D)):mOp g m ρ=(m.bind λp=>lift (g p.1 p.2)) ρ:=rfl
@[simp] theorem a9n(g:D->Option D)(m:M D):mUn g m ρ=(m.bind λd=>lift (g d)) ρ:=rfl
@[simp] theorem a72(m1 m2:M D):mAnd m1 m2 ρ=(m1.bind λd=>(lift (asB d)).bind λk=>if k=ZX then m2 else ret (.bl ZW)) ρ:=rfl
@[simp] theorem a5o(m:M D):aad m ρ=(m.bind λd=>lift (asB d)) ρ:=rfl
@[simp] theorem a3i(g:D->D->Option Rv)(m:M (D×D)):jr g m ρ=aad (mOp g m).d ρ:=rfl
@[simp] theorem a5r(m:M Bool):adf m ρ=(m.bind λk=>ret (!k)) ρ:=rfl
@[simp] theorem a5z(m1 m2:M Bool):az9 m1 m2 ρ=(m1.bind λk=>if k=ZX then m2 else ret ZW) ρ:=rfl
@[simp] theorem a7s(m1 m2:M Bool):mOrB m1 m2 ρ=(m1.bind λk=>if k=ZX then ret ZX else m2) ρ:=rfl
@[simp] theorem a9p(m:M Bool)(m1 m2:M α):mIf m m1 m2 ρ=(m.bind λk=>if k=ZX then m1 else m2) ρ:=rfl
@[simp] theorem a9r(c:Prop)[Decidable c](m1 m2:M α):(if c then m1 else m2) ρ=if c then m1 ρ else m2 ρ:=by split <;> rfl
@[simp] theorem a8e(c:Prop)[Decidable c](m1 m2:Sd):(if c then m1 else m2) ρ=if c then m1 ρ else m2 ρ:=by split <;> rfl
@[simp] theorem a90(b:Bool):asB (.bl b)=ZZ b:=rfl
@[simp] theorem a9g(b:Int):asI (.int b)=ZZ b:=rfl
@[simp] theorem a8l(b:Bool):gNot (.bl b)=ZZ (.bl (!b)):=rfl
@[simp] theorem a6b(b:Int):gNeg (.int b)=ZZ (.int (-b)):=rfl
@[simp] theorem a6p(i j:Int):gAdd (.int i) (.int j)=ZZ (.v (.int (i+j))):=rfl
@[simp] theorem a6n(l k:List D):gAdd (.tup l) (.tup k)=if l.length+k.length<=capS then ZZ (.v (.tup (l++k))) else ZY:=rfl
@[simp] theorem a6o(l k:List D):gAdd (.lst l) (.lst k)=if l.length+k.length<=capS then ZZ (.fr (l++k)) else ZY:=rfl
@[simp] theorem a6g(f:Int->Int->Option Int)(i j:Int):gInt f (.int i) (.int j)=(f i j).map λk=>.v (.int k):=rfl
@[simp] theorem a8x(i j:Int):fSub i j=ZZ (i-j):=rfl
@[simp] theorem a6e(i j:Int):gMul (.int i) (.int j)=(fMul i j).map λk=>.v (.int k):=rfl
@[simp] theorem a6c(l:List D)(k:Int):gMul (.tup l) (.int k)=if k=1 then ZZ (.v (.tup l)) else if l≠[]/\2<=k/\k<9223372036854775808/\l.length*k.toNat<=capS then ZZ (.v (.tup (aD k.toNat l).flatten)) else ZY:=rfl
@[simp] theorem a6d(l:List D)(k:Int):gMul (.lst l) (.int k)=if k.natAbs<9223372036854775808/\l.length*k.toNat<=capS then ZZ (.fr (aD k.toNat l).flatten) else ZY:=rfl
@[simp] theorem a6l(f:Int->Int->Bool)(i j:Int):gCmp f (.int i) (.int j)=ZZ (.v (.bl (f i j))):=rfl
@[simp] theorem a7w(t:Ty)(m:M D):mIsi t m ρ=(m.bind λd=>ret (.bl (isTy t d))) ρ:=rfl
@[simp] theorem a3q(f g:Int->Int->Bool)(m1 m2 m3:M D):alm f g m1 m2 m3 ρ=(m1.bind λx=>m2.bind λy=>match x,y with
 |.int i,.int j=>if f i j=ZX then m3.bind λz=>match z with
  |.int k=>ret (.bl (g j k))
  |_=>lift ZY
  else ret (.bl ZW)
 |_,_=>lift ZY) ρ:=rfl
@[simp] theorem a7t:mNil ρ=ZZ (.ok [],ρ):=rfl
@[simp] theorem a5w(m:M D)(ms:M (List D)):bc m ms ρ=(m.bind λd=>ms.bind λds=>ret (d::ds)) ρ:=rfl
@[simp] theorem a3p(i:Nat)(ms:M (List D)):f9 i ms ρ=((gr i).bind λ_=>ms.bind λds=>(gr i).bind λd=>ret (d::ds)) ρ:=rfl
@[simp] theorem a7q(m:M (List D)):mTup m ρ=(m.bind λds=>lift (gTup ds)) ρ:=rfl
@[simp] theorem a7v(m:M (List D)):mLst m ρ=(m.bind λds=>lift (gLst ds)) ρ:=rfl
@[simp] theorem a5y(g:List D->Option Rv)(m:M (List D)):gw g m ρ=(m.bind λds=>lift (g ds)) ρ:=rfl
@[simp] theorem a9u(f:D->Option Rv)(d:D):g1 f [d]=f d:=rfl
@[simp] theorem a9t(f:D->D->Option Rv)(d d':D):g2 f [d,d']=f d d':=rfl
@[simp] theorem a4c(l:List D):itemsD (.tup l)=ZZ l:=rfl
@[simp] theorem a4d(l:List D):itemsD (.lst l)=ZZ l:=rfl
@[simp] theorem a4e(l:List D):itemsD (.kst l)=ZZ l:=rfl
@[simp] theorem a6m(l:List D):gAll (.lst l)=(aau l).map λbs=>.v (.bl (bs.all id)):=rfl
@[simp] theorem a4j(i:Int):awr (.int i)=ZZ (.v (.int i)):=rfl
@[simp] theorem a6h(i:Bool):awr (.bl i)=ZZ (.v (.int (if i then 1 else 0))):=rfl
@[simp] theorem a8n(d:D)(k:Int):gIx d (.int k)=(itemsD d).bind λl=>(atI l k).map λx=>.v x:=rfl
@[simp] theorem a71(m:M D)(ml mh:M (Option Int)):mCut m ml mh ρ=(m.bind λd=>ml.bind λlo=>mh.bind λhi=>lift (gCut d lo hi)) ρ:=rfl
@[simp] theorem a5v(i:Nat)(ml mh:M (Option Int)):ajt i ml mh ρ=((gr i).bind λ_=>ml.bind λlo=>mh.bind λhi=>(gr i).bind λd=>lift (gCut d lo hi)) ρ:=rfl
@[simp] theorem a5p(m:M D):afz m ρ=(m.bind λd=>lift ((asI d).map ZZ)) ρ:=rfl
@[simp] theorem a6i(l:List D)(lo hi:Option Int):gCut (.tup l) lo hi=ZZ (.v (.tup (cutD l lo hi))):=rfl
@[simp] theorem a6j(l:List D)(lo hi:Option Int):gCut (.lst l) lo hi=ZZ (.fr (cutD l lo hi)):=rfl
@[simp] theorem a6k(l:List D)(lo hi:Option Int):gCut (.kst l) lo hi=ZZ (.fr (cutD l lo hi)):=rfl
@[simp] theorem a3l(m:M D):aam m ρ=(m.bind λd=>lift (itemsD d)) ρ:=rfl
@[simp] theorem a7y(g:α->Option β)(m:M α):mGet g m ρ=(m.bind λds=>lift (g ds)) ρ:=rfl
@[simp] theorem anr(j:Int):vo [.int j]=if j.natAbs<4611686018427387904 then ZZ (lu 0 j.toNat) else ZY:=rfl
@[simp] theorem a0g(i j:Int):ajz (.int i) (.int j)=if 0<j/\j<1000000000000000000000000000000000000000000000000000000000000 then ZZ (.v (.tup [.int (i / j),.int (i % j)])) else ZY:=rfl
@[simp] theorem a7u(i:Nat)(g:List D->List D->Option (D×List D))(ms:M (List D)):mMut i g ms ρ=((mOwn i).bind λ_=>ms.bind λds=>(mOwn i).bind λl=>(lift (g l ds)).bind λr=>(abw i r.2).bind λ_=>ret r.1) ρ:=rfl
@[simp] theorem a0j(l:List D)(d:D):ahb l [d]=if l.length<capS then ZZ (.non,l++[d]) else ZY:=rfl
@[simp] theorem a5u:fu ρ=ZZ (.ok [],ρ):=rfl
@[simp] theorem a3n(m:M D)(ms:M (List (Option D))):az m ms ρ=(m.bind λd=>ms.bind λds=>ret (ZZ d::ds)) ρ:=rfl
@[simp] theorem a3m(j:Nat)(ms:M (List (Option D))):bw j ms ρ=((gr j).bind λ_=>ms.bind λds=>ret (ZY::ds)) ρ:=rfl
@[simp] theorem a9q(f:Fd)(js:List (Option Nat))(ms:M (List (Option D))):mFn f js ms ρ=(ms.bind λds ρ=>if okJs ρ js=ZX then match f (lend ρ js ds) with
  |some (.ok r,ps)=>ZZ (.ok r,putB ρ js ps)
  |some (.exc x,ps)=>ZZ (.exc x,putB ρ js ps)
  |none=>ZY
 else ZY) ρ:=rfl
@[simp] theorem a5x(src:List (Option Nat))(mi:M (List D))(b:D->Ro->Option Ro)(mc:M Bool)(me:M D):zc src mi b mc me ρ=(mi.bind λl ρ=>if okJs ρ src=ZX then match compD b mc me l [] (lend ρ src (src.map λ_=>ZY)) with
  |some (.ok ys,ps)=>if ys.length<=capS then ZZ (.ok (.fr ys),putB ρ src ps) else ZY
  |some (.exc x,ps)=>ZZ (.exc x,putB ρ src ps)
  |none=>ZY
 else ZY) ρ:=rfl
@[simp] theorem a5m:okJs ρ []=ZX:=rfl
@[simp] theorem a3f(r:List (Option Nat)):okJs ρ (ZY::r)=okJs ρ r:=rfl
@[simp] theorem a3e(j:Nat)(r:List (Option Nat)):okJs ρ (ZZ j::r)=((match ρ[j]? with
  |some (.own _ _) => !r.contains (ZZ j)
  |_=>ZX)&&okJs ρ r):=rfl
@[simp] theorem lend_eq(js:List (Option Nat))(ds:List (Option D)):lend ρ js ds=(rQ js ds).mapIdx λi p=>agy ρ i p.1 p.2:=rfl
@[simp] theorem a08(i j:Nat)(d:Option D):agy ρ i (ZZ j) d=match ρ[j]? with
  |some (.val d)=>.val d
  |some (.own _ l)=>.own (ZZ i) l
  |_=>.emp:=rfl
@[simp] theorem a8a(i:Nat)(d:D):agy ρ i ZY (ZZ d)=.val d:=rfl
@[simp] theorem a8b(i:Nat):agy ρ i ZY ZY=.emp:=rfl
@[simp] theorem a7g(js:List (Option Nat))(ps:Ro):putB ρ js ps=ρ.mapIdx λj s=>putS js ps j s:=rfl
@[simp] theorem a7f(js:List (Option Nat))(ps:Ro)(j:Nat)(s:Sl):putS js ps j s=match js.findIdx? (λo=>o==ZZ j) with
 |none=>s
 |some i=>match s with
  |.own t _=>match ps[i]? with
   |some (.own (ZZ i') l')=>if i'=i then .own t l' else .emp
   |_=>.emp
  |s=>s:=rfl
@[simp] theorem a9v(nl np:Nat)(g:Sd):fnD nl np g ρ=match g (ρ++aD (nl-np) .emp) with
 |some (.ret r,ρ)=>ZZ (.ok r,ρ.take np)
 |some (.nx,ρ)=>ZZ (.ok (.v .non),ρ.take np)
 |some (.exc x,ρ)=>ZZ (.exc x,ρ.take np)
 |_=>ZY:=rfl
@[simp] theorem a9y:dNx ρ=ZZ (.nx,ρ):=rfl
@[simp] theorem a87(g k:Sd):dSeq g k ρ=match g ρ with
 |some (.nx,ρ1)=>k ρ1
 |r=>r:=rfl
@[simp] theorem a93(m:M α)(k:α->Sd):dM m k ρ=match m ρ with
 |some (.ok x,ρ1)=>k x ρ1
 |some (.exc x,ρ1)=>ZZ (.exc x,ρ1)
 |none=>ZY:=rfl
@[simp] theorem a88(m:M Rv):dRet m ρ=dM m (λr ρ=>ZZ (.ret r,ρ)) ρ:=rfl
@[simp] theorem a9z(m:M Bool)(g k:Sd):dIf m g k ρ=dM m (λz=>if z=ZX then g else k) ρ:=rfl
@[simp] theorem a6r(m:M α):xr m ρ=dM m (λ_ ρ=>ZZ (.nx,ρ)) ρ:=rfl
@[simp] theorem a86(i:Nat)(m:M Rv):dSet i m ρ=dM m (λr ρ=>ZZ (.nx,bZ ρ i r.sl)) ρ:=rfl
@[simp] theorem a9b(m:M D)(b:D->Ro->Option Ro):dAsg m b ρ=dM m (λd ρ=>(b d ρ).map λρ'=>(.nx,ρ')) ρ:=rfl
@[simp] theorem a89(i j:Nat)(m:M (List D)):dPar i j m ρ=dM m (λds ρ=>match ds with
 | [d,d']=>ZZ (.nx,bZ (bZ ρ i (.val d)) j (.val d'))
 |_=>ZY) ρ:=rfl
@[simp] theorem a85(i:Nat)(mi m:M D):dSub i mi m ρ=(dM m λd=>dM (mOwn i) λ_=>dM mi λk=>dM (mOwn i) λl=>dM (lift ((asI k).bind (ixN l.length))) λj=>dM (abw i (l.set j d)) λ_=>dNx) ρ:=rfl
@[simp] theorem a9a(m:M (List D))(b:D->Ro->Option Ro)(g:Sd):dFor m b g ρ=dM m (forD b g) ρ:=rfl
@[simp] theorem a6s(i:Nat)(d:D):ir i d ρ=ZZ (bZ ρ i (.val d)):=rfl
@[simp] theorem a9e:bNil [] ρ=ZZ ρ:=rfl
@[simp] theorem a6t(b:D->Ro->Option Ro)(bs:List D->Ro->Option Ro)(d:D)(r:List D):qj b bs (d::r) ρ=(b d ρ).bind (bs r):=rfl
@[simp] theorem a9d(n:Nat)(bs:List D->Ro->Option Ro)(l:List D):bTup n bs (.tup l) ρ=if l.length=n then bs l ρ else ZY:=rfl
end
section
variable(c:Prop)[Decidable c](b:Bool)(ρ:Ro)
@[simp] theorem a8d:(if c then ZZ (Out.ok (D.bl b),ρ) else ZZ (Out.ok (D.bl ZW),ρ))=ZZ (.ok (.bl (decide c&&b)),ρ):=by by_cases h:c <;> simp[h]
end
@[simp] theorem di{n:Nat}(h:n<=1000):n<=capS:=cW h (by decide)
@[simp] theorem a8k(ds:List D):gTup ds=if ds.length<=capS then ZZ (.tup ds) else ZY:=rfl
@[simp] theorem a8m(ds:List D):gLst ds=if ds.length<=capS then ZZ (.fr ds) else ZY:=rfl
@[simp] theorem an3{α:Type}(l:List α)(f:α->Bool):aau (l.map λd=>D.bl (f d))=ZZ (l.map f):=by
 have:=afb (l.map f);rw[jM] at this;exact this
def aeh(s:Sl):List D->Sl
 | []=>s
 |d::r=>aeh (.val d) r
theorem aeo{me:M D}{rest:Ro}{f:D->D}:∀{l:List D} {ys:List D} {s:Sl},(∀d∈l,me (.val d::rest)=ZZ (.ok (f d),.val d::rest))->compD (ir 0) (ret ZX) me l ys (s::rest)=ZZ (.ok (ys++l.map f),aeh s l::rest)
 | [],ys,s,_=>by simp[compD,aeh]
 |d::r,ys,s,h=>by
  have h1:=h d (aZ ..);have ih:=aeo (me:=me) (rest:=rest) (f:=f) (l:=r) (ys:=ys++[f d]) (s:=.val d) λx hx=>h x (aR _ hx)
  simp[compD,h1,ih,aeh]
theorem wz{mc:M Bool}{me:M D}{rest:Ro}{p:D->Bool}{f:D->D}:∀{l:List D} {ys:List D} {s:Sl},(∀d∈l,mc (.val d::rest)=ZZ (.ok (p d),.val d::rest))->(∀d∈l,p d=ZX->me (.val d::rest)=ZZ (.ok (f d),.val d::rest)) ->
  compD (ir 0) mc me l ys (s::rest)=ZZ (.ok (ys++(l.filter p).map f),aeh s l::rest)
 | [],ys,s,_,_=>by simp[compD,aeh]
 |d::r,ys,s,hc,h=>by
  have h0:=hc d (aZ ..);cases hp:p d with
  |true=>
   have h1:=h d (aZ ..) hp;have ih:=wz (mc:=mc) (me:=me) (rest:=rest) (p:=p) (f:=f) (l:=r) (ys:=ys++[f d]) (s:=.val d) (λx hx=>hc x (aR _ hx)) λx hx=>h x (aR _ hx)
   simp[compD,h0,h1,ih,aeh,hp]
  |false=>
   have ih:=wz (mc:=mc) (me:=me) (rest:=rest) (p:=p) (f:=f) (l:=r) (ys:=ys) (s:=.val d) (λx hx=>hc x (aR _ hx)) λx hx=>h x (aR _ hx)
   simp[compD,h0,ih,aeh,hp]
@[simp] theorem a6q(b:D->Ro->Option Ro)(g:Sd)(ρ:Ro):forD b g [] ρ=ZZ (.nx,ρ):=rfl
theorem ab2(b:D->Ro->Option Ro)(g:Sd)(d:D)(ds:List D)(ρ:Ro):forD b g (d::ds) ρ=match b d ρ with
  |none=>ZY
  |some ρ1=>match g ρ1 with
   |some (.nx,ρ2)=>forD b g ds ρ2
   |some (.cont,ρ2)=>forD b g ds ρ2
   |some (.brk,ρ2)=>ZZ (.nx,ρ2)
   |some (.ret r,ρ2)=>ZZ (.ret r,ρ2)
   |some (.exc x,ρ2)=>ZZ (.exc x,ρ2)
   |none=>ZY:=rfl
@[simp] theorem a8w{α:Type}(p:α->Bool)(a:α)(l:List α):qM p (a::l)=if p a=ZX then ZZ 0 else (qM p l).map (· + 1):=by
 rw[List.findIdx?_cons]
@[simp] theorem a9w{α:Type}(p:α->Bool):qM p ([]:List α)=ZY:=rfl
theorem aue(ns:List Int)(lo hi:Option Int):∃ms:List Int,cutD (ns.map D.int) lo hi=ms.map D.int/\ms.length<=ns.length:=by
 refine⟨(ns.drop (HT.sIx ns.length 0 lo)).take (HT.sIx ns.length ns.length hi-HT.sIx ns.length 0 lo),?_,?_⟩
 ·unfold cutD;rw[aL,uH,zB]
 ·rw[dX,fX];omega
theorem aen{b:D->Ro->Option Ro}{g:Sd}(Inv:Nat->Ro->Prop):∀{l:List D} {ρ:Ro} (k:Nat),Inv k ρ->(∀i d ρ,l[i]? = ZZ d->Inv (k+i) ρ->∃ρ1 ρ2,b d ρ=ZZ ρ1/\(g ρ1=ZZ (.nx,ρ2)∨g ρ1=ZZ (.cont,ρ2))/\Inv (k+i+1) ρ2) ->
  ∃ρ',forD b g l ρ=ZZ (.nx,ρ')/\Inv (k+l.length) ρ'
 | [],ρ,k,h0,_=>⟨ρ,rfl,h0⟩
 |d::r,ρ,k,h0,hs=>by
  obtain⟨ρ1,ρ2,e1,e2,h1⟩:=hs 0 d ρ rfl h0;obtain⟨ρ',e3,h3⟩:=aen (b:=b) (g:=g) Inv (l:=r) (ρ:=ρ2) (k+1) h1 λi x ρ hx hi=>by
   have:=hs (i+1) x ρ (by simpa using hx) ((show k+(i+1)=k+1+i by omega)▸hi)
   have e:k+(i+1)+1=k+1+i+1:=by omega
   rw[e] at this;exact this
  refine⟨ρ',?_,?_⟩
  ·rw[ab2,e1];rcases e2 with e2 |e2 <;> simp only[e2] <;> exact e3
  ·have e:k+(d::r).length=k+1+r.length:=by simp;omega
   rw[e];exact h3
theorem ab8{b:D->Ro->Option Ro}{mc:M Bool}{me:M D}(Inv:Nat->List D->Ro->Prop):∀{l:List D} {ys:List D} {ρ:Ro} (k:Nat),Inv k ys ρ ->
  (∀i d ys ρ,l[i]? = ZZ d->Inv (k+i) ys ρ->∃ρ1 ρ2 z,b d ρ=ZZ ρ1/\mc ρ1=ZZ (.ok z,ρ2)/\((z=ZW/\Inv (k+i+1) ys ρ2)∨(z=ZX/\∃y ρ3,me ρ2=ZZ (.ok y,ρ3)/\Inv (k+i+1) (ys++[y]) ρ3))) ->
  ∃ys' ρ',compD b mc me l ys ρ=ZZ (.ok ys',ρ')/\Inv (k+l.length) ys' ρ'
 | [],ys,ρ,k,h0,_=>⟨ys,ρ,rfl,h0⟩
 |d::r,ys,ρ,k,h0,hs=>by
  obtain⟨ρ1,ρ2,z,e1,e2,h1⟩:=hs 0 d ys ρ rfl h0;have nxt:∀{ys':List D} {ρ':Ro},Inv (k+0+1) ys' ρ'->∃ys2 ρ2,compD b mc me r ys' ρ'=ZZ (.ok ys2,ρ2)/\Inv (k+1+r.length) ys2 ρ2:=λ{ys' ρ'} hi=>
   ab8 (b:=b) (mc:=mc) (me:=me) Inv (l:=r) (ys:=ys') (ρ:=ρ') (k+1) hi λi x ys ρ hx hi=>by
    have:=hs (i+1) x ys ρ (by simpa using hx) ((show k+(i+1)=k+1+i by omega)▸hi)
    have e:k+(i+1)+1=k+1+i+1:=by omega
    rw[e] at this;exact this
  have el:k+(d::r).length=k+1+r.length:=by simp;omega
  rw[el];rcases h1 with⟨rfl,h1⟩ |⟨rfl,y,ρ3,e3,h1⟩
  ·obtain⟨ys2,ρ4,e4,h4⟩:=nxt h1;exact⟨ys2,ρ4,by simp[compD,e1,e2,e4],h4⟩
  ·obtain⟨ys2,ρ4,e4,h4⟩:=nxt h1;exact⟨ys2,ρ4,by simp[compD,e1,e2,e3,e4],h4⟩
@[simp] theorem a8o(neg:Bool)(a b:Int):gEq neg (.int a) (.int b)=ZZ (.v (.bl (if neg then !(a==b) else (a==b)))):=rfl
@[simp] theorem a9s(neg:Bool)(a b:Bool):gEq neg (.bl a) (.bl b)=ZZ (.v (.bl (if neg then !(a==b) else (a==b)))):=rfl
section
variable{K:Fg9}{X:Cx}{e a b c:dI}{es:List dI}{pos p p2:Pos}
def aap:List D->Option (List Int)
 | []=>ZZ []
 |.int i::r=>(aap r).map (i :: ·)
 |_::_=>ZY
theorem af5:∀{l:List D} {ns:List Int},aap l=ZZ ns->l=ns.map D.int
 | [],_,h=>by cases h;rfl
 |.int b::r,bs,h=>by
  have h':(aap r).map (b :: ·)=ZZ bs:=h;cases e:aap r with
  |none=>rw[e] at h';cases h'
  |some t=>
   rw[e] at h';cases h';rw[af5 e];rfl
 |.non::_,_,h=>by cases h
 |.bl _::_,_,h=>by cases h
 |.str _::_,_,h=>by cases h
 |.tup _::_,_,h=>by cases h
 |.lst _::_,_,h=>by cases h
 |.kst _::_,_,h=>by cases h
 |.dct _::_,_,h=>by cases h
@[simp] theorem ag5(ns:List Int):aap (ns.map D.int)=ZZ ns:=by
 induction ns with
 |nil=>rfl
 |cons b r ih=>show(aap (r.map D.int)).map (b :: ·)=_;rw[ih];rfl
noncomputable def insI(x:Int):List Int->List Int
 | []=>[x]
 |y::r=>if x<=y then x::y::r else y::insI x r
def sortI:List Int->List Int
 | []=>[]
 |x::r=>insI x (sortI r)
theorem insI_perm(x:Int):∀l:List Int,(insI x l).Perm (x::l)
 | []=>.refl _
 |y::r=>by
  unfold insI;split
  ·exact .refl _
  ·exact((insI_perm x r).cons y).trans (.swap x y r)
theorem sortI_perm:∀l:List Int,(sortI l).Perm l
 | []=>.refl _
 |x::r=>(insI_perm x (sortI r)).trans ((sortI_perm r).cons x)
theorem ag7(x:Int):∀{l:List Int},l.Pairwise (· <= ·)->(insI x l).Pairwise (· <= ·)
 | [],_=>by simp[insI]
 |y::r,h=>by
  unfold insI;rw[fU] at h;split
  ·rename_i hxy;rw[fU,fU];refine⟨λz hz=>?_,h⟩
   rcases bA.mp hz with rfl |hz
   ·exact hxy
   ·exact Int.le_trans hxy (h.1 z hz)
  ·rename_i hxy;rw[fU];refine⟨λz hz=>?_,ag7 x h.2⟩
   rcases bA.mp ((insI_perm x r).mem_iff.mp hz) with rfl |hz
   ·omega
   ·exact h.1 z hz
theorem afh:∀l:List Int,(sortI l).Pairwise (· <= ·)
 | []=>.nil
 |x::r=>ag7 x (afh r)
theorem aic:∀{l k:List Int},l.Perm k->l.Pairwise (· <= ·)->k.Pairwise (· <= ·)->l=k
 | [],k,h,_,_=>h.nil_eq
 |x::r,[],h,_,_=>absurd h.length_eq (by simp)
 |x::r,y::t,h,hl,hk=>by
  rw[fU] at hl hk;have e:x=y:=by
   have h1:x∈y::t:=h.mem_iff.mp (aZ ..);have h2:y∈x::r:=h.mem_iff.mpr (aZ ..);rcases bA.mp h1 with h1 |h1
   ·exact h1
   ·rcases bA.mp h2 with h2 |h2
    ·exact h2.symm
    ·have a:=hk.1 x h1;have b:=hl.1 y h2;omega
  subst e;rw[aic ((List.perm_cons x).mp h) hl.2 hk.2]
def avm{l k:List Int}(h:l.Perm k)(hs:l.Pairwise (· <= ·)):l=sortI k:=aic (h.trans (sortI_perm k).symm) hs (afh k)
theorem afg:∀{ns:List Int} {us:List aG},oN us ns->Vals (ns.map V.int) us
 |_,_,.nil=>.nil
 |_,_,.cons n t h=>.cons ⟨t,rfl⟩ (afg h)
end
section
variable{K:Fg9}{X:Cx}{e a b c:dI}{es:List dI}{pos p p2:Pos}
def aer(lt:Int->Int->Bool):List Int->Int
 | []=>0
 |x::r=>r.foldl (λm y=>if lt y m=ZX then y else m) x
theorem auv(lt:Int->Int->Bool)(ns:List Int):∀k,k<ns.length->qC (λi j=>lt (ns.getD i 0) (ns.getD j 0)) k<=k/\ns.getD (qC (λi j=>lt (ns.getD i 0) (ns.getD j 0)) k) 0=aer lt (ns.take (k+1))
 | 0,h=>by
  cases ns with
  |nil=>simp at h
  |cons x r=>exact⟨Nat.le_refl _,rfl⟩
 |k+1,h=>by
  obtain⟨h1,h2⟩:=auv lt ns k (by omega)
  have ht:ns.take (k+1+1)=ns.take (k+1)++[ns.getD (k+1) 0]:=by
   rw[List.take_add_one,aF h];simp[List.getD,aF h]
  have hb:aer lt (ns.take (k+1+1))=if lt (ns.getD (k+1) 0) (aer lt (ns.take (k+1)))=ZX then ns.getD (k+1) 0 else aer lt (ns.take (k+1)):=by
   rw[ht];cases ns with
   |nil=>simp at h
   |cons x r=>simp[aer,List.foldl_append]
  have ha:qC (λi j=>lt (ns.getD i 0) (ns.getD j 0)) (k+1)=if lt (ns.getD (k+1) 0) (ns.getD (qC (λi j=>lt (ns.getD i 0) (ns.getD j 0)) k) 0)=ZX then k+1 else qC (λi j=>lt (ns.getD i 0) (ns.getD j 0)) k:=rfl
  rw[hb,<-h2,ha]
  by_cases hc:lt (ns.getD (k+1) 0) (ns.getD (qC (λi j=>lt (ns.getD i 0) (ns.getD j 0)) k) 0)=ZX
  ·rw[if_pos hc,if_pos hc];exact⟨Nat.le_refl _,rfl⟩
  ·rw[if_neg hc,if_neg hc];exact⟨by omega,rfl⟩
def aw6(lt:Int->Int->Bool)(ns:List Int)(h:ns≠[]):qC (λi j=>lt (ns.getD i 0) (ns.getD j 0)) (ns.length-1)<ns.length/\ns.getD (qC (λi j=>lt (ns.getD i 0) (ns.getD j 0)) (ns.length-1)) 0=aer lt ns:=by
 have hl:0<ns.length:=mW.mpr h;obtain⟨h1,h2⟩:=auv lt ns (ns.length-1) (by omega)
 refine⟨by omega,?_⟩
 rw[h2,show ns.length-1+1=ns.length by omega,oX]
def a4l(lt:Int->Int->Bool):D->Option Rv
 |.lst l=>(aap l).bind λns=>if ns=[] then ZY else ZZ (.v (.int (aer lt ns)))
 |.tup l=>(aap l).bind λns=>if ns=[] then ZY else ZZ (.v (.int (aer lt ns)))
 |_=>ZY
theorem ant{lt:Int->Int->Bool}{d:D}{r:Rv}(h:a4l lt d=ZZ r):∃ns:List Int,ns≠[]/\r=.v (.int (aer lt ns))/\(d=.lst (ns.map D.int)∨d=.tup (ns.map D.int)):=by
 have go:∀l,(aap l).bind (λns=>if ns=[] then ZY else ZZ (Rv.v (.int (aer lt ns))))=ZZ r->∃ns:List Int,ns≠[]/\r=.v (.int (aer lt ns))/\l=ns.map D.int:=λl h=>by
  cases e:aap l with
  |none=>rw[e] at h;cases h
  |some ns=>
   rw[e] at h;have h:(if ns=[] then ZY else ZZ (Rv.v (.int (aer lt ns))))=ZZ r:=h
   split at h
   ·cases h
   ·rename_i hn;cases h;exact⟨ns,hn,rfl,af5 e⟩
 cases d with
 |lst l=>obtain⟨ns,h1,h2,rfl⟩:=go l h;exact⟨ns,h1,h2,.inl rfl⟩
 |tup l=>obtain⟨ns,h1,h2,rfl⟩:=go l h;exact⟨ns,h1,h2,.inr rfl⟩
 |_=>cases h
def ag6{ns:List Int}{its:List aG}(rv:Vals (ns.map V.int) its)(i:Nat)(v:aG)(h:its.toArray[i]? = ZZ v):∃t,v=.int (ns.getD i 0) t:=by
 have h:its[i]? = ZZ v:=by simpa using h
 have hi:i<its.length:=(aK.mp h).1;have hl:=rv.length;rw[aL] at hl;have hi':i<ns.length:=by omega
 obtain⟨u,hu,t,rfl⟩:=rv.get (i:=i) (x:=V.int ns[i]) (by rw[aX,aF hi'];rfl)
 rw[h] at hu;cases hu;exact⟨t,by simp[List.getD,aF hi']⟩
def awq:D->Option Rv:=a4l λi j=>decide (i<j)
def auk(hc:X.calm=ZX):CallD K X (.builtin "min") (g1 awq):=ahn λhk zv s σ0 H x u Q tg F ρ σ d r I ru G bd eg q=>by
 subst hk;obtain⟨ns,hn,rfl,hd⟩:=ant eg;have q':=ub G q (.int _);obtain⟨hb1,hb2⟩:=aw6 (λi j=>decide (i<j)) ns hn
 have fin:∀{its:List aG} (rv:Vals (ns.map V.int) its) {v:aG} {h':eE} {tk:Nat},its.toArray[qC (λi j=>decide (ns.getD i 0<ns.getD j 0)) (its.toArray.size-1)]? = ZZ v->(∀b o,s.heap.get? b=ZZ o->h'.get? b=ZZ o)->EP X zv σ0 Q v { s with heap:=h',toks:=tk }:=λ{its} rv {v h' tk} hv hk=>by
  have hl:=rv.length;rw[aL] at hl;rw[aW,<-hl] at hv;obtain⟨t,rfl⟩:=ag6 rv _ v hv;exact⟨.int (aer (λi j=>decide (i<j)) ns),H,I.kept hk,⟨t,by rw[hb2]⟩,q'⟩
 rcases hd with rfl |rfl
 ·obtain⟨a,vs,rfl,ea,hl⟩:=bd.lst G.sub;rw[hl.int_inv] at ea;cases ru;obtain⟨its,rv,pl,_⟩:=I.list (SqL.of ea);have hl':=pl.isList;have hlt:a<s.heap.objs.size:=by obtain⟨_,e,_⟩:=hl';exact aN e
  have hlen:=rv.length;rw[aL] at hlen;refine call_min_walk (wpAny_pyIter_list hl' ⟨s.heap.objs.size,[s.heap.objs.size,a],[s.heap.objs.size],its.toArray.size,_,_,_,rfl,wI (A:=X.A.in1) (I.ok.hd hc) _ a (bI hlt) its.toArray,
   ⟨⟨_,aM _ rfl,rfl,rfl⟩,hl'.push _⟩,λb hb=>?_,?_,zF (λi=>ns.getD i 0) (λi v=>ag6 rv i v),λv h' tk hP hk=>fin rv hP (qQ hk)⟩)
  ·have hs:∀o:Obj,(s.heap.push o).objs.size=s.heap.objs.size+1:=λo=>bU ..
   show b<(s.heap.push _).objs.size;rw[hs];rcases bA.mp hb with hb |hb
   ·exact hb▸Nat.lt_succ_self _
   ·have hb:b=a:=by simpa using hb
    exact hb▸Nat.lt_succ_of_lt hlt
  ·rw[aW,<-hlen];exact mW.mpr hn
 ·obtain⟨a,vs,rfl,ea,hl⟩:=bd.tup;rw[hl.int_inv] at ea;cases ru;obtain⟨its,rv,pl,_⟩:=I.tuple (SqT.of (G.sub _ _ ea));have hlt:a<s.heap.objs.size:=by obtain⟨_,e,_⟩:=pl;exact aN e
  have hlen:=rv.length;rw[aL] at hlen;refine call_min_walk (wpAny_pyIter_tuple pl ⟨s.heap.objs.size,[s.heap.objs.size,a],[s.heap.objs.size],its.toArray.size,_,_,_,rfl,Walks.tuple (A:=X.A.in1) (I.ok.hd hc) _ a (bI hlt) its.toArray,
   ⟨⟨_,aM _ rfl,rfl,rfl⟩,pl.push _⟩,λb hb=>?_,?_,zF (λi=>ns.getD i 0) (λi v=>ag6 rv i v),λv h' tk hP hk=>fin rv hP (qQ hk)⟩)
  ·have hs:∀o:Obj,(s.heap.push o).objs.size=s.heap.objs.size+1:=λo=>bU ..
   show b<(s.heap.push _).objs.size;rw[hs];rcases bA.mp hb with hb |hb
   ·exact hb▸Nat.lt_succ_self _
   ·have hb:b=a:=by simpa using hb
    exact hb▸Nat.lt_succ_of_lt hlt
  ·rw[aW,<-hlen];exact mW.mpr hn
end
section
variable{K:Fg9}{X:Cx}{e a b c:dI}{es:List dI}{pos p p2:Pos}
def rmOf(K:Fg9)(g:D->List D->Option D):V->List V->Hp->VK->Prop:=λx vs H Q=>∃F d ds r,Same F H/\Bor K F H d x/\IsL K F ds vs/\g d ds=ZZ r/\∀v,Is K F r v->Q v H
def az7(i:Nat)(g:D->List D->Option D)(ms:M (List D)):M D:=(gr i).bind λd0=>(lift (match d0 with
 |.lst _=>ZZ ()
 |_=>ZY)).bind λ_=>ms.bind λds=>(gr i).bind λd=>lift (g d ds)
def at4{i:Nat}{name:Str}{id:String}{g:D->List D->Option D}{ms:M (List D)}{apos cpos:Pos}(slot:Slot "list" name id)(hty:typeOf (.builtin id)=pure (.type "method_descriptor"))(hm:X.K=K->MtR X id (rmOf K g))(ho:PE X a (tVar i))(ha:ED K X (e::es) ms)
  (hbase:fQ a name X.env (eval a X.env)=eval a X.env:=by rfl)
  (hfew:((gC cpos (aO (e::es) X.env)).all (λx => !x.1)&&(backToKw cpos (keywordEach [] X.env)).all (λx=>x.1.isSome)
   && decide ((e::es).length+([]:List qG).length+(if ([]:List qG).isEmpty then 0 else 1)<30))=ZX:=by rfl)
  (hline:(apos.endLine==cpos.line)=ZX:=by rfl) (hs:Zc X e es:=by rfl) (hplain:(gC cpos (aO es X.env)).any (·.1)=ZW:=by rfl) :
  EV K X (.Call (.Attribute a name apos) (e::es) [] cpos) (az7 i g ms):=EV.mk λhk=>PE.imp (av0 oK slot hty (hm hk) ho (ha hk) hbase hfew hline hs hplain) λσ H Q z9=>by
 obtain⟨tg,F,ρ,d,ρ',G,em,q⟩:=z9;obtain⟨d0,ρ0,e0,em1⟩:=bf em;obtain⟨u0,ρ9,e9,em2⟩:=bf em1;obtain⟨ds,ρ1,e1,em3⟩:=bf em2;obtain⟨d1,ρ2,e2,em4⟩:=bf em3;obtain⟨e3,rfl⟩:=ik em4;obtain⟨e9,rfl⟩:=ik e9;obtain⟨rfl,v,hv,bv⟩:=ph G e0;have ty:∃b,v=.ref b/\∃xs,SqL X.K H b xs:=by
  cases d0 with
  |lst l=>
   obtain⟨b,xs,rfl,hb,_⟩:=bv.lst G.sub;exact⟨b,rfl,xs,SqL.of hb⟩
  |_=>cases e9
 obtain⟨b,rfl,hty'⟩:=ty;refine⟨_,hv,.inl ⟨rfl,hty'⟩,tg,F,_,ds,ρ1,G,e1,λvs H1 F1 G1 x1 r1=>?_⟩
 obtain⟨rfl,v',hv',b'⟩:=ph G1 e2;rw[hv] at hv';cases hv';exact⟨F1,d1,ds,d,G1.sub,b',r1,e3,λw iw=>q w H1 F1 G1 x1 iw⟩
def atp(d:D)(ds:List D):Option D:=match d,ds with
 |.lst l,[x]=>if okD 30 x&&l.all (okD 30) then ZZ (.int (l.countP λy=>eqD y x)) else ZY
 |_,_=>ZY
theorem ab7{zv:List (aQ×Obj)}{σ:L2.St}{F H:Hp}{s:aJ}(I:Inv X zv σ H s)(g:Same F H){a:D}{n:Nat}:∀{ds:List D} {vs:List V} {us:List aG},IsL X.K F ds vs->ds.all (okD n)=ZX->Vals vs us ->
  us.countP (aag s.heap (toPy a))=ds.countP (λy=>eqD y a)
 |_,_,_,.nil,_,r=>by cases r;rfl
 |_,_,_,.cons h t,k,r=>by
  rw[jX,bB] at k;cases r with
  |cons r1 r2=>
   obtain⟨as,ra⟩:=zu I g h k.1 r1;obtain⟨c,p⟩:=abv _ _ k.1;rw[yD,yD,ab7 I g t k.2 r2,af7 ra c];rfl
theorem av9(hu:X.A.units+64<cLine):X.K=K->MtR X "list.count" (rmOf K atp):=λhk=>by
 subst hk;intro zv s σ H x vs v us Q I rx rv z9;obtain⟨F,d,ds,r,g,bd,il,eg,q⟩:=z9
 match d,ds,eg with
 |.lst l,[y],eg=>
  have eg:(if okD 30 y&&l.all (okD 30) then ZZ (D.int (l.countP λz=>eqD z y)) else ZY)=ZZ r:=eg
  split at eg
  ·rename_i ho;rw[bB] at ho;cases eg;cases il with
   |cons hy t=>
    cases t;obtain⟨u,rfl,ru⟩:=rv.one;obtain⟨p,ws,rfl,ea,hl⟩:=bd.lst g;cases rx;obtain⟨its,rw',pl,_⟩:=I.list (SqL.of ea);obtain⟨as,ra⟩:=zu I g hy ho.1 ru;obtain⟨_,z⟩:=w6 I g (a:=y) hl ho.2 rw';obtain⟨⟨cls,dd,data,sl⟩,h1,hc,n,hd⟩:=pl.isList;simp only at hc hd;subst hc hd;refine kY uD ⟨_,h1,rfl⟩ PySem.F.entry_list_count (PySem.F.args_list_count_2 _ _) (SeqAt.list_countAt p its.toArray n dd sl u (aag s.heap (toPy y))) ⟨h1,λw hw=>?_,?_⟩
    ·exact vp (A:=X.A) hu ra ho.1 z w (by simpa using hw)
    ·refine⟨.int (l.countP λz=>eqD z y),H,I.tok _,⟨s.toks,?_⟩,q _ (.int _)⟩
     rw[ab7 I g (a:=y) hl ho.2 rw']
  ·cases eg
def ato(d:D)(ds:List D):Option D:=match d,ds with
 |.tup l,[x]=>if okD 30 x&&l.all (okD 30) then ZZ (.int (l.countP λy=>eqD y x)) else ZY
 |_,_=>ZY
theorem asy(hu:X.A.units+64<cLine):X.K=K->MtR X "tuple.count" (rmOf K ato):=λhk=>by
 subst hk;intro zv s σ H x vs v us Q I rx rv z9;obtain⟨F,d,ds,r,g,bd,il,eg,q⟩:=z9
 match d,ds,eg with
 |.tup l,[y],eg=>
  have eg:(if okD 30 y&&l.all (okD 30) then ZZ (D.int (l.countP λz=>eqD z y)) else ZY)=ZZ r:=eg
  split at eg
  ·rename_i ho;rw[bB] at ho;cases eg;cases il with
   |cons hy t=>
    cases t;obtain⟨u,rfl,ru⟩:=rv.one;obtain⟨p,ws,rfl,ea,hl⟩:=bd.tup;cases rx;obtain⟨its,rw',pl,_⟩:=I.tuple (SqT.of (g _ _ ea));obtain⟨as,ra⟩:=zu I g hy ho.1 ru;obtain⟨_,z⟩:=w6 I g (a:=y) hl ho.2 rw';obtain⟨⟨cls,dd,data,sl⟩,h1,hc,n,hd⟩:=pl;simp only at hc hd;subst hc hd;refine kY tY ⟨_,h1,rfl⟩ PySem.F.entry_tuple_count (PySem.F.args_tuple_count_2 _ _) (SeqAt.tuple_countAt p its.toArray n dd sl u (aag s.heap (toPy y))) ⟨h1,λw hw=>?_,?_⟩
    ·exact vp (A:=X.A) hu ra ho.1 z w (by simpa using hw)
    ·refine⟨.int (l.countP λz=>eqD z y),H,I.tok _,⟨s.toks,?_⟩,q _ (.int _)⟩
     rw[ab7 I g (a:=y) hl ho.2 rw']
  ·cases eg
def PE.or{t1 t2:TE}(h1:PE X e t1)(h2:PE X e t2):PE X e λσ H Q=>t1 σ H Q∨t2 σ H Q:=λzv s σ H Q I h=>h.elim (h1 zv s σ H Q I) (h2 zv s σ H Q I)
def aj0(d:D)(ds:List D):Option D:=match d with
 |.lst _=>atp d ds
 |.tup _=>ato d ds
 |_=>ZY
def as4(i:Nat)(ms:M (List D)):M D:=(gr i).bind λd0=>ms.bind λds=>(gr i).bind λd=>(lift (match d0,d with
 |.lst _,.lst _=>ZZ ()
 |.tup _,.tup _=>ZZ ()
 |_,_=>ZY)).bind λ_=>lift (aj0 d ds)
theorem aw1{d0 d:D}{u:Unit} (h:(match d0,d with
 |.lst _,.lst _=>ZZ ()
 |.tup _,.tup _=>ZZ ()
 |_,_=>ZY)=ZZ u):(∃l l1,d0=.lst l/\d=.lst l1)∨∃l l1,d0=.tup l/\d=.tup l1:=by
 split at h
 ·exact .inl ⟨_,_,rfl,rfl⟩
 ·exact .inr ⟨_,_,rfl,rfl⟩
 ·cases h
def ao8{i:Nat}{ms:M (List D)}{apos cpos:Pos}(hu:X.A.units+64<cLine)(ho:PE X a (tVar i))(ha:ED K X (e::es) ms)
  (hbase:fQ a "count" X.env (eval a X.env)=eval a X.env:=by rfl)
  (hfew:((gC cpos (aO (e::es) X.env)).all (λx => !x.1)&&(backToKw cpos (keywordEach [] X.env)).all (λx=>x.1.isSome)
   && decide ((e::es).length+([]:List qG).length+(if ([]:List qG).isEmpty then 0 else 1)<30))=ZX:=by rfl)
  (hline:(apos.endLine==cpos.line)=ZX:=by rfl) (hs:Zc X e es:=by rfl) (hplain:(gC cpos (aO es X.env)).any (·.1)=ZW:=by rfl) :
  EV K X (.Call (.Attribute a "count" apos) (e::es) [] cpos) (as4 i ms):=EV.mk λhk=>PE.imp (PE.or (av0 oK uD PySem.F.type_list_count (av9 hu hk) ho (ha hk) hbase hfew hline hs hplain) (av0 PySem.F.plainAttrs_tuple tY PySem.F.type_tuple_count (asy hu hk) ho (ha hk) hbase hfew hline hs hplain)) λσ H Q z9=>by
 obtain⟨tg,F,ρ,d,ρ',G,em,q⟩:=z9;obtain⟨d0,ρ0,e0,em1⟩:=bf em;obtain⟨ds,ρ1,e1,em3⟩:=bf em1;obtain⟨d1,ρ2,e2,em4⟩:=bf em3;obtain⟨u0,ρ9,e9,em5⟩:=bf em4;obtain⟨e3,rfl⟩:=ik em5;obtain⟨g9,rfl⟩:=ik e9;obtain⟨rfl,v,hv,bv⟩:=ph G e0;rcases aw1 g9 with⟨l,l1,rfl,rfl⟩ |⟨l,l1,rfl,rfl⟩
 ·obtain⟨b,xs,rfl,hb,_⟩:=bv.lst G.sub;refine .inl ⟨_,hv,.inl ⟨rfl,xs,SqL.of hb⟩,tg,F,_,ds,ρ1,G,e1,λvs H1 F1 G1 x1 r1=>?_⟩
  obtain⟨rfl,v',hv',b'⟩:=ph G1 e2;rw[hv] at hv';cases hv';exact⟨F1,.lst l1,ds,d,G1.sub,b',r1,e3,λw iw=>q w H1 F1 G1 x1 iw⟩
 ·obtain⟨b,xs,rfl,hb,_⟩:=bv.tup;refine .inr ⟨_,hv,.inr (.inl ⟨rfl,.inr ⟨xs,G.sub _ _ hb⟩⟩),tg,F,_,ds,ρ1,G,e1,λvs H1 F1 G1 x1 r1=>?_⟩
  obtain⟨rfl,v',hv',b'⟩:=ph G1 e2;rw[hv] at hv';cases hv';exact⟨F1,.tup l1,ds,d,G1.sub,b',r1,e3,λw iw=>q w H1 F1 G1 x1 iw⟩
def atk(d:D)(ds:List D):Option D:=match d,ds with
 |.lst l,[x]=>if okD 30 x&&l.all (okD 30) then (l.findIdx? λy=>eqD y x).map λi=>.int i else ZY
 |_,_=>ZY
def aph{zv:List (aQ×Obj)}{σ:L2.St}{F H:Hp}{s:aJ}(I:Inv X zv σ H s)(g:Same F H){a:D}{n:Nat}{ds:List D}{vs:List V}{us:List aG}(il:IsL X.K F ds vs)(k:ds.all (okD n)=ZX)(rv:Vals vs us)(i:Nat)(hi:i<us.length)(hd:i<ds.length) :
  aag s.heap (toPy a) us[i]=eqD ds[i] a:=by
 obtain⟨v,hv,iv⟩:=il.get (i:=i) (aF hd);obtain⟨u,hu,ru⟩:=rv.get hv;rw[aF hi] at hu;cases hu;have ko:okD n ds[i]=ZX:=cR.mp k _ (dJ hd);obtain⟨as,ra⟩:=zu I g iv ko ru;rw[af7 ra (abv _ _ ko).1];rfl
theorem aoo(hu:X.A.units+64<cLine):X.K=K->MtR X "list.index" (rmOf K atk):=λhk=>by
 subst hk;intro zv s σ H x vs v us Q I rx rv z9;obtain⟨F,d,ds,r,g,bd,il,eg,q⟩:=z9
 match d,ds,eg with
 |.lst l,[y],eg=>
  have eg:(if okD 30 y&&l.all (okD 30) then (l.findIdx? λz=>eqD z y).map (λi=>D.int i) else ZY)=ZZ r:=eg
  split at eg
  ·rename_i ho;rw[bB] at ho;cases ei:l.findIdx? (λz=>eqD z y) with
   |none=>rw[ei] at eg;cases eg
   |some j=>
    rw[ei] at eg;cases eg;obtain⟨hj,hhit,hno⟩:=lK.mp ei;cases il with
    |cons hy t=>
     cases t;obtain⟨u,rfl,ru⟩:=rv.one;obtain⟨p,ws,rfl,ea,hl⟩:=bd.lst g;cases rx;obtain⟨its,rw',pl,hz⟩:=I.list (SqL.of ea);have l1:=hl.length;have l2:=rw'.length;rw[gF] at hz;obtain⟨as,ra⟩:=zu I g hy ho.1 ru;obtain⟨_,z⟩:=w6 I g (a:=y) hl ho.2 rw';obtain⟨⟨cls,dd,data,sl⟩,h1,hc,n,hd⟩:=pl.isList;simp only at hc hd;subst hc hd;have hj':j<its.toArray.size:=by rw[aW];omega
     refine kY oJ ⟨_,h1,rfl⟩ PySem.F.entry_list_index (PySem.F.args_list_index_2 _ _) (SeqAt.list_indexAt p its.toArray n dd sl u (aag s.heap (toPy y)) j hj' (by omega) ?_ λm hm hlt=>?_) ⟨h1,λw hw=>?_,?_⟩
     ·have:=aph I g (a:=y) hl ho.2 rw' j (by omega) hj
      simpa[this] using hhit
     ·rw[aW] at hm;have:=aph I g (a:=y) hl ho.2 rw' m hm (by omega)
      have hn:=hno m hlt
      simpa[this] using hn
     ·exact vp (A:=X.A) hu ra ho.1 z w (by simpa using hw)
     ·exact⟨.int j,H,I.tok _,⟨_,rfl⟩,q _ (.int _)⟩
  ·cases eg
section
variable(ρ:Ro)
@[simp] theorem a5t(i:Nat)(g:D->List D->Option D)(ms:M (List D)):az7 i g ms ρ=((gr i).bind λd0=>(lift (match d0 with
 |.lst _=>ZZ ()
 |_=>ZY)).bind λ_=>ms.bind λds=>(gr i).bind λd=>lift (g d ds)) ρ:=rfl
@[simp] theorem a1a(l:List D)(x:D):atp (.lst l) [x]=if okD 30 x&&l.all (okD 30) then ZZ (.int (l.countP λy=>eqD y x)) else ZY:=rfl
@[simp] theorem a09(l:List D)(x:D):atk (.lst l) [x]=if okD 30 x&&l.all (okD 30) then (l.findIdx? λy=>eqD y x).map (λi=>D.int i) else ZY:=rfl
end
end
end Dn
namespace En
open PySem PySem.Builtin
def It1(k:Bool)(h:eE)(it l:aQ)(i:Nat):Prop:=cond k (h.IsTupleIter it l i) (h.IsListIter it l i)
def Sq1(k:Bool)(h:eE)(l:aQ)(xs:Array aG):Prop:=cond k (h.IsTuple l xs) (h.IsList l xs)
section
variable{prog:bT}{w:dB}{A:cQ}{E:aG->aJ->Prop}{s:aJ}
def azv{it t:aQ}{i:Nat}{xs:Array aG}{x:aG}{Q:aG->aJ->Prop}(h1:s.heap.IsTupleIter it t i)(h2:s.heap.IsTuple t xs)(hx:xs[i]? = ZZ x)
  (q:∀h',h'.IsTupleIter it t (i+1)->cP it s.heap h'->Q x { s with heap:=h' }):bG (bL prog w) A (SmallTypes.nextOf (.ref it)) Q E s:=by
 obtain⟨o1,e1,c1,d1⟩:=id h1;obtain⟨o2,e2,_,k2,d2⟩:=h2;have nn:¬((cH t==cM)=ZX):=cY;unfold SmallTypes.nextOf;refine aA (dU (name:=jL "__next__") h1.typeIs jY (eY jY h1.typeIs sW ?_ (rR _)));refine aA (m:=field (.ref it) 0) (cG e1 d1 (x:=.ref t) rfl ?_);show bG _ _ (if (cH t==cM)=ZX then _ else (field (.ref it) 1 >>= _)) _ _ s;rw[if_neg nn]
 refine aA (m:=field (.ref it) 1) (cG e1 d1 (x:=.int i 0) rfl ?_);refine aA (m:=seqItems? (.ref t)) (dY e2 d2 ?_);simp only[dZ,hx];refine aA (eX e1 d1 (by simp) (aH ⟨x,rfl,aH (q _ ?_ (cL ..))⟩))
 refine⟨_,bM _ e1 (eU (bQ d1 _)),(jU ..).trans c1,?_⟩;rw[bQ d1];simp[iI]
def a0v{it t:aQ}{i:Nat}{xs:Array aG}{Q:aG->aJ->Prop}(hh:A.handled=ZY)(h1:s.heap.IsTupleIter it t i)(h2:s.heap.IsTuple t xs)(hx:xs[i]? = ZY)
  (q:∀h' e,vR it s.heap h'->(∃o,h'.get? e=ZZ o/\o.cls=.type "StopIteration")->E (.ref e) { s with heap:=h' }):bG (bL prog w) A (SmallTypes.nextOf (.ref it)) Q E s:=by
 obtain⟨o1,e1,c1,d1⟩:=id h1;obtain⟨o2,e2,_,k2,d2⟩:=h2;have nn:¬((cH t==cM)=ZX):=cY;unfold SmallTypes.nextOf;refine aA (dU (name:=jL "__next__") h1.typeIs jY (eY jY h1.typeIs sW ?_ (rR _)));refine aA (m:=field (.ref it) 0) (cG e1 d1 (x:=.ref t) rfl ?_);show bG _ _ (if (cH t==cM)=ZX then _ else (field (.ref it) 1 >>= _)) _ _ s;rw[if_neg nn]
 refine aA (m:=field (.ref it) 1) (cG e1 d1 (x:=.int i 0) rfl ?_);refine aA (m:=seqItems? (.ref t)) (dY e2 d2 ?_);simp only[dZ,hx];refine aA (jF (aA (eX e1 d1 (by simp) ?_)))
 refine aA (m:=newExc (.type "StopIteration") []) ?_;simp only[newExc,newTuple];refine aA (cA ?_ (by size_fits))
 refine aA (m:=firstArgMember _ _) (wpAny_of_eq (a:=cM) (by first |rfl | (simp only[firstArgMember];rfl)) (cA ?_ (by size_fits)))
 simp only[raiseNew];refine aA (wpAny_handled ?_);first |rw[show A.in1.handled=ZY from hh] |rw[hh]
 refine aA (aH (wpAny_throw (q _ _ ?_ ⟨_,aM _ rfl,rfl⟩)));exact((cL ..).extBut.push _).push _
theorem src(hh:A.handled=ZY)(k:Bool)(it l:aQ)(ne:l≠it)(xs:Array aG):Draws prog w A it [it,l] xs.size (λi v=>xs[i]? = ZZ v) (λi h=>It1 k h it l i/\Sq1 k h l xs):=by
 cases k with
 |false=>exact Draws.list hh it l ne xs
 |true=>exact{
   live:=λ_ _ z=>let ⟨o,e,_⟩:=z.1;⟨o,e⟩
   frame:=λ_ _ _ z kk=>⟨(let ⟨o,e,r⟩:=z.1;⟨o,kk it (by simp) o e,r⟩),(let ⟨o,e,r⟩:=z.2;⟨o,kk l (by simp) o e,r⟩)⟩
   item:=λi s Q E hi z q=>azv z.1 z.2 (x:=xs[i]) (by simp[hi]) λh' z' sb=>q _ h' s.toks (by simp[hi]) ⟨z',Heap.IsTuple.extBut z.2 sb.extBut ne⟩ sb
   done:=λs Q E z q=>a0v hh z.1 z.2 (by simp) q }
def It1.at{k:Bool}{h h':eE}{it l:aQ}{i:Nat}(x:It1 k h it l i)(e:∀o,h.get? it=ZZ o->h'.get? it=ZZ o):It1 k h' it l i:=by
 cases k <;> exact(let ⟨o,z,r⟩:=x;⟨o,e _ z,r⟩)
def It1.got{k:Bool}{h:eE}{it l:aQ}{i:Nat}(x:It1 k h it l i):∃o,h.get? it=ZZ o/\∀v,o.data≠.cell v:=by
 cases k <;> exact(let ⟨o,z,_,r⟩:=x;⟨o,z,λv e=>by rw[r] at e;cases e⟩)
def Sq1.at{k:Bool}{h h':eE}{l:aQ}{xs:Array aG}(x:Sq1 k h l xs)(e:∀o,h.get? l=ZZ o->h'.get? l=ZZ o):Sq1 k h' l xs:=by
 cases k <;> exact(let ⟨o,z,r⟩:=x;⟨o,e _ z,r⟩)
def Sq1.got{k:Bool}{h:eE}{l:aQ}{xs:Array aG}(x:Sq1 k h l xs):∃o,h.get? l=ZZ o:=by
 cases k <;> exact(let ⟨o,z,_⟩:=x;⟨o,z⟩)
theorem ani{k:Bool}{l:aQ}{xs:Array aG}{Q:aG->aJ->Prop}(h:Sq1 k s.heap l xs)
  (q:Q (.ref s.heap.objs.size) { s with heap:=s.heap.push { cls:=.type (cond k "tuple_iterator" "list_iterator"),data:=.fields #[.ref l,.int 0 0] } }):bG (bL prog w) A (pyIter (.ref l)) Q E s:=by
 cases k with
 |false=>exact wpAny_pyIter_list h q
 |true=>exact wpAny_pyIter_tuple h q
def ae6{k:Bool}{h:eE}{l a:aQ}(e:h.get? a=ZZ { cls:=.type (cond k "tuple_iterator" "list_iterator"),data:=.fields #[.ref l,.int 0 0] }):It1 k h a l 0:=by
 cases k <;> exact⟨_,e,rfl,rfl⟩
end
set_option maxRecDepth 100000
abbrev eh1(k:Bool)(h:eE)(l:aQ):eE:=h.push { cls:=.type (cond k "tuple_iterator" "list_iterator"),data:=.fields #[.ref l,.int 0 0] }
abbrev eh2(k:Bool)(h:eE)(l:aQ):eE:=(eh1 k h l).push { cls:=.type "enumerate", data:=.fields #[.none,.bool ZW,.ref h.objs.size,iI 0,.none,.none] }
def az4(k:Bool)(l:aQ)(o:Obj)(xs:Array aG) :
  Meets (iM.«enumerate.__new__» ⟨[.type "enumerate", .ref l],[]⟩) (λ_ R s=>s.heap.get? l=ZZ o/\Sq1 k s.heap l xs/\R (.ok (.ret (.ref (eh1 k s.heap l).objs.size))) { s with heap:=eh2 k s.heap l }) :=
 .of_wp λprog w A R s h=>by
  obtain⟨hp,g,d,tk,os⟩:=s;obtain⟨ho,r1,h⟩:=h;have sb:=sub_enumerate;have r1:Sq1 k (oG ⟨hp,g,d,tk,os⟩) l xs:=r1;wp_walk using oF ho;refine wpAny_stack_any λst=>aH ?_
  split
  ·rename_i c _ _ _ _ _;cases(c==jG "enumerate") <;> (wp_walk using oF ho,ani r1;exact⟨_,rfl,h⟩)
  ·wp_walk using oF ho,ani r1;exact⟨_,rfl,h⟩
def aur{prog:bT}{w:dB}{A:cQ}{E:aG->aJ->Prop}{s:aJ}{k:Bool}{l:aQ}{xs:Array aG}{Q:aG->aJ->Prop}(s1:Sq1 k s.heap l xs)
  (q:∀h',IsEnum h' (s.heap.objs.size+1) s.heap.objs.size 0 .none->It1 k h' s.heap.objs.size l 0->h'.objs.size=s.heap.objs.size+2->(∀b o,s.heap.get? b=ZZ o->h'.get? b=ZZ o)->Q (.ref (s.heap.objs.size+1)) { s with heap:=h' }) :
  bG (bL prog w) A (call (.type "enumerate") [.ref l]) Q E s:=by
 obtain⟨o,ho⟩:=s1.got;refine callType_new F.called_enumerate (by decide) (F.typeCall_enumerate_1 _) (F.newCall_enumerate_1 _) (λobj=>F.args_object_init_2 obj _) F.entry_enumerate_new (az4 k l o xs) ⟨ho,s1,?_⟩
 have z1:(eh1 k s.heap l).objs.size=s.heap.objs.size+1:=bU ..
 have g2:(eh2 k s.heap l).get? (eh1 k s.heap l).objs.size=ZZ _:=aM _ rfl;have g1:(eh2 k s.heap l).get? s.heap.objs.size=ZZ _:=aB _ (aM _ rfl);rw[z1] at g2;show _/\_;rw[z1];exact⟨⟨_,g2,rfl⟩,q _ g2 (ae6 g1) (by rw[bU,z1]) λb o x=>aB _ (aB _ x)⟩
end En
namespace En
open PySem PySem.Builtin
set_option maxRecDepth 100000
def ayl(v1 v2:aG):checkTypeCall "zip" ⟨[v1,v2],[]⟩=pure ():=by kernel_rfl
def az1(v1 v2:aG):checkBuiltinCall "zip.__new__" ⟨[.type "zip", v1,v2],[]⟩=pure ():=by kernel_rfl
def a06(o v1 v2:aG):tX "object.__init__" ⟨[o,v1,v2],[]⟩:=by
 unfold tX;rw[signature?_of (id := "object.__init__") (n:=['_','_','t','i','n','i','_','_']) (o:=['t','c','e','j','b','o']) (by kernel_rfl) yV];kernel_rfl
abbrev Row2(h:eE)(T:aQ)(v1 v2:aG):Prop:=h.get? T=ZZ { cls:=.type "tuple", data:=.seq #[v1,v2] }
structure Apart2 (z TI TO i1 i2 l1 l2:aQ):Prop where
 nTIz:TI≠z
 nTOz:TO≠z
 nTOTI:TO≠TI
 ni1z:i1≠z
 ni1TI:i1≠TI
 ni1TO:i1≠TO
 ni2z:i2≠z
 ni2TI:i2≠TI
 ni2TO:i2≠TO
 ni2i1:i2≠i1
 nl1z:l1≠z
 nl1TO:l1≠TO
 nl1i1:l1≠i1
 nl1i2:l1≠i2
 nl2z:l2≠z
 nl2TO:l2≠TO
 nl2i1:l2≠i1
 nl2i2:l2≠i2
section
variable{prog:bT}{w:dB}{A:cQ}{E:aG->aJ->Prop}{s:aJ}
def a2c{T:aQ}{v1 v2 x:aG}{Q:Unit->aJ->Prop}(h:Row2 s.heap T v1 v2)(q:∀h',Row2 h' T x v2->cP T s.heap h'->Q () { s with heap:=h' }):bG (bL prog w) A (updateSeq T (·.setIfInBounds 0 x)) Q E s:=by
 refine wpAny_updateSeq h rfl (q _ (show sU _ T=_ from ?_) (cL ..))
 rw[bM _ h rfl];simp[iH]
def a2b{T:aQ}{v1 v2 x:aG}{Q:Unit->aJ->Prop}(h:Row2 s.heap T v1 v2)(q:∀h',Row2 h' T v1 x->cP T s.heap h'->Q () { s with heap:=h' }):bG (bL prog w) A (updateSeq T (·.setIfInBounds 1 x)) Q E s:=by
 refine wpAny_updateSeq h rfl (q _ (show sU _ T=_ from ?_) (cL ..))
 rw[bM _ h rfl];simp[iH]
def aqv{z TI TO i1 i2 l1 l2:aQ}{k1 k2:Bool}{i:Nat}{x1 x2:Array aG}{v1 v2:aG}{Q:aG->aJ->Prop}(hh:A.handled=ZY)(D:Apart2 z TI TO i1 i2 l1 l2)
  (hz:mX s.heap z TI TO .none) (hI:Row2 s.heap TI (.ref i1) (.ref i2)) (hO:Row2 s.heap TO v1 v2) (h1:It1 k1 s.heap i1 l1 i) (s1:Sq1 k1 s.heap l1 x1) (h2:It1 k2 s.heap i2 l2 i) (s2:Sq1 k2 s.heap l2 x2) (b1:i<x1.size) (b2:i<x2.size)
  (q:∀h' tk y1 y2,x1[i]? = ZZ y1->x2[i]? = ZZ y2->mX h' z TI TO (iI s.heap.objs.size)->Row2 h' TO y1 y2->It1 k1 h' i1 l1 (i+1)->It1 k2 h' i2 l2 (i+1)->Row2 h' s.heap.objs.size y1 y2->h'.objs.size=s.heap.objs.size+1 ->
   (∀c o,c≠z->c≠TO->c≠i1->c≠i2->s.heap.get? c=ZZ o->h'.get? c=ZZ o)->Q (.ref s.heap.objs.size) { s with heap:=h',toks:=tk }) :
  bG (bL prog w) A (iM.«zip.__next__» ⟨[.ref z],[]⟩) (λfin s'=>∃v,fin=.done (.ret v)/\Q v s') E s:=by
 refine aA (m:=field (.ref z) 2) (cG hz rfl (x:=.bool ZW) rfl ?_);refine aA (m:=field (.ref z) 3) (cG hz rfl (x:=.ref TI) rfl ?_);refine aA (dY hI rfl ?_);refine aA (m:=SmallTypes.ownedTupleIsFree (.ref z)) ?_;unfold SmallTypes.ownedTupleIsFree;refine aA (cG hz rfl (x:=.none) rfl (aH ?_));simp only[if_true];refine aA (jF (aA (cG hz rfl (x:=.ref TO) rfl ?_)));refine aA (fG hz (by simp) λg0 z0 a0=>?_)
 have z0:mX g0 z TI TO .ellipsis:=z0;refine aA ?_;simp only[oW,pH,lJ,nO];refine aA (aA (jQ ?_));refine aA (m:=SmallTypes.nextOf (.ref i1)) ((src hh k1 i1 l1 D.nl1i1 x1).item i _ _ _ b1 ⟨(h1.at λ_ e=>(a0.extBut _ _ D.ni1z e)),(s1.at λ_ e=>(a0.extBut _ _ D.nl1z e))⟩ λy1 f1 t1 p1 q1 c1=>aH ?_)
 have c1:cP i1 g0 f1:=c1;have P1:Row2 f1 TO v1 v2:=(c1.extBut _ _ D.ni1TO.symm (a0.extBut _ _ D.nTOz hO));refine aA (dY P1 rfl ?_);refine aA (a2c P1 λg1 O1 a1=>?_)
 have a1:cP TO f1 g1:=a1;refine aA (wpAny_letGo (aH ?_));refine aA (aA (jQ ?_));refine aA (m:=SmallTypes.nextOf (.ref i2)) ((src hh k2 i2 l2 D.nl2i2 x2).item i _ _ _ b2 ⟨(h2.at λ_ e=>(a1.extBut _ _ D.ni2TO (c1.extBut _ _ D.ni2i1 (a0.extBut _ _ D.ni2z e)))),(s2.at λ_ e=>(a1.extBut _ _ D.nl2TO (c1.extBut _ _ D.nl2i1 (a0.extBut _ _ D.nl2z e))))⟩ λy2 f2 t2 p2 q2 c2=>aH ?_)
 have c2:cP i2 g1 f2:=c2;have P2:Row2 f2 TO y1 v2:=(c2.extBut _ _ D.ni2TO.symm O1);refine aA (dY P2 rfl ?_);refine aA (a2b P2 λg2 O2 a2=>?_)
 have a2:cP TO f2 g2:=a2;refine aA (wpAny_letGo (aH (aH ?_)));refine aA (dY O2 rfl (aA (wpAny_newTuple ?_)));have sz:g2.objs.size=s.heap.objs.size:=by rw[a2.1,c2.1,a1.1,c1.1,a0.1]
 have zn:mX g2 z TI TO .ellipsis:=(a2.extBut _ _ D.nTOz.symm (c2.extBut _ _ D.ni2z.symm (a1.extBut _ _ D.nTOz.symm (c1.extBut _ _ D.ni1z.symm z0))));have kn:∀c o,c≠z->c≠TO->c≠i1->c≠i2->s.heap.get? c=ZZ o->g2.get? c=ZZ o:=λc o n0 n1 n2 n3 e=>(a2.extBut _ _ n1 (c2.extBut _ _ n3 (a1.extBut _ _ n1 (c1.extBut _ _ n2 (a0.extBut _ _ n0 e)))))
 have j1:It1 k1 g2 i1 l1 (i+1):=q1.1.at λ_ e=>(a2.extBut _ _ D.ni1TO (c2.extBut _ _ D.ni2i1.symm (a1.extBut _ _ D.ni1TO e)))
 have j2:It1 k2 g2 i2 l2 (i+1):=q2.1.at λ_ e=>(a2.extBut _ _ D.ni2TO e)
 have lz:z<g2.objs.size:=aN zn;refine aA (m:=SmallTypes.ownedTupleHandOut (.ref z) (.ref g2.objs.size)) ?_;unfold SmallTypes.ownedTupleHandOut;have zp:mX (g2.push { cls:=.type "tuple", data:=.seq #[y1,y2] }) z TI TO .ellipsis:=aB _ zn;refine aA (fG zp (by simp) λe1 z1 b1'=>?_)
 have z1:mX e1 z TI TO (iI g2.objs.size):=z1;refine fG z1 (by simp) λe2 z2 b2'=>?_
 have z2:mX e2 z TI TO (iI g2.objs.size):=z2;have up:∀c o,c≠z->g2.get? c=ZZ o->e2.get? c=ZZ o:=λc o n1 e=>b2'.extBut _ _ n1 (b1'.extBut _ _ n1 (aB _ e))
 have t2:Row2 e2 g2.objs.size y1 y2:=b2'.extBut _ _ (fL lz) (b1'.extBut _ _ (fL lz) (aM _ rfl));have s2':e2.objs.size=g2.objs.size+1:=by rw[b2'.1,b1'.1,bU]
 rw[sz] at z2 t2 s2';refine aH ⟨_,rfl,?_⟩;show Q (.ref g2.objs.size) _;rw[sz];exact q e2 _ y1 y2 p1 p2 z2 (up _ _ D.nTOz O2) (j1.at λ_ e=>up _ _ D.ni1z e) (j2.at λ_ e=>up _ _ D.ni2z e) t2 s2' λc o n0 n1 n2 n3 e=>up c o n0 (kn c o n0 n1 n2 n3 e)
def au5{z TI TO i1 i2 l1 l2:aQ}{k1:Bool}{x1:Array aG}{v1 v2:aG}{Q:Fin->aJ->Prop}(hh:A.handled=ZY)(D:Apart2 z TI TO i1 i2 l1 l2)
  (hz:mX s.heap z TI TO .none) (hI:Row2 s.heap TI (.ref i1) (.ref i2)) (hO:Row2 s.heap TO v1 v2) (h1:It1 k1 s.heap i1 l1 x1.size) (s1:Sq1 k1 s.heap l1 x1)
  (q:∀h' e,(∀c o,c≠z->c≠i1->s.heap.get? c=ZZ o->h'.get? c=ZZ o)->(∃o,h'.get? e=ZZ o/\o.cls=.type "StopIteration")->E (.ref e) { s with heap:=h' }) :
  bG (bL prog w) A (iM.«zip.__next__» ⟨[.ref z],[]⟩) Q E s:=by
 refine aA (m:=field (.ref z) 2) (cG hz rfl (x:=.bool ZW) rfl ?_);refine aA (m:=field (.ref z) 3) (cG hz rfl (x:=.ref TI) rfl ?_);refine aA (dY hI rfl ?_);refine aA (m:=SmallTypes.ownedTupleIsFree (.ref z)) ?_;unfold SmallTypes.ownedTupleIsFree;refine aA (cG hz rfl (x:=.none) rfl (aH ?_));simp only[if_true];refine aA (jF (aA (cG hz rfl (x:=.ref TO) rfl ?_)));refine aA (fG hz (by simp) λg0 z0 a0=>?_)
 have z0:mX g0 z TI TO .ellipsis:=z0;refine aA ?_;simp only[oW,pH,lJ,nO];refine aA (aA (jQ ?_));refine aA (m:=SmallTypes.nextOf (.ref i1)) ((src hh k1 i1 l1 D.nl1i1 x1).done _ _ _ ⟨(h1.at λ_ e=>a0.extBut _ _ D.ni1z e),(s1.at λ_ e=>a0.extBut _ _ D.nl1z e)⟩ λf1 e c1 ⟨oe,he,ce⟩=>?_)
 have zf:mX f1 z TI TO .ellipsis:=c1 _ _ D.ni1z.symm z0;have ez:e≠z:=λx=>by subst x;rw[zf] at he;cases he;simp at ce
 refine fG zf (by simp) λf2 _ a1=>q f2 e (λc o n1 n2 y=>a1.extBut _ _ n1 (c1 _ _ n2 (a0.extBut _ _ n1 y))) ⟨oe,a1.extBut _ _ ez he,ce⟩
abbrev aqz(h:eE)(k1 k2:Bool)(l1 l2:aQ):eE:=h.push { cls:=.type (cond k1 "tuple_iterator" "list_iterator"),data:=.fields #[.ref l1,.int 0 0] }
abbrev avb(h:eE)(k1 k2:Bool)(l1 l2:aQ):eE:=(aqz h k1 k2 l1 l2).push { cls:=.type (cond k2 "tuple_iterator" "list_iterator"),data:=.fields #[.ref l2,.int 0 0] }
abbrev au9(h:eE)(k1 k2:Bool)(l1 l2:aQ):eE:=(avb h k1 k2 l1 l2).push { cls:=.type "tuple", data:=.seq #[.ref h.objs.size,.ref (aqz h k1 k2 l1 l2).objs.size] }
abbrev au7(h:eE)(k1 k2:Bool)(l1 l2:aQ):eE:=(au9 h k1 k2 l1 l2).push { cls:=.type "tuple", data:=.seq #[.none,.none] }
abbrev amo(h:eE)(k1 k2:Bool)(l1 l2:aQ):eE:=(au7 h k1 k2 l1 l2).push { cls:=.type "zip", data:=.fields #[.none,.bool ZW,.bool ZW,.ref (avb h k1 k2 l1 l2).objs.size,.ref (au9 h k1 k2 l1 l2).objs.size] }
def az3(k1 k2:Bool)(l1 l2:aQ)(x1 x2:Array aG) :
  Meets (iM.«zip.__new__» ⟨[.type "zip", .ref l1,.ref l2],[]⟩) (λ_ R s=>Sq1 k1 s.heap l1 x1/\Sq1 k2 s.heap l2 x2/\R (.ok (.ret (.ref (au7 s.heap k1 k2 l1 l2).objs.size))) { s with heap:=amo s.heap k1 k2 l1 l2 }) :=
 .of_wp λprog w A R s h=>by
  obtain⟨hp,g,d,tk,os⟩:=s;obtain⟨s1,s2,h⟩:=h;have sb:=sub_zip;have r1:Sq1 k1 (oG ⟨hp,g,d,tk,os⟩) l1 x1:=s1.at λ_ e=>e
  have r2:Sq1 k2 (oG ⟨aqz hp k1 k2 l1 l2,g,d,tk,os⟩) l2 x2:=s2.at λ_ e=>aB _ (e)
  wp_walk using ani r1,ani r2;exact⟨_,rfl,h⟩
def aun{k1 k2:Bool}{l1 l2:aQ}{x1 x2:Array aG}{Q:aG->aJ->Prop}(s1:Sq1 k1 s.heap l1 x1)(s2:Sq1 k2 s.heap l2 x2)
  (q:∀h',mX h' (s.heap.objs.size+4) (s.heap.objs.size+2) (s.heap.objs.size+3) .none->Row2 h' (s.heap.objs.size+2) (.ref s.heap.objs.size) (.ref (s.heap.objs.size+1))->Row2 h' (s.heap.objs.size+3) .none .none->It1 k1 h' s.heap.objs.size l1 0->It1 k2 h' (s.heap.objs.size+1) l2 0->h'.objs.size=s.heap.objs.size+5->(∀c o,s.heap.get? c=ZZ o->h'.get? c=ZZ o)->Q (.ref (s.heap.objs.size+4)) { s with heap:=h' }) :
  bG (bL prog w) A (call (.type "zip") [.ref l1,.ref l2]) Q E s:=by
 refine callType_new F.called_zip (by decide) (ayl _ _) (az1 _ _) (λobj=>a06 obj _ _) yN (az3 k1 k2 l1 l2 x1 x2) ⟨s1,s2,?_⟩
 have e1:(aqz s.heap k1 k2 l1 l2).objs.size=s.heap.objs.size+1:=by rw[bU]
 have e2:(avb s.heap k1 k2 l1 l2).objs.size=s.heap.objs.size+2:=by rw[bU,e1]
 have eI:(au9 s.heap k1 k2 l1 l2).objs.size=s.heap.objs.size+3:=by rw[bU,e2]
 have eO:(au7 s.heap k1 k2 l1 l2).objs.size=s.heap.objs.size+4:=by rw[bU,eI]
 have eZ:(amo s.heap k1 k2 l1 l2).objs.size=s.heap.objs.size+5:=by rw[bU,eO]
 have gZ:(amo s.heap k1 k2 l1 l2).get? (au7 s.heap k1 k2 l1 l2).objs.size=ZZ _:=aM _ rfl;have gO:(amo s.heap k1 k2 l1 l2).get? (au9 s.heap k1 k2 l1 l2).objs.size=ZZ _:=aB _ (aM _ rfl);have gI:(amo s.heap k1 k2 l1 l2).get? (avb s.heap k1 k2 l1 l2).objs.size=ZZ _:=aB _ (aB _ (aM _ rfl));have j1:(amo s.heap k1 k2 l1 l2).get? s.heap.objs.size=ZZ _:=aB _ (aB _ (aB _ (aB _ (aM _ rfl))));have j2:(amo s.heap k1 k2 l1 l2).get? (aqz s.heap k1 k2 l1 l2).objs.size=ZZ _:=aB _ (aB _ (aB _ (aM _ rfl)));show _/\_;rw[e2,eI,eO] at gZ;rw[e1,e2] at gI;rw[eI] at gO;rw[e1] at j2;rw[eO];exact⟨⟨_,gZ,rfl⟩,q _ gZ gI gO (ae6 j1) (ae6 j2) eZ λc o x=>aB _ (aB _ (aB _ (aB _ (aB _ (x)))))⟩
end
def ayk(v1 v2 v3:aG):checkTypeCall "zip" ⟨[v1,v2,v3],[]⟩=pure ():=by kernel_rfl
def az0(v1 v2 v3:aG):checkBuiltinCall "zip.__new__" ⟨[.type "zip", v1,v2,v3],[]⟩=pure ():=by kernel_rfl
def a05(o v1 v2 v3:aG):tX "object.__init__" ⟨[o,v1,v2,v3],[]⟩:=by
 unfold tX;rw[signature?_of (id := "object.__init__") (n:=['_','_','t','i','n','i','_','_']) (o:=['t','c','e','j','b','o']) (by kernel_rfl) yV];kernel_rfl
abbrev Row3(h:eE)(T:aQ)(v1 v2 v3:aG):Prop:=h.get? T=ZZ { cls:=.type "tuple", data:=.seq #[v1,v2,v3] }
structure Apart3 (z TI TO i1 i2 i3 l1 l2 l3:aQ):Prop where
 nTIz:TI≠z
 nTOz:TO≠z
 nTOTI:TO≠TI
 ni1z:i1≠z
 ni1TI:i1≠TI
 ni1TO:i1≠TO
 ni2z:i2≠z
 ni2TI:i2≠TI
 ni2TO:i2≠TO
 ni2i1:i2≠i1
 ni3z:i3≠z
 ni3TI:i3≠TI
 ni3TO:i3≠TO
 ni3i1:i3≠i1
 ni3i2:i3≠i2
 nl1z:l1≠z
 nl1TO:l1≠TO
 nl1i1:l1≠i1
 nl1i2:l1≠i2
 nl1i3:l1≠i3
 nl2z:l2≠z
 nl2TO:l2≠TO
 nl2i1:l2≠i1
 nl2i2:l2≠i2
 nl2i3:l2≠i3
 nl3z:l3≠z
 nl3TO:l3≠TO
 nl3i1:l3≠i1
 nl3i2:l3≠i2
 nl3i3:l3≠i3
section
variable{prog:bT}{w:dB}{A:cQ}{E:aG->aJ->Prop}{s:aJ}
def a2a{T:aQ}{v1 v2 v3 x:aG}{Q:Unit->aJ->Prop}(h:Row3 s.heap T v1 v2 v3)(q:∀h',Row3 h' T x v2 v3->cP T s.heap h'->Q () { s with heap:=h' }):bG (bL prog w) A (updateSeq T (·.setIfInBounds 0 x)) Q E s:=by
 refine wpAny_updateSeq h rfl (q _ (show sU _ T=_ from ?_) (cL ..))
 rw[bM _ h rfl];simp[iH]
def a1z{T:aQ}{v1 v2 v3 x:aG}{Q:Unit->aJ->Prop}(h:Row3 s.heap T v1 v2 v3)(q:∀h',Row3 h' T v1 x v3->cP T s.heap h'->Q () { s with heap:=h' }):bG (bL prog w) A (updateSeq T (·.setIfInBounds 1 x)) Q E s:=by
 refine wpAny_updateSeq h rfl (q _ (show sU _ T=_ from ?_) (cL ..))
 rw[bM _ h rfl];simp[iH]
def a1y{T:aQ}{v1 v2 v3 x:aG}{Q:Unit->aJ->Prop}(h:Row3 s.heap T v1 v2 v3)(q:∀h',Row3 h' T v1 v2 x->cP T s.heap h'->Q () { s with heap:=h' }):bG (bL prog w) A (updateSeq T (·.setIfInBounds 2 x)) Q E s:=by
 refine wpAny_updateSeq h rfl (q _ (show sU _ T=_ from ?_) (cL ..))
 rw[bM _ h rfl];simp[iH]
def aqt{z TI TO i1 i2 i3 l1 l2 l3:aQ}{k1 k2 k3:Bool}{i:Nat}{x1 x2 x3:Array aG}{v1 v2 v3:aG}{Q:aG->aJ->Prop}(hh:A.handled=ZY)(D:Apart3 z TI TO i1 i2 i3 l1 l2 l3)
  (hz:mX s.heap z TI TO .none) (hI:Row3 s.heap TI (.ref i1) (.ref i2) (.ref i3)) (hO:Row3 s.heap TO v1 v2 v3) (h1:It1 k1 s.heap i1 l1 i) (s1:Sq1 k1 s.heap l1 x1) (h2:It1 k2 s.heap i2 l2 i) (s2:Sq1 k2 s.heap l2 x2) (h3:It1 k3 s.heap i3 l3 i) (s3:Sq1 k3 s.heap l3 x3) (b1:i<x1.size) (b2:i<x2.size) (b3:i<x3.size)
  (q:∀h' tk y1 y2 y3,x1[i]? = ZZ y1->x2[i]? = ZZ y2->x3[i]? = ZZ y3->mX h' z TI TO (iI s.heap.objs.size)->Row3 h' TO y1 y2 y3->It1 k1 h' i1 l1 (i+1)->It1 k2 h' i2 l2 (i+1)->It1 k3 h' i3 l3 (i+1)->Row3 h' s.heap.objs.size y1 y2 y3->h'.objs.size=s.heap.objs.size+1 ->
   (∀c o,c≠z->c≠TO->c≠i1->c≠i2->c≠i3->s.heap.get? c=ZZ o->h'.get? c=ZZ o)->Q (.ref s.heap.objs.size) { s with heap:=h',toks:=tk }) :
  bG (bL prog w) A (iM.«zip.__next__» ⟨[.ref z],[]⟩) (λfin s'=>∃v,fin=.done (.ret v)/\Q v s') E s:=by
 refine aA (m:=field (.ref z) 2) (cG hz rfl (x:=.bool ZW) rfl ?_);refine aA (m:=field (.ref z) 3) (cG hz rfl (x:=.ref TI) rfl ?_);refine aA (dY hI rfl ?_);refine aA (m:=SmallTypes.ownedTupleIsFree (.ref z)) ?_;unfold SmallTypes.ownedTupleIsFree;refine aA (cG hz rfl (x:=.none) rfl (aH ?_));simp only[if_true];refine aA (jF (aA (cG hz rfl (x:=.ref TO) rfl ?_)));refine aA (fG hz (by simp) λg0 z0 a0=>?_)
 have z0:mX g0 z TI TO .ellipsis:=z0;refine aA ?_;simp only[oW,pH,lJ,nO];refine aA (aA (jQ ?_));refine aA (m:=SmallTypes.nextOf (.ref i1)) ((src hh k1 i1 l1 D.nl1i1 x1).item i _ _ _ b1 ⟨(h1.at λ_ e=>(a0.extBut _ _ D.ni1z e)),(s1.at λ_ e=>(a0.extBut _ _ D.nl1z e))⟩ λy1 f1 t1 p1 q1 c1=>aH ?_)
 have c1:cP i1 g0 f1:=c1;have P1:Row3 f1 TO v1 v2 v3:=(c1.extBut _ _ D.ni1TO.symm (a0.extBut _ _ D.nTOz hO));refine aA (dY P1 rfl ?_);refine aA (a2a P1 λg1 O1 a1=>?_)
 have a1:cP TO f1 g1:=a1;refine aA (wpAny_letGo (aH ?_));refine aA (aA (jQ ?_));refine aA (m:=SmallTypes.nextOf (.ref i2)) ((src hh k2 i2 l2 D.nl2i2 x2).item i _ _ _ b2 ⟨(h2.at λ_ e=>(a1.extBut _ _ D.ni2TO (c1.extBut _ _ D.ni2i1 (a0.extBut _ _ D.ni2z e)))),(s2.at λ_ e=>(a1.extBut _ _ D.nl2TO (c1.extBut _ _ D.nl2i1 (a0.extBut _ _ D.nl2z e))))⟩ λy2 f2 t2 p2 q2 c2=>aH ?_)
 have c2:cP i2 g1 f2:=c2;have P2:Row3 f2 TO y1 v2 v3:=(c2.extBut _ _ D.ni2TO.symm O1);refine aA (dY P2 rfl ?_);refine aA (a1z P2 λg2 O2 a2=>?_)
 have a2:cP TO f2 g2:=a2;refine aA (wpAny_letGo (aH ?_));refine aA (aA (jQ ?_));refine aA (m:=SmallTypes.nextOf (.ref i3)) ((src hh k3 i3 l3 D.nl3i3 x3).item i _ _ _ b3 ⟨(h3.at λ_ e=>(a2.extBut _ _ D.ni3TO (c2.extBut _ _ D.ni3i2 (a1.extBut _ _ D.ni3TO (c1.extBut _ _ D.ni3i1 (a0.extBut _ _ D.ni3z e)))))),(s3.at λ_ e=>(a2.extBut _ _ D.nl3TO (c2.extBut _ _ D.nl3i2 (a1.extBut _ _ D.nl3TO (c1.extBut _ _ D.nl3i1 (a0.extBut _ _ D.nl3z e))))))⟩ λy3 f3 t3 p3 q3 c3=>aH ?_)
 have c3:cP i3 g2 f3:=c3;have P3:Row3 f3 TO y1 y2 v3:=(c3.extBut _ _ D.ni3TO.symm O2);refine aA (dY P3 rfl ?_);refine aA (a1y P3 λg3 O3 a3=>?_)
 have a3:cP TO f3 g3:=a3;refine aA (wpAny_letGo (aH (aH ?_)));refine aA (dY O3 rfl (aA (wpAny_newTuple ?_)));have sz:g3.objs.size=s.heap.objs.size:=by rw[a3.1,c3.1,a2.1,c2.1,a1.1,c1.1,a0.1]
 have zn:mX g3 z TI TO .ellipsis:=(a3.extBut _ _ D.nTOz.symm (c3.extBut _ _ D.ni3z.symm (a2.extBut _ _ D.nTOz.symm (c2.extBut _ _ D.ni2z.symm (a1.extBut _ _ D.nTOz.symm (c1.extBut _ _ D.ni1z.symm z0))))));have kn:∀c o,c≠z->c≠TO->c≠i1->c≠i2->c≠i3->s.heap.get? c=ZZ o->g3.get? c=ZZ o:=λc o n0 n1 n2 n3 n4 e=>(a3.extBut _ _ n1 (c3.extBut _ _ n4 (a2.extBut _ _ n1 (c2.extBut _ _ n3 (a1.extBut _ _ n1 (c1.extBut _ _ n2 (a0.extBut _ _ n0 e)))))))
 have j1:It1 k1 g3 i1 l1 (i+1):=q1.1.at λ_ e=>(a3.extBut _ _ D.ni1TO (c3.extBut _ _ D.ni3i1.symm (a2.extBut _ _ D.ni1TO (c2.extBut _ _ D.ni2i1.symm (a1.extBut _ _ D.ni1TO e)))))
 have j2:It1 k2 g3 i2 l2 (i+1):=q2.1.at λ_ e=>(a3.extBut _ _ D.ni2TO (c3.extBut _ _ D.ni3i2.symm (a2.extBut _ _ D.ni2TO e)))
 have j3:It1 k3 g3 i3 l3 (i+1):=q3.1.at λ_ e=>(a3.extBut _ _ D.ni3TO e)
 have lz:z<g3.objs.size:=aN zn;refine aA (m:=SmallTypes.ownedTupleHandOut (.ref z) (.ref g3.objs.size)) ?_;unfold SmallTypes.ownedTupleHandOut;have zp:mX (g3.push { cls:=.type "tuple", data:=.seq #[y1,y2,y3] }) z TI TO .ellipsis:=aB _ zn;refine aA (fG zp (by simp) λe1 z1 b1'=>?_)
 have z1:mX e1 z TI TO (iI g3.objs.size):=z1;refine fG z1 (by simp) λe2 z2 b2'=>?_
 have z2:mX e2 z TI TO (iI g3.objs.size):=z2;have up:∀c o,c≠z->g3.get? c=ZZ o->e2.get? c=ZZ o:=λc o n1 e=>b2'.extBut _ _ n1 (b1'.extBut _ _ n1 (aB _ e))
 have t2:Row3 e2 g3.objs.size y1 y2 y3:=b2'.extBut _ _ (fL lz) (b1'.extBut _ _ (fL lz) (aM _ rfl));have s2':e2.objs.size=g3.objs.size+1:=by rw[b2'.1,b1'.1,bU]
 rw[sz] at z2 t2 s2';refine aH ⟨_,rfl,?_⟩;show Q (.ref g3.objs.size) _;rw[sz];exact q e2 _ y1 y2 y3 p1 p2 p3 z2 (up _ _ D.nTOz O3) (j1.at λ_ e=>up _ _ D.ni1z e) (j2.at λ_ e=>up _ _ D.ni2z e) (j3.at λ_ e=>up _ _ D.ni3z e) t2 s2' λc o n0 n1 n2 n3 n4 e=>up c o n0 (kn c o n0 n1 n2 n3 n4 e)
def au4{z TI TO i1 i2 i3 l1 l2 l3:aQ}{k1:Bool}{x1:Array aG}{v1 v2 v3:aG}{Q:Fin->aJ->Prop}(hh:A.handled=ZY)(D:Apart3 z TI TO i1 i2 i3 l1 l2 l3)
  (hz:mX s.heap z TI TO .none) (hI:Row3 s.heap TI (.ref i1) (.ref i2) (.ref i3)) (hO:Row3 s.heap TO v1 v2 v3) (h1:It1 k1 s.heap i1 l1 x1.size) (s1:Sq1 k1 s.heap l1 x1)
  (q:∀h' e,(∀c o,c≠z->c≠i1->s.heap.get? c=ZZ o->h'.get? c=ZZ o)->(∃o,h'.get? e=ZZ o/\o.cls=.type "StopIteration")->E (.ref e) { s with heap:=h' }) :
  bG (bL prog w) A (iM.«zip.__next__» ⟨[.ref z],[]⟩) Q E s:=by
 refine aA (m:=field (.ref z) 2) (cG hz rfl (x:=.bool ZW) rfl ?_);refine aA (m:=field (.ref z) 3) (cG hz rfl (x:=.ref TI) rfl ?_);refine aA (dY hI rfl ?_);refine aA (m:=SmallTypes.ownedTupleIsFree (.ref z)) ?_;unfold SmallTypes.ownedTupleIsFree;refine aA (cG hz rfl (x:=.none) rfl (aH ?_));simp only[if_true];refine aA (jF (aA (cG hz rfl (x:=.ref TO) rfl ?_)));refine aA (fG hz (by simp) λg0 z0 a0=>?_)
 have z0:mX g0 z TI TO .ellipsis:=z0;refine aA ?_;simp only[oW,pH,lJ,nO];refine aA (aA (jQ ?_));refine aA (m:=SmallTypes.nextOf (.ref i1)) ((src hh k1 i1 l1 D.nl1i1 x1).done _ _ _ ⟨(h1.at λ_ e=>a0.extBut _ _ D.ni1z e),(s1.at λ_ e=>a0.extBut _ _ D.nl1z e)⟩ λf1 e c1 ⟨oe,he,ce⟩=>?_)
 have zf:mX f1 z TI TO .ellipsis:=c1 _ _ D.ni1z.symm z0;have ez:e≠z:=λx=>by subst x;rw[zf] at he;cases he;simp at ce
 refine fG zf (by simp) λf2 _ a1=>q f2 e (λc o n1 n2 y=>a1.extBut _ _ n1 (c1 _ _ n2 (a0.extBut _ _ n1 y))) ⟨oe,a1.extBut _ _ ez he,ce⟩
abbrev aqy(h:eE)(k1 k2 k3:Bool)(l1 l2 l3:aQ):eE:=h.push { cls:=.type (cond k1 "tuple_iterator" "list_iterator"),data:=.fields #[.ref l1,.int 0 0] }
abbrev aqx(h:eE)(k1 k2 k3:Bool)(l1 l2 l3:aQ):eE:=(aqy h k1 k2 k3 l1 l2 l3).push { cls:=.type (cond k2 "tuple_iterator" "list_iterator"),data:=.fields #[.ref l2,.int 0 0] }
abbrev ava(h:eE)(k1 k2 k3:Bool)(l1 l2 l3:aQ):eE:=(aqx h k1 k2 k3 l1 l2 l3).push { cls:=.type (cond k3 "tuple_iterator" "list_iterator"),data:=.fields #[.ref l3,.int 0 0] }
abbrev au8(h:eE)(k1 k2 k3:Bool)(l1 l2 l3:aQ):eE:=(ava h k1 k2 k3 l1 l2 l3).push { cls:=.type "tuple", data:=.seq #[.ref h.objs.size,.ref (aqy h k1 k2 k3 l1 l2 l3).objs.size,.ref (aqx h k1 k2 k3 l1 l2 l3).objs.size] }
abbrev au6(h:eE)(k1 k2 k3:Bool)(l1 l2 l3:aQ):eE:=(au8 h k1 k2 k3 l1 l2 l3).push { cls:=.type "tuple", data:=.seq #[.none,.none,.none] }
abbrev akf(h:eE)(k1 k2 k3:Bool)(l1 l2 l3:aQ):eE:=(au6 h k1 k2 k3 l1 l2 l3).push { cls:=.type "zip", data:=.fields #[.none,.bool ZW,.bool ZW,.ref (ava h k1 k2 k3 l1 l2 l3).objs.size,.ref (au8 h k1 k2 k3 l1 l2 l3).objs.size] }
set_option maxHeartbeats 2000000 in
theorem az2(k1 k2 k3:Bool)(l1 l2 l3:aQ)(x1 x2 x3:Array aG) :
  Meets (iM.«zip.__new__» ⟨[.type "zip", .ref l1,.ref l2,.ref l3],[]⟩) (λ_ R s=>Sq1 k1 s.heap l1 x1/\Sq1 k2 s.heap l2 x2/\Sq1 k3 s.heap l3 x3/\R (.ok (.ret (.ref (au6 s.heap k1 k2 k3 l1 l2 l3).objs.size))) { s with heap:=akf s.heap k1 k2 k3 l1 l2 l3 }) :=
 .of_wp λprog w A R s h=>by
  obtain⟨hp,g,d,tk,os⟩:=s;obtain⟨s1,s2,s3,h⟩:=h;have sb:=sub_zip;have r1:Sq1 k1 (oG ⟨hp,g,d,tk,os⟩) l1 x1:=s1.at λ_ e=>e
  have r2:Sq1 k2 (oG ⟨aqy hp k1 k2 k3 l1 l2 l3,g,d,tk,os⟩) l2 x2:=s2.at λ_ e=>aB _ (e)
  have r3:Sq1 k3 (oG ⟨aqx hp k1 k2 k3 l1 l2 l3,g,d,tk,os⟩) l3 x3:=s3.at λ_ e=>aB _ (aB _ (e))
  wp_walk using ani r1,ani r2,ani r3;exact⟨_,rfl,h⟩
def aum{k1 k2 k3:Bool}{l1 l2 l3:aQ}{x1 x2 x3:Array aG}{Q:aG->aJ->Prop}(s1:Sq1 k1 s.heap l1 x1)(s2:Sq1 k2 s.heap l2 x2)(s3:Sq1 k3 s.heap l3 x3)
  (q:∀h',mX h' (s.heap.objs.size+5) (s.heap.objs.size+3) (s.heap.objs.size+4) .none->Row3 h' (s.heap.objs.size+3) (.ref s.heap.objs.size) (.ref (s.heap.objs.size+1)) (.ref (s.heap.objs.size+2))->Row3 h' (s.heap.objs.size+4) .none .none .none->It1 k1 h' s.heap.objs.size l1 0->It1 k2 h' (s.heap.objs.size+1) l2 0->It1 k3 h' (s.heap.objs.size+2) l3 0->h'.objs.size=s.heap.objs.size+6->(∀c o,s.heap.get? c=ZZ o->h'.get? c=ZZ o)->Q (.ref (s.heap.objs.size+5)) { s with heap:=h' }) :
  bG (bL prog w) A (call (.type "zip") [.ref l1,.ref l2,.ref l3]) Q E s:=by
 refine callType_new F.called_zip (by decide) (ayk _ _ _) (az0 _ _ _) (λobj=>a05 obj _ _ _) yN (az2 k1 k2 k3 l1 l2 l3 x1 x2 x3) ⟨s1,s2,s3,?_⟩
 have e1:(aqy s.heap k1 k2 k3 l1 l2 l3).objs.size=s.heap.objs.size+1:=by rw[bU]
 have e2:(aqx s.heap k1 k2 k3 l1 l2 l3).objs.size=s.heap.objs.size+2:=by rw[bU,e1]
 have e3:(ava s.heap k1 k2 k3 l1 l2 l3).objs.size=s.heap.objs.size+3:=by rw[bU,e2]
 have eI:(au8 s.heap k1 k2 k3 l1 l2 l3).objs.size=s.heap.objs.size+4:=by rw[bU,e3]
 have eO:(au6 s.heap k1 k2 k3 l1 l2 l3).objs.size=s.heap.objs.size+5:=by rw[bU,eI]
 have eZ:(akf s.heap k1 k2 k3 l1 l2 l3).objs.size=s.heap.objs.size+6:=by rw[bU,eO]
 have gZ:(akf s.heap k1 k2 k3 l1 l2 l3).get? (au6 s.heap k1 k2 k3 l1 l2 l3).objs.size=ZZ _:=aM _ rfl;have gO:(akf s.heap k1 k2 k3 l1 l2 l3).get? (au8 s.heap k1 k2 k3 l1 l2 l3).objs.size=ZZ _:=aB _ (aM _ rfl);have gI:(akf s.heap k1 k2 k3 l1 l2 l3).get? (ava s.heap k1 k2 k3 l1 l2 l3).objs.size=ZZ _:=aB _ (aB _ (aM _ rfl));have j1:(akf s.heap k1 k2 k3 l1 l2 l3).get? s.heap.objs.size=ZZ _:=aB _ (aB _ (aB _ (aB _ (aB _ (aM _ rfl)))));have j2:(akf s.heap k1 k2 k3 l1 l2 l3).get? (aqy s.heap k1 k2 k3 l1 l2 l3).objs.size=ZZ _:=aB _ (aB _ (aB _ (aB _ (aM _ rfl))));have j3:(akf s.heap k1 k2 k3 l1 l2 l3).get? (aqx s.heap k1 k2 k3 l1 l2 l3).objs.size=ZZ _:=aB _ (aB _ (aB _ (aM _ rfl)));show _/\_;rw[e3,eI,eO] at gZ;rw[e1,e2,e3] at gI;rw[eI] at gO;rw[e1] at j2;rw[e2] at j3;rw[eO];exact⟨⟨_,gZ,rfl⟩,q _ gZ gI gO (ae6 j1) (ae6 j2) (ae6 j3) eZ λc o x=>aB _ (aB _ (aB _ (aB _ (aB _ (aB _ (x))))))⟩
end
end En
namespace Mn
open L2 En
def SqK(k:Bool)(K:Fg9)(H:Hp)(a:aQ)(xs:List V):Prop:=cond k (SqT K H a xs) (SqL K H a xs)
def aai{xs:List V}{us:List aG}(r:Vals xs us){i:Nat}{x:V}{u:aG}(h:xs[i]? = ZZ x)(h':us.toArray[i]? = ZZ u):RelV x u:=by
 obtain⟨u',e,z⟩:=r.get h;have:us[i]? = ZZ u:=by simpa using h'
 rw[this] at e;cases e;exact z
section
variable{X:Cx}{zv:List (aQ×Obj)}{σ:L2.St}{H:Hp}{s:aJ}{h':eE}{a:aQ}{xs ys:List V}{k:Bool}
theorem yt(I:Inv X zv σ H s)(h:SqK k X.K H a xs):∃its:List aG,Vals xs its/\Sq1 k s.heap a its.toArray:=by
 cases k with
 |false=>
  obtain⟨its,r,p,_⟩:=I.list h;exact⟨its,r,p.isList⟩
 |true=>
  obtain⟨its,r,p,_⟩:=I.tuple h;exact⟨its,r,p⟩
theorem ae7(I:Inv X zv σ H s)(h:SqK k X.K H a xs)(h2:SqK k X.K H a ys):xs=ys:=by
 cases k with
 |false=>exact I.list_inj h h2
 |true=>exact I.tuple_inj h h2
def ack{t':Nat}{fp:List aQ}(I:Inv X zv σ H s)(kk:∀b o,b∉fp->s.heap.get? b=ZZ o->h'.get? b=ZZ o)(hf:∀b∈fp,FpOk X zv H b):Inv X zv σ H { s with heap:=h',toks:=t' }:=by
 have nit:∀b u,H b=ZZ u->b∉fp:=λb u e z=>by rw[(hf b z).1] at e;cases e
 have nL:X.env.locals∉fp:=λz=>(hf _ z).2.1 rfl
 refine I.step (g':=s.gens) (d':=s.drawn) (ch:=fp) (λb hb=>⟨(hf b hb).2.2.2.1,(hf b hb).2.1,(hf b hb).2.2.2.2.1,(hf b hb).2.2.2.2.2⟩) (λb o _ _ hc e _=>kk b o hc e) (λb o _ _ hc e _=>⟨o.slots,kk b o hc e⟩) (λ_ _ _ _ n=>n)
  (λb o hc e=>⟨o,kk b o hc e⟩) (λ_ _ e=>e) (λ_ _ _ e=>e) (λb ps e=>⟨#[],by rw[e];simp⟩) (λm hm=>?_) (λb u e=>?_) I.bare
 ·obtain⟨o,es,ep,ho,r⟩:=hm;exact⟨o,es,ep,kk _ o nL ho,r⟩
 ·refine(I.hok b u e).stay (λc v hc q=>kk c v ?_ q) (λ_ q=>q) λ_ _ q=>q
  rcases hc with z |z
  ·rw[z];exact nit b u e
  ·exact nit c _ z
def ank{t':Nat}{fp:List aQ}{vs:List V}{us:List aG}(I:Inv X zv σ H s)(kk:∀b o,b∉fp->s.heap.get? b=ZZ o->h'.get? b=ZZ o)(hf:∀b∈fp,FpOk X zv H b)(hb:∀b∈fp,b<s.heap.objs.size)
  (r:Vals vs us) (hz:vs.length<=cJ) (ht:h'.get? s.heap.objs.size=ZZ { cls:=.type "tuple", data:=.seq us.toArray }):Inv X zv σ (upd H s.heap.objs.size (.tup vs)) { s with heap:=h',toks:=t' }:=by
 have I1:=I.laid (h':=s.heap.push { cls:=.type "tuple", data:=.seq us.toArray }) (t':=s.toks) (a:=s.heap.objs.size) (o:=.tup vs) (λb u e=>aB _ e) (aP _) ⟨hz,us,r,⟨_,aM _ rfl,rfl,rfl,_,rfl⟩⟩
 have k2:∀b o,b∉fp->(s.heap.push { cls:=.type "tuple", data:=.seq us.toArray }).get? b=ZZ o->h'.get? b=ZZ o:=λb o hn e=>by
  rcases Heap.get?_push_cases e with⟨rfl,rfl⟩ |e
  ·exact ht
  ·exact kk b o hn e
 have f2:∀b∈fp,FpOk X zv (upd H s.heap.objs.size (.tup vs)) b:=λb hb'=>by
  obtain⟨f0,f⟩:=hf b hb';exact⟨by rw[b7 (bI (hb b hb'))];exact f0,f⟩
 have R:=ack (t':=t') (h':=h') (fp:=fp) I1 k2 f2;exact R
end
def axs{k:Bool}{h:eE}{it a l:aQ}{i:Nat}{xs:Array aG}(x:It1 k h it l i){k':Bool}(y:Sq1 k' h a xs):a≠it:=λe=>by
 subst e;cases k <;> cases k' <;> exact(by
  obtain⟨o,e1,c1,_⟩:=x;obtain⟨o',e2,c2,_⟩:=y;rw[e1] at e2;cases e2;rw[c1] at c2;simp at c2)
def a69{h:eE}{a b:aQ}{o:Obj}{n:String}{k:Bool}{xs:Array aG}(e:h.get? b=ZZ o)(c:o.cls=.type n)(hn:n ≠ "list" /\ n ≠ "tuple")(y:Sq1 k h a xs):a≠b:=λz=>by
 subst z;cases k <;> exact(by
  obtain⟨o',e2,c2,_⟩:=y;rw[e] at e2;cases e2;rw[c] at c2;simp at c2
  first |exact hn.1 c2 |exact hn.2 c2)
def Ite(K:Fg9)(k:Bool)(a:aQ):It :=
 ⟨λi H=>∃xs x,SqK k K H a xs/\xs[i]? = ZZ x,λi H x H'=>∃q v,H q=ZY/\x=.ref q/\H'=upd H q (.tup [.int i,v])/\∀xs,SqK k K H a xs->xs[i]? = ZZ v,λi H=>∃xs,SqK k K H a xs/\xs.length=i⟩
def arc{P:bT}{w:dB}{K:Fg9}{elts:List dI}{n:Nat}{pos:Pos}(k:Bool)(a e it:aQ)(ne:e≠it) :
  Turn P w K (.Tuple elts n pos) (Ite K k a) [e,it] e (λi h=>(∃old,IsEnum h e it i old)/\It1 k h it a i) where
 mem:=by simp
 obj:=λi h st b hb=>by
  have hb:b=e∨b=it:=by simpa using hb
  rcases hb with rfl |rfl
  ·obtain⟨old,z⟩:=st.1;exact⟨_,z,λv z=>by cases z⟩
  ·exact st.2.got
 keep:=λi h h' st kk=>by
  obtain⟨⟨old,z⟩,y⟩:=st;exact⟨⟨old,kk e (by simp) _ z⟩,y.at λo z=>kk it (by simp) o z⟩
 item:=by
  intro X hP hw hK hc i zv s σ H E I hf st hg;subst hP hw hK;obtain⟨⟨old,he⟩,hi⟩:=st;obtain⟨xs,x,hq,hx⟩:=hg;obtain⟨its,rv,sq⟩:=yt I hq;obtain⟨u,hu,ru⟩:=rv.get hx;have hlt:i<its.toArray.size:=by simpa using (aK.mp hu).1
  have nai:=axs hi sq;have nae:a≠e:=a69 he rfl (by decide) sq
  have D:=En.src (prog:=X.prog) (w:=X.w) (A:=X.A.in1) (I.ok.hd hc) k it a nai its.toArray;refine wpAny_pyNext_enum_itemD D he ⟨hi,sq⟩ hlt ne (by simp[ne,nae.symm]) λy g tk hy ho hs hT hz hk=>?_
  refine⟨_,rfl,wpAny_letOwnedTupleGo_enum ho λg2 he2 sb=>?_⟩
  have ry:=aai rv hx hy;have lte:e<s.heap.objs.size:=aN he;have lti:it<s.heap.objs.size:=by obtain⟨o,z,_⟩:=hi.got;exact aN z
  have fr:H s.heap.objs.size=ZY:=I.hok.fresh (aP _);refine⟨.ref s.heap.objs.size,upd H s.heap.objs.size (.tup [.int i,x]),?_,rfl,⟨_,x,fr,rfl,rfl,λys hy=>by rw[ae7 I hy hq];exact hx⟩,⟨⟨_,he2⟩,hs.1.at λo z=>sb.extBut _ _ ne.symm z⟩,λb hb=>?_⟩
  ·refine ank (fp:=[e,it]) (us:=[.int i tk,y]) I (λb o hn z=>?_) hf (λb hb=>?_) (.cons ⟨tk,rfl⟩ (.cons ry .nil)) (by rw[gF];simp) (sb.extBut _ _ (fL lte) hT)
   ·have h1:b≠e:=λz=>hn (by simp[z])
    have h2:b≠it:=λz=>hn (by simp[z])
    exact sb.extBut _ _ h1 (hk b o h1 h2 z)
   ·have hb:b=e∨b=it:=by simpa using hb
    rcases hb with rfl |rfl
    ·exact lte
    ·exact lti
  ·have hb':b=e∨b=it:=by simpa using hb
   rw[b7 (by rcases hb' with rfl |rfl;exact bI lte;exact bI lti)]
   exact(hf b hb).1
 done:=by
  intro X hP hw hK hc i zv s σ H E I hf st hg;subst hP hw hK;obtain⟨⟨old,he⟩,hi⟩:=st;obtain⟨xs,hq,hx⟩:=hg;obtain⟨its,rv,sq⟩:=yt I hq;have hl:i=its.toArray.size:=by have:=rv.length;simp;omega
  subst hl;have D:=En.src (prog:=X.prog) (w:=X.w) (A:=X.A.in1) (I.ok.hd hc) k it a (axs hi sq) its.toArray;refine wpAny_pyNext_enum_endD D he ⟨hi,sq⟩ λg eb=>⟨rfl,ack (t':=s.toks) (fp:=[e,it]) I (λb o hn z=>eb b o (λz=>hn (by simp[z])) z) hf⟩
 self:=λ_ _ _ _ _ st h=>let ⟨_,z⟩:=st.1;wpAny_pyIter_enum z h
def ax6:bR "zip"=ZZ (.type "zip"):=by decide +kernel
section
variable{X:Cx}
def a8j(K:Fg9)(ta:TA):TI:=λσ H R=>ta σ H λvs H1=>∃a k,vs=[.ref a]/\(∃xs,SqK k K H1 a xs)/\R (Ite K k a) H1
def azd{a:dI}{ta:TA}{p pos:Pos}{elts:List dI}{n:Nat}{tp:Pos}(hg:Gl X "enumerate")(hm:X.mg "enumerate"=ZY)(ha:PA X [a] ta)(hs:aO [a] X.env=[(ZW,eval a X.env)]:=by rfl) :
  PI X (.Tuple elts n tp) (.Call (.Name "enumerate" p) [a] [] pos) (a8j X.K ta):=by
 intro zv s σ H R I h;refine Call_ (ag0 I hg hm amf (iB (thn (ha pos zv s σ H _ I h) λus s1 ⟨vs,H1,I1,r1,q1⟩=>?_) hs rfl))
 obtain⟨b,k,rfl,⟨xs,hq⟩,q⟩:=q1;obtain⟨u,rfl,ru⟩:=vals1 r1;cases ru;obtain⟨its,rv,sq⟩:=yt I1 hq;refine aur sq λg he hi hz kk=>wpAny_pyIter_enum he ?_
 have I2:Inv X zv σ H1 { s1 with heap:=g }:=I1.kept (t':=s1.toks) kk
 refine⟨_,[s1.heap.objs.size+1,s1.heap.objs.size],_,_,H1,rfl,I2,arc k b _ _ (Nat.succ_ne_self _),⟨⟨_,he⟩,hi⟩,λc hc=>?_,q⟩
 have hc:c=s1.heap.objs.size+1∨c=s1.heap.objs.size:=by simpa using hc
 rcases hc with rfl |rfl
 ·exact I1.fpOk (kO _) (I1.hok.fresh (kO _))
 ·exact I1.fpOk (aP _) (I1.hok.fresh (aP _))
end
end Mn
namespace En
open PySem PySem.Builtin
def aon{prog:bT}{w:dB}{A:cQ}{E:aG->aJ->Prop}{s:aJ}{z TI TO:aQ}{f0:aG}{Q:Option aG->aJ->Prop}(hz:mX s.heap z TI TO f0)
  (h:bG (bL prog w) A.in1 (iM.«zip.__next__» ⟨[.ref z],[]⟩) (λfin s'=>∃v,fin=.done (.ret v)/\Q (ZZ v) s') (λe s'=>∃a o,e=.ref a/\s'.heap.get? a=ZZ o/\o.cls=.type "StopIteration" /\ Q ZY s') s) :
  bG (bL prog w) A (nT (.ref z)) Q E s:=by
 have tz:s.TypeIs (.ref z) "zip" := ⟨_,hz,rfl⟩;unfold nT;refine aA (wpAny_attempt (dU (name:=jL "__next__") tz yK (eY yK tz F.entry_zip_next (bD h (λfin s' ⟨v,e,q⟩=>⟨v,e,aH q⟩) λe s' ⟨a,o,e1,e2,e3,q⟩=>?_) (F.args_zip_next_1 _))))
 subst e1;exact aA (wpAny_isInstance (T := "StopIteration") (b:=ZX) ⟨o,e2,e3⟩ isSubtype_stop (aH q))
end En
namespace Mn
open L2 En
def Itz2(K:Fg9)(k1 k2:Bool)(a1 a2:aQ):It :=
 ⟨λi H=>∃x1 x2 v1 v2,(SqK k1 K H a1 x1/\x1[i]? = ZZ v1)/\(SqK k2 K H a2 x2/\x2[i]? = ZZ v2),λi H x H'=>∃q v1 v2,H q=ZY/\x=.ref q/\H'=upd H q (.tup [v1,v2])/\(∀xs,SqK k1 K H a1 xs->xs[i]? = ZZ v1)/\(∀xs,SqK k2 K H a2 xs->xs[i]? = ZZ v2),λi H=>∃xs,SqK k1 K H a1 xs/\xs.length=i⟩
def ara{P:bT}{w:dB}{K:Fg9}{elts:List dI}{n:Nat}{pos:Pos}(k1 k2:Bool)(a1 a2 z TI TO i1 i2:aQ)(D:Apart2 z TI TO i1 i2 a1 a2) :
  Turn P w K (.Tuple elts n pos) (Itz2 K k1 k2 a1 a2) [z,TI,TO,i1,i2] z (λi h=>mX h z TI TO .none/\Row2 h TI (.ref i1) (.ref i2)/\(∃v1 v2,Row2 h TO v1 v2)/\It1 k1 h i1 a1 i/\It1 k2 h i2 a2 i) where
 mem:=by simp
 obj:=λi h ⟨hz,hI,⟨v1,v2,hO⟩,h1,h2⟩ b hb=>by
  have hb:b=z∨b=TI∨b=TO∨b=i1∨b=i2:=by simpa using hb
  rcases hb with rfl |rfl |rfl |rfl |rfl
  ·exact⟨_,hz,λv z=>by cases z⟩
  ·exact⟨_,hI,λv z=>by cases z⟩
  ·exact⟨_,hO,λv z=>by cases z⟩
  ·exact h1.got
  ·exact h2.got
 keep:=λi h h' ⟨hz,hI,⟨v1,v2,hO⟩,h1,h2⟩ kk=>⟨kk z (by simp) _ hz,kk TI (by simp) _ hI,⟨v1,v2,kk TO (by simp) _ hO⟩,h1.at λo e=>kk i1 (by simp) o e,h2.at λo e=>kk i2 (by simp) o e⟩
 item:=by
  intro X hP hw hK hc i zv s σ H E I hf st hg;subst hP hw hK;obtain⟨hz,hI,⟨o1,o2,hO⟩,h1,h2⟩:=st;obtain⟨x1,x2,v1,v2,⟨hq1,hx1⟩,⟨hq2,hx2⟩⟩:=hg;obtain⟨t1,r1,s1⟩:=yt I hq1;obtain⟨u1,hu1,_⟩:=r1.get hx1;have b1:i<t1.toArray.size:=by simpa using (aK.mp hu1).1
  obtain⟨t2,r2,s2⟩:=yt I hq2;obtain⟨u2,hu2,_⟩:=r2.get hx2;have b2:i<t2.toArray.size:=by simpa using (aK.mp hu2).1
  refine aon hz (aqv (I.ok.hd hc) D hz hI hO h1 s1 h2 s2 b1 b2 λg tk y1 y2 p1 p2 z2 O2 j1 j2 T2 hsz hk=>?_)
  refine⟨_,rfl,wpAny_letOwnedTupleGo_zip z2 λg2 he2 sb=>?_⟩
  have fr:H s.heap.objs.size=ZY:=I.hok.fresh (aP _);have lt:∀b∈[z,TI,TO,i1,i2],b<s.heap.objs.size:=λb hb=>by
   have hb:b=z∨b=TI∨b=TO∨b=i1∨b=i2:=by simpa using hb
   rcases hb with rfl |rfl |rfl |rfl |rfl
   ·exact aN hz
   ·exact aN hI
   ·exact aN hO
   ·obtain⟨o,e,_⟩:=h1.got;exact aN e
   ·obtain⟨o,e,_⟩:=h2.got;exact aN e
  have up:∀b o,b∉[z,TI,TO,i1,i2]->s.heap.get? b=ZZ o->g2.get? b=ZZ o:=λb o hn e=>sb.extBut _ _ (λx=>hn (by simp[x])) (hk b o (λx=>hn (by simp[x])) (λx=>hn (by simp[x])) (λx=>hn (by simp[x])) (λx=>hn (by simp[x])) e)
  have TI2:g2.get? TI=_:=sb.extBut _ _ D.nTIz (hk TI _ D.nTIz D.nTOTI.symm D.ni1TI.symm D.ni2TI.symm hI);refine⟨.ref s.heap.objs.size,upd H s.heap.objs.size (.tup [v1,v2]),?_,rfl,⟨_,v1,v2,fr,rfl,rfl,λys hy=>by rw[ae7 I hy hq1];exact hx1,λys hy=>by rw[ae7 I hy hq2];exact hx2⟩,⟨he2,TI2,⟨y1,y2,sb.extBut _ _ D.nTOz O2⟩,(j1.at λo e=>sb.extBut _ _ D.ni1z e),(j2.at λo e=>sb.extBut _ _ D.ni2z e)⟩,λb hb=>?_⟩
  ·exact ank (fp:=[z,TI,TO,i1,i2]) (us:=[y1,y2]) I up hf lt (.cons (aai r1 hx1 p1) (.cons (aai r2 hx2 p2) .nil)) (by rw[gF];simp) (sb.extBut _ _ (fL (lt z (by simp))) T2)
  ·rw[b7 (bI (lt b hb))];exact(hf b hb).1
 done:=by
  intro X hP hw hK hc i zv s σ H E I hf st hg;subst hP hw hK;obtain⟨hz,hI,⟨o1,o2,hO⟩,h1,h2⟩:=st;obtain⟨xs,hq,hx⟩:=hg;obtain⟨its,rv,sq⟩:=yt I hq;have hl:i=its.toArray.size:=by have:=rv.length;simp;omega
  subst hl;refine aon hz (au5 (I.ok.hd hc) D hz hI hO h1 sq λg e kk ⟨o,he,ce⟩=>⟨e,o,rfl,he,ce,rfl,ack (t':=s.toks) (fp:=[z,TI,TO,i1,i2]) I (λb o hn z=>kk b o (λz=>hn (by simp[z])) (λz=>hn (by simp[z])) z) hf⟩)
 self:=λ_ _ _ _ _ st h=>wpAny_pyIter_zip st.1 h
def apart2{N l1 l2:Nat}(h1:l1<N)(h2:l2<N):Apart2 (N+4) (N+2) (N+3) N (N+1) l1 l2:=by
 constructor <;> (intro e;have e:(_:Nat)=_:=e;omega)
section
variable{X:Cx}
def a8g(K:Fg9)(ta:TA):TI:=λσ H R=>ta σ H λvs H1=>∃a1 a2 k1 k2,vs=[.ref a1,.ref a2]/\(∃xs,SqK k1 K H1 a1 xs)/\(∃xs,SqK k2 K H1 a2 xs)/\R (Itz2 K k1 k2 a1 a2) H1
def azc{e1 e2:dI}{ta:TA}{p pos:Pos}{elts:List dI}{n:Nat}{tp:Pos}(hg:Gl X "zip")(hm:X.mg "zip"=ZY)(ha:PA X [e1,e2] ta)(hs:aO [e1,e2] X.env=[(ZW,eval e1 X.env),(ZW,eval e2 X.env)]:=by rfl)(hs2:aO [e2] X.env=[(ZW,eval e2 X.env)]:=by rfl) :
  PI X (.Tuple elts n tp) (.Call (.Name "zip" p) [e1,e2] [] pos) (a8g X.K ta):=by
 intro zv s σ H R I h;refine Call_ (ag0 I hg hm ax6 (iB (thn (ha pos zv s σ H _ I h) λus s1 ⟨vs,H1,I1,r1,q1⟩=>?_) (by rw[hs,hs2]) (by rw[hs2];rfl)))
 obtain⟨a1,a2,k1,k2,rfl,⟨x1,hq1⟩,⟨x2,hq2⟩,q⟩:=q1;obtain⟨u1,u2,rfl,ru1,ru2⟩:=vals2 r1;cases ru1;cases ru2;obtain⟨t1,r1',sq1⟩:=yt I1 hq1;have b1:a1<s1.heap.objs.size:=by obtain⟨o,e⟩:=sq1.got;exact aN e
 obtain⟨t2,r2',sq2⟩:=yt I1 hq2;have b2:a2<s1.heap.objs.size:=by obtain⟨o,e⟩:=sq2.got;exact aN e
 refine aun sq1 sq2 λg hz hI hO h1 h2 hsz kk=>wpAny_pyIter_zip hz ?_
 have I2:Inv X zv σ H1 { s1 with heap:=g }:=I1.kept (t':=s1.toks) kk
 refine⟨_,[s1.heap.objs.size+4,s1.heap.objs.size+2,s1.heap.objs.size+3,s1.heap.objs.size,s1.heap.objs.size+1],_,_,H1,rfl,I2,ara k1 k2 a1 a2 _ _ _ _ _ (apart2 b1 b2),⟨hz,hI,⟨_,_,hO⟩,h1,h2⟩,λc hc=>?_,q⟩
 have hc:s1.heap.objs.size<=c:=by
  simp only[bA,cI,or_false] at hc;rcases hc with rfl |rfl |rfl |rfl |rfl <;> first |exact aP _ |exact xY _ _
 exact I1.fpOk hc (I1.hok.fresh hc)
end
def Itz3(K:Fg9)(k1 k2 k3:Bool)(a1 a2 a3:aQ):It :=
 ⟨λi H=>∃x1 x2 x3 v1 v2 v3,(SqK k1 K H a1 x1/\x1[i]? = ZZ v1)/\(SqK k2 K H a2 x2/\x2[i]? = ZZ v2)/\(SqK k3 K H a3 x3/\x3[i]? = ZZ v3),λi H x H'=>∃q v1 v2 v3,H q=ZY/\x=.ref q/\H'=upd H q (.tup [v1,v2,v3])/\(∀xs,SqK k1 K H a1 xs->xs[i]? = ZZ v1)/\(∀xs,SqK k2 K H a2 xs->xs[i]? = ZZ v2)/\(∀xs,SqK k3 K H a3 xs->xs[i]? = ZZ v3),λi H=>∃xs,SqK k1 K H a1 xs/\xs.length=i⟩
def aq9{P:bT}{w:dB}{K:Fg9}{elts:List dI}{n:Nat}{pos:Pos}(k1 k2 k3:Bool)(a1 a2 a3 z TI TO i1 i2 i3:aQ)(D:Apart3 z TI TO i1 i2 i3 a1 a2 a3) :
  Turn P w K (.Tuple elts n pos) (Itz3 K k1 k2 k3 a1 a2 a3) [z,TI,TO,i1,i2,i3] z (λi h=>mX h z TI TO .none/\Row3 h TI (.ref i1) (.ref i2) (.ref i3)/\(∃v1 v2 v3,Row3 h TO v1 v2 v3)/\It1 k1 h i1 a1 i/\It1 k2 h i2 a2 i/\It1 k3 h i3 a3 i) where
 mem:=by simp
 obj:=λi h ⟨hz,hI,⟨v1,v2,v3,hO⟩,h1,h2,h3⟩ b hb=>by
  have hb:b=z∨b=TI∨b=TO∨b=i1∨b=i2∨b=i3:=by simpa using hb
  rcases hb with rfl |rfl |rfl |rfl |rfl |rfl
  ·exact⟨_,hz,λv z=>by cases z⟩
  ·exact⟨_,hI,λv z=>by cases z⟩
  ·exact⟨_,hO,λv z=>by cases z⟩
  ·exact h1.got
  ·exact h2.got
  ·exact h3.got
 keep:=λi h h' ⟨hz,hI,⟨v1,v2,v3,hO⟩,h1,h2,h3⟩ kk=>⟨kk z (by simp) _ hz,kk TI (by simp) _ hI,⟨v1,v2,v3,kk TO (by simp) _ hO⟩,h1.at λo e=>kk i1 (by simp) o e,h2.at λo e=>kk i2 (by simp) o e,h3.at λo e=>kk i3 (by simp) o e⟩
 item:=by
  intro X hP hw hK hc i zv s σ H E I hf st hg;subst hP hw hK;obtain⟨hz,hI,⟨o1,o2,o3,hO⟩,h1,h2,h3⟩:=st;obtain⟨x1,x2,x3,v1,v2,v3,⟨hq1,hx1⟩,⟨hq2,hx2⟩,⟨hq3,hx3⟩⟩:=hg;obtain⟨t1,r1,s1⟩:=yt I hq1;obtain⟨u1,hu1,_⟩:=r1.get hx1;have b1:i<t1.toArray.size:=by simpa using (aK.mp hu1).1
  obtain⟨t2,r2,s2⟩:=yt I hq2;obtain⟨u2,hu2,_⟩:=r2.get hx2;have b2:i<t2.toArray.size:=by simpa using (aK.mp hu2).1
  obtain⟨t3,r3,s3⟩:=yt I hq3;obtain⟨u3,hu3,_⟩:=r3.get hx3;have b3:i<t3.toArray.size:=by simpa using (aK.mp hu3).1
  refine aon hz (aqt (I.ok.hd hc) D hz hI hO h1 s1 h2 s2 h3 s3 b1 b2 b3 λg tk y1 y2 y3 p1 p2 p3 z2 O2 j1 j2 j3 T2 hsz hk=>?_)
  refine⟨_,rfl,wpAny_letOwnedTupleGo_zip z2 λg2 he2 sb=>?_⟩
  have fr:H s.heap.objs.size=ZY:=I.hok.fresh (aP _);have lt:∀b∈[z,TI,TO,i1,i2,i3],b<s.heap.objs.size:=λb hb=>by
   have hb:b=z∨b=TI∨b=TO∨b=i1∨b=i2∨b=i3:=by simpa using hb
   rcases hb with rfl |rfl |rfl |rfl |rfl |rfl
   ·exact aN hz
   ·exact aN hI
   ·exact aN hO
   ·obtain⟨o,e,_⟩:=h1.got;exact aN e
   ·obtain⟨o,e,_⟩:=h2.got;exact aN e
   ·obtain⟨o,e,_⟩:=h3.got;exact aN e
  have up:∀b o,b∉[z,TI,TO,i1,i2,i3]->s.heap.get? b=ZZ o->g2.get? b=ZZ o:=λb o hn e=>sb.extBut _ _ (λx=>hn (by simp[x])) (hk b o (λx=>hn (by simp[x])) (λx=>hn (by simp[x])) (λx=>hn (by simp[x])) (λx=>hn (by simp[x])) (λx=>hn (by simp[x])) e)
  have TI2:g2.get? TI=_:=sb.extBut _ _ D.nTIz (hk TI _ D.nTIz D.nTOTI.symm D.ni1TI.symm D.ni2TI.symm D.ni3TI.symm hI);refine⟨.ref s.heap.objs.size,upd H s.heap.objs.size (.tup [v1,v2,v3]),?_,rfl,⟨_,v1,v2,v3,fr,rfl,rfl,λys hy=>by rw[ae7 I hy hq1];exact hx1,λys hy=>by rw[ae7 I hy hq2];exact hx2,λys hy=>by rw[ae7 I hy hq3];exact hx3⟩,⟨he2,TI2,⟨y1,y2,y3,sb.extBut _ _ D.nTOz O2⟩,(j1.at λo e=>sb.extBut _ _ D.ni1z e),(j2.at λo e=>sb.extBut _ _ D.ni2z e),(j3.at λo e=>sb.extBut _ _ D.ni3z e)⟩,λb hb=>?_⟩
  ·exact ank (fp:=[z,TI,TO,i1,i2,i3]) (us:=[y1,y2,y3]) I up hf lt (.cons (aai r1 hx1 p1) (.cons (aai r2 hx2 p2) (.cons (aai r3 hx3 p3) .nil))) (by rw[gF];simp) (sb.extBut _ _ (fL (lt z (by simp))) T2)
  ·rw[b7 (bI (lt b hb))];exact(hf b hb).1
 done:=by
  intro X hP hw hK hc i zv s σ H E I hf st hg;subst hP hw hK;obtain⟨hz,hI,⟨o1,o2,o3,hO⟩,h1,h2,h3⟩:=st;obtain⟨xs,hq,hx⟩:=hg;obtain⟨its,rv,sq⟩:=yt I hq;have hl:i=its.toArray.size:=by have:=rv.length;simp;omega
  subst hl;refine aon hz (au4 (I.ok.hd hc) D hz hI hO h1 sq λg e kk ⟨o,he,ce⟩=>⟨e,o,rfl,he,ce,rfl,ack (t':=s.toks) (fp:=[z,TI,TO,i1,i2,i3]) I (λb o hn z=>kk b o (λz=>hn (by simp[z])) (λz=>hn (by simp[z])) z) hf⟩)
 self:=λ_ _ _ _ _ st h=>wpAny_pyIter_zip st.1 h
def a5e{N l1 l2 l3:Nat}(h1:l1<N)(h2:l2<N)(h3:l3<N):Apart3 (N+5) (N+3) (N+4) N (N+1) (N+2) l1 l2 l3:=by
 constructor <;> (intro e;have e:(_:Nat)=_:=e;omega)
section
variable{X:Cx}
def a8f(K:Fg9)(ta:TA):TI:=λσ H R=>ta σ H λvs H1=>∃a1 a2 a3 k1 k2 k3,vs=[.ref a1,.ref a2,.ref a3]/\(∃xs,SqK k1 K H1 a1 xs)/\(∃xs,SqK k2 K H1 a2 xs)/\(∃xs,SqK k3 K H1 a3 xs)/\R (Itz3 K k1 k2 k3 a1 a2 a3) H1
theorem azb{e1 e2 e3:dI}{ta:TA}{p pos:Pos}{elts:List dI}{n:Nat}{tp:Pos}(hg:Gl X "zip")(hm:X.mg "zip"=ZY)(ha:PA X [e1,e2,e3] ta)(hs:aO [e1,e2,e3] X.env=[(ZW,eval e1 X.env),(ZW,eval e2 X.env),(ZW,eval e3 X.env)]:=by rfl)(hs2:aO [e2,e3] X.env=[(ZW,eval e2 X.env),(ZW,eval e3 X.env)]:=by rfl) :
  PI X (.Tuple elts n tp) (.Call (.Name "zip" p) [e1,e2,e3] [] pos) (a8f X.K ta):=by
 intro zv s σ H R I h;refine Call_ (ag0 I hg hm ax6 (iB (thn (ha pos zv s σ H _ I h) λus s1 ⟨vs,H1,I1,r1,q1⟩=>?_) (by rw[hs,hs2]) (by rw[hs2];rfl)))
 obtain⟨a1,a2,a3,k1,k2,k3,rfl,⟨x1,hq1⟩,⟨x2,hq2⟩,⟨x3,hq3⟩,q⟩:=q1;cases r1 with
 |cons ru1 r1=>
 obtain⟨u2,u3,rfl,ru2,ru3⟩:=vals2 r1;cases ru1;cases ru2;cases ru3;obtain⟨t1,r1',sq1⟩:=yt I1 hq1;have b1:a1<s1.heap.objs.size:=by obtain⟨o,e⟩:=sq1.got;exact aN e
 obtain⟨t2,r2',sq2⟩:=yt I1 hq2;have b2:a2<s1.heap.objs.size:=by obtain⟨o,e⟩:=sq2.got;exact aN e
 obtain⟨t3,r3',sq3⟩:=yt I1 hq3;have b3:a3<s1.heap.objs.size:=by obtain⟨o,e⟩:=sq3.got;exact aN e
 refine aum sq1 sq2 sq3 λg hz hI hO h1 h2 h3 hsz kk=>wpAny_pyIter_zip hz ?_
 have I2:Inv X zv σ H1 { s1 with heap:=g }:=I1.kept (t':=s1.toks) kk
 refine⟨_,[s1.heap.objs.size+5,s1.heap.objs.size+3,s1.heap.objs.size+4,s1.heap.objs.size,s1.heap.objs.size+1,s1.heap.objs.size+2],_,_,H1,rfl,I2,aq9 k1 k2 k3 a1 a2 a3 _ _ _ _ _ _ (a5e b1 b2 b3),⟨hz,hI,⟨_,_,_,hO⟩,h1,h2,h3⟩,λc hc=>?_,q⟩
 have hc:s1.heap.objs.size<=c:=by
  simp only[bA,cI,or_false] at hc;rcases hc with rfl |rfl |rfl |rfl |rfl |rfl <;> first |exact aP _ |exact xY _ _
 exact I1.fpOk hc (I1.hok.fresh hc)
end
end Mn
namespace Dn
open L2 Mn
section
variable{K:Fg9}{X:Cx}{e a b c:dI}{es elts:List dI}{pos p tp:Pos}{n:Nat}
theorem aie{F:Hp}{d:D}{l:List D}{v:V}(e:itemsD d=ZZ l)(h:Is K F d v):∃a k vs,v=.ref a/\IsL K F l vs/\∀H,Same F H->SqK k K H a vs:=by
 cases h with
 |tup e1 h1=>cases e;exact⟨_,ZX,_,rfl,h1,λH g=>SqT.of (g _ _ e1)⟩
 |lst e1 h1=>cases e;exact⟨_,ZW,_,rfl,h1,λH g=>SqL.of (g _ _ e1)⟩
 |kst e1 h1=>cases e;exact⟨_,ZW,_,rfl,h1,λH g=>L2.Same.seq g e1⟩
 |_=>cases e
def aj5(l:List D):List D:=l.mapIdx λi d=>.tup [.int (i:Nat),d]
def atn:List D->Option (List D)
 | [d]=>(itemsD d).map aj5
 |_=>ZY
def al5(l:List D):(aj5 l).length=l.length:=by unfold aj5;simp
theorem at9{l:List D}{i:Nat}{d:D}(h:(aj5 l)[i]? = ZZ d):∃d0,l[i]? = ZZ d0/\d=.tup [.int (i:Nat),d0]:=by
 unfold aj5 at h;rw[mF] at h;cases e:l[i]? with
 |none=>rw[e] at h;cases h
 |some d0=>rw[e] at h;cases h;exact⟨d0,rfl,rfl⟩
def awk{F:Hp}{k:Bool}{a:aQ}{l:List D}{vs:List V}(il:IsL K F l vs)(hs:∀H,Same F H->SqK k K H a vs):ItD K (Ite K k a) (aj5 l) F where
 go:=λi H s hi=>by
  have hi:i<vs.length:=by rw[<-il.length,<-al5];exact hi
  exact⟨vs,_,hs H s,aF hi⟩
 yld:=λi H x H' d s y hd=>by
  obtain⟨d0,h0,rfl⟩:=at9 hd;obtain⟨q,v,hq,rfl,rfl,hv⟩:=y;obtain⟨v',e1,i1⟩:=il.get h0;have:=hv _ (hs H s);rw[e1] at this;cases this;exact .inr ⟨q,_,_,hq,rfl,rfl,rfl,.cons (.int _) (.cons i1 .nil)⟩
 stop:=λH s=>⟨vs,hs H s,by rw[al5,il.length]⟩
theorem aju{m:M (List D)}(hg:Gl X "enumerate")(hm:X.mg "enumerate"=ZY)(h:ED K X [a] m)(hs:aO [a] X.env=[(ZW,eval a X.env)]:=by rfl):IT K X (.Tuple elts n tp) (.Call (.Name "enumerate" p) [a] [] pos) (mGet atn m):=IT.mk λhk=>by
 intro zv s σ H R I z9;obtain⟨tg,F,ρ,l,ρ',G,em,q⟩:=z9;obtain⟨ds,ρ1,e1,em⟩:=bf em;obtain⟨e2,rfl⟩:=ik em;have h:=h hk;subst hk;refine azd hg hm h hs zv s σ H R I ⟨tg,F,ρ,ds,_,G,e1,λvs H' F' G' x r=>?_⟩
 match ds,e2 with
 | [d],e2=>
  have e2:(itemsD d).map aj5=ZZ l:=e2;cases e3:itemsD d with
  |none=>rw[e3] at e2;cases e2
  |some l0=>
   rw[e3] at e2;cases e2;cases r with
   |cons h1 t=>
    cases t;obtain⟨b,k,ws,rfl,il,hq⟩:=aie e3 h1;exact⟨b,k,rfl,⟨ws,hq _ G'.sub⟩,q _ H' F' G' x (awk il hq)⟩
def ac0(l1 l2:List D):List D:=List.zipWith (λx y=>.tup [x,y]) l1 l2
def afv(l1 l2 l3:List D):List D:=List.zipWith (λx (p:D×D)=>.tup [x,p.1,p.2]) l1 (rQ l2 l3)
def anq:List D->Option (List D)
 | [a,b]=>(itemsD a).bind λl1=>(itemsD b).bind λl2=>if l1.length<=l2.length then ZZ (ac0 l1 l2) else ZY
 |_=>ZY
def ati:List D->Option (List D)
 | [a,b,c]=>(itemsD a).bind λl1=>(itemsD b).bind λl2=>(itemsD c).bind λl3=>if l1.length<=l2.length/\l1.length<=l3.length then ZZ (afv l1 l2 l3) else ZY
 |_=>ZY
theorem ake{l1 l2:List D}{i:Nat}{d:D}(h:(ac0 l1 l2)[i]? = ZZ d):∃d1 d2,l1[i]? = ZZ d1/\l2[i]? = ZZ d2/\d=.tup [d1,d2]:=by
 unfold ac0 at h;rw[pJ] at h;cases e1:l1[i]? with
 |none=>rw[e1] at h;cases h
 |some d1=>
  cases e2:l2[i]? with
  |none=>rw[e1,e2] at h;cases h
  |some d2=>rw[e1,e2] at h;cases h;exact⟨_,_,rfl,rfl,rfl⟩
theorem akd{l1 l2 l3:List D}{i:Nat}{d:D}(h:(afv l1 l2 l3)[i]? = ZZ d):∃d1 d2 d3,l1[i]? = ZZ d1/\l2[i]? = ZZ d2/\l3[i]? = ZZ d3/\d=.tup [d1,d2,d3]:=by
 unfold afv at h;rw[pJ] at h;cases e1:l1[i]? with
 |none=>rw[e1] at h;cases h
 |some d1=>
  cases e2:(rQ l2 l3)[i]? with
  |none=>rw[e1,e2] at h;cases h
  |some p=>
   rw[e1,e2] at h;cases h;rw[iK] at e2;exact⟨_,_,_,rfl,e2.1,e2.2,rfl⟩
def awj{F:Hp}{k1 k2:Bool}{a1 a2:aQ}{l1 l2:List D}{x1 x2:List V}(h:l1.length<=l2.length)(i1:IsL K F l1 x1)(i2:IsL K F l2 x2)(s1:∀H,Same F H->SqK k1 K H a1 x1)(s2:∀H,Same F H->SqK k2 K H a2 x2):ItD K (Itz2 K k1 k2 a1 a2) (ac0 l1 l2) F where
 go:=λi H s hi=>by
  have z1:=i1.length;have z2:=i2.length;have hi:i<l1.length:=by unfold ac0 at hi;simp at hi;omega
  exact⟨x1,x2,_,_,⟨s1 H s,aF (by omega)⟩,s2 H s,aF (by omega)⟩
 yld:=λi H x H' d s y hd=>by
  obtain⟨d1,d2,h1,h2,rfl⟩:=ake hd;obtain⟨q,v1,v2,hq,rfl,rfl,y1,y2⟩:=y;obtain⟨w1,e1,j1⟩:=i1.get h1;obtain⟨w2,e2,j2⟩:=i2.get h2;have z1:=y1 _ (s1 H s);have z2:=y2 _ (s2 H s);rw[e1] at z1;rw[e2] at z2;cases z1;cases z2;exact .inr ⟨q,_,_,hq,rfl,rfl,rfl,.cons j1 (.cons j2 .nil)⟩
 stop:=λH s=>⟨x1,s1 H s,by unfold ac0;rw[mU,<-i1.length];omega⟩
def awi{F:Hp}{k1 k2 k3:Bool}{a1 a2 a3:aQ}{l1 l2 l3:List D}{x1 x2 x3:List V}(h:l1.length<=l2.length/\l1.length<=l3.length)(i1:IsL K F l1 x1)(i2:IsL K F l2 x2)(i3:IsL K F l3 x3)
  (s1:∀H,Same F H->SqK k1 K H a1 x1) (s2:∀H,Same F H->SqK k2 K H a2 x2) (s3:∀H,Same F H->SqK k3 K H a3 x3):ItD K (Itz3 K k1 k2 k3 a1 a2 a3) (afv l1 l2 l3) F where
 go:=λi H s hi=>by
  have z1:=i1.length;have z2:=i2.length;have z3:=i3.length;have hi:i<l1.length:=by unfold afv at hi;simp at hi;omega
  exact⟨x1,x2,x3,_,_,_,⟨s1 H s,aF (by omega)⟩,⟨s2 H s,aF (by omega)⟩,s3 H s,aF (by omega)⟩
 yld:=λi H x H' d s y hd=>by
  obtain⟨d1,d2,d3,h1,h2,h3,rfl⟩:=akd hd;obtain⟨q,v1,v2,v3,hq,rfl,rfl,y1,y2,y3⟩:=y;obtain⟨w1,e1,j1⟩:=i1.get h1;obtain⟨w2,e2,j2⟩:=i2.get h2;obtain⟨w3,e3,j3⟩:=i3.get h3;have z1:=y1 _ (s1 H s);have z2:=y2 _ (s2 H s);have z3:=y3 _ (s3 H s);rw[e1] at z1;rw[e2] at z2;rw[e3] at z3;cases z1;cases z2;cases z3;exact .inr ⟨q,_,_,hq,rfl,rfl,rfl,.cons j1 (.cons j2 (.cons j3 .nil))⟩
 stop:=λH s=>⟨x1,s1 H s,by unfold afv;rw[mU,mV,<-i1.length];omega⟩
theorem ag3{m:M (List D)}(hg:Gl X "zip")(hm:X.mg "zip"=ZY)(h:ED K X [a,b] m)(hs:aO [a,b] X.env=[(ZW,eval a X.env),(ZW,eval b X.env)]:=by rfl)(hs2:aO [b] X.env=[(ZW,eval b X.env)]:=by rfl) :
  IT K X (.Tuple elts n tp) (.Call (.Name "zip" p) [a,b] [] pos) (mGet anq m):=IT.mk λhk=>by
 intro zv s σ H R I z9;obtain⟨tg,F,ρ,l,ρ',G,em,q⟩:=z9;obtain⟨ds,ρ1,e1,em⟩:=bf em;obtain⟨e2,rfl⟩:=ik em;have h:=h hk;subst hk;refine azc hg hm h hs hs2 zv s σ H R I ⟨tg,F,ρ,ds,_,G,e1,λvs H' F' G' x r=>?_⟩
 match ds,e2 with
 | [d,d'],e2=>
  have e2:((itemsD d).bind λl1=>(itemsD d').bind λl2=>if l1.length<=l2.length then ZZ (ac0 l1 l2) else ZY)=ZZ l:=e2
  cases e3:itemsD d with
  |none=>rw[e3] at e2;cases e2
  |some l1=>
   cases e4:itemsD d' with
   |none=>rw[e3,e4] at e2;cases e2
   |some l2=>
    rw[e3,e4] at e2;have e2:(if l1.length<=l2.length then ZZ (ac0 l1 l2) else ZY)=ZZ l:=e2
    split at e2
    ·rename_i hle;cases e2;cases r with
     |cons h1 t=>
      cases t with
      |cons h2 t=>
       cases t;obtain⟨b1,k1,w1,rfl,il1,hq1⟩:=aie e3 h1;obtain⟨b2,k2,w2,rfl,il2,hq2⟩:=aie e4 h2;exact⟨b1,b2,k1,k2,rfl,⟨w1,hq1 _ G'.sub⟩,⟨w2,hq2 _ G'.sub⟩,q _ H' F' G' x (awj hle il1 il2 hq1 hq2)⟩
    ·cases e2
theorem ag2{m:M (List D)}(hg:Gl X "zip")(hm:X.mg "zip"=ZY)(h:ED K X [a,b,c] m)(hs:aO [a,b,c] X.env=[(ZW,eval a X.env),(ZW,eval b X.env),(ZW,eval c X.env)]:=by rfl)(hs2:aO [b,c] X.env=[(ZW,eval b X.env),(ZW,eval c X.env)]:=by rfl) :
  IT K X (.Tuple elts n tp) (.Call (.Name "zip" p) [a,b,c] [] pos) (mGet ati m):=IT.mk λhk=>by
 intro zv s σ H R I z9;obtain⟨tg,F,ρ,l,ρ',G,em,q⟩:=z9;obtain⟨ds,ρ1,e1,em⟩:=bf em;obtain⟨e2,rfl⟩:=ik em;have h:=h hk;subst hk;refine azb hg hm h hs hs2 zv s σ H R I ⟨tg,F,ρ,ds,_,G,e1,λvs H' F' G' x r=>?_⟩
 match ds,e2 with
 | [d,d',d''],e2=>
  have e2:((itemsD d).bind λl1=>(itemsD d').bind λl2=>(itemsD d'').bind λl3=>if l1.length<=l2.length/\l1.length<=l3.length then ZZ (afv l1 l2 l3) else ZY)=ZZ l:=e2
  cases e3:itemsD d with
  |none=>rw[e3] at e2;cases e2
  |some l1=>
   cases e4:itemsD d' with
   |none=>rw[e3,e4] at e2;cases e2
   |some l2=>
    cases e5:itemsD d'' with
    |none=>rw[e3,e4,e5] at e2;cases e2
    |some l3=>
     rw[e3,e4,e5] at e2;have e2:(if l1.length<=l2.length/\l1.length<=l3.length then ZZ (afv l1 l2 l3) else ZY)=ZZ l:=e2
     split at e2
     ·rename_i hle;cases e2;cases r with
      |cons h1 t=>
       cases t with
       |cons h2 t=>
        cases t with
        |cons h3 t=>
         cases t;obtain⟨b1,k1,w1,rfl,il1,hq1⟩:=aie e3 h1;obtain⟨b2,k2,w2,rfl,il2,hq2⟩:=aie e4 h2;obtain⟨b3,k3,w3,rfl,il3,hq3⟩:=aie e5 h3;exact⟨b1,b2,b3,k1,k2,k3,rfl,⟨w1,hq1 _ G'.sub⟩,⟨w2,hq2 _ G'.sub⟩,⟨w3,hq3 _ G'.sub⟩,q _ H' F' G' x (awi hle il1 il2 il3 hq1 hq2 hq3)⟩
     ·cases e2
end
end Dn
namespace Mn
open L2
def ao2{X:Cx}:PGet X (rIxL X.K):=by
 intro zv s σ H x y v u Q I rx ry h;obtain⟨p,xs,i,z,rfl,rfl,hq,he,q⟩:=h;cases rx;obtain⟨t,rfl⟩:=ry;obtain⟨its,r,pl,hz⟩:=I.list hq;obtain⟨j,h1,h2,h3,h4,h5⟩:=an5 he;obtain⟨w,ew,rw'⟩:=r.get h2;have hl:=r.length;have hn:=alo;have fin:EP X zv σ Q w s:=⟨z,H,I,rw',q⟩
 by_cases h0:0<=i
 ·have hj:i.toNat=j:=by
   rw[seqIndex_of h0 h5] at h1;exact cN h1
  exact wpAny_getItem_list pl.isList h0 (by omega) (by rw[hj];simpa using ew) fin
 ·have hj:(i+(its.toArray.size:Int)).toNat=j:=by
   rw[seqIndex_neg (by omega) h4] at h1
   have:=cN h1;rw[aW,<-hl];exact this
  exact wpAny_getItem_list_neg pl.isList (by omega) (by simp only[aW];omega) (by omega) (by rw[hj];simpa using ew) fin
end Mn
namespace Dn
open L2 Mn
section
variable{K:Fg9}{X:Cx}{e a b:dI}{pos p:Pos}
def an0(f:Int->Int->Int)(i:Nat)(mi m:M D):Sd:=dM (mOwn i) λ_=>dM mi λk=>dM (mOwn i) λl=>dM (lift ((asI k).bind (ixN l.length))) λj=>dM (lift ((l[j]?).bind asI)) λx=>dM m λy=>dM (lift (asI y)) λy=>dM (mOwn i) λl2=>dM (lift (if l2.length=l.length then ZZ () else ZY)) λ_=>dM (abw i (l2.set j (.int (f x y)))) λ_=>dNx
def axr{n:Nat}{k:Int}{j:Nat}{α:Type}{l:List α}(hn:l.length=n)(h:ixN n k=ZZ j):atI l k=l[j]? := by
 unfold atI;rw[hn,h];rfl
theorem ari{f:Int->Int->Int}{op:Operator}{i:Nat}{mi m:M D}(ho:PE X a (tVar i))(hi:EV K X b mi)(h:EV K X e m)(hp:PIp X op (ipI f))
  (ha:∀ov iv new,augStore b ov iv new=(do jZ [new,ov,iv] (setItem ov iv new);release [new,ov,iv] [];pure .next):=by intros;rfl):SV K X (.AugAssign (.Subscript a b p) op e pos) (an0 f i mi m):=SV.mk λhk=>by
 subst hk;refine PS.imp (ar9 ho (hi rfl) ao2 (h rfl) hp set_list ha) λE σ H z9=>?_
 obtain⟨tg,F,ρ,fl,ρ',G,em,q⟩:=z9;refine my em q λl0 ρ0 e0 em=>my em q λk ρ1 e1 em=>my em q λl ρ2 e2 em=>my em q λj ρ3 e3 em=>my em q λx ρ4 e4 em=>my em q λy ρ5 e5 em=>my em q λy' ρ6 e6 em=>my em q λl2 ρ7 e7 em=>my em q λu ρ8 e8 em=>my em q λu2 ρ9 e9 em=>?_
 cases em;obtain⟨rfl,t0,a0,xs0,es0,hv,hh0,hl0⟩:=acs G e0;refine⟨_,hv,tg,F,_,k,ρ1,G,e1,λw H1 F1 G1 x1 r1=>?_⟩
 obtain⟨rfl,t1,a1,xs1,es1,hv1,hh1,hl1⟩:=acs G1 e2;rw[hv] at hv1;cases hv1;obtain⟨g3,rfl⟩:=ik e3;obtain⟨g4,rfl⟩:=ik e4;cases ek:asI k with
 |none=>rw[ek] at g3;cases g3
 |some n=>
  rw[ek] at g3;obtain rfl:=afu ek;cases r1;have e3:ixN l.length n=ZZ j:=g3;cases ej:l[j]? with
  |none=>rw[ej] at g4;cases g4
  |some d=>
   rw[ej] at g4;have h4:asI d=ZZ x:=g4;obtain rfl:=afu h4;obtain⟨v,ev,iv⟩:=hl1.get ej;cases iv;refine⟨_,xs1,n,.int x,rfl,rfl,SqL.of hh1,by rw[axr hl1.length.symm e3];exact ev,?_⟩
   refine⟨tg,F1,_,y,ρ5,G1,e5,λw2 H2 F2 G2 x2 r2=>?_⟩
   obtain⟨g6,rfl⟩:=ik e6;obtain rfl:=afu g6;cases r2;refine⟨x,y',rfl,rfl,?_⟩;obtain⟨rfl,t2,a2,xs2,es2,hv2,hh2,hl2⟩:=acs G2 e7;rw[hv] at hv2;cases hv2;obtain⟨g8,rfl⟩:=ik e8;split at g8
   ·rename_i hlen;obtain⟨G3,x3⟩:=agu G2 e9 hv (hl2.set (Is.int (f x y')) j);exact⟨_,xs2,n,j,rfl,rfl,hh2,by rw[<-hl2.length,hlen];exact e3,q _ _ F2 G3 ((x1.trans x2).trans x3)⟩
   ·cases g8
end
section
variable{K:Fg9}{X:Cx}{a:dI}{pos p p2 pos2:Pos}
def auo:abi X (.type "range") (λxs H Q=>∃b,xs=[.int b]/\∀q,H q=ZY->Q (.ref q) (upd H q (.rng 0 b))):=by
 intro zv s σ H xs us Q I r h;obtain⟨b,rfl,q⟩:=h;obtain⟨u,rfl,ru⟩:=vals1 r;obtain⟨t,rfl⟩:=ru;exact call_range_1 ⟨.ref s.heap.objs.size,_,I.laid (t':=s.toks+1+1) (o:=.rng 0 b) (λb ob q=>aB _ q) (aP _) ⟨_,_,_,aM _ rfl⟩,rfl,q _ (I.hok.fresh (aP _))⟩
def avf{acc:Array aG}{n:Nat}(h:ItemsOf (λi v=>∃t,v=.int (0+i*1) t) acc n):Vals (ups 0 n) acc.toList:=by
 have key:∀(l:List aG) (k:Nat),(∀j v,l[j]? = ZZ v->∃t,v=mK ((k+j:Nat):Int) t)->Vals ((List.range' k l.length).map λ(i:Nat)=>V.int ((i:Nat):Int)) l:=by
  intro l
  induction l with
  |nil=>intro k _;exact .nil
  |cons x r ih=>
   intro k hk;rw[bF,List.range'_succ,bC];refine .cons ?_ (ih (k+1) λj v hj=>?_)
   ·obtain⟨t,rfl⟩:=hk 0 x rfl;exact⟨t,by simp⟩
   ·obtain⟨t,rfl⟩:=hk (j+1) v (by simpa using hj)
    exact⟨t,by rw[show k+(j+1)=k+1+j by omega]⟩
 have e:=key acc.toList 0 λj v hj=>by
  obtain⟨t,rfl⟩:=h.2 j v (by simpa using hj)
  exact⟨t,by simp⟩
 have hs:acc.toList.length=n:=by simpa using h.1
 rw[hs] at e;unfold ups;rw[List.range_eq_range']
 simpa using e
def al9(hc:X.calm=ZX):abi X (.type "list") (λxs H Q=>∃p b,xs=[.ref p]/\H p=ZZ (.rng 0 b)/\b.natAbs<1000000/\∀q,H q=ZY->Q (.ref q) (upd H q (.lst (ups 0 b.toNat)))):=by
 intro zv s σ H xs us Q I r h;obtain⟨p,b,rfl,hp,hb,q⟩:=h;obtain⟨u,rfl,ru⟩:=vals1 r;cases ru;obtain⟨t,u,v,e⟩:=I.hok p _ hp;have e62:(2:Int) ^ 62=4611686018427387904:=by decide
 have e24:(2:Nat) ^ 24=16777216:=by decide
 refine call_list_range (I.ok.hd hc) e (small_one (by omega) (by omega) (by omega) (by omega)) (n:=b.toNat) (by rw[rangeSize_one];split <;> omega) (by omega) λh' tk acc c' kk e' it=>?_
 refine⟨.ref s.heap.objs.size,_,?_,rfl,q _ (I.hok.fresh (aP _))⟩;exact I.laid kk (aP _) ⟨by rw[ai3,gF];omega,acc.toList,c',avf it,by simpa using e'⟩
def acl:List D->Option Rv
 | [.int j]=>if j.natAbs<1000000 then ZZ (.fr (lu 0 j.toNat)) else ZY
 |_=>ZY
def ae3(m:M (List D)):M Rv:=m.bind λds=>lift (acl ds)
@[simp] theorem awa(ρ:Ro)(m:M (List D)):ae3 m ρ=(m.bind λds=>lift (acl ds)) ρ:=rfl
@[simp] theorem au3(j:Int):acl [.int j]=if j.natAbs<1000000 then ZZ (.fr (lu 0 j.toNat)) else ZY:=rfl
theorem al4{m:M (List D)}(hc:X.calm=ZX)(hg1:Gl X "list")(hm1:X.mg "list"=ZY)(hg2:Gl X "range")(hm2:X.mg "range"=ZY)(h:ED K X [a] m)
  (he:aO [a] X.env=[(ZW,eval a X.env)]:=by rfl) (he2:aO [.Call (.Name "range" p2) [a] [] pos2] X.env=[(ZW,eval (.Call (.Name "range" p2) [a] [] pos2) X.env)]:=by rfl) :
  ER K X (.Call (.Name "list" p) [.Call (.Name "range" p2) [a] [] pos2] [] pos) (ae3 m):=ER.mk λhk=>PE.imp (ad4 (al9 hc) hg1 hm1 adq (sy (ad4 auo hg2 hm2 aw5 (h hk) (by decide) (by decide) he rfl) ad6 he2) (by decide) (by decide) he2 rfl) λσ H Q z9=>by
 obtain⟨tg,F,ρ,r,ρ',G,em,q⟩:=z9;obtain⟨ds,ρ1,e1,em⟩:=bf em;obtain⟨e2,rfl⟩:=ik em;refine⟨tg,F,ρ,ds,_,G,e1,λvs H1 F1 G1 x1 bl=>?_⟩
 unfold acl at e2;split at e2
 ·rename_i j;split at e2
  ·rename_i hb;cases e2;cases bl with
   |cons hd t=>
    cases t;cases hd;refine⟨j,rfl,λa hna=>?_⟩
    refine⟨a,j,rfl,gk,hb,λb hnb=>?_⟩
    have G2:=G1.fresh hna (.rng 0 j);have X2:=G1.freshX hna (.rng 0 j);exact Res.lst G2 (λv H3 F3 G3 x3 rr=>q v H3 F3 G3 ((x1.trans X2).trans x3) (lr (x1.trans X2) rr)) (aoi 0 _) hnb
  ·cases e2
 ·cases e2
end
end Dn
namespace Mn
open L2
section
variable{X:Cx}
def range_any(bs:List Bool):((bW bs.length).any λi=>(bs[i]?).getD ZX)=bs.any id:=by
 have key:∀(l:List Bool) (f:Nat->Bool),(∀i (h:i<l.length),f i=l[i])->(bW l.length).any f=l.any id:=by
  intro l
  induction l with
  |nil=>intro f _;rfl
  |cons b r ih=>
   intro f hf;rw[bF,List.range_succ_eq_map,qO,List.any_map,qO];have h0:=hf 0 (by simp)
   rw[h0]
   congr 1
   exact ih (f∘Nat.succ) λi hi=>by
    have:=hf (i+1) (by simpa using hi)
    simpa using this
 exact key bs _ λi hi=>by simp[hi]
end
end Mn
namespace Dn
open L2 Mn
section
variable{K:Fg9}{X:Cx}
end
end Dn
namespace L2
section
variable{M:vL}{A:cQ}{E:aG->aJ->Prop}{s:aJ}
structure KeptBut (fs ch:List aQ) (h h':eE):Prop where
 keep:∀b o,b∉ch->b∉fs->h.get? b=ZZ o->h'.get? b=ZZ o
 slot:∀b o,b∉ch->h.get? b=ZZ o->∃sl,h'.get? b=ZZ { o with slots:=sl }
def KeptBut.trans{fs ch:List aQ}{h h1 h2:eE}(a:KeptBut fs ch h h1)(b:KeptBut fs ch h1 h2):KeptBut fs ch h h2 :=
 ⟨λc o n1 n2 e=>b.keep c o n1 n2 (a.keep c o n1 n2 e),λc o n e=>let ⟨_,e1⟩:=a.slot c o n e;let ⟨sl,e2⟩:=b.slot c _ n e1;⟨sl,e2⟩⟩
def KeptBut.sub{fs ch ch':List aQ}{h h':eE}(a:KeptBut fs ch h h')(q:∀b∈ch,b∈ch'):KeptBut fs ch' h h' :=
 ⟨λc o n1 n2 e=>a.keep c o (λz=>n1 (q c z)) n2 e,λc o n e=>a.slot c o (λz=>n (q c z)) e⟩
def KeptBut.upd{fs:List aQ}{h:eE}{a:aQ}{f:Obj->Obj}:KeptBut fs [a] h (h.update a f) :=
 ⟨λb o n _ e=>by rw[bH _ _ (λz=>n (by simp[z]))];exact e,λb o n e=>⟨o.slots,by rw[bH _ _ (λz=>n (by simp[z]))];exact e⟩⟩
def alh{base:eE}{env:Env}{outer:List Env}{L e:aQ}{oe:Obj}{vs:Array aG}{head:aG}{hadNext:Bool}{Q:Unit->aJ->Prop}
  (hfr:A.frames=ZZ (env::outer)) (hl:s.heap.FunFrames base (env::outer)) (hf:env.frame=ZZ L) (he:s.heap.get? e=ZZ oe) (hd:oe.data=.fields vs) (hsz:1<vs.size)
  (h:∀h' T ts,s.heap.objs.size<=T->KeptBut (frs (env::outer)) [e] s.heap h'->h'.get? e=ZZ (oe.mapFields (·.setIfInBounds 1 (.ref T)))->h'.get? T=ZZ { cls:=.type "traceback", dict:=ZY,data:=.fields ts }->ts[3]? = ZZ (iI L)->Q () { s with heap:=h' }) :
  bG M A (do let a <-frameOf env;let pl <-entryPlaceOf L hadNext;let b <-vU head a .none (iI L) .none pl;setField (.ref e) 1 b) Q E s:=by
 have hene:e∉frs (env::outer):=λhm=>by
  obtain⟨_,o,ho,hnf⟩:=hl.mem hm;rw[he] at ho;injection ho with ho;subst ho;exact hnf vs hd
 refine aA (wpAny_frameOf_fun hfr hl hf λh₁ hs₁=>?_)
 refine aA (wpAny_entryPlaceOf λpl hpl=>?_)
 unfold vU newFields;refine aA (cA ?_ (hpl.sizeOk5 _ _ _ _ _));have he₁:h₁.get? e=ZZ oe:=(hs₁.2.1 e hene).trans he;have he₂:=aB (h:=h₁) { cls:=.type "traceback", dict:=ZY,data:=.fields ([head,.ref L,.none,iI L,.none]++(if pl.isEmpty then aD 6 cM else pl)).toArray } he₁
 refine eX he₂ hd hsz (h _ h₁.objs.size ([head,.ref L,.none,iI L,.none]++(if pl.isEmpty then aD 6 cM else pl)).toArray ?_ ?_ ?_ ?_ ?_)
 ·exact nD hs₁.1.symm
 ·have keep:∀b o,b≠e->h₁.get? b=ZZ o->((h₁.push { cls:=.type "traceback", dict:=ZY,data:=.fields ([head,.ref L,.none,iI L,.none]++(if pl.isEmpty then aD 6 cM else pl)).toArray }).update e (jT (·.setIfInBounds 1 (cH h₁.objs.size)))).get? b=ZZ o:=λb o hbe hb=>by
   rw[bH _ _ (gG hbe)];exact aB _ hb
  refine⟨λb o n1 n2 hb=>keep b o (λz=>n1 (by simp[z])) ((hs₁.2.1 b n2).trans hb),λb o n hb=>?_⟩
  obtain⟨sl,q⟩:=hs₁.2.2 b o hb;exact⟨sl,keep b _ (λz=>n (by simp[z])) q⟩
 ·exact bM _ he₂ (eU (bQ hd _))
 ·rw[bH _ _ (gG (fL (aN he₁)))];exact aM h₁ rfl
 ·rcases hpl with rfl |⟨_,_,_,_,_,_,_,rfl⟩ <;> simp
end
structure FlyAt (h:eE) (a:aQ) (C:aQ) (dx:Option aQ) (ch:List aQ) (L:aQ):Prop where
 obj:∃oe vs,h.get? a=ZZ oe/\oe.cls=.ref C/\oe.dict=dx/\oe.data=.fields vs/\1<vs.size /\
  ((vs[1]? = ZZ .none/\ch=[a])∨∃T oT ts fl,ch=[a,T]/\vs[1]? = ZZ (.ref T)/\T≠a/\h.get? T=ZZ oT/\oT.data=.fields ts/\ts[3]? = ZZ fl/\(fl=.none∨fl=iI L))
def FlyAt.fresh{h:eE}{a C L:aQ}{dx:Option aQ}{ch:List aQ}(x:FlyAt h a C dx ch L):a∈ch:=by
 obtain⟨oe,vs,_,_,_,_,_,⟨_,e⟩ |⟨T,_,_,_,e,_⟩⟩:=x.obj <;> simp[e]
section
variable{M:vL}{A:cQ}{E:aG->aJ->Prop}{s:aJ}
def acy(o:Obj)(f):(o.mapFields f).dict=o.dict:=by
 obtain⟨c,d,dt,sl⟩:=o;cases dt <;> rfl
def azx{base:eE}{env:Env}{outer:List Env}{L a C:aQ}{dx:Option aQ}{ch:List aQ}{Q:Unit->aJ->Prop}
  (hfr:A.frames=ZZ (env::outer)) (hl:s.heap.FunFrames base (env::outer)) (hf:env.frame=ZZ L) (x:FlyAt s.heap a C dx ch L)
  (h:∀h' T oT ts oe vs,(T∈ch∨s.heap.objs.size<=T)->KeptBut (frs (env::outer)) ch s.heap h'->h'.get? a=ZZ oe->oe.cls=.ref C->oe.dict=dx->oe.data=.fields vs->1<vs.size->vs[1]? = ZZ (.ref T)->T≠a->h'.get? T=ZZ oT->oT.data=.fields ts->ts[3]? = ZZ (iI L)->Q () { s with heap:=h' }) :
  bG M A (noteFrame (.ref a) env) Q E s:=by
 obtain⟨oe,vs,he,hc,hdx,hd,hsz,alt⟩:=x.obj;unfold noteFrame;simp only[hf];rcases alt with⟨h1,rfl⟩ |⟨T,oT,ts,fl,rfl,h1,hTa,hT,hdT,h3,hfl⟩
 ·refine aA (cG he hd h1 ?_);rw[if_neg (by decide)]
  refine alh hfr hl hf he hd hsz λh' T ts hT k e1 e2 e3=>?_
  refine h h' T _ ts _ _ (.inr hT) k e1 (by rw[jU];exact hc) (by rw[acy];exact hdx) (bQ hd _) (by simpa using hsz) (by simp[hsz]) ?_ e2 rfl e3
  exact fL (bY (aN he) hT)
 ·refine aA (cG he hd h1 ?_);rw[if_pos (show(cH T != cM)=ZX from by simp)]
  refine aA (cG hT hdT h3 ?_);rcases hfl with rfl |rfl
  ·rw[if_neg (show ¬((cM==iI L)=ZX) from by simp[iI])]
   refine aA (eX hT hdT (dR.mp h3).1 ?_);have k0:KeptBut (frs (env::outer)) [T] s.heap (s.heap.update T (jT (·.setIfInBounds 3 cM))):=KeptBut.upd;have he':=(bH s.heap (jT (·.setIfInBounds 3 cM)) hTa).trans he;refine alh hfr (hl.of_keeps λb o hb hnf=>?_) hf he' hd hsz λh' T' ts' hT' k e1 e2 e3=>?_
   ·exact⟨o,(bH _ _ λz=>by rw[<-z,hT] at hb;cases hb;exact hnf _ hdT).trans hb,rfl⟩
   ·have hsz':s.heap.objs.size<=T':=by
     have:(s.heap.update T (jT (·.setIfInBounds 3 cM))).objs.size=s.heap.objs.size:=Heap.size_after_update ..
     exact this▸hT'
    refine h h' T' _ ts' _ _ (.inr hsz') ((k0.sub (by simp)).trans (k.sub (by simp))) e1 (by rw[jU];exact hc) (by rw[acy];exact hdx) (bQ hd _) (by simpa using hsz) (by simp[hsz]) ?_ e2 rfl e3
    exact fL (bY (aN he) hsz')
  ·rw[if_pos (show(iI L==iI L)=ZX from by simp)]
   refine aH (h s.heap T oT ts oe vs (.inl (by simp)) ⟨λ_ _ _ _ e=>e,λ_ o _ e=>⟨o.slots,e⟩⟩ he hc hdx hd hsz h1 hTa hT hdT h3)
def a3v{base:eE}{env:Env}{outer:List Env}{L a C:aQ}{dx:Option aQ}{ch:List aQ}{Q:Unit->aJ->Prop}
  (hfr:A.frames=ZZ (env::outer)) (hl:s.heap.FunFrames base (env::outer)) (hf:env.frame=ZZ L) (x:FlyAt s.heap a C dx ch L)
  (h:∀h' ch',(∀b∈ch',b∈ch∨s.heap.objs.size<=b)->KeptBut (frs (env::outer)) ch s.heap h'->(∀L',FlyAt h' a C dx ch' L')->Q () { s with heap:=h' }) :
  bG M A (leaving env (.ref a)) Q E s:=by
 unfold leaving;refine aA (azx hfr hl hf x λh' T oT ts oe vs hT k e1 e2 e3 e4 e5 e6 e7 e8 e9 e10=>?_)
 unfold setFlight;refine aA (cG e1 e4 e6 ?_);rw[if_pos (show(cH T != cM)=ZX from by simp)]
 have hsz3:3<ts.size:=(dR.mp e10).1;refine eX e8 e9 hsz3 (h _ [a,T] (λb hb=>?_) ?_ λL'=>⟨oe,vs,(bH _ _ e7).trans e1,e2,e3,e4,e5,.inr ⟨T,_,_,.none,rfl,e6,e7,bM _ e8 (eU (bQ e9 _)),bQ e9 _,by simp[hsz3],.inl rfl⟩⟩)
 ·have:b=a∨b=T:=by simpa using hb
  rcases this with rfl |rfl
  ·exact .inl x.fresh
  ·exact hT
 ·rcases hT with hT |hT
  ·exact k.trans (KeptBut.upd.sub (by simp[hT]))
  ·refine⟨λb o n1 n2 e=>?_,λb o n e=>?_⟩
   ·rw[bH _ _ λz=>absurd (aN e) (by rw[<-z];exact oA.mpr hT)]
    exact k.keep b o n1 n2 e
   ·obtain⟨sl,q⟩:=k.slot b o n e;exact⟨sl,by rw[bH _ _ λz=>absurd (aN e) (by rw[<-z];exact oA.mpr hT)];exact q⟩
end
end L2
namespace Dn
open L2 Mn
def a07(F:Hp)(dx:Option aQ)(fs:List (Str×Int)):Prop:=(dx=ZY/\fs=[])∨∃d,dx=ZZ d/\F d=ZZ (.xd (fs.map λp=>(p.1,V.int p.2)))
structure ClsOk (K:Fg9) (c:Str) (C:aQ):Prop where
 ns:nsIn K aV c=ZZ (ZZ (.ref C))
 ok:ExcK K C
def FpX(X:Cx)(zv:List (aQ×Obj))(H:Hp)(b:aQ):Prop :=
 H b=ZY/\b≠X.env.locals/\b∉X.fs/\(b∈X.ex∨X.s₀.heap.get? b=ZY)/\(∀x c,X.env.cells.lookup x=ZZ c->c≠b)/\∀p∈X.pn++zv,p.1≠b
section
variable{X:Cx}{zv:List (aQ×Obj)}{σ:L2.St}{H H':Hp}{s:aJ}
def wc{b:aQ}(I:Inv X zv σ H s)(hb:s.heap.get? b=ZY)(hn:H' b=ZY):FpX X zv H' b:=by
 have no:∀{o},s.heap.get? b=ZZ o->False:=λe=>by rw[hb] at e;cases e
 refine⟨hn,λz=>?_,λz=>?_,?_,λx c e z=>?_,λp hp z=>?_⟩
 ·obtain⟨m,⟨o,_,_,ho,_⟩,_⟩:=I.loc;rw[<-z] at ho;exact no ho
 ·obtain⟨_,o,ho,_⟩:=I.funs.mem z;exact no ho
 ·by_cases hx:b∈X.ex
  ·exact .inl hx
  ·refine .inr ?_;cases e:X.s₀.heap.get? b with
   |none=>rfl
   |some o=>
    obtain⟨o',e'⟩:=I.base.there b o e hx;exact(no e').elim
 ·obtain⟨v,o,ho,_⟩:=I.cell x c e;rw[z] at ho;exact no ho
 ·have:=(I.pin p hp).1;rw[z] at this;exact no this
def vc{h':eE}{ch:List aQ}(I:Inv X zv σ H s)(k:KeptBut (frs X.stack) ch s.heap h')(hch:∀b∈ch,FpX X zv H b):Inv X zv σ H { s with heap:=h' }:=by
 have nt:∀c z,H c=ZZ z->c∉ch/\c∉frs X.stack:=λc z q=>⟨(λm=>by have:=(hch c m).1;rw[q] at this;cases this),(λm=>by have:=I.stkFree c m;rw[q] at this;cases this)⟩
 have nb:∀b o,X.s₀.heap.get? b=ZZ o->b∉X.ex->b∉ch:=λb o e hx m=>by
  rcases(hch b m).2.2.2.1 with z |z
  ·exact hx z
  ·rw[z] at e;cases e
 have nl:∀b o,X.s₀.heap.get? b=ZZ o->b∉X.fs->b∉frs X.stack:=λb o e hf m=>by
  rcases bA.mp (I.stkSub b m) with z |z
  ·exact absurd (aN e) (by rw[z];exact oA.mpr I.ok.above)
  ·exact hf z
 have cellK:∀x c,X.env.cells.lookup x=ZZ c->∀v,s.heap.IsCell c v->h'.IsCell c v:=λx c e v hq0=>by
  obtain⟨o,ho,hd⟩:=hq0;obtain⟨sl,q⟩:=k.slot c o (λm=>(hch c m).2.2.2.2.1 x c e rfl) ho
  exact⟨_,q,hd⟩
 refine⟨I.ok,I.os,I.bare,⟨λb o e n hb hx=>k.keep b o (nb b o e hx) (nl b o e hb) (I.base.keep b o e n hb hx),λb o e n hb hx=>?_,I.base.free,λb o e hx=>?_,I.base.tups,I.base.frzs,I.base.tbls⟩,?_,λx c e=>?_,I.free,I.freeC,λp hp=>?_,λb u e=>?_,I.len⟩
 ·obtain⟨sl,e1⟩:=I.base.slot b o e n hb hx;obtain⟨sl',e2⟩:=k.slot b _ (nb b o e hx) e1;exact⟨sl',e2⟩
 ·obtain⟨o',e1⟩:=I.base.there b o e hx;obtain⟨sl,e2⟩:=k.slot b o' (nb b o e hx) e1;exact⟨_,e2⟩
 ·obtain⟨m,⟨o,es,ep,ho,r⟩,hl⟩:=I.loc;obtain⟨sl,q⟩:=k.slot _ o (λm=>(hch _ m).2.1 rfl) ho
  refine⟨m,⟨_,es,ep,q,r⟩,λi x v e1 e2 e3=>?_⟩
  obtain⟨u,rv,l⟩:=hl i x v e1 e2 e3;refine⟨u,rv,?_⟩;rcases l with l |⟨kk,c,e,z⟩
  ·exact .inl l
  ·exact .inr ⟨kk,c,e,cellK x c e _ z⟩
 ·obtain⟨v,z⟩:=I.cell x c e;exact⟨v,cellK x c e v z⟩
 ·obtain⟨e,n,ne,nf,d⟩:=I.pin p hp;refine⟨k.keep p.1 p.2 (λm=>(hch _ m).2.2.2.2.2 p hp rfl) (λm=>?_) e,n,ne,nf,d⟩
  rcases bA.mp (I.stkSub _ m) with z |z
  ·exact ne z
  ·exact nf z
 ·refine(I.hok b u e).stay (λc v hc q=>?_) (λ_ q=>q) λ_ _ q=>q
  rcases hc with z |z
  ·rw[z] at q ⊢;exact k.keep _ _ (nt b u e).1 (nt b u e).2 q
  ·exact k.keep _ _ (nt c _ z).1 (nt c _ z).2 q
end
def FlyX(K:Fg9)(X:Cx)(zv:List (aQ×Obj))(x:Exn)(F H:Hp)(h:eE)(e:aG):Prop :=
 ∃a C dx ch,e=.ref a/\ClsOk K x.cls C/\a07 F dx x.fs/\FlyAt h a C dx ch X.env.locals/\∀b∈ch,FpX X zv H b
def RX(K:Fg9)(X:Cx)(zv:List (aQ×Obj))(tg:Nat->aQ)(ρ:Ro)(σ:L2.St)(F H:Hp)(x:Exn)(ρ':Ro)(e:aG)(s':aJ):Prop :=
 ∃σ' H' F',Inv X zv σ' H' s'/\Good K tg F' H' ρ' σ'/\Ext (Own ρ σ) (Own ρ' σ') F H F' H'/\FlyX K X zv x F' H' s'.heap e
def RX.back{K:Fg9}{X:Cx}{zv:List (aQ×Obj)}{tg:Nat->aQ}{ρ ρ1 ρ':Ro}{σ σ1:L2.St}{F H F1 H1:Hp}{x:Exn}{e:aG}{s':aJ}(q:Ext (Own ρ σ) (Own ρ1 σ1) F H F1 H1)(h:RX K X zv tg ρ1 σ1 F1 H1 x ρ' e s'):RX K X zv tg ρ σ F H x ρ' e s' :=
 let ⟨σ',H',F',I,G,y,f⟩:=h;⟨σ',H',F',I,G,q.trans y,f⟩
abbrev XGo(K:Fg9)(X:Cx)(α:Type)(c:Sem α)(m:Ro->Option (Exn×Ro)):Prop :=
 X.K=K->X.xe=(λ_ _=>False)->∀zv s σ H tg F ρ x ρ',Inv X zv σ H s->Good K tg F H ρ σ->m ρ=ZZ (x,ρ')->bG (bL X.prog X.w) X.A c (λ_ _=>False) (RX K X zv tg ρ σ F H x ρ') s
noncomputable def exE{α:Type}(m:M α):Ro->Option (Exn×Ro):=λρ=>match m ρ with
 |some (.exc x,ρ')=>ZZ (x,ρ')
 |_=>ZY
noncomputable def exS(g:Sd):Ro->Option (Exn×Ro):=λρ=>match g ρ with
 |some (.exc x,ρ')=>ZZ (x,ρ')
 |_=>ZY
def u6{α:Type}{m:M α}{ρ ρ':Ro}{x:Exn}:exE m ρ=ZZ (x,ρ')↔m ρ=ZZ (.exc x,ρ'):=by
 unfold exE;split
 ·rename_i y ρ1 e;rw[e];constructor
  ·intro h;cases h;rfl
  ·intro h;cases h;rfl
 ·rename_i hn;constructor
  ·intro h;cases h
  ·intro h;exact absurd h (hn x ρ')
def uc{g:Sd}{ρ ρ':Ro}{x:Exn}:exS g ρ=ZZ (x,ρ')↔g ρ=ZZ (.exc x,ρ'):=by
 unfold exS;split
 ·rename_i y ρ1 e;rw[e];constructor
  ·intro h;cases h;rfl
  ·intro h;cases h;rfl
 ·rename_i hn;constructor
  ·intro h;cases h
  ·intro h;exact absurd h (hn x ρ')
structure XE (K:Fg9) (X:Cx) (e:dI) {α:Type} (m:M α):Prop where
 go:XGo K X aG (eval e X.env) (exE m)
structure XA (K:Fg9) (X:Cx) (es:List dI) {α:Type} (m:M α):Prop where
 go:∀(pos:Pos),XGo K X (List aG) (spliced (gC pos (aO es X.env))) (exE m)
structure XS (K:Fg9) (X:Cx) (st:gK) (g:Sd):Prop where
 go:XGo K X Flow (exec st X.env) (exS g)
structure XSs (K:Fg9) (X:Cx) (ss:List gK) (g:Sd):Prop where
 go:XGo K X Flow (execs ss X.env) (exS g)
def NoX{α:Type}(m:M α):Prop:=∀ρ x ρ',m ρ≠ZZ (.exc x,ρ')
def NoS(g:Sd):Prop:=∀ρ x ρ',g ρ≠ZZ (.exc x,ρ')
section
variable{K:Fg9}{X:Cx}{e a b c:dI}{es:List dI}{pos p:Pos}{st:gK}{ss:List gK}
def XE.no{α:Type}{m:M α}(h:NoX m):XE K X e m:=⟨λ_ _ zv s σ H tg F ρ x ρ' I G em=>absurd (u6.mp em) (h ρ x ρ')⟩
def XS.no{g:Sd}(h:NoS g):XS K X st g:=⟨λ_ _ zv s σ H tg F ρ x ρ' I G em=>absurd (uc.mp em) (h ρ x ρ')⟩
def apa{α:Type}{m:M α}{k:α->Sd}{ρ ρ':Ro}{x:Exn}(h:dM m k ρ=ZZ (.exc x,ρ')):m ρ=ZZ (.exc x,ρ')∨∃a ρ1,m ρ=ZZ (.ok a,ρ1)/\k a ρ1=ZZ (.exc x,ρ'):=by
 unfold dM at h;split at h
 ·exact .inr ⟨_,_,by assumption,h⟩
 ·cases h;exact .inl (by assumption)
 ·cases h
def aa9{α β:Type}{m:M α}{k:α->M β}{ρ ρ':Ro}{x:Exn}(h:m.bind k ρ=ZZ (.exc x,ρ')):m ρ=ZZ (.exc x,ρ')∨∃a ρ1,m ρ=ZZ (.ok a,ρ1)/\k a ρ1=ZZ (.exc x,ρ'):=by
 unfold M.bind at h;split at h
 ·exact .inr ⟨_,_,by assumption,h⟩
 ·cases h;exact .inl (by assumption)
 ·cases h
def XA.no{α:Type}{m:M α}(h:NoX m):XA K X es m:=⟨λ_ _ _ zv s σ H tg F ρ x ρ' I G em=>absurd (u6.mp em) (h ρ x ρ')⟩
def aet:XSs K X [] dNx:=⟨λ_ _ zv s σ H tg F ρ x ρ' I G em=>by cases em⟩
def j9{g:Sd}(h:XS K X st g):XSs K X [st] g:=⟨λhk hn zv s σ H tg F ρ x ρ' I G em=>wpAny_execs_cons (bD (h.go hk hn zv s σ H tg F ρ x ρ' I G em) (λ_ _ z=>z.elim) λ_ _ z=>z)⟩
def pq{g k:Sd}(h:SV K X st g)(hx:XS K X st g)(t:XSs K X ss k):XSs K X (st::ss) (dSeq g k):=⟨λhk hn zv s σ H tg F ρ x ρ' I G em=>by
 have em:=uc.mp em;unfold dSeq at em;split at em
 ·rename_i ρ1 e1;refine wpAny_execs_cons (bD (h.go hk zv s σ H { nx:=λσ1 H1=>∃F1,Good K tg F1 H1 ρ1 σ1/\Ext (Own ρ σ) (Own ρ1 σ1) F H F1 H1,rt:=λ_ _=>False } I ⟨tg,F,ρ,.nx,ρ1,G,e1,λσ' H' F' G' x=>⟨F',G',x⟩⟩) (λf s1 q=>?_) λe s1 q=>by rw[hn] at q;exact q.elim)
  cases f with
  |next=>
   obtain⟨σ1,H1,I1,F1,G1,x1⟩:=q;exact bD (t.go hk hn zv s1 σ1 H1 tg F1 ρ1 x ρ' I1 G1 (uc.mpr em)) (λ_ _ z=>z.elim) λ_ _ z=>z.back x1
  |ret v=>obtain⟨_,_,_,_,_,z⟩:=q;exact z.elim
  |brk=>obtain⟨_,_,_,z⟩:=q;exact z.elim
  |cont=>obtain⟨_,_,_,z⟩:=q;exact z.elim
 ·exact wpAny_execs_cons (bD (hx.go hk hn zv s σ H tg F ρ x ρ' I G (uc.mpr em)) (λ_ _ z=>z.elim) λ_ _ z=>z)⟩
def xg{α:Type}{m:M α}(h:XE K X e m)(hs:iR e ZY pos.line X.env=pure ZW:=by rfl):XS K X (.Expr e pos) (xr m):=⟨λhk hn zv s σ H tg F ρ x ρ' I G em=>by
 rcases apa (uc.mp em) with em |⟨_,_,_,em⟩
 ·exact wpAny_Expr_any (bD (h.go hk hn zv s σ H tg F ρ x ρ' I G (u6.mpr em)) (λ_ _ z=>z.elim) λ_ _ z=>z) I.quiet hs
 ·cases em⟩
def ai0{m:M Bool}{g k:Sd}{ss':List gK}(h:ET K X c m)(hm:NoX m)(h1:XSs K X ss g)(h2:XSs K X ss' k):XS K X (.If c ss ss' pos) (dIf m g k):=⟨λhk hn zv s σ H tg F ρ x ρ' I G em=>by
 rcases apa (uc.mp em) with em |⟨z,ρ1,e1,em⟩
 ·exact absurd em (hm _ _ _)
 ·refine wpAny_If (bD (h.go hk zv s σ H (λb H1=>b=z/\∃F1,Good K tg F1 H1 ρ1 σ/\Ext (Own ρ σ) (Own ρ1 σ) F H F1 H1) I ⟨tg,F,ρ,z,ρ1,G,e1,λH' F' G' x=>⟨rfl,F',G',x⟩⟩) (λd s1 ⟨H1,I1,hz,F1,G1,x1⟩=>?_) λe s1 q=>by rw[hn] at q;exact q.elim)
  subst hz;cases d with
  |true=>exact bD (h1.go hk hn zv s1 σ H1 tg F1 ρ1 x ρ' I1 G1 (uc.mpr em)) (λ_ _ z=>z.elim) λ_ _ z=>z.back x1
  |false=>exact bD (h2.go hk hn zv s1 σ H1 tg F1 ρ1 x ρ' I1 G1 (uc.mpr em)) (λ_ _ z=>z.elim) λ_ _ z=>z.back x1⟩
def CX1(P:bT)(w:dB):CXT:=λouter H s E e s'=>∃H' a C dx ch,e=.ref a/\s'.os=s.os/\pQ s'.gens/\Un (frs outer) [] H H' s.heap s'.heap/\HOk P w H' s'.heap /\
 (∀L',FlyAt s'.heap a C dx ch L')/\(∀b∈ch,s.heap.get? b=ZY/\H' b=ZY)/\E (.ref C) dx H'
def spX(K:Fg9)(n:Nat)(f:Fd):Sp:=λvs H _ E=>vs.length=n/\∃F as x ps,Good K (tgOf (vs.map ZZ)) F H as (vs.map ZZ)/\f as=ZZ (.exc x,ps) /\
 ∀C dx H' F' O',Same F' H'->Ext (Own as (vs.map ZZ)) O' F H F' H'->Fin K F' H' (vs.map ZZ) ps O'->ClsOk K x.cls C->a07 F' dx x.fs->E (.ref C) dx H'
def DfnX(P:bT)(w:dB)(K:Fg9)(mg:Str->Option aG)(base:eE)(x:Str)(ps:List Str)(k:Nat)(sp:Sp):Prop :=
 ∃(f:aQ) (fd:eQ),FnOk P w K mg base (CX1 P w) k f fd ps sp/\mg x=ZZ (.ref f)/\kW K (.ref f)=ZX/\Binds K fd ps []
def az8{f:Fd}{js:List (Option Nat)}{ms:M (List (Option D))}{ρ ρ':Ro}{x:Exn}(h:mFn f js ms ρ=ZZ (.exc x,ρ')) :
  ms ρ=ZZ (.exc x,ρ')∨∃ds ρ1 ps,ms ρ=ZZ (.ok ds,ρ1)/\okJs ρ1 js=ZX/\f (lend ρ1 js ds)=ZZ (.exc x,ps)/\ρ'=putB ρ1 js ps:=by
 rcases aa9 h with h |⟨ds,ρ1,e1,em⟩
 ·exact .inl h
 ·split at em
  ·rename_i hj;split at em
   ·cases em
   ·rename_i y ps e2;cases em;exact .inr ⟨ds,ρ1,ps,e1,hj,e2,rfl⟩
   ·cases em
  ·cases em
def afw{f:Fd}{n k:Nat}{x:Str}{pn:List Str}{js:List (Option Nat)}{ms:M (List (Option D))}(F:DfnX X.prog X.w X.K X.mg X.base x pn k (spX K n f))(hr:Room k X.A)(hg:Gl X x)(ha:EG K X (e::es) js ms)(hxa:XA K X (e::es) ms)(hn:js.length=n:=by rfl)(hdb:Zb x:=by decide)
  (he:Zc X e es:=by rfl) (hpl:(gC pos (aO es X.env)).any (·.1)=ZW:=by rfl):XE K X (.Call (.Name x p) (e::es) [] pos) (mFn f js ms):=⟨λhk hno zv s σ H tg F0 ρ y ρ' I G em=>by
 obtain⟨fa,fd,Fo,hm,hkp,hb⟩:=F;refine wpAny_Call_Name_kw (abx I hg hm ?_ hdb);rcases az8 (u6.mp em) with em |⟨ds,ρ1,ps,e1,hj,e2,rfl⟩
 ·exact jH (h₀:=X.base) I.ok.mod.kin hkp (bD (hxa.go pos hk hno zv s σ H tg F0 ρ y ρ' I G (u6.mpr em)) (λ_ _ z=>z.elim) λ_ _ z=>z) he hpl
 ·refine jH (h₀:=X.base) I.ok.mod.kin hkp (bD (ha.go hk pos zv s σ H (λvs H1=>∃F1,Good K tg F1 H1 ρ1 σ/\Ext (Own ρ σ) (Own ρ1 σ) F0 H F1 H1/\AR K F1 σ js ds vs) I ⟨tg,F0,ρ,ds,ρ1,G,e1,λvs H1 F1 G1 x1 ar=>⟨F1,G1,x1,ar⟩⟩) (λus s1 ⟨vs,H1,I1,r,F1,G1,x1,ar⟩=>⟨I1.kIn,?_⟩) λe s1 q=>by rw[hno] at q;exact q.elim) he hpl
  have L:=ar.lent;have hl:(us++[]).length=pn.length:=by
   rw[cF,<-r.length];exact Fo.len vs H1 (λ_ _=>True) (λ_ _ _=>True) ⟨by rw[ar.length];exact hn,F1,_,y,ps,wu G1 hj L,e2,λ_ _ _ _ _ _ _ _ _ _=>trivial⟩
  have hbn:=hb s1 us I1.kIn hl;rw[cF] at hbn;refine lO (jK (Fo.run X.A X.stack s1 H1 ⟨[]++us,[]⟩ us vs (λ_ _=>False) (λcv dx H2=>∃C F2,cv=.ref C/\Good K tg F2 H2 (putB ρ1 js ps) σ/\Ext (Own ρ σ) (Own (putB ρ1 js ps) σ) F0 H F2 H2/\ClsOk K y.cls C/\a07 F2 dx y.fs) hr I1.env0 hbn r
   ⟨by rw[ar.length];exact hn,F1,_,y,ps,wu G1 hj L,e2,λC dx H2 F2 O2 s2 x2 fin hc hf=>⟨C,F2,rfl,zb G1 L x2 s2 fin,x1.trans (aba G1 L x2),hc,hf⟩⟩) λr s' hq=>?_)
  cases r with
  |ok fl=>
   cases fl with
   |ret u=>obtain⟨_,_,_,_,_,_,_,z⟩:=hq;exact z.elim
   |next=>exact eF hq
   |brk=>exact eF hq
   |cont=>exact eF hq
  |error er=>
   obtain⟨H',a,C,dx,ch,rfl,os,bare,un,hok,fl,hch,C',F2,ce,G2,x2,hc,hf⟩:=hq;cases ce;exact⟨σ,H',F2,I1.call' os un hok bare (λb z=>absurd z (by simp)),G2,x2,a,C,dx,ch,rfl,hc,hf,fl _,λb hb=>wc I1 (hch b hb).1 (hch b hb).2⟩⟩
end
def fn_x{K:Fg9}{P:bT}{w:dB}{mg:Str->Option aG}{base:eE}{x qual:Str}{st:gK}{f:aQ}{fd:eQ}{N ps:List Str}{k nl np:Nat}{g:Sd}(F:Fun K x qual st f fd)(S:FnScope N ps (ao st))(h1:N.length=nl)(h2:ps.length=np)
  (body:∀(cdv:aG) (A:cQ) (outer:List Env) (s:aJ) (H:Hp) (E:XK),Room k (A.deeper (mY qual (ao st) s.heap.objs.size f cdv))->XSs K (cxOf CX0 P w K mg base N qual (ao st) f cdv A outer s H E).nox (jc st) g) :
  FnOk P w K mg base (CX1 P w) (k+1) f fd ps (spX K np (fnD nl np g)):=by
 subst h1 h2;obtain⟨oc,od,kV,doc,pm,an,cdv,ct,osl,rfl,lk,hcd⟩:=F.ex;refine a4n lk hcd S (λvs H Q E h=>h.1) λA outer s H vs Q E hr hsp=>?_
 obtain⟨hn,F0,as,y,ps',G,em,q⟩:=hsp;have hl:as.length=(vs.map ZZ).length:=G.len;have G1:=G.app (N.length-vs.length);have es:start N vs=vs.map ZZ++aD (N.length-vs.length) ZY:=rfl;unfold fnD at em;rw[<-hn] at em;have fin:∀{ρ':Ro} {σ':L2.St} {F' H':Hp},Good K (tgOf (vs.map ZZ)) F' H' ρ' σ'->Fin K F' H' (vs.map ZZ) (ρ'.take vs.length) (Own ρ' σ'):=λ{ρ' σ' F' H'} G'=>⟨λi l e=>by
  have hi:=(aK.mp e).1;rw[dX] at hi;rw[fM (by omega)] at e
  obtain⟨o,ho,a,ws,rfl,hf,hh,hl,ht⟩:=G'.at e;rw[ht i rfl];exact⟨⟨i,⟨_,_,e⟩,ho⟩,hf,ws,hh,hl⟩⟩
 refine⟨λ_ σ0 H0=>σ0=start N vs/\H0=H,λzv s1 σ0 H0 D I hs=>?_,rfl,rfl⟩
 obtain⟨hs1,hs2⟩:=hs;subst hs2;rw[hs1,es] at I;split at em
 ·cases em
 ·cases em
 ·rename_i y' ρ' e;cases em;have run:=(body cdv A outer s H0 E hr).go rfl rfl zv s1 _ H0 (tgOf (vs.map ZZ)) F0 _ y ρ' (I.wish _) G1 (uc.mpr e);refine bD run (λ_ _ z=>z.elim) λer s' z9=>?_
  obtain⟨σ',H',F',J,G',x',a,C,dx,ch,e1,hc,hf,fl,hch⟩:=z9;subst e1;rw[uv hl] at x';show bG _ _ (leaving _ (.ref a)) _ _ s';refine a3v J.ok.frames J.stack rfl fl λh' ch' hc' kb fl'=>?_
  have J2:=vc J kb hch;have hsz:s.heap.objs.size<=s'.heap.objs.size:=J.sz;refine⟨H',a,C,dx,ch',rfl,J.os,J.bare,J2.base,J2.hok,fl',λb hb=>?_,q C dx H' F' (Own ρ' σ') G'.sub x' (fin G') hc hf⟩
  rcases hc' b hb with z |z
  ·obtain⟨f1,_,_,f3,_⟩:=hch b z;rcases f3 with f3 |f3
   ·exact absurd (show b∈([]:List aQ) from f3) (by simp)
   ·exact⟨f3,f1⟩
  ·exact⟨Heap.get?_none_of_le (cW hsz z),J.hok.fresh z⟩
 ·cases em
theorem ald{P:bT}{w:dB}{H:Hp}{h:eE}{a:aQ}{o:HO}(x:xf P w H h a o):∃ob,h.get? a=ZZ ob:=by
 cases o with
 |lst xs=>obtain⟨_,_,_,_,e⟩:=x;exact⟨_,e⟩
 |tup xs=>obtain⟨_,_,_,ob,e,_⟩:=x;exact⟨_,e⟩
 |dK kvs=>obtain⟨_,_,_,_,o,_,_,e,_⟩:=x;exact⟨_,e⟩
 |dT kvs=>obtain⟨_,_,_,_,o,_,_,e,_⟩:=x;exact⟨_,e⟩
 |set S n=>obtain⟨o,_,_,_,e,_⟩:=x;exact⟨_,e⟩
 |ins C dx fs=>obtain⟨_,_,_,e,_⟩:=x;exact⟨_,e⟩
 |own y=>exact x
 |xd fs=>obtain⟨_,⟨_,_,_,e,_⟩,_⟩:=x;exact⟨_,e⟩
 |rng lo hi=>obtain⟨_,_,_,e⟩:=x;exact⟨_,e⟩
 |frz ob u=>exact⟨_,x.1⟩
 |tbl ps=>exact⟨_,x⟩
 |met f y=>exact⟨_,x⟩
 |ext φ=>exact x.2.1
abbrev bmV:List aG:=[.type "ValueError", .type "Exception", .type "BaseException", .type "object"]
def a0o{K:Fg9}{h:eE}{C:aQ}{bmB:List aG}{newId:String}(X:K.In h)(q:oH K C bmB newId=ZX) :
  ∃bm N nm qn bs hdct sn sub ab col dd k0 k1 k2 k3 k5 mN,h.get? C=ZZ (excClassObj nm qn C N bs bm hdct sn sub ab col dd k0 k1 k2 k3 k5 newId)/\h.Ns N mN/\mN "__init__"=ZY/\OwnTail h bmB bm:=by
 unfold oH at q;split at q
 ·rename_i dd cd sl ho;split at q
  ·rename_i C' bm k0 k1 k2 k3 n k5 hm hs;simp only[bB,beq_iff_eq,xP] at q;obtain⟨⟨⟨⟨⟨e1,e2⟩,e3⟩,e4⟩,e5⟩,e6⟩:=q;subst e1 e2;obtain⟨nm,bs,mro,ns,qn,hd,sn,sub,ab,col,del⟩:=cd;have hm:mro=_:=hm;have e3:del=ZW:=e3;subst hm e3;have z:sl = #[k0,k1,k2,k3,ZZ (.builtin n),k5]:=yE.mp hs;subst z;exact⟨bm,ns,nm,qn,bs,hd,sn,sub,ab,col,dd,k0,k1,k2,k3,k5,h.nsMap ns,X _ _ ho,.of_isNs (qI X e5),PySem.W.nsMap_none_of_in X e5 e6,vW X e4⟩
  ·cases q
 ·cases q
noncomputable def aix(x:Exn):Sd:=λρ=>ZZ (.exc x,ρ)
section
variable{K:Fg9}{X:Cx}{c:Str}{C:aQ}{np cpos pos:Pos}
def aq2(hcalm:X.calm=ZX)(hg:Gl X c)(hm:X.mg c=ZZ (.ref C))(k:ClsOk X.K c C)(q:oH X.K C bmV "ValueError.__new__"=ZX)(hd:(c==("__debug__" : Str))=ZW:=by decide) :
  XS K X (.Raise (ZZ (.Call (.Name c np) [] [] cpos)) ZY pos) (aix ⟨c,[]⟩):=⟨λhk hn zv s σ H tg F ρ x ρ' I G em=>by
 have em:=uc.mp em;cases em;subst hk;obtain⟨tl,N,nm,qn,bs,hdct,sn,sub,ab,col,dd,k0,k1,k2,k3,k5,mN,hC,hN,hni,T⟩:=a0o I.kIn q;refine wpAny_Raise_call_subU (C:=C) (nm:=nm) (q:=qn) (N:=N) (bs:=bs) (bm:=tl) (hdct:=hdct) (sn:=sn) (sub:=sub) (ab:=ab) (col:=col) (dd:=dd) (k0:=k0) (k1:=k1) (k2:=k2) (k3:=k3) (k5:=k5)
  fZ (by decide +kernel) fZ (mN:=mN) (T.hasType fZ.hasBase) (I.ok.hd hcalm) rfl hni ?_
 refine abx I hg hm ⟨rfl,?_⟩ hd;refine evalArgs_empty ⟨rfl,dN _,hC,hN,T,λh' e hme=>?_⟩
 obtain⟨t,he,_,_⟩:=hme.there;have J:Inv X zv σ H { s with heap:=h' }:=I.kept (t':=s.toks) hme.keeps
 have hnH:H e=ZY:=by
  cases z:H e with
  |none=>rfl
  |some o=>
   obtain⟨ob,h1⟩:=ald (I.hok e o z);have h2:s.heap.get? e=ZY:=hme.new;rw[h2] at h1;cases h1
 exact⟨σ,H,F,J,G,Ext.refl _ _ _,e,C,ZY,[e],rfl,k,.inl ⟨rfl,rfl⟩,⟨_,_,he,rfl,rfl,rfl,by simp,.inl ⟨rfl,rfl⟩⟩,λb hb=>by
  obtain rfl:=dF.mp hb;exact wc I hme.new hnH⟩⟩
end
end Dn
namespace L2
section
variable{X:Cx}{zv:List (aQ×Obj)}{σ:List (Option V)}{H:Hp}{s:aJ}
def a4s{M:vL}{A:cQ}{E:aG->aJ->Prop}{i:Nat}{x:Str}{v:V}{Q:Unit->aJ->Prop}(I:Inv X zv σ H s)(hN:X.N.Nodup)(hi:X.N[i]? = ZZ x)(hk:X.env.scope.names.lookup x=ZZ .local)(hv:σ[i]? = ZZ (ZZ v))
  (h:∀s',Inv X zv (σ.set i ZY) H s'->Q () s'):bG M A (unbindName X.env x) Q E s:=by
 obtain⟨m,hn,hl⟩:=id I.loc;have hcls:(X.env.scope.kind==.class||(X.env.scope.kind==.module&&X.env.locals != X.env.globals))=ZW:=by rw[I.ok.kind];rfl
 have hiσ:i < σ.length:=(aK.mp hv).1;obtain⟨u,_,lk⟩:=hl i x v hi hv (.inl hk);have hmx:∃u,m x=ZZ u:=by
  rcases lk with⟨_,e⟩ |⟨k,_⟩
  ·exact⟨u,e⟩
  ·rcases k with k |k
   ·exact absurd (hk.symm.trans k) (by simp)
   ·exact absurd (hk.symm.trans k) (by simp)
 obtain⟨u0,hmx⟩:=hmx;refine wpAny_unbindName_local hk hn hmx hcls λh' u' hn' hs=>h _ ?_
 have ne0:∀b o,X.s₀.heap.get? b=ZZ o->b≠X.env.locals:=λb o e=>bI (bY (aN e) I.ok.above)
 refine⟨I.ok,I.os,I.bare,⟨λb o e n hb hx=>(hs.2 b (ne0 b o e)).trans (I.base.keep b o e n hb hx),λb o e n hb hx=>?_,I.base.free,λb o e hx=>?_,I.base.tups,I.base.frzs,I.base.tbls⟩,⟨_,hn',λj y v' e1 e2 e3=>?_⟩,λy c e=>?_,I.free,I.freeC,λp hp=>?_,λb ob e=>?_,by simpa using I.len⟩
 ·obtain⟨sl,e1⟩:=I.base.slot b o e n hb hx;exact⟨sl,(hs.2 b (ne0 b o e)).trans e1⟩
 ·obtain⟨o',e1⟩:=I.base.there b o e hx;exact⟨o',(hs.2 b (ne0 b o e)).trans e1⟩
 ·by_cases hj:j=i
  ·subst hj;rw[lN hiσ] at e2;cases e2
  ·rw[mD (gG hj)] at e2;obtain⟨u',r',q⟩:=hl j y v' e1 e2 e3;refine⟨u',r',?_⟩;rcases q with⟨k,e⟩ |⟨k,c,e,z⟩
   ·refine .inl ⟨k,?_⟩;have:y≠x:=λe=>hj (ajs hN e1 (e▸hi))
    simp[this,e]
   ·exact .inr ⟨k,c,e,z.sameBut hs (I.cne y c e)⟩
 ·obtain⟨w',z⟩:=I.cell y c e;exact⟨w',z.sameBut hs (I.cne y c e)⟩
 ·obtain⟨e,n,ne,nf,d⟩:=I.pin p hp;exact⟨(hs.2 p.1 ne).trans e,n,ne,nf,d⟩
 ·have nL:∀c z,H c=ZZ z->c≠X.env.locals:=λc z q w=>by
   have:=I.free;rw[<-w,q] at this;cases this
  refine(I.hok b ob e).stay (λc w' hc q=>(hs.2 c ?_).trans q) (λ_ q=>q) λ_ _ q=>q
  rcases hc with z |z
  ·rw[z];exact nL b ob e
  ·exact nL c _ z
end
section
variable{M:vL}{A:cQ}{E:aG->aJ->Prop}{s:aJ}
def ayi{fs:List aQ}{a C:aQ}{dx:Option aQ}{ch:List aQ}{L:aQ}{Q:Unit->aJ->Prop}(x:FlyAt s.heap a C dx ch L)(hT:ch≠[a])
  (h:∀h',KeptBut fs ch s.heap h'->(∀L',FlyAt h' a C dx ch L')->h'.get? a=s.heap.get? a->Q () { s with heap:=h' }):bG M A (setFlight (.ref a) ZY) Q E s:=by
 obtain⟨oe,vs,he,hc,hdx,hd,hsz,⟨_,e⟩ |⟨T,oT,ts,fl,rfl,h1,hTa,hT,hdT,h3,hfl⟩⟩:=x.obj
 ·exact absurd e hT
 ·unfold setFlight;refine aA (cG he hd h1 ?_);rw[if_pos (show(cH T != cM)=ZX from by simp)]
  have hsz3:3<ts.size:=(dR.mp h3).1;refine eX hT hdT hsz3 (h _ (KeptBut.upd.sub (by simp)) (λL'=>⟨oe,vs,(bH _ _ hTa).trans he,hc,hdx,hd,hsz,.inr ⟨T,_,_,.none,rfl,h1,hTa,bM _ hT (eU (bQ hdT _)),bQ hdT _,by simp[hsz3],.inl rfl⟩⟩) (bH _ _ hTa))
def ass{base:eE}{env:Env}{outer:List Env}{L a C:aQ}{dx:Option aQ}{ch:List aQ}{Q:Unit->aJ->Prop}
  (hfr:A.frames=ZZ (env::outer)) (hl:s.heap.FunFrames base (env::outer)) (hf:env.frame=ZZ L) (x:FlyAt s.heap a C dx ch L)
  (h:∀h' ch',ch'≠[a]->(∀b∈ch',b∈ch∨s.heap.objs.size<=b)->KeptBut (frs (env::outer)) ch s.heap h'->(∀L',FlyAt h' a C dx ch' L')->Q () { s with heap:=h' }) :
  bG M A (noteFrame (.ref a) env) (λ_ s'=>bG M A (setFlight (.ref a) ZY) Q E s') E s:=by
 refine azx hfr hl hf x λh' T oT ts oe vs hT k e1 e2 e3 e4 e5 e6 e7 e8 e9 e10=>?_
 unfold setFlight;refine aA (cG e1 e4 e6 ?_);rw[if_pos (show(cH T != cM)=ZX from by simp)]
 have hsz3:3<ts.size:=(dR.mp e10).1;refine eX e8 e9 hsz3 (h _ [a,T] (by simp) (λb hb=>?_) ?_ λL'=>⟨oe,vs,(bH _ _ e7).trans e1,e2,e3,e4,e5,.inr ⟨T,_,_,.none,rfl,e6,e7,bM _ e8 (eU (bQ e9 _)),bQ e9 _,by simp[hsz3],.inl rfl⟩⟩)
 ·have:b=a∨b=T:=by simpa using hb
  rcases this with rfl |rfl
  ·exact .inl x.fresh
  ·exact hT
 ·rcases hT with hT |hT
  ·exact k.trans (KeptBut.upd.sub (by simp[hT]))
  ·refine⟨λb o n1 n2 e=>?_,λb o n e=>?_⟩
   ·rw[bH _ _ λz=>absurd (aN e) (by rw[<-z];exact oA.mpr hT)]
    exact k.keep b o n1 n2 e
   ·obtain⟨sl,q⟩:=k.slot b o n e;exact⟨sl,by rw[bH _ _ λz=>absurd (aN e) (by rw[<-z];exact oA.mpr hT)];exact q⟩
structure CatK (K:Fg9) (B:aQ):Prop where
 cls:(lE K B).isSome=ZX
 ty:nM K (.ref B)=ZZ (.type "type")
 base:gM K (.ref B) (.type "BaseException")=ZZ ZX
theorem awb{K:Fg9}{a C B:aQ}{oe:Obj}{b:Bool}{Q:Bool->aJ->Prop}(X:K.In s.heap)(k:CatK K B)(he:s.heap.get? a=ZZ oe)(hc:oe.cls=.ref C)(hs:gM K (.ref C) (.ref B)=ZZ b)(h:Q b s):bG M A (excMatches (.ref a) (.ref B)) Q E s:=by
 obtain⟨hp,g,d,tk,os⟩:=s;have L0:jR M hp (isInstance (.ref B) (.type "tuple")) ZW:=(PySem.W.looks_typeIn X k.ty).andThen (uN (by rw[isSubtype_type];kernel_rfl))
 have L1:jR M hp (isType (.ref B)) ZX:=by
  have z:=k.cls;unfold lE at z;split at z
  ·rename_i c' d' cd' sl' ho;intro A' Q' E' s' kk q;unfold isType loadHead;exact aA (wpAny_loadPart (kk _ _ (X _ _ ho)) (aH q))
  ·cases z
 have L2:=vI (M:=M) X k.base;have L3:=vI (M:=M) X hs;have L4:jR M hp (isExcClass (.ref B)) ZX:=L1.andThen (by rw[if_pos rfl];exact L2)
 have L5:jR M hp (typeOf (.ref a)) (.ref C):=(PySem.W.Looks.ld he).andThen (uN (by rw[hc]))
 unfold excMatches;refine aA (L0.at ?_);simp only[jJ,if_false];refine aA (aH ?_);simp only[lJ,nO];refine aA (aA (aA (L4.at ?_)));rw[if_neg (by simp)]
 refine aH (aH (aA (L5.at (aA (aA (aA (L3.at ?_)))))));cases b with
 |true=>
  rw[if_pos rfl];exact aH (aH (aH h))
 |false=>
  rw[if_neg cY];exact aH (aH (aH h))
end
end L2
namespace Dn
open L2 Mn
noncomputable def ajv(c0 c:Str):Bool:=c0==c||c == "ArrowError" || c == "ValueError"
noncomputable def clsAt(K:Fg9)(c:Str):Option aQ:=match nsIn K aV c with
 |some (ZZ (.ref C))=>ZZ C
 |_=>ZY
def ai7(K:Fg9)(ns:List Str):Bool:=ns.all λc0=>match clsAt K c0 with
 |some C0=>(ns.all λc=>match clsAt K c with
  |some C=>gP K (.ref C0) (.ref C)==ZZ (ajv c0 c)
  |none=>ZW)&&gP K (.ref C0) (.type "ValueError")==ZZ ZX
 |none=>ZW
def aep{K:Fg9}{c:Str}{C:aQ}(h:nsIn K aV c=ZZ (ZZ (.ref C))):clsAt K c=ZZ C:=by
 unfold clsAt;rw[h]
def aod{K:Fg9}{ns:List Str}{c0 c:Str}{C0 C:aQ}(h:ai7 K ns=ZX)(h0:ns.contains c0=ZX)(h1:ns.contains c=ZX)(e0:nsIn K aV c0=ZZ (ZZ (.ref C0)))(e1:nsIn K aV c=ZZ (ZZ (.ref C))) :
  gP K (.ref C0) (.ref C)=ZZ (ajv c0 c):=by
 have z:=cR.mp h c0 (cO.mp h0);rw[aep e0] at z;have z1:=cR.mp (vC.mp z).1 c (cO.mp h1);rw[aep e1] at z1;exact beq_iff_eq.mp z1
def ayv{K:Fg9}{ns:List Str}{c0:Str}{C0:aQ}(h:ai7 K ns=ZX)(h0:ns.contains c0=ZX)(e0:nsIn K aV c0=ZZ (ZZ (.ref C0))):gP K (.ref C0) (.type "ValueError")=ZZ ZX:=by
 have z:=cR.mp h c0 (cO.mp h0);rw[aep e0] at z;exact beq_iff_eq.mp (vC.mp z).2
def gIsC(ns:List Str)(c:Str):D->Option D
 |.exn c0 _=>if ns.contains c0 then ZZ (.bl (ajv c0 c)) else ZY
 |_=>ZY
def mIsC(ns:List Str)(c:Str)(m:M D):M D:=m.bind λd=>lift (gIsC ns c d)
section
variable{K:Fg9}{X:Cx}{e:dI}{pos p:Pos}
theorem amc{X:Cx}{cv:aG}{cV:V}(rc:∀u,RelV cV u->u=cv):abi X (.builtin "isinstance") (λxs H Q=>∃F c0 fs x b,xs=[x,cV]/\Same F H/\Is X.K F (.exn c0 fs) x/\(∀C0,nsIn X.K aV c0=ZZ (ZZ (.ref C0))->gP X.K (.ref C0) cv=ZZ b)/\Q (.bl b) H):=by
 intro zv s σ H xs us Q I r z9;obtain⟨F,c0,fs,x,b,e,g,h,hk1,q⟩:=z9;subst e;obtain⟨u,w',rfl,r1,r2⟩:=vals2 r;obtain rfl:=rc w' r2;have fin:∀tk,EP X zv σ Q (.bool b) { s with toks:=tk }:=λtk=>⟨.bl _,H,I.tok tk,rfl,q⟩
 cases h with
 | @exn a C c dx fs e hc hk hf=>
  cases(show u=cH a from r1)
  obtain⟨⟨oe,ws,h1,h2,h3,h4⟩,_⟩:=(show xf X.prog X.w H s.heap a (.ext (exO a C dx)) from I.hok a _ (g _ _ e))
  have hno:lU oe=ZX:=by unfold lU;rw[h4]
  have ia:∃ox od,gQ s.heap a ox C od:=by
   rcases hf with⟨rfl,_⟩ |⟨d,rfl,hd⟩
   ·exact⟨oe,ZY,h1,h2,hno,by rw[h3];trivial⟩
   ·obtain⟨mA,⟨od,_,_,e1,_⟩,_⟩:=(show xf X.prog X.w H s.heap d (.xd _) from I.hok d _ (g _ _ hd))
    exact⟨oe,ZZ od,h1,h2,hno,by rw[h3];exact e1⟩
  exact dW (aou hk) I.kIn ia (hk1 C hc) (λz=>nomatch z) fin
theorem axx{F H:Hp}{d:D}{v:V}{ns:List Str}{c:Str}{r:D}(b:Bor K F H d v)(e:gIsC ns c d=ZZ r):∃c0 fs,d=.exn c0 fs/\Is K F (.exn c0 fs) v/\ns.contains c0=ZX/\r=.bl (ajv c0 c):=by
 cases d with
 |exn c0 fs=>
  have e:(if ns.contains c0 then ZZ (D.bl (ajv c0 c)) else ZY)=ZZ r:=e
  split at e
  ·rename_i hn;cases e;refine⟨c0,fs,rfl,?_,hn,rfl⟩;rcases b with b |⟨_,_,_,z,_⟩
   ·exact b
   ·cases z
  ·cases e
 |_=>cases e
def a0r{ns:List Str}{c:Str}{C:aQ}{m:M D}{x:Str}{pc:Pos}(sub:ai7 K ns=ZX)(h1:ns.contains c=ZX)(hgC:Gl X c)(hmC:X.mg c=ZZ (.ref C))(hnC:nsIn K aV c=ZZ (ZZ (.ref C)))
  (hg:Gl X x) (hm:X.mg x=ZY) (hv:bR x=ZZ (.builtin "isinstance")) (h:EB K X e m) (hdC:(c==("__debug__" : Str))=ZW:=by decide) (hn:x ≠ "__name__" := by decide) (hdb:Zb x:=by decide)
  (h1':aO [.Name c pc] X.env=(ZW,eval (.Name c pc) X.env)::aO [] X.env:=by rfl) (he:aO [e,.Name c pc] X.env=(ZW,eval e X.env)::aO [.Name c pc] X.env:=by rfl) (hpl:(gC pos (aO [.Name c pc] X.env)).any (·.1)=ZW:=by rfl) :
  EV K X (.Call (.Name x p) [e,.Name c pc] [] pos) (mIsC ns c m):=EV.mk λhk=>by
 refine PE.imp (ad5 (amc (cv:=.ref C) (cV:=.ref C) λu r=>r) hg hm hv (sy (h hk) (sy (asi (v:=.ref C) hgC hmC rfl hdC) ad6 h1') he) hn hdb he hpl) λσ H Q z9=>?_
 obtain⟨tg,F,ρ,d,ρ',G,em,q⟩:=z9;obtain⟨d1,ρ1,e1,em⟩:=bf em;obtain⟨e2,rfl⟩:=ik em;subst hk;refine⟨tg,F,ρ,d1,_,G,e1,λv H' F' G' x bv=>?_⟩
 obtain⟨c0,fs,rfl,hi,h0,rfl⟩:=axx bv e2;exact⟨F',c0,fs,v,_,rfl,G'.sub,hi,λC0 e0=>aod sub h0 h1 e0 hnC,q _ H' F' G' x (.bl _)⟩
def at5{ns:List Str}{m:M D}{x:Str}{pc:Pos}(sub:ai7 K ns=ZX)(hgC:Gl X "ValueError")(hmC:X.mg "ValueError"=ZY)(hvC:bR "ValueError"=ZZ (.type "ValueError"))
  (hg:Gl X x) (hm:X.mg x=ZY) (hv:bR x=ZZ (.builtin "isinstance")) (h:EB K X e m) (hn:x ≠ "__name__" := by decide) (hdb:Zb x:=by decide)
  (h1':aO [.Name "ValueError" pc] X.env=(ZW,eval (.Name "ValueError" pc) X.env)::aO [] X.env:=by rfl) (he:aO [e,.Name "ValueError" pc] X.env=(ZW,eval e X.env)::aO [.Name "ValueError" pc] X.env:=by rfl) (hpl:(gC pos (aO [.Name "ValueError" pc] X.env)).any (·.1)=ZW:=by rfl) :
  EV K X (.Call (.Name x p) [e,.Name "ValueError" pc] [] pos) (mIsC ns "ValueError" m):=EV.mk λhk=>by
 refine PE.imp (ad5 (amc (cv:=.type "ValueError") (cV:=.ty "ValueError") λu r=>r) hg hm hv (sy (h hk) (sy (ak3 hgC hmC hvC) ad6 h1') he) hn hdb he hpl) λσ H Q z9=>?_
 obtain⟨tg,F,ρ,d,ρ',G,em,q⟩:=z9;obtain⟨d1,ρ1,e1,em⟩:=bf em;obtain⟨e2,rfl⟩:=ik em;subst hk;refine⟨tg,F,ρ,d1,_,G,e1,λv H' F' G' x bv=>?_⟩
 obtain⟨c0,fs,rfl,hi,h0,rfl⟩:=axx bv e2;refine⟨F',c0,fs,v,ajv c0 "ValueError", rfl,G'.sub,hi,λC0 e0=>?_,q _ H' F' G' x (.bl _)⟩
 rw[ayv sub h0 e0];simp[ajv]
end
def aeq:bR "ValueError"=ZZ (.type "ValueError"):=by decide +kernel
@[simp] theorem a7x(ns:List Str)(c:Str)(m:M D)(ρ:Ro):mIsC ns c m ρ=(m.bind λd=>lift (gIsC ns c d)) ρ:=rfl
@[simp] theorem a6f(ns:List Str)(c c0:Str)(fs:List (Str×Int)):gIsC ns c (.exn c0 fs)=if ns.contains c0 then ZZ (.bl (ajv c0 c)) else ZY:=rfl
end Dn
namespace L2
structure RoomU (k:Nat) (A:cQ):Prop where
 dp:A.depth+3*k+5<recursionLimit
 un:A.units+16*k+200<cLine
 gd:A.guards=ZZ []
def RoomU.mono{j k:Nat}{A:cQ}(r:RoomU k A)(h:j<=k):RoomU j A:=⟨by have:=r.dp;omega,by have:=r.un;omega,r.gd⟩
def RoomU.deeper{k:Nat}{A:cQ}(r:RoomU (k+1) A)(env:Env):RoomU k (A.deeper env) :=
 ⟨by have:=r.dp;show A.depth+1+3*k+5<_;omega,by have:=r.un;show A.units+3+16*k+200<_;omega,r.gd⟩
def RoomU.depth{k:Nat}{A:cQ}(r:RoomU k A):A.depth<recursionLimit:=by have:=r.dp;omega
def RoomU.units{k:Nat}{A:cQ}(r:RoomU k A):A.units+64<cLine:=by have:=r.un;omega
def Room.mark{k:Nat}{A:cQ}(r:Room k A)(e:aG):RoomU k (A.mark (ZZ e)):=⟨r.dp,r.un,r.gd⟩
def cxU(P:bT)(w:dB)(K:Fg9)(mg:Str->Option aG)(base:eE)(N:List Str)(qual:Str)(scope:nJ)(f:aQ)(cd:aG)(A:cQ)(outer:List Env)(s:aJ)(H:Hp):Cx :=
 { (cxOf CX0 P w K mg base N qual scope f cd A outer s H E0).nox with calm:=ZW }
structure FnOkU (P:bT) (w:dB) (K:Fg9) (mg:Str->Option aG) (base:eE) (k:Nat) (f:aQ) (fd:eQ) (ps:List Str) (sp:Sp):Prop where
 len:∀vs H Q E,sp vs H Q E->vs.length=ps.length
 run:∀(A:cQ) (outer:List Env) (s:aJ) (H:Hp) (args:Args) (us:List aG) (vs:List V) (Q:VK),RoomU k A->Env0 P w K mg base A outer s H->oR s fd args (ps.zip us)->Vals vs us->sp vs H Q E0 ->
  mJ (bL P w) A (.call (.ref f) args) (CR CX0 outer P w H s Q E0) s
theorem Fun.okU{P:bT}{w:dB}{K:Fg9}{mg:Str->Option aG}{base:eE}{x qual:Str}{st:gK}{f:aQ}{fd:eQ}{N ps:List Str}{k:Nat}{sp:Sp}(F:Fun K x qual st f fd)(S:FnScope N ps (ao st))(len:∀vs H Q E,sp vs H Q E->vs.length=ps.length)
  (hbody:∀(cdv:aG) (A:cQ) (outer:List Env) (s:aJ) (H:Hp) (vs:List V) (Q:VK),RoomU k (A.deeper (mY qual (ao st) s.heap.objs.size f cdv))->sp vs H Q E0 ->
   ∃t,PSs (cxU P w K mg base N qual (ao st) f cdv A outer s H) (jc st) t/\t { nx:=λ_ H'=>Q .non H',rt:=Q } (start N vs) H):FnOkU P w K mg base (k+1) f fd ps sp:=by
 obtain⟨oc,od,kV,doc,pm,an,cdv,ct,osl,rfl,lk,hcd⟩:=F.ex;refine⟨len,λA outer s H args us vs Q hr e0 hb r hsp=>?_⟩
 have hl:=len _ _ _ _ hsp;have KX:K.In s.heap:=e0.mod.kin.keeps λb o e=>(e0.bs b o e).1
 have lim:s.heap.NoLimit:=e0.mod.nolimit.keeps λb o e=>(e0.bs b o e).1
 have hkind:∀y∈ps.zip us,(ao st).names.lookup y.1=ZZ .local∨((ao st).names.lookup y.1=ZZ .cell/\((cellsFrom (s.heap.objs.size+1) (ao st).names []).lookup y.1).isSome=ZX):=λy hy=>by
  rcases S.par y.1 (pI hy).1 with q |q
  ·exact .inl q
  ·exact .inr ⟨q,pA _ _ _ (.inl q)⟩
 refine codeAny_call_function hr.depth (KX _ _ lk) rfl S.co S.gen rfl (vY KX hcd) (hb _ _ _ _ ?_);refine wpAny_newFunctionEnv_cells S.kind hkind λenv he s1 x=>?_
 subst he;refine⟨lim.keeps x.toInCall.keep,codeAny_func ?_⟩;obtain⟨t,ht,hq⟩:=hbody cdv A outer s H vs Q (hr.deeper _) hsp;have e1:Env0 P w K mg base { A with handled:=ZY } outer s H:=⟨e0.frames,e0.mod,e0.bs,e0.bsz,e0.funs,e0.frf,e0.hok,e0.bare⟩
 have J:Inv (cxOf CX0 P w K mg base N qual (ao st) f cdv { A with handled:=ZY } outer s H E0) [] (start N vs) H s1:=alv S rfl e1 hl r x
 have I:Inv (cxU P w K mg base N qual (ao st) f cdv A outer s H) [] (start N vs) H s1 :=
  ⟨⟨J.ok.mod,J.ok.kind,J.ok.glob,J.ok.blt,J.ok.above,J.ok.inj,J.ok.has,J.ok.cab,(λz=>absurd z cY),vD e0.frames,J.ok.stk,J.ok.exf,J.ok.bs,J.ok.bsz,J.ok.noex,J.ok.exfs,J.ok.funs,J.ok.frf⟩,J.os,J.bare,J.base,J.loc,J.cell,J.free,J.freeC,J.pin,J.hok,J.len⟩
 refine bD (ht [] s1 (start N vs) H _ I hq) (λfl s' hs=>?_) λe s' hs=>eF hs
 have fin:∀{σ':St} {H':Hp} {v:V} {u:aG},Inv (cxU P w K mg base N qual (ao st) f cdv A outer s H) [] σ' H' s'->RelV v u->Q v H'->CE outer P w H s Q u s' :=
  λ{σ' H' v u} J rv q=>⟨v,H',J.os,J.bare,J.base,J.hok,rv,q⟩
 cases fl with
 |ret u=>
  obtain⟨v,σ',H',J,rv,q⟩:=hs;exact fin J rv q
 |next=>
  obtain⟨σ',H',J,q⟩:=hs;exact fin (v:=V.non) (u:=cM) J rfl q
 |brk=>
  obtain⟨_,_,_,q⟩:=hs;exact eF q
 |cont=>
  obtain⟨_,_,_,q⟩:=hs;exact eF q
def DfnU(P:bT)(w:dB)(K:Fg9)(mg:Str->Option aG)(base:eE)(x:Str)(ps:List Str)(k:Nat)(sp:Sp):Prop :=
 ∃(f:aQ) (fd:eQ),FnOkU P w K mg base k f fd ps sp/\mg x=ZZ (.ref f)/\kW K (.ref f)=ZX/\Binds K fd ps []
theorem a2s{X:Cx}{x:Str}{ps:List Str}{k:Nat}{sp:Sp}{e:dI}{es:List dI}{t:TA}{p pos:Pos}(F:DfnU X.prog X.w X.K X.mg X.base x ps k sp)(hr:RoomU k X.A)(hg:Gl X x)(ha:PA X (e::es) t)(hdb:Zb x:=by decide)
  (he:Zc X e es:=by rfl) (hpl:(gC pos (aO es X.env)).any (·.1)=ZW:=by rfl):PE X (.Call (.Name x p) (e::es) [] pos) (ayr sp [] E0 t):=by
 obtain⟨f,fd,F,hm,hk,hb⟩:=F;intro zv s σ H Q I h;refine wpAny_Call_Name_kw (abx I hg hm ?_ hdb);refine jH (h₀:=X.base) I.ok.mod.kin hk (thn (ha pos zv s σ H _ I h) λus s1 ⟨vs,H1,I1,r,q⟩=>⟨I1.kIn,?_⟩) he hpl
 have q:sp (vs++[]) H1 Q E0:=q;rw[cF] at q;have hl:(us++[]).length=ps.length:=by rw[cF,<-r.length];exact F.len _ _ _ _ q
 have hbn:=hb s1 us I1.kIn hl;rw[cF] at hbn;refine lO (jK (F.run X.A X.stack s1 H1 ⟨[]++us,[]⟩ us vs Q hr I1.env0 hbn r q) λr s' hq=>?_)
 cases r with
 |error e=>exact eF hq
 |ok fl=>
  cases fl with
  |ret u=>exact I1.after hq
  |next=>exact eF hq
  |brk=>exact eF hq
  |cont=>exact eF hq
end L2
namespace Dn
open L2 Mn
def at6{K:Fg9}{X:Cx}{e:dI}{es:List dI}{pos p:Pos}{f:Fd}{n k:Nat}{x:Str}{pn:List Str}{js:List (Option Nat)}{ms:M (List (Option D))}(F:DfnU X.prog X.w X.K X.mg X.base x pn k (spOf K n f))(hr:RoomU k X.A)(hg:Gl X x)(ha:EG K X (e::es) js ms)(hn:js.length=n:=by rfl)(hdb:Zb x:=by decide)
  (he:Zc X e es:=by rfl) (hpl:(gC pos (aO es X.env)).any (·.1)=ZW:=by rfl):ER K X (.Call (.Name x p) (e::es) [] pos) (mFn f js ms):=ER.mk λhk=>PE.imp (a2s F hr hg (ha hk) hdb he hpl) λσ H Q z9=>by
 obtain⟨tg,F,ρ,r,ρ',G,em,q⟩:=z9;obtain⟨ds,ρ1,ps,e1,hj,e2,rfl⟩:=axn em;refine⟨tg,F,ρ,ds,ρ1,G,e1,λvs H1 F1 G1 x1 ar=>?_⟩
 have L:=ar.lent;show spOf K n f (vs++[]) H1 Q E0;rw[cF];refine⟨by rw[ar.length];exact hn,F1,_,r,ps,wu G1 hj L,e2,λv H' F' O' s' x' fin rr=>?_⟩
 exact q v H' F' (zb G1 L x' s' fin) (x1.trans (aba G1 L x')) (lr x1 (aes G1 L fin rr))
def atv{K:Fg9}{P:bT}{w:dB}{mg:Str->Option aG}{base:eE}{x qual:Str}{st:gK}{f:aQ}{fd:eQ}{N ps:List Str}{k nl np:Nat}{g:Sd}(F:Fun K x qual st f fd)(S:FnScope N ps (ao st))(h1:N.length=nl)(h2:ps.length=np)
  (body:∀(cdv:aG) (A:cQ) (outer:List Env) (s:aJ) (H:Hp),RoomU k (A.deeper (mY qual (ao st) s.heap.objs.size f cdv))->SVs K (cxU P w K mg base N qual (ao st) f cdv A outer s H) (jc st) g) :
  FnOkU P w K mg base (k+1) f fd ps (spOf K np (fnD nl np g)):=by
 subst h1 h2;refine F.okU S (λvs H Q E h=>h.1) λcdv A outer s H vs Q hr h=>⟨_,body cdv A outer s H hr rfl,?_⟩
 obtain⟨hn,F,as,r,ps',G,em,q⟩:=h;have hl:as.length=(vs.map ZZ).length:=G.len;have G1:=G.app (N.length-vs.length);have es:start N vs=vs.map ZZ++aD (N.length-vs.length) ZY:=rfl;rw[es];unfold fnD at em;rw[<-hn] at em;have fin:∀{ρ':Ro} {σ':L2.St} {F' H':Hp},Good K (tgOf (vs.map ZZ)) F' H' ρ' σ'->Fin K F' H' (vs.map ZZ) (ρ'.take vs.length) (Own ρ' σ'):=λ{ρ' σ' F' H'} G'=>⟨λi l e=>by
  have hi:=(aK.mp e).1;rw[dX] at hi;rw[fM (by omega)] at e
  obtain⟨o,ho,a,ws,rfl,hf,hh,hl,ht⟩:=G'.at e;rw[ht i rfl];exact⟨⟨i,⟨_,_,e⟩,ho⟩,hf,ws,hh,hl⟩⟩
 split at em
 ·rename_i r' ρ' e;cases em;refine⟨_,F,_,.ret r,ρ',G1,e,λv σ' H' F' G' x' rr=>?_⟩
  rw[uv hl] at x' rr;exact q v H' F' (Own ρ' σ') G'.sub x' (fin G') rr
 ·rename_i ρ' e;cases em;refine⟨_,F,_,.nx,ρ',G1,e,λσ' H' F' G' x'=>?_⟩
  rw[uv hl] at x';exact q .non H' F' (Own ρ' σ') G'.sub x' (fin G') .non
 ·cases em
 ·cases em
def cxH(X:Cx)(ev:aG):Cx:={ X with A:=X.A.mark (ZZ ev),calm:=ZW }
section
variable{K:Fg9}{X:Cx}{zv:List (aQ×Obj)}{σ:L2.St}{H:Hp}{s:aJ}{tg:Nat->aQ}{F:Hp}{ρ:Ro}
def zd(I:Inv X zv σ H s)(ev:aG):Inv (cxH X ev) zv σ H s :=
 ⟨⟨I.ok.mod,I.ok.kind,I.ok.glob,I.ok.blt,I.ok.above,I.ok.inj,I.ok.has,I.ok.cab,(λz=>absurd z cY),I.ok.frames,I.ok.stk,I.ok.exf,I.ok.bs,I.ok.bsz,I.ok.noex,I.ok.exfs,I.ok.funs,I.ok.frf⟩,I.os,I.bare,I.base,I.loc,I.cell,I.free,I.freeC,I.pin,I.hok,I.len⟩
def ze{ev:aG}(hd:X.calm=ZX->X.A.handled=ZY)(I:Inv (cxH X ev) zv σ H s):Inv X zv σ H s :=
 ⟨⟨I.ok.mod,I.ok.kind,I.ok.glob,I.ok.blt,I.ok.above,I.ok.inj,I.ok.has,I.ok.cab,hd,I.ok.frames,I.ok.stk,I.ok.exf,I.ok.bs,I.ok.bsz,I.ok.noex,I.ok.exfs,I.ok.funs,I.ok.frf⟩,I.os,I.bare,I.base,I.loc,I.cell,I.free,I.freeC,I.pin,I.hok,I.len⟩
def we{a:aQ}{o:HO}(I:Inv X zv σ H s)(f:FpX X zv H a)(new:xf X.prog X.w (upd H a o) s.heap a o):Inv X zv σ (upd H a o) s:=by
 have ne:∀b z,H b=ZZ z->b≠a:=λb z q w=>by rw[w,f.1] at q;cases q
 refine⟨I.ok,I.os,I.bare,⟨I.base.keep,I.base.slot,λb o' e n hx=>?_,I.base.there,λb xs q=>?_,λb ob u q=>?_,λb ps q=>?_⟩,I.loc,I.cell,?_,λx c e=>?_,λp hp=>?_,λb u e=>?_,I.len⟩
 ·rw[b7 (λw=>by
   rcases f.2.2.2.1 with z |z
   ·exact hx (w▸z)
   ·rw[w,z] at e;cases e)]
  exact I.base.free b o' e n hx
 ·have:=I.base.tups b xs q;rw[b7 (ne _ _ this)];exact this
 ·have:=I.base.frzs b ob u q;rw[b7 (ne _ _ this)];exact this
 ·obtain⟨more,h1⟩:=I.base.tbls b ps q;exact⟨more,by rw[b7 (ne _ _ h1)];exact h1⟩
 ·rw[b7 (gG f.2.1)];exact I.free
 ·rw[b7 (f.2.2.2.2.1 x c e)];exact I.freeC x c e
 ·obtain⟨h1,h2,h3,h4,h5⟩:=I.pin p hp;exact⟨h1,by rw[b7 (f.2.2.2.2.2 p hp)];exact h2,h3,h4,h5⟩
 ·by_cases hb:b=a
  ·subst hb;rw[gk] at e;cases e;exact new
  ·rw[b7 hb] at e;refine(I.hok b u e).stay (λc v _ q=>q) (λc q=>?_) λc xs q=>?_
   ·rw[b7 (ne _ _ q)];exact q
   ·rw[b7 (ne _ _ q)];exact q
def ap1{i:Nat}{a:aQ}{σ':L2.St}(hs:∀j,j≠i->σ'[j]? = σ[j]?)(h:Own (bZ ρ i .emp) σ' a):Own ρ σ a:=by
 obtain⟨j,⟨t,l,e⟩,q⟩:=h;rw[bJ] at e
 by_cases hj:i=j
 ·subst hj;rw[if_pos rfl] at e;split at e <;> cases e
 ·rw[if_neg hj] at e;exact⟨j,⟨t,l,e⟩,by rw[<-hs j (gG hj)];exact q⟩
def Good.forget(G:Good K tg F H ρ σ)(i:Nat):Good K tg F H (bZ ρ i .emp) (bZ σ i ZY) where
 sub:=G.sub
 len:=by rw[cC,cC];exact G.len
 sl:=λj s o e q=>by
  rw[bJ] at e q
  by_cases hj:i=j
  ·subst hj;rw[if_pos rfl] at e;split at e
   ·cases e;trivial
   ·cases e
  ·rw[if_neg hj] at e q;exact G.sl j s o e q
 inj:=λj k a ⟨⟨t,l,e⟩,q⟩ ⟨⟨t',l',e'⟩,q'⟩=>by
  have f:∀{j t l},(bZ ρ i Sl.emp)[j]? = ZZ (Sl.own t l)->i≠j:=λ{j t l} e z=>by
   subst z;rw[bJ,if_pos rfl] at e;split at e <;> cases e
  have n1:=f e;have n2:=f e';rw[bJ,if_neg n1] at e q;rw[bJ,if_neg n2] at e' q';exact G.inj j k a ⟨⟨t,l,e⟩,q⟩ ⟨⟨t',l',e'⟩,q'⟩
def Ext.less{O O' O2:aQ->Prop}{F H F' H':Hp}(x:Ext O O' F H F' H')(h:∀a,O2 a->O' a):Ext O O2 F H F' H':=⟨x.sub,x.new,x.keep,λa z=>x.own a (h a z),x.there⟩
theorem ar4{O O' O2:aQ->Prop}{F' H H':Hp}{r:Rv}{v:V}(x:relR K r v H O F' H' O')(h:∀a,O2 a->O' a):relR K r v H O F' H' O2:=by
 cases r with
 |v d=>exact x
 |fr l=>
  obtain⟨a,vs,e1,e2,e3,e4,e5,e6⟩:=x;exact⟨a,vs,e1,e2,e3,e4,e5,λz=>e6 (h a z)⟩
 |tf d l=>
  obtain⟨t,u,a,vs,e0,e1,e2,e3,e4,e5,e6,e7⟩:=x;exact⟨t,u,a,vs,e0,e1,e2,e3,e4,e5,e6,λz=>e7 (h a z)⟩
end
def dTry(ns:List Str)(gb:Sd)(i:Nat)(gh:Sd):Sd:=λρ=>match gb ρ with
 |some (.exc x,ρ1)=>if ns.contains x.cls then match gh (bZ ρ1 i (.val (.exn x.cls x.fs))) with
   |some (.exc _,_)=>ZY
   |some (fl,ρ2)=>ZZ (fl,bZ ρ2 i .emp)
   |none=>ZY
  else ZY
 |r=>r
structure CatN (K:Fg9) (B:aQ):Prop extends CatK K B where
 ns:nsIn K aV "ArrowError"=ZZ (ZZ (.ref B))
 self:gM K (.ref B) (.ref B)=ZZ ZX
def apr{K:Fg9}{C B:aQ}(k:CatN K B)(h:gP K (.ref C) (.ref B)=ZZ ZX):gM K (.ref C) (.ref B)=ZZ ZX:=by
 by_cases e:C=B
 ·rw[e];exact k.self
 ·have h1:(if (cH C==cH B)=ZX then ZZ ZX else yQ K (.ref C) (.ref B))=ZZ ZX:=h
  rw[if_neg (λz=>e (yX (beq_iff_eq.mp z)))] at h1
  have h2:(if ((lE K B).isSome&&nM K (.ref B)==ZZ (.type "type"))=ZX then gM K (.ref C) (.ref B) else ZY)=ZZ ZX:=h1
  split at h2
  ·exact h2
  ·cases h2
def a9h(K:Fg9)(tg:Nat->aQ)(ρ:Ro)(σ:L2.St)(F H:Hp)(ρ2:Ro)(fl:Fl):Ends where
 nx:=λσ6 H6=>fl=.nx/\∃F6,Good K tg F6 H6 ρ2 σ6/\Ext (Own ρ σ) (Own ρ2 σ6) F H F6 H6
 bk:=λσ6 H6=>fl=.brk/\∃F6,Good K tg F6 H6 ρ2 σ6/\Ext (Own ρ σ) (Own ρ2 σ6) F H F6 H6
 ct:=λσ6 H6=>fl=.cont/\∃F6,Good K tg F6 H6 ρ2 σ6/\Ext (Own ρ σ) (Own ρ2 σ6) F H F6 H6
 rt:=λv H6=>∃r σ6 F6,fl=.ret r/\Good K tg F6 H6 ρ2 σ6/\Ext (Own ρ σ) (Own ρ2 σ6) F H F6 H6/\relR K r v H (Own ρ σ) F6 H6 (Own ρ2 σ6)
section
variable{K:Fg9}{X:Cx}{pos hpos bp:Pos}{n:Str}{B:aQ}{i:Nat}{b₀:gK}{body suite:List gK}{ns:List Str}{gb gh:Sd}
def a1m(hcalm:X.calm=ZX)(hno:X.xe=λ_ _=>False)(hfr:X.env.frame=ZZ X.env.locals)(hst:X.stack=X.env::X.outer)(hN:X.N.Nodup)(hi:X.N[i]? = ZZ n)(hk0:X.env.scope.names.lookup n=ZZ .local)
  (hgB:Gl X "ArrowError") (hmB:X.mg "ArrowError"=ZZ (.ref B)) (cat:CatN K B) (sub:ai7 K ns=ZX) (hB:ns.contains "ArrowError"=ZX) (hb:SVs K X body gb) (hx:XSs K X body gb) (hh:∀ev,SVs K (cxH X ev) (b₀::suite) gh) :
  SV K X (.Try body [.ExceptHandler (ZZ (.Name "ArrowError" bp)) (ZZ n) (b₀::suite) hpos] [] [] pos) (dTry ns gb i gh):=SV.mk λhk zv s σ H E I z9=>by
 obtain⟨tg,F,ρ,fl,ρ',G,em,q⟩:=z9;refine wpAny_Try_except ?_;unfold dTry at em;split at em
 ·rename_i x ρ1 e1;split at em
  ·rename_i hc0;split at em
   ·cases em
   ·rename_i fl' ρ2 hne e2;cases em;refine bD (hx.go hk hno zv s σ H tg F ρ x ρ1 I G (uc.mpr e1)) (λ_ _ z=>z.elim) λer s1 z9=>?_
    obtain⟨σ1,H1,F1,I1,G1,x1,a,C,dx,ch,ea,hc,hf,fly,hch⟩:=z9;subst ea;have hl1:=I1.stack;rw[hst] at hl1;refine ass (by rw[<-hst];exact I1.ok.frames) hl1 hfr fly λh2 ch2 hne2 hch2 kb2 fly2=>?_
    rw[<-hst] at kb2;have I2:=vc I1 kb2 hch;have fp2:∀b∈ch2,FpX X zv H1 b:=λb hb=>by
     rcases hch2 b hb with z |z
     ·exact hch b z
     ·exact wc I1 (iQ z) (I1.hok.fresh z)
    obtain⟨oe,vs,he,hcl,_⟩:=(fly2 X.env.locals).obj;have hsub:=apr cat (by have z:=aod sub hc0 hB hc.ns cat.ns;rw[z];simp[ajv])
    refine wpAny_handleBy_cons (codeAny_handlers_test (abx (X:=cxH X (.ref a)) (zd I2 _) hgB hmB ?_ (by decide))) (by intro z;cases z)
    refine awb (hk▸I2.kIn) cat.toCatK he hcl hsub ?_;refine codeAny_handlers_suite_as ?_;refine ayi (fs:=frs X.stack) (fly2 X.env.locals) hne2 λh3 kb3 fly3 ha3=>?_
    have I3:=vc I2 kb3 fp2;obtain⟨oe3,vs3,he3,hcl3,hdx3,hd3,_⟩:=(fly3 X.env.locals).obj;have fa:FpX X zv H1 a:=fp2 a (fly2 X.env.locals).fresh;have I4:=we (o:=.ext (exO a C dx)) I3 fa ⟨⟨oe3,vs3,he3,hcl3,hdx3,hd3⟩,⟨oe3,he3⟩,λg1 g2 ⟨o,vs',h1,h2,h3,h4⟩ kp=>⟨o,vs',kp o h1,h2,h3,h4⟩⟩
    have G4:=G1.new fa.1 (.ext (exO a C dx));have x4:=G1.newX fa.1 (.ext (exO a C dx));have isE:Is K (upd F1 a (.ext (exO a C dx))) (.exn x.cls x.fs) (.ref a):=.exn gk hc.ns hc.ok (hf.imp id λ⟨d,h1,h2⟩=>⟨d,h1,x4.sub _ _ h2⟩)
    obtain⟨G5,x5⟩:=G4.storeV i isE;refine ace I4 hN hi (.inl hk0) (v:=.ref a) rfl (λs5 I5=>?_) (.inr hk0)
    have hx5:=(x1.trans x4).trans x5;have back:∀{f:Flow} {s6:aJ} {σ6:L2.St} {H6:Hp},Inv (cxH X (.ref a)) zv σ6 H6 s6->(∀s7,Inv X zv (bZ σ6 i ZY) H6 s7->SP X zv E f s7) ->
      bG (bL X.prog X.w) X.A (do bindName X.env n .none;unbindBehindTheSuite X.env n hpos) (λ_ s7=>SP X zv E f s7) X.xe s6:=λ{f s6 σ6 H6} I6 fin=>by
     have I6:=ze I.ok.hd I6;refine aA (wpAny_bindName (ace I6 hN hi (.inl hk0) (v:=.non) rfl (λs7 I7=>?_) (.inr hk0)))
     unfold unbindBehindTheSuite;refine jQ (a4s I7 hN hi hk0 (v:=.non) (lN (by rw[I6.len];exact(aK.mp hi).1)) λs8 I8=>fin s8 ?_)
     rw[List.set_set] at I8;exact I8
    refine bD ((hh (.ref a)).go hk zv s5 _ _ (a9h K tg ρ σ F H ρ2 fl) (zd I5 (.ref a))
      ⟨tg,_,_,fl,ρ2,G5,e2,?_⟩) (λf s6 hs=>?_) λ_ _ z=>by
       have z:X.xe _ _:=z;rw[hno] at z;exact z.elim
    ·cases fl with
     |nx=>exact λσ6 H6 F6 G6 x6=>⟨rfl,F6,G6,hx5.trans x6⟩
     |brk=>exact λσ6 H6 F6 G6 x6=>⟨rfl,F6,G6,hx5.trans x6⟩
     |cont=>exact λσ6 H6 F6 G6 x6=>⟨rfl,F6,G6,hx5.trans x6⟩
     |ret r=>exact λv σ6 H6 F6 G6 x6 rr=>⟨r,σ6,F6,rfl,G6,hx5.trans x6,lr hx5 rr⟩
     |exc y=>exact(hne y rfl).elim
    ·have sub6:∀(σ6:L2.St) (a:aQ),Own (bZ ρ2 i .emp) (bZ σ6 i ZY) a->Own ρ2 σ6 a:=λσ6 a z=>ap1 (λj hj=>mD (gG hj)) z
     cases f with
     |next=>
      obtain⟨σ6,H6,I6,rfl,F6,G6,x6⟩:=hs;exact back I6 λs7 I7=>⟨_,H6,I7,q _ H6 F6 (G6.forget i) (x6.less (sub6 σ6))⟩
     |brk=>
      obtain⟨σ6,H6,I6,rfl,F6,G6,x6⟩:=hs;exact back I6 λs7 I7=>⟨_,H6,I7,q _ H6 F6 (G6.forget i) (x6.less (sub6 σ6))⟩
     |cont=>
      obtain⟨σ6,H6,I6,rfl,F6,G6,x6⟩:=hs;exact back I6 λs7 I7=>⟨_,H6,I7,q _ H6 F6 (G6.forget i) (x6.less (sub6 σ6))⟩
     |ret u=>
      obtain⟨v,σ6,H6,I6,rv,r,σ6',F6,rfl,G6,x6,rr⟩:=hs;exact back I6 λs7 I7=>⟨v,_,H6,I7,rv,q v _ H6 F6 (G6.forget i) (x6.less (sub6 σ6')) (ar4 rr (sub6 σ6'))⟩
   ·cases em
  ·cases em
 ·rename_i hn;refine bD (hb.go hk zv s σ H E I ⟨tg,F,ρ,fl,ρ',G,em,q⟩) (λf s1 z=>?_) λer s1 z=>by rw[hno] at z;exact z.elim
  cases f with
  |next=>exact wpAny_execs_nil z
  |ret v=>exact z
  |brk=>exact z
  |cont=>exact z
end
def okS{α:Type}(m:M α):M α:=λρ=>match m ρ with
 |some (.ok a,ρ1)=>ZZ (.ok a,ρ1)
 |_=>ZY
noncomputable def dOk(g:Sd):Sd:=λρ=>match g ρ with
 |some (.exc _,_)=>ZY
 |r=>r
@[simp] theorem a9m{α:Type}(m:M α)(ρ:Ro):okS m ρ=match m ρ with
 |some (.ok a,ρ1)=>ZZ (.ok a,ρ1)
 |_=>ZY:=rfl
@[simp] theorem a9x(g:Sd)(ρ:Ro):dOk g ρ=match g ρ with
 |some (.exc _,_)=>ZY
 |r=>r:=rfl
def aik{α:Type}{m:M α}{ρ ρ':Ro}{o:Out α}(h:okS m ρ=ZZ (o,ρ')):m ρ=ZZ (o,ρ')/\∃a,o=.ok a:=by
 unfold okS at h;split at h
 ·rename_i a ρ1 e;cases h;exact⟨e,a,rfl⟩
 ·cases h
def ax1{g:Sd}{ρ ρ':Ro}{fl:Fl}(h:dOk g ρ=ZZ (fl,ρ')):g ρ=ZZ (fl,ρ')/\∀x,fl≠.exc x:=by
 unfold dOk at h;split at h
 ·cases h
 ·rename_i hn;exact⟨h,λx e=>hn x ρ' (by rw[h,e])⟩
def gf{α:Type}{m:M α}:NoX (okS m):=λρ x ρ' h=>by
 obtain⟨_,a,e⟩:=aik h;cases e
def azy{g:Sd}:NoS (dOk g):=λρ x ρ' h=>(ax1 h).2 x rfl
section
variable{K:Fg9}{X:Cx}{e a b c:dI}{es:List dI}{pos p:Pos}{st:gK}{ss:List gK}
def SV.s{g:Sd}(h:SV K X st g):SV K X st (dOk g):=SV.mk λhk=>PS.imp (h.go hk) λE σ H ⟨tg,F,ρ,fl,ρ',G,em,q⟩=>⟨tg,F,ρ,fl,ρ',G,(ax1 em).1,q⟩
def EV.s{m:M D}(h:EV K X e m):EV K X e (okS m):=EV.mk λhk=>PE.imp (h.go hk) λσ H Q ⟨tg,F,ρ,d,ρ',G,em,q⟩=>⟨tg,F,ρ,d,ρ',G,(aik em).1,q⟩
def ER.s{m:M Rv}(h:ER K X e m):ER K X e (okS m):=ER.mk λhk=>PE.imp (h.go hk) λσ H Q ⟨tg,F,ρ,d,ρ',G,em,q⟩=>⟨tg,F,ρ,d,ρ',G,(aik em).1,q⟩
def ET.s{m:M Bool}(h:ET K X e m):ET K X e (okS m):=ET.mk λhk=>λzv s σ H Q I ⟨tg,F,ρ,d,ρ',G,em,q⟩=>h.go hk zv s σ H Q I ⟨tg,F,ρ,d,ρ',G,(aik em).1,q⟩
def EG.s{js:List (Option Nat)}{m:M (List (Option D))}(h:EG K X es js m):EG K X es js (okS m):=EG.mk λhk=>PA.imp (h.go hk) λσ H Q ⟨tg,F,ρ,d,ρ',G,em,q⟩=>⟨tg,F,ρ,d,ρ',G,(aik em).1,q⟩
def aoc{x:Exn}:SV K X st (aix x):=SV.mk λ_=>PS.imp aoj λE σ H z9=>by
 obtain⟨tg,F,ρ,fl,ρ',G,em,q⟩:=z9;cases em;exact(show False from q).elim
def acr{g:Sd}:XS K X st (dOk g):=XS.no azy
def XE.d{m:M Rv}(h:XE K X e m):XE K X e m.d:=⟨λhk hn zv s σ H tg F ρ x ρ' I G em=>by
 rcases aa9 (u6.mp em) with em |⟨_,_,_,em⟩
 ·exact h.go hk hn zv s σ H tg F ρ x ρ' I G (u6.mpr em)
 ·cases em⟩
def XE.v{m:M D}(h:XE K X e m):XE K X e m.v:=⟨λhk hn zv s σ H tg F ρ x ρ' I G em=>by
 rcases aa9 (u6.mp em) with em |⟨_,_,_,em⟩
 ·exact h.go hk hn zv s σ H tg F ρ x ρ' I G (u6.mpr em)
 ·cases em⟩
def abb{α:Type}{l:α}:XA K X [] (ret l):=XA.no λρ x ρ' h=>by cases h
def xa_v{m:M D}{js:List (Option Nat)}{ms:M (List (Option D))}(h:EV K X e m)(hx:XE K X e m)(t:XA K X es ms)(hs:Zc X e es:=by rfl):XA K X (e::es) (az m ms):=⟨λpos hk hn zv s σ H tg F ρ x ρ' I G em=>by
 rw[hs];refine qT ?_;rcases aa9 (u6.mp em) with em |⟨d,ρ1,e1,em⟩
 ·exact bD (hx.go hk hn zv s σ H tg F ρ x ρ' I G (u6.mpr em)) (λ_ _ z=>z.elim) λ_ _ z=>z
 ·rcases aa9 em with em |⟨_,_,_,em⟩
  ·refine bD (h.go hk zv s σ H (λ_ H1=>∃F1,Good K tg F1 H1 ρ1 σ/\Ext (Own ρ σ) (Own ρ1 σ) F H F1 H1) I ⟨tg,F,ρ,d,ρ1,G,e1,λv H1 F1 G1 x1 _=>⟨F1,G1,x1⟩⟩) (λu s1 ⟨v,H1,I1,_,F1,G1,x1⟩=>?_) λe s1 q=>by rw[hn] at q;exact q.elim
   exact bD (t.go pos hk hn zv s1 σ H1 tg F1 ρ1 x ρ' I1 G1 (u6.mpr em)) (λ_ _ z=>z.elim) λ_ _ z=>z.back x1
  ·cases em⟩
def xa_n{j:Nat}{ms:M (List (Option D))}(h:PE X e (tVar j))(t:XA K X es ms)(hs:Zc X e es:=by rfl):XA K X (e::es) (bw j ms):=⟨λpos hk hn zv s σ H tg F ρ x ρ' I G em=>by
 rw[hs];refine qT ?_;rcases aa9 (u6.mp em) with em1 |⟨d,ρ1,e1,em2⟩
 ·exfalso;unfold gr at em1;split at em1 <;> cases em1
 ·obtain⟨hρ,v,hv,_⟩:=ph G e1;rw[hρ] at em2;rcases aa9 em2 with em3 |⟨_,_,_,em3⟩
  ·refine bD (h zv s σ H (λ_ H1=>H1=H) I ⟨v,hv,rfl⟩) (λu s1 ⟨_,H1,I1,_,e⟩=>?_) λe s1 q=>by rw[hn] at q;exact q.elim
   subst e;exact bD (t.go pos hk hn zv s1 σ H1 tg F ρ x ρ' I1 G (u6.mpr em3)) (λ_ _ z=>z.elim) λ_ _ z=>z
  ·cases em3⟩
end
section
variable{K:Fg9}{X:Cx}{e:dI}{es:List dI}{pos p:Pos}
end
def ClsT(K:Fg9)(mg:Str->Option aG)(c:Str):Prop:=∃C,mg c=ZZ (.ref C)/\ClsOk K c C
def RaiT(K:Fg9)(mg:Str->Option aG)(c:Str):Prop:=∃C,mg c=ZZ (.ref C)/\ClsOk K c C/\oH K C bmV "ValueError.__new__"=ZX
def CatT(K:Fg9)(mg:Str->Option aG):Prop:=∃B,mg "ArrowError"=ZZ (.ref B)/\CatN K B
section
variable{K:Fg9}{X:Cx}{e:dI}{pos p np cpos hpos bp:Pos}{c:Str}
def akg(hk:X.K=K)(hcalm:X.calm=ZX)(hg:Gl X c)(h:RaiT K X.mg c)(hd:(c==("__debug__" : Str))=ZW:=by decide):XS K X (.Raise (ZZ (.Call (.Name c np) [] [] cpos)) ZY pos) (aix ⟨c,[]⟩):=by
 obtain⟨C,hm,k,q⟩:=h;subst hk;exact aq2 hcalm hg hm k q hd
def jw{ns:List Str}{m:M D}{x:Str}{pc:Pos}(sub:ai7 K ns=ZX)(h1:ns.contains c=ZX)(hgC:Gl X c)(hC:ClsT K X.mg c)(hg:Gl X x)(hm:X.mg x=ZY)(hv:bR x=ZZ (.builtin "isinstance"))(h:EB K X e m)
  (hdC:(c==("__debug__" : Str))=ZW:=by decide) (hn:x ≠ "__name__" := by decide) (hdb:Zb x:=by decide)
  (h1':aO [.Name c pc] X.env=(ZW,eval (.Name c pc) X.env)::aO [] X.env:=by rfl) (he:aO [e,.Name c pc] X.env=(ZW,eval e X.env)::aO [.Name c pc] X.env:=by rfl) (hpl:(gC pos (aO [.Name c pc] X.env)).any (·.1)=ZW:=by rfl) :
  EV K X (.Call (.Name x p) [e,.Name c pc] [] pos) (mIsC ns c m):=by
 obtain⟨C,hmC,k⟩:=hC;exact a0r sub h1 hgC hmC k.ns hg hm hv h hdC hn hdb h1' he hpl
def ays{n:Str}{i:Nat}{b₀:gK}{body suite:List gK}{ns:List Str}{gb gh:Sd}(hcalm:X.calm=ZX)(hno:X.xe=λ_ _=>False)(hfr:X.env.frame=ZZ X.env.locals)(hst:X.stack=X.env::X.outer)(hN:X.N.Nodup)(hi:X.N[i]? = ZZ n)(hk0:X.env.scope.names.lookup n=ZZ .local)
  (hgB:Gl X "ArrowError") (hB:CatT K X.mg) (sub:ai7 K ns=ZX) (hB2:ns.contains "ArrowError"=ZX) (hb:SVs K X body gb) (hx:XSs K X body gb) (hh:∀ev,SVs K (cxH X ev) (b₀::suite) gh) :
  SV K X (.Try body [.ExceptHandler (ZZ (.Name "ArrowError" bp)) (ZZ n) (b₀::suite) hpos] [] [] pos) (dTry ns gb i gh):=by
 obtain⟨B,hm,cat⟩:=hB;exact a1m hcalm hno hfr hst hN hi hk0 hgB hm cat sub hB2 hb hx hh
end
@[simp] theorem a4t(x:Exn)(ρ:Ro):aix x ρ=ZZ (.exc x,ρ):=rfl
def a0p(K:Fg9)(C:aQ):Bool:=(gY K (.ref C) "__getattribute__" == ZZ (ZZ (.builtin "BaseException.__getattribute__")))&&(gY K (.ref C) "__getattr__" == ZZ ZY)&&(lD K C (.type "BaseException")==ZZ ZX)&&gR K C&&(gY K (.ref C) "__class__" == ZZ (ZZ (.builtin "object.__class__")))&&(lQ K (.builtin "object.__class__") "__get__" == ZZ (ZZ (.builtin "getset_descriptor.__get__"))) &&
 (pD K (.builtin "object.__class__")==ZZ ZX)&&(lD K C (.type "object")==ZZ ZX)&&["int","bool","tuple","list","str","dict"].all λT=>gM K (.ref C) (.type T)==ZZ ZW
def awx{K:Fg9}{C:aQ}(h:a0p K C=ZX):ExcK K C:=by
 unfold a0p at h;simp only[bB,beq_iff_eq] at h;obtain⟨⟨⟨⟨⟨⟨⟨⟨h0,h1⟩,h8⟩,h2⟩,h3⟩,h4⟩,h5⟩,h6⟩,h7⟩:=h;exact⟨h0,h1,h8,h2,h3,h4,h5,h6,λT hT=>beq_iff_eq.mp (cR.mp h7 T hT)⟩
def apc(K:Fg9)(ns:List Str):Bool:=ns.all λc=>match clsAt K c with
 |some C=>a0p K C
 |none=>ZW
def axf(K:Fg9)(ns:List Str):Bool:=ns.all λc=>match clsAt K c with
 |some C=>oH K C bmV "ValueError.__new__"
 |none=>ZW
def catB(K:Fg9):Bool:=match clsAt K "ArrowError" with
 |some B=>gR K B&&(nM K (.ref B)==ZZ (.type "type"))&&(gM K (.ref B) (.type "BaseException")==ZZ ZX)&&(gM K (.ref B) (.ref B)==ZZ ZX)
 |none=>ZW
def af9{K:Fg9}{c:Str}{C:aQ}(h:clsAt K c=ZZ C):nsIn K aV c=ZZ (ZZ (.ref C)):=by
 unfold clsAt at h;split at h
 ·rename_i C' e;cases h;exact e
 ·cases h
section
variable{K:Fg9}{h:eE}{mg:Str->Option aG}{ns:List Str}{c:Str}
def ur(X:K.In h)(G:h.Ns aV mg)(e:apc K ns=ZX)(hc:ns.contains c=ZX):ClsT K mg c:=by
 have z:=cR.mp e c (cO.mp hc);split at z
 ·rename_i C q;exact⟨C,mg_of X G (af9 q),af9 q,awx z⟩
 ·cases z
def abr{rs:List Str}(X:K.In h)(G:h.Ns aV mg)(e:apc K ns=ZX)(hc:ns.contains c=ZX)(e2:axf K rs=ZX)(hr:rs.contains c=ZX):RaiT K mg c:=by
 obtain⟨C,h1,h2⟩:=ur X G e hc;have z:=cR.mp e2 c (cO.mp hr);rw[aep h2.ns] at z;exact⟨C,h1,h2,z⟩
def a01(X:K.In h)(G:h.Ns aV mg)(e:catB K=ZX):CatT K mg:=by
 unfold catB at e;split at e
 ·rename_i B q;simp only[bB,beq_iff_eq] at e;obtain⟨⟨⟨h1,h2⟩,h3⟩,h4⟩:=e;obtain⟨cd,hc,_⟩:=jD h1;exact⟨B,mg_of X G (af9 q),⟨by rw[hc];rfl,h2,h3⟩,af9 q,h4⟩
 ·cases e
end
end Dn
namespace Mn
open L2
section
variable{X:Cx}
def a1l:TE:=λ_ H Q=>∀p,H p=ZY->Q (.ref p) (upd H p (.dK []))
def avy{pos:Pos}:PE X (.Dict [] [] pos) a1l:=by
 intro zv s σ H Q I q;have big:sysModules<s.heap.objs.size:=by
  have h:aV<s.heap.objs.size:=(I.mod.glob.keeps I.bk).lt;exact mZ (by decide) h
 have hn:=I.hok.fresh (aP s.heap.objs.size);refine wpAny_Dict_empty ⟨.ref s.heap.objs.size,upd H s.heap.objs.size (.dK []),?_,rfl,q _ hn⟩;refine I.laid (t':=s.toks) (λb u e=>aB _ e) (aP _) ?_
 exact⟨Nat.zero_le _,beq_eq_false_iff_ne.mpr (gG (bI big)),[],.nil,Heap.DictOf.new s.heap⟩
end
end Mn
namespace Dn
open L2 Mn
section
variable{K:Fg9}{X:Cx}{a b:dI}{pos p p2:Pos}
def ao7:EV K X (.Dict [] [] pos) (ret (.dct [])):=EV.mk λ_=>PE.imp avy λσ H Q z9=>by
 obtain⟨tg,F,ρ,d,ρ',G,em,q⟩:=z9;obtain⟨rfl,rfl⟩:=j6 em;exact λp hp=>q _ _ _ (G.new hp _) (G.newX hp _) (.dct gk .nil)
end
end Dn
namespace Mn
open L2
section
variable{prog:bT}{w:dB}{A:cQ}{E:aG->aJ->Prop}{h:eE}{g:Array GenState}{d:Drawn}{t:Nat}{os:OsState}
variable{nm q:Str}{C N:aQ}{bs bm bmB:List aG}{hdct:Bool}{sn:List Str}{sub:List aG}{ab:Bool}{col:Option Bool}{dd:Option aQ}{k0 k1 k2 k3 k5:Option aG}{B Bn newId nid initId inN:String}{bmN:List aG}
def agb(Fn:ExcBaseFacts Bn newId inN bmN)(hBn:bmB.contains (.type Bn)=ZX)(F:ExcBaseFacts B nid initId bmB)(T:OwnTail h bmB bm){mN:Str->Option aG}{rest:List aG}{fI:aQ}{oI:Obj}{Q:Fin->aJ->Prop}
  (hC:h.get? C=ZZ (excClassObj nm q C N bs bm hdct sn sub ab col dd k0 k1 k2 k3 k5 newId)) (hn:h.Ns N mN) (hi:mN "__init__"=ZZ (.ref fI)) (hfI:h.get? fI=ZZ oI) (hfc:oI.cls=.type "function")
  (hq:∀h' e,tV h h' e (.ref C) rest->bG (bL prog w) A (call (.ref fI) (.ref e::rest)) (λr s'=>r=.none/\Q (.done (.ret (.ref e))) s') E ⟨h',g,d,t,os⟩) (hrest:rest.length<=cJ:=by size_fits) :
  bG (bL prog w) A (iM.«type.__call__» ⟨.ref C::rest,[]⟩) Q E ⟨h,g,d,t,os⟩:=by
 repeat (first |with_reducible refine wpAny_loadPart_at hC ?_ |with_reducible refine wpAny_madeBy_exc hC ?_ |wp_step)
 refine codeAny_call_builtin_code (wG _ Fn.quiet) (wpAny_check_new_subU Fn hBn T hC ?_);refine codeAny_exc_new_subU Fn hBn F T hC ?_ hrest;show bG _ _ _ _ _ _
 let o1:Obj:={ cls:=.type "tuple", data:=.seq rest.toArray }
 let o2:Obj:={ cls:=.ref C,data:=.fields #[.ref h.objs.size,.none,.none,.none,.bool ZW,.none] }
 have keep:∀b o,h.get? b=ZZ o->((h.push o1).push o2).get? b=ZZ o:=λb o e=>aB _ (aB _ e)
 have hC1:=keep _ _ hC;have hf1:=keep _ _ hfI;have hn1:((h.push o1).push o2).Ns N mN:=let ⟨o,es,ep,e,r⟩:=hn;⟨o,es,ep,keep _ _ e,r⟩
 have hget:((h.push o1).push o2).get? (h.objs.size+1)=ZZ o2:=by heap_get
 have hcC:(cH C::bm).contains (.ref C)=ZX:=by simp
 have T1:=T.keeps (h':=(h.push o1).push o2) keep;unfold isInstance
 repeat (first |with_reducible refine wpAny_loadPart_at hget ?_ | (with_reducible refine wpAny_isSubtype_exc hC1 ?_;rw[hcC]) |wp_step)
 show bG _ _ (typeLookup (.ref C) _) _ _ _;refine wpAny_typeLookup_tail hC1 hn1 T1 F.mroIs F.init.lookup ?_;rw[hi];refine eG (aA ?_);unfold bindSpecial;refine aA (wpAny_typeOf (T := "function") ⟨_,hf1,hfc⟩ ?_);rw[if_pos (by decide)]
 refine aH (aA (bD (hq _ (h.objs.size+1) ⟨keep,iQ (kO _),h.objs.size,hget,iQ (aP _),?_⟩) (λr s' hr=>?_) λ_ _ x=>x))
 ·exact aB _ (xG rfl rfl)
 ·obtain⟨rfl,hQ⟩:=hr;wp_walk;exact hQ
def aqn(Fn:ExcBaseFacts Bn newId inN bmN)(hBn:bmB.contains (.type Bn)=ZX)(F:ExcBaseFacts B nid initId bmB)(T:OwnTail h bmB bm){mN:Str->Option aG}{rest:List aG}{fI:aQ}{oI:Obj}{Q:aG->aJ->Prop}
  (hC:h.get? C=ZZ (excClassObj nm q C N bs bm hdct sn sub ab col dd k0 k1 k2 k3 k5 newId)) (hn:h.Ns N mN) (hi:mN "__init__"=ZZ (.ref fI)) (hfI:h.get? fI=ZZ oI) (hfc:oI.cls=.type "function")
  (hq:∀h' e,tV h h' e (.ref C) rest->bG (bL prog w) (A.under (.builtin "type.__call__" ⟨.ref C::rest,[]⟩)) (call (.ref fI) (.ref e::rest)) (λr s'=>r=.none/\Q (.ref e) s') E ⟨h',g,d,t,os⟩) (hrest:rest.length<=cJ:=by size_fits) :
  bG (bL prog w) A (call (.ref C) rest) Q E ⟨h,g,d,t,os⟩:=by
 have f1:=tc_lookup;have f2:=tc_bind (.ref C);have hT:(⟨h,g,d,t,os⟩:aJ).TypeIs (.ref C) "type" := ⟨_,hC,rfl⟩;refine lO (codeAny_of_tree ?_);show bG _ _ (callAny (.ref C) _) _ _ _
 repeat (any_goals (first |assumption |with_reducible refine wpAny_loadPart_at hC ?_ |wp_step))
 refine⟨rfl,?_⟩;exact codeAny_call_builtin_at (wG _ (by decide +kernel)) entry_typeCall (wpAny_check_type_call_sub hC (agb (hrest:=hrest) Fn hBn F T hC hn hi hfI hfc λh' e hm=>hq h' e hm))
end
end Mn
namespace Dn
open L2 Mn
noncomputable def refB:aG->Bool
 |.ref _=>ZX
 |_=>ZW
def ahe(K:Fg9)(C:aQ):Bool:=(lE K C).any λcd=>cd.mro.dropWhile refB==bmV
theorem aih(self:aG):∀{l:List aG},l.dropWhile refB=bmV->refuseLoop self "__setattr__" l=pure ()
 |.ref c::r,e=>by rw[refuseLoop_ref];exact aih self (by simpa[yU,refB] using e)
 | [],e=>by cases e
 |.type n::r,e=>by
  have:(jG n::r)=bmV:=by simpa[yU,refB] using e
  rw[this];exact PySem.F.store_ValueError.passes self
 |.none::r,e=>nomatch (show(cM::r:List aG)=bmV from e)
 |.ellipsis::r,e=>nomatch (show(Value.ellipsis::r:List aG)=bmV from e)
 |.notImplemented::r,e=>nomatch (show(uW::r:List aG)=bmV from e)
 |.bool b::r,e=>nomatch (show(pU b::r:List aG)=bmV from e)
 |.int i t::r,e=>nomatch (show(mK i t::r:List aG)=bmV from e)
 |.float b t::r,e=>nomatch (show(rZ b t::r:List aG)=bmV from e)
 |.str x t::r,e=>nomatch (show(rY x t::r:List aG)=bmV from e)
 |.bytes b t::r,e=>nomatch (show(vH b t::r:List aG)=bmV from e)
 |.builtin i::r,e=>nomatch (show(mG i::r:List aG)=bmV from e)
section
variable{prog:bT}{w:dB}{A:cQ}{E:aG->aJ->Prop}{s:aJ}{K:Fg9}{x C:aQ}{ox:Obj}{od:Option Obj}{name:Str}{v:aG}
def azp{tk:Tok}{R:Result->aJ->Prop}(X:K.In s.heap)(I:gQ s.heap x ox C od)(hp:ahe K C=ZX)(hob:lD K C (.type "object")=ZZ ZX)(ht:iU K C name=ZZ ZY)
  (h:∀b,bG (bL prog w) A.in1 (Builtin.ObjectAttr.storeInOwnDict (.ref x) (.ref C) (.str name tk) name v b)
   (λfin s'=>match fin with |.done f=>R (.ok f) s' |.again c'=>c'.quiet=ZX/\mJ (bL prog w) A c' R s') (λe s'=>R (.error e) s') s) :
  mJ (bL prog w) A (.call (.builtin "object.__setattr__") ⟨[.ref x,.str name tk,v],[]⟩) R s:=by
 have SF:=PySem.F.store_object;obtain⟨cd,hc,ho⟩:=jD hp;have ho:=beq_iff_eq.mp ho;have sub:jR (bL prog w) s.heap (isInstance (.ref x) (.type "object")) ZX:=I.type.andThen (vJ X hob);refine codeAny_call_builtin SF.slot.plain SF.entry (@vZ (bL prog w) _ _ s "object.__setattr__" "object" "__setattr__" (.ref x) [.str name tk,v] [] _ SF.kind SF.split sub (SF.args (.ref x) (.str name tk) v) ?_);obtain⟨attr,ha,hr⟩:=jB.mp ht;have hm:jR (bL prog w) s.heap (mroOf (.ref C)) cd.mro:=(qF X hc).andThen .now;have L3:jR (bL prog w) s.heap (Builtin.ObjectAttr.storeTaker? attr) ZY:=by
  cases attr with
  |none=>exact .now
  |some a=>
   obtain⟨b,hb,hz⟩:=cB.mp hr;refine(PySem.W.looks_takesIn X hb).andThen ?_;cases b with
   |true=>cases hz
   |false=>exact .now
 rw[PySem.W.osa_eq,refuse_eq];refine aA (aA (I.type.here (aA (hm.here ?_))));rw[aih _ ho];refine aH (aA (I.type.here (aA ((mC X ha).here (aA (L3.here ?_))))));exact h _
def amy{vs:Array aG}{Q:Unit->aJ->Prop}(X:K.In s.heap)(I:gQ s.heap x ox C ZY)(hx:s.heap.get? x=ZZ ox)(hc:ox.cls=.ref C)(hdn:ox.dict=ZY)(hdt:ox.data=.fields vs)
  (hs:gY K (.ref C) "__setattr__"=ZZ (ZZ (.builtin "object.__setattr__"))) (hp:ahe K C=ZX) (hob:lD K C (.type "object")=ZZ ZX) (ht:iU K C name=ZZ ZY) (hh:gR K C=ZX)
  (h:∀h' tk',h'.get? x=ZZ { ox with dict:=ZZ s.heap.objs.size }->h'.Ns1 s.heap.objs.size (λy=>if y=name then ZZ v else ZY)->(∀b o,b≠x->s.heap.get? b=ZZ o->h'.get? b=ZZ o)->Q () { s with heap:=h',toks:=tk' }) :
  bG (bL prog w) A (setAttr (.ref x) name v) Q E s:=by
 obtain⟨oc,odict,odata,osl⟩:=ox;simp only at hc hdn hdt;subst hc hdn hdt;refine wM X I hs (azp (s:={ s with toks:=s.toks+1 }) X I hp hob ht λb=>?_)
 obtain⟨cd,hcd,hd'⟩:=jD hh;have hxs:x≠s.heap.objs.size:=bI (aN hx);refine aA (aH (aA (aA (wpAny_loadPart hx (aA (wA (s:={ s with toks:=s.toks+1 }) (qF X hcd) ?_))))))
 rw[hd']
 let o0:Obj:={ cls:=.type "dict", data:=.dict #[] }
 have hx1:(s.heap.push o0).get? x=ZZ ⟨.ref C,ZY,.fields vs,osl⟩:=aB _ hx;have hgd:((s.heap.push o0).update x λo=>{ cls:=o.cls,dict:=ZZ s.heap.objs.size,data:=o.data,slots:=o.slots }).get? s.heap.objs.size=ZZ o0:=(vQ _ _ _ _ hxs.symm).trans (xG rfl rfl)
 have hnd:((s.heap.push o0).update x λo=>{ cls:=o.cls,dict:=ZZ s.heap.objs.size,data:=o.data,slots:=o.slots }).Ns s.heap.objs.size (λ_=>ZY):=⟨_,#[],_,hgd,rfl,λe he=>absurd he (by simp),λ_=>rfl⟩
 refine aA (wpAny_alloc' (aA (wpAny_update' hx1 (aH ?_))));show bG _ _ (rJ s.heap.objs.size (.str name _) name v) _ _ _;unfold rJ Builtin.ObjectAttr.newKeyGuard;refine aA (aH (aA (wpAny_nsSet1 (xJ hnd) λh' hn' hs'=>?_)))
 obtain⟨oD,esD,epD,hoD,hdD,hcD⟩:=hn'.count (Within.cons name v Within.nil);refine aA (wpAny_lookBehind hoD (by rw[hdD];exact pastItsLine_dict (cW hcD (by rw[bF,lH,gF];omega))) (aH ?_))
 refine h h' _ ((hs'.2 x hxs).trans (bM _ hx1 rfl)) hn' λb o hb e=>(hs'.2 b (bI (aN e))).trans ((vQ _ _ _ _ hb).trans (aB _ e))
end
def exV(a C:aQ)(dx:Option aQ)(vs:Array aG):eE->Prop:=λh=>∃oe,h.get? a=ZZ oe/\oe.cls=.ref C/\oe.dict=dx/\oe.data=.fields vs
section
variable{vs:Array aG}{X:Cx}{zv:List (aQ×Obj)}{σ:L2.St}{H:Hp}{s:aJ}{A:cQ}{E:aG->aJ->Prop}{a C:aQ}{f:Str}
def arp{y:V}{u:aG}{Q:Unit->aJ->Prop}(I:Inv X zv σ H s)(e:H a=ZZ (.ext (exV a C ZY vs)))(k:ExcK X.K C)(hs:gY X.K (.ref C) "__setattr__"=ZZ (ZZ (.builtin "object.__setattr__")))(hp:ahe X.K C=ZX)(ht:iU X.K C f=ZZ ZY)(ry:RelV y u)
  (h:∀d s',H d=ZY->Inv X zv σ (upd (upd H a (.ext (exV a C (ZZ d) vs))) d (.xd [(f,y)])) s'->Q () s'):bG (bL X.prog X.w) A (setAttr (.ref a) f u) Q E s:=by
 obtain⟨⟨oe,he,hc,hdn,hdt⟩,_,_⟩:=I.hok _ _ e;refine amy I.kIn ⟨he,hc,by unfold lU;rw[hdt],by rw[hdn];trivial⟩ he hc hdn hdt hs hp k.ob ht k.hd λh' tk' e1 e2 e3=>?_
 have hd:H s.heap.objs.size=ZY:=I.hok.fresh (aP _);have hda:s.heap.objs.size≠a:=fL (aN he);have I2:=I.write (x:=a) (e:=a) (o:=.ext (exV a C (ZZ s.heap.objs.size) vs)) (t':=tk') (h':=h') (by rw[e];trivial) (.inl rfl) (λb u hb q=>e3 b u hb q) ⟨_,e1⟩ ⟨⟨_,e1,hc,rfl,hdt⟩,⟨_,e1⟩,λh1 h2 p q=>by obtain⟨oe,z1,z2⟩:=p;exact⟨oe,q _ z1,z2⟩⟩
 have fp:FpX X zv (upd H a (.ext (exV a C (ZZ s.heap.objs.size) vs))) s.heap.objs.size:=wc I (iQ (aP _)) (by rw[b7 hda];exact hd)
 refine h s.heap.objs.size _ hd (we I2 fp ⟨_,e2,λg=>?_⟩)
 by_cases q:g=f
 ·subst q;have e1:[(g,y)].lookup g=ZZ y:=by simp[bK]
  rw[e1];show RelO (ZZ y) (if g=g then ZZ u else ZY)
  rw[if_pos rfl];exact ry
 ·have:(g==f)=ZW:=beq_eq_false_iff_ne.mpr q;simp[bK,this,q,RelO]
structure FldK (K:Fg9) (C:aQ) (f:Str):Prop where
 k:ExcK K C
 sa:gY K (.ref C) "__setattr__"=ZZ (ZZ (.builtin "object.__setattr__"))
 ov:ahe K C=ZX
 tk:iU K C f=ZZ ZY
def a1t(C:aQ)(vs:Array aG)(ta tv:TE)(f:Str):TS:=λD σ H=>tv σ H λy H1=>ta σ H1 λx H2=>∃a,x=.ref a/\H2 a=ZZ (.ext (exV a C ZY vs))/\∀d,H2 d=ZY->D.nx σ (upd (upd H2 a (.ext (exV a C (ZZ d) vs))) d (.xd [(f,y)]))
def ay5{o value:dI}{ta tv:TE}{pos pos':Pos}(k:FldK X.K C f)(ha:PE X o ta)(hv:PE X value tv)(hs:iR value (ZZ (.Attribute o f pos')) pos.line X.env=pure ZW):PS X (.Assign [.Attribute o f pos'] value pos) (a1t C vs ta tv f):=by
 intro zv s σ H D I h;refine plainObj_wpAny_Assign_Attribute (thn (hv zv s σ H _ I h) λu s1 ⟨y,H1,I1,ry,q⟩=>thn (ha zv s1 σ H1 _ I1 q) λov s2 z9=>?_) hs
 obtain⟨x,H2,I2,rx,a,ex,ea,q2⟩:=z9;subst ex;obtain rfl:ov=cH a:=rx;exact arp I2 ea k.k k.sa k.ov k.tk ry λd s3 hd I3=>⟨σ,_,I3,q2 d hd⟩
def spI(C:aQ)(vs:Array aG)(f:Str):Sp:=λus H Q _=>∃a i,us=[.ref a,.int i]/\H a=ZZ (.ext (exV a C ZY vs))/\∀d,H d=ZY->Q .non (upd (upd H a (.ext (exV a C (ZZ d) vs))) d (.xd [(f,.int i)]))
def a0m{K:Fg9}{P:bT}{w:dB}{mg:Str->Option aG}{base:eE}{x qual:Str}{st:gK}{fa:aQ}{fd:eQ}{k:Nat}{p1 p2 p3 p4:Pos}(F:Fun K x qual st fa fd)(S:FnScope ["self", f] ["self", f] (ao st))(hf:FldK K C f)
  (hb:jc st=[.Assign [.Attribute (.Name "self" p1) f p2] (.Name f p3) p4]) (h1:(f==("__debug__" : Str))=ZW) (h2:(f==("__classdict__" : Str))=ZW)
  (hs:∀env,iR (.Name f p3) (ZZ (.Attribute (.Name "self" p1) f p2)) p4.line env=pure ZW) (hv1:Vis (ao st) "self") (hv2:Vis (ao st) f) :
  FnOk P w K mg base CX0 (k+1) fa fd ["self", f] (spI C vs f):=by
 refine F.ok S (λus H Q E h=>?_) λcdv A outer s H us Q E hr h=>⟨a1t C vs (tVar 0) (tVar 1) f,?_,?_⟩
 ·obtain⟨a,i,rfl,_⟩:=h;rfl
 ·rw[hb];exact ar7 (ay5 hf (pv 0 rfl hv1) (pv 1 rfl hv2 h1 h2) (hs _))
 ·obtain⟨a,i,rfl,e,q⟩:=h;exact⟨_,rfl,_,rfl,a,rfl,e,λd hd=>q d hd⟩
end
end Dn
namespace Mn
open L2
section
variable{M:vL}{A:cQ}{E:aG->aJ->Prop}{env:Env}
variable{nm q:Str}{C N:aQ}{bs bm:List aG}{hdct:Bool}{sn:List Str}{sub:List aG}{ab:Bool}{col:Option Bool}{dd:Option aQ}{k0 k1 k2 k3 k5:Option aG}{newId:String}
def aii{s:aJ}{x:Sem aG}{Q:Flow->aJ->Prop}(hbase:bm.contains (.type "BaseException")=ZX)(hh:A.handled=ZY)
  (h:bG M A x (λv s₁=>∃e oe vs,v=.ref e/\s₁.heap.get? C=ZZ (excClassObj nm q C N bs bm hdct sn sub ab col dd k0 k1 k2 k3 k5 newId)/\s₁.heap.get? e=ZZ oe/\oe.cls=.ref C/\oe.data=.fields vs/\vs[1]? = ZZ .none/\E (.ref e) s₁) E s) :
  bG M A (raiseStmt env (ZZ x) ZY) Q E s:=by
 have hcB:(cH C::bm).contains (.type "BaseException")=ZX:=by rw[List.contains_cons,hbase,Bool.or_true]
 unfold raiseStmt;refine aA (bD h (λv s₁ h₁=>?_) λ_ _ x=>x)
 obtain⟨e,⟨oc,od,odt,osl⟩,vs,rfl,hC,he,hc,hd,h1,hE⟩:=h₁;simp only at hc hd;subst hc hd;obtain⟨hp,g,d,tk,os⟩:=s₁
 repeat (first |with_reducible refine wpAny_loadPart_at he ?_ |with_reducible refine wpAny_loadPart_at hC ?_ | (with_reducible refine wpAny_isSubtype_exc hC ?_;rw[hcB]) |wp_step)
 rw[h1];exact aH (aH (wpAny_raiseNew_none hh hE))
end
section
variable{prog:bT}{w:dB}{A:cQ}{E:aG->aJ->Prop}{s:aJ}{env:Env}
variable{nm q:Str}{C N:aQ}{bs bm bmB:List aG}{hdct:Bool}{sn:List Str}{sub:List aG}{ab:Bool}{col:Option Bool}{dd:Option aQ}{k0 k1 k2 k3 k5:Option aG}{B Bn newId nid initId inN:String}{bmN:List aG}
def am4(Fn:ExcBaseFacts Bn newId inN bmN)(hBn:bmB.contains (.type Bn)=ZX)(F:ExcBaseFacts B nid initId bmB){x:Str}{np cpos pos:Pos}{args:List dI}{Q:Flow->aJ->Prop}{fI:aQ}
  (hbase:bm.contains (.type "BaseException")=ZX) (hh:A.handled=ZY) (hplain:(gC cpos (aO args env)).any (·.1)=ZW)
  (h:bG (bL prog w) A (eval (.Name x np) env) (λf s₁=>f=.ref C/\bG (bL prog w) A (evalArgs (.ref C) ZX (gC cpos (aO args env)) [])
   (λa s₂=>a.kw=[]/\a.pos.length<=cJ/\s₂.heap.get? C=ZZ (excClassObj nm q C N bs bm hdct sn sub ab col dd k0 k1 k2 k3 k5 newId)/\(∃mN,s₂.heap.Ns N mN/\mN "__init__"=ZZ (.ref fI))/\OwnTail s₂.heap bmB bm/\(∃oI,s₂.heap.get? fI=ZZ oI/\oI.cls=.type "function") /\
    ∀h' e,tV s₂.heap h' e (.ref C) a.pos->bG (bL prog w) (A.under (.builtin "type.__call__" ⟨.ref C::a.pos,[]⟩)) (call (.ref fI) (.ref e::a.pos))
     (λr s'=>r=.none/\s'.heap.get? C=ZZ (excClassObj nm q C N bs bm hdct sn sub ab col dd k0 k1 k2 k3 k5 newId)/\∃oe vs,s'.heap.get? e=ZZ oe/\oe.cls=.ref C/\oe.data=.fields vs/\vs[1]? = ZZ .none/\E (.ref e) s') E { s₂ with heap:=h' }) E s₁) E s) :
  bG (bL prog w) A (exec (.Raise (ZZ (.Call (.Name x np) args [] cpos)) ZY pos) env) Q E s:=by
 rw[arm_exec_Raise]
 first
  |refine aA (iZ (aii (C:=C) (nm:=nm) (q:=q) (N:=N) (bs:=bs) (bm:=bm) (hdct:=hdct) (sn:=sn) (sub:=sub) (ab:=ab) (col:=col) (dd:=dd) (k0:=k0) (k1:=k1) (k2:=k2) (k3:=k3) (k5:=k5) (newId:=newId) hbase hh (aA (bD (wpAny_Call_ofName (bD h (λf s₁ h₁=>?_) λ_ _ x=>x)) (λv s₃ h₃=>aA (iZ (aH h₃))) λ_ _ x=>x))))
  | (simp only[evalOpt,Option.map];refine aA (iZ (aii (C:=C) (nm:=nm) (q:=q) (N:=N) (bs:=bs) (bm:=bm) (hdct:=hdct) (sn:=sn) (sub:=sub) (ab:=ab) (col:=col) (dd:=dd) (k0:=k0) (k1:=k1) (k2:=k2) (k3:=k3) (k5:=k5) (newId:=newId) hbase hh (aA (bD (wpAny_Call_ofName (bD h (λf s₁ h₁=>?_) λ_ _ x=>x)) (λv s₃ h₃=>aA (iZ (aH h₃))) λ_ _ x=>x)))))
 obtain⟨rfl,h₁⟩:=h₁;unfold callWith;refine aA (eG (bD h₁ (λa s₂ h₂=>aA (iZ ?_)) λ_ _ x=>x))
 obtain⟨apos,akw⟩:=a;obtain⟨hkw,hlen,hC,⟨mN,hn,hi⟩,T,⟨oI,hfI,hfc⟩,h₂⟩:=h₂;obtain rfl:akw=[]:=hkw;obtain⟨hp,g,d,tk,os⟩:=s₂;simp only[hplain];refine aA (wpAny_keeperOf_exc hC ?_);refine aA (aqn (hrest:=hlen) Fn hBn F T hC hn hi hfI hfc λh' e hm=>bD (h₂ h' e hm) (λr s' ⟨hr,hC',oe,vs,he,hc,hd,h1,hE⟩=>⟨hr,aA (eG (wpAny_point (aH ?_)))⟩) λ_ _ z=>z)
 exact⟨e,oe,vs,rfl,hC',he,hc,hd,h1,hE⟩
end
end Mn
namespace Dn
open L2 Mn
def af1{H:Hp}{a b:aQ}{o:HO}(h:upd H a o b=ZY):H b=ZY:=by
 by_cases z:b=a
 ·rw[z,gk] at h;cases h
 ·rw[b7 z] at h;exact h
def adu{H:Hp}{a b:aQ}{φ:eE->Prop}{u:HO}(h:upd H a (.ext φ) b=ZZ u)(hu:∀ψ,u≠.ext ψ):H b=ZZ u:=by
 by_cases z:b=a
 ·rw[z,gk] at h;cases h;exact absurd rfl (hu φ)
 ·rw[b7 z] at h;exact h
def ve{X:Cx}{zv:List (aQ×Obj)}{σ:L2.St}{H:Hp}{s:aJ}{a:aQ}{φ:eE->Prop}(I:L2.Inv X zv σ (upd H a (.ext φ)) s)(hn:H a=ZY):L2.Inv X zv σ H s :=
 ⟨I.ok,I.os,I.bare,⟨I.base.keep,I.base.slot,λb o e n hx=>af1 (I.base.free b o e n hx),I.base.there,λb xs q=>adu (I.base.tups b xs q) (λ_ z=>by cases z),λb ob u q=>adu (I.base.frzs b ob u q) (λ_ z=>by cases z),λb ps q=>let ⟨more,h⟩:=I.base.tbls b ps q;⟨more,adu h (λ_ z=>by cases z)⟩⟩,
  I.loc,I.cell,af1 I.free,λx c e=>af1 (I.freeC x c e),λp hp=>let ⟨h1,h2,h3⟩:=I.pin p hp;⟨h1,af1 h2,h3⟩,λb u e=>by
   have hb:b≠a:=λz=>by rw[z,hn] at e;cases e
   exact(I.hok b u (by rw[b7 hb];exact e)).stay (λc v _ q=>q) (λc q=>adu q (λ_ z=>by cases z)) λc xs q=>adu q (λ_ z=>by cases z),I.len⟩
def al1(K:Fg9)(C fI:aQ):Bool:=match K.lookup C with
 |some ⟨.type "type", _,.cls cd,sl⟩=>(match cd.mro,sl.toList with
  |.ref C'::bm,[_,_,_,_,ZZ (.builtin n),_]=>C'==C&&n == "ValueError.__new__" && !cd.hasDel&&PySem.W.tailIn K bmV bm&&PySem.W.nsOkIn K cd.ns&&nsIn K cd.ns "__init__" == ZZ (ZZ (.ref fI))&&nM K (.ref fI)==ZZ (.type "function")
  |_,_=>ZW)
 |_=>ZW
def azw{K:Fg9}{h:eE}{N:aQ}{mg:Str->Option aG}{n:Str}{v:aG}(X:K.In h)(G:h.Ns N mg)(e:nsIn K N n=ZZ (ZZ v)):mg n=ZZ v:=by
 obtain⟨o,es,ep,ho,hd,_,hf⟩:=G;unfold nsIn at e;split at e
 ·rename_i c d es' n' sl q;have:=X _ _ q;rw[ho] at this;cases this;cases hd;split at e
  ·rename_i en he;cases e;rw[<-hf];unfold nsFind findBy;rw[<-wH,he];rfl
  ·split at e <;> cases e
 ·cases e
def awv{K:Fg9}{C fI:aQ}(q:al1 K C fI=ZX) :
  ∃bm N nm qn bs hdct sn sub ab col dd k0 k1 k2 k3 k5,∀h:eE,K.In h->h.get? C=ZZ (excClassObj nm qn C N bs bm hdct sn sub ab col dd k0 k1 k2 k3 k5 "ValueError.__new__")/\(∃mN,h.Ns N mN/\mN "__init__"=ZZ (.ref fI))/\OwnTail h bmV bm/\∃oI,h.get? fI=ZZ oI/\oI.cls=.type "function" := by
 unfold al1 at q;split at q
 ·rename_i dd cd sl ho;split at q
  ·rename_i C' bm k0 k1 k2 k3 n k5 hm hs;simp only[bB,beq_iff_eq,xP] at q;obtain⟨⟨⟨⟨⟨⟨e1,e2⟩,e3⟩,e4⟩,e5⟩,e6⟩,e7⟩:=q;subst e1 e2;obtain⟨nm,bs,mro,ns,qn,hd,sn,sub,ab,col,del⟩:=cd;have hm:mro=_:=hm;have e3:del=ZW:=e3;subst hm e3;have z:sl = #[k0,k1,k2,k3,ZZ (.builtin "ValueError.__new__"),k5]:=yE.mp hs;subst z;refine⟨bm,ns,nm,qn,bs,hd,sn,sub,ab,col,dd,k0,k1,k2,k3,k5,λh X=>⟨X _ _ ho,⟨h.nsMap ns,.of_isNs (qI X e5),?_⟩,vW X e4,?_⟩⟩
   ·exact azw X (.of_isNs (qI X e5)) e6
   ·obtain⟨o,ho2,hc2⟩:=cB.mp e7;exact⟨o,X _ _ ho2,hc2⟩
  ·cases q
 ·cases q
def ab6(c f:Str)(m:M D):Sd:=dM m λd ρ=>match d with
 |.int i=>ZZ (.exc ⟨c,[(f,i)]⟩,ρ)
 |_=>ZY
section
variable{K:Fg9}{X:Cx}{c f:Str}{C fI:aQ}{fd:eQ}{kk:Nat}{e1:dI}{m:M D}{np cpos pos:Pos}
def aq1(hcalm:X.calm=ZX)(hg:Gl X c)(hm:X.mg c=ZZ (.ref C))(k:ClsOk X.K c C)(qq:al1 X.K C fI=ZX)(Fi:∀vs,FnOk X.prog X.w X.K X.mg X.base CX0 kk fI fd ["self", f] (spI C vs f))(hb:∀s us,us.length=2->oR s fd ⟨us,[]⟩ ((["self", f]:List Str).zip us))
  (hr:Room (kk+1) X.A) (h:EV K X e1 m) (hn:NoX m) (hs:aO [e1] X.env=(ZW,eval e1 X.env)::aO [] X.env:=by rfl) (hd:(c==("__debug__" : Str))=ZW:=by decide) :
  XS K X (.Raise (ZZ (.Call (.Name c np) [e1] [] cpos)) ZY pos) (ab6 c f m):=⟨λhk hnx zv s σ H tg F ρ x ρ' I G em=>by
 have em:=uc.mp em;unfold ab6 dM at em;split at em
 ·rename_i d ρ1 em1;dsimp only at em;split at em
  ·rename_i i;cases em;have h:=h hk;subst hk;obtain⟨bm,N,nm,qn,bs,hdct,sn,sub,ab,col,dd,k0,k1,k2,k3,k5,hobj⟩:=awv qq;have T0:=(hobj _ I.kIn).2.2.1;refine am4 (C:=C) (nm:=nm) (q:=qn) (N:=N) (bs:=bs) (bm:=bm) (hdct:=hdct) (sn:=sn) (sub:=sub) (ab:=ab) (col:=col) (dd:=dd) (k0:=k0) (k1:=k1) (k2:=k2) (k3:=k3) (k5:=k5) (fI:=fI)
    fZ (by decide +kernel) fZ (T0.hasType fZ.hasBase) (I.ok.hd hcalm) (by rw[hs];rfl) ?_
   refine abx I hg hm ⟨rfl,?_⟩ hd;have pa:=sy h ad6 hs cpos zv s σ H (λvs H1=>∃F1,vs=[.int i]/\Good X.K tg F1 H1 ρ' σ/\Ext (Own ρ σ) (Own ρ' σ) F H F1 H1) I ⟨tg,F,ρ,.int i,ρ',G,em1,λv H' F' G' x' r=>by
    cases r;exact⟨F',rfl,G',x'⟩⟩
   rw[hs] at pa ⊢
   refine vA (bD pa (λus s2 ⟨vs,H2,I2,r2,F2,ev,G2,x2⟩=>?_) λe s1 q=>by rw[hnx] at q;exact q.elim)
   subst ev;have hlen:us.length=1:=r2.length.symm;obtain⟨o1,o2,o3,o4⟩:=hobj _ I2.kIn;refine⟨rfl,by rw[gF];show us.length<=_;omega,o1,o2,o3,o4,λh' e hme=>?_⟩
   obtain⟨t,he,_,_⟩:=hme.there;have hnH:H2 e=ZY:=by
    cases z:H2 e with
    |none=>rfl
    |some o=>
     obtain⟨ob,h1⟩:=ald (I2.hok e o z);have h2:s2.heap.get? e=ZY:=hme.new;rw[h2] at h1;cases h1
   have J:L2.Inv X zv σ H2 { s2 with heap:=h' }:=I2.kept (t':=s2.toks) hme.keeps
   have J1:L2.Inv X zv σ (upd H2 e (.ext (exV e C ZY #[.ref t,.none,.none,.none,.bool ZW,.none]))) { s2 with heap:=h' } :=
    we J (wc I2 hme.new hnH) ⟨⟨_,he,rfl,rfl,rfl⟩,⟨_,he⟩,λh1 h2 p q=>by obtain⟨oe,z1,z2⟩:=p;exact⟨oe,q _ z1,z2⟩⟩
   refine lO (jK ((Fi #[.ref t,.none,.none,.none,.bool ZW,.none]).run (X.A.under (.builtin "type.__call__" ⟨.ref C::us,[]⟩)) X.stack _ _ ⟨.ref e::us,[]⟩ (.ref e::us) [.ref e,.int i]
    (λv H3=>v=.non/\∃d,upd H2 e (.ext (exV e C ZY #[.ref t,.none,.none,.none,.bool ZW,.none])) d=ZY/\H3=upd (upd (upd H2 e (.ext (exV e C ZY #[.ref t,.none,.none,.none,.bool ZW,.none]))) e (.ext (exV e C (ZZ d) #[.ref t,.none,.none,.none,.bool ZW,.none]))) d (.xd [(f,.int i)]))
    (λ_ _ _=>False) (hr.make C us []) (J1.env0.make C us []) (hb _ _ (by rw[bF,hlen])) (.cons rfl r2) ⟨e,i,rfl,gk,λd hd=>⟨rfl,d,hd,rfl⟩⟩) λr s' z=>?_)
   cases r with
   |error er=>exact z.elim
   |ok fl=>
    cases fl with
    |ret u=>
    obtain⟨v,H3,J3,rv,rfl,d,hd,rfl⟩:=Inv.after J1 z;have hde:d≠e:=λq=>by rw[q,gk] at hd;cases hd
    have hd2:H2 d=ZY:=by rw[b7 hde] at hd;exact hd
    have eq:upd (upd (upd H2 e (.ext (exV e C ZY #[.ref t,.none,.none,.none,.bool ZW,.none]))) e (.ext (exV e C (ZZ d) #[.ref t,.none,.none,.none,.bool ZW,.none]))) d (.xd [(f,.int i)])=upd (upd H2 d (.xd [(f,.int i)])) e (.ext (exV e C (ZZ d) #[.ref t,.none,.none,.none,.bool ZW,.none])):=by
     rw[ayg]
     funext b
     unfold upd
     by_cases q1:b=d
     ·rw[if_pos q1,if_neg (λq=>hde (q1.symm.trans q)),if_pos q1]
     ·rw[if_neg q1,if_neg q1]
    rw[eq] at J3;obtain⟨⟨oe,he2,hc2,hdx2,hdt2⟩,_⟩:=J3.hok e _ gk;have hne:upd H2 d (.xd [(f,.int i)]) e=ZY:=by rw[b7 (gG hde)];exact hnH
    have J4:=ve J3 hne;have rv:u=cM:=rv;refine⟨rv,(hobj _ J4.kIn).1,oe,_,he2,hc2,hdt2,rfl,σ,upd H2 d (.xd [(f,.int i)]),upd F2 d (.xd [(f,.int i)]),J4,G2.new hd2 _,x2.trans (G2.newX hd2 _),e,C,ZZ d,[e],rfl,k,.inr ⟨d,rfl,gk⟩,⟨oe,_,he2,hc2,hdx2,hdt2,by simp,.inl ⟨rfl,rfl⟩⟩,λb hb=>?_⟩
    obtain rfl:=dF.mp hb;exact wc I2 hme.new hne
    |_=>exact z.elim
  ·cases em
 ·rename_i y ρ1 em1;exact absurd em1 (hn _ _ _)
 ·cases em⟩
end
theorem agw(f:Str):∀fs:List (Str×Int),(fs.map λp=>(p.1,V.int p.2)).lookup f=(fs.lookup f).map V.int
 | []=>rfl
 | (g,i)::r=>by
  rw[bC,xZ,xZ];cases f==g
  ·exact agw f r
  ·rfl
def mFld(cs:List Str)(f:Str)(m:M D):M D:=m.bind λd=>match d with
 |.exn c fs=>if cs.contains c=ZX then lift ((fs.lookup f).map D.int) else lift ZY
 |_=>lift ZY
@[simp] theorem a70(cs:List Str)(f:Str)(m:M D)(ρ:Ro):mFld cs f m ρ=(m.bind λd=>match d with
 |.exn c fs=>if cs.contains c=ZX then lift ((fs.lookup f).map D.int) else lift ZY
 |_=>lift ZY) ρ:=rfl
theorem axy{K:Fg9}{X:Cx}{e:dI}{m:M D}{cs:List Str}{f:Str}{pos:Pos}(hF:∀c C,cs.contains c=ZX->nsIn K aV c=ZZ (ZZ (.ref C))->gY K (.ref C) f=ZZ ZY)(h:EV K X e m)(hb:fQ e f X.env (eval e X.env)=eval e X.env:=by rfl) :
  EV K X (.Attribute e f pos) (mFld cs f m):=EV.mk λhk=>by
 intro zv s σ H Q I z9;obtain⟨tg,F,ρ,d,ρ',G,em,q⟩:=z9;obtain⟨d1,ρ1,e1,em⟩:=bf em;refine auy hb (thn (h hk zv s σ H (λx H1=>∃F1,Good K tg F1 H1 ρ1 σ/\Ext (Own ρ σ) (Own ρ1 σ) F H F1 H1/\Is K F1 d1 x) I ⟨tg,F,ρ,d1,ρ1,G,e1,λv H' F' G' x' r=>⟨F',G',x',r⟩⟩) λu s1 z9=>?_)
 obtain⟨x,H1,I1,rx,F1,G1,x1,i1⟩:=z9;subst hk;cases i1 with
 | @exn a C c dx fs ea hc hk hf=>
  dsimp only at em;split at em
  ·rename_i hcs;obtain⟨e2,rfl⟩:=ik em;obtain⟨i,hi,rfl⟩:=cB.mp e2;rcases hf with⟨_,rfl⟩ |⟨d,rfl,hFd⟩
   ·cases hi
   ·obtain rfl:u=cH a:=rx;obtain⟨⟨oe,vs,he,hcl,hdx,hdt⟩,_⟩:=I1.hok a _ (G1.sub _ _ ea);obtain⟨mA,hns,hrel⟩:=I1.hok d _ (G1.sub _ _ hFd);obtain⟨od,ho,hl⟩:=aln hns;have J:gQ s1.heap a oe C (ZZ od):=⟨he,hcl,by unfold lU;rw[hdt],by rw[hdx];exact ho⟩
    have hr:=hrel f;rw[agw,hi] at hr;cases hm:mA f with
    |none=>rw[hm] at hr;exact hr.elim
    |some v=>
     rw[hm] at hr;obtain⟨t,rfl⟩:∃t,v=.int i t:=hr
     have hfo:=vK (od:=od) hk.hd (hF c C hcs hc) rfl (by rw[hl,hm])
     unfold getAttr;refine aA (wpAny_mkText (ao6 (s:={ s1 with toks:=s1.toks+1 }) I1.kIn J hk (exc_value (s:={ s1 with toks:=s1.toks+1 }) I1.kIn J hfo ?_)))
     exact aH ⟨.int i,H1,I1.kept (t':=s1.toks+1) (λ_ _ z=>z),⟨t,rfl⟩,q _ H1 F1 G1 x1 (.int i)⟩
  ·cases em
 |_=>cases em
def auf(s:gK):gK:=match s with
 |.ClassDef _ _ _ b _ _ _ _ _ _ _=>b.getD 0 s
 |_=>s
section
variable{K:Fg9}{X:Cx}{c f:Str}{st st':gK}{e1:dI}{m:M D}{np cpos pos p1 p2 p3 p4:Pos}
def abk:SV K X st (ab6 c f m):=SV.mk λ_=>PS.imp aoj λE σ H z9=>by
 obtain⟨tg,F,ρ,fl,ρ',G,em,q⟩:=z9;unfold ab6 dM at em;split at em
 ·dsimp only at em;split at em
  ·cases em;exact(show False from q).elim
  ·cases em
 ·cases em;exact(show False from q).elim
 ·cases em
structure IniT (K:Fg9) (mg:Str->Option aG) (c f q:Str) (st:gK):Prop where
 ex:∃C fI fd,mg c=ZZ (.ref C)/\ClsOk K c C/\al1 K C fI=ZX/\FldK K C f/\Fun K "__init__" q st fI fd
def akh{q:Str}(hk:X.K=K)(hcalm:X.calm=ZX)(hg:Gl X c)(h:IniT K X.mg c f q st)(S:FnScope ["self", f] ["self", f] (ao st))(hb:jc st=[.Assign [.Attribute (.Name "self" p1) f p2] (.Name f p3) p4])(h1:(f==("__debug__" : Str))=ZW)(h2:(f==("__classdict__" : Str))=ZW)
  (hs:∀env,iR (.Name f p3) (ZZ (.Attribute (.Name "self" p1) f p2)) p4.line env=pure ZW) (hv1:Vis (ao st) "self") (hv2:Vis (ao st) f)
  (hbd:∀fI fd,Fun K "__init__" q st fI fd->∀s us,us.length=2->oR s fd ⟨us,[]⟩ ((["self", f]:List Str).zip us))
  (hr:Room 2 X.A) (he:EV K X e1 m) (hn:NoX m) (hst:aO [e1] X.env=(ZW,eval e1 X.env)::aO [] X.env:=by rfl) (hd:(c==("__debug__" : Str))=ZW:=by decide) :
  XS K X (.Raise (ZZ (.Call (.Name c np) [e1] [] cpos)) ZY pos) (ab6 c f m):=by
 subst hk;obtain⟨C,fI,fd,hm,k,qq,kf,F⟩:=h.ex;exact aq1 (kk:=1) hcalm hg hm k qq (λvs=>a0m F S kf hb h1 h2 hs hv1 hv2) (hbd fI fd F) hr he hn hst hd
def aip{q:Str}(h:∀(kV doc pm:aG) (an:Option aQ) (cdv ct:aG) (us:List aG),us.length=2->pR (fnOf "__init__" q (j8 st) (jc st) (ao st) .none kV doc pm an cdv ct) ⟨us,[]⟩=pure ((["self", f]:List Str).zip us)) :
  ∀fI fd,Fun K "__init__" q st fI fd->∀s us,us.length=2->oR s fd ⟨us,[]⟩ ((["self", f]:List Str).zip us):=λfI fd F s us hl=>by
 obtain⟨oc,od,kV,doc,pm,an,cdv,ct,osl,rfl,lk,hcd⟩:=F.ex;exact .of_eq (h kV doc pm an cdv ct us hl)
def awn(K:Fg9)(C fI:aQ)(f:Str):Bool:=al1 K C fI&&(gY K (.ref C) "__setattr__" == ZZ (ZZ (.builtin "object.__setattr__")))&&ahe K C&&(iU K C f==ZZ ZY)
def ao0{h:eE}{mg:Str->Option aG}{ns:List Str}{q:Str}{C fI:aQ}{fd:eQ}(X:K.In h)(G:h.Ns aV mg)(e:apc K ns=ZX)(hc:ns.contains c=ZX)(aC:nsIn K aV c=ZZ (ZZ (.ref C)))(e2:awn K C fI f=ZX)(F:Fun K "__init__" q st fI fd):IniT K mg c f q st:=by
 obtain⟨C',h1,h2⟩:=ur X G e hc;have z:=h2.ns.symm.trans aC;cases z;unfold awn at e2;simp only[bB,beq_iff_eq] at e2;obtain⟨⟨⟨a1,a2⟩,a3⟩,a4⟩:=e2;exact⟨C,fI,fd,h1,h2,a1,⟨h2.ok,a2,a3,a4⟩,F⟩
def a0n(K:Fg9)(cs:List Str)(f:Str):Bool:=cs.all λc=>match clsAt K c with
 |some C=>gY K (.ref C) f==ZZ ZY
 |none=>ZW
def ao5{cs:List Str}(h:a0n K cs f=ZX):∀c C,cs.contains c=ZX->nsIn K aV c=ZZ (ZZ (.ref C))->gY K (.ref C) f=ZZ ZY:=λc C hc hn=>by
 have z:=cR.mp h c (cO.mp hc);rw[aep hn] at z;exact beq_iff_eq.mp z
end
end Dn
namespace Stt
open PySem
def Rise(t:cZ):Prop:=t.place.toList.Pairwise (· < ·)
def Rise.lt{t:cZ}(h:Rise t){i j:Nat}{x y:Nat}(hij:i<j)(hx:t.place[i]? = ZZ x)(hy:t.place[j]? = ZZ y):x<y:=by
 obtain⟨hi,rfl⟩:=dR.mp hx;obtain⟨hj,rfl⟩:=dR.mp hy;have:=List.pairwise_iff_getElem.mp h i j (by simpa using hi) (by simpa using hj) hij
 simpa using this
def Cut(xs:Array Nat)(j p:Nat):Prop:=p<=xs.size/\(∀i x,i<p->xs[i]? = ZZ x->x<j)/\∀i x,p<=i->xs[i]? = ZZ x->j<=x
theorem aka{xs:Array Nat}(hs:xs.toList.Pairwise (· < ·))(j:Nat):∀(fuel lo hi:Nat),hi-lo<=fuel->lo<=hi->hi<=xs.size->(∀i x,i<lo->xs[i]? = ZZ x->x<j)->(∀i x,hi<=i->xs[i]? = ZZ x->j<=x) ->
  Cut xs j (wK xs j fuel lo hi)
 | 0,lo,hi,hf,hle,hsz,a,b=>by
  have:lo=hi:=by omega
  subst this;exact⟨hsz,a,b⟩
 |fuel+1,lo,hi,hf,hle,hsz,a,b=>by
  unfold wK;split
  ·rename_i hlt;dsimp only;have hm:(lo+hi) / 2<xs.size:=by omega
   have hg:xs.getD ((lo+hi) / 2) j=xs[(lo+hi) / 2]:=by simp[xT,hm]
   have hx:xs[(lo+hi) / 2]? = ZZ (xs[(lo+hi) / 2]):=by simp[hm]
   rw[hg]
   by_cases hc:xs[(lo+hi) / 2]<j
   ·rw[if_pos hc];refine aka hs j fuel ((lo+hi) / 2+1) hi (by omega) (by omega) hsz (λi x hi' hx'=>?_) b
    rcases lW i ((lo+hi) / 2) with h |h
    ·exact mZ (Rise.lt (t:={ mask:=0,place:=xs,dummies := #[],finger:=0,led:=ZX,moves:=0,plain:=ZX }) hs h hx' hx) hc
    ·have:i=(lo+hi) / 2:=by omega
     subst this;rw[hx] at hx';cases hx';exact hc
   ·rw[if_neg hc];refine aka hs j fuel lo ((lo+hi) / 2) (by omega) (by omega) (by omega) a (λi x hi' hx'=>?_)
    rcases lW ((lo+hi) / 2) i with h |h
    ·exact cW (oA.mp hc) (nA (Rise.lt (t:={ mask:=0,place:=xs,dummies := #[],finger:=0,led:=ZX,moves:=0,plain:=ZX }) hs h hx hx'))
    ·have:i=(lo+hi) / 2:=by omega
     subst this;rw[hx] at hx';cases hx';omega
  ·have:lo=hi:=by omega
   subst this;exact⟨hsz,a,b⟩
def ahs{xs:Array Nat}(hs:xs.toList.Pairwise (· < ·))(j:Nat):Cut xs j (fJ xs j) :=
 aka hs j xs.size 0 xs.size (by omega) (dN _) (aP _) (λi x h _=>absurd h (pG _)) λi x h hx=>by
  obtain⟨h',_⟩:=dR.mp hx;omega
def aqp{t:cZ}(h:Rise t):fJ t.place 0=0:=by
 obtain⟨hp,a,b⟩:=ahs h 0;rcases qK (fJ t.place 0) with h0 |h0
 ·exact h0
 ·have h1:0<t.place.size:=by omega
  exact absurd (a 0 t.place[0] h0 (by simp[h1])) (pG _)
def aqq{t:cZ}(h:Rise t){i x:Nat}(hx:t.place[i]? = ZZ x):fJ t.place (x+1)=i+1:=by
 obtain⟨hp,a,b⟩:=ahs h (x+1);rcases Nat.lt_trichotomy (fJ t.place (x+1)) (i+1) with h1 |h1 |h1
 ·have:=b i x (by omega) hx
  omega
 ·exact h1
 ·have h2:i+1<t.place.size:=by omega
  have h3:t.place[i+1]? = ZZ t.place[i+1]:=by simp[h2]
  have:=a (i+1) _ h1 h3;have:=h.lt (jE i) hx h3;omega
def am3{t:cZ}(h:Rise t){j:Nat}(hj:t.place[fJ t.place j]? ≠ ZZ j):(SetTable.insertAt t.place (fJ t.place j) j).toList.Pairwise (· < ·):=by
 obtain⟨hp,a,b⟩:=ahs h j;rw[SetTable.toList_insertAt];generalize hq:fJ t.place j=p at *;rw[List.pairwise_append];refine⟨List.Pairwise.sublist (wR _ _) h,?_,?_⟩
 ·rw[fU];refine⟨λy hy=>?_,pM (List.drop_sublist _ _) h⟩
  obtain⟨i,hi,rfl⟩:=gH.mp hy;rw[fX,bN] at hi;rw[wX,pW];have h1:t.place[p+i]? = ZZ t.place[p+i]:=by simp
  have h2:=b (p+i) _ (by omega) h1
  rcases Nat.eq_or_lt_of_le h2 with e |e
  ·exfalso;rcases qK i with z |z
   ·subst z;exact hj (by rw[e];exact h1)
   ·have h3:t.place[p]? = ZZ t.place[p]:=by simp
    have h4:=h.lt (show p<p+i by omega) h3 h1
    have h5:=b p _ (aP _) h3;omega
  ·exact e
 ·intro x hx y hy;have hxj:x<j:=by
   obtain⟨i,hi,rfl⟩:=gH.mp hx;rw[dX,bN] at hi;rw[List.getElem_take,pW];exact a i _ (by omega) (by simp)
  rcases bA.mp hy with rfl |hy
  ·exact hxj
  ·obtain⟨i,hi,rfl⟩:=gH.mp hy;rw[fX,bN] at hi;rw[wX,pW];have:=b (p+i) t.place[p+i] (by omega) (by simp)
   omega
def Away(t:cZ)(j:Nat):Prop:=t.place[fJ t.place j]? ≠ ZZ j
def akr{t:cZ}{j:Nat}(h:∀i,t.slot j≠.live i):Away t j:=λe=>h (fJ t.place j) (by
 unfold SetTable.slot;dsimp only;rw[if_pos (by rw[e];exact beq_self_eq_true _)])
theorem aey{t:cZ}{f:Nat->Int}{h:Int}:∀(fuel:Nat) (p:yP) (j:Nat) (d:Option Nat),(∀x,p.dummy=ZZ x->Away t x)->wJ t f h fuel p=ZZ (.empty j d)->Away t (d.getD j)
 | 0,p,j,d,_,e=>by cases e
 |fuel+1,p,j,d,hd,e=>by
  unfold wJ at e;have adv:∀q:yP,(t.advance q).dummy=q.dummy:=λq=>by unfold SetTable.advance;split <;> rfl
  split at e
  ·rename_i hs;cases e;cases hq:p.dummy with
   |none=>exact akr λi z=>by rw[rM,hs] at z;cases z
   |some x=>exact hd x hq
  ·rename_i hs;refine aey fuel _ j d (λx hx=>?_) e
   rw[adv] at hx;cases hx;exact akr λi z=>by rw[hs] at z;cases z
  ·split at e
   ·cases e
   ·exact aey fuel _ j d (λx hx=>by rw[adv] at hx;exact hd x hx) e
def atq{t:cZ}{h:Int}{j:Nat}{b:Bool}(e:t.freeSlot h=ZZ (j,b)):Away t j:=by
 unfold SetTable.freeSlot at e;split at e
 ·rename_i j' d hp;cases e;exact aey _ _ j' d (λx hx=>by cases hx) hp
 ·cases e
def apz(n:Nat):(Array.range n).toList.Pairwise (· < ·):=by
 rw[Array.toList_range];exact lM
def Kept(b:Bool)(t:cZ):Prop:=Rise t/\t.led=b
def Kept.standIn{b:Bool}{t:cZ}(h:Kept b t)(n:Nat):Kept b (t.standIn n):=⟨apz n,h.2⟩
def ang{b:Bool}{t:cZ}(h:Kept b t)(es:Array (Int×Value))(k:Int)(x:aG):Kept b (layNew t es k x).2.1:=by
 unfold layNew;split
 ·rename_i slot wd e;dsimp only;have h':Kept b (t.put slot).1:=⟨am3 h.1 (atq e),h.2⟩;unfold SetTable.orStandIn;split
  ·exact h'
  ·exact h'.standIn _
 ·exact h.standIn _
theorem as9{m f mv:Nat}{b p:Bool}{hs:Array Int}{t:cZ}{o:Array Nat}(e:yZ m f mv b p hs=ZZ (t,o)):Kept b t:=by
 unfold yZ at e;cases e1:SetTable.layClean m hs with
 |none=>rw[e1] at e;cases e
 |some ow=>
  rw[e1] at e;cases e;refine⟨?_,rfl⟩;show List.Pairwise _ _;dsimp only;have h0:((bW (m+1)).filterMap λj=>(ow.getD j ZY).map (j,·)).map (·.1)=(bW (m+1)).filter λj=>(ow.getD j ZY).isSome:=by
   generalize bW (m+1)=l
   induction l with
   |nil=>rfl
   |cons a r ih=>
    cases h:ow.getD a ZY with
    |none=>simp only[iD,yC,h,Option.map_none,Option.isSome_none];simpa using ih
    |some z=>simp only[iD,yC,h,yH,Option.isSome_some,bC];simpa using ih
  rw[h0];exact pM vO lM
def apx{b:Bool}{t:cZ}(h:Kept b t)(es:Array (Int×Value))(n:Nat):Kept b (relayAll t es n).2.1:=by
 unfold relayAll;split
 ·rename_i t' o e;dsimp only;split
  ·have:=as9 e;rw[h.2] at this;exact this
  ·exact h.standIn _
 ·exact h.standIn _
def aqk(b:Bool):Kept b (.fresh 0 0 b):=⟨List.Pairwise.nil,rfl⟩
open PySem.Spec PyProof.Rows
def keyE(e:Int×Value):Int:=match e.2 with
 |.int k _=>k
 |_=>0
def Ent(e:Int×Value):Prop:=∃k u,e=(pZ k,mK k u)
structure SetG (w:dB) (es:Array (Int×Value)) (t:cZ) (ns:List Int):Prop where
 ent:∀e∈es.toList,Ent e
 nd:(es.toList.map keyE).Nodup
 mem:∀k,k∈es.toList.map keyE↔k∈ns
 fit:t.fits es.size=ZX
 kept:Kept (!w.params.followText "set-order") t
def setO(es:Array (Int×Value))(ep:Nat)(t:cZ):Obj:={ cls:=.type "set", dict:=ZY,data:=.set es ep t }
def SetG.elems{prog:bT}{w:dB}{es:Array (Int×Value)}{t:cZ}{ns:List Int}(g:SetG w es t ns):ElemsOf (pY prog w) es.toList:=λe he=>by
 obtain⟨k,u,rfl⟩:=g.ent e he;exact⟨⟨k,intKind_is _ _ _ _,rfl⟩,rfl⟩
def SetG.empty(w:dB):SetG w #[] (.fresh 0 0 (!w.params.followText "set-order")) []:=⟨λe he=>by simp at he,rD,λk=>by simp,rfl,aqk _⟩
def aua{e:Int×Value}(h:Ent e)(k:Int):vG k e.2=ZX↔keyE e=k:=by
 obtain⟨j,u,rfl⟩:=h;simp[vG,keyE]
def SetG.push{w:dB}{es es':Array (Int×Value)}{t t':cZ}{ns:List Int}{k:Int}{u:Tok}(g:SetG w es t ns)(hn:k∉es.toList.map keyE)(hp:es'.toList.Perm (es.push (pZ k,.int k u)).toList)(hf:t'.fits es'.size=ZX)
  (hk:Kept (!w.params.followText "set-order") t'):SetG w es' t' (ns++[k]):=by
 rw[xR] at hp;have hm:=hp.map keyE;rw[lG] at hm;refine⟨λe he=>?_,?_,λj=>?_,hf,hk⟩
 ·rcases cU.mp (hp.mem_iff.mp he) with h |h
  ·exact g.ent e h
  ·rw[dF] at h;exact⟨k,u,h⟩
 ·rw[hm.nodup_iff,wV];refine⟨g.nd,by simp,λa ha b hb e=>?_⟩
  simp only[bC,rF,dF] at hb;subst hb;subst e;exact hn ha
 ·rw[hm.mem_iff,cU,cU,g.mem j];rfl
def SetG.perm{w:dB}{es es':Array (Int×Value)}{t t':cZ}{ns:List Int}(g:SetG w es t ns)(hp:es'.toList.Perm es.toList)(hf:t'.fits es'.size=ZX)(hk:Kept (!w.params.followText "set-order") t'):SetG w es' t' ns :=
 ⟨λe he=>g.ent e (hp.mem_iff.mp he),(hp.map keyE).nodup_iff.mpr g.nd,λk=>by rw[(hp.map keyE).mem_iff,g.mem k],hf,hk⟩
section
variable{prog:bT}{w:dB}{A:cQ}{E:aG->aJ->Prop}{s:aJ}
def aoe{h:eE}{a:aQ}{es es':Array (Int×Value)}{ep:Nat}{t t':cZ}(ho:h.get? a=ZZ (setO es ep t)):(h.update a (wQ es' t')).get? a=ZZ (setO es' (ep+1) t'):=by
 have:=bM (wQ es' t') ho (by rw[putSet_of es' t' (o:=setO es ep t) rfl];rfl)
 rw[putSet_of es' t' (o:=setO es ep t) rfl] at this;exact this
def ax9{a:aQ}{es es1:Array (Int×Value)}{ep:Nat}{t t2:cZ}{ns:List Int}(g:Bool->Sem Unit)(hg:∀(b:Bool) (s₁:aJ) (Q':Unit->aJ->Prop),Q' () s₁->bG (bL prog w) A (g b) Q' E s₁)
  (ho:s.heap.get? a=ZZ (setO es ep t)) (G:SetG w es1 t2 ns) (hb:es1.size<nR) {wasDummy:Bool} {R:Option Bool->aJ->Prop}
  (h:∀h' es' ep' t',cP a s.heap h'->h'.get? a=ZZ (setO es' ep' t')->SetG w es' t' ns->es'.size=es1.size->R (ZZ ZX) { s with heap:=h' }) :
  bG (bL prog w) A (do
    storeSet a es1 t2
    if (!wasDummy&&t2.tooFull)=ZX then do
      g (relayAll t2 es1 (nH es1.size)).2.2
      storeSet a (relayAll t2 es1 (nH es1.size)).1 (relayAll t2 es1 (nH es1.size)).2.1
      pure (ZZ ZX)
     else pure (ZZ ZX)) R E s:=by
 refine aA (wpAny_storeSet_of ho rfl ?_ (fits_of_scanBound hb));have h1:=aoe (es':=es1) (t':=t2) ho;have b1:=cL s.heap a (wQ es1 t2);split
 ·have hp:=relayAll_perm t2 es1 (nH es1.size);have hsz:(relayAll t2 es1 (nH es1.size)).1.size=es1.size:=by rw[<-bN,hp.length_eq,bN]
  refine aA (hg _ _ _ ?_);refine aA (wpAny_storeSet_of h1 rfl ?_ (fits_of_scanBound (by rw[hsz];exact hb)))
  exact aH (h _ _ _ _ (b1.trans (cL _ a _)) (aoe h1) (G.perm hp (relayAll_fits _ _ _) (apx G.kept _ _)) hsz)
 ·exact aH (h _ _ _ _ b1 h1 G rfl)
theorem a5g{a:aQ}{es:Array (Int×Value)}{ep:Nat}{t:cZ}{ns:List Int}{k:Int}{u:Tok}{Q:Bool->aJ->Prop}(ho:s.heap.get? a=ZZ (setO es ep t))(G:SetG w es t ns)(hb:es.size+1<nR)
  (h:∀h' es' ep' t' b,cP a s.heap h'->h'.get? a=ZZ (setO es' ep' t')->SetG w es' t' (ns++[k])->es'.size<=es.size+1->Q b { s with heap:=h' }) :
  bG (bL prog w) A (setAddHashed a (.int k u) (pZ k)) Q E s:=by
 have hel:ElemsOf (pY prog w) es.toList:=G.elems;have hkey:(pY prog w).is k (.int k u)=ZX:=intKind_is _ _ _ _;unfold setAddHashed setAddHashedIn;refine eG (aA (wpAny_setState_of ho rfl G.fit ?_));dsimp only;rw[byScan_of (knd:=pY prog w) rfl (by omega) hel]
 simp only[↓reduceIte];unfold setAddByScan;refine aA ?_;refine aA (jF ?_);refine aA (wpAny_setScan_of (knd:=pY prog w) hkey ho rfl G.fit hel ?_);cases hr:qM (λe=>(pY prog w).is k e.2) es.toList with
 |some j=>
  dsimp only;obtain⟨hj,hpj,_⟩:=lK.mp hr;have hin:k∈es.toList.map keyE:=fW.mpr ⟨_,dJ hj,(aua (G.ent _ (dJ hj)) k).mp hpj⟩;refine aH (aH ?_);refine h s.heap es ep t _ (xH a s.heap) ho ⟨G.ent,G.nd,λj'=>?_,G.fit,G.kept⟩ (by omega)
  rw[cU,dF,G.mem j'];exact⟨.inl,λz=>z.elim id λz=>z▸(G.mem k).mp hin⟩
 |none=>
  dsimp only;have hout:k∉es.toList.map keyE:=λz=>by
   obtain⟨e,he,hk⟩:=fW.mp z;have h1:=nP.mp hr e he;have h2:(pY prog w).is k e.2=ZX:=(aua (G.ent e he) k).mpr hk;rw[h2] at h1;cases h1
  have hgw:∀(b:Bool) {s₁:aJ} {Q':Unit->aJ->Prop},Q' () s₁->bG (bL prog w) A (match b with |true=>rule "set.scan.the-table-gave-way" |false=>pure ()) Q' E s₁ :=
   λb s₁ Q' hq=>by cases b <;> first |exact aH hq |exact jF hq
  have hperm:=layNew_perm t es (pZ k) (.int k u);have hfits:=layNew_fits t es (pZ k) (.int k u);have hkept:=ang G.kept es (pZ k) (.int k u);show bG (bL prog w) A _ _ _ _
  change bG (bL prog w) A (match layNew t es (pZ k) (.int k u) with | (es,t,wasDummy,gave)=>_) _ _ _
  generalize hL:layNew t es (pZ k) (.int k u)=L at hperm hfits hkept ⊢
  obtain⟨es1,t1,wasDummy,gave⟩:=L;dsimp only at hperm hfits hkept ⊢
  have G1:=G.push hout hperm hfits hkept;have hsz1:es1.size=es.size+1:=by rw[<-bN,hperm.length_eq,bN,Array.size_push]
  refine aA (hgw _ ?_);split
  ·refine aA ?_;rw[hashByValue_scannable 8 rfl];refine aH ?_;refine ax9 _ ?_ ho (ns:=ns++[k]) ?_ (by omega) ?_
   ·intro b s₁ Q' hq;cases b <;> first |exact aH hq |exact jF hq
   ·exact G1
   ·intro h' es' ep' t' hsb ho' G' hz;exact aH (h h' es' ep' t' _ hsb ho' G' (by omega))
  ·refine aA (aH ?_);simp only[↓reduceIte];refine ax9 _ ?_ ho (ns:=ns++[k]) G1 (by omega) ?_
   ·intro b s₁ Q' hq;cases b <;> first |exact aH hq |exact jF hq
   ·intro h' es' ep' t' hsb ho' G' hz;exact aH (h h' es' ep' t' _ hsb ho' G' (by omega))
end
section
variable{prog:bT}{w:dB}{A:cQ}{R:Result->aJ->Prop}{I:aQ}{fp wr:List aQ}{G:Array GenState->Array GenState->Prop}{n:Nat}{P:Nat->aG->Prop}{St:Nat->aJ->Prop}
theorem ayh(W:WalksS prog w A.in1 I fp wr G n P St)(S:aQ)(hSf:S∉fp)(val:Nat->Int)(hval:∀i v,P i v->∃t,v=.int (val i) t)(hb:n+1<nR) :
  ∀(k i:Nat) (s:aJ) (es:Array (Int×Value)) (ep:Nat) (t:cZ),n-i=k->i<=n->St i s->s.heap.get? S=ZZ (setO es ep t)->SetG w es t ((bW i).map val)->es.size<=i ->
   (∀s' es' ep' t',Moved (S::wr) G s s'->s'.heap.get? S=ZZ (setO es' ep' t')->SetG w es' t' ((bW n).map val)->es'.size<=n->R (.ok (.ret .none)) s') ->
   mJ (bL prog w) A (.builtin "set.update.loop" ⟨[.ref S,.ref I],[]⟩) R s:=by
 have hSw:S∉wr:=λh=>hSf (W.sub _ h)
 have hsub:∀b∈wr,b∈S::wr:=λb hb=>aR _ hb
 intro k
 induction k with
 |zero=>
  intro i s es ep t hk hi hst ho g hz hR;have hin:i=n:=by omega
  subst hin;refine codeAny_builtin uJ ?_;rw[kE oO _];show bG _ A.in1 (nT (.ref I) >>= _) _ _ s;refine aA (W.done s _ _ hst λs' hm=>?_)
  show bG _ A.in1 (ret cM) _ _ s';exact aH (hR s' es ep t (hm.mono hsub) (hm.heap S _ hSw ho) g hz)
 |succ k ih=>
  intro i s es ep t hk hi hst ho g hz hR;have hlt:i<n:=by omega
  refine codeAny_builtin uJ ?_;rw[kE oO _];show bG _ A.in1 (nT (.ref I) >>= _) _ _ s;refine aA (W.item i s _ _ hlt hst λv s' hP hst' hm=>?_)
  obtain⟨u,rfl⟩:=hval i v hP;have ho':s'.heap.get? S=ZZ (setO es ep t):=hm.heap S _ hSw ho;show bG _ A.in1 (jZ [mK (val i) u] (setAdd S (.int (val i) u)) >>= _) _ _ s';refine aA (eG ?_);unfold setAdd;refine eG ?_;refine aA ((pY prog w).pyHash (k:=val i) (intKind_is _ _ _ _) ?_);refine a5g (s:={ s' with toks:=s'.toks+1 }) (u:=u) (k:=val i) ho' g (by omega) λh' es' ep' t' b hsb ho2 g2 hz2=>?_
  have g3:SetG w es' t' ((bW (i+1)).map val):=by
   rw[mQ,lG];exact g2
  refine aH ⟨plainId_quiet oO _,ih (i+1) _ es' ep' t' (by omega) hlt (W.frame _ s' _ _ hst' (kO _) λb hb o e=>?_) ho2 g3 (by omega) λs'' es'' ep'' t'' hm'' ho'' g'' hz''=>?_⟩
  ·rw[hsb.2 b (λh:b=S=>hSf (by rw[<-h];exact hb))];exact e
  ·refine hR s'' es'' ep'' t'' (Moved.trans W.gtrans ((hm.mono hsub).then_heap (kO _) λb o hb e=>?_) hm'') ho'' g'' hz''
   rw[hsb.2 b (λh:b=S=>hb (by rw[h];exact aZ))];exact e
end
def sub_tuple_set:isSubtype (.type "tuple") (.type "set")=pure ZW:=by rw[isSubtype_type];kernel_rfl
def sub_tuple_frozenset:isSubtype (.type "tuple") (.type "frozenset")=pure ZW:=by rw[isSubtype_type];kernel_rfl
section
variable{prog:bT}{w:dB}{A:cQ}{E:aG->aJ->Prop}{s:aJ}
abbrev fresh0(w:dB):Obj:=setO #[] 0 (.fresh 0 0 (!w.params.followText "set-order"))
def azz(a:aG){Q₁:aG->aJ->Prop}(h:Q₁ (.ref s.heap.objs.size) { s with heap:=s.heap.push (fresh0 w) }) :
  mJ (bL prog w) A (.call (.builtin "set.__new__") ⟨[.type "set", a],[]⟩) (wants Q₁ E) s:=by
 refine codeAny_of_tree ?_;show bG _ A.in1 (do checkBuiltinCall "set.__new__" ⟨[.type "set", a],[]⟩;again (.builtin "set.__new__" ⟨[.type "set", a],[]⟩)) _ _ s
 refine aA (wpAny_of_eq (F.newCall_set_1 a) (aH ⟨plainId_quiet yM _,codeAny_builtin F.entry_set_new ?_⟩));rw[kE yM _];unfold iM.«set.__new__» Builtin.Frozenset.newClass;have hsub:=sub_set_self;obtain⟨hp,g,d,tk,os⟩:=s;dsimp only;wp_walk;refine wpAny_askSetting (aH ?_);dsimp only;simp only[newObj];refine aA (wpAny_alloc (aH ?_));exact aH h
set_option maxRecDepth 100000 in
set_option maxHeartbeats 3200000 in
theorem a1r{l:aQ}{items:Array aG}{ns:List Int}{Q:aG->aJ->Prop}(hh:A.handled=ZY)(hl:s.heap.IsTuple l items)(hi:oN items.toList ns)(hb:items.size+1<nR)
  (h:∀(h':eE) (tk:Nat) es ep t,h'.get? s.heap.objs.size=ZZ (setO es ep t)->SetG w es t ns->es.size<=items.size->(∀b o,s.heap.get? b=ZZ o->h'.get? b=ZZ o)->Q (.ref s.heap.objs.size) { s with heap:=h',toks:=tk }) :
  bG (bL prog w) A (call (.type "set") [.ref l]) Q E s:=by
 obtain⟨c,tl,hmro⟩:=lB.mro;have hmade:=lB.made;have hsub:=lB.sub;refine lO (codeAny_of_tree ?_);show bG _ _ (callAny (.type "set") _) _ _ _;refine aH ⟨Code.quiet_builtin _ (by decide +kernel),codeAny_builtin F.entry_type_call ?_⟩
 rw[Around.under_plain (weight_type_call_type "set" [.ref l] []) rfl];have h1:=lB.notType;have h2:=lB.canCreate;have hct:=F.typeCall_set_1 (.ref l)
 repeat (any_goals (first |assumption |wp_step))
 refine jK (azz (.ref l) (E:=E) (Q₁:=λobj s₁=>obj=.ref s.heap.objs.size/\s₁={ s with heap:=s.heap.push (fresh0 w) }) ⟨rfl,rfl⟩) λr s₁ hr=>?_
 cases r with
 |error e=>exact hr
 |ok fl=>
  cases fl with
  |ret obj=>
   obtain⟨rfl,rfl⟩:=hr;have hS:(s.heap.push (fresh0 w)).get? s.heap.objs.size=ZZ (fresh0 w):=aM _ rfl;have hT:Shared.TypeIs { s with heap:=s.heap.push (fresh0 w) } (.ref s.heap.objs.size) "set" := ⟨_,hS,rfl⟩
   have hli:=lB.init.lookup;have hbi:=lB.init.bind (.ref s.heap.objs.size)
   repeat (any_goals (first |assumption |wp_step))
   refine jK (codeAny_call_builtin (R:=wants (λr s₂=>r=.none/\∃h' tk es ep t,s₂={ s with heap:=h',toks:=tk }/\h'.get? s.heap.objs.size=ZZ (setO es ep t)/\SetG w es t ns/\es.size<=items.size /\
     (∀b o,s.heap.get? b=ZZ o->h'.get? b=ZZ o)) E) lB.init.plain F.entry_set_init (check_set_init_1 hT ?_)) λr₂ s₂ hr₂=>?_
   ·obtain⟨ol,hol,hcl,nl,hdl⟩:=hl;obtain⟨ocls,odict,odata,oslots⟩:=ol;simp only at hcl hdl;subst hcl;subst hdl;have hol':(s.heap.push (fresh0 w)).get? l=ZZ { cls:=.type "tuple", dict:=odict,data:=.seq items nl,slots:=oslots }:=aB _ hol;have hsls:=sub_tuple_set;have hslf:=sub_tuple_frozenset;have hne:(jG "tuple" == jG "dict")=ZW:=by decide
    have hl1:(s.heap.push (fresh0 w)).IsTuple l items:=⟨_,hol',rfl,nl,rfl⟩;unfold iM.«set.__init__» noKeywords Builtin.Frozenset.updateFrom;generalize hPI:pyIter=PI;wp_walk;subst hPI;refine wpAny_pyIter_tuple hl1 ?_;refine aA (wpAny_runValue ?_);have hlS:l<s.heap.objs.size:=aN hol;have hh3:A.in1.in1.in1.handled=ZY:=by simp[hh]
    have hneI:l≠(s.heap.push (fresh0 w)).objs.size:=by
     rw[bU];exact bI (rC hlS)
    have hSf:s.heap.objs.size∉[(s.heap.push (fresh0 w)).objs.size,l]:=by
     rw[bU];simp only[bA,dF,cI,or_false,not_or];exact⟨Nat.ne_of_lt (jE _),fL hlS⟩
    have hval:∀(i:Nat) (v:aG),items[i]? = ZZ v->∃t,v=.int ((λi=>ns.getD i 0) i) t:=λi v hv=>
     PyProof.Rows.IntsAre.int_at hi i v (by rw[pP];exact hv)
    have hlen:items.size=ns.length:=by rw[<-bN];exact hi.length
    have hns:(bW items.size).map (λi=>ns.getD i 0)=ns:=by
     rw[hlen];apply rN
     ·simp
     ·intro i h1 h2;simp[aU,h2]
    refine ayh ((Walks.tuple hh3 _ l hneI items).toS) s.heap.objs.size hSf (λi=>ns.getD i 0) hval hb (items.size-0) 0 _ #[] 0 _ (by omega) (dN _)
     ⟨⟨_,aM _ rfl,rfl,rfl⟩,(hl1.push _)⟩ (aB _ hS) (SetG.empty w) (dN _) ?hR
    case hR=>
     intro s' es ep t hm ho' g' hz';rw[hns] at g';obtain⟨h',g₀,d',tk',os'⟩:=s';have eg:g₀=s.gens:=hm.gens;have ed:d'=s.drawn:=hm.drawn;have eo:os'=s.os:=hm.os;subst eg;subst ed;subst eo;show bG _ _ _ _ _ _;refine aH ?_;show bG _ _ (ret cM) _ _ _;refine aH ⟨rfl,h',tk',es,ep,t,rfl,ho',g',hz',λb o e=>?_⟩
     have hlt:=aN e;have hb1:b≠s.heap.objs.size:=bI hlt;have hb2:b≠(s.heap.push (fresh0 w)).objs.size:=by
      rw[bU];exact bI (rC hlt)
     exact hm.heap b o (by simp only[bA,dF,cI,or_false,not_or];exact⟨hb1,hb2⟩) (aB _ (aB _ e))
   ·cases r₂ with
    |error e=>exact hr₂
    |ok fl₂=>
     cases fl₂ with
     |ret r=>
      obtain⟨rfl,h',tk,es,ep,t,rfl,hS',g',hz',hk'⟩:=hr₂
      repeat (any_goals (first |assumption |wp_step))
      exact h _ _ _ _ _ hS' g' hz' hk'
     |_=>exact hr₂.elim
  |_=>exact hr.elim
end
def ah6:entryFor table "set.__iter__"=ZZ iM.«frozenset.__iter__» :=
 entryFor_alias (id' := "frozenset.__iter__") (by kernel_rfl) rfl (by decide +kernel) (by kernel_rfl)
def jk:Slot "set_iterator" "__next__" "set_iterator.__next__" :=
 .of (owner := "set_iterator") (n := "__next__") (by rw[typeLookup_type,builtinLookup_eq_fast];kernel_rfl) (by decide +kernel) (by decide +kernel) (by decide +kernel)
  (by first |exact .inl (by decide +kernel) |exact .inr (by decide +kernel)) (by rw[isSubtype_type];kernel_rfl)
def yc:entryFor table "set_iterator.__next__"=ZZ iM.«set_iterator.__next__» := entryFor_of_tree (by kernel_rfl)
def afi:Slot "set_iterator" "__iter__" "set_iterator.__iter__" :=
 .of (owner := "set_iterator") (n := "__iter__") (by rw[typeLookup_type,builtinLookup_eq_fast];kernel_rfl) (by decide +kernel) (by decide +kernel) (by decide +kernel)
  (by first |exact .inl (by decide +kernel) |exact .inr (by decide +kernel)) (by rw[isSubtype_type];kernel_rfl)
def aj6:entryFor table "set_iterator.__iter__"=ZZ iM.«dict_keyiterator.__iter__» :=
 entryFor_alias (id' := "dict_keyiterator.__iter__") (by kernel_rfl) rfl (by decide +kernel) (by kernel_rfl)
def aol:Manifest.owners.lookup (String.ofList ['r','o','t','a','r','e','t','i','_','t','e','s'].reverse)=ZZ Manifest.sig_set_iterator:=by kernel_rfl
def aaa(a:aG):tX "set_iterator.__next__" ⟨[a],[]⟩:=by
 unfold tX;rw[signature?_of (id := "set_iterator.__next__") (n:=['_','_','t','x','e','n','_','_']) (o:=['r','o','t','a','r','e','t','i','_','t','e','s']) (by kernel_rfl) aol];kernel_rfl
def amn(a:aG):tX "set_iterator.__iter__" ⟨[a],[]⟩:=by
 unfold tX;rw[signature?_of (id := "set_iterator.__iter__") (n:=['_','_','r','e','t','i','_','_']) (o:=['r','o','t','a','r','e','t','i','_','t','e','s']) (by kernel_rfl) aol];kernel_rfl
def IsSI(h:eE)(I S:aQ)(first:aG)(i n ep:Nat):Prop:=∃o,h.get? I=ZZ o/\o.cls=.type "set_iterator" /\ o.data=.fields #[first,.int i 0,.ref S,.int n 0,.int ep 0]
def IsSI.typeIs{s:aJ}{I S:aQ}{first:aG}{i n ep:Nat}(x:IsSI s.heap I S first i n ep):s.TypeIs (.ref I) "set_iterator" := let ⟨o,ho,hc,_⟩:=x;⟨o,ho,hc⟩
def IsSI.at{h h':eE}{I S:aQ}{first:aG}{i n ep:Nat}(x:IsSI h I S first i n ep)(e:∀o,h.get? I=ZZ o->h'.get? I=ZZ o):IsSI h' I S first i n ep:=let ⟨o,ho,r⟩:=x;⟨o,e _ ho,r⟩
section
variable{prog:bT}{w:dB}{A:cQ}{E:aG->aJ->Prop}{s:aJ}
def amx{I S:aQ}{first:aG}{i n ep:Nat}{Q:aG->aJ->Prop}(hit:IsSI s.heap I S first i n ep)(h:Q (.ref I) s):bG (bL prog w) A (pyIter (.ref I)) Q E s:=by
 refine wpAny_pyIter_slot hit.typeIs afi (eY afi hit.typeIs aj6 ?_ (amn _));show bG _ _ (ret (.ref I)) _ _ s;exact aH ⟨_,rfl, "set_iterator", _,hit.typeIs,jk.lookup,h⟩
def aro{I S:aQ}{slot i:Nat}{es:Array (Int×Value)}{ep:Nat}{t:cZ}{Q:Option aG->aJ->Prop}{x:aG}{slot':Nat}(hit:IsSI s.heap I S (.int slot 0) i es.size ep)(ho:s.heap.get? S=ZZ (setO es ep t))(hf:t.fits es.size=ZX)
  (hn:∀(A':cQ) (Q':Option (aG×Nat)->aJ->Prop) (E':aG->aJ->Prop),Q' (ZZ (x,slot')) s->bG (bL prog w) A' (qU S slot i ep) Q' E' s)
  (hQ:∀h',IsSI h' I S (.int slot' 0) (i+1) es.size ep->cP I s.heap h'->Q (ZZ x) { s with heap:=h' }) :
  bG (bL prog w) A (nT (.ref I)) Q E s:=by
 obtain⟨o,hI,hc,hd⟩:=id hit;unfold nT;refine aA (wpAny_attempt (dU (name:=jL "__next__") hit.typeIs jk
  (eY jk hit.typeIs yc ?_ (aaa _))))
 refine aA (aH ?_);refine aA (wpAny_fieldsOf hI hd ?_);dsimp only;refine aA (wpAny_setEntries_of ho rfl hf ?_);rw[if_neg (by simp)]
 simp only[dZ];refine aA (hn _ _ _ ?_);dsimp only;refine aA (eX hI hd (by simp) ?_)
 have h1:=bM (jT (·.setIfInBounds 0 (iI (slot':Int)))) hI (eU (bQ hd _));refine aA (eX h1 (bQ hd _) (by simp) ?_)
 refine aH ⟨_,rfl,aH (hQ _ ?_ ((cL ..).trans (cL ..)))⟩;exact⟨_,bM _ h1 (eU (bQ (bQ hd _) _)),(jU ..).trans ((jU ..).trans hc),by
  rw[bQ (bQ hd _)];simp[iI]⟩
def axb{I S:aQ}{slot i:Nat}{es:Array (Int×Value)}{ep:Nat}{t:cZ}{Q:Option aG->aJ->Prop}(hh:A.handled=ZY)(hit:IsSI s.heap I S (.int slot 0) i es.size ep)(ho:s.heap.get? S=ZZ (setO es ep t))(hf:t.fits es.size=ZX)
  (hn:∀(A':cQ) (Q':Option (aG×Nat)->aJ->Prop) (E':aG->aJ->Prop),Q' ZY s->bG (bL prog w) A' (qU S slot i ep) Q' E' s)
  (hQ:∀h',vR I s.heap h'->Q ZY { s with heap:=h' }):bG (bL prog w) A (nT (.ref I)) Q E s:=by
 obtain⟨o,hI,hc,hd⟩:=id hit;unfold nT;refine aA (wpAny_attempt (dU (name:=jL "__next__") hit.typeIs jk
  (eY jk hit.typeIs yc ?_ (aaa _))))
 refine aA (aH ?_);refine aA (wpAny_fieldsOf hI hd ?_);dsimp only;refine aA (wpAny_setEntries_of ho rfl hf ?_);rw[if_neg (by simp)]
 simp only[dZ];refine aA (hn _ _ _ ?_);dsimp only;refine aA (eX hI hd (by simp) ?_)
 show bG _ _ (newExc (.type "StopIteration") [] >>= _) _ _ _;refine aA ?_;simp only[newExc,newTuple];refine aA (cA ?_ (by size_fits))
 refine aA (m:=firstArgMember _ _) (wpAny_of_eq (a:=cM) (by first |rfl | (simp only[firstArgMember];rfl)) ?_)
 refine cA ?_ (by size_fits)
 simp only[raiseNew];refine aA (wpAny_handled ?_);rw[show A.in1.handled=ZY from hh]
 refine aA (aH (wpAny_throw ?_));refine aA (wpAny_isInstance (T := "StopIteration") (b:=ZX) ⟨_,aM _ rfl,rfl⟩ isSubtype_stop ?_);exact aH (hQ _ (((cL ..).extBut.push _).push _))
def avn{I S q:aQ}{i j m:Nat}{es:Array (Int×Value)}{ep:Nat}{t:cZ}{Q:Option aG->aJ->Prop}{x:Int×Value}{ps:Array aG}(hit:IsSI s.heap I S (.ref q) i es.size ep)(ho:s.heap.get? S=ZZ (setO es ep t))(hf:t.fits es.size=ZX)
  (hq:∃oq,s.heap.get? q=ZZ oq/\oq.data=.seq ps m) (hp:ps[i]? = ZZ (.int (j:Nat) 0)) (hx:es[j]? = ZZ x)
  (hQ:∀h',IsSI h' I S (.ref q) (i+1) es.size ep->cP I s.heap h'->Q (ZZ x.2) { s with heap:=h' }) :
  bG (bL prog w) A (nT (.ref I)) Q E s:=by
 obtain⟨o,hI,hc,hd⟩:=id hit;obtain⟨oq,hoq,hdq⟩:=hq;unfold nT;refine aA (wpAny_attempt (dU (name:=jL "__next__") hit.typeIs jk
  (eY jk hit.typeIs yc ?_ (aaa _))))
 refine aA (aH ?_);refine aA (wpAny_fieldsOf hI hd ?_);dsimp only;refine aA (wpAny_setEntries_of ho rfl hf ?_);rw[if_neg (by simp)]
 refine aA (dY hoq hdq ?_);dsimp only;simp only[dZ,hp];unfold setNextDrawn;refine aA (aA (wpAny_setState_of ho rfl hf ?_));dsimp only;rw[if_neg (by simp)]
 rw[hx];refine aH ?_;refine aA (eX hI hd (by simp) ?_)
 refine aH ⟨_,rfl,aH (hQ _ ?_ (cL ..))⟩;exact⟨_,bM _ hI (eU (bQ hd _)),(jU ..).trans hc,by
  rw[bQ hd];simp[iI]⟩
def akt{I S q:aQ}{i m:Nat}{es:Array (Int×Value)}{ep:Nat}{t:cZ}{Q:Option aG->aJ->Prop}{ps:Array aG}(hh:A.handled=ZY)(hit:IsSI s.heap I S (.ref q) i es.size ep)(ho:s.heap.get? S=ZZ (setO es ep t))(hf:t.fits es.size=ZX)
  (hq:∃oq,s.heap.get? q=ZZ oq/\oq.data=.seq ps m) (hp:ps[i]? = ZY)
  (hQ:∀h',vR I s.heap h'->Q ZY { s with heap:=h' }):bG (bL prog w) A (nT (.ref I)) Q E s:=by
 obtain⟨o,hI,hc,hd⟩:=id hit;obtain⟨oq,hoq,hdq⟩:=hq;unfold nT;refine aA (wpAny_attempt (dU (name:=jL "__next__") hit.typeIs jk
  (eY jk hit.typeIs yc ?_ (aaa _))))
 refine aA (aH ?_);refine aA (wpAny_fieldsOf hI hd ?_);dsimp only;refine aA (wpAny_setEntries_of ho rfl hf ?_);rw[if_neg (by simp)]
 refine aA (dY hoq hdq ?_);dsimp only;simp only[dZ,hp];refine aA (eX hI hd (by simp) ?_)
 have h1:=bM (jT (·.setIfInBounds 0 (iI 0))) hI (eU (bQ hd _));refine aA (eX h1 (bQ hd _) (by simp) ?_)
 show bG _ _ (newExc (.type "StopIteration") [] >>= _) _ _ _;refine aA ?_;simp only[newExc,newTuple];refine aA (cA ?_ (by size_fits))
 refine aA (m:=firstArgMember _ _) (wpAny_of_eq (a:=cM) (by first |rfl | (simp only[firstArgMember];rfl)) ?_)
 refine cA ?_ (by size_fits)
 simp only[raiseNew];refine aA (wpAny_handled ?_);rw[show A.in1.handled=ZY from hh]
 refine aA (aH (wpAny_throw ?_));refine aA (wpAny_isInstance (T := "StopIteration") (b:=ZX) ⟨_,aM _ rfl,rfl⟩ isSubtype_stop ?_);exact aH (hQ _ ((((cL ..).trans (cL ..)).extBut.push _).push _))
end
section
variable{prog:bT}{w:dB}{A:cQ}{E:aG->aJ->Prop}{s:aJ}
def ahq{Q:Bool->aJ->Prop}(h:Q (w.params.followText "set-order") s):bG (bL prog w) A setsByText Q E s:=by
 unfold setsByText;exact aA (wpAny_askSetting (aH h))
def aqa{S:aQ}{slot g i j:Nat}{es:Array (Int×Value)}{ep:Nat}{t:cZ}{e:Int×Value}{Q:Option (aG×Nat)->aJ->Prop}(ho:s.heap.get? S=ZZ (setO es ep t))(hf:t.fits es.size=ZX)
  (hw:w.params.followText "set-order"=ZW) (hd:(!t.plain&&decide (es.size > 1))=ZW) (hl:t.led=ZX) (hb:fJ t.place slot=i) (he:es[i]? = ZZ e) (hp:t.place[i]? = ZZ j)
  (h:Q (ZZ (e.2,j+1)) s):bG (bL prog w) A (qU S slot g ep) Q E s:=by
 unfold qU;refine aA (wpAny_setState_of ho rfl hf ?_);dsimp only;refine aA (ahq ?_);rw[hw,if_neg (by simp)]
 show bG _ _ (if (!t.plain&&decide (es.size > 1))=ZX then _ else _) _ _ _
 rw[hd,if_neg (by simp)]
 refine aA (m:=if (!t.led && !es.isEmpty)=ZX then _ else _) ?_
 rw[hl,if_neg (by simp)]
 refine aH ?_;rw[hb,he,hp];exact aH h
def asw{S:aQ}{slot g i:Nat}{es:Array (Int×Value)}{ep:Nat}{t:cZ}{Q:Option (aG×Nat)->aJ->Prop}(ho:s.heap.get? S=ZZ (setO es ep t))(hf:t.fits es.size=ZX)
  (hw:w.params.followText "set-order"=ZW) (hd:(!t.plain&&decide (es.size > 1))=ZW) (hl:t.led=ZX) (hb:fJ t.place slot=i) (he:es[i]? = ZY)
  (h:Q ZY s):bG (bL prog w) A (qU S slot g ep) Q E s:=by
 unfold qU;refine aA (wpAny_setState_of ho rfl hf ?_);dsimp only;refine aA (ahq ?_);rw[hw,if_neg (by simp)]
 show bG _ _ (if (!t.plain&&decide (es.size > 1))=ZX then _ else _) _ _ _
 rw[hd,if_neg (by simp)]
 refine aA (m:=if (!t.led && !es.isEmpty)=ZX then _ else _) ?_
 rw[hl,if_neg (by simp)]
 refine aH ?_;rw[hb,he];exact aH h
def alg{S:aQ}{slot g:Nat}{es:Array (Int×Value)}{ep:Nat}{t:cZ}{Q:Option (aG×Nat)->aJ->Prop}(ho:s.heap.get? S=ZZ (setO es ep t))(hf:t.fits es.size=ZX)
  (hw:w.params.followText "set-order"=ZX) (h:Q (((lC (w.params.setOrder S ep) es)[g]?).map λe=>(e.2,slot)) s):bG (bL prog w) A (qU S slot g ep) Q E s:=by
 unfold qU;refine aA (wpAny_setState_of ho rfl hf ?_);dsimp only;refine aA (ahq ?_);rw[hw,if_pos rfl,if_neg (by simp)]
 unfold setWalk;refine aA (aA (wpAny_setState_of ho rfl hf ?_));dsimp only;refine aA (ahq ?_);rw[hw,if_pos rfl];exact aA (wpAny_askSetting (aH (aH h)))
theorem ae9{α:Type}:∀(l:List α) (i:Nat) (x:α),l[i]? = ZZ x->(x::l.eraseIdx i).Perm l
 | [],i,x,h=>by simp at h
 |a::r,0,x,h=>by simp at h;subst h;exact .refl _
 |a::r,i+1,x,h=>by
  rw[fD] at h;exact(List.Perm.swap a x _).trans ((ae9 r i x h).cons a)
theorem ase{α:Type}(next:Nat->Nat):∀(fuel k:Nat) (left:List α) (out:Array α),left.length=fuel->(lC.go next fuel k left out).toList.Perm (out.toList++left)
 | 0,k,left,out,h=>by
  have:left=[]:=uI.mp h;subst this;show out.toList.Perm _;simp
 |fuel+1,k,left,out,h=>by
  have hlt:next k % left.length<left.length:=Nat.mod_lt _ (by omega)
  unfold lC.go;have hx:left[next k % left.length]? = ZZ left[next k % left.length]:=aF hlt;rw[hx];dsimp only;have hlen:(left.eraseIdx (next k % left.length)).length=fuel:=by rw[sZ hlt];omega
  refine(ase next fuel (k+1) _ _ hlen).trans ?_;rw[xR,gB];exact List.Perm.append_left _ (ae9 _ _ _ hx)
def agp{α:Type}(next:Nat->Nat)(xs:Array α):(lC next xs).toList.Perm xs.toList:=by
 have:=ase next xs.size 0 xs.toList #[] (by simp)
 simpa[lC] using this
theorem aiw:∀(n:Nat) {α:Type} (xs:List α) (s:aJ) (Q:List α->aJ->Prop),xs.length=n->(∀ys d,ys.Perm xs->Q ys { s with drawn:=d })->bG (bL prog w) A (drawOrder n xs) Q E s
 | 0,α,xs,s,Q,h,q=>by
  have:xs=[]:=uI.mp h;subst this;exact aH (q [] s.drawn (.refl _))
 |n+1,α,[],s,Q,h,q=>by cases h
 |n+1,α,x::r,s,Q,h,q=>by
  unfold drawOrder;intro Γ p hΓ;show(x::r).length≠0/\_;refine⟨by simp,?_⟩
  revert Γ p hΓ
  show bG _ _ (match (x::r)[(bL prog w).w.draws .order (s.drawn.get .order) % (x::r).length]? with |some y=>_ |none=>_) _ _ _
  have hlt:(bL prog w).w.draws .order (s.drawn.get .order) % (x::r).length<(x::r).length:=Nat.mod_lt _ (by simp)
  have hx:=aF hlt;rw[hx];refine aA (aiw n _ _ _ (by rw[sZ hlt];simpa using h) λys d hp=>?_)
  exact aH (q _ _ ((hp.cons _).trans (ae9 _ _ _ hx)))
end
def PW(ord:Array (Int×Value))(i:Nat)(v:aG):Prop:=∃e,ord[i]? = ZZ e/\v=e.2
def amz{h h':eE}{I S:aQ}{o:Obj}(hne:S≠I)(ho:h.get? S=ZZ o)(hs:cP I h h'):h'.get? S=ZZ o:=(hs.2 S hne).trans ho
def atx{t:cZ}{n:Nat}(h:t.fits n=ZX):t.place.size=n:=by
 unfold SetTable.fits at h;rw[bB] at h;exact eq_of_beq h.1
section
variable{prog:bT}{w:dB}{A:cQ}
def ave(hh:A.handled=ZY)(I S:aQ)(hne:S≠I){es:Array (Int×Value)}{ep:Nat}{t:cZ}(hf:t.fits es.size=ZX)(hw:w.params.followText "set-order"=ZX) :
  Walks prog w A I [I,S] [I] es.size (PW (lC (w.params.setOrder S ep) es)) (λi h=>IsSI h I S (.int (0:Nat) 0) i es.size ep/\h.get? S=ZZ (setO es ep t)) where
 sub:=λb hb=>by simp at hb;simp[hb]
 frame:=λ_ _ _ st hk=>⟨st.1.at λo e=>hk I (by simp) o e,hk S (by simp) _ st.2⟩
 item:=λi s Q E hi st hQ=>by
  have hsz:(lC (w.params.setOrder S ep) es).size=es.size:=by rw[<-bN,(agp _ _).length_eq,bN]
  have hx:(lC (w.params.setOrder S ep) es)[i]? = ZZ (lC (w.params.setOrder S ep) es)[i]:=by simp[hsz,hi]
  refine aro (x:=((lC (w.params.setOrder S ep) es)[i]).2) (slot':=0) st.1 st.2 hf (λA' Q' E' q=>alg st.2 hf hw (by rw[hx];exact q)) λh' hit' hs'=>?_
  exact hQ _ h' s.toks ⟨_,hx,rfl⟩ ⟨hit',amz hne st.2 hs'⟩ λb o hb e=>hs'.extBut b o (λh=>hb (by simp[h])) e
 done:=λs Q E st hQ=>by
  have hsz:(lC (w.params.setOrder S ep) es).size=es.size:=by rw[<-bN,(agp _ _).length_eq,bN]
  refine axb hh st.1 st.2 hf (λA' Q' E' q=>alg st.2 hf hw (by rw[uL (by omega)];exact q)) λh' he'=>hQ h' s.toks λb o hb e=>he' b o (λh=>hb (by simp[h])) e
 self:=λ_ _ _ _ st hQ=>amx st.1 hQ
def aq3(hh:A.handled=ZY)(I S:aQ)(hne:S≠I){es:Array (Int×Value)}{ep:Nat}{t:cZ}(hf:t.fits es.size=ZX)(hw:w.params.followText "set-order"=ZW)(hr:Rise t)(hd:(!t.plain&&decide (es.size > 1))=ZW)(hl:t.led=ZX) :
  Walks prog w A I [I,S] [I] es.size (PW es) (λi h=>(∃slot:Nat,fJ t.place slot=i/\IsSI h I S (.int slot 0) i es.size ep)/\h.get? S=ZZ (setO es ep t)) where
 sub:=λb hb=>by simp at hb;simp[hb]
 frame:=λ_ _ _ ⟨⟨slot,hb,st⟩,ho⟩ hk=>⟨⟨slot,hb,st.at λo e=>hk I (by simp) o e⟩,hk S (by simp) _ ho⟩
 item:=λi s Q E hi ⟨⟨slot,hb,st⟩,ho⟩ hQ=>by
  have hx:es[i]? = ZZ es[i]:=by simp[hi]
  have hps:=atx hf;have hp:t.place[i]? = ZZ (t.place[i]):=by simp[hps,hi]
  refine aro (x:=(es[i]).2) (slot':=t.place[i]+1) st ho hf (λA' Q' E' q=>aqa ho hf hw hd hl hb hx hp q) λh' hit' hs'=>?_
  exact hQ _ h' s.toks ⟨_,hx,rfl⟩ ⟨⟨_,aqq hr hp,hit'⟩,amz hne ho hs'⟩ λb o hb e=>hs'.extBut b o (λh=>hb (by simp[h])) e
 done:=λs Q E ⟨⟨slot,hb,st⟩,ho⟩ hQ=>by
  refine axb hh st ho hf (λA' Q' E' q=>asw ho hf hw hd hl hb (uL (aP _)) q) λh' he'=>hQ h' s.toks λb o hb e=>he' b o (λh=>hb (by simp[h])) e
 self:=λ_ _ _ _ ⟨⟨slot,hb,st⟩,ho⟩ hQ=>amx st hQ
def aq4(hh:A.handled=ZY)(I S q:aQ)(hne:S≠I)(hq:q≠I){es:Array (Int×Value)}{ep:Nat}{t:cZ}(hf:t.fits es.size=ZX)(js:List Nat)(hj:js.Perm (bW es.size)) :
  Walks prog w A I [I,S,q] [I] es.size (PW (js.map λj=>es.getD j (0,.none)).toArray) (λi h=>IsSI h I S (.ref q) i es.size ep/\h.get? S=ZZ (setO es ep t)/\∃oq m,h.get? q=ZZ oq/\oq.data=.seq (js.map λ(j:Nat)=>iI j).toArray m) where
 sub:=λb hb=>by simp at hb;simp[hb]
 frame:=λ_ _ _ ⟨st,ho,oq,m,h1,h2⟩ hk=>⟨st.at λo e=>hk I (by simp) o e,hk S (by simp) _ ho,oq,m,hk q (by simp) _ h1,h2⟩
 item:=λi s Q E hi ⟨st,ho,oq,m,h1,h2⟩ hQ=>by
  have hlen:js.length=es.size:=by rw[hj.length_eq,jW]
  have hjlt:js[i]<es.size:=iJ.mp (hj.mem_iff.mp (dJ (by omega)))
  have hx:es[js[i]]? = ZZ es[js[i]]:=by simp[hjlt]
  refine avn (j:=js[i]) (x:=es[js[i]]) st ho hf ⟨oq,h1,h2⟩ (by simp[hlen,hi,iI]) hx λh' hit' hs'=>?_
  refine hQ _ h' s.toks ⟨es[js[i]],?_,rfl⟩ ⟨hit',amz hne ho hs',oq,m,(hs'.2 q hq).trans h1,h2⟩ λb o hb e=>hs'.extBut b o (λh=>hb (by simp[h])) e
  simp[hlen,hi,xT,hjlt]
 done:=λs Q E ⟨st,ho,oq,m,h1,h2⟩ hQ=>by
  have hlen:js.length=es.size:=by rw[hj.length_eq,jW]
  refine akt hh st ho hf ⟨oq,h1,h2⟩ (by simp[hlen]) λh' he'=>hQ h' s.toks λb o hb e=>he' b o (λh=>hb (by simp[h])) e
 self:=λ_ _ _ _ st hQ=>amx st.1 hQ
variable{E:aG->aJ->Prop}{s:aJ}
def arq{S:aQ}{es:Array (Int×Value)}{ep:Nat}{t:cZ}{Q:Bool->aJ->Prop}(ho:s.heap.get? S=ZZ (setO es ep t))(hf:t.fits es.size=ZX)(h:Q (!w.params.followText "set-order" && (!t.plain&&decide (es.size > 1))) s) :
  bG (bL prog w) A (setDrawn S) Q E s:=by
 unfold setDrawn;refine aA (wpAny_setState_of ho rfl hf ?_);dsimp only;refine aA (ahq ?_);exact aH h
theorem avp{S:aQ}{es:Array (Int×Value)}{ep:Nat}{t:cZ}{ns:List Int}{Q:aG->aJ->Prop}(ho:s.heap.get? S=ZZ (setO es ep t))(G:SetG w es t ns)(hb:es.size<nR)
  (h:∀(I:aQ) (fp:List aQ) (St:Nat->eE->Prop) (ord:Array (Int×Value)) (s':aJ),(∀A':cQ,A'.handled=ZY->Walks prog w A' I fp [I] es.size (PW ord) St)->St 0 s'.heap->ord.toList.Perm es.toList ->
   s.heap.objs.size<=I->(∀b∈fp,b=S∨s.heap.objs.size<=b)->(∀b o,s.heap.get? b=ZZ o->s'.heap.get? b=ZZ o)->s'.gens=s.gens->s'.os=s.os->s'.toks=s.toks->Q (.ref I) s') :
  bG (bL prog w) A (pyIter (.ref S)) Q E s:=by
 have hT:s.TypeIs (.ref S) "set" := ⟨_,ho,rfl⟩;have hSlt:S<s.heap.objs.size:=aN ho;refine wpAny_pyIter_slot hT yL (eY yL hT ah6 ?_ (F.args_set_iter_1 _));show bG _ _ (pure S >>= _) _ _ s;refine aA (aH ?_);unfold Builtin.Frozenset.sizeOf;refine aA (aA (wpAny_setEntries_of ho rfl G.fit (aH ?_)));refine aA (arq ho G.fit ?_);cases hw:w.params.followText "set-order" with
 |true=>
  rw[Bool.not_true,tW,if_neg (by simp)]
  refine aA (aH ?_);refine aA (wpAny_setEpoch_of ho rfl G.fit ?_);refine aA (cA (aH ⟨_,rfl, "set_iterator", _,⟨_,aM _ rfl,rfl⟩,jk.lookup,?_⟩));refine h s.heap.objs.size [s.heap.objs.size,S] _ _ _ (λA' hh=>ave hh _ S (bI hSlt) G.fit hw) ⟨⟨_,aM _ rfl,rfl,rfl⟩,aB _ ho⟩ (agp _ _) (aP _) (λb hb=>?_) (λb o e=>aB _ e) rfl rfl rfl
  simp only[bA,cI,or_false] at hb;rcases hb with rfl |rfl
  ·exact .inr (aP _)
  ·exact .inl rfl
 |false=>
  have hl:t.led=ZX:=by
   have:=G.kept.2;rw[hw] at this;exact this
  cases hd:(!t.plain&&decide (es.size > 1)) with
  |false=>
   rw[yW,if_neg (by simp)]
   refine aA (aH ?_);refine aA (wpAny_setEpoch_of ho rfl G.fit ?_);refine aA (cA (aH ⟨_,rfl, "set_iterator", _,⟨_,aM _ rfl,rfl⟩,jk.lookup,?_⟩));refine h s.heap.objs.size [s.heap.objs.size,S] _ _ _ (λA' hh=>aq3 hh _ S (bI hSlt) G.fit hw G.kept.1 hd hl) ⟨⟨0,aqp G.kept.1,_,aM _ rfl,rfl,rfl⟩,aB _ ho⟩ (.refl _) (aP _) (λb hb=>?_) (λb o e=>aB _ e) rfl rfl rfl
   simp only[bA,cI,or_false] at hb;rcases hb with rfl |rfl
   ·exact .inr (aP _)
   ·exact .inl rfl
  |true=>
   rw[Bool.not_false,mH,if_pos rfl];refine aA (aiw _ (bW es.size) _ _ jW λjs d hj=>?_)
   have hlen:js.length=es.size:=by rw[hj.length_eq,jW]
   simp only[newTuple];refine aA (cA ?_ (by show(js.map λ(i:Nat)=>iI i).toArray.size<=cJ;rw[aW,aL,hlen];exact fits_of_scanBound hb))
   refine aA (wpAny_setEpoch_of (aB _ ho) rfl G.fit ?_);refine aA (cA (aH ⟨_,rfl, "set_iterator", _,⟨_,aM _ rfl,rfl⟩,jk.lookup,?_⟩));have hq:∀o:Obj,s.heap.objs.size≠(s.heap.push o).objs.size:=λo=>by rw[bU];exact bI (jE _)
   have hS2:∀o:Obj,S≠(s.heap.push o).objs.size:=λo=>by rw[bU];exact bI (rC hSlt)
   refine h _ _ _ _ _ (λA' hh=>aq4 hh _ S s.heap.objs.size (hS2 _) (hq _) G.fit js hj) ⟨⟨_,aM _ rfl,rfl,rfl⟩,aB _ (aB _ ho),_,_,aB _ (aM _ rfl),rfl⟩ ?_ ?_ (λb hb=>?_) (λb o e=>aB _ (aB _ e)) rfl rfl rfl
   ·refine(hj.map _).trans ?_;have e:(bW es.size).map (λj=>es.getD j (0,cM))=es.toList:=by
     apply rN
     ·simp
     ·intro i h1 h2;have h3:i<es.size:=by simpa using h2
      simp[xT,h3]
    rw[e]
   ·rw[bU];exact kO _
   ·simp only[bA,cI,or_false] at hb;rcases hb with rfl |rfl |rfl
    ·right;rw[bU];exact kO _
    ·exact .inl rfl
    ·exact .inr (aP _)
end
def ahx:typeLookup (.type "set") "__len__"=pure (ZZ (.builtin "set.__len__")):=by rw[typeLookup_type,builtinLookup_eq_fast];kernel_rfl
theorem afo:∀{es:List (Int×Value)},(∀e∈es,Ent e)->oN (es.map (·.2)) (es.map keyE)
 | [],_=>.nil
 |e::r,h=>by
  obtain⟨k,u,he⟩:=h e (aZ ..);subst he;exact .cons k u (afo λe he=>h e (aR _ he))
def atb{ord:Array (Int×Value)}{acc:Array aG}{n:Nat}(h:ItemsOf (PW ord) acc n)(hn:ord.size=n):acc.toList=ord.toList.map (·.2):=by
 apply rN
 ·rw[aL,bN,bN,h.1,hn]
 ·intro i h1 h2;obtain⟨e,he,hv⟩:=h.2 i acc.toList[i] (by rw[<-pP];exact aF h1)
  rw[hv,List.getElem_map];rw[<-pP] at he;have h3:i<ord.toList.length:=by simpa using h2
  rw[aF h3] at he;cases he;rfl
def ark{h:eE}{a:aQ}{xs:Array aG}{n:Nat}(ho:h.get? a=ZZ (seqObj "list" xs n))(vs:List aG)(out:Array aG):∃m,(sortedHeap h a vs out).get? a=ZZ (seqObj "list" out m) :=
 ⟨_,get?_update_seq (aB _ (aB _ (get?_update_seq ho (λ_ => #[])))) (λ_=>out)⟩
def apt{h:eE}{a b:aQ}{o:Obj}{vs:List aG}{out:Array aG}(e:h.get? b=ZZ o)(hb:b≠a):(sortedHeap h a vs out).get? b=ZZ o :=
 (bH _ _ (gG hb)).trans (aB _ (aB _ ((bH _ _ (gG hb)).trans e)))
section
variable{prog:bT}{w:dB}{A:cQ}{E:aG->aJ->Prop}{s:aJ}
def an1{S:aQ}{es:Array (Int×Value)}{ep:Nat}{t:cZ}{ns:List Int}{Q:List aG->aJ->Prop}(hh:A.handled=ZY)(ho:s.heap.get? S=ZZ (setO es ep t))(G:SetG w es t ns)(hb:es.size<nR)
  (hQ:∀(s':aJ) (acc:List aG) (ks:List Int),s.heap.objs.size<s'.heap.objs.size->(∀b o,s.heap.get? b=ZZ o->s'.heap.get? b=ZZ o)->s'.gens=s.gens->s'.os=s.os->oN acc ks->ks.Perm (es.toList.map keyE)->Q acc s') :
  bG (bL prog w) A (collect (.ref S)) Q E s:=by
 have hSlt:S<s.heap.objs.size:=aN ho;unfold collect;refine aA (wpAny_runValue (codeAny_builtin F.entry_proto_collect ?_));rw[kE F.plain_proto_collect _];show bG _ A.in1 (newList [] >>= λl=>again (.builtin "list.__iadd__" ⟨[l,.ref S],[]⟩)) _ _ s
 refine aA (cA ?_);refine aH ⟨plainId_quiet xM _,codeAny_builtin F.entry_list_iadd ?_⟩;rw[kE xM _];have ho1:(s.heap.push { cls:=.type "list", data:=.seq ([]:List aG).toArray }).get? S=ZZ (setO es ep t):=aB _ ho;have hL:(s.heap.push { cls:=.type "list", data:=.seq ([]:List aG).toArray }).get? s.heap.objs.size=ZZ { cls:=.type "list", data:=.seq ([]:List aG).toArray }:=aM _ rfl;have hold:∀b o,s.heap.get? b=ZZ o->(s.heap.push { cls:=.type "list", data:=.seq ([]:List aG).toArray }).get? b=ZZ o:=λb o e=>aB _ e
 have hsz1:(s.heap.push { cls:=.type "list", data:=.seq ([]:List aG).toArray }).objs.size=s.heap.objs.size+1:=bU _ _;show bG _ A.in1 (sX (.ref s.heap.objs.size) (.ref S) (.ref s.heap.objs.size)) _ _ { s with heap:=s.heap.push { cls:=.type "list", data:=.seq ([]:List aG).toArray } }
 generalize s.heap.push { cls:=.type "list", data:=.seq ([]:List aG).toArray }=H1 at ho1 hL hold hsz1 ⊢
 unfold sX;refine aA (wpAny_typeOf (T := "set") ⟨_,ho1,rfl⟩ ?_);have h1:uB (.ref s.heap.objs.size) (.ref S)=ZW:=by simp[uB,fL hSlt]
 have h2:(jG "set" == jG "list")=ZW:=by decide
 have h3:(jG "set" == jG "tuple")=ZW:=by decide
 simp only[h1,h2,h3,zG,jJ,if_false];refine aA (avp (s:={ s with heap:=H1 }) ho1 G hb λI fp St ord s2 W hst hord hI hfp hk2 hg2 ho2 ht2=>?_)
 have hSs:s2.heap.get? S=ZZ (setO es ep t):=hk2 _ _ ho1;have hLs:s2.heap.get? s.heap.objs.size=ZZ { cls:=.type "list", data:=.seq ([]:List aG).toArray }:=hk2 _ _ hL;refine aA (eG ?_);unfold Builtin.List.listLengthHint;refine aA (wpAny_specialOf (T := "set") ⟨_,hSs,rfl⟩ ahx ?_);generalize hid:("set.__len__" : String)=id0
 wp_delta
 rw[show splitId id0=ZZ ("set","__len__") from by subst hid;decide +kernel]
 subst hid;refine aA (wpAny_isInstance (T := "set") (b:=ZX) ⟨_,hSs,rfl⟩ (by rw[isSubtype_type];kernel_rfl) ?_)
 show bG _ A.in1 (typeOf (cH S) >>= _) _ _ _;refine aA (wpAny_typeOf (T := "set") ⟨_,hSs,rfl⟩ ?_);refine aH ?_;rw[if_pos (by decide)]
 refine aA (jF ?_);refine aA ?_;show bG _ A.in1 (updateSeq s.heap.objs.size (·.push .none) >>= λ_=>updateSeq s.heap.objs.size (·.pop)) _ _ _
 refine aA (wpAny_updateSeq hLs rfl ?_);have hS₂:=bM (iH (·.push cM)) hLs rfl;refine wpAny_updateSeq hS₂ rfl ?_;have hS₃:=bM (iH (·.pop)) hS₂ rfl;have oth:∀b o,b≠s.heap.objs.size->s2.heap.get? b=ZZ o ->
   ((s2.heap.update s.heap.objs.size (iH (·.push cM))).update s.heap.objs.size (iH (·.pop))).get? b=ZZ o :=
  λb o hb e=>(bH _ _ (gG hb)).trans ((bH _ _ (gG hb)).trans e)
 have hSf:s.heap.objs.size∉fp:=λhm=>by
  rcases hfp _ hm with e |e
  ·exact fL hSlt e
  ·have e':s.heap.objs.size+1<=s.heap.objs.size:=hsz1▸e;exact Nat.not_succ_le_self _ e'
 have hIne:s.heap.objs.size+1<=I:=hsz1▸hI;refine aH ⟨plainId_quiet F.plain_extend_loop _,codeAny_extend_loopS (W A.in1 hh).toS (fits_of_scanBound hb) _ hSf _ es.size 0 _ _ _ rfl (dN _)
  ((W A.in1 hh).frame 0 s2.heap _ hst λb hb o e=>oth b o (λh=>hSf (h▸hb)) e) hS₃ (ItemsOf.nil _) λs' acc' c' hm hS' hacc=>?_⟩
 show bG _ A (load s.heap.objs.size >>= _) _ _ s';refine aA (wpAny_load hS' ?_);have hosz:ord.size=es.size:=by rw[<-bN,hord.length_eq,bN]
 have hacc':=atb hacc hosz;refine aH (hQ s' acc'.toList (ord.toList.map keyE) (aN hS') (λb o e=>?_) (hm.gens.trans hg2) (hm.os.trans ho2) ?_ (hord.map _))
 ·have hlt:=aN e;refine hm.heap b o (λhb=>?_) (oth b o (bI hlt) (hk2 b o (hold b o e)))
  simp only[bA,cI,or_false] at hb;rcases hb with rfl |rfl
  ·exact lF _ hlt
  ·exact absurd hlt (oA.mpr (cW (kO _) hIne))
 ·rw[hacc'];exact afo λe he=>G.ent e (hord.mem_iff.mp he)
set_option maxHeartbeats 1000000 in
theorem aps{S:aQ}{es:Array (Int×Value)}{ep:Nat}{t:cZ}{ns:List Int}{Q:aG->aJ->Prop}(hh:A.handled=ZY)(ho:s.heap.get? S=ZZ (setO es ep t))(G:SetG w es t ns)(h64:es.size<64)
  (h:∀(s':aJ) (a:aQ) (out:Array aG) (m:Nat) (ns':List Int),s.heap.objs.size<=a->(∀b o,s.heap.get? b=ZZ o->s'.heap.get? b=ZZ o)->s'.gens=s.gens->s'.os=s.os->s'.heap.get? a=ZZ (seqObj "list" out m) ->
   oN out.toList ns'->ns'.Perm (es.toList.map keyE)->ns'.Pairwise (· <= ·)->Q (.ref a) s') :
  bG (bL prog w) A (call (.builtin "sorted") [.ref S]) Q E s:=by
 refine Calls.call_function_entry kind_sorted plain_sorted entry_sorted (args_sorted1 _) ?_;unfold iM.«sorted»
 refine aA (m:=checkCount "sorted" 1 1 _) (aH ?_);refine aA (an1 hh ho G (by unfold nR;omega) λs1 acc ks hlt1 hk hg hos hI hp=>?_)
 have hlen:acc.length=es.size:=by rw[hI.length,hp.length_eq,aL,bN]
 refine aA (wpAny_newList ?_);have hoL:(s1.heap.push (seqObj "list" acc.toArray 0)).get? s1.heap.objs.size=ZZ (seqObj "list" acc.toArray 0):=aM _ rfl;show bG _ _ _ _ _ { s1 with heap:=s1.heap.push (seqObj "list" acc.toArray 0) }
 refine aA (eG (eY slot_list_sort ⟨_,hoL,rfl⟩ entry_list_sort (list_sort_tree hoL hI (by omega) λout ns' a1 a2 a3=>⟨_,rfl,?_⟩) (args_list_sort _)))
 obtain⟨m,hm⟩:=ark hoL acc out;refine aH ⟨_,rfl,?_⟩;refine h _ s1.heap.objs.size out m ns' (nA hlt1) ?_ hg hos hm a1 (a2.trans hp) a3;intro b o e;exact apt (aB _ (hk b o e)) (bI (mZ (aN e) hlt1))
end
end Stt
namespace Dn
open L2 Mn
noncomputable def dedI:List Int->List Int
 | []=>[]
 |x::r=>if r.contains x then dedI r else x::dedI r
theorem aeg:∀(l:List Int) (x:Int),x∈dedI l↔x∈l
 | [],x=>.rfl
 |y::r,x=>by
  unfold dedI;split
  ·rename_i h;rw[aeg r x,bA];exact⟨.inr,λz=>z.elim (λe=>e▸List.contains_iff_mem.mp h) id⟩
  ·rw[bA,bA,aeg r x]
theorem ach:∀l:List Int,(dedI l).Nodup
 | []=>rD
 |y::r=>by
  unfold dedI;split
  ·exact ach r
  ·rename_i h;exact qP (λz hz e=>h (cO.mpr (e▸(aeg r z).mp hz))) (ach r)
theorem adg:∀l:List Int,(dedI l).length<=l.length
 | []=>aP _
 |y::r=>by
  unfold dedI;have:=adg r;split
  ·simp only[bF];omega
  ·simp only[bF];omega
theorem ad3:∀{a b:List Int},a.Nodup->b.Nodup->(∀x,x∈a↔x∈b)->a.Perm b
 | [],b,_,_,h=>by
  cases b with
  |nil=>exact .refl _
  |cons y r=>exact absurd ((h y).mpr (aZ ..)) (cI)
 |x::r,b,ha,hb,h=>by
  have hx:x∈b:=(h x).mp (aZ ..);have hp:=List.perm_cons_erase hx;refine(List.Perm.cons x (ad3 (uT ha) (hb.erase x) λy=>?_)).trans hp.symm
  rw[hb.mem_erase_iff];have hxr:x∉r:=λz=>(fU.mp ha).1 x z rfl
  constructor
  ·intro hy;exact⟨λe=>hxr (e▸hy),(h y).mp (aR _ hy)⟩
  ·rintro⟨hne,hy⟩
   exact(bA.mp ((h y).mpr hy)).resolve_left hne
def setI(ns:List Int):List Int:=sortI (dedI ns)
section
variable{K:Fg9}{X:Cx}{e a b c:dI}{es:List dI}{pos p p2:Pos}
def SetH(w:dB)(a:aQ)(ns:List Int):eE->Prop:=λh=>∃es ep t,h.get? a=ZZ (Stt.setO es ep t)/\Stt.SetG w es t ns/\es.size<=ns.length
def a7b(w:dB):List V->Hp->VK->Prop:=λvs H Q=>∃p ns,vs=[.ref p]/\H p=ZZ (.tup (ns.map V.int))/\ns.length<4000/\∀a,H a=ZY->Q (.ref a) (upd H a (.ext (SetH w a ns)))
def aw3(hc:X.calm=ZX):abi X (.type "set") (a7b X.w):=by
 intro zv s σ H xs us Q I r z9;obtain⟨p,ns,hv,hp,hz,q⟩:=z9;subst hv;obtain⟨u,rfl,ru⟩:=vals1 r;cases ru;obtain⟨its,rv,pt,_⟩:=I.tuple (SqT.of hp);have hlen:=rv.length;rw[aL] at hlen;refine Stt.a1r (I.ok.hd hc) pt (intsAre_of rv) (by rw[aW];unfold nR;omega) λh' tk es ep t ho g hsz hk=>?_
 have hn:H s.heap.objs.size=ZY:=I.hok.fresh (aP _);refine⟨.ref s.heap.objs.size,_,I.laid hk (aP _) ?_,rfl,q _ hn⟩;refine⟨⟨es,ep,t,ho,g,?_⟩,⟨_,ho⟩,λh1 h2 ⟨es,ep,t,z,g,zz⟩ k=>⟨es,ep,t,k _ z,g,zz⟩⟩
 have hsz':es.size<=its.length:=by simpa using hsz
 omega
def rcSS(w:dB):List V->Hp->VK->Prop:=λvs H Q=>∃a ns,vs=[.ref a]/\H a=ZZ (.ext (SetH w a ns))/\ns.length<64/\∀b,H b=ZY->Q (.ref b) (upd H b (.lst ((setI ns).map V.int)))
def a02(hc:X.calm=ZX):abi X (.builtin "sorted") (rcSS X.w):=by
 intro zv s σ H xs us Q I r z9;obtain⟨a,ns,hv,ha,hz,q⟩:=z9;subst hv;obtain⟨u,rfl,ru⟩:=vals1 r;cases ru;obtain⟨⟨es,ep,t,ho,g,hsz⟩,_⟩:=I.hok a _ ha;refine Stt.aps (I.ok.hd hc) ho g (by omega) λs' b out m ns' hb hk hg hos hob hI hp hs=>?_
 have hn:H b=ZY:=I.hok.fresh hb;have e':ns'=setI ns:=avm (hp.trans (ad3 g.nd (ach ns) λk=>by rw[g.mem k,aeg])) hs
 subst e';obtain⟨h',g',d',tk',os'⟩:=s';subst hg;subst hos;have I1:Inv X zv σ (upd H b (.lst ((setI ns).map V.int))) { s with heap:=h',toks:=tk' }:=I.laid hk hb ⟨by
  rw[aL];have h1:(setI ns).length=(dedI ns).length:=(sortI_perm _).length_eq;have h2:=adg ns;exact nA (arl (by omega)),out.toList,m,afg hI,by simpa using hob⟩
 exact⟨.ref b,_,⟨I1.ok,I1.os,I1.bare,I1.base,I1.loc,I1.cell,I1.free,I1.freeC,I1.pin,I1.hok,I1.len⟩,rfl,q b hn⟩
def gSet:D->Option Rv
 |.tup l=>(aap l).bind λns=>if ns.length<64 then ZZ (.fr ((setI ns).map D.int)) else ZY
 |_=>ZY
theorem al3{x y:Str}{m:M (List D)}{pp qq:Pos}{ppos:Pos}(hc:X.calm=ZX)(hg1:Gl X x)(hm1:X.mg x=ZY)(hv1:bR x=ZZ (.builtin "sorted"))(hg2:Gl X y)(hm2:X.mg y=ZY)(hv2:bR y=ZZ (.type "set"))
  (ha:EA K X [e] m) (hn1:x ≠ "__name__" := by decide) (hdb1:(x==("__debug__" : Str))=ZW:=by decide) (hn2:y ≠ "__name__" := by decide) (hdb2:(y==("__debug__" : Str))=ZW:=by decide)
  (he:aO [e] X.env=[(ZW,eval e X.env)]:=by rfl) (he2:aO [.Call (.Name y qq) [e] [] ppos] X.env=[(ZW,eval (.Call (.Name y qq) [e] [] ppos) X.env)]:=by rfl) :
  ER K X (.Call (.Name x pp) [.Call (.Name y qq) [e] [] ppos] [] pos) (gw (g1 gSet) m):=ER.mk λhk=>PE.imp (ad5 (a02 hc) hg1 hm1 hv1 (sy (ad4 (aw3 hc) hg2 hm2 hv2 (ha hk) hn2 hdb2 he rfl) ad6 he2) hn1 hdb1 he2 rfl) λσ H Q z9=>by
 obtain⟨tg,F,ρ,r,ρ',G,em,q⟩:=z9;obtain⟨ds,ρ1,e1,em⟩:=bf em;obtain⟨e2,rfl⟩:=ik em;refine⟨tg,F,ρ,ds,_,G,e1,λvs H1 F1 G1 x1 bl=>?_⟩
 cases ds with
 |nil=>cases e2
 |cons d tl=>
  cases tl with
  |cons _ _=>cases e2
  |nil=>
   cases d with
   |tup l=>
    have e2:(aap l).bind (λns=>if ns.length<64 then ZZ (Rv.fr ((setI ns).map D.int)) else ZY)=ZZ r:=e2
    cases ei:aap l with
    |none=>rw[ei] at e2;cases e2
    |some ns=>
     rw[ei] at e2;have e2:(if ns.length<64 then ZZ (Rv.fr ((setI ns).map D.int)) else ZY)=ZZ r:=e2
     split at e2
     ·rename_i h64;cases e2;obtain⟨v,rfl,bv⟩:=bl.one;obtain⟨p,ws,rfl,ea,hl⟩:=bv.tup;rw[af5 ei] at hl;rw[hl.int_inv] at ea;refine⟨p,ns,rfl,G1.sub _ _ ea,by omega,λa hna=>?_⟩
      show rcSS X.w _ _ _;refine⟨a,ns,rfl,gk,h64,λb hnb=>?_⟩
      have G2:=G1.fresh hna (.ext (SetH X.w a ns));have X2:=G1.freshX hna (.ext (SetH X.w a ns));exact Res.lst G2 (λv H3 F3 G3 x3 rr=>q v H3 F3 G3 ((x1.trans X2).trans x3) (lr (x1.trans X2) rr)) (af4 _) hnb
     ·cases e2
   |_=>cases e2
@[simp] theorem a6a(l:List D):gSet (.tup l)=(aap l).bind λns=>if ns.length<64 then ZZ (.fr ((setI ns).map D.int)) else ZY:=rfl
end
theorem aca{c:M Bool}{g:Sd}(Inv:Nat->Ro->Prop)(Done:Ro->Prop)(hs:∀k ρ,Inv k ρ->(∃ρ',c ρ=ZZ (.ok ZW,ρ')/\Done ρ')∨∃ρ1 ρ2 k',c ρ=ZZ (.ok ZX,ρ1)/\g ρ1=ZZ (.nx,ρ2)/\k'<k/\Inv k' ρ2) :
  ∀(n k:Nat) (ρ:Ro),k<n->Inv k ρ->∃ρ',whileD c g n ρ=ZZ (.nx,ρ')/\Done ρ'
 | 0,k,ρ,h,_=>absurd h (pG _)
 |n+1,k,ρ,h,h0=>by
  unfold whileD;rcases hs k ρ h0 with⟨ρ',e,d⟩ |⟨ρ1,ρ2,k',e1,e2,hk,h2⟩
  ·rw[e];exact⟨ρ',rfl,d⟩
  ·rw[e1];dsimp only;rw[e2];exact aca Inv Done hs n k' ρ2 (by omega) h2
def aj1:100000<fuel:=by unfold fuel;decide
def anv(a b:Int):eqD (.int a) (.int b)=decide (a=b):=by
 show(a==b)=_
 by_cases h:a=b <;> simp[h]
theorem a03(ns:List Int)(a:Int):(ns.map D.int).any (λy=>eqD y (.int a))=decide (a∈ns):=by
 induction ns with
 |nil=>simp
 |cons x r ih=>simp[anv,bA,ih,eq_comm]
theorem alc(n:Nat)(ns:List Int):(ns.map D.int).all (okD n)=ZX:=by
 induction ns with
 |nil=>rfl
 |cons x r ih=>simp[okD]
def atl(neg:Bool)(a:Int)(ns:List Int):gIn neg (.int a) (.lst (ns.map D.int))=ZZ (.v (.bl (if neg then !decide (a∈ns) else decide (a∈ns)))):=by
 have h:=alc 30 ns;have h2:=a03 ns a;simp only[gIn,itemsD,h,h2];simp[okD]
theorem aj4:∀(a b:List Int),eqDs (a.map D.int) (b.map D.int)=decide (a=b)
 | [],[]=>rfl
 | [],_::_=>rfl
 |_::_,[]=>rfl
 |x::r,y::t=>by
  show(eqD (.int x) (.int y)&&eqDs (r.map D.int) (t.map D.int))=_;rw[anv,aj4 r t]
  by_cases h:x=y <;> simp[h]
def at8(a b:List Int):eqD (.tup (a.map D.int)) (.tup (b.map D.int))=decide (a=b):=by
 rw[<-aj4];exact aj3 _ _
def ajy(neg:Bool)(a b:List Int):gEq neg (.tup (a.map D.int)) (.tup (b.map D.int))=ZZ (.v (.bl (if neg then !decide (a=b) else decide (a=b)))):=by
 have h1:okD 30 (.tup (a.map D.int))=ZX:=alc 29 a;have h2:okD 30 (.tup (b.map D.int))=ZX:=alc 29 b;simp only[gEq,h1,h2,at8];simp
theorem atu(r:List Int):∀x:Int,(0<=r.foldl (λm y=>if decide (y<m)=ZX then y else m) x)↔0<=x/\∀y∈r,0<=y:=by
 induction r with
 |nil=>intro x;simp
 |cons z t ih=>
  intro x;rw[pK,ih]
  by_cases h:z<x
  ·simp only[h,decide_true,if_true,bA,forall_eq_or_imp];constructor
   ·rintro⟨a,b⟩;exact⟨by omega,a,b⟩
   ·rintro⟨_,a,b⟩;exact⟨a,b⟩
  ·simp only[h,decide_false,jJ,if_false,bA,forall_eq_or_imp];constructor
   ·rintro⟨a,b⟩;exact⟨a,by omega,b⟩
   ·rintro⟨a,_,b⟩;exact⟨a,b⟩
def minI(ns:List Int):Int:=aer (λi j=>decide (i<j)) ns
theorem af3{ns:List Int}(h:ns≠[]):0<=minI ns↔∀y∈ns,0<=y:=by
 cases ns with
 |nil=>exact absurd rfl h
 |cons x r=>
  show 0<=r.foldl (λm y=>if decide (y<m)=ZX then y else m) x↔_
  rw[atu];simp
def ao3{ns:List Int}(h:ns≠[]):awq (.lst (ns.map D.int))=ZZ (.v (.int (minI ns))):=by
 show(aap (ns.map D.int)).bind _=_;rw[ag5];simp[h,minI]
def atj{ns:List Int}(h:ns.length<64):gSet (.tup (ns.map D.int))=ZZ (.fr ((setI ns).map D.int)):=by
 show(aap (ns.map D.int)).bind _=_;rw[ag5];simp[h]
def aop(ns:List Int)(x:Int):x∈setI ns↔x∈ns:=by
 unfold setI;rw[(sortI_perm _).mem_iff,aeg]
def ap9(ns:List Int):(setI ns).Nodup:=by
 unfold setI;rw[(sortI_perm _).nodup_iff];exact ach ns
@[simp] theorem a4k(d:D):atn [d]=(itemsD d).map aj5:=rfl
@[simp] theorem a4i(a b:D):anq [a,b]=(itemsD a).bind λl1=>(itemsD b).bind λl2=>if l1.length<=l2.length then ZZ (ac0 l1 l2) else ZY:=rfl
@[simp] theorem a0e(a b c:D):ati [a,b,c]=(itemsD a).bind λl1=>(itemsD b).bind λl2=>(itemsD c).bind λl3=>if l1.length<=l2.length/\l1.length<=l3.length then ZZ (afv l1 l2 l3) else ZY:=rfl
@[simp] theorem a1b(ρ:Ro)(f:Int->Int->Int)(i:Nat)(mi m:M D):an0 f i mi m ρ=(dM (mOwn i) λ_=>dM mi λk=>dM (mOwn i) λl=>dM (lift ((asI k).bind (ixN l.length))) λj=>dM (lift ((l[j]?).bind asI)) λx=>dM m λy=>dM (lift (asI y)) λy=>dM (mOwn i) λl2=>dM (lift (if l2.length=l.length then ZZ () else ZY)) λ_=>dM (abw i (l2.set j (.int (f x y)))) λ_=>dNx) ρ:=rfl
@[simp] theorem a3o(ρ:Ro)(i:Nat)(ms:M (List D)):as4 i ms ρ=((gr i).bind λd0=>ms.bind λds=>(gr i).bind λd=>(lift (match d0,d with
 |.lst _,.lst _=>ZZ ()
 |.tup _,.tup _=>ZZ ()
 |_,_=>ZY)).bind λ_=>lift (aj0 d ds)) ρ:=rfl
@[simp] theorem a0i(l:List D)(x:D):aj0 (.lst l) [x]=if okD 30 x&&l.all (okD 30) then ZZ (.int (l.countP λy=>eqD y x)) else ZY:=rfl
@[simp] theorem a0h(l:List D)(x:D):aj0 (.tup l) [x]=if okD 30 x&&l.all (okD 30) then ZZ (.int (l.countP λy=>eqD y x)) else ZY:=rfl
theorem aqw{l1 l2:List D}(h:l1.length<=l2.length):(ac0 l1 l2).length=l1.length:=by unfold ac0;rw[mU];omega
def aqu{l1 l2 l3:List D}(h:l1.length<=l2.length/\l1.length<=l3.length):(afv l1 l2 l3).length=l1.length:=by unfold afv;rw[mU,mV];omega
def apj{ns:List Int}{k:Int}(h0:0<=k)(h1:k<(ns.length:Int)):atI (ns.map D.int) k=ZZ (.int (ns.getD k.toNat 0)):=by
 have hk:k.toNat<ns.length:=by omega
 have q:atI (ns.map D.int) ((k.toNat:Nat):Int)=ZZ (.int (ns.getD k.toNat 0)):=akb (by simp[aF hk])
 rw[show((k.toNat:Nat):Int)=k by omega] at q
 exact q
def ae5{n:Nat}{k:Int}(h0:0<=k)(h1:k<(n:Int)):ixN n k=ZZ k.toNat:=by
 unfold ixN;simp[h0,h1]
def axc{n d:Nat}{k:Int}(h0:0<=k):HT.sIx n d (ZZ k)=min k.toNat n:=by
 show(if k<0 then (k+(n:Int)).toNat else min k.toNat n)=_
 rw[if_neg (by omega)]
def a4w{ns:List D}{k:Int}(h0:0<=k)(h1:k<=(ns.length:Int)):cutD ns ZY (ZZ k)=ns.take k.toNat:=by
 unfold cutD;rw[axc h0];have:HT.sIx ns.length 0 ZY=0:=rfl;rw[this,mO (by omega),uO,tR]
def aj7{ns:List D}{k:Int}(h0:0<=k)(h1:k<=(ns.length:Int)):cutD ns (ZZ k) ZY=ns.drop k.toNat:=by
 unfold cutD;rw[axc h0];have:HT.sIx ns.length ns.length ZY=ns.length:=rfl;rw[this,mO (by omega)]
 exact uK (by simp)
def jl{K:Fg9}{P:bT}{w:dB}{mg:Str->Option aG}{base:eE}{x qual:Str}{st:gK}{f:aQ}{fd:eQ}{N ps:List Str}{k nl np:Nat}{g:Sd}(F:Fun K x qual st f fd)(S:FnScope N ps (ao st))(h1:N.length=nl)(h2:ps.length=np)
  (body:∀(cdv:aG) (A:cQ) (outer:List Env) (s:aJ) (H:Hp) (E:XK),Room k (A.deeper (mY qual (ao st) s.heap.objs.size f cdv))->SVs K (cxOf CX0 P w K mg base N qual (ao st) f cdv A outer s H E).nox (jc st) g) :
  FnOk P w K mg base CX0 (k+1) f fd ps (spOf K np (fnD nl np g)):=by
 subst h1 h2;exact a8u F S body
end Dn
namespace Mn
open L2
section
variable{X:Cx}
end
end Mn
namespace Dn
open L2 Mn
section
variable{K:Fg9}{X:Cx}
end
def mkSc{N P:List Str}{sc:nJ}(a:sc.kind=.function)(b:sc.isCoroutine=ZW)(c:sc.isGenerator=ZW)(e:N.take P.length=P)(d:N.Nodup/\(∀x∈P,sc.names.lookup x=ZZ .local∨sc.names.lookup x=ZZ .cell)/\∀y∈sc.names,y.2≠.free):FnScope N P sc:=⟨a,b,c,d.1,e,d.2.1,d.2.2⟩
section
variable{K:Fg9}{X:Cx}{e a b o:dI}{es:List dI}{pos p p2:Pos}
def FldT(K:Fg9)(c f:Str):Prop:=∀C,nsIn K aV c=ZZ (ZZ (.ref C))->Cls K C/\acz K C f
def mLnk(c:Str)(i:Nat)(f:Str)(j:Nat):M Unit:=λρ=>match ρ[i]?,ρ[j]? with
 |some (.box c' fs),ZZ (.own (ZZ k) _)=>match fs.lookup f with
  |some (.inl k')=>if c'=c/\k'=k then ZZ (.ok (),ρ) else ZY
  |_=>ZY
 |_,_=>ZY
def aoq{tg:Nat->aQ}{F H:Hp}{ρ ρ':Ro}{σ:L2.St}(G:Good K tg F H ρ σ){c f:Str}{i j:Nat}{u:Unit}(hc:FldT K c f)(em:mLnk c i f j ρ=ZZ (.ok u,ρ')) :
  ρ'=ρ/\∃a C dx fvs v,σ[i]? = ZZ (ZZ (.ref a))/\H a=ZZ (.ins C dx fvs)/\Cls K C/\acz K C f/\fvs.lookup f=ZZ v/\σ[j]? = ZZ (ZZ v):=by
 unfold mLnk at em;split at em
 ·rename_i c' fs k l ei ej;split at em
  ·rename_i k' hk;split at em
   ·rename_i hz;obtain⟨rfl,rfl⟩:=hz;cases em;obtain⟨oi,hoi,a,C,dx,fvs,rfl,hf,hh,hn,_,h1,_⟩:=G.at ei;obtain⟨oj,hoj,b,vs,rfl,_,_,_,ht⟩:=G.at ej;obtain⟨k1,k2⟩:=hc C hn;refine⟨rfl,a,C,dx,fvs,.ref b,hoi,hh,k1,k2,?_,hoj⟩;rw[h1 f _ hk,ht _ rfl]
   ·cases em
  ·cases em
 ·cases em
abbrev tAt(K:Fg9)(i:Nat)(f:Str):TE:=tFld K (tVar i) f
def asj{i:Nat}{f:Str}(h:PE X o (tVar i))(hb:fQ o f X.env (eval o X.env)=eval o X.env:=by rfl):PE X (.Attribute o f pos) (tAt X.K i f):=a2u h hb
def mFV(c:Str)(i:Nat)(f:Str):M D:=λρ=>match ρ[i]? with
 |some (.box c' fs)=>if c'=c then match fs.lookup f with
  |some (.inr d)=>ZZ (.ok d,ρ)
  |_=>ZY
  else ZY
 |_=>ZY
def a82{c f:Str}{i:Nat}(hc:FldT K c f)(h:PE X o (tVar i))(hb:fQ o f X.env (eval o X.env)=eval o X.env:=by rfl):EV K X (.Attribute o f pos) (mFV c i f):=EV.mk λhk=>by
 subst hk;refine PE.imp (asj h hb) λσ H Q z9=>?_
 obtain⟨tg,F,ρ,d,ρ',G,em,q⟩:=z9;unfold mFV at em;split at em
 ·rename_i c' fs ei;split at em
  ·rename_i hz;subst hz;split at em
   ·rename_i d' hd;cases em;obtain⟨oi,hoi,a,C,dx,fvs,rfl,hf,hh,hn,_,_,h2⟩:=G.at ei;obtain⟨k1,k2⟩:=hc C hn;obtain⟨v,hv,iv⟩:=h2 f _ hd;exact⟨_,hoi,a,C,dx,fvs,v,rfl,hh,k1,k2,hv,q v H F G (Ext.refl _ _ _) iv⟩
   ·cases em
  ·cases em
 ·cases em
def e2_f{c f:Str}{i j:Nat}{m2:M D}(hc:FldT K c f)(h:PE X o (tVar i))(hb2:EB K X b m2)(hb:fQ o f X.env (eval o X.env)=eval o X.env:=by rfl):E2 K X (.Attribute o f pos) b ((mLnk c i f j).bind λ_=>dh j m2):=E2.mk λhk=>by
 subst hk;refine⟨_,_,asj h hb,hb2 rfl,λσ H R z9=>?_⟩
 obtain⟨tg,F,ρ,p,ρ',G,em,q⟩:=z9;obtain⟨u,ρ9,e9,em1⟩:=bf em;obtain⟨rfl,a,C,dx,fvs,v,h1,h2,h3,h4,h5,h6⟩:=aoq G hc e9;obtain⟨d0,ρ0,e0,em⟩:=bf em1;obtain⟨d2,ρ2,e2,em⟩:=bf em;obtain⟨d1,ρ1,e1,em⟩:=bf em;obtain⟨rfl,rfl⟩:=j6 em;obtain⟨rfl,_⟩:=ph G e0;exact⟨_,h1,a,C,dx,fvs,v,rfl,h2,h3,h4,h5,tg,F,ρ0,d2,ρ2,G,e2,λy H2 F2 G2 x2 r2=>by
  obtain⟨rfl,v',hv',b'⟩:=ph G2 e1;rw[h6] at hv';cases hv';exact q v y H2 F2 G2 x2 b' r2⟩
def ea_f{c f:Str}{i j:Nat}{ms:M (List D)}(hc:FldT K c f)(h:PE X o (tVar i))(t:EA K X es ms)(hb:fQ o f X.env (eval o X.env)=eval o X.env:=by rfl)(hs:aO (.Attribute o f pos::es) X.env=(ZW,eval (.Attribute o f pos) X.env)::aO es X.env:=by rfl) :
  EA K X (.Attribute o f pos::es) ((mLnk c i f j).bind λ_=>f9 j ms):=EA.mk λhk=>by
 subst hk;refine PA.imp (sy (asj h hb) (t rfl) hs) λσ H Q z9=>?_
 obtain⟨tg,F,ρ,ds,ρ',G,em,q⟩:=z9;obtain⟨u,ρ9,e9,em1⟩:=bf em;obtain⟨rfl,a,C,dx,fvs,v,h1,h2,h3,h4,h5,h6⟩:=aoq G hc e9;obtain⟨d0,ρ0,e0,em⟩:=bf em1;obtain⟨r,ρ2,e2,em⟩:=bf em;obtain⟨d,ρ1,e1,em⟩:=bf em;obtain⟨rfl,rfl⟩:=j6 em;obtain⟨rfl,_⟩:=ph G e0;exact⟨_,h1,a,C,dx,fvs,v,rfl,h2,h3,h4,h5,tg,F,ρ0,r,_,G,e2,λvs H2 F2 G2 x2 r2=>by
  obtain⟨rfl,v',hv',b'⟩:=ph G2 e1;rw[h6] at hv';cases hv';exact q _ H2 F2 G2 x2 (.cons b' r2)⟩
def dSubF(c:Str)(i:Nat)(f:Str)(j:Nat)(mi m:M D):Sd:=dM m λd=>dM (mLnk c i f j) λ_=>dM mi λk=>dM (mOwn j) λl=>dM (lift ((asI k).bind (ixN l.length))) λn=>dM (abw j (l.set n d)) λ_=>dNx
theorem ayt{c f:Str}{i j:Nat}{mi m:M D}(hc:FldT K c f)(h:EV K X e m)(ho:PE X o (tVar i))(hi:EV K X b mi)(hb:fQ o f X.env (eval o X.env)=eval o X.env:=by rfl)(hs:swapsWithSole [.Subscript (.Attribute o f p2) b p] e pos.line X.env=pure ZW:=by rfl)(hw:swappedStores [.Subscript (.Attribute o f p2) b p] e X.env=pure ZY:=by rfl)
  (h1:(iT [.Subscript (.Attribute o f p2) b p] X.env).map (·.2)=[oU (.Subscript (.Attribute o f p2) b p) X.env]:=by rfl)
  (ha:∀v,oU (.Subscript (.Attribute o f p2) b p) X.env v=(do
   let ov <-jZ [v] (eval (.Attribute o f p2) X.env)
   let iv <-jZ [v,ov] (eval b X.env)
   standAt p
   jZ [v,ov,iv] (setItem ov iv v)
   release [v,ov,iv] []):=by intro _;rfl):SV K X (.Assign [.Subscript (.Attribute o f p2) b p] e pos) (dSubF c i f j mi m):=SV.mk λhk=>by
 subst hk;refine PS.imp (asa (h rfl) (axk (asj ho hb) (hi rfl) set_list ha) hs hw h1) λE σ H z9=>?_
 obtain⟨tg,F,ρ,fl,ρ',G,em,q⟩:=z9;refine my em q λd ρ1 e1 em=>my em q λu0 ρ0 e0 em=>my em q λk ρ2 e2 em=>my em q λl ρ3 e3 em=>my em q λn ρ4 e4 em=>my em q λu ρ5 e5 em=>?_
 cases em;obtain⟨e6,rfl⟩:=ik e4;refine⟨tg,F,ρ,d,ρ1,G,e1,λv H1 F1 G1 x1 r1=>?_⟩
 obtain⟨rfl,a,C,dx,fvs,w0,g1,g2,g3,g4,g5,g6⟩:=aoq G1 hc e0;refine⟨_,g1,a,C,dx,fvs,w0,rfl,g2,g3,g4,g5,tg,F1,_,k,ρ2,G1,e2,λw H2 F2 G2 x2 r2=>?_⟩
 obtain⟨rfl,t,a1,xs,es1,hv',hh,hl⟩:=acs G2 e3;rw[g6] at hv';cases hv';cases ek:asI k with
 |none=>rw[ek] at e6;cases e6
 |some z=>
  rw[ek] at e6;obtain rfl:=afu ek;cases r2;obtain⟨G3,x3⟩:=agu G2 e5 g6 (hl.set (r1.mono x2.sub) n);exact⟨_,xs,z,n,rfl,rfl,hh,by rw[<-hl.length];exact e6,q _ _ F2 G3 ((x1.trans x2).trans x3)⟩
def dSubAugF(g:Int->Int->Int)(c:Str)(i:Nat)(f:Str)(j:Nat)(mi m:M D):Sd:=dM (mLnk c i f j) λ_=>dM mi λk=>dM (mOwn j) λl=>dM (lift ((asI k).bind (ixN l.length))) λn=>dM (lift ((l[n]?).bind asI)) λx=>dM m λy=>dM (lift (asI y)) λy=>dM (mOwn j) λl2=>dM (lift (if l2.length=l.length then ZZ () else ZY)) λ_=>dM (abw j (l2.set n (.int (g x y)))) λ_=>dNx
theorem acd{g:Int->Int->Int}{op:Operator}{c f:Str}{i j:Nat}{mi m:M D}(hc:FldT K c f)(ho:PE X o (tVar i))(hi:EV K X b mi)(h:EV K X e m)(hp:PIp X op (ipI g))(hb:fQ o f X.env (eval o X.env)=eval o X.env:=by rfl)
  (ha:∀ov iv new,augStore b ov iv new=(do jZ [new,ov,iv] (setItem ov iv new);release [new,ov,iv] [];pure .next):=by intros;rfl):SV K X (.AugAssign (.Subscript (.Attribute o f p2) b p) op e pos) (dSubAugF g c i f j mi m):=SV.mk λhk=>by
 subst hk;refine PS.imp (ar9 (asj ho hb) (hi rfl) ao2 (h rfl) hp set_list ha) λE σ H z9=>?_
 obtain⟨tg,F,ρ,fl,ρ',G,em,q⟩:=z9;refine my em q λu0 ρ0 e0 em=>my em q λk ρ1 e1 em=>my em q λl ρ2 e2 em=>my em q λn ρ3 e3 em=>my em q λx ρ4 e4 em=>my em q λy ρ5 e5 em=>my em q λy' ρ6 e6 em=>my em q λl2 ρ7 e7 em=>my em q λu ρ8 e8 em=>my em q λu2 ρ9 e9 em=>?_
 cases em;obtain⟨rfl,a0,C,dx,fvs,w0,h1,h2,h3,h4,h5,hv⟩:=aoq G hc e0;refine⟨_,h1,a0,C,dx,fvs,w0,rfl,h2,h3,h4,h5,tg,F,_,k,ρ1,G,e1,λw H1 F1 G1 x1 r1=>?_⟩
 obtain⟨rfl,t1,a1,xs1,es1,hv1,hh1,hl1⟩:=acs G1 e2;rw[hv] at hv1;cases hv1;obtain⟨g3,rfl⟩:=ik e3;obtain⟨g4,rfl⟩:=ik e4;cases ek:asI k with
 |none=>rw[ek] at g3;cases g3
 |some z=>
  rw[ek] at g3;obtain rfl:=afu ek;cases r1;have e3:ixN l.length z=ZZ n:=g3;cases ej:l[n]? with
  |none=>rw[ej] at g4;cases g4
  |some d=>
   rw[ej] at g4;have h4:asI d=ZZ x:=g4;obtain rfl:=afu h4;obtain⟨v,ev,iv⟩:=hl1.get ej;cases iv;refine⟨_,xs1,z,.int x,rfl,rfl,SqL.of hh1,by rw[axr hl1.length.symm e3];exact ev,?_⟩
   refine⟨tg,F1,_,y,ρ5,G1,e5,λw2 H2 F2 G2 x2 r2=>?_⟩
   obtain⟨g6,rfl⟩:=ik e6;obtain rfl:=afu g6;cases r2;refine⟨x,y',rfl,rfl,?_⟩;obtain⟨rfl,t2,a2,xs2,es2,hv2,hh2,hl2⟩:=acs G2 e7;rw[hv] at hv2;cases hv2;obtain⟨g8,rfl⟩:=ik e8;split at g8
   ·rename_i hlen;obtain⟨G3,x3⟩:=agu G2 e9 hv (hl2.set (Is.int (g x y')) n);exact⟨_,xs2,z,n,rfl,rfl,hh2,by rw[<-hl2.length,hlen];exact e3,q _ _ F2 G3 ((x1.trans x2).trans x3)⟩
   ·cases g8
end
def _root_.L2.Inv.gh{X:Cx}{zv:List (aQ×Obj)}{σ σ2:L2.St}{H:Hp}{s:aJ}(I:Inv X zv σ H s)(hl:σ2.length=σ.length)(h:∀(i:Nat) (x:Str) (v:V),X.N[i]? = ZZ x->σ2[i]? = ZZ (ZZ v)->Vis X.env.scope x->σ[i]? = ZZ (ZZ v)):Inv X zv σ2 H s:=by
 obtain⟨m,hm,hx⟩:=I.loc;exact⟨I.ok,I.os,I.bare,I.base,⟨m,hm,λi x v e q vis=>hx i x v e (h i x v e q vis) vis⟩,I.cell,I.free,I.freeC,I.pin,I.hok,hl.trans I.len⟩
def GH(X:Cx)(σ σ2:L2.St):Prop:=σ2.length=σ.length/\∀(i:Nat) (x:Str) (v:V),X.N[i]? = ZZ x->σ2[i]? = ZZ (ZZ v)->Vis X.env.scope x->σ[i]? = ZZ (ZZ v)
def axg{X:Cx}{ss:List gK}{t:TS}(h:PSs X ss t):PSs X ss (λD σ H=>∃σ2,GH X σ σ2/\t D σ2 H):=λzv s σ H D I ⟨σ2,g,q⟩=>h zv s σ2 H D (I.gh g.1 g.2) q
def spBx(K:Fg9)(n ng:Nat)(f:Fd):Sp:=λvs H Q _=>vs.length=n/\∃gv:List V,gv.length=ng/\∃F as r ps,Good K (tgOf ((vs++gv).map ZZ)) F H as ((vs++gv).map ZZ)/\f as=ZZ (.ok r,ps) /\
 ∀v H' F' O',Same F' H'->Ext (Own as ((vs++gv).map ZZ)) O' F H F' H'->Fin K F' H' ((vs++gv).map ZZ) ps O'->relR K r v H (Own as ((vs++gv).map ZZ)) F' H' O'->Q v H'
def a8v{K:Fg9}{P:bT}{w:dB}{mg:Str->Option aG}{base:eE}{x qual:Str}{st:gK}{f:aQ}{fd:eQ}{N ps:List Str}{k nl np ng:Nat}{g:Sd}(F:Fun K x qual st f fd)(S:FnScope N ps (ao st))(h1:N.length=nl)(h2:ps.length=np)(hN:np+ng<=nl)
  (hgh:∀y∈(N.drop np).take ng,(ao st).names.lookup y=ZY)
  (body:∀(cdv:aG) (A:cQ) (outer:List Env) (s:aJ) (H:Hp) (E:XK),Room k (A.deeper (mY qual (ao st) s.heap.objs.size f cdv))->SVs K (cxOf CX0 P w K mg base N qual (ao st) f cdv A outer s H E).nox (jc st) g) :
  FnOk P w K mg base CX0 (k+1) f fd ps (spBx K np ng (fnD nl (np+ng) g)):=by
 subst h1 h2;refine F.ok S (λvs H Q E h=>h.1) (λcdv A outer s H vs Q E hr h=>⟨_,axg (body cdv A outer s H E hr rfl),?_⟩)
 obtain⟨hn,gv,hg,F,as,r,ps',G,em,q⟩:=h;have hl:as.length=((vs++gv).map ZZ).length:=G.len;have hlen:(vs++gv).length=ps.length+ng:=by rw[bV];omega
 have G1:=G.app (N.length-(ps.length+ng));refine⟨(vs++gv).map ZZ++aD (N.length-(ps.length+ng)) ZY,⟨?_,?_⟩,?_⟩
 ·show _=(vs.map ZZ++aD (N.length-vs.length) ZY).length;rw[bV,bV,aL,aL,dO,dO,hlen];omega
 ·intro i y v ei ev vis;show(vs.map ZZ++aD (N.length-vs.length) ZY)[i]? = ZZ (ZZ v)
  by_cases q1:i<vs.length
  ·rw[aY (by rw[aL];exact q1)]
   rw[aY (by rw[aL,hlen];omega),aX,aY q1] at ev
   rw[aX];exact ev
  ·exfalso
   by_cases q2:i<ps.length+ng
   ·have hm:y∈(N.drop ps.length).take ng:=by
     refine cT (i:=i-ps.length) ?_;rw[fM (by omega),List.getElem?_drop,show ps.length+(i-ps.length)=i by omega]
     exact ei
    have z:=hgh y hm;rcases vis with v |v |v
    ·rw[show((cxOf CX0 P w K mg base N qual (ao st) f cdv A outer s H E).nox).env.scope=ao st from rfl,z] at v;cases v
    ·rw[show((cxOf CX0 P w K mg base N qual (ao st) f cdv A outer s H E).nox).env.scope=ao st from rfl,z] at v;cases v
    ·rw[show((cxOf CX0 P w K mg base N qual (ao st) f cdv A outer s H E).nox).env.scope=ao st from rfl,z] at v;cases v
   ·rw[cD (by rw[aL,hlen];omega),jC] at ev
    split at ev <;> cases ev
 have fin:∀{ρ':Ro} {σ':L2.St} {F' H':Hp},Good K (tgOf ((vs++gv).map ZZ)) F' H' ρ' σ'->Fin K F' H' ((vs++gv).map ZZ) (ρ'.take (ps.length+ng)) (Own ρ' σ'):=λ{ρ' σ' F' H'} G'=>⟨λi l e=>by
  have hi:=(aK.mp e).1;rw[dX] at hi;rw[fM (by omega)] at e
  obtain⟨o,ho,a,ws,rfl,hf,hh,hl,ht⟩:=G'.at e;rw[ht i rfl];exact⟨⟨i,⟨_,_,e⟩,ho⟩,hf,ws,hh,hl⟩⟩
 unfold fnD at em;split at em
 ·rename_i r' ρ' e;cases em;refine⟨_,F,_,.ret r,ρ',G1,e,λv σ' H' F' G' x' rr=>?_⟩
  rw[uv hl] at x' rr;exact q v H' F' (Own ρ' σ') G'.sub x' (fin G') rr
 ·rename_i ρ' e;cases em;refine⟨_,F,_,.nx,ρ',G1,e,λσ' H' F' G' x'=>?_⟩
  rw[uv hl] at x';exact q .non H' F' (Own ρ' σ') G'.sub x' (fin G') .non
 ·cases em
 ·cases em
def bxC(np:Nat)(ls vf:List Str)(fs:List (Str×(Nat ⊕ D))):Option (List (Str×(Nat ⊕ D))):=(vf.mapM λf=>match fs.lookup f with
 |some (.inr d)=>ZZ (f,(.inr d:Nat ⊕ D))
 |_=>ZY).map λvs=>(ls.mapIdx λn f=>(f,(.inl (np+n):Nat ⊕ D)))++vs
def lnkB(fs:List (Str×(Nat ⊕ D)))(ρ:Ro):List Str->List Nat->Bool
 | [],[]=>ZX
 |f::ls,j::gs=>(match fs.lookup f,ρ[j]? with
  |some (.inl k),ZZ (.own (ZZ k') _)=>k==k'
  |_,_=>ZW)&&lnkB fs ρ ls gs
 |_,_=>ZW
theorem aim{np:Nat}{f:Str}{k:Nat ⊕ D}:∀{ls:List Str} {n0:Nat},(ls.mapIdx λn g=>(g,(.inl (np+(n0+n)):Nat ⊕ D))).lookup f=ZZ k->∃n,ls[n]? = ZZ f/\k=.inl (np+(n0+n))
 | [],_,h=>by cases h
 |g::ls,n0,h=>by
  rw[lY] at h
  by_cases e:f=g
  ·subst e;rw[dG] at h;exact⟨0,rfl,(cN h).symm⟩
  ·have hb:(f==g)=ZW:=beq_eq_false_iff_ne.mpr e;simp only[bK,hb] at h;have h':(ls.mapIdx λn g=>(g,(.inl (np+((n0+1)+n)):Nat ⊕ D))).lookup f=ZZ k:=by
    have e2:(λ(n:Nat) (g:Str)=>(g,(.inl (np+(n0+(n+1))):Nat ⊕ D)))=λn g=>(g,(.inl (np+((n0+1)+n)):Nat ⊕ D)):=by
     funext n g
     rw[show n0+(n+1)=n0+1+n by omega]
    rw[<-e2];exact h
   obtain⟨n,h1,h2⟩:=aim h';exact⟨n+1,by simpa using h1,by rw[h2];congr 2;omega⟩
theorem aan{α β:Type}[BEq α]{f:α}:∀{a b:List (α×β)},(a++b).lookup f=(a.lookup f).or (b.lookup f)
 | [],b=>rfl
 | (g,x)::a,b=>by
  rw[oY];simp only[bK];split
  ·rfl
  ·exact aan
section
variable{K:Fg9}{X:Cx}{tg:Nat->aQ}{F H:Hp}{ρ:Ro}{σ:L2.St}
def Good.setB(G:Good K tg F H ρ σ){i:Nat}{s:Sl}(e:(ρ:List Sl)[i]? = ZZ .emp)(hs:∀t l,s≠.own t l)(h:∀o,σ[i]? = ZZ o->SlOk K tg F H s o):Good K tg F H (bZ ρ i s) σ/\Own (bZ ρ i s) σ=Own ρ σ:=by
 have sub:∀j t l,(bZ ρ i s)[j]? = ZZ (Sl.own t l)↔(ρ:List Sl)[j]? = ZZ (Sl.own t l):=λj t l=>by
  rw[bJ]
  by_cases hj:i=j
  ·subst hj;rw[if_pos rfl,e];constructor
   ·intro z;split at z
    ·cases z;exact absurd rfl (hs t l)
    ·cases z
   ·intro z;cases z
  ·rw[if_neg hj]
 refine⟨⟨G.sub,by rw[cC];exact G.len,λj s' o z q=>?_,λj k a ⟨⟨t,l,z⟩,q⟩ ⟨⟨t',l',z'⟩,q'⟩=>G.inj j k a ⟨⟨t,l,(sub _ _ _).mp z⟩,q⟩ ⟨⟨t',l',(sub _ _ _).mp z'⟩,q'⟩⟩,?_⟩
 ·rw[bJ] at z
  by_cases hj:i=j
  ·subst hj;rw[if_pos rfl] at z;split at z
   ·cases z;exact h o q
   ·cases z
  ·rw[if_neg hj] at z;exact G.sl j s' o z q
 ·funext a
  refine propext ⟨λ⟨j,⟨t,l,z⟩,q⟩=>⟨j,⟨t,l,(sub _ _ _).mp z⟩,q⟩,λ⟨j,⟨t,l,z⟩,q⟩=>⟨j,⟨t,l,(sub _ _ _).mpr z⟩,q⟩⟩
def as5{js:List (Option Nat)}{ds:List (Option D)}{vs gv:List V}{gs:List Nat}{a:aQ}(ar:AR K F σ js ds vs)(hg:gv.length=gs.length)(hgv:∀(n j:Nat) (v:V),gs[n]? = ZZ j->gv[n]? = ZZ v->σ[j]? = ZZ (ZZ v)) :
  Lent K F σ ((V.ref a::(vs++gv)).map ZZ) (ZY::(js++gs.map ZZ)) (ZY::(ds++gs.map λ_=>ZY)):=by
 have L:=ar.lent;have l0:=ar.length;have l2:=L.l2;refine⟨by simp[hg,l0],by simp[l2],λi j o h q=>?_,λi d h q=>?_⟩
 ·cases i with
  |zero=>cases h
  |succ i=>
   rw[fD] at h;rw[bC,fD,aX]
   by_cases hi:i<js.length
   ·rw[aY hi] at h;have z:=L.h1 i j o h q;rw[aX] at z;rw[aY (by omega)]
    exact z
   ·rw[cD (by omega),aX] at h
    obtain⟨j',hj,e⟩:=cB.mp h;cases e;rw[cD (by omega),l0]
    have hlt:i-js.length<gv.length:=by rw[hg];exact(aK.mp hj).1
    have z:=hgv _ _ _ hj (aF hlt);rw[q] at z;rw[aF hlt];exact z.symm▸rfl
 ·cases i with
  |zero=>cases q
  |succ i=>
   rw[fD] at h q;rw[bC,fD,aX]
   by_cases hi:i<js.length
   ·rw[aY hi] at h;rw[aY (by omega)] at q
    obtain⟨v,hv,iv⟩:=L.h2 i d h q;rw[aX] at hv;rw[aY (by omega)]
    exact⟨v,hv,iv⟩
   ·rw[cD (by omega),aX] at h
    obtain⟨j',_,e⟩:=cB.mp h;cases e
theorem ane{fs:List (Str×(Nat ⊕ D))}:∀{ls:List Str} {gs:List Nat} {n:Nat} {f:Str},lnkB fs ρ ls gs=ZX->ls[n]? = ZZ f->∃j k l,gs[n]? = ZZ j/\fs.lookup f=ZZ (.inl k)/\(ρ:List Sl)[j]? = ZZ (.own (ZZ k) l)
 | [],_,n,f,_,h=>by simp at h
 |g::ls,[],n,f,hb,_=>by simp[lnkB] at hb
 |g::ls,j::gs,n,f,hb,h=>by
  unfold lnkB at hb;rw[bB] at hb;cases n with
  |zero=>
   simp at h;subst h;obtain⟨h1,_⟩:=hb;split at h1
   ·rename_i k k' l e1 e2;have:k=k':=by simpa using h1
    subst this;exact⟨j,k,l,rfl,e1,e2⟩
   ·cases h1
  |succ n=>
   obtain⟨j',k,l,h1,h2,h3⟩:=ane (n:=n) hb.2 (by simpa using h)
   exact⟨j',k,l,by simpa using h1,h2,h3⟩
theorem aor{fs:List (Str×(Nat ⊕ D))}:∀{ls:List Str} {gs:List Nat},lnkB fs ρ ls gs=ZX->ls.length=gs.length
 | [],[],_=>rfl
 | [],_::_,h=>by simp[lnkB] at h
 |_::_,[],h=>by simp[lnkB] at h
 |g::ls,j::gs,h=>by
  unfold lnkB at h;rw[bB] at h;rw[bF,bF,aor h.2]
theorem ayd{fs:List (Str×(Nat ⊕ D))}:∀{vf:List Str} {vs:List (Str×(Nat ⊕ D))},(vf.mapM λf=>match fs.lookup f with
 |some (.inr d)=>ZZ (f,(.inr d:Nat ⊕ D))
 |_=>ZY)=ZZ vs->∀f x,vs.lookup f=ZZ x->∃d,x=.inr d/\fs.lookup f=ZZ (.inr d)
 | [],vs,h,f,x,hx=>by
  simp at h;subst h;cases hx
 |g::vf,vs,h,f,x,hx=>by
  rw[yS] at h;obtain⟨y,h1,h2⟩:=jB.mp h;obtain⟨ys,h3,h4⟩:=jB.mp h2;cases h4;split at h1
  ·rename_i d hd;cases h1
   by_cases e:f=g
   ·subst e;rw[dG] at hx;cases hx;exact⟨d,rfl,hd⟩
   ·have hb:(f==g)=ZW:=beq_eq_false_iff_ne.mpr e;simp only[bK,hb] at hx;exact ayd h3 f x hx
  ·cases h1
end
theorem ao1{np:Nat}{f:Str}:∀{ls:List Str} {n0:Nat},(ls.mapIdx λn g=>(g,(.inl (np+(n0+n)):Nat ⊕ D))).lookup f=ZY->f∉ls
 | [],_,_=>cI
 |g::ls,n0,h=>by
  rw[lY] at h
  by_cases e:f=g
  ·subst e;rw[dG] at h;cases h
  ·have hb:(f==g)=ZW:=beq_eq_false_iff_ne.mpr e;simp only[bK,hb] at h;have h':(ls.mapIdx λn g=>(g,(.inl (np+((n0+1)+n)):Nat ⊕ D))).lookup f=ZY:=by
    have e2:(λ(n:Nat) (g:Str)=>(g,(.inl (np+(n0+(n+1))):Nat ⊕ D)))=λn g=>(g,(.inl (np+((n0+1)+n)):Nat ⊕ D)):=by
     funext n g
     rw[show n0+(n+1)=n0+1+n by omega]
    rw[<-e2];exact h
   intro hm;rcases bA.mp hm with z |z
   ·exact e z
   ·exact ao1 h' z
theorem aq6{fs:List (Str×(Nat ⊕ D))}:∀{vf:List Str} {vs:List (Str×(Nat ⊕ D))},(vf.mapM λf=>match fs.lookup f with
 |some (.inr d)=>ZZ (f,(.inr d:Nat ⊕ D))
 |_=>ZY)=ZZ vs->∀f,vs.lookup f=ZY->f∉vf
 | [],vs,h,f,hx=>cI
 |g::vf,vs,h,f,hx=>by
  rw[yS] at h;obtain⟨y,h1,h2⟩:=jB.mp h;obtain⟨ys,h3,h4⟩:=jB.mp h2;cases h4;split at h1
  ·rename_i d hd;cases h1
   by_cases e:f=g
   ·subst e;rw[dG] at hx;cases hx
   ·have hb:(f==g)=ZW:=beq_eq_false_iff_ne.mpr e;simp only[bK,hb] at hx;intro hm;rcases bA.mp hm with z |z
    ·exact e z
    ·exact aq6 h3 f hx z
  ·cases h1
theorem alu{ls vf:List Str}{f:Str}:∀{fs:List (Str×(Nat ⊕ D))},fs.all (λp=>ls.contains p.1||vf.contains p.1)=ZX->f∉ls->f∉vf->fs.lookup f=ZY
 | [],_,_,_=>rfl
 | (g,x)::fs,h,h1,h2=>by
  rw[jX,bB] at h;have e:f≠g:=λz=>by
   subst z;rcases(sY _ _).mp h.1 with z |z
   ·exact h1 (cO.mp z)
   ·exact h2 (cO.mp z)
  have hb:(f==g)=ZW:=beq_eq_false_iff_ne.mpr e;simp only[bK,hb];exact alu h.2 h1 h2
structure DfnM (P:bT) (w:dB) (K:Fg9) (mg:Str->Option aG) (base:eE) (c m:Str) (ps:List Str) (k:Nat) (sp:Sp):Prop where
 ex:∃C f fd,nsIn K aV c=ZZ (ZZ (.ref C))/\Cls K C/\Meth K C m f/\FnOk P w K mg base CX0 k f fd ps sp/\Binds K fd ps []
def mIsB(c:Str)(i:Nat)(m:Str):M (List (Str×(Nat ⊕ D))):=λρ=>match ρ[i]? with
 |some (.box c' fs)=>if c'=c/\(fs.lookup m).isNone=ZX then ZZ (.ok fs,ρ) else ZY
 |_=>ZY
def alk(c:Str)(i:Nat)(m:Str)(ls vf:List Str)(gs:List Nat)(f:Fd)(js:List (Option Nat))(ms:M (List (Option D))):M Rv:=(mIsB c i m).bind λ_=>ms.bind λds=>(mIsB c i m).bind λfs ρ=>
 if lnkB fs ρ ls gs=ZX/\okJs ρ (ZY::(js++gs.map ZZ))=ZX/\fs.all (λp=>ls.contains p.1||vf.contains p.1)=ZX then match bxC (1+js.length) ls vf fs with
  |some fc=>match f (bZ (lend ρ (ZY::(js++gs.map ZZ)) (ZY::(ds++gs.map λ_=>ZY))) 0 (.box c fc)) with
   |some (.ok r,ps)=>ZZ (.ok r,putB ρ (ZY::(js++gs.map ZZ)) ps)
   |_=>ZY
  |none=>ZY
 else ZY
def axu{K:Fg9}{tg:Nat->aQ}{F H:Hp}{ρ ρ':Ro}{σ:L2.St}(G:Good K tg F H ρ σ){c m:Str}{i:Nat}{fs:List (Str×(Nat ⊕ D))}(em:mIsB c i m ρ=ZZ (.ok fs,ρ')) :
  ρ'=ρ/\(ρ:List Sl)[i]? = ZZ (.box c fs)/\∃a C dx fvs,σ[i]? = ZZ (ZZ (.ref a))/\F a=ZY/\H a=ZZ (.ins C dx fvs)/\nsIn K aV c=ZZ (ZZ (.ref C))/\(∀f,fs.lookup f=ZY->fvs.lookup f=ZY)/\fvs.lookup m=ZY/\(∀f k,fs.lookup f=ZZ (.inl k)->fvs.lookup f=ZZ (.ref (tg k)))/\∀f d,fs.lookup f=ZZ (.inr d)->∃v,fvs.lookup f=ZZ v/\Is K F d v:=by
 unfold mIsB at em;split at em
 ·rename_i c' fs' ei;split at em
  ·rename_i hz;obtain⟨rfl,hm⟩:=hz;cases em;obtain⟨oi,hoi,a,C,dx,fvs,rfl,hf,hh,hn,h0,h1,h2⟩:=G.at ei;exact⟨rfl,ei,a,C,dx,fvs,hoi,hf,hh,hn,h0,h0 m (tM.mp hm),h1,h2⟩
  ·cases em
 ·cases em
def aj2{K:Fg9}{X:Cx}{o e:dI}{es:List dI}{apos pos:Pos}{c m:Str}{i k n ng:Nat}{ls vf:List Str}{gs:List Nat}{f:Fd}{ps:List Str}{js:List (Option Nat)}{ms:M (List (Option D))}
  (D:DfnM X.prog X.w X.K X.mg X.base c m ps k (spBx K n ng f)) (hr:Room k X.A) (ho:PE X o (tVar i)) (ha:EG K X (e::es) js ms) (hn:1+js.length=n:=by rfl) (hng:gs.length=ng:=by rfl) {pl:Sem Bool}
  (hst:aO (e::es) X.env=(ZW,eval e X.env)::aO es X.env:=by rfl) (hpl:(gC pos (aO es X.env)).any (·.1)=ZW:=by rfl)
  (ht:eval (.Call (.Attribute o m apos) (e::es) [] pos) X.env=(do
   let ov <-eval o X.env
   standAt apos.atName
   let (f,first) <-jZ [ov] (getMethod ov m pl)
   callWith pos f first (gC pos (aO (e::es) X.env)) (backToKw pos (keywordEach [] X.env))):=by rfl) :
  ER K X (.Call (.Attribute o m apos) (e::es) [] pos) (alk c i m ls vf gs f js ms):=ER.mk λhk=>by
 obtain⟨C,fa,fd,hC,hcl,hme,hF,hB⟩:=D.ex;refine PE.imp (azg (pl:=pl) ho hcl hme hF hr hB .nil azn (ha hk) hst hpl ht) λσ H Q z9=>?_
 obtain⟨tg,F,ρ,r,ρ',G,em,q⟩:=z9;obtain⟨fs0,ρ0,e0,em1⟩:=bf em
 clear em
 obtain⟨ds,ρ1,e1,em2⟩:=bf em1
 clear em1
 obtain⟨fs,ρ2,e2,em⟩:=bf em2
 clear em2
 obtain⟨rfl,_,a0,C0,dx0,fvs0,z1,z2,z3,z4,z5,z6,z7,z8⟩:=axu G e0;subst hk;rw[hC] at z4;cases z4;refine⟨_,z1,a0,dx0,fvs0,rfl,z3,z6,tg,F,ρ0,ds,ρ1,G,e1,λvs H1 F1 G1 x1 ar=>?_⟩
 obtain⟨rfl,ei,a,C1,dx,fvs,y1,y2,y3,y4,y5,y6,y7,y8⟩:=axu G1 e2;rw[z1] at y1;cases y1;split at em
 ·rename_i hz;obtain⟨hl,hj,hky⟩:=hz;split at em
  ·rename_i fc hfc;split at em
   ·rename_i r' ps' e3;cases em;have hlen:=aor hl;have hgv:∃gv:List V,gv.length=gs.length/\∀(nn j:Nat) (v:V),gs[nn]? = ZZ j->gv[nn]? = ZZ v->σ[j]? = ZZ (ZZ v):=by
     refine⟨gs.map λj=>match σ[j]? with |some (ZZ v)=>v |_=>.non,by rw[aL],λnn j v g1 g2=>?_⟩
     rw[aX,g1] at g2;have hlt:nn<ls.length:=by rw[hlen];exact(aK.mp g1).1
     obtain⟨j',k',l',h1,h2,h3⟩:=ane hl (aF hlt);rw[g1] at h1;cases h1;obtain⟨o',ho',b,ws,rfl,_⟩:=G1.at h3;have g2:ZZ (match σ[j]? with |some (ZZ v)=>v |_=>V.non)=ZZ v:=g2
     rw[ho'] at g2;cases g2;exact ho'
    obtain⟨gv,hgl,hgv⟩:=hgv;have L:=as5 (a:=a0) ar hgl hgv;have Gl:=wu G1 hj L;have vl:=ar.length;have hb0:(lend ρ2 (ZY::(js++gs.map ZZ)) (ZY::(ds++gs.map λ_=>ZY)):List Sl)[0]? = ZZ .emp:=by
     unfold lend;rw[qL,lY];rfl
    have hsl:∀o',((V.ref a0::(vs++gv)).map ZZ)[0]? = ZZ o'->SlOk X.K (tgOf ((V.ref a0::(vs++gv)).map ZZ)) F1 H1 (.box c fc) o':=λo' ho'=>by
     cases ho';unfold bxC at hfc;obtain⟨vv,hv1,hv2⟩:=cB.mp hfc;subst hv2;have idx:∀f x,(ls.mapIdx λnn g=>(g,(.inl (1+js.length+nn):Nat ⊕ _root_.Dn.D))).lookup f=ZZ x->∃nn,ls[nn]? = ZZ f/\x=.inl (1+js.length+nn):=λf x hx=>by
      obtain⟨nn,h1,h2⟩:=aim (np:=1+js.length) (n0:=0) (by simpa using hx)
      exact⟨nn,h1,by simpa using h2⟩
     refine⟨a0,C1,dx,fvs,rfl,y2,y3,y4,λf hf=>?_,λf kk hf=>?_,λf d hf=>?_⟩
     ·-- nothing else
      refine y5 f ?_;rw[aan] at hf;cases hq:(ls.mapIdx λnn g=>(g,(.inl (1+js.length+nn):Nat ⊕ _root_.Dn.D))).lookup f with
      |none=>
       rw[hq] at hf;exact alu hky (ao1 (np:=1+js.length) (n0:=0) (by simpa using hq)) (aq6 hv1 f hf)
      |some x=>rw[hq] at hf;cases hf
     ·rw[aan] at hf;cases hq:(ls.mapIdx λnn g=>(g,(.inl (1+js.length+nn):Nat ⊕ _root_.Dn.D))).lookup f with
      |none=>
       rw[hq] at hf;obtain⟨d,hd,_⟩:=ayd hv1 f _ hf;cases hd
      |some x=>
       rw[hq] at hf;cases hf;obtain⟨nn,h1,h2⟩:=idx f _ hq;cases h2;obtain⟨j,k',l',g1,g2,g3⟩:=ane hl h1;obtain⟨oj,hoj,b,ws,rfl,_,_,_,ht'⟩:=G1.at g3;rw[y7 f k' g2,ht' k' rfl];have hlt:nn<gv.length:=by rw[hgl];exact(aK.mp g1).1
       have e5:=hgv nn j _ g1 (aF hlt);rw[hoj] at e5;have e6:gv[nn]? = ZZ (V.ref b):=by rw[aF hlt];exact cN e5.symm▸rfl
       have e7:((V.ref a0::(vs++gv)).map ZZ)[1+js.length+nn]? = ZZ (ZZ (.ref b)):=by
        rw[aX,show 1+js.length+nn=(js.length+nn)+1 by omega,fD,cD (by omega),show js.length+nn-vs.length=nn by omega,e6]
        rfl
       unfold tgOf;rw[e7]
     ·rw[aan] at hf;cases hq:(ls.mapIdx λnn g=>(g,(.inl (1+js.length+nn):Nat ⊕ _root_.Dn.D))).lookup f with
      |none=>
       rw[hq] at hf;obtain⟨d',hd,hd2⟩:=ayd hv1 f _ hf;cases hd;exact y8 f d hd2
      |some x=>
       rw[hq] at hf;cases hf;obtain⟨nn,h1,h2⟩:=idx f _ hq;cases h2
    obtain⟨Gb,hO⟩:=Gl.setB hb0 (λt l z=>by cases z) hsl
    show spBx X.K n ng f (V.ref a0::(vs++[])) H1 Q E0;rw[cF];refine⟨by rw[bF,vl];omega,gv,hgl.trans hng,F1,_,r,ps',Gb,e3,λv H' F' O' s' x' fin rr=>?_⟩
    have hO':Own (bZ (lend ρ2 (ZY::(js++gs.map ZZ)) (ZY::(ds++gs.map λ_=>ZY))) 0 (Sl.box c fc)) ((V.ref a0::vs++gv).map ZZ)=Own (lend ρ2 (ZY::(js++gs.map ZZ)) (ZY::(ds++gs.map λ_=>ZY))) ((V.ref a0::(vs++gv)).map ZZ):=hO
    rw[hO'] at x' rr;exact q v H' F' (zb G1 L x' s' fin) (x1.trans (aba G1 L x')) (lr x1 (aes G1 L fin rr))
   ·cases em
  ·cases em
 ·cases em
noncomputable def asu:Sl->Bool
 |.box _ _=>ZW
 |_=>ZX
section
variable{K:Fg9}{X:Cx}{tg:Nat->aQ}{F H F1 H1:Hp}{O O1:aQ->Prop}{ρ:Ro}{σ:L2.St}
def Good.updN(G:Good K tg F H ρ σ)(hb:(ρ:List Sl).all asu=ZX){d:aQ}(hf:F d=ZY)(hn:¬Own ρ σ d)(o:HO):Good K tg F (L2.upd H d o) ρ σ where
 sub:=λb u e=>by
  have hb:b≠d:=λz=>by subst z;rw[hf] at e;cases e
  rw[b7 hb];exact G.sub b u e
 len:=G.len
 inj:=G.inj
 sl:=λi s o' e q=>by
  have z:=G.sl i s o' e q;cases s with
  |emp=>trivial
  |val _=>exact z
  |box c fs=>exact absurd (cR.mp hb _ (cT e)) (by simp[asu])
  |own t l=>
   obtain⟨a,vs,e1,f,e2,h,ht⟩:=z;have ha:a≠d:=λz=>hn (z▸⟨i,⟨t,l,e⟩,by rw[q,e1]⟩)
   exact⟨a,vs,e1,f,by rw[b7 ha];exact e2,h,ht⟩
inductive FdR (K:Fg9) (F H:Hp) (O:aQ->Prop):List (Str×Rv)->List (Str×V)->List aQ->Prop
 |nil:FdR K F H O [] [] []
 |v {f:Str} {d:D} {v:V} {rs:List (Str×Rv)} {fvs:List (Str×V)} {A:List aQ} (h:Is K F d v) (t:FdR K F H O rs fvs A):FdR K F H O ((f,.v d)::rs) ((f,v)::fvs) A
 |fr {f:Str} {l:List D} {e:aQ} {ws:List V} {rs:List (Str×Rv)} {fvs:List (Str×V)} {A:List aQ} (hf:F e=ZY) (hn:¬O e) (hh:H e=ZZ (.lst ws)) (h:IsL K F l ws) (ne:e∉A) (t:FdR K F H O rs fvs A):FdR K F H O ((f,.fr l)::rs) ((f,.ref e)::fvs) (e::A)
theorem FdR.step{rs:List (Str×Rv)}{fvs:List (Str×V)}{A:List aQ}(h:FdR K F H O rs fvs A)(x:Ext O O1 F H F1 H1):FdR K F1 H1 O1 rs fvs A:=by
 induction h with
 |nil=>exact .nil
 |v h t ih=>exact .v (h.mono x.sub) ih
 | @fr f l e ws rs fvs A hf hn hh h ne t ih=>
  refine .fr ?_ (λz=>?_) (x.keep e _ hh hn) (h.mono x.sub) ne ih
  ·cases z:F1 e with
   |none=>rfl
   |some o=>
    rcases x.new e o z with z |z |z
    ·rw[hf] at z;cases z
    ·rw[hh] at z;cases z
    ·exact absurd z hn
  ·rcases x.own e z with z |z
   ·exact hn z
   ·rw[hh] at z;cases z
theorem FdR.out{rs:List (Str×Rv)}{fvs:List (Str×V)}{A:List aQ}(h:FdR K F H O rs fvs A):∀e∈A,¬O e/\F e=ZY/\∃ws,H e=ZZ (.lst ws)/\∃l,IsL K F l ws:=by
 induction h with
 |nil=>exact λe he=>absurd he cI
 |v h t ih=>exact ih
 | @fr f l e ws rs fvs A hf hn hh h ne t ih=>
  intro e' he;rcases bA.mp he with rfl |he
  ·exact⟨hn,hf,ws,hh,l,h⟩
  ·exact ih e' he
theorem FdR.upd{rs:List (Str×Rv)}{fvs:List (Str×V)}{A:List aQ}{d:aQ}{o:HO}(h:FdR K F H O rs fvs A)(hd:d∉A):FdR K F (L2.upd H d o) O rs fvs A:=by
 induction h with
 |nil=>exact .nil
 |v h t ih=>exact .v h (ih hd)
 | @fr f l e ws rs fvs A hf hn hh h ne t ih=>
  have h1:d≠e/\d∉A:=⟨λq=>hd (q▸List.mem_cons_self ..),λq=>hd (aR _ q)⟩
  exact .fr hf hn (by rw[b7 (gG h1.1)];exact hh) h ne (ih h1.2)
theorem FdR.snocV{rs:List (Str×Rv)}{fvs:List (Str×V)}{A:List aQ}(h:FdR K F H O rs fvs A){f:Str}{d:D}{v:V}(hd:Is K F d v):FdR K F H O (rs++[(f,.v d)]) (fvs++[(f,v)]) A:=by
 induction h with
 |nil=>exact .v hd .nil
 |v h t ih=>exact .v h ih
 |fr hf hn hh h ne t ih=>exact .fr hf hn hh h ne ih
theorem FdR.snocF{rs:List (Str×Rv)}{fvs:List (Str×V)}{A:List aQ}(h:FdR K F H O rs fvs A){f:Str}{l:List D}{e:aQ}{ws:List V}(h1:F e=ZY)(h2:¬O e)(h3:H e=ZZ (.lst ws))(h4:IsL K F l ws)(h5:e∉A):FdR K F H O (rs++[(f,.fr l)]) (fvs++[(f,.ref e)]) (A++[e]):=by
 induction h with
 |nil=>exact .fr h1 h2 h3 h4 cI .nil
 |v h t ih=>exact .v h (ih h5)
 | @fr f' l' e' ws' rs fvs A hf hn hh h ne t ih=>
  have z:e≠e'/\e∉A:=⟨λq=>h5 (q▸List.mem_cons_self ..),λq=>h5 (aR _ q)⟩
  refine .fr hf hn hh h (λq=>?_) (ih z.2)
  rcases cU.mp q with q |q
  ·exact ne q
  ·rw[dF] at q;exact z.1 q.symm
theorem aje{f:Str}{y:V}:∀{fs:List (Str×V)},fs.lookup f=ZY->putF f y fs=fs++[(f,y)]
 | [],_=>rfl
 | (g,x)::r,h=>by
  by_cases e:f=g
  ·subst e;rw[dG] at h;cases h
  ·have hb:(f==g)=ZW:=beq_eq_false_iff_ne.mpr e;simp only[bK,hb] at h;show(if g=f then (g,y)::r else (g,x)::putF f y r)=_
   rw[if_neg (gG e),aje h];rfl
def Oa(ρ:Ro)(σ:L2.St)(a:aQ)(A:List aQ):aQ->Prop:=λz=>Own ρ σ z∨z=a∨z∈A
def iniD:List (Str×M Rv)->Ro->Option (List (Str×Rv)×Ro)
 | [],ρ=>ZZ ([],ρ)
 | (f,m)::r,ρ=>match m ρ with
  |some (.ok (.v d),ρ1)=>if (ρ1:List Sl).all asu=ZX then (iniD r ρ1).map λp=>((f,.v d)::p.1,p.2) else ZY
  |some (.ok (.fr l),ρ1)=>if (ρ1:List Sl).all asu=ZX then (iniD r ρ1).map λp=>((f,.fr l)::p.1,p.2) else ZY
  |_=>ZY
def TSi(K:Fg9)(C:aQ)(fms:List (Str×M Rv)):TS:=λD σ H=>∃tg F ρ a dx rs0 fvs0 A0 rs ρ',Good K tg F H ρ σ/\σ[0]? = ZZ (ZZ (.ref a))/\H a=ZZ (.ins C dx fvs0)/\F a=ZY/\FdR K F H (Own ρ σ) rs0 fvs0 A0/\fvs0.length+fms.length<1000 /\
 (∀f∈fms.map (·.1),fvs0.lookup f=ZY)/\(fms.map (·.1)).Nodup/\iniD fms ρ=ZZ (rs,ρ') /\
 ∀H' F' fvs A,Good K tg F' H' ρ' σ->H' a=ZZ (.ins C dx fvs)->F' a=ZY->FdR K F' H' (Own ρ' σ) (rs0++rs) fvs A->Ext (Oa ρ σ a A0) (Oa ρ' σ a A) F H F' H'->D.nx σ H'
structure SI (K:Fg9) (X:Cx) (C:aQ) (ss:List gK) (fms:List (Str×M Rv)):Prop where
 go:X.K=K->PSs X ss (TSi K C fms)
def a1q{C:aQ}:SI K X C [] []:=SI.mk λ_=>PSs.imp ar8 λD σ H z9=>by
 obtain⟨tg,F,ρ,a,dx,rs0,fvs0,A0,rs,ρ',G,h0,h1,h2,h3,h4,h5,h6,em,q⟩:=z9;cases em;exact q H F fvs0 A0 G h1 h2 (by rw[cF];exact h3) (Ext.refl _ _ _)
def zh{ρ1:Ro}{a:aQ}{A A1:List aQ}{o:HO}(x:Ext (Own ρ σ) (Own ρ1 σ) F H F1 H1)(hA:∀z∈A1,z∈A∨Own ρ σ z∨H z=ZY):Ext (Oa ρ σ a A) (Oa ρ1 σ a A1) F H F1 (L2.upd H1 a o) where
 sub:=x.sub
 new:=λz u e=>(x.new z u e).imp id λh=>h.imp id .inl
 keep:=λz u e n=>by
  have hz:z≠a:=λq=>n (.inr (.inl q))
  rw[b7 hz];exact x.keep z u e λq=>n (.inl q)
 own:=λz h=>by
  rcases h with h |h |h
  ·exact(x.own z h).imp .inl id
  ·exact .inl (.inr (.inl h))
  ·rcases hA z h with q |q |q
   ·exact .inl (.inr (.inr q))
   ·exact .inl (.inl q)
   ·exact .inr q
 there:=λz h=>by
  by_cases hz:z=a
  ·subst hz;rw[gk] at h;cases h
  ·rw[b7 hz] at h;exact x.there z h
def agh{C:aQ}{o e:dI}{f:Str}{p2 pos:Pos}{m:M Rv}{ss:List gK}{fms:List (Str×M Rv)}(hcl:Cls K C)(hna:acz K C f)(hv:ER K X e m)(ho:PE X o (tVar 0))(t:SI K X C ss fms)(hs:iR e (ZZ (.Attribute o f p2)) pos.line X.env=pure ZW:=by rfl) :
  SI K X C (.Assign [.Attribute o f p2] e pos::ss) ((f,m)::fms):=SI.mk λhk=>by
 subst hk;refine PSs.imp (ajg (a2h ho (hv.go rfl) hs) (t.go rfl)) λD σ H z9=>?_
 obtain⟨tg,F,ρ,a,dx,rs0,fvs0,A0,rs,ρ',G,h0,h1,h2,h3,h4,h5,h6,em,q⟩:=z9;have hlk:fvs0.lookup f=ZY:=h5 f (aZ ..);rw[bC,mR] at h6;have h5':∀(y:V),∀g∈fms.map (·.1),(fvs0++[(f,y)]).lookup g=ZY:=λy g hg=>by
  rw[aan,h5 g (aR _ hg)];have e:g≠f:=λz=>h6.1 (z▸hg)
  have hb:(g==f)=ZW:=beq_eq_false_iff_ne.mpr e;simp[bK,hb]
 have h4':∀y:V,(fvs0++[(f,y)]).length+fms.length<1000:=λy=>by
  rw[bV];rw[bF] at h4;simp;omega
 have stay:∀{ρ1:Ro} {F1 H1:Hp},Ext (Own ρ σ) (Own ρ1 σ) F H F1 H1->H1 a=ZZ (.ins C dx fvs0)/\F1 a=ZY/\¬Own ρ1 σ a:=λ{ρ1 F1 H1} x=>by
  have no:¬Own ρ σ a:=λz=>by
   obtain⟨_,vs,hv⟩:=G.ownAt z;rw[h1] at hv;cases hv
  refine⟨x.keep a _ h1 no,?_,λz=>?_⟩
  ·cases z:F1 a with
   |none=>rfl
   |some u=>
    rcases x.new a u z with z |z |z
    ·rw[h2] at z;cases z
    ·rw[h1] at z;cases z
    ·exact absurd z no
  ·rcases x.own a z with z |z
   ·exact no z
   ·rw[h1] at z;cases z
 have hA0:a∉A0:=λz=>by
  obtain⟨_,_,ws,hw,_⟩:=h3.out a z;rw[h1] at hw;cases hw
 unfold iniD at em;split at em
 ·rename_i d ρ1 e1;split at em
  ·rename_i hb;obtain⟨⟨rs1,ρ2⟩,e2,e3⟩:=cB.mp em;cases e3;refine⟨tg,F,ρ,.v d,ρ1,G,e1,λy H1 F1 G1 x1 rr=>⟨_,h0,a,C,dx,fvs0,rfl,(stay x1).1,hcl,hna,by omega,?_⟩⟩
   obtain⟨s1,s2,s3⟩:=stay x1;have rr:Is X.K F1 d y:=rr;rw[aje hlk];refine⟨tg,F1,ρ1,a,dx,rs0++[(f,.v d)],fvs0++[(f,y)],A0,rs1,ρ2,G1.updN hb s2 s3 _,h0,gk,s2,((h3.step x1).snocV rr).upd hA0,h4' y,h5' y,h6.2,e2,λH' F' fvs A G' g1 g2 g3 g4=>q H' F' fvs A G' g1 g2 (by rw[gB] at g3;exact g3) ((zh (o:=.ins C dx (fvs0++[(f,y)])) x1 λz hz=>.inl hz).trans g4)⟩
  ·cases em
 ·rename_i l ρ1 e1;split at em
  ·rename_i hb;obtain⟨⟨rs1,ρ2⟩,e2,e3⟩:=cB.mp em;cases e3;refine⟨tg,F,ρ,.fr l,ρ1,G,e1,λy H1 F1 G1 x1 rr=>⟨_,h0,a,C,dx,fvs0,rfl,(stay x1).1,hcl,hna,by omega,?_⟩⟩
   obtain⟨s1,s2,s3⟩:=stay x1;obtain⟨b,ws,rfl,hb1,hb2,hb3,hb4,hb5⟩:=rr;have hbA:b∉A0:=λz=>by
    obtain⟨o1,_,ws',hw,_⟩:=h3.out b z;rcases hb1 with q |q
    ·rw[hw] at q;cases q
    ·exact o1 q
   have hba:a≠b:=λz=>by
    subst z;rw[s1] at hb3;cases hb3
   rw[aje hlk];refine⟨tg,F1,ρ1,a,dx,rs0++[(f,.fr l)],fvs0++[(f,.ref b)],A0++[b],rs1,ρ2,G1.updN hb s2 s3 _,h0,gk,s2,((h3.step x1).snocF hb2 hb5 hb3 hb4 hbA).upd (λz=>by
    rcases cU.mp z with z |z
    ·exact hA0 z
    ·rw[dF] at z;exact hba z),h4' _,h5' _,h6.2,e2,λH' F' fvs A G' g1 g2 g3 g4=>q H' F' fvs A G' g1 g2 (by rw[gB] at g3;exact g3) ((zh (o:=.ins C dx (fvs0++[(f,.ref b)])) x1 λz hz=>?_).trans g4)⟩
   rcases cU.mp hz with q |q
   ·exact .inl q
   ·rw[dF] at q;subst q;exact .inr hb1.symm
  ·cases em
 ·cases em
end
def ahw(K:Fg9)(n nl:Nat)(fms:List (Str×M Rv))(C:aQ):Sp:=λvs H Q _=>vs.length=n/\∃a dx F as rs ρ',vs[0]? = ZZ (.ref a)/\H a=ZZ (.ins C dx [])/\F a=ZY/\Good K (tgOf (vs.map ZZ)) F H as (vs.map ZZ)/\iniD fms (as++aD (nl-n) .emp)=ZZ (rs,ρ') /\
 ∀H' F' fvs A O',Same F' H'->H' a=ZZ (.ins C dx fvs)->F' a=ZY->FdR K F' H' O' rs fvs A->Ext (λz=>Own as (vs.map ZZ) z∨z=a) (λz=>O' z∨z=a∨z∈A) F H F' H'->Fin K F' H' (vs.map ZZ) (ρ'.take n) O'->Q .non H'
def a4o{K:Fg9}{P:bT}{w:dB}{mg:Str->Option aG}{base:eE}{x qual:Str}{st:gK}{f:aQ}{fd:eQ}{N ps:List Str}{k nl np:Nat}{fms:List (Str×M Rv)}{C:aQ}(F:Fun K x qual st f fd)(S:FnScope N ps (ao st))(h1:N.length=nl)(h2:ps.length=np)
  (hnd:(fms.map (·.1)).Nodup) (hsz:fms.length<1000)
  (body:∀(cdv:aG) (A:cQ) (outer:List Env) (s:aJ) (H:Hp) (E:XK),Room k (A.deeper (mY qual (ao st) s.heap.objs.size f cdv))->SI K (cxOf CX0 P w K mg base N qual (ao st) f cdv A outer s H E).nox C (jc st) fms) :
  FnOk P w K mg base CX0 (k+1) f fd ps (ahw K np nl fms C):=by
 subst h1 h2;refine F.ok S (λvs H Q E h=>h.1) (λcdv A outer s H vs Q E hr h=>⟨_,(body cdv A outer s H E hr).go rfl,?_⟩)
 obtain⟨hn,a,dx,F,as,rs,ρ',h0,hH,hF,G,em,q⟩:=h;have hl:as.length=(vs.map ZZ).length:=G.len;have G1:=G.app (N.length-vs.length);rw[<-hn] at em;have hs0:(L2.start N vs)[0]? = ZZ (ZZ (.ref a)):=by
  unfold L2.start;have hlt:0<vs.length:=(aK.mp h0).1;rw[aY (by rw[aL];exact hlt),aX,h0]
  rfl
 refine⟨_,F,_,a,dx,[],[],[],rs,ρ',G1,hs0,hH,hF,.nil,by simpa using hsz,λ_ _=>rfl,hnd,em,λH' F' fvs A' G' g1 g2 g3 g4=>?_⟩
 refine q H' F' fvs A' (Own ρ' (L2.start N vs)) G'.sub g1 g2 g3 ?_ ⟨λi l e=>?_⟩
 ·have e:Oa (as++aD (N.length-vs.length) .emp) (L2.start N vs) a []=λz=>Own as (vs.map ZZ) z∨z=a:=by
   funext z
   unfold Oa L2.start;rw[uv hl];simp
  rw[e] at g4;exact g4
 ·have hi:=(aK.mp e).1;rw[dX] at hi;rw[fM (by omega)] at e
  obtain⟨o,ho,b,ws,rfl,hf,hh,hl,ht⟩:=G'.at e;rw[ht i rfl];exact⟨⟨i,⟨_,_,e⟩,ho⟩,hf,ws,hh,hl⟩
noncomputable def tagB:Sl->Bool
 |.own (ZZ k) _=>decide (k<1000)
 |.box _ _=>ZW
 |_=>ZX
section
variable{K:Fg9}{X:Cx}{tg tg1:Nat->aQ}{F H F1 H1:Hp}{ρ:Ro}{σ:L2.St}
def Good.retag(G:Good K tg F H ρ σ)(hb:(ρ:List Sl).all tagB=ZX)(h:∀k,k<1000->tg k=tg1 k):Good K tg1 F H ρ σ where
 sub:=G.sub
 len:=G.len
 inj:=G.inj
 sl:=λi s o e q=>by
  have z:=G.sl i s o e q;have t:=cR.mp hb _ (cT e);cases s with
  |emp=>trivial
  |val _=>exact z
  |box c fs=>cases t
  |own t' l=>
   obtain⟨a,vs,e1,f,e2,h',ht⟩:=z;refine⟨a,vs,e1,f,e2,h',λk ek=>?_⟩
   subst ek;have t:decide (k<1000)=ZX:=t;rw[<-h k (of_decide_eq_true t)];exact ht k rfl
noncomputable def offs(ρ:Ro):List Nat->Ro
 | []=>ρ
 |j::js=>offs (bZ ρ j .emp) js
theorem Good.offs(G:Good K tg F H ρ σ):∀{js:List Nat},Good K tg F H (Dn.offs ρ js) σ/\∀z,Own (Dn.offs ρ js) σ z->Own ρ σ z:=λ{js}=>by
 induction js generalizing ρ with
 |nil=>exact⟨G,λ_ h=>h⟩
 |cons j js ih=>
  obtain⟨g,h⟩:=ih (G.drop j);exact⟨g,λz hz=>(ad7 (h z hz)).1⟩
def setG:List (Str×Rv)->List Nat->Nat->Ro->Option Ro
 | [],[],_,ρ=>ZZ ρ
 | (_,.v _)::r,gs,n,ρ=>setG r gs n ρ
 | (_,.fr l)::r,j::gs,n,ρ=>setG r gs (n+1) (bZ ρ j (.own (ZZ (1000+n)) l))
 |_,_,_,_=>ZY
def mkFs:List (Str×Rv)->Nat->List (Str×(Nat ⊕ D))
 | [],_=>[]
 | (f,.v d)::r,n=>(f,.inr d)::mkFs r n
 | (f,.fr _)::r,n=>(f,.inl (1000+n))::mkFs r (n+1)
 | (f,.tf _ _)::r,n=>(f,.inl 0)::mkFs r n
theorem ay2{O:aQ->Prop}{rs:List (Str×Rv)}{fvs:List (Str×V)}{A:List aQ}(h:FdR K F H O rs fvs A):∀{gs:List Nat} {n:Nat} {ρ ρ':Ro} {σ:L2.St},Good K tg1 F H ρ σ->(∀e∈A,¬Own ρ σ e)->(∀(m:Nat) (e:aQ),A[m]? = ZZ e->tg1 (1000+(n+m))=e)->setG rs gs n ρ=ZZ ρ' ->
  ∃σ',Good K tg1 F H ρ' σ'/\(∀j,j∉gs->σ'[j]? = σ[j]?)/\σ'.length=σ.length/\∀z,Own ρ' σ' z->Own ρ σ z∨z∈A:=by
 induction h with
 |nil=>
  intro gs n ρ ρ' σ G hA ht em;cases gs with
  |nil=>cases em;exact⟨σ,G,λ_ _=>rfl,rfl,λ_ h=>.inl h⟩
  |cons _ _=>cases em
 |v h t ih=>exact λ{gs n ρ ρ' σ} G hA ht em=>ih G hA ht em
 | @fr f l e ws rs fvs A hf hn hh h ne t ih=>
  intro gs n ρ ρ' σ G hA ht em;cases gs with
  |nil=>cases em
  |cons j gs=>
   have em:setG rs gs (n+1) (bZ ρ j (.own (ZZ (1000+n)) l))=ZZ ρ':=em;have hne:=hA e (aZ ..);have hte:tg1 (1000+n)=e:=ht 0 e rfl;have G1:=G.put (s:=.own (ZZ (1000+n)) l) (v:=.ref e) j ⟨e,ws,rfl,hf,hh,h,λk ek=>by cases ek;exact hte⟩ (λt l' a _ ea=>by cases ea;exact hne)
   obtain⟨σ',g1,g2,g3,g4⟩:=ih G1 (λe' he' w=>by
    rcases ada G.len w with w |⟨_,w⟩
    ·exact hA e' (aR _ he') w
    ·cases w;exact ne he') (λm e' he'=>by
    have:=ht (m+1) e' (by simpa using he')
    rw[show n+1+m=n+(m+1) by omega]
    exact this) em
   refine⟨σ',g1,λk hk=>?_,by rw[g3,cC],λz hz=>?_⟩
   ·rw[g2 k (λq=>hk (aR _ q)),bJ,if_neg (λq:j=k=>hk (q▸List.mem_cons_self ..))]
   ·rcases g4 z hz with w |w
    ·rcases ada G.len w with w |⟨_,w⟩
     ·exact .inl w
     ·cases w;exact .inr (aZ ..)
    ·exact .inr (aR _ w)
theorem az5{O:aQ->Prop}{rs:List (Str×Rv)}{fvs:List (Str×V)}{A:List aQ}(h:FdR K F H O rs fvs A):∀{n:Nat},(∀(m:Nat) (e:aQ),A[m]? = ZZ e->tg1 (1000+(n+m))=e) ->
  (∀f,(mkFs rs n).lookup f=ZY->fvs.lookup f=ZY)/\(∀f k,(mkFs rs n).lookup f=ZZ (.inl k)->fvs.lookup f=ZZ (.ref (tg1 k)))/\∀f d,(mkFs rs n).lookup f=ZZ (.inr d)->∃v,fvs.lookup f=ZZ v/\Is K F d v:=by
 induction h with
 |nil=>
  intro n _;refine⟨λ_ _=>rfl,λ_ _ h=>?_,λ_ _ h=>?_⟩
  ·cases h
  ·cases h
 | @v g d v rs fvs A h t ih=>
  intro n ht;obtain⟨i1,i2,i3⟩:=ih (n:=n) ht;refine⟨λf hf=>?_,λf k hf=>?_,λf d' hf=>?_⟩
  all_goals (unfold mkFs at hf;by_cases e:f=g)
  ·subst e;rw[dG] at hf;cases hf
  ·have hb:(f==g)=ZW:=beq_eq_false_iff_ne.mpr e;simp only[bK,hb] at hf ⊢
   exact i1 f hf
  ·subst e;rw[dG] at hf;cases hf
  ·have hb:(f==g)=ZW:=beq_eq_false_iff_ne.mpr e;simp only[bK,hb] at hf ⊢
   exact i2 f k hf
  ·subst e;rw[dG] at hf ⊢
   cases hf;exact⟨v,rfl,h⟩
  ·have hb:(f==g)=ZW:=beq_eq_false_iff_ne.mpr e;simp only[bK,hb] at hf ⊢
   exact i3 f d' hf
 | @fr g l e0 ws rs fvs A hf0 hn hh h ne t ih=>
  intro n ht;have hte:tg1 (1000+n)=e0:=ht 0 e0 rfl;obtain⟨i1,i2,i3⟩:=ih (n:=n+1) (λm e' he'=>by
   have:=ht (m+1) e' (by simpa using he')
   rw[show n+1+m=n+(m+1) by omega]
   exact this)
  refine⟨λf hf=>?_,λf k hf=>?_,λf d' hf=>?_⟩
  all_goals (unfold mkFs at hf;by_cases e:f=g)
  ·subst e;rw[dG] at hf;cases hf
  ·have hb:(f==g)=ZW:=beq_eq_false_iff_ne.mpr e;simp only[bK,hb] at hf ⊢
   exact i1 f hf
  ·subst e;rw[dG] at hf ⊢
   cases hf;rw[hte]
  ·have hb:(f==g)=ZW:=beq_eq_false_iff_ne.mpr e;simp only[bK,hb] at hf ⊢
   exact i2 f k hf
  ·subst e;rw[dG] at hf;cases hf
  ·have hb:(f==g)=ZW:=beq_eq_false_iff_ne.mpr e;simp only[bK,hb] at hf ⊢
   exact i3 f d' hf
end
structure DfnI (P:bT) (w:dB) (K:Fg9) (mg:Str->Option aG) (base:eE) (c:Str) (ps:List Str) (k:Nat) (sp:aQ->Sp):Prop where
 ex:∃C f fd,nsIn K aV c=ZZ (ZZ (.ref C))/\mg c=ZZ (.ref C)/\Mk K C f/\FnOk P w K mg base CX0 k f fd ps (sp C)/\Binds K fd ps []
def dNew(c:Str)(i:Nat)(gs:List Nat)(n nl:Nat)(fms:List (Str×M Rv))(js:List (Option Nat))(ms:M (List (Option D)))(k:Sd):Sd:=dM ms λds ρ=>
 if okJs ρ (ZY::js)=ZX then match iniD fms (lend ρ (ZY::js) (ZY::ds)++aD (nl-n) .emp) with
  |some (rs,ρc)=>if (putB ρ (ZY::js) (ρc.take n):List Sl).all tagB=ZX/\gs.contains i=ZW then match setG rs gs 0 (bZ (putB ρ (ZY::js) (ρc.take n)) i (.box c (mkFs rs 0))) with
   |some ρ3=>match k ρ3 with
    |some (fl,ρ4)=>if (offs ρ4 (i::gs):List Sl).all tagB=ZX then ZZ (fl,offs ρ4 (i::gs)) else ZY
    |none=>ZY
   |none=>ZY
   else ZY
  |none=>ZY
 else ZY
def Fin.mono{K:Fg9}{F' H':Hp}{τ:L2.St}{ps:Ro}{O O':aQ->Prop}(h:Fin K F' H' τ ps O)(w:∀z,O z->O' z):Fin K F' H' τ ps O':=⟨λi l e=>let ⟨a,b,c⟩:=h.at' i l e;⟨w _ a,b,c⟩⟩
def Ext.imp{O O1 O2:aQ->Prop}{F H F1 H1:Hp}(x:Ext O O1 F H F1 H1)(w:∀z,O2 z->O1 z):Ext O O2 F H F1 H1:=⟨x.sub,x.new,x.keep,λz h=>x.own z (w z h),x.there⟩
theorem aoh{K:Fg9}{r:Rv}{v:V}{H:Hp}{O:aQ->Prop}{F' H':Hp}{O1 O2:aQ->Prop}(w:∀z,O2 z->O1 z)(h:relR K r v H O F' H' O1):relR K r v H O F' H' O2:=by
 cases r with
 |v d=>exact h
 |fr l=>
  obtain⟨a,vs,e,h1,h2,h3,h4,h5⟩:=h;exact⟨a,vs,e,h1,h2,h3,h4,λz=>h5 (w _ z)⟩
 |tf d l=>
  obtain⟨t,u,a,vs,e,h1,h2,h3,h4,h5,h6,h7⟩:=h;exact⟨t,u,a,vs,e,h1,h2,h3,h4,h5,h6,λz=>h7 (w _ z)⟩
theorem xh{K:Fg9}{tg tg1:Nat->aQ}{ρ ρ4:Ro}{σ:L2.St}{F H:Hp}{E:Ends}{fl:Fl}{js:List Nat}(ht:∀k,k<1000->tg1 k=tg k)(hb:(offs ρ4 js:List Sl).all tagB=ZX)(q:FlOk K tg ρ σ F H E fl (offs ρ4 js)):FlOk K tg1 ρ σ F H E fl ρ4:=by
 have go:∀{σ':L2.St} {H' F':Hp},Good K tg1 F' H' ρ4 σ'->Good K tg F' H' (offs ρ4 js) σ'/\∀z,Own (offs ρ4 js) σ' z->Own ρ4 σ' z:=λG=>by
  obtain⟨g,h⟩:=G.offs (js:=js);exact⟨g.retag hb ht,h⟩
 cases fl with
 |nx=>exact λσ' H' F' G' x'=>let ⟨g,h⟩:=go G';q σ' H' F' g (x'.imp h)
 |brk=>exact λσ' H' F' G' x'=>let ⟨g,h⟩:=go G';q σ' H' F' g (x'.imp h)
 |cont=>exact λσ' H' F' G' x'=>let ⟨g,h⟩:=go G';q σ' H' F' g (x'.imp h)
 |ret r=>exact λv σ' H' F' G' x' rr=>let ⟨g,h⟩:=go G';q v σ' H' F' g (x'.imp h) (aoh h rr)
 |exc _=>exact q
def ax3(s:gK)(n:Nat):gK:=match s with
 |.ClassDef _ _ _ b _ _ _ _ _ _ _=>b.getD n s
 |_=>s
def boxB(K:Fg9)(C:aQ)(fs:List Str):Bool:=lX K C Str.empty&&gR K C&&qY K C&&(gY K (.ref C) "__setattr__" == ZZ (ZZ (.builtin "object.__setattr__")))&&pF K C&&kW K (.ref C)&&fs.all λf=>gY K (.ref C) f==ZZ ZY
section
variable{K:Fg9}{C:aQ}{fs:List Str}{c f m:Str}
def aj9(e:boxB K C fs=ZX):Cls K C/\pF K C=ZX/\kW K (.ref C)=ZX/\∀f∈fs,acz K C f:=by
 unfold boxB at e;simp only[bB,beq_iff_eq,cR] at e;obtain⟨⟨⟨⟨⟨⟨a,b⟩,c⟩,d⟩,g⟩,h⟩,i⟩:=e;exact⟨⟨a,b,c,d⟩,g,h,λf hf=>i f hf⟩
def ahc(a:nsIn K aV c=ZZ (ZZ (.ref C)))(e:boxB K C fs=ZX)(h:fs.contains f=ZX):FldT K c f:=λC' h'=>by
 rw[a] at h';cases h';obtain⟨x,_,_,y⟩:=aj9 e;exact⟨x,y f (cO.mp h)⟩
def a0w{P:bT}{w:dB}{mg:Str->Option aG}{base:eE}{fa:aQ}{fd:eQ}{ps:List Str}{k:Nat}{sp:Sp}(a:nsIn K aV c=ZZ (ZZ (.ref C)))(e:boxB K C fs=ZX)(b:gY K (.ref C) m=ZZ (ZZ (.ref fa)))(h1:lV K (.ref fa)=ZX)(h2:kW K (.ref fa)=ZX)
  (F:FnOk P w K mg base CX0 k fa fd ps sp) (B:Binds K fd ps []):DfnM P w K mg base c m ps k sp:=⟨C,fa,fd,a,(aj9 e).1,⟨b,h1,h2⟩,F,B⟩
def a0x{P:bT}{w:dB}{mg:Str->Option aG}{base:eE}{fa:aQ}{fd:eQ}{ps:List Str}{k:Nat}{sp:aQ->Sp}(a:nsIn K aV c=ZZ (ZZ (.ref C)))(g:mg c=ZZ (.ref C))(e:boxB K C fs=ZX)(b:gY K (.ref C) "__init__"=ZZ (ZZ (.ref fa)))(h1:lV K (.ref fa)=ZX)
  (F:FnOk P w K mg base CX0 k fa fd ps (sp C)) (B:Binds K fd ps []):DfnI P w K mg base c ps k sp:=⟨C,fa,fd,a,g,⟨(aj9 e).2.1,b,h1,(aj9 e).2.2.1⟩,F,B⟩
end
def ghB(N:List Str)(gs:List Nat)(sc:nJ):Bool:=gs.all λj=>match N[j]? with
 |some y=>(sc.names.lookup y).isNone
 |none=>ZX
def a0c{N:List Str}{gs:List Nat}{sc:nJ}(h:ghB N gs sc=ZX):∀j∈gs,∀y,N[j]? = ZZ y->¬Vis sc y:=λj hj y hy v=>by
 have z:=cR.mp h j hj;rw[hy] at z;have z:sc.names.lookup y=ZY:=tM.mp z;rcases v with v |v |v <;> (rw[z] at v;cases v)
end Dn
namespace Mn
open L2
section
variable{X:Cx}
def aus(hc:X.calm=ZX):abi X (.builtin "any") (λxs H Q=>∃(p:aQ) (ns:List Int),xs=[.ref p]/\SqL X.K H p (ns.map V.int)/\Q (.bl ((ns.map λn=>n != 0).any id)) H):=by
 intro zv s σ H xs us Q I r h;obtain⟨p,ns,rfl,hq,q⟩:=h;obtain⟨u,rfl,ru⟩:=vals1 r;cases ru;obtain⟨its,rv,pl,hz⟩:=I.list hq;have hl:=pl.isList;have hlen:=rv.length;rw[aL] at hlen;have hlt:p<s.heap.objs.size:=by obtain⟨_,e,_⟩:=hl;exact aN e
 refine call_any_walk (wpAny_pyIter_list hl ?_);refine⟨s.heap.objs.size,[s.heap.objs.size,p],[s.heap.objs.size],its.toArray.size,_,_,λi=>((ns.map λn=>n != 0)[i]?).getD ZX,rfl,wI (A:=X.A.in1) (I.ok.hd hc) _ p (bI hlt) its.toArray,
  ⟨⟨_,aM _ rfl,rfl,rfl⟩,hl.push _⟩,λi v s' Q' E' hP hQ=>?_,λh' tk hk=>?_⟩
 ·have hi:its[i]? = ZZ v:=by simpa using hP
  cases e:ns[i]? with
  |none=>
   have h1:ns.length<=i:=tQ.mp e;have h2:i<its.length:=(aK.mp hi).1;omega
  |some b=>
   obtain⟨u,hu,ru⟩:=rv.get (i:=i) (x:=V.int b) (by rw[aX,e];rfl)
   rw[hi] at hu;cases hu;obtain⟨t,rfl⟩:∃t,v=mK b t:=ru
   simp only[aX,e,yH,xW] at hQ;exact PySem.P.truthy_int hQ
 ·have e:((bW its.toArray.size).any λi=>((ns.map λn=>n != 0)[i]?).getD ZX)=(ns.map λn=>n != 0).any id:=by
   rw[aW,<-hlen,show ns.length=(ns.map λn=>n != 0).length by rw[aL]]
   exact range_any _
  rw[e];exact⟨.bl _,H,I.kept (t':=tk) (qQ hk),rfl,q⟩
end
end Mn
namespace Dn
open L2 Mn
section
variable{K:Fg9}{X:Cx}
def a0k:D->Option Rv
 |.lst l=>(aap l).map λns=>.v (.bl ((ns.map λn=>n != 0).any id))
 |_=>ZY
@[simp] theorem a4m(l:List D):a0k (.lst l)=(aap l).map λns=>.v (.bl ((ns.map λn=>n != 0).any id)):=rfl
theorem a0z(hc:X.calm=ZX):CallD K X (.builtin "any") (g1 a0k):=ahn λhk zv s σ0 H x u Q tg F ρ σ d r I ru G bd eg q=>by
 subst hk;cases d with
 |lst l=>
  have eg:(aap l).map (λns=>Rv.v (.bl ((ns.map λn=>n != 0).any id)))=ZZ r:=eg
  cases e:aap l with
  |none=>rw[e] at eg;cases eg
  |some bs=>
   rw[e] at eg;cases eg;obtain⟨a,vs,rfl,ea,hl⟩:=bd.lst G.sub;rw[af5 e] at hl;rw[hl.int_inv] at ea;exact aus hc zv s σ0 H [.ref a] [u] Q I (.cons ru .nil) ⟨a,bs,rfl,SqL.of ea,ub G q (.bl _)⟩
 |_=>cases eg
end
noncomputable def cxE(X:Cx)(ps:List (aQ×Obj))(R:aG->aJ->Prop):Cx:={ X with pn:=X.pn++ps,xe:=R }
section
variable{K:Fg9}{X:Cx}{ps zv:List (aQ×Obj)}{R:aG->aJ->Prop}{σ:L2.St}{H:Hp}{s:aJ}
def zi(I:Inv X (ps++zv) σ H s):Inv (cxE X ps R) zv σ H s :=
 ⟨⟨I.ok.mod,I.ok.kind,I.ok.glob,I.ok.blt,I.ok.above,I.ok.inj,I.ok.has,I.ok.cab,I.ok.hd,I.ok.frames,I.ok.stk,I.ok.exf,I.ok.bs,I.ok.bsz,I.ok.noex,I.ok.exfs,I.ok.funs,I.ok.frf⟩,I.os,I.bare,I.base,I.loc,I.cell,I.free,I.freeC,λp hp=>I.pin p (by rw[<-gB];exact hp),I.hok,I.len⟩
def yi(I:Inv (cxE X ps R) zv σ H s):Inv X (ps++zv) σ H s :=
 ⟨⟨I.ok.mod,I.ok.kind,I.ok.glob,I.ok.blt,I.ok.above,I.ok.inj,I.ok.has,I.ok.cab,I.ok.hd,I.ok.frames,I.ok.stk,I.ok.exf,I.ok.bs,I.ok.bsz,I.ok.noex,I.ok.exfs,I.ok.funs,I.ok.frf⟩,I.os,I.bare,I.base,I.loc,I.cell,I.free,I.freeC,λp hp=>I.pin p (by show p∈(X.pn++ps)++zv;rw[gB];exact hp),I.hok,I.len⟩
def xi{tg:Nat->aQ}{ρ ρ':Ro}{F:Hp}{x:Exn}{e:aG}{s':aJ}(h:RX K X (ps++zv) tg ρ σ F H x ρ' e s'):RX K X ps tg ρ σ F H x ρ' e s':=by
 obtain⟨σ',H',F',I,G,y,a,C,dx,ch,ea,hc,hf,fly,hch⟩:=h;refine⟨σ',H',F',I.unpinned,G,y,a,C,dx,ch,ea,hc,hf,fly,λb hb=>?_⟩
 obtain⟨h1,h2,h3,h4,h5,h6⟩:=hch b hb;refine⟨h1,h2,h3,h4,h5,λp hp=>h6 p ?_⟩
 rcases cU.mp hp with z |z
 ·exact gJ _ z
 ·exact cX _ (gJ _ z)
def arz{tg:Nat->aQ}{ρ ρ':Ro}{F:Hp}{x:Exn}(hfr:X.env.frame=ZZ X.env.locals)(hst:X.stack=X.env::X.outer):sI (bL X.prog X.w) X.A X.env (RX K X zv tg ρ σ F H x ρ'):=λe s' z9=>by
 obtain⟨σ1,H1,F1,I1,G1,x1,a,C,dx,ch,ea,hc,hf,fly,hch⟩:=z9;subst ea;have hl1:=I1.stack;rw[hst] at hl1;unfold notedBy;refine azx (by rw[<-hst];exact I1.ok.frames) hl1 hfr fly λh' T oT ts oe vs hT kb e1 e2 e3 e4 e5 e6 e7 e8 e9 e10=>?_
 rw[<-hst] at kb;have I2:=vc I1 kb hch;have hsz3:3<ts.size:=(dR.mp e10).1;have fin:RX K X zv tg ρ σ F H x ρ' (.ref a) { s' with heap:=h' }:=by
  refine⟨σ1,H1,F1,I2,G1,x1,a,C,dx,[a,T],rfl,hc,hf,⟨oe,vs,e1,e2,e3,e4,e5,.inr ⟨T,oT,ts,_,rfl,e6,e7,e8,e9,e10,.inr rfl⟩⟩,λb hb=>?_⟩
  have hb':b=a∨b=T:=by simpa using hb
  rcases hb' with rfl |rfl
  ·exact hch _ fly.fresh
  ·rcases hT with z |z
   ·exact hch _ z
   ·exact wc I1 (iQ z) (I1.hok.fresh z)
 have same:h'.update T (jT (·.setIfInBounds 3 (iI X.env.locals)))=h':=Heap.update_setField_same h' T oT ts 3 (iI X.env.locals) e8 e9 e10;have step:bG (bL X.prog X.w) X.A (setFlight (.ref a) X.env.frame) (λ_ s''=>RX K X zv tg ρ σ F H x ρ' (.ref a) s'') (RX K X zv tg ρ σ F H x ρ') { s' with heap:=h' }:=by
  rw[hfr];unfold setFlight;refine aA (cG e1 e4 e6 ?_);rw[if_pos (show(cH T != cM)=ZX from by simp)]
  show bG (bL X.prog X.w) X.A (setField (.ref T) 3 (iI X.env.locals)) _ _ _;refine eX e8 e9 hsz3 ?_;show RX K X zv tg ρ σ F H x ρ' (.ref a) { s' with heap:=h'.update T (jT (·.setIfInBounds 3 (iI X.env.locals))) }
  rw[same];exact fin
 unfold cameBackBy;refine aA (cG e1 e4 e6 ?_);rw[if_neg (show ¬((cH T==cM)=ZX) from by simp)]
 first
  |exact aA (aH step)
  |exact step
end
section
variable{K:Fg9}{X:Cx}{tgt iter:dI}{ss:List gK}{pos:Pos}
def IT.s{m:M (List D)}(h:IT K X tgt iter m):IT K X tgt iter (okS m):=IT.mk λhk zv s σ H R I ⟨tg,F,ρ,l,ρ',G,em,q⟩=>h.go hk zv s σ H R I ⟨tg,F,ρ,l,ρ',G,(aik em).1,q⟩
def TSx(K:Fg9)(tg:Nat->aQ)(g:Sd)(ρ:Ro)(σ:L2.St)(F H:Hp)(x:Exn)(ρ':Ro):TS:=λE σ3 H3=>∃F3 ρ3 fl ρ4,Good K tg F3 H3 ρ3 σ3/\g ρ3=ZZ (fl,ρ4)/\((fl=.exc x/\ρ4=ρ'/\Ext (Own ρ σ) (Own ρ3 σ3) F H F3 H3)∨FlOk K tg ρ3 σ3 F3 H3 E fl ρ4)
def a1c{m:M (List D)}{b:D->Ro->Option Ro}{g:Sd}(hfr:X.env.frame=ZZ X.env.locals)(hst:X.stack=X.env::X.outer)(hc:X.calm=ZX)(hi:IT K X tgt iter m)(hm:NoX m)(hg:GV K X tgt b)(hb:SVs K X ss g)(hx:XSs K X ss g)
  (hs:∀x,foldedSetIterable iter X.env x=pure x:=by intro _;rfl):XS K X (.For tgt iter ss [] pos) (dFor m b g):=⟨λhk hn zv s σ H tg F ρ x ρ' I G em=>by
 rcases apa (uc.mp em) with em |⟨l,ρ1,e1,em⟩
 ·exact absurd em (hm _ _ _)
 have no:∀{e:aG} {s':aJ},X.xe e s'->False:=λz=>by rw[hn] at z;exact z
 have pi':PI (cxE X zv (RX K X zv tg ρ σ F H x ρ')) tgt iter (TIt K m):=λq s0 σ0 H0 R I0 h0=>
  bD (hi hk (zv++q) s0 σ0 H0 R (yi I0) h0) (λv s1 h1=>bD h1 (λitv s2 ⟨it,fp,tn,J,H2,ea,I2,T,st2,f2,r⟩=>⟨it,fp,tn,J,H2,ea,(zi I2),T,st2,λb hb=>by
   obtain⟨z1,z2,z3,z4,z5,z6⟩:=f2 b hb;exact⟨z1,z2,z3,z4,z5,λp hp=>z6 p (by rw[<-gB];exact hp)⟩,r⟩) λ_ _ z=>(no z).elim) λ_ _ z=>(no z).elim
 have pg':PG (cxE X zv (RX K X zv tg ρ σ F H x ρ')) tgt (TGd K b):=λq s0 σ0 H0 v u Q I0 r h0=>
  bD (hg hk (zv++q) s0 σ0 H0 v u Q (yi I0) r h0) (λ_ s1 ⟨σ1,H1,I1,z⟩=>⟨σ1,H1,(zi I1),z⟩) λ_ _ z=>(no z).elim
 have pb':PSs (cxE X zv (RX K X zv tg ρ σ F H x ρ')) ss (TSx K tg g ρ σ F H x ρ'):=λq s3 σ3 H3 E I3 z9=>by
  obtain⟨F3,ρ3,fl,ρ4,G3,e3,q3⟩:=z9;rcases q3 with⟨rfl,rfl,x3⟩ |q3
  ·exact bD (hx.go hk hn (zv++q) s3 σ3 H3 tg F3 ρ3 x _ (yi I3) G3 (uc.mpr e3)) (λ_ _ z=>z.elim) λ_ _ z=>(xi z).back x3
  ·refine bD (hb.go hk (zv++q) s3 σ3 H3 E (yi I3) ⟨tg,F3,ρ3,fl,ρ4,G3,e3,q3⟩) (λf s4 z=>?_) λ_ _ z=>(no z).elim
   cases f with
   |next=>obtain⟨σ5,H5,I5,z⟩:=z;exact⟨σ5,H5,(zi I5),z⟩
   |brk=>obtain⟨σ5,H5,I5,z⟩:=z;exact⟨σ5,H5,(zi I5),z⟩
   |cont=>obtain⟨σ5,H5,I5,z⟩:=z;exact⟨σ5,H5,(zi I5),z⟩
   |ret u=>obtain⟨v,σ5,H5,I5,r,z⟩:=z;exact⟨v,σ5,H5,(zi I5),r,z⟩
 have I0:Inv X (zv++[]) σ H s:=by rw[cF];exact I
 refine bD (axj (X:=cxE X zv (RX K X zv tg ρ σ F H x ρ')) (arz hfr hst) hc pi' pg' pb' hs [] s σ H { nx:=λ_ _=>False,rt:=λ_ _=>False } (zi I0) ?_) (λf s1 z=>?_) λ_ _ z=>z
 ·refine⟨tg,F,ρ,l,ρ1,G,e1,λJ H1 F1 G1 x1 Z=>?_⟩
  refine atr (g:=TGd K b) (tb:=TSx K tg g ρ σ F H x ρ') (D':={ nx:=λ_ _=>False,rt:=λ_ _=>False }) Z (λi σ2 H2=>∃F2 ρ2,Good K tg F2 H2 ρ2 σ2/\Ext (Own ρ σ) (Own ρ2 σ2) F H F2 H2/\Same F1 F2/\forD b g (l.drop i) ρ2=ZZ (.exc x,ρ')) ⟨F1,ρ1,G1,x1,Same.refl _,em⟩ (λi σ2 H2 _ ⟨F2,ρ2,G2,_,s2,_⟩=>s2.trans G2.sub) ?_ ?_
  ·rintro i d xv σ2 H2' H2 hd ⟨F2',ρ2,G2',x2',s2',em2⟩ al
   obtain⟨F2,G2,x2,s2,id,_⟩:=akc G2' x2' s2' al;have hlt:i<l.length:=(aK.mp hd).1;have ed:l[i]=d:=(aK.mp hd).2;rw[kI hlt,ed] at em2;unfold forD at em2;split at em2
   ·cases em2
   ·rename_i ρ3 e3;refine⟨tg,F2,ρ2,d,ρ3,G2,id,e3,λσ3 H3 F3 G3 x3=>?_⟩
    split at em2
    ·rename_i ρ4 e4;exact⟨F3,ρ3,.nx,ρ4,G3,e4,.inr λσ' H' F' G' x'=>⟨F',ρ4,G',(x2.trans x3).trans x',(s2.trans x3.sub).trans x'.sub,em2⟩⟩
    ·rename_i ρ4 e4;exact⟨F3,ρ3,.cont,ρ4,G3,e4,.inr λσ' H' F' G' x'=>⟨F',ρ4,G',(x2.trans x3).trans x',(s2.trans x3.sub).trans x'.sub,em2⟩⟩
    ·cases em2
    ·cases em2
    ·rename_i y ρ4 e4;cases em2;exact⟨F3,ρ3,.exc _,_,G3,e4,.inl ⟨rfl,rfl,x2.trans x3⟩⟩
    ·cases em2
  ·rintro σ2 H2 ⟨F2,ρ2,G2,x2,s2,em2⟩
   rw[pC (aP _)] at em2;cases em2
 ·cases f with
  |next=>obtain⟨_,_,_,z⟩:=z;exact z.elim
  |brk=>obtain⟨_,_,_,z⟩:=z;exact z.elim
  |cont=>obtain⟨_,_,_,z⟩:=z;exact z.elim
  |ret u=>obtain⟨_,_,_,_,_,z⟩:=z;exact z.elim⟩
end
def TNew(K:Fg9)(X:Cx)(c:Str)(i:Nat)(gs:List Nat)(n nl:Nat)(fms:List (Str×M Rv))(js:List (Option Nat))(ms:M (List (Option D))):TS:=λE σ H=>∃tg F ρ ds ρ1 rs ρc ρ3,Good K tg F H ρ σ/\ms ρ=ZZ (.ok ds,ρ1)/\okJs ρ1 (ZY::js)=ZX/\iniD fms (lend ρ1 (ZY::js) (ZY::ds)++aD (nl-n) .emp)=ZZ (rs,ρc)/\((putB ρ1 (ZY::js) (ρc.take n):List Sl).all tagB=ZX/\gs.contains i=ZW)/\setG rs gs 0 (bZ (putB ρ1 (ZY::js) (ρc.take n)) i (.box c (mkFs rs 0)))=ZZ ρ3 /\
 ∀(σ1:L2.St) (H1:Hp) (σ2:L2.St) (tg1:Nat->aQ) (F1:Hp),GH X σ1 σ2->Good K tg1 F1 H1 ρ3 σ2->(∀m,m<1000->tg1 m=tg m)->Ext (Own ρ σ) (Own ρ3 σ2) F H F1 H1->E.nx σ1 H1
section
variable{K:Fg9}{X:Cx}{e:dI}{es:List dI}{ss:List gK}{p p2 pos pos2:Pos}{x c:Str}{i kk n nl:Nat}{gs:List Nat}{fms:List (Str×M Rv)}{ps:List Str}{js:List (Option Nat)}{ms:M (List (Option D))}{k:Sd}
def axi
  (D:DfnI X.prog X.w X.K X.mg X.base c ps kk (ahw K n nl fms)) (hr:Room (kk+1) X.A) (hgl:Gl X c) (hN:X.N.Nodup) (hi:X.N[i]? = ZZ x) (hx:Loc X.env.scope x) (ha:EG K X (e::es) js ms) 
  (hgh:∀j∈gs,∀y,X.N[j]? = ZZ y->¬Vis X.env.scope y) (hn:1+js.length=n:=by rfl)
  (hdb:(c==("__debug__" : Str))=ZW:=by decide) (he:Zc X e es:=by rfl) (hpl:(gC pos (aO es X.env)).any (·.1)=ZW:=by rfl)
  (hs:iR (.Call (.Name c p2) (e::es) [] pos) (ZZ (.Name x p)) pos2.line X.env=pure ZW:=by rfl) (hf:X.fn x=ZX∨X.env.scope.names.lookup x=ZZ .local:=by first |exact .inl rfl |exact .inr rfl |assumption) (hk:X.K=K) :
  PS X (.Assign [.Name x p] (.Call (.Name c p2) (e::es) [] pos) pos2) (TNew K X c i gs n nl fms js ms):=by
 obtain⟨C,fa,fd,hC,hmg,hM,hF,hB⟩:=D.ex;subst hk;refine PS.imp (axh hN hi hx (azh hM hF hr hgl hmg hB .nil azn (ha rfl) hdb he hpl) hs hf) λE σ H z9=>?_
 obtain⟨tg,F,ρ,ds,ρ1,rs,ρc,ρ3,G,e1,hj,e2,⟨hb,hgi⟩,e3,q⟩:=z9;refine⟨tg,F,ρ,ds,ρ1,G,e1,λvs H1 F1 G1 x1 ar x0 dx hx0 hdx hne=>?_⟩
 have vl:=ar.length;have L:Lent X.K F1 σ ((V.ref x0::vs).map ZZ) (ZY::js) (ZY::ds):=by
  have:=as5 (a:=x0) (gs:=[]) (gv:=[]) ar rfl (λn j v h=>by simp at h)
  simpa using this
 have hx1:(upd H1 dx (.own x0)) x0=ZY:=by rw[b7 (gG hne)];exact hx0
 have G2:=(G1.fresh hdx (.own x0)).fresh hx1 (.ins C dx []);have Gl:=wu G2 hj L;show ahw X.K n nl fms C (V.ref x0::(vs++[])) _ _ E0;rw[cF];refine⟨by rw[bF,vl];omega,x0,dx,F1,_,rs,ρc,rfl,gk,G1.freeF hx0,Gl,e2,λH' F' fvs A O' s' g1 g2 g3 g4 fin=>⟨rfl,?_⟩⟩
 have y:Ext (Own (lend ρ1 (ZY::js) (ZY::ds)) ((V.ref x0::vs).map ZZ)) (λz=>O' z∨z=x0∨z∈A) F1 H1 F' H':=by
  have up:∀z o,H1 z=ZZ o->(upd (upd H1 dx (.own x0)) x0 (.ins C dx [])) z=ZZ o:=λz o hz=>by
   rw[b7 (jj hz hx0),b7 (jj hz hdx)];exact hz
  have dn:∀z,(upd (upd H1 dx (.own x0)) x0 (.ins C dx [])) z=ZY->H1 z=ZY:=λz hz=>by
   cases q:H1 z with
   |none=>rfl
   |some o=>rw[up z o q] at hz;cases hz
  refine⟨g4.sub,λz o hz=>?_,λz o hz nz=>?_,λz hz=>?_,λz hz=>dn z (g4.there z hz)⟩
  ·rcases g4.new z o hz with w |w |w |w
   ·exact .inl w
   ·exact .inr (.inl (dn z w))
   ·exact .inr (.inr w)
   ·subst w;rw[g2] at hz;cases hz
  ·exact g4.keep z o (up z o hz) λw=>w.elim nz λw=>by subst w;rw[hx0] at hz;cases hz
  ·rcases g4.own z hz with(w |w) |w
   ·exact .inl w
   ·subst w;exact .inr hx0
   ·exact .inr (dn z w)
 have fin':=fin.mono (O':=λz=>O' z∨z=x0∨z∈A) λz hz=>.inl hz
 have Gb:=zb G1 L y s' fin';have xb:=aba (ps:=ρc.take n) G1 L y;have hA:∀z∈A,¬Own (putB ρ1 (ZY::js) (ρc.take n)) σ z/\(Own ρ1 σ z∨H1 z=ZY):=λz hz=>by
  obtain⟨o1,o2,ws,o3,l,o4⟩:=g3.out z hz;have w:=y.own z (.inr (.inr hz));have rr:relR X.K (.fr l) (.ref z) H1 (Own (lend ρ1 (ZY::js) (ZY::ds)) ((V.ref x0::vs).map ZZ)) F' H' O':=⟨z,ws,rfl,w.symm,o2,o3,o4,o1⟩;obtain⟨a,vs',e',h1,h2,h3,h4,h5⟩:=aes (ps:=ρc.take n) G1 L fin rr;cases e';exact⟨h5,h1.symm⟩
 have hx9:¬Own (putB ρ1 (ZY::js) (ρc.take n)) σ x0:=λz=>by
  obtain⟨j,z⟩:=z;obtain⟨_,ws,hw⟩:=G1.ownAt ⟨j,aco z⟩;rw[hx0] at hw;cases hw
 have htg:∀m',m'<1000->tg m'=(λm=>if m<1000 then tg m else A.getD (m-1000) 0) m':=λm' hm=>by simp[hm]
 have hnm:∀(m:Nat) (e':aQ),A[m]? = ZZ e'->(λm=>if m<1000 then tg m else A.getD (m-1000) 0) (1000+(0+m))=e':=λm e' he'=>by
  show(if 1000+(0+m)<1000 then tg (1000+(0+m)) else A.getD (1000+(0+m)-1000) 0)=e'
  rw[if_neg (by omega),show 1000+(0+m)-1000=m by omega,aU,he']
  rfl
 have Gt:=Gb.retag (tg1:=λm=>if m<1000 then tg m else A.getD (m-1000) 0) hb htg
 obtain⟨k1,k2,k3⟩:=az5 (tg1:=λm=>if m<1000 then tg m else A.getD (m-1000) 0) (n:=0) g3 hnm
 have Gi:=Gt.put (s:=.box c (mkFs rs 0)) (v:=.ref x0) i ⟨x0,C,dx,fvs,rfl,g2,g1,hC,k1,k2,k3⟩ (λt l a z=>by cases z)
 have ob:∀z,Own (bZ (putB ρ1 (ZY::js) (ρc.take n)) i (.box c (mkFs rs 0))) (bZ σ i (ZZ (V.ref x0))) z->Own (putB ρ1 (ZY::js) (ρc.take n)) σ z:=λz hz=>by
  rcases ada Gb.len hz with w |⟨⟨t,l,w⟩,_⟩
  ·exact w
  ·cases w
 obtain⟨σ2,Gf,s1,s2,s3⟩:=ay2 (n:=0) g3 Gi (λz hz w=>(hA z hz).1 (ob z w)) hnm e3
 refine q _ _ σ2 _ F' ⟨s2,λj yy v hj' hv vis=>?_⟩ Gf (λm hm=>(htg m hm).symm) ?_
 ·by_cases hg:j∈gs
  ·exact absurd vis (hgh j hg yy hj')
  ·rw[<-s1 j hg];exact hv
 ·have xx:=x1.trans xb;refine⟨xx.sub,xx.new,xx.keep,λz hz=>?_,xx.there⟩
  rcases s3 z hz with w |w
  ·exact xx.own z (ob z w)
  ·rcases(hA z w).2 with w |w
   ·exact x1.own z w
   ·exact .inr (x1.there z w)
def asx{ds:List (Option D)}{ρ1 ρ':Ro}{fl:Fl}
  (em:(if okJs ρ1 (ZY::js)=ZX then match iniD fms (lend ρ1 (ZY::js) (ZY::ds)++aD (nl-n) .emp) with
  |some (rs,ρc)=>if (putB ρ1 (ZY::js) (ρc.take n):List Sl).all tagB=ZX/\gs.contains i=ZW then match setG rs gs 0 (bZ (putB ρ1 (ZY::js) (ρc.take n)) i (.box c (mkFs rs 0))) with
   |some ρ3=>match k ρ3 with
    |some (fl,ρ4)=>if (offs ρ4 (i::gs):List Sl).all tagB=ZX then ZZ (fl,offs ρ4 (i::gs)) else ZY
    |none=>ZY
   |none=>ZY
   else ZY
  |none=>ZY
 else ZY)=ZZ (fl,ρ')):∃rs ρc ρ3 ρ4,okJs ρ1 (ZY::js)=ZX/\iniD fms (lend ρ1 (ZY::js) (ZY::ds)++aD (nl-n) .emp)=ZZ (rs,ρc)/\((putB ρ1 (ZY::js) (ρc.take n):List Sl).all tagB=ZX/\gs.contains i=ZW)/\setG rs gs 0 (bZ (putB ρ1 (ZY::js) (ρc.take n)) i (.box c (mkFs rs 0)))=ZZ ρ3/\k ρ3=ZZ (fl,ρ4)/\(offs ρ4 (i::gs):List Sl).all tagB=ZX/\ρ'=offs ρ4 (i::gs):=by
 split at em
 ·rename_i hj;split at em
  ·rename_i rs ρc e2;split at em
   ·rename_i hz;split at em
    ·rename_i ρ3 e3;split at em
     ·rename_i fl' ρ4 e4;split at em
      ·rename_i hb4;cases em;exact⟨rs,ρc,ρ3,ρ4,hj,e2,hz,e3,e4,hb4,rfl⟩
      ·cases em
     ·cases em
    ·cases em
   ·cases em
  ·cases em
 ·cases em
def aob
  (D:DfnI X.prog X.w X.K X.mg X.base c ps kk (ahw K n nl fms)) (hr:Room (kk+1) X.A) (hgl:Gl X c) (hN:X.N.Nodup) (hi:X.N[i]? = ZZ x) (hx:Loc X.env.scope x) (ha:EG K X (e::es) js ms) (t:SVs K X ss k)
  (hgh:∀j∈gs,∀y,X.N[j]? = ZZ y->¬Vis X.env.scope y) (hn:1+js.length=n:=by rfl)
  (hdb:(c==("__debug__" : Str))=ZW:=by decide) (he:Zc X e es:=by rfl) (hpl:(gC pos (aO es X.env)).any (·.1)=ZW:=by rfl)
  (hs:iR (.Call (.Name c p2) (e::es) [] pos) (ZZ (.Name x p)) pos2.line X.env=pure ZW:=by rfl) (hf:X.fn x=ZX∨X.env.scope.names.lookup x=ZZ .local:=by first |exact .inl rfl |exact .inr rfl |assumption) :
  SVs K X (.Assign [.Name x p] (.Call (.Name c p2) (e::es) [] pos) pos2::ss) (dNew c i gs n nl fms js ms k):=SVs.mk λhk=>
 PSs.imp (ajg (axi D hr hgl hN hi hx ha hgh hn hdb he hpl hs hf hk) (axg (t hk))) λE σ H ⟨tg,F,ρ,fl,ρ',G,em,q⟩=>my em q λds ρ1 e1 em=>by
  obtain⟨rs,ρc,ρ3,ρ4,hj,e2,hz,e3,e4,hb4,rfl⟩:=asx em;exact⟨tg,F,ρ,ds,ρ1,rs,ρc,ρ3,G,e1,hj,e2,hz,e3,λσ1 H1 σ2 tg1 F1 g Gf ht xx=>⟨σ2,g,tg1,F1,ρ3,fl,ρ4,Gf,e4,xh ht hb4 (FlOk.back xx q)⟩⟩
def ayb
  (D:DfnI X.prog X.w X.K X.mg X.base c ps kk (ahw K n nl fms)) (hr:Room (kk+1) X.A) (hgl:Gl X c) (hN:X.N.Nodup) (hi:X.N[i]? = ZZ x) (hx:Loc X.env.scope x) (ha:EG K X (e::es) js ms) (hm:NoX ms) (t:XSs K X ss k)
  (hgh:∀j∈gs,∀y,X.N[j]? = ZZ y->¬Vis X.env.scope y) (hn:1+js.length=n:=by rfl)
  (hdb:(c==("__debug__" : Str))=ZW:=by decide) (he:Zc X e es:=by rfl) (hpl:(gC pos (aO es X.env)).any (·.1)=ZW:=by rfl)
  (hs:iR (.Call (.Name c p2) (e::es) [] pos) (ZZ (.Name x p)) pos2.line X.env=pure ZW:=by rfl) (hf:X.fn x=ZX∨X.env.scope.names.lookup x=ZZ .local:=by first |exact .inl rfl |exact .inr rfl |assumption) :
  XSs K X (.Assign [.Name x p] (.Call (.Name c p2) (e::es) [] pos) pos2::ss) (dNew c i gs n nl fms js ms k):=⟨λhk hno zv s σ H tg F ρ y ρ' I G em=>by
 rcases apa (uc.mp em) with em |⟨ds,ρ1,e1,em⟩
 ·exact absurd em (hm _ _ _)
 ·obtain⟨rs,ρc,ρ3,ρ4,hj,e2,hz,e3,e4,hb4,rfl⟩:=asx em;refine wpAny_execs_cons (bD (axi D hr hgl hN hi hx ha hgh hn hdb he hpl hs hf hk zv s σ H { nx:=λσ1 H1=>∃σ2 tg1 F1,GH X σ1 σ2/\Good K tg1 F1 H1 ρ3 σ2/\(∀m,m<1000->tg1 m=tg m)/\Ext (Own ρ σ) (Own ρ3 σ2) F H F1 H1,rt:=λ_ _=>False } I ⟨tg,F,ρ,ds,ρ1,rs,ρc,ρ3,G,e1,hj,e2,hz,e3,λσ1 H1 σ2 tg1 F1 g Gf ht xx=>⟨σ2,tg1,F1,g,Gf,ht,xx⟩⟩) (λf s1 q=>?_) λe s1 q=>by rw[hno] at q;exact q.elim)
  cases f with
  |next=>
   obtain⟨σ1,H1,I1,σ2,tg1,F1,g,Gf,ht,xx⟩:=q;refine bD (t.go hk hno zv s1 σ2 H1 tg1 F1 ρ3 y ρ4 (I1.gh g.1 g.2) Gf (uc.mpr e4)) (λ_ _ z=>z.elim) λ_ _ z9=>?_
   obtain⟨σ',H',F',I',G',yy,fly⟩:=z9;obtain⟨g2,o2⟩:=G'.offs (js:=i::gs);exact⟨σ',H',F',I',g2.retag hb4 ht,(xx.trans yy).imp o2,fly⟩
  |ret v=>obtain⟨_,_,_,_,_,z⟩:=q;exact z.elim
  |brk=>obtain⟨_,_,_,z⟩:=q;exact z.elim
  |cont=>obtain⟨_,_,_,z⟩:=q;exact z.elim⟩
end
def mFnF(f:Fd)(m:M Rv)(ms:M (List D)):M Rv:=m.bind λr=>ms.bind λds ρ=>match r with
 |.fr l=>match f (.own (ZZ 0) l::ds.map Sl.val) with
  |some (.ok r',_)=>ZZ (.ok r',ρ)
  |_=>ZY
 |_=>ZY
def Good.pre{K:Fg9}{tg:Nat->aQ}{F H:Hp}{ρ P:Ro}{σ S:L2.St}(G:Good K tg F H P S)(hl:ρ.length=σ.length)(h1:∀(j:Nat) (s:Sl),(ρ:List Sl)[j]? = ZZ s->(P:List Sl)[j]? = ZZ s)(h2:∀(j:Nat) (o:Option V),σ[j]? = ZZ o->S[j]? = ZZ o):Good K tg F H ρ σ/\∀z,Own ρ σ z->Own P S z :=
 have w:∀i a,Owns ρ σ i a->Owns P S i a:=λi a ⟨⟨t,l,e⟩,q⟩=>⟨⟨t,l,h1 i _ e⟩,h2 i _ q⟩
 ⟨⟨G.sub,hl,λi s o e q=>G.sl i s o (h1 i s e) (h2 i o q),λi j a x y=>G.inj i j a (w i a x) (w j a y)⟩,λz ⟨i,x⟩=>⟨i,w i z x⟩⟩
theorem as6(ρ:Ro)(ds:List D):∀c,(rQ (aD ds.length (ZY:Option Nat)) (ds.map ZZ)).mapIdx (λi p=>agy ρ (c+i) p.1 p.2)=ds.map Sl.val:=by
 induction ds with
 |nil=>intro c;rfl
 |cons d ds ih=>
  intro c;rw[bF,dH,bC,qL,lY,bC]
  congr 1
  have:=ih (c+1);rw[<-this]
  congr 1
  funext i p
  rw[show c+(i+1)=c+1+i by omega]
theorem atd{K:Fg9}{F:Hp}:∀{ds:List D} {vs:List V},IsL K F ds vs->ds.length=vs.length
 |_,_,.nil=>rfl
 |_,_,.cons _ t=>by rw[bF,bF,atd t]
theorem axt{K:Fg9}{F:Hp}:∀{ds:List D} {vs:List V} {i:Nat} {d:D},IsL K F ds vs->ds[i]? = ZZ d->∃v,vs[i]? = ZZ v/\Is K F d v
 |_,_,0,_,.cons h _,e=>by cases e;exact⟨_,rfl,h⟩
 |_,_,i+1,_,.cons _ t,e=>by
  obtain⟨v,a,b⟩:=axt (i:=i) t (by simpa using e)
  exact⟨v,by simpa using a,b⟩
def aw8(ms:M (List D))(k:Nat):Prop:=∀ρ ds ρ',ms ρ=ZZ (.ok ds,ρ')->ds.length=k
def as7:aw8 mNil 0:=λρ ds ρ' e=>by
 obtain⟨rfl,_⟩:=j6 e;rfl
def aot{m:M D}{ms:M (List D)}{k:Nat}(h:aw8 ms k):aw8 (bc m ms) (k+1):=λρ ds ρ' e=>by
 obtain⟨d,ρ1,_,e⟩:=bf e;obtain⟨r,ρ2,e2,e⟩:=bf e;obtain⟨rfl,_⟩:=j6 e;rw[bF,h _ _ _ e2]
section
variable{K:Fg9}{X:Cx}{e:dI}{es:List dI}{pos p:Pos}
theorem axz{f:Fd}{n k:Nat}{x:Str}{pn:List Str}{m:M Rv}{ms:M (List D)}(F:Dfn X.prog X.w X.K X.mg X.base x pn k (spOf K n f))(hr:Room k X.A)(hg:Gl X x)(h:ER K X e m)(t:ED K X es ms)(hlen:aw8 ms es.length)(hn:es.length+1=n:=by rfl)(hdb:Zb x:=by decide)
  (he:Zc X e es:=by rfl) (hpl:(gC pos (aO es X.env)).any (·.1)=ZW:=by rfl):ER K X (.Call (.Name x p) (e::es) [] pos) (mFnF f m ms):=ER.mk λhk=>PE.imp (a2t F hr hg (sy (h hk) (t hk) he) hdb he hpl) λσ H Q z9=>by
 obtain⟨tg,F,ρ,r,ρ',G,em,q⟩:=z9;obtain⟨rv,ρ1,e1,em⟩:=bf em;obtain⟨ds,ρ2,e2,em⟩:=bf em;cases rv with
 |v d=>cases em
 |tf d l=>cases em
 |fr l=>
  have em:(match f (.own (ZZ 0) l::ds.map Sl.val) with
   |some (.ok r',_)=>ZZ (Out.ok r',ρ2)
   |_=>ZY)=ZZ (.ok r,ρ'):=em
  split at em
  ·rename_i r' ps e3;cases em;refine⟨tg,F,ρ,.fr l,ρ1,G,e1,λv H1 F1 G1 x1 rr1=>⟨tg,F1,ρ1,ds,ρ',G1,e2,λvs H2 F2 G2 x2 il=>?_⟩⟩
   obtain⟨a,ws,rfl,ha,hf,hh,hl,hno⟩:=rr1;have hh2:H2 a=ZZ (.lst ws):=x2.keep a _ hh hno;have hno2:¬Own ρ' σ a:=λz=>by
    rcases x2.own a z with w |w
    ·exact hno w
    ·rw[hh] at w;cases w
   have hf2:F2 a=ZY:=by
    cases q:F2 a with
    |none=>rfl
    |some o=>
     rcases x2.new a o q with w |w |w
     ·rw[hf] at w;cases w
     ·rw[hh] at w;cases w
     ·exact absurd w hno
   have hl2:IsL K F2 l ws:=hl.mono x2.sub;have len:=G2.len;have noE:∀z,Own (ρ'++aD 1 Sl.emp) (σ++aD 1 ZY) z->Own ρ' σ z:=λz z9=>by
    obtain⟨i,⟨t,l,e'⟩,q⟩:=z9;rcases lW i ρ'.length with w |w
    ·rw[aY w] at e';rw[aY (by omega)] at q
     exact⟨i,⟨t,l,e'⟩,q⟩
    ·rw[cD w] at e';rcases hi:i - ρ'.length with _ |j
     ·rw[hi] at e';cases e'
     ·rw[hi] at e';simp at e'
   have Gp:=(G2.app 1).put (s:=.own ZY l) (v:=.ref a) ρ'.length ⟨a,ws,rfl,hf2,hh2,hl2,λk e=>by cases e⟩ (λt l b e1 e2 z=>by cases e2;exact hno2 (noE _ z))
   generalize hρ:bZ (ρ'++aD 1 Sl.emp) ρ'.length (.own ZY l)=ρp at *;generalize hσ:bZ (σ++aD 1 ZY) ρ'.length (ZZ (V.ref a))=σp at *;have ρn:(ρp:List Sl)[ρ'.length]? = ZZ (.own ZY l):=by rw[<-hρ];simp
   have σn:σp[ρ'.length]? = ZZ (ZZ (V.ref a)):=by rw[<-hσ,len];simp
   have ρj:∀(j:Nat) (s:Sl),(ρ':List Sl)[j]? = ZZ s->(ρp:List Sl)[j]? = ZZ s:=λj s w=>by
    have hj:j < ρ'.length:=(aK.mp w).1;rw[<-hρ,bJ,if_neg (by omega),aY hj]
    exact w
   have σj:∀(j:Nat) (o:Option V),σ[j]? = ZZ o->σp[j]? = ZZ o:=λj o w=>by
    have hj:j < σ.length:=(aK.mp w).1;rw[<-hσ,bJ,if_neg (by omega),aY hj]
    exact w
   have ownp:∀z,Own ρp σp z->Own ρ' σ z∨z=a:=λz hz=>by
    rw[<-hρ,<-hσ] at hz;rcases ada (G2.app 1).len hz with w |⟨_,w⟩
    ·exact .inl (noE z w)
    ·cases w;exact .inr rfl
   have lv:=atd il;have L:Lent K F2 σp ((V.ref a::vs).map ZZ) (ZZ ρ'.length::aD ds.length ZY) (ZY::ds.map ZZ):=by
    refine⟨by simp[lv],by simp,λi j o h' q=>?_,λi d h' q=>?_⟩
    ·cases i with
     |zero=>simp at h';subst h';rw[σn] at q;cases q;rfl
     |succ i=>
      rw[fD] at h';have:=cT h';rw[nF] at this;cases this.2
    ·cases i with
     |zero=>simp at h'
     |succ i=>
      rw[fD,aX] at q;obtain⟨d0,e0,e4⟩:=cB.mp q;cases e4;obtain⟨v,w1,w2⟩:=axt il e0;exact⟨v,by simp[w1],w2⟩
   have hj:okJs ρp (ZZ ρ'.length::aD ds.length ZY)=ZX:=by
    unfold okJs;rw[ρn,bB];constructor
    ·simp
    ·generalize ds.length=c
     induction c with
     |zero=>rfl
     |succ c ih=>rw[dH];exact ih
   have el:lend ρp (ZZ ρ'.length::aD ds.length ZY) (ZY::ds.map ZZ)=.own (ZZ 0) l::ds.map Sl.val:=by
    unfold lend;rw[qL,lY]
    congr 1
    ·show agy ρp 0 (ZZ ρ'.length) ZY=_;unfold agy;simp only[ρn]
    ·have:=as6 ρp ds 1;rw[<-this]
     congr 1
     funext i p
     rw[Nat.add_comm]
   have Gl:=wu Gp hj L;rw[el] at Gl;have hds:=hlen _ _ _ e2;show spOf K n f ((V.ref a::vs)++[]) H2 Q E0;rw[cF];refine⟨by rw[bF,<-lv,hds];exact hn,F2,_,r,ps,Gl,e3,λv H' F' O' s' x' fin rr=>?_⟩
   rw[<-el] at x' rr;have Gb:=zb Gp L x' s' fin;have xb:=aba (ps:=ps) Gp L x';have rb:=aes Gp L fin rr;have pj:∀(j:Nat) (s:Sl),(ρ':List Sl)[j]? = ZZ s->(putB ρp (ZZ ρ'.length::aD ds.length ZY) ps:List Sl)[j]? = ZZ s:=λj s w=>by
    have hj':j < ρ'.length:=(aK.mp w).1;unfold putB;rw[mF,ρj j s w];show ZZ (putS _ ps j s)=ZZ s;unfold putS;have:(ZZ ρ'.length::aD ds.length ZY).findIdx? (λo=>o==ZZ j)=ZY:=by
     rw[nP];intro o ho;rcases bA.mp ho with rfl |ho
     ·simp;omega
     ·rw[(nF.mp ho).2];rfl
    rw[this]
   obtain⟨Gf,sub⟩:=Good.pre Gb len pj σj;have xx:=x1.trans x2;have xp:Ext (Own ρ σ) (Own ρp σp) F H F2 H2:=⟨xx.sub,xx.new,xx.keep,λz hz=>by
    rcases ownp z hz with w |rfl
    ·exact xx.own z w
    ·exact ha.symm,xx.there⟩
   exact q v H' F' Gf ((xp.trans xb).imp sub) (aoh sub (lr xp rb))
  ·cases em
end
@[simp] theorem a7z(f:Fd)(m:M Rv)(ms:M (List D))(ρ:Ro):mFnF f m ms ρ=(m.bind λr=>ms.bind λds ρ=>match r with
 |.fr l=>match f (.own (ZZ 0) l::ds.map Sl.val) with
  |some (.ok r',_)=>ZZ (.ok r',ρ)
  |_=>ZY
 |_=>ZY) ρ:=rfl
end Dn
end
namespace Dn
open PySem L2
@[simp] abbrev gL9(d:D):Option Rv:=(itemsD d).map λl=>.v (.int l.length)
@[simp] abbrev gT9(d:D):Option Rv:=(itemsD d).map λl=>.v (.tup l)
end Dn
namespace My
open PySem L2 Mn Dn
noncomputable def NS:List Str:=["ArrowError","NoArrows","NoRoom","NoWalkers","NotShut","NeverBack","NoTour","NoRow","NoHouse","NotOpen","Nobody","NoText","TooGreat"]
def air:Sd :=
 (dRet (M.v (mAnd (mIsi .int (gr 0)) (mUn gNot (mIsi .bool (gr 0))))))
def ym:Fd:=fnD 1 1 air
def vh:Sd :=
 (dRet (M.v (mAnd (M.d (mFn ym [ZZ 0] (bw 0 fu))) (alm (λi j=>decide (i<=j)) (λi j=>decide (i<=j)) (mVar 1) (mVar 0) (mVar 2)))))
def jf:Fd:=fnD 3 3 vh
def vm:Sd :=
 (dRet (M.v (mAnd (mIsi .tuple (gr 0)) (alm (λi j=>decide (i<=j)) (λi j=>decide (i<=j)) (mVar 1) (M.d (gw (g1 gL9) (f9 0 mNil))) (mVar 2)))))
def jg:Fd:=fnD 3 3 vm
def af0:Sd :=
 (dRet (mFn jf [ZY,ZY,ZY] (az (mVar 1) (az (ret (.int 0)) (az (M.d (mOp (gInt fSub) (jd (M.d (gw (g1 gL9) (f9 0 mNil))) (ret (.int 1))))) fu)))))
def xq:Fd:=fnD 2 2 af0
def anx:M D :=
 (M.d (mOp (gIn ZW) (dh 0 (gr 1))))
def aj8:M Bool :=
 (aad (M.d (gw (g1 gAll) (bc (M.d (zc [ZY,ZZ 1] (aam (M.d (mOp gIx (dh 2 (gr 0))))) (ir 0) (ret ZX) anx)) mNil))))
def anw:M D :=
 (mVar 0)
def ai5:M Bool :=
 (jr (gCmp λi j=>decide (i<j)) (jd (M.d (gw (g1 gL9) (f9 1 mNil))) (gr 2)))
def ai1:Sd :=
 (dSeq (dSet 2 (gw (g1 gL9) (f9 1 mNil))) (dSet 1 (zc [ZY,ZZ 1,ZZ 0] (aam (mVar 1)) (ir 0) aj8 anw)))
def axw:Sd :=
 (dSeq (dSet 1 (ae3 (bc (M.d (gw (g1 gL9) (f9 0 mNil))) mNil))) (dSeq (dSet 2 (mOp gAdd (jd (M.d (gw (g1 gL9) (f9 1 mNil))) (ret (.int 1))))) (dSeq (whileD ai5 ai1 fuel) (dRet (gw (g1 gT9) (f9 1 mNil))))))
def al0:Fd:=fnD 3 1 axw
def rn:Sd :=
 (dSeq (dOk (dSet 1 (mFn al0 [ZZ 0] (bw 0 fu)))) (dIf (okS (jr (gEq ZX) (dh 1 (mTup mNil)))) (ab6 "NotOpen" "room" (okS (M.d (mOp gIx (dh 1 (ret (.int 0))))))) dNx))
def dq:Fd:=fnD 2 1 rn
def ab5:M D :=
 (M.d (mFn jf [ZZ 0,ZY,ZY] (bw 0 (az (ret (.int 0)) (az (M.d (mOp (gInt fSub) (jd (M.d (gw (g1 gL9) (f9 1 mNil))) (ret (.int 1))))) fu)))))
def adi:Sd :=
 (dSeq (dIf (adf (aad (M.d (mFn jg [ZZ 1,ZY,ZY] (bw 1 (az (M.d (gw (g1 gL9) (f9 0 mNil))) (az (M.d (gw (g1 gL9) (f9 0 mNil))) fu))))))) (dRet (M.v (ret (.bl ZW)))) dNx) (dRet (gw (g1 gAll) (bc (M.d (zc [ZY,ZY] (mGet anq (bc (mVar 1) (bc (mVar 0) mNil))) (bTup 2 (qj (ir 0) (qj (ir 1) bNil))) (ret ZX) ab5)) mNil))))
def uo:Fd:=fnD 2 2 adi
def uz:Sd :=
 (dIf (okS (adf (aad (M.d (mFn uo [ZY,ZY] (az (mVar 0) (az (mVar 1) fu))))))) (aix ⟨"NoArrows", []⟩) dNx)
def gq:Fd:=fnD 2 2 uz
def al6:M D :=
 (M.d (mOp (gInt fMod) (jd (M.d (mOp gAdd (dh 0 (gr 1)))) (M.d (gw (g1 gL9) (f9 2 mNil))))))
def anm:Sd :=
 (dRet (gw (g1 gT9) (bc (M.d (zc [ZY,ZY,ZY] (mGet ati (bc (mVar 1) (bc (mVar 2) (bc (mVar 0) mNil)))) (bTup 3 (qj (ir 0) (qj (ir 1) (qj (ir 2) bNil)))) (ret ZX) al6)) mNil)))
def adm:Fd:=fnD 3 3 anm
def al7:M D :=
 (M.d (mOp gIx (dh 1 (M.d (mOp (gInt fSub) (dh 0 (ret (.int 1))))))))
def ano:Sd :=
 (dRet (gw (g1 gT9) (bc (M.d (zc [ZY,ZY] (mGet anq (bc (mVar 1) (bc (mVar 0) mNil))) (bTup 2 (qj (ir 0) (qj (ir 1) bNil))) (ret ZX) al7)) mNil)))
def adn:Fd:=fnD 2 2 ano
def ah9:M Bool :=
 (jr (gIn ZW) (jd (M.d (mOp gIx (dh 2 (gr 0)))) (gr 1)))
def ah8:M D :=
 (mVar 0)
def ahv:M Bool :=
 (jr (gCmp λi j=>decide (i<j)) (jd (M.d (gw (g1 gL9) (f9 2 mNil))) (gr 3)))
def ahu:Sd :=
 (dSeq (dSet 3 (gw (g1 gL9) (f9 2 mNil))) (dSet 2 (zc [ZY,ZZ 2,ZZ 0] (aam (mVar 2)) (ir 0) ah9 ah8)))
def ajx:Sd :=
 (dSeq (dSet 2 (gw (g1 λd=>(itemsD d).map λl=>.fr l) (f9 1 mNil))) (dSeq (dSet 3 (mOp gAdd (jd (M.d (gw (g1 gL9) (f9 2 mNil))) (ret (.int 1))))) (dSeq (whileD ahv ahu fuel) (dRet (alj 2)))))
def aa4:Fd:=fnD 4 2 ajx
def aa5:M D :=
 (M.d (mFn jf [ZZ 0,ZY,ZZ 1] (bw 0 (az (ret (.int 0)) (bw 1 fu)))))
def aby:Sd :=
 (dSeq (dIf (adf (aad (M.d (mFn jg [ZZ 1,ZY,ZY] (bw 1 (az (M.d (gw (g1 gL9) (f9 0 mNil))) (az (M.d (gw (g1 gL9) (f9 0 mNil))) fu))))))) (dRet (M.v (ret (.bl ZW)))) dNx) (dRet (gw (g1 gAll) (bc (M.d (zc [ZY,ZZ 2] (aam (mVar 1)) (ir 0) (ret ZX) aa5)) mNil))))
def qp:Fd:=fnD 3 3 aby
def um:Sd :=
 (dIf (okS (adf (aad (M.d (mFn qp [ZZ 0,ZY,ZY] (bw 0 (az (mVar 1) (az (ret (.int 100)) fu)))))))) (aix ⟨"NoWalkers", []⟩) dNx)
def ig:Fd:=fnD 2 2 um
def ae4:Sd :=
 (dSeq (dSet 5 (mOp (gInt fMod) (jd (M.d (mOp (gInt fSub) (dh 4 (gr 1)))) (gr 0)))) (xr (M.v (mMut 3 ahb (bc (M.d (mOp (gInt fDiv) (jd (M.d (mOp (gInt fSub) (jd (M.d (mOp (gInt fSub) (jd (M.d (mOp gAdd (dh 2 (gr 0)))) (ret (.int 1))))) (gr 5)))) (gr 0)))) mNil)))))
def alx:Sd :=
 (dSeq (dSet 3 (mLst mNil)) (dSeq (dFor (mGet vo (bc (mVar 0) mNil)) (ir 4) ae4) (dRet (alj 3))))
def aas:Fd:=fnD 6 3 alx
def aae:Sd :=
 (xr (M.v (mMut 3 ahb (bc (M.d (gw (g1 gT9) (bc (M.d (mFn aas [ZY,ZZ 5,ZZ 6] (az (M.d (gw (g1 gL9) (f9 4 mNil))) (bw 5 (bw 6 fu))))) mNil))) mNil))))
def aek:Sd :=
 (dSeq (dSet 3 (mLst mNil)) (dSeq (dFor (mGet ati (bc (mVar 0) (bc (mVar 1) (bc (mVar 2) mNil)))) (bTup 3 (qj (ir 4) (qj (ir 5) (qj (ir 6) bNil)))) aae) (dRet (gw (g1 gT9) (f9 3 mNil)))))
def sr:Fd:=fnD 7 3 aek
def kj:Sd :=
 (dIf (jr (gCmp λi j=>decide (j<=i)) (dh 9 (ret (.int 0)))) (dSubAugF (λi j=>i+j) "Crowd" 0 "standing" 4 (mVar 9) (mVar 10)) (dSubAugF (λi j=>i+j) "Crowd" 0 "gone" 5 (M.d (mOp (gInt fSub) (jd (mUn gNeg (mVar 9)) (ret (.int 1))))) (mVar 10)))
def g_Crowd_let_leave:Sd :=
 (dSeq (dSet 7 (mOp gIx (jd (mFV "Crowd" 0 "house") (gr 1)))) (dSeq (dSet 8 (mFn aas [ZY,ZY,ZZ 2] (az (M.d (gw (g1 gL9) (f9 7 mNil))) (az (M.d (mOp gIx ((mLnk "Crowd" 0 "turning" 3).bind λ_=>dh 3 (gr 1)))) (bw 2 fu))))) (dSeq (dSubF "Crowd" 0 "turning" 3 (mVar 1) (M.d (mOp (gInt fMod) (jd (M.d (mOp gAdd (jd (M.d (mOp gIx ((mLnk "Crowd" 0 "turning" 3).bind λ_=>dh 3 (gr 1)))) (gr 2)))) (M.d (gw (g1 gL9) (f9 7 mNil))))))) (dSeq (dSubAugF (λi j=>i+j) "Crowd" 0 "left" 6 (mVar 1) (mVar 2)) (dSeq (dSubAugF (λi j=>i-j) "Crowd" 0 "standing" 4 (mVar 1) (mVar 2)) (dFor (mGet anq (bc (mVar 7) (bc (mVar 8) mNil))) (bTup 2 (qj (ir 9) (qj (ir 10) bNil))) kj))))))
def gj:Fd:=fnD 11 7 g_Crowd_let_leave
def xn:List (Str×M Rv) :=
 [("house", (M.v (mVar 1))),("turning", (gw (g1 λd=>(itemsD d).map λl=>.fr l) (f9 2 mNil))),("standing", (gw (g1 λd=>(itemsD d).map λl=>.fr l) (f9 3 mNil))),("gone", (mOp gMul (jd (M.d (mLst (bc (ret (.int 0)) mNil))) (ret (.int 3))))),("left", (mOp gMul (jd (M.d (mLst (bc (ret (.int 0)) mNil))) (M.d (gw (g1 gL9) (f9 1 mNil))))))]
def aao:Sd :=
 (dIf (jr (gCmp λi j=>decide (j<i)) (jd (M.d (mOp gIx ((mLnk "Crowd" 3 "standing" 6).bind λ_=>dh 6 (gr 4)))) (ret (.int 0)))) (xr (alk "Crowd" 3 "let_leave" ["turning","standing","gone","left"] ["house"] [5,6,7,8] gj [ZZ 4,ZY] (bw 4 (az (M.d (mOp gIx ((mLnk "Crowd" 3 "standing" 6).bind λ_=>dh 6 (gr 4)))) fu)))) dNx)
def aaj:M Bool :=
 (aad (M.d (gw (g1 a0k) ((mLnk "Crowd" 3 "standing" 6).bind λ_=>f9 6 mNil))))
def acb:Sd :=
 (dFor (mGet vo (bc (M.d (gw (g1 gL9) (f9 0 mNil))) mNil)) (ir 4) aao)
def ag8:Sd :=
 (dNew "Crowd" 3 [5,6,7,8] 4 4 xn [ZZ 0,ZZ 1,ZZ 2] (bw 0 (bw 1 (bw 2 fu))) (dSeq (whileD aaj acb fuel) (dRet (M.v (mTup (bc (M.d (gw (g1 gT9) ((mLnk "Crowd" 3 "gone" 7).bind λ_=>f9 7 mNil))) (bc (M.d (gw (g1 gT9) ((mLnk "Crowd" 3 "turning" 5).bind λ_=>f9 5 mNil))) (bc (M.d (gw (g1 gT9) ((mLnk "Crowd" 3 "left" 8).bind λ_=>f9 8 mNil))) mNil))))))))
def ab3:Fd:=fnD 9 3 ag8
def rz:Sd :=
 (dSeq (xr (mFn gq [ZY,ZY] (az (okS (mVar 0)) (az (okS (mVar 1)) fu)))) (xr (mFn ig [ZZ 0,ZY] (bw 0 (az (okS (mVar 2)) fu)))))
def dg:Fd:=fnD 3 3 rz
def aly:Sd :=
 (dSeq (xr (mFn dg [ZY,ZY,ZY] (az (okS (mVar 0)) (az (okS (mVar 1)) (az (okS (mVar 2)) fu))))) (dSeq (xr (mFn dq [ZZ 0] (bw 0 fu))) (dOk (dRet (mFn ab3 [ZZ 0,ZZ 1,ZZ 2] (bw 0 (bw 1 (bw 2 fu))))))))
def yw:Fd:=fnD 3 3 aly
def aio:Sd :=
 (dSeq (dIf (okS (mOrB (adf (aad (M.d (mFn xq [ZZ 0,ZY] (bw 0 (az (mVar 6) fu)))))) (jr (gEq ZW) (jd (M.d (mOp gIx ((mLnk "Crowd" 4 "standing" 8).bind λ_=>dh 8 (gr 6)))) (ret (.int 0)))))) (ab6 "Nobody" "at" (okS (mVar 5))) dNx) (dOk (xr (alk "Crowd" 4 "let_leave" ["turning","standing","gone","left"] ["house"] [7,8,9,10] gj [ZZ 6,ZY] (bw 6 (az (ret (.int 1)) fu))))))
def ael:Sd :=
 (dSeq (xr (mFn dg [ZY,ZY,ZY] (az (okS (mVar 0)) (az (okS (mVar 1)) (az (okS (mVar 2)) fu))))) (dNew "Crowd" 4 [7,8,9,10] 4 4 xn [ZZ 0,ZZ 1,ZZ 2] (okS (bw 0 (bw 1 (bw 2 fu)))) (dSeq (dFor (okS (mGet atn (bc (mVar 3) mNil))) (bTup 2 (qj (ir 5) (qj (ir 6) bNil))) aio) (dOk (dRet (M.v (mTup (bc (M.d (gw (g1 gT9) ((mLnk "Crowd" 4 "turning" 7).bind λ_=>f9 7 mNil))) (bc (M.d (gw (g1 gT9) ((mLnk "Crowd" 4 "standing" 8).bind λ_=>f9 8 mNil))) (bc (M.d (gw (g1 gT9) ((mLnk "Crowd" 4 "gone" 9).bind λ_=>f9 9 mNil))) mNil))))))))))
def mj:Fd:=fnD 11 4 ael
def ab0:Sd :=
 (dSeq (xr (mFn gq [ZY,ZY] (az (okS (mVar 0)) (az (okS (mVar 1)) fu)))) (dOk (dRet (mFn sr [ZY,ZY,ZY] (az (mVar 0) (az (mVar 1) (az (mVar 2) fu)))))))
def jq:Fd:=fnD 3 3 ab0
def ah7:M D :=
 (mAnd (M.d (mFn ym [ZZ 0] (bw 0 fu))) (M.d (mOp (gCmp λi j=>decide (j<=i)) (dh 0 (ret (.int 0))))))
def aem:Sd :=
 (dSeq (dIf (adf (aad (M.d (mFn jg [ZZ 1,ZY,ZY] (bw 1 (az (M.d (gw (g1 gL9) (f9 0 mNil))) (az (M.d (gw (g1 gL9) (f9 0 mNil))) fu))))))) (dRet (M.v (ret (.bl ZW)))) dNx) (dRet (gw (g1 gAll) (bc (M.d (zc [ZY] (aam (mVar 1)) (ir 0) (ret ZX) ah7)) mNil))))
def u5:Fd:=fnD 2 2 aem
def aqg:Sd :=
 (dIf (jr (gCmp λi j=>decide (j<=i)) (dh 5 (ret (.int 0)))) (an0 (λi j=>i+j) 2 (mVar 5) (mVar 6)) dNx)
def aqf:Sd :=
 (dFor (mGet anq (bc (mVar 3) (bc (mVar 4) mNil))) (bTup 2 (qj (ir 5) (qj (ir 6) bNil))) aqg)
def ath:Sd :=
 (dSeq (dSet 2 (mOp gMul (jd (M.d (mLst (bc (ret (.int 0)) mNil))) (M.d (gw (g1 gL9) (f9 0 mNil)))))) (dSeq (dFor (mGet anq (bc (mVar 0) (bc (mVar 1) mNil))) (bTup 2 (qj (ir 3) (qj (ir 4) bNil))) aqf) (dRet (alj 2))))
def ahd:Fd:=fnD 7 2 ath
def aqm:M D :=
 (M.d (mOp (gEq ZW) (jd (M.d (mOp gAdd (dh 0 (gr 1)))) (gr 2))))
def aqo:M Bool :=
 (jr (gCmp λi j=>decide (j<i)) (dh 1 (ret (.int 0))))
def aql:M D :=
 (mVar 0)
def abz:Sd :=
 (dSeq (xr (mFn dg [ZY,ZY,ZY] (az (okS (mVar 0)) (az (okS (mVar 1)) (az (okS (mVar 2)) fu))))) (dSeq (xr (mFn dq [ZZ 0] (bw 0 fu))) (dSeq (dIf (okS (adf (aad (M.d (mFn u5 [ZZ 0,ZY] (bw 0 (az (mVar 3) fu))))))) (dOk (dRet (M.v (ret (.bl ZW))))) dNx) (dSeq (dOk (dSet 4 (mFn ahd [ZY,ZY] (az (mVar 0) (az (M.d (mFn sr [ZY,ZY,ZY] (az (mVar 0) (az (mVar 1) (az (mVar 3) fu))))) fu))))) (dSeq (dIf (okS (adf (aad (M.d (gw (g1 gAll) (bc (M.d (zc [ZY,ZY,ZY] (mGet ati (bc (mVar 2) (bc (mVar 4) (bc (mVar 3) mNil)))) (bTup 3 (qj (ir 0) (qj (ir 1) (qj (ir 2) bNil)))) (ret ZX) aqm)) mNil)))))) (dOk (dRet (M.v (ret (.bl ZW))))) dNx) (dSeq (dOk (dSet 5 (mFn adn [ZY,ZY] (az (mVar 0) (az (M.d (mFn adm [ZY,ZY,ZY] (az (mVar 0) (az (mVar 1) (az (mVar 3) fu))))) fu))))) (dOk (dRet (mOp (gEq ZW) (jd (M.d (mFn aa4 [ZZ 5,ZY] (bw 5 (az (M.d (zc [ZY,ZY] (mGet atn (bc (mVar 3) mNil)) (bTup 2 (qj (ir 0) (qj (ir 1) bNil))) aqo aql)) fu)))) (M.d (mLst mNil))))))))))))
def j7:Fd:=fnD 6 4 abz
def adl:Sd :=
 (dSeq (dIf (jr (gCmp λi j=>decide (i<j)) (dh 1 (M.d (gw (g1 gL9) (f9 0 mNil))))) (dRet (mOp gIx (dh 0 (gr 1)))) dNx) (dRet (M.v (ret (.int 0)))))
def f__law_cell:Fd:=fnD 2 2 adl
def ais:Sd :=
 (dSeq (dSet 1 (gw (g2 (gInt λi j=>ZZ (if j > i then j else i))) (f9 0 (bc (M.d (mOp (gInt fSub) (jd (ret (.int 0)) (gr 0)))) mNil)))) (dRet (mLst (bc (mVar 1) (bc (M.d (gw (g1 awr) (bc (M.d (mOp (gCmp λi j=>decide (j<=i)) (dh 1 (M.d (mOp (gInt fPow) (jd (ret (.int 10)) (ret (.int 18)))))))) mNil))) mNil)))))
def f__law_pen:Fd:=fnD 2 1 ais
def adk:Sd :=
 (dSeq (dIf (jr (gEq ZW) (jd (M.d (mOp gIx (dh 0 (ret (.int 1))))) (ret (.int 1)))) (dSeq (dAsg (M.d (gw (g2 ajz) (bc (M.d (mOp gIx (dh 0 (ret (.int 0))))) (f9 1 mNil)))) (bTup 2 (qj (ir 2) (qj (ir 3) bNil)))) (dSeq (dSub 0 (ret (.int 0)) (mVar 2)) (dRet (alj 3)))) dNx) (dSeq (dSet 4 (mOp (gInt fMod) (jd (M.d (mOp gMul (jd (M.d (mOp gAdd (jd (M.d (mOp (gInt fMod) (jd (M.d (mOp gIx (dh 0 (ret (.int 0))))) (ret (.int 2147483647))))) (ret (.int 40503))))) (ret (.int 69621))))) (ret (.int 2147483629))))) (dSeq (dSet 4 (mOp (gInt fMod) (jd (M.d (mOp gAdd (jd (M.d (mOp gMul (dh 4 (gr 4)))) (ret (.int 7817))))) (ret (.int 2147483587))))) (dSeq (dSub 0 (ret (.int 0)) (M.d (mOp (gInt fMod) (jd (M.d (mOp gAdd (jd (M.d (mOp gMul (dh 4 (ret (.int 48271))))) (ret (.int 11))))) (ret (.int 2147483629)))))) (dRet (mOp (gInt fMod) (jd (M.d (mOp (gInt fDiv) (jd (M.d (mOp gIx (dh 0 (ret (.int 0))))) (ret (.int 32))))) (gr 1))))))))
def f__law_draw:Fd:=fnD 5 2 adk
def afq:Sd :=
 (dRet (M.v (mAnd (mIsi .int (gr 0)) (mUn gNot (mIsi .bool (gr 0))))))
def uw:Fd:=fnD 1 1 afq
def aa6:M D :=
 (M.d (mOp (gInt fSub) (jd (M.d (mFn f__law_draw [ZZ 1,ZY] (bw 1 (az (M.d (mOp gAdd (dh 2 (gr 3)))) fu)))) (gr 3))))
def aa3:Sd :=
 (dSeq (dSet 7 (mOp gAdd (jd (ret (.int 1)) (M.d (mFn f__law_draw [ZZ 0,ZZ 2] (bw 0 (bw 2 fu))))))) (xr (M.v (mMut 5 ahb (bc (M.d (gw (g1 gT9) (bc (M.d (zc [ZY,ZZ 0,ZZ 3,ZZ 4] (mGet vo (bc (mVar 7) mNil)) (ir 0) (ret ZX) aa6)) mNil))) mNil)))))
def afr:Sd :=
 (dSeq (dSet 3 (mOp gAdd (jd (ret (.int 1)) (M.d (mFn f__law_draw [ZZ 0,ZZ 1] (bw 0 (bw 1 fu))))))) (dSeq (dSet 4 (mOp gIx (jd (M.d (mLst (bc (ret (.int 0)) (bc (ret (.int 1)) (bc (ret (.int 3)) (bc (ret (.int 3)) mNil)))))) (M.d (mFn f__law_draw [ZZ 0,ZY] (bw 0 (az (ret (.int 4)) fu))))))) (dSeq (dSet 5 (mLst mNil)) (dSeq (dFor (mGet vo (bc (mVar 3) mNil)) (ir 6) aa3) (dRet (gw (g1 gT9) (f9 5 mNil)))))))
def f__law_house:Fd:=fnD 8 3 afr
def za:M Bool :=
 (jr (gIn ZX) (dh 0 (gr 1)))
def yz:M D :=
 (mVar 0)
def ql:M Bool :=
 (jr (gCmp λi j=>decide (i<j)) (dh 3 (M.d (gw (g1 gL9) (f9 2 mNil)))))
def j5:Sd :=
 (dSeq (dIf (jr (gCmp λi j=>decide (j<=i)) (jd (M.d (mOp gIx (dh 2 (gr 3)))) (ret (.int 0)))) (dSet 2 (mOp gAdd (dh 2 (M.d (zc [ZY,ZZ 2] (aam (M.d (gw (g1 gSet) (bc (M.d (mOp gIx (dh 0 (M.d (mOp gIx (dh 2 (gr 3))))))) mNil)))) (ir 0) za yz))))) dNx) (dSet 3 (mOp gAdd (dh 3 (ret (.int 1))))))
def acw:Sd :=
 (dSeq (dSet 2 (mLst (bc (mVar 1) mNil))) (dSeq (dSet 3 (M.v (ret (.int 0)))) (dSeq (whileD ql j5 fuel) (dRet (alj 2)))))
def ou:Fd:=fnD 4 2 acw
def l1__law_open:Sd :=
 (dIf (jr (gCmp λi j=>decide (j<=i)) (jd (M.d (gw (g1 awq) (bc (M.d (mFn ou [ZZ 3,ZY] (bw 3 (az (mVar 4) fu)))) mNil))) (ret (.int 0)))) (dSeq (dSet 5 (mFn f__law_draw [ZZ 0,ZY] (bw 0 (az (M.d (gw (g1 gL9) (bc (M.d (mOp gIx (dh 3 (gr 4)))) mNil))) fu)))) (dSub 3 (mVar 4) (M.d (mOp gAdd (jd (M.d (mOp gAdd (jd (M.d (mCut (M.d (mOp gIx (dh 3 (gr 4)))) (ret ZY) (afz (mVar 5)))) (mTup (bc (M.d (mOp (gInt fSub) (jd (mUn gNeg (ret (.int 1))) (M.d (mFn f__law_draw [ZZ 0,ZY] (bw 0 (az (ret (.int 3)) fu))))))) mNil))))) (M.d (mCut (M.d (mOp gIx (dh 3 (gr 4)))) (afz (M.d (mOp gAdd (dh 5 (ret (.int 1)))))) (ret ZY)))))))) dNx)
def aha:Sd :=
 (dSeq (dSet 3 (gw (g1 λd=>(itemsD d).map λl=>.fr l) (bc (M.d (mFn f__law_house [ZZ 0,ZZ 1,ZZ 2] (bw 0 (bw 1 (bw 2 fu))))) mNil))) (dSeq (dFor (mGet vo (bc (M.d (gw (g1 gL9) (f9 3 mNil))) mNil)) (ir 4) l1__law_open) (dRet (gw (g1 gT9) (f9 3 mNil)))))
def f__law_open:Fd:=fnD 6 3 aha
def aa7:M D :=
 (M.d (mFn f__law_draw [ZZ 1,ZY] (bw 1 (az (M.d (gw (g1 gL9) (f9 0 mNil))) fu))))
def afs:Sd :=
 (dRet (gw (g1 gT9) (bc (M.d (zc [ZY,ZZ 0] (aam (mVar 1)) (ir 0) (ret ZX) aa7)) mNil)))
def f__law_drawn:Fd:=fnD 2 2 afs
def anp:Sd :=
 (dSeq (dSet 1 (mLst (bc (mIsC NS "NoArrows" (gr 0)) (bc (mIsC NS "NoRoom" (gr 0)) (bc (mIsC NS "NoWalkers" (gr 0)) (bc (mIsC NS "NotShut" (gr 0)) mNil)))))) (dSeq (dSet 1 (mOp gAdd (dh 1 (M.d (mLst (bc (mIsC NS "NeverBack" (gr 0)) (bc (mIsC NS "NoTour" (gr 0)) (bc (mIsC NS "NoRow" (gr 0)) (bc (mIsC NS "NoHouse" (gr 0)) mNil))))))))) (dSeq (dSet 1 (mOp gAdd (dh 1 (M.d (mLst (bc (mIsC NS "NotOpen" (gr 0)) (bc (mIsC NS "Nobody" (gr 0)) (bc (mIsC NS "NoText" (gr 0)) (bc (mIsC NS "TooGreat" (gr 0)) mNil))))))))) (dSeq (dIf (mOrB (adf (aad (mIsC NS "ValueError" (gr 0)))) (jr (gEq ZX) (jd (as4 1 (bc (ret (.bl ZX)) mNil)) (ret (.int 1))))) (dRet (M.v (ret (.str "other")))) dNx) (dSeq (dSet 2 (mLst (bc (ret (.str "arrows")) (bc (ret (.str "room")) (bc (ret (.str "walkers")) (bc (ret (.str "shut")) (bc (ret (.str "never")) (bc (ret (.str "tour")) (bc (ret (.str "row")) (bc (ret (.str "house")) (bc (ret (.str "open")) (bc (ret (.str "nobody")) mNil)))))))))))) (dRet (mOp gIx (jd (M.d (mOp gAdd (dh 2 (M.d (mLst (bc (ret (.str "text")) (bc (ret (.str "great")) mNil))))))) (az7 1 atk (bc (ret (.bl ZX)) mNil))))))))))
def nj:Fd:=fnD 3 1 anp
def yx:M D :=
 (M.d (gw (g2 (gInt λi j=>ZZ (if j > i then j else i))) (bc (ret (.int 0)) (bc (M.d (mOp (gInt fSub) (jd (M.d (mFn f__law_draw [ZZ 1,ZY] (bw 1 (az (M.d (mOp gAdd (dh 2 (ret (.int 3))))) fu)))) (ret (.int 2))))) mNil))))
def acv:Sd :=
 (dRet (gw (g1 gT9) (bc (M.d (zc [ZY,ZZ 0,ZZ 2] (aam (mVar 1)) (ir 0) (ret ZX) yx)) mNil)))
def oh:Fd:=fnD 3 3 acv
def wy:M D :=
 (ret (.int 0))
def zy:Sd :=
 (dSeq (dIf (jr (gEq ZW) (jd (M.d (mFn nj [ZZ 4] (bw 4 fu))) (ret (.str "open")))) (dRet (M.v (mTup (bc (ret (.str "open")) (bc (M.d (mIf (aad (M.d (mFn uw [ZY] (az (mFld ["NotOpen"] "room" (mVar 4)) fu)))) (M.v (mFld ["NotOpen"] "room" (mVar 4))) (M.v (ret .non)))) mNil))))) dNx) (dRet (M.v (mTup (bc (M.d (mFn nj [ZZ 4] (bw 4 fu))) (bc (ret (.int 0)) mNil))))))
def ag9:Sd :=
 (dSeq (dTry NS (dIf (okS (jr (gEq ZW) (dh 0 (ret (.int 0))))) (xr (mFn yw [ZY,ZY,ZY] (az (okS (mVar 1)) (az (okS (mVar 2)) (az (okS (mVar 3)) fu))))) (dIf (okS (jr (gEq ZW) (dh 0 (ret (.int 1))))) (xr (mFn j7 [ZY,ZY,ZY,ZY] (az (okS (mVar 1)) (az (okS (mVar 2)) (az (okS (mVar 3)) (az (okS (ret .non)) fu)))))) (dIf (okS (jr (gEq ZW) (dh 0 (ret (.int 2))))) (xr (mFn mj [ZY,ZY,ZY,ZY] (az (okS (mVar 1)) (az (okS (mVar 2)) (az (okS (mVar 3)) (az (M.d (okS (mLst mNil))) fu)))))) (xr (mFn jq [ZY,ZY,ZY] (az (okS (mVar 1)) (az (okS (mVar 2)) (az (M.d (okS (gw (g1 gT9) (bc (M.d (zc [ZY] (aam (mVar 1)) (ir 0) (ret ZX) wy)) mNil)))) fu)))))))) 4 zy) (dRet (M.v (mTup (bc (ret (.str "told")) (bc (ret (.int 0)) mNil))))))
def dz:Fd:=fnD 5 4 ag9
def abh:Sd :=
 (dSeq (dSet 3 (mFn f__law_draw [ZZ 0,ZY] (bw 0 (az (M.d (gw (g1 gL9) (f9 1 mNil))) fu)))) (dSeq (dSet 4 (mOp gIx (jd (M.d (mLst (bc (M.d (gw (g1 gL9) (bc (M.d (mOp gIx (dh 1 (gr 3)))) mNil))) (bc (mUn gNeg (ret (.int 1))) (bc (ret (.bl ZX)) (bc (ret .non) (bc (ret (.str "0")) mNil))))))) (M.d (mFn f__law_draw [ZZ 0,ZY] (bw 0 (az (ret (.int 5)) fu))))))) (dSeq (dSet 5 (mLst (bc (M.d (mOp gAdd (jd (M.d (mOp gAdd (jd (M.d (ajt 2 (ret ZY) (afz (mVar 3)))) (mTup (bc (mVar 4) mNil))))) (M.d (ajt 2 (afz (M.d (mOp gAdd (dh 3 (ret (.int 1)))))) (ret ZY)))))) (bc (M.d (mOp gAdd (dh 2 (mTup (bc (ret (.int 0)) mNil))))) (bc (M.d (ajt 2 (afz (ret (.int 1))) (ret ZY))) (bc (M.d (gw (g1 λd=>(itemsD d).map λl=>.fr l) (f9 2 mNil))) (bc (ret .non) (bc (ret (.str "")) (bc (ret (.dct [])) (bc (mTup (bc (mVar 2) mNil)) mNil)))))))))) (dRet (mOp gIx (dh 5 (M.d (mFn f__law_draw [ZZ 0,ZY] (bw 0 (az (ret (.int 8)) fu))))))))))
def f__law_no_arrows:Fd:=fnD 6 3 abh
def aar:Sd :=
 (dSeq (dSet 3 (mFn f__law_draw [ZZ 0,ZY] (bw 0 (az (M.d (gw (g1 gL9) (f9 1 mNil))) fu)))) (dSeq (dSet 4 (mOp gIx (jd (M.d (mLst (bc (ret (.int 101)) (bc (mUn gNeg (ret (.int 1))) (bc (ret (.bl ZX)) (bc (ret .non) (bc (M.d (mOp (gInt fPow) (jd (ret (.int 10)) (ret (.int 30))))) (bc (ret (.str "1")) (bc (ret (.bl ZW)) mNil))))))))) (M.d (mFn f__law_draw [ZZ 0,ZY] (bw 0 (az (ret (.int 7)) fu))))))) (dSeq (dSet 5 (mLst (bc (M.d (mOp gAdd (jd (M.d (mOp gAdd (jd (M.d (ajt 2 (ret ZY) (afz (mVar 3)))) (mTup (bc (mVar 4) mNil))))) (M.d (ajt 2 (afz (M.d (mOp gAdd (dh 3 (ret (.int 1)))))) (ret ZY)))))) (bc (M.d (mOp gAdd (dh 2 (mTup (bc (ret (.int 0)) mNil))))) (bc (M.d (ajt 2 (afz (ret (.int 1))) (ret ZY))) (bc (M.d (gw (g1 λd=>(itemsD d).map λl=>.fr l) (f9 2 mNil))) (bc (ret .non) (bc (ret (.str "")) (bc (ret (.dct [])) (bc (mTup (bc (mVar 2) mNil)) mNil)))))))))) (dRet (mOp gIx (dh 5 (M.d (mFn f__law_draw [ZZ 0,ZY] (bw 0 (az (ret (.int 8)) fu))))))))))
def f__law_no_walkers:Fd:=fnD 6 3 aar
def yg:M Bool :=
 (jr (gCmp λi j=>decide (j<=i)) (jd (M.d (gw (g1 awq) (bc (M.d (mFn ou [ZZ 1,ZZ 0] (bw 1 (bw 0 fu)))) mNil))) (ret (.int 0))))
def ye:M D :=
 (mVar 0)
def ju:Sd :=
 (dSeq (dIf (mOrB (jr (gEq ZX) (jd (M.d (mFn dz [ZZ 8,ZY,ZY,ZY] (bw 8 (az (mVar 1) (az (mVar 4) (az (mVar 5) fu)))))) (mTup (bc (ret (.str "arrows")) (bc (ret (.int 0)) mNil))))) (jr (gEq ZX) (jd (M.d (mFn dz [ZZ 8,ZY,ZY,ZY] (bw 8 (az (mVar 1) (az (mVar 4) (az (mVar 3) fu)))))) (mTup (bc (ret (.str "arrows")) (bc (ret (.int 0)) mNil)))))) (dRet (M.v (ret (.bl ZW)))) dNx) (dSeq (dIf (az9 (jr (gCmp λi j=>decide (i<j)) (dh 8 (ret (.int 3)))) (jr (gEq ZX) (jd (M.d (mFn dz [ZZ 8,ZY,ZY,ZY] (bw 8 (az (mVar 1) (az (mVar 2) (az (mVar 5) fu)))))) (mTup (bc (ret (.str "walkers")) (bc (ret (.int 0)) mNil)))))) (dRet (M.v (ret (.bl ZW)))) dNx) (dIf (jr (gEq ZX) (jd (M.d (mFn dz [ZZ 8,ZY,ZY,ZY] (bw 8 (az (mVar 1) (az (mVar 2) (az (mVar 3) fu)))))) (M.d (mIf (jr (gCmp λi j=>decide (i<j)) (dh 8 (ret (.int 2)))) (M.v (mVar 7)) (M.v (mTup (bc (ret (.str "told")) (bc (ret (.int 0)) mNil)))))))) (dRet (M.v (ret (.bl ZW)))) dNx)))
def ab1:Sd :=
 (dSeq (dPar 2 3 (bc (M.d (mFn f__law_drawn [ZZ 0,ZY] (bw 0 (az (mVar 1) fu)))) (bc (M.d (mFn oh [ZZ 0,ZY,ZY] (bw 0 (az (mVar 1) (az (ret (.int 3)) fu))))) mNil))) (dSeq (dPar 4 5 (bc (M.d (mFn f__law_no_arrows [ZZ 0,ZZ 1,ZY] (bw 0 (bw 1 (az (mVar 2) fu))))) (bc (M.d (mFn f__law_no_walkers [ZZ 0,ZZ 1,ZY] (bw 0 (bw 1 (az (mVar 3) fu))))) mNil))) (dSeq (dSet 6 (zc [ZY,ZZ 1] (mGet vo (bc (M.d (gw (g1 gL9) (f9 1 mNil))) mNil)) (ir 0) yg ye)) (dSeq (dSet 7 (mIf (jr (gEq ZX) (dh 6 (M.d (mLst mNil)))) (M.v (mTup (bc (ret (.str "open")) (bc (M.d (mOp gIx (dh 6 (ret (.int 0))))) mNil)))) (M.v (mTup (bc (ret (.str "told")) (bc (ret (.int 0)) mNil)))))) (dSeq (dFor (mGet vo (bc (ret (.int 4)) mNil)) (ir 8) ju) (dRet (M.v (ret (.bl ZX)))))))))
def f__law_right:Fd:=fnD 9 2 ab1
def l1_law:Sd :=
 (dSeq (dSet 2 (mFn f__law_pen [ZZ 1] (bw 1 fu))) (dIf (mOrB (adf (aad (M.d (mFn f__law_right [ZZ 2,ZY] (bw 2 (az (M.d (mFn f__law_house [ZZ 2,ZY,ZY] (bw 2 (az (ret (.int 5)) (az (ret (.int 3)) fu))))) fu)))))) (adf (aad (M.d (mFn f__law_right [ZZ 2,ZY] (bw 2 (az (M.d (mFn f__law_open [ZZ 2,ZY,ZY] (bw 2 (az (ret (.int 5)) (az (ret (.int 3)) fu))))) fu))))))) (dRet (M.v (ret (.bl ZW)))) dNx))
def a4h:Sd :=
 (dSeq (dIf (mOrB (adf (aad (M.d (mFnF f__law_right (mFn f__law_pen [ZY] (az (ret (.int 0)) fu)) (bc (mTup (bc (mTup (bc (ret (.int 0)) mNil)) mNil)) mNil))))) (adf (aad (M.d (mFnF f__law_right (mFn f__law_pen [ZY] (az (ret (.int 1)) fu)) (bc (mTup (bc (mTup (bc (mUn gNeg (ret (.int 1))) mNil)) mNil)) mNil)))))) (dRet (M.v (ret (.bl ZW)))) dNx) (dSeq (dFor (aam (M.d (mOp gAdd (jd (M.d (mLst (bc (M.d (mFn f__law_cell [ZZ 0,ZY] (bw 0 (az (ret (.int 0)) fu)))) mNil))) (M.d (ajt 0 (afz (ret (.int 1))) (afz (ret (.int 5))))))))) (ir 1) l1_law) (dRet (M.v (ret (.bl ZX))))))
def aty:Fd:=fnD 3 1 a4h
def adt:D->Bool
 |.int _=>ZX
 |_=>ZW
def jh(a b:Int):D->Bool
 |.int i=>decide (a<=i)&&decide (i<=b)
 |_=>ZW
def aoa(d:D):(isTy .int d && !isTy .bool d)=adt d:=by cases d <;> rfl
theorem avc{d:D}(h:adt d=ZX):∃i,d=.int i:=by
 cases d with
 |int i=>exact⟨i,rfl⟩
 |_=>cases h
theorem apl{d:D}(h:adt d=ZW)(a b:Int):jh a b d=ZW:=by
 cases d with
 |int i=>cases h
 |_=>rfl
@[simp] theorem anj(d:D):ym [.val d]=ZZ (.ok (.v (.bl (adt d))),[.val d]):=by
 have e:=aoa d;generalize adt d=w at *;subst e;cases p:isTy .int d <;> simp[ym,air,p]
@[simp] theorem aow(d:D)(a b:Int):jf [.val d,.val (.int a),.val (.int b)]=ZZ (.ok (.v (.bl (jh a b d))),[.val d,.val (.int a),.val (.int b)]):=by
 have e:=anj d;cases hw:adt d with
 |false=>
  rw[hw] at e;rw[apl hw];simp[jf,vh,e]
 |true=>
  obtain⟨i,rfl⟩:=avc hw;rw[hw] at e;simp[jf,vh,e,jh]
def auj(ns:List Int)(k:Int)(h:0<=k):∃n,f__law_cell [.val (.kst (ns.map D.int)),.val (.int k)]=ZZ (.ok (.v (.int n)),[.val (.kst (ns.map D.int)),.val (.int k)]):=by
 by_cases hk:k<(ns.length:Int)
 ·have e:atI (ns.map D.int) k=ZZ (.int (ns[k.toNat]'(by omega))):=by
   have h2:atI (ns.map D.int) ((k.toNat:Nat):Int)=ZZ (.int (ns[k.toNat]'(by omega))):=akb (by simp[aX,aF (show k.toNat<ns.length by omega)])
   rw[show((k.toNat:Nat):Int)=k by omega] at h2
   exact h2
  exact⟨ns[k.toNat]'(by omega),by simp[f__law_cell,adl,hk,e]⟩
 ·exact⟨0,by simp[f__law_cell,adl,hk]⟩
def pen(P:Int×Int):List D:=[.int P.1,.int P.2]
def ajh(n:Int):∃P,f__law_pen [.val (.int n)]=ZZ (.ok (.fr (pen P)),[.val (.int n)]):=by
 refine⟨(if 0-n > n then 0-n else n,if 10 ^ 18<=(if 0-n > n then 0-n else n) then 1 else 0),?_⟩
 simp[f__law_pen,ais,pen,fPow]
def lg(P:Int×Int)(m:Int)(h0:0<m)(h1:m<1000000000000000000000000000000000000000000000000000000000000):∃r P',f__law_draw [.own (ZZ 0) (pen P),.val (.int m)]=ZZ (.ok (.v (.int r)),[.own (ZZ 0) (pen P'),.val (.int m)])/\0<=r/\r<m:=by
 obtain⟨a,b⟩:=P
 by_cases hb:b=1
 ·refine⟨a % m,(a / m,b),?_,iG _ (by omega),fH _ h0⟩
  simp[f__law_draw,adk,pen,hb,h0,h1,atI,ixN]
 ·have z0:0<=(a % 2147483647+40503)*69621 % 2147483629:=iG _ (by decide)
  have z1:(a % 2147483647+40503)*69621 % 2147483629<2147483629:=fH _ (by decide)
  generalize hz:(a % 2147483647+40503)*69621 % 2147483629=z at z0 z1;have hm:fMul z z=ZZ (z*z):=by
   unfold fMul;rw[if_pos (.inl ⟨by omega,by omega⟩)]
  refine⟨((z*z+7817) % 2147483587*48271+11) % 2147483629 / 32 % m,(((z*z+7817) % 2147483587*48271+11) % 2147483629,b),?_,iG _ (by omega),fH _ h0⟩
  have h69:∀x:Int,fMul x 69621=ZZ (x*69621):=λx=>by unfold fMul;rw[if_pos (.inr (by decide))]
  have h48:∀x:Int,fMul x 48271=ZZ (x*48271):=λx=>by unfold fMul;rw[if_pos (.inr (by decide))]
  simp[f__law_draw,adk,pen,hb,h0,h1,atI,ixN,h69,h48,hm,fMod,fDiv,hz]
structure HouseOk (m w:Int) (qv:LL9):Prop where
 one:1<=qv.length
 most:(qv.length:Int)<=m
 room:∀r∈qv,1<=r.length/\(r.length:Int)<=w/\∀x∈r,-3<=x/\x<(qv.length:Int)
def hDs(qv:LL9):List D:=qv.map λr=>D.tup (r.map D.int)
def hD(qv:LL9):D:=.tup (hDs qv)
def aiq(P:Int×Int)(m w:Int)(m1:1<=m)(m2:m<=10)(w1:1<=w)(w2:w<=6):∃qv P',f__law_house [.own (ZZ 0) (pen P),.val (.int m),.val (.int w)]=ZZ (.ok (.v (hD qv)),[.own (ZZ 0) (pen P'),.val (.int m),.val (.int w)])/\HouseOk m w qv:=by
 obtain⟨r1,P1,e1,r1a,r1b⟩:=lg P m (by omega) (by omega)
 obtain⟨r2,P2,e2,r2a,r2b⟩:=lg P1 4 (by decide) (by decide)
 have hg:∃g:Int,atI [D.int 0,D.int 1,D.int 3,D.int 3] r2=ZZ (.int g)/\0<=g/\g<=3:=by
  have:r2=0∨r2=1∨r2=2∨r2=3:=by omega
  rcases this with rfl |rfl |rfl |rfl
  ·exact⟨0,rfl,by decide,by decide⟩
  ·exact⟨1,rfl,by decide,by decide⟩
  ·exact⟨3,rfl,by decide,by decide⟩
  ·exact⟨3,rfl,by decide,by decide⟩
 obtain⟨g,eg,g0,g3⟩:=hg;have loop:=aen (b:=ir 6) (g:=aa3) (λi ρ=>∃qv P o1 o2,ρ=[.own (ZZ 0) (pen P),.val (.int m),.val (.int w),.val (.int (1+r1)),.val (.int g),.own ZY (hDs qv),o1,o2]/\qv.length=i/\∀r∈qv,1<=r.length/\(r.length:Int)<=w/\∀x∈r,-3<=x/\x<1+r1)
  (l:=lu 0 (1+r1).toNat) (ρ:=[.own (ZZ 0) (pen P2),.val (.int m),.val (.int w),.val (.int (1+r1)),.val (.int g),.own ZY [],.emp,.emp]) 0 ⟨[],P2,.emp,.emp,rfl,rfl,by simp⟩ ?_
 ·obtain⟨ρ',e3,qv,P3,o1,o2,rfl,hl,hr⟩:=loop;have hl:qv.length=(1+r1).toNat:=by simpa[lu] using hl
  refine⟨qv,P3,?_,by omega,by omega,λr h=>?_⟩
  ·have hb:(1+r1).natAbs<4611686018427387904:=by omega
   simp[f__law_house,afr,e1,e2,eg,hb,e3,hD]
  ·obtain⟨a,b,c⟩:=hr r h;exact⟨a,b,λx hx=>by have:=c x hx;omega⟩
 ·rintro i d ρ hd ⟨qv,P4,o1,o2,rfl,hl,hr⟩
  obtain⟨r5,P5,e5,r5a,r5b⟩:=lg P4 w (by omega) (by omega)
  have comp:=ab8 (b:=ir 0) (mc:=ret ZX) (me:=aa6) (λj ys ρ=>∃ns P o,ρ=[o,.own (ZZ 1) (pen P),.val (.int (1+r1)),.val (.int g)]/\ys=ns.map D.int/\ns.length=j/\∀x∈ns,-3<=x/\x<1+r1)
   (l:=lu 0 (1+r5).toNat) (ys:=[]) (ρ:=[.emp,.own (ZZ 1) (pen P5),.val (.int (1+r1)),.val (.int g)]) 0 ⟨[],P5,.emp,rfl,rfl,rfl,by simp⟩ ?_
  ·obtain⟨ys,ρ',e6,ns,P6,o,rfl,rfl,hn,hx⟩:=comp;have hn:ns.length=(1+r5).toNat:=by simpa[lu] using hn
   have hb:(1+r5).natAbs<4611686018427387904:=by omega
   have hc1:ns.length<=capS:=di (by omega)
   have hi:i<(1+r1).toNat:=by
    have:=(aK.mp hd).1
    simpa[lu] using this
   have hc2:(hDs qv).length<capS:=by simp[hDs,capS];omega
   refine⟨_,[.own (ZZ 0) (pen P6),.val (.int m),.val (.int w),.val (.int (1+r1)),.val (.int g),.own ZY (hDs (qv++[ns])),.val d,.val (.int (1+r5))],rfl,.inl (by simp[aa3,e5,hb,e6,hc1,hc2];simp[hDs]),qv++[ns],P6,_,_,rfl,by simp[hl],λr h=>?_⟩
   rcases cU.mp h with h |h
   ·exact hr r h
   ·obtain rfl:r=ns:=by simpa using h
    exact⟨by omega,by omega,hx⟩
  ·rintro j d ys ρ hd ⟨ns,P6,o,rfl,rfl,hn,hx⟩
   obtain⟨r7,P7,e7,r7a,r7b⟩:=lg P6 (1+r1+g) (by omega) (by omega)
   refine⟨_,_,ZX,rfl,rfl,.inr ⟨rfl,.int (r7-g),_,by simp[aa6,e7];rfl,ns++[r7-g],P7,_,rfl,by simp,by simp[hn],λx h=>?_⟩⟩
   rcases cU.mp h with h |h
   ·exact hx x h
   ·obtain rfl:x=r7-g:=by simpa using h
    omega
@[simp] theorem axp(d:D):uw [.val d]=ZZ (.ok (.v (.bl (adt d))),[.val d]):=by
 have e:=aoa d;generalize adt d=w at *;subst e;cases p:isTy .int d <;> simp[uw,afq,p]
structure Hs (qv:LL9):Prop where
 one:1<=qv.length
 most:qv.length<=10
 room:∀r∈qv,1<=r.length/\r.length<=6/\∀x∈r,-3<=x/\x<(qv.length:Int)
noncomputable def dr(qv:LL9)(x:Int):List Int:=qv.getD x.toNat []
inductive Rch (qv:LL9) (a:Int):Int->Prop
 |base:Rch qv a a
 |step {x d:Int}:Rch qv a x->0<=x->d∈dr qv x->Rch qv a d
def aht{qv:LL9}{x:Int}(h0:0<=x)(h1:x<(qv.length:Int)):atI (hDs qv) x=ZZ (.tup ((dr qv x).map D.int)):=by
 have hk:x.toNat<qv.length:=by omega
 have q:atI (hDs qv) ((x.toNat:Nat):Int)=ZZ (.tup ((dr qv x).map D.int)):=akb (by simp[hDs,dr,aF hk])
 rw[show((x.toNat:Nat):Int)=x by omega] at q
 exact q
def Hs.dr{qv:LL9}(h:Hs qv){x:Int}(h0:0<=x)(h1:x<(qv.length:Int)):1<=(dr qv x).length/\(My.dr qv x).length<=6/\∀y∈My.dr qv x,-3<=y/\y<(qv.length:Int):=by
 have hk:x.toNat<qv.length:=by omega
 have e:My.dr qv x=qv[x.toNat]:=by simp[My.dr,hk]
 rw[e];exact h.room _ (dJ hk)
theorem Rch.range{qv:LL9}(h:Hs qv){a x:Int}(ha:0<=a/\a<(qv.length:Int))(r:Rch qv a x) : -3<=x/\x<(qv.length:Int):=by
 induction r with
 |base=>omega
 |step r h0 hd ih=>exact(h.dr h0 ih.2).2.2 _ hd
theorem alf:∀(m:Nat) (l:List Int),l.Nodup->(∀x∈l,-3<=x/\x<(m:Int)-3)->l.length<=m
 | 0,l,_,h=>by
  cases l with
  |nil=>simp
  |cons x r=>have:=h x (aZ ..);omega
 |m+1,l,hn,h=>by
  have h1:(l.erase ((m:Int)-3)).length<=m:=alf m _ (hn.erase _) λx hx=>by
   rw[hn.mem_erase_iff] at hx;have:=h x hx.2;have:=hx.1;omega
  have h2:l.length<=(l.erase ((m:Int)-3)).length+1:=by
   rw[wW];split <;> omega
  omega
def ay0{qv:LL9}(h:Hs qv){a:Int}(ha:0<=a/\a<(qv.length:Int)){ns:List Int}(hn:ns.Nodup)(hr:∀x∈ns,Rch qv a x):ns.length<=13:=by
 have:=alf (qv.length+3) ns hn λx hx=>by have:=Rch.range h ha (hr x hx);omega
 have:=h.most;omega
theorem apy{qv:LL9}{a:Int}{ns:List Int}(h0:a∈ns)(hc:∀x∈ns,0<=x->∀d∈dr qv x,d∈ns){x:Int}(r:Rch qv a x):x∈ns:=by
 induction r with
 |base=>exact h0
 |step r h0 hd ih=>exact hc _ ih h0 _ hd
def a5b{ns:List Int}{i:Nat}(h:i<ns.length):atI (ns.map D.int) (i:Int)=ZZ (.int ns[i]):=akb (by simp[aF h])
def a5j(qv:LL9)(S:Sl):Prop:=S=.val (hD qv)∨S=.own (ZZ 0) (hDs qv)
def ak1{qv:LL9}(h:Hs qv){S:Sl}(hS:a5j qv S){a:Int}{ns:List Int}{i:Nat}(hi:i<ns.length)(hz:ns.length<=13)(hx:ns[i]<(qv.length:Int)) :
  j5 [S,.val (.int a),.own ZY (ns.map D.int),.val (.int (i:Nat))]=ZZ (.nx,[S,.val (.int a),.own ZY ((if 0<=ns[i] then ns++(setI (dr qv ns[i])).filter (λd => !decide (d∈ns)) else ns).map D.int),.val (.int ((i:Nat)+1))]):=by
 have ei:=a5b hi
 by_cases h0:0<=ns[i]
 ·obtain⟨k1,k2,k3⟩:=h.dr h0 hx;have er:=aht h0 hx;have es:=atj (ns:=dr qv ns[i]) (by omega)
  have ef:compD (ir 0) za yz ((setI (dr qv ns[i])).map D.int) [] [.emp,.own (ZZ 1) (ns.map D.int)]=ZZ (.ok (((setI (dr qv ns[i])).filter (λd => !decide (d∈ns))).map D.int),aeh .emp ((setI (dr qv ns[i])).map D.int)::[.own (ZZ 1) (ns.map D.int)]):=by
   rw[wz (p:=λd=>match d with |.int k => !decide (k∈ns) |_=>ZW) (f:=id)]
   ·simp[sJ,oE]
   ·intro d hd;obtain⟨k,_,rfl⟩:=fW.mp hd;simp[za,atl]
   ·intro d hd _;simp[yz]
  have hlen:(setI (dr qv ns[i])).length<=6:=by
   unfold setI;rw[(sortI_perm _).length_eq];exact cW (adg _) k2
  have hc1:((setI (dr qv ns[i])).filter (λd => !decide (d∈ns))).length<=6:=cW (jN _ _) hlen
  have hc2:ns.length+((setI (dr qv ns[i])).filter (λd => !decide (d∈ns))).length<=capS:=di (by omega)
  have hc3:((setI (dr qv ns[i])).filter (λd => !decide (d∈ns))).length<=capS:=di (by omega)
  rcases hS with rfl |rfl
  ·simp[j5,hD,ei,h0,er,es,ef,hc1,hc2,hc3]
  ·simp[j5,ei,h0,er,es,ef,hc1,hc2,hc3]
 ·simp[j5,ei,h0]
def afm{qv:LL9}(h:Hs qv){S:Sl}(hS:a5j qv S){a:Int}(ha:0<=a/\a<(qv.length:Int)) :
  ∃ns:List Int,ou [S,.val (.int a)]=ZZ (.ok (.fr (ns.map D.int)),[S,.val (.int a)])/\ns≠[]/\∀x,x∈ns↔Rch qv a x:=by
 have loop:=aca (c:=ql) (g:=j5)
  (λk ρ=>∃(ns:List Int) (i:Nat),ρ=[S,.val (.int a),.own ZY (ns.map D.int),.val (.int (i:Nat))]/\k=20-i/\i<=ns.length/\ns.Nodup/\a∈ns/\(∀x∈ns,Rch qv a x)/\∀j (hj:j<ns.length),j<i->0<=ns[j]->∀d∈dr qv ns[j],d∈ns)
  (λρ=>∃(ns:List Int) (o:Sl),ρ=[S,.val (.int a),.own ZY (ns.map D.int),o]/\ns≠[]/\∀x,x∈ns↔Rch qv a x) ?_ fuel 20 [S,.val (.int a),.own ZY ([a].map D.int),.val (.int ((0:Nat):Int))] (mZ (by decide) aj1)
  ⟨[a],0,rfl,rfl,by simp,by simp,by simp,by simp;exact .base,λj hj hlt=>absurd hlt (pG _)⟩
 ·obtain⟨ρ',e,ns,o,rfl,hne,hm⟩:=loop;have e:whileD ql j5 fuel [S,.val (.int a),.own ZY [.int a],.val (.int 0)]=ZZ (.nx,[S,.val (.int a),.own ZY (ns.map D.int),o]):=e;refine⟨ns,?_,hne,hm⟩;rcases hS with rfl |rfl <;> simp[ou,acw,e]
 ·rintro k ρ ⟨ns,i,rfl,rfl,hi,hn,h0,hr,hc⟩
  have hz:=ay0 h ha hn hr
  by_cases hlt:i<ns.length
  ·refine .inr ⟨[S,.val (.int a),.own ZY (ns.map D.int),.val (.int (i:Nat))],_,20-(i+1),?_,ak1 h hS hlt hz (Rch.range h ha (hr _ (dJ hlt))).2,by omega,?_⟩
   ·have:(i:Int)<(ns.length:Int):=by omega
    rcases hS with rfl |rfl <;> simp[ql,this]
   ·by_cases hp:0<=ns[i]
    ·rw[if_pos hp];refine⟨_,i+1,rfl,rfl,by simp;omega,?_,gJ _ h0,?_,?_⟩
     ·rw[wV];refine⟨hn,pM vO (ap9 _),λx hx y hy e=>?_⟩
      have:=(eV.mp hy).2;subst e;simp[hx] at this
     ·intro x hx;rcases cU.mp hx with hx |hx
      ·exact hr x hx
      ·exact .step (hr _ (dJ hlt)) hp ((aop _ _).mp (eV.mp hx).1)
     ·intro j hj hji hjp d hd;have hjl:j<ns.length:=by omega
      rw[List.getElem_append_left hjl] at hjp hd;rcases lW j i with z |z
      ·exact gJ _ (hc j hjl z hjp d hd)
      ·have:j=i:=by omega
       subst this
       by_cases hdn:d∈ns
       ·exact gJ _ hdn
       ·exact cX _ (eV.mpr ⟨(aop _ _).mpr hd,by simp[hdn]⟩)
    ·rw[if_neg hp];refine⟨_,i+1,rfl,rfl,hlt,hn,h0,hr,?_⟩;intro j hj hji hjp d hd;rcases lW j i with z |z
     ·exact hc j hj z hjp d hd
     ·have:j=i:=by omega
      subst this;exact absurd hjp hp
  ·refine .inl ⟨[S,.val (.int a),.own ZY (ns.map D.int),.val (.int (i:Nat))],?_,ns,_,rfl,List.ne_nil_of_mem h0,λx=>⟨hr x,apy h0 λy hy hp d hd=>?_⟩⟩
   ·have:¬(i:Int)<(ns.length:Int):=by omega
    rcases hS with rfl |rfl <;> simp[ql,this]
   ·obtain⟨j,hj,rfl⟩:=gH.mp hy;exact hc j hj (by omega) hp d hd
open Classical in
noncomputable def caught(qv:LL9)(a:Int):Bool:=decide (∀x,Rch qv a x->0<=x)
def ux(qv:LL9)(a:Int):caught qv a=ZX↔∀x,Rch qv a x->0<=x:=by
 unfold caught;exact @decide_eq_true_iff _ (Classical.propDecidable _)
noncomputable def upto(n:Nat):List Int:=(bW n).map λi=>((i:Nat):Int)
def aa1(n:Nat):lu 0 n=(upto n).map D.int:=by
 unfold lu upto;rw[jM];apply vN;intro i _;simp
def vz{n:Nat}{x:Int}(h:x∈upto n):0<=x/\x<(n:Int):=by
 obtain⟨i,hi,rfl⟩:=fW.mp h;have:=iJ.mp hi;omega
noncomputable def wg(qv:LL9):List Int:=(upto qv.length).filter (caught qv)
def agg{qv:LL9}(h:Hs qv):(qv.length:Int).natAbs<4611686018427387904:=by have:=h.most;omega
def ar5{qv:LL9}(h:Hs qv):vo [.int (qv.length:Int)]=ZZ (lu 0 qv.length):=by
 rw[anr,if_pos (agg h),dZ]
def keepI(qv:LL9)(S:List Int):List Int:=S.filter λx=>(dr qv x).all λd=>decide (d∈S)
def ayj{qv:LL9}(h:Hs qv)(S:List Int){x:Int}(h0:0<=x)(h1:x<(qv.length:Int)) :
  aj8 [.val (.int x),.val (.lst (S.map D.int)),.val (hD qv)]=ZZ (.ok ((dr qv x).all λd=>decide (d∈S)),[.val (.int x),.val (.lst (S.map D.int)),.val (hD qv)]):=by
 have er:=aht h0 h1;obtain⟨k1,k2,k3⟩:=h.dr h0 h1;have ef:compD (ir 0) (ret ZX) anx ((dr qv x).map D.int) [] [.emp,.val (.lst (S.map D.int))]=ZZ (.ok ((dr qv x).map λd=>.bl (decide (d∈S))),aeh .emp ((dr qv x).map D.int)::[.val (.lst (S.map D.int))]):=by
  rw[aeo (f:=λd=>match d with |.int k=>.bl (decide (k∈S)) |_=>.non)]
  ·simp
  ·intro d hd;obtain⟨k,_,rfl⟩:=fW.mp hd;simp[anx,atl]
 have hc:(dr qv x).length<=capS:=di (by omega)
 have hb:aau ((dr qv x).map λd=>D.bl (decide (d∈S)))=ZZ ((dr qv x).map λd=>decide (d∈S)):=an3 _ _
 simp[aj8,hD,er,ef,hc,hb,oE]
def ard{qv:LL9}(h:Hs qv)(S:List Int)(hS:∀x∈S,0<=x/\x<(qv.length:Int)) :
  compD (ir 0) aj8 anw (S.map D.int) [] [.emp,.val (.lst (S.map D.int)),.val (hD qv)]=ZZ (.ok ((keepI qv S).map D.int),aeh .emp (S.map D.int)::[.val (.lst (S.map D.int)),.val (hD qv)]):=by
 rw[wz (p:=λd=>match d with |.int x=>(dr qv x).all λd=>decide (d∈S) |_=>ZW) (f:=id)]
 ·simp only[keepI,sJ,oE,List.map_id,fV]
 ·intro d hd;obtain⟨k,hk,rfl⟩:=fW.mp hd;exact ayj h S (hS k hk).1 (hS k hk).2
 ·intro d hd _;simp[anw]
def a1i{qv:LL9}(h:Hs qv){S:List Int}(hS:∀x∈S,0<=x/\x<(qv.length:Int))(hl:S.length<=10)(o:Sl) :
  ai1 [.val (hD qv),.own ZY (S.map D.int),o]=ZZ (.nx,[.val (hD qv),.own ZY ((keepI qv S).map D.int),.val (.int (S.length:Nat))]):=by
 have e:=ard h S hS;have hc:(keepI qv S).length<=capS:=di (cW (jN _ _) (by omega))
 generalize keepI qv S=T at e hc;simp only[hD] at e ⊢
 simp[ai1,e,hc]
theorem avr{qv:LL9}{x d y:Int}(h0:0<=x)(hd:d∈dr qv x)(hy:Rch qv d y):Rch qv x y:=by
 induction hy with
 |base=>exact .step .base h0 hd
 |step r h1 hd1 ih=>exact .step ih h1 hd1
def amt{qv:LL9}(h:Hs qv):al0 [.val (hD qv)]=ZZ (.ok (.v (.tup ((wg qv).map D.int))),[.val (hD qv)]):=by
 have hm:=h.most;have ul:(upto qv.length).length=qv.length:=by simp[upto]
 have e0:((upto qv.length).filter λ_=>ZX)=upto qv.length:=vP.mpr λ_ _=>rfl
 have loop:=aca (c:=ai5) (g:=ai1)
  (λk ρ=>∃(p:Int->Bool) (m:Nat),ρ=[.val (hD qv),.own ZY (((upto qv.length).filter p).map D.int),.val (.int (m:Nat))]/\k=m/\((upto qv.length).filter p).length<=m/\(m=((upto qv.length).filter p).length->keepI qv ((upto qv.length).filter p)=(upto qv.length).filter p)/\∀x∈wg qv,p x=ZX)
  (λρ=>∃o,ρ=[.val (hD qv),.own ZY ((wg qv).map D.int),o]) ?_ fuel (qv.length+1) [.val (hD qv),.own ZY (((upto qv.length).filter λ_=>ZX).map D.int),.val (.int ((qv.length+1:Nat):Int))] (mZ (show qv.length+1<100000 by omega) aj1)
  ⟨λ_=>ZX,qv.length+1,rfl,rfl,by rw[e0,ul];omega,λz=>by rw[e0,ul] at z;omega,λ_ _=>rfl⟩
 ·obtain⟨ρ',e,o,rfl⟩:=loop;rw[e0] at e;have hb:vo [.int (qv.length:Int)]=ZZ (lu 0 qv.length):=ar5 h;have hb':qv.length<1000000:=by omega
  have hl:(hDs qv).length=qv.length:=by simp[hDs]
  have er:=aa1 qv.length;have hcast:((qv.length+1:Nat):Int)=(qv.length:Int)+1:=by omega
  rw[hcast] at e;simp only[hD] at e ⊢
  simp[al0,axw,hl,hb',er,ul,e]
 ·rintro k ρ ⟨p,m,rfl,hkm,hle,hcl,hp⟩
  subst hkm;have hS:∀x∈(upto qv.length).filter p,0<=x/\x<(qv.length:Int):=λx hx=>vz (eV.mp hx).1
  have hl:((upto qv.length).filter p).length<=10:=cW (jN _ _) (by omega)
  by_cases hlt:((upto qv.length).filter p).length<k
  ·refine .inr ⟨_,_,((upto qv.length).filter p).length,?_,a1i h hS hl (.val (.int (k:Nat))),hlt,(λx=>((dr qv x).all λd=>decide (d∈(upto qv.length).filter p))&&p x),((upto qv.length).filter p).length,?_,rfl,?_,?_,?_⟩
   ·generalize (upto qv.length).filter p=S at hlt;have:(S.length:Int)<(k:Int):=by omega
    simp[ai5,this]
   ·unfold keepI;rw[qN]
   ·rw[<-qN];exact jN _ _
   ·rw[<-qN];intro z;have:keepI qv ((upto qv.length).filter p)=(upto qv.length).filter p:=vP.mpr λa ha=>by
     by_cases q:((dr qv a).all λd=>decide (d∈(upto qv.length).filter p))=ZX
     ·exact q
     ·exfalso;have:(((upto qv.length).filter p).filter λx=>(dr qv x).all λd=>decide (d∈(upto qv.length).filter p)).length<((upto qv.length).filter p).length:=List.length_filter_lt_length_iff_exists.mpr ⟨a,ha,by simpa using q⟩
      omega
    show keepI qv (keepI qv ((upto qv.length).filter p))=keepI qv ((upto qv.length).filter p);rw[this,this]
   ·intro x hx;rw[bB];refine⟨List.all_eq_true.mpr λd hd=>decide_eq_true ?_,hp x hx⟩
    obtain⟨x1,x2⟩:=eV.mp hx;have hx0:=vz x1;have hd0:0<=d:=(ux qv x).mp x2 d (.step .base hx0.1 hd);have hd1:=((h.dr hx0.1 hx0.2).2.2 d hd).2;have du:d∈upto qv.length:=by
     unfold upto;exact fW.mpr ⟨d.toNat,iJ.mpr (by omega),by omega⟩
    have dt:d∈wg qv:=eV.mpr ⟨du,(ux qv d).mpr λy hy=>(ux qv x).mp x2 y (avr hx0.1 hd hy)⟩
    exact eV.mpr ⟨du,hp d dt⟩
  ·refine .inl ⟨[.val (hD qv),.own ZY (((upto qv.length).filter p).map D.int),.val (.int (k:Nat))],?_,.val (.int (k:Nat)),?_⟩
   ·generalize (upto qv.length).filter p=S at hlt;have:¬(S.length:Int)<(k:Int):=by omega
    simp[ai5,this]
   ·have hk:=hcl (by omega)
    have:(upto qv.length).filter p=wg qv:=by
     unfold wg;refine List.filter_congr λx hx=>?_
     by_cases c:caught qv x=ZX
     ·rw[c];exact hp x (eV.mpr ⟨hx,c⟩)
     ·have:p x=ZW:=by
       cases q:p x with
       |false=>rfl
       |true=>
        exfalso;refine c ((ux qv x).mpr λy hy=>?_)
        have:y∈(upto qv.length).filter p:=by
         induction hy with
         |base=>exact eV.mpr ⟨hx,q⟩
         |step r h0 hd ih=>
          rw[<-hk] at ih;have:=cR.mp (eV.mp ih).2 _ hd
          simpa using this
        exact(hS y this).1
      rw[this]
      simpa using c
    rw[this]
def HouseOk.hs{m w:Int}{qv:LL9}(h:HouseOk m w qv)(hm:m<=10)(hw:w<=6):Hs qv :=
 ⟨h.one,by have:=h.most;omega,λr hr=>by obtain⟨a,b,c⟩:=h.room r hr;exact⟨a,by omega,c⟩⟩
def arx{n d:Nat}{k:Int}(h0:0<=k):HT.sIx n d (ZZ k)=min k.toNat n:=by
 show(if k<0 then (k+(n:Int)).toNat else min k.toNat n)=_
 rw[if_neg (by omega)]
def a4v{ns:List Int}{k:Int}(h0:0<=k)(h1:k<(ns.length:Int)):cutD (ns.map D.int) ZY (ZZ k)=(ns.take k.toNat).map D.int:=by
 unfold cutD;rw[arx h0,aL,uH];have:HT.sIx ns.length 0 ZY=0:=rfl;rw[this,mO (by omega),uO,tR]
def awz{ns:List Int}{k:Int}(h0:0<=k)(h1:k<=(ns.length:Int)):cutD (ns.map D.int) (ZZ k) ZY=(ns.drop k.toNat).map D.int:=by
 unfold cutD;rw[arx h0,aL,zB];have:HT.sIx ns.length ns.length ZY=ns.length:=rfl;rw[this,mO (by omega)]
 exact uK (by simp)
def bend(r:List Int)(k:Nat)(x:Int):List Int:=r.take k++[x]++r.drop (k+1)
def avo(qv:LL9)(j:Nat)(r:List Int):(hDs qv).set j (.tup (r.map D.int))=hDs (qv.set j r):=by
 simp[hDs,nG]
def Hs.set{qv:LL9}(h:Hs qv)(j:Nat){r:List Int}(hr:1<=r.length/\r.length<=6/\∀x∈r,-3<=x/\x<(qv.length:Int)):Hs (qv.set j r) :=
 ⟨by rw[cC];exact h.one,by rw[cC];exact h.most,λq hq=>by
  rw[cC];rcases tO hq with z |rfl
  ·exact h.room q z
  ·exact hr⟩
def Opn(qv:LL9)(a:Int):Prop:=∃x,Rch qv a x/\x<0
def anz{qv:LL9}{k:Int}(h0:0<=k)(h1:k<(qv.length:Int))(r:List Int):dr (qv.set k.toNat r) k=r:=by
 have:k.toNat<qv.length:=by omega
 simp[dr,this]
def aub{qv:LL9}{k y:Int}(h0:0<=k)(hy:0<=y)(hne:y≠k)(r:List Int):dr (qv.set k.toNat r) y=dr qv y:=by
 have:k.toNat≠y.toNat:=by omega
 simp[dr,bJ,this]
theorem ayz{qv:LL9}{k a y:Int}(h0:0<=k)(r:List Int)(h:Rch qv a y):Rch (qv.set k.toNat r) a y∨Rch qv k y:=by
 induction h with
 |base=>exact .inl .base
 |step p hp hd ih=>
  rename_i x d;rcases ih with ih |ih
  ·by_cases e:x=k
   ·subst e;exact .inr (.step .base hp hd)
   ·exact .inl (.step ih hp (by rw[aub h0 hp e];exact hd))
  ·exact .inr (.step ih hp hd)
def asl{qv:LL9}(h:Hs qv){W:Nat}(hW:∀r∈qv,r.length<=W)(P:Int×Int){A B o:Sl}{k:Int}(h0:0<=k)(h1:k<(qv.length:Int)) :
  ∃rooms' P' o',l1__law_open [.own (ZZ 0) (pen P),A,B,.own ZY (hDs qv),.val (.int k),o]=ZZ (.nx,[.own (ZZ 0) (pen P'),A,B,.own ZY (hDs rooms'),.val (.int k),o'])/\Hs rooms'/\(∀r∈rooms',r.length<=W)/\rooms'.length=qv.length/\Opn rooms' k/\∀a,Opn qv a->Opn rooms' a:=by
 obtain⟨ns,e,hne,hm⟩:=afm h (S:=.own (ZZ 0) (hDs qv)) (.inr rfl) ⟨h0,h1⟩;have em:=ao3 hne
 by_cases z:0<=minI ns
 ·have hcaught:∀x,Rch qv k x->0<=x:=λx hx=>(af3 hne).mp z x ((hm x).mpr hx)
  obtain⟨a1,a2,a3⟩:=h.dr h0 h1;have er:=aht h0 h1;have aw:=hW (dr qv k) (by
   have hk:k.toNat<qv.length:=by omega
   unfold dr;rw[aU,aF hk];exact dJ hk)
  generalize hrow:dr qv k=r at a1 a2 a3 er aw;obtain⟨r1,P1,e1,r1a,r1b⟩:=lg P r.length (by omega) (by omega)
  obtain⟨r2,P2,e2,r2a,r2b⟩:=lg P1 3 (by decide) (by decide)
  have c1:=a4v (ns:=r) r1a r1b;have c2:=awz (ns:=r) (k:=r1+1) (by omega) (by omega)
  have hk:(r1+1).toNat=r1.toNat+1:=by omega
  rw[hk] at c2;have ix:ixN (hDs qv).length k=ZZ k.toNat:=by
   have hl:(hDs qv).length=qv.length:=by simp[hDs]
   rw[hl];unfold ixN;simp[h0,h1]
  have k1:(r.take r1.toNat).length<=6:=by rw[dX];omega
  have k2:(r.drop (r1.toNat+1)).length<=6:=by rw[fX];omega
  have k3:(r.take r1.toNat).length+1<=capS:=di (by omega)
  have k4:(r.take r1.toNat).length+1+(r.drop (r1.toNat+1)).length<=capS:=di (by omega)
  have hin:(-1-r2)∈bend r r1.toNat (-1-r2):=by simp[bend]
  refine⟨qv.set k.toNat (bend r r1.toNat (-1-r2)),P2,.val (.int r1),?_,h.set _ ?_,λq hq=>?_,cC,⟨-1-r2,.step .base h0 (by rw[anz h0 h1];exact hin),by omega⟩,λa ⟨x,hx,hx0⟩=>?_⟩
  ·rw[<-avo];unfold bend;generalize r.take r1.toNat=ta at c1 k3 k4;generalize r.drop (r1.toNat+1)=td at c2 k4;simp[l1__law_open,e,em,z,er,e1,e2,c1,c2,k3,k4,ix]
  ·refine⟨by simp[bend];omega,by simp[bend];omega,λx hx=>?_⟩
   have:=h.one;unfold bend at hx;rcases cU.mp hx with hx |hx
   ·rcases cU.mp hx with hx |hx
    ·exact a3 x (uX hx)
    ·rw[dF] at hx;omega
   ·exact a3 x (List.mem_of_mem_drop hx)
  ·rcases tO hq with z |rfl
   ·exact hW q z
   ·simp[bend];omega
  ·rcases ayz h0 (bend r r1.toNat (-1-r2)) hx with q |q
   ·exact⟨x,q,hx0⟩
   ·have:=hcaught x q;omega
 ·refine⟨qv,P,o,by simp[l1__law_open,e,em,z],h,hW,rfl,?_,λ_ x=>x⟩
  have:¬ ∀y∈ns,0<=y:=λw=>z ((af3 hne).mpr w)
  apply fK;intro w;refine this λy hy=>?_
  rcases pN y 0 with q |q
  ·exact absurd ⟨y,(hm y).mp hy,q⟩ w
  ·exact q
def avh{qv:LL9}(h:∀a,0<=a->a<(qv.length:Int)->Opn qv a):wg qv=[]:=by
 unfold wg;refine List.filter_eq_nil_iff.mpr λa ha hc=>?_
 obtain⟨x,hx,hx0⟩:=h a (vz ha).1 (vz ha).2;have:=(ux qv a).mp hc x hx;omega
def open_spec(P:Int×Int)(m w:Int)(m1:1<=m)(m2:m<=10)(w1:1<=w)(w2:w<=6):∃qv P',f__law_open [.own (ZZ 0) (pen P),.val (.int m),.val (.int w)]=ZZ (.ok (.v (hD qv)),[.own (ZZ 0) (pen P'),.val (.int m),.val (.int w)])/\Hs qv/\wg qv=[]/\(qv.length:Int)<=m/\∀r∈qv,r.length<=w.toNat:=by
 obtain⟨qv,P1,e1,ho⟩:=aiq P m w m1 m2 w1 w2;have h:=ho.hs m2 w2;have loop:=aen (b:=ir 4) (g:=l1__law_open) (λi ρ=>∃rs P o1 o2,ρ=[.own (ZZ 0) (pen P),.val (.int m),.val (.int w),.own ZY (hDs rs),o1,o2]/\Hs rs/\(∀r∈rs,r.length<=w.toNat)/\rs.length=qv.length/\∀a:Int,0<=a->a<(i:Int)->Opn rs a)
  (l:=lu 0 qv.length) (ρ:=[.own (ZZ 0) (pen P1),.val (.int m),.val (.int w),.own ZY (hDs qv),.emp,.emp]) 0 ⟨qv,P1,.emp,.emp,rfl,h,λr hr=>by have:=(ho.room r hr).2.1;omega,rfl,λa x y=>by omega⟩ ?_
 ·obtain⟨ρ',e2,rs,P2,o1,o2,rfl,hs,hw,hl,hop⟩:=loop;refine⟨rs,P2,?_,hs,avh λa x y=>hop a x (by simp[lu];omega),by rw[hl];exact ho.most,hw⟩
  have hl0:(hDs qv).length=qv.length:=by simp[hDs]
  have hb':qv.length<4611686018427387904:=by simpa using agg h
  simp[f__law_open,aha,e1,hD,hl0,hb',e2]
 ·rintro i d ρ hd ⟨rs,P3,o1,o2,rfl,hs,hw,hl,hop⟩
  rw[aa1,aX] at hd;obtain⟨k,hk,rfl⟩:=cB.mp hd;have hk':=vz (cT hk);have hki:k=(i:Int):=by
   unfold upto at hk;rw[aX] at hk;obtain⟨j,hj,rfl⟩:=cB.mp hk;have hlt:i<qv.length:=by
    have:=(aK.mp hj).1
    simpa using this
   rw[iC hlt] at hj;cases hj;rfl
  obtain⟨rs',P4,o',e3,hs',hw',hl',h5,h6⟩:=asl hs hw P3 (A:=.val (.int m)) (B:=.val (.int w)) (o:=o2) hk'.1 (by rw[hl];exact hk'.2)
  refine⟨[.own (ZZ 0) (pen P3),.val (.int m),.val (.int w),.own ZY (hDs rs),.val (.int k),o2],_,rfl,.inl e3,rs',P4,_,_,rfl,hs',hw',hl'.trans hl,λa x y=>?_⟩
  by_cases q:a=k
  ·rw[q];exact h5
  ·exact h6 a (hop a x (by omega))
def tu(qv:LL9):(hDs qv).length=qv.length:=by simp[hDs]
def anl{qv:LL9}{i:Nat}{d:D}(h:(hDs qv)[i]? = ZZ d):∃r,qv[i]? = ZZ r/\d=.tup (r.map D.int):=by
 unfold hDs at h;rw[aX] at h;obtain⟨r,e,rfl⟩:=cB.mp h;exact⟨r,e,rfl⟩
structure Arr (qv:LL9) (as:List Int):Prop where
 len:as.length=qv.length
 ok:∀(i:Nat) (a:Int) (r:List Int),as[i]? = ZZ a->qv[i]? = ZZ r->0<=a/\a<(r.length:Int)
noncomputable def ar(as:List Int)(x:Int):Int:=as.getD x.toNat 0
def Arr.at{qv:LL9}{as:List Int}(h:Arr qv as){x:Int}(h0:0<=x)(h1:x<(qv.length:Int)):0<=ar as x/\ar as x<((dr qv x).length:Int):=by
 have hk:x.toNat<qv.length:=by omega
 have hk2:x.toNat<as.length:=by rw[h.len];exact hk
 have:=h.ok x.toNat as[x.toNat] qv[x.toNat] (aF hk2) (aF hk)
 simpa[ar,dr,hk,hk2] using this
def an6(P:Int×Int){qv:LL9}(h:Hs qv):∃as P',f__law_drawn [.own (ZZ 0) (pen P),.val (hD qv)]=ZZ (.ok (.v (.tup (as.map D.int))),[.own (ZZ 0) (pen P'),.val (hD qv)])/\Arr qv as:=by
 have comp:=ab8 (b:=ir 0) (mc:=ret ZX) (me:=aa7) (λj ys ρ=>∃ns P o,ρ=[o,.own (ZZ 1) (pen P)]/\ys=ns.map D.int/\ns.length=j/\∀(i:Nat) (a:Int) (r:List Int),ns[i]? = ZZ a->qv[i]? = ZZ r->0<=a/\a<(r.length:Int))
  (l:=hDs qv) (ys:=[]) (ρ:=[.emp,.own (ZZ 1) (pen P)]) 0 ⟨[],P,.emp,rfl,rfl,rfl,by simp⟩ ?_
 ·obtain⟨ys,ρ',e6,ns,P6,o,rfl,rfl,hn,hx⟩:=comp;rw[tu,kZ] at hn;have hc:ns.length<=capS:=di (by have:=h.most;omega)
  exact⟨ns,P6,by simp[f__law_drawn,afs,hD,e6,hc],hn,hx⟩
 ·rintro j d ys ρ hd ⟨ns,P6,o,rfl,rfl,hn,hx⟩
  obtain⟨r,hr,rfl⟩:=anl hd;obtain⟨k1,k2,k3⟩:=h.room r (cT hr);obtain⟨r7,P7,e7,r7a,r7b⟩:=lg P6 (r.length:Int) (by omega) (by omega)
  refine⟨_,_,ZX,rfl,rfl,.inr ⟨rfl,.int r7,[.val (.tup (r.map D.int)),.own (ZZ 1) (pen P7)],by simp[aa7,e7],ns++[r7],P7,_,rfl,by simp,by simp[hn],λi a q ha hq=>?_⟩⟩
  rcases lW i ns.length with z |z
  ·rw[aY z] at ha;exact hx i a q ha hq
  ·have hi:i=ns.length:=by
    have:=(aK.mp ha).1;simp at this;omega
   subst hi;simp at ha;subst ha;have:ns.length=j:=by omega
   rw[this,hr] at hq;cases hq;exact⟨r7a,r7b⟩
def gone(qv:LL9)(as:List Int)(k:Int):List Int:=as.set k.toNat ((ar as k+1) % ((dr qv k).length:Int))
def led(qv:LL9)(as:List Int)(k:Int):Int:=(dr qv k).getD (ar as k).toNat 0
section
variable{qv:LL9}(h:Hs qv){as:List Int}(ha:Arr qv as){k:Int}(h0:0<=k)(h1:k<(qv.length:Int))
include h ha h0 h1
theorem api:atI (as.map D.int) k=ZZ (.int (ar as k)):=apj h0 (by rw[ha.len];exact h1)
theorem atw(x:Int):fMod x ((dr qv k).length:Int)=ZZ (x % ((dr qv k).length:Int)):=by
 have:=(h.dr h0 h1).1;unfold fMod;rw[if_pos (by omega)]
end
section
variable{qv:LL9}(h:Hs qv){as:List Int}(ha:Arr qv as){k:Int}(h0:0<=k)(h1:k<(qv.length:Int))
include h ha h0 h1
theorem aej:Arr qv (gone qv as k):=by
 have hd:=(h.dr h0 h1).1;refine⟨by unfold gone;rw[cC];exact ha.len,λi a r g1 g2=>?_⟩
 unfold gone at g1;rw[bJ] at g1;split at g1
 ·rename_i hi;subst hi;split at g1
  ·cases g1;have:dr qv k=r:=by simp[dr,g2]
   rw[this] at hd ⊢
   exact⟨Int.emod_nonneg _ (by omega),fH _ (by omega)⟩
  ·cases g1
 ·exact ha.ok i a r g1 g2
end
def a3u{qv:LL9}(h:Hs qv){as:List Int}(ha:Arr qv as){k:Int}(h0:0<=k)(h1:k<(qv.length:Int)) : -3<=led qv as k/\led qv as k<(qv.length:Int):=by
 obtain⟨a1,a2⟩:=ha.at h0 h1;have hk:(ar as k).toNat<(dr qv k).length:=by omega
 have:led qv as k∈dr qv k:=by
  unfold led;simp[hk]
 exact(h.dr h0 h1).2.2 _ this
def ab9{qv:LL9}{bs:List Int}{p:Int}(hp:p.toNat<bs.length):ar (gone qv bs p) p=(ar bs p+1) % ((dr qv p).length:Int):=by
 unfold gone;generalize (ar bs p+1) % ((dr qv p).length:Int)=z;unfold ar;simp[hp]
def afe{qv:LL9}{bs:List Int}{p x:Int}(hx:0<=x)(hp:0<=p)(hne:x≠p):ar (gone qv bs p) x=ar bs x:=by
 have:p.toNat≠x.toNat:=by omega
 unfold gone;generalize (ar bs p+1) % ((dr qv p).length:Int)=z;unfold ar;simp[aU,bJ,this]
theorem ail:∀(m:Nat) (l:List Int),l.Nodup->(∀x∈l,0<=x/\x<(m:Int))->l.length<=m
 | 0,l,_,h=>by
  cases l with
  |nil=>simp
  |cons x r=>have:=h x (aZ ..);omega
 |m+1,l,hn,h=>by
  have h1:(l.erase (m:Int)).length<=m:=ail m _ (hn.erase _) λx hx=>by
   rw[hn.mem_erase_iff] at hx;have:=h x hx.2;have:=hx.1;omega
  have h2:l.length<=(l.erase (m:Int)).length+1:=by
   rw[wW];split <;> omega
  omega
theorem least{P:Nat->Prop}:∀n,P n->∃m,P m/\∀i<m,¬P i:=λn=>by
 induction n using Nat.strongRecOn with
 |_ n ih=>
  intro hn
  by_cases q:∃i,i<n/\P i
  ·obtain⟨i,hi,hp⟩:=q;exact ih i hi hp
  ·exact⟨n,hn,λi hi hp=>q ⟨i,hi,hp⟩⟩
theorem ale:∀{a b:List Int},a.Nodup->(∀x∈a,x∈b)->a.length<=b.length
 | [],b,_,_=>dN _
 |x::r,b,hn,h=>by
  have hx:=h x (aZ ..);have h1:r.length<=(b.erase x).length:=ale (uT hn) λy hy=>by
   have hne:y≠x:=λe=>(fU.mp hn).1 y hy e.symm
   exact(List.mem_erase_of_ne hne).mpr (h y (aR _ hy))
  rw[List.length_erase_of_mem hx] at h1;have:=List.length_pos_of_mem hx;rw[bF];omega
def run(qv:LL9)(as:List Int)(k:Int):Nat->List Int×Int
 | 0=>(as,k)
 |n+1=>(gone qv (run qv as k n).1 (run qv as k n).2,led qv (run qv as k n).1 (run qv as k n).2)
section
variable{qv:LL9}(h:Hs qv){as:List Int}(ha:Arr qv as){k:Int}(h0:0<=k)(h1:k<(qv.length:Int))
include h ha h0 h1
theorem aif:∀t:Nat,(∀i<t,0<=(run qv as k i).2)->Arr qv (run qv as k t).1 /\ -3<=(run qv as k t).2/\(run qv as k t).2<(qv.length:Int)
 | 0,_=>⟨ha,by show -3<=k;omega,h1⟩
 |t+1,hp=>by
  obtain⟨a1,a2,a3⟩:=aif t λi hi=>hp i (by omega)
  have a0:=hp t (by omega)
  exact⟨aej h a1 a0 a3,a3u h a1 a0 a3⟩
end
def gdB(R:List Int)(d:Int):Bool:=decide (d<0)||decide (d∈R)
section
variable{qv:LL9}(h:Hs qv){R:List Int}
include h
theorem asv(hop:wg qv=[])(hl:R.length<qv.length):∃y,0<=y/\y<(qv.length:Int)/\y∉R/\∃d∈dr qv y,gdB R d=ZX:=by
 apply fK;intro H;have hy:∃y:Int,0<=y/\y<(qv.length:Int)/\y∉R:=by
  apply fK;intro H2;have:=ale (a:=(bW qv.length).map λ(i:Nat)=>(i:Int)) (b:=R) (by
   rw[List.Nodup,wU];exact wY (λ{a b} hab=>by omega) lM) λx hx=>by
   obtain⟨i,hi,rfl⟩:=fW.mp hx;have:=iJ.mp hi;apply fK;intro hn;exact H2 ⟨(i:Int),by omega,by omega,hn⟩
  rw[aL,jW] at this;omega
 obtain⟨y,y0,y1,yn⟩:=hy;have all:∀z,Rch qv y z->0<=z/\z<(qv.length:Int)/\z∉R:=λz hz=>by
  induction hz with
  |base=>exact⟨y0,y1,yn⟩
  | @step x d r _ hd ih=>
   have hb:=(h.dr ih.1 ih.2.1).2.2 d hd;have hg:gdB R d≠ZX:=λg=>H ⟨x,ih.1,ih.2.1,ih.2.2,d,hd,g⟩
   unfold gdB at hg;rw[Ne,sY,decide_eq_true_eq,decide_eq_true_eq] at hg;exact⟨by
    rcases pN d 0 with q |q
    ·exact absurd (.inl q) hg
    ·exact q,hb.2,λq=>hg (.inr q)⟩
 have:y∈wg qv:=eV.mpr ⟨by
  unfold upto;exact fW.mpr ⟨y.toNat,iJ.mpr (by omega),by omega⟩,(ux qv y).mpr λz hz=>(all z hz).1⟩
 rw[hop] at this;cases this
end
def cv(qv:LL9)(as:List Int)(k y:Int):Nat->Nat
 | 0=>0
 |t+1=>cv qv as k y t+if (run qv as k t).2=y then 1 else 0
def av(qv:LL9)(as:List Int)(k d:Int):Nat->Nat
 | 0=>0
 |t+1=>av qv as k d t+if (run qv as k (t+1)).2=d then 1 else 0
theorem a5a(qv:LL9)(as:List Int)(k d:Int):∀t,av qv as k d t<=cv qv as k d (t+1)
 | 0=>dN _
 |t+1=>by
  have ih:=a5a qv as k d t;show av qv as k d t+(if (run qv as k (t+1)).2=d then 1 else 0)<=cv qv as k d (t+1)+(if (run qv as k (t+1)).2=d then 1 else 0)
  omega
def a9f(qv:LL9)(as:List Int)(k d:Int)(t:Nat):av qv as k d t<=cv qv as k d t+1:=by
 have h:=a5a qv as k d t;have e:cv qv as k d (t+1)=cv qv as k d t+if (run qv as k t).2=d then 1 else 0:=rfl
 rw[e] at h;split at h <;> omega
theorem auc{qv:LL9}{as:List Int}{k d:Int}(hd:d<0):∀t,(∀i<t,0<=(run qv as k i).2)->cv qv as k d t=0
 | 0,_=>rfl
 |t+1,hp=>by
  have ih:=auc hd t λi hi=>hp i (by omega)
  have p0:=hp t (by omega)
  show cv qv as k d t+(if (run qv as k t).2=d then 1 else 0)=0
  rw[ih,if_neg (by omega)]
def anb{x w:Int}(h0 : -w<=x)(h1:x<0):x % w=x+w:=by
 rw[<-qR x w];exact fO (by omega) (by omega)
def rot{a e w:Int}(a0:0<=a)(a1:a<w)(e0:0<=e)(e1:e<w)(ne:a≠e):((a+1) % w-e-1) % w=(a-e-1) % w+1:=by
 rcases pN (a+1) w with q |q
 ·rw[fO (by omega) q]
  rcases pN a e with z |z
  ·rw[anb (by omega) (by omega),anb (by omega) (by omega)]
   omega
  ·rw[fO (show 0<=a+1-e-1 by omega) (by omega),fO (show 0<=a-e-1 by omega) (by omega)]
   omega
 ·have ew:a+1=w:=by omega
  rw[ew,Int.emod_self,anb (by omega) (by omega),fO (show 0<=a-e-1 by omega) (by omega)]
  omega
section
variable{qv:LL9}(h:Hs qv){as:List Int}(ha:Arr qv as){k:Int}(h0:0<=k)(h1:k<(qv.length:Int))
include h ha h0 h1
theorem ax2{y:Int}(y0:0<=y)(y1:y<(qv.length:Int)){e:Nat}(he:e<(dr qv y).length):∀t,(∀i<t,0<=(run qv as k i).2)->(cv qv as k y t:Int)<=((dr qv y).length:Int)*(av qv as k ((dr qv y).getD e 0) t:Int)+(ar (run qv as k t).1 y-(e:Int)-1) % ((dr qv y).length:Int)
 | 0,_=>by
  have:0<=(ar (run qv as k 0).1 y-(e:Int)-1) % ((dr qv y).length:Int):=iG _ (by omega)
  show((0:Nat):Int)<=((dr qv y).length:Int)*((0:Nat):Int)+_;simp;exact this
 |t+1,hp=>by
  have hp':∀i<t,0<=(run qv as k i).2:=λi hi=>hp i (by omega)
  have ih:=ax2 y0 y1 he t hp';obtain⟨a1,a2,a3⟩:=aif h ha h0 h1 t hp';have p0:=hp t (by omega)
  have ec:cv qv as k y (t+1)=cv qv as k y t+if (run qv as k t).2=y then 1 else 0:=rfl
  have ea:av qv as k ((dr qv y).getD e 0) (t+1)=av qv as k ((dr qv y).getD e 0) t+if (run qv as k (t+1)).2=(dr qv y).getD e 0 then 1 else 0:=rfl
  have er:(run qv as k (t+1)).1=gone qv (run qv as k t).1 (run qv as k t).2:=rfl;have el:(run qv as k (t+1)).2=led qv (run qv as k t).1 (run qv as k t).2:=rfl;have aa:=a1.at y0 y1;have al:=a1.len
  by_cases hy:(run qv as k t).2=y
  ·rw[ec,ea,er,el,hy,if_pos rfl];rw[ab9 (by omega)]
   generalize hA:ar (run qv as k t).1 y=a at *
   by_cases ne:a=(e:Int)
   ·have:led qv (run qv as k t).1 y=(dr qv y).getD e 0:=by
     unfold led;rw[hA,ne];rfl
    rw[if_pos this];have b1:=fH (a-(e:Int)-1) (show(0:Int)<((dr qv y).length:Int) by omega)
    have b2:=iG ((a+1) % ((dr qv y).length:Int)-(e:Int)-1) (show((dr qv y).length:Int)≠0 by omega)
    have em:((dr qv y).length:Int)*((av qv as k ((dr qv y).getD e 0) t+1:Nat):Int)=((dr qv y).length:Int)*(av qv as k ((dr qv y).getD e 0) t:Int)+((dr qv y).length:Int):=by
     rw[jO,qH];simp
    rw[em];omega
   ·have b:=rot aa.1 aa.2 (show(0:Int)<=(e:Int) by omega) (by omega) ne
    have em:((dr qv y).length:Int)*(av qv as k ((dr qv y).getD e 0) t:Int)<=((dr qv y).length:Int)*((av qv as k ((dr qv y).getD e 0) t+(if led qv (run qv as k t).1 y=(dr qv y).getD e 0 then 1 else 0):Nat):Int):=lZ (by omega) (by omega)
    rw[b];omega
  ·rw[ec,ea,er,if_neg hy,afe y0 p0 (gG hy)];have em:((dr qv y).length:Int)*(av qv as k ((dr qv y).getD e 0) t:Int)<=((dr qv y).length:Int)*((av qv as k ((dr qv y).getD e 0) t+(if (run qv as k (t+1)).2=(dr qv y).getD e 0 then 1 else 0):Nat):Int):=lZ (by omega) (by omega)
   omega
theorem a0y{W:Nat}(hw:∀r∈qv,r.length<=W){y:Int}(y0:0<=y)(y1:y<(qv.length:Int)){d:Int}(hd:d∈dr qv y){t:Nat}(hp:∀i<t,0<=(run qv as k i).2):cv qv as k y t<=W*cv qv as k d t+2*W:=by
 obtain⟨e,he,ed⟩:=gH.mp hd;have i:=ax2 h ha h0 h1 y0 y1 he t hp;have ed':(dr qv y).getD e 0=d:=by rw[aU,aF he];exact ed
 rw[ed'] at i;have b1:=fH (ar (run qv as k t).1 y-(e:Int)-1) (show(0:Int)<((dr qv y).length:Int) by omega)
 have w3:(dr qv y).length<=W:=hw _ (by
  have hk:y.toNat<qv.length:=by omega
  unfold dr;rw[aU,aF hk];exact dJ hk)
 have al:=a9f qv as k d t;have em:((dr qv y).length:Int)*(av qv as k d t:Int)<=(W:Int)*(av qv as k d t:Int):=Int.mul_le_mul_of_nonneg_right (by omega) (by omega)
 have en:(W:Int)*(av qv as k d t:Int)<=(W:Int)*((cv qv as k d t:Int)+1):=lZ (by omega) (by omega)
 rw[qH,sS] at en;have:(cv qv as k y t:Int)<=((W*cv qv as k d t+2*W:Nat):Int):=by
  rw[jO,sO,sO];omega
 omega
noncomputable def mx(W:Nat):Nat->Nat
 | 0=>0
 |j+1=>W*mx W j+2*W
def sx(W:Nat):Nat->Nat
 | 0=>0
 |j+1=>sx W j+mx W (j+1)
omit h ha h0 h1 in
theorem avk(f:Int->Nat)(p:Int):∀R:List Int,p∈R->(R.map f).sum+1<=(R.map λx=>f x+if p=x then 1 else 0).sum:=λR=>by
 have base:∀R:List Int,(R.map f).sum<=(R.map λx=>f x+if p=x then 1 else 0).sum:=λR=>by
  induction R with
  |nil=>exact aP _
  |cons x r ih=>
   rw[bC,bC,dD,dD];omega
 induction R with
 |nil=>intro hp;cases hp
 |cons x r ih=>
  intro hp;rw[bC,bC,dD,dD];rcases bA.mp hp with rfl |hp
  ·have:=base r;rw[if_pos rfl];omega
  ·have:=ih hp;omega
omit h ha h0 h1 in
theorem akp{R:List Int}:∀t,(∀i<t,(run qv as k i).2∈R)->t<=(R.map λx=>cv qv as k x t).sum
 | 0,_=>dN _
 |t+1,hp=>by
  have ih:=akp (R:=R) t λi hi=>hp i (by omega)
  have:=avk (λx=>cv qv as k x t) (run qv as k t).2 R (hp t (by omega))
  exact cW (oV ih) this
theorem akk{W:Nat}(hW1:1<=W)(hop:wg qv=[])(hw:∀r∈qv,r.length<=W){t:Nat}(hp:∀i<t,0<=(run qv as k i).2):t<=sx W qv.length:=by
 have claim:∀j,j<=qv.length->∃R:List Int,R.Nodup/\R.length=j/\(∀x∈R,0<=x/\x<(qv.length:Int))/\(∀x∈R,cv qv as k x t<=mx W j)/\(R.map λx=>cv qv as k x t).sum<=sx W j:=λj=>by
  induction j with
  |zero=>exact λ_=>⟨[],rD,rfl,λx hx=>absurd hx cI,λx hx=>absurd hx cI,aP _⟩
  |succ j ih=>
   intro hj;obtain⟨R,nd,hl,hin,hm,hs⟩:=ih (by omega)
   obtain⟨y,y0,y1,yn,d,hd,hg⟩:=asv h (R:=R) hop (by omega)
   have cd:cv qv as k d t<=mx W j:=by
    unfold gdB at hg;rw[sY,decide_eq_true_eq,decide_eq_true_eq] at hg;rcases hg with q |q
    ·rw[auc q t hp];exact dN _
    ·exact hm d q
   have cy:=a0y h ha h0 h1 hw y0 y1 hd hp;have em:mx W (j+1)=W*mx W j+2*W:=rfl;have em2:W*cv qv as k d t<=W*mx W j:=Nat.mul_le_mul_left _ cd;have em3:mx W j<=W*mx W j:=Nat.le_mul_of_pos_left _ hW1;refine⟨y::R,qP (λa ha e=>yn (e▸ha)) nd,by rw[bF,hl],λx hx=>?_,λx hx=>?_,?_⟩
   ·rcases bA.mp hx with rfl |hx
    ·exact⟨y0,y1⟩
    ·exact hin x hx
   ·rcases bA.mp hx with rfl |hx
    ·omega
    ·have:=hm x hx;omega
   ·rw[bC,dD];show _<=sx W j+mx W (j+1);omega
 obtain⟨R,nd,hl,hin,hm,hs⟩:=claim qv.length (aP _);refine cW (akp t λi hi=>?_) hs
 have p0:=hp i hi;have p1:=(aif h ha h0 h1 i λj hj=>hp j (by omega)).2.2
 apply fK;intro hn;have:=ail qv.length ((run qv as k i).2::R) (qP (λa ha e=>hn (e▸ha)) nd) λa ha=>by
  rcases bA.mp ha with rfl |ha
  ·exact⟨p0,p1⟩
  ·exact hin a ha
 rw[bF] at this;omega
theorem avd{W:Nat}(hW1:1<=W)(hop:wg qv=[])(hw:∀r∈qv,r.length<=W):∃T,1<=T/\T<=sx W qv.length/\(∀i<T,0<=(run qv as k i).2)/\(run qv as k T).2<0:=by
 have ex:∃t,(run qv as k t).2<0:=by
  apply fK;intro H;have:=akk h ha h0 h1 hW1 hop hw (t:=sx W qv.length+1) λi _=>by
   rcases pN (run qv as k i).2 0 with q |q
   ·exact absurd ⟨i,q⟩ H
   ·exact q
  omega
 obtain⟨t,ht⟩:=ex;obtain⟨T,hT,hmin⟩:=least (P:=λt=>(run qv as k t).2<0) t ht
 have hp:∀i<T,0<=(run qv as k i).2:=λi hi=>by
  have:¬(run qv as k i).2<0:=hmin i hi;omega
 refine⟨T,?_,akk h ha h0 h1 hW1 hop hw hp,hp,hT⟩;rcases qK T with z |z
 ·subst z;have:(run qv as k 0).2=k:=rfl;have hT:(run qv as k 0).2<0:=hT;omega
 ·exact z
end
def vis(qv:LL9)(as:List Int)(k:Int)(T:Nat):List Int:=(bW T).map λi=>(run qv as k i).2
def go(qv:LL9):List Int->List Int->List Int
 |as,[]=>as
 |as,x::s=>go qv (gone qv as x) s
def arv(qv:LL9)(d:Int):List Int->List Int->Nat
 |_,[]=>0
 |as,x::s=>(if led qv as x=d then 1 else 0)+arv qv d (gone qv as x) s
def us(qv:LL9)(as:List Int)(y d:Int):Nat->Nat
 | 0=>0
 |n+1=>us qv as y d n+if (dr qv y).getD ((ar as y+(n:Int)) % ((dr qv y).length:Int)).toNat 0=d then 1 else 0
def InR(qv:LL9)(s:List Int):Prop:=∀x∈s,0<=x/\x<(qv.length:Int)
theorem alw(qv:LL9):∀(s t as:List Int),go qv as (s++t)=go qv (go qv as s) t
 | [],t,as=>rfl
 |x::s,t,as=>alw qv s t (gone qv as x)
theorem vy(qv:LL9)(d:Int):∀(s t as:List Int),arv qv d as (s++t)=arv qv d as s+arv qv d (go qv as s) t
 | [],t,as=>by simp[arv,go]
 |x::s,t,as=>by
  show(if led qv as x=d then 1 else 0)+arv qv d (gone qv as x) (s++t)=(if led qv as x=d then 1 else 0)+arv qv d (gone qv as x) s+arv qv d (go qv (gone qv as x) s) t
  rw[vy qv d s t];omega
def lq(x y:Int)(s:List Int):(x::s).count y=s.count y+if x=y then 1 else 0:=by
 rw[List.count_cons];simp
def ali{a c w:Int}(hw:0<w):((a+1) % w+c) % w=(a+(c+1)) % w:=by
 rw[xF]
 congr 1
 omega
theorem aye(qv:LL9)(as:List Int)(y d:Int){m n:Nat}(h:m<=n):us qv as y d m<=us qv as y d n:=by
 induction n with
 |zero=>
  have:m=0:=by omega
  rw[this];exact aP _
 |succ n ih=>
  by_cases q:m=n+1
  ·rw[q];exact aP _
  ·have:=ih (by omega)
   have e:us qv as y d (n+1)=us qv as y d n+if (dr qv y).getD ((ar as y+(n:Int)) % ((dr qv y).length:Int)).toNat 0=d then 1 else 0:=rfl
   omega
theorem ai6(f g:Int->Nat):∀l:List Int,(∀x∈l,f x<=g x)->(l.map f).sum<=(l.map g).sum
 | [],_=>aP _
 |x::l,h=>by
  rw[bC,bC,dD,dD];have:=h x (aZ ..);have:=ai6 f g l λy hy=>h y (aR _ hy)
  omega
theorem adw(f g:Int->Nat):∀l:List Int,(∀x∈l,f x=g x)->(l.map f).sum=(l.map g).sum
 | [],_=>rfl
 |x::l,h=>by
  rw[bC,bC,dD,dD,h x (aZ ..),adw f g l λy hy=>h y (aR _ hy)]
theorem amw(f g:Int->Nat)(x:Int)(k:Nat)(hx:f x=k+g x):∀l:List Int,l.Nodup->x∈l->(∀y∈l,y≠x->f y=g y)->(l.map f).sum=k+(l.map g).sum
 | [],_,h,_=>by cases h
 |y::l,hn,h,hs=>by
  obtain⟨h1,h2⟩:=fU.mp hn;rw[bC,bC,dD,dD]
  by_cases e:y=x
  ·subst e;rw[hx,adw f g l λz hz=>hs z (aR _ hz) λq=>h1 z hz q.symm]
   omega
  ·have hm:x∈l:=by
    rcases bA.mp h with q |q
    ·exact absurd q.symm e
    ·exact q
   rw[hs y (aZ ..) e,amw f g x k hx l h2 hm λz hz=>hs z (aR _ hz)]
   omega
def aib(n:Nat):(upto n).Nodup:=by
 unfold upto;rw[List.Nodup,wU];exact wY (λ{a b} hab=>by omega) lM
def ai2{n:Nat}{x:Int}(h0:0<=x)(h1:x<(n:Int)):x∈upto n:=by
 unfold upto;exact fW.mpr ⟨x.toNat,iJ.mpr (by omega),by omega⟩
section
variable{qv:LL9}(h:Hs qv)
include h
theorem afp:∀(s:List Int) {as:List Int},Arr qv as->InR qv s->Arr qv (go qv as s)
 | [],_,ha,_=>ha
 |x::s,as,ha,hs=>afp s (aej h ha (hs x (aZ ..)).1 (hs x (aZ ..)).2) λy hy=>hs y (aR _ hy)
theorem aqr{y:Int}(y0:0<=y)(y1:y<(qv.length:Int)):∀(s:List Int) {as:List Int},Arr qv as->InR qv s->ar (go qv as s) y=(ar as y+(s.count y:Int)) % ((dr qv y).length:Int)
 | [],as,ha,_=>by
  have a:=ha.at y0 y1;show ar as y=(ar as y+0) % _;rw[uU,fO a.1 a.2]
 |x::s,as,ha,hs=>by
  have hx:=hs x (aZ ..);have hd:=(h.dr y0 y1).1;have hal:=ha.len;have ih:=aqr y0 y1 s (aej h ha hx.1 hx.2) λz hz=>hs z (aR _ hz)
  show ar (go qv (gone qv as x) s) y=_;rw[ih,lq]
  by_cases e:x=y
  ·subst e;rw[ab9 (by omega),if_pos rfl,ali (by omega),jO]
   rfl
  ·rw[afe y0 hx.1 (gG e),if_neg e];rfl
theorem a1f{as:List Int}{x y d:Int}(x0:0<=x)(y0:0<=y)(e:y≠x):∀n,us qv (gone qv as x) y d n=us qv as y d n
 | 0=>rfl
 |n+1=>by
  unfold us;rw[a1f x0 y0 e n,afe y0 x0 e]
theorem ams{as:List Int}(ha:Arr qv as){x d:Int}(x0:0<=x)(x1:x<(qv.length:Int)):∀n,us qv as x d (n+1)=(if led qv as x=d then 1 else 0)+us qv (gone qv as x) x d n
 | 0=>by
  have a:=ha.at x0 x1;show 0+(if (dr qv x).getD ((ar as x+0) % ((dr qv x).length:Int)).toNat 0=d then 1 else 0)=_+0
  rw[uU,fO a.1 a.2];unfold led;omega
 |n+1=>by
  have ih:=ams ha (d:=d) x0 x1 n;have hd:=(h.dr x0 x1).1;have hal:=ha.len;have e1:us qv as x d (n+2)=us qv as x d (n+1)+if (dr qv x).getD ((ar as x+((n+1:Nat):Int)) % ((dr qv x).length:Int)).toNat 0=d then 1 else 0:=rfl
  have e2:us qv (gone qv as x) x d (n+1)=us qv (gone qv as x) x d n+if (dr qv x).getD ((ar (gone qv as x) x+(n:Int)) % ((dr qv x).length:Int)).toNat 0=d then 1 else 0:=rfl
  rw[e1,e2,ih,ab9 (by omega),ali (by omega),jO]
  show _+_+(if (dr qv x).getD ((ar as x+((n:Int)+1)) % ((dr qv x).length:Int)).toNat 0=d then 1 else 0)=_
  omega
theorem aml(d:Int):∀(s:List Int) {as:List Int},Arr qv as->InR qv s->arv qv d as s=((upto qv.length).map λy=>us qv as y d (s.count y)).sum
 | [],as,_,_=>by
  show 0=_
  symm
  rw[adw (λy=>us qv as y d (([]:List Int).count y)) (λ_=>0) _ λx _=>rfl]
  generalize upto qv.length=l
  induction l with
  |nil=>rfl
  |cons x l ih=>rw[bC,dD,ih]
 |x::s,as,ha,hs=>by
  have hx:=hs x (aZ ..);have ih:=aml d s (aej h ha hx.1 hx.2) λz hz=>hs z (aR _ hz)
  show(if led qv as x=d then 1 else 0)+arv qv d (gone qv as x) s=_
  rw[ih]
  symm
  refine amw _ _ x _ ?_ _ (aib _) (ai2 hx.1 hx.2) λy hy e=>?_
  ·show us qv as x d ((x::s).count x)=_;rw[lq,if_pos rfl,ams h ha hx.1 hx.2]
  ·show us qv as y d ((x::s).count y)=us qv (gone qv as x) y d (s.count y);rw[lq,if_neg (gG e),a1f h hx.1 (vz hy).1 e];rfl
theorem a5d{as s t:List Int}(ha:Arr qv as)(hs:InR qv s)(ht:InR qv t)(hc:∀y,0<=y->y<(qv.length:Int)->s.count y<=t.count y)(d:Int):arv qv d as s<=arv qv d as t:=by
 rw[aml h d s ha hs,aml h d t ha ht];exact ai6 _ _ _ λy hy=>aye _ _ _ _ (hc y (vz hy).1 (vz hy).2)
end
def Lg(qv:LL9)(as:List Int)(w:Int->Nat)(s:List Int):Prop:=∀p x q,s=p++x::q->(0<=x/\x<(qv.length:Int))/\p.count x<w x+arv qv x as p
def Stb(qv:LL9)(as:List Int)(w:Int->Nat)(s:List Int):Prop:=∀x,0<=x->x<(qv.length:Int)->s.count x=w x+arv qv x as s
def Lg.inR{qv:LL9}{as:List Int}{w:Int->Nat}{s:List Int}(l:Lg qv as w s):InR qv s:=λx hx=>by
 obtain⟨p,q,e⟩:=List.append_of_mem hx;exact(l p x q e).1
def InR.append{qv:LL9}{s t:List Int}(hs:InR qv s)(ht:InR qv t):InR qv (s++t):=λx hx=>(cU.mp hx).elim (hs x) (ht x)
section
variable{qv:LL9}(h:Hs qv){as:List Int}(ha:Arr qv as){w:Int->Nat}
include h ha
theorem agz{s t:List Int}(hs:Lg qv as w s)(ht:InR qv t)(hst:∀x,0<=x->x<(qv.length:Int)->w x+arv qv x as t<=t.count x)(x:Int):s.count x<=t.count x:=by
 have claim:∀k,k<=s.length->∀x,(s.take k).count x<=t.count x:=λk=>by
  induction k with
  |zero=>intro _ x;simp
  |succ k ih=>
   intro hk x;have hk':k<s.length:=by omega
   have e:s.take (k+1)=s.take k++[s[k]]:=by rw[yR,aF hk'];rfl
   have es:s=s.take k++s[k]::s.drop (k+1):=by
    rw[<-kI hk',List.take_append_drop]
   obtain⟨b,l⟩:=hs _ _ _ es;have ih:=ih (by omega)
   rw[e,gW,lq]
   by_cases q:s[k]=x
   ·rw[if_pos q];have hin:InR qv (s.take k):=λz hz=>hs.inR z (uX hz)
    have m:=a5d h ha hin ht (λy _ _=>ih y) s[k]
    have z:=hst _ b.1 b.2;rw[<-q];simp;omega
   ·rw[if_neg q];have:=ih x;simp;exact this
 have:=claim s.length (aP _) x;rwa[oX] at this
theorem abel{s t:List Int}(hs:Lg qv as w s)(ss:Stb qv as w s)(ht:Lg qv as w t)(st:Stb qv as w t)(x:Int):s.count x=t.count x :=
 Nat.le_antisymm (agz h ha hs ht.inR (λx a b=>nD (st x a b).symm) x) (agz h ha ht hs.inR (λx a b=>nD (ss x a b).symm) x)
theorem go_same{s t:List Int}(hs:InR qv s)(ht:InR qv t)(hc:∀x,s.count x=t.count x):go qv as s=go qv as t:=by
 have l1:=(afp h s ha hs).len;have l2:=(afp h t ha ht).len;apply lR;intro i
 by_cases hi:i<qv.length
 ·have e1:=aqr h (y:=(i:Int)) (by omega) (by omega) s ha hs
  have e2:=aqr h (y:=(i:Int)) (by omega) (by omega) t ha ht
  rw[hc,<-e2] at e1;unfold ar at e1;rw[show((i:Nat):Int).toNat=i by omega,aU,aU,aF (by omega),aF (by omega)] at e1
  rw[aF (by omega),aF (by omega)]
  exact congrArg ZZ e1
 ·rw[gD (by omega),gD (by omega)]
theorem Lg.append{w2:Int->Nat}{s t:List Int}(hs:Lg qv as w s)(ss:Stb qv as w s)(ht:Lg qv (go qv as s) w2 t):Lg qv as (λx=>w x+w2 x) (s++t):=λp x q e=>by
 rcases tU.mp e with⟨r,e1,e2⟩ |⟨r,e1,e2⟩
 ·-- the beginning is longer than s
  obtain⟨b,l⟩:=ht r x q e2;have z:=ss x b.1 b.2;refine⟨b,?_⟩;rw[e1,gW,vy];show s.count x+r.count x<w x+w2 x+_;omega
 ·cases r with
  |nil=>
   rw[fV] at e2;obtain⟨b,l⟩:=ht [] x q (by rw[fV];exact e2.symm)
   rw[cF] at e1;have z:=ss x b.1 b.2;refine⟨b,?_⟩;rw[<-e1];have l:([]:List Int).count x<w2 x+0:=l;simp at l;show s.count x<w x+w2 x+arv qv x as s;omega
  |cons y r=>
   rw[oY,pL] at e2;obtain⟨rfl,e2⟩:=e2;obtain⟨b,l⟩:=hs p x r e1;refine⟨b,?_⟩;show p.count x<w x+w2 x+_;omega
omit h ha in
theorem Stb.append{w2:Int->Nat}{s t:List Int}(ss:Stb qv as w s)(st:Stb qv (go qv as s) w2 t):Stb qv as (λx=>w x+w2 x) (s++t):=λx x0 x1=>by
 have a:=ss x x0 x1;have b:=st x x0 x1;rw[gW,vy];show _=w x+w2 x+_;omega
end
def an9(qv:LL9)(as:List Int)(k:Int)(t:Nat):vis qv as k (t+1)=vis qv as k t++[(run qv as k t).2]:=by
 unfold vis;rw[mQ,lG];rfl
theorem atg(qv:LL9)(as:List Int)(k:Int):∀t,go qv as (vis qv as k t)=(run qv as k t).1
 | 0=>rfl
 |t+1=>by
  rw[an9,alw,atg qv as k t];rfl
theorem amq(qv:LL9)(as:List Int)(k d:Int):∀t,(vis qv as k t).count d+(if (run qv as k t).2=d then 1 else 0)=(if k=d then 1 else 0)+arv qv d as (vis qv as k t)
 | 0=>by
  show 0+(if k=d then 1 else 0)=(if k=d then 1 else 0)+0
  omega
 |t+1=>by
  have ih:=amq qv as k d t;rw[an9,gW,vy,atg,lq];show(vis qv as k t).count d+(([]:List Int).count d+(if (run qv as k t).2=d then 1 else 0))+(if led qv (run qv as k t).1 (run qv as k t).2=d then 1 else 0)=(if k=d then 1 else 0)+(arv qv d as (vis qv as k t)+((if led qv (run qv as k t).1 (run qv as k t).2=d then 1 else 0)+0))
  have z:([]:List Int).count d=0:=rfl;omega
noncomputable def at1(k:Int):Int->Nat:=λx=>if k=x then 1 else 0
section
variable{qv:LL9}(h:Hs qv){as:List Int}(ha:Arr qv as){k:Int}(h0:0<=k)(h1:k<(qv.length:Int)){T:Nat}(hp:∀i<T,0<=(run qv as k i).2)
include h ha h0 h1 hp
theorem a1e:Lg qv as (at1 k) (vis qv as k T):=λp x q e=>by
 have hl:(vis qv as k T).length=T:=by simp[vis]
 have hpl:p.length<T:=by
  rw[<-hl,e,bV,bF];omega
 have ep:p=vis qv as k p.length:=by
  have:(vis qv as k T).take p.length=p:=by rw[e];exact List.take_left' rfl
  have e2:(vis qv as k T).take p.length=vis qv as k p.length:=by
   unfold vis;rw[<-uH,List.take_range,mO (by omega)]
  rw[<-e2,this]
 have ex:x=(run qv as k p.length).2:=by
  have:(vis qv as k T)[p.length]? = ZZ x:=by rw[e,cD (aP _),Nat.sub_self];rfl
  unfold vis at this;rw[aX,iC hpl] at this;exact(cN this).symm
 have p0:=hp _ hpl;have p1:=(aif h ha h0 h1 p.length λj hj=>hp j (by omega)).2.2
 have b:=amq qv as k x p.length;rw[<-ep,<-ex,if_pos rfl] at b;refine⟨by rw[ex];exact⟨p0,p1⟩,?_⟩
 show p.count x<(if k=x then 1 else 0)+_
 omega
omit h ha h0 h1 hp in
theorem aq5(hn:(run qv as k T).2<0):Stb qv as (at1 k) (vis qv as k T):=λx x0 x1=>by
 have b:=amq qv as k x T;rw[if_neg (by omega)] at b
 exact b
end
inductive Led (qv:LL9):List Int->List Int->List Int->Prop
 |nil (as:List Int):Led qv as [] []
 |cons {as:List Int} {k:Int} {T:Nat} {rs s:List Int} (h0:0<=k) (h1:k<(qv.length:Int)) (hp:∀i<T,0<=(run qv as k i).2) (hn:(run qv as k T).2<0) (t:Led qv (run qv as k T).1 rs s):Led qv as (k::rs) (vis qv as k T++s)
theorem Led.ok{qv:LL9}(h:Hs qv){as rs s:List Int}(l:Led qv as rs s):Arr qv as->Lg qv as (λx=>rs.count x) s/\Stb qv as (λx=>rs.count x) s:=by
 induction l with
 |nil as=>
  intro _;exact⟨λp x q e=>by simp at e,λx _ _=>rfl⟩
 | @cons as k T rs s h0 h1 hp hn t ih=>
  intro ha;obtain⟨l1,l2⟩:=ih (aif h ha h0 h1 T hp).1;rw[<-atg] at l1 l2;have a1:=(a1e h ha h0 h1 hp).append h ha (aq5 hn) l1;have a2:=(aq5 hn).append l2;have e:(λx=>at1 k x+rs.count x)=λx=>(k::rs).count x:=by
   funext x
   rw[lq];unfold at1;omega
  rw[e] at a1 a2;exact⟨a1,a2⟩
def tal(n:Nat)(s:List Int):List Int:=(bW n).map λi=>((s.count ((i:Nat):Int):Nat):Int)
def ac2(n:Nat)(s:List Int):(tal n s).length=n:=by simp[tal]
def ayn(n:Nat):tal n []=aD n 0:=by
 apply lR;intro i
 by_cases hi:i<n
 ·simp[tal,hi]
 ·simp[tal,hi]
def avj{n:Nat}{s t:List Int}(h:∀x,s.count x=t.count x):tal n s=tal n t:=by
 unfold tal;simp only[h]
def ayo{n:Nat}(s:List Int){i:Nat}(hi:i<n):(tal n s)[i]? = ZZ ((s.count ((i:Nat):Int):Nat):Int):=by
 unfold tal;rw[aX,iC hi];rfl
def Lg.nil{qv:LL9}{as:List Int}{w:Int->Nat}:Lg qv as w []:=λp x q e=>by simp at e
def Lg.snoc{qv:LL9}{as:List Int}{w:Int->Nat}{s:List Int}(l:Lg qv as w s){x:Int}(x0:0<=x)(x1:x<(qv.length:Int))(h:s.count x<w x+arv qv x as s):Lg qv as w (s++[x]):=λp y q e=>by
 rcases tU.mp e with⟨r,e1,e2⟩ |⟨r,e1,e2⟩
 ·cases r with
  |nil=>
   rw[fV,pL] at e2;rw[cF] at e1;subst e1;rw[<-e2.1];exact⟨⟨x0,x1⟩,h⟩
  |cons z r=>simp at e2
 ·cases r with
  |nil=>
   rw[fV] at e2;rw[cF] at e1;subst e1;have e3:=(pL ..).mp e2;rw[e3.1];exact⟨⟨x0,x1⟩,h⟩
  |cons z r=>
   rw[oY,pL] at e2;obtain⟨rfl,e2⟩:=e2;exact l p y r e1
def NN(qv:LL9)(as:List Int)(w:Int->Nat)(s:List Int):Prop:=∀x,0<=x->x<(qv.length:Int)->s.count x<=w x+arv qv x as s
def NN.nil{qv:LL9}{as:List Int}{w:Int->Nat}:NN qv as w []:=λx _ _=>dN _
def NN.snoc{qv:LL9}{as:List Int}{w:Int->Nat}{s:List Int}(l:NN qv as w s){x:Int}(h:s.count x<w x+arv qv x as s):NN qv as w (s++[x]):=λy y0 y1=>by
 have:=l y y0 y1;rw[gW,lq,vy]
 by_cases e:x=y
 ·subst e;rw[if_pos rfl];have z:([]:List Int).count x=0:=rfl;omega
 ·rw[if_neg e];have z:([]:List Int).count y=0:=rfl;omega
theorem anf{qv:LL9}:∀{s:List Int},InR qv s->s.length=((upto qv.length).map λy=>s.count y).sum
 | [],_=>by
  symm
  rw[adw (λy=>([]:List Int).count y) (λ_=>0) _ λx _=>rfl]
  generalize upto qv.length=l
  induction l with
  |nil=>rfl
  |cons x l ih=>rw[bC,dD,ih];rfl
 |x::s,hs=>by
  have hx:=hs x (aZ ..);have ih:=anf (s:=s) λz hz=>hs z (aR _ hz)
  rw[bF,ih]
  symm
  rw[amw (λy=>(x::s).count y) (λy=>s.count y) x 1 (by rw[lq,if_pos rfl];omega) _ (aib _) (ai2 hx.1 hx.2) λy hy e=>by rw[lq,if_neg (gG e)];rfl]
  omega
def a3t{qv:LL9}{s t:List Int}(hs:InR qv s)(ht:InR qv t)(h:∀x,s.count x<=t.count x):s.length<=t.length:=by
 rw[anf hs,anf ht];exact ai6 _ _ _ λx _=>h x
section
variable{qv:LL9}(h:Hs qv)(hop:wg qv=[]){W:Nat}(hW1:1<=W)(hw:∀r∈qv,r.length<=W)
include h hop hW1 hw
theorem axo:∀(rs:List Int) {as:List Int},Arr qv as->InR qv rs->∃s,Led qv as rs s/\s.length<=rs.length*sx W qv.length
 | [],as,ha,_=>⟨[],.nil _,dN _⟩
 |k::rs,as,ha,hr=>by
  have hk:=hr k (aZ ..);obtain⟨T,t1,t2,hp,hn⟩:=avd h ha hk.1 hk.2 hW1 hop hw;obtain⟨s,l,hs⟩:=axo rs (aif h ha hk.1 hk.2 T hp).1 λy hy=>hr y (aR _ hy)
  refine⟨vis qv as k T++s,.cons hk.1 hk.2 hp hn l,?_⟩;have hv:(vis qv as k T).length=T:=by simp[vis]
  rw[bV,hv,bF,Nat.succ_mul];omega
end
noncomputable def rowW(ws:List Int):Nat->List Int
 | 0=>[]
 |j+1=>rowW ws j++aD (ws.getD j 0).toNat ((j:Nat):Int)
theorem ar0(ws:List Int):∀n,∀x∈rowW ws n,0<=x/\x<(n:Int)
 | 0,x,hx=>by cases hx
 |n+1,x,hx=>by
  rcases cU.mp hx with q |q
  ·have:=ar0 ws n x q;omega
  ·have:=(nF.mp q).2;omega
theorem aig(ws:List Int):∀(n:Nat) (i:Nat),(rowW ws n).count ((i:Nat):Int)=if i<n then (ws.getD i 0).toNat else 0
 | 0,i=>by simp[rowW]
 |n+1,i=>by
  show(rowW ws n++aD (ws.getD n 0).toNat ((n:Nat):Int)).count ((i:Nat):Int)=_;rw[gW,aig ws n i,uY]
  by_cases e:i=n
  ·subst e;simp
  ·have e2:¬((n:Nat):Int)=((i:Nat):Int):=by omega
   have e3:(((n:Nat):Int)==((i:Nat):Int))=ZW:=beq_eq_false_iff_ne.mpr e2;rw[e3];simp only[jJ,if_false,Nat.add_zero]
   by_cases q:i<n
   ·rw[if_pos q,if_pos (by omega)]
   ·rw[if_neg q,if_neg (by omega)]
theorem aog(ws:List Int)(b:Nat)(hw:∀w∈ws,w<=(b:Int)):∀n,(rowW ws n).length<=b*n
 | 0=>dN _
 |n+1=>by
  have ih:=aog ws b hw n;have:(ws.getD n 0).toNat<=b:=by
   rw[aU];cases q:ws[n]? with
   |none=>exact dN _
   |some w=>
    have:=hw w (cT q);show w.toNat<=b;omega
  show(rowW ws n++aD (ws.getD n 0).toNat ((n:Nat):Int)).length<=_;rw[bV,dO,Nat.mul_succ];omega
noncomputable def wf(ws:List Int):Int->Nat:=λx=>(ws.getD x.toNat 0).toNat
def stn(qv:LL9)(as ws s:List Int):List Int:=(bW qv.length).map λi=>((wf ws ((i:Nat):Int)+arv qv ((i:Nat):Int) as s:Nat):Int)-((s.count ((i:Nat):Int):Nat):Int)
def gts(qv:LL9)(as s:List Int):List Int:=[(arv qv (-1) as s:Int),(arv qv (-2) as s:Int),(arv qv (-3) as s:Int)]
def yo(qv:LL9)(as ws s:List Int):(stn qv as ws s).length=qv.length:=by simp[stn]
def agc{qv:LL9}(as ws s:List Int){x:Int}(x0:0<=x)(x1:x<(qv.length:Int)):(stn qv as ws s).getD x.toNat 0=((wf ws x+arv qv x as s:Nat):Int)-((s.count x:Nat):Int):=by
 have hk:x.toNat<qv.length:=by omega
 unfold stn;rw[aU,aX,iC hk];show((wf ws ((x.toNat:Nat):Int)+arv qv ((x.toNat:Nat):Int) as s:Nat):Int)-((s.count ((x.toNat:Nat):Int):Nat):Int)=_;rw[show((x.toNat:Nat):Int)=x by omega]
def most{qv:LL9}(h:Hs qv)(hop:wg qv=[]){W:Nat}(hW1:1<=W)(hw:∀r∈qv,r.length<=W){as ws:List Int}(ha:Arr qv as){b:Nat}(hb:∀w∈ws,w<=(b:Int)) :
  ∃S,Lg qv as (wf ws) S/\Stb qv as (wf ws) S/\∀s,Lg qv as (wf ws) s->s.length<=b*qv.length*sx W qv.length:=by
 obtain⟨S,l,hl⟩:=axo h hop hW1 hw (rowW ws qv.length) ha (ar0 ws qv.length);obtain⟨a1,a2⟩:=l.ok h ha;have hc:∀x,0<=x->x<(qv.length:Int)->(rowW ws qv.length).count x=wf ws x:=λx x0 x1=>by
  have:=aig ws qv.length x.toNat;rw[if_pos (by omega),show((x.toNat:Nat):Int)=x by omega] at this
  exact this
 have b1:Lg qv as (wf ws) S:=λp x q e=>by
  obtain⟨c1,c2⟩:=a1 p x q e;exact⟨c1,by rw[<-hc x c1.1 c1.2];exact c2⟩
 have b2:Stb qv as (wf ws) S:=λx x0 x1=>by rw[<-hc x x0 x1];exact a2 x x0 x1
 refine⟨S,b1,b2,λs hs=>?_⟩
 have z:=a3t hs.inR b1.inR (agz h ha hs b1.inR λx x0 x1=>nD (b2 x x0 x1).symm)
 have r:=aog ws b hb qv.length;exact cW z (cW hl (Nat.mul_le_mul_right _ r))
def ayw{qv:LL9}{as ws:List Int}(hl:ws.length=qv.length)(h0:∀w∈ws,0<=w):stn qv as ws []=ws:=by
 apply lR;intro i
 by_cases hi:i<qv.length
 ·have hk:i<ws.length:=by omega
  unfold stn;rw[aX,iC hi,aF hk];show ZZ ((((ws.getD ((i:Nat):Int).toNat 0).toNat+0:Nat):Int)-((0:Nat):Int))=ZZ ws[i];rw[dZ,aU,aF hk];have:=h0 ws[i] (dJ hk);show ZZ (((ws[i].toNat+0:Nat):Int)-((0:Nat):Int))=_
  congr 1
  omega
 ·rw[gD (by rw[yo];omega),gD (by omega)]
def U(n a L d:Int):Int:=(L+n-1-(d-a) % n) / n
def awy{x n:Int}(hn:0<n):(x+1) / n=x / n+if x % n=n-1 then 1 else 0:=by
 have h1:=iG x (by omega:n≠0)
 have h2:=fH x hn;have h3:=pO x n;split
 ·rename_i h;exact((uZ hn (r:=0) (q:=x / n+1)).mpr ⟨by rw[qH,sS];omega,by omega,hn⟩).1
 ·rename_i h;rw[uU];exact((uZ hn (r:=x % n+1) (q:=x / n)).mpr ⟨by omega,by omega,by omega⟩).1
def asz{n a L d:Int}(hn:0<n)(d0:0<=d)(d1:d<n):(L+n-1-(d-a) % n) % n=n-1↔d=(a+L) % n:=by
 have s0:=iG (a+L) (by omega:n≠0)
 have s1:=fH (a+L) hn;have e1:=pO (a+L) n;have e2:=pO (d-a) n;have ex:L+n-1-(d-a) % n=((a+L) % n-d-1)+n*((a+L) / n+(d-a) / n+1):=by
  rw[qH,qH,sS];omega
 rw[ex,Int.add_mul_emod_self_left];generalize (a+L) % n=s at s0 s1;constructor
 ·intro h;rcases Int.lt_trichotomy s d with q |q |q
  ·have:(s-d-1) % n=s-d-1+n:=by
    rw[<-qR];exact fO (by omega) (by omega)
   omega
  ·exact q.symm
  ·have:(s-d-1) % n=s-d-1:=fO (by omega) (by omega)
   omega
 ·intro h;subst h;have:(d-d-1) % n=d-d-1+n:=by
   rw[<-qR];exact fO (by omega) (by omega)
  omega
def a5i{n a L d:Int}(hn:0<n)(d0:0<=d)(d1:d<n):U n a (L+1) d=U n a L d+if d=(a+L) % n then 1 else 0:=by
 unfold U;rw[show L+1+n-1-(d-a) % n=(L+n-1-(d-a) % n)+1 by omega,awy hn]
 by_cases h:d=(a+L) % n
 ·rw[if_pos ((asz hn d0 d1).mpr h),if_pos h]
 ·rw[if_neg (λz=>h ((asz hn d0 d1).mp z)),if_neg h]
def afx(n:Nat)(a L:Int):List Int:=(bW n).map λd=>U n a L (d:Nat)
def akm(n:Nat)(a L:Int):(afx n a L).length=n:=by simp[afx]
def aia{n:Nat}{a L:Int}(h1:1<=n)(h6:n<=6):aas [.val (.int (n:Nat)),.val (.int a),.val (.int L)]=ZZ (.ok (.fr ((afx n a L).map D.int)),[.val (.int (n:Nat)),.val (.int a),.val (.int L)]):=by
 have hb:n<4611686018427387904:=by omega
 have loop:=aen (b:=ir 4) (g:=ae4) (λi ρ=>∃o1 o2,ρ=[.val (.int (n:Nat)),.val (.int a),.val (.int L),.own ZY (((bW i).map λd=>U n a L (d:Nat)).map D.int),o1,o2])
  (l:=lu 0 n) (ρ:=[.val (.int (n:Nat)),.val (.int a),.val (.int L),.own ZY [],.emp,.emp]) 0 ⟨.emp,.emp,rfl⟩ ?_
 ·obtain⟨ρ',e,o1,o2,rfl⟩:=loop;have hl:(lu 0 n).length=n:=by simp[lu]
  rw[hl,kZ] at e;simp[-jM,aas,alx,hb,e,afx]
 ·rintro i d ρ hd ⟨o1,o2,rfl⟩
  rw[kZ] at *;unfold lu at hd;rw[aX] at hd;have hi:i<n:=by
   rcases lW i n with q |q
   ·exact q
   ·rw[gD (by simpa using q)] at hd
    cases hd
  rw[iC hi] at hd;cases hd;have hn':(0:Int)<(n:Nat):=by omega
  have f1:∀x:Int,fMod x (n:Nat)=ZZ (x % (n:Nat)):=λx=>by unfold fMod;rw[if_pos hn']
  have f2:∀x:Int,fDiv x (n:Nat)=ZZ (x / (n:Nat)):=λx=>by unfold fDiv;rw[if_pos ⟨hn',by omega⟩]
  have hc:((bW i).map λd=>U n a L (d:Nat)).length<capS:=by rw[aL,jW];unfold capS;omega
  have es:((bW (i+1)).map λd=>U n a L (d:Nat))=((bW i).map λd=>U n a L (d:Nat))++[U n a L (i:Nat)]:=by rw[mQ,lG];rfl
  have e0:(0:Int)+(i:Nat)=(i:Nat):=by omega
  refine⟨_,[.val (.int (n:Nat)),.val (.int a),.val (.int L),.own ZY (((bW (i+1)).map λd=>U n a L (d:Nat)).map D.int),.val (.int (0+(i:Nat))),.val (.int ((((i:Nat):Int)-a) % (n:Nat)))],rfl,.inl ?_,_,_,rfl⟩
  rw[es,e0];generalize ((bW i).map λd=>U n a L (d:Nat))=Z at hc
  have hc':Z.length<capS:=hc;simp[ae4,f1,f2,hc',U]
theorem au0{qv:LL9}(h:Hs qv){x:Int}(x0:0<=x)(x1:x<(qv.length:Int))(d:Int):∀(m:Nat) {as:List Int},Arr qv as->arv qv d as (aD m x)=us qv as x d m
 | 0,as,_=>rfl
 |m+1,as,ha=>by
  rw[dH,ams h ha x0 x1];show(if led qv as x=d then 1 else 0)+arv qv d (gone qv as x) (aD m x)=_
  rw[au0 h x0 x1 d m (aej h ha x0 x1)]
def prs(r:List Int)(a L:Int):List (Int×Int):=(bW r.length).map λk=>(r.getD k 0,U r.length a L (k:Nat))
def avl(f g:Nat->Int)(k0:Nat)(c:Int):∀n,(∀k,k<n->f k=g k+if k=k0 then c else 0)->k0<n->((bW n).map f).sum=((bW n).map g).sum+c:=λn=>by
 have aux:∀n,(∀k,k<n->f k=g k+if k=k0 then c else 0)->((bW n).map f).sum=((bW n).map g).sum+if k0<n then c else 0:=λn=>by
  induction n with
  |zero=>intro _;rfl
  |succ n ih=>
   intro hk;rw[mQ,lG,lG,yI,yI,ih λk hk'=>hk k (by omega)]
   have:=hk n (by omega)
   simp only[bC,rF,dD,List.sum_nil];rw[this]
   by_cases q:n=k0
   ·subst q;rw[if_pos rfl,if_neg (by omega),if_pos (by omega)]
    omega
   ·rw[if_neg q]
    by_cases q2:k0<n
    ·rw[if_pos q2,if_pos (by omega)];omega
    ·rw[if_neg q2,if_neg (by omega)];omega
 intro hk h0;rw[aux n hk,if_pos h0]
theorem aq7{qv:LL9}(h:Hs qv){as:List Int}(ha:Arr qv as){x:Int}(x0:0<=x)(x1:x<(qv.length:Int))(d:Int):∀m:Nat,((us qv as x d m:Nat):Int)=((prs (dr qv x) (ar as x) (m:Int)).map λp=>if p.1=d then p.2 else 0).sum
 | 0=>by
  have hw:=(h.dr x0 x1).1;show(0:Int)=_;unfold prs;rw[jM]
  symm
  have z:∀k∈List.range (dr qv x).length,((λp:Int×Int=>if p.1=d then p.2 else 0)∘λk:Nat=>((dr qv x).getD k 0,U (dr qv x).length (ar as x) ((0:Nat):Int) (k:Nat))) k=0:=λk hk=>by
   have hk:=iJ.mp hk;show(if (dr qv x).getD k 0=d then U (dr qv x).length (ar as x) 0 (k:Nat) else 0)=0
   have b0:=iG ((k:Int)-ar as x) (show((dr qv x).length:Int)≠0 by omega)
   have b1:=fH ((k:Int)-ar as x) (show(0:Int)<((dr qv x).length:Int) by omega)
   have:U (dr qv x).length (ar as x) 0 (k:Nat)=0:=Int.ediv_eq_zero_of_lt (by omega) (by omega)
   rw[this];split <;> rfl
  rw[vN z];generalize bW (dr qv x).length=l
  induction l with
  |nil=>rfl
  |cons y l ih=>rw[bC,dD,ih];rfl
 |m+1=>by
  have ih:=aq7 h ha x0 x1 d m;have hw:=(h.dr x0 x1).1;have b0:=iG (ar as x+(m:Int)) (show((dr qv x).length:Int)≠0 by omega)
  have b1:=fH (ar as x+(m:Int)) (show(0:Int)<((dr qv x).length:Int) by omega)
  show((us qv as x d m+(if (dr qv x).getD ((ar as x+(m:Int)) % ((dr qv x).length:Int)).toNat 0=d then 1 else 0):Nat):Int)=_
  rw[jO,ih];unfold prs;rw[jM,jM]
  symm
  rw[avl _ ((λp:Int×Int=>if p.1=d then p.2 else 0)∘λk:Nat=>((dr qv x).getD k 0,U (dr qv x).length (ar as x) ((m:Nat):Int) (k:Nat))) ((ar as x+(m:Int)) % ((dr qv x).length:Int)).toNat (if (dr qv x).getD ((ar as x+(m:Int)) % ((dr qv x).length:Int)).toNat 0=d then 1 else 0)]
  ·split <;> rfl
  ·intro k hk;show(if (dr qv x).getD k 0=d then U (dr qv x).length (ar as x) ((m+1:Nat):Int) (k:Nat) else 0)=(if (dr qv x).getD k 0=d then U (dr qv x).length (ar as x) ((m:Nat):Int) (k:Nat) else 0)+_
   have us:=a5i (n:=((dr qv x).length:Int)) (a:=ar as x) (L:=(m:Int)) (d:=(k:Int)) (by omega) (by omega) (by omega)
   rw[jO];show(if (dr qv x).getD k 0=d then U (dr qv x).length (ar as x) ((m:Int)+1) (k:Nat) else 0)=_
   rw[us]
   by_cases q:k=((ar as x+(m:Int)) % ((dr qv x).length:Int)).toNat
   ·have q':(k:Int)=(ar as x+(m:Int)) % ((dr qv x).length:Int):=by omega
    rw[if_pos q,if_pos q',<-q];split <;> omega
   ·have q':¬(k:Int)=(ar as x+(m:Int)) % ((dr qv x).length:Int):=by omega
    rw[if_neg q,if_neg q'];split <;> omega
  ·omega
def stp(p:List Int×List Int)(q:Int×Int):List Int×List Int:=if 0<=q.1 then (p.1.set q.1.toNat (p.1.getD q.1.toNat 0+q.2),p.2) else (p.1,p.2.set (-q.1-1).toNat (p.2.getD (-q.1-1).toNat 0+q.2))
def aaq(l:List Int)(i j:Nat)(v:Int)(hi:i<l.length):(l.set i v).getD j 0=if i=j then v else l.getD j 0:=by
 rw[aU,bJ]
 by_cases e:i=j
 ·subst e;rw[if_pos rfl,if_pos hi,if_pos rfl];rfl
 ·rw[if_neg e,if_neg e,<-aU]
theorem ai8{n:Nat}:∀(ps:List (Int×Int)) (st gt:List Int),(∀p∈ps,-3<=p.1/\p.1<(n:Int))->st.length=n->gt.length=3 ->
  (ps.foldl stp (st,gt)).1.length=n/\(ps.foldl stp (st,gt)).2.length=3/\(∀i,i<n->(ps.foldl stp (st,gt)).1.getD i 0=st.getD i 0+(ps.map λp=>if p.1=(i:Int) then p.2 else 0).sum) /\
  ∀i,i<3->(ps.foldl stp (st,gt)).2.getD i 0=gt.getD i 0+(ps.map λp=>if p.1 = -1-(i:Int) then p.2 else 0).sum
 | [],st,gt,_,h1,h2=>⟨h1,h2,λi _=>by simp,λi _=>by simp⟩
 | (d,t)::ps,st,gt,hp,h1,h2=>by
  have hd:=hp (d,t) (aZ ..);have hd1 : -3<=d:=hd.1;have hd2:d<(n:Int):=hd.2;rw[pK]
  by_cases q:0<=d
  ·have e:stp (st,gt) (d,t)=(st.set d.toNat (st.getD d.toNat 0+t),gt):=if_pos q;rw[e];obtain⟨i1,i2,i3,i4⟩:=ai8 (n:=n) ps (st.set d.toNat (st.getD d.toNat 0+t)) gt (λp hp'=>hp p (aR _ hp')) (by rw[cC];exact h1) h2
   refine⟨i1,i2,λi hi=>?_,λi hi=>?_⟩
   ·rw[i3 i hi,aaq _ _ _ _ (by omega),bC,dD]
    by_cases z:d.toNat=i
    ·rw[if_pos z,if_pos (show d=(i:Int) by omega),z];omega
    ·rw[if_neg z,if_neg (show ¬d=(i:Int) by omega)];omega
   ·rw[i4 i hi,bC,dD,if_neg (show ¬d = -1-(i:Int) by omega)];omega
  ·have e:stp (st,gt) (d,t)=(st,gt.set (-d-1).toNat (gt.getD (-d-1).toNat 0+t)):=if_neg q;rw[e];obtain⟨i1,i2,i3,i4⟩:=ai8 (n:=n) ps st (gt.set (-d-1).toNat (gt.getD (-d-1).toNat 0+t)) (λp hp'=>hp p (aR _ hp')) h1 (by rw[cC];exact h2)
   refine⟨i1,i2,λi hi=>?_,λi hi=>?_⟩
   ·rw[i3 i hi,bC,dD,if_neg (show ¬d=(i:Int) by omega)];omega
   ·rw[i4 i hi,aaq _ _ _ _ (by omega),bC,dD]
    by_cases z:(-d-1).toNat=i
    ·rw[if_pos z,if_pos (show d = -1-(i:Int) by omega),z];omega
    ·rw[if_neg z,if_neg (show ¬d = -1-(i:Int) by omega)];omega
def af6{a b:List Int}(hl:a.length=b.length)(h:∀i,i<a.length->a.getD i 0=b.getD i 0):a=b:=by
 apply lR;intro i
 by_cases hi:i<a.length
 ·have:=h i hi;rw[aU,aU,aF hi,aF (by omega)] at this
  rw[aF hi,aF (by omega)]
  exact congrArg ZZ this
 ·rw[gD (by omega),gD (by omega)]
section
variable{qv:LL9}(h:Hs qv){as:List Int}(ha:Arr qv as){ws s:List Int}(hs:InR qv s){x:Int}(x0:0<=x)(x1:x<(qv.length:Int))(m:Nat)
include h ha hs x0 x1
theorem a1u:InR qv (s++aD m x):=hs.append λy hy=>by rw[(nF.mp hy).2];exact⟨x0,x1⟩
theorem ahk(y:Int):(s++aD m x).count y=s.count y+if x=y then m else 0:=by
 rw[gW,uY]
 by_cases e:x=y
 ·subst e;simp
 ·have:(x==y)=ZW:=beq_eq_false_iff_ne.mpr e;rw[this,if_neg e];rfl
theorem a4g:(go qv as s).set x.toNat ((ar (go qv as s) x+(m:Int)) % ((dr qv x).length:Int))=go qv as (s++aD m x):=by
 have hga:=afp h s ha hs;have hin:=a1u h ha hs x0 x1 m;have hg2:=afp h _ ha hin;have hl:=hga.len;apply af6
 ·rw[cC,hl,hg2.len]
 ·intro i hi;rw[cC] at hi;rw[aaq _ _ _ _ (by omega)]
  have e2:=aqr h (y:=(i:Int)) (by omega) (by omega) _ ha hin
  have e1:=aqr h (y:=(i:Int)) (by omega) (by omega) s ha hs
  rw[ahk h ha hs x0 x1] at e2;unfold ar at e1 e2;rw[dZ] at e1 e2;rw[e2]
  by_cases z:x.toNat=i
  ·have zx:x=(i:Int):=by omega
   rw[if_pos z,if_pos zx];have e3:=aqr h x0 x1 s ha hs;rw[e3,xF];unfold ar;rw[zx,dZ,jO]
   congr 1
   omega
  ·rw[if_neg z,if_neg (show ¬x=(i:Int) by omega),e1]
   rfl
theorem aym:(tal qv.length s).set x.toNat ((tal qv.length s).getD x.toNat 0+(m:Int))=tal qv.length (s++aD m x):=by
 apply af6
 ·rw[cC,ac2,ac2]
 ·intro i hi;rw[cC,ac2] at hi;rw[aaq _ _ _ _ (by rw[ac2];omega)]
  have g:∀t:List Int,(tal qv.length t).getD i 0=((t.count (i:Int):Nat):Int):=λt=>by rw[aU,ayo _ hi];rfl
  rw[g,g,ahk h ha hs x0 x1]
  by_cases z:x.toNat=i
  ·rw[if_pos z,if_pos (show x=(i:Int) by omega),z,g];omega
  ·rw[if_neg z,if_neg (show ¬x=(i:Int) by omega)];rfl
theorem awu:(prs (dr qv x) (ar (go qv as s) x) (m:Int)).foldl stp ((stn qv as ws s).set x.toNat ((stn qv as ws s).getD x.toNat 0-(m:Int)),gts qv as s)=(stn qv as ws (s++aD m x),gts qv as (s++aD m x)):=by
 have hga:=afp h s ha hs;obtain⟨i1,i2,i3,i4⟩:=ai8 (n:=qv.length) (prs (dr qv x) (ar (go qv as s) x) (m:Int)) ((stn qv as ws s).set x.toNat ((stn qv as ws s).getD x.toNat 0-(m:Int))) (gts qv as s) (λp hp=>by
  obtain⟨k,hk,rfl⟩:=fW.mp hp;have hk:=iJ.mp hk;refine(h.dr x0 x1).2.2 _ ?_;show(dr qv x).getD k 0∈_;rw[aU,aF hk];exact dJ hk) (by rw[cC,yo]) rfl
 have ea:∀d,arv qv d as (s++aD m x)=arv qv d as s+us qv (go qv as s) x d m:=λd=>by rw[vy,au0 h x0 x1 d m hga]
 refine Prod.ext ?_ ?_
 ·refine af6 (by rw[i1,yo]) λi hi=>?_
  rw[i1] at hi;have g:=agc (qv:=qv) as ws s (x:=(i:Int)) (by omega) (by omega)
  have g2:=agc (qv:=qv) as ws (s++aD m x) (x:=(i:Int)) (by omega) (by omega)
  rw[dZ] at g g2;show(lA stp _ _).1.getD i 0=(stn qv as ws (s++aD m x)).getD i 0;rw[i3 i hi,aaq _ _ _ _ (by rw[yo];omega),<-aq7 h hga x0 x1,g2,ea,ahk h ha hs x0 x1]
  by_cases z:x.toNat=i
  ·rw[if_pos z,if_pos (show x=(i:Int) by omega),z,g];omega
  ·rw[if_neg z,if_neg (show ¬x=(i:Int) by omega),g];omega
 ·refine af6 (by rw[i2];rfl) λi hi=>?_
  rw[i2] at hi;show(lA stp _ _).2.getD i 0=(gts qv as (s++aD m x)).getD i 0;rw[i4 i hi,<-aq7 h hga x0 x1];have:i=0∨i=1∨i=2:=by omega
  unfold gts;rw[ea,ea,ea];rcases this with rfl |rfl |rfl
  ·show(arv qv (-1) as s:Int)+((us qv (go qv as s) x (-1) m:Nat):Int)=((arv qv (-1) as s+us qv (go qv as s) x (-1) m:Nat):Int);omega
  ·show(arv qv (-2) as s:Int)+((us qv (go qv as s) x (-2) m:Nat):Int)=((arv qv (-2) as s+us qv (go qv as s) x (-2) m:Nat):Int);omega
  ·show(arv qv (-3) as s:Int)+((us qv (go qv as s) x (-3) m:Nat):Int)=((arv qv (-3) as s+us qv (go qv as s) x (-3) m:Nat):Int);omega
end
def fsM(d:D):List (Str×(Nat ⊕ D)):=[("turning", .inl 3),("standing", .inl 4),("gone", .inl 5),("left", .inl 6),("house", .inr d)]
def fv_h(d:D)(r:Ro):mFV "Crowd" 0 "house" (.box "Crowd" (fsM d)::r)=ZZ (.ok d,.box "Crowd" (fsM d)::r):=by rfl
def lk_t(d:D)(a b:Sl)(l:List D)(r:Ro):mLnk "Crowd" 0 "turning" 3 (.box "Crowd" (fsM d)::a::b::.own (ZZ 3) l::r)=ZZ (.ok (),.box "Crowd" (fsM d)::a::b::.own (ZZ 3) l::r):=by rfl
def lk_s(d:D)(a b c:Sl)(l:List D)(r:Ro):mLnk "Crowd" 0 "standing" 4 (.box "Crowd" (fsM d)::a::b::c::.own (ZZ 4) l::r)=ZZ (.ok (),.box "Crowd" (fsM d)::a::b::c::.own (ZZ 4) l::r):=by rfl
def lk_g(d:D)(a b c e:Sl)(l:List D)(r:Ro):mLnk "Crowd" 0 "gone" 5 (.box "Crowd" (fsM d)::a::b::c::e::.own (ZZ 5) l::r)=ZZ (.ok (),.box "Crowd" (fsM d)::a::b::c::e::.own (ZZ 5) l::r):=by rfl
def lk_l(d:D)(a b c e f:Sl)(l:List D)(r:Ro):mLnk "Crowd" 0 "left" 6 (.box "Crowd" (fsM d)::a::b::c::e::f::.own (ZZ 6) l::r)=ZZ (.ok (),.box "Crowd" (fsM d)::a::b::c::e::f::.own (ZZ 6) l::r):=by rfl
def aqe{n:Nat}{d t:Int}(hd1 : -3<=d)(hd2:d<(n:Int)){st gt:List Int}(h1:st.length=n)(h2:gt.length=3)(hd:D)(a b c f g u:Sl) :
  kj [.box "Crowd" (fsM hd),a,b,c,.own (ZZ 4) (st.map D.int),.own (ZZ 5) (gt.map D.int),f,g,u,.val (.int d),.val (.int t)]=ZZ (.nx,[.box "Crowd" (fsM hd),a,b,c,.own (ZZ 4) ((stp (st,gt) (d,t)).1.map D.int),.own (ZZ 5) ((stp (st,gt) (d,t)).2.map D.int),f,g,u,.val (.int d),.val (.int t)]):=by
 by_cases q:0<=d
 ·have e:stp (st,gt) (d,t)=(st.set d.toNat (st.getD d.toNat 0+t),gt):=if_pos q;rw[e];have ix:ixN st.length d=ZZ d.toNat:=ae5 q (by omega)
  have hlt:d.toNat<st.length:=by omega
  have hg:st[d.toNat]? = ZZ (st.getD d.toNat 0):=by rw[aU,aF hlt];rfl
  have m3:(st.map D.int).set d.toNat (.int (st.getD d.toNat 0+t))=(st.set d.toNat (st.getD d.toNat 0+t)).map D.int:=by rw[nG]
  show _=ZZ (Fl.nx,[Sl.box "Crowd" (fsM hd),a,b,c,.own (ZZ 4) ((st.set d.toNat (st.getD d.toNat 0+t)).map D.int),.own (ZZ 5) (gt.map D.int),f,g,u,.val (.int d),.val (.int t)]);rw[<-m3];generalize st.getD d.toNat 0=v at *;have hg2:(st.map D.int)[d.toNat]? = ZZ (.int v):=by rw[aX,hg];rfl
  have ix2:ixN (st.map D.int).length d=ZZ d.toNat:=by rw[aL];exact ix
  generalize st.map D.int=sm at *;simp[kj,q,dSubAugF,lk_s,ix2,hg2]
 ·have e:stp (st,gt) (d,t)=(st,gt.set (-d-1).toNat (gt.getD (-d-1).toNat 0+t)):=if_neg q;rw[e];have ix:ixN gt.length (-d-1)=ZZ (-d-1).toNat:=ae5 (by omega) (by omega)
  have hlt:(-d-1).toNat<gt.length:=by omega
  have hg:gt[(-d-1).toNat]? = ZZ (gt.getD (-d-1).toNat 0):=by rw[aU,aF hlt];rfl
  have m3:(gt.map D.int).set (-d-1).toNat (.int (gt.getD (-d-1).toNat 0+t))=(gt.set (-d-1).toNat (gt.getD (-d-1).toNat 0+t)).map D.int:=by rw[nG]
  show _=ZZ (Fl.nx,[Sl.box "Crowd" (fsM hd),a,b,c,.own (ZZ 4) (st.map D.int),.own (ZZ 5) ((gt.set (-d-1).toNat (gt.getD (-d-1).toNat 0+t)).map D.int),f,g,u,.val (.int d),.val (.int t)]);rw[<-m3];generalize gt.getD (-d-1).toNat 0=v at *;have hg2:(gt.map D.int)[(-d-1).toNat]? = ZZ (.int v):=by rw[aX,hg];rfl
  have ix2:ixN (gt.map D.int).length (-d-1)=ZZ (-d-1).toNat:=by rw[aL];exact ix
  generalize gt.map D.int=gm at *;generalize hkk : -d-1=kk at *;simp[kj,q,dSubAugF,lk_g,ix2,hg2,hkk]
theorem alq{n:Nat}(hd:D)(a b c f g u:Sl):∀(ps:List (Int×Int)) (st gt:List Int) (o1 o2:Sl),(∀p∈ps,-3<=p.1/\p.1<(n:Int))->st.length=n->gt.length=3 ->
  ∃q1 q2,forD (bTup 2 (qj (ir 9) (qj (ir 10) bNil))) kj (ps.map λp=>.tup [.int p.1,.int p.2]) [.box "Crowd" (fsM hd),a,b,c,.own (ZZ 4) (st.map D.int),.own (ZZ 5) (gt.map D.int),f,g,u,o1,o2]=ZZ (.nx,[.box "Crowd" (fsM hd),a,b,c,.own (ZZ 4) ((ps.foldl stp (st,gt)).1.map D.int),.own (ZZ 5) ((ps.foldl stp (st,gt)).2.map D.int),f,g,u,q1,q2])
 | [],st,gt,o1,o2,_,_,_=>⟨o1,o2,rfl⟩
 | (d,t)::ps,st,gt,o1,o2,hp,h1,h2=>by
  have hd':=hp (d,t) (aZ ..);have e:=aqe (n:=n) (d:=d) (t:=t) hd'.1 hd'.2 h1 h2 hd a b c f g u;obtain⟨l1,l2,_⟩:=ai8 (n:=n) [(d,t)] st gt (λp hp'=>hp p (by rw[dF] at hp';rw[hp'];exact aZ ..)) h1 h2
  have l1:(stp (st,gt) (d,t)).1.length=n:=l1;have l2:(stp (st,gt) (d,t)).2.length=3:=l2;obtain⟨q1,q2,e2⟩:=alq (n:=n) hd a b c f g u ps (stp (st,gt) (d,t)).1 (stp (st,gt) (d,t)).2 (.val (.int d)) (.val (.int t)) (λp hp'=>hp p (aR _ hp')) l1 l2
  refine⟨q1,q2,?_⟩;rw[pK,bC,ab2];have ez:((stp (st,gt) (d,t)).1,(stp (st,gt) (d,t)).2)=stp (st,gt) (d,t):=rfl;rw[ez] at e2;generalize stp (st,gt) (d,t)=Z at *;generalize (ps.foldl stp Z).1.map D.int=F1 at *;generalize (ps.foldl stp Z).2.map D.int=F2 at *;generalize Z.1.map D.int=z1 at *;generalize Z.2.map D.int=z2 at *;generalize st.map D.int=sm at *;generalize gt.map D.int=gm at *;simp[e,e2]
def aya(r:List Int)(a L:Int):ac0 (r.map D.int) ((afx r.length a L).map D.int)=(prs r a L).map λp=>.tup [.int p.1,.int p.2]:=by
 unfold ac0 prs afx;apply lR;intro i;rw[pJ]
 by_cases hi:i<r.length
 ·simp[hi]
 ·simp[hi]
section
variable{qv:LL9}(h:Hs qv){as:List Int}(ha:Arr qv as){ws s:List Int}(hs:InR qv s){x:Int}(x0:0<=x)(x1:x<(qv.length:Int))(m:Nat)
include h ha hs x0 x1
theorem alp:gj [.box "Crowd" (fsM (hD qv)),.val (.int x),.val (.int (m:Int)),.own (ZZ 3) ((go qv as s).map D.int),.own (ZZ 4) ((stn qv as ws s).map D.int),.own (ZZ 5) ((gts qv as s).map D.int),.own (ZZ 6) ((tal qv.length s).map D.int)] =
  ZZ (.ok (.v .non),[.box "Crowd" (fsM (hD qv)),.val (.int x),.val (.int (m:Int)),.own (ZZ 3) ((go qv as (s++aD m x)).map D.int),.own (ZZ 4) ((stn qv as ws (s++aD m x)).map D.int),.own (ZZ 5) ((gts qv as (s++aD m x)).map D.int),.own (ZZ 6) ((tal qv.length (s++aD m x)).map D.int)]):=by
 have hga:=afp h s ha hs;obtain⟨w1,w2,w3⟩:=h.dr x0 x1;have e1:=aht x0 x1;have e2:=api h hga x0 x1;have e3:=aia (n:=(dr qv x).length) (a:=ar (go qv as s) x) (L:=(m:Int)) w1 w2;have e4:=atw h hga x0 x1 (ar (go qv as s) x+(m:Int));have i3:ixN ((go qv as s).map D.int).length x=ZZ x.toNat:=by rw[aL];exact ae5 x0 (by rw[hga.len];exact x1)
 have i4:ixN ((stn qv as ws s).map D.int).length x=ZZ x.toNat:=by rw[aL];exact ae5 x0 (by rw[yo];exact x1)
 have i6:ixN ((tal qv.length s).map D.int).length x=ZZ x.toNat:=by rw[aL];exact ae5 x0 (by rw[ac2];exact x1)
 have g4:((stn qv as ws s).map D.int)[x.toNat]? = ZZ (.int ((stn qv as ws s).getD x.toNat 0)):=by rw[aX,aU,aF (by rw[yo];omega)];rfl
 have g6:((tal qv.length s).map D.int)[x.toNat]? = ZZ (.int ((tal qv.length s).getD x.toNat 0)):=by rw[aX,aU,aF (by rw[ac2];omega)];rfl
 have m3:((go qv as s).map D.int).set x.toNat (.int ((ar (go qv as s) x+(m:Int)) % ((dr qv x).length:Int)))=(go qv as (s++aD m x)).map D.int:=by rw[<-a4g h ha hs x0 x1 m,nG]
 have m6:((tal qv.length s).map D.int).set x.toNat (.int ((tal qv.length s).getD x.toNat 0+(m:Int)))=(tal qv.length (s++aD m x)).map D.int:=by rw[<-aym h ha hs x0 x1 m,nG]
 have m4:((stn qv as ws s).map D.int).set x.toNat (.int ((stn qv as ws s).getD x.toNat 0-(m:Int)))=((stn qv as ws s).set x.toNat ((stn qv as ws s).getD x.toNat 0-(m:Int))).map D.int:=by rw[nG]
 have hf:=awu (ws:=ws) h ha hs x0 x1 m;obtain⟨q1,q2,e5⟩:=alq (n:=qv.length) (hD qv) (.val (.int x)) (.val (.int (m:Int))) (.own (ZZ 3) ((go qv as (s++aD m x)).map D.int)) (.own (ZZ 6) ((tal qv.length (s++aD m x)).map D.int)) (.val (.tup ((dr qv x).map D.int))) (.val (.lst ((afx (dr qv x).length (ar (go qv as s) x) (m:Int)).map D.int))) (prs (dr qv x) (ar (go qv as s) x) (m:Int)) ((stn qv as ws s).set x.toNat ((stn qv as ws s).getD x.toNat 0-(m:Int))) (gts qv as s) .emp .emp (λp hp=>by
  obtain⟨k,hk,rfl⟩:=fW.mp hp;have hk:=iJ.mp hk;refine w3 _ ?_;show(dr qv x).getD k 0∈_;rw[aU,aF hk];exact dJ hk) (by rw[cC,yo]) rfl
 rw[hf,<-aya] at e5;have hzl:(dr qv x).length<=((afx (dr qv x).length (ar (go qv as s) x) (m:Int)).map D.int).length:=by rw[aL,akm];exact aP _
 have hdm:((dr qv x).map D.int).length=(dr qv x).length:=aL ..
 rw[<-m4,<-m3,<-m6] at e5;rw[<-m3,<-m6];generalize (afx (dr qv x).length (ar (go qv as s) x) (m:Int)).map D.int=uu at *;generalize (dr qv x).map D.int=dm at *;generalize (stn qv as ws s).getD x.toNat 0=sv at *;generalize (tal qv.length s).getD x.toNat 0=tv at *;generalize (stn qv as ws (s++aD m x)).map D.int=sm2 at *;generalize (stn qv as ws s).map D.int=sm at *;generalize (gts qv as (s++aD m x)).map D.int=gm2 at *;generalize (gts qv as s).map D.int=gm at *;generalize (tal qv.length s).map D.int=tm at *;generalize (go qv as s).map D.int=am at *;generalize ar (go qv as s) x=aa at *;simp only[hD] at *;simp[gj,g_Crowd_let_leave,fv_h,e1,hdm,lk_t,e2,e3,e4,dSubF,i3,dSubAugF,lk_l,lk_s,i6,g6,i4,g4,hzl,e5]
end
def fsC(d:D):List (Str×(Nat ⊕ D)):=[("house", .inr d),("turning", .inl 1000),("standing", .inl 1001),("gone", .inl 1002),("left", .inl 1003)]
def fr9(h A W o4:Sl)(d:D)(l1 l2 l3 l4:List D):Ro:=[h,A,W,.box "Crowd" (fsC d),o4,.own (ZZ 1000) l1,.own (ZZ 1001) l2,.own (ZZ 1002) l3,.own (ZZ 1003) l4]
def az6{h A W:Sl}{d:D}{x m:Int}{l1 l2 l3 l4 r1 r2 r3 r4:List D}{ms:M (List (Option D))}(hm:ms (fr9 h A W (.val (.int x)) d l1 l2 l3 l4)=ZZ (.ok [ZY,ZZ (.int m)],fr9 h A W (.val (.int x)) d l1 l2 l3 l4))
  (e:gj [.box "Crowd" (fsM d),.val (.int x),.val (.int m),.own (ZZ 3) l1,.own (ZZ 4) l2,.own (ZZ 5) l3,.own (ZZ 6) l4]=ZZ (.ok (.v .non),[.box "Crowd" (fsM d),.val (.int x),.val (.int m),.own (ZZ 3) r1,.own (ZZ 4) r2,.own (ZZ 5) r3,.own (ZZ 6) r4])) :
  alk "Crowd" 3 "let_leave" ["turning","standing","gone","left"] ["house"] [5,6,7,8] gj [ZZ 4,ZY] ms (fr9 h A W (.val (.int x)) d l1 l2 l3 l4)=ZZ (.ok (.v .non),fr9 h A W (.val (.int x)) d r1 r2 r3 r4):=by
 have e0:mIsB "Crowd" 3 "let_leave" (fr9 h A W (.val (.int x)) d l1 l2 l3 l4)=ZZ (.ok (fsC d),fr9 h A W (.val (.int x)) d l1 l2 l3 l4):=rfl;unfold alk M.bind;rw[e0];dsimp only;rw[hm];dsimp only;rw[e0];dsimp only;rw[if_pos ⟨rfl,rfl,rfl⟩];show(match gj [.box "Crowd" (fsM d),.val (.int x),.val (.int m),.own (ZZ 3) l1,.own (ZZ 4) l2,.own (ZZ 5) l3,.own (ZZ 6) l4] with
  |some (Out.ok r,ps)=>ZZ (Out.ok r,putB (fr9 h A W (.val (.int x)) d l1 l2 l3 l4) [ZY,ZZ 4,ZY,ZZ 5,ZZ 6,ZZ 7,ZZ 8] ps)
  |_=>ZY)=_
 rw[e];rfl
def awe(h A W o:Sl)(d:D)(l1 l2 l3 l4:List D):mLnk "Crowd" 3 "standing" 6 (fr9 h A W o d l1 l2 l3 l4)=ZZ (.ok (),fr9 h A W o d l1 l2 l3 l4):=by rfl
def a73(h A W o:Sl)(d:D)(l1 l2 l3 l4:List D):mLnk "Crowd" 3 "turning" 5 (fr9 h A W o d l1 l2 l3 l4)=ZZ (.ok (),fr9 h A W o d l1 l2 l3 l4):=by rfl
def a75(h A W o:Sl)(d:D)(l1 l2 l3 l4:List D):mLnk "Crowd" 3 "gone" 7 (fr9 h A W o d l1 l2 l3 l4)=ZZ (.ok (),fr9 h A W o d l1 l2 l3 l4):=by rfl
def a74(h A W o:Sl)(d:D)(l1 l2 l3 l4:List D):mLnk "Crowd" 3 "left" 8 (fr9 h A W o d l1 l2 l3 l4)=ZZ (.ok (),fr9 h A W o d l1 l2 l3 l4):=by rfl
def a0l(h A W o:Sl)(d:D)(l1 l2 l3 l4:List D):(fr9 h A W o d l1 l2 l3 l4:List Sl)[4]? = ZZ o:=rfl
def awt(h A W o:Sl)(d:D)(l1 l2 l3 l4:List D):(fr9 h A W o d l1 l2 l3 l4:List Sl)[6]? = ZZ (.own (ZZ 1001) l2):=rfl
section
variable{qv:LL9}(h:Hs qv){as:List Int}(ha:Arr qv as){ws s:List Int}(A W:Sl)
include h ha
theorem ar3(hs:InR qv s){x:Int}(x0:0<=x)(x1:x<(qv.length:Int)) :
  aao (fr9 (.val (hD qv)) A W (.val (.int x)) (hD qv) ((go qv as s).map D.int) ((stn qv as ws s).map D.int) ((gts qv as s).map D.int) ((tal qv.length s).map D.int)) =
  ZZ (.nx,fr9 (.val (hD qv)) A W (.val (.int x)) (hD qv) ((go qv as (s++aD ((stn qv as ws s).getD x.toNat 0).toNat x)).map D.int) ((stn qv as ws (s++aD ((stn qv as ws s).getD x.toNat 0).toNat x)).map D.int) ((gts qv as (s++aD ((stn qv as ws s).getD x.toNat 0).toNat x)).map D.int) ((tal qv.length (s++aD ((stn qv as ws s).getD x.toNat 0).toNat x)).map D.int)):=by
 have e1:=apj (ns:=stn qv as ws s) x0 (by rw[yo];exact x1)
 have eL:=alp (ws:=ws) h ha hs x0 x1 ((stn qv as ws s).getD x.toNat 0).toNat
 by_cases q:0<(stn qv as ws s).getD x.toNat 0
 ·rw[show((((stn qv as ws s).getD x.toNat 0).toNat:Nat):Int)=(stn qv as ws s).getD x.toNat 0 by omega] at eL
  have eM:=az6 (h:=.val (hD qv)) (A:=A) (W:=W) (ms:=bw 4 (az (M.d (mOp gIx ((mLnk "Crowd" 3 "standing" 6).bind λ_=>dh 6 (gr 4)))) fu)) (by
   generalize (stn qv as ws s).getD x.toNat 0=v at *;generalize (stn qv as ws s).map D.int=sm at *;generalize (go qv as s).map D.int=am at *;generalize (gts qv as s).map D.int=gm at *;generalize (tal qv.length s).map D.int=tm at *;generalize hD qv=hh at *;simp[awe,a0l,awt,e1]) eL
  generalize s++aD ((stn qv as ws s).getD x.toNat 0).toNat x=s2 at *;generalize (stn qv as ws s).getD x.toNat 0=v at *;generalize (stn qv as ws s).map D.int=sm at *;generalize (go qv as s).map D.int=am at *;generalize (gts qv as s).map D.int=gm at *;generalize (tal qv.length s).map D.int=tm at *;generalize (stn qv as ws s2).map D.int=sm2 at *;generalize (go qv as s2).map D.int=am2 at *;generalize (gts qv as s2).map D.int=gm2 at *;generalize (tal qv.length s2).map D.int=tm2 at *;generalize hD qv=hh at *;simp[aao,awe,a0l,awt,e1,q,eM]
 ·rw[show((stn qv as ws s).getD x.toNat 0).toNat=0 by omega]
  rw[vM,cF]
  clear eL
  generalize (stn qv as ws s).getD x.toNat 0=v at *;generalize (stn qv as ws s).map D.int=sm at *;generalize (go qv as s).map D.int=am at *;generalize (gts qv as s).map D.int=gm at *;generalize (tal qv.length s).map D.int=tm at *;generalize hD qv=hh at *;simp[aao,awe,a0l,awt,e1,q]
omit ha in
theorem axe(hl:Lg qv as (wf ws) s)(hn:NN qv as (wf ws) s){x:Int}(x0:0<=x)(x1:x<(qv.length:Int)):∀m:Nat,s.count x+m<=wf ws x+arv qv x as s->Lg qv as (wf ws) (s++aD m x)/\NN qv as (wf ws) (s++aD m x)
 | 0,_=>by
  rw[vM,cF];exact⟨hl,hn⟩
 |m+1,hm=>by
  obtain⟨a,b⟩:=axe hl hn x0 x1 m (by omega)
  have c:(s++aD m x).count x<wf ws x+arv qv x as (s++aD m x):=by
   rw[vy,gW,List.count_replicate_self];omega
  have e:s++aD (m+1) x=(s++aD m x)++[x]:=by rw[List.replicate_succ',gB]
  rw[e];exact⟨a.snoc x0 x1 c,b.snoc c⟩
theorem ak0:∀(l s:List Int) (o4:Sl),(∀x∈l,0<=x/\x<(qv.length:Int))->Lg qv as (wf ws) s->NN qv as (wf ws) s->∃(e:List Int) (q4:Sl),(tagB o4=ZX->tagB q4=ZX)/\(e=[]->∀x∈l,¬0<(stn qv as ws s).getD x.toNat 0)/\Lg qv as (wf ws) (s++e)/\NN qv as (wf ws) (s++e) /\
  forD (ir 4) aao (l.map D.int) (fr9 (.val (hD qv)) A W o4 (hD qv) ((go qv as s).map D.int) ((stn qv as ws s).map D.int) ((gts qv as s).map D.int) ((tal qv.length s).map D.int)) =
  ZZ (.nx,fr9 (.val (hD qv)) A W q4 (hD qv) ((go qv as (s++e)).map D.int) ((stn qv as ws (s++e)).map D.int) ((gts qv as (s++e)).map D.int) ((tal qv.length (s++e)).map D.int))
 | [],s,o4,_,hl,hn=>⟨[],o4,id,(λ_ x hx=>by cases hx),by rw[cF];exact hl,by rw[cF];exact hn,by rw[cF];rfl⟩
 |x::l,s,o4,hx,hl,hn=>by
  obtain⟨x0,x1⟩:=hx x (aZ ..);have e1:=ar3 (ws:=ws) h ha A W hl.inR x0 x1;have g:=agc (qv:=qv) as ws s x0 x1;have hnx:=hn x x0 x1;obtain⟨l2,n2⟩:=axe h hl hn x0 x1 ((stn qv as ws s).getD x.toNat 0).toNat (by omega)
  obtain⟨e,q4,h4,c1,c2,c3,c4⟩:=ak0 l (s++aD ((stn qv as ws s).getD x.toNat 0).toNat x) (.val (.int x)) (λy hy=>hx y (aR _ hy)) l2 n2
  rw[gB] at c2 c3 c4;refine⟨List.replicate ((stn qv as ws s).getD x.toNat 0).toNat x++e,q4,λ_=>h4 rfl,λz y hy=>?_,c2,c3,?_⟩
  ·obtain⟨z1,z2⟩:=List.append_eq_nil_iff.mp z;have z3:((stn qv as ws s).getD x.toNat 0).toNat=0:=by
    have:=congrArg List.length z1;rw[dO] at this;exact this
   rcases bA.mp hy with rfl |hy
   ·omega
   ·have:=c1 z2 y hy;rw[z1,cF] at this;exact this
  ·rw[bC,ab2];generalize aD ((stn qv as ws s).getD x.toNat 0).toNat x=R at *;have eb:ir 4 (.int x) (fr9 (.val (hD qv)) A W o4 (hD qv) ((go qv as s).map D.int) ((stn qv as ws s).map D.int) ((gts qv as s).map D.int) ((tal qv.length s).map D.int))=ZZ (fr9 (.val (hD qv)) A W (.val (.int x)) (hD qv) ((go qv as s).map D.int) ((stn qv as ws s).map D.int) ((gts qv as s).map D.int) ((tal qv.length s).map D.int)):=rfl;rw[eb];dsimp only;rw[e1];exact c4
end
theorem apk(n:Nat):(aD n [D.int 0]).flatten=(aD n (0:Int)).map D.int:=by
 rw[wC]
 induction n with
 |zero=>rfl
 |succ n ih=>rw[dH,iW,ih,dH];rfl
structure Wk (n:Nat) (ws:List Int):Prop where
 len:ws.length=n
 ok:∀w∈ws,0<=w/\w<=100
def tupB(a b:Int):D->Bool
 |.tup l=>decide (a<=(l.length:Int))&&decide ((l.length:Int)<=b)
 |_=>ZW
theorem uy(d:D)(a b:Int):jg [.val d,.val (.int a),.val (.int b)]=ZZ (.ok (.v (.bl (tupB a b d))),[.val d,.val (.int a),.val (.int b)]):=by
 cases p:isTy .tuple d with
 |false=>
  rw[show tupB a b d=ZW by cases d with
   |tup l=>cases p
   |_=>rfl]
  simp[jg,vm,p]
 |true=>
  obtain⟨l,rfl⟩:∃l,d=.tup l:=by cases d with
   |tup l=>exact⟨l,rfl⟩
   |_=>cases p
  simp[jg,vm,p,tupB]
def arrB(qv:LL9):D->Bool
 |.tup l=>decide (l.length=qv.length)&&(l.zip qv).all λp=>jh 0 ((p.2.length:Int)-1) p.1
 |_=>ZW
theorem afn{qv:LL9}(h:Hs qv)(d:D):uo [.val (hD qv),.val d]=ZZ (.ok (.v (.bl (arrB qv d))),[.val (hD qv),.val d]):=by
 have e1:=uy d (qv.length:Int) (qv.length:Int);have hl3:=tu qv;have hm:=h.most;have no:tupB (qv.length:Int) (qv.length:Int) d=ZW->arrB qv d=ZW->uo [.val (hD qv),.val d]=ZZ (.ok (.v (.bl (arrB qv d))),[.val (hD qv),.val d]):=λq1 q2=>by
  rw[q1] at e1;rw[q2];simp only[hD] at *;simp[uo,adi,hl3,e1]
 cases d with
 |tup l=>
  by_cases hl:l.length=qv.length
  ·have hle:l.length<=(hDs qv).length:=by rw[tu];omega
   have comp:=ab8 (b:=bTup 2 (qj (ir 0) (qj (ir 1) bNil))) (mc:=ret ZX) (me:=ab5) (λj ys ρ=>∃o1 o2,ρ=[o1,o2]/\ys=(((l.zip qv).take j).map λp=>jh 0 ((p.2.length:Int)-1) p.1).map D.bl)
    (l:=ac0 l (hDs qv)) (ys:=[]) (ρ:=[.emp,.emp]) 0 ⟨.emp,.emp,rfl,rfl⟩ ?_
   ·obtain⟨ys,ρ',e6,o1,o2,rfl,rfl⟩:=comp;have hz:(ac0 l (hDs qv)).length=(l.zip qv).length:=by rw[aqw hle,mV];omega
    rw[hz,kZ,oX] at e6;have hc:((l.zip qv).map λp=>jh 0 ((p.2.length:Int)-1) p.1).length<=capS:=di (by rw[aL,mV];omega)
    have hb:=afb ((l.zip qv).map λp=>jh 0 ((p.2.length:Int)-1) p.1)
    have hall:((l.zip qv).map λp=>jh 0 ((p.2.length:Int)-1) p.1).all id=(l.zip qv).all λp=>jh 0 ((p.2.length:Int)-1) p.1:=by rw[List.all_map];rfl
    have ha:arrB qv (.tup l)=((l.zip qv).map λp=>jh 0 ((p.2.length:Int)-1) p.1).all id:=by
     rw[hall];simp only[arrB,hl,decide_true,mH]
    rw[ha];have q1:tupB (qv.length:Int) (qv.length:Int) (.tup l)=ZX:=by simp[tupB,hl]
    rw[q1] at e1;generalize ((l.zip qv).map λp=>jh 0 ((p.2.length:Int)-1) p.1)=bs at *
    simp only[hD] at *;simp[uo,adi,hl3,e1,hl,e6,hc,hb]
   ·rintro j d ys ρ hd ⟨o1,o2,rfl,rfl⟩
    obtain⟨d1,d2,g1,g2,rfl⟩:=ake hd;obtain⟨r,hr,rfl⟩:=anl g2;refine⟨[.val d1,.val (.tup (r.map D.int))],_,ZX,by simp,rfl,.inr ⟨rfl,.bl (jh 0 ((r.length:Int)-1) d1),[.val d1,.val (.tup (r.map D.int))],by simp[ab5],_,_,rfl,?_⟩⟩
    have hz:(l.zip qv)[0+j]? = ZZ (d1,r):=by rw[kZ,iK];exact⟨g1,hr⟩
    rw[yR,hz];simp
  ·refine no ?_ ?_
   ·show(decide ((qv.length:Int)<=(l.length:Int))&&decide ((l.length:Int)<=(qv.length:Int)))=ZW;rw[jP,decide_eq_false_iff_not,decide_eq_false_iff_not];omega
   ·show(decide (l.length=qv.length)&&_)=ZW;rw[decide_eq_false hl];rfl
 |_=>exact no rfl rfl
def aw7{qv:LL9}{as:List Int}(ha:Arr qv as):arrB qv (.tup (as.map D.int))=ZX:=by
 show(decide ((as.map D.int).length=qv.length)&&_)=ZX;rw[aL,decide_eq_true ha.len,mH,cR]
 rintro⟨d,r⟩ hp
 obtain⟨i,hi,e⟩:=gH.mp hp;have e2:((as.map D.int).zip qv)[i]? = ZZ (d,r):=by rw[aF hi,e]
 rw[iK,aX] at e2;obtain⟨e3,e4⟩:=e2;obtain⟨a,ea,rfl⟩:=cB.mp e3;obtain⟨h0,h1⟩:=ha.ok i a r ea e4;show(decide (0<=a)&&decide (a<=(r.length:Int)-1))=ZX;rw[bB,decide_eq_true_eq,decide_eq_true_eq];omega
section
variable{qv:LL9}(h:Hs qv){bad:D}(hb:arrB qv bad=ZW)
include h hb
theorem au1:gq [.val (hD qv),.val bad]=ZZ (.exc ⟨"NoArrows", []⟩,[.val (hD qv),.val bad]):=by
 have e:=afn h bad;rw[hb] at e;generalize hD qv=hh at *;simp[gq,uz,e]
end
section
variable{qv:LL9}(h:Hs qv){as:List Int}(ha:Arr qv as)
include h ha
theorem afc:gq [.val (hD qv),.val (.tup (as.map D.int))]=ZZ (.ok (.v .non),[.val (hD qv),.val (.tup (as.map D.int))]):=by
 have e:=afn h (.tup (as.map D.int));rw[aw7 ha] at e;generalize hD qv=hh at *;simp[gq,uz,e]
end
def wkB(n:Nat):D->Bool
 |.tup l=>decide (l.length=n)&&l.all (jh 0 100)
 |_=>ZW
theorem aei{qv:LL9}(h:Hs qv)(d:D):qp [.val (hD qv),.val d,.val (.int 100)]=ZZ (.ok (.v (.bl (wkB qv.length d))),[.val (hD qv),.val d,.val (.int 100)]):=by
 have e1:=uy d (qv.length:Int) (qv.length:Int);have hl3:=tu qv;have hm:=h.most;have no:tupB (qv.length:Int) (qv.length:Int) d=ZW->wkB qv.length d=ZW->qp [.val (hD qv),.val d,.val (.int 100)]=ZZ (.ok (.v (.bl (wkB qv.length d))),[.val (hD qv),.val d,.val (.int 100)]):=λq1 q2=>by
  rw[q1] at e1;rw[q2];simp only[hD] at *;simp[qp,aby,hl3,e1]
 cases d with
 |tup l=>
  by_cases hl:l.length=qv.length
  ·have e2:compD (ir 0) (ret ZX) aa5 l [] [.emp,.val (.int 100)]=ZZ (.ok (l.map λd=>.bl (jh 0 100 d)),aeh .emp l::[.val (.int 100)]):=by
    rw[aeo (f:=λd=>.bl (jh 0 100 d))]
    ·simp
    ·intro d _;simp[aa5]
   have e3:aau (l.map λd=>D.bl (jh 0 100 d))=ZZ (l.map (jh 0 100)):=by
    have:=afb (l.map (jh 0 100));rwa[jM] at this
   have ha:wkB qv.length (.tup l)=(l.map (jh 0 100)).all id:=by
    rw[List.all_map];simp only[wkB,hl,decide_true,mH];rfl
   have q1:tupB (qv.length:Int) (qv.length:Int) (.tup l)=ZX:=by simp[tupB,hl]
   rw[q1] at e1;rw[ha];have hc2:(l.map λd=>D.bl (jh 0 100 d)).length<=capS:=by rw[aL];exact di (by omega)
   generalize (l.map λd=>D.bl (jh 0 100 d))=BB at *
   generalize l.map (jh 0 100)=bs at *;simp only[hD] at *;simp[qp,aby,hl3,e1,e2,e3,hc2]
  ·refine no ?_ ?_
   ·show(decide ((qv.length:Int)<=(l.length:Int))&&decide ((l.length:Int)<=(qv.length:Int)))=ZW;rw[jP,decide_eq_false_iff_not,decide_eq_false_iff_not];omega
   ·show(decide (l.length=qv.length)&&_)=ZW;rw[decide_eq_false hl];rfl
 |_=>exact no rfl rfl
def aga{n:Nat}{l:List D}(hl:l.length≠n):wkB n (.tup l)=ZW:=by
 show(decide (l.length=n)&&_)=ZW;rw[decide_eq_false hl];rfl
def an8{n:Nat}{l:List D}{d:D}(hm:d∈l)(hd:jh 0 100 d=ZW):wkB n (.tup l)=ZW:=by
 show(decide (l.length=n)&&l.all (jh 0 100))=ZW;rw[jP]
 right
 rw[List.all_eq_false];exact⟨d,hm,by rw[hd];exact cY⟩
def a1d{n:Nat}{ws:List Int}(hw:Wk n ws):wkB n (.tup (ws.map D.int))=ZX:=by
 show(decide ((ws.map D.int).length=n)&&(ws.map D.int).all (jh 0 100))=ZX;rw[aL,decide_eq_true hw.len,mH,cR];intro d hd;obtain⟨w,hwm,rfl⟩:=fW.mp hd;have:=hw.ok w hwm;show(decide (0<=w)&&decide (w<=100))=ZX;rw[bB,decide_eq_true_eq,decide_eq_true_eq];exact this
def af8{qv:LL9}(h:Hs qv){as:List Int}(ha:Arr qv as){ws:List Int}(hw:Wk qv.length ws):dg [.val (hD qv),.val (.tup (as.map D.int)),.val (.tup (ws.map D.int))]=ZZ (.ok (.v .non),[.val (hD qv),.val (.tup (as.map D.int)),.val (.tup (ws.map D.int))]):=by
 have e3:=afc h ha;have e2:=aei h (.tup (ws.map D.int));rw[a1d hw] at e2;generalize as.map D.int=aa at *;generalize ws.map D.int=ww at *;generalize hD qv=hh at *;have e4:ig [.val hh,.val (.tup ww)]=ZZ (.ok (.v .non),[.val hh,.val (.tup ww)]):=by simp[ig,um,e2]
 simp[dg,rz,e3,e4]
def a8t(h A W o:Sl)(d:D)(l1 l2 l3 l4:List D):(fr9 h A W o d l1 l2 l3 l4:List Sl)[0]? = ZZ h:=rfl
def a8s(h A W o:Sl)(d:D)(l1 l2 l3 l4:List D):(fr9 h A W o d l1 l2 l3 l4:List Sl)[5]? = ZZ (.own (ZZ 1000) l1):=rfl
def a8r(h A W o:Sl)(d:D)(l1 l2 l3 l4:List D):(fr9 h A W o d l1 l2 l3 l4:List Sl)[7]? = ZZ (.own (ZZ 1002) l3):=rfl
def a8q(h A W o:Sl)(d:D)(l1 l2 l3 l4:List D):(fr9 h A W o d l1 l2 l3 l4:List Sl)[8]? = ZZ (.own (ZZ 1003) l4):=rfl
def rsC(d:D)(la lw zz:List D):List (Str×Rv):=[("house", .v d),("turning", .fr la),("standing", .fr lw),("gone", .fr [.int 0,.int 0,.int 0]),("left", .fr zz)]
def axv(d:D){hh la lw:List D}{n:Nat}(hn:itemsD d=ZZ hh)(hl:hh.length=n)(c1:la.length<=capS)(c2:lw.length<=capS)(c3:n<=1000) :
  iniD xn [.emp,.val d,.val (.tup la),.val (.tup lw)]=ZZ (rsC d la lw ((aD n (0:Int)).map D.int),[.emp,.val d,.val (.tup la),.val (.tup lw)]):=by
 have z:=apk n;have hc:capS≥1000:=di (aP _);have c4:n<=capS:=by omega
 subst hl;have c5:hh.length<9223372036854775808:=by omega
 simp[rsC,iniD,xn,asu,hn,c1,c2,c4,c5,z]
section
variable{qv:LL9}(h:Hs qv){as:List Int}(ha:Arr qv as){ws:List Int}
include h ha
theorem apw(hop:wg qv=[]){W b:Nat}(hW1:1<=W)(hw:∀r∈qv,r.length<=W)(hwl:ws.length=qv.length)(hw0:∀w∈ws,0<=w/\w<=(b:Int))(hB:b*qv.length*sx W qv.length<100000) :
  ∃S,Lg qv as (wf ws) S/\Stb qv as (wf ws) S/\ab3 [.val (hD qv),.val (.tup (as.map D.int)),.val (.tup (ws.map D.int))]=ZZ (.ok (.v (.tup [.tup ((gts qv as S).map D.int),.tup ((go qv as S).map D.int),.tup ((tal qv.length S).map D.int)])),[.val (hD qv),.val (.tup (as.map D.int)),.val (.tup (ws.map D.int))]):=by
 obtain⟨_,_,_,hmost⟩:=most h hop hW1 hw ha (ws:=ws) (b:=b) λw hw'=>(hw0 w hw').2
 have hm:=h.most;have h1:=h.one;have loop:=aca (c:=aaj) (g:=acb)
  (λn ρ=>∃(s:List Int) (o4:Sl),tagB o4=ZX/\n=b*qv.length*sx W qv.length-s.length/\Lg qv as (wf ws) s/\NN qv as (wf ws) s/\ρ=fr9 (.val (hD qv)) (.val (.tup (as.map D.int))) (.val (.tup (ws.map D.int))) o4 (hD qv) ((go qv as s).map D.int) ((stn qv as ws s).map D.int) ((gts qv as s).map D.int) ((tal qv.length s).map D.int))
  (λρ=>∃(s:List Int) (o4:Sl),tagB o4=ZX/\Lg qv as (wf ws) s/\Stb qv as (wf ws) s/\ρ=fr9 (.val (hD qv)) (.val (.tup (as.map D.int))) (.val (.tup (ws.map D.int))) o4 (hD qv) ((go qv as s).map D.int) ((stn qv as ws s).map D.int) ((gts qv as s).map D.int) ((tal qv.length s).map D.int))
  ?_ fuel (b*qv.length*sx W qv.length) (fr9 (.val (hD qv)) (.val (.tup (as.map D.int))) (.val (.tup (ws.map D.int))) .emp (hD qv) (as.map D.int) (ws.map D.int) [.int 0,.int 0,.int 0] ((aD qv.length (0:Int)).map D.int)) (mZ hB aj1) ⟨[],.emp,rfl,by simp,.nil,.nil,by rw[ayw hwl λw hw'=>(hw0 w hw').1,ayn];rfl⟩
 ·obtain⟨ρ',e,S,o4,ho4,l,st,rfl⟩:=loop;refine⟨S,l,st,?_⟩;have hal:=ha.len;have c1:(as.map D.int).length<=capS:=by rw[aL];exact di (by omega)
  have c2:(ws.map D.int).length<=capS:=by rw[aL];exact di (by omega)
  have c4:((gts qv as S).map D.int).length<=capS:=di (show 3<=1000 by decide)
  have c5:((tal qv.length S).map D.int).length<=capS:=by rw[aL,ac2];exact di (by omega)
  have c6:((go qv as S).map D.int).length<=capS:=by rw[aL,(afp h S ha l.inR).len];exact di (by omega)
  have z:=axv (hD qv) (hh:=hDs qv) (n:=qv.length) rfl (tu qv) c1 c2 (by omega)
  generalize (aD qv.length (0:Int)).map D.int=zz at *;generalize (tal qv.length S).map D.int=tm at *;generalize (stn qv as ws S).map D.int=sm at *;generalize (gts qv as S).map D.int=gm at *;generalize (go qv as S).map D.int=am at *;generalize as.map D.int=la at *;generalize ws.map D.int=lw at *;generalize hD qv=hh at *;have eK:(dSeq (whileD aaj acb fuel) (dRet (M.v (mTup (bc (M.d (gw (g1 gT9) ((mLnk "Crowd" 3 "gone" 7).bind λ_=>f9 7 mNil))) (bc (M.d (gw (g1 gT9) ((mLnk "Crowd" 3 "turning" 5).bind λ_=>f9 5 mNil))) (bc (M.d (gw (g1 gT9) ((mLnk "Crowd" 3 "left" 8).bind λ_=>f9 8 mNil))) mNil))))))) (fr9 (.val hh) (.val (.tup la)) (.val (.tup lw)) .emp hh la lw [.int 0,.int 0,.int 0] zz)=ZZ (.ret (.v (.tup [.tup gm,.tup am,.tup tm])),fr9 (.val hh) (.val (.tup la)) (.val (.tup lw)) o4 hh am sm gm tm):=by
   simp[e,a75,a73,a74,a8s,a8r,a8q,c4,c5,c6]
  have eN:ag8 [.val hh,.val (.tup la),.val (.tup lw),.emp,.emp,.emp,.emp,.emp,.emp]=ZZ (.ret (.v (.tup [.tup gm,.tup am,.tup tm])),[.val hh,.val (.tup la),.val (.tup lw),.emp,o4,.emp,.emp,.emp,.emp]):=by
   unfold ag8 dNew dM;have em:bw 0 (bw 1 (bw 2 fu)) [Sl.val hh,.val (.tup la),.val (.tup lw),.emp,.emp,.emp,.emp,.emp,.emp]=ZZ (.ok [ZY,ZY,ZY],[.val hh,.val (.tup la),.val (.tup lw),.emp,.emp,.emp,.emp,.emp,.emp]):=by rfl
   rw[em];dsimp only;rw[if_pos (show okJs [Sl.val hh,.val (.tup la),.val (.tup lw),.emp,.emp,.emp,.emp,.emp,.emp] [ZY,ZZ 0,ZZ 1,ZZ 2]=ZX from rfl)]
   have el:lend [Sl.val hh,.val (.tup la),.val (.tup lw),.emp,.emp,.emp,.emp,.emp,.emp] [ZY,ZZ 0,ZZ 1,ZZ 2] [ZY,ZY,ZY,ZY]++aD (4-4) Sl.emp=[.emp,.val hh,.val (.tup la),.val (.tup lw)]:=rfl;rw[el,z];dsimp only;rw[if_pos (show(putB [Sl.val hh,.val (.tup la),.val (.tup lw),.emp,.emp,.emp,.emp,.emp,.emp] [ZY,ZZ 0,ZZ 1,ZZ 2] (uQ 4 [.emp,.val hh,.val (.tup la),.val (.tup lw)]):List Sl).all tagB=ZX/\[5,6,7,8].contains 3=ZW from⟨rfl,rfl⟩)]
   have eS:setG (rsC hh la lw zz) [5,6,7,8] 0 (bZ (putB [Sl.val hh,.val (.tup la),.val (.tup lw),.emp,.emp,.emp,.emp,.emp,.emp] [ZY,ZZ 0,ZZ 1,ZZ 2] (uQ 4 [.emp,.val hh,.val (.tup la),.val (.tup lw)])) 3 (.box "Crowd" (mkFs (rsC hh la lw zz) 0)))=ZZ (fr9 (.val hh) (.val (.tup la)) (.val (.tup lw)) .emp hh la lw [.int 0,.int 0,.int 0] zz):=rfl;rw[eS];dsimp only;rw[eK];dsimp only;have eO:offs (fr9 (.val hh) (.val (.tup la)) (.val (.tup lw)) o4 hh am sm gm tm) [3,5,6,7,8]=[.val hh,.val (.tup la),.val (.tup lw),.emp,o4,.emp,.emp,.emp,.emp]:=rfl;rw[eO,if_pos (show([Sl.val hh,.val (.tup la),.val (.tup lw),.emp,o4,.emp,.emp,.emp,.emp]:List Sl).all tagB=ZX by simp only[jX,uR,ho4];rfl)]
  simp[ab3,eN]
 ·rintro n ρ ⟨s,o4,ho4,rfl,l,nn,rfl⟩
  have eT:aaj (fr9 (.val (hD qv)) (.val (.tup (as.map D.int))) (.val (.tup (ws.map D.int))) o4 (hD qv) ((go qv as s).map D.int) ((stn qv as ws s).map D.int) ((gts qv as s).map D.int) ((tal qv.length s).map D.int))=ZZ (.ok (((stn qv as ws s).map λn=>n != 0).any id),fr9 (.val (hD qv)) (.val (.tup (as.map D.int))) (.val (.tup (ws.map D.int))) o4 (hD qv) ((go qv as s).map D.int) ((stn qv as ws s).map D.int) ((gts qv as s).map D.int) ((tal qv.length s).map D.int)):=by
   have ei:=ag5 (stn qv as ws s);generalize (stn qv as ws s).map D.int=sm at *;generalize (go qv as s).map D.int=am at *;generalize (gts qv as s).map D.int=gm at *;generalize (tal qv.length s).map D.int=tm at *;generalize as.map D.int=la at *;generalize ws.map D.int=lw at *;generalize hD qv=hh at *;generalize hns:stn qv as ws s=ns at *;simp[aaj,awe,awt,ei]
  have eany:(((stn qv as ws s).map λn=>n != 0).any id)=ZX↔∃x:Int,0<=x/\x<(qv.length:Int)/\(stn qv as ws s).getD x.toNat 0≠0:=by
   rw[List.any_map,List.any_eq_true];constructor
   ·rintro⟨v,hv,q⟩
    obtain⟨i,hi,e⟩:=gH.mp hv;rw[yo] at hi;refine⟨(i:Int),by omega,by omega,?_⟩
    rw[dZ,aU,aF (by rw[yo];exact hi)]
    show(stn qv as ws s)[i]≠0;rw[e]
    simpa using q
   ·rintro⟨x,x0,x1,q⟩
    have hk:x.toNat<(stn qv as ws s).length:=by rw[yo];omega
    refine⟨(stn qv as ws s).getD x.toNat 0,?_,by simpa using q⟩
    rw[aU,aF hk];exact dJ hk
  cases q:(((stn qv as ws s).map λn=>n != 0).any id) with
  |false=>
   rw[q] at eT eany;refine .inl ⟨_,eT,s,o4,ho4,l,λx x0 x1=>?_,rfl⟩
   have q1:=nn x x0 x1;have q2:(stn qv as ws s).getD x.toNat 0=0:=fK λz=>by
    have:=eany.mpr ⟨x,x0,x1,z⟩;cases this
   rw[agc as ws s x0 x1] at q2;omega
  |true=>
   rw[q] at eT;obtain⟨x,x0,x1,hx⟩:=eany.mp q;obtain⟨e,q4,h4,c1,c2,c3,c4⟩:=ak0 h ha (.val (.tup (as.map D.int))) (.val (.tup (ws.map D.int))) (upto qv.length) s o4 (λx hx=>vz hx) l nn
   have hne:e≠[]:=λz=>by
    have:=c1 z x (ai2 x0 x1);have q1:=nn x x0 x1;rw[agc as ws s x0 x1] at this hx;omega
   have hpos:=mW.mpr hne;have z:=hmost _ c2;rw[bV] at z;refine .inr ⟨_,_,b*qv.length*sx W qv.length-(s++e).length,eT,?_,by rw[bV];omega,s++e,q4,h4 ho4,rfl,c2,c3,rfl⟩
   rw[<-aa1] at c4;have hdl:=tu qv;have hb':qv.length<4611686018427387904:=by omega
   generalize (stn qv as ws s).map D.int=sm at *;generalize (go qv as s).map D.int=am at *;generalize (gts qv as s).map D.int=gm at *;generalize (tal qv.length s).map D.int=tm at *;generalize as.map D.int=la at *;generalize ws.map D.int=lw at *;simp only[hD] at *;simp[acb,a8t,hdl,hb',c4]
end
section
variable{qv:LL9}(h:Hs qv){as:List Int}(ha:Arr qv as){ws:List Int}(hop:wg qv=[]){W b:Nat}(hW1:1<=W)(hw:∀r∈qv,r.length<=W)(hwl:ws.length=qv.length)(hw0:∀w∈ws,0<=w/\w<=(b:Int))(hb:b<=100)(hB:b*qv.length*sx W qv.length<100000)
include h ha
theorem a7a{S T:List Int}(l1:Lg qv as (wf ws) S)(s1:Stb qv as (wf ws) S)(l2:Lg qv as (wf ws) T)(s2:Stb qv as (wf ws) T):gts qv as S=gts qv as T/\go qv as S=go qv as T/\tal qv.length S=tal qv.length T:=by
 have c:=abel h ha l1 s1 l2 s2;have g:∀d,arv qv d as S=arv qv d as T:=λd=>by
  rw[aml h d S ha l1.inR,aml h d T ha l2.inR];exact adw _ _ _ λx _=>by rw[c x]
 exact⟨by unfold gts;rw[g,g,g],go_same h ha l1.inR l2.inR c,avj c⟩
include hop hW1 hw hwl hw0 hb hB
theorem rest_eq{S:List Int}(l1:Lg qv as (wf ws) S)(s1:Stb qv as (wf ws) S):yw [.val (hD qv),.val (.tup (as.map D.int)),.val (.tup (ws.map D.int))]=ZZ (.ok (.v (.tup [.tup ((gts qv as S).map D.int),.tup ((go qv as S).map D.int),.tup ((tal qv.length S).map D.int)])),[.val (hD qv),.val (.tup (as.map D.int)),.val (.tup (ws.map D.int))]):=by
 obtain⟨T,l2,s2,e2⟩:=apw h ha hop hW1 hw hwl hw0 hB;obtain⟨g1,g2,g3⟩:=a7a h ha l1 s1 l2 s2;rw[<-g1,<-g2,<-g3] at e2;have s0:=af8 h ha ⟨hwl,λw hw'=>⟨(hw0 w hw').1,by have:=(hw0 w hw').2;omega⟩⟩
 have q:=amt h;rw[hop] at q;have e3:gEq ZX (.tup []) (.tup [])=ZZ (.v (.bl ZW)):=ajy ZX [] [];have s1:dq [.val (hD qv)]=ZZ (.ok (.v .non),[.val (hD qv)]):=by simp[dq,rn,q,e3]
 generalize (gts qv as S).map D.int=gm at *;generalize (go qv as S).map D.int=am at *;generalize (tal qv.length S).map D.int=tm at *;generalize as.map D.int=la at *;generalize ws.map D.int=lw at *;generalize hD qv=hh at *;simp[yw,aly,s0,s1,e2]
theorem ayy:∃S,Lg qv as (wf ws) S/\Stb qv as (wf ws) S:=by
 obtain⟨S,a,b,_⟩:=most h hop hW1 hw ha (ws:=ws) (b:=b) λw hw'=>(hw0 w hw').2
 exact⟨S,a,b⟩
end
def anh:nj [.val (.exn "NoArrows" [])]=ZZ (.ok (.v (.str "arrows")),[.val (.exn "NoArrows" [])]):=by kernel_rfl
def asr:("NoArrows" : Str)∈NS:=cO.mp (by decide +kernel)
def at0(x:D)(l:List D):atI (x::l) 0=ZZ x:=by simp[atI,ixN]
def als(i:Int):nj [.val (.exn "NotOpen" [("room", i)])]=ZZ (.ok (.v (.str "open")),[.val (.exn "NotOpen" [("room", i)])]):=by kernel_rfl
def asq:("NotOpen" : Str)∈NS:=cO.mp (by decide +kernel)
def a84:gEq ZW (.str "arrows") (.str "open")=ZZ (.v (.bl ZW)):=by kernel_rfl
def a4q:gEq ZW (.str "open") (.str "open")=ZZ (.v (.bl ZX)):=by kernel_rfl
def atm(neg:Bool){s:Str}(hs:PyData.strOk s=ZX)(hq:eqD (.str s) (.str s)=ZX)(x y:Int):gEq neg (.tup [.str s,.int x]) (.tup [.str s,.int y])=ZZ (.v (.bl (if neg then !decide (x=y) else decide (x=y)))):=by
 have h1:∀x:Int,okD 30 (.tup [.str s,.int x])=ZX:=λx=>by
  show([D.str s,D.int x].all (okD 29))=ZX;simp only[jX,uR,zH];rw[show okD 29 (.str s)=ZX from hs]
  rfl
 have h3:eqD (.tup [.str s,.int x]) (.tup [.str s,.int y])=decide (x=y):=by
  show uF (ac1 [D.str s,D.int x]) (ac1 [D.str s,D.int y])=_;rw[aj3];show(eqD (.str s) (.str s)&&(eqD (.int x) (.int y)&&ZX))=_;rw[hq,anv,zH,mH]
 simp only[gEq,h1,h3];simp
def a0u(neg:Bool)(x y:Int):gEq neg (.tup [.str "open", .int x]) (.tup [.str "open", .int y])=ZZ (.v (.bl (if neg then !decide (x=y) else decide (x=y)))):=atm neg (by kernel_rfl) (by kernel_rfl) x y
def a0t(neg:Bool)(x y:Int):gEq neg (.tup [.str "told", .int x]) (.tup [.str "told", .int y])=ZZ (.v (.bl (if neg then !decide (x=y) else decide (x=y)))):=atm neg (by kernel_rfl) (by kernel_rfl) x y
def at7(neg:Bool)(x y:Int):gEq neg (.tup [.str "arrows", .int x]) (.tup [.str "arrows", .int y])=ZZ (.v (.bl (if neg then !decide (x=y) else decide (x=y)))):=atm neg (by kernel_rfl) (by kernel_rfl) x y
section
variable{qv:LL9}(h:Hs qv)
include h
theorem av7{i:Int}{r:List Int}(ht:wg qv=i::r):dq [.val (hD qv)]=ZZ (.exc ⟨"NotOpen", [("room", i)]⟩,[.val (hD qv)]):=by
 have q:=amt h;rw[ht,bC] at q;have e3:gEq ZX (.tup (D.int i::r.map D.int)) (.tup [])=ZZ (.v (.bl ZX)):=ajy ZX (i::r) [];have a0:atI (D.int i::r.map D.int) 0=ZZ (.int i):=at0 _ _;generalize hD qv=hh at *;generalize r.map D.int=rr at *;simp[dq,rn,ab6,dM,q,e3,a0]
theorem aqh(hop:wg qv=[]):dq [.val (hD qv)]=ZZ (.ok (.v .non),[.val (hD qv)]):=by
 have q:=amt h;rw[hop] at q;have e3:gEq ZX (.tup []) (.tup [])=ZZ (.v (.bl ZW)):=ajy ZX [] [];simp[dq,rn,q,e3]
end
def uAll(qv:LL9)(as gs:List Int)(i:Nat):List D:=(bW i).map λj=>D.tup ((afx (qv.getD j []).length (as.getD j 0) (gs.getD j 0)).map D.int)
def aq8(qv:LL9)(as gs:List Int)(i:Nat):uAll qv as gs (i+1)=uAll qv as gs i++[D.tup ((afx (qv.getD i []).length (as.getD i 0) (gs.getD i 0)).map D.int)]:=by
 simp[uAll,mQ]
def amr{qv:LL9}(h:Hs qv){as gs:List Int}(ha:as.length=qv.length)(hg:gs.length=qv.length) :
  sr [.val (hD qv),.val (.tup (as.map D.int)),.val (.tup (gs.map D.int))]=ZZ (.ok (.v (.tup (uAll qv as gs qv.length))),[.val (hD qv),.val (.tup (as.map D.int)),.val (.tup (gs.map D.int))]):=by
 have hm:=h.most;have hle:(hDs qv).length<=(as.map D.int).length/\(hDs qv).length<=(gs.map D.int).length:=by rw[tu,aL,aL];omega
 have loop:=aen (b:=bTup 3 (qj (ir 4) (qj (ir 5) (qj (ir 6) bNil)))) (g:=aae) (λi ρ=>∃o1 o2 o3,ρ=[.val (hD qv),.val (.tup (as.map D.int)),.val (.tup (gs.map D.int)),.own ZY (uAll qv as gs i),o1,o2,o3])
  (l:=afv (hDs qv) (as.map D.int) (gs.map D.int)) (ρ:=[.val (hD qv),.val (.tup (as.map D.int)),.val (.tup (gs.map D.int)),.own ZY [],.emp,.emp,.emp]) 0 ⟨.emp,.emp,.emp,rfl⟩ ?_
 ·obtain⟨ρ',e,o1,o2,o3,rfl⟩:=loop;rw[aqu hle,tu,kZ] at e;have hl:=tu qv;simp only[hD] at e ⊢
  simp[sr,aek,hl,ha,hg,e]
 ·rintro i d ρ hd ⟨o1,o2,o3,rfl⟩
  rw[kZ] at *;obtain⟨d1,d2,d3,g1,g2,g3,rfl⟩:=akd hd;obtain⟨r,hr,rfl⟩:=anl g1;rw[aX] at g2 g3;obtain⟨a,ea,rfl⟩:=cB.mp g2;obtain⟨b,eb,rfl⟩:=cB.mp g3;obtain⟨k1,k2,_⟩:=h.room r (cT hr);have hi:i<qv.length:=(aK.mp hr).1;have e1:=aia (n:=r.length) (a:=a) (L:=b) k1 k2;have x1:qv.getD i []=r:=by simp[hr]
  have x2:as.getD i 0=a:=by simp[ea]
  have x3:gs.getD i 0=b:=by simp[eb]
  have hc:(uAll qv as gs i).length<capS:=by simp[uAll];unfold capS;omega
  refine⟨[.val (hD qv),.val (.tup (as.map D.int)),.val (.tup (gs.map D.int)),.own ZY (uAll qv as gs i),.val (.tup (r.map D.int)),.val (.int a),.val (.int b)],[.val (hD qv),.val (.tup (as.map D.int)),.val (.tup (gs.map D.int)),.own ZY (uAll qv as gs (i+1)),.val (.tup (r.map D.int)),.val (.int a),.val (.int b)],by simp,.inl ?_,_,_,_,rfl⟩
  rw[aq8,x1,x2,x3];generalize uAll qv as gs i=Z at hc;have hc2:(afx r.length a b).length<=capS:=by rw[akm];exact di (by omega)
  simp[aae,e1,hc,hc2]
def fr11(h A W R o5 o6:Sl)(d:D)(l1 l2 l3 l4:List D):Ro:=[h,A,W,R,.box "Crowd" (fsC d),o5,o6,.own (ZZ 1000) l1,.own (ZZ 1001) l2,.own (ZZ 1002) l3,.own (ZZ 1003) l4]
def a77(h A W R o p:Sl)(d:D)(l1 l2 l3 l4:List D):mLnk "Crowd" 4 "standing" 8 (fr11 h A W R o p d l1 l2 l3 l4)=ZZ (.ok (),fr11 h A W R o p d l1 l2 l3 l4):=by rfl
def a76(h A W R o p:Sl)(d:D)(l1 l2 l3 l4:List D):mLnk "Crowd" 4 "turning" 7 (fr11 h A W R o p d l1 l2 l3 l4)=ZZ (.ok (),fr11 h A W R o p d l1 l2 l3 l4):=by rfl
def a78(h A W R o p:Sl)(d:D)(l1 l2 l3 l4:List D):mLnk "Crowd" 4 "gone" 9 (fr11 h A W R o p d l1 l2 l3 l4)=ZZ (.ok (),fr11 h A W R o p d l1 l2 l3 l4):=by rfl
def a81(h A W R o p:Sl)(d:D)(l1 l2 l3 l4:List D):(fr11 h A W R o p d l1 l2 l3 l4:List Sl)[3]? = ZZ R:=rfl
def a80(h A W R o p:Sl)(d:D)(l1 l2 l3 l4:List D):(fr11 h A W R o p d l1 l2 l3 l4:List Sl)[7]? = ZZ (.own (ZZ 1000) l1):=rfl
def a8z(h A W R o p:Sl)(d:D)(l1 l2 l3 l4:List D):(fr11 h A W R o p d l1 l2 l3 l4:List Sl)[8]? = ZZ (.own (ZZ 1001) l2):=rfl
def a8y(h A W R o p:Sl)(d:D)(l1 l2 l3 l4:List D):(fr11 h A W R o p d l1 l2 l3 l4:List Sl)[9]? = ZZ (.own (ZZ 1002) l3):=rfl
def kLB:Sd:=(dSeq (dFor (okS (mGet atn (bc (mVar 3) mNil))) (bTup 2 (qj (ir 5) (qj (ir 6) bNil))) aio) (dOk (dRet (M.v (mTup (bc (M.d (gw (g1 gT9) ((mLnk "Crowd" 4 "turning" 7).bind λ_=>f9 7 mNil))) (bc (M.d (gw (g1 gT9) ((mLnk "Crowd" 4 "standing" 8).bind λ_=>f9 8 mNil))) (bc (M.d (gw (g1 gT9) ((mLnk "Crowd" 4 "gone" 9).bind λ_=>f9 9 mNil))) mNil))))))))
def a3h{R:Fl}{hh:D}{la lw lS am sm gm tm zz:List D}{o5 o6:Sl}(t5:tagB o5=ZX)(t6:tagB o6=ZX)(z:iniD xn [.emp,.val hh,.val (.tup la),.val (.tup lw)]=ZZ (rsC hh la lw zz,[.emp,.val hh,.val (.tup la),.val (.tup lw)]))(eK:kLB (fr11 (.val hh) (.val (.tup la)) (.val (.tup lw)) (.val (.lst lS)) .emp .emp hh la lw [.int 0,.int 0,.int 0] zz)=ZZ (R,fr11 (.val hh) (.val (.tup la)) (.val (.tup lw)) (.val (.lst lS)) o5 o6 hh am sm gm tm)) :
  dNew "Crowd" 4 [7,8,9,10] 4 4 xn [ZZ 0,ZZ 1,ZZ 2] (okS (bw 0 (bw 1 (bw 2 fu)))) kLB [.val hh,.val (.tup la),.val (.tup lw),.val (.lst lS),.emp,.emp,.emp,.emp,.emp,.emp,.emp]=ZZ (R,[.val hh,.val (.tup la),.val (.tup lw),.val (.lst lS),.emp,o5,o6,.emp,.emp,.emp,.emp]):=by
 unfold dNew dM;have em:okS (bw 0 (bw 1 (bw 2 fu))) [Sl.val hh,.val (.tup la),.val (.tup lw),.val (.lst lS),.emp,.emp,.emp,.emp,.emp,.emp,.emp]=ZZ (.ok [ZY,ZY,ZY],[.val hh,.val (.tup la),.val (.tup lw),.val (.lst lS),.emp,.emp,.emp,.emp,.emp,.emp,.emp]):=by rfl
 rw[em];dsimp only;rw[if_pos (show okJs [Sl.val hh,.val (.tup la),.val (.tup lw),.val (.lst lS),.emp,.emp,.emp,.emp,.emp,.emp,.emp] [ZY,ZZ 0,ZZ 1,ZZ 2]=ZX from rfl)]
 have el:lend [Sl.val hh,.val (.tup la),.val (.tup lw),.val (.lst lS),.emp,.emp,.emp,.emp,.emp,.emp,.emp] [ZY,ZZ 0,ZZ 1,ZZ 2] [ZY,ZY,ZY,ZY]++aD (4-4) Sl.emp=[.emp,.val hh,.val (.tup la),.val (.tup lw)]:=rfl;rw[el,z];dsimp only;rw[if_pos (show(putB [Sl.val hh,.val (.tup la),.val (.tup lw),.val (.lst lS),.emp,.emp,.emp,.emp,.emp,.emp,.emp] [ZY,ZZ 0,ZZ 1,ZZ 2] (uQ 4 [.emp,.val hh,.val (.tup la),.val (.tup lw)]):List Sl).all tagB=ZX/\[7,8,9,10].contains 4=ZW from⟨rfl,rfl⟩)]
 have eS:setG (rsC hh la lw zz) [7,8,9,10] 0 (bZ (putB [Sl.val hh,.val (.tup la),.val (.tup lw),.val (.lst lS),.emp,.emp,.emp,.emp,.emp,.emp,.emp] [ZY,ZZ 0,ZZ 1,ZZ 2] (uQ 4 [.emp,.val hh,.val (.tup la),.val (.tup lw)])) 4 (.box "Crowd" (mkFs (rsC hh la lw zz) 0)))=ZZ (fr11 (.val hh) (.val (.tup la)) (.val (.tup lw)) (.val (.lst lS)) .emp .emp hh la lw [.int 0,.int 0,.int 0] zz):=rfl;rw[eS];dsimp only;rw[eK];dsimp only;have eO:offs (fr11 (.val hh) (.val (.tup la)) (.val (.tup lw)) (.val (.lst lS)) o5 o6 hh am sm gm tm) [4,7,8,9,10]=[.val hh,.val (.tup la),.val (.tup lw),.val (.lst lS),.emp,o5,o6,.emp,.emp,.emp,.emp]:=rfl;rw[eO,if_pos (show([Sl.val hh,.val (.tup la),.val (.tup lw),.val (.lst lS),.emp,o5,o6,.emp,.emp,.emp,.emp]:List Sl).all tagB=ZX by simp only[jX,uR,t5,t6];rfl)]
def as8{qv:LL9}(h:Hs qv){as:List Int}(ha:Arr qv as){ws:List Int}(hW:Wk qv.length ws):mj [.val (hD qv),.val (.tup (as.map D.int)),.val (.tup (ws.map D.int)),.val (.lst [])]=ZZ (.ok (.v (.tup [.tup (as.map D.int),.tup (ws.map D.int),.tup [.int 0,.int 0,.int 0]])),[.val (hD qv),.val (.tup (as.map D.int)),.val (.tup (ws.map D.int)),.val (.lst [])]):=by
 have hm:=h.most;have hal:=ha.len;have hwl:=hW.len;have c1:(as.map D.int).length<=capS:=by rw[aL];exact di (by omega)
 have c2:(ws.map D.int).length<=capS:=by rw[aL];exact di (by omega)
 have c4:3<=capS:=di (show 3<=1000 by decide)
 have z:=axv (hD qv) (hh:=hDs qv) (n:=qv.length) rfl (tu qv) c1 c2 (by omega)
 have s0:=af8 h ha hW;have eg:ael=dSeq (xr (mFn dg [ZY,ZY,ZY] (az (okS (mVar 0)) (az (okS (mVar 1)) (az (okS (mVar 2)) fu))))) (dNew "Crowd" 4 [7,8,9,10] 4 4 xn [ZZ 0,ZZ 1,ZZ 2] (okS (bw 0 (bw 1 (bw 2 fu)))) kLB):=rfl;generalize (aD qv.length (0:Int)).map D.int=zz at *;generalize as.map D.int=la at *;generalize ws.map D.int=lw at *;generalize hD qv=hh at *;have eK:kLB (fr11 (.val hh) (.val (.tup la)) (.val (.tup lw)) (.val (.lst [])) .emp .emp hh la lw [.int 0,.int 0,.int 0] zz)=ZZ (.ret (.v (.tup [.tup la,.tup lw,.tup [.int 0,.int 0,.int 0]])),fr11 (.val hh) (.val (.tup la)) (.val (.tup lw)) (.val (.lst [])) .emp .emp hh la lw [.int 0,.int 0,.int 0] zz):=by
  have en:aj5 []=[]:=rfl;simp[kLB,a81,en,forD,a78,a76,a77,a80,a8z,a8y,c1,c2,c4]
 have eN:=a3h (o5:=.emp) (o6:=.emp) rfl rfl z eK;simp[mj,eg,s0,eN]
def apg{l:List D}{k:Int}(h0:0<=k)(h1:k<(l.length:Int)):∃d,atI l k=ZZ d/\d∈l:=by
 refine⟨l[k.toNat]'(by omega),?_,dJ _⟩
 unfold atI;rw[ae5 h0 h1];exact aF (by omega)
def aki{n:Int}{i:Int}(hi:i<0∨n<=i):jh 0 (n-1) (.int i)=ZW:=by
 show(decide (0<=i)&&decide (i<=n-1))=ZW;rw[jP,decide_eq_false_iff_not,decide_eq_false_iff_not];omega
def afd{qv:LL9}{l:List D}(hl:l.length≠qv.length):arrB qv (.tup l)=ZW:=by
 show(decide (l.length=qv.length)&&_)=ZW;rw[decide_eq_false hl];rfl
def amm{qv:LL9}{l:List D}{k:Int}(h0:0<=k)(h1:k<(qv.length:Int)){d:D}(hk:l[k.toNat]? = ZZ d)(hd:jh 0 (((dr qv k).length:Int)-1) d=ZW):arrB qv (.tup l)=ZW:=by
 show(decide (l.length=qv.length)&&_)=ZW;rw[jP]
 right
 rw[<-Bool.not_eq_true,cR];intro hall;have hr:qv[k.toNat]? = ZZ (dr qv k):=by
  unfold dr;rw[aU,aF (by omega)]
  rfl
 have hz:(l.zip qv)[k.toNat]? = ZZ (d,dr qv k):=by rw[iK];exact⟨hk,hr⟩
 have:=hall _ (cT hz);simp only at this;rw[hd] at this;exact Bool.noConfusion this
section
variable{qv:LL9}(h:Hs qv){as:List Int}(ha:Arr qv as)
include h ha
theorem ah4(P:Int×Int):∃bad P',f__law_no_arrows [.own (ZZ 0) (pen P),.val (hD qv),.val (.tup (as.map D.int))]=ZZ (.ok (.v bad),[.own (ZZ 0) (pen P'),.val (hD qv),.val (.tup (as.map D.int))])/\arrB qv bad=ZW:=by
 have hm:=h.most;have h1':=h.one;have hl:=ha.len;obtain⟨k,P1,e1,k0,k1⟩:=lg P (qv.length:Int) (by omega) (by omega)
 obtain⟨r2,P2,e2,r2a,r2b⟩:=lg P1 5 (by decide) (by decide)
 obtain⟨r3,P3,e3,r3a,r3b⟩:=lg P2 8 (by decide) (by decide)
 have a1:=aht k0 k1;have a2:=api h ha k0 k1;obtain⟨w1,w2,w3⟩:=h.dr k0 k1;have ho:∃odd,atI [.int ((dr qv k).length:Int),.int (-1),.bl ZX,.non,.str "0"] r2=ZZ odd/\jh 0 (((dr qv k).length:Int)-1) odd=ZW:=by
  obtain⟨d,ed,hd⟩:=apg (l:=[.int ((dr qv k).length:Int),.int (-1),.bl ZX,.non,.str "0"]) r2a r2b;refine⟨d,ed,?_⟩;simp only[bA,cI,or_false] at hd;rcases hd with rfl |rfl |rfl |rfl |rfl
  ·exact aki (.inr (Int.le_refl _))
  ·exact aki (.inl (by decide))
  ·rfl
  ·rfl
  ·rfl
 obtain⟨odd,eo,hodd⟩:=ho;have c1:=a4w (ns:=as.map D.int) k0 (by rw[aL];omega)
 have c2:=aj7 (ns:=as.map D.int) (k:=k+1) (by omega) (by rw[aL];omega)
 have c3:=aj7 (ns:=as.map D.int) (k:=1) (by omega) (by rw[aL];omega)
 have l1:((as.map D.int).take k.toNat).length=k.toNat:=by rw[dX,aL];omega
 have l2:((as.map D.int).drop (k+1).toNat).length<=10:=by rw[fX,aL];omega
 have l3:((as.map D.int).drop (1:Int).toNat).length=qv.length-1:=by rw[fX,aL];omega
 have l0:(as.map D.int).length=qv.length:=by rw[aL];omega
 generalize (as.map D.int).take k.toNat=ta at c1 l1;generalize (as.map D.int).drop (k+1).toNat=td at c2 l2;generalize (as.map D.int).drop (1:Int).toNat=tf at c3 l3;have hT:∃bad,atI [.tup (ta++odd::td),.tup (as.map D.int++[.int 0]),.tup tf,.lst (as.map D.int),.non,.str "", .dct [],.tup [.tup (as.map D.int)]] r3=ZZ bad/\arrB qv bad=ZW:=by
  obtain⟨x,ex,hx⟩:=apg (l:=[.tup (ta++odd::td),.tup (as.map D.int++[.int 0]),.tup tf,.lst (as.map D.int),.non,.str "", .dct [],.tup [.tup (as.map D.int)]]) r3a r3b;refine⟨x,ex,?_⟩;simp only[bA,cI,or_false] at hx;rcases hx with rfl |rfl |rfl |rfl |rfl |rfl |rfl |rfl
  ·exact amm k0 k1 (d:=odd) (by rw[cD (by omega),l1,Nat.sub_self];rfl) hodd
  ·exact afd (by rw[bV];simp only[bF,lH];omega)
  ·exact afd (by omega)
  ·rfl
  ·rfl
  ·rfl
  ·rfl
  ·by_cases z:qv.length=1
   ·exact amm (k:=0) (by decide) (by omega) (d:=.tup (as.map D.int)) rfl rfl
   ·exact afd (by simp only[bF,lH];omega)
 obtain⟨bad,eb,hb⟩:=hT;have q1:ta.length+1<=capS:=di (by omega)
 have q2:ta.length+1+td.length<=capS:=di (by omega)
 have q3:(as.map D.int).length+1<=capS:=di (by omega)
 have q4:(as.map D.int).length<=capS:=di (by omega)
 have hw:(dr qv k).length<4611686018427387904:=by omega
 have hl3:=tu qv;refine⟨bad,P3,?_,hb⟩;generalize as.map D.int=la at *;simp only[hD] at *;generalize hDs qv=hh at *;have e1':f__law_draw [.own (ZZ 0) (pen P),.val (.int (hh.length:Int))]=ZZ (.ok (.v (.int k)),[.own (ZZ 0) (pen P1),.val (.int (hh.length:Int))]):=by rw[hl3];exact e1
 simp[f__law_no_arrows,abh,e1',a1,a2,e2,eo,e3,c1,c2,c3,q1,q2,q3,q4,eb]
end
section
variable{qv:LL9}(h:Hs qv){as:List Int}(ha:Wk qv.length as)
include h ha
theorem agt(P:Int×Int):∃bad P',f__law_no_walkers [.own (ZZ 0) (pen P),.val (hD qv),.val (.tup (as.map D.int))]=ZZ (.ok (.v bad),[.own (ZZ 0) (pen P'),.val (hD qv),.val (.tup (as.map D.int))])/\wkB qv.length bad=ZW:=by
 have hm:=h.most;have h1':=h.one;have hl:=ha.len;obtain⟨k,P1,e1,k0,k1⟩:=lg P (qv.length:Int) (by omega) (by omega)
 obtain⟨r2,P2,e2,r2a,r2b⟩:=lg P1 7 (by decide) (by decide)
 obtain⟨r3,P3,e3,r3a,r3b⟩:=lg P2 8 (by decide) (by decide)
 have ho:∃odd,atI [.int 101,.int (-1),.bl ZX,.non,.int 1000000000000000000000000000000,.str "1", .bl ZW] r2=ZZ odd/\jh 0 100 odd=ZW:=by
  obtain⟨d,ed,hd⟩:=apg (l:=[.int 101,.int (-1),.bl ZX,.non,.int 1000000000000000000000000000000,.str "1", .bl ZW]) r2a r2b;refine⟨d,ed,?_⟩;simp only[bA,cI,or_false] at hd;rcases hd with rfl |rfl |rfl |rfl |rfl |rfl |rfl <;> rfl
 obtain⟨odd,eo,hodd⟩:=ho;have c1:=a4w (ns:=as.map D.int) k0 (by rw[aL];omega)
 have c2:=aj7 (ns:=as.map D.int) (k:=k+1) (by omega) (by rw[aL];omega)
 have c3:=aj7 (ns:=as.map D.int) (k:=1) (by omega) (by rw[aL];omega)
 have l1:((as.map D.int).take k.toNat).length=k.toNat:=by rw[dX,aL];omega
 have l2:((as.map D.int).drop (k+1).toNat).length<=10:=by rw[fX,aL];omega
 have l3:((as.map D.int).drop (1:Int).toNat).length=qv.length-1:=by rw[fX,aL];omega
 have l0:(as.map D.int).length=qv.length:=by rw[aL];omega
 generalize (as.map D.int).take k.toNat=ta at c1 l1;generalize (as.map D.int).drop (k+1).toNat=td at c2 l2;generalize (as.map D.int).drop (1:Int).toNat=tf at c3 l3;have hT:∃bad,atI [.tup (ta++odd::td),.tup (as.map D.int++[.int 0]),.tup tf,.lst (as.map D.int),.non,.str "", .dct [],.tup [.tup (as.map D.int)]] r3=ZZ bad/\wkB qv.length bad=ZW:=by
  obtain⟨x,ex,hx⟩:=apg (l:=[.tup (ta++odd::td),.tup (as.map D.int++[.int 0]),.tup tf,.lst (as.map D.int),.non,.str "", .dct [],.tup [.tup (as.map D.int)]]) r3a r3b;refine⟨x,ex,?_⟩;simp only[bA,cI,or_false] at hx;rcases hx with rfl |rfl |rfl |rfl |rfl |rfl |rfl |rfl
  ·exact an8 (d:=odd) (by simp) hodd
  ·exact aga (by rw[bV];simp only[bF,lH];omega)
  ·exact aga (by omega)
  ·rfl
  ·rfl
  ·rfl
  ·rfl
  ·by_cases z:qv.length=1
   ·exact an8 (d:=.tup (as.map D.int)) (aZ ..) rfl
   ·exact aga (by simp only[bF,lH];omega)
 obtain⟨bad,eb,hb⟩:=hT;have q1:ta.length+1<=capS:=di (by omega)
 have q2:ta.length+1+td.length<=capS:=di (by omega)
 have q3:(as.map D.int).length+1<=capS:=di (by omega)
 have q4:(as.map D.int).length<=capS:=di (by omega)
 have big:fPow 10 30=ZZ 1000000000000000000000000000000:=by decide +kernel
 have hl3:=tu qv;refine⟨bad,P3,?_,hb⟩;generalize as.map D.int=la at *;simp only[hD] at *;generalize hDs qv=hh at *;have e1':f__law_draw [.own (ZZ 0) (pen P),.val (.int (hh.length:Int))]=ZZ (.ok (.v (.int k)),[.own (ZZ 0) (pen P1),.val (.int (hh.length:Int))]):=by rw[hl3];exact e1
 simp[f__law_no_walkers,aar,e1',big,e2,eo,e3,c1,c2,c3,q1,q2,q3,q4,eb]
end
def alr:nj [.val (.exn "NoWalkers" [])]=ZZ (.ok (.v (.str "walkers")),[.val (.exn "NoWalkers" [])]):=by kernel_rfl
def ap8:("NoWalkers" : Str)∈NS:=cO.mp (by decide +kernel)
def a83:gEq ZW (.str "walkers") (.str "open")=ZZ (.v (.bl ZW)):=by kernel_rfl
def aq0(qv:LL9):compD (ir 0) (ret ZX) wy (hDs qv) [] [.emp]=ZZ (.ok ((aD qv.length (0:Int)).map D.int),aeh .emp (hDs qv)::[]):=by
 rw[aeo (f:=λ_=>.int 0)]
 ·rw[fV,wC,List.map_const',tu]
 ·intro d _;simp[wy]
def afy:Sd:=(dIf (okS (jr (gEq ZW) (dh 0 (ret (.int 0))))) (xr (mFn yw [ZY,ZY,ZY] (az (okS (mVar 1)) (az (okS (mVar 2)) (az (okS (mVar 3)) fu))))) (dIf (okS (jr (gEq ZW) (dh 0 (ret (.int 1))))) (xr (mFn j7 [ZY,ZY,ZY,ZY] (az (okS (mVar 1)) (az (okS (mVar 2)) (az (okS (mVar 3)) (az (okS (ret .non)) fu)))))) (dIf (okS (jr (gEq ZW) (dh 0 (ret (.int 2))))) (xr (mFn mj [ZY,ZY,ZY,ZY] (az (okS (mVar 1)) (az (okS (mVar 2)) (az (okS (mVar 3)) (az (M.d (okS (mLst mNil))) fu)))))) (xr (mFn jq [ZY,ZY,ZY] (az (okS (mVar 1)) (az (okS (mVar 2)) (az (M.d (okS (gw (g1 gT9) (bc (M.d (zc [ZY] (aam (mVar 1)) (ir 0) (ret ZX) wy)) mNil)))) fu))))))))
def amu:ag9=dSeq (dTry NS afy 4 zy) (dRet (M.v (mTup (bc (ret (.str "told")) (bc (ret (.int 0)) mNil))))):=rfl
def flOf:Out Rv->Fl
 |.ok _=>.nx
 |.exc x=>.exc x
section
variable{hh a d:D}{r:Out Rv}{w:Int}
def way0(e:yw [.val hh,.val a,.val d]=ZZ (r,[.val hh,.val a,.val d])):afy [.val (.int 0),.val hh,.val a,.val d,.emp]=ZZ (flOf r,[.val (.int 0),.val hh,.val a,.val d,.emp]):=by
 cases r <;> simp[afy,e,flOf]
def way1(e:j7 [.val hh,.val a,.val d,.val .non]=ZZ (r,[.val hh,.val a,.val d,.val .non])):afy [.val (.int 1),.val hh,.val a,.val d,.emp]=ZZ (flOf r,[.val (.int 1),.val hh,.val a,.val d,.emp]):=by
 cases r <;> simp[afy,e,flOf]
def way2(e:mj [.val hh,.val a,.val d,.val (.lst [])]=ZZ (r,[.val hh,.val a,.val d,.val (.lst [])])):afy [.val (.int 2),.val hh,.val a,.val d,.emp]=ZZ (flOf r,[.val (.int 2),.val hh,.val a,.val d,.emp]):=by
 cases r <;> simp[afy,e,flOf]
def way3{hl zz:List D}{o:Sl}(z:compD (ir 0) (ret ZX) wy hl [] [.emp]=ZZ (.ok zz,[o]))(cz:zz.length<=capS)(e:jq [.val (.tup hl),.val a,.val (.tup zz)]=ZZ (r,[.val (.tup hl),.val a,.val (.tup zz)])):afy [.val (.int 3),.val (.tup hl),.val a,.val d,.emp]=ZZ (flOf r,[.val (.int 3),.val (.tup hl),.val a,.val d,.emp]):=by
 cases r <;> simp[afy,z,cz,e,flOf]
def aav{c:Str}{fs:List (Str×Int)}{wd:Str}(e:afy [.val (.int w),.val hh,.val a,.val d,.emp]=ZZ (.exc ⟨c,fs⟩,[.val (.int w),.val hh,.val a,.val d,.emp]))(n1:c∈NS)(k1:nj [.val (.exn c fs)]=ZZ (.ok (.v (.str wd)),[.val (.exn c fs)]))(q:gEq ZW (.str wd) (.str "open")=ZZ (.v (.bl ZW))) :
  dz [.val (.int w),.val hh,.val a,.val d]=ZZ (.ok (.v (.tup [.str wd,.int 0])),[.val (.int w),.val hh,.val a,.val d]):=by
 simp[dz,amu,zy,dTry,e,k1,n1,q]
def ako{i:Int}(e:afy [.val (.int w),.val hh,.val a,.val d,.emp]=ZZ (.exc ⟨"NotOpen", [("room", i)]⟩,[.val (.int w),.val hh,.val a,.val d,.emp])):dz [.val (.int w),.val hh,.val a,.val d]=ZZ (.ok (.v (.tup [.str "open", .int i])),[.val (.int w),.val hh,.val a,.val d]):=by
 have k1:=als i;have n1:=asq;have q:=a4q;simp[dz,amu,zy,dTry,e,k1,n1,q,adt,bK]
def ai4(e:afy [.val (.int w),.val hh,.val a,.val d,.emp]=ZZ (.nx,[.val (.int w),.val hh,.val a,.val d,.emp])):dz [.val (.int w),.val hh,.val a,.val d]=ZZ (.ok (.v (.tup [.str "told", .int 0])),[.val (.int w),.val hh,.val a,.val d]):=by
 simp[dz,amu,dTry,e]
end
def Way(w:Int):Prop:=w=0∨w=1∨w=2∨w=3
section
variable{qv:LL9}(h:Hs qv)
include h
theorem aaw{bad d:D}(hb:arrB qv bad=ZW){w:Int}(hw:Way w):dz [.val (.int w),.val (hD qv),.val bad,.val d]=ZZ (.ok (.v (.tup [.str "arrows", .int 0])),[.val (.int w),.val (hD qv),.val bad,.val d]):=by
 have hm:=h.most;have s0:=au1 h hb;have s1:dg [.val (hD qv),.val bad,.val d]=ZZ (.exc ⟨"NoArrows", []⟩,[.val (hD qv),.val bad,.val d]):=by
  generalize hD qv=hh at *;simp[dg,rz,s0]
 have k1:=anh;have n1:=asr;have q:=a84;have z:=aq0 qv;have cz:((aD qv.length (0:Int)).map D.int).length<=capS:=by rw[aL,dO];exact di (by omega)
 generalize (aD qv.length (0:Int)).map D.int=zz at *;rcases hw with rfl |rfl |rfl |rfl
 ·have e1:yw [.val (hD qv),.val bad,.val d]=ZZ (.exc ⟨"NoArrows", []⟩,[.val (hD qv),.val bad,.val d]):=by
   generalize hD qv=hh at *;simp[yw,aly,s1]
  generalize hD qv=hh at *;exact aav (way0 e1) n1 k1 q
 ·have e1:j7 [.val (hD qv),.val bad,.val d,.val .non]=ZZ (.exc ⟨"NoArrows", []⟩,[.val (hD qv),.val bad,.val d,.val .non]):=by
   generalize hD qv=hh at *;simp[j7,abz,s1]
  generalize hD qv=hh at *;exact aav (way1 e1) n1 k1 q
 ·have e1:mj [.val (hD qv),.val bad,.val d,.val (.lst [])]=ZZ (.exc ⟨"NoArrows", []⟩,[.val (hD qv),.val bad,.val d,.val (.lst [])]):=by
   generalize hD qv=hh at *;simp[mj,ael,s1]
  generalize hD qv=hh at *;exact aav (way2 e1) n1 k1 q
 ·have e1:jq [.val (hD qv),.val bad,.val (.tup zz)]=ZZ (.exc ⟨"NoArrows", []⟩,[.val (hD qv),.val bad,.val (.tup zz)]):=by
   generalize hD qv=hh at *;simp[jq,ab0,s0]
  simp only[hD] at *;generalize hDs qv=hh at *;exact aav (way3 z cz e1) n1 k1 q
theorem abj{as:List Int}(ha:Arr qv as){d:D}(hd:wkB qv.length d=ZW){w:Int}(hw:w=0∨w=1∨w=2):dz [.val (.int w),.val (hD qv),.val (.tup (as.map D.int)),.val d]=ZZ (.ok (.v (.tup [.str "walkers", .int 0])),[.val (.int w),.val (hD qv),.val (.tup (as.map D.int)),.val d]):=by
 have s0:=afc h ha;have e:=aei h d;rw[hd] at e;have s2:ig [.val (hD qv),.val d]=ZZ (.exc ⟨"NoWalkers", []⟩,[.val (hD qv),.val d]):=by
  generalize hD qv=hh at *;simp[ig,um,e]
 generalize as.map D.int=la at *;have s1:dg [.val (hD qv),.val (.tup la),.val d]=ZZ (.exc ⟨"NoWalkers", []⟩,[.val (hD qv),.val (.tup la),.val d]):=by
  generalize hD qv=hh at *;simp[dg,rz,s0,s2]
 have k1:=alr;have n1:=ap8;have q:=a83;rcases hw with rfl |rfl |rfl
 ·have e1:yw [.val (hD qv),.val (.tup la),.val d]=ZZ (.exc ⟨"NoWalkers", []⟩,[.val (hD qv),.val (.tup la),.val d]):=by
   generalize hD qv=hh at *;simp[yw,aly,s1]
  generalize hD qv=hh at *;exact aav (way0 e1) n1 k1 q
 ·have e1:j7 [.val (hD qv),.val (.tup la),.val d,.val .non]=ZZ (.exc ⟨"NoWalkers", []⟩,[.val (hD qv),.val (.tup la),.val d,.val .non]):=by
   generalize hD qv=hh at *;simp[j7,abz,s1]
  generalize hD qv=hh at *;exact aav (way1 e1) n1 k1 q
 ·have e1:mj [.val (hD qv),.val (.tup la),.val d,.val (.lst [])]=ZZ (.exc ⟨"NoWalkers", []⟩,[.val (hD qv),.val (.tup la),.val d,.val (.lst [])]):=by
   generalize hD qv=hh at *;simp[mj,ael,s1]
  generalize hD qv=hh at *;exact aav (way2 e1) n1 k1 q
theorem akn{as:List Int}(ha:Arr qv as){ws:List Int}(hW:Wk qv.length ws){i:Int}{r:List Int}(ht:wg qv=i::r){w:Int}(hw:w=0∨w=1):dz [.val (.int w),.val (hD qv),.val (.tup (as.map D.int)),.val (.tup (ws.map D.int))]=ZZ (.ok (.v (.tup [.str "open", .int i])),[.val (.int w),.val (hD qv),.val (.tup (as.map D.int)),.val (.tup (ws.map D.int))]):=by
 have s1:=af8 h ha hW;have s2:=av7 h ht;have k1:=als i;have n1:=asq;have q:=a4q;generalize as.map D.int=la at *;generalize ws.map D.int=lw at *;rcases hw with rfl |rfl
 ·have e1:yw [.val (hD qv),.val (.tup la),.val (.tup lw)]=ZZ (.exc ⟨"NotOpen", [("room", i)]⟩,[.val (hD qv),.val (.tup la),.val (.tup lw)]):=by
   generalize hD qv=hh at *;simp[yw,aly,s1,s2]
  generalize hD qv=hh at *;exact ako (way0 e1)
 ·have e1:j7 [.val (hD qv),.val (.tup la),.val (.tup lw),.val .non]=ZZ (.exc ⟨"NotOpen", [("room", i)]⟩,[.val (hD qv),.val (.tup la),.val (.tup lw),.val .non]):=by
   generalize hD qv=hh at *;simp[j7,abz,s1,s2]
  generalize hD qv=hh at *;exact ako (way1 e1)
theorem arf{as:List Int}(ha:Arr qv as){ws:List Int}(hW:Wk qv.length ws){w:Int}(hw:w=2∨w=3):dz [.val (.int w),.val (hD qv),.val (.tup (as.map D.int)),.val (.tup (ws.map D.int))]=ZZ (.ok (.v (.tup [.str "told", .int 0])),[.val (.int w),.val (hD qv),.val (.tup (as.map D.int)),.val (.tup (ws.map D.int))]):=by
 have hm:=h.most;rcases hw with rfl |rfl
 ·have e1:=as8 h ha hW;generalize as.map D.int=la at *;generalize ws.map D.int=lw at *;generalize hD qv=hh at *;exact ai4 (way2 e1)
 ·have s0:=afc h ha;have s3:=amr h (as:=as) (gs:=aD qv.length 0) ha.len dO;have z:=aq0 qv;have cz:((aD qv.length (0:Int)).map D.int).length<=capS:=by rw[aL,dO];exact di (by omega)
  generalize (aD qv.length (0:Int)).map D.int=zz at *;generalize uAll qv as (aD qv.length 0) qv.length=uu at *;generalize as.map D.int=la at *;generalize ws.map D.int=lw at *;have e1:jq [.val (hD qv),.val (.tup la),.val (.tup zz)]=ZZ (.ok (.v (.tup uu)),[.val (hD qv),.val (.tup la),.val (.tup zz)]):=by
   generalize hD qv=hh at *;simp[jq,ab0,s0,s3]
  simp only[hD] at *;generalize hDs qv=hh at *;exact ai4 (way3 z cz e1)
end
def aws(neg:Bool)(a b:List Int):gEq neg (.lst (a.map D.int)) (.lst (b.map D.int))=ZZ (.v (.bl (if neg then !decide (a=b) else decide (a=b)))):=by
 have h1:okD 30 (.lst (a.map D.int))=ZX:=alc 29 a;have h2:okD 30 (.lst (b.map D.int))=ZX:=alc 29 b;have h3:eqD (.lst (a.map D.int)) (.lst (b.map D.int))=decide (a=b):=by
  rw[<-aj4];exact aj3 _ _
 simp only[gEq,h1,h2,h3];rfl
def a4r{qv:LL9}(h:Hs qv):compD (ir 0) yg ye (lu 0 qv.length) [] [.emp,.val (hD qv)]=ZZ (.ok ((wg qv).map D.int),aeh .emp (lu 0 qv.length)::[.val (hD qv)]):=by
 rw[aa1,wz (p:=λd=>match d with |.int k=>caught qv k |_=>ZW) (f:=id)]
 ·simp only[wg,sJ,oE,List.map_id,fV]
 ·intro d hd;obtain⟨k,hk,rfl⟩:=fW.mp hd;obtain⟨ns,e,hne,hm⟩:=afm h (S:=.val (hD qv)) (.inl rfl) (vz hk);have em:=ao3 hne;have:decide (0<=minI ns)=caught qv k:=by
   by_cases z:0<=minI ns
   ·have:caught qv k=ZX:=(ux qv k).mpr λx hx=>(af3 hne).mp z x ((hm x).mpr hx)
    rw[this];simp[z]
   ·have:caught qv k=ZW:=xQ.mpr λy=>z ((af3 hne).mpr λx hx=>(ux qv k).mp y x ((hm x).mp hx))
    rw[this];simp[z]
  simp[yg,e,em,this]
 ·intro d hd _;simp[ye]
def akj(P:Int×Int){qv:LL9}(h:Hs qv):∃(ws:List Int) (P':Int×Int),oh [.own (ZZ 0) (pen P),.val (hD qv),.val (.int 3)]=ZZ (.ok (.v (.tup (ws.map D.int))),[.own (ZZ 0) (pen P'),.val (hD qv),.val (.int 3)])/\ws.length=qv.length/\∀w∈ws,0<=w/\w<=3:=by
 have comp:=ab8 (b:=ir 0) (mc:=ret ZX) (me:=yx) (λj ys ρ=>∃ns P o,ρ=[o,.own (ZZ 1) (pen P),.val (.int 3)]/\ys=ns.map D.int/\ns.length=j/\∀w∈ns,0<=w/\w<=3)
  (l:=hDs qv) (ys:=[]) (ρ:=[.emp,.own (ZZ 1) (pen P),.val (.int 3)]) 0 ⟨[],P,.emp,rfl,rfl,rfl,by simp⟩ ?_
 ·obtain⟨ys,ρ',e6,ns,P6,o,rfl,rfl,hn,hx⟩:=comp;rw[tu,kZ] at hn;have hm:=h.most;have hc:(ns.map D.int).length<=capS:=by rw[aL,hn];exact di (by omega)
  refine⟨ns,P6,?_,hn,hx⟩;generalize ns.map D.int=nn at *;simp only[hD] at *;simp[oh,acv,e6,hc]
 ·rintro j d ys ρ hd ⟨ns,P6,o,rfl,rfl,hn,hx⟩
  obtain⟨r7,P7,e7,r7a,r7b⟩:=lg P6 6 (by decide) (by decide)
  have hv:∃v:Int,(if r7-2 > 0 then r7-2 else 0)=v/\0<=v/\v<=3:=⟨_,rfl,by split <;> omega,by split <;> omega⟩
  obtain⟨v,hv,v0,v1⟩:=hv;refine⟨[.val d,.own (ZZ 1) (pen P6),.val (.int 3)],_,ZX,by simp,rfl,.inr ⟨rfl,.int v,[.val d,.own (ZZ 1) (pen P7),.val (.int 3)],by rw[<-hv];simp[yx,e7],ns++[v],P7,_,rfl,by simp,by simp[hn],λw hw=>?_⟩⟩
  rcases cU.mp hw with q |q
  ·exact hx w q
  ·rw[dF] at q;omega
def sx3:∀k,k<=5->3*k*sx 3 k<100000:=by decide +kernel
section
variable{qv:LL9}(h:Hs qv)(h5:qv.length<=5)(h3:∀r∈qv,r.length<=3)
include h h5 h3
theorem arh{as:List Int}(ha:Arr qv as){ws:List Int}(hwl:ws.length=qv.length)(hw0:∀w∈ws,0<=w/\w<=((3:Nat):Int))(hop:wg qv=[]){w:Int}(hw:w=0∨w=1):dz [.val (.int w),.val (hD qv),.val (.tup (as.map D.int)),.val (.tup (ws.map D.int))]=ZZ (.ok (.v (.tup [.str "told", .int 0])),[.val (.int w),.val (hD qv),.val (.tup (as.map D.int)),.val (.tup (ws.map D.int))]):=by
 have hW:Wk qv.length ws:=⟨hwl,λw hw'=>by have:=hw0 w hw';omega⟩
 rcases hw with rfl |rfl
 ·obtain⟨S,l1,s1⟩:=ayy h ha (ws:=ws) hop (W:=3) (b:=3) (by decide) h3 hwl hw0 (by decide) (sx3 _ h5)
  have e1:=rest_eq h ha (ws:=ws) hop (W:=3) (b:=3) (by decide) h3 hwl hw0 (by decide) (sx3 _ h5) l1 s1
  generalize D.tup [.tup ((gts qv as S).map D.int),.tup ((go qv as S).map D.int),.tup ((tal qv.length S).map D.int)]=R at *;generalize as.map D.int=la at *;generalize ws.map D.int=lw at *;generalize hD qv=hh at *;exact ai4 (way0 e1)
 ·have s0:=af8 h ha hW;have s1:=aqh h hop;have hl3:=tu qv;have t:=uy .non (qv.length:Int) (qv.length:Int);have s2:u5 [.val (hD qv),.val .non]=ZZ (.ok (.v (.bl ZW)),[.val (hD qv),.val .non]):=by
   simp only[hD] at *;simp[u5,aem,hl3,t,tupB]
  generalize as.map D.int=la at *;generalize ws.map D.int=lw at *;have e1:j7 [.val (hD qv),.val (.tup la),.val (.tup lw),.val .non]=ZZ (.ok (.v (.bl ZW)),[.val (hD qv),.val (.tup la),.val (.tup lw),.val .non]):=by
   generalize hD qv=hh at *;simp[j7,abz,s0,s1,s2]
  generalize hD qv=hh at *;exact ai4 (way1 e1)
omit h h5 h3 in
theorem seqR{g1 g2:Sd}{ρ ρ':Ro}(h1:g1 ρ=ZZ (.nx,ρ')):dSeq g1 g2 ρ=g2 ρ':=by simp[h1]
omit h h5 h3 in
theorem zg{w:Int}{hh ba wo so th V ue:D}(t1:dz [.val (.int w),.val hh,.val ba,.val wo]=ZZ (.ok (.v (.tup [.str "arrows", .int 0])),[.val (.int w),.val hh,.val ba,.val wo]))(t2:dz [.val (.int w),.val hh,.val ba,.val th]=ZZ (.ok (.v (.tup [.str "arrows", .int 0])),[.val (.int w),.val hh,.val ba,.val th]))(qa:gEq ZX (.tup [.str "arrows", .int 0]) (.tup [.str "arrows", .int 0])=ZZ (.v (.bl ZW)))(u:w<3->dz [.val (.int w),.val hh,.val so,.val wo]=ZZ (.ok (.v (.tup [.str "walkers", .int 0])),[.val (.int w),.val hh,.val so,.val wo]))(qw:gEq ZX (.tup [.str "walkers", .int 0]) (.tup [.str "walkers", .int 0])=ZZ (.v (.bl ZW)))(tv:dz [.val (.int w),.val hh,.val so,.val th]=ZZ (.ok (.v V),[.val (.int w),.val hh,.val so,.val th]))(q:gEq ZX V (if w<2 then ue else .tup [.str "told", .int 0])=ZZ (.v (.bl ZW)))(c0 c6:Sl):ju [c0,.val hh,.val so,.val th,.val ba,.val wo,c6,.val ue,.val (.int w)]=ZZ (.nx,[c0,.val hh,.val so,.val th,.val ba,.val wo,c6,.val ue,.val (.int w)]):=by
 unfold ju;refine(seqR (ρ':=[c0,.val hh,.val so,.val th,.val ba,.val wo,c6,.val ue,.val (.int w)]) (by simp[t1,t2,qa])).trans ?_
 refine(seqR (ρ':=[c0,.val hh,.val so,.val th,.val ba,.val wo,c6,.val ue,.val (.int w)]) ?_).trans ?_
 ·by_cases h3:w<3
  ·have u:=u h3;simp[h3,u,qw]
  ·simp[h3]
 ·by_cases h2:w<2
  ·rw[if_pos h2] at q;simp[tv,h2,q]
  ·rw[if_neg h2] at q;simp[tv,h2,q]
omit h h5 h3 in
theorem ao4{hh bad worse so th due:D}{c0 c6:Sl}(s0:ju [c0,.val hh,.val so,.val th,.val bad,.val worse,c6,.val due,.val (.int 0)]=ZZ (.nx,[c0,.val hh,.val so,.val th,.val bad,.val worse,c6,.val due,.val (.int 0)]))(s1:ju [c0,.val hh,.val so,.val th,.val bad,.val worse,c6,.val due,.val (.int 1)]=ZZ (.nx,[c0,.val hh,.val so,.val th,.val bad,.val worse,c6,.val due,.val (.int 1)]))(s2:ju [c0,.val hh,.val so,.val th,.val bad,.val worse,c6,.val due,.val (.int 2)]=ZZ (.nx,[c0,.val hh,.val so,.val th,.val bad,.val worse,c6,.val due,.val (.int 2)]))(s3:ju [c0,.val hh,.val so,.val th,.val bad,.val worse,c6,.val due,.val (.int 3)]=ZZ (.nx,[c0,.val hh,.val so,.val th,.val bad,.val worse,c6,.val due,.val (.int 3)])):forD (ir 8) ju (lu 0 4) [c0,.val hh,.val so,.val th,.val bad,.val worse,c6,.val due,.emp]=ZZ (.nx,[c0,.val hh,.val so,.val th,.val bad,.val worse,c6,.val due,.val (.int 3)]):=by
 have r4:lu 0 4=[.int 0,.int 1,.int 2,.int 3]:=rfl;simp[r4,ab2,s0,s1,s2,s3]
omit h h5 h3 in
theorem akz{p p1 p2 p3 p4 hl la lw LL:List D}{bad worse due:D}{o c8:Sl}(e1:f__law_drawn [.own (ZZ 0) p,.val (.tup hl)]=ZZ (.ok (.v (.tup la)),[.own (ZZ 0) p1,.val (.tup hl)]))(e2:oh [.own (ZZ 0) p1,.val (.tup hl),.val (.int 3)]=ZZ (.ok (.v (.tup lw)),[.own (ZZ 0) p2,.val (.tup hl),.val (.int 3)]))(e3:f__law_no_arrows [.own (ZZ 0) p2,.val (.tup hl),.val (.tup la)]=ZZ (.ok (.v bad),[.own (ZZ 0) p3,.val (.tup hl),.val (.tup la)]))(e4:f__law_no_walkers [.own (ZZ 0) p3,.val (.tup hl),.val (.tup lw)]=ZZ (.ok (.v worse),[.own (ZZ 0) p4,.val (.tup hl),.val (.tup lw)]))
  (hb:hl.length<4611686018427387904) (e5:compD (ir 0) yg ye (lu 0 hl.length) [] [.emp,.val (.tup hl)]=ZZ (.ok LL,[o,.val (.tup hl)])) (hc:LL.length<=capS)
  (f:(dSeq (dSet 7 (mIf (jr (gEq ZX) (dh 6 (M.d (mLst mNil)))) (M.v (mTup (bc (ret (.str "open")) (bc (M.d (mOp gIx (dh 6 (ret (.int 0))))) mNil)))) (M.v (mTup (bc (ret (.str "told")) (bc (ret (.int 0)) mNil)))))) (dSeq (dFor (mGet vo (bc (ret (.int 4)) mNil)) (ir 8) ju) (dRet (M.v (ret (.bl ZX)))))) [.own (ZZ 0) p4,.val (.tup hl),.val (.tup la),.val (.tup lw),.val bad,.val worse,.own ZY LL,.emp,.emp]=ZZ (.ret (.v (.bl ZX)),[.own (ZZ 0) p4,.val (.tup hl),.val (.tup la),.val (.tup lw),.val bad,.val worse,.own ZY LL,.val due,c8])) :
  f__law_right [.own (ZZ 0) p,.val (.tup hl)]=ZZ (.ok (.v (.bl ZX)),[.own (ZZ 0) p4,.val (.tup hl)]):=by
 have e:ab1 [.own (ZZ 0) p,.val (.tup hl),.emp,.emp,.emp,.emp,.emp,.emp,.emp]=ZZ (.ret (.v (.bl ZX)),[.own (ZZ 0) p4,.val (.tup hl),.val (.tup la),.val (.tup lw),.val bad,.val worse,.own ZY LL,.val due,c8]):=by
  unfold ab1;refine(seqR (ρ':=[.own (ZZ 0) p2,.val (.tup hl),.val (.tup la),.val (.tup lw),.emp,.emp,.emp,.emp,.emp]) (by simp[e1,e2])).trans ?_
  refine(seqR (ρ':=[.own (ZZ 0) p4,.val (.tup hl),.val (.tup la),.val (.tup lw),.val bad,.val worse,.emp,.emp,.emp]) (by simp[e3,e4])).trans ?_
  refine(seqR (ρ':=[.own (ZZ 0) p4,.val (.tup hl),.val (.tup la),.val (.tup lw),.val bad,.val worse,.own ZY LL,.emp,.emp]) (by simp[hb,e5,hc])).trans ?_
  exact f
 simp[f__law_right,e]
theorem acg(P:Int×Int):∃P',f__law_right [.own (ZZ 0) (pen P),.val (hD qv)]=ZZ (.ok (.v (.bl ZX)),[.own (ZZ 0) (pen P'),.val (hD qv)]):=by
 have hm:=h.most;obtain⟨as,P1,e1,ha⟩:=an6 P h;obtain⟨ws,P2,e2,hwl,hw0⟩:=akj P1 h;have hw0':∀w∈ws,0<=w/\w<=((3:Nat):Int):=λw hw=>by have:=hw0 w hw;omega
 have hW:Wk qv.length ws:=⟨hwl,λw hw'=>by have:=hw0' w hw';omega⟩
 obtain⟨bad,P3,e3,hb⟩:=ah4 h ha P2;obtain⟨worse,P4,e4,hwo⟩:=agt h hW P3;have e5:=a4r h;have hl:=tu qv;have hbig:qv.length<4611686018427387904:=by omega
 have tl:(wg qv).length<=qv.length:=by
  have:=jN (caught qv) (upto qv.length);have u:(upto qv.length).length=qv.length:=by simp[upto]
  rw[u] at this;exact this
 have hc:((wg qv).map D.int).length<=capS:=by rw[aL];exact di (by omega)
 have qa:gEq ZX (.tup [.str "arrows", .int 0]) (.tup [.str "arrows", .int 0])=ZZ (.v (.bl ZW)):=by rw[at7];simp
 have qw:gEq ZX (.tup [.str "walkers", .int 0]) (.tup [.str "walkers", .int 0])=ZZ (.v (.bl ZW)):=by kernel_rfl
 have qt:gEq ZX (.tup [.str "told", .int 0]) (.tup [.str "told", .int 0])=ZZ (.v (.bl ZW)):=by rw[a0t];simp
 have t0:=λ{d:D}=>aaw h (d:=d) hb (w:=0) (.inl rfl)
 have t1:=λ{d:D}=>aaw h (d:=d) hb (w:=1) (.inr (.inl rfl))
 have t2:=λ{d:D}=>aaw h (d:=d) hb (w:=2) (.inr (.inr (.inl rfl)))
 have t3:=λ{d:D}=>aaw h (d:=d) hb (w:=3) (.inr (.inr (.inr rfl)))
 have u0:=abj h ha hwo (w:=0) (.inl rfl);have u1:=abj h ha hwo (w:=1) (.inr (.inl rfl));have u2:=abj h ha hwo (w:=2) (.inr (.inr rfl));have v2:=arf h ha hW (w:=2) (.inl rfl);have v3:=arf h ha hW (w:=3) (.inr rfl);refine⟨P4,?_⟩;cases ht:wg qv with
 |nil=>
  have v0:=arh h h5 h3 ha hwl hw0' ht (w:=0) (.inl rfl);have v1:=arh h h5 h3 ha hwl hw0' ht (w:=1) (.inr rfl);rw[ht] at e5;have z:gEq ZX (.lst []) (.lst [])=ZZ (.v (.bl ZW)):=by kernel_rfl
  generalize as.map D.int=la at *;generalize ws.map D.int=lw at *;simp only[hD] at *;generalize hDs qv=hh at *;have f:=ao4 (due:=.tup [.str "told", .int 0]) (c0:=.own (ZZ 0) (pen P4)) (c6:=.own ZY []) (zg t0 t0 qa (λ_=>u0) qw v0 qt _ _) (zg t1 t1 qa (λ_=>u1) qw v1 qt _ _) (zg t2 t2 qa (λ_=>u2) qw v2 qt _ _) (zg t3 t3 qa (λz=>absurd z (by decide)) qw v3 qt _ _)
  rw[<-hl] at hbig e5;exact akz (c8:=.val (.int 3)) (due:=.tup [.str "told", .int 0]) e1 e2 e3 e4 hbig e5 (dN _) (by simp[z,f])
 |cons i rr=>
  have v0:=akn h ha hW ht (w:=0) (.inl rfl);have v1:=akn h ha hW ht (w:=1) (.inr rfl);rw[ht,bC] at e5 hc;have z:gEq ZX (.lst (D.int i::rr.map D.int)) (.lst [])=ZZ (.v (.bl ZX)):=aws ZX (i::rr) [];have a0:atI (D.int i::rr.map D.int) 0=ZZ (.int i):=at0 _ _;have qo:gEq ZX (.tup [.str "open", .int i]) (.tup [.str "open", .int i])=ZZ (.v (.bl ZW)):=by rw[a0u];simp
  generalize D.int i::rr.map D.int=LL at *;generalize as.map D.int=la at *;generalize ws.map D.int=lw at *;simp only[hD] at *;generalize hDs qv=hh at *;have f:=ao4 (due:=.tup [.str "open", .int i]) (c0:=.own (ZZ 0) (pen P4)) (c6:=.own ZY LL) (zg t0 t0 qa (λ_=>u0) qw v0 qo _ _) (zg t1 t1 qa (λ_=>u1) qw v1 qo _ _) (zg t2 t2 qa (λ_=>u2) qw v2 qt _ _) (zg t3 t3 qa (λz=>absurd z (by decide)) qw v3 qt _ _)
  rw[<-hl] at hbig e5;exact akz (c8:=.val (.int 3)) (due:=.tup [.str "open", .int i]) e1 e2 e3 e4 hbig e5 hc (by simp[z,a0,f])
end
def a8c(S:D)(n:Int)(a2:Sl):∃b2,l1_law [.val S,.val (.int n),a2]=ZZ (.nx,[.val S,.val (.int n),b2]):=by
 obtain⟨P,e0⟩:=ajh n;obtain⟨qv,P1,e1,hk⟩:=aiq P 5 3 (by decide) (by decide) (by decide) (by decide)
 have h:Hs qv:=hk.hs (by decide) (by decide)
 obtain⟨P2,e2⟩:=acg h (by have:=hk.most;omega) (λr hr=>by have:=(hk.room r hr).2.1;omega) P1
 obtain⟨other,P3,e3,h',_,hle,hw⟩:=open_spec P2 5 3 (by decide) (by decide) (by decide) (by decide)
 obtain⟨P4,e4⟩:=acg h' (by omega) (λr hr=>hw r hr) P3
 refine⟨.own ZY (pen P4),?_⟩;generalize hD qv=hh at *;generalize hD other=ho at *;simp[l1_law,e0,e1,e2,e3,e4]
theorem a3r(S:D):∀(ns:List Int) (q a2:Sl),∃ρ,forD (ir 1) l1_law (ns.map D.int) [.val S,q,a2]=ZZ (.nx,.val S::ρ)
 | [],q,a2=>⟨_,rfl⟩
 |n::r,q,a2=>by
  obtain⟨b2,z⟩:=a8c S n a2;obtain⟨ρ,z2⟩:=a3r S r (.val (.int n)) b2;exact⟨ρ,by rw[bC,ab2];simp[z,z2]⟩
def awg:an7 aty:=λns hn=>by
 obtain⟨n0,e0⟩:=auj ns 0 (by decide)
 obtain⟨ms,em,hm⟩:=aue ns (ZZ 1) (ZZ 5);have hc:1+ms.length<=capS:=di (by omega)
 obtain⟨ρ,q⟩:=a3r (.kst (ns.map D.int)) (n0::ms) .emp .emp;simp only[bC] at q;obtain⟨P,p0⟩:=ajh 0;obtain⟨P1,r0⟩:=acg (qv:=[[0]]) ⟨by decide,by decide,by decide⟩ (by decide) (by decide) P
 obtain⟨Q,p1⟩:=ajh 1;obtain⟨Q1,r1⟩:=acg (qv:=[[-1]]) ⟨by decide,by decide,by decide⟩ (by decide) (by decide) Q
 have r0:f__law_right [.own (ZZ 0) (pen P),.val (.tup [.tup [.int 0]])]=ZZ (.ok (.v (.bl ZX)),[.own (ZZ 0) (pen P1),.val (.tup [.tup [.int 0]])]):=r0;have r1:f__law_right [.own (ZZ 0) (pen Q),.val (.tup [.tup [.int (-1)]])]=ZZ (.ok (.v (.bl ZX)),[.own (ZZ 0) (pen Q1),.val (.tup [.tup [.int (-1)]])]):=r1;simp[aty,a4h,p0,p1,r0,r1,e0,em,hc,q]
end My
set_option maxHeartbeats 0
namespace My
open PySem L2 Mn Dn
noncomputable def top(i:Nat):gK:=PySem.Challenge.pw_turnarrows_k17_rests_refused.main.body.getD i (.Pass ⟨0,0,0,0⟩)
abbrev aew:gK:=top 15
def am1:FnScope ["thing"] ["thing"] (ao aew):=mkSc rfl rfl rfl rfl (by decide +kernel)
abbrev u9:gK:=top 16
def adx:FnScope ["thing","least","most"] ["thing","least","most"] (ao u9):=mkSc rfl rfl rfl rfl (by decide +kernel)
abbrev vd:gK:=top 17
def ady:FnScope ["thing","least","most"] ["thing","least","most"] (ao vd):=mkSc rfl rfl rfl rfl (by decide +kernel)
abbrev xj:gK:=top 20
def aev:FnScope ["house","thing"] ["house","thing"] (ao xj):=mkSc rfl rfl rfl rfl (by decide +kernel)
abbrev arw:gK:=top 21
def agj:FnScope ["house","staying","many"] ["house"] (ao arw):=mkSc rfl rfl rfl rfl (by decide +kernel)
abbrev qz:gK:=top 22
def qb:FnScope ["house","rooms"] ["house"] (ao qz):=mkSc rfl rfl rfl rfl (by decide +kernel)
abbrev ac5:gK:=top 24
def akx:FnScope ["house","thing"] ["house","thing"] (ao ac5):=mkSc rfl rfl rfl rfl (by decide +kernel)
abbrev qe:gK:=top 25
def yp:FnScope ["house","thing"] ["house","thing"] (ao qe):=mkSc rfl rfl rfl rfl (by decide +kernel)
abbrev ac3:gK:=top 26
def aku:FnScope ["house","arrows","turns"] ["house","arrows","turns"] (ao ac3):=mkSc rfl rfl rfl rfl (by decide +kernel)
abbrev ac4:gK:=top 27
def akv:FnScope ["house","arrows"] ["house","arrows"] (ao ac4):=mkSc rfl rfl rfl rfl (by decide +kernel)
abbrev aaz:gK:=top 28
def ug:FnScope ["last","rooms","staying","many"] ["last","rooms"] (ao aaz):=mkSc rfl rfl rfl rfl (by decide +kernel)
abbrev abl:gK:=top 31
def aja:FnScope ["house","thing","most"] ["house","thing","most"] (ao abl):=mkSc rfl rfl rfl rfl (by decide +kernel)
abbrev mz:gK:=top 32
def xu:FnScope ["house","thing"] ["house","thing"] (ao mz):=mkSc rfl rfl rfl rfl (by decide +kernel)
abbrev agm:gK:=top 33
def acf:FnScope ["doors_many","arrow","leavings","uses","door","behind"] ["doors_many","arrow","leavings"] (ao agm):=mkSc rfl rfl rfl rfl (by decide +kernel)
abbrev aax:gK:=top 34
def uf:FnScope ["house","arrows","leavings","told","doors","arrow","many"] ["house","arrows","leavings"] (ao aax):=mkSc rfl rfl rfl rfl (by decide +kernel)
abbrev agn:gK:=top 36
def aeu:FnScope ["house","arrows","walkers","crowd","room","crowd.turning","crowd.standing","crowd.gone","crowd.left"] ["house","arrows","walkers"] (ao agn):=mkSc rfl rfl rfl rfl (by decide +kernel)
abbrev rm:gK:=top 37
def zj:FnScope ["house","arrows","walkers"] ["house","arrows","walkers"] (ao rm):=mkSc rfl rfl rfl rfl (by decide +kernel)
abbrev aof:gK:=top 38
def art:FnScope ["house","arrows","walkers"] ["house","arrows","walkers"] (ao aof):=mkSc rfl rfl rfl rfl (by decide +kernel)
abbrev ad1:gK:=top 39
def nu:FnScope ["house","arrows","walkers","rooms","crowd","at","room","crowd.turning","crowd.standing","crowd.gone","crowd.left"] ["house","arrows","walkers","rooms"] (ao ad1):=mkSc rfl rfl rfl rfl (by decide +kernel)
abbrev zq:gK:=top 40
def adz:FnScope ["house","arrows","leavings"] ["house","arrows","leavings"] (ao zq):=mkSc rfl rfl rfl rfl (by decide +kernel)
abbrev aay:gK:=top 41
def ahy:FnScope ["house","thing"] ["house","thing"] (ao aay):=mkSc rfl rfl rfl rfl (by decide +kernel)
abbrev ago:gK:=top 42
def yl:FnScope ["house","uses","come","doors","times","door","many"] ["house","uses"] (ao ago):=mkSc rfl rfl rfl rfl (by decide +kernel)
abbrev ad2:gK:=top 43
def yj:FnScope ["house","arrows","walkers","thing","come","last"] ["house","arrows","walkers","thing"] (ao ad2):=mkSc rfl rfl rfl rfl (by decide +kernel)
abbrev ac9:gK:=top 45
def aky:FnScope ["script","k"] ["script","k"] (ao ac9):=mkSc rfl rfl rfl rfl (by decide +kernel)
abbrev aex:gK:=top 46
def agl:FnScope ["cell","left"] ["cell"] (ao aex):=mkSc rfl rfl rfl rfl (by decide +kernel)
abbrev ac8:gK:=top 47
def wj:FnScope ["pen","many","left","found","stir"] ["pen","many"] (ao ac8):=mkSc rfl rfl rfl rfl (by decide +kernel)
abbrev zr:gK:=top 48
def ad0:FnScope ["thing"] ["thing"] (ao zr):=mkSc rfl rfl rfl rfl (by decide +kernel)
abbrev abn:gK:=top 50
def qy:FnScope ["pen","most","doors","many","gates","house","room","wide"] ["pen","most","doors"] (ao abn):=mkSc rfl rfl rfl rfl (by decide +kernel)
abbrev aac:gK:=top 51
def qm:FnScope ["house","room","found","at"] ["house","room"] (ao aac):=mkSc rfl rfl rfl rfl (by decide +kernel)
abbrev ac7:gK:=top 52
def zm:FnScope ["pen","most","doors","house","room","at"] ["pen","most","doors"] (ao ac7):=mkSc rfl rfl rfl rfl (by decide +kernel)
abbrev abo:gK:=top 53
def ajb:FnScope ["pen","house"] ["pen","house"] (ao abo):=mkSc rfl rfl rfl rfl (by decide +kernel)
abbrev aa0:gK:=top 54
def jy:FnScope ["e","marks","words"] ["e"] (ao aa0):=mkSc rfl rfl rfl rfl (by decide +kernel)
abbrev aab:gK:=top 55
def agk:FnScope ["pen","house","most"] ["pen","house","most"] (ao aab):=mkSc rfl rfl rfl rfl (by decide +kernel)
abbrev ac6:gK:=top 56
def afj:FnScope ["way","house","some","there","e"] ["way","house","some","there"] (ao ac6):=mkSc rfl rfl rfl rfl (by decide +kernel)
abbrev xm:gK:=top 57
def qx:FnScope ["pen","house","some","at","odd","rows"] ["pen","house","some"] (ao xm):=mkSc rfl rfl rfl rfl (by decide +kernel)
abbrev vg:gK:=top 58
def qd:FnScope ["pen","house","there","at","odd","rows"] ["pen","house","there"] (ao vg):=mkSc rfl rfl rfl rfl (by decide +kernel)
abbrev abm:gK:=top 59
def qu:FnScope ["pen","house","some","there","bad","worse","shut","due","way"] ["pen","house"] (ao abm):=mkSc rfl rfl rfl rfl (by decide +kernel)
abbrev ajd:gK:=top 60
def aru:FnScope ["script","cell","pen"] ["script"] (ao ajd):=mkSc rfl rfl rfl rfl (by decide +kernel)
abbrev ut:gK:=ax3 (top 35) 0
def ajc:FnScope ["self","house","arrows","walkers"] ["self","house","arrows","walkers"] (ao ut):=mkSc rfl rfl rfl rfl (by decide +kernel)
abbrev j4:gK:=ax3 (top 35) 1
def kh:FnScope ["self","room","many","self.turning","self.standing","self.gone","self.left","doors","uses","door","times"] ["self","room","many"] (ao j4):=mkSc rfl rfl rfl rfl (by decide +kernel)
theorem lnS{k:Nat}{us:List aG}(h:us.length=k+1):∃a r,us=a::r/\r.length=k:=by
 cases us with
 |nil=>cases h
 |cons a r=>exact⟨a,r,rfl,Nat.succ.inj h⟩
def ln1{us:List aG}(h:us.length=1):∃a0,us=[a0]:=by
 obtain⟨a,r,rfl,h'⟩:=lnS h;cases List.eq_nil_of_length_eq_zero h';exact⟨a,rfl⟩
def ln2{us:List aG}(h:us.length=2):∃a0 a1,us=[a0,a1]:=by
 obtain⟨a,r,rfl,h'⟩:=lnS h;obtain⟨_,rfl⟩:=ln1 h';exact⟨_,_,rfl⟩
def ln3{us:List aG}(h:us.length=3):∃a0 a1 a2,us=[a0,a1,a2]:=by
 obtain⟨a,r,rfl,h'⟩:=lnS h;obtain⟨_,_,rfl⟩:=ln2 h';exact⟨_,_,_,rfl⟩
def ln4{us:List aG}(h:us.length=4):∃a0 a1 a2 a3,us=[a0,a1,a2,a3]:=by
 obtain⟨a,r,rfl,h'⟩:=lnS h;obtain⟨_,_,_,rfl⟩:=ln3 h';exact⟨_,_,_,_,rfl⟩
abbrev yh:gK:=auf (top 10)
def am0:FnScope ["self","room"] ["self","room"] (ao yh):=mkSc rfl rfl rfl rfl (by decide +kernel)
abbrev aak:gK:=auf (top 11)
def apv:FnScope ["self","at"] ["self","at"] (ao aak):=mkSc rfl rfl rfl rfl (by decide +kernel)
structure Txt (K:Fg9) (mg:Str->Option aG):Prop where
 c_GATES_MANY:∃t,mg "GATES_MANY"=ZZ (.int 3 t)
 c_MOST_WALKERS:∃t,mg "MOST_WALKERS"=ZZ (.int 100 t)
 z_ValueError:mg "ValueError"=ZY
 z_all:mg "all"=ZY
 z_any:mg "any"=ZY
 z_bool:mg "bool"=ZY
 z_divmod:mg "divmod"=ZY
 z_enumerate:mg "enumerate"=ZY
 z_int:mg "int"=ZY
 z_isinstance:mg "isinstance"=ZY
 z_len:mg "len"=ZY
 z_list:mg "list"=ZY
 z_max:mg "max"=ZY
 z_min:mg "min"=ZY
 z_range:mg "range"=ZY
 z_set:mg "set"=ZY
 z_sorted:mg "sorted"=ZY
 z_tuple:mg "tuple"=ZY
 z_zip:mg "zip"=ZY
 f_Crowd_house:FldT K "Crowd" "house"
 f_Crowd_turning:FldT K "Crowd" "turning"
 f_Crowd_standing:FldT K "Crowd" "standing"
 f_Crowd_gone:FldT K "Crowd" "gone"
 f_Crowd_left:FldT K "Crowd" "left"
 sub:ai7 K NS=ZX
 cat:CatT K mg
 k_ArrowError:ClsT K mg "ArrowError"
 k_NoArrows:ClsT K mg "NoArrows"
 k_NoRoom:ClsT K mg "NoRoom"
 k_NoWalkers:ClsT K mg "NoWalkers"
 k_NotShut:ClsT K mg "NotShut"
 k_NeverBack:ClsT K mg "NeverBack"
 k_NoTour:ClsT K mg "NoTour"
 k_NoRow:ClsT K mg "NoRow"
 k_NoHouse:ClsT K mg "NoHouse"
 k_NotOpen:ClsT K mg "NotOpen"
 k_Nobody:ClsT K mg "Nobody"
 k_NoText:ClsT K mg "NoText"
 k_TooGreat:ClsT K mg "TooGreat"
 r_ArrowError:RaiT K mg "ArrowError"
 r_NoArrows:RaiT K mg "NoArrows"
 r_NoRoom:RaiT K mg "NoRoom"
 r_NoWalkers:RaiT K mg "NoWalkers"
 r_NotShut:RaiT K mg "NotShut"
 r_NeverBack:RaiT K mg "NeverBack"
 r_NoTour:RaiT K mg "NoTour"
 r_NoRow:RaiT K mg "NoRow"
 i_NotOpen:IniT K mg "NotOpen" "room" "NotOpen.__init__" yh
 i_Nobody:IniT K mg "Nobody" "at" "Nobody.__init__" aak
 n_room:a0n K ["NotOpen"] "room"=ZX
section
variable(P:bT)(w:dB)(K:Fg9)(mg:Str->Option aG)(base:eE)
abbrev Dd0:Prop:=Dfn P w K mg base "is_whole" ["thing"] 1 (spOf K 1 ym)
abbrev Dd1:Prop:=Dfn P w K mg base "is_whole_within" ["thing","least","most"] 2 (spOf K 3 jf)
abbrev Dd4:Prop:=Dfn P w K mg base "trap" ["house"] 1 (spOf K 1 al0)
abbrev Dd2:Prop:=Dfn P w K mg base "is_tuple_within" ["thing","least","most"] 1 (spOf K 3 jg)
abbrev Dd6:Prop:=Dfn P w K mg base "is_arrows" ["house","thing"] 3 (spOf K 2 uo)
abbrev Dd11:Prop:=Dfn P w K mg base "is_walkers" ["house","thing","most"] 3 (spOf K 3 qp)
abbrev Dd13:Prop:=Dfn P w K mg base "uses_of" ["doors_many","arrow","leavings"] 1 (spOf K 3 aas)
abbrev Dd7:Prop:=Dfn P w K mg base "refuse_no_arrows" ["house","thing"] 4 (spOf K 2 gq)
abbrev Dd12:Prop:=Dfn P w K mg base "refuse_no_walkers" ["house","thing"] 4 (spOf K 2 ig)
abbrev Dx7:Prop:=DfnX P w K mg base "refuse_no_arrows" ["house","thing"] 4 (spX K 2 gq)
abbrev Dx12:Prop:=DfnX P w K mg base "refuse_no_walkers" ["house","thing"] 4 (spX K 2 ig)
abbrev Dd16:Prop:=Dfn P w K mg base "refuse_no_crowd" ["house","arrows","walkers"] 5 (spOf K 3 dg)
abbrev Dd5:Prop:=Dfn P w K mg base "refuse_not_open" ["house"] 3 (spOf K 1 dq)
abbrev Dd15:Prop:=Dfn P w K mg base "rest_of" ["house","arrows","walkers"] 3 (spOf K 3 ab3)
abbrev Dx16:Prop:=DfnX P w K mg base "refuse_no_crowd" ["house","arrows","walkers"] 5 (spX K 3 dg)
abbrev Dx5:Prop:=DfnX P w K mg base "refuse_not_open" ["house"] 3 (spX K 1 dq)
abbrev Dd3:Prop:=Dfn P w K mg base "is_room_number" ["house","thing"] 3 (spOf K 2 xq)
abbrev Dd14:Prop:=Dfn P w K mg base "uses_of_all" ["house","arrows","leavings"] 2 (spOf K 3 sr)
abbrev Dd20:Prop:=Dfn P w K mg base "is_leavings" ["house","thing"] 2 (spOf K 2 u5)
abbrev Dd21:Prop:=Dfn P w K mg base "come_by" ["house","uses"] 1 (spOf K 2 ahd)
abbrev Dd8:Prop:=Dfn P w K mg base "turned_by" ["house","arrows","turns"] 1 (spOf K 3 adm)
abbrev Dd9:Prop:=Dfn P w K mg base "last_ways" ["house","arrows"] 1 (spOf K 2 adn)
abbrev Dd10:Prop:=Dfn P w K mg base "going_round" ["last","rooms"] 1 (spOf K 2 aa4)
abbrev Dd25:Prop:=Dfn P w K mg base "_law_draw" ["pen","many"] 1 (spOf K 2 f__law_draw)
abbrev Dd27:Prop:=Dfn P w K mg base "_law_house" ["pen","most","doors"] 2 (spOf K 3 f__law_house)
abbrev Dd28:Prop:=Dfn P w K mg base "_law_reached" ["house","room"] 1 (spOf K 2 ou)
abbrev Dd17:Prop:=Dfn P w K mg base "rest" ["house","arrows","walkers"] 6 (spOf K 3 yw)
abbrev Dd22:Prop:=Dfn P w K mg base "is_rest" ["house","arrows","walkers","thing"] 6 (spOf K 4 j7)
abbrev Dd18:Prop:=Dfn P w K mg base "left_by" ["house","arrows","walkers","rooms"] 6 (spOf K 4 mj)
abbrev Dd19:Prop:=Dfn P w K mg base "doors_used" ["house","arrows","leavings"] 5 (spOf K 3 jq)
abbrev Dx17:Prop:=DfnX P w K mg base "rest" ["house","arrows","walkers"] 6 (spX K 3 yw)
abbrev Dx22:Prop:=DfnX P w K mg base "is_rest" ["house","arrows","walkers","thing"] 6 (spX K 4 j7)
abbrev Dx18:Prop:=DfnX P w K mg base "left_by" ["house","arrows","walkers","rooms"] 6 (spX K 4 mj)
abbrev Dx19:Prop:=DfnX P w K mg base "doors_used" ["house","arrows","leavings"] 5 (spX K 3 jq)
abbrev Du31:Prop:=DfnU P w K mg base "_law_kind" ["e"] 1 (spOf K 1 nj)
abbrev Du26:Prop:=DfnU P w K mg base "_law_whole" ["thing"] 1 (spOf K 1 uw)
abbrev Dd30:Prop:=Dfn P w K mg base "_law_drawn" ["pen","house"] 2 (spOf K 2 f__law_drawn)
abbrev Dd32:Prop:=Dfn P w K mg base "_law_walkers" ["pen","house","most"] 2 (spOf K 3 oh)
abbrev Dd34:Prop:=Dfn P w K mg base "_law_no_arrows" ["pen","house","some"] 2 (spOf K 3 f__law_no_arrows)
abbrev Dd35:Prop:=Dfn P w K mg base "_law_no_walkers" ["pen","house","there"] 2 (spOf K 3 f__law_no_walkers)
abbrev Dd33:Prop:=Dfn P w K mg base "_law_told" ["way","house","some","there"] 7 (spOf K 4 dz)
abbrev Dd36:Prop:=Dfn P w K mg base "_law_right" ["pen","house"] 8 (spOf K 2 f__law_right)
abbrev Dd24:Prop:=Dfn P w K mg base "_law_pen" ["cell"] 1 (spOf K 1 f__law_pen)
abbrev Dd23:Prop:=Dfn P w K mg base "_law_cell" ["script","k"] 1 (spOf K 2 f__law_cell)
abbrev Dd29:Prop:=Dfn P w K mg base "_law_open" ["pen","most","doors"] 3 (spOf K 3 f__law_open)
end
section
variable{P:bT}{w:dB}{K:Fg9}{mg:Str->Option aG}{base:eE}{f:aQ}{fd:eQ}
def am9(F:Fun K "is_whole" "is_whole" aew f fd)(T:Txt K mg):FnOk P w K mg base CX0 1 f fd ["thing"] (spOf K 1 ym) :=
 jl F am1 rfl rfl λcdv A outer s H E hr=>
  (au (gn (wb (aiv (ahf (t:=.int) (ak3 (by rfl) T.z_int apf) (by rfl) T.z_isinstance bj (cg (pv 0))) (aiu (atz (ahf (t:=.bool) (ak3 (by rfl) T.z_bool an2) (by rfl) T.z_isinstance bj (cg (pv 0)))))))))
def aeb(F:Fun K "is_whole_within" "is_whole_within" u9 f fd)(T:Txt K mg)(d0:Dd0 P w K mg base):FnOk P w K mg base CX0 2 f fd ["thing","least","most"] (spOf K 3 jf) :=
 jl F adx rfl rfl λcdv A outer s H E hr=>
  (au (gn (wb (aiv (vb (Za d0 hr (eg_n (pv 0) bu))) (aiu (ao9 av4 av4 (ak (pv 1)) (ak (pv 0)) (ak (pv 2))))))))
def aec(F:Fun K "is_tuple_within" "is_tuple_within" vd f fd)(T:Txt K mg):FnOk P w K mg base CX0 1 f fd ["thing","least","most"] (spOf K 3 jg) :=
 jl F ady rfl rfl λcdv A outer s H E hr=>
  (au (gn (wb (aiv (ahf (t:=.tuple) (ak3 (by rfl) T.z_tuple jt) (by rfl) T.z_isinstance bj (cg (pv 0))) (aiu (ao9 av4 av4 (ak (pv 1)) (vb (b8 jz (by rfl) T.z_len j0 (ea_n (pv 0) cu))) (ak (pv 2))))))))
def ae0(F:Fun K "is_room_number" "is_room_number" xj f fd)(T:Txt K mg)(d1:Dd1 P w K mg base):FnOk P w K mg base CX0 3 f fd ["house","thing"] (spOf K 2 xq) :=
 jl F aev rfl rfl λcdv A outer s H E hr=>
  (au (gn (Za d1 hr (eg_v (ak (pv 1)) (eg_v bh (eg_v (vb (dj yq (e2_v (vb (b8 jz (by rfl) T.z_len j0 (ea_n (pv 0) cu))) (yb bh)))) bu))))))
def azs(F:Fun K "trap" "trap" arw f fd)(T:Txt K mg):FnOk P w K mg base CX0 1 f fd ["house"] (spOf K 1 al0) :=
 jl F agj rfl rfl λcdv A outer s H E hr=>
  (aq (iu (i:=1) agj.nd rfl (qJ rfl) (al4 rfl (by rfl) T.z_list (by rfl) T.z_range (aj (vb (b8 jz (by rfl) T.z_len j0 (ea_n (pv 0) cu))) bz))) (aq (iu (i:=2) agj.nd rfl (bO rfl) (dj jb (e2_v (vb (b8 jz (by rfl) T.z_len j0 (ea_n (pv 1) cu))) (yb bh)))) (aq (af2 fuel dC (jn aij (e2_v (vb (b8 jz (by rfl) T.z_len j0 (ea_n (pv 1) cu))) (cg (pv 2))) (je _)) (aq (iu (i:=2) agj.nd rfl (bO rfl) (b8 jz (by rfl) T.z_len j0 (ea_n (pv 1) cu))) (au (iu (i:=1) agj.nd rfl (qJ rfl) (nq ["staying","house"] ["room","staying","house"] [ZY,ZZ 1,ZZ 0] rfl (abg (ak (pv 1))) (λ_ _ _=>(cj (i:=0) (show(["room","staying","house"]:List Str).Nodup by decide +kernel) rfl (bO rfl))) (λ_ _ _=>(ahi (mq (vb (b8 (aho rfl) (by rfl) T.z_all ahr (ea_v (vb (nq ["staying"] ["door","staying"] [ZY,ZZ 1] rfl (abg (vb (su (e2_n (pv 2) (cg (pv 0))) (λ_ _=>by rfl)))) (λ_ _ _=>(cj (i:=0) (show(["door","staying"]:List Str).Nodup by decide +kernel) rfl (bO rfl))) (λ_ _ _=>uq) (λ_ _ _=>(vb (ahh (axl hr.units) (e2_n (pv 0) (cg (pv 1))) (by with_unfolding_all rfl)))))) cu)))))) (λ_ _ _=>(ak (pv 0)))))))) (au (gn (ie jx (by rfl) T.z_tuple jt (ea_n (pv 1) cu)))))))
def ad9(F:Fun K "refuse_not_open" "refuse_not_open" qz f fd)(T:Txt K mg)(d4:Dd4 P w K mg base):FnOk P w K mg base CX0 3 f fd ["house"] (spOf K 1 dq) :=
 jl F qb rfl rfl λcdv A outer s H E hr=>
  (aq (SV.s (iu (i:=1) qb.nd rfl (bO rfl) (Za d4 hr (eg_n (pv 0) bu)))) (au (ud (ET.s (jn (ad8 hr.units) (e2_n (pv 1) (yb (qg bz))) (je _))) (au abk) jm)))
def adb(F:Fun K "refuse_not_open" "refuse_not_open" qz f fd)(T:Txt K mg)(d4:Dd4 P w K mg base):FnOk P w K mg base (CX1 P w) 3 f fd ["house"] (spX K 1 dq) :=
 fn_x F qb rfl rfl λcdv A outer s H E hr=>
  (pq (SV.s (iu (i:=1) qb.nd rfl (bO rfl) (Za d4 hr (eg_n (pv 0) bu)))) acr (j9 (ai0 (ET.s (jn (ad8 hr.units) (e2_n (pv 1) (yb (qg bz))) (je _))) gf (j9 (akh rfl rfl (by rfl) T.i_NotOpen am0 rfl (by decide) (by decide) (λ_=>rfl) (bO rfl) (bO rfl) (aip λ_ _ _ _ _ _ us hl=>by obtain⟨_,_,rfl⟩:=ln2 hl;rfl) (hr.mono (by decide)) (EV.s (vb (su (e2_n (pv 1) (yb bh)) (λ_ _=>by rfl)))) gf)) aet)))
def ak6(F:Fun K "is_arrows" "is_arrows" ac5 f fd)(T:Txt K mg)(d2:Dd2 P w K mg base)(d1:Dd1 P w K mg base):FnOk P w K mg base CX0 3 f fd ["house","thing"] (spOf K 2 uo) :=
 jl F akx rfl rfl λcdv A outer s H E hr=>
  (aq (ud (qi (mq (vb (Za d2 hr (eg_n (pv 1) (eg_v (vb (b8 jz (by rfl) T.z_len j0 (ea_n (pv 0) cu))) (eg_v (vb (b8 jz (by rfl) T.z_len j0 (ea_n (pv 0) cu))) bu))))))) (au (gn (wb aaf))) jm) (au (gn (b8 (aho rfl) (by rfl) T.z_all ahr (ea_v (vb (nq [] ["arrow","doors"] [ZY,ZY] rfl (ag3 (by rfl) T.z_zip (aj (ak (pv 1)) (aj (ak (pv 0)) bz))) (λ_ _ _=>(yu rfl (dw (cj (i:=0) (show(["arrow","doors"]:List Str).Nodup by decide +kernel) rfl (bO rfl)) (dw (cj (i:=1) (show(["arrow","doors"]:List Str).Nodup by decide +kernel) rfl (bO rfl)) uh)))) (λ_ _ _=>uq) (λ_ _ _=>(vb (Za d1 hr (eg_n (pv 0) (eg_v bh (eg_v (vb (dj yq (e2_v (vb (b8 jz (by rfl) T.z_len j0 (ea_n (pv 1) cu))) (yb bh)))) bu)))))))) cu)))))
def ade(F:Fun K "refuse_no_arrows" "refuse_no_arrows" qe f fd)(T:Txt K mg)(d6:Dd6 P w K mg base):FnOk P w K mg base CX0 4 f fd ["house","thing"] (spOf K 2 gq) :=
 jl F yp rfl rfl λcdv A outer s H E hr=>
  (au (ud (ET.s (qi (mq (vb (Za d6 hr (eg_v (ak (pv 0)) (eg_v (ak (pv 1)) bu))))))) (au aoc) jm))
def acp(F:Fun K "refuse_no_arrows" "refuse_no_arrows" qe f fd)(T:Txt K mg)(d6:Dd6 P w K mg base):FnOk P w K mg base (CX1 P w) 4 f fd ["house","thing"] (spX K 2 gq) :=
 fn_x F yp rfl rfl λcdv A outer s H E hr=>
  (j9 (ai0 (ET.s (qi (mq (vb (Za d6 hr (eg_v (ak (pv 0)) (eg_v (ak (pv 1)) bu))))))) gf (j9 (akg rfl rfl (by rfl) T.r_NoArrows)) aet))
def ak4(F:Fun K "turned_by" "turned_by" ac3 f fd)(T:Txt K mg):FnOk P w K mg base CX0 1 f fd ["house","arrows","turns"] (spOf K 3 adm) :=
 jl F aku rfl rfl λcdv A outer s H E hr=>
  (au (gn (ie jx (by rfl) T.z_tuple jt (ea_v (vb (nq [] ["arrow","turn","doors"] [ZY,ZY,ZY] rfl (ag2 (by rfl) T.z_zip (aj (ak (pv 1)) (aj (ak (pv 2)) (aj (ak (pv 0)) bz)))) (λ_ _ _=>(yu rfl (dw (cj (i:=0) (show(["arrow","turn","doors"]:List Str).Nodup by decide +kernel) rfl (bO rfl)) (dw (cj (i:=1) (show(["arrow","turn","doors"]:List Str).Nodup by decide +kernel) rfl (bO rfl)) (dw (cj (i:=2) (show(["arrow","turn","doors"]:List Str).Nodup by decide +kernel) rfl (bO rfl)) uh))))) (λ_ _ _=>uq) (λ_ _ _=>(vb (dj abt (e2_v (vb (dj jb (e2_n (pv 0) (cg (pv 1))))) (yb (vb (b8 jz (by rfl) T.z_len j0 (ea_n (pv 2) cu)))))))))) cu))))
def ak5(F:Fun K "last_ways" "last_ways" ac4 f fd)(T:Txt K mg):FnOk P w K mg base CX0 1 f fd ["house","arrows"] (spOf K 2 adn) :=
 jl F akv rfl rfl λcdv A outer s H E hr=>
  (au (gn (ie jx (by rfl) T.z_tuple jt (ea_v (vb (nq [] ["arrow","doors"] [ZY,ZY] rfl (ag3 (by rfl) T.z_zip (aj (ak (pv 1)) (aj (ak (pv 0)) bz))) (λ_ _ _=>(yu rfl (dw (cj (i:=0) (show(["arrow","doors"]:List Str).Nodup by decide +kernel) rfl (bO rfl)) (dw (cj (i:=1) (show(["arrow","doors"]:List Str).Nodup by decide +kernel) rfl (bO rfl)) uh)))) (λ_ _ _=>uq) (λ_ _ _=>(vb (su (e2_n (pv 1) (yb (vb (dj yq (e2_n (pv 0) (yb bh)))))) (λ_ _=>by rfl)))))) cu))))
def ah3(F:Fun K "going_round" "going_round" aaz f fd)(T:Txt K mg):FnOk P w K mg base CX0 1 f fd ["last","rooms"] (spOf K 2 aa4) :=
 jl F ug rfl rfl λcdv A outer s H E hr=>
  (aq (iu (i:=2) ug.nd rfl (qJ rfl) (ie afa (by rfl) T.z_list adq (ea_n (pv 1) cu))) (aq (iu (i:=3) ug.nd rfl (bO rfl) (dj jb (e2_v (vb (b8 jz (by rfl) T.z_len j0 (ea_n (pv 2) cu))) (yb bh)))) (aq (af2 fuel dC (jn aij (e2_v (vb (b8 jz (by rfl) T.z_len j0 (ea_n (pv 2) cu))) (cg (pv 3))) (je _)) (aq (iu (i:=3) ug.nd rfl (bO rfl) (b8 jz (by rfl) T.z_len j0 (ea_n (pv 2) cu))) (au (iu (i:=2) ug.nd rfl (qJ rfl) (nq ["staying","last"] ["room","staying","last"] [ZY,ZZ 2,ZZ 0] rfl (abg (ak (pv 2))) (λ_ _ _=>(cj (i:=0) (show(["room","staying","last"]:List Str).Nodup by decide +kernel) rfl (bO rfl))) (λ_ _ _=>(ahi (jn (axl hr.units) (e2_v (vb (su (e2_n (pv 2) (cg (pv 0))) (λ_ _=>by rfl))) (cg (pv 1))) (by with_unfolding_all rfl)))) (λ_ _ _=>(ak (pv 0)))))))) (au (gn (ahg (pv 2)))))))
def ajj(F:Fun K "is_walkers" "is_walkers" abl f fd)(T:Txt K mg)(d2:Dd2 P w K mg base)(d1:Dd1 P w K mg base):FnOk P w K mg base CX0 3 f fd ["house","thing","most"] (spOf K 3 qp) :=
 jl F aja rfl rfl λcdv A outer s H E hr=>
  (aq (ud (qi (mq (vb (Za d2 hr (eg_n (pv 1) (eg_v (vb (b8 jz (by rfl) T.z_len j0 (ea_n (pv 0) cu))) (eg_v (vb (b8 jz (by rfl) T.z_len j0 (ea_n (pv 0) cu))) bu))))))) (au (gn (wb aaf))) jm) (au (gn (b8 (aho rfl) (by rfl) T.z_all ahr (ea_v (vb (nq ["most"] ["many","most"] [ZY,ZZ 2] rfl (abg (ak (pv 1))) (λ_ _ _=>(cj (i:=0) (show(["many","most"]:List Str).Nodup by decide +kernel) rfl (bO rfl))) (λ_ _ _=>uq) (λ_ _ _=>(vb (Za d1 hr (eg_n (pv 0) (eg_v bh (eg_n (pv 1) bu)))))))) cu)))))
def acq(F:Fun K "refuse_no_walkers" "refuse_no_walkers" mz f fd)(T:Txt K mg)(d11:Dd11 P w K mg base):FnOk P w K mg base CX0 4 f fd ["house","thing"] (spOf K 2 ig) :=
 jl F xu rfl rfl λcdv A outer s H E hr=>
  (au (ud (ET.s (qi (mq (vb (Za d11 hr (eg_n (pv 0) (eg_v (ak (pv 1)) (eg_v (ev_c (azi (by rfl) T.c_MOST_WALKERS) λ_=>.int _) bu)))))))) (au aoc) jm))
def abu(F:Fun K "refuse_no_walkers" "refuse_no_walkers" mz f fd)(T:Txt K mg)(d11:Dd11 P w K mg base):FnOk P w K mg base (CX1 P w) 4 f fd ["house","thing"] (spX K 2 ig) :=
 fn_x F xu rfl rfl λcdv A outer s H E hr=>
  (j9 (ai0 (ET.s (qi (mq (vb (Za d11 hr (eg_n (pv 0) (eg_v (ak (pv 1)) (eg_v (ev_c (azi (by rfl) T.c_MOST_WALKERS) λ_=>.int _) bu)))))))) gf (j9 (akg rfl rfl (by rfl) T.r_NoWalkers)) aet))
def ap3(F:Fun K "uses_of" "uses_of" agm f fd)(T:Txt K mg):FnOk P w K mg base CX0 1 f fd ["doors_many","arrow","leavings"] (spOf K 3 aas) :=
 jl F acf rfl rfl λcdv A outer s H E hr=>
  (aq (iu (i:=3) acf.nd rfl (bO rfl) (km bz)) (aq (abd dC rfl (yr (by rfl) T.z_range (aj (ak (pv 0)) bz)) (cj (i:=4) acf.nd rfl (bO rfl)) (aq (iu (i:=5) acf.nd rfl (bO rfl) (dj abt (e2_v (vb (dj yq (e2_n (pv 4) (cg (pv 1))))) (cg (pv 0))))) (au (jo (wb (at3 ae2 nY PySem.F.type_list_append aef (pv 3) (aj (vb (dj aso (e2_v (vb (dj yq (e2_v (vb (dj yq (e2_v (vb (dj jb (e2_n (pv 2) (cg (pv 0))))) (yb bh)))) (cg (pv 5))))) (cg (pv 0))))) bz))))))) (au (gn (ahg (pv 3))))))
def ah1(F:Fun K "uses_of_all" "uses_of_all" aax f fd)(T:Txt K mg)(d13:Dd13 P w K mg base):FnOk P w K mg base CX0 2 f fd ["house","arrows","leavings"] (spOf K 3 sr) :=
 jl F uf rfl rfl λcdv A outer s H E hr=>
  (aq (iu (i:=3) uf.nd rfl (bO rfl) (km bz)) (aq (abd dC rfl (ag2 (by rfl) T.z_zip (aj (ak (pv 0)) (aj (ak (pv 1)) (aj (ak (pv 2)) bz)))) (yu rfl (dw (cj (i:=4) uf.nd rfl (bO rfl)) (dw (cj (i:=5) uf.nd rfl (bO rfl)) (dw (cj (i:=6) uf.nd rfl (bO rfl)) uh)))) (au (jo (wb (at3 ae2 nY PySem.F.type_list_append aef (pv 3) (aj (vb (ie jx (by rfl) T.z_tuple jt (ea_v (vb (Za d13 hr (eg_v (vb (b8 jz (by rfl) T.z_len j0 (ea_n (pv 4) cu))) (eg_n (pv 5) (eg_n (pv 6) bu))))) cu))) bz)))))) (au (gn (ie jx (by rfl) T.z_tuple jt (ea_n (pv 3) cu))))))
def aee(F:Fun K "let_leave" "Crowd.let_leave" j4 f fd)(T:Txt K mg)(d13:Dd13 P w K mg base):FnOk P w K mg base CX0 2 f fd ["self","room","many"] (spBx K 3 4 gj) :=
 a8v F kh rfl rfl (by decide) (by decide +kernel) λcdv A outer s H E hr=>
  (aq (iu (i:=7) kh.nd rfl (bO rfl) (su (e2_v (a82 T.f_Crowd_house (pv 0)) (cg (pv 1))) (λ_ _=>by rfl))) (aq (iu (i:=8) kh.nd rfl (bO rfl) (Za d13 hr (eg_v (vb (b8 jz (by rfl) T.z_len j0 (ea_n (pv 7) cu))) (eg_v (vb (su (e2_f T.f_Crowd_turning (pv 0) (cg (pv 1))) (λ_ _=>by rfl))) (eg_n (pv 2) bu))))) (aq (ayt T.f_Crowd_turning (vb (dj abt (e2_v (vb (dj jb (e2_v (vb (su (e2_f T.f_Crowd_turning (pv 0) (cg (pv 1))) (λ_ _=>by rfl))) (cg (pv 2))))) (yb (vb (b8 jz (by rfl) T.z_len j0 (ea_n (pv 7) cu))))))) (pv 0) (ak (pv 1))) (aq (acd T.f_Crowd_left (pv 0) (ak (pv 1)) (ak (pv 2)) aox) (aq (acd T.f_Crowd_standing (pv 0) (ak (pv 1)) (ak (pv 2)) a4f) (au (abd dC rfl (ag3 (by rfl) T.z_zip (aj (ak (pv 7)) (aj (ak (pv 8)) bz))) (yu rfl (dw (cj (i:=9) kh.nd rfl (bO rfl)) (dw (cj (i:=10) kh.nd rfl (bO rfl)) uh))) (au (ud (jn agq (e2_n (pv 9) (yb bh)) (je _)) (au (acd T.f_Crowd_standing (pv 0) (ak (pv 9)) (ak (pv 10)) aox)) (au (acd T.f_Crowd_gone (pv 0) (vb (dj yq (e2_v (al2 (ak (pv 9))) (yb bh)))) (ak (pv 10)) aox)))))))))))
def ajp{C:aQ}(F:Fun K "__init__" "Crowd.__init__" ut f fd)(T:Txt K mg)(hC:nsIn K aV "Crowd"=ZZ (ZZ (.ref C))):FnOk P w K mg base CX0 1 f fd ["self","house","arrows","walkers"] (ahw K 4 4 xn C) :=
 a4o F ajc rfl rfl (by decide) (by decide) λcdv A outer s H E hr=>
  (agh (T.f_Crowd_house C hC).1 (T.f_Crowd_house C hC).2 (wb (ak (pv 1))) (pv 0) (agh (T.f_Crowd_turning C hC).1 (T.f_Crowd_turning C hC).2 (ie afa (by rfl) T.z_list adq (ea_n (pv 2) cu)) (pv 0) (agh (T.f_Crowd_standing C hC).1 (T.f_Crowd_standing C hC).2 (ie afa (by rfl) T.z_list adq (ea_n (pv 3) cu)) (pv 0) (agh (T.f_Crowd_gone C hC).1 (T.f_Crowd_gone C hC).2 (dj aez (e2_v (vb (km (aj bh bz))) (yb (ev_c (azi (by rfl) T.c_GATES_MANY) λ_=>.int _)))) (pv 0) (agh (T.f_Crowd_left C hC).1 (T.f_Crowd_left C hC).2 (dj aez (e2_v (vb (km (aj bh bz))) (yb (vb (b8 jz (by rfl) T.z_len j0 (ea_n (pv 1) cu)))))) (pv 0) a1q)))))
def ap4(F:Fun K "rest_of" "rest_of" agn f fd)(T:Txt K mg)(m_Crowd_let_leave:DfnM P w K mg base "Crowd" "let_leave" ["self","room","many"] 2 (spBx K 3 4 gj))(n_Crowd:DfnI P w K mg base "Crowd" ["self","house","arrows","walkers"] 1 (ahw K 4 4 xn)):FnOk P w K mg base CX0 3 f fd ["house","arrows","walkers"] (spOf K 3 ab3) :=
 jl F aeu rfl rfl λcdv A outer s H E hr=>
  (aob (i:=3) (gs:=[5,6,7,8]) n_Crowd (hr.mono (by decide)) (by rfl) aeu.nd rfl (bO rfl) (eg_n (pv 0) (eg_n (pv 1) (eg_n (pv 2) bu))) (aq (af2 fuel dC (mq (vb (b8 (a0z rfl) (by rfl) T.z_any a4z (ea_f T.f_Crowd_standing (pv 3) cu)))) (au (abd dC rfl (yr (by rfl) T.z_range (aj (vb (b8 jz (by rfl) T.z_len j0 (ea_n (pv 0) cu))) bz)) (cj (i:=4) aeu.nd rfl (bO rfl)) (au (ud (jn axm (e2_v (vb (su (e2_f T.f_Crowd_standing (pv 3) (cg (pv 4))) (λ_ _=>by rfl))) (yb bh)) (je _)) (au (jo (aj2 m_Crowd_let_leave (hr.mono (by decide)) (pv 3) (eg_n (pv 4) (eg_v (vb (su (e2_f T.f_Crowd_standing (pv 3) (cg (pv 4))) (λ_ _=>by rfl))) bu))))) jm))))) (au (gn (wb (qg (aj (vb (ie jx (by rfl) T.z_tuple jt (ea_f T.f_Crowd_gone (pv 3) cu))) (aj (vb (ie jx (by rfl) T.z_tuple jt (ea_f T.f_Crowd_turning (pv 3) cu))) (aj (vb (ie jx (by rfl) T.z_tuple jt (ea_f T.f_Crowd_left (pv 3) cu))) bz)))))))) (a0c (by rfl)))
def aea(F:Fun K "refuse_no_crowd" "refuse_no_crowd" rm f fd)(T:Txt K mg)(d7:Dd7 P w K mg base)(d12:Dd12 P w K mg base)(x7:Dx7 P w K mg base)(x12:Dx12 P w K mg base):FnOk P w K mg base CX0 5 f fd ["house","arrows","walkers"] (spOf K 3 dg) :=
 jl F zj rfl rfl λcdv A outer s H E hr=>
  (aq (jo (Za d7 hr (eg_v (EV.s (ak (pv 0))) (eg_v (EV.s (ak (pv 1))) bu)))) (au (jo (Za d12 hr (eg_n (pv 0) (eg_v (EV.s (ak (pv 2))) bu))))))
def adc(F:Fun K "refuse_no_crowd" "refuse_no_crowd" rm f fd)(T:Txt K mg)(d7:Dd7 P w K mg base)(d12:Dd12 P w K mg base)(x7:Dx7 P w K mg base)(x12:Dx12 P w K mg base):FnOk P w K mg base (CX1 P w) 5 f fd ["house","arrows","walkers"] (spX K 3 dg) :=
 fn_x F zj rfl rfl λcdv A outer s H E hr=>
  (pq (jo (Za d7 hr (eg_v (EV.s (ak (pv 0))) (eg_v (EV.s (ak (pv 1))) bu)))) (xg (afw x7 (hr.mono (by decide)) (by rfl) (eg_v (EV.s (ak (pv 0))) (eg_v (EV.s (ak (pv 1))) bu)) (xa_v (js:=[]) (EV.s (ak (pv 0))) (XE.no gf) (xa_v (js:=[]) (EV.s (ak (pv 1))) (XE.no gf) abb)))) (j9 (xg (afw x12 (hr.mono (by decide)) (by rfl) (eg_n (pv 0) (eg_v (EV.s (ak (pv 2))) bu)) (xa_n (pv 0) (xa_v (js:=[]) (EV.s (ak (pv 2))) (XE.no gf) abb))))))
def azt(F:Fun K "rest" "rest" aof f fd)(T:Txt K mg)(d16:Dd16 P w K mg base)(d5:Dd5 P w K mg base)(d15:Dd15 P w K mg base)(x16:Dx16 P w K mg base)(x5:Dx5 P w K mg base):FnOk P w K mg base CX0 6 f fd ["house","arrows","walkers"] (spOf K 3 yw) :=
 jl F art rfl rfl λcdv A outer s H E hr=>
  (aq (jo (Za d16 hr (eg_v (EV.s (ak (pv 0))) (eg_v (EV.s (ak (pv 1))) (eg_v (EV.s (ak (pv 2))) bu))))) (aq (jo (Za d5 hr (eg_n (pv 0) bu))) (au (SV.s (gn (Za d15 hr (eg_n (pv 0) (eg_n (pv 1) (eg_n (pv 2) bu)))))))))
def av6(F:Fun K "rest" "rest" aof f fd)(T:Txt K mg)(d16:Dd16 P w K mg base)(d5:Dd5 P w K mg base)(d15:Dd15 P w K mg base)(x16:Dx16 P w K mg base)(x5:Dx5 P w K mg base):FnOk P w K mg base (CX1 P w) 6 f fd ["house","arrows","walkers"] (spX K 3 yw) :=
 fn_x F art rfl rfl λcdv A outer s H E hr=>
  (pq (jo (Za d16 hr (eg_v (EV.s (ak (pv 0))) (eg_v (EV.s (ak (pv 1))) (eg_v (EV.s (ak (pv 2))) bu))))) (xg (afw x16 (hr.mono (by decide)) (by rfl) (eg_v (EV.s (ak (pv 0))) (eg_v (EV.s (ak (pv 1))) (eg_v (EV.s (ak (pv 2))) bu))) (xa_v (js:=[]) (EV.s (ak (pv 0))) (XE.no gf) (xa_v (js:=[]) (EV.s (ak (pv 1))) (XE.no gf) (xa_v (js:=[]) (EV.s (ak (pv 2))) (XE.no gf) abb))))) (pq (jo (Za d5 hr (eg_n (pv 0) bu))) (xg (afw x5 (hr.mono (by decide)) (by rfl) (eg_n (pv 0) bu) (xa_n (pv 0) abb))) (j9 acr)))
def ap5(F:Fun K "left_by" "left_by" ad1 f fd)(T:Txt K mg)(d3:Dd3 P w K mg base)(d16:Dd16 P w K mg base)(x16:Dx16 P w K mg base)(m_Crowd_let_leave:DfnM P w K mg base "Crowd" "let_leave" ["self","room","many"] 2 (spBx K 3 4 gj))(n_Crowd:DfnI P w K mg base "Crowd" ["self","house","arrows","walkers"] 1 (ahw K 4 4 xn)):FnOk P w K mg base CX0 6 f fd ["house","arrows","walkers","rooms"] (spOf K 4 mj) :=
 jl F nu rfl rfl λcdv A outer s H E hr=>
  (aq (jo (Za d16 hr (eg_v (EV.s (ak (pv 0))) (eg_v (EV.s (ak (pv 1))) (eg_v (EV.s (ak (pv 2))) bu))))) (aob (i:=4) (gs:=[7,8,9,10]) n_Crowd (hr.mono (by decide)) (by rfl) nu.nd rfl (bO rfl) (EG.s (eg_n (pv 0) (eg_n (pv 1) (eg_n (pv 2) bu)))) (aq (abd dC rfl (IT.s (aju (by rfl) T.z_enumerate (aj (ak (pv 3)) bz))) (yu rfl (dw (cj (i:=5) nu.nd rfl (bO rfl)) (dw (cj (i:=6) nu.nd rfl (bO rfl)) uh))) (aq (ud (ET.s (EW.pt (ah5 (qi (mq (vb (Za d3 hr (eg_n (pv 0) (eg_v (ak (pv 6)) bu)))))) (acx (jn (wk hr.units) (e2_v (vb (su (e2_f T.f_Crowd_standing (pv 4) (cg (pv 6))) (λ_ _=>by rfl))) (yb bh)) (je _)))))) (au abk) jm) (au (SV.s (jo (aj2 m_Crowd_let_leave (hr.mono (by decide)) (pv 4) (eg_n (pv 6) (eg_v bh bu)))))))) (au (SV.s (gn (wb (qg (aj (vb (ie jx (by rfl) T.z_tuple jt (ea_f T.f_Crowd_turning (pv 4) cu))) (aj (vb (ie jx (by rfl) T.z_tuple jt (ea_f T.f_Crowd_standing (pv 4) cu))) (aj (vb (ie jx (by rfl) T.z_tuple jt (ea_f T.f_Crowd_gone (pv 4) cu))) bz))))))))) (a0c (by rfl))))
def am7(F:Fun K "left_by" "left_by" ad1 f fd)(T:Txt K mg)(d3:Dd3 P w K mg base)(d16:Dd16 P w K mg base)(x16:Dx16 P w K mg base)(m_Crowd_let_leave:DfnM P w K mg base "Crowd" "let_leave" ["self","room","many"] 2 (spBx K 3 4 gj))(n_Crowd:DfnI P w K mg base "Crowd" ["self","house","arrows","walkers"] 1 (ahw K 4 4 xn)):FnOk P w K mg base (CX1 P w) 6 f fd ["house","arrows","walkers","rooms"] (spX K 4 mj) :=
 fn_x F nu rfl rfl λcdv A outer s H E hr=>
  (pq (jo (Za d16 hr (eg_v (EV.s (ak (pv 0))) (eg_v (EV.s (ak (pv 1))) (eg_v (EV.s (ak (pv 2))) bu))))) (xg (afw x16 (hr.mono (by decide)) (by rfl) (eg_v (EV.s (ak (pv 0))) (eg_v (EV.s (ak (pv 1))) (eg_v (EV.s (ak (pv 2))) bu))) (xa_v (js:=[]) (EV.s (ak (pv 0))) (XE.no gf) (xa_v (js:=[]) (EV.s (ak (pv 1))) (XE.no gf) (xa_v (js:=[]) (EV.s (ak (pv 2))) (XE.no gf) abb))))) (ayb (i:=4) (gs:=[7,8,9,10]) n_Crowd (hr.mono (by decide)) (by rfl) nu.nd rfl (bO rfl) (EG.s (eg_n (pv 0) (eg_n (pv 1) (eg_n (pv 2) bu)))) gf (pq (abd dC rfl (IT.s (aju (by rfl) T.z_enumerate (aj (ak (pv 3)) bz))) (yu rfl (dw (cj (i:=5) nu.nd rfl (bO rfl)) (dw (cj (i:=6) nu.nd rfl (bO rfl)) uh))) (aq (ud (ET.s (EW.pt (ah5 (qi (mq (vb (Za d3 hr (eg_n (pv 0) (eg_v (ak (pv 6)) bu)))))) (acx (jn (wk hr.units) (e2_v (vb (su (e2_f T.f_Crowd_standing (pv 4) (cg (pv 6))) (λ_ _=>by rfl))) (yb bh)) (je _)))))) (au abk) jm) (au (SV.s (jo (aj2 m_Crowd_let_leave (hr.mono (by decide)) (pv 4) (eg_n (pv 6) (eg_v bh bu)))))))) (a1c rfl rfl rfl (IT.s (aju (by rfl) T.z_enumerate (aj (ak (pv 3)) bz))) gf (yu rfl (dw (cj (i:=5) nu.nd rfl (bO rfl)) (dw (cj (i:=6) nu.nd rfl (bO rfl)) uh))) (aq (ud (ET.s (EW.pt (ah5 (qi (mq (vb (Za d3 hr (eg_n (pv 0) (eg_v (ak (pv 6)) bu)))))) (acx (jn (wk hr.units) (e2_v (vb (su (e2_f T.f_Crowd_standing (pv 4) (cg (pv 6))) (λ_ _=>by rfl))) (yb bh)) (je _)))))) (au abk) jm) (au (SV.s (jo (aj2 m_Crowd_let_leave (hr.mono (by decide)) (pv 4) (eg_n (pv 6) (eg_v bh bu))))))) (pq (ud (ET.s (EW.pt (ah5 (qi (mq (vb (Za d3 hr (eg_n (pv 0) (eg_v (ak (pv 6)) bu)))))) (acx (jn (wk hr.units) (e2_v (vb (su (e2_f T.f_Crowd_standing (pv 4) (cg (pv 6))) (λ_ _=>by rfl))) (yb bh)) (je _)))))) (au abk) jm) (ai0 (ET.s (EW.pt (ah5 (qi (mq (vb (Za d3 hr (eg_n (pv 0) (eg_v (ak (pv 6)) bu)))))) (acx (jn (wk hr.units) (e2_v (vb (su (e2_f T.f_Crowd_standing (pv 4) (cg (pv 6))) (λ_ _=>by rfl))) (yb bh)) (je _)))))) gf (j9 (akh rfl rfl (by rfl) T.i_Nobody apv rfl (by decide) (by decide) (λ_=>rfl) (bO rfl) (bO rfl) (aip λ_ _ _ _ _ _ us hl=>by obtain⟨_,_,rfl⟩:=ln2 hl;rfl) (hr.mono (by decide)) (EV.s (ak (pv 5))) gf)) aet) (j9 acr))) (j9 acr)) (a0c (by rfl))))
def ajk(F:Fun K "doors_used" "doors_used" zq f fd)(T:Txt K mg)(d7:Dd7 P w K mg base)(d14:Dd14 P w K mg base)(x7:Dx7 P w K mg base):FnOk P w K mg base CX0 5 f fd ["house","arrows","leavings"] (spOf K 3 jq) :=
 jl F adz rfl rfl λcdv A outer s H E hr=>
  (aq (jo (Za d7 hr (eg_v (EV.s (ak (pv 0))) (eg_v (EV.s (ak (pv 1))) bu)))) (au (SV.s (gn (Za d14 hr (eg_v (ak (pv 0)) (eg_v (ak (pv 1)) (eg_v (ak (pv 2)) bu))))))))
def ahz(F:Fun K "doors_used" "doors_used" zq f fd)(T:Txt K mg)(d7:Dd7 P w K mg base)(d14:Dd14 P w K mg base)(x7:Dx7 P w K mg base):FnOk P w K mg base (CX1 P w) 5 f fd ["house","arrows","leavings"] (spX K 3 jq) :=
 fn_x F adz rfl rfl λcdv A outer s H E hr=>
  (pq (jo (Za d7 hr (eg_v (EV.s (ak (pv 0))) (eg_v (EV.s (ak (pv 1))) bu)))) (xg (afw x7 (hr.mono (by decide)) (by rfl) (eg_v (EV.s (ak (pv 0))) (eg_v (EV.s (ak (pv 1))) bu)) (xa_v (js:=[]) (EV.s (ak (pv 0))) (XE.no gf) (xa_v (js:=[]) (EV.s (ak (pv 1))) (XE.no gf) abb)))) (j9 acr))
def ah2(F:Fun K "is_leavings" "is_leavings" aay f fd)(T:Txt K mg)(d2:Dd2 P w K mg base)(d0:Dd0 P w K mg base):FnOk P w K mg base CX0 2 f fd ["house","thing"] (spOf K 2 u5) :=
 jl F ahy rfl rfl λcdv A outer s H E hr=>
  (aq (ud (qi (mq (vb (Za d2 hr (eg_n (pv 1) (eg_v (vb (b8 jz (by rfl) T.z_len j0 (ea_n (pv 0) cu))) (eg_v (vb (b8 jz (by rfl) T.z_len j0 (ea_n (pv 0) cu))) bu))))))) (au (gn (wb aaf))) jm) (au (gn (b8 (aho rfl) (by rfl) T.z_all ahr (ea_v (vb (nq [] ["many"] [ZY] rfl (abg (ak (pv 1))) (λ_ _ _=>(cj (i:=0) (show(["many"]:List Str).Nodup by decide +kernel) rfl (bO rfl))) (λ_ _ _=>uq) (λ_ _ _=>(aiv (vb (Za d0 hr (eg_n (pv 0) bu))) (aiu (vb (ahh agq (e2_n (pv 0) (yb bh)) (je _)))))))) cu)))))
def ap7(F:Fun K "come_by" "come_by" ago f fd)(T:Txt K mg):FnOk P w K mg base CX0 1 f fd ["house","uses"] (spOf K 2 ahd) :=
 jl F yl rfl rfl λcdv A outer s H E hr=>
  (aq (iu (i:=2) yl.nd rfl (bO rfl) (dj aez (e2_v (vb (km (aj bh bz))) (yb (vb (b8 jz (by rfl) T.z_len j0 (ea_n (pv 0) cu))))))) (aq (abd dC rfl (ag3 (by rfl) T.z_zip (aj (ak (pv 0)) (aj (ak (pv 1)) bz))) (yu rfl (dw (cj (i:=3) yl.nd rfl (bO rfl)) (dw (cj (i:=4) yl.nd rfl (bO rfl)) uh))) (au (abd dC rfl (ag3 (by rfl) T.z_zip (aj (ak (pv 3)) (aj (ak (pv 4)) bz))) (yu rfl (dw (cj (i:=5) yl.nd rfl (bO rfl)) (dw (cj (i:=6) yl.nd rfl (bO rfl)) uh))) (au (ud (jn agq (e2_n (pv 5) (yb bh)) (je _)) (au (ari (pv 2) (ak (pv 5)) (ak (pv 6)) aox)) jm))))) (au (gn (ahg (pv 2))))))
def ap6(F:Fun K "is_rest" "is_rest" ad2 f fd)(T:Txt K mg)(d16:Dd16 P w K mg base)(d5:Dd5 P w K mg base)(d20:Dd20 P w K mg base)(d14:Dd14 P w K mg base)(d21:Dd21 P w K mg base)(d8:Dd8 P w K mg base)(d9:Dd9 P w K mg base)(d10:Dd10 P w K mg base)(x16:Dx16 P w K mg base)(x5:Dx5 P w K mg base):FnOk P w K mg base CX0 6 f fd ["house","arrows","walkers","thing"] (spOf K 4 j7) :=
 jl F yj rfl rfl λcdv A outer s H E hr=>
  (aq (jo (Za d16 hr (eg_v (EV.s (ak (pv 0))) (eg_v (EV.s (ak (pv 1))) (eg_v (EV.s (ak (pv 2))) bu))))) (aq (jo (Za d5 hr (eg_n (pv 0) bu))) (aq (ud (ET.s (qi (mq (vb (Za d20 hr (eg_n (pv 0) (eg_v (ak (pv 3)) bu))))))) (au (SV.s (gn (wb aaf)))) jm) (aq (SV.s (iu (i:=4) yj.nd rfl (bO rfl) (Za d21 hr (eg_v (ak (pv 0)) (eg_v (vb (Za d14 hr (eg_v (ak (pv 0)) (eg_v (ak (pv 1)) (eg_v (ak (pv 3)) bu))))) bu))))) (aq (ud (ET.s (qi (mq (vb (b8 (aho rfl) (by rfl) T.z_all ahr (ea_v (vb (nq [] ["stood","by","many"] [ZY,ZY,ZY] rfl (ag2 (by rfl) T.z_zip (aj (ak (pv 2)) (aj (ak (pv 4)) (aj (ak (pv 3)) bz)))) (λ_ _ _=>(yu rfl (dw (cj (i:=0) (show(["stood","by","many"]:List Str).Nodup by decide +kernel) rfl (bO rfl)) (dw (cj (i:=1) (show(["stood","by","many"]:List Str).Nodup by decide +kernel) rfl (bO rfl)) (dw (cj (i:=2) (show(["stood","by","many"]:List Str).Nodup by decide +kernel) rfl (bO rfl)) uh))))) (λ_ _ _=>uq) (λ_ _ _=>(vb (ahh (wk hr.units) (e2_v (vb (dj jb (e2_n (pv 0) (cg (pv 1))))) (cg (pv 2))) (je _)))))) cu)))))) (au (SV.s (gn (wb aaf)))) jm) (aq (SV.s (iu (i:=5) yj.nd rfl (bO rfl) (Za d9 hr (eg_v (ak (pv 0)) (eg_v (vb (Za d8 hr (eg_v (ak (pv 0)) (eg_v (ak (pv 1)) (eg_v (ak (pv 3)) bu))))) bu))))) (au (SV.s (gn (ahh (wk hr.units) (e2_v (vb (Za d10 hr (eg_n (pv 5) (eg_v (vb (nq [] ["room","many"] [ZY,ZY] rfl (aju (by rfl) T.z_enumerate (aj (ak (pv 3)) bz)) (λ_ _ _=>(yu rfl (dw (cj (i:=0) (show(["room","many"]:List Str).Nodup by decide +kernel) rfl (bO rfl)) (dw (cj (i:=1) (show(["room","many"]:List Str).Nodup by decide +kernel) rfl (bO rfl)) uh)))) (λ_ _ _=>(ahi (jn axm (e2_n (pv 1) (yb bh)) (je _)))) (λ_ _ _=>(ak (pv 0))))) bu)))) (yb (vb (km bz)))) (je _)))))))))))
def am8(F:Fun K "is_rest" "is_rest" ad2 f fd)(T:Txt K mg)(d16:Dd16 P w K mg base)(d5:Dd5 P w K mg base)(d20:Dd20 P w K mg base)(d14:Dd14 P w K mg base)(d21:Dd21 P w K mg base)(d8:Dd8 P w K mg base)(d9:Dd9 P w K mg base)(d10:Dd10 P w K mg base)(x16:Dx16 P w K mg base)(x5:Dx5 P w K mg base):FnOk P w K mg base (CX1 P w) 6 f fd ["house","arrows","walkers","thing"] (spX K 4 j7) :=
 fn_x F yj rfl rfl λcdv A outer s H E hr=>
  (pq (jo (Za d16 hr (eg_v (EV.s (ak (pv 0))) (eg_v (EV.s (ak (pv 1))) (eg_v (EV.s (ak (pv 2))) bu))))) (xg (afw x16 (hr.mono (by decide)) (by rfl) (eg_v (EV.s (ak (pv 0))) (eg_v (EV.s (ak (pv 1))) (eg_v (EV.s (ak (pv 2))) bu))) (xa_v (js:=[]) (EV.s (ak (pv 0))) (XE.no gf) (xa_v (js:=[]) (EV.s (ak (pv 1))) (XE.no gf) (xa_v (js:=[]) (EV.s (ak (pv 2))) (XE.no gf) abb))))) (pq (jo (Za d5 hr (eg_n (pv 0) bu))) (xg (afw x5 (hr.mono (by decide)) (by rfl) (eg_n (pv 0) bu) (xa_n (pv 0) abb))) (pq (ud (ET.s (qi (mq (vb (Za d20 hr (eg_n (pv 0) (eg_v (ak (pv 3)) bu))))))) (au (SV.s (gn (wb aaf)))) jm) (ai0 (ET.s (qi (mq (vb (Za d20 hr (eg_n (pv 0) (eg_v (ak (pv 3)) bu))))))) gf (j9 acr) aet) (pq (SV.s (iu (i:=4) yj.nd rfl (bO rfl) (Za d21 hr (eg_v (ak (pv 0)) (eg_v (vb (Za d14 hr (eg_v (ak (pv 0)) (eg_v (ak (pv 1)) (eg_v (ak (pv 3)) bu))))) bu))))) acr (pq (ud (ET.s (qi (mq (vb (b8 (aho rfl) (by rfl) T.z_all ahr (ea_v (vb (nq [] ["stood","by","many"] [ZY,ZY,ZY] rfl (ag2 (by rfl) T.z_zip (aj (ak (pv 2)) (aj (ak (pv 4)) (aj (ak (pv 3)) bz)))) (λ_ _ _=>(yu rfl (dw (cj (i:=0) (show(["stood","by","many"]:List Str).Nodup by decide +kernel) rfl (bO rfl)) (dw (cj (i:=1) (show(["stood","by","many"]:List Str).Nodup by decide +kernel) rfl (bO rfl)) (dw (cj (i:=2) (show(["stood","by","many"]:List Str).Nodup by decide +kernel) rfl (bO rfl)) uh))))) (λ_ _ _=>uq) (λ_ _ _=>(vb (ahh (wk hr.units) (e2_v (vb (dj jb (e2_n (pv 0) (cg (pv 1))))) (cg (pv 2))) (je _)))))) cu)))))) (au (SV.s (gn (wb aaf)))) jm) (ai0 (ET.s (qi (mq (vb (b8 (aho rfl) (by rfl) T.z_all ahr (ea_v (vb (nq [] ["stood","by","many"] [ZY,ZY,ZY] rfl (ag2 (by rfl) T.z_zip (aj (ak (pv 2)) (aj (ak (pv 4)) (aj (ak (pv 3)) bz)))) (λ_ _ _=>(yu rfl (dw (cj (i:=0) (show(["stood","by","many"]:List Str).Nodup by decide +kernel) rfl (bO rfl)) (dw (cj (i:=1) (show(["stood","by","many"]:List Str).Nodup by decide +kernel) rfl (bO rfl)) (dw (cj (i:=2) (show(["stood","by","many"]:List Str).Nodup by decide +kernel) rfl (bO rfl)) uh))))) (λ_ _ _=>uq) (λ_ _ _=>(vb (ahh (wk hr.units) (e2_v (vb (dj jb (e2_n (pv 0) (cg (pv 1))))) (cg (pv 2))) (je _)))))) cu)))))) gf (j9 acr) aet) (pq (SV.s (iu (i:=5) yj.nd rfl (bO rfl) (Za d9 hr (eg_v (ak (pv 0)) (eg_v (vb (Za d8 hr (eg_v (ak (pv 0)) (eg_v (ak (pv 1)) (eg_v (ak (pv 3)) bu))))) bu))))) acr (j9 acr)))))))
def alb(F:Fun K "_law_cell" "_law_cell" ac9 f fd)(T:Txt K mg):FnOk P w K mg base CX0 1 f fd ["script","k"] (spOf K 2 f__law_cell) :=
 jl F aky rfl rfl λcdv A outer s H E hr=>
  (aq (ud (jn aij (e2_n (pv 1) (yb (vb (b8 jz (by rfl) T.z_len j0 (ea_n (pv 0) cu))))) (je _)) (au (gn (su (e2_n (pv 0) (cg (pv 1))) (λ_ _=>by rfl)))) jm) (au (gn (wb bh))))
def ana(F:Fun K "_law_pen" "_law_pen" aex f fd)(T:Txt K mg):FnOk P w K mg base CX0 1 f fd ["cell"] (spOf K 1 f__law_pen) :=
 jl F agl rfl rfl λcdv A outer s H E hr=>
  (aq (iu (i:=1) agl.nd rfl (bO rfl) (b8 (ax5 rfl) (by rfl) T.z_max ax8 (ea_n (pv 0) (ea_v (vb (dj yq (e2_v bh (cg (pv 0))))) cu)))) (au (gn (km (aj (ak (pv 1)) (aj (vb (ie a4x (by rfl) T.z_int apf (ea_v (vb (ahh agq (e2_n (pv 1) (yb (vb (dj asm (e2_v bh (yb bh)))))) (je _))) cu))) bz))))))
def ala(F:Fun K "_law_draw" "_law_draw" ac8 f fd)(T:Txt K mg):FnOk P w K mg base CX0 1 f fd ["pen","many"] (spOf K 2 f__law_draw) :=
 jl F wj rfl rfl λcdv A outer s H E hr=>
  (aq (ud (jn (wk hr.units) (e2_v (vb (su (e2_n (pv 0) (yb bh)) (λ_ _=>by rfl))) (yb bh)) (je _)) (aq (a1n (vb (b8 aul (by rfl) T.z_divmod auu (ea_v (vb (su (e2_n (pv 0) (yb bh)) (λ_ _=>by rfl))) (ea_n (pv 1) cu)))) (yu rfl (dw (cj (i:=2) wj.nd rfl (bO rfl)) (dw (cj (i:=3) wj.nd rfl (bO rfl)) uh)))) (aq (arj (ak (pv 2)) (pv 0) bh) (au (gn (ahg (pv 3)))))) jm) (aq (iu (i:=4) wj.nd rfl (bO rfl) (dj abt (e2_v (vb (dj aez (e2_v (vb (dj jb (e2_v (vb (dj abt (e2_v (vb (su (e2_n (pv 0) (yb bh)) (λ_ _=>by rfl))) (yb bh)))) (yb bh)))) (yb bh)))) (yb bh)))) (aq (iu (i:=4) wj.nd rfl (bO rfl) (dj abt (e2_v (vb (dj jb (e2_v (vb (dj aez (e2_n (pv 4) (cg (pv 4))))) (yb bh)))) (yb bh)))) (aq (arj (vb (dj abt (e2_v (vb (dj jb (e2_v (vb (dj aez (e2_n (pv 4) (yb bh)))) (yb bh)))) (yb bh)))) (pv 0) bh) (au (gn (dj abt (e2_v (vb (dj aso (e2_v (vb (su (e2_n (pv 0) (yb bh)) (λ_ _=>by rfl))) (yb bh)))) (cg (pv 1))))))))))
def ajl(F:Fun K "_law_whole" "_law_whole" zr f fd)(T:Txt K mg):FnOk P w K mg base CX0 1 f fd ["thing"] (spOf K 1 uw) :=
 jl F ad0 rfl rfl λcdv A outer s H E hr=>
  (au (gn (wb (aiv (ahf (t:=.int) (ak3 (by rfl) T.z_int apf) (by rfl) T.z_isinstance bj (cg (pv 0))) (aiu (atz (ahf (t:=.bool) (ak3 (by rfl) T.z_bool an2) (by rfl) T.z_isinstance bj (cg (pv 0)))))))))
def ah0(F:Fun K "_law_whole" "_law_whole" zr f fd)(T:Txt K mg):FnOkU P w K mg base 1 f fd ["thing"] (spOf K 1 uw) :=
 atv F ad0 rfl rfl λcdv A outer s H hr=>
  (au (gn (wb (aiv (ahf (t:=.int) (ak3 (by rfl) T.z_int apf) (by rfl) T.z_isinstance bj (cg (pv 0))) (aiu (atz (ahf (t:=.bool) (ak3 (by rfl) T.z_bool an2) (by rfl) T.z_isinstance bj (cg (pv 0)))))))))
def ajn(F:Fun K "_law_house" "_law_house" abn f fd)(T:Txt K mg)(d25:Dd25 P w K mg base):FnOk P w K mg base CX0 2 f fd ["pen","most","doors"] (spOf K 3 f__law_house) :=
 jl F qy rfl rfl λcdv A outer s H E hr=>
  (aq (iu (i:=3) qy.nd rfl (qJ rfl) (dj jb (e2_v bh (yb (vb (Za d25 hr (eg_n (pv 0) (eg_n (pv 1) bu)))))))) (aq (iu (i:=4) qy.nd rfl (qJ rfl) (su (e2_v (vb (km (aj bh (aj bh (aj bh (aj bh bz)))))) (yb (vb (Za d25 hr (eg_n (pv 0) (eg_v bh bu)))))) (λ_ _=>by rfl))) (aq (iu (i:=5) qy.nd rfl (bO rfl) (km bz)) (aq (abd dC rfl (yr (by rfl) T.z_range (aj (ak (pv 3)) bz)) (cj (i:=6) qy.nd rfl (bO rfl)) (aq (iu (i:=7) qy.nd rfl (bO rfl) (dj jb (e2_v bh (yb (vb (Za d25 hr (eg_n (pv 0) (eg_n (pv 2) bu)))))))) (au (jo (wb (at3 ae2 nY PySem.F.type_list_append aef (pv 5) (aj (vb (ie jx (by rfl) T.z_tuple jt (ea_v (vb (nq ["pen","many","gates"] ["door","pen","many","gates"] [ZY,ZZ 0,ZZ 3,ZZ 4] rfl (yr (by rfl) T.z_range (aj (ak (pv 7)) bz)) (λ_ _ _=>(cj (i:=0) (show(["door","pen","many","gates"]:List Str).Nodup by decide +kernel) rfl (bO rfl))) (λ_ _ _=>uq) (λ_ _ _=>(vb (dj yq (e2_v (vb (Za d25 hr (eg_n (pv 1) (eg_v (vb (dj jb (e2_n (pv 2) (cg (pv 3))))) bu)))) (cg (pv 3)))))))) cu))) bz))))))) (au (gn (ie jx (by rfl) T.z_tuple jt (ea_n (pv 5) cu))))))))
def ags(F:Fun K "_law_reached" "_law_reached" aac f fd)(T:Txt K mg):FnOk P w K mg base CX0 1 f fd ["house","room"] (spOf K 2 ou) :=
 jl F qm rfl rfl λcdv A outer s H E hr=>
  (aq (iu (i:=2) qm.nd rfl (qJ rfl) (km (aj (ak (pv 1)) bz))) (aq (iu (i:=3) qm.nd rfl (bO rfl) (wb bh)) (aq (af2 fuel dC (jn aij (e2_n (pv 3) (yb (vb (b8 jz (by rfl) T.z_len j0 (ea_n (pv 2) cu))))) (je _)) (aq (ud (jn agq (e2_v (vb (su (e2_n (pv 2) (cg (pv 3))) (λ_ _=>by rfl))) (yb bh)) (je _)) (au (iu (i:=2) qm.nd rfl (qJ rfl) (dj jb (e2_n (pv 2) (yb (vb (nq ["found"] ["door","found"] [ZY,ZZ 2] rfl (abg (vb (al3 rfl (by rfl) T.z_sorted aut (by rfl) T.z_set a4y (ea_v (vb (su (e2_n (pv 0) (yb (vb (su (e2_n (pv 2) (cg (pv 3))) (λ_ _=>by rfl))))) (λ_ _=>by rfl))) cu)))) (λ_ _ _=>(cj (i:=0) (show(["door","found"]:List Str).Nodup by decide +kernel) rfl (bO rfl))) (λ_ _ _=>(ahi (jn (asn hr.units) (e2_n (pv 0) (cg (pv 1))) (by with_unfolding_all rfl)))) (λ_ _ _=>(ak (pv 0)))))))))) jm) (au (iu (i:=3) qm.nd rfl (bO rfl) (dj jb (e2_n (pv 3) (yb bh))))))) (au (gn (ahg (pv 2)))))))
def ak8(F:Fun K "_law_open" "_law_open" ac7 f fd)(T:Txt K mg)(d27:Dd27 P w K mg base)(d28:Dd28 P w K mg base)(d25:Dd25 P w K mg base):FnOk P w K mg base CX0 3 f fd ["pen","most","doors"] (spOf K 3 f__law_open) :=
 jl F zm rfl rfl λcdv A outer s H E hr=>
  (aq (iu (i:=3) zm.nd rfl (bO rfl) (ie afa (by rfl) T.z_list adq (ea_v (vb (Za d27 hr (eg_n (pv 0) (eg_n (pv 1) (eg_n (pv 2) bu))))) cu))) (aq (abd dC rfl (yr (by rfl) T.z_range (aj (vb (b8 jz (by rfl) T.z_len j0 (ea_n (pv 3) cu))) bz)) (cj (i:=4) zm.nd rfl (bO rfl)) (au (ud (jn agq (e2_v (vb (b8 (auk rfl) (by rfl) T.z_min ax7 (ea_v (vb (Za d28 hr (eg_n (pv 3) (eg_v (ak (pv 4)) bu)))) cu))) (yb bh)) (je _)) (aq (iu (i:=5) zm.nd rfl (bO rfl) (Za d25 hr (eg_n (pv 0) (eg_v (vb (b8 jz (by rfl) T.z_len j0 (ea_v (vb (su (e2_n (pv 3) (cg (pv 4))) (λ_ _=>by rfl))) cu))) bu)))) (au (arj (vb (dj jb (e2_v (vb (dj jb (e2_v (vb (ax0 (vb (su (e2_n (pv 3) (cg (pv 4))) (λ_ _=>by rfl))) ab4 (aah (ak (pv 5))))) (yb (qg (aj (vb (dj yq (e2_v (al2 bh) (yb (vb (Za d25 hr (eg_n (pv 0) (eg_v bh bu)))))))) bz)))))) (yb (vb (ax0 (vb (su (e2_n (pv 3) (cg (pv 4))) (λ_ _=>by rfl))) (aah (vb (dj jb (e2_n (pv 5) (yb bh))))) ab4)))))) (pv 3) (ak (pv 4))))) jm))) (au (gn (ie jx (by rfl) T.z_tuple jt (ea_n (pv 3) cu))))))
def ajo(F:Fun K "_law_drawn" "_law_drawn" abo f fd)(T:Txt K mg)(d25:Dd25 P w K mg base):FnOk P w K mg base CX0 2 f fd ["pen","house"] (spOf K 2 f__law_drawn) :=
 jl F ajb rfl rfl λcdv A outer s H E hr=>
  (au (gn (ie jx (by rfl) T.z_tuple jt (ea_v (vb (nq ["pen"] ["room","pen"] [ZY,ZZ 0] rfl (abg (ak (pv 1))) (λ_ _ _=>(cj (i:=0) (show(["room","pen"]:List Str).Nodup by decide +kernel) rfl (bO rfl))) (λ_ _ _=>uq) (λ_ _ _=>(vb (Za d25 hr (eg_n (pv 1) (eg_v (vb (b8 jz (by rfl) T.z_len j0 (ea_n (pv 0) cu))) bu))))))) cu))))
def ak9(F:Fun K "_law_kind" "_law_kind" aa0 f fd)(T:Txt K mg):FnOk P w K mg base CX0 1 f fd ["e"] (spOf K 1 nj) :=
 jl F jy rfl rfl λcdv A outer s H E hr=>
  (aq (iu (i:=1) jy.nd rfl (bO rfl) (km (aj (jw T.sub (by decide +kernel) (by rfl) T.k_NoArrows (by rfl) T.z_isinstance bj (cg (pv 0))) (aj (jw T.sub (by decide +kernel) (by rfl) T.k_NoRoom (by rfl) T.z_isinstance bj (cg (pv 0))) (aj (jw T.sub (by decide +kernel) (by rfl) T.k_NoWalkers (by rfl) T.z_isinstance bj (cg (pv 0))) (aj (jw T.sub (by decide +kernel) (by rfl) T.k_NotShut (by rfl) T.z_isinstance bj (cg (pv 0))) bz)))))) (aq (iu (i:=1) jy.nd rfl (bO rfl) (dj jb (e2_n (pv 1) (yb (vb (km (aj (jw T.sub (by decide +kernel) (by rfl) T.k_NeverBack (by rfl) T.z_isinstance bj (cg (pv 0))) (aj (jw T.sub (by decide +kernel) (by rfl) T.k_NoTour (by rfl) T.z_isinstance bj (cg (pv 0))) (aj (jw T.sub (by decide +kernel) (by rfl) T.k_NoRow (by rfl) T.z_isinstance bj (cg (pv 0))) (aj (jw T.sub (by decide +kernel) (by rfl) T.k_NoHouse (by rfl) T.z_isinstance bj (cg (pv 0))) bz)))))))))) (aq (iu (i:=1) jy.nd rfl (bO rfl) (dj jb (e2_n (pv 1) (yb (vb (km (aj (jw T.sub (by decide +kernel) (by rfl) T.k_NotOpen (by rfl) T.z_isinstance bj (cg (pv 0))) (aj (jw T.sub (by decide +kernel) (by rfl) T.k_Nobody (by rfl) T.z_isinstance bj (cg (pv 0))) (aj (jw T.sub (by decide +kernel) (by rfl) T.k_NoText (by rfl) T.z_isinstance bj (cg (pv 0))) (aj (jw T.sub (by decide +kernel) (by rfl) T.k_TooGreat (by rfl) T.z_isinstance bj (cg (pv 0))) bz)))))))))) (aq (ud (EW.pt (ah5 (qi (mq (at5 T.sub (by rfl) T.z_ValueError aeq (by rfl) T.z_isinstance bj (cg (pv 0))))) (acx (jn (ad8 hr.units) (e2_v (ao8 hr.units (pv 1) (aj aaf bz)) (yb bh)) (je _))))) (au (gn (wb ji))) jm) (aq (iu (i:=2) jy.nd rfl (bO rfl) (km (aj ji (aj ji (aj ji (aj ji (aj ji (aj ji (aj ji (aj ji (aj ji (aj ji bz)))))))))))) (au (gn (su (e2_v (vb (dj jb (e2_n (pv 2) (yb (vb (km (aj ji (aj ji bz)))))))) (yb (at4 oJ uC (aoo hr.units) (pv 1) (aj aaf bz)))) (λ_ _=>by rfl)))))))))
def aji(F:Fun K "_law_kind" "_law_kind" aa0 f fd)(T:Txt K mg):FnOkU P w K mg base 1 f fd ["e"] (spOf K 1 nj) :=
 atv F jy rfl rfl λcdv A outer s H hr=>
  (aq (iu (i:=1) jy.nd rfl (bO rfl) (km (aj (jw T.sub (by decide +kernel) (by rfl) T.k_NoArrows (by rfl) T.z_isinstance bj (cg (pv 0))) (aj (jw T.sub (by decide +kernel) (by rfl) T.k_NoRoom (by rfl) T.z_isinstance bj (cg (pv 0))) (aj (jw T.sub (by decide +kernel) (by rfl) T.k_NoWalkers (by rfl) T.z_isinstance bj (cg (pv 0))) (aj (jw T.sub (by decide +kernel) (by rfl) T.k_NotShut (by rfl) T.z_isinstance bj (cg (pv 0))) bz)))))) (aq (iu (i:=1) jy.nd rfl (bO rfl) (dj jb (e2_n (pv 1) (yb (vb (km (aj (jw T.sub (by decide +kernel) (by rfl) T.k_NeverBack (by rfl) T.z_isinstance bj (cg (pv 0))) (aj (jw T.sub (by decide +kernel) (by rfl) T.k_NoTour (by rfl) T.z_isinstance bj (cg (pv 0))) (aj (jw T.sub (by decide +kernel) (by rfl) T.k_NoRow (by rfl) T.z_isinstance bj (cg (pv 0))) (aj (jw T.sub (by decide +kernel) (by rfl) T.k_NoHouse (by rfl) T.z_isinstance bj (cg (pv 0))) bz)))))))))) (aq (iu (i:=1) jy.nd rfl (bO rfl) (dj jb (e2_n (pv 1) (yb (vb (km (aj (jw T.sub (by decide +kernel) (by rfl) T.k_NotOpen (by rfl) T.z_isinstance bj (cg (pv 0))) (aj (jw T.sub (by decide +kernel) (by rfl) T.k_Nobody (by rfl) T.z_isinstance bj (cg (pv 0))) (aj (jw T.sub (by decide +kernel) (by rfl) T.k_NoText (by rfl) T.z_isinstance bj (cg (pv 0))) (aj (jw T.sub (by decide +kernel) (by rfl) T.k_TooGreat (by rfl) T.z_isinstance bj (cg (pv 0))) bz)))))))))) (aq (ud (EW.pt (ah5 (qi (mq (at5 T.sub (by rfl) T.z_ValueError aeq (by rfl) T.z_isinstance bj (cg (pv 0))))) (acx (jn (ad8 hr.units) (e2_v (ao8 hr.units (pv 1) (aj aaf bz)) (yb bh)) (je _))))) (au (gn (wb ji))) jm) (aq (iu (i:=2) jy.nd rfl (bO rfl) (km (aj ji (aj ji (aj ji (aj ji (aj ji (aj ji (aj ji (aj ji (aj ji (aj ji bz)))))))))))) (au (gn (su (e2_v (vb (dj jb (e2_n (pv 2) (yb (vb (km (aj ji (aj ji bz)))))))) (yb (at4 oJ uC (aoo hr.units) (pv 1) (aj aaf bz)))) (λ_ _=>by rfl)))))))))
def agr(F:Fun K "_law_walkers" "_law_walkers" aab f fd)(T:Txt K mg)(d25:Dd25 P w K mg base):FnOk P w K mg base CX0 2 f fd ["pen","house","most"] (spOf K 3 oh) :=
 jl F agk rfl rfl λcdv A outer s H E hr=>
  (au (gn (ie jx (by rfl) T.z_tuple jt (ea_v (vb (nq ["pen","most"] ["room","pen","most"] [ZY,ZZ 0,ZZ 2] rfl (abg (ak (pv 1))) (λ_ _ _=>(cj (i:=0) (show(["room","pen","most"]:List Str).Nodup by decide +kernel) rfl (bO rfl))) (λ_ _ _=>uq) (λ_ _ _=>(vb (b8 (ax5 rfl) (by rfl) T.z_max ax8 (ea_v bh (ea_v (vb (dj yq (e2_v (vb (Za d25 hr (eg_n (pv 1) (eg_v (vb (dj jb (e2_n (pv 2) (yb bh)))) bu)))) (yb bh)))) cu))))))) cu))))
def ak7(F:Fun K "_law_told" "_law_told" ac6 f fd)(T:Txt K mg)(d17:Dd17 P w K mg base)(d22:Dd22 P w K mg base)(d18:Dd18 P w K mg base)(d19:Dd19 P w K mg base)(x17:Dx17 P w K mg base)(x22:Dx22 P w K mg base)(x18:Dx18 P w K mg base)(x19:Dx19 P w K mg base)(u31:Du31 P w K mg base)(u26:Du26 P w K mg base):FnOk P w K mg base CX0 7 f fd ["way","house","some","there"] (spOf K 4 dz) :=
 jl F afj rfl rfl λcdv A outer s H E hr=>
  (aq (ays rfl rfl rfl rfl afj.nd rfl rfl (by rfl) T.cat T.sub (by decide +kernel) (au (ud (ET.s (jn (wk hr.units) (e2_n (pv 0) (yb bh)) (je _))) (au (jo (Za d17 hr (eg_v (EV.s (ak (pv 1))) (eg_v (EV.s (ak (pv 2))) (eg_v (EV.s (ak (pv 3))) bu)))))) (au (ud (ET.s (jn (wk hr.units) (e2_n (pv 0) (yb bh)) (je _))) (au (jo (Za d22 hr (eg_v (EV.s (ak (pv 1))) (eg_v (EV.s (ak (pv 2))) (eg_v (EV.s (ak (pv 3))) (eg_v (EV.s aft) bu))))))) (au (ud (ET.s (jn (wk hr.units) (e2_n (pv 0) (yb bh)) (je _))) (au (jo (Za d18 hr (eg_v (EV.s (ak (pv 1))) (eg_v (EV.s (ak (pv 2))) (eg_v (EV.s (ak (pv 3))) (eg_v (vb (ER.s (km bz))) bu))))))) (au (jo (Za d19 hr (eg_v (EV.s (ak (pv 1))) (eg_v (EV.s (ak (pv 2))) (eg_v (vb (ER.s (ie jx (by rfl) T.z_tuple jt (ea_v (vb (nq [] ["room"] [ZY] rfl (abg (ak (pv 1))) (λ_ _ _=>(cj (i:=0) (show(["room"]:List Str).Nodup by decide +kernel) rfl (bO rfl))) (λ_ _ _=>uq) (λ_ _ _=>bh))) cu)))) bu)))))))))))) (j9 (ai0 (ET.s (jn (wk hr.units) (e2_n (pv 0) (yb bh)) (je _))) gf (j9 (xg (afw x17 (hr.mono (by decide)) (by rfl) (eg_v (EV.s (ak (pv 1))) (eg_v (EV.s (ak (pv 2))) (eg_v (EV.s (ak (pv 3))) bu))) (xa_v (js:=[]) (EV.s (ak (pv 1))) (XE.no gf) (xa_v (js:=[]) (EV.s (ak (pv 2))) (XE.no gf) (xa_v (js:=[]) (EV.s (ak (pv 3))) (XE.no gf) abb)))))) (j9 (ai0 (ET.s (jn (wk hr.units) (e2_n (pv 0) (yb bh)) (je _))) gf (j9 (xg (afw x22 (hr.mono (by decide)) (by rfl) (eg_v (EV.s (ak (pv 1))) (eg_v (EV.s (ak (pv 2))) (eg_v (EV.s (ak (pv 3))) (eg_v (EV.s aft) bu)))) (xa_v (js:=[]) (EV.s (ak (pv 1))) (XE.no gf) (xa_v (js:=[]) (EV.s (ak (pv 2))) (XE.no gf) (xa_v (js:=[]) (EV.s (ak (pv 3))) (XE.no gf) (xa_v (js:=[]) (EV.s aft) (XE.no gf) abb))))))) (j9 (ai0 (ET.s (jn (wk hr.units) (e2_n (pv 0) (yb bh)) (je _))) gf (j9 (xg (afw x18 (hr.mono (by decide)) (by rfl) (eg_v (EV.s (ak (pv 1))) (eg_v (EV.s (ak (pv 2))) (eg_v (EV.s (ak (pv 3))) (eg_v (vb (ER.s (km bz))) bu)))) (xa_v (js:=[]) (EV.s (ak (pv 1))) (XE.no gf) (xa_v (js:=[]) (EV.s (ak (pv 2))) (XE.no gf) (xa_v (js:=[]) (EV.s (ak (pv 3))) (XE.no gf) (xa_v (js:=[]) (vb (ER.s (km bz))) (XE.d (XE.no gf)) abb))))))) (j9 (xg (afw x19 (hr.mono (by decide)) (by rfl) (eg_v (EV.s (ak (pv 1))) (eg_v (EV.s (ak (pv 2))) (eg_v (vb (ER.s (ie jx (by rfl) T.z_tuple jt (ea_v (vb (nq [] ["room"] [ZY] rfl (abg (ak (pv 1))) (λ_ _ _=>(cj (i:=0) (show(["room"]:List Str).Nodup by decide +kernel) rfl (bO rfl))) (λ_ _ _=>uq) (λ_ _ _=>bh))) cu)))) bu))) (xa_v (js:=[]) (EV.s (ak (pv 1))) (XE.no gf) (xa_v (js:=[]) (EV.s (ak (pv 2))) (XE.no gf) (xa_v (js:=[]) (vb (ER.s (ie jx (by rfl) T.z_tuple jt (ea_v (vb (nq [] ["room"] [ZY] rfl (abg (ak (pv 1))) (λ_ _ _=>(cj (i:=0) (show(["room"]:List Str).Nodup by decide +kernel) rfl (bO rfl))) (λ_ _ _=>uq) (λ_ _ _=>bh))) cu)))) (XE.d (XE.no gf)) abb)))))))))))) (λev=>(aq (ud (jn (wk (hr.mark ev).units) (e2_v (vb (at6 u31 ((hr.mark ev).mono (by decide)) (by rfl) (eg_n (pv 4) bu))) (yb ji)) (je _)) (au (gn (wb (qg (aj ji (aj (vb (a0s (mq (vb (at6 u26 ((hr.mark ev).mono (by decide)) (by rfl) (eg_v (axy (ao5 T.n_room) (ak (pv 4))) bu)))) (wb (axy (ao5 T.n_room) (ak (pv 4)))) (wb aft))) bz)))))) jm) (au (gn (wb (qg (aj (vb (at6 u31 ((hr.mark ev).mono (by decide)) (by rfl) (eg_n (pv 4) bu))) (aj bh bz))))))))) (au (gn (wb (qg (aj ji (aj bh bz)))))))
def ae1(F:Fun K "_law_no_arrows" "_law_no_arrows" xm f fd)(T:Txt K mg)(d25:Dd25 P w K mg base):FnOk P w K mg base CX0 2 f fd ["pen","house","some"] (spOf K 3 f__law_no_arrows) :=
 jl F qx rfl rfl λcdv A outer s H E hr=>
  (aq (iu (i:=3) qx.nd rfl (bO rfl) (Za d25 hr (eg_n (pv 0) (eg_v (vb (b8 jz (by rfl) T.z_len j0 (ea_n (pv 1) cu))) bu)))) (aq (iu (i:=4) qx.nd rfl (bO rfl) (su (e2_v (vb (km (aj (vb (b8 jz (by rfl) T.z_len j0 (ea_v (vb (su (e2_n (pv 1) (cg (pv 3))) (λ_ _=>by rfl))) cu))) (aj (al2 bh) (aj aaf (aj aft (aj ji bz))))))) (yb (vb (Za d25 hr (eg_n (pv 0) (eg_v bh bu)))))) (λ_ _=>by rfl))) (aq (iu (i:=5) qx.nd rfl (bO rfl) (km (aj (vb (dj jb (e2_v (vb (dj jb (e2_v (vb (ado (pv 2) ab4 (aah (ak (pv 3))))) (yb (qg (aj (ak (pv 4)) bz)))))) (yb (vb (ado (pv 2) (aah (vb (dj jb (e2_n (pv 3) (yb bh))))) ab4)))))) (aj (vb (dj jb (e2_n (pv 2) (yb (qg (aj bh bz)))))) (aj (vb (ado (pv 2) (aah bh) ab4)) (aj (vb (ie afa (by rfl) T.z_list adq (ea_n (pv 2) cu))) (aj aft (aj ji (aj ao7 (aj (qg (aj (ak (pv 2)) bz)) bz)))))))))) (au (gn (su (e2_n (pv 5) (yb (vb (Za d25 hr (eg_n (pv 0) (eg_v bh bu)))))) (λ_ _=>by rfl)))))))
def aed(F:Fun K "_law_no_walkers" "_law_no_walkers" vg f fd)(T:Txt K mg)(d25:Dd25 P w K mg base):FnOk P w K mg base CX0 2 f fd ["pen","house","there"] (spOf K 3 f__law_no_walkers) :=
 jl F qd rfl rfl λcdv A outer s H E hr=>
  (aq (iu (i:=3) qd.nd rfl (bO rfl) (Za d25 hr (eg_n (pv 0) (eg_v (vb (b8 jz (by rfl) T.z_len j0 (ea_n (pv 1) cu))) bu)))) (aq (iu (i:=4) qd.nd rfl (bO rfl) (su (e2_v (vb (km (aj bh (aj (al2 bh) (aj aaf (aj aft (aj (vb (dj asm (e2_v bh (yb bh)))) (aj ji (aj aaf bz))))))))) (yb (vb (Za d25 hr (eg_n (pv 0) (eg_v bh bu)))))) (λ_ _=>by rfl))) (aq (iu (i:=5) qd.nd rfl (bO rfl) (km (aj (vb (dj jb (e2_v (vb (dj jb (e2_v (vb (ado (pv 2) ab4 (aah (ak (pv 3))))) (yb (qg (aj (ak (pv 4)) bz)))))) (yb (vb (ado (pv 2) (aah (vb (dj jb (e2_n (pv 3) (yb bh))))) ab4)))))) (aj (vb (dj jb (e2_n (pv 2) (yb (qg (aj bh bz)))))) (aj (vb (ado (pv 2) (aah bh) ab4)) (aj (vb (ie afa (by rfl) T.z_list adq (ea_n (pv 2) cu))) (aj aft (aj ji (aj ao7 (aj (qg (aj (ak (pv 2)) bz)) bz)))))))))) (au (gn (su (e2_n (pv 5) (yb (vb (Za d25 hr (eg_n (pv 0) (eg_v bh bu)))))) (λ_ _=>by rfl)))))))
def ajm(F:Fun K "_law_right" "_law_right" abm f fd)(T:Txt K mg)(d30:Dd30 P w K mg base)(d32:Dd32 P w K mg base)(d34:Dd34 P w K mg base)(d35:Dd35 P w K mg base)(d28:Dd28 P w K mg base)(d33:Dd33 P w K mg base):FnOk P w K mg base CX0 8 f fd ["pen","house"] (spOf K 2 f__law_right) :=
 jl F qu rfl rfl λcdv A outer s H E hr=>
  (aq (axa (i:=2) (j:=3) rfl qu.nd rfl rfl (by decide) rfl rfl (aj (vb (Za d30 hr (eg_n (pv 0) (eg_v (ak (pv 1)) bu)))) (aj (vb (Za d32 hr (eg_n (pv 0) (eg_v (ak (pv 1)) (eg_v bh bu))))) bz))) (aq (axa (i:=4) (j:=5) rfl qu.nd rfl rfl (by decide) rfl rfl (aj (vb (Za d34 hr (eg_n (pv 0) (eg_n (pv 1) (eg_v (ak (pv 2)) bu))))) (aj (vb (Za d35 hr (eg_n (pv 0) (eg_n (pv 1) (eg_v (ak (pv 3)) bu))))) bz))) (aq (ayu (i:=6) ["house"] ["room","house"] [ZY,ZZ 1] qu.nd rfl (bO rfl) rfl (yr (by rfl) T.z_range (aj (vb (b8 jz (by rfl) T.z_len j0 (ea_n (pv 1) cu))) bz)) (λ_ _ _=>(cj (i:=0) (show(["room","house"]:List Str).Nodup by decide +kernel) rfl (bO rfl))) (λ_ _ _=>(ahi (jn agq (e2_v (vb (b8 (auk rfl) (by rfl) T.z_min ax7 (ea_v (vb (Za d28 hr (eg_n (pv 1) (eg_n (pv 0) bu)))) cu))) (yb bh)) (je _)))) (λ_ _ _=>(ak (pv 0)))) (aq (iu (i:=7) qu.nd rfl (bO rfl) (a0s (jn (ad8 hr.units) (e2_n (pv 6) (yb (vb (km bz)))) (je _)) (wb (qg (aj ji (aj (vb (su (e2_n (pv 6) (yb bh)) (λ_ _=>by rfl))) bz)))) (wb (qg (aj ji (aj bh bz)))))) (aq (abd dC rfl (yr (by rfl) T.z_range (aj bh bz)) (cj (i:=8) qu.nd rfl (bO rfl)) (aq (ud (EW.pt (ah5 (jn (ad8 hr.units) (e2_v (vb (Za d33 hr (eg_n (pv 8) (eg_v (ak (pv 1)) (eg_v (ak (pv 4)) (eg_v (ak (pv 5)) bu)))))) (yb (qg (aj ji (aj bh bz))))) (je _)) (acx (jn (ad8 hr.units) (e2_v (vb (Za d33 hr (eg_n (pv 8) (eg_v (ak (pv 1)) (eg_v (ak (pv 4)) (eg_v (ak (pv 3)) bu)))))) (yb (qg (aj ji (aj bh bz))))) (je _))))) (au (gn (wb aaf))) jm) (aq (ud (EW.pt (a4p (jn aij (e2_n (pv 8) (yb bh)) (je _)) (a0q (jn (ad8 hr.units) (e2_v (vb (Za d33 hr (eg_n (pv 8) (eg_v (ak (pv 1)) (eg_v (ak (pv 2)) (eg_v (ak (pv 5)) bu)))))) (yb (qg (aj ji (aj bh bz))))) (je _))))) (au (gn (wb aaf))) jm) (au (ud (jn (ad8 hr.units) (e2_v (vb (Za d33 hr (eg_n (pv 8) (eg_v (ak (pv 1)) (eg_v (ak (pv 2)) (eg_v (ak (pv 3)) bu)))))) (yb (vb (a0s (jn aij (e2_n (pv 8) (yb bh)) (je _)) (wb (ak (pv 7))) (wb (qg (aj ji (aj bh bz)))))))) (je _)) (au (gn (wb aaf))) jm))))) (au (gn (wb aaf))))))))
def a3d(F:Fun K "law" "law" ajd f fd)(T:Txt K mg)(d36:Dd36 P w K mg base)(d24:Dd24 P w K mg base)(d23:Dd23 P w K mg base)(d27:Dd27 P w K mg base)(d29:Dd29 P w K mg base):FnOk P w K mg base CX0 9 f fd ["script"] (spOf K 1 aty) :=
 jl F aru rfl rfl λcdv A outer s H E hr=>
  (aq (ud (EW.pt (ah5 (qi (mq (vb (axz d36 (hr.mono (by decide)) (by rfl) (Za d24 hr (eg_v bh bu)) (aj (qg (aj (qg (aj bh bz)) bz)) bz) (aot as7))))) (acx (qi (mq (vb (axz d36 (hr.mono (by decide)) (by rfl) (Za d24 hr (eg_v bh bu)) (aj (qg (aj (qg (aj (al2 bh) bz)) bz)) bz) (aot as7)))))))) (au (gn (wb aaf))) jm) (aq (abd dC rfl (abg (vb (dj jb (e2_v (vb (km (aj (vb (Za d23 hr (eg_n (pv 0) (eg_v bh bu)))) bz))) (yb (vb (ado (pv 0) (aah bh) (aah bh)))))))) (cj (i:=1) aru.nd rfl (bO rfl)) (aq (iu (i:=2) aru.nd rfl (bO rfl) (Za d24 hr (eg_n (pv 1) bu))) (au (ud (EW.pt (ah5 (qi (mq (vb (Za d36 hr (eg_n (pv 2) (eg_v (vb (Za d27 hr (eg_n (pv 2) (eg_v bh (eg_v bh bu))))) bu)))))) (acx (qi (mq (vb (Za d36 hr (eg_n (pv 2) (eg_v (vb (Za d29 hr (eg_n (pv 2) (eg_v bh (eg_v bh bu))))) bu))))))))) (au (gn (wb aaf))) jm)))) (au (gn (wb aaf)))))
end
abbrev Q(K:Fg9)(x:Str)(st:gK)(f:aQ)(oc:aG)(od:Option aQ)(kV dc pm:aG)(an:Option aQ)(cd ct:aG)(sl:Array (Option aG)):Prop:=nsIn K aV x=ZZ (ZZ (.ref f))/\K.lookup f=ZZ ⟨oc,od,.func (fnOf x x (j8 st) (jc st) (ao st) .none kV dc pm an cd ct),sl⟩/\rW K cd x=ZX/\kW K (.ref f)=ZX
section
variable{K:Fg9}{x:Str}{st:gK}{f:aQ}{oc:aG}{od:Option aQ}{kV dc pm:aG}{an:Option aQ}{cd ct:aG}{sl:Array (Option aG)}(q:Q K x st f oc od kV dc pm an cd ct sl){h:eE}{mg:Str->Option aG}
include q
theorem Q.F:Fun K x x st f (fnOf x x (j8 st) (jc st) (ao st) .none kV dc pm an cd ct):=ait q.2.1 q.2.2.1 q.2.2.2
theorem Q.E{ps:List Str}(X:K.In h)(G:h.Ns aV mg)(b:∀(kV doc pm:aG) (an:Option aQ) (cdv ct:aG) (us:List aG),us.length=ps.length->pR (fnOf x x (j8 st) (jc st) (ao st) .none kV doc pm an cdv ct) ⟨us,[]⟩=pure (ps.zip us)):mg x=ZZ (.ref f)/\kW K (.ref f)=ZX/\Binds K (fnOf x x (j8 st) (jc st) (ao st) .none kV dc pm an cd ct) ps []:=⟨mg_of X G q.1,q.2.2.2,(Q.F q).binds b⟩
theorem Q.E1{p0:Str}(X:K.In h)(G:h.Ns aV mg)(b:∀(kV doc pm:aG) (an:Option aQ) (cdv ct u0:aG),pR (fnOf x x (j8 st) (jc st) (ao st) .none kV doc pm an cdv ct) ⟨[u0],[]⟩=pure ([p0].zip [u0]):=by intros;rfl):mg x=ZZ (.ref f)/\kW K (.ref f)=ZX/\Binds K (fnOf x x (j8 st) (jc st) (ao st) .none kV dc pm an cd ct) [p0] []:=q.E X G λ_ _ _ _ _ _ us hl=>by obtain⟨_,rfl⟩:=ln1 hl;apply b
theorem Q.E2{p0 p1:Str}(X:K.In h)(G:h.Ns aV mg)(b:∀(kV doc pm:aG) (an:Option aQ) (cdv ct u0 u1:aG),pR (fnOf x x (j8 st) (jc st) (ao st) .none kV doc pm an cdv ct) ⟨[u0,u1],[]⟩=pure ([p0,p1].zip [u0,u1]):=by intros;rfl):mg x=ZZ (.ref f)/\kW K (.ref f)=ZX/\Binds K (fnOf x x (j8 st) (jc st) (ao st) .none kV dc pm an cd ct) [p0,p1] []:=q.E X G λ_ _ _ _ _ _ us hl=>by obtain⟨_,_,rfl⟩:=ln2 hl;apply b
theorem Q.E3{p0 p1 p2:Str}(X:K.In h)(G:h.Ns aV mg)(b:∀(kV doc pm:aG) (an:Option aQ) (cdv ct u0 u1 u2:aG),pR (fnOf x x (j8 st) (jc st) (ao st) .none kV doc pm an cdv ct) ⟨[u0,u1,u2],[]⟩=pure ([p0,p1,p2].zip [u0,u1,u2]):=by intros;rfl):mg x=ZZ (.ref f)/\kW K (.ref f)=ZX/\Binds K (fnOf x x (j8 st) (jc st) (ao st) .none kV dc pm an cd ct) [p0,p1,p2] []:=q.E X G λ_ _ _ _ _ _ us hl=>by obtain⟨_,_,_,rfl⟩:=ln3 hl;apply b
theorem Q.E4{p0 p1 p2 p3:Str}(X:K.In h)(G:h.Ns aV mg)(b:∀(kV doc pm:aG) (an:Option aQ) (cdv ct u0 u1 u2 u3:aG),pR (fnOf x x (j8 st) (jc st) (ao st) .none kV doc pm an cdv ct) ⟨[u0,u1,u2,u3],[]⟩=pure ([p0,p1,p2,p3].zip [u0,u1,u2,u3]):=by intros;rfl):mg x=ZZ (.ref f)/\kW K (.ref f)=ZX/\Binds K (fnOf x x (j8 st) (jc st) (ao st) .none kV dc pm an cd ct) [p0,p1,p2,p3] []:=q.E X G λ_ _ _ _ _ _ us hl=>by obtain⟨_,_,_,_,rfl⟩:=ln4 hl;apply b
end
def a5f{l:sH}{w:dB}{K:Fg9}{h:eE}{mg:Str->Option aG}(X:K.In h)(G:h.Ns aV mg)(hfa:mg "law"=ZZ (.ref fa))
  {tk_GATES_MANY tk_MOST_WALKERS:Tok}
  {B_Crowd:aQ} (aB_Crowd:nsIn K aV "Crowd"=ZZ (ZZ (.ref B_Crowd))) (e_B_Crowd:boxB K B_Crowd ["house","turning","standing","gone","left"]=ZX)
  (q0:Q K "is_whole" aew f0' o0 p0 v0 t0 m0 n0 c0 r0 z0)
  (q1:Q K "is_whole_within" u9 f1' o1 p1 v1 t1 m1 n1 c1 r1 z1)
  (q2:Q K "is_tuple_within" vd f2' o2 p2 v2 t2 m2 n2 c2 r2 z2)
  (q3:Q K "is_room_number" xj f3' o3 p3 v3 t3 m3 n3 c3 r3 z3)
  (q4:Q K "trap" arw f4' o4 p4 v4 t4 m4 n4 c4 r4 z4)
  (q5:Q K "refuse_not_open" qz f5' o5 p5 v5 t5 m5 n5 c5 r5 z5)
  (q6:Q K "is_arrows" ac5 f6' o6 p6 v6 t6 m6 n6 c6 r6 z6)
  (q7:Q K "refuse_no_arrows" qe f7' o7 p7 v7 t7 m7 n7 c7 r7 z7)
  (q8:Q K "turned_by" ac3 f8' o8 p8 v8 t8 m8 n8 c8 r8 z8)
  (q9:Q K "last_ways" ac4 f9' o9 p9 v9 t9 m9 n9 c9 r9 z9)
  (q10:Q K "going_round" aaz f10' o10 p10 v10 t10 m10 n10 c10 r10 z10)
  (q11:Q K "is_walkers" abl f11' o11 p11 v11 t11 m11 n11 c11 r11 z11)
  (q12:Q K "refuse_no_walkers" mz f12' o12 p12 v12 t12 m12 n12 c12 r12 z12)
  (q13:Q K "uses_of" agm f13' o13 p13 v13 t13 m13 n13 c13 r13 z13)
  (q14:Q K "uses_of_all" aax f14' o14 p14 v14 t14 m14 n14 c14 r14 z14)
  (q15:Q K "rest_of" agn f15' o15 p15 v15 t15 m15 n15 c15 r15 z15)
  (q16:Q K "refuse_no_crowd" rm f16' o16 p16 v16 t16 m16 n16 c16 r16 z16)
  (q17:Q K "rest" aof f17' o17 p17 v17 t17 m17 n17 c17 r17 z17)
  (q18:Q K "left_by" ad1 f18' o18 p18 v18 t18 m18 n18 c18 r18 z18)
  (q19:Q K "doors_used" zq f19' o19 p19 v19 t19 m19 n19 c19 r19 z19)
  (q20:Q K "is_leavings" aay f20' o20 p20 v20 t20 m20 n20 c20 r20 z20)
  (q21:Q K "come_by" ago f21' o21 p21 v21 t21 m21 n21 c21 r21 z21)
  (q22:Q K "is_rest" ad2 f22' o22 p22 v22 t22 m22 n22 c22 r22 z22)
  (q23:Q K "_law_cell" ac9 f23' o23 p23 v23 t23 m23 n23 c23 r23 z23)
  (q24:Q K "_law_pen" aex f24' o24 p24 v24 t24 m24 n24 c24 r24 z24)
  (q25:Q K "_law_draw" ac8 f25' o25 p25 v25 t25 m25 n25 c25 r25 z25)
  (q26:Q K "_law_whole" zr f26' o26 p26 v26 t26 m26 n26 c26 r26 z26)
  (q27:Q K "_law_house" abn f27' o27 p27 v27 t27 m27 n27 c27 r27 z27)
  (q28:Q K "_law_reached" aac f28' o28 p28 v28 t28 m28 n28 c28 r28 z28)
  (q29:Q K "_law_open" ac7 f29' o29 p29 v29 t29 m29 n29 c29 r29 z29)
  (q30:Q K "_law_drawn" abo f30' o30 p30 v30 t30 m30 n30 c30 r30 z30)
  (q31:Q K "_law_kind" aa0 f31' o31 p31 v31 t31 m31 n31 c31 r31 z31)
  (q32:Q K "_law_walkers" aab f32' o32 p32 v32 t32 m32 n32 c32 r32 z32)
  (q33:Q K "_law_told" ac6 f33' o33 p33 v33 t33 m33 n33 c33 r33 z33)
  (q34:Q K "_law_no_arrows" xm f34' o34 p34 v34 t34 m34 n34 c34 r34 z34)
  (q35:Q K "_law_no_walkers" vg f35' o35 p35 v35 t35 m35 n35 c35 r35 z35)
  (q36:Q K "_law_right" abm f36' o36 p36 v36 t36 m36 n36 c36 r36 z36)
  (a37:nsIn K aV "law"=ZZ (ZZ (.ref f37'))) (l37:K.lookup f37'=ZZ ⟨oc37,od37,.func (fnOf "law" "law" (j8 ajd) (jc ajd) (ao ajd) .none kV37 dc37 pm37 an37 cd37 ct37),sl37⟩) (c37:rW K cd37 "law"=ZX) (k37:kW K (.ref f37')=ZX)
  (a38:gY K (.ref B_Crowd) "__init__"=ZZ (ZZ (.ref f38'))) (l38:K.lookup f38'=ZZ ⟨oc38,od38,.func (fnOf "__init__" "Crowd.__init__" (j8 ut) (jc ut) (ao ut) .none kV38 dc38 pm38 an38 cd38 ct38),sl38⟩) (c38:rW K cd38 "Crowd.__init__"=ZX) (k38:kW K (.ref f38')=ZX) (e_F_Crowd_init:lV K (.ref f38')=ZX)
  (a39:gY K (.ref B_Crowd) "let_leave"=ZZ (ZZ (.ref f39'))) (l39:K.lookup f39'=ZZ ⟨oc39,od39,.func (fnOf "let_leave" "Crowd.let_leave" (j8 j4) (jc j4) (ao j4) .none kV39 dc39 pm39 an39 cd39 ct39),sl39⟩) (c39:rW K cd39 "Crowd.let_leave"=ZX) (k39:kW K (.ref f39')=ZX) (e_F_Crowd_let_leave:lV K (.ref f39')=ZX)
  (g_GATES_MANY:nsIn K aV "GATES_MANY"=ZZ (ZZ (.int 3 tk_GATES_MANY)))
  (g_MOST_WALKERS:nsIn K aV "MOST_WALKERS"=ZZ (ZZ (.int 100 tk_MOST_WALKERS)))
  {fi_NotOpen:aQ} {ci0_NotOpen:aQ} {odi_NotOpen ani_NotOpen:Option aQ} {sli_NotOpen:Array (Option aG)} {oci_NotOpen kVi_NotOpen dci_NotOpen pmi_NotOpen cdi_NotOpen cti_NotOpen:aG} (aj_NotOpen:nsIn K aV "NotOpen"=ZZ (ZZ (.ref ci0_NotOpen))) (ai_NotOpen:gY K (.ref ci0_NotOpen) "__init__"=ZZ (ZZ (.ref fi_NotOpen))) (li_NotOpen:K.lookup fi_NotOpen=ZZ ⟨oci_NotOpen,odi_NotOpen,.func (fnOf "__init__" "NotOpen.__init__" (j8 yh) (jc yh) (ao yh) .none kVi_NotOpen dci_NotOpen pmi_NotOpen ani_NotOpen cdi_NotOpen cti_NotOpen),sli_NotOpen⟩) (ci_NotOpen:rW K cdi_NotOpen "NotOpen.__init__"=ZX) (ki_NotOpen:kW K (.ref fi_NotOpen)=ZX) (e_iNotOpen:awn K ci0_NotOpen fi_NotOpen "room"=ZX)
  {fi_Nobody:aQ} {ci0_Nobody:aQ} {odi_Nobody ani_Nobody:Option aQ} {sli_Nobody:Array (Option aG)} {oci_Nobody kVi_Nobody dci_Nobody pmi_Nobody cdi_Nobody cti_Nobody:aG} (aj_Nobody:nsIn K aV "Nobody"=ZZ (ZZ (.ref ci0_Nobody))) (ai_Nobody:gY K (.ref ci0_Nobody) "__init__"=ZZ (ZZ (.ref fi_Nobody))) (li_Nobody:K.lookup fi_Nobody=ZZ ⟨oci_Nobody,odi_Nobody,.func (fnOf "__init__" "Nobody.__init__" (j8 aak) (jc aak) (ao aak) .none kVi_Nobody dci_Nobody pmi_Nobody ani_Nobody cdi_Nobody cti_Nobody),sli_Nobody⟩) (ci_Nobody:rW K cdi_Nobody "Nobody.__init__"=ZX) (ki_Nobody:kW K (.ref fi_Nobody)=ZX) (e_iNobody:awn K ci0_Nobody fi_Nobody "at"=ZX)
  (e_nroom:a0n K ["NotOpen"] "room"=ZX)
  (e_cls:apc K NS=ZX) (e_sub:ai7 K NS=ZX) (e_rai:axf K ["ArrowError","NoArrows","NoRoom","NoWalkers","NotShut","NeverBack","NoTour","NoRow"]=ZX) (e_cat:catB K=ZX)
  (y_ValueError:nsIn K aV "ValueError"=ZZ ZY)
  (y_all:nsIn K aV "all"=ZZ ZY)
  (y_any:nsIn K aV "any"=ZZ ZY)
  (y_bool:nsIn K aV "bool"=ZZ ZY)
  (y_divmod:nsIn K aV "divmod"=ZZ ZY)
  (y_enumerate:nsIn K aV "enumerate"=ZZ ZY)
  (y_int:nsIn K aV "int"=ZZ ZY)
  (y_isinstance:nsIn K aV "isinstance"=ZZ ZY)
  (y_len:nsIn K aV "len"=ZZ ZY)
  (y_list:nsIn K aV "list"=ZZ ZY)
  (y_max:nsIn K aV "max"=ZZ ZY)
  (y_min:nsIn K aV "min"=ZZ ZY)
  (y_range:nsIn K aV "range"=ZZ ZY)
  (y_set:nsIn K aV "set"=ZZ ZY)
  (y_sorted:nsIn K aV "sorted"=ZZ ZY)
  (y_tuple:nsIn K aV "tuple"=ZZ ZY)
  (y_zip:nsIn K aV "zip"=ZZ ZY)
  : ∃fd:eQ,(∀(s:aJ) (v:aG),oR s fd ⟨[v],[]⟩ [("script", v)])/\∀base:eE,K.In base->base.Ns aV mg->FnOk l.prog w K mg base CX0 9 fa fd ["script"] (spOf K 1 aty):=by
 have e:=hfa.symm.trans (mg_of X G a37);cases e;have T:Txt K mg:=⟨⟨_,mg_of X G g_GATES_MANY⟩,⟨_,mg_of X G g_MOST_WALKERS⟩,gA X G y_ValueError,gA X G y_all,gA X G y_any,gA X G y_bool,gA X G y_divmod,gA X G y_enumerate,gA X G y_int,gA X G y_isinstance,gA X G y_len,gA X G y_list,gA X G y_max,gA X G y_min,gA X G y_range,gA X G y_set,gA X G y_sorted,gA X G y_tuple,gA X G y_zip,ahc aB_Crowd e_B_Crowd (by decide +kernel),ahc aB_Crowd e_B_Crowd (by decide +kernel),ahc aB_Crowd e_B_Crowd (by decide +kernel),ahc aB_Crowd e_B_Crowd (by decide +kernel),ahc aB_Crowd e_B_Crowd (by decide +kernel),e_sub,a01 X G e_cat,ur X G e_cls (by decide +kernel),ur X G e_cls (by decide +kernel),ur X G e_cls (by decide +kernel),ur X G e_cls (by decide +kernel),ur X G e_cls (by decide +kernel),ur X G e_cls (by decide +kernel),ur X G e_cls (by decide +kernel),ur X G e_cls (by decide +kernel),ur X G e_cls (by decide +kernel),ur X G e_cls (by decide +kernel),ur X G e_cls (by decide +kernel),ur X G e_cls (by decide +kernel),ur X G e_cls (by decide +kernel),abr X G e_cls (by decide +kernel) e_rai (by decide +kernel),abr X G e_cls (by decide +kernel) e_rai (by decide +kernel),abr X G e_cls (by decide +kernel) e_rai (by decide +kernel),abr X G e_cls (by decide +kernel) e_rai (by decide +kernel),abr X G e_cls (by decide +kernel) e_rai (by decide +kernel),abr X G e_cls (by decide +kernel) e_rai (by decide +kernel),abr X G e_cls (by decide +kernel) e_rai (by decide +kernel),abr X G e_cls (by decide +kernel) e_rai (by decide +kernel),ao0 X G e_cls (by decide +kernel) aj_NotOpen e_iNotOpen (ait (st:=yh) li_NotOpen ci_NotOpen ki_NotOpen),ao0 X G e_cls (by decide +kernel) aj_Nobody e_iNobody (ait (st:=aak) li_Nobody ci_Nobody ki_Nobody),e_nroom⟩
 have F37:=ait (st:=ajd) l37 c37 k37;have F38:=ait (st:=ut) l38 c38 k38;have b38:=F38.binds (ps:=["self","house","arrows","walkers"]) λ_ _ _ _ _ _ us hl=>by obtain⟨_,_,_,_,rfl⟩:=ln4 hl;rfl
 have F39:=ait (st:=j4) l39 c39 k39;have b39:=F39.binds (ps:=["self","room","many"]) λ_ _ _ _ _ _ us hl=>by obtain⟨_,_,_,rfl⟩:=ln3 hl;rfl
 refine⟨fnOf "law" "law" (j8 ajd) (jc ajd) (ao ajd) .none kV37 dc37 pm37 an37 cd37 ct37,λs v=>.of_eq rfl,λbase _ _=>?_⟩
 have d0:Dd0 l.prog w K mg base:=⟨_,_,am9 q0.F T,q0.E1 X G⟩;have d1:Dd1 l.prog w K mg base:=⟨_,_,aeb q1.F T d0,q1.E3 X G⟩;have d2:Dd2 l.prog w K mg base:=⟨_,_,aec q2.F T,q2.E3 X G⟩;have d3:Dd3 l.prog w K mg base:=⟨_,_,ae0 q3.F T d1,q3.E2 X G⟩;have d4:Dd4 l.prog w K mg base:=⟨_,_,azs q4.F T,q4.E1 X G⟩;have d5:Dd5 l.prog w K mg base:=⟨_,_,ad9 q5.F T d4,q5.E1 X G⟩;have x5:Dx5 l.prog w K mg base:=⟨_,_,adb q5.F T d4,q5.E1 X G⟩;have d6:Dd6 l.prog w K mg base:=⟨_,_,ak6 q6.F T d2 d1,q6.E2 X G⟩;have d7:Dd7 l.prog w K mg base:=⟨_,_,ade q7.F T d6,q7.E2 X G⟩;have x7:Dx7 l.prog w K mg base:=⟨_,_,acp q7.F T d6,q7.E2 X G⟩;have d8:Dd8 l.prog w K mg base:=⟨_,_,ak4 q8.F T,q8.E3 X G⟩;have d9:Dd9 l.prog w K mg base:=⟨_,_,ak5 q9.F T,q9.E2 X G⟩;have d10:Dd10 l.prog w K mg base:=⟨_,_,ah3 q10.F T,q10.E2 X G⟩;have d11:Dd11 l.prog w K mg base:=⟨_,_,ajj q11.F T d2 d1,q11.E3 X G⟩;have d12:Dd12 l.prog w K mg base:=⟨_,_,acq q12.F T d11,q12.E2 X G⟩;have x12:Dx12 l.prog w K mg base:=⟨_,_,abu q12.F T d11,q12.E2 X G⟩;have d13:Dd13 l.prog w K mg base:=⟨_,_,ap3 q13.F T,q13.E3 X G⟩;have d14:Dd14 l.prog w K mg base:=⟨_,_,ah1 q14.F T d13,q14.E3 X G⟩;have m_Crowd_let_leave:DfnM l.prog w K mg base _ _ _ _ _:=a0w aB_Crowd e_B_Crowd a39 e_F_Crowd_let_leave k39 (aee (P:=l.prog) (w:=w) (base:=base) F39 T d13) b39;have n_Crowd:DfnI l.prog w K mg base _ _ _ (ahw K _ _ xn):=a0x aB_Crowd (mg_of X G aB_Crowd) e_B_Crowd a38 e_F_Crowd_init (ajp (P:=l.prog) (w:=w) (base:=base) F38 T aB_Crowd) b38;have d15:Dd15 l.prog w K mg base:=⟨_,_,ap4 q15.F T m_Crowd_let_leave n_Crowd,q15.E3 X G⟩;have d16:Dd16 l.prog w K mg base:=⟨_,_,aea q16.F T d7 d12 x7 x12,q16.E3 X G⟩;have x16:Dx16 l.prog w K mg base:=⟨_,_,adc q16.F T d7 d12 x7 x12,q16.E3 X G⟩;have d17:Dd17 l.prog w K mg base:=⟨_,_,azt q17.F T d16 d5 d15 x16 x5,q17.E3 X G⟩;have x17:Dx17 l.prog w K mg base:=⟨_,_,av6 q17.F T d16 d5 d15 x16 x5,q17.E3 X G⟩;have d18:Dd18 l.prog w K mg base:=⟨_,_,ap5 q18.F T d3 d16 x16 m_Crowd_let_leave n_Crowd,q18.E4 X G⟩;have x18:Dx18 l.prog w K mg base:=⟨_,_,am7 q18.F T d3 d16 x16 m_Crowd_let_leave n_Crowd,q18.E4 X G⟩;have d19:Dd19 l.prog w K mg base:=⟨_,_,ajk q19.F T d7 d14 x7,q19.E3 X G⟩;have x19:Dx19 l.prog w K mg base:=⟨_,_,ahz q19.F T d7 d14 x7,q19.E3 X G⟩;have d20:Dd20 l.prog w K mg base:=⟨_,_,ah2 q20.F T d2 d0,q20.E2 X G⟩;have d21:Dd21 l.prog w K mg base:=⟨_,_,ap7 q21.F T,q21.E2 X G⟩;have d22:Dd22 l.prog w K mg base:=⟨_,_,ap6 q22.F T d16 d5 d20 d14 d21 d8 d9 d10 x16 x5,q22.E4 X G⟩;have x22:Dx22 l.prog w K mg base:=⟨_,_,am8 q22.F T d16 d5 d20 d14 d21 d8 d9 d10 x16 x5,q22.E4 X G⟩;have d23:Dd23 l.prog w K mg base:=⟨_,_,alb q23.F T,q23.E2 X G⟩;have d24:Dd24 l.prog w K mg base:=⟨_,_,ana q24.F T,q24.E1 X G⟩;have d25:Dd25 l.prog w K mg base:=⟨_,_,ala q25.F T,q25.E2 X G⟩;have u26:Du26 l.prog w K mg base:=⟨_,_,ah0 q26.F T,q26.E1 X G⟩;have d26:Dfn l.prog w K mg base _ _ _ _:=⟨_,_,ajl (P:=l.prog) (w:=w) (base:=base) q26.F T,q26.E1 X G⟩;have d27:Dd27 l.prog w K mg base:=⟨_,_,ajn q27.F T d25,q27.E3 X G⟩;have d28:Dd28 l.prog w K mg base:=⟨_,_,ags q28.F T,q28.E2 X G⟩;have d29:Dd29 l.prog w K mg base:=⟨_,_,ak8 q29.F T d27 d28 d25,q29.E3 X G⟩;have d30:Dd30 l.prog w K mg base:=⟨_,_,ajo q30.F T d25,q30.E2 X G⟩;have u31:Du31 l.prog w K mg base:=⟨_,_,aji q31.F T,q31.E1 X G⟩;have d31:Dfn l.prog w K mg base _ _ _ _:=⟨_,_,ak9 (P:=l.prog) (w:=w) (base:=base) q31.F T,q31.E1 X G⟩;have d32:Dd32 l.prog w K mg base:=⟨_,_,agr q32.F T d25,q32.E3 X G⟩;have d33:Dd33 l.prog w K mg base:=⟨_,_,ak7 q33.F T d17 d22 d18 d19 x17 x22 x18 x19 u31 u26,q33.E4 X G⟩;have d34:Dd34 l.prog w K mg base:=⟨_,_,ae1 q34.F T d25,q34.E3 X G⟩;have d35:Dd35 l.prog w K mg base:=⟨_,_,aed q35.F T d25,q35.E3 X G⟩;have d36:Dd36 l.prog w K mg base:=⟨_,_,ajm q36.F T d30 d32 d34 d35 d28 d33,q36.E2 X G⟩;exact a3d F37 T d36 d24 d23 d27 d29
end My
set_option genInjectivity false in
structure PySem.W.Fast where(tw9682909844853841344 tw2810470848942279200 tw6530731314080298082 tw8836251458616213922 tw9967936724522981986 tw3959290314479628898 tw1624914542371420035 tw461769544962444420 tw8256866558582808868 tw3054065262970834468 tw8587970600943198884 tw7822791476458774212 tw16527319903094928485 tw11322874653660477733 tw16272355200695665190 tw3415551060995795494 tw7985886684363362375 tw4775063659094137928 tw6833765646179106280 tw10765185532783388456 tw15031849450211351593 tw8089313986629250249 tw4369931979900505545 tw10702678266914512841 tw5144916123866012202 tw13800145362938145354 tw6934165494698165930 tw8013521938769817099 tw16675706431791874603 tw2030703444503140139 tw1540667618523538124 tw13818846793311177965 tw12426672788113636013 tw1252477519061293198 tw2168516665037051086 tw13940046932982333102 tw13881532989632544143 tw9430145356159243951 tw16817138237467324271 tw898460684606895280 tw1197266607990987664 tw3917857848962006066 tw10609778851264499378 tw4577508137659583154 tw7630898461685505171 tw11598119744942175091 tw8309496350928769907 tw15364694578169321363 tw7091312767657341077 tw14636457022658716949 tw17092072187167710485 tw11240251313640125941 tw12657625370750227510 tw1500267000130192662 tw17971267417461009527 tw8434845026895143223 tw13034178274651365367 tw562052382646354040 tw17868901908448757273 tw1507053310414805657 tw3349140530262900601 tw1208691164151579674 tw6141631998964188762 tw14462186491959921819 tw9277127902841884315 tw17732942603392219899 tw9117041372021013564 tw5111591088733629596 tw14840035612338208956 tw13772358483365189916 tw18340649790710032797 tw14446401188606259677 tw15599310799863942045 tw15174862486040645758 tw13457175991162082590 tw2737290336690819518 tw6330814263795246782 tw14278436954500204254 tw14850669356757920447 tw8446592721222428575 tw9032863260180348011 tw4304533352343826557 tw6924133101164941673 tw8565587844910464029 tw16586339603288699326 tw4241455870422500758 tw13118500965628147633 tw847311542633305634 tw16667138466724729406 tw6845530623834175641 tw9696265639327585594 tw1431872616016534396 tw8636088434006378211 tw6196551739608271608 tw17659708887560366267 tw18271011069679458253 tw8205097672646306306 tw9505342238948766757 tw3272484440739397970 tw15309145274979721345 tw13146488000673691480 tw9723154221035837127 tw15660006405400358996 tw14971878151303809395 tw12405932329921007844 tw8687491353272836474 tw16105036207915254258 tw16549323412457491044 tw16461905160754383862 tw4248093558125254400 tw1844093718111675875 tw8941197893414372922 tw9283657552788030659 tw999726396665224579 tw7096583224600816936 tw13474458229354151405 tw7175425409690387746 tw7709450745936573190 tw10485832935148987425 tw14536663442076957691 tw12254170176277656738 tw385511261241214054 tw16091752853450151116 tw14505634877882773194 tw6046300035200937004 tw11875049003719476531 tw16179518103895758630 tw2312868583960292151 tw12995144375662190619 tw14101262890254677928 tw15703136003397901871 tw12015628332261952388 tw13271067645119840500 tw2174029148575265625 tw7982288283227870095 tw14409894625132112036 tw13882482026760901705 tw10566184665050340943 tw8634239409737546673 tw18035909025412195503 tw8884723104695693279 tw17242687981337291657 tw1881695635829576965 tw15398671183890405277 tw12353916795499477122 tw8997346786854105935 tw6808296692319284535 tw2027222640803157482 tw1290447486833533213 tw3082854461140286278 tw11174716402746832939 tw1034025482738913289 tw1638235689718646699 tw7074523711513550125 tw3312804869087698960 tw8097527536547048129 tw13046104304308893146 tw6096016311291644362 tw17738375486953051016 tw14885262331283548110 tw7071315370433803482 tw18070932685519833979 tw12976987146504777615 tw3646692825980250083 tw8555973205905152434 tw15209029858260832263 tw902435255398111835 tw1478907094208355338 tw13735405832460142618 tw17391698344205548910 tw16329787453175013310 tw10797040268631083721 tw5844409437672538025 tw9973128616164014819 tw11253585439822387745 tw5162528337724505051 tw15240130670953323666 tw11526909005691226138 tw18366697828170455682 tw6138917055409140094 tw6446982724857091980 tw5464791630982464130 tw7164834722926180591 tw4054439881254011943 tw2442564884709324547 tw16838303394460157353 tw3497068980409113048:Unit)
open PySem PySem.W PyProof.Rows
set_option maxRecDepth 100000 in
set_option maxHeartbeats 0 in
theorem PySem.Challenge.cw_turnarrows_k17_rests_refused_holds : PySem.Challenge.rw_turnarrows_k17_rests_refused.Holds := by
 w_on;o_law;k_head;(case hw=>w_witness2)
 k_fill
 refine Dn.walk (l:=PySem.Challenge.rw_turnarrows_k17_rests_refused) (f:=My.aty) (k:=9) My.awg rfl rfl ⟨rfl,by decide,by decide,rfl⟩ (fun w h Y=>PySem.W.kIn_of Y) ?F
 case F=>
  intro w mg fa h KX G hmg;refine' My.a5f KX G hmg ?_ ?_ ?_ ?_ ?_ ?_ ?_ ?_ ?_ ?_ ?_ ?_ ?_ ?_ ?_ ?_ ?_ ?_ ?_ ?_ ?_ ?_ ?_ ?_ ?_ ?_ ?_ ?_ ?_ ?_ ?_ ?_ ?_ ?_ ?_ ?_ ?_ ?_ ?_ ?_ ?_ ?_ ?_ ?_ ?_ ?_ ?_ ?_ ?_ ?_ ?_ ?_ ?_ ?_ ?_ ?_ ?_ ?_ ?_ ?_ ?_ ?_ ?_ ?_ ?_ ?_ ?_ ?_ ?_ ?_ ?_ ?_ ?_ ?_ ?_ ?_ ?_ ?_ ?_ ?_ ?_ ?_ ?_ ?_ ?_ ?_ ?_ ?_ ?_
  all_goals try refine' And.intro ?_ (And.intro ?_ (And.intro ?_ ?_))
  any_goals k_is
  all_goals kernel_rfl
