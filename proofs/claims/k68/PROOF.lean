import PyProof.Rows.All
import Wide.All
import OpenK.AllK
import Wide.FinOn
import Lean
import PyProof.EqAt
import PyProof.EqKinds
import PyProof.TupleCall
import PySem.Challenge.RW_turnarrows_k68_houses_by_tours
set_option Elab.async false
set_option linter.all false
set_option maxRecDepth 100000
open And renaming intro->yJ
open Array renaming length_toList->bF,getElem?_eq_some_iff->bH,getElem?_toList->cW,getElem_toList->fV,perm_iff_toList_perm->kO,getD->lF,toList_filterMap->lQ,size_map->tY,mem_of_getElem?->vK,forIn_toList->wH,toList_push->xF,toList_map->xQ,toList_inj->xR,replicate->yI,mem_def->yV
open Bool renaming and_eq_true->aV,false_eq_true->cC,false_ne_true->dI,eq_iff_iff->qF,false_and->qO,true_and->rA,not_true->rB,and_false->tX,or_eq_false_iff->vQ,and_eq_true_iff->vR
open Classical renaming byContradiction->fM
open Decidable renaming byContradiction->kY
open False renaming elim->fK
open ForInStep renaming yield->yF
open Function renaming comp_def->oM
open Int renaming toNat_natCast->fB,toNat_of_nonneg->gA,emod_lt_of_pos->nO,emod_nonneg->tD,fmod_eq_emod_of_nonneg->tK,fdiv_eq_ediv_of_nonneg->tL,ediv_one->vJ
open List renaming getElem?_eq_getElem->aC,length_map->aD,replicate->aF,mem_cons_of_mem->aK,size_toArray->aL,getElem?_eq_some_iff->aM,mem_cons_self->aN,getD_eq_getElem?_getD->aP,range->aR,length_append->aW,mem_cons->aZ,all_eq_true->bA,mem_singleton->bD,mem_map->bI,length_cons->bJ,getElem?_map->bK,getElem?_set->bN,map_cons->bR,pairwise_cons->bW,mem_append->bZ,map_map->cA,nil_append->cD,set->cG,getElem?_append_left->cH,map_append->cJ,flatten_cons->cO,mem_iff_getElem->cT,getElem_mem->cY,toArray->cZ,mem_of_getElem?->dD,mem_append_right->dH,mem_range->dJ,not_mem_nil->dN,length_set->dR,filterMap_cons->dY,pairwise_iff_getElem->eG,lookup->eV,set_cons_zero->fG,set_cons_succ->fH,length_take->fO,getElem?_mapIdx->fU,getElem_map->fX,replicate_succ->fZ,length_singleton->gC,length_replicate->gD,append_nil->gF,nodup_cons->gW,map_congr_left->gY,foldl_cons->iB,getElem?_append_right->iC,length_filter_le->iD,getElem?_eq_none->iG,contains_iff_mem->iH,drop_eq_getElem_cons->iJ,mem_append_left->iM,mem_filter->iT,length_range->iU,getElem?_take_of_lt->iV,count_append->iW,length_drop->jD,countP_cons->jE,take_of_length_le->jK,nodup_append->jX,all_cons->jY,getElem?_range->lB,eq_of_mem_replicate->lD,of_mem_zip->lH,length_mapIdx->lJ,getElem?_replicate->lK,pairwise_lt_range->lM,length_pos_of_mem->lN,getElem?_set_self->lO,pairwise_map->lV,append_assoc->lW,map_nil->mC,getElem?_set_ne->mH,drop_eq_nil_iff->mJ,zip->mO,countP_eq_length_filter->mQ,foldl->mR,length_pos_iff->mW,perm_append_singleton->mZ,mem_filterMap->nH,getElem_range->nJ,filterMap_map->nM,filterMap->nP,reverse_cons->oH,ext_getElem?->oJ,Pairwise.nil->oK,map_take->pA,map_drop->pB,getElem?_cons_zero->pC,getElem?_cons_succ->pD,take_length->pJ,ext_getElem->pK,range_succ_eq_map->pO,drop_eq_nil_of_le->pP,range_succ->pX,mem_iff_getElem?->pY,forIn_cons->pZ,count_cons->qC,all_map->qD,length_reverse->qR,findIdx?_eq_some_iff_getElem->qX,getElem_take->rP,mem_flatten->sE,mem_flatMap->sG,exists_mem_of_length_pos->sH,length_nil->sY,perm_ext_iff_of_nodup->tH,perm_cons->tU,forIn_nil->tV,take_append_getElem->uE,length_erase_of_mem->uF,map->uO,length_eq_zero_iff->uP,findIdx?->uQ,any_cons->uR,Pairwise->uT,perm_append_comm->vD,getD->vG,Pairwise.sublist->vH,pairwise_append->vM,mem_of_mem_take->vN,mem_erase_of_ne->vO,range'->vY,zip_cons_cons->wC,take_sublist->wQ,getElem_drop->wR,getElem?_inj->wU,foldl_append->wV,flatMap_cons->wW,zipIdx_cons->xK,perm_middle->xM,mapIdx_cons->xN,filter_cons->xO,cons_append->xP,zipIdx_nil->yC,length_zip->yD,countP_nil->yE,sum_cons->yS
open Nat renaming le_refl->aO,ne_of_lt->bG,lt_of_lt_of_le->bM,zero_le->cI,le_trans->cM,zero_add->eN,le_succ->gM,lt_succ_of_lt->iR,lt_of_le_of_lt->jM,ne_of_gt->jQ,le_of_lt->jR,lt_irrefl->jV,mod_eq_of_lt->lA,not_lt->lC,lt_or_ge->lZ,lt_succ_self->mF,mod_lt->oE,le_succ_of_le->oF,add_mod_right->oG,not_lt_zero->pW,pow_le_pow_right->qH,add_sub_cancel->qW,lt_trichotomy->rO,succ_le_succ->rY,le_add_right->rZ,mul_comm->uZ,lt_trans->vA,le_of_eq->vB,add_comm->vC,le_of_lt_succ->wN
open Ne renaming symm->mD
open Option renaming some.inj->bO,bind_some->eF,isSome_iff_exists->uD,map_eq_some_iff->uW,getD_none->xJ,map_some->xZ
open Or renaming inl->bU,inr->sX
open PyProof renaming Rows.slot_tuple_getitem->cN,Rows.seqObj->cQ,Rows.callWith_type1->jO,Rows.sortedAll_old->kE,Rows.sortedAll_at->kW,Rows.IntsAre->mG,Rows.SortKind->nF,Rows.F.plain_set_update_loop->pG,Rows.envOfC->pH,Rows.AllBare->qG,Rows.IntsAre.allInts->sS,Rows.SortSt.mk'->uA,Rows.LSm.kept_iter->uU,Rows.F.entry_set_update_loop->uV,Rows.IsTup->vI
open PySem renaming wpAny_bind->aA,Heap.get?_push_of_some->aB,Value->aG,Shared->aH,wpAny_pure->aJ,Heap.lt_size->aQ,Heap.get?_push_size->aU,starEach->aX,Addr->aY,mainGlobals->bB,wpAny_mono->bC,wpAny->bL,Heap.get?_update_other->bQ,bootBuiltins->bT,Program->bV,model->bY,Obj.mapSeq->cB,sizeLine_eq->cF,sizeLine->cL,Value.ref->cP,PassesOwn.never->cR,wpAny_holding->cU,Value.none->cX,Around->dB,SetTable.below->dC,wpAny_field->dF,wpAny_newObj_type->dG,World->dO,Builtin.Tuple.tupleExact->dU,Heap.size_push->dW,SetTable->dX,Expr->dZ,W.kia_one->eE,Builtin.Slice.slicePlaces->eH,Obj.data_mapFields->eQ,NameKind.free->eU,Heap.get?_update_self->eX,SetTable.insertAt->eY,Heap->fD,IsTupleKey->fJ,SetTable.runEnd->fL,FuncData->fP,W.KasT.kasWp_bind->fQ,wpAny_call_entry->fW,binaryOp->fY,compareOp->gB,Heap.SameBut->gG,W.mg_none_of->gH,F.type_list_append->gJ,F.slot_list_append->gK,SetTable.leap->gP,W.subIn->gQ,W.kitOne->gR,intKind->gU,wpAny_seqItems->iI,Builtin.Slice.sliceAdjust->iK,W.emptyDict->iQ,Stmt->iY,backTo->iZ,mem_of_lookup->jA,Heap.get?_update_ne->jB,Heap.SameBut.update->jC,assignEach->jF,Value.type->jG,SetTable.layClean.free->jH,SetTable.insertAt_perm->jJ,Builtin->jL,W.instObj->jN,Obj.isFreed_of_fields->jP,call_meets->jT,SetTable.probe.go->jU,NameKind.cell->jW,Heap.get?_push_ne->jZ,F.slot_tuple_iterator_next->kI,Builtin.Slice.sliceApplied->kJ,Calls.call_function_entry->kZ,F.called_set->lE,F.plainAttrs_list->lG,F.slot_int_rmul->lL,sliceBounds->lR,W.specialIn->lU,intItems->lX,W.InstAt->lY,SetTable.bits->mK,W.clsIn->mL,rawInt->mU,Scope->mX,F.excBase_ValueError->mY,Builtin.Tuple.tupleItemsOf->nA,Str.ofString->nD,W.callWith_K->nG,swapsWith->nQ,W.keepIn->nR,W.kas_count->nT,W.hasDictIn->nW,F.type_list_insert->nY,F.slot_list_insert->nZ,F.args_tuple_add_2->oA,AutoSeq1.wpAny_loadPart'->oN,holding->oO,getItem->oR,Value.builtin->oU,SetTable.laid->oV,W.mroIn->oW,W.excIn->oX,W.Looks->oY,F.entry_tuple_add->oZ,Keyword->pF,W.any_some->pI,F.slot_tuple_mul->pL,W.cellsFrom_some->pM,F.slot_tuple_add->pN,W.kas_ask->pQ,W.takesIn->pR,W.findObj->pU,Around.under_plainId->qI,W.findIn->qJ,assign->qK,SetTable.turns->qL,SetTable.Probe->qM,W.notCls->qN,codeAny->qP,argBest->qQ,Value.int->qT,Obj.mapFields->qU,Heap.IsSliceOf.new->qY,Calls.spliced_cons->qZ,W.kas_rev->rC,callerA->rD,Value.isInt_shape->rE,SetTable.layClean->rG,W.methodObj->rH,W.kitx_list->rJ,PyData.eqv->rK,Obj.putSet->rM,Obj.cls_mapFields->rN,Heap.SameBut.refl->rQ,F.args_int_rmul_2->rR,BindsTo->rT,IsPart->rW,Heap.size_update->sI,F.slot_int_index->sJ,F.entry_int_rmul->sO,F.args_tuple_iterator_next_1->sU,Builtin.divisionGoesByPylong->sV,W.OpenLaw->sW,IsZip->sZ,F.fills_int_mul->tE,F.entry_tuple_iterator_next->tG,Calls.Name_function_global->tM,Builtin.Tuple.tupleTooMany->tO,W.typeIn->tQ,W.lookIn->tR,Builtin.Slice.sliceFields->tW,Value.bool->tZ,SetTable.toList_insertAt->uB,F.slot_tuple_count->uC,W.KasT.kasWp->uG,Builtin.List.listTooLong->uH,SetTable.fill->uI,F.slot_list_index->uJ,F.slot_list_count->uK,F.attr_ValueError->uL,NameKind->uM,W.Looks.of_pure->uN,W.Looks.of_pure->uX,PassesOwn->uY,W.looks_findIn->vL,Heap.get?_none_of_le->vP,Around.frames_deeper->vU,Shared.heap->vV,nums_intItems->vW,W.looks_subIn->vX,EntryCells.newEntry->vZ,SetTable.sizeAbove->wA,W.codeRec_of->wB,F.args_tuple_mul_2->wF,Calls.Constant_str->wG,Walks.list->wI,SetTable.below.go->wJ,call->wK,W.kitx_dict->wL,PyData.canLayAll0->wM,Model->wO,F.slot_tuple_rmul->wX,F.entry_tuple_mul->wY,CmpOp->wZ,seqSlot_of->xG,W.plainGet->xH,Value.str->xT,preSum_eq->xU,W.kitMeta->xV,Fin->xW,PyData.depthAll->xX,Paired->xY,F.slot_zip_next->yG,F.plain_set_new->yH,SetTable.grown->yK,W.kitCls->yL,Value.ref.inj->yM,Value.isStrOf->yN,SetTable.slot->yO,SetTable.fits->yP,W.WalkO->yQ,PyData.eqvAll->yR,CmpOf.ints_lt->yU
open Sum renaming inr->mV,inl->rF
open True renaming intro->nU
noncomputable section
open PySem.W (nsIn mg_of keepIn fnOf codeIn findIn mg_none_of)
abbrev Fg9:=PySem.W.Frag
abbrev LL9:=List (List Int)
section
open PySem PySem.Spec PyProof.Rows
namespace L2
abbrev Key:=Sum Int Str
def auc:Key->aG->Bool
 | .inl k,v=>Value.isInt k v
 | .inr x,v=>yN x v
def keyH(w:dO):Key->Int
 | .inl k=>hashInt k
 | .inr x=>hashStr w x
theorem kj:∀{k:Key} {v:aG},auc k v=true->(∃i t,k=rF i/\v=qT i t)∨(∃x t,k=mV x/\v=xT x t)
 | .inl i,v,h=>by
  obtain⟨t,e⟩:=rE (k:=i) (v:=v) h;exact .inl ⟨i,t,rfl,e⟩
 | .inr x,v,h=>by
  obtain⟨t,e⟩:=Value.isStrOf_shape (x:=x) (v:=v) h;exact .inr ⟨x,t,rfl,e⟩
theorem aqx(x:Str)(t:Tok):auc (.inr x) (.str x t)=true:=by simp[auc,yN]
theorem a1y(a b:Int):decide ((rF a:Key)=rF b)=(a==b):=by
 by_cases e:a=b
 ·subst e;simp
 ·have h:¬(rF a:Key)=rF b:=fun q=>e (Sum.inl.inj q)
  rw[decide_eq_false h];exact(beq_eq_false_iff_ne.mpr e).symm
theorem a1v(a b:Str):decide ((mV a:Key)=mV b)=decide (a=b):=by
 by_cases e:a=b
 ·subst e;simp
 ·have h:¬(mV a:Key)=mV b:=fun q=>e (Sum.inr.inj q)
  rw[decide_eq_false h,decide_eq_false e]
theorem a1x(a:Int)(b:Str):decide ((rF a:Key)=mV b)=false:=decide_eq_false (fun q=>nomatch q)
theorem a1w(a:Str)(b:Int):decide ((mV a:Key)=rF b)=false:=decide_eq_false (fun q=>nomatch q)
def aid(prog:bV)(w:dO):PySem.KeyKind prog w Key where
 is:=auc
 hash:=keyH w
 inj:=fun v a b ha hb=>by
  rcases kj ha with⟨i,t,rfl,rfl⟩ | ⟨x,t,rfl,rfl⟩
  ·rcases kj hb with⟨j,u,rfl,e⟩ | ⟨y,u,rfl,e⟩
   ·injection e with e1 _;rw[e1]
   ·exact nomatch e
  ·rcases kj hb with⟨j,u,rfl,e⟩ | ⟨y,u,rfl,e⟩
   ·exact nomatch e
   ·injection e with e1 _;rw[e1]
 byValue:=fun k v h=>by
  rcases kj h with⟨i,t,rfl,rfl⟩ | ⟨x,t,rfl,rfl⟩ <;> rfl
 pyHash:=fun hv h=>by
  rcases kj hv with⟨i,t,rfl,rfl⟩ | ⟨x,t,rfl,rfl⟩
  ·exact wpAny_pyHash_int h
  ·exact wpAny_pyHash_str h
 eqBool:=fun hu hv h=>by
  rcases kj hu with⟨i,t,rfl,rfl⟩ | ⟨x,t,rfl,rfl⟩
  ·rcases kj hv with⟨j,u,rfl,rfl⟩ | ⟨y,u,rfl,rfl⟩
   ·rw[a1y] at h;exact wpAny_eqBool_int h
   ·rw[a1x] at h;exact SeqAt.EqAt.int_str i t y u _ _ _ _ h
  ·rcases kj hv with⟨j,u,rfl,rfl⟩ | ⟨y,u,rfl,rfl⟩
   ·rw[a1w] at h;exact SeqAt.EqAt.str_int x t j u _ _ _ _ h
   ·rw[a1v] at h;exact wpAny_eqBool_str h
 «strs» := fun k x t v h=>by
  rcases kj h with⟨i,u,rfl,e⟩ | ⟨y,u,rfl,e⟩
  ·exact nomatch e
  ·injection e with e1 _
   subst e1;cases v <;> rfl
theorem alj(prog:bV)(w:dO)(x:Str)(t:Tok):(aid prog w).is (.inr x) (.str x t)=true:=aqx x t
def IsTp(h:fD)(a:aY)(items:Array aG):Prop:=∃o,h.get? a=some o/\o.cls=.type "tuple" /\ o.dict=none/\∃n,o.data=.seq items n
theorem IsTp.tup{h:fD}{a:aY}{items:Array aG}(x:IsTp h a items):vI h a items:=let ⟨o,e,c,_,n,d⟩:=x;⟨o,e,c,n,d⟩
theorem IsTp.new(h:fD)(items:Array aG):IsTp (h.push { cls:=.type "tuple", data:=.seq items }) h.objs.size items:=⟨_,aU _ rfl,rfl,rfl,_,rfl⟩
inductive V where
 | non | bl (b:Bool) | int (i:Int) | str (x:Str) | byt (b:Array UInt8) | flt (b:UInt64) | ref (a:aY) | ty (n:String)
 deriving DecidableEq
def RelV:V->aG->Prop
 | .non,u=>u=cX
 | .bl b,u=>u=tZ b
 | .int i,u=>∃t,u=qT i t
 | .str x,u=>∃t,u=xT x t
 | .byt b,u=>∃t,u=Value.bytes b t
 | .flt b,u=>∃t,u=Value.float b t
 | .ref a,u=>u=cP a
 | .ty n,u=>u=jG n
abbrev Vals:List V->List aG->Prop:=xY RelV
theorem Vals.length{xs:List V}{us:List aG}(r:Vals xs us):xs.length=us.length:=Paired.length r
theorem Vals.get:∀{xs:List V} {us:List aG} {i:Nat} {x:V},Vals xs us->xs[i]? = some x->∃u,us[i]? = some u/\RelV x u
 | _,_,_,_,.nil,e=>by simp at e
 | _,_,0,_,.cons r _,e=>by simp at e;subst e;exact⟨_,rfl,r⟩
 | _,_,i+1,x,.cons _ t,e=>by
  obtain⟨u,h1,h2⟩:=Vals.get (i:=i) (x:=x) t (by simpa using e)
  exact⟨u,by simpa using h1,h2⟩
theorem Vals.set{x:V}{u:aG}(r:RelV x u):∀{xs:List V} {us:List aG} (i:Nat),Vals xs us->Vals (xs.set i x) (us.set i u)
 | _,_,_,.nil=>.nil
 | _,_,0,.cons _ t=>.cons r t
 | _,_,i+1,.cons q t=>.cons q (Vals.set r i t)
theorem Vals.append:∀{xs ys:List V} {us ws:List aG},Vals xs us->Vals ys ws->Vals (xs++ys) (us++ws)
 | _,_,_,_,.nil,s=>s
 | _,_,_,_,.cons r t,s=>.cons r (Vals.append t s)
theorem Vals.take:∀{xs:List V} {us:List aG} (n:Nat),Vals xs us->Vals (xs.take n) (us.take n)
 | _,_,0,_=>.nil
 | _,_,_+1,.nil=>.nil
 | _,_,n+1,.cons r t=>.cons r (Vals.take n t)
theorem Vals.drop:∀{xs:List V} {us:List aG} (n:Nat),Vals xs us->Vals (xs.drop n) (us.drop n)
 | _,_,0,r=>r
 | _,_,_+1,.nil=>.nil
 | _,_,n+1,.cons _ t=>Vals.drop n t
def RelO:Option V->Option aG->Prop
 | some v,some u=>RelV v u
 | none,none=>True
 | _,_=>False
def KV{κ:Type}:List (κ×V)->List (κ×Value)->Prop:=xY fun(p:κ×V) (q:κ×Value)=>p.1=q.1/\RelV p.2 q.2
def kV:Key->V
 | .inl i=>.int i
 | .inr x=>.str x
inductive HO where
 | lst (xs:List V)
 | tup (xs:List V)
 | dK (kvs:List (Key×V)) | dT (kvs:List (List Key×V))
 | set (S:Int->Bool) (n:Nat)
 | ins (C dx:aY) (fs:List (Str×V))
 | own (x:aY)
 | xd (fs:List (Str×V))
 | met (f x:aY)
 | rng (lo hi:Int)
 | frz (o:Obj) (u:HO)
 | tbl (ps:Array aG)
 | ext (φ:fD->Prop)
abbrev Hp:=aY->Option HO
def upd(H:Hp)(a:aY)(o:HO):Hp:=fun b=>if b=a then some o else H b
theorem gk{H:Hp}{a:aY}{o:HO}:upd H a o a=some o:=by unfold upd;rw[if_pos rfl]
theorem cj{H:Hp}{a b:aY}{o:HO}(h:b≠a):upd H a o b=H b:=by unfold upd;rw[if_neg h]
theorem jd{H:Hp}{a b:aY}{o:HO}(h:H a=some o)(h':H b=none):a≠b:=by
 intro e;subst e;rw[h] at h';cases h'
section
variable(P:bV)(w:dO)
def vd(H:Hp)(h:fD)(a:aY):HO->Prop
 | .lst xs=>xs.length<=cL/\∃(its:List aG) (n:Nat),Vals xs its/\h.get? a=some { cls:=.type "list", data:=.seq its.toArray n }
 | .tup xs=>xs.length<=cL/\∃its:List aG,Vals xs its/\IsTp h a its.toArray
 | .dK kvs=>kvs.length<=cL/\(a==sysModules)=false/\∃vs,KV kvs vs/\h.DictOf (aid P w) a vs
 | .dT kvs=>kvs.length<=cL/\(a==sysModules)=false/\∃xs:List (List Key×Addr×Value),
   xY (fun(p:List Key×V) (q:List Key×Addr×Value)=>p.1=q.1/\H q.2.1=some (.tup (p.1.map kV))/\RelV p.2 q.2.2) kvs xs /\
   ∃o es ep,h.get? a=some o/\o.ExactDict/\o.data=.dict es ep/\es.toList=xs.map (entryOfKey (tupleKind (aid P w)))/\(xs.map (·.1)).Nodup
 | .set S n=>h.SetOf (gU P w) a S n
 | .ins C dx fs=>H dx=some (.own a)/\fs.length<=1000/\dx≠a/\h.get? a=some (jN C dx) /\
   ∃mA,h.Ns1 dx mA/\(∀f,RelO (fs.lookup f) (mA f))/\PySem.Within mA (fs.map (·.1))
 | .own _=>∃o,h.get? a=some o
 | .xd fs=>∃mA,h.Ns1 a mA/\∀f,RelO (fs.lookup f) (mA f)
 | .rng lo hi=>∃t u v,h.get? a=some { cls:=.type "range", data:=.fields #[.int lo t,.int hi u,.int 1 v] }
 | .frz o u=>h.get? a=some o/\vd H h a u
 | .tbl ps=>h.get? a=some { cls:=.none,data:=.fields ps }
 | .met f x=>h.get? a=some (rH (.ref f) (.ref x))
 | .ext φ=>φ h/\(∃o,h.get? a=some o)/\∀h1 h2:fD,φ h1->(∀o,h1.get? a=some o->h2.get? a=some o)->φ h2
def HOk(H:Hp)(h:fD):Prop:=∀a o,H a=some o->vd P w H h a o
end
section
variable{P:bV}{w:dO}{H H':Hp}{h h':fD}{a:aY}{o:HO}
theorem vd.lt(x:vd P w H h a o):a < h.objs.size:=by
 cases o with
 | lst xs=>obtain⟨_,_,_,_,e⟩:=x;exact aQ e
 | tup xs=>obtain⟨_,_,_,p⟩:=x;exact p.tup.lt
 | dK kvs=>obtain⟨_,_,_,_,o,_,_,e,_⟩:=x;exact aQ e
 | dT kvs=>obtain⟨_,_,_,_,o,_,_,e,_⟩:=x;exact aQ e
 | set S n=>obtain⟨o,_,_,_,e,_⟩:=x;exact aQ e
 | ins C dx fs=>obtain⟨_,_,_,e,_⟩:=x;exact aQ e
 | own y=>obtain⟨_,e⟩:=x;exact aQ e
 | xd fs=>obtain⟨_,⟨_,_,_,e,_⟩,_⟩:=x;exact aQ e
 | rng lo hi=>obtain⟨_,_,_,e⟩:=x;exact aQ e
 | frz ob u=>obtain⟨e,_⟩:=x;exact aQ e
 | tbl ps=>exact aQ (show h.get? a=some _ from x)
 | met f y=>exact aQ (show h.get? a=some _ from x)
 | ext φ=>obtain⟨_,⟨_,e⟩,_⟩:=x;exact aQ e
theorem Paired.mapP{α β:Type}{F G:α->β->Prop}:∀{l₁:List α} {l₂:List β},xY F l₁ l₂->(∀a b,F a b->G a b)->xY G l₁ l₂
 | _,_,.nil,_=>.nil
 | _,_,.cons r t,f=>.cons (f _ _ r) (Paired.mapP t f)
theorem vd.stay(x:vd P w H h a o)(k:∀b u,(b=a∨H b=some (.own a))->h.get? b=some u->h'.get? b=some u)
  (ho:∀b,H b=some (.own a)->H' b=some (.own a)) (ht:∀b xs,H b=some (.tup xs)->H' b=some (.tup xs)):vd P w H' h' a o:=by
 induction o with
 | lst xs=>obtain⟨z,its,n,r,e⟩:=x;exact⟨z,its,n,r,k _ _ (.inl rfl) e⟩
 | tup xs=>obtain⟨z,its,r,ob,e,c⟩:=x;exact⟨z,its,r,ob,k _ _ (.inl rfl) e,c⟩
 | dK kvs=>obtain⟨z,y,vs,r,ob,es,ep,e,c⟩:=x;exact⟨z,y,vs,r,ob,es,ep,k _ _ (.inl rfl) e,c⟩
 | dT kvs =>
  obtain⟨z,y,xs,r,ob,es,ep,e,c⟩:=x;exact⟨z,y,xs,Paired.mapP r fun p q z=>⟨z.1,ht _ _ z.2.1,z.2.2⟩,ob,es,ep,k _ _ (.inl rfl) e,c⟩
 | set S n=>obtain⟨ob,es,ep,t,e,c⟩:=x;exact⟨ob,es,ep,t,k _ _ (.inl rfl) e,c⟩
 | ins C dx fs =>
  obtain⟨d,z,ne,e,mA,⟨od,es,ep,e2,c⟩,r⟩:=x;exact⟨ho _ d,z,ne,k _ _ (.inl rfl) e,mA,⟨od,es,ep,k _ _ (.inr d) e2,c⟩,r⟩
 | own y=>obtain⟨ob,e⟩:=x;exact⟨ob,k _ _ (.inl rfl) e⟩
 | xd fs=>obtain⟨mA,⟨od,es,ep,e,c⟩,r⟩:=x;exact⟨mA,⟨od,es,ep,k _ _ (.inl rfl) e,c⟩,r⟩
 | rng lo hi=>obtain⟨t,u,v,e⟩:=x;exact⟨t,u,v,k _ _ (.inl rfl) e⟩
 | frz ob u ih=>obtain⟨e,q⟩:=x;exact⟨k _ _ (.inl rfl) e,ih q⟩
 | tbl ps =>
  have e:h.get? a=some { cls:=.none,data:=.fields ps }:=x;show h'.get? a=some { cls:=.none,data:=.fields ps };exact k a _ (.inl rfl) e
 | met f y =>
  have e:h.get? a=some (rH (.ref f) (.ref y)):=x;show h'.get? a=some (rH (.ref f) (.ref y));exact k a _ (.inl rfl) e
 | ext φ=>obtain⟨p,⟨o,e⟩,st⟩:=x;exact⟨st _ _ p fun o q=>k _ _ (.inl rfl) q,⟨o,k _ _ (.inl rfl) e⟩,st⟩
theorem HOk.lt(x:HOk P w H h)(e:H a=some o):a < h.objs.size:=(x a o e).lt
theorem HOk.fresh(x:HOk P w H h)(e:h.objs.size<=a):H a=none:=by
 cases q:H a with
 | none=>rfl
 | some u=>exact absurd (bM (x.lt q) e) (jV _)
theorem HOk.kept(x:HOk P w H h)(k:∀b u,h.get? b=some u->h'.get? b=some u):HOk P w H h':=fun a o e =>
 (x a o e).stay (fun b u _ q=>k b u q) (fun _ q=>q) fun _ _ q=>q
theorem HOk.laid(x:HOk P w H h)(k:∀b u,h.get? b=some u->h'.get? b=some u)(hp:h.objs.size<=a)(new:vd P w (upd H a o) h' a o):HOk P w (upd H a o) h':=fun b u e=>by
 have hn:=x.fresh hp
 by_cases hb:b=a
 ·subst hb;rw[gk] at e;cases e;exact new
 ·rw[cj hb] at e;exact(x b u e).stay (fun c v _ q=>k c v q) (fun c q=>by rw[cj (jd q hn)];exact q) fun c xs q=>by rw[cj (jd q hn)];exact q
end
def Rd(H:Hp)(a:aY)(u:HO):Prop:=H a=some u∨∃o,H a=some (.frz o u)
theorem Rd.ok{P:bV}{w:dO}{H:Hp}{h:fD}{a:aY}{u:HO}(r:Rd H a u)(x:HOk P w H h):vd P w H h a u:=by
 rcases r with r | ⟨o,r⟩
 ·exact x a u r
 ·obtain⟨_,q⟩:=x a _ r;exact q
def Mut:Option HO->Prop
 | some (.lst _)=>True
 | some (.dK _)=>True
 | some (.dT _)=>True
 | some (.set _ _)=>True
 | some (.ins _ _ _)=>True
 | some (.ext _)=>True
 | _=>False
section
variable{P:bV}{w:dO}{H:Hp}{h h':fD}{x e:aY}{o':HO}
theorem HOk.write(ok:HOk P w H h)(mu:Mut (H x))(he:e=x∨H e=some (.own x))(k:∀b u,b≠e->h.get? b=some u->h'.get? b=some u)(heo:∃u,h'.get? e=some u)
  (new:vd P w (upd H x o') h' x o'):HOk P w (upd H x o') h':=fun b u q=>by
 have nown:∀c y,H c=some (.own y)->c≠x:=fun c y r z=>by subst z;rw[r] at mu;exact mu
 have ntup:∀c xs,H c=some (.tup xs)->c≠x:=fun c xs r z=>by subst z;rw[r] at mu;exact mu
 by_cases hb:b=x
 ·subst hb;rw[gk] at q;cases q;exact new
 ·rw[cj hb] at q
  by_cases hbe:b=e
  ·have q':H b=some (.own x):=by
    rcases he with z | z
    ·exact absurd (hbe.trans z) hb
    ·rw[hbe];exact z
   rw[q] at q';cases q';obtain⟨v,hv⟩:=heo;exact⟨v,by rw[hbe];exact hv⟩
  ·refine(ok b u q).stay (fun c v hc r=>k c v ?_ r) (fun c r=>by rw[cj (nown c b r)];exact r) fun c xs r=>by rw[cj (ntup c xs r)];exact r
   rcases hc with rfl | hc
   ·exact hbe
   ·rintro rfl
    rcases he with z | z
    ·exact nown c b hc z
    ·rw[hc] at z;cases z;exact hb rfl
end
structure Un (fs ex:List aY) (H H':Hp) (h h':fD):Prop where
 keep:∀b o,h.get? b=some o->H b=none->b∉fs->b∉ex->h'.get? b=some o
 slot:∀b o,h.get? b=some o->H b=none->b∈fs->b∉ex->∃sl,h'.get? b=some { o with slots:=sl }
 free:∀b o,h.get? b=some o->H b=none->b∉ex->H' b=none
 there:∀b o,h.get? b=some o->b∉ex->∃o',h'.get? b=some o'
 tups:∀b xs,H b=some (.tup xs)->H' b=some (.tup xs)
 frzs:∀b o u,H b=some (.frz o u)->H' b=some (.frz o u)
 tbls:∀b ps,H b=some (.tbl ps)->∃more,H' b=some (.tbl (ps++more))
section
variable{fs fs' ex ex':List aY}{H H1 H2:Hp}{h h1 h2 h':fD}{a x e:aY}{o:HO}
theorem Un.any(u:Un fs ex H H1 h h1){b:aY}{ob:Obj}(q:h.get? b=some ob)(n:H b=none)(hx:b∉ex):∃sl,h1.get? b=some { ob with slots:=sl }:=by
 by_cases hb:b∈fs
 ·exact u.slot b ob q n hb hx
 ·exact⟨ob.slots,u.keep b ob q n hb hx⟩
theorem Un.kept(k:∀b u,h.get? b=some u->h'.get? b=some u):Un fs ex H H h h' :=
 ⟨fun b ob q _ _ _=>k b ob q,fun b ob q _ _ _=>⟨ob.slots,k b ob q⟩,fun _ _ _ n _=>n,fun b ob q _=>⟨ob,k b ob q⟩,fun _ _ q=>q,fun _ _ _ q=>q,fun _ ps q=>⟨#[],by rw[q];simp⟩⟩
theorem Un.refl:Un fs ex H H h h:=Un.kept fun _ _ q=>q
theorem Un.laid(k:∀b u,h.get? b=some u->h'.get? b=some u)(hp:h.objs.size<=a)(hn:H a=none):Un fs ex H (upd H a o) h h' where
 keep:=fun b u q _ _ _=>k b u q
 slot:=fun b u q _ _ _=>⟨u.slots,k b u q⟩
 free:=fun b u q n _=>by rw[cj (bG (bM (aQ q) hp))];exact n
 there:=fun b u q _=>⟨u,k b u q⟩
 tups:=fun b xs q=>by rw[cj (jd q hn)];exact q
 frzs:=fun b u xs q=>by rw[cj (jd q hn)];exact q
 tbls:=fun b ps q=>⟨#[],by rw[cj (jd q hn),q];simp⟩
theorem Un.write(mu:Mut (H x))(he:e=x∨H e=some (.own x))(k:∀b u,b≠e->h.get? b=some u->h'.get? b=some u)(heo:∃u,h'.get? e=some u):Un fs ex H (upd H x o) h h':=by
 have hx:∀b,H b=none->b≠x:=fun b n z=>by subst z;rw[n] at mu;exact mu
 have hb:∀b,H b=none->b≠e:=fun b n z=>by
  subst z;rcases he with r | r
  ·exact hx b n r
  ·rw[n] at r;cases r
 have hm:∀b u,H b=some u->¬Mut (some u)->b≠x:=fun b u q nm z=>by subst z;rw[q] at mu;exact nm mu
 refine⟨fun b u q n _ _=>k b u (hb b n) q,fun b u q n _ _=>⟨u.slots,k b u (hb b n) q⟩,fun b u q n _=>by rw[cj (hx b n)];exact n,fun b u q _ =>?_,
  fun b xs q=>by rw[cj (hm b _ q fun z=>z)];exact q,fun b u xs q=>by rw[cj (hm b _ q fun z=>z)];exact q,fun b ps q=>⟨#[],by rw[cj (hm b _ q fun z=>z),q];simp⟩⟩
 by_cases hbe:b=e
 ·subst hbe;exact heo
 ·exact⟨u,k b u hbe q⟩
end
def trk(h:fD)(H:Hp):List aY:=(aR h.objs.size).filter fun a=>(H a).isSome
def hidT(h:fD)(H:Hp):fD:=PySem.W.hideAll h (trk h H)
theorem aq5(h:fD)(H:Hp):(hidT h H).objs.size=h.objs.size:=PySem.W.hideAll_size _ _
theorem auj{h:fD}{H:Hp}{b:aY}{o:Obj}(e:h.get? b=some o)(n:H b=none):(hidT h H).get? b=some o :=
 PySem.W.hideAll_get _ e fun hm=>by
  have q:(H b).isSome=true:=(iT.mp hm).2;rw[n] at q;simp at q
theorem axt{h:fD}{H:Hp}{b:aY}{o:Obj}(e:(hidT h H).get? b=some o):h.get? b=some o/\H b=none:=by
 have e':h.get? b=some o:=PySem.W.of_hideAll (trk h H) e;refine⟨e',?_⟩;cases q:H b with
 | none=>rfl
 | some x =>
  have hm:b∈trk h H:=iT.mpr ⟨List.mem_range.mpr (aQ e'),by simp[q]⟩
  have z:(hidT h H).get? b=none:=PySem.W.hideAll_none (trk h H) hm;rw[z] at e;cases e
def aza(g h:fD)(L:aY):List (aY×Obj):=(aR h.objs.size).filterMap fun a=>if a=L∨(g.get? a).isSome=true then none else (h.get? a).map fun o=>(a,o)
def rest(g h:fD)(L d:aY):List (aY×Obj):=(aza g h L).filter fun p=>decide (p.1≠d)
structure Mod (K:Fg9) (mg:Str->Option aG) (base:fD):Prop where
 kin:K.In base
 glob:base.Ns bB mg
 blt:∃mb,base.Ns builtinsNs mb/\∀x:Str,x ≠ "__name__" -> mb x=bT x
 nolimit:base.NoLimit
structure Cx where
 prog:bV
 w:dO
 K:Fg9
 mg:Str->Option aG
 base:fD
 A:dB
 N:List Str
 s₀:aH
 H₀:Hp
 env:Env
 outer:List Env
 stack:List Env
 ex:List aY
 fn:Str->Bool
 calm:Bool
 pn:List (aY×Obj)
 xe:aG->aH->Prop
def frs(l:List Env):List aY:=l.filterMap (·.frame)
abbrev Cx.fs(X:Cx):List aY:=frs X.outer
def Vis(sc:mX)(x:Str):Prop:=sc.names.lookup x=some .local∨sc.names.lookup x=some .cell∨sc.names.lookup x=some .free
def Loc(sc:mX)(x:Str):Prop:=sc.names.lookup x=some .local∨sc.names.lookup x=some .cell
def Look(env:Env)(h:fD)(m:Str->Option aG)(x:Str)(u:aG):Prop :=
 (env.kindOf x=some .local/\m x=some u)∨((env.kindOf x=some .cell∨env.kindOf x=some .free)/\∃c,env.cells.lookup x=some c/\h.IsCell c (some u))
structure Cx.Ok (X:Cx):Prop where
 mod:Mod X.K X.mg X.base
 kind:X.env.scope.kind=.function
 glob:X.env.globals=bB
 blt:X.env.builtins=builtinsNs
 above:X.s₀.heap.objs.size<=X.env.locals
 inj:∀x y c,X.env.cells.lookup x=some c->X.env.cells.lookup y=some c->x=y
 has:∀x,(X.env.kindOf x=some .cell∨X.env.kindOf x=some .free)->∃c,X.env.cells.lookup x=some c
 cab:∀x c,X.fn x=true->X.env.cells.lookup x=some c->X.s₀.heap.objs.size<=c
 hd:X.calm=true->X.A.handled=none
 frames:X.A.frames=some X.stack
 stk:X.stack=X.outer∨(X.stack=X.env::X.outer/\X.env.frame=some X.env.locals)
 exf:∀b∈X.ex,b≠X.env.locals/\∀x c,X.env.cells.lookup x=some c->c≠b
 bs:∀b o,X.base.get? b=some o->X.s₀.heap.get? b=some o/\X.H₀ b=none
 bsz:X.base.objs.size<=X.s₀.heap.objs.size
 noex:∀b o,X.base.get? b=some o->b∉X.ex
 exfs:∀b∈X.ex,b∉X.fs
 funs:X.s₀.heap.FunFrames X.base X.outer
 frf:∀b∈X.fs,X.H₀ b=none
structure Inv (X:Cx) (jv:List (aY×Obj)) (σ:List (Option V)) (H:Hp) (s:aH):Prop where
 ok:X.Ok
 os:s.os=X.s₀.os
 bare:qG s.gens
 base:Un X.fs X.ex X.H₀ H X.s₀.heap s.heap
 loc:∃m,s.heap.Ns X.env.locals m/\∀(i:Nat) (x:Str) (v:V),X.N[i]? = some x->σ[i]? = some (some v)->Vis X.env.scope x->∃u,RelV v u/\Look X.env s.heap m x u
 cell:∀x c,X.env.cells.lookup x=some c->∃v,s.heap.IsCell c v
 free:H X.env.locals=none
 freeC:∀x c,X.env.cells.lookup x=some c->H c=none
 pin:∀p∈X.pn++jv,s.heap.get? p.1=some p.2/\H p.1=none/\p.1≠X.env.locals/\p.1∉X.fs/\∀v,p.2.data≠.cell v
 hok:HOk X.prog X.w H s.heap
 len:σ.length=X.N.length
section
variable{X:Cx}{jv:List (aY×Obj)}{σ:List (Option V)}{H H':Hp}{s:aH}{h':fD}
theorem Cx.Ok.nofr(ok:X.Ok){b:aY}{o:Obj}(e:X.base.get? b=some o):b∉X.fs:=fun hb=>by
 have:=(ok.funs.mem hb).1;rw[e] at this;cases this
theorem Inv.bs(I:Inv X jv σ H s):∀b o,X.base.get? b=some o->s.heap.get? b=some o/\H b=none:=fun b o e =>
 ⟨I.base.keep b o (I.ok.bs b o e).1 (I.ok.bs b o e).2 (I.ok.nofr e) (I.ok.noex b o e),I.base.free b o (I.ok.bs b o e).1 (I.ok.bs b o e).2 (I.ok.noex b o e)⟩
theorem Inv.bk(I:Inv X jv σ H s):∀b o,X.base.get? b=some o->s.heap.get? b=some o:=fun b o e=>(I.bs b o e).1
theorem Inv.mod(I:Inv X jv σ H s):Mod X.K X.mg X.base:=I.ok.mod
theorem Inv.kIn(I:Inv X jv σ H s):X.K.In s.heap:=I.ok.mod.kin.keeps I.bk
theorem Inv.lt(I:Inv X jv σ H s):X.env.locals < s.heap.objs.size:=let ⟨_,hn,_⟩:=I.loc;hn.lt
theorem Inv.sz(I:Inv X jv σ H s):X.s₀.heap.objs.size<=s.heap.objs.size:=cM I.ok.above (jR I.lt)
theorem Inv.nofs(I:Inv X jv σ H s){a:aY}(h:s.heap.objs.size<=a):a∉X.fs:=fun hb=>by
 obtain⟨_,o,ho,_⟩:=I.ok.funs.mem hb;exact absurd (bM (aQ ho) (cM I.sz h)) (jV _)
theorem Inv.cne(I:Inv X jv σ H s):∀x c,X.env.cells.lookup x=some c->c≠X.env.locals:=fun x c e z=>by
 obtain⟨v,o,ho,hd⟩:=I.cell x c e;obtain⟨m,⟨o',es,ep,ho',hd',_⟩,_⟩:=I.loc;rw[z,ho'] at ho;cases ho;rw[hd'] at hd;cases hd
theorem Inv.funs(I:Inv X jv σ H s):s.heap.FunFrames X.base X.outer:=by
 have all:∀(l:List Env),(∀b∈frs l,b∈X.fs)->X.s₀.heap.FunFrames X.base l->s.heap.FunFrames X.base l:=by
  intro l
  induction l with
  | nil=>intro _ _;trivial
  | cons env r ih =>
   intro hs hl;obtain⟨hk,⟨L,o,hf,hn,ho,hd⟩,hr⟩:=hl;have hL:L∈X.fs:=hs L (by unfold frs;rw[dY,hf];exact aN)
   obtain⟨sl,e⟩:=I.base.slot L o ho (I.ok.frf L hL) hL fun z=>I.ok.exfs L z hL
   exact⟨hk,⟨L,_,hf,hn,e,hd⟩,ih (fun b hb=>hs b (by unfold frs;rw[dY,hf];exact aK _ hb)) hr⟩
 exact all X.outer (fun _ hb=>hb) I.ok.funs
theorem Inv.stack(I:Inv X jv σ H s):s.heap.FunFrames X.base X.stack:=by
 rcases I.ok.stk with e | ⟨e,hf⟩
 ·rw[e];exact I.funs
 ·rw[e];obtain⟨m,hn,_⟩:=I.loc;refine .cons (by rw[I.ok.kind];decide) hf hn ?_ I.funs
  exact vP (cM I.ok.bsz I.ok.above)
theorem Inv.stkSub(I:Inv X jv σ H s):∀b∈frs X.stack,b∈X.env.locals::X.fs:=fun b hb=>by
 rcases I.ok.stk with e | ⟨e,hf⟩
 ·rw[e] at hb;exact aK _ hb
 ·rw[e] at hb;unfold frs at hb;rw[dY,hf] at hb;exact hb
theorem Inv.stkFree(I:Inv X jv σ H s):∀b∈frs X.stack,H b=none:=fun b hb=>by
 rcases aZ.mp (I.stkSub b hb) with e | hb
 ·rw[e];exact I.free
 ·obtain⟨_,o,ho,_⟩:=I.ok.funs.mem hb;exact I.base.free b o ho (I.ok.frf b hb) fun z=>I.ok.exfs b z hb
theorem Inv.step{g':Array GenState}{t':Nat}{d':Drawn}{ch:List aY}(I:Inv X jv σ H s)
  (hch:∀b∈ch,(b∈X.ex∨X.s₀.heap.objs.size<=b)/\b≠X.env.locals/\(∀x c,X.env.cells.lookup x=some c->c≠b)/\∀p∈X.pn++jv,p.1≠b)
  (keep:∀b o,b≠X.env.locals->b∉X.fs->b∉ch->s.heap.get? b=some o->H b=none->h'.get? b=some o)
  (slot:∀b o,b≠X.env.locals->b∈X.fs->b∉ch->s.heap.get? b=some o->H b=none->∃sl,h'.get? b=some { o with slots:=sl }) (free:∀b o,b∉ch->s.heap.get? b=some o->H b=none->H' b=none)
  (there:∀b o,b∉ch->s.heap.get? b=some o->∃o',h'.get? b=some o')
  (tups:∀b xs,H b=some (.tup xs)->H' b=some (.tup xs)) (frzs:∀b o u,H b=some (.frz o u)->H' b=some (.frz o u)) (tbls:∀b ps,H b=some (.tbl ps)->∃more,H' b=some (.tbl (ps++more)))
  (ns:∀m,s.heap.Ns X.env.locals m->h'.Ns X.env.locals m) (hok:HOk X.prog X.w H' h') (hg:qG g') :
  Inv X jv σ H' { s with heap:=h',gens:=g',drawn:=d',toks:=t' }:=by
 have neL:∀b o,X.s₀.heap.get? b=some o->b≠X.env.locals:=fun b o e=>bG (bM (aQ e) I.ok.above)
 have neC:∀b o,X.s₀.heap.get? b=some o->b∉X.ex->b∉ch:=fun b o e hx hb=>by
  rcases(hch b hb).1 with z | z
  ·exact hx z
  ·exact absurd (bM (aQ e) z) (jV _)
 have cellK:∀x c,X.env.cells.lookup x=some c->∀v,s.heap.IsCell c v->h'.IsCell c v:=fun x c e v hq0=>by
  obtain⟨o,ho,hd⟩:=hq0;have nch:c∉ch:=fun z=>(hch c z).2.2.1 x c e rfl
  by_cases hc:c∈X.fs
  ·obtain⟨sl,q⟩:=slot c o (I.cne x c e) hc nch ho (I.freeC x c e);exact⟨_,q,hd⟩
  ·exact⟨o,keep c o (I.cne x c e) hc nch ho (I.freeC x c e),hd⟩
 refine⟨I.ok,I.os,hg,⟨fun b o e n hb hx =>?_,fun b o e n hb hx =>?_,fun b o e n hx =>?_,fun b o e hx =>?_,fun b xs e=>tups b xs (I.base.tups b xs e),fun b o xs e=>frzs b o xs (I.base.frzs b o xs e),fun b ps e =>?_⟩,?_,fun x c e =>?_,?_,fun x c e =>?_,fun p hp =>?_,hok,I.len⟩
 ·exact keep b o (neL b o e) hb (neC b o e hx) (I.base.keep b o e n hb hx) (I.base.free b o e n hx)
 ·obtain⟨sl,e1⟩:=I.base.slot b o e n hb hx;obtain⟨sl',e2⟩:=slot b _ (neL b o e) hb (neC b o e hx) e1 (I.base.free b o e n hx);exact⟨sl',e2⟩
 ·obtain⟨o',e1⟩:=I.base.there b o e hx;exact free b o' (neC b o e hx) e1 (I.base.free b o e n hx)
 ·obtain⟨o',e1⟩:=I.base.there b o e hx;exact there b o' (neC b o e hx) e1
 ·obtain⟨m1,e1⟩:=I.base.tbls b ps e;obtain⟨m2,e2⟩:=tbls b _ e1;exact⟨m1++m2,by rw[e2,Array.append_assoc]⟩
 ·obtain⟨m,hn,hl⟩:=I.loc;refine⟨m,ns m hn,fun i x v e1 e2 e3 =>?_⟩
  obtain⟨u,r,l⟩:=hl i x v e1 e2 e3;refine⟨u,r,?_⟩;rcases l with l | ⟨k,c,e,z⟩
  ·exact .inl l
  ·exact .inr ⟨k,c,e,cellK x c e _ z⟩
 ·obtain⟨v,z⟩:=I.cell x c e;exact⟨v,cellK x c e v z⟩
 ·obtain⟨m,⟨o,_,_,ho,_⟩,_⟩:=I.loc;exact free _ o (fun z=>(hch _ z).2.1 rfl) ho I.free
 ·obtain⟨v,o,ho,hd⟩:=I.cell x c e;exact free c o (fun z=>(hch c z).2.2.1 x c e rfl) ho (I.freeC x c e)
 ·obtain⟨e,n,ne,nf,d⟩:=I.pin p hp;have nch:p.1∉ch:=fun z=>(hch p.1 z).2.2.2 p hp rfl
  exact⟨keep p.1 p.2 ne nf nch e n,free p.1 p.2 nch e n,ne,nf,d⟩
theorem Inv.un{t':Nat}(I:Inv X jv σ H s)(u:Un X.fs [] H H' s.heap h')(hok:HOk X.prog X.w H' h'):Inv X jv σ H' { s with heap:=h',toks:=t' }:=by
 obtain⟨m,⟨o,es,ep,ho,r⟩,_⟩:=id I.loc;obtain⟨sl,hL⟩:=u.any ho I.free (by simp)
 exact I.step (g':=s.gens) (d':=s.drawn) (ch:=[]) (fun _ z=>nomatch z) (fun b o _ hb _ e n=>u.keep b o e n hb (by simp)) (fun b o _ hb _ e n=>u.slot b o e n hb (by simp)) (fun b o _ e n=>u.free b o e n (by simp)) (fun b o _ e=>u.there b o e (by simp)) u.tups u.frzs u.tbls (fun m' hm=>by
  obtain⟨o',es',ep',ho',r'⟩:=hm;rw[ho] at ho';cases ho';exact⟨_,es',ep',hL,r'⟩) hok I.bare
theorem Inv.call{g':Array GenState}{t':Nat}{d':Drawn}{ch:List aY}(I:Inv X jv σ H s)(u:Un (frs X.stack) ch H H' s.heap h')(hok:HOk X.prog X.w H' h')(hg:qG g')
  (hch:∀b∈ch,(b∈X.ex∨X.s₀.heap.objs.size<=b)/\b≠X.env.locals/\(∀x c,X.env.cells.lookup x=some c->c≠b)/\∀p∈X.pn++jv,p.1≠b) :
  Inv X jv σ H' { s with heap:=h',gens:=g',drawn:=d',toks:=t' }:=by
 obtain⟨m,⟨o,es,ep,ho,r⟩,_⟩:=id I.loc;obtain⟨sl,hL⟩:=u.any ho I.free fun z=>(hch _ z).2.1 rfl
 exact I.step (ch:=ch) hch (fun b o hL hb hc e n=>u.keep b o e n (fun z=>(aZ.mp (I.stkSub b z)).elim hL hb) hc) (fun b o _ _ hc e n=>u.any e n hc) (fun b o hc e n=>u.free b o e n hc) (fun b o hc e=>u.there b o e hc) u.tups u.frzs u.tbls (fun m' hm=>by
  obtain⟨o',es',ep',ho',r'⟩:=hm;rw[ho] at ho';cases ho';exact⟨_,es',ep',hL,r'⟩) hok hg
theorem Inv.turned{t':Nat}{it:aY}(I:Inv X jv σ H s)(k:∀b o,b≠it->s.heap.get? b=some o->h'.get? b=some o)(hn:H it=none)(hL:it≠X.env.locals)
  (h1:it∈X.ex∨X.s₀.heap.objs.size<=it) (h2:∀x c,X.env.cells.lookup x=some c->c≠it) (h3:∀p∈X.pn++jv,p.1≠it):Inv X jv σ H { s with heap:=h',toks:=t' }:=by
 have nit:∀b u,H b=some u->b≠it:=fun b u e z=>by rw[z,hn] at e;cases e
 refine I.step (g':=s.gens) (d':=s.drawn) (ch:=[it]) (fun b hb =>?_) (fun b o _ _ hc e _=>k b o (fun z=>hc (by simp[z])) e) (fun b o _ _ hc e _=>⟨o.slots,k b o (fun z=>hc (by simp[z])) e⟩) (fun _ _ _ _ n=>n)
  (fun b o hc e=>⟨o,k b o (fun z=>hc (by simp[z])) e⟩) (fun _ _ e=>e) (fun _ _ _ e=>e) (fun b ps e=>⟨#[],by rw[e];simp⟩) (fun m hm =>?_) (fun b u e =>?_) I.bare
 ·have e:b=it:=by simpa using hb
  subst e;exact⟨h1,hL,h2,h3⟩
 ·obtain⟨o,es,ep,ho,r⟩:=hm;exact⟨o,es,ep,k _ o (mD hL) ho,r⟩
 ·refine(I.hok b u e).stay (fun c v hc q=>k c v ?_ q) (fun _ q=>q) fun _ _ q=>q
  rcases hc with z | z
  ·rw[z];exact nit b u e
  ·exact nit c _ z
theorem Inv.tok(I:Inv X jv σ H s)(t:Nat):Inv X jv σ H { s with toks:=t }:=I.un (h':=s.heap) (t':=t) Un.refl I.hok
theorem Inv.kept{t':Nat}(I:Inv X jv σ H s)(k:∀b u,s.heap.get? b=some u->h'.get? b=some u):Inv X jv σ H { s with heap:=h',toks:=t' }:=I.un (Un.kept k) (I.hok.kept k)
theorem Inv.laid{a:aY}{o:HO}{t':Nat}(I:Inv X jv σ H s)(k:∀b u,s.heap.get? b=some u->h'.get? b=some u)(hp:s.heap.objs.size<=a)(new:vd X.prog X.w (upd H a o) h' a o) :
  Inv X jv σ (upd H a o) { s with heap:=h',toks:=t' }:=I.un (Un.laid k hp (I.hok.fresh hp)) (I.hok.laid k hp new)
theorem Inv.write{x e:aY}{o:HO}{t':Nat}(I:Inv X jv σ H s)(mu:Mut (H x))(he:e=x∨H e=some (.own x))(k:∀b u,b≠e->s.heap.get? b=some u->h'.get? b=some u)(heo:∃u,h'.get? e=some u)
  (new:vd X.prog X.w (upd H x o) h' x o):Inv X jv σ (upd H x o) { s with heap:=h',toks:=t' }:=I.un (Un.write mu he k heo) (I.hok.write mu he k heo new)
theorem Inv.pins_of{pins':List (aY×Obj)}(I:Inv X jv σ H s)(h:∀p∈pins',s.heap.get? p.1=some p.2/\H p.1=none/\p.1≠X.env.locals/\p.1∉X.fs/\∀v,p.2.data≠.cell v):Inv X pins' σ H s :=
 ⟨I.ok,I.os,I.bare,I.base,I.loc,I.cell,I.free,I.freeC,fun p hp=>(bZ.mp hp).elim (fun z=>I.pin p (iM _ z)) (h p),I.hok,I.len⟩
theorem aib{N:List Str}(hN:N.Nodup){i j:Nat}{x:Str}(a:N[i]? = some x)(b:N[j]? = some x):i=j:=by
 obtain⟨h1,e1⟩:=aM.mp a;obtain⟨h2,e2⟩:=aM.mp b;exact(List.getElem_inj hN).mp (e1.trans e2.symm)
theorem aja{M:wO}{A:dB}{E:aG->aH->Prop}{i:Nat}{x:Str}{v:V}{u:aG}{Q:Unit->aH->Prop}(I:Inv X jv σ H s)(hN:X.N.Nodup)(hi:X.N[i]? = some x)(hx:Loc X.env.scope x)(r:RelV v u)
  (h:∀s',Inv X jv (σ.set i (some v)) H s'->(∃a,gG a s.heap s'.heap/\(a=X.env.locals∨X.env.cells.lookup x=some a))->Q () s') (hf:X.fn x=true∨X.env.scope.names.lookup x=some .local:=by first | exact .inl rfl | exact .inr rfl | assumption):bL M A (storeName X.env x u) Q E s:=by
 obtain⟨m,hn,hl⟩:=id I.loc;have hcls:(X.env.scope.kind==.class||(X.env.scope.kind==.module&&X.env.locals != X.env.globals))=false:=by rw[I.ok.kind];rfl
 have hiσ:i < σ.length:=by rw[I.len];exact(aM.mp hi).1
 have cne:=I.cne;have tracked:∀{a:aY} {h':fD},(∃o,s.heap.get? a=some o/\H a=none)->gG a s.heap h'->HOk X.prog X.w H h':=fun{a h'} ha hs b ob e=>by
  obtain⟨_,_,hfree⟩:=ha;refine(I.hok b ob e).stay (fun c w' hc q=>(hs.2 c ?_).trans q) (fun _ q=>q) fun _ _ q=>q
  rintro rfl
  rcases hc with rfl | hc
  ·rw[hfree] at e;cases e
  ·rw[hfree] at hc;cases hc
 rcases hx with hk | hk
 ·refine wpAny_storeName_local hk hn (fun h' hn' hs =>?_) hcls
  obtain⟨oL,_,_,hoL,_⟩:=id hn;refine h _ ⟨I.ok,I.os,I.bare,⟨fun b o e n hb hx =>?_,fun b o e n hb hx =>?_,I.base.free,fun b o e hx =>?_,I.base.tups,I.base.frzs,I.base.tbls⟩,⟨_,hn',fun j y v' e1 e2 e3 =>?_⟩,fun y c e =>?_,I.free,I.freeC,fun p hp =>?_,tracked ⟨oL,hoL,I.free⟩ hs,by simpa using I.len⟩ ⟨_,hs,.inl rfl⟩
  ·exact(hs.2 b (bG (bM (aQ e) I.ok.above))).trans (I.base.keep b o e n hb hx)
  ·obtain⟨sl,e1⟩:=I.base.slot b o e n hb hx;exact⟨sl,(hs.2 b (bG (bM (aQ e) I.ok.above))).trans e1⟩
  ·obtain⟨o',e1⟩:=I.base.there b o e hx;exact⟨o',(hs.2 b (bG (bM (aQ e) I.ok.above))).trans e1⟩
  ·by_cases hj:j=i
   ·subst hj;rw[hi] at e1;cases e1;rw[lO hiσ] at e2;cases e2;exact⟨u,r,.inl ⟨hk,by simp⟩⟩
   ·rw[mH (mD hj)] at e2;obtain⟨u',r',q⟩:=hl j y v' e1 e2 e3;refine⟨u',r',?_⟩;rcases q with⟨k,e⟩ | ⟨k,c,e,z⟩
    ·refine .inl ⟨k,?_⟩;have:y≠x:=fun e=>hj (aib hN e1 (e▸hi))
     simp[this,e]
    ·exact .inr ⟨k,c,e,z.sameBut hs (cne y c e)⟩
  ·obtain⟨w',z⟩:=I.cell y c e;exact⟨w',z.sameBut hs (cne y c e)⟩
  ·obtain⟨e,n,ne,nf,d⟩:=I.pin p hp;exact⟨(hs.2 p.1 ne).trans e,n,ne,nf,d⟩
 ·have hfn:X.fn x=true:=by
   rcases hf with z | z
   ·exact z
   ·rw[z] at hk;cases hk
  obtain⟨c,hc⟩:=I.ok.has x (.inl hk);obtain⟨w',z⟩:=I.cell x c hc;refine wpAny_storeName_cell I.ok.kind hk hc z (fun h' hc' hs =>?_)
  obtain⟨oc,hoc,hocd⟩:=id z;refine h { s with heap:=h' } ⟨I.ok,I.os,I.bare,⟨fun b o e n hb hx =>?_,fun b o e n hb hx =>?_,I.base.free,fun b o e hx =>?_,I.base.tups,I.base.frzs,I.base.tbls⟩,⟨m,hn.sameBut hs (mD (cne x c hc)),fun j y v' e1 e2 e3 =>?_⟩,fun y c' e =>?_,I.free,I.freeC,fun p hp =>?_,tracked ⟨oc,hoc,I.freeC x c hc⟩ hs,by simpa using I.len⟩ ⟨c,hs,.inr hc⟩
  ·exact(hs.2 b (bG (bM (aQ e) (I.ok.cab x c hfn hc)))).trans (I.base.keep b o e n hb hx)
  ·obtain⟨sl,e1⟩:=I.base.slot b o e n hb hx;exact⟨sl,(hs.2 b (bG (bM (aQ e) (I.ok.cab x c hfn hc)))).trans e1⟩
  ·obtain⟨o',e1⟩:=I.base.there b o e hx;exact⟨o',(hs.2 b (bG (bM (aQ e) (I.ok.cab x c hfn hc)))).trans e1⟩
  ·by_cases hj:j=i
   ·subst hj;rw[hi] at e1;cases e1;rw[lO hiσ] at e2;cases e2;exact⟨u,r,.inr ⟨.inl hk,c,hc,hc'⟩⟩
   ·rw[mH (mD hj)] at e2;obtain⟨u',r',q⟩:=hl j y v' e1 e2 e3;refine⟨u',r',?_⟩;rcases q with q | ⟨k,c',e,z'⟩
    ·exact .inl q
    ·refine .inr ⟨k,c',e,z'.sameBut hs ?_⟩
     rintro rfl
     exact hj (aib hN e1 (I.ok.inj _ _ _ e hc▸hi))
  ·by_cases hcc:c'=c
   ·subst hcc;exact⟨_,hc'⟩
   ·obtain⟨w2,z2⟩:=I.cell y c' e;exact⟨w2,z2.sameBut hs hcc⟩
  ·obtain⟨e,n,ne,nf,d⟩:=I.pin p hp;refine⟨(hs.2 p.1 ?_).trans e,n,ne,nf,d⟩;intro q;rw[q,hoc] at e;have q':oc=p.2:=bO e;exact d w' (by rw[<-q'];exact hocd)
theorem adg{M:wO}{A:dB}{E:aG->aH->Prop}{i:Nat}{x:Str}{v:V}{u:aG}{Q:Unit->aH->Prop}(I:Inv X jv σ H s)(hN:X.N.Nodup)(hi:X.N[i]? = some x)(hx:Loc X.env.scope x)(r:RelV v u)
  (h:∀s',Inv X jv (σ.set i (some v)) H s'->Q () s') (hf:X.fn x=true∨X.env.scope.names.lookup x=some .local:=by first | exact .inl rfl | exact .inr rfl | assumption):bL M A (storeName X.env x u) Q E s :=
 aja I hN hi hx r (fun s' I' _=>h s' I') hf
theorem Inv.call'{s':aH}{ch:List aY}(I:Inv X jv σ H s)(ho:s'.os=s.os)(u:Un (frs X.stack) ch H H' s.heap s'.heap)(hok:HOk X.prog X.w H' s'.heap)(hg:qG s'.gens)
  (hch:∀b∈ch,(b∈X.ex∨X.s₀.heap.objs.size<=b)/\b≠X.env.locals/\(∀x c,X.env.cells.lookup x=some c->c≠b)/\∀p∈X.pn++jv,p.1≠b):Inv X jv σ H' s':=by
 obtain⟨h',g',d',t',o'⟩:=s';have e:o'=s.os:=ho;subst e;exact I.call (g':=g') (t':=t') (d':=d') u hok hg hch
end
abbrev XK:=aG->Option aY->Hp->Prop
abbrev St:=List (Option V)
abbrev VK:=V->Hp->Prop
abbrev TE:=St->Hp->VK->Prop
abbrev TT:=St->Hp->(Bool->Hp->Prop)->Prop
abbrev TA:=St->Hp->(List V->Hp->Prop)->Prop
structure Ends where
 nx:St->Hp->Prop
 rt:VK
 bk:St->Hp->Prop:=fun _ _=>False
 ct:St->Hp->Prop:=fun _ _=>False
abbrev TS:=Ends->St->Hp->Prop
def EP(X:Cx)(jv:List (aY×Obj))(σ:St)(Q:VK)(u:aG)(s':aH):Prop:=∃v H',Inv X jv σ H' s'/\RelV v u/\Q v H'
def TP(X:Cx)(jv:List (aY×Obj))(σ:St)(Q:Bool->Hp->Prop)(b:Bool)(s':aH):Prop:=∃H',Inv X jv σ H' s'/\Q b H'
def AP(X:Cx)(jv:List (aY×Obj))(σ:St)(Q:List V->Hp->Prop)(us:List aG)(s':aH):Prop:=∃vs H',Inv X jv σ H' s'/\Vals vs us/\Q vs H'
def SP(X:Cx)(jv:List (aY×Obj))(D:Ends)(f:Flow)(s':aH):Prop :=
 match f with
 | .next=>∃σ' H',Inv X jv σ' H' s'/\D.nx σ' H'
 | .brk=>∃σ' H',Inv X jv σ' H' s'/\D.bk σ' H'
 | .cont=>∃σ' H',Inv X jv σ' H' s'/\D.ct σ' H'
 | .ret u=>∃v σ' H',Inv X jv σ' H' s'/\RelV v u/\D.rt v H'
def PE(X:Cx)(e:dZ)(t:TE):Prop :=
 ∀(jv:List (aY×Obj)) (s:aH) (σ:St) (H:Hp) (Q:VK),Inv X jv σ H s->t σ H Q->bL (bY X.prog X.w) X.A (eval e X.env) (EP X jv σ Q) X.xe s
def PT(X:Cx)(e:dZ)(t:TT):Prop :=
 ∀(jv:List (aY×Obj)) (s:aH) (σ:St) (H:Hp) (Q:Bool->Hp->Prop),Inv X jv σ H s->t σ H Q->bL (bY X.prog X.w) X.A (isTrue e X.env (eval e X.env)) (TP X jv σ Q) X.xe s
def PW(X:Cx)(e:dZ)(t:TT):Prop :=
 ∀(whole:Sem aG) (jv:List (aY×Obj)) (s:aH) (σ:St) (H:Hp) (Q:Bool->Hp->Prop),Inv X jv σ H s->t σ H Q->bL (bY X.prog X.w) X.A (isTrue e X.env whole) (TP X jv σ Q) X.xe s
theorem PW.pt{X:Cx}{e:dZ}{t:TT}(h:PW X e t):PT X e t:=h _
def PA(X:Cx)(es:List dZ)(t:TA):Prop :=
 ∀(pos:Pos) (jv:List (aY×Obj)) (s:aH) (σ:St) (H:Hp) (Q:List V->Hp->Prop),Inv X jv σ H s->t σ H Q->bL (bY X.prog X.w) X.A (spliced (iZ pos (aX es X.env))) (AP X jv σ Q) X.xe s
def PS(X:Cx)(st:iY)(t:TS):Prop :=
 ∀(jv:List (aY×Obj)) (s:aH) (σ:St) (H:Hp) (D:Ends),Inv X jv σ H s->t D σ H->bL (bY X.prog X.w) X.A (exec st X.env) (SP X jv D) X.xe s
def PSs(X:Cx)(st:List iY)(t:TS):Prop :=
 ∀(jv:List (aY×Obj)) (s:aH) (σ:St) (H:Hp) (D:Ends),Inv X jv σ H s->t D σ H->bL (bY X.prog X.w) X.A (execs st X.env) (SP X jv D) X.xe s
theorem thn{α:Type}{t:Sem α}{Q Q':α->aH->Prop}{M:wO}{A:dB}{E:aG->aH->Prop}{s:aH}(h:bL M A t Q E s)(hQ:∀a s,Q a s->Q' a s):bL M A t Q' E s:=bC h hQ fun _ _ x=>x
section
variable{X:Cx}
def tVar(i:Nat):TE:=fun σ H Q=>∃v,σ[i]? = some (some v)/\Q v H
def tC(v:V):TE:=fun _ H Q=>Q v H
theorem a0k{i:Nat}{x:Str}{pos:Pos}(hN:X.N[i]? = some x)(hv:Vis X.env.scope x)(hd:(x==("__debug__" : Str))=false:=by decide)(hcd:(x==("__classdict__" : Str))=false:=by decide):PE X (.Name x pos) (tVar i):=by
 intro jv s σ H Q I h;obtain⟨v,e,h⟩:=h;obtain⟨m,hn,hl⟩:=I.loc;obtain⟨u,r,l⟩:=hl i x v hN e hv;have fin:EP X jv σ Q u s:=⟨v,H,I,r,h⟩;rcases l with⟨hk,hm⟩ | ⟨hk,c,hc,hcell⟩
 ·exact wpAny_Name (wpAny_loadName_local I.ok.kind hk hn hm fin) hd
 ·rcases hk with hk | hk
  ·exact wpAny_Name (wpAny_loadName_cell I.ok.kind hk hc hcell fin) hd
  ·exact wpAny_Name (wpAny_loadName_free I.ok.kind hk hc hcell fin hcd) hd
theorem a0t{i j pos}:PE X (.Constant (.int i) j pos) (tC (.int i)):=fun _ _ _ H _ I h=>wpAny_Constant_int ⟨.int i,H,I.tok _,⟨_,rfl⟩,h⟩
theorem a5q{b j pos}:PE X (.Constant (.bool b) j pos) (tC (.bl b)):=fun _ _ _ H _ I h=>Constant_bool ⟨.bl b,H,I,rfl,h⟩
theorem a0q{j pos}:PE X (.Constant .none j pos) (tC .non):=fun _ _ _ H _ I h=>Constant_none ⟨.non,H,I,rfl,h⟩
theorem a0m{x j pos}:PE X (.Constant (.str x) j pos) (tC (.str x)):=fun _ _ _ H _ I h=>wG ⟨.str x,H,I.tok _,⟨_,rfl⟩,h⟩
def Gl(X:Cx)(x:Str):Prop:=X.env.kindOf x=some .globalImplicit
theorem aem{E:aG->aH->Prop}{jv:List (aY×Obj)}{s:aH}{σ:St}{H:Hp}{x:Str}{u:aG}{pos:Pos}{Q:aG->aH->Prop}(I:Inv X jv σ H s)(hg:Gl X x)(hm:X.mg x=some u)(h:Q u s)
  (hd:(x==("__debug__" : Str))=false:=by decide):bL (bY X.prog X.w) X.A (eval (.Name x pos) X.env) Q E s :=
 tM I.ok.kind hg (Calls.loadGlobal_global (by rw[I.ok.glob];exact I.mod.glob.keeps I.bk) hm h) hd
theorem ahb{E:aG->aH->Prop}{jv:List (aY×Obj)}{s:aH}{σ:St}{H:Hp}{x:Str}{u:aG}{pos:Pos}{Q:aG->aH->Prop}(I:Inv X jv σ H s)(hg:Gl X x)(hm:X.mg x=none)(hv:bT x=some u)(h:Q u s)
  (hn:x ≠ "__name__" := by decide) (hd:(x==("__debug__" : Str))=false:=by decide):bL (bY X.prog X.w) X.A (eval (.Name x pos) X.env) Q E s:=by
 obtain⟨mb,h1,h2⟩:=I.mod.blt;exact tM I.ok.kind hg (Calls.loadGlobal_builtin (by rw[I.ok.glob];exact I.mod.glob.keeps I.bk) hm (by rw[I.ok.blt];exact h1.keeps I.bk) ((h2 x hn).trans hv) h) hd
theorem axj{x:Str}{v:V}{u:aG}{pos:Pos}(hg:Gl X x)(hm:X.mg x=some u)(r:RelV v u)(hd:(x==("__debug__" : Str))=false:=by decide):PE X (.Name x pos) (tC v) :=
 fun _ _ _ H _ I h=>aem I hg hm ⟨v,H,I,r,h⟩ hd
theorem axn{x:Str}{v:V}{u:aG}{pos:Pos}(hg:Gl X x)(hm:X.mg x=none)(hv:bT x=some u)(r:RelV v u)(hn:x ≠ "__name__" := by decide)(hd:(x==("__debug__" : Str))=false:=by decide):PE X (.Name x pos) (tC v) :=
 fun _ _ _ H _ I h=>ahb I hg hm hv ⟨v,H,I,r,h⟩ hn hd
variable{a b:dZ}{ta tb:TE}{pos:Pos}
def tB(t:TE):TT:=fun σ H Q=>t σ H fun x H1=>∃c,x=.bl c/\Q c H1
theorem a0a{e:dZ}{t:TE}(h:PE X e t)(he:∀whole,isTrue e X.env whole=(do let v <-whole;standAt e.pos;oO [v] (truthy v)):=by intro _;rfl):PT X e (tB t):=by
 intro jv s σ H Q I hw;refine isTrue_plain (thn (h jv s σ H _ I hw) fun v s1 ⟨x,H1,I1,r1,q1⟩ =>?_) (he _)
 obtain⟨d,rfl,q⟩:=q1;cases r1;exact wpAny_truthy_bool ⟨H1,I1,q⟩
variable{tA tB':TT}{rest:List dZ}
def tAnd(t u:TT):TT:=fun σ H Q=>t σ H fun c H1=>if c=true then u σ H1 Q else Q false H1
def tOr(t u:TT):TT:=fun σ H Q=>t σ H fun c H1=>if c=true then Q true H1 else u σ H1 Q
def tNot(t:TT):TT:=fun σ H Q=>t σ H fun c H1=>Q (!c) H1
theorem aw1(ha:PT X a tA):PW X (.BoolOp .And [a] pos) tA:=by
 intro wh jv s σ H Q I h;refine isTrue_and (thn (ha jv s σ H Q I h) fun c s1 e =>?_)
 cases c with
 | true=>exact isTrue_and_nil e
 | false=>exact e
theorem az6(ha:PT X a tA):PW X (.BoolOp .Or [a] pos) tA:=by
 intro wh jv s σ H Q I h;refine isTrue_or (thn (ha jv s σ H Q I h) fun c s1 e =>?_)
 cases c with
 | false=>exact isTrue_or_nil e
 | true=>exact e
theorem az7(ha:PT X a tA)(hb:PW X (.BoolOp .And (b::rest) pos) tB'):PW X (.BoolOp .And (a::b::rest) pos) (tAnd tA tB'):=by
 intro wh jv s σ H Q I h;refine isTrue_and (thn (ha jv s σ H _ I h) fun c s1 ⟨H1,I1,q1⟩ =>?_)
 cases c with
 | true=>exact hb wh jv s1 σ H1 Q I1 q1
 | false=>exact⟨H1,I1,q1⟩
theorem a5h(ha:PT X a tA)(hb:PW X (.BoolOp .Or (b::rest) pos) tB'):PW X (.BoolOp .Or (a::b::rest) pos) (tOr tA tB'):=by
 intro wh jv s σ H Q I h;refine isTrue_or (thn (ha jv s σ H _ I h) fun c s1 ⟨H1,I1,q1⟩ =>?_)
 cases c with
 | true=>exact⟨H1,I1,q1⟩
 | false=>exact hb wh jv s1 σ H1 Q I1 q1
theorem a0b(ha:PT X a tA):PT X (.UnaryOp .Not a pos) (tNot tA):=by
 intro jv s σ H Q I h;exact isTrue_not (ha jv s σ H (fun c H1=>Q (!c) H1) I h)
def a5d(ta tb:TE):TE:=fun σ H Q=>ta σ H fun x H1=>∃c,x=.bl c/\if c=true then tb σ H1 Q else Q (.bl false) H1
def a4z(ta:TE):TE:=fun σ H Q=>ta σ H fun x H1=>∃c,x=.bl c/\Q (.bl (!c)) H1
theorem a0o{op}{t:TE}(h:PE X a t):PE X (.BoolOp op [a] pos) t:=fun jv s σ H Q I hw=>BoolOp_one (h jv s σ H Q I hw)
theorem a0v(ha:PE X a ta)(hb:PE X (.BoolOp .And (b::rest) pos) tb):PE X (.BoolOp .And (a::b::rest) pos) (a5d ta tb):=by
 intro jv s σ H Q I h;refine BoolOp_and (thn (ha jv s σ H _ I h) fun v s1 ⟨x,H1,I1,r1,q1⟩ =>?_)
 obtain⟨c,rfl,q1⟩:=q1;cases r1;refine wpAny_truthy_bool ?_;cases c with
 | true=>exact hb jv s1 σ H1 Q I1 q1
 | false=>exact⟨.bl false,H1,I1,rfl,q1⟩
theorem a0p(ha:PE X a ta):PE X (.UnaryOp .Not a pos) (a4z ta):=by
 intro jv s σ H Q I h;refine UnaryOp_ (thn (ha jv s σ H _ I h) fun v s1 ⟨x,H1,I1,r1,q1⟩ =>?_)
 obtain⟨c,rfl,q1⟩:=q1;cases r1;exact not_of (wpAny_truthy_bool ⟨.bl (!c),H1,I1,rfl,q1⟩)
end
def SqL(K:Fg9)(H:Hp)(a:aY)(xs:List V):Prop :=
 Rd H a (.lst xs) ∨
  ∃(o:Obj) (its:Array aG) (n:Nat),K.lookup a=some o/\o.cls=.type "list" /\ o.dict=none/\o.data=.seq its n/\its.size<=cL/\Vals xs its.toList
def SqT(K:Fg9)(H:Hp)(a:aY)(xs:List V):Prop :=
 Rd H a (.tup xs) ∨
  ∃(o:Obj) (its:Array aG) (n:Nat),K.lookup a=some o/\o.cls=.type "tuple" /\ o.data=.seq its n/\its.size<=cL/\Vals xs its.toList
def absV:aG->Option V
 | .none=>some .non
 | .bool b=>some (.bl b)
 | .int i _=>some (.int i)
 | .str x _=>some (.str x)
 | .bytes b _=>some (.byt b)
 | .float b _=>some (.flt b)
 | .ref a=>some (.ref a)
 | .type n=>some (.ty n)
 | _=>none
theorem RelV.abs{x:V}{u:aG}(r:RelV x u):absV u=some x:=by
 cases x with
 | non=>cases r;rfl
 | bl _=>cases r;rfl
 | int _=>obtain⟨t,rfl⟩:=r;rfl
 | str _=>obtain⟨t,rfl⟩:=r;rfl
 | byt _=>obtain⟨t,rfl⟩:=r;rfl
 | flt _=>obtain⟨t,rfl⟩:=r;rfl
 | ref _=>cases r;rfl
 | ty _=>cases r;rfl
theorem RelV.inj{x y:V}{u:aG}(r:RelV x u)(q:RelV y u):x=y:=bO (r.abs.symm.trans q.abs)
theorem Vals.inj:∀{xs ys:List V} {us:List aG},Vals xs us->Vals ys us->xs=ys
 | _,_,_,.nil,.nil=>rfl
 | _,_,_,.cons r t,.cons r' t'=>by rw[r.inj r',Vals.inj t t']
section
variable{X:Cx}{jv:List (aY×Obj)}{σ:St}{H:Hp}{s:aH}{a:aY}{xs ys:List V}
theorem SqL.of{K:Fg9}(h:H a=some (.lst xs)):SqL K H a xs:=.inl (.inl h)
theorem SqT.of{K:Fg9}(h:H a=some (.tup xs)):SqT K H a xs:=.inl (.inl h)
theorem Inv.list(I:Inv X jv σ H s)(h:SqL X.K H a xs):∃its:List aG,Vals xs its/\PlainL s.heap a its.toArray/\xs.length<=cL:=by
 rcases h with h | ⟨o,its,n,hk,hc,hd,hs,hz,r⟩
 ·obtain⟨z,its,n,r,e⟩:=h.ok I.hok;exact⟨its,r,⟨_,n,e,rfl,rfl,rfl⟩,z⟩
 ·refine⟨its.toList,r,⟨o,n,I.kIn a o hk,hc,hd,by simpa using hs⟩,?_⟩
  have e:=r.length;simp only[bF] at e;omega
theorem Inv.tuple(I:Inv X jv σ H s)(h:SqT X.K H a xs):∃its:List aG,Vals xs its/\vI s.heap a its.toArray/\xs.length<=cL:=by
 rcases h with h | ⟨o,its,n,hk,hc,hs,hz,r⟩
 ·obtain⟨z,its,r,p⟩:=h.ok I.hok;exact⟨its,r,p.tup,z⟩
 ·refine⟨its.toList,r,⟨o,I.kIn a o hk,hc,n,by simpa using hs⟩,?_⟩
  have e:=r.length;simp only[bF] at e;omega
theorem Inv.list_inj(I:Inv X jv σ H s)(h:SqL X.K H a xs)(h':SqL X.K H a ys):xs=ys:=by
 obtain⟨its,r,⟨o,n,e,_,_,d⟩,_⟩:=I.list h;obtain⟨its',r',⟨o',n',e',_,_,d'⟩,_⟩:=I.list h';rw[e] at e';cases e';rw[d] at d'
 injection d' with d1 _
 have:its=its':=by simpa using congrArg Array.toList d1
 subst this;exact r.inj r'
theorem Inv.tuple_inj(I:Inv X jv σ H s)(h:SqT X.K H a xs)(h':SqT X.K H a ys):xs=ys:=by
 obtain⟨its,r,⟨o,e,_,n,d⟩,_⟩:=I.tuple h;obtain⟨its',r',⟨o',e',_,n',d'⟩,_⟩:=I.tuple h';rw[e] at e';cases e';rw[d] at d'
 injection d' with d1 _
 have:its=its':=by simpa using congrArg Array.toList d1
 subst this;exact r.inj r'
end
abbrev Cx.wish(X:Cx)(E:aG->aH->Prop):Cx:={ X with xe:=E }
abbrev Cx.nox(X:Cx):Cx:=X.wish fun _ _=>False
theorem Cx.Ok.wish{X:Cx}(ok:X.Ok)(E:aG->aH->Prop):(X.wish E).Ok :=
 ⟨ok.mod,ok.kind,ok.glob,ok.blt,ok.above,ok.inj,ok.has,ok.cab,ok.hd,ok.frames,ok.stk,ok.exf,ok.bs,ok.bsz,ok.noex,ok.exfs,ok.funs,ok.frf⟩
theorem Cx.Ok.unwish{X:Cx}{E:aG->aH->Prop}(ok:(X.wish E).Ok):X.Ok :=
 ⟨ok.mod,ok.kind,ok.glob,ok.blt,ok.above,ok.inj,ok.has,ok.cab,ok.hd,ok.frames,ok.stk,ok.exf,ok.bs,ok.bsz,ok.noex,ok.exfs,ok.funs,ok.frf⟩
section
variable{X:Cx}{jv:List (aY×Obj)}{σ:St}{H:Hp}{s:aH}{E:aG->aH->Prop}
theorem Inv.wish(I:Inv X jv σ H s)(E:aG->aH->Prop):Inv (X.wish E) jv σ H s:=⟨I.ok.wish E,I.os,I.bare,I.base,I.loc,I.cell,I.free,I.freeC,I.pin,I.hok,I.len⟩
theorem Inv.unwish(I:Inv (X.wish E) jv σ H s):Inv X jv σ H s:=⟨I.ok.unwish,I.os,I.bare,I.base,I.loc,I.cell,I.free,I.freeC,I.pin,I.hok,I.len⟩
theorem SP.unwish{D:Ends}{f:Flow}{s':aH}(h:SP (X.wish E) jv D f s'):SP X jv D f s':=by
 cases f with
 | next=>obtain⟨σ',H',I,q⟩:=h;exact⟨σ',H',I.unwish,q⟩
 | brk=>obtain⟨σ',H',I,q⟩:=h;exact⟨σ',H',I.unwish,q⟩
 | cont=>obtain⟨σ',H',I,q⟩:=h;exact⟨σ',H',I.unwish,q⟩
 | ret u=>obtain⟨v,σ',H',I,r,q⟩:=h;exact⟨v,σ',H',I.unwish,r,q⟩
theorem PSs.nox{st:List iY}{t:TS}(h:PSs X.nox st t):PSs X st t:=fun jv s σ H D I hw =>
 bC (h jv s σ H D (I.wish _) hw) (fun _ _ q=>q.unwish) fun _ _ z=>fK z
end
section
variable{X:Cx}{st:iY}{rest:List iY}{t u:TS}{e:dZ}{te:TE}{pos:Pos}
def a5a:TS:=fun D σ H=>D.nx σ H
def tSeq(t u:TS):TS:=fun D σ H=>t { D with nx:=u D } σ H
theorem aw6:PSs X [] a5a:=fun _ _ σ H _ I h=>wpAny_execs_nil ⟨σ,H,I,h⟩
theorem ams(h1:PS X st t)(h2:PSs X rest u):PSs X (st::rest) (tSeq t u):=by
 intro jv s σ H D I h;refine wpAny_execs_cons (thn (h1 jv s σ H { D with nx:=u D } I h) fun f s1 q =>?_)
 cases f with
 | next =>
  obtain⟨σ',H',I',q⟩:=q;exact h2 jv s1 σ' H' D I' q
 | ret v=>exact q
 | brk=>exact q
 | cont=>exact q
theorem aw5(h1:PS X st t):PSs X [st] t:=by
 intro jv s σ H D I h;refine wpAny_execs_cons (thn (h1 jv s σ H D I h) fun f s1 q =>?_)
 cases f with
 | next=>exact wpAny_execs_nil q
 | ret v=>exact q
 | brk=>exact q
 | cont=>exact q
theorem Inv.quiet{jv:List (aY×Obj)}{σ:St}{H:Hp}{s:aH}(I:Inv X jv σ H s):interactive X.env=false:=by simp[interactive,I.ok.kind]
def a5b(te:TE):TS:=fun D σ H=>te σ H fun _ H1=>D.nx σ H1
theorem aw7(he:PE X e te)(hs:nQ e none pos.line X.env=pure false:=by rfl):PS X (.Expr e pos) (a5b te):=by
 intro jv s σ H D I h;exact wpAny_Expr_any (thn (he jv s σ H _ I h) fun v s1 ⟨x,H1,I1,r1,q1⟩=>⟨σ,H1,I1,q1⟩) I.quiet hs
def tRet(te:TE):TS:=fun D σ H=>te σ H D.rt
theorem a0e(he:PE X e te):PS X (.Return (some e) pos) (tRet te):=by
 intro jv s σ H D I h;exact wpAny_Return_some (thn (he jv s σ H _ I h) fun v s1 ⟨x,H1,I1,r1,q1⟩=>⟨x,σ,H1,I1,r1,q1⟩)
def tIfS(c:TT)(t u:TS):TS:=fun D σ H=>c σ H fun b H1=>if b=true then t D σ H1 else u D σ H1
theorem a5k{c:dZ}{a b:List iY}{tc:TT}(hc:PT X c tc)(ha:PSs X a t)(hb:PSs X b u):PS X (.If c a b pos) (tIfS tc t u):=by
 intro jv s σ H D I h;refine wpAny_If (thn (hc jv s σ H _ I h) fun d s1 ⟨H1,I1,q1⟩ =>?_)
 cases d with
 | true=>exact ha jv s1 σ H1 D I1 q1
 | false=>exact hb jv s1 σ H1 D I1 q1
def azs:TS:=fun _ _ _=>False
theorem atj:PS X st azs:=fun _ _ _ _ _ _ h=>h.elim
end
abbrev TG:=V->St->Hp->(St->Hp->Prop)->Prop
abbrev TGs:=List V->St->Hp->(St->Hp->Prop)->Prop
def PG(X:Cx)(target:dZ)(t:TG):Prop :=
 ∀(jv:List (aY×Obj)) (s:aH) (σ:St) (H:Hp) (v:V) (u:aG) (Q:St->Hp->Prop),Inv X jv σ H s->RelV v u->t v σ H Q ->
  bL (bY X.prog X.w) X.A (qK target X.env u) (fun _ s'=>∃σ' H',Inv X jv σ' H' s'/\Q σ' H') X.xe s
def PGs(X:Cx)(ts:List dZ)(t:TGs):Prop :=
 ∀(jv:List (aY×Obj)) (s:aH) (σ:St) (H:Hp) (vs:List V) (us:List aG) (Q:St->Hp->Prop),Inv X jv σ H s->Vals vs us->t vs σ H Q ->
  bL (bY X.prog X.w) X.A (assignInOrder ((jF ts X.env).map (·.2)) us) (fun _ s'=>∃σ' H',Inv X jv σ' H' s'/\Q σ' H') X.xe s
abbrev TSet:=V->V->V->Hp->(Hp->Prop)->Prop
def PSet(X:Cx)(t:TSet):Prop :=
 ∀(jv:List (aY×Obj)) (s:aH) (σ:St) (H:Hp) (o i v:V) (ov iv u:aG) (Q:Hp->Prop),Inv X jv σ H s->RelV o ov->RelV i iv->RelV v u->t o i v H Q ->
  bL (bY X.prog X.w) X.A (setItem ov iv u) (fun _ s'=>∃H',Inv X jv σ H' s'/\Q H') X.xe s
abbrev TIp:=V->V->Hp->VK->Prop
def PIp(X:Cx)(op:Operator)(t:TIp):Prop :=
 ∀(jv:List (aY×Obj)) (s:aH) (σ:St) (H:Hp) (x y:V) (v u:aG) (Q:VK),Inv X jv σ H s->RelV x v->RelV y u->t x y H Q ->
  bL (bY X.prog X.w) X.A (inplaceOp op v u) (EP X jv σ Q) X.xe s
section
variable{X:Cx}{pos:Pos}
def aye(i:Nat):TG:=fun v σ H Q=>Q (σ.set i (some v)) H
theorem axh{i:Nat}{x:Str}(hN:X.N.Nodup)(hi:X.N[i]? = some x)(hx:Loc X.env.scope x)(hf:X.fn x=true∨X.env.scope.names.lookup x=some .local:=by first | exact .inl rfl | exact .inr rfl | assumption):PG X (.Name x pos) (aye i):=by
 intro jv s σ H v u Q I r h;exact wpAny_assign_Name (adg I hN hi hx r (fun s' I'=>⟨_,H,I',h⟩) hf)
def gNil:TGs:=fun vs σ H Q=>vs=[]/\Q σ H
def a65(t:TG)(u:TGs):TGs:=fun vs σ H Q=>∃v r,vs=v::r/\t v σ H fun σ' H'=>u r σ' H' Q
theorem axg:PGs X [] gNil:=by
 intro jv s σ H vs us Q I r h;obtain⟨e,h⟩:=h;subst e;cases r;exact assignInOrder_nil ⟨σ,H,I,h⟩
theorem atn{e:dZ}{es:List dZ}{t:TG}{u:TGs}(h1:PG X e t)(h2:PGs X es u)
  (hs:(jF (e::es) X.env).map (·.2)=qK e X.env::(jF es X.env).map (·.2):=by rfl):PGs X (e::es) (a65 t u):=by
 intro jv s σ H vs us Q I r h;obtain⟨v,vr,e1,h⟩:=h;subst e1;cases r with
 | cons r rr =>
  rw[hs];refine assignInOrder_cons (thn (h1 jv s σ H _ _ _ I r h) fun _ s1 ⟨σ1,H1,I1,q1⟩ =>?_)
  exact h2 jv s1 σ1 H1 _ _ Q I1 rr q1
def gTup(K:Fg9)(n:Nat)(t:TGs):TG:=fun v σ H Q=>∃a xs,v=.ref a/\SqT K H a xs/\xs.length=n/\t xs σ H Q
theorem a0i{es:List dZ}{k:Nat}{t:TGs}{n:Nat}(hc:X.calm=true)(h:PGs X es t)
  (hn:(jF es X.env).length=n:=by rfl) (hst:(jF es X.env).findIdx? (·.1)=none:=by rfl):PG X (.Tuple es k pos) (gTup X.K n t):=by
 intro jv s σ H v u Q I r hw;obtain⟨a,xs,e1,hq,hl,hw⟩:=hw;subst e1;cases r;obtain⟨its,rv,ht,hz⟩:=I.tuple hq;refine assign_Tuple_tuple (I.ok.hd hc) ht (by simp[hn,<-hl,rv.length]) hst fun h' hx =>?_
 have I1:Inv X jv σ H { s with heap:=h' }:=I.kept (t':=s.toks) fun b o e=>hx b o (bG (aQ e)) e
 exact h jv _ σ H xs _ Q I1 (by simpa using rv) hw
def gSub(to ti:TE)(t:TSet):TG:=fun v σ H Q=>to σ H fun o H1=>ti σ H1 fun i H2=>t o i v H2 fun H3=>Q σ H3
theorem a0j{o i:dZ}{to ti:TE}{t:TSet}(ho:PE X o to)(hi:PE X i ti)(hs:PSet X t)
  (ha:∀v,qK (.Subscript o i pos) X.env v=(do
   let ov <-oO [v] (eval o X.env)
   let iv <-oO [v,ov] (eval i X.env)
   standAt pos
   oO [v,ov,iv] (setItem ov iv v)
   release [v,ov,iv] []):=by intro _;rfl):PG X (.Subscript o i pos) (gSub to ti t):=by
 intro jv s σ H v u Q I r h;rw[ha];refine aA (cU (thn (ho jv s σ H _ I h) fun ov s1 ⟨x,H1,I1,r1,q1⟩ =>?_))
 refine aA (cU (thn (hi jv s1 σ H1 _ I1 q1) fun iv s2 ⟨y,H2,I2,r2,q2⟩ =>?_))
 refine aA (wpAny_standAt (aA (cU (thn (hs jv s2 σ H2 x y v ov iv u _ I2 r1 r2 r q2) fun _ s3 ⟨H3,I3,q3⟩ =>?_))))
 exact wpAny_release ⟨σ,H3,I3,q3⟩
def tAsg(te:TE)(g:TG):TS:=fun D σ H=>te σ H fun x H1=>g x σ H1 D.nx
theorem avt{tg e:dZ}{te:TE}{g:TG}(he:PE X e te)(hg:PG X tg g)(hs:swapsWithSole [tg] e pos.line X.env=pure false:=by rfl)(hw:swappedStores [tg] e X.env=pure none:=by rfl)
  (h1:(jF [tg] X.env).map (·.2)=[qK tg X.env]:=by rfl):PS X (.Assign [tg] e pos) (tAsg te g):=by
 intro jv s σ H D I h;refine wpAny_Assign_stores (thn (he jv s σ H _ I h) fun v s1 ⟨x,H1,I1,r1,q1⟩ =>?_) hs hw
 rw[h1];exact thn (hg jv s1 σ H1 x v _ I1 r1 q1) fun _ s2 q=>q
theorem a0d{i:Nat}{x:Str}{e:dZ}{te:TE}{pos':Pos}(hN:X.N.Nodup)(hi:X.N[i]? = some x)(hx:Loc X.env.scope x)(he:PE X e te)(hs:nQ e (some (.Name x pos')) pos.line X.env=pure false:=by rfl)(hf:X.fn x=true∨X.env.scope.names.lookup x=some .local:=by first | exact .inl rfl | exact .inr rfl | assumption) :
  PS X (.Assign [.Name x pos'] e pos) (tAsg te (aye i)):=by
 intro jv s σ H D I h;refine wpAny_Assign_Name (thn (he jv s σ H _ I h) fun v s1 ⟨y,H1,I1,r1,q1⟩ =>?_) hs
 exact adg I1 hN hi hx r1 (fun s2 I2=>⟨_,H1,I2,q1⟩) hf
def tAug(i:Nat)(te:TE)(ti:TIp):TS:=fun D σ H=>∃x,σ[i]? = some (some x)/\te σ H fun y H1=>ti x y H1 fun z H2=>D.nx (σ.set i (some z)) H2
theorem a0g{i:Nat}{x:Str}{e:dZ}{te:TE}{op:Operator}{ti:TIp}{pos':Pos}(hN:X.N.Nodup)(hi:X.N[i]? = some x)(hx:Loc X.env.scope x)(he:PE X e te)(ho:PIp X op ti)(hf:X.fn x=true∨X.env.scope.names.lookup x=some .local:=by first | exact .inl rfl | exact .inr rfl | assumption) :
  PS X (.AugAssign (.Name x pos') op e pos) (tAug i te ti):=by
 intro jv s σ H D I h;obtain⟨v,e1,h⟩:=h;obtain⟨m,hn,hl⟩:=I.loc;have vis:Vis X.env.scope x:=by rcases hx with k | k;exact .inl k;exact .inr (.inl k)
 obtain⟨u,r,l⟩:=hl i x v hi e1 vis;refine wpAny_AugAssign_Name ?_;have go:bL (bY X.prog X.w) X.A (eval e X.env) (fun w s₂=>bL (bY X.prog X.w) X.A (inplaceOp op u w) (fun r s₃=>bL (bY X.prog X.w) X.A (storeName X.env x r) (fun _=>SP X jv D .next) X.xe s₃) X.xe s₂) X.xe s:=by
  refine thn (he jv s σ H _ I h) fun w s1 ⟨y,H1,I1,r1,q1⟩ =>?_
  refine thn (ho jv s1 σ H1 v y u w _ I1 r r1 q1) fun z s2 ⟨zv,H2,I2,r2,q2⟩ =>?_
  exact adg I2 hN hi hx r2 (fun s3 I3=>⟨_,H2,I3,q2⟩) hf
 rcases l with⟨hk,hm⟩ | ⟨hk,c,hc,hcell⟩
 ·exact wpAny_loadName_local I.ok.kind hk hn hm go
 ·rcases hk with hk | hk
  ·exact wpAny_loadName_cell I.ok.kind hk hc hcell go
  ·rcases hx with k | k
   ·have:X.env.scope.names.lookup x=some .free:=hk;rw[k] at this;cases this
   ·have:X.env.scope.names.lookup x=some .free:=hk;rw[k] at this;cases this
def ipI(f:Int->Int->Int):TIp:=fun x y H Q=>∃i j,x=.int i/\y=.int j/\Q (.int (f i j)) H
theorem a2d:PIp X .Add (ipI fun i j=>i+j):=by
 intro jv s σ H x y v u Q I r1 r2 h;obtain⟨i,j,e1,e2,q⟩:=h;subst e1;subst e2;obtain⟨t,rfl⟩:=r1;obtain⟨t',rfl⟩:=r2;exact iadd_int ⟨.int _,H,I.tok _,⟨_,rfl⟩,q⟩
end
section
variable{X:Cx}{pos:Pos}
def azr(c:TT)(tb:TS):TS:=fun D σ H=>∃W:Nat->St->Hp->Prop,(∃m,W m σ H)/\∀m σ H,W m σ H ->
 c σ H fun b H1=>if b=true then ∃N:St->Hp->Prop,(∀σ' H',N σ' H'->∃m',m' < m/\W m' σ' H')/\tb { D with nx:=N,ct:=N,bk:=D.nx } σ H1 else D.nx σ H1
theorem ati{c:dZ}{body:List iY}{tc:TT}{tb:TS}(hp:uY (bY X.prog X.w) X.A X.env X.xe)(hc:PT X c tc)(hb:PSs X body tb):PS X (.While c body [] pos) (azr tc tb):=by
 intro jv s σ H D I h;obtain⟨W,⟨m0,w0⟩,turn⟩:=h;refine wpAny_While (codeAny_whileLoop (fun n s'=>∃σ' H',Inv X jv σ' H' s'/\W n σ' H') ?_ m0 ⟨σ,H,I,w0⟩)
 rintro n s1 ⟨σ1,H1,I1,w1⟩
 refine wpAny_passesOwn hp (thn (hc jv s1 σ1 H1 _ I1 (turn n σ1 H1 w1)) fun b s2 ⟨H2,I2,q2⟩ =>?_)
 cases b with
 | true =>
  obtain⟨N,hN,q2⟩:=q2;rw[if_pos rfl];refine wpAny_passesOwn hp (thn (hb jv s2 σ1 H2 _ I2 q2) fun f s3 q3 =>?_)
  cases f with
  | next =>
   obtain⟨σ3,H3,I3,n3⟩:=q3;obtain⟨m',hm,w3⟩:=hN σ3 H3 n3;exact⟨m',hm,σ3,H3,I3,w3⟩
  | cont =>
   obtain⟨σ3,H3,I3,n3⟩:=q3;obtain⟨m',hm,w3⟩:=hN σ3 H3 n3;exact⟨m',hm,σ3,H3,I3,w3⟩
  | brk=>exact q3
  | ret v=>exact q3
 | false =>
  rw[if_neg dI];exact wpAny_execs_nil ⟨σ1,H2,I2,q2⟩
end
structure It where
 go:Nat->Hp->Prop
 yld:Nat->Hp->V->Hp->Prop
 stop:Nat->Hp->Prop
def FpOk(X:Cx)(jv:List (aY×Obj))(H:Hp)(b:aY):Prop :=
 H b=none/\b≠X.env.locals/\b∉X.fs/\(b∈X.ex∨X.s₀.heap.objs.size<=b)/\(∀x c,X.env.cells.lookup x=some c->c≠b)/\∀p∈X.pn++jv,p.1≠b
theorem Inv.fpOk{X:Cx}{jv:List (aY×Obj)}{σ:St}{H H':Hp}{s:aH}{b:aY}(I:Inv X jv σ H s)(hb:s.heap.objs.size<=b)(hn:H' b=none):FpOk X jv H' b:=by
 refine⟨hn,jQ (bM I.lt hb),I.nofs hb,.inr (cM I.sz hb),fun x c e z =>?_,fun p hp z =>?_⟩
 ·obtain⟨v,q⟩:=I.cell x c e;exact absurd (bM q.lt (by rw[z];exact hb)) (jV _)
 ·exact absurd (bM (aQ (I.pin p hp).1) (by rw[z];exact hb)) (jV _)
structure Turn (P:bV) (w:dO) (K:Fg9) (tg:dZ) (J:It) (fp:List aY) (it:aY) (tn:Nat->fD->Prop):Prop where
 mem:it∈fp
 obj:∀i h,tn i h->∀b∈fp,∃o,h.get? b=some o/\∀v,o.data≠.cell v
 keep:∀i h h',tn i h->(∀b∈fp,∀o,h.get? b=some o->h'.get? b=some o)->tn i h'
 item:∀(X:Cx),X.prog=P->X.w=w->X.K=K->X.calm=true->∀(i:Nat) (jv:List (aY×Obj)) (s:aH) (σ:St) (H:Hp) (E:aG->aH->Prop),Inv X jv σ H s->(∀b∈fp,FpOk X jv H b)->tn i s.heap->J.go i H ->
  bL (bY P w) X.A (pyNext (.ref it)) (fun r s1=>∃u,r=some u /\
   bL (bY P w) X.A (letOwnedTupleGo tg (.ref it) u) (fun _ s2=>∃x H',Inv X jv σ H' s2/\RelV x u/\J.yld i H x H'/\tn (i+1) s2.heap/\∀b∈fp,H' b=none) E s1) E s
 done:∀(X:Cx),X.prog=P->X.w=w->X.K=K->X.calm=true->∀(i:Nat) (jv:List (aY×Obj)) (s:aH) (σ:St) (H:Hp) (E:aG->aH->Prop),Inv X jv σ H s->(∀b∈fp,FpOk X jv H b)->tn i s.heap->J.stop i H ->
  bL (bY P w) X.A (pyNext (.ref it)) (fun r s1=>r=none/\Inv X jv σ H s1) E s
 self:∀(A:dB) (i:Nat) (s:aH) (Q:aG->aH->Prop) (E:aG->aH->Prop),tn i s.heap->Q (.ref it) s->bL (bY P w) A (pyIter (.ref it)) Q E s
abbrev TI:=St->Hp->(It->Hp->Prop)->Prop
def PIE(X:Cx)(jv:List (aY×Obj))(σ:St)(tg:dZ)(R:It->Hp->Prop)(itv:aG)(s2:aH):Prop :=
 ∃(it:aY) (fp:List aY) (tn:Nat->fD->Prop) (J:It) (H':Hp),itv=.ref it/\Inv X jv σ H' s2/\Turn X.prog X.w X.K tg J fp it tn/\tn 0 s2.heap/\(∀b∈fp,FpOk X jv H' b)/\R J H'
def PI(X:Cx)(tg iter:dZ)(wi:TI):Prop :=
 ∀(jv:List (aY×Obj)) (s:aH) (σ:St) (H:Hp) (R:It->Hp->Prop),Inv X jv σ H s->wi σ H R ->
  bL (bY X.prog X.w) X.A (eval iter X.env) (fun v s1=>bL (bY X.prog X.w) X.A (pyIter v) (PIE X jv σ tg R) X.xe s1) X.xe s
theorem ayb{M:wO}{A:dB}{E:aG->aH->Prop}{s:aH}{tg:dZ}{it:aY}{u:aG}{o:Obj}{n:String}{vs:Array aG}{Q:Unit->aH->Prop}(ho:s.heap.get? it=some o)(hc:o.cls=.type n)(hd:o.data=.fields vs)
  (hn:["enumerate","zip","dict_itemiterator","dict_reverseitemiterator","odict_iterator","itertools.zip_longest","itertools.pairwise"].contains n=false) (hQ:Q () s):bL M A (letOwnedTupleGo tg (.ref it) u) Q E s:=by
 unfold letOwnedTupleGo;cases tg <;> first
  | exact aJ hQ
  | (cases u <;> first
    | exact aJ hQ
    | (refine aA (wpAny_load ho ?_)
       rw[hc,hd];show bL M A (if (["enumerate","zip","dict_itemiterator","dict_reverseitemiterator","odict_iterator","itertools.zip_longest","itertools.pairwise"].contains n&&vs[0]? == some (mU _))=true then _ else _) Q E s
       rw[if_neg (by intro h;rw[hn,qO] at h;cases h)]
       exact aJ hQ))
def Itl(K:Fg9)(a:aY):It :=
 ⟨fun i H=>∃xs x,SqL K H a xs/\xs[i]? = some x,fun i H x H'=>H'=H/\∀xs,SqL K H a xs->xs[i]? = some x,fun i H=>∃xs,SqL K H a xs/\xs.length<=i⟩
def Itt(K:Fg9)(a:aY):It :=
 ⟨fun i H=>∃xs x,SqT K H a xs/\xs[i]? = some x,fun i H x H'=>H'=H/\∀xs,SqT K H a xs->xs[i]? = some x,fun i H=>∃xs,SqT K H a xs/\xs.length<=i⟩
def Itr(lo:Int)(n:Nat):It:=⟨fun i _=>i < n,fun i H x H'=>H'=H/\x=.int (lo+i),fun i _=>n<=i⟩
theorem apc{P:bV}{w:dO}{K:Fg9}{tg:dZ}(a it:aY):Turn P w K tg (Itl K a) [it] it (fun i h=>h.IsListIter it a i) where
 mem:=by simp
 obj:=fun i h st b hb=>by
  have e:b=it:=by simpa using hb
  subst e;obtain⟨o,e,c,d⟩:=st;exact⟨o,e,fun v z=>by rw[d] at z;cases z⟩
 keep:=fun i h h' st k=>st.at fun o e=>k it (by simp) o e
 item:=by
  intro X hP hw hK hc i jv s σ H E I hf st hg;subst hP hw hK;obtain⟨xs,x,hq,hx⟩:=hg;obtain⟨its,rv,p,hz⟩:=I.list hq;obtain⟨u,hu,ru⟩:=rv.get hx;obtain⟨f0,f1,f2,f3,f4,f5⟩:=hf it (by simp)
  refine wpAny_pyNext_list_item st p.isList (x:=u) (by simpa using hu) fun h' st' sb =>?_
  have I1:Inv X jv σ H { s with heap:=h' }:=I.turned (t':=s.toks) (fun b o hb e=>(sb.2 b hb).trans e) f0 f1 f3 f4 f5
  obtain⟨o,e,c,d⟩:=id st';exact⟨u,rfl,ayb (s:={ s with heap:=h' }) e c d (by decide) ⟨x,H,I1,ru,⟨rfl,fun ys hy=>by rw[I.list_inj hy hq];exact hx⟩,st',fun b hb=>(hf b hb).1⟩⟩
 done:=by
  intro X hP hw hK hc i jv s σ H E I hf st hg;subst hP hw hK;obtain⟨xs,hq,hx⟩:=hg;obtain⟨its,rv,p,hz⟩:=I.list hq;obtain⟨f0,f1,f2,f3,f4,f5⟩:=hf it (by simp)
  have hl:=rv.length;exact wpAny_pyNext_list_end (I.ok.hd hc) st p.isList (by simp;omega) fun h' eb=>⟨rfl,I.turned (t':=s.toks) (fun b o hb e=>eb b o hb e) f0 f1 f3 f4 f5⟩
 self:=fun _ _ _ _ _ st h=>wpAny_pyIter_listiter st h
theorem an1{P:bV}{w:dO}{K:Fg9}{tg:dZ}(a it:aY):Turn P w K tg (Itt K a) [it] it (fun i h=>h.IsTupleIter it a i) where
 mem:=by simp
 obj:=fun i h st b hb=>by
  have e:b=it:=by simpa using hb
  subst e;obtain⟨o,e,c,d⟩:=st;exact⟨o,e,fun v z=>by rw[d] at z;cases z⟩
 keep:=fun i h h' st k=>st.at fun o e=>k it (by simp) o e
 item:=by
  intro X hP hw hK hc i jv s σ H E I hf st hg;subst hP hw hK;obtain⟨xs,x,hq,hx⟩:=hg;obtain⟨its,rv,p,hz⟩:=I.tuple hq;obtain⟨u,hu,ru⟩:=rv.get hx;obtain⟨f0,f1,f2,f3,f4,f5⟩:=hf it (by simp)
  refine wpAny_pyNext_tuple_item st (show s.heap.IsTuple a its.toArray from p) (x:=u) (by simpa using hu) fun h' st' sb =>?_
  have I1:Inv X jv σ H { s with heap:=h' }:=I.turned (t':=s.toks) (fun b o hb e=>(sb.2 b hb).trans e) f0 f1 f3 f4 f5
  obtain⟨o,e,c,d⟩:=id st';exact⟨u,rfl,ayb (s:={ s with heap:=h' }) e c d (by decide) ⟨x,H,I1,ru,⟨rfl,fun ys hy=>by rw[I.tuple_inj hy hq];exact hx⟩,st',fun b hb=>(hf b hb).1⟩⟩
 done:=by
  intro X hP hw hK hc i jv s σ H E I hf st hg;subst hP hw hK;obtain⟨xs,hq,hx⟩:=hg;obtain⟨its,rv,p,hz⟩:=I.tuple hq;obtain⟨f0,f1,f2,f3,f4,f5⟩:=hf it (by simp)
  have hl:=rv.length;exact wpAny_pyNext_tuple_end (I.ok.hd hc) st (show s.heap.IsTuple a its.toArray from p) (by simp;omega) fun h' eb=>⟨rfl,I.turned (t':=s.toks) (fun b o hb e=>eb b o hb e) f0 f1 f3 f4 f5⟩
 self:=fun _ _ _ _ _ st h=>wpAny_pyIter_tupleiter st h
theorem an2{P:bV}{w:dO}{K:Fg9}{tg:dZ}(it:aY)(lo:Int)(n:Nat):Turn P w K tg (Itr lo n) [it] it (fun i h=>IsRangeIter h it (lo+(i:Nat)*1) ((n:Int) - (i:Nat)) 1) where
 mem:=by simp
 obj:=fun i h st b hb=>by
  have e:b=it:=by simpa using hb
  subst e;exact⟨_,st,fun v z=>by
   have z':Data.fields _=Data.cell v:=z;cases z'⟩
 keep:=fun i h h' st k=>k it (by simp) _ st
 item:=by
  intro X hP hw hK hc i jv s σ H E I hf st hg;subst hP hw hK;obtain⟨f0,f1,f2,f3,f4,f5⟩:=hf it (by simp)
  have W:=Walks.range (prog:=X.prog) (w:=X.w) (I.ok.hd hc) it lo 1 n;refine W.item i s _ _ hg st fun v h' tk hv st' kk =>?_
  obtain⟨t,rfl⟩:=hv;have I1:Inv X jv σ H { s with heap:=h',toks:=tk }:=I.turned (fun b o hb e=>kk b o (by simpa using hb) e) f0 f1 f3 f4 f5
  refine⟨_,rfl,ayb (s:={ s with heap:=h',toks:=tk }) (n := "range_iterator") st' rfl rfl (by decide) ⟨.int (lo+i),H,I1,⟨t,?_⟩,⟨rfl,rfl⟩,st',fun b hb=>(hf b hb).1⟩⟩
  rw[Int.mul_one]
 done:=by
  intro X hP hw hK hc i jv s σ H E I hf st hg;subst hP hw hK;obtain⟨f0,f1,f2,f3,f4,f5⟩:=hf it (by simp)
  exact wpAny_pyNext_range_end (I.ok.hd hc) st (by have:n<=i:=hg;omega) fun h' eb=>⟨rfl,I.turned (t':=s.toks) (fun b o hb e=>eb b o hb e) f0 f1 f3 f4 f5⟩
 self:=fun _ _ _ _ _ st h=>wpAny_pyIter_rangeiter st h
section
variable{X:Cx}{tg:dZ}
def a6o(K:Fg9)(tl:TE):TI:=fun σ H R=>tl σ H fun x H1=>∃a,x=.ref a/\(∃xs,SqL K H1 a xs)/\R (Itl K a) H1
def iTup(K:Fg9)(tl:TE):TI:=fun σ H R=>tl σ H fun x H1=>∃a,x=.ref a/\(∃xs,SqT K H1 a xs)/\R (Itt K a) H1
theorem ap8{l:dZ}{tl:TE}(hl:PE X l tl):PI X tg l (a6o X.K tl):=by
 intro jv s σ H R I h;refine thn (hl jv s σ H _ I h) fun v s1 ⟨x,H1,I1,r1,q1⟩ =>?_
 obtain⟨a,e,⟨xs,hq⟩,q⟩:=q1;subst e;cases r1;obtain⟨its,rv,p,hz⟩:=I1.list hq;refine wpAny_pyIter_list p.isList ?_;refine⟨s1.heap.objs.size,[s1.heap.objs.size],_,_,H1,rfl,I1.kept (t':=s1.toks) fun b o e=>aB _ e,apc a _,⟨_,aU _ rfl,rfl,rfl⟩,fun b hb =>?_,q⟩
 have e:b=s1.heap.objs.size:=by simpa using hb
 subst e;exact I1.fpOk (aO _) (I1.hok.fresh (aO _))
theorem a0h{l:dZ}{tl:TE}(hl:PE X l tl):PI X tg l (iTup X.K tl):=by
 intro jv s σ H R I h;refine thn (hl jv s σ H _ I h) fun v s1 ⟨x,H1,I1,r1,q1⟩ =>?_
 obtain⟨a,e,⟨xs,hq⟩,q⟩:=q1;subst e;cases r1;obtain⟨its,rv,p,hz⟩:=I1.tuple hq;refine wpAny_pyIter_tuple (show s1.heap.IsTuple a its.toArray from p) ?_
 refine⟨s1.heap.objs.size,[s1.heap.objs.size],_,_,H1,rfl,I1.kept (t':=s1.toks) fun b o e=>aB _ e,an1 a _,⟨_,aU _ rfl,rfl,rfl⟩,fun b hb =>?_,q⟩
 have e:b=s1.heap.objs.size:=by simpa using hb
 subst e;exact I1.fpOk (aO _) (I1.hok.fresh (aO _))
theorem atg{jv:List (aY×Obj)}{σ:St}{H:Hp}{s:aH}{R:It->Hp->Prop}{E:aG->aH->Prop}{lo hi:Int}{t u v:Tok}{tk:Nat}(I:Inv X jv σ H s)(h1 : -(2 ^ 62)<=lo)(h2:lo < 2 ^ 62)(h3 : -(2 ^ 62)<=hi)(h4:hi < 2 ^ 62)
  (q:R (Itr lo (hi - lo).toNat) H):bL (bY X.prog X.w) X.A (pyIter (.ref s.heap.objs.size)) (PIE X jv σ tg R) E { s with heap:=s.heap.push { cls:=.type "range", data:=.fields #[.int lo t,.int hi u,.int 1 v] },toks:=tk }:=by
 refine wpAny_pyIter_range (IsRange.new ..) (small_one h1 h2 h3 h4) ?_;have I1:Inv X jv σ H { s with heap:=s.heap.push { cls:=.type "range", data:=.fields #[.int lo t,.int hi u,.int 1 v] },toks:=tk }:=I.kept fun b o e=>aB _ e
 refine⟨(s.heap.push { cls:=.type "range", data:=.fields #[.int lo t,.int hi u,.int 1 v] }).objs.size,[(s.heap.push { cls:=.type "range", data:=.fields #[.int lo t,.int hi u,.int 1 v] }).objs.size],_,_,H,rfl,
  I1.kept (t':=tk) fun b o e=>aB _ e,an2 _ lo (hi - lo).toNat,?_,fun b hb =>?_,q⟩
 ·have e1:lo+((0:Nat):Int)*1=lo:=by simp
  have e2:(((hi - lo).toNat:Nat):Int) - ((0:Nat):Int)=Builtin.Range.rangeSize lo hi 1:=by rw[rangeSize_one];split <;> omega
  show IsRangeIter _ _ (lo+((0:Nat):Int)*1) ((((hi - lo).toNat:Nat):Int) - ((0:Nat):Int)) 1;rw[e1,e2];exact aU _ rfl
 ·have e:b=(s.heap.push { cls:=.type "range", data:=.fields #[.int lo t,.int hi u,.int 1 v] }).objs.size:=by simpa using hb
  subst e;exact I1.fpOk (aO _) (I1.hok.fresh (aO _))
def a6n(ta:TA):TI:=fun σ H R=>ta σ H fun vs H1=>∃j:Int,vs=[.int j] /\ -(2 ^ 62)<=j/\j < 2 ^ 62/\R (Itr 0 j.toNat) H1
theorem ap7{a:dZ}{ta:TA}{p pos:Pos}(hg:Gl X "range")(hm:X.mg "range" = none)(ha:PA X [a] ta)(hs:aX [a] X.env=[(false,eval a X.env)]:=by rfl):PI X tg (.Call (.Name "range" p) [a] [] pos) (a6n ta):=by
 intro jv s σ H R I h;refine Call_ (ahb I hg hm boot_range (jO (thn (ha pos jv s σ H _ I h) fun us s1 ⟨vs,H1,I1,r1,q1⟩ =>?_) hs rfl))
 obtain⟨j,e,q1,q2,q⟩:=q1;subst e;cases r1 with
 | cons r rr =>
  cases rr;obtain⟨t,rfl⟩:=r;exact call_range_1 (atg I1 (by omega) (by omega) q1 q2 (by simpa using q))
def tFor(wi:TI)(g:TG)(tb:TS):TS:=fun D σ H=>wi σ H fun J H1=>∃W:Nat->Nat->St->Hp->Prop,(∃m,W 0 m σ H1)/\∀i m σ H,W i m σ H ->
 (J.stop i H/\D.nx σ H)∨(J.go i H/\∃N:St->Hp->Prop,(∀σ' H',N σ' H'->∃m',m' < m/\W (i+1) m' σ' H')/\∀x H',J.yld i H x H'->g x σ H' fun σ2 H2=>tb { D with nx:=N,ct:=N,bk:=D.nx } σ2 H2)
def ajj(fp:List aY)(h:fD):List (aY×Obj):=fp.filterMap fun b=>(h.get? b).map fun o=>(b,o)
theorem ab9{fp:List aY}{h:fD}{b:aY}{o:Obj}(hb:b∈fp)(e:h.get? b=some o):(b,o)∈ajj fp h:=nH.mpr ⟨b,hb,by rw[e];rfl⟩
theorem aqf{fp:List aY}{h:fD}{p:aY×Obj}(hp:p∈ajj fp h):p.1∈fp/\h.get? p.1=some p.2:=by
 obtain⟨b,hb,e⟩:=nH.mp hp;cases q:h.get? b with
 | none=>rw[q] at e;cases e
 | some o =>
  rw[q] at e;have e':(b,o)=p:=bO e;subst e';exact⟨hb,q⟩
theorem Inv.pinned{jv:List (aY×Obj)}{σ:St}{H:Hp}{s:aH}{fp:List aY}(I:Inv X jv σ H s)(hf:∀b∈fp,FpOk X jv H b)(ho:∀b∈fp,∃o,s.heap.get? b=some o/\∀v,o.data≠.cell v):Inv X (jv++ajj fp s.heap) σ H s :=
 I.pins_of fun p hp=>(bZ.mp hp).elim (fun z=>I.pin p (dH _ z)) fun z=>by
  obtain⟨hb,e⟩:=aqf z;obtain⟨f0,f1,f2,_⟩:=hf p.1 hb;obtain⟨o,e',d⟩:=ho p.1 hb;rw[e] at e';cases e';exact⟨e,f0,f1,f2,d⟩
theorem Inv.unpinned{jv pl:List (aY×Obj)}{σ:St}{H:Hp}{s:aH}(I:Inv X (jv++pl) σ H s):Inv X jv σ H s:=I.pins_of fun p hp=>I.pin p (dH _ (iM _ hp))
theorem a0f{iter:dZ}{body:List iY}{wi:TI}{g:TG}{tb:TS}{pos:Pos}(hp:uY (bY X.prog X.w) X.A X.env X.xe)(hc:X.calm=true)(hi:PI X tg iter wi)(hg:PG X tg g)(hb:PSs X body tb)
  (hs:∀x,foldedSetIterable iter X.env x=pure x:=by intro _;rfl):PS X (.For tg iter body [] pos) (tFor wi g tb):=by
 intro jv s σ H D I h;refine wpAny_For (thn (hi jv s σ H _ I h) fun v s1 h1=>thn h1 fun itv s2 h2 =>?_) hs
 obtain⟨it,fp,tn,J,H2,e,I2,T,st2,f2,W,⟨m0,w0⟩,turn⟩:=h2;subst e;have stat:∀{H':Hp},(∀b∈fp,H' b=none)->∀b∈fp,FpOk X jv H' b:=fun hn b hb=>⟨hn b hb,(f2 b hb).2⟩
 refine codeAny_forLoop_any (fun n s'=>∃i σ' H',Inv X jv σ' H' s'/\tn i s'.heap/\(∀b∈fp,H' b=none)/\W i n σ' H') ?_ m0 ⟨0,σ,H2,I2,st2,fun b hb=>(f2 b hb).1,w0⟩
 rintro n s3 ⟨i,σ3,H3,I3,st3,fr3,w3⟩
 rcases turn i n σ3 H3 w3 with⟨stop,qn⟩ | ⟨go,N,hN,step⟩
 ·refine wpAny_passesOwn hp (thn (T.done X rfl rfl rfl hc i jv s3 σ3 H3 X.xe I3 (stat fr3) st3 stop) fun r s4 ⟨hr,I4⟩ =>?_)
  subst hr;exact wpAny_execs_nil ⟨σ3,H3,I4,qn⟩
 ·refine wpAny_passesOwn hp (thn (T.item X rfl rfl rfl hc i jv s3 σ3 H3 X.xe I3 (stat fr3) st3 go) fun r s4 ⟨u,hr,h4⟩ =>?_)
  subst hr;refine wpAny_passesOwn hp (thn h4 fun _ s5 ⟨x,H5,I5,r5,y5,st5,fr5⟩ =>?_)
  have I5':=I5.pinned (stat fr5) (T.obj _ _ st5);refine wpAny_passesOwn hp (thn (hg _ s5 σ3 H5 x u _ I5' r5 (step x H5 y5)) fun _ s6 ⟨σ6,H6,I6,q6⟩ =>?_)
  refine wpAny_passesOwn hp (thn (hb _ s6 σ6 H6 _ I6 q6) fun f s7 q7 =>?_)
  have again:∀{σ7:St} {H7:Hp},Inv X (jv++ajj fp s5.heap) σ7 H7 s7->N σ7 H7->∃m,m < n/\∃i σ' H',Inv X jv σ' H' s7/\tn i s7.heap/\(∀b∈fp,H' b=none)/\W i m σ' H':=fun{σ7 H7} I7 n7=>by
   obtain⟨m',hm,w7⟩:=hN σ7 H7 n7;refine⟨m',hm,i+1,σ7,H7,I7.unpinned,T.keep _ _ _ st5 fun b hb o e=>(I7.pin (b,o) (dH _ (dH _ (ab9 hb e)))).1,fun b hb =>?_,w7⟩
   obtain⟨o,e,d⟩:=T.obj _ _ st5 b hb;exact(I7.pin (b,o) (dH _ (dH _ (ab9 hb e)))).2.1
  cases f with
  | next=>obtain⟨σ7,H7,I7,n7⟩:=q7;exact again I7 n7
  | cont=>obtain⟨σ7,H7,I7,n7⟩:=q7;exact again I7 n7
  | brk=>obtain⟨σ7,H7,I7,q7⟩:=q7;exact⟨σ7,H7,I7.unpinned,q7⟩
  | ret v=>obtain⟨x7,σ7,H7,I7,r7,q7⟩:=q7;exact⟨x7,σ7,H7,I7.unpinned,r7,q7⟩
end
abbrev R2:=V->V->Hp->VK->Prop
def OpR(X:Cx)(f:aG->aG->Sem aG)(r:R2):Prop :=
 ∀(jv:List (aY×Obj)) (s:aH) (σ:St) (H:Hp) (x y:V) (v u:aG) (Q:VK),Inv X jv σ H s->RelV x v->RelV y u->r x y H Q ->
  bL (bY X.prog X.w) X.A (f v u) (EP X jv σ Q) X.xe s
def UnR(X:Cx)(f:aG->Sem aG)(r:V->Hp->VK->Prop):Prop :=
 ∀(jv:List (aY×Obj)) (s:aH) (σ:St) (H:Hp) (x:V) (v:aG) (Q:VK),Inv X jv σ H s->RelV x v->r x H Q ->
  bL (bY X.prog X.w) X.A (f v) (EP X jv σ Q) X.xe s
def adf(X:Cx)(f:aG)(r:List V->Hp->VK->Prop):Prop :=
 ∀(jv:List (aY×Obj)) (s:aH) (σ:St) (H:Hp) (xs:List V) (us:List aG) (Q:VK),Inv X jv σ H s->Vals xs us->r xs H Q ->
  bL (bY X.prog X.w) X.A (call f us) (EP X jv σ Q) X.xe s
def tOp(r:R2)(ta tb:TE):TE:=fun σ H Q=>ta σ H fun x H1=>tb σ H1 fun y H2=>r x y H2 Q
def tUn(r:V->Hp->VK->Prop)(ta:TE):TE:=fun σ H Q=>ta σ H fun x H1=>r x H1 Q
def rI(C:Int->Int->Prop)(g:Int->Int->V):R2:=fun x y H Q=>∃i j,x=.int i/\y=.int j/\C i j/\Q (g i j) H
def rI0(g:Int->Int->V):R2:=fun x y H Q=>∃i j,x=.int i/\y=.int j/\Q (g i j) H
def rU(g:Int->V):V->Hp->VK->Prop:=fun x H Q=>∃i,x=.int i/\Q (g i) H
section
variable{X:Cx}{a b c:dZ}{ta tb tc:TE}{pos:Pos}
theorem binT(ha:PE X a ta)(hb:PE X b tb){jv:List (aY×Obj)}{s:aH}{σ:St}{H:Hp}{R:V->V->Hp->Prop}(I:Inv X jv σ H s)
  (h:ta σ H fun x H1=>tb σ H1 fun y H2=>R x y H2) {Q:aG->aH->Prop} {f:aG->aG->Sem aG}
  (hf:∀v u s2 x y H2,Inv X jv σ H2 s2->RelV x v->RelV y u->R x y H2->bL (bY X.prog X.w) X.A (f v u) Q X.xe s2) :
  bL (bY X.prog X.w) X.A (eval a X.env) (fun v s₁=>bL (bY X.prog X.w) X.A (eval b X.env) (fun u s₂=>bL (bY X.prog X.w) X.A (f v u) Q X.xe s₂) X.xe s₁) X.xe s:=by
 refine thn (ha jv s σ H _ I h) fun v s1 ⟨x,H1,I1,r1,q1⟩ =>?_
 refine thn (hb jv s1 σ H1 _ I1 q1) fun u s2 ⟨y,H2,I2,r2,q2⟩ =>?_
 exact hf v u s2 x y H2 I2 r1 r2 q2
theorem a5o{op:Operator}{r:R2}(ho:OpR X (fY op) r)(ha:PE X a ta)(hb:PE X b tb):PE X (.BinOp a op b pos) (tOp r ta tb):=by
 intro jv s σ H Q I h;exact wpAny_BinOp (binT ha hb I h fun v u s2 x y H2 I2 rx ry q=>ho jv s2 σ H2 x y v u Q I2 rx ry q)
theorem a5n{op:UnaryOp}{r:V->Hp->VK->Prop}(ho:UnR X (unaryOp op) r)(ha:PE X a ta):PE X (.UnaryOp op a pos) (tUn r ta):=by
 intro jv s σ H Q I h;exact UnaryOp_ (thn (ha jv s σ H _ I h) fun v s1 ⟨x,H1,I1,r1,q1⟩=>ho jv s1 σ H1 x v Q I1 r1 q1)
theorem opI{f:aG->aG->Sem aG}{C:Int->Int->Prop}{g:Int->Int->Int}
  (rule:∀(i j:Int) (t u:Tok) (s:aH) (Q:aG->aH->Prop) (E:aG->aH->Prop),C i j->Q (.int (g i j) s.toks) { s with toks:=s.toks+1 }->bL (bY X.prog X.w) X.A (f (.int i t) (.int j u)) Q E s) :
  OpR X f (rI C fun i j=>.int (g i j)):=by
 intro jv s σ H x y v u Q I rx ry h;obtain⟨i,j,rfl,rfl,hc,q⟩:=h;obtain⟨t,rfl⟩:=rx;obtain⟨t',rfl⟩:=ry;exact rule i j t t' s _ _ hc ⟨.int (g i j),H,I.tok _,⟨_,rfl⟩,q⟩
theorem opI0{f:aG->aG->Sem aG}{g:Int->Int->Int}
  (rule:∀(i j:Int) (t u:Tok) (s:aH) (Q:aG->aH->Prop) (E:aG->aH->Prop),Q (.int (g i j) s.toks) { s with toks:=s.toks+1 }->bL (bY X.prog X.w) X.A (f (.int i t) (.int j u)) Q E s) :
  OpR X f (rI0 fun i j=>.int (g i j)):=by
 intro jv s σ H x y v u Q I rx ry h;obtain⟨i,j,rfl,rfl,q⟩:=h;obtain⟨t,rfl⟩:=rx;obtain⟨t',rfl⟩:=ry;exact rule i j t t' s _ _ ⟨.int (g i j),H,I.tok _,⟨_,rfl⟩,q⟩
theorem opB0{f:aG->aG->Sem aG}{g:Int->Int->Bool}
  (rule:∀(i j:Int) (t u:Tok) (s:aH) (Q:aG->aH->Prop) (E:aG->aH->Prop),Q (.bool (g i j)) s->bL (bY X.prog X.w) X.A (f (.int i t) (.int j u)) Q E s) :
  OpR X f (rI0 fun i j=>.bl (g i j)):=by
 intro jv s σ H x y v u Q I rx ry h;obtain⟨i,j,rfl,rfl,q⟩:=h;obtain⟨t,rfl⟩:=rx;obtain⟨t',rfl⟩:=ry;exact rule i j t t' s _ _ ⟨.bl (g i j),H,I,rfl,q⟩
def CPow(i j:Int):Prop:=0<=j/\j<=1000000/\i.natAbs < 2 ^ 64
def CMul(i j:Int):Prop:=(-(2 ^ 64) < i/\i < 2 ^ 64)∨(-(2 ^ 64) < j/\j < 2 ^ 64)
theorem CMul.ok{i j:Int}(h:CMul i j):IntMulOk i j:=by
 rcases h with⟨h1,h2⟩ | ⟨h1,h2⟩
 ·exact .of_left (intBits_le_64 h1 h2)
 ·exact .of_right (intBits_le_64 h1 h2)
theorem a03:OpR X (fY .Add) (rI0 fun i j=>.int (i+j)):=opI0 fun _ _ _ _ _ _ _ q=>add_int q
theorem a0x:OpR X (fY .Sub) (rI0 fun i j=>.int (i - j)):=opI0 fun _ _ _ _ _ _ _ q=>sub_int q
theorem a00:OpR X (fY .Mult) (rI CMul fun i j=>.int (i*j)):=opI fun _ _ _ _ _ _ _ hc q=>mul_int q hc.ok
theorem a01:OpR X (fY .Mod) (rI (fun _ j=>0 < j) fun i j=>.int (i % j)):=opI fun i j _ _ _ _ _ hc q=>by
 have h1:(0:Int) < j:=hc;exact mod_int' (by omega) (by rw[tK i (by omega)];exact q)
theorem a0z:OpR X (fY .Pow) (rI CPow fun i j=>.int (i ^ j.toNat)):=opI fun _ _ _ _ _ _ _ hc q=>pow_int_small hc.1 hc.2.1 hc.2.2 q
theorem unI{f:aG->Sem aG}{g:Int->Int}
  (rule:∀(i:Int) (t:Tok) (s:aH) (Q:aG->aH->Prop) (E:aG->aH->Prop),Q (.int (g i) s.toks) { s with toks:=s.toks+1 }->bL (bY X.prog X.w) X.A (f (.int i t)) Q E s) :
  UnR X f (rU fun i=>.int (g i)):=by
 intro jv s σ H x v Q I rx h;obtain⟨i,rfl,q⟩:=h;obtain⟨t,rfl⟩:=rx;exact rule i t s _ _ ⟨.int (g i),H,I.tok _,⟨_,rfl⟩,q⟩
theorem azm:UnR X (unaryOp .USub) (rU fun i=>.int (-i)):=unI fun _ _ _ _ _ q=>neg_int q
end
section
variable{X:Cx}{a b c:dZ}{ta tb tc:TE}{pos:Pos}
theorem a5s:OpR X (gB .Lt) (rI0 fun i j=>.bl (decide (i < j))):=opB0 fun _ _ _ _ _ _ _ q=>lt_int q
theorem aqe:OpR X (gB .LtE) (rI0 fun i j=>.bl (decide (i<=j))):=opB0 fun _ _ _ _ _ _ _ q=>le_int q
theorem a5t:OpR X (gB .GtE) (rI0 fun i j=>.bl (decide (j<=i))):=opB0 fun _ _ _ _ _ _ _ q=>ge_int q
theorem j5(b:dZ){op:wZ}(h:op≠.In:=by decide)(h2:op≠.NotIn:=by decide):behindInMarks op b=false:=by
 have e1:(op==CmpOp.In)=false:=by cases op <;> first | rfl | exact absurd rfl h
 have e2:(op==CmpOp.NotIn)=false:=by cases op <;> first | rfl | exact absurd rfl h2
 cases b <;> simp[behindInMarks,e1,e2]
theorem axl{op:wZ}{r:R2}(ho:OpR X (gB op) r)(ha:PE X a ta)(hb:PE X b tb)(hm:behindInMarks op b=false):PE X (.Compare a [op] [b] pos) (tOp r ta tb):=by
 intro jv s σ H Q I h;exact wpAny_Compare1 (binT ha hb I h fun v u s2 x y H2 I2 rx ry q=>ho jv s2 σ H2 x y v u Q I2 rx ry q) hm
def a4w(t:TE):TT:=fun σ H Q=>t σ H fun x H'=>∃k,x=.bl k/\Q k H'
theorem aw4{op:wZ}{r:R2}(ho:OpR X (gB op) r)(ha:PE X a ta)(hb:PE X b tb)(hm:behindInMarks op b=false):PT X (.Compare a [op] [b] pos) (a4w (tOp r ta tb)):=by
 intro jv s σ H Q I h;refine wpAny_isTrue_Compare1 (thn (ha jv s σ H _ I h) fun v s1 ⟨x,H1,I1,r1,q1⟩=>thn (hb jv s1 σ H1 _ I1 q1) fun u s2 ⟨y,H2,I2,r2,q2⟩ =>
  thn (ho jv s2 σ H2 x y v u _ I2 r1 r2 q2) fun c s3 ⟨z,H3,I3,r3,k,e,q3⟩ =>?_) hm
 subst e;cases r3;exact wpAny_truthy_bool ⟨H3,I3,q3⟩
def avo(r r':R2)(ta tb tc:TE):TE:=fun σ H Q=>ta σ H fun x H1=>tb σ H1 fun y H2=>r x y H2 fun z H3=>∃k,z=.bl k /\
 (if k=true then tc σ H3 fun w' H4=>r' y w' H4 Q else Q (.bl false) H3)
theorem atr{op op':wZ}{r r':R2}(ho:OpR X (gB op) r)(ho':OpR X (gB op') r')(ha:PE X a ta)(hb:PE X b tb)(hc:PE X c tc)
  (hm:lastMarks [op,op'] [b,c]=false:=by with_unfolding_all rfl):PE X (.Compare a [op,op'] [b,c] pos) (avo r r' ta tb tc):=by
 intro jv s σ H Q I h;refine Compare_chain (thn (ha jv s σ H _ I h) fun v s1 ⟨x,H1,I1,r1,q1⟩=>chain_link (thn (hb jv s1 σ H1 _ I1 q1) fun u s2 ⟨y,H2,I2,r2,q2⟩ =>
  thn (ho jv s2 σ H2 x y v u _ I2 r1 r2 q2) fun d s3 ⟨z,H3,I3,r3,k,e,q3⟩ =>?_)) hm
 subst e;cases r3;refine wpAny_truthy_bool ?_;cases k with
 | false=>exact ite_ff ⟨.bl false,H3,I3,rfl,q3⟩
 | true=>exact ite_tt (chain_last (thn (hc jv s3 σ H3 _ I3 q3) fun w' s4 ⟨z',H4,I4,r4,q4⟩=>ho' jv s4 σ H4 y z' u w' Q I4 r2 r4 q4))
theorem amz:(cL:Nat) < 2 ^ 63:=by rw[cF];decide
theorem aoe:OpR X (fY .Add) (fun x y H Q=>∃i j,x=.str i/\y=.str j/\i.length+j.length<=cL/\Q (.str (i++j)) H):=by
 intro jv s σ H x y v u Q I rx ry h;obtain⟨i,j,rfl,rfl,hz,q⟩:=h;obtain⟨t,rfl⟩:=rx;obtain⟨t',rfl⟩:=ry;exact add_str (fun t' tk=>⟨.str (i++j),H,I.tok _,⟨_,rfl⟩,q⟩) hz
theorem vals1{x:V}{us:List aG}(r:Vals [x] us):∃u,us=[u]/\RelV x u:=by
 cases r with
 | cons r1 r2=>cases r2;exact⟨_,rfl,r1⟩
theorem vals2{x y:V}{us:List aG}(r:Vals [x,y] us):∃u w',us=[u,w']/\RelV x u/\RelV y w':=by
 cases r with
 | cons r1 r2 =>
  cases r2 with
  | cons r3 r4=>cases r4;exact⟨_,_,rfl,r1,r3⟩
theorem ar7(hc:X.calm=true):adf X (.builtin "max") (fun xs H Q=>∃i j,xs=[.int i,.int j]/\Q (.int (if j > i then j else i)) H):=by
 intro jv s σ H xs us Q I r h;obtain⟨i,j,rfl,q⟩:=h;obtain⟨u,w',rfl,⟨t,rfl⟩,⟨t',rfl⟩⟩:=vals2 r;refine max_two_ints (I.ok.hd hc) fun h' tk k=>⟨_,H,I.kept k,?_,q⟩
 by_cases hj:j > i
 ·rw[if_pos hj,if_pos hj];exact⟨_,rfl⟩
 ·rw[if_neg hj,if_neg hj];exact⟨_,rfl⟩
theorem akn:adf X (.type "int") (fun xs H Q=>(∃i,xs=[.int i]/\Q (.int i) H)∨∃k,xs=[.bl k]/\Q (.int (if k then 1 else 0)) H):=by
 intro jv s σ H xs us Q I r h;rcases h with⟨i,rfl,q⟩ | ⟨k,rfl,q⟩
 ·obtain⟨u,rfl,t,rfl⟩:=vals1 r;exact call_int_int ⟨.int i,H,I,⟨_,rfl⟩,q⟩
 ·obtain⟨u,rfl,r1⟩:=vals1 r;cases r1;exact call_int_bool ⟨.int (if k then 1 else 0),H,I.tok _,⟨_,rfl⟩,q⟩
end
structure ObjM (h:fD) (x dx C:aY) (mA:Str->Option aG):Prop where
 obj:h.get? x=some (jN C dx)
 ns:h.Ns1 dx mA
 ne:dx≠x
theorem aqn{h:fD}{dx:aY}{mA:Str->Option aG}(n:h.Ns1 dx mA):∃od,h.get? dx=some od/\∀name,tR name od=some (mA name):=by
 obtain⟨o,es,ep,ho,hd,hk,_,hm⟩:=n;refine⟨o,ho,fun name =>?_⟩
 have e:=hm name;unfold nsFind findBy at e;rw[<-Array.find?_toList] at e;unfold tR;rw[hd];dsimp only;split
 ·rename_i y q;rw[q] at e;exact congrArg some e
 ·rename_i q;rw[q] at e;have a:es.toList.any (·.refKey)=false:=by
   rw[List.any_eq_false];intro y hy;obtain⟨z,t,hkey⟩:=hk y (Array.mem_toList_iff.mp hy);simp[DictEntry.refKey,hkey]
  have a':¬es.toList.any (·.refKey)=true:=by rw[a];exact dI
  rw[if_neg a'];exact congrArg some e
theorem ObjM.look{h:fD}{x dx C:aY}{mA:Str->Option aG}(I:ObjM h x dx C mA):∃od,lY h x (jN C dx) C (some od)/\∀name,tR name od=some (mA name) :=
 let ⟨od,ho,hl⟩:=aqn I.ns
 ⟨od,⟨I.obj,rfl,rfl,ho⟩,hl⟩
section
variable{prog:bV}{w:dO}{A:dB}{E:aG->aH->Prop}{s:aH}{K:Fg9}{x dx C f:aY}{mA:Str->Option aG}{name:Str}{v:aG}
end
section
variable{P:bV}{w:dO}{H H':Hp}{h h':fD}{a C dx:aY}{fs fs':List (Str×V)}
theorem ins_get(hok:HOk P w H h)(e:H a=some (.ins C dx fs)):∃mA,ObjM h a dx C mA/\(∀f,RelO (fs.lookup f) (mA f))/\PySem.Within mA (fs.map (·.1))/\fs.length<=1000/\H dx=some (.own a):=by
 obtain⟨d,z,ne,ob,mA,n,r,q⟩:=(show vd P w H h a (.ins C dx fs) from hok a _ e)
 exact⟨mA,⟨ob,n,ne⟩,r,q,z,d⟩
end
structure Cls (K:Fg9) (C:aY):Prop where
 pg:xH K C Str.empty=true
 hd:nW K C=true
 po:PySem.W.plainOver K C=true
 sa:qJ K (.ref C) "__setattr__" = some (some (.builtin "object.__setattr__"))
theorem Cls.get{K:Fg9}{C:aY}(c:Cls K C)(f:Str):xH K C f=true:=c.pg
structure Con (K:Fg9) (C:aY) (f:Str) (v:V) (u:aG):Prop where
 at_:qJ K (.ref C) f=some (some u)
 rel:RelV v u
 get:lU K u "__get__" = some none
 cp:PySem.W.copiedNames.contains f=false
structure Meth (K:Fg9) (C:aY) (m:Str) (f:aY):Prop where
 at_:qJ K (.ref C) m=some (some (.ref f))
 fn:PySem.W.isFn K (.ref f)=true
 kp:nR K (.ref f)=true
section
variable{X:Cx}{jv:List (aY×Obj)}{σ:St}{H:Hp}{s:aH}{a C dx:aY}{fs:List (Str×V)}{f:Str}{v:V}{A:dB}{E:aG->aH->Prop}
theorem Inv.made(I:Inv X jv σ H s):Inv X jv σ (upd (upd H s.heap.objs.size (.own (s.heap.objs.size+1))) (s.heap.objs.size+1) (.ins C s.heap.objs.size []))
  { s with heap:=(s.heap.push iQ).push (jN C s.heap.objs.size) }:=by
 have e1:(s.heap.push iQ).get? s.heap.objs.size=some iQ:=aU s.heap rfl;have e2:((s.heap.push iQ).push (jN C s.heap.objs.size)).get? (s.heap.objs.size+1)=some (jN C s.heap.objs.size):=by
  have:=aU (s.heap.push iQ) (o:=jN C s.heap.objs.size) rfl;rwa[dW] at this
 have e3:(s.heap.push iQ).Ns s.heap.objs.size (fun _=>none):=⟨PySem.W.emptyDict,#[],_,e1,rfl,(fun e he=>absurd he (by simp)),fun _=>rfl⟩
 have I1:=I.laid (a:=s.heap.objs.size) (o:=.own (s.heap.objs.size+1)) (h':=s.heap.push iQ) (t':=s.toks) (fun b u q=>aB _ q) (aO _) ⟨_,e1⟩
 refine I1.laid (a:=s.heap.objs.size+1) (o:=.ins C s.heap.objs.size []) (t':=s.toks) (fun b u q=>aB _ q) (vB (dW _ _)) ?_
 have ne:s.heap.objs.size≠s.heap.objs.size+1:=bG (mF _);refine⟨by rw[cj ne,gk],cI _,ne,e2,fun _=>none,(Heap.Ns1.of_empty e3).at fun o q=>aB _ q,fun _=>nU,fun y hy=>absurd rfl hy⟩
end
section
variable{X:Cx}{o e value:dZ}{f:Str}{pos pos' tpos:Pos}{ta tv:TE}
end
section
variable{X:Cx}{jv:List (aY×Obj)}{σ:St}{H:Hp}{s:aH}{A:dB}{E:aG->aH->Prop}{Q:aG->aH->Prop}{c:aG}{b:Bool}
inductive TyOf (K:Fg9) (H:Hp):V->aG->Prop where
 | non:TyOf K H .non (.type "NoneType")
 | bl (x:Bool):TyOf K H (.bl x) (.type "bool")
 | int (i:Int):TyOf K H (.int i) (.type "int")
 | str (x:Str):TyOf K H (.str x) (.type "str")
 | flt (x:UInt64):TyOf K H (.flt x) (.type "float")
 | lst {a:aY} {xs:List V} (e:H a=some (.lst xs)):TyOf K H (.ref a) (.type "list")
 | frz {a:aY} {o:Obj} {xs:List V} (e:H a=some (.frz o (.lst xs))):TyOf K H (.ref a) (.type "list")
 | tup {a:aY} {xs:List V} (e:H a=some (.tup xs)):TyOf K H (.ref a) (.type "tuple")
 | dK {a:aY} {kvs:List (Key×V)} (e:H a=some (.dK kvs)):TyOf K H (.ref a) (.type "dict")
 | dT {a:aY} {kvs:List (List Key×V)} (e:H a=some (.dT kvs)):TyOf K H (.ref a) (.type "dict")
 | ins {a C dx:aY} {fs:List (Str×V)} (e:H a=some (.ins C dx fs)) (cl:Cls K C) (ha:qJ K (.ref C) "__class__" = some (some (.builtin "object.__class__")))
   (hn:lU K (.builtin "object.__class__") "__get__" = some (some (.builtin "getset_descriptor.__get__"))) (htk:pR K (.builtin "object.__class__")=some true)
   (hm:oW K C (.type "object")=some true):TyOf K H (.ref a) (.ref C)
theorem aq2{x:V}{u t:aG}(I:Inv X jv σ H s)(rx:RelV x u)(ty:TyOf X.K H x t)(e:gR X.K t c=some b)(h:∀tk,Q (.bool b) { s with toks:=tk }) :
  bL (bY X.prog X.w) A (call (.builtin "isinstance") [u,c]) Q E s:=by
 cases ty with
 | non=>cases(show u=cX from rx);exact eE PySem.W.kitx_none I.kIn nU e (fun z=>nomatch z) h
 | bl y=>cases(show u=tZ y from rx);exact eE PySem.W.kitx_bool I.kIn nU e (fun z=>nomatch z) h
 | int i=>obtain⟨t,q⟩:=(show ∃t,u=qT i t from rx);cases q;exact eE PySem.W.kitx_int I.kIn nU e (fun z=>nomatch z) h
 | str y=>obtain⟨t,q⟩:=(show ∃t,u=xT y t from rx);cases q;exact eE PySem.W.kitx_str I.kIn nU e (fun z=>nomatch z) h
 | flt y=>obtain⟨t,q⟩:=(show ∃t,u=Value.float y t from rx);cases q;exact eE PySem.W.kitx_float I.kIn nU e (fun z=>nomatch z) h
 | @lst a xs ea =>
  cases(show u=cP a from rx)
  obtain⟨_,_,n,_,h1⟩:=(show vd X.prog X.w H s.heap a (.lst xs) from I.hok a _ ea)
  exact eE rJ I.kIn ⟨_,h1,rfl⟩ e (fun z=>nomatch z) h
 | @frz a ob xs ea =>
  cases(show u=cP a from rx)
  obtain⟨_,_,_,n,_,h1⟩:=(show vd X.prog X.w H s.heap a (.frz ob (.lst xs)) from I.hok a _ ea)
  exact eE rJ I.kIn ⟨_,h1,rfl⟩ e (fun z=>nomatch z) h
 | @tup a xs ea =>
  cases(show u=cP a from rx)
  obtain⟨_,_,_,p⟩:=(show vd X.prog X.w H s.heap a (.tup xs) from I.hok a _ ea)
  obtain⟨o,h1,h2,_⟩:=p;exact eE PySem.W.kitx_tuple I.kIn ⟨o,h1,h2⟩ e (fun z=>nomatch z) h
 | @dK a kvs ea =>
  cases(show u=cP a from rx)
  obtain⟨_,_,vs,_,p⟩:=(show vd X.prog X.w H s.heap a (.dK kvs) from I.hok a _ ea)
  obtain⟨o,es,ep,h1,h2,_⟩:=p;exact eE wL I.kIn ⟨o,h1,h2.1⟩ e (fun z=>nomatch z) h
 | @dT a kvs ea =>
  cases(show u=cP a from rx)
  obtain⟨_,_,xs,_,o,es,ep,h1,h2,_⟩:=(show vd X.prog X.w H s.heap a (.dT kvs) from I.hok a _ ea)
  exact eE wL I.kIn ⟨o,h1,h2.1⟩ e (fun z=>nomatch z) h
 | @ins a C dx fs ea cl ha hn htk hm =>
  cases(show u=cP a from rx)
  obtain⟨mA,O,_⟩:=ins_get I.hok ea;obtain⟨od,J,_⟩:=O.look;exact eE (PySem.W.kitx_own (cl.get _) cl.hd ha hn htk hm) I.kIn J e (fun z=>nomatch z) h
end
structure Room (k:Nat) (A:dB):Prop where
 hd:A.handled=none
 dp:A.depth+3*k+5 < recursionLimit
 un:A.units+16*k+200 < cLine
 gd:A.guards=some []
theorem Room.mono{j k:Nat}{A:dB}(r:Room k A)(h:j<=k):Room j A:=⟨r.hd,by have:=r.dp;omega,by have:=r.un;omega,r.gd⟩
theorem Room.deeper{k:Nat}{A:dB}(r:Room (k+1) A)(env:Env):Room k (A.deeper env) :=
 ⟨r.hd,by have:=r.dp;show A.depth+1+3*k+5 < _;omega,by have:=r.un;show A.units+3+16*k+200 < _;omega,r.gd⟩
theorem Room.depth{k:Nat}{A:dB}(r:Room k A):A.depth < recursionLimit:=by have:=r.dp;omega
theorem Room.units{k:Nat}{A:dB}(r:Room k A):A.units+64 < cLine:=by have:=r.un;omega
def tNil:TA:=fun _ H Q=>Q [] H
def a5c(ta:TE)(tr:TA):TA:=fun σ H Q=>ta σ H fun x H1=>tr σ H1 fun xs H2=>Q (x::xs) H2
section
variable{X:Cx}{e:dZ}{es:List dZ}{te:TE}{t:TA}{pos:Pos}
theorem aex:PA X [] tNil:=fun _ _ _ _ H Q I h=>Calls.spliced_nil ⟨[],H,I,.nil,h⟩
theorem uh(ha:PE X e te)(hr:PA X es t)(hs:aX (e::es) X.env=(false,eval e X.env)::aX es X.env:=by rfl):PA X (e::es) (a5c te t):=by
 intro pos jv s σ H Q I h;rw[hs];show bL _ _ (spliced ((false,eval e X.env)::iZ pos (aX es X.env))) _ _ s;refine qZ (thn (ha jv s σ H _ I h) fun u s1 ⟨x,H1,I1,r1,q1⟩ =>?_)
 exact thn (hr pos jv s1 σ H1 _ I1 q1) fun us s2 ⟨xs,H2,I2,r2,q2⟩=>⟨x::xs,H2,I2,.cons r1 r2,q2⟩
def tTup(t:TA):TE:=fun σ H Q=>t σ H fun xs H1=>xs.length<=cL/\∀p,H1 p=none->Q (.ref p) (upd H1 p (.tup xs))
def tLst(t:TA):TE:=fun σ H Q=>t σ H fun xs H1=>xs.length<=cL/\∀p,H1 p=none->Q (.ref p) (upd H1 p (.lst xs))
theorem a0l{x1}(h:PA X es t):PE X (.Tuple es x1 pos) (tTup t):=by
 intro jv s σ H Q I hq;refine wpAny_Tuple_spliced (thn (h pos jv s σ H _ I hq) fun us s1 ⟨xs,H1,I1,r,z,q⟩=>⟨by rw[<-r.length];exact z,?_⟩)
 have hf:H1 s1.heap.objs.size=none:=I1.hok.fresh (aO _);refine⟨.ref s1.heap.objs.size,upd H1 s1.heap.objs.size (.tup xs),I1.laid (t':=s1.toks) (fun b u e=>aB _ e) (aO _) ?_,rfl,q _ hf⟩
 exact⟨z,us,r,⟨_,aU _ rfl,rfl,rfl,_,rfl⟩⟩
theorem a0r(h:PA X es t):PE X (.List es pos) (tLst t):=by
 intro jv s σ H Q I hq;refine wpAny_List_spliced (thn (h pos jv s σ H _ I hq) fun us s1 ⟨xs,H1,I1,r,z,q⟩=>⟨by rw[<-r.length];exact z,?_⟩)
 have hf:H1 s1.heap.objs.size=none:=I1.hok.fresh (aO _);refine⟨.ref s1.heap.objs.size,upd H1 s1.heap.objs.size (.lst xs),I1.laid (t':=s1.toks) (fun b u e=>aB _ e) (aO _) ?_,rfl,q _ hf⟩
 exact⟨z,us,0,r,aU _ rfl⟩
end
abbrev Sp:=List V->Hp->VK->XK->Prop
abbrev CXT:=List Env->Hp->aH->XK->aG->aH->Prop
structure Env0 (P:bV) (w:dO) (K:Fg9) (mg:Str->Option aG) (base:fD) (A:dB) (outer:List Env) (s:aH) (H:Hp):Prop where
 frames:A.frames=some outer
 mod:Mod K mg base
 bs:∀b o,base.get? b=some o->s.heap.get? b=some o/\H b=none
 bsz:base.objs.size<=s.heap.objs.size
 funs:s.heap.FunFrames base outer
 frf:∀b∈frs outer,H b=none
 hok:HOk P w H s.heap
 bare:qG s.gens
def CE(outer:List Env)(P:bV)(w:dO)(H:Hp)(s:aH)(Q:VK)(u:aG)(s':aH):Prop :=
 ∃v H',s'.os=s.os/\qG s'.gens/\Un (frs outer) [] H H' s.heap s'.heap/\HOk P w H' s'.heap/\RelV v u/\Q v H'
def CR(CX:CXT)(outer:List Env)(P:bV)(w:dO)(H:Hp)(s:aH)(Q:VK)(E:XK)(r:Result)(s':aH):Prop :=
 match r with
 | .ok (.ret u)=>CE outer P w H s Q u s'
 | .ok _=>False
 | .error e=>CX outer H s E e s'
structure FnOk (P:bV) (w:dO) (K:Fg9) (mg:Str->Option aG) (base:fD) (CX:CXT) (k:Nat) (f:aY) (fd:fP) (ps:List Str) (sp:Sp):Prop where
 len:∀vs H Q E,sp vs H Q E->vs.length=ps.length
 run:∀(A:dB) (outer:List Env) (s:aH) (H:Hp) (args:Args) (us:List aG) (vs:List V) (Q:VK) (E:XK),Room k A->Env0 P w K mg base A outer s H->rT s fd args (ps.zip us)->Vals vs us->sp vs H Q E ->
  qP (bY P w) A (.call (.ref f) args) (CR CX outer P w H s Q E) s
section
variable{X:Cx}{jv:List (aY×Obj)}{σ:St}{H:Hp}{s s':aH}
theorem Inv.env0(I:Inv X jv σ H s):Env0 X.prog X.w X.K X.mg X.base X.A X.stack s H :=
 ⟨I.ok.frames,I.ok.mod,I.bs,cM I.ok.bsz I.sz,I.stack,I.stkFree,I.hok,I.bare⟩
theorem Inv.after{Q:VK}{u:aG}(I:Inv X jv σ H s)(h:CE X.stack X.prog X.w H s Q u s'):EP X jv σ Q u s':=by
 obtain⟨v,H',os,bare,un,hok,r,q⟩:=h;obtain⟨hh,g,d,t,os'⟩:=s';obtain rfl:os'=s.os:=os;exact⟨v,H',I.call (h':=hh) (g':=g) (d':=d) (t':=t) (ch:=[]) un hok bare (fun b z=>absurd z (by simp)),r,q⟩
end
def awp(sp:Sp)(dvs:List V)(E:XK)(t:TA):TE:=fun σ H Q=>t σ H fun vs H1=>sp (vs++dvs) H1 Q E
def Binds(K:Fg9)(fd:fP)(ps:List Str)(ds:List aG):Prop :=
 ∀(s:aH) (us:List aG),K.In s.heap->(us++ds).length=ps.length->rT s fd ⟨us,[]⟩ (ps.zip (us++ds))
theorem Binds.all{K:Fg9}{fd:fP}{ps:List Str}(h:∀us:List aG,us.length=ps.length->bindArgs fd ⟨us,[]⟩=pure (ps.zip us)):Binds K fd ps []:=fun s us _ hl=>by
 rw[gF] at hl ⊢
 exact .of_eq (h us hl)
def asq(CX:CXT)(X:Cx)(E:XK):Prop:=∀(jv:List (aY×Obj)) (σ:St) (H:Hp) (s:aH) (e:aG) (s':aH),Inv X jv σ H s->CX X.stack H s E e s'->X.xe e s'
section
variable{X:Cx}{CX:CXT}{k:Nat}{f C:aY}{fd:fP}{ps:List Str}{sp:Sp}{dvs:List V}{ds:List aG}{E:XK}{x m:Str}{p pos apos:Pos}{e o:dZ}{es:List dZ}{ta:TE}{t:TA}
theorem az1{jv:List (aY×Obj)}{σ:St}{H:Hp}{s:aH}{Q:VK}{us:List aG}{vs:List V}(F:FnOk X.prog X.w X.K X.mg X.base CX k f fd ps sp)(hr:Room k X.A)(hb:Binds X.K fd ps ds)(hd:Vals dvs ds)(hx:asq CX X E)
  (I:Inv X jv σ H s) (r:Vals vs us) (h:sp (vs++dvs) H Q E):bL (bY X.prog X.w) X.A (call (.ref f) us) (EP X jv σ Q) X.xe s:=by
 have r2:Vals (vs++dvs) (us++ds):=r.append hd;have hl:(us++ds).length=ps.length:=by rw[<-r2.length];exact F.len _ _ _ _ h
 refine wpAny_call (codeAny_mono (F.run X.A X.stack s H ⟨us,[]⟩ (us++ds) (vs++dvs) Q E hr I.env0 (hb s us I.kIn hl) r2 h) fun r s' hq =>?_)
 cases r with
 | error e=>exact hx jv σ H s e s' I hq
 | ok fl =>
  cases fl with
  | ret u=>exact I.after hq
  | next=>exact fK hq
  | brk=>exact fK hq
  | cont=>exact fK hq
theorem axm(F:FnOk X.prog X.w X.K X.mg X.base CX k f fd ps sp)(hr:Room k X.A)(hg:Gl X x)(hm:X.mg x=some (.ref f))(hk:nR X.K (.ref f)=true)(hb:Binds X.K fd ps ds)(hd:Vals dvs ds)(hx:asq CX X E)
  (ha:PA X (e::es) t) (hdb:(x==("__debug__" : Str))=false:=by decide) (he:aX (e::es) X.env=(false,eval e X.env)::aX es X.env:=by rfl) (hpl:(iZ pos (aX es X.env)).any (·.1)=false:=by rfl) :
  PE X (.Call (.Name x p) (e::es) [] pos) (awp sp dvs E t):=by
 intro jv s σ H Q I h;refine wpAny_Call_Name_kw (aem I hg hm ?_ hdb);refine nG (h₀:=X.base) I.ok.mod.kin hk (thn (ha pos jv s σ H _ I h) fun us s1 ⟨vs,H1,I1,r,q⟩=>⟨I1.kIn,?_⟩) he hpl
 exact az1 F hr hb hd hx I1 r q
structure Mk (K:Fg9) (C f:aY):Prop where
 makes:PySem.W.makesIn K C=true
 init:qJ K (.ref C) "__init__" = some (some (.ref f))
 fn:PySem.W.isFn K (.ref f)=true
 kp:nR K (.ref C)=true
end
section
variable{X:Cx}{CX:CXT}{k:Nat}{f C:aY}{fd:fP}{ps ks:List Str}{sp:Sp}{E:XK}{x m:Str}{p pos apos kpos:Pos}{e o:dZ}{es:List dZ}{kws:List pF}{te ta:TE}{t tk:TA}{nm:Option Str}
structure KBinds (K:Fg9) (fd:fP) (ps ks:List Str) (g:List aG->List aG->List aG) (gV:List V->List V->List V):Prop where
 to:∀(s:aH) (us ws:List aG),K.In s.heap->(g us ws).length=ps.length->rT s fd ⟨us,ks.zip ws⟩ (ps.zip (g us ws))
 rel:∀{vs:List V} {us:List aG} {zs:List V} {ws:List aG},Vals vs us->Vals zs ws->Vals (gV vs zs) (g us ws)
variable{g:List aG->List aG->List aG}{gV:List V->List V->List V}
end
structure FnScope (N P:List Str) (sc:mX):Prop where
 kind:sc.kind=.function
 co:sc.isCoroutine=false
 gen:sc.isGenerator=false
 nd:N.Nodup
 pre:N.take P.length=P
 par:∀x∈P,sc.names.lookup x=some .local∨sc.names.lookup x=some .cell
 nofree:∀y∈sc.names,y.2≠.free
theorem aks{kindOf:Str->Option uM}{x:Str}:∀{binds:List (Str×Value)} {m:Str->Option aG},(∀v,(x,v)∉binds)->bindL kindOf binds m x=m x
 | [],_,_=>rfl
 | (n,v)::r,m,h=>by
  unfold bindL;rw[aks fun w hw=>h w (aK _ hw)]
  split
  ·have:x≠n:=by rintro rfl;exact h v aN
   simp[this]
  ·rfl
theorem aku{kindOf:Str->Option uM}{x:Str}:∀{binds:List (Str×Value)} {m:Str->Option aG},(∀v,(x,v)∉binds)->bindC kindOf binds m x=m x
 | [],_,_=>rfl
 | (n,v)::r,m,h=>by
  unfold bindC;rw[aku fun w hw=>h w (aK _ hw)]
  split
  ·rfl
  ·have:x≠n:=by rintro rfl;exact h v aN
   simp[this]
theorem akt{kindOf:Str->Option uM}{x:Str}{v:aG}:∀{P:List Str} {vs:List aG} {i:Nat} {m:Str->Option aG},P.Nodup->P[i]? = some x->vs[i]? = some v->kindOf x=some .local ->
  bindL kindOf (P.zip vs) m x=some v
 | [],_,_,_,_,h,_,_=>by simp at h
 | _::_,[],_,_,_,_,h,_=>by simp at h
 | p::P,w::vs,0,m,nd,h1,h2,hk=>by
  simp at h1 h2;subst h1;subst h2;show bindL kindOf ((p,w)::P.zip vs) m p=_;unfold bindL;rw[aks fun v hv=>(gW.mp nd).1 (lH hv).1,if_pos hk]
  simp
 | p::P,w::vs,i+1,m,nd,h1,h2,hk=>by
  show bindL kindOf ((p,w)::P.zip vs) m x=_;unfold bindL;exact akt (i:=i) (gW.mp nd).2 (by simpa using h1) (by simpa using h2) hk
theorem akv{kindOf:Str->Option uM}{x:Str}{v:aG}:∀{P:List Str} {vs:List aG} {i:Nat} {m:Str->Option aG},P.Nodup->P[i]? = some x->vs[i]? = some v->kindOf x≠some .local ->
  bindC kindOf (P.zip vs) m x=some v
 | [],_,_,_,_,h,_,_=>by simp at h
 | _::_,[],_,_,_,_,h,_=>by simp at h
 | p::P,w::vs,0,m,nd,h1,h2,hk=>by
  simp at h1 h2;subst h1;subst h2;show bindC kindOf ((p,w)::P.zip vs) m p=_;unfold bindC;rw[aku fun v hv=>(gW.mp nd).1 (lH hv).1,if_neg hk]
  simp
 | p::P,w::vs,i+1,m,nd,h1,h2,hk=>by
  show bindC kindOf ((p,w)::P.zip vs) m x=_;unfold bindC;exact akv (i:=i) (gW.mp nd).2 (by simpa using h1) (by simpa using h2) hk
def start(N:List Str)(vs:List V):St:=vs.map some++aF (N.length - vs.length) none
def cxOf(CX:CXT)(P:bV)(w:dO)(K:Fg9)(mg:Str->Option aG)(base:fD)(N:List Str)(qual:Str)(scope:mX)(f:aY)(cd:aG)(A:dB)(outer:List Env)(s:aH)(H:Hp)(E:XK):Cx where
 prog:=P
 w:=w
 K:=K
 mg:=mg
 base:=base
 A:=A.deeper (pH qual scope s.heap.objs.size f cd)
 N:=N
 s₀:=s
 H₀:=H
 env:=pH qual scope s.heap.objs.size f cd
 outer:=outer
 stack:=pH qual scope s.heap.objs.size f cd::outer
 ex:=[]
 calm:=true
 fn:=fun _=>true
 pn:=[]
 xe:=fun e s'=>bL (bY P w) (A.deeper (pH qual scope s.heap.objs.size f cd)) (leaving (pH qual scope s.heap.objs.size f cd) e) (fun _ s''=>CX outer H s E e s'') (fun e' s''=>CX outer H s E e' s'') s'
theorem ant{sc:mX}{n:Nat}{x:Str}(h:sc.names.lookup x=some .cell):∃c,(cellsFrom n sc.names []).lookup x=some c:=by
 have q:=pM sc.names n [] (.inl h);exact uD.mp q
theorem aj3{CX:CXT}{P:bV}{w:dO}{K:Fg9}{mg:Str->Option aG}{base:fD}{N ps:List Str}{qual:Str}{scope:mX}{f:aY}{cd:aG}{A:dB}{outer:List Env}{s s1:aH}{H:Hp}{E:XK}{us:List aG}{vs:List V}
  (S:FnScope N ps scope) (hd:A.handled=none) (e0:Env0 P w K mg base A outer s H) (hl:vs.length=ps.length) (r:Vals vs us)
  (x:InCallC s s.heap.objs.size (bindL (pH qual scope s.heap.objs.size f cd).kindOf (ps.zip us) fun _=>none) (cellsFrom (s.heap.objs.size+1) scope.names []) (bindC (pH qual scope s.heap.objs.size f cd).kindOf (ps.zip us) fun _=>none) s1) :
  Inv (cxOf CX P w K mg base N qual scope f cd A outer s H E) [] (start N vs) H s1:=by
 have hpl:ps.length<=N.length:=by have:=congrArg List.length S.pre;rw[fO] at this;omega
 obtain⟨h1,tk,rfl,hk⟩:=x.done;have noA:∀b:aY,b∉(cxOf CX P w K mg base N qual scope f cd A outer s H E).ex:=fun b z=>absurd (show b∈([]:List aY) from z) (by simp)
 refine⟨⟨e0.mod,S.kind,rfl,rfl,aO _,fun y z c h1 h2 =>?_,fun y hy =>?_,fun y c _ h =>?_,fun _=>hd,vU e0.frames,.inr ⟨rfl,rfl⟩,fun b z=>absurd z (noA b),e0.bs,e0.bsz,fun b _ _=>noA b,fun b z=>absurd z (noA b),e0.funs,e0.frf⟩,
  rfl,e0.bare,Un.kept hk,⟨_,x.toInCall.ns,fun i y v h1 h2 h3 =>?_⟩,fun y c h=>⟨_,x.cell y c h⟩,e0.hok.fresh (aO _),fun y c h =>?_,fun p hp=>absurd (show p∈([]:List (aY×Obj)) from hp) (by simp),e0.hok.kept hk,?_⟩
 ·exact name_of_addr x.apart (jA h1) (jA h2)
 ·have hy:scope.names.lookup y=some .cell∨scope.names.lookup y=some .free:=hy;rcases hy with hy | hy
  ·exact ant hy
  ·exact absurd rfl (S.nofree _ (jA hy))
 ·exact jR (x.above y c (jA h))
 ·have hi:i < vs.length:=by
   unfold start at h2
   by_cases hi:i < vs.length
   ·exact hi
   ·rw[iC (by simpa using hi)] at h2
    rw[lK] at h2;split at h2 <;> cases h2
  have ha:vs[i]? = some v:=by
   unfold start at h2;rw[cH (by simpa using hi),bK] at h2
   cases e:vs[i]? with
   | none=>rw[e] at h2;cases h2
   | some a=>rw[e] at h2;cases h2;rfl
  obtain⟨u,hu,rv⟩:=r.get ha;have hp:ps[i]? = some y:=by
   rw[<-S.pre,iV (by omega)];exact h1
  have ndP:ps.Nodup:=by rw[<-S.pre];exact S.nd.sublist (wQ _ _)
  refine⟨u,rv,?_⟩;rcases S.par y (dD hp) with k | k
  ·exact .inl ⟨k,akt ndP hp hu k⟩
  ·obtain⟨c,e⟩:=ant (n:=s.heap.objs.size+1) k;refine .inr ⟨.inl k,c,e,?_⟩;have q:=x.cell y c e;rw[akv ndP hp hu (by show scope.names.lookup y≠_;rw[k];decide)] at q
   exact q
 ·exact e0.hok.fresh (jR (x.above y c (jA h)))
 ·unfold start;show _=N.length;rw[aW,aD,gD];omega
theorem a2o{CX:CXT}{P:bV}{w:dO}{K:Fg9}{mg:Str->Option aG}{base:fD}{k:Nat}{f:aY}{name qual:Str}{params:Arguments}{body:List iY}{scope:mX}{dV kV doc pm cdv ct oc:aG}{an od:Option aY}
  {osl:Array (Option aG)} {N ps:List Str} {sp:Sp} (lk:K.lookup f=some ⟨oc,od,.func (fnOf name qual params body scope dV kV doc pm an cdv ct),osl⟩) (hcd:codeIn K cdv qual=true) (S:FnScope N ps scope)
  (len:∀vs H Q E,sp vs H Q E->vs.length=ps.length)
  (hbody:∀(A:dB) (outer:List Env) (s:aH) (H:Hp) (vs:List V) (Q:VK) (E:XK),Room k (A.deeper (pH qual scope s.heap.objs.size f cdv))->sp vs H Q E ->
   ∃t,PSs (cxOf CX P w K mg base N qual scope f cdv A outer s H E) body t/\t { nx:=fun _ H'=>Q .non H',rt:=Q } (start N vs) H) :
  FnOk P w K mg base CX (k+1) f (fnOf name qual params body scope dV kV doc pm an cdv ct) ps sp:=by
 refine⟨len,fun A outer s H args us vs Q E hr e0 hb r hsp =>?_⟩
 have hl:=len _ _ _ _ hsp;have KX:K.In s.heap:=e0.mod.kin.keeps fun b o e=>(e0.bs b o e).1
 have lim:s.heap.NoLimit:=e0.mod.nolimit.keeps fun b o e=>(e0.bs b o e).1
 have hkind:∀y∈ps.zip us,scope.names.lookup y.1=some .local∨(scope.names.lookup y.1=some .cell/\((cellsFrom (s.heap.objs.size+1) scope.names []).lookup y.1).isSome=true):=fun⟨n,v⟩ hy=>by
  rcases S.par n (lH hy).1 with q | q
  ·exact .inl q
  ·exact .inr ⟨q,pM _ _ _ (.inl q)⟩
 refine codeAny_call_function hr.depth (KX _ _ lk) rfl S.co S.gen rfl (wB KX hcd) (hb _ _ _ _ ?_);refine wpAny_newFunctionEnv_cells S.kind hkind fun env he s1 x =>?_
 subst he;refine⟨lim.keeps x.toInCall.keep,codeAny_func ?_⟩;obtain⟨t,ht,hq⟩:=hbody A outer s H vs Q E (hr.deeper _) hsp;have I:Inv (cxOf CX P w K mg base N qual scope f cdv A outer s H E) [] (start N vs) H s1:=aj3 S hr.hd e0 hl r x;refine bC (ht [] s1 (start N vs) H _ I hq) (fun fl s' hs =>?_) fun e s' hs=>hs
 have fin:∀{σ':St} {H':Hp} {v:V} {u:aG},Inv (cxOf CX P w K mg base N qual scope f cdv A outer s H E) [] σ' H' s'->RelV v u->Q v H'->CE outer P w H s Q u s' :=
  fun{σ' H' v u} J rv q=>⟨v,H',J.os,J.bare,J.base,J.hok,rv,q⟩
 cases fl with
 | ret u =>
  obtain⟨v,σ',H',J,rv,q⟩:=hs;exact fin J rv q
 | next =>
  obtain⟨σ',H',J,q⟩:=hs;exact fin (v:=V.non) (u:=cX) J rfl q
 | brk =>
  obtain⟨_,_,_,q⟩:=hs;exact fK q
 | cont =>
  obtain⟨_,_,_,q⟩:=hs;exact fK q
section
variable{X:Cx}{x:Str}{p pos:Pos}{e:dZ}{es:List dZ}{t:TA}{id T:String}{r:List V->Hp->VK->Prop}
def tCB(r:List V->Hp->VK->Prop)(t:TA):TE:=fun σ H Q=>t σ H fun vs H1=>r vs H1 Q
theorem adp(hc:adf X (.builtin id) r)(hg:Gl X x)(hm:X.mg x=none)(hv:bT x=some (.builtin id))(ha:PA X (e::es) t)(hn:x ≠ "__name__" := by decide)(hdb:(x==("__debug__" : Str))=false:=by decide)
  (he:aX (e::es) X.env=(false,eval e X.env)::aX es X.env:=by rfl) (hpl:(iZ pos (aX es X.env)).any (·.1)=false:=by rfl):PE X (.Call (.Name x p) (e::es) [] pos) (tCB r t):=by
 intro jv s σ H Q I h;refine wpAny_Call_Name_kw (ahb I hg hm hv ?_ hn hdb);exact PyProof.Rows.callWith_builtin1 (thn (ha pos jv s σ H _ I h) fun us s1 ⟨vs,H1,I1,r1,q1⟩=>hc jv s1 σ H1 vs us Q I1 r1 q1) he hpl
theorem ajl(hc:adf X (.type T) r)(hg:Gl X x)(hm:X.mg x=none)(hv:bT x=some (.type T))(ha:PA X (e::es) t)(hn:x ≠ "__name__" := by decide)(hdb:(x==("__debug__" : Str))=false:=by decide)
  (he:aX (e::es) X.env=(false,eval e X.env)::aX es X.env:=by rfl) (hpl:(iZ pos (aX es X.env)).any (·.1)=false:=by rfl):PE X (.Call (.Name x p) (e::es) [] pos) (tCB r t):=by
 intro jv s σ H Q I h;refine wpAny_Call_Name_kw (ahb I hg hm hv ?_ hn hdb);exact jO (thn (ha pos jv s σ H _ I h) fun us s1 ⟨vs,H1,I1,r1,q1⟩=>hc jv s1 σ H1 vs us Q I1 r1 q1) he hpl
end
end L2
namespace HT
open PySem PyProof.Rows
section
open PySem.SeqAt
open PySem.AutoSeq1 (wpAny_loadPart')
open PySem.MeetsSeq PySem.MeetsSeq2 PySem.MeetsSeq3
end
section
variable{prog:bV}{w:dO}{A:dB}{E:aG->aH->Prop}{s:aH}
theorem ay0{t b:aY}{vs ws:List aG}{Q:aG->aH->Prop}(ht:vI s.heap t vs.toArray)(hb:vI s.heap b ws.toArray)(hv:vs≠[])
  (h1:ws=[]->Q (.ref t) s) (h2:ws≠[]->Q (.ref s.heap.objs.size) { s with heap:=s.heap.push { cls:=.type "tuple", data:=.seq (vs++ws).toArray } })
  (hsz:vs.length+ws.length<=cL):bL (bY prog w) A (fY .Add (.ref t) (.ref b)) Q E s:=by
 obtain⟨⟨cls,dd,data,sl⟩,ho,hc,n,hd⟩:=id ht;obtain⟨⟨cls2,dd2,data2,sl2⟩,ho2,hc2,n2,hd2⟩:=id hb;simp only at hc hd hc2 hd2;subst hc hd hc2 hd2;have e:vs.toArray++ws.toArray=(vs++ws).toArray:=by simp
 by_cases hw:ws=[]
 ·exact concat_meets ⟨_,ho,rfl⟩ ⟨_,ho2,rfl⟩ noFill_tuple_add seq_tuple_add pN oZ (oA _ _)
   (tuple_addW1 t b vs.toArray ws.toArray n n2 dd dd2 sl sl2 (by simpa using hv) (by simp[hw])) ⟨ho,ho2,h1 hw⟩
 ·refine concat_meets ⟨_,ho,rfl⟩ ⟨_,ho2,rfl⟩ noFill_tuple_add seq_tuple_add pN oZ (oA _ _)
   (tuple_addW2 t b vs.toArray ws.toArray n n2 dd dd2 sl sl2 (by simpa using hv) (by simpa using hw) (by rw[aL,aL];exact hsz)) ⟨ho,ho2,?_⟩
  rw[e];exact h2 hw
def sIx(n d:Nat):Option Int->Nat
 | none=>d
 | some v=>if v < 0 then (v+(n:Int)).toNat else min v.toNat n
theorem az0(n d:Nat)(hd:d<=n)(o:Option Int):sIx n d o<=n:=by
 cases o with
 | none=>exact hd
 | some v =>
  show(if v < 0 then (v+(n:Int)).toNat else min v.toNat n)<=n
  by_cases hv:v < 0
  ·rw[if_pos hv];omega
  ·rw[if_neg hv];exact Nat.min_le_right _ _
theorem arw(v:Int)(n d:Nat):(if v < 0 then max (v+(n:Int)) 0 else min v (n:Int))=((sIx n d (some v):Nat):Int):=by
 show(if v < 0 then max (v+(n:Int)) 0 else min v (n:Int))=(((if v < 0 then (v+(n:Int)).toNat else min v.toNat n):Nat):Int)
 by_cases hv:v < 0
 ·simp only[if_pos hv];omega
 ·simp only[if_neg hv];omega
theorem aoz(lo hi:Option Int)(n:Nat):iK lo hi 1 (n:Int)=(((sIx n 0 lo:Nat):Int),((sIx n n hi:Nat):Int)):=by
 have h1:¬((1:Int) < 0):=by omega
 unfold iK;simp only[h1,if_false];refine Prod.ext ?_ ?_
 ·cases lo with
  | none=>rfl
  | some v=>exact arw v n 0
 ·cases hi with
  | none=>rfl
  | some v=>exact arw v n n
theorem aoc(i j:Nat):eH (i:Int) (j:Int) 1=j - i:=by
 unfold eH;have h1:(1:Int) > 0:=by omega
 simp only[h1,if_true,vJ];split <;> omega
theorem ag4{v:aG}{o:Option Int}{Q:Option Int->aH->Prop}(p:rW v o)(h:Q o s):bL (bY prog w) A (Builtin.Slice.slicePartIndex v) Q E s:=by
 cases p with
 | none=>exact slicePart_none h
 | int i t=>exact slicePart_int h
theorem aa6{sl:aY}{vl vu:aG}{lo hi:Option Int}{n:Nat}{Q:Int×Int×Nat->aH->Prop}(hs:s.heap.IsSliceOf sl vl vu .none)(pl:rW vl lo)(pu:rW vu hi)
  (h:Q (((sIx n 0 lo:Nat):Int),1,sIx n n hi - sIx n 0 lo) s):bL (bY prog w) A (kJ (.ref sl) (pure (n:Int))) Q E s:=by
 obtain⟨os,hos,hcs,hds⟩:=id hs;unfold kJ tW;refine aA (aA (dF hos hds (x:=vl) rfl (aA (dF hos hds (x:=vu) rfl (aA (dF hos hds (x:=.none) rfl (aJ ?_)))))));refine aA (slicePart_none ?_);show bL _ _ (if ((1:Int)==0)=true then _ else _) _ _ s
 rw[if_neg (by decide)]
 refine aA (ag4 pl (aA (ag4 pu (aA (aJ ?_)))));show bL _ _ (match iK lo hi 1 (n:Int) with | (lo,hi)=>pure (lo,(1:Int),eH lo hi 1)) _ _ s
 rw[aoz lo hi n];show bL _ _ (pure (((sIx n 0 lo:Nat):Int),(1:Int),eH ((sIx n 0 lo:Nat):Int) ((sIx n n hi:Nat):Int) 1)) _ _ s;rw[aoc];exact aJ h
theorem atm(xs:Array aG)(i k:Nat):((aR k).filterMap fun(m:Nat)=>xs[((i:Int)+(m:Int)*1).toNat]?).toArray=((xs.toList.drop i).take k).toArray:=by
 have e:(fun(m:Nat)=>xs[((i:Int)+(m:Int)*1).toNat]?)=fun m=>xs[i+m]? := by
  funext m
  have:((i:Int)+(m:Int)*1).toNat=i+m:=by omega
  rw[this]
 rw[e];have:=pick_run xs i k;rw[nM] at this;have e2:((fun x=>xs[x]?)∘fun x=>i+x)=fun m=>xs[i+m]? := rfl
 rw[e2] at this;rw[this]
theorem aeq{t sl:aY}{items:Array aG}{vl vu:aG}{lo hi:Option Int}{Q:aG->aH->Prop}(ht:vI s.heap t items)(hs:s.heap.IsSliceOf sl vl vu .none)(pl:rW vl lo)(pu:rW vu hi)
  (hw:¬(sIx items.size 0 lo=0/\sIx items.size items.size hi=items.size))
  (h:Q (.ref s.heap.objs.size) { s with heap:=s.heap.push { cls:=.type "tuple", data:=.seq ((items.toList.drop (sIx items.size 0 lo)).take (sIx items.size items.size hi - sIx items.size 0 lo)).toArray } })
  (hsz:items.size<=cL):bL (bY prog w) A (oR (.ref t) (.ref sl)) Q E s:=by
 have htake:sizeOk (.seq ((items.toList.drop (sIx items.size 0 lo)).take (sIx items.size items.size hi - sIx items.size 0 lo)).toArray):=by
  show((items.toList.drop (sIx items.size 0 lo)).take (sIx items.size items.size hi - sIx items.size 0 lo)).toArray.size<=cL;rw[aL,fO,jD,bF];omega
 have hj:sIx items.size items.size hi<=items.size:=az0 _ _ (aO _) hi;obtain⟨os,hos,hcs,hds⟩:=id hs;have hTs:s.TypeIs (.ref sl) "slice" := ⟨os,hos,hcs⟩;unfold oR
 try with_reducible refine cU ?_
 first | refine aA (aJ ?_) | skip
 refine aA (wpAny_sequenceKey ht.typeIs (by decide) ?_)
 refine aA (wpAny_callSpecial?_slot (name:=nD "__getitem__") ht.typeIs cN
  (fW cN ht.typeIs entry_tuple_getitem ?_ (args_tuple_getitem _ _)))
 show bL _ _ (nA (.ref t) >>= _) _ _ s;refine aA (tupleItemsOf_ ht ?_);refine aA (wpAny_typeOf hTs ?_);rw[if_pos (by decide)]
 refine aA (aa6 hs pl pu ?_);have hno:¬((((sIx items.size 0 lo:Nat):Int)==0&&(1:Int)==1&&(sIx items.size items.size hi - sIx items.size 0 lo)==items.size)=true):=by
  intro q;rw[aV,aV] at q;have q1:((sIx items.size 0 lo:Nat):Int)=0:=eq_of_beq q.1.1;have q2:sIx items.size items.size hi - sIx items.size 0 lo=items.size:=eq_of_beq q.2;exact hw ⟨by omega,by omega⟩
 show bL _ _ (if (((sIx items.size 0 lo:Nat):Int)==0&&(1:Int)==1&&(sIx items.size items.size hi - sIx items.size 0 lo)==items.size)=true then _ else _) _ _ s
 rw[if_neg hno,atm]
 first
  | exact aA (m:=dU _) (dG (aJ ⟨_,rfl,aJ h⟩) htake)
  | exact aA (m:=dU _) (dG (aA (aJ (aJ ⟨_,rfl,aJ h⟩))) htake)
  | exact aA (aA (m:=dU _) (dG (aJ (aJ ⟨_,rfl,aJ h⟩)) htake))
  | exact aA (aA (m:=dU _) (dG (aJ ⟨_,rfl,aJ h⟩) htake))
end
end HT
namespace L2
abbrev TO:=St->Hp->(Option Int->Hp->Prop)->Prop
def PO(X:Cx)(e:Option dZ)(t:TO):Prop :=
 ∀(jv:List (aY×Obj)) (s:aH) (σ:St) (H:Hp) (Q:Option Int->Hp->Prop),Inv X jv σ H s->t σ H Q ->
  bL (bY X.prog X.w) X.A (evalPart e X.env) (fun u s'=>∃o H',Inv X jv σ H' s'/\rW u o/\Q o H') X.xe s
def awo:TO:=fun _ H Q=>Q none H
def a4y(t:TE):TO:=fun σ H Q=>t σ H fun x H1=>∃i,x=.int i/\Q (some i) H1
theorem intsAre_of{ns:List Int}:∀{us:List aG},Vals (ns.map V.int) us->mG us ns:=by
 induction ns with
 | nil=>intro us r;rw[mC] at r;cases r;exact .nil
 | cons n ns ih =>
  intro us r;rw[bR] at r;cases r with
  | cons r1 r2 =>
   obtain⟨t,e⟩:=r1;subst e;exact .cons n t (ih r2)
section
variable{X:Cx}{e:dZ}{te:TE}{lo hi:Option dZ}{tl th:TO}{pos p2:Pos}
theorem axb:PO X none awo:=by
 intro jv s σ H Q I h;rw[evalPart_none];exact aJ ⟨none,H,I,.none,h⟩
theorem axa(h:PE X e te):PO X (some e) (a4y te):=by
 intro jv s σ H Q I hw;rw[evalPart_some];refine thn (h jv s σ H _ I hw) fun u s1 ⟨x,H1,I1,r1,q1⟩ =>?_
 obtain⟨i,rfl,q⟩:=q1;obtain⟨t,rfl⟩:=r1;exact⟨some i,H1,I1,.int i t,q⟩
def SlR(X:Cx)(r:V->Option Int->Option Int->Hp->VK->Prop):Prop :=
 ∀(jv:List (aY×Obj)) (s:aH) (σ:St) (H:Hp) (x:V) (v vl vu:aG) (lo hi:Option Int) (sl:aY) (Q:VK),Inv X jv σ H s->RelV x v->s.heap.IsSliceOf sl vl vu .none->rW vl lo->rW vu hi->r x lo hi H Q ->
  ∃T id,typeLookup (.type T) "__getitem__" = pure (some (.builtin id))/\s.TypeIs v T/\bL (bY X.prog X.w) X.A (oR v (.ref sl)) (EP X jv σ Q) X.xe s
def tSl(r:V->Option Int->Option Int->Hp->VK->Prop)(te:TE)(tl th:TO):TE:=fun σ H Q=>te σ H fun x H1=>tl σ H1 fun l H2=>th σ H2 fun u H3=>r x l u H3 Q
theorem atp{r:V->Option Int->Option Int->Hp->VK->Prop}(hr:SlR X r)(he:PE X e te)(hl:PO X lo tl)(hu:PO X hi th):PE X (.Subscript e (.Slice lo hi none p2) pos) (tSl r te tl th):=by
 intro jv s σ H Q I h;refine Subscript_ (thn (he jv s σ H _ I h) fun v s1 ⟨x,H1,I1,r1,q1⟩ =>?_)
 refine wpAny_Slice (thn (hl jv s1 σ H1 _ I1 q1) fun vl s2 ⟨l,H2,I2,pl,q2⟩=>thn (hu jv s2 σ H2 _ I2 q2) fun vu s3 ⟨u,H3,I3,pu,q3⟩ =>?_)
 rw[evalPart_none];refine aJ ?_;have I4:Inv X jv σ H3 { s3 with heap:=s3.heap.push { cls:=.type "slice", data:=.fields #[vl,vu,.none] } }:=I3.kept (t':=s3.toks) fun b ob q=>aB _ q
 obtain⟨T,id,hT,ht,hg⟩:=hr jv { s3 with heap:=s3.heap.push { cls:=.type "slice", data:=.fields #[vl,vu,.none] } } σ H3 x v vl vu l u s3.heap.objs.size Q I4 r1 (qY ..) pl pu q3
 show bL (bY X.prog X.w) X.A (subscriptTail e (.Slice lo hi none p2) v (.ref s3.heap.objs.size)) (EP X jv σ Q) X.xe { s3 with heap:=s3.heap.push { cls:=.type "slice", data:=.fields #[vl,vu,.none] } }
 exact tail_any (ops:=[.ref s3.heap.objs.size,v]) ht hT hg (by with_unfolding_all rfl)
def cutV(xs:List V)(lo hi:Option Int):List V:=(xs.drop (HT.sIx xs.length 0 lo)).take (HT.sIx xs.length xs.length hi - HT.sIx xs.length 0 lo)
theorem agn(xs:List V)(lo hi:Option Int):(cutV xs lo hi).length<=xs.length:=by
 unfold cutV;rw[fO,jD];omega
def rSlT(K:Fg9):V->Option Int->Option Int->Hp->VK->Prop:=fun x lo hi H Q=>∃a xs,x=.ref a/\SqT K H a xs /\
 ¬(HT.sIx xs.length 0 lo=0/\HT.sIx xs.length xs.length hi=xs.length)/\∀p,H p=none->Q (.ref p) (upd H p (.tup (cutV xs lo hi)))
theorem azy:SlR X (rSlT X.K):=by
 intro jv s σ H x v vl vu lo hi sl Q I rx hs pl pu h;obtain⟨a,xs,rfl,hx,hw,q⟩:=h;cases rx;obtain⟨its,r,ht,hz⟩:=I.tuple hx;have hlen:its.toArray.size=xs.length:=by rw[aL];exact r.length.symm
 refine⟨"tuple", _,cN.lookup,ht.typeIs,?_⟩;refine HT.aeq ht hs pl pu (by rw[hlen];exact hw) ?_ (by rw[hlen];exact hz)
 rw[hlen];refine⟨.ref s.heap.objs.size,_,I.laid (t':=s.toks) (o:=.tup (cutV xs lo hi)) (fun b ob q=>aB _ q) (aO _) ?_,rfl,q _ (I.hok.fresh (aO _))⟩
 exact⟨Nat.le_trans (agn xs lo hi) hz,_,(r.drop (HT.sIx xs.length 0 lo)).take (HT.sIx xs.length xs.length hi - HT.sIx xs.length 0 lo),IsTp.new _ _⟩
def a5g(K:Fg9):R2:=fun x y H Q=>∃a b xs ys,x=.ref a/\y=.ref b/\SqT K H a xs/\SqT K H b ys/\xs≠[]/\xs.length+ys.length<=cL /\
 (ys=[]->Q (.ref a) H)/\(ys≠[]->∀p,H p=none->Q (.ref p) (upd H p (.tup (xs++ys))))
theorem Vals.nil_iff{xs:List V}{us:List aG}(r:Vals xs us):us=[]↔xs=[]:=by
 cases r with
 | nil=>simp
 | cons _ _=>simp
theorem axr:OpR X (fY .Add) (a5g X.K):=by
 intro jv s σ H x y v u Q I rx ry h;obtain⟨a,b,xs,ys,rfl,rfl,ha,hb,hx,hz,q1,q2⟩:=h;cases rx;cases ry;obtain⟨its,r1,p1,_⟩:=I.tuple ha;obtain⟨its2,r2,p2,_⟩:=I.tuple hb;refine HT.ay0 p1 p2 (fun z=>hx (r1.nil_iff.mp z)) (fun z=>⟨.ref a,H,I,rfl,q1 (r2.nil_iff.mp z)⟩) (fun z =>?_) (by rw[<-r1.length,<-r2.length];exact hz)
 refine⟨.ref s.heap.objs.size,_,I.laid (t':=s.toks) (o:=.tup (xs++ys)) (fun b ob q=>aB _ q) (aO _) ?_,rfl,q2 (fun w=>z (r2.nil_iff.mpr w)) _ (I.hok.fresh (aO _))⟩
 exact⟨by rw[aW];exact hz,_,r1.append r2,IsTp.new _ _⟩
end
def ixN(n:Nat)(i:Int):Option Nat:=if 0<=i then (if i < n then some i.toNat else none) else if -(n:Int)<=i then some (i+n).toNat else none
def atI{α:Type}(xs:List α)(i:Int):Option α:=(ixN xs.length i).bind fun j=>xs[j]?
theorem aq0{n:Nat}{i:Int}{j:Nat}(h:ixN n i=some j):seqIndex? i n=some j/\j < n /\ -(n:Int)<=i/\i < n:=by
 unfold ixN at h
 by_cases h0:0<=i
 ·rw[if_pos h0] at h
  by_cases h1:i < n
  ·rw[if_pos h1] at h;have e:i.toNat=j:=bO h;exact⟨by rw[seqIndex_of h0 h1,e],by omega,by omega,h1⟩
  ·rw[if_neg h1] at h;cases h
 ·rw[if_neg h0] at h
  by_cases h1 : -(n:Int)<=i
  ·rw[if_pos h1] at h;have e:(i+n).toNat=j:=bO h;exact⟨by rw[seqIndex_neg (by omega) h1,e],by omega,h1,by omega⟩
  ·rw[if_neg h1] at h;cases h
theorem asl{α:Type}{xs:List α}{i:Int}{v:α}(h:atI xs i=some v):∃j,seqIndex? i xs.length=some j/\xs[j]? = some v/\j < xs.length /\ -(xs.length:Int)<=i/\i < xs.length:=by
 unfold atI at h;cases e:ixN xs.length i with
 | none=>rw[e] at h;cases h
 | some j =>
  rw[e] at h;obtain⟨h1,h2,h3,h4⟩:=aq0 e;exact⟨j,h1,h,h2,h3,h4⟩
theorem agv{α:Type}{xs:List α}{j:Nat}{v:α}(h:xs[j]? = some v):atI xs (j:Int)=some v:=by
 have hj:j < xs.length:=(aM.mp h).1;have e:ixN xs.length (j:Int)=some j:=by
  unfold ixN;rw[if_pos (by omega),if_pos (by omega)];simp
 unfold atI;rw[e];exact h
def amc(b:dZ):Prop:=∀o i,subscripted b false o i=operate [o,i] (oR o i)
def IxR(X:Cx)(r:R2):Prop :=
 ∀(value slice:dZ) (jv:List (aY×Obj)) (s:aH) (σ:St) (H:Hp) (x y:V) (v u:aG) (Q:VK),Inv X jv σ H s->RelV x v->RelV y u->r x y H Q ->
  subscripted slice false v u=operate [v,u] (oR v u)->bL (bY X.prog X.w) X.A (subscriptTail value slice v u) (EP X jv σ Q) X.xe s
def MtR(X:Cx)(id:String)(r:V->List V->Hp->VK->Prop):Prop :=
 ∀(jv:List (aY×Obj)) (s:aH) (σ:St) (H:Hp) (x:V) (xs:List V) (v:aG) (us:List aG) (Q:VK),Inv X jv σ H s->RelV x v->Vals xs us->r x xs H Q ->
  bL (bY X.prog X.w) X.A (call (.builtin id) (v::us)) (EP X jv σ Q) X.xe s
section
variable{X:Cx}{a b:dZ}{ta tb:TE}{pos:Pos}
theorem a0s{r:R2}(hr:IxR X r)(ha:PE X a ta)(hb:PE X b tb)(hs:amc b):PE X (.Subscript a b pos) (tOp r ta tb):=by
 intro jv s σ H Q I h;exact Subscript_ (binT ha hb I h fun v u s2 x y H2 I2 rx ry q=>hr a b jv s2 σ H2 x y v u Q I2 rx ry q (hs _ _))
def rIxL(K:Fg9):R2:=fun x y H Q=>∃p xs i v,x=.ref p/\y=.int i/\SqL K H p xs/\atI xs i=some v/\Q v H
def rIxT(K:Fg9):R2:=fun x y H Q=>∃p xs i v,x=.ref p/\y=.int i/\SqT K H p xs/\atI xs i=some v/\Q v H
theorem aqz:IxR X (rIxL X.K):=by
 intro value slice jv s σ H x y v u Q I rx ry h hs;obtain⟨p,xs,i,z,rfl,rfl,hq,he,q⟩:=h;cases rx;obtain⟨t,rfl⟩:=ry;obtain⟨its,r,pl,hz⟩:=I.list hq;obtain⟨j,h1,h2,h3,h4,h5⟩:=asl he;obtain⟨w,ew,rw'⟩:=r.get h2;have hl:=r.length;have hn:=amz;have fin:EP X jv σ Q w s:=⟨z,H,I,rw',q⟩
 by_cases h0:0<=i
 ·have hj:i.toNat=j:=by
   rw[seqIndex_of h0 h5] at h1;exact bO h1
  exact item_listR pl.isList h0 (by omega) (by rw[hj];simpa using ew) fin hs
 ·have hj:(i+(its.toArray.size:Int)).toNat=j:=by
   rw[seqIndex_neg (by omega) h4] at h1
   rw[aL,<-hl];exact bO h1
  exact subscriptTail_builtinR (x:=w) pl.isList.typeIs slot_list_getitem.lookup
   (wpAny_getItem_list_neg (Q:=fun r s'=>r=w/\EP X jv σ Q r s') pl.isList (by omega) (by rw[aL] <;> omega) (by omega) (by rw[hj];simpa using ew) ⟨rfl,fin⟩) hs
theorem a1z:IxR X (rIxT X.K):=by
 intro value slice jv s σ H x y v u Q I rx ry h hs;obtain⟨p,xs,i,z,rfl,rfl,hq,he,q⟩:=h;cases rx;obtain⟨t,rfl⟩:=ry;obtain⟨its,r,pl,hz⟩:=I.tuple hq;obtain⟨j,h1,h2,h3,h4,h5⟩:=asl he;obtain⟨w,ew,rw'⟩:=r.get h2;have hl:=r.length;have hn:=amz;have fin:EP X jv σ Q w s:=⟨z,H,I,rw',q⟩;exact subscriptTail_builtinR (x:=w) pl.typeIs slot_tuple_getitem.lookup
  (getItem_tuple (j:=j) (Q:=fun r s'=>r=w/\EP X jv σ Q r s') pl (by omega) (by omega) (by rw[aL,<-hl];exact h1) (by simpa using ew) ⟨rfl,fin⟩) hs
theorem aok(its:List aG)(n j:Nat)(u:aG):cB (·.setIfInBounds j u) { cls:=.type "list", data:=.seq its.toArray n }={ cls:=.type "list", data:=.seq (its.set j u).toArray n }:=by
 simp[cB]
theorem Inv.lst{jv:List (aY×Obj)}{σ:St}{H:Hp}{s:aH}{p:aY}{xs:List V}(I:Inv X jv σ H s)(h:H p=some (.lst xs)) :
  ∃(its:List aG) (n:Nat),Vals xs its/\s.heap.get? p=some { cls:=.type "list", data:=.seq its.toArray n }/\xs.length<=cL:=by
 obtain⟨z,its,n,r,e⟩:=I.hok p _ h;exact⟨its,n,r,e,z⟩
theorem Inv.lstUpd{jv:List (aY×Obj)}{σ:St}{H:Hp}{s:aH}{p:aY}{xs ys:List V}{its its':List aG}{n n':Nat}{f:Obj->Obj}(I:Inv X jv σ H s)(h:H p=some (.lst xs))
  (ho:s.heap.get? p=some { cls:=.type "list", data:=.seq its.toArray n }) (hf:f { cls:=.type "list", data:=.seq its.toArray n }={ cls:=.type "list", data:=.seq its'.toArray n' }) (r:Vals ys its') (hz:ys.length<=cL) (t:Nat) :
  Inv X jv σ (upd H p (.lst ys)) { s with heap:=s.heap.update p f,toks:=t }:=by
 have e:(s.heap.update p f).get? p=some { cls:=.type "list", data:=.seq its'.toArray n' }:=by
  rw[eX f ho (by rw[hf] <;> rfl),hf]
 refine I.write (x:=p) (e:=p) (by rw[h];trivial) (.inl rfl) (fun b u hb q=>(bQ _ _ (mD hb)).trans q) ⟨_,e⟩ ?_
 exact⟨hz,its',n',r,e⟩
def a5f:V->V->V->Hp->(Hp->Prop)->Prop:=fun o i v H Q=>∃p xs k j,o=.ref p/\i=.int k/\H p=some (.lst xs)/\ixN xs.length k=some j/\Q (upd H p (.lst (xs.set j v)))
theorem set_list:PSet X a5f:=by
 intro jv s σ H o i v ov iv u Q I ro ri rv h;obtain⟨p,xs,k,j,rfl,rfl,hp,hj,q⟩:=h;cases ro;obtain⟨t,rfl⟩:=ri;obtain⟨its,n,r,ho,hz⟩:=I.lst hp;obtain⟨h1,h2,h3,h4⟩:=aq0 hj;have hl:=r.length;have hn:=amz;have I':Inv X jv σ (upd H p (.lst (xs.set j v))) { s with heap:=s.heap.update p (cB (·.setIfInBounds j u)) } :=
  I.lstUpd hp ho (aok its n j u) (r.set rv j) (by rw[dR];exact hz) s.toks
 by_cases h0:0<=k
 ·have hk:k.toNat=j:=by
   rw[seqIndex_of h0 h4] at h1;exact bO h1
  exact PySem.W.ki_setAt ho h0 (by omega) (by rw[aL,<-hl];exact h4) (by rw[hk];exact⟨_,I',q⟩)
 ·have hk:(k+(its.toArray.size:Int)).toNat=j:=by
   rw[seqIndex_neg (by omega) h3] at h1
   rw[aL,<-hl];exact bO h1
  exact PySem.W.ki_setBack ho (by omega) (by rw[aL,<-hl];exact h3) (by omega) (by rw[hk];exact⟨_,I',q⟩)
theorem ajd(lo hi:Option Int)(n:Nat):(lR lo hi none n).1=((HT.sIx n 0 lo:Nat):Int)/\(lR lo hi none n).2.1=((HT.sIx n n hi:Nat):Int)/\(lR lo hi none n).2.2=1:=by
 refine⟨?_,?_,rfl⟩
 ·cases lo with
  | none=>simp[lR,HT.sIx]
  | some i =>
   simp only[lR,HT.sIx,xJ,show(1:Int) > 0 by decide,if_true]
   by_cases h:i < 0
   ·simp only[h,if_true] <;> omega
   ·simp only[h,if_false] <;> omega
 ·cases hi with
  | none=>simp[lR,HT.sIx]
  | some i =>
   simp only[lR,HT.sIx,xJ,show(1:Int) > 0 by decide,if_true]
   by_cases h:i < 0
   ·simp only[h,if_true] <;> omega
   ·simp only[h,if_false] <;> omega
theorem ahs(its:List aG)(lo hi:Option Int):slicePick its.toArray lo hi none=((its.drop (HT.sIx its.length 0 lo)).take (HT.sIx its.length its.length hi - HT.sIx its.length 0 lo)).toArray:=by
 obtain⟨h1,h2,h3⟩:=ajd lo hi its.toArray.size;unfold slicePick;rw[h1,h2,h3];simp only[sliceRange_one,pick_run,aL] <;> rfl
def rSlL(K:Fg9):V->Option Int->Option Int->Hp->VK->Prop:=fun x lo hi H Q=>∃a xs,x=.ref a/\SqL K H a xs/\∀p,H p=none->Q (.ref p) (upd H p (.lst (cutV xs lo hi)))
theorem apq:SlR X (rSlL X.K):=by
 intro jv s σ H x v vl vu lo hi sl Q I rx hs pl pu h;obtain⟨a,xs,rfl,hx,q⟩:=h;cases rx;obtain⟨its,r,ht,hz⟩:=I.list hx;have hlen:=r.length;refine⟨"list", _,slot_list_getitem.lookup,ht.isList.typeIs,?_⟩;refine wpAny_getItem_list_slice ht.isList hs pl pu .none (by simp) ?_ (by rw[aL] <;> omega)
 rw[ahs,<-hlen];refine⟨.ref s.heap.objs.size,_,I.laid (t':=s.toks) (o:=.lst (cutV xs lo hi)) (fun b ob q=>aB _ q) (aO _) ?_,rfl,q _ (I.hok.fresh (aO _))⟩
 exact⟨Nat.le_trans (agn xs lo hi) hz,_,0,(r.drop (HT.sIx xs.length 0 lo)).take (HT.sIx xs.length xs.length hi - HT.sIx xs.length 0 lo),aU _ rfl⟩
theorem akl:adf X (.builtin "len") (fun xs H Q=>∃p ys,xs=[.ref p]/\(SqL X.K H p ys∨SqT X.K H p ys)/\Q (.int ys.length) H):=by
 intro jv s σ H xs us Q I r h;obtain⟨p,ys,rfl,hq,q⟩:=h;obtain⟨u,rfl,rx⟩:=vals1 r;cases rx;have hn:=amz;rcases hq with hq | hq
 ·obtain⟨its,r',pl,hz⟩:=I.list hq;have hlen:=r'.length;exact Calls.call_len_list pl.isList (by simp only[aL] <;> omega) ⟨.int ys.length,H,I.tok _,⟨s.toks+1,by rw[aL,hlen]⟩,q⟩
 ·obtain⟨its,r',pl,hz⟩:=I.tuple hq;have hlen:=r'.length;exact len_tuple pl (by simp only[aL] <;> omega) ⟨.int ys.length,H,I.tok _,⟨s.toks+1,by rw[aL,hlen]⟩,q⟩
theorem akk:adf X (.type "list") (fun xs H Q=>∃p ys,xs=[.ref p]/\(SqL X.K H p ys∨SqT X.K H p ys)/\∀l,H l=none->Q (.ref l) (upd H l (.lst ys))):=by
 intro jv s σ H xs us Q I r h;obtain⟨p,ys,rfl,hq,q⟩:=h;obtain⟨u,rfl,rx⟩:=vals1 r;cases rx;have fin:∀(its:List aG),Vals ys its->ys.length<=cL->∀(h':fD) (c':Nat),(∀b o',s.heap.get? b=some o'->h'.get? b=some o') ->
   h'.get? s.heap.objs.size=some { cls:=.type "list", dict:=none,data:=.seq its.toArray c',slots := #[] }->EP X jv σ Q (.ref s.heap.objs.size) { s with heap:=h' }:=fun its r' hz h' c' kp e =>
  ⟨.ref s.heap.objs.size,_,I.laid (t':=s.toks) kp (aO _) (show vd X.prog X.w _ h' _ (.lst ys) from⟨hz,its,c',r',e⟩),rfl,q _ (I.hok.fresh (aO _))⟩
 rcases hq with hq | hq
 ·obtain⟨its,r',pl,hz⟩:=I.list hq;have hlen:=r'.length;obtain⟨o,ho,hc,n,hd⟩:=pl.isList;exact call_list_seq p (.inl rfl) ho hc hd (fun h' c' kp e=>fin its r' hz h' c' kp e) (by simp only[aL] <;> omega)
 ·obtain⟨its,r',pl,hz⟩:=I.tuple hq;have hlen:=r'.length;obtain⟨o,ho,hc,n,hd⟩:=pl;exact call_list_seq p (.inr rfl) ho hc hd (fun h' c' kp e=>fin its r' hz h' c' kp e) (by simp only[aL] <;> omega)
theorem aa3:adf X (.type "tuple") (fun xs H Q=>∃p ys,xs=[.ref p]/\((SqL X.K H p ys/\∀l,H l=none->Q (.ref l) (upd H l (.tup ys)))∨(SqT X.K H p ys/\Q (.ref p) H))):=by
 intro jv s σ H xs us Q I r h;obtain⟨p,ys,rfl,h⟩:=h;obtain⟨u,rfl,rx⟩:=vals1 r;cases rx;rcases h with⟨hq,q⟩ | ⟨hq,q⟩
 ·obtain⟨its,r',pl,hz⟩:=I.list hq;have hlen:=r'.length;refine call_tuple_list pl.isList (fun h' kp =>?_) (by simp only[aL] <;> omega)
  have I1:Inv X jv σ H { s with heap:=h' }:=I.kept (t':=s.toks) kp
  have I2:Inv X jv σ (upd H h'.objs.size (.tup ys)) { s with heap:=h'.push { cls:=.type "tuple", data:=.seq its.toArray } } :=
   I1.laid (t':=s.toks) (fun b o e=>aB _ e) (aO _) (show vd X.prog X.w _ _ _ (.tup ys) from⟨hz,its,r',IsTp.new _ _⟩)
  exact⟨.ref h'.objs.size,_,I2,rfl,q _ (I1.hok.fresh (aO _))⟩
 ·obtain⟨its,r',pl,hz⟩:=I.tuple hq;exact call_tuple_same pl ⟨.ref p,H,I,rfl,q⟩
def tyV(K:Fg9)(T:String)(x:V)(H:Hp):Prop:=match x with
 | .str _=>T = "str"
 | .int _=>T = "int"
 | .ref p=>(T = "list" /\ ∃xs,SqL K H p xs)∨(T = "tuple" /\ ((∃o,K.lookup p=some o/\o.cls=.type "tuple" /\ o.dict=none)∨∃xs,H p=some (.tup xs))) ∨
   (T = "dict" /\ ((∃kvs,H p=some (.dK kvs))∨∃kvs,H p=some (.dT kvs)))∨(T = "set" /\ ∃S n,H p=some (.set S n))
 | _=>False
theorem azn{jv:List (aY×Obj)}{σ:St}{H:Hp}{s:aH}{T:String}{x:V}{v:aG}(I:Inv X jv σ H s)(r:RelV x v)(ty:tyV X.K T x H) :
  s.TypeIs v T/\∀a,v=.ref a->∃ob,s.heap.get? a=some ob/\ob.dict=none:=by
 cases x with
 | str z =>
  obtain⟨t,rfl⟩:=r;cases(show T = "str" from ty)
  exact⟨typeIs_str s z t,fun _ e=>nomatch e⟩
 | int i =>
  obtain⟨t,rfl⟩:=r;cases(show T = "int" from ty)
  exact⟨typeIs_int s i t,fun _ e=>nomatch e⟩
 | ref p =>
  cases r;rcases ty with⟨rfl,xs,hq⟩ | ⟨rfl,⟨o,hk,hc,hd⟩ | ⟨xs,hk⟩⟩ | ⟨rfl,hk⟩ | ⟨rfl,S,n,hk⟩
  ·obtain⟨its,_,pl,_⟩:=I.list hq;refine⟨pl.isList.typeIs,fun a e =>?_⟩
   cases e;obtain⟨o,n,e,c,hd,_⟩:=pl;exact⟨o,e,hd⟩
  ·refine⟨⟨o,I.kIn p o hk,hc⟩,fun a e =>?_⟩
   cases e;exact⟨o,I.kIn _ o hk,hd⟩
  ·obtain⟨_,_,_,o,e,hc,hd,_⟩:=I.hok p _ hk;refine⟨⟨o,e,hc⟩,fun a e2 =>?_⟩
   cases e2;exact⟨o,e,hd⟩
  ·have z:∃o,s.heap.get? p=some o/\o.ExactDict:=by
    rcases hk with⟨kvs,hk⟩ | ⟨kvs,hk⟩
    ·obtain⟨_,_,_,_,o,_,_,e,ex,_⟩:=I.hok p _ hk;exact⟨o,e,ex⟩
    ·obtain⟨_,_,_,_,o,_,_,e,ex,_⟩:=I.hok p _ hk;exact⟨o,e,ex⟩
   obtain⟨o,e,ex⟩:=z;refine⟨⟨o,e,ex.1⟩,fun a e2 =>?_⟩
   cases e2;exact⟨o,e,ex.2.1⟩
  ·obtain⟨o,_,_,_,e,ex,_⟩:=I.hok p _ hk;refine⟨⟨o,e,ex.1⟩,fun a e2 =>?_⟩
   cases e2;exact⟨o,e,ex.2.1⟩
 | _=>exact fK ty
def tBM(K:Fg9)(T:String)(r:V->List V->Hp->VK->Prop)(to:TE)(t:TA):TE:=fun σ H Q=>to σ H fun x H1=>tyV K T x H1/\t σ H1 fun xs H2=>r x xs H2 Q
variable{o e:dZ}{es:List dZ}{to:TE}{t:TA}{name:Str}{apos cpos:Pos}{T id:String}{r:V->List V->Hp->VK->Prop}
theorem ap9(pa:PlainAttrs T)(slot:Slot T name id)(hty:typeOf (.builtin id)=pure (.type "method_descriptor"))(hm:MtR X id r)(ho:PE X o to)(ha:PA X (e::es) t)
  (hbase:attributeBase o name X.env (eval o X.env)=eval o X.env:=by rfl)
  (hfew:((iZ cpos (aX (e::es) X.env)).all (fun x => !x.1)&&(backToKw cpos (keywordEach [] X.env)).all (fun x=>x.1.isSome)
   && decide ((e::es).length+([]:List pF).length+(if ([]:List pF).isEmpty then 0 else 1) < 30))=true:=by rfl)
  (hline:(apos.endLine==cpos.line)=true:=by rfl) (hs:aX (e::es) X.env=(false,eval e X.env)::aX es X.env:=by rfl) (hplain:(iZ cpos (aX es X.env)).any (·.1)=false:=by rfl) :
  PE X (.Call (.Attribute o name apos) (e::es) [] cpos) (tBM X.K T r to t):=by
 intro jv s σ H Q I h;refine wpAny_Call_method_late hbase hfew hline rfl (thn (ho jv s σ H _ I h) fun v s1 ⟨x,H1,I1,r1,ty,q1⟩ =>?_)
 obtain⟨h1,h2⟩:=azn I1 r1 ty;refine⟨T,id,pa,slot,hty,h1,h2,?_⟩;have hA:=ha cpos jv s1 σ H1 _ I1 q1;rw[hs] at hA ⊢
 refine Calls.callWith_builtin (by show(false||(iZ cpos (aX es X.env)).any (·.1))=false;rw[hplain] <;> rfl) (Calls.evalArgs_plain ?_)
 exact thn hA fun us s2 ⟨vs,H2,I2,r2,q2⟩=>hm jv s2 σ H2 x vs v us Q I2 r1 r2 q2
end
def MtM(X:Cx)(id:String)(r:V->List V->Hp->VK->Prop):Prop :=
 ∀(jv:List (aY×Obj)) (s:aH) (σ:St) (H:Hp) (x:V) (xs:List V) (v:aG) (us:List aG) (Q:VK),Inv X jv σ H s->RelV x v->Vals xs us->r x xs H Q ->
  bL (bY X.prog X.w) X.A (call (.builtin id) (v::us)) (EP X jv σ Q) X.xe s
theorem Vals.one:∀{x:V} {us:List aG},Vals [x] us->∃u,us=[u]/\RelV x u
 | _,_,.cons r .nil=>⟨_,rfl,r⟩
theorem Vals.rep{xs:List V}{us:List aG}(h:Vals xs us):∀k:Nat,Vals (aF k xs).flatten (aF k us).flatten
 | 0=>.nil
 | k+1=>by
  rw[fZ,fZ,cO,cO];exact Vals.append h (Vals.rep h k)
theorem foldl_rep(its:List aG):∀(k:Nat) (acc:List aG),
  mR (fun x1 x2=>x1++x2) acc.toArray (aF k its.toArray)=(acc++(aF k its).flatten).toArray
 | 0,acc=>by simp
 | k+1,acc=>by
  have e:acc.toArray++its.toArray=(acc++its).toArray:=by simp
  have e2:(acc++its)++(aF k its).flatten=acc++(aF (k+1) its).flatten:=by
   rw[fZ,cO,lW]
  rw[<-e2,<-foldl_rep its k (acc++its),<-e,fZ,iB]
section
variable{X:Cx}{jv:List (aY×Obj)}{σ:St}{H:Hp}{s:aH}{l b:aY}{xs ys zs:List V}
theorem Inv.lset{its its':List aG}{n:Nat}{f:Array aG->Array aG}{t':Nat}(I:Inv X jv σ H s)(hH:H l=some (.lst xs))
  (e:s.heap.get? l=some { cls:=.type "list", data:=.seq its.toArray n }) (hf:f its.toArray=its'.toArray) (hv:Vals ys its') (hz:ys.length<=cL) :
  Inv X jv σ (upd H l (.lst ys)) { s with heap:=s.heap.update l (cB f),toks:=t' }:=by
 have q:=PySem.IsL.update e f;rw[hf] at q;refine I.write (x:=l) (e:=l) (by rw[hH];exact trivial) (.inl rfl) (fun b' u hb hu=>(bQ s.heap (cB f) (mD hb)).trans hu) ⟨_,q⟩ ?_
 exact⟨hz,its',_,hv,q⟩
theorem Inv.lnew{its:List aG}{t':Nat}(I:Inv X jv σ H s)(hv:Vals ys its)(hz:ys.length<=cL) :
  Inv X jv σ (upd H s.heap.objs.size (.lst ys)) { s with heap:=s.heap.push { cls:=.type "list", data:=.seq its.toArray },toks:=t' } :=
 I.laid (fun _ _ q=>aB _ q) (aO _) ⟨hz,its,0,hv,aU _ rfl⟩
theorem Inv.fresh(I:Inv X jv σ H s):H s.heap.objs.size=none:=I.hok.fresh (aO _)
theorem Inv.lstM(I:Inv X jv σ H s)(hH:H l=some (.lst xs)):xs.length<=cL/\∃(its:List aG) (n:Nat),Vals xs its/\xs.length=its.length/\s.heap.get? l=some { cls:=.type "list", data:=.seq its.toArray n }:=by
 obtain⟨z,its,n,r,e⟩:=I.hok l _ hH;exact⟨z,its,n,r,r.length,e⟩
theorem atz{n:Nat}(h:n<=cL):uH n=false:=by
 unfold uH;exact decide_eq_false (by omega)
end
section
variable{X:Cx}
def ap3:V->List V->Hp->VK->Prop:=fun x vs H Q=>∃l xs y,x=.ref l/\vs=[y]/\H l=some (.lst xs)/\xs.length < cL/\Q .non (upd H l (.lst (xs++[y])))
theorem xx:MtM X "list.append" ap3:=by
 intro jv s σ H x vs v us Q I rx rv h;obtain⟨l,xs,y,rfl,rfl,hH,hz,q⟩:=h;cases rx;obtain⟨u,rfl,ru⟩:=rv.one;obtain⟨z,its,n,r,hl,e⟩:=I.lstM hH;refine jT F.slot_list_append ⟨_,e,rfl⟩ F.entry_list_append (F.args_list_append_2 _ _) (PySem.list_append l its.toArray n u (by rw[aL];omega)) ⟨e,?_⟩
 refine⟨.non,_,I.lset (its':=its++[u]) hH e (by simp) (r.append (.cons ru .nil)) ?_,rfl,q⟩
 rw[aW,gC];omega
def rCat:R2:=fun x y H Q=>∃l b xs zs,x=.ref l/\y=.ref b/\H l=some (.lst xs)/\H b=some (.lst zs)/\xs.length+zs.length<=cL/\∀p,H p=none->Q (.ref p) (upd H p (.lst (xs++zs)))
theorem a02:OpR X (fY .Add) rCat:=by
 intro jv s σ H x y v u Q I rx ry h;obtain⟨l,b,xs,zs,rfl,rfl,hH,hB,hz,q⟩:=h;cases rx;cases ry;obtain⟨z,its,n,r,hl,e⟩:=I.lstM hH;obtain⟨z2,its2,n2,r2,hl2,e2⟩:=I.lstM hB;refine PySem.P.add_list e e2 ?_ (by rw[aL,aL];omega)
 have ea:its.toArray++its2.toArray=(its++its2).toArray:=by simp
 rw[ea];exact⟨.ref _,_,I.lnew (t':=s.toks) (r.append r2) (by rw[aW];omega),rfl,q _ I.fresh⟩
def rRep:R2:=fun x y H Q=>∃l k xs,x=.ref l/\y=.int k/\H l=some (.lst xs) /\ -(2 ^ 63)<=k/\k < 2 ^ 63/\xs.length*k.toNat<=cL /\
 ∀p,H p=none->Q (.ref p) (upd H p (.lst (aF k.toNat xs).flatten))
theorem len_rep{α:Type}(xs:List α)(k:Nat):(aF k xs).flatten.length=k*xs.length:=by
 induction k with
 | zero=>simp
 | succ k ih=>rw[fZ,cO,aW,ih,Nat.succ_mul,vC]
theorem a0y:OpR X (fY .Mult) rRep:=by
 intro jv s σ H x y v u Q I rx ry h;obtain⟨l,k,xs,rfl,rfl,hH,h1,h2,hz,q⟩:=h;cases rx;obtain⟨t,rfl⟩:=ry;obtain⟨z,its,n,r,hl,e⟩:=I.lstM hH;have hlen:its.toArray.size*k.toNat<=cL:=by rw[aL,<-hl];exact hz
 have hcap:¬its.toArray.size*k.toNat > (2 ^ 63 - 1) / 8:=by
  have:(cL:Nat)<=(2 ^ 63 - 1) / 8:=by decide
  omega
 have hfit:¬(!Builtin.List.listFitsIndex k)=true:=by
  rw[fitsIndex_both h1 h2];exact dI
 have hlong:¬Builtin.List.listTooLong (its.toArray.size*k.toNat)=true:=by
  rw[atz hlen];exact dI
 have hnew:mR (fun x1 x2=>x1++x2) #[] (aF (if its.toArray.isEmpty=true then 0 else k.toNat) its.toArray)=(aF k.toNat its).flatten.toArray:=by
  have f0:∀m:Nat,mR (fun x1 x2=>x1++x2) #[] (aF m its.toArray)=(aF m its).flatten.toArray:=fun m=>by
   have:=foldl_rep its m [];rw[cD] at this;exact this
  rw[f0];cases its with
  | nil=>simp
  | cons a r'=>rw[if_neg (by simp)]
 refine wpAny_binaryOp_repeat_ref (T := "list") (U := "int") (by decide) ⟨_,e,rfl⟩ (fun s'=>typeIs_int s' k t) noFill_list_mul tE lL repeat_list sJ.lookup
  (jT lL (typeIs_int s k t) sO (rR _ _) (int___rmul___int_list k t l its.toArray n)
   ⟨e,rfl,⟨_,e,rfl⟩,jT F.slot_list_mul ⟨_,e,rfl⟩ F.entry_list_mul (F.args_list_mul_2 _ _) (AutoListH.list___mul___list_int_3 l its.toArray n k t hfit hcap hlong) ⟨e,?_⟩⟩)
 rw[hnew];exact⟨.ref _,_,I.lnew (t':=s.toks) (r.rep k.toNat) (by rw[len_rep,uZ];exact hz),rfl,q _ I.fresh⟩
end
section
variable{prog:bV}{w:dO}{A:dB}{E:aG->aH->Prop}{s:aH}
end
section
variable{X:Cx}
end
end L2
namespace Att
open PySem PySem.W PySem.Calls PyProof.Rows
theorem af8{P:Params}{h:fD}:∀(ns:List Int) (vs:List aG),WellAll P h vs (ns.map WData.int)->mG vs ns:=by
 intro ns
 induction ns with
 | nil =>
  intro vs w;rw[mC] at w;cases w;exact .nil
 | cons n ns ih =>
  intro vs w;rw[bR] at w;cases w with
  | cons a b =>
   cases a;exact .cons _ _ (ih _ b)
theorem apu{l:OpenLaw}{n:Nat}(hn:l.most=some n){P:Params}{h:fD}{args:List WData}{vals:List aG}
  (hpre:l.row.toRowW.claim.pre args=true) (hwl:WellAll P h vals args) :
  ∃a vs ns,vals=[cP a]/\args=[WData.list (ns.map WData.int)]/\h.get? a=some { cls:=.type "list", data:=.seq vs.toArray }/\mG vs ns/\ns.length<=n:=by
 have hsh:WShape.hasAll [] args [.list .int]=true:=(pre_splitW hpre).1;have hc:l.pre.holds [] { args:=args }=true:=(pre_splitW hpre).2;obtain⟨d,r,rfl,h1,h2⟩:=hasAllW_cons hsh;obtain rfl:=hasAllW_nil h2;obtain⟨xs,rfl,h3⟩:=hasW_list h1;obtain⟨ns,rfl⟩:=items_int h3;have hlen:ns.length<=n:=by
  unfold OpenLaw.pre at hc;have h4:(WTm.not (.lt (.lit (.int (n:Int))) (.len (.arg 0)))).holds [] { args:=[.list (ns.map .int)] }=true:=by
   have h4:=(holds_andW hc).1;rw[hn] at h4;exact h4
  have h5:=condW_of h4 (w_not (w_lt w_lit (w_len_list (w_arg rfl))));rw[aD] at h5;refine Nat.le_of_not_lt fun q =>?_
  have q':(n:Int) < ((ns.length:Nat):Int):=by omega
  first
   | (rw[decide_eq_true q'] at h5;exact absurd h5 (by decide))
   | (simp at h5;omega)
 cases hwl with
 | cons w1 w2 =>
  cases w2;cases w1 with
  | list ho hall=>exact⟨_,_,ns,rfl,rfl,ho,af8 ns _ hall,hlen⟩
theorem ap6(l:OpenLaw)(args:List WData):l.row.toRowW.claim.post args (.bool true) args=true :=
 postW_of (r:=l.row.toRowW) (X:=(true==true))
  (show WShape.has [] (.bool true) .bool=true by first | rfl | decide | simp[WShape.has,WShape.arms,WShape.armsAll])
  (show(WTm.eq .res (.lit (.bool true))).value [] { args:=args,res:=some (.bool true),after:=args }=some (.bool (true==true)) from w_eq_bool (w_res rfl) w_lit) rfl
theorem ama{l:OpenLaw}{n:Nat}{q:bV}{loose:List Str}{XP:(Str->Option aG)->fD->Prop}{YP:dO->fD->Prop}{d:DefRec}
  (hn:l.most=some n) (hdf:d.params.defaults=[])
  (call:∀(w:dO) (s₀ s₁:aH) (mg mb:Str->Option aG) (fa:aY) (o:Obj) (pm cd doc:aG) (a:aY) (vs:List aG) (ns:List Int),
   Ground q loose [] XP w s₀ mg mb s₁.heap->YP w s₁.heap ->
   s₁.heap.get? fa=some o->o.data=.func (docDef d.name d.params d.body d.scope pm cd doc)->s₁.heap.CodeRec cd d.name->mg d.name=some (.ref fa) ->
   s₁.heap.get? a=some { cls:=.type "list", data:=.seq vs.toArray }->mG vs ns->ns.length<=n->s₁.gens = #[] ->
   qP (bY l.prog w) rD (.call (.ref fa) ⟨[.ref a],[]⟩) (fun r s'=>r=.ok (.ret (.bool true))/\OldK s₁.heap s'.heap/\s'.os=s₁.os/\qG s'.gens) s₁) :
  WalkO q loose XP YP l.row.toRowW d [] (fun f vs=>wK f vs):=by
 intro w s₀ s₁ mg mb G Y fa o pm cd doc dV kV ho hd hcd hD hmg hg args vals as hpre hlay hrd hwl hlo;obtain rfl:dV=.none:=Dflts.none hD hdf;obtain rfl:kV=.none:=Dflts.noKw hD;obtain⟨a,vs,ns,rfl,rfl,hobj,hints,hlen⟩:=apu hn hpre hwl;refine enter_call (codeAny_mono (call w s₀ s₁ mg mb fa o pm cd doc a vs ns G Y ho (fd_plain hd) hcd hmg hobj hints hlen hg) fun r s' hq =>?_)
 obtain⟨rfl,h2,h3,h4⟩:=hq;exact⟨.inl ⟨.bool true,.bool true,[],rfl,fun _=>rfl,.bool true,ap6 l _,fun _=>⟨List.Pairwise.nil,fun _ hm=>(nomatch hm)⟩⟩,h2,h3,h4⟩
section
variable{prog:bV}{w:dO}{A:dB}{E:aG->aH->Prop}{s:aH}{K:Frag}
end
end Att
namespace L2
theorem ai7:∀{vs:List aG} {ns:List Int},mG vs ns->Vals (ns.map V.int) vs
 | _,_,.nil=>.nil
 | _,_,.cons n t h=>.cons ⟨t,rfl⟩ (ai7 h)
def Only(H:Hp):Prop:=∀b,H b=none∨∃o xs,H b=some (.frz o (.lst xs))
theorem aub{P:bV}{w:dO}{K:Fg9}{mg mb:Str->Option aG}{CX:CXT}{k:Nat}{fa a:aY}{fd:fP}{x:Str}{sp:Sp}{s₁:aH}{vs:List aG}{ns:List Int}
  (KX:K.In s₁.heap) (hns:s₁.heap.Ns bB mg) (hb:s₁.heap.Ns builtinsNs mb) (hbb:∀x:Str,x ≠ "__name__" -> mb x=bT x) (hlim:s₁.heap.NoLimit) (hg:s₁.gens = #[])
  (ha:s₁.heap.get? a=some { cls:=.type "list", data:=.seq vs.toArray }) (hi:mG vs ns) (hl:ns.length<=cL) (hr:Room k rD)
  (F:∀base:fD,K.In base->base.Ns bB mg->FnOk P w K mg base CX k fa fd [x] sp) (hbind:∀(s:aH) (u:aG),rT s fd ⟨[u],[]⟩ [(x,u)])
  (hsp:∀H:Hp,Only H->SqL K H a (ns.map V.int)->sp [.ref a] H (fun v _=>v=.bl true) fun _ _ _=>False)
  (hCX:∀H e s',CX [] H s₁ (fun _ _ _=>False) e s'->False) :
  qP (bY P w) rD (.call (.ref fa) ⟨[.ref a],[]⟩) (fun r s'=>r=.ok (.ret (.bool true))/\OldK s₁.heap s'.heap/\s'.os=s₁.os/\qG s'.gens) s₁:=by
 have rv:=ai7 hi;have lenV:=hi.length;have core:∀H:Hp,Only H->SqL K H a (ns.map V.int)->HOk P w H s₁.heap->(∀b,H b≠none->b=a)->(H a≠none->K.lookup a=none) ->
   qP (bY P w) rD (.call (.ref fa) ⟨[.ref a],[]⟩) (fun r s'=>r=.ok (.ret (.bool true))/\OldK s₁.heap s'.heap/\s'.os=s₁.os/\qG s'.gens) s₁:=by
  intro H hO hS hok hA hK;have base_of:∀{b:aY} {o:Obj},s₁.heap.get? b=some o->H b=none->(hidT s₁.heap H).get? b=some o:=fun e n=>auj e n
  have noA:∀{b:aY} {o:Obj} {es:Array DictEntry} {ep:Nat},s₁.heap.get? b=some o->o.data=.dict es ep->H b=none:=fun{b o es ep} e d=>by
   cases q:H b with
   | none=>rfl
   | some u =>
    have e':b=a:=hA b (by rw[q];simp)
    subst e';rw[ha] at e;cases e;have d':Data.seq vs.toArray _=Data.dict es ep:=d;cases d'
  have nsK:∀{b:aY} {m:Str->Option aG},s₁.heap.Ns b m->(hidT s₁.heap H).Ns b m:=fun{b m} ⟨o,es,ep,e,d,r⟩=>⟨o,es,ep,base_of e (noA e d),d,r⟩
  have hKb:K.In (hidT s₁.heap H):=fun b o e=>base_of (KX b o e) (by
   cases q:H b with
   | none=>rfl
   | some u =>
    have e':b=a:=hA b (by rw[q];simp)
    subst e';rw[hK (by rw[q];simp)] at e;cases e)
  have hM:Mod K mg (hidT s₁.heap H):=⟨hKb,nsK hns,⟨mb,nsK hb,hbb⟩,let ⟨mc,h1,h2⟩:=hlim;⟨mc,nsK h1,h2⟩⟩
  have e0:Env0 P w K mg (hidT s₁.heap H) rD [] s₁ H:=⟨rfl,hM,fun b o e=>axt e,vB (aq5 _ _),trivial,fun b hb=>absurd (show b∈([]:List aY) from hb) (by simp),hok,.of_eq hg⟩
  refine codeAny_mono ((F _ hKb (nsK hns)).run rD [] s₁ H ⟨[.ref a],[]⟩ [.ref a] [.ref a] _ _ hr e0 (hbind s₁ (.ref a)) (.cons rfl .nil) (hsp H hO hS)) fun r s' h =>?_
  cases r with
  | error e=>exact(hCX H e s' h).elim
  | ok fl =>
   cases fl with
   | next=>exact fK h
   | brk=>exact fK h
   | cont=>exact fK h
   | ret u =>
    obtain⟨v,H',os,bare,un,hok',r',q⟩:=h;have q':v=.bl true:=q;subst q';obtain rfl:u=tZ true:=r';refine⟨rfl,OldK.of_keep fun b o e =>?_,os,bare⟩
    cases q:H b with
    | none=>exact un.keep b o e q (by intro z;exact absurd (show b∈([]:List aY) from z) (by simp)) (by simp)
    | some u =>
     rcases hO b with z | ⟨ob,xs,z⟩
     ·rw[q] at z;cases z
     ·have z2:=un.frzs b ob _ z;obtain⟨e1,_⟩:=hok b _ z;obtain⟨e2,_⟩:=hok' b _ z2;rw[e] at e1;cases e1;exact e2
 cases hk:K.lookup a with
 | some o =>
  have e:=KX a o hk;rw[ha] at e;cases e;refine core (fun _=>none) (fun _=>.inl rfl) (.inr ⟨_,vs.toArray,_,hk,rfl,rfl,rfl,by rw[aL,lenV];exact hl,by simpa using rv⟩) (fun b u z=>by have z':(none:Option HO)=some u:=z;cases z') (fun b z=>absurd rfl z) fun z=>absurd rfl z
 | none =>
  refine core (fun b=>if b=a then some (.frz { cls:=.type "list", data:=.seq vs.toArray } (.lst (ns.map V.int))) else none) (fun b =>?_) (.inl (.inr ⟨{ cls:=.type "list", data:=.seq vs.toArray },if_pos rfl⟩)) (fun b u z =>?_) (fun b z =>?_) fun _=>hk
  ·by_cases hb:b=a
   ·exact .inr ⟨_,_,if_pos hb⟩
   ·exact .inl (if_neg hb)
  ·by_cases hb:b=a
   ·have z':=(if_pos hb).symm.trans z;cases z';subst hb;exact⟨ha,by rw[aD];exact hl,vs,_,rv,ha⟩
   ·have z':=(if_neg hb).symm.trans z;cases z'
  ·by_cases hb:b=a
   ·exact hb
   ·exact absurd (if_neg hb) z
theorem awg{l:sW}{n k:Nat}{q:bV}{loose:List Str}{XP:(Str->Option aG)->fD->Prop}{YP:dO->fD->Prop}{d:DefRec}{K:Params->Fg9}{CX:dO->CXT}{sp:dO->Sp}{x:Str}
  (hn:l.most=some n) (hn2:n<=cL) (hdf:d.params.defaults=[]) (hr:Room k rD)
  (hY:∀(w:dO) (h:fD),YP w h->(K w.params).In h)
  (F:∀(w:dO) (mg:Str->Option aG) (fa:aY) (h:fD),(K w.params).In h->h.Ns bB mg->mg d.name=some (.ref fa) ->
   ∃fd:fP,(∀(s:aH) (u:aG),rT s fd ⟨[u],[]⟩ [(x,u)]) /\
    ∀base:fD,(K w.params).In base->base.Ns bB mg->FnOk l.prog w (K w.params) mg base (CX w) k fa fd [x] (sp w))
  (hsp:∀(w:dO) (H:Hp) (a:aY) (ns:List Int),ns.length<=n->Only H->SqL (K w.params) H a (ns.map V.int)->sp w [.ref a] H (fun v _=>v=.bl true) fun _ _ _=>False)
  (hCX:∀(w:dO) (H:Hp) (s:aH) (e:aG) (s':aH),CX w [] H s (fun _ _ _=>False) e s'->False) :
  yQ q loose XP YP l.row.toRowW d [] (fun f vs=>wK f vs):=by
 refine Att.ama hn hdf fun w s₀ s₁ mg mb fa o pm cd doc a vs ns G Y ho hd hcd hmg hobj hints hlen hg =>?_
 have KX:=hY w _ Y;obtain⟨fd,hb,hF⟩:=F w mg fa _ KX G.T.g hmg;exact aub KX G.T.g G.T.b G.T.builtins G.T.nolimit hg hobj hints (cM hlen hn2) hr hF hb (fun H hO hS=>hsp w H a ns hlen hO hS) fun H e s'=>hCX w H s₁ e s'
def my(s:iY):Arguments:=match s with
 | .FunctionDef _ a _ _ _ _ _ _ _ _=>a
 | _=>{ posonlyargs:=[],args:=[],vararg:=none,kwonlyargs:=[],kw_defaults:=[],kwarg:=none,defaults:=[] }
def ji(s:iY):List iY:=match s with
 | .FunctionDef _ _ b _ _ _ _ _ _ _=>b
 | _=>[]
def ao(s:iY):mX:=match s with
 | .FunctionDef _ _ _ _ _ _ sc _ _ _=>sc
 | _=>{ kind:=.function,names:=[],isGenerator:=false,isCoroutine:=false }
abbrev CX0:CXT:=fun _ _ _ _ _ _=>False
abbrev E0:XK:=fun _ _ _=>False
theorem a5r{X:Cx}:asq CX0 X E0:=fun _ _ _ _ _ _ _ h=>h.elim
structure Fun (K:Fg9) (x qual:Str) (st:iY) (f:aY) (fd:fP):Prop where
 ex:∃(oc:aG) (od:Option aY) (kV doc pm:aG) (an:Option aY) (cdv ct:aG) (osl:Array (Option aG)),
  fd=fnOf x qual (my st) (ji st) (ao st) .none kV doc pm an cdv ct/\K.lookup f=some ⟨oc,od,.func fd,osl⟩/\codeIn K cdv qual=true
 kp:nR K (.ref f)=true
section
variable{P:bV}{w:dO}{K:Fg9}{mg:Str->Option aG}{base:fD}
theorem Fun.ok{x qual:Str}{st:iY}{f:aY}{fd:fP}{N ps:List Str}{k:Nat}{sp:Sp}(F:Fun K x qual st f fd)(S:FnScope N ps (ao st))(len:∀vs H Q E,sp vs H Q E->vs.length=ps.length)
  (hbody:∀(cdv:aG) (A:dB) (outer:List Env) (s:aH) (H:Hp) (vs:List V) (Q:VK) (E:XK),Room k (A.deeper (pH qual (ao st) s.heap.objs.size f cdv))->sp vs H Q E ->
   ∃t,PSs (cxOf CX0 P w K mg base N qual (ao st) f cdv A outer s H E).nox (ji st) t/\t { nx:=fun _ H'=>Q .non H',rt:=Q } (start N vs) H):FnOk P w K mg base CX0 (k+1) f fd ps sp:=by
 obtain⟨oc,od,kV,doc,pm,an,cdv,ct,osl,rfl,lk,hcd⟩:=F.ex;refine a2o lk hcd S len fun A outer s H vs Q E hr hsp =>?_
 obtain⟨t,h,q⟩:=hbody cdv A outer s H vs Q E hr hsp;exact⟨t,h.nox,q⟩
theorem Fun.binds{x qual:Str}{st:iY}{f:aY}{fd:fP}{ps:List Str}(F:Fun K x qual st f fd)
  (h:∀(kV doc pm:aG) (an:Option aY) (cdv ct:aG) (us:List aG),us.length=ps.length->bindArgs (fnOf x qual (my st) (ji st) (ao st) .none kV doc pm an cdv ct) ⟨us,[]⟩=pure (ps.zip us)):Binds K fd ps []:=by
 obtain⟨oc,od,kV,doc,pm,an,cdv,ct,osl,rfl,lk,hcd⟩:=F.ex;exact .all (h kV doc pm an cdv ct)
theorem av4{x qual:Str}{st:iY}{f:aY}{oc:aG}{od an:Option aY}{osl:Array (Option aG)}{kV doc pm cdv ct:aG}(l:K.lookup f=some ⟨oc,od,.func (fnOf x qual (my st) (ji st) (ao st) .none kV doc pm an cdv ct),osl⟩)
  (c:codeIn K cdv qual=true) (k:nR K (.ref f)=true):Fun K x qual st f (fnOf x qual (my st) (ji st) (ao st) .none kV doc pm an cdv ct):=⟨⟨oc,od,kV,doc,pm,an,cdv,ct,osl,rfl,l,c⟩,k⟩
end
theorem abi{n:Nat}(h:n<=1000):n < cL:=jM h (by decide)
section
variable{X:Cx}
theorem pv(i:Nat){x:Str}{pos:Pos}(hN:X.N[i]? = some x:=by rfl)(hv:Vis X.env.scope x:=by first | exact bU rfl | exact sX (bU rfl) | exact sX (sX rfl))(hd:(x==("__debug__" : Str))=false:=by decide)
  (hcd:(x==("__classdict__" : Str))=false:=by decide):PE X (.Name x pos) (tVar i):=a0k hN hv hd hcd
end
theorem iteF{A B:Prop}(h:B):if false=true then A else B:=by
 rw[if_neg dI];exact h
theorem iteT{A B:Prop}(h:A):if true=true then A else B:=by
 rw[if_pos rfl];exact h
def Same(H H':Hp):Prop:=∀b o,H b=some o->H' b=some o
theorem Same.refl(H:Hp):Same H H:=fun _ _ h=>h
theorem Same.trans{H H1 H2:Hp}(a:Same H H1)(b:Same H1 H2):Same H H2:=fun c o h=>b c o (a c o h)
theorem Same.seq{K:Fg9}{H H':Hp}{a:aY}{xs:List V}(e:Same H H')(h:SqL K H a xs):SqL K H' a xs:=by
 rcases h with(h | ⟨o,h⟩) | h
 ·exact .inl (.inl (e _ _ h))
 ·exact .inl (.inr ⟨o,e _ _ h⟩)
 ·exact .inr h
end L2
namespace Mn
open L2
def yw(env:Env)(fr:List Str):List (Str×Addr):=fr.filterMap fun n=>(env.cells.lookup n).map fun c=>(n,c)
theorem ags{env:Env}{n:Str}{r:List Str}(e:env.cells.lookup n=none):yw env (n::r)=yw env r:=by
 unfold yw;rw[dY,e];rfl
theorem ade{env:Env}{n:Str}{r:List Str}{c:aY}(e:env.cells.lookup n=some c):yw env (n::r)=(n,c)::yw env r:=by
 unfold yw;rw[dY,e];rfl
theorem look_same{x:Str}{c:aY}{l:List (Str×Addr)}:eV x ((x,c)::l)=some c:=by
 have hb:(x==x)=true:=beq_iff_eq.mpr rfl;simp only[eV,hb]
theorem aha{x n:Str}{c:aY}{l:List (Str×Addr)}(h:x≠n):eV x ((n,c)::l)=l.lookup x:=by
 have hb:(x==n)=false:=beq_eq_false_iff_ne.mpr h;simp only[eV,hb]
theorem uo{env:Env}:∀{fr:List Str} {x:Str} {c:aY},(yw env fr).lookup x=some c->env.cells.lookup x=some c
 | [],x,c,h=>by
  have h':(none:Option aY)=some c:=h;cases h'
 | n::r,x,c,h=>by
  cases e:env.cells.lookup n with
  | none =>
   rw[ags e] at h;exact uo h
  | some d =>
   rw[ade e] at h
   by_cases hx:x=n
   ·subst hx;rw[look_same] at h;rw[e];exact h
   ·rw[aha hx] at h;exact uo h
theorem acg{env:Env}:∀{fr:List Str} {x:Str} {c:aY},x∈fr->env.cells.lookup x=some c->(yw env fr).lookup x=some c
 | [],x,c,hm,h=>absurd hm (by simp)
 | n::r,x,c,hm,h=>by
  by_cases hx:x=n
  ·subst hx;rw[ade h,look_same]
  ·have hm':x∈r:=(aZ.mp hm).elim (fun e=>absurd e hx) id
   cases e:env.cells.lookup n with
   | none =>
    rw[ags e];exact acg hm' h
   | some d =>
    rw[ade e,aha hx];exact acg hm' h
def afr(XN fr:List Str):List Str->List (Option Nat)->Bool
 | [],[]=>true
 | _::N,none::r=>afr XN fr N r
 | x::N,some j::r=>XN[j]? == some x&&fr.contains x&&afr XN fr N r
 | _,_=>false
theorem afq{XN fr:List Str}:∀{N:List Str} {src:List (Option Nat)} {i j:Nat} {x:Str},afr XN fr N src=true->N[i]? = some x->src[i]? = some (some j)->XN[j]? = some x/\x∈fr
 | [],[],i,j,x,_,h,_=>by simp at h
 | [],_::_,i,j,x,_,h,_=>by simp at h
 | _::_,[],i,j,x,_,_,h=>by simp at h
 | y::N,none::r,0,j,x,_,_,h=>by simp at h
 | y::N,none::r,i+1,j,x,hk,h1,h2=>afq (N:=N) (src:=r) (i:=i) hk (by simpa using h1) (by simpa using h2)
 | y::N,some k::r,0,j,x,hk,h1,h2=>by
  simp only[afr,aV] at hk;obtain⟨⟨a,b⟩,_⟩:=hk;simp at h1 h2;subst h1 h2;exact⟨by simpa using a,by simpa using b⟩
 | y::N,some k::r,i+1,j,x,hk,h1,h2=>by
  simp only[afr,aV] at hk;exact afq (N:=N) (src:=r) (i:=i) hk.2 (by simpa using h1) (by simpa using h2)
theorem afp{XN fr:List Str}:∀{N:List Str} {src:List (Option Nat)},afr XN fr N src=true->src.length=N.length
 | [],[],_=>rfl
 | [],_::_,h=>by simp[afr] at h
 | _::_,[],h=>by simp[afr] at h
 | _::N,none::r,h=>by
  have:=afp (N:=N) (src:=r) h;simp[this]
 | _::N,some k::r,h=>by
  simp only[afr,aV] at h;have:=afp (N:=N) (src:=r) h.2;simp[this]
def pick(src:List (Option Nat))(σ:L2.St):L2.St:=src.map fun o=>o.bind fun j=>(σ[j]?).bind id
theorem pick_get{src:List (Option Nat)}{σ:L2.St}{i:Nat}{v:V}(h:(pick src σ)[i]? = some (some v)):∃j,src[i]? = some (some j)/\σ[j]? = some (some v):=by
 unfold pick at h;rw[bK] at h;cases e:src[i]? with
 | none=>rw[e] at h;cases h
 | some o =>
  rw[e] at h;have h':(o.bind fun j=>(σ[j]?).bind id)=some v:=bO h
  cases o with
  | none=>cases h'
  | some j =>
   refine⟨j,rfl,?_⟩;have h2:(σ[j]?).bind id=some v:=h';cases q:σ[j]? with
   | none=>rw[q] at h2;cases h2
   | some z =>
    rw[q] at h2;have h3:z=some v:=h2;rw[h3]
def agp(env:Env)(XN:List Str)(scope:mX)(fr N:List Str)(src:List (Option Nat)):Bool :=
 scope.names.all (fun y=>y.2 != .cell&&(y.2 != .local||scope.names.lookup y.1==some .local)&&(y.2 != .free||fr.contains y.1)) &&
 fr.all (fun x=>scope.names.lookup x==some .free&&(env.kindOf x==some .cell||env.kindOf x==some .free))&&afr XN fr N src
structure CompOk (env:Env) (XN:List Str) (scope:mX) (fr N:List Str) (src:List (Option Nat)):Prop where
 cell:∀y∈scope.names,y.2≠.cell
 loc:∀y∈scope.names,y.2=.local->scope.names.lookup y.1=some .local
 free:∀y∈scope.names,y.2=.free->y.1∈fr
 frk:∀x∈fr,scope.names.lookup x=some .free
 out:∀x∈fr,env.kindOf x=some .cell∨env.kindOf x=some .free
 src:afr XN fr N src=true
theorem CompOk.of{env:Env}{XN:List Str}{scope:mX}{fr N:List Str}{src:List (Option Nat)}(h:agp env XN scope fr N src=true):CompOk env XN scope fr N src:=by
 simp only[agp,aV,bA] at h;obtain⟨⟨h1,h2⟩,h3⟩:=h;refine⟨fun y hy =>?_,fun y hy e =>?_,fun y hy e =>?_,fun x hx =>?_,fun x hx =>?_,h3⟩
 ·have:=(h1 y hy).1.1
  simpa using this
 ·have:=(h1 y hy).1.2;rw[e] at this
  simpa using this
 ·have:=(h1 y hy).2;rw[e] at this
  simpa using this
 ·have:=(h2 x hx).1
  simpa using this
 ·have:=(h2 x hx).2
  simpa using this
theorem aew{env:Env}:∀{names:List (Str×NameKind)} {x:Str} {k:uM},
  (names.map fun(n,k)=>if (k==eU&&env.scope.kind==.function&&env.kindOf n==some .cell) then (n,jW) else (n,k)).lookup x=some k ->
  ∃k0,names.lookup x=some k0/\(k=k0∨(k0=.free/\k=.cell))
 | [],x,k,h=>by simp at h
 | (n,q)::r,x,k,h=>by
  by_cases hx:x=n
  ·subst hx;have hb:(x==x)=true:=beq_iff_eq.mpr rfl;refine⟨q,by simp only[eV,hb],?_⟩
   by_cases hc:(q==eU&&env.scope.kind==.function&&env.kindOf x==some .cell)=true
   ·rw[bR] at h;simp only[hc,if_true,eV,hb] at h;simp only[aV] at hc;exact .inr ⟨by simpa using hc.1.1,(bO h).symm⟩
   ·rw[bR] at h;simp only[hc,eV,hb] at h;exact .inl (by simpa using h.symm)
  ·have hb:(x==n)=false:=beq_eq_false_iff_ne.mpr hx;have h':(r.map fun(n,k)=>if (k==eU&&env.scope.kind==.function&&env.kindOf n==some .cell) then (n,jW) else (n,k)).lookup x=some k:=by
    rw[bR] at h
    by_cases hc:(q==eU&&env.scope.kind==.function&&env.kindOf n==some .cell)=true
    ·simp only[hc,if_true,eV,hb] at h;exact h
    ·have h2:eV x ((if (q==eU&&env.scope.kind==.function&&env.kindOf n==some .cell)=true then (n,jW) else (n,q))::(r.map fun(n,k)=>if (k==eU&&env.scope.kind==.function&&env.kindOf n==some .cell) then (n,jW) else (n,k)))=some k:=h
     rw[if_neg hc] at h2;simp only[eV,hb] at h2;exact h2
   obtain⟨k0,e,d⟩:=aew h';exact⟨k0,by simp only[eV,hb];exact e,d⟩
theorem abp{env:Env}:∀{names:List (Str×NameKind)} {x:Str},names.lookup x=some .free ->
  (names.map fun(n,k)=>if (k==eU&&env.scope.kind==.function&&env.kindOf n==some .cell) then (n,jW) else (n,k)).lookup x=some .free ∨
  (names.map fun(n,k)=>if (k==eU&&env.scope.kind==.function&&env.kindOf n==some .cell) then (n,jW) else (n,k)).lookup x=some .cell
 | [],x,h=>by simp at h
 | (n,q)::r,x,h=>by
  by_cases hx:x=n
  ·subst hx;have hb:(x==x)=true:=beq_iff_eq.mpr rfl;simp only[eV,hb] at h;have hq:q=.free:=bO h;subst hq
   by_cases hc:(eU==eU&&env.scope.kind==.function&&env.kindOf x==some .cell)=true
   ·right
    rw[bR];simp only[hc,if_true,eV,hb]
   ·left
    show eV x ((if (eU==eU&&env.scope.kind==.function&&env.kindOf x==some .cell)=true then (x,jW) else (x,eU))::_)=some eU
    rw[if_neg hc];simp only[eV,hb]
  ·have hb:(x==n)=false:=beq_eq_false_iff_ne.mpr hx;simp only[eV,hb] at h;rw[bR]
   by_cases hc:(q==eU&&env.scope.kind==.function&&env.kindOf n==some .cell)=true
   ·simp only[hc,if_true,eV,hb];exact abp h
   ·simp only[hc,eV,hb]
    simpa[eV,hb] using abp (env:=env) h
def cxC(X:Cx)(N:List Str)(scope:mX)(fr:List Str)(fp:List aY)(s:aH)(H:Hp):Cx where
 prog:=X.prog
 w:=X.w
 K:=X.K
 mg:=X.mg
 base:=X.base
 A:=X.A
 N:=N
 s₀:=s
 H₀:=H
 env:=compEnvC scope (yw X.env fr) s.heap.objs.size X.env
 outer:=X.stack
 stack:=X.stack
 ex:=fp
 fn:=fun _=>false
 calm:=X.calm
 pn:=[]
 xe:=fun _ _=>False
section
variable{X:Cx}{jv:List (aY×Obj)}{σ:L2.St}{H:Hp}{s:aH}{scope:mX}{fr N:List Str}{src:List (Option Nat)}{fp:List aY}
theorem a2v(I:Inv X jv σ H s)(C:CompOk X.env X.N scope fr N src)(hkind:scope.kind=.function)(hf:∀b∈fp,FpOk X jv H b)(hl:∀b∈fp,b < s.heap.objs.size):(cxC X N scope fr fp s H).Ok where
 mod:=I.ok.mod
 kind:=hkind
 glob:=I.ok.glob
 blt:=I.ok.blt
 above:=aO _
 inj:=fun x y c h1 h2=>I.ok.inj x y c (uo h1) (uo h2)
 has:=fun x hx=>by
  have mem:∀k,(k=jW∨k=eU)->(cxC X N scope fr fp s H).env.kindOf x=some k->x∈fr:=fun k hk e=>by
   obtain⟨k0,e0,d⟩:=aew (env:=X.env) (names:=scope.names) e;have hm:=jA e0;rcases d with rfl | ⟨rfl,_⟩
   ·rcases hk with rfl | rfl
    ·exact absurd rfl (C.cell _ hm)
    ·exact C.free _ hm rfl
   ·exact C.free _ hm rfl
  have hm:x∈fr:=by
   rcases hx with e | e
   ·exact mem _ (.inl rfl) e
   ·exact mem _ (.inr rfl) e
  obtain⟨c,hc⟩:=I.ok.has x (C.out x hm);exact⟨c,acg hm hc⟩
 cab:=fun _ _ h _=>absurd h dI
 hd:=I.ok.hd
 frames:=I.ok.frames
 stk:=.inl rfl
 exf:=fun b hb=>⟨Nat.ne_of_lt (hl b hb),fun x c e=>(hf b hb).2.2.2.2.1 x c (uo e)⟩
 bs:=I.bs
 bsz:=cM I.ok.bsz I.sz
 noex:=fun b o e hb=>by
  rcases(hf b hb).2.2.2.1 with z | z
  ·exact I.ok.noex b o e z
  ·exact absurd (bM (aQ e) (cM I.ok.bsz z)) (jV _)
 exfs:=fun b hb z=>by
  rcases aZ.mp (I.stkSub b z) with e | e
  ·exact(hf b hb).2.1 e
  ·exact(hf b hb).2.2.1 e
 funs:=I.stack
 frf:=I.stkFree
theorem am7(I:Inv X jv σ H s)(C:CompOk X.env X.N scope fr N src)(hkind:scope.kind=.function)(hf:∀b∈fp,FpOk X jv H b)(hl:∀b∈fp,b < s.heap.objs.size){h':fD}{tk:Nat}{m:Str->Option aG}
  (hns:h'.Ns s.heap.objs.size m) (hk:∀b o,s.heap.get? b=some o->h'.get? b=some o):Inv (cxC X N scope fr fp s H) [] (pick src σ) H { s with heap:=h',toks:=tk } where
 ok:=a2v I C hkind hf hl
 os:=rfl
 bare:=I.bare
 base:=Un.kept hk
 loc:=by
  refine⟨m,hns,fun i x v h1 h2 h3 =>?_⟩
  obtain⟨j,hj,hv⟩:=pick_get h2;obtain⟨hN,hm⟩:=afq C.src h1 hj;obtain⟨mo,_,hlo⟩:=I.loc;have vis:Vis X.env.scope x:=by
   rcases C.out x hm with e | e
   ·exact .inr (.inl e)
   ·exact .inr (.inr e)
  obtain⟨u,r,l⟩:=hlo j x v hN hv vis;refine⟨u,r,.inr ⟨?_,?_⟩⟩
  ·rcases abp (env:=X.env) (C.frk x hm) with e | e
   ·exact .inr e
   ·exact .inl e
  ·rcases l with⟨e,_⟩ | ⟨_,c,hc,z⟩
   ·rcases C.out x hm with q | q
    ·rw[q] at e;cases e
    ·rw[q] at e;cases e
   ·obtain⟨o,ho,hd⟩:=z;exact⟨c,acg hm hc,o,hk c o ho,hd⟩
 cell:=fun x c e=>by
  obtain⟨v,o,ho,hd⟩:=I.cell x c (uo e);exact⟨v,o,hk c o ho,hd⟩
 free:=I.hok.fresh (aO _)
 freeC:=fun x c e=>I.freeC x c (uo e)
 pin:=fun p hp=>absurd (show p∈([]:List (aY×Obj)) from hp) (by simp)
 hok:=I.hok.kept hk
 len:=by
  unfold pick;rw[aD];exact afp C.src
theorem am8{pins':List (aY×Obj)}{σ':L2.St}{H':Hp}{s':aH}{h'':fD}(I:Inv X jv σ H s)(hf:∀b∈fp,FpOk X jv H b)(J:Inv (cxC X N scope fr fp s H) pins' σ' H' s')
  (hs:gG s.heap.objs.size s'.heap h''):Inv X jv σ H' { s' with heap:=h'' }:=by
 have k:∀b o,b≠s.heap.objs.size->s'.heap.get? b=some o->h''.get? b=some o:=fun b o hb e=>(hs.2 b hb).trans e
 have old:∀b o,s.heap.get? b=some o->b≠s.heap.objs.size:=fun b o e=>bG (aQ e)
 have un:Un (frs X.stack) fp H H' s.heap h'':=by
  have u:Un (frs X.stack) fp H H' s.heap s'.heap:=J.base;refine⟨fun b o e n hb hx=>k b o (old b o e) (u.keep b o e n hb hx),fun b o e n hb hx =>?_,u.free,fun b o e hx =>?_,u.tups,u.frzs,u.tbls⟩
  ·obtain⟨sl,q⟩:=u.slot b o e n hb hx;exact⟨sl,k b _ (old b o e) q⟩
  ·obtain⟨o',q⟩:=u.there b o e hx;exact⟨o',k b _ (old b o e) q⟩
 have hok:HOk X.prog X.w H' h'':=fun b u e=>by
  have nC:∀c z,H' c=some z->c≠s.heap.objs.size:=fun c z q w=>by
   have f:H' s.heap.objs.size=none:=J.free;rw[w,f] at q;cases q
  refine(J.hok b u e).stay (fun c v hc q=>k c v ?_ q) (fun _ q=>q) fun _ _ q=>q
  rcases hc with z | z
  ·rw[z];exact nC b u e
  ·exact nC c _ z
 have os:s'.os=s.os:=J.os;refine Inv.call' (s':={ s' with heap:=h'' }) I os un hok J.bare fun b hb =>?_
 obtain⟨_,f1,_,f3,f4,f5⟩:=hf b hb;exact⟨f3,f1,f4,f5⟩
end
def ak2(ifs:List dZ)(env:Env):Sem Bool:=forIn ifs true fun c r=>if r=true then do let ok <-isTrue c env (eval c env);pure (yF ok) else pure (yF r)
def PIf(X:Cx)(ifs:List dZ)(t:TT):Prop :=
 ∀(jv:List (aY×Obj)) (s:aH) (σ:L2.St) (H:Hp) (Q:Bool->Hp->Prop),Inv X jv σ H s->t σ H Q->bL (bY X.prog X.w) X.A (ak2 ifs X.env) (TP X jv σ Q) X.xe s
def tYes:TT:=fun _ H Q=>Q true H
theorem axd{X:Cx}:PIf X [] tYes:=fun jv s σ H Q I h=>by
 show bL _ _ (pure true) _ _ s;exact aJ ⟨H,I,h⟩
theorem axc{X:Cx}{c:dZ}{t:TT}(hc:PT X c t):PIf X [c] t:=fun jv s σ H Q I h=>by
 unfold ak2;rw[pZ];rw[if_pos rfl];refine aA (aA (thn (hc jv s σ H _ I h) fun b s1 q=>aJ ?_))
 show bL _ _ (forIn [] b _) _ _ s1;exact aJ q
section
variable{prog:bV}{w:dO}{A:dB}{R:Result->aH->Prop}{s:aH}
theorem compLoop{elt target iter:dZ}{ifs:List dZ}{scope:mX}{pos:Pos}{it acc:aG}{env:Env}(I:Nat->aH->Prop)
  (turn:∀n s,I n s->bL (bY prog w) A (pyNext it) (fun r s₁=>match r with
   | none=>R (.ok .next) s₁
   | some v=>bL (bY prog w) A (letOwnedTupleGo target it v) (fun _ s₁'=>bL (bY prog w) A (qK target env v) (fun _ s₂ =>
     bL (bY prog w) A (ak2 ifs env) (fun ok s₃ =>
      if ok=true then bL (bY prog w) A (eval elt env) (fun x s₄ =>
       bL (bY prog w) A (call (.builtin "list.append") [acc,x]) (fun _ s₅=>∃m,m < n/\I m s₅) (fun _ _=>False) s₄) (fun _ _=>False) s₃
      else ∃m,m < n/\I m s₃) (fun _ _=>False) s₂) (fun _ _=>False) s₁') (fun _ _=>False) s₁) (fun _ _=>False) s)
  (n:Nat) (h:I n s) :
  qP (bY prog w) A (.compLoop (.ListComp elt [⟨target,iter,ifs,0⟩] scope pos) 0 it acc env) R s:=by
 refine codeAny_loop rfl I (fun n s hI =>?_) n h
 show bL _ A ((compTurn (.ListComp elt [⟨target,iter,ifs,0⟩] scope pos) 0 it acc env).onRaise (fun x=>do noteFrame x env;theTreesLotGoes x)) _ _ s
 refine wpAny_noted ?_;rw[compTurn_list];refine aA (wpAny_standAt (aA (bC (turn n s hI) (fun r s₁ h₁ =>?_) fun _ _ h'=>h'.elim)))
 cases r with
 | none=>exact aJ h₁
 | some v =>
  refine aA (bC h₁ (fun _ s₁' h₁' =>?_) fun _ _ h'=>h'.elim)
  refine aA (bC h₁' (fun _ s₂ h₂=>aA (bC h₂ (fun ok s₃ h₃ =>?_) fun _ _ h'=>h'.elim)) fun _ _ h'=>h'.elim)
  cases ok with
  | false=>exact aJ ⟨rfl,h₃⟩
  | true =>
   exact aA (aA (bC h₃ (fun x s₄ h₄=>aA (bC h₄ (fun _ s₅ h₅=>aJ (aJ ⟨rfl,h₅⟩)) fun _ _ h'=>h'.elim)) fun _ _ h'=>h'.elim))
end
def a3k(J:It)(g:TG)(ti:TT)(te:TE)(Q:VK)(d:aY)(σ0:L2.St)(H1:Hp):Prop :=
 ∃W:Nat->Nat->List V->L2.St->Hp->Prop,(∃m,W 0 m [] σ0 (upd H1 d (.lst [])))/\∀i m ys σ H2,W i m ys σ H2->H2 d=some (.lst ys) /\
  ((J.stop i H2/\Q (.ref d) H2)∨(J.go i H2/\∀x H3,J.yld i H2 x H3->g x σ H3 fun σ4 H4=>ti σ4 H4 fun b H5 =>
   if b=true then te σ4 H5 fun y H6=>H6 d=some (.lst ys)/\ys.length < cL/\∃m',m' < m/\W (i+1) m' (ys++[y]) σ4 (upd H6 d (.lst (ys++[y]))) else ∃m',m' < m/\W (i+1) m' ys σ4 H5))
def as7(wi:TI)(g:TG)(ti:TT)(te:TE)(src:List (Option Nat)):TE:=fun σ H Q=>wi σ H fun J H1=>∀d,H1 d=none->a3k J g ti te Q d (pick src σ) H1
theorem akh{X:Cx}{tg iter elt:dZ}{ifs:List dZ}{scope:mX}{pos:Pos}{J:It}{fp:List aY}{it d:aY}{tn:Nat->fD->Prop}{g:TG}{ti:TT}{te:TE}{Q:VK}{R:Result->aH->Prop}
  {W:Nat->Nat->List V->L2.St->Hp->Prop} {m0:Nat} {σ0:L2.St} {H0:Hp} {s:aH} (hc:X.calm=true) (hE:X.xe=fun _ _=>False) (T:Turn X.prog X.w X.K tg J fp it tn)
  (hf:∀H':Hp,(∀b∈fp,H' b=none)->∀b∈fp,FpOk X [] H' b) (hg:PG X tg g) (ht:PIf X ifs ti) (he:PE X elt te)
  (turn:∀i m ys σ H2,W i m ys σ H2->H2 d=some (.lst ys) /\
   ((J.stop i H2/\Q (.ref d) H2)∨(J.go i H2/\∀x H3,J.yld i H2 x H3->g x σ H3 fun σ4 H4=>ti σ4 H4 fun b H5 =>
    if b=true then te σ4 H5 fun y H6=>H6 d=some (.lst ys)/\ys.length < cL/\∃m',m' < m/\W (i+1) m' (ys++[y]) σ4 (upd H6 d (.lst (ys++[y]))) else ∃m',m' < m/\W (i+1) m' ys σ4 H5)))
  (w0:W 0 m0 [] σ0 H0) (I0:Inv X [] σ0 H0 s) (st0:tn 0 s.heap) (fr0:∀b∈fp,H0 b=none)
  (hR:∀σ' H' s',Inv X [] σ' H' s'->Q (.ref d) H'->R (.ok .next) s') :
  qP (bY X.prog X.w) X.A (.compLoop (.ListComp elt [⟨tg,iter,ifs,0⟩] scope pos) 0 (.ref it) (.ref d) X.env) R s:=by
 have hE':∀e s',X.xe e s'->False:=fun e s' h=>by rw[hE] at h;exact h
 refine compLoop (fun n s'=>∃i ys σ' H',Inv X [] σ' H' s'/\tn i s'.heap/\(∀b∈fp,H' b=none)/\W i n ys σ' H') ?_ m0 ⟨0,[],σ0,H0,I0,st0,fr0,w0⟩
 rintro n s5 ⟨i,ys,σ5,H5,I5,st5,fr5,w5⟩
 obtain⟨hD,alt⟩:=turn i n ys σ5 H5 w5;rcases alt with⟨stop,qn⟩ | ⟨go,step⟩
 ·refine bC (T.done X rfl rfl rfl hc i [] s5 σ5 H5 (fun _ _=>False) I5 (hf _ fr5) st5 stop) (fun r s6 ⟨hr,I6⟩ =>?_) fun _ _ e=>e
  subst hr;exact hR σ5 H5 s6 I6 qn
 ·refine bC (T.item X rfl rfl rfl hc i [] s5 σ5 H5 (fun _ _=>False) I5 (hf _ fr5) st5 go) (fun r s6 ⟨u,hr,h6⟩ =>?_) fun _ _ e=>e
  subst hr;refine bC h6 (fun _ s7 ⟨x,H7,I7,r7,y7,st7,fr7⟩ =>?_) fun _ _ e=>e
  have I7':=I7.pinned (hf _ fr7) (T.obj _ _ st7);have again:∀{σ':L2.St} {H':Hp} {s':aH} {ys':List V} {m':Nat},Inv X ([]++ajj fp s7.heap) σ' H' s'->W (i+1) m' ys' σ' H'->∃i ys σ' H',Inv X [] σ' H' s'/\tn i s'.heap/\(∀b∈fp,H' b=none)/\W i m' ys σ' H':=fun{σ' H' s' ys' m'} Ia wa=>by
   refine⟨i+1,ys',σ',H',Ia.unpinned,T.keep _ _ _ st7 fun b hb o e=>(Ia.pin (b,o) (dH _ (dH _ (ab9 hb e)))).1,fun b hb =>?_,wa⟩
   obtain⟨o,e,d⟩:=T.obj _ _ st7 b hb;exact(Ia.pin (b,o) (dH _ (dH _ (ab9 hb e)))).2.1
  refine bC (hg _ s7 σ5 H7 x u _ I7' r7 (step x H7 y7)) (fun _ s8 ⟨σ8,H8,I8,q8⟩ =>?_) hE'
  refine bC (ht _ s8 σ8 H8 _ I8 q8) (fun ok s9 ⟨H9,I9,q9⟩ =>?_) hE'
  cases ok with
  | false =>
   rw[if_neg dI] at q9 ⊢
   obtain⟨m',hm,wa⟩:=q9;exact⟨m',hm,again I9 wa⟩
  | true =>
   rw[if_pos rfl] at q9 ⊢
   refine bC (he _ s9 σ8 H9 _ I9 q9) (fun z s10 ⟨y,H10,I10,r10,hd10,hz,m',hm,wa⟩ =>?_) hE'
   refine bC (xx _ s10 σ8 H10 (.ref d) [y] (.ref d) [z] (fun _ H'=>H'=upd H10 d (.lst (ys++[y]))) I10 rfl (.cons r10 .nil) ⟨d,ys,y,rfl,rfl,hd10,hz,rfl⟩) (fun _ s11 ⟨_,H11,I11,_,e11⟩ =>?_) hE'
   subst e11;exact⟨m',hm,again I11 wa⟩
theorem axk{X:Cx}{tg iter elt:dZ}{ifs:List dZ}{scope:mX}{pos:Pos}{wi:TI}{g:TG}{ti:TT}{te:TE}(fr N:List Str)(src:List (Option Nat))(hc:X.calm=true)(hi:PI X tg iter wi)
  (hg:∀fp s H,PG (cxC X N scope fr fp s H) tg g) (ht:∀fp s H,PIf (cxC X N scope fr fp s H) ifs ti) (he:∀fp s H,PE (cxC X N scope fr fp s H) elt te)
  (hok:agp X.env X.N scope fr N src=true:=by rfl) (hkind:scope.kind=.function:=by rfl) (hclos:closureFor scope X.env=pure (yw X.env fr):=by rfl)
  (hs:∀x,foldedSetIterable iter X.env x=pure x:=by intro _;rfl):PE X (.ListComp elt [⟨tg,iter,ifs,0⟩] scope pos) (as7 wi g ti te src):=by
 have C:=CompOk.of hok;intro jv s σ H Q I h;rw[eval_ListComp];refine wpAny_comprehension_free (use:=none) rfl hs hclos hkind C.loc (bC (hi jv s σ H _ I h) (fun v s1 h1=>bC h1 (fun itv s2 h2 =>?_) fun _ _ e=>e) fun _ _ e=>e)
 obtain⟨it,fp,tn,J,H2,e,I2,T,st2,f2,q2⟩:=h2;subst e;have hd0:H2 s2.heap.objs.size=none:=I2.hok.fresh (aO _);obtain⟨W,⟨m0,w0⟩,turn⟩:=q2 s2.heap.objs.size hd0;refine dG ?_;generalize hs3:({ s2 with heap:=s2.heap.push { cls:=.type "list", dict:=none,data:=.seq ([]:List aG).toArray } }:aH)=s3
 have keep2:∀b o,s2.heap.get? b=some o->s3.heap.get? b=some o:=fun b o e=>by rw[<-hs3];exact aB _ e
 have I3:Inv X jv σ (upd H2 s2.heap.objs.size (.lst [])) s3:=by
  rw[<-hs3];exact I2.laid (t':=s2.toks) (fun b u q=>aB _ q) (aO _) ⟨Nat.zero_le _,[],0,.nil,aU _ rfl⟩
 have ne0:∀b∈fp,b≠s2.heap.objs.size:=fun b hb=>by
  obtain⟨o,e,_⟩:=T.obj _ _ st2 b hb;exact bG (aQ e)
 have f3:∀b∈fp,FpOk X jv (upd H2 s2.heap.objs.size (.lst [])) b:=fun b hb=>⟨by rw[cj (ne0 b hb)];exact(f2 b hb).1,(f2 b hb).2⟩
 have lt3:∀b∈fp,b < s3.heap.objs.size:=fun b hb=>by
  obtain⟨o,e,_⟩:=T.obj _ _ st2 b hb;exact aQ (keep2 b o e)
 refine wpAny_newFunctionEnv C.cell (by intro y hy;simp at hy) (fun h₁ hns₁ hsb₁ =>?_) hkind
 have keep3:∀b o,s3.heap.get? b=some o->h₁.get? b=some o:=fun b o e=>hsb₁.extBut b o (bG (aQ e)) (aB _ e)
 have st4:tn 0 h₁:=T.keep _ _ _ st2 fun b hb o e=>keep3 b o (keep2 b o e)
 have I4:=am7 (tk:=s3.toks+([]:List (Str×Value)).length) I3 C hkind f3 lt3 hns₁ keep3;have loop:=akh (X:=cxC X N scope fr fp s3 (upd H2 s2.heap.objs.size (.lst []))) (iter:=iter) (scope:=scope) (pos:=pos) (d:=s2.heap.objs.size)
  (R:=compPost (bY X.prog X.w) X.A X.xe none (EP X jv σ Q) (.ref s2.heap.objs.size) s3.heap.objs.size) hc rfl T
  (fun H' hn b hb=>⟨hn b hb,bG (lt3 b hb),I4.ok.exfs b hb,.inl hb,(I4.ok.exf b hb).2,fun p hp=>absurd (show p∈([]:List (aY×Obj)) from hp) (by simp)⟩)
  (hg fp s3 _) (ht fp s3 _) (he fp s3 _) turn w0 I4 st4 (fun b hb=>(f3 b hb).1) (fun σ' H' s' I6 qn=>by
   obtain⟨m6,hn6,_⟩:=I6.loc;exact⟨m6,hn6,fun h'' hs''=>⟨.ref s2.heap.objs.size,H',am8 I3 f3 I6 hs'',rfl,qn⟩⟩)
 exact codeAny_compStart_list loop (T.self _ 0 _ _ _ st4 loop)
theorem Same.new{H:Hp}{p:aY}(h:H p=none)(o:HO):Same H (upd H p o):=fun b u q=>by rw[cj (jd q h)];exact q
structure ItOf (J:It) (xs:List V) (S:Hp->Prop):Prop where
 go:∀i H,S H->i < xs.length->J.go i H
 yld:∀i H x H',S H->J.yld i H x H'->H'=H/\(i < xs.length->xs[i]? = some x)
 stop:∀i H,S H->xs.length<=i->J.stop i H
theorem auh{K:Fg9}{a:aY}{xs:List V}:ItOf (Itt K a) xs fun H=>SqT K H a xs :=
 ⟨fun i H h hi=>⟨xs,xs[i],h,by simp[hi]⟩,fun i H x H' h y=>⟨y.1,fun _=>y.2 xs h⟩,fun i H h hi=>⟨xs,h,hi⟩⟩
theorem am6{K:Fg9}{a:aY}{xs:List V}:ItOf (Itl K a) xs fun H=>SqL K H a xs :=
 ⟨fun i H h hi=>⟨xs,xs[i],h,by simp[hi]⟩,fun i H x H' h y=>⟨y.1,fun _=>y.2 xs h⟩,fun i H h hi=>⟨xs,h,hi⟩⟩
def ups(lo:Int)(n:Nat):List V:=(aR n).map fun i=>V.int (lo+(i:Nat))
theorem ak0(lo:Int)(n:Nat):(ups lo n).length=n:=by simp[ups]
theorem awh{lo:Int}{n i:Nat}(h:i < n):(ups lo n)[i]? = some (.int (lo+(i:Nat))):=by
 unfold ups;rw[bK,lB h];rfl
theorem aui{lo:Int}{n:Nat}:ItOf (Itr lo n) (ups lo n) fun _=>True :=
 ⟨fun i H _ hi=>by rw[ak0] at hi;exact hi,fun i H x H' _ y=>⟨y.1,fun hi=>by rw[ak0] at hi;rw[awh hi,y.2]⟩,fun i H _ hi=>by rw[ak0] at hi;exact hi⟩
section
variable{X:Cx}
def rAll(K:Fg9):List V->Hp->VK->Prop:=fun xs H Q=>∃(p:aY) (bs:List Bool),xs=[.ref p]/\SqL K H p (bs.map V.bl)/\Q (.bl (bs.all id)) H
theorem ava(hc:X.calm=true):adf X (.builtin "all") (rAll X.K):=by
 intro jv s σ H xs us Q I r h;obtain⟨p,bs,rfl,hq,q⟩:=h;obtain⟨u,rfl,ru⟩:=vals1 r;cases ru;obtain⟨its,rv,pl,hz⟩:=I.list hq;have hl:=pl.isList;have hlen:=rv.length;rw[aD] at hlen;have hlt:p < s.heap.objs.size:=by obtain⟨_,e,_⟩:=hl;exact aQ e
 refine call_all_walk (wpAny_pyIter_list hl ?_);refine⟨s.heap.objs.size,[s.heap.objs.size,p],[s.heap.objs.size],its.toArray.size,_,_,fun i=>(bs[i]?).getD true,rfl,wI (A:=X.A.in1) (I.ok.hd hc) _ p (bG hlt) its.toArray,
  ⟨⟨_,aU _ rfl,rfl,rfl⟩,hl.push _⟩,fun i v s' Q' E' hP hQ =>?_,fun h' tk hk =>?_⟩
 ·have hi:its[i]? = some v:=by simpa using hP
  cases e:bs[i]? with
  | none =>
   have h1:bs.length<=i:=List.getElem?_eq_none_iff.mp e;have h2:i < its.length:=(aM.mp hi).1;omega
  | some b =>
   obtain⟨u,hu,ru⟩:=rv.get (i:=i) (x:=V.bl b) (by rw[bK,e];rfl)
   rw[hi] at hu;cases hu;obtain rfl:v=tZ b:=ru;simp only[e,Option.getD_some] at hQ;exact wpAny_truthy_bool hQ
 ·have e:((aR its.toArray.size).all fun i=>(bs[i]?).getD true)=bs.all id:=by
   rw[aL,<-hlen];exact LSm.range_all bs
  rw[e];exact⟨.bl (bs.all id),H,I.kept (t':=tk) (uU hk),rfl,q⟩
end
def Dfn(P:bV)(w:dO)(K:Fg9)(mg:Str->Option aG)(base:fD)(x:Str)(ps:List Str)(k:Nat)(sp:Sp):Prop :=
 ∃(f:aY) (fd:fP),FnOk P w K mg base CX0 k f fd ps sp/\mg x=some (.ref f)/\nR K (.ref f)=true/\Binds K fd ps []
section
variable{X:Cx}{x:Str}{ps:List Str}{k:Nat}{sp:Sp}{e:dZ}{es:List dZ}{t:TA}{p pos:Pos}
theorem a5p(F:Dfn X.prog X.w X.K X.mg X.base x ps k sp)(hr:Room k X.A)(hg:Gl X x)(ha:PA X (e::es) t)(hdb:(x==("__debug__" : Str))=false:=by decide)
  (he:aX (e::es) X.env=(false,eval e X.env)::aX es X.env:=by rfl) (hpl:(iZ pos (aX es X.env)).any (·.1)=false:=by rfl):PE X (.Call (.Name x p) (e::es) [] pos) (awp sp [] E0 t):=by
 obtain⟨f,fd,F,hm,hk,hb⟩:=F;exact axm F hr hg hm hk hb .nil a5r ha hdb he hpl
theorem afy{T:String}(hg:Gl X x)(hm:X.mg x=none)(hv:bT x=some (.type T))(hn:x ≠ "__name__" := by decide)(hd:(x==("__debug__" : Str))=false:=by decide):PE X (.Name x pos) (tC (.ty T)) :=
 axn hg hm hv rfl hn hd
end
section
variable{X:Cx}
end
section
variable{prog:bV}{w:dO}{A:dB}{E:aG->aH->Prop}{s:aH}
theorem au8{t b:aY}{vs ws:List aG}{Q:aG->aH->Prop}(ht:vI s.heap t vs.toArray)(hb:vI s.heap b ws.toArray)(hv:vs=[])(h:Q (.ref b) s):bL (bY prog w) A (fY .Add (.ref t) (.ref b)) Q E s:=by
 obtain⟨⟨cls,dd,data,sl⟩,ho,hc,n,hd⟩:=id ht;obtain⟨⟨cls2,dd2,data2,sl2⟩,ho2,hc2,n2,hd2⟩:=id hb;simp only at hc hd hc2 hd2;subst hc hd hc2 hd2;exact concat_meets ⟨_,ho,rfl⟩ ⟨_,ho2,rfl⟩ noFill_tuple_add seq_tuple_add pN oZ (oA _ _)
  (tuple_addW0 t b vs.toArray ws.toArray n n2 dd dd2 sl sl2 (by simp[hv])) ⟨ho,ho2,h⟩
end
section
variable{X:Cx}
end
section
variable{X:Cx}
def azt(x:Str)(n:Int):TE:=fun _ H Q=>∀p,H p=none->Q (.ref p) (upd H p (.dK [(mV x,.int n)]))
theorem atq{x:Str}{n:Int}{j1 j2:Nat}{p1 p2 pos:Pos}:PE X (.Dict [some (.Constant (.str x) j1 p1)] [.Constant (.int n) j2 p2] pos) (azt x n):=by
 intro jv s σ H Q I q;have big:sysModules < s.heap.objs.size:=by
  have h:bB < s.heap.objs.size:=(I.mod.glob.keeps I.bk).lt;exact vA (by decide) h
 have hn:=I.hok.fresh (aO s.heap.objs.size);refine wpAny_Dict_walk (knd:=aid X.prog X.w) rfl rfl (by simp) (by show 1<=15;decide) ?_
 refine pairTrees_cons_walk (wG (wpAny_Constant_int (pairTrees_nil_walk ?_)));refine⟨[((mV x:Key),qT n (s.toks+1))],⟨alj X.prog X.w x s.toks,rfl,nU⟩,Heap.DictOf.new s.heap,fun h' dd hs =>?_⟩
 refine⟨.ref s.heap.objs.size,upd H s.heap.objs.size (.dK [(mV x,.int n)]),?_,rfl,q _ hn⟩;refine I.laid (fun b u e=>hs.extBut b u (bG (aQ e)) (aB _ e)) (aO _) ?_
 exact⟨by show 1<=cL;decide,beq_eq_false_iff_ne.mpr (mD (bG big)),_,.cons ⟨rfl,_,rfl⟩ .nil,dd⟩
end
theorem abb:fillsNumberSlot (.type "tuple") "mul" = pure false :=
 PySem.fillsNumberSlot_seq (id := "tuple.__mul__") (r:=some (.builtin "tuple.__rmul__")) pL.lookup (by decide +kernel) wX.lookup (by decide +kernel)
theorem aev:seqRepeat? (.type "tuple")=pure (some (.builtin "tuple.__mul__")):=by
 unfold seqRepeat?;rw[xG (T := "tuple") (name := "__mul__") (id := "tuple.__mul__") pL.lookup (by decide +kernel),xG (T := "tuple") (name := "__rmul__") (id := "tuple.__rmul__") wX.lookup (by decide +kernel)]
 rfl
theorem aco(a:Int)(t:Tok)(l:aY)(items:Array aG)(n:Nat)(dd:Option aY)(sl:Array (Option aG)) :
  Meets (jL.«int.__rmul__» ⟨[.int a t,.ref l],[]⟩) (fun _ R s=>s.heap.get? l=some { cls:=.type "tuple", dict:=dd,data:=.seq items n,slots:=sl }/\R (.ok (.ret Value.notImplemented)) s) :=
 .of_wp fun prog w A R s h=>by obtain⟨hp,g,d,tk,os⟩:=s;obtain⟨hl,h⟩:=h;wp_walk;exact⟨_,rfl,h⟩
theorem an3(l:aY)(items:Array aG)(n:Nat)(dd:Option aY)(sl:Array (Option aG))(x:Int)(u:Tok)(h0:items.isEmpty=false)(h2:2<=x)(h63:x < 2 ^ 63)(hsz:items.size*x.toNat<=cL) :
  Meets (jL.«tuple.__mul__» ⟨[.ref l,.int x u],[]⟩) (fun _ R s=>s.heap.get? l=some { cls:=.type "tuple", dict:=dd,data:=.seq items n,slots:=sl } /\
   R (.ok (.ret (cP s.heap.objs.size))) { s with heap:=s.heap.push { cls:=jG "tuple", data:=Data.seq (mR (fun x1 x2=>x1++x2) #[] (aF x.toNat items)) },toks:=s.toks }) :=
 .of_wp fun prog w A R s h=>by
  obtain⟨hp,g,d,tk,os⟩:=s;obtain⟨hl,h⟩:=h;have c1:(decide (x < -2 ^ 63)||decide (x≥2 ^ 63))=false:=by
   rw[vQ];exact⟨decide_eq_false (by omega),decide_eq_false (by omega)⟩
  have c2:(items.isEmpty||x==1)=false:=by
   rw[h0,Bool.false_or,beq_eq_false_iff_ne];omega
  have c3:(decide (x<=0)||items.isEmpty)=false:=by
   rw[h0,Bool.or_false];exact decide_eq_false (by omega)
  have e4:((items.size:Int)*x)=((items.size*x.toNat:Nat):Int):=by
   have:x=(x.toNat:Int):=by omega
   rw[Int.natCast_mul,<-this]
  have h4:(cL:Int)<=(2 ^ 63 - 1) / 8:=by decide
  have c4:¬((items.size:Int)*x > (2 ^ 63 - 1) / 8):=by rw[e4];omega
  have c5:tO ((items.size:Int)*x)=false:=by
   unfold tO;rw[e4];exact decide_eq_false (by omega)
  wp_walk;refine wpAny_ite_false (by rw[c1];rfl) ?_
  wp_walk;refine wpAny_ite_false (by rw[c2];rfl) ?_
  try dsimp only
  refine wpAny_ite_false (by rw[c3];rfl) ?_
  try dsimp only
  refine wpAny_ite_false (decide_eq_false c4) ?_
  try dsimp only
  refine wpAny_ite_false (by rw[c5];rfl) ?_
  have hso:sizeOk (.seq (mR (fun x1 x2=>x1++x2) #[] (aF x.toNat items))):=by
   show(mR (fun x1 x2=>x1++x2) #[] (aF x.toNat items)).size<=cL
   have hn:=foldl_rep items.toList x.toNat [];rw[cD] at hn;have hn':mR (fun x1 x2=>x1++x2) #[] (aF x.toNat items)=(aF x.toNat items.toList).flatten.toArray:=hn
   rw[hn',aL,len_rep,bF,uZ];exact hsz
  refine aA (m:=dU _) (dG (aJ ⟨_,rfl,h⟩) hso)
theorem an4(l:aY)(items:Array aG)(n:Nat)(dd:Option aY)(sl:Array (Option aG))(x:Int)(u:Tok)(hx:x=1) :
  Meets (jL.«tuple.__mul__» ⟨[.ref l,.int x u],[]⟩) (fun _ R s=>s.heap.get? l=some { cls:=.type "tuple", dict:=dd,data:=.seq items n,slots:=sl }/\R (.ok (.ret (cP l))) s) :=
 .of_wp fun prog w A R s h=>by
  obtain⟨hp,g,d,tk,os⟩:=s;obtain⟨hl,h⟩:=h;have c1:(decide (x < -2 ^ 63)||decide (x≥2 ^ 63))=false:=by
   rw[vQ];exact⟨decide_eq_false (by omega),decide_eq_false (by omega)⟩
  have c2:(items.isEmpty||x==1)=true:=by rw[hx];simp
  wp_walk;exact⟨_,rfl,h⟩
section
variable{X:Cx}
theorem axq:OpR X (fY .Mult) (fun x y H Q=>∃a xs,x=.ref a/\y=.int 1/\H a=some (.tup xs)/\Q (.ref a) H):=by
 intro jv s σ H x y v u Q I rx ry h;obtain⟨a,xs,rfl,rfl,ha,q⟩:=h;cases rx;obtain⟨t,rfl⟩:=ry;obtain⟨its,r1,p1,_⟩:=I.tuple (SqT.of ha);obtain⟨⟨cls,dd,data,sl⟩,ho,hc,n,hd⟩:=id p1;simp only at hc hd;subst hc hd;exact wpAny_binaryOp_repeat_ref (T := "tuple") (U := "int") (by decide) ⟨_,ho,rfl⟩ (fun s'=>typeIs_int s' 1 t) abb tE lL aev sJ.lookup
  (jT lL (typeIs_int s 1 t) sO (rR _ _) (aco 1 t a its.toArray n dd sl)
   ⟨ho,rfl,⟨_,ho,rfl⟩,jT pL ⟨_,ho,rfl⟩ wY (wF _ _) (an4 a its.toArray n dd sl 1 t rfl) ⟨ho,⟨.ref a,H,I,rfl,q⟩⟩⟩)
def az5:R2:=fun x y H Q=>∃a xs k,x=.ref a/\y=.int k/\H a=some (.tup xs)/\xs≠[]/\2<=k/\k < 2 ^ 63/\xs.length*k.toNat<=cL/\∀p,H p=none->Q (.ref p) (upd H p (.tup (aF k.toNat xs).flatten))
theorem atw:OpR X (fY .Mult) az5:=by
 intro jv s σ H x y v u Q I rx ry h;obtain⟨a,xs,k,rfl,rfl,ha,hx,h2,h63,hz,q⟩:=h;cases rx;obtain⟨t,rfl⟩:=ry;obtain⟨its,r1,p1,_⟩:=I.tuple (SqT.of ha);obtain⟨⟨cls,dd,data,sl⟩,ho,hc,n,hd⟩:=id p1;simp only at hc hd;subst hc hd;have hnew:mR (fun x1 x2=>x1++x2) #[] (aF k.toNat its.toArray)=(aF k.toNat its).flatten.toArray:=by
  have:=foldl_rep its k.toNat [];rw[cD] at this;exact this
 refine wpAny_binaryOp_repeat_ref (T := "tuple") (U := "int") (by decide) ⟨_,ho,rfl⟩ (fun s'=>typeIs_int s' k t) abb tE lL aev sJ.lookup
  (jT lL (typeIs_int s k t) sO (rR _ _) (aco k t a its.toArray n dd sl)
   ⟨ho,rfl,⟨_,ho,rfl⟩,jT pL ⟨_,ho,rfl⟩ wY (wF _ _) (an3 a its.toArray n dd sl k t ?_ h2 h63 ?_) ⟨ho,?_⟩⟩)
 ·cases its with
  | nil=>exact absurd (r1.nil_iff.mp rfl) hx
  | cons _ _=>rfl
 ·rw[aL,<-r1.length];exact hz
 ·rw[hnew];refine⟨.ref s.heap.objs.size,_,I.laid (t':=s.toks) (o:=.tup (aF k.toNat xs).flatten) (fun b ob q=>aB _ q) (aO _) ?_,rfl,q _ (I.hok.fresh (aO _))⟩
  exact⟨by rw[len_rep,uZ];exact hz,_,r1.rep k.toNat,IsTp.new _ _⟩
end
section
variable{prog:bV}{w:dO}{A:dB}{E:aG->aH->Prop}{s:aH}
theorem ac4{t sl:aY}{items:Array aG}{vl vu:aG}{lo hi:Option Int}{Q:aG->aH->Prop}(ht:vI s.heap t items)(hs:s.heap.IsSliceOf sl vl vu .none)(pl:rW vl lo)(pu:rW vu hi)
  (h1:HT.sIx items.size 0 lo=0) (h2:HT.sIx items.size items.size hi=items.size) (h:Q (.ref t) s):bL (bY prog w) A (oR (.ref t) (.ref sl)) Q E s:=by
 obtain⟨os,hos,hcs,hds⟩:=id hs;have hTs:s.TypeIs (.ref sl) "slice" := ⟨os,hos,hcs⟩;unfold oR
 try with_reducible refine cU ?_
 first | refine aA (aJ ?_) | skip
 refine aA (wpAny_sequenceKey ht.typeIs (by decide) ?_)
 refine aA (wpAny_callSpecial?_slot (name:=nD "__getitem__") ht.typeIs cN
  (fW cN ht.typeIs entry_tuple_getitem ?_ (args_tuple_getitem _ _)))
 show bL _ _ (nA (.ref t) >>= _) _ _ s;refine aA (tupleItemsOf_ ht ?_);refine aA (wpAny_typeOf hTs ?_);rw[if_pos (by decide)]
 refine aA (HT.aa6 hs pl pu ?_);have hyes:(((HT.sIx items.size 0 lo:Nat):Int)==0&&(1:Int)==1&&(HT.sIx items.size items.size hi - HT.sIx items.size 0 lo)==items.size)=true:=by
  rw[h1,h2];simp
 show bL _ _ (if (((HT.sIx items.size 0 lo:Nat):Int)==0&&(1:Int)==1&&(HT.sIx items.size items.size hi - HT.sIx items.size 0 lo)==items.size)=true then _ else _) _ _ s
 rw[if_pos hyes];refine aA (aA (wpAny_typeOf ht.typeIs (aJ ?_)));rw[if_pos (by decide)]
 exact aA (wpAny_rule (aJ ⟨_,rfl,aJ h⟩))
end
section
variable{X:Cx}
end
section
variable{X:Cx}(K:Fg9)(hK:X.K=K)
include hK
variable{tg:dZ}
end
theorem jy:bT "len" = some (.builtin "len"):=by decide +kernel
theorem ae7:bT "all" = some (.builtin "all"):=by decide +kernel
theorem bu:bT "isinstance" = some (.builtin "isinstance"):=by decide +kernel
theorem a3c:bT "max" = some (.builtin "max"):=by decide +kernel
theorem a3b:bT "min" = some (.builtin "min"):=by decide +kernel
theorem anw:bT "sum" = some (.builtin "sum"):=by decide +kernel
theorem akp:bT "sorted" = some (.builtin "sorted"):=by decide +kernel
theorem asb:bT "divmod" = some (.builtin "divmod"):=by decide +kernel
theorem asa:bT "int" = some (.type "int"):=by decide +kernel
theorem asd:bT "bool" = some (.type "bool"):=by decide +kernel
theorem lg:bT "tuple" = some (.type "tuple"):=by decide +kernel
theorem aiy:bT "list" = some (.type "list"):=by decide +kernel
theorem a3a:bT "set" = some (.type "set"):=by decide +kernel
theorem akq:bT "enumerate" = some (.type "enumerate"):=by decide +kernel
structure ExcK (K:Fg9) (C:aY):Prop where
 ga:qJ K (.ref C) "__getattribute__" = some (some (.builtin "BaseException.__getattribute__"))
 gh:qJ K (.ref C) "__getattr__" = some none
 be:oW K C (.type "BaseException")=some true
 hd:nW K C=true
 cl:qJ K (.ref C) "__class__" = some (some (.builtin "object.__class__"))
 sp:lU K (.builtin "object.__class__") "__get__" = some (some (.builtin "getset_descriptor.__get__"))
 tk:pR K (.builtin "object.__class__")=some true
 ob:oW K C (.type "object")=some true
 no:∀T∈["int","bool","tuple","list","str","dict"],gQ K (.ref C) (.type T)=some false
theorem al0{K:Fg9}{C:aY}{od:Option Obj}{name:Str}{a g:aG}(hc:(mL K C).isSome=true)(ha:qJ K (.ref C) name=some (some a))(hg:lU K a "__get__" = some (some g))(ht:pR K a=some true):pU K C od name=some (.bind g a):=by
 obtain⟨cd,hc⟩:=uD.mp hc;unfold pU;rw[hc,eF,ha,eF];simp[hg,ht]
section
variable{prog:bV}{w:dO}{A:dB}{E:aG->aH->Prop}{s:aH}{K:Fg9}{x D:aY}{ox:Obj}{od:Option Obj}{name:Str}
theorem auv{fill expr:Bool}{tk:Tok}{Q:aG->aH->Prop}(X:K.In s.heap)(I:lY s.heap x ox D od)(k:ExcK K D)
  (h:bL (bY prog w) A.in1 (jL.«object.__getattribute__» ⟨[.ref x,.str name tk],[]⟩)
   (fun fin s'=>match fin with | .done (.ret v)=>bL (bY prog w) A (handedOut v) Q E s' | _=>False) (fun _ _=>False) s) :
  bL (bY prog w) A (getAttrBy (.ref x) (.str name tk) fill expr) Q E s:=by
 obtain⟨hh,g,d,t,os⟩:=s;have L0:=I.type (M:=bY prog w);have L1:=vL (M:=bY prog w) X k.ga;have L2:=vL (M:=bY prog w) X k.gh;have L3:oY (bY prog w) hh (isInstance (.ref x) (.type "BaseException")) true:=L0.andThen (PySem.W.looks_mroIn X k.be);unfold getAttrBy;refine cU (aA (L0.at (aA (L1.at ?_))));have hx2:(oU "BaseException.__getattribute__" == oU "object.__getattribute__")=false:=by decide +kernel
 have hx1:(onTheHeap (cP D)&&oU "BaseException.__getattribute__" == oU "object.__getattribute__")=false:=by rw[hx2,tX]
 simp only[hx1,cC,if_false];unfold getAttrByItsOwn hookBefore;rw[if_pos (show onTheHeap (cP D)=true from rfl)]
 refine aA ?_;refine L2.at (aA (wpAny_attempt (cU ?_)));have hx0:(expr&&onTheHeap (oU "BaseException.__getattribute__"))=false:=by cases expr <;> rfl
 unfold callGetattribute;rw[if_neg (by rw[hx0];exact dI)]
 unfold boundAndCalled;refine aA (wpAny_of_eq (uL.ga.bind (.ref x)) ?_);have hk1:builtinKind "BaseException.__getattribute__" = some .slot:=by decide +kernel
 have hs1:splitId "BaseException.__getattribute__" = some ("BaseException","__getattribute__"):=by decide +kernel
 have ha1:=PySem.F.args_bexc_ga (.ref x) (.str name tk);dsimp only[xP,cD];refine wpAny_call (codeAny_call_builtin (id := "BaseException.__getattribute__") (args:=⟨[.ref x,.str name tk],[]⟩) uL.ga.plain PySem.F.entry_bexc_ga ?_);refine PySem.W.check_slot (i := "BaseException.__getattribute__") (owner := "BaseException") (n := "__getattribute__") (self:=.ref x) (rest:=[.str name tk]) (kw:=[]) hk1 hs1 L3 ha1 ?_;refine bC h (fun fin s' z =>?_) fun _ _ z=>z.elim
 rcases fin with(_ | _ | _ | _) | _ <;> first | exact z | exact z.elim
theorem auw{g a:aG}{tk:Tok}{P:aG->aH->Prop}(X:K.In s.heap)(I:lY s.heap x ox D od)(hf:pU K D od name=some (.bind g a))
  (h:bL (bY prog w) A (call g [a,.ref x,.ref D]) P E s) :
  bL (bY prog w) A (jL.«object.__getattribute__» ⟨[.ref x,.str name tk],[]⟩) (fun fin s'=>match fin with | .done (.ret v)=>P v s' | _=>False) E s:=by
 obtain⟨hh,gg,d,t,os⟩:=s;have L0:=I.type (M:=bY prog w);have L1:=PySem.W.looks_find (M:=bY prog w) X I hf;unfold jL.«object.__getattribute__»
 refine aA (aJ (aA (aJ (aA (L0.at (aA (L1.at ?_)))))));show bL _ _ (Builtin.ObjectAttr.bindTo g a (.ref x) (.ref D)) _ _ _;show bL _ _ (oO [a] (call g [a,.ref x,.ref D]) >>= ret) _ _ _;exact aA (cU (bC h (fun v s' z=>aJ z) fun _ _ z=>z))
end
theorem am5{K:Fg9}{x D:aY}(k:ExcK K D):PySem.W.KitX K (.ref x) (.ref D) (fun h=>∃ox od,lY h x ox D od) where
 ty:=fun _ _ _ ⟨_,_,I⟩=>I.type
 it:=fun _ _ X _=>by
  obtain⟨cdD,hcD,_⟩:=pI k.hd;unfold mL at hcD;split at hcD
  ·rename_i c' d' cd' sl' ho;intro A' Q' E' s' k q;unfold isType loadHead;exact aA (wpAny_loadPart (k _ _ (X _ _ ho)) (aJ q))
  ·cases hcD
 ne:=fun h tp dd its n sl X htp=>by
  obtain⟨cdD,hcD,_⟩:=pI k.hd;refine Bool.eq_false_iff.mpr fun q =>?_
  have e:D=tp:=yM (beq_iff_eq.mp q);subst e;unfold mL at hcD;split at hcD
  ·rename_i c' d' cd' sl' ho;have z:=(X _ _ ho).symm.trans htp;cases z
  ·cases hcD
 ca:=fun{prog w A E Q s} X ⟨ox,od,I⟩ q=>by
  have hf:pU K D od "__class__" = some (.bind (.builtin "getset_descriptor.__get__") (.builtin "object.__class__")):=al0 (by obtain⟨cd,hc,_⟩:=pI k.hd;rw[hc];rfl) k.cl k.sp k.tk
  unfold getAttr? getAttrBy?;refine aA (wpAny_mkText (aA (wpAny_attempt (auv (s:={ s with toks:=s.toks+1 }) X I k (auw (s:={ s with toks:=s.toks+1 }) X I hf
   (wpAny_call (PySem.W.class_get (s:={ s with toks:=s.toks+1 }) (ox:=ox) (od:=od) X I k.ob (PySem.W.handed_on rfl (aJ q)))))))))
end Mn
namespace Dn
open L2 Mn
inductive D where
 | non | bl (b:Bool) | int (i:Int) | str (x:Str) | tup (l:List D) | lst (l:List D) | kst (l:List D) | dct (kvs:List (Key×D)) | exn (c:Str) (fs:List (Str×Int)) | dtt (kvs:List (List Int×Int))
def exO(a C:aY)(dx:Option aY):fD->Prop:=fun h=>∃oe vs,h.get? a=some oe/\oe.cls=.ref C/\oe.dict=dx/\oe.data=.fields vs
section
variable(K:Fg9)(F:Hp)
mutual
inductive Is:D->V->Prop
 | non:Is .non .non
 | bl (b:Bool):Is (.bl b) (.bl b)
 | int (i:Int):Is (.int i) (.int i)
 | str (x:Str):Is (.str x) (.str x)
 | tup {a:aY} {vs:List V} {ds:List D} (e:F a=some (.tup vs)) (h:IsL ds vs):Is (.tup ds) (.ref a)
 | lst {a:aY} {vs:List V} {ds:List D} (e:F a=some (.lst vs)) (h:IsL ds vs):Is (.lst ds) (.ref a)
 | kst {a:aY} {vs:List V} {ds:List D} (e:SqL K F a vs) (h:IsL ds vs):Is (.kst ds) (.ref a)
 | dct {a:aY} {kvs:List (Key×V)} {ds:List (Key×D)} (e:F a=some (.dK kvs)) (h:IsK ds kvs):Is (.dct ds) (.ref a)
 | exn {a C:aY} {c:Str} {dx:Option aY} {fs:List (Str×Int)} (e:F a=some (.ext (exO a C dx))) (hc:nsIn K bB c=some (some (.ref C))) (hk:ExcK K C)
   (hf:(dx=none/\fs=[])∨∃d,dx=some d/\F d=some (.xd (fs.map fun p=>(p.1,V.int p.2)))):Is (.exn c fs) (.ref a)
 | dtt {a:aY} {ds:List (List Int×Int)} (e:F a=some (.dT (ds.map fun p=>(p.1.map rF,V.int p.2)))):Is (.dtt ds) (.ref a)
inductive IsL:List D->List V->Prop
 | nil:IsL [] []
 | cons {d:D} {v:V} {ds:List D} {vs:List V} (h:Is d v) (t:IsL ds vs):IsL (d::ds) (v::vs)
inductive IsK:List (Key×D)->List (Key×V)->Prop
 | nil:IsK [] []
 | cons {k:Key} {d:D} {v:V} {ds:List (Key×D)} {vs:List (Key×V)} (h:Is d v) (t:IsK ds vs):IsK ((k,d)::ds) ((k,v)::vs)
end
end
section
variable{K:Fg9}{F F':Hp}
mutual
theorem Is.mono(g:Same F F'):∀{d:D} {v:V},Is K F d v->Is K F' d v
 | _,_,.non=>.non
 | _,_,.bl b=>.bl b
 | _,_,.int i=>.int i
 | _,_,.str x=>.str x
 | _,_,.tup e h=>.tup (g _ _ e) (IsL.mono g h)
 | _,_,.lst e h=>.lst (g _ _ e) (IsL.mono g h)
 | _,_,.kst e h=>.kst (L2.Same.seq g e) (IsL.mono g h)
 | _,_,.dct e h=>.dct (g _ _ e) (IsK.mono g h)
 | _,_,.exn e hc hk hf=>.exn (g _ _ e) hc hk (hf.imp id fun⟨d,h1,h2⟩=>⟨d,h1,g _ _ h2⟩)
 | _,_,.dtt e=>.dtt (g _ _ e)
theorem IsL.mono(g:Same F F'):∀{ds:List D} {vs:List V},IsL K F ds vs->IsL K F' ds vs
 | _,_,.nil=>.nil
 | _,_,.cons h t=>.cons (Is.mono g h) (IsL.mono g t)
theorem IsK.mono(g:Same F F'):∀{ds:List (Key×D)} {vs:List (Key×V)},IsK K F ds vs->IsK K F' ds vs
 | _,_,.nil=>.nil
 | _,_,.cons h t=>.cons (Is.mono g h) (IsK.mono g t)
end
theorem IsL.length:∀{ds:List D} {vs:List V},IsL K F ds vs->ds.length=vs.length
 | _,_,.nil=>rfl
 | _,_,.cons _ t=>by simp[IsL.length t]
theorem IsL.append:∀{ds es:List D} {vs ws:List V},IsL K F ds vs->IsL K F es ws->IsL K F (ds++es) (vs++ws)
 | _,_,_,_,.nil,h=>h
 | _,_,_,_,.cons h t,k=>.cons h (IsL.append t k)
theorem IsL.take:∀{ds:List D} {vs:List V} (n:Nat),IsL K F ds vs->IsL K F (ds.take n) (vs.take n)
 | _,_,0,_=>by simpa using IsL.nil
 | _,_,_+1,.nil=>.nil
 | _,_,n+1,.cons h t=>.cons h (IsL.take n t)
theorem IsL.drop:∀{ds:List D} {vs:List V} (n:Nat),IsL K F ds vs->IsL K F (ds.drop n) (vs.drop n)
 | _,_,0,h=>h
 | _,_,_+1,.nil=>.nil
 | _,_,n+1,.cons _ t=>IsL.drop n t
theorem IsL.get:∀{ds:List D} {vs:List V} {i:Nat} {d:D},IsL K F ds vs->ds[i]? = some d->∃v,vs[i]? = some v/\Is K F d v
 | _,_,_,_,.nil,e=>by simp at e
 | _,_,0,_,.cons h _,e=>by simp at e;subst e;exact⟨_,rfl,h⟩
 | _,_,i+1,v,.cons _ t,e=>by
  obtain⟨d,h1,h2⟩:=IsL.get (i:=i) (d:=v) t (by simpa using e)
  exact⟨d,by simpa using h1,h2⟩
theorem IsL.set{d:D}{v:V}(h:Is K F d v):∀{ds:List D} {vs:List V} (i:Nat),IsL K F ds vs->IsL K F (ds.set i d) (vs.set i v)
 | _,_,_,.nil=>.nil
 | _,_,0,.cons _ t=>.cons h t
 | _,_,i+1,.cons q t=>.cons q (IsL.set h i t)
theorem IsL.rep{ds:List D}{vs:List V}(h:IsL K F ds vs):∀k:Nat,IsL K F (aF k ds).flatten (aF k vs).flatten
 | 0=>by simpa using IsL.nil
 | k+1=>by
  rw[fZ,fZ,cO,cO];exact h.append (IsL.rep h k)
theorem IsL.int_inv{ns:List Int}:∀{vs:List V},IsL K F (ns.map D.int) vs->vs=ns.map V.int:=by
 induction ns with
 | nil =>
  intro _ h;cases h;rfl
 | cons n r ih =>
  intro _ h;cases h with
  | cons h t =>
   cases h;rw[ih t];rfl
theorem IsL.bl_inv{ns:List Bool}:∀{vs:List V},IsL K F (ns.map D.bl) vs->vs=ns.map V.bl:=by
 induction ns with
 | nil =>
  intro _ h;cases h;rfl
 | cons n r ih =>
  intro _ h;cases h with
  | cons h t =>
   cases h;rw[ih t];rfl
theorem ad0:∀ns:List Int,IsL K F (ns.map D.int) (ns.map V.int)
 | []=>.nil
 | n::r=>.cons (.int n) (ad0 r)
end
inductive Sl where
 | emp | val (d:D) | own (t:Option Nat) (l:List D) | box (c:Str) (fs:List (Str×(Nat ⊕ D))) | lol (ts:List Nat) | lnk (k:Nat)
abbrev Ro:=List Sl
def Owns(ρ:Ro)(σ:L2.St)(i:Nat)(a:aY):Prop:=(∃t l,ρ[i]? = some (.own t l))/\σ[i]? = some (some (.ref a))
def Own(ρ:Ro)(σ:L2.St)(a:aY):Prop:=∃i,Owns ρ σ i a
def SlOk(K:Fg9)(tg:Nat->aY)(F H:Hp):Sl->Option V->Prop
 | .emp,_=>True
 | .val d,o=>∃v,o=some v/\Is K F d v
 | .own t l,o=>∃a vs,o=some (.ref a)/\F a=none/\H a=some (.lst vs)/\IsL K F l vs/\∀k,t=some k->tg k=a
 | .box c fs,o=>∃a C dx fvs,o=some (.ref a)/\F a=none/\H a=some (.ins C dx fvs)/\nsIn K bB c=some (some (.ref C))/\(∀f,fs.lookup f=none->fvs.lookup f=none)/\(∀f k,fs.lookup f=some (.inl k)->fvs.lookup f=some (.ref (tg k)))/\∀f d,fs.lookup f=some (.inr d)->∃v,fvs.lookup f=some v/\Is K F d v
 | .lol ts,o=>∃a,o=some (.ref a)/\F a=some (.lst (ts.map fun k=>V.ref (tg k)))
 | .lnk k,o=>o=some (.ref (tg k))
structure Good (K:Fg9) (tg:Nat->aY) (F H:Hp) (ρ:Ro) (σ:L2.St):Prop where
 sub:Same F H
 len:ρ.length=σ.length
 sl:∀(i:Nat) (s:Sl) (o:Option V),ρ[i]? = some s->σ[i]? = some o->SlOk K tg F H s o
 inj:∀(i j:Nat) (a:aY),Owns ρ σ i a->Owns ρ σ j a->i=j
structure Ext (O O':aY->Prop) (F H F' H':Hp):Prop where
 sub:Same F F'
 new:∀a o,F' a=some o->F a=some o∨H a=none∨O a
 keep:∀a o,H a=some o->¬O a->H' a=some o
 own:∀a,O' a->O a∨H a=none
 there:∀a,H' a=none->H a=none
theorem Ext.refl(O:aY->Prop)(F H:Hp):Ext O O F H F H:=⟨fun _ _ e=>e,fun _ _ e=>.inl e,fun _ _ e _=>e,fun _ h=>.inl h,fun _ h=>h⟩
theorem Ext.trans{O O1 O2:aY->Prop}{F H F1 H1 F2 H2:Hp}(a:Ext O O1 F H F1 H1)(b:Ext O1 O2 F1 H1 F2 H2):Ext O O2 F H F2 H2 where
 sub:=a.sub.trans b.sub
 new:=fun c o e=>by
  rcases b.new c o e with q | q | q
  ·exact a.new c o q
  ·exact .inr (.inl (a.there c q))
  ·rcases a.own c q with z | z
   ·exact .inr (.inr z)
   ·exact .inr (.inl z)
 keep:=fun c o e n=>b.keep c o (a.keep c o e n) fun z=>by
  rcases a.own c z with q | q
  ·exact n q
  ·rw[e] at q;cases q
 own:=fun c z=>by
  rcases b.own c z with q | q
  ·exact a.own c q
  ·exact .inr (a.there c q)
 there:=fun c z=>a.there c (b.there c z)
section
variable{K:Fg9}{tg:Nat->aY}{F H F' H':Hp}{ρ ρ':Ro}{σ:L2.St}
theorem Good.ownAt(G:Good K tg F H ρ σ){a:aY}(h:Own ρ σ a):F a=none/\∃vs,H a=some (.lst vs):=by
 obtain⟨i,⟨t,l,e⟩,q⟩:=h;obtain⟨b,vs,e1,f,e2,_⟩:=G.sl i _ _ e q;cases e1;exact⟨f,vs,e2⟩
theorem Good.grow(G:Good K tg F H ρ σ)(s:Same F F')(s':Same F' H')(k:∀a,Own ρ σ a->F' a=none/\H' a=H a)(kb:∀a C dx fvs,F a=none->H a=some (.ins C dx fvs)->F' a=none/\H' a=H a):Good K tg F' H' ρ σ where
 sub:=s'
 len:=G.len
 inj:=G.inj
 sl:=fun i sl o e q=>by
  have z:=G.sl i sl o e q;cases sl with
  | emp=>trivial
  | val d =>
   obtain⟨v,e1,h⟩:=z;exact⟨v,e1,h.mono s⟩
  | lol ts =>
   obtain⟨a,e1,e2⟩:=z;exact⟨a,e1,s _ _ e2⟩
  | lnk k=>exact z
  | box c fs =>
   obtain⟨a,C,dx,fvs,e1,e2,e3,e4,e7,e5,e6⟩:=z;obtain⟨f1,f2⟩:=kb a C dx fvs e2 e3;exact⟨a,C,dx,fvs,e1,f1,f2.trans e3,e4,e7,e5,fun f d h=>(e6 f d h).imp fun v h=>⟨h.1,h.2.mono s⟩⟩
  | own t l =>
   obtain⟨a,vs,e1,f,e2,h,ht⟩:=z;have w:=k a ⟨i,⟨t,l,e⟩,by rw[q,e1]⟩
   exact⟨a,vs,e1,w.1,by rw[w.2];exact e2,h.mono s,ht⟩
theorem Same.put{p:aY}(s:Same F H)(h:H p=none)(o:HO):Same (upd F p o) (upd H p o):=fun b u e=>by
 by_cases hb:b=p
 ·subst hb;rw[gk] at e ⊢
  exact e
 ·rw[cj hb] at e ⊢
  exact s b u e
theorem Good.freeF(G:Good K tg F H ρ σ){p:aY}(h:H p=none):F p=none:=by
 cases e:F p with
 | none=>rfl
 | some o=>rw[G.sub p o e] at h;cases h
theorem Good.own_ne(G:Good K tg F H ρ σ){p a:aY}(h:H p=none)(w:Own ρ σ a):a≠p:=by
 obtain⟨_,vs,e⟩:=G.ownAt w;exact jd e h
theorem Good.new(G:Good K tg F H ρ σ){p:aY}(h:H p=none)(o:HO):Good K tg (upd F p o) (upd H p o) ρ σ :=
 G.grow (Same.new (G.freeF h) o) (Same.put G.sub h o) (fun a w=>by
  rw[cj (G.own_ne h w),cj (G.own_ne h w)];exact⟨(G.ownAt w).1,rfl⟩) fun a C dx fvs h1 h2=>by
  rw[cj (jd h2 h),cj (jd h2 h)];exact⟨h1,rfl⟩
theorem Good.newX(G:Good K tg F H ρ σ){p:aY}(h:H p=none)(o:HO):Ext (Own ρ σ) (Own ρ σ) F H (upd F p o) (upd H p o) where
 sub:=Same.new (G.freeF h) o
 new:=fun a u e=>by
  by_cases ha:a=p
  ·subst ha;exact .inr (.inl h)
  ·rw[cj ha] at e;exact .inl e
 keep:=fun a u e _=>by rw[cj (jd e h)];exact e
 own:=fun a w=>.inl w
 there:=fun a e=>by
  by_cases ha:a=p
  ·subst ha;exact h
  ·rw[cj ha] at e;exact e
theorem Good.fresh(G:Good K tg F H ρ σ){p:aY}(h:H p=none)(o:HO):Good K tg F (upd H p o) ρ σ :=
 G.grow (Same.refl F) (fun b u e=>by rw[cj (jd (G.sub b u e) h)];exact G.sub b u e) (fun a w=>by
  rw[cj (G.own_ne h w)];exact⟨(G.ownAt w).1,rfl⟩) fun a C dx fvs h1 h2=>⟨h1,cj (jd h2 h)⟩
theorem Good.freshX(G:Good K tg F H ρ σ){p:aY}(h:H p=none)(o:HO):Ext (Own ρ σ) (Own ρ σ) F H F (upd H p o) where
 sub:=Same.refl F
 new:=fun a u e=>.inl e
 keep:=fun a u e _=>by rw[cj (jd e h)];exact e
 own:=fun a w=>.inl w
 there:=fun a e=>by
  by_cases ha:a=p
  ·subst ha;exact h
  ·rw[cj ha] at e;exact e
theorem Good.freeze(G:Good K tg F H ρ σ){p:aY}{o:HO}(h:H p=some o)(n:¬Own ρ σ p)(hf:F p=none)(hi:∀C dx fs,o≠.ins C dx fs:=by intro _ _ _ z;cases z):Good K tg (upd F p o) H ρ σ :=
 G.grow (Same.new hf o) (fun b u e=>by
  by_cases hb:b=p
  ·subst hb;rw[gk] at e;cases e;exact h
  ·rw[cj hb] at e;exact G.sub b u e) (fun a w=>by
  have:a≠p:=fun z=>n (z▸w)
  rw[cj this];exact⟨(G.ownAt w).1,rfl⟩) fun a C dx fvs h1 h2=>by
  have:a≠p:=fun z=>by
   subst z;rw[h] at h2;exact hi _ _ _ (bO h2)
  rw[cj this];exact⟨h1,rfl⟩
end
end Dn
namespace Dn
open L2 Mn
structure Exn where
 cls:Str
 fs:List (Str×Int)
inductive Out (α:Type) where
 | ok (a:α) | exc (x:Exn)
abbrev M(α:Type):=Ro->Option (Out α×Ro)
noncomputable def M.bind{α β:Type}(m:M α)(k:α->M β):M β:=fun ρ=>match m ρ with
 | some (.ok a,ρ1)=>k a ρ1
 | some (.exc x,ρ1)=>some (.exc x,ρ1)
 | none=>none
noncomputable def ret{α:Type}(a:α):M α:=fun ρ=>some (.ok a,ρ)
noncomputable def lift{α:Type}(o:Option α):M α:=fun ρ=>match o with
 | some a=>some (.ok a,ρ)
 | none=>none
section
variable{α β:Type}
theorem bc{m:M α}{k:α->M β}{ρ ρ2:Ro}{b:β}(h:m.bind k ρ=some (.ok b,ρ2)):∃a ρ1,m ρ=some (.ok a,ρ1)/\k a ρ1=some (.ok b,ρ2):=by
 unfold M.bind at h;split at h
 ·exact⟨_,_,by assumption,h⟩
 ·cases h
 ·cases h
theorem gn{o:Option α}{ρ ρ2:Ro}{b:α}(h:lift o ρ=some (.ok b,ρ2)):o=some b/\ρ2=ρ:=by
 unfold lift at h;split at h
 ·cases h;exact⟨rfl,rfl⟩
 ·cases h
theorem jq{a b:α}{ρ ρ2:Ro}(h:ret a ρ=some (.ok b,ρ2)):a=b/\ρ2=ρ:=by
 unfold ret at h;cases h;exact⟨rfl,rfl⟩
theorem bind_eq{m:M α}{k:α->M β}{ρ ρ1:Ro}{a:α}(h:m ρ=some (.ok a,ρ1)):m.bind k ρ=k a ρ1:=by
 unfold M.bind;rw[h]
@[simp] theorem a3l(a:α)(k:α->M β):(ret a).bind k=k a:=rfl
@[simp] theorem a1o(a:α):lift (some a)=ret a:=rfl
end
inductive Rv where
 | v (d:D) | fr (l:List D)
 | tf (d:D) (l:List D)
abbrev Rel(α:Type):=α->V->(H:Hp)->(O:aY->Prop)->(F' H':Hp)->(O':aY->Prop)->Prop
def relD(K:Fg9):Rel D:=fun d v _ _ F' _ _=>Is K F' d v
def Bor(K:Fg9)(F H:Hp)(d:D)(v:V):Prop:=Is K F d v∨∃a vs l,d=.lst l/\v=.ref a/\H a=some (.lst vs)/\IsL K F l vs
def relB(K:Fg9):Rel D:=fun d v _ _ F' H' _=>Bor K F' H' d v
def relR(K:Fg9):Rel Rv:=fun r v H O F' H' O'=>match r with
 | .v d=>Is K F' d v
 | .fr l=>∃a vs,v=.ref a/\(H a=none∨O a)/\F' a=none/\H' a=some (.lst vs)/\IsL K F' l vs/\¬O' a
 | .tf d l=>∃t u a vs,v=.ref t/\F' t=some (.tup [u,.ref a])/\Is K F' d u/\(H a=none∨O a)/\F' a=none/\H' a=some (.lst vs)/\IsL K F' l vs/\¬O' a
def T{α:Type}(K:Fg9)(rel:Rel α)(m:M α):TE:=fun σ H Q=>∃tg F ρ a ρ',Good K tg F H ρ σ/\m ρ=some (.ok a,ρ') /\
 ∀v H' F',Good K tg F' H' ρ' σ->Ext (Own ρ σ) (Own ρ' σ) F H F' H'->rel a v H (Own ρ σ) F' H' (Own ρ' σ)->Q v H'
structure EV (K:Fg9) (X:Cx) (e:dZ) (m:M D):Prop where
 go:X.K=K->PE X e (T K (relD K) m)
instance {K:Fg9} {X:Cx} {e:dZ} {m:M D}:CoeFun (EV K X e m) fun _=>X.K=K->PE X e (T K (relD K) m):=⟨EV.go⟩
structure EB (K:Fg9) (X:Cx) (e:dZ) (m:M D):Prop where
 go:X.K=K->PE X e (T K (relB K) m)
instance {K:Fg9} {X:Cx} {e:dZ} {m:M D}:CoeFun (EB K X e m) fun _=>X.K=K->PE X e (T K (relB K) m):=⟨EB.go⟩
structure ER (K:Fg9) (X:Cx) (e:dZ) (m:M Rv):Prop where
 go:X.K=K->PE X e (T K (relR K) m)
instance {K:Fg9} {X:Cx} {e:dZ} {m:M Rv}:CoeFun (ER K X e m) fun _=>X.K=K->PE X e (T K (relR K) m):=⟨ER.go⟩
theorem PE.imp{X:Cx}{e:dZ}{t t':TE}(h:PE X e t)(w:∀σ H Q,t' σ H Q->t σ H Q):PE X e t':=fun jv s σ H Q I q=>h jv s σ H Q I (w σ H Q q)
section
variable{K:Fg9}{X:Cx}{e a b:dZ}{pos:Pos}
theorem EV.toB{m:M D}(h:EV K X e m):EB K X e m:=EB.mk fun hk=>PE.imp (h hk) fun σ H Q ⟨tg,F,ρ,d,ρ',G,em,q⟩=>⟨tg,F,ρ,d,ρ',G,em,fun v H' F' G' x r=>q v H' F' G' x (.inl r)⟩
def M.v(m:M D):M Rv:=m.bind fun d=>ret (.v d)
theorem EV.toR{m:M D}(h:EV K X e m):ER K X e m.v:=ER.mk fun hk=>PE.imp (h hk) fun σ H Q z9=>by
 obtain⟨tg,F,ρ,r,ρ',G,em,q⟩:=z9;obtain⟨d,ρ1,e1,e2⟩:=bc em;obtain⟨rfl,rfl⟩:=jq e2;exact⟨tg,F,ρ,d,_,G,e1,fun v H' F' G' x r=>q v H' F' G' x r⟩
def Rv.d:Rv->D
 | .v d=>d
 | .fr l=>.lst l
 | .tf d l=>.tup [d,.lst l]
def M.d(m:M Rv):M D:=m.bind fun r=>ret r.d
theorem frz{tg:Nat->aY}{O:aY->Prop}{F H F' H':Hp}{ρ':Ro}{σ':L2.St}{r:Rv}{v:V}(G:Good K tg F' H' ρ' σ')(x:Ext O (Own ρ' σ') F H F' H')(h:relR K r v H O F' H' (Own ρ' σ')) :
  ∃F2,Good K tg F2 H' ρ' σ'/\Ext O (Own ρ' σ') F H F2 H'/\Is K F2 r.d v:=by
 cases r with
 | v d=>exact⟨F',G,x,h⟩
 | fr l =>
  obtain⟨a,vs,rfl,ha,hf,hh,hl,hn⟩:=h;refine⟨upd F' a (.lst vs),G.freeze hh hn hf,⟨x.sub.trans (Same.new hf _),fun b o e =>?_,x.keep,x.own,x.there⟩,.lst gk (hl.mono (Same.new hf _))⟩
  by_cases hb:b=a
  ·subst hb;exact .inr ha
  ·rw[cj hb] at e;exact x.new b o e
 | tf d l =>
  obtain⟨t,u,a,vs,rfl,ht,hd,ha,hf,hh,hl,hn⟩:=h;have hta:t≠a:=fun z=>by rw[z,hf] at ht;cases ht
  refine⟨upd F' a (.lst vs),G.freeze hh hn hf,⟨x.sub.trans (Same.new hf _),fun b o e =>?_,x.keep,x.own,x.there⟩,.tup (by rw[cj hta];exact ht) (.cons (hd.mono (Same.new hf _)) (.cons (.lst gk (hl.mono (Same.new hf _))) .nil))⟩
  by_cases hb:b=a
  ·subst hb;exact .inr ha
  ·rw[cj hb] at e;exact x.new b o e
theorem ER.toD{m:M Rv}(h:ER K X e m):EV K X e m.d:=EV.mk fun hk=>PE.imp (h hk) fun σ H Q z9=>by
 obtain⟨tg,F,ρ,d,ρ',G,em,q⟩:=z9;obtain⟨r,ρ1,e1,e2⟩:=bc em;obtain⟨rfl,rfl⟩:=jq e2;refine⟨tg,F,ρ,r,_,G,e1,fun v H' F' G' x w =>?_⟩
 obtain⟨F2,G2,x2,i2⟩:=frz G' x w;exact q v H' F2 G2 x2 i2
noncomputable def dj(i:Nat):M D:=fun ρ=>match ρ[i]? with
 | some (.val d)=>some (.ok d,ρ)
 | some (.own _ l)=>some (.ok (.lst l),ρ)
 | _=>none
theorem Good.at{tg:Nat->aY}{F H:Hp}{ρ:Ro}{σ:L2.St}(G:Good K tg F H ρ σ){i:Nat}{s:Sl}(e:ρ[i]? = some s):∃o,σ[i]? = some o/\SlOk K tg F H s o:=by
 have hi:i < σ.length:=by rw[<-G.len];exact(aM.mp e).1
 exact⟨σ[i],aC hi,G.sl i s _ e (aC hi)⟩
theorem rn{tg:Nat->aY}{F H:Hp}{ρ ρ':Ro}{σ:L2.St}(G:Good K tg F H ρ σ){i:Nat}{d:D}(em:dj i ρ=some (.ok d,ρ')):ρ'=ρ/\∃v,σ[i]? = some (some v)/\Bor K F H d v:=by
 unfold dj at em;split at em
 ·rename_i d' e';cases em;obtain⟨o,ho,v,rfl,hv⟩:=G.at e';exact⟨rfl,v,ho,.inl hv⟩
 ·rename_i t l e';cases em;obtain⟨o,ho,a,vs,rfl,hf,hh,hl,_⟩:=G.at e';exact⟨rfl,_,ho,.inr ⟨a,vs,l,rfl,rfl,hh,hl⟩⟩
 ·cases em
theorem fc{i:Nat}(h:PE X e (tVar i)):EB K X e (dj i):=EB.mk fun _=>PE.imp h fun σ H Q z9=>by
 obtain⟨tg,F,ρ,d,ρ',G,em,q⟩:=z9;obtain⟨rfl,v,ho,hv⟩:=rn G em;exact⟨v,ho,q v H F G (Ext.refl _ _ _) hv⟩
def aqj(i:Nat):M Rv:=fun ρ=>match ρ[i]? with
 | some (.val d)=>some (.ok (.v d),ρ)
 | some (.own none l)=>some (.ok (.fr l),ρ.set i .emp)
 | _=>none
theorem Good.drop{tg:Nat->aY}{F H:Hp}{ρ:Ro}{σ:L2.St}(G:Good K tg F H ρ σ)(i:Nat):Good K tg F H (ρ.set i .emp) σ:=by
 have sub:∀j t l,(cG ρ i Sl.emp)[j]? = some (Sl.own t l)->(ρ:List Sl)[j]? = some (Sl.own t l):=fun j t l e=>by
  rw[bN] at e;split at e
  ·split at e <;> cases e
  ·exact e
 refine⟨G.sub,by rw[dR];exact G.len,fun j s o e q =>?_,fun j k a ⟨⟨t,l,e⟩,q⟩ ⟨⟨t',l',e'⟩,q'⟩=>G.inj j k a ⟨⟨t,l,sub _ _ _ e⟩,q⟩ ⟨⟨t',l',sub _ _ _ e'⟩,q'⟩⟩
 rw[bN] at e;split at e
 ·split at e
  ·cases e;trivial
  ·cases e
 ·exact G.sl j s o e q
theorem yt{ρ:Ro}{σ:L2.St}{i:Nat}{a:aY}(h:Own (ρ.set i .emp) σ a):Own ρ σ a/\∀t l,ρ[i]? = some (.own t l)->∀(inj:∀i j a,Owns ρ σ i a->Owns ρ σ j a->i=j),¬Owns ρ σ i a:=by
 obtain⟨j,⟨t,l,e⟩,q⟩:=h;rw[bN] at e;split at e
 ·split at e <;> cases e
 ·rename_i hne;have w:Owns ρ σ j a:=⟨⟨t,l,e⟩,q⟩;exact⟨⟨j,w⟩,fun t' l' _ inj z=>hne (inj _ _ _ z w)⟩
theorem arl{i:Nat}(h:PE X e (tVar i)):ER K X e (aqj i):=ER.mk fun _=>PE.imp h fun σ H Q z9=>by
 obtain⟨tg,F,ρ,d,ρ',G,em,q⟩:=z9;unfold aqj at em;split at em
 ·rename_i d' e';cases em;obtain⟨o,ho,v,rfl,hv⟩:=G.at e';exact⟨v,ho,q v H F G (Ext.refl _ _ _) hv⟩
 ·rename_i l e';cases em;obtain⟨o,ho,a,vs,rfl,hf,hh,hl,_⟩:=G.at e';have w:Owns ρ σ i a:=⟨⟨_,_,e'⟩,ho⟩;refine⟨_,ho,q _ H F (G.drop i) ⟨Same.refl _,fun _ _ e=>.inl e,fun _ _ e _=>e,fun b z=>.inl (yt z).1,fun _ z=>z⟩ ⟨a,vs,rfl,.inr ⟨i,w⟩,hf,hh,hl,fun z=>(yt z).2 _ _ e' G.inj w⟩⟩
 ·cases em
noncomputable def mVar(i:Nat):M D:=fun ρ=>match ρ[i]? with
 | some (.val d)=>some (.ok d,ρ)
 | some (.own none l)=>some (.ok (.lst l),ρ.set i (.val (.lst l)))
 | _=>none
theorem atu{ρ:Ro}{σ:L2.St}{i:Nat}{d:D}{a:aY}(h:Own (ρ.set i (.val d)) σ a):Own (ρ.set i .emp) σ a:=by
 obtain⟨j,⟨t,l,e⟩,q⟩:=h;refine⟨j,⟨t,l,?_⟩,q⟩;rw[bN] at e ⊢
 split at e
 ·split at e <;> cases e
 ·rename_i hne;rw[if_neg hne];exact e
theorem Good.setv{tg:Nat->aY}{F H:Hp}{ρ:Ro}{σ:L2.St}{i:Nat}{d:D}{v:V}(G:Good K tg F H (ρ.set i .emp) σ)(e:σ[i]? = some (some v))(h:Is K F d v):Good K tg F H (ρ.set i (.val d)) σ:=by
 have sub:∀j t l,(cG ρ i (Sl.val d))[j]? = some (Sl.own t l)->(cG ρ i Sl.emp)[j]? = some (Sl.own t l):=fun j t l z=>by
  rw[bN] at z ⊢
  split at z
  ·split at z <;> cases z
  ·rename_i hne;rw[if_neg hne];exact z
 refine⟨G.sub,by have:=G.len;rw[dR] at this ⊢;exact this,fun j s o z q =>?_,fun j k a ⟨⟨t,l,z⟩,q⟩ ⟨⟨t',l',z'⟩,q'⟩=>G.inj j k a ⟨⟨t,l,sub _ _ _ z⟩,q⟩ ⟨⟨t',l',sub _ _ _ z'⟩,q'⟩⟩
 by_cases hij:i=j
 ·subst hij;rw[bN,if_pos rfl] at z;split at z
  ·cases z;rw[e] at q;cases q;exact⟨v,rfl,h⟩
  ·cases z
 ·refine G.sl j s o ?_ q;rw[bN,if_neg hij] at z ⊢
  exact z
theorem az{i:Nat}(h:PE X e (tVar i)):EV K X e (mVar i):=EV.mk fun _=>PE.imp h fun σ H Q z9=>by
 obtain⟨tg,F,ρ,d,ρ',G,em,q⟩:=z9;unfold mVar at em;split at em
 ·rename_i d' e';cases em;obtain⟨o,ho,v,rfl,hv⟩:=G.at e';exact⟨v,ho,q v H F G (Ext.refl _ _ _) hv⟩
 ·rename_i l e';cases em;obtain⟨o,ho,a,vs,rfl,hf,hh,hl,_⟩:=G.at e';have w:Owns ρ σ i a:=⟨⟨_,_,e'⟩,ho⟩;have nown:¬Own (ρ.set i .emp) σ a:=fun z=>(yt z).2 _ _ e' G.inj w
  have G2:=(G.drop i).freeze hh nown hf;have i2:Is K (upd F a (.lst vs)) (.lst l) (.ref a):=.lst gk (hl.mono (Same.new hf _));refine⟨_,ho,q _ H _ (G2.setv ho i2) ⟨Same.new hf _,fun b o z =>?_,fun _ _ z _=>z,fun b z=>.inl (yt (atu z)).1,fun _ z=>z⟩ i2⟩
  by_cases hb:b=a
  ·subst hb;exact .inr (.inr ⟨i,w⟩)
  ·rw[cj hb] at z;exact .inl z
 ·cases em
theorem ev_c{d:D}{v:V}(h:PE X e (tC v))(hi:∀F,Is K F d v):EV K X e (ret d):=EV.mk fun _=>PE.imp h fun σ H Q z9=>by
 obtain⟨tg,F,ρ,d',ρ',G,em,q⟩:=z9;obtain⟨rfl,rfl⟩:=jq em;exact q v H F G (Ext.refl _ _ _) (hi F)
theorem au{i:Int}{j:Nat}:EV K X (.Constant (.int i) j pos) (ret (.int i)):=ev_c a0t fun _=>.int i
theorem aax{i:Bool}{j:Nat}:EV K X (.Constant (.bool i) j pos) (ret (.bl i)):=ev_c a5q fun _=>.bl i
theorem akb{j:Nat}:EV K X (.Constant .none j pos) (ret .non):=ev_c a0q fun _=>.non
theorem ql{i:Str}{j:Nat}:EV K X (.Constant (.str i) j pos) (ret (.str i)):=ev_c a0m fun _=>.str i
def T2(K:Fg9)(m:M (D×D))(σ:L2.St)(H:Hp)(R:V->V->Hp->Prop):Prop:=∃tg F ρ p ρ',Good K tg F H ρ σ/\m ρ=some (.ok p,ρ') /\
 ∀x y H' F',Good K tg F' H' ρ' σ->Ext (Own ρ σ) (Own ρ' σ) F H F' H'->Bor K F' H' p.1 x->Bor K F' H' p.2 y->R x y H'
structure E2 (K:Fg9) (X:Cx) (a b:dZ) (m:M (D×D)):Prop where
 go:X.K=K->∃ta tb,PE X a ta/\PE X b tb/\∀σ H R,T2 K m σ H R->ta σ H fun x H1=>tb σ H1 fun y H2=>R x y H2
instance {K:Fg9} {X:Cx} {a b:dZ} {m:M (D×D)}:CoeFun (E2 K X a b m) fun _=>X.K=K->∃ta tb,PE X a ta/\PE X b tb/\∀σ H R,T2 K m σ H R->ta σ H fun x H1=>tb σ H1 fun y H2=>R x y H2:=⟨E2.go⟩
def dz(m1 m2:M D):M (D×D):=m1.bind fun x=>m2.bind fun y=>ret (x,y)
def bz(i:Nat)(m2:M D):M (D×D):=(dj i).bind fun _=>m2.bind fun y=>(dj i).bind fun x=>ret (x,y)
theorem e2_v{m1 m2:M D}(ha:EV K X a m1)(hb:EB K X b m2):E2 K X a b (dz m1 m2):=E2.mk fun hk=>⟨_,_,ha hk,hb hk,fun σ H R z9=>by
 obtain⟨tg,F,ρ,p,ρ',G,em,q⟩:=z9;obtain⟨d1,ρ1,e1,em⟩:=bc em;obtain⟨d2,ρ2,e2,em⟩:=bc em;obtain⟨rfl,rfl⟩:=jq em;exact⟨tg,F,ρ,d1,ρ1,G,e1,fun x H1 F1 G1 x1 r1=>⟨tg,F1,ρ1,d2,_,G1,e2,fun y H2 F2 G2 x2 r2=>q x y H2 F2 G2 (x1.trans x2) (.inl (r1.mono x2.sub)) r2⟩⟩⟩
theorem e2_n{i:Nat}{m2:M D}(ha:PE X a (tVar i))(hb:EB K X b m2):E2 K X a b (bz i m2):=E2.mk fun hk=>⟨_,_,ha,hb hk,fun σ H R z9=>by
 obtain⟨tg,F,ρ,p,ρ',G,em,q⟩:=z9;obtain⟨d0,ρ0,e0,em⟩:=bc em;obtain⟨d2,ρ2,e2,em⟩:=bc em;obtain⟨d1,ρ1,e1,em⟩:=bc em;obtain⟨rfl,rfl⟩:=jq em;obtain⟨rfl,v,hv,_⟩:=rn G e0;exact⟨v,hv,tg,F,ρ0,d2,ρ2,G,e2,fun y H2 F2 G2 x2 r2=>by
  obtain⟨rfl,v',hv',b'⟩:=rn G2 e1;rw[hv] at hv';cases hv';exact q v y H2 F2 G2 x2 b' r2⟩⟩
end
section
variable{K:Fg9}{X:Cx}{e a b c:dZ}{es:List dZ}{pos p:Pos}
section
variable{F H:Hp}{x:V}
theorem Bor.lst{l:List D}(g:Same F H)(h:Bor K F H (.lst l) x):∃a vs,x=.ref a/\H a=some (.lst vs)/\IsL K F l vs:=by
 rcases h with h | ⟨a,vs,l',e1,e2,e3,h⟩
 ·cases h with
  | lst e h=>exact⟨_,_,rfl,g _ _ e,h⟩
 ·cases e1;exact⟨a,vs,e2,e3,h⟩
theorem Bor.tup{l:List D}(h:Bor K F H (.tup l) x):∃a vs,x=.ref a/\F a=some (.tup vs)/\IsL K F l vs:=by
 rcases h with h | ⟨a,vs,l',e1,_⟩
 ·cases h with
  | tup e h=>exact⟨_,_,rfl,e,h⟩
 ·cases e1
theorem Bor.kst{l:List D}(h:Bor K F H (.kst l) x):∃a vs,x=.ref a/\SqL K F a vs/\IsL K F l vs:=by
 rcases h with h | ⟨a,vs,l',e1,_⟩
 ·cases h with
  | kst e h=>exact⟨_,_,rfl,e,h⟩
 ·cases e1
theorem Bor.int{i:Int}(h:Bor K F H (.int i) x):x=.int i:=by
 rcases h with h | ⟨a,vs,l',e1,_⟩
 ·cases h;rfl
 ·cases e1
theorem Bor.bl{i:Bool}(h:Bor K F H (.bl i) x):x=.bl i:=by
 rcases h with h | ⟨a,vs,l',e1,_⟩
 ·cases h;rfl
 ·cases e1
theorem Bor.str{i:Str}(h:Bor K F H (.str i) x):x=.str i:=by
 rcases h with h | ⟨a,vs,l',e1,_⟩
 ·cases h;rfl
 ·cases e1
theorem Bor.non(h:Bor K F H .non x):x=.non:=by
 rcases h with h | ⟨a,vs,l',e1,_⟩
 ·cases h;rfl
 ·cases e1
end
def Res(K:Fg9)(tg:Nat->aY)(F H:Hp)(ρ:Ro)(σ:L2.St)(r:Rv)(Q:VK):Prop :=
 ∀v H' F',Good K tg F' H' ρ σ->Ext (Own ρ σ) (Own ρ σ) F H F' H'->relR K r v H (Own ρ σ) F' H' (Own ρ σ)->Q v H'
section
variable{tg:Nat->aY}{F H:Hp}{ρ:Ro}{σ:L2.St}{Q:VK}
theorem Res.same{d:D}{v:V}(G:Good K tg F H ρ σ)(q:Res K tg F H ρ σ (.v d) Q)(h:Is K F d v):Q v H:=q v H F G (Ext.refl _ _ _) h
theorem Res.tup{l:List D}{vs:List V}(G:Good K tg F H ρ σ)(q:Res K tg F H ρ σ (.v (.tup l)) Q)(h:IsL K F l vs){p:aY}(hp:H p=none):Q (.ref p) (upd H p (.tup vs)) :=
 q _ _ _ (G.new hp _) (G.newX hp _) (.tup gk (h.mono (Same.new (G.freeF hp) _)))
theorem Res.lst{l:List D}{vs:List V}(G:Good K tg F H ρ σ)(q:Res K tg F H ρ σ (.fr l) Q)(h:IsL K F l vs){p:aY}(hp:H p=none):Q (.ref p) (upd H p (.lst vs)) :=
 q _ _ _ (G.fresh hp _) (G.freshX hp _) ⟨p,vs,rfl,.inl hp,G.freeF hp,gk,h,fun z=>G.own_ne hp z rfl⟩
end
def rOf(K:Fg9)(g:D->D->Option Rv):R2:=fun x y H Q=>∃tg F ρ σ d1 d2 r,Good K tg F H ρ σ/\Bor K F H d1 x/\Bor K F H d2 y/\g d1 d2=some r/\Res K tg F H ρ σ r Q
structure OpD (K:Fg9) (X:Cx) (f:aG->aG->Sem aG) (g:D->D->Option Rv):Prop where
 go:X.K=K->OpR X f (rOf K g)
instance {K:Fg9} {X:Cx} {f:aG->aG->Sem aG} {g:D->D->Option Rv}:CoeFun (OpD K X f g) fun _=>X.K=K->OpR X f (rOf K g):=⟨OpD.go⟩
def mOp(g:D->D->Option Rv)(m:M (D×D)):M Rv:=m.bind fun p=>lift (g p.1 p.2)
theorem amw{g:D->D->Option Rv}{m:M (D×D)}{ta tb:TE}(h:∀σ H R,T2 K m σ H R->ta σ H fun x H1=>tb σ H1 fun y H2=>R x y H2)(σ:L2.St)(H:Hp)(Q:VK)(t:T K (relR K) (mOp g m) σ H Q):tOp (rOf K g) ta tb σ H Q:=by
 obtain⟨tg,F,ρ,r,ρ',G,em,q⟩:=t;obtain⟨p,ρ1,e1,em⟩:=bc em;obtain⟨e2,rfl⟩:=gn em;refine h σ H _ ⟨tg,F,ρ,p,_,G,e1,fun x y H' F' G' x' bx by'=>⟨tg,F',_,σ,p.1,p.2,r,G',bx,by',e2,fun v H2 F2 G2 x2 rr=>q v H2 F2 G2 (x'.trans x2) ?_⟩⟩
 cases r with
 | v d=>exact rr
 | fr l =>
  obtain⟨a,vs,ev,ha,w⟩:=rr;refine⟨a,vs,ev,?_,w⟩;rcases ha with ha | ha
  ·exact .inl (x'.there a ha)
  ·exact(x'.own a ha).symm
 | tf d l =>
  obtain⟨t,u,a,vs,ev,ht,hd,ha,w⟩:=rr;refine⟨t,u,a,vs,ev,ht,hd,?_,w⟩;rcases ha with ha | ha
  ·exact .inl (x'.there a ha)
  ·exact(x'.own a ha).symm
theorem f9{op:Operator}{g:D->D->Option Rv}{m:M (D×D)}(ho:OpD K X (fY op) g)(h:E2 K X a b m):ER K X (.BinOp a op b pos) (mOp g m):=ER.mk fun hk=>by
 obtain⟨ta,tb,ha,hb,h⟩:=h hk;exact PE.imp (a5o (ho hk) ha hb) (amw h)
theorem agi{op:wZ}{g:D->D->Option Rv}{m:M (D×D)}(ho:OpD K X (gB op) g)(h:E2 K X a b m)(hm:behindInMarks op b=false):ER K X (.Compare a [op] [b] pos) (mOp g m):=ER.mk fun hk=>by
 obtain⟨ta,tb,ha,hb,h⟩:=h hk;exact PE.imp (axl (ho hk) ha hb hm) (amw h)
def capS:Nat:=16777216
theorem agt{n:Nat}(h:n<=capS):n<=cL:=by rw[cF];exact h
def gAdd:D->D->Option Rv
 | .int i,.int j=>some (.v (.int (i+j)))
 | .tup l,.tup k=>if l.length+k.length<=capS then some (.v (.tup (l++k))) else none
 | .lst l,.lst k=>if l.length+k.length<=capS then some (.fr (l++k)) else none
 | .str i,.str j=>if i.length+j.length<=capS then some (.v (.str (i++j))) else none
 | _,_=>none
theorem ik:OpD K X (fY .Add) gAdd:=OpD.mk fun hk=>by
 intro jv s σ0 H x y v u Q I rx ry z9;obtain⟨tg,F,ρ,σ,d1,d2,r,G,b1,b2,eg,q⟩:=z9;subst hk;unfold gAdd at eg;split at eg
 ·cases eg;obtain rfl:=b1.int;obtain rfl:=b2.int;exact a03 jv s σ0 H _ _ v u Q I rx ry ⟨_,_,rfl,rfl,Res.same G q (.int _)⟩
 ·split at eg
  ·rename_i hz;cases eg;obtain⟨a1,vs1,rfl,s1,i1⟩:=b1.tup;obtain⟨a2,vs2,rfl,s2,i2⟩:=b2.tup;have l1:=i1.length;have l2:=i2.length
   by_cases hx:vs1=[]
   ·subst hx;cases i1;cases rx;cases ry;obtain⟨its,r1,p1,_⟩:=I.tuple (SqT.of (G.sub _ _ s1));obtain⟨its2,r2,p2,_⟩:=I.tuple (SqT.of (G.sub _ _ s2));exact au8 p1 p2 (r1.nil_iff.mpr rfl) ⟨.ref a2,H,I,rfl,Res.same G q (.tup s2 i2)⟩
   ·refine axr jv s σ0 H _ _ v u Q I rx ry ⟨a1,a2,vs1,vs2,rfl,rfl,SqT.of (G.sub _ _ s1),SqT.of (G.sub _ _ s2),hx,by rw[<-l1,<-l2];exact agt hz,fun e =>?_,fun _ p hp=>Res.tup G q (i1.append i2) hp⟩
    subst e;cases i2;exact Res.same G q (.tup s1 (by simpa using i1))
  ·cases eg
 ·split at eg
  ·rename_i hz;cases eg;obtain⟨a1,vs1,rfl,s1,i1⟩:=b1.lst G.sub;obtain⟨a2,vs2,rfl,s2,i2⟩:=b2.lst G.sub;have l1:=i1.length;have l2:=i2.length;exact a02 jv s σ0 H _ _ v u Q I rx ry ⟨a1,a2,vs1,vs2,rfl,rfl,s1,s2,by rw[<-l1,<-l2];exact agt hz,fun p hp=>Res.lst G q (i1.append i2) hp⟩
  ·cases eg
 ·split at eg
  ·rename_i hz;cases eg;obtain rfl:=b1.str;obtain rfl:=b2.str;exact aoe jv s σ0 H _ _ v u Q I rx ry ⟨_,_,rfl,rfl,agt hz,Res.same G q (.str _)⟩
  ·cases eg
 ·cases eg
def gInt(f:Int->Int->Option Int):D->D->Option Rv
 | .int i,.int j=>(f i j).map fun k=>.v (.int k)
 | _,_=>none
theorem ak9{op:Operator}{f:Int->Int->Option Int}{C:Int->Int->Prop}{g:Int->Int->Int}(h:OpR X (fY op) (rI C fun i j=>.int (g i j)))(hf:∀i j k,f i j=some k->C i j/\k=g i j):OpD K X (fY op) (gInt f):=OpD.mk fun hk=>by
 intro jv s σ0 H x y v u Q I rx ry z9;obtain⟨tg,F,ρ,σ,d1,d2,r,G,b1,b2,eg,q⟩:=z9;unfold gInt at eg;split at eg
 ·rename_i i j;obtain rfl:=b1.int;obtain rfl:=b2.int;cases z:f i j with
  | none=>rw[z] at eg;cases eg
  | some k =>
   rw[z] at eg;cases eg;obtain⟨h1,rfl⟩:=hf i j k z;exact h jv s σ0 H _ _ v u Q I rx ry ⟨_,_,rfl,rfl,h1,Res.same G q (.int _)⟩
 ·cases eg
def fSub(i j:Int):Option Int:=some (i - j)
def fMul(i j:Int):Option Int:=if (-18446744073709551616 < i/\i < 18446744073709551616)∨(-18446744073709551616 < j/\j < 18446744073709551616) then some (i*j) else none
theorem a09{i j:Int}(h0:0 < j)(h:j < 1000000000000000000000000000000000000000000000000000000000000):sV i j=false:=by
 have e2:(2:Nat) ^ 200=1606938044258990275541962092341162602522202993782792835301376:=by decide +kernel
 have hl:j.natAbs.log2 < 200:=(Nat.log2_lt (by omega)).2 (by rw[e2];omega)
 have hd:¬(j.natAbs.log2 / 30+1 > 300):=by omega
 have hj:(j==0)=false:=by
  rw[beq_eq_false_iff_ne];omega
 unfold sV;simp only[hj,cC,if_false,hd,decide_false,qO]
theorem atx:OpR X (fY .FloorDiv) (rI (fun _ j=>0 < j/\j < 1000000000000000000000000000000000000000000000000000000000000) fun i j=>.int (i / j)):=opI fun i j _ _ _ _ _ hc q=>by
 have h1:(0:Int) < j:=hc.1;exact floordiv_int (by omega) (by rw[tL i (by omega)];exact q) (.inl (a09 hc.1 hc.2))
def fDiv(i j:Int):Option Int:=if 0 < j/\j < 1000000000000000000000000000000000000000000000000000000000000 then some (i / j) else none
def fMod(i j:Int):Option Int:=if 0 < j then some (i % j) else none
def fPow(i j:Int):Option Int:=if 0<=j/\j<=1000000/\i.natAbs < 18446744073709551616 then some (i ^ j.toNat) else none
theorem aeg:OpD K X (fY .Sub) (gInt fSub):=OpD.mk fun hk=>by
 intro jv s σ0 H x y v u Q I rx ry z9;obtain⟨tg,F,ρ,σ,d1,d2,r,G,b1,b2,eg,q⟩:=z9;unfold gInt at eg;split at eg
 ·obtain rfl:=b1.int;obtain rfl:=b2.int;cases eg;exact a0x jv s σ0 H _ _ v u Q I rx ry ⟨_,_,rfl,rfl,Res.same G q (.int _)⟩
 ·cases eg
end
mutual
def toPy:D->PyData
 | .non=>.none
 | .bl b=>.bool b
 | .int i=>.int i
 | .str x=>.str x
 | .tup l=>.tuple (ad7 l)
 | .lst l=>.list (ad7 l)
 | .kst l=>.list (ad7 l)
 | .dct _=>.dict []
 | .exn _ _=>.dict []
 | .dtt _=>.dict []
def ad7:List D->List PyData
 | []=>[]
 | d::r=>toPy d::ad7 r
end
def okD:Nat->D->Bool
 | _,.non=>true
 | _,.bl _=>true
 | _,.int _=>true
 | _,.str x=>PyData.strOk x
 | n+1,.tup l=>l.all (okD n)
 | n+1,.lst l=>l.all (okD n)
 | n+1,.kst l=>l.all (okD n)
 | _,_=>false
theorem ah9{n:Nat}(ih:∀d,okD n d=true->(toPy d).canLay0=true/\(toPy d).depth<=n):∀l:List D,l.all (okD n)=true->wM (ad7 l)=true/\xX (ad7 l)<=n
 | [],_=>⟨rfl,cI _⟩
 | d::r,h=>by
  rw[jY,aV] at h;obtain⟨h1,h2⟩:=ih d h.1;obtain⟨h3,h4⟩:=ah9 ih r h.2;refine⟨?_,?_⟩
  ·show(PyData.canLay0 (toPy d)&&wM (ad7 r))=true;rw[h1,h3];rfl
  ·show max (PyData.depth (toPy d)) (xX (ad7 r))<=n;omega
theorem aba:∀(n:Nat) (d:D),okD n d=true->(toPy d).canLay0=true/\(toPy d).depth<=n
 | n,.non,_=>⟨rfl,cI _⟩
 | n,.bl _,_=>⟨rfl,cI _⟩
 | n,.int _,_=>⟨rfl,cI _⟩
 | n,.str x,h=>by
  refine⟨?_,cI _⟩;cases n <;> exact h
 | n+1,.tup l,h=>by
  obtain⟨h1,h2⟩:=ah9 (aba n) l h;exact⟨h1,rY h2⟩
 | n+1,.lst l,h=>by
  obtain⟨h1,h2⟩:=ah9 (aba n) l h;exact⟨h1,rY h2⟩
 | n+1,.kst l,h=>by
  obtain⟨h1,h2⟩:=ah9 (aba n) l h;exact⟨h1,rY h2⟩
 | 0,.tup l,h=>by cases h
 | 0,.lst l,h=>by cases h
 | 0,.kst l,h=>by cases h
 | 0,.dct l,h=>by cases h
 | n+1,.dct l,h=>by cases h
 | 0,.exn _ _,h=>by cases h
 | n+1,.exn _ _,h=>by cases h
 | 0,.dtt _,h=>by cases h
 | n+1,.dtt _,h=>by cases h
def eqD(a b:D):Bool:=rK (toPy a) (toPy b)
def eqDs:List D->List D->Bool
 | [],[]=>true
 | a::r,b::t=>eqD a b&&eqDs r t
 | _,_=>false
theorem ais:∀a b:List D,yR (ad7 a) (ad7 b)=eqDs a b
 | [],[]=>rfl
 | a::r,b::t=>by
  show(rK (toPy a) (toPy b)&&yR (ad7 r) (ad7 t))=_;rw[ais r t];rfl
 | [],_::_=>rfl
 | _::_,[]=>rfl
section
variable{K:Fg9}{X:Cx}
section
variable{jv:List (aY×Obj)}{σ:L2.St}{F H:Hp}{s:aH}
mutual
theorem yr(I:Inv X jv σ H s)(g:Same F H):∀{n:Nat} {d:D} {v:V} {u:aG},Is X.K F d v->okD n d=true->RelV v u->∃as,Reads s.heap u (toPy d) as
 | _,_,_,_,.non,_,r=>by cases r;exact⟨_,.none⟩
 | _,_,_,_,.bl b,_,r=>by cases r;exact⟨_,.bool b⟩
 | _,_,_,_,.int i,_,r=>by obtain⟨t,rfl⟩:=r;exact⟨_,.int i t⟩
 | _,_,_,_,.str i,_,r=>by obtain⟨t,rfl⟩:=r;exact⟨_,.str i t⟩
 | 0,_,_,_,.tup e h,k,r=>by cases k
 | n+1,_,_,_,.tup e h,k,r=>by
  cases r;obtain⟨its,rv,p1,_⟩:=I.tuple (SqT.of (g _ _ e));obtain⟨o,ho,hc,m,hd⟩:=p1;obtain⟨as,ra⟩:=abr I g h k rv;exact⟨_,.tuple ho hc hd (by simpa using ra)⟩
 | 0,_,_,_,.lst e h,k,r=>by cases k
 | n+1,_,_,_,.lst e h,k,r=>by
  cases r;obtain⟨its,rv,p1,_⟩:=I.list (SqL.of (g _ _ e));obtain⟨o,ho,hc,m,hd⟩:=p1.isList;obtain⟨as,ra⟩:=abr I g h k rv;exact⟨_,.list ho hc hd (by simpa using ra)⟩
 | 0,_,_,_,.kst e h,k,r=>by cases k
 | n+1,_,_,_,.kst e h,k,r=>by
  cases r;obtain⟨its,rv,p1,_⟩:=I.list (L2.Same.seq g e);obtain⟨o,ho,hc,m,hd⟩:=p1.isList;obtain⟨as,ra⟩:=abr I g h k rv;exact⟨_,.list ho hc hd (by simpa using ra)⟩
 | 0,_,_,_,.dct e h,k,r=>by cases k
 | n+1,_,_,_,.dct e h,k,r=>by cases k
 | 0,_,_,_,.exn ..,k,r=>by cases k
 | n+1,_,_,_,.exn ..,k,r=>by cases k
 | 0,_,_,_,.dtt ..,k,r=>by cases k
 | n+1,_,_,_,.dtt ..,k,r=>by cases k
theorem abr(I:Inv X jv σ H s)(g:Same F H):∀{n:Nat} {ds:List D} {vs:List V} {us:List aG},IsL X.K F ds vs->ds.all (okD n)=true->Vals vs us->∃as,ReadsAll s.heap us (ad7 ds) as
 | _,_,_,_,.nil,_,r=>by cases r;exact⟨_,.nil⟩
 | n,_,_,_,.cons h t,k,r=>by
  rw[jY,aV] at k;cases r with
  | cons r1 r2 =>
   obtain⟨as,ra⟩:=yr I g h k.1 r1;obtain⟨bs,rb⟩:=abr I g t k.2 r2;exact⟨_,.cons ra rb⟩
end
theorem abq(I:Inv X jv σ H s)(g:Same F H){n:Nat}{d:D}{v:V}{u:aG}(h:Bor X.K F H d v)(k:okD n d=true)(r:RelV v u):∃as,Reads s.heap u (toPy d) as:=by
 rcases h with h | ⟨a,vs,l,rfl,rfl,e,h⟩
 ·exact yr I g h k r
 ·cases r;cases n with
  | zero=>cases k
  | succ n =>
   obtain⟨its,rv,p1,_⟩:=I.list (SqL.of e);obtain⟨o,ho,hc,m,hd⟩:=p1.isList;obtain⟨as,ra⟩:=abr I g h k rv;exact⟨_,.list ho hc hd (by simpa using ra)⟩
end
def gEq(neg:Bool)(a b:D):Option Rv:=if okD 30 a&&okD 30 b then some (.v (.bl (if neg then !eqD a b else eqD a b))) else none
theorem aa9(hu:X.A.units+64 < cLine):OpD K X (gB .Eq) (gEq false):=OpD.mk fun hk=>by
 intro jv s σ0 H x y v u Q I rx ry z9;obtain⟨tg,F,ρ,σ,d1,d2,r,G,b1,b2,eg,q⟩:=z9;subst hk;unfold gEq at eg;split at eg
 ·rename_i ho;rw[aV] at ho;cases eg;obtain⟨as,ra⟩:=abq I G.sub b1 ho.1 rx;obtain⟨bs,rb⟩:=abq I G.sub b2 ho.2 ry;obtain⟨c1,p1⟩:=aba _ _ ho.1;obtain⟨c2,p2⟩:=aba _ _ ho.2;exact PySem.SeqAt.compareEq_reads ra rb c1 c2 (by omega) ⟨.bl _,H,I,rfl,Res.same G q (.bl _)⟩
 ·cases eg
theorem adt(hu:X.A.units+64 < cLine):OpD K X (gB .NotEq) (gEq true):=OpD.mk fun hk=>by
 intro jv s σ0 H x y v u Q I rx ry z9;obtain⟨tg,F,ρ,σ,d1,d2,r,G,b1,b2,eg,q⟩:=z9;subst hk;unfold gEq at eg;split at eg
 ·rename_i ho;rw[aV] at ho;cases eg;obtain⟨as,ra⟩:=abq I G.sub b1 ho.1 rx;obtain⟨bs,rb⟩:=abq I G.sub b2 ho.2 ry;obtain⟨c1,p1⟩:=aba _ _ ho.1;obtain⟨c2,p2⟩:=aba _ _ ho.2;exact PySem.SeqAt.compareNe_reads ra rb c1 c2 (by omega) ⟨.bl _,H,I,rfl,Res.same G q (.bl _)⟩
 ·cases eg
def itemsD:D->Option (List D)
 | .tup l=>some l
 | .lst l=>some l
 | .kst l=>some l
 | _=>none
def gIn(neg:Bool)(a b:D):Option Rv:=match itemsD b with
 | some l=>if okD 30 a&&l.all (okD 30) then some (.v (.bl (if neg then !l.any (fun y=>eqD y a) else l.any (fun y=>eqD y a)))) else none
 | none=>none
open Classical in
noncomputable def ada(h:fD)(dx:PyData)(u:aG):Bool:=decide (∃d as,Reads h u d as/\d.canLay0=true/\rK d dx=true)
open Classical in
theorem afh{h:fD}{dx d:PyData}{u:aG}{as:List aY}(r:Reads h u d as)(c:d.canLay0=true):ada h dx u=rK d dx:=by
 unfold ada;cases e:rK d dx with
 | true=>exact decide_eq_true ⟨d,as,r,c,e⟩
 | false =>
  refine decide_eq_false ?_
  rintro⟨d',as',r',c',e'⟩
  rw[<-PySem.SeqAt.Reads.unique d d' u as as' c r r'] at e';rw[e] at e';cases e'
theorem aai{jv:List (aY×Obj)}{σ:L2.St}{F H:Hp}{s:aH}(I:Inv X jv σ H s)(g:Same F H){a:D}{n:Nat}:∀{ds:List D} {vs:List V} {us:List aG},IsL X.K F ds vs->ds.all (okD n)=true->Vals vs us ->
  us.any (ada s.heap (toPy a))=ds.any (fun y=>eqD y a)/\∀u∈us,∃d as,Reads s.heap u d as/\d.canLay0=true/\d.depth<=n
 | _,_,_,.nil,_,r=>by cases r;exact⟨rfl,fun u hu=>by cases hu⟩
 | _,_,_,.cons h t,k,r=>by
  rw[jY,aV] at k;cases r with
  | cons r1 r2 =>
   obtain⟨as,ra⟩:=yr I g h k.1 r1;obtain⟨c,p⟩:=aba _ _ k.1;obtain⟨e,z⟩:=aai I g (a:=a) t k.2 r2;refine⟨?_,fun u hu =>?_⟩
   ·rw[uR,uR,e,afh ra c];rfl
   ·rcases aZ.mp hu with rfl | hu
    ·exact⟨_,as,ra,c,p⟩
    ·exact z u hu
theorem aag{s:aH}{A:dB}(hu:A.units+64 < cLine){us:List aG}{a:D}{v:aG}{as:List aY}(ra:Reads s.heap v (toPy a) as)(ka:okD 30 a=true)(z:∀u∈us,∃d as,Reads s.heap u d as/\d.canLay0=true/\d.depth<=30) :
  ∀u∈us,SeqAt.EqAt A.in1 s u v (ada s.heap (toPy a) u):=fun u hm=>by
 obtain⟨d,bs,rb,c,p⟩:=z u hm;obtain⟨c2,p2⟩:=aba _ _ ka;rw[afh rb c];refine PySem.SeqAt.eqAt_reads d (toPy a) A.in1 s u v bs as rb ra c c2 ?_;show A.units+1+_ < _;omega
theorem aq8{a b:D}{neg:Bool}{r:Rv}(h:gIn neg a b=some r):∃l,itemsD b=some l/\okD 30 a=true/\l.all (okD 30)=true/\r=.v (.bl (if neg then !l.any (fun y=>eqD y a) else l.any (fun y=>eqD y a))):=by
 unfold gIn at h;split at h
 ·rename_i l e;split at h
  ·rename_i ho;rw[aV] at ho;cases h;exact⟨l,e,ho.1,ho.2,rfl⟩
  ·cases h
 ·cases h
theorem aht{F H:Hp}{d:D}{l:List D}{x:V}(g:Same F H)(e:itemsD d=some l)(h:Bor K F H d x):∃a vs,x=.ref a/\IsL K F l vs/\(SqL K H a vs∨SqT K H a vs):=by
 cases d with
 | tup k =>
  cases e;obtain⟨a,vs,rfl,e,h⟩:=h.tup;exact⟨a,vs,rfl,h,.inr (SqT.of (g _ _ e))⟩
 | lst k =>
  cases e;obtain⟨a,vs,rfl,e,h⟩:=h.lst g;exact⟨a,vs,rfl,h,.inl (SqL.of e)⟩
 | kst k =>
  cases e;obtain⟨a,vs,rfl,e,h⟩:=h.kst;exact⟨a,vs,rfl,h,.inl (L2.Same.seq g e)⟩
 | _=>cases e
theorem ajo(hu:X.A.units+64 < cLine):OpD K X (gB .NotIn) (gIn true):=OpD.mk fun hk=>by
 intro jv s σ0 H x y v u Q I rx ry z9;obtain⟨tg,F,ρ,σ,d1,d2,r,G,b1,b2,eg,q⟩:=z9;subst hk;obtain⟨l,e,k1,k2,rfl⟩:=aq8 eg;obtain⟨as,ra⟩:=abq I G.sub b1 k1 rx;obtain⟨p,vs,rfl,hl,hs⟩:=aht G.sub e b2;cases ry;rcases hs with hs | hs
 ·obtain⟨its,rv,pl,_⟩:=I.list hs;obtain⟨ea,z⟩:=aai I G.sub (a:=d1) hl k2 rv;refine SeqAt.notIn_listAt (ada s.heap (toPy d1)) pl.isList (fun w hw=>aag hu ra k1 z w (by simpa using hw)) ⟨.bl _,H,I,rfl,?_⟩
  rw[show its.toArray.any (ada s.heap (toPy d1))=its.any (ada s.heap (toPy d1)) by simp,ea]
  exact Res.same G q (.bl _)
 ·obtain⟨its,rv,pl,_⟩:=I.tuple hs;obtain⟨ea,z⟩:=aai I G.sub (a:=d1) hl k2 rv;refine SeqAt.notIn_tupleAt (ada s.heap (toPy d1)) pl (fun w hw=>aag hu ra k1 z w (by simpa using hw)) ⟨.bl _,H,I,rfl,?_⟩
  rw[show its.toArray.any (ada s.heap (toPy d1))=its.any (ada s.heap (toPy d1)) by simp,ea]
  exact Res.same G q (.bl _)
end
end Dn
namespace Dn
open L2 Mn
section
variable{K:Fg9}{X:Cx}{e a b c:dZ}{es:List dZ}{pos p:Pos}
theorem axp:OpD K X (fY .FloorDiv) (gInt fDiv):=ak9 atx fun i j k h=>by
 unfold fDiv at h;split at h
 ·cases h;exact⟨by assumption,rfl⟩
 ·cases h
theorem aeh:OpD K X (fY .Mod) (gInt fMod):=ak9 a01 fun i j k h=>by
 unfold fMod at h;split at h
 ·cases h;exact⟨by assumption,rfl⟩
 ·cases h
theorem aqb:OpD K X (fY .Pow) (gInt fPow):=ak9 a0z fun i j k h=>by
 unfold fPow at h;split at h
 ·rename_i hc;cases h;exact⟨⟨hc.1,hc.2.1,hc.2.2⟩,rfl⟩
 ·cases h
def gMul:D->D->Option Rv
 | .int i,.int j=>(fMul i j).map fun k=>.v (.int k)
 | .tup l,.int k=>if k=1 then some (.v (.tup l)) else if l≠[]/\2<=k/\k < 9223372036854775808/\l.length*k.toNat<=capS then some (.v (.tup (aF k.toNat l).flatten)) else none
 | .lst l,.int k=>if k.natAbs < 9223372036854775808/\l.length*k.toNat<=capS then some (.fr (aF k.toNat l).flatten) else none
 | _,_=>none
theorem af0:OpD K X (fY .Mult) gMul:=OpD.mk fun hk=>by
 intro jv s σ0 H x y v u Q I rx ry z9;obtain⟨tg,F,ρ,σ,d1,d2,r,G,b1,b2,eg,q⟩:=z9;subst hk;unfold gMul at eg;split at eg
 ·rename_i i j;obtain rfl:=b1.int;obtain rfl:=b2.int;unfold fMul at eg;split at eg
  ·rename_i hc;cases eg;exact a00 jv s σ0 H _ _ v u Q I rx ry ⟨_,_,rfl,rfl,hc,Res.same G q (.int _)⟩
  ·cases eg
 ·rename_i l k;split at eg
  ·rename_i hk1;subst hk1;cases eg;obtain⟨a1,vs1,rfl,s1,i1⟩:=b1.tup;obtain rfl:=b2.int;exact axq jv s σ0 H _ _ v u Q I rx ry ⟨a1,vs1,rfl,rfl,G.sub _ _ s1,Res.same G q (.tup s1 i1)⟩
  split at eg
  ·rename_i hc;obtain⟨h0,h2,h3,hz⟩:=hc;cases eg;obtain⟨a1,vs1,rfl,s1,i1⟩:=b1.tup;obtain rfl:=b2.int;have l1:=i1.length;refine atw jv s σ0 H _ _ v u Q I rx ry ⟨a1,vs1,k,rfl,rfl,G.sub _ _ s1,?_,h2,h3,by rw[<-l1];exact agt hz,fun p hp=>Res.tup G q (i1.rep _) hp⟩
   intro z;subst z;cases i1;exact h0 rfl
  ·cases eg
 ·rename_i l k;split at eg
  ·rename_i hc;obtain⟨hab,hz⟩:=hc;have h0 : -9223372036854775808<=k:=by omega
   have h2:k < 9223372036854775808:=by omega
   cases eg;obtain⟨a1,vs1,rfl,s1,i1⟩:=b1.lst G.sub;obtain rfl:=b2.int;have l1:=i1.length;exact a0y jv s σ0 H _ _ v u Q I rx ry ⟨a1,k,vs1,rfl,rfl,s1,h0,h2,by rw[<-l1];exact agt hz,fun p hp=>Res.lst G q (i1.rep _) hp⟩
  ·cases eg
 ·cases eg
def gCmp(f:Int->Int->Bool):D->D->Option Rv
 | .int i,.int j=>some (.v (.bl (f i j)))
 | _,_=>none
theorem ala{op:wZ}{f:Int->Int->Bool}(h:OpR X (gB op) (rI0 fun i j=>.bl (f i j))):OpD K X (gB op) (gCmp f):=OpD.mk fun hk=>by
 intro jv s σ0 H x y v u Q I rx ry z9;obtain⟨tg,F,ρ,σ,d1,d2,r,G,b1,b2,eg,q⟩:=z9;unfold gCmp at eg;split at eg
 ·cases eg;obtain rfl:=b1.int;obtain rfl:=b2.int;exact h jv s σ0 H _ _ v u Q I rx ry ⟨_,_,rfl,rfl,Res.same G q (.bl _)⟩
 ·cases eg
theorem aqc:OpD K X (gB .Lt) (gCmp fun i j=>decide (i < j)):=ala a5s
theorem a0w:OpD K X (gB .LtE) (gCmp fun i j=>decide (i<=j)):=ala aqe
theorem aqd:OpD K X (gB .GtE) (gCmp fun i j=>decide (j<=i)):=ala a5t
def gNeg:D->Option D
 | .int i=>some (.int (-i))
 | _=>none
def mUn(g:D->Option D)(m:M D):M D:=m.bind fun d=>lift (g d)
theorem aaf{m:M D}(h:EV K X a m):EV K X (.UnaryOp .USub a pos) (mUn gNeg m):=EV.mk fun hk=>PE.imp (a5n azm (h hk)) fun σ H Q z9=>by
 obtain⟨tg,F,ρ,d,ρ',G,em,q⟩:=z9;obtain⟨d1,ρ1,e1,em⟩:=bc em;obtain⟨e2,rfl⟩:=gn em;refine⟨tg,F,ρ,d1,_,G,e1,fun v H' F' G' x r =>?_⟩
 cases d1 with
 | int i =>
  cases e2;cases r;exact⟨i,rfl,q _ H' F' G' x (.int _)⟩
 | _=>cases e2
def asB:D->Option Bool
 | .bl b=>some b
 | _=>none
def gNot(d:D):Option D:=(asB d).map fun k=>.bl (!k)
theorem aso{d:D}{k:Bool}(h:asB d=some k):d=.bl k:=by
 cases d with
 | bl b=>cases h;rfl
 | _=>cases h
theorem av7{m:M D}(h:EV K X a m):EV K X (.UnaryOp .Not a pos) (mUn gNot m):=EV.mk fun hk=>PE.imp (a0p (h hk)) fun σ H Q z9=>by
 obtain⟨tg,F,ρ,d,ρ',G,em,q⟩:=z9;obtain⟨d1,ρ1,e1,em⟩:=bc em;obtain⟨e2,rfl⟩:=gn em;refine⟨tg,F,ρ,d1,_,G,e1,fun v H' F' G' x r =>?_⟩
 cases d1 with
 | bl i =>
  cases e2;cases r;exact⟨i,rfl,q _ H' F' G' x (.bl _)⟩
 | _=>cases e2
def mAnd(m1 m2:M D):M D:=m1.bind fun d=>(lift (asB d)).bind fun k=>if k=true then m2 else ret (.bl false)
theorem aka{op}{m:M D}(h:EV K X a m):EV K X (.BoolOp op [a] pos) m:=EV.mk fun hk=>a0o (h hk)
theorem akc{m1 m2:M D}{rest:List dZ}(h1:EV K X a m1)(h2:EV K X (.BoolOp .And (b::rest) pos) m2):EV K X (.BoolOp .And (a::b::rest) pos) (mAnd m1 m2):=EV.mk fun hk=>PE.imp (a0v (h1 hk) (h2 hk)) fun σ H Q z9=>by
 obtain⟨tg,F,ρ,d,ρ',G,em,q⟩:=z9;obtain⟨d1,ρ1,e1,em⟩:=bc em;obtain⟨k,ρ2,e2,em⟩:=bc em;obtain⟨e3,rfl⟩:=gn e2;obtain rfl:=aso e3;refine⟨tg,F,ρ,_,_,G,e1,fun v H' F' G' x r =>?_⟩
 cases r;refine⟨k,rfl,?_⟩;cases k with
 | true=>exact iteT ⟨tg,F',_,d,ρ',G',em,fun v2 H2 F2 G2 x2 r2=>q v2 H2 F2 G2 (x.trans x2) r2⟩
 | false =>
  obtain⟨rfl,rfl⟩:=jq (show ret (D.bl false) _=_ from em)
  exact iteF (q _ H' F' G' x (.bl _))
def TB(K:Fg9)(m:M Bool):TT:=fun σ H Q=>∃tg F ρ k ρ',Good K tg F H ρ σ/\m ρ=some (.ok k,ρ')/\∀H' F',Good K tg F' H' ρ' σ->Ext (Own ρ σ) (Own ρ' σ) F H F' H'->Q k H'
structure ET (K:Fg9) (X:Cx) (e:dZ) (m:M Bool):Prop where
 go:X.K=K->PT X e (TB K m)
instance {K:Fg9} {X:Cx} {e:dZ} {m:M Bool}:CoeFun (ET K X e m) fun _=>X.K=K->PT X e (TB K m):=⟨ET.go⟩
structure EW (K:Fg9) (X:Cx) (e:dZ) (m:M Bool):Prop where
 go:X.K=K->PW X e (TB K m)
instance {K:Fg9} {X:Cx} {e:dZ} {m:M Bool}:CoeFun (EW K X e m) fun _=>X.K=K->PW X e (TB K m):=⟨EW.go⟩
theorem PT.imp{t t':TT}(h:PT X e t)(w:∀σ H Q,t' σ H Q->t σ H Q):PT X e t':=fun jv s σ H Q I q=>h jv s σ H Q I (w σ H Q q)
theorem PW.imp{t t':TT}(h:PW X e t)(w:∀σ H Q,t' σ H Q->t σ H Q):PW X e t':=fun wh jv s σ H Q I q=>h wh jv s σ H Q I (w σ H Q q)
theorem EW.pt{m:M Bool}(h:EW K X e m):ET K X e m:=ET.mk fun hk=>(h hk).pt
def yc(m:M D):M Bool:=m.bind fun d=>lift (asB d)
theorem as5{m:M D}(σ:L2.St)(H:Hp)(Q:Bool->Hp->Prop)(t:TB K (yc m) σ H Q):tB (T K (relD K) m) σ H Q:=by
 obtain⟨tg,F,ρ,k,ρ',G,em,q⟩:=t;obtain⟨d1,ρ1,e1,em⟩:=bc em;obtain⟨e3,rfl⟩:=gn em;obtain rfl:=aso e3;refine⟨tg,F,ρ,_,_,G,e1,fun v H' F' G' x r =>?_⟩
 cases r;exact⟨k,rfl,q H' F' G' x⟩
theorem qm{m:M D}(h:EV K X e m)(he:∀whole,isTrue e X.env whole=(do let v <-whole;standAt e.pos;oO [v] (truthy v)):=by intro _;rfl):ET K X e (yc m):=ET.mk fun hk=>PT.imp (a0a (h hk) he) as5
def mz(g:D->D->Option Rv)(m:M (D×D)):M Bool:=yc (mOp g m).d
theorem oh{op:wZ}{g:D->D->Option Rv}{m:M (D×D)}(ho:OpD K X (gB op) g)(h:E2 K X a b m)(hm:behindInMarks op b=false):ET K X (.Compare a [op] [b] pos) (mz g m):=ET.mk fun hk=>by
 obtain⟨ta,tb,ha,hb,h⟩:=h hk;refine PT.imp (aw4 (ho hk) ha hb hm) fun σ H Q t =>?_
 obtain⟨tg,F,ρ,k,ρ',G,em,q⟩:=t;obtain⟨d1,ρ1,e1,em⟩:=bc em;obtain⟨e3,rfl⟩:=gn em;obtain rfl:=aso e3;obtain⟨r,ρ2,e1,em⟩:=bc e1;obtain⟨er,rfl⟩:=jq em;refine amw h σ H _ ⟨tg,F,ρ,r,_,G,e1,fun v H' F' G' x w =>?_⟩
 cases r with
 | v d =>
  have er:d=.bl k:=er;subst er;have w:Is K F' (.bl k) v:=w;cases w;exact⟨k,rfl,q H' F' G' x⟩
 | fr l=>cases er
 | tf d l=>cases er
def zy(m:M Bool):M Bool:=m.bind fun k=>ret (!k)
theorem qp{m:M Bool}(h:ET K X a m):ET K X (.UnaryOp .Not a pos) (zy m):=ET.mk fun hk=>PT.imp (a0b (h hk)) fun σ H Q z9=>by
 obtain⟨tg,F,ρ,k,ρ',G,em,q⟩:=z9;obtain⟨d1,ρ1,e1,em⟩:=bc em;obtain⟨rfl,rfl⟩:=jq em;exact⟨tg,F,ρ,d1,_,G,e1,fun H' F' G' x=>q H' F' G' x⟩
def aql(m1 m2:M Bool):M Bool:=m1.bind fun k=>if k=true then m2 else ret false
def mOrB(m1 m2:M Bool):M Bool:=m1.bind fun k=>if k=true then ret true else m2
theorem al1{m:M Bool}(h:ET K X a m):EW K X (.BoolOp .And [a] pos) m:=EW.mk fun hk=>aw1 (h hk)
theorem agg{m:M Bool}(h:ET K X a m):EW K X (.BoolOp .Or [a] pos) m:=EW.mk fun hk=>az6 (h hk)
theorem arj{m1 m2:M Bool}{rest:List dZ}(h1:ET K X a m1)(h2:EW K X (.BoolOp .And (b::rest) pos) m2):EW K X (.BoolOp .And (a::b::rest) pos) (aql m1 m2):=EW.mk fun hk=>PW.imp (az7 (h1 hk) (h2 hk)) fun σ H Q z9=>by
 obtain⟨tg,F,ρ,d,ρ',G,em,q⟩:=z9;obtain⟨k,ρ1,e1,em⟩:=bc em;refine⟨tg,F,ρ,k,_,G,e1,fun H' F' G' x =>?_⟩
 cases k with
 | true=>exact iteT ⟨tg,F',_,d,ρ',G',em,fun H2 F2 G2 x2=>q H2 F2 G2 (x.trans x2)⟩
 | false =>
  obtain⟨rfl,rfl⟩:=jq (show ret false _=_ from em)
  exact iteF (q H' F' G' x)
theorem ag0{m1 m2:M Bool}{rest:List dZ}(h1:ET K X a m1)(h2:EW K X (.BoolOp .Or (b::rest) pos) m2):EW K X (.BoolOp .Or (a::b::rest) pos) (mOrB m1 m2):=EW.mk fun hk=>PW.imp (a5h (h1 hk) (h2 hk)) fun σ H Q z9=>by
 obtain⟨tg,F,ρ,d,ρ',G,em,q⟩:=z9;obtain⟨k,ρ1,e1,em⟩:=bc em;refine⟨tg,F,ρ,k,_,G,e1,fun H' F' G' x =>?_⟩
 cases k with
 | false=>exact iteF ⟨tg,F',_,d,ρ',G',em,fun H2 F2 G2 x2=>q H2 F2 G2 (x.trans x2)⟩
 | true =>
  obtain⟨rfl,rfl⟩:=jq (show ret true _=_ from em)
  exact iteT (q H' F' G' x)
def ajz(f g:Int->Int->Bool)(m1 m2 m3:M D):M D:=m1.bind fun x=>m2.bind fun y=>match x,y with
 | .int i,.int j=>if f i j=true then m3.bind fun z=>match z with
  | .int k=>ret (.bl (g j k))
  | _=>lift none
  else ret (.bl false)
 | _,_=>lift none
theorem arx{f g:Int->Int->Bool}{m1 m2 m3:M D}(σ:L2.St)(H:Hp)(Q:VK)(t:T K (relD K) (ajz f g m1 m2 m3) σ H Q) :
  avo (rI0 fun i j=>.bl (f i j)) (rI0 fun i j=>.bl (g i j)) (T K (relD K) m1) (T K (relD K) m2) (T K (relD K) m3) σ H Q:=by
 obtain⟨tg,F,ρ,d,ρ',G,em,q⟩:=t;obtain⟨d1,ρ1,e1,em⟩:=bc em;obtain⟨d2,ρ2,e2,em⟩:=bc em;have bad:∀{ρ:Ro},(lift (none:Option D)) ρ=some (.ok d,ρ')->False:=fun z=>by
  obtain⟨z,_⟩:=gn z;cases z
 cases d1 with
 | int i =>
  cases d2 with
  | int j =>
   refine⟨tg,F,ρ,_,ρ1,G,e1,fun v H1 F1 G1 x1 r1=>⟨tg,F1,ρ1,_,ρ2,G1,e2,fun v2 H2 F2 G2 x2 r2 =>?_⟩⟩
   cases r1;cases r2;refine⟨i,j,rfl,rfl,f i j,rfl,?_⟩;have em:(if f i j=true then m3.bind fun z=>match z with
    | .int k=>ret (.bl (g j k))
    | _=>lift none
    else ret (.bl false)) ρ2=some (.ok d,ρ'):=em
   by_cases hf:f i j=true
   ·rw[if_pos hf] at em ⊢
    obtain⟨d3,ρ3,e3,em⟩:=bc em;refine⟨tg,F2,ρ2,d3,ρ3,G2,e3,fun v3 H3 F3 G3 x3 r3 =>?_⟩
    cases d3 with
    | int k =>
     obtain⟨rfl,rfl⟩:=jq (show ret (D.bl (g j k)) _=_ from em)
     cases r3;exact⟨j,k,rfl,rfl,q _ H3 F3 G3 ((x1.trans x2).trans x3) (.bl _)⟩
    | _=>exact(bad em).elim
   ·rw[if_neg hf] at em ⊢
    obtain⟨rfl,rfl⟩:=jq em;exact q _ H2 F2 G2 (x1.trans x2) (.bl _)
  | _=>exact(bad em).elim
 | _=>cases d2 <;> exact(bad em).elim
theorem ani{op op':wZ}{f g:Int->Int->Bool}{m1 m2 m3:M D}(ho:OpR X (gB op) (rI0 fun i j=>.bl (f i j)))(ho':OpR X (gB op') (rI0 fun i j=>.bl (g i j)))(h1:EV K X a m1)(h2:EV K X b m2)(h3:EV K X c m3)
  (hm:lastMarks [op,op'] [b,c]=false:=by with_unfolding_all rfl):EV K X (.Compare a [op,op'] [b,c] pos) (ajz f g m1 m2 m3):=EV.mk fun hk=>PE.imp (atr ho ho' (h1 hk) (h2 hk) (h3 hk) hm) arx
end
section
variable{K:Fg9}{X:Cx}{e a b c:dZ}{es:List dZ}{pos p p2:Pos}
def TL(K:Fg9)(m:M (List D)):TA:=fun σ H Q=>∃tg F ρ ds ρ',Good K tg F H ρ σ/\m ρ=some (.ok ds,ρ')/\∀vs H' F',Good K tg F' H' ρ' σ->Ext (Own ρ σ) (Own ρ' σ) F H F' H'->IsL K F' ds vs->Q vs H'
structure ED (K:Fg9) (X:Cx) (es:List dZ) (m:M (List D)):Prop where
 go:X.K=K->PA X es (TL K m)
instance {K:Fg9} {X:Cx} {es:List dZ} {m:M (List D)}:CoeFun (ED K X es m) fun _=>X.K=K->PA X es (TL K m):=⟨ED.go⟩
theorem PA.imp{t t':TA}(h:PA X es t)(w:∀σ H Q,t' σ H Q->t σ H Q):PA X es t':=fun ps jv s σ H Q I q=>h ps jv s σ H Q I (w σ H Q q)
def mNil:M (List D):=ret []
def ak(m:M D)(ms:M (List D)):M (List D):=m.bind fun d=>ms.bind fun ds=>ret (d::ds)
theorem bf:ED K X [] mNil:=ED.mk fun _=>PA.imp aex fun σ H Q z9=>by
 obtain⟨tg,F,ρ,ds,ρ',G,em,q⟩:=z9;obtain⟨rfl,rfl⟩:=jq em;exact q [] H F G (Ext.refl _ _ _) .nil
theorem aj{m:M D}{ms:M (List D)}(h:EV K X e m)(t:ED K X es ms)(hs:aX (e::es) X.env=(false,eval e X.env)::aX es X.env:=by rfl):ED K X (e::es) (ak m ms):=ED.mk fun hk=>PA.imp (uh (h hk) (t hk) hs) fun σ H Q z9=>by
 obtain⟨tg,F,ρ,ds,ρ',G,em,q⟩:=z9;obtain⟨d,ρ1,e1,em⟩:=bc em;obtain⟨r,ρ2,e2,em⟩:=bc em;obtain⟨rfl,rfl⟩:=jq em;exact⟨tg,F,ρ,d,ρ1,G,e1,fun v H1 F1 G1 x1 r1=>⟨tg,F1,ρ1,r,_,G1,e2,fun vs H2 F2 G2 x2 r2=>q _ H2 F2 G2 (x1.trans x2) (.cons (r1.mono x2.sub) r2)⟩⟩
def gTup(ds:List D):Option D:=if ds.length<=capS then some (.tup ds) else none
def gLst(ds:List D):Option Rv:=if ds.length<=capS then some (.fr ds) else none
def mTup(m:M (List D)):M D:=m.bind fun ds=>lift (gTup ds)
def mLst(m:M (List D)):M Rv:=m.bind fun ds=>lift (gLst ds)
theorem gf{k}{m:M (List D)}(h:ED K X es m):EV K X (.Tuple es k pos) (mTup m):=EV.mk fun hk=>PE.imp (a0l (h hk)) fun σ H Q z9=>by
 obtain⟨tg,F,ρ,d,ρ',G,em,q⟩:=z9;obtain⟨ds,ρ1,e1,em⟩:=bc em;obtain⟨e2,rfl⟩:=gn em;unfold gTup at e2;split at e2
 ·rename_i hz;cases e2;refine⟨tg,F,ρ,ds,_,G,e1,fun vs H1 F1 G1 x1 r1=>⟨by rw[<-r1.length];exact agt hz,fun p hp=>q _ _ _ (G1.new hp _) (x1.trans (G1.newX hp _)) (.tup gk (r1.mono (Same.new (G1.freeF hp) _)))⟩⟩
 ·cases e2
theorem jg{m:M (List D)}(h:ED K X es m):ER K X (.List es pos) (mLst m):=ER.mk fun hk=>PE.imp (a0r (h hk)) fun σ H Q z9=>by
 obtain⟨tg,F,ρ,d,ρ',G,em,q⟩:=z9;obtain⟨ds,ρ1,e1,em⟩:=bc em;obtain⟨e2,rfl⟩:=gn em;unfold gLst at e2;split at e2
 ·rename_i hz;cases e2;refine⟨tg,F,ρ,ds,_,G,e1,fun vs H1 F1 G1 x1 r1=>⟨by rw[<-r1.length];exact agt hz,fun p hp=>q _ _ _ (G1.fresh hp _) (x1.trans (G1.freshX hp _)) ⟨p,vs,rfl,.inl (x1.there p hp),G1.freeF hp,gk,r1,fun z=>G1.own_ne hp z rfl⟩⟩⟩
 ·cases e2
theorem auz{x:Str}{n:Int}{j1 j2:Nat}{p1 p2:Pos}:EV K X (.Dict [some (.Constant (.str x) j1 p1)] [.Constant (.int n) j2 p2] pos) (ret (.dct [(mV x,.int n)])):=EV.mk fun _=>PE.imp atq fun σ H Q z9=>by
 obtain⟨tg,F,ρ,d,ρ',G,em,q⟩:=z9;obtain⟨rfl,rfl⟩:=jq em;exact fun p hp=>q _ _ _ (G.new hp _) (G.newX hp _) (.dct gk (.cons (.int n) .nil))
inductive BorL (K:Fg9) (F H:Hp):List D->List V->Prop
 | nil:BorL K F H [] []
 | cons {d:D} {v:V} {ds:List D} {vs:List V} (h:Bor K F H d v) (t:BorL K F H ds vs):BorL K F H (d::ds) (v::vs)
def TA'(K:Fg9)(m:M (List D)):TA:=fun σ H Q=>∃tg F ρ ds ρ',Good K tg F H ρ σ/\m ρ=some (.ok ds,ρ')/\∀vs H' F',Good K tg F' H' ρ' σ->Ext (Own ρ σ) (Own ρ' σ) F H F' H'->BorL K F' H' ds vs->Q vs H'
structure EA (K:Fg9) (X:Cx) (es:List dZ) (m:M (List D)):Prop where
 go:X.K=K->PA X es (TA' K m)
instance {K:Fg9} {X:Cx} {es:List dZ} {m:M (List D)}:CoeFun (EA K X es m) fun _=>X.K=K->PA X es (TA' K m):=⟨EA.go⟩
def gw(i:Nat)(ms:M (List D)):M (List D):=(dj i).bind fun _=>ms.bind fun ds=>(dj i).bind fun d=>ret (d::ds)
theorem cz:EA K X [] mNil:=EA.mk fun _=>PA.imp aex fun σ H Q z9=>by
 obtain⟨tg,F,ρ,ds,ρ',G,em,q⟩:=z9;obtain⟨rfl,rfl⟩:=jq em;exact q [] H F G (Ext.refl _ _ _) .nil
theorem ea_v{m:M D}{ms:M (List D)}(h:EV K X e m)(t:EA K X es ms)(hs:aX (e::es) X.env=(false,eval e X.env)::aX es X.env:=by rfl):EA K X (e::es) (ak m ms):=EA.mk fun hk=>PA.imp (uh (h hk) (t hk) hs) fun σ H Q z9=>by
 obtain⟨tg,F,ρ,ds,ρ',G,em,q⟩:=z9;obtain⟨d,ρ1,e1,em⟩:=bc em;obtain⟨r,ρ2,e2,em⟩:=bc em;obtain⟨rfl,rfl⟩:=jq em;exact⟨tg,F,ρ,d,ρ1,G,e1,fun v H1 F1 G1 x1 r1=>⟨tg,F1,ρ1,r,_,G1,e2,fun vs H2 F2 G2 x2 r2=>q _ H2 F2 G2 (x1.trans x2) (.cons (.inl (r1.mono x2.sub)) r2)⟩⟩
theorem ea_n{i:Nat}{ms:M (List D)}(h:PE X e (tVar i))(t:EA K X es ms)(hs:aX (e::es) X.env=(false,eval e X.env)::aX es X.env:=by rfl):EA K X (e::es) (gw i ms):=EA.mk fun hk=>PA.imp (uh h (t hk) hs) fun σ H Q z9=>by
 obtain⟨tg,F,ρ,ds,ρ',G,em,q⟩:=z9;obtain⟨d0,ρ0,e0,em⟩:=bc em;obtain⟨r,ρ2,e2,em⟩:=bc em;obtain⟨d,ρ1,e1,em⟩:=bc em;obtain⟨rfl,rfl⟩:=jq em;obtain⟨rfl,v,hv,_⟩:=rn G e0;exact⟨v,hv,tg,F,ρ0,r,_,G,e2,fun vs H2 F2 G2 x2 r2=>by
  obtain⟨rfl,v',hv',b'⟩:=rn G2 e1;rw[hv] at hv';cases hv';exact q _ H2 F2 G2 x2 (.cons b' r2)⟩
def rcOf(K:Fg9)(g:List D->Option Rv):List V->Hp->VK->Prop:=fun vs H Q=>∃tg F ρ σ ds r,Good K tg F H ρ σ/\BorL K F H ds vs/\g ds=some r/\Res K tg F H ρ σ r Q
structure CallD (K:Fg9) (X:Cx) (f:aG) (g:List D->Option Rv):Prop where
 go:X.K=K->adf X f (rcOf K g)
instance {K:Fg9} {X:Cx} {f:aG} {g:List D->Option Rv}:CoeFun (CallD K X f g) fun _=>X.K=K->adf X f (rcOf K g):=⟨CallD.go⟩
def fu(g:List D->Option Rv)(m:M (List D)):M Rv:=m.bind fun ds=>lift (g ds)
theorem nq{O O1 O2:aY->Prop}{F H F1 H1 F2 H2:Hp}{r:Rv}{v:V}(x:Ext O O1 F H F1 H1)(h:relR K r v H1 O1 F2 H2 O2):relR K r v H O F2 H2 O2:=by
 cases r with
 | v d=>exact h
 | fr l =>
  obtain⟨a,vs,ev,ha,w⟩:=h;refine⟨a,vs,ev,?_,w⟩;rcases ha with ha | ha
  ·exact .inl (x.there a ha)
  ·exact(x.own a ha).symm
 | tf d l =>
  obtain⟨t,u,a,vs,ev,ht,hd,ha,w⟩:=h;refine⟨t,u,a,vs,ev,ht,hd,?_,w⟩;rcases ha with ha | ha
  ·exact .inl (x.there a ha)
  ·exact(x.own a ha).symm
theorem anv{g:List D->Option Rv}{m:M (List D)}(σ:L2.St)(H:Hp)(Q:VK)(t:T K (relR K) (fu g m) σ H Q):tCB (rcOf K g) (TA' K m) σ H Q:=by
 obtain⟨tg,F,ρ,r,ρ',G,em,q⟩:=t;obtain⟨ds,ρ1,e1,em⟩:=bc em;obtain⟨e2,rfl⟩:=gn em;exact⟨tg,F,ρ,ds,_,G,e1,fun vs H' F' G' x' bl=>⟨tg,F',_,σ,ds,r,G',bl,e2,fun v H2 F2 G2 x2 rr=>q v H2 F2 G2 (x'.trans x2) (nq x' rr)⟩⟩
section
variable{x:Str}{id Ty:String}{g:List D->Option Rv}{m:M (List D)}
theorem bw(hc:CallD K X (.builtin id) g)(hg:Gl X x)(hm:X.mg x=none)(hv:bT x=some (.builtin id))(ha:EA K X (e::es) m)(hn:x ≠ "__name__" := by decide)(hdb:(x==("__debug__" : Str))=false:=by decide)
  (he:aX (e::es) X.env=(false,eval e X.env)::aX es X.env:=by rfl) (hpl:(iZ pos (aX es X.env)).any (·.1)=false:=by rfl):ER K X (.Call (.Name x p) (e::es) [] pos) (fu g m):=ER.mk fun hk=>PE.imp (adp (hc hk) hg hm hv (ha hk) hn hdb he hpl) anv
theorem jx(hc:CallD K X (.type Ty) g)(hg:Gl X x)(hm:X.mg x=none)(hv:bT x=some (.type Ty))(ha:EA K X (e::es) m)(hn:x ≠ "__name__" := by decide)(hdb:(x==("__debug__" : Str))=false:=by decide)
  (he:aX (e::es) X.env=(false,eval e X.env)::aX es X.env:=by rfl) (hpl:(iZ pos (aX es X.env)).any (·.1)=false:=by rfl):ER K X (.Call (.Name x p) (e::es) [] pos) (fu g m):=ER.mk fun hk=>PE.imp (ajl (hc hk) hg hm hv (ha hk) hn hdb he hpl) anv
end
theorem BorL.one{F H:Hp}{d:D}{vs:List V}(h:BorL K F H [d] vs):∃v,vs=[v]/\Bor K F H d v:=by
 cases h with
 | cons h t=>cases t;exact⟨_,rfl,h⟩
theorem BorL.two{F H:Hp}{d d':D}{vs:List V}(h:BorL K F H [d,d'] vs):∃v v',vs=[v,v']/\Bor K F H d v/\Bor K F H d' v':=by
 cases h with
 | cons h t =>
  obtain⟨v',rfl,h'⟩:=t.one;exact⟨_,_,rfl,h,h'⟩
def g1(f:D->Option Rv):List D->Option Rv
 | [d]=>f d
 | _=>none
def g2(f:D->D->Option Rv):List D->Option Rv
 | [d,d']=>f d d'
 | _=>none
theorem vz{f:D->Option Rv}{w:aG} (h:X.K=K->∀(jv:List (aY×Obj)) (s:aH) (σ0:L2.St) (H:Hp) (x:V) (u:aG) (Q:VK) (tg:Nat->aY) (F:Hp) (ρ:Ro) (σ:L2.St) (d:D) (r:Rv),Inv X jv σ0 H s->RelV x u->Good K tg F H ρ σ->Bor K F H d x->f d=some r->Res K tg F H ρ σ r Q ->
  bL (bY X.prog X.w) X.A (call w [u]) (EP X jv σ0 Q) X.xe s):CallD K X w (g1 f):=CallD.mk fun hk=>by
 intro jv s σ0 H xs us Q I r z9;obtain⟨tg,F,ρ,σ,ds,rv,G,bl,eg,q⟩:=z9
 match ds,eg with
 | [d],eg =>
  obtain⟨v,rfl,bv⟩:=bl.one;obtain⟨u,rfl,ru⟩:=vals1 r;exact h hk jv s σ0 H v u Q tg F ρ σ d rv I ru G bv eg q
theorem j7:CallD K X (.builtin "len") (g1 fun d=>(itemsD d).map fun l=>.v (.int l.length)):=vz fun hk jv s σ0 H x u Q tg F ρ σ d r I ru G bd eg q=>by
 subst hk;cases e:itemsD d with
 | none=>rw[e] at eg;cases eg
 | some l =>
  rw[e] at eg;cases eg;obtain⟨a,vs,rfl,hl,hs⟩:=aht G.sub e bd;have q':=Res.same G q (.int _);rw[hl.length] at q';exact akl jv s σ0 H [.ref a] [u] Q I (.cons ru .nil) ⟨a,vs,rfl,hs,q'⟩
def abf:List D->Option (List Bool)
 | []=>some []
 | .bl b::r=>(abf r).map (b :: ·)
 | _::_=>none
theorem akr:∀{l:List D} {bs:List Bool},abf l=some bs->l=bs.map D.bl
 | [],_,h=>by cases h;rfl
 | .bl b::r,bs,h=>by
  have h':(abf r).map (b :: ·)=some bs:=h;cases e:abf r with
  | none=>rw[e] at h';cases h'
  | some t =>
   rw[e] at h';cases h';rw[akr e];rfl
 | .non::_,_,h=>by cases h
 | .int _::_,_,h=>by cases h
 | .str _::_,_,h=>by cases h
 | .tup _::_,_,h=>by cases h
 | .lst _::_,_,h=>by cases h
 | .kst _::_,_,h=>by cases h
 | .dct _::_,_,h=>by cases h
@[simp] theorem uq(bs:List Bool):abf (bs.map D.bl)=some bs:=by
 induction bs with
 | nil=>rfl
 | cons b r ih=>show(abf (r.map D.bl)).map (b :: ·)=_;rw[ih];rfl
def gAll:D->Option Rv
 | .lst l=>(abf l).map fun bs=>.v (.bl (bs.all id))
 | _=>none
theorem ae6(hc:X.calm=true):CallD K X (.builtin "all") (g1 gAll):=vz fun hk jv s σ0 H x u Q tg F ρ σ d r I ru G bd eg q=>by
 subst hk;cases d with
 | lst l =>
  have eg:(abf l).map (fun bs=>Rv.v (.bl (bs.all id)))=some r:=eg
  cases e:abf l with
  | none=>rw[e] at eg;cases eg
  | some bs =>
   rw[e] at eg;cases eg;obtain⟨a,vs,rfl,ea,hl⟩:=bd.lst G.sub;rw[akr e] at hl;rw[hl.bl_inv] at ea;exact ava hc jv s σ0 H [.ref a] [u] Q I (.cons ru .nil) ⟨a,bs,rfl,SqL.of ea,Res.same G q (.bl _)⟩
 | _=>cases eg
def aup:D->Option Rv
 | .int i=>some (.v (.int i))
 | .bl k=>some (.v (.int (if k then 1 else 0)))
 | _=>none
theorem a2y:CallD K X (.type "int") (g1 aup):=vz fun hk jv s σ0 H x u Q tg F ρ σ d r I ru G bd eg q=>by
 cases d with
 | int i =>
  cases eg;obtain rfl:=bd.int;exact akn jv s σ0 H [_] [u] Q I (.cons ru .nil) (.inl ⟨i,rfl,Res.same G q (.int _)⟩)
 | bl k =>
  cases eg;obtain rfl:=bd.bl;exact akn jv s σ0 H [_] [u] Q I (.cons ru .nil) (.inr ⟨k,rfl,Res.same G q (.int _)⟩)
 | _=>cases eg
theorem ud:CallD K X (.type "tuple") (g1 fun d=>(itemsD d).map fun l=>.v (.tup l)):=vz fun hk jv s σ0 H x u Q tg F ρ σ d r I ru G bd eg q=>by
 subst hk;cases d with
 | tup l =>
  cases eg;obtain⟨a,vs,rfl,ea,hl⟩:=bd.tup;exact aa3 jv s σ0 H [_] [u] Q I (.cons ru .nil) ⟨a,vs,rfl,.inr ⟨SqT.of (G.sub _ _ ea),Res.same G q (.tup ea hl)⟩⟩
 | lst l =>
  cases eg;obtain⟨a,vs,rfl,ea,hl⟩:=bd.lst G.sub;exact aa3 jv s σ0 H [_] [u] Q I (.cons ru .nil) ⟨a,vs,rfl,.inl ⟨SqL.of ea,fun p hp=>Res.tup G q hl hp⟩⟩
 | kst l =>
  cases eg;obtain⟨a,vs,rfl,ea,hl⟩:=bd.kst;exact aa3 jv s σ0 H [_] [u] Q I (.cons ru .nil) ⟨a,vs,rfl,.inl ⟨L2.Same.seq G.sub ea,fun p hp=>Res.tup G q hl hp⟩⟩
 | _=>cases eg
theorem ar3:CallD K X (.type "list") (g1 fun d=>(itemsD d).map fun l=>.fr l):=vz fun hk jv s σ0 H x u Q tg F ρ σ d r I ru G bd eg q=>by
 subst hk;cases e:itemsD d with
 | none=>rw[e] at eg;cases eg
 | some l =>
  rw[e] at eg;cases eg;obtain⟨a,vs,rfl,hl,hs⟩:=aht G.sub e bd;exact akk jv s σ0 H [_] [u] Q I (.cons ru .nil) ⟨a,vs,rfl,hs,fun p hp=>Res.lst G q hl hp⟩
theorem awc{f:D->D->Option Rv}{w:aG} (h:X.K=K->∀(jv:List (aY×Obj)) (s:aH) (σ0:L2.St) (H:Hp) (x y:V) (u v:aG) (Q:VK) (tg:Nat->aY) (F:Hp) (ρ:Ro) (σ:L2.St) (d d':D) (r:Rv),Inv X jv σ0 H s->RelV x u->RelV y v->Good K tg F H ρ σ->Bor K F H d x->Bor K F H d' y->f d d'=some r->Res K tg F H ρ σ r Q ->
  bL (bY X.prog X.w) X.A (call w [u,v]) (EP X jv σ0 Q) X.xe s):CallD K X w (g2 f):=CallD.mk fun hk=>by
 intro jv s σ0 H xs us Q I r z9;obtain⟨tg,F,ρ,σ,ds,rv,G,bl,eg,q⟩:=z9
 match ds,eg with
 | [d,d'],eg =>
  obtain⟨v,v',rfl,bv,bv'⟩:=bl.two;obtain⟨u,w,rfl,ru,rw'⟩:=vals2 r;exact h hk jv s σ0 H v v' u w Q tg F ρ σ d d' rv I ru rw' G bv bv' eg q
theorem a2x(hc:X.calm=true):CallD K X (.builtin "max") (g2 (gInt fun i j=>some (if j > i then j else i))):=awc fun hk jv s σ0 H x y u v Q tg F ρ σ d d' r I ru rv G bd bd' eg q=>by
 unfold gInt at eg;split at eg
 ·cases eg;obtain rfl:=bd.int;obtain rfl:=bd'.int;exact ar7 hc jv s σ0 H [_,_] [u,v] Q I (.cons ru (.cons rv .nil)) ⟨_,_,rfl,Res.same G q (.int _)⟩
 ·cases eg
theorem ako:adf X (.builtin "divmod") (fun xs H Q=>∃i j,xs=[.int i,.int j]/\(0 < j/\j < 1000000000000000000000000000000000000000000000000000000000000)/\∀p,H p=none->Q (.ref p) (upd H p (.tup [.int (i / j),.int (i % j)]))):=by
 intro jv s σ H xs us Q I r h;obtain⟨i,j,rfl,hj,q⟩:=h;obtain⟨u,w',rfl,⟨t,rfl⟩,⟨t',rfl⟩⟩:=vals2 r;have h1:=hj.1;refine divmod_int (by omega) ?_ (.inl (a09 hj.1 hj.2))
 rw[tL i (by omega),tK i (by omega)]
 refine⟨.ref s.heap.objs.size,_,?_,rfl,q _ (I.hok.fresh (aO _))⟩;exact I.laid (fun b o e=>aB _ e) (aO _) ⟨by simp only[bJ,sY];rw[cF];decide,[.int (i / j) s.toks,.int (i % j) (s.toks+1)],.cons ⟨_,rfl⟩ (.cons ⟨_,rfl⟩ .nil),⟨_,aU s.heap rfl,rfl,rfl,0,rfl⟩⟩
def aio:D->D->Option Rv
 | .int i,.int j=>if 0 < j/\j < 1000000000000000000000000000000000000000000000000000000000000 then some (.v (.tup [.int (i / j),.int (i % j)])) else none
 | _,_=>none
theorem ar4:CallD K X (.builtin "divmod") (g2 aio):=awc fun hk jv s σ0 H x y u v Q tg F ρ σ d d' r I ru rv G bd bd' eg q=>by
 unfold aio at eg;split at eg
 ·split at eg
  ·rename_i hc;cases eg;obtain rfl:=bd.int;obtain rfl:=bd'.int;exact ako jv s σ0 H [_,_] [u,v] Q I (.cons ru (.cons rv .nil)) ⟨_,_,rfl,hc,fun p hp=>Res.tup G q (.cons (.int _) (.cons (.int _) .nil)) hp⟩
  ·cases eg
 ·cases eg
inductive Ty where
 | int | bool | tuple | list | str | dict
def Ty.nm:Ty->String
 | .int => "int" | .bool => "bool" | .tuple => "tuple" | .list => "list" | .str => "str" | .dict => "dict"
def tyD:D->aG
 | .non=>.type "NoneType"
 | .bl _=>.type "bool"
 | .int _=>.type "int"
 | .str _=>.type "str"
 | .tup _=>.type "tuple"
 | .lst _=>.type "list"
 | .kst _=>.type "list"
 | .dct _=>.type "dict"
 | .exn _ _=>.type "NoneType"
 | .dtt _=>.type "dict"
def isTy:Ty->D->Bool
 | .int,.int _=>true
 | .int,.bl _=>true
 | .bool,.bl _=>true
 | .tuple,.tup _=>true
 | .list,.lst _=>true
 | .list,.kst _=>true
 | .str,.str _=>true
 | .dict,.dct _=>true
 | .dict,.dtt _=>true
 | _,_=>false
theorem av0(t:Ty)(d:D):gR K (tyD d) (.type t.nm)=some (isTy t d):=by
 cases d <;> cases t <;> kernel_rfl
theorem ar8{X:Cx}:adf X (.builtin "isinstance") (fun xs H Q=>∃F d x t,xs=[x,.ty (Ty.nm t)]/\Same F H/\Bor X.K F H d x/\Q (.bl (isTy t d)) H):=by
 intro jv s σ H xs us Q I r z9;obtain⟨F,d,x,t,e,g,h,q⟩:=z9;subst e;obtain⟨u,w',rfl,r1,r2⟩:=vals2 r;obtain rfl:w'=jG t.nm:=r2;have fin:∀tk,EP X jv σ Q (.bool (isTy t d)) { s with toks:=tk }:=fun tk=>⟨.bl _,H,I.tok tk,rfl,q⟩
 have go:TyOf X.K H x (tyD d)->bL (bY X.prog X.w) X.A (call (.builtin "isinstance") [u,.type t.nm]) (EP X jv σ Q) X.xe s:=fun ty=>aq2 I r1 ty (av0 t d) fin
 cases d with
 | non=>obtain rfl:=h.non;exact go .non
 | bl b=>obtain rfl:=h.bl;exact go (.bl b)
 | int b=>obtain rfl:=h.int;exact go (.int b)
 | str b=>obtain rfl:=h.str;exact go (.str b)
 | tup b=>obtain⟨a,vs,rfl,e,_⟩:=h.tup;exact go (.tup (g _ _ e))
 | lst b=>obtain⟨a,vs,rfl,e,_⟩:=h.lst g;exact go (.lst e)
 | kst b =>
  obtain⟨a,vs,rfl,e,_⟩:=h.kst;cases(show u=cP a from r1)
  obtain⟨its,_,pl,_⟩:=I.list (L2.Same.seq g e);obtain⟨o,ho,hc,n,hd⟩:=pl.isList;exact eE rJ I.kIn ⟨o,ho,hc⟩ (av0 t (.kst b)) (fun z=>nomatch z) fin
 | dct b =>
  rcases h with h | ⟨a,vs,l',e1,_⟩
  ·cases h with
   | dct e h=>exact go (.dK (g _ _ e))
  ·cases e1
 | dtt b =>
  rcases h with h | ⟨a,vs,l',e1,_⟩
  ·cases h with
   | dtt e=>exact go (.dT (g _ _ e))
  ·cases e1
 | exn c fs =>
  rcases h with h | ⟨a,vs,l',e1,_⟩
  ·cases h with
   | @exn a C c dx fs e hc hk hf =>
    cases(show u=cP a from r1)
    obtain⟨⟨oe,ws,h1,h2,h3,h4⟩,_⟩:=(show vd X.prog X.w H s.heap a (.ext (exO a C dx)) from I.hok a _ (g _ _ e))
    have hno:qN oe=true:=by unfold qN;rw[h4]
    have ia:∃ox od,lY s.heap a ox C od:=by
     rcases hf with⟨rfl,_⟩ | ⟨d,rfl,hd⟩
     ·exact⟨oe,none,h1,h2,hno,by rw[h3];trivial⟩
     ·obtain⟨mA,⟨od,_,_,e1,_⟩,_⟩:=(show vd X.prog X.w H s.heap d (.xd _) from I.hok d _ (g _ _ hd))
      exact⟨oe,some od,h1,h2,hno,by rw[h3];exact e1⟩
    have kq:gR X.K (.ref C) (.type t.nm)=some false:=by
     have h5:gQ X.K (.ref C) (.type t.nm)=some false:=hk.no _ (by cases t <;> simp[Ty.nm])
     have h6:xV t.nm=true:=by cases t <;> kernel_rfl
     unfold gR yL;rw[if_neg (by simp)]
     show(if xV t.nm=true then gQ X.K (.ref C) (.type t.nm) else none)=some false
     rw[if_pos h6];exact h5
    have e7:isTy t (.exn c fs)=false:=by cases t <;> rfl
    exact eE (am5 hk) I.kIn ia kq (fun z=>nomatch z) fun tk=>e7▸fin tk
  ·cases e1
def mIsi(t:Ty)(m:M D):M D:=m.bind fun d=>ret (.bl (isTy t d))
theorem acp{t:Ty}{tn:dZ}{m:M D}{x:Str}(ht:PE X tn (tC (.ty t.nm)))(hg:Gl X x)(hm:X.mg x=none)(hv:bT x=some (.builtin "isinstance"))(h:EB K X e m)(hn:x ≠ "__name__" := by decide)(hdb:(x==("__debug__" : Str))=false:=by decide)
  (h1:aX [tn] X.env=(false,eval tn X.env)::aX [] X.env:=by rfl) (he:aX [e,tn] X.env=(false,eval e X.env)::aX [tn] X.env:=by rfl) (hpl:(iZ pos (aX [tn] X.env)).any (·.1)=false:=by rfl) :
  EV K X (.Call (.Name x p) [e,tn] [] pos) (mIsi t m):=EV.mk fun hk=>by
 refine PE.imp (adp ar8 hg hm hv (uh (h hk) (uh ht aex h1) he) hn hdb he hpl) fun σ H Q z9 =>?_
 obtain⟨tg,F,ρ,d,ρ',G,em,q⟩:=z9;obtain⟨d1,ρ1,e1,em⟩:=bc em;obtain⟨rfl,rfl⟩:=jq em;subst hk;exact⟨tg,F,ρ,d1,_,G,e1,fun v H' F' G' x bv=>⟨F',d1,v,t,rfl,G'.sub,bv,q _ H' F' G' x (.bl _)⟩⟩
def gIx(d i:D):Option Rv:=match i with
 | .int k=>(itemsD d).bind fun l=>(atI l k).map fun x=>.v x
 | _=>none
theorem a3f{F:Hp}{l:List D}{vs:List V}{k:Int}{d:D}(h:IsL K F l vs)(e:atI l k=some d):∃v,atI vs k=some v/\Is K F d v:=by
 unfold atI at e ⊢
 rw[h.length] at e;cases q:ixN vs.length k with
 | none=>rw[q] at e;cases e
 | some j =>
  rw[q] at e;obtain⟨v,e1,e2⟩:=h.get (i:=j) e;exact⟨v,e1,e2⟩
theorem ixd:X.K=K->IxR X (rOf K gIx):=fun hk=>by
 intro value slice jv s σ0 H x y v u Q I rx ry z9 hs;obtain⟨tg,F,ρ,σ,d1,d2,r,G,b1,b2,eg,q⟩:=z9;subst hk;cases d2 with
 | int k =>
  have eg:(itemsD d1).bind (fun l=>(atI l k).map fun x=>Rv.v x)=some r:=eg
  cases e:itemsD d1 with
  | none=>rw[e] at eg;cases eg
  | some l =>
   rw[e] at eg;have eg:(atI l k).map (fun x=>Rv.v x)=some r:=eg
   cases e2:atI l k with
   | none=>rw[e2] at eg;cases eg
   | some d =>
    rw[e2] at eg;cases eg;obtain⟨a,vs,rfl,hl,hq⟩:=aht G.sub e b1;obtain rfl:=b2.int;obtain⟨z,hz,iz⟩:=a3f hl e2;rcases hq with hq | hq
    ·exact aqz value slice jv s σ0 H _ _ v u Q I rx ry ⟨a,vs,k,z,rfl,rfl,hq,hz,Res.same G q iz⟩ hs
    ·exact a1z value slice jv s σ0 H _ _ v u Q I rx ry ⟨a,vs,k,z,rfl,rfl,hq,hz,Res.same G q iz⟩ hs
 | _=>cases eg
theorem g8{m:M (D×D)}(h:E2 K X a b m)(hs:amc b):ER K X (.Subscript a b pos) (mOp gIx m):=ER.mk fun hk=>by
 obtain⟨ta,tb,ha,hb,h⟩:=h hk;exact PE.imp (a0s (ixd hk) ha hb hs) (amw h)
def TOp(K:Fg9)(m:M (Option Int)):TO:=fun σ H Q=>∃tg F ρ o ρ',Good K tg F H ρ σ/\m ρ=some (.ok o,ρ')/\∀H' F',Good K tg F' H' ρ' σ->Ext (Own ρ σ) (Own ρ' σ) F H F' H'->Q o H'
structure EO (K:Fg9) (X:Cx) (e:Option dZ) (m:M (Option Int)):Prop where
 go:X.K=K->PO X e (TOp K m)
instance {K:Fg9} {X:Cx} {e:Option dZ} {m:M (Option Int)}:CoeFun (EO K X e m) fun _=>X.K=K->PO X e (TOp K m):=⟨EO.go⟩
theorem PO.imp{eo:Option dZ}{t t':TO}(h:PO X eo t)(w:∀σ H Q,t' σ H Q->t σ H Q):PO X eo t':=fun jv s σ H Q I q=>h jv s σ H Q I (w σ H Q q)
theorem yz:EO K X none (ret none):=EO.mk fun _=>PO.imp axb fun σ H Q z9=>by
 obtain⟨tg,F,ρ,o,ρ',G,em,q⟩:=z9;obtain⟨rfl,rfl⟩:=jq em;exact q H F G (Ext.refl _ _ _)
def asI:D->Option Int
 | .int i=>some i
 | _=>none
theorem anz{d:D}{k:Int}(h:asI d=some k):d=.int k:=by
 cases d with
 | int b=>cases h;rfl
 | _=>cases h
def adx(m:M D):M (Option Int):=m.bind fun d=>lift ((asI d).map some)
theorem vp{m:M D}(h:EV K X e m):EO K X (some e) (adx m):=EO.mk fun hk=>PO.imp (axa (h hk)) fun σ H Q z9=>by
 obtain⟨tg,F,ρ,o,ρ',G,em,q⟩:=z9;obtain⟨d,ρ1,e1,em⟩:=bc em;obtain⟨e2,rfl⟩:=gn em;refine⟨tg,F,ρ,d,_,G,e1,fun v H' F' G' x r =>?_⟩
 cases d with
 | int i =>
  cases e2;cases r;exact⟨i,rfl,q H' F' G' x⟩
 | _=>cases e2
def cutD(l:List D)(lo hi:Option Int):List D:=(l.drop (HT.sIx l.length 0 lo)).take (HT.sIx l.length l.length hi - HT.sIx l.length 0 lo)
theorem arq{F:Hp}{l:List D}{vs:List V}(h:IsL K F l vs)(lo hi:Option Int):IsL K F (cutD l lo hi) (cutV vs lo hi):=by
 unfold cutD cutV;rw[h.length];exact(h.drop _).take _
def gCut(d:D)(lo hi:Option Int):Option Rv:=match d with
 | .tup l=>some (.v (.tup (cutD l lo hi)))
 | .lst l=>some (.fr (cutD l lo hi))
 | .kst l=>some (.fr (cutD l lo hi))
 | _=>none
def rsOf(K:Fg9):V->Option Int->Option Int->Hp->VK->Prop:=fun x lo hi H Q=>∃tg F ρ σ d r,Good K tg F H ρ σ/\Bor K F H d x/\gCut d lo hi=some r/\Res K tg F H ρ σ r Q
theorem sld(hk:X.K=K):SlR X (rsOf K):=by
 intro jv s σ0 H x v vl vu lo hi sl Q I rx hs pl pu z9;obtain⟨tg,F,ρ,σ,d,r,G,bd,eg,q⟩:=z9;subst hk;cases d with
 | tup l =>
  cases eg;obtain⟨a,vs,rfl,ea,hl⟩:=bd.tup
  by_cases hw:HT.sIx vs.length 0 lo=0/\HT.sIx vs.length vs.length hi=vs.length
  ·have ec:cutD l lo hi=l:=by
    unfold cutD;rw[hl.length,hw.1,hw.2,List.drop_zero,Nat.sub_zero,<-hl.length,pJ]
   rw[ec] at q;cases rx;obtain⟨its,r,ht,hz⟩:=I.tuple (SqT.of (G.sub _ _ ea));have hlen:its.toArray.size=vs.length:=by rw[aL];exact r.length.symm
   refine⟨"tuple", _,cN.lookup,ht.typeIs,?_⟩;exact ac4 ht hs pl pu (by rw[hlen];exact hw.1) (by rw[hlen];exact hw.2) ⟨.ref a,H,I,rfl,Res.same G q (.tup ea hl)⟩
  ·exact azy jv s σ0 H _ v vl vu lo hi sl Q I rx hs pl pu ⟨a,vs,rfl,SqT.of (G.sub _ _ ea),hw,fun p hp=>Res.tup G q (arq hl lo hi) hp⟩
 | lst l =>
  cases eg;obtain⟨a,vs,rfl,ea,hl⟩:=bd.lst G.sub;exact apq jv s σ0 H _ v vl vu lo hi sl Q I rx hs pl pu ⟨a,vs,rfl,SqL.of ea,fun p hp=>Res.lst G q (arq hl lo hi) hp⟩
 | kst l =>
  cases eg;obtain⟨a,vs,rfl,ea,hl⟩:=bd.kst;exact apq jv s σ0 H _ v vl vu lo hi sl Q I rx hs pl pu ⟨a,vs,rfl,L2.Same.seq G.sub ea,fun p hp=>Res.lst G q (arq hl lo hi) hp⟩
 | _=>cases eg
def ael(i:Nat)(ml mh:M (Option Int)):M Rv:=(dj i).bind fun _=>ml.bind fun lo=>mh.bind fun hi=>(dj i).bind fun d=>lift (gCut d lo hi)
theorem yl{i:Nat}{ml mh:M (Option Int)}{lo hi:Option dZ}(h:PE X a (tVar i))(hl:EO K X lo ml)(hh:EO K X hi mh):ER K X (.Subscript a (.Slice lo hi none p2) pos) (ael i ml mh):=ER.mk fun hk=>PE.imp (atp (sld hk) h (hl hk) (hh hk)) fun σ H Q z9=>by
 obtain⟨tg,F,ρ,r,ρ',G,em,q⟩:=z9;obtain⟨d0,ρ0,e0,em⟩:=bc em;obtain⟨o1,ρ2,e2,em⟩:=bc em;obtain⟨o2,ρ3,e3,em⟩:=bc em;obtain⟨d,ρ4,e1,em⟩:=bc em;obtain⟨e4,rfl⟩:=gn em;obtain⟨rfl,v,hv,_⟩:=rn G e0;refine⟨v,hv,tg,F,ρ0,o1,ρ2,G,e2,fun H2 F2 G2 x2=>⟨tg,F2,ρ2,o2,_,G2,e3,fun H3 F3 G3 x3 =>?_⟩⟩
 obtain⟨rfl,v',hv',b'⟩:=rn G3 e1;rw[hv] at hv';cases hv';exact⟨tg,F3,_,σ,d,r,G3,b',e4,fun v' H4 F4 G4 x4 rr=>q v' H4 F4 G4 ((x2.trans x3).trans x4) (nq (x2.trans x3) rr)⟩
end
inductive Fl where
 | nx | ret (r:Rv) | brk | cont | exc (x:Exn)
abbrev Sd:=Ro->Option (Fl×Ro)
section
variable{K:Fg9}{X:Cx}{e a b c tgt:dZ}{es:List dZ}{pos p p2:Pos}{st:iY}{ss:List iY}
def FlOk(K:Fg9)(tg:Nat->aY)(ρ:Ro)(σ:L2.St)(F H:Hp)(E:Ends)(fl:Fl)(ρ':Ro):Prop:=match fl with
 | .nx=>∀σ' H' F',Good K tg F' H' ρ' σ'->Ext (Own ρ σ) (Own ρ' σ') F H F' H'->E.nx σ' H'
 | .brk=>∀σ' H' F',Good K tg F' H' ρ' σ'->Ext (Own ρ σ) (Own ρ' σ') F H F' H'->E.bk σ' H'
 | .cont=>∀σ' H' F',Good K tg F' H' ρ' σ'->Ext (Own ρ σ) (Own ρ' σ') F H F' H'->E.ct σ' H'
 | .ret r=>∀v σ' H' F',Good K tg F' H' ρ' σ'->Ext (Own ρ σ) (Own ρ' σ') F H F' H'->relR K r v H (Own ρ σ) F' H' (Own ρ' σ')->E.rt v H'
 | .exc _=>False
def TSd(K:Fg9)(g:Sd):TS:=fun E σ H=>∃tg F ρ fl ρ',Good K tg F H ρ σ/\g ρ=some (fl,ρ')/\FlOk K tg ρ σ F H E fl ρ'
structure SV (K:Fg9) (X:Cx) (st:iY) (g:Sd):Prop where
 go:X.K=K->PS X st (TSd K g)
instance {K:Fg9} {X:Cx} {st:iY} {g:Sd}:CoeFun (SV K X st g) fun _=>X.K=K->PS X st (TSd K g):=⟨SV.go⟩
structure SVs (K:Fg9) (X:Cx) (ss:List iY) (g:Sd):Prop where
 go:X.K=K->PSs X ss (TSd K g)
instance {K:Fg9} {X:Cx} {ss:List iY} {g:Sd}:CoeFun (SVs K X ss g) fun _=>X.K=K->PSs X ss (TSd K g):=⟨SVs.go⟩
theorem PS.imp{t t':TS}(h:PS X st t)(w:∀E σ H,t' E σ H->t E σ H):PS X st t':=fun jv s σ H E I q=>h jv s σ H E I (w E σ H q)
theorem PSs.imp{t t':TS}(h:PSs X ss t)(w:∀E σ H,t' E σ H->t E σ H):PSs X ss t':=fun jv s σ H E I q=>h jv s σ H E I (w E σ H q)
theorem FlOk.back{tg:Nat->aY}{ρ ρ1 ρ':Ro}{σ σ1:L2.St}{F H F1 H1:Hp}{E:Ends}{fl:Fl}(x:Ext (Own ρ σ) (Own ρ1 σ1) F H F1 H1)(h:FlOk K tg ρ σ F H E fl ρ'):FlOk K tg ρ1 σ1 F1 H1 E fl ρ':=by
 cases fl with
 | nx=>exact fun σ' H' F' G' x'=>h σ' H' F' G' (x.trans x')
 | brk=>exact fun σ' H' F' G' x'=>h σ' H' F' G' (x.trans x')
 | cont=>exact fun σ' H' F' G' x'=>h σ' H' F' G' (x.trans x')
 | ret r=>exact fun v σ' H' F' G' x' rr=>h v σ' H' F' G' (x.trans x') (nq x rr)
 | exc _=>exact h
def dNx:Sd:=fun ρ=>some (.nx,ρ)
noncomputable def dSeq(g k:Sd):Sd:=fun ρ=>match g ρ with
 | some (.nx,ρ1)=>k ρ1
 | r=>r
theorem jo:SVs K X [] dNx:=SVs.mk fun _=>PSs.imp aw6 fun E σ H z9=>by
 obtain⟨tg,F,ρ,fl,ρ',G,em,q⟩:=z9;cases em;exact q σ H F G (Ext.refl _ _ _)
theorem bh{g:Sd}(h:SV K X st g):SVs K X [st] g:=SVs.mk fun hk=>aw5 (h hk)
theorem aq{g k:Sd}(h:SV K X st g)(t:SVs K X ss k):SVs K X (st::ss) (dSeq g k):=SVs.mk fun hk=>PSs.imp (ams (h hk) (t hk)) fun E σ H z9=>by
 obtain⟨tg,F,ρ,fl,ρ',G,em,q⟩:=z9;unfold dSeq at em;split at em
 ·rename_i ρ1 e1;exact⟨tg,F,ρ,.nx,ρ1,G,e1,fun σ' H' F' G' x=>⟨tg,F',ρ1,fl,ρ',G',em,q.back x⟩⟩
 ·rename_i hn;refine⟨tg,F,ρ,fl,ρ',G,em,?_⟩;cases fl with
  | nx=>exact absurd em (hn ρ')
  | brk=>exact q
  | cont=>exact q
  | ret r=>exact q
  | exc _=>exact q
noncomputable def dM{α:Type}(m:M α)(k:α->Sd):Sd:=fun ρ=>match m ρ with
 | some (.ok x,ρ1)=>k x ρ1
 | some (.exc x,ρ1)=>some (.exc x,ρ1)
 | none=>none
theorem ab2{α:Type}{m:M α}{k:α->Sd}{ρ ρ':Ro}{fl:Fl}{P:Prop}(h:dM m k ρ=some (fl,ρ'))(hx:FlOk K tg ρ0 σ0 F0 H0 E0' fl ρ')(go:∀x ρ1,m ρ=some (.ok x,ρ1)->k x ρ1=some (fl,ρ')->P):P:=by
 unfold dM at h;split at h
 ·exact go _ _ (by assumption) h
 ·cases h;exact(show False from hx).elim
 ·cases h
noncomputable def dRet(m:M Rv):Sd:=dM m fun r ρ=>some (.ret r,ρ)
theorem dw{m:M Rv}(h:ER K X e m):SV K X (.Return (some e) pos) (dRet m):=SV.mk fun hk=>PS.imp (a0e (h hk)) fun E σ H ⟨tg,F,ρ,fl,ρ',G,em,q⟩=>ab2 em q fun r ρ1 e1 em=>by
 cases em;exact⟨tg,F,ρ,r,_,G,e1,fun v H' F' G' x rr=>q v σ H' F' G' x rr⟩
noncomputable def dIf(m:M Bool)(g k:Sd):Sd:=dM m fun z=>if z=true then g else k
theorem xn{m:M Bool}{g k:Sd}{ss':List iY}(h:ET K X c m)(h1:SVs K X ss g)(h2:SVs K X ss' k):SV K X (.If c ss ss' pos) (dIf m g k):=SV.mk fun hk=>PS.imp (a5k (h hk) (h1 hk) (h2 hk)) fun E σ H ⟨tg,F,ρ,fl,ρ',G,em,q⟩=>ab2 em q fun z ρ1 e1 em=>by
 refine⟨tg,F,ρ,z,ρ1,G,e1,fun H' F' G' x =>?_⟩
 cases z with
 | true=>exact iteT ⟨tg,F',ρ1,fl,ρ',G',em,q.back x⟩
 | false=>exact iteF ⟨tg,F',ρ1,fl,ρ',G',em,q.back x⟩
def aer{α:Type}(m:M α):Sd:=dM m fun _ ρ=>some (.nx,ρ)
theorem vg{m:M Rv}(h:ER K X e m)(hs:nQ e none pos.line X.env=pure false:=by rfl):SV K X (.Expr e pos) (aer m):=SV.mk fun hk=>PS.imp (aw7 (h hk) hs) fun E σ H ⟨tg,F,ρ,fl,ρ',G,em,q⟩=>ab2 em q fun r ρ1 e1 em=>by
 cases em;exact⟨tg,F,ρ,r,_,G,e1,fun v H' F' G' x rr=>q σ H' F' G' x⟩
section
variable{tg:Nat->aY}{F H:Hp}{ρ:Ro}{σ:L2.St}
theorem ac0{i:Nat}{s:Sl}{v:V}{b:aY}(hl:ρ.length=σ.length)(h:Own (cG ρ i s) (cG σ i (some v)) b):Own ρ σ b∨((∃t l,s=.own t l)/\v=.ref b):=by
 obtain⟨j,⟨t,l,e⟩,q⟩:=h;rw[bN] at e q
 by_cases hj:i=j
 ·subst hj;rw[if_pos rfl] at e q;split at e
  ·rename_i hi;rw[if_pos (by rw[<-hl];exact hi)] at q
   cases e;cases q;exact .inr ⟨⟨t,l,rfl⟩,rfl⟩
  ·cases e
 ·rw[if_neg hj] at e q;exact .inl ⟨j,⟨t,l,e⟩,q⟩
theorem Good.put(G:Good K tg F H ρ σ){s:Sl}{v:V}(i:Nat)(h:SlOk K tg F H s (some v))(n:∀t l a,s=.own t l->v=.ref a->¬Own ρ σ a):Good K tg F H (cG ρ i s) (cG σ i (some v)) where
 sub:=G.sub
 len:=by rw[dR,dR];exact G.len
 sl:=fun j s' o e q=>by
  rw[bN] at e q
  by_cases hj:i=j
  ·subst hj;rw[if_pos rfl] at e q;split at e
   ·rename_i hi;rw[if_pos (by rw[<-G.len];exact hi)] at q
    cases e;cases q;exact h
   ·cases e
  ·rw[if_neg hj] at e q;exact G.sl j s' o e q
 inj:=fun j k a ⟨⟨t,l,e⟩,q⟩ ⟨⟨t',l',e'⟩,q'⟩=>by
  rw[bN] at e q e' q'
  by_cases hj:i=j
  ·subst hj;rw[if_pos rfl] at e q
   by_cases hk:i=k
   ·exact hk
   ·rw[if_neg hk] at e' q';split at e
    ·rename_i hi;rw[if_pos (by rw[<-G.len];exact hi)] at q
     cases e;cases q;exact absurd ⟨k,⟨t',l',e'⟩,q'⟩ (n t l a rfl rfl)
    ·cases e
  ·rw[if_neg hj] at e q
   by_cases hk:i=k
   ·subst hk;rw[if_pos rfl] at e' q';split at e'
    ·rename_i hi;rw[if_pos (by rw[<-G.len];exact hi)] at q'
     cases e';cases q';exact absurd ⟨j,⟨t,l,e⟩,q⟩ (n t' l' a rfl rfl)
    ·cases e'
   ·rw[if_neg hk] at e' q';exact G.inj j k a ⟨⟨t,l,e⟩,q⟩ ⟨⟨t',l',e'⟩,q'⟩
def Rv.sl:Rv->Sl
 | .v d=>.val d
 | .fr l=>.own none l
 | .tf _ _=>.emp
theorem Good.store{F0 H0:Hp}{O:aY->Prop}(G:Good K tg F H ρ σ)(x:Ext O (Own ρ σ) F0 H0 F H){r:Rv}{v:V}(i:Nat)(h:relR K r v H0 O F H (Own ρ σ)) :
  Good K tg F H (cG ρ i r.sl) (cG σ i (some v))/\Ext O (Own (cG ρ i r.sl) (cG σ i (some v))) F0 H0 F H:=by
 cases r with
 | v d =>
  refine⟨G.put i ⟨v,rfl,h⟩ (fun t l a e=>by cases e),x.sub,x.new,x.keep,fun b w =>?_,x.there⟩
  rcases ac0 G.len w with w | ⟨⟨t,l,e⟩,_⟩
  ·exact x.own b w
  ·cases e
 | fr l =>
  obtain⟨a,vs,rfl,ha,hf,hh,hl,hn⟩:=h;refine⟨G.put i ⟨a,vs,rfl,hf,hh,hl,fun k e=>by cases e⟩ (fun t l' b _ e2=>by cases e2;exact hn),x.sub,x.new,x.keep,fun b w =>?_,x.there⟩
  rcases ac0 G.len w with w | ⟨_,e⟩
  ·exact x.own b w
  ·cases e;exact ha.symm
 | tf d l =>
  refine⟨G.put i trivial (fun t l a e=>by cases e),x.sub,x.new,x.keep,fun b w =>?_,x.there⟩
  rcases ac0 G.len w with w | ⟨⟨t,l,e⟩,_⟩
  ·exact x.own b w
  ·cases e
end
def dSet(i:Nat)(m:M Rv):Sd:=dM m fun r ρ=>some (.nx,cG ρ i r.sl)
theorem gr{i:Nat}{x:Str}{m:M Rv}(hN:X.N.Nodup)(hi:X.N[i]? = some x)(hx:Loc X.env.scope x)(h:ER K X e m)(hs:nQ e (some (.Name x p)) pos.line X.env=pure false:=by rfl)(hf:X.fn x=true∨X.env.scope.names.lookup x=some .local:=by first | exact .inl rfl | exact .inr rfl | assumption) :
  SV K X (.Assign [.Name x p] e pos) (dSet i m):=SV.mk fun hk=>PS.imp (a0d hN hi hx (h hk) hs hf) fun E σ H ⟨tg,F,ρ,fl,ρ',G,em,q⟩=>ab2 em q fun r ρ1 e1 em=>by
 cases em;refine⟨tg,F,ρ,r,ρ1,G,e1,fun v H' F' G' x rr =>?_⟩
 obtain⟨G2,x2⟩:=G'.store x i rr;exact q _ H' F' G2 x2
def TGd(K:Fg9)(b:D->Ro->Option Ro):TG:=fun v σ H Q=>∃tg F ρ d ρ',Good K tg F H ρ σ/\Is K F d v/\b d ρ=some ρ'/\∀σ' H' F',Good K tg F' H' ρ' σ'->Ext (Own ρ σ) (Own ρ' σ') F H F' H'->Q σ' H'
structure GV (K:Fg9) (X:Cx) (e:dZ) (b:D->Ro->Option Ro):Prop where
 go:X.K=K->PG X e (TGd K b)
instance {K:Fg9} {X:Cx} {e:dZ} {b:D->Ro->Option Ro}:CoeFun (GV K X e b) fun _=>X.K=K->PG X e (TGd K b):=⟨GV.go⟩
theorem PG.imp{t t':TG}(h:PG X e t)(w:∀v σ H Q,t' v σ H Q->t v σ H Q):PG X e t':=fun jv s σ H v u Q I r q=>h jv s σ H v u Q I r (w v σ H Q q)
def bj(i:Nat):D->Ro->Option Ro:=fun d ρ=>some (cG ρ i (.val d))
theorem Good.storeV{tg:Nat->aY}{F H:Hp}{ρ:Ro}{σ:L2.St}(G:Good K tg F H ρ σ){d:D}{v:V}(i:Nat)(h:Is K F d v):Good K tg F H (cG ρ i (.val d)) (cG σ i (some v))/\Ext (Own ρ σ) (Own (cG ρ i (.val d)) (cG σ i (some v))) F H F H :=
 G.store (r:=.v d) (Ext.refl _ _ _) i h
theorem cg{i:Nat}{x:Str}(hN:X.N.Nodup)(hi:X.N[i]? = some x)(hx:Loc X.env.scope x)(hf:X.fn x=true∨X.env.scope.names.lookup x=some .local:=by first | exact .inl rfl | exact .inr rfl | assumption):GV K X (.Name x pos) (bj i):=GV.mk fun _=>PG.imp (axh hN hi hx hf) fun v σ H Q z9=>by
 obtain⟨tg,F,ρ,d,ρ',G,h,em,q⟩:=z9;cases em;obtain⟨G2,x2⟩:=G.storeV i h;exact q _ H F G2 x2
def TGsd(K:Fg9)(b:List D->Ro->Option Ro):TGs:=fun vs σ H Q=>∃tg F ρ ds ρ',Good K tg F H ρ σ/\IsL K F ds vs/\b ds ρ=some ρ'/\∀σ' H' F',Good K tg F' H' ρ' σ'->Ext (Own ρ σ) (Own ρ' σ') F H F' H'->Q σ' H'
structure GVs (K:Fg9) (X:Cx) (es:List dZ) (b:List D->Ro->Option Ro):Prop where
 go:X.K=K->PGs X es (TGsd K b)
instance {K:Fg9} {X:Cx} {es:List dZ} {b:List D->Ro->Option Ro}:CoeFun (GVs K X es b) fun _=>X.K=K->PGs X es (TGsd K b):=⟨GVs.go⟩
theorem PGs.imp{t t':TGs}(h:PGs X es t)(w:∀v σ H Q,t' v σ H Q->t v σ H Q):PGs X es t':=fun jv s σ H v u Q I r q=>h jv s σ H v u Q I r (w v σ H Q q)
def bNil:List D->Ro->Option Ro:=fun ds ρ=>match ds with
 | []=>some ρ
 | _=>none
def jc(b:D->Ro->Option Ro)(bs:List D->Ro->Option Ro):List D->Ro->Option Ro:=fun ds ρ=>match ds with
 | d::r=>(b d ρ).bind (bs r)
 | _=>none
theorem yg:GVs K X [] bNil:=GVs.mk fun _=>PGs.imp axg fun vs σ H Q z9=>by
 obtain⟨tg,F,ρ,ds,ρ',G,h,em,q⟩:=z9;cases ds with
 | nil=>cases em;cases h;exact⟨rfl,q σ H F G (Ext.refl _ _ _)⟩
 | cons _ _=>cases em
theorem gq{b:D->Ro->Option Ro}{bs:List D->Ro->Option Ro}(h1:GV K X e b)(h2:GVs K X es bs)(hs:(jF (e::es) X.env).map (·.2)=qK e X.env::(jF es X.env).map (·.2):=by rfl):GVs K X (e::es) (jc b bs):=GVs.mk fun hk=>PGs.imp (atn (h1 hk) (h2 hk) hs) fun vs σ H Q z9=>by
 obtain⟨tg,F,ρ,ds,ρ',G,h,em,q⟩:=z9;cases h with
 | nil=>cases em
 | @cons d v ds vs hd ht =>
  have em:(b d ρ).bind (bs ds)=some ρ':=em;cases e1:b d ρ with
  | none=>rw[e1] at em;cases em
  | some ρ1 =>
   rw[e1] at em;exact⟨v,vs,rfl,tg,F,ρ,d,ρ1,G,hd,e1,fun σ' H' F' G' x=>⟨tg,F',ρ1,ds,ρ',G',ht.mono x.sub,em,fun σ2 H2 F2 G2 x2=>q σ2 H2 F2 G2 (x.trans x2)⟩⟩
def bTup(n:Nat)(bs:List D->Ro->Option Ro):D->Ro->Option Ro:=fun d ρ=>match d with
 | .tup l=>if l.length=n then bs l ρ else none
 | _=>none
theorem abx{k n:Nat}{bs:List D->Ro->Option Ro}(hc:X.calm=true)(h:GVs K X es bs)(hn:(jF es X.env).length=n:=by rfl)(hst:(jF es X.env).findIdx? (·.1)=none:=by rfl):GV K X (.Tuple es k pos) (bTup n bs):=GV.mk fun hk=>PG.imp (a0i hc (h hk) hn hst) fun v σ H Q z9=>by
 obtain⟨tg,F,ρ,d,ρ',G,hd,em,q⟩:=z9;cases hd with
 | @tup a vs ds e hl =>
  have em:(if ds.length=n then bs ds ρ else none)=some ρ':=em
  split at em
  ·rename_i hz;exact⟨a,vs,rfl,SqT.of (G.sub _ _ e),by rw[<-hl.length];exact hz,tg,F,ρ,ds,ρ',G,hl,em,q⟩
  ·cases em
 | _=>cases em
def dAsg(m:M D)(b:D->Ro->Option Ro):Sd:=dM m fun d ρ=>(b d ρ).map fun ρ'=>(.nx,ρ')
theorem apn{m:M D}{b:D->Ro->Option Ro}(h:EV K X e m)(hg:GV K X tgt b)(hs:swapsWithSole [tgt] e pos.line X.env=pure false:=by rfl)(hw:swappedStores [tgt] e X.env=pure none:=by rfl)
  (h1:(jF [tgt] X.env).map (·.2)=[qK tgt X.env]:=by rfl):SV K X (.Assign [tgt] e pos) (dAsg m b):=SV.mk fun hk=>PS.imp (avt (h hk) (hg hk) hs hw h1) fun E σ H ⟨tg,F,ρ,fl,ρ',G,em,q⟩=>ab2 em q fun d ρ1 e1 em=>by
 refine⟨tg,F,ρ,d,ρ1,G,e1,fun v H' F' G' x r =>?_⟩
 cases e2:b d ρ1 with
 | none=>rw[e2] at em;cases em
 | some ρ2 =>
  rw[e2] at em;cases em;exact⟨tg,F',ρ1,d,_,G',r,e2,fun σ2 H2 F2 G2 x2=>q σ2 H2 F2 G2 (x.trans x2)⟩
theorem Good.mut{tg:Nat->aY}{F H:Hp}{ρ:Ro}{σ:L2.St}(G:Good K tg F H ρ σ){i:Nat}{t:Option Nat}{l l':List D}{a:aY}{ys:List V}(e:(ρ:List Sl)[i]? = some (.own t l))(q:σ[i]? = some (some (.ref a)))(h:IsL K F l' ys) :
  Good K tg F (upd H a (.lst ys)) (cG ρ i (.own t l')) σ/\Ext (Own ρ σ) (Own (cG ρ i (.own t l')) σ) F H F (upd H a (.lst ys)):=by
 obtain⟨a',vs,e1,hf,hh,hl,ht⟩:=G.sl i _ _ e q;cases e1;have ow:∀j b,Owns (cG ρ i (.own t l')) σ j b->Owns ρ σ j b:=fun j b ⟨⟨t2,l2,e2⟩,q2⟩=>by
  rw[bN] at e2
  by_cases hj:i=j
  ·subst hj;exact⟨⟨t,l,e⟩,q2⟩
  ·rw[if_neg hj] at e2;exact⟨⟨t2,l2,e2⟩,q2⟩
 have me:Own ρ σ a:=⟨i,⟨t,l,e⟩,q⟩;refine⟨⟨fun b o z =>?_,by rw[dR];exact G.len,fun j s o e2 q2 =>?_,fun j k b w1 w2=>G.inj j k b (ow _ _ w1) (ow _ _ w2)⟩,Same.refl F,fun _ _ z=>.inl z,fun b o z n =>?_,fun b ⟨j,w⟩=>.inl ⟨j,ow j b w⟩,fun b z =>?_⟩
 ·have hb:b≠a:=fun z2=>by
   subst z2;rw[hf] at z;cases z
  rw[cj hb];exact G.sub b o z
 ·rw[bN] at e2
  by_cases hj:i=j
  ·subst hj;rw[if_pos rfl] at e2;split at e2
   ·cases e2;rw[q] at q2;cases q2;exact⟨a,ys,rfl,hf,gk,h,ht⟩
   ·cases e2
  ·rw[if_neg hj] at e2;have z:=G.sl j s o e2 q2;cases s with
   | emp=>trivial
   | val d=>exact z
   | lol ts=>exact z
   | lnk k=>exact z
   | box c fs =>
    obtain⟨b,C,dx,fvs,e1,e2,e3,e4⟩:=z;have hb:b≠a:=fun z2=>by
     subst z2;rw[e3] at hh;cases hh
    exact⟨b,C,dx,fvs,e1,e2,by rw[cj hb];exact e3,e4⟩
   | own t2 l2 =>
    obtain⟨b,ws,e3,hf3,hh3,hl3,ht3⟩:=z;have hb:b≠a:=fun z2=>by
     subst z2;exact hj (G.inj i j b ⟨⟨t,l,e⟩,q⟩ ⟨⟨t2,l2,e2⟩,by rw[q2,e3]⟩)
    exact⟨b,ws,e3,hf3,by rw[cj hb];exact hh3,hl3,ht3⟩
 ·have hb:b≠a:=fun z2=>n (z2▸me)
  rw[cj hb];exact z
 ·by_cases hb:b=a
  ·subst hb;rw[gk] at z;cases z
  ·rw[cj hb] at z;exact z
def mOwn(i:Nat):M (List D):=fun ρ=>match ρ[i]? with
 | some (.own _ l)=>some (.ok l,ρ)
 | _=>none
theorem ajn{tg:Nat->aY}{F H:Hp}{ρ ρ':Ro}{σ:L2.St}(G:Good K tg F H ρ σ){i:Nat}{l:List D}(em:mOwn i ρ=some (.ok l,ρ')):ρ'=ρ/\∃t a xs,(ρ:List Sl)[i]? = some (.own t l)/\σ[i]? = some (some (.ref a))/\H a=some (.lst xs)/\IsL K F l xs:=by
 unfold mOwn at em;split at em
 ·rename_i t l' e';cases em;obtain⟨o,ho,a,vs,rfl,hf,hh,hl,_⟩:=G.at e';exact⟨rfl,t,a,vs,e',ho,hh,hl⟩
 ·cases em
def acl(i:Nat)(l':List D):M Unit:=fun ρ=>match ρ[i]? with
 | some (.own t _)=>some (.ok (),cG ρ i (.own t l'))
 | _=>none
def mMut(i:Nat)(g:List D->List D->Option (D×List D))(ms:M (List D)):M D:=(mOwn i).bind fun _=>ms.bind fun ds=>(mOwn i).bind fun l=>(lift (g l ds)).bind fun r=>(acl i r.2).bind fun _=>ret r.1
def MutD(K:Fg9)(r:V->List V->Hp->VK->Prop)(g:List D->List D->Option (D×List D)):Prop :=
 ∀(F H:Hp) (a:aY) (xs vs:List V) (l ds:List D) (d:D) (l':List D) (Q:VK),Same F H->H a=some (.lst xs)->xs.length<=capS->IsL K F l xs->IsL K F ds vs->g l ds=some (d,l')->(∀v ys,Is K F d v->IsL K F l' ys->Q v (upd H a (.lst ys)))->r (.ref a) vs H Q
theorem ali{tg:Nat->aY}{F H:Hp}{ρ ρ2:Ro}{σ:L2.St}(G:Good K tg F H ρ σ){i:Nat}{l':List D}{u:Unit}{a:aY}{ys:List V}(e:acl i l' ρ=some (.ok u,ρ2))(q:σ[i]? = some (some (.ref a)))(h:IsL K F l' ys) :
  Good K tg F (upd H a (.lst ys)) ρ2 σ/\Ext (Own ρ σ) (Own ρ2 σ) F H F (upd H a (.lst ys)):=by
 unfold acl at e;split at e
 ·rename_i t l e';cases e;exact G.mut e' q h
 ·cases e
theorem agh{i:Nat}{name:Str}{id:String}{r:V->List V->Hp->VK->Prop}{g:List D->List D->Option (D×List D)}{ms:M (List D)}{apos cpos:Pos}(hr:MutD K r g)(slot:Slot "list" name id)(hty:typeOf (.builtin id)=pure (.type "method_descriptor"))(hm:MtR X id r)(ho:PE X a (tVar i))(ha:ED K X (e::es) ms)
  (hbase:attributeBase a name X.env (eval a X.env)=eval a X.env:=by rfl)
  (hfew:((iZ cpos (aX (e::es) X.env)).all (fun x => !x.1)&&(backToKw cpos (keywordEach [] X.env)).all (fun x=>x.1.isSome)
   && decide ((e::es).length+([]:List pF).length+(if ([]:List pF).isEmpty then 0 else 1) < 30))=true:=by rfl)
  (hline:(apos.endLine==cpos.line)=true:=by rfl) (hs:aX (e::es) X.env=(false,eval e X.env)::aX es X.env:=by rfl) (hplain:(iZ cpos (aX es X.env)).any (·.1)=false:=by rfl) :
  EV K X (.Call (.Attribute a name apos) (e::es) [] cpos) (mMut i g ms):=EV.mk fun hk=>by
 intro jv s σ H Q I z9;obtain⟨tg,F,ρ,d,ρ',G,em,q⟩:=z9;obtain⟨l0,ρ0,e0,em1⟩:=bc em;obtain⟨ds,ρ1,e1,em2⟩:=bc em1;obtain⟨l,ρ2,e2,em3⟩:=bc em2;obtain⟨x,ρ3,e3,em4⟩:=bc em3;obtain⟨u,ρ4,e4,em5⟩:=bc em4;obtain⟨rfl,rfl⟩:=jq em5;obtain⟨eg,rfl⟩:=gn e3;obtain⟨rfl,t0,b,xs0,es0,hv,hh0,hl0⟩:=ajn G e0;refine ap9 (r:=fun x vs H Q=>(∀b xs,x=.ref b->H b=some (.lst xs)->xs.length<=capS)->r x vs H Q) lG slot hty (fun jv s σ H x xs v us Q I rx rv h=>hm jv s σ H x xs v us Q I rx rv (h fun b xs _ hb =>?_)) ho (ha hk) hbase hfew hline hs hplain jv s σ H Q I ?_
 ·obtain⟨z,_⟩:=I.lstM hb;rw[cF] at z;exact z
 refine⟨_,hv,.inl ⟨rfl,_,SqL.of hh0⟩,tg,F,ρ0,ds,ρ1,G,e1,fun vs H1 F1 G1 x1 r1 cap =>?_⟩
 obtain⟨rfl,t,a',xs,es',hv',hh,hl⟩:=ajn G1 e2;rw[hv] at hv';cases hv';refine hr F1 H1 _ xs vs l ds x.1 x.2 Q G1.sub hh (cap _ _ rfl hh) hl r1 eg fun w ys iw il =>?_
 obtain⟨G2,x2⟩:=ali G1 e4 hv il;exact q w _ F1 G2 (x1.trans x2) iw
def aau(l ds:List D):Option (D×List D):=match ds with
 | [d]=>if l.length < capS then some (.non,l++[d]) else none
 | _=>none
theorem xj:MutD K ap3 aau:=by
 intro F H a xs vs l ds d l' Q g hh hc hl hd eg q
 match ds,eg with
 | [d1],eg =>
  have eg:(if l.length < capS then some (D.non,l++[d1]) else none)=some (d,l'):=eg
  split at eg
  ·rename_i hz;cases eg;cases hd with
   | cons h t =>
    cases t;exact⟨a,xs,_,rfl,rfl,hh,by rw[cF,<-hl.length];exact hz,q _ _ .non (hl.append (.cons h .nil))⟩
  ·cases eg
def dSub(i:Nat)(mi m:M D):Sd:=dM m fun d=>dM (mOwn i) fun _=>dM mi fun k=>dM (mOwn i) fun l=>dM (lift ((asI k).bind (ixN l.length))) fun j=>dM (acl i (l.set j d)) fun _=>dNx
theorem apl{i:Nat}{mi m:M D}(h:EV K X e m)(ho:PE X a (tVar i))(hi:EV K X b mi)(hs:swapsWithSole [.Subscript a b p] e pos.line X.env=pure false:=by rfl)(hw:swappedStores [.Subscript a b p] e X.env=pure none:=by rfl)
  (h1:(jF [.Subscript a b p] X.env).map (·.2)=[qK (.Subscript a b p) X.env]:=by rfl)
  (ha:∀v,qK (.Subscript a b p) X.env v=(do
   let ov <-oO [v] (eval a X.env)
   let iv <-oO [v,ov] (eval b X.env)
   standAt p
   oO [v,ov,iv] (setItem ov iv v)
   release [v,ov,iv] []):=by intro _;rfl):SV K X (.Assign [.Subscript a b p] e pos) (dSub i mi m):=SV.mk fun hk=>PS.imp (avt (h hk) (a0j ho (hi hk) set_list ha) hs hw h1) fun E σ H ⟨tg,F,ρ,fl,ρ',G,em,q⟩ =>
 ab2 em q fun d ρ1 e1 em=>ab2 em q fun l0 ρ0 e0 em=>ab2 em q fun k ρ2 e2 em=>ab2 em q fun l ρ3 e3 em=>ab2 em q fun j ρ4 e4 em=>ab2 em q fun u ρ5 e5 em=>by
 cases em;obtain⟨e6,rfl⟩:=gn e4;refine⟨tg,F,ρ,d,ρ1,G,e1,fun v H1 F1 G1 x1 r1 =>?_⟩
 obtain⟨rfl,t0,a0,xs0,es0,hv,hh0,hl0⟩:=ajn G1 e0;refine⟨_,hv,tg,F1,_,k,ρ2,G1,e2,fun w H2 F2 G2 x2 r2 =>?_⟩
 obtain⟨rfl,t,a1,xs,es1,hv',hh,hl⟩:=ajn G2 e3;rw[hv] at hv';cases hv';cases ek:asI k with
 | none=>rw[ek] at e6;cases e6
 | some n =>
  rw[ek] at e6;obtain rfl:=anz ek;cases r2;obtain⟨G3,x3⟩:=ali G2 e5 hv (hl.set (r1.mono x2.sub) j);exact⟨_,xs,n,j,rfl,rfl,hh,by rw[<-hl.length];exact e6,q _ _ F2 G3 ((x1.trans x2).trans x3)⟩
def dAug(f:Int->Int->Int)(i:Nat)(m:M D):Sd:=dM (mVar i) fun x=>dM m fun y=>dM (lift ((asI x).bind fun n=>(asI y).map fun k=>D.int (f n k))) fun z ρ=>some (.nx,cG ρ i (.val z))
theorem azw{f:Int->Int->Int}{op:Operator}{i:Nat}{x:Str}{m:M D}(hN:X.N.Nodup)(hi:X.N[i]? = some x)(hx:Loc X.env.scope x)(h:EV K X e m)(ho:PIp X op (ipI f))(hf:X.fn x=true∨X.env.scope.names.lookup x=some .local:=by first | exact .inl rfl | exact .inr rfl | assumption) :
  SV K X (.AugAssign (.Name x p) op e pos) (dAug f i m):=SV.mk fun hk=>PS.imp (a0g hN hi hx (h hk) ho hf) fun E σ H ⟨tg,F,ρ,fl,ρ',G,em,q⟩=>ab2 em q fun d ρ1 e1 em=>ab2 em q fun d2 ρ2 e2 em=>ab2 em q fun z ρ3 e3 em=>by
 cases em;obtain⟨e4,rfl⟩:=gn e3;cases ed:asI d with
 | none=>rw[ed] at e4;cases e4
 | some n =>
  rw[ed] at e4;obtain rfl:=anz ed;cases ed2:asI d2 with
  | none=>rw[ed2] at e4;cases e4
  | some k =>
   rw[ed2] at e4;obtain rfl:=anz ed2;cases e4;unfold mVar at e1;split at e1
   ·rename_i d' es';cases e1;obtain⟨o,ho',v,rfl,hv⟩:=G.at es';cases hv;refine⟨_,ho',tg,F,ρ,_,_,G,e2,fun y H1 F1 G1 x1 r1 =>?_⟩
    cases r1;obtain⟨G2,x2⟩:=G1.storeV i (Is.int (f n k));exact⟨n,k,rfl,rfl,q _ H1 F1 G2 (x1.trans x2)⟩
   ·cases e1
   ·cases e1
end
section
variable{K:Fg9}{X:Cx}{e a b c tgt iter elt:dZ}{es:List dZ}{pos p p2:Pos}{st:iY}{ss:List iY}
theorem _root_.Mn.ItOf.imp{J:It}{xs:List V}{S S':Hp->Prop}(Z:ItOf J xs S)(h:∀H,S' H->S H):ItOf J xs S':=⟨fun i H q=>Z.go i H (h H q),fun i H x H' q=>Z.yld i H x H' (h H q),fun i H q=>Z.stop i H (h H q)⟩
def Alt(K:Fg9)(F:Hp)(d:D)(x:V)(H H':Hp):Prop:=(H'=H/\Is K F d x)∨∃q vs ds,H q=none/\x=.ref q/\H'=upd H q (.tup vs)/\d=.tup ds/\IsL K F ds vs
structure ItD (K:Fg9) (J:It) (l:List D) (F:Hp):Prop where
 go:∀i H,Same F H->i < l.length->J.go i H
 yld:∀i H x H' d,Same F H->J.yld i H x H'->l[i]? = some d->Alt K F d x H H'
 stop:∀H,Same F H->J.stop l.length H
theorem ItD.of{J:It}{l:List D}{vs:List V}{F:Hp}(il:IsL K F l vs)(Z:ItOf J vs fun H2=>Same F H2):ItD K J l F where
 go:=fun i H s hi=>Z.go i H s (by rw[<-il.length];exact hi)
 yld:=fun i H x H' d s y hd=>by
  obtain⟨v,hv,iv⟩:=il.get hd;obtain⟨e,z⟩:=Z.yld i H x H' s y;have:=z (aM.mp hv).1;rw[hv] at this;cases this;exact .inl ⟨e,iv⟩
 stop:=fun H s=>Z.stop _ H s (by rw[<-il.length];exact aO _)
theorem ai3{tg:Nat->aY}{O:aY->Prop}{F H F1 F2 H2 H3:Hp}{ρ2:Ro}{σ2:L2.St}{d:D}{x:V}(G2:Good K tg F2 H2 ρ2 σ2)(x2:Ext O (Own ρ2 σ2) F H F2 H2)(s2:Same F1 F2)(a:Alt K F1 d x H2 H3) :
  ∃F3,Good K tg F3 H3 ρ2 σ2/\Ext O (Own ρ2 σ2) F H F3 H3/\Same F1 F3/\Is K F3 d x/\Ext (Own ρ2 σ2) (Own ρ2 σ2) F2 H2 F3 H3:=by
 rcases a with⟨rfl,id⟩ | ⟨q,vs,ds,hq,rfl,rfl,rfl,il⟩
 ·exact⟨F2,G2,x2,s2,id.mono s2,Ext.refl _ _ _⟩
 ·have z:=G2.newX hq (.tup vs);exact⟨_,G2.new hq _,x2.trans z,s2.trans z.sub,.tup gk (il.mono (s2.trans z.sub)),z⟩
theorem ayl{J:It}{l:List D}{F:Hp}(Z:ItD K J l F){g:TG}{tb:TS}{D':Ends}{σ:L2.St}{H:Hp}(Pv:Nat->L2.St->Hp->Prop)(h0:Pv 0 σ H)(hl:∀i σ H,i<=l.length->Pv i σ H->Same F H)
  (hs:∀i d x σ H H',l[i]? = some d->Pv i σ H->Alt K F d x H H'->g x σ H' fun σ2 H2=>tb { D' with nx:=Pv (i+1),ct:=Pv (i+1),bk:=D'.nx } σ2 H2) (hd:∀σ H,Pv l.length σ H->D'.nx σ H) :
  ∃W:Nat->Nat->L2.St->Hp->Prop,(∃m,W 0 m σ H)/\∀i m σ H,W i m σ H ->
   (J.stop i H/\D'.nx σ H)∨(J.go i H/\∃N:L2.St->Hp->Prop,(∀σ' H',N σ' H'->∃m',m' < m/\W (i+1) m' σ' H')/\∀x H',J.yld i H x H'->g x σ H' fun σ2 H2=>tb { D' with nx:=N,ct:=N,bk:=D'.nx } σ2 H2):=by
 refine⟨fun i m σ H=>m=l.length - i/\i<=l.length/\Pv i σ H,⟨l.length,by simp,cI _,h0⟩,?_⟩
 rintro i m σ H ⟨rfl,hi,p⟩
 have q:=hl i σ H hi p
 by_cases hlt:i < l.length
 ·exact .inr ⟨Z.go i H q hlt,Pv (i+1),fun σ' H' p'=>⟨l.length - (i+1),by omega,rfl,hlt,p'⟩,fun x H' y=>hs i _ x σ H H' (aC hlt) p (Z.yld i H x H' _ q y (aC hlt))⟩
 ·have e:i=l.length:=by omega
  subst e;exact .inl ⟨Z.stop H q,hd σ H p⟩
theorem anr{J:It}{l:List D}{F:Hp}(Z:ItD K J l F){d:aY}{g:TG}{ti:TT}{te:TE}{Q:VK}{σ0:L2.St}{H1:Hp}(Pv:Nat->List V->L2.St->Hp->Prop)(h0:Pv 0 [] σ0 (upd H1 d (.lst [])))
  (hl:∀i ys σ H,i<=l.length->Pv i ys σ H->Same F H/\H d=some (.lst ys))
  (hs:∀i e x ys σ H H' (M:List V->L2.St->Hp->Prop),l[i]? = some e->Pv i ys σ H->Alt K F e x H H'->(∀ys' σ' H',Pv (i+1) ys' σ' H'->M ys' σ' H') ->
   g x σ H' fun σ4 H4=>ti σ4 H4 fun b H5=>if b=true then te σ4 H5 fun y H6=>H6 d=some (.lst ys)/\ys.length < cL/\M (ys++[y]) σ4 (upd H6 d (.lst (ys++[y]))) else M ys σ4 H5)
  (hd:∀ys σ H,Pv l.length ys σ H->Q (.ref d) H):a3k J g ti te Q d σ0 H1:=by
 refine⟨fun i m ys σ H=>m=l.length - i/\i<=l.length/\Pv i ys σ H,⟨l.length,by simp,cI _,h0⟩,?_⟩
 rintro i m ys σ H ⟨rfl,hi,p⟩
 obtain⟨q,e⟩:=hl i ys σ H hi p;refine⟨e,?_⟩
 by_cases hlt:i < l.length
 ·exact .inr ⟨Z.go i H q hlt,fun x H' y=>hs i _ x ys σ H H' (fun ys' σ' H'=>∃m',m' < l.length - i/\(m'=l.length - (i+1)/\i+1<=l.length/\Pv (i+1) ys' σ' H')) (aC hlt) p (Z.yld i H x H' _ q y (aC hlt)) fun ys' σ' H' p'=>⟨l.length - (i+1),by omega,rfl,hlt,p'⟩⟩
 ·have e:i=l.length:=by omega
  subst e;exact .inl ⟨Z.stop H q,hd ys σ H p⟩
def TIt(K:Fg9)(m:M (List D)):TI:=fun σ H R=>∃tg F ρ l ρ',Good K tg F H ρ σ/\m ρ=some (.ok l,ρ')/\∀J H' F',Good K tg F' H' ρ' σ->Ext (Own ρ σ) (Own ρ' σ) F H F' H'->ItD K J l F'->R J H'
structure IT (K:Fg9) (X:Cx) (tgt iter:dZ) (m:M (List D)):Prop where
 go:X.K=K->PI X tgt iter (TIt K m)
instance {K:Fg9} {X:Cx} {tgt iter:dZ} {m:M (List D)}:CoeFun (IT K X tgt iter m) fun _=>X.K=K->PI X tgt iter (TIt K m):=⟨IT.go⟩
def j6(m:M D):M (List D):=m.bind fun d=>lift (itemsD d)
theorem ni{m:M D}(h:EV K X iter m):IT K X tgt iter (j6 m):=IT.mk fun hk=>by
 intro jv s σ H R I z9;obtain⟨tg,F,ρ,l,ρ',G,em,q⟩:=z9;obtain⟨d,ρ1,e1,em⟩:=bc em;obtain⟨e2,rfl⟩:=gn em;have h:=h hk;subst hk;cases d with
 | tup k =>
  cases e2;refine a0h h jv s σ H R I ⟨tg,F,ρ,_,_,G,e1,fun v H' F' G' x r =>?_⟩
  cases r with
  | @tup a vs _ e hl=>exact⟨a,rfl,⟨vs,SqT.of (G'.sub _ _ e)⟩,q _ H' F' G' x (.of hl (auh.imp fun H2 g=>SqT.of (g _ _ e)))⟩
 | lst k =>
  cases e2;refine ap8 h jv s σ H R I ⟨tg,F,ρ,_,_,G,e1,fun v H' F' G' x r =>?_⟩
  cases r with
  | @lst a vs _ e hl=>exact⟨a,rfl,⟨vs,SqL.of (G'.sub _ _ e)⟩,q _ H' F' G' x (.of hl (am6.imp fun H2 g=>SqL.of (g _ _ e)))⟩
 | kst k =>
  cases e2;refine ap8 h jv s σ H R I ⟨tg,F,ρ,_,_,G,e1,fun v H' F' G' x r =>?_⟩
  cases r with
  | @kst a vs _ e hl=>exact⟨a,rfl,⟨vs,L2.Same.seq G'.sub e⟩,q _ H' F' G' x (.of hl (am6.imp fun H2 g=>L2.Same.seq g e))⟩
 | _=>cases e2
def dg(lo:Int)(n:Nat):List D:=(aR n).map fun i=>D.int (lo+(i:Nat))
theorem ath{F:Hp}(lo:Int)(n:Nat):IsL K F (dg lo n) (ups lo n):=by
 have e1:dg lo n=((aR n).map fun i=>lo+((i:Nat):Int)).map D.int:=by unfold dg;rw[cA];rfl
 have e2:ups lo n=((aR n).map fun i=>lo+((i:Nat):Int)).map V.int:=by unfold ups;rw[cA];rfl
 rw[e1,e2];exact ad0 _
theorem a3i{j:Int}(h:j.natAbs < 4611686018427387904) : -2 ^ 62<=j/\j < 2 ^ 62:=by
 have e:(2:Int) ^ 62=4611686018427387904:=by decide
 rw[e];omega
def jr:List D->Option (List D)
 | [.int j]=>if j.natAbs < 4611686018427387904 then some (dg 0 j.toNat) else none
 | _=>none
def mGet{α β:Type}(g:α->Option β)(m:M α):M β:=m.bind fun ds=>lift (g ds)
theorem lq{m:M (List D)}(hg:Gl X "range")(hm:X.mg "range" = none)(h:ED K X [a] m)(hs:aX [a] X.env=[(false,eval a X.env)]:=by rfl):IT K X tgt (.Call (.Name "range" p) [a] [] pos) (mGet jr m):=IT.mk fun hk=>by
 intro jv s σ H R I z9;obtain⟨tg,F,ρ,l,ρ',G,em,q⟩:=z9;obtain⟨ds,ρ1,e1,em⟩:=bc em;obtain⟨e2,rfl⟩:=gn em;refine ap7 hg hm (h hk) hs jv s σ H R I ⟨tg,F,ρ,ds,_,G,e1,fun vs H' F' G' x r =>?_⟩
 unfold jr at e2;split at e2
 ·split at e2
  ·rename_i j hc;cases e2;cases r with
   | cons h t =>
    cases t;cases h;exact⟨_,rfl,(a3i hc).1,(a3i hc).2,q _ H' F' G' x (.of (ath 0 _) (aui.imp fun _ _=>trivial))⟩
  ·cases e2
 ·cases e2
noncomputable def forD(b:D->Ro->Option Ro)(g:Sd):List D->Sd
 | [],ρ=>some (.nx,ρ)
 | d::ds,ρ=>match b d ρ with
  | none=>none
  | some ρ1=>match g ρ1 with
   | some (.nx,ρ2)=>forD b g ds ρ2
   | some (.cont,ρ2)=>forD b g ds ρ2
   | some (.brk,ρ2)=>some (.nx,ρ2)
   | some (.ret r,ρ2)=>some (.ret r,ρ2)
   | some (.exc x,ρ2)=>some (.exc x,ρ2)
   | none=>none
def dFor(m:M (List D))(b:D->Ro->Option Ro)(g:Sd):Sd:=dM m (forD b g)
theorem ux{m:M (List D)}{b:D->Ro->Option Ro}{g:Sd}(hp:uY (bY X.prog X.w) X.A X.env X.xe)(hc:X.calm=true)(hi:IT K X tgt iter m)(hg:GV K X tgt b)(hb:SVs K X ss g)
  (hs:∀x,foldedSetIterable iter X.env x=pure x:=by intro _;rfl):SV K X (.For tgt iter ss [] pos) (dFor m b g):=SV.mk fun hk=>PS.imp (a0f hp hc (hi hk) (hg hk) (hb hk) hs) fun E σ H ⟨tg,F,ρ,fl,ρ',G,em,q⟩=>ab2 em q fun l ρ1 e1 em=>by
 refine⟨tg,F,ρ,l,ρ1,G,e1,fun J H1 F1 G1 x1 Z =>?_⟩
 refine ayl Z (fun i σ2 H2=>∃F2 ρ2,Good K tg F2 H2 ρ2 σ2/\Ext (Own ρ σ) (Own ρ2 σ2) F H F2 H2/\Same F1 F2/\forD b g (l.drop i) ρ2=some (fl,ρ')) ⟨F1,ρ1,G1,x1,Same.refl _,em⟩ (fun i σ2 H2 _ ⟨F2,ρ2,G2,_,s2,_⟩=>s2.trans G2.sub) ?_ ?_
 ·rintro i d x σ2 H2' H2 hd ⟨F2',ρ2,G2',x2',s2',em2⟩ al
  obtain⟨F2,G2,x2,s2,id,_⟩:=ai3 G2' x2' s2' al;have hlt:i < l.length:=(aM.mp hd).1;have ed:l[i]=d:=(aM.mp hd).2;rw[iJ hlt,ed] at em2;unfold forD at em2;split at em2
  ·cases em2
  ·rename_i ρ3 e3;refine⟨tg,F2,ρ2,d,ρ3,G2,id,e3,fun σ3 H3 F3 G3 x3 =>?_⟩
   have again:∀{ρ4:Ro},forD b g (l.drop (i+1)) ρ4=some (fl,ρ')->∀σ' H' F',Good K tg F' H' ρ4 σ'->Ext (Own ρ3 σ3) (Own ρ4 σ') F3 H3 F' H' ->
     ∃F2 ρ2,Good K tg F2 H' ρ2 σ'/\Ext (Own ρ σ) (Own ρ2 σ') F H F2 H'/\Same F1 F2/\forD b g (l.drop (i+1)) ρ2=some (fl,ρ') :=
    fun{ρ4} e4 σ' H' F' G' x'=>⟨F',ρ4,G',(x2.trans x3).trans x',(s2.trans x3.sub).trans x'.sub,e4⟩
   split at em2
   ·rename_i ρ4 e4;exact⟨tg,F3,ρ3,.nx,ρ4,G3,e4,again em2⟩
   ·rename_i ρ4 e4;exact⟨tg,F3,ρ3,.cont,ρ4,G3,e4,again em2⟩
   ·rename_i ρ4 e4;cases em2;exact⟨tg,F3,ρ3,.brk,_,G3,e4,fun σ' H' F' G' x'=>q σ' H' F' G' ((x2.trans x3).trans x')⟩
   ·rename_i r ρ4 e4;cases em2;exact⟨tg,F3,ρ3,.ret r,_,G3,e4,fun v σ' H' F' G' x' rr=>q v σ' H' F' G' ((x2.trans x3).trans x') (nq (x2.trans x3) rr)⟩
   ·cases em2;exact(show False from q).elim
   ·cases em2
 ·rintro σ2 H2 ⟨F2,ρ2,G2,x2,s2,em2⟩
  rw[pP (aO _)] at em2;cases em2;exact q σ2 H2 F2 G2 x2
noncomputable def whileD(c:M Bool)(g:Sd):Nat->Sd
 | 0,_=>none
 | n+1,ρ=>match c ρ with
  | some (.ok true,ρ1)=>match g ρ1 with
   | some (.nx,ρ2)=>whileD c g n ρ2
   | some (.cont,ρ2)=>whileD c g n ρ2
   | some (.brk,ρ2)=>some (.nx,ρ2)
   | some (.ret r,ρ2)=>some (.ret r,ρ2)
   | some (.exc x,ρ2)=>some (.exc x,ρ2)
   | none=>none
  | some (.ok false,ρ1)=>some (.nx,ρ1)
  | some (.exc x,ρ1)=>some (.exc x,ρ1)
  | none=>none
theorem as8{m:M Bool}{g:Sd}(n:Nat)(hp:uY (bY X.prog X.w) X.A X.env X.xe)(hc:ET K X c m)(hb:SVs K X ss g):SV K X (.While c ss [] pos) (whileD m g n):=SV.mk fun hk=>PS.imp (ati hp (hc hk) (hb hk)) fun E σ H z9=>by
 obtain⟨tg,F,ρ,fl,ρ',G,em,q⟩:=z9;refine⟨fun k σ2 H2=>∃F2 ρ2,Good K tg F2 H2 ρ2 σ2/\Ext (Own ρ σ) (Own ρ2 σ2) F H F2 H2/\whileD m g k ρ2=some (fl,ρ'),⟨n,F,ρ,G,Ext.refl _ _ _,em⟩,?_⟩
 rintro k σ2 H2 ⟨F2,ρ2,G2,x2,em2⟩
 cases k with
 | zero=>cases em2
 | succ k =>
  unfold whileD at em2;split at em2
  ·rename_i ρ3 e3;refine⟨tg,F2,ρ2,true,ρ3,G2,e3,fun H3 F3 G3 x3=>iteT ?_⟩
   refine⟨fun σ' H'=>∃F2 ρ2,Good K tg F2 H' ρ2 σ'/\Ext (Own ρ σ) (Own ρ2 σ') F H F2 H'/\whileD m g k ρ2=some (fl,ρ'),fun σ' H' h=>⟨k,mF k,h⟩,?_⟩
   split at em2
   ·rename_i ρ4 e4;exact⟨tg,F3,ρ3,.nx,ρ4,G3,e4,fun σ' H' F' G' x'=>⟨F',ρ4,G',(x2.trans x3).trans x',em2⟩⟩
   ·rename_i ρ4 e4;exact⟨tg,F3,ρ3,.cont,ρ4,G3,e4,fun σ' H' F' G' x'=>⟨F',ρ4,G',(x2.trans x3).trans x',em2⟩⟩
   ·rename_i ρ4 e4;cases em2;exact⟨tg,F3,ρ3,.brk,_,G3,e4,fun σ' H' F' G' x'=>q σ' H' F' G' ((x2.trans x3).trans x')⟩
   ·rename_i r ρ4 e4;cases em2;exact⟨tg,F3,ρ3,.ret r,_,G3,e4,fun v σ' H' F' G' x' rr=>q v σ' H' F' G' ((x2.trans x3).trans x') (nq (x2.trans x3) rr)⟩
   ·cases em2;exact(show False from q).elim
   ·cases em2
  ·rename_i ρ3 e3;cases em2;exact⟨tg,F2,ρ2,false,_,G2,e3,fun H3 F3 G3 x3=>iteF (q σ2 H3 F3 G3 (x2.trans x3))⟩
  ·cases em2;exact(show False from q).elim
  ·cases em2
end
def aj0(ρ:Ro)(i:Nat)(o:Option Nat)(d:Option D):Sl:=match o with
 | some j=>match ρ[j]? with
  | some (.val d)=>.val d
  | some (.own _ l)=>.own (some i) l
  | _=>.emp
 | none=>match d with
  | some d=>.val d
  | none=>.emp
def lend(ρ:Ro)(js:List (Option Nat))(ds:List (Option D)):Ro:=(mO js ds).mapIdx fun i p=>aj0 ρ i p.1 p.2
def okJs(ρ:Ro):List (Option Nat)->Bool
 | []=>true
 | none::r=>okJs ρ r
 | some j::r=>(match ρ[j]? with
  | some (.own _ _) => !r.contains (some j)
  | _=>true)&&okJs ρ r
theorem aia{ρ:Ro}:∀{js:List (Option Nat)} {i i' j:Nat} {t:Option Nat} {l:List D},okJs ρ js=true->js[i]? = some (some j)->js[i']? = some (some j)->ρ[j]? = some (.own t l)->i=i'
 | [],_,_,_,_,_,_,h,_,_=>by simp at h
 | o::r,0,0,_,_,_,_,_,_,_=>rfl
 | o::r,0,i'+1,j,t,l,hk,h,h',e=>by
  simp at h h';subst h;unfold okJs at hk;rw[e,aV] at hk;have:=dD h';simp[this] at hk
 | o::r,i+1,0,j,t,l,hk,h,h',e=>by
  simp at h h';subst h';unfold okJs at hk;rw[e,aV] at hk;have:=dD h;simp[this] at hk
 | none::r,i+1,i'+1,j,t,l,hk,h,h',e=>by
  rw[aia (js:=r) (i:=i) (i':=i') (j:=j) (by unfold okJs at hk;exact hk) (by simpa using h) (by simpa using h') e]
 | some k::r,i+1,i'+1,j,t,l,hk,h,h',e=>by
  unfold okJs at hk;rw[aV] at hk;rw[aia (js:=r) (i:=i) (i':=i') (j:=j) hk.2 (by simpa using h) (by simpa using h') e]
def putS(js:List (Option Nat))(ps:Ro)(j:Nat)(s:Sl):Sl:=match js.findIdx? (fun o=>o==some j) with
 | none=>s
 | some i=>match s with
  | .own t _=>match ps[i]? with
   | some (.own (some i') l')=>if i'=i then .own t l' else .emp
   | _=>.emp
  | s=>s
def putB(ρ:Ro)(js:List (Option Nat))(ps:Ro):Ro:=ρ.mapIdx fun j s=>putS js ps j s
def tgOf(τ:L2.St)(i:Nat):aY:=match τ[i]? with
 | some (some (.ref a))=>a
 | _=>0
section
variable{K:Fg9}{tg:Nat->aY}{F H F' H':Hp}{ρ ps:Ro}{σ τ:L2.St}{js:List (Option Nat)}{ds:List (Option D)}{O':aY->Prop}
theorem am1{i:Nat}{s:Sl}(h:(lend ρ js ds:List Sl)[i]? = some s):∃o d,js[i]? = some o/\ds[i]? = some d/\s=aj0 ρ i o d:=by
 unfold lend at h;rw[fU] at h;cases e:(mO js ds)[i]? with
 | none=>rw[e] at h;cases h
 | some p =>
  rw[e] at h;cases h;rw[List.getElem?_zip_eq_some] at e;exact⟨p.1,p.2,e.1,e.2,rfl⟩
theorem at8{i:Nat}{t:Option Nat}{l:List D}(h:(lend ρ js ds:List Sl)[i]? = some (.own t l)):∃j t',js[i]? = some (some j)/\ρ[j]? = some (.own t' l)/\t=some i:=by
 obtain⟨o,d,e1,e2,e3⟩:=am1 h;unfold aj0 at e3;cases o with
 | none=>cases d <;> cases e3
 | some j =>
  simp only at e3;cases e:ρ[j]? with
  | none=>rw[e] at e3;cases e3
  | some s =>
   rw[e] at e3;cases s with
   | emp=>cases e3
   | val _=>cases e3
   | box _ _=>cases e3
   | lol _=>cases e3
   | lnk _=>cases e3
   | own t' l'=>cases e3;exact⟨j,t',e1,e,rfl⟩
structure Lent (K:Fg9) (F:Hp) (σ τ:L2.St) (js:List (Option Nat)) (ds:List (Option D)):Prop where
 l1:τ.length=js.length
 l2:ds.length=js.length
 h1:∀(i j:Nat) (o:Option V),js[i]? = some (some j)->σ[j]? = some o->τ[i]? = some o
 h2:∀(i:Nat) (d:D),js[i]? = some none->ds[i]? = some (some d)->∃v,τ[i]? = some (some v)/\Is K F d v
theorem Good.σ_at(G:Good K tg F H ρ σ){j:Nat}{s:Sl}(e:(ρ:List Sl)[j]? = some s):∃o,σ[j]? = some o:=by
 obtain⟨o,h,_⟩:=G.at e;exact⟨o,h⟩
theorem aan(G:Good K tg F H ρ σ)(L:Lent K F σ τ js ds){i:Nat}{a:aY}(h:Owns (lend ρ js ds) τ i a):∃j,js[i]? = some (some j)/\Owns ρ σ j a:=by
 obtain⟨⟨t,l,e⟩,q⟩:=h;obtain⟨j,t',e1,e2,_⟩:=at8 e;obtain⟨o,ho⟩:=G.σ_at e2;have:=L.h1 i j o e1 ho;rw[q] at this;cases this;exact⟨j,e1,⟨t',l,e2⟩,ho⟩
theorem aaa(G:Good K tg F H ρ σ)(hk:okJs ρ js=true)(L:Lent K F σ τ js ds):Good K (tgOf τ) F H (lend ρ js ds) τ where
 sub:=G.sub
 len:=by
  unfold lend;rw[lJ,yD,L.l2,L.l1];omega
 sl:=fun i s o e q=>by
  obtain⟨oj,d,e1,e2,rfl⟩:=am1 e;unfold aj0;cases oj with
  | none =>
   cases d with
   | none=>trivial
   | some d =>
    obtain⟨v,h1,h2⟩:=L.h2 i d e1 e2;rw[q] at h1;cases h1;exact⟨v,rfl,h2⟩
  | some j =>
   simp only;cases e3:ρ[j]? with
   | none=>trivial
   | some s =>
    obtain⟨o',ho,w⟩:=G.at e3;have:=L.h1 i j o' e1 ho;rw[q] at this;cases this;cases s with
    | emp=>trivial
    | val d=>exact w
    | box _ _=>trivial
    | lol _=>trivial
    | lnk _=>trivial
    | own t l =>
     obtain⟨a,vs,rfl,hf,hh,hl,_⟩:=w;refine⟨a,vs,rfl,hf,hh,hl,fun k e =>?_⟩
     cases e;unfold tgOf;rw[q]
 inj:=fun i i' a w w'=>by
  obtain⟨j,e,v⟩:=aan G L w;obtain⟨j',e',v'⟩:=aan G L w';have:=G.inj j j' a v v';subst this;obtain⟨⟨t,l,z⟩,_⟩:=v;exact aia hk e e' z
structure Fin (K:Fg9) (F' H':Hp) (τ:L2.St) (ps:Ro) (O':aY->Prop):Prop where
 at':∀(i:Nat) (l:List D),(ps:List Sl)[i]? = some (.own (some i) l)->O' (tgOf τ i)/\F' (tgOf τ i)=none/\∃vs,H' (tgOf τ i)=some (.lst vs)/\IsL K F' l vs
theorem ah0{j:Nat}{s:Sl}(h:(putB ρ js ps:List Sl)[j]? = some s):∃s0:Sl,(ρ:List Sl)[j]? = some s0/\((∃t l,s0=Sl.own t l/\∃i:Nat,js[i]? = some (some j)/\((∃l',(ps:List Sl)[i]? = some (Sl.own (some i) l')/\s=Sl.own t l')∨s=Sl.emp)) ∨
  (s=s0/\∀t l,s0=Sl.own t l->∀i:Nat,js[i]? ≠ some (some j))):=by
 unfold putB at h;rw[fU] at h;cases e:(ρ:List Sl)[j]? with
 | none=>rw[e] at h;cases h
 | some s0 =>
  rw[e] at h;refine⟨s0,rfl,?_⟩;have h:putS js ps j s0=s:=bO h;unfold putS at h;cases ei:js.findIdx? (fun o=>o==some j) with
  | none =>
   rw[ei] at h;have h:s0=s:=h;refine .inr ⟨h.symm,fun _ _ _ i z =>?_⟩
   rw[List.findIdx?_eq_none_iff] at ei;have:=ei _ (dD z);simp at this
  | some i =>
   rw[ei] at h;cases s0 with
   | emp=>exact .inr ⟨(show Sl.emp=s from h).symm,fun t l z=>by cases z⟩
   | val d=>exact .inr ⟨(show Sl.val d=s from h).symm,fun t l z=>by cases z⟩
   | box c fs=>exact .inr ⟨(show Sl.box c fs=s from h).symm,fun t l z=>by cases z⟩
   | lol ts=>exact .inr ⟨(show Sl.lol ts=s from h).symm,fun t l z=>by cases z⟩
   | lnk k=>exact .inr ⟨(show Sl.lnk k=s from h).symm,fun t l z=>by cases z⟩
   | own t l =>
    refine .inl ⟨t,l,rfl,i,?_,?_⟩
    ·obtain⟨hi,hb,_⟩:=qX.mp ei;rw[aC hi];exact congrArg some (eq_of_beq hb)
    ·have h:(match (ps:List Sl)[i]? with
      | some (.own (some i') l')=>if i'=i then Sl.own t l' else .emp
      | _=>.emp)=s:=h
     cases ep:(ps:List Sl)[i]? with
     | none=>rw[ep] at h;exact .inr h.symm
     | some sp =>
      rw[ep] at h;cases sp with
      | emp=>exact .inr h.symm
      | val _=>exact .inr h.symm
      | box _ _=>exact .inr h.symm
      | lol _=>exact .inr h.symm
      | lnk _=>exact .inr h.symm
      | own t' l' =>
       cases t' with
       | none=>exact .inr h.symm
       | some i' =>
        have h2:(if i'=i then Sl.own t l' else .emp)=s:=h
        by_cases z:i'=i
        ·subst z;rw[if_pos rfl] at h2;exact .inl ⟨l',rfl,h2.symm⟩
        ·rw[if_neg z] at h2;exact .inr h2.symm
theorem ach{j:Nat}{a:aY}(h:Owns (putB ρ js ps) σ j a):Owns ρ σ j a:=by
 obtain⟨⟨t,l,e⟩,q⟩:=h;obtain⟨s0,e0,h | ⟨rfl,_⟩⟩:=ah0 e
 ·obtain⟨t',l',rfl,i,_,⟨l2,_,z⟩ | z⟩:=h
  ·exact⟨⟨t',l',e0⟩,q⟩
  ·cases z
 ·exact⟨⟨t,l,e0⟩,q⟩
theorem ab6(G:Good K tg F H ρ σ)(L:Lent K F σ τ js ds)(x:Ext (Own (lend ρ js ds) τ) O' F H F' H')(s':Same F' H')(fin:Fin K F' H' τ ps O'):Good K tg F' H' (putB ρ js ps) σ where
 sub:=s'
 len:=by
  unfold putB;rw[lJ];exact G.len
 sl:=fun j s o e q=>by
  obtain⟨s0,e0,h | ⟨rfl,hn⟩⟩:=ah0 e
  ·obtain⟨t,l,rfl,i,ei,⟨l',ep,rfl⟩ | rfl⟩:=h
   ·obtain⟨a,vs,rfl,hf,hh,hl,ht⟩:=G.sl j _ _ e0 q;obtain⟨_,hf',ws,hh',hl'⟩:=fin.at' i l' ep;have:=L.h1 i j _ ei q;have et:tgOf τ i=a:=by
     unfold tgOf;rw[this]
    rw[et] at hf' hh';exact⟨a,ws,rfl,hf',hh',hl',ht⟩
   ·trivial
  ·have w:=G.sl j _ _ e0 q;cases s with
   | emp=>trivial
   | val d =>
    obtain⟨v,h1,h2⟩:=w;exact⟨v,h1,h2.mono x.sub⟩
   | lol ts =>
    obtain⟨a,h1,h2⟩:=w;exact⟨a,h1,x.sub _ _ h2⟩
   | lnk k=>exact w
   | box c fs =>
    obtain⟨a,C,dx,fvs,e1,e2,e3,e4,e7,e5,e6⟩:=w;have no:¬Own (lend ρ js ds) τ a:=fun⟨i,z⟩=>by
     obtain⟨j',_,v⟩:=aan G L z;obtain⟨_,vs,hv⟩:=G.ownAt ⟨j',v⟩;rw[e3] at hv;cases hv
    have hf:F' a=none:=by
     cases z:F' a with
     | none=>rfl
     | some o =>
      rcases x.new a o z with z | z | z
      ·rw[e2] at z;cases z
      ·rw[e3] at z;cases z
      ·exact absurd z no
    exact⟨a,C,dx,fvs,e1,hf,x.keep a _ e3 no,e4,e7,e5,fun f d h=>(e6 f d h).imp fun v h=>⟨h.1,h.2.mono x.sub⟩⟩
   | own t l =>
    obtain⟨a,vs,rfl,hf,hh,hl,ht⟩:=w;have no:¬Own (lend ρ js ds) τ a:=fun⟨i,z⟩=>by
     obtain⟨j',e1,v⟩:=aan G L z;have:=G.inj j' j a v ⟨⟨t,l,e0⟩,q⟩;subst this;exact hn t l rfl i e1
    refine⟨a,vs,rfl,?_,x.keep a _ hh no,hl.mono x.sub,ht⟩;cases z:F' a with
    | none=>rfl
    | some o =>
     rcases x.new a o z with z | z | z
     ·rw[hf] at z;cases z
     ·rw[hh] at z;cases z
     ·exact absurd z no
 inj:=fun i j a w w'=>G.inj i j a (ach w) (ach w')
theorem aao(G:Good K tg F H ρ σ)(L:Lent K F σ τ js ds){a:aY}(h:Own (lend ρ js ds) τ a):Own ρ σ a:=by
 obtain⟨i,h⟩:=h;obtain⟨j,_,h⟩:=aan G L h;exact⟨j,h⟩
theorem ad5(G:Good K tg F H ρ σ)(L:Lent K F σ τ js ds)(x:Ext (Own (lend ρ js ds) τ) O' F H F' H'):Ext (Own ρ σ) (Own (putB ρ js ps) σ) F H F' H' where
 sub:=x.sub
 new:=fun a o e=>by
  rcases x.new a o e with z | z | z
  ·exact .inl z
  ·exact .inr (.inl z)
  ·exact .inr (.inr (aao G L z))
 keep:=fun a o e n=>x.keep a o e fun z=>n (aao G L z)
 own:=fun a ⟨j,w⟩=>.inl ⟨j,ach w⟩
 there:=x.there
theorem asi(G:Good K tg F H ρ σ)(L:Lent K F σ τ js ds)(fin:Fin K F' H' τ ps O'){a:aY}(ha:H a=none∨Own (lend ρ js ds) τ a)(hn:¬O' a):¬Own (putB ρ js ps) σ a:=fun⟨j,w⟩=>by
 have v:=ach w;obtain⟨⟨t,l2,e⟩,q⟩:=w;obtain⟨s0,e0,z | ⟨rfl,hno⟩⟩:=ah0 e
 ·obtain⟨t',l',rfl,i,ei,⟨l3,ep,z⟩ | z⟩:=z
  ·have et:tgOf τ i=a:=by
    unfold tgOf;rw[L.h1 i j _ ei q]
   have:=(fin.at' i l3 ep).1;rw[et] at this;exact hn this
  ·cases z
 ·rcases ha with ha | ⟨i,z⟩
  ·obtain⟨a',vs',ea,_,e2,_⟩:=G.sl j _ _ e0 q;cases ea;rw[ha] at e2;cases e2
  ·obtain⟨j',e1,v'⟩:=aan G L z;have:=G.inj j' j a v' v;subst this;exact hno t l2 rfl i e1
theorem ai1(G:Good K tg F H ρ σ)(L:Lent K F σ τ js ds)(fin:Fin K F' H' τ ps O'){r:Rv}{v:V}(h:relR K r v H (Own (lend ρ js ds) τ) F' H' O'):relR K r v H (Own ρ σ) F' H' (Own (putB ρ js ps) σ):=by
 cases r with
 | v d=>exact h
 | fr l =>
  obtain⟨a,vs,rfl,ha,hf,hh,hl,hn⟩:=h;exact⟨a,vs,rfl,ha.imp id (aao G L),hf,hh,hl,asi G L fin ha hn⟩
 | tf d l =>
  obtain⟨t,u,a,vs,rfl,ht,hd,ha,hf,hh,hl,hn⟩:=h;exact⟨t,u,a,vs,rfl,ht,hd,ha.imp id (aao G L),hf,hh,hl,asi G L fin ha hn⟩
end
abbrev Fd:=Ro->Option (Out Rv×Ro)
noncomputable def fnD(nl np:Nat)(g:Sd):Fd:=fun as=>match g (as++aF (nl - np) .emp) with
 | some (.ret r,ρ)=>some (.ok r,ρ.take np)
 | some (.nx,ρ)=>some (.ok (.v .non),ρ.take np)
 | some (.exc x,ρ)=>some (.exc x,ρ.take np)
 | _=>none
def spOf(K:Fg9)(n:Nat)(f:Fd):Sp:=fun vs H Q _=>vs.length=n/\∃F as r ps,Good K (tgOf (vs.map some)) F H as (vs.map some)/\f as=some (.ok r,ps) /\
 ∀v H' F' O',Same F' H'->Ext (Own as (vs.map some)) O' F H F' H'->Fin K F' H' (vs.map some) ps O'->relR K r v H (Own as (vs.map some)) F' H' O'->Q v H'
section
variable{K:Fg9}
theorem axo{as:Ro}{τ:L2.St}{n:Nat}{a:aY}(hl:as.length=τ.length)(h:Own (as++aF n .emp) (τ++aF n none) a):Own as τ a:=by
 obtain⟨i,⟨t,l,e⟩,q⟩:=h
 by_cases hi:i < as.length
 ·rw[cH hi] at e;rw[cH (by omega)] at q
  exact⟨i,⟨t,l,e⟩,q⟩
 ·rw[iC (by omega),lK] at e
  split at e <;> cases e
theorem atv{as:Ro}{τ:L2.St}{n:Nat}{a:aY}(hl:as.length=τ.length)(h:Own as τ a):Own (as++aF n .emp) (τ++aF n none) a:=by
 obtain⟨i,⟨t,l,e⟩,q⟩:=h;have hi:=(aM.mp e).1;exact⟨i,⟨t,l,by rw[cH hi];exact e⟩,by rw[cH (by omega)];exact q⟩
theorem zx{as:Ro}{τ:L2.St}{n:Nat}(hl:as.length=τ.length):Own (as++aF n .emp) (τ++aF n none)=Own as τ:=funext fun a=>propext ⟨axo hl,atv hl⟩
theorem Good.app{tg:Nat->aY}{F H:Hp}{as:Ro}{τ:L2.St}(G:Good K tg F H as τ)(n:Nat):Good K tg F H (as++aF n .emp) (τ++aF n none) where
 sub:=G.sub
 len:=by rw[aW,aW,G.len,gD,gD]
 sl:=fun i s o e q=>by
  have hl:=G.len
  by_cases hi:i < as.length
  ·rw[cH hi] at e;rw[cH (by omega)] at q
   exact G.sl i s o e q
  ·rw[iC (by omega),lK] at e
   split at e
   ·cases e;trivial
   ·cases e
 inj:=fun i j a w w'=>by
  have hl:=G.len;have f:∀k,Owns (as++aF n .emp) (τ++aF n none) k a->Owns as τ k a:=fun k ⟨⟨t,l,e⟩,q⟩=>by
   by_cases hi:k < as.length
   ·rw[cH hi] at e;rw[cH (by omega)] at q
    exact⟨⟨t,l,e⟩,q⟩
   ·rw[iC (by omega),lK] at e
    split at e <;> cases e
  exact G.inj i j a (f i w) (f j w')
theorem a66{P:bV}{w:dO}{mg:Str->Option aG}{base:fD}{x qual:Str}{st:iY}{f:aY}{fd:fP}{N ps:List Str}{k:Nat}{g:Sd}(F:Fun K x qual st f fd)(S:FnScope N ps (ao st))
  (body:∀(cdv:aG) (A:dB) (outer:List Env) (s:aH) (H:Hp) (E:XK),Room k (A.deeper (pH qual (ao st) s.heap.objs.size f cdv))->SVs K (cxOf CX0 P w K mg base N qual (ao st) f cdv A outer s H E).nox (ji st) g) :
  FnOk P w K mg base CX0 (k+1) f fd ps (spOf K ps.length (fnD N.length ps.length g)):=by
 refine F.ok S (fun vs H Q E h=>h.1) (fun cdv A outer s H vs Q E hr h=>⟨_,body cdv A outer s H E hr rfl,?_⟩)
 obtain⟨hn,F,as,r,ps',G,em,q⟩:=h;have hl:as.length=(vs.map some).length:=G.len;have G1:=G.app (N.length - vs.length);have es:start N vs=vs.map some++aF (N.length - vs.length) none:=rfl;rw[es];unfold fnD at em;rw[<-hn] at em;have fin:∀{ρ':Ro} {σ':L2.St} {F' H':Hp},Good K (tgOf (vs.map some)) F' H' ρ' σ'->Fin K F' H' (vs.map some) (ρ'.take vs.length) (Own ρ' σ'):=fun{ρ' σ' F' H'} G'=>⟨fun i l e=>by
  have hi:=(aM.mp e).1;rw[fO] at hi;rw[iV (by omega)] at e
  obtain⟨o,ho,a,ws,rfl,hf,hh,hl,ht⟩:=G'.at e;rw[ht i rfl];exact⟨⟨i,⟨_,_,e⟩,ho⟩,hf,ws,hh,hl⟩⟩
 split at em
 ·rename_i r' ρ' e;cases em;refine⟨_,F,_,.ret r,ρ',G1,e,fun v σ' H' F' G' x' rr =>?_⟩
  rw[zx hl] at x' rr;exact q v H' F' (Own ρ' σ') G'.sub x' (fin G') rr
 ·rename_i ρ' e;cases em;refine⟨_,F,_,.nx,ρ',G1,e,fun σ' H' F' G' x' =>?_⟩
  rw[zx hl] at x';exact q .non H' F' (Own ρ' σ') G'.sub x' (fin G') .non
 ·cases em
 ·cases em
end
section
variable{K:Fg9}{X:Cx}{e a b c tgt iter elt:dZ}{es:List dZ}{pos p p2:Pos}
inductive AR (K:Fg9) (F:Hp) (σ:L2.St):List (Option Nat)->List (Option D)->List V->Prop
 | nil:AR K F σ [] [] []
 | ex {d:D} {v:V} {js:List (Option Nat)} {ds:List (Option D)} {vs:List V} (h:Is K F d v) (t:AR K F σ js ds vs):AR K F σ (none::js) (some d::ds) (v::vs)
 | nm {j:Nat} {v:V} {js:List (Option Nat)} {ds:List (Option D)} {vs:List V} (h:σ[j]? = some (some v)) (t:AR K F σ js ds vs):AR K F σ (some j::js) (none::ds) (v::vs)
theorem AR.lent{F:Hp}{σ:L2.St}:∀{js:List (Option Nat)} {ds:List (Option D)} {vs:List V},AR K F σ js ds vs->Lent K F σ (vs.map some) js ds
 | _,_,_,.nil=>⟨rfl,rfl,fun i j o h=>by simp at h,fun i d h=>by simp at h⟩
 | _,_,_,.ex h t=>by
  have L:=t.lent;refine⟨by simp[by simpa using L.l1],by simp[L.l2],fun i j o h q =>?_,fun i d h q =>?_⟩
  ·cases i with
   | zero=>simp at h
   | succ i=>simpa using L.h1 i j o (by simpa using h) q
  ·cases i with
   | zero=>simp at q;subst q;exact⟨_,rfl,‹_›⟩
   | succ i=>simpa using L.h2 i d (by simpa using h) (by simpa using q)
 | _,_,_,.nm h t=>by
  have L:=t.lent;refine⟨by simp[by simpa using L.l1],by simp[L.l2],fun i j o h' q =>?_,fun i d h' q =>?_⟩
  ·cases i with
   | zero =>
    simp at h';subst h';rw[h] at q;cases q;rfl
   | succ i=>simpa using L.h1 i j o (by simpa using h') q
  ·cases i with
   | zero=>simp at h'
   | succ i=>simpa using L.h2 i d (by simpa using h') (by simpa using q)
theorem AR.length{F:Hp}{σ:L2.St}{js:List (Option Nat)}{ds:List (Option D)}{vs:List V}(h:AR K F σ js ds vs):vs.length=js.length:=by
 have:=h.lent.l1
 simpa using this
def TAg(K:Fg9)(js:List (Option Nat))(m:M (List (Option D))):TA:=fun σ H Q=>∃tg F ρ ds ρ',Good K tg F H ρ σ/\m ρ=some (.ok ds,ρ')/\∀vs H' F',Good K tg F' H' ρ' σ->Ext (Own ρ σ) (Own ρ' σ) F H F' H'->AR K F' σ js ds vs->Q vs H'
structure EG (K:Fg9) (X:Cx) (es:List dZ) (js:List (Option Nat)) (m:M (List (Option D))):Prop where
 go:X.K=K->PA X es (TAg K js m)
instance {K:Fg9} {X:Cx} {es:List dZ} {js:List (Option Nat)} {m:M (List (Option D))}:CoeFun (EG K X es js m) fun _=>X.K=K->PA X es (TAg K js m):=⟨EG.go⟩
def gm:M (List (Option D)):=ret []
def b8(m:M D)(ms:M (List (Option D))):M (List (Option D)):=m.bind fun d=>ms.bind fun ds=>ret (some d::ds)
def dq(j:Nat)(ms:M (List (Option D))):M (List (Option D)):=(dj j).bind fun _=>ms.bind fun ds=>ret (none::ds)
theorem cu:EG K X [] [] gm:=EG.mk fun _=>PA.imp aex fun σ H Q z9=>by
 obtain⟨tg,F,ρ,ds,ρ',G,em,q⟩:=z9;obtain⟨rfl,rfl⟩:=jq em;exact q [] H F G (Ext.refl _ _ _) .nil
theorem eg_v{m:M D}{js:List (Option Nat)}{ms:M (List (Option D))}(h:EV K X e m)(t:EG K X es js ms)(hs:aX (e::es) X.env=(false,eval e X.env)::aX es X.env:=by rfl):EG K X (e::es) (none::js) (b8 m ms):=EG.mk fun hk=>PA.imp (uh (h hk) (t hk) hs) fun σ H Q z9=>by
 obtain⟨tg,F,ρ,ds,ρ',G,em,q⟩:=z9;obtain⟨d,ρ1,e1,em⟩:=bc em;obtain⟨r,ρ2,e2,em⟩:=bc em;obtain⟨rfl,rfl⟩:=jq em;exact⟨tg,F,ρ,d,ρ1,G,e1,fun v H1 F1 G1 x1 r1=>⟨tg,F1,ρ1,r,_,G1,e2,fun vs H2 F2 G2 x2 r2=>q _ H2 F2 G2 (x1.trans x2) (.ex (r1.mono x2.sub) r2)⟩⟩
theorem eg_n{j:Nat}{js:List (Option Nat)}{ms:M (List (Option D))}(h:PE X e (tVar j))(t:EG K X es js ms)(hs:aX (e::es) X.env=(false,eval e X.env)::aX es X.env:=by rfl):EG K X (e::es) (some j::js) (dq j ms):=EG.mk fun hk=>PA.imp (uh h (t hk) hs) fun σ H Q z9=>by
 obtain⟨tg,F,ρ,ds,ρ',G,em,q⟩:=z9;obtain⟨d0,ρ0,e0,em⟩:=bc em;obtain⟨r,ρ2,e2,em⟩:=bc em;obtain⟨rfl,rfl⟩:=jq em;obtain⟨rfl,v,hv,_⟩:=rn G e0;exact⟨v,hv,tg,F,ρ0,r,_,G,e2,fun vs H2 F2 G2 x2 r2=>q _ H2 F2 G2 x2 (.nm hv r2)⟩
noncomputable def mFn(f:Fd)(js:List (Option Nat))(ms:M (List (Option D))):M Rv:=ms.bind fun ds ρ=>if okJs ρ js=true then match f (lend ρ js ds) with
  | some (.ok r,ps)=>some (.ok r,putB ρ js ps)
  | some (.exc x,ps)=>some (.exc x,putB ρ js ps)
  | none=>none
 else none
theorem avy{f:Fd}{js:List (Option Nat)}{ms:M (List (Option D))}{ρ ρ':Ro}{r:Rv}(h:mFn f js ms ρ=some (.ok r,ρ')):∃ds ρ1 ps,ms ρ=some (.ok ds,ρ1)/\okJs ρ1 js=true/\f (lend ρ1 js ds)=some (.ok r,ps)/\ρ'=putB ρ1 js ps:=by
 obtain⟨ds,ρ1,e1,em⟩:=bc h;have em:(if okJs ρ1 js=true then match f (lend ρ1 js ds) with
  | some (.ok r,ps)=>some (Out.ok r,putB ρ1 js ps)
  | some (.exc x,ps)=>some (.exc x,putB ρ1 js ps)
  | none=>none
  else none)=some (.ok r,ρ'):=em
 split at em
 ·rename_i hk;split at em
  ·rename_i r' ps e2;cases em;exact⟨ds,ρ1,ps,e1,hk,e2,rfl⟩
  ·cases em
  ·cases em
 ·cases em
theorem ie{f:Fd}{n k:Nat}{x:Str}{pn:List Str}{js:List (Option Nat)}{ms:M (List (Option D))}(F:Dfn X.prog X.w X.K X.mg X.base x pn k (spOf K n f))(hr:Room k X.A)(hg:Gl X x)(ha:EG K X (e::es) js ms)(hn:js.length=n:=by rfl)(hdb:(x==("__debug__" : Str))=false:=by decide)
  (he:aX (e::es) X.env=(false,eval e X.env)::aX es X.env:=by rfl) (hpl:(iZ pos (aX es X.env)).any (·.1)=false:=by rfl):ER K X (.Call (.Name x p) (e::es) [] pos) (mFn f js ms):=ER.mk fun hk=>PE.imp (a5p F hr hg (ha hk) hdb he hpl) fun σ H Q z9=>by
 obtain⟨tg,F,ρ,r,ρ',G,em,q⟩:=z9;obtain⟨ds,ρ1,ps,e1,hj,e2,rfl⟩:=avy em;refine⟨tg,F,ρ,ds,ρ1,G,e1,fun vs H1 F1 G1 x1 ar =>?_⟩
 have L:=ar.lent;show spOf K n f (vs++[]) H1 Q E0;rw[gF];refine⟨by rw[ar.length];exact hn,F1,_,r,ps,aaa G1 hj L,e2,fun v H' F' O' s' x' fin rr =>?_⟩
 exact q v H' F' (ab6 G1 L x' s' fin) (x1.trans (ad5 G1 L x')) (nq x1 (ai1 G1 L fin rr))
structure EIf (K:Fg9) (X:Cx) (ifs:List dZ) (m:M Bool):Prop where
 go:X.K=K->PIf X ifs (TB K m)
instance {K:Fg9} {X:Cx} {ifs:List dZ} {m:M Bool}:CoeFun (EIf K X ifs m) fun _=>X.K=K->PIf X ifs (TB K m):=⟨EIf.go⟩
theorem km:EIf K X [] (ret true):=EIf.mk fun _ jv s σ H Q I z9=>by
 obtain⟨tg,F,ρ,k,ρ',G,em,q⟩:=z9;obtain⟨rfl,rfl⟩:=jq em;exact axd jv s σ H Q I (q H F G (Ext.refl _ _ _))
theorem agk{m:M Bool}(h:ET K X c m):EIf K X [c] m:=EIf.mk fun hk=>axc (h hk)
noncomputable def compD(b:D->Ro->Option Ro)(mc:M Bool)(me:M D):List D->List D->M (List D)
 | [],ys=>ret ys
 | d::ds,ys=>fun ρ=>match b d ρ with
  | none=>none
  | some ρ1=>(mc.bind fun k=>if k=true then me.bind fun y=>compD b mc me ds (ys++[y]) else compD b mc me ds ys) ρ1
theorem agq{b:D->Ro->Option Ro}{mc:M Bool}{me:M D}:∀{l ys yf:List D} {ρ ρ':Ro},compD b mc me l ys ρ=some (.ok yf,ρ')->ys.length<=yf.length
 | [],ys,yf,ρ,ρ',h=>by
  obtain⟨rfl,_⟩:=jq (show ret ys ρ=_ from h)
  exact aO _
 | d::ds,ys,yf,ρ,ρ',h=>by
  unfold compD at h;split at h
  ·cases h
  ·obtain⟨k,ρ2,e2,h⟩:=bc h;split at h
   ·obtain⟨y,ρ3,e3,h⟩:=bc h;have:=agq h;rw[aW] at this;omega
   ·exact agq h
def rm(src:List (Option Nat))(mi:M (List D))(b:D->Ro->Option Ro)(mc:M Bool)(me:M D):M Rv:=mi.bind fun l ρ=>if okJs ρ src=true then match compD b mc me l [] (lend ρ src (src.map fun _=>none)) with
  | some (.ok ys,ps)=>if ys.length<=capS then some (.ok (.fr ys),putB ρ src ps) else none
  | some (.exc x,ps)=>some (.exc x,putB ρ src ps)
  | none=>none
 else none
theorem at7{src:List (Option Nat)}{mi:M (List D)}{b:D->Ro->Option Ro}{mc:M Bool}{me:M D}{ρ ρ':Ro}{r:Rv}(h:rm src mi b mc me ρ=some (.ok r,ρ')):∃l ρ1 ys ps,mi ρ=some (.ok l,ρ1)/\okJs ρ1 src=true/\compD b mc me l [] (lend ρ1 src (src.map fun _=>none))=some (.ok ys,ps)/\ys.length<=capS/\r=.fr ys/\ρ'=putB ρ1 src ps:=by
 obtain⟨l,ρ1,e1,em⟩:=bc h;have em:(if okJs ρ1 src=true then match compD b mc me l [] (lend ρ1 src (src.map fun _=>none)) with
  | some (.ok ys,ps)=>if ys.length<=capS then some (Out.ok (Rv.fr ys),putB ρ1 src ps) else none
  | some (.exc x,ps)=>some (.exc x,putB ρ1 src ps)
  | none=>none
  else none)=some (.ok r,ρ'):=em
 split at em
 ·rename_i hk;split at em
  ·rename_i ys ps e2;split at em
   ·rename_i hz;cases em;exact⟨l,ρ1,ys,ps,e1,hk,e2,hz,rfl,rfl⟩
   ·cases em
  ·cases em
  ·cases em
 ·cases em
theorem ajk{F:Hp}{σ:L2.St}(src:List (Option Nat)):Lent K F σ (pick src σ) src (src.map fun _=>none):=by
 refine⟨by simp[pick],by simp,fun i j o h q =>?_,fun i d h q =>?_⟩
 ·unfold pick;rw[bK,h];show some ((σ[j]?).bind id)=some o;rw[q];rfl
 ·rw[bK,h] at q;cases q
theorem Ext.upd{O O':aY->Prop}{F H F' H':Hp}{d:aY}{o:HO}(x:Ext O O' F H F' H')(h:H d=none):Ext O O' F H F' (upd H' d o) :=
 ⟨x.sub,x.new,fun a u e n=>by rw[cj (jd e h)];exact x.keep a u e n,x.own,fun a e=>by
  by_cases ha:a=d
  ·subst ha;exact h
  ·rw[cj ha] at e;exact x.there a e⟩
theorem Good.upd{tg:Nat->aY}{F H:Hp}{ρ:Ro}{σ:L2.St}{d:aY}(G:Good K tg F H ρ σ)(hf:F d=none)(hn:¬Own ρ σ d)(o:HO)(hi:∀C dx fs,H d≠some (.ins C dx fs)):Good K tg F (upd H d o) ρ σ :=
 G.grow (Same.refl F) (fun b u e=>by
  have hb:b≠d:=fun z=>by
   subst z;rw[hf] at e;cases e
  rw[cj hb];exact G.sub b u e) (fun a w=>⟨(G.ownAt w).1,by
  have hb:a≠d:=fun z=>hn (z▸w)
  rw[cj hb]⟩) fun a C dx fvs h1 h2=>⟨h1,by
  have hb:a≠d:=fun z=>hi C dx fvs (z▸h2)
  rw[cj hb]⟩
theorem anq{mi:M (List D)}{bb:D->Ro->Option Ro}{mc:M Bool}{me:M D}{src:List (Option Nat)}(σ:L2.St)(H:Hp)(Q:VK)(t:T K (relR K) (rm src mi bb mc me) σ H Q):as7 (TIt K mi) (TGd K bb) (TB K mc) (T K (relD K) me) src σ H Q:=by
 obtain⟨tg,F,ρ,r,ρ',G,em,q⟩:=t;obtain⟨l,ρ1,yf,ps,e1,hj,e2,hz,rfl,rfl⟩:=at7 em;refine⟨tg,F,ρ,l,ρ1,G,e1,fun J H1 F1 G1 x1 Z dd hd =>?_⟩
 have L:Lent K F1 σ (pick src σ) src (src.map fun _=>none):=ajk src
 have Gl:=aaa G1 hj L;have own0:¬Own (lend ρ1 src (src.map fun _=>none)) (pick src σ) dd:=fun z=>Gl.own_ne hd z rfl
 refine anr Z (fun i ys σc Hc=>∃Fc ρc yd,Good K (tgOf (pick src σ)) Fc Hc ρc σc/\Ext (Own (lend ρ1 src (src.map fun _=>none)) (pick src σ)) (Own ρc σc) F1 H1 Fc Hc/\Fc dd=none/\¬Own ρc σc dd/\Hc dd=some (.lst ys)/\IsL K Fc yd ys/\compD bb mc me (l.drop i) yd ρc=some (.ok yf,ps))
  ⟨F1,_,[],Gl.upd (G1.freeF hd) own0 _ (fun _ _ _ z=>by rw[hd] at z;cases z),(Ext.refl _ _ _).upd hd,G1.freeF hd,own0,gk,.nil,e2⟩ ?_ ?_ ?_
 ·rintro i ys σc Hc _ ⟨Fc,ρc,yd,Gc,xc,_,_,hdd,_,_⟩
  exact⟨xc.sub.trans Gc.sub,hdd⟩
 ·rintro i d x ys σc Hc0 Hc M hdl ⟨Fc0,ρc,yd,Gc0,xc0,fd0,od0,hdd0,iy0,ec⟩ al hM
  obtain⟨Fc,Gc,xc,_,idl,xa⟩:=ai3 Gc0 xc0 xc0.sub al;have iy:=iy0.mono xa.sub;have hlt:i < l.length:=(aM.mp hdl).1;have edl:l[i]=d:=(aM.mp hdl).2;rw[iJ hlt,edl] at ec;unfold compD at ec;have step:∀{F2 H2:Hp} {ρ2 ρ3:Ro} {σ2 σ3:L2.St} {F3 H3:Hp},F2 dd=none->¬Own ρ2 σ2 dd->H2 dd=some (.lst ys)->Ext (Own ρ2 σ2) (Own ρ3 σ3) F2 H2 F3 H3->F3 dd=none/\¬Own ρ3 σ3 dd/\H3 dd=some (.lst ys):=fun{F2 H2 ρ2 ρ3 σ2 σ3 F3 H3} h1 h2 h3 x3=>by
   refine⟨?_,fun z =>?_,x3.keep _ _ h3 h2⟩
   ·cases z:F3 dd with
    | none=>rfl
    | some o =>
     rcases x3.new _ _ z with z | z | z
     ·rw[h1] at z;cases z
     ·rw[h3] at z;cases z
     ·exact absurd z h2
   ·rcases x3.own _ z with z | z
    ·exact h2 z
    ·rw[h3] at z;cases z
  obtain⟨fd,od,hdd⟩:=step fd0 od0 hdd0 xa;split at ec
  ·cases ec
  ·rename_i ρ2 eb;refine⟨_,Fc,ρc,d,ρ2,Gc,idl,eb,fun σ2 H2 F2 G2 x2 =>?_⟩
   obtain⟨k,ρ3,ek,ec⟩:=bc ec;obtain⟨fd2,od2,hdd2⟩:=step fd od hdd x2;refine⟨_,F2,ρ2,k,ρ3,G2,ek,fun H3 F3 G3 x3 =>?_⟩
   obtain⟨fd3,od3,hdd3⟩:=step fd2 od2 hdd2 x3;cases k with
   | false =>
    refine iteF (hM _ _ _ ⟨F3,ρ3,yd,G3,(xc.trans x2).trans x3,fd3,od3,hdd3,(iy.mono x2.sub).mono x3.sub,ec⟩)
   | true =>
    obtain⟨y,ρ4,ey,ec⟩:=bc ec;refine iteT ⟨_,F3,ρ3,y,ρ4,G3,ey,fun v H4 F4 G4 x4 iv =>?_⟩
    obtain⟨fd4,od4,hdd4⟩:=step fd3 od3 hdd3 x4;refine⟨hdd4,?_,hM _ _ _ ⟨F4,ρ4,yd++[y],G4.upd fd4 od4 _ (fun _ _ _ z=>by rw[hdd4] at z;cases z),(((xc.trans x2).trans x3).trans x4).upd hd,fd4,od4,gk,?_,ec⟩⟩
    ·have:=agq ec;rw[aW,iy.length] at this;rw[cF];exact bM (by simpa using mF ys.length) (cM this hz)
    ·exact(((iy.mono x2.sub).mono x3.sub).mono x4.sub).append (.cons iv .nil)
 ·rintro ys σc Hc ⟨Fc,ρc,yd,Gc,xc,fd,od,hdd,iy,ec⟩
  rw[pP (aO _)] at ec;obtain⟨rfl,rfl⟩:=jq (show ret yd ρc=_ from ec)
  have fin:Fin K Fc Hc (pick src σ) ps (Own ps σc):=⟨fun i l' e=>by
   obtain⟨o,ho,a,ws,rfl,hf,hh,hl,ht⟩:=Gc.at e;rw[ht i rfl];exact⟨⟨i,⟨_,_,e⟩,ho⟩,hf,ws,hh,hl⟩⟩
  refine q _ Hc Fc (ab6 G1 L xc Gc.sub fin) (x1.trans (ad5 G1 L xc)) ⟨dd,ys,rfl,.inl (x1.there dd hd),fd,hdd,iy,fun⟨j,w⟩ =>?_⟩
  exact G1.own_ne hd ⟨j,ach w⟩ rfl
theorem j4{ifs:List dZ}{scope:mX}{mi:M (List D)}{bb:D->Ro->Option Ro}{mc:M Bool}{me:M D}(fr N:List Str)(src:List (Option Nat))(hc:X.calm=true)(hi:IT K X tgt iter mi)
  (hg:∀fp s H,GV K (cxC X N scope fr fp s H) tgt bb) (ht:∀fp s H,EIf K (cxC X N scope fr fp s H) ifs mc) (he:∀fp s H,EV K (cxC X N scope fr fp s H) elt me)
  (hok:agp X.env X.N scope fr N src=true:=by rfl) (hkind:scope.kind=.function:=by rfl) (hclos:closureFor scope X.env=pure (yw X.env fr):=by rfl)
  (hs:∀x,foldedSetIterable iter X.env x=pure x:=by intro _;rfl):ER K X (.ListComp elt [⟨tgt,iter,ifs,0⟩] scope pos) (rm src mi bb mc me):=ER.mk fun hk=>by
 have hkc:∀fp s H,(cxC X N scope fr fp s H).K=K:=fun _ _ _=>hk
 refine PE.imp (axk fr N src hc (hi hk) (fun fp s H=>(hg fp s H).go (hkc _ _ _)) (fun fp s H=>(ht fp s H).go (hkc _ _ _)) (fun fp s H=>(he fp s H).go (hkc _ _ _)) hok hkind hclos hs) anq
end
end Dn
namespace Mn
open L2
theorem ap4{X:Cx}{tg iter elt:dZ}{ifs:List dZ}{scope:mX}{cpos pos px:Pos}{wi:TI}{g:TG}{ti:TT}{te:TE}{i:Nat}{x:Str}(fr N:List Str)(src:List (Option Nat))(hN:X.N.Nodup)(hxi:X.N[i]? = some x)(hx:Loc X.env.scope x)(hc:X.calm=true)(hi:PI X tg iter wi)
  (hg:∀fp s H,PG (cxC X N scope fr fp s H) tg g) (ht:∀fp s H,PIf (cxC X N scope fr fp s H) ifs ti) (he:∀fp s H,PE (cxC X N scope fr fp s H) elt te)
  (hsw:nQ (.ListComp elt [⟨tg,iter,ifs,0⟩] scope cpos) (some (.Name x px)) pos.line X.env=pure true:=by rfl)
  (hok:agp X.env X.N scope fr N src=true:=by rfl) (hkind:scope.kind=.function:=by rfl) (hclos:closureFor scope X.env=pure (yw X.env fr):=by rfl)
  (hs:∀x,foldedSetIterable iter X.env x=pure x:=by intro _;rfl) (hf:X.fn x=true∨X.env.scope.names.lookup x=some .local:=by first | exact .inl rfl | exact .inr rfl | assumption) :
  PS X (.Assign [.Name x px] (.ListComp elt [⟨tg,iter,ifs,0⟩] scope cpos) pos) (tAsg (as7 wi g ti te src) (aye i)):=by
 have C:=CompOk.of hok;intro jv s σ H D I h;rw[exec_Assign_Name_used _ _ _ _ hsw];refine aA (wpAny_standAt (aA ?_));show bL _ _ (comprehension (.ListComp elt [⟨tg,iter,ifs,0⟩] scope cpos) scope X.env (firstIterPos [⟨tg,iter,ifs,0⟩] cpos) (newList []) (firstAsync [⟨tg,iter,ifs,0⟩]) (firstIter [⟨tg,iter,ifs,0⟩] X.env) (some (qK (.Name x px) X.env)) >>= fun _=>pure ()) _ _ _
 refine aA (wpAny_comprehension_free (use:=some (qK (.Name x px) X.env)) (Q:=fun _ s'=>bL (bY X.prog X.w) X.A (pure ()) (fun _ s''=>bL (bY X.prog X.w) X.A (pure Flow.next) (SP X jv D) X.xe s'') X.xe s') rfl hs hclos hkind C.loc (bC (hi jv s σ H _ I h) (fun v s1 h1=>bC h1 (fun itv s2 h2 =>?_) fun _ _ e=>e) fun _ _ e=>e))
 obtain⟨it,fp,tn,J,H2,e,I2,T,st2,f2,q2⟩:=h2;subst e;have hd0:H2 s2.heap.objs.size=none:=I2.hok.fresh (aO _);obtain⟨W,⟨m0,w0⟩,turn⟩:=q2 s2.heap.objs.size hd0;refine dG ?_;generalize hs3:({ s2 with heap:=s2.heap.push { cls:=.type "list", dict:=none,data:=.seq ([]:List aG).toArray } }:aH)=s3
 have keep2:∀b o,s2.heap.get? b=some o->s3.heap.get? b=some o:=fun b o e=>by rw[<-hs3];exact aB _ e
 have I3:Inv X jv σ (upd H2 s2.heap.objs.size (.lst [])) s3:=by
  rw[<-hs3];exact I2.laid (t':=s2.toks) (fun b u q=>aB _ q) (aO _) ⟨Nat.zero_le _,[],0,.nil,aU _ rfl⟩
 have ne0:∀b∈fp,b≠s2.heap.objs.size:=fun b hb=>by
  obtain⟨o,e,_⟩:=T.obj _ _ st2 b hb;exact bG (aQ e)
 have f3:∀b∈fp,FpOk X jv (upd H2 s2.heap.objs.size (.lst [])) b:=fun b hb=>⟨by rw[cj (ne0 b hb)];exact(f2 b hb).1,(f2 b hb).2⟩
 have lt3:∀b∈fp,b < s3.heap.objs.size:=fun b hb=>by
  obtain⟨o,e,_⟩:=T.obj _ _ st2 b hb;exact aQ (keep2 b o e)
 refine wpAny_newFunctionEnv C.cell (by intro y hy;simp at hy) (fun h₁ hns₁ hsb₁ =>?_) hkind
 have keep3:∀b o,s3.heap.get? b=some o->h₁.get? b=some o:=fun b o e=>hsb₁.extBut b o (bG (aQ e)) (aB _ e)
 have st4:tn 0 h₁:=T.keep _ _ _ st2 fun b hb o e=>keep3 b o (keep2 b o e)
 have I4:=am7 (tk:=s3.toks+([]:List (Str×Value)).length) I3 C hkind f3 lt3 hns₁ keep3;have loop:=akh (X:=cxC X N scope fr fp s3 (upd H2 s2.heap.objs.size (.lst []))) (iter:=iter) (scope:=scope) (pos:=cpos) (d:=s2.heap.objs.size) (Q:=fun v H1=>D.nx (σ.set i (some v)) H1)
  (R:=compPost (bY X.prog X.w) X.A X.xe (some (qK (.Name x px) X.env)) (fun _ s'=>bL (bY X.prog X.w) X.A (pure ()) (fun _ s''=>bL (bY X.prog X.w) X.A (pure Flow.next) (SP X jv D) X.xe s'') X.xe s') (.ref s2.heap.objs.size) s3.heap.objs.size) hc rfl T
  (fun H' hn b hb=>⟨hn b hb,bG (lt3 b hb),I4.ok.exfs b hb,.inl hb,(I4.ok.exf b hb).2,fun p hp=>absurd (show p∈([]:List (aY×Obj)) from hp) (by simp)⟩)
  (hg fp s3 _) (ht fp s3 _) (he fp s3 _) turn w0 I4 st4 (fun b hb=>(f3 b hb).1) (fun σ' H' s' I6 qn=>by
   obtain⟨m6,hn6,_⟩:=I6.loc;have fC:FpOk X jv H' s3.heap.objs.size:=I3.fpOk (aO _) I6.free;have I7:Inv X jv σ H' s':=am8 I3 f3 I6 (rQ ..);refine wpAny_assign_Name (aja I7 hN hxi hx (v:=.ref s2.heap.objs.size) rfl (fun s8 I8 ⟨a,sb,ha⟩ =>?_) hf)
   have hne:s3.heap.objs.size≠a:=by
    rcases ha with rfl | ha
    ·exact fC.2.1
    ·exact(fC.2.2.2.2.1 x a ha).symm
   obtain⟨o6,es6,ep6,g6,r6⟩:=hn6;refine⟨m6,⟨o6,es6,ep6,(sb.2 _ hne).trans g6,r6⟩,fun h9 sb9=>aJ (aJ ⟨_,H',?_,qn⟩)⟩
   exact I8.turned (t':=s8.toks) (it:=s3.heap.objs.size) (fun b o hb e=>(sb9.2 b hb).trans e) fC.1 fC.2.1 fC.2.2.2.1 fC.2.2.2.2.1 fC.2.2.2.2.2)
 exact codeAny_compStart_list loop (T.self _ 0 _ _ _ st4 loop)
end Mn
namespace Dn
open L2 Mn
section
variable{K:Fg9}{X:Cx}{tgt iter elt:dZ}{pos p:Pos}
theorem apm{i:Nat}{x:Str}{ifs:List dZ}{scope:mX}{cpos:Pos}{mi:M (List D)}{bb:D->Ro->Option Ro}{mc:M Bool}{me:M D}(fr N:List Str)(src:List (Option Nat))(hN:X.N.Nodup)(hxi:X.N[i]? = some x)(hx:Loc X.env.scope x)(hc:X.calm=true)(hi:IT K X tgt iter mi)
  (hg:∀fp s H,GV K (cxC X N scope fr fp s H) tgt bb) (ht:∀fp s H,EIf K (cxC X N scope fr fp s H) ifs mc) (he:∀fp s H,EV K (cxC X N scope fr fp s H) elt me)
  (hsw:nQ (.ListComp elt [⟨tgt,iter,ifs,0⟩] scope cpos) (some (.Name x p)) pos.line X.env=pure true:=by rfl)
  (hok:agp X.env X.N scope fr N src=true:=by rfl) (hkind:scope.kind=.function:=by rfl) (hclos:closureFor scope X.env=pure (yw X.env fr):=by rfl)
  (hs:∀x,foldedSetIterable iter X.env x=pure x:=by intro _;rfl) (hf:X.fn x=true∨X.env.scope.names.lookup x=some .local:=by first | exact .inl rfl | exact .inr rfl | assumption) :
  SV K X (.Assign [.Name x p] (.ListComp elt [⟨tgt,iter,ifs,0⟩] scope cpos) pos) (dSet i (rm src mi bb mc me)):=SV.mk fun hk=>by
 have hkc:∀fp s H,(cxC X N scope fr fp s H).K=K:=fun _ _ _=>hk
 refine PS.imp (ap4 fr N src hN hxi hx hc (hi hk) (fun fp s H=>(hg fp s H).go (hkc _ _ _)) (fun fp s H=>(ht fp s H).go (hkc _ _ _)) (fun fp s H=>(he fp s H).go (hkc _ _ _)) hsw hok hkind hclos hs hf) fun E σ H ⟨tg,F,ρ,fl,ρ',G,em,q⟩=>ab2 em q fun r ρ1 e1 em =>?_
 cases em;refine anq σ H _ ⟨tg,F,ρ,r,ρ1,G,e1,fun v H' F' G' x rr =>?_⟩
 obtain⟨G2,x2⟩:=G'.store x i rr;exact q _ H' F' G2 x2
end
@[irreducible] def fuel:Nat:=1000000000
section
variable{K:Fg9}{X:Cx}{e a b c:dZ}{es:List dZ}{pos p p2:Pos}
end
def amd(f:Fd):Prop:=∀ns:List Int,ns.length<=63->∃ps,f [.val (.kst (ns.map D.int))]=some (.ok (.v (.bl true)),ps)
theorem azx{K:Fg9}{f:Fd}(h:amd f)(H:Hp)(a:aY)(ns:List Int)(hn:ns.length<=63)(hS:SqL K H a (ns.map V.int)):spOf K 1 f [.ref a] H (fun v _=>v=.bl true) fun _ _ _=>False:=by
 obtain⟨ps,e⟩:=h ns hn;refine⟨rfl,H,_,_,ps,⟨Same.refl H,rfl,fun i s o e1 e2 =>?_,fun i j b ⟨⟨t,l,e1⟩,_⟩ _=>by cases i <;> simp at e1⟩,e,fun v H' F' O' _ _ _ rr =>?_⟩
 ·cases i with
  | zero =>
   simp at e1 e2;subst e1 e2;exact⟨_,rfl,.kst hS (ad0 ns)⟩
  | succ i=>simp at e1
 ·have rr:Is K F' (.bl true) v:=rr;cases rr;rfl
theorem walk{l:sW}{q:bV}{loose:List Str}{XP:(Str->Option aG)->fD->Prop}{YP:dO->fD->Prop}{d:DefRec}{K:Params->Fg9}{f:Fd}{k:Nat}(ht:amd f)(hn:l.most=some 63)(hdf:d.params.defaults=[])(hr:Room k rD)
  (hY:∀(w:dO) (h:fD),YP w h->(K w.params).In h)
  (F:∀(w:dO) (mg:Str->Option aG) (fa:aY) (h:fD),(K w.params).In h->h.Ns bB mg->mg d.name=some (.ref fa) ->
   ∃fd:fP,(∀(s:aH) (u:aG),rT s fd ⟨[u],[]⟩ [("script", u)])/\∀base:fD,(K w.params).In base->base.Ns bB mg->FnOk l.prog w (K w.params) mg base CX0 k fa fd ["script"] (spOf (K w.params) 1 f)) :
  yQ q loose XP YP l.row.toRowW d [] (fun f vs=>wK f vs) :=
 L2.awg (n:=63) (k:=k) (x := "script") (CX:=fun _=>CX0) (sp:=fun w=>spOf (K w.params) 1 f) hn (by decide) hdf hr hY F (fun _ H a ns hl _ hS=>azx ht H a ns hl hS) fun _ _ _ _ _ z=>z
section
variable{α β:Type}(ρ:Ro)
@[simp] theorem a7q(a:α):ret a ρ=some (.ok a,ρ):=rfl
@[simp] theorem a6g(o:Option α):lift o ρ=match o with
 | some a=>some (.ok a,ρ)
 | none=>none:=rfl
@[simp] theorem a7h(m:M α)(k:α->M β):M.bind m k ρ=match m ρ with
 | some (.ok a,ρ1)=>k a ρ1
 | some (.exc x,ρ1)=>some (.exc x,ρ1)
 | none=>none:=rfl
@[simp] theorem v_ap(m:M D):M.v m ρ=(m.bind fun d=>ret (.v d)) ρ:=rfl
@[simp] theorem d_ap(m:M Rv):M.d m ρ=(m.bind fun r=>ret r.d) ρ:=rfl
@[simp] theorem a75(d:D):(Rv.v d).d=d:=rfl
@[simp] theorem a7p(l:List D):(Rv.fr l).d=.lst l:=rfl
@[simp] theorem a7o(d:D)(l:List D):(Rv.tf d l).d=.tup [d,.lst l]:=rfl
@[simp] theorem a74(d:D):(Rv.v d).sl=.val d:=rfl
@[simp] theorem a7n(l:List D):(Rv.fr l).sl=.own none l:=rfl
@[simp] theorem a5u(i:Nat):mVar i ρ=match ρ[i]? with
 | some (.val d)=>some (.ok d,ρ)
 | some (.own none l)=>some (.ok (.lst l),ρ.set i (.val (.lst l)))
 | _=>none:=rfl
@[simp] theorem a3n(i:Nat):dj i ρ=match ρ[i]? with
 | some (.val d)=>some (.ok d,ρ)
 | some (.own _ l)=>some (.ok (.lst l),ρ)
 | _=>none:=rfl
@[simp] theorem a3t(i:Nat):aqj i ρ=match ρ[i]? with
 | some (.val d)=>some (.ok (.v d),ρ)
 | some (.own none l)=>some (.ok (.fr l),ρ.set i .emp)
 | _=>none:=rfl
@[simp] theorem a5w(i:Nat):mOwn i ρ=match ρ[i]? with
 | some (.own _ l)=>some (.ok l,ρ)
 | _=>none:=rfl
@[simp] theorem a1c(i:Nat)(l':List D):acl i l' ρ=match ρ[i]? with
 | some (.own t _)=>some (.ok (),cG ρ i (.own t l'))
 | _=>none:=rfl
@[simp] theorem a3r(m1 m2:M D):dz m1 m2 ρ=(m1.bind fun x=>m2.bind fun y=>ret (x,y)) ρ:=rfl
@[simp] theorem a1d(i:Nat)(m2:M D):bz i m2 ρ=((dj i).bind fun _=>m2.bind fun y=>(dj i).bind fun x=>ret (x,y)) ρ:=rfl
@[simp] theorem a7t(g:D->D->Option Rv)(m:M (D×D)):mOp g m ρ=(m.bind fun p=>lift (g p.1 p.2)) ρ:=rfl
@[simp] theorem a7s(g:D->Option D)(m:M D):mUn g m ρ=(m.bind fun d=>lift (g d)) ρ:=rfl
@[simp] theorem a6e(m1 m2:M D):mAnd m1 m2 ρ=(m1.bind fun d=>(lift (asB d)).bind fun k=>if k=true then m2 else ret (.bl false)) ρ:=rfl
@[simp] theorem a3o(m:M D):yc m ρ=(m.bind fun d=>lift (asB d)) ρ:=rfl
@[simp] theorem a1b(g:D->D->Option Rv)(m:M (D×D)):mz g m ρ=yc (mOp g m).d ρ:=rfl
@[simp] theorem a3s(m:M Bool):zy m ρ=(m.bind fun k=>ret (!k)) ρ:=rfl
@[simp] theorem a4a(m1 m2:M Bool):aql m1 m2 ρ=(m1.bind fun k=>if k=true then m2 else ret false) ρ:=rfl
@[simp] theorem a5x(m1 m2:M Bool):mOrB m1 m2 ρ=(m1.bind fun k=>if k=true then ret true else m2) ρ:=rfl
@[simp] theorem a7v(c:Prop)[Decidable c](m1 m2:M α):(if c then m1 else m2) ρ=if c then m1 ρ else m2 ρ:=by split <;> rfl
@[simp] theorem a6l(c:Prop)[Decidable c](m1 m2:Sd):(if c then m1 else m2) ρ=if c then m1 ρ else m2 ρ:=by split <;> rfl
@[simp] theorem a73(b:Bool):asB (.bl b)=some b:=rfl
@[simp] theorem a7k(b:Int):asI (.int b)=some b:=rfl
@[simp] theorem a6w(b:Bool):gNot (.bl b)=some (.bl (!b)):=rfl
@[simp] theorem a4c(b:Int):gNeg (.int b)=some (.int (-b)):=rfl
@[simp] theorem a4p(i j:Int):gAdd (.int i) (.int j)=some (.v (.int (i+j))):=rfl
@[simp] theorem a4n(l k:List D):gAdd (.tup l) (.tup k)=if l.length+k.length<=capS then some (.v (.tup (l++k))) else none:=rfl
@[simp] theorem a4o(l k:List D):gAdd (.lst l) (.lst k)=if l.length+k.length<=capS then some (.fr (l++k)) else none:=rfl
@[simp] theorem a4h(f:Int->Int->Option Int)(i j:Int):gInt f (.int i) (.int j)=(f i j).map fun k=>.v (.int k):=rfl
@[simp] theorem a68(i j:Int):fSub i j=some (i - j):=rfl
@[simp] theorem a4f(i j:Int):gMul (.int i) (.int j)=(fMul i j).map fun k=>.v (.int k):=rfl
@[simp] theorem a4d(l:List D)(k:Int):gMul (.tup l) (.int k)=if k=1 then some (.v (.tup l)) else if l≠[]/\2<=k/\k < 9223372036854775808/\l.length*k.toNat<=capS then some (.v (.tup (aF k.toNat l).flatten)) else none:=rfl
@[simp] theorem a4e(l:List D)(k:Int):gMul (.lst l) (.int k)=if k.natAbs < 9223372036854775808/\l.length*k.toNat<=capS then some (.fr (aF k.toNat l).flatten) else none:=rfl
@[simp] theorem a4m(f:Int->Int->Bool)(i j:Int):gCmp f (.int i) (.int j)=some (.v (.bl (f i j))):=rfl
@[simp] theorem a6b(t:Ty)(m:M D):mIsi t m ρ=(m.bind fun d=>ret (.bl (isTy t d))) ρ:=rfl
@[simp] theorem a1j(f g:Int->Int->Bool)(m1 m2 m3:M D):ajz f g m1 m2 m3 ρ=(m1.bind fun x=>m2.bind fun y=>match x,y with
 | .int i,.int j=>if f i j=true then m3.bind fun z=>match z with
  | .int k=>ret (.bl (g j k))
  | _=>lift none
  else ret (.bl false)
 | _,_=>lift none) ρ:=rfl
@[simp] theorem a5y:mNil ρ=some (.ok [],ρ):=rfl
@[simp] theorem a3x(m:M D)(ms:M (List D)):ak m ms ρ=(m.bind fun d=>ms.bind fun ds=>ret (d::ds)) ρ:=rfl
@[simp] theorem a1i(i:Nat)(ms:M (List D)):gw i ms ρ=((dj i).bind fun _=>ms.bind fun ds=>(dj i).bind fun d=>ret (d::ds)) ρ:=rfl
@[simp] theorem a5v(m:M (List D)):mTup m ρ=(m.bind fun ds=>lift (gTup ds)) ρ:=rfl
@[simp] theorem a6a(m:M (List D)):mLst m ρ=(m.bind fun ds=>lift (gLst ds)) ρ:=rfl
@[simp] theorem a3z(g:List D->Option Rv)(m:M (List D)):fu g m ρ=(m.bind fun ds=>lift (g ds)) ρ:=rfl
@[simp] theorem a7y(f:D->Option Rv)(d:D):g1 f [d]=f d:=rfl
@[simp] theorem a7x(f:D->D->Option Rv)(d d':D):g2 f [d,d']=f d d':=rfl
@[simp] theorem a2a(l:List D):itemsD (.tup l)=some l:=rfl
@[simp] theorem a2b(l:List D):itemsD (.lst l)=some l:=rfl
@[simp] theorem a2c(l:List D):itemsD (.kst l)=some l:=rfl
@[simp] theorem aav(l:List D):gAll (.lst l)=(abf l).map fun bs=>.v (.bl (bs.all id)):=rfl
@[simp] theorem a2k(i:Int):aup (.int i)=some (.v (.int i)):=rfl
@[simp] theorem a4i(i:Bool):aup (.bl i)=some (.v (.int (if i then 1 else 0))):=rfl
@[simp] theorem a6y(d:D)(k:Int):gIx d (.int k)=(itemsD d).bind fun l=>(atI l k).map fun x=>.v x:=rfl
@[simp] theorem a3w(i:Nat)(ml mh:M (Option Int)):ael i ml mh ρ=((dj i).bind fun _=>ml.bind fun lo=>mh.bind fun hi=>(dj i).bind fun d=>lift (gCut d lo hi)) ρ:=rfl
@[simp] theorem a3q(m:M D):adx m ρ=(m.bind fun d=>lift ((asI d).map some)) ρ:=rfl
@[simp] theorem a4j(l:List D)(lo hi:Option Int):gCut (.tup l) lo hi=some (.v (.tup (cutD l lo hi))):=rfl
@[simp] theorem a4k(l:List D)(lo hi:Option Int):gCut (.lst l) lo hi=some (.fr (cutD l lo hi)):=rfl
@[simp] theorem a4l(l:List D)(lo hi:Option Int):gCut (.kst l) lo hi=some (.fr (cutD l lo hi)):=rfl
@[simp] theorem a1e(m:M D):j6 m ρ=(m.bind fun d=>lift (itemsD d)) ρ:=rfl
@[simp] theorem a6d(g:α->Option β)(m:M α):mGet g m ρ=(m.bind fun ds=>lift (g ds)) ρ:=rfl
@[simp] theorem aat(j:Int):jr [.int j]=if j.natAbs < 4611686018427387904 then some (dg 0 j.toNat) else none:=rfl
@[simp] theorem ayh(i j:Int):aio (.int i) (.int j)=if 0 < j/\j < 1000000000000000000000000000000000000000000000000000000000000 then some (.v (.tup [.int (i / j),.int (i % j)])) else none:=rfl
@[simp] theorem a5z(i:Nat)(g:List D->List D->Option (D×List D))(ms:M (List D)):mMut i g ms ρ=((mOwn i).bind fun _=>ms.bind fun ds=>(mOwn i).bind fun l=>(lift (g l ds)).bind fun r=>(acl i r.2).bind fun _=>ret r.1) ρ:=rfl
@[simp] theorem alz(l:List D)(d:D):aau l [d]=if l.length < capS then some (.non,l++[d]) else none:=rfl
@[simp] theorem a3v:gm ρ=some (.ok [],ρ):=rfl
@[simp] theorem a1g(m:M D)(ms:M (List (Option D))):b8 m ms ρ=(m.bind fun d=>ms.bind fun ds=>ret (some d::ds)) ρ:=rfl
@[simp] theorem a1f(j:Nat)(ms:M (List (Option D))):dq j ms ρ=((dj j).bind fun _=>ms.bind fun ds=>ret (none::ds)) ρ:=rfl
@[simp] theorem a7u(f:Fd)(js:List (Option Nat))(ms:M (List (Option D))):mFn f js ms ρ=(ms.bind fun ds ρ=>if okJs ρ js=true then match f (lend ρ js ds) with
  | some (.ok r,ps)=>some (.ok r,putB ρ js ps)
  | some (.exc x,ps)=>some (.exc x,putB ρ js ps)
  | none=>none
 else none) ρ:=rfl
@[simp] theorem a3y(src:List (Option Nat))(mi:M (List D))(b:D->Ro->Option Ro)(mc:M Bool)(me:M D):rm src mi b mc me ρ=(mi.bind fun l ρ=>if okJs ρ src=true then match compD b mc me l [] (lend ρ src (src.map fun _=>none)) with
  | some (.ok ys,ps)=>if ys.length<=capS then some (.ok (.fr ys),putB ρ src ps) else none
  | some (.exc x,ps)=>some (.exc x,putB ρ src ps)
  | none=>none
 else none) ρ:=rfl
@[simp] theorem a3m:okJs ρ []=true:=rfl
@[simp] theorem a07(r:List (Option Nat)):okJs ρ (none::r)=okJs ρ r:=rfl
@[simp] theorem a06(j:Nat)(r:List (Option Nat)):okJs ρ (some j::r)=((match ρ[j]? with
  | some (.own _ _) => !r.contains (some j)
  | _=>true)&&okJs ρ r):=rfl
@[simp] theorem lend_eq(js:List (Option Nat))(ds:List (Option D)):lend ρ js ds=(mO js ds).mapIdx fun i p=>aj0 ρ i p.1 p.2:=rfl
@[simp] theorem aze(i j:Nat)(d:Option D):aj0 ρ i (some j) d=match ρ[j]? with
  | some (.val d)=>.val d
  | some (.own _ l)=>.own (some i) l
  | _=>.emp:=rfl
@[simp] theorem a6h(i:Nat)(d:D):aj0 ρ i none (some d)=.val d:=rfl
@[simp] theorem a6i(i:Nat):aj0 ρ i none none=.emp:=rfl
@[simp] theorem a5j(js:List (Option Nat))(ps:Ro):putB ρ js ps=ρ.mapIdx fun j s=>putS js ps j s:=rfl
@[simp] theorem a5i(js:List (Option Nat))(ps:Ro)(j:Nat)(s:Sl):putS js ps j s=match js.findIdx? (fun o=>o==some j) with
 | none=>s
 | some i=>match s with
  | .own t _=>match ps[i]? with
   | some (.own (some i') l')=>if i'=i then .own t l' else .emp
   | _=>.emp
  | s=>s:=rfl
@[simp] theorem anf(nl np:Nat)(g:Sd):fnD nl np g ρ=match g (ρ++aF (nl - np) .emp) with
 | some (.ret r,ρ)=>some (.ok r,ρ.take np)
 | some (.nx,ρ)=>some (.ok (.v .non),ρ.take np)
 | some (.exc x,ρ)=>some (.exc x,ρ.take np)
 | _=>none:=rfl
@[simp] theorem a71:dNx ρ=some (.nx,ρ):=rfl
@[simp] theorem a7c(g k:Sd):dSeq g k ρ=match g ρ with
 | some (.nx,ρ1)=>k ρ1
 | r=>r:=rfl
@[simp] theorem ayx(m:M α)(k:α->Sd):dM m k ρ=match m ρ with
 | some (.ok x,ρ1)=>k x ρ1
 | some (.exc x,ρ1)=>some (.exc x,ρ1)
 | none=>none:=rfl
@[simp] theorem a7d(m:M Rv):dRet m ρ=dM m (fun r ρ=>some (.ret r,ρ)) ρ:=rfl
@[simp] theorem a72(m:M Bool)(g k:Sd):dIf m g k ρ=dM m (fun z=>if z=true then g else k) ρ:=rfl
@[simp] theorem anm(m:M α):aer m ρ=dM m (fun _ ρ=>some (.nx,ρ)) ρ:=rfl
@[simp] theorem a7b(i:Nat)(m:M Rv):dSet i m ρ=dM m (fun r ρ=>some (.nx,cG ρ i r.sl)) ρ:=rfl
@[simp] theorem a7g(m:M D)(b:D->Ro->Option Ro):dAsg m b ρ=dM m (fun d ρ=>(b d ρ).map fun ρ'=>(.nx,ρ')) ρ:=rfl
@[simp] theorem a7a(i:Nat)(mi m:M D):dSub i mi m ρ=(dM m fun d=>dM (mOwn i) fun _=>dM mi fun k=>dM (mOwn i) fun l=>dM (lift ((asI k).bind (ixN l.length))) fun j=>dM (acl i (l.set j d)) fun _=>dNx) ρ:=rfl
@[simp] theorem a7f(f:Int->Int->Int)(i:Nat)(m:M D):dAug f i m ρ=(dM (mVar i) fun x=>dM m fun y=>dM (lift ((asI x).bind fun n=>(asI y).map fun k=>D.int (f n k))) fun z ρ=>some (.nx,cG ρ i (.val z))) ρ:=rfl
@[simp] theorem a7e(m:M (List D))(b:D->Ro->Option Ro)(g:Sd):dFor m b g ρ=dM m (forD b g) ρ:=rfl
@[simp] theorem uw(i:Nat)(d:D):bj i d ρ=some (cG ρ i (.val d)):=rfl
@[simp] theorem a7j:bNil [] ρ=some ρ:=rfl
@[simp] theorem a4r(b:D->Ro->Option Ro)(bs:List D->Ro->Option Ro)(d:D)(r:List D):jc b bs (d::r) ρ=(b d ρ).bind (bs r):=rfl
@[simp] theorem a7i(n:Nat)(bs:List D->Ro->Option Ro)(l:List D):bTup n bs (.tup l) ρ=if l.length=n then bs l ρ else none:=rfl
end
section
variable(c:Prop)[Decidable c](b:Bool)(ρ:Ro)
@[simp] theorem a6k:(if c then some (Out.ok (D.bl b),ρ) else some (Out.ok (D.bl false),ρ))=some (.ok (.bl (decide c&&b)),ρ):=by by_cases h:c <;> simp[h]
end
@[simp] theorem di{n:Nat}(h:n<=1000):n<=capS:=cM h (by decide)
theorem ay2:capS=16777216:=rfl
@[simp] theorem a6v(ds:List D):gTup ds=if ds.length<=capS then some (.tup ds) else none:=rfl
@[simp] theorem a6x(ds:List D):gLst ds=if ds.length<=capS then some (.fr ds) else none:=rfl
@[simp] theorem al8{α:Type}(l:List α)(f:α->Bool):abf (l.map fun d=>D.bl (f d))=some (l.map f):=by
 have:=uq (l.map f);rw[cA] at this;exact this
def ack(s:Sl):List D->Sl
 | []=>s
 | d::r=>ack (.val d) r
theorem ou{me:M D}{rest:Ro}{f:D->D}:∀{l:List D} {ys:List D} {s:Sl},(∀d∈l,me (.val d::rest)=some (.ok (f d),.val d::rest))->compD (bj 0) (ret true) me l ys (s::rest)=some (.ok (ys++l.map f),ack s l::rest)
 | [],ys,s,_=>by simp[compD,ack]
 | d::r,ys,s,h=>by
  have h1:=h d (aN ..);have ih:=ou (me:=me) (rest:=rest) (f:=f) (l:=r) (ys:=ys++[f d]) (s:=.val d) fun x hx=>h x (aK _ hx)
  simp[compD,h1,ih,ack]
@[simp] theorem a4q(b:D->Ro->Option Ro)(g:Sd)(ρ:Ro):forD b g [] ρ=some (.nx,ρ):=rfl
theorem jt(b:D->Ro->Option Ro)(g:Sd)(d:D)(ds:List D)(ρ:Ro):forD b g (d::ds) ρ=match b d ρ with
  | none=>none
  | some ρ1=>match g ρ1 with
   | some (.nx,ρ2)=>forD b g ds ρ2
   | some (.cont,ρ2)=>forD b g ds ρ2
   | some (.brk,ρ2)=>some (.nx,ρ2)
   | some (.ret r,ρ2)=>some (.ret r,ρ2)
   | some (.exc x,ρ2)=>some (.exc x,ρ2)
   | none=>none:=rfl
@[simp] theorem a67{α:Type}(p:α->Bool)(a:α)(l:List α):uQ p (a::l)=if p a=true then some 0 else (uQ p l).map (· + 1):=by
 rw[List.findIdx?_cons]
@[simp] theorem a7z{α:Type}(p:α->Bool):uQ p ([]:List α)=none:=rfl
theorem avf{l:List D}{k:Int}(h0:0<=k)(h1:k < (l.length:Int)):atI l k=some (l.getD k.toNat .non):=by
 have hk:k.toNat < l.length:=by omega
 have q:atI l ((k.toNat:Nat):Int)=some l[k.toNat]:=agv (aC hk);rw[show((k.toNat:Nat):Int)=k by omega] at q
 rw[q];simp[vG,aC hk]
theorem getD_mem{l:List D}{n:Nat}(h:n < l.length):l.getD n .non∈l:=by
 simp[vG,aC h]
theorem ars(ns:List Int)(lo hi:Option Int):∃ms:List Int,cutD (ns.map D.int) lo hi=ms.map D.int/\ms.length<=ns.length:=by
 refine⟨(ns.drop (HT.sIx ns.length 0 lo)).take (HT.sIx ns.length ns.length hi - HT.sIx ns.length 0 lo),?_,?_⟩
 ·unfold cutD;rw[aD,pA,pB]
 ·rw[fO,jD];omega
theorem afg{b:D->Ro->Option Ro}{g:Sd}(Inv:Nat->Ro->Prop):∀{l:List D} {ρ:Ro} (k:Nat),Inv k ρ->(∀i d ρ,l[i]? = some d->Inv (k+i) ρ->∃ρ1 ρ2,b d ρ=some ρ1/\(g ρ1=some (.nx,ρ2)∨g ρ1=some (.cont,ρ2))/\Inv (k+i+1) ρ2) ->
  ∃ρ',forD b g l ρ=some (.nx,ρ')/\Inv (k+l.length) ρ'
 | [],ρ,k,h0,_=>⟨ρ,rfl,h0⟩
 | d::r,ρ,k,h0,hs=>by
  obtain⟨ρ1,ρ2,e1,e2,h1⟩:=hs 0 d ρ rfl h0;obtain⟨ρ',e3,h3⟩:=afg (b:=b) (g:=g) Inv (l:=r) (ρ:=ρ2) (k+1) h1 fun i x ρ hx hi=>by
   have:=hs (i+1) x ρ (by simpa using hx) ((show k+(i+1)=k+1+i by omega)▸hi)
   have e:k+(i+1)+1=k+1+i+1:=by omega
   rw[e] at this;exact this
  refine⟨ρ',?_,?_⟩
  ·rw[jt,e1];rcases e2 with e2 | e2 <;> simp only[e2] <;> exact e3
  ·have e:k+(d::r).length=k+1+r.length:=by simp;omega
   rw[e];exact h3
theorem agr{b:D->Ro->Option Ro}{mc:M Bool}{me:M D}(Inv:Nat->List D->Ro->Prop):∀{l:List D} {ys:List D} {ρ:Ro} (k:Nat),Inv k ys ρ ->
  (∀i d ys ρ,l[i]? = some d->Inv (k+i) ys ρ->∃ρ1 ρ2 z,b d ρ=some ρ1/\mc ρ1=some (.ok z,ρ2)/\((z=false/\Inv (k+i+1) ys ρ2)∨(z=true/\∃y ρ3,me ρ2=some (.ok y,ρ3)/\Inv (k+i+1) (ys++[y]) ρ3))) ->
  ∃ys' ρ',compD b mc me l ys ρ=some (.ok ys',ρ')/\Inv (k+l.length) ys' ρ'
 | [],ys,ρ,k,h0,_=>⟨ys,ρ,rfl,h0⟩
 | d::r,ys,ρ,k,h0,hs=>by
  obtain⟨ρ1,ρ2,z,e1,e2,h1⟩:=hs 0 d ys ρ rfl h0;have nxt:∀{ys':List D} {ρ':Ro},Inv (k+0+1) ys' ρ'->∃ys2 ρ2,compD b mc me r ys' ρ'=some (.ok ys2,ρ2)/\Inv (k+1+r.length) ys2 ρ2:=fun{ys' ρ'} hi =>
   agr (b:=b) (mc:=mc) (me:=me) Inv (l:=r) (ys:=ys') (ρ:=ρ') (k+1) hi fun i x ys ρ hx hi=>by
    have:=hs (i+1) x ys ρ (by simpa using hx) ((show k+(i+1)=k+1+i by omega)▸hi)
    have e:k+(i+1)+1=k+1+i+1:=by omega
    rw[e] at this;exact this
  have el:k+(d::r).length=k+1+r.length:=by simp;omega
  rw[el];rcases h1 with⟨rfl,h1⟩ | ⟨rfl,y,ρ3,e3,h1⟩
  ·obtain⟨ys2,ρ4,e4,h4⟩:=nxt h1;exact⟨ys2,ρ4,by simp[compD,e1,e2,e4],h4⟩
  ·obtain⟨ys2,ρ4,e4,h4⟩:=nxt h1;exact⟨ys2,ρ4,by simp[compD,e1,e2,e3,e4],h4⟩
@[simp] theorem a6z(neg:Bool)(a b:Int):gEq neg (.int a) (.int b)=some (.v (.bl (if neg then !(a==b) else (a==b)))):=rfl
@[simp] theorem a7w(neg:Bool)(a b:Bool):gEq neg (.bl a) (.bl b)=some (.v (.bl (if neg then !(a==b) else (a==b)))):=rfl
section
variable{K:Fg9}{X:Cx}{e a b c:dZ}{es:List dZ}{pos p p2:Pos}
def qb:List D->Option (List Int)
 | []=>some []
 | .int i::r=>(qb r).map (i :: ·)
 | _::_=>none
theorem aap:∀{l:List D} {ns:List Int},qb l=some ns->l=ns.map D.int
 | [],_,h=>by cases h;rfl
 | .int b::r,bs,h=>by
  have h':(qb r).map (b :: ·)=some bs:=h;cases e:qb r with
  | none=>rw[e] at h';cases h'
  | some t =>
   rw[e] at h';cases h';rw[aap e];rfl
 | .non::_,_,h=>by cases h
 | .bl _::_,_,h=>by cases h
 | .str _::_,_,h=>by cases h
 | .tup _::_,_,h=>by cases h
 | .lst _::_,_,h=>by cases h
 | .kst _::_,_,h=>by cases h
 | .dct _::_,_,h=>by cases h
@[simp] theorem abw(ns:List Int):qb (ns.map D.int)=some ns:=by
 induction ns with
 | nil=>rfl
 | cons b r ih=>show(qb (r.map D.int)).map (b :: ·)=_;rw[ih];rfl
theorem awt{prog:bV}{w:dO}{A:dB}{E:aG->aH->Prop}{s:aH}{l:aY}{xs:Array (Int×Tok)}{Q:aG->aH->Prop}(hh:A.handled=none)(ht:s.heap.IsTuple l (lX xs))
  (h:∀h' tk t',(∀b o,s.heap.get? b=some o->h'.get? b=some o)->Q (.int (PySem.preSum (PySem.numAt xs) xs.size) t') { s with heap:=h',toks:=tk }):bL (bY prog w) A (call (.builtin "sum") [.ref l]) Q E s:=by
 have hlt:l < s.heap.objs.size:=by obtain⟨_,e,_⟩:=ht;exact aQ e
 refine PySem.call_sum_walkG (wpAny_pyIter_tuple ht ?_);refine⟨s.heap.objs.size,[s.heap.objs.size,l],[s.heap.objs.size],(lX xs).size,_,_,PySem.numAt xs,rfl,Walks.tuple (A:=A.in1) hh _ l (bG hlt) (lX xs),⟨⟨_,aU _ rfl,rfl,rfl⟩,Heap.IsTuple.push ht _⟩,fun b hb =>?_,fun _ _ z=>PySem.intItems_at z,fun h' tk t' hk =>?_⟩
 ·have hb:b=s.heap.objs.size∨b=l:=by simpa using hb
  rw[dW];rcases hb with rfl | rfl
  ·exact mF _
  ·exact iR hlt
 ·have:=h h' tk t' fun b o e=>hk b o (fun z=>by rw[bD] at z;exact absurd (aQ e) (by rw[z];exact jV _)) (aB _ e)
  simpa[lX] using this
def gSum:D->Option Rv
 | .lst l=>(qb l).map fun ns=>.v (.int ns.sum)
 | .tup l=>(qb l).map fun ns=>.v (.int ns.sum)
 | _=>none
theorem anu(hc:X.calm=true):CallD K X (.builtin "sum") (g1 gSum):=vz fun hk jv s σ0 H x u Q tg F ρ σ d r I ru G bd eg q=>by
 subst hk;cases d with
 | lst l =>
  have eg:(qb l).map (fun ns=>Rv.v (.int ns.sum))=some r:=eg
  cases e:qb l with
  | none=>rw[e] at eg;cases eg
  | some ns =>
   rw[e] at eg;cases eg;obtain⟨a,vs,rfl,ea,hl⟩:=bd.lst G.sub;rw[aap e] at hl;rw[hl.int_inv] at ea;cases ru;obtain⟨its,rv,pl,_⟩:=I.list (SqL.of ea);obtain⟨xs,hxs⟩:∃xs:Array (Int×Tok),its.toArray=lX xs:=(sS (intsAre_of rv)).items
   have hl':=pl.isList;rw[hxs] at hl';refine PySem.sum_intListG (I.ok.hd hc) hl' fun h' tk t' hk=>⟨.int ns.sum,H,I.kept hk,⟨t',?_⟩,Res.same G q (.int _)⟩
   have h1:numsOf its=ns:=(intsAre_of rv).numsOf;have h2:=vW xs;rw[<-hxs] at h2;have h3:xs.toList.map (·.1)=ns:=by
    rw[<-h2];exact h1
   rw[xU,jK (by simp),h3]
 | tup l =>
  have eg:(qb l).map (fun ns=>Rv.v (.int ns.sum))=some r:=eg
  cases e:qb l with
  | none=>rw[e] at eg;cases eg
  | some ns =>
   rw[e] at eg;cases eg;obtain⟨a,vs,rfl,ea,hl⟩:=bd.tup;rw[aap e] at hl;rw[hl.int_inv] at ea;cases ru;obtain⟨its,rv,pl,_⟩:=I.tuple (SqT.of (G.sub _ _ ea));obtain⟨xs,hxs⟩:∃xs:Array (Int×Tok),its.toArray=lX xs:=(sS (intsAre_of rv)).items
   have hl':s.heap.IsTuple a its.toArray:=pl;rw[hxs] at hl';refine awt (I.ok.hd hc) hl' fun h' tk t' hk=>⟨.int ns.sum,H,I.kept hk,⟨t',?_⟩,Res.same G q (.int _)⟩
   have h1:numsOf its=ns:=(intsAre_of rv).numsOf;have h2:=vW xs;rw[<-hxs] at h2;have h3:xs.toList.map (·.1)=ns:=by
    rw[<-h2];exact h1
   rw[xU,jK (by simp),h3]
 | _=>cases eg
def insI(x:Int):List Int->List Int
 | []=>[x]
 | y::r=>if x<=y then x::y::r else y::insI x r
def sortI:List Int->List Int
 | []=>[]
 | x::r=>insI x (sortI r)
theorem insI_perm(x:Int):∀l:List Int,(insI x l).Perm (x::l)
 | []=>.refl _
 | y::r=>by
  unfold insI;split
  ·exact .refl _
  ·exact((insI_perm x r).cons y).trans (.swap x y r)
theorem sortI_perm:∀l:List Int,(sortI l).Perm l
 | []=>.refl _
 | x::r=>(insI_perm x (sortI r)).trans ((sortI_perm r).cons x)
theorem agb(x:Int):∀{l:List Int},l.Pairwise (· <= ·)->(insI x l).Pairwise (· <= ·)
 | [],_=>by simp[insI]
 | y::r,h=>by
  unfold insI;rw[bW] at h;split
  ·rename_i hxy;rw[bW,bW];refine⟨fun z hz =>?_,h⟩
   rcases aZ.mp hz with rfl | hz
   ·exact hxy
   ·exact Int.le_trans hxy (h.1 z hz)
  ·rename_i hxy;rw[bW];refine⟨fun z hz =>?_,agb x h.2⟩
   rcases aZ.mp ((insI_perm x r).mem_iff.mp hz) with rfl | hz
   ·omega
   ·exact h.1 z hz
theorem abh:∀l:List Int,(sortI l).Pairwise (· <= ·)
 | []=>.nil
 | x::r=>agb x (abh r)
theorem ag2:∀{l k:List Int},l.Perm k->l.Pairwise (· <= ·)->k.Pairwise (· <= ·)->l=k
 | [],k,h,_,_=>h.nil_eq
 | x::r,[],h,_,_=>absurd h.length_eq (by simp)
 | x::r,y::t,h,hl,hk=>by
  rw[bW] at hl hk;have e:x=y:=by
   have h1:x∈y::t:=h.mem_iff.mp (aN ..);have h2:y∈x::r:=h.mem_iff.mpr (aN ..);rcases aZ.mp h1 with h1 | h1
   ·exact h1
   ·rcases aZ.mp h2 with h2 | h2
    ·exact h2.symm
    ·have a:=hk.1 x h1;have b:=hl.1 y h2;omega
  subst e;rw[ag2 ((tU x).mp h) hl.2 hk.2]
theorem amm{l k:List Int}(h:l.Perm k)(hs:l.Pairwise (· <= ·)):l=sortI k:=ag2 (h.trans (sortI_perm k).symm) hs (abh k)
theorem abg:∀{ns:List Int} {us:List aG},mG us ns->Vals (ns.map V.int) us
 | _,_,.nil=>.nil
 | _,_,.cons n t h=>.cons ⟨t,rfl⟩ (abg h)
def ain:D->Option Rv
 | .lst l=>(qb l).bind fun ns=>if ns.length < 64 then some (.fr ((sortI ns).map D.int)) else none
 | _=>none
theorem ar0:CallD K X (.builtin "sorted") (g1 ain):=vz fun hk jv s σ0 H x u Q tg F ρ σ d r I ru G bd eg q=>by
 subst hk;cases d with
 | lst l =>
  have eg:(qb l).bind (fun ns=>if ns.length < 64 then some (Rv.fr ((sortI ns).map D.int)) else none)=some r:=eg
  cases e:qb l with
  | none=>rw[e] at eg;cases eg
  | some ns =>
   rw[e] at eg;have eg:(if ns.length < 64 then some (Rv.fr ((sortI ns).map D.int)) else none)=some r:=eg
   split at eg
   ·rename_i h64;cases eg;obtain⟨a,vs,rfl,ea,hl⟩:=bd.lst G.sub;rw[aap e] at hl;rw[hl.int_inv] at ea;cases ru;obtain⟨its,rv,pl,_⟩:=I.list (SqL.of ea);have hlen:=rv.length;rw[aD] at hlen;refine PyProof.Rows.sorted_ints pl.isList (intsAre_of rv) (by omega) fun out ns' i1 hp hs =>?_
    have e':=amm hp hs;subst e';obtain⟨ep,eo⟩:=kW s.heap its out;have hn:H (s.heap.objs.size+1)=none:=I.hok.fresh (gM _);refine⟨.ref (s.heap.objs.size+1),upd H (s.heap.objs.size+1) (.lst ((sortI ns).map V.int)),?_,rfl,Res.lst G q (ad0 _) hn⟩;refine I.laid (t':=s.toks) (fun b u e=>kE e) (gM _) ?_
    refine⟨?_,out.toList,ep,abg i1,by simpa using eo⟩
    rw[aD,(sortI_perm ns).length_eq];exact jR (abi (by omega))
   ·cases eg
 | _=>cases eg
end
section
variable{K:Fg9}{X:Cx}{e a b c:dZ}{es:List dZ}{pos p p2:Pos}
def ad4(lt:Int->Int->Bool):List Int->Int
 | []=>0
 | x::r=>r.foldl (fun m y=>if lt y m=true then y else m) x
theorem asf(lt:Int->Int->Bool)(ns:List Int):∀k,k < ns.length->qQ (fun i j=>lt (ns.getD i 0) (ns.getD j 0)) k<=k/\ns.getD (qQ (fun i j=>lt (ns.getD i 0) (ns.getD j 0)) k) 0=ad4 lt (ns.take (k+1))
 | 0,h=>by
  cases ns with
  | nil=>simp at h
  | cons x r=>exact⟨Nat.le_refl _,rfl⟩
 | k+1,h=>by
  obtain⟨h1,h2⟩:=asf lt ns k (by omega)
  have ht:ns.take (k+1+1)=ns.take (k+1)++[ns.getD (k+1) 0]:=by
   rw[List.take_add_one,aC h];simp[vG,aC h]
  have hb:ad4 lt (ns.take (k+1+1))=if lt (ns.getD (k+1) 0) (ad4 lt (ns.take (k+1)))=true then ns.getD (k+1) 0 else ad4 lt (ns.take (k+1)):=by
   rw[ht];cases ns with
   | nil=>simp at h
   | cons x r=>simp[ad4,wV]
  have ha:qQ (fun i j=>lt (ns.getD i 0) (ns.getD j 0)) (k+1)=if lt (ns.getD (k+1) 0) (ns.getD (qQ (fun i j=>lt (ns.getD i 0) (ns.getD j 0)) k) 0)=true then k+1 else qQ (fun i j=>lt (ns.getD i 0) (ns.getD j 0)) k:=rfl
  rw[hb,<-h2,ha]
  by_cases hc:lt (ns.getD (k+1) 0) (ns.getD (qQ (fun i j=>lt (ns.getD i 0) (ns.getD j 0)) k) 0)=true
  ·rw[if_pos hc,if_pos hc];exact⟨Nat.le_refl _,rfl⟩
  ·rw[if_neg hc,if_neg hc];exact⟨by omega,rfl⟩
theorem avb(lt:Int->Int->Bool)(ns:List Int)(h:ns≠[]):qQ (fun i j=>lt (ns.getD i 0) (ns.getD j 0)) (ns.length - 1) < ns.length/\ns.getD (qQ (fun i j=>lt (ns.getD i 0) (ns.getD j 0)) (ns.length - 1)) 0=ad4 lt ns:=by
 have hl:0 < ns.length:=mW.mpr h;obtain⟨h1,h2⟩:=asf lt ns (ns.length - 1) (by omega)
 refine⟨by omega,?_⟩
 rw[h2,show ns.length - 1+1=ns.length by omega,pJ]
def a2m(lt:Int->Int->Bool):D->Option Rv
 | .lst l=>(qb l).bind fun ns=>if ns=[] then none else some (.v (.int (ad4 lt ns)))
 | .tup l=>(qb l).bind fun ns=>if ns=[] then none else some (.v (.int (ad4 lt ns)))
 | _=>none
theorem aly{lt:Int->Int->Bool}{d:D}{r:Rv}(h:a2m lt d=some r):∃ns:List Int,ns≠[]/\r=.v (.int (ad4 lt ns))/\(d=.lst (ns.map D.int)∨d=.tup (ns.map D.int)):=by
 have go:∀l,(qb l).bind (fun ns=>if ns=[] then none else some (Rv.v (.int (ad4 lt ns))))=some r->∃ns:List Int,ns≠[]/\r=.v (.int (ad4 lt ns))/\l=ns.map D.int:=fun l h=>by
  cases e:qb l with
  | none=>rw[e] at h;cases h
  | some ns =>
   rw[e] at h;have h:(if ns=[] then none else some (Rv.v (.int (ad4 lt ns))))=some r:=h
   split at h
   ·cases h
   ·rename_i hn;cases h;exact⟨ns,hn,rfl,aap e⟩
 cases d with
 | lst l=>obtain⟨ns,h1,h2,rfl⟩:=go l h;exact⟨ns,h1,h2,.inl rfl⟩
 | tup l=>obtain⟨ns,h1,h2,rfl⟩:=go l h;exact⟨ns,h1,h2,.inr rfl⟩
 | _=>cases h
theorem af9{ns:List Int}{its:List aG}(rv:Vals (ns.map V.int) its)(i:Nat)(v:aG)(h:its.toArray[i]? = some v):∃t,v=.int (ns.getD i 0) t:=by
 have h:its[i]? = some v:=by simpa using h
 have hi:i < its.length:=(aM.mp h).1;have hl:=rv.length;rw[aD] at hl;have hi':i < ns.length:=by omega
 obtain⟨u,hu,t,rfl⟩:=rv.get (i:=i) (x:=V.int ns[i]) (by rw[bK,aC hi'];rfl)
 rw[h] at hu;cases hu;exact⟨t,by simp[vG,aC hi']⟩
def ayf:D->Option Rv:=a2m fun i j=>decide (i < j)
theorem ayz(hc:X.calm=true):CallD K X (.builtin "min") (g1 ayf):=vz fun hk jv s σ0 H x u Q tg F ρ σ d r I ru G bd eg q=>by
 subst hk;obtain⟨ns,hn,rfl,hd⟩:=aly eg;have q':=Res.same G q (.int _);obtain⟨hb1,hb2⟩:=avb (fun i j=>decide (i < j)) ns hn
 have fin:∀{its:List aG} (rv:Vals (ns.map V.int) its) {v:aG} {h':fD} {tk:Nat},its.toArray[qQ (fun i j=>decide (ns.getD i 0 < ns.getD j 0)) (its.toArray.size - 1)]? = some v->(∀b o,s.heap.get? b=some o->h'.get? b=some o)->EP X jv σ0 Q v { s with heap:=h',toks:=tk }:=fun{its} rv {v h' tk} hv hk=>by
  have hl:=rv.length;rw[aD] at hl;rw[aL,<-hl] at hv;obtain⟨t,rfl⟩:=af9 rv _ v hv;exact⟨.int (ad4 (fun i j=>decide (i < j)) ns),H,I.kept hk,⟨t,by rw[hb2]⟩,q'⟩
 rcases hd with rfl | rfl
 ·obtain⟨a,vs,rfl,ea,hl⟩:=bd.lst G.sub;rw[hl.int_inv] at ea;cases ru;obtain⟨its,rv,pl,_⟩:=I.list (SqL.of ea);have hl':=pl.isList;have hlt:a < s.heap.objs.size:=by obtain⟨_,e,_⟩:=hl';exact aQ e
  have hlen:=rv.length;rw[aD] at hlen;refine call_min_walk (wpAny_pyIter_list hl' ⟨s.heap.objs.size,[s.heap.objs.size,a],[s.heap.objs.size],its.toArray.size,_,_,_,rfl,wI (A:=X.A.in1) (I.ok.hd hc) _ a (bG hlt) its.toArray,
   ⟨⟨_,aU _ rfl,rfl,rfl⟩,hl'.push _⟩,fun b hb =>?_,?_,yU (fun i=>ns.getD i 0) (fun i v=>af9 rv i v),fun v h' tk hP hk=>fin rv hP (uU hk)⟩)
  ·have hs:∀o:Obj,(s.heap.push o).objs.size=s.heap.objs.size+1:=fun o=>dW ..
   show b < (s.heap.push _).objs.size;rw[hs];rcases aZ.mp hb with hb | hb
   ·exact hb▸Nat.lt_succ_self _
   ·have hb:b=a:=by simpa using hb
    exact hb▸Nat.lt_succ_of_lt hlt
  ·rw[aL,<-hlen];exact mW.mpr hn
 ·obtain⟨a,vs,rfl,ea,hl⟩:=bd.tup;rw[hl.int_inv] at ea;cases ru;obtain⟨its,rv,pl,_⟩:=I.tuple (SqT.of (G.sub _ _ ea));have hlt:a < s.heap.objs.size:=by obtain⟨_,e,_⟩:=pl;exact aQ e
  have hlen:=rv.length;rw[aD] at hlen;refine call_min_walk (wpAny_pyIter_tuple pl ⟨s.heap.objs.size,[s.heap.objs.size,a],[s.heap.objs.size],its.toArray.size,_,_,_,rfl,Walks.tuple (A:=X.A.in1) (I.ok.hd hc) _ a (bG hlt) its.toArray,
   ⟨⟨_,aU _ rfl,rfl,rfl⟩,pl.push _⟩,fun b hb =>?_,?_,yU (fun i=>ns.getD i 0) (fun i v=>af9 rv i v),fun v h' tk hP hk=>fin rv hP (uU hk)⟩)
  ·have hs:∀o:Obj,(s.heap.push o).objs.size=s.heap.objs.size+1:=fun o=>dW ..
   show b < (s.heap.push _).objs.size;rw[hs];rcases aZ.mp hb with hb | hb
   ·exact hb▸Nat.lt_succ_self _
   ·have hb:b=a:=by simpa using hb
    exact hb▸Nat.lt_succ_of_lt hlt
  ·rw[aL,<-hlen];exact mW.mpr hn
end
section
variable{K:Fg9}{X:Cx}{e a b c:dZ}{es:List dZ}{pos p p2:Pos}
def rmOf(K:Fg9)(g:D->List D->Option D):V->List V->Hp->VK->Prop:=fun x vs H Q=>∃F d ds r,Same F H/\Bor K F H d x/\IsL K F ds vs/\g d ds=some r/\∀v,Is K F r v->Q v H
def ax3(i:Nat)(g:D->List D->Option D)(ms:M (List D)):M D:=(dj i).bind fun d0=>(lift (match d0 with
 | .lst _=>some ()
 | _=>none)).bind fun _=>ms.bind fun ds=>(dj i).bind fun d=>lift (g d ds)
theorem ayq{i:Nat}{name:Str}{id:String}{g:D->List D->Option D}{ms:M (List D)}{apos cpos:Pos}(slot:Slot "list" name id)(hty:typeOf (.builtin id)=pure (.type "method_descriptor"))(hm:X.K=K->MtR X id (rmOf K g))(ho:PE X a (tVar i))(ha:ED K X (e::es) ms)
  (hbase:attributeBase a name X.env (eval a X.env)=eval a X.env:=by rfl)
  (hfew:((iZ cpos (aX (e::es) X.env)).all (fun x => !x.1)&&(backToKw cpos (keywordEach [] X.env)).all (fun x=>x.1.isSome)
   && decide ((e::es).length+([]:List pF).length+(if ([]:List pF).isEmpty then 0 else 1) < 30))=true:=by rfl)
  (hline:(apos.endLine==cpos.line)=true:=by rfl) (hs:aX (e::es) X.env=(false,eval e X.env)::aX es X.env:=by rfl) (hplain:(iZ cpos (aX es X.env)).any (·.1)=false:=by rfl) :
  EV K X (.Call (.Attribute a name apos) (e::es) [] cpos) (ax3 i g ms):=EV.mk fun hk=>PE.imp (ap9 lG slot hty (hm hk) ho (ha hk) hbase hfew hline hs hplain) fun σ H Q z9=>by
 obtain⟨tg,F,ρ,d,ρ',G,em,q⟩:=z9;obtain⟨d0,ρ0,e0,em1⟩:=bc em;obtain⟨u0,ρ9,e9,em2⟩:=bc em1;obtain⟨ds,ρ1,e1,em3⟩:=bc em2;obtain⟨d1,ρ2,e2,em4⟩:=bc em3;obtain⟨e3,rfl⟩:=gn em4;obtain⟨e9,rfl⟩:=gn e9;obtain⟨rfl,v,hv,bv⟩:=rn G e0;have ty:∃b,v=.ref b/\∃xs,SqL X.K H b xs:=by
  cases d0 with
  | lst l =>
   obtain⟨b,xs,rfl,hb,_⟩:=bv.lst G.sub;exact⟨b,rfl,xs,SqL.of hb⟩
  | _=>cases e9
 obtain⟨b,rfl,hty'⟩:=ty;refine⟨_,hv,.inl ⟨rfl,hty'⟩,tg,F,_,ds,ρ1,G,e1,fun vs H1 F1 G1 x1 r1 =>?_⟩
 obtain⟨rfl,v',hv',b'⟩:=rn G1 e2;rw[hv] at hv';cases hv';exact⟨F1,d1,ds,d,G1.sub,b',r1,e3,fun w iw=>q w H1 F1 G1 x1 iw⟩
def ara(d:D)(ds:List D):Option D:=match d,ds with
 | .lst l,[x]=>if okD 30 x&&l.all (okD 30) then some (.int (l.countP fun y=>eqD y x)) else none
 | _,_=>none
theorem ab3{jv:List (aY×Obj)}{σ:L2.St}{F H:Hp}{s:aH}(I:Inv X jv σ H s)(g:Same F H){a:D}{n:Nat}:∀{ds:List D} {vs:List V} {us:List aG},IsL X.K F ds vs->ds.all (okD n)=true->Vals vs us ->
  us.countP (ada s.heap (toPy a))=ds.countP (fun y=>eqD y a)
 | _,_,_,.nil,_,r=>by cases r;rfl
 | _,_,_,.cons h t,k,r=>by
  rw[jY,aV] at k;cases r with
  | cons r1 r2 =>
   obtain⟨as,ra⟩:=yr I g h k.1 r1;obtain⟨c,p⟩:=aba _ _ k.1;rw[jE,jE,ab3 I g t k.2 r2,afh ra c];rfl
theorem at4(hu:X.A.units+64 < cLine):X.K=K->MtR X "list.count" (rmOf K ara):=fun hk=>by
 subst hk;intro jv s σ H x vs v us Q I rx rv z9;obtain⟨F,d,ds,r,g,bd,il,eg,q⟩:=z9
 match d,ds,eg with
 | .lst l,[y],eg =>
  have eg:(if okD 30 y&&l.all (okD 30) then some (D.int (l.countP fun z=>eqD z y)) else none)=some r:=eg
  split at eg
  ·rename_i ho;rw[aV] at ho;cases eg;cases il with
   | cons hy t =>
    cases t;obtain⟨u,rfl,ru⟩:=rv.one;obtain⟨p,ws,rfl,ea,hl⟩:=bd.lst g;cases rx;obtain⟨its,rw',pl,_⟩:=I.list (SqL.of ea);obtain⟨as,ra⟩:=yr I g hy ho.1 ru;obtain⟨_,z⟩:=aai I g (a:=y) hl ho.2 rw';obtain⟨⟨cls,dd,data,sl⟩,h1,hc,n,hd⟩:=pl.isList;simp only at hc hd;subst hc hd;refine jT uK ⟨_,h1,rfl⟩ PySem.F.entry_list_count (PySem.F.args_list_count_2 _ _) (SeqAt.list_countAt p its.toArray n dd sl u (ada s.heap (toPy y))) ⟨h1,fun w hw =>?_,?_⟩
    ·exact aag (A:=X.A) hu ra ho.1 z w (by simpa using hw)
    ·refine⟨.int (l.countP fun z=>eqD z y),H,I.tok _,⟨s.toks,?_⟩,q _ (.int _)⟩
     rw[ab3 I g (a:=y) hl ho.2 rw']
  ·cases eg
def aip(d:D)(ds:List D):Option D:=match d,ds with
 | .tup l,[x]=>if okD 30 x&&l.all (okD 30) then some (.int (l.countP fun y=>eqD y x)) else none
 | _,_=>none
theorem aqi(hu:X.A.units+64 < cLine):X.K=K->MtR X "tuple.count" (rmOf K aip):=fun hk=>by
 subst hk;intro jv s σ H x vs v us Q I rx rv z9;obtain⟨F,d,ds,r,g,bd,il,eg,q⟩:=z9
 match d,ds,eg with
 | .tup l,[y],eg =>
  have eg:(if okD 30 y&&l.all (okD 30) then some (D.int (l.countP fun z=>eqD z y)) else none)=some r:=eg
  split at eg
  ·rename_i ho;rw[aV] at ho;cases eg;cases il with
   | cons hy t =>
    cases t;obtain⟨u,rfl,ru⟩:=rv.one;obtain⟨p,ws,rfl,ea,hl⟩:=bd.tup;cases rx;obtain⟨its,rw',pl,_⟩:=I.tuple (SqT.of (g _ _ ea));obtain⟨as,ra⟩:=yr I g hy ho.1 ru;obtain⟨_,z⟩:=aai I g (a:=y) hl ho.2 rw';obtain⟨⟨cls,dd,data,sl⟩,h1,hc,n,hd⟩:=pl;simp only at hc hd;subst hc hd;refine jT uC ⟨_,h1,rfl⟩ PySem.F.entry_tuple_count (PySem.F.args_tuple_count_2 _ _) (SeqAt.tuple_countAt p its.toArray n dd sl u (ada s.heap (toPy y))) ⟨h1,fun w hw =>?_,?_⟩
    ·exact aag (A:=X.A) hu ra ho.1 z w (by simpa using hw)
    ·refine⟨.int (l.countP fun z=>eqD z y),H,I.tok _,⟨s.toks,?_⟩,q _ (.int _)⟩
     rw[ab3 I g (a:=y) hl ho.2 rw']
  ·cases eg
theorem PE.or{t1 t2:TE}(h1:PE X e t1)(h2:PE X e t2):PE X e fun σ H Q=>t1 σ H Q∨t2 σ H Q:=fun jv s σ H Q I h=>h.elim (h1 jv s σ H Q I) (h2 jv s σ H Q I)
def agf(d:D)(ds:List D):Option D:=match d with
 | .lst _=>ara d ds
 | .tup _=>aip d ds
 | _=>none
def ag8(i:Nat)(ms:M (List D)):M D:=(dj i).bind fun d0=>ms.bind fun ds=>(dj i).bind fun d=>(lift (match d0,d with
 | .lst _,.lst _=>some ()
 | .tup _,.tup _=>some ()
 | _,_=>none)).bind fun _=>lift (agf d ds)
theorem au4{d0 d:D}{u:Unit} (h:(match d0,d with
 | .lst _,.lst _=>some ()
 | .tup _,.tup _=>some ()
 | _,_=>none)=some u):(∃l l1,d0=.lst l/\d=.lst l1)∨∃l l1,d0=.tup l/\d=.tup l1:=by
 split at h
 ·exact .inl ⟨_,_,rfl,rfl⟩
 ·exact .inr ⟨_,_,rfl,rfl⟩
 ·cases h
theorem anh{i:Nat}{ms:M (List D)}{apos cpos:Pos}(hu:X.A.units+64 < cLine)(ho:PE X a (tVar i))(ha:ED K X (e::es) ms)
  (hbase:attributeBase a "count" X.env (eval a X.env)=eval a X.env:=by rfl)
  (hfew:((iZ cpos (aX (e::es) X.env)).all (fun x => !x.1)&&(backToKw cpos (keywordEach [] X.env)).all (fun x=>x.1.isSome)
   && decide ((e::es).length+([]:List pF).length+(if ([]:List pF).isEmpty then 0 else 1) < 30))=true:=by rfl)
  (hline:(apos.endLine==cpos.line)=true:=by rfl) (hs:aX (e::es) X.env=(false,eval e X.env)::aX es X.env:=by rfl) (hplain:(iZ cpos (aX es X.env)).any (·.1)=false:=by rfl) :
  EV K X (.Call (.Attribute a "count" apos) (e::es) [] cpos) (ag8 i ms):=EV.mk fun hk=>PE.imp (PE.or (ap9 lG uK PySem.F.type_list_count (at4 hu hk) ho (ha hk) hbase hfew hline hs hplain) (ap9 PySem.F.plainAttrs_tuple uC PySem.F.type_tuple_count (aqi hu hk) ho (ha hk) hbase hfew hline hs hplain)) fun σ H Q z9=>by
 obtain⟨tg,F,ρ,d,ρ',G,em,q⟩:=z9;obtain⟨d0,ρ0,e0,em1⟩:=bc em;obtain⟨ds,ρ1,e1,em3⟩:=bc em1;obtain⟨d1,ρ2,e2,em4⟩:=bc em3;obtain⟨u0,ρ9,e9,em5⟩:=bc em4;obtain⟨e3,rfl⟩:=gn em5;obtain⟨g9,rfl⟩:=gn e9;obtain⟨rfl,v,hv,bv⟩:=rn G e0;rcases au4 g9 with⟨l,l1,rfl,rfl⟩ | ⟨l,l1,rfl,rfl⟩
 ·obtain⟨b,xs,rfl,hb,_⟩:=bv.lst G.sub;refine .inl ⟨_,hv,.inl ⟨rfl,xs,SqL.of hb⟩,tg,F,_,ds,ρ1,G,e1,fun vs H1 F1 G1 x1 r1 =>?_⟩
  obtain⟨rfl,v',hv',b'⟩:=rn G1 e2;rw[hv] at hv';cases hv';exact⟨F1,.lst l1,ds,d,G1.sub,b',r1,e3,fun w iw=>q w H1 F1 G1 x1 iw⟩
 ·obtain⟨b,xs,rfl,hb,_⟩:=bv.tup;refine .inr ⟨_,hv,.inr (.inl ⟨rfl,.inr ⟨xs,G.sub _ _ hb⟩⟩),tg,F,_,ds,ρ1,G,e1,fun vs H1 F1 G1 x1 r1 =>?_⟩
  obtain⟨rfl,v',hv',b'⟩:=rn G1 e2;rw[hv] at hv';cases hv';exact⟨F1,.tup l1,ds,d,G1.sub,b',r1,e3,fun w iw=>q w H1 F1 G1 x1 iw⟩
def aq7(d:D)(ds:List D):Option D:=match d,ds with
 | .lst l,[x]=>if okD 30 x&&l.all (okD 30) then (l.findIdx? fun y=>eqD y x).map fun i=>.int i else none
 | _,_=>none
theorem anx{jv:List (aY×Obj)}{σ:L2.St}{F H:Hp}{s:aH}(I:Inv X jv σ H s)(g:Same F H){a:D}{n:Nat}{ds:List D}{vs:List V}{us:List aG}(il:IsL X.K F ds vs)(k:ds.all (okD n)=true)(rv:Vals vs us)(i:Nat)(hi:i < us.length)(hd:i < ds.length) :
  ada s.heap (toPy a) us[i]=eqD ds[i] a:=by
 obtain⟨v,hv,iv⟩:=il.get (i:=i) (aC hd);obtain⟨u,hu,ru⟩:=rv.get hv;rw[aC hi] at hu;cases hu;have ko:okD n ds[i]=true:=bA.mp k _ (cY hd);obtain⟨as,ra⟩:=yr I g iv ko ru;rw[afh ra (aba _ _ ko).1];rfl
theorem at3(hu:X.A.units+64 < cLine):X.K=K->MtR X "list.index" (rmOf K aq7):=fun hk=>by
 subst hk;intro jv s σ H x vs v us Q I rx rv z9;obtain⟨F,d,ds,r,g,bd,il,eg,q⟩:=z9
 match d,ds,eg with
 | .lst l,[y],eg =>
  have eg:(if okD 30 y&&l.all (okD 30) then (l.findIdx? fun z=>eqD z y).map (fun i=>D.int i) else none)=some r:=eg
  split at eg
  ·rename_i ho;rw[aV] at ho;cases ei:l.findIdx? (fun z=>eqD z y) with
   | none=>rw[ei] at eg;cases eg
   | some j =>
    rw[ei] at eg;cases eg;obtain⟨hj,hhit,hno⟩:=qX.mp ei;cases il with
    | cons hy t =>
     cases t;obtain⟨u,rfl,ru⟩:=rv.one;obtain⟨p,ws,rfl,ea,hl⟩:=bd.lst g;cases rx;obtain⟨its,rw',pl,hz⟩:=I.list (SqL.of ea);have l1:=hl.length;have l2:=rw'.length;rw[cF] at hz;obtain⟨as,ra⟩:=yr I g hy ho.1 ru;obtain⟨_,z⟩:=aai I g (a:=y) hl ho.2 rw';obtain⟨⟨cls,dd,data,sl⟩,h1,hc,n,hd⟩:=pl.isList;simp only at hc hd;subst hc hd;have hj':j < its.toArray.size:=by rw[aL];omega
     refine jT uJ ⟨_,h1,rfl⟩ PySem.F.entry_list_index (PySem.F.args_list_index_2 _ _) (SeqAt.list_indexAt p its.toArray n dd sl u (ada s.heap (toPy y)) j hj' (by omega) ?_ fun m hm hlt =>?_) ⟨h1,fun w hw =>?_,?_⟩
     ·have:=anx I g (a:=y) hl ho.2 rw' j (by omega) hj
      simpa[this] using hhit
     ·rw[aL] at hm;have:=anx I g (a:=y) hl ho.2 rw' m hm (by omega)
      have hn:=hno m hlt
      simpa[this] using hn
     ·exact aag (A:=X.A) hu ra ho.1 z w (by simpa using hw)
     ·exact⟨.int j,H,I.tok _,⟨_,rfl⟩,q _ (.int _)⟩
  ·cases eg
def insD(l:List D)(k:Int)(d:D):List D:=let j:=if k < 0 then (k+(l.length:Int)).toNat else min k.toNat l.length;l.take j++d::l.drop j
def insV(l:List V)(k:Int)(d:V):List V:=let j:=if k < 0 then (k+(l.length:Int)).toNat else min k.toNat l.length;l.take j++d::l.drop j
def ap2:V->List V->Hp->VK->Prop:=fun x vs H Q=>∃l xs k y,x=.ref l/\vs=[.int k,y]/\H l=some (.lst xs) /\ -(2 ^ 63)<=k/\k < 2 ^ 63/\xs.length < cL/\Q .non (upd H l (.lst (insV xs k y)))
theorem alr(l:List V)(k:Int)(d:V):(insV l k d).length=l.length+1:=by
 simp only[insV,aW,bJ,fO,jD];omega
theorem af3:MtR X "list.insert" ap2:=by
 intro jv s σ H x vs v us Q I rx rv h;obtain⟨l,xs,k,y,rfl,rfl,hH,k1,k2,hz,q⟩:=h;cases rx;obtain⟨u,w',rfl,⟨t,rfl⟩,r2⟩:=vals2 rv;obtain⟨z,its,n,r,hl,e⟩:=I.lstM hH;refine jT F.slot_list_insert ⟨_,e,rfl⟩ F.entry_list_insert (F.args_list_insert_3 _ _ _)
  (PySem.AutoListH.list_insert_list_int_val_1 l its.toArray n k t w' (by rw[fitsIndex_both k1 k2];decide) (by rw[aL];omega)) ⟨e,?_⟩
 refine⟨.non,_,I.lset (its':=its.take (if k < 0 then (k+(its.length:Int)).toNat else min k.toNat its.length)++w'::its.drop (if k < 0 then (k+(its.length:Int)).toNat else min k.toNat its.length)) (ys:=insV xs k y) hH e ?_ ?_ ?_,rfl,q⟩
 ·simp only[aL];generalize (if k < 0 then (k+(its.length:Int)).toNat else min k.toNat its.length)=j
  apply Array.ext';simp;exact jK (by simp)
 ·unfold insV;rw[hl];exact(r.take _).append (.cons r2 (r.drop _))
 ·rw[alr];omega
def ac9(l ds:List D):Option (D×List D):=match ds with
 | [.int k,d]=>if -9223372036854775808<=k/\k < 9223372036854775808/\l.length < capS then some (.non,insD l k d) else none
 | _=>none
theorem a2e{F:Hp}{l:List D}{vs:List V}{d:D}{v:V}(h:IsL K F l vs)(k:Int)(hd:Is K F d v):IsL K F (insD l k d) (insV vs k v):=by
 unfold insD insV;rw[h.length];exact(h.take _).append (.cons hd (h.drop _))
theorem aek:MutD K ap2 ac9:=by
 intro F H a xs vs l ds d l' Q g hh hc hl hd eg q
 match ds,eg with
 | [.int k,d1],eg =>
  have eg:(if -9223372036854775808<=k/\k < 9223372036854775808/\l.length < capS then some (D.non,insD l k d1) else none)=some (d,l'):=eg
  split at eg
  ·rename_i hz;cases eg;cases hd with
   | cons h t =>
    cases t with
    | cons h2 t =>
     cases t;cases h;exact⟨a,xs,k,_,rfl,rfl,hh,hz.1,hz.2.1,by rw[cF,<-hl.length];exact hz.2.2,q _ _ .non (a2e hl k h2)⟩
  ·cases eg
section
variable(ρ:Ro)
@[simp] theorem a3u(i:Nat)(g:D->List D->Option D)(ms:M (List D)):ax3 i g ms ρ=((dj i).bind fun d0=>(lift (match d0 with
 | .lst _=>some ()
 | _=>none)).bind fun _=>ms.bind fun ds=>(dj i).bind fun d=>lift (g d ds)) ρ:=rfl
@[simp] theorem azg(l:List D)(x:D):ara (.lst l) [x]=if okD 30 x&&l.all (okD 30) then some (.int (l.countP fun y=>eqD y x)) else none:=rfl
@[simp] theorem azf(l:List D)(x:D):aq7 (.lst l) [x]=if okD 30 x&&l.all (okD 30) then (l.findIdx? fun y=>eqD y x).map (fun i=>D.int i) else none:=rfl
@[simp] theorem alw(l:List D)(k:Int)(d:D):ac9 l [.int k,d]=if -9223372036854775808<=k/\k < 9223372036854775808/\l.length < capS then some (.non,insD l k d) else none:=rfl
end
end
end Dn
namespace En
open PySem PySem.Builtin
def It1(k:Bool)(h:fD)(it l:aY)(i:Nat):Prop:=cond k (h.IsTupleIter it l i) (h.IsListIter it l i)
def Sq1(k:Bool)(h:fD)(l:aY)(xs:Array aG):Prop:=cond k (h.IsTuple l xs) (h.IsList l xs)
section
variable{prog:bV}{w:dO}{A:dB}{E:aG->aH->Prop}{s:aH}
theorem axu{it t:aY}{i:Nat}{xs:Array aG}{x:aG}{Q:aG->aH->Prop}(h1:s.heap.IsTupleIter it t i)(h2:s.heap.IsTuple t xs)(hx:xs[i]? = some x)
  (q:∀h',h'.IsTupleIter it t (i+1)->gG it s.heap h'->Q x { s with heap:=h' }):bL (bY prog w) A (SmallTypes.nextOf (.ref it)) Q E s:=by
 obtain⟨o1,e1,c1,d1⟩:=id h1;obtain⟨o2,e2,_,k2,d2⟩:=h2;have nn:¬((cP t==cX)=true):=dI;unfold SmallTypes.nextOf;refine aA (wpAny_callSpecial?_slot (name:=nD "__next__") h1.typeIs kI (fW kI h1.typeIs tG ?_ (sU _)));refine aA (m:=field (.ref it) 0) (dF e1 d1 (x:=.ref t) rfl ?_);show bL _ _ (if (cP t==cX)=true then _ else (field (.ref it) 1 >>= _)) _ _ s;rw[if_neg nn]
 refine aA (m:=field (.ref it) 1) (dF e1 d1 (x:=.int i 0) rfl ?_);refine aA (m:=seqItems? (.ref t)) (iI e2 d2 ?_);simp only[fB,hx];refine aA (wpAny_setField e1 d1 (by simp) (aJ ⟨x,rfl,aJ (q _ ?_ (jC ..))⟩))
 refine⟨_,eX _ e1 (jP (eQ d1 _)),(rN ..).trans c1,?_⟩;rw[eQ d1];simp[mU]
theorem ayu{it t:aY}{i:Nat}{xs:Array aG}{Q:aG->aH->Prop}(hh:A.handled=none)(h1:s.heap.IsTupleIter it t i)(h2:s.heap.IsTuple t xs)(hx:xs[i]? = none)
  (q:∀h' e,Heap.ExtBut it s.heap h'->(∃o,h'.get? e=some o/\o.cls=.type "StopIteration")->E (.ref e) { s with heap:=h' }):bL (bY prog w) A (SmallTypes.nextOf (.ref it)) Q E s:=by
 obtain⟨o1,e1,c1,d1⟩:=id h1;obtain⟨o2,e2,_,k2,d2⟩:=h2;have nn:¬((cP t==cX)=true):=dI;unfold SmallTypes.nextOf;refine aA (wpAny_callSpecial?_slot (name:=nD "__next__") h1.typeIs kI (fW kI h1.typeIs tG ?_ (sU _)));refine aA (m:=field (.ref it) 0) (dF e1 d1 (x:=.ref t) rfl ?_);show bL _ _ (if (cP t==cX)=true then _ else (field (.ref it) 1 >>= _)) _ _ s;rw[if_neg nn]
 refine aA (m:=field (.ref it) 1) (dF e1 d1 (x:=.int i 0) rfl ?_);refine aA (m:=seqItems? (.ref t)) (iI e2 d2 ?_);simp only[fB,hx];refine aA (wpAny_rule (aA (wpAny_setField e1 d1 (by simp) ?_)))
 refine aA (m:=newExc (.type "StopIteration") []) ?_;simp only[newExc,newTuple];refine aA (dG ?_ (by size_fits))
 refine aA (m:=firstArgMember _ _) (wpAny_of_eq (a:=cX) (by first | rfl | (simp only[firstArgMember];rfl)) (dG ?_ (by size_fits)))
 simp only[raiseNew];refine aA (wpAny_handled ?_);first | rw[show A.in1.handled=none from hh] | rw[hh]
 refine aA (aJ (wpAny_throw (q _ _ ?_ ⟨_,aU _ rfl,rfl⟩)));exact((jC ..).extBut.push _).push _
theorem src(hh:A.handled=none)(k:Bool)(it l:aY)(ne:l≠it)(xs:Array aG):Draws prog w A it [it,l] xs.size (fun i v=>xs[i]? = some v) (fun i h=>It1 k h it l i/\Sq1 k h l xs):=by
 cases k with
 | false=>exact Draws.list hh it l ne xs
 | true=>exact{
   live:=fun _ _ z=>let ⟨o,e,_⟩:=z.1;⟨o,e⟩
   frame:=fun _ _ _ z kk=>⟨(let ⟨o,e,r⟩:=z.1;⟨o,kk it (by simp) o e,r⟩),(let ⟨o,e,r⟩:=z.2;⟨o,kk l (by simp) o e,r⟩)⟩
   item:=fun i s Q E hi z q=>axu z.1 z.2 (x:=xs[i]) (by simp[hi]) fun h' z' sb=>q _ h' s.toks (by simp[hi]) ⟨z',Heap.IsTuple.extBut z.2 sb.extBut ne⟩ sb
   done:=fun s Q E z q=>ayu hh z.1 z.2 (by simp) q }
theorem It1.at{k:Bool}{h h':fD}{it l:aY}{i:Nat}(x:It1 k h it l i)(e:∀o,h.get? it=some o->h'.get? it=some o):It1 k h' it l i:=by
 cases k <;> exact(let ⟨o,z,r⟩:=x;⟨o,e _ z,r⟩)
theorem It1.got{k:Bool}{h:fD}{it l:aY}{i:Nat}(x:It1 k h it l i):∃o,h.get? it=some o/\∀v,o.data≠.cell v:=by
 cases k <;> exact(let ⟨o,z,_,r⟩:=x;⟨o,z,fun v e=>by rw[r] at e;cases e⟩)
theorem Sq1.at{k:Bool}{h h':fD}{l:aY}{xs:Array aG}(x:Sq1 k h l xs)(e:∀o,h.get? l=some o->h'.get? l=some o):Sq1 k h' l xs:=by
 cases k <;> exact(let ⟨o,z,r⟩:=x;⟨o,e _ z,r⟩)
theorem Sq1.got{k:Bool}{h:fD}{l:aY}{xs:Array aG}(x:Sq1 k h l xs):∃o,h.get? l=some o:=by
 cases k <;> exact(let ⟨o,z,_⟩:=x;⟨o,z⟩)
theorem aud{k:Bool}{l:aY}{xs:Array aG}{Q:aG->aH->Prop}(h:Sq1 k s.heap l xs)
  (q:Q (.ref s.heap.objs.size) { s with heap:=s.heap.push { cls:=.type (cond k "tuple_iterator" "list_iterator"),data:=.fields #[.ref l,.int 0 0] } }):bL (bY prog w) A (pyIter (.ref l)) Q E s:=by
 cases k with
 | false=>exact wpAny_pyIter_list h q
 | true=>exact wpAny_pyIter_tuple h q
theorem alp{k:Bool}{h:fD}{l a:aY}(e:h.get? a=some { cls:=.type (cond k "tuple_iterator" "list_iterator"),data:=.fields #[.ref l,.int 0 0] }):It1 k h a l 0:=by
 cases k <;> exact⟨_,e,rfl,rfl⟩
end
set_option maxRecDepth 100000
abbrev eh1(k:Bool)(h:fD)(l:aY):fD:=h.push { cls:=.type (cond k "tuple_iterator" "list_iterator"),data:=.fields #[.ref l,.int 0 0] }
abbrev eh2(k:Bool)(h:fD)(l:aY):fD:=(eh1 k h l).push { cls:=.type "enumerate", data:=.fields #[.none,.bool false,.ref h.objs.size,mU 0,.none,.none] }
theorem ax1(k:Bool)(l:aY)(o:Obj)(xs:Array aG) :
  Meets (jL.«enumerate.__new__» ⟨[.type "enumerate", .ref l],[]⟩) (fun _ R s=>s.heap.get? l=some o/\Sq1 k s.heap l xs/\R (.ok (.ret (.ref (eh1 k s.heap l).objs.size))) { s with heap:=eh2 k s.heap l }) :=
 .of_wp fun prog w A R s h=>by
  obtain⟨hp,g,d,tk,os⟩:=s;obtain⟨ho,r1,h⟩:=h;have sb:=sub_enumerate;have r1:Sq1 k (vV ⟨hp,g,d,tk,os⟩) l xs:=r1;wp_walk using oN ho;refine wpAny_stack_any fun st=>aJ ?_
  split
  ·rename_i c _ _ _ _ _;cases(c==jG "enumerate") <;> (wp_walk using oN ho,aud r1;exact⟨_,rfl,h⟩)
  ·wp_walk using oN ho,aud r1;exact⟨_,rfl,h⟩
theorem ar9{prog:bV}{w:dO}{A:dB}{E:aG->aH->Prop}{s:aH}{k:Bool}{l:aY}{xs:Array aG}{Q:aG->aH->Prop}(s1:Sq1 k s.heap l xs)
  (q:∀h',IsEnum h' (s.heap.objs.size+1) s.heap.objs.size 0 .none->It1 k h' s.heap.objs.size l 0->h'.objs.size=s.heap.objs.size+2->(∀b o,s.heap.get? b=some o->h'.get? b=some o)->Q (.ref (s.heap.objs.size+1)) { s with heap:=h' }) :
  bL (bY prog w) A (call (.type "enumerate") [.ref l]) Q E s:=by
 obtain⟨o,ho⟩:=s1.got;refine callType_new F.called_enumerate (by decide) (F.typeCall_enumerate_1 _) (F.newCall_enumerate_1 _) (fun obj=>F.args_object_init_2 obj _) F.entry_enumerate_new (ax1 k l o xs) ⟨ho,s1,?_⟩
 have z1:(eh1 k s.heap l).objs.size=s.heap.objs.size+1:=dW ..
 have g2:(eh2 k s.heap l).get? (eh1 k s.heap l).objs.size=some _:=aU _ rfl;have g1:(eh2 k s.heap l).get? s.heap.objs.size=some _:=aB _ (aU _ rfl);rw[z1] at g2;show _/\_;rw[z1];exact⟨⟨_,g2,rfl⟩,q _ g2 (alp g1) (by rw[dW,z1]) fun b o x=>aB _ (aB _ x)⟩
end En
namespace En
open PySem PySem.Builtin
set_option maxRecDepth 100000
theorem awm(v1 v2:aG):checkTypeCall "zip" ⟨[v1,v2],[]⟩=pure ():=by kernel_rfl
theorem axz(v1 v2:aG):checkBuiltinCall "zip.__new__" ⟨[.type "zip", v1,v2],[]⟩=pure ():=by kernel_rfl
theorem azb(o v1 v2:aG):argsOk "object.__init__" ⟨[o,v1,v2],[]⟩:=by
 unfold argsOk;rw[signature?_of (id := "object.__init__") (n:=['_','_','t','i','n','i','_','_']) (o:=['t','c','e','j','b','o']) (by kernel_rfl) F.owner_object];kernel_rfl
abbrev Row2(h:fD)(T:aY)(v1 v2:aG):Prop:=h.get? T=some { cls:=.type "tuple", data:=.seq #[v1,v2] }
structure Apart2 (z TI TO i1 i2 l1 l2:aY):Prop where
 nTIz:TI≠z
 nTOz:TO≠z
 nTOTI:TO≠TI
 ni1z:i1≠z
 ni1TI:i1≠TI
 ni1TO:i1≠TO
 ni2z:i2≠z
 ni2TI:i2≠TI
 ni2TO:i2≠TO
 ni2i1:i2≠i1
 nl1z:l1≠z
 nl1TO:l1≠TO
 nl1i1:l1≠i1
 nl1i2:l1≠i2
 nl2z:l2≠z
 nl2TO:l2≠TO
 nl2i1:l2≠i1
 nl2i2:l2≠i2
section
variable{prog:bV}{w:dO}{A:dB}{E:aG->aH->Prop}{s:aH}
theorem az9{T:aY}{v1 v2 x:aG}{Q:Unit->aH->Prop}(h:Row2 s.heap T v1 v2)(q:∀h',Row2 h' T x v2->gG T s.heap h'->Q () { s with heap:=h' }):bL (bY prog w) A (updateSeq T (·.setIfInBounds 0 x)) Q E s:=by
 refine wpAny_updateSeq h rfl (q _ (show Heap.get? _ T=_ from ?_) (jC ..))
 rw[eX _ h rfl];simp[cB]
theorem az8{T:aY}{v1 v2 x:aG}{Q:Unit->aH->Prop}(h:Row2 s.heap T v1 v2)(q:∀h',Row2 h' T v1 x->gG T s.heap h'->Q () { s with heap:=h' }):bL (bY prog w) A (updateSeq T (·.setIfInBounds 1 x)) Q E s:=by
 refine wpAny_updateSeq h rfl (q _ (show Heap.get? _ T=_ from ?_) (jC ..))
 rw[eX _ h rfl];simp[cB]
theorem ao2{z TI TO i1 i2 l1 l2:aY}{k1 k2:Bool}{i:Nat}{x1 x2:Array aG}{v1 v2:aG}{Q:aG->aH->Prop}(hh:A.handled=none)(D:Apart2 z TI TO i1 i2 l1 l2)
  (hz:sZ s.heap z TI TO .none) (hI:Row2 s.heap TI (.ref i1) (.ref i2)) (hO:Row2 s.heap TO v1 v2) (h1:It1 k1 s.heap i1 l1 i) (s1:Sq1 k1 s.heap l1 x1) (h2:It1 k2 s.heap i2 l2 i) (s2:Sq1 k2 s.heap l2 x2) (b1:i < x1.size) (b2:i < x2.size)
  (q:∀h' tk y1 y2,x1[i]? = some y1->x2[i]? = some y2->sZ h' z TI TO (mU s.heap.objs.size)->Row2 h' TO y1 y2->It1 k1 h' i1 l1 (i+1)->It1 k2 h' i2 l2 (i+1)->Row2 h' s.heap.objs.size y1 y2->h'.objs.size=s.heap.objs.size+1 ->
   (∀c o,c≠z->c≠TO->c≠i1->c≠i2->s.heap.get? c=some o->h'.get? c=some o)->Q (.ref s.heap.objs.size) { s with heap:=h',toks:=tk }) :
  bL (bY prog w) A (jL.«zip.__next__» ⟨[.ref z],[]⟩) (fun fin s'=>∃v,fin=.done (.ret v)/\Q v s') E s:=by
 refine aA (m:=field (.ref z) 2) (dF hz rfl (x:=.bool false) rfl ?_);refine aA (m:=field (.ref z) 3) (dF hz rfl (x:=.ref TI) rfl ?_);refine aA (iI hI rfl ?_);refine aA (m:=SmallTypes.ownedTupleIsFree (.ref z)) ?_;unfold SmallTypes.ownedTupleIsFree;refine aA (dF hz rfl (x:=.none) rfl (aJ ?_));simp only[if_true];refine aA (wpAny_rule (aA (dF hz rfl (x:=.ref TO) rfl ?_)));refine aA (wpAny_setField_rec hz (by simp) fun g0 z0 a0 =>?_)
 have z0:sZ g0 z TI TO .ellipsis:=z0;refine aA ?_;simp only[xK,yC,pZ,tV];refine aA (aA (wpAny_onRaise ?_));refine aA (m:=SmallTypes.nextOf (.ref i1)) ((src hh k1 i1 l1 D.nl1i1 x1).item i _ _ _ b1 ⟨(h1.at fun _ e=>(a0.extBut _ _ D.ni1z e)),(s1.at fun _ e=>(a0.extBut _ _ D.nl1z e))⟩ fun y1 f1 t1 p1 q1 c1=>aJ ?_)
 have c1:gG i1 g0 f1:=c1;have P1:Row2 f1 TO v1 v2:=(c1.extBut _ _ D.ni1TO.symm (a0.extBut _ _ D.nTOz hO));refine aA (iI P1 rfl ?_);refine aA (az9 P1 fun g1 O1 a1 =>?_)
 have a1:gG TO f1 g1:=a1;refine aA (wpAny_letGo (aJ ?_));refine aA (aA (wpAny_onRaise ?_));refine aA (m:=SmallTypes.nextOf (.ref i2)) ((src hh k2 i2 l2 D.nl2i2 x2).item i _ _ _ b2 ⟨(h2.at fun _ e=>(a1.extBut _ _ D.ni2TO (c1.extBut _ _ D.ni2i1 (a0.extBut _ _ D.ni2z e)))),(s2.at fun _ e=>(a1.extBut _ _ D.nl2TO (c1.extBut _ _ D.nl2i1 (a0.extBut _ _ D.nl2z e))))⟩ fun y2 f2 t2 p2 q2 c2=>aJ ?_)
 have c2:gG i2 g1 f2:=c2;have P2:Row2 f2 TO y1 v2:=(c2.extBut _ _ D.ni2TO.symm O1);refine aA (iI P2 rfl ?_);refine aA (az8 P2 fun g2 O2 a2 =>?_)
 have a2:gG TO f2 g2:=a2;refine aA (wpAny_letGo (aJ (aJ ?_)));refine aA (iI O2 rfl (aA (wpAny_newTuple ?_)));have sz:g2.objs.size=s.heap.objs.size:=by rw[a2.1,c2.1,a1.1,c1.1,a0.1]
 have zn:sZ g2 z TI TO .ellipsis:=(a2.extBut _ _ D.nTOz.symm (c2.extBut _ _ D.ni2z.symm (a1.extBut _ _ D.nTOz.symm (c1.extBut _ _ D.ni1z.symm z0))));have kn:∀c o,c≠z->c≠TO->c≠i1->c≠i2->s.heap.get? c=some o->g2.get? c=some o:=fun c o n0 n1 n2 n3 e=>(a2.extBut _ _ n1 (c2.extBut _ _ n3 (a1.extBut _ _ n1 (c1.extBut _ _ n2 (a0.extBut _ _ n0 e)))))
 have j1:It1 k1 g2 i1 l1 (i+1):=q1.1.at fun _ e=>(a2.extBut _ _ D.ni1TO (c2.extBut _ _ D.ni2i1.symm (a1.extBut _ _ D.ni1TO e)))
 have j2:It1 k2 g2 i2 l2 (i+1):=q2.1.at fun _ e=>(a2.extBut _ _ D.ni2TO e)
 have lz:z < g2.objs.size:=aQ zn;refine aA (m:=SmallTypes.ownedTupleHandOut (.ref z) (.ref g2.objs.size)) ?_;unfold SmallTypes.ownedTupleHandOut;have zp:sZ (g2.push { cls:=.type "tuple", data:=.seq #[y1,y2] }) z TI TO .ellipsis:=aB _ zn;refine aA (wpAny_setField_rec zp (by simp) fun e1 z1 b1' =>?_)
 have z1:sZ e1 z TI TO (mU g2.objs.size):=z1;refine wpAny_setField_rec z1 (by simp) fun e2 z2 b2' =>?_
 have z2:sZ e2 z TI TO (mU g2.objs.size):=z2;have up:∀c o,c≠z->g2.get? c=some o->e2.get? c=some o:=fun c o n1 e=>b2'.extBut _ _ n1 (b1'.extBut _ _ n1 (aB _ e))
 have t2:Row2 e2 g2.objs.size y1 y2:=b2'.extBut _ _ (jQ lz) (b1'.extBut _ _ (jQ lz) (aU _ rfl));have s2':e2.objs.size=g2.objs.size+1:=by rw[b2'.1,b1'.1,dW]
 rw[sz] at z2 t2 s2';refine aJ ⟨_,rfl,?_⟩;show Q (.ref g2.objs.size) _;rw[sz];exact q e2 _ y1 y2 p1 p2 z2 (up _ _ D.nTOz O2) (j1.at fun _ e=>up _ _ D.ni1z e) (j2.at fun _ e=>up _ _ D.ni2z e) t2 s2' fun c o n0 n1 n2 n3 e=>up c o n0 (kn c o n0 n1 n2 n3 e)
theorem asr{z TI TO i1 i2 l1 l2:aY}{k1:Bool}{x1:Array aG}{v1 v2:aG}{Q:Fin->aH->Prop}(hh:A.handled=none)(D:Apart2 z TI TO i1 i2 l1 l2)
  (hz:sZ s.heap z TI TO .none) (hI:Row2 s.heap TI (.ref i1) (.ref i2)) (hO:Row2 s.heap TO v1 v2) (h1:It1 k1 s.heap i1 l1 x1.size) (s1:Sq1 k1 s.heap l1 x1)
  (q:∀h' e,(∀c o,c≠z->c≠i1->s.heap.get? c=some o->h'.get? c=some o)->(∃o,h'.get? e=some o/\o.cls=.type "StopIteration")->E (.ref e) { s with heap:=h' }) :
  bL (bY prog w) A (jL.«zip.__next__» ⟨[.ref z],[]⟩) Q E s:=by
 refine aA (m:=field (.ref z) 2) (dF hz rfl (x:=.bool false) rfl ?_);refine aA (m:=field (.ref z) 3) (dF hz rfl (x:=.ref TI) rfl ?_);refine aA (iI hI rfl ?_);refine aA (m:=SmallTypes.ownedTupleIsFree (.ref z)) ?_;unfold SmallTypes.ownedTupleIsFree;refine aA (dF hz rfl (x:=.none) rfl (aJ ?_));simp only[if_true];refine aA (wpAny_rule (aA (dF hz rfl (x:=.ref TO) rfl ?_)));refine aA (wpAny_setField_rec hz (by simp) fun g0 z0 a0 =>?_)
 have z0:sZ g0 z TI TO .ellipsis:=z0;refine aA ?_;simp only[xK,yC,pZ,tV];refine aA (aA (wpAny_onRaise ?_));refine aA (m:=SmallTypes.nextOf (.ref i1)) ((src hh k1 i1 l1 D.nl1i1 x1).done _ _ _ ⟨(h1.at fun _ e=>a0.extBut _ _ D.ni1z e),(s1.at fun _ e=>a0.extBut _ _ D.nl1z e)⟩ fun f1 e c1 ⟨oe,he,ce⟩ =>?_)
 have zf:sZ f1 z TI TO .ellipsis:=c1 _ _ D.ni1z.symm z0;have ez:e≠z:=fun x=>by subst x;rw[zf] at he;cases he;simp at ce
 refine wpAny_setField_rec zf (by simp) fun f2 _ a1=>q f2 e (fun c o n1 n2 y=>a1.extBut _ _ n1 (c1 _ _ n2 (a0.extBut _ _ n1 y))) ⟨oe,a1.extBut _ _ ez he,ce⟩
abbrev ao4(h:fD)(k1 k2:Bool)(l1 l2:aY):fD:=h.push { cls:=.type (cond k1 "tuple_iterator" "list_iterator"),data:=.fields #[.ref l1,.int 0 0] }
abbrev asv(h:fD)(k1 k2:Bool)(l1 l2:aY):fD:=(ao4 h k1 k2 l1 l2).push { cls:=.type (cond k2 "tuple_iterator" "list_iterator"),data:=.fields #[.ref l2,.int 0 0] }
abbrev asu(h:fD)(k1 k2:Bool)(l1 l2:aY):fD:=(asv h k1 k2 l1 l2).push { cls:=.type "tuple", data:=.seq #[.ref h.objs.size,.ref (ao4 h k1 k2 l1 l2).objs.size] }
abbrev ass(h:fD)(k1 k2:Bool)(l1 l2:aY):fD:=(asu h k1 k2 l1 l2).push { cls:=.type "tuple", data:=.seq #[.none,.none] }
abbrev aky(h:fD)(k1 k2:Bool)(l1 l2:aY):fD:=(ass h k1 k2 l1 l2).push { cls:=.type "zip", data:=.fields #[.none,.bool false,.bool false,.ref (asv h k1 k2 l1 l2).objs.size,.ref (asu h k1 k2 l1 l2).objs.size] }
theorem ax0(k1 k2:Bool)(l1 l2:aY)(x1 x2:Array aG) :
  Meets (jL.«zip.__new__» ⟨[.type "zip", .ref l1,.ref l2],[]⟩) (fun _ R s=>Sq1 k1 s.heap l1 x1/\Sq1 k2 s.heap l2 x2/\R (.ok (.ret (.ref (ass s.heap k1 k2 l1 l2).objs.size))) { s with heap:=aky s.heap k1 k2 l1 l2 }) :=
 .of_wp fun prog w A R s h=>by
  obtain⟨hp,g,d,tk,os⟩:=s;obtain⟨s1,s2,h⟩:=h;have sb:=sub_zip;have r1:Sq1 k1 (vV ⟨hp,g,d,tk,os⟩) l1 x1:=s1.at fun _ e=>e
  have r2:Sq1 k2 (vV ⟨ao4 hp k1 k2 l1 l2,g,d,tk,os⟩) l2 x2:=s2.at fun _ e=>aB _ (e)
  wp_walk using aud r1,aud r2;exact⟨_,rfl,h⟩
theorem ar5{k1 k2:Bool}{l1 l2:aY}{x1 x2:Array aG}{Q:aG->aH->Prop}(s1:Sq1 k1 s.heap l1 x1)(s2:Sq1 k2 s.heap l2 x2)
  (q:∀h',sZ h' (s.heap.objs.size+4) (s.heap.objs.size+2) (s.heap.objs.size+3) .none->Row2 h' (s.heap.objs.size+2) (.ref s.heap.objs.size) (.ref (s.heap.objs.size+1))->Row2 h' (s.heap.objs.size+3) .none .none->It1 k1 h' s.heap.objs.size l1 0->It1 k2 h' (s.heap.objs.size+1) l2 0->h'.objs.size=s.heap.objs.size+5->(∀c o,s.heap.get? c=some o->h'.get? c=some o)->Q (.ref (s.heap.objs.size+4)) { s with heap:=h' }) :
  bL (bY prog w) A (call (.type "zip") [.ref l1,.ref l2]) Q E s:=by
 refine callType_new F.called_zip (by decide) (awm _ _) (axz _ _) (fun obj=>azb obj _ _) F.entry_zip_new (ax0 k1 k2 l1 l2 x1 x2) ⟨s1,s2,?_⟩
 have e1:(ao4 s.heap k1 k2 l1 l2).objs.size=s.heap.objs.size+1:=by rw[dW]
 have e2:(asv s.heap k1 k2 l1 l2).objs.size=s.heap.objs.size+2:=by rw[dW,e1]
 have eI:(asu s.heap k1 k2 l1 l2).objs.size=s.heap.objs.size+3:=by rw[dW,e2]
 have eO:(ass s.heap k1 k2 l1 l2).objs.size=s.heap.objs.size+4:=by rw[dW,eI]
 have eZ:(aky s.heap k1 k2 l1 l2).objs.size=s.heap.objs.size+5:=by rw[dW,eO]
 have gZ:(aky s.heap k1 k2 l1 l2).get? (ass s.heap k1 k2 l1 l2).objs.size=some _:=aU _ rfl;have gO:(aky s.heap k1 k2 l1 l2).get? (asu s.heap k1 k2 l1 l2).objs.size=some _:=aB _ (aU _ rfl);have gI:(aky s.heap k1 k2 l1 l2).get? (asv s.heap k1 k2 l1 l2).objs.size=some _:=aB _ (aB _ (aU _ rfl));have j1:(aky s.heap k1 k2 l1 l2).get? s.heap.objs.size=some _:=aB _ (aB _ (aB _ (aB _ (aU _ rfl))));have j2:(aky s.heap k1 k2 l1 l2).get? (ao4 s.heap k1 k2 l1 l2).objs.size=some _:=aB _ (aB _ (aB _ (aU _ rfl)));show _/\_;rw[e2,eI,eO] at gZ;rw[e1,e2] at gI;rw[eI] at gO;rw[e1] at j2;rw[eO];exact⟨⟨_,gZ,rfl⟩,q _ gZ gI gO (alp j1) (alp j2) eZ fun c o x=>aB _ (aB _ (aB _ (aB _ (aB _ (x)))))⟩
end
structure Apart3 (z TI TO i1 i2 i3 l1 l2 l3:aY):Prop where
 nTIz:TI≠z
 nTOz:TO≠z
 nTOTI:TO≠TI
 ni1z:i1≠z
 ni1TI:i1≠TI
 ni1TO:i1≠TO
 ni2z:i2≠z
 ni2TI:i2≠TI
 ni2TO:i2≠TO
 ni2i1:i2≠i1
 ni3z:i3≠z
 ni3TI:i3≠TI
 ni3TO:i3≠TO
 ni3i1:i3≠i1
 ni3i2:i3≠i2
 nl1z:l1≠z
 nl1TO:l1≠TO
 nl1i1:l1≠i1
 nl1i2:l1≠i2
 nl1i3:l1≠i3
 nl2z:l2≠z
 nl2TO:l2≠TO
 nl2i1:l2≠i1
 nl2i2:l2≠i2
 nl2i3:l2≠i3
 nl3z:l3≠z
 nl3TO:l3≠TO
 nl3i1:l3≠i1
 nl3i2:l3≠i2
 nl3i3:l3≠i3
section
variable{prog:bV}{w:dO}{A:dB}{E:aG->aH->Prop}{s:aH}
end
end En
namespace Mn
open L2 En
def SqK(k:Bool)(K:Fg9)(H:Hp)(a:aY)(xs:List V):Prop:=cond k (SqT K H a xs) (SqL K H a xs)
theorem afo{xs:List V}{us:List aG}(r:Vals xs us){i:Nat}{x:V}{u:aG}(h:xs[i]? = some x)(h':us.toArray[i]? = some u):RelV x u:=by
 obtain⟨u',e,z⟩:=r.get h;have:us[i]? = some u:=by simpa using h'
 rw[this] at e;cases e;exact z
section
variable{X:Cx}{jv:List (aY×Obj)}{σ:L2.St}{H:Hp}{s:aH}{h':fD}{a:aY}{xs ys:List V}{k:Bool}
theorem ae0(I:Inv X jv σ H s)(h:SqK k X.K H a xs):∃its:List aG,Vals xs its/\Sq1 k s.heap a its.toArray:=by
 cases k with
 | false =>
  obtain⟨its,r,p,_⟩:=I.list h;exact⟨its,r,p.isList⟩
 | true =>
  obtain⟨its,r,p,_⟩:=I.tuple h;exact⟨its,r,p⟩
theorem alq(I:Inv X jv σ H s)(h:SqK k X.K H a xs)(h2:SqK k X.K H a ys):xs=ys:=by
 cases k with
 | false=>exact I.list_inj h h2
 | true=>exact I.tuple_inj h h2
theorem aeo{t':Nat}{fp:List aY}(I:Inv X jv σ H s)(kk:∀b o,b∉fp->s.heap.get? b=some o->h'.get? b=some o)(hf:∀b∈fp,FpOk X jv H b):Inv X jv σ H { s with heap:=h',toks:=t' }:=by
 have nit:∀b u,H b=some u->b∉fp:=fun b u e z=>by rw[(hf b z).1] at e;cases e
 have nL:X.env.locals∉fp:=fun z=>(hf _ z).2.1 rfl
 refine I.step (g':=s.gens) (d':=s.drawn) (ch:=fp) (fun b hb=>⟨(hf b hb).2.2.2.1,(hf b hb).2.1,(hf b hb).2.2.2.2.1,(hf b hb).2.2.2.2.2⟩) (fun b o _ _ hc e _=>kk b o hc e) (fun b o _ _ hc e _=>⟨o.slots,kk b o hc e⟩) (fun _ _ _ _ n=>n)
  (fun b o hc e=>⟨o,kk b o hc e⟩) (fun _ _ e=>e) (fun _ _ _ e=>e) (fun b ps e=>⟨#[],by rw[e];simp⟩) (fun m hm =>?_) (fun b u e =>?_) I.bare
 ·obtain⟨o,es,ep,ho,r⟩:=hm;exact⟨o,es,ep,kk _ o nL ho,r⟩
 ·refine(I.hok b u e).stay (fun c v hc q=>kk c v ?_ q) (fun _ q=>q) fun _ _ q=>q
  rcases hc with z | z
  ·rw[z];exact nit b u e
  ·exact nit c _ z
theorem aq3{t':Nat}{fp:List aY}{vs:List V}{us:List aG}(I:Inv X jv σ H s)(kk:∀b o,b∉fp->s.heap.get? b=some o->h'.get? b=some o)(hf:∀b∈fp,FpOk X jv H b)(hb:∀b∈fp,b < s.heap.objs.size)
  (r:Vals vs us) (hz:vs.length<=cL) (ht:h'.get? s.heap.objs.size=some { cls:=.type "tuple", data:=.seq us.toArray }):Inv X jv σ (upd H s.heap.objs.size (.tup vs)) { s with heap:=h',toks:=t' }:=by
 have I1:=I.laid (h':=s.heap.push { cls:=.type "tuple", data:=.seq us.toArray }) (t':=s.toks) (a:=s.heap.objs.size) (o:=.tup vs) (fun b u e=>aB _ e) (aO _) ⟨hz,us,r,⟨_,aU _ rfl,rfl,rfl,_,rfl⟩⟩
 have k2:∀b o,b∉fp->(s.heap.push { cls:=.type "tuple", data:=.seq us.toArray }).get? b=some o->h'.get? b=some o:=fun b o hn e=>by
  rcases Heap.get?_push_cases e with⟨rfl,rfl⟩ | e
  ·exact ht
  ·exact kk b o hn e
 have f2:∀b∈fp,FpOk X jv (upd H s.heap.objs.size (.tup vs)) b:=fun b hb'=>by
  obtain⟨f0,f⟩:=hf b hb';exact⟨by rw[cj (bG (hb b hb'))];exact f0,f⟩
 have R:=aeo (t':=t') (h':=h') (fp:=fp) I1 k2 f2;exact R
end
theorem av1{k:Bool}{h:fD}{it a l:aY}{i:Nat}{xs:Array aG}(x:It1 k h it l i){k':Bool}(y:Sq1 k' h a xs):a≠it:=fun e=>by
 subst e;cases k <;> cases k' <;> exact(by
  obtain⟨o,e1,c1,_⟩:=x;obtain⟨o',e2,c2,_⟩:=y;rw[e1] at e2;cases e2;rw[c1] at c2;simp at c2)
theorem a5e{h:fD}{a b:aY}{o:Obj}{n:String}{k:Bool}{xs:Array aG}(e:h.get? b=some o)(c:o.cls=.type n)(hn:n ≠ "list" /\ n ≠ "tuple")(y:Sq1 k h a xs):a≠b:=fun z=>by
 subst z;cases k <;> exact(by
  obtain⟨o',e2,c2,_⟩:=y;rw[e] at e2;cases e2;rw[c] at c2;simp at c2
  first | exact hn.1 c2 | exact hn.2 c2)
def Ite(K:Fg9)(k:Bool)(a:aY):It :=
 ⟨fun i H=>∃xs x,SqK k K H a xs/\xs[i]? = some x,fun i H x H'=>∃q v,H q=none/\x=.ref q/\H'=upd H q (.tup [.int i,v])/\∀xs,SqK k K H a xs->xs[i]? = some v,fun i H=>∃xs,SqK k K H a xs/\xs.length=i⟩
theorem apd{P:bV}{w:dO}{K:Fg9}{elts:List dZ}{n:Nat}{pos:Pos}(k:Bool)(a e it:aY)(ne:e≠it) :
  Turn P w K (.Tuple elts n pos) (Ite K k a) [e,it] e (fun i h=>(∃old,IsEnum h e it i old)/\It1 k h it a i) where
 mem:=by simp
 obj:=fun i h st b hb=>by
  have hb:b=e∨b=it:=by simpa using hb
  rcases hb with rfl | rfl
  ·obtain⟨old,z⟩:=st.1;exact⟨_,z,fun v z=>by cases z⟩
  ·exact st.2.got
 keep:=fun i h h' st kk=>by
  obtain⟨⟨old,z⟩,y⟩:=st;exact⟨⟨old,kk e (by simp) _ z⟩,y.at fun o z=>kk it (by simp) o z⟩
 item:=by
  intro X hP hw hK hc i jv s σ H E I hf st hg;subst hP hw hK;obtain⟨⟨old,he⟩,hi⟩:=st;obtain⟨xs,x,hq,hx⟩:=hg;obtain⟨its,rv,sq⟩:=ae0 I hq;obtain⟨u,hu,ru⟩:=rv.get hx;have hlt:i < its.toArray.size:=by simpa using (aM.mp hu).1
  have nai:=av1 hi sq;have nae:a≠e:=a5e he rfl (by decide) sq
  have D:=En.src (prog:=X.prog) (w:=X.w) (A:=X.A.in1) (I.ok.hd hc) k it a nai its.toArray;refine wpAny_pyNext_enum_itemD D he ⟨hi,sq⟩ hlt ne (by simp[ne,nae.symm]) fun y g tk hy ho hs hT hz hk =>?_
  refine⟨_,rfl,wpAny_letOwnedTupleGo_enum ho fun g2 he2 sb =>?_⟩
  have ry:=afo rv hx hy;have lte:e < s.heap.objs.size:=aQ he;have lti:it < s.heap.objs.size:=by obtain⟨o,z,_⟩:=hi.got;exact aQ z
  have fr:H s.heap.objs.size=none:=I.hok.fresh (aO _);refine⟨.ref s.heap.objs.size,upd H s.heap.objs.size (.tup [.int i,x]),?_,rfl,⟨_,x,fr,rfl,rfl,fun ys hy=>by rw[alq I hy hq];exact hx⟩,⟨⟨_,he2⟩,hs.1.at fun o z=>sb.extBut _ _ ne.symm z⟩,fun b hb =>?_⟩
  ·refine aq3 (fp:=[e,it]) (us:=[.int i tk,y]) I (fun b o hn z =>?_) hf (fun b hb =>?_) (.cons ⟨tk,rfl⟩ (.cons ry .nil)) (by rw[cF];simp) (sb.extBut _ _ (jQ lte) hT)
   ·have h1:b≠e:=fun z=>hn (by simp[z])
    have h2:b≠it:=fun z=>hn (by simp[z])
    exact sb.extBut _ _ h1 (hk b o h1 h2 z)
   ·have hb:b=e∨b=it:=by simpa using hb
    rcases hb with rfl | rfl
    ·exact lte
    ·exact lti
  ·have hb':b=e∨b=it:=by simpa using hb
   rw[cj (by rcases hb' with rfl | rfl;exact bG lte;exact bG lti)]
   exact(hf b hb).1
 done:=by
  intro X hP hw hK hc i jv s σ H E I hf st hg;subst hP hw hK;obtain⟨⟨old,he⟩,hi⟩:=st;obtain⟨xs,hq,hx⟩:=hg;obtain⟨its,rv,sq⟩:=ae0 I hq;have hl:i=its.toArray.size:=by have:=rv.length;simp;omega
  subst hl;have D:=En.src (prog:=X.prog) (w:=X.w) (A:=X.A.in1) (I.ok.hd hc) k it a (av1 hi sq) its.toArray;refine wpAny_pyNext_enum_endD D he ⟨hi,sq⟩ fun g eb=>⟨rfl,aeo (t':=s.toks) (fp:=[e,it]) I (fun b o hn z=>eb b o (fun z=>hn (by simp[z])) z) hf⟩
 self:=fun _ _ _ _ _ st h=>let ⟨_,z⟩:=st.1;wpAny_pyIter_enum z h
theorem a2z:bT "zip" = some (.type "zip"):=by decide +kernel
section
variable{X:Cx}
def a6p(K:Fg9)(ta:TA):TI:=fun σ H R=>ta σ H fun vs H1=>∃a k,vs=[.ref a]/\(∃xs,SqK k K H1 a xs)/\R (Ite K k a) H1
theorem axf{a:dZ}{ta:TA}{p pos:Pos}{elts:List dZ}{n:Nat}{tp:Pos}(hg:Gl X "enumerate")(hm:X.mg "enumerate" = none)(ha:PA X [a] ta)(hs:aX [a] X.env=[(false,eval a X.env)]:=by rfl) :
  PI X (.Tuple elts n tp) (.Call (.Name "enumerate" p) [a] [] pos) (a6p X.K ta):=by
 intro jv s σ H R I h;refine Call_ (ahb I hg hm akq (jO (thn (ha pos jv s σ H _ I h) fun us s1 ⟨vs,H1,I1,r1,q1⟩ =>?_) hs rfl))
 obtain⟨b,k,rfl,⟨xs,hq⟩,q⟩:=q1;obtain⟨u,rfl,ru⟩:=vals1 r1;cases ru;obtain⟨its,rv,sq⟩:=ae0 I1 hq;refine ar9 sq fun g he hi hz kk=>wpAny_pyIter_enum he ?_
 have I2:Inv X jv σ H1 { s1 with heap:=g }:=I1.kept (t':=s1.toks) kk
 refine⟨_,[s1.heap.objs.size+1,s1.heap.objs.size],_,_,H1,rfl,I2,apd k b _ _ (Nat.succ_ne_self _),⟨⟨_,he⟩,hi⟩,fun c hc =>?_,q⟩
 have hc:c=s1.heap.objs.size+1∨c=s1.heap.objs.size:=by simpa using hc
 rcases hc with rfl | rfl
 ·exact I1.fpOk (gM _) (I1.hok.fresh (gM _))
 ·exact I1.fpOk (aO _) (I1.hok.fresh (aO _))
end
end Mn
namespace En
open PySem PySem.Builtin
theorem avx{prog:bV}{w:dO}{A:dB}{E:aG->aH->Prop}{s:aH}{z TI TO:aY}{f0:aG}{Q:Option aG->aH->Prop}(hz:sZ s.heap z TI TO f0)
  (h:bL (bY prog w) A.in1 (jL.«zip.__next__» ⟨[.ref z],[]⟩) (fun fin s'=>∃v,fin=.done (.ret v)/\Q (some v) s') (fun e s'=>∃a o,e=.ref a/\s'.heap.get? a=some o/\o.cls=.type "StopIteration" /\ Q none s') s) :
  bL (bY prog w) A (pyNext (.ref z)) Q E s:=by
 have tz:s.TypeIs (.ref z) "zip" := ⟨_,hz,rfl⟩;unfold pyNext;refine aA (wpAny_attempt (wpAny_callSpecial?_slot (name:=nD "__next__") tz yG (fW yG tz F.entry_zip_next (bC h (fun fin s' ⟨v,e,q⟩=>⟨v,e,aJ q⟩) fun e s' ⟨a,o,e1,e2,e3,q⟩ =>?_) (F.args_zip_next_1 _))))
 subst e1;exact aA (wpAny_isInstance (T := "StopIteration") (b:=true) ⟨o,e2,e3⟩ isSubtype_stop (aJ q))
end En
namespace Mn
open L2 En
def Itz2(K:Fg9)(k1 k2:Bool)(a1 a2:aY):It :=
 ⟨fun i H=>∃x1 x2 v1 v2,(SqK k1 K H a1 x1/\x1[i]? = some v1)/\(SqK k2 K H a2 x2/\x2[i]? = some v2),fun i H x H'=>∃q v1 v2,H q=none/\x=.ref q/\H'=upd H q (.tup [v1,v2])/\(∀xs,SqK k1 K H a1 xs->xs[i]? = some v1)/\(∀xs,SqK k2 K H a2 xs->xs[i]? = some v2),fun i H=>∃xs,SqK k1 K H a1 xs/\xs.length=i⟩
theorem apb{P:bV}{w:dO}{K:Fg9}{elts:List dZ}{n:Nat}{pos:Pos}(k1 k2:Bool)(a1 a2 z TI TO i1 i2:aY)(D:Apart2 z TI TO i1 i2 a1 a2) :
  Turn P w K (.Tuple elts n pos) (Itz2 K k1 k2 a1 a2) [z,TI,TO,i1,i2] z (fun i h=>sZ h z TI TO .none/\Row2 h TI (.ref i1) (.ref i2)/\(∃v1 v2,Row2 h TO v1 v2)/\It1 k1 h i1 a1 i/\It1 k2 h i2 a2 i) where
 mem:=by simp
 obj:=fun i h ⟨hz,hI,⟨v1,v2,hO⟩,h1,h2⟩ b hb=>by
  have hb:b=z∨b=TI∨b=TO∨b=i1∨b=i2:=by simpa using hb
  rcases hb with rfl | rfl | rfl | rfl | rfl
  ·exact⟨_,hz,fun v z=>by cases z⟩
  ·exact⟨_,hI,fun v z=>by cases z⟩
  ·exact⟨_,hO,fun v z=>by cases z⟩
  ·exact h1.got
  ·exact h2.got
 keep:=fun i h h' ⟨hz,hI,⟨v1,v2,hO⟩,h1,h2⟩ kk=>⟨kk z (by simp) _ hz,kk TI (by simp) _ hI,⟨v1,v2,kk TO (by simp) _ hO⟩,h1.at fun o e=>kk i1 (by simp) o e,h2.at fun o e=>kk i2 (by simp) o e⟩
 item:=by
  intro X hP hw hK hc i jv s σ H E I hf st hg;subst hP hw hK;obtain⟨hz,hI,⟨o1,o2,hO⟩,h1,h2⟩:=st;obtain⟨x1,x2,v1,v2,⟨hq1,hx1⟩,⟨hq2,hx2⟩⟩:=hg;obtain⟨t1,r1,s1⟩:=ae0 I hq1;obtain⟨u1,hu1,_⟩:=r1.get hx1;have b1:i < t1.toArray.size:=by simpa using (aM.mp hu1).1
  obtain⟨t2,r2,s2⟩:=ae0 I hq2;obtain⟨u2,hu2,_⟩:=r2.get hx2;have b2:i < t2.toArray.size:=by simpa using (aM.mp hu2).1
  refine avx hz (ao2 (I.ok.hd hc) D hz hI hO h1 s1 h2 s2 b1 b2 fun g tk y1 y2 p1 p2 z2 O2 j1 j2 T2 hsz hk =>?_)
  refine⟨_,rfl,wpAny_letOwnedTupleGo_zip z2 fun g2 he2 sb =>?_⟩
  have fr:H s.heap.objs.size=none:=I.hok.fresh (aO _);have lt:∀b∈[z,TI,TO,i1,i2],b < s.heap.objs.size:=fun b hb=>by
   have hb:b=z∨b=TI∨b=TO∨b=i1∨b=i2:=by simpa using hb
   rcases hb with rfl | rfl | rfl | rfl | rfl
   ·exact aQ hz
   ·exact aQ hI
   ·exact aQ hO
   ·obtain⟨o,e,_⟩:=h1.got;exact aQ e
   ·obtain⟨o,e,_⟩:=h2.got;exact aQ e
  have up:∀b o,b∉[z,TI,TO,i1,i2]->s.heap.get? b=some o->g2.get? b=some o:=fun b o hn e=>sb.extBut _ _ (fun x=>hn (by simp[x])) (hk b o (fun x=>hn (by simp[x])) (fun x=>hn (by simp[x])) (fun x=>hn (by simp[x])) (fun x=>hn (by simp[x])) e)
  have TI2:g2.get? TI=_:=sb.extBut _ _ D.nTIz (hk TI _ D.nTIz D.nTOTI.symm D.ni1TI.symm D.ni2TI.symm hI);refine⟨.ref s.heap.objs.size,upd H s.heap.objs.size (.tup [v1,v2]),?_,rfl,⟨_,v1,v2,fr,rfl,rfl,fun ys hy=>by rw[alq I hy hq1];exact hx1,fun ys hy=>by rw[alq I hy hq2];exact hx2⟩,⟨he2,TI2,⟨y1,y2,sb.extBut _ _ D.nTOz O2⟩,(j1.at fun o e=>sb.extBut _ _ D.ni1z e),(j2.at fun o e=>sb.extBut _ _ D.ni2z e)⟩,fun b hb =>?_⟩
  ·exact aq3 (fp:=[z,TI,TO,i1,i2]) (us:=[y1,y2]) I up hf lt (.cons (afo r1 hx1 p1) (.cons (afo r2 hx2 p2) .nil)) (by rw[cF];simp) (sb.extBut _ _ (jQ (lt z (by simp))) T2)
  ·rw[cj (bG (lt b hb))];exact(hf b hb).1
 done:=by
  intro X hP hw hK hc i jv s σ H E I hf st hg;subst hP hw hK;obtain⟨hz,hI,⟨o1,o2,hO⟩,h1,h2⟩:=st;obtain⟨xs,hq,hx⟩:=hg;obtain⟨its,rv,sq⟩:=ae0 I hq;have hl:i=its.toArray.size:=by have:=rv.length;simp;omega
  subst hl;refine avx hz (asr (I.ok.hd hc) D hz hI hO h1 sq fun g e kk ⟨o,he,ce⟩=>⟨e,o,rfl,he,ce,rfl,aeo (t':=s.toks) (fp:=[z,TI,TO,i1,i2]) I (fun b o hn z=>kk b o (fun z=>hn (by simp[z])) (fun z=>hn (by simp[z])) z) hf⟩)
 self:=fun _ _ _ _ _ st h=>wpAny_pyIter_zip st.1 h
theorem apart2{N l1 l2:Nat}(h1:l1 < N)(h2:l2 < N):Apart2 (N+4) (N+2) (N+3) N (N+1) l1 l2:=by
 constructor <;> (intro e;have e:(_:Nat)=_:=e;omega)
section
variable{X:Cx}
def a6m(K:Fg9)(ta:TA):TI:=fun σ H R=>ta σ H fun vs H1=>∃a1 a2 k1 k2,vs=[.ref a1,.ref a2]/\(∃xs,SqK k1 K H1 a1 xs)/\(∃xs,SqK k2 K H1 a2 xs)/\R (Itz2 K k1 k2 a1 a2) H1
theorem axe{e1 e2:dZ}{ta:TA}{p pos:Pos}{elts:List dZ}{n:Nat}{tp:Pos}(hg:Gl X "zip")(hm:X.mg "zip" = none)(ha:PA X [e1,e2] ta)(hs:aX [e1,e2] X.env=[(false,eval e1 X.env),(false,eval e2 X.env)]:=by rfl)(hs2:aX [e2] X.env=[(false,eval e2 X.env)]:=by rfl) :
  PI X (.Tuple elts n tp) (.Call (.Name "zip" p) [e1,e2] [] pos) (a6m X.K ta):=by
 intro jv s σ H R I h;refine Call_ (ahb I hg hm a2z (jO (thn (ha pos jv s σ H _ I h) fun us s1 ⟨vs,H1,I1,r1,q1⟩ =>?_) (by rw[hs,hs2]) (by rw[hs2];rfl)))
 obtain⟨a1,a2,k1,k2,rfl,⟨x1,hq1⟩,⟨x2,hq2⟩,q⟩:=q1;obtain⟨u1,u2,rfl,ru1,ru2⟩:=vals2 r1;cases ru1;cases ru2;obtain⟨t1,r1',sq1⟩:=ae0 I1 hq1;have b1:a1 < s1.heap.objs.size:=by obtain⟨o,e⟩:=sq1.got;exact aQ e
 obtain⟨t2,r2',sq2⟩:=ae0 I1 hq2;have b2:a2 < s1.heap.objs.size:=by obtain⟨o,e⟩:=sq2.got;exact aQ e
 refine ar5 sq1 sq2 fun g hz hI hO h1 h2 hsz kk=>wpAny_pyIter_zip hz ?_
 have I2:Inv X jv σ H1 { s1 with heap:=g }:=I1.kept (t':=s1.toks) kk
 refine⟨_,[s1.heap.objs.size+4,s1.heap.objs.size+2,s1.heap.objs.size+3,s1.heap.objs.size,s1.heap.objs.size+1],_,_,H1,rfl,I2,apb k1 k2 a1 a2 _ _ _ _ _ (apart2 b1 b2),⟨hz,hI,⟨_,_,hO⟩,h1,h2⟩,fun c hc =>?_,q⟩
 have hc:s1.heap.objs.size<=c:=by
  simp only[aZ,dN,or_false] at hc;rcases hc with rfl | rfl | rfl | rfl | rfl <;> first | exact aO _ | exact rZ _ _
 exact I1.fpOk hc (I1.hok.fresh hc)
end
section
variable{X:Cx}
end
end Mn
namespace Dn
open L2 Mn
section
variable{K:Fg9}{X:Cx}{e a b c:dZ}{es elts:List dZ}{pos p tp:Pos}{n:Nat}
theorem aps{F:Hp}{d:D}{l:List D}{v:V}(e:itemsD d=some l)(h:Is K F d v):∃a k vs,v=.ref a/\IsL K F l vs/\∀H,Same F H->SqK k K H a vs:=by
 cases h with
 | tup e1 h1=>cases e;exact⟨_,true,_,rfl,h1,fun H g=>SqT.of (g _ _ e1)⟩
 | lst e1 h1=>cases e;exact⟨_,false,_,rfl,h1,fun H g=>SqL.of (g _ _ e1)⟩
 | kst e1 h1=>cases e;exact⟨_,false,_,rfl,h1,fun H g=>L2.Same.seq g e1⟩
 | _=>cases e
def afb(l:List D):List D:=l.mapIdx fun i d=>.tup [.int (i:Nat),d]
def alx:List D->Option (List D)
 | [d]=>(itemsD d).map afb
 | _=>none
theorem agj(l:List D):(afb l).length=l.length:=by unfold afb;simp
theorem akf{l:List D}{i:Nat}{d:D}(h:(afb l)[i]? = some d):∃d0,l[i]? = some d0/\d=.tup [.int (i:Nat),d0]:=by
 unfold afb at h;rw[fU] at h;cases e:l[i]? with
 | none=>rw[e] at h;cases h
 | some d0=>rw[e] at h;cases h;exact⟨d0,rfl,rfl⟩
theorem auf{F:Hp}{k:Bool}{a:aY}{l:List D}{vs:List V}(il:IsL K F l vs)(hs:∀H,Same F H->SqK k K H a vs):ItD K (Ite K k a) (afb l) F where
 go:=fun i H s hi=>by
  have hi:i < vs.length:=by rw[<-il.length,<-agj];exact hi
  exact⟨vs,_,hs H s,aC hi⟩
 yld:=fun i H x H' d s y hd=>by
  obtain⟨d0,h0,rfl⟩:=akf hd;obtain⟨q,v,hq,rfl,rfl,hv⟩:=y;obtain⟨v',e1,i1⟩:=il.get h0;have:=hv _ (hs H s);rw[e1] at this;cases this;exact .inr ⟨q,_,_,hq,rfl,rfl,rfl,.cons (.int _) (.cons i1 .nil)⟩
 stop:=fun H s=>⟨vs,hs H s,by rw[agj,il.length]⟩
theorem aih{m:M (List D)}(hg:Gl X "enumerate")(hm:X.mg "enumerate" = none)(h:ED K X [a] m)(hs:aX [a] X.env=[(false,eval a X.env)]:=by rfl):IT K X (.Tuple elts n tp) (.Call (.Name "enumerate" p) [a] [] pos) (mGet alx m):=IT.mk fun hk=>by
 intro jv s σ H R I z9;obtain⟨tg,F,ρ,l,ρ',G,em,q⟩:=z9;obtain⟨ds,ρ1,e1,em⟩:=bc em;obtain⟨e2,rfl⟩:=gn em;have h:=h hk;subst hk;refine axf hg hm h hs jv s σ H R I ⟨tg,F,ρ,ds,_,G,e1,fun vs H' F' G' x r =>?_⟩
 match ds,e2 with
 | [d],e2 =>
  have e2:(itemsD d).map afb=some l:=e2;cases e3:itemsD d with
  | none=>rw[e3] at e2;cases e2
  | some l0 =>
   rw[e3] at e2;cases e2;cases r with
   | cons h1 t =>
    cases t;obtain⟨b,k,ws,rfl,il,hq⟩:=aps e3 h1;exact⟨b,k,rfl,⟨ws,hq _ G'.sub⟩,q _ H' F' G' x (auf il hq)⟩
def afm(l1 l2:List D):List D:=List.zipWith (fun x y=>.tup [x,y]) l1 l2
def ayd:List D->Option (List D)
 | [a,b]=>(itemsD a).bind fun l1=>(itemsD b).bind fun l2=>if l1.length<=l2.length then some (afm l1 l2) else none
 | _=>none
theorem ao3{l1 l2:List D}{i:Nat}{d:D}(h:(afm l1 l2)[i]? = some d):∃d1 d2,l1[i]? = some d1/\l2[i]? = some d2/\d=.tup [d1,d2]:=by
 unfold afm at h;rw[List.getElem?_zipWith] at h;cases e1:l1[i]? with
 | none=>rw[e1] at h;cases h
 | some d1 =>
  cases e2:l2[i]? with
  | none=>rw[e1,e2] at h;cases h
  | some d2=>rw[e1,e2] at h;cases h;exact⟨_,_,rfl,rfl,rfl⟩
theorem aue{F:Hp}{k1 k2:Bool}{a1 a2:aY}{l1 l2:List D}{x1 x2:List V}(h:l1.length<=l2.length)(i1:IsL K F l1 x1)(i2:IsL K F l2 x2)(s1:∀H,Same F H->SqK k1 K H a1 x1)(s2:∀H,Same F H->SqK k2 K H a2 x2):ItD K (Itz2 K k1 k2 a1 a2) (afm l1 l2) F where
 go:=fun i H s hi=>by
  have z1:=i1.length;have z2:=i2.length;have hi:i < l1.length:=by unfold afm at hi;simp at hi;omega
  exact⟨x1,x2,_,_,⟨s1 H s,aC (by omega)⟩,s2 H s,aC (by omega)⟩
 yld:=fun i H x H' d s y hd=>by
  obtain⟨d1,d2,h1,h2,rfl⟩:=ao3 hd;obtain⟨q,v1,v2,hq,rfl,rfl,y1,y2⟩:=y;obtain⟨w1,e1,j1⟩:=i1.get h1;obtain⟨w2,e2,j2⟩:=i2.get h2;have z1:=y1 _ (s1 H s);have z2:=y2 _ (s2 H s);rw[e1] at z1;rw[e2] at z2;cases z1;cases z2;exact .inr ⟨q,_,_,hq,rfl,rfl,rfl,.cons j1 (.cons j2 .nil)⟩
 stop:=fun H s=>⟨x1,s1 H s,by unfold afm;rw[List.length_zipWith,<-i1.length];omega⟩
theorem ax8{m:M (List D)}(hg:Gl X "zip")(hm:X.mg "zip" = none)(h:ED K X [a,b] m)(hs:aX [a,b] X.env=[(false,eval a X.env),(false,eval b X.env)]:=by rfl)(hs2:aX [b] X.env=[(false,eval b X.env)]:=by rfl) :
  IT K X (.Tuple elts n tp) (.Call (.Name "zip" p) [a,b] [] pos) (mGet ayd m):=IT.mk fun hk=>by
 intro jv s σ H R I z9;obtain⟨tg,F,ρ,l,ρ',G,em,q⟩:=z9;obtain⟨ds,ρ1,e1,em⟩:=bc em;obtain⟨e2,rfl⟩:=gn em;have h:=h hk;subst hk;refine axe hg hm h hs hs2 jv s σ H R I ⟨tg,F,ρ,ds,_,G,e1,fun vs H' F' G' x r =>?_⟩
 match ds,e2 with
 | [d,d'],e2 =>
  have e2:((itemsD d).bind fun l1=>(itemsD d').bind fun l2=>if l1.length<=l2.length then some (afm l1 l2) else none)=some l:=e2
  cases e3:itemsD d with
  | none=>rw[e3] at e2;cases e2
  | some l1 =>
   cases e4:itemsD d' with
   | none=>rw[e3,e4] at e2;cases e2
   | some l2 =>
    rw[e3,e4] at e2;have e2:(if l1.length<=l2.length then some (afm l1 l2) else none)=some l:=e2
    split at e2
    ·rename_i hle;cases e2;cases r with
     | cons h1 t =>
      cases t with
      | cons h2 t =>
       cases t;obtain⟨b1,k1,w1,rfl,il1,hq1⟩:=aps e3 h1;obtain⟨b2,k2,w2,rfl,il2,hq2⟩:=aps e4 h2;exact⟨b1,b2,k1,k2,rfl,⟨w1,hq1 _ G'.sub⟩,⟨w2,hq2 _ G'.sub⟩,q _ H' F' G' x (aue hle il1 il2 hq1 hq2)⟩
    ·cases e2
end
end Dn
namespace Mn
open L2
section
variable{prog:bV}{w:dO}{A:dB}{E:aG->aH->Prop}{s:aH}
theorem aoy(n:Nat):iK none none (-1) (n:Int)=((n:Int) - 1,-1):=rfl
theorem aob(n:Nat):eH ((n:Int) - 1) (-1) (-1)=n:=by
 unfold eH;have h1:¬((-1:Int) > 0):=by omega
 have h2:(- -1:Int)=1:=by decide
 simp only[h1,if_false,h2,vJ];split <;> omega
theorem ang{α β:Type}{f g:α->Option β}:∀l:List α,(∀x∈l,f x=g x)->l.filterMap f=l.filterMap g
 | [],_=>rfl
 | x::r,h=>by rw[dY,dY,h x (aN ..),ang r fun y hy=>h y (aK _ hy)]
theorem amu(xs:Array aG):((aR xs.size).filterMap fun(m:Nat)=>xs[(((xs.size:Int) - 1)+(m:Int)*(-1)).toNat]?).toArray=xs.toList.reverse.toArray:=by
 congr 1
 have e:(aR xs.size).filterMap (fun(m:Nat)=>xs[(((xs.size:Int) - 1)+(m:Int)*(-1)).toNat]?)=(aR xs.size).filterMap (fun m=>xs.toList.reverse[m]?):=by
  refine ang _ fun m hm =>?_
  have hm':m < xs.size:=dJ.mp hm;have e2:(((xs.size:Int) - 1)+(m:Int)*(-1)).toNat=xs.size - 1 - m:=by omega
  rw[e2,List.getElem?_reverse (by simpa using hm')]
  simp
 rw[e];have key:∀l:List aG,(aR l.length).filterMap (fun m=>l[m]?)=l:=by
  intro l
  induction l with
  | nil=>rfl
  | cons x r ih =>
   rw[bJ,pO,dY];simp only[pC,nM]
   congr 1
 have:=key xs.toList.reverse
 simpa using this
theorem aep{t sl:aY}{items:Array aG}{u:Tok}{Q:aG->aH->Prop}(ht:vI s.heap t items)(hs:s.heap.IsSliceOf sl .none .none (.int (-1) u))
  (h:Q (.ref s.heap.objs.size) { s with heap:=s.heap.push { cls:=.type "tuple", data:=.seq items.toList.reverse.toArray } })
  (hsz:items.size<=cL):bL (bY prog w) A (oR (.ref t) (.ref sl)) Q E s:=by
 have htake:sizeOk (.seq items.toList.reverse.toArray):=by
  show items.toList.reverse.toArray.size<=cL
  simpa using hsz
 obtain⟨os,hos,hcs,hds⟩:=id hs;have hTs:s.TypeIs (.ref sl) "slice" := ⟨os,hos,hcs⟩;unfold oR
 try with_reducible refine cU ?_
 first | refine aA (aJ ?_) | skip
 refine aA (wpAny_sequenceKey ht.typeIs (by decide) ?_)
 refine aA (wpAny_callSpecial?_slot (name:=nD "__getitem__") ht.typeIs cN
  (fW cN ht.typeIs entry_tuple_getitem ?_ (args_tuple_getitem _ _)))
 show bL _ _ (nA (.ref t) >>= _) _ _ s;refine aA (tupleItemsOf_ ht ?_);refine aA (wpAny_typeOf hTs ?_);rw[if_pos (by decide)]
 have happ:∀{Q:Int×Int×Nat->aH->Prop} {E:aG->aH->Prop} {A:dB},Q ((items.size:Int) - 1,-1,items.size) s->bL (bY prog w) A (kJ (.ref sl) (pure (items.size:Int))) Q E s:=by
  intro Q E A h;unfold kJ tW;refine aA (aA (dF hos hds (x:=.none) rfl (aA (dF hos hds (x:=.none) rfl (aA (dF hos hds (x:=.int (-1) u) rfl (aJ ?_)))))));refine aA (slicePart_int ?_);show bL _ _ (if ((-1:Int)==0)=true then _ else _) _ _ s
  rw[if_neg (by decide)]
  refine aA (slicePart_none (aA (slicePart_none (aA (aJ ?_)))));show bL _ _ (match iK none none (-1) (items.size:Int) with | (lo,hi)=>pure (lo,(-1:Int),eH lo hi (-1))) _ _ s
  rw[aoy];show bL _ _ (pure ((items.size:Int) - 1,(-1:Int),eH ((items.size:Int) - 1) (-1) (-1))) _ _ s;rw[aob];exact aJ h
 refine aA (happ ?_);have hno:¬((((items.size:Int) - 1)==0&&(-1:Int)==1&&items.size==items.size)=true):=by
  intro q;rw[aV,aV] at q;exact absurd q.1.2 (by decide)
 show bL _ _ (if (((items.size:Int) - 1)==0&&(-1:Int)==1&&items.size==items.size)=true then _ else _) _ _ s
 rw[if_neg hno,amu]
 first
  | exact aA (m:=dU _) (dG (aJ ⟨_,rfl,aJ h⟩) htake)
  | exact aA (m:=dU _) (dG (aA (aJ (aJ ⟨_,rfl,aJ h⟩))) htake)
  | exact aA (aA (m:=dU _) (dG (aJ (aJ ⟨_,rfl,aJ h⟩)) htake))
  | exact aA (aA (m:=dU _) (dG (aJ ⟨_,rfl,aJ h⟩) htake))
end
section
variable{X:Cx}{e:dZ}{te:TE}{pos p2 p3:Pos}{st:dZ}{ts:TE}
def tRev(K:Fg9)(te ts:TE):TE:=fun σ H Q=>te σ H fun x H1=>ts σ H1 fun k H2=>k=.int (-1)/\∃a xs,x=.ref a/\SqT K H2 a xs/\∀p,H2 p=none->Q (.ref p) (upd H2 p (.tup xs.reverse))
theorem Vals.rev{xs:List V}{us:List aG}(h:Vals xs us):Vals xs.reverse us.reverse:=by
 induction h with
 | nil=>exact .nil
 | cons h1 h2 ih =>
  rw[oH,oH];exact ih.append (.cons h1 .nil)
theorem a0n(he:PE X e te)(hs:PE X st ts):PE X (.Subscript e (.Slice none none (some st) p2) pos) (tRev X.K te ts):=by
 intro jv s σ H Q I h;refine Subscript_ (thn (he jv s σ H _ I h) fun v s1 ⟨x,H1,I1,r1,q1⟩ =>?_)
 refine wpAny_Slice ?_;rw[evalPart_none];refine aJ (aJ ?_);rw[evalPart_some];refine thn (hs jv s1 σ H1 _ I1 q1) fun k s2 z9 =>?_
 obtain⟨y,H2,I2,r2,q2⟩:=z9;obtain⟨rfl,a,xs,rfl,hx,q⟩:=q2;obtain⟨t,rfl⟩:=r2;cases r1;have I4:Inv X jv σ H2 { s2 with heap:=s2.heap.push { cls:=.type "slice", data:=.fields #[.none,.none,.int (-1) t] } }:=I2.kept (t':=s2.toks) fun b ob q=>aB _ q
 obtain⟨its,r,ht,hz⟩:=I4.tuple hx;have hlen:its.toArray.size=xs.length:=by rw[aL];exact r.length.symm
 show bL (bY X.prog X.w) X.A (subscriptTail e (.Slice none none (some st) p2) (.ref a) (.ref s2.heap.objs.size)) (EP X jv σ Q) X.xe { s2 with heap:=s2.heap.push { cls:=.type "slice", data:=.fields #[.none,.none,.int (-1) t] } }
 have hg:bL (bY X.prog X.w) X.A (oR (.ref a) (.ref s2.heap.objs.size)) (EP X jv σ Q) X.xe { s2 with heap:=s2.heap.push { cls:=.type "slice", data:=.fields #[.none,.none,.int (-1) t] } }:=by
  refine aep ht (qY ..) ?_ (by rw[hlen];exact hz)
  refine⟨.ref _,_,I4.laid (t':=s2.toks) (o:=.tup xs.reverse) (fun b ob q=>aB _ q) (aO _) ?_,rfl,q _ (I4.hok.fresh (aO _))⟩
  exact⟨by rw[qR];exact hz,_,Vals.rev r,IsTp.new _ _⟩
 exact tail_any (ops:=[.ref a,.ref s2.heap.objs.size]) ht.typeIs cN.lookup hg (by with_unfolding_all rfl)
end
end Mn
namespace Dn
open L2 Mn
section
variable{K:Fg9}{X:Cx}{a st:dZ}{pos p p2 pos2:Pos}
def gRev:D->D->Option Rv
 | .tup l,.int k=>if k = -1 then some (.v (.tup l.reverse)) else none
 | _,_=>none
@[simp] theorem a4b(l:List D):gRev (.tup l) (.int (-1))=some (.v (.tup l.reverse)):=rfl
theorem IsL.rev{F:Hp}:∀{ds:List D} {vs:List V},IsL K F ds vs->IsL K F ds.reverse vs.reverse
 | _,_,.nil=>.nil
 | _,_,.cons h t=>by
  rw[oH,oH];exact(IsL.rev t).append (.cons h .nil)
end
end Dn
namespace Mn
open L2
section
variable{prog:bV}{w:dO}{A:dB}{E:aG->aH->Prop}{s:aH}
theorem an7{l:aY}{vs:List aG}{ns:List Int}{Q:aG->aH->Prop}(hl:vI s.heap l vs.toArray)(hI:mG vs ns)(h64:vs.length < 64)
  (h:∀(h1 h':fD) (out:Array aG) (ns':List Int) (e:Nat),(∀b o,s.heap.get? b=some o->h1.get? b=some o)->(∀b o,h1.get? b=some o->h'.get? b=some o)->h'.get? h1.objs.size=some (cQ "list" out e)->mG out.toList ns'->ns'.Perm ns->ns'.Pairwise (· <= ·)->Q (.ref h1.objs.size) { s with heap:=h' }) :
  bL (bY prog w) A (call (.builtin "sorted") [.ref l]) Q E s:=by
 obtain⟨o,ho,hc,n,hd⟩:=id hl;refine kZ kind_sorted plain_sorted entry_sorted (args_sorted1 _) ?_;unfold jL.«sorted»
 refine aA (m:=checkCount "sorted" 1 1 _) (aJ ?_);refine aA (wpAny_collect_seq l (.inr rfl) ho hc hd (fun h1 k1 =>?_) (by rw[aL,cF];omega))
 refine aA (wpAny_newList ?_);have hoL:(h1.push (cQ "list" vs.toArray 0)).get? h1.objs.size=some (cQ "list" vs.toArray 0):=aU _ rfl;show bL _ _ _ _ _ { s with heap:=h1.push (cQ "list" vs.toArray 0) }
 refine aA (cU (fW slot_list_sort ⟨_,hoL,rfl⟩ entry_list_sort (list_sort_tree hoL hI h64 fun out ns' a1 a2 a3=>⟨_,rfl,?_⟩) (args_list_sort _)))
 obtain⟨e,he⟩:=sortedHeap_at (out:=out) hoL;exact aJ ⟨_,rfl,h h1 _ out ns' e k1 (fun b ob q=>by
  have hlt:b < h1.objs.size:=aQ q;rw[sortedHeap_old (bG hlt) (by rw[size_push'];exact iR hlt)]
  exact aB _ q) he a1 a2 a3⟩
end
end Mn
namespace Dn
open L2 Mn
section
variable{K:Fg9}{X:Cx}
def acd:D->Option Rv
 | .tup l=>(qb l).bind fun ns=>if ns.length < 64 then some (.fr ((sortI ns).map D.int)) else none
 | d=>ain d
@[simp] theorem av3(l:List D):acd (.lst l)=ain (.lst l):=rfl
theorem aot:CallD K X (.builtin "sorted") (g1 fun d=>match d with | .tup l=>(qb l).bind fun ns=>if ns.length < 64 then some (.fr ((sortI ns).map D.int)) else none | _=>none):=vz fun hk jv s σ0 H x u Q tg F ρ σ d r I ru G bd eg q=>by
 subst hk;cases d with
 | tup l =>
  have eg:(qb l).bind (fun ns=>if ns.length < 64 then some (Rv.fr ((sortI ns).map D.int)) else none)=some r:=eg
  cases e:qb l with
  | none=>rw[e] at eg;cases eg
  | some ns =>
   rw[e] at eg;have eg:(if ns.length < 64 then some (Rv.fr ((sortI ns).map D.int)) else none)=some r:=eg
   split at eg
   ·rename_i h64;cases eg;obtain⟨a,vs,rfl,ea,hl⟩:=bd.tup;rw[aap e] at hl;rw[hl.int_inv] at ea;cases ru;obtain⟨its,rv,pl,_⟩:=I.tuple (SqT.of (G.sub _ _ ea));have hlen:=rv.length;rw[aD] at hlen;refine an7 pl (intsAre_of rv) (by omega) fun h1 h' out ns' ep k1 k2 eo i1 hp hs =>?_
    have e':=amm hp hs;subst e';have I1:=I.kept (h':=h1) (t':=s.toks) k1;have hn:H h1.objs.size=none:=I1.hok.fresh (aO _);refine⟨.ref h1.objs.size,upd H h1.objs.size (.lst ((sortI ns).map V.int)),?_,rfl,Res.lst G q (ad0 _) hn⟩;refine I1.laid (t':=s.toks) k2 (aO _) ?_;refine⟨?_,out.toList,ep,abg i1,by simpa using eo⟩
    rw[aD,(sortI_perm ns).length_eq];exact jR (abi (by omega))
   ·cases eg
 | _=>cases eg
theorem ahj:CallD K X (.builtin "sorted") (g1 acd):=vz fun hk jv s σ0 H x u Q tg F ρ σ d r I ru G bd eg q=>by
 cases d with
 | tup l=>exact aot.go hk jv s σ0 H [x] [u] Q I (.cons ru .nil) ⟨tg,F,ρ,σ,[.tup l],r,G,.cons bd .nil,eg,q⟩
 | lst l=>exact ar0.go hk jv s σ0 H [x] [u] Q I (.cons ru .nil) ⟨tg,F,ρ,σ,[.lst l],r,G,.cons bd .nil,eg,q⟩
 | _=>cases eg
end
section
variable{K:Fg9}{X:Cx}
end
end Dn
namespace Mn
open L2
theorem ahr(its:List aG):slicePick its.toArray none none (some (-1))=its.reverse.toArray:=by
 have h1:lR none none (some (-1)) its.toArray.size=((its.toArray.size:Int) - 1,-1,-1):=rfl;unfold slicePick;rw[h1];dsimp only;have h2:sliceRange ((its.toArray.size:Int) - 1) (-1) (-1)=(aR its.toArray.size).map fun(k:Nat)=>((its.toArray.size:Int) - 1+(k:Int)*(-1)).toNat:=by
  unfold sliceRange;have hc:(if (-1:Int) > 0 then (if ((its.toArray.size:Int) - 1) < -1 then (-1 - ((its.toArray.size:Int) - 1) + -1 - 1) / -1 else 0) else (if ((its.toArray.size:Int) - 1) > -1 then (((its.toArray.size:Int) - 1) - -1 - -1 - 1) / (- -1) else 0)).toNat=its.toArray.size:=by
   have h0:¬((-1:Int) > 0):=by decide
   have e:(- -1:Int)=1:=by decide
   simp only[h0,if_false,e,vJ];split <;> omega
  dsimp only;rw[hc];apply gY;intro k _
  congr 1
  omega
 rw[h2,nM];have:=amu its.toArray
 simpa[oM] using this
section
variable{X:Cx}{e:dZ}{te:TE}{pos p2 p3:Pos}{st:dZ}{ts:TE}
def a4x(K:Fg9)(te ts:TE):TE:=fun σ H Q=>te σ H fun x H1=>ts σ H1 fun k H2=>k=.int (-1)/\∃a xs,x=.ref a/\SqL K H2 a xs/\∀p,H2 p=none->Q (.ref p) (upd H2 p (.lst xs.reverse))
theorem axi(he:PE X e te)(hs:PE X st ts):PE X (.Subscript e (.Slice none none (some st) p2) pos) (a4x X.K te ts):=by
 intro jv s σ H Q I h;refine Subscript_ (thn (he jv s σ H _ I h) fun v s1 ⟨x,H1,I1,r1,q1⟩ =>?_)
 refine wpAny_Slice ?_;rw[evalPart_none];refine aJ (aJ ?_);rw[evalPart_some];refine thn (hs jv s1 σ H1 _ I1 q1) fun k s2 z9 =>?_
 obtain⟨y,H2,I2,r2,q2⟩:=z9;obtain⟨rfl,a,xs,rfl,hx,q⟩:=q2;obtain⟨t,rfl⟩:=r2;cases r1;have I4:Inv X jv σ H2 { s2 with heap:=s2.heap.push { cls:=.type "slice", data:=.fields #[.none,.none,.int (-1) t] } }:=I2.kept (t':=s2.toks) fun b ob q=>aB _ q
 obtain⟨its,r,ht,hz⟩:=I4.list hx;have hlen:=r.length;show bL (bY X.prog X.w) X.A (subscriptTail e (.Slice none none (some st) p2) (.ref a) (.ref s2.heap.objs.size)) (EP X jv σ Q) X.xe { s2 with heap:=s2.heap.push { cls:=.type "slice", data:=.fields #[.none,.none,.int (-1) t] } }
 have hg:bL (bY X.prog X.w) X.A (oR (.ref a) (.ref s2.heap.objs.size)) (EP X jv σ Q) X.xe { s2 with heap:=s2.heap.push { cls:=.type "slice", data:=.fields #[.none,.none,.int (-1) t] } }:=by
  refine wpAny_getItem_list_slice ht.isList (qY ..) .none .none (.int (-1) t) (by simp) ?_ (by rw[aL] <;> omega)
  rw[ahr];refine⟨.ref _,_,I4.laid (t':=s2.toks) (o:=.lst xs.reverse) (fun b ob q=>aB _ q) (aO _) ?_,rfl,q _ (I4.hok.fresh (aO _))⟩
  exact⟨by rw[qR];exact hz,_,0,Mn.Vals.rev r,aU _ rfl⟩
 exact tail_any (ops:=[.ref a,.ref s2.heap.objs.size]) ht.isList.typeIs slot_list_getitem.lookup hg (by with_unfolding_all rfl)
end
end Mn
namespace Dn
open L2 Mn
section
variable{K:Fg9}{X:Cx}{a st:dZ}{pos p p2 pos2:Pos}
def aum:D->D->Option Rv
 | .lst l,.int k=>if k = -1 then some (.fr l.reverse) else none
 | d,k=>gRev d k
@[simp] theorem a2j(l:List D):aum (.lst l) (.int (-1))=some (.fr l.reverse):=rfl
@[simp] theorem a2i(l:List D):aum (.tup l) (.int (-1))=some (.v (.tup l.reverse)):=rfl
def ax2(m ms:M D):M Rv:=m.bind fun d=>ms.bind fun k=>lift (aum d k)
@[simp] theorem a3p(ρ:Ro)(m ms:M D):ax2 m ms ρ=(m.bind fun d=>ms.bind fun k=>lift (aum d k)) ρ:=rfl
theorem ayt{m ms:M D}(h:EV K X a m)(hs:EV K X st ms):ER K X (.Subscript a (.Slice none none (some st) p2) pos) (ax2 m ms):=ER.mk fun hk=>by
 subst hk;have p1:=a0n (pos:=pos) (p2:=p2) (h rfl) (hs rfl);have p2':=axi (pos:=pos) (p2:=p2) (h rfl) (hs rfl);intro jv s σ H Q I z9;obtain⟨tg,F,ρ,r,ρ',G,em,q⟩:=z9;obtain⟨d,ρ1,e1,em⟩:=bc em;obtain⟨k,ρ2,e2,em⟩:=bc em;obtain⟨e4,rfl⟩:=gn em;cases d with
 | tup l =>
  refine p1 jv s σ H Q I ⟨tg,F,ρ,.tup l,ρ1,G,e1,fun v H1 F1 G1 x1 r1=>⟨tg,F1,ρ1,k,_,G1,e2,fun v2 H2 F2 G2 x2 r2 =>?_⟩⟩
  have e4:gRev (.tup l) k=some r:=e4;unfold gRev at e4;split at e4
  ·split at e4
   ·rename_i l' j ez _ hj;cases ez;subst hj;cases e4;cases r2;refine⟨rfl,?_⟩;cases r1.mono x2.sub with
    | tup ea hl =>
     exact⟨_,_,rfl,SqT.of (G2.sub _ _ ea),fun p hp=>Res.tup G2 (fun v' H4 F4 G4 x4 rr=>q v' H4 F4 G4 ((x1.trans x2).trans x4) (nq (x1.trans x2) rr)) hl.rev hp⟩
   ·cases e4
  ·cases e4
 | lst l =>
  refine p2' jv s σ H Q I ⟨tg,F,ρ,.lst l,ρ1,G,e1,fun v H1 F1 G1 x1 r1=>⟨tg,F1,ρ1,k,_,G1,e2,fun v2 H2 F2 G2 x2 r2 =>?_⟩⟩
  cases k with
  | int j =>
   have e4:(if j = -1 then some (Rv.fr l.reverse) else none)=some r:=e4
   split at e4
   ·rename_i hj;subst hj;cases e4;cases r2;refine⟨rfl,?_⟩;cases r1.mono x2.sub with
    | lst ea hl =>
     exact⟨_,_,rfl,SqL.of (G2.sub _ _ ea),fun p hp=>Res.lst G2 (fun v' H4 F4 G4 x4 rr=>q v' H4 F4 G4 ((x1.trans x2).trans x4) (nq (x1.trans x2) rr)) hl.rev hp⟩
   ·cases e4
  | _=>cases e4
 | _=>cases e4
end
end Dn
namespace Mn
open PySem
end Mn
namespace L2
section
variable{M:wO}{A:dB}{E:aG->aH->Prop}{s:aH}
structure KeptBut (fs ch:List aY) (h h':fD):Prop where
 keep:∀b o,b∉ch->b∉fs->h.get? b=some o->h'.get? b=some o
 slot:∀b o,b∉ch->h.get? b=some o->∃sl,h'.get? b=some { o with slots:=sl }
theorem KeptBut.trans{fs ch:List aY}{h h1 h2:fD}(a:KeptBut fs ch h h1)(b:KeptBut fs ch h1 h2):KeptBut fs ch h h2 :=
 ⟨fun c o n1 n2 e=>b.keep c o n1 n2 (a.keep c o n1 n2 e),fun c o n e=>let ⟨_,e1⟩:=a.slot c o n e;let ⟨sl,e2⟩:=b.slot c _ n e1;⟨sl,e2⟩⟩
theorem KeptBut.sub{fs ch ch':List aY}{h h':fD}(a:KeptBut fs ch h h')(q:∀b∈ch,b∈ch'):KeptBut fs ch' h h' :=
 ⟨fun c o n1 n2 e=>a.keep c o (fun z=>n1 (q c z)) n2 e,fun c o n e=>a.slot c o (fun z=>n (q c z)) e⟩
theorem KeptBut.upd{fs:List aY}{h:fD}{a:aY}{f:Obj->Obj}:KeptBut fs [a] h (h.update a f) :=
 ⟨fun b o n _ e=>by rw[bQ _ _ (fun z=>n (by simp[z]))];exact e,fun b o n e=>⟨o.slots,by rw[bQ _ _ (fun z=>n (by simp[z]))];exact e⟩⟩
theorem ajx{base:fD}{env:Env}{outer:List Env}{L e:aY}{oe:Obj}{vs:Array aG}{head:aG}{hadNext:Bool}{Q:Unit->aH->Prop}
  (hfr:A.frames=some (env::outer)) (hl:s.heap.FunFrames base (env::outer)) (hf:env.frame=some L) (he:s.heap.get? e=some oe) (hd:oe.data=.fields vs) (hsz:1 < vs.size)
  (h:∀h' T ts,s.heap.objs.size<=T->KeptBut (frs (env::outer)) [e] s.heap h'->h'.get? e=some (oe.mapFields (·.setIfInBounds 1 (.ref T)))->h'.get? T=some { cls:=.type "traceback", dict:=none,data:=.fields ts }->ts[3]? = some (mU L)->Q () { s with heap:=h' }) :
  bL M A (do let a <-frameOf env;let pl <-entryPlaceOf L hadNext;let b <-vZ head a .none (mU L) .none pl;setField (.ref e) 1 b) Q E s:=by
 have hene:e∉frs (env::outer):=fun hm=>by
  obtain⟨_,o,ho,hnf⟩:=hl.mem hm;rw[he] at ho;injection ho with ho;subst ho;exact hnf vs hd
 refine aA (wpAny_frameOf_fun hfr hl hf fun h₁ hs₁ =>?_)
 refine aA (wpAny_entryPlaceOf fun pl hpl =>?_)
 unfold vZ newFields;refine aA (dG ?_ (hpl.sizeOk5 _ _ _ _ _));have he₁:h₁.get? e=some oe:=(hs₁.2.1 e hene).trans he;have he₂:=aB (h:=h₁) { cls:=.type "traceback", dict:=none,data:=.fields ([head,.ref L,.none,mU L,.none]++(if pl.isEmpty then aF 6 cX else pl)).toArray } he₁
 refine wpAny_setField he₂ hd hsz (h _ h₁.objs.size ([head,.ref L,.none,mU L,.none]++(if pl.isEmpty then aF 6 cX else pl)).toArray ?_ ?_ ?_ ?_ ?_)
 ·exact vB hs₁.1.symm
 ·have keep:∀b o,b≠e->h₁.get? b=some o->((h₁.push { cls:=.type "traceback", dict:=none,data:=.fields ([head,.ref L,.none,mU L,.none]++(if pl.isEmpty then aF 6 cX else pl)).toArray }).update e (qU (·.setIfInBounds 1 (cP h₁.objs.size)))).get? b=some o:=fun b o hbe hb=>by
   rw[bQ _ _ (mD hbe)];exact aB _ hb
  refine⟨fun b o n1 n2 hb=>keep b o (fun z=>n1 (by simp[z])) ((hs₁.2.1 b n2).trans hb),fun b o n hb =>?_⟩
  obtain⟨sl,q⟩:=hs₁.2.2 b o hb;exact⟨sl,keep b _ (fun z=>n (by simp[z])) q⟩
 ·exact eX _ he₂ (jP (eQ hd _))
 ·rw[bQ _ _ (mD (jQ (aQ he₁)))];exact aU h₁ rfl
 ·rcases hpl with rfl | ⟨_,_,_,_,_,_,_,rfl⟩ <;> simp
end
structure FlyAt (h:fD) (a:aY) (C:aY) (dx:Option aY) (ch:List aY) (L:aY):Prop where
 obj:∃oe vs,h.get? a=some oe/\oe.cls=.ref C/\oe.dict=dx/\oe.data=.fields vs/\1 < vs.size /\
  ((vs[1]? = some .none/\ch=[a])∨∃T oT ts fl,ch=[a,T]/\vs[1]? = some (.ref T)/\T≠a/\h.get? T=some oT/\oT.data=.fields ts/\ts[3]? = some fl/\(fl=.none∨fl=mU L))
theorem FlyAt.fresh{h:fD}{a C L:aY}{dx:Option aY}{ch:List aY}(x:FlyAt h a C dx ch L):a∈ch:=by
 obtain⟨oe,vs,_,_,_,_,_,⟨_,e⟩ | ⟨T,_,_,_,e,_⟩⟩:=x.obj <;> simp[e]
section
variable{M:wO}{A:dB}{E:aG->aH->Prop}{s:aH}
theorem acr(o:Obj)(f):(o.mapFields f).dict=o.dict:=by
 obtain⟨c,d,dt,sl⟩:=o;cases dt <;> rfl
theorem a08{base:fD}{env:Env}{outer:List Env}{L a C:aY}{dx:Option aY}{ch:List aY}{Q:Unit->aH->Prop}
  (hfr:A.frames=some (env::outer)) (hl:s.heap.FunFrames base (env::outer)) (hf:env.frame=some L) (x:FlyAt s.heap a C dx ch L)
  (h:∀h' T oT ts oe vs,(T∈ch∨s.heap.objs.size<=T)->KeptBut (frs (env::outer)) ch s.heap h'->h'.get? a=some oe->oe.cls=.ref C->oe.dict=dx->oe.data=.fields vs->1 < vs.size->vs[1]? = some (.ref T)->T≠a->h'.get? T=some oT->oT.data=.fields ts->ts[3]? = some (mU L)->Q () { s with heap:=h' }) :
  bL M A (noteFrame (.ref a) env) Q E s:=by
 obtain⟨oe,vs,he,hc,hdx,hd,hsz,alt⟩:=x.obj;unfold noteFrame;simp only[hf];rcases alt with⟨h1,rfl⟩ | ⟨T,oT,ts,fl,rfl,h1,hTa,hT,hdT,h3,hfl⟩
 ·refine aA (dF he hd h1 ?_);rw[if_neg (by decide)]
  refine ajx hfr hl hf he hd hsz fun h' T ts hT k e1 e2 e3 =>?_
  refine h h' T _ ts _ _ (.inr hT) k e1 (by rw[rN];exact hc) (by rw[acr];exact hdx) (eQ hd _) (by simpa using hsz) (by simp[hsz]) ?_ e2 rfl e3
  exact jQ (bM (aQ he) hT)
 ·refine aA (dF he hd h1 ?_);rw[if_pos (show(cP T != cX)=true from by simp)]
  refine aA (dF hT hdT h3 ?_);rcases hfl with rfl | rfl
  ·rw[if_neg (show ¬((cX==mU L)=true) from by simp[mU])]
   refine aA (wpAny_setField hT hdT (bH.mp h3).1 ?_);have k0:KeptBut (frs (env::outer)) [T] s.heap (s.heap.update T (qU (·.setIfInBounds 3 cX))):=KeptBut.upd;have he':=(bQ s.heap (qU (·.setIfInBounds 3 cX)) hTa).trans he;refine ajx hfr (hl.of_keeps fun b o hb hnf =>?_) hf he' hd hsz fun h' T' ts' hT' k e1 e2 e3 =>?_
   ·exact⟨o,(bQ _ _ fun z=>by rw[<-z,hT] at hb;cases hb;exact hnf _ hdT).trans hb,rfl⟩
   ·have hsz':s.heap.objs.size<=T':=by
     have:(s.heap.update T (qU (·.setIfInBounds 3 cX))).objs.size=s.heap.objs.size:=Heap.size_after_update ..
     exact this▸hT'
    refine h h' T' _ ts' _ _ (.inr hsz') ((k0.sub (by simp)).trans (k.sub (by simp))) e1 (by rw[rN];exact hc) (by rw[acr];exact hdx) (eQ hd _) (by simpa using hsz) (by simp[hsz]) ?_ e2 rfl e3
    exact jQ (bM (aQ he) hsz')
  ·rw[if_pos (show(mU L==mU L)=true from by simp)]
   refine aJ (h s.heap T oT ts oe vs (.inl (by simp)) ⟨fun _ _ _ _ e=>e,fun _ o _ e=>⟨o.slots,e⟩⟩ he hc hdx hd hsz h1 hTa hT hdT h3)
theorem a1r{base:fD}{env:Env}{outer:List Env}{L a C:aY}{dx:Option aY}{ch:List aY}{Q:Unit->aH->Prop}
  (hfr:A.frames=some (env::outer)) (hl:s.heap.FunFrames base (env::outer)) (hf:env.frame=some L) (x:FlyAt s.heap a C dx ch L)
  (h:∀h' ch',(∀b∈ch',b∈ch∨s.heap.objs.size<=b)->KeptBut (frs (env::outer)) ch s.heap h'->(∀L',FlyAt h' a C dx ch' L')->Q () { s with heap:=h' }) :
  bL M A (leaving env (.ref a)) Q E s:=by
 unfold leaving;refine aA (a08 hfr hl hf x fun h' T oT ts oe vs hT k e1 e2 e3 e4 e5 e6 e7 e8 e9 e10 =>?_)
 unfold setFlight;refine aA (dF e1 e4 e6 ?_);rw[if_pos (show(cP T != cX)=true from by simp)]
 have hsz3:3 < ts.size:=(bH.mp e10).1;refine wpAny_setField e8 e9 hsz3 (h _ [a,T] (fun b hb =>?_) ?_ fun L'=>⟨oe,vs,(bQ _ _ e7).trans e1,e2,e3,e4,e5,.inr ⟨T,_,_,.none,rfl,e6,e7,eX _ e8 (jP (eQ e9 _)),eQ e9 _,by simp[hsz3],.inl rfl⟩⟩)
 ·have:b=a∨b=T:=by simpa using hb
  rcases this with rfl | rfl
  ·exact .inl x.fresh
  ·exact hT
 ·rcases hT with hT | hT
  ·exact k.trans (KeptBut.upd.sub (by simp[hT]))
  ·refine⟨fun b o n1 n2 e =>?_,fun b o n e =>?_⟩
   ·rw[bQ _ _ fun z=>absurd (aQ e) (by rw[<-z];exact lC.mpr hT)]
    exact k.keep b o n1 n2 e
   ·obtain⟨sl,q⟩:=k.slot b o n e;exact⟨sl,by rw[bQ _ _ fun z=>absurd (aQ e) (by rw[<-z];exact lC.mpr hT)];exact q⟩
end
end L2
namespace Dn
open L2 Mn
def azd(F:Hp)(dx:Option aY)(fs:List (Str×Int)):Prop:=(dx=none/\fs=[])∨∃d,dx=some d/\F d=some (.xd (fs.map fun p=>(p.1,V.int p.2)))
structure ClsOk (K:Fg9) (c:Str) (C:aY):Prop where
 ns:nsIn K bB c=some (some (.ref C))
 ok:ExcK K C
def FpX(X:Cx)(jv:List (aY×Obj))(H:Hp)(b:aY):Prop :=
 H b=none/\b≠X.env.locals/\b∉X.fs/\(b∈X.ex∨X.s₀.heap.get? b=none)/\(∀x c,X.env.cells.lookup x=some c->c≠b)/\∀p∈X.pn++jv,p.1≠b
section
variable{X:Cx}{jv:List (aY×Obj)}{σ:L2.St}{H H':Hp}{s:aH}
theorem Inv.fpX{b:aY}(I:Inv X jv σ H s)(hb:s.heap.get? b=none)(hn:H' b=none):FpX X jv H' b:=by
 have no:∀{o},s.heap.get? b=some o->False:=fun e=>by rw[hb] at e;cases e
 refine⟨hn,fun z =>?_,fun z =>?_,?_,fun x c e z =>?_,fun p hp z =>?_⟩
 ·obtain⟨m,⟨o,_,_,ho,_⟩,_⟩:=I.loc;rw[<-z] at ho;exact no ho
 ·obtain⟨_,o,ho,_⟩:=I.funs.mem z;exact no ho
 ·by_cases hx:b∈X.ex
  ·exact .inl hx
  ·refine .inr ?_;cases e:X.s₀.heap.get? b with
   | none=>rfl
   | some o =>
    obtain⟨o',e'⟩:=I.base.there b o e hx;exact(no e').elim
 ·obtain⟨v,o,ho,_⟩:=I.cell x c e;rw[z] at ho;exact no ho
 ·have:=(I.pin p hp).1;rw[z] at this;exact no this
theorem Inv.records{h':fD}{ch:List aY}(I:Inv X jv σ H s)(k:KeptBut (frs X.stack) ch s.heap h')(hch:∀b∈ch,FpX X jv H b):Inv X jv σ H { s with heap:=h' }:=by
 have nt:∀c z,H c=some z->c∉ch/\c∉frs X.stack:=fun c z q=>⟨(fun m=>by have:=(hch c m).1;rw[q] at this;cases this),(fun m=>by have:=I.stkFree c m;rw[q] at this;cases this)⟩
 have nb:∀b o,X.s₀.heap.get? b=some o->b∉X.ex->b∉ch:=fun b o e hx m=>by
  rcases(hch b m).2.2.2.1 with z | z
  ·exact hx z
  ·rw[z] at e;cases e
 have nl:∀b o,X.s₀.heap.get? b=some o->b∉X.fs->b∉frs X.stack:=fun b o e hf m=>by
  rcases aZ.mp (I.stkSub b m) with z | z
  ·exact absurd (aQ e) (by rw[z];exact lC.mpr I.ok.above)
  ·exact hf z
 have cellK:∀x c,X.env.cells.lookup x=some c->∀v,s.heap.IsCell c v->h'.IsCell c v:=fun x c e v hq0=>by
  obtain⟨o,ho,hd⟩:=hq0;obtain⟨sl,q⟩:=k.slot c o (fun m=>(hch c m).2.2.2.2.1 x c e rfl) ho
  exact⟨_,q,hd⟩
 refine⟨I.ok,I.os,I.bare,⟨fun b o e n hb hx=>k.keep b o (nb b o e hx) (nl b o e hb) (I.base.keep b o e n hb hx),fun b o e n hb hx =>?_,I.base.free,fun b o e hx =>?_,I.base.tups,I.base.frzs,I.base.tbls⟩,?_,fun x c e =>?_,I.free,I.freeC,fun p hp =>?_,fun b u e =>?_,I.len⟩
 ·obtain⟨sl,e1⟩:=I.base.slot b o e n hb hx;obtain⟨sl',e2⟩:=k.slot b _ (nb b o e hx) e1;exact⟨sl',e2⟩
 ·obtain⟨o',e1⟩:=I.base.there b o e hx;obtain⟨sl,e2⟩:=k.slot b o' (nb b o e hx) e1;exact⟨_,e2⟩
 ·obtain⟨m,⟨o,es,ep,ho,r⟩,hl⟩:=I.loc;obtain⟨sl,q⟩:=k.slot _ o (fun m=>(hch _ m).2.1 rfl) ho
  refine⟨m,⟨_,es,ep,q,r⟩,fun i x v e1 e2 e3 =>?_⟩
  obtain⟨u,rv,l⟩:=hl i x v e1 e2 e3;refine⟨u,rv,?_⟩;rcases l with l | ⟨kk,c,e,z⟩
  ·exact .inl l
  ·exact .inr ⟨kk,c,e,cellK x c e _ z⟩
 ·obtain⟨v,z⟩:=I.cell x c e;exact⟨v,cellK x c e v z⟩
 ·obtain⟨e,n,ne,nf,d⟩:=I.pin p hp;refine⟨k.keep p.1 p.2 (fun m=>(hch _ m).2.2.2.2.2 p hp rfl) (fun m =>?_) e,n,ne,nf,d⟩
  rcases aZ.mp (I.stkSub _ m) with z | z
  ·exact ne z
  ·exact nf z
 ·refine(I.hok b u e).stay (fun c v hc q =>?_) (fun _ q=>q) fun _ _ q=>q
  rcases hc with z | z
  ·rw[z] at q ⊢;exact k.keep _ _ (nt b u e).1 (nt b u e).2 q
  ·exact k.keep _ _ (nt c _ z).1 (nt c _ z).2 q
end
def FlyX(K:Fg9)(X:Cx)(jv:List (aY×Obj))(x:Exn)(F H:Hp)(h:fD)(e:aG):Prop :=
 ∃a C dx ch,e=.ref a/\ClsOk K x.cls C/\azd F dx x.fs/\FlyAt h a C dx ch X.env.locals/\∀b∈ch,FpX X jv H b
def RX(K:Fg9)(X:Cx)(jv:List (aY×Obj))(tg:Nat->aY)(ρ:Ro)(σ:L2.St)(F H:Hp)(x:Exn)(ρ':Ro)(e:aG)(s':aH):Prop :=
 ∃σ' H' F',Inv X jv σ' H' s'/\Good K tg F' H' ρ' σ'/\Ext (Own ρ σ) (Own ρ' σ') F H F' H'/\FlyX K X jv x F' H' s'.heap e
theorem RX.back{K:Fg9}{X:Cx}{jv:List (aY×Obj)}{tg:Nat->aY}{ρ ρ1 ρ':Ro}{σ σ1:L2.St}{F H F1 H1:Hp}{x:Exn}{e:aG}{s':aH}(q:Ext (Own ρ σ) (Own ρ1 σ1) F H F1 H1)(h:RX K X jv tg ρ1 σ1 F1 H1 x ρ' e s'):RX K X jv tg ρ σ F H x ρ' e s' :=
 let ⟨σ',H',F',I,G,y,f⟩:=h;⟨σ',H',F',I,G,q.trans y,f⟩
abbrev XGo(K:Fg9)(X:Cx)(α:Type)(c:Sem α)(m:Ro->Option (Exn×Ro)):Prop :=
 X.K=K->X.xe=(fun _ _=>False)->∀jv s σ H tg F ρ x ρ',Inv X jv σ H s->Good K tg F H ρ σ->m ρ=some (x,ρ')->bL (bY X.prog X.w) X.A c (fun _ _=>False) (RX K X jv tg ρ σ F H x ρ') s
def exE{α:Type}(m:M α):Ro->Option (Exn×Ro):=fun ρ=>match m ρ with
 | some (.exc x,ρ')=>some (x,ρ')
 | _=>none
def exS(g:Sd):Ro->Option (Exn×Ro):=fun ρ=>match g ρ with
 | some (.exc x,ρ')=>some (x,ρ')
 | _=>none
theorem ju{α:Type}{m:M α}{ρ ρ':Ro}{x:Exn}:exE m ρ=some (x,ρ')↔m ρ=some (.exc x,ρ'):=by
 unfold exE;split
 ·rename_i y ρ1 e;rw[e];constructor
  ·intro h;cases h;rfl
  ·intro h;cases h;rfl
 ·rename_i hn;constructor
  ·intro h;cases h
  ·intro h;exact absurd h (hn x ρ')
theorem qw{g:Sd}{ρ ρ':Ro}{x:Exn}:exS g ρ=some (x,ρ')↔g ρ=some (.exc x,ρ'):=by
 unfold exS;split
 ·rename_i y ρ1 e;rw[e];constructor
  ·intro h;cases h;rfl
  ·intro h;cases h;rfl
 ·rename_i hn;constructor
  ·intro h;cases h
  ·intro h;exact absurd h (hn x ρ')
structure XE (K:Fg9) (X:Cx) (e:dZ) {α:Type} (m:M α):Prop where
 go:XGo K X aG (eval e X.env) (exE m)
structure XA (K:Fg9) (X:Cx) (es:List dZ) {α:Type} (m:M α):Prop where
 go:∀(pos:Pos),XGo K X (List aG) (spliced (iZ pos (aX es X.env))) (exE m)
structure XS (K:Fg9) (X:Cx) (st:iY) (g:Sd):Prop where
 go:XGo K X Flow (exec st X.env) (exS g)
structure XSs (K:Fg9) (X:Cx) (ss:List iY) (g:Sd):Prop where
 go:XGo K X Flow (execs ss X.env) (exS g)
def NoX{α:Type}(m:M α):Prop:=∀ρ x ρ',m ρ≠some (.exc x,ρ')
def NoS(g:Sd):Prop:=∀ρ x ρ',g ρ≠some (.exc x,ρ')
section
variable{K:Fg9}{X:Cx}{e a b c:dZ}{es:List dZ}{pos p:Pos}{st:iY}{ss:List iY}
theorem XE.no{α:Type}{m:M α}(h:NoX m):XE K X e m:=⟨fun _ _ jv s σ H tg F ρ x ρ' I G em=>absurd (ju.mp em) (h ρ x ρ')⟩
theorem XS.no{g:Sd}(h:NoS g):XS K X st g:=⟨fun _ _ jv s σ H tg F ρ x ρ' I G em=>absurd (qw.mp em) (h ρ x ρ')⟩
theorem anl{α:Type}{m:M α}{k:α->Sd}{ρ ρ':Ro}{x:Exn}(h:dM m k ρ=some (.exc x,ρ')):m ρ=some (.exc x,ρ')∨∃a ρ1,m ρ=some (.ok a,ρ1)/\k a ρ1=some (.exc x,ρ'):=by
 unfold dM at h;split at h
 ·exact .inr ⟨_,_,by assumption,h⟩
 ·cases h;exact .inl (by assumption)
 ·cases h
theorem uv{α β:Type}{m:M α}{k:α->M β}{ρ ρ':Ro}{x:Exn}(h:m.bind k ρ=some (.exc x,ρ')):m ρ=some (.exc x,ρ')∨∃a ρ1,m ρ=some (.ok a,ρ1)/\k a ρ1=some (.exc x,ρ'):=by
 unfold M.bind at h;split at h
 ·exact .inr ⟨_,_,by assumption,h⟩
 ·cases h;exact .inl (by assumption)
 ·cases h
theorem XA.no{α:Type}{m:M α}(h:NoX m):XA K X es m:=⟨fun _ _ _ jv s σ H tg F ρ x ρ' I G em=>absurd (ju.mp em) (h ρ x ρ')⟩
theorem ao5:XSs K X [] dNx:=⟨fun _ _ jv s σ H tg F ρ x ρ' I G em=>by cases em⟩
theorem ad6{g:Sd}(h:XS K X st g):XSs K X [st] g:=⟨fun hk hn jv s σ H tg F ρ x ρ' I G em=>wpAny_execs_cons (bC (h.go hk hn jv s σ H tg F ρ x ρ' I G em) (fun _ _ z=>z.elim) fun _ _ z=>z)⟩
theorem afc{g k:Sd}(h:SV K X st g)(hx:XS K X st g)(t:XSs K X ss k):XSs K X (st::ss) (dSeq g k):=⟨fun hk hn jv s σ H tg F ρ x ρ' I G em=>by
 have em:=qw.mp em;unfold dSeq at em;split at em
 ·rename_i ρ1 e1;refine wpAny_execs_cons (bC (h.go hk jv s σ H { nx:=fun σ1 H1=>∃F1,Good K tg F1 H1 ρ1 σ1/\Ext (Own ρ σ) (Own ρ1 σ1) F H F1 H1,rt:=fun _ _=>False } I ⟨tg,F,ρ,.nx,ρ1,G,e1,fun σ' H' F' G' x=>⟨F',G',x⟩⟩) (fun f s1 q =>?_) fun e s1 q=>by rw[hn] at q;exact q.elim)
  cases f with
  | next =>
   obtain⟨σ1,H1,I1,F1,G1,x1⟩:=q;exact bC (t.go hk hn jv s1 σ1 H1 tg F1 ρ1 x ρ' I1 G1 (qw.mpr em)) (fun _ _ z=>z.elim) fun _ _ z=>z.back x1
  | ret v=>obtain⟨_,_,_,_,_,z⟩:=q;exact z.elim
  | brk=>obtain⟨_,_,_,z⟩:=q;exact z.elim
  | cont=>obtain⟨_,_,_,z⟩:=q;exact z.elim
 ·exact wpAny_execs_cons (bC (hx.go hk hn jv s σ H tg F ρ x ρ' I G (qw.mpr em)) (fun _ _ z=>z.elim) fun _ _ z=>z)⟩
theorem awe{α:Type}{m:M α}(h:XE K X e m)(hs:nQ e none pos.line X.env=pure false:=by rfl):XS K X (.Expr e pos) (aer m):=⟨fun hk hn jv s σ H tg F ρ x ρ' I G em=>by
 rcases anl (qw.mp em) with em | ⟨_,_,_,em⟩
 ·exact wpAny_Expr_any (bC (h.go hk hn jv s σ H tg F ρ x ρ' I G (ju.mpr em)) (fun _ _ z=>z.elim) fun _ _ z=>z) I.quiet hs
 ·cases em⟩
theorem azj{m:M Rv}(h:XE K X e m):XS K X (.Return (some e) pos) (dRet m):=⟨fun hk hn jv s σ H tg F ρ x ρ' I G em=>by
 rcases anl (qw.mp em) with em | ⟨_,_,_,em⟩
 ·exact wpAny_Return_some (bC (h.go hk hn jv s σ H tg F ρ x ρ' I G (ju.mpr em)) (fun _ _ z=>z.elim) fun _ _ z=>z)
 ·cases em⟩
theorem a4s{m:M Bool}{g k:Sd}{ss':List iY}(h:ET K X c m)(hm:NoX m)(h1:XSs K X ss g)(h2:XSs K X ss' k):XS K X (.If c ss ss' pos) (dIf m g k):=⟨fun hk hn jv s σ H tg F ρ x ρ' I G em=>by
 rcases anl (qw.mp em) with em | ⟨z,ρ1,e1,em⟩
 ·exact absurd em (hm _ _ _)
 ·refine wpAny_If (bC (h.go hk jv s σ H (fun b H1=>b=z/\∃F1,Good K tg F1 H1 ρ1 σ/\Ext (Own ρ σ) (Own ρ1 σ) F H F1 H1) I ⟨tg,F,ρ,z,ρ1,G,e1,fun H' F' G' x=>⟨rfl,F',G',x⟩⟩) (fun d s1 ⟨H1,I1,hz,F1,G1,x1⟩ =>?_) fun e s1 q=>by rw[hn] at q;exact q.elim)
  subst hz;cases d with
  | true=>exact bC (h1.go hk hn jv s1 σ H1 tg F1 ρ1 x ρ' I1 G1 (qw.mpr em)) (fun _ _ z=>z.elim) fun _ _ z=>z.back x1
  | false=>exact bC (h2.go hk hn jv s1 σ H1 tg F1 ρ1 x ρ' I1 G1 (qw.mpr em)) (fun _ _ z=>z.elim) fun _ _ z=>z.back x1⟩
def CX1(P:bV)(w:dO):CXT:=fun outer H s E e s'=>∃H' a C dx ch,e=.ref a/\s'.os=s.os/\qG s'.gens/\Un (frs outer) [] H H' s.heap s'.heap/\HOk P w H' s'.heap /\
 (∀L',FlyAt s'.heap a C dx ch L')/\(∀b∈ch,s.heap.get? b=none/\H' b=none)/\E (.ref C) dx H'
def spX(K:Fg9)(n:Nat)(f:Fd):Sp:=fun vs H _ E=>vs.length=n/\∃F as x ps,Good K (tgOf (vs.map some)) F H as (vs.map some)/\f as=some (.exc x,ps) /\
 ∀C dx H' F' O',Same F' H'->Ext (Own as (vs.map some)) O' F H F' H'->Fin K F' H' (vs.map some) ps O'->ClsOk K x.cls C->azd F' dx x.fs->E (.ref C) dx H'
def DfnX(P:bV)(w:dO)(K:Fg9)(mg:Str->Option aG)(base:fD)(x:Str)(ps:List Str)(k:Nat)(sp:Sp):Prop :=
 ∃(f:aY) (fd:fP),FnOk P w K mg base (CX1 P w) k f fd ps sp/\mg x=some (.ref f)/\nR K (.ref f)=true/\Binds K fd ps []
theorem ax4{f:Fd}{js:List (Option Nat)}{ms:M (List (Option D))}{ρ ρ':Ro}{x:Exn}(h:mFn f js ms ρ=some (.exc x,ρ')) :
  ms ρ=some (.exc x,ρ')∨∃ds ρ1 ps,ms ρ=some (.ok ds,ρ1)/\okJs ρ1 js=true/\f (lend ρ1 js ds)=some (.exc x,ps)/\ρ'=putB ρ1 js ps:=by
 rcases uv h with h | ⟨ds,ρ1,e1,em⟩
 ·exact .inl h
 ·split at em
  ·rename_i hj;split at em
   ·cases em
   ·rename_i y ps e2;cases em;exact .inr ⟨ds,ρ1,ps,e1,hj,e2,rfl⟩
   ·cases em
  ·cases em
theorem awf{f:Fd}{n k:Nat}{x:Str}{pn:List Str}{js:List (Option Nat)}{ms:M (List (Option D))}(F:DfnX X.prog X.w X.K X.mg X.base x pn k (spX K n f))(hr:Room k X.A)(hg:Gl X x)(ha:EG K X (e::es) js ms)(hxa:XA K X (e::es) ms)(hn:js.length=n:=by rfl)(hdb:(x==("__debug__" : Str))=false:=by decide)
  (he:aX (e::es) X.env=(false,eval e X.env)::aX es X.env:=by rfl) (hpl:(iZ pos (aX es X.env)).any (·.1)=false:=by rfl):XE K X (.Call (.Name x p) (e::es) [] pos) (mFn f js ms):=⟨fun hk hno jv s σ H tg F0 ρ y ρ' I G em=>by
 obtain⟨fa,fd,Fo,hm,hkp,hb⟩:=F;refine wpAny_Call_Name_kw (aem I hg hm ?_ hdb);rcases ax4 (ju.mp em) with em | ⟨ds,ρ1,ps,e1,hj,e2,rfl⟩
 ·exact nG (h₀:=X.base) I.ok.mod.kin hkp (bC (hxa.go pos hk hno jv s σ H tg F0 ρ y ρ' I G (ju.mpr em)) (fun _ _ z=>z.elim) fun _ _ z=>z) he hpl
 ·refine nG (h₀:=X.base) I.ok.mod.kin hkp (bC (ha.go hk pos jv s σ H (fun vs H1=>∃F1,Good K tg F1 H1 ρ1 σ/\Ext (Own ρ σ) (Own ρ1 σ) F0 H F1 H1/\AR K F1 σ js ds vs) I ⟨tg,F0,ρ,ds,ρ1,G,e1,fun vs H1 F1 G1 x1 ar=>⟨F1,G1,x1,ar⟩⟩) (fun us s1 ⟨vs,H1,I1,r,F1,G1,x1,ar⟩=>⟨I1.kIn,?_⟩) fun e s1 q=>by rw[hno] at q;exact q.elim) he hpl
  have L:=ar.lent;have hl:(us++[]).length=pn.length:=by
   rw[gF,<-r.length];exact Fo.len vs H1 (fun _ _=>True) (fun _ _ _=>True) ⟨by rw[ar.length];exact hn,F1,_,y,ps,aaa G1 hj L,e2,fun _ _ _ _ _ _ _ _ _ _=>trivial⟩
  have hbn:=hb s1 us I1.kIn hl;rw[gF] at hbn;refine wpAny_call (codeAny_mono (Fo.run X.A X.stack s1 H1 ⟨[]++us,[]⟩ us vs (fun _ _=>False) (fun cv dx H2=>∃C F2,cv=.ref C/\Good K tg F2 H2 (putB ρ1 js ps) σ/\Ext (Own ρ σ) (Own (putB ρ1 js ps) σ) F0 H F2 H2/\ClsOk K y.cls C/\azd F2 dx y.fs) hr I1.env0 hbn r
   ⟨by rw[ar.length];exact hn,F1,_,y,ps,aaa G1 hj L,e2,fun C dx H2 F2 O2 s2 x2 fin hc hf=>⟨C,F2,rfl,ab6 G1 L x2 s2 fin,x1.trans (ad5 G1 L x2),hc,hf⟩⟩) fun r s' hq =>?_)
  cases r with
  | ok fl =>
   cases fl with
   | ret u=>obtain⟨_,_,_,_,_,_,_,z⟩:=hq;exact z.elim
   | next=>exact fK hq
   | brk=>exact fK hq
   | cont=>exact fK hq
  | error er =>
   obtain⟨H',a,C,dx,ch,rfl,os,bare,un,hok,fl,hch,C',F2,ce,G2,x2,hc,hf⟩:=hq;cases ce;exact⟨σ,H',F2,I1.call' os un hok bare (fun b z=>absurd z (by simp)),G2,x2,a,C,dx,ch,rfl,hc,hf,fl _,fun b hb=>Inv.fpX I1 (hch b hb).1 (hch b hb).2⟩⟩
end
theorem fn_x{K:Fg9}{P:bV}{w:dO}{mg:Str->Option aG}{base:fD}{x qual:Str}{st:iY}{f:aY}{fd:fP}{N ps:List Str}{k nl np:Nat}{g:Sd}(F:Fun K x qual st f fd)(S:FnScope N ps (ao st))(h1:N.length=nl)(h2:ps.length=np)
  (body:∀(cdv:aG) (A:dB) (outer:List Env) (s:aH) (H:Hp) (E:XK),Room k (A.deeper (pH qual (ao st) s.heap.objs.size f cdv))->XSs K (cxOf CX0 P w K mg base N qual (ao st) f cdv A outer s H E).nox (ji st) g) :
  FnOk P w K mg base (CX1 P w) (k+1) f fd ps (spX K np (fnD nl np g)):=by
 subst h1 h2;obtain⟨oc,od,kV,doc,pm,an,cdv,ct,osl,rfl,lk,hcd⟩:=F.ex;refine a2o lk hcd S (fun vs H Q E h=>h.1) fun A outer s H vs Q E hr hsp =>?_
 obtain⟨hn,F0,as,y,ps',G,em,q⟩:=hsp;have hl:as.length=(vs.map some).length:=G.len;have G1:=G.app (N.length - vs.length);have es:start N vs=vs.map some++aF (N.length - vs.length) none:=rfl;unfold fnD at em;rw[<-hn] at em;have fin:∀{ρ':Ro} {σ':L2.St} {F' H':Hp},Good K (tgOf (vs.map some)) F' H' ρ' σ'->Fin K F' H' (vs.map some) (ρ'.take vs.length) (Own ρ' σ'):=fun{ρ' σ' F' H'} G'=>⟨fun i l e=>by
  have hi:=(aM.mp e).1;rw[fO] at hi;rw[iV (by omega)] at e
  obtain⟨o,ho,a,ws,rfl,hf,hh,hl,ht⟩:=G'.at e;rw[ht i rfl];exact⟨⟨i,⟨_,_,e⟩,ho⟩,hf,ws,hh,hl⟩⟩
 refine⟨fun _ σ0 H0=>σ0=start N vs/\H0=H,fun jv s1 σ0 H0 D I hs =>?_,rfl,rfl⟩
 obtain⟨hs1,hs2⟩:=hs;subst hs2;rw[hs1,es] at I;split at em
 ·cases em
 ·cases em
 ·rename_i y' ρ' e;cases em;have run:=(body cdv A outer s H0 E hr).go rfl rfl jv s1 _ H0 (tgOf (vs.map some)) F0 _ y ρ' (I.wish _) G1 (qw.mpr e);refine bC run (fun _ _ z=>z.elim) fun er s' z9 =>?_
  obtain⟨σ',H',F',J,G',x',a,C,dx,ch,e1,hc,hf,fl,hch⟩:=z9;subst e1;rw[zx hl] at x';show bL _ _ (leaving _ (.ref a)) _ _ s';refine a1r J.ok.frames J.stack rfl fl fun h' ch' hc' kb fl' =>?_
  have J2:=Inv.records J kb hch;have hsz:s.heap.objs.size<=s'.heap.objs.size:=J.sz;refine⟨H',a,C,dx,ch',rfl,J.os,J.bare,J2.base,J2.hok,fl',fun b hb =>?_,q C dx H' F' (Own ρ' σ') G'.sub x' (fin G') hc hf⟩
  rcases hc' b hb with z | z
  ·obtain⟨f1,_,_,f3,_⟩:=hch b z;rcases f3 with f3 | f3
   ·exact absurd (show b∈([]:List aY) from f3) (by simp)
   ·exact⟨f3,f1⟩
  ·exact⟨Heap.get?_none_of_le (cM hsz z),J.hok.fresh z⟩
 ·cases em
theorem aqg{P:bV}{w:dO}{H:Hp}{h:fD}{a:aY}{o:HO}(x:vd P w H h a o):∃ob,h.get? a=some ob:=by
 cases o with
 | lst xs=>obtain⟨_,_,_,_,e⟩:=x;exact⟨_,e⟩
 | tup xs=>obtain⟨_,_,_,ob,e,_⟩:=x;exact⟨_,e⟩
 | dK kvs=>obtain⟨_,_,_,_,o,_,_,e,_⟩:=x;exact⟨_,e⟩
 | dT kvs=>obtain⟨_,_,_,_,o,_,_,e,_⟩:=x;exact⟨_,e⟩
 | set S n=>obtain⟨o,_,_,_,e,_⟩:=x;exact⟨_,e⟩
 | ins C dx fs=>obtain⟨_,_,_,e,_⟩:=x;exact⟨_,e⟩
 | own y=>exact x
 | xd fs=>obtain⟨_,⟨_,_,_,e,_⟩,_⟩:=x;exact⟨_,e⟩
 | rng lo hi=>obtain⟨_,_,_,e⟩:=x;exact⟨_,e⟩
 | frz ob u=>exact⟨_,x.1⟩
 | tbl ps=>exact⟨_,x⟩
 | met f y=>exact⟨_,x⟩
 | ext φ=>exact x.2.1
abbrev bmV:List aG:=[.type "ValueError", .type "Exception", .type "BaseException", .type "object"]
theorem ayo{K:Fg9}{h:fD}{C:aY}{bmB:List aG}{newId:String}(X:K.In h)(q:oX K C bmB newId=true) :
  ∃bm N nm qn bs hdct sn sub ab col dd k0 k1 k2 k3 k5 mN,h.get? C=some (excClassObj nm qn C N bs bm hdct sn sub ab col dd k0 k1 k2 k3 k5 newId)/\h.Ns N mN/\mN "__init__" = none/\OwnTail h bmB bm:=by
 unfold oX at q;split at q
 ·rename_i dd cd sl ho;split at q
  ·rename_i C' bm k0 k1 k2 k3 n k5 hm hs;simp only[aV,beq_iff_eq,Bool.not_eq_true'] at q;obtain⟨⟨⟨⟨⟨e1,e2⟩,e3⟩,e4⟩,e5⟩,e6⟩:=q;subst e1 e2;obtain⟨nm,bs,mro,ns,qn,hd,sn,sub,ab,col,del⟩:=cd;have hm:mro=_:=hm;have e3:del=false:=e3;subst hm e3;have z:sl = #[k0,k1,k2,k3,some (.builtin n),k5]:=xR.mp hs;subst z;exact⟨bm,ns,nm,qn,bs,hd,sn,sub,ab,col,dd,k0,k1,k2,k3,k5,h.nsMap ns,X _ _ ho,.of_isNs (PySem.W.isNs_of_in X e5),PySem.W.nsMap_none_of_in X e5 e6,PySem.W.tail_of_in X e4⟩
  ·cases q
 ·cases q
def agm(x:Exn):Sd:=fun ρ=>some (.exc x,ρ)
section
variable{K:Fg9}{X:Cx}{c:Str}{C:aY}{np cpos pos:Pos}
theorem ao6(hcalm:X.calm=true)(hg:Gl X c)(hm:X.mg c=some (.ref C))(k:ClsOk X.K c C)(q:oX X.K C bmV "ValueError.__new__" = true)(hd:(c==("__debug__" : Str))=false:=by decide) :
  XS K X (.Raise (some (.Call (.Name c np) [] [] cpos)) none pos) (agm ⟨c,[]⟩):=⟨fun hk hn jv s σ H tg F ρ x ρ' I G em=>by
 have em:=qw.mp em;cases em;subst hk;obtain⟨tl,N,nm,qn,bs,hdct,sn,sub,ab,col,dd,k0,k1,k2,k3,k5,mN,hC,hN,hni,T⟩:=ayo I.kIn q;refine wpAny_Raise_call_subU (C:=C) (nm:=nm) (q:=qn) (N:=N) (bs:=bs) (bm:=tl) (hdct:=hdct) (sn:=sn) (sub:=sub) (ab:=ab) (col:=col) (dd:=dd) (k0:=k0) (k1:=k1) (k2:=k2) (k3:=k3) (k5:=k5)
  mY (by decide +kernel) mY (mN:=mN) (T.hasType mY.hasBase) (I.ok.hd hcalm) rfl hni ?_
 refine aem I hg hm ⟨rfl,?_⟩ hd;refine evalArgs_empty ⟨rfl,cI _,hC,hN,T,fun h' e hme =>?_⟩
 obtain⟨t,he,_,_⟩:=hme.there;have J:Inv X jv σ H { s with heap:=h' }:=I.kept (t':=s.toks) hme.keeps
 have hnH:H e=none:=by
  cases z:H e with
  | none=>rfl
  | some o =>
   obtain⟨ob,h1⟩:=aqg (I.hok e o z);have h2:s.heap.get? e=none:=hme.new;rw[h2] at h1;cases h1
 exact⟨σ,H,F,J,G,Ext.refl _ _ _,e,C,none,[e],rfl,k,.inl ⟨rfl,rfl⟩,⟨_,_,he,rfl,rfl,rfl,by simp,.inl ⟨rfl,rfl⟩⟩,fun b hb=>by
  obtain rfl:=bD.mp hb;exact Inv.fpX I hme.new hnH⟩⟩
end
end Dn
namespace L2
section
variable{X:Cx}{jv:List (aY×Obj)}{σ:List (Option V)}{H:Hp}{s:aH}
theorem a2t{M:wO}{A:dB}{E:aG->aH->Prop}{i:Nat}{x:Str}{v:V}{Q:Unit->aH->Prop}(I:Inv X jv σ H s)(hN:X.N.Nodup)(hi:X.N[i]? = some x)(hk:X.env.scope.names.lookup x=some .local)(hv:σ[i]? = some (some v))
  (h:∀s',Inv X jv (σ.set i none) H s'->Q () s'):bL M A (unbindName X.env x) Q E s:=by
 obtain⟨m,hn,hl⟩:=id I.loc;have hcls:(X.env.scope.kind==.class||(X.env.scope.kind==.module&&X.env.locals != X.env.globals))=false:=by rw[I.ok.kind];rfl
 have hiσ:i < σ.length:=(aM.mp hv).1;obtain⟨u,_,lk⟩:=hl i x v hi hv (.inl hk);have hmx:∃u,m x=some u:=by
  rcases lk with⟨_,e⟩ | ⟨k,_⟩
  ·exact⟨u,e⟩
  ·rcases k with k | k
   ·exact absurd (hk.symm.trans k) (by simp)
   ·exact absurd (hk.symm.trans k) (by simp)
 obtain⟨u0,hmx⟩:=hmx;refine wpAny_unbindName_local hk hn hmx hcls fun h' u' hn' hs=>h _ ?_
 have ne0:∀b o,X.s₀.heap.get? b=some o->b≠X.env.locals:=fun b o e=>bG (bM (aQ e) I.ok.above)
 refine⟨I.ok,I.os,I.bare,⟨fun b o e n hb hx=>(hs.2 b (ne0 b o e)).trans (I.base.keep b o e n hb hx),fun b o e n hb hx =>?_,I.base.free,fun b o e hx =>?_,I.base.tups,I.base.frzs,I.base.tbls⟩,⟨_,hn',fun j y v' e1 e2 e3 =>?_⟩,fun y c e =>?_,I.free,I.freeC,fun p hp =>?_,fun b ob e =>?_,by simpa using I.len⟩
 ·obtain⟨sl,e1⟩:=I.base.slot b o e n hb hx;exact⟨sl,(hs.2 b (ne0 b o e)).trans e1⟩
 ·obtain⟨o',e1⟩:=I.base.there b o e hx;exact⟨o',(hs.2 b (ne0 b o e)).trans e1⟩
 ·by_cases hj:j=i
  ·subst hj;rw[lO hiσ] at e2;cases e2
  ·rw[mH (mD hj)] at e2;obtain⟨u',r',q⟩:=hl j y v' e1 e2 e3;refine⟨u',r',?_⟩;rcases q with⟨k,e⟩ | ⟨k,c,e,z⟩
   ·refine .inl ⟨k,?_⟩;have:y≠x:=fun e=>hj (aib hN e1 (e▸hi))
    simp[this,e]
   ·exact .inr ⟨k,c,e,z.sameBut hs (I.cne y c e)⟩
 ·obtain⟨w',z⟩:=I.cell y c e;exact⟨w',z.sameBut hs (I.cne y c e)⟩
 ·obtain⟨e,n,ne,nf,d⟩:=I.pin p hp;exact⟨(hs.2 p.1 ne).trans e,n,ne,nf,d⟩
 ·have nL:∀c z,H c=some z->c≠X.env.locals:=fun c z q w=>by
   have:=I.free;rw[<-w,q] at this;cases this
  refine(I.hok b ob e).stay (fun c w' hc q=>(hs.2 c ?_).trans q) (fun _ q=>q) fun _ _ q=>q
  rcases hc with z | z
  ·rw[z];exact nL b ob e
  ·exact nL c _ z
end
section
variable{M:wO}{A:dB}{E:aG->aH->Prop}{s:aH}
theorem awi{fs:List aY}{a C:aY}{dx:Option aY}{ch:List aY}{L:aY}{Q:Unit->aH->Prop}(x:FlyAt s.heap a C dx ch L)(hT:ch≠[a])
  (h:∀h',KeptBut fs ch s.heap h'->(∀L',FlyAt h' a C dx ch L')->h'.get? a=s.heap.get? a->Q () { s with heap:=h' }):bL M A (setFlight (.ref a) none) Q E s:=by
 obtain⟨oe,vs,he,hc,hdx,hd,hsz,⟨_,e⟩ | ⟨T,oT,ts,fl,rfl,h1,hTa,hT,hdT,h3,hfl⟩⟩:=x.obj
 ·exact absurd e hT
 ·unfold setFlight;refine aA (dF he hd h1 ?_);rw[if_pos (show(cP T != cX)=true from by simp)]
  have hsz3:3 < ts.size:=(bH.mp h3).1;refine wpAny_setField hT hdT hsz3 (h _ (KeptBut.upd.sub (by simp)) (fun L'=>⟨oe,vs,(bQ _ _ hTa).trans he,hc,hdx,hd,hsz,.inr ⟨T,_,_,.none,rfl,h1,hTa,eX _ hT (jP (eQ hdT _)),eQ hdT _,by simp[hsz3],.inl rfl⟩⟩) (bQ _ _ hTa))
theorem aqh{base:fD}{env:Env}{outer:List Env}{L a C:aY}{dx:Option aY}{ch:List aY}{Q:Unit->aH->Prop}
  (hfr:A.frames=some (env::outer)) (hl:s.heap.FunFrames base (env::outer)) (hf:env.frame=some L) (x:FlyAt s.heap a C dx ch L)
  (h:∀h' ch',ch'≠[a]->(∀b∈ch',b∈ch∨s.heap.objs.size<=b)->KeptBut (frs (env::outer)) ch s.heap h'->(∀L',FlyAt h' a C dx ch' L')->Q () { s with heap:=h' }) :
  bL M A (noteFrame (.ref a) env) (fun _ s'=>bL M A (setFlight (.ref a) none) Q E s') E s:=by
 refine a08 hfr hl hf x fun h' T oT ts oe vs hT k e1 e2 e3 e4 e5 e6 e7 e8 e9 e10 =>?_
 unfold setFlight;refine aA (dF e1 e4 e6 ?_);rw[if_pos (show(cP T != cX)=true from by simp)]
 have hsz3:3 < ts.size:=(bH.mp e10).1;refine wpAny_setField e8 e9 hsz3 (h _ [a,T] (by simp) (fun b hb =>?_) ?_ fun L'=>⟨oe,vs,(bQ _ _ e7).trans e1,e2,e3,e4,e5,.inr ⟨T,_,_,.none,rfl,e6,e7,eX _ e8 (jP (eQ e9 _)),eQ e9 _,by simp[hsz3],.inl rfl⟩⟩)
 ·have:b=a∨b=T:=by simpa using hb
  rcases this with rfl | rfl
  ·exact .inl x.fresh
  ·exact hT
 ·rcases hT with hT | hT
  ·exact k.trans (KeptBut.upd.sub (by simp[hT]))
  ·refine⟨fun b o n1 n2 e =>?_,fun b o n e =>?_⟩
   ·rw[bQ _ _ fun z=>absurd (aQ e) (by rw[<-z];exact lC.mpr hT)]
    exact k.keep b o n1 n2 e
   ·obtain⟨sl,q⟩:=k.slot b o n e;exact⟨sl,by rw[bQ _ _ fun z=>absurd (aQ e) (by rw[<-z];exact lC.mpr hT)];exact q⟩
structure CatK (K:Fg9) (B:aY):Prop where
 cls:(mL K B).isSome=true
 ty:tQ K (.ref B)=some (.type "type")
 base:gQ K (.ref B) (.type "BaseException")=some true
theorem at6{K:Fg9}{a C B:aY}{oe:Obj}{b:Bool}{Q:Bool->aH->Prop}(X:K.In s.heap)(k:CatK K B)(he:s.heap.get? a=some oe)(hc:oe.cls=.ref C)(hs:gQ K (.ref C) (.ref B)=some b)(h:Q b s):bL M A (excMatches (.ref a) (.ref B)) Q E s:=by
 obtain⟨hp,g,d,tk,os⟩:=s;have L0:oY M hp (isInstance (.ref B) (.type "tuple")) false:=(PySem.W.looks_typeIn X k.ty).andThen (uX (by rw[isSubtype_type];kernel_rfl))
 have L1:oY M hp (isType (.ref B)) true:=by
  have z:=k.cls;unfold mL at z;split at z
  ·rename_i c' d' cd' sl' ho;intro A' Q' E' s' kk q;unfold isType loadHead;exact aA (wpAny_loadPart (kk _ _ (X _ _ ho)) (aJ q))
  ·cases z
 have L2:=vX (M:=M) X k.base;have L3:=vX (M:=M) X hs;have L4:oY M hp (isExcClass (.ref B)) true:=L1.andThen (by rw[if_pos rfl];exact L2)
 have L5:oY M hp (typeOf (.ref a)) (.ref C):=(PySem.W.Looks.ld he).andThen (uX (by rw[hc]))
 unfold excMatches;refine aA (L0.at ?_);simp only[cC,if_false];refine aA (aJ ?_);simp only[pZ,tV];refine aA (aA (aA (L4.at ?_)));rw[if_neg (by simp)]
 refine aJ (aJ (aA (L5.at (aA (aA (aA (L3.at ?_)))))));cases b with
 | true =>
  rw[if_pos rfl];exact aJ (aJ (aJ h))
 | false =>
  rw[if_neg dI];exact aJ (aJ (aJ h))
end
end L2
namespace Dn
open L2 Mn
def aii(c0 c:Str):Bool:=c0==c||c == "ArrowError" || c == "ValueError"
def clsAt(K:Fg9)(c:Str):Option aY:=match nsIn K bB c with
 | some (some (.ref C))=>some C
 | _=>none
def ahq(K:Fg9)(ns:List Str):Bool:=ns.all fun c0=>match clsAt K c0 with
 | some C0=>(ns.all fun c=>match clsAt K c with
  | some C=>gR K (.ref C0) (.ref C)==some (aii c0 c)
  | none=>false)&&gR K (.ref C0) (.type "ValueError")==some true
 | none=>false
theorem afj{K:Fg9}{c:Str}{C:aY}(h:nsIn K bB c=some (some (.ref C))):clsAt K c=some C:=by
 unfold clsAt;rw[h]
theorem amj{K:Fg9}{ns:List Str}{c0 c:Str}{C0 C:aY}(h:ahq K ns=true)(h0:ns.contains c0=true)(h1:ns.contains c=true)(e0:nsIn K bB c0=some (some (.ref C0)))(e1:nsIn K bB c=some (some (.ref C))) :
  gR K (.ref C0) (.ref C)=some (aii c0 c):=by
 have z:=bA.mp h c0 (iH.mp h0);rw[afj e0] at z;have z1:=bA.mp (vR.mp z).1 c (iH.mp h1);rw[afj e1] at z1;exact beq_iff_eq.mp z1
theorem awv{K:Fg9}{ns:List Str}{c0:Str}{C0:aY}(h:ahq K ns=true)(h0:ns.contains c0=true)(e0:nsIn K bB c0=some (some (.ref C0))):gR K (.ref C0) (.type "ValueError")=some true:=by
 have z:=bA.mp h c0 (iH.mp h0);rw[afj e0] at z;exact beq_iff_eq.mp (vR.mp z).2
def gIsC(ns:List Str)(c:Str):D->Option D
 | .exn c0 _=>if ns.contains c0 then some (.bl (aii c0 c)) else none
 | _=>none
def mIsC(ns:List Str)(c:Str)(m:M D):M D:=m.bind fun d=>lift (gIsC ns c d)
section
variable{K:Fg9}{X:Cx}{e:dZ}{pos p:Pos}
theorem akm{X:Cx}{cv:aG}{cV:V}(rc:∀u,RelV cV u->u=cv):adf X (.builtin "isinstance") (fun xs H Q=>∃F c0 fs x b,xs=[x,cV]/\Same F H/\Is X.K F (.exn c0 fs) x/\(∀C0,nsIn X.K bB c0=some (some (.ref C0))->gR X.K (.ref C0) cv=some b)/\Q (.bl b) H):=by
 intro jv s σ H xs us Q I r z9;obtain⟨F,c0,fs,x,b,e,g,h,hk1,q⟩:=z9;subst e;obtain⟨u,w',rfl,r1,r2⟩:=vals2 r;obtain rfl:=rc w' r2;have fin:∀tk,EP X jv σ Q (.bool b) { s with toks:=tk }:=fun tk=>⟨.bl _,H,I.tok tk,rfl,q⟩
 cases h with
 | @exn a C c dx fs e hc hk hf =>
  cases(show u=cP a from r1)
  obtain⟨⟨oe,ws,h1,h2,h3,h4⟩,_⟩:=(show vd X.prog X.w H s.heap a (.ext (exO a C dx)) from I.hok a _ (g _ _ e))
  have hno:qN oe=true:=by unfold qN;rw[h4]
  have ia:∃ox od,lY s.heap a ox C od:=by
   rcases hf with⟨rfl,_⟩ | ⟨d,rfl,hd⟩
   ·exact⟨oe,none,h1,h2,hno,by rw[h3];trivial⟩
   ·obtain⟨mA,⟨od,_,_,e1,_⟩,_⟩:=(show vd X.prog X.w H s.heap d (.xd _) from I.hok d _ (g _ _ hd))
    exact⟨oe,some od,h1,h2,hno,by rw[h3];exact e1⟩
  exact eE (am5 hk) I.kIn ia (hk1 C hc) (fun z=>nomatch z) fin
theorem av6{F H:Hp}{d:D}{v:V}{ns:List Str}{c:Str}{r:D}(b:Bor K F H d v)(e:gIsC ns c d=some r):∃c0 fs,d=.exn c0 fs/\Is K F (.exn c0 fs) v/\ns.contains c0=true/\r=.bl (aii c0 c):=by
 cases d with
 | exn c0 fs =>
  have e:(if ns.contains c0 then some (D.bl (aii c0 c)) else none)=some r:=e
  split at e
  ·rename_i hn;cases e;refine⟨c0,fs,rfl,?_,hn,rfl⟩;rcases b with b | ⟨_,_,_,z,_⟩
   ·exact b
   ·cases z
  ·cases e
 | _=>cases e
theorem ays{ns:List Str}{c:Str}{C:aY}{m:M D}{x:Str}{pc:Pos}(sub:ahq K ns=true)(h1:ns.contains c=true)(hgC:Gl X c)(hmC:X.mg c=some (.ref C))(hnC:nsIn K bB c=some (some (.ref C)))
  (hg:Gl X x) (hm:X.mg x=none) (hv:bT x=some (.builtin "isinstance")) (h:EB K X e m) (hdC:(c==("__debug__" : Str))=false:=by decide) (hn:x ≠ "__name__" := by decide) (hdb:(x==("__debug__" : Str))=false:=by decide)
  (h1':aX [.Name c pc] X.env=(false,eval (.Name c pc) X.env)::aX [] X.env:=by rfl) (he:aX [e,.Name c pc] X.env=(false,eval e X.env)::aX [.Name c pc] X.env:=by rfl) (hpl:(iZ pos (aX [.Name c pc] X.env)).any (·.1)=false:=by rfl) :
  EV K X (.Call (.Name x p) [e,.Name c pc] [] pos) (mIsC ns c m):=EV.mk fun hk=>by
 refine PE.imp (adp (akm (cv:=.ref C) (cV:=.ref C) fun u r=>r) hg hm hv (uh (h hk) (uh (axj (v:=.ref C) hgC hmC rfl hdC) aex h1') he) hn hdb he hpl) fun σ H Q z9 =>?_
 obtain⟨tg,F,ρ,d,ρ',G,em,q⟩:=z9;obtain⟨d1,ρ1,e1,em⟩:=bc em;obtain⟨e2,rfl⟩:=gn em;subst hk;refine⟨tg,F,ρ,d1,_,G,e1,fun v H' F' G' x bv =>?_⟩
 obtain⟨c0,fs,rfl,hi,h0,rfl⟩:=av6 bv e2;exact⟨F',c0,fs,v,_,rfl,G'.sub,hi,fun C0 e0=>amj sub h0 h1 e0 hnC,q _ H' F' G' x (.bl _)⟩
theorem ayr{ns:List Str}{m:M D}{x:Str}{pc:Pos}(sub:ahq K ns=true)(hgC:Gl X "ValueError")(hmC:X.mg "ValueError" = none)(hvC:bT "ValueError" = some (.type "ValueError"))
  (hg:Gl X x) (hm:X.mg x=none) (hv:bT x=some (.builtin "isinstance")) (h:EB K X e m) (hn:x ≠ "__name__" := by decide) (hdb:(x==("__debug__" : Str))=false:=by decide)
  (h1':aX [.Name "ValueError" pc] X.env=(false,eval (.Name "ValueError" pc) X.env)::aX [] X.env:=by rfl) (he:aX [e,.Name "ValueError" pc] X.env=(false,eval e X.env)::aX [.Name "ValueError" pc] X.env:=by rfl) (hpl:(iZ pos (aX [.Name "ValueError" pc] X.env)).any (·.1)=false:=by rfl) :
  EV K X (.Call (.Name x p) [e,.Name "ValueError" pc] [] pos) (mIsC ns "ValueError" m):=EV.mk fun hk=>by
 refine PE.imp (adp (akm (cv:=.type "ValueError") (cV:=.ty "ValueError") fun u r=>r) hg hm hv (uh (h hk) (uh (afy hgC hmC hvC) aex h1') he) hn hdb he hpl) fun σ H Q z9 =>?_
 obtain⟨tg,F,ρ,d,ρ',G,em,q⟩:=z9;obtain⟨d1,ρ1,e1,em⟩:=bc em;obtain⟨e2,rfl⟩:=gn em;subst hk;refine⟨tg,F,ρ,d1,_,G,e1,fun v H' F' G' x bv =>?_⟩
 obtain⟨c0,fs,rfl,hi,h0,rfl⟩:=av6 bv e2;refine⟨F',c0,fs,v,aii c0 "ValueError", rfl,G'.sub,hi,fun C0 e0 =>?_,q _ H' F' G' x (.bl _)⟩
 rw[awv sub h0 e0];simp[aii]
end
theorem aiz:bT "ValueError" = some (.type "ValueError"):=by decide +kernel
@[simp] theorem a6c(ns:List Str)(c:Str)(m:M D)(ρ:Ro):mIsC ns c m ρ=(m.bind fun d=>lift (gIsC ns c d)) ρ:=rfl
@[simp] theorem a4g(ns:List Str)(c c0:Str)(fs:List (Str×Int)):gIsC ns c (.exn c0 fs)=if ns.contains c0 then some (.bl (aii c0 c)) else none:=rfl
end Dn
namespace L2
structure RoomU (k:Nat) (A:dB):Prop where
 dp:A.depth+3*k+5 < recursionLimit
 un:A.units+16*k+200 < cLine
 gd:A.guards=some []
theorem RoomU.mono{j k:Nat}{A:dB}(r:RoomU k A)(h:j<=k):RoomU j A:=⟨by have:=r.dp;omega,by have:=r.un;omega,r.gd⟩
theorem RoomU.deeper{k:Nat}{A:dB}(r:RoomU (k+1) A)(env:Env):RoomU k (A.deeper env) :=
 ⟨by have:=r.dp;show A.depth+1+3*k+5 < _;omega,by have:=r.un;show A.units+3+16*k+200 < _;omega,r.gd⟩
theorem RoomU.depth{k:Nat}{A:dB}(r:RoomU k A):A.depth < recursionLimit:=by have:=r.dp;omega
theorem RoomU.units{k:Nat}{A:dB}(r:RoomU k A):A.units+64 < cLine:=by have:=r.un;omega
theorem Room.mark{k:Nat}{A:dB}(r:Room k A)(e:aG):RoomU k (A.mark (some e)):=⟨r.dp,r.un,r.gd⟩
def cxU(P:bV)(w:dO)(K:Fg9)(mg:Str->Option aG)(base:fD)(N:List Str)(qual:Str)(scope:mX)(f:aY)(cd:aG)(A:dB)(outer:List Env)(s:aH)(H:Hp):Cx :=
 { (cxOf CX0 P w K mg base N qual scope f cd A outer s H E0).nox with calm:=false }
structure FnOkU (P:bV) (w:dO) (K:Fg9) (mg:Str->Option aG) (base:fD) (k:Nat) (f:aY) (fd:fP) (ps:List Str) (sp:Sp):Prop where
 len:∀vs H Q E,sp vs H Q E->vs.length=ps.length
 run:∀(A:dB) (outer:List Env) (s:aH) (H:Hp) (args:Args) (us:List aG) (vs:List V) (Q:VK),RoomU k A->Env0 P w K mg base A outer s H->rT s fd args (ps.zip us)->Vals vs us->sp vs H Q E0 ->
  qP (bY P w) A (.call (.ref f) args) (CR CX0 outer P w H s Q E0) s
theorem Fun.okU{P:bV}{w:dO}{K:Fg9}{mg:Str->Option aG}{base:fD}{x qual:Str}{st:iY}{f:aY}{fd:fP}{N ps:List Str}{k:Nat}{sp:Sp}(F:Fun K x qual st f fd)(S:FnScope N ps (ao st))(len:∀vs H Q E,sp vs H Q E->vs.length=ps.length)
  (hbody:∀(cdv:aG) (A:dB) (outer:List Env) (s:aH) (H:Hp) (vs:List V) (Q:VK),RoomU k (A.deeper (pH qual (ao st) s.heap.objs.size f cdv))->sp vs H Q E0 ->
   ∃t,PSs (cxU P w K mg base N qual (ao st) f cdv A outer s H) (ji st) t/\t { nx:=fun _ H'=>Q .non H',rt:=Q } (start N vs) H):FnOkU P w K mg base (k+1) f fd ps sp:=by
 obtain⟨oc,od,kV,doc,pm,an,cdv,ct,osl,rfl,lk,hcd⟩:=F.ex;refine⟨len,fun A outer s H args us vs Q hr e0 hb r hsp =>?_⟩
 have hl:=len _ _ _ _ hsp;have KX:K.In s.heap:=e0.mod.kin.keeps fun b o e=>(e0.bs b o e).1
 have lim:s.heap.NoLimit:=e0.mod.nolimit.keeps fun b o e=>(e0.bs b o e).1
 have hkind:∀y∈ps.zip us,(ao st).names.lookup y.1=some .local∨((ao st).names.lookup y.1=some .cell/\((cellsFrom (s.heap.objs.size+1) (ao st).names []).lookup y.1).isSome=true):=fun y hy=>by
  rcases S.par y.1 (lH hy).1 with q | q
  ·exact .inl q
  ·exact .inr ⟨q,pM _ _ _ (.inl q)⟩
 refine codeAny_call_function hr.depth (KX _ _ lk) rfl S.co S.gen rfl (wB KX hcd) (hb _ _ _ _ ?_);refine wpAny_newFunctionEnv_cells S.kind hkind fun env he s1 x =>?_
 subst he;refine⟨lim.keeps x.toInCall.keep,codeAny_func ?_⟩;obtain⟨t,ht,hq⟩:=hbody cdv A outer s H vs Q (hr.deeper _) hsp;have e1:Env0 P w K mg base { A with handled:=none } outer s H:=⟨e0.frames,e0.mod,e0.bs,e0.bsz,e0.funs,e0.frf,e0.hok,e0.bare⟩
 have J:Inv (cxOf CX0 P w K mg base N qual (ao st) f cdv { A with handled:=none } outer s H E0) [] (start N vs) H s1:=aj3 S rfl e1 hl r x
 have I:Inv (cxU P w K mg base N qual (ao st) f cdv A outer s H) [] (start N vs) H s1 :=
  ⟨⟨J.ok.mod,J.ok.kind,J.ok.glob,J.ok.blt,J.ok.above,J.ok.inj,J.ok.has,J.ok.cab,(fun z=>absurd z dI),vU e0.frames,J.ok.stk,J.ok.exf,J.ok.bs,J.ok.bsz,J.ok.noex,J.ok.exfs,J.ok.funs,J.ok.frf⟩,J.os,J.bare,J.base,J.loc,J.cell,J.free,J.freeC,J.pin,J.hok,J.len⟩
 refine bC (ht [] s1 (start N vs) H _ I hq) (fun fl s' hs =>?_) fun e s' hs=>fK hs
 have fin:∀{σ':St} {H':Hp} {v:V} {u:aG},Inv (cxU P w K mg base N qual (ao st) f cdv A outer s H) [] σ' H' s'->RelV v u->Q v H'->CE outer P w H s Q u s' :=
  fun{σ' H' v u} J rv q=>⟨v,H',J.os,J.bare,J.base,J.hok,rv,q⟩
 cases fl with
 | ret u =>
  obtain⟨v,σ',H',J,rv,q⟩:=hs;exact fin J rv q
 | next =>
  obtain⟨σ',H',J,q⟩:=hs;exact fin (v:=V.non) (u:=cX) J rfl q
 | brk =>
  obtain⟨_,_,_,q⟩:=hs;exact fK q
 | cont =>
  obtain⟨_,_,_,q⟩:=hs;exact fK q
def DfnU(P:bV)(w:dO)(K:Fg9)(mg:Str->Option aG)(base:fD)(x:Str)(ps:List Str)(k:Nat)(sp:Sp):Prop :=
 ∃(f:aY) (fd:fP),FnOkU P w K mg base k f fd ps sp/\mg x=some (.ref f)/\nR K (.ref f)=true/\Binds K fd ps []
theorem a0u{X:Cx}{x:Str}{ps:List Str}{k:Nat}{sp:Sp}{e:dZ}{es:List dZ}{t:TA}{p pos:Pos}(F:DfnU X.prog X.w X.K X.mg X.base x ps k sp)(hr:RoomU k X.A)(hg:Gl X x)(ha:PA X (e::es) t)(hdb:(x==("__debug__" : Str))=false:=by decide)
  (he:aX (e::es) X.env=(false,eval e X.env)::aX es X.env:=by rfl) (hpl:(iZ pos (aX es X.env)).any (·.1)=false:=by rfl):PE X (.Call (.Name x p) (e::es) [] pos) (awp sp [] E0 t):=by
 obtain⟨f,fd,F,hm,hk,hb⟩:=F;intro jv s σ H Q I h;refine wpAny_Call_Name_kw (aem I hg hm ?_ hdb);refine nG (h₀:=X.base) I.ok.mod.kin hk (thn (ha pos jv s σ H _ I h) fun us s1 ⟨vs,H1,I1,r,q⟩=>⟨I1.kIn,?_⟩) he hpl
 have q:sp (vs++[]) H1 Q E0:=q;rw[gF] at q;have hl:(us++[]).length=ps.length:=by rw[gF,<-r.length];exact F.len _ _ _ _ q
 have hbn:=hb s1 us I1.kIn hl;rw[gF] at hbn;refine wpAny_call (codeAny_mono (F.run X.A X.stack s1 H1 ⟨[]++us,[]⟩ us vs Q hr I1.env0 hbn r q) fun r s' hq =>?_)
 cases r with
 | error e=>exact fK hq
 | ok fl =>
  cases fl with
  | ret u=>exact I1.after hq
  | next=>exact fK hq
  | brk=>exact fK hq
  | cont=>exact fK hq
end L2
namespace Dn
open L2 Mn
theorem a2r{K:Fg9}{X:Cx}{e:dZ}{es:List dZ}{pos p:Pos}{f:Fd}{n k:Nat}{x:Str}{pn:List Str}{js:List (Option Nat)}{ms:M (List (Option D))}(F:DfnU X.prog X.w X.K X.mg X.base x pn k (spOf K n f))(hr:RoomU k X.A)(hg:Gl X x)(ha:EG K X (e::es) js ms)(hn:js.length=n:=by rfl)(hdb:(x==("__debug__" : Str))=false:=by decide)
  (he:aX (e::es) X.env=(false,eval e X.env)::aX es X.env:=by rfl) (hpl:(iZ pos (aX es X.env)).any (·.1)=false:=by rfl):ER K X (.Call (.Name x p) (e::es) [] pos) (mFn f js ms):=ER.mk fun hk=>PE.imp (a0u F hr hg (ha hk) hdb he hpl) fun σ H Q z9=>by
 obtain⟨tg,F,ρ,r,ρ',G,em,q⟩:=z9;obtain⟨ds,ρ1,ps,e1,hj,e2,rfl⟩:=avy em;refine⟨tg,F,ρ,ds,ρ1,G,e1,fun vs H1 F1 G1 x1 ar =>?_⟩
 have L:=ar.lent;show spOf K n f (vs++[]) H1 Q E0;rw[gF];refine⟨by rw[ar.length];exact hn,F1,_,r,ps,aaa G1 hj L,e2,fun v H' F' O' s' x' fin rr =>?_⟩
 exact q v H' F' (ab6 G1 L x' s' fin) (x1.trans (ad5 G1 L x')) (nq x1 (ai1 G1 L fin rr))
theorem aym{K:Fg9}{P:bV}{w:dO}{mg:Str->Option aG}{base:fD}{x qual:Str}{st:iY}{f:aY}{fd:fP}{N ps:List Str}{k nl np:Nat}{g:Sd}(F:Fun K x qual st f fd)(S:FnScope N ps (ao st))(h1:N.length=nl)(h2:ps.length=np)
  (body:∀(cdv:aG) (A:dB) (outer:List Env) (s:aH) (H:Hp),RoomU k (A.deeper (pH qual (ao st) s.heap.objs.size f cdv))->SVs K (cxU P w K mg base N qual (ao st) f cdv A outer s H) (ji st) g) :
  FnOkU P w K mg base (k+1) f fd ps (spOf K np (fnD nl np g)):=by
 subst h1 h2;refine F.okU S (fun vs H Q E h=>h.1) fun cdv A outer s H vs Q hr h=>⟨_,body cdv A outer s H hr rfl,?_⟩
 obtain⟨hn,F,as,r,ps',G,em,q⟩:=h;have hl:as.length=(vs.map some).length:=G.len;have G1:=G.app (N.length - vs.length);have es:start N vs=vs.map some++aF (N.length - vs.length) none:=rfl;rw[es];unfold fnD at em;rw[<-hn] at em;have fin:∀{ρ':Ro} {σ':L2.St} {F' H':Hp},Good K (tgOf (vs.map some)) F' H' ρ' σ'->Fin K F' H' (vs.map some) (ρ'.take vs.length) (Own ρ' σ'):=fun{ρ' σ' F' H'} G'=>⟨fun i l e=>by
  have hi:=(aM.mp e).1;rw[fO] at hi;rw[iV (by omega)] at e
  obtain⟨o,ho,a,ws,rfl,hf,hh,hl,ht⟩:=G'.at e;rw[ht i rfl];exact⟨⟨i,⟨_,_,e⟩,ho⟩,hf,ws,hh,hl⟩⟩
 split at em
 ·rename_i r' ρ' e;cases em;refine⟨_,F,_,.ret r,ρ',G1,e,fun v σ' H' F' G' x' rr =>?_⟩
  rw[zx hl] at x' rr;exact q v H' F' (Own ρ' σ') G'.sub x' (fin G') rr
 ·rename_i ρ' e;cases em;refine⟨_,F,_,.nx,ρ',G1,e,fun σ' H' F' G' x' =>?_⟩
  rw[zx hl] at x';exact q .non H' F' (Own ρ' σ') G'.sub x' (fin G') .non
 ·cases em
 ·cases em
def cxH(X:Cx)(ev:aG):Cx:={ X with A:=X.A.mark (some ev),calm:=false }
section
variable{K:Fg9}{X:Cx}{jv:List (aY×Obj)}{σ:L2.St}{H:Hp}{s:aH}{tg:Nat->aY}{F:Hp}{ρ:Ro}
theorem Inv.hnd(I:Inv X jv σ H s)(ev:aG):Inv (cxH X ev) jv σ H s :=
 ⟨⟨I.ok.mod,I.ok.kind,I.ok.glob,I.ok.blt,I.ok.above,I.ok.inj,I.ok.has,I.ok.cab,(fun z=>absurd z dI),I.ok.frames,I.ok.stk,I.ok.exf,I.ok.bs,I.ok.bsz,I.ok.noex,I.ok.exfs,I.ok.funs,I.ok.frf⟩,I.os,I.bare,I.base,I.loc,I.cell,I.free,I.freeC,I.pin,I.hok,I.len⟩
theorem Inv.unhnd{ev:aG}(hd:X.calm=true->X.A.handled=none)(I:Inv (cxH X ev) jv σ H s):Inv X jv σ H s :=
 ⟨⟨I.ok.mod,I.ok.kind,I.ok.glob,I.ok.blt,I.ok.above,I.ok.inj,I.ok.has,I.ok.cab,hd,I.ok.frames,I.ok.stk,I.ok.exf,I.ok.bs,I.ok.bsz,I.ok.noex,I.ok.exfs,I.ok.funs,I.ok.frf⟩,I.os,I.bare,I.base,I.loc,I.cell,I.free,I.freeC,I.pin,I.hok,I.len⟩
theorem Inv.track{a:aY}{o:HO}(I:Inv X jv σ H s)(f:FpX X jv H a)(new:vd X.prog X.w (upd H a o) s.heap a o):Inv X jv σ (upd H a o) s:=by
 have ne:∀b z,H b=some z->b≠a:=fun b z q w=>by rw[w,f.1] at q;cases q
 refine⟨I.ok,I.os,I.bare,⟨I.base.keep,I.base.slot,fun b o' e n hx =>?_,I.base.there,fun b xs q =>?_,fun b ob u q =>?_,fun b ps q =>?_⟩,I.loc,I.cell,?_,fun x c e =>?_,fun p hp =>?_,fun b u e =>?_,I.len⟩
 ·rw[cj (fun w=>by
   rcases f.2.2.2.1 with z | z
   ·exact hx (w▸z)
   ·rw[w,z] at e;cases e)]
  exact I.base.free b o' e n hx
 ·have:=I.base.tups b xs q;rw[cj (ne _ _ this)];exact this
 ·have:=I.base.frzs b ob u q;rw[cj (ne _ _ this)];exact this
 ·obtain⟨more,h1⟩:=I.base.tbls b ps q;exact⟨more,by rw[cj (ne _ _ h1)];exact h1⟩
 ·rw[cj (mD f.2.1)];exact I.free
 ·rw[cj (f.2.2.2.2.1 x c e)];exact I.freeC x c e
 ·obtain⟨h1,h2,h3,h4,h5⟩:=I.pin p hp;exact⟨h1,by rw[cj (f.2.2.2.2.2 p hp)];exact h2,h3,h4,h5⟩
 ·by_cases hb:b=a
  ·subst hb;rw[gk] at e;cases e;exact new
  ·rw[cj hb] at e;refine(I.hok b u e).stay (fun c v _ q=>q) (fun c q =>?_) fun c xs q =>?_
   ·rw[cj (ne _ _ q)];exact q
   ·rw[cj (ne _ _ q)];exact q
theorem aod{i:Nat}{a:aY}{σ':L2.St}(hs:∀j,j≠i->σ'[j]? = σ[j]?)(h:Own (cG ρ i .emp) σ' a):Own ρ σ a:=by
 obtain⟨j,⟨t,l,e⟩,q⟩:=h;rw[bN] at e
 by_cases hj:i=j
 ·subst hj;rw[if_pos rfl] at e;split at e <;> cases e
 ·rw[if_neg hj] at e;exact⟨j,⟨t,l,e⟩,by rw[<-hs j (mD hj)];exact q⟩
theorem Good.forget(G:Good K tg F H ρ σ)(i:Nat):Good K tg F H (cG ρ i .emp) (cG σ i none) where
 sub:=G.sub
 len:=by rw[dR,dR];exact G.len
 sl:=fun j s o e q=>by
  rw[bN] at e q
  by_cases hj:i=j
  ·subst hj;rw[if_pos rfl] at e;split at e
   ·cases e;trivial
   ·cases e
  ·rw[if_neg hj] at e q;exact G.sl j s o e q
 inj:=fun j k a ⟨⟨t,l,e⟩,q⟩ ⟨⟨t',l',e'⟩,q'⟩=>by
  have f:∀{j t l},(cG ρ i Sl.emp)[j]? = some (Sl.own t l)->i≠j:=fun{j t l} e z=>by
   subst z;rw[bN,if_pos rfl] at e;split at e <;> cases e
  have n1:=f e;have n2:=f e';rw[bN,if_neg n1] at e q;rw[bN,if_neg n2] at e' q';exact G.inj j k a ⟨⟨t,l,e⟩,q⟩ ⟨⟨t',l',e'⟩,q'⟩
theorem Ext.less{O O' O2:aY->Prop}{F H F' H':Hp}(x:Ext O O' F H F' H')(h:∀a,O2 a->O' a):Ext O O2 F H F' H':=⟨x.sub,x.new,x.keep,fun a z=>x.own a (h a z),x.there⟩
theorem ap1{O O' O2:aY->Prop}{F' H H':Hp}{r:Rv}{v:V}(x:relR K r v H O F' H' O')(h:∀a,O2 a->O' a):relR K r v H O F' H' O2:=by
 cases r with
 | v d=>exact x
 | fr l =>
  obtain⟨a,vs,e1,e2,e3,e4,e5,e6⟩:=x;exact⟨a,vs,e1,e2,e3,e4,e5,fun z=>e6 (h a z)⟩
 | tf d l =>
  obtain⟨t,u,a,vs,e0,e1,e2,e3,e4,e5,e6,e7⟩:=x;exact⟨t,u,a,vs,e0,e1,e2,e3,e4,e5,e6,fun z=>e7 (h a z)⟩
end
def dTry(ns:List Str)(gb:Sd)(i:Nat)(gh:Sd):Sd:=fun ρ=>match gb ρ with
 | some (.exc x,ρ1)=>if ns.contains x.cls then match gh (cG ρ1 i (.val (.exn x.cls x.fs))) with
   | some (.exc _,_)=>none
   | some (fl,ρ2)=>some (fl,cG ρ2 i .emp)
   | none=>none
  else none
 | r=>r
structure CatN (K:Fg9) (B:aY):Prop extends CatK K B where
 ns:nsIn K bB "ArrowError" = some (some (.ref B))
 self:gQ K (.ref B) (.ref B)=some true
theorem an6{K:Fg9}{C B:aY}(k:CatN K B)(h:gR K (.ref C) (.ref B)=some true):gQ K (.ref C) (.ref B)=some true:=by
 by_cases e:C=B
 ·rw[e];exact k.self
 ·have h1:(if (cP C==cP B)=true then some true else yL K (.ref C) (.ref B))=some true:=h
  rw[if_neg (fun z=>e (yM (beq_iff_eq.mp z)))] at h1
  have h2:(if ((mL K B).isSome&&tQ K (.ref B)==some (.type "type"))=true then gQ K (.ref C) (.ref B) else none)=some true:=h1
  split at h2
  ·exact h2
  ·cases h2
def a7m(K:Fg9)(tg:Nat->aY)(ρ:Ro)(σ:L2.St)(F H:Hp)(ρ2:Ro)(fl:Fl):Ends where
 nx:=fun σ6 H6=>fl=.nx/\∃F6,Good K tg F6 H6 ρ2 σ6/\Ext (Own ρ σ) (Own ρ2 σ6) F H F6 H6
 bk:=fun σ6 H6=>fl=.brk/\∃F6,Good K tg F6 H6 ρ2 σ6/\Ext (Own ρ σ) (Own ρ2 σ6) F H F6 H6
 ct:=fun σ6 H6=>fl=.cont/\∃F6,Good K tg F6 H6 ρ2 σ6/\Ext (Own ρ σ) (Own ρ2 σ6) F H F6 H6
 rt:=fun v H6=>∃r σ6 F6,fl=.ret r/\Good K tg F6 H6 ρ2 σ6/\Ext (Own ρ σ) (Own ρ2 σ6) F H F6 H6/\relR K r v H (Own ρ σ) F6 H6 (Own ρ2 σ6)
section
variable{K:Fg9}{X:Cx}{pos hpos bp:Pos}{n:Str}{B:aY}{i:Nat}{b₀:iY}{body suite:List iY}{ns:List Str}{gb gh:Sd}
theorem azv(hcalm:X.calm=true)(hno:X.xe=fun _ _=>False)(hfr:X.env.frame=some X.env.locals)(hst:X.stack=X.env::X.outer)(hN:X.N.Nodup)(hi:X.N[i]? = some n)(hk0:X.env.scope.names.lookup n=some .local)
  (hgB:Gl X "ArrowError") (hmB:X.mg "ArrowError" = some (.ref B)) (cat:CatN K B) (sub:ahq K ns=true) (hB:ns.contains "ArrowError" = true) (hb:SVs K X body gb) (hx:XSs K X body gb) (hh:∀ev,SVs K (cxH X ev) (b₀::suite) gh) :
  SV K X (.Try body [.ExceptHandler (some (.Name "ArrowError" bp)) (some n) (b₀::suite) hpos] [] [] pos) (dTry ns gb i gh):=SV.mk fun hk jv s σ H E I z9=>by
 obtain⟨tg,F,ρ,fl,ρ',G,em,q⟩:=z9;refine wpAny_Try_except ?_;unfold dTry at em;split at em
 ·rename_i x ρ1 e1;split at em
  ·rename_i hc0;split at em
   ·cases em
   ·rename_i fl' ρ2 hne e2;cases em;refine bC (hx.go hk hno jv s σ H tg F ρ x ρ1 I G (qw.mpr e1)) (fun _ _ z=>z.elim) fun er s1 z9 =>?_
    obtain⟨σ1,H1,F1,I1,G1,x1,a,C,dx,ch,ea,hc,hf,fly,hch⟩:=z9;subst ea;have hl1:=I1.stack;rw[hst] at hl1;refine aqh (by rw[<-hst];exact I1.ok.frames) hl1 hfr fly fun h2 ch2 hne2 hch2 kb2 fly2 =>?_
    rw[<-hst] at kb2;have I2:=Inv.records I1 kb2 hch;have fp2:∀b∈ch2,FpX X jv H1 b:=fun b hb=>by
     rcases hch2 b hb with z | z
     ·exact hch b z
     ·exact Inv.fpX I1 (vP z) (I1.hok.fresh z)
    obtain⟨oe,vs,he,hcl,_⟩:=(fly2 X.env.locals).obj;have hsub:=an6 cat (by have z:=amj sub hc0 hB hc.ns cat.ns;rw[z];simp[aii])
    refine wpAny_handleBy_cons (codeAny_handlers_test (aem (X:=cxH X (.ref a)) (Inv.hnd I2 _) hgB hmB ?_ (by decide))) (by intro z;cases z)
    refine at6 (hk▸I2.kIn) cat.toCatK he hcl hsub ?_;refine codeAny_handlers_suite_as ?_;refine awi (fs:=frs X.stack) (fly2 X.env.locals) hne2 fun h3 kb3 fly3 ha3 =>?_
    have I3:=Inv.records I2 kb3 fp2;obtain⟨oe3,vs3,he3,hcl3,hdx3,hd3,_⟩:=(fly3 X.env.locals).obj;have fa:FpX X jv H1 a:=fp2 a (fly2 X.env.locals).fresh;have I4:=Inv.track (o:=.ext (exO a C dx)) I3 fa ⟨⟨oe3,vs3,he3,hcl3,hdx3,hd3⟩,⟨oe3,he3⟩,fun g1 g2 ⟨o,vs',h1,h2,h3,h4⟩ kp=>⟨o,vs',kp o h1,h2,h3,h4⟩⟩
    have G4:=G1.new fa.1 (.ext (exO a C dx));have x4:=G1.newX fa.1 (.ext (exO a C dx));have isE:Is K (upd F1 a (.ext (exO a C dx))) (.exn x.cls x.fs) (.ref a):=.exn gk hc.ns hc.ok (hf.imp id fun⟨d,h1,h2⟩=>⟨d,h1,x4.sub _ _ h2⟩)
    obtain⟨G5,x5⟩:=G4.storeV i isE;refine adg I4 hN hi (.inl hk0) (v:=.ref a) rfl (fun s5 I5 =>?_) (.inr hk0)
    have hx5:=(x1.trans x4).trans x5;have back:∀{f:Flow} {s6:aH} {σ6:L2.St} {H6:Hp},Inv (cxH X (.ref a)) jv σ6 H6 s6->(∀s7,Inv X jv (cG σ6 i none) H6 s7->SP X jv E f s7) ->
      bL (bY X.prog X.w) X.A (do bindName X.env n .none;unbindBehindTheSuite X.env n hpos) (fun _ s7=>SP X jv E f s7) X.xe s6:=fun{f s6 σ6 H6} I6 fin=>by
     have I6:=Inv.unhnd I.ok.hd I6;refine aA (wpAny_bindName (adg I6 hN hi (.inl hk0) (v:=.non) rfl (fun s7 I7 =>?_) (.inr hk0)))
     unfold unbindBehindTheSuite;refine wpAny_onRaise (a2t I7 hN hi hk0 (v:=.non) (lO (by rw[I6.len];exact(aM.mp hi).1)) fun s8 I8=>fin s8 ?_)
     rw[List.set_set] at I8;exact I8
    refine bC ((hh (.ref a)).go hk jv s5 _ _ (a7m K tg ρ σ F H ρ2 fl) (Inv.hnd I5 (.ref a))
      ⟨tg,_,_,fl,ρ2,G5,e2,?_⟩) (fun f s6 hs =>?_) fun _ _ z=>by
       have z:X.xe _ _:=z;rw[hno] at z;exact z.elim
    ·cases fl with
     | nx=>exact fun σ6 H6 F6 G6 x6=>⟨rfl,F6,G6,hx5.trans x6⟩
     | brk=>exact fun σ6 H6 F6 G6 x6=>⟨rfl,F6,G6,hx5.trans x6⟩
     | cont=>exact fun σ6 H6 F6 G6 x6=>⟨rfl,F6,G6,hx5.trans x6⟩
     | ret r=>exact fun v σ6 H6 F6 G6 x6 rr=>⟨r,σ6,F6,rfl,G6,hx5.trans x6,nq hx5 rr⟩
     | exc y=>exact(hne y rfl).elim
    ·have sub6:∀(σ6:L2.St) (a:aY),Own (cG ρ2 i .emp) (cG σ6 i none) a->Own ρ2 σ6 a:=fun σ6 a z=>aod (fun j hj=>mH (mD hj)) z
     cases f with
     | next =>
      obtain⟨σ6,H6,I6,rfl,F6,G6,x6⟩:=hs;exact back I6 fun s7 I7=>⟨_,H6,I7,q _ H6 F6 (G6.forget i) (x6.less (sub6 σ6))⟩
     | brk =>
      obtain⟨σ6,H6,I6,rfl,F6,G6,x6⟩:=hs;exact back I6 fun s7 I7=>⟨_,H6,I7,q _ H6 F6 (G6.forget i) (x6.less (sub6 σ6))⟩
     | cont =>
      obtain⟨σ6,H6,I6,rfl,F6,G6,x6⟩:=hs;exact back I6 fun s7 I7=>⟨_,H6,I7,q _ H6 F6 (G6.forget i) (x6.less (sub6 σ6))⟩
     | ret u =>
      obtain⟨v,σ6,H6,I6,rv,r,σ6',F6,rfl,G6,x6,rr⟩:=hs;exact back I6 fun s7 I7=>⟨v,_,H6,I7,rv,q v _ H6 F6 (G6.forget i) (x6.less (sub6 σ6')) (ap1 rr (sub6 σ6'))⟩
   ·cases em
  ·cases em
 ·rename_i hn;refine bC (hb.go hk jv s σ H E I ⟨tg,F,ρ,fl,ρ',G,em,q⟩) (fun f s1 z =>?_) fun er s1 z=>by rw[hno] at z;exact z.elim
  cases f with
  | next=>exact wpAny_execs_nil z
  | ret v=>exact z
  | brk=>exact z
  | cont=>exact z
end
def okS{α:Type}(m:M α):M α:=fun ρ=>match m ρ with
 | some (.ok a,ρ1)=>some (.ok a,ρ1)
 | _=>none
def dOk(g:Sd):Sd:=fun ρ=>match g ρ with
 | some (.exc _,_)=>none
 | r=>r
@[simp] theorem a7r{α:Type}(m:M α)(ρ:Ro):okS m ρ=match m ρ with
 | some (.ok a,ρ1)=>some (.ok a,ρ1)
 | _=>none:=rfl
@[simp] theorem a70(g:Sd)(ρ:Ro):dOk g ρ=match g ρ with
 | some (.exc _,_)=>none
 | r=>r:=rfl
theorem ajw{α:Type}{m:M α}{ρ ρ':Ro}{o:Out α}(h:okS m ρ=some (o,ρ')):m ρ=some (o,ρ')/\∃a,o=.ok a:=by
 unfold okS at h;split at h
 ·rename_i a ρ1 e;cases h;exact⟨e,a,rfl⟩
 ·cases h
theorem awa{g:Sd}{ρ ρ':Ro}{fl:Fl}(h:dOk g ρ=some (fl,ρ')):g ρ=some (fl,ρ')/\∀x,fl≠.exc x:=by
 unfold dOk at h;split at h
 ·cases h
 ·rename_i hn;exact⟨h,fun x e=>hn x ρ' (by rw[h,e])⟩
theorem ac1{α:Type}{m:M α}:NoX (okS m):=fun ρ x ρ' h=>by
 obtain⟨_,a,e⟩:=ajw h;cases e
theorem axx{g:Sd}:NoS (dOk g):=fun ρ x ρ' h=>(awa h).2 x rfl
section
variable{K:Fg9}{X:Cx}{e a b c:dZ}{es:List dZ}{pos p:Pos}{st:iY}{ss:List iY}
theorem SV.s{g:Sd}(h:SV K X st g):SV K X st (dOk g):=SV.mk fun hk=>PS.imp (h.go hk) fun E σ H ⟨tg,F,ρ,fl,ρ',G,em,q⟩=>⟨tg,F,ρ,fl,ρ',G,(awa em).1,q⟩
theorem EV.s{m:M D}(h:EV K X e m):EV K X e (okS m):=EV.mk fun hk=>PE.imp (h.go hk) fun σ H Q ⟨tg,F,ρ,d,ρ',G,em,q⟩=>⟨tg,F,ρ,d,ρ',G,(ajw em).1,q⟩
theorem ER.s{m:M Rv}(h:ER K X e m):ER K X e (okS m):=ER.mk fun hk=>PE.imp (h.go hk) fun σ H Q ⟨tg,F,ρ,d,ρ',G,em,q⟩=>⟨tg,F,ρ,d,ρ',G,(ajw em).1,q⟩
theorem ET.s{m:M Bool}(h:ET K X e m):ET K X e (okS m):=ET.mk fun hk=>fun jv s σ H Q I ⟨tg,F,ρ,d,ρ',G,em,q⟩=>h.go hk jv s σ H Q I ⟨tg,F,ρ,d,ρ',G,(ajw em).1,q⟩
theorem EG.s{js:List (Option Nat)}{m:M (List (Option D))}(h:EG K X es js m):EG K X es js (okS m):=EG.mk fun hk=>PA.imp (h.go hk) fun σ H Q ⟨tg,F,ρ,d,ρ',G,em,q⟩=>⟨tg,F,ρ,d,ρ',G,(ajw em).1,q⟩
theorem afd{x:Exn}:SV K X st (agm x):=SV.mk fun _=>PS.imp atj fun E σ H z9=>by
 obtain⟨tg,F,ρ,fl,ρ',G,em,q⟩:=z9;cases em;exact(show False from q).elim
theorem ame{g:Sd}:XS K X st (dOk g):=XS.no axx
theorem XE.d{m:M Rv}(h:XE K X e m):XE K X e m.d:=⟨fun hk hn jv s σ H tg F ρ x ρ' I G em=>by
 rcases uv (ju.mp em) with em | ⟨_,_,_,em⟩
 ·exact h.go hk hn jv s σ H tg F ρ x ρ' I G (ju.mpr em)
 ·cases em⟩
theorem XE.v{m:M D}(h:XE K X e m):XE K X e m.v:=⟨fun hk hn jv s σ H tg F ρ x ρ' I G em=>by
 rcases uv (ju.mp em) with em | ⟨_,_,_,em⟩
 ·exact h.go hk hn jv s σ H tg F ρ x ρ' I G (ju.mpr em)
 ·cases em⟩
theorem amf{α:Type}{l:α}:XA K X [] (ret l):=XA.no fun ρ x ρ' h=>by cases h
theorem xa_v{m:M D}{js:List (Option Nat)}{ms:M (List (Option D))}(h:EV K X e m)(hx:XE K X e m)(t:XA K X es ms)(hs:aX (e::es) X.env=(false,eval e X.env)::aX es X.env:=by rfl):XA K X (e::es) (b8 m ms):=⟨fun pos hk hn jv s σ H tg F ρ x ρ' I G em=>by
 rw[hs];refine qZ ?_;rcases uv (ju.mp em) with em | ⟨d,ρ1,e1,em⟩
 ·exact bC (hx.go hk hn jv s σ H tg F ρ x ρ' I G (ju.mpr em)) (fun _ _ z=>z.elim) fun _ _ z=>z
 ·rcases uv em with em | ⟨_,_,_,em⟩
  ·refine bC (h.go hk jv s σ H (fun _ H1=>∃F1,Good K tg F1 H1 ρ1 σ/\Ext (Own ρ σ) (Own ρ1 σ) F H F1 H1) I ⟨tg,F,ρ,d,ρ1,G,e1,fun v H1 F1 G1 x1 _=>⟨F1,G1,x1⟩⟩) (fun u s1 ⟨v,H1,I1,_,F1,G1,x1⟩ =>?_) fun e s1 q=>by rw[hn] at q;exact q.elim
   exact bC (t.go pos hk hn jv s1 σ H1 tg F1 ρ1 x ρ' I1 G1 (ju.mpr em)) (fun _ _ z=>z.elim) fun _ _ z=>z.back x1
  ·cases em⟩
theorem ao7{m:M D}{ms:M (List D)}(h:EV K X e m)(hx:XE K X e m)(t:XA K X es ms)(hs:aX (e::es) X.env=(false,eval e X.env)::aX es X.env:=by rfl):XA K X (e::es) (ak m ms):=⟨fun pos hk hn jv s σ H tg F ρ x ρ' I G em=>by
 rw[hs];refine qZ ?_;rcases uv (ju.mp em) with em | ⟨d,ρ1,e1,em⟩
 ·exact bC (hx.go hk hn jv s σ H tg F ρ x ρ' I G (ju.mpr em)) (fun _ _ z=>z.elim) fun _ _ z=>z
 ·rcases uv em with em | ⟨_,_,_,em⟩
  ·refine bC (h.go hk jv s σ H (fun _ H1=>∃F1,Good K tg F1 H1 ρ1 σ/\Ext (Own ρ σ) (Own ρ1 σ) F H F1 H1) I ⟨tg,F,ρ,d,ρ1,G,e1,fun v H1 F1 G1 x1 _=>⟨F1,G1,x1⟩⟩) (fun u s1 ⟨v,H1,I1,_,F1,G1,x1⟩ =>?_) fun e s1 q=>by rw[hn] at q;exact q.elim
   exact bC (t.go pos hk hn jv s1 σ H1 tg F1 ρ1 x ρ' I1 G1 (ju.mpr em)) (fun _ _ z=>z.elim) fun _ _ z=>z.back x1
  ·cases em⟩
theorem azl{k}{ms:M (List D)}(h:XA K X es ms):XE K X (.Tuple es k pos) (mTup ms):=⟨fun hk hn jv s σ H tg F ρ x ρ' I G em=>by
 rcases uv (ju.mp em) with em | ⟨_,_,_,em⟩
 ·exact wpAny_Tuple_spliced (bC (h.go pos hk hn jv s σ H tg F ρ x ρ' I G (ju.mpr em)) (fun _ _ z=>z.elim) fun _ _ z=>z)
 ·unfold lift at em;split at em <;> cases em⟩
end
section
variable{K:Fg9}{X:Cx}{e:dZ}{es:List dZ}{pos p:Pos}
end
def ClsT(K:Fg9)(mg:Str->Option aG)(c:Str):Prop:=∃C,mg c=some (.ref C)/\ClsOk K c C
def RaiT(K:Fg9)(mg:Str->Option aG)(c:Str):Prop:=∃C,mg c=some (.ref C)/\ClsOk K c C/\oX K C bmV "ValueError.__new__" = true
def CatT(K:Fg9)(mg:Str->Option aG):Prop:=∃B,mg "ArrowError" = some (.ref B)/\CatN K B
section
variable{K:Fg9}{X:Cx}{e:dZ}{pos p np cpos hpos bp:Pos}{c:Str}
theorem ai4(hk:X.K=K)(hcalm:X.calm=true)(hg:Gl X c)(h:RaiT K X.mg c)(hd:(c==("__debug__" : Str))=false:=by decide):XS K X (.Raise (some (.Call (.Name c np) [] [] cpos)) none pos) (agm ⟨c,[]⟩):=by
 obtain⟨C,hm,k,q⟩:=h;subst hk;exact ao6 hcalm hg hm k q hd
theorem vo{ns:List Str}{m:M D}{x:Str}{pc:Pos}(sub:ahq K ns=true)(h1:ns.contains c=true)(hgC:Gl X c)(hC:ClsT K X.mg c)(hg:Gl X x)(hm:X.mg x=none)(hv:bT x=some (.builtin "isinstance"))(h:EB K X e m)
  (hdC:(c==("__debug__" : Str))=false:=by decide) (hn:x ≠ "__name__" := by decide) (hdb:(x==("__debug__" : Str))=false:=by decide)
  (h1':aX [.Name c pc] X.env=(false,eval (.Name c pc) X.env)::aX [] X.env:=by rfl) (he:aX [e,.Name c pc] X.env=(false,eval e X.env)::aX [.Name c pc] X.env:=by rfl) (hpl:(iZ pos (aX [.Name c pc] X.env)).any (·.1)=false:=by rfl) :
  EV K X (.Call (.Name x p) [e,.Name c pc] [] pos) (mIsC ns c m):=by
 obtain⟨C,hmC,k⟩:=hC;exact ays sub h1 hgC hmC k.ns hg hm hv h hdC hn hdb h1' he hpl
theorem aws{n:Str}{i:Nat}{b₀:iY}{body suite:List iY}{ns:List Str}{gb gh:Sd}(hcalm:X.calm=true)(hno:X.xe=fun _ _=>False)(hfr:X.env.frame=some X.env.locals)(hst:X.stack=X.env::X.outer)(hN:X.N.Nodup)(hi:X.N[i]? = some n)(hk0:X.env.scope.names.lookup n=some .local)
  (hgB:Gl X "ArrowError") (hB:CatT K X.mg) (sub:ahq K ns=true) (hB2:ns.contains "ArrowError" = true) (hb:SVs K X body gb) (hx:XSs K X body gb) (hh:∀ev,SVs K (cxH X ev) (b₀::suite) gh) :
  SV K X (.Try body [.ExceptHandler (some (.Name "ArrowError" bp)) (some n) (b₀::suite) hpos] [] [] pos) (dTry ns gb i gh):=by
 obtain⟨B,hm,cat⟩:=hB;exact azv hcalm hno hfr hst hN hi hk0 hgB hm cat sub hB2 hb hx hh
end
@[simp] theorem a2u(x:Exn)(ρ:Ro):agm x ρ=some (.exc x,ρ):=rfl
def ayp(K:Fg9)(C:aY):Bool:=(qJ K (.ref C) "__getattribute__" == some (some (.builtin "BaseException.__getattribute__")))&&(qJ K (.ref C) "__getattr__" == some none)&&(oW K C (.type "BaseException")==some true)&&nW K C&&(qJ K (.ref C) "__class__" == some (some (.builtin "object.__class__")))&&(lU K (.builtin "object.__class__") "__get__" == some (some (.builtin "getset_descriptor.__get__"))) &&
 (pR K (.builtin "object.__class__")==some true)&&(oW K C (.type "object")==some true)&&["int","bool","tuple","list","str","dict"].all fun T=>gQ K (.ref C) (.type T)==some false
theorem auy{K:Fg9}{C:aY}(h:ayp K C=true):ExcK K C:=by
 unfold ayp at h;simp only[aV,beq_iff_eq] at h;obtain⟨⟨⟨⟨⟨⟨⟨⟨h0,h1⟩,h8⟩,h2⟩,h3⟩,h4⟩,h5⟩,h6⟩,h7⟩:=h;exact⟨h0,h1,h8,h2,h3,h4,h5,h6,fun T hT=>beq_iff_eq.mp (bA.mp h7 T hT)⟩
def arv(K:Fg9)(ns:List Str):Bool:=ns.all fun c=>match clsAt K c with
 | some C=>ayp K C
 | none=>false
def avs(K:Fg9)(ns:List Str):Bool:=ns.all fun c=>match clsAt K c with
 | some C=>oX K C bmV "ValueError.__new__"
 | none=>false
def catB(K:Fg9):Bool:=match clsAt K "ArrowError" with
 | some B=>nW K B&&(tQ K (.ref B)==some (.type "type"))&&(gQ K (.ref B) (.type "BaseException")==some true)&&(gQ K (.ref B) (.ref B)==some true)
 | none=>false
theorem afk{K:Fg9}{c:Str}{C:aY}(h:clsAt K c=some C):nsIn K bB c=some (some (.ref C)):=by
 unfold clsAt at h;split at h
 ·rename_i C' e;cases h;exact e
 ·cases h
section
variable{K:Fg9}{h:fD}{mg:Str->Option aG}{ns:List Str}{c:Str}
theorem uc(X:K.In h)(G:h.Ns bB mg)(e:arv K ns=true)(hc:ns.contains c=true):ClsT K mg c:=by
 have z:=bA.mp e c (iH.mp hc);split at z
 ·rename_i C q;exact⟨C,mg_of X G (afk q),afk q,auy z⟩
 ·cases z
theorem abt{rs:List Str}(X:K.In h)(G:h.Ns bB mg)(e:arv K ns=true)(hc:ns.contains c=true)(e2:avs K rs=true)(hr:rs.contains c=true):RaiT K mg c:=by
 obtain⟨C,h1,h2⟩:=uc X G e hc;have z:=bA.mp e2 c (iH.mp hr);rw[afj h2.ns] at z;exact⟨C,h1,h2,z⟩
theorem ay1(X:K.In h)(G:h.Ns bB mg)(e:catB K=true):CatT K mg:=by
 unfold catB at e;split at e
 ·rename_i B q;simp only[aV,beq_iff_eq] at e;obtain⟨⟨⟨h1,h2⟩,h3⟩,h4⟩:=e;obtain⟨cd,hc,_⟩:=pI h1;exact⟨B,mg_of X G (afk q),⟨by rw[hc];rfl,h2,h3⟩,afk q,h4⟩
 ·cases e
end
end Dn
namespace Stt
open PySem
def Rise(t:dX):Prop:=t.place.toList.Pairwise (· < ·)
theorem Rise.lt{t:dX}(h:Rise t){i j:Nat}{x y:Nat}(hij:i < j)(hx:t.place[i]? = some x)(hy:t.place[j]? = some y):x < y:=by
 obtain⟨hi,rfl⟩:=bH.mp hx;obtain⟨hj,rfl⟩:=bH.mp hy;have:=eG.mp h i j (by simpa using hi) (by simpa using hj) hij
 simpa using this
def Cut(xs:Array Nat)(j p:Nat):Prop:=p<=xs.size/\(∀i x,i < p->xs[i]? = some x->x < j)/\∀i x,p<=i->xs[i]? = some x->j<=x
theorem ai0{xs:Array Nat}(hs:xs.toList.Pairwise (· < ·))(j:Nat):∀(fuel lo hi:Nat),hi - lo<=fuel->lo<=hi->hi<=xs.size->(∀i x,i < lo->xs[i]? = some x->x < j)->(∀i x,hi<=i->xs[i]? = some x->j<=x) ->
  Cut xs j (wJ xs j fuel lo hi)
 | 0,lo,hi,hf,hle,hsz,a,b=>by
  have:lo=hi:=by omega
  subst this;exact⟨hsz,a,b⟩
 | fuel+1,lo,hi,hf,hle,hsz,a,b=>by
  unfold wJ;split
  ·rename_i hlt;dsimp only;have hm:(lo+hi) / 2 < xs.size:=by omega
   have hg:xs.getD ((lo+hi) / 2) j=xs[(lo+hi) / 2]:=by simp[lF,hm]
   have hx:xs[(lo+hi) / 2]? = some (xs[(lo+hi) / 2]):=by simp[hm]
   rw[hg]
   by_cases hc:xs[(lo+hi) / 2] < j
   ·rw[if_pos hc];refine ai0 hs j fuel ((lo+hi) / 2+1) hi (by omega) (by omega) hsz (fun i x hi' hx' =>?_) b
    rcases lZ i ((lo+hi) / 2) with h | h
    ·exact vA (Rise.lt (t:={ mask:=0,place:=xs,dummies := #[],finger:=0,led:=true,moves:=0,plain:=true }) hs h hx' hx) hc
    ·have:i=(lo+hi) / 2:=by omega
     subst this;rw[hx] at hx';cases hx';exact hc
   ·rw[if_neg hc];refine ai0 hs j fuel lo ((lo+hi) / 2) (by omega) (by omega) (by omega) a (fun i x hi' hx' =>?_)
    rcases lZ ((lo+hi) / 2) i with h | h
    ·exact cM (lC.mp hc) (jR (Rise.lt (t:={ mask:=0,place:=xs,dummies := #[],finger:=0,led:=true,moves:=0,plain:=true }) hs h hx hx'))
    ·have:i=(lo+hi) / 2:=by omega
     subst this;rw[hx] at hx';cases hx';omega
  ·have:lo=hi:=by omega
   subst this;exact⟨hsz,a,b⟩
theorem agu{xs:Array Nat}(hs:xs.toList.Pairwise (· < ·))(j:Nat):Cut xs j (dC xs j) :=
 ai0 hs j xs.size 0 xs.size (by omega) (cI _) (aO _) (fun i x h _=>absurd h (pW _)) fun i x h hx=>by
  obtain⟨h',_⟩:=bH.mp hx;omega
theorem ak7{t:dX}(h:Rise t){j:Nat}(hj:t.place[dC t.place j]? ≠ some j):(eY t.place (dC t.place j) j).toList.Pairwise (· < ·):=by
 obtain⟨hp,a,b⟩:=agu h j;rw[uB];generalize hq:dC t.place j=p at *;rw[vM];refine⟨List.Pairwise.sublist (wQ _ _) h,?_,?_⟩
 ·rw[bW];refine⟨fun y hy =>?_,vH (List.drop_sublist _ _) h⟩
  obtain⟨i,hi,rfl⟩:=cT.mp hy;rw[jD,bF] at hi;rw[wR,fV];have h1:t.place[p+i]? = some t.place[p+i]:=by simp
  have h2:=b (p+i) _ (by omega) h1
  rcases Nat.eq_or_lt_of_le h2 with e | e
  ·exfalso;rcases Nat.eq_zero_or_pos i with z | z
   ·subst z;exact hj (by rw[e];exact h1)
   ·have h3:t.place[p]? = some t.place[p]:=by simp
    have h4:=h.lt (show p < p+i by omega) h3 h1
    have h5:=b p _ (aO _) h3;omega
  ·exact e
 ·intro x hx y hy;have hxj:x < j:=by
   obtain⟨i,hi,rfl⟩:=cT.mp hx;rw[fO,bF] at hi;rw[rP,fV];exact a i _ (by omega) (by simp)
  rcases aZ.mp hy with rfl | hy
  ·exact hxj
  ·obtain⟨i,hi,rfl⟩:=cT.mp hy;rw[jD,bF] at hi;rw[wR,fV];have:=b (p+i) t.place[p+i] (by omega) (by simp)
   omega
def Kept(b:Bool)(t:dX):Prop:=Rise t/\t.led=b
theorem aqt{m f mv:Nat}{b p:Bool}{hs:Array Int}{t:dX}{o:Array Nat}(e:oV m f mv b p hs=some (t,o)):Kept b t:=by
 unfold oV at e;cases e1:rG m hs with
 | none=>rw[e1] at e;cases e
 | some ow =>
  rw[e1] at e;cases e;refine⟨?_,rfl⟩;show uT _ _;dsimp only;have h0:((aR (m+1)).filterMap fun j=>(ow.getD j none).map (j,·)).map (·.1)=(aR (m+1)).filter fun j=>(ow.getD j none).isSome:=by
   generalize aR (m+1)=l
   induction l with
   | nil=>rfl
   | cons a r ih =>
    cases h:ow.getD a none with
    | none=>simp only[dY,xO,h,Option.map_none,Option.isSome_none];simpa using ih
    | some z=>simp only[dY,xO,h,xZ,Option.isSome_some,bR];simpa using ih
  rw[h0];exact vH List.filter_sublist lM
theorem aoq(b:Bool):Kept b (.fresh 0 0 b):=⟨List.Pairwise.nil,rfl⟩
open PySem.Spec PyProof.Rows
def keyE(e:Int×Value):Int:=match e.2 with
 | .int k _=>k
 | _=>0
def Ent(e:Int×Value):Prop:=∃k u,e=(hashInt k,qT k u)
structure SetG (w:dO) (es:Array (Int×Value)) (t:dX) (ns:List Int):Prop where
 ent:∀e∈es.toList,Ent e
 nd:(es.toList.map keyE).Nodup
 mem:∀k,k∈es.toList.map keyE↔k∈ns
 fit:t.fits es.size=true
 kept:Kept (!w.params.followText "set-order") t
def setO(es:Array (Int×Value))(ep:Nat)(t:dX):Obj:={ cls:=.type "set", dict:=none,data:=.set es ep t }
theorem SetG.empty(w:dO):SetG w #[] (.fresh 0 0 (!w.params.followText "set-order")) []:=⟨fun e he=>by simp at he,oK,fun k=>by simp,rfl,aoq _⟩
theorem SetG.push{w:dO}{es es':Array (Int×Value)}{t t':dX}{ns:List Int}{k:Int}{u:Tok}(g:SetG w es t ns)(hn:k∉es.toList.map keyE)(hp:es'.toList.Perm (es.push (hashInt k,.int k u)).toList)(hf:t'.fits es'.size=true)
  (hk:Kept (!w.params.followText "set-order") t'):SetG w es' t' (ns++[k]):=by
 rw[xF] at hp;have hm:=hp.map keyE;rw[cJ] at hm;refine⟨fun e he =>?_,?_,fun j =>?_,hf,hk⟩
 ·rcases bZ.mp (hp.mem_iff.mp he) with h | h
  ·exact g.ent e h
  ·rw[bD] at h;exact⟨k,u,h⟩
 ·rw[hm.nodup_iff,jX];refine⟨g.nd,by simp,fun a ha b hb e =>?_⟩
  simp only[bR,mC,bD] at hb;subst hb;subst e;exact hn ha
 ·rw[hm.mem_iff,bZ,bZ,g.mem j];rfl
section
variable{prog:bV}{w:dO}{A:dB}{E:aG->aH->Prop}{s:aH}
theorem aml{h:fD}{a:aY}{es es':Array (Int×Value)}{ep:Nat}{t t':dX}(ho:h.get? a=some (setO es ep t)):(h.update a (rM es' t')).get? a=some (setO es' (ep+1) t'):=by
 have:=eX (rM es' t') ho (by rw[putSet_of es' t' (o:=setO es ep t) rfl];rfl)
 rw[putSet_of es' t' (o:=setO es ep t) rfl] at this;exact this
end
section
variable{prog:bV}{w:dO}{A:dB}{R:Result->aH->Prop}{I:aY}{fp wr:List aY}{G:Array GenState->Array GenState->Prop}{n:Nat}{P:Nat->aG->Prop}{St:Nat->aH->Prop}
end
section
variable{prog:bV}{w:dO}{A:dB}{E:aG->aH->Prop}{s:aH}
abbrev fresh0(w:dO):Obj:=setO #[] 0 (.fresh 0 0 (!w.params.followText "set-order"))
theorem axy(a:aG){Q₁:aG->aH->Prop}(h:Q₁ (.ref s.heap.objs.size) { s with heap:=s.heap.push (fresh0 w) }) :
  qP (bY prog w) A (.call (.builtin "set.__new__") ⟨[.type "set", a],[]⟩) (wants Q₁ E) s:=by
 refine codeAny_of_tree ?_;show bL _ A.in1 (do checkBuiltinCall "set.__new__" ⟨[.type "set", a],[]⟩;again (.builtin "set.__new__" ⟨[.type "set", a],[]⟩)) _ _ s
 refine aA (wpAny_of_eq (F.newCall_set_1 a) (aJ ⟨plainId_quiet yH _,codeAny_builtin F.entry_set_new ?_⟩));rw[qI yH _];unfold jL.«set.__new__» Builtin.Frozenset.newClass;have hsub:=sub_set_self;obtain⟨hp,g,d,tk,os⟩:=s;dsimp only;wp_walk;refine wpAny_askSetting (aJ ?_);dsimp only;simp only[newObj];refine aA (wpAny_alloc (aJ ?_));exact aJ h
end
end Stt
namespace Dn
open PySem L2 Mn
theorem ag1{c:M Bool}{g:Sd}(Inv:Nat->Ro->Prop)(Done:Ro->Prop)(hs:∀k ρ,Inv k ρ->(∃ρ',c ρ=some (.ok false,ρ')/\Done ρ')∨∃ρ1 ρ2 k',c ρ=some (.ok true,ρ1)/\g ρ1=some (.nx,ρ2)/\k' < k/\Inv k' ρ2) :
  ∀(n k:Nat) (ρ:Ro),k < n->Inv k ρ->∃ρ',whileD c g n ρ=some (.nx,ρ')/\Done ρ'
 | 0,k,ρ,h,_=>absurd h (pW _)
 | n+1,k,ρ,h,h0=>by
  unfold whileD;rcases hs k ρ h0 with⟨ρ',e,d⟩ | ⟨ρ1,ρ2,k',e1,e2,hk,h2⟩
  ·rw[e];exact⟨ρ',rfl,d⟩
  ·rw[e1];dsimp only;rw[e2];exact ag1 Inv Done hs n k' ρ2 (by omega) h2
theorem aut:100000 < fuel:=by unfold fuel;decide
theorem al2(a b:Int):eqD (.int a) (.int b)=decide (a=b):=by
 show(a==b)=_
 by_cases h:a=b <;> simp[h]
theorem ay9(ns:List Int)(a:Int):(ns.map D.int).any (fun y=>eqD y (.int a))=decide (a∈ns):=by
 induction ns with
 | nil=>simp
 | cons x r ih=>simp[al2,aZ,ih,eq_comm]
theorem af2(n:Nat)(ns:List Int):(ns.map D.int).all (okD n)=true:=by
 induction ns with
 | nil=>rfl
 | cons x r ih=>simp[okD]
theorem ayg(neg:Bool)(a:Int)(ns:List Int):gIn neg (.int a) (.lst (ns.map D.int))=some (.v (.bl (if neg then !decide (a∈ns) else decide (a∈ns)))):=by
 have h:=af2 30 ns;have h2:=ay9 ns a;simp only[gIn,itemsD,h,h2];simp[okD]
theorem ait:∀(a b:List Int),eqDs (a.map D.int) (b.map D.int)=decide (a=b)
 | [],[]=>rfl
 | [],_::_=>rfl
 | _::_,[]=>rfl
 | x::r,y::t=>by
  show(eqD (.int x) (.int y)&&eqDs (r.map D.int) (t.map D.int))=_;rw[al2,ait r t]
  by_cases h:x=y <;> simp[h]
theorem ake(a b:List Int):eqD (.tup (a.map D.int)) (.tup (b.map D.int))=decide (a=b):=by
 rw[<-ait];exact ais _ _
theorem arb(r:List Int):∀x:Int,(0<=r.foldl (fun m y=>if decide (y < m)=true then y else m) x)↔0<=x/\∀y∈r,0<=y:=by
 induction r with
 | nil=>intro x;simp
 | cons z t ih =>
  intro x;rw[iB,ih]
  by_cases h:z < x
  ·simp only[h,decide_true,if_true,aZ,forall_eq_or_imp];constructor
   ·rintro⟨a,b⟩;exact⟨by omega,a,b⟩
   ·rintro⟨_,a,b⟩;exact⟨a,b⟩
  ·simp only[h,decide_false,cC,if_false,aZ,forall_eq_or_imp];constructor
   ·rintro⟨a,b⟩;exact⟨a,by omega,b⟩
   ·rintro⟨a,_,b⟩;exact⟨a,b⟩
def minI(ns:List Int):Int:=ad4 (fun i j=>decide (i < j)) ns
theorem at5{ns:List Int}(h:ns≠[]):0<=minI ns↔∀y∈ns,0<=y:=by
 cases ns with
 | nil=>exact absurd rfl h
 | cons x r =>
  show 0<=r.foldl (fun m y=>if decide (y < m)=true then y else m) x↔_
  rw[arb];simp
theorem aun{ns:List Int}(h:ns≠[]):ayf (.tup (ns.map D.int))=some (.v (.int (minI ns))):=by
 show(qb (ns.map D.int)).bind _=_;rw[abw];simp[h,minI]
theorem aj7{ns:List Int}(h:ns.length < 64):ain (.lst (ns.map D.int))=some (.fr ((sortI ns).map D.int)):=by
 show(qb (ns.map D.int)).bind _=_;rw[abw];simp[h]
@[simp] theorem a2l(d:D):alx [d]=(itemsD d).map afb:=rfl
@[simp] theorem a2h(a b:D):ayd [a,b]=(itemsD a).bind fun l1=>(itemsD b).bind fun l2=>if l1.length<=l2.length then some (afm l1 l2) else none:=rfl
@[simp] theorem a1h(ρ:Ro)(i:Nat)(ms:M (List D)):ag8 i ms ρ=((dj i).bind fun d0=>ms.bind fun ds=>(dj i).bind fun d=>(lift (match d0,d with
 | .lst _,.lst _=>some ()
 | .tup _,.tup _=>some ()
 | _,_=>none)).bind fun _=>lift (agf d ds)) ρ:=rfl
@[simp] theorem ayj(l:List D)(x:D):agf (.lst l) [x]=if okD 30 x&&l.all (okD 30) then some (.int (l.countP fun y=>eqD y x)) else none:=rfl
@[simp] theorem ayi(l:List D)(x:D):agf (.tup l) [x]=if okD 30 x&&l.all (okD 30) then some (.int (l.countP fun y=>eqD y x)) else none:=rfl
theorem ai2{ns:List Int}{k:Int}(h0:0<=k)(h1:k < (ns.length:Int)):atI (ns.map D.int) k=some (.int (ns.getD k.toNat 0)):=by
 have hk:k.toNat < ns.length:=by omega
 have q:atI (ns.map D.int) ((k.toNat:Nat):Int)=some (.int (ns.getD k.toNat 0)):=agv (by simp[aC hk])
 rw[show((k.toNat:Nat):Int)=k by omega] at q
 exact q
theorem aq1{n:Nat}{k:Int}(h0:0<=k)(h1:k < (n:Int)):ixN n k=some k.toNat:=by
 unfold ixN;simp[h0,h1]
open PySem.Spec PyProof.Rows
theorem jj{K:Fg9}{P:bV}{w:dO}{mg:Str->Option aG}{base:fD}{x qual:Str}{st:iY}{f:aY}{fd:fP}{N ps:List Str}{k nl np:Nat}{g:Sd}(F:Fun K x qual st f fd)(S:FnScope N ps (ao st))(h1:N.length=nl)(h2:ps.length=np)
  (body:∀(cdv:aG) (A:dB) (outer:List Env) (s:aH) (H:Hp) (E:XK),Room k (A.deeper (pH qual (ao st) s.heap.objs.size f cdv))->SVs K (cxOf CX0 P w K mg base N qual (ao st) f cdv A outer s H E).nox (ji st) g) :
  FnOk P w K mg base CX0 (k+1) f fd ps (spOf K np (fnD nl np g)):=by
 subst h1 h2;exact a66 F S body
end Dn
namespace Mn
open L2
section
variable{X:Cx}
end
end Mn
namespace Dn
open L2 Mn
section
variable{K:Fg9}{X:Cx}
end
theorem mkSc{N P:List Str}{sc:mX}(a:sc.kind=.function)(b:sc.isCoroutine=false)(c:sc.isGenerator=false)(e:N.take P.length=P)(d:N.Nodup/\(∀x∈P,sc.names.lookup x=some .local∨sc.names.lookup x=some .cell)/\∀y∈sc.names,y.2≠.free):FnScope N P sc:=⟨a,b,c,d.1,e,d.2.1,d.2.2⟩
theorem _root_.L2.Inv.gh{X:Cx}{jv:List (aY×Obj)}{σ σ2:L2.St}{H:Hp}{s:aH}(I:Inv X jv σ H s)(hl:σ2.length=σ.length)(h:∀(i:Nat) (x:Str) (v:V),X.N[i]? = some x->σ2[i]? = some (some v)->Vis X.env.scope x->σ[i]? = some (some v)):Inv X jv σ2 H s:=by
 obtain⟨m,hm,hx⟩:=I.loc;exact⟨I.ok,I.os,I.bare,I.base,⟨m,hm,fun i x v e q vis=>hx i x v e (h i x v e q vis) vis⟩,I.cell,I.free,I.freeC,I.pin,I.hok,hl.trans I.len⟩
def GH(X:Cx)(σ σ2:L2.St):Prop:=σ2.length=σ.length/\∀(i:Nat) (x:Str) (v:V),X.N[i]? = some x->σ2[i]? = some (some v)->Vis X.env.scope x->σ[i]? = some (some v)
theorem a0c{X:Cx}{ss:List iY}{t:TS}(h:PSs X ss t):PSs X ss (fun D σ H=>∃σ2,GH X σ σ2/\t D σ2 H):=fun jv s σ H D I ⟨σ2,g,q⟩=>h jv s σ2 H D (I.gh g.1 g.2) q
def a1a:Sl->Bool
 | .box _ _=>false
 | _=>true
section
variable{K:Fg9}{X:Cx}{tg:Nat->aY}{F H F1 H1:Hp}{O O1:aY->Prop}{ρ:Ro}{σ:L2.St}
inductive FdR (K:Fg9) (F H:Hp) (O:aY->Prop):List (Str×Rv)->List (Str×V)->List aY->Prop
 | nil:FdR K F H O [] [] []
 | v {f:Str} {d:D} {v:V} {rs:List (Str×Rv)} {fvs:List (Str×V)} {A:List aY} (h:Is K F d v) (t:FdR K F H O rs fvs A):FdR K F H O ((f,.v d)::rs) ((f,v)::fvs) A
 | fr {f:Str} {l:List D} {e:aY} {ws:List V} {rs:List (Str×Rv)} {fvs:List (Str×V)} {A:List aY} (hf:F e=none) (hn:¬O e) (hh:H e=some (.lst ws)) (h:IsL K F l ws) (ne:e∉A) (t:FdR K F H O rs fvs A):FdR K F H O ((f,.fr l)::rs) ((f,.ref e)::fvs) (e::A)
theorem FdR.step{rs:List (Str×Rv)}{fvs:List (Str×V)}{A:List aY}(h:FdR K F H O rs fvs A)(x:Ext O O1 F H F1 H1):FdR K F1 H1 O1 rs fvs A:=by
 induction h with
 | nil=>exact .nil
 | v h t ih=>exact .v (h.mono x.sub) ih
 | @fr f l e ws rs fvs A hf hn hh h ne t ih =>
  refine .fr ?_ (fun z =>?_) (x.keep e _ hh hn) (h.mono x.sub) ne ih
  ·cases z:F1 e with
   | none=>rfl
   | some o =>
    rcases x.new e o z with z | z | z
    ·rw[hf] at z;cases z
    ·rw[hh] at z;cases z
    ·exact absurd z hn
  ·rcases x.own e z with z | z
   ·exact hn z
   ·rw[hh] at z;cases z
theorem FdR.out{rs:List (Str×Rv)}{fvs:List (Str×V)}{A:List aY}(h:FdR K F H O rs fvs A):∀e∈A,¬O e/\F e=none/\∃ws,H e=some (.lst ws)/\∃l,IsL K F l ws:=by
 induction h with
 | nil=>exact fun e he=>absurd he dN
 | v h t ih=>exact ih
 | @fr f l e ws rs fvs A hf hn hh h ne t ih =>
  intro e' he;rcases aZ.mp he with rfl | he
  ·exact⟨hn,hf,ws,hh,l,h⟩
  ·exact ih e' he
theorem FdR.upd{rs:List (Str×Rv)}{fvs:List (Str×V)}{A:List aY}{d:aY}{o:HO}(h:FdR K F H O rs fvs A)(hd:d∉A):FdR K F (L2.upd H d o) O rs fvs A:=by
 induction h with
 | nil=>exact .nil
 | v h t ih=>exact .v h (ih hd)
 | @fr f l e ws rs fvs A hf hn hh h ne t ih =>
  have h1:d≠e/\d∉A:=⟨fun q=>hd (q▸List.mem_cons_self ..),fun q=>hd (aK _ q)⟩
  exact .fr hf hn (by rw[cj (mD h1.1)];exact hh) h ne (ih h1.2)
def Oa(ρ:Ro)(σ:L2.St)(a:aY)(A:List aY):aY->Prop:=fun z=>Own ρ σ z∨z=a∨z∈A
def iniD:List (Str×M Rv)->Ro->Option (List (Str×Rv)×Ro)
 | [],ρ=>some ([],ρ)
 | (f,m)::r,ρ=>match m ρ with
  | some (.ok (.v d),ρ1)=>if (ρ1:List Sl).all a1a=true then (iniD r ρ1).map fun p=>((f,.v d)::p.1,p.2) else none
  | some (.ok (.fr l),ρ1)=>if (ρ1:List Sl).all a1a=true then (iniD r ρ1).map fun p=>((f,.fr l)::p.1,p.2) else none
  | _=>none
def TSi(K:Fg9)(C:aY)(fms:List (Str×M Rv)):TS:=fun D σ H=>∃tg F ρ a dx rs0 fvs0 A0 rs ρ',Good K tg F H ρ σ/\σ[0]? = some (some (.ref a))/\H a=some (.ins C dx fvs0)/\F a=none/\FdR K F H (Own ρ σ) rs0 fvs0 A0/\fvs0.length+fms.length < 1000 /\
 (∀f∈fms.map (·.1),fvs0.lookup f=none)/\(fms.map (·.1)).Nodup/\iniD fms ρ=some (rs,ρ') /\
 ∀H' F' fvs A,Good K tg F' H' ρ' σ->H' a=some (.ins C dx fvs)->F' a=none->FdR K F' H' (Own ρ' σ) (rs0++rs) fvs A->Ext (Oa ρ σ a A0) (Oa ρ' σ a A) F H F' H'->D.nx σ H'
structure SI (K:Fg9) (X:Cx) (C:aY) (ss:List iY) (fms:List (Str×M Rv)):Prop where
 go:X.K=K->PSs X ss (TSi K C fms)
end
def tagB:Sl->Bool
 | .own (some k) _=>decide (k < 1000)
 | .box _ _=>false
 | .lol _=>false
 | .lnk _=>false
 | _=>true
section
variable{K:Fg9}{X:Cx}{tg tg1:Nat->aY}{F H F1 H1:Hp}{ρ:Ro}{σ:L2.St}
theorem Good.retag(G:Good K tg F H ρ σ)(hb:(ρ:List Sl).all tagB=true)(h:∀k,k < 1000->tg k=tg1 k):Good K tg1 F H ρ σ where
 sub:=G.sub
 len:=G.len
 inj:=G.inj
 sl:=fun i s o e q=>by
  have z:=G.sl i s o e q;have t:=bA.mp hb _ (dD e);cases s with
  | emp=>trivial
  | val _=>exact z
  | box c fs=>cases t
  | lol _=>cases t
  | lnk _=>cases t
  | own t' l =>
   obtain⟨a,vs,e1,f,e2,h',ht⟩:=z;refine⟨a,vs,e1,f,e2,h',fun k ek =>?_⟩
   subst ek;have t:decide (k < 1000)=true:=t;rw[<-h k (of_decide_eq_true t)];exact ht k rfl
def offs(ρ:Ro):List Nat->Ro
 | []=>ρ
 | j::js=>offs (cG ρ j .emp) js
theorem Good.offs(G:Good K tg F H ρ σ):∀{js:List Nat},Good K tg F H (Dn.offs ρ js) σ/\∀z,Own (Dn.offs ρ js) σ z->Own ρ σ z:=fun{js}=>by
 induction js generalizing ρ with
 | nil=>exact⟨G,fun _ h=>h⟩
 | cons j js ih =>
  obtain⟨g,h⟩:=ih (G.drop j);exact⟨g,fun z hz=>(yt (h z hz)).1⟩
def setG:List (Str×Rv)->List Nat->Nat->Ro->Option Ro
 | [],[],_,ρ=>some ρ
 | (_,.v _)::r,gs,n,ρ=>setG r gs n ρ
 | (_,.fr l)::r,j::gs,n,ρ=>setG r gs (n+1) (cG ρ j (.own (some (1000+n)) l))
 | _,_,_,_=>none
theorem aw2{O:aY->Prop}{rs:List (Str×Rv)}{fvs:List (Str×V)}{A:List aY}(h:FdR K F H O rs fvs A):∀{gs:List Nat} {n:Nat} {ρ ρ':Ro} {σ:L2.St},Good K tg1 F H ρ σ->(∀e∈A,¬Own ρ σ e)->(∀(m:Nat) (e:aY),A[m]? = some e->tg1 (1000+(n+m))=e)->setG rs gs n ρ=some ρ' ->
  ∃σ',Good K tg1 F H ρ' σ'/\(∀j,j∉gs->σ'[j]? = σ[j]?)/\σ'.length=σ.length/\∀z,Own ρ' σ' z->Own ρ σ z∨z∈A:=by
 induction h with
 | nil =>
  intro gs n ρ ρ' σ G hA ht em;cases gs with
  | nil=>cases em;exact⟨σ,G,fun _ _=>rfl,rfl,fun _ h=>.inl h⟩
  | cons _ _=>cases em
 | v h t ih=>exact fun{gs n ρ ρ' σ} G hA ht em=>ih G hA ht em
 | @fr f l e ws rs fvs A hf hn hh h ne t ih =>
  intro gs n ρ ρ' σ G hA ht em;cases gs with
  | nil=>cases em
  | cons j gs =>
   have em:setG rs gs (n+1) (cG ρ j (.own (some (1000+n)) l))=some ρ':=em;have hne:=hA e (aN ..);have hte:tg1 (1000+n)=e:=ht 0 e rfl;have G1:=G.put (s:=.own (some (1000+n)) l) (v:=.ref e) j ⟨e,ws,rfl,hf,hh,h,fun k ek=>by cases ek;exact hte⟩ (fun t l' a _ ea=>by cases ea;exact hne)
   obtain⟨σ',g1,g2,g3,g4⟩:=ih G1 (fun e' he' w=>by
    rcases ac0 G.len w with w | ⟨_,w⟩
    ·exact hA e' (aK _ he') w
    ·cases w;exact ne he') (fun m e' he'=>by
    have:=ht (m+1) e' (by simpa using he')
    rw[show n+1+m=n+(m+1) by omega]
    exact this) em
   refine⟨σ',g1,fun k hk =>?_,by rw[g3,dR],fun z hz =>?_⟩
   ·rw[g2 k (fun q=>hk (aK _ q)),bN,if_neg (fun q:j=k=>hk (q▸List.mem_cons_self ..))]
   ·rcases g4 z hz with w | w
    ·rcases ac0 G.len w with w | ⟨_,w⟩
     ·exact .inl w
     ·cases w;exact .inr (aN ..)
    ·exact .inr (aK _ w)
end
structure DfnI (P:bV) (w:dO) (K:Fg9) (mg:Str->Option aG) (base:fD) (c:Str) (ps:List Str) (k:Nat) (sp:aY->Sp):Prop where
 ex:∃C f fd,nsIn K bB c=some (some (.ref C))/\mg c=some (.ref C)/\Mk K C f/\FnOk P w K mg base CX0 k f fd ps (sp C)/\Binds K fd ps []
theorem Fin.mono{K:Fg9}{F' H':Hp}{τ:L2.St}{ps:Ro}{O O':aY->Prop}(h:Fin K F' H' τ ps O)(w:∀z,O z->O' z):Fin K F' H' τ ps O':=⟨fun i l e=>let ⟨a,b,c⟩:=h.at' i l e;⟨w _ a,b,c⟩⟩
theorem Ext.imp{O O1 O2:aY->Prop}{F H F1 H1:Hp}(x:Ext O O1 F H F1 H1)(w:∀z,O2 z->O1 z):Ext O O2 F H F1 H1:=⟨x.sub,x.new,x.keep,fun z h=>x.own z (w z h),x.there⟩
theorem atf{K:Fg9}{r:Rv}{v:V}{H:Hp}{O:aY->Prop}{F' H':Hp}{O1 O2:aY->Prop}(w:∀z,O2 z->O1 z)(h:relR K r v H O F' H' O1):relR K r v H O F' H' O2:=by
 cases r with
 | v d=>exact h
 | fr l =>
  obtain⟨a,vs,e,h1,h2,h3,h4,h5⟩:=h;exact⟨a,vs,e,h1,h2,h3,h4,fun z=>h5 (w _ z)⟩
 | tf d l =>
  obtain⟨t,u,a,vs,e,h1,h2,h3,h4,h5,h6,h7⟩:=h;exact⟨t,u,a,vs,e,h1,h2,h3,h4,h5,h6,fun z=>h7 (w _ z)⟩
theorem FlOk.off{K:Fg9}{tg tg1:Nat->aY}{ρ ρ4:Ro}{σ:L2.St}{F H:Hp}{E:Ends}{fl:Fl}{js:List Nat}(ht:∀k,k < 1000->tg1 k=tg k)(hb:(offs ρ4 js:List Sl).all tagB=true)(q:FlOk K tg ρ σ F H E fl (offs ρ4 js)):FlOk K tg1 ρ σ F H E fl ρ4:=by
 have go:∀{σ':L2.St} {H' F':Hp},Good K tg1 F' H' ρ4 σ'->Good K tg F' H' (offs ρ4 js) σ'/\∀z,Own (offs ρ4 js) σ' z->Own ρ4 σ' z:=fun G=>by
  obtain⟨g,h⟩:=G.offs (js:=js);exact⟨g.retag hb ht,h⟩
 cases fl with
 | nx=>exact fun σ' H' F' G' x'=>let ⟨g,h⟩:=go G';q σ' H' F' g (x'.imp h)
 | brk=>exact fun σ' H' F' G' x'=>let ⟨g,h⟩:=go G';q σ' H' F' g (x'.imp h)
 | cont=>exact fun σ' H' F' G' x'=>let ⟨g,h⟩:=go G';q σ' H' F' g (x'.imp h)
 | ret r=>exact fun v σ' H' F' G' x' rr=>let ⟨g,h⟩:=go G';q v σ' H' F' g (x'.imp h) (atf h rr)
 | exc _=>exact q
section
variable{K:Fg9}{C:aY}{fs:List Str}{c f m:Str}
end
def ghB(N:List Str)(gs:List Nat)(sc:mX):Bool:=gs.all fun j=>match N[j]? with
 | some y=>(sc.names.lookup y).isNone
 | none=>true
theorem a6s{N:List Str}{gs:List Nat}{sc:mX}(h:ghB N gs sc=true):∀j∈gs,∀y,N[j]? = some y->¬Vis sc y:=fun j hj y hy v=>by
 have z:=bA.mp h j hj;rw[hy] at z;have z:sc.names.lookup y=none:=Option.isNone_iff_eq_none.mp z;rcases v with v | v | v <;> (rw[z] at v;cases v)
end Dn
namespace Kst
open PySem PySem.W PyProof.Rows
structure Od (n:Nat) (c:Nat->Nat->Bool):Prop where
 tr:∀i j k,c i j=true->c j k=true->c i k=true
 to:∀i j,i < n->j < n->i≠j->c i j=false->c j i=true
def Asks(n:Nat)(c:Nat->Nat->Bool)(cmp:Nat->Nat->(Bool->aH->Prop)->aH->Prop)(s:aH):Prop:=∀i j,i < n->j < n->∀C:Bool->aH->Prop,C (c i j) s->cmp i j C s
structure Pm (n:Nat) (p:Array Nat):Prop where
 pm:p.toList.Perm (aR n)
section
variable{n:Nat}{c:Nat->Nat->Bool}{cmp:Nat->Nat->(Bool->aH->Prop)->aH->Prop}{s:aH}{p:Array Nat}
theorem Pm.size(h:Pm n p):p.size=n:=by have:=h.pm.length_eq;simpa using this
theorem Pm.get(h:Pm n p){k:Nat}(hk:k < n):p[k]? = some (p.getD k 0):=by
 have:=h.size;have h':k < p.size:=by omega
 simp[lF,h']
theorem Pm.lt(h:Pm n p){k:Nat}(hk:k < n):p.getD k 0 < n:=by
 have e:=h.get hk;have m:p.getD k 0∈p.toList:=by
  rw[<-cW] at e;exact dD e
 have:=h.pm.mem_iff.mp m
 simpa using this
theorem Pm.inj(h:Pm n p){i j:Nat}(hi:i < n)(hj:j < n)(e:p.getD i 0=p.getD j 0):i=j:=by
 have nd:p.toList.Nodup:=h.pm.nodup_iff.mpr List.nodup_range;have e1:=h.get hi;have e2:=h.get hj;rw[<-cW] at e1 e2;have s1:=h.size;exact(wU (by simpa[s1] using hi) nd).mp (by rw[e1,e2,e])
def Srt(c:Nat->Nat->Bool)(p:Array Nat)(m:Nat):Prop:=∀i j,i < j->j < m->c (p.getD i 0) (p.getD j 0)=true
theorem avp(O:Od n c){m:Nat}(h:∀k,1<=k->k < m->c (p.getD (k - 1) 0) (p.getD k 0)=true):Srt c p m:=by
 intro i j hij hj
 induction j with
 | zero=>omega
 | succ j ih =>
  have a:=h (j+1) (by omega) hj
  rw[qW] at a
  by_cases e:i=j
  ·subst e;exact a
  ·exact O.tr _ _ _ (ih (by omega) (by omega)) a
theorem ahl(A:Asks n c cmp s)(hp:Pm n p){Q:Nat->aH->Prop}:∀f a,1<=a->a+f<=n->(∀m,a<=m->m<=a+f->(∀k,a<=k->k < m->c (p.getD k 0) (p.getD (k - 1) 0)=false)->(m < a+f->c (p.getD m 0) (p.getD (m - 1) 0)=true)->Q m s)->(kas_asc p f a).kasWp cmp Q s
 | 0,a,_,_,h=>h a (aO _) (aO _) (fun k _ _=>by omega) (fun _=>by omega)
 | f+1,a,h1,h2,h=>A _ _ (hp.lt (by omega)) (hp.lt (by omega)) _ (by
   cases e:c (p.getD a 0) (p.getD (a - 1) 0) with
   | true =>
    dsimp only;rw[if_pos rfl];exact h a (aO _) (by omega) (fun k _ _=>by omega) fun _=>e
   | false =>
    dsimp only;rw[if_neg (by simp)]
    exact ahl A hp f (a+1) (by omega) (by omega) fun m x1 x2 x3 x4=>h m (by omega) (by omega) (fun k k1 k2=>by
     by_cases q:k=a
     ·subst q;exact e
     ·exact x3 k (by omega) k2) fun q=>x4 (by omega))
theorem arp(A:Asks n c cmp s)(O:Od n c)(hp:Pm n p){Q:Array Nat×Nat×Nat->aH->Prop}:∀f a,1<=a->a+f<=n->(∀k,1<=k->k < a->c (p.getD k 0) (p.getD (k - 1) 0)=true)->(∀m,a<=m->m<=a+f->(∀k,1<=k->k < m->c (p.getD k 0) (p.getD (k - 1) 0)=true)->Q (p,m,0) s)->(kas_desc f p a 0).kasWp cmp Q s
 | 0,a,_,_,hs,h=>h a (aO _) (aO _) hs
 | f+1,a,h1,h2,hs,h=>A _ _ (hp.lt (by omega)) (hp.lt (by omega)) _ (by
   cases e:c (p.getD a 0) (p.getD (a - 1) 0) with
   | true =>
    dsimp only;rw[if_pos rfl,if_neg (by omega)]
    exact arp A O hp f (a+1) (by omega) (by omega) (fun k k1 k2=>by
     by_cases q:k=a
     ·subst q;exact e
     ·exact hs k k1 (by omega)) fun m x1 x2 x3=>h m (by omega) (by omega) x3
   | false =>
    dsimp only;rw[if_neg (by simp)]
    refine A _ _ (hp.lt (by omega)) (hp.lt (by omega)) _ ?_
    rw[O.to _ _ (hp.lt (by omega)) (hp.lt (by omega)) (fun q=>by have:=hp.inj (by omega) (by omega) q;omega) e]
    dsimp only;rw[if_pos rfl];exact h a (aO _) (by omega) hs)
theorem aeu(hp:Pm n p)(i j:Nat):Pm n (rC p i j):=⟨(kO.mp (mirror_perm p i j _)).trans hp.pm⟩
theorem aef(hp:Pm n p){m:Nat}(hm:m<=n){k:Nat}(hk:k < m):(rC p 0 m).getD k 0=p.getD (m - 1 - k) 0:=by
 have e:=getElem?_mirror_all (xs:=p) (i:=0) (j:=m) (by rw[hp.size];exact hm) k
 rw[if_pos ⟨Nat.zero_le _,hk⟩,hp.get (by omega)] at e
 have e2:=(aeu hp 0 m).get (k:=k) (by omega)
 unfold rC at e2 ⊢
 rw[e2] at e;have:=bO e;rw[this]
 congr 1
 omega
theorem ate(hp:Pm n p){m:Nat}(hm:m<=n){k:Nat}(hk:m<=k)(hn:k < n):(rC p 0 m).getD k 0=p.getD k 0:=by
 have e:=getElem?_mirror_all (xs:=p) (i:=0) (j:=m) (by rw[hp.size];exact hm) k
 rw[if_neg (by omega),hp.get hn] at e
 have e2:=(aeu hp 0 m).get (k:=k) hn;unfold rC at e2 ⊢
 rw[e2] at e;exact bO e
theorem flip(O:Od n c)(hp:Pm n p){i j:Nat}(hi:i < n)(hj:j < n)(h:i≠j)(e:c (p.getD i 0) (p.getD j 0)=false):c (p.getD j 0) (p.getD i 0)=true :=
 O.to _ _ (hp.lt hi) (hp.lt hj) (fun q=>h (hp.inj hi hj q)) e
theorem awn(A:Asks n c cmp s)(O:Od n c)(hp:Pm n p){m:Nat}(h1:1<=m)(hm:m<=n)(hd:∀k,1<=k->k < m->c (p.getD k 0) (p.getD (k - 1) 0)=true){Q:Nat×Array Nat->aH->Prop}
  (h:∀m' p',1<=m'->m'<=n->Pm n p'->Srt c p' m'->Q (m',p') s):(kas_tail3 m n p).kasWp cmp Q s:=by
 unfold kas_tail3;rw[fQ];have hr:=aeu hp 0 m;refine ahl A hr _ _ h1 (by omega) fun m' x1 x2 x3 _ =>?_
 refine h m' _ (by omega) (by omega) hr (avp O fun k k1 k2 =>?_)
 by_cases q:k < m
 ·rw[aef hp hm q,aef hp hm (k:=k - 1) (by omega)]
  have:=hd (m - 1 - (k - 1)) (by omega) (by omega)
  rwa[show m - 1 - (k - 1) - 1=m - 1 - k by omega] at this
 ·exact flip O hr (by omega) (by omega) (by omega) (x3 k (by omega) k2)
theorem au2(A:Asks n c cmp s)(O:Od n c)(hp:Pm n p)(h2:2<=n){Q:Nat×Array Nat->aH->Prop}
  (h:∀m' p',1<=m'->m'<=n->Pm n p'->Srt c p' m'->Q (m',p') s):(nT n p).kasWp cmp Q s:=by
 unfold nT;rw[fQ];refine ahl A hp _ _ (aO _) (by omega) fun m x1 x2 x3 x4 =>?_
 have hs:Srt c p m:=avp O fun k k1 k2=>flip O hp (by omega) (by omega) (by omega) (x3 k k1 k2)
 by_cases q:m=n
 ·rw[if_pos (by simp[q])]
  exact h m p x1 (by omega) hp hs
 ·rw[if_neg (by simp[q])]
  by_cases q1:m > 1
  ·rw[if_pos q1];refine A _ _ (hp.lt (by omega)) (hp.lt (by omega)) _ ?_
   rw[hs 0 (m - 1) (by omega) (by omega)]
   dsimp only;rw[if_pos rfl];exact h m p x1 (by omega) hp hs
  ·rw[if_neg q1];have e1:m=1:=by omega
   subst e1;have y:=x4 (by omega)
   unfold kas_descPart;rw[fQ];refine arp A O hp _ _ (by omega) (by omega) (fun k k1 k2 =>?_) fun m y1 y2 y3 =>?_
   ·have:k=1:=by omega
    subst this;exact y
   ·dsimp only;rw[if_neg (by omega)]
    exact awn A O hp (by omega) (by omega) y3 h
theorem ah1(A:Asks n c cmp s)(O:Od n c)(hp:Pm n p){k:Nat}(hk:k < n)(hs:Srt c p k){Q:Nat->aH->Prop}:∀f l r,l<=r->r<=k->r - l<=f->(∀i,i < l->c (p.getD i 0) (p.getD k 0)=true)->(∀i,r<=i->i < k->c (p.getD k 0) (p.getD i 0)=true) ->
  (∀l',l'<=k->(∀i,i < l'->c (p.getD i 0) (p.getD k 0)=true)->(∀i,l'<=i->i < k->c (p.getD k 0) (p.getD i 0)=true)->Q l' s)->(kas_place p k f l r).kasWp cmp Q s
 | 0,l,r,h1,h2,h3,a,b,h=>h l (by omega) a fun i i1 i2=>b i (by omega) i2
 | f+1,l,r,h1,h2,h3,a,b,h=>by
  show uG cmp (if l≥r then .ret l else _) Q s
  by_cases q:l≥r
  ·rw[if_pos q];exact h l (by omega) a fun i i1 i2=>b i (by omega) i2
  ·rw[if_neg q];refine A _ _ (hp.lt hk) (hp.lt (by omega)) _ ?_
   cases e:c (p.getD k 0) (p.getD ((l+r) / 2) 0) with
   | true =>
    dsimp only;rw[if_pos rfl];refine ah1 A O hp hk hs f l ((l+r) / 2) (by omega) (by omega) (by omega) a (fun i i1 i2 =>?_) h
    by_cases z:i=(l+r) / 2
    ·subst z;exact e
    ·exact O.tr _ _ _ e (hs _ i (by omega) i2)
   | false =>
    dsimp only;rw[if_neg (by simp)]
    have e':=flip O hp hk (by omega) (by omega) e
    refine ah1 A O hp hk hs f ((l+r) / 2+1) r (by omega) h2 (by omega) (fun i i1 =>?_) b h
    by_cases z:i=(l+r) / 2
    ·subst z;exact e'
    ·exact O.tr _ _ _ (hs i ((l+r) / 2) (by omega) (by omega)) e'
theorem aix(hp:Pm n p){k l:Nat}(hk:k < n)(hl:l<=k){j:Nat}(hj:j < n):(bubble p k (k - l)).getD j 0=if j=l then p.getD k 0 else if l < j/\j<=k then p.getD (j - 1) 0 else p.getD j 0:=by
 have e:=getElem?_bubble (xs:=p) (src:=k) (by rw[hp.size];exact hk) (k - l) (by omega) j
 rw[show k - (k - l)=l by omega,hp.get hk,hp.get hj] at e
 have hb:Pm n (bubble p k (k - l)):=⟨(kO.mp (bubble_perm p k _)).trans hp.pm⟩;rw[hb.get hj] at e
 by_cases h1:j=l
 ·rw[if_pos h1] at e ⊢
  exact bO e
 ·rw[if_neg h1] at e ⊢
  by_cases h2:l < j/\j<=k
  ·rw[if_pos h2,hp.get (by omega)] at e
   rw[if_pos h2];exact bO e
  ·rw[if_neg h2] at e ⊢
   exact bO e
theorem awd(A:Asks n c cmp s)(O:Od n c){Q:Array Nat->aH->Prop}(h:∀p',Pm n p'->Srt c p' n->Q p' s):∀f p k,k+f=n->Pm n p->Srt c p k->(kas_bin f p k).kasWp cmp Q s
 | 0,p,k,e,hp,hs=>h p hp (by rw[<-e];exact hs)
 | f+1,p,k,e,hp,hs=>by
  show uG cmp (KasT.bind _ _) Q s;rw[fQ];refine ah1 A O hp (by omega) hs k 0 k (by omega) (aO _) (by omega) (fun i hi=>by omega) (fun i i1 i2=>by omega) fun l hl a b =>?_
  refine awd A O h f _ (k+1) (by omega) ⟨(kO.mp (bubble_perm p k _)).trans hp.pm⟩ fun i j hij hj =>?_
  rw[aix hp (by omega) hl (by omega),aix hp (by omega) hl (by omega)]
  by_cases i1:i=l
  ·rw[if_pos i1,if_neg (by omega),if_pos (by omega)]
   exact b (j - 1) (by omega) (by omega)
  ·rw[if_neg i1]
   by_cases j1:j=l
   ·rw[if_pos j1,if_neg (by omega)]
    exact a i (by omega)
   ·rw[if_neg j1]
    by_cases i2:l < i
    ·rw[if_pos (by omega),if_pos (by omega)]
     exact hs _ _ (by omega) (by omega)
    ·rw[if_neg (by omega)]
     by_cases j2:l < j
     ·rw[if_pos (by omega)]
      by_cases z:i=j - 1
      ·omega
      ·exact hs _ _ (by omega) (by omega)
     ·rw[if_neg (by omega)]
      exact hs _ _ hij (by omega)
theorem awy(A:Asks n c cmp s)(O:Od n c)(h2:2<=n){Q:Array Nat->aH->Prop}(h:∀p',Pm n p'->Srt c p' n->Q p' s):(kas_sort n).kasWp cmp Q s:=by
 unfold kas_sort;rw[fQ];refine au2 A O ⟨by simp⟩ h2 fun m p m1 m2 hp hs =>?_
 dsimp only
 by_cases q:m < n
 ·rw[if_pos q];rw[show max m 1=m by omega]
  exact awd A O h _ _ _ (by omega) hp hs
 ·rw[if_neg q];exact h p hp (by rw[show n=m by omega];exact hs)
end
section
variable{prog:bV}{w:dO}{A:dB}{E:aG->aH->Prop}{s:aH}
def adq(vs:List aG)(p:Array Nat):Array aG:=(p.toList.map fun i=>vs.getD i cX).toArray
theorem aji(vs:List aG):((aR vs.length).map fun i=>vs.getD i cX)=vs:=by
 apply oJ;intro i;rw[bK]
 by_cases h:i < vs.length
 ·rw[lB h];simp[h]
 ·rw[iG (by simpa using h),iG (by omega)]
  rfl
theorem an8{a:aY}{vs:List aG}{n:Nat}{P:xW->aH->Prop}{κ:nF}{c:Nat->Nat->Bool}(ho:s.heap.get? a=some (cQ "list" vs.toArray n))(h64:vs.length < 64)(O:Od vs.length c)
  (hk:2<=vs.length->∀h':fD,(∀b o,b≠a->s.heap.get? b=some o->h'.get? b=some o)->(∀Q:nF->aH->Prop,Q κ { s with heap:=h' }->bL (bY prog w) A (keyKind' vs.toArray) Q (fun _ _=>False) { s with heap:=h' })/\Asks vs.length c (pQ prog w A κ vs) { s with heap:=h' })
  (h:∀p,Pm vs.length p->Srt c p vs.length->P (.done (.ret .none)) { s with heap:=sortedHeap s.heap a vs (adq vs p) }) :
  bL (bY prog w) A (jL.«list.sort» ⟨[.ref a],[]⟩) P E s:=by
 have ha:a < s.heap.objs.size:=aQ ho;obtain⟨e1,ho1⟩:∃e1,(s.heap.update a (cB fun _=>(#[]:Array aG))).get? a=some (cQ "list" #[] e1):=⟨_,get?_update_seq ho fun _ => #[]⟩
 have ho6:(((s.heap.update a (cB fun _=>(#[]:Array aG))).push (cQ "tuple" vs.toArray 0)).push (cQ "list" #[] 0)).get? a=some (cQ "list" #[] e1):=aB _ (aB _ ho1)
 have kp:∀b o,b≠a->s.heap.get? b=some o->(((s.heap.update a (cB fun _=>(#[]:Array aG))).push (cQ "tuple" vs.toArray 0)).push (cQ "list" #[] 0)).get? b=some o:=fun b o hb e =>
  aB _ (aB _ (by rw[jB _ _ _ _ hb];exact e))
 rw[list_sort_plain];refine aA (listItems_at ho rfl ?_);refine aA (listUpdate_at ho rfl ?_ (by rw[aL,cF];omega) (cI _))
 refine aA (seqEpoch_at ho1 rfl ?_);refine aA (wpAny_newTuple ?_ (by show vs.length<=_;rw[cF];omega))
 refine aA (wpAny_newList ?_ (cI _));refine cU ?_;show bL (bY prog w) A _ P E { s with heap:=((s.heap.update a (cB fun _=>(#[]:Array aG))).push (cQ "tuple" vs.toArray 0)).push (cQ "list" #[] 0) }
 dsimp only
 by_cases h2:vs.length < 2
 ·rw[if_pos (by rw[aL];exact h2),if_pos (by rw[aL];exact h2)]
  refine aA (aJ ?_);rw[StateT.run_pure];refine aA (aJ ?_);dsimp only;refine aA (seqEpoch_at ho6 rfl ?_);have e0:(vs.toArray.zip vs.toArray).map (·.2)=adq vs (cZ (aR vs.length)):=by
   unfold adq;rw[show(cZ (aR vs.length)).toList=aR vs.length from rfl,aji]
   apply xR.mp;simp[List.map_snd_zip]
  have hz:((vs.toArray.zip vs.toArray).map (·.2)).size<=cL:=by
   rw[tY,Array.size_zip,aL,cF];omega
  refine aA (listUpdate_at ho6 rfl ?_ (cI _) (oF hz));simp only[bne_self_eq_false,cC,if_false];have z:=h (cZ (aR vs.length)) ⟨List.Perm.refl _⟩ (fun i j hij hj=>by omega)
  rw[<-e0] at z;exact aJ z
 ·have hn2:¬vs.toArray.size < 2:=by rw[aL];exact h2
  rw[if_neg hn2,if_neg hn2];obtain⟨k1,k2⟩:=hk (by omega) _ kp
  refine aA (bC (k1 _ ?_) (fun κ' s' q=>q) fun _ _ x=>x.elim)
  refine aA (bC (kat_run (Q:=fun st' s'=>s'={ s with heap:=((s.heap.update a (cB fun _=>(#[]:Array aG))).push (cQ "tuple" vs.toArray 0)).push (cQ "list" #[] 0) }/\∃p:Array Nat,Pm vs.length p/\Srt c p vs.length/\arrOf st'=p.map (kas_item (vs.toArray.zip vs.toArray))/\failedOf st'=none)
   (G:=fun p s'=>s'={ s with heap:=((s.heap.update a (cB fun _=>(#[]:Array aG))).push (cQ "tuple" vs.toArray 0)).push (cQ "list" #[] 0) }/\Pm vs.length p/\Srt c p vs.length)
   rfl (by omega) h64 (fun p st' s' a1 a2 a3 a4=>⟨a4.1,p,a4.2.1,a4.2.2,a2,a3⟩) (awy k2 O (by omega) fun p hp hs=>⟨rfl,hp,hs⟩)) ?_ fun _ _ e=>e)
  intro r s' hr;obtain⟨u,st'⟩:=r;obtain⟨e,p,hp,hs,har,hf⟩:=hr;subst e;dsimp only at har hf ⊢
  have hout:(arrOf st').map (·.2)=adq vs p:=kat_snds rfl har;rw[hout];have hz:(adq vs p).size<=cL:=by
   unfold adq;rw[aL,aD,bF,hp.size,cF];omega
  refine aA (seqEpoch_at ho6 rfl ?_);refine aA (listUpdate_at ho6 rfl ?_ (cI _) (oF hz));rw[hf];simp only[bne_self_eq_false,cC,if_false];exact aJ (h p hp hs)
theorem ajb{l:aY}{vs:List aG}{Q:aG->aH->Prop}{κ:nF}{c:Nat->Nat->Bool}(hl:s.heap.IsList l vs.toArray)(h64:vs.length < 64)(O:Od vs.length c)
  (hk:2<=vs.length->∀h':fD,(∀b o,s.heap.get? b=some o->h'.get? b=some o)->(∀Q:nF->aH->Prop,Q κ { s with heap:=h' }->bL (bY prog w) A.in1.in1 (keyKind' vs.toArray) Q (fun _ _=>False) { s with heap:=h' })/\Asks vs.length c (pQ prog w A.in1.in1 κ vs) { s with heap:=h' })
  (h:∀p,Pm vs.length p->Srt c p vs.length->Q (.ref (s.heap.objs.size+1)) { s with heap:=sortedAll s.heap vs (adq vs p) }) :
  bL (bY prog w) A (call (.builtin "sorted") [.ref l]) Q E s:=by
 refine kZ kind_sorted plain_sorted entry_sorted (args_sorted1 _) ?_;unfold jL.«sorted»
 refine aA (m:=checkCount "sorted" 1 1 _) (aJ ?_);refine aA (collect_list hl ?_ (by rw[cF];omega))
 refine aA (wpAny_newList ?_ (by rw[cF];omega))
 have hsz:((s.heap.push (cQ "list" #[] 0)).update s.heap.objs.size (cB (· ++ vs.toArray))).objs.size=s.heap.objs.size+1:=by
  rw[sI,size_push']
 have hoL:(((s.heap.push (cQ "list" #[] 0)).update s.heap.objs.size (cB (· ++ vs.toArray))).push (cQ "list" vs.toArray 0)).get? (s.heap.objs.size+1)=some (cQ "list" vs.toArray 0):=by
  rw[<-hsz];exact aU _ rfl
 have keep:∀b o,s.heap.get? b=some o->(((s.heap.push (cQ "list" #[] 0)).update s.heap.objs.size (cB (· ++ vs.toArray))).push (cQ "list" vs.toArray 0)).get? b=some o:=fun b o q=>by
  have hlt:b < s.heap.objs.size:=aQ q;rw[jZ _ _ _ (by rw[hsz];exact bG (iR hlt)),jB _ _ _ _ (bG hlt),jZ _ _ _ (bG hlt)]
  exact q
 show bL _ _ _ _ _ { s with heap:=((s.heap.push (cQ "list" #[] 0)).update s.heap.objs.size (cB (· ++ vs.toArray))).push (cQ "list" vs.toArray 0) }
 rw[hsz];refine aA (cU (fW slot_list_sort ⟨_,hoL,rfl⟩ entry_list_sort (an8 (κ:=κ) hoL h64 O (fun h2 h' k'=>hk h2 h' fun b o e=>k' b o (fun q=>absurd (aQ e) (by rw[q];exact lC.mpr (gM _))) (keep b o e)) fun p hp hs=>⟨_,rfl,?_⟩) (args_list_sort _)))
 exact aJ ⟨_,rfl,h p hp hs⟩
def lexB:List Int->List Int->Bool
 | [],[]=>false
 | [],_::_=>true
 | _::_,[]=>false
 | a::x,b::y=>if a=b then lexB x y else decide (a < b)
theorem aie:∀x y z:List Int,lexB x y=true->lexB y z=true->lexB x z=true
 | [],[],_,h,_=>by simp[lexB] at h
 | [],_::_,[],_,h=>by simp[lexB] at h
 | [],_::_,_::_,_,_=>by simp[lexB]
 | _::_,[],_,h,_=>by simp[lexB] at h
 | _::_,_::_,[],_,h=>by simp[lexB] at h
 | a::x,b::y,c::z,h,k=>by
  unfold lexB at h k ⊢
  by_cases e1:a=b
  ·subst e1;rw[if_pos rfl] at h
   by_cases e2:a=c
   ·rw[if_pos e2] at k ⊢
    exact aie x y z h k
   ·rw[if_neg e2] at k ⊢
    exact k
  ·rw[if_neg e1,decide_eq_true_eq] at h
   by_cases e2:b=c
   ·subst e2;rw[if_neg e1,decide_eq_true_eq];exact h
   ·rw[if_neg e2,decide_eq_true_eq] at k;rw[if_neg (by omega),decide_eq_true_eq]
    omega
theorem af6:∀x y:List Int,x≠y->lexB x y=false->lexB y x=true
 | [],[],h,_=>absurd rfl h
 | [],_::_,_,h=>by simp[lexB] at h
 | _::_,[],_,_=>by simp[lexB]
 | a::x,b::y,h,k=>by
  unfold lexB at k ⊢
  by_cases e:a=b
  ·subst e;rw[if_pos rfl] at k ⊢
   exact af6 x y (fun q=>h (by rw[q])) k
  ·rw[if_neg e,decide_eq_false_iff_not] at k;rw[if_neg (fun q=>e q.symm),decide_eq_true_eq]
   omega
theorem ac2:∀x y:List Int,lexB x y=true->lexB y x=false
 | [],[],h=>by simp[lexB] at h
 | [],_::_,_=>by simp[lexB]
 | _::_,[],h=>by simp[lexB] at h
 | a::x,b::y,h=>by
  unfold lexB at h ⊢
  by_cases e:a=b
  ·subst e;rw[if_pos rfl] at h ⊢
   exact ac2 x y h
  ·rw[if_neg e,decide_eq_true_eq] at h;rw[if_neg (fun q=>e q.symm),decide_eq_false_iff_not]
   omega
theorem am0{b:Bool}{Q:Bool->aH->Prop}:∀{xs ys:List aG} {as bs:List Int} (i:Nat),mG xs as->mG ys bs->Q (lexB as bs) s->KatLex prog w A b (decide (as.length < bs.length)) Q (xs.zip ys) i s
 | [],[],_,_,i,.nil,.nil,h=>kat_nil h
 | [],_::_,_,_,i,.nil,.cons n t r,h=>kat_nil (by simpa[lexB] using h)
 | _::_,[],_,_,i,.cons n t r,.nil,h=>kat_nil (by simpa[lexB] using h)
 | _::_,_::_,_,_,i,.cons n t r,.cons m u r',h=>by
  rw[wC];refine kat_cons (wpAny_eqBool_int ?_);unfold lexB at h
  by_cases e:n=m
  ·rw[if_pos e] at h;rw[show(n==m)=true by simpa using e]
   refine kat_yes ?_;have:=am0 (b:=b) (i+1) r r' h
   simpa using this
  ·rw[if_neg e] at h;rw[show(n==m)=false by simpa using e]
   refine kat_no ?_;cases b&&i==0 with
   | true=>exact oneLt_int h
   | false=>exact kat_one _ _ (lt_int h)
end
end Kst
namespace Dn
open PySem PySem.Spec PySem.W PyProof.Rows L2 Mn Kst
def rowT(r:List Int):D:=.tup (r.map D.int)
def wg:List D->Option (LL9)
 | []=>some []
 | .tup l::r=>(qb l).bind fun a=>(wg r).map (a :: ·)
 | _::_=>none
theorem qd:∀rows:LL9,wg (rows.map rowT)=some rows
 | []=>rfl
 | r::rows=>by
  show(qb (r.map D.int)).bind _=_;rw[abw,eF,qd rows];rfl
theorem adm:∀{l:List D} {rows:LL9},wg l=some rows->l=rows.map rowT
 | [],_,h=>by cases h;rfl
 | .tup t::l,rows,h=>by
  have h:(qb t).bind (fun a=>(wg l).map (a :: ·))=some rows:=h
  cases e:qb t with
  | none=>rw[e] at h;cases h
  | some a =>
   rw[e,eF] at h;cases e2:wg l with
   | none=>rw[e2] at h;cases h
   | some rs =>
    rw[e2] at h;cases h;rw[bR,<-adm e2,rowT,<-aap e]
def insL(x:List Int):LL9->LL9
 | []=>[x]
 | y::r=>if lexB x y then x::y::r else y::insL x r
def yq:LL9->LL9
 | []=>[]
 | x::r=>insL x (yq r)
theorem ad1(x:List Int):∀l,(insL x l).Perm (x::l)
 | []=>.refl _
 | y::r=>by
  unfold insL;split
  ·exact .refl _
  ·exact((ad1 x r).cons y).trans (.swap x y r)
theorem xf:∀l,(yq l).Perm l
 | []=>.refl _
 | x::r=>(ad1 x (yq r)).trans ((xf r).cons x)
abbrev LxS(l:LL9):Prop:=l.Pairwise fun a b=>lexB a b=true
theorem aga(x:List Int):∀{l},x∉l->LxS l->LxS (insL x l)
 | [],_,_=>by simp[insL,LxS]
 | y::r,hx,h=>by
  unfold insL;have h:=bW.mp h;split
  ·rename_i hxy;refine bW.mpr ⟨fun z hz =>?_,bW.mpr h⟩
   rcases aZ.mp hz with rfl | hz
   ·exact hxy
   ·exact aie _ _ _ hxy (h.1 z hz)
  ·rename_i hxy;refine bW.mpr ⟨fun z hz =>?_,aga x (fun q=>hx (aK _ q)) h.2⟩
   rcases aZ.mp ((ad1 x r).mem_iff.mp hz) with rfl | hz
   ·exact af6 _ _ (fun q=>hx (by rw[q];exact aN ..)) (by simpa using hxy)
   ·exact h.1 z hz
theorem aes:∀{l:LL9},l.Nodup->LxS (yq l)
 | [],_=>.nil
 | x::r,h=>by
  have h:=gW.mp h;exact aga x (fun q=>h.1 ((xf r).mem_iff.mp q)) (aes h.2)
theorem aqm:∀{l k:LL9},l.Perm k->LxS l->LxS k->l=k
 | [],k,h,_,_=>h.nil_eq
 | x::r,[],h,_,_=>absurd h.length_eq (by simp)
 | x::r,y::t,h,hl,hk=>by
  have hl:=bW.mp hl;have hk:=bW.mp hk;have e:x=y:=by
   have h1:x∈y::t:=h.mem_iff.mp (aN ..);have h2:y∈x::r:=h.mem_iff.mpr (aN ..);rcases aZ.mp h1 with h1 | h1
   ·exact h1
   ·rcases aZ.mp h2 with h2 | h2
    ·exact h2.symm
    ·have a:=hk.1 x h1;have b:=hl.1 y h2;rw[ac2 _ _ a] at b;cases b
  subst e;rw[aqm ((tU x).mp h) hl.2 hk.2]
inductive TupsAre (h:fD):List aG->LL9->Prop
 | nil:TupsAre h [] []
 | cons {a:aY} {o:Obj} {xs:List aG} {n:Nat} {r:List Int} {us:List aG} {rs:LL9} (e:h.get? a=some o) (c:o.cls=.type "tuple") (d:o.data=.seq xs.toArray n) (i:mG xs r) (t:TupsAre h us rs):TupsAre h (.ref a::us) (r::rs)
theorem TupsAre.len{h:fD}:∀{us:List aG} {rs:LL9},TupsAre h us rs->us.length=rs.length
 | _,_,.nil=>rfl
 | _,_,.cons _ _ _ _ t=>by rw[bJ,bJ,t.len]
theorem TupsAre.mono{h h':fD}(k:∀b o,h.get? b=some o->h'.get? b=some o):∀{us:List aG} {rs:LL9},TupsAre h us rs->TupsAre h' us rs
 | _,_,.nil=>.nil
 | _,_,.cons e c d i t=>.cons (k _ _ e) c d i (t.mono k)
theorem TupsAre.at{h:fD}:∀{us:List aG} {rs:LL9},TupsAre h us rs->∀i,i < rs.length->∃a o xs n,us.getD i cX=.ref a/\h.get? a=some o/\o.data=.seq (cZ xs) n/\mG xs (rs.getD i [])
 | _,_,.cons e c d i t,0,_=>⟨_,_,_,_,rfl,e,d,i⟩
 | _,_,.cons e c d i t,k+1,hk=>by
  obtain⟨a,o,xs,n,e1,e2,e3,e4⟩:=t.at k (by simpa using hk)
  exact⟨a,o,xs,n,by simpa using e1,e2,e3,by simpa using e4⟩
theorem TupsAre.kat{h:fD}:∀{us:List aG} {rs:LL9},TupsAre h us rs->(∀r∈rs,r≠[])->∃fs:List aG,KatTups h us fs/\fs.length=rs.length/\∀f∈fs,∃i t,f=qT i t
 | _,_,.nil,_=>⟨[],.nil,rfl,fun _ h=>by cases h⟩
 | _,_,.cons (r:=r) e c d i t,hn=>by
  obtain⟨fs,k,l,z⟩:=t.kat fun r hr=>hn r (aK _ hr)
  cases i with
  | nil=>exact absurd rfl (hn _ (aN ..))
  | cons m u q =>
   refine⟨.int m u::fs,KatTups.cons e c d (by simp) k,by simp[l],fun f hf =>?_⟩
   rcases aZ.mp hf with rfl | hf
   ·exact⟨m,u,rfl⟩
   ·exact z f hf
section
variable{K:Fg9}{X:Cx}
theorem zq{jv:List (aY×Obj)}{σ:L2.St}{F H:Hp}{s:aH}(I:Inv X jv σ H s)(g:Same F H):∀{rs:LL9} {vs:List V} {us:List aG},IsL X.K F (rs.map rowT) vs->Vals vs us->TupsAre s.heap us rs
 | [],_,_,h,r=>by cases h;cases r;exact .nil
 | a::rs,_,_,.cons h t,r=>by
  cases r with
  | cons r1 r2 =>
   have z:=zq I g t r2;have h:Is X.K F (.tup (a.map D.int)) _:=h;cases h with
   | tup e hl =>
    rw[hl.int_inv] at e;cases r1;obtain⟨its,rv,⟨o,e1,e2,n,e3⟩,_⟩:=I.tuple (SqT.of (g _ _ e));exact .cons e1 e2 e3 (intsAre_of rv) z
def aq6:D->Option Rv
 | .lst l=>(wg l).bind fun rows=>if (decide (rows.length < 64)&&rows.all (fun r => !r.isEmpty)&&decide rows.Nodup)=true then some (.fr ((yq rows).map rowT)) else none
 | _=>none
theorem alv{rows:LL9}(h:rows.length < 64)(hn:∀r∈rows,r≠[])(nd:rows.Nodup):aq6 (.lst (rows.map rowT))=some (.fr ((yq rows).map rowT)):=by
 show(wg (rows.map rowT)).bind _=_;rw[qd,eF,if_pos];simp only[aV,decide_eq_true_eq,bA];exact⟨⟨h,fun r hr=>by cases r with
  | nil=>exact absurd rfl (hn _ hr)
  | cons=>rfl⟩,nd⟩
theorem ado{α:Type}(d:α){l:List α}{p:Array Nat}(hp:Pm l.length p):(p.toList.map fun i=>l.getD i d).Perm l:=by
 refine(hp.pm.map _).trans ?_;have e:((aR l.length).map fun i=>l.getD i d)=l:=by
  apply oJ;intro i;rw[bK]
  by_cases h:i < l.length
  ·rw[lB h];simp[h]
  ·rw[iG (by simpa using h),iG (by omega)]
   rfl
 rw[e]
theorem aww{rows:LL9}{p:Array Nat}(hp:Pm rows.length p)(hs:Srt (fun i j=>lexB (rows.getD i []) (rows.getD j [])) p rows.length):LxS (p.toList.map fun i=>rows.getD i []):=by
 rw[LxS,lV,eG];intro i j hi hj hij;have h:=hs i j hij (by rw[<-hp.size];simpa using hj)
 have e1:=hp.get (k:=i) (by rw[<-hp.size];simpa using hi)
 have e2:=hp.get (k:=j) (by rw[<-hp.size];simpa using hj)
 have f1:p.toList[i]=p.getD i 0:=by
  have hi':i < p.size:=by simpa using hi
  simp[lF,hi']
 have f2:p.toList[j]=p.getD j 0:=by
  have hj':j < p.size:=by simpa using hj
  simp[lF,hj']
 rw[f1,f2];exact h
theorem aij{F:Hp}{rows:LL9}{vs:List V}(h:IsL K F (rows.map rowT) vs):∀{p:List Nat},(∀i∈p,i < rows.length)->IsL K F ((p.map fun i=>rows.getD i []).map rowT) (p.map fun i=>vs.getD i .non)
 | [],_=>.nil
 | i::p,hp=>by
  have hi:=hp i (aN ..);obtain⟨v,e,hv⟩:=h.get (i:=i) (d:=rowT (rows.getD i [])) (by simp[hi])
  have e':vs.getD i .non=v:=by simp[e]
  refine .cons ?_ (aij h fun j hj=>hp j (aK _ hj))
  dsimp only;rw[e'];exact hv
theorem afn{vs:List V}{us:List aG}(h:Vals vs us):∀{p:List Nat},(∀i∈p,i < vs.length)->Vals (p.map fun i=>vs.getD i .non) (p.map fun i=>us.getD i cX)
 | [],_=>.nil
 | i::p,hp=>by
  have hi:=hp i (aN ..);refine .cons ?_ (afn h fun j hj=>hp j (aK _ hj))
  have:∀{vs:List V} {us:List aG} {i:Nat},Vals vs us->i < vs.length->RelV (vs.getD i .non) (us.getD i cX):=by
   intro vs us i h
   induction h generalizing i with
   | nil=>intro h;simp at h
   | cons a b ih =>
    intro hi;cases i with
    | zero=>exact a
    | succ i=>simpa using ih (by simpa using hi)
  exact this h hi
theorem au6:CallD K X (.builtin "sorted") (g1 aq6):=vz fun hk jv s σ0 H x u Q tg F ρ σ d r I ru G bd eg q=>by
 subst hk;cases d with
 | lst l =>
  have eg:(wg l).bind (fun rows=>if (decide (rows.length < 64)&&rows.all (fun r => !r.isEmpty)&&decide rows.Nodup)=true then some (Rv.fr ((yq rows).map rowT)) else none)=some r:=eg
  cases e:wg l with
  | none=>rw[e] at eg;cases eg
  | some rows =>
   rw[e,eF] at eg;split at eg
   ·rename_i hc;simp only[aV,decide_eq_true_eq,bA] at hc;obtain⟨⟨h64,hne⟩,nd⟩:=hc;have hne:∀r∈rows,r≠[]:=fun r hr q=>by have:=hne r hr;rw[q] at this;cases this
    cases eg;obtain⟨a,vs,rfl,ea,hl⟩:=bd.lst G.sub;rw[adm e] at hl;cases ru;obtain⟨its,rv,pl,_⟩:=I.list (SqL.of ea);have hlen:vs.length=its.length:=rv.length;have T:=zq I G.sub hl rv;have tl:=T.len;have O:Od its.length fun i j=>lexB (rows.getD i []) (rows.getD j []):=⟨fun i j k=>aie _ _ _,fun i j hi hj hij=>af6 _ _ fun q=>hij (by
     have hi':i < rows.length:=by omega
     have hj':j < rows.length:=by omega
     exact(wU hi' nd).mp (by
      have e1:rows[i]? = some (rows.getD i []):=by simp[hi']
      have e2:rows[j]? = some (rows.getD j []):=by simp[hj']
      rw[e1,e2,q]))⟩
    refine ajb (κ:=tuples' (jG "int" != jG "tuple")) pl.isList (by omega) O (fun h2 h' k'=>⟨fun Q q =>?_,fun i j hi hj C hC =>?_⟩) fun p hp hs =>?_
    ·obtain⟨fs,kt,fl,fz⟩:=(T.mono k').kat hne;refine kat_kind kt (by omega) (fun v hv =>?_) (by decide) q
     obtain⟨i,t,rfl⟩:=fz v hv;exact uN rfl
    ·obtain⟨a1,o1,xs1,n1,f1,g1,d1,i1⟩:=(T.mono k').at i (by omega)
     obtain⟨a2,o2,xs2,n2,f2,g2,d2,i2⟩:=(T.mono k').at j (by omega)
     unfold pQ;rw[f1,f2];refine kat_lt g1 d1 g2 d2 ?_;have l1:xs1.toArray.size=(rows.getD i []).length:=i1.length;have l2:xs2.toArray.size=(rows.getD j []).length:=i2.length;rw[l1,l2];exact am0 0 i1 i2 hC
    ·have hp':Pm rows.length p:=tl▸hp;have hs':Srt (fun i j=>lexB (rows.getD i []) (rows.getD j [])) p rows.length:=tl▸hs
     have e':(p.toList.map fun i=>rows.getD i [])=yq rows:=aqm ((ado [] hp').trans (xf rows).symm) (aww hp' hs') (aes nd)
     have hm:∀i∈p.toList,i < rows.length:=fun i hi=>by simpa using hp'.pm.mem_iff.mp hi
     obtain⟨ep,eo⟩:=kW s.heap its (adq its p);have hn:H (s.heap.objs.size+1)=none:=I.hok.fresh (gM _);have il:=aij hl hm;rw[e'] at il;refine⟨.ref (s.heap.objs.size+1),upd H (s.heap.objs.size+1) (.lst (p.toList.map fun i=>vs.getD i .non)),?_,rfl,Res.lst G q il hn⟩
     refine I.laid (t':=s.toks) (fun b u e=>kE e) (gM _) ?_
     refine⟨?_,(p.toList.map fun i=>its.getD i cX),ep,afn rv fun i hi=>by have:=hm i hi;omega,eo⟩
     rw[aD,bF,hp'.size];exact jR (abi (by omega))
   ·cases eg
 | _=>cases eg
def ad2(d:D):Option Rv:=match acd d with
 | some r=>some r
 | none=>aq6 d
theorem aow:CallD K X (.builtin "sorted") (g1 ad2):=vz fun hk jv s σ0 H x u Q tg F ρ σ d r I ru G bd eg q=>by
 unfold ad2 at eg;cases e:acd d with
 | some r' =>
  rw[e] at eg;cases eg;exact ahj.go hk jv s σ0 H [x] [u] Q I (.cons ru .nil) ⟨tg,F,ρ,σ,[d],_,G,.cons bd .nil,e,q⟩
 | none =>
  rw[e] at eg;exact au6.go hk jv s σ0 H [x] [u] Q I (.cons ru .nil) ⟨tg,F,ρ,σ,[d],_,G,.cons bd .nil,eg,q⟩
theorem aim{rows:LL9}(h:rows.length < 64)(hn:∀r∈rows,r≠[])(nd:rows.Nodup):ad2 (.lst (rows.map rowT))=some (.fr ((yq rows).map rowT)):=by
 cases rows with
 | nil=>rfl
 | cons r rows =>
  unfold ad2;rw[show acd (.lst ((r::rows).map rowT))=none from rfl]
  exact alv h hn nd
end
section
variable{K:Fg9}{X:Cx}{e a b:dZ}{es:List dZ}{pos p:Pos}
def TP(K:Fg9)(m:M Nat):TE:=fun σ H Q=>∃tg F ρ g ρ',Good K tg F H ρ σ/\m ρ=some (.ok g,ρ') /\
 ∀v H' F',Good K tg F' H' ρ' σ->Ext (Own ρ σ) (Own ρ' σ) F H F' H'->σ[g]? = some (some v)->(∃t l,(ρ':List Sl)[g]? = some (.own t l))->Q v H'
structure EPt (K:Fg9) (X:Cx) (e:dZ) (m:M Nat):Prop where
 go:X.K=K->PE X e (TP K m)
def mGh(base k:Nat):M Nat:=fun ρ=>match (ρ:List Sl)[base+(k - 1000)]? with
 | some (.own (some k') _)=>if k'=k then some (.ok (base+(k - 1000)),ρ) else none
 | _=>none
def mLol(i:Nat):M (List Nat):=fun ρ=>match (ρ:List Sl)[i]? with
 | some (.lol ts)=>some (.ok ts,ρ)
 | _=>none
def mRow(i base:Nat)(mb:M D):M Nat:=(mLol i).bind fun _=>mb.bind fun d=>(mLol i).bind fun ts=>(lift ((asI d).bind fun r=>atI ts r)).bind fun k=>mGh base k
section
variable{tg:Nat->aY}{F H:Hp}{ρ ρ':Ro}{σ:L2.St}
theorem a6u(G:Good K tg F H ρ σ){base k g:Nat}(em:mGh base k ρ=some (.ok g,ρ')):ρ'=ρ/\σ[g]? = some (some (.ref (tg k)))/\∃l,(ρ:List Sl)[g]? = some (.own (some k) l):=by
 unfold mGh at em;split at em
 ·rename_i k' l eo;split at em
  ·rename_i hk;cases em;subst hk;obtain⟨o,ho,a,vs,rfl,hf,hh,hl,ht⟩:=G.at eo;exact⟨rfl,by rw[ht _ rfl];exact ho,l,eo⟩
  ·cases em
 ·cases em
theorem avz(G:Good K tg F H ρ σ){i:Nat}{ts:List Nat}(em:mLol i ρ=some (.ok ts,ρ')):ρ'=ρ/\∃a,σ[i]? = some (some (.ref a))/\F a=some (.lst (ts.map fun k=>V.ref (tg k))):=by
 unfold mLol at em;split at em
 ·rename_i ts' eo;cases em;obtain⟨o,ho,a,rfl,hf⟩:=G.at eo;exact⟨rfl,a,ho,hf⟩
 ·cases em
end
theorem a3d{ts:List Nat}{r:Int}{k:Nat}(h:atI ts r=some k)(f:Nat->V):atI (ts.map f) r=some (f k):=by
 unfold atI at h ⊢
 rw[aD];cases e:ixN ts.length r with
 | none=>rw[e] at h;cases h
 | some j =>
  rw[e] at h;have h:ts[j]? = some k:=h;show(ts.map f)[j]? = _;rw[bK,h];rfl
theorem amr{i base:Nat}{mb:M D}(ho:PE X a (tVar i))(hb:EV K X b mb)(hs:amc b):EPt K X (.Subscript a b pos) (mRow i base mb):=EPt.mk fun hk=>PE.imp (a0s aqz ho (hb hk) hs) fun σ H Q z9=>by
 subst hk;obtain⟨tg,F,ρ,g,ρ',G,em1,q⟩:=z9;obtain⟨ts0,ρ0,e0,em2⟩:=bc em1;obtain⟨d,ρ1,e1,em3⟩:=bc em2;obtain⟨ts,ρ2,e2,em4⟩:=bc em3;obtain⟨k,ρ3,e3,em5⟩:=bc em4;obtain⟨ek,rfl⟩:=gn e3;obtain⟨rfl,a0,hv,_⟩:=avz G e0;refine⟨_,hv,tg,F,_,d,ρ1,G,e1,fun y H1 F1 G1 x1 r1 =>?_⟩
 obtain⟨rfl,a1,hv',hF⟩:=avz G1 e2;rw[hv] at hv';cases hv';cases ed:asI d with
 | none=>rw[ed] at ek;cases ek
 | some n =>
  rw[ed] at ek;obtain rfl:=anz ed;cases r1;obtain⟨rfl,hg,l,el⟩:=a6u G1 em5;exact⟨a0,_,n,_,rfl,rfl,SqL.of (G1.sub _ _ hF),a3d ek _,q _ H1 F1 G1 x1 hg ⟨_,l,el⟩⟩
def mPtB(m:M Nat):M D:=m.bind fun g=>dj g
theorem a2s{m:M Nat}(h:EPt K X e m):EB K X e (mPtB m):=EB.mk fun hk=>PE.imp (h.go hk) fun σ H Q z9=>by
 obtain⟨tg,F,ρ,d,ρ',G,em,q⟩:=z9;obtain⟨g,ρ1,e1,em⟩:=bc em;refine⟨tg,F,ρ,g,ρ1,G,e1,fun v H' F' G' x hv _ =>?_⟩
 obtain⟨rfl,v',hv',b'⟩:=rn G' em;rw[hv] at hv';cases hv';exact q v H' F' G' x b'
def mOne(m:M D):M (List D):=m.bind fun d=>ret [d]
theorem av8{m:M D}(h:EB K X e m)(hs:aX [e] X.env=(false,eval e X.env)::aX [] X.env:=by rfl):EA K X [e] (mOne m):=EA.mk fun hk=>PA.imp (uh (h hk) aex hs) fun σ H Q z9=>by
 obtain⟨tg,F,ρ,ds,ρ',G,em,q⟩:=z9;obtain⟨d,ρ1,e1,em⟩:=bc em;obtain⟨rfl,rfl⟩:=jq em;exact⟨tg,F,ρ,d,_,G,e1,fun v H1 F1 G1 x1 r1=>q _ H1 F1 G1 x1 (.cons r1 .nil)⟩
def alm(mp:M Nat)(g:List D->List D->Option (D×List D))(ms:M (List D)):M D:=mp.bind fun i=>ms.bind fun ds=>(mOwn i).bind fun l=>(lift (g l ds)).bind fun r=>(acl i r.2).bind fun _=>ret r.1
theorem ark{mp:M Nat}{name:Str}{id:String}{r:V->List V->Hp->VK->Prop}{g:List D->List D->Option (D×List D)}{ms:M (List D)}{apos cpos:Pos}(hr:MutD K r g)(slot:Slot "list" name id)(hty:typeOf (.builtin id)=pure (.type "method_descriptor"))(hm:MtR X id r)(ho:EPt K X a mp)(ha:ED K X (e::es) ms)
  (hbase:attributeBase a name X.env (eval a X.env)=eval a X.env:=by rfl)
  (hfew:((iZ cpos (aX (e::es) X.env)).all (fun x => !x.1)&&(backToKw cpos (keywordEach [] X.env)).all (fun x=>x.1.isSome)
   && decide ((e::es).length+([]:List pF).length+(if ([]:List pF).isEmpty then 0 else 1) < 30))=true:=by rfl)
  (hline:(apos.endLine==cpos.line)=true:=by rfl) (hs:aX (e::es) X.env=(false,eval e X.env)::aX es X.env:=by rfl) (hplain:(iZ cpos (aX es X.env)).any (·.1)=false:=by rfl) :
  EV K X (.Call (.Attribute a name apos) (e::es) [] cpos) (alm mp g ms):=EV.mk fun hk=>by
 intro jv s σ H Q I z9;obtain⟨tg,F,ρ,d,ρ',G,em,q⟩:=z9;obtain⟨i,ρ0,e0,em1⟩:=bc em;obtain⟨ds,ρ1,e1,em2⟩:=bc em1;obtain⟨l,ρ2,e2,em3⟩:=bc em2;obtain⟨x,ρ3,e3,em4⟩:=bc em3;obtain⟨u,ρ4,e4,em5⟩:=bc em4;obtain⟨rfl,rfl⟩:=jq em5;obtain⟨eg,rfl⟩:=gn e3;refine ap9 (r:=fun x vs H Q=>(∀b xs,x=.ref b->H b=some (.lst xs)->xs.length<=capS)->r x vs H Q) lG slot hty (fun jv s σ H x xs v us Q I rx rv h=>hm jv s σ H x xs v us Q I rx rv (h fun b xs _ hb =>?_)) (ho.go hk) (ha hk) hbase hfew hline hs hplain jv s σ H Q I ?_
 ·obtain⟨z,_⟩:=I.lstM hb;rw[cF] at z;exact z
 refine⟨tg,F,ρ,i,ρ0,G,e0,fun v H0 F0 G0 x0 hv ho =>?_⟩
 obtain⟨t0,l0,eo⟩:=ho;obtain⟨o,ho',b,xs0,rfl,_,hh0,_,_⟩:=G0.at eo;rw[hv] at ho';cases ho';refine⟨.inl ⟨rfl,_,SqL.of hh0⟩,tg,F0,ρ0,ds,ρ1,G0,e1,fun vs H1 F1 G1 x1 r1 cap =>?_⟩
 obtain⟨rfl,t,a',xs,es',hv',hh,hl⟩:=ajn G1 e2;rw[hv] at hv';cases hv';refine hr F1 H1 _ xs vs l ds x.1 x.2 Q G1.sub hh (cap _ _ rfl hh) hl r1 eg fun w ys iw il =>?_
 obtain⟨G2,x2⟩:=ali G1 e4 hv il;exact q w _ F1 G2 ((x0.trans x1).trans x2) iw
def mkR(l:List D):Str×Rv:=("", .fr l)
def mkV(a:aY):Str×V:=("", .ref a)
section
variable{F H:Hp}{O:aY->Prop}
theorem FdR.snoc{rs:List (Str×Rv)}{fvs:List (Str×V)}{A:List aY}(h:FdR K F H O rs fvs A){f:Str}{l:List D}{e:aY}{ws:List V}(hf:F e=none)(hn:¬O e)(hh:H e=some (.lst ws))(hl:IsL K F l ws)(ne:e∉A) :
  FdR K F H O (rs++[(f,.fr l)]) (fvs++[(f,.ref e)]) (A++[e]):=by
 induction h with
 | nil=>exact .fr hf hn hh hl dN .nil
 | v h t ih=>exact .v h (ih ne)
 | fr hf' hn' hh' h' ne' t ih =>
  refine .fr hf' hn' hh' h' (fun z =>?_) (ih fun z=>ne (aK _ z))
  rcases bZ.mp z with z | z
  ·exact ne' z
  ·rw[bD] at z;subst z;exact ne (aN ..)
theorem FdR.out2{rs:List (Str×Rv)}{fvs:List (Str×V)}{A:List aY}(h:FdR K F H O rs fvs A){O':aY->Prop}(w:∀z∈A,¬O' z):FdR K F H O' rs fvs A:=by
 induction h with
 | nil=>exact .nil
 | v h t ih=>exact .v h (ih w)
 | @fr f l e ws rs fvs A hf hn hh h ne t ih=>exact .fr hf (w e (aN ..)) hh h ne (ih fun z hz=>w z (aK _ hz))
theorem FdR.frz{rs:List (Str×Rv)}{fvs:List (Str×V)}{A:List aY}(h:FdR K F H O rs fvs A){d:aY}{o:HO}(hd:d∉A)(hf:F d=none):FdR K (L2.upd F d o) H O rs fvs A:=by
 induction h with
 | nil=>exact .nil
 | v h t ih=>exact .v (h.mono (Same.new hf o)) (ih hd)
 | @fr f l e ws rs fvs A hf' hn hh h ne t ih =>
  have h1:e≠d:=fun q=>hd (q▸List.mem_cons_self ..)
  exact .fr (by rw[cj h1];exact hf') hn hh (h.mono (Same.new hf o)) ne (ih fun q=>hd (aK _ q))
theorem FdR.lenA{rs:List (Str×Rv)}{fvs:List (Str×V)}{A:List aY}(h:FdR K F H O rs fvs A):(∀r∈rs,∃l,r.2=.fr l)->A.length=rs.length:=by
 induction h with
 | nil=>exact fun _=>rfl
 | v h t ih =>
  intro w;obtain⟨l,z⟩:=w _ (aN ..);cases z
 | fr hf hn hh h ne t ih=>intro w;rw[bJ,bJ,ih fun r hr=>w r (aK _ hr)]
end
def compR(b:D->Ro->Option Ro)(me:M Rv):List D->List (List D)->M (List (List D))
 | [],ys=>ret ys
 | d::ds,ys=>fun ρ=>match b d ρ with
  | none=>none
  | some ρ1=>(me.bind fun y=>match y with | .fr l=>compR b me ds (ys++[l]) | _=>fun _=>none) ρ1
def ag9(src:List (Option Nat))(mi:M (List D))(b:D->Ro->Option Ro)(me:M Rv):M (List (List D)):=mi.bind fun l ρ=>if okJs ρ src=true then match compR b me l [] (lend ρ src (src.map fun _=>none)) with
  | some (.ok ys,ps)=>if ys.length<=capS then some (.ok ys,putB ρ src ps) else none
  | some (.exc x,ps)=>some (.exc x,putB ρ src ps)
  | none=>none
 else none
theorem akj{b:D->Ro->Option Ro}{me:M Rv}:∀{l:List D} {ys yf:List (List D)} {ρ ρ':Ro},compR b me l ys ρ=some (.ok yf,ρ')->ys.length<=yf.length
 | [],ys,yf,ρ,ρ',h=>by
  obtain⟨rfl,_⟩:=jq (show ret ys ρ=_ from h)
  exact aO _
 | d::ds,ys,yf,ρ,ρ',h=>by
  unfold compR at h;split at h
  ·cases h
  ·obtain⟨y,ρ3,e3,h⟩:=bc h;split at h
   ·have:=akj h;rw[aW] at this;omega
   ·cases h
theorem aqk{src:List (Option Nat)}{mi:M (List D)}{b:D->Ro->Option Ro}{me:M Rv}{ρ ρ':Ro}{ys:List (List D)}(h:ag9 src mi b me ρ=some (.ok ys,ρ')):∃l ρ1 ps,mi ρ=some (.ok l,ρ1)/\okJs ρ1 src=true/\compR b me l [] (lend ρ1 src (src.map fun _=>none))=some (.ok ys,ps)/\ys.length<=capS/\ρ'=putB ρ1 src ps:=by
 obtain⟨l,ρ1,e1,em⟩:=bc h;have em:(if okJs ρ1 src=true then match compR b me l [] (lend ρ1 src (src.map fun _=>none)) with
  | some (.ok ys,ps)=>if ys.length<=capS then some (Out.ok ys,putB ρ1 src ps) else none
  | some (.exc x,ps)=>some (.exc x,putB ρ1 src ps)
  | none=>none
  else none)=some (.ok ys,ρ'):=em
 split at em
 ·rename_i hk;split at em
  ·rename_i ys' ps e2;split at em
   ·rename_i hz;cases em;exact⟨l,ρ1,ps,e1,hk,e2,hz,rfl⟩
   ·cases em
  ·cases em
  ·cases em
 ·cases em
structure RowsAt (K:Fg9) (H:Hp) (O:aY->Prop) (F' H':Hp) (O':aY->Prop) (rows:List (List D)) (dd:aY) (A:List aY):Prop where
 h0:H dd=none
 f:F' dd=none
 n:¬O' dd
 h:H' dd=some (.lst (A.map V.ref))
 na:dd∉A
 new:∀e∈A,H e=none∨O e
 fd:FdR K F' H' O' (rows.map mkR) (A.map mkV) A
def a7l(K:Fg9)(m:M (List (List D))):TE:=fun σ H Q=>∃tg F ρ rows ρ',Good K tg F H ρ σ/\m ρ=some (.ok rows,ρ') /\
 ∀dd A H' F',Good K tg F' H' ρ' σ->Ext (Own ρ σ) (Own ρ' σ) F H F' H'->RowsAt K H (Own ρ σ) F' H' (Own ρ' σ) rows dd A->Q (.ref dd) H'
theorem RowsAt.step{H:Hp}{O:aY->Prop}{F1 H1 F2 H2:Hp}{O1 O2:aY->Prop}{rows:List (List D)}{dd:aY}{A:List aY}(r:RowsAt K H O F1 H1 O1 rows dd A)(x:Ext O1 O2 F1 H1 F2 H2):RowsAt K H O F2 H2 O2 rows dd A:=by
 refine⟨r.h0,?_,fun z =>?_,x.keep _ _ r.h r.n,r.na,r.new,r.fd.step x⟩
 ·cases z:F2 dd with
  | none=>rfl
  | some o =>
   rcases x.new _ _ z with z | z | z
   ·rw[r.f] at z;cases z
   ·rw[r.h] at z;cases z
   ·exact absurd z r.n
 ·rcases x.own _ z with z | z
  ·exact r.n z
  ·rw[r.h] at z;cases z
theorem aru{mi:M (List D)}{bb:D->Ro->Option Ro}{me:M Rv}{src:List (Option Nat)}(σ:L2.St)(H:Hp)(Q:VK)(t:a7l K (ag9 src mi bb me) σ H Q):as7 (TIt K mi) (TGd K bb) (TB K (ret true)) (T K (relR K) me) src σ H Q:=by
 obtain⟨tg,F,ρ,rows,ρ',G,em,q⟩:=t;obtain⟨l,ρ1,ps,e1,hj,e2,hz,rfl⟩:=aqk em;refine⟨tg,F,ρ,l,ρ1,G,e1,fun J H1 F1 G1 x1 Z dd hd =>?_⟩
 have L:Lent K F1 σ (pick src σ) src (src.map fun _=>none):=ajk src
 have Gl:=aaa G1 hj L;have own0:¬Own (lend ρ1 src (src.map fun _=>none)) (pick src σ) dd:=fun z=>Gl.own_ne hd z rfl
 refine anr Z (fun i ys σc Hc=>∃Fc ρc yd A,Good K (tgOf (pick src σ)) Fc Hc ρc σc/\Ext (Own (lend ρ1 src (src.map fun _=>none)) (pick src σ)) (Own ρc σc) F1 H1 Fc Hc/\RowsAt K H1 (Own (lend ρ1 src (src.map fun _=>none)) (pick src σ)) Fc Hc (Own ρc σc) yd dd A/\ys=A.map V.ref/\yd.length=A.length/\compR bb me (l.drop i) yd ρc=some (.ok rows,ps))
  ⟨F1,_,[],[],Gl.upd (G1.freeF hd) own0 _ (fun _ _ _ z=>by rw[hd] at z;cases z),(Ext.refl _ _ _).upd hd,⟨hd,G1.freeF hd,own0,gk,dN,fun _ z=>absurd z dN,.nil⟩,rfl,rfl,e2⟩ ?_ ?_ ?_
 ·rintro i ys σc Hc _ z9
  obtain⟨Fc,ρc,yd,A,Gc,xc,R,rfl,_,_⟩:=z9;exact⟨xc.sub.trans Gc.sub,R.h⟩
 ·rintro i d x ys σc Hc0 Hc M hdl z9 al hM
  obtain⟨Fc0,ρc,yd,A,Gc0,xc0,R0,rfl,hlen,ec⟩:=z9;obtain⟨Fc,Gc,xc,_,idl,xa⟩:=ai3 Gc0 xc0 xc0.sub al;have R:=R0.step xa;have hlt:i < l.length:=(aM.mp hdl).1;have edl:l[i]=d:=(aM.mp hdl).2;rw[iJ hlt,edl] at ec;unfold compR at ec;split at ec
  ·cases ec
  ·rename_i ρ2 eb;refine⟨_,Fc,ρc,d,ρ2,Gc,idl,eb,fun σ2 H2 F2 G2 x2 =>?_⟩
   have R2:=R.step x2;refine⟨_,F2,ρ2,true,ρ2,G2,rfl,fun H3 F3 G3 x3 =>?_⟩
   have R3:=R2.step x3;obtain⟨y,ρ4,ey,ec⟩:=bc ec;refine iteT ⟨_,F3,ρ2,y,ρ4,G3,ey,fun v H4 F4 G4 x4 iv =>?_⟩
   have R4:=R3.step x4;cases y with
   | v _=>cases ec
   | tf _ _=>cases ec
   | fr lr =>
    obtain⟨ar,vs,rfl,ha,hf,hh,hl,hn⟩:=iv;have ec:compR bb me (l.drop (i+1)) (yd++[lr]) ρ4=some (.ok rows,ps):=ec;have hne:ar∉A:=fun z=>by
     obtain⟨o1,_,ws,o3,_⟩:=R3.fd.out ar z;rcases ha with ha | ha
     ·rw[o3] at ha;cases ha
     ·exact o1 ha
    have hda:dd≠ar:=fun z=>by
     subst z;rcases ha with ha | ha
     ·rw[R3.h] at ha;cases ha
     ·exact R3.n ha
    have x13:=(xc.trans x2).trans x3;refine⟨R4.h,?_,hM _ _ _ ⟨F4,ρ4,yd++[lr],A++[ar],G4.upd R4.f R4.n _ (fun _ _ _ z=>by rw[R4.h] at z;cases z),(x13.trans x4).upd hd,⟨R4.h0,R4.f,R4.n,?_,fun z =>?_,fun z hz' =>?_,?_⟩,?_,by simp[hlen],ec⟩⟩
    ·have:=akj ec;rw[aW,gC] at this;rw[aD,cF];exact bM (by omega) (cM this hz)
    ·rw[gk,cJ];rfl
    ·rcases bZ.mp z with z | z
     ·exact R4.na z
     ·exact hda (bD.mp z)
    ·rcases bZ.mp hz' with z' | z'
     ·exact R4.new z z'
     ·rw[bD] at z';subst z';rcases ha with ha | ha
      ·exact .inl (x13.there z ha)
      ·exact(x13.own z ha).symm
    ·rw[cJ,cJ];refine FdR.upd (FdR.snoc R4.fd hf hn hh hl hne) fun z =>?_
     rcases bZ.mp z with z | z
     ·exact R4.na z
     ·exact hda (bD.mp z)
    ·rw[cJ];rfl
 ·rintro ys σc Hc z9
  obtain⟨Fc,ρc,yd,A,Gc,xc,R,rfl,hlen,ec⟩:=z9;rw[pP (aO _)] at ec;obtain⟨rfl,rfl⟩:=jq (show ret yd ρc=_ from ec)
  have fin:Fin K Fc Hc (pick src σ) ps (Own ps σc):=⟨fun i l' e=>by
   obtain⟨o,ho,a,ws,rfl,hf,hh,hl,ht⟩:=Gc.at e;rw[ht i rfl];exact⟨⟨i,⟨_,_,e⟩,ho⟩,hf,ws,hh,hl⟩⟩
  refine q dd A Hc Fc (ab6 G1 L xc Gc.sub fin) (x1.trans (ad5 G1 L xc)) ⟨x1.there dd hd,R.f,fun⟨j,w⟩=>G1.own_ne hd ⟨j,ach w⟩ rfl,R.h,R.na,fun z hz' =>?_,R.fd.out2 fun z hz' w =>?_⟩
  ·rcases R.new z hz' with w | ⟨i,w⟩
   ·exact .inl (x1.there z w)
   ·obtain⟨j,_,w⟩:=aan G1 L w;exact(x1.own z ⟨j,w⟩).symm
  ·obtain⟨o1,o2,ws,o3,l',o4⟩:=R.fd.out z hz';have rr:relR K (.fr l') (.ref z) H1 (Own (lend ρ1 src (src.map fun _=>none)) (pick src σ)) Fc Hc (Own ps σc):=⟨z,ws,rfl,R.new z hz',o2,o3,o4,o1⟩
   obtain⟨a',vs',e',_,_,_,_,h5⟩:=ai1 (ps:=ps) G1 L fin rr;cases e';exact h5 w
def dLol(i:Nat)(gs os:List Nat)(m:M (List (List D)))(k:Sd):Sd:=dM m fun rows ρ =>
 if (ρ:List Sl).all tagB=true/\rows.length<=gs.length then match setG (rows.map mkR) (gs.take rows.length) 0 (cG ρ i (.lol ((aR rows.length).map fun j=>1000+j))) with
  | some ρ3=>match k ρ3 with
   | some (fl,ρ4)=>if (offs ρ4 os:List Sl).all tagB=true then some (fl,offs ρ4 os) else none
   | none=>none
  | none=>none
 else none
theorem awq{tgt iter elt:dZ}{i:Nat}{x:Str}{scope:mX}{cpos:Pos}{ss:List iY}{mi:M (List D)}{bb:D->Ro->Option Ro}{me:M Rv}{k:Sd}{gs os:List Nat}(fr N:List Str)(src:List (Option Nat))(hN:X.N.Nodup)(hxi:X.N[i]? = some x)(hx:Loc X.env.scope x)(hc:X.calm=true)(hi:IT K X tgt iter mi)
  (hg:∀fp s H,GV K (cxC X N scope fr fp s H) tgt bb) (he:∀fp s H,ER K (cxC X N scope fr fp s H) elt me) (t:SVs K X ss k)
  (hgh:∀j∈gs,∀y,X.N[j]? = some y->¬Vis X.env.scope y)
  (hsw:nQ (.ListComp elt [⟨tgt,iter,[],0⟩] scope cpos) (some (.Name x p)) pos.line X.env=pure true:=by rfl)
  (hok:agp X.env X.N scope fr N src=true:=by rfl) (hkind:scope.kind=.function:=by rfl) (hclos:closureFor scope X.env=pure (yw X.env fr):=by rfl)
  (hs:∀x,foldedSetIterable iter X.env x=pure x:=by intro _;rfl) (hf:X.fn x=true∨X.env.scope.names.lookup x=some .local:=by first | exact .inl rfl | exact .inr rfl | assumption) :
  SVs K X (.Assign [.Name x p] (.ListComp elt [⟨tgt,iter,[],0⟩] scope cpos) pos::ss) (dLol i gs os (ag9 src mi bb me) k):=SVs.mk fun hk=>by
 subst hk;have hkc:∀fp s H,(cxC X N scope fr fp s H).K=X.K:=fun _ _ _=>rfl
 refine PSs.imp (ams (ap4 fr N src hN hxi hx hc (hi rfl) (fun fp s H=>(hg fp s H).go (hkc _ _ _)) (fun fp s H=>(km (K:=X.K)).go (hkc _ _ _)) (fun fp s H=>(he fp s H).go (hkc _ _ _)) hsw hok hkind hclos hs hf) (a0c (t rfl))) fun E σ H ⟨tg,F,ρ,fl,ρ',G,em,q⟩=>ab2 em q fun rows ρ1 e1 em =>?_
 refine aru σ H _ ⟨tg,F,ρ,rows,ρ1,G,e1,fun dd A H' F' G' x' R =>?_⟩
 split at em
 ·rename_i hz;obtain⟨hb,hrl⟩:=hz;split at em
  ·rename_i ρ3 e3;split at em
   ·rename_i fl' ρ4 e4;split at em
    ·rename_i hb4;cases em;have hAl:A.length=rows.length:=by
      have:=R.fd.lenA fun r hr=>by
       obtain⟨l,_,rfl⟩:=bI.mp hr;exact⟨l,rfl⟩
      rwa[aD] at this
     have htg:∀m',m' < 1000->tg m'=(fun m=>if m < 1000 then tg m else A.getD (m - 1000) 0) m':=fun m' hm=>by simp[hm]
     have hnm:∀(m:Nat) (e':aY),A[m]? = some e'->(fun m=>if m < 1000 then tg m else A.getD (m - 1000) 0) (1000+(0+m))=e':=fun m e' he'=>by
      show(if 1000+(0+m) < 1000 then tg (1000+(0+m)) else A.getD (1000+(0+m) - 1000) 0)=e'
      rw[if_neg (by omega),show 1000+(0+m) - 1000=m by omega,aP,he']
      rfl
     have Gt:=G'.retag (tg1:=fun m=>if m < 1000 then tg m else A.getD (m - 1000) 0) hb htg
     have Gz:=Gt.freeze R.h R.n R.f;have eA:A.map V.ref=((aR rows.length).map fun j=>1000+j).map fun k=>V.ref ((fun m=>if m < 1000 then tg m else A.getD (m - 1000) 0) k):=by
      refine oJ fun m =>?_
      rw[cA,bK,bK];rcases lZ m A.length with hm | hm
      ·rw[aC hm,aC (by rw[iU];omega),nJ]
       have:=hnm m _ (aC hm);rw[eN] at this;show some (V.ref A[m])=some (V.ref _);exact congrArg (fun z=>some (V.ref z)) this.symm
      ·rw[iG hm,iG (by rw[iU];omega)]
       rfl
     have Gi:=Gz.put (s:=.lol ((aR rows.length).map fun j=>1000+j)) (v:=.ref dd) i ⟨dd,rfl,by rw[gk,eA]⟩ (fun t l a z=>by cases z)
     have ob:∀z,Own (cG ρ1 i (.lol ((aR rows.length).map fun j=>1000+j))) (cG σ i (some (V.ref dd))) z->Own ρ1 σ z:=fun z hz=>by
      rcases ac0 G'.len hz with w | ⟨⟨t,l,w⟩,_⟩
      ·exact w
      ·cases w
     have fd2:=R.fd.frz (o:=.lst (A.map V.ref)) R.na R.f;obtain⟨σ2,Gf,s1,s2,s3⟩:=aw2 (n:=0) fd2 Gi (fun z hz w=>(R.fd.out z hz).1 (ob z w)) hnm e3
     refine⟨σ2,⟨s2,fun j yy v hj' hv vis =>?_⟩,_,_,ρ3,fl,ρ4,Gf,e4,?_⟩
     ·by_cases hg':j∈gs.take rows.length
      ·exact absurd vis (hgh j (vN hg') yy hj')
      ·rw[<-s1 j hg'];exact hv
     ·refine FlOk.off (fun m hm=>(htg m hm).symm) hb4 (FlOk.back ⟨x'.sub.trans (Same.new R.f _),fun z o hz =>?_,x'.keep,fun z hz =>?_,x'.there⟩ q)
      ·by_cases hzd:z=dd
       ·subst hzd;exact .inr (.inl R.h0)
       ·rw[cj hzd] at hz;exact x'.new z o hz
      ·rcases s3 z hz with w | w
       ·exact x'.own z (ob z w)
       ·exact(R.new z w).symm
    ·cases em
   ·cases em
  ·cases em
 ·cases em
def frzR(base:Nat):List Nat->Ro->Option (List (List D)×Ro)
 | [],ρ=>some ([],ρ)
 | t::ts,ρ=>match (ρ:List Sl)[base+(t - 1000)]? with
  | some (.own (some t') l)=>if t'=t then match frzR base ts (cG ρ (base+(t - 1000)) .emp) with
   | some (rs,ρ2)=>some (l::rs,ρ2)
   | none=>none
   else none
  | _=>none
def dFrz(i base:Nat)(k:Sd):Sd:=fun ρ=>match (ρ:List Sl)[i]? with
 | some (.lol ts)=>match frzR base ts ρ with
  | some (rows,ρ2)=>match (ρ2:List Sl)[i]? with
   | some (.lol ts')=>if ts'=ts then k (cG ρ2 i (.val (.lst (rows.map D.lst)))) else none
   | _=>none
  | none=>none
 | _=>none
theorem ana{tg:Nat->aY}{H:Hp}{σ:L2.St}{base:Nat}:∀{ts:List Nat} {ρ ρ2:Ro} {F:Hp} {rows:List (List D)},Good K tg F H ρ σ->frzR base ts ρ=some (rows,ρ2) ->
  ∃F2,Good K tg F2 H ρ2 σ/\Same F F2/\(∀a o,F2 a=some o->F a=some o∨Own ρ σ a)/\IsL K F2 (rows.map D.lst) (ts.map fun t=>V.ref (tg t))/\∀z,Own ρ2 σ z->Own ρ σ z
 | [],ρ,ρ2,F,rows,G,em=>by
  cases em;exact⟨F,G,Same.refl F,fun _ _ h=>.inl h,.nil,fun _ h=>h⟩
 | t::ts,ρ,ρ2,F,rows,G,em=>by
  unfold frzR at em;split at em
  ·rename_i t' l eo;split at em
   ·rename_i ht;subst ht;split at em
    ·rename_i rs ρ3 e3;cases em;obtain⟨o,ho,a,vs,rfl,hf,hh,hl,hta⟩:=G.at eo;have no:¬Own (cG ρ (base+(t' - 1000)) .emp) σ a:=fun z=>(yt z).2 _ _ eo G.inj ⟨⟨_,_,eo⟩,ho⟩
     have G1:=(G.drop (base+(t' - 1000))).freeze hh no hf;obtain⟨F2,G2,s2,n2,i2,o2⟩:=ana G1 e3;have sN:=Same.new hf (.lst vs);refine⟨F2,G2,sN.trans s2,fun b o' hb =>?_,.cons ?_ i2,fun z hz=>(yt (o2 z hz)).1⟩
     ·rcases n2 b o' hb with w | w
      ·by_cases hb':b=a
       ·subst hb';exact .inr ⟨_,⟨_,_,eo⟩,ho⟩
       ·rw[cj hb'] at w;exact .inl w
      ·exact .inr (yt w).1
     ·show Is K F2 (.lst l) (V.ref (tg t'));rw[hta _ rfl];exact .lst (s2 _ _ gk) ((hl.mono sN).mono s2)
    ·cases em
   ·cases em
  ·cases em
theorem set_same{α:Type}{l:List α}{i:Nat}{x:α}(h:l[i]? = some x):l.set i x=l:=by
 obtain⟨hi,e⟩:=aM.mp h;rw[<-e];exact List.set_getElem_self hi
theorem awr{ss:List iY}{k:Sd}{i base:Nat}(t:SVs K X ss k):SVs K X ss (dFrz i base k):=SVs.mk fun hk=>PSs.imp (t hk) fun E σ H z9=>by
 obtain⟨tg,F,ρ,fl,ρ',G,em,q⟩:=z9;unfold dFrz at em;split at em
 ·rename_i ts eo;split at em
  ·rename_i rows ρ2 e2;split at em
   ·rename_i ts' e3;split at em
    ·rename_i hts;subst hts;obtain⟨F2,G2,s2,n2,i2,o2⟩:=ana G e2;obtain⟨o,ho,a,rfl,hF⟩:=G2.at e3;have G3:=G2.put (s:=.val (.lst (rows.map D.lst))) (v:=.ref a) i ⟨_,rfl,.lst hF i2⟩ (fun t l a z=>by cases z)
     have ob:∀z,Own (cG ρ2 i (.val (.lst (rows.map D.lst)))) (cG σ i (some (.ref a))) z->Own ρ2 σ z:=fun z hz=>by
      rcases ac0 G2.len hz with w | ⟨⟨t,l,w⟩,_⟩
      ·exact w
      ·cases w
     rw[set_same ho] at G3 ob;refine⟨tg,F2,_,fl,ρ',G3,em,FlOk.back ⟨s2,fun b o' hb =>?_,fun _ _ h _=>h,fun z hz=>.inl (o2 z (ob z hz)),fun _ h=>h⟩ q⟩
     rcases n2 b o' hb with w | w
     ·exact .inl w
     ·exact .inr (.inr w)
    ·cases em
   ·cases em
  ·cases em
 ·cases em
end
end Dn
namespace Kst
open PySem PySem.W PyProof.Rows
theorem ajy:∀f n r:Nat,r<=1->2<=n->minRun' f n r<=n+r
 | 0,n,r,_,_=>aO _
 | f+1,n,r,hr,hn=>by
  rw[minRun'_succ]
  by_cases q:n < 64
  ·rw[if_pos q];exact aO _
  ·rw[if_neg q];have hm:n % 2<=1:=by omega
   have:=ajy f (n / 2) (max r (n % 2)) (by omega) (by omega)
   omega
section
variable{prog:bV}{w:dO}{A:dB}{E:aG->aH->Prop}{κ:nF}{s:aH}
theorem axs{it:Array Keyed}{n:Nat}{Q:Unit->SortSt->aH->Prop}{G:Array Nat->aH->Prop}(h2:2<=n)
  (hG:∀p' st' s',p'.size=n->arrOf st'=p'.map (kas_item it)->failedOf st'=none->G p' s'->Q () st' s') (h:(nT n (cZ (aR n))).kasWp (kas_cmp prog w A κ it) (fun r s'=>r.1=n/\G r.2 s') s) :
  kasC (bY prog w) A E sortRuns' Q (kas_st κ it (cZ (aR n))) s:=by
 obtain⟨r,rfl⟩:∃r,n=r+2:=⟨n - 2,by omega⟩
 have z1:(cZ (aR (r+2))).size=r+2:=by simp
 have z2:(arrOf (kas_st κ it (cZ (aR (r+2))))).size=r+2:=by
  show((cZ (aR (r+2))).map (kas_item it)).size=_;rw[tY,z1]
 have z3:¬r+2 < minRun' (r+2) (r+2) 0:=lC.mpr (ajy _ _ _ (by decide) (by omega))
 rw[sortRuns'_eq];refine kasC_bind (kasC_get ?_);dsimp only;simp only[z2];refine kasC_bind (kasC_range ?_);show kasC _ _ _ (forIn (0::1::vY 2 r) _ _) _ _ _;refine kasC_cons ?_;dsimp only;rw[if_neg (by omega)]
 simp only[Nat.sub_zero,eN];refine kasC_bind (kas_count_ (by omega) (by rw[z1];exact aO _) (fun m p' s' _ _ hp hg =>?_) h)
 have hg1:m=r+2/\G p' s':=hg
 clear hg
 obtain⟨rfl,hg⟩:=hg1;dsimp only;rw[if_neg z3];refine kasC_bind (kasC_get ?_);rw[show(pendingOf (kas_st κ it p')).back? = none from rfl]
 dsimp only;refine kasC_bind (kasC_modify (kasC_pure ?_));show kasC _ _ _ (forIn (1::vY 2 r) _ _) _ _ _;refine kasC_cons ?_;dsimp only;rw[if_pos (aO _)];refine kasC_pure ?_;dsimp only;refine kasC_bind (kasC_range ?_);show kasC _ _ _ (forIn (0::1::vY 2 r) _ _) _ _ _;refine kasC_cons ?_;refine kasC_bind (kasC_get ?_);rw[if_pos (show(pendingOf (setPending (kas_st κ it p') ((pendingOf (kas_st κ it p')).push (0,r+2,0)))).size<=1 from aO 1)]
 refine kasC_pure ?_;dsimp only;exact kasC_pure (hG p' _ _ (hp.trans z1) rfl rfl hg)
theorem aof{vs:List aG}{Q:SortSt->aH->Prop}{G:Array Nat->aH->Prop}(h2:2<=vs.length)
  (hG:∀p st' s',p.size=vs.length->arrOf st'=p.map (kas_item (vs.toArray.zip vs.toArray))->failedOf st'=none->G p s'->Q st' s') (h:(nT vs.length (cZ (aR vs.length))).kasWp (pQ prog w A κ vs) (fun r s'=>r.1=vs.length/\G r.2 s') s) :
  bL (bY prog w) A ((sortRuns').run (uA κ (vs.toArray.zip vs.toArray) #[] 7 none)) (fun r s'=>Q r.2 s') E s:=by
 rw[kat_ask_eq (ks:=vs) (vs:=vs) rfl] at h;have e:=kas_range (vs.toArray.zip vs.toArray);rw[show(vs.toArray.zip vs.toArray).size=vs.length by simp] at e
 have est:uA κ (vs.toArray.zip vs.toArray) #[] 7 none=kas_st κ (vs.toArray.zip vs.toArray) (cZ (aR vs.length)):=by
  show uA κ (vs.toArray.zip vs.toArray) #[] 7 none=uA κ ((cZ (aR vs.length)).map (kas_item (vs.toArray.zip vs.toArray))) #[] 7 none;rw[e]
 rw[est];exact axs (E:=E) (Q:=fun _ st' s'=>Q st' s') h2 hG h
theorem asn{n:Nat}{c:Nat->Nat->Bool}{cmp:Nat->Nat->(Bool->aH->Prop)->aH->Prop}(a:Asks n c cmp s)(h2:2<=n)(hs:∀k,1<=k->k < n->c k (k - 1)=false){G:Array Nat->aH->Prop}(h:G (cZ (aR n)) s) :
  (nT n (cZ (aR n))).kasWp cmp (fun r s'=>r.1=n/\G r.2 s') s:=by
 have hp:Pm n (cZ (aR n)):=⟨by simp⟩
 have hg:∀k,k < n->(cZ (aR n)).getD k 0=k:=fun k hk=>by simp[hk]
 unfold nT;rw[fQ];refine ahl a hp _ _ (aO _) (by omega) fun m x1 x2 x3 x4 =>?_
 have e:m=n:=by
  rcases lZ m n with q | q
  ·have:=x4 (by omega)
   rw[hg m q,hg (m - 1) (by omega),hs m x1 q] at this
   cases this
  ·omega
 subst e;rw[if_pos (by simp)]
 exact⟨rfl,h⟩
theorem asm{a:aY}{vs:List aG}{n:Nat}{P:xW->aH->Prop}{c:Nat->Nat->Bool}(ho:s.heap.get? a=some (cQ "list" vs.toArray n))(h2:2<=vs.length)(hz:vs.length<=1000)(hs:∀k,1<=k->k < vs.length->c k (k - 1)=false)
  (hk:∀h':fD,(∀b o,b≠a->s.heap.get? b=some o->h'.get? b=some o)->(∀Q:nF->aH->Prop,Q κ { s with heap:=h' }->bL (bY prog w) A (keyKind' vs.toArray) Q (fun _ _=>False) { s with heap:=h' })/\Asks vs.length c (pQ prog w A κ vs) { s with heap:=h' })
  (h:P (.done (.ret .none)) { s with heap:=sortedHeap s.heap a vs vs.toArray }) :
  bL (bY prog w) A (jL.«list.sort» ⟨[.ref a],[]⟩) P E s:=by
 have ha:a < s.heap.objs.size:=aQ ho;obtain⟨e1,ho1⟩:∃e1,(s.heap.update a (cB fun _=>(#[]:Array aG))).get? a=some (cQ "list" #[] e1):=⟨_,get?_update_seq ho fun _ => #[]⟩
 have ho6:(((s.heap.update a (cB fun _=>(#[]:Array aG))).push (cQ "tuple" vs.toArray 0)).push (cQ "list" #[] 0)).get? a=some (cQ "list" #[] e1):=aB _ (aB _ ho1)
 have kp:∀b o,b≠a->s.heap.get? b=some o->(((s.heap.update a (cB fun _=>(#[]:Array aG))).push (cQ "tuple" vs.toArray 0)).push (cQ "list" #[] 0)).get? b=some o:=fun b o hb e =>
  aB _ (aB _ (by rw[jB _ _ _ _ hb];exact e))
 rw[list_sort_plain];refine aA (listItems_at ho rfl ?_);refine aA (listUpdate_at ho rfl ?_ (by rw[aL,cF];omega) (cI _))
 refine aA (seqEpoch_at ho1 rfl ?_);refine aA (wpAny_newTuple ?_ (by show vs.length<=_;rw[cF];omega))
 refine aA (wpAny_newList ?_ (cI _));refine cU ?_;show bL (bY prog w) A _ P E { s with heap:=((s.heap.update a (cB fun _=>(#[]:Array aG))).push (cQ "tuple" vs.toArray 0)).push (cQ "list" #[] 0) }
 dsimp only;have hn2:¬vs.toArray.size < 2:=by rw[aL];omega
 rw[if_neg hn2,if_neg hn2];obtain⟨k1,k2⟩:=hk _ kp;refine aA (bC (k1 _ ?_) (fun κ' s' q=>q) fun _ _ x=>x.elim)
 refine aA (bC (aof (Q:=fun st' s'=>s'={ s with heap:=((s.heap.update a (cB fun _=>(#[]:Array aG))).push (cQ "tuple" vs.toArray 0)).push (cQ "list" #[] 0) }/\arrOf st'=(cZ (aR vs.length)).map (kas_item (vs.toArray.zip vs.toArray))/\failedOf st'=none)
  (G:=fun p s'=>s'={ s with heap:=((s.heap.update a (cB fun _=>(#[]:Array aG))).push (cQ "tuple" vs.toArray 0)).push (cQ "list" #[] 0) }/\p=cZ (aR vs.length))
  h2 (fun p st' s' a1 a2 a3 a4=>yJ a4.1 (yJ (a4.2▸a2) a3)) (asn (G:=fun p s'=>s'={ s with heap:=((s.heap.update a (cB fun _=>(#[]:Array aG))).push (cQ "tuple" vs.toArray 0)).push (cQ "list" #[] 0) }/\p=cZ (aR vs.length)) k2 h2 hs (yJ rfl rfl))) ?_ fun _ _ e=>e)
 intro r s' hr;obtain⟨u,st'⟩:=r;obtain⟨e,har,hf⟩:=hr;subst e;dsimp only at har hf ⊢
 have hout:(arrOf st').map (·.2)=vs.toArray:=by
  rw[kat_snds rfl har];rw[show(cZ (aR vs.length)).toList=aR vs.length from rfl,aji]
 rw[hout];refine aA (seqEpoch_at ho6 rfl ?_);refine aA (listUpdate_at ho6 rfl ?_ (cI _) (oF (by rw[aL,cF];omega)))
 rw[hf];simp only[bne_self_eq_false,cC,if_false];exact aJ h
theorem aox{l:aY}{vs:List aG}{Q:aG->aH->Prop}{c:Nat->Nat->Bool}(hl:s.heap.IsList l vs.toArray)(h2:2<=vs.length)(hz:vs.length<=1000)(hs:∀k,1<=k->k < vs.length->c k (k - 1)=false)
  (hk:∀h':fD,(∀b o,s.heap.get? b=some o->h'.get? b=some o)->(∀Q:nF->aH->Prop,Q κ { s with heap:=h' }->bL (bY prog w) A.in1.in1 (keyKind' vs.toArray) Q (fun _ _=>False) { s with heap:=h' })/\Asks vs.length c (pQ prog w A.in1.in1 κ vs) { s with heap:=h' })
  (h:Q (.ref (s.heap.objs.size+1)) { s with heap:=sortedAll s.heap vs vs.toArray }) :
  bL (bY prog w) A (call (.builtin "sorted") [.ref l]) Q E s:=by
 refine kZ kind_sorted plain_sorted entry_sorted (args_sorted1 _) ?_;unfold jL.«sorted»
 refine aA (m:=checkCount "sorted" 1 1 _) (aJ ?_);refine aA (collect_list hl ?_ (by rw[cF];omega))
 refine aA (wpAny_newList ?_ (by rw[cF];omega))
 have hsz:((s.heap.push (cQ "list" #[] 0)).update s.heap.objs.size (cB (· ++ vs.toArray))).objs.size=s.heap.objs.size+1:=by
  rw[sI,size_push']
 have hoL:(((s.heap.push (cQ "list" #[] 0)).update s.heap.objs.size (cB (· ++ vs.toArray))).push (cQ "list" vs.toArray 0)).get? (s.heap.objs.size+1)=some (cQ "list" vs.toArray 0):=by
  rw[<-hsz];exact aU _ rfl
 have keep:∀b o,s.heap.get? b=some o->(((s.heap.push (cQ "list" #[] 0)).update s.heap.objs.size (cB (· ++ vs.toArray))).push (cQ "list" vs.toArray 0)).get? b=some o:=fun b o q=>by
  have hlt:b < s.heap.objs.size:=aQ q;rw[jZ _ _ _ (by rw[hsz];exact bG (iR hlt)),jB _ _ _ _ (bG hlt),jZ _ _ _ (bG hlt)]
  exact q
 show bL _ _ _ _ _ { s with heap:=((s.heap.push (cQ "list" #[] 0)).update s.heap.objs.size (cB (· ++ vs.toArray))).push (cQ "list" vs.toArray 0) }
 rw[hsz];refine aA (cU (fW slot_list_sort ⟨_,hoL,rfl⟩ entry_list_sort (asm (κ:=κ) hoL h2 hz hs (fun h' k'=>hk h' fun b o e=>k' b o (fun q=>absurd (aQ e) (by rw[q];exact lC.mpr (gM _))) (keep b o e)) ⟨_,rfl,?_⟩) (args_list_sort _)))
 exact aJ ⟨_,rfl,h⟩
end
end Kst
namespace Dn
open L2 Mn Kst PySem.W
section
variable{K:Fg9}{X:Cx}
def am9:D->Option Rv
 | .lst l=>(wg l).bind fun rows=>if (decide (2<=rows.length)&&decide (rows.length<=1000)&&rows.all (fun r => !r.isEmpty)&&decide (LxS rows))=true then some (.fr l) else none
 | _=>none
theorem au7:CallD K X (.builtin "sorted") (g1 am9):=vz fun hk jv s σ0 H x u Q tg F ρ σ d r I ru G bd eg q=>by
 subst hk;cases d with
 | lst l =>
  have eg:(wg l).bind (fun rows=>if (decide (2<=rows.length)&&decide (rows.length<=1000)&&rows.all (fun r => !r.isEmpty)&&decide (LxS rows))=true then some (Rv.fr l) else none)=some r:=eg
  cases e:wg l with
  | none=>rw[e] at eg;cases eg
  | some rows =>
   rw[e,eF] at eg;split at eg
   ·rename_i hc;simp only[aV,decide_eq_true_eq,bA] at hc;obtain⟨⟨⟨h2,hz⟩,hne⟩,so⟩:=hc;have hne:∀r∈rows,r≠[]:=fun r hr q=>by have:=hne r hr;rw[q] at this;cases this
    cases eg;obtain⟨a,vs,rfl,ea,hl⟩:=bd.lst G.sub;have hl0:=hl;rw[adm e] at hl;cases ru;obtain⟨its,rv,pl,_⟩:=I.list (SqL.of ea);have hlen:vs.length=its.length:=rv.length;have T:=zq I G.sub hl rv;have tl:=T.len;refine aox (κ:=tuples' (jG "int" != jG "tuple")) (c:=fun i j=>lexB (rows.getD i []) (rows.getD j [])) pl.isList (by omega) (by omega) (fun k k1 k2 =>?_) (fun h' k'=>⟨fun Q q =>?_,fun i j hi hj C hC =>?_⟩) ?_
    ·refine ac2 _ _ ?_;have:=eG.mp so (k - 1) k (by omega) (by omega) (by omega)
     rw[aP,aC (show k - 1 < rows.length by omega),aP,aC (show k < rows.length by omega)]
     exact this
    ·obtain⟨fs,kt,fl,fz⟩:=(T.mono k').kat hne;refine kat_kind kt (by omega) (fun v hv =>?_) (by decide) q
     obtain⟨i,t,rfl⟩:=fz v hv;exact uN rfl
    ·obtain⟨a1,o1,xs1,n1,f1,g1,d1,i1⟩:=(T.mono k').at i (by omega)
     obtain⟨a2,o2,xs2,n2,f2,g2,d2,i2⟩:=(T.mono k').at j (by omega)
     unfold pQ;rw[f1,f2];refine kat_lt g1 d1 g2 d2 ?_;have l1:xs1.toArray.size=(rows.getD i []).length:=i1.length;have l2:xs2.toArray.size=(rows.getD j []).length:=i2.length;rw[l1,l2];exact am0 0 i1 i2 hC
    ·obtain⟨ep,eo⟩:=kW s.heap its its.toArray;have hn:H (s.heap.objs.size+1)=none:=I.hok.fresh (gM _);refine⟨.ref (s.heap.objs.size+1),upd H (s.heap.objs.size+1) (.lst vs),?_,rfl,Res.lst G q hl0 hn⟩;refine I.laid (t':=s.toks) (fun b u e=>kE e) (gM _) ?_
     refine⟨?_,its,ep,rv,eo⟩;exact jR (abi (by omega))
   ·cases eg
 | _=>cases eg
def afe(d:D):Option Rv:=match am9 d with
 | some r=>some r
 | none=>ad2 d
theorem aov:CallD K X (.builtin "sorted") (g1 afe):=vz fun hk jv s σ0 H x u Q tg F ρ σ d r I ru G bd eg q=>by
 unfold afe at eg;cases e:am9 d with
 | some r' =>
  rw[e] at eg;cases eg;exact au7.go hk jv s σ0 H [x] [u] Q I (.cons ru .nil) ⟨tg,F,ρ,σ,[d],_,G,.cons bd .nil,e,q⟩
 | none =>
  rw[e] at eg;exact aow.go hk jv s σ0 H [x] [u] Q I (.cons ru .nil) ⟨tg,F,ρ,σ,[d],_,G,.cons bd .nil,eg,q⟩
end
end Dn
namespace Kst
open PySem PySem.W PyProof.Rows
structure Wk (c:Nat->Nat->Bool):Prop where
 as:∀i j,c i j=true->c j i=false
 nt:∀i j k,c i j=false->c j k=false->c i k=false
def Sw(c:Nat->Nat->Bool)(p:Array Nat)(m:Nat):Prop:=∀i j,i < j->j < m->c (p.getD j 0) (p.getD i 0)=false
def Dw(c:Nat->Nat->Bool)(p:Array Nat)(m:Nat):Prop:=∀i j,i < j->j < m->c (p.getD i 0) (p.getD j 0)=false
def Eb(c:Nat->Nat->Bool)(p:Array Nat)(a b:Nat):Prop:=∀i j,a<=i->i < b->a<=j->j < b->c (p.getD i 0) (p.getD j 0)=false
section
variable{n:Nat}{c:Nat->Nat->Bool}{cmp:Nat->Nat->(Bool->aH->Prop)->aH->Prop}{s:aH}{p:Array Nat}
theorem Wk.rf(O:Wk c)(i:Nat):c i i=false:=by
 cases e:c i i with
 | false=>rfl
 | true=>rw[O.as i i e] at e;cases e
theorem azu(O:Wk c){m:Nat}(h:∀k,1<=k->k < m->c (p.getD k 0) (p.getD (k - 1) 0)=false):Sw c p m:=by
 intro i j hij hj
 induction j with
 | zero=>omega
 | succ j ih =>
  have a:=h (j+1) (by omega) hj
  rw[qW] at a
  by_cases e:i=j
  ·subst e;exact a
  ·exact O.nt _ _ _ a (ih (by omega) (by omega))
theorem Dw.snoc(O:Wk c){m:Nat}(h:Dw c p m)(h1:1<=m)(e:c (p.getD (m - 1) 0) (p.getD m 0)=false):Dw c p (m+1):=fun i j hij hj=>by
 by_cases z:j=m
 ·subst z
  by_cases y:i=j - 1
  ·rw[y];exact e
  ·exact O.nt _ _ _ (h i (j - 1) (by omega) (by omega)) e
 ·exact h i j hij (by omega)
theorem revg(hp:Pm n p){a b:Nat}(hb:b<=n){k:Nat}(hk:k < n):(rC p a b).getD k 0=p.getD (if a<=k/\k < b then a+b - 1 - k else k) 0:=by
 have e:=getElem?_mirror_all (xs:=p) (i:=a) (j:=b) (by rw[hp.size];exact hb) k
 have e2:=(aeu hp a b).get (k:=k) hk;unfold rC at e2 ⊢
 rw[e2] at e
 by_cases z:a<=k/\k < b
 ·rw[if_pos z,hp.get (by omega)] at e
  rw[if_pos z];exact bO e
 ·rw[if_neg z,hp.get hk] at e;rw[if_neg z];exact bO e
theorem Dw.rev(hp:Pm n p){a b m:Nat}(hb:b<=m)(hm:m<=n)(h:Dw c p m)(e:Eb c p a b):Dw c (rC p a b) m:=fun i j hij hj=>by
 rw[revg hp (by omega) (by omega),revg hp (by omega) (by omega)]
 by_cases zi:a<=i/\i < b
 ·by_cases zj:a<=j/\j < b
  ·rw[if_pos zi,if_pos zj];exact e _ _ (by omega) (by omega) (by omega) (by omega)
  ·rw[if_pos zi,if_neg zj];exact h _ _ (by omega) (by omega)
 ·by_cases zj:a<=j/\j < b
  ·rw[if_neg zi,if_pos zj];exact h _ _ (by omega) (by omega)
  ·rw[if_neg zi,if_neg zj];exact h i j hij hj
theorem afi(A:Asks n c cmp s)(O:Wk c){Q:Array Nat×Nat×Nat->aH->Prop}:∀f p a q,Pm n p->q+1<=a->a+f<=n->Dw c p a->Eb c p (a - (q+1)) a ->
  (∀p' m q',Pm n p'->q'+1<=m->m<=n->Dw c p' m->Eb c p' (m - (q'+1)) m->Q (p',m,q') s)->(kas_desc f p a q).kasWp cmp Q s
 | 0,p,a,q,hp,h1,h2,hd,he,h=>h p a q hp h1 (by omega) hd he
 | f+1,p,a,q,hp,h1,h2,hd,he,h=>A _ _ (hp.lt (by omega)) (hp.lt (by omega)) _ (by
   cases e:c (p.getD a 0) (p.getD (a - 1) 0) with
   | true =>
    dsimp only;rw[if_pos rfl];have hd2:=hd.snoc O (by omega) (O.as _ _ e)
    by_cases z:q > 0
    ·rw[if_pos z];have hr:=aeu hp (a - (q+1)) a;refine afi A O f _ (a+1) 0 hr (by omega) (by omega) (hd2.rev hp (gM a) (by omega) he) (fun i j i1 i2 j1 j2 =>?_) h
     have:i=a:=by omega
     have:j=a:=by omega
     subst i j;exact O.rf _
    ·rw[if_neg z];refine afi A O f p (a+1) 0 hp (by omega) (by omega) hd2 (fun i j i1 i2 j1 j2 =>?_) h
     have:i=a:=by omega
     have:j=a:=by omega
     subst i j;exact O.rf _
   | false =>
    dsimp only;rw[if_neg (by simp)]
    refine A _ _ (hp.lt (by omega)) (hp.lt (by omega)) _ ?_
    cases e2:c (p.getD (a - 1) 0) (p.getD a 0) with
    | true =>
     dsimp only;rw[if_pos rfl];exact h p a q hp h1 (by omega) hd he
    | false =>
     dsimp only;rw[if_neg (by simp)]
     refine afi A O f p (a+1) (q+1) hp (by omega) (by omega) (hd.snoc O (by omega) e2) (fun i j i1 i2 j1 j2 =>?_) h
     have w1:∀k,a - (q+1)<=k->k < a->c (p.getD a 0) (p.getD k 0)=false:=fun k k1 k2=>O.nt _ _ _ e (he (a - 1) k (by omega) (by omega) (by omega) k2)
     have w2:∀k,a - (q+1)<=k->k < a->c (p.getD k 0) (p.getD a 0)=false:=fun k k1 k2=>O.nt _ _ _ (he k (a - 1) (by omega) k2 (by omega) (by omega)) e2
     by_cases zi:i=a
     ·by_cases zj:j=a
      ·rw[zi,zj];exact O.rf _
      ·rw[zi];exact w1 j (by omega) (by omega)
     ·by_cases zj:j=a
      ·rw[zj];exact w2 i (by omega) (by omega)
      ·exact he i j (by omega) (by omega) (by omega) (by omega))
theorem ami(A:Asks n c cmp s)(O:Wk c)(hp:Pm n p){m:Nat}(h1:1<=m)(hm:m<=n)(hd:Dw c p m){Q:Nat×Array Nat->aH->Prop}
  (h:∀m' p',1<=m'->m'<=n->Pm n p'->Sw c p' m'->Q (m',p') s):(kas_tail3 m n p).kasWp cmp Q s:=by
 unfold kas_tail3;rw[fQ];have hr:=aeu hp 0 m;refine ahl A hr _ _ h1 (by omega) fun m' x1 x2 x3 _ =>?_
 refine h m' _ (by omega) (by omega) hr (azu O fun k k1 k2 =>?_)
 by_cases q:k < m
 ·rw[aef hp hm q,aef hp hm (k:=k - 1) (by omega)]
  exact hd _ _ (by omega) (by omega)
 ·exact x3 k (by omega) k2
theorem amv(A:Asks n c cmp s)(O:Wk c)(hp:Pm n p){m:Nat}(h1:1<=m)(hm:m < n)(hd:Dw c p (m+1)){Q:Nat×Array Nat->aH->Prop}
  (h:∀m' p',1<=m'->m'<=n->Pm n p'->Sw c p' m'->Q (m',p') s):(kas_descPart m n p).kasWp cmp Q s:=by
 unfold kas_descPart;rw[fQ];refine afi A O _ p (m+1) 0 hp (by omega) (by omega) hd (fun i j i1 i2 j1 j2 =>?_) fun p' m' q' hp' y1 y2 y3 y4 =>?_
 ·have:i=m:=by omega
  have:j=m:=by omega
  subst i j;exact O.rf _
 ·dsimp only
  by_cases z:q' > 0
  ·rw[if_pos z];exact ami A O (aeu hp' _ _) (by omega) y2 (y3.rev hp' (aO _) y2 y4) h
  ·rw[if_neg z];exact ami A O hp' (by omega) y2 y3 h
theorem art(A:Asks n c cmp s)(O:Wk c)(hp:Pm n p)(h2:2<=n){Q:Nat×Array Nat->aH->Prop}
  (h:∀m' p',1<=m'->m'<=n->Pm n p'->Sw c p' m'->Q (m',p') s):(nT n p).kasWp cmp Q s:=by
 unfold nT;rw[fQ];refine ahl A hp _ _ (aO _) (by omega) fun m x1 x2 x3 x4 =>?_
 have hs:Sw c p m:=azu O fun k k1 k2=>x3 k k1 k2
 by_cases q:m=n
 ·rw[if_pos (by simp[q])]
  exact h m p x1 (by omega) hp hs
 ·rw[if_neg (by simp[q])]
  have y:=O.as _ _ (x4 (by omega))
  by_cases q1:m > 1
  ·rw[if_pos q1];refine A _ _ (hp.lt (by omega)) (hp.lt (by omega)) _ ?_
   cases e:c (p.getD 0 0) (p.getD (m - 1) 0) with
   | true =>
    dsimp only;rw[if_pos rfl];exact h m p x1 (by omega) hp hs
   | false =>
    dsimp only;rw[if_neg (by simp)]
    have lo:∀i,i < m->c (p.getD 0 0) (p.getD i 0)=false:=fun i hi=>by
     by_cases z:i=m - 1
     ·rw[z];exact e
     ·exact O.nt _ _ _ e (hs i (m - 1) (by omega) (by omega))
    have al:∀i j,i < m->j < m->c (p.getD i 0) (p.getD j 0)=false:=fun i j hi hj=>by
     have l1:c (p.getD i 0) (p.getD 0 0)=false:=by
      by_cases z:i=0
      ·rw[z];exact O.rf _
      ·exact hs 0 i (by omega) hi
     exact O.nt _ _ _ l1 (lo j hj)
    refine amv A O (aeu hp 0 m) x1 (by omega) (fun i j hij hj =>?_) h
    rw[aef hp (by omega) (show i < m by omega)]
    by_cases z:j=m
    ·rw[ate hp (by omega) (by omega) (by omega),z]
     exact O.nt _ _ _ (al _ (m - 1) (by omega) (by omega)) y
    ·rw[aef hp (by omega) (show j < m by omega)]
     exact al _ _ (by omega) (by omega)
  ·rw[if_neg q1];have e1:m=1:=by omega
   subst e1;exact amv A O hp (aO _) (by omega) (fun i j hij hj=>by
    have:i=0:=by omega
    have:j=1:=by omega
    subst i j;exact y) h
theorem afx(A:Asks n c cmp s)(O:Wk c)(hp:Pm n p){k:Nat}(hk:k < n)(hs:Sw c p k){Q:Nat->aH->Prop}:∀f l r,l<=r->r<=k->r - l<=f->(∀i,i < l->c (p.getD k 0) (p.getD i 0)=false)->(∀i,r<=i->i < k->c (p.getD i 0) (p.getD k 0)=false) ->
  (∀l',l'<=k->(∀i,i < l'->c (p.getD k 0) (p.getD i 0)=false)->(∀i,l'<=i->i < k->c (p.getD i 0) (p.getD k 0)=false)->Q l' s)->(kas_place p k f l r).kasWp cmp Q s
 | 0,l,r,h1,h2,h3,a,b,h=>h l (by omega) a fun i i1 i2=>b i (by omega) i2
 | f+1,l,r,h1,h2,h3,a,b,h=>by
  show uG cmp (if l≥r then .ret l else _) Q s
  by_cases q:l≥r
  ·rw[if_pos q];exact h l (by omega) a fun i i1 i2=>b i (by omega) i2
  ·rw[if_neg q];refine A _ _ (hp.lt hk) (hp.lt (by omega)) _ ?_
   cases e:c (p.getD k 0) (p.getD ((l+r) / 2) 0) with
   | true =>
    dsimp only;rw[if_pos rfl];refine afx A O hp hk hs f l ((l+r) / 2) (by omega) (by omega) (by omega) a (fun i i1 i2 =>?_) h
    have e':=O.as _ _ e
    by_cases z:i=(l+r) / 2
    ·rw[z];exact e'
    ·exact O.nt _ _ _ (hs _ i (by omega) i2) e'
   | false =>
    dsimp only;rw[if_neg (by simp)]
    refine afx A O hp hk hs f ((l+r) / 2+1) r (by omega) h2 (by omega) (fun i i1 =>?_) b h
    by_cases z:i=(l+r) / 2
    ·rw[z];exact e
    ·exact O.nt _ _ _ e (hs i ((l+r) / 2) (by omega) (by omega))
theorem ase(A:Asks n c cmp s)(O:Wk c){Q:Array Nat->aH->Prop}(h:∀p',Pm n p'->Sw c p' n->Q p' s):∀f p k,k+f=n->Pm n p->Sw c p k->(kas_bin f p k).kasWp cmp Q s
 | 0,p,k,e,hp,hs=>h p hp (by rw[<-e];exact hs)
 | f+1,p,k,e,hp,hs=>by
  show uG cmp (KasT.bind _ _) Q s;rw[fQ];refine afx A O hp (by omega) hs k 0 k (by omega) (aO _) (by omega) (fun i hi=>by omega) (fun i i1 i2=>by omega) fun l hl a b =>?_
  refine ase A O h f _ (k+1) (by omega) ⟨(kO.mp (bubble_perm p k _)).trans hp.pm⟩ fun i j hij hj =>?_
  rw[aix hp (by omega) hl (by omega),aix hp (by omega) hl (by omega)]
  by_cases i1:i=l
  ·rw[if_pos i1,if_neg (by omega),if_pos (by omega)]
   exact b (j - 1) (by omega) (by omega)
  ·rw[if_neg i1]
   by_cases j1:j=l
   ·rw[if_pos j1,if_neg (by omega)]
    exact a i (by omega)
   ·rw[if_neg j1]
    by_cases i2:l < i
    ·rw[if_pos (by omega),if_pos (by omega)]
     exact hs _ _ (by omega) (by omega)
    ·rw[if_neg (show ¬(l < i/\i<=k) by omega)]
     by_cases j2:l < j
     ·rw[if_pos (by omega)]
      by_cases z:i=j - 1
      ·omega
      ·exact hs _ _ (by omega) (by omega)
     ·rw[if_neg (by omega)]
      exact hs _ _ hij (by omega)
theorem as9(A:Asks n c cmp s)(O:Wk c)(h2:2<=n){Q:Array Nat->aH->Prop}(h:∀p',Pm n p'->Sw c p' n->Q p' s):(kas_sort n).kasWp cmp Q s:=by
 unfold kas_sort;rw[fQ];refine art A O ⟨by simp⟩ h2 fun m p m1 m2 hp hs =>?_
 dsimp only
 by_cases q:m < n
 ·rw[if_pos q];rw[show max m 1=m by omega]
  exact ase A O h _ _ _ (by omega) hp hs
 ·rw[if_neg q];exact h p hp (by rw[show n=m by omega];exact hs)
end
section
variable{prog:bV}{w:dO}{A:dB}{E:aG->aH->Prop}{s:aH}{κ:nF}
theorem an0{a:aY}{vs:List aG}{n:Nat}{P:xW->aH->Prop}{c:Nat->Nat->Bool}(ho:s.heap.get? a=some (cQ "list" vs.toArray n))(h2:2<=vs.length)(h64:vs.length < 64)(O:Wk c)
  (hk:∀h':fD,(∀b o,b≠a->s.heap.get? b=some o->h'.get? b=some o)->(∀Q:nF->aH->Prop,Q κ { s with heap:=h' }->bL (bY prog w) A (keyKind' vs.toArray) Q (fun _ _=>False) { s with heap:=h' })/\Asks vs.length c (pQ prog w A κ vs) { s with heap:=h' })
  (h:∀p,Pm vs.length p->Sw c p vs.length->P (.done (.ret .none)) { s with heap:=sortedHeap s.heap a vs (adq vs p) }) :
  bL (bY prog w) A (jL.«list.sort» ⟨[.ref a],[]⟩) P E s:=by
 have ha:a < s.heap.objs.size:=aQ ho;obtain⟨e1,ho1⟩:∃e1,(s.heap.update a (cB fun _=>(#[]:Array aG))).get? a=some (cQ "list" #[] e1):=⟨_,get?_update_seq ho fun _ => #[]⟩
 have ho6:(((s.heap.update a (cB fun _=>(#[]:Array aG))).push (cQ "tuple" vs.toArray 0)).push (cQ "list" #[] 0)).get? a=some (cQ "list" #[] e1):=aB _ (aB _ ho1)
 have kp:∀b o,b≠a->s.heap.get? b=some o->(((s.heap.update a (cB fun _=>(#[]:Array aG))).push (cQ "tuple" vs.toArray 0)).push (cQ "list" #[] 0)).get? b=some o:=fun b o hb e =>
  aB _ (aB _ (by rw[jB _ _ _ _ hb];exact e))
 rw[list_sort_plain];refine aA (listItems_at ho rfl ?_);refine aA (listUpdate_at ho rfl ?_ (by rw[aL,cF];omega) (cI _))
 refine aA (seqEpoch_at ho1 rfl ?_);refine aA (wpAny_newTuple ?_ (by show vs.length<=_;rw[cF];omega))
 refine aA (wpAny_newList ?_ (cI _));refine cU ?_;show bL (bY prog w) A _ P E { s with heap:=((s.heap.update a (cB fun _=>(#[]:Array aG))).push (cQ "tuple" vs.toArray 0)).push (cQ "list" #[] 0) }
 dsimp only;have hn2:¬vs.toArray.size < 2:=by rw[aL];omega
 rw[if_neg hn2,if_neg hn2];obtain⟨k1,k2⟩:=hk _ kp;refine aA (bC (k1 _ ?_) (fun κ' s' q=>q) fun _ _ x=>x.elim)
 refine aA (bC (kat_run (Q:=fun st' s'=>s'={ s with heap:=((s.heap.update a (cB fun _=>(#[]:Array aG))).push (cQ "tuple" vs.toArray 0)).push (cQ "list" #[] 0) }/\∃p:Array Nat,Pm vs.length p/\Sw c p vs.length/\arrOf st'=p.map (kas_item (vs.toArray.zip vs.toArray))/\failedOf st'=none)
  (G:=fun p s'=>s'={ s with heap:=((s.heap.update a (cB fun _=>(#[]:Array aG))).push (cQ "tuple" vs.toArray 0)).push (cQ "list" #[] 0) }/\Pm vs.length p/\Sw c p vs.length)
  rfl (by omega) h64 (fun p st' s' a1 a2 a3 a4=>⟨a4.1,p,a4.2.1,a4.2.2,a2,a3⟩) (as9 k2 O (by omega) fun p hp hs=>⟨rfl,hp,hs⟩)) ?_ fun _ _ e=>e)
 intro r s' hr;obtain⟨u,st'⟩:=r;obtain⟨e,p,hp,hs,har,hf⟩:=hr;subst e;dsimp only at har hf ⊢
 have hout:(arrOf st').map (·.2)=adq vs p:=kat_snds rfl har;rw[hout];have hz:(adq vs p).size<=cL:=by
  unfold adq;rw[aL,aD,bF,hp.size,cF];omega
 refine aA (seqEpoch_at ho6 rfl ?_);refine aA (listUpdate_at ho6 rfl ?_ (cI _) (oF hz));rw[hf];simp only[bne_self_eq_false,cC,if_false];exact aJ (h p hp hs)
theorem akz{l:aY}{vs:List aG}{Q:aG->aH->Prop}{c:Nat->Nat->Bool}(hl:s.heap.IsList l vs.toArray)(h2:2<=vs.length)(h64:vs.length < 64)(O:Wk c)
  (hk:∀h':fD,(∀b o,s.heap.get? b=some o->h'.get? b=some o)->(∀Q:nF->aH->Prop,Q κ { s with heap:=h' }->bL (bY prog w) A.in1.in1 (keyKind' vs.toArray) Q (fun _ _=>False) { s with heap:=h' })/\Asks vs.length c (pQ prog w A.in1.in1 κ vs) { s with heap:=h' })
  (h:∀p,Pm vs.length p->Sw c p vs.length->Q (.ref (s.heap.objs.size+1)) { s with heap:=sortedAll s.heap vs (adq vs p) }) :
  bL (bY prog w) A (call (.builtin "sorted") [.ref l]) Q E s:=by
 refine kZ kind_sorted plain_sorted entry_sorted (args_sorted1 _) ?_;unfold jL.«sorted»
 refine aA (m:=checkCount "sorted" 1 1 _) (aJ ?_);refine aA (collect_list hl ?_ (by rw[cF];omega))
 refine aA (wpAny_newList ?_ (by rw[cF];omega))
 have hsz:((s.heap.push (cQ "list" #[] 0)).update s.heap.objs.size (cB (· ++ vs.toArray))).objs.size=s.heap.objs.size+1:=by
  rw[sI,size_push']
 have hoL:(((s.heap.push (cQ "list" #[] 0)).update s.heap.objs.size (cB (· ++ vs.toArray))).push (cQ "list" vs.toArray 0)).get? (s.heap.objs.size+1)=some (cQ "list" vs.toArray 0):=by
  rw[<-hsz];exact aU _ rfl
 have keep:∀b o,s.heap.get? b=some o->(((s.heap.push (cQ "list" #[] 0)).update s.heap.objs.size (cB (· ++ vs.toArray))).push (cQ "list" vs.toArray 0)).get? b=some o:=fun b o q=>by
  have hlt:b < s.heap.objs.size:=aQ q;rw[jZ _ _ _ (by rw[hsz];exact bG (iR hlt)),jB _ _ _ _ (bG hlt),jZ _ _ _ (bG hlt)]
  exact q
 show bL _ _ _ _ _ { s with heap:=((s.heap.push (cQ "list" #[] 0)).update s.heap.objs.size (cB (· ++ vs.toArray))).push (cQ "list" vs.toArray 0) }
 rw[hsz];refine aA (cU (fW slot_list_sort ⟨_,hoL,rfl⟩ entry_list_sort (an0 (κ:=κ) hoL h2 h64 O (fun h' k'=>hk h' fun b o e=>k' b o (fun q=>absurd (aQ e) (by rw[q];exact lC.mpr (gM _))) (keep b o e)) fun p hp hs=>⟨_,rfl,?_⟩) (args_list_sort _)))
 exact aJ ⟨_,rfl,h p hp hs⟩
end
theorem aqp{x y z:List Int}(h1:lexB x y=false)(h2:lexB y z=false):lexB x z=false:=by
 cases e:lexB x z with
 | false=>rfl
 | true =>
  by_cases q:x=y
  ·rw[q,h2] at e;cases e
  ·have:=af6 x y q h1;rw[aie _ _ _ this e] at h2;cases h2
end Kst
namespace Dn
open L2 Mn Kst PySem.W
abbrev LwS(l:LL9):Prop:=l.Pairwise fun a b=>lexB b a=false
theorem aj4(x:List Int):∀{l},LwS l->LwS (insL x l)
 | [],_=>by simp[insL,LwS]
 | y::r,h=>by
  unfold insL;have h:=bW.mp h;split
  ·rename_i hxy;have hyx:=ac2 _ _ hxy;refine bW.mpr ⟨fun z hz =>?_,bW.mpr h⟩
   rcases aZ.mp hz with rfl | hz
   ·exact hyx
   ·exact aqp (h.1 z hz) hyx
  ·rename_i hxy;refine bW.mpr ⟨fun z hz =>?_,aj4 x h.2⟩
   rcases aZ.mp ((ad1 x r).mem_iff.mp hz) with rfl | hz
   ·simpa using hxy
   ·exact h.1 z hz
theorem ad8:∀l:LL9,LwS (yq l)
 | []=>.nil
 | x::r=>aj4 x (ad8 r)
theorem aln:∀{l k:LL9},l.Perm k->LwS l->LwS k->l=k
 | [],k,h,_,_=>h.nil_eq
 | x::r,[],h,_,_=>absurd h.length_eq (by simp)
 | x::r,y::t,h,hl,hk=>by
  have hl:=bW.mp hl;have hk:=bW.mp hk;have e:x=y:=by
   by_cases q:x=y
   ·exact q
   ·have x1:x∈t:=by
     rcases aZ.mp (h.mem_iff.mp (aN ..)) with z | z
     ·exact absurd z q
     ·exact z
    have y1:y∈r:=by
     rcases aZ.mp (h.mem_iff.mpr (aN ..)) with z | z
     ·exact absurd z.symm q
     ·exact z
    have a:=hk.1 x x1;have b:=hl.1 y y1;have:=af6 x y q a;rw[b] at this;cases this
  subst e;rw[aln (tU x |>.mp h) hl.2 hk.2]
section
variable{K:Fg9}{X:Cx}
theorem awx{rows:LL9}{p:Array Nat}(hp:Pm rows.length p)(hs:Sw (fun i j=>lexB (rows.getD i []) (rows.getD j [])) p rows.length):LwS (p.toList.map fun i=>rows.getD i []):=by
 show uT _ _;rw[lV,eG];intro i j hi hj hij;have sz:=hp.size;have hi':i < rows.length:=by rw[bF,sz] at hi;exact hi
 have hj':j < rows.length:=by rw[bF,sz] at hj;exact hj
 have:=hs i j hij hj';have e1:=hp.get hi';have e2:=hp.get hj';rw[<-cW,aC hi] at e1;rw[<-cW,aC hj] at e2;rw[bO e1,bO e2];exact this
def aj8:D->Option Rv
 | .lst l=>(wg l).bind fun rows=>if (decide (2<=rows.length)&&decide (rows.length < 64)&&rows.all (fun r => !r.isEmpty))=true then some (.fr ((yq rows).map rowT)) else none
 | _=>none
theorem au5:CallD K X (.builtin "sorted") (g1 aj8):=vz fun hk jv s σ0 H x u Q tg F ρ σ d r I ru G bd eg q=>by
 subst hk;cases d with
 | lst l =>
  have eg:(wg l).bind (fun rows=>if (decide (2<=rows.length)&&decide (rows.length < 64)&&rows.all (fun r => !r.isEmpty))=true then some (Rv.fr ((yq rows).map rowT)) else none)=some r:=eg
  cases e:wg l with
  | none=>rw[e] at eg;cases eg
  | some rows =>
   rw[e,eF] at eg;split at eg
   ·rename_i hc;simp only[aV,decide_eq_true_eq,bA] at hc;obtain⟨⟨h2,h64⟩,hne⟩:=hc;have hne:∀r∈rows,r≠[]:=fun r hr q=>by have:=hne r hr;rw[q] at this;cases this
    cases eg;obtain⟨a,vs,rfl,ea,hl⟩:=bd.lst G.sub;rw[adm e] at hl;cases ru;obtain⟨its,rv,pl,_⟩:=I.list (SqL.of ea);have hlen:vs.length=its.length:=rv.length;have T:=zq I G.sub hl rv;have tl:=T.len;have O:Wk fun i j=>lexB (rows.getD i []) (rows.getD j []):=⟨fun i j=>ac2 _ _,fun i j k=>aqp⟩
    refine akz (κ:=tuples' (jG "int" != jG "tuple")) pl.isList (by omega) (by omega) O (fun h' k'=>⟨fun Q q =>?_,fun i j hi hj C hC =>?_⟩) fun p hp hs =>?_
    ·obtain⟨fs,kt,fl,fz⟩:=(T.mono k').kat hne;refine kat_kind kt (by omega) (fun v hv =>?_) (by decide) q
     obtain⟨i,t,rfl⟩:=fz v hv;exact uN rfl
    ·obtain⟨a1,o1,xs1,n1,f1,g1,d1,i1⟩:=(T.mono k').at i (by omega)
     obtain⟨a2,o2,xs2,n2,f2,g2,d2,i2⟩:=(T.mono k').at j (by omega)
     unfold pQ;rw[f1,f2];refine kat_lt g1 d1 g2 d2 ?_;have l1:xs1.toArray.size=(rows.getD i []).length:=i1.length;have l2:xs2.toArray.size=(rows.getD j []).length:=i2.length;rw[l1,l2];exact am0 0 i1 i2 hC
    ·have hp':Pm rows.length p:=tl▸hp;have hs':Sw (fun i j=>lexB (rows.getD i []) (rows.getD j [])) p rows.length:=tl▸hs
     have e':(p.toList.map fun i=>rows.getD i [])=yq rows:=aln ((ado [] hp').trans (xf rows).symm) (awx hp' hs') (ad8 rows)
     have hm:∀i∈p.toList,i < rows.length:=fun i hi=>by simpa using hp'.pm.mem_iff.mp hi
     obtain⟨ep,eo⟩:=kW s.heap its (adq its p);have hn:H (s.heap.objs.size+1)=none:=I.hok.fresh (gM _);have il:=aij hl hm;rw[e'] at il;refine⟨.ref (s.heap.objs.size+1),upd H (s.heap.objs.size+1) (.lst (p.toList.map fun i=>vs.getD i .non)),?_,rfl,Res.lst G q il hn⟩
     refine I.laid (t':=s.toks) (fun b u e=>kE e) (gM _) ?_
     refine⟨?_,(p.toList.map fun i=>its.getD i cX),ep,afn rv fun i hi=>by have:=hm i hi;omega,eo⟩
     rw[aD,bF,hp'.size];exact jR (abi (by omega))
   ·cases eg
 | _=>cases eg
def acb(d:D):Option Rv:=match aj8 d with
 | some r=>some r
 | none=>afe d
theorem aou:CallD K X (.builtin "sorted") (g1 acb):=vz fun hk jv s σ0 H x u Q tg F ρ σ d r I ru G bd eg q=>by
 unfold acb at eg;cases e:aj8 d with
 | some r' =>
  rw[e] at eg;cases eg;exact au5.go hk jv s σ0 H [x] [u] Q I (.cons ru .nil) ⟨tg,F,ρ,σ,[d],_,G,.cons bd .nil,e,q⟩
 | none =>
  rw[e] at eg;exact aov.go hk jv s σ0 H [x] [u] Q I (.cons ru .nil) ⟨tg,F,ρ,σ,[d],_,G,.cons bd .nil,eg,q⟩
theorem ail{rows:LL9}(hz:rows.length < 64)(hn:∀r∈rows,r≠[]):acb (.lst (rows.map rowT))=some (.fr ((yq rows).map rowT)):=by
 by_cases h2:2<=rows.length
 ·have e:aj8 (.lst (rows.map rowT))=some (.fr ((yq rows).map rowT)):=by
   show(wg (rows.map rowT)).bind _=_;rw[qd,eF,if_pos];simp only[aV,decide_eq_true_eq,bA];exact⟨⟨h2,hz⟩,fun r hr=>by cases q:r with | nil=>exact absurd q (hn r hr) | cons _ _=>rfl⟩
  unfold acb;rw[e]
 ·match rows,hz,hn,h2 with
  | [],_,_,_=>rfl
  | [r],hz,hn,_ =>
   have e1:aj8 (.lst ([r].map rowT))=none:=by
    show(wg ([r].map rowT)).bind _=_;rw[qd,eF,if_neg (by simp)]
   have e2:am9 (.lst ([r].map rowT))=none:=by
    show(wg ([r].map rowT)).bind _=_;rw[qd,eF,if_neg (by simp)]
   unfold acb afe;rw[e1,e2];exact aim hz hn (List.pairwise_singleton _ _)
  | _::_::_,_,_,h2=>exact absurd (by simp) h2
end
end Dn
namespace Stt
open PySem
def rl(m:Nat):Nat->Nat->Nat->List Nat
 | 0,_,_=>[]
 | f+1,i,p=>(aR (fL m i+1 - i)).map (i + ·)++rl m f (gP m i p).1 (gP m i p).2
def way(m:Nat)(h:Int):List Nat:=rl m (qL m) (mK h % (m+1)) (mK h)
theorem free_eq{m:Nat}{ow:Array (Option Nat)}:∀f i p,jH m ow f i p=(rl m f i p).find? fun j=>(ow.getD j (some 0)).isNone
 | 0,_,_=>rfl
 | f+1,i,p=>by
  unfold jH rl;rw[List.find?_append,List.find?_map];show(match (aR (fL m i+1 - i)).find? ((fun j=>(ow.getD j (some 0)).isNone)∘(i + ·)) with | some k=>some (i+k) | none=>_)=_
  cases e:(aR (fL m i+1 - i)).find? ((fun j=>(ow.getD j (some 0)).isNone)∘(i + ·)) with
  | some k=>rfl
  | none=>exact free_eq f _ _
def Foll(t:dX):qM->List Nat->Prop
 | _,[]=>True
 | p,j::l=>p.j=j/\Foll t (t.advance p) l
theorem anc{t:dX}{i p:Nat}{L:List Nat}(h:Foll t ⟨(gP t.mask i p).1,fL t.mask (gP t.mask i p).1 - (gP t.mask i p).1,(gP t.mask i p).1,(gP t.mask i p).2,none⟩ L) :
  ∀r k,Foll t ⟨i+k,r,i,p,none⟩ ((aR (r+1)).map (i+k + ·)++L)
 | 0,k=>⟨rfl,h⟩
 | r+1,k=>by
  rw[pO,bR,cA,xP];refine⟨rfl,?_⟩;have e:((i+k + ·)∘Nat.succ)=(i+(k+1) + ·):=by funext x;show i+k+(x+1)=_;omega
  rw[e];exact anc h r (k+1)
theorem apy{t:dX}:∀f i p,Foll t ⟨i,fL t.mask i - i,i,p,none⟩ (rl t.mask f i p)
 | 0,_,_=>trivial
 | f+1,i,p=>by
  have h:=anc (apy f (gP t.mask i p).1 (gP t.mask i p).2) (fL t.mask i - i) 0;have e:fL t.mask i+1 - i=fL t.mask i - i+1:=by unfold fL;split <;> omega
  unfold rl;rw[e];exact h
theorem avr(m:Nat):∀f i p,(rl m f i p).length<=10*f
 | 0,_,_=>aO _
 | f+1,i,p=>by
  have:=avr m f (gP m i p).1 (gP m i p).2;have e:fL m i+1 - i<=10:=by unfold fL;split <;> omega
  unfold rl;rw[aW,aD,iU];omega
theorem afw{t:dX}{f:Nat->Int}{h:Int}{j:Nat}{suf:List Nat}(hj:t.slot j=.empty):∀(pre:List Nat) (fuel:Nat) (p:qM),Foll t p (pre++j::suf)->(pre++j::suf).length<=fuel->p.dummy=none->(∀x∈pre,∃i,t.slot x=.live i/\f i≠h)->jU t f h fuel p=some (.empty j none)
 | pre,0,p,_,hl,_,_=>by simp at hl
 | [],fuel+1,p,fo,hl,hd,_=>by
  unfold jU;rw[fo.1,hj,hd]
 | x::pre,fuel+1,p,fo,hl,hd,hp=>by
  obtain⟨i,e,ne⟩:=hp x (aN ..);unfold jU;rw[fo.1,e];dsimp only;rw[if_neg (by simpa using ne)]
  exact afw hj pre fuel _ fo.2 (by simp at hl ⊢;omega) (by unfold SetTable.advance;split <;> exact hd) fun y hy=>hp y (aK _ hy)
theorem ag7{t:dX}{f:Nat->Int}{h:Int}{i j:Nat}{suf:List Nat}(hj:t.slot j=.live i)(hf:f i=h):∀(pre:List Nat) (fuel:Nat) (p:qM),Foll t p (pre++j::suf)->(pre++j::suf).length<=fuel->(∀x∈pre,∃i,t.slot x=.live i/\f i≠h)->∃nx,jU t f h fuel p=some (.candidate j i nx)
 | pre,0,p,_,hl,_=>by simp at hl
 | [],fuel+1,p,fo,hl,_=>by
  refine⟨t.advance p,?_⟩;unfold jU;rw[fo.1,hj];dsimp only;rw[if_pos (by simpa using hf)]
 | x::pre,fuel+1,p,fo,hl,hp=>by
  obtain⟨i',e,ne⟩:=hp x (aN ..);obtain⟨nx,q⟩:=ag7 hj hf pre fuel _ fo.2 (by simp at hl ⊢;omega) fun y hy=>hp y (aK _ hy)
  refine⟨nx,?_⟩;unfold jU;rw[fo.1,e];dsimp only;rw[if_neg (by simpa using ne)]
  exact q
def covB(m:Nat)(h:Int):Bool:=(way m h).foldl (fun a j=>a ||| (1 <<< j)) 0==2 ^ (m+1) - 1
theorem ane(j:Nat):∀(l:List Nat) (a:Nat),(l.foldl (fun a j=>a ||| (1 <<< j)) a).testBit j=(a.testBit j||decide (j∈l))
 | [],a=>by simp
 | x::l,a=>by
  rw[iB,ane j l,Nat.testBit_or]
  by_cases q:j=x
  ·subst q;simp[Nat.testBit_shiftLeft]
  ·have:(1 <<< x).testBit j=false:=by
    rw[Nat.shiftLeft_eq,Nat.one_mul,Nat.testBit_two_pow];simp;omega
   rw[this];simp[q]
theorem ayy{m:Nat}{h:Int}(c:covB m h=true){j:Nat}(hj:j<=m):j∈way m h:=by
 unfold covB at c;have e:=eq_of_beq c;have:=ane j (way m h) 0;rw[e,Nat.testBit_two_pow_sub_one] at this;simp at this;exact this.mp (by omega)
theorem asp:∀(n:Nat) (l:List Nat),(∀j,j < n->j∈l)->n<=l.length
 | 0,_,_=>cI _
 | n+1,l,h=>by
  have:=asp n (l.erase n) fun j hj=>(vO (by omega)).mpr (h j (by omega))
  rw[uF (h n (by omega))] at this
  have:=lN (h n (by omega))
  omega
theorem aj9{m:Nat}{h:Int}(c:covB m h=true){q:Nat->Bool}(hl:∃j,j<=m/\q j=true):∃pre j suf,way m h=pre++j::suf/\q j=true/\(∀x∈pre,q x=false)/\(way m h).find? q=some j:=by
 obtain⟨j,hj,e⟩:=hl;cases f:(way m h).find? q with
 | none=>exact absurd e (by simpa using List.find?_eq_none.mp f j (ayy c hj))
 | some j' =>
  obtain⟨a,pre,suf,b,d⟩:=List.find?_eq_some_iff_append.mp f;exact⟨pre,j',suf,b,a,fun x hx=>by simpa using d x hx,rfl⟩
theorem axw{m:Nat}{l:List Nat}(hl:l.length<=m):∃j,j<=m/\(!decide (j∈l))=true:=by
 apply fM;intro n;have:=asp (m+1) l fun j hj=>fM fun z=>n ⟨j,by omega,by simpa using z⟩
 omega
theorem rl_le{m:Nat}:∀f i p,i<=m->∀j∈rl m f i p,j<=m
 | 0,_,_,_,_,hj=>by cases hj
 | f+1,i,p,hi,j,hj=>by
  unfold rl at hj;rcases bZ.mp hj with z | z
  ·obtain⟨k,hk,rfl⟩:=bI.mp z;have:=dJ.mp hk;unfold fL at this;split at this <;> omega
  ·exact rl_le f _ _ (wN (oE _ (Nat.succ_pos _))) j z
theorem avl{m:Nat}{h:Int}{j:Nat}(hj:j∈way m h):j<=m:=rl_le _ _ _ (wN (oE _ (Nat.succ_pos _))) j hj
theorem amg(t:dX)(h:Int):Foll t (t.probeStart h) (way t.mask h):=apy _ _ _
theorem ao9(t:dX)(h:Int):(way t.mask h).length<=10*qL t.mask:=avr _ _ _ _
def akx(m:Nat)(tk:Nat->Prop)(h:Int)(j:Nat):Prop:=∃pre suf,way m h=pre++j::suf/\j∉pre/\∀x∈pre,tk x
theorem akx.mono{m:Nat}{tk tk':Nat->Prop}{h:Int}{j:Nat}(o:akx m tk h j)(k:∀x,tk x->tk' x):akx m tk' h j:=by
 obtain⟨pre,suf,a,b,c⟩:=o;exact⟨pre,suf,a,b,fun x hx=>k x (c x hx)⟩
structure Tab (t:dX) (es:Array (Int×Value)):Prop where
 dm:t.dummies = #[]
 sz:t.place.size=es.size
 rise:Rise t
 nd:(es.toList.map (·.1)).Nodup
 on:∀(i j:Nat) (e:Int×Value),t.place[i]? = some j->es[i]? = some e->akx t.mask (· ∈ t.place.toList) e.1 j
theorem atl{t:dX}(r:Rise t){i j:Nat}(e:t.place[i]? = some j):dC t.place j=i:=by
 obtain⟨c1,c2,c3⟩:=agu r j;rcases rO (dC t.place j) i with q | q | q
 ·have hi:=(bH.mp e).1;have hx:t.place[dC t.place j]? = some (t.place[dC t.place j]'(by omega)):=by simp
  have a:=c3 _ _ (aO _) hx;have b:=r.lt q hx e;omega
 ·exact q
 ·exact absurd (c2 i j q e) (jV _)
theorem ajc{t:dX}(r:Rise t){i j:Nat}(e:t.place[i]? = some j):t.slot j=.live i:=by
 unfold yO;dsimp only;rw[atl r e,if_pos (by rw[e];exact beq_self_eq_true _)]
theorem slot_mem{t:dX}(r:Rise t){j:Nat}(h:j∈t.place.toList):∃i,t.place[i]? = some j/\t.slot j=.live i:=by
 obtain⟨i,e⟩:=pY.mp h;rw[cW] at e;exact⟨i,e,ajc r e⟩
theorem apo{t:dX}(d:t.dummies = #[]){j:Nat}(h:j∉t.place.toList):t.slot j=.empty:=by
 unfold yO;dsimp only;rw[if_neg,if_neg]
 ·rw[d];unfold SetTable.has;simp
 ·intro z;exact h (by
   rw[<-yV];exact vK (eq_of_beq z))
def hashOf(es:Array (Int×Value))(i:Nat):Int:=(es[i]?.map (·.1)).getD 0
theorem auk{es:Array (Int×Value)}(nd:(es.toList.map (·.1)).Nodup){i k:Nat}{x y:Int×Value}(hx:es[i]? = some x)(hy:es[k]? = some y)(e:x.1=y.1):i=k:=by
 obtain⟨hi,rfl⟩:=bH.mp hx;obtain⟨hk,rfl⟩:=bH.mp hy;have p:=eG.mp nd;rcases rO i k with q | q | q
 ·exact absurd (by rw[fX,fX,fV,fV];exact e) (p i k (by simpa using hi) (by simpa using hk) q)
 ·exact q
 ·exact absurd (by rw[fX,fX,fV,fV];exact e.symm) (p k i (by simpa using hk) (by simpa using hi) q)
theorem Tab.there{t:dX}{es:Array (Int×Value)}(T:Tab t es){i:Nat}{e:Int×Value}(he:es[i]? = some e):∃j nx,t.probe (hashOf es) e.1 (t.probeStart e.1)=some (.candidate j i nx):=by
 have hi:=(bH.mp he).1;have hj:t.place[i]? = some (t.place[i]'(by rw[T.sz];exact hi)):=by simp
 obtain⟨pre,suf,a,b,c⟩:=T.on i _ e hj he;have fo:=amg t e.1;have le:=ao9 t e.1;rw[a] at fo le;obtain⟨nx,q⟩:=ag7 (f:=hashOf es) (h:=e.1) (ajc T.rise hj) (by unfold hashOf;rw[he];rfl) pre _ _ fo le fun x hx=>by
  obtain⟨k,e1,e2⟩:=slot_mem T.rise (c x hx);refine⟨k,e2,fun z =>?_⟩
  have hk:k < es.size:=by rw[<-T.sz];exact(bH.mp e1).1
  have hy:es[k]? = some es[k]:=by simp
  unfold hashOf at z;rw[hy] at z;have:k=i:=auk T.nd hy he z;subst this;rw[e1] at hj;cases hj;exact b hx
 exact⟨_,nx,q⟩
theorem Tab.free{t:dX}{es:Array (Int×Value)}(T:Tab t es)(hm:es.size<=t.mask){h:Int}(c:covB t.mask h=true)(hn:h∉es.toList.map (·.1)):∃j,t.probe (hashOf es) h (t.probeStart h)=some (.empty j none)/\j∉t.place.toList/\akx t.mask (· ∈ t.place.toList) h j:=by
 obtain⟨pre,j,suf,a,b,d,_⟩:=aj9 c (axw (l:=t.place.toList) (by rw[bF,T.sz];exact hm))
 have b':j∉t.place.toList:=by simpa using b
 have d':∀x∈pre,x∈t.place.toList:=fun x hx=>by simpa using d x hx
 have fo:=amg t h;have le:=ao9 t h;rw[a] at fo le;refine⟨j,afw (apo T.dm b') pre _ _ fo le rfl fun x hx =>?_,b',pre,suf,a,fun z=>b' (d' j z),d'⟩
 obtain⟨k,e1,e2⟩:=slot_mem T.rise (d' x hx);refine⟨k,e2,fun z=>hn ?_⟩
 have hk:k < es.size:=by rw[<-T.sz];exact(bH.mp e1).1
 unfold hashOf at z;rw[show es[k]? = some es[k] by simp] at z
 exact bI.mpr ⟨es[k],by simp,z⟩
theorem ins_get{α:Type}{xs:Array α}{p:Nat}{x:α}(hp:p<=xs.size)(i:Nat):(eY xs p x)[i]? = if i < p then xs[i]? else if i=p then some x else xs[i - 1]? := by
 rw[<-cW,uB]
 by_cases q:i < p
 ·rw[if_pos q,cH (by simp;omega),iV q,cW]
 ·rw[if_neg q,iC (by simp;omega)]
  have e:(xs.toList.take p).length=p:=by simp;omega
  rw[e]
  by_cases z:i=p
  ·subst z;simp
  ·rw[if_neg z];obtain⟨d,rfl⟩:∃d,i=p+d+1:=⟨i - p - 1,by omega⟩
   rw[show p+d+1 - p=d+1 by omega,pD,List.getElem?_drop,cW]
   congr 1
theorem Tab.put{t:dX}{es:Array (Int×Value)}(T:Tab t es){j:Nat}{h:Int}{x:aG}(hj:j∉t.place.toList)(o:akx t.mask (· ∈ t.place.toList) h j)(hn:h∉es.toList.map (·.1)):Tab (t.put j).1 (eY es (t.put j).2 (h,x)):=by
 have hp:=(agu T.rise j).1;have aw:t.place[dC t.place j]? ≠ some j:=fun z=>hj (by rw[<-yV];exact vK z)
 have sub:∀y,y∈t.place.toList->y∈(eY t.place (dC t.place j) j).toList:=fun y hy=>(jJ _ _ _).mem_iff.mpr (by simp at hy ⊢;exact .inl hy)
 refine⟨?_,?_,ak7 T.rise aw,?_,?_⟩
 ·show(if SetTable.has t.dummies j=true then _ else t.dummies) = #[]
  rw[T.dm];rfl
 ·show(eY t.place (dC t.place j) j).size=(eY es (dC t.place j) (h,x)).size;have a:=(jJ t.place (dC t.place j) j).length_eq;have b:=(jJ es (dC t.place j) (h,x)).length_eq;simp at a b;rw[a,b,T.sz]
 ·refine((jJ es (dC t.place j) (h,x)).map (·.1)).nodup_iff.mpr ?_;simp only[xF,cJ];exact jX.mpr ⟨T.nd,by simp,fun a ha b hb z=>hn (by simp at hb;rw[<-hb,<-z];exact ha)⟩
 ·intro i k e h1 h2;have h1:(eY t.place (dC t.place j) j)[i]? = some k:=h1;have h2:(eY es (dC t.place j) (h,x))[i]? = some e:=h2;rw[ins_get hp] at h1;rw[ins_get (by rw[<-T.sz];exact hp)] at h2
  show akx t.mask (· ∈ (eY t.place (dC t.place j) j).toList) e.1 k;split at h1
  ·rename_i q;rw[if_pos q] at h2;exact(T.on i k e h1 h2).mono sub
  ·rename_i q;rw[if_neg q] at h2;split at h1
   ·rename_i z;rw[if_pos z] at h2;cases h1;cases h2;exact o.mono sub
   ·rename_i z;rw[if_neg z] at h2;exact(T.on (i - 1) k e h1 h2).mono sub
structure LayI (m:Nat) (hs:List Int) (k:Nat) (ow:Array (Option Nat)):Prop where
 sz:ow.size=m+1
 pm:(ow.toList.filterMap id).Perm (aR k)
 on:∀j i,ow[j]? = some (some i)->∃h,hs[i]? = some h/\akx m (fun x=>∃i',ow[x]? = some (some i')) h j
theorem amn{k:Nat}:∀{l:List (Option Nat)} {j:Nat},l[j]? = some none->((l.set j (some k)).filterMap id).Perm (l.filterMap id++[k])
 | [],j,h=>by simp at h
 | a::l,0,h=>by
  simp at h;subst h
  simpa using (mZ k (l.filterMap id)).symm
 | a::l,j+1,h=>by
  have:=amn (k:=k) (l:=l) (j:=j) (by simpa using h)
  cases a with
  | none=>simpa using this
  | some x=>simpa using this
theorem all_some:∀{l:List (Option Nat)},(∀x∈l,x≠none)->(l.filterMap id).length=l.length
 | [],_=>rfl
 | a::l,h=>by
  cases a with
  | none=>exact absurd rfl (h none (aN ..))
  | some x=>simpa using all_some (l:=l) fun y hy=>h y (aK _ hy)
theorem LayI.step{m k:Nat}{hs:List Int}{ow:Array (Option Nat)}(L:LayI m hs k ow)(hk:k<=m){h:Int}(hh:hs[k]? = some h)(c:covB m h=true) :
  ∃j,jH m ow (qL m) (mK h % (m+1)) (mK h)=some j/\LayI m hs (k+1) (ow.setIfInBounds j (some k)):=by
 have ex:∃j,j<=m/\(ow.getD j (some 0)).isNone=true:=by
  apply fM;intro n;have:=all_some (l:=ow.toList) fun x hx z=>by
   obtain⟨i,hi,rfl⟩:=cT.mp hx;rw[bF] at hi;rw[fV] at z;exact n ⟨i,by have:=L.sz;omega,by rw[lF,dif_pos hi];show(ow[i]).isNone=true;rw[z];rfl⟩
  rw[L.pm.length_eq,iU,bF,L.sz] at this;omega
 obtain⟨pre,j,suf,a,b,d,e⟩:=aj9 c ex;have hj:j<=m:=avl (h:=h) (by rw[a];simp)
 have hlt:j < ow.size:=by have:=L.sz;omega
 have hnone:ow[j]? = some none:=by
  rw[lF,dif_pos hlt] at b;rw[Array.getElem?_eq_getElem hlt];have b:(ow[j]).isNone=true:=b;cases q:ow[j] with
  | none=>rfl
  | some _=>rw[q] at b;cases b
 have get:∀x,(ow.setIfInBounds j (some k))[x]? = if j=x then some (some k) else ow[x]? := fun x=>by
  rw[Array.getElem?_setIfInBounds];split
  ·rename_i z;subst z;simp[hlt]
  ·rfl
 have mono:∀x:Nat,(∃i':Nat,ow[x]? = some (some i'))->∃i':Nat,(ow.setIfInBounds j (some k))[x]? = some (some i'):=fun x q=>by
  obtain⟨i',z⟩:=q;rw[get];split
  ·exact⟨_,rfl⟩
  ·exact⟨i',z⟩
 refine⟨j,by rw[free_eq];exact e,by rw[Array.size_setIfInBounds];exact L.sz,?_,fun x i z =>?_⟩
 ·rw[Array.toList_setIfInBounds,pX];exact(amn (by rw[cW];exact hnone)).trans (L.pm.append_right [k])
 ·rw[get] at z;split at z
  ·rename_i q;cases z;subst q;refine⟨h,hh,pre,suf,a,fun z =>?_,fun y hy=>mono y ?_⟩
   ·have:=d j z;rw[b] at this;cases this
   ·have:=d y hy;cases q:ow[y]? with
    | none =>
     have hy2:y<=m:=avl (h:=h) (by rw[a];exact iM _ hy)
     have:=Array.getElem?_eq_none_iff.mp q;have:=L.sz;omega
    | some v =>
     obtain⟨hl,e2⟩:=bH.mp q;rw[lF,dif_pos hl] at this;have this:(ow[y]).isNone=false:=this;rw[e2] at this;cases v with
     | none=>cases this
     | some w=>exact⟨w,rfl⟩
  ·obtain⟨h',e1,o⟩:=L.on x i z;exact⟨h',e1,o.mono mono⟩
theorem am3{m:Nat}{hs:List Int}(c:∀h∈hs,covB m h=true)(hm:hs.length<=m):∀(l pre:List Int) (ow:Array (Option Nat)),hs=pre++l->LayI m hs pre.length ow ->
  ∃ow',l.foldl (fun acc h=>do
   let (owner,k) <-acc
   let j <-jH m owner (qL m) (mK h % (m+1)) (mK h)
   pure (owner.setIfInBounds j (some k),k+1)) (some (ow,pre.length))=some (ow',hs.length)/\LayI m hs hs.length ow'
 | [],pre,ow,e,L=>by
  rw[gF] at e;subst e;exact⟨ow,rfl,L⟩
 | h::l,pre,ow,e,L=>by
  have hl:pre.length+(l.length+1)=hs.length:=by rw[e];simp
  obtain⟨j,e1,L1⟩:=L.step (by omega) (h:=h) (by rw[e];simp) (c h (by rw[e];simp))
  have e':hs=(pre++[h])++l:=by rw[e];simp
  obtain⟨ow',e2,L2⟩:=am3 c hm l (pre++[h]) _ e' (by rw[aW];exact L1)
  refine⟨ow',?_,L2⟩;rw[iB,<-e2,aW]
  congr 1
  show(jH m ow _ _ _).bind _=_;rw[e1];rfl
theorem a1s{m:Nat}{hs:Array Int}(c:∀h∈hs.toList,covB m h=true)(hm:hs.size<=m):∃ow,rG m hs=some ow/\LayI m hs.toList hs.size ow:=by
 obtain⟨ow,e,L⟩:=am3 c (by simpa using hm) hs.toList [] (yI (m+1) none) rfl ⟨by simp,by
  have:(yI (m+1) (none:Option Nat)).toList.filterMap id=[]:=by
   rw[Array.toList_replicate];exact List.filterMap_eq_nil_iff.mpr fun x hx=>by rw[lD hx];rfl
  rw[this];exact .refl _,fun j i z=>by
   obtain⟨hl,e2⟩:=bH.mp z;rw[Array.getElem_replicate] at e2;cases e2⟩
 refine⟨ow,?_,by simpa using L⟩
 unfold rG;rw[<-Array.foldl_toList];exact congrArg (Option.map (·.1)) e
theorem pick_get{es:Array (Int×Value)}:∀{l:List Nat},(∀i∈l,i < es.size)->∀q:Nat,(l.filterMap (es[·]?))[q]? = l[q]?.bind (es[·]?)
 | [],_,q=>by simp
 | i::l,h,q=>by
  have hi:=h i (aN ..);have e:es[i]? = some es[i]:=by simp
  rw[dY,e];dsimp only;cases q with
  | zero=>rw[pC,pC];exact e.symm
  | succ q=>rw[pD,pD];exact pick_get (fun i hi=>h i (aK _ hi)) q
theorem ax7{m f mv:Nat}{b p:Bool}{es:Array (Int×Value)}(hm:es.size<=m)(c:∀e∈es.toList,covB m e.1=true)(nd:(es.toList.map (·.1)).Nodup) :
  ∃t o,oV m f mv b p (es.map (·.1))=some (t,o)/\t.mask=m/\t.led=b/\t.plain=p/\(o.filterMap (es[·]?)).toList.Perm es.toList/\Tab t (o.filterMap (es[·]?)):=by
 obtain⟨ow,e,L⟩:=a1s (m:=m) (hs:=es.map (·.1)) (fun h hh=>by
  rw[xQ] at hh;obtain⟨x,hx,rfl⟩:=bI.mp hh;exact c x hx) (by simpa using hm)
 rw[tY] at L;have lv:∀(q:Nat) (j i:Nat),((aR (m+1)).filterMap fun j=>(ow.getD j none).map (j,·))[q]? = some (j,i)->ow[j]? = some (some i):=fun q j i z=>by
  obtain⟨x,hx,z⟩:=nH.mp (dD z);have hx:x < ow.size:=by rw[L.sz];exact dJ.mp hx
  rw[lF,dif_pos hx] at z;have z:(ow[x]).map (x,·)=some (j,i):=z;cases q:ow[x] with
  | none=>rw[q] at z;cases z
  | some v=>rw[q] at z;cases z;rw[<-q];simp
 have ls:((aR (m+1)).filterMap fun j=>(ow.getD j none).map (j,·)).map (·.2)=ow.toList.filterMap id:=by
  have e1:ow.toList=(aR (m+1)).map fun j=>ow.getD j none:=by
   apply pK
   ·simp[L.sz]
   ·intro i h1 h2;have:i < ow.size:=by simpa using h1
    simp[lF,this]
  rw[e1,nM,List.map_filterMap]
  congr 1
  funext j
  show((ow.getD j none).map (j,·)).map (·.2)=ow.getD j none;cases ow.getD j none <;> rfl
 have lt:∀i∈ow.toList.filterMap id,i < es.size:=fun i hi=>dJ.mp (L.pm.mem_iff.mp hi)
 have k:=aqt (m:=m) (f:=f) (mv:=mv) (b:=b) (p:=p) (hs:=es.map (·.1)) (t:=_) (o:=_) (by unfold oV;rw[e];rfl)
 refine⟨_,_,by unfold oV;rw[e];rfl,rfl,rfl,rfl,?_,?_⟩
 ·rw[lQ];show(nP _ (uO (fun x:Nat×Nat=>x.2) _)).Perm _
  rw[ls];refine(L.pm.filterMap _).trans ?_;rw[filterMap_getElem?_range]
 ·refine⟨rfl,?_,k.1,?_,?_⟩
  ·show(cZ (uO (fun x:Nat×Nat=>x.1) _)).size=_
   have e1:∀l:List (Nat×Nat),(l.map (·.1)).length=(l.map (·.2)).length:=fun l=>by simp
   rw[aL,e1,ls,<-bF,lQ];show _=(nP _ (nP id ow.toList)).length;have e2:=((L.pm.filterMap (es[·]?)).trans (by rw[filterMap_getElem?_range]:((aR es.size).filterMap (es[·]?)).Perm es.toList)).length_eq
   rw[e2,L.pm.length_eq];simp
  ·rw[lQ];show((nP _ (uO (fun x:Nat×Nat=>x.2) _)).map _).Nodup
   rw[ls];refine(((L.pm.filterMap (es[·]?)).trans (by rw[filterMap_getElem?_range])).map (fun x:Int×Value=>x.1)).nodup_iff.mpr nd
  ·intro q j x h1 h2;have h1:(cZ (uO (·.1) ((aR (m+1)).filterMap fun j=>(ow.getD j none).map (j,·))))[q]? = some j:=h1
   rw[<-cW,lQ] at h2;have h2:(nP (es[·]?) (uO (·.2) ((aR (m+1)).filterMap fun j=>(ow.getD j none).map (j,·))))[q]? = some x:=h2
   rw[pick_get (by rw[ls];exact lt),bK] at h2
   rw[List.getElem?_toArray,bK] at h1;cases z:((aR (m+1)).filterMap fun j=>(ow.getD j none).map (j,·))[q]? with
   | none=>rw[z] at h1;cases h1
   | some v =>
    obtain⟨j',i⟩:=v;rw[z] at h1 h2;cases h1;have h2:es[i]? = some x:=h2;obtain⟨h,e3,o⟩:=L.on j' i (lv q j' i z);rw[xQ,bK,cW,h2] at e3;cases e3;refine o.mono fun y hy =>?_
    obtain⟨i',hy⟩:=hy;show y∈List.map (fun x:Nat×Nat=>x.1) _
    obtain⟨hl,e4⟩:=bH.mp hy;refine bI.mpr ⟨(y,i'),nH.mpr ⟨y,dJ.mpr (by rw[<-L.sz];exact hl),?_⟩,rfl⟩
    rw[lF,dif_pos hl];show(ow[y]).map _=_;rw[e4];rfl
open PyProof.Rows
def hp(k:List Int):Int:=reduceHash (Builtin.Tuple.tupleHashOf (k.map hashInt))
def prs:LL9:=(aR 6).flatMap fun(a:Nat)=>(aR 6).map fun(b:Nat)=>[((a:Nat):Int),((b:Nat):Int)]
theorem aw9:(prs.all fun k=>covB 7 (hp k)&&covB 31 (hp k)&&covB 127 (hp k))=true:=by decide +kernel
theorem aw8:(prs.map hp).Nodup:=by decide +kernel
theorem awb{k:List Int}(h:k∈prs){m:Nat}(hm:m=7∨m=31∨m=127):covB m (hp k)=true:=by
 have:=bA.mp aw9 k h;simp only[aV] at this;rcases hm with rfl | rfl | rfl
 ·exact this.1.1
 ·exact this.1.2
 ·exact this.2
theorem av2{k l:List Int}(h:k∈prs)(h':l∈prs)(e:hp k=hp l):k=l:=by
 obtain⟨i,hi,rfl⟩:=cT.mp h;obtain⟨j,hj,rfl⟩:=cT.mp h';have p:=eG.mp aw8;rcases rO i j with q | q | q
 ·exact absurd (by rw[fX,fX];exact e) (p i j (by simpa using hi) (by simpa using hj) q)
 ·subst q;rfl
 ·exact absurd (by rw[fX,fX];exact e.symm) (p j i (by simpa using hj) (by simpa using hi) q)
def addL(ks:LL9)(k:List Int):LL9:=if k∈ks then ks else ks++[k]
structure SetP (prog:bV) (w:dO) (h:fD) (es:Array (Int×Value)) (t:dX) (ks:LL9):Prop where
 ent:∀e∈es.toList,∃k a,e=(hp k,.ref a)/\k∈ks/\fJ (gU prog w) h k a
 all:∀k∈ks,hp k∈es.toList.map (·.1)
 dom:∀k∈ks,k∈prs
 sz:es.size=ks.length
 tab:Tab t es
 msk:(t.mask=7/\es.size<=4)∨(t.mask=31/\es.size<=18)∨(t.mask=127/\es.size<=76)
section
variable{prog:bV}{w:dO}{A:dB}{E:aG->aH->Prop}{s:aH}
theorem als{k:List Int}{r:aY}{Q:Bool->aH->Prop}(hk:fJ (gU prog w) s.heap k r)(h:Q true s):bL (bY prog w) A (hashByValue 8 (.ref r)) Q E s:=by
 have hT:=hk.typeIs;obtain⟨o,items,n,ho,_,hd,hi⟩:=hk;unfold hashByValue;refine aA (wpAny_specialOf hT F.slot_tuple_hash.lookup ?_);refine aA (iI ho hd ?_);refine aA ?_;show bL _ _ (forIn items _ _) _ _ s;rw[<-wH];refine wpAny_forIn_list _ (fun rest r s'=>r.1=none/\s'=s/\∃k',ItemsAre (gU prog w) k' rest) _ ?_ ?_ _ _ ⟨rfl,rfl,k,hi⟩
 ·rintro v rest r s' ⟨hr,rfl,k',hi'⟩
  cases hi' with
  | cons h1 h2 =>
   obtain⟨u,rfl⟩:=rE h1;refine aA (aJ ?_);simp only[rB,cC,if_false];exact aJ ⟨rfl,rfl,_,h2⟩
 ·rintro⟨r1,r2⟩ s' ⟨hr,rfl,_⟩
  simp only at hr;subst hr;exact aJ h
theorem adw{k:List Int}{r:aY}{Q:Bool->aH->Prop}(hk:fJ (gU prog w) s.heap k r)(h:Q false s):bL (bY prog w) A (ofAClassStatement 8 (.ref r)) Q E s:=by
 have hT:=hk.typeIs;obtain⟨o,items,n,ho,_,hd,hi⟩:=hk;unfold ofAClassStatement;refine aA (wpAny_typeOf hT ?_);dsimp only;refine aA (aJ ?_);simp only[rB,cC,if_false];refine aA (iI ho hd ?_);dsimp only;refine aA ?_;rw[<-wH];refine wpAny_forIn_list _ (fun rest r s'=>r.1=none/\s'=s/\∃k',ItemsAre (gU prog w) k' rest) _ ?_ ?_ _ _ ⟨rfl,rfl,k,hi⟩
 ·rintro v rest r s' ⟨hr,rfl,k',hi'⟩
  cases hi' with
  | cons h1 h2 =>
   obtain⟨u,rfl⟩:=rE h1;refine aA (m:=ofAClassStatement _ _) ?_;unfold ofAClassStatement;refine aJ ?_;simp only[cC,if_false];exact aJ ⟨rfl,rfl,_,h2⟩
 ·rintro⟨r1,r2⟩ s' ⟨hr,rfl,_⟩
  simp only at hr;subst hr;exact aJ h
theorem apt{k:List Int}{r:aY}{st:List aG}{Q:Bool->aH->Prop}(hk:fJ (gU prog w) s.heap k r)(hs:∀v∈st,∃l a,v=.ref a/\fJ (gU prog w) s.heap l a)(h:Q false s):bL (bY prog w) A (searchCouldBeSeen (.ref r) st) Q E s:=by
 unfold searchCouldBeSeen;refine aA ?_;refine wpAny_forIn_list _ (fun rest r s'=>r.1=none/\s'=s/\∀v∈rest,∃l a,v=cP a/\fJ (gU prog w) s.heap l a) _ ?_ ?_ _ _ ⟨rfl,rfl,hs⟩
 ·rintro v rest r' s' ⟨hr,rfl,hv⟩
  obtain⟨l,a,rfl,hl⟩:=hv _ (aN ..);have hv':∀v∈rest,∃l a,v=cP a/\fJ (gU prog w) s'.heap l a:=fun v hv2=>hv v (aK _ hv2)
  dsimp only;split
  ·exact aJ ⟨rfl,rfl,hv'⟩
  ·refine aA (wpAny_eqIsQuiet_tuple hk ?_);simp only[rB,cC,if_false];refine aA (wpAny_eqIsQuiet_tuple hl ?_);simp only[rB,cC,if_false];refine aA (adw hk ?_);simp only[cC,if_false];refine aA (adw hl ?_);simp only[cC,if_false];exact aJ ⟨rfl,rfl,hv'⟩
 ·rintro⟨r1,r2⟩ s' ⟨hr,rfl,_⟩
  simp only at hr;subst hr;exact aJ h
end
section
variable{prog:bV}{w:dO}{A:dB}{E:aG->aH->Prop}{s:aH}
theorem amt{t:dX}{f:Nat->Int}{h:Int}{p:qM}{r:Option SetTable.Met}{es:Array (Int×Value)}(hf:∀i,f i=hashOf es i)(e:t.probe (hashOf es) h p=r):t.probe f h p=r:=by
 rw[show f=hashOf es from funext hf];exact e
theorem ahn{S a:aY}{h h':fD}{es:Array (Int×Value)}{ep:Nat}{t:dX}{k:List Int}(ho:h.get? S=some (setO es ep t))(hs:gG S h h')(x:fJ (gU prog w) h k a):fJ (gU prog w) h' k a:=by
 obtain⟨o',items,n,ho',hc,hd',hi⟩:=x;have hne:a≠S:=by
  rintro rfl
  obtain rfl:o'=setO es ep t:=bO (ho'.symm.trans ho);exact nomatch hd'
 exact⟨o',items,n,(hs.2 a hne).trans ho',hc,hd',hi⟩
theorem SetP.fit{h:fD}{es:Array (Int×Value)}{t:dX}{ks:LL9}(G:SetP prog w h es t ks):t.fits es.size=true:=by
 unfold yP uI;rw[G.tab.sz,G.tab.dm];have:=G.msk;simp;omega
theorem az2{S:aY}{es:Array (Int×Value)}{ep n m:Nat}{t:dX}{Q:Unit->aH->Prop}(ho:s.heap.get? S=some (setO es ep t))(hf:t.fits es.size=true)(hm:wA n=m+1)(hl:m+1<=1000)(hz:es.size<=m)(c:∀e∈es.toList,covB m e.1=true)(nd:(es.toList.map (·.1)).Nodup)
  (h:∀es' t',Tab t' es'->t'.mask=m->es'.toList.Perm es.toList->Q () { s with heap:=s.heap.update S (rM es' t') }):bL (bY prog w) A (setRelay S n) Q E s:=by
 obtain⟨t2,o,e,em,_,_,pm,T2⟩:=ax7 (f:=t.finger) (mv:=t.movedTo m) (b:=t.led) (p:=t.plain) hz c nd;have er:t.relaid (es.map (·.1)) n=some (t2,o):=by
  unfold SetTable.relaid;rw[hm,qW];exact e
 have hs:(o.filterMap (es[·]?)).size=es.size:=by rw[<-bF,pm.length_eq,bF]
 unfold setRelay;refine aA (wpAny_setState_of ho rfl hf ?_);dsimp only;rw[hm,if_neg (by rw[cF];omega),er]
 refine aA ?_;show bL _ _ (if ((o.filterMap (es[·]?)).size != es.size)=true then _ else _) _ _ _
 rw[if_neg (by rw[hs];simp)]
 exact aJ (wpAny_storeSet_of ho rfl (h _ _ T2 em pm) (by rw[hs,cF];omega))
theorem endP{S:aY}{es es1:Array (Int×Value)}{ep:Nat}{t t1:dX}{ks:LL9}{n:Nat}{Q:Bool->aH->Prop}(ho:s.heap.get? S=some (setO es ep t))(T1:Tab t1 es1)(en:es1.size=n)(hm:(t1.mask=7/\n<=5)∨(t1.mask=31/\n<=19)∨(t1.mask=127/\n<=76))
  (ent:∀e∈es1.toList,∃k a,e=(hp k,cP a)/\k∈ks/\fJ (gU prog w) s.heap k a) (all:∀k∈ks,hp k∈es1.toList.map (·.1)) (dom:∀k∈ks,k∈prs) (sz:es1.size=ks.length)
  (h:∀h' es' ep' t',gG S s.heap h'->h'.get? S=some (setO es' ep' t')->SetP prog w h' es' t' ks->Q true { s with heap:=h' }) :
  bL (bY prog w) A (storeSet S es1 t1 >>= fun _=>if (!false&&t1.tooFull)=true then setRelay S (yK n) >>= fun _=>pure true else pure true) Q E s:=by
 refine aA (wpAny_storeSet_of ho rfl ?_ (by rw[en,cF];omega))
 have h1:=aml (es':=es1) (t':=t1) ho;have b1:=jC s.heap S (rM es1 t1);have tf:t1.tooFull=decide (n*5≥t1.mask*3):=by
  unfold SetTable.tooFull uI;rw[T1.sz,T1.dm,en];rfl
 split
 ·rename_i q;rw[tf] at q;have q:n*5≥t1.mask*3:=by simpa using q
  have fit:t1.fits es1.size=true:=by
   unfold yP uI;rw[T1.sz,T1.dm,en];simp;omega
  obtain⟨m,hm3,hsa,hn2⟩:∃m,(m=31∨m=127)/\wA (yK n)=m+1/\((m=31/\n=5)∨(m=127/\n=19)):=by
   rcases hm with⟨a,b⟩ | ⟨a,b⟩ | ⟨a,b⟩
   ·have:n=5:=by omega
    subst this;exact⟨31,.inl rfl,by decide,.inl ⟨rfl,rfl⟩⟩
   ·have:n=19:=by omega
    subst this;exact⟨127,.inr rfl,by decide,.inr ⟨rfl,rfl⟩⟩
   ·omega
  refine aA (az2 h1 fit hsa (by omega) (by omega) (fun e he =>?_) T1.nd fun es2 t2 T2 em pm =>?_)
  ·obtain⟨k,a,rfl,hk,_⟩:=ent e he;exact awb (dom k hk) (by omega)
  ·have b2:=b1.trans (jC _ S (rM es2 t2));have hz:es2.size=es1.size:=by rw[<-bF,pm.length_eq,bF]
   refine aJ (h _ _ _ _ b2 (aml h1) ⟨fun e he =>?_,fun k hk =>?_,dom,hz.trans sz,T2,?_⟩)
   ·obtain⟨k,a,e1,e2,e3⟩:=ent e (pm.mem_iff.mp he);exact⟨k,a,e1,e2,ahn ho b2 e3⟩
   ·exact((pm.map (·.1)).mem_iff).mpr (all k hk)
   ·rw[em,hz,en];omega
 ·rename_i q;rw[tf] at q;have q:¬n*5≥t1.mask*3:=by simpa using q
  refine aJ (h _ _ _ _ b1 h1 ⟨fun e he =>?_,all,dom,sz,T1,by rw[en];omega⟩)
  obtain⟨k,a,e1,e2,e3⟩:=ent e he;exact⟨k,a,e1,e2,ahn ho b1 e3⟩
theorem azc{S r:aY}{es:Array (Int×Value)}{ep:Nat}{t:dX}{ks:LL9}{k:List Int}{Q:Bool->aH->Prop}(hu:A.units < cLine)(ho:s.heap.get? S=some (setO es ep t))(G:SetP prog w s.heap es t ks)(hk:fJ (gU prog w) s.heap k r)(hd:k∈prs)(hn:es.size+1<=76)
  (h:∀h' es' ep' t' b,gG S s.heap h'->h'.get? S=some (setO es' ep' t')->SetP prog w h' es' t' (addL ks k)->Q b { s with heap:=h' }) :
  bL (bY prog w) A (setAddHashed S (.ref r) (hp k)) Q E s:=by
 unfold setAddHashed setAddHashedIn;refine cU (aA (wpAny_setState_of ho rfl G.fit ?_));dsimp only;rw[show byScan (.ref r) es=false from rfl]
 simp only[cC,if_false];have hodd:t.gaveWay=false:=by
  unfold SetTable.gaveWay;rcases G.msk with⟨q,_⟩ | ⟨q,_⟩ | ⟨q,_⟩ <;> rw[q] <;> rfl
 unfold setSearch;refine aA ?_;rw[setSearchFrom.eq_2];refine aA (wpAny_setState_of ho rfl G.fit ?_);dsimp only;rw[hodd];simp only[cC,if_false]
 by_cases hin:k∈ks
 ·obtain⟨e,he,e1⟩:=bI.mp (G.all k hin);obtain⟨k',a',rfl,hk',ht'⟩:=G.ent e he;have ek:k'=k:=av2 (G.dom k' hk') hd e1;subst ek;obtain⟨i,hi⟩:=pY.mp he;rw[cW] at hi;obtain⟨j,nx,pr⟩:=G.tab.there hi;have pr:t.probe (hashOf es) (hp k') (Option.getD none (t.probeStart (hp k')))=some (.candidate j i nx):=pr;rw[amt ?_ pr]
  ·dsimp only;rw[hi];dsimp only;split;refine aA (apt hk (fun v hv =>?_) ?_)
   ·obtain⟨e,he,rfl⟩:=bI.mp hv;obtain⟨l,a,rfl,_,hl⟩:=G.ent e (by simp at he ⊢;exact he.1)
    exact⟨l,a,rfl,hl⟩
   ·simp only[cC,if_false];refine aA (cU (wpAny_eqBool_tuple hu ht' hk ?_));rw[decide_eq_true rfl];refine aA (wpAny_setState_of ho rfl G.fit ?_);exact aJ (aJ (h s.heap es ep t _ (rQ S s.heap) ho (by rw[show addL ks k'=ks from if_pos hin];exact G)))
   ·refine aA (cU (wpAny_eqBool_tuple hu ht' hk ?_));rw[decide_eq_true rfl];refine aA (wpAny_setState_of ho rfl G.fit ?_);exact aJ (aJ (h s.heap es ep t _ (rQ S s.heap) ho (by rw[show addL ks k'=ks from if_pos hin];exact G)))
  ·intro i;rfl
 ·have hmk:t.mask=7∨t.mask=31∨t.mask=127:=by have:=G.msk;omega
  have hnot:hp k∉es.toList.map (·.1):=fun z=>by
   obtain⟨e,he,e1⟩:=bI.mp z;obtain⟨k',a',rfl,hk',ht'⟩:=G.ent e he;exact hin (av2 (G.dom k' hk') hd e1▸hk')
  obtain⟨j,pr,hj,ow⟩:=G.tab.free (by have:=G.msk;omega) (awb hd hmk) hnot
  have pr:t.probe (hashOf es) (hp k) (Option.getD none (t.probeStart (hp k)))=some (.empty j none):=pr;rw[amt ?_ pr]
  ·dsimp only;refine aJ ?_;dsimp only;refine aA (wpAny_setState_of ho rfl G.fit ?_);dsimp only;have T1:=G.tab.put (x:=cP r) hj ow hnot;have pm:=jJ es (t.put j).2 (hp k,cP r);have hsz:(eY es (t.put j).2 (hp k,cP r)).size=es.size+1:=by rw[<-bF,pm.length_eq,bF,Array.size_push]
   have mem:∀e,e∈(eY es (t.put j).2 (hp k,cP r)).toList↔e∈es.toList∨e=(hp k,cP r):=fun e=>by rw[pm.mem_iff];simp
   have fin:=endP (prog:=prog) (w:=w) (A:=A) (E:=E) (s:=s) (Q:=Q) (ks:=addL ks k) (n:=es.size+1) ho T1 hsz (by have:=G.msk;show(t.mask=7/\_)∨(t.mask=31/\_)∨(t.mask=127/\_);omega) (fun e he =>?_) (fun l hl =>?_) (fun l hl =>?_) ?_ fun h' es' ep' t' b o g=>h h' es' ep' t' true b o g
   ·split
    ·refine aA (als hk ?_);exact fin
    ·exact aA (aJ fin)
   ·rcases(mem e).mp he with z | rfl
    ·obtain⟨k',a',e1,e2,e3⟩:=G.ent e z;exact⟨k',a',e1,by rw[show addL ks k=ks++[k] from if_neg hin];exact iM _ e2,e3⟩
    ·exact⟨k,r,rfl,by rw[show addL ks k=ks++[k] from if_neg hin];simp,hk⟩
   ·rw[show addL ks k=ks++[k] from if_neg hin] at hl
    rcases bZ.mp hl with z | z
    ·obtain⟨e,he,e1⟩:=bI.mp (G.all l z);exact bI.mpr ⟨e,(mem e).mpr (.inl he),e1⟩
    ·rw[bD.mp z];exact bI.mpr ⟨_,(mem _).mpr (.inr rfl),rfl⟩
   ·rw[show addL ks k=ks++[k] from if_neg hin] at hl
    rcases bZ.mp hl with z | z
    ·exact G.dom l z
    ·rw[bD.mp z];exact hd
   ·rw[hsz,G.sz,show addL ks k=ks++[k] from if_neg hin];simp
  ·intro i;rfl
end
open PySem.Spec
theorem sub_list_set:isSubtype (.type "list") (.type "set")=pure false:=by rw[isSubtype_type];kernel_rfl
theorem sub_list_frozenset:isSubtype (.type "list") (.type "frozenset")=pure false:=by rw[isSubtype_type];kernel_rfl
theorem afl:∀(l ks:LL9),(l.foldl addL ks).length<=ks.length+l.length
 | [],ks=>aO _
 | k::l,ks=>by
  have:=afl l (addL ks k);have:(addL ks k).length<=ks.length+1:=by unfold addL;split <;> simp
  rw[iB,bJ];omega
theorem SetP.empty(prog:bV)(w:dO)(h:fD){b:Bool}:SetP prog w h #[] (.fresh 0 0 b) [] :=
 ⟨fun e he=>by simp at he,fun k hk=>(by cases hk),fun k hk=>(by cases hk),rfl,⟨rfl,rfl,oK,oK,fun i j e z _=>by simp[SetTable.fresh] at z⟩,.inl ⟨rfl,cI _⟩⟩
section
variable{prog:bV}{w:dO}{A:dB}{R:Result->aH->Prop}{I:aY}{fp wr:List aY}{G:Array GenState->Array GenState->Prop}{n:Nat}{P:Nat->aG->Prop}{St:Nat->aH->Prop}
theorem SetP.mono{h h':fD}{es:Array (Int×Value)}{t:dX}{ks:LL9}(g:SetP prog w h es t ks)(k:∀k a,fJ (gU prog w) h k a->fJ (gU prog w) h' k a):SetP prog w h' es t ks :=
 ⟨fun e he=>by obtain⟨k',a',e1,e2,e3⟩:=g.ent e he;exact⟨k',a',e1,e2,k _ _ e3⟩,g.all,g.dom,g.sz,g.tab,g.msk⟩
theorem asw(W:WalksS prog w A.in1 I fp wr G n P St)(S:aY)(hSf:S∉fp)(ks:Nat->List Int)(ad:Nat->aY)(hval:∀i v,P i v->v=.ref (ad i))(hd:∀i,i < n->ks i∈prs)(hw:∀i s b k,St i s->b∈wr->¬IsTupleKey (gU prog w) s.heap k b)(hb:n<=75)(hu:A.in1.units < cLine) :
  ∀(k i:Nat) (s:aH) (es:Array (Int×Value)) (ep:Nat) (t:dX),n - i=k->i<=n->St i s->s.heap.get? S=some (setO es ep t)->SetP prog w s.heap es t (((aR i).map ks).foldl addL [])->(∀j,j < n->fJ (gU prog w) s.heap (ks j) (ad j)) ->
   (∀s' es' ep' t',Moved (S::wr) G s s'->s'.heap.get? S=some (setO es' ep' t')->SetP prog w s'.heap es' t' (((aR n).map ks).foldl addL [])->R (.ok (.ret .none)) s') ->
   qP (bY prog w) A (.builtin "set.update.loop" ⟨[.ref S,.ref I],[]⟩) R s:=by
 have hSw:S∉wr:=fun h=>hSf (W.sub _ h)
 have hsub:∀b∈wr,b∈S::wr:=fun b hb=>aK _ hb
 have keepT:∀{i:Nat} {s s':aH},St i s->Moved wr G s s'->∀k a,fJ (gU prog w) s.heap k a->fJ (gU prog w) s'.heap k a:=fun{i s s'} st hm k a x=>by
  obtain⟨o,y,m,e,r⟩:=x;exact⟨o,y,m,hm.heap _ _ (fun z=>hw i s a k st z ⟨o,y,m,e,r⟩) e,r⟩
 intro k
 induction k with
 | zero =>
  intro i s es ep t hk hi hst ho g ht hR;have hin:i=n:=by omega
  subst hin;refine codeAny_builtin uV ?_;rw[qI pG _];show bL _ A.in1 (pyNext (.ref I) >>= _) _ _ s;refine aA (W.done s _ _ hst fun s' hm =>?_)
  show bL _ A.in1 (ret cX) _ _ s';exact aJ (hR s' es ep t (hm.mono hsub) (hm.heap S _ hSw ho) (g.mono (keepT hst hm)))
 | succ k ih =>
  intro i s es ep t hk hi hst ho g ht hR;have hlt:i < n:=by omega
  refine codeAny_builtin uV ?_;rw[qI pG _];show bL _ A.in1 (pyNext (.ref I) >>= _) _ _ s;refine aA (W.item i s _ _ hlt hst fun v s' hP hst' hm =>?_)
  obtain rfl:=hval i v hP;have ho':s'.heap.get? S=some (setO es ep t):=hm.heap S _ hSw ho;have ht':∀j,j < n->fJ (gU prog w) s'.heap (ks j) (ad j):=fun j hj=>keepT hst hm _ _ (ht j hj)
  have g':SetP prog w s'.heap es t (((aR i).map ks).foldl addL []):=g.mono (keepT hst hm);have hz:es.size<=i:=by
   have:=afl ((aR i).map ks) [];rw[g.sz]
   simpa using this
  show bL _ A.in1 (oO [cP (ad i)] (setAdd S (.ref (ad i))) >>= _) _ _ s';refine aA (cU ?_);unfold setAdd;refine cU ?_;refine aA (wpAny_pyHash_tuple hu (ht' i hlt) ?_);refine azc (s:={ s' with toks:=s'.toks+((ks i).length+1) }) (k:=ks i) hu ho' g' (ht' i hlt) (hd i hlt) (by omega) fun h' es' ep' t' b hsb ho2 g2 =>?_
  have g3:SetP prog w h' es' t' (((aR (i+1)).map ks).foldl addL []):=by
   rw[pX,cJ,wV];exact g2
  refine aJ ⟨plainId_quiet pG _,ih (i+1) _ es' ep' t' (by omega) hlt (W.frame _ s' _ _ hst' (rZ _ _) fun b hb o e =>?_) ho2 g3 (fun j hj=>ahn ho' hsb (ht' j hj)) fun s'' es'' ep'' t'' hm'' ho'' g'' =>?_⟩
  ·rw[hsb.2 b (fun h:b=S=>hSf (by rw[<-h];exact hb))];exact e
  ·refine hR s'' es'' ep'' t'' (Moved.trans W.gtrans ((hm.mono hsub).then_heap (rZ _ _) fun b o hb e =>?_) hm'') ho'' g''
   rw[hsb.2 b (fun h:b=S=>hb (by rw[h];exact aN))];exact e
end
section
variable{prog:bV}{w:dO}{A:dB}{E:aG->aH->Prop}{s:aH}
set_option maxRecDepth 100000 in
set_option maxHeartbeats 3200000 in
theorem azz{l:aY}{items:Array aG}{ks:Nat->List Int}{ad:Nat->aY}{Q:aG->aH->Prop}(hh:A.handled=none)(hu:A.units+8 < cLine)(hl:s.heap.IsList l items)(hi:∀(i:Nat) (v:aG),items[i]? = some v->v=.ref (ad i))(ht:∀i,i < items.size->fJ (gU prog w) s.heap (ks i) (ad i))(hd:∀i,i < items.size->ks i∈prs)(hb:items.size<=75)
  (h:∀(h':fD) (tk:Nat) es ep t,h'.get? s.heap.objs.size=some (setO es ep t)->t.fits es.size=true->es.size=(((aR items.size).map ks).foldl addL []).length->(∀b o,s.heap.get? b=some o->h'.get? b=some o)->Q (.ref s.heap.objs.size) { s with heap:=h',toks:=tk }) :
  bL (bY prog w) A (call (.type "set") [.ref l]) Q E s:=by
 obtain⟨c,tl,hmro⟩:=lE.mro;have hmade:=lE.made;have hsub:=lE.sub;refine wpAny_call (codeAny_of_tree ?_);show bL _ _ (callAny (.type "set") _) _ _ _;refine aJ ⟨Code.quiet_builtin _ (by decide +kernel),codeAny_builtin F.entry_type_call ?_⟩
 rw[Around.under_plain (weight_type_call_type "set" [.ref l] []) rfl];have h1:=lE.notType;have h2:=lE.canCreate;have hct:=F.typeCall_set_1 (.ref l)
 repeat (any_goals (first | assumption | wp_step))
 refine codeAny_mono (axy (.ref l) (E:=E) (Q₁:=fun obj s₁=>obj=.ref s.heap.objs.size/\s₁={ s with heap:=s.heap.push (fresh0 w) }) ⟨rfl,rfl⟩) fun r s₁ hr =>?_
 cases r with
 | error e=>exact hr
 | ok fl =>
  cases fl with
  | ret obj =>
   obtain⟨rfl,rfl⟩:=hr;have hS:(s.heap.push (fresh0 w)).get? s.heap.objs.size=some (fresh0 w):=aU _ rfl;have hT:Shared.TypeIs { s with heap:=s.heap.push (fresh0 w) } (.ref s.heap.objs.size) "set" := ⟨_,hS,rfl⟩
   have hli:=lE.init.lookup;have hbi:=lE.init.bind (.ref s.heap.objs.size)
   repeat (any_goals (first | assumption | wp_step))
   refine codeAny_mono (codeAny_call_builtin (R:=wants (fun r s₂=>r=.none/\∃h' tk es ep t,s₂={ s with heap:=h',toks:=tk }/\h'.get? s.heap.objs.size=some (setO es ep t)/\t.fits es.size=true/\es.size=(((aR items.size).map ks).foldl addL []).length /\
     (∀b o,s.heap.get? b=some o->h'.get? b=some o)) E) lE.init.plain F.entry_set_init (check_set_init_1 hT ?_)) fun r₂ s₂ hr₂ =>?_
   ·obtain⟨ol,hol,hcl,nl,hdl⟩:=hl;obtain⟨ocls,odict,odata,oslots⟩:=ol;simp only at hcl hdl;subst hcl;subst hdl;have hol':(s.heap.push (fresh0 w)).get? l=some { cls:=.type "list", dict:=odict,data:=.seq items nl,slots:=oslots }:=aB _ hol;have hsls:=sub_list_set;have hslf:=sub_list_frozenset;have hne:(jG "list" == jG "dict")=false:=by decide
    have hl1:(s.heap.push (fresh0 w)).IsList l items:=⟨_,hol',rfl,nl,rfl⟩;unfold jL.«set.__init__» noKeywords Builtin.Frozenset.updateFrom;generalize hPI:pyIter=PI;wp_walk;subst hPI;refine wpAny_pyIter_list hl1 ?_;refine aA (wpAny_runValue ?_);have hlS:l < s.heap.objs.size:=aQ hol;have hh3:A.in1.in1.in1.handled=none:=by simp[hh]
    have hneI:l≠(s.heap.push (fresh0 w)).objs.size:=by
     rw[dW];exact bG (iR hlS)
    have hSf:s.heap.objs.size∉[(s.heap.push (fresh0 w)).objs.size,l]:=by
     rw[dW];simp only[aZ,bD,dN,or_false,not_or];exact⟨Nat.ne_of_lt (mF _),jQ hlS⟩
    have old:∀b o,s.heap.get? b=some o->b≠s.heap.objs.size/\b≠(s.heap.push (fresh0 w)).objs.size:=fun b o e=>by
     have hlt:=aQ e;rw[dW];exact⟨Nat.ne_of_lt hlt,bG (iR hlt)⟩
    refine asw ((wI hh3 _ l hneI items).toS) s.heap.objs.size hSf ks ad hi hd ?hw hb ?hu (items.size - 0) 0 _ #[] 0 _ (by omega) (cI _)
     ⟨⟨_,aU _ rfl,rfl,rfl⟩,(hl1.push _)⟩ (aB _ hS) (SetP.empty prog w _) (fun i hi' =>?ht) ?hR
    case hw =>
     intro i s2 b k st hb2 x;obtain⟨o,_,_,e,c,_⟩:=x;obtain⟨⟨o2,e2,c2,_⟩,_⟩:=st;have:b=(s.heap.push (fresh0 w)).objs.size:=by simpa using hb2
     subst this;rw[e] at e2;cases e2;rw[c] at c2
     injection c2 with z
     exact absurd z (by decide)
    case hu=>simp;omega
    case ht =>
     obtain⟨o,x,n,e,r⟩:=ht i hi';exact⟨o,x,n,aB _ (aB _ e),r⟩
    case hR =>
     intro s' es ep t hm ho' g';obtain⟨h',g₀,d',tk',os'⟩:=s';have eg:g₀=s.gens:=hm.gens;have ed:d'=s.drawn:=hm.drawn;have eo:os'=s.os:=hm.os;subst eg;subst ed;subst eo;show bL _ _ _ _ _ _;refine aJ ?_;show bL _ _ (ret cX) _ _ _;refine aJ ⟨rfl,h',tk',es,ep,t,rfl,ho',g'.fit,g'.sz,fun b o e =>?_⟩
     obtain⟨hb1,hb2⟩:=old b o e;exact hm.heap b o (by simp only[aZ,bD,dN,or_false,not_or];exact⟨hb1,hb2⟩) (aB _ (aB _ e))
   ·cases r₂ with
    | error e=>exact hr₂
    | ok fl₂ =>
     cases fl₂ with
     | ret r =>
      obtain⟨rfl,h',tk,es,ep,t,rfl,hS',g',hz',hk'⟩:=hr₂
      repeat (any_goals (first | assumption | wp_step))
      exact h _ _ _ _ _ hS' g' hz' hk'
     | _=>exact hr₂.elim
  | _=>exact hr.elim
end
end Stt
namespace Dn
open L2 Mn
section
variable{K:Fg9}{X:Cx}{e:dZ}{pos:Pos}
theorem tkI{prog:bV}{w:dO}:∀{xs:List aG} {r:List Int},mG xs r->PySem.ItemsAre (gU prog w) r xs
 | _,_,.nil=>.nil
 | _,_,.cons m u q=>.cons (intKind_is _ _ _ _) (tkI q)
theorem TupsAre.key{prog:bV}{w:dO}{h:fD}:∀{us:List aG} {rs:LL9},TupsAre h us rs->∀i,i < rs.length->∃a,us[i]? = some (.ref a)/\fJ (gU prog w) h (rs.getD i []) a
 | _,_,.cons e c d i t,0,_=>⟨_,rfl,_,_,_,e,c,d,tkI i⟩
 | _,_,.cons e c d i t,k+1,hk=>by
  obtain⟨a,e1,e2⟩:=t.key (prog:=prog) (w:=w) k (by simpa using hk)
  exact⟨a,by simpa using e1,by simpa using e2⟩
def avk(a:aY)(n:Nat):fD->Prop:=fun h=>∃es ep t,h.get? a=some (Stt.setO es ep t)/\t.fits es.size=true/\es.size=n
def az3(K:Fg9):List V->Hp->VK->Prop:=fun vs H Q=>∃(p:aY) (ws:List V) (rows:LL9) (F:Hp),vs=[.ref p]/\H p=some (.lst ws)/\IsL K F (rows.map rowT) ws/\Same F H/\(∀r∈rows,r∈Stt.prs)/\rows.length<=75/\∀a,H a=none->Q (.ref a) (upd H a (.ext (avk a (rows.foldl Stt.addL []).length)))
def adr:aG->aY
 | .ref a=>a
 | _=>0
theorem ar6(hc:X.calm=true)(hu:X.A.units+64 < cLine):adf X (.type "set") (az3 X.K):=by
 intro jv s σ H xs us Q I r z9;obtain⟨p,ws,rows,F,hv,hp,hl,sm,hd,hz,q⟩:=z9;subst hv;obtain⟨u,rfl,ru⟩:=vals1 r;cases ru;obtain⟨its,rv,pl,_⟩:=I.list (SqL.of hp);have T:=zq I sm hl rv;have tl:=T.len;have er:(aR its.toArray.size).map (fun i=>rows.getD i [])=rows:=by
  rw[aL,tl];apply pK
  ·simp
  ·intro i h1 h2;simp[aP,h2]
 have hkey:∀i,i < its.toArray.size->∃a,its[i]? = some (.ref a)/\fJ (gU X.prog X.w) s.heap (rows.getD i []) a:=fun i hi=>T.key i (by rw[<-tl];simpa using hi)
 refine Stt.azz (I.ok.hd hc) (ks:=fun i=>rows.getD i []) (ad:=fun i=>adr (its.getD i .none)) (by omega) pl.isList (fun i v e =>?_) (fun i hi =>?_) (fun i hi =>?_) (by rw[aL,tl];exact hz) fun h' tk es ep t ho ft hsz hk =>?_
 ·have e:its[i]? = some v:=by simpa using e
  obtain⟨a,e1,_⟩:=hkey i (by simpa using (aM.mp e).1)
  rw[e] at e1;cases e1;show _=cP (adr (its.getD i .none));rw[aP,e];rfl
 ·obtain⟨a,e1,e2⟩:=hkey i hi;rw[aP (l:=its),e1];exact e2
 ·have hi':i < rows.length:=by rw[<-tl];simpa using hi
  rw[aP,aC hi'];exact hd _ (cY hi')
 ·have hn:H s.heap.objs.size=none:=I.hok.fresh (aO _);rw[er] at hsz;refine⟨.ref s.heap.objs.size,_,I.laid hk (aO _) ?_,rfl,q _ hn⟩;exact⟨⟨es,ep,t,ho,ft,hsz⟩,⟨_,ho⟩,fun h1 h2 ⟨es,ep,t,z,g,zz⟩ k=>⟨es,ep,t,k _ z,g,zz⟩⟩
def az4:List V->Hp->VK->Prop:=fun vs H Q=>∃a n,vs=[.ref a]/\H a=some (.ext (avk a n))/\n < 4000/\Q (.int (n:Int)) H
theorem au9:adf X (.builtin "len") az4:=by
 intro jv s σ H xs us Q I r z9;obtain⟨a,n,hv,ha,hz,q⟩:=z9;subst hv;obtain⟨u,rfl,ru⟩:=vals1 r;cases ru;obtain⟨⟨es,ep,t,ho,g,hsz⟩,_⟩:=I.hok a _ ha;refine call_len_set ho ⟨rfl,rfl,rfl⟩ rfl g (by omega) ?_
 rw[hsz];exact⟨.int _,H,I.tok _,⟨_,rfl⟩,q⟩
def gLP:D->Option Rv
 | .lst l=>(wg l).bind fun rows=>if (decide (rows.length<=75)&&rows.all (fun r=>decide (r∈Stt.prs)))=true then some (.v (.int ((rows.foldl Stt.addL []).length:Int))) else none
 | _=>none
theorem aor{x y:Str}{m:M (List D)}{pp qq:Pos}{ppos:Pos}(hc:X.calm=true)(hu:X.A.units+64 < cLine)(hg1:Gl X x)(hm1:X.mg x=none)(hv1:bT x=some (.builtin "len"))(hg2:Gl X y)(hm2:X.mg y=none)(hv2:bT y=some (.type "set"))
  (ha:EA K X [e] m) (hn1:x ≠ "__name__" := by decide) (hdb1:(x==("__debug__" : Str))=false:=by decide) (hn2:y ≠ "__name__" := by decide) (hdb2:(y==("__debug__" : Str))=false:=by decide)
  (he:aX [e] X.env=[(false,eval e X.env)]:=by rfl) (he2:aX [.Call (.Name y qq) [e] [] ppos] X.env=[(false,eval (.Call (.Name y qq) [e] [] ppos) X.env)]:=by rfl) :
  ER K X (.Call (.Name x pp) [.Call (.Name y qq) [e] [] ppos] [] pos) (fu (g1 gLP) m):=ER.mk fun hk=>PE.imp (adp au9 hg1 hm1 hv1 (uh (ajl (ar6 hc hu) hg2 hm2 hv2 (ha hk) hn2 hdb2 he rfl) aex he2) hn1 hdb1 he2 rfl) fun σ H Q z9=>by
 obtain⟨tg,F,ρ,r,ρ',G,em,q⟩:=z9;obtain⟨ds,ρ1,e1,em⟩:=bc em;obtain⟨e2,rfl⟩:=gn em;refine⟨tg,F,ρ,ds,_,G,e1,fun vs H1 F1 G1 x1 bl =>?_⟩
 cases ds with
 | nil=>cases e2
 | cons d tl =>
  cases tl with
  | cons _ _=>cases e2
  | nil =>
   cases d with
   | lst l =>
    have e2:(wg l).bind (fun rows=>if (decide (rows.length<=75)&&rows.all (fun r=>decide (r∈Stt.prs)))=true then some (Rv.v (.int ((rows.foldl Stt.addL []).length:Int))) else none)=some r:=e2
    cases ei:wg l with
    | none=>rw[ei] at e2;cases e2
    | some rows =>
     rw[ei,eF] at e2;split at e2
     ·rename_i hc2;simp only[aV,decide_eq_true_eq,bA] at hc2;cases e2;obtain⟨v,rfl,bv⟩:=bl.one;obtain⟨p,ws,rfl,ea,hl⟩:=bv.lst G1.sub;rw[adm ei] at hl;refine⟨p,ws,rows,F1,rfl,ea,by rw[hk];exact hl,G1.sub,hc2.2,hc2.1,fun a hna =>?_⟩
      show az4 _ _ _;refine⟨a,_,rfl,gk,?_,?_⟩
      ·have:=Stt.afl rows [];have h0:([]:LL9).length=0:=rfl;omega
      have G2:=G1.fresh hna (.ext (avk a (rows.foldl Stt.addL []).length));have X2:=G1.freshX hna (.ext (avk a (rows.foldl Stt.addL []).length));exact Res.same G2 (fun v H3 F3 G3 x3 rr=>q v H3 F3 G3 ((x1.trans X2).trans x3) (nq (x1.trans X2) rr)) (.int _)
     ·cases e2
   | _=>cases e2
theorem auo{rows:LL9}(h:rows.length<=75)(hd:∀r∈rows,r∈Stt.prs):gLP (.lst (rows.map rowT))=some (.v (.int ((rows.foldl Stt.addL []).length:Int))):=by
 show(wg (rows.map rowT)).bind _=_;rw[qd,eF,if_pos];simp only[aV,decide_eq_true_eq,bA];exact⟨h,hd⟩
end
section
variable{K:Fg9}{X:Cx}{e a c:dZ}{pos:Pos}{ss ss':List iY}
structure XT (K:Fg9) (X:Cx) (e:dZ) (m:M Bool):Prop where
 go:XGo K X Bool (isTrue e X.env (eval e X.env)) (exE m)
theorem azh{m:M D}(h:XE K X e m)(he:∀whole,isTrue e X.env whole=(do let v <-whole;standAt e.pos;oO [v] (truthy v)):=by intro _;rfl):XT K X e (yc m):=⟨fun hk hn jv s σ H tg F ρ x ρ' I G em=>by
 rcases uv (ju.mp em) with em | ⟨d,ρ1,_,em⟩
 ·exact isTrue_plain (bC (h.go hk hn jv s σ H tg F ρ x ρ' I G (ju.mpr em)) (fun _ _ z=>z.elim) fun _ _ z=>z) (he _)
 ·unfold lift at em;split at em <;> cases em⟩
theorem azi{m:M Bool}(h:XT K X a m):XT K X (.UnaryOp .Not a pos) (zy m):=⟨fun hk hn jv s σ H tg F ρ x ρ' I G em=>by
 rcases uv (ju.mp em) with em | ⟨d,ρ1,_,em⟩
 ·exact isTrue_not (bC (h.go hk hn jv s σ H tg F ρ x ρ' I G (ju.mpr em)) (fun _ _ z=>z.elim) fun _ _ z=>z)
 ·cases em⟩
theorem azk{m:M Bool}{g k:Sd}(h:ET K X c m)(hx:XT K X c m)(h1:XSs K X ss g)(h2:XSs K X ss' k):XS K X (.If c ss ss' pos) (dIf m g k):=⟨fun hk hn jv s σ H tg F ρ x ρ' I G em=>by
 rcases anl (qw.mp em) with em | ⟨z,ρ1,e1,em⟩
 ·exact wpAny_If (bC (hx.go hk hn jv s σ H tg F ρ x ρ' I G (ju.mpr em)) (fun _ _ z=>z.elim) fun _ _ z=>z)
 ·refine wpAny_If (bC (h.go hk jv s σ H (fun b H1=>b=z/\∃F1,Good K tg F1 H1 ρ1 σ/\Ext (Own ρ σ) (Own ρ1 σ) F H F1 H1) I ⟨tg,F,ρ,z,ρ1,G,e1,fun H' F' G' x=>⟨rfl,F',G',x⟩⟩) (fun d s1 ⟨H1,I1,hz,F1,G1,x1⟩ =>?_) fun e s1 q=>by rw[hn] at q;exact q.elim)
  subst hz;cases d with
  | true=>exact bC (h1.go hk hn jv s1 σ H1 tg F1 ρ1 x ρ' I1 G1 (qw.mpr em)) (fun _ _ z=>z.elim) fun _ _ z=>z.back x1
  | false=>exact bC (h2.go hk hn jv s1 σ H1 tg F1 ρ1 x ρ' I1 G1 (qw.mpr em)) (fun _ _ z=>z.elim) fun _ _ z=>z.back x1⟩
end
end Dn
end
namespace Dn
open PySem L2
@[simp] abbrev gL9(d:D):Option Rv:=(itemsD d).map fun l=>.v (.int l.length)
@[simp] abbrev gT9(d:D):Option Rv:=(itemsD d).map fun l=>.v (.tup l)
end Dn
namespace My
open PySem L2 Mn Dn
def NS:List Str:=["ArrowError","NoArrows","NoRoom","NoWalkers","NotShut","NeverBack","NoTour","NoRow","NoHouse","NotOpen","Nobody","NoText","TooGreat"]
def ahc:Sd :=
 (dRet (M.v (mAnd (mIsi .int (dj 0)) (mUn gNot (mIsi .bool (dj 0))))))
def aac:Fd:=fnD 1 1 ahc
def aab:Sd :=
 (dRet (M.v (mAnd (M.d (mFn aac [some 0] (dq 0 gm))) (ajz (fun i j=>decide (i<=j)) (fun i j=>decide (i<=j)) (mVar 1) (mVar 0) (mVar 2)))))
def jl:Fd:=fnD 3 3 aab
def ul:Sd :=
 (dRet (M.v (mAnd (mIsi .tuple (dj 0)) (ajz (fun i j=>decide (i<=j)) (fun i j=>decide (i<=j)) (mVar 1) (M.d (fu (g1 gL9) (gw 0 mNil))) (mVar 2)))))
def jm:Fd:=fnD 3 3 ul
def abe:Sd :=
 (dRet (mFn jl [none,none,none] (b8 (mVar 1) (b8 (ret (.int 0)) (b8 (M.d (mOp (gInt fSub) (dz (M.d (fu (g1 gL9) (gw 0 mNil))) (ret (.int 1))))) gm)))))
def jw:Fd:=fnD 2 2 abe
def abd:Sd :=
 (dIf (zy (yc (M.d (mFn jw [some 0,none] (dq 0 (b8 (mVar 1) gm)))))) (agm ⟨"NoRoom", []⟩) dNx)
def lu:Fd:=fnD 2 2 abd
def xm:Sd :=
 (dIf (aql (mz (gCmp fun i j=>decide (j<=i)) (bz 5 (ret (.int 0)))) (mz (gIn true) (bz 5 (dj 2)))) (aer (M.v (mMut 2 aau (ak (mVar 5) mNil)))) dNx)
def zu:M Bool :=
 (mz (gCmp fun i j=>decide (i < j)) (bz 3 (M.d (fu (g1 gL9) (gw 2 mNil)))))
def ab7:Sd :=
 (dSeq (dSet 4 (mOp gIx (bz 0 (M.d (mOp gIx (bz 2 (dj 3))))))) (dSeq (dFor (j6 (mVar 4)) (bj 5) xm) (dAug (fun i j=>i+j) 3 (ret (.int 1)))))
def aj6:Sd :=
 (dSeq (aer (mFn lu [some 0,none] (dq 0 (b8 (mVar 1) gm)))) (dSeq (dSet 2 (mLst (ak (mVar 1) mNil))) (dSeq (dSet 3 (M.v (ret (.int 0)))) (dSeq (whileD zu ab7 fuel) (dRet (fu (g1 gT9) (ak (M.d (fu (g1 acd) (gw 2 mNil))) mNil)))))))
def aae:Fd:=fnD 6 2 aj6
def ace:M D :=
 (M.d (mOp (gCmp fun i j=>decide (j<=i)) (dz (M.d (fu (g1 ayf) (gw 0 mNil))) (ret (.int 0)))))
def aj5:Sd :=
 (dRet (fu (g1 gAll) (ak (M.d (rm [none] (j6 (mVar 0)) (bj 0) (ret true) ace)) mNil)))
def abz:Fd:=fnD 1 1 aj5
def ab0:M D :=
 (M.d (mOp (gEq false) (dz (M.d (fu (g1 gL9) (ak (M.d (mFn aae [some 1,some 0] (dq 1 (dq 0 gm)))) mNil))) (M.d (fu (g1 gL9) (gw 1 mNil))))))
def agd:Sd :=
 (dRet (fu (g1 gAll) (ak (M.d (rm [none,some 0] (mGet jr (ak (M.d (fu (g1 gL9) (gw 0 mNil))) mNil)) (bj 0) (ret true) ab0)) mNil)))
def yj:Fd:=fnD 1 1 agd
def adb:M D :=
 (ag8 0 (ak (mVar 1) mNil))
def ahd:Sd :=
 (dRet (fu (g1 gSum) (ak (M.d (rm [none,some 1] (j6 (mVar 0)) (bj 0) (ret true) adb)) mNil)))
def aad:Fd:=fnD 2 2 ahd
def zc:M D :=
 (M.d (mOp (gEq false) (dz (M.d (mFn aad [some 2,some 0] (dq 2 (dq 0 gm)))) (M.d (fu (g1 gL9) (gw 1 mNil))))))
def aaq:Sd :=
 (dSeq (dIf (zy (yc (M.d (mFn abz [none] (b8 (mVar 0) gm))))) (dRet (M.v (ret (.bl false)))) dNx) (dRet (fu (g1 gAll) (ak (M.d (rm [none,none,some 0] (mGet alx (ak (mVar 0) mNil)) (bTup 2 (jc (bj 0) (jc (bj 1) bNil))) (ret true) zc)) mNil))))
def pq:Fd:=fnD 1 1 aaq
def aaz:M D :=
 (M.d (fu (g1 gL9) (gw 0 mNil)))
def ae2:Sd :=
 (dRet (fu (g1 gSum) (ak (M.d (rm [none] (j6 (mVar 0)) (bj 0) (ret true) aaz)) mNil)))
def u6:Fd:=fnD 1 1 ae2
def yh:Sd :=
 (dIf (okS (mOrB (zy (yc (M.d (mFn pq [none] (b8 (mVar 0) gm))))) (zy (yc (M.d (mFn yj [some 0] (dq 0 gm))))))) (agm ⟨"NoTour", []⟩) dNx)
def du:Fd:=fnD 1 1 yh
def j9:Sd :=
 (dSeq (dIf (mOrB (zy (yc (M.d (mFn jm [some 1,none,none] (dq 1 (b8 (ret (.int 2)) (b8 (ret (.int 2)) gm))))))) (zy (yc (M.d (mFn jw [some 0,none] (dq 0 (b8 (M.d (mOp gIx (bz 1 (ret (.int 0))))) gm))))))) (dRet (M.v (ret (.bl false)))) dNx) (dRet (mFn jl [none,none,none] (b8 (M.d (mOp gIx (bz 1 (ret (.int 1))))) (b8 (ret (.int 0)) (b8 (M.d (mOp (gInt fSub) (dz (M.d (fu (g1 gL9) (ak (M.d (mOp gIx (bz 0 (M.d (mOp gIx (bz 1 (ret (.int 0)))))))) mNil))) (ret (.int 1))))) gm))))))
def iu:Fd:=fnD 2 2 j9
def vq:M D :=
 (M.d (mFn iu [some 1,some 0] (dq 1 (dq 0 gm))))
def qu:M D :=
 (M.d (mOp (gEq false) (dz (M.d (mOp gIx (dz (M.d (mOp gIx (bz 2 (M.d (mOp gIx (bz 0 (ret (.int 0)))))))) (M.d (mOp gIx (bz 0 (ret (.int 1)))))))) (M.d (mOp gIx (bz 1 (ret (.int 0))))))))
def j8:Sd :=
 (dSeq (dIf (mOrB (zy (yc (mIsi .list (dj 1)))) (mz (gEq true) (dz (M.d (fu (g1 gL9) (gw 1 mNil))) (M.d (mFn u6 [none] (b8 (mVar 0) gm)))))) (dRet (M.v (ret (.bl false)))) dNx) (dSeq (dIf (zy (yc (M.d (fu (g1 gAll) (ak (M.d (rm [none,some 0] (j6 (mVar 1)) (bj 0) (ret true) vq)) mNil))))) (dRet (M.v (ret (.bl false)))) dNx) (dSeq (dIf (mz (gEq true) (dz (M.d (fu (g1 gLP) (gw 1 mNil))) (M.d (fu (g1 gL9) (gw 1 mNil))))) (dRet (M.v (ret (.bl false)))) dNx) (dSeq (dSet 2 (mOp gAdd (dz (M.d (ael 1 (adx (mUn gNeg (ret (.int 1)))) (ret none))) (M.d (ael 1 (ret none) (adx (mUn gNeg (ret (.int 1))))))))) (dRet (fu (g1 gAll) (ak (M.d (rm [none,none,some 0] (mGet ayd (ak (mVar 2) (ak (mVar 1) mNil))) (bTup 2 (jc (bj 0) (jc (bj 1) bNil))) (ret true) qu)) mNil)))))))
def dh:Fd:=fnD 3 2 j8
def agc:Sd :=
 (dSeq (aer (mFn du [none] (b8 (okS (mVar 0)) gm))) (dOk (dRet (mFn dh [none,none] (b8 (mVar 0) (b8 (mVar 1) gm))))))
def su:Fd:=fnD 2 2 agc
def aa4:M Bool :=
 (mz (gEq false) (dz (M.d (mOp gIx (bz 0 (ret (.int 0))))) (dj 1)))
def aa0:M D :=
 (M.d (mOp gIx (dz (M.d (mOp gIx (bz 2 (dj 1)))) (M.d (mOp gIx (bz 0 (ret (.int 1))))))))
def ye:Sd :=
 (aer (M.v (mMut 2 aau (ak (M.d (fu (g1 gT9) (ak (M.d (rm [none,some 3,some 0] (j6 (mVar 1)) (bj 0) aa4 aa0)) mNil))) mNil))))
def aca:Sd :=
 (dSeq (dIf (zy (yc (M.d (mFn su [none,none] (b8 (okS (mVar 0)) (b8 (okS (mVar 1)) gm)))))) (agm ⟨"NoTour", []⟩) dNx) (dSeq (dOk (dSet 2 (mLst mNil))) (dSeq (dOk (dFor (mGet jr (ak (M.d (fu (g1 gL9) (gw 0 mNil))) mNil)) (bj 3) ye)) (dOk (dRet (fu (g1 gT9) (gw 2 mNil)))))))
def mq:Fd:=fnD 4 2 aca
def ac8:Sd :=
 (dSeq (dIf (mz (gCmp fun i j=>decide (i < j)) (bz 1 (M.d (fu (g1 gL9) (gw 0 mNil))))) (dRet (mOp gIx (bz 0 (dj 1)))) dNx) (dRet (M.v (ret (.int 0)))))
def f__law_cell:Fd:=fnD 2 2 ac8
def ahe:Sd :=
 (dSeq (dSet 1 (fu (g2 (gInt fun i j=>some (if j > i then j else i))) (gw 0 (ak (M.d (mOp (gInt fSub) (dz (ret (.int 0)) (dj 0)))) mNil)))) (dRet (mLst (ak (mVar 1) (ak (M.d (fu (g1 aup) (ak (M.d (mOp (gCmp fun i j=>decide (j<=i)) (bz 1 (M.d (mOp (gInt fPow) (dz (ret (.int 10)) (ret (.int 18)))))))) mNil))) mNil)))))
def f__law_pen:Fd:=fnD 2 1 ahe
def ac7:Sd :=
 (dSeq (dIf (mz (gEq false) (dz (M.d (mOp gIx (bz 0 (ret (.int 1))))) (ret (.int 1)))) (dSeq (dAsg (M.d (fu (g2 aio) (ak (M.d (mOp gIx (bz 0 (ret (.int 0))))) (gw 1 mNil)))) (bTup 2 (jc (bj 2) (jc (bj 3) bNil)))) (dSeq (dSub 0 (ret (.int 0)) (mVar 2)) (dRet (aqj 3)))) dNx) (dSeq (dSet 4 (mOp (gInt fMod) (dz (M.d (mOp gMul (dz (M.d (mOp gAdd (dz (M.d (mOp (gInt fMod) (dz (M.d (mOp gIx (bz 0 (ret (.int 0))))) (ret (.int 2147483647))))) (ret (.int 40503))))) (ret (.int 69621))))) (ret (.int 2147483629))))) (dSeq (dSet 4 (mOp (gInt fMod) (dz (M.d (mOp gAdd (dz (M.d (mOp gMul (bz 4 (dj 4)))) (ret (.int 7817))))) (ret (.int 2147483587))))) (dSeq (dSub 0 (ret (.int 0)) (M.d (mOp (gInt fMod) (dz (M.d (mOp gAdd (dz (M.d (mOp gMul (bz 4 (ret (.int 48271))))) (ret (.int 11))))) (ret (.int 2147483629)))))) (dRet (mOp (gInt fMod) (dz (M.d (mOp (gInt fDiv) (dz (M.d (mOp gIx (bz 0 (ret (.int 0))))) (ret (.int 32))))) (dj 1))))))))
def f__law_draw:Fd:=fnD 5 2 ac7
def ae3:Sd :=
 (dRet (M.v (mAnd (mIsi .int (dj 0)) (mUn gNot (mIsi .bool (dj 0))))))
def qz:Fd:=fnD 1 1 ae3
def ahf:Sd :=
 (dSeq (dSet 1 (mLst (ak (ret .non) (ak (ret (.bl true)) (ak (ret (.bl false)) (ak (mUn gNeg (ret (.int 1))) (ak (ret (.str "1")) (ak (ret (.str "")) (ak (mTup mNil) (ak (M.d (mLst mNil)) (ak (mTup (ak (ret (.int 0)) mNil)) (ak (M.d (mLst (ak (ret (.int 0)) mNil))) (ak (ret (.dct [(mV "a", .int 1)])) (ak (mTup (ak (ret (.int 0)) (ak (ret (.int 1)) mNil))) (ak (M.d (mOp (gInt fPow) (dz (ret (.int 10)) (ret (.int 30))))) (ak (mTup (ak (mTup (ak (ret (.int 0)) mNil)) mNil)) (ak (ret (.str "ab")) mNil))))))))))))))))) (dRet (mOp gIx (dz (M.d (mOp gAdd (bz 1 (M.d (mLst (ak (mTup (ak (mTup (ak (mUn gNeg (ret (.int 1))) mNil)) (ak (mTup (ak (ret (.int 0)) (ak (ret (.int 1)) mNil))) mNil))) mNil)))))) (M.d (mFn f__law_draw [some 0,none] (dq 0 (b8 (ret (.int 16)) gm))))))))
def f__law_odd:Fd:=fnD 2 1 ahf
def aa1:M D :=
 (M.d (mFn f__law_draw [some 1,none] (dq 1 (b8 (M.d (fu (g1 gL9) (gw 0 mNil))) gm))))
def ae4:Sd :=
 (dRet (fu (g1 gT9) (ak (M.d (rm [none,some 0] (j6 (mVar 1)) (bj 0) (ret true) aa1)) mNil)))
def f__law_drawn:Fd:=fnD 2 2 ae4
def alu:Sd :=
 (dSeq (dSet 1 (mLst (ak (mIsC NS "NoArrows" (dj 0)) (ak (mIsC NS "NoRoom" (dj 0)) (ak (mIsC NS "NoWalkers" (dj 0)) (ak (mIsC NS "NotShut" (dj 0)) mNil)))))) (dSeq (dSet 1 (mOp gAdd (bz 1 (M.d (mLst (ak (mIsC NS "NeverBack" (dj 0)) (ak (mIsC NS "NoTour" (dj 0)) (ak (mIsC NS "NoRow" (dj 0)) (ak (mIsC NS "NoHouse" (dj 0)) mNil))))))))) (dSeq (dSet 1 (mOp gAdd (bz 1 (M.d (mLst (ak (mIsC NS "NotOpen" (dj 0)) (ak (mIsC NS "Nobody" (dj 0)) (ak (mIsC NS "NoText" (dj 0)) (ak (mIsC NS "TooGreat" (dj 0)) mNil))))))))) (dSeq (dIf (mOrB (zy (yc (mIsC NS "ValueError" (dj 0)))) (mz (gEq true) (dz (ag8 1 (ak (ret (.bl true)) mNil)) (ret (.int 1))))) (dRet (M.v (ret (.str "other")))) dNx) (dSeq (dSet 2 (mLst (ak (ret (.str "arrows")) (ak (ret (.str "room")) (ak (ret (.str "walkers")) (ak (ret (.str "shut")) (ak (ret (.str "never")) (ak (ret (.str "tour")) (ak (ret (.str "row")) (ak (ret (.str "house")) (ak (ret (.str "open")) (ak (ret (.str "nobody")) mNil)))))))))))) (dRet (mOp gIx (dz (M.d (mOp gAdd (bz 2 (M.d (mLst (ak (ret (.str "text")) (ak (ret (.str "great")) mNil))))))) (ax3 1 aq7 (ak (ret (.bl true)) mNil))))))))))
def aaw:Fd:=fnD 3 1 alu
def mj:Sd :=
 (aer (M.v (mMut 4 ac9 (ak (M.d (mFn f__law_draw [some 0,none] (dq 0 (b8 (M.d (mOp gAdd (bz 5 (ret (.int 1))))) gm)))) (ak (mVar 5) mNil)))))
def qi:Sd :=
 (aer (M.v (alm (mRow 6 10 (mVar 5)) aau (ak (M.d (mOp gIx (bz 4 (M.d (mOp (gInt fSub) (bz 7 (ret (.int 1)))))))) mNil))))
def jz:Sd :=
 (dIf (aql (mz (gCmp fun i j=>decide (i < j)) (dz (M.d (fu (g1 gL9) (mOne (mPtB (mRow 6 10 (mVar 5)))))) (ret (.int 6)))) (mz (gEq false) (dz (M.d (mFn f__law_draw [some 0,none] (dq 0 (b8 (ret (.int 2)) gm)))) (ret (.int 0))))) (aer (M.v (mMut 9 ac9 (ak (M.d (mFn f__law_draw [some 0,none] (dq 0 (b8 (M.d (mOp gAdd (dz (M.d (fu (g1 gL9) (gw 9 mNil))) (ret (.int 1))))) gm)))) (ak (mVar 5) mNil))))) dNx)
def ur:Sd :=
 (aer (M.v (alm (mRow 6 10 (mVar 5)) ac9 (ak (M.d (mFn f__law_draw [some 0,none] (dq 0 (b8 (M.d (mOp gAdd (dz (M.d (fu (g1 gL9) (mOne (mPtB (mRow 6 10 (mVar 5)))))) (ret (.int 1))))) gm)))) (ak (M.d (mOp gIx (bz 9 (M.d (mOp (gInt fSub) (bz 7 (ret (.int 1)))))))) mNil)))))
def qg:Sd :=
 (dSeq (dSet 9 (mLst mNil)) (dSeq (dFor (mGet jr (ak (mVar 3) mNil)) (bj 5) jz) (dFor (mGet alx (ak (mVar 9) mNil)) (bTup 2 (jc (bj 7) (jc (bj 5) bNil))) ur)))
def qt:M D :=
 (M.d (fu (g1 gT9) (gw 0 mNil)))
def qe:M Rv :=
 (mLst mNil)
def aas:Sd :=
 (dSeq (dSet 3 (mOp gAdd (dz (ret (.int 1)) (M.d (mFn f__law_draw [some 0,some 1] (dq 0 (dq 1 gm))))))) (dSeq (dSet 4 (mLst mNil)) (dSeq (dFor (mGet jr (ak (mVar 3) mNil)) (bj 5) mj) (dLol 6 [10,11,12,13,14,15] [6,10,11,12,13,14,15] (ag9 [none] (mGet jr (ak (mVar 3) mNil)) (bj 0) qe) (dSeq (dFor (mGet alx (ak (mVar 4) mNil)) (bTup 2 (jc (bj 7) (jc (bj 5) bNil))) qi) (dSeq (dFor (mGet jr (ak (M.d (mFn f__law_draw [some 0,none] (dq 0 (b8 (M.d (mOp gAdd (bz 2 (ret (.int 1))))) gm)))) mNil)) (bj 8) qg) (dFrz 6 10 (dRet (fu (g1 gT9) (ak (M.d (rm [none] (j6 (mVar 6)) (bj 0) (ret true) qt)) mNil))))))))))
def f__law_rounds:Fd:=fnD 16 3 aas
def yu:Sd :=
 (dSeq (aer (M.v (mMut 5 aau (ak (mTup (ak (mVar 2) (ak (M.d (mOp gIx (bz 4 (dj 2)))) mNil))) mNil)))) (dSeq (dSet 7 (mOp gIx (dz (M.d (mOp gIx (bz 0 (dj 2)))) (M.d (mOp gIx (bz 4 (dj 2))))))) (dSeq (dSub 4 (mVar 2) (M.d (mOp (gInt fMod) (dz (M.d (mOp gAdd (dz (M.d (mOp gIx (bz 4 (dj 2)))) (ret (.int 1))))) (M.d (fu (g1 gL9) (ak (M.d (mOp gIx (bz 0 (dj 2)))) mNil))))))) (dSet 2 (M.v (mVar 7))))))
def age:Sd :=
 (dSeq (dSet 4 (fu (g1 fun d=>(itemsD d).map fun l=>.fr l) (gw 1 mNil))) (dSeq (dSet 5 (mLst mNil)) (dSeq (dFor (mGet jr (ak (mVar 3) mNil)) (bj 6) yu) (dRet (M.v (mTup (ak (mVar 5) (ak (M.d (fu (g1 gT9) (gw 4 mNil))) (ak (mVar 2) mNil)))))))))
def je:Fd:=fnD 8 4 age
def aa2:M D :=
 (mTup (ak (mVar 1) (ak (mVar 0) mNil)))
def wj:Sd :=
 (dSet 1 (mOp gAdd (bz 1 (M.d (rm [none,some 2] (mGet jr (ak (M.d (fu (g1 gL9) (gw 3 mNil))) mNil)) (bj 0) (ret true) aa2)))))
def ae5:Sd :=
 (dSeq (dSet 1 (mLst mNil)) (dSeq (dFor (mGet alx (ak (mVar 0) mNil)) (bTup 2 (jc (bj 2) (jc (bj 3) bNil))) wj) (dRet (aqj 1))))
def nu:Fd:=fnD 4 1 ae5
def yo:M D :=
 (M.d (mFn qz [some 0] (dq 0 gm)))
def ir:Sd :=
 (dIf (mOrB (zy (yc (mIsi .tuple (dj 2)))) (mOrB (mz (gEq true) (dz (M.d (fu (g1 gL9) (gw 2 mNil))) (ret (.int 2)))) (zy (yc (M.d (fu (g1 gAll) (ak (M.d (rm [none] (j6 (mVar 2)) (bj 0) (ret true) yo)) mNil))))))) (dRet (M.v (ret (.bl false)))) dNx)
def tu:M D :=
 (M.d (mOp gIx (dz (M.d (mOp gIx (bz 2 (dj 0)))) (dj 1))))
def ym:M D :=
 (mVar 0)
def qj:Sd :=
 (dSeq (dIf (zy (yc (mIsi .list (dj 1)))) (dRet (M.v (ret (.bl false)))) dNx) (dSeq (dFor (j6 (mVar 1)) (bj 2) ir) (dSeq (dIf (mz (gEq true) (dz (M.d (fu (g1 acb) (gw 1 mNil))) (M.d (mFn nu [none] (b8 (mVar 0) gm))))) (dRet (M.v (ret (.bl false)))) dNx) (dSeq (dSet 3 (rm [none,none,some 0] (j6 (mVar 1)) (bTup 2 (jc (bj 0) (jc (bj 1) bNil))) (ret true) tu)) (dRet (mOp (gEq false) (dz (M.d (mOp gAdd (dz (M.d (ael 3 (adx (mUn gNeg (ret (.int 1)))) (ret none))) (M.d (ael 3 (ret none) (adx (mUn gNeg (ret (.int 1))))))))) (M.d (rm [none,none] (j6 (mVar 1)) (bTup 2 (jc (bj 0) (jc (bj 1) bNil))) (ret true) ym)))))))))
def gj:Fd:=fnD 4 2 qj
def aby:Sd :=
 (dSeq (dSet 1 (mLst (ak (mTup (ak (mTup (ak (mUn gNeg (ret (.int 1))) mNil)) mNil)) (ak (mTup (ak (mTup (ak (ret (.int 0)) (ak (mUn gNeg (ret (.int 1))) mNil))) mNil)) (ak (mTup (ak (mTup (ak (ret (.int 0)) mNil)) (ak (mTup (ak (ret (.int 1)) mNil)) mNil))) (ak (mTup (ak (mTup (ak (ret (.int 1)) (ak (ret (.int 1)) mNil))) (ak (mTup (ak (ret (.int 0)) mNil)) mNil))) (ak (mTup (ak (mTup (ak (ret (.int 1)) mNil)) (ak (mTup (ak (ret (.int 1)) mNil)) mNil))) (ak (mTup (ak (mTup (ak (ret (.int 1)) (ak (ret (.int 0)) mNil))) (ak (mTup (ak (ret (.int 0)) (ak (ret (.int 0)) mNil))) mNil))) (ak (mTup (ak (mTup (ak (ret (.int 1)) mNil)) (ak (mTup (ak (ret (.int 0)) mNil)) (ak (mTup (ak (ret (.int 2)) mNil)) mNil)))) mNil))))))))) (dRet (mOp gIx (bz 1 (M.d (mFn f__law_draw [some 0,none] (dq 0 (b8 (ret (.int 7)) gm))))))))
def f__law_no_house:Fd:=fnD 2 1 aby
def acq:M D :=
 (M.d (fu (g1 gL9) (gw 0 mNil)))
def zb:M D :=
 (mTup (ak (mVar 1) (ak (mVar 0) mNil)))
def zm:M Bool :=
 (mz (gIn true) (bz 0 (dj 1)))
def ut:M D :=
 (M.d (mOp gAdd (bz 1 (M.d (mLst (ak (mVar 0) mNil))))))
def l1__law_trails:Sd :=
 (dSeq (dSet 5 (mOp gIx (dz (M.d (mOp gIx (bz 0 (M.d (mOp gIx (dz (M.d (mOp gIx (bz 4 (mUn gNeg (ret (.int 1)))))) (ret (.int 0)))))))) (M.d (mOp gIx (dz (M.d (mOp gIx (bz 4 (mUn gNeg (ret (.int 1)))))) (ret (.int 1)))))))) (dSeq (dSet 6 (rm [none,some 5] (mGet jr (ak (M.d (fu (g1 gL9) (ak (M.d (mOp gIx (bz 0 (dj 5)))) mNil))) mNil)) (bj 0) (ret true) zb)) (dSet 3 (mOp gAdd (bz 3 (M.d (rm [none,some 4] (j6 (mVar 6)) (bj 0) zm ut)))))))
def l2__law_trails:Sd :=
 (dSeq (dSet 3 (mLst mNil)) (dSeq (dFor (j6 (mVar 1)) (bj 4) l1__law_trails) (dSet 1 (M.v (mVar 3)))))
def zg:M Bool :=
 (mz (gEq false) (dz (M.d (mOp gIx (dz (M.d (mOp gIx (bz 1 (M.d (mOp gIx (dz (M.d (mOp gIx (bz 0 (mUn gNeg (ret (.int 1)))))) (ret (.int 0)))))))) (M.d (mOp gIx (dz (M.d (mOp gIx (bz 0 (mUn gNeg (ret (.int 1)))))) (ret (.int 1)))))))) (ret (.int 0))))
def za:M D :=
 (mVar 0)
def aar:Sd :=
 (dSeq (dSet 1 (mLst (ak (M.d (mLst (ak (mTup (ak (ret (.int 0)) (ak (ret (.int 0)) mNil))) mNil))) mNil))) (dSeq (dFor (mGet jr (ak (M.d (mOp (gInt fSub) (dz (M.d (fu (g1 gSum) (ak (M.d (rm [none] (j6 (mVar 0)) (bj 0) (ret true) acq)) mNil))) (ret (.int 1))))) mNil)) (bj 2) l2__law_trails) (dRet (rm [none,some 0] (j6 (mVar 1)) (bj 0) zg za))))
def sy:Fd:=fnD 7 1 aar
def ab1:M D :=
 (M.d (fu (g1 gL9) (gw 0 mNil)))
def ac5:Sd :=
 (dSeq (dSet 2 (fu (g1 gSum) (ak (M.d (rm [none] (j6 (mVar 1)) (bj 0) (ret true) ab1)) mNil))) (dSeq (dIf (aql (mz (gCmp fun i j=>decide (i<=j)) (bz 2 (ret (.int 9)))) (mz (gEq false) (dz (M.d (mFn f__law_draw [some 0,none] (dq 0 (b8 (ret (.int 2)) gm)))) (ret (.int 0))))) (dSeq (dSet 3 (mFn sy [none] (b8 (mVar 1) gm))) (dRet (mOp gIx (bz 3 (M.d (mFn f__law_draw [some 0,none] (dq 0 (b8 (M.d (fu (g1 gL9) (gw 3 mNil))) gm)))))))) dNx) (dSeq (dAsg (M.d (mFn je [some 1,none,none,none] (dq 1 (b8 (M.d (mFn f__law_drawn [some 0,none] (dq 0 (b8 (mVar 1) gm)))) (b8 (ret (.int 0)) (b8 (M.d (mOp gMul (dz (M.d (mOp gMul (dz (ret (.int 2)) (dj 2)))) (M.d (fu (g1 gL9) (gw 1 mNil)))))) gm)))))) (bTup 3 (jc (bj 4) (jc (bj 5) (jc (bj 6) bNil))))) (dRet (mOp gIx (dz (M.d (mFn je [some 1,some 5,none,none] (dq 1 (dq 5 (b8 (mVar 6) (b8 (mVar 2) gm)))))) (ret (.int 0))))))))
def um:Fd:=fnD 7 2 ac5
def ae1:Sd :=
 (dRet (M.v (mTup (ak (M.d (mFn aaw [some 2] (dq 2 gm))) (ak (ret .non) mNil)))))
def ac6:Sd :=
 (dTry NS (dRet (M.v (mTup (ak (okS (ret (.str "told"))) (ak (M.d (mFn mq [none,none] (b8 (okS (mVar 0)) (b8 (okS (mVar 1)) gm)))) mNil))))) 2 ae1)
def jf:Fd:=fnD 3 2 ac6
def w6:M Bool :=
 (mz (gEq false) (bz 0 (dj 3)))
def wy:M D :=
 (M.d (mOp gIx (dz (M.d (mOp gIx (bz 2 (dj 0)))) (dj 1))))
def sr:Sd :=
 (aer (M.v (mMut 3 aau (ak (M.d (fu (g1 gT9) (ak (M.d (rm [none,none,some 0,some 4] (j6 (mVar 1)) (bTup 2 (jc (bj 0) (jc (bj 1) bNil))) w6 wy)) mNil))) mNil))))
def aay:M D :=
 (M.d (mFn qz [some 0] (dq 0 gm)))
def wu:M D :=
 (mAnd (mIsi .tuple (dj 0)) (M.d (fu (g1 gAll) (ak (M.d (rm [none] (j6 (mVar 0)) (bj 0) (ret true) aay)) mNil))))
def g__law_right:Sd :=
 (dSeq (dIf (zy (yc (M.d (mFn gj [none,none] (b8 (mVar 0) (b8 (mVar 1) gm)))))) (dRet (mOp (gEq false) (dz (M.d (mFn jf [none,none] (b8 (mVar 0) (b8 (mVar 1) gm)))) (mTup (ak (ret (.str "tour")) (ak (ret .non) mNil)))))) dNx) (dSeq (dSet 2 (fu (g1 fun d=>(itemsD d).map fun l=>.fr l) (gw 1 mNil))) (dSeq (dSet 3 (mLst mNil)) (dSeq (dFor (mGet jr (ak (M.d (fu (g1 gL9) (gw 0 mNil))) mNil)) (bj 4) sr) (dSeq (dAsg (M.d (mFn jf [none,none] (b8 (mVar 0) (b8 (mVar 2) gm)))) (bTup 2 (jc (bj 5) (jc (bj 6) bNil)))) (dSeq (dIf (mOrB (mz (gEq true) (bz 5 (ret (.str "told")))) (mOrB (zy (yc (mIsi .tuple (dj 6)))) (mOrB (mz (gEq true) (bz 6 (M.d (fu (g1 gT9) (gw 3 mNil))))) (mz (gEq true) (bz 2 (dj 1)))))) (dRet (M.v (ret (.bl false)))) dNx) (dRet (fu (g1 gAll) (ak (M.d (rm [none] (j6 (mVar 6)) (bj 0) (ret true) wu)) mNil)))))))))
def jk:Fd:=fnD 7 2 g__law_right
def am4:Sd :=
 (dIf (zy (yc (M.d (mFn jk [none,none] (b8 (mTup (ak (mTup (ak (ret (.int 0)) mNil)) mNil)) (b8 (mVar 1) gm)))))) (dRet (M.v (ret (.bl false)))) dNx)
def aj2:Sd :=
 (dIf (zy (yc (M.d (mFn jk [none,none] (b8 (mVar 4) (b8 (mVar 7) gm)))))) (dRet (M.v (ret (.bl false)))) dNx)
def l3_law:Sd :=
 (dSeq (dSet 3 (mFn f__law_pen [some 2] (dq 2 gm))) (dSeq (dSet 4 (mFn f__law_rounds [some 3,none,none] (dq 3 (b8 (ret (.int 5)) (b8 (ret (.int 2)) gm))))) (dSeq (dSet 1 (mFn um [some 3,none] (dq 3 (b8 (mVar 4) gm)))) (dSeq (dSet 5 (mFn f__law_draw [some 3,none] (dq 3 (b8 (M.d (fu (g1 gL9) (gw 1 mNil))) gm)))) (dSeq (dSet 6 (mLst (ak (mVar 1) (ak (M.d (mOp gAdd (dz (M.d (ael 1 (adx (mVar 5)) (ret none))) (M.d (ael 1 (ret none) (adx (mVar 5))))))) (ak (M.d (mOp gAdd (dz (M.d (ael 1 (ret none) (adx (mVar 5)))) (M.d (ael 1 (adx (M.d (mOp gAdd (bz 5 (ret (.int 1)))))) (ret none)))))) (ak (M.d (fu (g1 gT9) (gw 1 mNil))) (ak (M.d (ax2 (mVar 1) (mUn gNeg (ret (.int 1))))) (ak (M.d (mFn f__law_odd [some 3] (dq 3 gm))) mNil)))))))) (dSeq (dFor (j6 (M.d (mOp gAdd (bz 6 (M.d (mLst (ak (M.d (mFn nu [none] (b8 (mVar 4) gm))) (ak (M.d (mOp gAdd (dz (M.d (mOp gAdd (dz (M.d (ael 1 (ret none) (adx (mVar 5)))) (M.d (mLst (ak (mTup (ak (M.d (mOp gIx (dz (M.d (mOp gIx (bz 1 (dj 5)))) (ret (.int 0))))) (ak (ret (.bl true)) mNil))) mNil)))))) (M.d (ael 1 (adx (M.d (mOp gAdd (bz 5 (ret (.int 1)))))) (ret none)))))) mNil)))))))) (bj 7) aj2) (dIf (mz (gEq true) (dz (M.d (mFn jf [none,none] (b8 (M.d (mFn f__law_no_house [some 3] (dq 3 gm))) (b8 (mVar 1) gm)))) (mTup (ak (ret (.str "tour")) (ak (ret .non) mNil))))) (dRet (M.v (ret (.bl false)))) dNx)))))))
def a2g:Sd :=
 (dSeq (dFor (j6 (M.d (mLst (ak (M.d (mLst (ak (mTup (ak (ret (.int 0)) (ak (ret (.int 0)) mNil))) mNil))) (ak (M.d (mLst (ak (mTup (ak (ret (.int 0)) (ak (ret (.bl false)) mNil))) mNil))) (ak (M.d (mLst mNil)) (ak (ret .non) (ak (M.d (mLst (ak (mTup (ak (ret (.int 0)) (ak (ret (.int 0)) mNil))) (ak (mTup (ak (ret (.int 0)) (ak (ret (.int 0)) mNil))) mNil)))) mNil)))))))) (bj 1) am4) (dSeq (dFor (j6 (M.d (mOp gAdd (dz (M.d (mLst (ak (M.d (mFn f__law_cell [some 0,none] (dq 0 (b8 (ret (.int 0)) gm)))) mNil))) (M.d (ael 0 (adx (ret (.int 1))) (adx (ret (.int 4))))))))) (bj 2) l3_law) (dRet (M.v (ret (.bl true))))))
def arh:Fd:=fnD 8 1 a2g
def aa5:D->Bool
 | .int _=>true
 | _=>false
def vf(a b:Int):D->Bool
 | .int i=>decide (a<=i)&&decide (i<=b)
 | _=>false
@[simp] theorem ax9(d:D):aac [.val d]=some (.ok (.v (.bl (aa5 d))),[.val d]):=by
 cases d <;> simp[aac,ahc,isTy,aa5]
@[simp] theorem adz(d:D)(a b:Int):jl [.val d,.val (.int a),.val (.int b)]=some (.ok (.v (.bl (vf a b d))),[.val d,.val (.int a),.val (.int b)]):=by
 cases d <;> simp[jl,aab,aa5,vf]
theorem arz(ns:List Int)(k:Int)(h:0<=k):∃n,f__law_cell [.val (.kst (ns.map D.int)),.val (.int k)]=some (.ok (.v (.int n)),[.val (.kst (ns.map D.int)),.val (.int k)]):=by
 by_cases hk:k < (ns.length:Int)
 ·have e:atI (ns.map D.int) k=some (.int (ns[k.toNat]'(by omega))):=by
   have h2:atI (ns.map D.int) ((k.toNat:Nat):Int)=some (.int (ns[k.toNat]'(by omega))):=agv (by simp[bK,aC (show k.toNat < ns.length by omega)])
   rw[show((k.toNat:Nat):Int)=k by omega] at h2
   exact h2
  exact⟨ns[k.toNat]'(by omega),by simp[f__law_cell,ac8,hk,e]⟩
 ·exact⟨0,by simp[f__law_cell,ac8,hk]⟩
def pen(P:Int×Int):List D:=[.int P.1,.int P.2]
theorem ato(n:Int):∃P,f__law_pen [.val (.int n)]=some (.ok (.fr (pen P)),[.val (.int n)]):=by
 refine⟨(if 0 - n > n then 0 - n else n,if 10 ^ 18<=(if 0 - n > n then 0 - n else n) then 1 else 0),?_⟩
 simp[f__law_pen,ahe,pen,fPow]
theorem lw(P:Int×Int)(m:Int)(h0:0 < m)(h1:m < 1000000000000000000000000000000000000000000000000000000000000):∃r P',f__law_draw [.own (some 0) (pen P),.val (.int m)]=some (.ok (.v (.int r)),[.own (some 0) (pen P'),.val (.int m)])/\0<=r/\r < m:=by
 obtain⟨a,b⟩:=P
 by_cases hb:b=1
 ·refine⟨a % m,(a / m,b),?_,tD _ (by omega),nO _ h0⟩
  simp[f__law_draw,ac7,pen,hb,h0,h1,atI,ixN]
 ·have z0:0<=(a % 2147483647+40503)*69621 % 2147483629:=tD _ (by decide)
  have z1:(a % 2147483647+40503)*69621 % 2147483629 < 2147483629:=nO _ (by decide)
  generalize hz:(a % 2147483647+40503)*69621 % 2147483629=z at z0 z1;have hm:fMul z z=some (z*z):=by
   unfold fMul;rw[if_pos (.inl ⟨by omega,by omega⟩)]
  refine⟨((z*z+7817) % 2147483587*48271+11) % 2147483629 / 32 % m,(((z*z+7817) % 2147483587*48271+11) % 2147483629,b),?_,tD _ (by omega),nO _ h0⟩
  have h69:∀x:Int,fMul x 69621=some (x*69621):=fun x=>by unfold fMul;rw[if_pos (.inr (by decide))]
  have h48:∀x:Int,fMul x 48271=some (x*48271):=fun x=>by unfold fMul;rw[if_pos (.inr (by decide))]
  simp[f__law_draw,ac7,pen,hb,h0,h1,atI,ixN,h69,h48,hm,fMod,fDiv,hz]
structure HouseOk (m w:Int) (qv:LL9):Prop where
 one:1<=qv.length
 most:(qv.length:Int)<=m
 room:∀r∈qv,1<=r.length/\(r.length:Int)<=w/\∀x∈r,-3<=x/\x < (qv.length:Int)
def hDs(qv:LL9):List D:=qv.map fun r=>D.tup (r.map D.int)
def hD(qv:LL9):D:=.tup (hDs qv)
@[simp] theorem aey(d:D):qz [.val d]=some (.ok (.v (.bl (aa5 d))),[.val d]):=by
 cases d <;> simp[qz,ae3,isTy,aa5]
structure Hs (qv:LL9):Prop where
 one:1<=qv.length
 most:qv.length<=10
 room:∀r∈qv,1<=r.length/\r.length<=6/\∀x∈r,-3<=x/\x < (qv.length:Int)
def dr(qv:LL9)(x:Int):List Int:=qv.getD x.toNat []
inductive Rch (qv:LL9) (a:Int):Int->Prop
 | base:Rch qv a a
 | step {x d:Int}:Rch qv a x->0<=x->d∈dr qv x->Rch qv a d
theorem yp{qv:LL9}{x:Int}(h0:0<=x)(h1:x < (qv.length:Int)):atI (hDs qv) x=some (.tup ((dr qv x).map D.int)):=by
 have hk:x.toNat < qv.length:=by omega
 have q:atI (hDs qv) ((x.toNat:Nat):Int)=some (.tup ((dr qv x).map D.int)):=agv (by simp[hDs,dr,aC hk])
 rw[show((x.toNat:Nat):Int)=x by omega] at q
 exact q
theorem Hs.dr{qv:LL9}(h:Hs qv){x:Int}(h0:0<=x)(h1:x < (qv.length:Int)):1<=(dr qv x).length/\(My.dr qv x).length<=6/\∀y∈My.dr qv x,-3<=y/\y < (qv.length:Int):=by
 have hk:x.toNat < qv.length:=by omega
 have e:My.dr qv x=qv[x.toNat]:=by simp[My.dr,hk]
 rw[e];exact h.room _ (cY hk)
theorem Rch.range{qv:LL9}(h:Hs qv){a x:Int}(ha:0<=a/\a < (qv.length:Int))(r:Rch qv a x) : -3<=x/\x < (qv.length:Int):=by
 induction r with
 | base=>omega
 | step r h0 hd ih=>exact(h.dr h0 ih.2).2.2 _ hd
theorem abv:∀(m:Nat) (l:List Int),l.Nodup->(∀x∈l,-3<=x/\x < (m:Int) - 3)->l.length<=m
 | 0,l,_,h=>by
  cases l with
  | nil=>simp
  | cons x r=>have:=h x (aN ..);omega
 | m+1,l,hn,h=>by
  have h1:(l.erase ((m:Int) - 3)).length<=m:=abv m _ (hn.erase _) fun x hx=>by
   rw[hn.mem_erase_iff] at hx;have:=h x hx.2;have:=hx.1;omega
  have h2:l.length<=(l.erase ((m:Int) - 3)).length+1:=by
   rw[List.length_erase];split <;> omega
  omega
theorem aw0{qv:LL9}(h:Hs qv){a:Int}(ha:0<=a/\a < (qv.length:Int)){ns:List Int}(hn:ns.Nodup)(hr:∀x∈ns,Rch qv a x):ns.length<=13:=by
 have:=abv (qv.length+3) ns hn fun x hx=>by have:=Rch.range h ha (hr x hx);omega
 have:=h.most;omega
theorem ak8{qv:LL9}{a:Int}{ns:List Int}(h0:a∈ns)(hc:∀x∈ns,∀d∈dr qv x,0<=d->d∈ns){x:Int}(r:Rch qv a x)(hx:0<=x):x∈ns:=by
 induction r with
 | base=>exact h0
 | step r h0 hd ih=>exact hc _ (ih h0) _ hd hx
theorem a3e{ns:List Int}{i:Nat}(h:i < ns.length):atI (ns.map D.int) (i:Int)=some (.int ns[i]):=agv (by simp[aC h])
def Bal(rows:LL9):Prop:=∀(i:Nat) (r:List Int),rows[i]? = some r->rows.flatten.count (i:Int)=r.length
theorem apr{y z:Int}:∀{rows:LL9} {x:Nat} {row row':List Int},rows[x]? = some row->row'.Perm (y::row)->(rows.set x row').flatten.count z=rows.flatten.count z+if z=y then 1 else 0
 | [],x,row,row',h,_=>by simp at h
 | r::rs,0,row,row',h,p=>by
  have h:r=row:=by simpa using h
  subst h;rw[fG,cO,cO,iW,iW,p.count_eq,qC]
  by_cases q:z=y
  ·subst q;simp;omega
  ·have:(y==z)=false:=by simpa using fun e=>q e.symm
   rw[if_neg q,this];simp
 | r::rs,x+1,row,row',h,p=>by
  rw[fH,cO,cO,iW,iW,apr (by simpa using h) p]
  omega
def prd(c:List Int)(k:Nat):Int:=c.getD ((k+c.length - 1) % c.length) 0
theorem atk{c:List Int}:((aR c.length).map (prd c)).Perm c:=by
 cases hc:c.length with
 | zero =>
  have:c=[]:=uP.mp hc;subst this;exact .refl _
 | succ n =>
  have e:(aR (n+1)).map (prd c)=c.getD n 0::c.take n:=by
   rw[pO,bR,cA];have e0:prd c 0=c.getD n 0:=by
    unfold prd;rw[hc,show 0+(n+1) - 1=n by omega,lA (by omega)]
   rw[e0]
   congr 1
   apply pK
   ·simp;omega
   ·intro i h1 h2;have hi:i < n:=by simpa using h1
    rw[fX,nJ,rP];have em:(i+1+c.length - 1) % c.length=i:=by
     rw[hc,show i+1+(n+1) - 1=i+(n+1) by omega,oG,lA (by omega)]
    show c.getD ((i+1+c.length - 1) % c.length) 0=_;rw[em,aP,aC (by omega)]
    rfl
  have e2:c=c.take n++[c.getD n 0]:=by
   have h:n < c.length:=by omega
   have:=uE h;rw[aP,aC h];show c=c.take n++[c[n]];rw[uE h,jK (by omega)]
  rw[e]
  conv=>rhs;rw[e2]
  exact(mZ _ _).symm
structure Lp (rows0:LL9) (c:List Int) (k:Nat) (rows:LL9):Prop where
 len:rows.length=rows0.length
 inn:∀z,rows.flatten.count z=rows0.flatten.count z+((aR k).map (prd c)).count z
 out:∀(j:Nat) (r:List Int),rows[j]? = some r->∃r0,rows0[j]? = some r0/\r.length=r0.length+(c.take k).count (j:Int)/\∀x∈r0,x∈r
 edg:∀(i:Nat) (r:List Int),i < k->i < c.length->rows[(c.getD i 0).toNat]? = some r->prd c i∈r
theorem Lp.start(rows:LL9)(c:List Int):Lp rows c 0 rows:=⟨rfl,fun z=>by simp,fun j r h=>⟨r,h,by simp,fun x hx=>hx⟩,fun i r h=>absurd h (pW _)⟩
theorem Lp.step{rows0 rows:LL9}{c:List Int}{k:Nat}(L:Lp rows0 c k rows)(hk:k < c.length)(h0:∀x∈c,0<=x)(nd:c.Nodup){row row':List Int}(hr:rows[(c.getD k 0).toNat]? = some row)(p:row'.Perm (prd c k::row)):Lp rows0 c (k+1) (rows.set (c.getD k 0).toNat row'):=by
 have hkm:c.getD k 0=c[k]:=by rw[aP,aC hk];rfl
 have hk0:0<=c.getD k 0:=by rw[hkm];exact h0 _ (cY hk)
 have hlt:=(aM.mp hr).1;refine⟨by rw[dR];exact L.len,fun z =>?_,fun j r h =>?_,fun i r h1 h2 h3 =>?_⟩
 ·rw[apr hr p,L.inn z,pX,cJ,iW]
  by_cases q:z=prd c k
  ·subst q;simp;omega
  ·have:(prd c k==z)=false:=by simpa using fun e=>q e.symm
   rw[if_neg q];simp[qC,this]
 ·have et:(c.take (k+1)).count (j:Int)=(c.take k).count (j:Int)+if (j:Int)=c.getD k 0 then 1 else 0:=by
   rw[List.take_succ_eq_append_getElem hk,iW,hkm]
   by_cases q:(j:Int)=c[k]
   ·rw[if_pos q,<-q];simp
   ·have:(c[k]==(j:Int))=false:=by simpa using fun e=>q e.symm
    rw[if_neg q];simp[qC,this]
  rw[bN] at h
  by_cases q:(c.getD k 0).toNat=j
  ·rw[if_pos q,if_pos (q▸hlt)] at h;cases h;obtain⟨r0,e1,e2,e3⟩:=L.out j row (q▸hr);refine⟨r0,e1,?_,fun x hx=>p.mem_iff.mpr (aK _ (e3 x hx))⟩
   rw[et,if_pos (by omega),p.length_eq,bJ,e2]
   omega
  ·rw[if_neg q] at h;obtain⟨r0,e1,e2,e3⟩:=L.out j r h;refine⟨r0,e1,?_,e3⟩;rw[et,if_neg (by omega),e2]
   omega
 ·rw[bN] at h3;split at h3
  ·rename_i q;cases h3;rcases lZ i k with z | z
   ·have e1:c.getD i 0=c[i]:=by rw[aP,aC h2];rfl
    have hi0:0<=c.getD i 0:=by rw[e1];exact h0 _ (cY h2)
    have:c[i]=c[k]:=by rw[<-e1,<-hkm];omega
    exact absurd this (eG.mp nd i k h2 hk z)
   ·have:i=k:=by omega
    subst this;exact p.mem_iff.mpr (aN ..)
  ·rename_i q;have:i≠k:=fun z=>q (by rw[z])
   exact L.edg i r (by omega) h2 h3
theorem Lp.bal{rows0 rows:LL9}{c:List Int}(L:Lp rows0 c c.length rows)(b:Bal rows0):Bal rows:=fun i r h=>by
 obtain⟨r0,e1,e2,_⟩:=L.out i r h;rw[L.inn,atk.count_eq,b i r0 e1,e2,pJ]
theorem ay5(n:Nat):Bal (aF n []):=fun i r h=>by
 have:r=[]:=by
  have:=dD h;exact lD this
 subst this;simp
theorem apz{rows:LL9}{c:List Int}(n1:c≠[])(he:∀i,i < c.length->prd c i∈dr rows (c.getD i 0))(h0:∀x∈c,0<=x):∀a∈c,∀b∈c,Rch rows a b:=by
 have hl:0 < c.length:=mW.mpr n1;have mem:∀j,c.getD (j % c.length) 0∈c:=fun j=>by
  have:=oE j hl;rw[aP,aC this];exact cY this
 have key:∀(k j:Nat),Rch rows (c.getD ((j+k) % c.length) 0) (c.getD (j % c.length) 0):=fun k=>by
  induction k with
  | zero=>exact fun j=>.base
  | succ k ih =>
   intro j;have e:=ih (j+1);rw[show j+1+k=j+(k+1) by omega] at e
   refine .step e (h0 _ (mem _)) ?_;have:=he ((j+1) % c.length) (oE _ hl);unfold prd at this;have e2:((j+1) % c.length+c.length - 1) % c.length=j % c.length:=by
    have h1:=Nat.div_add_mod (j+1) c.length;have h2:=oE (j+1) hl;rw[show(j+1) % c.length+c.length - 1=(j+1) % c.length+(c.length - 1) by omega,Nat.mod_add_mod,show j+1+(c.length - 1)=j+c.length by omega,oG]
   rw[e2] at this;exact this
 intro a ha b hb;obtain⟨p,hp,rfl⟩:=cT.mp ha;obtain⟨q,hq,rfl⟩:=cT.mp hb;have:=key (p+c.length - q) q;rw[show q+(p+c.length - q)=p+c.length by omega,oG,lA hp,lA hq,aP,aP,aC hp,aC hq] at this
 exact this
theorem aus(neg:Bool)(a b:List Int):gEq neg (.lst (a.map D.int)) (.lst (b.map D.int))=some (.v (.bl (if neg then !decide (a=b) else decide (a=b)))):=by
 have h1:okD 30 (.lst (a.map D.int))=true:=af2 29 a;have h2:okD 30 (.lst (b.map D.int))=true:=af2 29 b;have h3:eqD (.lst (a.map D.int)) (.lst (b.map D.int))=decide (a=b):=by
  rw[<-ait];exact ais _ _
 simp only[gEq,h1,h2,h3];rfl
@[simp] theorem aen(qv:LL9)(d:D):jw [.val (hD qv),.val d]=some (.ok (.v (.bl (vf 0 ((qv.length:Int) - 1) d))),[.val (hD qv),.val d]):=by
 simp[jw,abe,hD,hDs]
def addD(ms:List Int)(d:Int):List Int:=if 0<=d/\d∉ms then ms++[d] else ms
theorem avi(ms:List Int)(d x:Int):x∈addD ms d↔x∈ms∨(x=d/\0<=d):=by
 unfold addD;split
 ·rename_i h;simp only[bZ,bD];constructor
  ·rintro(q | q)
   ·exact .inl q
   ·exact .inr ⟨q,h.1⟩
  ·rintro(q | ⟨q,_⟩)
   ·exact .inl q
   ·exact .inr q
 ·rename_i h;constructor
  ·exact .inl
  ·rintro(q | ⟨rfl,q⟩)
   ·exact q
   ·exact fM fun z=>h ⟨q,z⟩
theorem ao0{ms:List Int}(h:ms.Nodup)(d:Int):(addD ms d).Nodup:=by
 unfold addD;split
 ·rename_i q;rw[jX];refine⟨h,by simp,fun x hx y hy e =>?_⟩
  rw[bD] at hy;subst hy;subst e;exact q.2 hx
 ·exact h
theorem avh(ms:List Int)(d:Int):∃t,addD ms d=ms++t:=by
 unfold addD;split
 ·exact⟨_,rfl⟩
 ·exact⟨[],by simp⟩
theorem avj(ms:List Int)(d:Int):(addD ms d).length<=ms.length+1:=by
 unfold addD;split <;> simp
theorem ad3:∀(ds ms:List Int) (x:Int),x∈ds.foldl addD ms↔x∈ms∨(x∈ds/\0<=x)
 | [],ms,x=>by simp
 | d::r,ms,x=>by
  rw[iB,ad3 r,avi];simp only[aZ];constructor
  ·rintro((q | ⟨rfl,q⟩) | ⟨q,w⟩)
   ·exact .inl q
   ·exact .inr ⟨.inl rfl,q⟩
   ·exact .inr ⟨.inr q,w⟩
  ·rintro(q | ⟨rfl | q,w⟩)
   ·exact .inl (.inl q)
   ·exact .inl (.inr ⟨rfl,w⟩)
   ·exact .inr ⟨q,w⟩
theorem ahg:∀(ds:List Int) {ms:List Int},ms.Nodup->(ds.foldl addD ms).Nodup
 | [],_,h=>h
 | d::r,_,h=>ahg r (ao0 h d)
theorem aiq:∀(ds ms:List Int),∃t,ds.foldl addD ms=ms++t
 | [],ms=>⟨[],by simp⟩
 | d::r,ms=>by
  obtain⟨t,e⟩:=avh ms d;obtain⟨u,e2⟩:=aiq r (addD ms d);exact⟨t++u,by rw[iB,e2,e,lW]⟩
theorem ahi(a b c e:Sl):∀(ds ms:List Int) (o:Sl),ms.length+ds.length<=100->∃o',forD (bj 5) xm (ds.map D.int) [a,b,.own none (ms.map D.int),c,e,o]=some (.nx,[a,b,.own none ((ds.foldl addD ms).map D.int),c,e,o'])
 | [],ms,o,_=>⟨o,rfl⟩
 | d::r,ms,o,hl=>by
  rw[bJ] at hl;have hal:=avj ms d;obtain⟨o',q⟩:=ahi a b c e r (addD ms d) (.val (.int d)) (by omega)
  refine⟨o',?_⟩;have hc:ms.length < capS:=by rw[ay2];omega
  have es:xm [a,b,.own none (ms.map D.int),c,e,.val (.int d)]=some (.nx,[a,b,.own none ((addD ms d).map D.int),c,e,.val (.int d)]):=by
   have ei:=ayg true d ms
   by_cases h0:0<=d
   ·by_cases h1:d∈ms
    ·have:addD ms d=ms:=if_neg fun z=>z.2 h1
     rw[this];simp[xm,h0,ei,h1]
    ·have:addD ms d=ms++[d]:=if_pos ⟨h0,h1⟩;rw[this,cJ];simp[xm,h0,ei,h1,hc]
   ·have:addD ms d=ms:=if_neg fun z=>h0 z.1
    rw[this];simp[xm,h0]
  rw[bR,jt,iB];simp only[uw,fH,fG];rw[es];exact q
theorem ata{l:List Int}(h:l.Nodup):(sortI l).Pairwise (· < ·):=by
 have h1:=abh l;have h2:(sortI l).Nodup:=(sortI_perm l).nodup_iff.mpr h;have:=h1.and h2;exact this.imp fun⟨a,b⟩=>by omega
structure Come (qv:LL9) (a:Int) (cs:List Int):Prop where
 lt:cs.Pairwise (· < ·)
 mem:∀x,x∈cs↔Rch qv a x/\0<=x
 len:cs.length<=10
theorem ab4{qv:LL9}(h:Hs qv){a:Int}(ha:0<=a/\a < (qv.length:Int)) :
  ∃cs:List Int,aae [.val (hD qv),.val (.int a)]=some (.ok (.v (.tup (cs.map D.int))),[.val (hD qv),.val (.int a)])/\Come qv a cs:=by
 have hm:=h.most;have loop:=ag1 (c:=zu) (g:=ab7)
  (fun k ρ=>∃(ms:List Int) (i:Nat) (o4 o5:Sl),ρ=[.val (hD qv),.val (.int a),.own none (ms.map D.int),.val (.int (i:Nat)),o4,o5]/\k=20 - i/\i<=ms.length/\ms.Nodup/\a∈ms/\(∀x∈ms,Rch qv a x/\0<=x)/\∀j (hj:j < ms.length),j < i->∀d∈dr qv ms[j],0<=d->d∈ms)
  (fun ρ=>∃(ms:List Int) (o3 o4 o5:Sl),ρ=[.val (hD qv),.val (.int a),.own none (ms.map D.int),o3,o4,o5]/\ms.Nodup/\∀x,x∈ms↔Rch qv a x/\0<=x) ?_ fuel 20 [.val (hD qv),.val (.int a),.own none ([a].map D.int),.val (.int ((0:Nat):Int)),.emp,.emp] (vA (by decide) aut)
  ⟨[a],0,.emp,.emp,rfl,rfl,by simp,by simp,by simp,by simp;exact⟨.base,ha.1⟩,fun j hj hlt=>absurd hlt (pW _)⟩
 ·obtain⟨ρ',e,ms,o3,o4,o5,rfl,hn,hm'⟩:=loop;have e:whileD zu ab7 fuel [.val (hD qv),.val (.int a),.own none [.int a],.val (.int 0),.emp,.emp]=some (.nx,[.val (hD qv),.val (.int a),.own none (ms.map D.int),o3,o4,o5]):=e;have hlen:ms.length<=10:=by
   have:=abv (qv.length+3) ([-3,-2,-1]++ms) (by
    rw[jX];refine⟨by decide,hn,fun x hx y hy e =>?_⟩
    subst e;have:=((hm' x).mp hy).2;simp at hx;omega) (fun x hx=>by
    rcases bZ.mp hx with hx | hx
    ·simp at hx;omega
    ·have:=(hm' x).mp hx;have:=Rch.range h ha this.1;omega)
   simp at this;omega
  have es:=aj7 (ns:=ms) (by omega)
  have hp:=sortI_perm ms;refine⟨sortI ms,?_,ata hn,fun x=>by rw[hp.mem_iff];exact hm' x,by rw[hp.length_eq];exact hlen⟩
  have er:lu [.val (hD qv),.val (.int a)]=some (.ok (.v .non),[.val (hD qv),.val (.int a)]):=by
   have h1:a<=(qv.length:Int) - 1:=by omega
   simp[lu,abd,vf,ha.1,h1]
  simp only[hD] at e er ⊢
  simp[aae,aj6,er,e,es]
 ·rintro k ρ ⟨ms,i,o4,o5,rfl,rfl,hi,hn,h0,hr,hc⟩
  have hz:=aw0 h ha hn fun x hx=>(hr x hx).1
  by_cases hlt:i < ms.length
  ·obtain⟨q1,q2⟩:=hr _ (cY hlt);have q3:=(Rch.range h ha q1).2;obtain⟨d1,d2,d3⟩:=h.dr q2 q3;have er:=yp q2 q3;have ei:=a3e hlt;obtain⟨o5',el⟩:=ahi (.val (hD qv)) (.val (.int a)) (.val (.int (i:Nat))) (.val (.tup ((dr qv ms[i]).map D.int))) (dr qv ms[i]) ms o5 (by omega)
   refine .inr ⟨[.val (hD qv),.val (.int a),.own none (ms.map D.int),.val (.int (i:Nat)),o4,o5],[.val (hD qv),.val (.int a),.own none (((dr qv ms[i]).foldl addD ms).map D.int),.val (.int ((i+1:Nat):Int)),.val (.tup ((dr qv ms[i]).map D.int)),o5'],20 - (i+1),?_,?_,by omega,(dr qv ms[i]).foldl addD ms,i+1,_,_,rfl,rfl,?_,ahg _ hn,(ad3 _ _ _).mpr (.inl h0),fun x hx =>?_,fun j hj hji d hd hd0 =>?_⟩
   ·have:(i:Int) < (ms.length:Int):=by omega
    simp[zu,this]
   ·have hcast:((i+1:Nat):Int)=(i:Int)+1:=by omega
    rw[hcast];simp only[hD] at el ⊢
    generalize (dr qv ms[i]).map D.int=dd at er el;simp[ab7,ei,er,el]
   ·obtain⟨t,et⟩:=aiq (dr qv ms[i]) ms;rw[et,aW];omega
   ·rcases(ad3 _ _ _).mp hx with hx | ⟨hx,hx0⟩
    ·exact hr x hx
    ·exact⟨.step q1 q2 hx,hx0⟩
   ·obtain⟨t,et⟩:=aiq (dr qv ms[i]) ms;have hjl:j < ms.length:=by omega
    have ej:((dr qv ms[i]).foldl addD ms)[j]=ms[j]:=by
     simp only[et];exact List.getElem_append_left hjl
    rw[ej] at hd;rcases lZ j i with z | z
    ·exact(ad3 _ _ _).mpr (.inl (hc j hjl z d hd hd0))
    ·have:j=i:=by omega
     subst this;exact(ad3 _ _ _).mpr (.inr ⟨hd,hd0⟩)
  ·refine .inl ⟨[.val (hD qv),.val (.int a),.own none (ms.map D.int),.val (.int (i:Nat)),o4,o5],?_,ms,_,_,_,rfl,hn,fun x=>⟨fun hx=>hr x hx,fun⟨hx,hx0⟩ =>?_⟩⟩
   ·have:¬(i:Int) < (ms.length:Int):=by omega
    simp[zu,this]
   ·exact ak8 h0 (fun y hy d hd hd0=>by
     obtain⟨j,hj,rfl⟩:=cT.mp hy;exact hc j hj (by omega) d hd hd0) hx hx0
section
variable{qv:LL9}(h:Hs qv){a:Int}(ha:0<=a/\a < (qv.length:Int))
include h ha
end
theorem ac3(qv:LL9):(hDs qv).length=qv.length:=by unfold hDs;simp
theorem ago(x:Int):∀V:List Int,(V.map D.int).countP (fun y=>eqD y (.int x))=V.count x
 | []=>rfl
 | a::V=>by
  have e:=al2 a x;rw[bR,jE,ago x V,qC,e]
  by_cases q:a=x <;> simp[q]
noncomputable def rl(qv:LL9)(a:Int):Nat:=open Classical in if h:∃cs,Come qv a cs then (Classical.choose h).length else 0
theorem ak6{qv:LL9}{a:Int}{cs:List Int}(h:Come qv a cs):cs.length=rl qv a:=by
 have hx:∃cs,Come qv a cs:=⟨cs,h⟩
 unfold rl;rw[dif_pos hx];have h2:=Classical.choose_spec hx;exact((tH (h.lt.imp fun z=>by omega) (h2.lt.imp fun z=>by omega)).mpr fun x=>(h.mem x).trans (h2.mem x).symm).length_eq
theorem alh:∀(m:Nat) (l:List Int),l.Nodup->(∀x∈l,0<=x/\x < (m:Int))->l.length<=m:=fun m l hn h=>by
 have:=abv (m+3) l hn fun x hx=>by have:=h x hx;omega
 have e:(l++[-3,-2,-1]).Nodup:=by
  rw[jX];refine⟨hn,by decide,fun a ha b hb =>?_⟩
  have:=h a ha;simp only[aZ,dN,or_false] at hb;rcases hb with rfl | rfl | rfl <;> omega
 have:=abv (m+3) (l++[-3,-2,-1]) e fun x hx=>by
  rcases bZ.mp hx with hx | hx
  ·have:=h x hx;omega
  ·simp only[aZ,dN,or_false] at hx;rcases hx with rfl | rfl | rfl <;> omega
 rw[aW] at this;simp at this;exact this
section
variable{qv:LL9}(h:Hs qv)
include h
theorem au3{a:Int}(ha:0<=a/\a < (qv.length:Int)):∃cs:List Int,aae [.val (hD qv),.val (.int a)]=some (.ok (.v (.tup (cs.map D.int))),[.val (hD qv),.val (.int a)])/\cs.length=rl qv a:=by
 obtain⟨cs,e,c⟩:=ab4 h ha;exact⟨cs,e,ak6 c⟩
theorem rl_le{a:Int}(ha:0<=a/\a < (qv.length:Int)):rl qv a<=qv.length:=by
 obtain⟨cs,_,c⟩:=ab4 h ha;rw[<-ak6 c];exact alh _ _ (c.lt.imp fun z=>by omega) fun x hx=>⟨((c.mem x).mp hx).2,(((c.mem x).mp hx).1.range h ha).2⟩
noncomputable def aoo(qv:LL9):Bool:=(aR qv.length).all fun(i:Nat)=>decide (rl qv (i:Int)=qv.length)
theorem aqy:yj [.val (hD qv)]=some (.ok (.v (.bl (aoo qv))),[.val (hD qv)]):=by
 have hm:=h.most;have hl:=ac3 qv;have ec:compD (bj 0) (ret true) ab0 (dg 0 qv.length) [] [.emp,.val (hD qv)]=some (.ok (((aR qv.length).map fun(i:Nat)=>decide (rl qv (i:Int)=qv.length)).map D.bl),ack .emp (dg 0 qv.length)::[.val (hD qv)]):=by
  rw[ou (f:=fun d=>match d with | .int a=>.bl (decide (rl qv a=qv.length)) | _=>.non)]
  ·rw[cD];unfold dg;rw[cA,cA]
   congr 3
   refine gY fun i _ =>?_
   show D.bl (decide (rl qv (0+(i:Int))=qv.length))=_;rw[Int.zero_add];rfl
  ·intro d hd;unfold dg at hd;obtain⟨i,hi,rfl⟩:=bI.mp hd;have hi:=dJ.mp hi;rw[Int.zero_add];obtain⟨cs,e,hc⟩:=au3 h (a:=(i:Int)) ⟨by omega,by omega⟩
   have hcl:(cs.map D.int).length=rl qv (i:Int):=by rw[aD];exact hc
   simp only[hD] at *;generalize (i:Int)=ii at *;generalize cs.map D.int=cc at *;have hd:decide ((cc.length:Int)=((hDs qv).length:Int))=decide (rl qv ii=qv.length):=by
    rw[hcl,hl]
    by_cases z:rl qv ii=qv.length
    ·rw[decide_eq_true z,decide_eq_true (by omega)]
    ·rw[decide_eq_false z,decide_eq_false (by omega)]
   rw[<-hd];generalize hDs qv=hh at *;simp[ab0,e];rfl
 have hc:(((aR qv.length).map fun(i:Nat)=>decide (rl qv (i:Int)=qv.length)).map D.bl).length<=capS:=by rw[aD,aD,iU];exact di (by omega)
 have ea:gAll (.lst (((aR qv.length).map fun(i:Nat)=>decide (rl qv (i:Int)=qv.length)).map D.bl))=some (.v (.bl (aoo qv))):=by
  rw[aav,uq];unfold aoo;simp only[xZ,qD,oM,id]
 have hr:jr [.int (qv.length:Int)]=some (dg 0 qv.length):=by
  have:∀i:Int,jr [.int i]=if i.natAbs < 4611686018427387904 then some (dg 0 i.toNat) else none:=fun _=>rfl
  rw[this,if_pos (by omega)]
  simp
 generalize ((aR qv.length).map fun(i:Nat)=>decide (rl qv (i:Int)=qv.length)).map D.bl=BB at *
 generalize aoo qv=jb at *;rw[<-hl] at hr;rw[<-hl] at ec;generalize dg 0 (hDs qv).length=RR at *;simp only[hD] at *;generalize hDs qv=hh at *;simp[yj,agd,hr,ec,hc,ea]
omit h in
theorem count_at(r:List Int)(a:Int):(ag8 0 (ak (mVar 1) mNil)) [.val (.tup (r.map D.int)),.val (.int a)]=some (.ok (.int ((r.count a:Nat):Int)),[.val (.tup (r.map D.int)),.val (.int a)]):=by
 have hk:=ago a r;have ok:(r.map D.int).all (okD 30)=true:=by simp[okD]
 have e:aip (.tup (r.map D.int)) [.int a]=some (.int ((r.count a:Nat):Int)):=by
  have:∀(l:List D) (x:D),aip (.tup l) [x]=if okD 30 x&&l.all (okD 30) then some (.int (l.countP fun y=>eqD y x)) else none:=fun _ _=>rfl
  rw[this,ok,hk];rfl
 generalize r.map D.int=rr at *;simp[ag8,M.bind,lift,dj,agf,e,mVar,ak,mNil,Dn.ret]
theorem al4(a:Int):aad [.val (hD qv),.val (.int a)]=some (.ok (.v (.int ((qv.flatten.count a:Nat):Int))),[.val (hD qv),.val (.int a)]):=by
 have hm:=h.most;have ec:compD (bj 0) (ret true) adb (hDs qv) [] [.emp,.val (.int a)]=some (.ok ((qv.map fun r=>((r.count a:Nat):Int)).map D.int),ack .emp (hDs qv)::[.val (.int a)]):=by
  rw[ou (f:=fun d=>match d with | .tup l=>.int (((((qb l).getD []).count a:Nat)):Int) | _=>.non)]
  ·rw[cD];unfold hDs;rw[cA,cA]
   congr 3
   refine gY fun r _ =>?_
   simp
  ·intro d hd;obtain⟨r,hr,rfl⟩:=bI.mp hd;have:=count_at r a;unfold adb;rw[this];simp
 have hc:((qv.map fun r=>((r.count a:Nat):Int)).map D.int).length<=capS:=by rw[aD,aD];exact di (by omega)
 have es:gSum (.lst ((qv.map fun r=>((r.count a:Nat):Int)).map D.int))=some (.v (.int ((qv.flatten.count a:Nat):Int))):=by
  show(qb _).map _=_;rw[abw];have:(qv.map fun r=>((r.count a:Nat):Int)).sum=((qv.flatten.count a:Nat):Int):=by
   clear hc ec hm h
   induction qv with
   | nil=>rfl
   | cons r t ih=>rw[bR,yS,ih,cO,iW];omega
  show some (Rv.v (.int _))=_;rw[this]
 generalize (qv.map fun r=>((r.count a:Nat):Int)).map D.int=CC at *
 generalize ((qv.flatten.count a:Nat):Int)=nn at *;simp only[hD] at *;generalize hDs qv=hh at *;simp[aad,ahd,ec,hc,es]
theorem af7:compD (bj 0) (ret true) aaz (hDs qv) [] [.emp]=some (.ok ((qv.map fun r=>((r.length:Nat):Int)).map D.int),ack .emp (hDs qv)::[]):=by
 rw[ou (f:=fun d=>match d with | .tup l=>.int ((l.length:Nat):Int) | _=>.non)]
 ·rw[cD];unfold hDs;rw[cA,cA]
  congr 3
  refine gY fun r _ =>?_
  simp
 ·intro d hd;obtain⟨r,hr,rfl⟩:=bI.mp hd;generalize r.map D.int=rr;simp[aaz]
theorem aig:((qv.map fun r=>((r.length:Nat):Int)).map D.int).length<=capS:=by
 have hm:=h.most;rw[aD,aD];exact di (by omega)
omit h in
theorem aif:gSum (.lst ((qv.map fun r=>((r.length:Nat):Int)).map D.int))=some (.v (.int ((qv.flatten.length:Nat):Int))):=by
 show(qb _).map _=_;rw[abw];have:(qv.map fun r=>((r.length:Nat):Int)).sum=((qv.flatten.length:Nat):Int):=by
  induction qv with
  | nil=>rfl
  | cons r t ih=>rw[bR,yS,ih,cO,aW];omega
 show some (Rv.v (.int _))=_;rw[this]
theorem wz:u6 [.val (hD qv)]=some (.ok (.v (.int ((qv.flatten.length:Nat):Int))),[.val (hD qv)]):=by
 have ec:=af7 h;have hc:=aig h;have es:=aif (qv:=qv);generalize (qv.map fun r=>((r.length:Nat):Int)).map D.int=CC at *
 generalize ((qv.flatten.length:Nat):Int)=nn at *;simp only[hD] at *;generalize hDs qv=hh at *;simp[u6,ae2,ec,hc,es]
end
def an9(qv:LL9):Bool:=qv.all fun r=>decide (0<=minI r)
theorem a3g{C:M Rv}{s:Sl}{f:List Int->Bool}{qv:LL9}(e:C [s]=some (.ok (.fr (qv.map fun r=>D.bl (f r))),[s])):fnD 1 1 (dRet (fu (g1 gAll) (ak (M.d C) mNil))) [s]=some (.ok (.v (.bl (qv.all f))),[s]):=by
 simp[e,oM]
section
variable{qv:LL9}(h:Hs qv)
include h
theorem aop:abz [.val (hD qv)]=some (.ok (.v (.bl (an9 qv))),[.val (hD qv)]):=by
 have ef:compD (bj 0) (ret true) ace (hDs qv) [] [.emp]=some (.ok (qv.map fun r=>.bl (decide (0<=minI r))),ack .emp (hDs qv)::[]):=by
  rw[ou (f:=fun d=>match d with | .tup l=>.bl (decide (0<=minI ((qb l).getD []))) | _=>.non)]
  ·simp[hDs,oM]
  ·intro d hd;obtain⟨r,hr,rfl⟩:=bI.mp hd;have hne:r≠[]:=fun z=>by have:=(h.room r hr).1;rw[z] at this;simp at this
   simp[ace,aun hne]
 have hc:(qv.map fun r=>D.bl (decide (0<=minI r))).length<=capS:=by rw[aD];exact di (cM h.most (by decide))
 have e1:(rm [none] (j6 (mVar 0)) (bj 0) (ret true) ace) [.val (hD qv)]=some (.ok (.fr (qv.map fun r=>.bl (decide (0<=minI r)))),[.val (hD qv)]):=by
  generalize (qv.map fun r=>D.bl (decide (0<=minI r)))=BB at *
  simp only[hD] at *;generalize hDs qv=hh at *;simp[ef,hc]
 unfold abz aj5;exact a3g e1
theorem aje:an9 qv=qv.flatten.all fun x=>decide (0<=x):=by
 unfold an9;rw[List.all_flatten,qF,bA,bA];refine forall_congr' fun r=>forall_congr' fun hr =>?_
 have hne:r≠[]:=fun z=>by have:=(h.room r hr).1;rw[z] at this;simp at this
 rw[decide_eq_true_eq,at5 hne,bA];simp
def balB(qv:LL9):Bool:=(qv.mapIdx fun i r=>decide (((qv.flatten.count (i:Int):Nat):Int)=(r.length:Int))).all id
def balL(qv:LL9):List D:=(qv.mapIdx fun i r=>decide (((qv.flatten.count (i:Int):Nat):Int)=(r.length:Int))).map D.bl
theorem avc{me:M D}(S:Sl)(hm:∀(i:Nat) (r:List Int),qv[i]? = some r->me [.val (.int (i:Int)),.val (.tup (r.map D.int)),S]=some (.ok (.bl (decide (((qv.flatten.count (i:Int):Nat):Int)=(r.length:Int)))),[.val (.int (i:Int)),.val (.tup (r.map D.int)),S])) :
  ∃o1 o2,compD (bTup 2 (jc (bj 0) (jc (bj 1) bNil))) (ret true) me (afb (hDs qv)) [] [.emp,.emp,S]=some (.ok (balL qv),[o1,o2,S]):=by
 have hbl:(balL qv).length=qv.length:=by unfold balL;simp
 have comp:=agr (b:=bTup 2 (jc (bj 0) (jc (bj 1) bNil))) (mc:=ret true) (me:=me) (fun j ys ρ=>∃o1 o2,ρ=[o1,o2,S]/\ys=(balL qv).take j)
  (l:=afb (hDs qv)) (ys:=[]) (ρ:=[.emp,.emp,S]) 0 ⟨.emp,.emp,rfl,rfl⟩ ?_
 ·obtain⟨ys,ρ',e,o1,o2,rfl,rfl⟩:=comp;rw[agj,ac3,eN,<-hbl,pJ] at e;exact⟨o1,o2,e⟩
 ·rintro i d ys ρ hd ⟨o1,o2,rfl,rfl⟩
  rw[eN];obtain⟨d0,g1,rfl⟩:=akf hd;have hi:i < qv.length:=by
   have:=(aM.mp g1).1;rwa[ac3] at this
  have ed:d0=.tup (qv[i].map D.int):=by
   unfold hDs at g1;rw[bK,aC hi] at g1
   simpa using g1.symm
  subst ed;have e:=hm i qv[i] (aC hi);have hb:i < (balL qv).length:=by rw[hbl];exact hi
  have ef:(balL qv)[i]? = some (.bl (decide (((qv.flatten.count (i:Int):Nat):Int)=(qv[i].length:Int)))):=by
   unfold balL;rw[bK,fU,aC hi];rfl
  have es:(balL qv).take (i+1)=(balL qv).take i++[.bl (decide (((qv.flatten.count (i:Int):Nat):Int)=(qv[i].length:Int)))]:=by
   rw[List.take_succ,ef];rfl
  exact⟨_,_,true,rfl,rfl,.inr ⟨rfl,_,_,e,_,_,rfl,es.symm⟩⟩
theorem ay7:gAll (.lst (balL qv))=some (.v (.bl (balB qv))):=by
 unfold balL balB;rw[aav,uq];rfl
theorem ay6:(balL qv).length<=capS:=by
 unfold balL;rw[aD,lJ];exact di (cM h.most (by decide))
theorem al9:pq [.val (hD qv)]=some (.ok (.v (.bl (an9 qv&&balB qv))),[.val (hD qv)]):=by
 have e1:=aop h;obtain⟨o1,o2,ec⟩:=avc h (me:=zc) (.val (hD qv)) fun i r hr=>by
  have e:=al4 h (i:Int);have hl:(r.map D.int).length=r.length:=aD ..
  generalize ((qv.flatten.count (i:Int):Nat):Int)=cc at *;generalize (i:Int)=ii at *;generalize r.map D.int=rr at *;rw[<-hl];generalize hD qv=hh at *;simp[zc,e];rfl
 have ea:=ay7 h;have hc:=ay6 h;generalize balL qv=BB at *;generalize balB qv=bb at *;simp only[hD] at *;generalize hDs qv=hh at *;cases hs:an9 qv with
 | true =>
  rw[hs] at e1;simp[pq,aaq,e1,ec,hc,ea]
 | false =>
  rw[hs] at e1;simp[pq,aaq,e1]
theorem air:qv.flatten.length<=60:=by
 have:∀l:LL9,(∀r∈l,r.length<=6)->l.flatten.length<=6*l.length:=fun l=>by
  induction l with
  | nil=>exact fun _=>by simp
  | cons r t ih =>
   intro hr;have:=ih fun q hq=>hr q (aK _ hq)
   have:=hr r (aN ..);rw[cO,aW,bJ];omega
 have:=this qv fun r hr=>(h.room r hr).2.1
 have:=h.most;omega
end
theorem aya{qv:LL9}{i:Nat}{d:D}(h:(hDs qv)[i]? = some d):∃r,qv[i]? = some r/\d=.tup (r.map D.int):=by
 unfold hDs at h;rw[bK] at h;obtain⟨r,e,rfl⟩:=uW.mp h;exact⟨r,e,rfl⟩
structure Arr (qv:LL9) (as:List Int):Prop where
 len:as.length=qv.length
 ok:∀(i:Nat) (a:Int) (r:List Int),as[i]? = some a->qv[i]? = some r->0<=a/\a < (r.length:Int)
def ar(as:List Int)(x:Int):Int:=as.getD x.toNat 0
theorem Arr.at{qv:LL9}{as:List Int}(h:Arr qv as){x:Int}(h0:0<=x)(h1:x < (qv.length:Int)):0<=ar as x/\ar as x < ((dr qv x).length:Int):=by
 have hk:x.toNat < qv.length:=by omega
 have hk2:x.toNat < as.length:=by rw[h.len];exact hk
 have:=h.ok x.toNat as[x.toNat] qv[x.toNat] (aC hk2) (aC hk)
 simpa[ar,dr,hk,hk2] using this
theorem amb(P:Int×Int){qv:LL9}(h:Hs qv):∃as P',f__law_drawn [.own (some 0) (pen P),.val (hD qv)]=some (.ok (.v (.tup (as.map D.int))),[.own (some 0) (pen P'),.val (hD qv)])/\Arr qv as:=by
 have comp:=agr (b:=bj 0) (mc:=ret true) (me:=aa1) (fun j ys ρ=>∃ns P o,ρ=[o,.own (some 1) (pen P)]/\ys=ns.map D.int/\ns.length=j/\∀(i:Nat) (a:Int) (r:List Int),ns[i]? = some a->qv[i]? = some r->0<=a/\a < (r.length:Int))
  (l:=hDs qv) (ys:=[]) (ρ:=[.emp,.own (some 1) (pen P)]) 0 ⟨[],P,.emp,rfl,rfl,rfl,by simp⟩ ?_
 ·obtain⟨ys,ρ',e6,ns,P6,o,rfl,rfl,hn,hx⟩:=comp;rw[ac3,eN] at hn;have hc:ns.length<=capS:=di (by have:=h.most;omega)
  exact⟨ns,P6,by simp[f__law_drawn,ae4,hD,e6,hc],hn,hx⟩
 ·rintro j d ys ρ hd ⟨ns,P6,o,rfl,rfl,hn,hx⟩
  obtain⟨r,hr,rfl⟩:=aya hd;obtain⟨k1,k2,k3⟩:=h.room r (dD hr);obtain⟨r7,P7,e7,r7a,r7b⟩:=lw P6 (r.length:Int) (by omega) (by omega)
  refine⟨_,_,true,rfl,rfl,.inr ⟨rfl,.int r7,[.val (.tup (r.map D.int)),.own (some 1) (pen P7)],by simp[aa1,e7],ns++[r7],P7,_,rfl,by simp,by simp[hn],fun i a q ha hq =>?_⟩⟩
  rcases lZ i ns.length with z | z
  ·rw[cH z] at ha;exact hx i a q ha hq
  ·have hi:i=ns.length:=by
    have:=(aM.mp ha).1;simp at this;omega
   subst hi;simp at ha;subst ha;have:ns.length=j:=by omega
   rw[this,hr] at hq;cases hq;exact⟨r7a,r7b⟩
def gone(qv:LL9)(as:List Int)(k:Int):List Int:=as.set k.toNat ((ar as k+1) % ((dr qv k).length:Int))
def led(qv:LL9)(as:List Int)(k:Int):Int:=(dr qv k).getD (ar as k).toNat 0
section
variable{qv:LL9}(h:Hs qv){as:List Int}(ha:Arr qv as){k:Int}(h0:0<=k)(h1:k < (qv.length:Int))
include h ha h0 h1
theorem ave:atI (as.map D.int) k=some (.int (ar as k)):=ai2 h0 (by rw[ha.len];exact h1)
theorem ay8:atI ((dr qv k).map D.int) (ar as k)=some (.int (led qv as k)):=ai2 (ha.at h0 h1).1 (ha.at h0 h1).2
theorem ard(x:Int):fMod x ((dr qv k).length:Int)=some (x % ((dr qv k).length:Int)):=by
 have:=(h.dr h0 h1).1;unfold fMod;rw[if_pos (by omega)]
end
section
variable{qv:LL9}(h:Hs qv){as:List Int}(ha:Arr qv as){k:Int}(h0:0<=k)(h1:k < (qv.length:Int))
include h ha h0 h1
theorem aul:Arr qv (gone qv as k):=by
 have hd:=(h.dr h0 h1).1;refine⟨by unfold gone;rw[dR];exact ha.len,fun i a r g1 g2 =>?_⟩
 unfold gone at g1;rw[bN] at g1;split at g1
 ·rename_i hi;subst hi;split at g1
  ·cases g1;have:dr qv k=r:=by simp[dr,g2]
   rw[this] at hd ⊢
   exact⟨Int.emod_nonneg _ (by omega),nO _ (by omega)⟩
  ·cases g1
 ·exact ha.ok i a r g1 g2
end
theorem a1q{qv:LL9}(h:Hs qv){as:List Int}(ha:Arr qv as){k:Int}(h0:0<=k)(h1:k < (qv.length:Int)) : -3<=led qv as k/\led qv as k < (qv.length:Int):=by
 obtain⟨a1,a2⟩:=ha.at h0 h1;have hk:(ar as k).toNat < (dr qv k).length:=by omega
 have:led qv as k∈dr qv k:=by
  unfold led;simp[hk]
 exact(h.dr h0 h1).2.2 _ this
def gho(rows:LL9):Ro:=(rows.mapIdx fun j l=>Sl.own (some (1000+j)) (l.map D.int))++aF (6 - rows.length) .emp
def tags(n:Nat):List Nat:=(aR n).map fun j=>1000+j
@[simp] theorem alk(l:Ro):(l.mapIdx fun _ s=>s)=l:=by
 induction l with
 | nil=>rfl
 | cons a t ih=>rw[xN,ih]
theorem aw3(rest ps:Ro):putB rest [none] ps=rest:=alk rest
section
variable{rows:LL9}{j:Nat}{row:List Int}
theorem aik(h:rows[j]? = some row):(gho rows)[j]? = some (.own (some (1000+j)) (row.map D.int)):=by
 have hj:=(aM.mp h).1;unfold gho;rw[cH (by rw[lJ];exact hj),fU,h]
 rfl
theorem ayc(hj:j < rows.length)(l:List Int):(gho rows).set j (.own (some (1000+j)) (l.map D.int))=gho (rows.set j l):=by
 unfold gho;rw[List.set_append_left _ _ (by rw[lJ];exact hj),dR]
 congr 1
 refine oJ fun k =>?_
 rw[bN,fU,fU,bN]
 by_cases hk:j=k
 ·subst hk;simp[hj]
 ·simp[hk]
theorem azq{n:Nat}{r:Int}(h0:0<=r)(h1:r < (n:Int)):atI (tags n) r=some (1000+r.toNat):=by
 unfold atI tags;rw[aD,iU,aq1 h0 h1];show((aR n).map fun j=>1000+j)[r.toNat]? = _
 rw[bK,lB (by omega)]
 rfl
variable{a0 a1 a2 a3 a4 a5 a6 a7 a8 a9:Sl}
theorem anb(j:Nat)(l:Ro):(a0::a1::a2::a3::a4::a5::a6::a7::a8::a9::l:Ro)[10+j]? = l[j]? := by
 rw[vC];rfl
theorem a2n(j:Nat)(l:Ro)(x:Sl):cG (a0::a1::a2::a3::a4::a5::a6::a7::a8::a9::l:Ro) (10+j) x=a0::a1::a2::a3::a4::a5::a6::a7::a8::a9::cG l j x:=by
 rw[vC];rfl
theorem a6t(h:rows[j]? = some row):mGh 10 (1000+j) (a0::a1::a2::a3::a4::a5::a6::a7::a8::a9::gho rows)=some (.ok (10+j),a0::a1::a2::a3::a4::a5::a6::a7::a8::a9::gho rows):=by
 have e:(a0::a1::a2::a3::a4::a5::a6::a7::a8::a9::gho rows:Ro)[10+(1000+j - 1000)]? = some (.own (some (1000+j)) (row.map D.int)):=by
  rw[show 1000+j - 1000=j by omega,anb,aik h]
 unfold mGh;rw[e];show(if 1000+j=1000+j then some (Out.ok (10+(1000+j - 1000)),_) else none)=_
 rw[if_pos rfl,show 1000+j - 1000=j by omega]
theorem apv{r:Int}(h0:0<=r)(h:rows[r.toNat]? = some row) :
  mRow 6 10 (mVar 5) (a0::a1::a2::a3::a4::.val (.int r)::.lol (tags rows.length)::a7::a8::a9::gho rows)=some (.ok (10+r.toNat),a0::a1::a2::a3::a4::.val (.int r)::.lol (tags rows.length)::a7::a8::a9::gho rows):=by
 have hj:=(aM.mp h).1;have e:=azq (n:=rows.length) h0 (by omega)
 have g:=a6t (a0:=a0) (a1:=a1) (a2:=a2) (a3:=a3) (a4:=a4) (a5:=.val (.int r)) (a6:=.lol (tags rows.length)) (a7:=a7) (a8:=a8) (a9:=a9) h;generalize tags rows.length=tt at *;have l3:mLol 6 (a0::a1::a2::a3::a4::.val (.int r)::.lol tt::a7::a8::a9::gho rows)=some (.ok tt,a0::a1::a2::a3::a4::.val (.int r)::.lol tt::a7::a8::a9::gho rows):=rfl;have v6:mVar 5 (a0::a1::a2::a3::a4::.val (.int r)::.lol tt::a7::a8::a9::gho rows)=some (.ok (.int r),a0::a1::a2::a3::a4::.val (.int r)::.lol tt::a7::a8::a9::gho rows):=rfl;unfold mRow;rw[bind_eq l3,bind_eq v6,bind_eq l3];show((lift (atI tt r)).bind fun k=>mGh 10 k) _=_
 rw[e];exact g
theorem avm(h:rows[j]? = some row):dj (10+j) (a0::a1::a2::a3::a4::a5::a6::a7::a8::a9::gho rows)=some (.ok (.lst (row.map D.int)),a0::a1::a2::a3::a4::a5::a6::a7::a8::a9::gho rows):=by
 unfold dj;rw[anb,aik h]
theorem avv(h:rows[j]? = some row):mOwn (10+j) (a0::a1::a2::a3::a4::a5::a6::a7::a8::a9::gho rows)=some (.ok (row.map D.int),a0::a1::a2::a3::a4::a5::a6::a7::a8::a9::gho rows):=by
 unfold mOwn;rw[anb,aik h]
theorem amk(h:rows[j]? = some row)(l:List Int):acl (10+j) (l.map D.int) (a0::a1::a2::a3::a4::a5::a6::a7::a8::a9::gho rows)=some (.ok (),a0::a1::a2::a3::a4::a5::a6::a7::a8::a9::gho (rows.set j l)):=by
 unfold acl;rw[anb,aik h];show some (Out.ok (),cG (a0::a1::a2::a3::a4::a5::a6::a7::a8::a9::gho rows) (10+j) (.own (some (1000+j)) (l.map D.int)))=_;rw[a2n,ayc (aM.mp h).1]
end
theorem aq4(l:List Int)(k x:Int):∃l':List Int,insD (l.map D.int) k (.int x)=l'.map D.int/\l'.Perm (x::l):=by
 refine⟨l.take (if k < 0 then (k+(l.length:Int)).toNat else min k.toNat l.length)++x::l.drop (if k < 0 then (k+(l.length:Int)).toNat else min k.toNat l.length),?_,?_⟩
 ·unfold insD;rw[aD];simp only[cJ,bR,pA,pB]
 ·generalize (if k < 0 then (k+(l.length:Int)).toNat else min k.toNat l.length)=j
  have e:=xM (a:=x) (l₁:=l.take j) (l₂:=l.drop j);rw[List.take_append_drop] at e;exact e
theorem a6q(P:Int×Int)(T:Option Nat)(M1 X2 N3:Sl)(R:Ro)(r:Int)(r0:0<=r)(r1:r<=10)(hs:List Int)(hl:hs.length<=20):∃(P':Int×Int) (hs':List Int),mj (.own T (pen P)::M1::X2::N3::.own none (hs.map D.int)::.val (.int r)::R)=some (.nx,.own T (pen P')::M1::X2::N3::.own none (hs'.map D.int)::.val (.int r)::R)/\hs'.Perm (r::hs):=by
 obtain⟨q,P2,e2,q0,q1⟩:=lw P (r+1) (by omega) (by omega)
 obtain⟨hs',ei,hp⟩:=aq4 hs q r;have hcap:(hs.map D.int).length < capS:=by rw[aD];exact jM hl (by decide)
 have q63 : -9223372036854775808<=q/\q < 9223372036854775808:=by omega
 refine⟨P2,hs',?_,hp⟩;generalize hs.map D.int=sl at *;generalize hs'.map D.int=sl' at *;simp[mj,e2,ei,q63,hcap]
theorem a2f(T:Option Nat)(M1 X2 N3:Sl)(R:Ro):∀(rs:List Int) (P:Int×Int) (hs:List Int) (o5:Sl),(∀r∈rs,0<=r/\r<=10)->hs.length+rs.length<=20->tagB o5=true->∃(P':Int×Int) (hs':List Int) (o5':Sl),forD (bj 5) mj (rs.map D.int) (.own T (pen P)::M1::X2::N3::.own none (hs.map D.int)::o5::R)=some (.nx,.own T (pen P')::M1::X2::N3::.own none (hs'.map D.int)::o5'::R)/\hs'.Perm (rs++hs)/\tagB o5'=true
 | [],P,hs,o5,_,_,t=>⟨P,hs,o5,rfl,.refl _,t⟩
 | r::rs,P,hs,o5,h,hl,t=>by
  obtain⟨P1,h1,e1,p1⟩:=a6q P T M1 X2 N3 R r (h r (aN ..)).1 (h r (aN ..)).2 hs (by omega)
  have l1:=p1.length_eq;obtain⟨P2,h2,o,e2,p2,t2⟩:=a2f T M1 X2 N3 R rs P1 h1 (.val (.int r)) (fun x hx=>h x (aK _ hx)) (by simp at l1 hl ⊢;omega) rfl
  refine⟨P2,h2,o,?_,p2.trans ((p1.append_left rs).trans xM),t2⟩;rw[bR,jt];simp only[uw,fH,fG];rw[e1];exact e2
theorem avu{c:List Int}{k:Nat}(hk:k < c.length):atI (c.map D.int) ((k:Int) - 1)=some (.int (prd c k)):=by
 have hm:=oE (k+c.length - 1) (show 0 < c.length by omega)
 have e:ixN (c.map D.int).length ((k:Int) - 1)=some ((k+c.length - 1) % c.length):=by
  rw[aD];unfold ixN;cases k with
  | zero =>
   rw[lA (by omega)]
   simp;omega
  | succ j =>
   rw[show j+1+c.length - 1=j+c.length by omega,oG,lA (by omega)]
   simp;omega
 unfold atI;rw[e];show(c.map D.int)[(k+c.length - 1) % c.length]? = _;rw[bK,aC hm];unfold prd;rw[aP,aC hm];rfl
structure RowOk (n:Nat) (rows:LL9):Prop where
 len:rows.length=n
 row:∀r∈rows,r.length<=6/\∀x∈r,0<=x/\x < (n:Int)
section
variable{rows:LL9}{row:List Int}
theorem a4v(Pn:Sl)(M1 X2 N3 A8 A9:Sl)(c:List Int)(k:Nat)(hk:k < c.length)(x:Int)(h0:0<=x)(hr:rows[x.toNat]? = some row)(h6:row.length<=6) :
  qi (Pn::M1::X2::N3::.val (.lst (c.map D.int))::.val (.int x)::.lol (tags rows.length)::.val (.int (k:Int))::A8::A9::gho rows)=some (.nx,Pn::M1::X2::N3::.val (.lst (c.map D.int))::.val (.int x)::.lol (tags rows.length)::.val (.int (k:Int))::A8::A9::gho (rows.set x.toNat (row++[prd c k]))):=by
 have ey:=avu hk;have er:=apv (a0:=Pn) (a1:=M1) (a2:=X2) (a3:=N3) (a4:=.val (.lst (c.map D.int))) (a7:=.val (.int (k:Int))) (a8:=A8) (a9:=A9) (rows:=rows) (row:=row) (r:=x) h0 hr;have ew:=avv (a0:=Pn) (a1:=M1) (a2:=X2) (a3:=N3) (a4:=.val (.lst (c.map D.int))) (a5:=.val (.int x)) (a6:=.lol (tags rows.length)) (a7:=.val (.int (k:Int))) (a8:=A8) (a9:=A9) hr;have es:=amk (a0:=Pn) (a1:=M1) (a2:=X2) (a3:=N3) (a4:=.val (.lst (c.map D.int))) (a5:=.val (.int x)) (a6:=.lol (tags rows.length)) (a7:=.val (.int (k:Int))) (a8:=A8) (a9:=A9) hr (row++[prd c k]);have ea:(ak (M.d (mOp gIx (bz 4 (M.d (mOp (gInt fSub) (bz 7 (ret (.int 1)))))))) mNil) (Pn::M1::X2::N3::.val (.lst (c.map D.int))::.val (.int x)::.lol (tags rows.length)::.val (.int (k:Int))::A8::A9::gho rows)=some (.ok [.int (prd c k)],Pn::M1::X2::N3::.val (.lst (c.map D.int))::.val (.int x)::.lol (tags rows.length)::.val (.int (k:Int))::A8::A9::gho rows):=by
  generalize tags rows.length=tt at *;generalize gho rows=gg at *;generalize c.map D.int=sl at *;simp[ey]
 have eg:aau (row.map D.int) [.int (prd c k)]=some (.non,(row++[prd c k]).map D.int):=by
  have:(row.map D.int).length < capS:=by rw[aD];exact jM h6 (by decide)
  rw[alz,if_pos this,cJ];rfl
 have em:(alm (mRow 6 10 (mVar 5)) aau (ak (M.d (mOp gIx (bz 4 (M.d (mOp (gInt fSub) (bz 7 (ret (.int 1)))))))) mNil)) (Pn::M1::X2::N3::.val (.lst (c.map D.int))::.val (.int x)::.lol (tags rows.length)::.val (.int (k:Int))::A8::A9::gho rows)=some (.ok .non,Pn::M1::X2::N3::.val (.lst (c.map D.int))::.val (.int x)::.lol (tags rows.length)::.val (.int (k:Int))::A8::A9::gho (rows.set x.toNat (row++[prd c k]))):=by
  unfold alm;rw[bind_eq er,bind_eq ea,bind_eq ew,eg];rw[bind_eq (show lift (some (D.non,(row++[prd c k]).map D.int)) _=some (.ok (D.non,(row++[prd c k]).map D.int),_) from rfl),bind_eq es]
  rfl
 unfold qi;rw[anm,ayx];unfold M.v;rw[bind_eq em];rfl
theorem a4u(P:Int×Int)(T:Option Nat)(M1 X2 N3 A4 A8:Sl)(c:List Int)(k:Nat)(hk:k < c.length)(x:Int)(h0:0<=x)(hr:rows[x.toNat]? = some row)(h6:row.length<=6) :
  ∃(P':Int×Int) (row':List Int),row'.Perm (prd c k::row)/\ur (.own T (pen P)::M1::X2::N3::A4::.val (.int x)::.lol (tags rows.length)::.val (.int (k:Int))::A8::.val (.lst (c.map D.int))::gho rows)=some (.nx,.own T (pen P')::M1::X2::N3::A4::.val (.int x)::.lol (tags rows.length)::.val (.int (k:Int))::A8::.val (.lst (c.map D.int))::gho (rows.set x.toNat row')):=by
 have ey:=avu hk;obtain⟨q,P2,e2,q0,q1⟩:=lw P (((row.map D.int).length:Int)+1) (by omega) (by rw[aD];omega)
 obtain⟨row',ei,hp⟩:=aq4 row q (prd c k);refine⟨P2,row',hp,?_⟩;have er:=apv (a0:=.own T (pen P)) (a1:=M1) (a2:=X2) (a3:=N3) (a4:=A4) (a7:=.val (.int (k:Int))) (a8:=A8) (a9:=.val (.lst (c.map D.int))) (rows:=rows) (row:=row) (r:=x) h0 hr;have ev:=avm (a0:=.own T (pen P)) (a1:=M1) (a2:=X2) (a3:=N3) (a4:=A4) (a5:=.val (.int x)) (a6:=.lol (tags rows.length)) (a7:=.val (.int (k:Int))) (a8:=A8) (a9:=.val (.lst (c.map D.int))) hr;have eo:mOne (mPtB (mRow 6 10 (mVar 5))) (.own T (pen P)::M1::X2::N3::A4::.val (.int x)::.lol (tags rows.length)::.val (.int (k:Int))::A8::.val (.lst (c.map D.int))::gho rows)=some (.ok [.lst (row.map D.int)],.own T (pen P)::M1::X2::N3::A4::.val (.int x)::.lol (tags rows.length)::.val (.int (k:Int))::A8::.val (.lst (c.map D.int))::gho rows):=by
  have e5:=(bind_eq (k:=fun g=>dj g) er).trans ev
  unfold mOne mPtB;rw[bind_eq e5];rfl
 have ea:(ak (M.d (mFn f__law_draw [some 0,none] (dq 0 (b8 (M.d (mOp gAdd (dz (M.d (fu (g1 gL9) (mOne (mPtB (mRow 6 10 (mVar 5)))))) (ret (.int 1))))) gm)))) (ak (M.d (mOp gIx (bz 9 (M.d (mOp (gInt fSub) (bz 7 (ret (.int 1)))))))) mNil)) (.own T (pen P)::M1::X2::N3::A4::.val (.int x)::.lol (tags rows.length)::.val (.int (k:Int))::A8::.val (.lst (c.map D.int))::gho rows)=some (.ok [.int q,.int (prd c k)],.own T (pen P2)::M1::X2::N3::A4::.val (.int x)::.lol (tags rows.length)::.val (.int (k:Int))::A8::.val (.lst (c.map D.int))::gho rows):=by
  clear ei
  generalize tags rows.length=tt at *;generalize gho rows=gg at *;generalize c.map D.int=sl at *;generalize row.map D.int=rr at *;simp[eo,e2,ey]
 have ew:=avv (a0:=.own T (pen P2)) (a1:=M1) (a2:=X2) (a3:=N3) (a4:=A4) (a5:=.val (.int x)) (a6:=.lol (tags rows.length)) (a7:=.val (.int (k:Int))) (a8:=A8) (a9:=.val (.lst (c.map D.int))) hr;have es:=amk (a0:=.own T (pen P2)) (a1:=M1) (a2:=X2) (a3:=N3) (a4:=A4) (a5:=.val (.int x)) (a6:=.lol (tags rows.length)) (a7:=.val (.int (k:Int))) (a8:=A8) (a9:=.val (.lst (c.map D.int))) hr row';have eg:ac9 (row.map D.int) [.int q,.int (prd c k)]=some (.non,row'.map D.int):=by
  rw[alw,if_pos ⟨by rw[aD] at q1;omega,by rw[aD] at q1;omega,by rw[aD];exact jM h6 (by decide)⟩,ei]
 have em:(alm (mRow 6 10 (mVar 5)) ac9 (ak (M.d (mFn f__law_draw [some 0,none] (dq 0 (b8 (M.d (mOp gAdd (dz (M.d (fu (g1 gL9) (mOne (mPtB (mRow 6 10 (mVar 5)))))) (ret (.int 1))))) gm)))) (ak (M.d (mOp gIx (bz 9 (M.d (mOp (gInt fSub) (bz 7 (ret (.int 1)))))))) mNil))) (.own T (pen P)::M1::X2::N3::A4::.val (.int x)::.lol (tags rows.length)::.val (.int (k:Int))::A8::.val (.lst (c.map D.int))::gho rows)=some (.ok .non,.own T (pen P2)::M1::X2::N3::A4::.val (.int x)::.lol (tags rows.length)::.val (.int (k:Int))::A8::.val (.lst (c.map D.int))::gho (rows.set x.toNat row')):=by
  unfold alm;rw[bind_eq er,bind_eq ea,bind_eq ew,eg];rw[bind_eq (show lift (some (D.non,row'.map D.int)) _=some (.ok (D.non,row'.map D.int),_) from rfl),bind_eq es]
  rfl
 unfold ur;rw[anm,ayx];unfold M.v;rw[bind_eq em];rfl
end
def enA(i:Nat)(l:List D):List D:=l.mapIdx fun j d=>.tup [.int ((i+j:Nat):Int),d]
theorem aiv(i:Nat)(d:D)(l:List D):enA i (d::l)=.tup [.int (i:Int),d]::enA (i+1) l:=by
 unfold enA;rw[xN]
 congr 1
 congr 1
 funext j d
 rw[show i+(j+1)=i+1+j by omega]
theorem aiu(l:List D):afb l=enA 0 l:=by
 unfold afb enA
 congr 1
 funext j d
 rw[eN]
theorem ajh{n:Nat}{rows:LL9}(h:RowOk n rows){j:Nat}{row':List Int}(h6:row'.length<=6)(hx:∀x∈row',0<=x/\x < (n:Int)):RowOk n (rows.set j row') :=
 ⟨by rw[dR];exact h.len,fun r hr=>by
  rcases List.mem_or_eq_of_mem_set hr with z | rfl
  ·exact h.row r z
  ·exact⟨h6,hx⟩⟩
section
variable{n:Nat}{rows0:LL9}{c:List Int}(hc:∀x∈c,0<=x/\x < (n:Int))(nd:c.Nodup)(hz:rows0.length=n)(h5:∀x∈c,∀row,rows0[x.toNat]? = some row->row.length < 6)
include hc nd hz h5
theorem ap5{k:Nat}(hk:k < c.length):prd c k∈c:=by
 have hm:=oE (k+c.length - 1) (show 0 < c.length by omega)
 unfold prd;rw[aP,aC hm];exact cY hm
theorem amx{k:Nat}{rows:LL9}(L:Lp rows0 c k rows)(hk:k < c.length):∃row,c.getD k 0=c[k]/\rows[(c.getD k 0).toNat]? = some row/\row.length < 6:=by
 have hkm:c.getD k 0=c[k]:=by rw[aP,aC hk];rfl
 have hx:=hc _ (cY hk);have hlt:(c.getD k 0).toNat < rows.length:=by rw[L.len,hz,hkm];omega
 refine⟨_,hkm,aC hlt,?_⟩;obtain⟨r0,e1,e2,_⟩:=L.out _ _ (aC hlt);have e0:(c.take k).count ((((c.getD k 0).toNat:Nat):Int))=0:=by
  rw[hkm,show((c[k].toNat:Nat):Int)=c[k] by omega]
  refine List.count_eq_zero.mpr fun z =>?_
  obtain⟨i,hi,e⟩:=cT.mp z;rw[rP] at e;have hi:i < k:=by simp at hi;omega
  exact eG.mp nd i k (by omega) hk hi e
 rw[e2,e0];exact h5 _ (by rw[hkm];exact cY hk) r0 e1
theorem a1m(hn:n<=6)(Pn M1 X2 N3 A8 A9:Sl):∀(rs:List Int) (k:Nat),k<=c.length->c.drop k=rs->∀(rows:LL9),Lp rows0 c k rows->RowOk n rows->∀o5 o7:Sl,tagB o5=true->tagB o7=true ->
  ∃(rows':LL9) (o5' o7':Sl),forD (bTup 2 (jc (bj 7) (jc (bj 5) bNil))) qi (enA k (rs.map D.int)) (Pn::M1::X2::N3::.val (.lst (c.map D.int))::o5::.lol (tags rows.length)::o7::A8::A9::gho rows)=some (.nx,Pn::M1::X2::N3::.val (.lst (c.map D.int))::o5'::.lol (tags rows'.length)::o7'::A8::A9::gho rows')/\Lp rows0 c c.length rows'/\RowOk n rows'/\tagB o5'=true/\tagB o7'=true
 | [],k,le,e,rows,L,h,o5,o7,t5,t7=>⟨rows,o5,o7,rfl,by
  have hk:k=c.length:=by have:=mJ.mp e;omega
  rw[<-hk];exact L,h,t5,t7⟩
 | x::rs,k,le,e,rows,L,h,o5,o7,t5,t7=>by
  have hk:k < c.length:=by
   apply fM;intro z;rw[mJ.mpr (by omega)] at e
   cases e
  rw[iJ hk] at e
  injection e with ex er
  obtain⟨row,hkm,hr,h6⟩:=amx hc nd hz h5 L hk;have L1:=L.step hk (fun x hx=>(hc x hx).1) nd hr (mZ (prd c k) row)
  rw[hkm,ex] at hr L1;have h1:RowOk n (rows.set x.toNat (row++[prd c k])):=ajh h (by simp;omega) fun z hz'=>by
   rcases bZ.mp hz' with q | q
   ·exact(h.row row (dD hr)).2 z q
   ·rw[bD.mp q];exact hc _ (ap5 hc nd hz h5 hk)
  have t:=a4v (rows:=rows) (row:=row) Pn M1 X2 N3 A8 A9 c k hk x (by rw[<-ex];exact(hc _ (cY hk)).1) hr (by omega)
  obtain⟨rows2,o5',o7',e2,L2,h2⟩:=a1m hn Pn M1 X2 N3 A8 A9 rs (k+1) (by omega) er _ L1 h1 (.val (.int x)) (.val (.int (k:Int))) rfl rfl
  refine⟨rows2,o5',o7',?_,L2,h2⟩;rw[bR,aiv,jt];have eb:(bTup 2 (jc (bj 7) (jc (bj 5) bNil))) (.tup [.int (k:Int),.int x]) (Pn::M1::X2::N3::.val (.lst (c.map D.int))::o5::.lol (tags rows.length)::o7::A8::A9::gho rows)=some (Pn::M1::X2::N3::.val (.lst (c.map D.int))::.val (.int x)::.lol (tags rows.length)::.val (.int (k:Int))::A8::A9::gho rows):=rfl;rw[eb];dsimp only;rw[t];rw[dR] at e2;exact e2
theorem a1l(hn:n<=6)(T:Option Nat)(M1 X2 N3 A4 A8:Sl):∀(rs:List Int) (k:Nat),k<=c.length->c.drop k=rs->∀(rows:LL9),Lp rows0 c k rows->RowOk n rows->∀(P:Int×Int) (o5 o7:Sl),tagB o5=true->tagB o7=true ->
  ∃(P':Int×Int) (rows':LL9) (o5' o7':Sl),forD (bTup 2 (jc (bj 7) (jc (bj 5) bNil))) ur (enA k (rs.map D.int)) (.own T (pen P)::M1::X2::N3::A4::o5::.lol (tags rows.length)::o7::A8::.val (.lst (c.map D.int))::gho rows)=some (.nx,.own T (pen P')::M1::X2::N3::A4::o5'::.lol (tags rows'.length)::o7'::A8::.val (.lst (c.map D.int))::gho rows')/\Lp rows0 c c.length rows'/\RowOk n rows'/\tagB o5'=true/\tagB o7'=true
 | [],k,le,e,rows,L,h,P,o5,o7,t5,t7=>⟨P,rows,o5,o7,rfl,by
  have hk:k=c.length:=by have:=mJ.mp e;omega
  rw[<-hk];exact L,h,t5,t7⟩
 | x::rs,k,le,e,rows,L,h,P,o5,o7,t5,t7=>by
  have hk:k < c.length:=by
   apply fM;intro z;rw[mJ.mpr (by omega)] at e
   cases e
  rw[iJ hk] at e
  injection e with ex er
  obtain⟨row,hkm,hr,h6⟩:=amx hc nd hz h5 L hk;rw[hkm,ex] at hr;obtain⟨P1,row',hp,t⟩:=a4u (rows:=rows) (row:=row) P T M1 X2 N3 A4 A8 c k hk x (by rw[<-ex];exact(hc _ (cY hk)).1) hr (by omega)
  have L1:=L.step hk (fun x hx=>(hc x hx).1) nd (by rw[hkm,ex];exact hr) hp
  rw[hkm,ex] at L1;have h1:RowOk n (rows.set x.toNat row'):=ajh h (by rw[hp.length_eq];simp;omega) fun z hz'=>by
   rcases aZ.mp (hp.mem_iff.mp hz') with q | q
   ·rw[q];exact hc _ (ap5 hc nd hz h5 hk)
   ·exact(h.row row (dD hr)).2 z q
  obtain⟨P2,rows2,o5',o7',e2,L2,h2⟩:=a1l hn T M1 X2 N3 A4 A8 rs (k+1) (by omega) er _ L1 h1 P1 (.val (.int x)) (.val (.int (k:Int))) rfl rfl
  refine⟨P2,rows2,o5',o7',?_,L2,h2⟩;rw[bR,aiv,jt];have eb:(bTup 2 (jc (bj 7) (jc (bj 5) bNil))) (.tup [.int (k:Int),.int x]) (.own T (pen P)::M1::X2::N3::A4::o5::.lol (tags rows.length)::o7::A8::.val (.lst (c.map D.int))::gho rows)=some (.own T (pen P)::M1::X2::N3::A4::.val (.int x)::.lol (tags rows.length)::.val (.int (k:Int))::A8::.val (.lst (c.map D.int))::gho rows):=rfl;rw[eb];dsimp only;rw[t];rw[dR] at e2;exact e2
end
theorem a5m{rows:LL9}{n:Nat}(h:RowOk n rows)(hn:n<=6)(P:Int×Int)(T:Option Nat)(M1 X2 N3 A4 A7 A8:Sl)(r:Nat)(hr:r < n)(ss:List Int)(hs:ss.length<=10):∃(P':Int×Int) (ss':List Int),jz (.own T (pen P)::M1::X2::N3::A4::.val (.int (r:Int))::.lol (tags rows.length)::A7::A8::.own none (ss.map D.int)::gho rows)=some (.nx,.own T (pen P')::M1::X2::N3::A4::.val (.int (r:Int))::.lol (tags rows.length)::A7::A8::.own none (ss'.map D.int)::gho rows)/\(ss'=ss∨(ss'.Perm ((r:Int)::ss)/\∀row,rows[r]? = some row->row.length < 6)):=by
 have hl:=h.len;have hr':rows[r]? = some rows[r]:=aC (by omega)
 have er:=apv (a0:=.own T (pen P)) (a1:=M1) (a2:=X2) (a3:=N3) (a4:=A4) (a7:=A7) (a8:=A8) (a9:=.own none (ss.map D.int)) (rows:=rows) (row:=rows[r]) (r:=(r:Int)) (by omega) (by rw[fB];exact hr')
 have ev:=avm (a0:=.own T (pen P)) (a1:=M1) (a2:=X2) (a3:=N3) (a4:=A4) (a5:=.val (.int (r:Int))) (a6:=.lol (tags rows.length)) (a7:=A7) (a8:=A8) (a9:=.own none (ss.map D.int)) hr';have eo:mOne (mPtB (mRow 6 10 (mVar 5))) (.own T (pen P)::M1::X2::N3::A4::.val (.int (r:Int))::.lol (tags rows.length)::A7::A8::.own none (ss.map D.int)::gho rows)=some (.ok [.lst (rows[r].map D.int)],.own T (pen P)::M1::X2::N3::A4::.val (.int (r:Int))::.lol (tags rows.length)::A7::A8::.own none (ss.map D.int)::gho rows):=by
  rw[fB] at er;have e5:=(bind_eq (k:=fun g=>dj g) er).trans ev
  unfold mOne mPtB;rw[bind_eq e5];rfl
 have hrl:(rows[r].map D.int).length=rows[r].length:=aD ..
 by_cases c1:rows[r].length < 6
 ·have hc1:((rows[r].length:Nat):Int) < 6:=by omega
  obtain⟨w,P1,e1,w0,w1⟩:=lw P 2 (by decide) (by decide)
  by_cases c2:w=0
  ·obtain⟨q,P2,e2,q0,q1⟩:=lw P1 (((ss.map D.int).length:Int)+1) (by omega) (by rw[aD];omega)
   obtain⟨ss',ei,hp⟩:=aq4 ss q (r:Int);have hcap:(ss.map D.int).length < capS:=by rw[aD];exact jM hs (by decide)
   have q63 : -9223372036854775808<=q/\q < 9223372036854775808:=by rw[aD] at q1;omega
   refine⟨P2,ss',?_,.inr ⟨hp,fun row hrow =>?_⟩⟩
   ·generalize tags rows.length=tt at *;generalize gho rows=gg at *;generalize ss.map D.int=sl at *;generalize ss'.map D.int=sl' at *;simp[jz,eo,hrl,hc1,c2,e1,e2,ei,q63,hcap]
   ·rw[hr'] at hrow;cases hrow;exact c1
  ·refine⟨P1,ss,?_,.inl rfl⟩;generalize tags rows.length=tt at *;generalize gho rows=gg at *;generalize ss.map D.int=sl at *;simp[jz,eo,hrl,hc1,c2,e1]
 ·refine⟨P,ss,?_,.inl rfl⟩;have hc1:¬((rows[r].length:Nat):Int) < 6:=by omega
  generalize tags rows.length=tt at *;generalize gho rows=gg at *;generalize ss.map D.int=sl at *;simp[jz,eo,hrl,hc1]
theorem a5l{rows:LL9}{n:Nat}(h:RowOk n rows)(hn:n<=6)(P:Int×Int)(T:Option Nat)(M1 X2 N3 A4 A7 A8 o5:Sl)(t5:tagB o5=true):∃(P':Int×Int) (ss:List Int) (o5':Sl),forD (bj 5) jz (dg 0 n) (.own T (pen P)::M1::X2::N3::A4::o5::.lol (tags rows.length)::A7::A8::.own none []::gho rows)=some (.nx,.own T (pen P')::M1::X2::N3::A4::o5'::.lol (tags rows.length)::A7::A8::.own none (ss.map D.int)::gho rows)/\tagB o5'=true/\ss.Nodup/\(∀x∈ss,0<=x/\x < (n:Int))/\∀x∈ss,∀row,rows[x.toNat]? = some row->row.length < 6:=by
 have loop:=afg (b:=bj 5) (g:=jz) (fun i ρ=>∃(P:Int×Int) (ss:List Int) (o5:Sl),ρ=(.own T (pen P)::M1::X2::N3::A4::o5::.lol (tags rows.length)::A7::A8::.own none (ss.map D.int)::gho rows:Ro)/\tagB o5=true/\ss.Nodup/\ss.length<=i/\∀x∈ss,0<=x/\x < (i:Int)/\∀row,rows[x.toNat]? = some row->row.length < 6)
  (l:=dg 0 n) (ρ:=.own T (pen P)::M1::X2::N3::A4::o5::.lol (tags rows.length)::A7::A8::.own none []::gho rows) 0 ⟨P,[],o5,rfl,t5,oK,aO _,fun _ z=>by cases z⟩ ?_
 ·obtain⟨ρ',e,P',ss,o5',rfl,tt,hnd,hl,hx⟩:=loop;have hrl:(dg 0 n).length=n:=by unfold dg;simp
  rw[hrl,eN] at hx;exact⟨P',ss,o5',e,tt,hnd,fun x hx'=>⟨(hx x hx').1,(hx x hx').2.1⟩,fun x hx'=>(hx x hx').2.2⟩
 ·rintro i d ρ hd ⟨P1,ss,o5,rfl,tt,hnd,hl,hx⟩
  rw[eN] at *;have hi:i < n:=by
   have:=(aM.mp hd).1;unfold dg at this
   simpa using this
  have ed:d=.int (i:Int):=by
   unfold dg at hd;rw[bK,lB hi] at hd
   simpa using hd.symm
  subst ed;obtain⟨P2,ss',e,hc⟩:=a5m h hn P1 T M1 X2 N3 A4 A7 A8 i hi ss (by omega)
  refine⟨_,_,rfl,.inl e,P2,ss',_,rfl,rfl,?_⟩;rcases hc with rfl | ⟨hp,hr⟩
  ·exact⟨hnd,by omega,fun x hx'=>⟨(hx x hx').1,by have:=(hx x hx').2.1;omega,(hx x hx').2.2⟩⟩
  ·refine⟨hp.nodup_iff.mpr (gW.mpr ⟨fun z =>?_,hnd⟩),by rw[hp.length_eq];simp;omega,fun x hx' =>?_⟩
   ·have:=(hx _ z).2.1;omega
   ·rcases aZ.mp (hp.mem_iff.mp hx') with rfl | z
    ·exact⟨by omega,by omega,by rw[fB];exact hr⟩
    ·exact⟨(hx x z).1,by have:=(hx x z).2.1;omega,(hx x z).2.2⟩
def More(rows rows':LL9):Prop:=∀(j:Nat) (r':List Int),rows'[j]? = some r'->∃r,rows[j]? = some r/\∀x∈r,x∈r'
theorem More.trans{a b c:LL9}(h:More a b)(k:More b c):More a c:=fun j r hr=>by
 obtain⟨r1,e1,s1⟩:=k j r hr;obtain⟨r2,e2,s2⟩:=h j r1 e1;exact⟨r2,e2,fun x hx=>s1 x (s2 x hx)⟩
theorem More.refl(a:LL9):More a a:=fun j r hr=>⟨r,hr,fun _ z=>z⟩
theorem ahz(n:Nat)(hn:n<=100):jr [.int (n:Int)]=some (dg 0 n):=by
 have:∀i:Int,jr [.int i]=if i.natAbs < 4611686018427387904 then some (dg 0 i.toNat) else none:=fun _=>rfl
 rw[this,if_pos (by omega)]
 simp
theorem a4t{n:Nat}(hn:n<=6){rows:LL9}(h:RowOk n rows)(b:Bal rows)(P:Int×Int)(T:Option Nat)(M1 X2 A4 A8 o5 o7 o9:Sl)(t5:tagB o5=true)(t7:tagB o7=true) :
  ∃(P':Int×Int) (rows':LL9) (o5' o7' o9':Sl),qg (.own T (pen P)::M1::X2::.val (.int (n:Int))::A4::o5::.lol (tags rows.length)::o7::A8::o9::gho rows)=some (.nx,.own T (pen P')::M1::X2::.val (.int (n:Int))::A4::o5'::.lol (tags rows'.length)::o7'::A8::o9'::gho rows')/\RowOk n rows'/\Bal rows'/\More rows rows'/\tagB o5'=true/\tagB o7'=true/\tagB o9'=true:=by
 obtain⟨P1,ss,o5a,e1,t5a,nd,hx,h5⟩:=a5l h hn P T M1 X2 (.val (.int (n:Int))) A4 o7 A8 o5 t5;obtain⟨P2,rows2,o5b,o7b,e2,L2,h2,t5b,t7b⟩:=a1l hx nd h.len h5 hn T M1 X2 (.val (.int (n:Int))) A4 A8 ss 0 (cI _) rfl rows (Lp.start rows ss) h P1 o5a o7 t5a t7;refine⟨P2,rows2,o5b,o7b,.val (.lst (ss.map D.int)),?_,h2,L2.bal b,fun j r hr =>?_,t5b,t7b,rfl⟩
 ·rw[<-aiu] at e2;have hr:=ahz n (by omega)
  generalize dg 0 n=RR at *;generalize tags rows2.length=tt2 at *;generalize gho rows2=gg2 at *;generalize tags rows.length=tt at *;generalize gho rows=gg at *
  clear L2 h5 hx nd
  generalize ss.map D.int=sl at *;simp[-aat,qg,hr,e1,e2]
 ·obtain⟨r0,e3,_,e4⟩:=L2.out j r hr;exact⟨r0,e3,e4⟩
theorem avn{n:Nat}(hn:n<=6)(T:Option Nat)(M1 X2 A4:Sl):∀(l:List Int) {rows:LL9},RowOk n rows->Bal rows->∀(P:Int×Int) (o5 o7 o8 o9:Sl),tagB o5=true->tagB o7=true->tagB o8=true->tagB o9=true ->
  ∃(P':Int×Int) (rows':LL9) (o5' o7' o8' o9':Sl),forD (bj 8) qg (l.map D.int) (.own T (pen P)::M1::X2::.val (.int (n:Int))::A4::o5::.lol (tags rows.length)::o7::o8::o9::gho rows)=some (.nx,.own T (pen P')::M1::X2::.val (.int (n:Int))::A4::o5'::.lol (tags rows'.length)::o7'::o8'::o9'::gho rows')/\RowOk n rows'/\Bal rows'/\More rows rows'/\tagB o5'=true/\tagB o7'=true/\tagB o8'=true/\tagB o9'=true
 | [],rows,h,b,P,o5,o7,o8,o9,t5,t7,t8,t9=>⟨P,rows,o5,o7,o8,o9,rfl,h,b,More.refl _,t5,t7,t8,t9⟩
 | tn::l,rows,h,b,P,o5,o7,o8,o9,t5,t7,t8,t9=>by
  obtain⟨P1,r1,p5,p7,p9,e1,h1,b1,m1,s5,s7,s9⟩:=a4t hn h b P T M1 X2 A4 (.val (.int tn)) o5 o7 o9 t5 t7;obtain⟨P2,r2,q5,q7,q8,q9,e2,h2,b2,m2,u⟩:=avn hn T M1 X2 A4 l h1 b1 P1 p5 p7 (.val (.int tn)) p9 s5 s7 rfl s9;refine⟨P2,r2,q5,q7,q8,q9,?_,h2,b2,m1.trans m2,u⟩;rw[bR,jt];have eb:(bj 8) (.int tn) (.own T (pen P)::M1::X2::.val (.int (n:Int))::A4::o5::.lol (tags rows.length)::o7::o8::o9::gho rows)=some (.own T (pen P)::M1::X2::.val (.int (n:Int))::A4::o5::.lol (tags rows.length)::o7::.val (.int tn)::o9::gho rows):=rfl;rw[eb];dsimp only;rw[e1];exact e2
theorem seq2{g1 g2:Sd}{ρ ρ':Ro}(h1:g1 ρ=some (.nx,ρ')):dSeq g1 g2 ρ=g2 ρ':=by simp[h1]
theorem aki:∀(l:List D) (ys:List (List D)) (o:Sl),∃o',compR (bj 0) qe l ys [o]=some (.ok (ys++aF l.length []),[o'])
 | [],ys,o=>⟨o,by simp[compR]⟩
 | d::l,ys,o=>by
  obtain⟨o',e⟩:=aki l (ys++[[]]) (.val d);refine⟨o',?_⟩;have er:qe [.val d]=some (.ok (.fr []),[.val d]):=rfl;unfold compR;rw[uw];dsimp only;show(qe.bind _) [.val d]=_;rw[bind_eq er];dsimp only;rw[e,lW,bJ,fZ];rfl
theorem ayk{a0 a1 a2 a3 a4 a5 a6 a7 a8 a9:Sl}:∀(rows:LL9),rows.length<=6->frzR 10 (tags rows.length) (a0::a1::a2::a3::a4::a5::a6::a7::a8::a9::gho rows)=some (rows.map fun r=>r.map D.int,a0::a1::a2::a3::a4::a5::a6::a7::a8::a9::aF 6 .emp)
 | [],_=>by kernel_rfl
 | [_],_=>by kernel_rfl
 | [_,_],_=>by kernel_rfl
 | [_,_,_],_=>by kernel_rfl
 | [_,_,_,_],_=>by kernel_rfl
 | [_,_,_,_,_],_=>by kernel_rfl
 | [_,_,_,_,_,_],_=>by kernel_rfl
 | _::_::_::_::_::_::_::_,h=>by simp at h
theorem awz(n:Nat)(hn:n<=6){a0 a1 a2 a3 a4 a5 a6 a7 a8 a9:Sl}:setG ((aF n ([]:List D)).map mkR) (List.take n [10,11,12,13,14,15]) 0 (a0::a1::a2::a3::a4::a5::a6::a7::a8::a9::aF 6 .emp)=some (a0::a1::a2::a3::a4::a5::a6::a7::a8::a9::gho (aF n [])):=by
 have:n=0∨n=1∨n=2∨n=3∨n=4∨n=5∨n=6:=by omega
 rcases this with rfl | rfl | rfl | rfl | rfl | rfl | rfl <;> kernel_rfl
theorem aqr(rows:LL9)(hl:∀r∈rows,r.length<=6):∃o,compD (bj 0) (ret true) qt ((rows.map fun r=>r.map D.int).map D.lst) [] [.emp]=some (.ok (hDs rows),[o]):=by
 have c:=ou (me:=qt) (rest:=[]) (f:=fun d=>match d with | .lst l=>.tup l | d=>d) (l:=(rows.map fun r=>r.map D.int).map D.lst) (ys:=[]) (s:=.emp) fun d hd=>by
  obtain⟨l,hl',rfl⟩:=bI.mp hd;simp[qt]
 refine⟨ack .emp ((rows.map fun r=>r.map D.int).map D.lst),?_⟩
 rw[c,cD,cA,cA];rfl
theorem ak5(P:Int×Int)(m x:Int)(m1:1<=m)(m2:m<=6)(x0:0<=x)(x1:x<=6):∃qv P',f__law_rounds [.own (some 0) (pen P),.val (.int m),.val (.int x)]=some (.ok (.v (hD qv)),[.own (some 0) (pen P'),.val (.int m),.val (.int x)])/\RowOk qv.length qv/\1<=qv.length/\qv.length<=6/\Bal qv/\(∀r∈qv,r≠[])/\∀a b:Int,0<=a->a < (qv.length:Int)->0<=b->b < (qv.length:Int)->Rch qv a b:=by
 obtain⟨r0,P1,e1,r00,r01⟩:=lw P m (by omega) (by omega)
 obtain⟨n,hn⟩:∃n:Nat,(n:Int)=1+r0:=⟨(1+r0).toNat,by omega⟩
 have n1:1<=n:=by omega
 have n6:n<=6:=by omega
 have er:((aR n).map fun(i:Nat)=>(0:Int)+(i:Nat)).map D.int=dg 0 n:=by
  unfold dg;rw[cA];rfl
 obtain⟨P2,c,o5,e2,pc,t5⟩:=a2f (some 0) (.val (.int m)) (.val (.int x)) (.val (.int (n:Int))) (.emp::.emp::.emp::.emp::aF 6 .emp) ((aR n).map fun(i:Nat)=>(0:Int)+(i:Nat)) P1 [] .emp (fun r hr=>by
  obtain⟨i,hi,rfl⟩:=bI.mp hr;have:=dJ.mp hi;omega) (by simp;omega) rfl
 rw[er] at e2;rw[gF] at pc;have cm:∀y:Int,y∈c↔0<=y/\y < (n:Int):=fun y=>by
  rw[pc.mem_iff];constructor
  ·intro h;obtain⟨i,hi,rfl⟩:=bI.mp h;have:=dJ.mp hi;omega
  ·intro h;exact bI.mpr ⟨y.toNat,dJ.mpr (by omega),by omega⟩
 have cn:c.Nodup:=pc.nodup_iff.mpr (by
  refine lV.mpr ?_;exact lM.imp fun h z=>by omega)
 have cl:c.length=n:=by rw[pc.length_eq];simp
 have h0:RowOk n (aF n []):=⟨by simp,fun r hr=>by
  rw[lD hr];exact⟨by simp,fun _ z=>by cases z⟩⟩
 obtain⟨rows1,p5,p7,e3,L1,h1,s5,s7⟩:=a1m (rows0:=aF n []) (c:=c) (fun y hy=>(cm y).mp hy) cn (by simp) (fun y hy row hr=>by
  have:=dD hr;rw[lD this]
  decide) n6 (.own (some 0) (pen P2)) (.val (.int m)) (.val (.int x)) (.val (.int (n:Int))) .emp .emp c 0 (cI _) rfl _ (Lp.start _ c) h0 o5 .emp t5 rfl
 obtain⟨t0,P3,e4,t00,t01⟩:=lw P2 (x+1) (by omega) (by omega)
 have et:((aR t0.toNat).map fun(i:Nat)=>(0:Int)+(i:Nat)).map D.int=dg 0 t0.toNat:=by
  unfold dg;rw[cA];rfl
 obtain⟨P4,rows,q5,q7,q8,q9,e5,h5,b5,mo,u5,u7,u8,u9⟩:=avn n6 (some 0) (.val (.int m)) (.val (.int x)) (.val (.lst (c.map D.int))) ((aR t0.toNat).map fun(i:Nat)=>(0:Int)+(i:Nat)) h1 (L1.bal (ay5 n)) P3 p5 p7 .emp .emp s5 s7 rfl rfl
 rw[et] at e5;have hl:=h5.len;obtain⟨o',ec⟩:=aqr rows fun r hr=>(h5.row r hr).1
 have edge:∀i,i < c.length->prd c i∈dr rows (c.getD i 0):=fun i hi=>by
  have hci:c.getD i 0=c[i]:=by rw[aP,aC hi];rfl
  have hx:=(cm _).mp (cY hi);have hlt:(c.getD i 0).toNat < rows.length:=by rw[hci];omega
  obtain⟨r1,g1,g2⟩:=mo _ _ (aC hlt);unfold dr;rw[aP (l:=rows),aC hlt];exact g2 _ (L1.edg i r1 hi hi g1)
 refine⟨rows,P4,?_,hl▸h5,by omega,by omega,b5,fun r hr z =>?_,fun a b a0 a1 b0 b1 =>?_⟩
 ·have hcR:=ahz n (by omega)
  have hrl:(dg 0 n).length=n:=by unfold dg;simp
  have s1:dSet 3 (mOp gAdd (dz (ret (.int 1)) (M.d (mFn f__law_draw [some 0,some 1] (dq 0 (dq 1 gm)))))) (.own (some 0) (pen P)::.val (.int m)::.val (.int x)::.emp::.emp::.emp::.emp::.emp::.emp::.emp::aF 6 .emp)=some (.nx,.own (some 0) (pen P1)::.val (.int m)::.val (.int x)::.val (.int (n:Int))::.emp::.emp::.emp::.emp::.emp::.emp::aF 6 .emp):=by
   rw[hn];generalize aF 6 Sl.emp=ee;simp[e1]
  have s2:dSet 4 (mLst mNil) (.own (some 0) (pen P1)::.val (.int m)::.val (.int x)::.val (.int (n:Int))::.emp::.emp::.emp::.emp::.emp::.emp::aF 6 .emp)=some (.nx,.own (some 0) (pen P1)::.val (.int m)::.val (.int x)::.val (.int (n:Int))::.own none []::.emp::.emp::.emp::.emp::.emp::aF 6 .emp):=by
   generalize aF 6 Sl.emp=ee;simp
  have e2:forD (bj 5) mj (dg 0 n) (.own (some 0) (pen P1)::.val (.int m)::.val (.int x)::.val (.int (n:Int))::.own none []::.emp::.emp::.emp::.emp::.emp::aF 6 .emp)=some (.nx,.own (some 0) (pen P2)::.val (.int m)::.val (.int x)::.val (.int (n:Int))::.own none (c.map D.int)::o5::.emp::.emp::.emp::.emp::aF 6 .emp):=e2;have s3:dFor (mGet jr (ak (mVar 3) mNil)) (bj 5) mj (.own (some 0) (pen P1)::.val (.int m)::.val (.int x)::.val (.int (n:Int))::.own none []::.emp::.emp::.emp::.emp::.emp::aF 6 .emp)=some (.nx,.own (some 0) (pen P2)::.val (.int m)::.val (.int x)::.val (.int (n:Int))::.own none (c.map D.int)::o5::.emp::.emp::.emp::.emp::aF 6 .emp):=by
   clear e3 e5 ec
   generalize aF 6 Sl.emp=ee at *;generalize dg 0 n=RR at *;generalize c.map D.int=sl at *;simp[-aat,hcR,e2]
  have c1:ag9 [none] (mGet jr (ak (mVar 3) mNil)) (bj 0) qe (.own (some 0) (pen P2)::.val (.int m)::.val (.int x)::.val (.int (n:Int))::.own none (c.map D.int)::o5::.emp::.emp::.emp::.emp::aF 6 .emp)=some (.ok (aF n []),.own (some 0) (pen P2)::.val (.int m)::.val (.int x)::.val (.int (n:Int))::.own none (c.map D.int)::o5::.emp::.emp::.emp::.emp::aF 6 .emp):=by
   obtain⟨o',ecr⟩:=aki (dg 0 n) [] .emp;have ei:(mGet jr (ak (mVar 3) mNil)) (.own (some 0) (pen P2)::.val (.int m)::.val (.int x)::.val (.int (n:Int))::.own none (c.map D.int)::o5::.emp::.emp::.emp::.emp::aF 6 .emp)=some (.ok (dg 0 n),.own (some 0) (pen P2)::.val (.int m)::.val (.int x)::.val (.int (n:Int))::.own none (c.map D.int)::o5::.emp::.emp::.emp::.emp::aF 6 .emp):=by
    generalize aF 6 Sl.emp=ee;generalize dg 0 n=RR at *;generalize c.map D.int=sl;simp[-aat,hcR]
   unfold ag9;rw[bind_eq ei];rw[if_pos (show okJs _ [none]=true from rfl)]
   have el:lend (.own (some 0) (pen P2)::.val (.int m)::.val (.int x)::.val (.int (n:Int))::.own none (c.map D.int)::o5::.emp::.emp::.emp::.emp::aF 6 .emp) [none] ([none].map fun(_:Option Nat)=>(none:Option D))=[.emp]:=rfl
   rw[el,ecr];dsimp only;rw[cD,hrl,if_pos (by rw[gD];exact di (by omega)),aw3]
  have s4:dFor (mGet alx (ak (mVar 4) mNil)) (bTup 2 (jc (bj 7) (jc (bj 5) bNil))) qi (.own (some 0) (pen P2)::.val (.int m)::.val (.int x)::.val (.int (n:Int))::.own none (c.map D.int)::o5::.lol (tags n)::.emp::.emp::.emp::gho (aF n []))=some (.nx,.own (some 0) (pen P2)::.val (.int m)::.val (.int x)::.val (.int (n:Int))::.val (.lst (c.map D.int))::p5::.lol (tags rows1.length)::p7::.emp::.emp::gho rows1):=by
   rw[<-aiu,gD] at e3
   clear e2 s3 c1 e5 ec
   generalize tags n=tt at *;generalize gho (aF n [])=gg at *;generalize tags rows1.length=tt1 at *;generalize gho rows1=gg1 at *;generalize c.map D.int=sl at *;simp[e3]
  have s5':dFor (mGet jr (ak (M.d (mFn f__law_draw [some 0,none] (dq 0 (b8 (M.d (mOp gAdd (bz 2 (ret (.int 1))))) gm)))) mNil)) (bj 8) qg (.own (some 0) (pen P2)::.val (.int m)::.val (.int x)::.val (.int (n:Int))::.val (.lst (c.map D.int))::p5::.lol (tags rows1.length)::p7::.emp::.emp::gho rows1)=some (.nx,.own (some 0) (pen P4)::.val (.int m)::.val (.int x)::.val (.int (n:Int))::.val (.lst (c.map D.int))::q5::.lol (tags rows.length)::q7::q8::q9::gho rows):=by
   have hr2:jr [.int t0]=some (dg 0 t0.toNat):=by
    have:=ahz t0.toNat (by omega)
    rwa[show((t0.toNat:Nat):Int)=t0 by omega] at this
   clear e2 s3 c1 e3 s4 ec
   generalize tags rows1.length=tt1 at *;generalize gho rows1=gg1 at *;generalize tags rows.length=tt at *;generalize gho rows=gg at *;generalize dg 0 t0.toNat=RR at *;generalize c.map D.int=sl at *;simp[-aat,e4,hr2,e5]
  have fz:∀k:Sd,dFrz 6 10 k (.own (some 0) (pen P4)::.val (.int m)::.val (.int x)::.val (.int (n:Int))::.val (.lst (c.map D.int))::q5::.lol (tags rows.length)::q7::q8::q9::gho rows)=k (.own (some 0) (pen P4)::.val (.int m)::.val (.int x)::.val (.int (n:Int))::.val (.lst (c.map D.int))::q5::.val (.lst ((rows.map fun r=>r.map D.int).map D.lst))::q7::q8::q9::aF 6 .emp):=fun k=>by
   have ez:=ayk (a0:=.own (some 0) (pen P4)) (a1:=.val (.int m)) (a2:=.val (.int x)) (a3:=.val (.int (n:Int))) (a4:=.val (.lst (c.map D.int))) (a5:=q5) (a6:=.lol (tags rows.length)) (a7:=q7) (a8:=q8) (a9:=q9) rows (by omega)
   unfold dFrz;rw[show((.own (some 0) (pen P4)::.val (.int m)::.val (.int x)::.val (.int (n:Int))::.val (.lst (c.map D.int))::q5::.lol (tags rows.length)::q7::q8::q9::gho rows:Ro):List Sl)[6]? = some (Sl.lol (tags rows.length)) from rfl]
   dsimp only;rw[ez];dsimp only;rw[show((.own (some 0) (pen P4)::.val (.int m)::.val (.int x)::.val (.int (n:Int))::.val (.lst (c.map D.int))::q5::.lol (tags rows.length)::q7::q8::q9::aF 6 .emp:Ro):List Sl)[6]? = some (Sl.lol (tags rows.length)) from rfl]
   dsimp only;rw[if_pos rfl];rfl
  have ef:dRet (fu (g1 gT9) (ak (M.d (rm [none] (j6 (mVar 6)) (bj 0) (ret true) qt)) mNil)) (.own (some 0) (pen P4)::.val (.int m)::.val (.int x)::.val (.int (n:Int))::.val (.lst (c.map D.int))::q5::.val (.lst ((rows.map fun r=>r.map D.int).map D.lst))::q7::q8::q9::aF 6 .emp)=some (.ret (.v (hD rows)),.own (some 0) (pen P4)::.val (.int m)::.val (.int x)::.val (.int (n:Int))::.val (.lst (c.map D.int))::q5::.val (.lst ((rows.map fun r=>r.map D.int).map D.lst))::q7::q8::q9::aF 6 .emp):=by
   have hcp:(hDs rows).length<=capS:=by unfold hDs;rw[aD];exact di (by omega)
   clear e2 s3 c1 e3 s4 s5' fz e5
   generalize aF 6 Sl.emp=ee;generalize (rows.map fun r=>r.map D.int).map D.lst=HH at *
   generalize c.map D.int=sl;simp only[hD] at *;generalize hDs rows=hh at *;simp[ec,hcp]
  have tg0:((.own (some 0) (pen P2)::.val (.int m)::.val (.int x)::.val (.int (n:Int))::.own none (c.map D.int)::o5::.emp::.emp::.emp::.emp::aF 6 .emp:Ro):List Sl).all tagB=true:=by
   show(true&&(true&&(true&&(true&&(true&&(tagB o5&&true))))))=true;rw[t5];rfl
  have tg1:(offs (.own (some 0) (pen P4)::.val (.int m)::.val (.int x)::.val (.int (n:Int))::.val (.lst (c.map D.int))::q5::.val (.lst ((rows.map fun r=>r.map D.int).map D.lst))::q7::q8::q9::aF 6 .emp) [6,10,11,12,13,14,15]:List Sl).all tagB=true:=by
   show(true&&(true&&(true&&(true&&(true&&(tagB q5&&(true&&(tagB q7&&(tagB q8&&(tagB q9&&true))))))))))=true;rw[u5,u7,u8,u9];rfl
  have eg:aas (.own (some 0) (pen P)::.val (.int m)::.val (.int x)::.emp::.emp::.emp::.emp::.emp::.emp::.emp::aF 6 .emp)=some (.ret (.v (hD rows)),offs (.own (some 0) (pen P4)::.val (.int m)::.val (.int x)::.val (.int (n:Int))::.val (.lst (c.map D.int))::q5::.val (.lst ((rows.map fun r=>r.map D.int).map D.lst))::q7::q8::q9::aF 6 .emp) [6,10,11,12,13,14,15]):=by
   unfold aas;rw[seq2 s1,seq2 s2,seq2 s3];unfold dLol;rw[ayx,c1];dsimp only;rw[if_pos ⟨tg0,by rw[gD];exact n6⟩,gD]
   have sa:=awz n n6 (a0:=.own (some 0) (pen P2)) (a1:=.val (.int m)) (a2:=.val (.int x)) (a3:=.val (.int (n:Int))) (a4:=.own none (c.map D.int)) (a5:=o5) (a6:=.lol (tags n)) (a7:=.emp) (a8:=.emp) (a9:=.emp);have sa':setG ((aF n ([]:List D)).map mkR) (List.take n [10,11,12,13,14,15]) 0 (cG (.own (some 0) (pen P2)::.val (.int m)::.val (.int x)::.val (.int (n:Int))::.own none (c.map D.int)::o5::.emp::.emp::.emp::.emp::aF 6 .emp) 6 (.lol ((aR n).map fun j=>1000+j)))=_:=sa
   rw[sa'];dsimp only;rw[seq2 s4,seq2 s5',fz,ef];dsimp only;rw[if_pos tg1]
  unfold f__law_rounds;rw[anf];rw[show([.own (some 0) (pen P),.val (.int m),.val (.int x)]++aF (16 - 3) Sl.emp:Ro)=.own (some 0) (pen P)::.val (.int m)::.val (.int x)::.emp::.emp::.emp::.emp::.emp::.emp::.emp::aF 6 .emp from rfl]
  rw[eg];rfl
 ·subst z;obtain⟨j,hj,ej⟩:=cT.mp hr;have:((j:Nat):Int)∈c:=(cm _).mpr (by omega)
  obtain⟨i,hi,ei⟩:=cT.mp this;have e:=edge i hi;rw[aP,aC hi] at e;have e:prd c i∈dr rows c[i]:=e;rw[ei] at e;unfold dr at e;rw[fB,aP,aC hj,ej] at e;cases e
 ·exact apz (fun z=>by rw[z] at cl;simp at cl;omega) edge (fun y hy=>((cm y).mp hy).1) a ((cm a).mpr ⟨a0,by omega⟩) b ((cm b).mpr ⟨b0,by omega⟩)
structure Tr (qv:LL9):Prop where
 hs:Hs qv
 six:qv.length<=6
 sh:an9 qv=true
 bal:balB qv=true
 jn:aoo qv=true
theorem azp{qv:LL9}(h:RowOk qv.length qv)(n1:1<=qv.length)(n6:qv.length<=6)(b:Bal qv)(ne:∀r∈qv,r≠[])(j:∀a b:Int,0<=a->a < (qv.length:Int)->0<=b->b < (qv.length:Int)->Rch qv a b):Tr qv:=by
 have hs:Hs qv:=⟨n1,by omega,fun r hr=>⟨List.length_pos_iff.mpr (ne r hr),(h.row r hr).1,fun x hx=>by have:=(h.row r hr).2 x hx;omega⟩⟩
 refine⟨hs,n6,?_,?_,?_⟩
 ·rw[aje hs,bA];intro x hx;obtain⟨r,hr,hx⟩:=sE.mp hx;exact decide_eq_true ((h.row r hr).2 x hx).1
 ·unfold balB;rw[bA];intro q hq;obtain⟨i,hi⟩:=pY.mp hq;rw[fU] at hi;cases e:qv[i]? with
  | none=>rw[e] at hi;cases hi
  | some r =>
   rw[e] at hi;have hi:decide (((qv.flatten.count (i:Int):Nat):Int)=(r.length:Int))=q:=by simpa using hi
   rw[<-hi,b i r e];simp
 ·unfold aoo;rw[bA];intro i hi;have hi:=dJ.mp hi;obtain⟨cs,_,c⟩:=ab4 hs (a:=(i:Int)) (by omega)
  have le:=rl_le hs (a:=(i:Int)) (by omega)
  have ge:qv.length<=rl qv (i:Int):=by
   rw[<-ak6 c];have q:=Stt.asp qv.length (cs.map Int.toNat) fun k hk=>bI.mpr ⟨(k:Int),(c.mem _).mpr ⟨j _ _ (by omega) (by omega) (by omega) (by omega),by omega⟩,by omega⟩
   rwa[aD] at q
  exact decide_eq_true (by omega)
section
variable{qv:LL9}(t:Tr qv)
include t
theorem an5:du [.val (hD qv)]=some (.ok (.v .non),[.val (hD qv)]):=by
 have e1:=al9 t.hs;have e2:=aqy t.hs;rw[t.sh,t.bal] at e1;rw[t.jn] at e2;generalize hD qv=hh at *;simp[du,yh,e1,e2]
end
def nj(qv:LL9):D->Bool
 | .tup [.int a,.int b]=>decide (0<=a/\a < (qv.length:Int))&&decide (0<=b/\b < ((dr qv a).length:Int))
 | _=>false
theorem awj(d:D):jm [.val d,.val (.int 2),.val (.int 2)]=some (.ok (.v (.bl (match d with | .tup l=>decide (l.length=2) | _=>false))),[.val d,.val (.int 2),.val (.int 2)]):=by
 cases d with
 | tup l =>
  have e:(decide ((2:Int)<=(l.length:Int))&&decide ((l.length:Int)<=2))=decide (l.length=2):=by
   rw[qF];simp;omega
  dsimp only;rw[<-e];simp[jm,ul,isTy]
 | _=>simp[jm,ul,isTy]
section
variable{qv:LL9}(h:Hs qv)
include h
theorem aol(d:D):iu [.val (hD qv),.val d]=some (.ok (.v (.bl (nj qv d))),[.val (hD qv),.val d]):=by
 have e0:=awj d;cases d with
 | tup l =>
  match l with
  | []=>simp[iu,j9,nj] at e0 ⊢;simp[e0]
  | [p]=>simp[iu,j9,nj] at e0 ⊢;simp[e0]
  | p::q::r::l=>simp[iu,j9,nj] at e0 ⊢;simp[e0]
  | [p,q] =>
   have e1:=aen qv p;have i0:atI [p,q] 0=some p:=rfl;have i1:atI [p,q] 1=some q:=rfl;cases p with
   | int a =>
    by_cases ha:0<=a/\a < (qv.length:Int)
    ·have er:=yp ha.1 ha.2;have hw:vf 0 ((qv.length:Int) - 1) (.int a)=true:=by
      simp[vf];omega
     rw[hw] at e1;have e2:=adz q 0 (((dr qv a).length:Int) - 1);have hb:nj qv (.tup [.int a,q])=vf 0 (((dr qv a).length:Int) - 1) q:=by
      cases q with
      | int b =>
       show(decide (0<=a/\a < (qv.length:Int))&&decide (0<=b/\b < ((dr qv a).length:Int)))=_;rw[decide_eq_true ha,rA,qF];simp[vf];omega
      | _=>rfl
     rw[hb];have hl:((dr qv a).map D.int).length=(dr qv a).length:=aD ..
     simp only[hD] at *;generalize hDs qv=hh at *;generalize (dr qv a).map D.int=dd at *;generalize vf 0 (((dr qv a).length:Int) - 1) q=bb at *;simp[iu,j9,e0,e1,er,hl,e2,i0,i1]
    ·have hw:vf 0 ((qv.length:Int) - 1) (.int a)=false:=by
      simp[vf];omega
     rw[hw] at e1;have hb:nj qv (.tup [.int a,q])=false:=by
      cases q with
      | int b =>
       show(decide (0<=a/\a < (qv.length:Int))&&_)=_;rw[decide_eq_false ha];rfl
      | _=>rfl
     rw[hb];simp only[hD] at *;generalize hDs qv=hh at *;simp[iu,j9,e0,e1,i0]
   | _ =>
    have hw:∀p:D,(∀a,p≠.int a)->vf 0 ((qv.length:Int) - 1) p=false:=fun p hp=>by
     cases p with
     | int a=>exact absurd rfl (hp a)
     | _=>rfl
    rw[hw _ (fun _ z=>by cases z)] at e1
    simp only[hD] at *;generalize hDs qv=hh at *;simp[iu,j9,nj,e0,e1,i0]
 | _=>simp[iu,j9,nj] at e0 ⊢;simp[e0]
end
def ae8(l:List D):LL9:=(wg l).getD []
theorem ady{qv:LL9}:∀{l:List D},l.all (nj qv)=true->∃rows:LL9,l=rows.map rowT/\∀r∈rows,∃a b:Int,r=[a,b]/\(0<=a/\a < (qv.length:Int))/\0<=b/\b < ((dr qv a).length:Int)
 | [],_=>⟨[],rfl,fun _ z=>by cases z⟩
 | d::l,h=>by
  rw[jY,aV] at h;obtain⟨rows,e,hr⟩:=ady h.2;have hd:=h.1;unfold nj at hd;split at hd
  ·rename_i a b;rw[aV,decide_eq_true_eq,decide_eq_true_eq] at hd;refine⟨[a,b]::rows,by rw[e];rfl,fun r hr' =>?_⟩
   rcases aZ.mp hr' with rfl | z
   ·exact⟨a,b,rfl,hd.1,hd.2⟩
   ·exact hr r z
  ·cases hd
def endR(qv:LL9)(r:List Int):Int:=(dr qv (r.getD 0 0)).getD (r.getD 1 0).toNat 0
def ab5(qv rows:LL9):Bool:=decide ((rows.map (endR qv)).drop (rows.length - 1)++(rows.map (endR qv)).take (rows.length - 1)=rows.map fun r=>r.getD 0 0)
def zr(qv:LL9):D->Bool
 | .lst l=>decide (l.length=qv.flatten.length)&&l.all (nj qv)&&decide (ae8 l).Nodup&&ab5 qv (ae8 l)
 | _=>false
theorem ahm:∀(l ks:LL9),(l.foldl Stt.addL ks).length=ks.length+l.length↔l.Nodup/\∀x∈l,x∉ks
 | [],ks=>by simp
 | k::l,ks=>by
  rw[iB,gW];have le:=Stt.afl l (Stt.addL ks k)
  by_cases q:k∈ks
  ·have e:Stt.addL ks k=ks:=if_pos q;rw[e] at le ⊢
   constructor
   ·intro z;rw[bJ] at z;omega
   ·intro z;exact absurd q (z.2 k (aN ..))
  ·have e:Stt.addL ks k=ks++[k]:=if_neg q;rw[e];have ih:=ahm l (ks++[k]);rw[aW,gC] at ih;rw[bJ,show ks.length+(l.length+1)=ks.length+1+l.length by omega,ih]
   constructor
   ·rintro⟨a,b⟩
    refine⟨⟨fun z=>b k z (by simp),a⟩,fun x hx =>?_⟩
    rcases aZ.mp hx with rfl | hx
    ·exact q
    ·exact fun z=>b x hx (iM _ z)
   ·rintro⟨⟨a,b⟩,c⟩
    refine⟨b,fun x hx z =>?_⟩
    rcases bZ.mp z with z | z
    ·exact c x (aK _ hx) z
    ·rw[bD.mp z] at hx;exact a hx
section
variable{qv:LL9}(t:Tr qv)
include t
theorem aj1(l:List D):compD (bj 0) (ret true) vq l [] [.emp,.val (hD qv)]=some (.ok ((l.map (nj qv)).map D.bl),ack .emp l::[.val (hD qv)]):=by
 rw[ou (f:=fun d=>.bl (nj qv d))]
 ·rw[cD,cA];rfl
 ·intro d _;have e:=aol t.hs d;generalize hD qv=hh at *;simp[vq,e]
theorem awk(th:D)(h:∀l,th≠.lst l)(hk:∀l,th≠.kst l):dh [.val (hD qv),.val th]=some (.ok (.v (.bl (zr qv th))),[.val (hD qv),.val th]):=by
 have e:=wz t.hs;generalize hq:hD qv=hh at *;cases th with
 | lst l=>exact absurd rfl (h l)
 | kst l=>exact absurd rfl (hk l)
 | _=>simp[dh,j8,isTy,zr]
theorem asz(l:List D)(h:l.length≠qv.flatten.length):dh [.val (hD qv),.val (.lst l)]=some (.ok (.v (.bl (zr qv (.lst l)))),[.val (hD qv),.val (.lst l)]):=by
 have e:=wz t.hs;have hb:zr qv (.lst l)=false:=by
  show(decide (l.length=qv.flatten.length)&&_&&_&&_)=false;rw[decide_eq_false h];rfl
 rw[hb];have h':¬(l.length:Int)=(qv.flatten.length:Int):=by omega
 generalize qv.flatten.length=nn at *;generalize hD qv=hh at *;simp[dh,j8,isTy,e,h']
theorem apf(l:List D)(hz:l.length<=60)(h:l.length=qv.flatten.length)(hb:l.all (nj qv)=false):dh [.val (hD qv),.val (.lst l)]=some (.ok (.v (.bl (zr qv (.lst l)))),[.val (hD qv),.val (.lst l)]):=by
 have e:=wz t.hs;have ht:zr qv (.lst l)=false:=by
  show(decide (l.length=qv.flatten.length)&&l.all (nj qv)&&_&&_)=false;rw[hb,tX];rfl
 rw[ht];have ec:=aj1 t l;have ea:gAll (.lst ((l.map (nj qv)).map D.bl))=some (.v (.bl false)):=by
  rw[aav,uq];show some (Rv.v (D.bl ((l.map (nj qv)).all id)))=_;rw[qD,<-hb];rfl
 have hc:((l.map (nj qv)).map D.bl).length<=capS:=by rw[aD,aD];exact di (by omega)
 have h':(l.length:Int)=(qv.flatten.length:Int):=by omega
 rw[<-h'] at e;generalize (l.map (nj qv)).map D.bl=BB at *;generalize hD qv=hh at *;simp[dh,j8,isTy,e,ec,ea,hc]
end
theorem anp(l:List D):cutD l (some (-1)) none=l.drop (l.length - 1):=by
 have e:HT.sIx l.length 0 (some (-1))=l.length - 1:=by
  unfold HT.sIx;simp;omega
 have e2:HT.sIx l.length l.length none=l.length:=rfl;unfold cutD;rw[e,e2];exact jK (by simp)
theorem akg(l:List D):cutD l none (some (-1))=l.take (l.length - 1):=by
 have e:HT.sIx l.length l.length (some (-1))=l.length - 1:=by
  unfold HT.sIx;simp;omega
 have e2:HT.sIx l.length 0 none=0:=rfl;unfold cutD;rw[e,e2];simp
theorem acf{α:Type}{me:M D}{rest:Ro}{u v f:α->D}:∀{l:List α} {ys:List D} {s t:Sl},(∀p∈l,me (.val (u p)::.val (v p)::rest)=some (.ok (f p),.val (u p)::.val (v p)::rest))->∃s' t',compD (bTup 2 (jc (bj 0) (jc (bj 1) bNil))) (ret true) me (l.map fun p=>D.tup [u p,v p]) ys (s::t::rest)=some (.ok (ys++l.map f),s'::t'::rest)
 | [],ys,s,t,_=>⟨s,t,by simp[compD]⟩
 | p::l,ys,s,t,h=>by
  have h1:=h p (aN ..);obtain⟨s',t',ih⟩:=acf (me:=me) (rest:=rest) (u:=u) (v:=v) (f:=f) (l:=l) (ys:=ys++[f p]) (s:=.val (u p)) (t:=.val (v p)) fun x hx=>h x (aK _ hx)
  exact⟨s',t',by simp[compD,h1,ih]⟩
def Lv(qv:LL9)(r:List Int):Prop:=∃a b:Int,r=[a,b]/\(0<=a/\a < (qv.length:Int))/\0<=b/\b < ((dr qv a).length:Int)
theorem atb{a b:LL9}(h:a.map rowT=b.map rowT):a=b:=by
 have:=congrArg wg h;rw[qd,qd] at this;exact bO this
theorem a6f{qv rows:LL9}(h:(rows.map rowT).all (nj qv)=true):∀r∈rows,Lv qv r:=by
 obtain⟨rows',e,hr⟩:=ady h;rw[atb e];exact hr
theorem ax6{qv:LL9}{r:List Int}(h:Lv qv r):nj qv (rowT r)=true:=by
 obtain⟨a,b,rfl,ha,hb⟩:=h;show(decide (0<=a/\a < (qv.length:Int))&&decide (0<=b/\b < ((dr qv a).length:Int)))=true;rw[decide_eq_true ha,decide_eq_true hb];rfl
theorem am2{qv rows:LL9}(h:∀r∈rows,Lv qv r):(rows.map rowT).all (nj qv)=true:=by
 rw[bA];intro d hd;obtain⟨r,hr,rfl⟩:=bI.mp hd;exact ax6 (h r hr)
theorem ao1(f g:List Int->Int):∀l k:LL9,l.length=k.length->((mO l k).map fun p=>(f p.1==g p.2)).all id=decide (l.map f=k.map g)
 | [],[],_=>rfl
 | a::l,b::k,h=>by
  have ih:=ao1 f g l k (by simpa using h)
  rw[wC,bR,jY,ih,bR,bR]
  by_cases q:f a=g b
  ·simp[q]
  ·simp[q]
 | [],b::k,h=>by simp at h
 | a::l,[],h=>by simp at h
theorem zip_rows(A B:LL9):afm (A.map rowT) (B.map rowT)=(mO A B).map fun p=>D.tup [rowT p.1,rowT p.2]:=by
 unfold afm;rw[List.zipWith_map,mO,List.map_zipWith]
theorem rotD{n:Nat}(rows:LL9)(h:rows.length=n):cutD (rows.map rowT) (some (-1)) none=(rows.drop (n - 1)).map rowT/\cutD (rows.map rowT) none (some (-1))=(rows.take (n - 1)).map rowT:=by
 rw[anp,akg,aD,pB,pA,h];exact⟨rfl,rfl⟩
section
variable{qv:LL9}(t:Tr qv)
include t
theorem a1k{r:List Int}(h:Lv qv r):r∈Stt.prs:=by
 obtain⟨a,b,rfl,ha,hb⟩:=h;have h6:=t.six;have hd:=(t.hs.dr ha.1 ha.2).2.1;unfold Stt.prs;refine sG.mpr ⟨a.toNat,dJ.mpr (by omega),bI.mpr ⟨b.toNat,dJ.mpr (by omega),?_⟩⟩
 rw[gA ha.1,gA hb.1]
omit t in
theorem ahk{a b:Int}(hb:0<=b/\b < ((dr qv a).length:Int)):atI ((dr qv a).map D.int) b=some (.int (endR qv [a,b])):=ai2 hb.1 hb.2
omit t in
theorem a69{r q:List Int}(h:Lv qv r)(h2:Lv qv q):qu [.val (rowT r),.val (rowT q),.val (hD qv)]=some (.ok (.bl (endR qv r==q.getD 0 0)),[.val (rowT r),.val (rowT q),.val (hD qv)]):=by
 obtain⟨a,b,rfl,ha,hb⟩:=h;obtain⟨c,d,rfl,hc,hd⟩:=h2;have e1:=yp ha.1 ha.2;have e2:=ahk hb;have i0:atI [D.int a,.int b] 0=some (.int a):=rfl;have i1:atI [D.int a,.int b] 1=some (.int b):=rfl;have j0:atI [D.int c,.int d] 0=some (.int c):=rfl;have e3:([c,d]:List Int).getD 0 0=c:=rfl;rw[e3];simp only[rowT,bR,mC,hD];generalize endR qv [a,b]=ee at *;generalize hDs qv=hh at *;generalize (dr qv a).map D.int=dd at *;simp[qu,e1,e2,i0,i1,j0]
theorem ape(rows:LL9)(hl:rows.length=qv.flatten.length)(hv:∀r∈rows,Lv qv r):dh [.val (hD qv),.val (.lst (rows.map rowT))]=some (.ok (.v (.bl (decide rows.Nodup&&ab5 qv rows))),[.val (hD qv),.val (.lst (rows.map rowT))]):=by
 have e:=wz t.hs;have f6:=air t.hs;rw[<-hl] at f6 e;have ec:=aj1 t (rows.map rowT);have ea:gAll (.lst (((rows.map rowT).map (nj qv)).map D.bl))=some (.v (.bl true)):=by
  rw[aav,uq];show some (Rv.v (D.bl (((rows.map rowT).map (nj qv)).all id)))=_;rw[qD,<-am2 hv];rfl
 have elp:=auo (rows:=rows) (by omega) fun r hr=>a1k t (hv r hr)
 have hc:(((rows.map rowT).map (nj qv)).map D.bl).length<=capS:=by rw[aD,aD,aD];exact di (by omega)
 have hL:(rows.map rowT).length=rows.length:=aD ..
 have an:=ahm rows [];rw[sY,eN] at an
 by_cases nd:rows.Nodup
 ·have hn:=an.mpr ⟨nd,fun _ _=>by simp⟩
  rw[hn] at elp;rw[decide_eq_true nd,rA];obtain⟨c1,c2⟩:=rotD rows rfl;have hA:(rows.drop (rows.length - 1)++rows.take (rows.length - 1)).length=rows.length:=by simp
  obtain⟨s',t',ez⟩:=acf (me:=qu) (rest:=[.val (hD qv)]) (u:=fun p:List Int×List Int=>rowT p.1) (v:=fun p=>rowT p.2) (f:=fun p=>.bl (endR qv p.1==p.2.getD 0 0)) (l:=mO (rows.drop (rows.length - 1)++rows.take (rows.length - 1)) rows) (ys:=[]) (s:=.emp) (t:=.emp) fun p hp=>by
   have h1:=(lH hp).1;have h2:=(lH hp).2;refine a69 (hv _ ?_) (hv _ h2);rcases bZ.mp h1 with z | z
   ·exact List.mem_of_mem_drop z
   ·exact vN z
  rw[<-zip_rows,cJ,cD] at ez;have ez2:gAll (.lst ((mO (rows.drop (rows.length - 1)++rows.take (rows.length - 1)) rows).map fun p=>D.bl (endR qv p.1==p.2.getD 0 0)))=some (.v (.bl (ab5 qv rows))):=by
   rw[aav,al8];show some (Rv.v (D.bl (((mO _ rows).map fun p=>(endR qv p.1==p.2.getD 0 0)).all id)))=_
   rw[ao1 (endR qv) (fun r=>r.getD 0 0) _ _ hA,cJ,pB,pA]
   rfl
  have hz:((mO (rows.drop (rows.length - 1)++rows.take (rows.length - 1)) rows).map fun p=>D.bl (endR qv p.1==p.2.getD 0 0)).length<=capS:=by
   rw[aD,yD];exact di (by omega)
  have hs:((rows.drop (rows.length - 1)).map rowT).length+((rows.take (rows.length - 1)).map rowT).length=rows.length:=by
   rw[<-aW,<-cJ,aD,hA]
  have hs2:rows.length<=capS:=di (by omega)
  generalize ((mO (rows.drop (rows.length - 1)++rows.take (rows.length - 1)) rows).map fun p=>D.bl (endR qv p.1==p.2.getD 0 0))=ZZ at *
  generalize ((rows.map rowT).map (nj qv)).map D.bl=BB at *;generalize (rows.drop (rows.length - 1)).map rowT=L1 at *;generalize (rows.take (rows.length - 1)).map rowT=L2 at *;generalize rows.map rowT=LL at *;generalize ab5 qv rows=cb at *;generalize rows.length=nn at *;generalize hD qv=hh at *;simp[dh,j8,isTy,e,ec,ea,hc,elp,hL,c1,c2,ez,ez2,hz,hs,hs2]
 ·have hn:¬((rows.foldl Stt.addL []).length:Int)=(rows.length:Int):=fun z=>nd (an.mp (by omega)).1
  rw[decide_eq_false nd,qO];generalize ((rows.map rowT).map (nj qv)).map D.bl=BB at *;generalize (rows.foldl Stt.addL []).length=ff at *;generalize rows.map rowT=LL at *;generalize rows.length=nn at *;generalize hD qv=hh at *;simp[dh,j8,isTy,e,ec,ea,hc,elp,hL,hn]
def Fair(th:D):Prop:=(∀l,th=.lst l->l.length<=60)/\∀l,th≠.kst l
theorem api{th:D}(h:Fair th):su [.val (hD qv),.val th]=some (.ok (.v (.bl (zr qv th))),[.val (hD qv),.val th]):=by
 have e:dh [.val (hD qv),.val th]=some (.ok (.v (.bl (zr qv th))),[.val (hD qv),.val th]):=by
  by_cases q:∃l,th=.lst l
  ·obtain⟨l,rfl⟩:=q
   by_cases hl:l.length=qv.flatten.length
   ·cases hb:l.all (nj qv) with
    | false=>exact apf t l (h.1 l rfl) hl hb
    | true =>
     obtain⟨rows,rfl,hr⟩:=ady hb;have hl':rows.length=qv.flatten.length:=by rw[<-hl,aD]
     rw[ape t rows hl' hr];have:zr qv (.lst (rows.map rowT))=(decide rows.Nodup&&ab5 qv rows):=by
      have er:ae8 (rows.map rowT)=rows:=by unfold ae8;rw[qd];rfl
      show(decide ((rows.map rowT).length=qv.flatten.length)&&_&&decide (ae8 (rows.map rowT)).Nodup&&ab5 qv (ae8 (rows.map rowT)))=_;rw[er,hb,decide_eq_true hl];rfl
     rw[this]
   ·exact asz t l hl
  ·exact awk t th (fun l z=>q ⟨l,z⟩) h.2
 have e0:=an5 t;generalize zr qv th=bb at *;generalize hD qv=hh at *;simp[su,agc,e,e0]
end
def rowR(i:Nat)(r:List Int):LL9:=(aR r.length).map fun(d:Nat)=>[((i:Nat):Int),((d:Nat):Int)]
def jh:Nat->LL9->LL9
 | _,[]=>[]
 | i,r::rs=>rowR i r++jh (i+1) rs
theorem adn(i:Nat)(r:List Int):(rowR i r).length=r.length:=by unfold rowR;simp
theorem agl:∀(rs:LL9) (k:Nat),(jh k rs).length=rs.flatten.length
 | [],_=>rfl
 | r::rs,k=>by
  show(rowR k r++jh (k+1) rs).length=_;rw[aW,adn,agl rs,cO,aW]
theorem aro:∀(rs:LL9) (k:Nat) (x:List Int),x∈jh k rs↔∃(i d:Nat) (r:List Int),rs[i]? = some r/\d < r.length/\x=[((k+i:Nat):Int),((d:Nat):Int)]
 | [],k,x=>by simp[jh]
 | r::rs,k,x=>by
  show x∈rowR k r++jh (k+1) rs↔_;rw[bZ,aro rs];constructor
  ·rintro(h | ⟨i,d,q,h1,h2,h3⟩)
   ·obtain⟨d,hd,rfl⟩:=bI.mp h;exact⟨0,d,r,rfl,dJ.mp hd,rfl⟩
   ·exact⟨i+1,d,q,by simpa using h1,h2,by rw[h3,show k+1+i=k+(i+1) by omega]⟩
  ·rintro⟨i,d,q,h1,h2,h3⟩
   cases i with
   | zero =>
    have h1:r=q:=by simpa using h1
    subst h1;exact .inl (bI.mpr ⟨d,dJ.mpr h2,h3.symm⟩)
   | succ i=>exact .inr ⟨i,d,q,by simpa using h1,h2,by rw[h3,show k+1+i=k+(i+1) by omega]⟩
theorem aqo{a b c d:Int}(h:a < c∨(a=c/\b < d)):Kst.lexB [a,b] [c,d]=true:=by
 unfold Kst.lexB;rcases h with h | ⟨rfl,h⟩
 ·rw[if_neg (by omega)]
  exact decide_eq_true h
 ·rw[if_pos rfl];unfold Kst.lexB;rw[if_neg (by omega)]
  exact decide_eq_true h
theorem ayw:∀(rs:LL9) (k:Nat),(jh k rs).Pairwise fun a b=>Kst.lexB a b=true
 | [],_=>.nil
 | r::rs,k=>by
  show(rowR k r++jh (k+1) rs).Pairwise _;rw[vM];refine⟨?_,ayw rs (k+1),fun a ha b hb =>?_⟩
  ·unfold rowR;rw[lV];exact lM.imp fun h=>aqo (.inr ⟨rfl,by omega⟩)
  ·obtain⟨d,_,rfl⟩:=bI.mp ha;obtain⟨i,e,q,_,_,rfl⟩:=(aro rs (k+1) b).mp hb;exact aqo (.inl (by omega))
theorem aos(qv:LL9)(x:List Int):x∈jh 0 qv↔Lv qv x:=by
 rw[aro];constructor
 ·rintro⟨i,d,r,h1,h2,rfl⟩
  have hi:=(aM.mp h1).1;have:dr qv ((0+i:Nat):Int)=r:=by
   unfold dr;rw[fB,eN,aP,h1];rfl
  exact⟨_,_,rfl,by omega,by omega,by rw[this];omega⟩
 ·rintro⟨a,b,rfl,ha,hb⟩
  have hi:a.toNat < qv.length:=by omega
  refine⟨a.toNat,b.toNat,qv[a.toNat],aC hi,?_,?_⟩
  ·have:dr qv a=qv[a.toNat]:=by
    unfold dr;rw[aP,aC hi];rfl
   rw[this] at hb;omega
  ·rw[eN,gA ha.1,gA hb.1]
theorem aiw(rs:LL9)(k:Nat):(jh k rs).Nodup:=(ayw rs k).imp fun{a b} h z=>by
 subst z;have:=Kst.ac2 a a h;rw[h] at this;cases this
theorem aam:∀{a k:LL9},a.Nodup->(∀x∈a,x∈k)->a.length<=k.length
 | [],k,_,_=>cI _
 | x::r,k,hn,h=>by
  have hx:=h x (aN ..);have h1:r.length<=(k.erase x).length:=aam (List.Pairwise.of_cons hn) fun y hy=>by
   have hne:y≠x:=fun e=>(bW.mp hn).1 y hy e.symm
   exact(vO hne).mpr (h y (aK _ hy))
  rw[uF hx] at h1;have:=lN hx;rw[bJ];omega
theorem ag3(qv rows:LL9):yq rows=jh 0 qv↔rows.length=qv.flatten.length/\(∀r∈rows,Lv qv r)/\rows.Nodup:=by
 constructor
 ·intro e;have p:rows.Perm (jh 0 qv):=by rw[<-e];exact(xf rows).symm
  exact⟨by rw[p.length_eq,agl],fun r hr=>(aos qv r).mp (p.mem_iff.mp hr),p.symm.nodup_iff.mp (aiw qv 0)⟩
 ·rintro⟨hl,hv,nd⟩
  have sub:∀x∈rows,x∈jh 0 qv:=fun x hx=>(aos qv x).mpr (hv x hx)
  have sub2:∀x∈jh 0 qv,x∈rows:=fun x hx=>by
   by_cases q:x∈rows
   ·exact q
   ·have h2:(x::rows).Nodup:=gW.mpr ⟨q,nd⟩;have:=aam h2 (k:=jh 0 qv) fun y hy=>by
     rcases aZ.mp hy with rfl | hy
     ·exact hx
     ·exact sub y hy
    rw[agl,bJ] at this;omega
  have p:rows.Perm (jh 0 qv):=(tH nd (aiw qv 0)).mpr fun x=>⟨sub x,sub2 x⟩
  exact aln ((xf rows).trans p) (ad8 rows) ((ayw qv 0).imp fun h=>Kst.ac2 _ _ h)
theorem akd:∀(a b:LL9),eqDs (a.map rowT) (b.map rowT)=decide (a=b)
 | [],[]=>rfl
 | [],_::_=>rfl
 | _::_,[]=>rfl
 | x::r,y::t=>by
  show(eqD (.tup (x.map D.int)) (.tup (y.map D.int))&&eqDs (r.map rowT) (t.map rowT))=_;rw[ake,akd r t]
  by_cases h:x=y <;> simp[h]
theorem a05(a:LL9):okD 30 (.lst (a.map rowT))=true:=by
 show(a.map rowT).all (okD 29)=true;rw[bA];intro d hd;obtain⟨r,_,rfl⟩:=bI.mp hd;exact af2 28 r
theorem aq9(neg:Bool)(a b:LL9):gEq neg (.lst (a.map rowT)) (.lst (b.map rowT))=some (.v (.bl (if neg then !decide (a=b) else decide (a=b)))):=by
 have h3:eqD (.lst (a.map rowT)) (.lst (b.map rowT))=decide (a=b):=by
  rw[<-akd];exact ais _ _
 simp only[gEq,a05,h3];rfl
theorem ahh(hh:Sl):∀(rs:LL9) (k:Nat) (X:LL9) (o2 o3:Sl),X.length+rs.flatten.length<=60->(∀r∈rs,r.length<=6)->∃o2' o3',forD (bTup 2 (jc (bj 2) (jc (bj 3) bNil))) wj (enA k (hDs rs)) [hh,.own none (X.map rowT),o2,o3]=some (.nx,[hh,.own none ((X++jh k rs).map rowT),o2',o3'])
 | [],k,X,o2,o3,_,_=>⟨o2,o3,by simp[jh,hDs,enA]⟩
 | r::rs,k,X,o2,o3,h,h6=>by
  have hr:=h6 r (aN ..);rw[cO,aW] at h;obtain⟨o2',o3',ih⟩:=ahh hh rs (k+1) (X++rowR k r) (.val (.int (k:Int))) (.val (.tup (r.map D.int))) (by rw[aW,adn];omega) fun q hq=>h6 q (aK _ hq)
  refine⟨o2',o3',?_⟩;have ec:compD (bj 0) (ret true) aa2 (dg 0 r.length) [] [.emp,.val (.int (k:Int))]=some (.ok ((rowR k r).map rowT),ack .emp (dg 0 r.length)::[.val (.int (k:Int))]):=by
   rw[ou (f:=fun d=>.tup [.int (k:Int),d])]
   ·rw[cD];unfold rowR dg;rw[cA,cA]
    congr 3
    apply gY;intro i _;simp[rowT]
   ·intro d _;simp[aa2]
  have hc:((rowR k r).map rowT).length=r.length:=by rw[aD,adn]
  have hc1:r.length<=capS:=di (by omega)
  have hc2:X.length+r.length<=capS:=di (by omega)
  have hc3:(r.map D.int).length=r.length:=aD ..
  have hX:(X.map rowT).length=X.length:=aD ..
  have hn:r.length < 4611686018427387904:=by omega
  have st:wj [hh,.own none (X.map rowT),.val (.int (k:Int)),.val (.tup (r.map D.int))]=some (.nx,[hh,.own none ((X++rowR k r).map rowT),.val (.int (k:Int)),.val (.tup (r.map D.int))]):=by
   rw[cJ];generalize (rowR k r).map rowT=RR at *;generalize X.map rowT=XX at *;generalize r.map D.int=rr at *;simp[wj,hc3,hn,ec,hc,hc1,hX,hc2]
  have eh:hDs (r::rs)=.tup (r.map D.int)::hDs rs:=rfl;rw[eh,aiv,jt];have eb:(bTup 2 (jc (bj 2) (jc (bj 3) bNil))) (.tup [.int (k:Int),.tup (r.map D.int)]) [hh,.own none (X.map rowT),o2,o3]=some [hh,.own none (X.map rowT),.val (.int (k:Int)),.val (.tup (r.map D.int))]:=rfl;rw[eb];dsimp only;rw[st];dsimp only;rw[ih,lW];rfl
theorem aez{qv:LL9}(h:Hs qv)(f6:qv.flatten.length<=60):nu [.val (hD qv)]=some (.ok (.fr ((jh 0 qv).map rowT)),[.val (hD qv)]):=by
 obtain⟨o2,o3,e⟩:=ahh (.val (hD qv)) qv 0 [] .emp .emp (by simpa using f6) fun r hr=>(h.room r hr).2.1
 rw[<-aiu,cD,mC] at e;have hc:(0:Nat)<=capS:=cI _;simp only[hD] at *;generalize hDs qv=hh at *;generalize (jh 0 qv).map rowT=dd at *;simp[nu,ae5,e,hc]
def aci:D->Bool
 | .tup [p,q]=>aa5 p&&aa5 q
 | _=>false
theorem ajm:∀{l:List D},l.all aci=true->∃rows:LL9,l=rows.map rowT/\∀r∈rows,∃a b:Int,r=[a,b]
 | [],_=>⟨[],rfl,fun _ z=>by cases z⟩
 | d::l,h=>by
  rw[jY,aV] at h;obtain⟨rows,e,hr⟩:=ajm h.2;have hd:=h.1;unfold aci at hd;split at hd
  ·rename_i p q;rw[aV] at hd;cases p with
   | int a =>
    cases q with
    | int b =>
     refine⟨[a,b]::rows,by rw[e];rfl,fun r hr' =>?_⟩
     rcases aZ.mp hr' with rfl | z
     ·exact⟨a,b,rfl⟩
     ·exact hr r z
    | _=>cases hd.2
   | _=>cases hd.1
  ·cases hd
theorem aqq{qv:LL9}{d:D}(h:nj qv d=true):aci d=true:=by
 unfold nj at h;split at h
 ·rfl
 ·cases h
theorem aom{qv:LL9}{l:List D}(h:l.all aci=false):l.all (nj qv)=false:=by
 cases q:l.all (nj qv) with
 | false=>rfl
 | true =>
  have:l.all aci=true:=by
   rw[bA] at q ⊢
   exact fun d hd=>aqq (q d hd)
  rw[h] at this;cases this
theorem aqa(hh th o:Sl)(d:D):ir [hh,th,.val d,o]=some (if aci d=true then .nx else .ret (.v (.bl false)),[hh,th,.val d,o]):=by
 cases d with
 | tup l =>
  match l with
  | []=>simp[ir,isTy,aci]
  | [p]=>simp[ir,isTy,aci]
  | p::q::r::l =>
   have:¬((l.length:Int)+1+1+1=2):=by omega
   simp[ir,isTy,aci,this]
  | [p,q] =>
   have e1:=aey p;have e2:=aey q;have hb:aci (.tup [p,q])=(aa5 p&&aa5 q):=rfl;rw[hb];generalize aa5 p=b1 at *;generalize aa5 q=b2 at *;have ec:compD (bj 0) (ret true) yo [p,q] [] [.emp]=some (.ok [.bl b1,.bl b2],[.val q]):=by simp[compD,yo,e1,e2]
   have ea:abf [.bl b1,.bl b2]=some [b1,b2]:=rfl;have hc:(2:Nat)<=capS:=by decide
   cases b1 <;> cases b2 <;> simp[ir,isTy,ec,ea,hc]
 | _=>simp[ir,isTy,aci]
theorem afz(hh th o3:Sl):∀(l:List D) (o:Sl),∃o',forD (bj 2) ir l [hh,th,o,o3]=some (if l.all aci=true then .nx else .ret (.v (.bl false)),[hh,th,o',o3])
 | [],o=>⟨o,by simp⟩
 | d::l,o=>by
  have st:=aqa hh th o3 d;obtain⟨o',ih⟩:=afz hh th o3 l (.val d);cases q:aci d with
  | true =>
   rw[q,if_pos rfl] at st;refine⟨o',?_⟩;rw[jt];simp only[uw,fH,fG];rw[st];simp only[jY,q,rA];exact ih
  | false =>
   rw[q,if_neg (by simp)] at st
   refine⟨.val d,?_⟩;rw[jt];simp only[uw,fH,fG];rw[st];simp[q]
theorem amo{rows:LL9}(h:∀r∈rows,∃a b:Int,r=[a,b]):rows.map rowT=rows.map fun r=>D.tup [.int (r.getD 0 0),.int (r.getD 1 0)]:=by
 apply gY;intro r hr;obtain⟨a,b,rfl⟩:=h r hr;rfl
theorem rotI{n:Nat}(V:List Int)(h:V.length=n):cutD (V.map D.int) (some (-1)) none=(V.drop (n - 1)).map D.int/\cutD (V.map D.int) none (some (-1))=(V.take (n - 1)).map D.int:=by
 rw[anp,akg,aD,pB,pA,h];exact⟨rfl,rfl⟩
section
variable{qv:LL9}(t:Tr qv)
include t
theorem a1t(th:D)(h:∀l,th≠.lst l)(hk:∀l,th≠.kst l):gj [.val (hD qv),.val th]=some (.ok (.v (.bl false)),[.val (hD qv),.val th]):=by
 generalize hq:hD qv=hh at *;cases th with
 | lst l=>exact absurd rfl (h l)
 | kst l=>exact absurd rfl (hk l)
 | _=>simp[gj,qj,isTy]
theorem aon{l:List D}(h:l.all aci=false):gj [.val (hD qv),.val (.lst l)]=some (.ok (.v (.bl false)),[.val (hD qv),.val (.lst l)]):=by
 obtain⟨o',e⟩:=afz (.val (hD qv)) (.val (.lst l)) .emp l .emp;rw[h,if_neg (by simp)] at e
 generalize hq:hD qv=hh at *;simp[gj,qj,isTy,e]
theorem aua(rows:LL9)(hz:rows.length<=60)(h2:∀r∈rows,∃a b:Int,r=[a,b]):gj [.val (hD qv),.val (.lst (rows.map rowT))]=some (.ok (.v (.bl (decide (yq rows=jh 0 qv)&&ab5 qv rows))),[.val (hD qv),.val (.lst (rows.map rowT))]):=by
 have f6:=air t.hs;have hp:(rows.map rowT).all aci=true:=by
  rw[bA];intro d hd;obtain⟨r,hr,rfl⟩:=bI.mp hd;obtain⟨a,b,rfl⟩:=h2 r hr;rfl
 obtain⟨o',e⟩:=afz (.val (hD qv)) (.val (.lst (rows.map rowT))) .emp (rows.map rowT) .emp;rw[hp,if_pos rfl] at e;have es:=ail (rows:=rows) (by omega) fun r hr z=>by
  obtain⟨a,b,q⟩:=h2 r hr;rw[q] at z;cases z
 have ed:=aez t.hs f6;have eq:=aq9 true (yq rows) (jh 0 qv)
 by_cases q:yq rows=jh 0 qv
 ·obtain⟨hl,hv,nd⟩:=(ag3 qv rows).mp q;rw[decide_eq_true q] at eq ⊢
  rw[rA];obtain⟨s1,t1,c1⟩:=acf (me:=tu) (rest:=[.val (hD qv)]) (u:=fun r:List Int=>.int (r.getD 0 0)) (v:=fun r=>.int (r.getD 1 0)) (f:=fun r=>.int (endR qv r)) (l:=rows) (ys:=[]) (s:=.emp) (t:=.emp) fun r hr=>by
   obtain⟨a,b,rfl,ha,hb⟩:=hv r hr;have e1:=yp ha.1 ha.2;have e2:=ahk hb;show tu [.val (.int a),.val (.int b),.val (hD qv)]=some (.ok (.int (endR qv [a,b])),[.val (.int a),.val (.int b),.val (hD qv)]);simp only[hD];generalize endR qv [a,b]=ee at *;generalize hDs qv=hh at *;generalize (dr qv a).map D.int=dd at *;simp[tu,e1,e2]
  obtain⟨s2,t2,c2⟩:=acf (me:=ym) (rest:=[]) (u:=fun r:List Int=>.int (r.getD 0 0)) (v:=fun r=>.int (r.getD 1 0)) (f:=fun r=>.int (r.getD 0 0)) (l:=rows) (ys:=[]) (s:=.emp) (t:=.emp) fun r hr=>by simp[ym]
  rw[<-amo h2,cD] at c1 c2;have m1:(rows.map fun r=>D.int (endR qv r))=(rows.map (endR qv)).map D.int:=by rw[cA];rfl
  have m2:(rows.map fun r=>D.int (r.getD 0 0))=(rows.map fun r=>r.getD 0 0).map D.int:=by rw[cA];rfl
  rw[m1] at c1;rw[m2] at c2;have hV:(rows.map (endR qv)).length=rows.length:=aD ..
  obtain⟨r1,r2⟩:=rotI (rows.map (endR qv)) hV;have hs:((rows.map (endR qv)).drop (rows.length - 1)).length+((rows.map (endR qv)).take (rows.length - 1)).length=rows.length:=by
   rw[<-aW];simp
  have hW:(rows.map fun r=>r.getD 0 0).length=rows.length:=aD ..
  have hc:rows.length<=capS:=di (by omega)
  have eg:=aus false ((rows.map (endR qv)).drop (rows.length - 1)++(rows.map (endR qv)).take (rows.length - 1)) (rows.map fun r=>r.getD 0 0)
  have hcb:ab5 qv rows=decide ((rows.map (endR qv)).drop (rows.length - 1)++(rows.map (endR qv)).take (rows.length - 1)=rows.map fun r=>r.getD 0 0):=rfl
  rw[hcb];rw[cJ] at eg;generalize decide ((rows.map (endR qv)).drop (rows.length - 1)++(rows.map (endR qv)).take (rows.length - 1)=rows.map fun r=>r.getD 0 0)=cb at *
  have hs':(((rows.map (endR qv)).drop (rows.length - 1)).map D.int).length+(((rows.map (endR qv)).take (rows.length - 1)).map D.int).length=rows.length:=by rw[aD,aD];exact hs
  have hV':((rows.map (endR qv)).map D.int).length=rows.length:=by rw[aD];exact hV
  have hW':((rows.map fun r=>r.getD 0 0).map D.int).length=rows.length:=by rw[aD];exact hW
  generalize ((rows.map (endR qv)).drop (rows.length - 1)).map D.int=V1 at *;generalize ((rows.map (endR qv)).take (rows.length - 1)).map D.int=V2 at *;generalize (rows.map (endR qv)).map D.int=VV at *;generalize (rows.map fun r=>r.getD 0 0).map D.int=WW at *
  generalize (yq rows).map rowT=SS at *;generalize (jh 0 qv).map rowT=DD at *;generalize rows.map rowT=LL at *;generalize rows.length=nn at *;generalize hD qv=hh at *;simp[gj,qj,isTy,e,es,ed,eq,c1,c2,r1,r2,hs',hV',hW',hc,eg]
 ·rw[decide_eq_false q] at eq ⊢
  rw[qO];generalize (yq rows).map rowT=SS at *;generalize (jh 0 qv).map rowT=DD at *;generalize rows.map rowT=LL at *;generalize hD qv=hh at *;simp[gj,qj,isTy,e,es,ed,eq]
theorem acn{th:D}(h:Fair th):gj [.val (hD qv),.val th]=some (.ok (.v (.bl (zr qv th))),[.val (hD qv),.val th]):=by
 by_cases q:∃l,th=.lst l
 ·obtain⟨l,rfl⟩:=q;have hz:=h.1 l rfl;cases hp:l.all aci with
  | false =>
   rw[aon t hp];have:zr qv (.lst l)=false:=by
    show(decide (l.length=qv.flatten.length)&&l.all (nj qv)&&_&&_)=false;rw[aom hp,tX];rfl
   rw[this]
  | true =>
   obtain⟨rows,rfl,h2⟩:=ajm hp;have hz':rows.length<=60:=by rwa[aD] at hz
   rw[aua t rows hz' h2];have er:ae8 (rows.map rowT)=rows:=by unfold ae8;rw[qd];rfl
   have:zr qv (.lst (rows.map rowT))=(decide (yq rows=jh 0 qv)&&ab5 qv rows):=by
    show(decide ((rows.map rowT).length=qv.flatten.length)&&(rows.map rowT).all (nj qv)&&decide (ae8 (rows.map rowT)).Nodup&&ab5 qv (ae8 (rows.map rowT)))=_;rw[er,aD]
    congr 1
    rw[qF,aV,aV,decide_eq_true_eq,decide_eq_true_eq,decide_eq_true_eq,ag3];constructor
    ·rintro⟨⟨a,b⟩,c⟩
     exact⟨a,a6f b,c⟩
    ·rintro⟨a,b,c⟩
     exact⟨⟨a,am2 b⟩,c⟩
   rw[this]
 ·have:zr qv th=false:=by
   cases th with
   | lst l=>exact absurd ⟨l,rfl⟩ q
   | _=>rfl
  rw[this];exact a1t t th (fun l z=>q ⟨l,z⟩) h.2
end
section
variable{qv:LL9}(t:Tr qv)
include t
theorem azo{k:Int}(h0:0<=k)(h1:k < (qv.length:Int)):∀x∈dr qv k,0<=x:=fun x hx=>by
 have hs:=t.sh;rw[aje t.hs,bA] at hs;have hk:k.toNat < qv.length:=by omega
 have e:dr qv k=qv[k.toNat]:=by simp[dr,hk]
 rw[e] at hx;exact of_decide_eq_true (hs x (sE.mpr ⟨_,cY hk,hx⟩))
theorem a1p{as:List Int}(ha:Arr qv as){k:Int}(h0:0<=k)(h1:k < (qv.length:Int)):0<=led qv as k:=by
 obtain⟨a1,a2⟩:=ha.at h0 h1;have hk:(ar as k).toNat < (dr qv k).length:=by omega
 refine azo t h0 h1 _ ?_;unfold led;rw[aP,aC hk];exact cY hk
theorem apa{as:List Int}(ha:Arr qv as){k:Int}(h0:0<=k)(h1:k < (qv.length:Int))(X:LL9)(hX:X.length<=900)(S1 S3 o6 o7:Sl):yu [.val (hD qv),S1,.val (.int k),S3,.own none (as.map D.int),.own none (X.map rowT),o6,o7]=some (.nx,[.val (hD qv),S1,.val (.int (led qv as k)),S3,.own none ((gone qv as k).map D.int),.own none ((X++[[k,ar as k]]).map rowT),o6,.val (.int (led qv as k))]):=by
 have e1:=yp h0 h1;have e2:=ave t.hs ha h0 h1;have e3:=ay8 t.hs ha h0 h1;have e4:=ard t.hs ha h0 h1 (ar as k+1);have e5:ixN as.length k=some k.toNat:=aq1 h0 (by rw[ha.len];exact h1)
 have hc:X.length < capS:=jM hX (by decide)
 have hx:(X.map rowT).length=X.length:=aD ..
 have hg:(gone qv as k).map D.int=(as.map D.int).set k.toNat (.int ((ar as k+1) % ((dr qv k).length:Int))):=by
  unfold gone;rw[List.map_set]
 have ht:(X++[[k,ar as k]]).map rowT=X.map rowT++[.tup [.int k,.int (ar as k)]]:=by rw[cJ];rfl
 have hd:((dr qv k).map D.int).length=(dr qv k).length:=aD ..
 have hl:(as.map D.int).length=as.length:=aD ..
 rw[hg,ht];simp only[hD];generalize (dr qv k).length=dl at *;generalize (dr qv k).map D.int=dd at *;generalize hDs qv=hh at *;generalize X.map rowT=XX at *;generalize led qv as k=ll at *;generalize ar as k=aa at *;generalize as.map D.int=A at *;have hc2:(2:Nat)<=capS:=by decide
 simp[yu,e1,e2,e3,e4,e5,hx,hc,hd,hl,hc2]
theorem ai6(S1 S3:Sl):∀(ds:List D) {as:List Int} {k:Int} {X:LL9},Arr qv as->0<=k->k < (qv.length:Int)->X.length+ds.length<=900->(∀r∈X,Lv qv r)->∀o6 o7:Sl,∃(as':List Int) (k':Int) (X':LL9) (o6' o7':Sl),forD (bj 6) yu ds [.val (hD qv),S1,.val (.int k),S3,.own none (as.map D.int),.own none (X.map rowT),o6,o7]=some (.nx,[.val (hD qv),S1,.val (.int k'),S3,.own none (as'.map D.int),.own none (X'.map rowT),o6',o7'])/\Arr qv as'/\(0<=k'/\k' < (qv.length:Int))/\X'.length=X.length+ds.length/\∀r∈X',Lv qv r
 | [],as,k,X,ha,h0,h1,hX,hv,o6,o7=>⟨as,k,X,o6,o7,rfl,ha,⟨h0,h1⟩,by simp,hv⟩
 | d::ds,as,k,X,ha,h0,h1,hX,hv,o6,o7=>by
  rw[bJ] at hX;have st:=apa t ha h0 h1 X (by omega) S1 S3 (.val d) o7
  obtain⟨as',k',X',o6',o7',e,g1,g2,g3,g4⟩:=ai6 S1 S3 ds (aul t.hs ha h0 h1) (a1p t ha h0 h1) (a1q t.hs ha h0 h1).2 (X:=X++[[k,ar as k]]) (by simp;omega) (fun r hr=>by
   rcases bZ.mp hr with z | z
   ·exact hv r z
   ·rw[bD.mp z];exact⟨_,_,rfl,⟨h0,h1⟩,ha.at h0 h1⟩) (.val d) (.val (.int (led qv as k)))
  refine⟨as',k',X',o6',o7',?_,g1,g2,by rw[g3];simp;omega,g4⟩
  rw[jt];simp only[uw,fH,fG];rw[st];exact e
theorem ai5{as:List Int}(ha:Arr qv as){k:Int}(h0:0<=k)(h1:k < (qv.length:Int))(n:Nat)(hn:n<=900):∃(X:LL9) (as':List Int) (k':Int),je [.val (hD qv),.val (.tup (as.map D.int)),.val (.int k),.val (.int (n:Int))]=some (.ok (.v (.tup [.lst (X.map rowT),.tup (as'.map D.int),.int k'])),[.val (hD qv),.val (.tup (as.map D.int)),.val (.int k'),.val (.int (n:Int))])/\Arr qv as'/\(0<=k'/\k' < (qv.length:Int))/\X.length=n/\∀r∈X,Lv qv r:=by
 have hr:(dg 0 n).length=n:=by unfold dg;simp
 obtain⟨as',k',X',o6',o7',e,g1,g2,g3,g4⟩:=ai6 t (.val (.tup (as.map D.int))) (.val (.int (n:Int))) (dg 0 n) ha h0 h1 (X:=[]) (by rw[hr];simpa using hn) (fun _ z=>by cases z) .emp .emp
 rw[hr,sY,eN] at g3;rw[mC] at e;refine⟨X',as',k',?_,g1,g2,g3,g4⟩;have hna:n < 4611686018427387904:=by omega
 have hm:=t.hs.most;have hc1:(as'.map D.int).length<=capS:=by rw[aD,g1.len];exact di (by omega)
 have hc0:(0:Nat)<=capS:=cI _;have hc3:(3:Nat)<=capS:=by decide
 generalize as'.map D.int=A2 at *;generalize as.map D.int=A1 at *;generalize X'.map rowT=XX at *;generalize hD qv=hh at *;have hnt:((n:Nat):Int).toNat=n:=fB n;simp[je,age,hna,e,hc0,hc1,hc3,hnt]
omit t in
theorem arc{a b:Int}(h:0<=a)(h':a<=1000):fMul a b=some (a*b):=by
 unfold fMul;rw[if_pos (.inl ⟨by omega,by omega⟩)]
theorem av5:qv.flatten.length<=36:=by
 have:∀l:LL9,(∀r∈l,r.length<=6)->l.flatten.length<=6*l.length:=fun l=>by
  induction l with
  | nil=>exact fun _=>by simp
  | cons r t ih =>
   intro hr;have:=ih fun q hq=>hr q (aK _ hq)
   have:=hr r (aN ..);rw[cO,aW,bJ];omega
 have:=this qv fun r hr=>(t.hs.room r hr).2.1
 have:=t.six;omega
end
def hdR(r:List Int):Int:=r.getD 0 0
def Chn(qv:LL9):LL9->Prop
 | a::b::l=>endR qv a=hdR b/\Chn qv (b::l)
 | _=>True
def las:List Int->LL9->List Int
 | a,[]=>a
 | _,b::l=>las b l
theorem alo:∀(l:LL9) (a:List Int),las a l∈a::l
 | [],a=>aN ..
 | b::l,a=>aK _ (alo l b)
theorem aqs:∀(l:LL9) (a z:List Int),las a (l++[z])=z
 | [],_,_=>rfl
 | b::l,_,z=>aqs l b z
structure Trl (qv T:LL9):Prop where
 nd:T.Nodup
 lv:∀r∈T,Lv qv r
 ch:Chn qv T
theorem al7{qv:LL9}:∀(l:LL9) (a z:List Int),Chn qv (a::l)->endR qv (las a l)=hdR z->Chn qv (a::l++[z])
 | [],a,z,_,e=>⟨e,trivial⟩
 | b::l,a,z,h,e=>⟨h.1,al7 l b z h.2 e⟩
theorem Trl.more{qv:LL9}{l:LL9}{a z:List Int}(t:Trl qv (a::l))(hz:Lv qv z)(hn:z∉a::l)(e:endR qv (las a l)=hdR z):Trl qv (a::l++[z]):=by
 refine⟨List.nodup_append.mpr ⟨t.nd,by simp,fun x hx y hy q =>?_⟩,fun r hr =>?_,al7 l a z t.ch e⟩
 ·rw[bD.mp hy] at q;exact hn (q▸hx)
 ·rcases bZ.mp hr with q | q
  ·exact t.lv r q
  ·rw[bD.mp q];exact hz
theorem ash{qv:LL9}:∀(l:LL9) (a:List Int),Chn qv (a::l)->∀x:Int,(a::l).countP (fun r=>hdR r==x)+(if x=endR qv (las a l) then 1 else 0)=(a::l).countP (fun r=>endR qv r==x)+(if x=hdR a then 1 else 0)
 | [],a,_,x=>by
  rw[jE,jE,yE,yE];show 0+(if (hdR a==x)=true then 1 else 0)+(if x=endR qv a then 1 else 0)=_
  simp only[beq_iff_eq,eq_comm (a:=x)];omega
 | b::l,a,h,x=>by
  have ih:=ash l b h.2 x;rw[jE,jE (a:=a)];show _+(if x=endR qv (las b l) then 1 else 0)=_
  have e:=h.1;simp only[beq_iff_eq,eq_comm (a:=x)] at ih ⊢
  rw[e];omega
theorem atc{qv:LL9}{i:Nat}{r:List Int}(h:dr qv (i:Int)=r):(rowR i r).map (endR qv)=r:=by
 unfold rowR;rw[cA];apply pK
 ·simp
 ·intro k h1 h2;rw[fX,nJ];show(dr qv (([((i:Nat):Int),((k:Nat):Int)]:List Int).getD 0 0)).getD (([((i:Nat):Int),((k:Nat):Int)]:List Int).getD 1 0).toNat 0=r[k];show(dr qv (i:Int)).getD ((k:Nat):Int).toNat 0=r[k];rw[h,fB,aP,aC h2];rfl
theorem av9{qv:LL9}:∀(rs:LL9) (k:Nat),(∀(i:Nat) (r:List Int),rs[i]? = some r->dr qv ((k+i:Nat):Int)=r)->(jh k rs).map (endR qv)=rs.flatten
 | [],_,_=>rfl
 | r::rs,k,h=>by
  show(rowR k r++jh (k+1) rs).map _=_;rw[cJ,atc (i:=k) (h 0 r rfl),av9 rs (k+1) fun i q e=>by rw[show k+1+i=k+(i+1) by omega];exact h (i+1) q (by simpa using e),cO]
theorem arn(qv:LL9):(jh 0 qv).map (endR qv)=qv.flatten:=av9 qv 0 fun i r e=>by
 unfold dr;rw[eN,fB,aP,e];rfl
theorem awu{a k:LL9}(p:List Int->Bool)(hn:a.Nodup)(h:∀x∈a,x∈k):a.countP p<=k.countP p:=by
 rw[mQ,mQ];refine aam (hn.filter p) fun x hx =>?_
 rw[iT] at hx ⊢
 exact⟨h x hx.1,hx.2⟩
section
variable{qv:LL9}(t:Tr qv)(bl:Bal qv)
include t
theorem anj{r:List Int}(h:Lv qv r):0<=endR qv r/\endR qv r < (qv.length:Int):=by
 obtain⟨a,b,rfl,ha,hb⟩:=h;have hm:endR qv [a,b]∈dr qv a:=by
  show(dr qv a).getD b.toNat 0∈_;rw[aP,aC (show b.toNat < (dr qv a).length by omega)]
  exact cY _
 exact⟨azo t ha.1 ha.2 _ hm,((t.hs.dr ha.1 ha.2).2.2 _ hm).2⟩
include bl
theorem a6r{l:LL9}{a:List Int}(T:Trl qv (a::l))(hne:endR qv (las a l)≠hdR a):∃z,Lv qv z/\z∉a::l/\endR qv (las a l)=hdR z:=by
 have hv:=anj t (T.lv _ (alo l a));generalize hq:endR qv (las a l)=v at *
 by_cases q:∃d:Nat,d < (dr qv v).length/\[v,(d:Int)]∉a::l
 ·obtain⟨d,hd,hn⟩:=q;exact⟨[v,(d:Int)],⟨_,_,rfl,hv,by omega,by omega⟩,hn,rfl⟩
 ·exfalso;have all:∀d:Nat,d < (dr qv v).length->[v,(d:Int)]∈a::l:=fun d hd=>kY fun z=>q ⟨d,hd,z⟩
  have c:=ash l a T.ch v;rw[hq,if_pos rfl,if_neg hne] at c;have i1:(a::l).countP (fun r=>endR qv r==v)<=(dr qv v).length:=by
   have:=awu (fun r=>endR qv r==v) T.nd fun x hx=>(aos qv x).mpr (T.lv x hx)
   have e:(jh 0 qv).countP (fun r=>endR qv r==v)=qv.flatten.count v:=by
    rw[<-arn,List.count,List.countP_map];rfl
   have hk:v.toNat < qv.length:=by omega
   have eb:=bl v.toNat qv[v.toNat] (aC hk);rw[gA hv.1] at eb;have ed:dr qv v=qv[v.toNat]:=by simp[dr,hk]
   rw[ed,<-eb,<-e];exact this
  have o1:(dr qv v).length<=(a::l).countP (fun r=>hdR r==v):=by
   rw[mQ];have:=aam (a:=(aR (dr qv v).length).map fun(d:Nat)=>[v,(d:Int)]) (k:=(a::l).filter fun r=>hdR r==v) ?_ ?_
   ·simpa using this
   ·show uT _ _;rw[lV];exact lM.imp fun h z=>by
     simp at z;omega
   ·intro x hx;obtain⟨d,hd,rfl⟩:=bI.mp hx;exact iT.mpr ⟨all d (dJ.mp hd),by simp[hdR]⟩
  omega
omit t bl
structure Cl (qv T:LL9):Prop where
 tr:Trl qv T
 cl:∃a l,T=a::l/\endR qv (las a l)=hdR a
theorem Cl.one{a:List Int}{l:LL9}(h:Cl qv (a::l)):Cl qv (l++[a]):=by
 obtain⟨a',l',e,c⟩:=h.cl
 injection e with e1 e2
 subst e1 e2;cases l with
 | nil=>exact h
 | cons b l =>
  have p:(b::l++[a]).Perm (a::b::l):=vD;refine⟨⟨p.symm.nodup_iff.mp h.tr.nd,fun r hr=>h.tr.lv r (p.mem_iff.mp hr),al7 l b a h.tr.ch.2 c⟩,b,l++[a],rfl,?_⟩
  rw[aqs];exact h.tr.ch.1
theorem Cl.rot:∀(p:LL9) {q:LL9} {u:List Int},Cl qv (p++u::q)->Cl qv (u::q++p)
 | [],q,u,h=>by simpa using h
 | c::p,q,u,h=>by
  have h1:Cl qv (p++u::(q++[c])):=by
   have:=Cl.one (a:=c) (l:=p++u::q) h
   simpa using this
  have:=Cl.rot p h1
  simpa using this
theorem Cl.to{T:LL9}(h:Cl qv T){u:List Int}(hu:u∈T):∃l,Cl qv (u::l)/\(u::l).Perm T:=by
 obtain⟨p,q,rfl⟩:=List.append_of_mem hu;exact⟨q++p,h.rot p,(vD (l₁:=u::q) (l₂:=p))⟩
theorem avw:∀(l:LL9) (a:List Int),Chn qv (a::l)->∀r∈a::l,r=las a l∨∃q∈a::l,endR qv r=hdR q
 | [],a,_,r,hr=>.inl (bD.mp hr)
 | b::l,a,h,r,hr=>by
  rcases aZ.mp hr with rfl | hr
  ·exact .inr ⟨b,aK _ (aN ..),h.1⟩
  ·rcases avw l b h.2 r hr with z | ⟨q,hq,e⟩
   ·exact .inl z
   ·exact .inr ⟨q,aK _ hq,e⟩
theorem Cl.nxt{T:LL9}(h:Cl qv T):∀r∈T,∃q∈T,endR qv r=hdR q:=by
 obtain⟨a,l,rfl,e⟩:=h.cl;intro r hr;rcases avw l a h.tr.ch r hr with rfl | z
 ·exact⟨a,aN ..,e⟩
 ·exact z
theorem ax5{r:List Int}(h:Lv qv r):0<=hdR r/\hdR r < (qv.length:Int):=by
 obtain⟨a,b,rfl,ha,_⟩:=h;exact ha
variable(j:∀a b:Int,0<=a->a < (qv.length:Int)->0<=b->b < (qv.length:Int)->Rch qv a b)
include t j
theorem Cl.left{T:LL9}(h:Cl qv T){x:List Int}(hx:Lv qv x)(hn:x∉T):∃u∈T,∃z,Lv qv z/\z∉T/\hdR z=hdR u:=by
 by_cases q:∃u∈T,∃z,Lv qv z/\z∉T/\hdR z=hdR u
 ·exact q
 ·exfalso;have all:∀u∈T,∀z,Lv qv z->hdR z=hdR u->z∈T:=fun u hu z hz e=>kY fun w=>q ⟨u,hu,z,hz,w,e⟩
  obtain⟨a,l,e,_⟩:=h.cl;have ha:a∈T:=by rw[e];exact aN ..
  have r0:=ax5 (h.tr.lv a ha);have vis:∀{b:Int},Rch qv (hdR a) b->∃u∈T,hdR u=b:=fun{b} r=>by
   induction r with
   | base=>exact⟨a,ha,rfl⟩
   | step r h0 hd ih =>
    rename_i y d;obtain⟨u,hu,rfl⟩:=ih;obtain⟨i,hi,ei⟩:=cT.mp hd;have hz:Lv qv [hdR u,(i:Int)]:=⟨_,_,rfl,ax5 (h.tr.lv u hu),by omega,by omega⟩
    obtain⟨v,hv,ev⟩:=h.nxt _ (all u hu _ hz rfl);refine⟨v,hv,?_⟩;rw[<-ev,<-ei];show(dr qv (hdR u)).getD ((i:Nat):Int).toNat 0=_;rw[fB,aP,aC hi];rfl
  have rx:=ax5 hx;obtain⟨u,hu,eu⟩:=vis (j _ _ r0.1 r0.2 rx.1 rx.2);exact hn (all u hu x hx eu.symm)
include bl
theorem full:∀(m:Nat) (T:LL9),T≠[]->Trl qv T->qv.flatten.length - T.length<=m->∃T',Cl qv T'/\T'.length=qv.flatten.length
 | m,[],ne,_,_=>absurd rfl ne
 | m,a::l,_,T,hm=>by
  have sub:∀{k:LL9},Trl qv k->k.length<=qv.flatten.length:=fun{k} h=>by
   have:=aam h.nd fun x hx=>(aos qv x).mpr (h.lv x hx)
   rwa[agl] at this
  by_cases c:endR qv (las a l)=hdR a
  ·have C:Cl qv (a::l):=⟨T,a,l,rfl,c⟩
   by_cases le:(a::l).length=qv.flatten.length
   ·exact⟨_,C,le⟩
   ·have lt:=sub T;obtain⟨x,hx,hn⟩:∃x,Lv qv x/\x∉a::l:=fM fun w=>by
     have:=aam (aiw qv 0) (k:=a::l) fun x hx=>kY fun z=>w ⟨x,(aos qv x).mp hx,z⟩
     rw[agl] at this;omega
    obtain⟨u,hu,z,hz,hzn,e⟩:=C.left t j hx hn;obtain⟨k,ck,pk⟩:=C.to hu;obtain⟨a',l',e',c'⟩:=ck.cl
    injection e' with e1 e2
    subst e1 e2;have Tz:=ck.tr.more hz (fun w=>hzn (pk.mem_iff.mp w)) (by rw[c',e])
    have l1:=sub Tz;have l2:=pk.length_eq;rw[aW,gC] at l1;cases m with
    | zero=>omega
    | succ m=>exact full m _ (by simp) Tz (by rw[aW,gC];omega)
  ·obtain⟨z,hz,hn,e⟩:=a6r t bl T c;have Tz:=T.more hz hn e;have l1:=sub Tz;rw[aW,gC] at l1;cases m with
   | zero=>omega
   | succ m=>exact full m _ (by simp) Tz (by rw[aW,gC];omega)
theorem a3j:∃l,Trl qv ([0,0]::l)/\([0,0]::l).length=qv.flatten.length/\endR qv (las [0,0] l)=0:=by
 have h1:=t.hs.one;have z:Lv qv [0,0]:=⟨0,0,rfl,by omega,by omega,by have:=(t.hs.dr (x:=0) (by omega) (by omega)).1;omega⟩
 obtain⟨T,C,hl⟩:=full t bl j qv.flatten.length [[0,0]] (by simp) ⟨by simp,fun r hr=>by rw[bD.mp hr];exact z,trivial⟩ (by omega)
 have hz:[0,0]∈T:=kY fun w=>by
  have:([0,0]::T).length<=(jh 0 qv).length:=aam (gW.mpr ⟨w,C.tr.nd⟩) fun x hx=>(aos qv x).mpr (by
   rcases aZ.mp hx with rfl | hx
   ·exact z
   ·exact C.tr.lv x hx)
  rw[agl,bJ] at this;omega
 obtain⟨l,cl,p⟩:=C.to hz;obtain⟨a',l',e',c'⟩:=cl.cl
 injection e' with e1 e2
 subst e1 e2;exact⟨l,cl.tr,by rw[p.length_eq,hl],c'⟩
end
theorem wk{l:List D}(h:l.length<=60):Fair (.lst l):=⟨fun k e=>by cases e;exact h,fun k e=>by cases e⟩
theorem auu(l:List D):Fair (.tup l):=⟨fun k e=>(by cases e),fun k e=>(by cases e)⟩
theorem avq{n d:Nat}{a:Int}(h0:0<=a):HT.sIx n d (some a)=min a.toNat n:=by
 unfold HT.sIx;simp;omega
theorem a2w(l:List D){a:Int}(h0:0<=a):(cutD l none (some a)).length<=a.toNat:=by
 unfold cutD;rw[avq h0,fO];omega
theorem ano(l:List D){a:Int}(h0:0<=a):(cutD l (some a) none).length<=l.length - a.toNat:=by
 unfold cutD;rw[avq h0,fO,jD];omega
theorem avd{R:List D}{r:Int}(h0:0<=r)(h1:r < (R.length:Int)):∃d∈R,atI R r=some d:=⟨_,getD_mem (by omega),avf h0 h1⟩
theorem aqw:aaw [.val (.exn "NoTour" [])]=some (.ok (.v (.str "tour")),[.val (.exn "NoTour" [])]):=by kernel_rfl
theorem axv:("NoTour" : Str)∈NS:=iH.mp (by decide +kernel)
def noH:List (LL9):=[[[-1]],[[0,-1]],[[0],[1]],[[1,1],[0]],[[1],[1]],[[1,0],[0,0]],[[1],[0],[2]]]
theorem aoj:∀R∈noH,du [.val (hD R)]=some (.exc ⟨"NoTour", []⟩,[.val (hD R)]):=by
 intro R hR;simp only[noH,aZ,dN,or_false] at hR;rcases hR with rfl | rfl | rfl | rfl | rfl | rfl | rfl
 ·kernel_rfl
 ·kernel_rfl
 ·kernel_rfl
 ·kernel_rfl
 ·kernel_rfl
 ·kernel_rfl
 ·kernel_rfl
theorem aic(P:Int×Int):∃R P',f__law_no_house [.own (some 0) (pen P)]=some (.ok (.v (hD R)),[.own (some 0) (pen P')])/\R∈noH:=by
 obtain⟨r,P',e,h0,h1⟩:=lw P 7 (by decide) (by decide)
 obtain⟨d,hd,ed⟩:=avd (R:=noH.map hD) h0 (by simpa[noH] using h1)
 obtain⟨R,hR,rfl⟩:=bI.mp hd;refine⟨R,P',?_,hR⟩;have hc1:(1:Nat)<=capS:=by decide
 have hc2:(2:Nat)<=capS:=by decide
 have hc3:(3:Nat)<=capS:=by decide
 have hc7:(7:Nat)<=capS:=by decide
 have ed:atI [.tup [.tup [.int (-1)]],.tup [.tup [.int 0,.int (-1)]],.tup [.tup [.int 0],.tup [.int 1]],.tup [.tup [.int 1,.int 1],.tup [.int 0]],.tup [.tup [.int 1],.tup [.int 1]],.tup [.tup [.int 1,.int 0],.tup [.int 0,.int 0]],.tup [.tup [.int 1],.tup [.int 0],.tup [.int 2]]] r=some (hD R):=ed;simp[f__law_no_house,aby,e,ed,hc1,hc2,hc3,hc7]
theorem as3{r:List Int}(h:r=[0]∨r=[0,0]):Tr [r]:=by
 have hb:Bal [r]:=fun i q e=>by
  cases i with
  | zero =>
   have e:r=q:=by simpa using e
   subst e;rcases h with rfl | rfl <;> rfl
  | succ i=>simp at e
 refine azp ?_ (aO 1) (show 1<=6 by decide) hb ?_ ?_
 ·rcases h with rfl | rfl
  ·exact⟨by decide,by decide⟩
  ·exact⟨by decide,by decide⟩
 ·rcases h with rfl | rfl <;> decide
 ·intro a b a0 a1 b0 b1;have ea:a=0:=by simp at a1;omega
  have eb:b=0:=by simp at b1;omega
  rw[ea,eb];exact .base
theorem arf{d:D}(h:match d with | .lst l=>decide (l.length<=60) | .kst _=>false | _=>true):Fair d:=by
 cases d with
 | lst l=>exact wk (of_decide_eq_true h)
 | kst l=>cases h
 | _=>exact⟨fun k e=>(by cases e),fun k e=>(by cases e)⟩
theorem aty(P:Int×Int):∃d P',f__law_odd [.own (some 0) (pen P)]=some (.ok (.v d),[.own (some 0) (pen P')])/\Fair d:=by
 obtain⟨r,P',e,h0,h1⟩:=lw P 16 (by decide) (by decide)
 have big:fPow 10 30=some 1000000000000000000000000000000:=by decide +kernel
 obtain⟨d,hd,ed⟩:=avd (R:=[.non,.bl true,.bl false,.int (-1),.str "1", .str "", .tup [],.lst [],.tup [.int 0],.lst [.int 0],.dct [(mV "a", .int 1)],.tup [.int 0,.int 1],.int 1000000000000000000000000000000,.tup [.tup [.int 0]],.str "ab", .tup [.tup [.int (-1)],.tup [.int 0,.int 1]]]) h0 (by simpa using h1)
 have hc:(16:Nat)<=capS:=by decide
 refine⟨d,P',by simp[f__law_odd,ahf,e,big,ed,hc],?_⟩
 simp only[aZ,dN,or_false] at hd;rcases hd with rfl | rfl | rfl | rfl | rfl | rfl | rfl | rfl | rfl | rfl | rfl | rfl | rfl | rfl | rfl | rfl <;> exact arf rfl
theorem aah{α:Type}{mc:M Bool}{me:M D}{rest:Ro}{u:α->D}{p:α->Bool}{f:α->D}:∀{l:List α} {ys:List D} {s:Sl},(∀x∈l,mc (.val (u x)::rest)=some (.ok (p x),.val (u x)::rest))->(∀x∈l,p x=true->me (.val (u x)::rest)=some (.ok (f x),.val (u x)::rest))->∃s',compD (bj 0) mc me (l.map u) ys (s::rest)=some (.ok (ys++(l.filter p).map f),s'::rest)
 | [],ys,s,_,_=>⟨s,by simp[compD]⟩
 | x::l,ys,s,hc,h=>by
  have h0:=hc x (aN ..);cases hp:p x with
  | true =>
   have h1:=h x (aN ..) hp;obtain⟨s',ih⟩:=aah (mc:=mc) (me:=me) (rest:=rest) (u:=u) (p:=p) (f:=f) (l:=l) (ys:=ys++[f x]) (s:=.val (u x)) (fun y hy=>hc y (aK _ hy)) fun y hy=>h y (aK _ hy)
   exact⟨s',by simp[compD,h0,h1,ih,hp]⟩
  | false =>
   obtain⟨s',ih⟩:=aah (mc:=mc) (me:=me) (rest:=rest) (u:=u) (p:=p) (f:=f) (l:=l) (ys:=ys) (s:=.val (u x)) (fun y hy=>hc y (aK _ hy)) fun y hy=>h y (aK _ hy)
   exact⟨s',by simp[compD,h0,ih,hp]⟩
def lstR(W:LL9):List Int:=W.getLastD []
theorem af5:∀(l:LL9) (a:List Int),lstR (a::l)=las a l
 | [],_=>rfl
 | b::l,a=>by
  rw[show las a (b::l)=las b l from rfl,<-af5 l b]
  unfold lstR;simp[List.getLastD]
theorem af4{W:LL9}(h:W≠[]):lstR W∈W:=by
 cases W with
 | nil=>exact absurd rfl h
 | cons a l=>rw[af5];exact alo l a
theorem asj{W:LL9}(h:W≠[]):atI (W.map rowT) (-1)=some (rowT (lstR W)):=by
 cases W with
 | nil=>exact absurd rfl h
 | cons a l =>
  rw[af5];unfold atI;have e:ixN ((a::l).map rowT).length (-1)=some l.length:=by
   rw[aD,bJ];unfold ixN;simp;omega
  rw[e];show((a::l).map rowT)[l.length]? = _;rw[bK];have:∀(l:LL9) (a:List Int),(a::l)[l.length]? = some (las a l):=fun l=>by
   induction l with
   | nil=>intro a;rfl
   | cons b l ih=>intro a;exact ih b
  rw[this];rfl
def wD(W:LL9):D:=.lst (W.map rowT)
def extR(qv W:LL9):List (LL9):=((rowR (endR qv (lstR W)).toNat (dr qv (endR qv (lstR W)))).filter fun z => !decide (z∈W)).map fun z=>W++[z]
def trF(qv:LL9):Nat->List (LL9)
 | 0=>[[[0,0]]]
 | i+1=>(trF qv i).flatMap (extR qv)
theorem any_rows(W:LL9)(z:List Int):(W.map rowT).any (fun y=>eqD y (rowT z))=decide (z∈W):=by
 induction W with
 | nil=>simp
 | cons x r ih =>
  rw[bR,uR,ih];have:eqD (rowT x) (rowT z)=decide (x=z):=ake x z;rw[this];simp[aZ,eq_comm]
theorem auq(z:List Int)(W:LL9):gIn true (rowT z) (.lst (W.map rowT))=some (.v (.bl (!decide (z∈W)))):=by
 have h1:okD 30 (rowT z)=true:=af2 29 z;have h2:(W.map rowT).all (okD 30)=true:=by
  rw[bA];intro d hd;obtain⟨r,_,rfl⟩:=bI.mp hd;exact af2 29 r
 have h3:=any_rows W z;simp only[gIn,itemsD,h1,h2,h3];simp
section
variable{qv:LL9}(t:Tr qv)
include t
theorem ari{W:LL9}(hW:W≠[])(hv:∀r∈W,Lv qv r):(extR qv W).length<=6:=by
 obtain⟨e0,e1⟩:=anj t (hv _ (af4 hW));have h6:=(t.hs.dr e0 e1).2.1;unfold extR;rw[aD];refine cM (iD ..) ?_;rw[adn];exact h6
theorem a2q{W V:LL9}(hW:W≠[])(hv:∀r∈W,Lv qv r)(h:V∈extR qv W):V.length=W.length+1/\∀r∈V,Lv qv r:=by
 obtain⟨e0,e1⟩:=anj t (hv _ (af4 hW));obtain⟨z,hz,rfl⟩:=bI.mp h;obtain⟨d,hd,rfl⟩:=bI.mp (iT.mp hz).1;refine⟨by simp,fun r hr =>?_⟩
 rcases bZ.mp hr with q | q
 ·exact hv r q
 ·rw[bD.mp q];have:=dJ.mp hd;exact⟨_,_,rfl,by omega,by omega,by rw[gA e0];omega⟩
theorem lv00:Lv qv [0,0]:=⟨0,0,rfl,by have:=t.hs.one;omega,by omega,by have:=(t.hs.dr (x:=0) (by omega) (by have:=t.hs.one;omega)).1;omega⟩
theorem ai9:∀i,∀W∈trF qv i,W.length=i+1/\∀r∈W,Lv qv r
 | 0,W,h=>by
  rw[bD.mp h];exact⟨rfl,fun r hr=>by rw[bD.mp hr];exact lv00 t⟩
 | i+1,W,h=>by
  obtain⟨V,hV,h⟩:=sG.mp h;have ih:=ai9 i V hV;have:=a2q t (fun z=>by rw[z] at ih;simp at ih) ih.2 h
  rw[ih.1] at this;exact this
theorem ayn(Ws:List (LL9))(h:∀W∈Ws,W≠[]/\∀r∈W,Lv qv r):(Ws.flatMap (extR qv)).length<=6*Ws.length:=by
 induction Ws with
 | nil=>simp
 | cons W Ws ih =>
  have h1:=ari t (h W (aN ..)).1 (h W (aN ..)).2;have h2:=ih fun V hV=>h V (aK _ hV)
  rw[wW,aW,bJ];omega
theorem ahp{i:Nat}:∀W∈trF qv i,W≠[]/\∀r∈W,Lv qv r:=fun W hW=>⟨fun z=>by have:=(ai9 t i W hW).1;rw[z] at this;simp at this,(ai9 t i W hW).2⟩
theorem aho:∀i,(trF qv i).length<=6 ^ i
 | 0=>aO 1
 | i+1=>by
  have h1:=ayn t (trF qv i) (ahp t);have h2:=aho i;show((trF qv i).flatMap (extR qv)).length<=_;rw[Nat.pow_succ];omega
omit t in
theorem al6:∀(l:LL9) (a z:List Int),Chn qv (a::l++[z])->Chn qv (a::l)/\endR qv (las a l)=hdR z
 | [],a,z,h=>⟨trivial,h.1⟩
 | b::l,a,z,h=>⟨⟨h.1,(al6 l b z h.2).1⟩,(al6 l b z h.2).2⟩
theorem apg:∀(i:Nat) (l:LL9),l.length=i->Trl qv ([0,0]::l)->[0,0]::l∈trF qv i
 | 0,l,h,_=>by
  rw[uP.mp h];exact bD.mpr rfl
 | i+1,l,h,T=>by
  rcases List.eq_nil_or_concat l with rfl | ⟨k,z,rfl⟩
  ·simp at h
  ·rw[List.concat_eq_append] at h T ⊢
   have T':Trl qv ([0,0]::k++[z]):=T;have hk:k.length=i:=by simpa using h
   obtain⟨c1,c2⟩:=al6 k [0,0] z T'.ch;obtain⟨n1,_,n3⟩:=jX.mp T'.nd;have Tk:Trl qv ([0,0]::k):=⟨n1,fun r hr=>T'.lv r (iM _ hr),c1⟩
   refine sG.mpr ⟨_,apg i k hk Tk,bI.mpr ⟨z,iT.mpr ⟨?_,?_⟩,rfl⟩⟩
   ·obtain⟨a,b,rfl,ha,hb⟩:=T'.lv z (dH _ (bD.mpr rfl));have e:endR qv (lstR ([0,0]::k))=a:=by rw[af5];exact c2
    rw[e];exact bI.mpr ⟨b.toNat,dJ.mpr (by omega),by rw[gA ha.1,gA hb.1]⟩
   ·have:z∉[0,0]::k:=fun w=>n3 z w z (bD.mpr rfl) rfl
    simpa using this
end
section
variable{qv:LL9}(t:Tr qv)
include t
theorem asx{W:LL9}(hW:W≠[])(hv:∀r∈W,Lv qv r)(hw:W.length<=900)(Mo:List (LL9))(hM:Mo.length+(extR qv W).length<=capS)(S1 S2 o5 o6:Sl):∃o5' o6',l1__law_trails [.val (hD qv),S1,S2,.own none (Mo.map wD),.val (wD W),o5,o6]=some (.nx,[.val (hD qv),S1,S2,.own none ((Mo++extR qv W).map wD),.val (wD W),o5',o6']):=by
 obtain⟨a,b,hl,ha,hb⟩:=hv _ (af4 hW);have el:=asj hW;have hz:=anj t (hv _ (af4 hW));have e1:=yp ha.1 ha.2;have e2:=ahk hb;have e3:=yp hz.1 hz.2;have h6:=(t.hs.dr hz.1 hz.2).2.1;have hx:(extR qv W).map wD=((rowR (endR qv (lstR W)).toNat (dr qv (endR qv (lstR W)))).filter fun z => !decide (z∈W)).map fun z=>wD (W++[z]):=by unfold extR;rw[cA];rfl
 have hxl:((extR qv W).map wD).length=(extR qv W).length:=aD ..
 have hML:(Mo.map wD).length=Mo.length:=aD ..
 have hxc:((extR qv W).map wD).length<=capS:=by omega
 have er:rowT (lstR W)=.tup [.int a,.int b]:=by rw[hl];rfl
 rw[er] at el;rw[<-hl] at e2;generalize endR qv (lstR W)=v at *;have ec:∃o,compD (bj 0) (ret true) zb (dg 0 (dr qv v).length) [] [.emp,.val (.int v)]=some (.ok ((rowR v.toNat (dr qv v)).map rowT),[o,.val (.int v)]):=by
  refine⟨ack .emp (dg 0 (dr qv v).length),?_⟩;rw[ou (f:=fun d=>.tup [.int v,d])]
  ·rw[cD];unfold rowR dg;rw[cA,cA]
   congr 3
   apply gY;intro i _;simp[rowT];omega
  ·intro d _;simp[zb]
 obtain⟨o1,ec⟩:=ec;obtain⟨o2,ef⟩:=aah (mc:=zm) (me:=ut) (rest:=[.val (wD W)]) (u:=rowT) (p:=fun z => !decide (z∈W)) (f:=fun z=>wD (W++[z])) (l:=rowR v.toNat (dr qv v)) (ys:=[]) (s:=.emp) (fun z _=>by
   have:=auq z W;generalize (!decide (z∈W))=bb at *;unfold wD;generalize W.map rowT=WW at *;generalize rowT z=zz at *;simp[zm,this]) fun z _ _=>by
   have h1:(1:Nat)<=capS:=by decide
   have h2:W.length+1<=capS:=di (by omega)
   have h3:(W.map rowT).length=W.length:=aD ..
   unfold wD;rw[cJ];show ut [.val (rowT z),.val (.lst (W.map rowT))]=some (.ok (.lst (W.map rowT++[rowT z])),[.val (rowT z),.val (.lst (W.map rowT))]);generalize W.map rowT=WW at *;generalize rowT z=zz at *;simp[ut,h1,h2,h3]
 rw[cD,<-hx] at ef;refine⟨.val (.int v),.val (.lst ((rowR v.toNat (dr qv v)).map rowT)),?_⟩;rw[cJ];have i0:atI [D.int a,.int b] 0=some (.int a):=rfl;have i1:atI [D.int a,.int b] 1=some (.int b):=rfl;have hn:(dr qv v).length < 4611686018427387904:=by omega
 have hdl:((dr qv v).map D.int).length=(dr qv v).length:=aD ..
 have hrl:((rowR v.toNat (dr qv v)).map rowT).length<=capS:=by rw[aD,adn];exact di (by omega)
 simp only[hD];unfold wD at *;generalize (extR qv W).map (fun W=>D.lst (W.map rowT))=EE at *
 generalize Mo.map (fun W=>D.lst (W.map rowT))=MM at *
 generalize W.map rowT=WW at *;generalize (rowR v.toNat (dr qv v)).map rowT=RR at *;generalize (dr qv v).length=dl at *;generalize (dr qv v).map D.int=dv at *;generalize (dr qv a).map D.int=da at *;generalize hDs qv=hh at *;unfold l1__law_trails;refine(seq2 (ρ':=[.val (.tup hh),S1,S2,.own none MM,.val (.lst WW),.val (.int v),o6]) (by simp[el,i0,i1,e1,e2])).trans ?_
 refine(seq2 (ρ':=[.val (.tup hh),S1,S2,.own none MM,.val (.lst WW),.val (.int v),.own none RR]) (by simp[e3,hdl,hn,ec,hrl])).trans ?_
 have hM':Mo.length+(extR qv W).length<=capS:=hM;have hx2:(extR qv W).length<=capS:=by omega
 simp[ef,hx2,hxl,hML,hM']
theorem amy(S1 S2:Sl):∀(Ws:List (LL9)) (Mo:List (LL9)) (o4 o5 o6:Sl),(∀W∈Ws,(W≠[]/\∀r∈W,Lv qv r)/\W.length<=900)->Mo.length+6*Ws.length<=capS->∃o4' o5' o6',forD (bj 4) l1__law_trails (Ws.map wD) [.val (hD qv),S1,S2,.own none (Mo.map wD),o4,o5,o6]=some (.nx,[.val (hD qv),S1,S2,.own none ((Mo++Ws.flatMap (extR qv)).map wD),o4',o5',o6'])
 | [],Mo,o4,o5,o6,_,_=>⟨o4,o5,o6,by simp⟩
 | W::Ws,Mo,o4,o5,o6,h,hM=>by
  obtain⟨⟨hW,hv⟩,hw⟩:=h W (aN ..);have h6:=ari t hW hv;rw[bJ] at hM;obtain⟨p5,p6,st⟩:=asx t hW hv hw Mo (by omega) S1 S2 o5 o6
  obtain⟨o4',o5',o6',ih⟩:=amy S1 S2 Ws (Mo++extR qv W) (.val (wD W)) p5 p6 (fun V hV=>h V (aK _ hV)) (by rw[aW];omega)
  refine⟨o4',o5',o6',?_⟩;rw[bR,jt];simp only[uw,fH,fG];rw[st];dsimp only;rw[ih,wW,lW]
theorem asy{i:Nat}(hi:i<=8){S1:Sl}(h1:S1=.val (.lst ((trF qv i).map wD))∨S1=.own none ((trF qv i).map wD))(S2 o3 o4 o5 o6:Sl):∃o3' o4' o5' o6',l2__law_trails [.val (hD qv),S1,S2,o3,o4,o5,o6]=some (.nx,[.val (hD qv),.val (.lst ((trF qv (i+1)).map wD)),S2,o3',o4',o5',o6']):=by
 have hl:=aho t i;have h9:6 ^ i<=6 ^ 8:=qH (by decide) hi
 have hc:6*(trF qv i).length<=capS:=cM (Nat.mul_le_mul_left 6 (cM hl h9)) (by decide)
 obtain⟨o4',o5',o6',e⟩:=amy t (.val (.lst ((trF qv i).map wD))) S2 (trF qv i) [] o4 o5 o6 (fun W hW=>⟨ahp t W hW,by have:=(ai9 t i W hW).1;omega⟩) (by simpa using hc)
 rw[mC,cD] at e;have e':forD (bj 4) l1__law_trails ((trF qv i).map wD) [.val (hD qv),.val (.lst ((trF qv i).map wD)),S2,.own none [],o4,o5,o6]=some (.nx,[.val (hD qv),.val (.lst ((trF qv i).map wD)),S2,.own none ((trF qv (i+1)).map wD),o4',o5',o6']):=e;refine⟨.val (.lst ((trF qv (i+1)).map wD)),o4',o5',o6',?_⟩;generalize (trF qv (i+1)).map wD=F1 at *;generalize (trF qv i).map wD=F0 at *;generalize hD qv=hh at *;have hc0:(0:Nat)<=capS:=cI _;rcases h1 with rfl | rfl
 ·simp[l2__law_trails,e',hc0]
 ·simp[l2__law_trails,e',hc0]
theorem ai8:∀(ds:List D) (i:Nat),i+ds.length<=8->∀{S1:Sl},(S1=.val (.lst ((trF qv i).map wD))∨S1=.own none ((trF qv i).map wD))->∀(S2 o3 o4 o5 o6:Sl),∃S1' o2' o3' o4' o5' o6',(S1'=.val (.lst ((trF qv (i+ds.length)).map wD))∨S1'=.own none ((trF qv (i+ds.length)).map wD))/\forD (bj 2) l2__law_trails ds [.val (hD qv),S1,S2,o3,o4,o5,o6]=some (.nx,[.val (hD qv),S1',o2',o3',o4',o5',o6'])
 | [],i,_,S1,h,S2,o3,o4,o5,o6=>⟨S1,S2,o3,o4,o5,o6,h,rfl⟩
 | d::ds,i,hi,S1,h,S2,o3,o4,o5,o6=>by
  rw[bJ] at hi;obtain⟨p3,p4,p5,p6,st⟩:=asy t (show i<=8 by omega) h (.val d) o3 o4 o5 o6
  obtain⟨S1',o2',o3',o4',o5',o6',h',ih⟩:=ai8 ds (i+1) (by omega) (.inl rfl) (.val d) p3 p4 p5 p6
  refine⟨S1',o2',o3',o4',o5',o6',by rw[bJ,show i+(ds.length+1)=i+1+ds.length by omega];exact h',?_⟩
  rw[jt];simp only[uw,fH,fG];rw[st];exact ih
theorem ak1(h1:1<=qv.flatten.length)(h9:qv.flatten.length<=9):sy [.val (hD qv)]=some (.ok (.fr (((trF qv (qv.flatten.length - 1)).filter fun W=>endR qv (lstR W)==0).map wD)),[.val (hD qv)]):=by
 have ec:compD (bj 0) (ret true) acq (hDs qv) [] [.emp]=some (.ok ((qv.map fun r=>((r.length:Nat):Int)).map D.int),ack .emp (hDs qv)::[]):=af7 t.hs
 have hc:=aig t.hs;have es:=aif (qv:=qv);have hr:(dg 0 (qv.flatten.length - 1)).length=qv.flatten.length - 1:=by unfold dg;simp
 obtain⟨S1',o2',o3',o4',o5',o6',h',e⟩:=ai8 t (dg 0 (qv.flatten.length - 1)) 0 (by rw[hr];omega) (S1:=.own none ((trF qv 0).map wD)) (.inr rfl) .emp .emp .emp .emp .emp
 rw[hr,eN] at h';have k1:(1:Nat)<=capS:=by decide
 have k2:(2:Nat)<=capS:=by decide
 have e:forD (bj 2) l2__law_trails (dg 0 (qv.flatten.length - 1)) [.val (hD qv),.own none [.lst [.tup [.int 0,.int 0]]],.emp,.emp,.emp,.emp,.emp]=_:=e;have hsub:(((qv.flatten.length:Nat):Int) - 1).toNat=qv.flatten.length - 1:=by omega
 have hna:(((qv.flatten.length:Nat):Int) - 1).natAbs < 4611686018427387904:=by omega
 obtain⟨o2,ef⟩:=aah (mc:=zg) (me:=za) (rest:=[.val (hD qv)]) (u:=wD) (p:=fun W=>endR qv (lstR W)==0) (f:=wD) (l:=trF qv (qv.flatten.length - 1)) (ys:=[]) (s:=.emp) (fun W hW=>by
   obtain⟨hW,hv⟩:=ahp t W hW;obtain⟨a,b,hl,ha,hb⟩:=hv _ (af4 hW);have el:=asj hW;have er:rowT (lstR W)=.tup [.int a,.int b]:=by rw[hl];rfl
   have e1:=yp ha.1 ha.2;have e2:=ahk hb;rw[er] at el;rw[<-hl] at e2;have i0:atI [D.int a,.int b] 0=some (.int a):=rfl;have i1:atI [D.int a,.int b] 1=some (.int b):=rfl;simp only[hD,wD];generalize endR qv (lstR W)=v at *;generalize W.map rowT=WW at *;generalize (dr qv a).map D.int=da at *;generalize hDs qv=hh at *;simp[zg,el,i0,i1,e1,e2]) fun W _ _=>by simp[za]
 rw[cD] at ef;have hcf:(((trF qv (qv.flatten.length - 1)).filter fun W=>endR qv (lstR W)==0).map wD).length<=capS:=by
  rw[aD];refine cM (iD ..) (cM (aho t _) (cM (qH (by decide) (show qv.flatten.length - 1<=8 by omega)) (by decide)))
 generalize ((trF qv (qv.flatten.length - 1)).filter fun W=>endR qv (lstR W)==0).map wD=FF at *
 generalize (trF qv (qv.flatten.length - 1)).map wD=F0 at *;generalize (qv.map fun r=>((r.length:Nat):Int)).map D.int=CC at *
 generalize qv.flatten.length - 1=n1 at *;generalize ((qv.flatten.length:Nat):Int)=NN at *;simp only[hD] at *;generalize hDs qv=hh at *;unfold sy;rw[anf];have eg:aar [.val (.tup hh),.emp,.emp,.emp,.emp,.emp,.emp]=some (.ret (.fr FF),[.val (.tup hh),.val (.lst F0),o2',o3',o4',o5',o6']):=by
  unfold aar;refine(seq2 (ρ':=[.val (.tup hh),.own none [.lst [.tup [.int 0,.int 0]]],.emp,.emp,.emp,.emp,.emp]) (by simp[k1,k2])).trans ?_
  refine(seq2 (ρ':=[.val (.tup hh),S1',o2',o3',o4',o5',o6']) ?_).trans ?_
  ·simp[ec,hc,es,hna,hsub,e]
  ·rcases h' with rfl | rfl
   ·simp[ef,hcf]
   ·simp[ef,hcf]
 rw[show([.val (.tup hh)]++aF (7 - 1) Sl.emp:Ro)=[.val (.tup hh),.emp,.emp,.emp,.emp,.emp,.emp] from rfl]
 rw[eg];rfl
end
section
variable{qv:LL9}(t:Tr qv)
include t
theorem a2p:1<=qv.flatten.length:=by
 obtain⟨r,hr⟩:=sH (l:=qv) (by have:=t.hs.one;omega)
 have h1:=(t.hs.room r hr).1;obtain⟨x,hx⟩:=sH (l:=r) (by omega)
 exact lN (sE.mpr ⟨r,hr,hx⟩)
omit t in
theorem as6{hh A0 A1 A2 Y1 Y2:List D}{N LL MM M2 k1 k2:Int}{P P':Int×Int}(hL:(hh.length:Int)=LL)(m1:fMul 2 N=some M2)(m2:fMul M2 LL=some MM)(e0:f__law_drawn [.own (some 0) (pen P),.val (.tup hh)]=some (.ok (.v (.tup A0)),[.own (some 0) (pen P'),.val (.tup hh)]))
  (w1:je [.val (.tup hh),.val (.tup A0),.val (.int 0),.val (.int MM)]=some (.ok (.v (.tup [.lst Y1,.tup A1,.int k1])),[.val (.tup hh),.val (.tup A0),.val (.int k1),.val (.int MM)]))
  (w2:je [.val (.tup hh),.val (.tup A1),.val (.int k1),.val (.int N)]=some (.ok (.v (.tup [.lst Y2,.tup A2,.int k2])),[.val (.tup hh),.val (.tup A1),.val (.int k2),.val (.int N)])) :
  (dSeq (dAsg (M.d (mFn je [some 1,none,none,none] (dq 1 (b8 (M.d (mFn f__law_drawn [some 0,none] (dq 0 (b8 (mVar 1) gm)))) (b8 (ret (.int 0)) (b8 (M.d (mOp gMul (dz (M.d (mOp gMul (dz (ret (.int 2)) (dj 2)))) (M.d (fu (g1 gL9) (gw 1 mNil)))))) gm)))))) (bTup 3 (jc (bj 4) (jc (bj 5) (jc (bj 6) bNil))))) (dRet (mOp gIx (dz (M.d (mFn je [some 1,some 5,none,none] (dq 1 (dq 5 (b8 (mVar 6) (b8 (mVar 2) gm)))))) (ret (.int 0)))))) [.own (some 0) (pen P),.val (.tup hh),.val (.int N),.emp,.emp,.emp,.emp]=some (.ret (.v (.lst Y2)),[.own (some 0) (pen P'),.val (.tup hh),.val (.int N),.emp,.val (.lst Y1),.val (.tup A1),.val (.int k1)]):=by
 have i0:∀a b c:D,atI [a,b,c] 0=some a:=fun _ _ _=>rfl
 simp[hL,m1,m2,e0,w1,w2,i0]
theorem apk(P:Int×Int):∃(X:LL9) (P':Int×Int) (ρ:Ro),(dSeq (dAsg (M.d (mFn je [some 1,none,none,none] (dq 1 (b8 (M.d (mFn f__law_drawn [some 0,none] (dq 0 (b8 (mVar 1) gm)))) (b8 (ret (.int 0)) (b8 (M.d (mOp gMul (dz (M.d (mOp gMul (dz (ret (.int 2)) (dj 2)))) (M.d (fu (g1 gL9) (gw 1 mNil)))))) gm)))))) (bTup 3 (jc (bj 4) (jc (bj 5) (jc (bj 6) bNil))))) (dRet (mOp gIx (dz (M.d (mFn je [some 1,some 5,none,none] (dq 1 (dq 5 (b8 (mVar 6) (b8 (mVar 2) gm)))))) (ret (.int 0)))))) [.own (some 0) (pen P),.val (hD qv),.val (.int ((qv.flatten.length:Nat):Int)),.emp,.emp,.emp,.emp]=some (.ret (.v (wD X)),.own (some 0) (pen P')::.val (hD qv)::ρ)/\X.length=qv.flatten.length/\∀r∈X,Lv qv r:=by
 have f6:=av5 t;have hL:=ac3 qv;have h6:=t.six;have h1:=t.hs.one;have hle:2*qv.flatten.length*qv.length<=900:=by
  have:=Nat.mul_le_mul (show 2*qv.flatten.length<=72 by omega) h6
  omega
 obtain⟨as,P',e0,ha⟩:=amb P t.hs;obtain⟨X1,as1,k1,w1,a1,⟨k10,k11⟩,_,_⟩:=ai5 t ha (k:=0) (by omega) (by omega) (2*qv.flatten.length*qv.length) hle
 obtain⟨X2,as2,k2,w2,a2,_,x2,v2⟩:=ai5 t a1 k10 k11 qv.flatten.length (by omega)
 have hcast:((2*qv.flatten.length*qv.length:Nat):Int)=2*(qv.flatten.length:Int)*(qv.length:Int):=by simp
 rw[hcast] at w1;have m1:=arc (a:=2) (b:=(qv.flatten.length:Int)) (by omega) (by omega)
 have m2:=arc (a:=2*(qv.flatten.length:Int)) (b:=(qv.length:Int)) (by omega) (by omega)
 exact⟨X2,P',_,as6 (by rw[hL]) m1 m2 e0 w1 w2,x2,v2⟩
theorem aph(bl:Bal qv)(j:∀a b:Int,0<=a->a < (qv.length:Int)->0<=b->b < (qv.length:Int)->Rch qv a b)(P:Int×Int):∃(X:LL9) (P':Int×Int),um [.own (some 0) (pen P),.val (hD qv)]=some (.ok (.v (wD X)),[.own (some 0) (pen P'),.val (hD qv)])/\X.length=qv.flatten.length/\∀r∈X,Lv qv r:=by
 have ec:compD (bj 0) (ret true) ab1 (hDs qv) [] [.emp]=some (.ok ((qv.map fun r=>((r.length:Nat):Int)).map D.int),ack .emp (hDs qv)::[]):=af7 t.hs
 have hc:=aig t.hs;have es:=aif (qv:=qv);have f1:=a2p t;have key:∃(X:LL9) (P':Int×Int) (ρ:Ro),ac5 [.own (some 0) (pen P),.val (hD qv),.emp,.emp,.emp,.emp,.emp]=some (.ret (.v (wD X)),.own (some 0) (pen P')::.val (hD qv)::ρ)/\X.length=qv.flatten.length/\∀r∈X,Lv qv r:=by
  have s1:∀g:Sd,dSeq (dSet 2 (fu (g1 gSum) (ak (M.d (rm [none] (j6 (mVar 1)) (bj 0) (ret true) ab1)) mNil))) g [.own (some 0) (pen P),.val (hD qv),.emp,.emp,.emp,.emp,.emp]=g [.own (some 0) (pen P),.val (hD qv),.val (.int ((qv.flatten.length:Nat):Int)),.emp,.emp,.emp,.emp]:=fun g=>by
   refine seq2 ?_;generalize (qv.map fun r=>((r.length:Nat):Int)).map D.int=CC at *
   generalize ((qv.flatten.length:Nat):Int)=NN at *;simp only[hD] at *;generalize hDs qv=hh at *;simp[ec,hc,es]
  unfold ac5;rw[s1]
  by_cases h9:qv.flatten.length<=9
  ·have h9':((qv.flatten.length:Nat):Int)<=9:=by omega
   obtain⟨r,P1,e1,r0,r1⟩:=lw P 2 (by decide) (by decide)
   by_cases hr:r=0
   ·subst hr;have et:=ak1 t f1 h9;obtain⟨l,T,hl,hz⟩:=a3j t bl j;have hin:([0,0]::l)∈(trF qv (qv.flatten.length - 1)).filter fun W=>endR qv (lstR W)==0:=by
     refine iT.mpr ⟨apg t _ l (by rw[bJ] at hl;omega) T,?_⟩
     rw[af5,hz];rfl
    have hok:∀W∈(trF qv (qv.flatten.length - 1)).filter (fun W=>endR qv (lstR W)==0),W.length=qv.flatten.length/\∀r∈W,Lv qv r:=fun W hW=>by
     have:=ai9 t _ W (iT.mp hW).1;exact⟨by omega,this.2⟩
    have hle:((trF qv (qv.flatten.length - 1)).filter fun W=>endR qv (lstR W)==0).length<=6 ^ 8:=cM (iD ..) (cM (aho t _) (qH (by decide) (by omega)))
    generalize ((trF qv (qv.flatten.length - 1)).filter fun W=>endR qv (lstR W)==0)=FF at *
    have hpos:=lN hin;have hle':FF.length<=1679616:=hle;obtain⟨q,P2,e2,q0,q1⟩:=lw P1 ((FF.map wD).length:Int) (by rw[aD];omega) (by rw[aD];omega)
    obtain⟨d,hd,ed⟩:=avd q0 q1;obtain⟨W,hW,rfl⟩:=bI.mp hd;refine⟨W,P2,[.val (.int ((qv.flatten.length:Nat):Int)),.own none (FF.map wD),.emp,.emp,.emp],?_,hok W hW⟩;generalize ((qv.flatten.length:Nat):Int)=NN at *;generalize FF.map wD=LL at *;generalize wD W=ww at *;generalize hD qv=hh at *;simp[h9',e1,et,e2,ed]
   ·obtain⟨X,P',ρ,e,xl,xv⟩:=apk t P1;refine⟨X,P',ρ,?_,xl,xv⟩;refine(seq2 ?_).trans e;generalize ((qv.flatten.length:Nat):Int)=NN at *;generalize hD qv=hh at *;simp[h9',e1,hr]
  ·obtain⟨X,P',ρ,e,xl,xv⟩:=apk t P;refine⟨X,P',ρ,?_,xl,xv⟩;refine(seq2 ?_).trans e;have h9':¬((qv.flatten.length:Nat):Int)<=9:=by omega
   generalize ((qv.flatten.length:Nat):Int)=NN at *;generalize hD qv=hh at *;simp[h9']
 obtain⟨X,P',ρ,e,xl,xv⟩:=key;refine⟨X,P',?_,xl,xv⟩;unfold um;rw[anf];rw[show([.own (some 0) (pen P),.val (hD qv)]++aF (7 - 2) Sl.emp:Ro)=[.own (some 0) (pen P),.val (hD qv),.emp,.emp,.emp,.emp,.emp] from rfl]
 rw[e];rfl
end
theorem adc{α:Type}{mc:M Bool}{me:M D}{rest:Ro}{u v f:α->D}{p:α->Bool}:∀{l:List α} {ys:List D} {s t:Sl},(∀x∈l,mc (.val (u x)::.val (v x)::rest)=some (.ok (p x),.val (u x)::.val (v x)::rest))->(∀x∈l,p x=true->me (.val (u x)::.val (v x)::rest)=some (.ok (f x),.val (u x)::.val (v x)::rest))->∃s' t',compD (bTup 2 (jc (bj 0) (jc (bj 1) bNil))) mc me (l.map fun x=>D.tup [u x,v x]) ys (s::t::rest)=some (.ok (ys++(l.filter p).map f),s'::t'::rest)
 | [],ys,s,t,_,_=>⟨s,t,by simp[compD]⟩
 | x::l,ys,s,t,hc,h=>by
  have h0:=hc x (aN ..);cases hp:p x with
  | true =>
   have h1:=h x (aN ..) hp;obtain⟨s',t',ih⟩:=adc (mc:=mc) (me:=me) (rest:=rest) (u:=u) (v:=v) (p:=p) (f:=f) (l:=l) (ys:=ys++[f x]) (s:=.val (u x)) (t:=.val (v x)) (fun y hy=>hc y (aK _ hy)) fun y hy=>h y (aK _ hy)
   exact⟨s',t',by simp[compD,h0,h1,ih,hp]⟩
  | false =>
   obtain⟨s',t',ih⟩:=adc (mc:=mc) (me:=me) (rest:=rest) (u:=u) (v:=v) (p:=p) (f:=f) (l:=l) (ys:=ys) (s:=.val (u x)) (t:=.val (v x)) (fun y hy=>hc y (aK _ hy)) fun y hy=>h y (aK _ hy)
   exact⟨s',t',by simp[compD,h0,ih,hp]⟩
def dueR(qv rows:LL9)(a:Int):List Int:=(rows.filter fun r=>hdR r==a).map (endR qv)
def dueD(qv rows:LL9)(n:Nat):List D:=(aR n).map fun(i:Nat)=>.tup ((dueR qv rows (i:Int)).map D.int)
theorem ank(qv rows:LL9)(n:Nat):dueD qv rows (n+1)=dueD qv rows n++[.tup ((dueR qv rows (n:Int)).map D.int)]:=by
 unfold dueD;rw[pX,cJ];rfl
theorem al3(qv rows:LL9)(n:Nat):(dueD qv rows n).length=n:=by unfold dueD;simp
theorem ag6{n i:Nat}{d:D}(h:(dg 0 n)[i]? = some d):d=.int (i:Int)/\i < n:=by
 unfold dg at h;rw[bK] at h;obtain⟨k,hk,e⟩:=uW.mp h;have:=aM.mp hk;obtain⟨h1,h2⟩:=this;rw[nJ] at h2;rw[iU] at h1;subst h2;exact⟨by rw[<-e];simp,h1⟩
section
variable{qv:LL9}(t:Tr qv)
include t
section
variable{rows:LL9}(hv:∀r∈rows,Lv qv r)(hz:rows.length<=60)
include hv hz
theorem ay3(i:Nat)(hi:i < qv.length)(o:Sl):ye [.val (hD qv),.val (wD rows),.own none (dueD qv rows i),.val (.int (i:Int))]=some (.nx,[.val (hD qv),.val (wD rows),.own none (dueD qv rows (i+1)),.val (.int (i:Int))]):=by
 have er:=yp (qv:=qv) (x:=(i:Int)) (by omega) (by omega)
 obtain⟨s',ec⟩:=aah (mc:=aa4) (me:=aa0) (rest:=[.val (.int (i:Int)),.val (hD qv)]) (u:=rowT) (p:=fun r=>hdR r==(i:Int)) (f:=fun r=>.int (endR qv r)) (l:=rows) (ys:=[]) (s:=.emp) (fun r hr=>by
   obtain⟨a,b,rfl,ha,hb⟩:=hv r hr;have i0:atI [D.int a,.int b] 0=some (.int a):=rfl;show aa4 [.val (.tup [.int a,.int b]),.val (.int (i:Int)),.val (hD qv)]=some (.ok (a==(i:Int)),[.val (.tup [.int a,.int b]),.val (.int (i:Int)),.val (hD qv)]);generalize hD qv=hh;generalize ((i:Nat):Int)=ii;simp[aa4,i0]) fun r hr hp=>by
   obtain⟨a,b,rfl,ha,hb⟩:=hv r hr;have hp:a=(i:Int):=by simpa[hdR] using hp
   subst hp;have e2:=ahk hb;have i1:atI [D.int (i:Int),.int b] 1=some (.int b):=rfl;show aa0 [.val (.tup [.int (i:Int),.int b]),.val (.int (i:Int)),.val (hD qv)]=some (.ok (.int (endR qv [(i:Int),b])),[.val (.tup [.int (i:Int),.int b]),.val (.int (i:Int)),.val (hD qv)]);simp only[hD];generalize endR qv [(i:Int),b]=ee at *;generalize (dr qv (i:Int)).map D.int=dd at *;generalize hDs qv=hh at *;generalize ((i:Nat):Int)=ii at *;simp[aa0,er,e2,i1]
 have em:((rows.filter fun r=>hdR r==(i:Int)).map fun r=>D.int (endR qv r))=(dueR qv rows (i:Int)).map D.int:=by unfold dueR;rw[cA];rfl
 rw[cD,em] at ec;have hl:((dueR qv rows (i:Int)).map D.int).length<=capS:=by
  unfold dueR;rw[aD,aD];exact di (cM (iD ..) (by omega))
 have hm:=t.hs.most;have hd:(dueD qv rows i).length < capS:=by rw[al3];exact bM (show i < 100 by omega) (by decide)
 rw[ank];unfold wD at *;generalize (dueR qv rows (i:Int)).map D.int=QQ at *;generalize dueD qv rows i=DD at *;generalize rows.map rowT=RR at *;generalize ((i:Nat):Int)=ii at *;generalize hD qv=hh at *;simp[ye,ec,hl,hd]
theorem ay4:∃o,forD (bj 3) ye (dg 0 qv.length) [.val (hD qv),.val (wD rows),.own none [],.emp]=some (.nx,[.val (hD qv),.val (wD rows),.own none (dueD qv rows qv.length),o]):=by
 have:=afg (b:=bj 3) (g:=ye) (fun i ρ=>∃o,ρ=[.val (hD qv),.val (wD rows),.own none (dueD qv rows i),o]) (l:=dg 0 qv.length) (ρ:=[.val (hD qv),.val (wD rows),.own none [],.emp]) 0 ⟨.emp,rfl⟩ fun i d ρ hd hI=>by
  obtain⟨o,rfl⟩:=hI;obtain⟨rfl,hi⟩:=ag6 hd;rw[eN];exact⟨_,_,rfl,.inl (ay3 t hv hz i hi o),_,rfl⟩
 obtain⟨ρ',e,o,rfl⟩:=this;have hr:(dg 0 qv.length).length=qv.length:=by unfold dg;simp
 rw[hr,eN] at e;exact⟨o,e⟩
theorem al5(h:zr qv (wD rows)=true):mq [.val (hD qv),.val (wD rows)]=some (.ok (.v (.tup (dueD qv rows qv.length))),[.val (hD qv),.val (wD rows)]):=by
 have e0:=api t (th:=wD rows) (wk (by rw[aD];exact hz))
 rw[h] at e0;obtain⟨o,e1⟩:=ay4 t hv hz;have hm:=t.hs.most;have hn:qv.length < 4611686018427387904:=by omega
 have hl:=ac3 qv;have hc0:(0:Nat)<=capS:=cI _;simp only[hD] at *;generalize dueD qv rows qv.length=DD at *;generalize wD rows=ww at *;generalize hDs qv=hh at *;generalize qv.length=nn at *;simp[mq,aca,e0,e1,hl,hn,hc0]
theorem au0(i:Nat)(hi:i < qv.length)(o2 o5 o6:Sl):sr [.val (hD qv),.val (wD rows),o2,.own none (dueD qv rows i),.val (.int (i:Int)),o5,o6]=some (.nx,[.val (hD qv),.val (wD rows),o2,.own none (dueD qv rows (i+1)),.val (.int (i:Int)),o5,o6]):=by
 have er:=yp (qv:=qv) (x:=(i:Int)) (by omega) (by omega)
 have h2:∀r∈rows,∃a b:Int,r=[a,b]:=fun r hr=>by
  obtain⟨a,b,e,_⟩:=hv r hr;exact⟨a,b,e⟩
 obtain⟨s',t',ec⟩:=adc (mc:=w6) (me:=wy) (rest:=[.val (hD qv),.val (.int (i:Int))]) (u:=fun r:List Int=>.int (r.getD 0 0)) (v:=fun r=>.int (r.getD 1 0)) (p:=fun r=>hdR r==(i:Int)) (f:=fun r=>.int (endR qv r)) (l:=rows) (ys:=[]) (s:=.emp) (t:=.emp) (fun r hr=>by
   show w6 [.val (.int (hdR r)),.val (.int (r.getD 1 0)),.val (hD qv),.val (.int (i:Int))]=some (.ok (hdR r==(i:Int)),[.val (.int (hdR r)),.val (.int (r.getD 1 0)),.val (hD qv),.val (.int (i:Int))]);generalize hD qv=hh;generalize ((i:Nat):Int)=ii;generalize hdR r=aa;simp[w6]) fun r hr hp=>by
   obtain⟨a,b,rfl,ha,hb⟩:=hv r hr;have e1:=yp ha.1 ha.2;have e2:=ahk hb;show wy [.val (.int a),.val (.int b),.val (hD qv),.val (.int (i:Int))]=some (.ok (.int (endR qv [a,b])),[.val (.int a),.val (.int b),.val (hD qv),.val (.int (i:Int))]);simp only[hD];generalize endR qv [a,b]=ee at *;generalize (dr qv a).map D.int=dd at *;generalize hDs qv=hh at *;generalize ((i:Nat):Int)=ii at *;simp[wy,e1,e2]
 have em:((rows.filter fun r=>hdR r==(i:Int)).map fun r=>D.int (endR qv r))=(dueR qv rows (i:Int)).map D.int:=by unfold dueR;rw[cA];rfl
 rw[cD,em,<-amo h2] at ec;have hl:((dueR qv rows (i:Int)).map D.int).length<=capS:=by
  unfold dueR;rw[aD,aD];exact di (cM (iD ..) (by omega))
 have hm:=t.hs.most;have hd:(dueD qv rows i).length < capS:=by rw[al3];exact bM (show i < 100 by omega) (by decide)
 rw[ank];unfold wD at *;generalize (dueR qv rows (i:Int)).map D.int=QQ at *;generalize dueD qv rows i=DD at *;generalize rows.map rowT=RR at *;generalize ((i:Nat):Int)=ii at *;generalize hD qv=hh at *;simp[sr,ec,hl,hd]
theorem au1(o2:Sl):∃o,forD (bj 4) sr (dg 0 qv.length) [.val (hD qv),.val (wD rows),o2,.own none [],.emp,.emp,.emp]=some (.nx,[.val (hD qv),.val (wD rows),o2,.own none (dueD qv rows qv.length),o,.emp,.emp]):=by
 have:=afg (b:=bj 4) (g:=sr) (fun i ρ=>∃o,ρ=[.val (hD qv),.val (wD rows),o2,.own none (dueD qv rows i),o,.emp,.emp]) (l:=dg 0 qv.length) (ρ:=[.val (hD qv),.val (wD rows),o2,.own none [],.emp,.emp,.emp]) 0 ⟨.emp,rfl⟩ fun i d ρ hd hI=>by
  obtain⟨o,rfl⟩:=hI;obtain⟨rfl,hi⟩:=ag6 hd;rw[eN];exact⟨_,_,rfl,.inl (au0 t hv hz i hi o2 .emp .emp),_,rfl⟩
 obtain⟨ρ',e,o,rfl⟩:=this;have hr:(dg 0 qv.length).length=qv.length:=by unfold dg;simp
 rw[hr,eN] at e;exact⟨o,e⟩
theorem as4(h:zr qv (wD rows)=true):jf [.val (hD qv),.val (wD rows)]=some (.ok (.v (.tup [.str "told", .tup (dueD qv rows qv.length)])),[.val (hD qv),.val (wD rows)]):=by
 have e:=al5 t hv hz h;have k2:(2:Nat)<=capS:=by decide
 generalize dueD qv rows qv.length=DD at *;generalize wD rows=ww at *;generalize hD qv=hh at *;simp[jf,ac6,dTry,e,k2]
end
omit t in
theorem amh{hh th:D}(e:mq [.val hh,.val th]=some (.exc ⟨"NoTour", []⟩,[.val hh,.val th])):jf [.val hh,.val th]=some (.ok (.v (.tup [.str "tour", .non])),[.val hh,.val th]):=by
 have e2:=aqw;have e3:=axv;have k2:(2:Nat)<=capS:=by decide
 simp[jf,ac6,dTry,e,e3,ae1,e2,k2]
theorem awl{th:D}(hf:Fair th)(h:zr qv th=false):jf [.val (hD qv),.val th]=some (.ok (.v (.tup [.str "tour", .non])),[.val (hD qv),.val th]):=by
 have e0:=api t hf;rw[h] at e0;refine amh ?_;generalize hD qv=hh at *;simp[mq,aca,e0]
omit t in
theorem apj{hh:D}(e:du [.val hh]=some (.exc ⟨"NoTour", []⟩,[.val hh]))(th:D):jf [.val hh,.val th]=some (.ok (.v (.tup [.str "tour", .non])),[.val hh,.val th]):=by
 have e1:su [.val hh,.val th]=some (.exc ⟨"NoTour", []⟩,[.val hh,.val th]):=by simp[su,agc,e]
 refine amh ?_;simp[mq,aca,e1]
end
theorem aur{d:D}(hd:okD 30 d=true)(neg:Bool):gEq neg d d=some (.v (.bl (!neg))):=by
 have e:eqD d d=true:=PySem.SeqAt.eqv_refl _ (aba _ _ hd).1;unfold gEq;rw[hd,e];cases neg <;> rfl
theorem ayv(qv rows:LL9)(n:Nat):okD 30 (.tup (dueD qv rows n))=true:=by
 show(dueD qv rows n).all (okD 29)=true;rw[bA];intro d hd;obtain⟨i,_,rfl⟩:=bI.mp hd;exact af2 28 _
theorem ao8(ns:List Int):compD (bj 0) (ret true) aay (ns.map D.int) [] [.emp]=some (.ok ((ns.map fun _=>true).map D.bl),[ack .emp (ns.map D.int)]):=by
 rw[ou (f:=fun _=>.bl true)]
 ·rw[cD,cA,cA];rfl
 ·intro d hd;obtain⟨n,_,rfl⟩:=bI.mp hd;simp[aay,aa5]
theorem apx{ns:List Int}(h:ns.length<=100):wu [.val (.tup (ns.map D.int))]=some (.ok (.bl true),[.val (.tup (ns.map D.int))]):=by
 have e:=ao8 ns;have hc:((ns.map fun _=>true).map D.bl).length<=capS:=by rw[aD,aD];exact di (by omega)
 have ea:gAll (.lst ((ns.map fun _=>true).map D.bl))=some (.v (.bl true)):=by
  rw[aav,uq];show some (Rv.v (D.bl ((ns.map fun _=>true).all id)))=_
  have:(ns.map fun _=>true).all id=true:=by
   rw[qD,bA];exact fun _ _=>rfl
  rw[this]
 generalize (ns.map fun _=>true).map D.bl=BB at *
 generalize ns.map D.int=NN at *;simp[wu,isTy,e,hc,ea]
section
variable{qv:LL9}(t:Tr qv)
include t
theorem apw{rows:LL9}(hz:rows.length<=60):∃o,compD (bj 0) (ret true) wu (dueD qv rows qv.length) [] [.emp]=some (.ok (((dueD qv rows qv.length).map fun _=>true).map D.bl),[o]):=by
 refine⟨ack .emp (dueD qv rows qv.length),?_⟩;rw[ou (f:=fun _=>.bl true)]
 ·rw[cD,cA];rfl
 ·intro d hd;obtain⟨i,_,rfl⟩:=bI.mp hd;refine apx ?_;unfold dueR;rw[aD];exact cM (iD ..) (by omega)
theorem atd{th:D}(hf:Fair th)(h:zr qv th=false):jk [.val (hD qv),.val th]=some (.ok (.v (.bl true)),[.val (hD qv),.val th]):=by
 have e1:=acn t hf;have e2:=awl t hf h;rw[h] at e1;have e3:gEq false (.tup [.str "tour", .non]) (.tup [.str "tour", .non])=some (.v (.bl true)):=by kernel_rfl
 have k2:(2:Nat)<=capS:=by decide
 generalize hD qv=hh at *;simp[jk,g__law_right,e1,e2,e3,k2]
theorem ap0{rows:LL9}(hv:∀r∈rows,Lv qv r)(hz:rows.length<=60)(h:zr qv (wD rows)=true):jk [.val (hD qv),.val (wD rows)]=some (.ok (.v (.bl true)),[.val (hD qv),.val (wD rows)]):=by
 have e1:=acn t (th:=wD rows) (wk (by rw[aD];exact hz))
 rw[h] at e1;obtain⟨o,e2⟩:=au1 t hv hz (.own none (rows.map rowT));have e3:=as4 t hv hz h;have e4:gEq true (.str "told") (.str "told")=some (.v (.bl false)):=by kernel_rfl
 have e5:=aur (ayv qv rows qv.length) true;have e6:=aq9 true rows rows;rw[decide_eq_true rfl] at e6;obtain⟨o7,e7⟩:=apw t hz;have hm:=t.hs.most;have hc:(((dueD qv rows qv.length).map fun _=>true).map D.bl).length<=capS:=by rw[aD,aD,al3];exact di (by omega)
 have e8:gAll (.lst (((dueD qv rows qv.length).map fun _=>true).map D.bl))=some (.v (.bl true)):=by
  rw[aav,uq];show some (Rv.v (D.bl (((dueD qv rows qv.length).map fun _=>true).all id)))=_
  have:((dueD qv rows qv.length).map fun _=>true).all id=true:=by
   rw[qD,bA];exact fun _ _=>rfl
  rw[this]
 have hn:qv.length < 4611686018427387904:=by omega
 have hl:=ac3 qv;have hc0:(0:Nat)<=capS:=cI _;unfold wD at *;simp only[hD] at *;generalize ((dueD qv rows qv.length).map fun _=>true).map D.bl=BB at *
 generalize dueD qv rows qv.length=DD at *;generalize rows.map rowT=WW at *;generalize hDs qv=hh at *;generalize qv.length=nn at *;have eg:∃ρ,g__law_right [.val (.tup hh),.val (.lst WW),.emp,.emp,.emp,.emp,.emp]=some (.ret (.v (.bl true)),.val (.tup hh)::.val (.lst WW)::ρ):=by
  unfold g__law_right;refine⟨[.val (.lst WW),.own none DD,o,.val (.str "told"),.val (.tup DD)],?_⟩;refine(seq2 (ρ':=[.val (.tup hh),.val (.lst WW),.emp,.emp,.emp,.emp,.emp]) (by simp[e1])).trans ?_
  refine(seq2 (ρ':=[.val (.tup hh),.val (.lst WW),.own none WW,.emp,.emp,.emp,.emp]) (by simp)).trans ?_
  refine(seq2 (ρ':=[.val (.tup hh),.val (.lst WW),.own none WW,.own none [],.emp,.emp,.emp]) (by simp[hc0])).trans ?_
  refine(seq2 (ρ':=[.val (.tup hh),.val (.lst WW),.own none WW,.own none DD,o,.emp,.emp]) (by simp[hl,hn,e2])).trans ?_
  refine(seq2 (ρ':=[.val (.tup hh),.val (.lst WW),.val (.lst WW),.own none DD,o,.val (.str "told"),.val (.tup DD)]) (by simp[e3])).trans ?_
  refine(seq2 (ρ':=[.val (.tup hh),.val (.lst WW),.val (.lst WW),.own none DD,o,.val (.str "told"),.val (.tup DD)]) (by simp[e4,e5,e6,isTy])).trans ?_
  simp[e7,hc,e8]
 obtain⟨ρ,eg⟩:=eg;unfold jk;rw[anf];rw[show([.val (.tup hh),.val (.lst WW)]++aF (7 - 2) Sl.emp:Ro)=[.val (.tup hh),.val (.lst WW),.emp,.emp,.emp,.emp,.emp] from rfl]
 rw[eg];rfl
theorem amq{th:D}(hf:Fair th):jk [.val (hD qv),.val th]=some (.ok (.v (.bl true)),[.val (hD qv),.val th]):=by
 cases h:zr qv th with
 | false=>exact atd t hf h
 | true =>
  cases th with
  | lst l =>
   have hb:l.all (nj qv)=true:=by
    have h:(decide (l.length=qv.flatten.length)&&l.all (nj qv)&&decide (ae8 l).Nodup&&ab5 qv (ae8 l))=true:=h;rw[aV,aV,aV] at h;exact h.1.1.2
   obtain⟨rows,rfl,hr⟩:=ady hb;have hz:=hf.1 _ rfl;rw[aD] at hz;exact ap0 t hr hz h
  | _=>cases h
end
section
variable{qv:LL9}(t:Tr qv)
include t
theorem aqu(a0 a1 a2 a3 a5 a6:Sl):∀(l:List D) (q:Sl),(∀d∈l,Fair d)->∃q',forD (bj 7) aj2 l [a0,a1,a2,a3,.val (hD qv),a5,a6,q]=some (.nx,[a0,a1,a2,a3,.val (hD qv),a5,a6,q'])
 | [],q,_=>⟨q,rfl⟩
 | d::l,q,hd=>by
  have e1:=amq t (hd d (aN ..));obtain⟨q',e⟩:=aqu a0 a1 a2 a3 a5 a6 l (.val d) fun x hx=>hd x (aK _ hx)
  refine⟨q',?_⟩;generalize hD qv=hh at *;have es:aj2 [a0,a1,a2,a3,.val hh,a5,a6,.val d]=some (.nx,[a0,a1,a2,a3,.val hh,a5,a6,.val d]):=by simp[aj2,e1]
  rw[jt];simp only[uw,fH,fG];rw[es];exact e
end
def thr6(T:List D)(r:Int)(od:D):List D:=[.lst T,.lst (cutD T (some r) none++cutD T none (some r)),.lst (cutD T none (some r)++cutD T (some (r+1)) none),.tup T,.lst T.reverse,od]
theorem a1u{S hh R1 od:D}{n r a b:Int}{v1 a3 a4 a5 a6 a7 q':Sl}{T DD:List D}{P0 P1 P2 P3 P4 P5:Int×Int}(e0:f__law_pen [.val (.int n)]=some (.ok (.fr (pen P0)),[.val (.int n)]))
  (e1:f__law_rounds [.own (some 0) (pen P0),.val (.int 5),.val (.int 2)]=some (.ok (.v hh),[.own (some 0) (pen P1),.val (.int 5),.val (.int 2)]))
  (e3:um [.own (some 0) (pen P1),.val hh]=some (.ok (.v (.lst T)),[.own (some 0) (pen P2),.val hh]))
  (e4:f__law_draw [.own (some 0) (pen P2),.val (.int (T.length:Int))]=some (.ok (.v (.int r)),[.own (some 0) (pen P3),.val (.int (T.length:Int))]))
  (e6:f__law_odd [.own (some 0) (pen P3)]=some (.ok (.v od),[.own (some 0) (pen P4)]))
  (e5:nu [.val hh]=some (.ok (.fr DD),[.val hh])) (x1:atI T r=some (.tup [.int a,.int b]))
  (hc:(cutD T (some r) none).length+(cutD T none (some r)).length<=capS) (hc2:(cutD T none (some r)).length+(cutD T (some (r+1)) none).length<=capS) (hc3:(cutD T none (some r)).length+1<=capS) (hc4:(cutD T none (some r)).length+1+(cutD T (some (r+1)) none).length<=capS)
  (e8:forD (bj 7) aj2 (thr6 T r od++[.lst DD,.lst (cutD T none (some r)++.tup [.int a,.bl true]::cutD T (some (r+1)) none)]) [.val S,.val (.lst T),.val (.int n),.own none (pen P4),.val hh,.val (.int r),.own none (thr6 T r od),a7]=some (.nx,[.val S,.val (.lst T),.val (.int n),.own none (pen P4),.val hh,.val (.int r),.own none (thr6 T r od),q']))
  (e9:f__law_no_house [.own (some 0) (pen P4)]=some (.ok (.v R1),[.own (some 0) (pen P5)])) (e10:jf [.val R1,.val (.lst T)]=some (.ok (.v (.tup [.str "tour", .non])),[.val R1,.val (.lst T)])) :
  l3_law [.val S,v1,.val (.int n),a3,a4,a5,a6,a7]=some (.nx,[.val S,.val (.lst T),.val (.int n),.own none (pen P5),.val hh,.val (.int r),.own none (thr6 T r od),q']):=by
 have k1:(1:Nat)<=capS:=by decide
 have k2:(2:Nat)<=capS:=by decide
 have k6:(6:Nat)<=capS:=by decide
 have k8:(8:Nat)<=capS:=by decide
 have i0:atI [D.int a,.int b] 0=some (.int a):=rfl;have eq:gEq true (.tup [.str "tour", .non]) (.tup [.str "tour", .non])=some (.v (.bl false)):=by kernel_rfl
 unfold l3_law;refine(seq2 (ρ':=[.val S,v1,.val (.int n),.own none (pen P0),a4,a5,a6,a7]) (by simp[e0])).trans ?_
 refine(seq2 (ρ':=[.val S,v1,.val (.int n),.own none (pen P1),.val hh,a5,a6,a7]) (by simp[e1])).trans ?_
 refine(seq2 (ρ':=[.val S,.val (.lst T),.val (.int n),.own none (pen P2),.val hh,a5,a6,a7]) (by simp[e3])).trans ?_
 refine(seq2 (ρ':=[.val S,.val (.lst T),.val (.int n),.own none (pen P3),.val hh,.val (.int r),a6,a7]) (by simp[e4])).trans ?_
 refine(seq2 (ρ':=[.val S,.val (.lst T),.val (.int n),.own none (pen P4),.val hh,.val (.int r),.own none (thr6 T r od),a7]) (by simp[e6,hc,hc2,k6,thr6])).trans ?_
 have h6:(thr6 T r od).length=6:=rfl;refine(seq2 (ρ':=[.val S,.val (.lst T),.val (.int n),.own none (pen P4),.val hh,.val (.int r),.own none (thr6 T r od),q']) ?_).trans ?_
 ·generalize thr6 T r od=TT at *;generalize hp:cutD T none (some r)=C1 at *;generalize hq:cutD T (some (r+1)) none=C2 at *;simp[e5,x1,i0,hp,hq,hc3,hc4,k1,k2,h6,k8,e8]
 ·generalize thr6 T r od=TT at *;simp[e9,e10,eq,k2]
theorem a6j(S:D)(n:Int)(v1 a3 a4 a5 a6 a7:Sl):∃b1 b3 b4 b5 b6 b7,l3_law [.val S,v1,.val (.int n),a3,a4,a5,a6,a7]=some (.nx,[.val S,b1,.val (.int n),b3,b4,b5,b6,b7]):=by
 obtain⟨P0,e0⟩:=ato n;obtain⟨qv,P1,e1,ro,n1,n6,bal,ne,jn⟩:=ak5 P0 5 2 (by decide) (by decide) (by decide) (by decide)
 have t:Tr qv:=azp ro n1 (by omega) bal ne jn
 obtain⟨X,P2,e3,xl,xv⟩:=aph t bal jn P1;have f36:=av5 t;have hone:=a2p t;unfold wD at e3;have hT:(X.map rowT).length=X.length:=aD ..
 have hat:∀k,0<=k->k < ((X.map rowT).length:Int)->∃a b,atI (X.map rowT) k=some (.tup [.int a,.int b]):=fun k k0 k1=>by
  obtain⟨d,hd,ed⟩:=avd k0 k1;obtain⟨r,hr,rfl⟩:=bI.mp hd;obtain⟨a,b,rfl,_⟩:=xv r hr;exact⟨a,b,ed⟩
 have f60:=air t.hs;have e5:=aez t.hs f60;have hD1:((jh 0 qv).map rowT).length<=60:=by rw[aD,agl];exact f60
 generalize X.map rowT=T at *;generalize (jh 0 qv).map rowT=DD at *;obtain⟨r,P3,e4,r0,r1⟩:=lw P2 (T.length:Int) (by omega) (by omega)
 obtain⟨a,b,x1⟩:=hat r r0 r1;obtain⟨od,P4,e6,fo⟩:=aty P3;have c1:=a2w T r0;have c2:=ano T r0;have c3:=ano T (a:=r+1) (by omega)
 obtain⟨R1,P5,e9,m1⟩:=aic P4;obtain⟨q',e8⟩:=aqu t (.val S) (.val (.lst T)) (.val (.int n)) (.own none (pen P4)) (.val (.int r)) (.own none (thr6 T r od)) (thr6 T r od++[.lst DD,.lst (cutD T none (some r)++.tup [.int a,.bl true]::cutD T (some (r+1)) none)]) a7 fun d hd=>by
  rcases bZ.mp hd with hd | hd
  ·simp only[thr6,aZ,dN,or_false] at hd;rcases hd with rfl | rfl | rfl | rfl | rfl | rfl
   ·exact wk (by omega)
   ·exact wk (by rw[aW];omega)
   ·exact wk (by rw[aW];omega)
   ·exact auu T
   ·exact wk (by rw[qR];omega)
   ·exact fo
  ·simp only[aZ,dN,or_false] at hd;rcases hd with rfl | rfl
   ·exact wk hD1
   ·exact wk (by rw[aW,bJ];omega)
 exact⟨_,_,_,_,_,_,a1u e0 e1 e3 e4 e6 e5 x1 (di (by omega)) (di (by omega)) (di (by omega)) (di (by omega)) e8 e9 (apj (aoj R1 m1) _)⟩
theorem a1n(S:D):∀(ns:List Int) (a1 q a3 a4 a5 a6 a7:Sl),∃ρ,forD (bj 2) l3_law (ns.map D.int) [.val S,a1,q,a3,a4,a5,a6,a7]=some (.nx,.val S::ρ)
 | [],a1,q,a3,a4,a5,a6,a7=>⟨_,rfl⟩
 | n::r,a1,q,a3,a4,a5,a6,a7=>by
  obtain⟨b1,b3,b4,b5,b6,b7,z⟩:=a6j S n a1 a3 a4 a5 a6 a7;obtain⟨ρ,z2⟩:=a1n S r b1 (.val (.int n)) b3 b4 b5 b6 b7;exact⟨ρ,by rw[bR,jt];simp[z,z2]⟩
theorem aqv(S:D)(a2 a3 a4 a5 a6 a7:Sl):∀(l:List D) (q:Sl),(∀d∈l,Fair d)->∃q',forD (bj 1) am4 l [.val S,q,a2,a3,a4,a5,a6,a7]=some (.nx,[.val S,q',a2,a3,a4,a5,a6,a7])
 | [],q,_=>⟨q,rfl⟩
 | d::l,q,hd=>by
  have r1:jk [.val (.tup [.tup [.int 0]]),.val d]=some (.ok (.v (.bl true)),[.val (.tup [.tup [.int 0]]),.val d]):=amq (as3 (.inl rfl)) (hd d (aN ..));obtain⟨q',e⟩:=aqv S a2 a3 a4 a5 a6 a7 l (.val d) fun x hx=>hd x (aK _ hx)
  have k1:(1:Nat)<=capS:=by decide
  have es:am4 [.val S,.val d,a2,a3,a4,a5,a6,a7]=some (.nx,[.val S,.val d,a2,a3,a4,a5,a6,a7]):=by simp[am4,r1,k1]
  refine⟨q',?_⟩;rw[jt];simp only[uw,fH,fG];rw[es];exact e
theorem at9:amd arh:=fun ns hn=>by
 obtain⟨n0,e0⟩:=arz ns 0 (by decide)
 obtain⟨ms,em,hm⟩:=ars ns (some 1) (some 4);have hc:1+ms.length<=capS:=di (by omega)
 obtain⟨q',e1⟩:=aqv (.kst (ns.map D.int)) .emp .emp .emp .emp .emp .emp [.lst [.tup [.int 0,.int 0]],.lst [.tup [.int 0,.bl false]],.lst [],.non,.lst [.tup [.int 0,.int 0],.tup [.int 0,.int 0]]] .emp fun d hd=>by
  simp only[aZ,dN,or_false] at hd;rcases hd with rfl | rfl | rfl | rfl | rfl <;> exact arf rfl
 have k1:(1:Nat)<=capS:=by decide
 have k2:(2:Nat)<=capS:=by decide
 have k5:(5:Nat)<=capS:=by decide
 obtain⟨ρ,q⟩:=a1n (.kst (ns.map D.int)) (n0::ms) q' .emp .emp .emp .emp .emp .emp;simp only[bR] at q;simp[arh,a2g,e1,e0,em,hc,q,k1,k2,k5]
end My
set_option maxHeartbeats 0
namespace My
open PySem L2 Mn Dn
def top(i:Nat):iY:=PySem.Challenge.pw_turnarrows_k68_houses_by_tours.main.body.getD i (.Pass ⟨0,0,0,0⟩)
abbrev aeb:iY:=top 15
theorem ak3:FnScope ["thing"] ["thing"] (ao aeb):=mkSc rfl rfl rfl rfl (by decide +kernel)
abbrev uf:iY:=top 16
theorem adi:FnScope ["thing","least","most"] ["thing","least","most"] (ao uf):=mkSc rfl rfl rfl rfl (by decide +kernel)
abbrev ug:iY:=top 17
theorem adk:FnScope ["thing","least","most"] ["thing","least","most"] (ao ug):=mkSc rfl rfl rfl rfl (by decide +kernel)
abbrev vm:iY:=top 19
theorem aea:FnScope ["house","thing"] ["house","thing"] (ao vm):=mkSc rfl rfl rfl rfl (by decide +kernel)
abbrev vh:iY:=top 20
theorem ad9:FnScope ["house","thing"] ["house","thing"] (ao vh):=mkSc rfl rfl rfl rfl (by decide +kernel)
abbrev afv:iY:=top 21
theorem xg:FnScope ["house","room","met","looked_at","doors","door"] ["house","room"] (ao afv):=mkSc rfl rfl rfl rfl (by decide +kernel)
abbrev afu:iY:=top 22
theorem aoa:FnScope ["house"] ["house"] (ao afu):=mkSc rfl rfl rfl rfl (by decide +kernel)
abbrev acs:iY:=top 23
theorem ajf:FnScope ["house"] ["house"] (ao acs):=mkSc rfl rfl rfl rfl (by decide +kernel)
abbrev aec:iY:=top 24
theorem ak4:FnScope ["house","room"] ["house","room"] (ao aec):=mkSc rfl rfl rfl rfl (by decide +kernel)
abbrev aaj:iY:=top 25
theorem agw:FnScope ["house"] ["house"] (ao aaj):=mkSc rfl rfl rfl rfl (by decide +kernel)
abbrev abk:iY:=top 26
theorem ahv:FnScope ["house"] ["house"] (ao abk):=mkSc rfl rfl rfl rfl (by decide +kernel)
abbrev kh:iY:=top 28
theorem vy:FnScope ["house"] ["house"] (ao kh):=mkSc rfl rfl rfl rfl (by decide +kernel)
abbrev abj:iY:=top 29
theorem ahu:FnScope ["house","thing"] ["house","thing"] (ao abj):=mkSc rfl rfl rfl rfl (by decide +kernel)
abbrev xr:iY:=top 30
theorem aa7:FnScope ["house","thing","ahead"] ["house","thing"] (ao xr):=mkSc rfl rfl rfl rfl (by decide +kernel)
abbrev adl:iY:=top 31
theorem ag5:FnScope ["house","thing"] ["house","thing"] (ao adl):=mkSc rfl rfl rfl rfl (by decide +kernel)
abbrev ab8:iY:=top 32
theorem ue:FnScope ["house","tour","told","room"] ["house","tour"] (ao ab8):=mkSc rfl rfl rfl rfl (by decide +kernel)
abbrev acz:iY:=top 34
theorem ajg:FnScope ["script","k"] ["script","k"] (ao acz):=mkSc rfl rfl rfl rfl (by decide +kernel)
abbrev aed:iY:=top 35
theorem afs:FnScope ["cell","left"] ["cell"] (ao aed):=mkSc rfl rfl rfl rfl (by decide +kernel)
abbrev acy:iY:=top 36
theorem uz:FnScope ["pen","many","left","found","stir"] ["pen","many"] (ao acy):=mkSc rfl rfl rfl rfl (by decide +kernel)
abbrev abl:iY:=top 37
theorem ahw:FnScope ["thing"] ["thing"] (ao abl):=mkSc rfl rfl rfl rfl (by decide +kernel)
abbrev aee:iY:=top 38
theorem aft:FnScope ["pen","some"] ["pen"] (ao aee):=mkSc rfl rfl rfl rfl (by decide +kernel)
abbrev abn:iY:=top 39
theorem ahx:FnScope ["pen","house"] ["pen","house"] (ao abn):=mkSc rfl rfl rfl rfl (by decide +kernel)
abbrev acx:iY:=top 40
theorem uy:FnScope ["e","marks","words"] ["e"] (ao acx):=mkSc rfl rfl rfl rfl (by decide +kernel)
abbrev aal:iY:=top 41
theorem fj:FnScope ["pen","most","extra","many","here","room","house","at","turn","some","house.0","house.1","house.2","house.3","house.4","house.5"] ["pen","most","extra"] (ao aal):=mkSc rfl rfl rfl rfl (by decide +kernel)
abbrev acu:iY:=top 42
theorem qx:FnScope ["house","some","room","many","here","found","pace","door"] ["house","some","room","many"] (ao acu):=mkSc rfl rfl rfl rfl (by decide +kernel)
abbrev abo:iY:=top 43
theorem rz:FnScope ["house","found","at","room"] ["house"] (ao abo):=mkSc rfl rfl rfl rfl (by decide +kernel)
abbrev yx:iY:=top 44
theorem xq:FnScope ["house","thing","one","ends"] ["house","thing"] (ao yx):=mkSc rfl rfl rfl rfl (by decide +kernel)
abbrev xu:iY:=top 45
theorem aa8:FnScope ["pen","some"] ["pen"] (ao xu):=mkSc rfl rfl rfl rfl (by decide +kernel)
abbrev aak:iY:=top 46
theorem ig:FnScope ["house","found","turn","more","way","room","some"] ["house"] (ao aak):=mkSc rfl rfl rfl rfl (by decide +kernel)
abbrev acv:iY:=top 47
theorem qy:FnScope ["pen","house","many","some","doors","here","room"] ["pen","house"] (ao acv):=mkSc rfl rfl rfl rfl (by decide +kernel)
abbrev acw:iY:=top 48
theorem aet:FnScope ["house","tour","e"] ["house","tour"] (ao acw):=mkSc rfl rfl rfl rfl (by decide +kernel)
abbrev abm:iY:=top 49
theorem ph:FnScope ["house","tour","handed","due","at","word","found"] ["house","tour"] (ao abm):=mkSc rfl rfl rfl rfl (by decide +kernel)
abbrev ahy:iY:=top 50
theorem adh:FnScope ["script","tour","cell","pen","house","at","things","thing"] ["script"] (ao ahy):=mkSc rfl rfl rfl rfl (by decide +kernel)
theorem lnS{k:Nat}{us:List aG}(h:us.length=k+1):∃a r,us=a::r/\r.length=k:=by
 cases us with
 | nil=>cases h
 | cons a r=>exact⟨a,r,rfl,Nat.succ.inj h⟩
theorem ln1{us:List aG}(h:us.length=1):∃a0,us=[a0]:=by
 obtain⟨a,r,rfl,h'⟩:=lnS h;cases List.eq_nil_of_length_eq_zero h';exact⟨a,rfl⟩
theorem ln2{us:List aG}(h:us.length=2):∃a0 a1,us=[a0,a1]:=by
 obtain⟨a,r,rfl,h'⟩:=lnS h;obtain⟨_,rfl⟩:=ln1 h';exact⟨_,_,rfl⟩
theorem ln3{us:List aG}(h:us.length=3):∃a0 a1 a2,us=[a0,a1,a2]:=by
 obtain⟨a,r,rfl,h'⟩:=lnS h;obtain⟨_,_,rfl⟩:=ln2 h';exact⟨_,_,_,rfl⟩
theorem ln4{us:List aG}(h:us.length=4):∃a0 a1 a2 a3,us=[a0,a1,a2,a3]:=by
 obtain⟨a,r,rfl,h'⟩:=lnS h;obtain⟨_,_,_,rfl⟩:=ln3 h';exact⟨_,_,_,_,rfl⟩
structure Txt (K:Fg9) (mg:Str->Option aG):Prop where
 z_ValueError:mg "ValueError" = none
 z_all:mg "all" = none
 z_bool:mg "bool" = none
 z_divmod:mg "divmod" = none
 z_enumerate:mg "enumerate" = none
 z_int:mg "int" = none
 z_isinstance:mg "isinstance" = none
 z_len:mg "len" = none
 z_list:mg "list" = none
 z_max:mg "max" = none
 z_min:mg "min" = none
 z_range:mg "range" = none
 z_set:mg "set" = none
 z_sorted:mg "sorted" = none
 z_sum:mg "sum" = none
 z_tuple:mg "tuple" = none
 z_zip:mg "zip" = none
 sub:ahq K NS=true
 cat:CatT K mg
 k_ArrowError:ClsT K mg "ArrowError"
 k_NoArrows:ClsT K mg "NoArrows"
 k_NoRoom:ClsT K mg "NoRoom"
 k_NoWalkers:ClsT K mg "NoWalkers"
 k_NotShut:ClsT K mg "NotShut"
 k_NeverBack:ClsT K mg "NeverBack"
 k_NoTour:ClsT K mg "NoTour"
 k_NoRow:ClsT K mg "NoRow"
 k_NoHouse:ClsT K mg "NoHouse"
 k_NotOpen:ClsT K mg "NotOpen"
 k_Nobody:ClsT K mg "Nobody"
 k_NoText:ClsT K mg "NoText"
 k_TooGreat:ClsT K mg "TooGreat"
 r_ArrowError:RaiT K mg "ArrowError"
 r_NoArrows:RaiT K mg "NoArrows"
 r_NoRoom:RaiT K mg "NoRoom"
 r_NoWalkers:RaiT K mg "NoWalkers"
 r_NotShut:RaiT K mg "NotShut"
 r_NeverBack:RaiT K mg "NeverBack"
 r_NoTour:RaiT K mg "NoTour"
 r_NoRow:RaiT K mg "NoRow"
structure Cz where
 P:bV
 w:dO
 K:Fg9
 mg:Str->Option aG
 base:fD
abbrev Cz.d(z:Cz)(x:Str)(ps:List Str)(k n:Nat)(F:Fd):Prop:=Dfn z.P z.w z.K z.mg z.base x ps k (spOf z.K n F)
abbrev Cz.x(z:Cz)(x:Str)(ps:List Str)(k n:Nat)(F:Fd):Prop:=DfnX z.P z.w z.K z.mg z.base x ps k (spX z.K n F)
abbrev Cz.F(z:Cz)(x:Str)(st:iY)(f:aY)(fd:fP):Prop:=Fun z.K x x st f fd
abbrev Cz.o(z:Cz)(k:Nat)(f:aY)(fd:fP)(ps:List Str)(n:Nat)(F:Fd):Prop:=FnOk z.P z.w z.K z.mg z.base CX0 k f fd ps (spOf z.K n F)
abbrev Cz.p(z:Cz)(k:Nat)(f:aY)(fd:fP)(ps:List Str)(n:Nat)(F:Fd):Prop:=FnOk z.P z.w z.K z.mg z.base (CX1 z.P z.w) k f fd ps (spX z.K n F)
abbrev Dd0(z:Cz):Prop:=z.d "is_whole" ["thing"] 1 1 aac
abbrev Dd1(z:Cz):Prop:=z.d "is_whole_within" ["thing","least","most"] 2 3 jl
abbrev Dd3(z:Cz):Prop:=z.d "is_room_number" ["house","thing"] 3 2 jw
abbrev Dd4(z:Cz):Prop:=z.d "refuse_no_room" ["house","thing"] 4 2 lu
abbrev Dd5(z:Cz):Prop:=z.d "come_to" ["house","room"] 5 2 aae
abbrev Dd6(z:Cz):Prop:=z.d "is_shut" ["house"] 1 1 abz
abbrev Dd8(z:Cz):Prop:=z.d "doors_to" ["house","room"] 1 2 aad
abbrev Dd9(z:Cz):Prop:=z.d "is_balanced" ["house"] 2 1 pq
abbrev Dd7(z:Cz):Prop:=z.d "is_joined" ["house"] 6 1 yj
abbrev Dd2(z:Cz):Prop:=z.d "is_tuple_within" ["thing","least","most"] 1 3 jm
abbrev Dd10(z:Cz):Prop:=z.d "doors_many" ["house"] 1 1 u6
abbrev Dd12(z:Cz):Prop:=z.d "is_leaving" ["house","thing"] 4 2 iu
abbrev Dd11(z:Cz):Prop:=z.d "refuse_no_touring" ["house"] 7 1 du
abbrev Dd13(z:Cz):Prop:=z.d "is_round_trip" ["house","thing"] 5 2 dh
abbrev Dx11(z:Cz):Prop:=z.x "refuse_no_touring" ["house"] 7 1 du
abbrev Dd14(z:Cz):Prop:=z.d "is_tour" ["house","thing"] 8 2 su
abbrev Dx14(z:Cz):Prop:=z.x "is_tour" ["house","thing"] 8 2 su
abbrev Dd18(z:Cz):Prop:=z.d "_law_draw" ["pen","many"] 1 2 f__law_draw
abbrev Dd19(z:Cz):Prop:=z.d "_law_whole" ["thing"] 1 1 qz
abbrev Dd25(z:Cz):Prop:=z.d "_law_doors" ["house"] 1 1 nu
abbrev Dd28(z:Cz):Prop:=z.d "_law_trails" ["house"] 1 1 sy
abbrev Dd21(z:Cz):Prop:=z.d "_law_drawn" ["pen","house"] 2 2 f__law_drawn
abbrev Dd24(z:Cz):Prop:=z.d "_law_walk" ["house","some","room","many"] 1 4 je
abbrev Dd15(z:Cz):Prop:=z.d "doors_by" ["house","tour"] 9 2 mq
abbrev Dx15(z:Cz):Prop:=z.x "doors_by" ["house","tour"] 9 2 mq
abbrev Du22(z:Cz):Prop:=DfnU z.P z.w z.K z.mg z.base "_law_kind" ["e"] 1 (spOf z.K 1 aaw)
abbrev Dd26(z:Cz):Prop:=z.d "_law_is_tour" ["house","thing"] 2 2 gj
abbrev Dd30(z:Cz):Prop:=z.d "_law_told" ["house","tour"] 10 2 jf
abbrev Dd31(z:Cz):Prop:=z.d "_law_right" ["house","tour"] 11 2 jk
abbrev Dd16(z:Cz):Prop:=z.d "_law_cell" ["script","k"] 1 2 f__law_cell
abbrev Dd17(z:Cz):Prop:=z.d "_law_pen" ["cell"] 1 1 f__law_pen
abbrev Dd23(z:Cz):Prop:=z.d "_law_rounds" ["pen","most","extra"] 2 3 f__law_rounds
abbrev Dd29(z:Cz):Prop:=z.d "_law_tour" ["pen","house"] 3 2 um
abbrev Dd20(z:Cz):Prop:=z.d "_law_odd" ["pen"] 2 1 f__law_odd
abbrev Dd27(z:Cz):Prop:=z.d "_law_no_house" ["pen"] 2 1 f__law_no_house
section
variable(z:Cz){f:aY}{fd:fP}(T:Txt z.K z.mg)
include T
theorem alc(F:z.F "is_whole" aeb f fd):z.o 1 f fd ["thing"] 1 aac :=
 jj F ak3 rfl rfl fun _ _ _ _ _ _ hr =>
  (bh (dw (EV.toR (akc (acp (t:=.int) (afy (by rfl) T.z_int asa) (by rfl) T.z_isinstance bu (fc (pv 0))) (aka (av7 (acp (t:=.bool) (afy (by rfl) T.z_bool asd) (by rfl) T.z_isinstance bu (fc (pv 0)))))))))
theorem adu(F:z.F "is_whole_within" uf f fd)(d0:Dd0 z):z.o 2 f fd ["thing","least","most"] 3 jl :=
 jj F adi rfl rfl fun _ _ _ _ _ _ hr =>
  (bh (dw (EV.toR (akc (ER.toD (ie d0 (hr.mono (by decide)) (by rfl) (eg_n (pv 0) cu))) (aka (ani aqe aqe (az (pv 1)) (az (pv 0)) (az (pv 2))))))))
theorem adv(F:z.F "is_tuple_within" ug f fd):z.o 1 f fd ["thing","least","most"] 3 jm :=
 jj F adk rfl rfl fun _ _ _ _ _ _ hr =>
  (bh (dw (EV.toR (akc (acp (t:=.tuple) (afy (by rfl) T.z_tuple lg) (by rfl) T.z_isinstance bu (fc (pv 0))) (aka (ani aqe aqe (az (pv 1)) (ER.toD (bw j7 (by rfl) T.z_len jy (ea_n (pv 0) cz))) (az (pv 2))))))))
theorem aej(F:z.F "is_room_number" vm f fd)(d1:Dd1 z):z.o 3 f fd ["house","thing"] 2 jw :=
 jj F aea rfl rfl fun _ _ _ _ _ _ hr =>
  (bh (dw (ie d1 (hr.mono (by decide)) (by rfl) (eg_v (az (pv 1)) (eg_v au (eg_v (ER.toD (f9 aeg (e2_v (ER.toD (bw j7 (by rfl) T.z_len jy (ea_n (pv 0) cz))) (EV.toB au)))) cu))))))
theorem aei(F:z.F "refuse_no_room" vh f fd)(d3:Dd3 z):z.o 4 f fd ["house","thing"] 2 lu :=
 jj F ad9 rfl rfl fun _ _ _ _ _ _ hr =>
  (bh (xn (qp (qm (ER.toD (ie d3 (hr.mono (by decide)) (by rfl) (eg_n (pv 0) (eg_v (az (pv 1)) cu)))))) (bh afd) jo))
theorem aoi(F:z.F "come_to" afv f fd)(d4:Dd4 z):z.o 5 f fd ["house","room"] 2 aae :=
 jj F xg rfl rfl fun _ _ _ _ _ _ hr =>
  (aq (vg (ie d4 (hr.mono (by decide)) (by rfl) (eg_n (pv 0) (eg_v (az (pv 1)) cu)))) (aq (gr (i:=2) xg.nd rfl (bU rfl) (jg (aj (az (pv 1)) bf))) (aq (gr (i:=3) xg.nd rfl (bU rfl) (EV.toR au)) (aq (as8 fuel cR (oh aqc (e2_n (pv 3) (EV.toB (ER.toD (bw j7 (by rfl) T.z_len jy (ea_n (pv 2) cz))))) (j5 _)) (aq (gr (i:=4) xg.nd rfl (bU rfl) (g8 (e2_n (pv 0) (EV.toB (ER.toD (g8 (e2_n (pv 2) (fc (pv 3))) (fun _ _=>by rfl))))) (fun _ _=>by rfl))) (aq (ux cR rfl (ni (az (pv 4))) (cg (i:=5) xg.nd rfl (bU rfl)) (bh (xn (EW.pt (arj (oh aqd (e2_n (pv 5) (EV.toB au)) (j5 _)) (al1 (oh (ajo hr.units) (e2_n (pv 5) (fc (pv 2))) (by with_unfolding_all rfl))))) (bh (vg (EV.toR (agh xj gK PySem.F.type_list_append xx (pv 2) (aj (az (pv 5)) bf))))) jo))) (bh (azw (i:=3) xg.nd rfl (bU rfl) au a2d))))) (bh (dw (jx ud (by rfl) T.z_tuple lg (ea_v (ER.toD (bw ahj (by rfl) T.z_sorted akp (ea_n (pv 2) cz))) cz))))))))
theorem aoh(F:z.F "is_shut" afu f fd):z.o 1 f fd ["house"] 1 abz :=
 jj F aoa rfl rfl fun _ _ _ _ _ _ hr =>
  (bh (dw (bw (ae6 rfl) (by rfl) T.z_all ae7 (ea_v (ER.toD (j4 [] ["doors"] [none] rfl (ni (az (pv 0))) (fun _ _ _=>(cg (i:=0) (show(["doors"]:List Str).Nodup by decide +kernel) rfl (bU rfl))) (fun _ _ _=>km) (fun _ _ _=>(ER.toD (agi aqd (e2_v (ER.toD (bw (ayz rfl) (by rfl) T.z_min a3b (ea_n (pv 0) cz))) (EV.toB au)) (j5 _)))))) cz))))
theorem ajq(F:z.F "is_joined" acs f fd)(d5:Dd5 z):z.o 6 f fd ["house"] 1 yj :=
 jj F ajf rfl rfl fun _ _ _ _ _ _ hr =>
  (bh (dw (bw (ae6 rfl) (by rfl) T.z_all ae7 (ea_v (ER.toD (j4 ["house"] ["room","house"] [none,some 0] rfl (lq (by rfl) T.z_range (aj (ER.toD (bw j7 (by rfl) T.z_len jy (ea_n (pv 0) cz))) bf)) (fun _ _ _=>(cg (i:=0) (show(["room","house"]:List Str).Nodup by decide +kernel) rfl (bU rfl))) (fun _ _ _=>km) (fun _ _ _=>(ER.toD (agi (aa9 hr.units) (e2_v (ER.toD (bw j7 (by rfl) T.z_len jy (ea_v (ER.toD (ie d5 (hr.mono (by decide)) (by rfl) (eg_n (pv 1) (eg_n (pv 0) cu)))) cz))) (EV.toB (ER.toD (bw j7 (by rfl) T.z_len jy (ea_n (pv 1) cz))))) (j5 _)))))) cz))))
theorem ald(F:z.F "doors_to" aec f fd):z.o 1 f fd ["house","room"] 2 aad :=
 jj F ak4 rfl rfl fun _ _ _ _ _ _ hr =>
  (bh (dw (bw (anu rfl) (by rfl) T.z_sum anw (ea_v (ER.toD (j4 ["room"] ["doors","room"] [none,some 1] rfl (ni (az (pv 0))) (fun _ _ _=>(cg (i:=0) (show(["doors","room"]:List Str).Nodup by decide +kernel) rfl (bU rfl))) (fun _ _ _=>km) (fun _ _ _=>(anh hr.units (pv 0) (aj (az (pv 1)) bf))))) cz))))
theorem agx(F:z.F "is_balanced" aaj f fd)(d6:Dd6 z)(d8:Dd8 z):z.o 2 f fd ["house"] 1 pq :=
 jj F agw rfl rfl fun _ _ _ _ _ _ hr =>
  (aq (xn (qp (qm (ER.toD (ie d6 (hr.mono (by decide)) (by rfl) (eg_v (az (pv 0)) cu))))) (bh (dw (EV.toR aax))) jo) (bh (dw (bw (ae6 rfl) (by rfl) T.z_all ae7 (ea_v (ER.toD (j4 ["house"] ["room","doors","house"] [none,none,some 0] rfl (aih (by rfl) T.z_enumerate (aj (az (pv 0)) bf)) (fun _ _ _=>(abx rfl (gq (cg (i:=0) (show(["room","doors","house"]:List Str).Nodup by decide +kernel) rfl (bU rfl)) (gq (cg (i:=1) (show(["room","doors","house"]:List Str).Nodup by decide +kernel) rfl (bU rfl)) yg)))) (fun _ _ _=>km) (fun _ _ _=>(ER.toD (agi (aa9 hr.units) (e2_v (ER.toD (ie d8 (hr.mono (by decide)) (by rfl) (eg_n (pv 2) (eg_n (pv 0) cu)))) (EV.toB (ER.toD (bw j7 (by rfl) T.z_len jy (ea_n (pv 1) cz))))) (j5 _)))))) cz)))))
theorem ah4(F:z.F "doors_many" abk f fd):z.o 1 f fd ["house"] 1 u6 :=
 jj F ahv rfl rfl fun _ _ _ _ _ _ hr =>
  (bh (dw (bw (anu rfl) (by rfl) T.z_sum anw (ea_v (ER.toD (j4 [] ["doors"] [none] rfl (ni (az (pv 0))) (fun _ _ _=>(cg (i:=0) (show(["doors"]:List Str).Nodup by decide +kernel) rfl (bU rfl))) (fun _ _ _=>km) (fun _ _ _=>(ER.toD (bw j7 (by rfl) T.z_len jy (ea_n (pv 0) cz)))))) cz))))
theorem acj(F:z.F "refuse_no_touring" kh f fd)(d9:Dd9 z)(d7:Dd7 z):z.o 7 f fd ["house"] 1 du :=
 jj F vy rfl rfl fun _ _ _ _ _ _ hr =>
  (bh (xn (ET.s (EW.pt (ag0 (qp (qm (ER.toD (ie d9 (hr.mono (by decide)) (by rfl) (eg_v (az (pv 0)) cu))))) (agg (qp (qm (ER.toD (ie d7 (hr.mono (by decide)) (by rfl) (eg_n (pv 0) cu))))))))) (bh afd) jo))
theorem abu(F:z.F "refuse_no_touring" kh f fd)(d9:Dd9 z)(d7:Dd7 z):z.p 7 f fd ["house"] 1 du :=
 fn_x F vy rfl rfl fun _ _ _ _ _ _ hr =>
  (ad6 (a4s (ET.s (EW.pt (ag0 (qp (qm (ER.toD (ie d9 (hr.mono (by decide)) (by rfl) (eg_v (az (pv 0)) cu))))) (agg (qp (qm (ER.toD (ie d7 (hr.mono (by decide)) (by rfl) (eg_n (pv 0) cu))))))))) ac1 (ad6 (ai4 rfl rfl (by rfl) T.r_NoTour)) ao5))
theorem ah3(F:z.F "is_leaving" abj f fd)(d2:Dd2 z)(d3:Dd3 z)(d1:Dd1 z):z.o 4 f fd ["house","thing"] 2 iu :=
 jj F ahu rfl rfl fun _ _ _ _ _ _ hr =>
  (aq (xn (EW.pt (ag0 (qp (qm (ER.toD (ie d2 (hr.mono (by decide)) (by rfl) (eg_n (pv 1) (eg_v au (eg_v au cu))))))) (agg (qp (qm (ER.toD (ie d3 (hr.mono (by decide)) (by rfl) (eg_n (pv 0) (eg_v (ER.toD (g8 (e2_n (pv 1) (EV.toB au)) (fun _ _=>by rfl))) cu))))))))) (bh (dw (EV.toR aax))) jo) (bh (dw (ie d1 (hr.mono (by decide)) (by rfl) (eg_v (ER.toD (g8 (e2_n (pv 1) (EV.toB au)) (fun _ _=>by rfl))) (eg_v au (eg_v (ER.toD (f9 aeg (e2_v (ER.toD (bw j7 (by rfl) T.z_len jy (ea_v (ER.toD (g8 (e2_n (pv 0) (EV.toB (ER.toD (g8 (e2_n (pv 1) (EV.toB au)) (fun _ _=>by rfl))))) (fun _ _=>by rfl))) cz))) (EV.toB au)))) cu)))))))
theorem ae9(F:z.F "is_round_trip" xr f fd)(d10:Dd10 z)(d12:Dd12 z):z.o 5 f fd ["house","thing"] 2 dh :=
 jj F aa7 rfl rfl fun _ _ _ _ _ _ hr =>
  (aq (xn (EW.pt (ag0 (qp (qm (acp (t:=.list) (afy (by rfl) T.z_list aiy) (by rfl) T.z_isinstance bu (fc (pv 1))))) (agg (oh (adt hr.units) (e2_v (ER.toD (bw j7 (by rfl) T.z_len jy (ea_n (pv 1) cz))) (EV.toB (ER.toD (ie d10 (hr.mono (by decide)) (by rfl) (eg_v (az (pv 0)) cu))))) (j5 _))))) (bh (dw (EV.toR aax))) jo) (aq (xn (qp (qm (ER.toD (bw (ae6 rfl) (by rfl) T.z_all ae7 (ea_v (ER.toD (j4 ["house"] ["leaving","house"] [none,some 0] rfl (ni (az (pv 1))) (fun _ _ _=>(cg (i:=0) (show(["leaving","house"]:List Str).Nodup by decide +kernel) rfl (bU rfl))) (fun _ _ _=>km) (fun _ _ _=>(ER.toD (ie d12 (hr.mono (by decide)) (by rfl) (eg_n (pv 1) (eg_n (pv 0) cu))))))) cz))))) (bh (dw (EV.toR aax))) jo) (aq (xn (oh (adt hr.units) (e2_v (ER.toD (aor rfl hr.units (by rfl) T.z_len jy (by rfl) T.z_set a3a (ea_n (pv 1) cz))) (EV.toB (ER.toD (bw j7 (by rfl) T.z_len jy (ea_n (pv 1) cz))))) (j5 _)) (bh (dw (EV.toR aax))) jo) (aq (gr (i:=2) aa7.nd rfl (bU rfl) (f9 ik (e2_v (ER.toD (yl (pv 1) (vp (aaf au)) yz)) (EV.toB (ER.toD (yl (pv 1) yz (vp (aaf au)))))))) (bh (dw (bw (ae6 rfl) (by rfl) T.z_all ae7 (ea_v (ER.toD (j4 ["house"] ["one","leaving","house"] [none,none,some 0] rfl (ax8 (by rfl) T.z_zip (aj (az (pv 2)) (aj (az (pv 1)) bf))) (fun _ _ _=>(abx rfl (gq (cg (i:=0) (show(["one","leaving","house"]:List Str).Nodup by decide +kernel) rfl (bU rfl)) (gq (cg (i:=1) (show(["one","leaving","house"]:List Str).Nodup by decide +kernel) rfl (bU rfl)) yg)))) (fun _ _ _=>km) (fun _ _ _=>(ER.toD (agi (aa9 hr.units) (e2_v (ER.toD (g8 (e2_v (ER.toD (g8 (e2_n (pv 2) (EV.toB (ER.toD (g8 (e2_n (pv 0) (EV.toB au)) (fun _ _=>by rfl))))) (fun _ _=>by rfl))) (EV.toB (ER.toD (g8 (e2_n (pv 0) (EV.toB au)) (fun _ _=>by rfl))))) (fun _ _=>by rfl))) (EV.toB (ER.toD (g8 (e2_n (pv 1) (EV.toB au)) (fun _ _=>by rfl))))) (j5 _)))))) cz))))))))
theorem aog(F:z.F "is_tour" adl f fd)(d11:Dd11 z)(d13:Dd13 z)(x11:Dx11 z):z.o 8 f fd ["house","thing"] 2 su :=
 jj F ag5 rfl rfl fun _ _ _ _ _ _ hr =>
  (aq (vg (ie d11 (hr.mono (by decide)) (by rfl) (eg_v (EV.s (az (pv 0))) cu))) (bh (SV.s (dw (ie d13 (hr.mono (by decide)) (by rfl) (eg_v (az (pv 0)) (eg_v (az (pv 1)) cu)))))))
theorem alb(F:z.F "is_tour" adl f fd)(d11:Dd11 z)(d13:Dd13 z)(x11:Dx11 z):z.p 8 f fd ["house","thing"] 2 su :=
 fn_x F ag5 rfl rfl fun _ _ _ _ _ _ hr =>
  (afc (vg (ie d11 (hr.mono (by decide)) (by rfl) (eg_v (EV.s (az (pv 0))) cu))) (awe (awf x11 (hr.mono (by decide)) (by rfl) (eg_v (EV.s (az (pv 0))) cu) (xa_v (js:=[]) (EV.s (az (pv 0))) (XE.no ac1) amf))) (ad6 ame))
theorem ale(F:z.F "doors_by" ab8 f fd)(d14:Dd14 z)(x14:Dx14 z):z.o 9 f fd ["house","tour"] 2 mq :=
 jj F ue rfl rfl fun _ _ _ _ _ _ hr =>
  (aq (xn (qp (qm (ER.toD (ie d14 (hr.mono (by decide)) (by rfl) (eg_v (EV.s (az (pv 0))) (eg_v (EV.s (az (pv 1))) cu)))))) (bh afd) jo) (aq (SV.s (gr (i:=2) ue.nd rfl (bU rfl) (jg bf))) (aq (SV.s (ux cR rfl (lq (by rfl) T.z_range (aj (ER.toD (bw j7 (by rfl) T.z_len jy (ea_n (pv 0) cz))) bf)) (cg (i:=3) ue.nd rfl (sX rfl)) (bh (vg (EV.toR (agh xj gK PySem.F.type_list_append xx (pv 2) (aj (ER.toD (jx ud (by rfl) T.z_tuple lg (ea_v (ER.toD (j4 ["room","house"] ["leaving","room","house"] [none,some 3,some 0] rfl (ni (az (pv 1))) (fun _ _ _=>(cg (i:=0) (show(["leaving","room","house"]:List Str).Nodup by decide +kernel) rfl (bU rfl))) (fun _ _ _=>(agk (oh (aa9 hr.units) (e2_v (ER.toD (g8 (e2_n (pv 0) (EV.toB au)) (fun _ _=>by rfl))) (fc (pv 1))) (j5 _)))) (fun _ _ _=>(ER.toD (g8 (e2_v (ER.toD (g8 (e2_n (pv 2) (fc (pv 1))) (fun _ _=>by rfl))) (EV.toB (ER.toD (g8 (e2_n (pv 0) (EV.toB au)) (fun _ _=>by rfl))))) (fun _ _=>by rfl)))))) cz))) bf))))))) (bh (SV.s (dw (jx ud (by rfl) T.z_tuple lg (ea_n (pv 2) cz))))))))
theorem ajp(F:z.F "doors_by" ab8 f fd)(d14:Dd14 z)(x14:Dx14 z):z.p 9 f fd ["house","tour"] 2 mq :=
 fn_x F ue rfl rfl fun _ _ _ _ _ _ hr =>
  (afc (xn (qp (qm (ER.toD (ie d14 (hr.mono (by decide)) (by rfl) (eg_v (EV.s (az (pv 0))) (eg_v (EV.s (az (pv 1))) cu)))))) (bh afd) jo) (azk (qp (qm (ER.toD (ie d14 (hr.mono (by decide)) (by rfl) (eg_v (EV.s (az (pv 0))) (eg_v (EV.s (az (pv 1))) cu)))))) (azi (azh (XE.d (awf x14 (hr.mono (by decide)) (by rfl) (eg_v (EV.s (az (pv 0))) (eg_v (EV.s (az (pv 1))) cu)) (xa_v (js:=[]) (EV.s (az (pv 0))) (XE.no ac1) (xa_v (js:=[]) (EV.s (az (pv 1))) (XE.no ac1) amf)))))) (ad6 (ai4 rfl rfl (by rfl) T.r_NoTour)) ao5) (afc (SV.s (gr (i:=2) ue.nd rfl (bU rfl) (jg bf))) ame (afc (SV.s (ux cR rfl (lq (by rfl) T.z_range (aj (ER.toD (bw j7 (by rfl) T.z_len jy (ea_n (pv 0) cz))) bf)) (cg (i:=3) ue.nd rfl (sX rfl)) (bh (vg (EV.toR (agh xj gK PySem.F.type_list_append xx (pv 2) (aj (ER.toD (jx ud (by rfl) T.z_tuple lg (ea_v (ER.toD (j4 ["room","house"] ["leaving","room","house"] [none,some 3,some 0] rfl (ni (az (pv 1))) (fun _ _ _=>(cg (i:=0) (show(["leaving","room","house"]:List Str).Nodup by decide +kernel) rfl (bU rfl))) (fun _ _ _=>(agk (oh (aa9 hr.units) (e2_v (ER.toD (g8 (e2_n (pv 0) (EV.toB au)) (fun _ _=>by rfl))) (fc (pv 1))) (j5 _)))) (fun _ _ _=>(ER.toD (g8 (e2_v (ER.toD (g8 (e2_n (pv 2) (fc (pv 1))) (fun _ _=>by rfl))) (EV.toB (ER.toD (g8 (e2_n (pv 0) (EV.toB au)) (fun _ _=>by rfl))))) (fun _ _=>by rfl)))))) cz))) bf))))))) ame (ad6 ame))))
theorem ajv(F:z.F "_law_cell" acz f fd):z.o 1 f fd ["script","k"] 2 f__law_cell :=
 jj F ajg rfl rfl fun _ _ _ _ _ _ hr =>
  (aq (xn (oh aqc (e2_n (pv 1) (EV.toB (ER.toD (bw j7 (by rfl) T.z_len jy (ea_n (pv 0) cz))))) (j5 _)) (bh (dw (g8 (e2_n (pv 0) (fc (pv 1))) (fun _ _=>by rfl)))) jo) (bh (dw (EV.toR au))))
theorem alf(F:z.F "_law_pen" aed f fd):z.o 1 f fd ["cell"] 1 f__law_pen :=
 jj F afs rfl rfl fun _ _ _ _ _ _ hr =>
  (aq (gr (i:=1) afs.nd rfl (bU rfl) (bw (a2x rfl) (by rfl) T.z_max a3c (ea_n (pv 0) (ea_v (ER.toD (f9 aeg (e2_v au (fc (pv 0))))) cz)))) (bh (dw (jg (aj (az (pv 1)) (aj (ER.toD (jx a2y (by rfl) T.z_int asa (ea_v (ER.toD (agi aqd (e2_n (pv 1) (EV.toB (ER.toD (f9 aqb (e2_v au (EV.toB au)))))) (j5 _))) cz))) bf))))))
theorem aju(F:z.F "_law_draw" acy f fd):z.o 1 f fd ["pen","many"] 2 f__law_draw :=
 jj F uz rfl rfl fun _ _ _ _ _ _ hr =>
  (aq (xn (oh (aa9 hr.units) (e2_v (ER.toD (g8 (e2_n (pv 0) (EV.toB au)) (fun _ _=>by rfl))) (EV.toB au)) (j5 _)) (aq (apn (ER.toD (bw ar4 (by rfl) T.z_divmod asb (ea_v (ER.toD (g8 (e2_n (pv 0) (EV.toB au)) (fun _ _=>by rfl))) (ea_n (pv 1) cz)))) (abx rfl (gq (cg (i:=2) uz.nd rfl (bU rfl)) (gq (cg (i:=3) uz.nd rfl (bU rfl)) yg)))) (aq (apl (az (pv 2)) (pv 0) au) (bh (dw (arl (pv 3)))))) jo) (aq (gr (i:=4) uz.nd rfl (bU rfl) (f9 aeh (e2_v (ER.toD (f9 af0 (e2_v (ER.toD (f9 ik (e2_v (ER.toD (f9 aeh (e2_v (ER.toD (g8 (e2_n (pv 0) (EV.toB au)) (fun _ _=>by rfl))) (EV.toB au)))) (EV.toB au)))) (EV.toB au)))) (EV.toB au)))) (aq (gr (i:=4) uz.nd rfl (bU rfl) (f9 aeh (e2_v (ER.toD (f9 ik (e2_v (ER.toD (f9 af0 (e2_n (pv 4) (fc (pv 4))))) (EV.toB au)))) (EV.toB au)))) (aq (apl (ER.toD (f9 aeh (e2_v (ER.toD (f9 ik (e2_v (ER.toD (f9 af0 (e2_n (pv 4) (EV.toB au)))) (EV.toB au)))) (EV.toB au)))) (pv 0) au) (bh (dw (f9 aeh (e2_v (ER.toD (f9 axp (e2_v (ER.toD (g8 (e2_n (pv 0) (EV.toB au)) (fun _ _=>by rfl))) (EV.toB au)))) (fc (pv 1))))))))))
theorem ah5(F:z.F "_law_whole" abl f fd):z.o 1 f fd ["thing"] 1 qz :=
 jj F ahw rfl rfl fun _ _ _ _ _ _ hr =>
  (bh (dw (EV.toR (akc (acp (t:=.int) (afy (by rfl) T.z_int asa) (by rfl) T.z_isinstance bu (fc (pv 0))) (aka (av7 (acp (t:=.bool) (afy (by rfl) T.z_bool asd) (by rfl) T.z_isinstance bu (fc (pv 0)))))))))
theorem alg(F:z.F "_law_odd" aee f fd)(d18:Dd18 z):z.o 2 f fd ["pen"] 1 f__law_odd :=
 jj F aft rfl rfl fun _ _ _ _ _ _ hr =>
  (aq (gr (i:=1) aft.nd rfl (bU rfl) (jg (aj akb (aj aax (aj aax (aj (aaf au) (aj ql (aj ql (aj (gf bf) (aj (ER.toD (jg bf)) (aj (gf (aj au bf)) (aj (ER.toD (jg (aj au bf))) (aj auz (aj (gf (aj au (aj au bf))) (aj (ER.toD (f9 aqb (e2_v au (EV.toB au)))) (aj (gf (aj (gf (aj au bf)) bf)) (aj ql bf))))))))))))))))) (bh (dw (g8 (e2_v (ER.toD (f9 ik (e2_n (pv 1) (EV.toB (ER.toD (jg (aj (gf (aj (gf (aj (aaf au) bf)) (aj (gf (aj au (aj au bf))) bf))) bf))))))) (EV.toB (ER.toD (ie d18 (hr.mono (by decide)) (by rfl) (eg_n (pv 0) (eg_v au cu)))))) (fun _ _=>by rfl)))))
theorem ah7(F:z.F "_law_drawn" abn f fd)(d18:Dd18 z):z.o 2 f fd ["pen","house"] 2 f__law_drawn :=
 jj F ahx rfl rfl fun _ _ _ _ _ _ hr =>
  (bh (dw (jx ud (by rfl) T.z_tuple lg (ea_v (ER.toD (j4 ["pen"] ["room","pen"] [none,some 0] rfl (ni (az (pv 1))) (fun _ _ _=>(cg (i:=0) (show(["room","pen"]:List Str).Nodup by decide +kernel) rfl (bU rfl))) (fun _ _ _=>km) (fun _ _ _=>(ER.toD (ie d18 (hr.mono (by decide)) (by rfl) (eg_n (pv 1) (eg_v (ER.toD (bw j7 (by rfl) T.z_len jy (ea_n (pv 0) cz))) cu))))))) cz))))
theorem ah2(F:z.F "_law_kind" acx f fd):FnOkU z.P z.w z.K z.mg z.base 1 f fd ["e"] (spOf z.K 1 aaw) :=
 aym F uy rfl rfl fun _ _ _ _ _ hr =>
  (aq (gr (i:=1) uy.nd rfl (bU rfl) (jg (aj (vo T.sub (by decide +kernel) (by rfl) T.k_NoArrows (by rfl) T.z_isinstance bu (fc (pv 0))) (aj (vo T.sub (by decide +kernel) (by rfl) T.k_NoRoom (by rfl) T.z_isinstance bu (fc (pv 0))) (aj (vo T.sub (by decide +kernel) (by rfl) T.k_NoWalkers (by rfl) T.z_isinstance bu (fc (pv 0))) (aj (vo T.sub (by decide +kernel) (by rfl) T.k_NotShut (by rfl) T.z_isinstance bu (fc (pv 0))) bf)))))) (aq (gr (i:=1) uy.nd rfl (bU rfl) (f9 ik (e2_n (pv 1) (EV.toB (ER.toD (jg (aj (vo T.sub (by decide +kernel) (by rfl) T.k_NeverBack (by rfl) T.z_isinstance bu (fc (pv 0))) (aj (vo T.sub (by decide +kernel) (by rfl) T.k_NoTour (by rfl) T.z_isinstance bu (fc (pv 0))) (aj (vo T.sub (by decide +kernel) (by rfl) T.k_NoRow (by rfl) T.z_isinstance bu (fc (pv 0))) (aj (vo T.sub (by decide +kernel) (by rfl) T.k_NoHouse (by rfl) T.z_isinstance bu (fc (pv 0))) bf)))))))))) (aq (gr (i:=1) uy.nd rfl (bU rfl) (f9 ik (e2_n (pv 1) (EV.toB (ER.toD (jg (aj (vo T.sub (by decide +kernel) (by rfl) T.k_NotOpen (by rfl) T.z_isinstance bu (fc (pv 0))) (aj (vo T.sub (by decide +kernel) (by rfl) T.k_Nobody (by rfl) T.z_isinstance bu (fc (pv 0))) (aj (vo T.sub (by decide +kernel) (by rfl) T.k_NoText (by rfl) T.z_isinstance bu (fc (pv 0))) (aj (vo T.sub (by decide +kernel) (by rfl) T.k_TooGreat (by rfl) T.z_isinstance bu (fc (pv 0))) bf)))))))))) (aq (xn (EW.pt (ag0 (qp (qm (ayr T.sub (by rfl) T.z_ValueError aiz (by rfl) T.z_isinstance bu (fc (pv 0))))) (agg (oh (adt hr.units) (e2_v (anh hr.units (pv 1) (aj aax bf)) (EV.toB au)) (j5 _))))) (bh (dw (EV.toR ql))) jo) (aq (gr (i:=2) uy.nd rfl (bU rfl) (jg (aj ql (aj ql (aj ql (aj ql (aj ql (aj ql (aj ql (aj ql (aj ql (aj ql bf)))))))))))) (bh (dw (g8 (e2_v (ER.toD (f9 ik (e2_n (pv 2) (EV.toB (ER.toD (jg (aj ql (aj ql bf)))))))) (EV.toB (ayq uJ PySem.F.type_list_index (at3 hr.units) (pv 1) (aj aax bf)))) (fun _ _=>by rfl)))))))))
theorem agz(F:z.F "_law_rounds" aal f fd)(d18:Dd18 z):z.o 2 f fd ["pen","most","extra"] 3 f__law_rounds :=
 jj F fj rfl rfl fun _ _ _ _ _ _ hr =>
  (aq (gr (i:=3) fj.nd rfl (bU rfl) (f9 ik (e2_v au (EV.toB (ER.toD (ie d18 (hr.mono (by decide)) (by rfl) (eg_n (pv 0) (eg_n (pv 1) cu)))))))) (aq (gr (i:=4) fj.nd rfl (bU rfl) (jg bf)) (aq (ux cR rfl (lq (by rfl) T.z_range (aj (az (pv 3)) bf)) (cg (i:=5) fj.nd rfl (bU rfl)) (bh (vg (EV.toR (agh aek nZ nY af3 (pv 4) (aj (ER.toD (ie d18 (hr.mono (by decide)) (by rfl) (eg_n (pv 0) (eg_v (ER.toD (f9 ik (e2_n (pv 5) (EV.toB au)))) cu)))) (aj (az (pv 5)) bf))))))) (awq (i:=6) (gs:=[10,11,12,13,14,15]) (os:=[6,10,11,12,13,14,15]) [] ["room"] [none] fj.nd rfl (bU rfl) rfl (lq (by rfl) T.z_range (aj (az (pv 3)) bf)) (fun _ _ _=>(cg (i:=0) (show(["room"]:List Str).Nodup by decide +kernel) rfl (bU rfl))) (fun _ _ _=>(jg bf)) (aq (ux cR rfl (aih (by rfl) T.z_enumerate (aj (az (pv 4)) bf)) (abx rfl (gq (cg (i:=7) fj.nd rfl (bU rfl)) (gq (cg (i:=5) fj.nd rfl (bU rfl)) yg))) (bh (vg (EV.toR (ark xj gK PySem.F.type_list_append xx (amr (base:=10) (pv 6) (az (pv 5)) (fun _ _=>by rfl)) (aj (ER.toD (g8 (e2_n (pv 4) (EV.toB (ER.toD (f9 aeg (e2_n (pv 7) (EV.toB au)))))) (fun _ _=>by rfl))) bf)))))) (aq (ux cR rfl (lq (by rfl) T.z_range (aj (ER.toD (ie d18 (hr.mono (by decide)) (by rfl) (eg_n (pv 0) (eg_v (ER.toD (f9 ik (e2_n (pv 2) (EV.toB au)))) cu)))) bf)) (cg (i:=8) fj.nd rfl (bU rfl)) (aq (gr (i:=9) fj.nd rfl (bU rfl) (jg bf)) (aq (ux cR rfl (lq (by rfl) T.z_range (aj (az (pv 3)) bf)) (cg (i:=5) fj.nd rfl (bU rfl)) (bh (xn (EW.pt (arj (oh aqc (e2_v (ER.toD (bw j7 (by rfl) T.z_len jy (av8 (a2s (amr (base:=10) (pv 6) (az (pv 5)) (fun _ _=>by rfl)))))) (EV.toB au)) (j5 _)) (al1 (oh (aa9 hr.units) (e2_v (ER.toD (ie d18 (hr.mono (by decide)) (by rfl) (eg_n (pv 0) (eg_v au cu)))) (EV.toB au)) (j5 _))))) (bh (vg (EV.toR (agh aek nZ nY af3 (pv 9) (aj (ER.toD (ie d18 (hr.mono (by decide)) (by rfl) (eg_n (pv 0) (eg_v (ER.toD (f9 ik (e2_v (ER.toD (bw j7 (by rfl) T.z_len jy (ea_n (pv 9) cz))) (EV.toB au)))) cu)))) (aj (az (pv 5)) bf)))))) jo))) (bh (ux cR rfl (aih (by rfl) T.z_enumerate (aj (az (pv 9)) bf)) (abx rfl (gq (cg (i:=7) fj.nd rfl (bU rfl)) (gq (cg (i:=5) fj.nd rfl (bU rfl)) yg))) (bh (vg (EV.toR (ark aek nZ nY af3 (amr (base:=10) (pv 6) (az (pv 5)) (fun _ _=>by rfl)) (aj (ER.toD (ie d18 (hr.mono (by decide)) (by rfl) (eg_n (pv 0) (eg_v (ER.toD (f9 ik (e2_v (ER.toD (bw j7 (by rfl) T.z_len jy (av8 (a2s (amr (base:=10) (pv 6) (az (pv 5)) (fun _ _=>by rfl)))))) (EV.toB au)))) cu)))) (aj (ER.toD (g8 (e2_n (pv 9) (EV.toB (ER.toD (f9 aeg (e2_n (pv 7) (EV.toB au)))))) (fun _ _=>by rfl))) bf))))))))))) (awr (i:=6) (base:=10) (bh (dw (jx ud (by rfl) T.z_tuple lg (ea_v (ER.toD (j4 [] ["room"] [none] rfl (ni (az (pv 6))) (fun _ _ _=>(cg (i:=0) (show(["room"]:List Str).Nodup by decide +kernel) rfl (bU rfl))) (fun _ _ _=>km) (fun _ _ _=>(ER.toD (jx ud (by rfl) T.z_tuple lg (ea_n (pv 0) cz)))))) cz))))))) (a6s (by rfl))))))
theorem ajr(F:z.F "_law_walk" acu f fd):z.o 1 f fd ["house","some","room","many"] 4 je :=
 jj F qx rfl rfl fun _ _ _ _ _ _ hr =>
  (aq (gr (i:=4) qx.nd rfl (bU rfl) (jx ar3 (by rfl) T.z_list aiy (ea_n (pv 1) cz))) (aq (gr (i:=5) qx.nd rfl (bU rfl) (jg bf)) (aq (ux cR rfl (lq (by rfl) T.z_range (aj (az (pv 3)) bf)) (cg (i:=6) qx.nd rfl (bU rfl)) (aq (vg (EV.toR (agh xj gK PySem.F.type_list_append xx (pv 5) (aj (gf (aj (az (pv 2)) (aj (ER.toD (g8 (e2_n (pv 4) (fc (pv 2))) (fun _ _=>by rfl))) bf))) bf)))) (aq (gr (i:=7) qx.nd rfl (bU rfl) (g8 (e2_v (ER.toD (g8 (e2_n (pv 0) (fc (pv 2))) (fun _ _=>by rfl))) (EV.toB (ER.toD (g8 (e2_n (pv 4) (fc (pv 2))) (fun _ _=>by rfl))))) (fun _ _=>by rfl))) (aq (apl (ER.toD (f9 aeh (e2_v (ER.toD (f9 ik (e2_v (ER.toD (g8 (e2_n (pv 4) (fc (pv 2))) (fun _ _=>by rfl))) (EV.toB au)))) (EV.toB (ER.toD (bw j7 (by rfl) T.z_len jy (ea_v (ER.toD (g8 (e2_n (pv 0) (fc (pv 2))) (fun _ _=>by rfl))) cz))))))) (pv 4) (az (pv 2))) (bh (gr (i:=2) qx.nd rfl (bU rfl) (EV.toR (az (pv 7))))))))) (bh (dw (EV.toR (gf (aj (az (pv 5)) (aj (ER.toD (jx ud (by rfl) T.z_tuple lg (ea_n (pv 4) cz))) (aj (az (pv 2)) bf))))))))))
theorem ah8(F:z.F "_law_doors" abo f fd):z.o 1 f fd ["house"] 1 nu :=
 jj F rz rfl rfl fun _ _ _ _ _ _ hr =>
  (aq (gr (i:=1) rz.nd rfl (bU rfl) (jg bf)) (aq (ux cR rfl (aih (by rfl) T.z_enumerate (aj (az (pv 0)) bf)) (abx rfl (gq (cg (i:=2) rz.nd rfl (sX rfl)) (gq (cg (i:=3) rz.nd rfl (bU rfl)) yg))) (bh (gr (i:=1) rz.nd rfl (bU rfl) (f9 ik (e2_n (pv 1) (EV.toB (ER.toD (j4 ["at"] ["door","at"] [none,some 2] rfl (lq (by rfl) T.z_range (aj (ER.toD (bw j7 (by rfl) T.z_len jy (ea_n (pv 3) cz))) bf)) (fun _ _ _=>(cg (i:=0) (show(["door","at"]:List Str).Nodup by decide +kernel) rfl (bU rfl))) (fun _ _ _=>km) (fun _ _ _=>(gf (aj (az (pv 1)) (aj (az (pv 0)) bf)))))))))))) (bh (dw (arl (pv 1))))))
theorem af1(F:z.F "_law_is_tour" yx f fd)(d19:Dd19 z)(d25:Dd25 z):z.o 2 f fd ["house","thing"] 2 gj :=
 jj F xq rfl rfl fun _ _ _ _ _ _ hr =>
  (aq (xn (qp (qm (acp (t:=.list) (afy (by rfl) T.z_list aiy) (by rfl) T.z_isinstance bu (fc (pv 1))))) (bh (dw (EV.toR aax))) jo) (aq (ux cR rfl (ni (az (pv 1))) (cg (i:=2) xq.nd rfl (bU rfl)) (bh (xn (EW.pt (ag0 (qp (qm (acp (t:=.tuple) (afy (by rfl) T.z_tuple lg) (by rfl) T.z_isinstance bu (fc (pv 2))))) (ag0 (oh (adt hr.units) (e2_v (ER.toD (bw j7 (by rfl) T.z_len jy (ea_n (pv 2) cz))) (EV.toB au)) (j5 _)) (agg (qp (qm (ER.toD (bw (ae6 rfl) (by rfl) T.z_all ae7 (ea_v (ER.toD (j4 [] ["at"] [none] rfl (ni (az (pv 2))) (fun _ _ _=>(cg (i:=0) (show(["at"]:List Str).Nodup by decide +kernel) rfl (bU rfl))) (fun _ _ _=>km) (fun _ _ _=>(ER.toD (ie d19 (hr.mono (by decide)) (by rfl) (eg_n (pv 0) cu)))))) cz))))))))) (bh (dw (EV.toR aax))) jo))) (aq (xn (oh (adt hr.units) (e2_v (ER.toD (bw aou (by rfl) T.z_sorted akp (ea_n (pv 1) cz))) (EV.toB (ER.toD (ie d25 (hr.mono (by decide)) (by rfl) (eg_v (az (pv 0)) cu))))) (j5 _)) (bh (dw (EV.toR aax))) jo) (aq (apm (i:=3) ["house"] ["room","door","house"] [none,none,some 0] xq.nd rfl (bU rfl) rfl (ni (az (pv 1))) (fun _ _ _=>(abx rfl (gq (cg (i:=0) (show(["room","door","house"]:List Str).Nodup by decide +kernel) rfl (bU rfl)) (gq (cg (i:=1) (show(["room","door","house"]:List Str).Nodup by decide +kernel) rfl (bU rfl)) yg)))) (fun _ _ _=>km) (fun _ _ _=>(ER.toD (g8 (e2_v (ER.toD (g8 (e2_n (pv 2) (fc (pv 0))) (fun _ _=>by rfl))) (fc (pv 1))) (fun _ _=>by rfl))))) (bh (dw (agi (aa9 hr.units) (e2_v (ER.toD (f9 ik (e2_v (ER.toD (yl (pv 3) (vp (aaf au)) yz)) (EV.toB (ER.toD (yl (pv 3) yz (vp (aaf au)))))))) (EV.toB (ER.toD (j4 [] ["room","door"] [none,none] rfl (ni (az (pv 1))) (fun _ _ _=>(abx rfl (gq (cg (i:=0) (show(["room","door"]:List Str).Nodup by decide +kernel) rfl (bU rfl)) (gq (cg (i:=1) (show(["room","door"]:List Str).Nodup by decide +kernel) rfl (bU rfl)) yg)))) (fun _ _ _=>km) (fun _ _ _=>(az (pv 0))))))) (j5 _))))))))
theorem afa(F:z.F "_law_no_house" xu f fd)(d18:Dd18 z):z.o 2 f fd ["pen"] 1 f__law_no_house :=
 jj F aa8 rfl rfl fun _ _ _ _ _ _ hr =>
  (aq (gr (i:=1) aa8.nd rfl (bU rfl) (jg (aj (gf (aj (gf (aj (aaf au) bf)) bf)) (aj (gf (aj (gf (aj au (aj (aaf au) bf))) bf)) (aj (gf (aj (gf (aj au bf)) (aj (gf (aj au bf)) bf))) (aj (gf (aj (gf (aj au (aj au bf))) (aj (gf (aj au bf)) bf))) (aj (gf (aj (gf (aj au bf)) (aj (gf (aj au bf)) bf))) (aj (gf (aj (gf (aj au (aj au bf))) (aj (gf (aj au (aj au bf))) bf))) (aj (gf (aj (gf (aj au bf)) (aj (gf (aj au bf)) (aj (gf (aj au bf)) bf)))) bf))))))))) (bh (dw (g8 (e2_n (pv 1) (EV.toB (ER.toD (ie d18 (hr.mono (by decide)) (by rfl) (eg_n (pv 0) (eg_v au cu)))))) (fun _ _=>by rfl)))))
theorem agy(F:z.F "_law_trails" aak f fd):z.o 1 f fd ["house"] 1 sy :=
 jj F ig rfl rfl fun _ _ _ _ _ _ hr =>
  (aq (gr (i:=1) ig.nd rfl (bU rfl) (jg (aj (ER.toD (jg (aj (gf (aj au (aj au bf))) bf))) bf))) (aq (ux cR rfl (lq (by rfl) T.z_range (aj (ER.toD (f9 aeg (e2_v (ER.toD (bw (anu rfl) (by rfl) T.z_sum anw (ea_v (ER.toD (j4 [] ["room"] [none] rfl (ni (az (pv 0))) (fun _ _ _=>(cg (i:=0) (show(["room"]:List Str).Nodup by decide +kernel) rfl (bU rfl))) (fun _ _ _=>km) (fun _ _ _=>(ER.toD (bw j7 (by rfl) T.z_len jy (ea_n (pv 0) cz)))))) cz))) (EV.toB au)))) bf)) (cg (i:=2) ig.nd rfl (bU rfl)) (aq (gr (i:=3) ig.nd rfl (bU rfl) (jg bf)) (aq (ux cR rfl (ni (az (pv 1))) (cg (i:=4) ig.nd rfl (sX rfl)) (aq (gr (i:=5) ig.nd rfl (sX rfl) (g8 (e2_v (ER.toD (g8 (e2_n (pv 0) (EV.toB (ER.toD (g8 (e2_v (ER.toD (g8 (e2_n (pv 4) (EV.toB (aaf au))) (fun _ _=>by rfl))) (EV.toB au)) (fun _ _=>by rfl))))) (fun _ _=>by rfl))) (EV.toB (ER.toD (g8 (e2_v (ER.toD (g8 (e2_n (pv 4) (EV.toB (aaf au))) (fun _ _=>by rfl))) (EV.toB au)) (fun _ _=>by rfl))))) (fun _ _=>by rfl))) (aq (apm (i:=6) ["room"] ["door","room"] [none,some 5] ig.nd rfl (bU rfl) rfl (lq (by rfl) T.z_range (aj (ER.toD (bw j7 (by rfl) T.z_len jy (ea_v (ER.toD (g8 (e2_n (pv 0) (fc (pv 5))) (fun _ _=>by rfl))) cz))) bf)) (fun _ _ _=>(cg (i:=0) (show(["door","room"]:List Str).Nodup by decide +kernel) rfl (bU rfl))) (fun _ _ _=>km) (fun _ _ _=>(gf (aj (az (pv 1)) (aj (az (pv 0)) bf))))) (bh (gr (i:=3) ig.nd rfl (bU rfl) (f9 ik (e2_n (pv 3) (EV.toB (ER.toD (j4 ["way"] ["one","way"] [none,some 4] rfl (ni (az (pv 6))) (fun _ _ _=>(cg (i:=0) (show(["one","way"]:List Str).Nodup by decide +kernel) rfl (bU rfl))) (fun _ _ _=>(agk (oh (ajo hr.units) (e2_n (pv 0) (fc (pv 1))) (by with_unfolding_all rfl)))) (fun _ _ _=>(ER.toD (f9 ik (e2_n (pv 1) (EV.toB (ER.toD (jg (aj (az (pv 0)) bf)))))))))))))))))) (bh (gr (i:=1) ig.nd rfl (bU rfl) (EV.toR (az (pv 3)))))))) (bh (dw (j4 ["house"] ["way","house"] [none,some 0] rfl (ni (az (pv 1))) (fun _ _ _=>(cg (i:=0) (show(["way","house"]:List Str).Nodup by decide +kernel) rfl (bU rfl))) (fun _ _ _=>(agk (oh (aa9 hr.units) (e2_v (ER.toD (g8 (e2_v (ER.toD (g8 (e2_n (pv 1) (EV.toB (ER.toD (g8 (e2_v (ER.toD (g8 (e2_n (pv 0) (EV.toB (aaf au))) (fun _ _=>by rfl))) (EV.toB au)) (fun _ _=>by rfl))))) (fun _ _=>by rfl))) (EV.toB (ER.toD (g8 (e2_v (ER.toD (g8 (e2_n (pv 0) (EV.toB (aaf au))) (fun _ _=>by rfl))) (EV.toB au)) (fun _ _=>by rfl))))) (fun _ _=>by rfl))) (EV.toB au)) (j5 _)))) (fun _ _ _=>(az (pv 0))))))))
theorem ajs(F:z.F "_law_tour" acv f fd)(d18:Dd18 z)(d28:Dd28 z)(d21:Dd21 z)(d24:Dd24 z):z.o 3 f fd ["pen","house"] 2 um :=
 jj F qy rfl rfl fun _ _ _ _ _ _ hr =>
  (aq (gr (i:=2) qy.nd rfl (bU rfl) (bw (anu rfl) (by rfl) T.z_sum anw (ea_v (ER.toD (j4 [] ["room"] [none] rfl (ni (az (pv 1))) (fun _ _ _=>(cg (i:=0) (show(["room"]:List Str).Nodup by decide +kernel) rfl (bU rfl))) (fun _ _ _=>km) (fun _ _ _=>(ER.toD (bw j7 (by rfl) T.z_len jy (ea_n (pv 0) cz)))))) cz))) (aq (xn (EW.pt (arj (oh a0w (e2_n (pv 2) (EV.toB au)) (j5 _)) (al1 (oh (aa9 hr.units) (e2_v (ER.toD (ie d18 (hr.mono (by decide)) (by rfl) (eg_n (pv 0) (eg_v au cu)))) (EV.toB au)) (j5 _))))) (aq (gr (i:=3) qy.nd rfl (bU rfl) (ie d28 (hr.mono (by decide)) (by rfl) (eg_v (az (pv 1)) cu))) (bh (dw (g8 (e2_n (pv 3) (EV.toB (ER.toD (ie d18 (hr.mono (by decide)) (by rfl) (eg_n (pv 0) (eg_v (ER.toD (bw j7 (by rfl) T.z_len jy (ea_n (pv 3) cz))) cu)))))) (fun _ _=>by rfl))))) jo) (aq (apn (ER.toD (ie d24 (hr.mono (by decide)) (by rfl) (eg_n (pv 1) (eg_v (ER.toD (ie d21 (hr.mono (by decide)) (by rfl) (eg_n (pv 0) (eg_v (az (pv 1)) cu)))) (eg_v au (eg_v (ER.toD (f9 af0 (e2_v (ER.toD (f9 af0 (e2_v au (fc (pv 2))))) (EV.toB (ER.toD (bw j7 (by rfl) T.z_len jy (ea_n (pv 1) cz))))))) cu)))))) (abx rfl (gq (cg (i:=4) qy.nd rfl (bU rfl)) (gq (cg (i:=5) qy.nd rfl (bU rfl)) (gq (cg (i:=6) qy.nd rfl (bU rfl)) yg))))) (bh (dw (g8 (e2_v (ER.toD (ie d24 (hr.mono (by decide)) (by rfl) (eg_n (pv 1) (eg_n (pv 5) (eg_v (az (pv 6)) (eg_v (az (pv 2)) cu)))))) (EV.toB au)) (fun _ _=>by rfl)))))))
theorem ajt(F:z.F "_law_told" acw f fd)(d15:Dd15 z)(x15:Dx15 z)(u22:Du22 z):z.o 10 f fd ["house","tour"] 2 jf :=
 jj F aet rfl rfl fun _ _ _ _ _ _ hr =>
  (bh (aws rfl rfl rfl rfl aet.nd rfl rfl (by rfl) T.cat T.sub (by decide +kernel) (bh (dw (EV.toR (gf (aj (EV.s ql) (aj (ER.toD (ie d15 (hr.mono (by decide)) (by rfl) (eg_v (EV.s (az (pv 0))) (eg_v (EV.s (az (pv 1))) cu)))) bf)))))) (ad6 (azj (XE.v (azl (ao7 (EV.s ql) (XE.no ac1) (ao7 (ER.toD (ie d15 (hr.mono (by decide)) (by rfl) (eg_v (EV.s (az (pv 0))) (eg_v (EV.s (az (pv 1))) cu)))) (XE.d (awf x15 (hr.mono (by decide)) (by rfl) (eg_v (EV.s (az (pv 0))) (eg_v (EV.s (az (pv 1))) cu)) (xa_v (js:=[]) (EV.s (az (pv 0))) (XE.no ac1) (xa_v (js:=[]) (EV.s (az (pv 1))) (XE.no ac1) amf)))) amf)))))) (fun ev=>(bh (dw (EV.toR (gf (aj (ER.toD (a2r u22 ((hr.mark ev).mono (by decide)) (by rfl) (eg_n (pv 2) cu))) (aj akb bf)))))))))
theorem ah6(F:z.F "_law_right" abm f fd)(d26:Dd26 z)(d30:Dd30 z)(d19:Dd19 z):z.o 11 f fd ["house","tour"] 2 jk :=
 jj F ph rfl rfl fun _ _ _ _ _ _ hr =>
  (aq (xn (qp (qm (ER.toD (ie d26 (hr.mono (by decide)) (by rfl) (eg_v (az (pv 0)) (eg_v (az (pv 1)) cu)))))) (bh (dw (agi (aa9 hr.units) (e2_v (ER.toD (ie d30 (hr.mono (by decide)) (by rfl) (eg_v (az (pv 0)) (eg_v (az (pv 1)) cu)))) (EV.toB (gf (aj ql (aj akb bf))))) (j5 _)))) jo) (aq (gr (i:=2) ph.nd rfl (bU rfl) (jx ar3 (by rfl) T.z_list aiy (ea_n (pv 1) cz))) (aq (gr (i:=3) ph.nd rfl (bU rfl) (jg bf)) (aq (ux cR rfl (lq (by rfl) T.z_range (aj (ER.toD (bw j7 (by rfl) T.z_len jy (ea_n (pv 0) cz))) bf)) (cg (i:=4) ph.nd rfl (sX rfl)) (bh (vg (EV.toR (agh xj gK PySem.F.type_list_append xx (pv 3) (aj (ER.toD (jx ud (by rfl) T.z_tuple lg (ea_v (ER.toD (j4 ["house","at"] ["room","door","house","at"] [none,none,some 0,some 4] rfl (ni (az (pv 1))) (fun _ _ _=>(abx rfl (gq (cg (i:=0) (show(["room","door","house","at"]:List Str).Nodup by decide +kernel) rfl (bU rfl)) (gq (cg (i:=1) (show(["room","door","house","at"]:List Str).Nodup by decide +kernel) rfl (bU rfl)) yg)))) (fun _ _ _=>(agk (oh (aa9 hr.units) (e2_n (pv 0) (fc (pv 3))) (j5 _)))) (fun _ _ _=>(ER.toD (g8 (e2_v (ER.toD (g8 (e2_n (pv 2) (fc (pv 0))) (fun _ _=>by rfl))) (fc (pv 1))) (fun _ _=>by rfl)))))) cz))) bf)))))) (aq (apn (ER.toD (ie d30 (hr.mono (by decide)) (by rfl) (eg_v (az (pv 0)) (eg_v (az (pv 2)) cu)))) (abx rfl (gq (cg (i:=5) ph.nd rfl (bU rfl)) (gq (cg (i:=6) ph.nd rfl (bU rfl)) yg)))) (aq (xn (EW.pt (ag0 (oh (adt hr.units) (e2_n (pv 5) (EV.toB ql)) (j5 _)) (ag0 (qp (qm (acp (t:=.tuple) (afy (by rfl) T.z_tuple lg) (by rfl) T.z_isinstance bu (fc (pv 6))))) (ag0 (oh (adt hr.units) (e2_n (pv 6) (EV.toB (ER.toD (jx ud (by rfl) T.z_tuple lg (ea_n (pv 3) cz))))) (j5 _)) (agg (oh (adt hr.units) (e2_n (pv 2) (fc (pv 1))) (j5 _))))))) (bh (dw (EV.toR aax))) jo) (bh (dw (bw (ae6 rfl) (by rfl) T.z_all ae7 (ea_v (ER.toD (j4 [] ["room"] [none] rfl (ni (az (pv 6))) (fun _ _ _=>(cg (i:=0) (show(["room"]:List Str).Nodup by decide +kernel) rfl (bU rfl))) (fun _ _ _=>km) (fun _ _ _=>(akc (acp (t:=.tuple) (afy (by rfl) T.z_tuple lg) (by rfl) T.z_isinstance bu (fc (pv 0))) (aka (ER.toD (bw (ae6 rfl) (by rfl) T.z_all ae7 (ea_v (ER.toD (j4 [] ["door"] [none] rfl (ni (az (pv 0))) (fun _ _ _=>(cg (i:=0) (show(["door"]:List Str).Nodup by decide +kernel) rfl (bU rfl))) (fun _ _ _=>km) (fun _ _ _=>(ER.toD (ie d19 (hr.mono (by decide)) (by rfl) (eg_n (pv 0) cu)))))) cz)))))))) cz))))))))))
theorem a04(F:z.F "law" ahy f fd)(d31:Dd31 z)(d16:Dd16 z)(d17:Dd17 z)(d23:Dd23 z)(d29:Dd29 z)(d18:Dd18 z)(d20:Dd20 z)(d25:Dd25 z)(d27:Dd27 z)(d30:Dd30 z):z.o 12 f fd ["script"] 1 arh :=
 jj F adh rfl rfl fun _ _ _ _ _ _ hr =>
  (aq (ux cR rfl (ni (ER.toD (jg (aj (ER.toD (jg (aj (gf (aj au (aj au bf))) bf))) (aj (ER.toD (jg (aj (gf (aj au (aj aax bf))) bf))) (aj (ER.toD (jg bf)) (aj akb (aj (ER.toD (jg (aj (gf (aj au (aj au bf))) (aj (gf (aj au (aj au bf))) bf)))) bf)))))))) (cg (i:=1) adh.nd rfl (bU rfl)) (bh (xn (qp (qm (ER.toD (ie d31 (hr.mono (by decide)) (by rfl) (eg_v (gf (aj (gf (aj au bf)) bf)) (eg_v (az (pv 1)) cu)))))) (bh (dw (EV.toR aax))) jo))) (aq (ux cR rfl (ni (ER.toD (f9 ik (e2_v (ER.toD (jg (aj (ER.toD (ie d16 (hr.mono (by decide)) (by rfl) (eg_n (pv 0) (eg_v au cu)))) bf))) (EV.toB (ER.toD (yl (pv 0) (vp au) (vp au)))))))) (cg (i:=2) adh.nd rfl (bU rfl)) (aq (gr (i:=3) adh.nd rfl (bU rfl) (ie d17 (hr.mono (by decide)) (by rfl) (eg_n (pv 2) cu))) (aq (gr (i:=4) adh.nd rfl (bU rfl) (ie d23 (hr.mono (by decide)) (by rfl) (eg_n (pv 3) (eg_v au (eg_v au cu))))) (aq (gr (i:=1) adh.nd rfl (bU rfl) (ie d29 (hr.mono (by decide)) (by rfl) (eg_n (pv 3) (eg_v (az (pv 4)) cu)))) (aq (gr (i:=5) adh.nd rfl (bU rfl) (ie d18 (hr.mono (by decide)) (by rfl) (eg_n (pv 3) (eg_v (ER.toD (bw j7 (by rfl) T.z_len jy (ea_n (pv 1) cz))) cu)))) (aq (gr (i:=6) adh.nd rfl (bU rfl) (jg (aj (az (pv 1)) (aj (ER.toD (f9 ik (e2_v (ER.toD (yl (pv 1) (vp (az (pv 5))) yz)) (EV.toB (ER.toD (yl (pv 1) yz (vp (az (pv 5))))))))) (aj (ER.toD (f9 ik (e2_v (ER.toD (yl (pv 1) yz (vp (az (pv 5))))) (EV.toB (ER.toD (yl (pv 1) (vp (ER.toD (f9 ik (e2_n (pv 5) (EV.toB au))))) yz)))))) (aj (ER.toD (jx ud (by rfl) T.z_tuple lg (ea_n (pv 1) cz))) (aj (ER.toD (ayt (az (pv 1)) (aaf au))) (aj (ER.toD (ie d20 (hr.mono (by decide)) (by rfl) (eg_n (pv 3) cu))) bf)))))))) (aq (ux cR rfl (ni (ER.toD (f9 ik (e2_n (pv 6) (EV.toB (ER.toD (jg (aj (ER.toD (ie d25 (hr.mono (by decide)) (by rfl) (eg_v (az (pv 4)) cu))) (aj (ER.toD (f9 ik (e2_v (ER.toD (f9 ik (e2_v (ER.toD (yl (pv 1) yz (vp (az (pv 5))))) (EV.toB (ER.toD (jg (aj (gf (aj (ER.toD (g8 (e2_v (ER.toD (g8 (e2_n (pv 1) (fc (pv 5))) (fun _ _=>by rfl))) (EV.toB au)) (fun _ _=>by rfl))) (aj aax bf))) bf))))))) (EV.toB (ER.toD (yl (pv 1) (vp (ER.toD (f9 ik (e2_n (pv 5) (EV.toB au))))) yz)))))) bf))))))))) (cg (i:=7) adh.nd rfl (bU rfl)) (bh (xn (qp (qm (ER.toD (ie d31 (hr.mono (by decide)) (by rfl) (eg_v (az (pv 4)) (eg_v (az (pv 7)) cu)))))) (bh (dw (EV.toR aax))) jo))) (bh (xn (oh (adt hr.units) (e2_v (ER.toD (ie d30 (hr.mono (by decide)) (by rfl) (eg_v (ER.toD (ie d27 (hr.mono (by decide)) (by rfl) (eg_n (pv 3) cu))) (eg_v (az (pv 1)) cu)))) (EV.toB (gf (aj ql (aj akb bf))))) (j5 _)) (bh (dw (EV.toR aax))) jo))))))))) (bh (dw (EV.toR aax)))))
end
abbrev Q(K:Fg9)(x:Str)(st:iY)(f:aY)(oc:aG)(od:Option aY)(kV dc pm:aG)(an:Option aY)(cd ct:aG)(sl:Array (Option aG)):Prop:=nsIn K bB x=some (some (.ref f))/\K.lookup f=some ⟨oc,od,.func (fnOf x x (my st) (ji st) (ao st) .none kV dc pm an cd ct),sl⟩/\codeIn K cd x=true/\nR K (.ref f)=true
section
variable{K:Fg9}{x:Str}{st:iY}{f:aY}{oc:aG}{od:Option aY}{kV dc pm:aG}{an:Option aY}{cd ct:aG}{sl:Array (Option aG)}(q:Q K x st f oc od kV dc pm an cd ct sl){h:fD}{mg:Str->Option aG}
include q
theorem Q.F:Fun K x x st f (fnOf x x (my st) (ji st) (ao st) .none kV dc pm an cd ct):=av4 q.2.1 q.2.2.1 q.2.2.2
theorem Q.E{ps:List Str}(X:K.In h)(G:h.Ns bB mg)(b:∀(kV doc pm:aG) (an:Option aY) (cdv ct:aG) (us:List aG),us.length=ps.length->bindArgs (fnOf x x (my st) (ji st) (ao st) .none kV doc pm an cdv ct) ⟨us,[]⟩=pure (ps.zip us)):mg x=some (.ref f)/\nR K (.ref f)=true/\Binds K (fnOf x x (my st) (ji st) (ao st) .none kV dc pm an cd ct) ps []:=⟨mg_of X G q.1,q.2.2.2,(Q.F q).binds b⟩
theorem Q.E1{p0:Str}(X:K.In h)(G:h.Ns bB mg)(b:∀(kV doc pm:aG) (an:Option aY) (cdv ct u0:aG),bindArgs (fnOf x x (my st) (ji st) (ao st) .none kV doc pm an cdv ct) ⟨[u0],[]⟩=pure ([p0].zip [u0]):=by intros;rfl):mg x=some (.ref f)/\nR K (.ref f)=true/\Binds K (fnOf x x (my st) (ji st) (ao st) .none kV dc pm an cd ct) [p0] []:=q.E X G fun _ _ _ _ _ _ us hl=>by obtain⟨_,rfl⟩:=ln1 hl;apply b
theorem Q.E2{p0 p1:Str}(X:K.In h)(G:h.Ns bB mg)(b:∀(kV doc pm:aG) (an:Option aY) (cdv ct u0 u1:aG),bindArgs (fnOf x x (my st) (ji st) (ao st) .none kV doc pm an cdv ct) ⟨[u0,u1],[]⟩=pure ([p0,p1].zip [u0,u1]):=by intros;rfl):mg x=some (.ref f)/\nR K (.ref f)=true/\Binds K (fnOf x x (my st) (ji st) (ao st) .none kV dc pm an cd ct) [p0,p1] []:=q.E X G fun _ _ _ _ _ _ us hl=>by obtain⟨_,_,rfl⟩:=ln2 hl;apply b
theorem Q.E3{p0 p1 p2:Str}(X:K.In h)(G:h.Ns bB mg)(b:∀(kV doc pm:aG) (an:Option aY) (cdv ct u0 u1 u2:aG),bindArgs (fnOf x x (my st) (ji st) (ao st) .none kV doc pm an cdv ct) ⟨[u0,u1,u2],[]⟩=pure ([p0,p1,p2].zip [u0,u1,u2]):=by intros;rfl):mg x=some (.ref f)/\nR K (.ref f)=true/\Binds K (fnOf x x (my st) (ji st) (ao st) .none kV dc pm an cd ct) [p0,p1,p2] []:=q.E X G fun _ _ _ _ _ _ us hl=>by obtain⟨_,_,_,rfl⟩:=ln3 hl;apply b
theorem Q.E4{p0 p1 p2 p3:Str}(X:K.In h)(G:h.Ns bB mg)(b:∀(kV doc pm:aG) (an:Option aY) (cdv ct u0 u1 u2 u3:aG),bindArgs (fnOf x x (my st) (ji st) (ao st) .none kV doc pm an cdv ct) ⟨[u0,u1,u2,u3],[]⟩=pure ([p0,p1,p2,p3].zip [u0,u1,u2,u3]):=by intros;rfl):mg x=some (.ref f)/\nR K (.ref f)=true/\Binds K (fnOf x x (my st) (ji st) (ao st) .none kV dc pm an cd ct) [p0,p1,p2,p3] []:=q.E X G fun _ _ _ _ _ _ us hl=>by obtain⟨_,_,_,_,rfl⟩:=ln4 hl;apply b
end
theorem a3h{l:sW}{w:dO}{K:Fg9}{h:fD}{mg:Str->Option aG}(X:K.In h)(G:h.Ns bB mg)(hfa:mg "law" = some (.ref fa))
  (q0:Q K "is_whole" aeb f0' o0 p0 v0 t0 m0 n0 c0 r0 z0)
  (q1:Q K "is_whole_within" uf f1' o1 p1 v1 t1 m1 n1 c1 r1 z1)
  (q2:Q K "is_tuple_within" ug f2' o2 p2 v2 t2 m2 n2 c2 r2 z2)
  (q3:Q K "is_room_number" vm f3' o3 p3 v3 t3 m3 n3 c3 r3 z3)
  (q4:Q K "refuse_no_room" vh f4' o4 p4 v4 t4 m4 n4 c4 r4 z4)
  (q5:Q K "come_to" afv f5' o5 p5 v5 t5 m5 n5 c5 r5 z5)
  (q6:Q K "is_shut" afu f6' o6 p6 v6 t6 m6 n6 c6 r6 z6)
  (q7:Q K "is_joined" acs f7' o7 p7 v7 t7 m7 n7 c7 r7 z7)
  (q8:Q K "doors_to" aec f8' o8 p8 v8 t8 m8 n8 c8 r8 z8)
  (q9:Q K "is_balanced" aaj f9' o9 p9 v9 t9 m9 n9 c9 r9 z9)
  (q10:Q K "doors_many" abk f10' o10 p10 v10 t10 m10 n10 c10 r10 z10)
  (q11:Q K "refuse_no_touring" kh f11' o11 p11 v11 t11 m11 n11 c11 r11 z11)
  (q12:Q K "is_leaving" abj f12' o12 p12 v12 t12 m12 n12 c12 r12 z12)
  (q13:Q K "is_round_trip" xr f13' o13 p13 v13 t13 m13 n13 c13 r13 z13)
  (q14:Q K "is_tour" adl f14' o14 p14 v14 t14 m14 n14 c14 r14 z14)
  (q15:Q K "doors_by" ab8 f15' o15 p15 v15 t15 m15 n15 c15 r15 z15)
  (q16:Q K "_law_cell" acz f16' o16 p16 v16 t16 m16 n16 c16 r16 z16)
  (q17:Q K "_law_pen" aed f17' o17 p17 v17 t17 m17 n17 c17 r17 z17)
  (q18:Q K "_law_draw" acy f18' o18 p18 v18 t18 m18 n18 c18 r18 z18)
  (q19:Q K "_law_whole" abl f19' o19 p19 v19 t19 m19 n19 c19 r19 z19)
  (q20:Q K "_law_odd" aee f20' o20 p20 v20 t20 m20 n20 c20 r20 z20)
  (q21:Q K "_law_drawn" abn f21' o21 p21 v21 t21 m21 n21 c21 r21 z21)
  (q22:Q K "_law_kind" acx f22' o22 p22 v22 t22 m22 n22 c22 r22 z22)
  (q23:Q K "_law_rounds" aal f23' o23 p23 v23 t23 m23 n23 c23 r23 z23)
  (q24:Q K "_law_walk" acu f24' o24 p24 v24 t24 m24 n24 c24 r24 z24)
  (q25:Q K "_law_doors" abo f25' o25 p25 v25 t25 m25 n25 c25 r25 z25)
  (q26:Q K "_law_is_tour" yx f26' o26 p26 v26 t26 m26 n26 c26 r26 z26)
  (q27:Q K "_law_no_house" xu f27' o27 p27 v27 t27 m27 n27 c27 r27 z27)
  (q28:Q K "_law_trails" aak f28' o28 p28 v28 t28 m28 n28 c28 r28 z28)
  (q29:Q K "_law_tour" acv f29' o29 p29 v29 t29 m29 n29 c29 r29 z29)
  (q30:Q K "_law_told" acw f30' o30 p30 v30 t30 m30 n30 c30 r30 z30)
  (q31:Q K "_law_right" abm f31' o31 p31 v31 t31 m31 n31 c31 r31 z31)
  (a32:nsIn K bB "law" = some (some (.ref f32'))) (l32:K.lookup f32'=some ⟨oc32,od32,.func (fnOf "law" "law" (my ahy) (ji ahy) (ao ahy) .none kV32 dc32 pm32 an32 cd32 ct32),sl32⟩) (c32:codeIn K cd32 "law" = true) (k32:nR K (.ref f32')=true)
  (e_cls:arv K NS=true) (e_sub:ahq K NS=true) (e_rai:avs K ["ArrowError","NoArrows","NoRoom","NoWalkers","NotShut","NeverBack","NoTour","NoRow"]=true) (e_cat:catB K=true)
  (y_ValueError:nsIn K bB "ValueError" = some none)
  (y_all:nsIn K bB "all" = some none)
  (y_bool:nsIn K bB "bool" = some none)
  (y_divmod:nsIn K bB "divmod" = some none)
  (y_enumerate:nsIn K bB "enumerate" = some none)
  (y_int:nsIn K bB "int" = some none)
  (y_isinstance:nsIn K bB "isinstance" = some none)
  (y_len:nsIn K bB "len" = some none)
  (y_list:nsIn K bB "list" = some none)
  (y_max:nsIn K bB "max" = some none)
  (y_min:nsIn K bB "min" = some none)
  (y_range:nsIn K bB "range" = some none)
  (y_set:nsIn K bB "set" = some none)
  (y_sorted:nsIn K bB "sorted" = some none)
  (y_sum:nsIn K bB "sum" = some none)
  (y_tuple:nsIn K bB "tuple" = some none)
  (y_zip:nsIn K bB "zip" = some none)
  : ∃fd:fP,(∀(s:aH) (v:aG),rT s fd ⟨[v],[]⟩ [("script", v)])/\∀base:fD,K.In base->base.Ns bB mg->FnOk l.prog w K mg base CX0 12 fa fd ["script"] (spOf K 1 arh):=by
 have e:=hfa.symm.trans (mg_of X G a32);cases e;have T:Txt K mg:=⟨mg_none_of X G y_ValueError,gH X G y_all,gH X G y_bool,gH X G y_divmod,gH X G y_enumerate,gH X G y_int,gH X G y_isinstance,gH X G y_len,gH X G y_list,gH X G y_max,gH X G y_min,gH X G y_range,gH X G y_set,gH X G y_sorted,gH X G y_sum,gH X G y_tuple,gH X G y_zip,e_sub,ay1 X G e_cat,uc X G e_cls (by decide +kernel),uc X G e_cls (by decide +kernel),uc X G e_cls (by decide +kernel),uc X G e_cls (by decide +kernel),uc X G e_cls (by decide +kernel),uc X G e_cls (by decide +kernel),uc X G e_cls (by decide +kernel),uc X G e_cls (by decide +kernel),uc X G e_cls (by decide +kernel),uc X G e_cls (by decide +kernel),uc X G e_cls (by decide +kernel),uc X G e_cls (by decide +kernel),uc X G e_cls (by decide +kernel),abt X G e_cls (by decide +kernel) e_rai (by decide +kernel),abt X G e_cls (by decide +kernel) e_rai (by decide +kernel),abt X G e_cls (by decide +kernel) e_rai (by decide +kernel),abt X G e_cls (by decide +kernel) e_rai (by decide +kernel),abt X G e_cls (by decide +kernel) e_rai (by decide +kernel),abt X G e_cls (by decide +kernel) e_rai (by decide +kernel),abt X G e_cls (by decide +kernel) e_rai (by decide +kernel),abt X G e_cls (by decide +kernel) e_rai (by decide +kernel)⟩
 have F32:=av4 (st:=ahy) l32 c32 k32;refine⟨fnOf "law" "law" (my ahy) (ji ahy) (ao ahy) .none kV32 dc32 pm32 an32 cd32 ct32,fun s v=>.of_eq rfl,fun base _ _ =>?_⟩
 let z:Cz:=⟨l.prog,w,K,mg,base⟩
 have d0:Dd0 z:=⟨_,_,alc z T q0.F,q0.E1 X G⟩;have d1:Dd1 z:=⟨_,_,adu z T q1.F d0,q1.E3 X G⟩;have d2:Dd2 z:=⟨_,_,adv z T q2.F,q2.E3 X G⟩;have d3:Dd3 z:=⟨_,_,aej z T q3.F d1,q3.E2 X G⟩;have d4:Dd4 z:=⟨_,_,aei z T q4.F d3,q4.E2 X G⟩;have d5:Dd5 z:=⟨_,_,aoi z T q5.F d4,q5.E2 X G⟩;have d6:Dd6 z:=⟨_,_,aoh z T q6.F,q6.E1 X G⟩;have d7:Dd7 z:=⟨_,_,ajq z T q7.F d5,q7.E1 X G⟩;have d8:Dd8 z:=⟨_,_,ald z T q8.F,q8.E2 X G⟩;have d9:Dd9 z:=⟨_,_,agx z T q9.F d6 d8,q9.E1 X G⟩;have d10:Dd10 z:=⟨_,_,ah4 z T q10.F,q10.E1 X G⟩;have d11:Dd11 z:=⟨_,_,acj z T q11.F d9 d7,q11.E1 X G⟩;have x11:Dx11 z:=⟨_,_,abu z T q11.F d9 d7,q11.E1 X G⟩;have d12:Dd12 z:=⟨_,_,ah3 z T q12.F d2 d3 d1,q12.E2 X G⟩;have d13:Dd13 z:=⟨_,_,ae9 z T q13.F d10 d12,q13.E2 X G⟩;have d14:Dd14 z:=⟨_,_,aog z T q14.F d11 d13 x11,q14.E2 X G⟩;have x14:Dx14 z:=⟨_,_,alb z T q14.F d11 d13 x11,q14.E2 X G⟩;have d15:Dd15 z:=⟨_,_,ale z T q15.F d14 x14,q15.E2 X G⟩;have x15:Dx15 z:=⟨_,_,ajp z T q15.F d14 x14,q15.E2 X G⟩;have d16:Dd16 z:=⟨_,_,ajv z T q16.F,q16.E2 X G⟩;have d17:Dd17 z:=⟨_,_,alf z T q17.F,q17.E1 X G⟩;have d18:Dd18 z:=⟨_,_,aju z T q18.F,q18.E2 X G⟩;have d19:Dd19 z:=⟨_,_,ah5 z T q19.F,q19.E1 X G⟩;have d20:Dd20 z:=⟨_,_,alg z T q20.F d18,q20.E1 X G⟩;have d21:Dd21 z:=⟨_,_,ah7 z T q21.F d18,q21.E2 X G⟩;have u22:Du22 z:=⟨_,_,ah2 z T q22.F,q22.E1 X G⟩;have d23:Dd23 z:=⟨_,_,agz z T q23.F d18,q23.E3 X G⟩;have d24:Dd24 z:=⟨_,_,ajr z T q24.F,q24.E4 X G⟩;have d25:Dd25 z:=⟨_,_,ah8 z T q25.F,q25.E1 X G⟩;have d26:Dd26 z:=⟨_,_,af1 z T q26.F d19 d25,q26.E2 X G⟩;have d27:Dd27 z:=⟨_,_,afa z T q27.F d18,q27.E1 X G⟩;have d28:Dd28 z:=⟨_,_,agy z T q28.F,q28.E1 X G⟩;have d29:Dd29 z:=⟨_,_,ajs z T q29.F d18 d28 d21 d24,q29.E2 X G⟩;have d30:Dd30 z:=⟨_,_,ajt z T q30.F d15 x15 u22,q30.E2 X G⟩;have d31:Dd31 z:=⟨_,_,ah6 z T q31.F d26 d30 d19,q31.E2 X G⟩;exact a04 z T F32 d31 d16 d17 d23 d29 d18 d20 d25 d27 d30
end My
set_option genInjectivity false in
structure PySem.W.Fast where(tw7101258730400936128 tw8052221900230882944 tw10071486823764380352 tw10429488742230763296 tw9984238706280612640 tw6648787713321709536 tw16154128228210675873 tw17139929679861519585 tw9938064842942189666 tw14635604257447898371 tw16725276840793639620 tw18423499930161095428 tw16498307905646208101 tw8509725099954038405 tw9561858717570926918 tw4982975769110671078 tw485601645043354759 tw1683659729479116424 tw1080132555359009257 tw2172095338604060521 tw14877401909920736938 tw631450355290387306 tw6170217322117572523 tw1281492239091755276 tw7285402442924451853 tw4615917114403394605 tw7290276060197644589 tw12552777287293232302 tw5179414246320693455 tw2957314140341118575 tw12857463953854404816 tw10954948615378139696 tw5158533027958082673 tw7839642986709830002 tw6015389613985151506 tw9229138088794887443 tw9455395317170933011 tw12504055469387205011 tw1205489876152820723 tw1783817684317245524 tw13454613406718053588 tw2889606830999047540 tw9892106821688029684 tw4146110827191378772 tw12237456402578279316 tw4682662118255979061 tw12650652322787852918 tw10937284730228259128 tw16008314265139940633 tw17864478559380376409 tw5414743646315282458 tw5835865640893536378 tw1686913107942567130 tw4897065279841805626 tw10851061412289644282 tw9960806476485591866 tw5633089320972986267 tw16708631786720015260 tw12306379086443276637 tw1633250468149921437 tw3448264010139469789 tw18381248193424958398 tw1237598143220440095 tw3867627815143581823 tw11754644659254310303 tw1796960525676515839 tw4674343342962911775 tw5799520286612474665 tw11242875897122659707 tw10198798866404316955 tw3592542008717470039 tw3355385197313325910 tw14713047621769632972 tw476979847923689508 tw2050446781986584009 tw2950336592635213814 tw4643568557010184358 tw93636291309919996 tw10710341866847777594 tw10689552217479997689 tw11002596562228056273 tw12315451068140339885 tw5035436996342234699 tw3693471926175702857 tw15889485190536780218 tw5086625648949815888 tw2904324645126104347 tw1721953924006282008 tw9267860969077150785 tw13956445946737062341 tw16684739411033293957 tw11648269628108322533 tw9971573713378696311 tw10022390731017352834 tw17422888978799652800 tw3762624067612702763 tw48629337573283819 tw6489513435430113088 tw3830519937721973437 tw15627403026220425758 tw3334215582815243810 tw16141345789530202892 tw5570574409000590502 tw2602586525132472668 tw5518833588184664801 tw7437245309286937373 tw13654553190477940341 tw7173345070344220122 tw13176614143301341560 tw5724797880265752239 tw15432871679626300256 tw3202857091065737479 tw1884984371894712260 tw5346253090016735266 tw10578729172049791560 tw4642405403575525626 tw3633605884515343623 tw3018715676545339273 tw3983107404016790873 tw13862801641122885626 tw17197901162889181549 tw394945781701108176 tw7790931391669383981 tw13290454402729133065 tw15986825931184612817 tw12483794785894650756 tw16152231794644960173 tw4017233861514010463 tw12418640972494939129 tw9907788272916237079 tw4103618751914675755 tw18121116354384487438 tw7289227715151055690 tw9516559980987868868 tw16851283332920971892 tw13939743664280819889 tw6179760137187717757 tw18276793355318793348 tw8269718447659055796 tw11910604915030510905 tw7758599569518655068 tw6862592879778049158 tw15943123755235615973 tw16795293686114614877 tw14248431002831419088 tw9753308898902011295 tw14329471935682568677 tw16246861625803676421 tw9344606823734305136 tw10576159867965656285 tw16783842907575595456 tw7503890888455515935 tw8978148833889013308 tw3105752253471552767 tw3420360716013364191 tw1616790503517059537 tw3578863632746102527 tw9182032664130472150 tw13755156810850248311 tw17550639899251655577 tw11115279571943088172 tw137761747099176853 tw8579952386585201166 tw2812108965348116803 tw15078236887619869983 tw517543952798052986 tw17266195287383273706 tw16233541374811139496 tw5990793759991762234 tw13944845316808088475 tw16422683374330730092 tw9902999630982331214 tw7525251011555055199 tw3229029500091953080 tw6049917118788124452 tw7100026065373140010 tw10521509614729245330 tw9912995425658522379 tw8370818287320781949 tw4860039711914731097 tw17915591575325478970 tw5604084788259330996 tw1647475199044065597 tw8689717193500365955 tw256166991645377274:Unit)
open PySem PySem.W PyProof.Rows
set_option maxRecDepth 100000 in
set_option maxHeartbeats 0 in
theorem PySem.Challenge.cw_turnarrows_k68_houses_by_tours_holds : PySem.Challenge.rw_turnarrows_k68_houses_by_tours.Holds := by
 w_on;o_law;k_head;(case hw=>w_witness2)
 k_fill
 refine Dn.walk (l:=PySem.Challenge.rw_turnarrows_k68_houses_by_tours) (f:=My.arh) (k:=12) My.at9 rfl rfl ⟨rfl,by decide,by decide,rfl⟩ (fun w h Y=>PySem.W.kIn_of Y) ?F
 case F =>
  intro w mg fa h KX G hmg;refine' My.a3h KX G hmg ?_ ?_ ?_ ?_ ?_ ?_ ?_ ?_ ?_ ?_ ?_ ?_ ?_ ?_ ?_ ?_ ?_ ?_ ?_ ?_ ?_ ?_ ?_ ?_ ?_ ?_ ?_ ?_ ?_ ?_ ?_ ?_ ?_ ?_ ?_ ?_ ?_ ?_ ?_ ?_ ?_ ?_ ?_ ?_ ?_ ?_ ?_ ?_ ?_ ?_ ?_ ?_ ?_ ?_ ?_ ?_ ?_
  all_goals try refine' And.intro ?_ (And.intro ?_ (And.intro ?_ ?_))
  any_goals k_is
  all_goals kernel_rfl
