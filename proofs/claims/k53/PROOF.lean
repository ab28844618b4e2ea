import PyProof.Rows.All
import Wide.All
import OpenK.AllK
import Wide.FinOn
import Lean
import PyProof.EqAt
import PyProof.EqKinds
import PyProof.TupleCall
import PySem.Challenge.RW_turnarrows_k53_shares_of_walkers
set_option Elab.async false
set_option linter.all false
set_option maxRecDepth 100000
open Array renaming length_toList->bH,getElem?_eq_some_iff->dZ,getElem?_toList->oR,getElem_toList->oX,getElem?_eq_none->tE,find?_toList->vG,append_assoc->vH,toList_push->wF,getD->wG,toList_inj->wO
open Bool renaming and_eq_true->aZ,false_ne_true->bZ,false_eq_true->lD,true_and->pP,and_true->pQ,false_and->rY,and_eq_false_iff->tV,or_eq_false_iff->tZ,and_eq_true_iff->uA,not_eq_true'->wC,eq_false_iff->wD,and_false->xU,or_false->yH
open Classical renaming byContradiction->fU
open False renaming elim->dH
open ForInStep renaming yield->xH
open Function renaming comp_def->nG
open Int renaming toNat_natCast->bI,natAbs_mul->cQ,mul_comm->dC,natCast_mul->dR,natAbs_natCast->eF,eq_of_mul_eq_mul_left->eU,mul_left_comm->fQ,mul_add->iK,zero_mul->jB,neg_mul->jC,mul_zero->jD,mul_neg->jE,mul_assoc->jL,mul_sub->lM,pow_succ->mK,add_zero->mL,zero_add->oO,one_mul->pG,emod_lt_of_pos->pO,mul_le_mul_of_nonneg_right->qI,lt_or_le->qJ,natCast_add->rA,emod_nonneg->rB,fmod_eq_emod_of_nonneg->rG,fdiv_eq_ediv_of_nonneg->rH,zero_sub->tQ,le_trans->tR,add_mul->uL,mul_right_comm->vA,pow_ne_zero->xF,mul_eq_zero->xG,add_assoc->yE
open List renaming getElem?_eq_getElem->aG,range->aJ,getElem?_eq_some_iff->aK,replicate->aM,getElem?_map->aO,size_toArray->aR,length_map->aU,map_cons->aV,mem_cons_of_mem->aX,getElem?_range->aY,mem_cons_self->bB,mem_cons->bF,nil_append->bM,getElem?_set->bO,set->bT,getElem?_eq_none->bY,length_cons->cC,mem_append_right->cG,getElem?_append_left->cH,map_append->cI,mem_singleton->cN,lookup->cO,mem_map->cR,getD_eq_getElem?_getD->cT,length_zipWith->cX,mem_append->cZ,append_assoc->dB,sum_cons->dG,mem_filter->dN,contains_iff_mem->dO,cons_append->dW,all_eq_true->dX,length_append->eE,length_set->eQ,not_mem_nil->eV,map_map->fD,length_take->fJ,map_congr_left->fP,getElem_mem->fV,replicate_succ->gB,range_succ->gC,filterMap_cons->gD,getElem?_append_right->gF,pairwise_cons->gH,getElem?_zipWith->gJ,mem_range->gP,mem_append_left->gR,append_nil->iC,length_drop->iM,length_replicate->iZ,length_filter_le->jA,flatten_cons->jK,mem_of_getElem?->jO,getElem?_take_of_lt->jY,mem_singleton_self->kW,getElem?_replicate->kY,findIdx?_eq_some_iff_getElem->kZ,all_cons->lA,getElem?_set_self->lF,length_range->lL,mem_iff_getElem->lR,getElem?_set_ne->lU,foldl->lY,length_pos_iff->mF,ext_getElem?->nF,countP_cons->nZ,of_mem_zip->oJ,nodup_cons->oK,forIn_cons->oM,Pairwise.sublist->oN,getElem?_mapIdx->oW,findIdx?->pL,filter_filter->pM,append_of_mem->pN,map_nil->qG,ext_getElem->qQ,filter_map->qZ,length_eraseIdx_of_lt->rF,mem_or_eq_of_mem_set->rP,forIn_nil->rQ,findIdx?_eq_none_iff->rR,drop_eq_getElem_cons->rT,length_eq_zero_iff->sW,pairwise_lt_range->sZ,drop_eq_nil_of_le->tD,all_nil->tO,count_le_length->tX,filter_sublist->uJ,filter_eq_self->uK,zip->uX,mem_filterMap->uY,length_mapIdx->uZ,take_sublist->vP,reverse_cons->vQ,nodup_append->vR,getElem_drop->vU,Pairwise.nil->vV,zipIdx_cons->wK,take_length->wL,lookup_cons->wM,filter_cons->wN,zipIdx_nil->wW,length_nil->wX,foldl_cons->wY,count_cons->wZ,drop_zero->xR,dropWhile->xT,map_take->xZ,map_drop->yC,any_cons->yD
open Nat renaming le_refl->aN,ne_of_lt->bC,lt_of_lt_of_le->bL,zero_add->bU,mul_le_mul->cA,le_trans->cM,lt_trans->fB,ne_of_gt->fZ,zero_le->gA,pow_le_pow_right->gQ,mul_ne_zero->iB,lt_or_ge->iY,lt_succ_self->jU,lt_irrefl->kO,le_succ->lJ,gcd->lK,mul_comm->mH,le_of_lt->mJ,not_lt->nD,mul_pos->nR,not_lt_zero->oH,lt_of_le_of_lt->pJ,eq_zero_or_pos->pK,lt_succ_of_lt->qD,succ_le_succ->qP,le_of_eq->tL,gcd_comm->tM,mul_le_mul_left->uI,add_sub_cancel->uW,mod_lt->vO,min_eq_left->wV
open Ne renaming symm->fO
open Option renaming some.inj->bD,map_eq_some_iff->iT,getD_some->qN,getD_none->qO,isSome_iff_exists->sE,bind_some->wJ
open Or renaming inl->bG,inr->lQ
open PyProof renaming Rows.slot_tuple_getitem->dY,Rows.callWith_type1->fH,Rows.IntsAre->nT,Rows.F.plain_set_update_loop->nU,Rows.envOfC->nY,Rows.AllBare->oU,Rows.LSm.kept_iter->sX,Rows.F.entry_set_update_loop->sY
open PySem renaming wpAny_bind->aA,Heap.get?_push_of_some->aB,wpAny_pure->aD,Shared->aF,mainGlobals->aH,Heap.get?_push_size->aL,Heap.lt_size->aP,starEach->aQ,wpAny_mono->aW,Heap.get?_update_other->bA,Program->bJ,Obj.data_mapFields->bK,bootBuiltins->bN,Heap.get?_update_self->bQ,wpAny_newObj_type->bR,sizeLine->bV,Around->bW,Heap.size_push->cB,PassesOwn.never->cD,Value.none->cF,Value.ref->cJ,SetTable->cL,Heap.SameBut.update->cP,wpAny_field->cU,wpAny_callSpecial?_slot->cW,W.kia_one->cY,wpAny_holding->dD,NameKind.free->dF,W.keepIn->dI,Obj.isFreed_of_fields->dJ,wpAny_call_entry->dU,FuncData->eG,wpAny_setField->eH,SetTable.below->eN,W.codeIn->eX,compareOp->eY,Heap.SameBut->fG,binaryOp->fK,F.excBase_ValueError->fL,W.mg_none_of->fM,W.subIn->fW,W.kitOne->fX,W.InstAt->fY,wpAny_seqItems->gK,sizeLine_eq->gM,W.emptyDict->gU,F.type_list_append->gW,F.slot_list_append->gY,Builtin.Tuple.tupleExact->iD,backTo->iG,wpAny_standAt->iH,behindInMarks->iI,mem_of_lookup->iJ,assignEach->iQ,Value.type->iR,Builtin->iU,Str.ofString->iV,W.instObj->iW,W.Looks->jF,Obj.mapSeq->jG,Obj.cls_mapFields->jH,NameKind.cell->jJ,rawInt->jM,F.slot_tuple_iterator_next->jN,Heap.get?_none_of_le->jP,Around.under_plainId->jQ,Builtin.Slice.slicePlaces->jR,W.any_some->jT,wpAny_rule->jV,codeAny_mono->jW,call_meets->jX,F.called_set->jZ,pickOrder->kE,W.mroIn->kI,W.clsIn->kJ,F.slot_int_rmul->lB,Builtin.Range.rangeSize->lC,W.findIn->lE,W.specialIn->lG,W.hasDictIn->lH,W.notCls->lN,swapsWith->lO,Value.builtin->lV,Obj.mapFields->lW,wpAny_call->lX,W.takerIn->mC,W.findObj->mD,W.callWith_K->mG,Calls.spliced_cons->mO,holding->mQ,SetTable.grown->mR,Builtin.Slice.sliceAdjust->mV,scanBound->mW,pyNext->mX,Value.int->mY,F.args_tuple_add_2->nA,AutoSeq1.wpAny_loadPart'->nH,codeAny->nJ,W.excIn->nM,F.slot_list_index->nO,F.plainAttrs_list->nP,F.entry_tuple_add->nQ,BindsTo->nW,F.slot_tuple_mul->oA,W.cellsFrom_some->oE,F.slot_tuple_add->oF,W.takesIn->oG,W.looks_findIn->oV,assign->oY,W.typeIn->oZ,intKind->pA,hashInt->pB,argBest->pC,Keyword->pF,W.isNs_of_in->pH,PyData.eqvAll->pI,setNext->pR,getItem->pU,callerA->pW,Value.bool->pX,W.methodObj->pY,W.kitx_list->pZ,PyData.eqv->qC,F.args_int_rmul_2->qF,IsPart->qH,Code.isFrame->qK,Builtin.ObjectAttr.storeInDict->qL,Around.under->qM,F.slot_int_index->qR,F.entry_int_rmul->qT,F.args_tuple_iterator_next_1->qU,Builtin.divisionGoesByPylong->qW,W.OpenLaw->qY,F.fills_int_mul->rC,F.entry_tuple_iterator_next->rD,Builtin.List.listExtendWith->rE,Calls.Name_function_global->rJ,Builtin.Tuple.tupleTooMany->rK,Builtin.Tuple.tupleItemsOf->rM,Builtin.Slice.sliceApplied->rN,W.lookIn->rO,Heap.MadeExcOf->rW,F.slot_tuple_count->rZ,Builtin.List.listTooLong->sG,Builtin.List.listSameRef->sH,F.type_list_index->sO,F.slot_list_count->sS,F.attr_ValueError->sU,NameKind->sV,Value.str->tG,W.Looks.of_pure->tH,PassesOwn->tK,Flow.next->tU,Value.notImplemented->tW,Calls.evalArgs_plain->tY,Around.frames_deeper->uB,Value.isInt->uC,Value.float->uD,Shared.heap->uE,W.looks_subIn->uF,W.looks_mroIn->uG,W.looks_clsIn->uH,Heap.get?_update_ne->uM,Heap.ExtBut->uN,EntryCells.newEntry->uO,Code.frames->uP,Builtin.Range.small->uQ,W.tail_of_in->uR,W.looks_find->uT,W.codeRec_of->uU,W.check_slot->uV,F.args_tuple_mul_2->vB,Code.quiet_builtin->vC,Calls.Constant_str->vD,SetTable.probe.go->vI,SetTable.below.go->vJ,call->vK,W.kitx_dict->vL,PyData.canLayAll0->vM,Obj.putSet->vN,Heap.get?_push_at->vW,Heap.SameBut.refl->vX,Heap.Ns1.of_empty->vY,F.slot_tuple_rmul->vZ,F.plain_list_iadd->wA,F.entry_tuple_mul->wB,seqSlot_of->wH,W.plainGet->wI,W.kitMeta->wQ,PyData.depthAll->wR,Paired->wU,F.slot_zip_next->xJ,F.slot_set_iter->xK,F.plain_set_new->xM,Code.isCreation->xN,SetTable.Probe->xO,W.kitCls->xQ,Value.ref.inj->xV,Value.isStrOf->xW,SetTable.laid->xX,W.WalkO->xY,Code.isCaller->yF,CmpOf.ints_lt->yG
open Rat renaming mkRat_eq_iff->gG,mkRat_self->mU,mkRat_add_mkRat->pD,num_mkRat->sI,den_mkRat->sJ,zero_mkRat->xP
open Sum renaming inr->lZ,inl->qX
open True renaming intro->mZ
noncomputable section
open PySem.W (nsIn mg_of keepIn fnOf codeIn findIn mg_none_of)
abbrev Fg9:=PySem.W.Frag
abbrev LL9:=List (List Int)
section
open PySem PySem.Spec PyProof.Rows
namespace L2
abbrev Key:=Sum Int Str
def avd:Key->Value->Bool
 | .inl k,v=>uC k v
 | .inr x,v=>xW x v
noncomputable def keyH(w:World):Key->Int
 | .inl k=>pB k
 | .inr x=>hashStr w x
theorem mj:∀{k:Key} {v:Value},avd k v=true->(∃i t,k=qX i/\v=mY i t)∨(∃x t,k=lZ x/\v=tG x t)
 | .inl i,v,h=>by
  obtain⟨t,e⟩:=Value.isInt_shape (k:=i) (v:=v) h;exact .inl ⟨i,t,rfl,e⟩
 | .inr x,v,h=>by
  obtain⟨t,e⟩:=Value.isStrOf_shape (x:=x) (v:=v) h;exact .inr ⟨x,t,rfl,e⟩
theorem ard(x:Str)(t:Tok):avd (.inr x) (.str x t)=true:=by simp[avd,xW]
theorem a2i(a b:Int):decide ((qX a:Key)=qX b)=(a==b):=by
 by_cases e:a=b
 ·subst e;simp
 ·have h:¬(qX a:Key)=qX b:=fun q=>e (Sum.inl.inj q)
  rw[decide_eq_false h];exact(beq_eq_false_iff_ne.mpr e).symm
theorem a2f(a b:Str):decide ((lZ a:Key)=lZ b)=decide (a=b):=by
 by_cases e:a=b
 ·subst e;simp
 ·have h:¬(lZ a:Key)=lZ b:=fun q=>e (Sum.inr.inj q)
  rw[decide_eq_false h,decide_eq_false e]
theorem a2h(a:Int)(b:Str):decide ((qX a:Key)=lZ b)=false:=decide_eq_false (fun q=>nomatch q)
theorem a2g(a:Str)(b:Int):decide ((lZ a:Key)=qX b)=false:=decide_eq_false (fun q=>nomatch q)
def ah8(prog:bJ)(w:World):PySem.KeyKind prog w Key where
 is:=avd
 hash:=keyH w
 inj:=fun v a b ha hb=>by
  rcases mj ha with⟨i,t,rfl,rfl⟩ | ⟨x,t,rfl,rfl⟩
  ·rcases mj hb with⟨j,u,rfl,e⟩ | ⟨y,u,rfl,e⟩
   ·injection e with e1 _;rw[e1]
   ·exact nomatch e
  ·rcases mj hb with⟨j,u,rfl,e⟩ | ⟨y,u,rfl,e⟩
   ·exact nomatch e
   ·injection e with e1 _;rw[e1]
 byValue:=fun k v h=>by
  rcases mj h with⟨i,t,rfl,rfl⟩ | ⟨x,t,rfl,rfl⟩ <;> rfl
 pyHash:=fun hv h=>by
  rcases mj hv with⟨i,t,rfl,rfl⟩ | ⟨x,t,rfl,rfl⟩
  ·exact wpAny_pyHash_int h
  ·exact wpAny_pyHash_str h
 eqBool:=fun hu hv h=>by
  rcases mj hu with⟨i,t,rfl,rfl⟩ | ⟨x,t,rfl,rfl⟩
  ·rcases mj hv with⟨j,u,rfl,rfl⟩ | ⟨y,u,rfl,rfl⟩
   ·rw[a2i] at h;exact wpAny_eqBool_int h
   ·rw[a2h] at h;exact SeqAt.EqAt.int_str i t y u _ _ _ _ h
  ·rcases mj hv with⟨j,u,rfl,rfl⟩ | ⟨y,u,rfl,rfl⟩
   ·rw[a2g] at h;exact SeqAt.EqAt.str_int x t j u _ _ _ _ h
   ·rw[a2f] at h;exact wpAny_eqBool_str h
 «strs» := fun k x t v h=>by
  rcases mj h with⟨i,u,rfl,e⟩ | ⟨y,u,rfl,e⟩
  ·exact nomatch e
  ·injection e with e1 _
   subst e1;cases v <;> rfl
theorem ak8(prog:bJ)(w:World)(x:Str)(t:Tok):(ah8 prog w).is (.inr x) (.str x t)=true:=ard x t
def IsTp(h:Heap)(a:Addr)(items:Array Value):Prop:=∃o,h.get? a=some o/\o.cls=.type "tuple" /\ o.dict=none/\∃n,o.data=.seq items n
theorem IsTp.tup{h:Heap}{a:Addr}{items:Array Value}(x:IsTp h a items):IsTup h a items:=let ⟨o,e,c,_,n,d⟩:=x;⟨o,e,c,n,d⟩
theorem IsTp.new(h:Heap)(items:Array Value):IsTp (h.push { cls:=.type "tuple", data:=.seq items }) h.objs.size items:=⟨_,aL _ rfl,rfl,rfl,_,rfl⟩
inductive V where
 | non | bl (b:Bool) | int (i:Int) | str (x:Str) | byt (b:Array UInt8) | flt (b:UInt64) | ref (a:Addr) | ty (n:String)
 deriving DecidableEq
def RelV:V->Value->Prop
 | .non,u=>u=cF
 | .bl b,u=>u=pX b
 | .int i,u=>∃t,u=mY i t
 | .str x,u=>∃t,u=tG x t
 | .byt b,u=>∃t,u=Value.bytes b t
 | .flt b,u=>∃t,u=uD b t
 | .ref a,u=>u=cJ a
 | .ty n,u=>u=iR n
abbrev Vals:List V->List Value->Prop:=wU RelV
theorem Vals.length{xs:List V}{us:List Value}(r:Vals xs us):xs.length=us.length:=Paired.length r
theorem Vals.get:∀{xs:List V} {us:List Value} {i:Nat} {x:V},Vals xs us->xs[i]? = some x->∃u,us[i]? = some u/\RelV x u
 | _,_,_,_,.nil,e=>by simp at e
 | _,_,0,_,.cons r _,e=>by simp at e;subst e;exact⟨_,rfl,r⟩
 | _,_,i+1,x,.cons _ t,e=>by
  obtain⟨u,h1,h2⟩:=Vals.get (i:=i) (x:=x) t (by simpa using e)
  exact⟨u,by simpa using h1,h2⟩
theorem Vals.set{x:V}{u:Value}(r:RelV x u):∀{xs:List V} {us:List Value} (i:Nat),Vals xs us->Vals (xs.set i x) (us.set i u)
 | _,_,_,.nil=>.nil
 | _,_,0,.cons _ t=>.cons r t
 | _,_,i+1,.cons q t=>.cons q (Vals.set r i t)
theorem Vals.append:∀{xs ys:List V} {us ws:List Value},Vals xs us->Vals ys ws->Vals (xs++ys) (us++ws)
 | _,_,_,_,.nil,s=>s
 | _,_,_,_,.cons r t,s=>.cons r (Vals.append t s)
theorem Vals.take:∀{xs:List V} {us:List Value} (n:Nat),Vals xs us->Vals (xs.take n) (us.take n)
 | _,_,0,_=>.nil
 | _,_,_+1,.nil=>.nil
 | _,_,n+1,.cons r t=>.cons r (Vals.take n t)
theorem Vals.drop:∀{xs:List V} {us:List Value} (n:Nat),Vals xs us->Vals (xs.drop n) (us.drop n)
 | _,_,0,r=>r
 | _,_,_+1,.nil=>.nil
 | _,_,n+1,.cons _ t=>Vals.drop n t
def RelO:Option V->Option Value->Prop
 | some v,some u=>RelV v u
 | none,none=>True
 | _,_=>False
def KV{κ:Type}:List (κ×V)->List (κ×Value)->Prop:=wU fun(p:κ×V) (q:κ×Value)=>p.1=q.1/\RelV p.2 q.2
noncomputable def kV:Key->V
 | .inl i=>.int i
 | .inr x=>.str x
inductive HO where
 | lst (xs:List V)
 | tup (xs:List V)
 | dK (kvs:List (Key×V)) | dT (kvs:List (List Key×V))
 | set (S:Int->Bool) (n:Nat)
 | ins (C dx:Addr) (fs:List (Str×V))
 | own (x:Addr)
 | xd (fs:List (Str×V))
 | met (f x:Addr)
 | rng (lo hi:Int)
 | frz (o:Obj) (u:HO)
 | tbl (ps:Array Value)
 | ext (φ:Heap->Prop)
abbrev Hp:=Addr->Option HO
def upd(H:Hp)(a:Addr)(o:HO):Hp:=fun b=>if b=a then some o else H b
theorem gq{H:Hp}{a:Addr}{o:HO}:upd H a o a=some o:=by unfold upd;rw[if_pos rfl]
theorem dj{H:Hp}{a b:Addr}{o:HO}(h:b≠a):upd H a o b=H b:=by unfold upd;rw[if_neg h]
theorem aw7{H:Hp}{a:Addr}{o u:HO}:upd (upd H a o) a u=upd H a u:=by
 funext b;unfold upd;split <;> rfl
theorem ji{H:Hp}{a b:Addr}{o:HO}(h:H a=some o)(h':H b=none):a≠b:=by
 intro e;subst e;rw[h] at h';cases h'
section
variable(P:bJ)(w:World)
def v9(H:Hp)(h:Heap)(a:Addr):HO->Prop
 | .lst xs=>xs.length<=bV/\∃(its:List Value) (n:Nat),Vals xs its/\h.get? a=some { cls:=.type "list", data:=.seq its.toArray n }
 | .tup xs=>xs.length<=bV/\∃its:List Value,Vals xs its/\IsTp h a its.toArray
 | .dK kvs=>kvs.length<=bV/\(a==sysModules)=false/\∃vs,KV kvs vs/\h.DictOf (ah8 P w) a vs
 | .dT kvs=>kvs.length<=bV/\(a==sysModules)=false/\∃xs:List (List Key×Addr×Value),
   wU (fun(p:List Key×V) (q:List Key×Addr×Value)=>p.1=q.1/\H q.2.1=some (.tup (p.1.map kV))/\RelV p.2 q.2.2) kvs xs /\
   ∃o es ep,h.get? a=some o/\o.ExactDict/\o.data=.dict es ep/\es.toList=xs.map (entryOfKey (tupleKind (ah8 P w)))/\(xs.map (·.1)).Nodup
 | .set S n=>h.SetOf (pA P w) a S n
 | .ins C dx fs=>H dx=some (.own a)/\fs.length<=1000/\dx≠a/\h.get? a=some (iW C dx) /\
   ∃mA,h.Ns1 dx mA/\(∀f,RelO (fs.lookup f) (mA f))/\PySem.Within mA (fs.map (·.1))
 | .own _=>∃o,h.get? a=some o
 | .xd fs=>∃mA,h.Ns1 a mA/\∀f,RelO (fs.lookup f) (mA f)
 | .rng lo hi=>∃t u v,h.get? a=some { cls:=.type "range", data:=.fields #[.int lo t,.int hi u,.int 1 v] }
 | .frz o u=>h.get? a=some o/\v9 H h a u
 | .tbl ps=>h.get? a=some { cls:=.none,data:=.fields ps }
 | .met f x=>h.get? a=some (pY (.ref f) (.ref x))
 | .ext φ=>φ h/\(∃o,h.get? a=some o)/\∀h1 h2:Heap,φ h1->(∀o,h1.get? a=some o->h2.get? a=some o)->φ h2
def HOk(H:Hp)(h:Heap):Prop:=∀a o,H a=some o->v9 P w H h a o
end
section
variable{P:bJ}{w:World}{H H':Hp}{h h':Heap}{a:Addr}{o:HO}
theorem v9.lt(x:v9 P w H h a o):a < h.objs.size:=by
 cases o with
 | lst xs=>obtain⟨_,_,_,_,e⟩:=x;exact aP e
 | tup xs=>obtain⟨_,_,_,p⟩:=x;exact p.tup.lt
 | dK kvs=>obtain⟨_,_,_,_,o,_,_,e,_⟩:=x;exact aP e
 | dT kvs=>obtain⟨_,_,_,_,o,_,_,e,_⟩:=x;exact aP e
 | set S n=>obtain⟨o,_,_,_,e,_⟩:=x;exact aP e
 | ins C dx fs=>obtain⟨_,_,_,e,_⟩:=x;exact aP e
 | own y=>obtain⟨_,e⟩:=x;exact aP e
 | xd fs=>obtain⟨_,⟨_,_,_,e,_⟩,_⟩:=x;exact aP e
 | rng lo hi=>obtain⟨_,_,_,e⟩:=x;exact aP e
 | frz ob u=>obtain⟨e,_⟩:=x;exact aP e
 | tbl ps=>exact aP (show h.get? a=some _ from x)
 | met f y=>exact aP (show h.get? a=some _ from x)
 | ext φ=>obtain⟨_,⟨_,e⟩,_⟩:=x;exact aP e
theorem Paired.mapP{α β:Type}{F G:α->β->Prop}:∀{l₁:List α} {l₂:List β},wU F l₁ l₂->(∀a b,F a b->G a b)->wU G l₁ l₂
 | _,_,.nil,_=>.nil
 | _,_,.cons r t,f=>.cons (f _ _ r) (Paired.mapP t f)
theorem v9.stay(x:v9 P w H h a o)(k:∀b u,(b=a∨H b=some (.own a))->h.get? b=some u->h'.get? b=some u)
  (ho:∀b,H b=some (.own a)->H' b=some (.own a)) (ht:∀b xs,H b=some (.tup xs)->H' b=some (.tup xs)):v9 P w H' h' a o:=by
 induction o with
 | lst xs=>obtain⟨z,its,n,r,e⟩:=x;exact⟨z,its,n,r,k _ _ (.inl rfl) e⟩
 | tup xs=>obtain⟨z,its,r,ob,e,c⟩:=x;exact⟨z,its,r,ob,k _ _ (.inl rfl) e,c⟩
 | dK kvs=>obtain⟨z,y,vs,r,ob,es,ep,e,c⟩:=x;exact⟨z,y,vs,r,ob,es,ep,k _ _ (.inl rfl) e,c⟩
 | dT kvs =>
  obtain⟨z,y,xs,r,ob,es,ep,e,c⟩:=x;exact⟨z,y,xs,Paired.mapP r fun p q z=>⟨z.1,ht _ _ z.2.1,z.2.2⟩,ob,es,ep,k _ _ (.inl rfl) e,c⟩
 | set S n=>obtain⟨ob,es,ep,t,e,c⟩:=x;exact⟨ob,es,ep,t,k _ _ (.inl rfl) e,c⟩
 | ins C dx fs =>
  obtain⟨d,z,ne,e,mA,⟨od,es,ep,e2,c⟩,r⟩:=x;exact⟨ho _ d,z,ne,k _ _ (.inl rfl) e,mA,⟨od,es,ep,k _ _ (.inr d) e2,c⟩,r⟩
 | own y=>obtain⟨ob,e⟩:=x;exact⟨ob,k _ _ (.inl rfl) e⟩
 | xd fs=>obtain⟨mA,⟨od,es,ep,e,c⟩,r⟩:=x;exact⟨mA,⟨od,es,ep,k _ _ (.inl rfl) e,c⟩,r⟩
 | rng lo hi=>obtain⟨t,u,v,e⟩:=x;exact⟨t,u,v,k _ _ (.inl rfl) e⟩
 | frz ob u ih=>obtain⟨e,q⟩:=x;exact⟨k _ _ (.inl rfl) e,ih q⟩
 | tbl ps =>
  have e:h.get? a=some { cls:=.none,data:=.fields ps }:=x;show h'.get? a=some { cls:=.none,data:=.fields ps };exact k a _ (.inl rfl) e
 | met f y =>
  have e:h.get? a=some (pY (.ref f) (.ref y)):=x;show h'.get? a=some (pY (.ref f) (.ref y));exact k a _ (.inl rfl) e
 | ext φ=>obtain⟨p,⟨o,e⟩,st⟩:=x;exact⟨st _ _ p fun o q=>k _ _ (.inl rfl) q,⟨o,k _ _ (.inl rfl) e⟩,st⟩
theorem HOk.lt(x:HOk P w H h)(e:H a=some o):a < h.objs.size:=(x a o e).lt
theorem HOk.fresh(x:HOk P w H h)(e:h.objs.size<=a):H a=none:=by
 cases q:H a with
 | none=>rfl
 | some u=>exact absurd (bL (x.lt q) e) (kO _)
theorem HOk.kept(x:HOk P w H h)(k:∀b u,h.get? b=some u->h'.get? b=some u):HOk P w H h':=fun a o e =>
 (x a o e).stay (fun b u _ q=>k b u q) (fun _ q=>q) fun _ _ q=>q
theorem HOk.laid(x:HOk P w H h)(k:∀b u,h.get? b=some u->h'.get? b=some u)(hp:h.objs.size<=a)(new:v9 P w (upd H a o) h' a o):HOk P w (upd H a o) h':=fun b u e=>by
 have hn:=x.fresh hp
 by_cases hb:b=a
 ·subst hb;rw[gq] at e;cases e;exact new
 ·rw[dj hb] at e;exact(x b u e).stay (fun c v _ q=>k c v q) (fun c q=>by rw[dj (ji q hn)];exact q) fun c xs q=>by rw[dj (ji q hn)];exact q
end
def Rd(H:Hp)(a:Addr)(u:HO):Prop:=H a=some u∨∃o,H a=some (.frz o u)
theorem Rd.of{H:Hp}{a:Addr}{u:HO}(h:H a=some u):Rd H a u:=.inl h
theorem Rd.ok{P:bJ}{w:World}{H:Hp}{h:Heap}{a:Addr}{u:HO}(r:Rd H a u)(x:HOk P w H h):v9 P w H h a u:=by
 rcases r with r | ⟨o,r⟩
 ·exact x a u r
 ·obtain⟨_,q⟩:=x a _ r;exact q
def Mut:Option HO->Prop
 | some (.lst _)=>True
 | some (.dK _)=>True
 | some (.dT _)=>True
 | some (.set _ _)=>True
 | some (.ins _ _ _)=>True
 | some (.ext _)=>True
 | _=>False
section
variable{P:bJ}{w:World}{H:Hp}{h h':Heap}{x e:Addr}{o':HO}
theorem HOk.write(ok:HOk P w H h)(mu:Mut (H x))(he:e=x∨H e=some (.own x))(k:∀b u,b≠e->h.get? b=some u->h'.get? b=some u)(heo:∃u,h'.get? e=some u)
  (new:v9 P w (upd H x o') h' x o'):HOk P w (upd H x o') h':=fun b u q=>by
 have nown:∀c y,H c=some (.own y)->c≠x:=fun c y r z=>by subst z;rw[r] at mu;exact mu
 have ntup:∀c xs,H c=some (.tup xs)->c≠x:=fun c xs r z=>by subst z;rw[r] at mu;exact mu
 by_cases hb:b=x
 ·subst hb;rw[gq] at q;cases q;exact new
 ·rw[dj hb] at q
  by_cases hbe:b=e
  ·have q':H b=some (.own x):=by
    rcases he with z | z
    ·exact absurd (hbe.trans z) hb
    ·rw[hbe];exact z
   rw[q] at q';cases q';obtain⟨v,hv⟩:=heo;exact⟨v,by rw[hbe];exact hv⟩
  ·refine(ok b u q).stay (fun c v hc r=>k c v ?_ r) (fun c r=>by rw[dj (nown c b r)];exact r) fun c xs r=>by rw[dj (ntup c xs r)];exact r
   rcases hc with rfl | hc
   ·exact hbe
   ·rintro rfl
    rcases he with z | z
    ·exact nown c b hc z
    ·rw[hc] at z;cases z;exact hb rfl
end
structure Un (fs ex:List Addr) (H H':Hp) (h h':Heap):Prop where
 keep:∀b o,h.get? b=some o->H b=none->b∉fs->b∉ex->h'.get? b=some o
 slot:∀b o,h.get? b=some o->H b=none->b∈fs->b∉ex->∃sl,h'.get? b=some { o with slots:=sl }
 free:∀b o,h.get? b=some o->H b=none->b∉ex->H' b=none
 there:∀b o,h.get? b=some o->b∉ex->∃o',h'.get? b=some o'
 tups:∀b xs,H b=some (.tup xs)->H' b=some (.tup xs)
 frzs:∀b o u,H b=some (.frz o u)->H' b=some (.frz o u)
 tbls:∀b ps,H b=some (.tbl ps)->∃more,H' b=some (.tbl (ps++more))
section
variable{fs fs' ex ex':List Addr}{H H1 H2:Hp}{h h1 h2 h':Heap}{a x e:Addr}{o:HO}
theorem Un.any(u:Un fs ex H H1 h h1){b:Addr}{ob:Obj}(q:h.get? b=some ob)(n:H b=none)(hx:b∉ex):∃sl,h1.get? b=some { ob with slots:=sl }:=by
 by_cases hb:b∈fs
 ·exact u.slot b ob q n hb hx
 ·exact⟨ob.slots,u.keep b ob q n hb hx⟩
theorem Un.trans(a:Un fs ex H H1 h h1)(b:Un fs ex H1 H2 h1 h2):Un fs ex H H2 h h2 where
 keep:=fun c ob q n hc hx=>b.keep c ob (a.keep c ob q n hc hx) (a.free c ob q n hx) hc hx
 slot:=fun c ob q n hc hx=>by
  obtain⟨sl,e1⟩:=a.slot c ob q n hc hx;obtain⟨sl',e2⟩:=b.slot c _ e1 (a.free c ob q n hx) hc hx;exact⟨sl',e2⟩
 free:=fun c ob q n hx=>by
  obtain⟨o',e1⟩:=a.there c ob q hx;exact b.free c o' e1 (a.free c ob q n hx) hx
 there:=fun c ob q hx=>by
  obtain⟨o',e1⟩:=a.there c ob q hx;exact b.there c o' e1 hx
 tups:=fun c xs q=>b.tups c xs (a.tups c xs q)
 frzs:=fun c ob xs q=>b.frzs c ob xs (a.frzs c ob xs q)
 tbls:=fun c ps q=>by
  obtain⟨m1,e1⟩:=a.tbls c ps q;obtain⟨m2,e2⟩:=b.tbls c _ e1;exact⟨m1++m2,by rw[e2,vH]⟩
theorem Un.kept(k:∀b u,h.get? b=some u->h'.get? b=some u):Un fs ex H H h h' :=
 ⟨fun b ob q _ _ _=>k b ob q,fun b ob q _ _ _=>⟨ob.slots,k b ob q⟩,fun _ _ _ n _=>n,fun b ob q _=>⟨ob,k b ob q⟩,fun _ _ q=>q,fun _ _ _ q=>q,fun _ ps q=>⟨#[],by rw[q];simp⟩⟩
theorem Un.refl:Un fs ex H H h h:=Un.kept fun _ _ q=>q
theorem Un.laid(k:∀b u,h.get? b=some u->h'.get? b=some u)(hp:h.objs.size<=a)(hn:H a=none):Un fs ex H (upd H a o) h h' where
 keep:=fun b u q _ _ _=>k b u q
 slot:=fun b u q _ _ _=>⟨u.slots,k b u q⟩
 free:=fun b u q n _=>by rw[dj (bC (bL (aP q) hp))];exact n
 there:=fun b u q _=>⟨u,k b u q⟩
 tups:=fun b xs q=>by rw[dj (ji q hn)];exact q
 frzs:=fun b u xs q=>by rw[dj (ji q hn)];exact q
 tbls:=fun b ps q=>⟨#[],by rw[dj (ji q hn),q];simp⟩
theorem Un.write(mu:Mut (H x))(he:e=x∨H e=some (.own x))(k:∀b u,b≠e->h.get? b=some u->h'.get? b=some u)(heo:∃u,h'.get? e=some u):Un fs ex H (upd H x o) h h':=by
 have hx:∀b,H b=none->b≠x:=fun b n z=>by subst z;rw[n] at mu;exact mu
 have hb:∀b,H b=none->b≠e:=fun b n z=>by
  subst z;rcases he with r | r
  ·exact hx b n r
  ·rw[n] at r;cases r
 have hm:∀b u,H b=some u->¬Mut (some u)->b≠x:=fun b u q nm z=>by subst z;rw[q] at mu;exact nm mu
 refine⟨fun b u q n _ _=>k b u (hb b n) q,fun b u q n _ _=>⟨u.slots,k b u (hb b n) q⟩,fun b u q n _=>by rw[dj (hx b n)];exact n,fun b u q _ =>?_,
  fun b xs q=>by rw[dj (hm b _ q fun z=>z)];exact q,fun b u xs q=>by rw[dj (hm b _ q fun z=>z)];exact q,fun b ps q=>⟨#[],by rw[dj (hm b _ q fun z=>z),q];simp⟩⟩
 by_cases hbe:b=e
 ·subst hbe;exact heo
 ·exact⟨u,k b u hbe q⟩
theorem Un.mono(u:Un fs ex H H1 h h1)(hs:∀b∈fs,b∈fs')(hx:∀b∈ex,b∈ex'):Un fs' ex' H H1 h h1 :=
 ⟨fun b ob q n hb he=>u.keep b ob q n (fun z=>hb (hs b z)) fun z=>he (hx b z),fun _ _ q n _ he=>u.any q n fun z=>he (hx _ z),fun b ob q n he=>u.free b ob q n fun z=>he (hx b z),fun b ob q he=>u.there b ob q fun z=>he (hx b z),u.tups,u.frzs,u.tbls⟩
end
def trk(h:Heap)(H:Hp):List Addr:=(aJ h.objs.size).filter fun a=>(H a).isSome
def hidT(h:Heap)(H:Hp):Heap:=PySem.W.hideAll h (trk h H)
theorem arn(h:Heap)(H:Hp):(hidT h H).objs.size=h.objs.size:=PySem.W.hideAll_size _ _
theorem avm{h:Heap}{H:Hp}{b:Addr}{o:Obj}(e:h.get? b=some o)(n:H b=none):(hidT h H).get? b=some o :=
 PySem.W.hideAll_get _ e fun hm=>by
  have q:(H b).isSome=true:=(dN.mp hm).2;rw[n] at q;simp at q
theorem ayf{h:Heap}{H:Hp}{b:Addr}{o:Obj}(e:(hidT h H).get? b=some o):h.get? b=some o/\H b=none:=by
 have e':h.get? b=some o:=PySem.W.of_hideAll (trk h H) e;refine⟨e',?_⟩;cases q:H b with
 | none=>rfl
 | some x =>
  have hm:b∈trk h H:=dN.mpr ⟨List.mem_range.mpr (aP e'),by simp[q]⟩
  have z:(hidT h H).get? b=none:=PySem.W.hideAll_none (trk h H) hm;rw[z] at e;cases e
def azu(g h:Heap)(L:Addr):List (Addr×Obj):=(aJ h.objs.size).filterMap fun a=>if a=L∨(g.get? a).isSome=true then none else (h.get? a).map fun o=>(a,o)
def rest(g h:Heap)(L d:Addr):List (Addr×Obj):=(azu g h L).filter fun p=>decide (p.1≠d)
structure Mod (K:Fg9) (mg:Str->Option Value) (base:Heap):Prop where
 kin:K.In base
 glob:base.Ns aH mg
 blt:∃mb,base.Ns builtinsNs mb/\∀x:Str,x ≠ "__name__" -> mb x=bN x
 nolimit:base.NoLimit
structure Cx where
 prog:bJ
 w:World
 K:Fg9
 mg:Str->Option Value
 base:Heap
 A:bW
 N:List Str
 s₀:aF
 H₀:Hp
 env:Env
 outer:List Env
 stack:List Env
 ex:List Addr
 fn:Str->Bool
 calm:Bool
 pn:List (Addr×Obj)
 xe:Value->aF->Prop
def frs(l:List Env):List Addr:=l.filterMap (·.frame)
abbrev Cx.fs(X:Cx):List Addr:=frs X.outer
def Vis(sc:Scope)(x:Str):Prop:=sc.names.lookup x=some .local∨sc.names.lookup x=some .cell∨sc.names.lookup x=some .free
def Loc(sc:Scope)(x:Str):Prop:=sc.names.lookup x=some .local∨sc.names.lookup x=some .cell
def Look(env:Env)(h:Heap)(m:Str->Option Value)(x:Str)(u:Value):Prop :=
 (env.kindOf x=some .local/\m x=some u)∨((env.kindOf x=some .cell∨env.kindOf x=some .free)/\∃c,env.cells.lookup x=some c/\h.IsCell c (some u))
structure Cx.Ok (X:Cx):Prop where
 mod:Mod X.K X.mg X.base
 kind:X.env.scope.kind=.function
 glob:X.env.globals=aH
 blt:X.env.builtins=builtinsNs
 above:X.s₀.heap.objs.size<=X.env.locals
 inj:∀x y c,X.env.cells.lookup x=some c->X.env.cells.lookup y=some c->x=y
 has:∀x,(X.env.kindOf x=some .cell∨X.env.kindOf x=some .free)->∃c,X.env.cells.lookup x=some c
 cab:∀x c,X.fn x=true->X.env.cells.lookup x=some c->X.s₀.heap.objs.size<=c
 hd:X.calm=true->X.A.handled=none
 frames:X.A.frames=some X.stack
 stk:X.stack=X.outer∨(X.stack=X.env::X.outer/\X.env.frame=some X.env.locals)
 exf:∀b∈X.ex,b≠X.env.locals/\∀x c,X.env.cells.lookup x=some c->c≠b
 bs:∀b o,X.base.get? b=some o->X.s₀.heap.get? b=some o/\X.H₀ b=none
 bsz:X.base.objs.size<=X.s₀.heap.objs.size
 noex:∀b o,X.base.get? b=some o->b∉X.ex
 exfs:∀b∈X.ex,b∉X.fs
 funs:X.s₀.heap.FunFrames X.base X.outer
 frf:∀b∈X.fs,X.H₀ b=none
structure Inv (X:Cx) (zv:List (Addr×Obj)) (σ:List (Option V)) (H:Hp) (s:aF):Prop where
 ok:X.Ok
 os:s.os=X.s₀.os
 bare:oU s.gens
 base:Un X.fs X.ex X.H₀ H X.s₀.heap s.heap
 loc:∃m,s.heap.Ns X.env.locals m/\∀(i:Nat) (x:Str) (v:V),X.N[i]? = some x->σ[i]? = some (some v)->Vis X.env.scope x->∃u,RelV v u/\Look X.env s.heap m x u
 cell:∀x c,X.env.cells.lookup x=some c->∃v,s.heap.IsCell c v
 free:H X.env.locals=none
 freeC:∀x c,X.env.cells.lookup x=some c->H c=none
 pin:∀p∈X.pn++zv,s.heap.get? p.1=some p.2/\H p.1=none/\p.1≠X.env.locals/\p.1∉X.fs/\∀v,p.2.data≠.cell v
 hok:HOk X.prog X.w H s.heap
 len:σ.length=X.N.length
section
variable{X:Cx}{zv:List (Addr×Obj)}{σ:List (Option V)}{H H':Hp}{s:aF}{h':Heap}
theorem Cx.Ok.nofr(ok:X.Ok){b:Addr}{o:Obj}(e:X.base.get? b=some o):b∉X.fs:=fun hb=>by
 have:=(ok.funs.mem hb).1;rw[e] at this;cases this
theorem Inv.bs(I:Inv X zv σ H s):∀b o,X.base.get? b=some o->s.heap.get? b=some o/\H b=none:=fun b o e =>
 ⟨I.base.keep b o (I.ok.bs b o e).1 (I.ok.bs b o e).2 (I.ok.nofr e) (I.ok.noex b o e),I.base.free b o (I.ok.bs b o e).1 (I.ok.bs b o e).2 (I.ok.noex b o e)⟩
theorem Inv.bk(I:Inv X zv σ H s):∀b o,X.base.get? b=some o->s.heap.get? b=some o:=fun b o e=>(I.bs b o e).1
theorem Inv.mod(I:Inv X zv σ H s):Mod X.K X.mg X.base:=I.ok.mod
theorem Inv.kIn(I:Inv X zv σ H s):X.K.In s.heap:=I.ok.mod.kin.keeps I.bk
theorem Inv.nolimit(I:Inv X zv σ H s):s.heap.NoLimit:=I.ok.mod.nolimit.keeps I.bk
theorem Inv.fr(I:Inv X zv σ H s):∃m,Fr X.base X.env.locals s.heap m :=
 let ⟨m,hn,_⟩:=I.loc
 ⟨m,hn,I.bk,cM I.ok.bsz I.ok.above⟩
theorem Inv.lt(I:Inv X zv σ H s):X.env.locals < s.heap.objs.size:=let ⟨_,hn,_⟩:=I.loc;hn.lt
theorem Inv.sz(I:Inv X zv σ H s):X.s₀.heap.objs.size<=s.heap.objs.size:=cM I.ok.above (mJ I.lt)
theorem Inv.nofs(I:Inv X zv σ H s){a:Addr}(h:s.heap.objs.size<=a):a∉X.fs:=fun hb=>by
 obtain⟨_,o,ho,_⟩:=I.ok.funs.mem hb;exact absurd (bL (aP ho) (cM I.sz h)) (kO _)
theorem Inv.cne(I:Inv X zv σ H s):∀x c,X.env.cells.lookup x=some c->c≠X.env.locals:=fun x c e z=>by
 obtain⟨v,o,ho,hd⟩:=I.cell x c e;obtain⟨m,⟨o',es,ep,ho',hd',_⟩,_⟩:=I.loc;rw[z,ho'] at ho;cases ho;rw[hd'] at hd;cases hd
theorem Inv.funs(I:Inv X zv σ H s):s.heap.FunFrames X.base X.outer:=by
 have all:∀(l:List Env),(∀b∈frs l,b∈X.fs)->X.s₀.heap.FunFrames X.base l->s.heap.FunFrames X.base l:=by
  intro l
  induction l with
  | nil=>intro _ _;trivial
  | cons env r ih =>
   intro hs hl;obtain⟨hk,⟨L,o,hf,hn,ho,hd⟩,hr⟩:=hl;have hL:L∈X.fs:=hs L (by unfold frs;rw[gD,hf];exact bB)
   obtain⟨sl,e⟩:=I.base.slot L o ho (I.ok.frf L hL) hL fun z=>I.ok.exfs L z hL
   exact⟨hk,⟨L,_,hf,hn,e,hd⟩,ih (fun b hb=>hs b (by unfold frs;rw[gD,hf];exact aX _ hb)) hr⟩
 exact all X.outer (fun _ hb=>hb) I.ok.funs
theorem Inv.stack(I:Inv X zv σ H s):s.heap.FunFrames X.base X.stack:=by
 rcases I.ok.stk with e | ⟨e,hf⟩
 ·rw[e];exact I.funs
 ·rw[e];obtain⟨m,hn,_⟩:=I.loc;refine .cons (by rw[I.ok.kind];decide) hf hn ?_ I.funs
  exact jP (cM I.ok.bsz I.ok.above)
theorem Inv.stkSub(I:Inv X zv σ H s):∀b∈frs X.stack,b∈X.env.locals::X.fs:=fun b hb=>by
 rcases I.ok.stk with e | ⟨e,hf⟩
 ·rw[e] at hb;exact aX _ hb
 ·rw[e] at hb;unfold frs at hb;rw[gD,hf] at hb;exact hb
theorem Inv.stkFree(I:Inv X zv σ H s):∀b∈frs X.stack,H b=none:=fun b hb=>by
 rcases bF.mp (I.stkSub b hb) with e | hb
 ·rw[e];exact I.free
 ·obtain⟨_,o,ho,_⟩:=I.ok.funs.mem hb;exact I.base.free b o ho (I.ok.frf b hb) fun z=>I.ok.exfs b z hb
theorem Inv.step{g':Array GenState}{t':Nat}{d':Drawn}{ch:List Addr}(I:Inv X zv σ H s)
  (hch:∀b∈ch,(b∈X.ex∨X.s₀.heap.objs.size<=b)/\b≠X.env.locals/\(∀x c,X.env.cells.lookup x=some c->c≠b)/\∀p∈X.pn++zv,p.1≠b)
  (keep:∀b o,b≠X.env.locals->b∉X.fs->b∉ch->s.heap.get? b=some o->H b=none->h'.get? b=some o)
  (slot:∀b o,b≠X.env.locals->b∈X.fs->b∉ch->s.heap.get? b=some o->H b=none->∃sl,h'.get? b=some { o with slots:=sl }) (free:∀b o,b∉ch->s.heap.get? b=some o->H b=none->H' b=none)
  (there:∀b o,b∉ch->s.heap.get? b=some o->∃o',h'.get? b=some o')
  (tups:∀b xs,H b=some (.tup xs)->H' b=some (.tup xs)) (frzs:∀b o u,H b=some (.frz o u)->H' b=some (.frz o u)) (tbls:∀b ps,H b=some (.tbl ps)->∃more,H' b=some (.tbl (ps++more)))
  (ns:∀m,s.heap.Ns X.env.locals m->h'.Ns X.env.locals m) (hok:HOk X.prog X.w H' h') (hg:oU g') :
  Inv X zv σ H' { s with heap:=h',gens:=g',drawn:=d',toks:=t' }:=by
 have neL:∀b o,X.s₀.heap.get? b=some o->b≠X.env.locals:=fun b o e=>bC (bL (aP e) I.ok.above)
 have neC:∀b o,X.s₀.heap.get? b=some o->b∉X.ex->b∉ch:=fun b o e hx hb=>by
  rcases(hch b hb).1 with z | z
  ·exact hx z
  ·exact absurd (bL (aP e) z) (kO _)
 have cellK:∀x c,X.env.cells.lookup x=some c->∀v,s.heap.IsCell c v->h'.IsCell c v:=fun x c e v hq0=>by
  obtain⟨o,ho,hd⟩:=hq0;have nch:c∉ch:=fun z=>(hch c z).2.2.1 x c e rfl
  by_cases hc:c∈X.fs
  ·obtain⟨sl,q⟩:=slot c o (I.cne x c e) hc nch ho (I.freeC x c e);exact⟨_,q,hd⟩
  ·exact⟨o,keep c o (I.cne x c e) hc nch ho (I.freeC x c e),hd⟩
 refine⟨I.ok,I.os,hg,⟨fun b o e n hb hx =>?_,fun b o e n hb hx =>?_,fun b o e n hx =>?_,fun b o e hx =>?_,fun b xs e=>tups b xs (I.base.tups b xs e),fun b o xs e=>frzs b o xs (I.base.frzs b o xs e),fun b ps e =>?_⟩,?_,fun x c e =>?_,?_,fun x c e =>?_,fun p hp =>?_,hok,I.len⟩
 ·exact keep b o (neL b o e) hb (neC b o e hx) (I.base.keep b o e n hb hx) (I.base.free b o e n hx)
 ·obtain⟨sl,e1⟩:=I.base.slot b o e n hb hx;obtain⟨sl',e2⟩:=slot b _ (neL b o e) hb (neC b o e hx) e1 (I.base.free b o e n hx);exact⟨sl',e2⟩
 ·obtain⟨o',e1⟩:=I.base.there b o e hx;exact free b o' (neC b o e hx) e1 (I.base.free b o e n hx)
 ·obtain⟨o',e1⟩:=I.base.there b o e hx;exact there b o' (neC b o e hx) e1
 ·obtain⟨m1,e1⟩:=I.base.tbls b ps e;obtain⟨m2,e2⟩:=tbls b _ e1;exact⟨m1++m2,by rw[e2,vH]⟩
 ·obtain⟨m,hn,hl⟩:=I.loc;refine⟨m,ns m hn,fun i x v e1 e2 e3 =>?_⟩
  obtain⟨u,r,l⟩:=hl i x v e1 e2 e3;refine⟨u,r,?_⟩;rcases l with l | ⟨k,c,e,z⟩
  ·exact .inl l
  ·exact .inr ⟨k,c,e,cellK x c e _ z⟩
 ·obtain⟨v,z⟩:=I.cell x c e;exact⟨v,cellK x c e v z⟩
 ·obtain⟨m,⟨o,_,_,ho,_⟩,_⟩:=I.loc;exact free _ o (fun z=>(hch _ z).2.1 rfl) ho I.free
 ·obtain⟨v,o,ho,hd⟩:=I.cell x c e;exact free c o (fun z=>(hch c z).2.2.1 x c e rfl) ho (I.freeC x c e)
 ·obtain⟨e,n,ne,nf,d⟩:=I.pin p hp;have nch:p.1∉ch:=fun z=>(hch p.1 z).2.2.2 p hp rfl
  exact⟨keep p.1 p.2 ne nf nch e n,free p.1 p.2 nch e n,ne,nf,d⟩
theorem Inv.un{t':Nat}(I:Inv X zv σ H s)(u:Un X.fs [] H H' s.heap h')(hok:HOk X.prog X.w H' h'):Inv X zv σ H' { s with heap:=h',toks:=t' }:=by
 obtain⟨m,⟨o,es,ep,ho,r⟩,_⟩:=id I.loc;obtain⟨sl,hL⟩:=u.any ho I.free (by simp)
 exact I.step (g':=s.gens) (d':=s.drawn) (ch:=[]) (fun _ z=>nomatch z) (fun b o _ hb _ e n=>u.keep b o e n hb (by simp)) (fun b o _ hb _ e n=>u.slot b o e n hb (by simp)) (fun b o _ e n=>u.free b o e n (by simp)) (fun b o _ e=>u.there b o e (by simp)) u.tups u.frzs u.tbls (fun m' hm=>by
  obtain⟨o',es',ep',ho',r'⟩:=hm;rw[ho] at ho';cases ho';exact⟨_,es',ep',hL,r'⟩) hok I.bare
theorem Inv.call{g':Array GenState}{t':Nat}{d':Drawn}{ch:List Addr}(I:Inv X zv σ H s)(u:Un (frs X.stack) ch H H' s.heap h')(hok:HOk X.prog X.w H' h')(hg:oU g')
  (hch:∀b∈ch,(b∈X.ex∨X.s₀.heap.objs.size<=b)/\b≠X.env.locals/\(∀x c,X.env.cells.lookup x=some c->c≠b)/\∀p∈X.pn++zv,p.1≠b) :
  Inv X zv σ H' { s with heap:=h',gens:=g',drawn:=d',toks:=t' }:=by
 obtain⟨m,⟨o,es,ep,ho,r⟩,_⟩:=id I.loc;obtain⟨sl,hL⟩:=u.any ho I.free fun z=>(hch _ z).2.1 rfl
 exact I.step (ch:=ch) hch (fun b o hL hb hc e n=>u.keep b o e n (fun z=>(bF.mp (I.stkSub b z)).elim hL hb) hc) (fun b o _ _ hc e n=>u.any e n hc) (fun b o hc e n=>u.free b o e n hc) (fun b o hc e=>u.there b o e hc) u.tups u.frzs u.tbls (fun m' hm=>by
  obtain⟨o',es',ep',ho',r'⟩:=hm;rw[ho] at ho';cases ho';exact⟨_,es',ep',hL,r'⟩) hok hg
theorem Inv.turned{t':Nat}{it:Addr}(I:Inv X zv σ H s)(k:∀b o,b≠it->s.heap.get? b=some o->h'.get? b=some o)(hn:H it=none)(hL:it≠X.env.locals)
  (h1:it∈X.ex∨X.s₀.heap.objs.size<=it) (h2:∀x c,X.env.cells.lookup x=some c->c≠it) (h3:∀p∈X.pn++zv,p.1≠it):Inv X zv σ H { s with heap:=h',toks:=t' }:=by
 have nit:∀b u,H b=some u->b≠it:=fun b u e z=>by rw[z,hn] at e;cases e
 refine I.step (g':=s.gens) (d':=s.drawn) (ch:=[it]) (fun b hb =>?_) (fun b o _ _ hc e _=>k b o (fun z=>hc (by simp[z])) e) (fun b o _ _ hc e _=>⟨o.slots,k b o (fun z=>hc (by simp[z])) e⟩) (fun _ _ _ _ n=>n)
  (fun b o hc e=>⟨o,k b o (fun z=>hc (by simp[z])) e⟩) (fun _ _ e=>e) (fun _ _ _ e=>e) (fun b ps e=>⟨#[],by rw[e];simp⟩) (fun m hm =>?_) (fun b u e =>?_) I.bare
 ·have e:b=it:=by simpa using hb
  subst e;exact⟨h1,hL,h2,h3⟩
 ·obtain⟨o,es,ep,ho,r⟩:=hm;exact⟨o,es,ep,k _ o (fO hL) ho,r⟩
 ·refine(I.hok b u e).stay (fun c v hc q=>k c v ?_ q) (fun _ q=>q) fun _ _ q=>q
  rcases hc with z | z
  ·rw[z];exact nit b u e
  ·exact nit c _ z
theorem Inv.tok(I:Inv X zv σ H s)(t:Nat):Inv X zv σ H { s with toks:=t }:=I.un (h':=s.heap) (t':=t) Un.refl I.hok
theorem Inv.kept{t':Nat}(I:Inv X zv σ H s)(k:∀b u,s.heap.get? b=some u->h'.get? b=some u):Inv X zv σ H { s with heap:=h',toks:=t' }:=I.un (Un.kept k) (I.hok.kept k)
theorem Inv.laid{a:Addr}{o:HO}{t':Nat}(I:Inv X zv σ H s)(k:∀b u,s.heap.get? b=some u->h'.get? b=some u)(hp:s.heap.objs.size<=a)(new:v9 X.prog X.w (upd H a o) h' a o) :
  Inv X zv σ (upd H a o) { s with heap:=h',toks:=t' }:=I.un (Un.laid k hp (I.hok.fresh hp)) (I.hok.laid k hp new)
theorem Inv.write{x e:Addr}{o:HO}{t':Nat}(I:Inv X zv σ H s)(mu:Mut (H x))(he:e=x∨H e=some (.own x))(k:∀b u,b≠e->s.heap.get? b=some u->h'.get? b=some u)(heo:∃u,h'.get? e=some u)
  (new:v9 X.prog X.w (upd H x o) h' x o):Inv X zv σ (upd H x o) { s with heap:=h',toks:=t' }:=I.un (Un.write mu he k heo) (I.hok.write mu he k heo new)
theorem Inv.pins_of{pins':List (Addr×Obj)}(I:Inv X zv σ H s)(h:∀p∈pins',s.heap.get? p.1=some p.2/\H p.1=none/\p.1≠X.env.locals/\p.1∉X.fs/\∀v,p.2.data≠.cell v):Inv X pins' σ H s :=
 ⟨I.ok,I.os,I.bare,I.base,I.loc,I.cell,I.free,I.freeC,fun p hp=>(cZ.mp hp).elim (fun z=>I.pin p (gR _ z)) (h p),I.hok,I.len⟩
theorem ah6{N:List Str}(hN:N.Nodup){i j:Nat}{x:Str}(a:N[i]? = some x)(b:N[j]? = some x):i=j:=by
 obtain⟨h1,e1⟩:=aK.mp a;obtain⟨h2,e2⟩:=aK.mp b;exact(List.getElem_inj hN).mp (e1.trans e2.symm)
theorem ait{M:Model}{A:bW}{E:Value->aF->Prop}{i:Nat}{x:Str}{v:V}{u:Value}{Q:Unit->aF->Prop}(I:Inv X zv σ H s)(hN:X.N.Nodup)(hi:X.N[i]? = some x)(hx:Loc X.env.scope x)(r:RelV v u)
  (h:∀s',Inv X zv (σ.set i (some v)) H s'->(∃a,fG a s.heap s'.heap/\(a=X.env.locals∨X.env.cells.lookup x=some a))->Q () s') (hf:X.fn x=true∨X.env.scope.names.lookup x=some .local:=by first | exact .inl rfl | exact .inr rfl | assumption):wpAny M A (storeName X.env x u) Q E s:=by
 obtain⟨m,hn,hl⟩:=id I.loc;have hcls:(X.env.scope.kind==.class||(X.env.scope.kind==.module&&X.env.locals != X.env.globals))=false:=by rw[I.ok.kind];rfl
 have hiσ:i < σ.length:=by rw[I.len];exact(aK.mp hi).1
 have cne:=I.cne;have tracked:∀{a:Addr} {h':Heap},(∃o,s.heap.get? a=some o/\H a=none)->fG a s.heap h'->HOk X.prog X.w H h':=fun{a h'} ha hs b ob e=>by
  obtain⟨_,_,hfree⟩:=ha;refine(I.hok b ob e).stay (fun c w' hc q=>(hs.2 c ?_).trans q) (fun _ q=>q) fun _ _ q=>q
  rintro rfl
  rcases hc with rfl | hc
  ·rw[hfree] at e;cases e
  ·rw[hfree] at hc;cases hc
 rcases hx with hk | hk
 ·refine wpAny_storeName_local hk hn (fun h' hn' hs =>?_) hcls
  obtain⟨oL,_,_,hoL,_⟩:=id hn;refine h _ ⟨I.ok,I.os,I.bare,⟨fun b o e n hb hx =>?_,fun b o e n hb hx =>?_,I.base.free,fun b o e hx =>?_,I.base.tups,I.base.frzs,I.base.tbls⟩,⟨_,hn',fun j y v' e1 e2 e3 =>?_⟩,fun y c e =>?_,I.free,I.freeC,fun p hp =>?_,tracked ⟨oL,hoL,I.free⟩ hs,by simpa using I.len⟩ ⟨_,hs,.inl rfl⟩
  ·exact(hs.2 b (bC (bL (aP e) I.ok.above))).trans (I.base.keep b o e n hb hx)
  ·obtain⟨sl,e1⟩:=I.base.slot b o e n hb hx;exact⟨sl,(hs.2 b (bC (bL (aP e) I.ok.above))).trans e1⟩
  ·obtain⟨o',e1⟩:=I.base.there b o e hx;exact⟨o',(hs.2 b (bC (bL (aP e) I.ok.above))).trans e1⟩
  ·by_cases hj:j=i
   ·subst hj;rw[hi] at e1;cases e1;rw[lF hiσ] at e2;cases e2;exact⟨u,r,.inl ⟨hk,by simp⟩⟩
   ·rw[lU (fO hj)] at e2;obtain⟨u',r',q⟩:=hl j y v' e1 e2 e3;refine⟨u',r',?_⟩;rcases q with⟨k,e⟩ | ⟨k,c,e,z⟩
    ·refine .inl ⟨k,?_⟩;have:y≠x:=fun e=>hj (ah6 hN e1 (e▸hi))
     simp[this,e]
    ·exact .inr ⟨k,c,e,z.sameBut hs (cne y c e)⟩
  ·obtain⟨w',z⟩:=I.cell y c e;exact⟨w',z.sameBut hs (cne y c e)⟩
  ·obtain⟨e,n,ne,nf,d⟩:=I.pin p hp;exact⟨(hs.2 p.1 ne).trans e,n,ne,nf,d⟩
 ·have hfn:X.fn x=true:=by
   rcases hf with z | z
   ·exact z
   ·rw[z] at hk;cases hk
  obtain⟨c,hc⟩:=I.ok.has x (.inl hk);obtain⟨w',z⟩:=I.cell x c hc;refine wpAny_storeName_cell I.ok.kind hk hc z (fun h' hc' hs =>?_)
  obtain⟨oc,hoc,hocd⟩:=id z;refine h { s with heap:=h' } ⟨I.ok,I.os,I.bare,⟨fun b o e n hb hx =>?_,fun b o e n hb hx =>?_,I.base.free,fun b o e hx =>?_,I.base.tups,I.base.frzs,I.base.tbls⟩,⟨m,hn.sameBut hs (fO (cne x c hc)),fun j y v' e1 e2 e3 =>?_⟩,fun y c' e =>?_,I.free,I.freeC,fun p hp =>?_,tracked ⟨oc,hoc,I.freeC x c hc⟩ hs,by simpa using I.len⟩ ⟨c,hs,.inr hc⟩
  ·exact(hs.2 b (bC (bL (aP e) (I.ok.cab x c hfn hc)))).trans (I.base.keep b o e n hb hx)
  ·obtain⟨sl,e1⟩:=I.base.slot b o e n hb hx;exact⟨sl,(hs.2 b (bC (bL (aP e) (I.ok.cab x c hfn hc)))).trans e1⟩
  ·obtain⟨o',e1⟩:=I.base.there b o e hx;exact⟨o',(hs.2 b (bC (bL (aP e) (I.ok.cab x c hfn hc)))).trans e1⟩
  ·by_cases hj:j=i
   ·subst hj;rw[hi] at e1;cases e1;rw[lF hiσ] at e2;cases e2;exact⟨u,r,.inr ⟨.inl hk,c,hc,hc'⟩⟩
   ·rw[lU (fO hj)] at e2;obtain⟨u',r',q⟩:=hl j y v' e1 e2 e3;refine⟨u',r',?_⟩;rcases q with q | ⟨k,c',e,z'⟩
    ·exact .inl q
    ·refine .inr ⟨k,c',e,z'.sameBut hs ?_⟩
     rintro rfl
     exact hj (ah6 hN e1 (I.ok.inj _ _ _ e hc▸hi))
  ·by_cases hcc:c'=c
   ·subst hcc;exact⟨_,hc'⟩
   ·obtain⟨w2,z2⟩:=I.cell y c' e;exact⟨w2,z2.sameBut hs hcc⟩
  ·obtain⟨e,n,ne,nf,d⟩:=I.pin p hp;refine⟨(hs.2 p.1 ?_).trans e,n,ne,nf,d⟩;intro q;rw[q,hoc] at e;have q':oc=p.2:=bD e;exact d w' (by rw[<-q'];exact hocd)
theorem abp{M:Model}{A:bW}{E:Value->aF->Prop}{i:Nat}{x:Str}{v:V}{u:Value}{Q:Unit->aF->Prop}(I:Inv X zv σ H s)(hN:X.N.Nodup)(hi:X.N[i]? = some x)(hx:Loc X.env.scope x)(r:RelV v u)
  (h:∀s',Inv X zv (σ.set i (some v)) H s'->Q () s') (hf:X.fn x=true∨X.env.scope.names.lookup x=some .local:=by first | exact .inl rfl | exact .inr rfl | assumption):wpAny M A (storeName X.env x u) Q E s :=
 ait I hN hi hx r (fun s' I' _=>h s' I') hf
theorem Inv.call'{s':aF}{ch:List Addr}(I:Inv X zv σ H s)(ho:s'.os=s.os)(u:Un (frs X.stack) ch H H' s.heap s'.heap)(hok:HOk X.prog X.w H' s'.heap)(hg:oU s'.gens)
  (hch:∀b∈ch,(b∈X.ex∨X.s₀.heap.objs.size<=b)/\b≠X.env.locals/\(∀x c,X.env.cells.lookup x=some c->c≠b)/\∀p∈X.pn++zv,p.1≠b):Inv X zv σ H' s':=by
 obtain⟨h',g',d',t',o'⟩:=s';have e:o'=s.os:=ho;subst e;exact I.call (g':=g') (t':=t') (d':=d') u hok hg hch
end
abbrev XK:=Value->Option Addr->Hp->Prop
abbrev St:=List (Option V)
abbrev VK:=V->Hp->Prop
abbrev TE:=St->Hp->VK->Prop
abbrev TT:=St->Hp->(Bool->Hp->Prop)->Prop
abbrev TA:=St->Hp->(List V->Hp->Prop)->Prop
structure Ends where
 nx:St->Hp->Prop
 rt:VK
 bk:St->Hp->Prop:=fun _ _=>False
 ct:St->Hp->Prop:=fun _ _=>False
abbrev TS:=Ends->St->Hp->Prop
def EP(X:Cx)(zv:List (Addr×Obj))(σ:St)(Q:VK)(u:Value)(s':aF):Prop:=∃v H',Inv X zv σ H' s'/\RelV v u/\Q v H'
def TP(X:Cx)(zv:List (Addr×Obj))(σ:St)(Q:Bool->Hp->Prop)(b:Bool)(s':aF):Prop:=∃H',Inv X zv σ H' s'/\Q b H'
def AP(X:Cx)(zv:List (Addr×Obj))(σ:St)(Q:List V->Hp->Prop)(us:List Value)(s':aF):Prop:=∃vs H',Inv X zv σ H' s'/\Vals vs us/\Q vs H'
def SP(X:Cx)(zv:List (Addr×Obj))(D:Ends)(f:Flow)(s':aF):Prop :=
 match f with
 | .next=>∃σ' H',Inv X zv σ' H' s'/\D.nx σ' H'
 | .brk=>∃σ' H',Inv X zv σ' H' s'/\D.bk σ' H'
 | .cont=>∃σ' H',Inv X zv σ' H' s'/\D.ct σ' H'
 | .ret u=>∃v σ' H',Inv X zv σ' H' s'/\RelV v u/\D.rt v H'
def PE(X:Cx)(e:Expr)(t:TE):Prop :=
 ∀(zv:List (Addr×Obj)) (s:aF) (σ:St) (H:Hp) (Q:VK),Inv X zv σ H s->t σ H Q->wpAny (model X.prog X.w) X.A (eval e X.env) (EP X zv σ Q) X.xe s
def PT(X:Cx)(e:Expr)(t:TT):Prop :=
 ∀(zv:List (Addr×Obj)) (s:aF) (σ:St) (H:Hp) (Q:Bool->Hp->Prop),Inv X zv σ H s->t σ H Q->wpAny (model X.prog X.w) X.A (isTrue e X.env (eval e X.env)) (TP X zv σ Q) X.xe s
def PW(X:Cx)(e:Expr)(t:TT):Prop :=
 ∀(whole:Sem Value) (zv:List (Addr×Obj)) (s:aF) (σ:St) (H:Hp) (Q:Bool->Hp->Prop),Inv X zv σ H s->t σ H Q->wpAny (model X.prog X.w) X.A (isTrue e X.env whole) (TP X zv σ Q) X.xe s
theorem PW.pt{X:Cx}{e:Expr}{t:TT}(h:PW X e t):PT X e t:=h _
def PA(X:Cx)(es:List Expr)(t:TA):Prop :=
 ∀(pos:Pos) (zv:List (Addr×Obj)) (s:aF) (σ:St) (H:Hp) (Q:List V->Hp->Prop),Inv X zv σ H s->t σ H Q->wpAny (model X.prog X.w) X.A (spliced (iG pos (aQ es X.env))) (AP X zv σ Q) X.xe s
def PS(X:Cx)(st:Stmt)(t:TS):Prop :=
 ∀(zv:List (Addr×Obj)) (s:aF) (σ:St) (H:Hp) (D:Ends),Inv X zv σ H s->t D σ H->wpAny (model X.prog X.w) X.A (exec st X.env) (SP X zv D) X.xe s
def PSs(X:Cx)(st:List Stmt)(t:TS):Prop :=
 ∀(zv:List (Addr×Obj)) (s:aF) (σ:St) (H:Hp) (D:Ends),Inv X zv σ H s->t D σ H->wpAny (model X.prog X.w) X.A (execs st X.env) (SP X zv D) X.xe s
theorem thn{α:Type}{t:Sem α}{Q Q':α->aF->Prop}{M:Model}{A:bW}{E:Value->aF->Prop}{s:aF}(h:wpAny M A t Q E s)(hQ:∀a s,Q a s->Q' a s):wpAny M A t Q' E s:=aW h hQ fun _ _ x=>x
section
variable{X:Cx}
def tVar(i:Nat):TE:=fun σ H Q=>∃v,σ[i]? = some (some v)/\Q v H
def tC(v:V):TE:=fun _ H Q=>Q v H
theorem a00{i:Nat}{x:Str}{pos:Pos}(hN:X.N[i]? = some x)(hv:Vis X.env.scope x)(hd:(x==("__debug__" : Str))=false:=by decide)(hcd:(x==("__classdict__" : Str))=false:=by decide):PE X (.Name x pos) (tVar i):=by
 intro zv s σ H Q I h;obtain⟨v,e,h⟩:=h;obtain⟨m,hn,hl⟩:=I.loc;obtain⟨u,r,l⟩:=hl i x v hN e hv;have fin:EP X zv σ Q u s:=⟨v,H,I,r,h⟩;rcases l with⟨hk,hm⟩ | ⟨hk,c,hc,hcell⟩
 ·exact wpAny_Name (wpAny_loadName_local I.ok.kind hk hn hm fin) hd
 ·rcases hk with hk | hk
  ·exact wpAny_Name (wpAny_loadName_cell I.ok.kind hk hc hcell fin) hd
  ·exact wpAny_Name (wpAny_loadName_free I.ok.kind hk hc hcell fin hcd) hd
theorem a07{i j pos}:PE X (.Constant (.int i) j pos) (tC (.int i)):=fun _ _ _ H _ I h=>wpAny_Constant_int ⟨.int i,H,I.tok _,⟨_,rfl⟩,h⟩
theorem a6k{b j pos}:PE X (.Constant (.bool b) j pos) (tC (.bl b)):=fun _ _ _ H _ I h=>Constant_bool ⟨.bl b,H,I,rfl,h⟩
theorem a05{j pos}:PE X (.Constant .none j pos) (tC .non):=fun _ _ _ H _ I h=>Constant_none ⟨.non,H,I,rfl,h⟩
theorem a02{x j pos}:PE X (.Constant (.str x) j pos) (tC (.str x)):=fun _ _ _ H _ I h=>vD ⟨.str x,H,I.tok _,⟨_,rfl⟩,h⟩
def Gl(X:Cx)(x:Str):Prop:=X.env.kindOf x=some .globalImplicit
theorem ack{E:Value->aF->Prop}{zv:List (Addr×Obj)}{s:aF}{σ:St}{H:Hp}{x:Str}{u:Value}{pos:Pos}{Q:Value->aF->Prop}(I:Inv X zv σ H s)(hg:Gl X x)(hm:X.mg x=some u)(h:Q u s)
  (hd:(x==("__debug__" : Str))=false:=by decide):wpAny (model X.prog X.w) X.A (eval (.Name x pos) X.env) Q E s :=
 rJ I.ok.kind hg (Calls.loadGlobal_global (by rw[I.ok.glob];exact I.mod.glob.keeps I.bk) hm h) hd
theorem aev{E:Value->aF->Prop}{zv:List (Addr×Obj)}{s:aF}{σ:St}{H:Hp}{x:Str}{u:Value}{pos:Pos}{Q:Value->aF->Prop}(I:Inv X zv σ H s)(hg:Gl X x)(hm:X.mg x=none)(hv:bN x=some u)(h:Q u s)
  (hn:x ≠ "__name__" := by decide) (hd:(x==("__debug__" : Str))=false:=by decide):wpAny (model X.prog X.w) X.A (eval (.Name x pos) X.env) Q E s:=by
 obtain⟨mb,h1,h2⟩:=I.mod.blt;exact rJ I.ok.kind hg (Calls.loadGlobal_builtin (by rw[I.ok.glob];exact I.mod.glob.keeps I.bk) hm (by rw[I.ok.blt];exact h1.keeps I.bk) ((h2 x hn).trans hv) h) hd
theorem aqq{x:Str}{v:V}{u:Value}{pos:Pos}(hg:Gl X x)(hm:X.mg x=some u)(r:RelV v u)(hd:(x==("__debug__" : Str))=false:=by decide):PE X (.Name x pos) (tC v) :=
 fun _ _ _ H _ I h=>ack I hg hm ⟨v,H,I,r,h⟩ hd
theorem ax7{x:Str}{v:V}{u:Value}{pos:Pos}(hg:Gl X x)(hm:X.mg x=none)(hv:bN x=some u)(r:RelV v u)(hn:x ≠ "__name__" := by decide)(hd:(x==("__debug__" : Str))=false:=by decide):PE X (.Name x pos) (tC v) :=
 fun _ _ _ H _ I h=>aev I hg hm hv ⟨v,H,I,r,h⟩ hn hd
variable{a b:Expr}{ta tb:TE}{pos:Pos}
def PC(X:Cx)(op:CmpOp)(a b:Expr)(t:TE):Prop :=
 ∀(zv:List (Addr×Obj)) (s:aF) (σ:St) (H:Hp) (Q:VK),Inv X zv σ H s->t σ H Q ->
  wpAny (model X.prog X.w) X.A (eval a X.env) (fun v s₁=>wpAny (model X.prog X.w) X.A (eval b X.env) (fun u s₂=>wpAny (model X.prog X.w) X.A (eY op v u) (EP X zv σ Q) X.xe s₂) X.xe s₁) X.xe s
theorem auz(b:Expr){op:CmpOp}(h:op≠.In)(h2:op≠.NotIn):iI op b=false:=by
 have e1:(op==CmpOp.In)=false:=by cases op <;> first | rfl | exact absurd rfl h
 have e2:(op==CmpOp.NotIn)=false:=by cases op <;> first | rfl | exact absurd rfl h2
 cases b <;> simp[iI,e1,e2]
def tIsN(ta:TE):TE:=fun σ H Q=>ta σ H fun x H1=>Q (.bl (decide (x=.non))) H1
theorem RelV.none_iff{x:V}{v:Value}(r:RelV x v):(v==cF)=decide (x=.non):=by
 cases x with
 | non=>cases r;rfl
 | bl _=>cases r;rfl
 | int _=>obtain⟨t,rfl⟩:=r;rfl
 | str _=>obtain⟨t,rfl⟩:=r;rfl
 | byt _=>obtain⟨t,rfl⟩:=r;rfl
 | flt _=>obtain⟨t,rfl⟩:=r;rfl
 | ref _=>cases r;rfl
 | ty _=>cases r;rfl
theorem a1b{j pos'}(ha:PE X a ta):PC X .Is a (.Constant .none j pos') (tIsN ta):=by
 intro zv s σ H Q I h;refine thn (ha zv s σ H _ I h) fun v s1 ⟨x,H1,I1,r1,q1⟩ =>?_
 exact Constant_none (is_none_gen ⟨.bl _,H1,I1,by rw[r1.none_iff];rfl,q1⟩)
def tB(t:TE):TT:=fun σ H Q=>t σ H fun x H1=>∃c,x=.bl c/\Q c H1
theorem a0s{op:CmpOp}{t:TE}(h:PC X op a b t)(h1:iI op b=false:=by first | exact auz _ (by decide) (by decide) | rfl):PT X (.Compare a [op] [b] pos) (tB t):=by
 intro zv s σ H Q I hw;refine wpAny_isTrue_Compare1 (thn (h zv s σ H _ I hw) fun v s1 h1=>thn h1 fun u s2 h2=>thn h2 fun c s3 ⟨x,H1,I1,r1,q1⟩ =>?_) h1
 obtain⟨d,rfl,q⟩:=q1;cases r1;exact wpAny_truthy_bool ⟨H1,I1,q⟩
theorem a0q{e:Expr}{t:TE}(h:PE X e t)(he:∀whole,isTrue e X.env whole=(do let v <-whole;standAt e.pos;mQ [v] (truthy v)):=by intro _;rfl):PT X e (tB t):=by
 intro zv s σ H Q I hw;refine isTrue_plain (thn (h zv s σ H _ I hw) fun v s1 ⟨x,H1,I1,r1,q1⟩ =>?_) (he _)
 obtain⟨d,rfl,q⟩:=q1;cases r1;exact wpAny_truthy_bool ⟨H1,I1,q⟩
variable{tA tB':TT}{rest:List Expr}
def tAnd(t u:TT):TT:=fun σ H Q=>t σ H fun c H1=>if c=true then u σ H1 Q else Q false H1
def tOr(t u:TT):TT:=fun σ H Q=>t σ H fun c H1=>if c=true then Q true H1 else u σ H1 Q
def tNot(t:TT):TT:=fun σ H Q=>t σ H fun c H1=>Q (!c) H1
theorem axo(ha:PT X a tA):PW X (.BoolOp .And [a] pos) tA:=by
 intro wh zv s σ H Q I h;refine isTrue_and (thn (ha zv s σ H Q I h) fun c s1 e =>?_)
 cases c with
 | true=>exact isTrue_and_nil e
 | false=>exact e
theorem a0m(ha:PT X a tA):PW X (.BoolOp .Or [a] pos) tA:=by
 intro wh zv s σ H Q I h;refine isTrue_or (thn (ha zv s σ H Q I h) fun c s1 e =>?_)
 cases c with
 | false=>exact isTrue_or_nil e
 | true=>exact e
theorem a0n(ha:PT X a tA)(hb:PW X (.BoolOp .And (b::rest) pos) tB'):PW X (.BoolOp .And (a::b::rest) pos) (tAnd tA tB'):=by
 intro wh zv s σ H Q I h;refine isTrue_and (thn (ha zv s σ H _ I h) fun c s1 ⟨H1,I1,q1⟩ =>?_)
 cases c with
 | true=>exact hb wh zv s1 σ H1 Q I1 q1
 | false=>exact⟨H1,I1,q1⟩
theorem a6b(ha:PT X a tA)(hb:PW X (.BoolOp .Or (b::rest) pos) tB'):PW X (.BoolOp .Or (a::b::rest) pos) (tOr tA tB'):=by
 intro wh zv s σ H Q I h;refine isTrue_or (thn (ha zv s σ H _ I h) fun c s1 ⟨H1,I1,q1⟩ =>?_)
 cases c with
 | true=>exact⟨H1,I1,q1⟩
 | false=>exact hb wh zv s1 σ H1 Q I1 q1
theorem a0r(ha:PT X a tA):PT X (.UnaryOp .Not a pos) (tNot tA):=by
 intro zv s σ H Q I h;exact isTrue_not (ha zv s σ H (fun c H1=>Q (!c) H1) I h)
def a5v(ta tb:TE):TE:=fun σ H Q=>ta σ H fun x H1=>∃c,x=.bl c/\if c=true then tb σ H1 Q else Q (.bl false) H1
def a5q(ta:TE):TE:=fun σ H Q=>ta σ H fun x H1=>∃c,x=.bl c/\Q (.bl (!c)) H1
theorem a03{op}{t:TE}(h:PE X a t):PE X (.BoolOp op [a] pos) t:=fun zv s σ H Q I hw=>BoolOp_one (h zv s σ H Q I hw)
theorem a1a(ha:PE X a ta)(hb:PE X (.BoolOp .And (b::rest) pos) tb):PE X (.BoolOp .And (a::b::rest) pos) (a5v ta tb):=by
 intro zv s σ H Q I h;refine BoolOp_and (thn (ha zv s σ H _ I h) fun v s1 ⟨x,H1,I1,r1,q1⟩ =>?_)
 obtain⟨c,rfl,q1⟩:=q1;cases r1;refine wpAny_truthy_bool ?_;cases c with
 | true=>exact hb zv s1 σ H1 Q I1 q1
 | false=>exact⟨.bl false,H1,I1,rfl,q1⟩
theorem a04(ha:PE X a ta):PE X (.UnaryOp .Not a pos) (a5q ta):=by
 intro zv s σ H Q I h;refine UnaryOp_ (thn (ha zv s σ H _ I h) fun v s1 ⟨x,H1,I1,r1,q1⟩ =>?_)
 obtain⟨c,rfl,q1⟩:=q1;cases r1;exact not_of (wpAny_truthy_bool ⟨.bl (!c),H1,I1,rfl,q1⟩)
def tIf(t:TT)(ta tb:TE):TE:=fun σ H Q=>t σ H fun c H1=>if c=true then ta σ H1 Q else tb σ H1 Q
theorem aui{c:Expr}(hc:PT X c tA)(ha:PE X a ta)(hb:PE X b tb):PE X (.IfExp c a b pos) (tIf tA ta tb):=by
 intro zv s σ H Q I h;refine wpAny_IfExp (thn (hc zv s σ H _ I h) fun d s1 ⟨H1,I1,q1⟩ =>?_)
 cases d with
 | true=>exact ha zv s1 σ H1 Q I1 q1
 | false=>exact hb zv s1 σ H1 Q I1 q1
end
def SqL(K:Fg9)(H:Hp)(a:Addr)(xs:List V):Prop :=
 Rd H a (.lst xs) ∨
  ∃(o:Obj) (its:Array Value) (n:Nat),K.lookup a=some o/\o.cls=.type "list" /\ o.dict=none/\o.data=.seq its n/\its.size<=bV/\Vals xs its.toList
def SqT(K:Fg9)(H:Hp)(a:Addr)(xs:List V):Prop :=
 Rd H a (.tup xs) ∨
  ∃(o:Obj) (its:Array Value) (n:Nat),K.lookup a=some o/\o.cls=.type "tuple" /\ o.data=.seq its n/\its.size<=bV/\Vals xs its.toList
noncomputable def absV:Value->Option V
 | .none=>some .non
 | .bool b=>some (.bl b)
 | .int i _=>some (.int i)
 | .str x _=>some (.str x)
 | .bytes b _=>some (.byt b)
 | .float b _=>some (.flt b)
 | .ref a=>some (.ref a)
 | .type n=>some (.ty n)
 | _=>none
theorem RelV.abs{x:V}{u:Value}(r:RelV x u):absV u=some x:=by
 cases x with
 | non=>cases r;rfl
 | bl _=>cases r;rfl
 | int _=>obtain⟨t,rfl⟩:=r;rfl
 | str _=>obtain⟨t,rfl⟩:=r;rfl
 | byt _=>obtain⟨t,rfl⟩:=r;rfl
 | flt _=>obtain⟨t,rfl⟩:=r;rfl
 | ref _=>cases r;rfl
 | ty _=>cases r;rfl
theorem RelV.inj{x y:V}{u:Value}(r:RelV x u)(q:RelV y u):x=y:=bD (r.abs.symm.trans q.abs)
theorem Vals.inj:∀{xs ys:List V} {us:List Value},Vals xs us->Vals ys us->xs=ys
 | _,_,_,.nil,.nil=>rfl
 | _,_,_,.cons r t,.cons r' t'=>by rw[r.inj r',Vals.inj t t']
section
variable{X:Cx}{zv:List (Addr×Obj)}{σ:St}{H:Hp}{s:aF}{a:Addr}{xs ys:List V}
theorem SqL.of{K:Fg9}(h:H a=some (.lst xs)):SqL K H a xs:=.inl (.inl h)
theorem SqT.of{K:Fg9}(h:H a=some (.tup xs)):SqT K H a xs:=.inl (.inl h)
theorem Inv.list(I:Inv X zv σ H s)(h:SqL X.K H a xs):∃its:List Value,Vals xs its/\PlainL s.heap a its.toArray/\xs.length<=bV:=by
 rcases h with h | ⟨o,its,n,hk,hc,hd,hs,hz,r⟩
 ·obtain⟨z,its,n,r,e⟩:=h.ok I.hok;exact⟨its,r,⟨_,n,e,rfl,rfl,rfl⟩,z⟩
 ·refine⟨its.toList,r,⟨o,n,I.kIn a o hk,hc,hd,by simpa using hs⟩,?_⟩
  have e:=r.length;simp only[bH] at e;omega
theorem Inv.tuple(I:Inv X zv σ H s)(h:SqT X.K H a xs):∃its:List Value,Vals xs its/\IsTup s.heap a its.toArray/\xs.length<=bV:=by
 rcases h with h | ⟨o,its,n,hk,hc,hs,hz,r⟩
 ·obtain⟨z,its,r,p⟩:=h.ok I.hok;exact⟨its,r,p.tup,z⟩
 ·refine⟨its.toList,r,⟨o,I.kIn a o hk,hc,n,by simpa using hs⟩,?_⟩
  have e:=r.length;simp only[bH] at e;omega
theorem Inv.list_inj(I:Inv X zv σ H s)(h:SqL X.K H a xs)(h':SqL X.K H a ys):xs=ys:=by
 obtain⟨its,r,⟨o,n,e,_,_,d⟩,_⟩:=I.list h;obtain⟨its',r',⟨o',n',e',_,_,d'⟩,_⟩:=I.list h';rw[e] at e';cases e';rw[d] at d'
 injection d' with d1 _
 have:its=its':=by simpa using congrArg Array.toList d1
 subst this;exact r.inj r'
theorem Inv.tuple_inj(I:Inv X zv σ H s)(h:SqT X.K H a xs)(h':SqT X.K H a ys):xs=ys:=by
 obtain⟨its,r,⟨o,e,_,n,d⟩,_⟩:=I.tuple h;obtain⟨its',r',⟨o',e',_,n',d'⟩,_⟩:=I.tuple h';rw[e] at e';cases e';rw[d] at d'
 injection d' with d1 _
 have:its=its':=by simpa using congrArg Array.toList d1
 subst this;exact r.inj r'
end
abbrev Cx.wish(X:Cx)(E:Value->aF->Prop):Cx:={ X with xe:=E }
abbrev Cx.nox(X:Cx):Cx:=X.wish fun _ _=>False
theorem Cx.Ok.wish{X:Cx}(ok:X.Ok)(E:Value->aF->Prop):(X.wish E).Ok :=
 ⟨ok.mod,ok.kind,ok.glob,ok.blt,ok.above,ok.inj,ok.has,ok.cab,ok.hd,ok.frames,ok.stk,ok.exf,ok.bs,ok.bsz,ok.noex,ok.exfs,ok.funs,ok.frf⟩
theorem Cx.Ok.unwish{X:Cx}{E:Value->aF->Prop}(ok:(X.wish E).Ok):X.Ok :=
 ⟨ok.mod,ok.kind,ok.glob,ok.blt,ok.above,ok.inj,ok.has,ok.cab,ok.hd,ok.frames,ok.stk,ok.exf,ok.bs,ok.bsz,ok.noex,ok.exfs,ok.funs,ok.frf⟩
section
variable{X:Cx}{zv:List (Addr×Obj)}{σ:St}{H:Hp}{s:aF}{E:Value->aF->Prop}
theorem Inv.wish(I:Inv X zv σ H s)(E:Value->aF->Prop):Inv (X.wish E) zv σ H s:=⟨I.ok.wish E,I.os,I.bare,I.base,I.loc,I.cell,I.free,I.freeC,I.pin,I.hok,I.len⟩
theorem Inv.unwish(I:Inv (X.wish E) zv σ H s):Inv X zv σ H s:=⟨I.ok.unwish,I.os,I.bare,I.base,I.loc,I.cell,I.free,I.freeC,I.pin,I.hok,I.len⟩
theorem SP.unwish{D:Ends}{f:Flow}{s':aF}(h:SP (X.wish E) zv D f s'):SP X zv D f s':=by
 cases f with
 | next=>obtain⟨σ',H',I,q⟩:=h;exact⟨σ',H',I.unwish,q⟩
 | brk=>obtain⟨σ',H',I,q⟩:=h;exact⟨σ',H',I.unwish,q⟩
 | cont=>obtain⟨σ',H',I,q⟩:=h;exact⟨σ',H',I.unwish,q⟩
 | ret u=>obtain⟨v,σ',H',I,r,q⟩:=h;exact⟨v,σ',H',I.unwish,r,q⟩
theorem PE.nox{e:Expr}{t:TE}(h:PE X.nox e t):PE X e t:=fun zv s σ H Q I hw =>
 aW (h zv s σ H Q (I.wish _) hw) (fun _ _ ⟨v,H',I',r,q⟩=>⟨v,H',I'.unwish,r,q⟩) fun _ _ z=>dH z
theorem PT.nox{e:Expr}{t:TT}(h:PT X.nox e t):PT X e t:=fun zv s σ H Q I hw =>
 aW (h zv s σ H Q (I.wish _) hw) (fun _ _ ⟨H',I',q⟩=>⟨H',I'.unwish,q⟩) fun _ _ z=>dH z
theorem PSs.nox{st:List Stmt}{t:TS}(h:PSs X.nox st t):PSs X st t:=fun zv s σ H D I hw =>
 aW (h zv s σ H D (I.wish _) hw) (fun _ _ q=>q.unwish) fun _ _ z=>dH z
end
section
variable{X:Cx}{st:Stmt}{rest:List Stmt}{t u:TS}{e:Expr}{te:TE}{pos:Pos}
def a5r:TS:=fun D σ H=>D.nx σ H
def tSeq(t u:TS):TS:=fun D σ H=>t { D with nx:=u D } σ H
theorem axq:PSs X [] a5r:=fun _ _ σ H _ I h=>wpAny_execs_nil ⟨σ,H,I,h⟩
theorem aub(h1:PS X st t)(h2:PSs X rest u):PSs X (st::rest) (tSeq t u):=by
 intro zv s σ H D I h;refine wpAny_execs_cons (thn (h1 zv s σ H { D with nx:=u D } I h) fun f s1 q =>?_)
 cases f with
 | next =>
  obtain⟨σ',H',I',q⟩:=q;exact h2 zv s1 σ' H' D I' q
 | ret v=>exact q
 | brk=>exact q
 | cont=>exact q
theorem aqj(h1:PS X st t):PSs X [st] t:=by
 intro zv s σ H D I h;refine wpAny_execs_cons (thn (h1 zv s σ H D I h) fun f s1 q =>?_)
 cases f with
 | next=>exact wpAny_execs_nil q
 | ret v=>exact q
 | brk=>exact q
 | cont=>exact q
theorem Inv.quiet{zv:List (Addr×Obj)}{σ:St}{H:Hp}{s:aF}(I:Inv X zv σ H s):interactive X.env=false:=by simp[interactive,I.ok.kind]
def a5s(te:TE):TS:=fun D σ H=>te σ H fun _ H1=>D.nx σ H1
theorem axt(he:PE X e te)(hs:lO e none pos.line X.env=pure false:=by rfl):PS X (.Expr e pos) (a5s te):=by
 intro zv s σ H D I h;exact wpAny_Expr_any (thn (he zv s σ H _ I h) fun v s1 ⟨x,H1,I1,r1,q1⟩=>⟨σ,H1,I1,q1⟩) I.quiet hs
def tRet(te:TE):TS:=fun D σ H=>te σ H D.rt
theorem a0u(he:PE X e te):PS X (.Return (some e) pos) (tRet te):=by
 intro zv s σ H D I h;exact wpAny_Return_some (thn (he zv s σ H _ I h) fun v s1 ⟨x,H1,I1,r1,q1⟩=>⟨x,σ,H1,I1,r1,q1⟩)
def tIfS(c:TT)(t u:TS):TS:=fun D σ H=>c σ H fun b H1=>if b=true then t D σ H1 else u D σ H1
theorem a6e{c:Expr}{a b:List Stmt}{tc:TT}(hc:PT X c tc)(ha:PSs X a t)(hb:PSs X b u):PS X (.If c a b pos) (tIfS tc t u):=by
 intro zv s σ H D I h;refine wpAny_If (thn (hc zv s σ H _ I h) fun d s1 ⟨H1,I1,q1⟩ =>?_)
 cases d with
 | true=>exact ha zv s1 σ H1 D I1 q1
 | false=>exact hb zv s1 σ H1 D I1 q1
def a0c:TS:=fun _ _ _=>False
theorem amd:PS X st a0c:=fun _ _ _ _ _ _ h=>h.elim
end
abbrev TG:=V->St->Hp->(St->Hp->Prop)->Prop
abbrev TGs:=List V->St->Hp->(St->Hp->Prop)->Prop
def PG(X:Cx)(target:Expr)(t:TG):Prop :=
 ∀(zv:List (Addr×Obj)) (s:aF) (σ:St) (H:Hp) (v:V) (u:Value) (Q:St->Hp->Prop),Inv X zv σ H s->RelV v u->t v σ H Q ->
  wpAny (model X.prog X.w) X.A (oY target X.env u) (fun _ s'=>∃σ' H',Inv X zv σ' H' s'/\Q σ' H') X.xe s
def PGs(X:Cx)(ts:List Expr)(t:TGs):Prop :=
 ∀(zv:List (Addr×Obj)) (s:aF) (σ:St) (H:Hp) (vs:List V) (us:List Value) (Q:St->Hp->Prop),Inv X zv σ H s->Vals vs us->t vs σ H Q ->
  wpAny (model X.prog X.w) X.A (assignInOrder ((iQ ts X.env).map (·.2)) us) (fun _ s'=>∃σ' H',Inv X zv σ' H' s'/\Q σ' H') X.xe s
abbrev TSet:=V->V->V->Hp->(Hp->Prop)->Prop
def PSet(X:Cx)(t:TSet):Prop :=
 ∀(zv:List (Addr×Obj)) (s:aF) (σ:St) (H:Hp) (o i v:V) (ov iv u:Value) (Q:Hp->Prop),Inv X zv σ H s->RelV o ov->RelV i iv->RelV v u->t o i v H Q ->
  wpAny (model X.prog X.w) X.A (setItem ov iv u) (fun _ s'=>∃H',Inv X zv σ H' s'/\Q H') X.xe s
abbrev TIp:=V->V->Hp->VK->Prop
def PIp(X:Cx)(op:Operator)(t:TIp):Prop :=
 ∀(zv:List (Addr×Obj)) (s:aF) (σ:St) (H:Hp) (x y:V) (v u:Value) (Q:VK),Inv X zv σ H s->RelV x v->RelV y u->t x y H Q ->
  wpAny (model X.prog X.w) X.A (inplaceOp op v u) (EP X zv σ Q) X.xe s
section
variable{X:Cx}{pos:Pos}
def ay1(i:Nat):TG:=fun v σ H Q=>Q (σ.set i (some v)) H
theorem ax3{i:Nat}{x:Str}(hN:X.N.Nodup)(hi:X.N[i]? = some x)(hx:Loc X.env.scope x)(hf:X.fn x=true∨X.env.scope.names.lookup x=some .local:=by first | exact .inl rfl | exact .inr rfl | assumption):PG X (.Name x pos) (ay1 i):=by
 intro zv s σ H v u Q I r h;exact wpAny_assign_Name (abp I hN hi hx r (fun s' I'=>⟨_,H,I',h⟩) hf)
def gNil:TGs:=fun vs σ H Q=>vs=[]/\Q σ H
def a70(t:TG)(u:TGs):TGs:=fun vs σ H Q=>∃v r,vs=v::r/\t v σ H fun σ' H'=>u r σ' H' Q
theorem ax2:PGs X [] gNil:=by
 intro zv s σ H vs us Q I r h;obtain⟨e,h⟩:=h;subst e;cases r;exact assignInOrder_nil ⟨σ,H,I,h⟩
theorem auf{e:Expr}{es:List Expr}{t:TG}{u:TGs}(h1:PG X e t)(h2:PGs X es u)
  (hs:(iQ (e::es) X.env).map (·.2)=oY e X.env::(iQ es X.env).map (·.2):=by rfl):PGs X (e::es) (a70 t u):=by
 intro zv s σ H vs us Q I r h;obtain⟨v,vr,e1,h⟩:=h;subst e1;cases r with
 | cons r rr =>
  rw[hs];refine assignInOrder_cons (thn (h1 zv s σ H _ _ _ I r h) fun _ s1 ⟨σ1,H1,I1,q1⟩ =>?_)
  exact h2 zv s1 σ1 H1 _ _ Q I1 rr q1
def gTup(K:Fg9)(n:Nat)(t:TGs):TG:=fun v σ H Q=>∃a xs,v=.ref a/\SqT K H a xs/\xs.length=n/\t xs σ H Q
theorem a0y{es:List Expr}{k:Nat}{t:TGs}{n:Nat}(hc:X.calm=true)(h:PGs X es t)
  (hn:(iQ es X.env).length=n:=by rfl) (hst:(iQ es X.env).findIdx? (·.1)=none:=by rfl):PG X (.Tuple es k pos) (gTup X.K n t):=by
 intro zv s σ H v u Q I r hw;obtain⟨a,xs,e1,hq,hl,hw⟩:=hw;subst e1;cases r;obtain⟨its,rv,ht,hz⟩:=I.tuple hq;refine assign_Tuple_tuple (I.ok.hd hc) ht (by simp[hn,<-hl,rv.length]) hst fun h' hx =>?_
 have I1:Inv X zv σ H { s with heap:=h' }:=I.kept (t':=s.toks) fun b o e=>hx b o (bC (aP e)) e
 exact h zv _ σ H xs _ Q I1 (by simpa using rv) hw
def gSub(to ti:TE)(t:TSet):TG:=fun v σ H Q=>to σ H fun o H1=>ti σ H1 fun i H2=>t o i v H2 fun H3=>Q σ H3
theorem a0z{o i:Expr}{to ti:TE}{t:TSet}(ho:PE X o to)(hi:PE X i ti)(hs:PSet X t)
  (ha:∀v,oY (.Subscript o i pos) X.env v=(do
   let ov <-mQ [v] (eval o X.env)
   let iv <-mQ [v,ov] (eval i X.env)
   standAt pos
   mQ [v,ov,iv] (setItem ov iv v)
   release [v,ov,iv] []):=by intro _;rfl):PG X (.Subscript o i pos) (gSub to ti t):=by
 intro zv s σ H v u Q I r h;rw[ha];refine aA (dD (thn (ho zv s σ H _ I h) fun ov s1 ⟨x,H1,I1,r1,q1⟩ =>?_))
 refine aA (dD (thn (hi zv s1 σ H1 _ I1 q1) fun iv s2 ⟨y,H2,I2,r2,q2⟩ =>?_))
 refine aA (iH (aA (dD (thn (hs zv s2 σ H2 x y v ov iv u _ I2 r1 r2 r q2) fun _ s3 ⟨H3,I3,q3⟩ =>?_))))
 exact wpAny_release ⟨σ,H3,I3,q3⟩
def tAsg(te:TE)(g:TG):TS:=fun D σ H=>te σ H fun x H1=>g x σ H1 D.nx
theorem awg{tg e:Expr}{te:TE}{g:TG}(he:PE X e te)(hg:PG X tg g)(hs:swapsWithSole [tg] e pos.line X.env=pure false:=by rfl)(hw:swappedStores [tg] e X.env=pure none:=by rfl)
  (h1:(iQ [tg] X.env).map (·.2)=[oY tg X.env]:=by rfl):PS X (.Assign [tg] e pos) (tAsg te g):=by
 intro zv s σ H D I h;refine wpAny_Assign_stores (thn (he zv s σ H _ I h) fun v s1 ⟨x,H1,I1,r1,q1⟩ =>?_) hs hw
 rw[h1];exact thn (hg zv s1 σ H1 x v _ I1 r1 q1) fun _ s2 q=>q
theorem a0t{i:Nat}{x:Str}{e:Expr}{te:TE}{pos':Pos}(hN:X.N.Nodup)(hi:X.N[i]? = some x)(hx:Loc X.env.scope x)(he:PE X e te)(hs:lO e (some (.Name x pos')) pos.line X.env=pure false:=by rfl)(hf:X.fn x=true∨X.env.scope.names.lookup x=some .local:=by first | exact .inl rfl | exact .inr rfl | assumption) :
  PS X (.Assign [.Name x pos'] e pos) (tAsg te (ay1 i)):=by
 intro zv s σ H D I h;refine wpAny_Assign_Name (thn (he zv s σ H _ I h) fun v s1 ⟨y,H1,I1,r1,q1⟩ =>?_) hs
 exact abp I1 hN hi hx r1 (fun s2 I2=>⟨_,H1,I2,q1⟩) hf
def tPar(i j:Nat)(ta:TA):TS:=fun D σ H=>ta σ H fun vs H1=>∃v w,vs=[v,w]/\D.nx ((σ.set i (some v)).set j (some w)) H1
theorem a0v{i j:Nat}{x y:Str}{a b:Expr}{ta:TA}{px py pt:Pos}{kt k2 pt2}(hc:X.calm=true)(hN:X.N.Nodup)(hi:X.N[i]? = some x)(hj:X.N[j]? = some y)(hij:i≠j)
  (hx:X.env.scope.names.lookup x=some .local) (hy:X.env.scope.names.lookup y=some .local) (ha:PA X [a,b] ta)
  (hw:swappedStores [.Tuple [.Name x px,.Name y py] kt pt] (.Tuple [a,b] k2 pt2) X.env=pure (some [x,y]))
  (hs:swapsWithSole [.Tuple [.Name x px,.Name y py] kt pt] (.Tuple [a,b] k2 pt2) pos.line X.env=pure false:=by rfl) :
  PS X (.Assign [.Tuple [.Name x px,.Name y py] kt pt] (.Tuple [a,b] k2 pt2) pos) (tPar i j ta):=by
 intro zv s σ H D I h;rw[exec_Assign_arm];refine aA (iH ?_);rw[hs];refine aA (aD ?_);rw[if_neg (by decide)]
 refine aA (Tuple_ (thn (ha _ zv s σ H _ I h) fun us s1 ⟨vs,H1,I1,r1,q1⟩ =>?_))
 obtain⟨v,w,e1,q1⟩:=q1;subst e1;obtain⟨u1,u2,rfl,rv,rw'⟩:∃u1 u2,us=[u1,u2]/\RelV v u1/\RelV w u2:=by
  cases r1 with
  | cons p q =>
   cases q with
   | cons p' q' =>
    cases q';exact⟨_,_,rfl,p,p'⟩
 refine bR ?_ (by show 2<=bV;decide)
 have I2:Inv X zv σ H1 { s1 with heap:=s1.heap.push { cls:=.type "tuple", data:=.seq [u1,u2].toArray } }:=I1.kept (t':=s1.toks) fun b o e=>aB _ e
 rw[hw];refine aA (aD ?_);show wpAny (model X.prog X.w) X.A (do rule "assign.swapped-stores";let items <-unpackItems (.ref s1.heap.objs.size) 2 none;assignInOrder [fun v=>bindName X.env y v,fun v=>bindName X.env x v] items.reverse;pure tU) _ _ _
 refine aA (jV (aA (unpackItems_tuple (items := #[u1,u2]) (I.ok.hd hc) (IsTup.new s1.heap _) fun h' hx' =>?_)))
 have I3:=I2.kept (h':=h') (t':=s1.toks) fun b o e=>hx' b o (bC (aP e)) e
 show wpAny _ _ (assignInOrder [fun v=>bindName X.env y v,fun v=>bindName X.env x v] [u2,u1] >>= fun _=>pure tU) _ _ _
 refine aA (assignInOrder_cons (wpAny_bindName (abp I3 hN hj (.inl hy) rw' (fun s2 I4 =>?_) (.inr hy))))
 refine assignInOrder_cons (wpAny_bindName (abp I4 hN hi (.inl hx) rv (fun s3 I5=>assignInOrder_nil (aD ?_)) (.inr hx)))
 rw[List.set_comm _ _ (fO hij)] at I5;exact⟨_,H1,I5,q1⟩
def a5u(to ti te:TE)(tget:V->V->Hp->VK->Prop)(tip:TIp)(tset:TSet):TS:=fun D σ H=>to σ H fun o H1=>ti σ H1 fun i H2=>tget o i H2 fun x H3=>te σ H3 fun y H4=>tip x y H4 fun z H5=>tset o i z H5 fun H6=>D.nx σ H6
def PGet(X:Cx)(t:V->V->Hp->VK->Prop):Prop :=
 ∀(zv:List (Addr×Obj)) (s:aF) (σ:St) (H:Hp) (o i:V) (ov iv:Value) (Q:VK),Inv X zv σ H s->RelV o ov->RelV i iv->t o i H Q ->
  wpAny (model X.prog X.w) X.A (pU ov iv) (EP X zv σ Q) X.xe s
theorem axu{o i e:Expr}{to ti te:TE}{tget:V->V->Hp->VK->Prop}{tip:TIp}{tset:TSet}{op:Operator}{tpos:Pos}(ho:PE X o to)(hi:PE X i ti)(hg:PGet X tget)(he:PE X e te)(hp:PIp X op tip)(hs:PSet X tset)
  (ha:∀ov iv new,augStore i ov iv new=(do mQ [new,ov,iv] (setItem ov iv new);release [new,ov,iv] [];pure .next):=by intros;rfl):PS X (.AugAssign (.Subscript o i tpos) op e pos) (a5u to ti te tget tip tset):=by
 intro zv s σ H D I h;refine wpAny_AugAssign_SubscriptAny (thn (ho zv s σ H _ I h) fun ov s1 ⟨x1,H1,I1,r1,q1⟩ =>?_) ha
 refine thn (hi zv s1 σ H1 _ I1 q1) fun iv s2 ⟨x2,H2,I2,r2,q2⟩ =>?_
 refine thn (hg zv s2 σ H2 x1 x2 ov iv _ I2 r1 r2 q2) fun old s3 ⟨x3,H3,I3,r3,q3⟩ =>?_
 refine thn (he zv s3 σ H3 _ I3 q3) fun v s4 ⟨x4,H4,I4,r4,q4⟩ =>?_
 refine thn (hp zv s4 σ H4 x3 x4 old v _ I4 r3 r4 q4) fun new s5 ⟨x5,H5,I5,r5,q5⟩ =>?_
 exact thn (hs zv s5 σ H5 x1 x2 x5 ov iv new _ I5 r1 r2 r5 q5) fun _ s6 ⟨H6,I6,q6⟩=>⟨σ,H6,I6,q6⟩
def ipI(f:Int->Int->Int):TIp:=fun x y H Q=>∃i j,x=.int i/\y=.int j/\Q (.int (f i j)) H
theorem a2o:PIp X .Add (ipI fun i j=>i+j):=by
 intro zv s σ H x y v u Q I r1 r2 h;obtain⟨i,j,e1,e2,q⟩:=h;subst e1;subst e2;obtain⟨t,rfl⟩:=r1;obtain⟨t',rfl⟩:=r2;exact iadd_int ⟨.int _,H,I.tok _,⟨_,rfl⟩,q⟩
end
section
variable{X:Cx}{pos:Pos}
def a0b(c:TT)(tb:TS):TS:=fun D σ H=>∃W:Nat->St->Hp->Prop,(∃m,W m σ H)/\∀m σ H,W m σ H ->
 c σ H fun b H1=>if b=true then ∃N:St->Hp->Prop,(∀σ' H',N σ' H'->∃m',m' < m/\W m' σ' H')/\tb { D with nx:=N,ct:=N,bk:=D.nx } σ H1 else D.nx σ H1
theorem auc{c:Expr}{body:List Stmt}{tc:TT}{tb:TS}(hp:tK (model X.prog X.w) X.A X.env X.xe)(hc:PT X c tc)(hb:PSs X body tb):PS X (.While c body [] pos) (a0b tc tb):=by
 intro zv s σ H D I h;obtain⟨W,⟨m0,w0⟩,turn⟩:=h;refine wpAny_While (codeAny_whileLoop (fun n s'=>∃σ' H',Inv X zv σ' H' s'/\W n σ' H') ?_ m0 ⟨σ,H,I,w0⟩)
 rintro n s1 ⟨σ1,H1,I1,w1⟩
 refine wpAny_passesOwn hp (thn (hc zv s1 σ1 H1 _ I1 (turn n σ1 H1 w1)) fun b s2 ⟨H2,I2,q2⟩ =>?_)
 cases b with
 | true =>
  obtain⟨N,hN,q2⟩:=q2;rw[if_pos rfl];refine wpAny_passesOwn hp (thn (hb zv s2 σ1 H2 _ I2 q2) fun f s3 q3 =>?_)
  cases f with
  | next =>
   obtain⟨σ3,H3,I3,n3⟩:=q3;obtain⟨m',hm,w3⟩:=hN σ3 H3 n3;exact⟨m',hm,σ3,H3,I3,w3⟩
  | cont =>
   obtain⟨σ3,H3,I3,n3⟩:=q3;obtain⟨m',hm,w3⟩:=hN σ3 H3 n3;exact⟨m',hm,σ3,H3,I3,w3⟩
  | brk=>exact q3
  | ret v=>exact q3
 | false =>
  rw[if_neg bZ];exact wpAny_execs_nil ⟨σ1,H2,I2,q2⟩
end
structure It where
 go:Nat->Hp->Prop
 yld:Nat->Hp->V->Hp->Prop
 stop:Nat->Hp->Prop
def FpOk(X:Cx)(zv:List (Addr×Obj))(H:Hp)(b:Addr):Prop :=
 H b=none/\b≠X.env.locals/\b∉X.fs/\(b∈X.ex∨X.s₀.heap.objs.size<=b)/\(∀x c,X.env.cells.lookup x=some c->c≠b)/\∀p∈X.pn++zv,p.1≠b
theorem Inv.fpOk{X:Cx}{zv:List (Addr×Obj)}{σ:St}{H H':Hp}{s:aF}{b:Addr}(I:Inv X zv σ H s)(hb:s.heap.objs.size<=b)(hn:H' b=none):FpOk X zv H' b:=by
 refine⟨hn,fZ (bL I.lt hb),I.nofs hb,.inr (cM I.sz hb),fun x c e z =>?_,fun p hp z =>?_⟩
 ·obtain⟨v,q⟩:=I.cell x c e;exact absurd (bL q.lt (by rw[z];exact hb)) (kO _)
 ·exact absurd (bL (aP (I.pin p hp).1) (by rw[z];exact hb)) (kO _)
structure Turn (P:bJ) (w:World) (K:Fg9) (tg:Expr) (J:It) (fp:List Addr) (it:Addr) (tn:Nat->Heap->Prop):Prop where
 mem:it∈fp
 obj:∀i h,tn i h->∀b∈fp,∃o,h.get? b=some o/\∀v,o.data≠.cell v
 keep:∀i h h',tn i h->(∀b∈fp,∀o,h.get? b=some o->h'.get? b=some o)->tn i h'
 item:∀(X:Cx),X.prog=P->X.w=w->X.K=K->X.calm=true->∀(i:Nat) (zv:List (Addr×Obj)) (s:aF) (σ:St) (H:Hp) (E:Value->aF->Prop),Inv X zv σ H s->(∀b∈fp,FpOk X zv H b)->tn i s.heap->J.go i H ->
  wpAny (model P w) X.A (mX (.ref it)) (fun r s1=>∃u,r=some u /\
   wpAny (model P w) X.A (letOwnedTupleGo tg (.ref it) u) (fun _ s2=>∃x H',Inv X zv σ H' s2/\RelV x u/\J.yld i H x H'/\tn (i+1) s2.heap/\∀b∈fp,H' b=none) E s1) E s
 done:∀(X:Cx),X.prog=P->X.w=w->X.K=K->X.calm=true->∀(i:Nat) (zv:List (Addr×Obj)) (s:aF) (σ:St) (H:Hp) (E:Value->aF->Prop),Inv X zv σ H s->(∀b∈fp,FpOk X zv H b)->tn i s.heap->J.stop i H ->
  wpAny (model P w) X.A (mX (.ref it)) (fun r s1=>r=none/\Inv X zv σ H s1) E s
 self:∀(A:bW) (i:Nat) (s:aF) (Q:Value->aF->Prop) (E:Value->aF->Prop),tn i s.heap->Q (.ref it) s->wpAny (model P w) A (pyIter (.ref it)) Q E s
abbrev TI:=St->Hp->(It->Hp->Prop)->Prop
def PIE(X:Cx)(zv:List (Addr×Obj))(σ:St)(tg:Expr)(R:It->Hp->Prop)(itv:Value)(s2:aF):Prop :=
 ∃(it:Addr) (fp:List Addr) (tn:Nat->Heap->Prop) (J:It) (H':Hp),itv=.ref it/\Inv X zv σ H' s2/\Turn X.prog X.w X.K tg J fp it tn/\tn 0 s2.heap/\(∀b∈fp,FpOk X zv H' b)/\R J H'
def PI(X:Cx)(tg iter:Expr)(wi:TI):Prop :=
 ∀(zv:List (Addr×Obj)) (s:aF) (σ:St) (H:Hp) (R:It->Hp->Prop),Inv X zv σ H s->wi σ H R ->
  wpAny (model X.prog X.w) X.A (eval iter X.env) (fun v s1=>wpAny (model X.prog X.w) X.A (pyIter v) (PIE X zv σ tg R) X.xe s1) X.xe s
theorem avn{M:Model}{A:bW}{E:Value->aF->Prop}{s:aF}{tg:Expr}{it:Addr}{u:Value}{o:Obj}{n:String}{vs:Array Value}{Q:Unit->aF->Prop}(ho:s.heap.get? it=some o)(hc:o.cls=.type n)(hd:o.data=.fields vs)
  (hn:["enumerate","zip","dict_itemiterator","dict_reverseitemiterator","odict_iterator","itertools.zip_longest","itertools.pairwise"].contains n=false) (hQ:Q () s):wpAny M A (letOwnedTupleGo tg (.ref it) u) Q E s:=by
 unfold letOwnedTupleGo;cases tg <;> first
  | exact aD hQ
  | (cases u <;> first
    | exact aD hQ
    | (refine aA (wpAny_load ho ?_)
       rw[hc,hd];show wpAny M A (if (["enumerate","zip","dict_itemiterator","dict_reverseitemiterator","odict_iterator","itertools.zip_longest","itertools.pairwise"].contains n&&vs[0]? == some (jM _))=true then _ else _) Q E s
       rw[if_neg (by intro h;rw[hn,rY] at h;cases h)]
       exact aD hQ))
def Itl(K:Fg9)(a:Addr):It :=
 ⟨fun i H=>∃xs x,SqL K H a xs/\xs[i]? = some x,fun i H x H'=>H'=H/\∀xs,SqL K H a xs->xs[i]? = some x,fun i H=>∃xs,SqL K H a xs/\xs.length<=i⟩
def Itt(K:Fg9)(a:Addr):It :=
 ⟨fun i H=>∃xs x,SqT K H a xs/\xs[i]? = some x,fun i H x H'=>H'=H/\∀xs,SqT K H a xs->xs[i]? = some x,fun i H=>∃xs,SqT K H a xs/\xs.length<=i⟩
def Itr(lo:Int)(n:Nat):It:=⟨fun i _=>i < n,fun i H x H'=>H'=H/\x=.int (lo+i),fun i _=>n<=i⟩
theorem apq{P:bJ}{w:World}{K:Fg9}{tg:Expr}(a it:Addr):Turn P w K tg (Itl K a) [it] it (fun i h=>h.IsListIter it a i) where
 mem:=by simp
 obj:=fun i h st b hb=>by
  have e:b=it:=by simpa using hb
  subst e;obtain⟨o,e,c,d⟩:=st;exact⟨o,e,fun v z=>by rw[d] at z;cases z⟩
 keep:=fun i h h' st k=>st.at fun o e=>k it (by simp) o e
 item:=by
  intro X hP hw hK hc i zv s σ H E I hf st hg;subst hP hw hK;obtain⟨xs,x,hq,hx⟩:=hg;obtain⟨its,rv,p,hz⟩:=I.list hq;obtain⟨u,hu,ru⟩:=rv.get hx;obtain⟨f0,f1,f2,f3,f4,f5⟩:=hf it (by simp)
  refine wpAny_pyNext_list_item st p.isList (x:=u) (by simpa using hu) fun h' st' sb =>?_
  have I1:Inv X zv σ H { s with heap:=h' }:=I.turned (t':=s.toks) (fun b o hb e=>(sb.2 b hb).trans e) f0 f1 f3 f4 f5
  obtain⟨o,e,c,d⟩:=id st';exact⟨u,rfl,avn (s:={ s with heap:=h' }) e c d (by decide) ⟨x,H,I1,ru,⟨rfl,fun ys hy=>by rw[I.list_inj hy hq];exact hx⟩,st',fun b hb=>(hf b hb).1⟩⟩
 done:=by
  intro X hP hw hK hc i zv s σ H E I hf st hg;subst hP hw hK;obtain⟨xs,hq,hx⟩:=hg;obtain⟨its,rv,p,hz⟩:=I.list hq;obtain⟨f0,f1,f2,f3,f4,f5⟩:=hf it (by simp)
  have hl:=rv.length;exact wpAny_pyNext_list_end (I.ok.hd hc) st p.isList (by simp;omega) fun h' eb=>⟨rfl,I.turned (t':=s.toks) (fun b o hb e=>eb b o hb e) f0 f1 f3 f4 f5⟩
 self:=fun _ _ _ _ _ st h=>wpAny_pyIter_listiter st h
theorem anu{P:bJ}{w:World}{K:Fg9}{tg:Expr}(a it:Addr):Turn P w K tg (Itt K a) [it] it (fun i h=>h.IsTupleIter it a i) where
 mem:=by simp
 obj:=fun i h st b hb=>by
  have e:b=it:=by simpa using hb
  subst e;obtain⟨o,e,c,d⟩:=st;exact⟨o,e,fun v z=>by rw[d] at z;cases z⟩
 keep:=fun i h h' st k=>st.at fun o e=>k it (by simp) o e
 item:=by
  intro X hP hw hK hc i zv s σ H E I hf st hg;subst hP hw hK;obtain⟨xs,x,hq,hx⟩:=hg;obtain⟨its,rv,p,hz⟩:=I.tuple hq;obtain⟨u,hu,ru⟩:=rv.get hx;obtain⟨f0,f1,f2,f3,f4,f5⟩:=hf it (by simp)
  refine wpAny_pyNext_tuple_item st (show s.heap.IsTuple a its.toArray from p) (x:=u) (by simpa using hu) fun h' st' sb =>?_
  have I1:Inv X zv σ H { s with heap:=h' }:=I.turned (t':=s.toks) (fun b o hb e=>(sb.2 b hb).trans e) f0 f1 f3 f4 f5
  obtain⟨o,e,c,d⟩:=id st';exact⟨u,rfl,avn (s:={ s with heap:=h' }) e c d (by decide) ⟨x,H,I1,ru,⟨rfl,fun ys hy=>by rw[I.tuple_inj hy hq];exact hx⟩,st',fun b hb=>(hf b hb).1⟩⟩
 done:=by
  intro X hP hw hK hc i zv s σ H E I hf st hg;subst hP hw hK;obtain⟨xs,hq,hx⟩:=hg;obtain⟨its,rv,p,hz⟩:=I.tuple hq;obtain⟨f0,f1,f2,f3,f4,f5⟩:=hf it (by simp)
  have hl:=rv.length;exact wpAny_pyNext_tuple_end (I.ok.hd hc) st (show s.heap.IsTuple a its.toArray from p) (by simp;omega) fun h' eb=>⟨rfl,I.turned (t':=s.toks) (fun b o hb e=>eb b o hb e) f0 f1 f3 f4 f5⟩
 self:=fun _ _ _ _ _ st h=>wpAny_pyIter_tupleiter st h
theorem anv{P:bJ}{w:World}{K:Fg9}{tg:Expr}(it:Addr)(lo:Int)(n:Nat):Turn P w K tg (Itr lo n) [it] it (fun i h=>IsRangeIter h it (lo+(i:Nat)*1) ((n:Int) - (i:Nat)) 1) where
 mem:=by simp
 obj:=fun i h st b hb=>by
  have e:b=it:=by simpa using hb
  subst e;exact⟨_,st,fun v z=>by
   have z':Data.fields _=Data.cell v:=z;cases z'⟩
 keep:=fun i h h' st k=>k it (by simp) _ st
 item:=by
  intro X hP hw hK hc i zv s σ H E I hf st hg;subst hP hw hK;obtain⟨f0,f1,f2,f3,f4,f5⟩:=hf it (by simp)
  have W:=Walks.range (prog:=X.prog) (w:=X.w) (I.ok.hd hc) it lo 1 n;refine W.item i s _ _ hg st fun v h' tk hv st' kk =>?_
  obtain⟨t,rfl⟩:=hv;have I1:Inv X zv σ H { s with heap:=h',toks:=tk }:=I.turned (fun b o hb e=>kk b o (by simpa using hb) e) f0 f1 f3 f4 f5
  refine⟨_,rfl,avn (s:={ s with heap:=h',toks:=tk }) (n := "range_iterator") st' rfl rfl (by decide) ⟨.int (lo+i),H,I1,⟨t,?_⟩,⟨rfl,rfl⟩,st',fun b hb=>(hf b hb).1⟩⟩
  rw[Int.mul_one]
 done:=by
  intro X hP hw hK hc i zv s σ H E I hf st hg;subst hP hw hK;obtain⟨f0,f1,f2,f3,f4,f5⟩:=hf it (by simp)
  exact wpAny_pyNext_range_end (I.ok.hd hc) st (by have:n<=i:=hg;omega) fun h' eb=>⟨rfl,I.turned (t':=s.toks) (fun b o hb e=>eb b o hb e) f0 f1 f3 f4 f5⟩
 self:=fun _ _ _ _ _ st h=>wpAny_pyIter_rangeiter st h
section
variable{X:Cx}{tg:Expr}
def a7q(K:Fg9)(tl:TE):TI:=fun σ H R=>tl σ H fun x H1=>∃a,x=.ref a/\(∃xs,SqL K H1 a xs)/\R (Itl K a) H1
def iTup(K:Fg9)(tl:TE):TI:=fun σ H R=>tl σ H fun x H1=>∃a,x=.ref a/\(∃xs,SqT K H1 a xs)/\R (Itt K a) H1
theorem aqp{l:Expr}{tl:TE}(hl:PE X l tl):PI X tg l (a7q X.K tl):=by
 intro zv s σ H R I h;refine thn (hl zv s σ H _ I h) fun v s1 ⟨x,H1,I1,r1,q1⟩ =>?_
 obtain⟨a,e,⟨xs,hq⟩,q⟩:=q1;subst e;cases r1;obtain⟨its,rv,p,hz⟩:=I1.list hq;refine wpAny_pyIter_list p.isList ?_;refine⟨s1.heap.objs.size,[s1.heap.objs.size],_,_,H1,rfl,I1.kept (t':=s1.toks) fun b o e=>aB _ e,apq a _,⟨_,aL _ rfl,rfl,rfl⟩,fun b hb =>?_,q⟩
 have e:b=s1.heap.objs.size:=by simpa using hb
 subst e;exact I1.fpOk (aN _) (I1.hok.fresh (aN _))
theorem a0x{l:Expr}{tl:TE}(hl:PE X l tl):PI X tg l (iTup X.K tl):=by
 intro zv s σ H R I h;refine thn (hl zv s σ H _ I h) fun v s1 ⟨x,H1,I1,r1,q1⟩ =>?_
 obtain⟨a,e,⟨xs,hq⟩,q⟩:=q1;subst e;cases r1;obtain⟨its,rv,p,hz⟩:=I1.tuple hq;refine wpAny_pyIter_tuple (show s1.heap.IsTuple a its.toArray from p) ?_
 refine⟨s1.heap.objs.size,[s1.heap.objs.size],_,_,H1,rfl,I1.kept (t':=s1.toks) fun b o e=>aB _ e,anu a _,⟨_,aL _ rfl,rfl,rfl⟩,fun b hb =>?_,q⟩
 have e:b=s1.heap.objs.size:=by simpa using hb
 subst e;exact I1.fpOk (aN _) (I1.hok.fresh (aN _))
theorem amb{zv:List (Addr×Obj)}{σ:St}{H:Hp}{s:aF}{R:It->Hp->Prop}{E:Value->aF->Prop}{lo hi:Int}{t u v:Tok}{tk:Nat}(I:Inv X zv σ H s)(h1 : -(2 ^ 62)<=lo)(h2:lo < 2 ^ 62)(h3 : -(2 ^ 62)<=hi)(h4:hi < 2 ^ 62)
  (q:R (Itr lo (hi - lo).toNat) H):wpAny (model X.prog X.w) X.A (pyIter (.ref s.heap.objs.size)) (PIE X zv σ tg R) E { s with heap:=s.heap.push { cls:=.type "range", data:=.fields #[.int lo t,.int hi u,.int 1 v] },toks:=tk }:=by
 refine wpAny_pyIter_range (IsRange.new ..) (small_one h1 h2 h3 h4) ?_;have I1:Inv X zv σ H { s with heap:=s.heap.push { cls:=.type "range", data:=.fields #[.int lo t,.int hi u,.int 1 v] },toks:=tk }:=I.kept fun b o e=>aB _ e
 refine⟨(s.heap.push { cls:=.type "range", data:=.fields #[.int lo t,.int hi u,.int 1 v] }).objs.size,[(s.heap.push { cls:=.type "range", data:=.fields #[.int lo t,.int hi u,.int 1 v] }).objs.size],_,_,H,rfl,
  I1.kept (t':=tk) fun b o e=>aB _ e,anv _ lo (hi - lo).toNat,?_,fun b hb =>?_,q⟩
 ·have e1:lo+((0:Nat):Int)*1=lo:=by simp
  have e2:(((hi - lo).toNat:Nat):Int) - ((0:Nat):Int)=lC lo hi 1:=by rw[rangeSize_one];split <;> omega
  show IsRangeIter _ _ (lo+((0:Nat):Int)*1) ((((hi - lo).toNat:Nat):Int) - ((0:Nat):Int)) 1;rw[e1,e2];exact aL _ rfl
 ·have e:b=(s.heap.push { cls:=.type "range", data:=.fields #[.int lo t,.int hi u,.int 1 v] }).objs.size:=by simpa using hb
  subst e;exact I1.fpOk (aN _) (I1.hok.fresh (aN _))
def a7p(ta:TA):TI:=fun σ H R=>ta σ H fun vs H1=>∃j:Int,vs=[.int j] /\ -(2 ^ 62)<=j/\j < 2 ^ 62/\R (Itr 0 j.toNat) H1
def a7o(ta:TA):TI:=fun σ H R=>ta σ H fun vs H1=>∃i j:Int,vs=[.int i,.int j]/\(-(2 ^ 62)<=i/\i < 2 ^ 62 /\ -(2 ^ 62)<=j/\j < 2 ^ 62)/\R (Itr i (j - i).toNat) H1
theorem aqo{a:Expr}{ta:TA}{p pos:Pos}(hg:Gl X "range")(hm:X.mg "range" = none)(ha:PA X [a] ta)(hs:aQ [a] X.env=[(false,eval a X.env)]:=by rfl):PI X tg (.Call (.Name "range" p) [a] [] pos) (a7p ta):=by
 intro zv s σ H R I h;refine Call_ (aev I hg hm boot_range (fH (thn (ha pos zv s σ H _ I h) fun us s1 ⟨vs,H1,I1,r1,q1⟩ =>?_) hs rfl))
 obtain⟨j,e,q1,q2,q⟩:=q1;subst e;cases r1 with
 | cons r rr =>
  cases rr;obtain⟨t,rfl⟩:=r;exact call_range_1 (amb I1 (by omega) (by omega) q1 q2 (by simpa using q))
theorem aqn{a b:Expr}{ta:TA}{p pos:Pos}(hg:Gl X "range")(hm:X.mg "range" = none)(ha:PA X [a,b] ta)(hs:aQ [a,b] X.env=[(false,eval a X.env),(false,eval b X.env)]:=by rfl)(hs2:aQ [b] X.env=[(false,eval b X.env)]:=by rfl) :
  PI X tg (.Call (.Name "range" p) [a,b] [] pos) (a7o ta):=by
 intro zv s σ H R I h;refine Call_ (aev I hg hm boot_range (fH (thn (ha pos zv s σ H _ I h) fun us s1 ⟨vs,H1,I1,r1,q1⟩ =>?_) (by rw[hs,hs2]) (by rw[hs2];rfl)))
 obtain⟨i,j,e,⟨q1,q2,q3,q4⟩,q⟩:=q1;subst e;cases r1 with
 | cons r rr =>
  cases rr with
  | cons r' rr =>
   cases rr;obtain⟨t,rfl⟩:=r;obtain⟨t',rfl⟩:=r';exact call_range_2 (amb I1 q1 q2 q3 q4 q)
def tFor(wi:TI)(g:TG)(tb:TS):TS:=fun D σ H=>wi σ H fun J H1=>∃W:Nat->Nat->St->Hp->Prop,(∃m,W 0 m σ H1)/\∀i m σ H,W i m σ H ->
 (J.stop i H/\D.nx σ H)∨(J.go i H/\∃N:St->Hp->Prop,(∀σ' H',N σ' H'->∃m',m' < m/\W (i+1) m' σ' H')/\∀x H',J.yld i H x H'->g x σ H' fun σ2 H2=>tb { D with nx:=N,ct:=N,bk:=D.nx } σ2 H2)
def ai3(fp:List Addr)(h:Heap):List (Addr×Obj):=fp.filterMap fun b=>(h.get? b).map fun o=>(b,o)
theorem abv{fp:List Addr}{h:Heap}{b:Addr}{o:Obj}(hb:b∈fp)(e:h.get? b=some o):(b,o)∈ai3 fp h:=uY.mpr ⟨b,hb,by rw[e];rfl⟩
theorem aq0{fp:List Addr}{h:Heap}{p:Addr×Obj}(hp:p∈ai3 fp h):p.1∈fp/\h.get? p.1=some p.2:=by
 obtain⟨b,hb,e⟩:=uY.mp hp;cases q:h.get? b with
 | none=>rw[q] at e;cases e
 | some o =>
  rw[q] at e;have e':(b,o)=p:=bD e;subst e';exact⟨hb,q⟩
theorem Inv.pinned{zv:List (Addr×Obj)}{σ:St}{H:Hp}{s:aF}{fp:List Addr}(I:Inv X zv σ H s)(hf:∀b∈fp,FpOk X zv H b)(ho:∀b∈fp,∃o,s.heap.get? b=some o/\∀v,o.data≠.cell v):Inv X (zv++ai3 fp s.heap) σ H s :=
 I.pins_of fun p hp=>(cZ.mp hp).elim (fun z=>I.pin p (cG _ z)) fun z=>by
  obtain⟨hb,e⟩:=aq0 z;obtain⟨f0,f1,f2,_⟩:=hf p.1 hb;obtain⟨o,e',d⟩:=ho p.1 hb;rw[e] at e';cases e';exact⟨e,f0,f1,f2,d⟩
theorem Inv.unpinned{zv pl:List (Addr×Obj)}{σ:St}{H:Hp}{s:aF}(I:Inv X (zv++pl) σ H s):Inv X zv σ H s:=I.pins_of fun p hp=>I.pin p (cG _ (gR _ hp))
theorem a0w{iter:Expr}{body:List Stmt}{wi:TI}{g:TG}{tb:TS}{pos:Pos}(hp:tK (model X.prog X.w) X.A X.env X.xe)(hc:X.calm=true)(hi:PI X tg iter wi)(hg:PG X tg g)(hb:PSs X body tb)
  (hs:∀x,foldedSetIterable iter X.env x=pure x:=by intro _;rfl):PS X (.For tg iter body [] pos) (tFor wi g tb):=by
 intro zv s σ H D I h;refine wpAny_For (thn (hi zv s σ H _ I h) fun v s1 h1=>thn h1 fun itv s2 h2 =>?_) hs
 obtain⟨it,fp,tn,J,H2,e,I2,T,st2,f2,W,⟨m0,w0⟩,turn⟩:=h2;subst e;have stat:∀{H':Hp},(∀b∈fp,H' b=none)->∀b∈fp,FpOk X zv H' b:=fun hn b hb=>⟨hn b hb,(f2 b hb).2⟩
 refine codeAny_forLoop_any (fun n s'=>∃i σ' H',Inv X zv σ' H' s'/\tn i s'.heap/\(∀b∈fp,H' b=none)/\W i n σ' H') ?_ m0 ⟨0,σ,H2,I2,st2,fun b hb=>(f2 b hb).1,w0⟩
 rintro n s3 ⟨i,σ3,H3,I3,st3,fr3,w3⟩
 rcases turn i n σ3 H3 w3 with⟨stop,qn⟩ | ⟨go,N,hN,step⟩
 ·refine wpAny_passesOwn hp (thn (T.done X rfl rfl rfl hc i zv s3 σ3 H3 X.xe I3 (stat fr3) st3 stop) fun r s4 ⟨hr,I4⟩ =>?_)
  subst hr;exact wpAny_execs_nil ⟨σ3,H3,I4,qn⟩
 ·refine wpAny_passesOwn hp (thn (T.item X rfl rfl rfl hc i zv s3 σ3 H3 X.xe I3 (stat fr3) st3 go) fun r s4 ⟨u,hr,h4⟩ =>?_)
  subst hr;refine wpAny_passesOwn hp (thn h4 fun _ s5 ⟨x,H5,I5,r5,y5,st5,fr5⟩ =>?_)
  have I5':=I5.pinned (stat fr5) (T.obj _ _ st5);refine wpAny_passesOwn hp (thn (hg _ s5 σ3 H5 x u _ I5' r5 (step x H5 y5)) fun _ s6 ⟨σ6,H6,I6,q6⟩ =>?_)
  refine wpAny_passesOwn hp (thn (hb _ s6 σ6 H6 _ I6 q6) fun f s7 q7 =>?_)
  have again:∀{σ7:St} {H7:Hp},Inv X (zv++ai3 fp s5.heap) σ7 H7 s7->N σ7 H7->∃m,m < n/\∃i σ' H',Inv X zv σ' H' s7/\tn i s7.heap/\(∀b∈fp,H' b=none)/\W i m σ' H':=fun{σ7 H7} I7 n7=>by
   obtain⟨m',hm,w7⟩:=hN σ7 H7 n7;refine⟨m',hm,i+1,σ7,H7,I7.unpinned,T.keep _ _ _ st5 fun b hb o e=>(I7.pin (b,o) (cG _ (cG _ (abv hb e)))).1,fun b hb =>?_,w7⟩
   obtain⟨o,e,d⟩:=T.obj _ _ st5 b hb;exact(I7.pin (b,o) (cG _ (cG _ (abv hb e)))).2.1
  cases f with
  | next=>obtain⟨σ7,H7,I7,n7⟩:=q7;exact again I7 n7
  | cont=>obtain⟨σ7,H7,I7,n7⟩:=q7;exact again I7 n7
  | brk=>obtain⟨σ7,H7,I7,q7⟩:=q7;exact⟨σ7,H7,I7.unpinned,q7⟩
  | ret v=>obtain⟨x7,σ7,H7,I7,r7,q7⟩:=q7;exact⟨x7,σ7,H7,I7.unpinned,r7,q7⟩
end
abbrev R2:=V->V->Hp->VK->Prop
def OpR(X:Cx)(f:Value->Value->Sem Value)(r:R2):Prop :=
 ∀(zv:List (Addr×Obj)) (s:aF) (σ:St) (H:Hp) (x y:V) (v u:Value) (Q:VK),Inv X zv σ H s->RelV x v->RelV y u->r x y H Q ->
  wpAny (model X.prog X.w) X.A (f v u) (EP X zv σ Q) X.xe s
def UnR(X:Cx)(f:Value->Sem Value)(r:V->Hp->VK->Prop):Prop :=
 ∀(zv:List (Addr×Obj)) (s:aF) (σ:St) (H:Hp) (x:V) (v:Value) (Q:VK),Inv X zv σ H s->RelV x v->r x H Q ->
  wpAny (model X.prog X.w) X.A (f v) (EP X zv σ Q) X.xe s
def za(X:Cx)(f:Value)(r:List V->Hp->VK->Prop):Prop :=
 ∀(zv:List (Addr×Obj)) (s:aF) (σ:St) (H:Hp) (xs:List V) (us:List Value) (Q:VK),Inv X zv σ H s->Vals xs us->r xs H Q ->
  wpAny (model X.prog X.w) X.A (call f us) (EP X zv σ Q) X.xe s
def tOp(r:R2)(ta tb:TE):TE:=fun σ H Q=>ta σ H fun x H1=>tb σ H1 fun y H2=>r x y H2 Q
def tUn(r:V->Hp->VK->Prop)(ta:TE):TE:=fun σ H Q=>ta σ H fun x H1=>r x H1 Q
def rI(C:Int->Int->Prop)(g:Int->Int->V):R2:=fun x y H Q=>∃i j,x=.int i/\y=.int j/\C i j/\Q (g i j) H
def rI0(g:Int->Int->V):R2:=fun x y H Q=>∃i j,x=.int i/\y=.int j/\Q (g i j) H
def rU(g:Int->V):V->Hp->VK->Prop:=fun x H Q=>∃i,x=.int i/\Q (g i) H
section
variable{X:Cx}{a b c:Expr}{ta tb tc:TE}{pos:Pos}
theorem binT(ha:PE X a ta)(hb:PE X b tb){zv:List (Addr×Obj)}{s:aF}{σ:St}{H:Hp}{R:V->V->Hp->Prop}(I:Inv X zv σ H s)
  (h:ta σ H fun x H1=>tb σ H1 fun y H2=>R x y H2) {Q:Value->aF->Prop} {f:Value->Value->Sem Value}
  (hf:∀v u s2 x y H2,Inv X zv σ H2 s2->RelV x v->RelV y u->R x y H2->wpAny (model X.prog X.w) X.A (f v u) Q X.xe s2) :
  wpAny (model X.prog X.w) X.A (eval a X.env) (fun v s₁=>wpAny (model X.prog X.w) X.A (eval b X.env) (fun u s₂=>wpAny (model X.prog X.w) X.A (f v u) Q X.xe s₂) X.xe s₁) X.xe s:=by
 refine thn (ha zv s σ H _ I h) fun v s1 ⟨x,H1,I1,r1,q1⟩ =>?_
 refine thn (hb zv s1 σ H1 _ I1 q1) fun u s2 ⟨y,H2,I2,r2,q2⟩ =>?_
 exact hf v u s2 x y H2 I2 r1 r2 q2
theorem a6h{op:Operator}{r:R2}(ho:OpR X (fK op) r)(ha:PE X a ta)(hb:PE X b tb):PE X (.BinOp a op b pos) (tOp r ta tb):=by
 intro zv s σ H Q I h;exact wpAny_BinOp (binT ha hb I h fun v u s2 x y H2 I2 rx ry q=>ho zv s2 σ H2 x y v u Q I2 rx ry q)
theorem a6g{op:UnaryOp}{r:V->Hp->VK->Prop}(ho:UnR X (unaryOp op) r)(ha:PE X a ta):PE X (.UnaryOp op a pos) (tUn r ta):=by
 intro zv s σ H Q I h;exact UnaryOp_ (thn (ha zv s σ H _ I h) fun v s1 ⟨x,H1,I1,r1,q1⟩=>ho zv s1 σ H1 x v Q I1 r1 q1)
theorem opI{f:Value->Value->Sem Value}{C:Int->Int->Prop}{g:Int->Int->Int}
  (rule:∀(i j:Int) (t u:Tok) (s:aF) (Q:Value->aF->Prop) (E:Value->aF->Prop),C i j->Q (.int (g i j) s.toks) { s with toks:=s.toks+1 }->wpAny (model X.prog X.w) X.A (f (.int i t) (.int j u)) Q E s) :
  OpR X f (rI C fun i j=>.int (g i j)):=by
 intro zv s σ H x y v u Q I rx ry h;obtain⟨i,j,rfl,rfl,hc,q⟩:=h;obtain⟨t,rfl⟩:=rx;obtain⟨t',rfl⟩:=ry;exact rule i j t t' s _ _ hc ⟨.int (g i j),H,I.tok _,⟨_,rfl⟩,q⟩
theorem opI0{f:Value->Value->Sem Value}{g:Int->Int->Int}
  (rule:∀(i j:Int) (t u:Tok) (s:aF) (Q:Value->aF->Prop) (E:Value->aF->Prop),Q (.int (g i j) s.toks) { s with toks:=s.toks+1 }->wpAny (model X.prog X.w) X.A (f (.int i t) (.int j u)) Q E s) :
  OpR X f (rI0 fun i j=>.int (g i j)):=by
 intro zv s σ H x y v u Q I rx ry h;obtain⟨i,j,rfl,rfl,q⟩:=h;obtain⟨t,rfl⟩:=rx;obtain⟨t',rfl⟩:=ry;exact rule i j t t' s _ _ ⟨.int (g i j),H,I.tok _,⟨_,rfl⟩,q⟩
theorem opB0{f:Value->Value->Sem Value}{g:Int->Int->Bool}
  (rule:∀(i j:Int) (t u:Tok) (s:aF) (Q:Value->aF->Prop) (E:Value->aF->Prop),Q (.bool (g i j)) s->wpAny (model X.prog X.w) X.A (f (.int i t) (.int j u)) Q E s) :
  OpR X f (rI0 fun i j=>.bl (g i j)):=by
 intro zv s σ H x y v u Q I rx ry h;obtain⟨i,j,rfl,rfl,q⟩:=h;obtain⟨t,rfl⟩:=rx;obtain⟨t',rfl⟩:=ry;exact rule i j t t' s _ _ ⟨.bl (g i j),H,I,rfl,q⟩
def CPow(i j:Int):Prop:=0<=j/\j<=1000000/\i.natAbs < 2 ^ 64
def CMul(i j:Int):Prop:=(-(2 ^ 64) < i/\i < 2 ^ 64)∨(-(2 ^ 64) < j/\j < 2 ^ 64)
theorem CMul.ok{i j:Int}(h:CMul i j):IntMulOk i j:=by
 rcases h with⟨h1,h2⟩ | ⟨h1,h2⟩
 ·exact .of_left (intBits_le_64 h1 h2)
 ·exact .of_right (intBits_le_64 h1 h2)
theorem a1j:OpR X (fK .Add) (rI0 fun i j=>.int (i+j)):=opI0 fun _ _ _ _ _ _ _ q=>add_int q
theorem a1d:OpR X (fK .Sub) (rI0 fun i j=>.int (i - j)):=opI0 fun _ _ _ _ _ _ _ q=>sub_int q
theorem a1g:OpR X (fK .Mult) (rI CMul fun i j=>.int (i*j)):=opI fun _ _ _ _ _ _ _ hc q=>mul_int q hc.ok
theorem a1h:OpR X (fK .Mod) (rI (fun _ j=>0 < j) fun i j=>.int (i % j)):=opI fun i j _ _ _ _ _ hc q=>by
 have h1:(0:Int) < j:=hc;exact mod_int' (by omega) (by rw[rG i (by omega)];exact q)
theorem a1f:OpR X (fK .Pow) (rI CPow fun i j=>.int (i ^ j.toNat)):=opI fun _ _ _ _ _ _ _ hc q=>pow_int_small hc.1 hc.2.1 hc.2.2 q
theorem unI{f:Value->Sem Value}{g:Int->Int}
  (rule:∀(i:Int) (t:Tok) (s:aF) (Q:Value->aF->Prop) (E:Value->aF->Prop),Q (.int (g i) s.toks) { s with toks:=s.toks+1 }->wpAny (model X.prog X.w) X.A (f (.int i t)) Q E s) :
  UnR X f (rU fun i=>.int (g i)):=by
 intro zv s σ H x v Q I rx h;obtain⟨i,rfl,q⟩:=h;obtain⟨t,rfl⟩:=rx;exact rule i t s _ _ ⟨.int (g i),H,I.tok _,⟨_,rfl⟩,q⟩
theorem az8:UnR X (unaryOp .USub) (rU fun i=>.int (-i)):=unI fun _ _ _ _ _ q=>neg_int q
end
section
variable{X:Cx}{a b c:Expr}{ta tb tc:TE}{pos:Pos}
theorem a6m:OpR X (eY .Lt) (rI0 fun i j=>.bl (decide (i < j))):=opB0 fun _ _ _ _ _ _ _ q=>lt_int q
theorem aur:OpR X (eY .LtE) (rI0 fun i j=>.bl (decide (i<=j))):=opB0 fun _ _ _ _ _ _ _ q=>le_int q
theorem a6n:OpR X (eY .Gt) (rI0 fun i j=>.bl (decide (j < i))):=opB0 fun _ _ _ _ _ _ _ q=>gt_int q
theorem a6o:OpR X (eY .GtE) (rI0 fun i j=>.bl (decide (j<=i))):=opB0 fun _ _ _ _ _ _ _ q=>ge_int q
def isObj:HO->Bool
 | .lst _=>true
 | .ins _ _ _=>true
 | _=>false
theorem obj_there{zv:List (Addr×Obj)}{s:aF}{σ:St}{H:Hp}{a:Addr}{o:HO}(I:Inv X zv σ H s)(h:H a=some o)(p:isObj o=true):∃ob,s.heap.get? a=some ob/\ob.cls≠.type "tuple" := by
 cases o with
 | lst xs =>
  obtain⟨_,its,n,_,e⟩:xs.length<=bV/\∃(its:List Value) (n:Nat),Vals xs its/\s.heap.get? a=some { cls:=.type "list", data:=.seq its.toArray n }:=I.hok a _ h
  exact⟨_,e,(by show iR "list" ≠ .type "tuple";decide +kernel)⟩
 | ins C dx fs =>
  have x:=I.hok a _ h;obtain⟨_,_,_,e,_⟩:=x;exact⟨_,e,(by show cJ C≠.type "tuple";exact fun z=>by cases z)⟩
 | _=>exact absurd (show false=true from p) bZ
theorem OpR.or{f:Value->Value->Sem Value}{r r':R2}(h:OpR X f r)(h':OpR X f r'):OpR X f (fun x y H Q=>r x y H Q∨r' x y H Q):=by
 intro zv s σ H x y v u Q I rx ry q;rcases q with q | q
 ·exact h zv s σ H x y v u Q I rx ry q
 ·exact h' zv s σ H x y v u Q I rx ry q
theorem jo(b:Expr){op:CmpOp}(h:op≠.In:=by decide)(h2:op≠.NotIn:=by decide):iI op b=false:=by
 have e1:(op==CmpOp.In)=false:=by cases op <;> first | rfl | exact absurd rfl h
 have e2:(op==CmpOp.NotIn)=false:=by cases op <;> first | rfl | exact absurd rfl h2
 cases b <;> simp[iI,e1,e2]
theorem ax5{op:CmpOp}{r:R2}(ho:OpR X (eY op) r)(ha:PE X a ta)(hb:PE X b tb)(hm:iI op b=false):PE X (.Compare a [op] [b] pos) (tOp r ta tb):=by
 intro zv s σ H Q I h;exact wpAny_Compare1 (binT ha hb I h fun v u s2 x y H2 I2 rx ry q=>ho zv s2 σ H2 x y v u Q I2 rx ry q) hm
def a5o(t:TE):TT:=fun σ H Q=>t σ H fun x H'=>∃k,x=.bl k/\Q k H'
theorem axp{op:CmpOp}{r:R2}(ho:OpR X (eY op) r)(ha:PE X a ta)(hb:PE X b tb)(hm:iI op b=false):PT X (.Compare a [op] [b] pos) (a5o (tOp r ta tb)):=by
 intro zv s σ H Q I h;refine wpAny_isTrue_Compare1 (thn (ha zv s σ H _ I h) fun v s1 ⟨x,H1,I1,r1,q1⟩=>thn (hb zv s1 σ H1 _ I1 q1) fun u s2 ⟨y,H2,I2,r2,q2⟩ =>
  thn (ho zv s2 σ H2 x y v u _ I2 r1 r2 q2) fun c s3 ⟨z,H3,I3,r3,k,e,q3⟩ =>?_) hm
 subst e;cases r3;exact wpAny_truthy_bool ⟨H3,I3,q3⟩
def awc(r r':R2)(ta tb tc:TE):TE:=fun σ H Q=>ta σ H fun x H1=>tb σ H1 fun y H2=>r x y H2 fun z H3=>∃k,z=.bl k /\
 (if k=true then tc σ H3 fun w' H4=>r' y w' H4 Q else Q (.bl false) H3)
theorem auk{op op':CmpOp}{r r':R2}(ho:OpR X (eY op) r)(ho':OpR X (eY op') r')(ha:PE X a ta)(hb:PE X b tb)(hc:PE X c tc)
  (hm:lastMarks [op,op'] [b,c]=false:=by with_unfolding_all rfl):PE X (.Compare a [op,op'] [b,c] pos) (awc r r' ta tb tc):=by
 intro zv s σ H Q I h;refine Compare_chain (thn (ha zv s σ H _ I h) fun v s1 ⟨x,H1,I1,r1,q1⟩=>chain_link (thn (hb zv s1 σ H1 _ I1 q1) fun u s2 ⟨y,H2,I2,r2,q2⟩ =>
  thn (ho zv s2 σ H2 x y v u _ I2 r1 r2 q2) fun d s3 ⟨z,H3,I3,r3,k,e,q3⟩ =>?_)) hm
 subst e;cases r3;refine wpAny_truthy_bool ?_;cases k with
 | false=>exact ite_ff ⟨.bl false,H3,I3,rfl,q3⟩
 | true=>exact ite_tt (chain_last (thn (hc zv s3 σ H3 _ I3 q3) fun w' s4 ⟨z',H4,I4,r4,q4⟩=>ho' zv s4 σ H4 y z' u w' Q I4 r2 r4 q4))
theorem ajj:(bV:Nat) < 2 ^ 63:=by rw[gM];decide
theorem aon:OpR X (fK .Add) (fun x y H Q=>∃i j,x=.str i/\y=.str j/\i.length+j.length<=bV/\Q (.str (i++j)) H):=by
 intro zv s σ H x y v u Q I rx ry h;obtain⟨i,j,rfl,rfl,hz,q⟩:=h;obtain⟨t,rfl⟩:=rx;obtain⟨t',rfl⟩:=ry;exact add_str (fun t' tk=>⟨.str (i++j),H,I.tok _,⟨_,rfl⟩,q⟩) hz
theorem vals1{x:V}{us:List Value}(r:Vals [x] us):∃u,us=[u]/\RelV x u:=by
 cases r with
 | cons r1 r2=>cases r2;exact⟨_,rfl,r1⟩
theorem vals2{x y:V}{us:List Value}(r:Vals [x,y] us):∃u w',us=[u,w']/\RelV x u/\RelV y w':=by
 cases r with
 | cons r1 r2 =>
  cases r2 with
  | cons r3 r4=>cases r4;exact⟨_,_,rfl,r1,r3⟩
theorem av5:za X (.builtin "abs") (fun xs H Q=>∃i,xs=[.int i]/\Q (.int (if i < 0 then -i else i)) H):=by
 intro zv s σ H xs us Q I r h;obtain⟨i,rfl,q⟩:=h;obtain⟨u,rfl,t,rfl⟩:=vals1 r;exact call_abs_int fun u tk=>⟨.int (if i < 0 then -i else i),H,I.tok _,⟨_,rfl⟩,q⟩
theorem as6(hc:X.calm=true):za X (.builtin "max") (fun xs H Q=>∃i j,xs=[.int i,.int j]/\Q (.int (if j > i then j else i)) H):=by
 intro zv s σ H xs us Q I r h;obtain⟨i,j,rfl,q⟩:=h;obtain⟨u,w',rfl,⟨t,rfl⟩,⟨t',rfl⟩⟩:=vals2 r;refine max_two_ints (I.ok.hd hc) fun h' tk k=>⟨_,H,I.kept k,?_,q⟩
 by_cases hj:j > i
 ·rw[if_pos hj,if_pos hj];exact⟨_,rfl⟩
 ·rw[if_neg hj,if_neg hj];exact⟨_,rfl⟩
theorem aj8:za X (.type "int") (fun xs H Q=>(∃i,xs=[.int i]/\Q (.int i) H)∨∃k,xs=[.bl k]/\Q (.int (if k then 1 else 0)) H):=by
 intro zv s σ H xs us Q I r h;rcases h with⟨i,rfl,q⟩ | ⟨k,rfl,q⟩
 ·obtain⟨u,rfl,t,rfl⟩:=vals1 r;exact call_int_int ⟨.int i,H,I,⟨_,rfl⟩,q⟩
 ·obtain⟨u,rfl,r1⟩:=vals1 r;cases r1;exact call_int_bool ⟨.int (if k then 1 else 0),H,I.tok _,⟨_,rfl⟩,q⟩
end
structure ObjM (h:Heap) (x dx C:Addr) (mA:Str->Option Value):Prop where
 obj:h.get? x=some (iW C dx)
 ns:h.Ns1 dx mA
 ne:dx≠x
theorem aji{h:Heap}{dx:Addr}{mA:Str->Option Value}(n:h.Ns1 dx mA):∃od,h.get? dx=some od/\∀name,rO name od=some (mA name):=by
 obtain⟨o,es,ep,ho,hd,hk,_,hm⟩:=n;refine⟨o,ho,fun name =>?_⟩
 have e:=hm name;unfold nsFind findBy at e;rw[<-vG] at e;unfold rO;rw[hd];dsimp only;split
 ·rename_i y q;rw[q] at e;exact congrArg some e
 ·rename_i q;rw[q] at e;have a:es.toList.any (·.refKey)=false:=by
   rw[List.any_eq_false];intro y hy;obtain⟨z,t,hkey⟩:=hk y (Array.mem_toList_iff.mp hy);simp[DictEntry.refKey,hkey]
  have a':¬es.toList.any (·.refKey)=true:=by rw[a];exact bZ
  rw[if_neg a'];exact congrArg some e
theorem ObjM.look{h:Heap}{x dx C:Addr}{mA:Str->Option Value}(I:ObjM h x dx C mA):∃od,fY h x (iW C dx) C (some od)/\∀name,rO name od=some (mA name) :=
 let ⟨od,ho,hl⟩:=aji I.ns
 ⟨od,⟨I.obj,rfl,rfl,ho⟩,hl⟩
section
variable{prog:bJ}{w:World}{A:bW}{E:Value->aF->Prop}{s:aF}{K:Fg9}{x dx C f:Addr}{mA:Str->Option Value}{name:Str}{v:Value}
end
section
variable{P:bJ}{w:World}{H H':Hp}{h h':Heap}{a C dx:Addr}{fs fs':List (Str×V)}
theorem ayx(hok:HOk P w H h)(e:H a=some (.ins C dx fs)):∃mA,ObjM h a dx C mA/\(∀f,RelO (fs.lookup f) (mA f))/\PySem.Within mA (fs.map (·.1))/\fs.length<=1000/\H dx=some (.own a):=by
 obtain⟨d,z,ne,ob,mA,n,r,q⟩:=(show v9 P w H h a (.ins C dx fs) from hok a _ e)
 exact⟨mA,⟨ob,n,ne⟩,r,q,z,d⟩
end
structure Cls (K:Fg9) (C:Addr):Prop where
 pg:wI K C Str.empty=true
 hd:lH K C=true
 po:PySem.W.plainOver K C=true
 sa:lE K (.ref C) "__setattr__" = some (some (.builtin "object.__setattr__"))
theorem Cls.get{K:Fg9}{C:Addr}(c:Cls K C)(f:Str):wI K C f=true:=c.pg
structure Con (K:Fg9) (C:Addr) (f:Str) (v:V) (u:Value):Prop where
 at_:lE K (.ref C) f=some (some u)
 rel:RelV v u
 get:lG K u "__get__" = some none
 cp:PySem.W.copiedNames.contains f=false
structure Meth (K:Fg9) (C:Addr) (m:Str) (f:Addr):Prop where
 at_:lE K (.ref C) m=some (some (.ref f))
 fn:PySem.W.isFn K (.ref f)=true
 kp:dI K (.ref f)=true
section
variable{X:Cx}{zv:List (Addr×Obj)}{σ:St}{H:Hp}{s:aF}{a C dx:Addr}{fs:List (Str×V)}{f:Str}{v:V}{A:bW}{E:Value->aF->Prop}
theorem Inv.made(I:Inv X zv σ H s):Inv X zv σ (upd (upd H s.heap.objs.size (.own (s.heap.objs.size+1))) (s.heap.objs.size+1) (.ins C s.heap.objs.size []))
  { s with heap:=(s.heap.push gU).push (iW C s.heap.objs.size) }:=by
 have e1:(s.heap.push gU).get? s.heap.objs.size=some gU:=aL s.heap rfl;have e2:((s.heap.push gU).push (iW C s.heap.objs.size)).get? (s.heap.objs.size+1)=some (iW C s.heap.objs.size):=by
  have:=aL (s.heap.push gU) (o:=iW C s.heap.objs.size) rfl;rwa[cB] at this
 have e3:(s.heap.push gU).Ns s.heap.objs.size (fun _=>none):=⟨PySem.W.emptyDict,#[],_,e1,rfl,(fun e he=>absurd he (by simp)),fun _=>rfl⟩
 have I1:=I.laid (a:=s.heap.objs.size) (o:=.own (s.heap.objs.size+1)) (h':=s.heap.push gU) (t':=s.toks) (fun b u q=>aB _ q) (aN _) ⟨_,e1⟩
 refine I1.laid (a:=s.heap.objs.size+1) (o:=.ins C s.heap.objs.size []) (t':=s.toks) (fun b u q=>aB _ q) (tL (cB _ _)) ?_
 have ne:s.heap.objs.size≠s.heap.objs.size+1:=bC (jU _);refine⟨by rw[dj ne,gq],gA _,ne,e2,fun _=>none,(vY e3).at fun o q=>aB _ q,fun _=>mZ,fun y hy=>absurd rfl hy⟩
theorem azs{prog:bJ}{w:World}{env:Env}{e:Expr}{f:Str}{pos:Pos}{s:aF}{Q:Value->aF->Prop}(hb:attributeBase e f env (eval e env)=eval e env)
  (h:wpAny (model prog w) A (eval e env) (fun o s₁=>wpAny (model prog w) A (getAttr o f true) Q E s₁) E s):wpAny (model prog w) A (eval (.Attribute e f pos) env) Q E s :=
 Attribute_any_ h (by rw[arm_eval_Attribute,hb])
end
section
variable{X:Cx}{o e value:Expr}{f:Str}{pos pos' tpos:Pos}{ta tv:TE}
end
section
variable{X:Cx}{zv:List (Addr×Obj)}{σ:St}{H:Hp}{s:aF}{A:bW}{E:Value->aF->Prop}{Q:Value->aF->Prop}{c:Value}{b:Bool}
inductive TyOf (K:Fg9) (H:Hp):V->Value->Prop where
 | non:TyOf K H .non (.type "NoneType")
 | bl (x:Bool):TyOf K H (.bl x) (.type "bool")
 | int (i:Int):TyOf K H (.int i) (.type "int")
 | str (x:Str):TyOf K H (.str x) (.type "str")
 | flt (x:UInt64):TyOf K H (.flt x) (.type "float")
 | lst {a:Addr} {xs:List V} (e:H a=some (.lst xs)):TyOf K H (.ref a) (.type "list")
 | frz {a:Addr} {o:Obj} {xs:List V} (e:H a=some (.frz o (.lst xs))):TyOf K H (.ref a) (.type "list")
 | tup {a:Addr} {xs:List V} (e:H a=some (.tup xs)):TyOf K H (.ref a) (.type "tuple")
 | dK {a:Addr} {kvs:List (Key×V)} (e:H a=some (.dK kvs)):TyOf K H (.ref a) (.type "dict")
 | dT {a:Addr} {kvs:List (List Key×V)} (e:H a=some (.dT kvs)):TyOf K H (.ref a) (.type "dict")
 | ins {a C dx:Addr} {fs:List (Str×V)} (e:H a=some (.ins C dx fs)) (cl:Cls K C) (ha:lE K (.ref C) "__class__" = some (some (.builtin "object.__class__")))
   (hn:lG K (.builtin "object.__class__") "__get__" = some (some (.builtin "getset_descriptor.__get__"))) (htk:oG K (.builtin "object.__class__")=some true)
   (hm:kI K C (.type "object")=some true):TyOf K H (.ref a) (.ref C)
theorem ark{x:V}{u t:Value}(I:Inv X zv σ H s)(rx:RelV x u)(ty:TyOf X.K H x t)(e:fX X.K t c=some b)(h:∀tk,Q (.bool b) { s with toks:=tk }) :
  wpAny (model X.prog X.w) A (call (.builtin "isinstance") [u,c]) Q E s:=by
 cases ty with
 | non=>cases(show u=cF from rx);exact cY PySem.W.kitx_none I.kIn mZ e (fun z=>nomatch z) h
 | bl y=>cases(show u=pX y from rx);exact cY PySem.W.kitx_bool I.kIn mZ e (fun z=>nomatch z) h
 | int i=>obtain⟨t,q⟩:=(show ∃t,u=mY i t from rx);cases q;exact cY PySem.W.kitx_int I.kIn mZ e (fun z=>nomatch z) h
 | str y=>obtain⟨t,q⟩:=(show ∃t,u=tG y t from rx);cases q;exact cY PySem.W.kitx_str I.kIn mZ e (fun z=>nomatch z) h
 | flt y=>obtain⟨t,q⟩:=(show ∃t,u=uD y t from rx);cases q;exact cY PySem.W.kitx_float I.kIn mZ e (fun z=>nomatch z) h
 | @lst a xs ea =>
  cases(show u=cJ a from rx)
  obtain⟨_,_,n,_,h1⟩:=(show v9 X.prog X.w H s.heap a (.lst xs) from I.hok a _ ea)
  exact cY pZ I.kIn ⟨_,h1,rfl⟩ e (fun z=>nomatch z) h
 | @frz a ob xs ea =>
  cases(show u=cJ a from rx)
  obtain⟨_,_,_,n,_,h1⟩:=(show v9 X.prog X.w H s.heap a (.frz ob (.lst xs)) from I.hok a _ ea)
  exact cY pZ I.kIn ⟨_,h1,rfl⟩ e (fun z=>nomatch z) h
 | @tup a xs ea =>
  cases(show u=cJ a from rx)
  obtain⟨_,_,_,p⟩:=(show v9 X.prog X.w H s.heap a (.tup xs) from I.hok a _ ea)
  obtain⟨o,h1,h2,_⟩:=p;exact cY PySem.W.kitx_tuple I.kIn ⟨o,h1,h2⟩ e (fun z=>nomatch z) h
 | @dK a kvs ea =>
  cases(show u=cJ a from rx)
  obtain⟨_,_,vs,_,p⟩:=(show v9 X.prog X.w H s.heap a (.dK kvs) from I.hok a _ ea)
  obtain⟨o,es,ep,h1,h2,_⟩:=p;exact cY vL I.kIn ⟨o,h1,h2.1⟩ e (fun z=>nomatch z) h
 | @dT a kvs ea =>
  cases(show u=cJ a from rx)
  obtain⟨_,_,xs,_,o,es,ep,h1,h2,_⟩:=(show v9 X.prog X.w H s.heap a (.dT kvs) from I.hok a _ ea)
  exact cY vL I.kIn ⟨o,h1,h2.1⟩ e (fun z=>nomatch z) h
 | @ins a C dx fs ea cl ha hn htk hm =>
  cases(show u=cJ a from rx)
  obtain⟨mA,O,_⟩:=ayx I.hok ea;obtain⟨od,J,_⟩:=O.look;exact cY (PySem.W.kitx_own (cl.get _) cl.hd ha hn htk hm) I.kIn J e (fun z=>nomatch z) h
end
structure Room (k:Nat) (A:bW):Prop where
 hd:A.handled=none
 dp:A.depth+3*k+5 < recursionLimit
 un:A.units+16*k+200 < cLine
 gd:A.guards=some []
theorem Room.mono{j k:Nat}{A:bW}(r:Room k A)(h:j<=k):Room j A:=⟨r.hd,by have:=r.dp;omega,by have:=r.un;omega,r.gd⟩
theorem Room.deeper{k:Nat}{A:bW}(r:Room (k+1) A)(env:Env):Room k (A.deeper env) :=
 ⟨r.hd,by have:=r.dp;show A.depth+1+3*k+5 < _;omega,by have:=r.un;show A.units+3+16*k+200 < _;omega,r.gd⟩
theorem Room.in1{k:Nat}{A:bW}(r:Room (k+1) A):Room k A.in1 :=
 ⟨r.hd,by have:=r.dp;show A.depth+3*k+5 < _;omega,by have:=r.un;show A.units+1+16*k+200 < _;omega,r.gd⟩
theorem aow{A:bW}{C:Addr}{us:List Value}{kw:List (Str×Value)}:(A.under (.builtin "type.__call__" ⟨.ref C::us,kw⟩)).depth=A.depth+1:=by
 first | rfl | simp[qM,Code.weight,xN,Code.isGuard,yF,uP,qK,guardIds]
theorem aov{A:bW}{C:Addr}{us:List Value}{kw:List (Str×Value)}:(A.under (.builtin "type.__call__" ⟨.ref C::us,kw⟩)).units=A.units+1:=by
 first | rfl | simp[qM,Code.cUnits,uP,qK]
theorem ak9{A:bW}{C:Addr}{us:List Value}{kw:List (Str×Value)}:(A.under (.builtin "type.__call__" ⟨.ref C::us,kw⟩)).guards=A.guards:=by first | rfl | simp[qM,Code.weight,xN,Code.isGuard,yF,uP,qK,guardIds]
theorem Room.make{k:Nat}{A:bW}(r:Room (k+1) A)(C:Addr)(us:List Value)(kw:List (Str×Value)):Room k (A.under (.builtin "type.__call__" ⟨.ref C::us,kw⟩)) :=
 ⟨r.hd,by have:=r.dp;rw[aow];omega,by have:=r.un;rw[aov];omega,by rw[ak9];exact r.gd⟩
theorem Room.depth{k:Nat}{A:bW}(r:Room k A):A.depth < recursionLimit:=by have:=r.dp;omega
theorem Room.units{k:Nat}{A:bW}(r:Room k A):A.units+64 < cLine:=by have:=r.un;omega
def tNil:TA:=fun _ H Q=>Q [] H
def a5t(ta:TE)(tr:TA):TA:=fun σ H Q=>ta σ H fun x H1=>tr σ H1 fun xs H2=>Q (x::xs) H2
section
variable{X:Cx}{e:Expr}{es:List Expr}{te:TE}{t:TA}{pos:Pos}
theorem ac9:PA X [] tNil:=fun _ _ _ _ H Q I h=>Calls.spliced_nil ⟨[],H,I,.nil,h⟩
theorem uf(ha:PE X e te)(hr:PA X es t)(hs:aQ (e::es) X.env=(false,eval e X.env)::aQ es X.env:=by rfl):PA X (e::es) (a5t te t):=by
 intro pos zv s σ H Q I h;rw[hs];show wpAny _ _ (spliced ((false,eval e X.env)::iG pos (aQ es X.env))) _ _ s;refine mO (thn (ha zv s σ H _ I h) fun u s1 ⟨x,H1,I1,r1,q1⟩ =>?_)
 exact thn (hr pos zv s1 σ H1 _ I1 q1) fun us s2 ⟨xs,H2,I2,r2,q2⟩=>⟨x::xs,H2,I2,.cons r1 r2,q2⟩
def tTup(t:TA):TE:=fun σ H Q=>t σ H fun xs H1=>xs.length<=bV/\∀p,H1 p=none->Q (.ref p) (upd H1 p (.tup xs))
def tLst(t:TA):TE:=fun σ H Q=>t σ H fun xs H1=>xs.length<=bV/\∀p,H1 p=none->Q (.ref p) (upd H1 p (.lst xs))
theorem a01{x1}(h:PA X es t):PE X (.Tuple es x1 pos) (tTup t):=by
 intro zv s σ H Q I hq;refine wpAny_Tuple_spliced (thn (h pos zv s σ H _ I hq) fun us s1 ⟨xs,H1,I1,r,z,q⟩=>⟨by rw[<-r.length];exact z,?_⟩)
 have hf:H1 s1.heap.objs.size=none:=I1.hok.fresh (aN _);refine⟨.ref s1.heap.objs.size,upd H1 s1.heap.objs.size (.tup xs),I1.laid (t':=s1.toks) (fun b u e=>aB _ e) (aN _) ?_,rfl,q _ hf⟩
 exact⟨z,us,r,⟨_,aL _ rfl,rfl,rfl,_,rfl⟩⟩
theorem a06(h:PA X es t):PE X (.List es pos) (tLst t):=by
 intro zv s σ H Q I hq;refine wpAny_List_spliced (thn (h pos zv s σ H _ I hq) fun us s1 ⟨xs,H1,I1,r,z,q⟩=>⟨by rw[<-r.length];exact z,?_⟩)
 have hf:H1 s1.heap.objs.size=none:=I1.hok.fresh (aN _);refine⟨.ref s1.heap.objs.size,upd H1 s1.heap.objs.size (.lst xs),I1.laid (t':=s1.toks) (fun b u e=>aB _ e) (aN _) ?_,rfl,q _ hf⟩
 exact⟨z,us,0,r,aL _ rfl⟩
end
abbrev Sp:=List V->Hp->VK->XK->Prop
abbrev CXT:=List Env->Hp->aF->XK->Value->aF->Prop
structure Env0 (P:bJ) (w:World) (K:Fg9) (mg:Str->Option Value) (base:Heap) (A:bW) (outer:List Env) (s:aF) (H:Hp):Prop where
 frames:A.frames=some outer
 mod:Mod K mg base
 bs:∀b o,base.get? b=some o->s.heap.get? b=some o/\H b=none
 bsz:base.objs.size<=s.heap.objs.size
 funs:s.heap.FunFrames base outer
 frf:∀b∈frs outer,H b=none
 hok:HOk P w H s.heap
 bare:oU s.gens
def CE(outer:List Env)(P:bJ)(w:World)(H:Hp)(s:aF)(Q:VK)(u:Value)(s':aF):Prop :=
 ∃v H',s'.os=s.os/\oU s'.gens/\Un (frs outer) [] H H' s.heap s'.heap/\HOk P w H' s'.heap/\RelV v u/\Q v H'
def CR(CX:CXT)(outer:List Env)(P:bJ)(w:World)(H:Hp)(s:aF)(Q:VK)(E:XK)(r:Result)(s':aF):Prop :=
 match r with
 | .ok (.ret u)=>CE outer P w H s Q u s'
 | .ok _=>False
 | .error e=>CX outer H s E e s'
structure FnOk (P:bJ) (w:World) (K:Fg9) (mg:Str->Option Value) (base:Heap) (CX:CXT) (k:Nat) (f:Addr) (fd:eG) (ps:List Str) (sp:Sp):Prop where
 len:∀vs H Q E,sp vs H Q E->vs.length=ps.length
 run:∀(A:bW) (outer:List Env) (s:aF) (H:Hp) (args:Args) (us:List Value) (vs:List V) (Q:VK) (E:XK),Room k A->Env0 P w K mg base A outer s H->nW s fd args (ps.zip us)->Vals vs us->sp vs H Q E ->
  nJ (model P w) A (.call (.ref f) args) (CR CX outer P w H s Q E) s
theorem FnOk.mono{P:bJ}{w:World}{K:Fg9}{mg:Str->Option Value}{base:Heap}{CX:CXT}{j k:Nat}{f:Addr}{fd:eG}{ps:List Str}{sp:Sp}(F:FnOk P w K mg base CX j f fd ps sp)(h:j<=k) :
  FnOk P w K mg base CX k f fd ps sp:=⟨F.len,fun A outer s H args us vs Q E hr=>F.run A outer s H args us vs Q E (hr.mono h)⟩
theorem FnOk.imp{P:bJ}{w:World}{K:Fg9}{mg:Str->Option Value}{base:Heap}{CX:CXT}{k:Nat}{f:Addr}{fd:eG}{ps:List Str}{sp sp':Sp}(F:FnOk P w K mg base CX k f fd ps sp)
  (h:∀vs H Q E,sp' vs H Q E->sp vs H Q E):FnOk P w K mg base CX k f fd ps sp' :=
 ⟨fun vs H Q E q=>F.len vs H Q E (h _ _ _ _ q),fun A outer s H args us vs Q E hr he hb hv hs=>F.run A outer s H args us vs Q E hr he hb hv (h _ _ _ _ hs)⟩
theorem Env0.make{P:bJ}{w:World}{K:Fg9}{mg:Str->Option Value}{base:Heap}{A:bW}{outer:List Env}{s:aF}{H:Hp}(e:Env0 P w K mg base A outer s H)(C:Addr)(us:List Value)(kw:List (Str×Value)) :
  Env0 P w K mg base (A.under (.builtin "type.__call__" ⟨.ref C::us,kw⟩)) outer s H:=⟨by first | exact e.frames | (simpa[qM,Code.envs,qK,pushEnvs] using e.frames),e.mod,e.bs,e.bsz,e.funs,e.frf,e.hok,e.bare⟩
theorem Env0.in1{P:bJ}{w:World}{K:Fg9}{mg:Str->Option Value}{base:Heap}{A:bW}{outer:List Env}{s:aF}{H:Hp}(e:Env0 P w K mg base A outer s H) :
  Env0 P w K mg base A.in1 outer s H:=⟨e.frames,e.mod,e.bs,e.bsz,e.funs,e.frf,e.hok,e.bare⟩
section
variable{X:Cx}{zv:List (Addr×Obj)}{σ:St}{H:Hp}{s s':aF}
theorem Inv.env0(I:Inv X zv σ H s):Env0 X.prog X.w X.K X.mg X.base X.A X.stack s H :=
 ⟨I.ok.frames,I.ok.mod,I.bs,cM I.ok.bsz I.sz,I.stack,I.stkFree,I.hok,I.bare⟩
theorem Inv.after{Q:VK}{u:Value}(I:Inv X zv σ H s)(h:CE X.stack X.prog X.w H s Q u s'):EP X zv σ Q u s':=by
 obtain⟨v,H',os,bare,un,hok,r,q⟩:=h;obtain⟨hh,g,d,t,os'⟩:=s';obtain rfl:os'=s.os:=os;exact⟨v,H',I.call (h':=hh) (g':=g) (d':=d) (t':=t) (ch:=[]) un hok bare (fun b z=>absurd z (by simp)),r,q⟩
end
def axg(sp:Sp)(dvs:List V)(E:XK)(t:TA):TE:=fun σ H Q=>t σ H fun vs H1=>sp (vs++dvs) H1 Q E
def Binds(K:Fg9)(fd:eG)(ps:List Str)(ds:List Value):Prop :=
 ∀(s:aF) (us:List Value),K.In s.heap->(us++ds).length=ps.length->nW s fd ⟨us,[]⟩ (ps.zip (us++ds))
theorem Binds.all{K:Fg9}{fd:eG}{ps:List Str}(h:∀us:List Value,us.length=ps.length->bindArgs fd ⟨us,[]⟩=pure (ps.zip us)):Binds K fd ps []:=fun s us _ hl=>by
 rw[iC] at hl ⊢
 exact .of_eq (h us hl)
def ati(CX:CXT)(X:Cx)(E:XK):Prop:=∀(zv:List (Addr×Obj)) (σ:St) (H:Hp) (s:aF) (e:Value) (s':aF),Inv X zv σ H s->CX X.stack H s E e s'->X.xe e s'
section
variable{X:Cx}{CX:CXT}{k:Nat}{f C:Addr}{fd:eG}{ps:List Str}{sp:Sp}{dvs:List V}{ds:List Value}{E:XK}{x m:Str}{p pos apos:Pos}{e o:Expr}{es:List Expr}{ta:TE}{t:TA}
theorem a0k{zv:List (Addr×Obj)}{σ:St}{H:Hp}{s:aF}{Q:VK}{us:List Value}{vs:List V}(F:FnOk X.prog X.w X.K X.mg X.base CX k f fd ps sp)(hr:Room k X.A)(hb:Binds X.K fd ps ds)(hd:Vals dvs ds)(hx:ati CX X E)
  (I:Inv X zv σ H s) (r:Vals vs us) (h:sp (vs++dvs) H Q E):wpAny (model X.prog X.w) X.A (call (.ref f) us) (EP X zv σ Q) X.xe s:=by
 have r2:Vals (vs++dvs) (us++ds):=r.append hd;have hl:(us++ds).length=ps.length:=by rw[<-r2.length];exact F.len _ _ _ _ h
 refine lX (jW (F.run X.A X.stack s H ⟨us,[]⟩ (us++ds) (vs++dvs) Q E hr I.env0 (hb s us I.kIn hl) r2 h) fun r s' hq =>?_)
 cases r with
 | error e=>exact hx zv σ H s e s' I hq
 | ok fl =>
  cases fl with
  | ret u=>exact I.after hq
  | next=>exact dH hq
  | brk=>exact dH hq
  | cont=>exact dH hq
theorem ax6(F:FnOk X.prog X.w X.K X.mg X.base CX k f fd ps sp)(hr:Room k X.A)(hg:Gl X x)(hm:X.mg x=some (.ref f))(hk:dI X.K (.ref f)=true)(hb:Binds X.K fd ps ds)(hd:Vals dvs ds)(hx:ati CX X E)
  (ha:PA X (e::es) t) (hdb:(x==("__debug__" : Str))=false:=by decide) (he:aQ (e::es) X.env=(false,eval e X.env)::aQ es X.env:=by rfl) (hpl:(iG pos (aQ es X.env)).any (·.1)=false:=by rfl) :
  PE X (.Call (.Name x p) (e::es) [] pos) (axg sp dvs E t):=by
 intro zv s σ H Q I h;refine wpAny_Call_Name_kw (ack I hg hm ?_ hdb);refine mG (h₀:=X.base) I.ok.mod.kin hk (thn (ha pos zv s σ H _ I h) fun us s1 ⟨vs,H1,I1,r,q⟩=>⟨I1.kIn,?_⟩) he hpl
 exact a0k F hr hb hd hx I1 r q
structure Mk (K:Fg9) (C f:Addr):Prop where
 makes:PySem.W.makesIn K C=true
 init:lE K (.ref C) "__init__" = some (some (.ref f))
 fn:PySem.W.isFn K (.ref f)=true
 kp:dI K (.ref C)=true
end
section
variable{X:Cx}{CX:CXT}{k:Nat}{f C:Addr}{fd:eG}{ps ks:List Str}{sp:Sp}{E:XK}{x m:Str}{p pos apos kpos:Pos}{e o:Expr}{es:List Expr}{kws:List pF}{te ta:TE}{t tk:TA}{nm:Option Str}
structure KBinds (K:Fg9) (fd:eG) (ps ks:List Str) (g:List Value->List Value->List Value) (gV:List V->List V->List V):Prop where
 to:∀(s:aF) (us ws:List Value),K.In s.heap->(g us ws).length=ps.length->nW s fd ⟨us,ks.zip ws⟩ (ps.zip (g us ws))
 rel:∀{vs:List V} {us:List Value} {zs:List V} {ws:List Value},Vals vs us->Vals zs ws->Vals (gV vs zs) (g us ws)
variable{g:List Value->List Value->List Value}{gV:List V->List V->List V}
end
structure FnScope (N P:List Str) (sc:Scope):Prop where
 kind:sc.kind=.function
 co:sc.isCoroutine=false
 gen:sc.isGenerator=false
 nd:N.Nodup
 pre:N.take P.length=P
 par:∀x∈P,sc.names.lookup x=some .local∨sc.names.lookup x=some .cell
 nofree:∀y∈sc.names,y.2≠.free
theorem akc{kindOf:Str->Option sV}{x:Str}:∀{binds:List (Str×Value)} {m:Str->Option Value},(∀v,(x,v)∉binds)->bindL kindOf binds m x=m x
 | [],_,_=>rfl
 | (n,v)::r,m,h=>by
  unfold bindL;rw[akc fun w hw=>h w (aX _ hw)]
  split
  ·have:x≠n:=by rintro rfl;exact h v bB
   simp[this]
  ·rfl
theorem ake{kindOf:Str->Option sV}{x:Str}:∀{binds:List (Str×Value)} {m:Str->Option Value},(∀v,(x,v)∉binds)->bindC kindOf binds m x=m x
 | [],_,_=>rfl
 | (n,v)::r,m,h=>by
  unfold bindC;rw[ake fun w hw=>h w (aX _ hw)]
  split
  ·rfl
  ·have:x≠n:=by rintro rfl;exact h v bB
   simp[this]
theorem akd{kindOf:Str->Option sV}{x:Str}{v:Value}:∀{P:List Str} {vs:List Value} {i:Nat} {m:Str->Option Value},P.Nodup->P[i]? = some x->vs[i]? = some v->kindOf x=some .local ->
  bindL kindOf (P.zip vs) m x=some v
 | [],_,_,_,_,h,_,_=>by simp at h
 | _::_,[],_,_,_,_,h,_=>by simp at h
 | p::P,w::vs,0,m,nd,h1,h2,hk=>by
  simp at h1 h2;subst h1;subst h2;show bindL kindOf ((p,w)::P.zip vs) m p=_;unfold bindL;rw[akc fun v hv=>(oK.mp nd).1 (oJ hv).1,if_pos hk]
  simp
 | p::P,w::vs,i+1,m,nd,h1,h2,hk=>by
  show bindL kindOf ((p,w)::P.zip vs) m x=_;unfold bindL;exact akd (i:=i) (oK.mp nd).2 (by simpa using h1) (by simpa using h2) hk
theorem akf{kindOf:Str->Option sV}{x:Str}{v:Value}:∀{P:List Str} {vs:List Value} {i:Nat} {m:Str->Option Value},P.Nodup->P[i]? = some x->vs[i]? = some v->kindOf x≠some .local ->
  bindC kindOf (P.zip vs) m x=some v
 | [],_,_,_,_,h,_,_=>by simp at h
 | _::_,[],_,_,_,_,h,_=>by simp at h
 | p::P,w::vs,0,m,nd,h1,h2,hk=>by
  simp at h1 h2;subst h1;subst h2;show bindC kindOf ((p,w)::P.zip vs) m p=_;unfold bindC;rw[ake fun v hv=>(oK.mp nd).1 (oJ hv).1,if_neg hk]
  simp
 | p::P,w::vs,i+1,m,nd,h1,h2,hk=>by
  show bindC kindOf ((p,w)::P.zip vs) m x=_;unfold bindC;exact akf (i:=i) (oK.mp nd).2 (by simpa using h1) (by simpa using h2) hk
noncomputable def start(N:List Str)(vs:List V):St:=vs.map some++aM (N.length - vs.length) none
noncomputable def cxOf(CX:CXT)(P:bJ)(w:World)(K:Fg9)(mg:Str->Option Value)(base:Heap)(N:List Str)(qual:Str)(scope:Scope)(f:Addr)(cd:Value)(A:bW)(outer:List Env)(s:aF)(H:Hp)(E:XK):Cx where
 prog:=P
 w:=w
 K:=K
 mg:=mg
 base:=base
 A:=A.deeper (nY qual scope s.heap.objs.size f cd)
 N:=N
 s₀:=s
 H₀:=H
 env:=nY qual scope s.heap.objs.size f cd
 outer:=outer
 stack:=nY qual scope s.heap.objs.size f cd::outer
 ex:=[]
 calm:=true
 fn:=fun _=>true
 pn:=[]
 xe:=fun e s'=>wpAny (model P w) (A.deeper (nY qual scope s.heap.objs.size f cd)) (leaving (nY qual scope s.heap.objs.size f cd) e) (fun _ s''=>CX outer H s E e s'') (fun e' s''=>CX outer H s E e' s'') s'
theorem ane{sc:Scope}{n:Nat}{x:Str}(h:sc.names.lookup x=some .cell):∃c,(cellsFrom n sc.names []).lookup x=some c:=by
 have q:=oE sc.names n [] (.inl h);exact sE.mp q
theorem ajo{CX:CXT}{P:bJ}{w:World}{K:Fg9}{mg:Str->Option Value}{base:Heap}{N ps:List Str}{qual:Str}{scope:Scope}{f:Addr}{cd:Value}{A:bW}{outer:List Env}{s s1:aF}{H:Hp}{E:XK}{us:List Value}{vs:List V}
  (S:FnScope N ps scope) (hd:A.handled=none) (e0:Env0 P w K mg base A outer s H) (hl:vs.length=ps.length) (r:Vals vs us)
  (x:InCallC s s.heap.objs.size (bindL (nY qual scope s.heap.objs.size f cd).kindOf (ps.zip us) fun _=>none) (cellsFrom (s.heap.objs.size+1) scope.names []) (bindC (nY qual scope s.heap.objs.size f cd).kindOf (ps.zip us) fun _=>none) s1) :
  Inv (cxOf CX P w K mg base N qual scope f cd A outer s H E) [] (start N vs) H s1:=by
 have hpl:ps.length<=N.length:=by have:=congrArg List.length S.pre;rw[fJ] at this;omega
 obtain⟨h1,tk,rfl,hk⟩:=x.done;have noA:∀b:Addr,b∉(cxOf CX P w K mg base N qual scope f cd A outer s H E).ex:=fun b z=>absurd (show b∈([]:List Addr) from z) (by simp)
 refine⟨⟨e0.mod,S.kind,rfl,rfl,aN _,fun y z c h1 h2 =>?_,fun y hy =>?_,fun y c _ h =>?_,fun _=>hd,uB e0.frames,.inr ⟨rfl,rfl⟩,fun b z=>absurd z (noA b),e0.bs,e0.bsz,fun b _ _=>noA b,fun b z=>absurd z (noA b),e0.funs,e0.frf⟩,
  rfl,e0.bare,Un.kept hk,⟨_,x.toInCall.ns,fun i y v h1 h2 h3 =>?_⟩,fun y c h=>⟨_,x.cell y c h⟩,e0.hok.fresh (aN _),fun y c h =>?_,fun p hp=>absurd (show p∈([]:List (Addr×Obj)) from hp) (by simp),e0.hok.kept hk,?_⟩
 ·exact name_of_addr x.apart (iJ h1) (iJ h2)
 ·have hy:scope.names.lookup y=some .cell∨scope.names.lookup y=some .free:=hy;rcases hy with hy | hy
  ·exact ane hy
  ·exact absurd rfl (S.nofree _ (iJ hy))
 ·exact mJ (x.above y c (iJ h))
 ·have hi:i < vs.length:=by
   unfold start at h2
   by_cases hi:i < vs.length
   ·exact hi
   ·rw[gF (by simpa using hi)] at h2
    rw[kY] at h2;split at h2 <;> cases h2
  have ha:vs[i]? = some v:=by
   unfold start at h2;rw[cH (by simpa using hi),aO] at h2
   cases e:vs[i]? with
   | none=>rw[e] at h2;cases h2
   | some a=>rw[e] at h2;cases h2;rfl
  obtain⟨u,hu,rv⟩:=r.get ha;have hp:ps[i]? = some y:=by
   rw[<-S.pre,jY (by omega)];exact h1
  have ndP:ps.Nodup:=by rw[<-S.pre];exact S.nd.sublist (vP _ _)
  refine⟨u,rv,?_⟩;rcases S.par y (jO hp) with k | k
  ·exact .inl ⟨k,akd ndP hp hu k⟩
  ·obtain⟨c,e⟩:=ane (n:=s.heap.objs.size+1) k;refine .inr ⟨.inl k,c,e,?_⟩;have q:=x.cell y c e;rw[akf ndP hp hu (by show scope.names.lookup y≠_;rw[k];decide)] at q
   exact q
 ·exact e0.hok.fresh (mJ (x.above y c (iJ h)))
 ·unfold start;show _=N.length;rw[eE,aU,iZ];omega
theorem a2z{CX:CXT}{P:bJ}{w:World}{K:Fg9}{mg:Str->Option Value}{base:Heap}{k:Nat}{f:Addr}{name qual:Str}{params:Arguments}{body:List Stmt}{scope:Scope}{dV kV doc pm cdv ct oc:Value}{an od:Option Addr}
  {osl:Array (Option Value)} {N ps:List Str} {sp:Sp} (lk:K.lookup f=some ⟨oc,od,.func (fnOf name qual params body scope dV kV doc pm an cdv ct),osl⟩) (hcd:eX K cdv qual=true) (S:FnScope N ps scope)
  (len:∀vs H Q E,sp vs H Q E->vs.length=ps.length)
  (hbody:∀(A:bW) (outer:List Env) (s:aF) (H:Hp) (vs:List V) (Q:VK) (E:XK),Room k (A.deeper (nY qual scope s.heap.objs.size f cdv))->sp vs H Q E ->
   ∃t,PSs (cxOf CX P w K mg base N qual scope f cdv A outer s H E) body t/\t { nx:=fun _ H'=>Q .non H',rt:=Q } (start N vs) H) :
  FnOk P w K mg base CX (k+1) f (fnOf name qual params body scope dV kV doc pm an cdv ct) ps sp:=by
 refine⟨len,fun A outer s H args us vs Q E hr e0 hb r hsp =>?_⟩
 have hl:=len _ _ _ _ hsp;have KX:K.In s.heap:=e0.mod.kin.keeps fun b o e=>(e0.bs b o e).1
 have lim:s.heap.NoLimit:=e0.mod.nolimit.keeps fun b o e=>(e0.bs b o e).1
 have hkind:∀y∈ps.zip us,scope.names.lookup y.1=some .local∨(scope.names.lookup y.1=some .cell/\((cellsFrom (s.heap.objs.size+1) scope.names []).lookup y.1).isSome=true):=fun⟨n,v⟩ hy=>by
  rcases S.par n (oJ hy).1 with q | q
  ·exact .inl q
  ·exact .inr ⟨q,oE _ _ _ (.inl q)⟩
 refine codeAny_call_function hr.depth (KX _ _ lk) rfl S.co S.gen rfl (uU KX hcd) (hb _ _ _ _ ?_);refine wpAny_newFunctionEnv_cells S.kind hkind fun env he s1 x =>?_
 subst he;refine⟨lim.keeps x.toInCall.keep,codeAny_func ?_⟩;obtain⟨t,ht,hq⟩:=hbody A outer s H vs Q E (hr.deeper _) hsp;have I:Inv (cxOf CX P w K mg base N qual scope f cdv A outer s H E) [] (start N vs) H s1:=ajo S hr.hd e0 hl r x;refine aW (ht [] s1 (start N vs) H _ I hq) (fun fl s' hs =>?_) fun e s' hs=>hs
 have fin:∀{σ':St} {H':Hp} {v:V} {u:Value},Inv (cxOf CX P w K mg base N qual scope f cdv A outer s H E) [] σ' H' s'->RelV v u->Q v H'->CE outer P w H s Q u s' :=
  fun{σ' H' v u} J rv q=>⟨v,H',J.os,J.bare,J.base,J.hok,rv,q⟩
 cases fl with
 | ret u =>
  obtain⟨v,σ',H',J,rv,q⟩:=hs;exact fin J rv q
 | next =>
  obtain⟨σ',H',J,q⟩:=hs;exact fin (v:=V.non) (u:=cF) J rfl q
 | brk =>
  obtain⟨_,_,_,q⟩:=hs;exact dH q
 | cont =>
  obtain⟨_,_,_,q⟩:=hs;exact dH q
section
variable{X:Cx}{x:Str}{p pos:Pos}{e:Expr}{es:List Expr}{t:TA}{id T:String}{r:List V->Hp->VK->Prop}
def tCB(r:List V->Hp->VK->Prop)(t:TA):TE:=fun σ H Q=>t σ H fun vs H1=>r vs H1 Q
theorem ac8(hc:za X (.builtin id) r)(hg:Gl X x)(hm:X.mg x=none)(hv:bN x=some (.builtin id))(ha:PA X (e::es) t)(hn:x ≠ "__name__" := by decide)(hdb:(x==("__debug__" : Str))=false:=by decide)
  (he:aQ (e::es) X.env=(false,eval e X.env)::aQ es X.env:=by rfl) (hpl:(iG pos (aQ es X.env)).any (·.1)=false:=by rfl):PE X (.Call (.Name x p) (e::es) [] pos) (tCB r t):=by
 intro zv s σ H Q I h;refine wpAny_Call_Name_kw (aev I hg hm hv ?_ hn hdb);exact PyProof.Rows.callWith_builtin1 (thn (ha pos zv s σ H _ I h) fun us s1 ⟨vs,H1,I1,r1,q1⟩=>hc zv s1 σ H1 vs us Q I1 r1 q1) he hpl
theorem ac7(hc:za X (.type T) r)(hg:Gl X x)(hm:X.mg x=none)(hv:bN x=some (.type T))(ha:PA X (e::es) t)(hn:x ≠ "__name__" := by decide)(hdb:(x==("__debug__" : Str))=false:=by decide)
  (he:aQ (e::es) X.env=(false,eval e X.env)::aQ es X.env:=by rfl) (hpl:(iG pos (aQ es X.env)).any (·.1)=false:=by rfl):PE X (.Call (.Name x p) (e::es) [] pos) (tCB r t):=by
 intro zv s σ H Q I h;refine wpAny_Call_Name_kw (aev I hg hm hv ?_ hn hdb);exact fH (thn (ha pos zv s σ H _ I h) fun us s1 ⟨vs,H1,I1,r1,q1⟩=>hc zv s1 σ H1 vs us Q I1 r1 q1) he hpl
end
end L2
namespace HT
open PySem PyProof.Rows
section
open PySem.SeqAt
open PySem.AutoSeq1 (wpAny_loadPart')
open PySem.MeetsSeq PySem.MeetsSeq2 PySem.MeetsSeq3
end
section
variable{prog:bJ}{w:World}{A:bW}{E:Value->aF->Prop}{s:aF}
theorem azo{t b:Addr}{vs ws:List Value}{Q:Value->aF->Prop}(ht:IsTup s.heap t vs.toArray)(hb:IsTup s.heap b ws.toArray)(hv:vs≠[])
  (h1:ws=[]->Q (.ref t) s) (h2:ws≠[]->Q (.ref s.heap.objs.size) { s with heap:=s.heap.push { cls:=.type "tuple", data:=.seq (vs++ws).toArray } })
  (hsz:vs.length+ws.length<=bV):wpAny (model prog w) A (fK .Add (.ref t) (.ref b)) Q E s:=by
 obtain⟨⟨cls,dd,data,sl⟩,ho,hc,n,hd⟩:=id ht;obtain⟨⟨cls2,dd2,data2,sl2⟩,ho2,hc2,n2,hd2⟩:=id hb;simp only at hc hd hc2 hd2;subst hc hd hc2 hd2;have e:vs.toArray++ws.toArray=(vs++ws).toArray:=by simp
 by_cases hw:ws=[]
 ·exact concat_meets ⟨_,ho,rfl⟩ ⟨_,ho2,rfl⟩ noFill_tuple_add seq_tuple_add oF nQ (nA _ _)
   (tuple_addW1 t b vs.toArray ws.toArray n n2 dd dd2 sl sl2 (by simpa using hv) (by simp[hw])) ⟨ho,ho2,h1 hw⟩
 ·refine concat_meets ⟨_,ho,rfl⟩ ⟨_,ho2,rfl⟩ noFill_tuple_add seq_tuple_add oF nQ (nA _ _)
   (tuple_addW2 t b vs.toArray ws.toArray n n2 dd dd2 sl sl2 (by simpa using hv) (by simpa using hw) (by rw[aR,aR];exact hsz)) ⟨ho,ho2,?_⟩
  rw[e];exact h2 hw
noncomputable def sIx(n d:Nat):Option Int->Nat
 | none=>d
 | some v=>if v < 0 then (v+(n:Int)).toNat else min v.toNat n
theorem a0i(n d:Nat)(hd:d<=n)(o:Option Int):sIx n d o<=n:=by
 cases o with
 | none=>exact hd
 | some v =>
  show(if v < 0 then (v+(n:Int)).toNat else min v.toNat n)<=n
  by_cases hv:v < 0
  ·rw[if_pos hv];omega
  ·rw[if_neg hv];exact Nat.min_le_right _ _
theorem asv(v:Int)(n d:Nat):(if v < 0 then max (v+(n:Int)) 0 else min v (n:Int))=((sIx n d (some v):Nat):Int):=by
 show(if v < 0 then max (v+(n:Int)) 0 else min v (n:Int))=(((if v < 0 then (v+(n:Int)).toNat else min v.toNat n):Nat):Int)
 by_cases hv:v < 0
 ·simp only[if_pos hv];omega
 ·simp only[if_neg hv];omega
theorem ao8(lo hi:Option Int)(n:Nat):mV lo hi 1 (n:Int)=(((sIx n 0 lo:Nat):Int),((sIx n n hi:Nat):Int)):=by
 have h1:¬((1:Int) < 0):=by omega
 unfold mV;simp only[h1,if_false];refine Prod.ext ?_ ?_
 ·cases lo with
  | none=>rfl
  | some v=>exact asv v n 0
 ·cases hi with
  | none=>rfl
  | some v=>exact asv v n n
theorem aok(i j:Nat):jR (i:Int) (j:Int) 1=j - i:=by
 unfold jR;have h1:(1:Int) > 0:=by omega
 simp only[h1,if_true,Int.ediv_one];split <;> omega
theorem ag2{v:Value}{o:Option Int}{Q:Option Int->aF->Prop}(p:qH v o)(h:Q o s):wpAny (model prog w) A (Builtin.Slice.slicePartIndex v) Q E s:=by
 cases p with
 | none=>exact slicePart_none h
 | int i t=>exact slicePart_int h
theorem aay{sl:Addr}{vl vu:Value}{lo hi:Option Int}{n:Nat}{Q:Int×Int×Nat->aF->Prop}(hs:s.heap.IsSliceOf sl vl vu .none)(pl:qH vl lo)(pu:qH vu hi)
  (h:Q (((sIx n 0 lo:Nat):Int),1,sIx n n hi - sIx n 0 lo) s):wpAny (model prog w) A (rN (.ref sl) (pure (n:Int))) Q E s:=by
 obtain⟨os,hos,hcs,hds⟩:=id hs;unfold rN Builtin.Slice.sliceFields;refine aA (aA (cU hos hds (x:=vl) rfl (aA (cU hos hds (x:=vu) rfl (aA (cU hos hds (x:=.none) rfl (aD ?_)))))));refine aA (slicePart_none ?_);show wpAny _ _ (if ((1:Int)==0)=true then _ else _) _ _ s
 rw[if_neg (by decide)]
 refine aA (ag2 pl (aA (ag2 pu (aA (aD ?_)))));show wpAny _ _ (match mV lo hi 1 (n:Int) with | (lo,hi)=>pure (lo,(1:Int),jR lo hi 1)) _ _ s
 rw[ao8 lo hi n];show wpAny _ _ (pure (((sIx n 0 lo:Nat):Int),(1:Int),jR ((sIx n 0 lo:Nat):Int) ((sIx n n hi:Nat):Int) 1)) _ _ s;rw[aok];exact aD h
theorem aue(xs:Array Value)(i k:Nat):((aJ k).filterMap fun(m:Nat)=>xs[((i:Int)+(m:Int)*1).toNat]?).toArray=((xs.toList.drop i).take k).toArray:=by
 have e:(fun(m:Nat)=>xs[((i:Int)+(m:Int)*1).toNat]?)=fun m=>xs[i+m]? := by
  funext m
  have:((i:Int)+(m:Int)*1).toNat=i+m:=by omega
  rw[this]
 rw[e];have:=pick_run xs i k;rw[List.filterMap_map] at this;have e2:((fun x=>xs[x]?)∘fun x=>i+x)=fun m=>xs[i+m]? := rfl
 rw[e2] at this;rw[this]
theorem aec{t sl:Addr}{items:Array Value}{vl vu:Value}{lo hi:Option Int}{Q:Value->aF->Prop}(ht:IsTup s.heap t items)(hs:s.heap.IsSliceOf sl vl vu .none)(pl:qH vl lo)(pu:qH vu hi)
  (hw:¬(sIx items.size 0 lo=0/\sIx items.size items.size hi=items.size))
  (h:Q (.ref s.heap.objs.size) { s with heap:=s.heap.push { cls:=.type "tuple", data:=.seq ((items.toList.drop (sIx items.size 0 lo)).take (sIx items.size items.size hi - sIx items.size 0 lo)).toArray } })
  (hsz:items.size<=bV):wpAny (model prog w) A (pU (.ref t) (.ref sl)) Q E s:=by
 have htake:sizeOk (.seq ((items.toList.drop (sIx items.size 0 lo)).take (sIx items.size items.size hi - sIx items.size 0 lo)).toArray):=by
  show((items.toList.drop (sIx items.size 0 lo)).take (sIx items.size items.size hi - sIx items.size 0 lo)).toArray.size<=bV;rw[aR,fJ,iM,bH];omega
 have hj:sIx items.size items.size hi<=items.size:=a0i _ _ (aN _) hi;obtain⟨os,hos,hcs,hds⟩:=id hs;have hTs:s.TypeIs (.ref sl) "slice" := ⟨os,hos,hcs⟩;unfold pU
 try with_reducible refine dD ?_
 first | refine aA (aD ?_) | skip
 refine aA (wpAny_sequenceKey ht.typeIs (by decide) ?_)
 refine aA (cW (name:=iV "__getitem__") ht.typeIs dY
  (dU dY ht.typeIs entry_tuple_getitem ?_ (args_tuple_getitem _ _)))
 show wpAny _ _ (rM (.ref t) >>= _) _ _ s;refine aA (tupleItemsOf_ ht ?_);refine aA (wpAny_typeOf hTs ?_);rw[if_pos (by decide)]
 refine aA (aay hs pl pu ?_);have hno:¬((((sIx items.size 0 lo:Nat):Int)==0&&(1:Int)==1&&(sIx items.size items.size hi - sIx items.size 0 lo)==items.size)=true):=by
  intro q;rw[aZ,aZ] at q;have q1:((sIx items.size 0 lo:Nat):Int)=0:=eq_of_beq q.1.1;have q2:sIx items.size items.size hi - sIx items.size 0 lo=items.size:=eq_of_beq q.2;exact hw ⟨by omega,by omega⟩
 show wpAny _ _ (if (((sIx items.size 0 lo:Nat):Int)==0&&(1:Int)==1&&(sIx items.size items.size hi - sIx items.size 0 lo)==items.size)=true then _ else _) _ _ s
 rw[if_neg hno,aue]
 first
  | exact aA (m:=iD _) (bR (aD ⟨_,rfl,aD h⟩) htake)
  | exact aA (m:=iD _) (bR (aA (aD (aD ⟨_,rfl,aD h⟩))) htake)
  | exact aA (aA (m:=iD _) (bR (aD (aD ⟨_,rfl,aD h⟩)) htake))
  | exact aA (aA (m:=iD _) (bR (aD ⟨_,rfl,aD h⟩) htake))
end
end HT
namespace L2
abbrev TO:=St->Hp->(Option Int->Hp->Prop)->Prop
def PO(X:Cx)(e:Option Expr)(t:TO):Prop :=
 ∀(zv:List (Addr×Obj)) (s:aF) (σ:St) (H:Hp) (Q:Option Int->Hp->Prop),Inv X zv σ H s->t σ H Q ->
  wpAny (model X.prog X.w) X.A (evalPart e X.env) (fun u s'=>∃o H',Inv X zv σ H' s'/\qH u o/\Q o H') X.xe s
def axe:TO:=fun _ H Q=>Q none H
def a5p(t:TE):TO:=fun σ H Q=>t σ H fun x H1=>∃i,x=.int i/\Q (some i) H1
theorem intsAre_of{ns:List Int}:∀{us:List Value},Vals (ns.map V.int) us->nT us ns:=by
 induction ns with
 | nil=>intro us r;rw[qG] at r;cases r;exact .nil
 | cons n ns ih =>
  intro us r;rw[aV] at r;cases r with
  | cons r1 r2 =>
   obtain⟨t,e⟩:=r1;subst e;exact .cons n t (ih r2)
section
variable{X:Cx}{e:Expr}{te:TE}{lo hi:Option Expr}{tl th:TO}{pos p2:Pos}
theorem axw:PO X none axe:=by
 intro zv s σ H Q I h;rw[evalPart_none];exact aD ⟨none,H,I,.none,h⟩
theorem axv(h:PE X e te):PO X (some e) (a5p te):=by
 intro zv s σ H Q I hw;rw[evalPart_some];refine thn (h zv s σ H _ I hw) fun u s1 ⟨x,H1,I1,r1,q1⟩ =>?_
 obtain⟨i,rfl,q⟩:=q1;obtain⟨t,rfl⟩:=r1;exact⟨some i,H1,I1,.int i t,q⟩
def SlR(X:Cx)(r:V->Option Int->Option Int->Hp->VK->Prop):Prop :=
 ∀(zv:List (Addr×Obj)) (s:aF) (σ:St) (H:Hp) (x:V) (v vl vu:Value) (lo hi:Option Int) (sl:Addr) (Q:VK),Inv X zv σ H s->RelV x v->s.heap.IsSliceOf sl vl vu .none->qH vl lo->qH vu hi->r x lo hi H Q ->
  ∃T id,typeLookup (.type T) "__getitem__" = pure (some (.builtin id))/\s.TypeIs v T/\wpAny (model X.prog X.w) X.A (pU v (.ref sl)) (EP X zv σ Q) X.xe s
theorem SlR.or{r r':V->Option Int->Option Int->Hp->VK->Prop}(h:SlR X r)(h':SlR X r'):SlR X (fun x lo hi H Q=>r x lo hi H Q∨r' x lo hi H Q):=by
 intro zv s σ H x v vl vu lo hi sl Q I rx hs pl pu q;rcases q with q | q
 ·exact h zv s σ H x v vl vu lo hi sl Q I rx hs pl pu q
 ·exact h' zv s σ H x v vl vu lo hi sl Q I rx hs pl pu q
def tSl(r:V->Option Int->Option Int->Hp->VK->Prop)(te:TE)(tl th:TO):TE:=fun σ H Q=>te σ H fun x H1=>tl σ H1 fun l H2=>th σ H2 fun u H3=>r x l u H3 Q
theorem amf{r:V->Option Int->Option Int->Hp->VK->Prop}(hr:SlR X r)(he:PE X e te)(hl:PO X lo tl)(hu:PO X hi th):PE X (.Subscript e (.Slice lo hi none p2) pos) (tSl r te tl th):=by
 intro zv s σ H Q I h;refine Subscript_ (thn (he zv s σ H _ I h) fun v s1 ⟨x,H1,I1,r1,q1⟩ =>?_)
 refine wpAny_Slice (thn (hl zv s1 σ H1 _ I1 q1) fun vl s2 ⟨l,H2,I2,pl,q2⟩=>thn (hu zv s2 σ H2 _ I2 q2) fun vu s3 ⟨u,H3,I3,pu,q3⟩ =>?_)
 rw[evalPart_none];refine aD ?_;have I4:Inv X zv σ H3 { s3 with heap:=s3.heap.push { cls:=.type "slice", data:=.fields #[vl,vu,.none] } }:=I3.kept (t':=s3.toks) fun b ob q=>aB _ q
 obtain⟨T,id,hT,ht,hg⟩:=hr zv { s3 with heap:=s3.heap.push { cls:=.type "slice", data:=.fields #[vl,vu,.none] } } σ H3 x v vl vu l u s3.heap.objs.size Q I4 r1 (Heap.IsSliceOf.new ..) pl pu q3
 show wpAny (model X.prog X.w) X.A (subscriptTail e (.Slice lo hi none p2) v (.ref s3.heap.objs.size)) (EP X zv σ Q) X.xe { s3 with heap:=s3.heap.push { cls:=.type "slice", data:=.fields #[vl,vu,.none] } }
 exact tail_any (ops:=[.ref s3.heap.objs.size,v]) ht hT hg (by with_unfolding_all rfl)
noncomputable def cutV(xs:List V)(lo hi:Option Int):List V:=(xs.drop (HT.sIx xs.length 0 lo)).take (HT.sIx xs.length xs.length hi - HT.sIx xs.length 0 lo)
theorem agm(xs:List V)(lo hi:Option Int):(cutV xs lo hi).length<=xs.length:=by
 unfold cutV;rw[fJ,iM];omega
def rSlT(K:Fg9):V->Option Int->Option Int->Hp->VK->Prop:=fun x lo hi H Q=>∃a xs,x=.ref a/\SqT K H a xs /\
 ¬(HT.sIx xs.length 0 lo=0/\HT.sIx xs.length xs.length hi=xs.length)/\∀p,H p=none->Q (.ref p) (upd H p (.tup (cutV xs lo hi)))
theorem a0g:SlR X (rSlT X.K):=by
 intro zv s σ H x v vl vu lo hi sl Q I rx hs pl pu h;obtain⟨a,xs,rfl,hx,hw,q⟩:=h;cases rx;obtain⟨its,r,ht,hz⟩:=I.tuple hx;have hlen:its.toArray.size=xs.length:=by rw[aR];exact r.length.symm
 refine⟨"tuple", _,dY.lookup,ht.typeIs,?_⟩;refine HT.aec ht hs pl pu (by rw[hlen];exact hw) ?_ (by rw[hlen];exact hz)
 rw[hlen];refine⟨.ref s.heap.objs.size,_,I.laid (t':=s.toks) (o:=.tup (cutV xs lo hi)) (fun b ob q=>aB _ q) (aN _) ?_,rfl,q _ (I.hok.fresh (aN _))⟩
 exact⟨Nat.le_trans (agm xs lo hi) hz,_,(r.drop (HT.sIx xs.length 0 lo)).take (HT.sIx xs.length xs.length hi - HT.sIx xs.length 0 lo),IsTp.new _ _⟩
def a6a(K:Fg9):R2:=fun x y H Q=>∃a b xs ys,x=.ref a/\y=.ref b/\SqT K H a xs/\SqT K H b ys/\xs≠[]/\xs.length+ys.length<=bV /\
 (ys=[]->Q (.ref a) H)/\(ys≠[]->∀p,H p=none->Q (.ref p) (upd H p (.tup (xs++ys))))
theorem Vals.nil_iff{xs:List V}{us:List Value}(r:Vals xs us):us=[]↔xs=[]:=by
 cases r with
 | nil=>simp
 | cons _ _=>simp
theorem ayc:OpR X (fK .Add) (a6a X.K):=by
 intro zv s σ H x y v u Q I rx ry h;obtain⟨a,b,xs,ys,rfl,rfl,ha,hb,hx,hz,q1,q2⟩:=h;cases rx;cases ry;obtain⟨its,r1,p1,_⟩:=I.tuple ha;obtain⟨its2,r2,p2,_⟩:=I.tuple hb;refine HT.azo p1 p2 (fun z=>hx (r1.nil_iff.mp z)) (fun z=>⟨.ref a,H,I,rfl,q1 (r2.nil_iff.mp z)⟩) (fun z =>?_) (by rw[<-r1.length,<-r2.length];exact hz)
 refine⟨.ref s.heap.objs.size,_,I.laid (t':=s.toks) (o:=.tup (xs++ys)) (fun b ob q=>aB _ q) (aN _) ?_,rfl,q2 (fun w=>z (r2.nil_iff.mpr w)) _ (I.hok.fresh (aN _))⟩
 exact⟨by rw[eE];exact hz,_,r1.append r2,IsTp.new _ _⟩
end
noncomputable def ixN(n:Nat)(i:Int):Option Nat:=if 0<=i then (if i < n then some i.toNat else none) else if -(n:Int)<=i then some (i+n).toNat else none
def atI{α:Type}(xs:List α)(i:Int):Option α:=(ixN xs.length i).bind fun j=>xs[j]?
theorem arf{n:Nat}{i:Int}{j:Nat}(h:ixN n i=some j):seqIndex? i n=some j/\j < n /\ -(n:Int)<=i/\i < n:=by
 unfold ixN at h
 by_cases h0:0<=i
 ·rw[if_pos h0] at h
  by_cases h1:i < n
  ·rw[if_pos h1] at h;have e:i.toNat=j:=bD h;exact⟨by rw[seqIndex_of h0 h1,e],by omega,by omega,h1⟩
  ·rw[if_neg h1] at h;cases h
 ·rw[if_neg h0] at h
  by_cases h1 : -(n:Int)<=i
  ·rw[if_pos h1] at h;have e:(i+n).toNat=j:=bD h;exact⟨by rw[seqIndex_neg (by omega) h1,e],by omega,h1,by omega⟩
  ·rw[if_neg h1] at h;cases h
theorem alz{α:Type}{xs:List α}{i:Int}{v:α}(h:atI xs i=some v):∃j,seqIndex? i xs.length=some j/\xs[j]? = some v/\j < xs.length /\ -(xs.length:Int)<=i/\i < xs.length:=by
 unfold atI at h;cases e:ixN xs.length i with
 | none=>rw[e] at h;cases h
 | some j =>
  rw[e] at h;obtain⟨h1,h2,h3,h4⟩:=arf e;exact⟨j,h1,h,h2,h3,h4⟩
theorem aly{α:Type}{xs:List α}{j:Nat}{v:α}(h:xs[j]? = some v):atI xs (j:Int)=some v:=by
 have hj:j < xs.length:=(aK.mp h).1;have e:ixN xs.length (j:Int)=some j:=by
  unfold ixN;rw[if_pos (by omega),if_pos (by omega)];simp
 unfold atI;rw[e];exact h
def ath(b:Expr):Prop:=∀o i,subscripted b false o i=operate [o,i] (pU o i)
def IxR(X:Cx)(r:R2):Prop :=
 ∀(value slice:Expr) (zv:List (Addr×Obj)) (s:aF) (σ:St) (H:Hp) (x y:V) (v u:Value) (Q:VK),Inv X zv σ H s->RelV x v->RelV y u->r x y H Q ->
  subscripted slice false v u=operate [v,u] (pU v u)->wpAny (model X.prog X.w) X.A (subscriptTail value slice v u) (EP X zv σ Q) X.xe s
def MtR(X:Cx)(id:String)(r:V->List V->Hp->VK->Prop):Prop :=
 ∀(zv:List (Addr×Obj)) (s:aF) (σ:St) (H:Hp) (x:V) (xs:List V) (v:Value) (us:List Value) (Q:VK),Inv X zv σ H s->RelV x v->Vals xs us->r x xs H Q ->
  wpAny (model X.prog X.w) X.A (call (.builtin id) (v::us)) (EP X zv σ Q) X.xe s
section
variable{X:Cx}{a b:Expr}{ta tb:TE}{pos:Pos}
theorem IxR.or{r r':R2}(h:IxR X r)(h':IxR X r'):IxR X (fun x y H Q=>r x y H Q∨r' x y H Q):=by
 intro value slice zv s σ H x y v u Q I rx ry q hs;rcases q with q | q
 ·exact h value slice zv s σ H x y v u Q I rx ry q hs
 ·exact h' value slice zv s σ H x y v u Q I rx ry q hs
theorem MtR.or{id:String}{r r':V->List V->Hp->VK->Prop}(h:MtR X id r)(h':MtR X id r'):MtR X id (fun x xs H Q=>r x xs H Q∨r' x xs H Q):=by
 intro zv s σ H x xs v us Q I rx rs q;rcases q with q | q
 ·exact h zv s σ H x xs v us Q I rx rs q
 ·exact h' zv s σ H x xs v us Q I rx rs q
theorem a6i{r:R2}(hr:IxR X r)(ha:PE X a ta)(hb:PE X b tb)(hs:ath b):PE X (.Subscript a b pos) (tOp r ta tb):=by
 intro zv s σ H Q I h;exact Subscript_ (binT ha hb I h fun v u s2 x y H2 I2 rx ry q=>hr a b zv s2 σ H2 x y v u Q I2 rx ry q (hs _ _))
def rIxL(K:Fg9):R2:=fun x y H Q=>∃p xs i v,x=.ref p/\y=.int i/\SqL K H p xs/\atI xs i=some v/\Q v H
def rIxT(K:Fg9):R2:=fun x y H Q=>∃p xs i v,x=.ref p/\y=.int i/\SqT K H p xs/\atI xs i=some v/\Q v H
theorem ayt:IxR X (rIxL X.K):=by
 intro value slice zv s σ H x y v u Q I rx ry h hs;obtain⟨p,xs,i,z,rfl,rfl,hq,he,q⟩:=h;cases rx;obtain⟨t,rfl⟩:=ry;obtain⟨its,r,pl,hz⟩:=I.list hq;obtain⟨j,h1,h2,h3,h4,h5⟩:=alz he;obtain⟨w,ew,rw'⟩:=r.get h2;have hl:=r.length;have hn:=ajj;have fin:EP X zv σ Q w s:=⟨z,H,I,rw',q⟩
 by_cases h0:0<=i
 ·have hj:i.toNat=j:=by
   rw[seqIndex_of h0 h5] at h1;exact bD h1
  exact item_listR pl.isList h0 (by omega) (by rw[hj];simpa using ew) fin hs
 ·have hj:(i+(its.toArray.size:Int)).toNat=j:=by
   rw[seqIndex_neg (by omega) h4] at h1
   rw[aR,<-hl];exact bD h1
  exact subscriptTail_builtinR (x:=w) pl.isList.typeIs slot_list_getitem.lookup
   (wpAny_getItem_list_neg (Q:=fun r s'=>r=w/\EP X zv σ Q r s') pl.isList (by omega) (by rw[aR] <;> omega) (by omega) (by rw[hj];simpa using ew) ⟨rfl,fin⟩) hs
theorem a2j:IxR X (rIxT X.K):=by
 intro value slice zv s σ H x y v u Q I rx ry h hs;obtain⟨p,xs,i,z,rfl,rfl,hq,he,q⟩:=h;cases rx;obtain⟨t,rfl⟩:=ry;obtain⟨its,r,pl,hz⟩:=I.tuple hq;obtain⟨j,h1,h2,h3,h4,h5⟩:=alz he;obtain⟨w,ew,rw'⟩:=r.get h2;have hl:=r.length;have hn:=ajj;have fin:EP X zv σ Q w s:=⟨z,H,I,rw',q⟩;exact subscriptTail_builtinR (x:=w) pl.typeIs slot_tuple_getitem.lookup
  (getItem_tuple (j:=j) (Q:=fun r s'=>r=w/\EP X zv σ Q r s') pl (by omega) (by omega) (by rw[aR,<-hl];exact h1) (by simpa using ew) ⟨rfl,fin⟩) hs
theorem aou(its:List Value)(n j:Nat)(u:Value):jG (·.setIfInBounds j u) { cls:=.type "list", data:=.seq its.toArray n }={ cls:=.type "list", data:=.seq (its.set j u).toArray n }:=by
 simp[jG]
theorem Inv.lst{zv:List (Addr×Obj)}{σ:St}{H:Hp}{s:aF}{p:Addr}{xs:List V}(I:Inv X zv σ H s)(h:H p=some (.lst xs)) :
  ∃(its:List Value) (n:Nat),Vals xs its/\s.heap.get? p=some { cls:=.type "list", data:=.seq its.toArray n }/\xs.length<=bV:=by
 obtain⟨z,its,n,r,e⟩:=I.hok p _ h;exact⟨its,n,r,e,z⟩
theorem Inv.lstUpd{zv:List (Addr×Obj)}{σ:St}{H:Hp}{s:aF}{p:Addr}{xs ys:List V}{its its':List Value}{n n':Nat}{f:Obj->Obj}(I:Inv X zv σ H s)(h:H p=some (.lst xs))
  (ho:s.heap.get? p=some { cls:=.type "list", data:=.seq its.toArray n }) (hf:f { cls:=.type "list", data:=.seq its.toArray n }={ cls:=.type "list", data:=.seq its'.toArray n' }) (r:Vals ys its') (hz:ys.length<=bV) (t:Nat) :
  Inv X zv σ (upd H p (.lst ys)) { s with heap:=s.heap.update p f,toks:=t }:=by
 have e:(s.heap.update p f).get? p=some { cls:=.type "list", data:=.seq its'.toArray n' }:=by
  rw[bQ f ho (by rw[hf] <;> rfl),hf]
 refine I.write (x:=p) (e:=p) (by rw[h];trivial) (.inl rfl) (fun b u hb q=>(bA _ _ (fO hb)).trans q) ⟨_,e⟩ ?_
 exact⟨hz,its',n',r,e⟩
def a5z:V->V->V->Hp->(Hp->Prop)->Prop:=fun o i v H Q=>∃p xs k j,o=.ref p/\i=.int k/\H p=some (.lst xs)/\ixN xs.length k=some j/\Q (upd H p (.lst (xs.set j v)))
theorem set_list:PSet X a5z:=by
 intro zv s σ H o i v ov iv u Q I ro ri rv h;obtain⟨p,xs,k,j,rfl,rfl,hp,hj,q⟩:=h;cases ro;obtain⟨t,rfl⟩:=ri;obtain⟨its,n,r,ho,hz⟩:=I.lst hp;obtain⟨h1,h2,h3,h4⟩:=arf hj;have hl:=r.length;have hn:=ajj;have I':Inv X zv σ (upd H p (.lst (xs.set j v))) { s with heap:=s.heap.update p (jG (·.setIfInBounds j u)) } :=
  I.lstUpd hp ho (aou its n j u) (r.set rv j) (by rw[eQ];exact hz) s.toks
 by_cases h0:0<=k
 ·have hk:k.toNat=j:=by
   rw[seqIndex_of h0 h4] at h1;exact bD h1
  exact PySem.W.ki_setAt ho h0 (by omega) (by rw[aR,<-hl];exact h4) (by rw[hk];exact⟨_,I',q⟩)
 ·have hk:(k+(its.toArray.size:Int)).toNat=j:=by
   rw[seqIndex_neg (by omega) h3] at h1
   rw[aR,<-hl];exact bD h1
  exact PySem.W.ki_setBack ho (by omega) (by rw[aR,<-hl];exact h3) (by omega) (by rw[hk];exact⟨_,I',q⟩)
theorem aiv(lo hi:Option Int)(n:Nat):(sliceBounds lo hi none n).1=((HT.sIx n 0 lo:Nat):Int)/\(sliceBounds lo hi none n).2.1=((HT.sIx n n hi:Nat):Int)/\(sliceBounds lo hi none n).2.2=1:=by
 refine⟨?_,?_,rfl⟩
 ·cases lo with
  | none=>simp[sliceBounds,HT.sIx]
  | some i =>
   simp only[sliceBounds,HT.sIx,qO,show(1:Int) > 0 by decide,if_true]
   by_cases h:i < 0
   ·simp only[h,if_true] <;> omega
   ·simp only[h,if_false] <;> omega
 ·cases hi with
  | none=>simp[sliceBounds,HT.sIx]
  | some i =>
   simp only[sliceBounds,HT.sIx,qO,show(1:Int) > 0 by decide,if_true]
   by_cases h:i < 0
   ·simp only[h,if_true] <;> omega
   ·simp only[h,if_false] <;> omega
theorem ahr(its:List Value)(lo hi:Option Int):slicePick its.toArray lo hi none=((its.drop (HT.sIx its.length 0 lo)).take (HT.sIx its.length its.length hi - HT.sIx its.length 0 lo)).toArray:=by
 obtain⟨h1,h2,h3⟩:=aiv lo hi its.toArray.size;unfold slicePick;rw[h1,h2,h3];simp only[sliceRange_one,pick_run,aR] <;> rfl
def rSlL(K:Fg9):V->Option Int->Option Int->Hp->VK->Prop:=fun x lo hi H Q=>∃a xs,x=.ref a/\SqL K H a xs/\∀p,H p=none->Q (.ref p) (upd H p (.lst (cutV xs lo hi)))
theorem ap7:SlR X (rSlL X.K):=by
 intro zv s σ H x v vl vu lo hi sl Q I rx hs pl pu h;obtain⟨a,xs,rfl,hx,q⟩:=h;cases rx;obtain⟨its,r,ht,hz⟩:=I.list hx;have hlen:=r.length;refine⟨"list", _,slot_list_getitem.lookup,ht.isList.typeIs,?_⟩;refine wpAny_getItem_list_slice ht.isList hs pl pu .none (by simp) ?_ (by rw[aR] <;> omega)
 rw[ahr,<-hlen];refine⟨.ref s.heap.objs.size,_,I.laid (t':=s.toks) (o:=.lst (cutV xs lo hi)) (fun b ob q=>aB _ q) (aN _) ?_,rfl,q _ (I.hok.fresh (aN _))⟩
 exact⟨Nat.le_trans (agm xs lo hi) hz,_,0,(r.drop (HT.sIx xs.length 0 lo)).take (HT.sIx xs.length xs.length hi - HT.sIx xs.length 0 lo),aL _ rfl⟩
theorem aj6:za X (.builtin "len") (fun xs H Q=>∃p ys,xs=[.ref p]/\(SqL X.K H p ys∨SqT X.K H p ys)/\Q (.int ys.length) H):=by
 intro zv s σ H xs us Q I r h;obtain⟨p,ys,rfl,hq,q⟩:=h;obtain⟨u,rfl,rx⟩:=vals1 r;cases rx;have hn:=ajj;rcases hq with hq | hq
 ·obtain⟨its,r',pl,hz⟩:=I.list hq;have hlen:=r'.length;exact Calls.call_len_list pl.isList (by simp only[aR] <;> omega) ⟨.int ys.length,H,I.tok _,⟨s.toks+1,by rw[aR,hlen]⟩,q⟩
 ·obtain⟨its,r',pl,hz⟩:=I.tuple hq;have hlen:=r'.length;exact len_tuple pl (by simp only[aR] <;> omega) ⟨.int ys.length,H,I.tok _,⟨s.toks+1,by rw[aR,hlen]⟩,q⟩
theorem za.or{f:Value}{r r':List V->Hp->VK->Prop}(h:za X f r)(h':za X f r'):za X f (fun xs H Q=>r xs H Q∨r' xs H Q):=by
 intro zv s σ H xs us Q I rs q;rcases q with q | q
 ·exact h zv s σ H xs us Q I rs q
 ·exact h' zv s σ H xs us Q I rs q
theorem aj5:za X (.type "list") (fun xs H Q=>∃p ys,xs=[.ref p]/\(SqL X.K H p ys∨SqT X.K H p ys)/\∀l,H l=none->Q (.ref l) (upd H l (.lst ys))):=by
 intro zv s σ H xs us Q I r h;obtain⟨p,ys,rfl,hq,q⟩:=h;obtain⟨u,rfl,rx⟩:=vals1 r;cases rx;have fin:∀(its:List Value),Vals ys its->ys.length<=bV->∀(h':Heap) (c':Nat),(∀b o',s.heap.get? b=some o'->h'.get? b=some o') ->
   h'.get? s.heap.objs.size=some { cls:=.type "list", dict:=none,data:=.seq its.toArray c',slots := #[] }->EP X zv σ Q (.ref s.heap.objs.size) { s with heap:=h' }:=fun its r' hz h' c' kp e =>
  ⟨.ref s.heap.objs.size,_,I.laid (t':=s.toks) kp (aN _) (show v9 X.prog X.w _ h' _ (.lst ys) from⟨hz,its,c',r',e⟩),rfl,q _ (I.hok.fresh (aN _))⟩
 rcases hq with hq | hq
 ·obtain⟨its,r',pl,hz⟩:=I.list hq;have hlen:=r'.length;obtain⟨o,ho,hc,n,hd⟩:=pl.isList;exact call_list_seq p (.inl rfl) ho hc hd (fun h' c' kp e=>fin its r' hz h' c' kp e) (by simp only[aR] <;> omega)
 ·obtain⟨its,r',pl,hz⟩:=I.tuple hq;have hlen:=r'.length;obtain⟨o,ho,hc,n,hd⟩:=pl;exact call_list_seq p (.inr rfl) ho hc hd (fun h' c' kp e=>fin its r' hz h' c' kp e) (by simp only[aR] <;> omega)
theorem aax:za X (.type "tuple") (fun xs H Q=>∃p ys,xs=[.ref p]/\((SqL X.K H p ys/\∀l,H l=none->Q (.ref l) (upd H l (.tup ys)))∨(SqT X.K H p ys/\Q (.ref p) H))):=by
 intro zv s σ H xs us Q I r h;obtain⟨p,ys,rfl,h⟩:=h;obtain⟨u,rfl,rx⟩:=vals1 r;cases rx;rcases h with⟨hq,q⟩ | ⟨hq,q⟩
 ·obtain⟨its,r',pl,hz⟩:=I.list hq;have hlen:=r'.length;refine call_tuple_list pl.isList (fun h' kp =>?_) (by simp only[aR] <;> omega)
  have I1:Inv X zv σ H { s with heap:=h' }:=I.kept (t':=s.toks) kp
  have I2:Inv X zv σ (upd H h'.objs.size (.tup ys)) { s with heap:=h'.push { cls:=.type "tuple", data:=.seq its.toArray } } :=
   I1.laid (t':=s.toks) (fun b o e=>aB _ e) (aN _) (show v9 X.prog X.w _ _ _ (.tup ys) from⟨hz,its,r',IsTp.new _ _⟩)
  exact⟨.ref h'.objs.size,_,I2,rfl,q _ (I1.hok.fresh (aN _))⟩
 ·obtain⟨its,r',pl,hz⟩:=I.tuple hq;exact call_tuple_same pl ⟨.ref p,H,I,rfl,q⟩
def tyV(K:Fg9)(T:String)(x:V)(H:Hp):Prop:=match x with
 | .str _=>T = "str"
 | .int _=>T = "int"
 | .ref p=>(T = "list" /\ ∃xs,SqL K H p xs)∨(T = "tuple" /\ ((∃o,K.lookup p=some o/\o.cls=.type "tuple" /\ o.dict=none)∨∃xs,H p=some (.tup xs))) ∨
   (T = "dict" /\ ((∃kvs,H p=some (.dK kvs))∨∃kvs,H p=some (.dT kvs)))∨(T = "set" /\ ∃S n,H p=some (.set S n))
 | _=>False
theorem az9{zv:List (Addr×Obj)}{σ:St}{H:Hp}{s:aF}{T:String}{x:V}{v:Value}(I:Inv X zv σ H s)(r:RelV x v)(ty:tyV X.K T x H) :
  s.TypeIs v T/\∀a,v=.ref a->∃ob,s.heap.get? a=some ob/\ob.dict=none:=by
 cases x with
 | str z =>
  obtain⟨t,rfl⟩:=r;cases(show T = "str" from ty)
  exact⟨typeIs_str s z t,fun _ e=>nomatch e⟩
 | int i =>
  obtain⟨t,rfl⟩:=r;cases(show T = "int" from ty)
  exact⟨typeIs_int s i t,fun _ e=>nomatch e⟩
 | ref p =>
  cases r;rcases ty with⟨rfl,xs,hq⟩ | ⟨rfl,⟨o,hk,hc,hd⟩ | ⟨xs,hk⟩⟩ | ⟨rfl,hk⟩ | ⟨rfl,S,n,hk⟩
  ·obtain⟨its,_,pl,_⟩:=I.list hq;refine⟨pl.isList.typeIs,fun a e =>?_⟩
   cases e;obtain⟨o,n,e,c,hd,_⟩:=pl;exact⟨o,e,hd⟩
  ·refine⟨⟨o,I.kIn p o hk,hc⟩,fun a e =>?_⟩
   cases e;exact⟨o,I.kIn _ o hk,hd⟩
  ·obtain⟨_,_,_,o,e,hc,hd,_⟩:=I.hok p _ hk;refine⟨⟨o,e,hc⟩,fun a e2 =>?_⟩
   cases e2;exact⟨o,e,hd⟩
  ·have z:∃o,s.heap.get? p=some o/\o.ExactDict:=by
    rcases hk with⟨kvs,hk⟩ | ⟨kvs,hk⟩
    ·obtain⟨_,_,_,_,o,_,_,e,ex,_⟩:=I.hok p _ hk;exact⟨o,e,ex⟩
    ·obtain⟨_,_,_,_,o,_,_,e,ex,_⟩:=I.hok p _ hk;exact⟨o,e,ex⟩
   obtain⟨o,e,ex⟩:=z;refine⟨⟨o,e,ex.1⟩,fun a e2 =>?_⟩
   cases e2;exact⟨o,e,ex.2.1⟩
  ·obtain⟨o,_,_,_,e,ex,_⟩:=I.hok p _ hk;refine⟨⟨o,e,ex.1⟩,fun a e2 =>?_⟩
   cases e2;exact⟨o,e,ex.2.1⟩
 | _=>exact dH ty
def tBM(K:Fg9)(T:String)(r:V->List V->Hp->VK->Prop)(to:TE)(t:TA):TE:=fun σ H Q=>to σ H fun x H1=>tyV K T x H1/\t σ H1 fun xs H2=>r x xs H2 Q
variable{o e:Expr}{es:List Expr}{to:TE}{t:TA}{name:Str}{apos cpos:Pos}{T id:String}{r:V->List V->Hp->VK->Prop}
theorem aul(pa:PlainAttrs T)(slot:Slot T name id)(hty:typeOf (.builtin id)=pure (.type "method_descriptor"))(hm:MtR X id r)(ho:PE X o to)(ha:PA X (e::es) t)
  (hbase:attributeBase o name X.env (eval o X.env)=eval o X.env:=by rfl)
  (hfew:((iG cpos (aQ (e::es) X.env)).all (fun x => !x.1)&&(backToKw cpos (keywordEach [] X.env)).all (fun x=>x.1.isSome)
   && decide ((e::es).length+([]:List pF).length+(if ([]:List pF).isEmpty then 0 else 1) < 30))=true:=by rfl)
  (hline:(apos.endLine==cpos.line)=true:=by rfl) (hs:aQ (e::es) X.env=(false,eval e X.env)::aQ es X.env:=by rfl) (hplain:(iG cpos (aQ es X.env)).any (·.1)=false:=by rfl) :
  PE X (.Call (.Attribute o name apos) (e::es) [] cpos) (tBM X.K T r to t):=by
 intro zv s σ H Q I h;refine wpAny_Call_method_late hbase hfew hline rfl (thn (ho zv s σ H _ I h) fun v s1 ⟨x,H1,I1,r1,ty,q1⟩ =>?_)
 obtain⟨h1,h2⟩:=az9 I1 r1 ty;refine⟨T,id,pa,slot,hty,h1,h2,?_⟩;have hA:=ha cpos zv s1 σ H1 _ I1 q1;rw[hs] at hA ⊢
 refine Calls.callWith_builtin (by show(false||(iG cpos (aQ es X.env)).any (·.1))=false;rw[hplain] <;> rfl) (tY ?_)
 exact thn hA fun us s2 ⟨vs,H2,I2,r2,q2⟩=>hm zv s2 σ H2 x vs v us Q I2 r1 r2 q2
end
def MtM(X:Cx)(id:String)(r:V->List V->Hp->VK->Prop):Prop :=
 ∀(zv:List (Addr×Obj)) (s:aF) (σ:St) (H:Hp) (x:V) (xs:List V) (v:Value) (us:List Value) (Q:VK),Inv X zv σ H s->RelV x v->Vals xs us->r x xs H Q ->
  wpAny (model X.prog X.w) X.A (call (.builtin id) (v::us)) (EP X zv σ Q) X.xe s
theorem Vals.one:∀{x:V} {us:List Value},Vals [x] us->∃u,us=[u]/\RelV x u
 | _,_,.cons r .nil=>⟨_,rfl,r⟩
theorem Vals.two:∀{x y:V} {us:List Value},Vals [x,y] us->∃u v,us=[u,v]/\RelV x u/\RelV y v
 | _,_,_,.cons r (.cons q .nil)=>⟨_,_,rfl,r,q⟩
theorem Vals.zero:∀{us:List Value},Vals [] us->us=[]
 | _,.nil=>rfl
theorem Vals.eraseIdx:∀{xs:List V} {us:List Value} (i:Nat),Vals xs us->Vals (xs.eraseIdx i) (us.eraseIdx i)
 | _,_,_,.nil=>.nil
 | _,_,0,.cons _ t=>t
 | _,_,i+1,.cons r t=>.cons r (Vals.eraseIdx i t)
theorem Vals.reverse{xs:List V}{us:List Value}(h:Vals xs us):Vals xs.reverse us.reverse:=by
 induction h with
 | nil=>exact .nil
 | cons r t ih=>rw[vQ,vQ];exact Vals.append ih (.cons r .nil)
theorem Vals.rep{xs:List V}{us:List Value}(h:Vals xs us):∀k:Nat,Vals (aM k xs).flatten (aM k us).flatten
 | 0=>.nil
 | k+1=>by
  rw[gB,gB,jK,jK];exact Vals.append h (Vals.rep h k)
theorem foldl_rep(its:List Value):∀(k:Nat) (acc:List Value),
  lY (fun x1 x2=>x1++x2) acc.toArray (aM k its.toArray)=(acc++(aM k its).flatten).toArray
 | 0,acc=>by simp
 | k+1,acc=>by
  have e:acc.toArray++its.toArray=(acc++its).toArray:=by simp
  have e2:(acc++its)++(aM k its).flatten=acc++(aM (k+1) its).flatten:=by
   rw[gB,jK,dB]
  rw[<-e2,<-foldl_rep its k (acc++its),<-e,gB,wY]
section
variable{X:Cx}{zv:List (Addr×Obj)}{σ:St}{H:Hp}{s:aF}{l b:Addr}{xs ys zs:List V}
theorem Inv.lset{its its':List Value}{n:Nat}{f:Array Value->Array Value}{t':Nat}(I:Inv X zv σ H s)(hH:H l=some (.lst xs))
  (e:s.heap.get? l=some { cls:=.type "list", data:=.seq its.toArray n }) (hf:f its.toArray=its'.toArray) (hv:Vals ys its') (hz:ys.length<=bV) :
  Inv X zv σ (upd H l (.lst ys)) { s with heap:=s.heap.update l (jG f),toks:=t' }:=by
 have q:=PySem.IsL.update e f;rw[hf] at q;refine I.write (x:=l) (e:=l) (by rw[hH];exact trivial) (.inl rfl) (fun b' u hb hu=>(bA s.heap (jG f) (fO hb)).trans hu) ⟨_,q⟩ ?_
 exact⟨hz,its',_,hv,q⟩
theorem Inv.lnew{its:List Value}{t':Nat}(I:Inv X zv σ H s)(hv:Vals ys its)(hz:ys.length<=bV) :
  Inv X zv σ (upd H s.heap.objs.size (.lst ys)) { s with heap:=s.heap.push { cls:=.type "list", data:=.seq its.toArray },toks:=t' } :=
 I.laid (fun _ _ q=>aB _ q) (aN _) ⟨hz,its,0,hv,aL _ rfl⟩
theorem Inv.fresh(I:Inv X zv σ H s):H s.heap.objs.size=none:=I.hok.fresh (aN _)
theorem Inv.lstM(I:Inv X zv σ H s)(hH:H l=some (.lst xs)):xs.length<=bV/\∃(its:List Value) (n:Nat),Vals xs its/\xs.length=its.length/\s.heap.get? l=some { cls:=.type "list", data:=.seq its.toArray n }:=by
 obtain⟨z,its,n,r,e⟩:=I.hok l _ hH;exact⟨z,its,n,r,r.length,e⟩
theorem auy{n:Nat}(h:n<=bV):sG n=false:=by
 unfold sG;exact decide_eq_false (by omega)
end
section
variable{X:Cx}
def aqg:V->List V->Hp->VK->Prop:=fun x vs H Q=>∃l xs y,x=.ref l/\vs=[y]/\H l=some (.lst xs)/\xs.length < bV/\Q .non (upd H l (.lst (xs++[y])))
theorem aaf:MtM X "list.append" aqg:=by
 intro zv s σ H x vs v us Q I rx rv h;obtain⟨l,xs,y,rfl,rfl,hH,hz,q⟩:=h;cases rx;obtain⟨u,rfl,ru⟩:=rv.one;obtain⟨z,its,n,r,hl,e⟩:=I.lstM hH;refine jX F.slot_list_append ⟨_,e,rfl⟩ F.entry_list_append (F.args_list_append_2 _ _) (PySem.list_append l its.toArray n u (by rw[aR];omega)) ⟨e,?_⟩
 refine⟨.non,_,I.lset (its':=its++[u]) hH e (by simp) (r.append (.cons ru .nil)) ?_,rfl,q⟩
 rw[eE,List.length_singleton];omega
def rReverse:V->List V->Hp->VK->Prop:=fun x vs H Q=>∃l xs,x=.ref l/\vs=[]/\H l=some (.lst xs)/\Q .non (upd H l (.lst xs.reverse))
def rCat:R2:=fun x y H Q=>∃l b xs zs,x=.ref l/\y=.ref b/\H l=some (.lst xs)/\H b=some (.lst zs)/\xs.length+zs.length<=bV/\∀p,H p=none->Q (.ref p) (upd H p (.lst (xs++zs)))
theorem a1i:OpR X (fK .Add) rCat:=by
 intro zv s σ H x y v u Q I rx ry h;obtain⟨l,b,xs,zs,rfl,rfl,hH,hB,hz,q⟩:=h;cases rx;cases ry;obtain⟨z,its,n,r,hl,e⟩:=I.lstM hH;obtain⟨z2,its2,n2,r2,hl2,e2⟩:=I.lstM hB;refine PySem.P.add_list e e2 ?_ (by rw[aR,aR];omega)
 have ea:its.toArray++its2.toArray=(its++its2).toArray:=by simp
 rw[ea];exact⟨.ref _,_,I.lnew (t':=s.toks) (r.append r2) (by rw[eE];omega),rfl,q _ I.fresh⟩
def rRep:R2:=fun x y H Q=>∃l k xs,x=.ref l/\y=.int k/\H l=some (.lst xs) /\ -(2 ^ 63)<=k/\k < 2 ^ 63/\xs.length*k.toNat<=bV /\
 ∀p,H p=none->Q (.ref p) (upd H p (.lst (aM k.toNat xs).flatten))
theorem len_rep{α:Type}(xs:List α)(k:Nat):(aM k xs).flatten.length=k*xs.length:=by
 induction k with
 | zero=>simp
 | succ k ih=>rw[gB,jK,eE,ih,Nat.succ_mul,Nat.add_comm]
theorem a1e:OpR X (fK .Mult) rRep:=by
 intro zv s σ H x y v u Q I rx ry h;obtain⟨l,k,xs,rfl,rfl,hH,h1,h2,hz,q⟩:=h;cases rx;obtain⟨t,rfl⟩:=ry;obtain⟨z,its,n,r,hl,e⟩:=I.lstM hH;have hlen:its.toArray.size*k.toNat<=bV:=by rw[aR,<-hl];exact hz
 have hcap:¬its.toArray.size*k.toNat > (2 ^ 63 - 1) / 8:=by
  have:(bV:Nat)<=(2 ^ 63 - 1) / 8:=by decide
  omega
 have hfit:¬(!Builtin.List.listFitsIndex k)=true:=by
  rw[fitsIndex_both h1 h2];exact bZ
 have hlong:¬Builtin.List.listTooLong (its.toArray.size*k.toNat)=true:=by
  rw[auy hlen];exact bZ
 have hnew:lY (fun x1 x2=>x1++x2) #[] (aM (if its.toArray.isEmpty=true then 0 else k.toNat) its.toArray)=(aM k.toNat its).flatten.toArray:=by
  have f0:∀m:Nat,lY (fun x1 x2=>x1++x2) #[] (aM m its.toArray)=(aM m its).flatten.toArray:=fun m=>by
   have:=foldl_rep its m [];rw[bM] at this;exact this
  rw[f0];cases its with
  | nil=>simp
  | cons a r'=>rw[if_neg (by simp)]
 refine wpAny_binaryOp_repeat_ref (T := "list") (U := "int") (by decide) ⟨_,e,rfl⟩ (fun s'=>typeIs_int s' k t) noFill_list_mul rC lB repeat_list qR.lookup
  (jX lB (typeIs_int s k t) qT (qF _ _) (int___rmul___int_list k t l its.toArray n)
   ⟨e,rfl,⟨_,e,rfl⟩,jX F.slot_list_mul ⟨_,e,rfl⟩ F.entry_list_mul (F.args_list_mul_2 _ _) (AutoListH.list___mul___list_int_3 l its.toArray n k t hfit hcap hlong) ⟨e,?_⟩⟩)
 rw[hnew];exact⟨.ref _,_,I.lnew (t':=s.toks) (r.rep k.toNat) (by rw[len_rep,mH];exact hz),rfl,q _ I.fresh⟩
end
section
variable{prog:bJ}{w:World}{A:bW}{E:Value->aF->Prop}{s:aF}
end
section
variable{X:Cx}
end
end L2
namespace Att
open PySem PySem.W PySem.Calls PyProof.Rows
theorem af5{P:Params}{h:Heap}:∀(ns:List Int) (vs:List Value),WellAll P h vs (ns.map WData.int)->nT vs ns:=by
 intro ns
 induction ns with
 | nil =>
  intro vs w;rw[qG] at w;cases w;exact .nil
 | cons n ns ih =>
  intro vs w;rw[aV] at w;cases w with
  | cons a b =>
   cases a;exact .cons _ _ (ih _ b)
theorem aqc{l:OpenLaw}{n:Nat}(hn:l.most=some n){P:Params}{h:Heap}{args:List WData}{vals:List Value}
  (hpre:l.row.toRowW.claim.pre args=true) (hwl:WellAll P h vals args) :
  ∃a vs ns,vals=[cJ a]/\args=[WData.list (ns.map WData.int)]/\h.get? a=some { cls:=.type "list", data:=.seq vs.toArray }/\nT vs ns/\ns.length<=n:=by
 have hsh:WShape.hasAll [] args [.list .int]=true:=(pre_splitW hpre).1;have hc:l.pre.holds [] { args:=args }=true:=(pre_splitW hpre).2;obtain⟨d,r,rfl,h1,h2⟩:=hasAllW_cons hsh;obtain rfl:=hasAllW_nil h2;obtain⟨xs,rfl,h3⟩:=hasW_list h1;obtain⟨ns,rfl⟩:=items_int h3;have hlen:ns.length<=n:=by
  unfold OpenLaw.pre at hc;have h4:(WTm.not (.lt (.lit (.int (n:Int))) (.len (.arg 0)))).holds [] { args:=[.list (ns.map .int)] }=true:=by
   have h4:=(holds_andW hc).1;rw[hn] at h4;exact h4
  have h5:=condW_of h4 (w_not (w_lt w_lit (w_len_list (w_arg rfl))));rw[aU] at h5;refine Nat.le_of_not_lt fun q =>?_
  have q':(n:Int) < ((ns.length:Nat):Int):=by omega
  first
   | (rw[decide_eq_true q'] at h5;exact absurd h5 (by decide))
   | (simp at h5;omega)
 cases hwl with
 | cons w1 w2 =>
  cases w2;cases w1 with
  | list ho hall=>exact⟨_,_,ns,rfl,rfl,ho,af5 ns _ hall,hlen⟩
theorem aqk(l:OpenLaw)(args:List WData):l.row.toRowW.claim.post args (.bool true) args=true :=
 postW_of (r:=l.row.toRowW) (X:=(true==true))
  (show WShape.has [] (.bool true) .bool=true by first | rfl | decide | simp[WShape.has,WShape.arms,WShape.armsAll])
  (show(WTm.eq .res (.lit (.bool true))).value [] { args:=args,res:=some (.bool true),after:=args }=some (.bool (true==true)) from w_eq_bool (w_res rfl) w_lit) rfl
theorem alw{l:OpenLaw}{n:Nat}{q:bJ}{loose:List Str}{XP:(Str->Option Value)->Heap->Prop}{YP:World->Heap->Prop}{d:DefRec}
  (hn:l.most=some n) (hdf:d.params.defaults=[])
  (call:∀(w:World) (s₀ s₁:aF) (mg mb:Str->Option Value) (fa:Addr) (o:Obj) (pm cd doc:Value) (a:Addr) (vs:List Value) (ns:List Int),
   Ground q loose [] XP w s₀ mg mb s₁.heap->YP w s₁.heap ->
   s₁.heap.get? fa=some o->o.data=.func (docDef d.name d.params d.body d.scope pm cd doc)->s₁.heap.CodeRec cd d.name->mg d.name=some (.ref fa) ->
   s₁.heap.get? a=some { cls:=.type "list", data:=.seq vs.toArray }->nT vs ns->ns.length<=n->s₁.gens = #[] ->
   nJ (model l.prog w) pW (.call (.ref fa) ⟨[.ref a],[]⟩) (fun r s'=>r=.ok (.ret (.bool true))/\OldK s₁.heap s'.heap/\s'.os=s₁.os/\oU s'.gens) s₁) :
  WalkO q loose XP YP l.row.toRowW d [] (fun f vs=>vK f vs):=by
 intro w s₀ s₁ mg mb G Y fa o pm cd doc dV kV ho hd hcd hD hmg hg args vals as hpre hlay hrd hwl hlo;obtain rfl:dV=.none:=Dflts.none hD hdf;obtain rfl:kV=.none:=Dflts.noKw hD;obtain⟨a,vs,ns,rfl,rfl,hobj,hints,hlen⟩:=aqc hn hpre hwl;refine enter_call (jW (call w s₀ s₁ mg mb fa o pm cd doc a vs ns G Y ho (fd_plain hd) hcd hmg hobj hints hlen hg) fun r s' hq =>?_)
 obtain⟨rfl,h2,h3,h4⟩:=hq;exact⟨.inl ⟨.bool true,.bool true,[],rfl,fun _=>rfl,.bool true,aqk l _,fun _=>⟨List.Pairwise.nil,fun _ hm=>(nomatch hm)⟩⟩,h2,h3,h4⟩
section
variable{prog:bJ}{w:World}{A:bW}{E:Value->aF->Prop}{s:aF}{K:Frag}
end
end Att
namespace L2
theorem aiq:∀{vs:List Value} {ns:List Int},nT vs ns->Vals (ns.map V.int) vs
 | _,_,.nil=>.nil
 | _,_,.cons n t h=>.cons ⟨t,rfl⟩ (aiq h)
def Only(H:Hp):Prop:=∀b,H b=none∨∃o xs,H b=some (.frz o (.lst xs))
theorem avc{P:bJ}{w:World}{K:Fg9}{mg mb:Str->Option Value}{CX:CXT}{k:Nat}{fa a:Addr}{fd:eG}{x:Str}{sp:Sp}{s₁:aF}{vs:List Value}{ns:List Int}
  (KX:K.In s₁.heap) (hns:s₁.heap.Ns aH mg) (hb:s₁.heap.Ns builtinsNs mb) (hbb:∀x:Str,x ≠ "__name__" -> mb x=bN x) (hlim:s₁.heap.NoLimit) (hg:s₁.gens = #[])
  (ha:s₁.heap.get? a=some { cls:=.type "list", data:=.seq vs.toArray }) (hi:nT vs ns) (hl:ns.length<=bV) (hr:Room k pW)
  (F:∀base:Heap,K.In base->base.Ns aH mg->FnOk P w K mg base CX k fa fd [x] sp) (hbind:∀(s:aF) (u:Value),nW s fd ⟨[u],[]⟩ [(x,u)])
  (hsp:∀H:Hp,Only H->SqL K H a (ns.map V.int)->sp [.ref a] H (fun v _=>v=.bl true) fun _ _ _=>False)
  (hCX:∀H e s',CX [] H s₁ (fun _ _ _=>False) e s'->False) :
  nJ (model P w) pW (.call (.ref fa) ⟨[.ref a],[]⟩) (fun r s'=>r=.ok (.ret (.bool true))/\OldK s₁.heap s'.heap/\s'.os=s₁.os/\oU s'.gens) s₁:=by
 have rv:=aiq hi;have lenV:=hi.length;have core:∀H:Hp,Only H->SqL K H a (ns.map V.int)->HOk P w H s₁.heap->(∀b,H b≠none->b=a)->(H a≠none->K.lookup a=none) ->
   nJ (model P w) pW (.call (.ref fa) ⟨[.ref a],[]⟩) (fun r s'=>r=.ok (.ret (.bool true))/\OldK s₁.heap s'.heap/\s'.os=s₁.os/\oU s'.gens) s₁:=by
  intro H hO hS hok hA hK;have base_of:∀{b:Addr} {o:Obj},s₁.heap.get? b=some o->H b=none->(hidT s₁.heap H).get? b=some o:=fun e n=>avm e n
  have noA:∀{b:Addr} {o:Obj} {es:Array DictEntry} {ep:Nat},s₁.heap.get? b=some o->o.data=.dict es ep->H b=none:=fun{b o es ep} e d=>by
   cases q:H b with
   | none=>rfl
   | some u =>
    have e':b=a:=hA b (by rw[q];simp)
    subst e';rw[ha] at e;cases e;have d':Data.seq vs.toArray _=Data.dict es ep:=d;cases d'
  have nsK:∀{b:Addr} {m:Str->Option Value},s₁.heap.Ns b m->(hidT s₁.heap H).Ns b m:=fun{b m} ⟨o,es,ep,e,d,r⟩=>⟨o,es,ep,base_of e (noA e d),d,r⟩
  have hKb:K.In (hidT s₁.heap H):=fun b o e=>base_of (KX b o e) (by
   cases q:H b with
   | none=>rfl
   | some u =>
    have e':b=a:=hA b (by rw[q];simp)
    subst e';rw[hK (by rw[q];simp)] at e;cases e)
  have hM:Mod K mg (hidT s₁.heap H):=⟨hKb,nsK hns,⟨mb,nsK hb,hbb⟩,let ⟨mc,h1,h2⟩:=hlim;⟨mc,nsK h1,h2⟩⟩
  have e0:Env0 P w K mg (hidT s₁.heap H) pW [] s₁ H:=⟨rfl,hM,fun b o e=>ayf e,tL (arn _ _),trivial,fun b hb=>absurd (show b∈([]:List Addr) from hb) (by simp),hok,.of_eq hg⟩
  refine jW ((F _ hKb (nsK hns)).run pW [] s₁ H ⟨[.ref a],[]⟩ [.ref a] [.ref a] _ _ hr e0 (hbind s₁ (.ref a)) (.cons rfl .nil) (hsp H hO hS)) fun r s' h =>?_
  cases r with
  | error e=>exact(hCX H e s' h).elim
  | ok fl =>
   cases fl with
   | next=>exact dH h
   | brk=>exact dH h
   | cont=>exact dH h
   | ret u =>
    obtain⟨v,H',os,bare,un,hok',r',q⟩:=h;have q':v=.bl true:=q;subst q';obtain rfl:u=pX true:=r';refine⟨rfl,OldK.of_keep fun b o e =>?_,os,bare⟩
    cases q:H b with
    | none=>exact un.keep b o e q (by intro z;exact absurd (show b∈([]:List Addr) from z) (by simp)) (by simp)
    | some u =>
     rcases hO b with z | ⟨ob,xs,z⟩
     ·rw[q] at z;cases z
     ·have z2:=un.frzs b ob _ z;obtain⟨e1,_⟩:=hok b _ z;obtain⟨e2,_⟩:=hok' b _ z2;rw[e] at e1;cases e1;exact e2
 cases hk:K.lookup a with
 | some o =>
  have e:=KX a o hk;rw[ha] at e;cases e;refine core (fun _=>none) (fun _=>.inl rfl) (.inr ⟨_,vs.toArray,_,hk,rfl,rfl,rfl,by rw[aR,lenV];exact hl,by simpa using rv⟩) (fun b u z=>by have z':(none:Option HO)=some u:=z;cases z') (fun b z=>absurd rfl z) fun z=>absurd rfl z
 | none =>
  refine core (fun b=>if b=a then some (.frz { cls:=.type "list", data:=.seq vs.toArray } (.lst (ns.map V.int))) else none) (fun b =>?_) (.inl (.inr ⟨{ cls:=.type "list", data:=.seq vs.toArray },if_pos rfl⟩)) (fun b u z =>?_) (fun b z =>?_) fun _=>hk
  ·by_cases hb:b=a
   ·exact .inr ⟨_,_,if_pos hb⟩
   ·exact .inl (if_neg hb)
  ·by_cases hb:b=a
   ·have z':=(if_pos hb).symm.trans z;cases z';subst hb;exact⟨ha,by rw[aU];exact hl,vs,_,rv,ha⟩
   ·have z':=(if_neg hb).symm.trans z;cases z'
  ·by_cases hb:b=a
   ·exact hb
   ·exact absurd (if_neg hb) z
theorem aw5{l:qY}{n k:Nat}{q:bJ}{loose:List Str}{XP:(Str->Option Value)->Heap->Prop}{YP:World->Heap->Prop}{d:DefRec}{K:Params->Fg9}{CX:World->CXT}{sp:World->Sp}{x:Str}
  (hn:l.most=some n) (hn2:n<=bV) (hdf:d.params.defaults=[]) (hr:Room k pW)
  (hY:∀(w:World) (h:Heap),YP w h->(K w.params).In h)
  (F:∀(w:World) (mg:Str->Option Value) (fa:Addr) (h:Heap),(K w.params).In h->h.Ns aH mg->mg d.name=some (.ref fa) ->
   ∃fd:eG,(∀(s:aF) (u:Value),nW s fd ⟨[u],[]⟩ [(x,u)]) /\
    ∀base:Heap,(K w.params).In base->base.Ns aH mg->FnOk l.prog w (K w.params) mg base (CX w) k fa fd [x] (sp w))
  (hsp:∀(w:World) (H:Hp) (a:Addr) (ns:List Int),ns.length<=n->Only H->SqL (K w.params) H a (ns.map V.int)->sp w [.ref a] H (fun v _=>v=.bl true) fun _ _ _=>False)
  (hCX:∀(w:World) (H:Hp) (s:aF) (e:Value) (s':aF),CX w [] H s (fun _ _ _=>False) e s'->False) :
  xY q loose XP YP l.row.toRowW d [] (fun f vs=>vK f vs):=by
 refine Att.alw hn hdf fun w s₀ s₁ mg mb fa o pm cd doc a vs ns G Y ho hd hcd hmg hobj hints hlen hg =>?_
 have KX:=hY w _ Y;obtain⟨fd,hb,hF⟩:=F w mg fa _ KX G.T.g hmg;exact avc KX G.T.g G.T.b G.T.builtins G.T.nolimit hg hobj hints (cM hlen hn2) hr hF hb (fun H hO hS=>hsp w H a ns hlen hO hS) fun H e s'=>hCX w H s₁ e s'
def fc(s:Stmt):Arguments:=match s with
 | .FunctionDef _ a _ _ _ _ _ _ _ _=>a
 | _=>{ posonlyargs:=[],args:=[],vararg:=none,kwonlyargs:=[],kw_defaults:=[],kwarg:=none,defaults:=[] }
def dg(s:Stmt):List Stmt:=match s with
 | .FunctionDef _ _ b _ _ _ _ _ _ _=>b
 | _=>[]
def aj(s:Stmt):Scope:=match s with
 | .FunctionDef _ _ _ _ _ _ sc _ _ _=>sc
 | _=>{ kind:=.function,names:=[],isGenerator:=false,isCoroutine:=false }
abbrev CX0:CXT:=fun _ _ _ _ _ _=>False
abbrev E0:XK:=fun _ _ _=>False
theorem a6l{X:Cx}:ati CX0 X E0:=fun _ _ _ _ _ _ _ h=>h.elim
structure Fun (K:Fg9) (x qual:Str) (st:Stmt) (f:Addr) (fd:eG):Prop where
 ex:∃(oc:Value) (od:Option Addr) (kV doc pm:Value) (an:Option Addr) (cdv ct:Value) (osl:Array (Option Value)),
  fd=fnOf x qual (fc st) (dg st) (aj st) .none kV doc pm an cdv ct/\K.lookup f=some ⟨oc,od,.func fd,osl⟩/\eX K cdv qual=true
 kp:dI K (.ref f)=true
section
variable{P:bJ}{w:World}{K:Fg9}{mg:Str->Option Value}{base:Heap}
theorem Fun.ok{x qual:Str}{st:Stmt}{f:Addr}{fd:eG}{N ps:List Str}{k:Nat}{sp:Sp}(F:Fun K x qual st f fd)(S:FnScope N ps (aj st))(len:∀vs H Q E,sp vs H Q E->vs.length=ps.length)
  (hbody:∀(cdv:Value) (A:bW) (outer:List Env) (s:aF) (H:Hp) (vs:List V) (Q:VK) (E:XK),Room k (A.deeper (nY qual (aj st) s.heap.objs.size f cdv))->sp vs H Q E ->
   ∃t,PSs (cxOf CX0 P w K mg base N qual (aj st) f cdv A outer s H E).nox (dg st) t/\t { nx:=fun _ H'=>Q .non H',rt:=Q } (start N vs) H):FnOk P w K mg base CX0 (k+1) f fd ps sp:=by
 obtain⟨oc,od,kV,doc,pm,an,cdv,ct,osl,rfl,lk,hcd⟩:=F.ex;refine a2z lk hcd S len fun A outer s H vs Q E hr hsp =>?_
 obtain⟨t,h,q⟩:=hbody cdv A outer s H vs Q E hr hsp;exact⟨t,h.nox,q⟩
theorem Fun.binds{x qual:Str}{st:Stmt}{f:Addr}{fd:eG}{ps:List Str}(F:Fun K x qual st f fd)
  (h:∀(kV doc pm:Value) (an:Option Addr) (cdv ct:Value) (us:List Value),us.length=ps.length->bindArgs (fnOf x qual (fc st) (dg st) (aj st) .none kV doc pm an cdv ct) ⟨us,[]⟩=pure (ps.zip us)):Binds K fd ps []:=by
 obtain⟨oc,od,kV,doc,pm,an,cdv,ct,osl,rfl,lk,hcd⟩:=F.ex;exact .all (h kV doc pm an cdv ct)
theorem ir{x qual:Str}{st:Stmt}{f:Addr}{oc:Value}{od an:Option Addr}{osl:Array (Option Value)}{kV doc pm cdv ct:Value}(l:K.lookup f=some ⟨oc,od,.func (fnOf x qual (fc st) (dg st) (aj st) .none kV doc pm an cdv ct),osl⟩)
  (c:eX K cdv qual=true) (k:dI K (.ref f)=true):Fun K x qual st f (fnOf x qual (fc st) (dg st) (aj st) .none kV doc pm an cdv ct):=⟨⟨oc,od,kV,doc,pm,an,cdv,ct,osl,rfl,l,c⟩,k⟩
end
theorem ap6{n:Nat}(h:n<=1000):n < bV:=pJ h (by decide)
section
variable{X:Cx}
theorem pv(i:Nat){x:Str}{pos:Pos}(hN:X.N[i]? = some x:=by rfl)(hv:Vis X.env.scope x:=by first | exact bG rfl | exact lQ (bG rfl) | exact lQ (lQ rfl))(hd:(x==("__debug__" : Str))=false:=by decide)
  (hcd:(x==("__classdict__" : Str))=false:=by decide):PE X (.Name x pos) (tVar i):=a00 hN hv hd hcd
end
theorem iteF{A B:Prop}(h:B):if false=true then A else B:=by
 rw[if_neg bZ];exact h
theorem iteT{A B:Prop}(h:A):if true=true then A else B:=by
 rw[if_pos rfl];exact h
def Same(H H':Hp):Prop:=∀b o,H b=some o->H' b=some o
theorem Same.refl(H:Hp):Same H H:=fun _ _ h=>h
theorem Same.trans{H H1 H2:Hp}(a:Same H H1)(b:Same H1 H2):Same H H2:=fun c o h=>b c o (a c o h)
theorem Same.free{H H':Hp}(e:Same H H'){l:Addr}(h:H' l=Option.none):H l=Option.none:=by
 cases q:H l with
 | none=>rfl
 | some o =>
  rw[e l o q] at h;cases h
theorem Same.seq{K:Fg9}{H H':Hp}{a:Addr}{xs:List V}(e:Same H H')(h:SqL K H a xs):SqL K H' a xs:=by
 rcases h with(h | ⟨o,h⟩) | h
 ·exact .inl (.inl (e _ _ h))
 ·exact .inl (.inr ⟨o,e _ _ h⟩)
 ·exact .inr h
end L2
namespace Mn
open L2
def aam(env:Env)(fr:List Str):List (Str×Addr):=fr.filterMap fun n=>(env.cells.lookup n).map fun c=>(n,c)
theorem ago{env:Env}{n:Str}{r:List Str}(e:env.cells.lookup n=none):aam env (n::r)=aam env r:=by
 unfold aam;rw[gD,e];rfl
theorem acy{env:Env}{n:Str}{r:List Str}{c:Addr}(e:env.cells.lookup n=some c):aam env (n::r)=(n,c)::aam env r:=by
 unfold aam;rw[gD,e];rfl
theorem look_same{x:Str}{c:Addr}{l:List (Str×Addr)}:cO x ((x,c)::l)=some c:=by
 have hb:(x==x)=true:=beq_iff_eq.mpr rfl;simp only[cO,hb]
theorem ag7{x n:Str}{c:Addr}{l:List (Str×Addr)}(h:x≠n):cO x ((n,c)::l)=l.lookup x:=by
 have hb:(x==n)=false:=beq_eq_false_iff_ne.mpr h;simp only[cO,hb]
theorem vg{env:Env}:∀{fr:List Str} {x:Str} {c:Addr},(aam env fr).lookup x=some c->env.cells.lookup x=some c
 | [],x,c,h=>by
  have h':(none:Option Addr)=some c:=h;cases h'
 | n::r,x,c,h=>by
  cases e:env.cells.lookup n with
  | none =>
   rw[ago e] at h;exact vg h
  | some d =>
   rw[acy e] at h
   by_cases hx:x=n
   ·subst hx;rw[look_same] at h;rw[e];exact h
   ·rw[ag7 hx] at h;exact vg h
theorem ab1{env:Env}:∀{fr:List Str} {x:Str} {c:Addr},x∈fr->env.cells.lookup x=some c->(aam env fr).lookup x=some c
 | [],x,c,hm,h=>absurd hm (by simp)
 | n::r,x,c,hm,h=>by
  by_cases hx:x=n
  ·subst hx;rw[acy h,look_same]
  ·have hm':x∈r:=(bF.mp hm).elim (fun e=>absurd e hx) id
   cases e:env.cells.lookup n with
   | none =>
    rw[ago e];exact ab1 hm' h
   | some d =>
    rw[acy e,ag7 hx];exact ab1 hm' h
noncomputable def ad1(XN fr:List Str):List Str->List (Option Nat)->Bool
 | [],[]=>true
 | _::N,none::r=>ad1 XN fr N r
 | x::N,some j::r=>XN[j]? == some x&&fr.contains x&&ad1 XN fr N r
 | _,_=>false
theorem afl{XN fr:List Str}:∀{N:List Str} {src:List (Option Nat)} {i j:Nat} {x:Str},ad1 XN fr N src=true->N[i]? = some x->src[i]? = some (some j)->XN[j]? = some x/\x∈fr
 | [],[],i,j,x,_,h,_=>by simp at h
 | [],_::_,i,j,x,_,h,_=>by simp at h
 | _::_,[],i,j,x,_,_,h=>by simp at h
 | y::N,none::r,0,j,x,_,_,h=>by simp at h
 | y::N,none::r,i+1,j,x,hk,h1,h2=>afl (N:=N) (src:=r) (i:=i) hk (by simpa using h1) (by simpa using h2)
 | y::N,some k::r,0,j,x,hk,h1,h2=>by
  simp only[ad1,aZ] at hk;obtain⟨⟨a,b⟩,_⟩:=hk;simp at h1 h2;subst h1 h2;exact⟨by simpa using a,by simpa using b⟩
 | y::N,some k::r,i+1,j,x,hk,h1,h2=>by
  simp only[ad1,aZ] at hk;exact afl (N:=N) (src:=r) (i:=i) hk.2 (by simpa using h1) (by simpa using h2)
theorem afk{XN fr:List Str}:∀{N:List Str} {src:List (Option Nat)},ad1 XN fr N src=true->src.length=N.length
 | [],[],_=>rfl
 | [],_::_,h=>by simp[ad1] at h
 | _::_,[],h=>by simp[ad1] at h
 | _::N,none::r,h=>by
  have:=afk (N:=N) (src:=r) h;simp[this]
 | _::N,some k::r,h=>by
  simp only[ad1,aZ] at h;have:=afk (N:=N) (src:=r) h.2;simp[this]
def pick(src:List (Option Nat))(σ:L2.St):L2.St:=src.map fun o=>o.bind fun j=>(σ[j]?).bind id
theorem aud{src:List (Option Nat)}{σ:L2.St}{i:Nat}{v:V}(h:(pick src σ)[i]? = some (some v)):∃j,src[i]? = some (some j)/\σ[j]? = some (some v):=by
 unfold pick at h;rw[aO] at h;cases e:src[i]? with
 | none=>rw[e] at h;cases h
 | some o =>
  rw[e] at h;have h':(o.bind fun j=>(σ[j]?).bind id)=some v:=bD h
  cases o with
  | none=>cases h'
  | some j =>
   refine⟨j,rfl,?_⟩;have h2:(σ[j]?).bind id=some v:=h';cases q:σ[j]? with
   | none=>rw[q] at h2;cases h2
   | some z =>
    rw[q] at h2;have h3:z=some v:=h2;rw[h3]
noncomputable def ahi(env:Env)(XN:List Str)(scope:Scope)(fr N:List Str)(src:List (Option Nat)):Bool :=
 scope.names.all (fun y=>y.2 != .cell&&(y.2 != .local||scope.names.lookup y.1==some .local)&&(y.2 != .free||fr.contains y.1)) &&
 fr.all (fun x=>scope.names.lookup x==some .free&&(env.kindOf x==some .cell||env.kindOf x==some .free))&&ad1 XN fr N src
structure CompOk (env:Env) (XN:List Str) (scope:Scope) (fr N:List Str) (src:List (Option Nat)):Prop where
 cell:∀y∈scope.names,y.2≠.cell
 loc:∀y∈scope.names,y.2=.local->scope.names.lookup y.1=some .local
 free:∀y∈scope.names,y.2=.free->y.1∈fr
 frk:∀x∈fr,scope.names.lookup x=some .free
 out:∀x∈fr,env.kindOf x=some .cell∨env.kindOf x=some .free
 src:ad1 XN fr N src=true
theorem CompOk.of{env:Env}{XN:List Str}{scope:Scope}{fr N:List Str}{src:List (Option Nat)}(h:ahi env XN scope fr N src=true):CompOk env XN scope fr N src:=by
 simp only[ahi,aZ,dX] at h;obtain⟨⟨h1,h2⟩,h3⟩:=h;refine⟨fun y hy =>?_,fun y hy e =>?_,fun y hy e =>?_,fun x hx =>?_,fun x hx =>?_,h3⟩
 ·have:=(h1 y hy).1.1
  simpa using this
 ·have:=(h1 y hy).1.2;rw[e] at this
  simpa using this
 ·have:=(h1 y hy).2;rw[e] at this
  simpa using this
 ·have:=(h2 x hx).1
  simpa using this
 ·have:=(h2 x hx).2
  simpa using this
theorem aes{env:Env}:∀{names:List (Str×NameKind)} {x:Str} {k:sV},
  (names.map fun(n,k)=>if (k==dF&&env.scope.kind==.function&&env.kindOf n==some .cell) then (n,jJ) else (n,k)).lookup x=some k ->
  ∃k0,names.lookup x=some k0/\(k=k0∨(k0=.free/\k=.cell))
 | [],x,k,h=>by simp at h
 | (n,q)::r,x,k,h=>by
  by_cases hx:x=n
  ·subst hx;have hb:(x==x)=true:=beq_iff_eq.mpr rfl;refine⟨q,by simp only[cO,hb],?_⟩
   by_cases hc:(q==dF&&env.scope.kind==.function&&env.kindOf x==some .cell)=true
   ·rw[aV] at h;simp only[hc,if_true,cO,hb] at h;simp only[aZ] at hc;exact .inr ⟨by simpa using hc.1.1,(bD h).symm⟩
   ·rw[aV] at h;simp only[hc,cO,hb] at h;exact .inl (by simpa using h.symm)
  ·have hb:(x==n)=false:=beq_eq_false_iff_ne.mpr hx;have h':(r.map fun(n,k)=>if (k==dF&&env.scope.kind==.function&&env.kindOf n==some .cell) then (n,jJ) else (n,k)).lookup x=some k:=by
    rw[aV] at h
    by_cases hc:(q==dF&&env.scope.kind==.function&&env.kindOf n==some .cell)=true
    ·simp only[hc,if_true,cO,hb] at h;exact h
    ·have h2:cO x ((if (q==dF&&env.scope.kind==.function&&env.kindOf n==some .cell)=true then (n,jJ) else (n,q))::(r.map fun(n,k)=>if (k==dF&&env.scope.kind==.function&&env.kindOf n==some .cell) then (n,jJ) else (n,k)))=some k:=h
     rw[if_neg hc] at h2;simp only[cO,hb] at h2;exact h2
   obtain⟨k0,e,d⟩:=aes h';exact⟨k0,by simp only[cO,hb];exact e,d⟩
theorem aa7{env:Env}:∀{names:List (Str×NameKind)} {x:Str},names.lookup x=some .free ->
  (names.map fun(n,k)=>if (k==dF&&env.scope.kind==.function&&env.kindOf n==some .cell) then (n,jJ) else (n,k)).lookup x=some .free ∨
  (names.map fun(n,k)=>if (k==dF&&env.scope.kind==.function&&env.kindOf n==some .cell) then (n,jJ) else (n,k)).lookup x=some .cell
 | [],x,h=>by simp at h
 | (n,q)::r,x,h=>by
  by_cases hx:x=n
  ·subst hx;have hb:(x==x)=true:=beq_iff_eq.mpr rfl;simp only[cO,hb] at h;have hq:q=.free:=bD h;subst hq
   by_cases hc:(dF==dF&&env.scope.kind==.function&&env.kindOf x==some .cell)=true
   ·right
    rw[aV];simp only[hc,if_true,cO,hb]
   ·left
    show cO x ((if (dF==dF&&env.scope.kind==.function&&env.kindOf x==some .cell)=true then (x,jJ) else (x,dF))::_)=some dF
    rw[if_neg hc];simp only[cO,hb]
  ·have hb:(x==n)=false:=beq_eq_false_iff_ne.mpr hx;simp only[cO,hb] at h;rw[aV]
   by_cases hc:(q==dF&&env.scope.kind==.function&&env.kindOf n==some .cell)=true
   ·simp only[hc,if_true,cO,hb];exact aa7 h
   ·simp only[hc,cO,hb]
    simpa[cO,hb] using aa7 (env:=env) h
noncomputable def cxC(X:Cx)(N:List Str)(scope:Scope)(fr:List Str)(fp:List Addr)(s:aF)(H:Hp):Cx where
 prog:=X.prog
 w:=X.w
 K:=X.K
 mg:=X.mg
 base:=X.base
 A:=X.A
 N:=N
 s₀:=s
 H₀:=H
 env:=compEnvC scope (aam X.env fr) s.heap.objs.size X.env
 outer:=X.stack
 stack:=X.stack
 ex:=fp
 fn:=fun _=>false
 calm:=X.calm
 pn:=[]
 xe:=fun _ _=>False
section
variable{X:Cx}{zv:List (Addr×Obj)}{σ:L2.St}{H:Hp}{s:aF}{scope:Scope}{fr N:List Str}{src:List (Option Nat)}{fp:List Addr}
theorem a3g(I:Inv X zv σ H s)(C:CompOk X.env X.N scope fr N src)(hkind:scope.kind=.function)(hf:∀b∈fp,FpOk X zv H b)(hl:∀b∈fp,b < s.heap.objs.size):(cxC X N scope fr fp s H).Ok where
 mod:=I.ok.mod
 kind:=hkind
 glob:=I.ok.glob
 blt:=I.ok.blt
 above:=aN _
 inj:=fun x y c h1 h2=>I.ok.inj x y c (vg h1) (vg h2)
 has:=fun x hx=>by
  have mem:∀k,(k=jJ∨k=dF)->(cxC X N scope fr fp s H).env.kindOf x=some k->x∈fr:=fun k hk e=>by
   obtain⟨k0,e0,d⟩:=aes (env:=X.env) (names:=scope.names) e;have hm:=iJ e0;rcases d with rfl | ⟨rfl,_⟩
   ·rcases hk with rfl | rfl
    ·exact absurd rfl (C.cell _ hm)
    ·exact C.free _ hm rfl
   ·exact C.free _ hm rfl
  have hm:x∈fr:=by
   rcases hx with e | e
   ·exact mem _ (.inl rfl) e
   ·exact mem _ (.inr rfl) e
  obtain⟨c,hc⟩:=I.ok.has x (C.out x hm);exact⟨c,ab1 hm hc⟩
 cab:=fun _ _ h _=>absurd h bZ
 hd:=I.ok.hd
 frames:=I.ok.frames
 stk:=.inl rfl
 exf:=fun b hb=>⟨Nat.ne_of_lt (hl b hb),fun x c e=>(hf b hb).2.2.2.2.1 x c (vg e)⟩
 bs:=I.bs
 bsz:=cM I.ok.bsz I.sz
 noex:=fun b o e hb=>by
  rcases(hf b hb).2.2.2.1 with z | z
  ·exact I.ok.noex b o e z
  ·exact absurd (bL (aP e) (cM I.ok.bsz z)) (kO _)
 exfs:=fun b hb z=>by
  rcases bF.mp (I.stkSub b z) with e | e
  ·exact(hf b hb).2.1 e
  ·exact(hf b hb).2.2.1 e
 funs:=I.stack
 frf:=I.stkFree
theorem amw(I:Inv X zv σ H s)(C:CompOk X.env X.N scope fr N src)(hkind:scope.kind=.function)(hf:∀b∈fp,FpOk X zv H b)(hl:∀b∈fp,b < s.heap.objs.size){h':Heap}{tk:Nat}{m:Str->Option Value}
  (hns:h'.Ns s.heap.objs.size m) (hk:∀b o,s.heap.get? b=some o->h'.get? b=some o):Inv (cxC X N scope fr fp s H) [] (pick src σ) H { s with heap:=h',toks:=tk } where
 ok:=a3g I C hkind hf hl
 os:=rfl
 bare:=I.bare
 base:=Un.kept hk
 loc:=by
  refine⟨m,hns,fun i x v h1 h2 h3 =>?_⟩
  obtain⟨j,hj,hv⟩:=aud h2;obtain⟨hN,hm⟩:=afl C.src h1 hj;obtain⟨mo,_,hlo⟩:=I.loc;have vis:Vis X.env.scope x:=by
   rcases C.out x hm with e | e
   ·exact .inr (.inl e)
   ·exact .inr (.inr e)
  obtain⟨u,r,l⟩:=hlo j x v hN hv vis;refine⟨u,r,.inr ⟨?_,?_⟩⟩
  ·rcases aa7 (env:=X.env) (C.frk x hm) with e | e
   ·exact .inr e
   ·exact .inl e
  ·rcases l with⟨e,_⟩ | ⟨_,c,hc,z⟩
   ·rcases C.out x hm with q | q
    ·rw[q] at e;cases e
    ·rw[q] at e;cases e
   ·obtain⟨o,ho,hd⟩:=z;exact⟨c,ab1 hm hc,o,hk c o ho,hd⟩
 cell:=fun x c e=>by
  obtain⟨v,o,ho,hd⟩:=I.cell x c (vg e);exact⟨v,o,hk c o ho,hd⟩
 free:=I.hok.fresh (aN _)
 freeC:=fun x c e=>I.freeC x c (vg e)
 pin:=fun p hp=>absurd (show p∈([]:List (Addr×Obj)) from hp) (by simp)
 hok:=I.hok.kept hk
 len:=by
  unfold pick;rw[aU];exact afk C.src
theorem amx{pins':List (Addr×Obj)}{σ':L2.St}{H':Hp}{s':aF}{h'':Heap}(I:Inv X zv σ H s)(hf:∀b∈fp,FpOk X zv H b)(J:Inv (cxC X N scope fr fp s H) pins' σ' H' s')
  (hs:fG s.heap.objs.size s'.heap h''):Inv X zv σ H' { s' with heap:=h'' }:=by
 have k:∀b o,b≠s.heap.objs.size->s'.heap.get? b=some o->h''.get? b=some o:=fun b o hb e=>(hs.2 b hb).trans e
 have old:∀b o,s.heap.get? b=some o->b≠s.heap.objs.size:=fun b o e=>bC (aP e)
 have un:Un (frs X.stack) fp H H' s.heap h'':=by
  have u:Un (frs X.stack) fp H H' s.heap s'.heap:=J.base;refine⟨fun b o e n hb hx=>k b o (old b o e) (u.keep b o e n hb hx),fun b o e n hb hx =>?_,u.free,fun b o e hx =>?_,u.tups,u.frzs,u.tbls⟩
  ·obtain⟨sl,q⟩:=u.slot b o e n hb hx;exact⟨sl,k b _ (old b o e) q⟩
  ·obtain⟨o',q⟩:=u.there b o e hx;exact⟨o',k b _ (old b o e) q⟩
 have hok:HOk X.prog X.w H' h'':=fun b u e=>by
  have nC:∀c z,H' c=some z->c≠s.heap.objs.size:=fun c z q w=>by
   have f:H' s.heap.objs.size=none:=J.free;rw[w,f] at q;cases q
  refine(J.hok b u e).stay (fun c v hc q=>k c v ?_ q) (fun _ q=>q) fun _ _ q=>q
  rcases hc with z | z
  ·rw[z];exact nC b u e
  ·exact nC c _ z
 have os:s'.os=s.os:=J.os;refine Inv.call' (s':={ s' with heap:=h'' }) I os un hok J.bare fun b hb =>?_
 obtain⟨_,f1,_,f3,f4,f5⟩:=hf b hb;exact⟨f3,f1,f4,f5⟩
end
def aki(ifs:List Expr)(env:Env):Sem Bool:=forIn ifs true fun c r=>if r=true then do let ok <-isTrue c env (eval c env);pure (xH ok) else pure (xH r)
def PIf(X:Cx)(ifs:List Expr)(t:TT):Prop :=
 ∀(zv:List (Addr×Obj)) (s:aF) (σ:L2.St) (H:Hp) (Q:Bool->Hp->Prop),Inv X zv σ H s->t σ H Q->wpAny (model X.prog X.w) X.A (aki ifs X.env) (TP X zv σ Q) X.xe s
def tYes:TT:=fun _ H Q=>Q true H
theorem axy{X:Cx}:PIf X [] tYes:=fun zv s σ H Q I h=>by
 show wpAny _ _ (pure true) _ _ s;exact aD ⟨H,I,h⟩
theorem axx{X:Cx}{c:Expr}{t:TT}(hc:PT X c t):PIf X [c] t:=fun zv s σ H Q I h=>by
 unfold aki;rw[oM];rw[if_pos rfl];refine aA (aA (thn (hc zv s σ H _ I h) fun b s1 q=>aD ?_))
 show wpAny _ _ (forIn [] b _) _ _ s1;exact aD q
section
variable{prog:bJ}{w:World}{A:bW}{R:Result->aF->Prop}{s:aF}
theorem compLoop{elt target iter:Expr}{ifs:List Expr}{scope:Scope}{pos:Pos}{it acc:Value}{env:Env}(I:Nat->aF->Prop)
  (turn:∀n s,I n s->wpAny (model prog w) A (mX it) (fun r s₁=>match r with
   | none=>R (.ok .next) s₁
   | some v=>wpAny (model prog w) A (letOwnedTupleGo target it v) (fun _ s₁'=>wpAny (model prog w) A (oY target env v) (fun _ s₂ =>
     wpAny (model prog w) A (aki ifs env) (fun ok s₃ =>
      if ok=true then wpAny (model prog w) A (eval elt env) (fun x s₄ =>
       wpAny (model prog w) A (call (.builtin "list.append") [acc,x]) (fun _ s₅=>∃m,m < n/\I m s₅) (fun _ _=>False) s₄) (fun _ _=>False) s₃
      else ∃m,m < n/\I m s₃) (fun _ _=>False) s₂) (fun _ _=>False) s₁') (fun _ _=>False) s₁) (fun _ _=>False) s)
  (n:Nat) (h:I n s) :
  nJ (model prog w) A (.compLoop (.ListComp elt [⟨target,iter,ifs,0⟩] scope pos) 0 it acc env) R s:=by
 refine codeAny_loop rfl I (fun n s hI =>?_) n h
 show wpAny _ A ((compTurn (.ListComp elt [⟨target,iter,ifs,0⟩] scope pos) 0 it acc env).onRaise (fun x=>do noteFrame x env;theTreesLotGoes x)) _ _ s
 refine wpAny_noted ?_;rw[compTurn_list];refine aA (iH (aA (aW (turn n s hI) (fun r s₁ h₁ =>?_) fun _ _ h'=>h'.elim)))
 cases r with
 | none=>exact aD h₁
 | some v =>
  refine aA (aW h₁ (fun _ s₁' h₁' =>?_) fun _ _ h'=>h'.elim)
  refine aA (aW h₁' (fun _ s₂ h₂=>aA (aW h₂ (fun ok s₃ h₃ =>?_) fun _ _ h'=>h'.elim)) fun _ _ h'=>h'.elim)
  cases ok with
  | false=>exact aD ⟨rfl,h₃⟩
  | true =>
   exact aA (aA (aW h₃ (fun x s₄ h₄=>aA (aW h₄ (fun _ s₅ h₅=>aD (aD ⟨rfl,h₅⟩)) fun _ _ h'=>h'.elim)) fun _ _ h'=>h'.elim))
end
def a3u(J:It)(g:TG)(ti:TT)(te:TE)(Q:VK)(d:Addr)(σ0:L2.St)(H1:Hp):Prop :=
 ∃W:Nat->Nat->List V->L2.St->Hp->Prop,(∃m,W 0 m [] σ0 (upd H1 d (.lst [])))/\∀i m ys σ H2,W i m ys σ H2->H2 d=some (.lst ys) /\
  ((J.stop i H2/\Q (.ref d) H2)∨(J.go i H2/\∀x H3,J.yld i H2 x H3->g x σ H3 fun σ4 H4=>ti σ4 H4 fun b H5 =>
   if b=true then te σ4 H5 fun y H6=>H6 d=some (.lst ys)/\ys.length < bV/\∃m',m' < m/\W (i+1) m' (ys++[y]) σ4 (upd H6 d (.lst (ys++[y]))) else ∃m',m' < m/\W (i+1) m' ys σ4 H5))
def axf(wi:TI)(g:TG)(ti:TT)(te:TE)(src:List (Option Nat)):TE:=fun σ H Q=>wi σ H fun J H1=>∀d,H1 d=none->a3u J g ti te Q d (pick src σ) H1
theorem aj3{X:Cx}{tg iter elt:Expr}{ifs:List Expr}{scope:Scope}{pos:Pos}{J:It}{fp:List Addr}{it d:Addr}{tn:Nat->Heap->Prop}{g:TG}{ti:TT}{te:TE}{Q:VK}{R:Result->aF->Prop}
  {W:Nat->Nat->List V->L2.St->Hp->Prop} {m0:Nat} {σ0:L2.St} {H0:Hp} {s:aF} (hc:X.calm=true) (hE:X.xe=fun _ _=>False) (T:Turn X.prog X.w X.K tg J fp it tn)
  (hf:∀H':Hp,(∀b∈fp,H' b=none)->∀b∈fp,FpOk X [] H' b) (hg:PG X tg g) (ht:PIf X ifs ti) (he:PE X elt te)
  (turn:∀i m ys σ H2,W i m ys σ H2->H2 d=some (.lst ys) /\
   ((J.stop i H2/\Q (.ref d) H2)∨(J.go i H2/\∀x H3,J.yld i H2 x H3->g x σ H3 fun σ4 H4=>ti σ4 H4 fun b H5 =>
    if b=true then te σ4 H5 fun y H6=>H6 d=some (.lst ys)/\ys.length < bV/\∃m',m' < m/\W (i+1) m' (ys++[y]) σ4 (upd H6 d (.lst (ys++[y]))) else ∃m',m' < m/\W (i+1) m' ys σ4 H5)))
  (w0:W 0 m0 [] σ0 H0) (I0:Inv X [] σ0 H0 s) (st0:tn 0 s.heap) (fr0:∀b∈fp,H0 b=none)
  (hR:∀σ' H' s',Inv X [] σ' H' s'->Q (.ref d) H'->R (.ok .next) s') :
  nJ (model X.prog X.w) X.A (.compLoop (.ListComp elt [⟨tg,iter,ifs,0⟩] scope pos) 0 (.ref it) (.ref d) X.env) R s:=by
 have hE':∀e s',X.xe e s'->False:=fun e s' h=>by rw[hE] at h;exact h
 refine compLoop (fun n s'=>∃i ys σ' H',Inv X [] σ' H' s'/\tn i s'.heap/\(∀b∈fp,H' b=none)/\W i n ys σ' H') ?_ m0 ⟨0,[],σ0,H0,I0,st0,fr0,w0⟩
 rintro n s5 ⟨i,ys,σ5,H5,I5,st5,fr5,w5⟩
 obtain⟨hD,alt⟩:=turn i n ys σ5 H5 w5;rcases alt with⟨stop,qn⟩ | ⟨go,step⟩
 ·refine aW (T.done X rfl rfl rfl hc i [] s5 σ5 H5 (fun _ _=>False) I5 (hf _ fr5) st5 stop) (fun r s6 ⟨hr,I6⟩ =>?_) fun _ _ e=>e
  subst hr;exact hR σ5 H5 s6 I6 qn
 ·refine aW (T.item X rfl rfl rfl hc i [] s5 σ5 H5 (fun _ _=>False) I5 (hf _ fr5) st5 go) (fun r s6 ⟨u,hr,h6⟩ =>?_) fun _ _ e=>e
  subst hr;refine aW h6 (fun _ s7 ⟨x,H7,I7,r7,y7,st7,fr7⟩ =>?_) fun _ _ e=>e
  have I7':=I7.pinned (hf _ fr7) (T.obj _ _ st7);have again:∀{σ':L2.St} {H':Hp} {s':aF} {ys':List V} {m':Nat},Inv X ([]++ai3 fp s7.heap) σ' H' s'->W (i+1) m' ys' σ' H'->∃i ys σ' H',Inv X [] σ' H' s'/\tn i s'.heap/\(∀b∈fp,H' b=none)/\W i m' ys σ' H':=fun{σ' H' s' ys' m'} Ia wa=>by
   refine⟨i+1,ys',σ',H',Ia.unpinned,T.keep _ _ _ st7 fun b hb o e=>(Ia.pin (b,o) (cG _ (cG _ (abv hb e)))).1,fun b hb =>?_,wa⟩
   obtain⟨o,e,d⟩:=T.obj _ _ st7 b hb;exact(Ia.pin (b,o) (cG _ (cG _ (abv hb e)))).2.1
  refine aW (hg _ s7 σ5 H7 x u _ I7' r7 (step x H7 y7)) (fun _ s8 ⟨σ8,H8,I8,q8⟩ =>?_) hE'
  refine aW (ht _ s8 σ8 H8 _ I8 q8) (fun ok s9 ⟨H9,I9,q9⟩ =>?_) hE'
  cases ok with
  | false =>
   rw[if_neg bZ] at q9 ⊢
   obtain⟨m',hm,wa⟩:=q9;exact⟨m',hm,again I9 wa⟩
  | true =>
   rw[if_pos rfl] at q9 ⊢
   refine aW (he _ s9 σ8 H9 _ I9 q9) (fun z s10 ⟨y,H10,I10,r10,hd10,hz,m',hm,wa⟩ =>?_) hE'
   refine aW (aaf _ s10 σ8 H10 (.ref d) [y] (.ref d) [z] (fun _ H'=>H'=upd H10 d (.lst (ys++[y]))) I10 rfl (.cons r10 .nil) ⟨d,ys,y,rfl,rfl,hd10,hz,rfl⟩) (fun _ s11 ⟨_,H11,I11,_,e11⟩ =>?_) hE'
   subst e11;exact⟨m',hm,again I11 wa⟩
theorem ax4{X:Cx}{tg iter elt:Expr}{ifs:List Expr}{scope:Scope}{pos:Pos}{wi:TI}{g:TG}{ti:TT}{te:TE}(fr N:List Str)(src:List (Option Nat))(hc:X.calm=true)(hi:PI X tg iter wi)
  (hg:∀fp s H,PG (cxC X N scope fr fp s H) tg g) (ht:∀fp s H,PIf (cxC X N scope fr fp s H) ifs ti) (he:∀fp s H,PE (cxC X N scope fr fp s H) elt te)
  (hok:ahi X.env X.N scope fr N src=true:=by rfl) (hkind:scope.kind=.function:=by rfl) (hclos:closureFor scope X.env=pure (aam X.env fr):=by rfl)
  (hs:∀x,foldedSetIterable iter X.env x=pure x:=by intro _;rfl):PE X (.ListComp elt [⟨tg,iter,ifs,0⟩] scope pos) (axf wi g ti te src):=by
 have C:=CompOk.of hok;intro zv s σ H Q I h;rw[eval_ListComp];refine wpAny_comprehension_free (use:=none) rfl hs hclos hkind C.loc (aW (hi zv s σ H _ I h) (fun v s1 h1=>aW h1 (fun itv s2 h2 =>?_) fun _ _ e=>e) fun _ _ e=>e)
 obtain⟨it,fp,tn,J,H2,e,I2,T,st2,f2,q2⟩:=h2;subst e;have hd0:H2 s2.heap.objs.size=none:=I2.hok.fresh (aN _);obtain⟨W,⟨m0,w0⟩,turn⟩:=q2 s2.heap.objs.size hd0;refine bR ?_;generalize hs3:({ s2 with heap:=s2.heap.push { cls:=.type "list", dict:=none,data:=.seq ([]:List Value).toArray } }:aF)=s3
 have keep2:∀b o,s2.heap.get? b=some o->s3.heap.get? b=some o:=fun b o e=>by rw[<-hs3];exact aB _ e
 have I3:Inv X zv σ (upd H2 s2.heap.objs.size (.lst [])) s3:=by
  rw[<-hs3];exact I2.laid (t':=s2.toks) (fun b u q=>aB _ q) (aN _) ⟨Nat.zero_le _,[],0,.nil,aL _ rfl⟩
 have ne0:∀b∈fp,b≠s2.heap.objs.size:=fun b hb=>by
  obtain⟨o,e,_⟩:=T.obj _ _ st2 b hb;exact bC (aP e)
 have f3:∀b∈fp,FpOk X zv (upd H2 s2.heap.objs.size (.lst [])) b:=fun b hb=>⟨by rw[dj (ne0 b hb)];exact(f2 b hb).1,(f2 b hb).2⟩
 have lt3:∀b∈fp,b < s3.heap.objs.size:=fun b hb=>by
  obtain⟨o,e,_⟩:=T.obj _ _ st2 b hb;exact aP (keep2 b o e)
 refine wpAny_newFunctionEnv C.cell (by intro y hy;simp at hy) (fun h₁ hns₁ hsb₁ =>?_) hkind
 have keep3:∀b o,s3.heap.get? b=some o->h₁.get? b=some o:=fun b o e=>hsb₁.extBut b o (bC (aP e)) (aB _ e)
 have st4:tn 0 h₁:=T.keep _ _ _ st2 fun b hb o e=>keep3 b o (keep2 b o e)
 have I4:=amw (tk:=s3.toks+([]:List (Str×Value)).length) I3 C hkind f3 lt3 hns₁ keep3;have loop:=aj3 (X:=cxC X N scope fr fp s3 (upd H2 s2.heap.objs.size (.lst []))) (iter:=iter) (scope:=scope) (pos:=pos) (d:=s2.heap.objs.size)
  (R:=compPost (model X.prog X.w) X.A X.xe none (EP X zv σ Q) (.ref s2.heap.objs.size) s3.heap.objs.size) hc rfl T
  (fun H' hn b hb=>⟨hn b hb,bC (lt3 b hb),I4.ok.exfs b hb,.inl hb,(I4.ok.exf b hb).2,fun p hp=>absurd (show p∈([]:List (Addr×Obj)) from hp) (by simp)⟩)
  (hg fp s3 _) (ht fp s3 _) (he fp s3 _) turn w0 I4 st4 (fun b hb=>(f3 b hb).1) (fun σ' H' s' I6 qn=>by
   obtain⟨m6,hn6,_⟩:=I6.loc;exact⟨m6,hn6,fun h'' hs''=>⟨.ref s2.heap.objs.size,H',amx I3 f3 I6 hs'',rfl,qn⟩⟩)
 exact codeAny_compStart_list loop (T.self _ 0 _ _ _ st4 loop)
def Keep(ws:List Addr)(H H':Hp):Prop:=∀b o,H b=some o->b∉ws->H' b=some o
theorem Keep.of{ws:List Addr}{H H':Hp}(h:Same H H'):Keep ws H H':=fun b o e _=>h b o e
theorem Keep.same{H H':Hp}(h:Keep [] H H'):Same H H':=fun b o e=>h b o e (by simp)
theorem Keep.trans{ws:List Addr}{H H1 H2:Hp}(a:Keep ws H H1)(b:Keep ws H1 H2):Keep ws H H2:=fun c o e n=>b c o (a c o e n) n
theorem Keep.refl(ws:List Addr)(H:Hp):Keep ws H H:=fun _ _ e _=>e
theorem Same.new{H:Hp}{p:Addr}(h:H p=none)(o:HO):Same H (upd H p o):=fun b u q=>by rw[dj (ji q h)];exact q
theorem Keep.put{H:Hp}{p:Addr}(o:HO):Keep [p] H (upd H p o):=fun b u q n=>by rw[dj (fun e=>n (by simp[e]))];exact q
theorem Keep.new{ws:List Addr}{H H1:Hp}{p:Addr}(g:Keep ws H H1)(h:H p=none)(o:HO):Keep ws H (upd H1 p o):=fun b u q n=>by rw[dj (ji q h)];exact g b u q n
theorem Keep.free{ws:List Addr}{H H':Hp}(e:Keep ws H H'){l:Addr}(h:H' l=none)(n:l∉ws):H l=none:=by
 cases q:H l with
 | none=>rfl
 | some o =>
  rw[e l o q n] at h;cases h
theorem Same.tup{K:Fg9}{H H':Hp}{a:Addr}{xs:List V}(e:Same H H')(h:SqT K H a xs):SqT K H' a xs:=by
 rcases h with(h | ⟨o,h⟩) | h
 ·exact .inl (.inl (e _ _ h))
 ·exact .inl (.inr ⟨o,e _ _ h⟩)
 ·exact .inr h
structure ItOf (J:It) (xs:List V) (S:Hp->Prop):Prop where
 go:∀i H,S H->i < xs.length->J.go i H
 yld:∀i H x H',S H->J.yld i H x H'->H'=H/\(i < xs.length->xs[i]? = some x)
 stop:∀i H,S H->xs.length<=i->J.stop i H
theorem avj{K:Fg9}{a:Addr}{xs:List V}:ItOf (Itt K a) xs fun H=>SqT K H a xs :=
 ⟨fun i H h hi=>⟨xs,xs[i],h,by simp[hi]⟩,fun i H x H' h y=>⟨y.1,fun _=>y.2 xs h⟩,fun i H h hi=>⟨xs,h,hi⟩⟩
theorem amu{K:Fg9}{a:Addr}{xs:List V}:ItOf (Itl K a) xs fun H=>SqL K H a xs :=
 ⟨fun i H h hi=>⟨xs,xs[i],h,by simp[hi]⟩,fun i H x H' h y=>⟨y.1,fun _=>y.2 xs h⟩,fun i H h hi=>⟨xs,h,hi⟩⟩
def ups(lo:Int)(n:Nat):List V:=(aJ n).map fun i=>V.int (lo+(i:Nat))
theorem ahn(lo:Int)(n:Nat):(ups lo n).length=n:=by simp[ups]
theorem aw6{lo:Int}{n i:Nat}(h:i < n):(ups lo n)[i]? = some (.int (lo+(i:Nat))):=by
 unfold ups;rw[aO,aY h];rfl
theorem amt{lo:Int}{n:Nat}:ItOf (Itr lo n) (ups lo n) fun _=>True :=
 ⟨fun i H _ hi=>by rw[ahn] at hi;exact hi,fun i H x H' _ y=>⟨y.1,fun hi=>by rw[ahn] at hi;rw[aw6 hi,y.2]⟩,fun i H _ hi=>by rw[ahn] at hi;exact hi⟩
section
variable{X:Cx}
def rAll(K:Fg9):List V->Hp->VK->Prop:=fun xs H Q=>∃(p:Addr) (bs:List Bool),xs=[.ref p]/\SqL K H p (bs.map V.bl)/\Q (.bl (bs.all id)) H
theorem av4(hc:X.calm=true):za X (.builtin "all") (rAll X.K):=by
 intro zv s σ H xs us Q I r h;obtain⟨p,bs,rfl,hq,q⟩:=h;obtain⟨u,rfl,ru⟩:=vals1 r;cases ru;obtain⟨its,rv,pl,hz⟩:=I.list hq;have hl:=pl.isList;have hlen:=rv.length;rw[aU] at hlen;have hlt:p < s.heap.objs.size:=by obtain⟨_,e,_⟩:=hl;exact aP e
 refine call_all_walk (wpAny_pyIter_list hl ?_);refine⟨s.heap.objs.size,[s.heap.objs.size,p],[s.heap.objs.size],its.toArray.size,_,_,fun i=>(bs[i]?).getD true,rfl,Walks.list (A:=X.A.in1) (I.ok.hd hc) _ p (bC hlt) its.toArray,
  ⟨⟨_,aL _ rfl,rfl,rfl⟩,hl.push _⟩,fun i v s' Q' E' hP hQ =>?_,fun h' tk hk =>?_⟩
 ·have hi:its[i]? = some v:=by simpa using hP
  cases e:bs[i]? with
  | none =>
   have h1:bs.length<=i:=List.getElem?_eq_none_iff.mp e;have h2:i < its.length:=(aK.mp hi).1;omega
  | some b =>
   obtain⟨u,hu,ru⟩:=rv.get (i:=i) (x:=V.bl b) (by rw[aO,e];rfl)
   rw[hi] at hu;cases hu;obtain rfl:v=pX b:=ru;simp only[e,qN] at hQ;exact wpAny_truthy_bool hQ
 ·have e:((aJ its.toArray.size).all fun i=>(bs[i]?).getD true)=bs.all id:=by
   rw[aR,<-hlen];exact LSm.range_all bs
  rw[e];exact⟨.bl (bs.all id),H,I.kept (t':=tk) (sX hk),rfl,q⟩
end
def Dfn(P:bJ)(w:World)(K:Fg9)(mg:Str->Option Value)(base:Heap)(x:Str)(ps:List Str)(k:Nat)(sp:Sp):Prop :=
 ∃(f:Addr) (fd:eG),FnOk P w K mg base CX0 k f fd ps sp/\mg x=some (.ref f)/\dI K (.ref f)=true/\Binds K fd ps []
section
variable{X:Cx}{x:Str}{ps:List Str}{k:Nat}{sp:Sp}{e:Expr}{es:List Expr}{t:TA}{p pos:Pos}
theorem a6j(F:Dfn X.prog X.w X.K X.mg X.base x ps k sp)(hr:Room k X.A)(hg:Gl X x)(ha:PA X (e::es) t)(hdb:(x==("__debug__" : Str))=false:=by decide)
  (he:aQ (e::es) X.env=(false,eval e X.env)::aQ es X.env:=by rfl) (hpl:(iG pos (aQ es X.env)).any (·.1)=false:=by rfl):PE X (.Call (.Name x p) (e::es) [] pos) (axg sp [] E0 t):=by
 obtain⟨f,fd,F,hm,hk,hb⟩:=F;exact ax6 F hr hg hm hk hb .nil a6l ha hdb he hpl
theorem a08{n:Int}(hg:Gl X x)(hm:∃t,X.mg x=some (.int n t))(hd:(x==("__debug__" : Str))=false:=by decide):PE X (.Name x pos) (tC (.int n)):=by
 obtain⟨t,hm⟩:=hm;exact aqq hg hm ⟨t,rfl⟩ hd
theorem ahx{T:String}(hg:Gl X x)(hm:X.mg x=none)(hv:bN x=some (.type T))(hn:x ≠ "__name__" := by decide)(hd:(x==("__debug__" : Str))=false:=by decide):PE X (.Name x pos) (tC (.ty T)) :=
 ax7 hg hm hv rfl hn hd
end
section
variable{X:Cx}
end
section
variable{prog:bJ}{w:World}{A:bW}{E:Value->aF->Prop}{s:aF}
theorem av2{t b:Addr}{vs ws:List Value}{Q:Value->aF->Prop}(ht:IsTup s.heap t vs.toArray)(hb:IsTup s.heap b ws.toArray)(hv:vs=[])(h:Q (.ref b) s):wpAny (model prog w) A (fK .Add (.ref t) (.ref b)) Q E s:=by
 obtain⟨⟨cls,dd,data,sl⟩,ho,hc,n,hd⟩:=id ht;obtain⟨⟨cls2,dd2,data2,sl2⟩,ho2,hc2,n2,hd2⟩:=id hb;simp only at hc hd hc2 hd2;subst hc hd hc2 hd2;exact concat_meets ⟨_,ho,rfl⟩ ⟨_,ho2,rfl⟩ noFill_tuple_add seq_tuple_add oF nQ (nA _ _)
  (tuple_addW0 t b vs.toArray ws.toArray n n2 dd dd2 sl sl2 (by simp[hv])) ⟨ho,ho2,h⟩
end
section
variable{X:Cx}
end
section
variable{X:Cx}
def a0d(x:Str)(n:Int):TE:=fun _ H Q=>∀p,H p=none->Q (.ref p) (upd H p (.dK [(lZ x,.int n)]))
theorem auj{x:Str}{n:Int}{j1 j2:Nat}{p1 p2 pos:Pos}:PE X (.Dict [some (.Constant (.str x) j1 p1)] [.Constant (.int n) j2 p2] pos) (a0d x n):=by
 intro zv s σ H Q I q;have big:sysModules < s.heap.objs.size:=by
  have h:aH < s.heap.objs.size:=(I.mod.glob.keeps I.bk).lt;exact fB (by decide) h
 have hn:=I.hok.fresh (aN s.heap.objs.size);refine wpAny_Dict_walk (knd:=ah8 X.prog X.w) rfl rfl (by simp) (by show 1<=15;decide) ?_
 refine pairTrees_cons_walk (vD (wpAny_Constant_int (pairTrees_nil_walk ?_)));refine⟨[((lZ x:Key),mY n (s.toks+1))],⟨ak8 X.prog X.w x s.toks,rfl,mZ⟩,Heap.DictOf.new s.heap,fun h' dd hs =>?_⟩
 refine⟨.ref s.heap.objs.size,upd H s.heap.objs.size (.dK [(lZ x,.int n)]),?_,rfl,q _ hn⟩;refine I.laid (fun b u e=>hs.extBut b u (bC (aP e)) (aB _ e)) (aN _) ?_
 exact⟨by show 1<=bV;decide,beq_eq_false_iff_ne.mpr (fO (bC big)),_,.cons ⟨rfl,_,rfl⟩ .nil,dd⟩
end
theorem aa0:fillsNumberSlot (.type "tuple") "mul" = pure false :=
 PySem.fillsNumberSlot_seq (id := "tuple.__mul__") (r:=some (.builtin "tuple.__rmul__")) oA.lookup (by decide +kernel) vZ.lookup (by decide +kernel)
theorem aer:seqRepeat? (.type "tuple")=pure (some (.builtin "tuple.__mul__")):=by
 unfold seqRepeat?;rw[wH (T := "tuple") (name := "__mul__") (id := "tuple.__mul__") oA.lookup (by decide +kernel),wH (T := "tuple") (name := "__rmul__") (id := "tuple.__rmul__") vZ.lookup (by decide +kernel)]
 rfl
theorem ab5(a:Int)(t:Tok)(l:Addr)(items:Array Value)(n:Nat)(dd:Option Addr)(sl:Array (Option Value)) :
  Meets (iU.«int.__rmul__» ⟨[.int a t,.ref l],[]⟩) (fun _ R s=>s.heap.get? l=some { cls:=.type "tuple", dict:=dd,data:=.seq items n,slots:=sl }/\R (.ok (.ret tW)) s) :=
 .of_wp fun prog w A R s h=>by obtain⟨hp,g,d,tk,os⟩:=s;obtain⟨hl,h⟩:=h;wp_walk;exact⟨_,rfl,h⟩
theorem anw(l:Addr)(items:Array Value)(n:Nat)(dd:Option Addr)(sl:Array (Option Value))(x:Int)(u:Tok)(h0:items.isEmpty=false)(h2:2<=x)(h63:x < 2 ^ 63)(hsz:items.size*x.toNat<=bV) :
  Meets (iU.«tuple.__mul__» ⟨[.ref l,.int x u],[]⟩) (fun _ R s=>s.heap.get? l=some { cls:=.type "tuple", dict:=dd,data:=.seq items n,slots:=sl } /\
   R (.ok (.ret (cJ s.heap.objs.size))) { s with heap:=s.heap.push { cls:=iR "tuple", data:=Data.seq (lY (fun x1 x2=>x1++x2) #[] (aM x.toNat items)) },toks:=s.toks }) :=
 .of_wp fun prog w A R s h=>by
  obtain⟨hp,g,d,tk,os⟩:=s;obtain⟨hl,h⟩:=h;have c1:(decide (x < -2 ^ 63)||decide (x≥2 ^ 63))=false:=by
   rw[tZ];exact⟨decide_eq_false (by omega),decide_eq_false (by omega)⟩
  have c2:(items.isEmpty||x==1)=false:=by
   rw[h0,Bool.false_or,beq_eq_false_iff_ne];omega
  have c3:(decide (x<=0)||items.isEmpty)=false:=by
   rw[h0,yH];exact decide_eq_false (by omega)
  have e4:((items.size:Int)*x)=((items.size*x.toNat:Nat):Int):=by
   have:x=(x.toNat:Int):=by omega
   rw[dR,<-this]
  have h4:(bV:Int)<=(2 ^ 63 - 1) / 8:=by decide
  have c4:¬((items.size:Int)*x > (2 ^ 63 - 1) / 8):=by rw[e4];omega
  have c5:rK ((items.size:Int)*x)=false:=by
   unfold rK;rw[e4];exact decide_eq_false (by omega)
  wp_walk;refine wpAny_ite_false (by rw[c1];rfl) ?_
  wp_walk;refine wpAny_ite_false (by rw[c2];rfl) ?_
  try dsimp only
  refine wpAny_ite_false (by rw[c3];rfl) ?_
  try dsimp only
  refine wpAny_ite_false (decide_eq_false c4) ?_
  try dsimp only
  refine wpAny_ite_false (by rw[c5];rfl) ?_
  have hso:sizeOk (.seq (lY (fun x1 x2=>x1++x2) #[] (aM x.toNat items))):=by
   show(lY (fun x1 x2=>x1++x2) #[] (aM x.toNat items)).size<=bV
   have hn:=foldl_rep items.toList x.toNat [];rw[bM] at hn;have hn':lY (fun x1 x2=>x1++x2) #[] (aM x.toNat items)=(aM x.toNat items.toList).flatten.toArray:=hn
   rw[hn',aR,len_rep,bH,mH];exact hsz
  refine aA (m:=iD _) (bR (aD ⟨_,rfl,h⟩) hso)
theorem anx(l:Addr)(items:Array Value)(n:Nat)(dd:Option Addr)(sl:Array (Option Value))(x:Int)(u:Tok)(hx:x=1) :
  Meets (iU.«tuple.__mul__» ⟨[.ref l,.int x u],[]⟩) (fun _ R s=>s.heap.get? l=some { cls:=.type "tuple", dict:=dd,data:=.seq items n,slots:=sl }/\R (.ok (.ret (cJ l))) s) :=
 .of_wp fun prog w A R s h=>by
  obtain⟨hp,g,d,tk,os⟩:=s;obtain⟨hl,h⟩:=h;have c1:(decide (x < -2 ^ 63)||decide (x≥2 ^ 63))=false:=by
   rw[tZ];exact⟨decide_eq_false (by omega),decide_eq_false (by omega)⟩
  have c2:(items.isEmpty||x==1)=true:=by rw[hx];simp
  wp_walk;exact⟨_,rfl,h⟩
section
variable{X:Cx}
theorem ayb:OpR X (fK .Mult) (fun x y H Q=>∃a xs,x=.ref a/\y=.int 1/\H a=some (.tup xs)/\Q (.ref a) H):=by
 intro zv s σ H x y v u Q I rx ry h;obtain⟨a,xs,rfl,rfl,ha,q⟩:=h;cases rx;obtain⟨t,rfl⟩:=ry;obtain⟨its,r1,p1,_⟩:=I.tuple (SqT.of ha);obtain⟨⟨cls,dd,data,sl⟩,ho,hc,n,hd⟩:=id p1;simp only at hc hd;subst hc hd;exact wpAny_binaryOp_repeat_ref (T := "tuple") (U := "int") (by decide) ⟨_,ho,rfl⟩ (fun s'=>typeIs_int s' 1 t) aa0 rC lB aer qR.lookup
  (jX lB (typeIs_int s 1 t) qT (qF _ _) (ab5 1 t a its.toArray n dd sl)
   ⟨ho,rfl,⟨_,ho,rfl⟩,jX oA ⟨_,ho,rfl⟩ wB (vB _ _) (anx a its.toArray n dd sl 1 t rfl) ⟨ho,⟨.ref a,H,I,rfl,q⟩⟩⟩)
def a0l:R2:=fun x y H Q=>∃a xs k,x=.ref a/\y=.int k/\H a=some (.tup xs)/\xs≠[]/\2<=k/\k < 2 ^ 63/\xs.length*k.toNat<=bV/\∀p,H p=none->Q (.ref p) (upd H p (.tup (aM k.toNat xs).flatten))
theorem auq:OpR X (fK .Mult) a0l:=by
 intro zv s σ H x y v u Q I rx ry h;obtain⟨a,xs,k,rfl,rfl,ha,hx,h2,h63,hz,q⟩:=h;cases rx;obtain⟨t,rfl⟩:=ry;obtain⟨its,r1,p1,_⟩:=I.tuple (SqT.of ha);obtain⟨⟨cls,dd,data,sl⟩,ho,hc,n,hd⟩:=id p1;simp only at hc hd;subst hc hd;have hnew:lY (fun x1 x2=>x1++x2) #[] (aM k.toNat its.toArray)=(aM k.toNat its).flatten.toArray:=by
  have:=foldl_rep its k.toNat [];rw[bM] at this;exact this
 refine wpAny_binaryOp_repeat_ref (T := "tuple") (U := "int") (by decide) ⟨_,ho,rfl⟩ (fun s'=>typeIs_int s' k t) aa0 rC lB aer qR.lookup
  (jX lB (typeIs_int s k t) qT (qF _ _) (ab5 k t a its.toArray n dd sl)
   ⟨ho,rfl,⟨_,ho,rfl⟩,jX oA ⟨_,ho,rfl⟩ wB (vB _ _) (anw a its.toArray n dd sl k t ?_ h2 h63 ?_) ⟨ho,?_⟩⟩)
 ·cases its with
  | nil=>exact absurd (r1.nil_iff.mp rfl) hx
  | cons _ _=>rfl
 ·rw[aR,<-r1.length];exact hz
 ·rw[hnew];refine⟨.ref s.heap.objs.size,_,I.laid (t':=s.toks) (o:=.tup (aM k.toNat xs).flatten) (fun b ob q=>aB _ q) (aN _) ?_,rfl,q _ (I.hok.fresh (aN _))⟩
  exact⟨by rw[len_rep,mH];exact hz,_,r1.rep k.toNat,IsTp.new _ _⟩
end
section
variable{prog:bJ}{w:World}{A:bW}{E:Value->aF->Prop}{s:aF}
theorem acn{t sl:Addr}{items:Array Value}{vl vu:Value}{lo hi:Option Int}{Q:Value->aF->Prop}(ht:IsTup s.heap t items)(hs:s.heap.IsSliceOf sl vl vu .none)(pl:qH vl lo)(pu:qH vu hi)
  (h1:HT.sIx items.size 0 lo=0) (h2:HT.sIx items.size items.size hi=items.size) (h:Q (.ref t) s):wpAny (model prog w) A (pU (.ref t) (.ref sl)) Q E s:=by
 obtain⟨os,hos,hcs,hds⟩:=id hs;have hTs:s.TypeIs (.ref sl) "slice" := ⟨os,hos,hcs⟩;unfold pU
 try with_reducible refine dD ?_
 first | refine aA (aD ?_) | skip
 refine aA (wpAny_sequenceKey ht.typeIs (by decide) ?_)
 refine aA (cW (name:=iV "__getitem__") ht.typeIs dY
  (dU dY ht.typeIs entry_tuple_getitem ?_ (args_tuple_getitem _ _)))
 show wpAny _ _ (rM (.ref t) >>= _) _ _ s;refine aA (tupleItemsOf_ ht ?_);refine aA (wpAny_typeOf hTs ?_);rw[if_pos (by decide)]
 refine aA (HT.aay hs pl pu ?_);have hyes:(((HT.sIx items.size 0 lo:Nat):Int)==0&&(1:Int)==1&&(HT.sIx items.size items.size hi - HT.sIx items.size 0 lo)==items.size)=true:=by
  rw[h1,h2];simp
 show wpAny _ _ (if (((HT.sIx items.size 0 lo:Nat):Int)==0&&(1:Int)==1&&(HT.sIx items.size items.size hi - HT.sIx items.size 0 lo)==items.size)=true then _ else _) _ _ s
 rw[if_pos hyes];refine aA (aA (wpAny_typeOf ht.typeIs (aD ?_)));rw[if_pos (by decide)]
 exact aA (jV (aD ⟨_,rfl,aD h⟩))
end
section
variable{X:Cx}
end
section
variable{X:Cx}(K:Fg9)(hK:X.K=K)
include hK
variable{tg:Expr}
end
theorem rm:bN "len" = some (.builtin "len"):=by decide +kernel
theorem atc:bN "all" = some (.builtin "all"):=by decide +kernel
theorem bc:bN "isinstance" = some (.builtin "isinstance"):=by decide +kernel
theorem anh:bN "max" = some (.builtin "max"):=by decide +kernel
theorem aw2:bN "min" = some (.builtin "min"):=by decide +kernel
theorem ata:bN "sorted" = some (.builtin "sorted"):=by decide +kernel
theorem atb:bN "divmod" = some (.builtin "divmod"):=by decide +kernel
theorem a3n:bN "abs" = some (.builtin "abs"):=by decide +kernel
theorem ani:bN "int" = some (.type "int"):=by decide +kernel
theorem alu:bN "bool" = some (.type "bool"):=by decide +kernel
theorem uh:bN "tuple" = some (.type "tuple"):=by decide +kernel
theorem acz:bN "list" = some (.type "list"):=by decide +kernel
theorem av6:bN "range" = some (.type "range"):=by decide +kernel
theorem a3m:bN "set" = some (.type "set"):=by decide +kernel
theorem aka:bN "enumerate" = some (.type "enumerate"):=by decide +kernel
structure ExcK (K:Fg9) (C:Addr):Prop where
 ga:lE K (.ref C) "__getattribute__" = some (some (.builtin "BaseException.__getattribute__"))
 gh:lE K (.ref C) "__getattr__" = some none
 be:kI K C (.type "BaseException")=some true
 hd:lH K C=true
 cl:lE K (.ref C) "__class__" = some (some (.builtin "object.__class__"))
 sp:lG K (.builtin "object.__class__") "__get__" = some (some (.builtin "getset_descriptor.__get__"))
 tk:oG K (.builtin "object.__class__")=some true
 ob:kI K C (.type "object")=some true
 no:∀T∈["int","bool","tuple","list","str","dict"],fW K (.ref C) (.type T)=some false
theorem alj{K:Fg9}{C:Addr}{od:Option Obj}{name:Str}{a g:Value}(hc:(kJ K C).isSome=true)(ha:lE K (.ref C) name=some (some a))(hg:lG K a "__get__" = some (some g))(ht:oG K a=some true):mD K C od name=some (.bind g a):=by
 obtain⟨cd,hc⟩:=sE.mp hc;unfold mD;rw[hc,wJ,ha,wJ];simp[hg,ht]
section
variable{prog:bJ}{w:World}{A:bW}{E:Value->aF->Prop}{s:aF}{K:Fg9}{x D:Addr}{ox:Obj}{od:Option Obj}{name:Str}
theorem am5{fill expr:Bool}{tk:Tok}{Q:Value->aF->Prop}(X:K.In s.heap)(I:fY s.heap x ox D od)(k:ExcK K D)
  (h:wpAny (model prog w) A.in1 (iU.«object.__getattribute__» ⟨[.ref x,.str name tk],[]⟩)
   (fun fin s'=>match fin with | .done (.ret v)=>wpAny (model prog w) A (handedOut v) Q E s' | _=>False) (fun _ _=>False) s) :
  wpAny (model prog w) A (getAttrBy (.ref x) (.str name tk) fill expr) Q E s:=by
 obtain⟨hh,g,d,t,os⟩:=s;have L0:=I.type (M:=model prog w);have L1:=oV (M:=model prog w) X k.ga;have L2:=oV (M:=model prog w) X k.gh;have L3:jF (model prog w) hh (isInstance (.ref x) (.type "BaseException")) true:=L0.andThen (uG X k.be);unfold getAttrBy;refine dD (aA (L0.at (aA (L1.at ?_))));have hx2:(lV "BaseException.__getattribute__" == lV "object.__getattribute__")=false:=by decide +kernel
 have hx1:(onTheHeap (cJ D)&&lV "BaseException.__getattribute__" == lV "object.__getattribute__")=false:=by rw[hx2,xU]
 simp only[hx1,lD,if_false];unfold getAttrByItsOwn hookBefore;rw[if_pos (show onTheHeap (cJ D)=true from rfl)]
 refine aA ?_;refine L2.at (aA (wpAny_attempt (dD ?_)));have hx0:(expr&&onTheHeap (lV "BaseException.__getattribute__"))=false:=by cases expr <;> rfl
 unfold callGetattribute;rw[if_neg (by rw[hx0];exact bZ)]
 unfold boundAndCalled;refine aA (wpAny_of_eq (sU.ga.bind (.ref x)) ?_);have hk1:builtinKind "BaseException.__getattribute__" = some .slot:=by decide +kernel
 have hs1:splitId "BaseException.__getattribute__" = some ("BaseException","__getattribute__"):=by decide +kernel
 have ha1:=PySem.F.args_bexc_ga (.ref x) (.str name tk);dsimp only[dW,bM];refine lX (codeAny_call_builtin (id := "BaseException.__getattribute__") (args:=⟨[.ref x,.str name tk],[]⟩) sU.ga.plain PySem.F.entry_bexc_ga ?_);refine uV (i := "BaseException.__getattribute__") (owner := "BaseException") (n := "__getattribute__") (self:=.ref x) (rest:=[.str name tk]) (kw:=[]) hk1 hs1 L3 ha1 ?_;refine aW h (fun fin s' z =>?_) fun _ _ z=>z.elim
 rcases fin with(_ | _ | _ | _) | _ <;> first | exact z | exact z.elim
theorem avw{g a:Value}{tk:Tok}{P:Value->aF->Prop}(X:K.In s.heap)(I:fY s.heap x ox D od)(hf:mD K D od name=some (.bind g a))
  (h:wpAny (model prog w) A (call g [a,.ref x,.ref D]) P E s) :
  wpAny (model prog w) A (iU.«object.__getattribute__» ⟨[.ref x,.str name tk],[]⟩) (fun fin s'=>match fin with | .done (.ret v)=>P v s' | _=>False) E s:=by
 obtain⟨hh,gg,d,t,os⟩:=s;have L0:=I.type (M:=model prog w);have L1:=uT (M:=model prog w) X I hf;unfold iU.«object.__getattribute__»
 refine aA (aD (aA (aD (aA (L0.at (aA (L1.at ?_)))))));show wpAny _ _ (Builtin.ObjectAttr.bindTo g a (.ref x) (.ref D)) _ _ _;show wpAny _ _ (mQ [a] (call g [a,.ref x,.ref D]) >>= ret) _ _ _;exact aA (dD (aW h (fun v s' z=>aD z) fun _ _ z=>z))
theorem exc_value{v:Value}{tk:Tok}{Q:Fin->aF->Prop}(X:K.In s.heap)(I:fY s.heap x ox D od)(hf:mD K D od name=some (.value v))(h:Q (.done (.ret v)) s) :
  wpAny (model prog w) A (iU.«object.__getattribute__» ⟨[.ref x,.str name tk],[]⟩) Q E s:=by
 obtain⟨hh,gg,d,t,os⟩:=s;have L0:=I.type (M:=model prog w);have L1:=uT (M:=model prog w) X I hf;unfold iU.«object.__getattribute__»
 refine aA (aD (aA (aD (aA (L0.at (aA (L1.at ?_)))))));exact aD h
end
theorem ams{K:Fg9}{x D:Addr}(k:ExcK K D):PySem.W.KitX K (.ref x) (.ref D) (fun h=>∃ox od,fY h x ox D od) where
 ty:=fun _ _ _ ⟨_,_,I⟩=>I.type
 it:=fun _ _ X _=>by
  obtain⟨cdD,hcD,_⟩:=jT k.hd;unfold kJ at hcD;split at hcD
  ·rename_i c' d' cd' sl' ho;intro A' Q' E' s' k q;unfold isType loadHead;exact aA (wpAny_loadPart (k _ _ (X _ _ ho)) (aD q))
  ·cases hcD
 ne:=fun h tp dd its n sl X htp=>by
  obtain⟨cdD,hcD,_⟩:=jT k.hd;refine wD.mpr fun q =>?_
  have e:D=tp:=xV (beq_iff_eq.mp q);subst e;unfold kJ at hcD;split at hcD
  ·rename_i c' d' cd' sl' ho;have z:=(X _ _ ho).symm.trans htp;cases z
  ·cases hcD
 ca:=fun{prog w A E Q s} X ⟨ox,od,I⟩ q=>by
  have hf:mD K D od "__class__" = some (.bind (.builtin "getset_descriptor.__get__") (.builtin "object.__class__")):=alj (by obtain⟨cd,hc,_⟩:=jT k.hd;rw[hc];rfl) k.cl k.sp k.tk
  unfold getAttr? getAttrBy?;refine aA (wpAny_mkText (aA (wpAny_attempt (am5 (s:={ s with toks:=s.toks+1 }) X I k (avw (s:={ s with toks:=s.toks+1 }) X I hf
   (lX (PySem.W.class_get (s:={ s with toks:=s.toks+1 }) (ox:=ox) (od:=od) X I k.ob (PySem.W.handed_on rfl (aD q)))))))))
end Mn
namespace Dn
open L2 Mn
inductive D where
 | non | bl (b:Bool) | int (i:Int) | str (x:Str) | tup (l:List D) | lst (l:List D) | kst (l:List D) | dct (kvs:List (Key×D)) | exn (c:Str) (fs:List (Str×Int))
def exO(a C:Addr)(dx:Option Addr):Heap->Prop:=fun h=>∃oe vs,h.get? a=some oe/\oe.cls=.ref C/\oe.dict=dx/\oe.data=.fields vs
section
variable(K:Fg9)(F:Hp)
mutual
inductive Is:D->V->Prop
 | non:Is .non .non
 | bl (b:Bool):Is (.bl b) (.bl b)
 | int (i:Int):Is (.int i) (.int i)
 | str (x:Str):Is (.str x) (.str x)
 | tup {a:Addr} {vs:List V} {ds:List D} (e:F a=some (.tup vs)) (h:IsL ds vs):Is (.tup ds) (.ref a)
 | lst {a:Addr} {vs:List V} {ds:List D} (e:F a=some (.lst vs)) (h:IsL ds vs):Is (.lst ds) (.ref a)
 | kst {a:Addr} {vs:List V} {ds:List D} (e:SqL K F a vs) (h:IsL ds vs):Is (.kst ds) (.ref a)
 | dct {a:Addr} {kvs:List (Key×V)} {ds:List (Key×D)} (e:F a=some (.dK kvs)) (h:IsK ds kvs):Is (.dct ds) (.ref a)
 | exn {a C:Addr} {c:Str} {dx:Option Addr} {fs:List (Str×Int)} (e:F a=some (.ext (exO a C dx))) (hc:nsIn K aH c=some (some (.ref C))) (hk:ExcK K C)
   (hf:(dx=none/\fs=[])∨∃d,dx=some d/\F d=some (.xd (fs.map fun p=>(p.1,V.int p.2)))):Is (.exn c fs) (.ref a)
inductive IsL:List D->List V->Prop
 | nil:IsL [] []
 | cons {d:D} {v:V} {ds:List D} {vs:List V} (h:Is d v) (t:IsL ds vs):IsL (d::ds) (v::vs)
inductive IsK:List (Key×D)->List (Key×V)->Prop
 | nil:IsK [] []
 | cons {k:Key} {d:D} {v:V} {ds:List (Key×D)} {vs:List (Key×V)} (h:Is d v) (t:IsK ds vs):IsK ((k,d)::ds) ((k,v)::vs)
end
end
section
variable{K:Fg9}{F F':Hp}
mutual
theorem Is.mono(g:Same F F'):∀{d:D} {v:V},Is K F d v->Is K F' d v
 | _,_,.non=>.non
 | _,_,.bl b=>.bl b
 | _,_,.int i=>.int i
 | _,_,.str x=>.str x
 | _,_,.tup e h=>.tup (g _ _ e) (IsL.mono g h)
 | _,_,.lst e h=>.lst (g _ _ e) (IsL.mono g h)
 | _,_,.kst e h=>.kst (L2.Same.seq g e) (IsL.mono g h)
 | _,_,.dct e h=>.dct (g _ _ e) (IsK.mono g h)
 | _,_,.exn e hc hk hf=>.exn (g _ _ e) hc hk (hf.imp id fun⟨d,h1,h2⟩=>⟨d,h1,g _ _ h2⟩)
theorem IsL.mono(g:Same F F'):∀{ds:List D} {vs:List V},IsL K F ds vs->IsL K F' ds vs
 | _,_,.nil=>.nil
 | _,_,.cons h t=>.cons (Is.mono g h) (IsL.mono g t)
theorem IsK.mono(g:Same F F'):∀{ds:List (Key×D)} {vs:List (Key×V)},IsK K F ds vs->IsK K F' ds vs
 | _,_,.nil=>.nil
 | _,_,.cons h t=>.cons (Is.mono g h) (IsK.mono g t)
end
theorem IsL.length:∀{ds:List D} {vs:List V},IsL K F ds vs->ds.length=vs.length
 | _,_,.nil=>rfl
 | _,_,.cons _ t=>by simp[IsL.length t]
theorem IsL.append:∀{ds es:List D} {vs ws:List V},IsL K F ds vs->IsL K F es ws->IsL K F (ds++es) (vs++ws)
 | _,_,_,_,.nil,h=>h
 | _,_,_,_,.cons h t,k=>.cons h (IsL.append t k)
theorem IsL.take:∀{ds:List D} {vs:List V} (n:Nat),IsL K F ds vs->IsL K F (ds.take n) (vs.take n)
 | _,_,0,_=>by simpa using IsL.nil
 | _,_,_+1,.nil=>.nil
 | _,_,n+1,.cons h t=>.cons h (IsL.take n t)
theorem IsL.drop:∀{ds:List D} {vs:List V} (n:Nat),IsL K F ds vs->IsL K F (ds.drop n) (vs.drop n)
 | _,_,0,h=>h
 | _,_,_+1,.nil=>.nil
 | _,_,n+1,.cons _ t=>IsL.drop n t
theorem IsL.get:∀{ds:List D} {vs:List V} {i:Nat} {d:D},IsL K F ds vs->ds[i]? = some d->∃v,vs[i]? = some v/\Is K F d v
 | _,_,_,_,.nil,e=>by simp at e
 | _,_,0,_,.cons h _,e=>by simp at e;subst e;exact⟨_,rfl,h⟩
 | _,_,i+1,v,.cons _ t,e=>by
  obtain⟨d,h1,h2⟩:=IsL.get (i:=i) (d:=v) t (by simpa using e)
  exact⟨d,by simpa using h1,h2⟩
theorem IsL.set{d:D}{v:V}(h:Is K F d v):∀{ds:List D} {vs:List V} (i:Nat),IsL K F ds vs->IsL K F (ds.set i d) (vs.set i v)
 | _,_,_,.nil=>.nil
 | _,_,0,.cons _ t=>.cons h t
 | _,_,i+1,.cons q t=>.cons q (IsL.set h i t)
theorem IsL.rep{ds:List D}{vs:List V}(h:IsL K F ds vs):∀k:Nat,IsL K F (aM k ds).flatten (aM k vs).flatten
 | 0=>by simpa using IsL.nil
 | k+1=>by
  rw[gB,gB,jK,jK];exact h.append (IsL.rep h k)
theorem IsL.int_inv:∀{ns:List Int} {vs:List V},IsL K F (ns.map D.int) vs->vs=ns.map V.int
 | [],_,.nil=>rfl
 | n::r,_,.cons (.int _) t=>by rw[aV,IsL.int_inv t]
theorem IsL.bl_inv:∀{ns:List Bool} {vs:List V},IsL K F (ns.map D.bl) vs->vs=ns.map V.bl
 | [],_,.nil=>rfl
 | n::r,_,.cons (.bl _) t=>by rw[aV,IsL.bl_inv t]
theorem adm:∀ns:List Int,IsL K F (ns.map D.int) (ns.map V.int)
 | []=>.nil
 | n::r=>.cons (.int n) (adm r)
end
inductive Sl where
 | emp | val (d:D) | own (t:Option Nat) (l:List D) | box (c:Str) (fs:List (Str×(Nat ⊕ D)))
abbrev Ro:=List Sl
def Owns(ρ:Ro)(σ:L2.St)(i:Nat)(a:Addr):Prop:=(∃t l,ρ[i]? = some (.own t l))/\σ[i]? = some (some (.ref a))
def Own(ρ:Ro)(σ:L2.St)(a:Addr):Prop:=∃i,Owns ρ σ i a
def SlOk(K:Fg9)(tg:Nat->Addr)(F H:Hp):Sl->Option V->Prop
 | .emp,_=>True
 | .val d,o=>∃v,o=some v/\Is K F d v
 | .own t l,o=>∃a vs,o=some (.ref a)/\F a=none/\H a=some (.lst vs)/\IsL K F l vs/\∀k,t=some k->tg k=a
 | .box c fs,o=>∃a C dx fvs,o=some (.ref a)/\F a=none/\H a=some (.ins C dx fvs)/\nsIn K aH c=some (some (.ref C))/\(∀f,fs.lookup f=none->fvs.lookup f=none)/\(∀f k,fs.lookup f=some (.inl k)->fvs.lookup f=some (.ref (tg k)))/\∀f d,fs.lookup f=some (.inr d)->∃v,fvs.lookup f=some v/\Is K F d v
structure Good (K:Fg9) (tg:Nat->Addr) (F H:Hp) (ρ:Ro) (σ:L2.St):Prop where
 sub:Same F H
 len:ρ.length=σ.length
 sl:∀(i:Nat) (s:Sl) (o:Option V),ρ[i]? = some s->σ[i]? = some o->SlOk K tg F H s o
 inj:∀(i j:Nat) (a:Addr),Owns ρ σ i a->Owns ρ σ j a->i=j
structure Ext (O O':Addr->Prop) (F H F' H':Hp):Prop where
 sub:Same F F'
 new:∀a o,F' a=some o->F a=some o∨H a=none∨O a
 keep:∀a o,H a=some o->¬O a->H' a=some o
 own:∀a,O' a->O a∨H a=none
 there:∀a,H' a=none->H a=none
theorem Ext.refl(O:Addr->Prop)(F H:Hp):Ext O O F H F H:=⟨fun _ _ e=>e,fun _ _ e=>.inl e,fun _ _ e _=>e,fun _ h=>.inl h,fun _ h=>h⟩
theorem Ext.trans{O O1 O2:Addr->Prop}{F H F1 H1 F2 H2:Hp}(a:Ext O O1 F H F1 H1)(b:Ext O1 O2 F1 H1 F2 H2):Ext O O2 F H F2 H2 where
 sub:=a.sub.trans b.sub
 new:=fun c o e=>by
  rcases b.new c o e with q | q | q
  ·exact a.new c o q
  ·exact .inr (.inl (a.there c q))
  ·rcases a.own c q with z | z
   ·exact .inr (.inr z)
   ·exact .inr (.inl z)
 keep:=fun c o e n=>b.keep c o (a.keep c o e n) fun z=>by
  rcases a.own c z with q | q
  ·exact n q
  ·rw[e] at q;cases q
 own:=fun c z=>by
  rcases b.own c z with q | q
  ·exact a.own c q
  ·exact .inr (a.there c q)
 there:=fun c z=>a.there c (b.there c z)
section
variable{K:Fg9}{tg:Nat->Addr}{F H F' H':Hp}{ρ ρ':Ro}{σ:L2.St}
theorem Good.ownAt(G:Good K tg F H ρ σ){a:Addr}(h:Own ρ σ a):F a=none/\∃vs,H a=some (.lst vs):=by
 obtain⟨i,⟨t,l,e⟩,q⟩:=h;obtain⟨b,vs,e1,f,e2,_⟩:=G.sl i _ _ e q;cases e1;exact⟨f,vs,e2⟩
theorem Good.grow(G:Good K tg F H ρ σ)(s:Same F F')(s':Same F' H')(k:∀a,Own ρ σ a->F' a=none/\H' a=H a)(kb:∀a C dx fvs,F a=none->H a=some (.ins C dx fvs)->F' a=none/\H' a=H a):Good K tg F' H' ρ σ where
 sub:=s'
 len:=G.len
 inj:=G.inj
 sl:=fun i sl o e q=>by
  have z:=G.sl i sl o e q;cases sl with
  | emp=>trivial
  | val d =>
   obtain⟨v,e1,h⟩:=z;exact⟨v,e1,h.mono s⟩
  | box c fs =>
   obtain⟨a,C,dx,fvs,e1,e2,e3,e4,e7,e5,e6⟩:=z;obtain⟨f1,f2⟩:=kb a C dx fvs e2 e3;exact⟨a,C,dx,fvs,e1,f1,f2.trans e3,e4,e7,e5,fun f d h=>(e6 f d h).imp fun v h=>⟨h.1,h.2.mono s⟩⟩
  | own t l =>
   obtain⟨a,vs,e1,f,e2,h,ht⟩:=z;have w:=k a ⟨i,⟨t,l,e⟩,by rw[q,e1]⟩
   exact⟨a,vs,e1,w.1,by rw[w.2];exact e2,h.mono s,ht⟩
theorem Same.put{p:Addr}(s:Same F H)(h:H p=none)(o:HO):Same (upd F p o) (upd H p o):=fun b u e=>by
 by_cases hb:b=p
 ·subst hb;rw[gq] at e ⊢
  exact e
 ·rw[dj hb] at e ⊢
  exact s b u e
theorem Good.freeF(G:Good K tg F H ρ σ){p:Addr}(h:H p=none):F p=none:=by
 cases e:F p with
 | none=>rfl
 | some o=>rw[G.sub p o e] at h;cases h
theorem Good.own_ne(G:Good K tg F H ρ σ){p a:Addr}(h:H p=none)(w:Own ρ σ a):a≠p:=by
 obtain⟨_,vs,e⟩:=G.ownAt w;exact ji e h
theorem Good.new(G:Good K tg F H ρ σ){p:Addr}(h:H p=none)(o:HO):Good K tg (upd F p o) (upd H p o) ρ σ :=
 G.grow (Same.new (G.freeF h) o) (Same.put G.sub h o) (fun a w=>by
  rw[dj (G.own_ne h w),dj (G.own_ne h w)];exact⟨(G.ownAt w).1,rfl⟩) fun a C dx fvs h1 h2=>by
  rw[dj (ji h2 h),dj (ji h2 h)];exact⟨h1,rfl⟩
theorem Good.newX(G:Good K tg F H ρ σ){p:Addr}(h:H p=none)(o:HO):Ext (Own ρ σ) (Own ρ σ) F H (upd F p o) (upd H p o) where
 sub:=Same.new (G.freeF h) o
 new:=fun a u e=>by
  by_cases ha:a=p
  ·subst ha;exact .inr (.inl h)
  ·rw[dj ha] at e;exact .inl e
 keep:=fun a u e _=>by rw[dj (ji e h)];exact e
 own:=fun a w=>.inl w
 there:=fun a e=>by
  by_cases ha:a=p
  ·subst ha;exact h
  ·rw[dj ha] at e;exact e
theorem Good.fresh(G:Good K tg F H ρ σ){p:Addr}(h:H p=none)(o:HO):Good K tg F (upd H p o) ρ σ :=
 G.grow (Same.refl F) (fun b u e=>by rw[dj (ji (G.sub b u e) h)];exact G.sub b u e) (fun a w=>by
  rw[dj (G.own_ne h w)];exact⟨(G.ownAt w).1,rfl⟩) fun a C dx fvs h1 h2=>⟨h1,dj (ji h2 h)⟩
theorem Good.freshX(G:Good K tg F H ρ σ){p:Addr}(h:H p=none)(o:HO):Ext (Own ρ σ) (Own ρ σ) F H F (upd H p o) where
 sub:=Same.refl F
 new:=fun a u e=>.inl e
 keep:=fun a u e _=>by rw[dj (ji e h)];exact e
 own:=fun a w=>.inl w
 there:=fun a e=>by
  by_cases ha:a=p
  ·subst ha;exact h
  ·rw[dj ha] at e;exact e
theorem Good.freeze(G:Good K tg F H ρ σ){p:Addr}{o:HO}(h:H p=some o)(n:¬Own ρ σ p)(hf:F p=none)(hi:∀C dx fs,o≠.ins C dx fs:=by intro _ _ _ z;cases z):Good K tg (upd F p o) H ρ σ :=
 G.grow (Same.new hf o) (fun b u e=>by
  by_cases hb:b=p
  ·subst hb;rw[gq] at e;cases e;exact h
  ·rw[dj hb] at e;exact G.sub b u e) (fun a w=>by
  have:a≠p:=fun z=>n (z▸w)
  rw[dj this];exact⟨(G.ownAt w).1,rfl⟩) fun a C dx fvs h1 h2=>by
  have:a≠p:=fun z=>by
   subst z;rw[h] at h2;exact hi _ _ _ (bD h2)
  rw[dj this];exact⟨h1,rfl⟩
end
end Dn
namespace Dn
open L2 Mn
structure Exn where
 cls:Str
 fs:List (Str×Int)
inductive Out (α:Type) where
 | ok (a:α) | exc (x:Exn)
abbrev M(α:Type):=Ro->Option (Out α×Ro)
noncomputable def M.bind{α β:Type}(m:M α)(k:α->M β):M β:=fun ρ=>match m ρ with
 | some (.ok a,ρ1)=>k a ρ1
 | some (.exc x,ρ1)=>some (.exc x,ρ1)
 | none=>none
noncomputable def ret{α:Type}(a:α):M α:=fun ρ=>some (.ok a,ρ)
noncomputable def lift{α:Type}(o:Option α):M α:=fun ρ=>match o with
 | some a=>some (.ok a,ρ)
 | none=>none
section
variable{α β:Type}
theorem bf{m:M α}{k:α->M β}{ρ ρ2:Ro}{b:β}(h:m.bind k ρ=some (.ok b,ρ2)):∃a ρ1,m ρ=some (.ok a,ρ1)/\k a ρ1=some (.ok b,ρ2):=by
 unfold M.bind at h;split at h
 ·exact⟨_,_,by assumption,h⟩
 ·cases h
 ·cases h
theorem gr{o:Option α}{ρ ρ2:Ro}{b:α}(h:lift o ρ=some (.ok b,ρ2)):o=some b/\ρ2=ρ:=by
 unfold lift at h;split at h
 ·cases h;exact⟨rfl,rfl⟩
 ·cases h
theorem kj{a b:α}{ρ ρ2:Ro}(h:ret a ρ=some (.ok b,ρ2)):a=b/\ρ2=ρ:=by
 unfold ret at h;cases h;exact⟨rfl,rfl⟩
@[simp] theorem a3v(a:α)(k:α->M β):(ret a).bind k=k a:=rfl
@[simp] theorem a2d(a:α):lift (some a)=ret a:=rfl
end
inductive Rv where
 | v (d:D) | fr (l:List D)
 | tf (d:D) (l:List D)
abbrev Rel(α:Type):=α->V->(H:Hp)->(O:Addr->Prop)->(F' H':Hp)->(O':Addr->Prop)->Prop
def relD(K:Fg9):Rel D:=fun d v _ _ F' _ _=>Is K F' d v
def Bor(K:Fg9)(F H:Hp)(d:D)(v:V):Prop:=Is K F d v∨∃a vs l,d=.lst l/\v=.ref a/\H a=some (.lst vs)/\IsL K F l vs
def relB(K:Fg9):Rel D:=fun d v _ _ F' H' _=>Bor K F' H' d v
def relR(K:Fg9):Rel Rv:=fun r v H O F' H' O'=>match r with
 | .v d=>Is K F' d v
 | .fr l=>∃a vs,v=.ref a/\(H a=none∨O a)/\F' a=none/\H' a=some (.lst vs)/\IsL K F' l vs/\¬O' a
 | .tf d l=>∃t u a vs,v=.ref t/\F' t=some (.tup [u,.ref a])/\Is K F' d u/\(H a=none∨O a)/\F' a=none/\H' a=some (.lst vs)/\IsL K F' l vs/\¬O' a
def T{α:Type}(K:Fg9)(rel:Rel α)(m:M α):TE:=fun σ H Q=>∃tg F ρ a ρ',Good K tg F H ρ σ/\m ρ=some (.ok a,ρ') /\
 ∀v H' F',Good K tg F' H' ρ' σ->Ext (Own ρ σ) (Own ρ' σ) F H F' H'->rel a v H (Own ρ σ) F' H' (Own ρ' σ)->Q v H'
structure EV (K:Fg9) (X:Cx) (e:Expr) (m:M D):Prop where
 go:X.K=K->PE X e (T K (relD K) m)
instance {K:Fg9} {X:Cx} {e:Expr} {m:M D}:CoeFun (EV K X e m) fun _=>X.K=K->PE X e (T K (relD K) m):=⟨EV.go⟩
structure EB (K:Fg9) (X:Cx) (e:Expr) (m:M D):Prop where
 go:X.K=K->PE X e (T K (relB K) m)
instance {K:Fg9} {X:Cx} {e:Expr} {m:M D}:CoeFun (EB K X e m) fun _=>X.K=K->PE X e (T K (relB K) m):=⟨EB.go⟩
structure ER (K:Fg9) (X:Cx) (e:Expr) (m:M Rv):Prop where
 go:X.K=K->PE X e (T K (relR K) m)
instance {K:Fg9} {X:Cx} {e:Expr} {m:M Rv}:CoeFun (ER K X e m) fun _=>X.K=K->PE X e (T K (relR K) m):=⟨ER.go⟩
theorem PE.imp{X:Cx}{e:Expr}{t t':TE}(h:PE X e t)(w:∀σ H Q,t' σ H Q->t σ H Q):PE X e t':=fun zv s σ H Q I q=>h zv s σ H Q I (w σ H Q q)
section
variable{K:Fg9}{X:Cx}{e a b:Expr}{pos:Pos}
theorem Bor.of{F H:Hp}{d:D}{v:V}(h:Is K F d v):Bor K F H d v:=.inl h
theorem EV.toB{m:M D}(h:EV K X e m):EB K X e m:=EB.mk fun hk=>PE.imp (h hk) fun σ H Q ⟨tg,F,ρ,d,ρ',G,em,q⟩=>⟨tg,F,ρ,d,ρ',G,em,fun v H' F' G' x r=>q v H' F' G' x (.inl r)⟩
def M.v(m:M D):M Rv:=m.bind fun d=>ret (.v d)
theorem EV.toR{m:M D}(h:EV K X e m):ER K X e m.v:=ER.mk fun hk=>PE.imp (h hk) fun σ H Q hq0=>by
 obtain⟨tg,F,ρ,r,ρ',G,em,q⟩:=hq0;obtain⟨d,ρ1,e1,e2⟩:=bf em;obtain⟨rfl,rfl⟩:=kj e2;exact⟨tg,F,ρ,d,_,G,e1,fun v H' F' G' x r=>q v H' F' G' x r⟩
noncomputable def Rv.d:Rv->D
 | .v d=>d
 | .fr l=>.lst l
 | .tf d l=>.tup [d,.lst l]
def M.d(m:M Rv):M D:=m.bind fun r=>ret r.d
theorem frz{tg:Nat->Addr}{O:Addr->Prop}{F H F' H':Hp}{ρ':Ro}{σ':L2.St}{r:Rv}{v:V}(G:Good K tg F' H' ρ' σ')(x:Ext O (Own ρ' σ') F H F' H')(h:relR K r v H O F' H' (Own ρ' σ')) :
  ∃F2,Good K tg F2 H' ρ' σ'/\Ext O (Own ρ' σ') F H F2 H'/\Is K F2 r.d v:=by
 cases r with
 | v d=>exact⟨F',G,x,h⟩
 | fr l =>
  obtain⟨a,vs,rfl,ha,hf,hh,hl,hn⟩:=h;refine⟨upd F' a (.lst vs),G.freeze hh hn hf,⟨x.sub.trans (Same.new hf _),fun b o e =>?_,x.keep,x.own,x.there⟩,.lst gq (hl.mono (Same.new hf _))⟩
  by_cases hb:b=a
  ·subst hb;exact .inr ha
  ·rw[dj hb] at e;exact x.new b o e
 | tf d l =>
  obtain⟨t,u,a,vs,rfl,ht,hd,ha,hf,hh,hl,hn⟩:=h;have hta:t≠a:=fun z=>by rw[z,hf] at ht;cases ht
  refine⟨upd F' a (.lst vs),G.freeze hh hn hf,⟨x.sub.trans (Same.new hf _),fun b o e =>?_,x.keep,x.own,x.there⟩,.tup (by rw[dj hta];exact ht) (.cons (hd.mono (Same.new hf _)) (.cons (.lst gq (hl.mono (Same.new hf _))) .nil))⟩
  by_cases hb:b=a
  ·subst hb;exact .inr ha
  ·rw[dj hb] at e;exact x.new b o e
theorem ER.toD{m:M Rv}(h:ER K X e m):EV K X e m.d:=EV.mk fun hk=>PE.imp (h hk) fun σ H Q hq0=>by
 obtain⟨tg,F,ρ,d,ρ',G,em,q⟩:=hq0;obtain⟨r,ρ1,e1,e2⟩:=bf em;obtain⟨rfl,rfl⟩:=kj e2;refine⟨tg,F,ρ,r,_,G,e1,fun v H' F' G' x w =>?_⟩
 obtain⟨F2,G2,x2,i2⟩:=frz G' x w;exact q v H' F2 G2 x2 i2
noncomputable def dw(i:Nat):M D:=fun ρ=>match ρ[i]? with
 | some (.val d)=>some (.ok d,ρ)
 | some (.own _ l)=>some (.ok (.lst l),ρ)
 | _=>none
theorem Good.at{tg:Nat->Addr}{F H:Hp}{ρ:Ro}{σ:L2.St}(G:Good K tg F H ρ σ){i:Nat}{s:Sl}(e:ρ[i]? = some s):∃o,σ[i]? = some o/\SlOk K tg F H s o:=by
 have hi:i < σ.length:=by rw[<-G.len];exact(aK.mp e).1
 exact⟨σ[i],aG hi,G.sl i s _ e (aG hi)⟩
theorem ue{tg:Nat->Addr}{F H:Hp}{ρ ρ':Ro}{σ:L2.St}(G:Good K tg F H ρ σ){i:Nat}{d:D}(em:dw i ρ=some (.ok d,ρ')):ρ'=ρ/\∃v,σ[i]? = some (some v)/\Bor K F H d v:=by
 unfold dw at em;split at em
 ·rename_i d' e';cases em;obtain⟨o,ho,v,rfl,hv⟩:=G.at e';exact⟨rfl,v,ho,.inl hv⟩
 ·rename_i t l e';cases em;obtain⟨o,ho,a,vs,rfl,hf,hh,hl,_⟩:=G.at e';exact⟨rfl,_,ho,.inr ⟨a,vs,l,rfl,rfl,hh,hl⟩⟩
 ·cases em
theorem bw{i:Nat}(h:PE X e (tVar i)):EB K X e (dw i):=EB.mk fun _=>PE.imp h fun σ H Q hq0=>by
 obtain⟨tg,F,ρ,d,ρ',G,em,q⟩:=hq0;obtain⟨rfl,v,ho,hv⟩:=ue G em;exact⟨v,ho,q v H F G (Ext.refl _ _ _) hv⟩
noncomputable def af2(i:Nat):M Rv:=fun ρ=>match ρ[i]? with
 | some (.val d)=>some (.ok (.v d),ρ)
 | some (.own none l)=>some (.ok (.fr l),ρ.set i .emp)
 | _=>none
theorem Good.drop{tg:Nat->Addr}{F H:Hp}{ρ:Ro}{σ:L2.St}(G:Good K tg F H ρ σ)(i:Nat):Good K tg F H (ρ.set i .emp) σ:=by
 have sub:∀j t l,(bT ρ i Sl.emp)[j]? = some (Sl.own t l)->(ρ:List Sl)[j]? = some (Sl.own t l):=fun j t l e=>by
  rw[bO] at e;split at e
  ·split at e <;> cases e
  ·exact e
 refine⟨G.sub,by rw[eQ];exact G.len,fun j s o e q =>?_,fun j k a ⟨⟨t,l,e⟩,q⟩ ⟨⟨t',l',e'⟩,q'⟩=>G.inj j k a ⟨⟨t,l,sub _ _ _ e⟩,q⟩ ⟨⟨t',l',sub _ _ _ e'⟩,q'⟩⟩
 rw[bO] at e;split at e
 ·split at e
  ·cases e;trivial
  ·cases e
 ·exact G.sl j s o e q
theorem ada{ρ:Ro}{σ:L2.St}{i:Nat}{a:Addr}(h:Own (ρ.set i .emp) σ a):Own ρ σ a/\∀t l,ρ[i]? = some (.own t l)->∀(inj:∀i j a,Owns ρ σ i a->Owns ρ σ j a->i=j),¬Owns ρ σ i a:=by
 obtain⟨j,⟨t,l,e⟩,q⟩:=h;rw[bO] at e;split at e
 ·split at e <;> cases e
 ·rename_i hne;have w:Owns ρ σ j a:=⟨⟨t,l,e⟩,q⟩;exact⟨⟨j,w⟩,fun t' l' _ inj z=>hne (inj _ _ _ z w)⟩
theorem abk{i:Nat}(h:PE X e (tVar i)):ER K X e (af2 i):=ER.mk fun _=>PE.imp h fun σ H Q hq0=>by
 obtain⟨tg,F,ρ,d,ρ',G,em,q⟩:=hq0;unfold af2 at em;split at em
 ·rename_i d' e';cases em;obtain⟨o,ho,v,rfl,hv⟩:=G.at e';exact⟨v,ho,q v H F G (Ext.refl _ _ _) hv⟩
 ·rename_i l e';cases em;obtain⟨o,ho,a,vs,rfl,hf,hh,hl,_⟩:=G.at e';have w:Owns ρ σ i a:=⟨⟨_,_,e'⟩,ho⟩;refine⟨_,ho,q _ H F (G.drop i) ⟨Same.refl _,fun _ _ e=>.inl e,fun _ _ e _=>e,fun b z=>.inl (ada z).1,fun _ z=>z⟩ ⟨a,vs,rfl,.inr ⟨i,w⟩,hf,hh,hl,fun z=>(ada z).2 _ _ e' G.inj w⟩⟩
 ·cases em
noncomputable def mVar(i:Nat):M D:=fun ρ=>match ρ[i]? with
 | some (.val d)=>some (.ok d,ρ)
 | some (.own none l)=>some (.ok (.lst l),ρ.set i (.val (.lst l)))
 | _=>none
theorem aun{ρ:Ro}{σ:L2.St}{i:Nat}{d:D}{a:Addr}(h:Own (ρ.set i (.val d)) σ a):Own (ρ.set i .emp) σ a:=by
 obtain⟨j,⟨t,l,e⟩,q⟩:=h;refine⟨j,⟨t,l,?_⟩,q⟩;rw[bO] at e ⊢
 split at e
 ·split at e <;> cases e
 ·rename_i hne;rw[if_neg hne];exact e
theorem Good.setv{tg:Nat->Addr}{F H:Hp}{ρ:Ro}{σ:L2.St}{i:Nat}{d:D}{v:V}(G:Good K tg F H (ρ.set i .emp) σ)(e:σ[i]? = some (some v))(h:Is K F d v):Good K tg F H (ρ.set i (.val d)) σ:=by
 have sub:∀j t l,(bT ρ i (Sl.val d))[j]? = some (Sl.own t l)->(bT ρ i Sl.emp)[j]? = some (Sl.own t l):=fun j t l z=>by
  rw[bO] at z ⊢
  split at z
  ·split at z <;> cases z
  ·rename_i hne;rw[if_neg hne];exact z
 refine⟨G.sub,by have:=G.len;rw[eQ] at this ⊢;exact this,fun j s o z q =>?_,fun j k a ⟨⟨t,l,z⟩,q⟩ ⟨⟨t',l',z'⟩,q'⟩=>G.inj j k a ⟨⟨t,l,sub _ _ _ z⟩,q⟩ ⟨⟨t',l',sub _ _ _ z'⟩,q'⟩⟩
 by_cases hij:i=j
 ·subst hij;rw[bO,if_pos rfl] at z;split at z
  ·cases z;rw[e] at q;cases q;exact⟨v,rfl,h⟩
  ·cases z
 ·refine G.sl j s o ?_ q;rw[bO,if_neg hij] at z ⊢
  exact z
theorem az{i:Nat}(h:PE X e (tVar i)):EV K X e (mVar i):=EV.mk fun _=>PE.imp h fun σ H Q hq0=>by
 obtain⟨tg,F,ρ,d,ρ',G,em,q⟩:=hq0;unfold mVar at em;split at em
 ·rename_i d' e';cases em;obtain⟨o,ho,v,rfl,hv⟩:=G.at e';exact⟨v,ho,q v H F G (Ext.refl _ _ _) hv⟩
 ·rename_i l e';cases em;obtain⟨o,ho,a,vs,rfl,hf,hh,hl,_⟩:=G.at e';have w:Owns ρ σ i a:=⟨⟨_,_,e'⟩,ho⟩;have nown:¬Own (ρ.set i .emp) σ a:=fun z=>(ada z).2 _ _ e' G.inj w
  have G2:=(G.drop i).freeze hh nown hf;have i2:Is K (upd F a (.lst vs)) (.lst l) (.ref a):=.lst gq (hl.mono (Same.new hf _));refine⟨_,ho,q _ H _ (G2.setv ho i2) ⟨Same.new hf _,fun b o z =>?_,fun _ _ z _=>z,fun b z=>.inl (ada (aun z)).1,fun _ z=>z⟩ i2⟩
  by_cases hb:b=a
  ·subst hb;exact .inr (.inr ⟨i,w⟩)
  ·rw[dj hb] at z;exact .inl z
 ·cases em
theorem ev_c{d:D}{v:V}(h:PE X e (tC v))(hi:∀F,Is K F d v):EV K X e (ret d):=EV.mk fun _=>PE.imp h fun σ H Q hq0=>by
 obtain⟨tg,F,ρ,d',ρ',G,em,q⟩:=hq0;obtain⟨rfl,rfl⟩:=kj em;exact q v H F G (Ext.refl _ _ _) (hi F)
theorem ao{i:Int}{j:Nat}:EV K X (.Constant (.int i) j pos) (ret (.int i)):=ev_c a07 fun _=>.int i
theorem aa3{i:Bool}{j:Nat}:EV K X (.Constant (.bool i) j pos) (ret (.bl i)):=ev_c a6k fun _=>.bl i
theorem ae2{j:Nat}:EV K X (.Constant .none j pos) (ret .non):=ev_c a05 fun _=>.non
theorem jd{i:Str}{j:Nat}:EV K X (.Constant (.str i) j pos) (ret (.str i)):=ev_c a02 fun _=>.str i
def T2(K:Fg9)(m:M (D×D))(σ:L2.St)(H:Hp)(R:V->V->Hp->Prop):Prop:=∃tg F ρ p ρ',Good K tg F H ρ σ/\m ρ=some (.ok p,ρ') /\
 ∀x y H' F',Good K tg F' H' ρ' σ->Ext (Own ρ σ) (Own ρ' σ) F H F' H'->Bor K F' H' p.1 x->Bor K F' H' p.2 y->R x y H'
structure E2 (K:Fg9) (X:Cx) (a b:Expr) (m:M (D×D)):Prop where
 go:X.K=K->∃ta tb,PE X a ta/\PE X b tb/\∀σ H R,T2 K m σ H R->ta σ H fun x H1=>tb σ H1 fun y H2=>R x y H2
instance {K:Fg9} {X:Cx} {a b:Expr} {m:M (D×D)}:CoeFun (E2 K X a b m) fun _=>X.K=K->∃ta tb,PE X a ta/\PE X b tb/\∀σ H R,T2 K m σ H R->ta σ H fun x H1=>tb σ H1 fun y H2=>R x y H2:=⟨E2.go⟩
def gj(m1 m2:M D):M (D×D):=m1.bind fun x=>m2.bind fun y=>ret (x,y)
def bj(i:Nat)(m2:M D):M (D×D):=(dw i).bind fun _=>m2.bind fun y=>(dw i).bind fun x=>ret (x,y)
theorem e2_v{m1 m2:M D}(ha:EV K X a m1)(hb:EB K X b m2):E2 K X a b (gj m1 m2):=E2.mk fun hk=>⟨_,_,ha hk,hb hk,fun σ H R hq0=>by
 obtain⟨tg,F,ρ,p,ρ',G,em,q⟩:=hq0;obtain⟨d1,ρ1,e1,em⟩:=bf em;obtain⟨d2,ρ2,e2,em⟩:=bf em;obtain⟨rfl,rfl⟩:=kj em;exact⟨tg,F,ρ,d1,ρ1,G,e1,fun x H1 F1 G1 x1 r1=>⟨tg,F1,ρ1,d2,_,G1,e2,fun y H2 F2 G2 x2 r2=>q x y H2 F2 G2 (x1.trans x2) (.inl (r1.mono x2.sub)) r2⟩⟩⟩
theorem e2_n{i:Nat}{m2:M D}(ha:PE X a (tVar i))(hb:EB K X b m2):E2 K X a b (bj i m2):=E2.mk fun hk=>⟨_,_,ha,hb hk,fun σ H R hq0=>by
 obtain⟨tg,F,ρ,p,ρ',G,em,q⟩:=hq0;obtain⟨d0,ρ0,e0,em⟩:=bf em;obtain⟨d2,ρ2,e2,em⟩:=bf em;obtain⟨d1,ρ1,e1,em⟩:=bf em;obtain⟨rfl,rfl⟩:=kj em;obtain⟨rfl,v,hv,_⟩:=ue G e0;exact⟨v,hv,tg,F,ρ0,d2,ρ2,G,e2,fun y H2 F2 G2 x2 r2=>by
  obtain⟨rfl,v',hv',b'⟩:=ue G2 e1;rw[hv] at hv';cases hv';exact q v y H2 F2 G2 x2 b' r2⟩⟩
end
section
variable{K:Fg9}{X:Cx}{e a b c:Expr}{es:List Expr}{pos p:Pos}
section
variable{F H:Hp}{x:V}
theorem Bor.lst{l:List D}(g:Same F H)(h:Bor K F H (.lst l) x):∃a vs,x=.ref a/\H a=some (.lst vs)/\IsL K F l vs:=by
 rcases h with h | ⟨a,vs,l',e1,e2,e3,h⟩
 ·cases h with
  | lst e h=>exact⟨_,_,rfl,g _ _ e,h⟩
 ·cases e1;exact⟨a,vs,e2,e3,h⟩
theorem Bor.tup{l:List D}(h:Bor K F H (.tup l) x):∃a vs,x=.ref a/\F a=some (.tup vs)/\IsL K F l vs:=by
 rcases h with h | ⟨a,vs,l',e1,_⟩
 ·cases h with
  | tup e h=>exact⟨_,_,rfl,e,h⟩
 ·cases e1
theorem Bor.kst{l:List D}(h:Bor K F H (.kst l) x):∃a vs,x=.ref a/\SqL K F a vs/\IsL K F l vs:=by
 rcases h with h | ⟨a,vs,l',e1,_⟩
 ·cases h with
  | kst e h=>exact⟨_,_,rfl,e,h⟩
 ·cases e1
theorem Bor.int{i:Int}(h:Bor K F H (.int i) x):x=.int i:=by
 rcases h with h | ⟨a,vs,l',e1,_⟩
 ·cases h;rfl
 ·cases e1
theorem Bor.bl{i:Bool}(h:Bor K F H (.bl i) x):x=.bl i:=by
 rcases h with h | ⟨a,vs,l',e1,_⟩
 ·cases h;rfl
 ·cases e1
theorem Bor.str{i:Str}(h:Bor K F H (.str i) x):x=.str i:=by
 rcases h with h | ⟨a,vs,l',e1,_⟩
 ·cases h;rfl
 ·cases e1
theorem Bor.non(h:Bor K F H .non x):x=.non:=by
 rcases h with h | ⟨a,vs,l',e1,_⟩
 ·cases h;rfl
 ·cases e1
end
def Res(K:Fg9)(tg:Nat->Addr)(F H:Hp)(ρ:Ro)(σ:L2.St)(r:Rv)(Q:VK):Prop :=
 ∀v H' F',Good K tg F' H' ρ σ->Ext (Own ρ σ) (Own ρ σ) F H F' H'->relR K r v H (Own ρ σ) F' H' (Own ρ σ)->Q v H'
section
variable{tg:Nat->Addr}{F H:Hp}{ρ:Ro}{σ:L2.St}{Q:VK}
theorem Res.same{d:D}{v:V}(G:Good K tg F H ρ σ)(q:Res K tg F H ρ σ (.v d) Q)(h:Is K F d v):Q v H:=q v H F G (Ext.refl _ _ _) h
theorem Res.tup{l:List D}{vs:List V}(G:Good K tg F H ρ σ)(q:Res K tg F H ρ σ (.v (.tup l)) Q)(h:IsL K F l vs){p:Addr}(hp:H p=none):Q (.ref p) (upd H p (.tup vs)) :=
 q _ _ _ (G.new hp _) (G.newX hp _) (.tup gq (h.mono (Same.new (G.freeF hp) _)))
theorem Res.lst{l:List D}{vs:List V}(G:Good K tg F H ρ σ)(q:Res K tg F H ρ σ (.fr l) Q)(h:IsL K F l vs){p:Addr}(hp:H p=none):Q (.ref p) (upd H p (.lst vs)) :=
 q _ _ _ (G.fresh hp _) (G.freshX hp _) ⟨p,vs,rfl,.inl hp,G.freeF hp,gq,h,fun z=>G.own_ne hp z rfl⟩
end
def rOf(K:Fg9)(g:D->D->Option Rv):R2:=fun x y H Q=>∃tg F ρ σ d1 d2 r,Good K tg F H ρ σ/\Bor K F H d1 x/\Bor K F H d2 y/\g d1 d2=some r/\Res K tg F H ρ σ r Q
structure OpD (K:Fg9) (X:Cx) (f:Value->Value->Sem Value) (g:D->D->Option Rv):Prop where
 go:X.K=K->OpR X f (rOf K g)
instance {K:Fg9} {X:Cx} {f:Value->Value->Sem Value} {g:D->D->Option Rv}:CoeFun (OpD K X f g) fun _=>X.K=K->OpR X f (rOf K g):=⟨OpD.go⟩
def mOp(g:D->D->Option Rv)(m:M (D×D)):M Rv:=m.bind fun p=>lift (g p.1 p.2)
theorem amj{g:D->D->Option Rv}{m:M (D×D)}{ta tb:TE}(h:∀σ H R,T2 K m σ H R->ta σ H fun x H1=>tb σ H1 fun y H2=>R x y H2)(σ:L2.St)(H:Hp)(Q:VK)(t:T K (relR K) (mOp g m) σ H Q):tOp (rOf K g) ta tb σ H Q:=by
 obtain⟨tg,F,ρ,r,ρ',G,em,q⟩:=t;obtain⟨p,ρ1,e1,em⟩:=bf em;obtain⟨e2,rfl⟩:=gr em;refine h σ H _ ⟨tg,F,ρ,p,_,G,e1,fun x y H' F' G' x' bx by'=>⟨tg,F',_,σ,p.1,p.2,r,G',bx,by',e2,fun v H2 F2 G2 x2 rr=>q v H2 F2 G2 (x'.trans x2) ?_⟩⟩
 cases r with
 | v d=>exact rr
 | fr l =>
  obtain⟨a,vs,ev,ha,w⟩:=rr;refine⟨a,vs,ev,?_,w⟩;rcases ha with ha | ha
  ·exact .inl (x'.there a ha)
  ·exact(x'.own a ha).symm
 | tf d l =>
  obtain⟨t,u,a,vs,ev,ht,hd,ha,w⟩:=rr;refine⟨t,u,a,vs,ev,ht,hd,?_,w⟩;rcases ha with ha | ha
  ·exact .inl (x'.there a ha)
  ·exact(x'.own a ha).symm
theorem dh{op:Operator}{g:D->D->Option Rv}{m:M (D×D)}(ho:OpD K X (fK op) g)(h:E2 K X a b m):ER K X (.BinOp a op b pos) (mOp g m):=ER.mk fun hk=>by
 obtain⟨ta,tb,ha,hb,h⟩:=h hk;exact PE.imp (a6h (ho hk) ha hb) (amj h)
theorem age{op:CmpOp}{g:D->D->Option Rv}{m:M (D×D)}(ho:OpD K X (eY op) g)(h:E2 K X a b m)(hm:iI op b=false):ER K X (.Compare a [op] [b] pos) (mOp g m):=ER.mk fun hk=>by
 obtain⟨ta,tb,ha,hb,h⟩:=h hk;exact PE.imp (ax5 (ho hk) ha hb hm) (amj h)
def capS:Nat:=16777216
theorem agp{n:Nat}(h:n<=capS):n<=bV:=by rw[gM];exact h
noncomputable def gAdd:D->D->Option Rv
 | .int i,.int j=>some (.v (.int (i+j)))
 | .tup l,.tup k=>if l.length+k.length<=capS then some (.v (.tup (l++k))) else none
 | .lst l,.lst k=>if l.length+k.length<=capS then some (.fr (l++k)) else none
 | .str i,.str j=>if i.length+j.length<=capS then some (.v (.str (i++j))) else none
 | _,_=>none
theorem je:OpD K X (fK .Add) gAdd:=OpD.mk fun hk=>by
 intro zv s σ0 H x y v u Q I rx ry ⟨tg,F,ρ,σ,d1,d2,r,G,b1,b2,eg,q⟩;subst hk;unfold gAdd at eg;split at eg
 ·cases eg;obtain rfl:=b1.int;obtain rfl:=b2.int;exact a1j zv s σ0 H _ _ v u Q I rx ry ⟨_,_,rfl,rfl,Res.same G q (.int _)⟩
 ·split at eg
  ·rename_i hz;cases eg;obtain⟨a1,vs1,rfl,s1,i1⟩:=b1.tup;obtain⟨a2,vs2,rfl,s2,i2⟩:=b2.tup;have l1:=i1.length;have l2:=i2.length
   by_cases hx:vs1=[]
   ·subst hx;cases i1;cases rx;cases ry;obtain⟨its,r1,p1,_⟩:=I.tuple (SqT.of (G.sub _ _ s1));obtain⟨its2,r2,p2,_⟩:=I.tuple (SqT.of (G.sub _ _ s2));exact av2 p1 p2 (r1.nil_iff.mpr rfl) ⟨.ref a2,H,I,rfl,Res.same G q (.tup s2 i2)⟩
   ·refine ayc zv s σ0 H _ _ v u Q I rx ry ⟨a1,a2,vs1,vs2,rfl,rfl,SqT.of (G.sub _ _ s1),SqT.of (G.sub _ _ s2),hx,by rw[<-l1,<-l2];exact agp hz,fun e =>?_,fun _ p hp=>Res.tup G q (i1.append i2) hp⟩
    subst e;cases i2;exact Res.same G q (.tup s1 (by simpa using i1))
  ·cases eg
 ·split at eg
  ·rename_i hz;cases eg;obtain⟨a1,vs1,rfl,s1,i1⟩:=b1.lst G.sub;obtain⟨a2,vs2,rfl,s2,i2⟩:=b2.lst G.sub;have l1:=i1.length;have l2:=i2.length;exact a1i zv s σ0 H _ _ v u Q I rx ry ⟨a1,a2,vs1,vs2,rfl,rfl,s1,s2,by rw[<-l1,<-l2];exact agp hz,fun p hp=>Res.lst G q (i1.append i2) hp⟩
  ·cases eg
 ·split at eg
  ·rename_i hz;cases eg;obtain rfl:=b1.str;obtain rfl:=b2.str;exact aon zv s σ0 H _ _ v u Q I rx ry ⟨_,_,rfl,rfl,agp hz,Res.same G q (.str _)⟩
  ·cases eg
 ·cases eg
noncomputable def gInt(f:Int->Int->Option Int):D->D->Option Rv
 | .int i,.int j=>(f i j).map fun k=>.v (.int k)
 | _,_=>none
theorem aku{op:Operator}{f:Int->Int->Option Int}{C:Int->Int->Prop}{g:Int->Int->Int}(h:OpR X (fK op) (rI C fun i j=>.int (g i j)))(hf:∀i j k,f i j=some k->C i j/\k=g i j):OpD K X (fK op) (gInt f):=OpD.mk fun hk=>by
 intro zv s σ0 H x y v u Q I rx ry ⟨tg,F,ρ,σ,d1,d2,r,G,b1,b2,eg,q⟩;unfold gInt at eg;split at eg
 ·rename_i i j;obtain rfl:=b1.int;obtain rfl:=b2.int;cases z:f i j with
  | none=>rw[z] at eg;cases eg
  | some k =>
   rw[z] at eg;cases eg;obtain⟨h1,rfl⟩:=hf i j k z;exact h zv s σ0 H _ _ v u Q I rx ry ⟨_,_,rfl,rfl,h1,Res.same G q (.int _)⟩
 ·cases eg
def fSub(i j:Int):Option Int:=some (i - j)
noncomputable def fMul(i j:Int):Option Int:=if (-18446744073709551616 < i/\i < 18446744073709551616)∨(-18446744073709551616 < j/\j < 18446744073709551616) then some (i*j) else none
theorem a1p{i j:Int}(h0:0 < j)(h:j < 1000000000000000000000000000000000000000000000000000000000000):qW i j=false:=by
 have e2:(2:Nat) ^ 200=1606938044258990275541962092341162602522202993782792835301376:=by decide +kernel
 have hl:j.natAbs.log2 < 200:=(Nat.log2_lt (by omega)).2 (by rw[e2];omega)
 have hd:¬(j.natAbs.log2 / 30+1 > 300):=by omega
 have hj:(j==0)=false:=by
  rw[beq_eq_false_iff_ne];omega
 unfold qW;simp only[hj,lD,if_false,hd,decide_false,rY]
theorem aus:OpR X (fK .FloorDiv) (rI (fun _ j=>0 < j/\j < 1000000000000000000000000000000000000000000000000000000000000) fun i j=>.int (i / j)):=opI fun i j _ _ _ _ _ hc q=>by
 have h1:(0:Int) < j:=hc.1;exact floordiv_int (by omega) (by rw[rH i (by omega)];exact q) (.inl (a1p hc.1 hc.2))
noncomputable def fDiv(i j:Int):Option Int:=if 0 < j/\j < 1000000000000000000000000000000000000000000000000000000000000 then some (i / j) else none
noncomputable def fMod(i j:Int):Option Int:=if 0 < j then some (i % j) else none
noncomputable def fPow(i j:Int):Option Int:=if 0<=j/\j<=1000000/\i.natAbs < 18446744073709551616 then some (i ^ j.toNat) else none
theorem wj:OpD K X (fK .Sub) (gInt fSub):=OpD.mk fun hk=>by
 intro zv s σ0 H x y v u Q I rx ry ⟨tg,F,ρ,σ,d1,d2,r,G,b1,b2,eg,q⟩;unfold gInt at eg;split at eg
 ·obtain rfl:=b1.int;obtain rfl:=b2.int;cases eg;exact a1d zv s σ0 H _ _ v u Q I rx ry ⟨_,_,rfl,rfl,Res.same G q (.int _)⟩
 ·cases eg
end
mutual
def toPy:D->PyData
 | .non=>.none
 | .bl b=>.bool b
 | .int i=>.int i
 | .str x=>.str x
 | .tup l=>.tuple (aa5 l)
 | .lst l=>.list (aa5 l)
 | .kst l=>.list (aa5 l)
 | .dct _=>.dict []
 | .exn _ _=>.dict []
def aa5:List D->List PyData
 | []=>[]
 | d::r=>toPy d::aa5 r
end
noncomputable def okD:Nat->D->Bool
 | _,.non=>true
 | _,.bl _=>true
 | _,.int _=>true
 | _,.str x=>PyData.strOk x
 | n+1,.tup l=>l.all (okD n)
 | n+1,.lst l=>l.all (okD n)
 | n+1,.kst l=>l.all (okD n)
 | _,_=>false
theorem ah4{n:Nat}(ih:∀d,okD n d=true->(toPy d).canLay0=true/\(toPy d).depth<=n):∀l:List D,l.all (okD n)=true->vM (aa5 l)=true/\wR (aa5 l)<=n
 | [],_=>⟨rfl,gA _⟩
 | d::r,h=>by
  rw[lA,aZ] at h;obtain⟨h1,h2⟩:=ih d h.1;obtain⟨h3,h4⟩:=ah4 ih r h.2;refine⟨?_,?_⟩
  ·show(PyData.canLay0 (toPy d)&&vM (aa5 r))=true;rw[h1,h3];rfl
  ·show max (PyData.depth (toPy d)) (wR (aa5 r))<=n;omega
theorem aaz:∀(n:Nat) (d:D),okD n d=true->(toPy d).canLay0=true/\(toPy d).depth<=n
 | n,.non,_=>⟨rfl,gA _⟩
 | n,.bl _,_=>⟨rfl,gA _⟩
 | n,.int _,_=>⟨rfl,gA _⟩
 | n,.str x,h=>by
  refine⟨?_,gA _⟩;cases n <;> exact h
 | n+1,.tup l,h=>by
  obtain⟨h1,h2⟩:=ah4 (aaz n) l h;exact⟨h1,qP h2⟩
 | n+1,.lst l,h=>by
  obtain⟨h1,h2⟩:=ah4 (aaz n) l h;exact⟨h1,qP h2⟩
 | n+1,.kst l,h=>by
  obtain⟨h1,h2⟩:=ah4 (aaz n) l h;exact⟨h1,qP h2⟩
 | 0,.tup l,h=>by cases h
 | 0,.lst l,h=>by cases h
 | 0,.kst l,h=>by cases h
 | 0,.dct l,h=>by cases h
 | n+1,.dct l,h=>by cases h
 | 0,.exn _ _,h=>by cases h
 | n+1,.exn _ _,h=>by cases h
def eqD(a b:D):Bool:=qC (toPy a) (toPy b)
noncomputable def eqDs:List D->List D->Bool
 | [],[]=>true
 | a::r,b::t=>eqD a b&&eqDs r t
 | _,_=>false
theorem agf:∀a b:List D,pI (aa5 a) (aa5 b)=eqDs a b
 | [],[]=>rfl
 | a::r,b::t=>by
  show(qC (toPy a) (toPy b)&&pI (aa5 r) (aa5 t))=_;rw[agf r t];rfl
 | [],_::_=>rfl
 | _::_,[]=>rfl
section
variable{K:Fg9}{X:Cx}
section
variable{zv:List (Addr×Obj)}{σ:L2.St}{F H:Hp}{s:aF}
mutual
theorem zg(I:Inv X zv σ H s)(g:Same F H):∀{n:Nat} {d:D} {v:V} {u:Value},Is X.K F d v->okD n d=true->RelV v u->∃as,Reads s.heap u (toPy d) as
 | _,_,_,_,.non,_,r=>by cases r;exact⟨_,.none⟩
 | _,_,_,_,.bl b,_,r=>by cases r;exact⟨_,.bool b⟩
 | _,_,_,_,.int i,_,r=>by obtain⟨t,rfl⟩:=r;exact⟨_,.int i t⟩
 | _,_,_,_,.str i,_,r=>by obtain⟨t,rfl⟩:=r;exact⟨_,.str i t⟩
 | 0,_,_,_,.tup e h,k,r=>by cases k
 | n+1,_,_,_,.tup e h,k,r=>by
  cases r;obtain⟨its,rv,p1,_⟩:=I.tuple (SqT.of (g _ _ e));obtain⟨o,ho,hc,m,hd⟩:=p1;obtain⟨as,ra⟩:=aa8 I g h k rv;exact⟨_,.tuple ho hc hd (by simpa using ra)⟩
 | 0,_,_,_,.lst e h,k,r=>by cases k
 | n+1,_,_,_,.lst e h,k,r=>by
  cases r;obtain⟨its,rv,p1,_⟩:=I.list (SqL.of (g _ _ e));obtain⟨o,ho,hc,m,hd⟩:=p1.isList;obtain⟨as,ra⟩:=aa8 I g h k rv;exact⟨_,.list ho hc hd (by simpa using ra)⟩
 | 0,_,_,_,.kst e h,k,r=>by cases k
 | n+1,_,_,_,.kst e h,k,r=>by
  cases r;obtain⟨its,rv,p1,_⟩:=I.list (L2.Same.seq g e);obtain⟨o,ho,hc,m,hd⟩:=p1.isList;obtain⟨as,ra⟩:=aa8 I g h k rv;exact⟨_,.list ho hc hd (by simpa using ra)⟩
 | 0,_,_,_,.dct e h,k,r=>by cases k
 | n+1,_,_,_,.dct e h,k,r=>by cases k
 | 0,_,_,_,.exn ..,k,r=>by cases k
 | n+1,_,_,_,.exn ..,k,r=>by cases k
theorem aa8(I:Inv X zv σ H s)(g:Same F H):∀{n:Nat} {ds:List D} {vs:List V} {us:List Value},IsL X.K F ds vs->ds.all (okD n)=true->Vals vs us->∃as,ReadsAll s.heap us (aa5 ds) as
 | _,_,_,_,.nil,_,r=>by cases r;exact⟨_,.nil⟩
 | n,_,_,_,.cons h t,k,r=>by
  rw[lA,aZ] at k;cases r with
  | cons r1 r2 =>
   obtain⟨as,ra⟩:=zg I g h k.1 r1;obtain⟨bs,rb⟩:=aa8 I g t k.2 r2;exact⟨_,.cons ra rb⟩
end
theorem aac(I:Inv X zv σ H s)(g:Same F H){n:Nat}{d:D}{v:V}{u:Value}(h:Bor X.K F H d v)(k:okD n d=true)(r:RelV v u):∃as,Reads s.heap u (toPy d) as:=by
 rcases h with h | ⟨a,vs,l,rfl,rfl,e,h⟩
 ·exact zg I g h k r
 ·cases r;cases n with
  | zero=>cases k
  | succ n =>
   obtain⟨its,rv,p1,_⟩:=I.list (SqL.of e);obtain⟨o,ho,hc,m,hd⟩:=p1.isList;obtain⟨as,ra⟩:=aa8 I g h k rv;exact⟨_,.list ho hc hd (by simpa using ra)⟩
end
noncomputable def gEq(neg:Bool)(a b:D):Option Rv:=if okD 30 a&&okD 30 b then some (.v (.bl (if neg then !eqD a b else eqD a b))) else none
theorem afx(hu:X.A.units+64 < cLine):OpD K X (eY .Eq) (gEq false):=OpD.mk fun hk=>by
 intro zv s σ0 H x y v u Q I rx ry ⟨tg,F,ρ,σ,d1,d2,r,G,b1,b2,eg,q⟩;subst hk;unfold gEq at eg;split at eg
 ·rename_i ho;rw[aZ] at ho;cases eg;obtain⟨as,ra⟩:=aac I G.sub b1 ho.1 rx;obtain⟨bs,rb⟩:=aac I G.sub b2 ho.2 ry;obtain⟨c1,p1⟩:=aaz _ _ ho.1;obtain⟨c2,p2⟩:=aaz _ _ ho.2;exact PySem.SeqAt.compareEq_reads ra rb c1 c2 (by omega) ⟨.bl _,H,I,rfl,Res.same G q (.bl _)⟩
 ·cases eg
theorem wy(hu:X.A.units+64 < cLine):OpD K X (eY .NotEq) (gEq true):=OpD.mk fun hk=>by
 intro zv s σ0 H x y v u Q I rx ry ⟨tg,F,ρ,σ,d1,d2,r,G,b1,b2,eg,q⟩;subst hk;unfold gEq at eg;split at eg
 ·rename_i ho;rw[aZ] at ho;cases eg;obtain⟨as,ra⟩:=aac I G.sub b1 ho.1 rx;obtain⟨bs,rb⟩:=aac I G.sub b2 ho.2 ry;obtain⟨c1,p1⟩:=aaz _ _ ho.1;obtain⟨c2,p2⟩:=aaz _ _ ho.2;exact PySem.SeqAt.compareNe_reads ra rb c1 c2 (by omega) ⟨.bl _,H,I,rfl,Res.same G q (.bl _)⟩
 ·cases eg
noncomputable def itemsD:D->Option (List D)
 | .tup l=>some l
 | .lst l=>some l
 | .kst l=>some l
 | _=>none
noncomputable def gIn(neg:Bool)(a b:D):Option Rv:=match itemsD b with
 | some l=>if okD 30 a&&l.all (okD 30) then some (.v (.bl (if neg then !l.any (fun y=>eqD y a) else l.any (fun y=>eqD y a)))) else none
 | none=>none
open Classical in
noncomputable def z6(h:Heap)(dx:PyData)(u:Value):Bool:=decide (∃d as,Reads h u d as/\d.canLay0=true/\qC d dx=true)
open Classical in
theorem afd{h:Heap}{dx d:PyData}{u:Value}{as:List Addr}(r:Reads h u d as)(c:d.canLay0=true):z6 h dx u=qC d dx:=by
 unfold z6;cases e:qC d dx with
 | true=>exact decide_eq_true ⟨d,as,r,c,e⟩
 | false =>
  refine decide_eq_false ?_
  rintro⟨d',as',r',c',e'⟩
  rw[<-PySem.SeqAt.Reads.unique d d' u as as' c r r'] at e';rw[e] at e';cases e'
theorem v8{zv:List (Addr×Obj)}{σ:L2.St}{F H:Hp}{s:aF}(I:Inv X zv σ H s)(g:Same F H){a:D}{n:Nat}:∀{ds:List D} {vs:List V} {us:List Value},IsL X.K F ds vs->ds.all (okD n)=true->Vals vs us ->
  us.any (z6 s.heap (toPy a))=ds.any (fun y=>eqD y a)/\∀u∈us,∃d as,Reads s.heap u d as/\d.canLay0=true/\d.depth<=n
 | _,_,_,.nil,_,r=>by cases r;exact⟨rfl,fun u hu=>by cases hu⟩
 | _,_,_,.cons h t,k,r=>by
  rw[lA,aZ] at k;cases r with
  | cons r1 r2 =>
   obtain⟨as,ra⟩:=zg I g h k.1 r1;obtain⟨c,p⟩:=aaz _ _ k.1;obtain⟨e,z⟩:=v8 I g (a:=a) t k.2 r2;refine⟨?_,fun u hu =>?_⟩
   ·rw[yD,yD,e,afd ra c];rfl
   ·rcases bF.mp hu with rfl | hu
    ·exact⟨_,as,ra,c,p⟩
    ·exact z u hu
theorem vd{s:aF}{A:bW}(hu:A.units+64 < cLine){us:List Value}{a:D}{v:Value}{as:List Addr}(ra:Reads s.heap v (toPy a) as)(ka:okD 30 a=true)(z:∀u∈us,∃d as,Reads s.heap u d as/\d.canLay0=true/\d.depth<=30) :
  ∀u∈us,SeqAt.EqAt A.in1 s u v (z6 s.heap (toPy a) u):=fun u hm=>by
 obtain⟨d,bs,rb,c,p⟩:=z u hm;obtain⟨c2,p2⟩:=aaz _ _ ka;rw[afd rb c];refine PySem.SeqAt.eqAt_reads d (toPy a) A.in1 s u v bs as rb ra c c2 ?_;show A.units+1+_ < _;omega
theorem ajs{a b:D}{neg:Bool}{r:Rv}(h:gIn neg a b=some r):∃l,itemsD b=some l/\okD 30 a=true/\l.all (okD 30)=true/\r=.v (.bl (if neg then !l.any (fun y=>eqD y a) else l.any (fun y=>eqD y a))):=by
 unfold gIn at h;split at h
 ·rename_i l e;split at h
  ·rename_i ho;rw[aZ] at ho;cases h;exact⟨l,e,ho.1,ho.2,rfl⟩
  ·cases h
 ·cases h
theorem afn{F H:Hp}{d:D}{l:List D}{x:V}(g:Same F H)(e:itemsD d=some l)(h:Bor K F H d x):∃a vs,x=.ref a/\IsL K F l vs/\(SqL K H a vs∨SqT K H a vs):=by
 cases d with
 | tup k =>
  cases e;obtain⟨a,vs,rfl,e,h⟩:=h.tup;exact⟨a,vs,rfl,h,.inr (SqT.of (g _ _ e))⟩
 | lst k =>
  cases e;obtain⟨a,vs,rfl,e,h⟩:=h.lst g;exact⟨a,vs,rfl,h,.inl (SqL.of e)⟩
 | kst k =>
  cases e;obtain⟨a,vs,rfl,e,h⟩:=h.kst;exact⟨a,vs,rfl,h,.inl (L2.Same.seq g e)⟩
 | _=>cases e
theorem a1c(hu:X.A.units+64 < cLine):OpD K X (eY .In) (gIn false):=OpD.mk fun hk=>by
 intro zv s σ0 H x y v u Q I rx ry ⟨tg,F,ρ,σ,d1,d2,r,G,b1,b2,eg,q⟩;subst hk;obtain⟨l,e,k1,k2,rfl⟩:=ajs eg;obtain⟨as,ra⟩:=aac I G.sub b1 k1 rx;obtain⟨p,vs,rfl,hl,hs⟩:=afn G.sub e b2;cases ry;rcases hs with hs | hs
 ·obtain⟨its,rv,pl,_⟩:=I.list hs;obtain⟨ea,z⟩:=v8 I G.sub (a:=d1) hl k2 rv;refine SeqAt.in_listAt (z6 s.heap (toPy d1)) pl.isList (fun w hw=>vd hu ra k1 z w (by simpa using hw)) ⟨.bl _,H,I,rfl,?_⟩
  rw[show its.toArray.any (z6 s.heap (toPy d1))=its.any (z6 s.heap (toPy d1)) by simp,ea]
  exact Res.same G q (.bl _)
 ·obtain⟨its,rv,pl,_⟩:=I.tuple hs;obtain⟨ea,z⟩:=v8 I G.sub (a:=d1) hl k2 rv;refine SeqAt.in_tupleAt (z6 s.heap (toPy d1)) pl (fun w hw=>vd hu ra k1 z w (by simpa using hw)) ⟨.bl _,H,I,rfl,?_⟩
  rw[show its.toArray.any (z6 s.heap (toPy d1))=its.any (z6 s.heap (toPy d1)) by simp,ea]
  exact Res.same G q (.bl _)
theorem aqv(hu:X.A.units+64 < cLine):OpD K X (eY .NotIn) (gIn true):=OpD.mk fun hk=>by
 intro zv s σ0 H x y v u Q I rx ry ⟨tg,F,ρ,σ,d1,d2,r,G,b1,b2,eg,q⟩;subst hk;obtain⟨l,e,k1,k2,rfl⟩:=ajs eg;obtain⟨as,ra⟩:=aac I G.sub b1 k1 rx;obtain⟨p,vs,rfl,hl,hs⟩:=afn G.sub e b2;cases ry;rcases hs with hs | hs
 ·obtain⟨its,rv,pl,_⟩:=I.list hs;obtain⟨ea,z⟩:=v8 I G.sub (a:=d1) hl k2 rv;refine SeqAt.notIn_listAt (z6 s.heap (toPy d1)) pl.isList (fun w hw=>vd hu ra k1 z w (by simpa using hw)) ⟨.bl _,H,I,rfl,?_⟩
  rw[show its.toArray.any (z6 s.heap (toPy d1))=its.any (z6 s.heap (toPy d1)) by simp,ea]
  exact Res.same G q (.bl _)
 ·obtain⟨its,rv,pl,_⟩:=I.tuple hs;obtain⟨ea,z⟩:=v8 I G.sub (a:=d1) hl k2 rv;refine SeqAt.notIn_tupleAt (z6 s.heap (toPy d1)) pl (fun w hw=>vd hu ra k1 z w (by simpa using hw)) ⟨.bl _,H,I,rfl,?_⟩
  rw[show its.toArray.any (z6 s.heap (toPy d1))=its.any (z6 s.heap (toPy d1)) by simp,ea]
  exact Res.same G q (.bl _)
end
end Dn
namespace Dn
open L2 Mn
section
variable{K:Fg9}{X:Cx}{e a b c:Expr}{es:List Expr}{pos p:Pos}
theorem ad6:OpD K X (fK .FloorDiv) (gInt fDiv):=aku aus fun i j k h=>by
 unfold fDiv at h;split at h
 ·cases h;exact⟨by assumption,rfl⟩
 ·cases h
theorem acg:OpD K X (fK .Mod) (gInt fMod):=aku a1h fun i j k h=>by
 unfold fMod at h;split at h
 ·cases h;exact⟨by assumption,rfl⟩
 ·cases h
theorem aqu:OpD K X (fK .Pow) (gInt fPow):=aku a1f fun i j k h=>by
 unfold fPow at h;split at h
 ·rename_i hc;cases h;exact⟨⟨hc.1,hc.2.1,hc.2.2⟩,rfl⟩
 ·cases h
noncomputable def gMul:D->D->Option Rv
 | .int i,.int j=>(fMul i j).map fun k=>.v (.int k)
 | .tup l,.int k=>if k=1 then some (.v (.tup l)) else if l≠[]/\2<=k/\k < 9223372036854775808/\l.length*k.toNat<=capS then some (.v (.tup (aM k.toNat l).flatten)) else none
 | .lst l,.int k=>if k.natAbs < 9223372036854775808/\l.length*k.toNat<=capS then some (.fr (aM k.toNat l).flatten) else none
 | _,_=>none
theorem qb:OpD K X (fK .Mult) gMul:=OpD.mk fun hk=>by
 intro zv s σ0 H x y v u Q I rx ry ⟨tg,F,ρ,σ,d1,d2,r,G,b1,b2,eg,q⟩;subst hk;unfold gMul at eg;split at eg
 ·rename_i i j;obtain rfl:=b1.int;obtain rfl:=b2.int;unfold fMul at eg;split at eg
  ·rename_i hc;cases eg;exact a1g zv s σ0 H _ _ v u Q I rx ry ⟨_,_,rfl,rfl,hc,Res.same G q (.int _)⟩
  ·cases eg
 ·rename_i l k;split at eg
  ·rename_i hk1;subst hk1;cases eg;obtain⟨a1,vs1,rfl,s1,i1⟩:=b1.tup;obtain rfl:=b2.int;exact ayb zv s σ0 H _ _ v u Q I rx ry ⟨a1,vs1,rfl,rfl,G.sub _ _ s1,Res.same G q (.tup s1 i1)⟩
  split at eg
  ·rename_i hc;obtain⟨h0,h2,h3,hz⟩:=hc;cases eg;obtain⟨a1,vs1,rfl,s1,i1⟩:=b1.tup;obtain rfl:=b2.int;have l1:=i1.length;refine auq zv s σ0 H _ _ v u Q I rx ry ⟨a1,vs1,k,rfl,rfl,G.sub _ _ s1,?_,h2,h3,by rw[<-l1];exact agp hz,fun p hp=>Res.tup G q (i1.rep _) hp⟩
   intro z;subst z;cases i1;exact h0 rfl
  ·cases eg
 ·rename_i l k;split at eg
  ·rename_i hc;obtain⟨hab,hz⟩:=hc;have h0 : -9223372036854775808<=k:=by omega
   have h2:k < 9223372036854775808:=by omega
   cases eg;obtain⟨a1,vs1,rfl,s1,i1⟩:=b1.lst G.sub;obtain rfl:=b2.int;have l1:=i1.length;exact a1e zv s σ0 H _ _ v u Q I rx ry ⟨a1,k,vs1,rfl,rfl,s1,h0,h2,by rw[<-l1];exact agp hz,fun p hp=>Res.lst G q (i1.rep _) hp⟩
  ·cases eg
 ·cases eg
noncomputable def gCmp(f:Int->Int->Bool):D->D->Option Rv
 | .int i,.int j=>some (.v (.bl (f i j)))
 | _,_=>none
theorem akv{op:CmpOp}{f:Int->Int->Bool}(h:OpR X (eY op) (rI0 fun i j=>.bl (f i j))):OpD K X (eY op) (gCmp f):=OpD.mk fun hk=>by
 intro zv s σ0 H x y v u Q I rx ry ⟨tg,F,ρ,σ,d1,d2,r,G,b1,b2,eg,q⟩;unfold gCmp at eg;split at eg
 ·cases eg;obtain rfl:=b1.int;obtain rfl:=b2.int;exact h zv s σ0 H _ _ v u Q I rx ry ⟨_,_,rfl,rfl,Res.same G q (.bl _)⟩
 ·cases eg
theorem ai4:OpD K X (eY .Lt) (gCmp fun i j=>decide (i < j)):=akv a6m
theorem awh:OpD K X (eY .Gt) (gCmp fun i j=>decide (j < i)):=akv a6n
theorem ami:OpD K X (eY .GtE) (gCmp fun i j=>decide (j<=i)):=akv a6o
noncomputable def gNeg:D->Option D
 | .int i=>some (.int (-i))
 | _=>none
def mUn(g:D->Option D)(m:M D):M D:=m.bind fun d=>lift (g d)
theorem yr{m:M D}(h:EV K X a m):EV K X (.UnaryOp .USub a pos) (mUn gNeg m):=EV.mk fun hk=>PE.imp (a6g az8 (h hk)) fun σ H Q hq0=>by
 obtain⟨tg,F,ρ,d,ρ',G,em,q⟩:=hq0;obtain⟨d1,ρ1,e1,em⟩:=bf em;obtain⟨e2,rfl⟩:=gr em;refine⟨tg,F,ρ,d1,_,G,e1,fun v H' F' G' x r =>?_⟩
 cases d1 with
 | int i =>
  cases e2;cases r;exact⟨i,rfl,q _ H' F' G' x (.int _)⟩
 | _=>cases e2
def asB:D->Option Bool
 | .bl b=>some b
 | _=>none
noncomputable def gNot(d:D):Option D:=(asB d).map fun k=>.bl (!k)
theorem ano{d:D}{k:Bool}(h:asB d=some k):d=.bl k:=by
 cases d with
 | bl b=>cases h;rfl
 | _=>cases h
theorem asb{m:M D}(h:EV K X a m):EV K X (.UnaryOp .Not a pos) (mUn gNot m):=EV.mk fun hk=>PE.imp (a04 (h hk)) fun σ H Q hq0=>by
 obtain⟨tg,F,ρ,d,ρ',G,em,q⟩:=hq0;obtain⟨d1,ρ1,e1,em⟩:=bf em;obtain⟨e2,rfl⟩:=gr em;refine⟨tg,F,ρ,d1,_,G,e1,fun v H' F' G' x r =>?_⟩
 cases d1 with
 | bl i =>
  cases e2;cases r;exact⟨i,rfl,q _ H' F' G' x (.bl _)⟩
 | _=>cases e2
def mAnd(m1 m2:M D):M D:=m1.bind fun d=>(lift (asB d)).bind fun k=>if k=true then m2 else ret (.bl false)
def mOr(m1 m2:M D):M D:=m1.bind fun d=>(lift (asB d)).bind fun k=>if k=true then ret (.bl true) else m2
theorem agd{op}{m:M D}(h:EV K X a m):EV K X (.BoolOp op [a] pos) m:=EV.mk fun hk=>a03 (h hk)
theorem ae4{m1 m2:M D}{rest:List Expr}(h1:EV K X a m1)(h2:EV K X (.BoolOp .And (b::rest) pos) m2):EV K X (.BoolOp .And (a::b::rest) pos) (mAnd m1 m2):=EV.mk fun hk=>PE.imp (a1a (h1 hk) (h2 hk)) fun σ H Q hq0=>by
 obtain⟨tg,F,ρ,d,ρ',G,em,q⟩:=hq0;obtain⟨d1,ρ1,e1,em⟩:=bf em;obtain⟨k,ρ2,e2,em⟩:=bf em;obtain⟨e3,rfl⟩:=gr e2;obtain rfl:=ano e3;refine⟨tg,F,ρ,_,_,G,e1,fun v H' F' G' x r =>?_⟩
 cases r;refine⟨k,rfl,?_⟩;cases k with
 | true=>exact iteT ⟨tg,F',_,d,ρ',G',em,fun v2 H2 F2 G2 x2 r2=>q v2 H2 F2 G2 (x.trans x2) r2⟩
 | false =>
  obtain⟨rfl,rfl⟩:=kj (show ret (D.bl false) _=_ from em)
  exact iteF (q _ H' F' G' x (.bl _))
def TB(K:Fg9)(m:M Bool):TT:=fun σ H Q=>∃tg F ρ k ρ',Good K tg F H ρ σ/\m ρ=some (.ok k,ρ')/\∀H' F',Good K tg F' H' ρ' σ->Ext (Own ρ σ) (Own ρ' σ) F H F' H'->Q k H'
structure ET (K:Fg9) (X:Cx) (e:Expr) (m:M Bool):Prop where
 go:X.K=K->PT X e (TB K m)
instance {K:Fg9} {X:Cx} {e:Expr} {m:M Bool}:CoeFun (ET K X e m) fun _=>X.K=K->PT X e (TB K m):=⟨ET.go⟩
structure EW (K:Fg9) (X:Cx) (e:Expr) (m:M Bool):Prop where
 go:X.K=K->PW X e (TB K m)
instance {K:Fg9} {X:Cx} {e:Expr} {m:M Bool}:CoeFun (EW K X e m) fun _=>X.K=K->PW X e (TB K m):=⟨EW.go⟩
theorem PT.imp{t t':TT}(h:PT X e t)(w:∀σ H Q,t' σ H Q->t σ H Q):PT X e t':=fun zv s σ H Q I q=>h zv s σ H Q I (w σ H Q q)
theorem PW.imp{t t':TT}(h:PW X e t)(w:∀σ H Q,t' σ H Q->t σ H Q):PW X e t':=fun wh zv s σ H Q I q=>h wh zv s σ H Q I (w σ H Q q)
theorem EW.pt{m:M Bool}(h:EW K X e m):ET K X e m:=ET.mk fun hk=>(h hk).pt
def zx(m:M D):M Bool:=m.bind fun d=>lift (asB d)
theorem atw{m:M D}(σ:L2.St)(H:Hp)(Q:Bool->Hp->Prop)(t:TB K (zx m) σ H Q):tB (T K (relD K) m) σ H Q:=by
 obtain⟨tg,F,ρ,k,ρ',G,em,q⟩:=t;obtain⟨d1,ρ1,e1,em⟩:=bf em;obtain⟨e3,rfl⟩:=gr em;obtain rfl:=ano e3;refine⟨tg,F,ρ,_,_,G,e1,fun v H' F' G' x r =>?_⟩
 cases r;exact⟨k,rfl,q H' F' G' x⟩
theorem yt{m:M D}(h:EV K X e m)(he:∀whole,isTrue e X.env whole=(do let v <-whole;standAt e.pos;mQ [v] (truthy v)):=by intro _;rfl):ET K X e (zx m):=ET.mk fun hk=>PT.imp (a0q (h hk) he) atw
def j7(g:D->D->Option Rv)(m:M (D×D)):M Bool:=zx (mOp g m).d
theorem j9{op:CmpOp}{g:D->D->Option Rv}{m:M (D×D)}(ho:OpD K X (eY op) g)(h:E2 K X a b m)(hm:iI op b=false):ET K X (.Compare a [op] [b] pos) (j7 g m):=ET.mk fun hk=>by
 obtain⟨ta,tb,ha,hb,h⟩:=h hk;refine PT.imp (axp (ho hk) ha hb hm) fun σ H Q t =>?_
 obtain⟨tg,F,ρ,k,ρ',G,em,q⟩:=t;obtain⟨d1,ρ1,e1,em⟩:=bf em;obtain⟨e3,rfl⟩:=gr em;obtain rfl:=ano e3;obtain⟨r,ρ2,e1,em⟩:=bf e1;obtain⟨er,rfl⟩:=kj em;refine amj h σ H _ ⟨tg,F,ρ,r,_,G,e1,fun v H' F' G' x w =>?_⟩
 cases r with
 | v d =>
  have er:d=.bl k:=er;subst er;have w:Is K F' (.bl k) v:=w;cases w;exact⟨k,rfl,q H' F' G' x⟩
 | fr l=>cases er
 | tf d l=>cases er
def ad9(m:M Bool):M Bool:=m.bind fun k=>ret (!k)
theorem aak{m:M Bool}(h:ET K X a m):ET K X (.UnaryOp .Not a pos) (ad9 m):=ET.mk fun hk=>PT.imp (a0r (h hk)) fun σ H Q hq0=>by
 obtain⟨tg,F,ρ,k,ρ',G,em,q⟩:=hq0;obtain⟨d1,ρ1,e1,em⟩:=bf em;obtain⟨rfl,rfl⟩:=kj em;exact⟨tg,F,ρ,d1,_,G,e1,fun H' F' G' x=>q H' F' G' x⟩
def ays(m1 m2:M Bool):M Bool:=m1.bind fun k=>if k=true then m2 else ret false
def mOrB(m1 m2:M Bool):M Bool:=m1.bind fun k=>if k=true then ret true else m2
theorem azh{m:M Bool}(h:ET K X a m):EW K X (.BoolOp .And [a] pos) m:=EW.mk fun hk=>axo (h hk)
theorem ahg{m:M Bool}(h:ET K X a m):EW K X (.BoolOp .Or [a] pos) m:=EW.mk fun hk=>a0m (h hk)
theorem a3a{m1 m2:M Bool}{rest:List Expr}(h1:ET K X a m1)(h2:EW K X (.BoolOp .And (b::rest) pos) m2):EW K X (.BoolOp .And (a::b::rest) pos) (ays m1 m2):=EW.mk fun hk=>PW.imp (a0n (h1 hk) (h2 hk)) fun σ H Q hq0=>by
 obtain⟨tg,F,ρ,d,ρ',G,em,q⟩:=hq0;obtain⟨k,ρ1,e1,em⟩:=bf em;refine⟨tg,F,ρ,k,_,G,e1,fun H' F' G' x =>?_⟩
 cases k with
 | true=>exact iteT ⟨tg,F',_,d,ρ',G',em,fun H2 F2 G2 x2=>q H2 F2 G2 (x.trans x2)⟩
 | false =>
  obtain⟨rfl,rfl⟩:=kj (show ret false _=_ from em)
  exact iteF (q H' F' G' x)
theorem ajv{m1 m2:M Bool}{rest:List Expr}(h1:ET K X a m1)(h2:EW K X (.BoolOp .Or (b::rest) pos) m2):EW K X (.BoolOp .Or (a::b::rest) pos) (mOrB m1 m2):=EW.mk fun hk=>PW.imp (a6b (h1 hk) (h2 hk)) fun σ H Q hq0=>by
 obtain⟨tg,F,ρ,d,ρ',G,em,q⟩:=hq0;obtain⟨k,ρ1,e1,em⟩:=bf em;refine⟨tg,F,ρ,k,_,G,e1,fun H' F' G' x =>?_⟩
 cases k with
 | false=>exact iteF ⟨tg,F',_,d,ρ',G',em,fun H2 F2 G2 x2=>q H2 F2 G2 (x.trans x2)⟩
 | true =>
  obtain⟨rfl,rfl⟩:=kj (show ret true _=_ from em)
  exact iteT (q H' F' G' x)
def ajh(f g:Int->Int->Bool)(m1 m2 m3:M D):M D:=m1.bind fun x=>m2.bind fun y=>match x,y with
 | .int i,.int j=>if f i j=true then m3.bind fun z=>match z with
  | .int k=>ret (.bl (g j k))
  | _=>lift none
  else ret (.bl false)
 | _,_=>lift none
theorem asw{f g:Int->Int->Bool}{m1 m2 m3:M D}(σ:L2.St)(H:Hp)(Q:VK)(t:T K (relD K) (ajh f g m1 m2 m3) σ H Q) :
  awc (rI0 fun i j=>.bl (f i j)) (rI0 fun i j=>.bl (g i j)) (T K (relD K) m1) (T K (relD K) m2) (T K (relD K) m3) σ H Q:=by
 obtain⟨tg,F,ρ,d,ρ',G,em,q⟩:=t;obtain⟨d1,ρ1,e1,em⟩:=bf em;obtain⟨d2,ρ2,e2,em⟩:=bf em;have bad:∀{ρ:Ro},(lift (none:Option D)) ρ=some (.ok d,ρ')->False:=fun z=>by
  obtain⟨z,_⟩:=gr z;cases z
 cases d1 with
 | int i =>
  cases d2 with
  | int j =>
   refine⟨tg,F,ρ,_,ρ1,G,e1,fun v H1 F1 G1 x1 r1=>⟨tg,F1,ρ1,_,ρ2,G1,e2,fun v2 H2 F2 G2 x2 r2 =>?_⟩⟩
   cases r1;cases r2;refine⟨i,j,rfl,rfl,f i j,rfl,?_⟩;have em:(if f i j=true then m3.bind fun z=>match z with
    | .int k=>ret (.bl (g j k))
    | _=>lift none
    else ret (.bl false)) ρ2=some (.ok d,ρ'):=em
   by_cases hf:f i j=true
   ·rw[if_pos hf] at em ⊢
    obtain⟨d3,ρ3,e3,em⟩:=bf em;refine⟨tg,F2,ρ2,d3,ρ3,G2,e3,fun v3 H3 F3 G3 x3 r3 =>?_⟩
    cases d3 with
    | int k =>
     obtain⟨rfl,rfl⟩:=kj (show ret (D.bl (g j k)) _=_ from em)
     cases r3;exact⟨j,k,rfl,rfl,q _ H3 F3 G3 ((x1.trans x2).trans x3) (.bl _)⟩
    | _=>exact(bad em).elim
   ·rw[if_neg hf] at em ⊢
    obtain⟨rfl,rfl⟩:=kj em;exact q _ H2 F2 G2 (x1.trans x2) (.bl _)
  | _=>exact(bad em).elim
 | _=>cases d2 <;> exact(bad em).elim
theorem am7{op op':CmpOp}{f g:Int->Int->Bool}{m1 m2 m3:M D}(ho:OpR X (eY op) (rI0 fun i j=>.bl (f i j)))(ho':OpR X (eY op') (rI0 fun i j=>.bl (g i j)))(h1:EV K X a m1)(h2:EV K X b m2)(h3:EV K X c m3)
  (hm:lastMarks [op,op'] [b,c]=false:=by with_unfolding_all rfl):EV K X (.Compare a [op,op'] [b,c] pos) (ajh f g m1 m2 m3):=EV.mk fun hk=>PE.imp (auk ho ho' (h1 hk) (h2 hk) (h3 hk) hm) asw
def mIf{α:Type}(m:M Bool)(m1 m2:M α):M α:=m.bind fun k=>if k=true then m1 else m2
theorem a75{m:M Bool}{m1 m2:M Rv}(h:ET K X c m)(h1:ER K X a m1)(h2:ER K X b m2):ER K X (.IfExp c a b pos) (mIf m m1 m2):=ER.mk fun hk=>PE.imp (aui (h hk) (h1 hk) (h2 hk)) fun σ H Q hq0=>by
 obtain⟨tg,F,ρ,d,ρ',G,em,q⟩:=hq0;obtain⟨k,ρ1,e1,em⟩:=bf em;refine⟨tg,F,ρ,k,_,G,e1,fun H' F' G' x =>?_⟩
 have fin:∀{m':M Rv},m' ρ1=some (.ok d,ρ')->T K (relR K) m' σ H' Q:=fun{m'} e'=>⟨tg,F',ρ1,d,ρ',G',e',fun v H2 F2 G2 x2 r2=>q v H2 F2 G2 (x.trans x2) (by
  cases d with
  | v d=>exact r2
  | fr l =>
   obtain⟨a,vs,ev,ha,w⟩:=r2;refine⟨a,vs,ev,?_,w⟩;rcases ha with ha | ha
   ·exact .inl (x.there a ha)
   ·exact(x.own a ha).symm
  | tf d l =>
   obtain⟨t,u,a,vs,ev,ht,hd,ha,w⟩:=r2;refine⟨t,u,a,vs,ev,ht,hd,?_,w⟩;rcases ha with ha | ha
   ·exact .inl (x.there a ha)
   ·exact(x.own a ha).symm)⟩
 cases k with
 | true=>exact iteT (fin em)
 | false=>exact iteF (fin em)
end
section
variable{K:Fg9}{X:Cx}{e a b c:Expr}{es:List Expr}{pos p p2:Pos}
def TL(K:Fg9)(m:M (List D)):TA:=fun σ H Q=>∃tg F ρ ds ρ',Good K tg F H ρ σ/\m ρ=some (.ok ds,ρ')/\∀vs H' F',Good K tg F' H' ρ' σ->Ext (Own ρ σ) (Own ρ' σ) F H F' H'->IsL K F' ds vs->Q vs H'
structure ED (K:Fg9) (X:Cx) (es:List Expr) (m:M (List D)):Prop where
 go:X.K=K->PA X es (TL K m)
instance {K:Fg9} {X:Cx} {es:List Expr} {m:M (List D)}:CoeFun (ED K X es m) fun _=>X.K=K->PA X es (TL K m):=⟨ED.go⟩
theorem PA.imp{t t':TA}(h:PA X es t)(w:∀σ H Q,t' σ H Q->t σ H Q):PA X es t':=fun ps zv s σ H Q I q=>h ps zv s σ H Q I (w σ H Q q)
def mNil:M (List D):=ret []
def aq(m:M D)(ms:M (List D)):M (List D):=m.bind fun d=>ms.bind fun ds=>ret (d::ds)
theorem bh:ED K X [] mNil:=ED.mk fun _=>PA.imp ac9 fun σ H Q hq0=>by
 obtain⟨tg,F,ρ,ds,ρ',G,em,q⟩:=hq0;obtain⟨rfl,rfl⟩:=kj em;exact q [] H F G (Ext.refl _ _ _) .nil
theorem aa{m:M D}{ms:M (List D)}(h:EV K X e m)(t:ED K X es ms)(hs:aQ (e::es) X.env=(false,eval e X.env)::aQ es X.env:=by rfl):ED K X (e::es) (aq m ms):=ED.mk fun hk=>PA.imp (uf (h hk) (t hk) hs) fun σ H Q hq0=>by
 obtain⟨tg,F,ρ,ds,ρ',G,em,q⟩:=hq0;obtain⟨d,ρ1,e1,em⟩:=bf em;obtain⟨r,ρ2,e2,em⟩:=bf em;obtain⟨rfl,rfl⟩:=kj em;exact⟨tg,F,ρ,d,ρ1,G,e1,fun v H1 F1 G1 x1 r1=>⟨tg,F1,ρ1,r,_,G1,e2,fun vs H2 F2 G2 x2 r2=>q _ H2 F2 G2 (x1.trans x2) (.cons (r1.mono x2.sub) r2)⟩⟩
noncomputable def gTup(ds:List D):Option D:=if ds.length<=capS then some (.tup ds) else none
noncomputable def gLst(ds:List D):Option Rv:=if ds.length<=capS then some (.fr ds) else none
def mTup(m:M (List D)):M D:=m.bind fun ds=>lift (gTup ds)
def mLst(m:M (List D)):M Rv:=m.bind fun ds=>lift (gLst ds)
theorem jf{k}{m:M (List D)}(h:ED K X es m):EV K X (.Tuple es k pos) (mTup m):=EV.mk fun hk=>PE.imp (a01 (h hk)) fun σ H Q hq0=>by
 obtain⟨tg,F,ρ,d,ρ',G,em,q⟩:=hq0;obtain⟨ds,ρ1,e1,em⟩:=bf em;obtain⟨e2,rfl⟩:=gr em;unfold gTup at e2;split at e2
 ·rename_i hz;cases e2;refine⟨tg,F,ρ,ds,_,G,e1,fun vs H1 F1 G1 x1 r1=>⟨by rw[<-r1.length];exact agp hz,fun p hp=>q _ _ _ (G1.new hp _) (x1.trans (G1.newX hp _)) (.tup gq (r1.mono (Same.new (G1.freeF hp) _)))⟩⟩
 ·cases e2
theorem kh{m:M (List D)}(h:ED K X es m):ER K X (.List es pos) (mLst m):=ER.mk fun hk=>PE.imp (a06 (h hk)) fun σ H Q hq0=>by
 obtain⟨tg,F,ρ,d,ρ',G,em,q⟩:=hq0;obtain⟨ds,ρ1,e1,em⟩:=bf em;obtain⟨e2,rfl⟩:=gr em;unfold gLst at e2;split at e2
 ·rename_i hz;cases e2;refine⟨tg,F,ρ,ds,_,G,e1,fun vs H1 F1 G1 x1 r1=>⟨by rw[<-r1.length];exact agp hz,fun p hp=>q _ _ _ (G1.fresh hp _) (x1.trans (G1.freshX hp _)) ⟨p,vs,rfl,.inl (x1.there p hp),G1.freeF hp,gq,r1,fun z=>G1.own_ne hp z rfl⟩⟩⟩
 ·cases e2
theorem avy{x:Str}{n:Int}{j1 j2:Nat}{p1 p2:Pos}:EV K X (.Dict [some (.Constant (.str x) j1 p1)] [.Constant (.int n) j2 p2] pos) (ret (.dct [(lZ x,.int n)])):=EV.mk fun _=>PE.imp auj fun σ H Q hq0=>by
 obtain⟨tg,F,ρ,d,ρ',G,em,q⟩:=hq0;obtain⟨rfl,rfl⟩:=kj em;exact fun p hp=>q _ _ _ (G.new hp _) (G.newX hp _) (.dct gq (.cons (.int n) .nil))
inductive BorL (K:Fg9) (F H:Hp):List D->List V->Prop
 | nil:BorL K F H [] []
 | cons {d:D} {v:V} {ds:List D} {vs:List V} (h:Bor K F H d v) (t:BorL K F H ds vs):BorL K F H (d::ds) (v::vs)
def TA'(K:Fg9)(m:M (List D)):TA:=fun σ H Q=>∃tg F ρ ds ρ',Good K tg F H ρ σ/\m ρ=some (.ok ds,ρ')/\∀vs H' F',Good K tg F' H' ρ' σ->Ext (Own ρ σ) (Own ρ' σ) F H F' H'->BorL K F' H' ds vs->Q vs H'
structure EA (K:Fg9) (X:Cx) (es:List Expr) (m:M (List D)):Prop where
 go:X.K=K->PA X es (TA' K m)
instance {K:Fg9} {X:Cx} {es:List Expr} {m:M (List D)}:CoeFun (EA K X es m) fun _=>X.K=K->PA X es (TA' K m):=⟨EA.go⟩
def jl(i:Nat)(ms:M (List D)):M (List D):=(dw i).bind fun _=>ms.bind fun ds=>(dw i).bind fun d=>ret (d::ds)
theorem gm:EA K X [] mNil:=EA.mk fun _=>PA.imp ac9 fun σ H Q hq0=>by
 obtain⟨tg,F,ρ,ds,ρ',G,em,q⟩:=hq0;obtain⟨rfl,rfl⟩:=kj em;exact q [] H F G (Ext.refl _ _ _) .nil
theorem ea_v{m:M D}{ms:M (List D)}(h:EV K X e m)(t:EA K X es ms)(hs:aQ (e::es) X.env=(false,eval e X.env)::aQ es X.env:=by rfl):EA K X (e::es) (aq m ms):=EA.mk fun hk=>PA.imp (uf (h hk) (t hk) hs) fun σ H Q hq0=>by
 obtain⟨tg,F,ρ,ds,ρ',G,em,q⟩:=hq0;obtain⟨d,ρ1,e1,em⟩:=bf em;obtain⟨r,ρ2,e2,em⟩:=bf em;obtain⟨rfl,rfl⟩:=kj em;exact⟨tg,F,ρ,d,ρ1,G,e1,fun v H1 F1 G1 x1 r1=>⟨tg,F1,ρ1,r,_,G1,e2,fun vs H2 F2 G2 x2 r2=>q _ H2 F2 G2 (x1.trans x2) (.cons (.inl (r1.mono x2.sub)) r2)⟩⟩
theorem ea_n{i:Nat}{ms:M (List D)}(h:PE X e (tVar i))(t:EA K X es ms)(hs:aQ (e::es) X.env=(false,eval e X.env)::aQ es X.env:=by rfl):EA K X (e::es) (jl i ms):=EA.mk fun hk=>PA.imp (uf h (t hk) hs) fun σ H Q hq0=>by
 obtain⟨tg,F,ρ,ds,ρ',G,em,q⟩:=hq0;obtain⟨d0,ρ0,e0,em⟩:=bf em;obtain⟨r,ρ2,e2,em⟩:=bf em;obtain⟨d,ρ1,e1,em⟩:=bf em;obtain⟨rfl,rfl⟩:=kj em;obtain⟨rfl,v,hv,_⟩:=ue G e0;exact⟨v,hv,tg,F,ρ0,r,_,G,e2,fun vs H2 F2 G2 x2 r2=>by
  obtain⟨rfl,v',hv',b'⟩:=ue G2 e1;rw[hv] at hv';cases hv';exact q _ H2 F2 G2 x2 (.cons b' r2)⟩
def rcOf(K:Fg9)(g:List D->Option Rv):List V->Hp->VK->Prop:=fun vs H Q=>∃tg F ρ σ ds r,Good K tg F H ρ σ/\BorL K F H ds vs/\g ds=some r/\Res K tg F H ρ σ r Q
structure CallD (K:Fg9) (X:Cx) (f:Value) (g:List D->Option Rv):Prop where
 go:X.K=K->za X f (rcOf K g)
instance {K:Fg9} {X:Cx} {f:Value} {g:List D->Option Rv}:CoeFun (CallD K X f g) fun _=>X.K=K->za X f (rcOf K g):=⟨CallD.go⟩
def jk(g:List D->Option Rv)(m:M (List D)):M Rv:=m.bind fun ds=>lift (g ds)
theorem p6{O O1 O2:Addr->Prop}{F H F1 H1 F2 H2:Hp}{r:Rv}{v:V}(x:Ext O O1 F H F1 H1)(h:relR K r v H1 O1 F2 H2 O2):relR K r v H O F2 H2 O2:=by
 cases r with
 | v d=>exact h
 | fr l =>
  obtain⟨a,vs,ev,ha,w⟩:=h;refine⟨a,vs,ev,?_,w⟩;rcases ha with ha | ha
  ·exact .inl (x.there a ha)
  ·exact(x.own a ha).symm
 | tf d l =>
  obtain⟨t,u,a,vs,ev,ht,hd,ha,w⟩:=h;refine⟨t,u,a,vs,ev,ht,hd,?_,w⟩;rcases ha with ha | ha
  ·exact .inl (x.there a ha)
  ·exact(x.own a ha).symm
theorem ang{g:List D->Option Rv}{m:M (List D)}(σ:L2.St)(H:Hp)(Q:VK)(t:T K (relR K) (jk g m) σ H Q):tCB (rcOf K g) (TA' K m) σ H Q:=by
 obtain⟨tg,F,ρ,r,ρ',G,em,q⟩:=t;obtain⟨ds,ρ1,e1,em⟩:=bf em;obtain⟨e2,rfl⟩:=gr em;exact⟨tg,F,ρ,ds,_,G,e1,fun vs H' F' G' x' bl=>⟨tg,F',_,σ,ds,r,G',bl,e2,fun v H2 F2 G2 x2 rr=>q v H2 F2 G2 (x'.trans x2) (p6 x' rr)⟩⟩
section
variable{x:Str}{id Ty:String}{g:List D->Option Rv}{m:M (List D)}
theorem gf(hc:CallD K X (.builtin id) g)(hg:Gl X x)(hm:X.mg x=none)(hv:bN x=some (.builtin id))(ha:EA K X (e::es) m)(hn:x ≠ "__name__" := by decide)(hdb:(x==("__debug__" : Str))=false:=by decide)
  (he:aQ (e::es) X.env=(false,eval e X.env)::aQ es X.env:=by rfl) (hpl:(iG pos (aQ es X.env)).any (·.1)=false:=by rfl):ER K X (.Call (.Name x p) (e::es) [] pos) (jk g m):=ER.mk fun hk=>PE.imp (ac8 (hc hk) hg hm hv (ha hk) hn hdb he hpl) ang
theorem jt(hc:CallD K X (.type Ty) g)(hg:Gl X x)(hm:X.mg x=none)(hv:bN x=some (.type Ty))(ha:EA K X (e::es) m)(hn:x ≠ "__name__" := by decide)(hdb:(x==("__debug__" : Str))=false:=by decide)
  (he:aQ (e::es) X.env=(false,eval e X.env)::aQ es X.env:=by rfl) (hpl:(iG pos (aQ es X.env)).any (·.1)=false:=by rfl):ER K X (.Call (.Name x p) (e::es) [] pos) (jk g m):=ER.mk fun hk=>PE.imp (ac7 (hc hk) hg hm hv (ha hk) hn hdb he hpl) ang
end
theorem BorL.one{F H:Hp}{d:D}{vs:List V}(h:BorL K F H [d] vs):∃v,vs=[v]/\Bor K F H d v:=by
 cases h with
 | cons h t=>cases t;exact⟨_,rfl,h⟩
theorem BorL.two{F H:Hp}{d d':D}{vs:List V}(h:BorL K F H [d,d'] vs):∃v v',vs=[v,v']/\Bor K F H d v/\Bor K F H d' v':=by
 cases h with
 | cons h t =>
  obtain⟨v',rfl,h'⟩:=t.one;exact⟨_,_,rfl,h,h'⟩
noncomputable def g1(f:D->Option Rv):List D->Option Rv
 | [d]=>f d
 | _=>none
noncomputable def g2(f:D->D->Option Rv):List D->Option Rv
 | [d,d']=>f d d'
 | _=>none
theorem cd_one{f:D->Option Rv}{w:Value} (h:X.K=K->∀(zv:List (Addr×Obj)) (s:aF) (σ0:L2.St) (H:Hp) (x:V) (u:Value) (Q:VK) (tg:Nat->Addr) (F:Hp) (ρ:Ro) (σ:L2.St) (d:D) (r:Rv),Inv X zv σ0 H s->RelV x u->Good K tg F H ρ σ->Bor K F H d x->f d=some r->Res K tg F H ρ σ r Q ->
  wpAny (model X.prog X.w) X.A (call w [u]) (EP X zv σ0 Q) X.xe s):CallD K X w (g1 f):=CallD.mk fun hk=>by
 intro zv s σ0 H xs us Q I r ⟨tg,F,ρ,σ,ds,rv,G,bl,eg,q⟩
 match ds,eg with
 | [d],eg =>
  obtain⟨v,rfl,bv⟩:=bl.one;obtain⟨u,rfl,ru⟩:=vals1 r;exact h hk zv s σ0 H v u Q tg F ρ σ d rv I ru G bv eg q
theorem qz:CallD K X (.builtin "len") (g1 fun d=>(itemsD d).map fun l=>.v (.int l.length)):=cd_one fun hk zv s σ0 H x u Q tg F ρ σ d r I ru G bd eg q=>by
 subst hk;cases e:itemsD d with
 | none=>rw[e] at eg;cases eg
 | some l =>
  rw[e] at eg;cases eg;obtain⟨a,vs,rfl,hl,hs⟩:=afn G.sub e bd;have q':=Res.same G q (.int _);rw[hl.length] at q';exact aj6 zv s σ0 H [.ref a] [u] Q I (.cons ru .nil) ⟨a,vs,rfl,hs,q'⟩
noncomputable def w6:List D->Option (List Bool)
 | []=>some []
 | .bl b::r=>(w6 r).map (b :: ·)
 | _::_=>none
theorem akb:∀{l:List D} {bs:List Bool},w6 l=some bs->l=bs.map D.bl
 | [],_,h=>by cases h;rfl
 | .bl b::r,bs,h=>by
  have h':(w6 r).map (b :: ·)=some bs:=h;cases e:w6 r with
  | none=>rw[e] at h';cases h'
  | some t =>
   rw[e] at h';cases h';rw[akb e];rfl
 | .non::_,_,h=>by cases h
 | .int _::_,_,h=>by cases h
 | .str _::_,_,h=>by cases h
 | .tup _::_,_,h=>by cases h
 | .lst _::_,_,h=>by cases h
 | .kst _::_,_,h=>by cases h
 | .dct _::_,_,h=>by cases h
@[simp] theorem aek(bs:List Bool):w6 (bs.map D.bl)=some bs:=by
 induction bs with
 | nil=>rfl
 | cons b r ih=>show(w6 (r.map D.bl)).map (b :: ·)=_;rw[ih];rfl
noncomputable def gAll:D->Option Rv
 | .lst l=>(w6 l).map fun bs=>.v (.bl (bs.all id))
 | _=>none
theorem as3(hc:X.calm=true):CallD K X (.builtin "all") (g1 gAll):=cd_one fun hk zv s σ0 H x u Q tg F ρ σ d r I ru G bd eg q=>by
 subst hk;cases d with
 | lst l =>
  have eg:(w6 l).map (fun bs=>Rv.v (.bl (bs.all id)))=some r:=eg
  cases e:w6 l with
  | none=>rw[e] at eg;cases eg
  | some bs =>
   rw[e] at eg;cases eg;obtain⟨a,vs,rfl,ea,hl⟩:=bd.lst G.sub;rw[akb e] at hl;rw[hl.bl_inv] at ea;exact av4 hc zv s σ0 H [.ref a] [u] Q I (.cons ru .nil) ⟨a,bs,rfl,SqL.of ea,Res.same G q (.bl _)⟩
 | _=>cases eg
noncomputable def avu:D->Option Rv
 | .int i=>some (.v (.int i))
 | .bl k=>some (.v (.int (if k then 1 else 0)))
 | _=>none
theorem a3j:CallD K X (.type "int") (g1 avu):=cd_one fun hk zv s σ0 H x u Q tg F ρ σ d r I ru G bd eg q=>by
 cases d with
 | int i =>
  cases eg;obtain rfl:=bd.int;exact aj8 zv s σ0 H [_] [u] Q I (.cons ru .nil) (.inl ⟨i,rfl,Res.same G q (.int _)⟩)
 | bl k =>
  cases eg;obtain rfl:=bd.bl;exact aj8 zv s σ0 H [_] [u] Q I (.cons ru .nil) (.inr ⟨k,rfl,Res.same G q (.int _)⟩)
 | _=>cases eg
theorem xq:CallD K X (.type "tuple") (g1 fun d=>(itemsD d).map fun l=>.v (.tup l)):=cd_one fun hk zv s σ0 H x u Q tg F ρ σ d r I ru G bd eg q=>by
 subst hk;cases d with
 | tup l =>
  cases eg;obtain⟨a,vs,rfl,ea,hl⟩:=bd.tup;exact aax zv s σ0 H [_] [u] Q I (.cons ru .nil) ⟨a,vs,rfl,.inr ⟨SqT.of (G.sub _ _ ea),Res.same G q (.tup ea hl)⟩⟩
 | lst l =>
  cases eg;obtain⟨a,vs,rfl,ea,hl⟩:=bd.lst G.sub;exact aax zv s σ0 H [_] [u] Q I (.cons ru .nil) ⟨a,vs,rfl,.inl ⟨SqL.of ea,fun p hp=>Res.tup G q hl hp⟩⟩
 | kst l =>
  cases eg;obtain⟨a,vs,rfl,ea,hl⟩:=bd.kst;exact aax zv s σ0 H [_] [u] Q I (.cons ru .nil) ⟨a,vs,rfl,.inl ⟨L2.Same.seq G.sub ea,fun p hp=>Res.tup G q hl hp⟩⟩
 | _=>cases eg
theorem aej:CallD K X (.type "list") (g1 fun d=>(itemsD d).map fun l=>.fr l):=cd_one fun hk zv s σ0 H x u Q tg F ρ σ d r I ru G bd eg q=>by
 subst hk;cases e:itemsD d with
 | none=>rw[e] at eg;cases eg
 | some l =>
  rw[e] at eg;cases eg;obtain⟨a,vs,rfl,hl,hs⟩:=afn G.sub e bd;exact aj5 zv s σ0 H [_] [u] Q I (.cons ru .nil) ⟨a,vs,rfl,hs,fun p hp=>Res.lst G q hl hp⟩
theorem aw1{f:D->D->Option Rv}{w:Value} (h:X.K=K->∀(zv:List (Addr×Obj)) (s:aF) (σ0:L2.St) (H:Hp) (x y:V) (u v:Value) (Q:VK) (tg:Nat->Addr) (F:Hp) (ρ:Ro) (σ:L2.St) (d d':D) (r:Rv),Inv X zv σ0 H s->RelV x u->RelV y v->Good K tg F H ρ σ->Bor K F H d x->Bor K F H d' y->f d d'=some r->Res K tg F H ρ σ r Q ->
  wpAny (model X.prog X.w) X.A (call w [u,v]) (EP X zv σ0 Q) X.xe s):CallD K X w (g2 f):=CallD.mk fun hk=>by
 intro zv s σ0 H xs us Q I r ⟨tg,F,ρ,σ,ds,rv,G,bl,eg,q⟩
 match ds,eg with
 | [d,d'],eg =>
  obtain⟨v,v',rfl,bv,bv'⟩:=bl.two;obtain⟨u,w,rfl,ru,rw'⟩:=vals2 r;exact h hk zv s σ0 H v v' u w Q tg F ρ σ d d' rv I ru rw' G bv bv' eg q
theorem anf(hc:X.calm=true):CallD K X (.builtin "max") (g2 (gInt fun i j=>some (if j > i then j else i))):=aw1 fun hk zv s σ0 H x y u v Q tg F ρ σ d d' r I ru rv G bd bd' eg q=>by
 unfold gInt at eg;split at eg
 ·cases eg;obtain rfl:=bd.int;obtain rfl:=bd'.int;exact as6 hc zv s σ0 H [_,_] [u,v] Q I (.cons ru (.cons rv .nil)) ⟨_,_,rfl,Res.same G q (.int _)⟩
 ·cases eg
theorem aj9:za X (.builtin "divmod") (fun xs H Q=>∃i j,xs=[.int i,.int j]/\(0 < j/\j < 1000000000000000000000000000000000000000000000000000000000000)/\∀p,H p=none->Q (.ref p) (upd H p (.tup [.int (i / j),.int (i % j)]))):=by
 intro zv s σ H xs us Q I r h;obtain⟨i,j,rfl,hj,q⟩:=h;obtain⟨u,w',rfl,⟨t,rfl⟩,⟨t',rfl⟩⟩:=vals2 r;have h1:=hj.1;refine divmod_int (by omega) ?_ (.inl (a1p hj.1 hj.2))
 rw[rH i (by omega),rG i (by omega)]
 refine⟨.ref s.heap.objs.size,_,?_,rfl,q _ (I.hok.fresh (aN _))⟩;exact I.laid (fun b o e=>aB _ e) (aN _) ⟨by simp only[cC,wX];rw[gM];decide,[.int (i / j) s.toks,.int (i % j) (s.toks+1)],.cons ⟨_,rfl⟩ (.cons ⟨_,rfl⟩ .nil),⟨_,aL s.heap rfl,rfl,rfl,0,rfl⟩⟩
noncomputable def aif:D->D->Option Rv
 | .int i,.int j=>if 0 < j/\j < 1000000000000000000000000000000000000000000000000000000000000 then some (.v (.tup [.int (i / j),.int (i % j)])) else none
 | _,_=>none
theorem asz:CallD K X (.builtin "divmod") (g2 aif):=aw1 fun hk zv s σ0 H x y u v Q tg F ρ σ d d' r I ru rv G bd bd' eg q=>by
 unfold aif at eg;split at eg
 ·split at eg
  ·rename_i hc;cases eg;obtain rfl:=bd.int;obtain rfl:=bd'.int;exact aj9 zv s σ0 H [_,_] [u,v] Q I (.cons ru (.cons rv .nil)) ⟨_,_,rfl,hc,fun p hp=>Res.tup G q (.cons (.int _) (.cons (.int _) .nil)) hp⟩
  ·cases eg
 ·cases eg
inductive Ty where
 | int | bool | tuple | list | str | dict
noncomputable def Ty.nm:Ty->String
 | .int => "int" | .bool => "bool" | .tuple => "tuple" | .list => "list" | .str => "str" | .dict => "dict"
noncomputable def tyD:D->Value
 | .non=>.type "NoneType"
 | .bl _=>.type "bool"
 | .int _=>.type "int"
 | .str _=>.type "str"
 | .tup _=>.type "tuple"
 | .lst _=>.type "list"
 | .kst _=>.type "list"
 | .dct _=>.type "dict"
 | .exn _ _=>.type "NoneType"
noncomputable def isTy:Ty->D->Bool
 | .int,.int _=>true
 | .int,.bl _=>true
 | .bool,.bl _=>true
 | .tuple,.tup _=>true
 | .list,.lst _=>true
 | .list,.kst _=>true
 | .str,.str _=>true
 | .dict,.dct _=>true
 | _,_=>false
theorem awp(t:Ty)(d:D):fX K (tyD d) (.type t.nm)=some (isTy t d):=by
 cases d <;> cases t <;> kernel_rfl
theorem as7{X:Cx}:za X (.builtin "isinstance") (fun xs H Q=>∃F d x t,xs=[x,.ty (Ty.nm t)]/\Same F H/\Bor X.K F H d x/\Q (.bl (isTy t d)) H):=by
 intro zv s σ H xs us Q I r ⟨F,d,x,t,e,g,h,q⟩;subst e;obtain⟨u,w',rfl,r1,r2⟩:=vals2 r;obtain rfl:w'=iR t.nm:=r2;have fin:∀tk,EP X zv σ Q (.bool (isTy t d)) { s with toks:=tk }:=fun tk=>⟨.bl _,H,I.tok tk,rfl,q⟩
 have go:TyOf X.K H x (tyD d)->wpAny (model X.prog X.w) X.A (call (.builtin "isinstance") [u,.type t.nm]) (EP X zv σ Q) X.xe s:=fun ty=>ark I r1 ty (awp t d) fin
 cases d with
 | non=>obtain rfl:=h.non;exact go .non
 | bl b=>obtain rfl:=h.bl;exact go (.bl b)
 | int b=>obtain rfl:=h.int;exact go (.int b)
 | str b=>obtain rfl:=h.str;exact go (.str b)
 | tup b=>obtain⟨a,vs,rfl,e,_⟩:=h.tup;exact go (.tup (g _ _ e))
 | lst b=>obtain⟨a,vs,rfl,e,_⟩:=h.lst g;exact go (.lst e)
 | kst b =>
  obtain⟨a,vs,rfl,e,_⟩:=h.kst;cases(show u=cJ a from r1)
  obtain⟨its,_,pl,_⟩:=I.list (L2.Same.seq g e);obtain⟨o,ho,hc,n,hd⟩:=pl.isList;exact cY pZ I.kIn ⟨o,ho,hc⟩ (awp t (.kst b)) (fun z=>nomatch z) fin
 | dct b =>
  rcases h with h | ⟨a,vs,l',e1,_⟩
  ·cases h with
   | dct e h=>exact go (.dK (g _ _ e))
  ·cases e1
 | exn c fs =>
  rcases h with h | ⟨a,vs,l',e1,_⟩
  ·cases h with
   | @exn a C c dx fs e hc hk hf =>
    cases(show u=cJ a from r1)
    obtain⟨⟨oe,ws,h1,h2,h3,h4⟩,_⟩:=(show v9 X.prog X.w H s.heap a (.ext (exO a C dx)) from I.hok a _ (g _ _ e))
    have hno:lN oe=true:=by unfold lN;rw[h4]
    have ia:∃ox od,fY s.heap a ox C od:=by
     rcases hf with⟨rfl,_⟩ | ⟨d,rfl,hd⟩
     ·exact⟨oe,none,h1,h2,hno,by rw[h3];trivial⟩
     ·obtain⟨mA,⟨od,_,_,e1,_⟩,_⟩:=(show v9 X.prog X.w H s.heap d (.xd _) from I.hok d _ (g _ _ hd))
      exact⟨oe,some od,h1,h2,hno,by rw[h3];exact e1⟩
    have kq:fX X.K (.ref C) (.type t.nm)=some false:=by
     have h5:fW X.K (.ref C) (.type t.nm)=some false:=hk.no _ (by cases t <;> simp[Ty.nm])
     have h6:wQ t.nm=true:=by cases t <;> kernel_rfl
     unfold fX xQ;rw[if_neg (by simp)]
     show(if wQ t.nm=true then fW X.K (.ref C) (.type t.nm) else none)=some false
     rw[if_pos h6];exact h5
    have e7:isTy t (.exn c fs)=false:=by cases t <;> rfl
    exact cY (ams hk) I.kIn ia kq (fun z=>nomatch z) fun tk=>e7▸fin tk
  ·cases e1
def mIsi(t:Ty)(m:M D):M D:=m.bind fun d=>ret (.bl (isTy t d))
theorem ae3{t:Ty}{tn:Expr}{m:M D}{x:Str}(ht:PE X tn (tC (.ty t.nm)))(hg:Gl X x)(hm:X.mg x=none)(hv:bN x=some (.builtin "isinstance"))(h:EB K X e m)(hn:x ≠ "__name__" := by decide)(hdb:(x==("__debug__" : Str))=false:=by decide)
  (h1:aQ [tn] X.env=(false,eval tn X.env)::aQ [] X.env:=by rfl) (he:aQ [e,tn] X.env=(false,eval e X.env)::aQ [tn] X.env:=by rfl) (hpl:(iG pos (aQ [tn] X.env)).any (·.1)=false:=by rfl) :
  EV K X (.Call (.Name x p) [e,tn] [] pos) (mIsi t m):=EV.mk fun hk=>by
 refine PE.imp (ac8 as7 hg hm hv (uf (h hk) (uf ht ac9 h1) he) hn hdb he hpl) fun σ H Q ⟨tg,F,ρ,d,ρ',G,em,q⟩ =>?_
 obtain⟨d1,ρ1,e1,em⟩:=bf em;obtain⟨rfl,rfl⟩:=kj em;subst hk;exact⟨tg,F,ρ,d1,_,G,e1,fun v H' F' G' x bv=>⟨F',d1,v,t,rfl,G'.sub,bv,q _ H' F' G' x (.bl _)⟩⟩
noncomputable def gIx(d i:D):Option Rv:=match i with
 | .int k=>(itemsD d).bind fun l=>(atI l k).map fun x=>.v x
 | _=>none
theorem a3p{F:Hp}{l:List D}{vs:List V}{k:Int}{d:D}(h:IsL K F l vs)(e:atI l k=some d):∃v,atI vs k=some v/\Is K F d v:=by
 unfold atI at e ⊢
 rw[h.length] at e;cases q:ixN vs.length k with
 | none=>rw[q] at e;cases e
 | some j =>
  rw[q] at e;obtain⟨v,e1,e2⟩:=h.get (i:=j) e;exact⟨v,e1,e2⟩
theorem ixd:X.K=K->IxR X (rOf K gIx):=fun hk=>by
 intro value slice zv s σ0 H x y v u Q I rx ry ⟨tg,F,ρ,σ,d1,d2,r,G,b1,b2,eg,q⟩ hs;subst hk;cases d2 with
 | int k =>
  have eg:(itemsD d1).bind (fun l=>(atI l k).map fun x=>Rv.v x)=some r:=eg
  cases e:itemsD d1 with
  | none=>rw[e] at eg;cases eg
  | some l =>
   rw[e] at eg;have eg:(atI l k).map (fun x=>Rv.v x)=some r:=eg
   cases e2:atI l k with
   | none=>rw[e2] at eg;cases eg
   | some d =>
    rw[e2] at eg;cases eg;obtain⟨a,vs,rfl,hl,hq⟩:=afn G.sub e b1;obtain rfl:=b2.int;obtain⟨z,hz,iz⟩:=a3p hl e2;rcases hq with hq | hq
    ·exact ayt value slice zv s σ0 H _ _ v u Q I rx ry ⟨a,vs,k,z,rfl,rfl,hq,hz,Res.same G q iz⟩ hs
    ·exact a2j value slice zv s σ0 H _ _ v u Q I rx ry ⟨a,vs,k,z,rfl,rfl,hq,hz,Res.same G q iz⟩ hs
 | _=>cases eg
theorem ig{m:M (D×D)}(h:E2 K X a b m)(hs:ath b):ER K X (.Subscript a b pos) (mOp gIx m):=ER.mk fun hk=>by
 obtain⟨ta,tb,ha,hb,h⟩:=h hk;exact PE.imp (a6i (ixd hk) ha hb hs) (amj h)
def TOp(K:Fg9)(m:M (Option Int)):TO:=fun σ H Q=>∃tg F ρ o ρ',Good K tg F H ρ σ/\m ρ=some (.ok o,ρ')/\∀H' F',Good K tg F' H' ρ' σ->Ext (Own ρ σ) (Own ρ' σ) F H F' H'->Q o H'
structure EO (K:Fg9) (X:Cx) (e:Option Expr) (m:M (Option Int)):Prop where
 go:X.K=K->PO X e (TOp K m)
instance {K:Fg9} {X:Cx} {e:Option Expr} {m:M (Option Int)}:CoeFun (EO K X e m) fun _=>X.K=K->PO X e (TOp K m):=⟨EO.go⟩
theorem PO.imp{eo:Option Expr}{t t':TO}(h:PO X eo t)(w:∀σ H Q,t' σ H Q->t σ H Q):PO X eo t':=fun zv s σ H Q I q=>h zv s σ H Q I (w σ H Q q)
theorem agg:EO K X none (ret none):=EO.mk fun _=>PO.imp axw fun σ H Q hq0=>by
 obtain⟨tg,F,ρ,o,ρ',G,em,q⟩:=hq0;obtain⟨rfl,rfl⟩:=kj em;exact q H F G (Ext.refl _ _ _)
noncomputable def asI:D->Option Int
 | .int i=>some i
 | _=>none
theorem anm{d:D}{k:Int}(h:asI d=some k):d=.int k:=by
 cases d with
 | int b=>cases h;rfl
 | _=>cases h
def ah9(m:M D):M (Option Int):=m.bind fun d=>lift ((asI d).map some)
theorem acu{m:M D}(h:EV K X e m):EO K X (some e) (ah9 m):=EO.mk fun hk=>PO.imp (axv (h hk)) fun σ H Q hq0=>by
 obtain⟨tg,F,ρ,o,ρ',G,em,q⟩:=hq0;obtain⟨d,ρ1,e1,em⟩:=bf em;obtain⟨e2,rfl⟩:=gr em;refine⟨tg,F,ρ,d,_,G,e1,fun v H' F' G' x r =>?_⟩
 cases d with
 | int i =>
  cases e2;cases r;exact⟨i,rfl,q H' F' G' x⟩
 | _=>cases e2
noncomputable def cutD(l:List D)(lo hi:Option Int):List D:=(l.drop (HT.sIx l.length 0 lo)).take (HT.sIx l.length l.length hi - HT.sIx l.length 0 lo)
theorem asq{F:Hp}{l:List D}{vs:List V}(h:IsL K F l vs)(lo hi:Option Int):IsL K F (cutD l lo hi) (cutV vs lo hi):=by
 unfold cutD cutV;rw[h.length];exact(h.drop _).take _
noncomputable def gCut(d:D)(lo hi:Option Int):Option Rv:=match d with
 | .tup l=>some (.v (.tup (cutD l lo hi)))
 | .lst l=>some (.fr (cutD l lo hi))
 | .kst l=>some (.fr (cutD l lo hi))
 | _=>none
def rsOf(K:Fg9):V->Option Int->Option Int->Hp->VK->Prop:=fun x lo hi H Q=>∃tg F ρ σ d r,Good K tg F H ρ σ/\Bor K F H d x/\gCut d lo hi=some r/\Res K tg F H ρ σ r Q
theorem sld(hk:X.K=K):SlR X (rsOf K):=by
 intro zv s σ0 H x v vl vu lo hi sl Q I rx hs pl pu ⟨tg,F,ρ,σ,d,r,G,bd,eg,q⟩;subst hk;cases d with
 | tup l =>
  cases eg;obtain⟨a,vs,rfl,ea,hl⟩:=bd.tup
  by_cases hw:HT.sIx vs.length 0 lo=0/\HT.sIx vs.length vs.length hi=vs.length
  ·have ec:cutD l lo hi=l:=by
    unfold cutD;rw[hl.length,hw.1,hw.2,xR,Nat.sub_zero,<-hl.length,wL]
   rw[ec] at q;cases rx;obtain⟨its,r,ht,hz⟩:=I.tuple (SqT.of (G.sub _ _ ea));have hlen:its.toArray.size=vs.length:=by rw[aR];exact r.length.symm
   refine⟨"tuple", _,dY.lookup,ht.typeIs,?_⟩;exact acn ht hs pl pu (by rw[hlen];exact hw.1) (by rw[hlen];exact hw.2) ⟨.ref a,H,I,rfl,Res.same G q (.tup ea hl)⟩
  ·exact a0g zv s σ0 H _ v vl vu lo hi sl Q I rx hs pl pu ⟨a,vs,rfl,SqT.of (G.sub _ _ ea),hw,fun p hp=>Res.tup G q (asq hl lo hi) hp⟩
 | lst l =>
  cases eg;obtain⟨a,vs,rfl,ea,hl⟩:=bd.lst G.sub;exact ap7 zv s σ0 H _ v vl vu lo hi sl Q I rx hs pl pu ⟨a,vs,rfl,SqL.of ea,fun p hp=>Res.lst G q (asq hl lo hi) hp⟩
 | kst l =>
  cases eg;obtain⟨a,vs,rfl,ea,hl⟩:=bd.kst;exact ap7 zv s σ0 H _ v vl vu lo hi sl Q I rx hs pl pu ⟨a,vs,rfl,L2.Same.seq G.sub ea,fun p hp=>Res.lst G q (asq hl lo hi) hp⟩
 | _=>cases eg
def mCut(m:M D)(ml mh:M (Option Int)):M Rv:=m.bind fun d=>ml.bind fun lo=>mh.bind fun hi=>lift (gCut d lo hi)
def aox(i:Nat)(ml mh:M (Option Int)):M Rv:=(dw i).bind fun _=>ml.bind fun lo=>mh.bind fun hi=>(dw i).bind fun d=>lift (gCut d lo hi)
theorem awx{m:M D}{ml mh:M (Option Int)}{lo hi:Option Expr}(h:EV K X a m)(hl:EO K X lo ml)(hh:EO K X hi mh):ER K X (.Subscript a (.Slice lo hi none p2) pos) (mCut m ml mh):=ER.mk fun hk=>PE.imp (amf (sld hk) (h hk) (hl hk) (hh hk)) fun σ H Q hq0=>by
 obtain⟨tg,F,ρ,r,ρ',G,em,q⟩:=hq0;obtain⟨d,ρ1,e1,em⟩:=bf em;obtain⟨o1,ρ2,e2,em⟩:=bf em;obtain⟨o2,ρ3,e3,em⟩:=bf em;obtain⟨e4,rfl⟩:=gr em;refine⟨tg,F,ρ,d,ρ1,G,e1,fun v H1 F1 G1 x1 r1=>⟨tg,F1,ρ1,o1,ρ2,G1,e2,fun H2 F2 G2 x2=>⟨tg,F2,ρ2,o2,_,G2,e3,fun H3 F3 G3 x3 =>?_⟩⟩⟩
 exact⟨tg,F3,_,σ,d,r,G3,.inl ((r1.mono x2.sub).mono x3.sub),e4,fun v' H4 F4 G4 x4 rr=>q v' H4 F4 G4 (((x1.trans x2).trans x3).trans x4) (p6 ((x1.trans x2).trans x3) rr)⟩
theorem aii{i:Nat}{ml mh:M (Option Int)}{lo hi:Option Expr}(h:PE X a (tVar i))(hl:EO K X lo ml)(hh:EO K X hi mh):ER K X (.Subscript a (.Slice lo hi none p2) pos) (aox i ml mh):=ER.mk fun hk=>PE.imp (amf (sld hk) h (hl hk) (hh hk)) fun σ H Q hq0=>by
 obtain⟨tg,F,ρ,r,ρ',G,em,q⟩:=hq0;obtain⟨d0,ρ0,e0,em⟩:=bf em;obtain⟨o1,ρ2,e2,em⟩:=bf em;obtain⟨o2,ρ3,e3,em⟩:=bf em;obtain⟨d,ρ4,e1,em⟩:=bf em;obtain⟨e4,rfl⟩:=gr em;obtain⟨rfl,v,hv,_⟩:=ue G e0;refine⟨v,hv,tg,F,ρ0,o1,ρ2,G,e2,fun H2 F2 G2 x2=>⟨tg,F2,ρ2,o2,_,G2,e3,fun H3 F3 G3 x3 =>?_⟩⟩
 obtain⟨rfl,v',hv',b'⟩:=ue G3 e1;rw[hv] at hv';cases hv';exact⟨tg,F3,_,σ,d,r,G3,b',e4,fun v' H4 F4 G4 x4 rr=>q v' H4 F4 G4 ((x2.trans x3).trans x4) (p6 (x2.trans x3) rr)⟩
end
inductive Fl where
 | nx | ret (r:Rv) | brk | cont | exc (x:Exn)
abbrev Sd:=Ro->Option (Fl×Ro)
section
variable{K:Fg9}{X:Cx}{e a b c tgt:Expr}{es:List Expr}{pos p p2:Pos}{st:Stmt}{ss:List Stmt}
def FlOk(K:Fg9)(tg:Nat->Addr)(ρ:Ro)(σ:L2.St)(F H:Hp)(E:Ends)(fl:Fl)(ρ':Ro):Prop:=match fl with
 | .nx=>∀σ' H' F',Good K tg F' H' ρ' σ'->Ext (Own ρ σ) (Own ρ' σ') F H F' H'->E.nx σ' H'
 | .brk=>∀σ' H' F',Good K tg F' H' ρ' σ'->Ext (Own ρ σ) (Own ρ' σ') F H F' H'->E.bk σ' H'
 | .cont=>∀σ' H' F',Good K tg F' H' ρ' σ'->Ext (Own ρ σ) (Own ρ' σ') F H F' H'->E.ct σ' H'
 | .ret r=>∀v σ' H' F',Good K tg F' H' ρ' σ'->Ext (Own ρ σ) (Own ρ' σ') F H F' H'->relR K r v H (Own ρ σ) F' H' (Own ρ' σ')->E.rt v H'
 | .exc _=>False
def TSd(K:Fg9)(g:Sd):TS:=fun E σ H=>∃tg F ρ fl ρ',Good K tg F H ρ σ/\g ρ=some (fl,ρ')/\FlOk K tg ρ σ F H E fl ρ'
structure SV (K:Fg9) (X:Cx) (st:Stmt) (g:Sd):Prop where
 go:X.K=K->PS X st (TSd K g)
instance {K:Fg9} {X:Cx} {st:Stmt} {g:Sd}:CoeFun (SV K X st g) fun _=>X.K=K->PS X st (TSd K g):=⟨SV.go⟩
structure SVs (K:Fg9) (X:Cx) (ss:List Stmt) (g:Sd):Prop where
 go:X.K=K->PSs X ss (TSd K g)
instance {K:Fg9} {X:Cx} {ss:List Stmt} {g:Sd}:CoeFun (SVs K X ss g) fun _=>X.K=K->PSs X ss (TSd K g):=⟨SVs.go⟩
theorem PS.imp{t t':TS}(h:PS X st t)(w:∀E σ H,t' E σ H->t E σ H):PS X st t':=fun zv s σ H E I q=>h zv s σ H E I (w E σ H q)
theorem PSs.imp{t t':TS}(h:PSs X ss t)(w:∀E σ H,t' E σ H->t E σ H):PSs X ss t':=fun zv s σ H E I q=>h zv s σ H E I (w E σ H q)
theorem FlOk.back{tg:Nat->Addr}{ρ ρ1 ρ':Ro}{σ σ1:L2.St}{F H F1 H1:Hp}{E:Ends}{fl:Fl}(x:Ext (Own ρ σ) (Own ρ1 σ1) F H F1 H1)(h:FlOk K tg ρ σ F H E fl ρ'):FlOk K tg ρ1 σ1 F1 H1 E fl ρ':=by
 cases fl with
 | nx=>exact fun σ' H' F' G' x'=>h σ' H' F' G' (x.trans x')
 | brk=>exact fun σ' H' F' G' x'=>h σ' H' F' G' (x.trans x')
 | cont=>exact fun σ' H' F' G' x'=>h σ' H' F' G' (x.trans x')
 | ret r=>exact fun v σ' H' F' G' x' rr=>h v σ' H' F' G' (x.trans x') (p6 x rr)
 | exc _=>exact h
def dNx:Sd:=fun ρ=>some (.nx,ρ)
def dBrk:Sd:=fun ρ=>some (.brk,ρ)
def a8g:Sd:=fun ρ=>some (.cont,ρ)
noncomputable def dSeq(g k:Sd):Sd:=fun ρ=>match g ρ with
 | some (.nx,ρ1)=>k ρ1
 | r=>r
theorem jr:SVs K X [] dNx:=SVs.mk fun _=>PSs.imp axq fun E σ H hq0=>by
 obtain⟨tg,F,ρ,fl,ρ',G,em,q⟩:=hq0;cases em;exact q σ H F G (Ext.refl _ _ _)
theorem au{g:Sd}(h:SV K X st g):SVs K X [st] g:=SVs.mk fun hk=>aqj (h hk)
theorem ak{g k:Sd}(h:SV K X st g)(t:SVs K X ss k):SVs K X (st::ss) (dSeq g k):=SVs.mk fun hk=>PSs.imp (aub (h hk) (t hk)) fun E σ H hq0=>by
 obtain⟨tg,F,ρ,fl,ρ',G,em,q⟩:=hq0;unfold dSeq at em;split at em
 ·rename_i ρ1 e1;exact⟨tg,F,ρ,.nx,ρ1,G,e1,fun σ' H' F' G' x=>⟨tg,F',ρ1,fl,ρ',G',em,q.back x⟩⟩
 ·rename_i hn;refine⟨tg,F,ρ,fl,ρ',G,em,?_⟩;cases fl with
  | nx=>exact absurd em (hn ρ')
  | brk=>exact q
  | cont=>exact q
  | ret r=>exact q
  | exc _=>exact q
noncomputable def dM{α:Type}(m:M α)(k:α->Sd):Sd:=fun ρ=>match m ρ with
 | some (.ok x,ρ1)=>k x ρ1
 | some (.exc x,ρ1)=>some (.exc x,ρ1)
 | none=>none
theorem xn{α:Type}{m:M α}{k:α->Sd}{ρ ρ':Ro}{fl:Fl}{P:Prop}(h:dM m k ρ=some (fl,ρ'))(hx:FlOk K tg ρ0 σ0 F0 H0 E0' fl ρ')(go:∀x ρ1,m ρ=some (.ok x,ρ1)->k x ρ1=some (fl,ρ')->P):P:=by
 unfold dM at h;split at h
 ·exact go _ _ (by assumption) h
 ·cases h;exact(show False from hx).elim
 ·cases h
noncomputable def dRet(m:M Rv):Sd:=dM m fun r ρ=>some (.ret r,ρ)
theorem f9{m:M Rv}(h:ER K X e m):SV K X (.Return (some e) pos) (dRet m):=SV.mk fun hk=>PS.imp (a0u (h hk)) fun E σ H ⟨tg,F,ρ,fl,ρ',G,em,q⟩=>xn em q fun r ρ1 e1 em=>by
 cases em;exact⟨tg,F,ρ,r,_,G,e1,fun v H' F' G' x rr=>q v σ H' F' G' x rr⟩
noncomputable def dIf(m:M Bool)(g k:Sd):Sd:=dM m fun z=>if z=true then g else k
theorem vp{m:M Bool}{g k:Sd}{ss':List Stmt}(h:ET K X c m)(h1:SVs K X ss g)(h2:SVs K X ss' k):SV K X (.If c ss ss' pos) (dIf m g k):=SV.mk fun hk=>PS.imp (a6e (h hk) (h1 hk) (h2 hk)) fun E σ H ⟨tg,F,ρ,fl,ρ',G,em,q⟩=>xn em q fun z ρ1 e1 em=>by
 refine⟨tg,F,ρ,z,ρ1,G,e1,fun H' F' G' x =>?_⟩
 cases z with
 | true=>exact iteT ⟨tg,F',ρ1,fl,ρ',G',em,q.back x⟩
 | false=>exact iteF ⟨tg,F',ρ1,fl,ρ',G',em,q.back x⟩
def ae6{α:Type}(m:M α):Sd:=dM m fun _ ρ=>some (.nx,ρ)
theorem wg{m:M Rv}(h:ER K X e m)(hs:lO e none pos.line X.env=pure false:=by rfl):SV K X (.Expr e pos) (ae6 m):=SV.mk fun hk=>PS.imp (axt (h hk) hs) fun E σ H ⟨tg,F,ρ,fl,ρ',G,em,q⟩=>xn em q fun r ρ1 e1 em=>by
 cases em;exact⟨tg,F,ρ,r,_,G,e1,fun v H' F' G' x rr=>q σ H' F' G' x⟩
section
variable{tg:Nat->Addr}{F H:Hp}{ρ:Ro}{σ:L2.St}
theorem akt{i:Nat}{s:Sl}{v:V}{b:Addr}(hl:ρ.length=σ.length)(h:Own (bT ρ i s) (bT σ i (some v)) b):Own ρ σ b∨((∃t l,s=.own t l)/\v=.ref b):=by
 obtain⟨j,⟨t,l,e⟩,q⟩:=h;rw[bO] at e q
 by_cases hj:i=j
 ·subst hj;rw[if_pos rfl] at e q;split at e
  ·rename_i hi;rw[if_pos (by rw[<-hl];exact hi)] at q
   cases e;cases q;exact .inr ⟨⟨t,l,rfl⟩,rfl⟩
  ·cases e
 ·rw[if_neg hj] at e q;exact .inl ⟨j,⟨t,l,e⟩,q⟩
theorem Good.put(G:Good K tg F H ρ σ){s:Sl}{v:V}(i:Nat)(h:SlOk K tg F H s (some v))(n:∀t l a,s=.own t l->v=.ref a->¬Own ρ σ a):Good K tg F H (bT ρ i s) (bT σ i (some v)) where
 sub:=G.sub
 len:=by rw[eQ,eQ];exact G.len
 sl:=fun j s' o e q=>by
  rw[bO] at e q
  by_cases hj:i=j
  ·subst hj;rw[if_pos rfl] at e q;split at e
   ·rename_i hi;rw[if_pos (by rw[<-G.len];exact hi)] at q
    cases e;cases q;exact h
   ·cases e
  ·rw[if_neg hj] at e q;exact G.sl j s' o e q
 inj:=fun j k a ⟨⟨t,l,e⟩,q⟩ ⟨⟨t',l',e'⟩,q'⟩=>by
  rw[bO] at e q e' q'
  by_cases hj:i=j
  ·subst hj;rw[if_pos rfl] at e q
   by_cases hk:i=k
   ·exact hk
   ·rw[if_neg hk] at e' q';split at e
    ·rename_i hi;rw[if_pos (by rw[<-G.len];exact hi)] at q
     cases e;cases q;exact absurd ⟨k,⟨t',l',e'⟩,q'⟩ (n t l a rfl rfl)
    ·cases e
  ·rw[if_neg hj] at e q
   by_cases hk:i=k
   ·subst hk;rw[if_pos rfl] at e' q';split at e'
    ·rename_i hi;rw[if_pos (by rw[<-G.len];exact hi)] at q'
     cases e';cases q';exact absurd ⟨j,⟨t,l,e⟩,q⟩ (n t' l' a rfl rfl)
    ·cases e'
   ·rw[if_neg hk] at e' q';exact G.inj j k a ⟨⟨t,l,e⟩,q⟩ ⟨⟨t',l',e'⟩,q'⟩
noncomputable def Rv.sl:Rv->Sl
 | .v d=>.val d
 | .fr l=>.own none l
 | .tf _ _=>.emp
theorem Good.store{F0 H0:Hp}{O:Addr->Prop}(G:Good K tg F H ρ σ)(x:Ext O (Own ρ σ) F0 H0 F H){r:Rv}{v:V}(i:Nat)(h:relR K r v H0 O F H (Own ρ σ)) :
  Good K tg F H (bT ρ i r.sl) (bT σ i (some v))/\Ext O (Own (bT ρ i r.sl) (bT σ i (some v))) F0 H0 F H:=by
 cases r with
 | v d =>
  refine⟨G.put i ⟨v,rfl,h⟩ (fun t l a e=>by cases e),x.sub,x.new,x.keep,fun b w =>?_,x.there⟩
  rcases akt G.len w with w | ⟨⟨t,l,e⟩,_⟩
  ·exact x.own b w
  ·cases e
 | fr l =>
  obtain⟨a,vs,rfl,ha,hf,hh,hl,hn⟩:=h;refine⟨G.put i ⟨a,vs,rfl,hf,hh,hl,fun k e=>by cases e⟩ (fun t l' b _ e2=>by cases e2;exact hn),x.sub,x.new,x.keep,fun b w =>?_,x.there⟩
  rcases akt G.len w with w | ⟨_,e⟩
  ·exact x.own b w
  ·cases e;exact ha.symm
 | tf d l =>
  refine⟨G.put i trivial (fun t l a e=>by cases e),x.sub,x.new,x.keep,fun b w =>?_,x.there⟩
  rcases akt G.len w with w | ⟨⟨t,l,e⟩,_⟩
  ·exact x.own b w
  ·cases e
end
def dSet(i:Nat)(m:M Rv):Sd:=dM m fun r ρ=>some (.nx,bT ρ i r.sl)
theorem fj{i:Nat}{x:Str}{m:M Rv}(hN:X.N.Nodup)(hi:X.N[i]? = some x)(hx:Loc X.env.scope x)(h:ER K X e m)(hs:lO e (some (.Name x p)) pos.line X.env=pure false:=by rfl)(hf:X.fn x=true∨X.env.scope.names.lookup x=some .local:=by first | exact .inl rfl | exact .inr rfl | assumption) :
  SV K X (.Assign [.Name x p] e pos) (dSet i m):=SV.mk fun hk=>PS.imp (a0t hN hi hx (h hk) hs hf) fun E σ H ⟨tg,F,ρ,fl,ρ',G,em,q⟩=>xn em q fun r ρ1 e1 em=>by
 cases em;refine⟨tg,F,ρ,r,ρ1,G,e1,fun v H' F' G' x rr =>?_⟩
 obtain⟨G2,x2⟩:=G'.store x i rr;exact q _ H' F' G2 x2
def TGd(K:Fg9)(b:D->Ro->Option Ro):TG:=fun v σ H Q=>∃tg F ρ d ρ',Good K tg F H ρ σ/\Is K F d v/\b d ρ=some ρ'/\∀σ' H' F',Good K tg F' H' ρ' σ'->Ext (Own ρ σ) (Own ρ' σ') F H F' H'->Q σ' H'
structure GV (K:Fg9) (X:Cx) (e:Expr) (b:D->Ro->Option Ro):Prop where
 go:X.K=K->PG X e (TGd K b)
instance {K:Fg9} {X:Cx} {e:Expr} {b:D->Ro->Option Ro}:CoeFun (GV K X e b) fun _=>X.K=K->PG X e (TGd K b):=⟨GV.go⟩
theorem PG.imp{t t':TG}(h:PG X e t)(w:∀v σ H Q,t' v σ H Q->t v σ H Q):PG X e t':=fun zv s σ H v u Q I r q=>h zv s σ H v u Q I r (w v σ H Q q)
def cj(i:Nat):D->Ro->Option Ro:=fun d ρ=>some (bT ρ i (.val d))
theorem Good.storeV{tg:Nat->Addr}{F H:Hp}{ρ:Ro}{σ:L2.St}(G:Good K tg F H ρ σ){d:D}{v:V}(i:Nat)(h:Is K F d v):Good K tg F H (bT ρ i (.val d)) (bT σ i (some v))/\Ext (Own ρ σ) (Own (bT ρ i (.val d)) (bT σ i (some v))) F H F H :=
 G.store (r:=.v d) (Ext.refl _ _ _) i h
theorem cu{i:Nat}{x:Str}(hN:X.N.Nodup)(hi:X.N[i]? = some x)(hx:Loc X.env.scope x)(hf:X.fn x=true∨X.env.scope.names.lookup x=some .local:=by first | exact .inl rfl | exact .inr rfl | assumption):GV K X (.Name x pos) (cj i):=GV.mk fun _=>PG.imp (ax3 hN hi hx hf) fun v σ H Q hq0=>by
 obtain⟨tg,F,ρ,d,ρ',G,h,em,q⟩:=hq0;cases em;obtain⟨G2,x2⟩:=G.storeV i h;exact q _ H F G2 x2
def TGsd(K:Fg9)(b:List D->Ro->Option Ro):TGs:=fun vs σ H Q=>∃tg F ρ ds ρ',Good K tg F H ρ σ/\IsL K F ds vs/\b ds ρ=some ρ'/\∀σ' H' F',Good K tg F' H' ρ' σ'->Ext (Own ρ σ) (Own ρ' σ') F H F' H'->Q σ' H'
structure GVs (K:Fg9) (X:Cx) (es:List Expr) (b:List D->Ro->Option Ro):Prop where
 go:X.K=K->PGs X es (TGsd K b)
instance {K:Fg9} {X:Cx} {es:List Expr} {b:List D->Ro->Option Ro}:CoeFun (GVs K X es b) fun _=>X.K=K->PGs X es (TGsd K b):=⟨GVs.go⟩
theorem PGs.imp{t t':TGs}(h:PGs X es t)(w:∀v σ H Q,t' v σ H Q->t v σ H Q):PGs X es t':=fun zv s σ H v u Q I r q=>h zv s σ H v u Q I r (w v σ H Q q)
def bNil:List D->Ro->Option Ro:=fun ds ρ=>match ds with
 | []=>some ρ
 | _=>none
noncomputable def jm(b:D->Ro->Option Ro)(bs:List D->Ro->Option Ro):List D->Ro->Option Ro:=fun ds ρ=>match ds with
 | d::r=>(b d ρ).bind (bs r)
 | _=>none
theorem wu:GVs K X [] bNil:=GVs.mk fun _=>PGs.imp ax2 fun vs σ H Q hq0=>by
 obtain⟨tg,F,ρ,ds,ρ',G,h,em,q⟩:=hq0;cases ds with
 | nil=>cases em;cases h;exact⟨rfl,q σ H F G (Ext.refl _ _ _)⟩
 | cons _ _=>cases em
theorem iu{b:D->Ro->Option Ro}{bs:List D->Ro->Option Ro}(h1:GV K X e b)(h2:GVs K X es bs)(hs:(iQ (e::es) X.env).map (·.2)=oY e X.env::(iQ es X.env).map (·.2):=by rfl):GVs K X (e::es) (jm b bs):=GVs.mk fun hk=>PGs.imp (auf (h1 hk) (h2 hk) hs) fun vs σ H Q hq0=>by
 obtain⟨tg,F,ρ,ds,ρ',G,h,em,q⟩:=hq0;cases h with
 | nil=>cases em
 | @cons d v ds vs hd ht =>
  have em:(b d ρ).bind (bs ds)=some ρ':=em;cases e1:b d ρ with
  | none=>rw[e1] at em;cases em
  | some ρ1 =>
   rw[e1] at em;exact⟨v,vs,rfl,tg,F,ρ,d,ρ1,G,hd,e1,fun σ' H' F' G' x=>⟨tg,F',ρ1,ds,ρ',G',ht.mono x.sub,em,fun σ2 H2 F2 G2 x2=>q σ2 H2 F2 G2 (x.trans x2)⟩⟩
noncomputable def bTup(n:Nat)(bs:List D->Ro->Option Ro):D->Ro->Option Ro:=fun d ρ=>match d with
 | .tup l=>if l.length=n then bs l ρ else none
 | _=>none
theorem aa1{k n:Nat}{bs:List D->Ro->Option Ro}(hc:X.calm=true)(h:GVs K X es bs)(hn:(iQ es X.env).length=n:=by rfl)(hst:(iQ es X.env).findIdx? (·.1)=none:=by rfl):GV K X (.Tuple es k pos) (bTup n bs):=GV.mk fun hk=>PG.imp (a0y hc (h hk) hn hst) fun v σ H Q hq0=>by
 obtain⟨tg,F,ρ,d,ρ',G,hd,em,q⟩:=hq0;cases hd with
 | @tup a vs ds e hl =>
  have em:(if ds.length=n then bs ds ρ else none)=some ρ':=em
  split at em
  ·rename_i hz;exact⟨a,vs,rfl,SqT.of (G.sub _ _ e),by rw[<-hl.length];exact hz,tg,F,ρ,ds,ρ',G,hl,em,q⟩
  ·cases em
 | _=>cases em
def dAsg(m:M D)(b:D->Ro->Option Ro):Sd:=dM m fun d ρ=>(b d ρ).map fun ρ'=>(.nx,ρ')
theorem al5{m:M D}{b:D->Ro->Option Ro}(h:EV K X e m)(hg:GV K X tgt b)(hs:swapsWithSole [tgt] e pos.line X.env=pure false:=by rfl)(hw:swappedStores [tgt] e X.env=pure none:=by rfl)
  (h1:(iQ [tgt] X.env).map (·.2)=[oY tgt X.env]:=by rfl):SV K X (.Assign [tgt] e pos) (dAsg m b):=SV.mk fun hk=>PS.imp (awg (h hk) (hg hk) hs hw h1) fun E σ H ⟨tg,F,ρ,fl,ρ',G,em,q⟩=>xn em q fun d ρ1 e1 em=>by
 refine⟨tg,F,ρ,d,ρ1,G,e1,fun v H' F' G' x r =>?_⟩
 cases e2:b d ρ1 with
 | none=>rw[e2] at em;cases em
 | some ρ2 =>
  rw[e2] at em;cases em;exact⟨tg,F',ρ1,d,_,G',r,e2,fun σ2 H2 F2 G2 x2=>q σ2 H2 F2 G2 (x.trans x2)⟩
def dPar(i j:Nat)(m:M (List D)):Sd:=dM m fun ds ρ=>match ds with
 | [d,d']=>some (.nx,bT (bT ρ i (.val d)) j (.val d'))
 | _=>none
theorem awd{i j:Nat}{x y:Str}{px py pt:Pos}{kt k2 pt2}{m:M (List D)}(hc:X.calm=true)(hN:X.N.Nodup)(hi:X.N[i]? = some x)(hj:X.N[j]? = some y)(hij:i≠j)
  (hx:X.env.scope.names.lookup x=some .local) (hy:X.env.scope.names.lookup y=some .local) (h:ED K X [a,b] m)
  (hw:swappedStores [.Tuple [.Name x px,.Name y py] kt pt] (.Tuple [a,b] k2 pt2) X.env=pure (some [x,y]):=by rfl)
  (hs:swapsWithSole [.Tuple [.Name x px,.Name y py] kt pt] (.Tuple [a,b] k2 pt2) pos.line X.env=pure false:=by rfl) :
  SV K X (.Assign [.Tuple [.Name x px,.Name y py] kt pt] (.Tuple [a,b] k2 pt2) pos) (dPar i j m):=SV.mk fun hk=>PS.imp (a0v hc hN hi hj hij hx hy (h hk) hw hs) fun E σ H ⟨tg,F,ρ,fl,ρ',G,em,q⟩=>xn em q fun ds ρ1 e1 em=>by
 refine⟨tg,F,ρ,ds,ρ1,G,e1,fun vs H' F' G' x r =>?_⟩
 match ds,em with
 | [d,d'],em =>
  cases em;cases r with
  | @cons _ v _ _ h1 r =>
   cases r with
   | @cons _ v' _ _ h2 r =>
    cases r;obtain⟨G2,x2⟩:=G'.storeV i h1;obtain⟨G3,x3⟩:=G2.storeV j h2;exact⟨v,v',rfl,q _ H' F' G3 ((x.trans x2).trans x3)⟩
theorem Good.mut{tg:Nat->Addr}{F H:Hp}{ρ:Ro}{σ:L2.St}(G:Good K tg F H ρ σ){i:Nat}{t:Option Nat}{l l':List D}{a:Addr}{ys:List V}(e:(ρ:List Sl)[i]? = some (.own t l))(q:σ[i]? = some (some (.ref a)))(h:IsL K F l' ys) :
  Good K tg F (upd H a (.lst ys)) (bT ρ i (.own t l')) σ/\Ext (Own ρ σ) (Own (bT ρ i (.own t l')) σ) F H F (upd H a (.lst ys)):=by
 obtain⟨a',vs,e1,hf,hh,hl,ht⟩:=G.sl i _ _ e q;cases e1;have ow:∀j b,Owns (bT ρ i (.own t l')) σ j b->Owns ρ σ j b:=fun j b ⟨⟨t2,l2,e2⟩,q2⟩=>by
  rw[bO] at e2
  by_cases hj:i=j
  ·subst hj;exact⟨⟨t,l,e⟩,q2⟩
  ·rw[if_neg hj] at e2;exact⟨⟨t2,l2,e2⟩,q2⟩
 have me:Own ρ σ a:=⟨i,⟨t,l,e⟩,q⟩;refine⟨⟨fun b o z =>?_,by rw[eQ];exact G.len,fun j s o e2 q2 =>?_,fun j k b w1 w2=>G.inj j k b (ow _ _ w1) (ow _ _ w2)⟩,Same.refl F,fun _ _ z=>.inl z,fun b o z n =>?_,fun b ⟨j,w⟩=>.inl ⟨j,ow j b w⟩,fun b z =>?_⟩
 ·have hb:b≠a:=fun z2=>by
   subst z2;rw[hf] at z;cases z
  rw[dj hb];exact G.sub b o z
 ·rw[bO] at e2
  by_cases hj:i=j
  ·subst hj;rw[if_pos rfl] at e2;split at e2
   ·cases e2;rw[q] at q2;cases q2;exact⟨a,ys,rfl,hf,gq,h,ht⟩
   ·cases e2
  ·rw[if_neg hj] at e2;have z:=G.sl j s o e2 q2;cases s with
   | emp=>trivial
   | val d=>exact z
   | box c fs =>
    obtain⟨b,C,dx,fvs,e1,e2,e3,e4⟩:=z;have hb:b≠a:=fun z2=>by
     subst z2;rw[e3] at hh;cases hh
    exact⟨b,C,dx,fvs,e1,e2,by rw[dj hb];exact e3,e4⟩
   | own t2 l2 =>
    obtain⟨b,ws,e3,hf3,hh3,hl3,ht3⟩:=z;have hb:b≠a:=fun z2=>by
     subst z2;exact hj (G.inj i j b ⟨⟨t,l,e⟩,q⟩ ⟨⟨t2,l2,e2⟩,by rw[q2,e3]⟩)
    exact⟨b,ws,e3,hf3,by rw[dj hb];exact hh3,hl3,ht3⟩
 ·have hb:b≠a:=fun z2=>n (z2▸me)
  rw[dj hb];exact z
 ·by_cases hb:b=a
  ·subst hb;rw[gq] at z;cases z
  ·rw[dj hb] at z;exact z
noncomputable def mOwn(i:Nat):M (List D):=fun ρ=>match ρ[i]? with
 | some (.own _ l)=>some (.ok l,ρ)
 | _=>none
theorem afw{tg:Nat->Addr}{F H:Hp}{ρ ρ':Ro}{σ:L2.St}(G:Good K tg F H ρ σ){i:Nat}{l:List D}(em:mOwn i ρ=some (.ok l,ρ')):ρ'=ρ/\∃t a xs,(ρ:List Sl)[i]? = some (.own t l)/\σ[i]? = some (some (.ref a))/\H a=some (.lst xs)/\IsL K F l xs:=by
 unfold mOwn at em;split at em
 ·rename_i t l' e';cases em;obtain⟨o,ho,a,vs,rfl,hf,hh,hl,_⟩:=G.at e';exact⟨rfl,t,a,vs,e',ho,hh,hl⟩
 ·cases em
noncomputable def adh(i:Nat)(l':List D):M Unit:=fun ρ=>match ρ[i]? with
 | some (.own t _)=>some (.ok (),bT ρ i (.own t l'))
 | _=>none
def mMut(i:Nat)(g:List D->List D->Option (D×List D))(ms:M (List D)):M D:=(mOwn i).bind fun _=>ms.bind fun ds=>(mOwn i).bind fun l=>(lift (g l ds)).bind fun r=>(adh i r.2).bind fun _=>ret r.1
def MutD(K:Fg9)(r:V->List V->Hp->VK->Prop)(g:List D->List D->Option (D×List D)):Prop :=
 ∀(F H:Hp) (a:Addr) (xs vs:List V) (l ds:List D) (d:D) (l':List D) (Q:VK),Same F H->H a=some (.lst xs)->xs.length<=capS->IsL K F l xs->IsL K F ds vs->g l ds=some (d,l')->(∀v ys,Is K F d v->IsL K F l' ys->Q v (upd H a (.lst ys)))->r (.ref a) vs H Q
theorem ak6{tg:Nat->Addr}{F H:Hp}{ρ ρ2:Ro}{σ:L2.St}(G:Good K tg F H ρ σ){i:Nat}{l':List D}{u:Unit}{a:Addr}{ys:List V}(e:adh i l' ρ=some (.ok u,ρ2))(q:σ[i]? = some (some (.ref a)))(h:IsL K F l' ys) :
  Good K tg F (upd H a (.lst ys)) ρ2 σ/\Ext (Own ρ σ) (Own ρ2 σ) F H F (upd H a (.lst ys)):=by
 unfold adh at e;split at e
 ·rename_i t l e';cases e;exact G.mut e' q h
 ·cases e
theorem ajw{i:Nat}{name:Str}{id:String}{r:V->List V->Hp->VK->Prop}{g:List D->List D->Option (D×List D)}{ms:M (List D)}{apos cpos:Pos}(hr:MutD K r g)(slot:Slot "list" name id)(hty:typeOf (.builtin id)=pure (.type "method_descriptor"))(hm:MtR X id r)(ho:PE X a (tVar i))(ha:ED K X (e::es) ms)
  (hbase:attributeBase a name X.env (eval a X.env)=eval a X.env:=by rfl)
  (hfew:((iG cpos (aQ (e::es) X.env)).all (fun x => !x.1)&&(backToKw cpos (keywordEach [] X.env)).all (fun x=>x.1.isSome)
   && decide ((e::es).length+([]:List pF).length+(if ([]:List pF).isEmpty then 0 else 1) < 30))=true:=by rfl)
  (hline:(apos.endLine==cpos.line)=true:=by rfl) (hs:aQ (e::es) X.env=(false,eval e X.env)::aQ es X.env:=by rfl) (hplain:(iG cpos (aQ es X.env)).any (·.1)=false:=by rfl) :
  EV K X (.Call (.Attribute a name apos) (e::es) [] cpos) (mMut i g ms):=EV.mk fun hk=>by
 intro zv s σ H Q I ⟨tg,F,ρ,d,ρ',G,em,q⟩;obtain⟨l0,ρ0,e0,em1⟩:=bf em;obtain⟨ds,ρ1,e1,em2⟩:=bf em1;obtain⟨l,ρ2,e2,em3⟩:=bf em2;obtain⟨x,ρ3,e3,em4⟩:=bf em3;obtain⟨u,ρ4,e4,em5⟩:=bf em4;obtain⟨rfl,rfl⟩:=kj em5;obtain⟨eg,rfl⟩:=gr e3;obtain⟨rfl,t0,b,xs0,es0,hv,hh0,hl0⟩:=afw G e0;refine aul (r:=fun x vs H Q=>(∀b xs,x=.ref b->H b=some (.lst xs)->xs.length<=capS)->r x vs H Q) nP slot hty (fun zv s σ H x xs v us Q I rx rv h=>hm zv s σ H x xs v us Q I rx rv (h fun b xs _ hb =>?_)) ho (ha hk) hbase hfew hline hs hplain zv s σ H Q I ?_
 ·obtain⟨z,_⟩:=I.lstM hb;rw[gM] at z;exact z
 refine⟨_,hv,.inl ⟨rfl,_,SqL.of hh0⟩,tg,F,ρ0,ds,ρ1,G,e1,fun vs H1 F1 G1 x1 r1 cap =>?_⟩
 obtain⟨rfl,t,a',xs,es',hv',hh,hl⟩:=afw G1 e2;rw[hv] at hv';cases hv';refine hr F1 H1 _ xs vs l ds x.1 x.2 Q G1.sub hh (cap _ _ rfl hh) hl r1 eg fun w ys iw il =>?_
 obtain⟨G2,x2⟩:=ak6 G1 e4 hv il;exact q w _ F1 G2 (x1.trans x2) iw
noncomputable def acq(l ds:List D):Option (D×List D):=match ds with
 | [d]=>if l.length < capS then some (.non,l++[d]) else none
 | _=>none
theorem aae:MutD K aqg acq:=by
 intro F H a xs vs l ds d l' Q g hh hc hl hd eg q
 match ds,eg with
 | [d1],eg =>
  have eg:(if l.length < capS then some (D.non,l++[d1]) else none)=some (d,l'):=eg
  split at eg
  ·rename_i hz;cases eg;cases hd with
   | cons h t =>
    cases t;exact⟨a,xs,_,rfl,rfl,hh,by rw[gM,<-hl.length];exact hz,q _ _ .non (hl.append (.cons h .nil))⟩
  ·cases eg
def dSub(i:Nat)(mi m:M D):Sd:=dM m fun d=>dM (mOwn i) fun _=>dM mi fun k=>dM (mOwn i) fun l=>dM (lift ((asI k).bind (ixN l.length))) fun j=>dM (adh i (l.set j d)) fun _=>dNx
theorem aen{i:Nat}{mi m:M D}(h:EV K X e m)(ho:PE X a (tVar i))(hi:EV K X b mi)(hs:swapsWithSole [.Subscript a b p] e pos.line X.env=pure false:=by rfl)(hw:swappedStores [.Subscript a b p] e X.env=pure none:=by rfl)
  (h1:(iQ [.Subscript a b p] X.env).map (·.2)=[oY (.Subscript a b p) X.env]:=by rfl)
  (ha:∀v,oY (.Subscript a b p) X.env v=(do
   let ov <-mQ [v] (eval a X.env)
   let iv <-mQ [v,ov] (eval b X.env)
   standAt p
   mQ [v,ov,iv] (setItem ov iv v)
   release [v,ov,iv] []):=by intro _;rfl):SV K X (.Assign [.Subscript a b p] e pos) (dSub i mi m):=SV.mk fun hk=>PS.imp (awg (h hk) (a0z ho (hi hk) set_list ha) hs hw h1) fun E σ H ⟨tg,F,ρ,fl,ρ',G,em,q⟩ =>
 xn em q fun d ρ1 e1 em=>xn em q fun l0 ρ0 e0 em=>xn em q fun k ρ2 e2 em=>xn em q fun l ρ3 e3 em=>xn em q fun j ρ4 e4 em=>xn em q fun u ρ5 e5 em=>by
 cases em;obtain⟨e6,rfl⟩:=gr e4;refine⟨tg,F,ρ,d,ρ1,G,e1,fun v H1 F1 G1 x1 r1 =>?_⟩
 obtain⟨rfl,t0,a0,xs0,es0,hv,hh0,hl0⟩:=afw G1 e0;refine⟨_,hv,tg,F1,_,k,ρ2,G1,e2,fun w H2 F2 G2 x2 r2 =>?_⟩
 obtain⟨rfl,t,a1,xs,es1,hv',hh,hl⟩:=afw G2 e3;rw[hv] at hv';cases hv';cases ek:asI k with
 | none=>rw[ek] at e6;cases e6
 | some n =>
  rw[ek] at e6;obtain rfl:=anm ek;cases r2;obtain⟨G3,x3⟩:=ak6 G2 e5 hv (hl.set (r1.mono x2.sub) j);exact⟨_,xs,n,j,rfl,rfl,hh,by rw[<-hl.length];exact e6,q _ _ F2 G3 ((x1.trans x2).trans x3)⟩
def dAug(f:Int->Int->Int)(i:Nat)(m:M D):Sd:=dM (mVar i) fun x=>dM m fun y=>dM (lift ((asI x).bind fun n=>(asI y).map fun k=>D.int (f n k))) fun z ρ=>some (.nx,bT ρ i (.val z))
end
section
variable{K:Fg9}{X:Cx}{e a b c tgt iter elt:Expr}{es:List Expr}{pos p p2:Pos}{st:Stmt}{ss:List Stmt}
theorem _root_.Mn.ItOf.imp{J:It}{xs:List V}{S S':Hp->Prop}(Z:ItOf J xs S)(h:∀H,S' H->S H):ItOf J xs S':=⟨fun i H q=>Z.go i H (h H q),fun i H x H' q=>Z.yld i H x H' (h H q),fun i H q=>Z.stop i H (h H q)⟩
def Alt(K:Fg9)(F:Hp)(d:D)(x:V)(H H':Hp):Prop:=(H'=H/\Is K F d x)∨∃q vs ds,H q=none/\x=.ref q/\H'=upd H q (.tup vs)/\d=.tup ds/\IsL K F ds vs
structure ItD (K:Fg9) (J:It) (l:List D) (F:Hp):Prop where
 go:∀i H,Same F H->i < l.length->J.go i H
 yld:∀i H x H' d,Same F H->J.yld i H x H'->l[i]? = some d->Alt K F d x H H'
 stop:∀H,Same F H->J.stop l.length H
theorem ItD.of{J:It}{l:List D}{vs:List V}{F:Hp}(il:IsL K F l vs)(Z:ItOf J vs fun H2=>Same F H2):ItD K J l F where
 go:=fun i H s hi=>Z.go i H s (by rw[<-il.length];exact hi)
 yld:=fun i H x H' d s y hd=>by
  obtain⟨v,hv,iv⟩:=il.get hd;obtain⟨e,z⟩:=Z.yld i H x H' s y;have:=z (aK.mp hv).1;rw[hv] at this;cases this;exact .inl ⟨e,iv⟩
 stop:=fun H s=>Z.stop _ H s (by rw[<-il.length];exact aN _)
theorem anp{tg:Nat->Addr}{O:Addr->Prop}{F H F1 F2 H2 H3:Hp}{ρ2:Ro}{σ2:L2.St}{d:D}{x:V}(G2:Good K tg F2 H2 ρ2 σ2)(x2:Ext O (Own ρ2 σ2) F H F2 H2)(s2:Same F1 F2)(a:Alt K F1 d x H2 H3) :
  ∃F3,Good K tg F3 H3 ρ2 σ2/\Ext O (Own ρ2 σ2) F H F3 H3/\Same F1 F3/\Is K F3 d x/\Ext (Own ρ2 σ2) (Own ρ2 σ2) F2 H2 F3 H3:=by
 rcases a with⟨rfl,id⟩ | ⟨q,vs,ds,hq,rfl,rfl,rfl,il⟩
 ·exact⟨F2,G2,x2,s2,id.mono s2,Ext.refl _ _ _⟩
 ·have z:=G2.newX hq (.tup vs);exact⟨_,G2.new hq _,x2.trans z,s2.trans z.sub,.tup gq (il.mono (s2.trans z.sub)),z⟩
theorem azb{J:It}{l:List D}{F:Hp}(Z:ItD K J l F){g:TG}{tb:TS}{D':Ends}{σ:L2.St}{H:Hp}(Pv:Nat->L2.St->Hp->Prop)(h0:Pv 0 σ H)(hl:∀i σ H,i<=l.length->Pv i σ H->Same F H)
  (hs:∀i d x σ H H',l[i]? = some d->Pv i σ H->Alt K F d x H H'->g x σ H' fun σ2 H2=>tb { D' with nx:=Pv (i+1),ct:=Pv (i+1),bk:=D'.nx } σ2 H2) (hd:∀σ H,Pv l.length σ H->D'.nx σ H) :
  ∃W:Nat->Nat->L2.St->Hp->Prop,(∃m,W 0 m σ H)/\∀i m σ H,W i m σ H ->
   (J.stop i H/\D'.nx σ H)∨(J.go i H/\∃N:L2.St->Hp->Prop,(∀σ' H',N σ' H'->∃m',m' < m/\W (i+1) m' σ' H')/\∀x H',J.yld i H x H'->g x σ H' fun σ2 H2=>tb { D' with nx:=N,ct:=N,bk:=D'.nx } σ2 H2):=by
 refine⟨fun i m σ H=>m=l.length - i/\i<=l.length/\Pv i σ H,⟨l.length,by simp,gA _,h0⟩,?_⟩
 rintro i m σ H ⟨rfl,hi,p⟩
 have q:=hl i σ H hi p
 by_cases hlt:i < l.length
 ·exact .inr ⟨Z.go i H q hlt,Pv (i+1),fun σ' H' p'=>⟨l.length - (i+1),by omega,rfl,hlt,p'⟩,fun x H' y=>hs i _ x σ H H' (aG hlt) p (Z.yld i H x H' _ q y (aG hlt))⟩
 ·have e:i=l.length:=by omega
  subst e;exact .inl ⟨Z.stop H q,hd σ H p⟩
theorem av0{J:It}{l:List D}{F:Hp}(Z:ItD K J l F){d:Addr}{g:TG}{ti:TT}{te:TE}{Q:VK}{σ0:L2.St}{H1:Hp}(Pv:Nat->List V->L2.St->Hp->Prop)(h0:Pv 0 [] σ0 (upd H1 d (.lst [])))
  (hl:∀i ys σ H,i<=l.length->Pv i ys σ H->Same F H/\H d=some (.lst ys))
  (hs:∀i e x ys σ H H' (M:List V->L2.St->Hp->Prop),l[i]? = some e->Pv i ys σ H->Alt K F e x H H'->(∀ys' σ' H',Pv (i+1) ys' σ' H'->M ys' σ' H') ->
   g x σ H' fun σ4 H4=>ti σ4 H4 fun b H5=>if b=true then te σ4 H5 fun y H6=>H6 d=some (.lst ys)/\ys.length < bV/\M (ys++[y]) σ4 (upd H6 d (.lst (ys++[y]))) else M ys σ4 H5)
  (hd:∀ys σ H,Pv l.length ys σ H->Q (.ref d) H):a3u J g ti te Q d σ0 H1:=by
 refine⟨fun i m ys σ H=>m=l.length - i/\i<=l.length/\Pv i ys σ H,⟨l.length,by simp,gA _,h0⟩,?_⟩
 rintro i m ys σ H ⟨rfl,hi,p⟩
 obtain⟨q,e⟩:=hl i ys σ H hi p;refine⟨e,?_⟩
 by_cases hlt:i < l.length
 ·exact .inr ⟨Z.go i H q hlt,fun x H' y=>hs i _ x ys σ H H' (fun ys' σ' H'=>∃m',m' < l.length - i/\(m'=l.length - (i+1)/\i+1<=l.length/\Pv (i+1) ys' σ' H')) (aG hlt) p (Z.yld i H x H' _ q y (aG hlt)) fun ys' σ' H' p'=>⟨l.length - (i+1),by omega,rfl,hlt,p'⟩⟩
 ·have e:i=l.length:=by omega
  subst e;exact .inl ⟨Z.stop H q,hd ys σ H p⟩
def TIt(K:Fg9)(m:M (List D)):TI:=fun σ H R=>∃tg F ρ l ρ',Good K tg F H ρ σ/\m ρ=some (.ok l,ρ')/\∀J H' F',Good K tg F' H' ρ' σ->Ext (Own ρ σ) (Own ρ' σ) F H F' H'->ItD K J l F'->R J H'
structure IT (K:Fg9) (X:Cx) (tgt iter:Expr) (m:M (List D)):Prop where
 go:X.K=K->PI X tgt iter (TIt K m)
instance {K:Fg9} {X:Cx} {tgt iter:Expr} {m:M (List D)}:CoeFun (IT K X tgt iter m) fun _=>X.K=K->PI X tgt iter (TIt K m):=⟨IT.go⟩
def qd(m:M D):M (List D):=m.bind fun d=>lift (itemsD d)
theorem qt{m:M D}(h:EV K X iter m):IT K X tgt iter (qd m):=IT.mk fun hk=>by
 intro zv s σ H R I ⟨tg,F,ρ,l,ρ',G,em,q⟩;obtain⟨d,ρ1,e1,em⟩:=bf em;obtain⟨e2,rfl⟩:=gr em;have h:=h hk;subst hk;cases d with
 | tup k =>
  cases e2;refine a0x h zv s σ H R I ⟨tg,F,ρ,_,_,G,e1,fun v H' F' G' x r =>?_⟩
  cases r with
  | @tup a vs _ e hl=>exact⟨a,rfl,⟨vs,SqT.of (G'.sub _ _ e)⟩,q _ H' F' G' x (.of hl (avj.imp fun H2 g=>SqT.of (g _ _ e)))⟩
 | lst k =>
  cases e2;refine aqp h zv s σ H R I ⟨tg,F,ρ,_,_,G,e1,fun v H' F' G' x r =>?_⟩
  cases r with
  | @lst a vs _ e hl=>exact⟨a,rfl,⟨vs,SqL.of (G'.sub _ _ e)⟩,q _ H' F' G' x (.of hl (amu.imp fun H2 g=>SqL.of (g _ _ e)))⟩
 | kst k =>
  cases e2;refine aqp h zv s σ H R I ⟨tg,F,ρ,_,_,G,e1,fun v H' F' G' x r =>?_⟩
  cases r with
  | @kst a vs _ e hl=>exact⟨a,rfl,⟨vs,L2.Same.seq G'.sub e⟩,q _ H' F' G' x (.of hl (amu.imp fun H2 g=>L2.Same.seq g e))⟩
 | _=>cases e2
def rangeD(lo:Int)(n:Nat):List D:=(aJ n).map fun i=>D.int (lo+(i:Nat))
theorem ahv{F:Hp}(lo:Int)(n:Nat):IsL K F (rangeD lo n) (ups lo n):=by
 have e1:rangeD lo n=((aJ n).map fun i=>lo+((i:Nat):Int)).map D.int:=by unfold rangeD;rw[fD];rfl
 have e2:ups lo n=((aJ n).map fun i=>lo+((i:Nat):Int)).map V.int:=by unfold ups;rw[fD];rfl
 rw[e1,e2];exact adm _
theorem ao9{j:Int}(h:j.natAbs < 4611686018427387904) : -2 ^ 62<=j/\j < 2 ^ 62:=by
 have e:(2:Int) ^ 62=4611686018427387904:=by decide
 rw[e];omega
noncomputable def u6:List D->Option (List D)
 | [.int j]=>if j.natAbs < 4611686018427387904 then some (rangeD 0 j.toNat) else none
 | _=>none
noncomputable def aid:List D->Option (List D)
 | [.int i,.int j]=>if i.natAbs < 4611686018427387904/\j.natAbs < 4611686018427387904 then some (rangeD i (j - i).toNat) else none
 | _=>none
def mGet{α β:Type}(g:α->Option β)(m:M α):M β:=m.bind fun ds=>lift (g ds)
theorem v5{m:M (List D)}(hg:Gl X "range")(hm:X.mg "range" = none)(h:ED K X [a] m)(hs:aQ [a] X.env=[(false,eval a X.env)]:=by rfl):IT K X tgt (.Call (.Name "range" p) [a] [] pos) (mGet u6 m):=IT.mk fun hk=>by
 intro zv s σ H R I ⟨tg,F,ρ,l,ρ',G,em,q⟩;obtain⟨ds,ρ1,e1,em⟩:=bf em;obtain⟨e2,rfl⟩:=gr em;refine aqo hg hm (h hk) hs zv s σ H R I ⟨tg,F,ρ,ds,_,G,e1,fun vs H' F' G' x r =>?_⟩
 unfold u6 at e2;split at e2
 ·split at e2
  ·rename_i j hc;cases e2;cases r with
   | cons h t =>
    cases t;cases h;exact⟨_,rfl,(ao9 hc).1,(ao9 hc).2,q _ H' F' G' x (.of (ahv 0 _) (amt.imp fun _ _=>trivial))⟩
  ·cases e2
 ·cases e2
theorem ari{m:M (List D)}(hg:Gl X "range")(hm:X.mg "range" = none)(h:ED K X [a,b] m)(hs:aQ [a,b] X.env=[(false,eval a X.env),(false,eval b X.env)]:=by rfl)(hs2:aQ [b] X.env=[(false,eval b X.env)]:=by rfl):IT K X tgt (.Call (.Name "range" p) [a,b] [] pos) (mGet aid m):=IT.mk fun hk=>by
 intro zv s σ H R I ⟨tg,F,ρ,l,ρ',G,em,q⟩;obtain⟨ds,ρ1,e1,em⟩:=bf em;obtain⟨e2,rfl⟩:=gr em;refine aqn hg hm (h hk) hs hs2 zv s σ H R I ⟨tg,F,ρ,ds,_,G,e1,fun vs H' F' G' x r =>?_⟩
 unfold aid at e2;split at e2
 ·split at e2
  ·rename_i i j hc;cases e2;cases r with
   | cons h t =>
    cases t with
    | cons h2 t =>
     cases t;cases h;cases h2;exact⟨_,_,rfl,⟨(ao9 hc.1).1,(ao9 hc.1).2,(ao9 hc.2).1,(ao9 hc.2).2⟩,q _ H' F' G' x (.of (ahv _ _) (amt.imp fun _ _=>trivial))⟩
  ·cases e2
 ·cases e2
noncomputable def forD(b:D->Ro->Option Ro)(g:Sd):List D->Sd
 | [],ρ=>some (.nx,ρ)
 | d::ds,ρ=>match b d ρ with
  | none=>none
  | some ρ1=>match g ρ1 with
   | some (.nx,ρ2)=>forD b g ds ρ2
   | some (.cont,ρ2)=>forD b g ds ρ2
   | some (.brk,ρ2)=>some (.nx,ρ2)
   | some (.ret r,ρ2)=>some (.ret r,ρ2)
   | some (.exc x,ρ2)=>some (.exc x,ρ2)
   | none=>none
def dFor(m:M (List D))(b:D->Ro->Option Ro)(g:Sd):Sd:=dM m (forD b g)
theorem zb{m:M (List D)}{b:D->Ro->Option Ro}{g:Sd}(hp:tK (model X.prog X.w) X.A X.env X.xe)(hc:X.calm=true)(hi:IT K X tgt iter m)(hg:GV K X tgt b)(hb:SVs K X ss g)
  (hs:∀x,foldedSetIterable iter X.env x=pure x:=by intro _;rfl):SV K X (.For tgt iter ss [] pos) (dFor m b g):=SV.mk fun hk=>PS.imp (a0w hp hc (hi hk) (hg hk) (hb hk) hs) fun E σ H ⟨tg,F,ρ,fl,ρ',G,em,q⟩=>xn em q fun l ρ1 e1 em=>by
 refine⟨tg,F,ρ,l,ρ1,G,e1,fun J H1 F1 G1 x1 Z =>?_⟩
 refine azb Z (fun i σ2 H2=>∃F2 ρ2,Good K tg F2 H2 ρ2 σ2/\Ext (Own ρ σ) (Own ρ2 σ2) F H F2 H2/\Same F1 F2/\forD b g (l.drop i) ρ2=some (fl,ρ')) ⟨F1,ρ1,G1,x1,Same.refl _,em⟩ (fun i σ2 H2 _ ⟨F2,ρ2,G2,_,s2,_⟩=>s2.trans G2.sub) ?_ ?_
 ·rintro i d x σ2 H2' H2 hd ⟨F2',ρ2,G2',x2',s2',em2⟩ al
  obtain⟨F2,G2,x2,s2,id,_⟩:=anp G2' x2' s2' al;have hlt:i < l.length:=(aK.mp hd).1;have ed:l[i]=d:=(aK.mp hd).2;rw[rT hlt,ed] at em2;unfold forD at em2;split at em2
  ·cases em2
  ·rename_i ρ3 e3;refine⟨tg,F2,ρ2,d,ρ3,G2,id,e3,fun σ3 H3 F3 G3 x3 =>?_⟩
   have again:∀{ρ4:Ro},forD b g (l.drop (i+1)) ρ4=some (fl,ρ')->∀σ' H' F',Good K tg F' H' ρ4 σ'->Ext (Own ρ3 σ3) (Own ρ4 σ') F3 H3 F' H' ->
     ∃F2 ρ2,Good K tg F2 H' ρ2 σ'/\Ext (Own ρ σ) (Own ρ2 σ') F H F2 H'/\Same F1 F2/\forD b g (l.drop (i+1)) ρ2=some (fl,ρ') :=
    fun{ρ4} e4 σ' H' F' G' x'=>⟨F',ρ4,G',(x2.trans x3).trans x',(s2.trans x3.sub).trans x'.sub,e4⟩
   split at em2
   ·rename_i ρ4 e4;exact⟨tg,F3,ρ3,.nx,ρ4,G3,e4,again em2⟩
   ·rename_i ρ4 e4;exact⟨tg,F3,ρ3,.cont,ρ4,G3,e4,again em2⟩
   ·rename_i ρ4 e4;cases em2;exact⟨tg,F3,ρ3,.brk,_,G3,e4,fun σ' H' F' G' x'=>q σ' H' F' G' ((x2.trans x3).trans x')⟩
   ·rename_i r ρ4 e4;cases em2;exact⟨tg,F3,ρ3,.ret r,_,G3,e4,fun v σ' H' F' G' x' rr=>q v σ' H' F' G' ((x2.trans x3).trans x') (p6 (x2.trans x3) rr)⟩
   ·cases em2;exact(show False from q).elim
   ·cases em2
 ·rintro σ2 H2 ⟨F2,ρ2,G2,x2,s2,em2⟩
  rw[tD (aN _)] at em2;cases em2;exact q σ2 H2 F2 G2 x2
noncomputable def whileD(c:M Bool)(g:Sd):Nat->Sd
 | 0,_=>none
 | n+1,ρ=>match c ρ with
  | some (.ok true,ρ1)=>match g ρ1 with
   | some (.nx,ρ2)=>whileD c g n ρ2
   | some (.cont,ρ2)=>whileD c g n ρ2
   | some (.brk,ρ2)=>some (.nx,ρ2)
   | some (.ret r,ρ2)=>some (.ret r,ρ2)
   | some (.exc x,ρ2)=>some (.exc x,ρ2)
   | none=>none
  | some (.ok false,ρ1)=>some (.nx,ρ1)
  | some (.exc x,ρ1)=>some (.exc x,ρ1)
  | none=>none
theorem ae9{m:M Bool}{g:Sd}(n:Nat)(hp:tK (model X.prog X.w) X.A X.env X.xe)(hc:ET K X c m)(hb:SVs K X ss g):SV K X (.While c ss [] pos) (whileD m g n):=SV.mk fun hk=>PS.imp (auc hp (hc hk) (hb hk)) fun E σ H hq0=>by
 obtain⟨tg,F,ρ,fl,ρ',G,em,q⟩:=hq0;refine⟨fun k σ2 H2=>∃F2 ρ2,Good K tg F2 H2 ρ2 σ2/\Ext (Own ρ σ) (Own ρ2 σ2) F H F2 H2/\whileD m g k ρ2=some (fl,ρ'),⟨n,F,ρ,G,Ext.refl _ _ _,em⟩,?_⟩
 rintro k σ2 H2 ⟨F2,ρ2,G2,x2,em2⟩
 cases k with
 | zero=>cases em2
 | succ k =>
  unfold whileD at em2;split at em2
  ·rename_i ρ3 e3;refine⟨tg,F2,ρ2,true,ρ3,G2,e3,fun H3 F3 G3 x3=>iteT ?_⟩
   refine⟨fun σ' H'=>∃F2 ρ2,Good K tg F2 H' ρ2 σ'/\Ext (Own ρ σ) (Own ρ2 σ') F H F2 H'/\whileD m g k ρ2=some (fl,ρ'),fun σ' H' h=>⟨k,jU k,h⟩,?_⟩
   split at em2
   ·rename_i ρ4 e4;exact⟨tg,F3,ρ3,.nx,ρ4,G3,e4,fun σ' H' F' G' x'=>⟨F',ρ4,G',(x2.trans x3).trans x',em2⟩⟩
   ·rename_i ρ4 e4;exact⟨tg,F3,ρ3,.cont,ρ4,G3,e4,fun σ' H' F' G' x'=>⟨F',ρ4,G',(x2.trans x3).trans x',em2⟩⟩
   ·rename_i ρ4 e4;cases em2;exact⟨tg,F3,ρ3,.brk,_,G3,e4,fun σ' H' F' G' x'=>q σ' H' F' G' ((x2.trans x3).trans x')⟩
   ·rename_i r ρ4 e4;cases em2;exact⟨tg,F3,ρ3,.ret r,_,G3,e4,fun v σ' H' F' G' x' rr=>q v σ' H' F' G' ((x2.trans x3).trans x') (p6 (x2.trans x3) rr)⟩
   ·cases em2;exact(show False from q).elim
   ·cases em2
  ·rename_i ρ3 e3;cases em2;exact⟨tg,F2,ρ2,false,_,G2,e3,fun H3 F3 G3 x3=>iteF (q σ2 H3 F3 G3 (x2.trans x3))⟩
  ·cases em2;exact(show False from q).elim
  ·cases em2
end
noncomputable def ajk(ρ:Ro)(i:Nat)(o:Option Nat)(d:Option D):Sl:=match o with
 | some j=>match ρ[j]? with
  | some (.val d)=>.val d
  | some (.own _ l)=>.own (some i) l
  | _=>.emp
 | none=>match d with
  | some d=>.val d
  | none=>.emp
def lend(ρ:Ro)(js:List (Option Nat))(ds:List (Option D)):Ro:=(uX js ds).mapIdx fun i p=>ajk ρ i p.1 p.2
noncomputable def okJs(ρ:Ro):List (Option Nat)->Bool
 | []=>true
 | none::r=>okJs ρ r
 | some j::r=>(match ρ[j]? with
  | some (.own _ _) => !r.contains (some j)
  | _=>true)&&okJs ρ r
theorem ah5{ρ:Ro}:∀{js:List (Option Nat)} {i i' j:Nat} {t:Option Nat} {l:List D},okJs ρ js=true->js[i]? = some (some j)->js[i']? = some (some j)->ρ[j]? = some (.own t l)->i=i'
 | [],_,_,_,_,_,_,h,_,_=>by simp at h
 | o::r,0,0,_,_,_,_,_,_,_=>rfl
 | o::r,0,i'+1,j,t,l,hk,h,h',e=>by
  simp at h h';subst h;unfold okJs at hk;rw[e,aZ] at hk;have:=jO h';simp[this] at hk
 | o::r,i+1,0,j,t,l,hk,h,h',e=>by
  simp at h h';subst h';unfold okJs at hk;rw[e,aZ] at hk;have:=jO h;simp[this] at hk
 | none::r,i+1,i'+1,j,t,l,hk,h,h',e=>by
  rw[ah5 (js:=r) (i:=i) (i':=i') (j:=j) (by unfold okJs at hk;exact hk) (by simpa using h) (by simpa using h') e]
 | some k::r,i+1,i'+1,j,t,l,hk,h,h',e=>by
  unfold okJs at hk;rw[aZ] at hk;rw[ah5 (js:=r) (i:=i) (i':=i') (j:=j) hk.2 (by simpa using h) (by simpa using h') e]
noncomputable def putS(js:List (Option Nat))(ps:Ro)(j:Nat)(s:Sl):Sl:=match js.findIdx? (fun o=>o==some j) with
 | none=>s
 | some i=>match s with
  | .own t _=>match ps[i]? with
   | some (.own (some i') l')=>if i'=i then .own t l' else .emp
   | _=>.emp
  | s=>s
def putB(ρ:Ro)(js:List (Option Nat))(ps:Ro):Ro:=ρ.mapIdx fun j s=>putS js ps j s
noncomputable def tgOf(τ:L2.St)(i:Nat):Addr:=match τ[i]? with
 | some (some (.ref a))=>a
 | _=>0
section
variable{K:Fg9}{tg:Nat->Addr}{F H F' H':Hp}{ρ ps:Ro}{σ τ:L2.St}{js:List (Option Nat)}{ds:List (Option D)}{O':Addr->Prop}
theorem amo{i:Nat}{s:Sl}(h:(lend ρ js ds:List Sl)[i]? = some s):∃o d,js[i]? = some o/\ds[i]? = some d/\s=ajk ρ i o d:=by
 unfold lend at h;rw[oW] at h;cases e:(uX js ds)[i]? with
 | none=>rw[e] at h;cases h
 | some p =>
  rw[e] at h;cases h;rw[List.getElem?_zip_eq_some] at e;exact⟨p.1,p.2,e.1,e.2,rfl⟩
theorem au9{i:Nat}{t:Option Nat}{l:List D}(h:(lend ρ js ds:List Sl)[i]? = some (.own t l)):∃j t',js[i]? = some (some j)/\ρ[j]? = some (.own t' l)/\t=some i:=by
 obtain⟨o,d,e1,e2,e3⟩:=amo h;unfold ajk at e3;cases o with
 | none=>cases d <;> cases e3
 | some j =>
  simp only at e3;cases e:ρ[j]? with
  | none=>rw[e] at e3;cases e3
  | some s =>
   rw[e] at e3;cases s with
   | emp=>cases e3
   | val _=>cases e3
   | box _ _=>cases e3
   | own t' l'=>cases e3;exact⟨j,t',e1,e,rfl⟩
structure Lent (K:Fg9) (F:Hp) (σ τ:L2.St) (js:List (Option Nat)) (ds:List (Option D)):Prop where
 l1:τ.length=js.length
 l2:ds.length=js.length
 h1:∀(i j:Nat) (o:Option V),js[i]? = some (some j)->σ[j]? = some o->τ[i]? = some o
 h2:∀(i:Nat) (d:D),js[i]? = some none->ds[i]? = some (some d)->∃v,τ[i]? = some (some v)/\Is K F d v
theorem Good.σ_at(G:Good K tg F H ρ σ){j:Nat}{s:Sl}(e:(ρ:List Sl)[j]? = some s):∃o,σ[j]? = some o:=by
 obtain⟨o,h,_⟩:=G.at e;exact⟨o,h⟩
theorem abw(G:Good K tg F H ρ σ)(L:Lent K F σ τ js ds){i:Nat}{a:Addr}(h:Owns (lend ρ js ds) τ i a):∃j,js[i]? = some (some j)/\Owns ρ σ j a:=by
 obtain⟨⟨t,l,e⟩,q⟩:=h;obtain⟨j,t',e1,e2,_⟩:=au9 e;obtain⟨o,ho⟩:=G.σ_at e2;have:=L.h1 i j o e1 ho;rw[q] at this;cases this;exact⟨j,e1,⟨t',l,e2⟩,ho⟩
theorem abd(G:Good K tg F H ρ σ)(hk:okJs ρ js=true)(L:Lent K F σ τ js ds):Good K (tgOf τ) F H (lend ρ js ds) τ where
 sub:=G.sub
 len:=by
  unfold lend;rw[uZ,List.length_zip,L.l2,L.l1];omega
 sl:=fun i s o e q=>by
  obtain⟨oj,d,e1,e2,rfl⟩:=amo e;unfold ajk;cases oj with
  | none =>
   cases d with
   | none=>trivial
   | some d =>
    obtain⟨v,h1,h2⟩:=L.h2 i d e1 e2;rw[q] at h1;cases h1;exact⟨v,rfl,h2⟩
  | some j =>
   simp only;cases e3:ρ[j]? with
   | none=>trivial
   | some s =>
    obtain⟨o',ho,w⟩:=G.at e3;have:=L.h1 i j o' e1 ho;rw[q] at this;cases this;cases s with
    | emp=>trivial
    | val d=>exact w
    | box _ _=>trivial
    | own t l =>
     obtain⟨a,vs,rfl,hf,hh,hl,_⟩:=w;refine⟨a,vs,rfl,hf,hh,hl,fun k e =>?_⟩
     cases e;unfold tgOf;rw[q]
 inj:=fun i i' a w w'=>by
  obtain⟨j,e,v⟩:=abw G L w;obtain⟨j',e',v'⟩:=abw G L w';have:=G.inj j j' a v v';subst this;obtain⟨⟨t,l,z⟩,_⟩:=v;exact ah5 hk e e' z
structure Fin (K:Fg9) (F' H':Hp) (τ:L2.St) (ps:Ro) (O':Addr->Prop):Prop where
 at':∀(i:Nat) (l:List D),(ps:List Sl)[i]? = some (.own (some i) l)->O' (tgOf τ i)/\F' (tgOf τ i)=none/\∃vs,H' (tgOf τ i)=some (.lst vs)/\IsL K F' l vs
theorem ahw{j:Nat}{s:Sl}(h:(putB ρ js ps:List Sl)[j]? = some s):∃s0:Sl,(ρ:List Sl)[j]? = some s0/\((∃t l,s0=Sl.own t l/\∃i:Nat,js[i]? = some (some j)/\((∃l',(ps:List Sl)[i]? = some (Sl.own (some i) l')/\s=Sl.own t l')∨s=Sl.emp)) ∨
  (s=s0/\∀t l,s0=Sl.own t l->∀i:Nat,js[i]? ≠ some (some j))):=by
 unfold putB at h;rw[oW] at h;cases e:(ρ:List Sl)[j]? with
 | none=>rw[e] at h;cases h
 | some s0 =>
  rw[e] at h;refine⟨s0,rfl,?_⟩;have h:putS js ps j s0=s:=bD h;unfold putS at h;cases ei:js.findIdx? (fun o=>o==some j) with
  | none =>
   rw[ei] at h;have h:s0=s:=h;refine .inr ⟨h.symm,fun _ _ _ i z =>?_⟩
   rw[rR] at ei;have:=ei _ (jO z);simp at this
  | some i =>
   rw[ei] at h;cases s0 with
   | emp=>exact .inr ⟨(show Sl.emp=s from h).symm,fun t l z=>by cases z⟩
   | val d=>exact .inr ⟨(show Sl.val d=s from h).symm,fun t l z=>by cases z⟩
   | box c fs=>exact .inr ⟨(show Sl.box c fs=s from h).symm,fun t l z=>by cases z⟩
   | own t l =>
    refine .inl ⟨t,l,rfl,i,?_,?_⟩
    ·obtain⟨hi,hb,_⟩:=kZ.mp ei;rw[aG hi];exact congrArg some (eq_of_beq hb)
    ·have h:(match (ps:List Sl)[i]? with
      | some (.own (some i') l')=>if i'=i then Sl.own t l' else .emp
      | _=>.emp)=s:=h
     cases ep:(ps:List Sl)[i]? with
     | none=>rw[ep] at h;exact .inr h.symm
     | some sp =>
      rw[ep] at h;cases sp with
      | emp=>exact .inr h.symm
      | val _=>exact .inr h.symm
      | box _ _=>exact .inr h.symm
      | own t' l' =>
       cases t' with
       | none=>exact .inr h.symm
       | some i' =>
        have h2:(if i'=i then Sl.own t l' else .emp)=s:=h
        by_cases z:i'=i
        ·subst z;rw[if_pos rfl] at h2;exact .inl ⟨l',rfl,h2.symm⟩
        ·rw[if_neg z] at h2;exact .inr h2.symm
theorem adz{j:Nat}{a:Addr}(h:Owns (putB ρ js ps) σ j a):Owns ρ σ j a:=by
 obtain⟨⟨t,l,e⟩,q⟩:=h;obtain⟨s0,e0,h | ⟨rfl,_⟩⟩:=ahw e
 ·obtain⟨t',l',rfl,i,_,⟨l2,_,z⟩ | z⟩:=h
  ·exact⟨⟨t',l',e0⟩,q⟩
  ·cases z
 ·exact⟨⟨t,l,e0⟩,q⟩
theorem ad0(G:Good K tg F H ρ σ)(L:Lent K F σ τ js ds)(x:Ext (Own (lend ρ js ds) τ) O' F H F' H')(s':Same F' H')(fin:Fin K F' H' τ ps O'):Good K tg F' H' (putB ρ js ps) σ where
 sub:=s'
 len:=by
  unfold putB;rw[uZ];exact G.len
 sl:=fun j s o e q=>by
  obtain⟨s0,e0,h | ⟨rfl,hn⟩⟩:=ahw e
  ·obtain⟨t,l,rfl,i,ei,⟨l',ep,rfl⟩ | rfl⟩:=h
   ·obtain⟨a,vs,rfl,hf,hh,hl,ht⟩:=G.sl j _ _ e0 q;obtain⟨_,hf',ws,hh',hl'⟩:=fin.at' i l' ep;have:=L.h1 i j _ ei q;have et:tgOf τ i=a:=by
     unfold tgOf;rw[this]
    rw[et] at hf' hh';exact⟨a,ws,rfl,hf',hh',hl',ht⟩
   ·trivial
  ·have w:=G.sl j _ _ e0 q;cases s with
   | emp=>trivial
   | val d =>
    obtain⟨v,h1,h2⟩:=w;exact⟨v,h1,h2.mono x.sub⟩
   | box c fs =>
    obtain⟨a,C,dx,fvs,e1,e2,e3,e4,e7,e5,e6⟩:=w;have no:¬Own (lend ρ js ds) τ a:=fun⟨i,z⟩=>by
     obtain⟨j',_,v⟩:=abw G L z;obtain⟨_,vs,hv⟩:=G.ownAt ⟨j',v⟩;rw[e3] at hv;cases hv
    have hf:F' a=none:=by
     cases z:F' a with
     | none=>rfl
     | some o =>
      rcases x.new a o z with z | z | z
      ·rw[e2] at z;cases z
      ·rw[e3] at z;cases z
      ·exact absurd z no
    exact⟨a,C,dx,fvs,e1,hf,x.keep a _ e3 no,e4,e7,e5,fun f d h=>(e6 f d h).imp fun v h=>⟨h.1,h.2.mono x.sub⟩⟩
   | own t l =>
    obtain⟨a,vs,rfl,hf,hh,hl,ht⟩:=w;have no:¬Own (lend ρ js ds) τ a:=fun⟨i,z⟩=>by
     obtain⟨j',e1,v⟩:=abw G L z;have:=G.inj j' j a v ⟨⟨t,l,e0⟩,q⟩;subst this;exact hn t l rfl i e1
    refine⟨a,vs,rfl,?_,x.keep a _ hh no,hl.mono x.sub,ht⟩;cases z:F' a with
    | none=>rfl
    | some o =>
     rcases x.new a o z with z | z | z
     ·rw[hf] at z;cases z
     ·rw[hh] at z;cases z
     ·exact absurd z no
 inj:=fun i j a w w'=>G.inj i j a (adz w) (adz w')
theorem aao(G:Good K tg F H ρ σ)(L:Lent K F σ τ js ds){a:Addr}(h:Own (lend ρ js ds) τ a):Own ρ σ a:=by
 obtain⟨i,h⟩:=h;obtain⟨j,_,h⟩:=abw G L h;exact⟨j,h⟩
theorem afg(G:Good K tg F H ρ σ)(L:Lent K F σ τ js ds)(x:Ext (Own (lend ρ js ds) τ) O' F H F' H'):Ext (Own ρ σ) (Own (putB ρ js ps) σ) F H F' H' where
 sub:=x.sub
 new:=fun a o e=>by
  rcases x.new a o e with z | z | z
  ·exact .inl z
  ·exact .inr (.inl z)
  ·exact .inr (.inr (aao G L z))
 keep:=fun a o e n=>x.keep a o e fun z=>n (aao G L z)
 own:=fun a ⟨j,w⟩=>.inl ⟨j,adz w⟩
 there:=x.there
theorem atf(G:Good K tg F H ρ σ)(L:Lent K F σ τ js ds)(fin:Fin K F' H' τ ps O'){a:Addr}(ha:H a=none∨Own (lend ρ js ds) τ a)(hn:¬O' a):¬Own (putB ρ js ps) σ a:=fun⟨j,w⟩=>by
 have v:=adz w;obtain⟨⟨t,l2,e⟩,q⟩:=w;obtain⟨s0,e0,z | ⟨rfl,hno⟩⟩:=ahw e
 ·obtain⟨t',l',rfl,i,ei,⟨l3,ep,z⟩ | z⟩:=z
  ·have et:tgOf τ i=a:=by
    unfold tgOf;rw[L.h1 i j _ ei q]
   have:=(fin.at' i l3 ep).1;rw[et] at this;exact hn this
  ·cases z
 ·rcases ha with ha | ⟨i,z⟩
  ·obtain⟨a',vs',ea,_,e2,_⟩:=G.sl j _ _ e0 q;cases ea;rw[ha] at e2;cases e2
  ·obtain⟨j',e1,v'⟩:=abw G L z;have:=G.inj j' j a v' v;subst this;exact hno t l2 rfl i e1
theorem ank(G:Good K tg F H ρ σ)(L:Lent K F σ τ js ds)(fin:Fin K F' H' τ ps O'){r:Rv}{v:V}(h:relR K r v H (Own (lend ρ js ds) τ) F' H' O'):relR K r v H (Own ρ σ) F' H' (Own (putB ρ js ps) σ):=by
 cases r with
 | v d=>exact h
 | fr l =>
  obtain⟨a,vs,rfl,ha,hf,hh,hl,hn⟩:=h;exact⟨a,vs,rfl,ha.imp id (aao G L),hf,hh,hl,atf G L fin ha hn⟩
 | tf d l =>
  obtain⟨t,u,a,vs,rfl,ht,hd,ha,hf,hh,hl,hn⟩:=h;exact⟨t,u,a,vs,rfl,ht,hd,ha.imp id (aao G L),hf,hh,hl,atf G L fin ha hn⟩
end
abbrev Fd:=Ro->Option (Out Rv×Ro)
noncomputable def fnD(nl np:Nat)(g:Sd):Fd:=fun as=>match g (as++aM (nl - np) .emp) with
 | some (.ret r,ρ)=>some (.ok r,ρ.take np)
 | some (.nx,ρ)=>some (.ok (.v .non),ρ.take np)
 | some (.exc x,ρ)=>some (.exc x,ρ.take np)
 | _=>none
def spOf(K:Fg9)(n:Nat)(f:Fd):Sp:=fun vs H Q _=>vs.length=n/\∃F as r ps,Good K (tgOf (vs.map some)) F H as (vs.map some)/\f as=some (.ok r,ps) /\
 ∀v H' F' O',Same F' H'->Ext (Own as (vs.map some)) O' F H F' H'->Fin K F' H' (vs.map some) ps O'->relR K r v H (Own as (vs.map some)) F' H' O'->Q v H'
section
variable{K:Fg9}
theorem ax9{as:Ro}{τ:L2.St}{n:Nat}{a:Addr}(hl:as.length=τ.length)(h:Own (as++aM n .emp) (τ++aM n none) a):Own as τ a:=by
 obtain⟨i,⟨t,l,e⟩,q⟩:=h
 by_cases hi:i < as.length
 ·rw[cH hi] at e;rw[cH (by omega)] at q
  exact⟨i,⟨t,l,e⟩,q⟩
 ·rw[gF (by omega),kY] at e
  split at e <;> cases e
theorem aup{as:Ro}{τ:L2.St}{n:Nat}{a:Addr}(hl:as.length=τ.length)(h:Own as τ a):Own (as++aM n .emp) (τ++aM n none) a:=by
 obtain⟨i,⟨t,l,e⟩,q⟩:=h;have hi:=(aK.mp e).1;exact⟨i,⟨t,l,by rw[cH hi];exact e⟩,by rw[cH (by omega)];exact q⟩
theorem aad{as:Ro}{τ:L2.St}{n:Nat}(hl:as.length=τ.length):Own (as++aM n .emp) (τ++aM n none)=Own as τ:=funext fun a=>propext ⟨ax9 hl,aup hl⟩
theorem Good.app{tg:Nat->Addr}{F H:Hp}{as:Ro}{τ:L2.St}(G:Good K tg F H as τ)(n:Nat):Good K tg F H (as++aM n .emp) (τ++aM n none) where
 sub:=G.sub
 len:=by rw[eE,eE,G.len,iZ,iZ]
 sl:=fun i s o e q=>by
  have hl:=G.len
  by_cases hi:i < as.length
  ·rw[cH hi] at e;rw[cH (by omega)] at q
   exact G.sl i s o e q
  ·rw[gF (by omega),kY] at e
   split at e
   ·cases e;trivial
   ·cases e
 inj:=fun i j a w w'=>by
  have hl:=G.len;have f:∀k,Owns (as++aM n .emp) (τ++aM n none) k a->Owns as τ k a:=fun k ⟨⟨t,l,e⟩,q⟩=>by
   by_cases hi:k < as.length
   ·rw[cH hi] at e;rw[cH (by omega)] at q
    exact⟨⟨t,l,e⟩,q⟩
   ·rw[gF (by omega),kY] at e
    split at e <;> cases e
  exact G.inj i j a (f i w) (f j w')
theorem a72{P:bJ}{w:World}{mg:Str->Option Value}{base:Heap}{x qual:Str}{st:Stmt}{f:Addr}{fd:eG}{N ps:List Str}{k:Nat}{g:Sd}(F:Fun K x qual st f fd)(S:FnScope N ps (aj st))
  (body:∀(cdv:Value) (A:bW) (outer:List Env) (s:aF) (H:Hp) (E:XK),Room k (A.deeper (nY qual (aj st) s.heap.objs.size f cdv))->SVs K (cxOf CX0 P w K mg base N qual (aj st) f cdv A outer s H E).nox (dg st) g) :
  FnOk P w K mg base CX0 (k+1) f fd ps (spOf K ps.length (fnD N.length ps.length g)):=by
 refine F.ok S (fun vs H Q E h=>h.1) (fun cdv A outer s H vs Q E hr h=>⟨_,body cdv A outer s H E hr rfl,?_⟩)
 obtain⟨hn,F,as,r,ps',G,em,q⟩:=h;have hl:as.length=(vs.map some).length:=G.len;have G1:=G.app (N.length - vs.length);have es:start N vs=vs.map some++aM (N.length - vs.length) none:=rfl;rw[es];unfold fnD at em;rw[<-hn] at em;have fin:∀{ρ':Ro} {σ':L2.St} {F' H':Hp},Good K (tgOf (vs.map some)) F' H' ρ' σ'->Fin K F' H' (vs.map some) (ρ'.take vs.length) (Own ρ' σ'):=fun{ρ' σ' F' H'} G'=>⟨fun i l e=>by
  have hi:=(aK.mp e).1;rw[fJ] at hi;rw[jY (by omega)] at e
  obtain⟨o,ho,a,ws,rfl,hf,hh,hl,ht⟩:=G'.at e;rw[ht i rfl];exact⟨⟨i,⟨_,_,e⟩,ho⟩,hf,ws,hh,hl⟩⟩
 split at em
 ·rename_i r' ρ' e;cases em;refine⟨_,F,_,.ret r,ρ',G1,e,fun v σ' H' F' G' x' rr =>?_⟩
  rw[aad hl] at x' rr;exact q v H' F' (Own ρ' σ') G'.sub x' (fin G') rr
 ·rename_i ρ' e;cases em;refine⟨_,F,_,.nx,ρ',G1,e,fun σ' H' F' G' x' =>?_⟩
  rw[aad hl] at x';exact q .non H' F' (Own ρ' σ') G'.sub x' (fin G') .non
 ·cases em
 ·cases em
end
section
variable{K:Fg9}{X:Cx}{e a b c tgt iter elt:Expr}{es:List Expr}{pos p p2:Pos}
inductive AR (K:Fg9) (F:Hp) (σ:L2.St):List (Option Nat)->List (Option D)->List V->Prop
 | nil:AR K F σ [] [] []
 | ex {d:D} {v:V} {js:List (Option Nat)} {ds:List (Option D)} {vs:List V} (h:Is K F d v) (t:AR K F σ js ds vs):AR K F σ (none::js) (some d::ds) (v::vs)
 | nm {j:Nat} {v:V} {js:List (Option Nat)} {ds:List (Option D)} {vs:List V} (h:σ[j]? = some (some v)) (t:AR K F σ js ds vs):AR K F σ (some j::js) (none::ds) (v::vs)
theorem AR.lent{F:Hp}{σ:L2.St}:∀{js:List (Option Nat)} {ds:List (Option D)} {vs:List V},AR K F σ js ds vs->Lent K F σ (vs.map some) js ds
 | _,_,_,.nil=>⟨rfl,rfl,fun i j o h=>by simp at h,fun i d h=>by simp at h⟩
 | _,_,_,.ex h t=>by
  have L:=t.lent;refine⟨by simp[by simpa using L.l1],by simp[L.l2],fun i j o h q =>?_,fun i d h q =>?_⟩
  ·cases i with
   | zero=>simp at h
   | succ i=>simpa using L.h1 i j o (by simpa using h) q
  ·cases i with
   | zero=>simp at q;subst q;exact⟨_,rfl,‹_›⟩
   | succ i=>simpa using L.h2 i d (by simpa using h) (by simpa using q)
 | _,_,_,.nm h t=>by
  have L:=t.lent;refine⟨by simp[by simpa using L.l1],by simp[L.l2],fun i j o h' q =>?_,fun i d h' q =>?_⟩
  ·cases i with
   | zero =>
    simp at h';subst h';rw[h] at q;cases q;rfl
   | succ i=>simpa using L.h1 i j o (by simpa using h') q
  ·cases i with
   | zero=>simp at h'
   | succ i=>simpa using L.h2 i d (by simpa using h') (by simpa using q)
theorem AR.length{F:Hp}{σ:L2.St}{js:List (Option Nat)}{ds:List (Option D)}{vs:List V}(h:AR K F σ js ds vs):vs.length=js.length:=by
 have:=h.lent.l1
 simpa using this
theorem AR.mono{F F':Hp}{σ:L2.St}(g:Same F F'):∀{js:List (Option Nat)} {ds:List (Option D)} {vs:List V},AR K F σ js ds vs->AR K F' σ js ds vs
 | _,_,_,.nil=>.nil
 | _,_,_,.ex h t=>.ex (h.mono g) (t.mono g)
 | _,_,_,.nm h t=>.nm h (t.mono g)
def TAg(K:Fg9)(js:List (Option Nat))(m:M (List (Option D))):TA:=fun σ H Q=>∃tg F ρ ds ρ',Good K tg F H ρ σ/\m ρ=some (.ok ds,ρ')/\∀vs H' F',Good K tg F' H' ρ' σ->Ext (Own ρ σ) (Own ρ' σ) F H F' H'->AR K F' σ js ds vs->Q vs H'
structure EG (K:Fg9) (X:Cx) (es:List Expr) (js:List (Option Nat)) (m:M (List (Option D))):Prop where
 go:X.K=K->PA X es (TAg K js m)
instance {K:Fg9} {X:Cx} {es:List Expr} {js:List (Option Nat)} {m:M (List (Option D))}:CoeFun (EG K X es js m) fun _=>X.K=K->PA X es (TAg K js m):=⟨EG.go⟩
def gn:M (List (Option D)):=ret []
def bu(m:M D)(ms:M (List (Option D))):M (List (Option D)):=m.bind fun d=>ms.bind fun ds=>ret (some d::ds)
def fu(j:Nat)(ms:M (List (Option D))):M (List (Option D)):=(dw j).bind fun _=>ms.bind fun ds=>ret (none::ds)
theorem bz:EG K X [] [] gn:=EG.mk fun _=>PA.imp ac9 fun σ H Q hq0=>by
 obtain⟨tg,F,ρ,ds,ρ',G,em,q⟩:=hq0;obtain⟨rfl,rfl⟩:=kj em;exact q [] H F G (Ext.refl _ _ _) .nil
theorem eg_v{m:M D}{js:List (Option Nat)}{ms:M (List (Option D))}(h:EV K X e m)(t:EG K X es js ms)(hs:aQ (e::es) X.env=(false,eval e X.env)::aQ es X.env:=by rfl):EG K X (e::es) (none::js) (bu m ms):=EG.mk fun hk=>PA.imp (uf (h hk) (t hk) hs) fun σ H Q hq0=>by
 obtain⟨tg,F,ρ,ds,ρ',G,em,q⟩:=hq0;obtain⟨d,ρ1,e1,em⟩:=bf em;obtain⟨r,ρ2,e2,em⟩:=bf em;obtain⟨rfl,rfl⟩:=kj em;exact⟨tg,F,ρ,d,ρ1,G,e1,fun v H1 F1 G1 x1 r1=>⟨tg,F1,ρ1,r,_,G1,e2,fun vs H2 F2 G2 x2 r2=>q _ H2 F2 G2 (x1.trans x2) (.ex (r1.mono x2.sub) r2)⟩⟩
theorem eg_n{j:Nat}{js:List (Option Nat)}{ms:M (List (Option D))}(h:PE X e (tVar j))(t:EG K X es js ms)(hs:aQ (e::es) X.env=(false,eval e X.env)::aQ es X.env:=by rfl):EG K X (e::es) (some j::js) (fu j ms):=EG.mk fun hk=>PA.imp (uf h (t hk) hs) fun σ H Q hq0=>by
 obtain⟨tg,F,ρ,ds,ρ',G,em,q⟩:=hq0;obtain⟨d0,ρ0,e0,em⟩:=bf em;obtain⟨r,ρ2,e2,em⟩:=bf em;obtain⟨rfl,rfl⟩:=kj em;obtain⟨rfl,v,hv,_⟩:=ue G e0;exact⟨v,hv,tg,F,ρ0,r,_,G,e2,fun vs H2 F2 G2 x2 r2=>q _ H2 F2 G2 x2 (.nm hv r2)⟩
noncomputable def mFn(f:Fd)(js:List (Option Nat))(ms:M (List (Option D))):M Rv:=ms.bind fun ds ρ=>if okJs ρ js=true then match f (lend ρ js ds) with
  | some (.ok r,ps)=>some (.ok r,putB ρ js ps)
  | some (.exc x,ps)=>some (.exc x,putB ρ js ps)
  | none=>none
 else none
theorem awl{f:Fd}{js:List (Option Nat)}{ms:M (List (Option D))}{ρ ρ':Ro}{r:Rv}(h:mFn f js ms ρ=some (.ok r,ρ')):∃ds ρ1 ps,ms ρ=some (.ok ds,ρ1)/\okJs ρ1 js=true/\f (lend ρ1 js ds)=some (.ok r,ps)/\ρ'=putB ρ1 js ps:=by
 obtain⟨ds,ρ1,e1,em⟩:=bf h;have em:(if okJs ρ1 js=true then match f (lend ρ1 js ds) with
  | some (.ok r,ps)=>some (Out.ok r,putB ρ1 js ps)
  | some (.exc x,ps)=>some (.exc x,putB ρ1 js ps)
  | none=>none
  else none)=some (.ok r,ρ'):=em
 split at em
 ·rename_i hk;split at em
  ·rename_i r' ps e2;cases em;exact⟨ds,ρ1,ps,e1,hk,e2,rfl⟩
  ·cases em
  ·cases em
 ·cases em
theorem gw{f:Fd}{n k:Nat}{x:Str}{pn:List Str}{js:List (Option Nat)}{ms:M (List (Option D))}(F:Dfn X.prog X.w X.K X.mg X.base x pn k (spOf K n f))(hr:Room k X.A)(hg:Gl X x)(ha:EG K X (e::es) js ms)(hn:js.length=n:=by rfl)(hdb:(x==("__debug__" : Str))=false:=by decide)
  (he:aQ (e::es) X.env=(false,eval e X.env)::aQ es X.env:=by rfl) (hpl:(iG pos (aQ es X.env)).any (·.1)=false:=by rfl):ER K X (.Call (.Name x p) (e::es) [] pos) (mFn f js ms):=ER.mk fun hk=>PE.imp (a6j F hr hg (ha hk) hdb he hpl) fun σ H Q hq0=>by
 obtain⟨tg,F,ρ,r,ρ',G,em,q⟩:=hq0;obtain⟨ds,ρ1,ps,e1,hj,e2,rfl⟩:=awl em;refine⟨tg,F,ρ,ds,ρ1,G,e1,fun vs H1 F1 G1 x1 ar =>?_⟩
 have L:=ar.lent;show spOf K n f (vs++[]) H1 Q E0;rw[iC];refine⟨by rw[ar.length];exact hn,F1,_,r,ps,abd G1 hj L,e2,fun v H' F' O' s' x' fin rr =>?_⟩
 exact q v H' F' (ad0 G1 L x' s' fin) (x1.trans (afg G1 L x')) (p6 x1 (ank G1 L fin rr))
structure EIf (K:Fg9) (X:Cx) (ifs:List Expr) (m:M Bool):Prop where
 go:X.K=K->PIf X ifs (TB K m)
instance {K:Fg9} {X:Cx} {ifs:List Expr} {m:M Bool}:CoeFun (EIf K X ifs m) fun _=>X.K=K->PIf X ifs (TB K m):=⟨EIf.go⟩
theorem j5:EIf K X [] (ret true):=EIf.mk fun _ zv s σ H Q I hq0=>by
 obtain⟨tg,F,ρ,k,ρ',G,em,q⟩:=hq0;obtain⟨rfl,rfl⟩:=kj em;exact axy zv s σ H Q I (q H F G (Ext.refl _ _ _))
theorem alk{m:M Bool}(h:ET K X c m):EIf K X [c] m:=EIf.mk fun hk=>axx (h hk)
noncomputable def compD(b:D->Ro->Option Ro)(mc:M Bool)(me:M D):List D->List D->M (List D)
 | [],ys=>ret ys
 | d::ds,ys=>fun ρ=>match b d ρ with
  | none=>none
  | some ρ1=>(mc.bind fun k=>if k=true then me.bind fun y=>compD b mc me ds (ys++[y]) else compD b mc me ds ys) ρ1
theorem agn{b:D->Ro->Option Ro}{mc:M Bool}{me:M D}:∀{l ys yf:List D} {ρ ρ':Ro},compD b mc me l ys ρ=some (.ok yf,ρ')->ys.length<=yf.length
 | [],ys,yf,ρ,ρ',h=>by
  obtain⟨rfl,_⟩:=kj (show ret ys ρ=_ from h)
  exact aN _
 | d::ds,ys,yf,ρ,ρ',h=>by
  unfold compD at h;split at h
  ·cases h
  ·obtain⟨k,ρ2,e2,h⟩:=bf h;split at h
   ·obtain⟨y,ρ3,e3,h⟩:=bf h;have:=agn h;rw[eE] at this;omega
   ·exact agn h
def ud(src:List (Option Nat))(mi:M (List D))(b:D->Ro->Option Ro)(mc:M Bool)(me:M D):M Rv:=mi.bind fun l ρ=>if okJs ρ src=true then match compD b mc me l [] (lend ρ src (src.map fun _=>none)) with
  | some (.ok ys,ps)=>if ys.length<=capS then some (.ok (.fr ys),putB ρ src ps) else none
  | some (.exc x,ps)=>some (.exc x,putB ρ src ps)
  | none=>none
 else none
theorem au5{src:List (Option Nat)}{mi:M (List D)}{b:D->Ro->Option Ro}{mc:M Bool}{me:M D}{ρ ρ':Ro}{r:Rv}(h:ud src mi b mc me ρ=some (.ok r,ρ')):∃l ρ1 ys ps,mi ρ=some (.ok l,ρ1)/\okJs ρ1 src=true/\compD b mc me l [] (lend ρ1 src (src.map fun _=>none))=some (.ok ys,ps)/\ys.length<=capS/\r=.fr ys/\ρ'=putB ρ1 src ps:=by
 obtain⟨l,ρ1,e1,em⟩:=bf h;have em:(if okJs ρ1 src=true then match compD b mc me l [] (lend ρ1 src (src.map fun _=>none)) with
  | some (.ok ys,ps)=>if ys.length<=capS then some (Out.ok (Rv.fr ys),putB ρ1 src ps) else none
  | some (.exc x,ps)=>some (.exc x,putB ρ1 src ps)
  | none=>none
  else none)=some (.ok r,ρ'):=em
 split at em
 ·rename_i hk;split at em
  ·rename_i ys ps e2;split at em
   ·rename_i hz;cases em;exact⟨l,ρ1,ys,ps,e1,hk,e2,hz,rfl,rfl⟩
   ·cases em
  ·cases em
  ·cases em
 ·cases em
theorem aql{F:Hp}{σ:L2.St}(src:List (Option Nat)):Lent K F σ (pick src σ) src (src.map fun _=>none):=by
 refine⟨by simp[pick],by simp,fun i j o h q =>?_,fun i d h q =>?_⟩
 ·unfold pick;rw[aO,h];show some ((σ[j]?).bind id)=some o;rw[q];rfl
 ·rw[aO,h] at q;cases q
theorem Ext.upd{O O':Addr->Prop}{F H F' H':Hp}{d:Addr}{o:HO}(x:Ext O O' F H F' H')(h:H d=none):Ext O O' F H F' (upd H' d o) :=
 ⟨x.sub,x.new,fun a u e n=>by rw[dj (ji e h)];exact x.keep a u e n,x.own,fun a e=>by
  by_cases ha:a=d
  ·subst ha;exact h
  ·rw[dj ha] at e;exact x.there a e⟩
theorem Good.upd{tg:Nat->Addr}{F H:Hp}{ρ:Ro}{σ:L2.St}{d:Addr}(G:Good K tg F H ρ σ)(hf:F d=none)(hn:¬Own ρ σ d)(o:HO)(hi:∀C dx fs,H d≠some (.ins C dx fs)):Good K tg F (upd H d o) ρ σ :=
 G.grow (Same.refl F) (fun b u e=>by
  have hb:b≠d:=fun z=>by
   subst z;rw[hf] at e;cases e
  rw[dj hb];exact G.sub b u e) (fun a w=>⟨(G.ownAt w).1,by
  have hb:a≠d:=fun z=>hn (z▸w)
  rw[dj hb]⟩) fun a C dx fvs h1 h2=>⟨h1,by
  have hb:a≠d:=fun z=>hi C dx fvs (z▸h2)
  rw[dj hb]⟩
theorem anb{mi:M (List D)}{bb:D->Ro->Option Ro}{mc:M Bool}{me:M D}{src:List (Option Nat)}(σ:L2.St)(H:Hp)(Q:VK)(t:T K (relR K) (ud src mi bb mc me) σ H Q):axf (TIt K mi) (TGd K bb) (TB K mc) (T K (relD K) me) src σ H Q:=by
 obtain⟨tg,F,ρ,r,ρ',G,em,q⟩:=t;obtain⟨l,ρ1,yf,ps,e1,hj,e2,hz,rfl,rfl⟩:=au5 em;refine⟨tg,F,ρ,l,ρ1,G,e1,fun J H1 F1 G1 x1 Z dd hd =>?_⟩
 have L:Lent K F1 σ (pick src σ) src (src.map fun _=>none):=aql src
 have Gl:=abd G1 hj L;have own0:¬Own (lend ρ1 src (src.map fun _=>none)) (pick src σ) dd:=fun z=>Gl.own_ne hd z rfl
 refine av0 Z (fun i ys σc Hc=>∃Fc ρc yd,Good K (tgOf (pick src σ)) Fc Hc ρc σc/\Ext (Own (lend ρ1 src (src.map fun _=>none)) (pick src σ)) (Own ρc σc) F1 H1 Fc Hc/\Fc dd=none/\¬Own ρc σc dd/\Hc dd=some (.lst ys)/\IsL K Fc yd ys/\compD bb mc me (l.drop i) yd ρc=some (.ok yf,ps))
  ⟨F1,_,[],Gl.upd (G1.freeF hd) own0 _ (fun _ _ _ z=>by rw[hd] at z;cases z),(Ext.refl _ _ _).upd hd,G1.freeF hd,own0,gq,.nil,e2⟩ ?_ ?_ ?_
 ·rintro i ys σc Hc _ ⟨Fc,ρc,yd,Gc,xc,_,_,hdd,_,_⟩
  exact⟨xc.sub.trans Gc.sub,hdd⟩
 ·rintro i d x ys σc Hc0 Hc M hdl ⟨Fc0,ρc,yd,Gc0,xc0,fd0,od0,hdd0,iy0,ec⟩ al hM
  obtain⟨Fc,Gc,xc,_,idl,xa⟩:=anp Gc0 xc0 xc0.sub al;have iy:=iy0.mono xa.sub;have hlt:i < l.length:=(aK.mp hdl).1;have edl:l[i]=d:=(aK.mp hdl).2;rw[rT hlt,edl] at ec;unfold compD at ec;have step:∀{F2 H2:Hp} {ρ2 ρ3:Ro} {σ2 σ3:L2.St} {F3 H3:Hp},F2 dd=none->¬Own ρ2 σ2 dd->H2 dd=some (.lst ys)->Ext (Own ρ2 σ2) (Own ρ3 σ3) F2 H2 F3 H3->F3 dd=none/\¬Own ρ3 σ3 dd/\H3 dd=some (.lst ys):=fun{F2 H2 ρ2 ρ3 σ2 σ3 F3 H3} h1 h2 h3 x3=>by
   refine⟨?_,fun z =>?_,x3.keep _ _ h3 h2⟩
   ·cases z:F3 dd with
    | none=>rfl
    | some o =>
     rcases x3.new _ _ z with z | z | z
     ·rw[h1] at z;cases z
     ·rw[h3] at z;cases z
     ·exact absurd z h2
   ·rcases x3.own _ z with z | z
    ·exact h2 z
    ·rw[h3] at z;cases z
  obtain⟨fd,od,hdd⟩:=step fd0 od0 hdd0 xa;split at ec
  ·cases ec
  ·rename_i ρ2 eb;refine⟨_,Fc,ρc,d,ρ2,Gc,idl,eb,fun σ2 H2 F2 G2 x2 =>?_⟩
   obtain⟨k,ρ3,ek,ec⟩:=bf ec;obtain⟨fd2,od2,hdd2⟩:=step fd od hdd x2;refine⟨_,F2,ρ2,k,ρ3,G2,ek,fun H3 F3 G3 x3 =>?_⟩
   obtain⟨fd3,od3,hdd3⟩:=step fd2 od2 hdd2 x3;cases k with
   | false =>
    refine iteF (hM _ _ _ ⟨F3,ρ3,yd,G3,(xc.trans x2).trans x3,fd3,od3,hdd3,(iy.mono x2.sub).mono x3.sub,ec⟩)
   | true =>
    obtain⟨y,ρ4,ey,ec⟩:=bf ec;refine iteT ⟨_,F3,ρ3,y,ρ4,G3,ey,fun v H4 F4 G4 x4 iv =>?_⟩
    obtain⟨fd4,od4,hdd4⟩:=step fd3 od3 hdd3 x4;refine⟨hdd4,?_,hM _ _ _ ⟨F4,ρ4,yd++[y],G4.upd fd4 od4 _ (fun _ _ _ z=>by rw[hdd4] at z;cases z),(((xc.trans x2).trans x3).trans x4).upd hd,fd4,od4,gq,?_,ec⟩⟩
    ·have:=agn ec;rw[eE,iy.length] at this;rw[gM];exact bL (by simpa using jU ys.length) (cM this hz)
    ·exact(((iy.mono x2.sub).mono x3.sub).mono x4.sub).append (.cons iv .nil)
 ·rintro ys σc Hc ⟨Fc,ρc,yd,Gc,xc,fd,od,hdd,iy,ec⟩
  rw[tD (aN _)] at ec;obtain⟨rfl,rfl⟩:=kj (show ret yd ρc=_ from ec)
  have fin:Fin K Fc Hc (pick src σ) ps (Own ps σc):=⟨fun i l' e=>by
   obtain⟨o,ho,a,ws,rfl,hf,hh,hl,ht⟩:=Gc.at e;rw[ht i rfl];exact⟨⟨i,⟨_,_,e⟩,ho⟩,hf,ws,hh,hl⟩⟩
  refine q _ Hc Fc (ad0 G1 L xc Gc.sub fin) (x1.trans (afg G1 L xc)) ⟨dd,ys,rfl,.inl (x1.there dd hd),fd,hdd,iy,fun⟨j,w⟩ =>?_⟩
  exact G1.own_ne hd ⟨j,adz w⟩ rfl
theorem lu{ifs:List Expr}{scope:Scope}{mi:M (List D)}{bb:D->Ro->Option Ro}{mc:M Bool}{me:M D}(fr N:List Str)(src:List (Option Nat))(hc:X.calm=true)(hi:IT K X tgt iter mi)
  (hg:∀fp s H,GV K (cxC X N scope fr fp s H) tgt bb) (ht:∀fp s H,EIf K (cxC X N scope fr fp s H) ifs mc) (he:∀fp s H,EV K (cxC X N scope fr fp s H) elt me)
  (hok:ahi X.env X.N scope fr N src=true:=by rfl) (hkind:scope.kind=.function:=by rfl) (hclos:closureFor scope X.env=pure (aam X.env fr):=by rfl)
  (hs:∀x,foldedSetIterable iter X.env x=pure x:=by intro _;rfl):ER K X (.ListComp elt [⟨tgt,iter,ifs,0⟩] scope pos) (ud src mi bb mc me):=ER.mk fun hk=>by
 have hkc:∀fp s H,(cxC X N scope fr fp s H).K=K:=fun _ _ _=>hk
 refine PE.imp (ax4 fr N src hc (hi hk) (fun fp s H=>(hg fp s H).go (hkc _ _ _)) (fun fp s H=>(ht fp s H).go (hkc _ _ _)) (fun fp s H=>(he fp s H).go (hkc _ _ _)) hok hkind hclos hs) anb
end
end Dn
namespace Mn
open L2
theorem axr{X:Cx}{tg iter elt:Expr}{ifs:List Expr}{scope:Scope}{cpos pos px:Pos}{wi:TI}{g:TG}{ti:TT}{te:TE}{i:Nat}{x:Str}(fr N:List Str)(src:List (Option Nat))(hN:X.N.Nodup)(hxi:X.N[i]? = some x)(hx:Loc X.env.scope x)(hc:X.calm=true)(hi:PI X tg iter wi)
  (hg:∀fp s H,PG (cxC X N scope fr fp s H) tg g) (ht:∀fp s H,PIf (cxC X N scope fr fp s H) ifs ti) (he:∀fp s H,PE (cxC X N scope fr fp s H) elt te)
  (hsw:lO (.ListComp elt [⟨tg,iter,ifs,0⟩] scope cpos) (some (.Name x px)) pos.line X.env=pure true:=by rfl)
  (hok:ahi X.env X.N scope fr N src=true:=by rfl) (hkind:scope.kind=.function:=by rfl) (hclos:closureFor scope X.env=pure (aam X.env fr):=by rfl)
  (hs:∀x,foldedSetIterable iter X.env x=pure x:=by intro _;rfl) (hf:X.fn x=true∨X.env.scope.names.lookup x=some .local:=by first | exact .inl rfl | exact .inr rfl | assumption) :
  PS X (.Assign [.Name x px] (.ListComp elt [⟨tg,iter,ifs,0⟩] scope cpos) pos) (tAsg (axf wi g ti te src) (ay1 i)):=by
 have C:=CompOk.of hok;intro zv s σ H D I h;rw[exec_Assign_Name_used _ _ _ _ hsw];refine aA (iH (aA ?_));show wpAny _ _ (comprehension (.ListComp elt [⟨tg,iter,ifs,0⟩] scope cpos) scope X.env (firstIterPos [⟨tg,iter,ifs,0⟩] cpos) (newList []) (firstAsync [⟨tg,iter,ifs,0⟩]) (firstIter [⟨tg,iter,ifs,0⟩] X.env) (some (oY (.Name x px) X.env)) >>= fun _=>pure ()) _ _ _
 refine aA (wpAny_comprehension_free (use:=some (oY (.Name x px) X.env)) (Q:=fun _ s'=>wpAny (model X.prog X.w) X.A (pure ()) (fun _ s''=>wpAny (model X.prog X.w) X.A (pure tU) (SP X zv D) X.xe s'') X.xe s') rfl hs hclos hkind C.loc (aW (hi zv s σ H _ I h) (fun v s1 h1=>aW h1 (fun itv s2 h2 =>?_) fun _ _ e=>e) fun _ _ e=>e))
 obtain⟨it,fp,tn,J,H2,e,I2,T,st2,f2,q2⟩:=h2;subst e;have hd0:H2 s2.heap.objs.size=none:=I2.hok.fresh (aN _);obtain⟨W,⟨m0,w0⟩,turn⟩:=q2 s2.heap.objs.size hd0;refine bR ?_;generalize hs3:({ s2 with heap:=s2.heap.push { cls:=.type "list", dict:=none,data:=.seq ([]:List Value).toArray } }:aF)=s3
 have keep2:∀b o,s2.heap.get? b=some o->s3.heap.get? b=some o:=fun b o e=>by rw[<-hs3];exact aB _ e
 have I3:Inv X zv σ (upd H2 s2.heap.objs.size (.lst [])) s3:=by
  rw[<-hs3];exact I2.laid (t':=s2.toks) (fun b u q=>aB _ q) (aN _) ⟨Nat.zero_le _,[],0,.nil,aL _ rfl⟩
 have ne0:∀b∈fp,b≠s2.heap.objs.size:=fun b hb=>by
  obtain⟨o,e,_⟩:=T.obj _ _ st2 b hb;exact bC (aP e)
 have f3:∀b∈fp,FpOk X zv (upd H2 s2.heap.objs.size (.lst [])) b:=fun b hb=>⟨by rw[dj (ne0 b hb)];exact(f2 b hb).1,(f2 b hb).2⟩
 have lt3:∀b∈fp,b < s3.heap.objs.size:=fun b hb=>by
  obtain⟨o,e,_⟩:=T.obj _ _ st2 b hb;exact aP (keep2 b o e)
 refine wpAny_newFunctionEnv C.cell (by intro y hy;simp at hy) (fun h₁ hns₁ hsb₁ =>?_) hkind
 have keep3:∀b o,s3.heap.get? b=some o->h₁.get? b=some o:=fun b o e=>hsb₁.extBut b o (bC (aP e)) (aB _ e)
 have st4:tn 0 h₁:=T.keep _ _ _ st2 fun b hb o e=>keep3 b o (keep2 b o e)
 have I4:=amw (tk:=s3.toks+([]:List (Str×Value)).length) I3 C hkind f3 lt3 hns₁ keep3;have loop:=aj3 (X:=cxC X N scope fr fp s3 (upd H2 s2.heap.objs.size (.lst []))) (iter:=iter) (scope:=scope) (pos:=cpos) (d:=s2.heap.objs.size) (Q:=fun v H1=>D.nx (σ.set i (some v)) H1)
  (R:=compPost (model X.prog X.w) X.A X.xe (some (oY (.Name x px) X.env)) (fun _ s'=>wpAny (model X.prog X.w) X.A (pure ()) (fun _ s''=>wpAny (model X.prog X.w) X.A (pure tU) (SP X zv D) X.xe s'') X.xe s') (.ref s2.heap.objs.size) s3.heap.objs.size) hc rfl T
  (fun H' hn b hb=>⟨hn b hb,bC (lt3 b hb),I4.ok.exfs b hb,.inl hb,(I4.ok.exf b hb).2,fun p hp=>absurd (show p∈([]:List (Addr×Obj)) from hp) (by simp)⟩)
  (hg fp s3 _) (ht fp s3 _) (he fp s3 _) turn w0 I4 st4 (fun b hb=>(f3 b hb).1) (fun σ' H' s' I6 qn=>by
   obtain⟨m6,hn6,_⟩:=I6.loc;have fC:FpOk X zv H' s3.heap.objs.size:=I3.fpOk (aN _) I6.free;have I7:Inv X zv σ H' s':=amx I3 f3 I6 (vX ..);refine wpAny_assign_Name (ait I7 hN hxi hx (v:=.ref s2.heap.objs.size) rfl (fun s8 I8 ⟨a,sb,ha⟩ =>?_) hf)
   have hne:s3.heap.objs.size≠a:=by
    rcases ha with rfl | ha
    ·exact fC.2.1
    ·exact(fC.2.2.2.2.1 x a ha).symm
   obtain⟨o6,es6,ep6,g6,r6⟩:=hn6;refine⟨m6,⟨o6,es6,ep6,(sb.2 _ hne).trans g6,r6⟩,fun h9 sb9=>aD (aD ⟨_,H',?_,qn⟩)⟩
   exact I8.turned (t':=s8.toks) (it:=s3.heap.objs.size) (fun b o hb e=>(sb9.2 b hb).trans e) fC.1 fC.2.1 fC.2.2.2.1 fC.2.2.2.2.1 fC.2.2.2.2.2)
 exact codeAny_compStart_list loop (T.self _ 0 _ _ _ st4 loop)
end Mn
namespace Dn
open L2 Mn
section
variable{K:Fg9}{X:Cx}{tgt iter elt:Expr}{pos p:Pos}
theorem afj{i:Nat}{x:Str}{ifs:List Expr}{scope:Scope}{cpos:Pos}{mi:M (List D)}{bb:D->Ro->Option Ro}{mc:M Bool}{me:M D}(fr N:List Str)(src:List (Option Nat))(hN:X.N.Nodup)(hxi:X.N[i]? = some x)(hx:Loc X.env.scope x)(hc:X.calm=true)(hi:IT K X tgt iter mi)
  (hg:∀fp s H,GV K (cxC X N scope fr fp s H) tgt bb) (ht:∀fp s H,EIf K (cxC X N scope fr fp s H) ifs mc) (he:∀fp s H,EV K (cxC X N scope fr fp s H) elt me)
  (hsw:lO (.ListComp elt [⟨tgt,iter,ifs,0⟩] scope cpos) (some (.Name x p)) pos.line X.env=pure true:=by rfl)
  (hok:ahi X.env X.N scope fr N src=true:=by rfl) (hkind:scope.kind=.function:=by rfl) (hclos:closureFor scope X.env=pure (aam X.env fr):=by rfl)
  (hs:∀x,foldedSetIterable iter X.env x=pure x:=by intro _;rfl) (hf:X.fn x=true∨X.env.scope.names.lookup x=some .local:=by first | exact .inl rfl | exact .inr rfl | assumption) :
  SV K X (.Assign [.Name x p] (.ListComp elt [⟨tgt,iter,ifs,0⟩] scope cpos) pos) (dSet i (ud src mi bb mc me)):=SV.mk fun hk=>by
 have hkc:∀fp s H,(cxC X N scope fr fp s H).K=K:=fun _ _ _=>hk
 refine PS.imp (axr fr N src hN hxi hx hc (hi hk) (fun fp s H=>(hg fp s H).go (hkc _ _ _)) (fun fp s H=>(ht fp s H).go (hkc _ _ _)) (fun fp s H=>(he fp s H).go (hkc _ _ _)) hsw hok hkind hclos hs hf) fun E σ H ⟨tg,F,ρ,fl,ρ',G,em,q⟩=>xn em q fun r ρ1 e1 em =>?_
 cases em;refine anb σ H _ ⟨tg,F,ρ,r,ρ1,G,e1,fun v H' F' G' x rr =>?_⟩
 obtain⟨G2,x2⟩:=G'.store x i rr;exact q _ H' F' G2 x2
end
@[irreducible] def fuel:Nat:=1000000000
section
variable{K:Fg9}{X:Cx}{e a b c:Expr}{es:List Expr}{pos p p2:Pos}
noncomputable def arx(neg:Bool):D->List D->Option D
 | .int i,[.int x,.int y]=>some (.bl (if neg then !(decide (x<=i)&&decide (i < y)) else (decide (x<=i)&&decide (i < y))))
 | _,_=>none
def a1w(neg:Bool)(m1:M D)(m2:M (List D)):M D:=m1.bind fun x=>m2.bind fun ds=>lift (arx neg x ds)
def isN:D->Bool
 | .non=>true
 | _=>false
def mIsN(neg:Bool)(m:M D):M D:=m.bind fun d=>ret (.bl (if neg then !isN d else isN d))
theorem azr{F H:Hp}{d:D}{x:V}(h:Bor K F H d x):decide (x=.non)=isN d:=by
 rcases h with h | ⟨a,vs,l',rfl,rfl,_⟩
 ·cases h <;> first | rfl | (simp[isN])
 ·simp[isN]
theorem ayv{neg:Bool}{m:M D}{t:TE->TE}(ht:∀te σ H Q,t te σ H Q=te σ H fun x H1=>Q (.bl (if neg then !decide (x=.non) else decide (x=.non))) H1)(σ:L2.St)(H:Hp)(Q:VK)(h:T K (relD K) (mIsN neg m) σ H Q):t (T K (relB K) m) σ H Q:=by
 rw[ht];obtain⟨tg,F,ρ,d,ρ',G,em,q⟩:=h;obtain⟨d1,ρ1,e1,em⟩:=bf em;obtain⟨rfl,rfl⟩:=kj em;refine⟨tg,F,ρ,d1,_,G,e1,fun v H' F' G' x r =>?_⟩
 show Q (.bl (if neg then !decide (v=.non) else decide (v=.non))) H'
 rw[azr r];exact q _ H' F' G' x (.bl _)
theorem avk{neg:Bool}{m:M D}{t:TE->TE}(ht:∀te σ H Q,t te σ H Q=te σ H fun x H1=>Q (.bl (if neg then !decide (x=.non) else decide (x=.non))) H1)(σ:L2.St)(H:Hp)(Q:Bool->Hp->Prop)(h:TB K (zx (mIsN neg m)) σ H Q):tB (t (T K (relB K) m)) σ H Q:=by
 obtain⟨tg,F,ρ,k,ρ',G,em,q⟩:=h;obtain⟨d1,ρ1,e1,em⟩:=bf em;obtain⟨e3,rfl⟩:=gr em;obtain rfl:=ano e3;refine ayv ht σ H _ ⟨tg,F,ρ,_,_,G,e1,fun v H' F' G' x r =>?_⟩
 cases r;exact⟨k,rfl,q H' F' G' x⟩
theorem asf{j:Nat}{m:M D}(h:EB K X a m):ET K X (.Compare a [.Is] [.Constant .none j p] p2) (zx (mIsN false m)):=ET.mk fun hk=>PT.imp (a0s (a1b (h hk))) (avk (t:=tIsN) fun _ _ _ _=>rfl)
end
def al1(f:Fd):Prop:=∀ns:List Int,ns.length<=63->∃ps,f [.val (.kst (ns.map D.int))]=some (.ok (.v (.bl true)),ps)
theorem a0f{K:Fg9}{f:Fd}(h:al1 f)(H:Hp)(a:Addr)(ns:List Int)(hn:ns.length<=63)(hS:SqL K H a (ns.map V.int)):spOf K 1 f [.ref a] H (fun v _=>v=.bl true) fun _ _ _=>False:=by
 obtain⟨ps,e⟩:=h ns hn;refine⟨rfl,H,_,_,ps,⟨Same.refl H,rfl,fun i s o e1 e2 =>?_,fun i j b ⟨⟨t,l,e1⟩,_⟩ _=>by cases i <;> simp at e1⟩,e,fun v H' F' O' _ _ _ rr =>?_⟩
 ·cases i with
  | zero =>
   simp at e1 e2;subst e1 e2;exact⟨_,rfl,.kst hS (adm ns)⟩
  | succ i=>simp at e1
 ·have rr:Is K F' (.bl true) v:=rr;cases rr;rfl
theorem walk{l:qY}{q:bJ}{loose:List Str}{XP:(Str->Option Value)->Heap->Prop}{YP:World->Heap->Prop}{d:DefRec}{K:Params->Fg9}{f:Fd}{k:Nat}(ht:al1 f)(hn:l.most=some 63)(hdf:d.params.defaults=[])(hr:Room k pW)
  (hY:∀(w:World) (h:Heap),YP w h->(K w.params).In h)
  (F:∀(w:World) (mg:Str->Option Value) (fa:Addr) (h:Heap),(K w.params).In h->h.Ns aH mg->mg d.name=some (.ref fa) ->
   ∃fd:eG,(∀(s:aF) (u:Value),nW s fd ⟨[u],[]⟩ [("script", u)])/\∀base:Heap,(K w.params).In base->base.Ns aH mg->FnOk l.prog w (K w.params) mg base CX0 k fa fd ["script"] (spOf (K w.params) 1 f)) :
  xY q loose XP YP l.row.toRowW d [] (fun f vs=>vK f vs) :=
 L2.aw5 (n:=63) (k:=k) (x := "script") (CX:=fun _=>CX0) (sp:=fun w=>spOf (K w.params) 1 f) hn (by decide) hdf hr hY F (fun _ H a ns hl _ hS=>a0f ht H a ns hl hS) fun _ _ _ _ _ z=>z
section
variable{α β:Type}(ρ:Ro)
@[simp] theorem a8v(a:α):ret a ρ=some (.ok a,ρ):=rfl
@[simp] theorem a7f(o:Option α):lift o ρ=match o with
 | some a=>some (.ok a,ρ)
 | none=>none:=rfl
@[simp] theorem a8n(m:M α)(k:α->M β):M.bind m k ρ=match m ρ with
 | some (.ok a,ρ1)=>k a ρ1
 | some (.exc x,ρ1)=>some (.exc x,ρ1)
 | none=>none:=rfl
@[simp] theorem v_ap(m:M D):M.v m ρ=(m.bind fun d=>ret (.v d)) ρ:=rfl
@[simp] theorem d_ap(m:M Rv):M.d m ρ=(m.bind fun r=>ret r.d) ρ:=rfl
@[simp] theorem a9e(d:D):(Rv.v d).d=d:=rfl
@[simp] theorem a8u(l:List D):(Rv.fr l).d=.lst l:=rfl
@[simp] theorem a8t(d:D)(l:List D):(Rv.tf d l).d=.tup [d,.lst l]:=rfl
@[simp] theorem a9d(d:D):(Rv.v d).sl=.val d:=rfl
@[simp] theorem a8s(l:List D):(Rv.fr l).sl=.own none l:=rfl
@[simp] theorem a6q(i:Nat):mVar i ρ=match ρ[i]? with
 | some (.val d)=>some (.ok d,ρ)
 | some (.own none l)=>some (.ok (.lst l),ρ.set i (.val (.lst l)))
 | _=>none:=rfl
@[simp] theorem a3x(i:Nat):dw i ρ=match ρ[i]? with
 | some (.val d)=>some (.ok d,ρ)
 | some (.own _ l)=>some (.ok (.lst l),ρ)
 | _=>none:=rfl
@[simp] theorem a4e(i:Nat):af2 i ρ=match ρ[i]? with
 | some (.val d)=>some (.ok (.v d),ρ)
 | some (.own none l)=>some (.ok (.fr l),ρ.set i .emp)
 | _=>none:=rfl
@[simp] theorem a6v(i:Nat):mOwn i ρ=match ρ[i]? with
 | some (.own _ l)=>some (.ok l,ρ)
 | _=>none:=rfl
@[simp] theorem a1s(i:Nat)(l':List D):adh i l' ρ=match ρ[i]? with
 | some (.own t _)=>some (.ok (),bT ρ i (.own t l'))
 | _=>none:=rfl
@[simp] theorem a4c(m1 m2:M D):gj m1 m2 ρ=(m1.bind fun x=>m2.bind fun y=>ret (x,y)) ρ:=rfl
@[simp] theorem a1t(i:Nat)(m2:M D):bj i m2 ρ=((dw i).bind fun _=>m2.bind fun y=>(dw i).bind fun x=>ret (x,y)) ρ:=rfl
@[simp] theorem a8z(g:D->D->Option Rv)(m:M (D×D)):mOp g m ρ=(m.bind fun p=>lift (g p.1 p.2)) ρ:=rfl
@[simp] theorem a8x(g:D->Option D)(m:M D):mUn g m ρ=(m.bind fun d=>lift (g d)) ρ:=rfl
@[simp] theorem a7d(m1 m2:M D):mAnd m1 m2 ρ=(m1.bind fun d=>(lift (asB d)).bind fun k=>if k=true then m2 else ret (.bl false)) ρ:=rfl
@[simp] theorem a8y(m1 m2:M D):mOr m1 m2 ρ=(m1.bind fun d=>(lift (asB d)).bind fun k=>if k=true then ret (.bl true) else m2) ρ:=rfl
@[simp] theorem a3z(m:M D):zx m ρ=(m.bind fun d=>lift (asB d)) ρ:=rfl
@[simp] theorem a1r(g:D->D->Option Rv)(m:M (D×D)):j7 g m ρ=zx (mOp g m).d ρ:=rfl
@[simp] theorem a4d(m:M Bool):ad9 m ρ=(m.bind fun k=>ret (!k)) ρ:=rfl
@[simp] theorem a4m(m1 m2:M Bool):ays m1 m2 ρ=(m1.bind fun k=>if k=true then m2 else ret false) ρ:=rfl
@[simp] theorem a6w(m1 m2:M Bool):mOrB m1 m2 ρ=(m1.bind fun k=>if k=true then ret true else m2) ρ:=rfl
@[simp] theorem a80(m:M Bool)(m1 m2:M α):mIf m m1 m2 ρ=(m.bind fun k=>if k=true then m1 else m2) ρ:=rfl
@[simp] theorem a82(c:Prop)[Decidable c](m1 m2:M α):(if c then m1 else m2) ρ=if c then m1 ρ else m2 ρ:=by split <;> rfl
@[simp] theorem a7m(c:Prop)[Decidable c](m1 m2:Sd):(if c then m1 else m2) ρ=if c then m1 ρ else m2 ρ:=by split <;> rfl
@[simp] theorem a9c(b:Bool):asB (.bl b)=some b:=rfl
@[simp] theorem a8q(b:Int):asI (.int b)=some b:=rfl
@[simp] theorem a7v(b:Bool):gNot (.bl b)=some (.bl (!b)):=rfl
@[simp] theorem a4p(b:Int):gNeg (.int b)=some (.int (-b)):=rfl
@[simp] theorem a5e(i j:Int):gAdd (.int i) (.int j)=some (.v (.int (i+j))):=rfl
@[simp] theorem a5c(l k:List D):gAdd (.tup l) (.tup k)=if l.length+k.length<=capS then some (.v (.tup (l++k))) else none:=rfl
@[simp] theorem a5d(l k:List D):gAdd (.lst l) (.lst k)=if l.length+k.length<=capS then some (.fr (l++k)) else none:=rfl
@[simp] theorem a4u(f:Int->Int->Option Int)(i j:Int):gInt f (.int i) (.int j)=(f i j).map fun k=>.v (.int k):=rfl
@[simp] theorem a74(i j:Int):fSub i j=some (i - j):=rfl
@[simp] theorem a4s(i j:Int):gMul (.int i) (.int j)=(fMul i j).map fun k=>.v (.int k):=rfl
@[simp] theorem a4q(l:List D)(k:Int):gMul (.tup l) (.int k)=if k=1 then some (.v (.tup l)) else if l≠[]/\2<=k/\k < 9223372036854775808/\l.length*k.toNat<=capS then some (.v (.tup (aM k.toNat l).flatten)) else none:=rfl
@[simp] theorem a4r(l:List D)(k:Int):gMul (.lst l) (.int k)=if k.natAbs < 9223372036854775808/\l.length*k.toNat<=capS then some (.fr (aM k.toNat l).flatten) else none:=rfl
@[simp] theorem a4z(f:Int->Int->Bool)(i j:Int):gCmp f (.int i) (.int j)=some (.v (.bl (f i j))):=rfl
@[simp] theorem a67(t:Ty)(m:M D):mIsi t m ρ=(m.bind fun d=>ret (.bl (isTy t d))) ρ:=rfl
@[simp] theorem a2b(f g:Int->Int->Bool)(m1 m2 m3:M D):ajh f g m1 m2 m3 ρ=(m1.bind fun x=>m2.bind fun y=>match x,y with
 | .int i,.int j=>if f i j=true then m3.bind fun z=>match z with
  | .int k=>ret (.bl (g j k))
  | _=>lift none
  else ret (.bl false)
 | _,_=>lift none) ρ:=rfl
@[simp] theorem a6x:mNil ρ=some (.ok [],ρ):=rfl
@[simp] theorem a4j(m:M D)(ms:M (List D)):aq m ms ρ=(m.bind fun d=>ms.bind fun ds=>ret (d::ds)) ρ:=rfl
@[simp] theorem a2a(i:Nat)(ms:M (List D)):jl i ms ρ=((dw i).bind fun _=>ms.bind fun ds=>(dw i).bind fun d=>ret (d::ds)) ρ:=rfl
@[simp] theorem a6r(m:M (List D)):mTup m ρ=(m.bind fun ds=>lift (gTup ds)) ρ:=rfl
@[simp] theorem a6z(m:M (List D)):mLst m ρ=(m.bind fun ds=>lift (gLst ds)) ρ:=rfl
@[simp] theorem a4l(g:List D->Option Rv)(m:M (List D)):jk g m ρ=(m.bind fun ds=>lift (g ds)) ρ:=rfl
@[simp] theorem a85(f:D->Option Rv)(d:D):g1 f [d]=f d:=rfl
@[simp] theorem a84(f:D->D->Option Rv)(d d':D):g2 f [d,d']=f d d':=rfl
@[simp] theorem a2l(l:List D):itemsD (.tup l)=some l:=rfl
@[simp] theorem a2m(l:List D):itemsD (.lst l)=some l:=rfl
@[simp] theorem a2n(l:List D):itemsD (.kst l)=some l:=rfl
@[simp] theorem a5b(l:List D):gAll (.lst l)=(w6 l).map fun bs=>.v (.bl (bs.all id)):=rfl
@[simp] theorem a2t(i:Int):avu (.int i)=some (.v (.int i)):=rfl
@[simp] theorem a4v(i:Bool):avu (.bl i)=some (.v (.int (if i then 1 else 0))):=rfl
@[simp] theorem a7y(d:D)(k:Int):gIx d (.int k)=(itemsD d).bind fun l=>(atI l k).map fun x=>.v x:=rfl
@[simp] theorem a7c(m:M D)(ml mh:M (Option Int)):mCut m ml mh ρ=(m.bind fun d=>ml.bind fun lo=>mh.bind fun hi=>lift (gCut d lo hi)) ρ:=rfl
@[simp] theorem a4i(i:Nat)(ml mh:M (Option Int)):aox i ml mh ρ=((dw i).bind fun _=>ml.bind fun lo=>mh.bind fun hi=>(dw i).bind fun d=>lift (gCut d lo hi)) ρ:=rfl
@[simp] theorem a4b(m:M D):ah9 m ρ=(m.bind fun d=>lift ((asI d).map some)) ρ:=rfl
@[simp] theorem a4w(l:List D)(lo hi:Option Int):gCut (.tup l) lo hi=some (.v (.tup (cutD l lo hi))):=rfl
@[simp] theorem a4x(l:List D)(lo hi:Option Int):gCut (.lst l) lo hi=some (.fr (cutD l lo hi)):=rfl
@[simp] theorem a4y(l:List D)(lo hi:Option Int):gCut (.kst l) lo hi=some (.fr (cutD l lo hi)):=rfl
@[simp] theorem a1v(neg:Bool)(m1:M D)(m2:M (List D)):a1w neg m1 m2 ρ=(m1.bind fun x=>m2.bind fun ds=>lift (arx neg x ds)) ρ:=rfl
@[simp] theorem az0(neg:Bool)(i x y:Int):arx neg (.int i) [.int x,.int y]=some (.bl (if neg then !(decide (x<=i)&&decide (i < y)) else (decide (x<=i)&&decide (i < y)))):=rfl
@[simp] theorem a68(neg:Bool)(m:M D):mIsN neg m ρ=(m.bind fun d=>ret (.bl (if neg then !isN d else isN d))) ρ:=rfl
@[simp] theorem a1u(m:M D):qd m ρ=(m.bind fun d=>lift (itemsD d)) ρ:=rfl
@[simp] theorem a7a(g:α->Option β)(m:M α):mGet g m ρ=(m.bind fun ds=>lift (g ds)) ρ:=rfl
@[simp] theorem alg(j:Int):u6 [.int j]=if j.natAbs < 4611686018427387904 then some (rangeD 0 j.toNat) else none:=rfl
@[simp] theorem ay0(i j:Int):aid [.int i,.int j]=if i.natAbs < 4611686018427387904/\j.natAbs < 4611686018427387904 then some (rangeD i (j - i).toNat) else none:=rfl
@[simp] theorem ay7(i j:Int):aif (.int i) (.int j)=if 0 < j/\j < 1000000000000000000000000000000000000000000000000000000000000 then some (.v (.tup [.int (i / j),.int (i % j)])) else none:=rfl
@[simp] theorem a6y(i:Nat)(g:List D->List D->Option (D×List D))(ms:M (List D)):mMut i g ms ρ=((mOwn i).bind fun _=>ms.bind fun ds=>(mOwn i).bind fun l=>(lift (g l ds)).bind fun r=>(adh i r.2).bind fun _=>ret r.1) ρ:=rfl
@[simp] theorem aza(l:List D)(d:D):acq l [d]=if l.length < capS then some (.non,l++[d]) else none:=rfl
@[simp] theorem a4h:gn ρ=some (.ok [],ρ):=rfl
@[simp] theorem a1y(m:M D)(ms:M (List (Option D))):bu m ms ρ=(m.bind fun d=>ms.bind fun ds=>ret (some d::ds)) ρ:=rfl
@[simp] theorem a1x(j:Nat)(ms:M (List (Option D))):fu j ms ρ=((dw j).bind fun _=>ms.bind fun ds=>ret (none::ds)) ρ:=rfl
@[simp] theorem a81(f:Fd)(js:List (Option Nat))(ms:M (List (Option D))):mFn f js ms ρ=(ms.bind fun ds ρ=>if okJs ρ js=true then match f (lend ρ js ds) with
  | some (.ok r,ps)=>some (.ok r,putB ρ js ps)
  | some (.exc x,ps)=>some (.exc x,putB ρ js ps)
  | none=>none
 else none) ρ:=rfl
@[simp] theorem a4k(src:List (Option Nat))(mi:M (List D))(b:D->Ro->Option Ro)(mc:M Bool)(me:M D):ud src mi b mc me ρ=(mi.bind fun l ρ=>if okJs ρ src=true then match compD b mc me l [] (lend ρ src (src.map fun _=>none)) with
  | some (.ok ys,ps)=>if ys.length<=capS then some (.ok (.fr ys),putB ρ src ps) else none
  | some (.exc x,ps)=>some (.exc x,putB ρ src ps)
  | none=>none
 else none) ρ:=rfl
@[simp] theorem a3w:okJs ρ []=true:=rfl
@[simp] theorem a1m(r:List (Option Nat)):okJs ρ (none::r)=okJs ρ r:=rfl
@[simp] theorem a1l(j:Nat)(r:List (Option Nat)):okJs ρ (some j::r)=((match ρ[j]? with
  | some (.own _ _) => !r.contains (some j)
  | _=>true)&&okJs ρ r):=rfl
@[simp] theorem lend_eq(js:List (Option Nat))(ds:List (Option D)):lend ρ js ds=(uX js ds).mapIdx fun i p=>ajk ρ i p.1 p.2:=rfl
@[simp] theorem azy(i j:Nat)(d:Option D):ajk ρ i (some j) d=match ρ[j]? with
  | some (.val d)=>.val d
  | some (.own _ l)=>.own (some i) l
  | _=>.emp:=rfl
@[simp] theorem a7g(i:Nat)(d:D):ajk ρ i none (some d)=.val d:=rfl
@[simp] theorem a7h(i:Nat):ajk ρ i none none=.emp:=rfl
@[simp] theorem a6d(js:List (Option Nat))(ps:Ro):putB ρ js ps=ρ.mapIdx fun j s=>putS js ps j s:=rfl
@[simp] theorem a6c(js:List (Option Nat))(ps:Ro)(j:Nat)(s:Sl):putS js ps j s=match js.findIdx? (fun o=>o==some j) with
 | none=>s
 | some i=>match s with
  | .own t _=>match ps[i]? with
   | some (.own (some i') l')=>if i'=i then .own t l' else .emp
   | _=>.emp
  | s=>s:=rfl
@[simp] theorem a87(nl np:Nat)(g:Sd):fnD nl np g ρ=match g (ρ++aM (nl - np) .emp) with
 | some (.ret r,ρ)=>some (.ok r,ρ.take np)
 | some (.nx,ρ)=>some (.ok (.v .non),ρ.take np)
 | some (.exc x,ρ)=>some (.exc x,ρ.take np)
 | _=>none:=rfl
@[simp] theorem a9a:dNx ρ=some (.nx,ρ):=rfl
@[simp] theorem a8h:dBrk ρ=some (.brk,ρ):=rfl
@[simp] theorem a5j:a8g ρ=some (.cont,ρ):=rfl
@[simp] theorem a8b(g k:Sd):dSeq g k ρ=match g ρ with
 | some (.nx,ρ1)=>k ρ1
 | r=>r:=rfl
@[simp] theorem a9f(m:M α)(k:α->Sd):dM m k ρ=match m ρ with
 | some (.ok x,ρ1)=>k x ρ1
 | some (.exc x,ρ1)=>some (.exc x,ρ1)
 | none=>none:=rfl
@[simp] theorem a8c(m:M Rv):dRet m ρ=dM m (fun r ρ=>some (.ret r,ρ)) ρ:=rfl
@[simp] theorem a9b(m:M Bool)(g k:Sd):dIf m g k ρ=dM m (fun z=>if z=true then g else k) ρ:=rfl
@[simp] theorem a5i(m:M α):ae6 m ρ=dM m (fun _ ρ=>some (.nx,ρ)) ρ:=rfl
@[simp] theorem a8a(i:Nat)(m:M Rv):dSet i m ρ=dM m (fun r ρ=>some (.nx,bT ρ i r.sl)) ρ:=rfl
@[simp] theorem a8k(m:M D)(b:D->Ro->Option Ro):dAsg m b ρ=dM m (fun d ρ=>(b d ρ).map fun ρ'=>(.nx,ρ')) ρ:=rfl
@[simp] theorem a8d(i j:Nat)(m:M (List D)):dPar i j m ρ=dM m (fun ds ρ=>match ds with
 | [d,d']=>some (.nx,bT (bT ρ i (.val d)) j (.val d'))
 | _=>none) ρ:=rfl
@[simp] theorem a79(i:Nat)(mi m:M D):dSub i mi m ρ=(dM m fun d=>dM (mOwn i) fun _=>dM mi fun k=>dM (mOwn i) fun l=>dM (lift ((asI k).bind (ixN l.length))) fun j=>dM (adh i (l.set j d)) fun _=>dNx) ρ:=rfl
@[simp] theorem a8i(f:Int->Int->Int)(i:Nat)(m:M D):dAug f i m ρ=(dM (mVar i) fun x=>dM m fun y=>dM (lift ((asI x).bind fun n=>(asI y).map fun k=>D.int (f n k))) fun z ρ=>some (.nx,bT ρ i (.val z))) ρ:=rfl
@[simp] theorem a8f(m:M (List D))(b:D->Ro->Option Ro)(g:Sd):dFor m b g ρ=dM m (forD b g) ρ:=rfl
@[simp] theorem a5m(i:Nat)(d:D):cj i d ρ=some (bT ρ i (.val d)):=rfl
@[simp] theorem a8p:bNil [] ρ=some ρ:=rfl
@[simp] theorem a5n(b:D->Ro->Option Ro)(bs:List D->Ro->Option Ro)(d:D)(r:List D):jm b bs (d::r) ρ=(b d ρ).bind (bs r):=rfl
@[simp] theorem a8o(n:Nat)(bs:List D->Ro->Option Ro)(l:List D):bTup n bs (.tup l) ρ=if l.length=n then bs l ρ else none:=rfl
end
section
variable(c:Prop)[Decidable c](b:Bool)(ρ:Ro)
@[simp] theorem a7l:(if c then some (Out.ok (D.bl b),ρ) else some (Out.ok (D.bl false),ρ))=some (.ok (.bl (decide c&&b)),ρ):=by by_cases h:c <;> simp[h]
end
@[simp] theorem di{n:Nat}(h:n<=1000):n<=capS:=cM h (by decide)
@[simp] theorem a7u(ds:List D):gTup ds=if ds.length<=capS then some (.tup ds) else none:=rfl
@[simp] theorem a7w(ds:List D):gLst ds=if ds.length<=capS then some (.fr ds) else none:=rfl
@[simp] theorem alv{α:Type}(l:List α)(f:α->Bool):w6 (l.map fun d=>D.bl (f d))=some (l.map f):=by
 have:=aek (l.map f);rw[fD] at this;exact this
def yp(s:Sl):List D->Sl
 | []=>s
 | d::r=>yp (.val d) r
theorem mz{me:M D}{rest:Ro}{f:D->D}:∀{l:List D} {ys:List D} {s:Sl},(∀d∈l,me (.val d::rest)=some (.ok (f d),.val d::rest))->compD (cj 0) (ret true) me l ys (s::rest)=some (.ok (ys++l.map f),yp s l::rest)
 | [],ys,s,_=>by simp[compD,yp]
 | d::r,ys,s,h=>by
  have h1:=h d (bB ..);have ih:=mz (me:=me) (rest:=rest) (f:=f) (l:=r) (ys:=ys++[f d]) (s:=.val d) fun x hx=>h x (aX _ hx)
  simp[compD,h1,ih,yp]
theorem v7{mc:M Bool}{me:M D}{rest:Ro}{p:D->Bool}{f:D->D}:∀{l:List D} {ys:List D} {s:Sl},(∀d∈l,mc (.val d::rest)=some (.ok (p d),.val d::rest))->(∀d∈l,p d=true->me (.val d::rest)=some (.ok (f d),.val d::rest)) ->
  compD (cj 0) mc me l ys (s::rest)=some (.ok (ys++(l.filter p).map f),yp s l::rest)
 | [],ys,s,_,_=>by simp[compD,yp]
 | d::r,ys,s,hc,h=>by
  have h0:=hc d (bB ..);cases hp:p d with
  | true =>
   have h1:=h d (bB ..) hp;have ih:=v7 (mc:=mc) (me:=me) (rest:=rest) (p:=p) (f:=f) (l:=r) (ys:=ys++[f d]) (s:=.val d) (fun x hx=>hc x (aX _ hx)) fun x hx=>h x (aX _ hx)
   simp[compD,h0,h1,ih,yp,hp]
  | false =>
   have ih:=v7 (mc:=mc) (me:=me) (rest:=rest) (p:=p) (f:=f) (l:=r) (ys:=ys) (s:=.val d) (fun x hx=>hc x (aX _ hx)) fun x hx=>h x (aX _ hx)
   simp[compD,h0,ih,yp,hp]
@[simp] theorem a5g(b:D->Ro->Option Ro)(g:Sd)(ρ:Ro):forD b g [] ρ=some (.nx,ρ):=rfl
theorem v6(b:D->Ro->Option Ro)(g:Sd)(d:D)(ds:List D)(ρ:Ro):forD b g (d::ds) ρ=match b d ρ with
  | none=>none
  | some ρ1=>match g ρ1 with
   | some (.nx,ρ2)=>forD b g ds ρ2
   | some (.cont,ρ2)=>forD b g ds ρ2
   | some (.brk,ρ2)=>some (.nx,ρ2)
   | some (.ret r,ρ2)=>some (.ret r,ρ2)
   | some (.exc x,ρ2)=>some (.exc x,ρ2)
   | none=>none:=rfl
@[simp] theorem a73{α:Type}(p:α->Bool)(a:α)(l:List α):pL p (a::l)=if p a=true then some 0 else (pL p l).map (· + 1):=by
 rw[List.findIdx?_cons]
@[simp] theorem a88{α:Type}(p:α->Bool):pL p ([]:List α)=none:=rfl
theorem azl(l:List D)(lo hi:Option Int):(cutD l lo hi).length<=l.length:=by
 unfold cutD;rw[fJ,iM];omega
theorem asr(ns:List Int)(lo hi:Option Int):∃ms:List Int,cutD (ns.map D.int) lo hi=ms.map D.int/\ms.length<=ns.length:=by
 refine⟨(ns.drop (HT.sIx ns.length 0 lo)).take (HT.sIx ns.length ns.length hi - HT.sIx ns.length 0 lo),?_,?_⟩
 ·unfold cutD;rw[aU,xZ,yC]
 ·rw[fJ,iM];omega
theorem xg{b:D->Ro->Option Ro}{g:Sd}(Inv:Nat->Ro->Prop):∀{l:List D} {ρ:Ro} (k:Nat),Inv k ρ->(∀i d ρ,l[i]? = some d->Inv (k+i) ρ->∃ρ1 ρ2,b d ρ=some ρ1/\(g ρ1=some (.nx,ρ2)∨g ρ1=some (.cont,ρ2))/\Inv (k+i+1) ρ2) ->
  ∃ρ',forD b g l ρ=some (.nx,ρ')/\Inv (k+l.length) ρ'
 | [],ρ,k,h0,_=>⟨ρ,rfl,h0⟩
 | d::r,ρ,k,h0,hs=>by
  obtain⟨ρ1,ρ2,e1,e2,h1⟩:=hs 0 d ρ rfl h0;obtain⟨ρ',e3,h3⟩:=xg (b:=b) (g:=g) Inv (l:=r) (ρ:=ρ2) (k+1) h1 fun i x ρ hx hi=>by
   have:=hs (i+1) x ρ (by simpa using hx) ((show k+(i+1)=k+1+i by omega)▸hi)
   have e:k+(i+1)+1=k+1+i+1:=by omega
   rw[e] at this;exact this
  refine⟨ρ',?_,?_⟩
  ·rw[v6,e1];rcases e2 with e2 | e2 <;> simp only[e2] <;> exact e3
  ·have e:k+(d::r).length=k+1+r.length:=by simp;omega
   rw[e];exact h3
theorem qy{b:D->Ro->Option Ro}{mc:M Bool}{me:M D}(Inv:Nat->List D->Ro->Prop):∀{l:List D} {ys:List D} {ρ:Ro} (k:Nat),Inv k ys ρ ->
  (∀i d ys ρ,l[i]? = some d->Inv (k+i) ys ρ->∃ρ1 ρ2 z,b d ρ=some ρ1/\mc ρ1=some (.ok z,ρ2)/\((z=false/\Inv (k+i+1) ys ρ2)∨(z=true/\∃y ρ3,me ρ2=some (.ok y,ρ3)/\Inv (k+i+1) (ys++[y]) ρ3))) ->
  ∃ys' ρ',compD b mc me l ys ρ=some (.ok ys',ρ')/\Inv (k+l.length) ys' ρ'
 | [],ys,ρ,k,h0,_=>⟨ys,ρ,rfl,h0⟩
 | d::r,ys,ρ,k,h0,hs=>by
  obtain⟨ρ1,ρ2,z,e1,e2,h1⟩:=hs 0 d ys ρ rfl h0;have nxt:∀{ys':List D} {ρ':Ro},Inv (k+0+1) ys' ρ'->∃ys2 ρ2,compD b mc me r ys' ρ'=some (.ok ys2,ρ2)/\Inv (k+1+r.length) ys2 ρ2:=fun{ys' ρ'} hi =>
   qy (b:=b) (mc:=mc) (me:=me) Inv (l:=r) (ys:=ys') (ρ:=ρ') (k+1) hi fun i x ys ρ hx hi=>by
    have:=hs (i+1) x ys ρ (by simpa using hx) ((show k+(i+1)=k+1+i by omega)▸hi)
    have e:k+(i+1)+1=k+1+i+1:=by omega
    rw[e] at this;exact this
  have el:k+(d::r).length=k+1+r.length:=by simp;omega
  rw[el];rcases h1 with⟨rfl,h1⟩ | ⟨rfl,y,ρ3,e3,h1⟩
  ·obtain⟨ys2,ρ4,e4,h4⟩:=nxt h1;exact⟨ys2,ρ4,by simp[compD,e1,e2,e4],h4⟩
  ·obtain⟨ys2,ρ4,e4,h4⟩:=nxt h1;exact⟨ys2,ρ4,by simp[compD,e1,e2,e3,e4],h4⟩
@[simp] theorem a7z(neg:Bool)(a b:Int):gEq neg (.int a) (.int b)=some (.v (.bl (if neg then !(a==b) else (a==b)))):=rfl
@[simp] theorem a83(neg:Bool)(a b:Bool):gEq neg (.bl a) (.bl b)=some (.v (.bl (if neg then !(a==b) else (a==b)))):=rfl
section
variable{K:Fg9}{X:Cx}{e a b c:Expr}{es:List Expr}{pos p p2:Pos}
noncomputable def yz:List D->Option (List Int)
 | []=>some []
 | .int i::r=>(yz r).map (i :: ·)
 | _::_=>none
theorem aic:∀{l:List D} {ns:List Int},yz l=some ns->l=ns.map D.int
 | [],_,h=>by cases h;rfl
 | .int b::r,bs,h=>by
  have h':(yz r).map (b :: ·)=some bs:=h;cases e:yz r with
  | none=>rw[e] at h';cases h'
  | some t =>
   rw[e] at h';cases h';rw[aic e];rfl
 | .non::_,_,h=>by cases h
 | .bl _::_,_,h=>by cases h
 | .str _::_,_,h=>by cases h
 | .tup _::_,_,h=>by cases h
 | .lst _::_,_,h=>by cases h
 | .kst _::_,_,h=>by cases h
 | .dct _::_,_,h=>by cases h
@[simp] theorem ajp(ns:List Int):yz (ns.map D.int)=some ns:=by
 induction ns with
 | nil=>rfl
 | cons b r ih=>show(yz (r.map D.int)).map (b :: ·)=_;rw[ih];rfl
noncomputable def insI(x:Int):List Int->List Int
 | []=>[x]
 | y::r=>if x<=y then x::y::r else y::insI x r
def sortI:List Int->List Int
 | []=>[]
 | x::r=>insI x (sortI r)
theorem insI_perm(x:Int):∀l:List Int,(insI x l).Perm (x::l)
 | []=>.refl _
 | y::r=>by
  unfold insI;split
  ·exact .refl _
  ·exact((insI_perm x r).cons y).trans (.swap x y r)
theorem sortI_perm:∀l:List Int,(sortI l).Perm l
 | []=>.refl _
 | x::r=>(insI_perm x (sortI r)).trans ((sortI_perm r).cons x)
theorem af7(x:Int):∀{l:List Int},l.Pairwise (· <= ·)->(insI x l).Pairwise (· <= ·)
 | [],_=>by simp[insI]
 | y::r,h=>by
  unfold insI;rw[gH] at h;split
  ·rename_i hxy;rw[gH,gH];refine⟨fun z hz =>?_,h⟩
   rcases bF.mp hz with rfl | hz
   ·exact hxy
   ·exact tR hxy (h.1 z hz)
  ·rename_i hxy;rw[gH];refine⟨fun z hz =>?_,af7 x h.2⟩
   rcases bF.mp ((insI_perm x r).mem_iff.mp hz) with rfl | hz
   ·omega
   ·exact h.1 z hz
theorem aeo:∀l:List Int,(sortI l).Pairwise (· <= ·)
 | []=>.nil
 | x::r=>af7 x (aeo r)
theorem ag1:∀{l k:List Int},l.Perm k->l.Pairwise (· <= ·)->k.Pairwise (· <= ·)->l=k
 | [],k,h,_,_=>h.nil_eq
 | x::r,[],h,_,_=>absurd h.length_eq (by simp)
 | x::r,y::t,h,hl,hk=>by
  rw[gH] at hl hk;have e:x=y:=by
   have h1:x∈y::t:=h.mem_iff.mp (bB ..);have h2:y∈x::r:=h.mem_iff.mpr (bB ..);rcases bF.mp h1 with h1 | h1
   ·exact h1
   ·rcases bF.mp h2 with h2 | h2
    ·exact h2.symm
    ·have a:=hk.1 x h1;have b:=hl.1 y h2;omega
  subst e;rw[ag1 ((List.perm_cons x).mp h) hl.2 hk.2]
theorem atz{l k:List Int}(h:l.Perm k)(hs:l.Pairwise (· <= ·)):l=sortI k:=ag1 (h.trans (sortI_perm k).symm) hs (aeo k)
theorem aem:∀{ns:List Int} {us:List Value},nT us ns->Vals (ns.map V.int) us
 | _,_,.nil=>.nil
 | _,_,.cons n t h=>.cons ⟨t,rfl⟩ (aem h)
noncomputable def art:D->Option Rv
 | .lst l=>(yz l).bind fun ns=>if ns.length < 64 then some (.fr ((sortI ns).map D.int)) else none
 | _=>none
noncomputable def arz(l ds:List D):Option (D×List D):=match ds with
 | [.lst k]=>if l.length+k.length<=capS then some (.non,l++k) else none
 | [.tup k]=>if l.length+k.length<=capS then some (.non,l++k) else none
 | _=>none
@[simp] theorem ay6(l k:List D):arz l [.lst k]=if l.length+k.length<=capS then some (.non,l++k) else none:=rfl
@[simp] theorem ay5(l k:List D):arz l [.tup k]=if l.length+k.length<=capS then some (.non,l++k) else none:=rfl
end
section
variable{K:Fg9}{X:Cx}{e a b c:Expr}{es:List Expr}{pos p p2:Pos}
noncomputable def ady(lt:Int->Int->Bool):List Int->Int
 | []=>0
 | x::r=>r.foldl (fun m y=>if lt y m=true then y else m) x
theorem ate(lt:Int->Int->Bool)(ns:List Int):∀k,k < ns.length->pC (fun i j=>lt (ns.getD i 0) (ns.getD j 0)) k<=k/\ns.getD (pC (fun i j=>lt (ns.getD i 0) (ns.getD j 0)) k) 0=ady lt (ns.take (k+1))
 | 0,h=>by
  cases ns with
  | nil=>simp at h
  | cons x r=>exact⟨Nat.le_refl _,rfl⟩
 | k+1,h=>by
  obtain⟨h1,h2⟩:=ate lt ns k (by omega)
  have ht:ns.take (k+1+1)=ns.take (k+1)++[ns.getD (k+1) 0]:=by
   rw[List.take_add_one,aG h];simp[List.getD,aG h]
  have hb:ady lt (ns.take (k+1+1))=if lt (ns.getD (k+1) 0) (ady lt (ns.take (k+1)))=true then ns.getD (k+1) 0 else ady lt (ns.take (k+1)):=by
   rw[ht];cases ns with
   | nil=>simp at h
   | cons x r=>simp[ady,List.foldl_append]
  have ha:pC (fun i j=>lt (ns.getD i 0) (ns.getD j 0)) (k+1)=if lt (ns.getD (k+1) 0) (ns.getD (pC (fun i j=>lt (ns.getD i 0) (ns.getD j 0)) k) 0)=true then k+1 else pC (fun i j=>lt (ns.getD i 0) (ns.getD j 0)) k:=rfl
  rw[hb,<-h2,ha]
  by_cases hc:lt (ns.getD (k+1) 0) (ns.getD (pC (fun i j=>lt (ns.getD i 0) (ns.getD j 0)) k) 0)=true
  ·rw[if_pos hc,if_pos hc];exact⟨Nat.le_refl _,rfl⟩
  ·rw[if_neg hc,if_neg hc];exact⟨by omega,rfl⟩
theorem av7(lt:Int->Int->Bool)(ns:List Int)(h:ns≠[]):pC (fun i j=>lt (ns.getD i 0) (ns.getD j 0)) (ns.length - 1) < ns.length/\ns.getD (pC (fun i j=>lt (ns.getD i 0) (ns.getD j 0)) (ns.length - 1)) 0=ady lt ns:=by
 have hl:0 < ns.length:=mF.mpr h;obtain⟨h1,h2⟩:=ate lt ns (ns.length - 1) (by omega)
 refine⟨by omega,?_⟩
 rw[h2,show ns.length - 1+1=ns.length by omega,wL]
noncomputable def a2w(lt:Int->Int->Bool):D->Option Rv
 | .lst l=>(yz l).bind fun ns=>if ns=[] then none else some (.v (.int (ady lt ns)))
 | .tup l=>(yz l).bind fun ns=>if ns=[] then none else some (.v (.int (ady lt ns)))
 | _=>none
theorem ali{lt:Int->Int->Bool}{d:D}{r:Rv}(h:a2w lt d=some r):∃ns:List Int,ns≠[]/\r=.v (.int (ady lt ns))/\(d=.lst (ns.map D.int)∨d=.tup (ns.map D.int)):=by
 have go:∀l,(yz l).bind (fun ns=>if ns=[] then none else some (Rv.v (.int (ady lt ns))))=some r->∃ns:List Int,ns≠[]/\r=.v (.int (ady lt ns))/\l=ns.map D.int:=fun l h=>by
  cases e:yz l with
  | none=>rw[e] at h;cases h
  | some ns =>
   rw[e] at h;have h:(if ns=[] then none else some (Rv.v (.int (ady lt ns))))=some r:=h
   split at h
   ·cases h
   ·rename_i hn;cases h;exact⟨ns,hn,rfl,aic e⟩
 cases d with
 | lst l=>obtain⟨ns,h1,h2,rfl⟩:=go l h;exact⟨ns,h1,h2,.inl rfl⟩
 | tup l=>obtain⟨ns,h1,h2,rfl⟩:=go l h;exact⟨ns,h1,h2,.inr rfl⟩
 | _=>cases h
theorem af6{ns:List Int}{its:List Value}(rv:Vals (ns.map V.int) its)(i:Nat)(v:Value)(h:its.toArray[i]? = some v):∃t,v=.int (ns.getD i 0) t:=by
 have h:its[i]? = some v:=by simpa using h
 have hi:i < its.length:=(aK.mp h).1;have hl:=rv.length;rw[aU] at hl;have hi':i < ns.length:=by omega
 obtain⟨u,hu,t,rfl⟩:=rv.get (i:=i) (x:=V.int ns[i]) (by rw[aO,aG hi'];rfl)
 rw[h] at hu;cases hu;exact⟨t,by simp[List.getD,aG hi']⟩
def avt:D->Option Rv:=a2w fun i j=>decide (i < j)
theorem asy(hc:X.calm=true):CallD K X (.builtin "min") (g1 avt):=cd_one fun hk zv s σ0 H x u Q tg F ρ σ d r I ru G bd eg q=>by
 subst hk;obtain⟨ns,hn,rfl,hd⟩:=ali eg;have q':=Res.same G q (.int _);obtain⟨hb1,hb2⟩:=av7 (fun i j=>decide (i < j)) ns hn
 have fin:∀{its:List Value} (rv:Vals (ns.map V.int) its) {v:Value} {h':Heap} {tk:Nat},its.toArray[pC (fun i j=>decide (ns.getD i 0 < ns.getD j 0)) (its.toArray.size - 1)]? = some v->(∀b o,s.heap.get? b=some o->h'.get? b=some o)->EP X zv σ0 Q v { s with heap:=h',toks:=tk }:=fun{its} rv {v h' tk} hv hk=>by
  have hl:=rv.length;rw[aU] at hl;rw[aR,<-hl] at hv;obtain⟨t,rfl⟩:=af6 rv _ v hv;exact⟨.int (ady (fun i j=>decide (i < j)) ns),H,I.kept hk,⟨t,by rw[hb2]⟩,q'⟩
 rcases hd with rfl | rfl
 ·obtain⟨a,vs,rfl,ea,hl⟩:=bd.lst G.sub;rw[hl.int_inv] at ea;cases ru;obtain⟨its,rv,pl,_⟩:=I.list (SqL.of ea);have hl':=pl.isList;have hlt:a < s.heap.objs.size:=by obtain⟨_,e,_⟩:=hl';exact aP e
  have hlen:=rv.length;rw[aU] at hlen;refine call_min_walk (wpAny_pyIter_list hl' ⟨s.heap.objs.size,[s.heap.objs.size,a],[s.heap.objs.size],its.toArray.size,_,_,_,rfl,Walks.list (A:=X.A.in1) (I.ok.hd hc) _ a (bC hlt) its.toArray,
   ⟨⟨_,aL _ rfl,rfl,rfl⟩,hl'.push _⟩,fun b hb =>?_,?_,yG (fun i=>ns.getD i 0) (fun i v=>af6 rv i v),fun v h' tk hP hk=>fin rv hP (sX hk)⟩)
  ·have hs:∀o:Obj,(s.heap.push o).objs.size=s.heap.objs.size+1:=fun o=>cB ..
   show b < (s.heap.push _).objs.size;rw[hs];rcases bF.mp hb with hb | hb
   ·exact hb▸Nat.lt_succ_self _
   ·have hb:b=a:=by simpa using hb
    exact hb▸Nat.lt_succ_of_lt hlt
  ·rw[aR,<-hlen];exact mF.mpr hn
 ·obtain⟨a,vs,rfl,ea,hl⟩:=bd.tup;rw[hl.int_inv] at ea;cases ru;obtain⟨its,rv,pl,_⟩:=I.tuple (SqT.of (G.sub _ _ ea));have hlt:a < s.heap.objs.size:=by obtain⟨_,e,_⟩:=pl;exact aP e
  have hlen:=rv.length;rw[aU] at hlen;refine call_min_walk (wpAny_pyIter_tuple pl ⟨s.heap.objs.size,[s.heap.objs.size,a],[s.heap.objs.size],its.toArray.size,_,_,_,rfl,Walks.tuple (A:=X.A.in1) (I.ok.hd hc) _ a (bC hlt) its.toArray,
   ⟨⟨_,aL _ rfl,rfl,rfl⟩,pl.push _⟩,fun b hb =>?_,?_,yG (fun i=>ns.getD i 0) (fun i v=>af6 rv i v),fun v h' tk hP hk=>fin rv hP (sX hk)⟩)
  ·have hs:∀o:Obj,(s.heap.push o).objs.size=s.heap.objs.size+1:=fun o=>cB ..
   show b < (s.heap.push _).objs.size;rw[hs];rcases bF.mp hb with hb | hb
   ·exact hb▸Nat.lt_succ_self _
   ·have hb:b=a:=by simpa using hb
    exact hb▸Nat.lt_succ_of_lt hlt
  ·rw[aR,<-hlen];exact mF.mpr hn
end
section
variable{K:Fg9}{X:Cx}{e a b c:Expr}{es:List Expr}{pos p p2:Pos}
def rmOf(K:Fg9)(g:D->List D->Option D):V->List V->Hp->VK->Prop:=fun x vs H Q=>∃F d ds r,Same F H/\Bor K F H d x/\IsL K F ds vs/\g d ds=some r/\∀v,Is K F r v->Q v H
def ayp(i:Nat)(g:D->List D->Option D)(ms:M (List D)):M D:=(dw i).bind fun d0=>(lift (match d0 with
 | .lst _=>some ()
 | _=>none)).bind fun _=>ms.bind fun ds=>(dw i).bind fun d=>lift (g d ds)
theorem asd{i:Nat}{name:Str}{id:String}{g:D->List D->Option D}{ms:M (List D)}{apos cpos:Pos}(slot:Slot "list" name id)(hty:typeOf (.builtin id)=pure (.type "method_descriptor"))(hm:X.K=K->MtR X id (rmOf K g))(ho:PE X a (tVar i))(ha:ED K X (e::es) ms)
  (hbase:attributeBase a name X.env (eval a X.env)=eval a X.env:=by rfl)
  (hfew:((iG cpos (aQ (e::es) X.env)).all (fun x => !x.1)&&(backToKw cpos (keywordEach [] X.env)).all (fun x=>x.1.isSome)
   && decide ((e::es).length+([]:List pF).length+(if ([]:List pF).isEmpty then 0 else 1) < 30))=true:=by rfl)
  (hline:(apos.endLine==cpos.line)=true:=by rfl) (hs:aQ (e::es) X.env=(false,eval e X.env)::aQ es X.env:=by rfl) (hplain:(iG cpos (aQ es X.env)).any (·.1)=false:=by rfl) :
  EV K X (.Call (.Attribute a name apos) (e::es) [] cpos) (ayp i g ms):=EV.mk fun hk=>PE.imp (aul nP slot hty (hm hk) ho (ha hk) hbase hfew hline hs hplain) fun σ H Q hq0=>by
 obtain⟨tg,F,ρ,d,ρ',G,em,q⟩:=hq0;obtain⟨d0,ρ0,e0,em1⟩:=bf em;obtain⟨u0,ρ9,e9,em2⟩:=bf em1;obtain⟨ds,ρ1,e1,em3⟩:=bf em2;obtain⟨d1,ρ2,e2,em4⟩:=bf em3;obtain⟨e3,rfl⟩:=gr em4;obtain⟨e9,rfl⟩:=gr e9;obtain⟨rfl,v,hv,bv⟩:=ue G e0;have ty:∃b,v=.ref b/\∃xs,SqL X.K H b xs:=by
  cases d0 with
  | lst l =>
   obtain⟨b,xs,rfl,hb,_⟩:=bv.lst G.sub;exact⟨b,rfl,xs,SqL.of hb⟩
  | _=>cases e9
 obtain⟨b,rfl,hty'⟩:=ty;refine⟨_,hv,.inl ⟨rfl,hty'⟩,tg,F,_,ds,ρ1,G,e1,fun vs H1 F1 G1 x1 r1 =>?_⟩
 obtain⟨rfl,v',hv',b'⟩:=ue G1 e2;rw[hv] at hv';cases hv';exact⟨F1,d1,ds,d,G1.sub,b',r1,e3,fun w iw=>q w H1 F1 G1 x1 iw⟩
noncomputable def ar5(d:D)(ds:List D):Option D:=match d,ds with
 | .lst l,[x]=>if okD 30 x&&l.all (okD 30) then some (.int (l.countP fun y=>eqD y x)) else none
 | _,_=>none
theorem abn{zv:List (Addr×Obj)}{σ:L2.St}{F H:Hp}{s:aF}(I:Inv X zv σ H s)(g:Same F H){a:D}{n:Nat}:∀{ds:List D} {vs:List V} {us:List Value},IsL X.K F ds vs->ds.all (okD n)=true->Vals vs us ->
  us.countP (z6 s.heap (toPy a))=ds.countP (fun y=>eqD y a)
 | _,_,_,.nil,_,r=>by cases r;rfl
 | _,_,_,.cons h t,k,r=>by
  rw[lA,aZ] at k;cases r with
  | cons r1 r2 =>
   obtain⟨as,ra⟩:=zg I g h k.1 r1;obtain⟨c,p⟩:=aaz _ _ k.1;rw[nZ,nZ,abn I g t k.2 r2,afd ra c];rfl
theorem au2(hu:X.A.units+64 < cLine):X.K=K->MtR X "list.count" (rmOf K ar5):=fun hk=>by
 subst hk;intro zv s σ H x vs v us Q I rx rv ⟨F,d,ds,r,g,bd,il,eg,q⟩
 match d,ds,eg with
 | .lst l,[y],eg =>
  have eg:(if okD 30 y&&l.all (okD 30) then some (D.int (l.countP fun z=>eqD z y)) else none)=some r:=eg
  split at eg
  ·rename_i ho;rw[aZ] at ho;cases eg;cases il with
   | cons hy t =>
    cases t;obtain⟨u,rfl,ru⟩:=rv.one;obtain⟨p,ws,rfl,ea,hl⟩:=bd.lst g;cases rx;obtain⟨its,rw',pl,_⟩:=I.list (SqL.of ea);obtain⟨as,ra⟩:=zg I g hy ho.1 ru;obtain⟨_,z⟩:=v8 I g (a:=y) hl ho.2 rw';obtain⟨⟨cls,dd,data,sl⟩,h1,hc,n,hd⟩:=pl.isList;simp only at hc hd;subst hc hd;refine jX sS ⟨_,h1,rfl⟩ PySem.F.entry_list_count (PySem.F.args_list_count_2 _ _) (SeqAt.list_countAt p its.toArray n dd sl u (z6 s.heap (toPy y))) ⟨h1,fun w hw =>?_,?_⟩
    ·exact vd (A:=X.A) hu ra ho.1 z w (by simpa using hw)
    ·refine⟨.int (l.countP fun z=>eqD z y),H,I.tok _,⟨s.toks,?_⟩,q _ (.int _)⟩
     rw[abn I g (a:=y) hl ho.2 rw']
  ·cases eg
noncomputable def ar4(d:D)(ds:List D):Option D:=match d,ds with
 | .tup l,[x]=>if okD 30 x&&l.all (okD 30) then some (.int (l.countP fun y=>eqD y x)) else none
 | _,_=>none
theorem aq6(hu:X.A.units+64 < cLine):X.K=K->MtR X "tuple.count" (rmOf K ar4):=fun hk=>by
 subst hk;intro zv s σ H x vs v us Q I rx rv ⟨F,d,ds,r,g,bd,il,eg,q⟩
 match d,ds,eg with
 | .tup l,[y],eg =>
  have eg:(if okD 30 y&&l.all (okD 30) then some (D.int (l.countP fun z=>eqD z y)) else none)=some r:=eg
  split at eg
  ·rename_i ho;rw[aZ] at ho;cases eg;cases il with
   | cons hy t =>
    cases t;obtain⟨u,rfl,ru⟩:=rv.one;obtain⟨p,ws,rfl,ea,hl⟩:=bd.tup;cases rx;obtain⟨its,rw',pl,_⟩:=I.tuple (SqT.of (g _ _ ea));obtain⟨as,ra⟩:=zg I g hy ho.1 ru;obtain⟨_,z⟩:=v8 I g (a:=y) hl ho.2 rw';obtain⟨⟨cls,dd,data,sl⟩,h1,hc,n,hd⟩:=pl;simp only at hc hd;subst hc hd;refine jX rZ ⟨_,h1,rfl⟩ PySem.F.entry_tuple_count (PySem.F.args_tuple_count_2 _ _) (SeqAt.tuple_countAt p its.toArray n dd sl u (z6 s.heap (toPy y))) ⟨h1,fun w hw =>?_,?_⟩
    ·exact vd (A:=X.A) hu ra ho.1 z w (by simpa using hw)
    ·refine⟨.int (l.countP fun z=>eqD z y),H,I.tok _,⟨s.toks,?_⟩,q _ (.int _)⟩
     rw[abn I g (a:=y) hl ho.2 rw']
  ·cases eg
theorem PE.or{t1 t2:TE}(h1:PE X e t1)(h2:PE X e t2):PE X e fun σ H Q=>t1 σ H Q∨t2 σ H Q:=fun zv s σ H Q I h=>h.elim (h1 zv s σ H Q I) (h2 zv s σ H Q I)
def aig(d:D)(ds:List D):Option D:=match d with
 | .lst _=>ar5 d ds
 | .tup _=>ar4 d ds
 | _=>none
def aeu(i:Nat)(ms:M (List D)):M D:=(dw i).bind fun d0=>ms.bind fun ds=>(dw i).bind fun d=>(lift (match d0,d with
 | .lst _,.lst _=>some ()
 | .tup _,.tup _=>some ()
 | _,_=>none)).bind fun _=>lift (aig d ds)
theorem aau{i:Nat}{ms:M (List D)}{apos cpos:Pos}(hu:X.A.units+64 < cLine)(ho:PE X a (tVar i))(ha:ED K X (e::es) ms)
  (hbase:attributeBase a "count" X.env (eval a X.env)=eval a X.env:=by rfl)
  (hfew:((iG cpos (aQ (e::es) X.env)).all (fun x => !x.1)&&(backToKw cpos (keywordEach [] X.env)).all (fun x=>x.1.isSome)
   && decide ((e::es).length+([]:List pF).length+(if ([]:List pF).isEmpty then 0 else 1) < 30))=true:=by rfl)
  (hline:(apos.endLine==cpos.line)=true:=by rfl) (hs:aQ (e::es) X.env=(false,eval e X.env)::aQ es X.env:=by rfl) (hplain:(iG cpos (aQ es X.env)).any (·.1)=false:=by rfl) :
  EV K X (.Call (.Attribute a "count" apos) (e::es) [] cpos) (aeu i ms):=EV.mk fun hk=>PE.imp (PE.or (aul nP sS PySem.F.type_list_count (au2 hu hk) ho (ha hk) hbase hfew hline hs hplain) (aul PySem.F.plainAttrs_tuple rZ PySem.F.type_tuple_count (aq6 hu hk) ho (ha hk) hbase hfew hline hs hplain)) fun σ H Q hq0=>by
 obtain⟨tg,F,ρ,d,ρ',G,em,q⟩:=hq0;obtain⟨d0,ρ0,e0,em1⟩:=bf em;obtain⟨ds,ρ1,e1,em3⟩:=bf em1;obtain⟨d1,ρ2,e2,em4⟩:=bf em3;obtain⟨u0,ρ9,e9,em5⟩:=bf em4;obtain⟨e3,rfl⟩:=gr em5;obtain⟨g9,rfl⟩:=gr e9;obtain⟨rfl,v,hv,bv⟩:=ue G e0;cases d0 with
 | lst l =>
  cases d1 with
  | lst l1 =>
   obtain⟨b,xs,rfl,hb,_⟩:=bv.lst G.sub;refine .inl ⟨_,hv,.inl ⟨rfl,xs,SqL.of hb⟩,tg,F,_,ds,ρ1,G,e1,fun vs H1 F1 G1 x1 r1 =>?_⟩
   obtain⟨rfl,v',hv',b'⟩:=ue G1 e2;rw[hv] at hv';cases hv';exact⟨F1,.lst l1,ds,d,G1.sub,b',r1,e3,fun w iw=>q w H1 F1 G1 x1 iw⟩
  | _=>cases g9
 | tup l =>
  cases d1 with
  | tup l1 =>
   obtain⟨b,xs,rfl,hb,_⟩:=bv.tup;refine .inr ⟨_,hv,.inr (.inl ⟨rfl,.inr ⟨xs,G.sub _ _ hb⟩⟩),tg,F,_,ds,ρ1,G,e1,fun vs H1 F1 G1 x1 r1 =>?_⟩
   obtain⟨rfl,v',hv',b'⟩:=ue G1 e2;rw[hv] at hv';cases hv';exact⟨F1,.tup l1,ds,d,G1.sub,b',r1,e3,fun w iw=>q w H1 F1 G1 x1 iw⟩
  | _=>cases g9
 | _=>cases d1 <;> cases g9
noncomputable def arv(d:D)(ds:List D):Option D:=match d,ds with
 | .lst l,[x]=>if okD 30 x&&l.all (okD 30) then (l.findIdx? fun y=>eqD y x).map fun i=>.int i else none
 | _,_=>none
theorem anl{zv:List (Addr×Obj)}{σ:L2.St}{F H:Hp}{s:aF}(I:Inv X zv σ H s)(g:Same F H){a:D}{n:Nat}{ds:List D}{vs:List V}{us:List Value}(il:IsL X.K F ds vs)(k:ds.all (okD n)=true)(rv:Vals vs us)(i:Nat)(hi:i < us.length)(hd:i < ds.length) :
  z6 s.heap (toPy a) us[i]=eqD ds[i] a:=by
 obtain⟨v,hv,iv⟩:=il.get (i:=i) (aG hd);obtain⟨u,hu,ru⟩:=rv.get hv;rw[aG hi] at hu;cases hu;have ko:okD n ds[i]=true:=dX.mp k _ (fV hd);obtain⟨as,ra⟩:=zg I g iv ko ru;rw[afd ra (aaz _ _ ko).1];rfl
theorem aml(hu:X.A.units+64 < cLine):X.K=K->MtR X "list.index" (rmOf K arv):=fun hk=>by
 subst hk;intro zv s σ H x vs v us Q I rx rv ⟨F,d,ds,r,g,bd,il,eg,q⟩
 match d,ds,eg with
 | .lst l,[y],eg =>
  have eg:(if okD 30 y&&l.all (okD 30) then (l.findIdx? fun z=>eqD z y).map (fun i=>D.int i) else none)=some r:=eg
  split at eg
  ·rename_i ho;rw[aZ] at ho;cases ei:l.findIdx? (fun z=>eqD z y) with
   | none=>rw[ei] at eg;cases eg
   | some j =>
    rw[ei] at eg;cases eg;obtain⟨hj,hhit,hno⟩:=kZ.mp ei;cases il with
    | cons hy t =>
     cases t;obtain⟨u,rfl,ru⟩:=rv.one;obtain⟨p,ws,rfl,ea,hl⟩:=bd.lst g;cases rx;obtain⟨its,rw',pl,hz⟩:=I.list (SqL.of ea);have l1:=hl.length;have l2:=rw'.length;rw[gM] at hz;obtain⟨as,ra⟩:=zg I g hy ho.1 ru;obtain⟨_,z⟩:=v8 I g (a:=y) hl ho.2 rw';obtain⟨⟨cls,dd,data,sl⟩,h1,hc,n,hd⟩:=pl.isList;simp only at hc hd;subst hc hd;have hj':j < its.toArray.size:=by rw[aR];omega
     refine jX nO ⟨_,h1,rfl⟩ PySem.F.entry_list_index (PySem.F.args_list_index_2 _ _) (SeqAt.list_indexAt p its.toArray n dd sl u (z6 s.heap (toPy y)) j hj' (by omega) ?_ fun m hm hlt =>?_) ⟨h1,fun w hw =>?_,?_⟩
     ·have:=anl I g (a:=y) hl ho.2 rw' j (by omega) hj
      simpa[this] using hhit
     ·rw[aR] at hm;have:=anl I g (a:=y) hl ho.2 rw' m hm (by omega)
      have hn:=hno m hlt
      simpa[this] using hn
     ·exact vd (A:=X.A) hu ra ho.1 z w (by simpa using hw)
     ·exact⟨.int j,H,I.tok _,⟨_,rfl⟩,q _ (.int _)⟩
  ·cases eg
noncomputable def insD(l:List D)(k:Int)(d:D):List D:=let j:=if k < 0 then (k+(l.length:Int)).toNat else min k.toNat l.length;l.take j++d::l.drop j
noncomputable def ay3(l ds:List D):Option (D×List D):=match ds with
 | [.int k,d]=>if -9223372036854775808<=k/\k < 9223372036854775808/\l.length < capS then some (.non,insD l k d) else none
 | _=>none
section
variable(ρ:Ro)
@[simp] theorem a4f(i:Nat)(g:D->List D->Option D)(ms:M (List D)):ayp i g ms ρ=((dw i).bind fun d0=>(lift (match d0 with
 | .lst _=>some ()
 | _=>none)).bind fun _=>ms.bind fun ds=>(dw i).bind fun d=>lift (g d ds)) ρ:=rfl
@[simp] theorem az2(l:List D)(x:D):ar5 (.lst l) [x]=if okD 30 x&&l.all (okD 30) then some (.int (l.countP fun y=>eqD y x)) else none:=rfl
@[simp] theorem azz(l:List D)(x:D):arv (.lst l) [x]=if okD 30 x&&l.all (okD 30) then (l.findIdx? fun y=>eqD y x).map (fun i=>D.int i) else none:=rfl
@[simp] theorem ay2(l:List D)(k:Int)(d:D):ay3 l [.int k,d]=if -9223372036854775808<=k/\k < 9223372036854775808/\l.length < capS then some (.non,insD l k d) else none:=rfl
end
end
end Dn
namespace En
open PySem PySem.Builtin
def It1(k:Bool)(h:Heap)(it l:Addr)(i:Nat):Prop:=cond k (h.IsTupleIter it l i) (h.IsListIter it l i)
def Sq1(k:Bool)(h:Heap)(l:Addr)(xs:Array Value):Prop:=cond k (h.IsTuple l xs) (h.IsList l xs)
section
variable{prog:bJ}{w:World}{A:bW}{E:Value->aF->Prop}{s:aF}
theorem ayg{it t:Addr}{i:Nat}{xs:Array Value}{x:Value}{Q:Value->aF->Prop}(h1:s.heap.IsTupleIter it t i)(h2:s.heap.IsTuple t xs)(hx:xs[i]? = some x)
  (q:∀h',h'.IsTupleIter it t (i+1)->fG it s.heap h'->Q x { s with heap:=h' }):wpAny (model prog w) A (SmallTypes.nextOf (.ref it)) Q E s:=by
 obtain⟨o1,e1,c1,d1⟩:=id h1;obtain⟨o2,e2,_,k2,d2⟩:=h2;have nn:¬((cJ t==cF)=true):=bZ;unfold SmallTypes.nextOf;refine aA (cW (name:=iV "__next__") h1.typeIs jN (dU jN h1.typeIs rD ?_ (qU _)));refine aA (m:=field (.ref it) 0) (cU e1 d1 (x:=.ref t) rfl ?_);show wpAny _ _ (if (cJ t==cF)=true then _ else (field (.ref it) 1 >>= _)) _ _ s;rw[if_neg nn]
 refine aA (m:=field (.ref it) 1) (cU e1 d1 (x:=.int i 0) rfl ?_);refine aA (m:=seqItems? (.ref t)) (gK e2 d2 ?_);simp only[bI,hx];refine aA (eH e1 d1 (by simp) (aD ⟨x,rfl,aD (q _ ?_ (cP ..))⟩))
 refine⟨_,bQ _ e1 (dJ (bK d1 _)),(jH ..).trans c1,?_⟩;rw[bK d1];simp[jM]
theorem azk{it t:Addr}{i:Nat}{xs:Array Value}{Q:Value->aF->Prop}(hh:A.handled=none)(h1:s.heap.IsTupleIter it t i)(h2:s.heap.IsTuple t xs)(hx:xs[i]? = none)
  (q:∀h' e,uN it s.heap h'->(∃o,h'.get? e=some o/\o.cls=.type "StopIteration")->E (.ref e) { s with heap:=h' }):wpAny (model prog w) A (SmallTypes.nextOf (.ref it)) Q E s:=by
 obtain⟨o1,e1,c1,d1⟩:=id h1;obtain⟨o2,e2,_,k2,d2⟩:=h2;have nn:¬((cJ t==cF)=true):=bZ;unfold SmallTypes.nextOf;refine aA (cW (name:=iV "__next__") h1.typeIs jN (dU jN h1.typeIs rD ?_ (qU _)));refine aA (m:=field (.ref it) 0) (cU e1 d1 (x:=.ref t) rfl ?_);show wpAny _ _ (if (cJ t==cF)=true then _ else (field (.ref it) 1 >>= _)) _ _ s;rw[if_neg nn]
 refine aA (m:=field (.ref it) 1) (cU e1 d1 (x:=.int i 0) rfl ?_);refine aA (m:=seqItems? (.ref t)) (gK e2 d2 ?_);simp only[bI,hx];refine aA (jV (aA (eH e1 d1 (by simp) ?_)))
 refine aA (m:=newExc (.type "StopIteration") []) ?_;simp only[newExc,newTuple];refine aA (bR ?_ (by size_fits))
 refine aA (m:=firstArgMember _ _) (wpAny_of_eq (a:=cF) (by first | rfl | (simp only[firstArgMember];rfl)) (bR ?_ (by size_fits)))
 simp only[raiseNew];refine aA (wpAny_handled ?_);first | rw[show A.in1.handled=none from hh] | rw[hh]
 refine aA (aD (wpAny_throw (q _ _ ?_ ⟨_,aL _ rfl,rfl⟩)));exact((cP ..).extBut.push _).push _
theorem src(hh:A.handled=none)(k:Bool)(it l:Addr)(ne:l≠it)(xs:Array Value):Draws prog w A it [it,l] xs.size (fun i v=>xs[i]? = some v) (fun i h=>It1 k h it l i/\Sq1 k h l xs):=by
 cases k with
 | false=>exact Draws.list hh it l ne xs
 | true=>exact{
   live:=fun _ _ z=>let ⟨o,e,_⟩:=z.1;⟨o,e⟩
   frame:=fun _ _ _ z kk=>⟨(let ⟨o,e,r⟩:=z.1;⟨o,kk it (by simp) o e,r⟩),(let ⟨o,e,r⟩:=z.2;⟨o,kk l (by simp) o e,r⟩)⟩
   item:=fun i s Q E hi z q=>ayg z.1 z.2 (x:=xs[i]) (by simp[hi]) fun h' z' sb=>q _ h' s.toks (by simp[hi]) ⟨z',Heap.IsTuple.extBut z.2 sb.extBut ne⟩ sb
   done:=fun s Q E z q=>azk hh z.1 z.2 (by simp) q }
theorem It1.at{k:Bool}{h h':Heap}{it l:Addr}{i:Nat}(x:It1 k h it l i)(e:∀o,h.get? it=some o->h'.get? it=some o):It1 k h' it l i:=by
 cases k <;> exact(let ⟨o,z,r⟩:=x;⟨o,e _ z,r⟩)
theorem It1.got{k:Bool}{h:Heap}{it l:Addr}{i:Nat}(x:It1 k h it l i):∃o,h.get? it=some o/\∀v,o.data≠.cell v:=by
 cases k <;> exact(let ⟨o,z,_,r⟩:=x;⟨o,z,fun v e=>by rw[r] at e;cases e⟩)
theorem Sq1.at{k:Bool}{h h':Heap}{l:Addr}{xs:Array Value}(x:Sq1 k h l xs)(e:∀o,h.get? l=some o->h'.get? l=some o):Sq1 k h' l xs:=by
 cases k <;> exact(let ⟨o,z,r⟩:=x;⟨o,e _ z,r⟩)
theorem Sq1.got{k:Bool}{h:Heap}{l:Addr}{xs:Array Value}(x:Sq1 k h l xs):∃o,h.get? l=some o:=by
 cases k <;> exact(let ⟨o,z,_⟩:=x;⟨o,z⟩)
theorem avf{k:Bool}{l:Addr}{xs:Array Value}{Q:Value->aF->Prop}(h:Sq1 k s.heap l xs)
  (q:Q (.ref s.heap.objs.size) { s with heap:=s.heap.push { cls:=.type (cond k "tuple_iterator" "list_iterator"),data:=.fields #[.ref l,.int 0 0] } }):wpAny (model prog w) A (pyIter (.ref l)) Q E s:=by
 cases k with
 | false=>exact wpAny_pyIter_list h q
 | true=>exact wpAny_pyIter_tuple h q
theorem alc{k:Bool}{h:Heap}{l a:Addr}(e:h.get? a=some { cls:=.type (cond k "tuple_iterator" "list_iterator"),data:=.fields #[.ref l,.int 0 0] }):It1 k h a l 0:=by
 cases k <;> exact⟨_,e,rfl,rfl⟩
end
set_option maxRecDepth 100000
abbrev eh1(k:Bool)(h:Heap)(l:Addr):Heap:=h.push { cls:=.type (cond k "tuple_iterator" "list_iterator"),data:=.fields #[.ref l,.int 0 0] }
abbrev eh2(k:Bool)(h:Heap)(l:Addr):Heap:=(eh1 k h l).push { cls:=.type "enumerate", data:=.fields #[.none,.bool false,.ref h.objs.size,jM 0,.none,.none] }
theorem ayo(k:Bool)(l:Addr)(o:Obj)(xs:Array Value) :
  Meets (iU.«enumerate.__new__» ⟨[.type "enumerate", .ref l],[]⟩) (fun _ R s=>s.heap.get? l=some o/\Sq1 k s.heap l xs/\R (.ok (.ret (.ref (eh1 k s.heap l).objs.size))) { s with heap:=eh2 k s.heap l }) :=
 .of_wp fun prog w A R s h=>by
  obtain⟨hp,g,d,tk,os⟩:=s;obtain⟨ho,r1,h⟩:=h;have sb:=sub_enumerate;have r1:Sq1 k (uE ⟨hp,g,d,tk,os⟩) l xs:=r1;wp_walk using nH ho;refine wpAny_stack_any fun st=>aD ?_
  split
  ·rename_i c _ _ _ _ _;cases(c==iR "enumerate") <;> (wp_walk using nH ho,avf r1;exact⟨_,rfl,h⟩)
  ·wp_walk using nH ho,avf r1;exact⟨_,rfl,h⟩
theorem as8{prog:bJ}{w:World}{A:bW}{E:Value->aF->Prop}{s:aF}{k:Bool}{l:Addr}{xs:Array Value}{Q:Value->aF->Prop}(s1:Sq1 k s.heap l xs)
  (q:∀h',IsEnum h' (s.heap.objs.size+1) s.heap.objs.size 0 .none->It1 k h' s.heap.objs.size l 0->h'.objs.size=s.heap.objs.size+2->(∀b o,s.heap.get? b=some o->h'.get? b=some o)->Q (.ref (s.heap.objs.size+1)) { s with heap:=h' }) :
  wpAny (model prog w) A (call (.type "enumerate") [.ref l]) Q E s:=by
 obtain⟨o,ho⟩:=s1.got;refine callType_new F.called_enumerate (by decide) (F.typeCall_enumerate_1 _) (F.newCall_enumerate_1 _) (fun obj=>F.args_object_init_2 obj _) F.entry_enumerate_new (ayo k l o xs) ⟨ho,s1,?_⟩
 have z1:(eh1 k s.heap l).objs.size=s.heap.objs.size+1:=cB ..
 have g2:(eh2 k s.heap l).get? (eh1 k s.heap l).objs.size=some _:=aL _ rfl;have g1:(eh2 k s.heap l).get? s.heap.objs.size=some _:=aB _ (aL _ rfl);rw[z1] at g2;show _/\_;rw[z1];exact⟨⟨_,g2,rfl⟩,q _ g2 (alc g1) (by rw[cB,z1]) fun b o x=>aB _ (aB _ x)⟩
end En
namespace En
open PySem PySem.Builtin
set_option maxRecDepth 100000
theorem axd(v1 v2:Value):checkTypeCall "zip" ⟨[v1,v2],[]⟩=pure ():=by kernel_rfl
theorem ayl(v1 v2:Value):checkBuiltinCall "zip.__new__" ⟨[.type "zip", v1,v2],[]⟩=pure ():=by kernel_rfl
theorem azv(o v1 v2:Value):argsOk "object.__init__" ⟨[o,v1,v2],[]⟩:=by
 unfold argsOk;rw[signature?_of (id := "object.__init__") (n:=['_','_','t','i','n','i','_','_']) (o:=['t','c','e','j','b','o']) (by kernel_rfl) F.owner_object];kernel_rfl
abbrev Row2(h:Heap)(T:Addr)(v1 v2:Value):Prop:=h.get? T=some { cls:=.type "tuple", data:=.seq #[v1,v2] }
structure Apart2 (z TI TO i1 i2 l1 l2:Addr):Prop where
 nTIz:TI≠z
 nTOz:TO≠z
 nTOTI:TO≠TI
 ni1z:i1≠z
 ni1TI:i1≠TI
 ni1TO:i1≠TO
 ni2z:i2≠z
 ni2TI:i2≠TI
 ni2TO:i2≠TO
 ni2i1:i2≠i1
 nl1z:l1≠z
 nl1TO:l1≠TO
 nl1i1:l1≠i1
 nl1i2:l1≠i2
 nl2z:l2≠z
 nl2TO:l2≠TO
 nl2i1:l2≠i1
 nl2i2:l2≠i2
section
variable{prog:bJ}{w:World}{A:bW}{E:Value->aF->Prop}{s:aF}
theorem a0p{T:Addr}{v1 v2 x:Value}{Q:Unit->aF->Prop}(h:Row2 s.heap T v1 v2)(q:∀h',Row2 h' T x v2->fG T s.heap h'->Q () { s with heap:=h' }):wpAny (model prog w) A (updateSeq T (·.setIfInBounds 0 x)) Q E s:=by
 refine wpAny_updateSeq h rfl (q _ (show Heap.get? _ T=_ from ?_) (cP ..))
 rw[bQ _ h rfl];simp[jG]
theorem a0o{T:Addr}{v1 v2 x:Value}{Q:Unit->aF->Prop}(h:Row2 s.heap T v1 v2)(q:∀h',Row2 h' T v1 x->fG T s.heap h'->Q () { s with heap:=h' }):wpAny (model prog w) A (updateSeq T (·.setIfInBounds 1 x)) Q E s:=by
 refine wpAny_updateSeq h rfl (q _ (show Heap.get? _ T=_ from ?_) (cP ..))
 rw[bQ _ h rfl];simp[jG]
theorem apa{z TI TO i1 i2 l1 l2:Addr}{k1 k2:Bool}{i:Nat}{x1 x2:Array Value}{v1 v2:Value}{Q:Value->aF->Prop}(hh:A.handled=none)(D:Apart2 z TI TO i1 i2 l1 l2)
  (hz:IsZip s.heap z TI TO .none) (hI:Row2 s.heap TI (.ref i1) (.ref i2)) (hO:Row2 s.heap TO v1 v2) (h1:It1 k1 s.heap i1 l1 i) (s1:Sq1 k1 s.heap l1 x1) (h2:It1 k2 s.heap i2 l2 i) (s2:Sq1 k2 s.heap l2 x2) (b1:i < x1.size) (b2:i < x2.size)
  (q:∀h' tk y1 y2,x1[i]? = some y1->x2[i]? = some y2->IsZip h' z TI TO (jM s.heap.objs.size)->Row2 h' TO y1 y2->It1 k1 h' i1 l1 (i+1)->It1 k2 h' i2 l2 (i+1)->Row2 h' s.heap.objs.size y1 y2->h'.objs.size=s.heap.objs.size+1 ->
   (∀c o,c≠z->c≠TO->c≠i1->c≠i2->s.heap.get? c=some o->h'.get? c=some o)->Q (.ref s.heap.objs.size) { s with heap:=h',toks:=tk }) :
  wpAny (model prog w) A (iU.«zip.__next__» ⟨[.ref z],[]⟩) (fun fin s'=>∃v,fin=.done (.ret v)/\Q v s') E s:=by
 refine aA (m:=field (.ref z) 2) (cU hz rfl (x:=.bool false) rfl ?_);refine aA (m:=field (.ref z) 3) (cU hz rfl (x:=.ref TI) rfl ?_);refine aA (gK hI rfl ?_);refine aA (m:=SmallTypes.ownedTupleIsFree (.ref z)) ?_;unfold SmallTypes.ownedTupleIsFree;refine aA (cU hz rfl (x:=.none) rfl (aD ?_));simp only[if_true];refine aA (jV (aA (cU hz rfl (x:=.ref TO) rfl ?_)));refine aA (wpAny_setField_rec hz (by simp) fun g0 z0 a0 =>?_)
 have z0:IsZip g0 z TI TO .ellipsis:=z0;refine aA ?_;simp only[wK,wW,oM,rQ];refine aA (aA (wpAny_onRaise ?_));refine aA (m:=SmallTypes.nextOf (.ref i1)) ((src hh k1 i1 l1 D.nl1i1 x1).item i _ _ _ b1 ⟨(h1.at fun _ e=>(a0.extBut _ _ D.ni1z e)),(s1.at fun _ e=>(a0.extBut _ _ D.nl1z e))⟩ fun y1 f1 t1 p1 q1 c1=>aD ?_)
 have c1:fG i1 g0 f1:=c1;have P1:Row2 f1 TO v1 v2:=(c1.extBut _ _ D.ni1TO.symm (a0.extBut _ _ D.nTOz hO));refine aA (gK P1 rfl ?_);refine aA (a0p P1 fun g1 O1 a1 =>?_)
 have a1:fG TO f1 g1:=a1;refine aA (wpAny_letGo (aD ?_));refine aA (aA (wpAny_onRaise ?_));refine aA (m:=SmallTypes.nextOf (.ref i2)) ((src hh k2 i2 l2 D.nl2i2 x2).item i _ _ _ b2 ⟨(h2.at fun _ e=>(a1.extBut _ _ D.ni2TO (c1.extBut _ _ D.ni2i1 (a0.extBut _ _ D.ni2z e)))),(s2.at fun _ e=>(a1.extBut _ _ D.nl2TO (c1.extBut _ _ D.nl2i1 (a0.extBut _ _ D.nl2z e))))⟩ fun y2 f2 t2 p2 q2 c2=>aD ?_)
 have c2:fG i2 g1 f2:=c2;have P2:Row2 f2 TO y1 v2:=(c2.extBut _ _ D.ni2TO.symm O1);refine aA (gK P2 rfl ?_);refine aA (a0o P2 fun g2 O2 a2 =>?_)
 have a2:fG TO f2 g2:=a2;refine aA (wpAny_letGo (aD (aD ?_)));refine aA (gK O2 rfl (aA (wpAny_newTuple ?_)));have sz:g2.objs.size=s.heap.objs.size:=by rw[a2.1,c2.1,a1.1,c1.1,a0.1]
 have zn:IsZip g2 z TI TO .ellipsis:=(a2.extBut _ _ D.nTOz.symm (c2.extBut _ _ D.ni2z.symm (a1.extBut _ _ D.nTOz.symm (c1.extBut _ _ D.ni1z.symm z0))));have kn:∀c o,c≠z->c≠TO->c≠i1->c≠i2->s.heap.get? c=some o->g2.get? c=some o:=fun c o n0 n1 n2 n3 e=>(a2.extBut _ _ n1 (c2.extBut _ _ n3 (a1.extBut _ _ n1 (c1.extBut _ _ n2 (a0.extBut _ _ n0 e)))))
 have j1:It1 k1 g2 i1 l1 (i+1):=q1.1.at fun _ e=>(a2.extBut _ _ D.ni1TO (c2.extBut _ _ D.ni2i1.symm (a1.extBut _ _ D.ni1TO e)))
 have j2:It1 k2 g2 i2 l2 (i+1):=q2.1.at fun _ e=>(a2.extBut _ _ D.ni2TO e)
 have lz:z < g2.objs.size:=aP zn;refine aA (m:=SmallTypes.ownedTupleHandOut (.ref z) (.ref g2.objs.size)) ?_;unfold SmallTypes.ownedTupleHandOut;have zp:IsZip (g2.push { cls:=.type "tuple", data:=.seq #[y1,y2] }) z TI TO .ellipsis:=aB _ zn;refine aA (wpAny_setField_rec zp (by simp) fun e1 z1 b1' =>?_)
 have z1:IsZip e1 z TI TO (jM g2.objs.size):=z1;refine wpAny_setField_rec z1 (by simp) fun e2 z2 b2' =>?_
 have z2:IsZip e2 z TI TO (jM g2.objs.size):=z2;have up:∀c o,c≠z->g2.get? c=some o->e2.get? c=some o:=fun c o n1 e=>b2'.extBut _ _ n1 (b1'.extBut _ _ n1 (aB _ e))
 have t2:Row2 e2 g2.objs.size y1 y2:=b2'.extBut _ _ (fZ lz) (b1'.extBut _ _ (fZ lz) (aL _ rfl));have s2':e2.objs.size=g2.objs.size+1:=by rw[b2'.1,b1'.1,cB]
 rw[sz] at z2 t2 s2';refine aD ⟨_,rfl,?_⟩;show Q (.ref g2.objs.size) _;rw[sz];exact q e2 _ y1 y2 p1 p2 z2 (up _ _ D.nTOz O2) (j1.at fun _ e=>up _ _ D.ni1z e) (j2.at fun _ e=>up _ _ D.ni2z e) t2 s2' fun c o n0 n1 n2 n3 e=>up c o n0 (kn c o n0 n1 n2 n3 e)
theorem atm{z TI TO i1 i2 l1 l2:Addr}{k1:Bool}{x1:Array Value}{v1 v2:Value}{Q:Fin->aF->Prop}(hh:A.handled=none)(D:Apart2 z TI TO i1 i2 l1 l2)
  (hz:IsZip s.heap z TI TO .none) (hI:Row2 s.heap TI (.ref i1) (.ref i2)) (hO:Row2 s.heap TO v1 v2) (h1:It1 k1 s.heap i1 l1 x1.size) (s1:Sq1 k1 s.heap l1 x1)
  (q:∀h' e,(∀c o,c≠z->c≠i1->s.heap.get? c=some o->h'.get? c=some o)->(∃o,h'.get? e=some o/\o.cls=.type "StopIteration")->E (.ref e) { s with heap:=h' }) :
  wpAny (model prog w) A (iU.«zip.__next__» ⟨[.ref z],[]⟩) Q E s:=by
 refine aA (m:=field (.ref z) 2) (cU hz rfl (x:=.bool false) rfl ?_);refine aA (m:=field (.ref z) 3) (cU hz rfl (x:=.ref TI) rfl ?_);refine aA (gK hI rfl ?_);refine aA (m:=SmallTypes.ownedTupleIsFree (.ref z)) ?_;unfold SmallTypes.ownedTupleIsFree;refine aA (cU hz rfl (x:=.none) rfl (aD ?_));simp only[if_true];refine aA (jV (aA (cU hz rfl (x:=.ref TO) rfl ?_)));refine aA (wpAny_setField_rec hz (by simp) fun g0 z0 a0 =>?_)
 have z0:IsZip g0 z TI TO .ellipsis:=z0;refine aA ?_;simp only[wK,wW,oM,rQ];refine aA (aA (wpAny_onRaise ?_));refine aA (m:=SmallTypes.nextOf (.ref i1)) ((src hh k1 i1 l1 D.nl1i1 x1).done _ _ _ ⟨(h1.at fun _ e=>a0.extBut _ _ D.ni1z e),(s1.at fun _ e=>a0.extBut _ _ D.nl1z e)⟩ fun f1 e c1 ⟨oe,he,ce⟩ =>?_)
 have zf:IsZip f1 z TI TO .ellipsis:=c1 _ _ D.ni1z.symm z0;have ez:e≠z:=fun x=>by subst x;rw[zf] at he;cases he;simp at ce
 refine wpAny_setField_rec zf (by simp) fun f2 _ a1=>q f2 e (fun c o n1 n2 y=>a1.extBut _ _ n1 (c1 _ _ n2 (a0.extBut _ _ n1 y))) ⟨oe,a1.extBut _ _ ez he,ce⟩
abbrev apc(h:Heap)(k1 k2:Bool)(l1 l2:Addr):Heap:=h.push { cls:=.type (cond k1 "tuple_iterator" "list_iterator"),data:=.fields #[.ref l1,.int 0 0] }
abbrev atp(h:Heap)(k1 k2:Bool)(l1 l2:Addr):Heap:=(apc h k1 k2 l1 l2).push { cls:=.type (cond k2 "tuple_iterator" "list_iterator"),data:=.fields #[.ref l2,.int 0 0] }
abbrev ato(h:Heap)(k1 k2:Bool)(l1 l2:Addr):Heap:=(atp h k1 k2 l1 l2).push { cls:=.type "tuple", data:=.seq #[.ref h.objs.size,.ref (apc h k1 k2 l1 l2).objs.size] }
abbrev atn(h:Heap)(k1 k2:Bool)(l1 l2:Addr):Heap:=(ato h k1 k2 l1 l2).push { cls:=.type "tuple", data:=.seq #[.none,.none] }
abbrev akh(h:Heap)(k1 k2:Bool)(l1 l2:Addr):Heap:=(atn h k1 k2 l1 l2).push { cls:=.type "zip", data:=.fields #[.none,.bool false,.bool false,.ref (atp h k1 k2 l1 l2).objs.size,.ref (ato h k1 k2 l1 l2).objs.size] }
theorem ayn(k1 k2:Bool)(l1 l2:Addr)(x1 x2:Array Value) :
  Meets (iU.«zip.__new__» ⟨[.type "zip", .ref l1,.ref l2],[]⟩) (fun _ R s=>Sq1 k1 s.heap l1 x1/\Sq1 k2 s.heap l2 x2/\R (.ok (.ret (.ref (atn s.heap k1 k2 l1 l2).objs.size))) { s with heap:=akh s.heap k1 k2 l1 l2 }) :=
 .of_wp fun prog w A R s h=>by
  obtain⟨hp,g,d,tk,os⟩:=s;obtain⟨s1,s2,h⟩:=h;have sb:=sub_zip;have r1:Sq1 k1 (uE ⟨hp,g,d,tk,os⟩) l1 x1:=s1.at fun _ e=>e
  have r2:Sq1 k2 (uE ⟨apc hp k1 k2 l1 l2,g,d,tk,os⟩) l2 x2:=s2.at fun _ e=>aB _ (e)
  wp_walk using avf r1,avf r2;exact⟨_,rfl,h⟩
theorem as4{k1 k2:Bool}{l1 l2:Addr}{x1 x2:Array Value}{Q:Value->aF->Prop}(s1:Sq1 k1 s.heap l1 x1)(s2:Sq1 k2 s.heap l2 x2)
  (q:∀h',IsZip h' (s.heap.objs.size+4) (s.heap.objs.size+2) (s.heap.objs.size+3) .none->Row2 h' (s.heap.objs.size+2) (.ref s.heap.objs.size) (.ref (s.heap.objs.size+1))->Row2 h' (s.heap.objs.size+3) .none .none->It1 k1 h' s.heap.objs.size l1 0->It1 k2 h' (s.heap.objs.size+1) l2 0->h'.objs.size=s.heap.objs.size+5->(∀c o,s.heap.get? c=some o->h'.get? c=some o)->Q (.ref (s.heap.objs.size+4)) { s with heap:=h' }) :
  wpAny (model prog w) A (call (.type "zip") [.ref l1,.ref l2]) Q E s:=by
 refine callType_new F.called_zip (by decide) (axd _ _) (ayl _ _) (fun obj=>azv obj _ _) F.entry_zip_new (ayn k1 k2 l1 l2 x1 x2) ⟨s1,s2,?_⟩
 have e1:(apc s.heap k1 k2 l1 l2).objs.size=s.heap.objs.size+1:=by rw[cB]
 have e2:(atp s.heap k1 k2 l1 l2).objs.size=s.heap.objs.size+2:=by rw[cB,e1]
 have eI:(ato s.heap k1 k2 l1 l2).objs.size=s.heap.objs.size+3:=by rw[cB,e2]
 have eO:(atn s.heap k1 k2 l1 l2).objs.size=s.heap.objs.size+4:=by rw[cB,eI]
 have eZ:(akh s.heap k1 k2 l1 l2).objs.size=s.heap.objs.size+5:=by rw[cB,eO]
 have gZ:(akh s.heap k1 k2 l1 l2).get? (atn s.heap k1 k2 l1 l2).objs.size=some _:=aL _ rfl;have gO:(akh s.heap k1 k2 l1 l2).get? (ato s.heap k1 k2 l1 l2).objs.size=some _:=aB _ (aL _ rfl);have gI:(akh s.heap k1 k2 l1 l2).get? (atp s.heap k1 k2 l1 l2).objs.size=some _:=aB _ (aB _ (aL _ rfl));have j1:(akh s.heap k1 k2 l1 l2).get? s.heap.objs.size=some _:=aB _ (aB _ (aB _ (aB _ (aL _ rfl))));have j2:(akh s.heap k1 k2 l1 l2).get? (apc s.heap k1 k2 l1 l2).objs.size=some _:=aB _ (aB _ (aB _ (aL _ rfl)));show _/\_;rw[e2,eI,eO] at gZ;rw[e1,e2] at gI;rw[eI] at gO;rw[e1] at j2;rw[eO];exact⟨⟨_,gZ,rfl⟩,q _ gZ gI gO (alc j1) (alc j2) eZ fun c o x=>aB _ (aB _ (aB _ (aB _ (aB _ (x)))))⟩
end
structure Apart3 (z TI TO i1 i2 i3 l1 l2 l3:Addr):Prop where
 nTIz:TI≠z
 nTOz:TO≠z
 nTOTI:TO≠TI
 ni1z:i1≠z
 ni1TI:i1≠TI
 ni1TO:i1≠TO
 ni2z:i2≠z
 ni2TI:i2≠TI
 ni2TO:i2≠TO
 ni2i1:i2≠i1
 ni3z:i3≠z
 ni3TI:i3≠TI
 ni3TO:i3≠TO
 ni3i1:i3≠i1
 ni3i2:i3≠i2
 nl1z:l1≠z
 nl1TO:l1≠TO
 nl1i1:l1≠i1
 nl1i2:l1≠i2
 nl1i3:l1≠i3
 nl2z:l2≠z
 nl2TO:l2≠TO
 nl2i1:l2≠i1
 nl2i2:l2≠i2
 nl2i3:l2≠i3
 nl3z:l3≠z
 nl3TO:l3≠TO
 nl3i1:l3≠i1
 nl3i2:l3≠i2
 nl3i3:l3≠i3
section
variable{prog:bJ}{w:World}{A:bW}{E:Value->aF->Prop}{s:aF}
end
end En
namespace Mn
open L2 En
def SqK(k:Bool)(K:Fg9)(H:Hp)(a:Addr)(xs:List V):Prop:=cond k (SqT K H a xs) (SqL K H a xs)
theorem afh{xs:List V}{us:List Value}(r:Vals xs us){i:Nat}{x:V}{u:Value}(h:xs[i]? = some x)(h':us.toArray[i]? = some u):RelV x u:=by
 obtain⟨u',e,z⟩:=r.get h;have:us[i]? = some u:=by simpa using h'
 rw[this] at e;cases e;exact z
section
variable{X:Cx}{zv:List (Addr×Obj)}{σ:L2.St}{H:Hp}{s:aF}{h':Heap}{a:Addr}{xs ys:List V}{k:Bool}
theorem aew(I:Inv X zv σ H s)(h:SqK k X.K H a xs):∃its:List Value,Vals xs its/\Sq1 k s.heap a its.toArray:=by
 cases k with
 | false =>
  obtain⟨its,r,p,_⟩:=I.list h;exact⟨its,r,p.isList⟩
 | true =>
  obtain⟨its,r,p,_⟩:=I.tuple h;exact⟨its,r,p⟩
theorem ald(I:Inv X zv σ H s)(h:SqK k X.K H a xs)(h2:SqK k X.K H a ys):xs=ys:=by
 cases k with
 | false=>exact I.list_inj h h2
 | true=>exact I.tuple_inj h h2
theorem aeb{t':Nat}{fp:List Addr}(I:Inv X zv σ H s)(kk:∀b o,b∉fp->s.heap.get? b=some o->h'.get? b=some o)(hf:∀b∈fp,FpOk X zv H b):Inv X zv σ H { s with heap:=h',toks:=t' }:=by
 have nit:∀b u,H b=some u->b∉fp:=fun b u e z=>by rw[(hf b z).1] at e;cases e
 have nL:X.env.locals∉fp:=fun z=>(hf _ z).2.1 rfl
 refine I.step (g':=s.gens) (d':=s.drawn) (ch:=fp) (fun b hb=>⟨(hf b hb).2.2.2.1,(hf b hb).2.1,(hf b hb).2.2.2.2.1,(hf b hb).2.2.2.2.2⟩) (fun b o _ _ hc e _=>kk b o hc e) (fun b o _ _ hc e _=>⟨o.slots,kk b o hc e⟩) (fun _ _ _ _ n=>n)
  (fun b o hc e=>⟨o,kk b o hc e⟩) (fun _ _ e=>e) (fun _ _ _ e=>e) (fun b ps e=>⟨#[],by rw[e];simp⟩) (fun m hm =>?_) (fun b u e =>?_) I.bare
 ·obtain⟨o,es,ep,ho,r⟩:=hm;exact⟨o,es,ep,kk _ o nL ho,r⟩
 ·refine(I.hok b u e).stay (fun c v hc q=>kk c v ?_ q) (fun _ q=>q) fun _ _ q=>q
  rcases hc with z | z
  ·rw[z];exact nit b u e
  ·exact nit c _ z
theorem arl{t':Nat}{fp:List Addr}{vs:List V}{us:List Value}(I:Inv X zv σ H s)(kk:∀b o,b∉fp->s.heap.get? b=some o->h'.get? b=some o)(hf:∀b∈fp,FpOk X zv H b)(hb:∀b∈fp,b < s.heap.objs.size)
  (r:Vals vs us) (hz:vs.length<=bV) (ht:h'.get? s.heap.objs.size=some { cls:=.type "tuple", data:=.seq us.toArray }):Inv X zv σ (upd H s.heap.objs.size (.tup vs)) { s with heap:=h',toks:=t' }:=by
 have I1:=I.laid (h':=s.heap.push { cls:=.type "tuple", data:=.seq us.toArray }) (t':=s.toks) (a:=s.heap.objs.size) (o:=.tup vs) (fun b u e=>aB _ e) (aN _) ⟨hz,us,r,⟨_,aL _ rfl,rfl,rfl,_,rfl⟩⟩
 have k2:∀b o,b∉fp->(s.heap.push { cls:=.type "tuple", data:=.seq us.toArray }).get? b=some o->h'.get? b=some o:=fun b o hn e=>by
  rcases Heap.get?_push_cases e with⟨rfl,rfl⟩ | e
  ·exact ht
  ·exact kk b o hn e
 have f2:∀b∈fp,FpOk X zv (upd H s.heap.objs.size (.tup vs)) b:=fun b hb'=>by
  obtain⟨f0,f⟩:=hf b hb';exact⟨by rw[dj (bC (hb b hb'))];exact f0,f⟩
 have R:=aeb (t':=t') (h':=h') (fp:=fp) I1 k2 f2;exact R
end
theorem awq{k:Bool}{h:Heap}{it a l:Addr}{i:Nat}{xs:Array Value}(x:It1 k h it l i){k':Bool}(y:Sq1 k' h a xs):a≠it:=fun e=>by
 subst e;cases k <;> cases k' <;> exact(by
  obtain⟨o,e1,c1,_⟩:=x;obtain⟨o',e2,c2,_⟩:=y;rw[e1] at e2;cases e2;rw[c1] at c2;simp at c2)
theorem a5x{h:Heap}{a b:Addr}{o:Obj}{n:String}{k:Bool}{xs:Array Value}(e:h.get? b=some o)(c:o.cls=.type n)(hn:n ≠ "list" /\ n ≠ "tuple")(y:Sq1 k h a xs):a≠b:=fun z=>by
 subst z;cases k <;> exact(by
  obtain⟨o',e2,c2,_⟩:=y;rw[e] at e2;cases e2;rw[c] at c2;simp at c2
  first | exact hn.1 c2 | exact hn.2 c2)
def Ite(K:Fg9)(k:Bool)(a:Addr):It :=
 ⟨fun i H=>∃xs x,SqK k K H a xs/\xs[i]? = some x,fun i H x H'=>∃q v,H q=none/\x=.ref q/\H'=upd H q (.tup [.int i,v])/\∀xs,SqK k K H a xs->xs[i]? = some v,fun i H=>∃xs,SqK k K H a xs/\xs.length=i⟩
theorem apr{P:bJ}{w:World}{K:Fg9}{elts:List Expr}{n:Nat}{pos:Pos}(k:Bool)(a e it:Addr)(ne:e≠it) :
  Turn P w K (.Tuple elts n pos) (Ite K k a) [e,it] e (fun i h=>(∃old,IsEnum h e it i old)/\It1 k h it a i) where
 mem:=by simp
 obj:=fun i h st b hb=>by
  have hb:b=e∨b=it:=by simpa using hb
  rcases hb with rfl | rfl
  ·obtain⟨old,z⟩:=st.1;exact⟨_,z,fun v z=>by cases z⟩
  ·exact st.2.got
 keep:=fun i h h' st kk=>by
  obtain⟨⟨old,z⟩,y⟩:=st;exact⟨⟨old,kk e (by simp) _ z⟩,y.at fun o z=>kk it (by simp) o z⟩
 item:=by
  intro X hP hw hK hc i zv s σ H E I hf st hg;subst hP hw hK;obtain⟨⟨old,he⟩,hi⟩:=st;obtain⟨xs,x,hq,hx⟩:=hg;obtain⟨its,rv,sq⟩:=aew I hq;obtain⟨u,hu,ru⟩:=rv.get hx;have hlt:i < its.toArray.size:=by simpa using (aK.mp hu).1
  have nai:=awq hi sq;have nae:a≠e:=a5x he rfl (by decide) sq
  have D:=En.src (prog:=X.prog) (w:=X.w) (A:=X.A.in1) (I.ok.hd hc) k it a nai its.toArray;refine wpAny_pyNext_enum_itemD D he ⟨hi,sq⟩ hlt ne (by simp[ne,nae.symm]) fun y g tk hy ho hs hT hz hk =>?_
  refine⟨_,rfl,wpAny_letOwnedTupleGo_enum ho fun g2 he2 sb =>?_⟩
  have ry:=afh rv hx hy;have lte:e < s.heap.objs.size:=aP he;have lti:it < s.heap.objs.size:=by obtain⟨o,z,_⟩:=hi.got;exact aP z
  have fr:H s.heap.objs.size=none:=I.hok.fresh (aN _);refine⟨.ref s.heap.objs.size,upd H s.heap.objs.size (.tup [.int i,x]),?_,rfl,⟨_,x,fr,rfl,rfl,fun ys hy=>by rw[ald I hy hq];exact hx⟩,⟨⟨_,he2⟩,hs.1.at fun o z=>sb.extBut _ _ ne.symm z⟩,fun b hb =>?_⟩
  ·refine arl (fp:=[e,it]) (us:=[.int i tk,y]) I (fun b o hn z =>?_) hf (fun b hb =>?_) (.cons ⟨tk,rfl⟩ (.cons ry .nil)) (by rw[gM];simp) (sb.extBut _ _ (fZ lte) hT)
   ·have h1:b≠e:=fun z=>hn (by simp[z])
    have h2:b≠it:=fun z=>hn (by simp[z])
    exact sb.extBut _ _ h1 (hk b o h1 h2 z)
   ·have hb:b=e∨b=it:=by simpa using hb
    rcases hb with rfl | rfl
    ·exact lte
    ·exact lti
  ·have hb':b=e∨b=it:=by simpa using hb
   rw[dj (by rcases hb' with rfl | rfl;exact bC lte;exact bC lti)]
   exact(hf b hb).1
 done:=by
  intro X hP hw hK hc i zv s σ H E I hf st hg;subst hP hw hK;obtain⟨⟨old,he⟩,hi⟩:=st;obtain⟨xs,hq,hx⟩:=hg;obtain⟨its,rv,sq⟩:=aew I hq;have hl:i=its.toArray.size:=by have:=rv.length;simp;omega
  subst hl;have D:=En.src (prog:=X.prog) (w:=X.w) (A:=X.A.in1) (I.ok.hd hc) k it a (awq hi sq) its.toArray;refine wpAny_pyNext_enum_endD D he ⟨hi,sq⟩ fun g eb=>⟨rfl,aeb (t':=s.toks) (fp:=[e,it]) I (fun b o hn z=>eb b o (fun z=>hn (by simp[z])) z) hf⟩
 self:=fun _ _ _ _ _ st h=>let ⟨_,z⟩:=st.1;wpAny_pyIter_enum z h
theorem a3l:bN "zip" = some (.type "zip"):=by decide +kernel
section
variable{X:Cx}
def a7r(K:Fg9)(ta:TA):TI:=fun σ H R=>ta σ H fun vs H1=>∃a k,vs=[.ref a]/\(∃xs,SqK k K H1 a xs)/\R (Ite K k a) H1
theorem ax0{a:Expr}{ta:TA}{p pos:Pos}{elts:List Expr}{n:Nat}{tp:Pos}(hg:Gl X "enumerate")(hm:X.mg "enumerate" = none)(ha:PA X [a] ta)(hs:aQ [a] X.env=[(false,eval a X.env)]:=by rfl) :
  PI X (.Tuple elts n tp) (.Call (.Name "enumerate" p) [a] [] pos) (a7r X.K ta):=by
 intro zv s σ H R I h;refine Call_ (aev I hg hm aka (fH (thn (ha pos zv s σ H _ I h) fun us s1 ⟨vs,H1,I1,r1,q1⟩ =>?_) hs rfl))
 obtain⟨b,k,rfl,⟨xs,hq⟩,q⟩:=q1;obtain⟨u,rfl,ru⟩:=vals1 r1;cases ru;obtain⟨its,rv,sq⟩:=aew I1 hq;refine as8 sq fun g he hi hz kk=>wpAny_pyIter_enum he ?_
 have I2:Inv X zv σ H1 { s1 with heap:=g }:=I1.kept (t':=s1.toks) kk
 refine⟨_,[s1.heap.objs.size+1,s1.heap.objs.size],_,_,H1,rfl,I2,apr k b _ _ (Nat.succ_ne_self _),⟨⟨_,he⟩,hi⟩,fun c hc =>?_,q⟩
 have hc:c=s1.heap.objs.size+1∨c=s1.heap.objs.size:=by simpa using hc
 rcases hc with rfl | rfl
 ·exact I1.fpOk (lJ _) (I1.hok.fresh (lJ _))
 ·exact I1.fpOk (aN _) (I1.hok.fresh (aN _))
end
end Mn
namespace En
open PySem PySem.Builtin
theorem awi{prog:bJ}{w:World}{A:bW}{E:Value->aF->Prop}{s:aF}{z TI TO:Addr}{f0:Value}{Q:Option Value->aF->Prop}(hz:IsZip s.heap z TI TO f0)
  (h:wpAny (model prog w) A.in1 (iU.«zip.__next__» ⟨[.ref z],[]⟩) (fun fin s'=>∃v,fin=.done (.ret v)/\Q (some v) s') (fun e s'=>∃a o,e=.ref a/\s'.heap.get? a=some o/\o.cls=.type "StopIteration" /\ Q none s') s) :
  wpAny (model prog w) A (mX (.ref z)) Q E s:=by
 have tz:s.TypeIs (.ref z) "zip" := ⟨_,hz,rfl⟩;unfold mX;refine aA (wpAny_attempt (cW (name:=iV "__next__") tz xJ (dU xJ tz F.entry_zip_next (aW h (fun fin s' ⟨v,e,q⟩=>⟨v,e,aD q⟩) fun e s' ⟨a,o,e1,e2,e3,q⟩ =>?_) (F.args_zip_next_1 _))))
 subst e1;exact aA (wpAny_isInstance (T := "StopIteration") (b:=true) ⟨o,e2,e3⟩ isSubtype_stop (aD q))
end En
namespace Mn
open L2 En
def Itz2(K:Fg9)(k1 k2:Bool)(a1 a2:Addr):It :=
 ⟨fun i H=>∃x1 x2 v1 v2,(SqK k1 K H a1 x1/\x1[i]? = some v1)/\(SqK k2 K H a2 x2/\x2[i]? = some v2),fun i H x H'=>∃q v1 v2,H q=none/\x=.ref q/\H'=upd H q (.tup [v1,v2])/\(∀xs,SqK k1 K H a1 xs->xs[i]? = some v1)/\(∀xs,SqK k2 K H a2 xs->xs[i]? = some v2),fun i H=>∃xs,SqK k1 K H a1 xs/\xs.length=i⟩
theorem apo{P:bJ}{w:World}{K:Fg9}{elts:List Expr}{n:Nat}{pos:Pos}(k1 k2:Bool)(a1 a2 z TI TO i1 i2:Addr)(D:Apart2 z TI TO i1 i2 a1 a2) :
  Turn P w K (.Tuple elts n pos) (Itz2 K k1 k2 a1 a2) [z,TI,TO,i1,i2] z (fun i h=>IsZip h z TI TO .none/\Row2 h TI (.ref i1) (.ref i2)/\(∃v1 v2,Row2 h TO v1 v2)/\It1 k1 h i1 a1 i/\It1 k2 h i2 a2 i) where
 mem:=by simp
 obj:=fun i h ⟨hz,hI,⟨v1,v2,hO⟩,h1,h2⟩ b hb=>by
  have hb:b=z∨b=TI∨b=TO∨b=i1∨b=i2:=by simpa using hb
  rcases hb with rfl | rfl | rfl | rfl | rfl
  ·exact⟨_,hz,fun v z=>by cases z⟩
  ·exact⟨_,hI,fun v z=>by cases z⟩
  ·exact⟨_,hO,fun v z=>by cases z⟩
  ·exact h1.got
  ·exact h2.got
 keep:=fun i h h' ⟨hz,hI,⟨v1,v2,hO⟩,h1,h2⟩ kk=>⟨kk z (by simp) _ hz,kk TI (by simp) _ hI,⟨v1,v2,kk TO (by simp) _ hO⟩,h1.at fun o e=>kk i1 (by simp) o e,h2.at fun o e=>kk i2 (by simp) o e⟩
 item:=by
  intro X hP hw hK hc i zv s σ H E I hf st hg;subst hP hw hK;obtain⟨hz,hI,⟨o1,o2,hO⟩,h1,h2⟩:=st;obtain⟨x1,x2,v1,v2,⟨hq1,hx1⟩,⟨hq2,hx2⟩⟩:=hg;obtain⟨t1,r1,s1⟩:=aew I hq1;obtain⟨u1,hu1,_⟩:=r1.get hx1;have b1:i < t1.toArray.size:=by simpa using (aK.mp hu1).1
  obtain⟨t2,r2,s2⟩:=aew I hq2;obtain⟨u2,hu2,_⟩:=r2.get hx2;have b2:i < t2.toArray.size:=by simpa using (aK.mp hu2).1
  refine awi hz (apa (I.ok.hd hc) D hz hI hO h1 s1 h2 s2 b1 b2 fun g tk y1 y2 p1 p2 z2 O2 j1 j2 T2 hsz hk =>?_)
  refine⟨_,rfl,wpAny_letOwnedTupleGo_zip z2 fun g2 he2 sb =>?_⟩
  have fr:H s.heap.objs.size=none:=I.hok.fresh (aN _);have lt:∀b∈[z,TI,TO,i1,i2],b < s.heap.objs.size:=fun b hb=>by
   have hb:b=z∨b=TI∨b=TO∨b=i1∨b=i2:=by simpa using hb
   rcases hb with rfl | rfl | rfl | rfl | rfl
   ·exact aP hz
   ·exact aP hI
   ·exact aP hO
   ·obtain⟨o,e,_⟩:=h1.got;exact aP e
   ·obtain⟨o,e,_⟩:=h2.got;exact aP e
  have up:∀b o,b∉[z,TI,TO,i1,i2]->s.heap.get? b=some o->g2.get? b=some o:=fun b o hn e=>sb.extBut _ _ (fun x=>hn (by simp[x])) (hk b o (fun x=>hn (by simp[x])) (fun x=>hn (by simp[x])) (fun x=>hn (by simp[x])) (fun x=>hn (by simp[x])) e)
  have TI2:g2.get? TI=_:=sb.extBut _ _ D.nTIz (hk TI _ D.nTIz D.nTOTI.symm D.ni1TI.symm D.ni2TI.symm hI);refine⟨.ref s.heap.objs.size,upd H s.heap.objs.size (.tup [v1,v2]),?_,rfl,⟨_,v1,v2,fr,rfl,rfl,fun ys hy=>by rw[ald I hy hq1];exact hx1,fun ys hy=>by rw[ald I hy hq2];exact hx2⟩,⟨he2,TI2,⟨y1,y2,sb.extBut _ _ D.nTOz O2⟩,(j1.at fun o e=>sb.extBut _ _ D.ni1z e),(j2.at fun o e=>sb.extBut _ _ D.ni2z e)⟩,fun b hb =>?_⟩
  ·exact arl (fp:=[z,TI,TO,i1,i2]) (us:=[y1,y2]) I up hf lt (.cons (afh r1 hx1 p1) (.cons (afh r2 hx2 p2) .nil)) (by rw[gM];simp) (sb.extBut _ _ (fZ (lt z (by simp))) T2)
  ·rw[dj (bC (lt b hb))];exact(hf b hb).1
 done:=by
  intro X hP hw hK hc i zv s σ H E I hf st hg;subst hP hw hK;obtain⟨hz,hI,⟨o1,o2,hO⟩,h1,h2⟩:=st;obtain⟨xs,hq,hx⟩:=hg;obtain⟨its,rv,sq⟩:=aew I hq;have hl:i=its.toArray.size:=by have:=rv.length;simp;omega
  subst hl;refine awi hz (atm (I.ok.hd hc) D hz hI hO h1 sq fun g e kk ⟨o,he,ce⟩=>⟨e,o,rfl,he,ce,rfl,aeb (t':=s.toks) (fp:=[z,TI,TO,i1,i2]) I (fun b o hn z=>kk b o (fun z=>hn (by simp[z])) (fun z=>hn (by simp[z])) z) hf⟩)
 self:=fun _ _ _ _ _ st h=>wpAny_pyIter_zip st.1 h
theorem apart2{N l1 l2:Nat}(h1:l1 < N)(h2:l2 < N):Apart2 (N+4) (N+2) (N+3) N (N+1) l1 l2:=by
 constructor <;> (intro e;have e:(_:Nat)=_:=e;omega)
section
variable{X:Cx}
def a7n(K:Fg9)(ta:TA):TI:=fun σ H R=>ta σ H fun vs H1=>∃a1 a2 k1 k2,vs=[.ref a1,.ref a2]/\(∃xs,SqK k1 K H1 a1 xs)/\(∃xs,SqK k2 K H1 a2 xs)/\R (Itz2 K k1 k2 a1 a2) H1
theorem axz{e1 e2:Expr}{ta:TA}{p pos:Pos}{elts:List Expr}{n:Nat}{tp:Pos}(hg:Gl X "zip")(hm:X.mg "zip" = none)(ha:PA X [e1,e2] ta)(hs:aQ [e1,e2] X.env=[(false,eval e1 X.env),(false,eval e2 X.env)]:=by rfl)(hs2:aQ [e2] X.env=[(false,eval e2 X.env)]:=by rfl) :
  PI X (.Tuple elts n tp) (.Call (.Name "zip" p) [e1,e2] [] pos) (a7n X.K ta):=by
 intro zv s σ H R I h;refine Call_ (aev I hg hm a3l (fH (thn (ha pos zv s σ H _ I h) fun us s1 ⟨vs,H1,I1,r1,q1⟩ =>?_) (by rw[hs,hs2]) (by rw[hs2];rfl)))
 obtain⟨a1,a2,k1,k2,rfl,⟨x1,hq1⟩,⟨x2,hq2⟩,q⟩:=q1;obtain⟨u1,u2,rfl,ru1,ru2⟩:=vals2 r1;cases ru1;cases ru2;obtain⟨t1,r1',sq1⟩:=aew I1 hq1;have b1:a1 < s1.heap.objs.size:=by obtain⟨o,e⟩:=sq1.got;exact aP e
 obtain⟨t2,r2',sq2⟩:=aew I1 hq2;have b2:a2 < s1.heap.objs.size:=by obtain⟨o,e⟩:=sq2.got;exact aP e
 refine as4 sq1 sq2 fun g hz hI hO h1 h2 hsz kk=>wpAny_pyIter_zip hz ?_
 have I2:Inv X zv σ H1 { s1 with heap:=g }:=I1.kept (t':=s1.toks) kk
 refine⟨_,[s1.heap.objs.size+4,s1.heap.objs.size+2,s1.heap.objs.size+3,s1.heap.objs.size,s1.heap.objs.size+1],_,_,H1,rfl,I2,apo k1 k2 a1 a2 _ _ _ _ _ (apart2 b1 b2),⟨hz,hI,⟨_,_,hO⟩,h1,h2⟩,fun c hc =>?_,q⟩
 have hc:s1.heap.objs.size<=c:=by
  simp only[bF,eV,or_false] at hc;rcases hc with rfl | rfl | rfl | rfl | rfl <;> first | exact aN _ | exact Nat.le_add_right _ _
 exact I1.fpOk hc (I1.hok.fresh hc)
end
section
variable{X:Cx}
end
end Mn
namespace Dn
open L2 Mn
section
variable{K:Fg9}{X:Cx}{e a b c:Expr}{es elts:List Expr}{pos p tp:Pos}{n:Nat}
theorem aqb{F:Hp}{d:D}{l:List D}{v:V}(e:itemsD d=some l)(h:Is K F d v):∃a k vs,v=.ref a/\IsL K F l vs/\∀H,Same F H->SqK k K H a vs:=by
 cases h with
 | tup e1 h1=>cases e;exact⟨_,true,_,rfl,h1,fun H g=>SqT.of (g _ _ e1)⟩
 | lst e1 h1=>cases e;exact⟨_,false,_,rfl,h1,fun H g=>SqL.of (g _ _ e1)⟩
 | kst e1 h1=>cases e;exact⟨_,false,_,rfl,h1,fun H g=>L2.Same.seq g e1⟩
 | _=>cases e
def agh(l:List D):List D:=l.mapIdx fun i d=>.tup [.int (i:Nat),d]
noncomputable def ar0:List D->Option (List D)
 | [d]=>(itemsD d).map agh
 | _=>none
theorem abl(l:List D):(agh l).length=l.length:=by unfold agh;simp
theorem adq{l:List D}{i:Nat}{d:D}(h:(agh l)[i]? = some d):∃d0,l[i]? = some d0/\d=.tup [.int (i:Nat),d0]:=by
 unfold agh at h;rw[oW] at h;cases e:l[i]? with
 | none=>rw[e] at h;cases h
 | some d0=>rw[e] at h;cases h;exact⟨d0,rfl,rfl⟩
theorem avi{F:Hp}{k:Bool}{a:Addr}{l:List D}{vs:List V}(il:IsL K F l vs)(hs:∀H,Same F H->SqK k K H a vs):ItD K (Ite K k a) (agh l) F where
 go:=fun i H s hi=>by
  have hi:i < vs.length:=by rw[<-il.length,<-abl];exact hi
  exact⟨vs,_,hs H s,aG hi⟩
 yld:=fun i H x H' d s y hd=>by
  obtain⟨d0,h0,rfl⟩:=adq hd;obtain⟨q,v,hq,rfl,rfl,hv⟩:=y;obtain⟨v',e1,i1⟩:=il.get h0;have:=hv _ (hs H s);rw[e1] at this;cases this;exact .inr ⟨q,_,_,hq,rfl,rfl,rfl,.cons (.int _) (.cons i1 .nil)⟩
 stop:=fun H s=>⟨vs,hs H s,by rw[abl,il.length]⟩
theorem alb{m:M (List D)}(hg:Gl X "enumerate")(hm:X.mg "enumerate" = none)(h:ED K X [a] m)(hs:aQ [a] X.env=[(false,eval a X.env)]:=by rfl):IT K X (.Tuple elts n tp) (.Call (.Name "enumerate" p) [a] [] pos) (mGet ar0 m):=IT.mk fun hk=>by
 intro zv s σ H R I ⟨tg,F,ρ,l,ρ',G,em,q⟩;obtain⟨ds,ρ1,e1,em⟩:=bf em;obtain⟨e2,rfl⟩:=gr em;have h:=h hk;subst hk;refine ax0 hg hm h hs zv s σ H R I ⟨tg,F,ρ,ds,_,G,e1,fun vs H' F' G' x r =>?_⟩
 match ds,e2 with
 | [d],e2 =>
  have e2:(itemsD d).map agh=some l:=e2;cases e3:itemsD d with
  | none=>rw[e3] at e2;cases e2
  | some l0 =>
   rw[e3] at e2;cases e2;cases r with
   | cons h1 t =>
    cases t;obtain⟨b,k,ws,rfl,il,hq⟩:=aqb e3 h1;exact⟨b,k,rfl,⟨ws,hq _ G'.sub⟩,q _ H' F' G' x (avi il hq)⟩
def lw(l1 l2:List D):List D:=List.zipWith (fun x y=>.tup [x,y]) l1 l2
noncomputable def az4(l1 l2 l3:List D):List D:=List.zipWith (fun x (p:D×D)=>.tup [x,p.1,p.2]) l1 (uX l2 l3)
noncomputable def alf:List D->Option (List D)
 | [a,b]=>(itemsD a).bind fun l1=>(itemsD b).bind fun l2=>if l1.length<=l2.length then some (lw l1 l2) else none
 | _=>none
noncomputable def a7t:List D->Option (List D)
 | [a,b,c]=>(itemsD a).bind fun l1=>(itemsD b).bind fun l2=>(itemsD c).bind fun l3=>if l1.length<=l2.length/\l1.length<=l3.length then some (az4 l1 l2 l3) else none
 | _=>none
theorem apb{l1 l2:List D}{i:Nat}{d:D}(h:(lw l1 l2)[i]? = some d):∃d1 d2,l1[i]? = some d1/\l2[i]? = some d2/\d=.tup [d1,d2]:=by
 unfold lw at h;rw[gJ] at h;cases e1:l1[i]? with
 | none=>rw[e1] at h;cases h
 | some d1 =>
  cases e2:l2[i]? with
  | none=>rw[e1,e2] at h;cases h
  | some d2=>rw[e1,e2] at h;cases h;exact⟨_,_,rfl,rfl,rfl⟩
theorem avh{F:Hp}{k1 k2:Bool}{a1 a2:Addr}{l1 l2:List D}{x1 x2:List V}(h:l1.length<=l2.length)(i1:IsL K F l1 x1)(i2:IsL K F l2 x2)(s1:∀H,Same F H->SqK k1 K H a1 x1)(s2:∀H,Same F H->SqK k2 K H a2 x2):ItD K (Itz2 K k1 k2 a1 a2) (lw l1 l2) F where
 go:=fun i H s hi=>by
  have z1:=i1.length;have z2:=i2.length;have hi:i < l1.length:=by unfold lw at hi;simp at hi;omega
  exact⟨x1,x2,_,_,⟨s1 H s,aG (by omega)⟩,s2 H s,aG (by omega)⟩
 yld:=fun i H x H' d s y hd=>by
  obtain⟨d1,d2,h1,h2,rfl⟩:=apb hd;obtain⟨q,v1,v2,hq,rfl,rfl,y1,y2⟩:=y;obtain⟨w1,e1,j1⟩:=i1.get h1;obtain⟨w2,e2,j2⟩:=i2.get h2;have z1:=y1 _ (s1 H s);have z2:=y2 _ (s2 H s);rw[e1] at z1;rw[e2] at z2;cases z1;cases z2;exact .inr ⟨q,_,_,hq,rfl,rfl,rfl,.cons j1 (.cons j2 .nil)⟩
 stop:=fun H s=>⟨x1,s1 H s,by unfold lw;rw[cX,<-i1.length];omega⟩
theorem af4{m:M (List D)}(hg:Gl X "zip")(hm:X.mg "zip" = none)(h:ED K X [a,b] m)(hs:aQ [a,b] X.env=[(false,eval a X.env),(false,eval b X.env)]:=by rfl)(hs2:aQ [b] X.env=[(false,eval b X.env)]:=by rfl) :
  IT K X (.Tuple elts n tp) (.Call (.Name "zip" p) [a,b] [] pos) (mGet alf m):=IT.mk fun hk=>by
 intro zv s σ H R I ⟨tg,F,ρ,l,ρ',G,em,q⟩;obtain⟨ds,ρ1,e1,em⟩:=bf em;obtain⟨e2,rfl⟩:=gr em;have h:=h hk;subst hk;refine axz hg hm h hs hs2 zv s σ H R I ⟨tg,F,ρ,ds,_,G,e1,fun vs H' F' G' x r =>?_⟩
 match ds,e2 with
 | [d,d'],e2 =>
  have e2:((itemsD d).bind fun l1=>(itemsD d').bind fun l2=>if l1.length<=l2.length then some (lw l1 l2) else none)=some l:=e2
  cases e3:itemsD d with
  | none=>rw[e3] at e2;cases e2
  | some l1 =>
   cases e4:itemsD d' with
   | none=>rw[e3,e4] at e2;cases e2
   | some l2 =>
    rw[e3,e4] at e2;have e2:(if l1.length<=l2.length then some (lw l1 l2) else none)=some l:=e2
    split at e2
    ·rename_i hle;cases e2;cases r with
     | cons h1 t =>
      cases t with
      | cons h2 t =>
       cases t;obtain⟨b1,k1,w1,rfl,il1,hq1⟩:=aqb e3 h1;obtain⟨b2,k2,w2,rfl,il2,hq2⟩:=aqb e4 h2;exact⟨b1,b2,k1,k2,rfl,⟨w1,hq1 _ G'.sub⟩,⟨w2,hq2 _ G'.sub⟩,q _ H' F' G' x (avh hle il1 il2 hq1 hq2)⟩
    ·cases e2
end
end Dn
namespace Mn
open L2
theorem avo{X:Cx}:PGet X (rIxL X.K):=by
 intro zv s σ H x y v u Q I rx ry h;obtain⟨p,xs,i,z,rfl,rfl,hq,he,q⟩:=h;cases rx;obtain⟨t,rfl⟩:=ry;obtain⟨its,r,pl,hz⟩:=I.list hq;obtain⟨j,h1,h2,h3,h4,h5⟩:=alz he;obtain⟨w,ew,rw'⟩:=r.get h2;have hl:=r.length;have hn:=ajj;have fin:EP X zv σ Q w s:=⟨z,H,I,rw',q⟩
 by_cases h0:0<=i
 ·have hj:i.toNat=j:=by
   rw[seqIndex_of h0 h5] at h1;exact bD h1
  exact wpAny_getItem_list pl.isList h0 (by omega) (by rw[hj];simpa using ew) fin
 ·have hj:(i+(its.toArray.size:Int)).toNat=j:=by
   rw[seqIndex_neg (by omega) h4] at h1
   have:=bD h1;rw[aR,<-hl];exact this
  exact wpAny_getItem_list_neg pl.isList (by omega) (by simp only[aR];omega) (by omega) (by rw[hj];simpa using ew) fin
end Mn
namespace Dn
open L2 Mn
section
variable{K:Fg9}{X:Cx}{e a b:Expr}{pos p:Pos}
def alr(f:Int->Int->Int)(i:Nat)(mi m:M D):Sd:=dM (mOwn i) fun _=>dM mi fun k=>dM (mOwn i) fun l=>dM (lift ((asI k).bind (ixN l.length))) fun j=>dM (lift ((l[j]?).bind asI)) fun x=>dM m fun y=>dM (lift (asI y)) fun y=>dM (mOwn i) fun l2=>dM (lift (if l2.length=l.length then some () else none)) fun _=>dM (adh i (l2.set j (.int (f x y)))) fun _=>dNx
theorem a2k{n:Nat}{k:Int}{j:Nat}{α:Type}{l:List α}(hn:l.length=n)(h:ixN n k=some j):atI l k=l[j]? := by
 unfold atI;rw[hn,h];rfl
theorem apz{f:Int->Int->Int}{op:Operator}{i:Nat}{mi m:M D}(ho:PE X a (tVar i))(hi:EV K X b mi)(h:EV K X e m)(hp:PIp X op (ipI f))
  (ha:∀ov iv new,augStore b ov iv new=(do mQ [new,ov,iv] (setItem ov iv new);release [new,ov,iv] [];pure .next):=by intros;rfl):SV K X (.AugAssign (.Subscript a b p) op e pos) (alr f i mi m):=SV.mk fun hk=>by
 subst hk;refine PS.imp (axu ho (hi rfl) avo (h rfl) hp set_list ha) fun E σ H ⟨tg,F,ρ,fl,ρ',G,em,q⟩ =>
  xn em q fun l0 ρ0 e0 em=>xn em q fun k ρ1 e1 em=>xn em q fun l ρ2 e2 em=>xn em q fun j ρ3 e3 em=>xn em q fun x ρ4 e4 em=>xn em q fun y ρ5 e5 em=>xn em q fun y' ρ6 e6 em=>xn em q fun l2 ρ7 e7 em=>xn em q fun u ρ8 e8 em=>xn em q fun u2 ρ9 e9 em =>?_
 cases em;obtain⟨rfl,t0,a0,xs0,es0,hv,hh0,hl0⟩:=afw G e0;refine⟨_,hv,tg,F,_,k,ρ1,G,e1,fun w H1 F1 G1 x1 r1 =>?_⟩
 obtain⟨rfl,t1,a1,xs1,es1,hv1,hh1,hl1⟩:=afw G1 e2;rw[hv] at hv1;cases hv1;obtain⟨g3,rfl⟩:=gr e3;obtain⟨g4,rfl⟩:=gr e4;cases ek:asI k with
 | none=>rw[ek] at g3;cases g3
 | some n =>
  rw[ek] at g3;obtain rfl:=anm ek;cases r1;have e3:ixN l.length n=some j:=g3;cases ej:l[j]? with
  | none=>rw[ej] at g4;cases g4
  | some d =>
   rw[ej] at g4;have h4:asI d=some x:=g4;obtain rfl:=anm h4;obtain⟨v,ev,iv⟩:=hl1.get ej;cases iv;refine⟨_,xs1,n,.int x,rfl,rfl,SqL.of hh1,by rw[a2k hl1.length.symm e3];exact ev,?_⟩
   refine⟨tg,F1,_,y,ρ5,G1,e5,fun w2 H2 F2 G2 x2 r2 =>?_⟩
   obtain⟨g6,rfl⟩:=gr e6;obtain rfl:=anm g6;cases r2;refine⟨x,y',rfl,rfl,?_⟩;obtain⟨rfl,t2,a2,xs2,es2,hv2,hh2,hl2⟩:=afw G2 e7;rw[hv] at hv2;cases hv2;obtain⟨g8,rfl⟩:=gr e8;split at g8
   ·rename_i hlen;obtain⟨G3,x3⟩:=ak6 G2 e9 hv (hl2.set (Is.int (f x y')) j);exact⟨_,xs2,n,j,rfl,rfl,hh2,by rw[<-hl2.length,hlen];exact e3,q _ _ F2 G3 ((x1.trans x2).trans x3)⟩
   ·cases g8
end
section
variable{K:Fg9}{X:Cx}{a:Expr}{pos p p2 pos2:Pos}
theorem as5:za X (.type "range") (fun xs H Q=>∃b,xs=[.int b]/\∀q,H q=none->Q (.ref q) (upd H q (.rng 0 b))):=by
 intro zv s σ H xs us Q I r h;obtain⟨b,rfl,q⟩:=h;obtain⟨u,rfl,ru⟩:=vals1 r;obtain⟨t,rfl⟩:=ru;exact call_range_1 ⟨.ref s.heap.objs.size,_,I.laid (t':=s.toks+1+1) (o:=.rng 0 b) (fun b ob q=>aB _ q) (aN _) ⟨_,_,_,aL _ rfl⟩,rfl,q _ (I.hok.fresh (aN _))⟩
theorem atu{acc:Array Value}{n:Nat}(h:ItemsOf (fun i v=>∃t,v=.int (0+i*1) t) acc n):Vals (ups 0 n) acc.toList:=by
 have key:∀(l:List Value) (k:Nat),(∀j v,l[j]? = some v->∃t,v=mY ((k+j:Nat):Int) t)->Vals ((List.range' k l.length).map fun(i:Nat)=>V.int ((i:Nat):Int)) l:=by
  intro l
  induction l with
  | nil=>intro k _;exact .nil
  | cons x r ih =>
   intro k hk;rw[cC,List.range'_succ,aV];refine .cons ?_ (ih (k+1) fun j v hj =>?_)
   ·obtain⟨t,rfl⟩:=hk 0 x rfl;exact⟨t,by simp⟩
   ·obtain⟨t,rfl⟩:=hk (j+1) v (by simpa using hj)
    exact⟨t,by rw[show k+(j+1)=k+1+j by omega]⟩
 have e:=key acc.toList 0 fun j v hj=>by
  obtain⟨t,rfl⟩:=h.2 j v (by simpa using hj)
  exact⟨t,by simp⟩
 have hs:acc.toList.length=n:=by simpa using h.1
 rw[hs] at e;unfold ups;rw[List.range_eq_range']
 simpa using e
theorem aj4(hc:X.calm=true):za X (.type "list") (fun xs H Q=>∃p b,xs=[.ref p]/\H p=some (.rng 0 b)/\b.natAbs < 1000000/\∀q,H q=none->Q (.ref q) (upd H q (.lst (ups 0 b.toNat)))):=by
 intro zv s σ H xs us Q I r h;obtain⟨p,b,rfl,hp,hb,q⟩:=h;obtain⟨u,rfl,ru⟩:=vals1 r;cases ru;obtain⟨t,u,v,e⟩:=I.hok p _ hp;have e62:(2:Int) ^ 62=4611686018427387904:=by decide
 have e24:(2:Nat) ^ 24=16777216:=by decide
 refine call_list_range (I.ok.hd hc) e (small_one (by omega) (by omega) (by omega) (by omega)) (n:=b.toNat) (by rw[rangeSize_one];split <;> omega) (by omega) fun h' tk acc c' kk e' it =>?_
 refine⟨.ref s.heap.objs.size,_,?_,rfl,q _ (I.hok.fresh (aN _))⟩;exact I.laid kk (aN _) ⟨by rw[ahn,gM];omega,acc.toList,c',atu it,by simpa using e'⟩
noncomputable def abz:List D->Option Rv
 | [.int j]=>if j.natAbs < 1000000 then some (.fr (rangeD 0 j.toNat)) else none
 | _=>none
def ad8(m:M (List D)):M Rv:=m.bind fun ds=>lift (abz ds)
@[simp] theorem au3(ρ:Ro)(m:M (List D)):ad8 m ρ=(m.bind fun ds=>lift (abz ds)) ρ:=rfl
@[simp] theorem atl(j:Int):abz [.int j]=if j.natAbs < 1000000 then some (.fr (rangeD 0 j.toNat)) else none:=rfl
theorem ajy{m:M (List D)}(hc:X.calm=true)(hg1:Gl X "list")(hm1:X.mg "list" = none)(hg2:Gl X "range")(hm2:X.mg "range" = none)(h:ED K X [a] m)
  (he:aQ [a] X.env=[(false,eval a X.env)]:=by rfl) (he2:aQ [.Call (.Name "range" p2) [a] [] pos2] X.env=[(false,eval (.Call (.Name "range" p2) [a] [] pos2) X.env)]:=by rfl) :
  ER K X (.Call (.Name "list" p) [.Call (.Name "range" p2) [a] [] pos2] [] pos) (ad8 m):=ER.mk fun hk=>PE.imp (ac7 (aj4 hc) hg1 hm1 acz (uf (ac7 as5 hg2 hm2 av6 (h hk) (by decide) (by decide) he rfl) ac9 he2) (by decide) (by decide) he2 rfl) fun σ H Q hq0=>by
 obtain⟨tg,F,ρ,r,ρ',G,em,q⟩:=hq0;obtain⟨ds,ρ1,e1,em⟩:=bf em;obtain⟨e2,rfl⟩:=gr em;refine⟨tg,F,ρ,ds,_,G,e1,fun vs H1 F1 G1 x1 bl =>?_⟩
 unfold abz at e2;split at e2
 ·rename_i j;split at e2
  ·rename_i hb;cases e2;cases bl with
   | cons hd t =>
    cases t;cases hd;refine⟨j,rfl,fun a hna =>?_⟩
    refine⟨a,j,rfl,gq,hb,fun b hnb =>?_⟩
    have G2:=G1.fresh hna (.rng 0 j);have X2:=G1.freshX hna (.rng 0 j);exact Res.lst G2 (fun v H3 F3 G3 x3 rr=>q v H3 F3 G3 ((x1.trans X2).trans x3) (p6 (x1.trans X2) rr)) (ahv 0 _) hnb
  ·cases e2
 ·cases e2
end
end Dn
namespace Mn
open L2
set_option maxRecDepth 100000
section
variable{prog:bJ}{w:World}{A:bW}{E:Value->aF->Prop}{s:aF}
end
end Mn
namespace Dn
open L2 Mn
section
variable{K:Fg9}{X:Cx}{a:Expr}{pos p p2 pos2:Pos}
noncomputable def aga:List D->Option Rv
 | [.int j]=>if j.natAbs < 1000000 then some (.v (.tup (rangeD 0 j.toNat))) else none
 | _=>none
def ak7(m:M (List D)):M Rv:=m.bind fun ds=>lift (aga ds)
@[simp] theorem atk(ρ:Ro)(m:M (List D)):ak7 m ρ=(m.bind fun ds=>lift (aga ds)) ρ:=rfl
@[simp] theorem avp(j:Int):aga [.int j]=if j.natAbs < 1000000 then some (.v (.tup (rangeD 0 j.toNat))) else none:=rfl
end
end Dn
namespace Mn
open L2
section
variable{prog:bJ}{w:World}{A:bW}{E:Value->aF->Prop}{s:aF}
end
section
variable{X:Cx}{e:Expr}{te:TE}{pos p2 p3:Pos}{st:Expr}{ts:TE}
end
end Mn
namespace Dn
open L2 Mn
section
variable{K:Fg9}{X:Cx}{a st:Expr}{pos p p2 pos2:Pos}
noncomputable def gRev:D->D->Option Rv
 | .tup l,.int k=>if k = -1 then some (.v (.tup l.reverse)) else none
 | _,_=>none
@[simp] theorem a4o(l:List D):gRev (.tup l) (.int (-1))=some (.v (.tup l.reverse)):=rfl
def mRev(m ms:M D):M Rv:=m.bind fun d=>ms.bind fun k=>lift (gRev d k)
@[simp] theorem a6t(ρ:Ro)(m ms:M D):mRev m ms ρ=(m.bind fun d=>ms.bind fun k=>lift (gRev d k)) ρ:=rfl
end
section
variable{K:Fg9}{X:Cx}{e:Expr}{pos p:Pos}
def a8j(f:Int->Int->Option Int)(i:Nat)(m:M D):Sd:=dM (mVar i) fun x=>dM m fun y=>dM (lift ((asI x).bind fun n=>(asI y).bind fun k=>(f n k).map D.int)) fun z ρ=>some (.nx,bT ρ i (.val z))
@[simp] theorem a5k(ρ:Ro)(f:Int->Int->Option Int)(i:Nat)(m:M D):a8j f i m ρ=(dM (mVar i) fun x=>dM m fun y=>dM (lift ((asI x).bind fun n=>(asI y).bind fun k=>(f n k).map D.int)) fun z ρ=>some (.nx,bT ρ i (.val z))) ρ:=rfl
end
end Dn
namespace Mn
open L2
section
variable{prog:bJ}{w:World}{A:bW}{E:Value->aF->Prop}{s:aF}
end
end Mn
namespace Dn
open L2 Mn
section
variable{K:Fg9}{X:Cx}
noncomputable def avq:D->Option Rv
 | .tup l=>(yz l).bind fun ns=>if ns.length < 64 then some (.fr ((sortI ns).map D.int)) else none
 | d=>art d
@[simp] theorem awu(l:List D):avq (.lst l)=art (.lst l):=rfl
end
section
variable{K:Fg9}{X:Cx}
end
end Dn
namespace Mn
open L2
section
variable{X:Cx}{e:Expr}{te:TE}{pos p2 p3:Pos}{st:Expr}{ts:TE}
end
end Mn
namespace Dn
open L2 Mn
section
variable{K:Fg9}{X:Cx}{a st:Expr}{pos p p2 pos2:Pos}
noncomputable def avs:D->D->Option Rv
 | .lst l,.int k=>if k = -1 then some (.fr l.reverse) else none
 | d,k=>gRev d k
@[simp] theorem a2s(l:List D):avs (.lst l) (.int (-1))=some (.fr l.reverse):=rfl
@[simp] theorem a2r(l:List D):avs (.tup l) (.int (-1))=some (.v (.tup l.reverse)):=rfl
def a6u(m ms:M D):M Rv:=m.bind fun d=>ms.bind fun k=>lift (avs d k)
@[simp] theorem a4a(ρ:Ro)(m ms:M D):a6u m ms ρ=(m.bind fun d=>ms.bind fun k=>lift (avs d k)) ρ:=rfl
end
end Dn
namespace Mn
open PySem
open PySem.Spec PyProof.Rows L2
section
variable{X:Cx}
end
end Mn
namespace Dn
open L2 Mn
section
variable{K:Fg9}{X:Cx}
noncomputable def gAny:D->Option Rv
 | .lst l=>(w6 l).map fun bs=>.v (.bl (bs.any id))
 | _=>none
@[simp] theorem a5a(l:List D):gAny (.lst l)=(w6 l).map fun bs=>.v (.bl (bs.any id)):=rfl
end
end Dn
namespace Mn
open L2
noncomputable def asu(y:Str)(env:Env)(XN:List Str)(scope:Scope)(fr N:List Str)(src:List (Option Nat)):Bool :=
 scope.names.all (fun z=>(z.2 != .cell||z.1==y)&&(z.2 != .local||scope.names.lookup z.1==some .local)&&(z.2 != .free||fr.contains z.1)) &&
 fr.all (fun x=>x != y&&(scope.names.lookup x==some .free&&(env.kindOf x==some .cell||env.kindOf x==some .free)))&&ad1 XN fr N src
structure CompOkY (y:Str) (env:Env) (XN:List Str) (scope:Scope) (fr N:List Str) (src:List (Option Nat)):Prop where
 cell:∀z∈scope.names,z.2=.cell->z.1=y
 loc:∀z∈scope.names,z.2=.local->scope.names.lookup z.1=some .local
 free:∀z∈scope.names,z.2=.free->z.1∈fr
 ne:∀x∈fr,x≠y
 frk:∀x∈fr,scope.names.lookup x=some .free
 out:∀x∈fr,env.kindOf x=some .cell∨env.kindOf x=some .free
 src:ad1 XN fr N src=true
theorem CompOkY.of{y:Str}{env:Env}{XN:List Str}{scope:Scope}{fr N:List Str}{src:List (Option Nat)}(h:asu y env XN scope fr N src=true):CompOkY y env XN scope fr N src:=by
 simp only[asu,aZ,dX] at h;obtain⟨⟨h1,h2⟩,h3⟩:=h;refine⟨fun z hz e =>?_,fun z hz e =>?_,fun z hz e =>?_,fun x hx =>?_,fun x hx =>?_,fun x hx =>?_,h3⟩
 ·have:=(h1 z hz).1.1;rw[e] at this
  simpa using this
 ·have:=(h1 z hz).1.2;rw[e] at this
  simpa using this
 ·have:=(h1 z hz).2;rw[e] at this
  simpa using this
 ·simpa using (h2 x hx).1
 ·simpa using (h2 x hx).2.1
 ·simpa using (h2 x hx).2.2
section
variable{y:Str}{X:Cx}{zv:List (Addr×Obj)}{σ:L2.St}{H:Hp}{s:aF}{scope:Scope}{fr N:List Str}{src:List (Option Nat)}{fp:List Addr}
end
end Mn
namespace Dn
open L2 Mn
end Dn
namespace L2
section
variable{M:Model}{A:bW}{E:Value->aF->Prop}{s:aF}
structure KeptBut (fs ch:List Addr) (h h':Heap):Prop where
 keep:∀b o,b∉ch->b∉fs->h.get? b=some o->h'.get? b=some o
 slot:∀b o,b∉ch->h.get? b=some o->∃sl,h'.get? b=some { o with slots:=sl }
theorem KeptBut.trans{fs ch:List Addr}{h h1 h2:Heap}(a:KeptBut fs ch h h1)(b:KeptBut fs ch h1 h2):KeptBut fs ch h h2 :=
 ⟨fun c o n1 n2 e=>b.keep c o n1 n2 (a.keep c o n1 n2 e),fun c o n e=>let ⟨_,e1⟩:=a.slot c o n e;let ⟨sl,e2⟩:=b.slot c _ n e1;⟨sl,e2⟩⟩
theorem KeptBut.sub{fs ch ch':List Addr}{h h':Heap}(a:KeptBut fs ch h h')(q:∀b∈ch,b∈ch'):KeptBut fs ch' h h' :=
 ⟨fun c o n1 n2 e=>a.keep c o (fun z=>n1 (q c z)) n2 e,fun c o n e=>a.slot c o (fun z=>n (q c z)) e⟩
theorem KeptBut.upd{fs:List Addr}{h:Heap}{a:Addr}{f:Obj->Obj}:KeptBut fs [a] h (h.update a f) :=
 ⟨fun b o n _ e=>by rw[bA _ _ (fun z=>n (by simp[z]))];exact e,fun b o n e=>⟨o.slots,by rw[bA _ _ (fun z=>n (by simp[z]))];exact e⟩⟩
theorem ajf{base:Heap}{env:Env}{outer:List Env}{L e:Addr}{oe:Obj}{vs:Array Value}{head:Value}{hadNext:Bool}{Q:Unit->aF->Prop}
  (hfr:A.frames=some (env::outer)) (hl:s.heap.FunFrames base (env::outer)) (hf:env.frame=some L) (he:s.heap.get? e=some oe) (hd:oe.data=.fields vs) (hsz:1 < vs.size)
  (h:∀h' T ts,s.heap.objs.size<=T->KeptBut (frs (env::outer)) [e] s.heap h'->h'.get? e=some (oe.mapFields (·.setIfInBounds 1 (.ref T)))->h'.get? T=some { cls:=.type "traceback", dict:=none,data:=.fields ts }->ts[3]? = some (jM L)->Q () { s with heap:=h' }) :
  wpAny M A (do let a <-frameOf env;let pl <-entryPlaceOf L hadNext;let b <-uO head a .none (jM L) .none pl;setField (.ref e) 1 b) Q E s:=by
 have hene:e∉frs (env::outer):=fun hm=>by
  obtain⟨_,o,ho,hnf⟩:=hl.mem hm;rw[he] at ho;injection ho with ho;subst ho;exact hnf vs hd
 refine aA (wpAny_frameOf_fun hfr hl hf fun h₁ hs₁ =>?_)
 refine aA (wpAny_entryPlaceOf fun pl hpl =>?_)
 unfold uO newFields;refine aA (bR ?_ (hpl.sizeOk5 _ _ _ _ _));have he₁:h₁.get? e=some oe:=(hs₁.2.1 e hene).trans he;have he₂:=aB (h:=h₁) { cls:=.type "traceback", dict:=none,data:=.fields ([head,.ref L,.none,jM L,.none]++(if pl.isEmpty then aM 6 cF else pl)).toArray } he₁
 refine eH he₂ hd hsz (h _ h₁.objs.size ([head,.ref L,.none,jM L,.none]++(if pl.isEmpty then aM 6 cF else pl)).toArray ?_ ?_ ?_ ?_ ?_)
 ·exact tL hs₁.1.symm
 ·have keep:∀b o,b≠e->h₁.get? b=some o->((h₁.push { cls:=.type "traceback", dict:=none,data:=.fields ([head,.ref L,.none,jM L,.none]++(if pl.isEmpty then aM 6 cF else pl)).toArray }).update e (lW (·.setIfInBounds 1 (cJ h₁.objs.size)))).get? b=some o:=fun b o hbe hb=>by
   rw[bA _ _ (fO hbe)];exact aB _ hb
  refine⟨fun b o n1 n2 hb=>keep b o (fun z=>n1 (by simp[z])) ((hs₁.2.1 b n2).trans hb),fun b o n hb =>?_⟩
  obtain⟨sl,q⟩:=hs₁.2.2 b o hb;exact⟨sl,keep b _ (fun z=>n (by simp[z])) q⟩
 ·exact bQ _ he₂ (dJ (bK hd _))
 ·rw[bA _ _ (fO (fZ (aP he₁)))];exact aL h₁ rfl
 ·rcases hpl with rfl | ⟨_,_,_,_,_,_,_,rfl⟩ <;> simp
end
structure FlyAt (h:Heap) (a:Addr) (C:Addr) (dx:Option Addr) (ch:List Addr) (L:Addr):Prop where
 obj:∃oe vs,h.get? a=some oe/\oe.cls=.ref C/\oe.dict=dx/\oe.data=.fields vs/\1 < vs.size /\
  ((vs[1]? = some .none/\ch=[a])∨∃T oT ts fl,ch=[a,T]/\vs[1]? = some (.ref T)/\T≠a/\h.get? T=some oT/\oT.data=.fields ts/\ts[3]? = some fl/\(fl=.none∨fl=jM L))
theorem FlyAt.fresh{h:Heap}{a C L:Addr}{dx:Option Addr}{ch:List Addr}(x:FlyAt h a C dx ch L):a∈ch:=by
 obtain⟨oe,vs,_,_,_,_,_,⟨_,e⟩ | ⟨T,_,_,_,e,_⟩⟩:=x.obj <;> simp[e]
section
variable{M:Model}{A:bW}{E:Value->aF->Prop}{s:aF}
theorem ab9(o:Obj)(f):(o.mapFields f).dict=o.dict:=by
 obtain⟨c,d,dt,sl⟩:=o;cases dt <;> rfl
theorem a1o{base:Heap}{env:Env}{outer:List Env}{L a C:Addr}{dx:Option Addr}{ch:List Addr}{Q:Unit->aF->Prop}
  (hfr:A.frames=some (env::outer)) (hl:s.heap.FunFrames base (env::outer)) (hf:env.frame=some L) (x:FlyAt s.heap a C dx ch L)
  (h:∀h' T oT ts oe vs,(T∈ch∨s.heap.objs.size<=T)->KeptBut (frs (env::outer)) ch s.heap h'->h'.get? a=some oe->oe.cls=.ref C->oe.dict=dx->oe.data=.fields vs->1 < vs.size->vs[1]? = some (.ref T)->T≠a->h'.get? T=some oT->oT.data=.fields ts->ts[3]? = some (jM L)->Q () { s with heap:=h' }) :
  wpAny M A (noteFrame (.ref a) env) Q E s:=by
 obtain⟨oe,vs,he,hc,hdx,hd,hsz,alt⟩:=x.obj;unfold noteFrame;simp only[hf];rcases alt with⟨h1,rfl⟩ | ⟨T,oT,ts,fl,rfl,h1,hTa,hT,hdT,h3,hfl⟩
 ·refine aA (cU he hd h1 ?_);rw[if_neg (by decide)]
  refine ajf hfr hl hf he hd hsz fun h' T ts hT k e1 e2 e3 =>?_
  refine h h' T _ ts _ _ (.inr hT) k e1 (by rw[jH];exact hc) (by rw[ab9];exact hdx) (bK hd _) (by simpa using hsz) (by simp[hsz]) ?_ e2 rfl e3
  exact fZ (bL (aP he) hT)
 ·refine aA (cU he hd h1 ?_);rw[if_pos (show(cJ T != cF)=true from by simp)]
  refine aA (cU hT hdT h3 ?_);rcases hfl with rfl | rfl
  ·rw[if_neg (show ¬((cF==jM L)=true) from by simp[jM])]
   refine aA (eH hT hdT (dZ.mp h3).1 ?_);have k0:KeptBut (frs (env::outer)) [T] s.heap (s.heap.update T (lW (·.setIfInBounds 3 cF))):=KeptBut.upd;have he':=(bA s.heap (lW (·.setIfInBounds 3 cF)) hTa).trans he;refine ajf hfr (hl.of_keeps fun b o hb hnf =>?_) hf he' hd hsz fun h' T' ts' hT' k e1 e2 e3 =>?_
   ·exact⟨o,(bA _ _ fun z=>by rw[<-z,hT] at hb;cases hb;exact hnf _ hdT).trans hb,rfl⟩
   ·have hsz':s.heap.objs.size<=T':=by
     have:(s.heap.update T (lW (·.setIfInBounds 3 cF))).objs.size=s.heap.objs.size:=Heap.size_after_update ..
     exact this▸hT'
    refine h h' T' _ ts' _ _ (.inr hsz') ((k0.sub (by simp)).trans (k.sub (by simp))) e1 (by rw[jH];exact hc) (by rw[ab9];exact hdx) (bK hd _) (by simpa using hsz) (by simp[hsz]) ?_ e2 rfl e3
    exact fZ (bL (aP he) hsz')
  ·rw[if_pos (show(jM L==jM L)=true from by simp)]
   refine aD (h s.heap T oT ts oe vs (.inl (by simp)) ⟨fun _ _ _ _ e=>e,fun _ o _ e=>⟨o.slots,e⟩⟩ he hc hdx hd hsz h1 hTa hT hdT h3)
theorem a2e{base:Heap}{env:Env}{outer:List Env}{L a C:Addr}{dx:Option Addr}{ch:List Addr}{Q:Unit->aF->Prop}
  (hfr:A.frames=some (env::outer)) (hl:s.heap.FunFrames base (env::outer)) (hf:env.frame=some L) (x:FlyAt s.heap a C dx ch L)
  (h:∀h' ch',(∀b∈ch',b∈ch∨s.heap.objs.size<=b)->KeptBut (frs (env::outer)) ch s.heap h'->(∀L',FlyAt h' a C dx ch' L')->Q () { s with heap:=h' }) :
  wpAny M A (leaving env (.ref a)) Q E s:=by
 unfold leaving;refine aA (a1o hfr hl hf x fun h' T oT ts oe vs hT k e1 e2 e3 e4 e5 e6 e7 e8 e9 e10 =>?_)
 unfold setFlight;refine aA (cU e1 e4 e6 ?_);rw[if_pos (show(cJ T != cF)=true from by simp)]
 have hsz3:3 < ts.size:=(dZ.mp e10).1;refine eH e8 e9 hsz3 (h _ [a,T] (fun b hb =>?_) ?_ fun L'=>⟨oe,vs,(bA _ _ e7).trans e1,e2,e3,e4,e5,.inr ⟨T,_,_,.none,rfl,e6,e7,bQ _ e8 (dJ (bK e9 _)),bK e9 _,by simp[hsz3],.inl rfl⟩⟩)
 ·have:b=a∨b=T:=by simpa using hb
  rcases this with rfl | rfl
  ·exact .inl x.fresh
  ·exact hT
 ·rcases hT with hT | hT
  ·exact k.trans (KeptBut.upd.sub (by simp[hT]))
  ·refine⟨fun b o n1 n2 e =>?_,fun b o n e =>?_⟩
   ·rw[bA _ _ fun z=>absurd (aP e) (by rw[<-z];exact nD.mpr hT)]
    exact k.keep b o n1 n2 e
   ·obtain⟨sl,q⟩:=k.slot b o n e;exact⟨sl,by rw[bA _ _ fun z=>absurd (aP e) (by rw[<-z];exact nD.mpr hT)];exact q⟩
end
end L2
namespace Dn
open L2 Mn
def azw(F:Hp)(dx:Option Addr)(fs:List (Str×Int)):Prop:=(dx=none/\fs=[])∨∃d,dx=some d/\F d=some (.xd (fs.map fun p=>(p.1,V.int p.2)))
structure ClsOk (K:Fg9) (c:Str) (C:Addr):Prop where
 ns:nsIn K aH c=some (some (.ref C))
 ok:ExcK K C
def FpX(X:Cx)(zv:List (Addr×Obj))(H:Hp)(b:Addr):Prop :=
 H b=none/\b≠X.env.locals/\b∉X.fs/\(b∈X.ex∨X.s₀.heap.get? b=none)/\(∀x c,X.env.cells.lookup x=some c->c≠b)/\∀p∈X.pn++zv,p.1≠b
section
variable{X:Cx}{zv:List (Addr×Obj)}{σ:L2.St}{H H':Hp}{s:aF}
theorem Inv.fpX{b:Addr}(I:Inv X zv σ H s)(hb:s.heap.get? b=none)(hn:H' b=none):FpX X zv H' b:=by
 have no:∀{o},s.heap.get? b=some o->False:=fun e=>by rw[hb] at e;cases e
 refine⟨hn,fun z =>?_,fun z =>?_,?_,fun x c e z =>?_,fun p hp z =>?_⟩
 ·obtain⟨m,⟨o,_,_,ho,_⟩,_⟩:=I.loc;rw[<-z] at ho;exact no ho
 ·obtain⟨_,o,ho,_⟩:=I.funs.mem z;exact no ho
 ·by_cases hx:b∈X.ex
  ·exact .inl hx
  ·refine .inr ?_;cases e:X.s₀.heap.get? b with
   | none=>rfl
   | some o =>
    obtain⟨o',e'⟩:=I.base.there b o e hx;exact(no e').elim
 ·obtain⟨v,o,ho,_⟩:=I.cell x c e;rw[z] at ho;exact no ho
 ·have:=(I.pin p hp).1;rw[z] at this;exact no this
theorem Inv.records{h':Heap}{ch:List Addr}(I:Inv X zv σ H s)(k:KeptBut (frs X.stack) ch s.heap h')(hch:∀b∈ch,FpX X zv H b):Inv X zv σ H { s with heap:=h' }:=by
 have nt:∀c z,H c=some z->c∉ch/\c∉frs X.stack:=fun c z q=>⟨(fun m=>by have:=(hch c m).1;rw[q] at this;cases this),(fun m=>by have:=I.stkFree c m;rw[q] at this;cases this)⟩
 have nb:∀b o,X.s₀.heap.get? b=some o->b∉X.ex->b∉ch:=fun b o e hx m=>by
  rcases(hch b m).2.2.2.1 with z | z
  ·exact hx z
  ·rw[z] at e;cases e
 have nl:∀b o,X.s₀.heap.get? b=some o->b∉X.fs->b∉frs X.stack:=fun b o e hf m=>by
  rcases bF.mp (I.stkSub b m) with z | z
  ·exact absurd (aP e) (by rw[z];exact nD.mpr I.ok.above)
  ·exact hf z
 have cellK:∀x c,X.env.cells.lookup x=some c->∀v,s.heap.IsCell c v->h'.IsCell c v:=fun x c e v hq0=>by
  obtain⟨o,ho,hd⟩:=hq0;obtain⟨sl,q⟩:=k.slot c o (fun m=>(hch c m).2.2.2.2.1 x c e rfl) ho
  exact⟨_,q,hd⟩
 refine⟨I.ok,I.os,I.bare,⟨fun b o e n hb hx=>k.keep b o (nb b o e hx) (nl b o e hb) (I.base.keep b o e n hb hx),fun b o e n hb hx =>?_,I.base.free,fun b o e hx =>?_,I.base.tups,I.base.frzs,I.base.tbls⟩,?_,fun x c e =>?_,I.free,I.freeC,fun p hp =>?_,fun b u e =>?_,I.len⟩
 ·obtain⟨sl,e1⟩:=I.base.slot b o e n hb hx;obtain⟨sl',e2⟩:=k.slot b _ (nb b o e hx) e1;exact⟨sl',e2⟩
 ·obtain⟨o',e1⟩:=I.base.there b o e hx;obtain⟨sl,e2⟩:=k.slot b o' (nb b o e hx) e1;exact⟨_,e2⟩
 ·obtain⟨m,⟨o,es,ep,ho,r⟩,hl⟩:=I.loc;obtain⟨sl,q⟩:=k.slot _ o (fun m=>(hch _ m).2.1 rfl) ho
  refine⟨m,⟨_,es,ep,q,r⟩,fun i x v e1 e2 e3 =>?_⟩
  obtain⟨u,rv,l⟩:=hl i x v e1 e2 e3;refine⟨u,rv,?_⟩;rcases l with l | ⟨kk,c,e,z⟩
  ·exact .inl l
  ·exact .inr ⟨kk,c,e,cellK x c e _ z⟩
 ·obtain⟨v,z⟩:=I.cell x c e;exact⟨v,cellK x c e v z⟩
 ·obtain⟨e,n,ne,nf,d⟩:=I.pin p hp;refine⟨k.keep p.1 p.2 (fun m=>(hch _ m).2.2.2.2.2 p hp rfl) (fun m =>?_) e,n,ne,nf,d⟩
  rcases bF.mp (I.stkSub _ m) with z | z
  ·exact ne z
  ·exact nf z
 ·refine(I.hok b u e).stay (fun c v hc q =>?_) (fun _ q=>q) fun _ _ q=>q
  rcases hc with z | z
  ·rw[z] at q ⊢;exact k.keep _ _ (nt b u e).1 (nt b u e).2 q
  ·exact k.keep _ _ (nt c _ z).1 (nt c _ z).2 q
end
def FlyX(K:Fg9)(X:Cx)(zv:List (Addr×Obj))(x:Exn)(F H:Hp)(h:Heap)(e:Value):Prop :=
 ∃a C dx ch,e=.ref a/\ClsOk K x.cls C/\azw F dx x.fs/\FlyAt h a C dx ch X.env.locals/\∀b∈ch,FpX X zv H b
def RX(K:Fg9)(X:Cx)(zv:List (Addr×Obj))(tg:Nat->Addr)(ρ:Ro)(σ:L2.St)(F H:Hp)(x:Exn)(ρ':Ro)(e:Value)(s':aF):Prop :=
 ∃σ' H' F',Inv X zv σ' H' s'/\Good K tg F' H' ρ' σ'/\Ext (Own ρ σ) (Own ρ' σ') F H F' H'/\FlyX K X zv x F' H' s'.heap e
theorem RX.back{K:Fg9}{X:Cx}{zv:List (Addr×Obj)}{tg:Nat->Addr}{ρ ρ1 ρ':Ro}{σ σ1:L2.St}{F H F1 H1:Hp}{x:Exn}{e:Value}{s':aF}(q:Ext (Own ρ σ) (Own ρ1 σ1) F H F1 H1)(h:RX K X zv tg ρ1 σ1 F1 H1 x ρ' e s'):RX K X zv tg ρ σ F H x ρ' e s' :=
 let ⟨σ',H',F',I,G,y,f⟩:=h;⟨σ',H',F',I,G,q.trans y,f⟩
abbrev XGo(K:Fg9)(X:Cx)(α:Type)(c:Sem α)(m:Ro->Option (Exn×Ro)):Prop :=
 X.K=K->X.xe=(fun _ _=>False)->∀zv s σ H tg F ρ x ρ',Inv X zv σ H s->Good K tg F H ρ σ->m ρ=some (x,ρ')->wpAny (model X.prog X.w) X.A c (fun _ _=>False) (RX K X zv tg ρ σ F H x ρ') s
def exE{α:Type}(m:M α):Ro->Option (Exn×Ro):=fun ρ=>match m ρ with
 | some (.exc x,ρ')=>some (x,ρ')
 | _=>none
noncomputable def exS(g:Sd):Ro->Option (Exn×Ro):=fun ρ=>match g ρ with
 | some (.exc x,ρ')=>some (x,ρ')
 | _=>none
theorem lr{α:Type}{m:M α}{ρ ρ':Ro}{x:Exn}:exE m ρ=some (x,ρ')↔m ρ=some (.exc x,ρ'):=by
 unfold exE;split
 ·rename_i y ρ1 e;rw[e];constructor
  ·intro h;cases h;rfl
  ·intro h;cases h;rfl
 ·rename_i hn;constructor
  ·intro h;cases h
  ·intro h;exact absurd h (hn x ρ')
theorem u9{g:Sd}{ρ ρ':Ro}{x:Exn}:exS g ρ=some (x,ρ')↔g ρ=some (.exc x,ρ'):=by
 unfold exS;split
 ·rename_i y ρ1 e;rw[e];constructor
  ·intro h;cases h;rfl
  ·intro h;cases h;rfl
 ·rename_i hn;constructor
  ·intro h;cases h
  ·intro h;exact absurd h (hn x ρ')
structure XE (K:Fg9) (X:Cx) (e:Expr) {α:Type} (m:M α):Prop where
 go:XGo K X Value (eval e X.env) (exE m)
structure XA (K:Fg9) (X:Cx) (es:List Expr) {α:Type} (m:M α):Prop where
 go:∀(pos:Pos),XGo K X (List Value) (spliced (iG pos (aQ es X.env))) (exE m)
structure XS (K:Fg9) (X:Cx) (st:Stmt) (g:Sd):Prop where
 go:XGo K X Flow (exec st X.env) (exS g)
structure XSs (K:Fg9) (X:Cx) (ss:List Stmt) (g:Sd):Prop where
 go:XGo K X Flow (execs ss X.env) (exS g)
def NoX{α:Type}(m:M α):Prop:=∀ρ x ρ',m ρ≠some (.exc x,ρ')
def NoS(g:Sd):Prop:=∀ρ x ρ',g ρ≠some (.exc x,ρ')
section
variable{K:Fg9}{X:Cx}{e a b c:Expr}{es:List Expr}{pos p:Pos}{st:Stmt}{ss:List Stmt}
theorem XE.no{α:Type}{m:M α}(h:NoX m):XE K X e m:=⟨fun _ _ zv s σ H tg F ρ x ρ' I G em=>absurd (lr.mp em) (h ρ x ρ')⟩
theorem XS.no{g:Sd}(h:NoS g):XS K X st g:=⟨fun _ _ zv s σ H tg F ρ x ρ' I G em=>absurd (u9.mp em) (h ρ x ρ')⟩
theorem asp{α:Type}{m:M α}{k:α->Sd}{ρ ρ':Ro}{x:Exn}(h:dM m k ρ=some (.exc x,ρ')):m ρ=some (.exc x,ρ')∨∃a ρ1,m ρ=some (.ok a,ρ1)/\k a ρ1=some (.exc x,ρ'):=by
 unfold dM at h;split at h
 ·exact .inr ⟨_,_,by assumption,h⟩
 ·cases h;exact .inl (by assumption)
 ·cases h
theorem vo{α β:Type}{m:M α}{k:α->M β}{ρ ρ':Ro}{x:Exn}(h:m.bind k ρ=some (.exc x,ρ')):m ρ=some (.exc x,ρ')∨∃a ρ1,m ρ=some (.ok a,ρ1)/\k a ρ1=some (.exc x,ρ'):=by
 unfold M.bind at h;split at h
 ·exact .inr ⟨_,_,by assumption,h⟩
 ·cases h;exact .inl (by assumption)
 ·cases h
theorem XA.no{α:Type}{m:M α}(h:NoX m):XA K X es m:=⟨fun _ _ _ zv s σ H tg F ρ x ρ' I G em=>absurd (lr.mp em) (h ρ x ρ')⟩
theorem ape:XSs K X [] dNx:=⟨fun _ _ zv s σ H tg F ρ x ρ' I G em=>by cases em⟩
theorem aa4{g:Sd}(h:XS K X st g):XSs K X [st] g:=⟨fun hk hn zv s σ H tg F ρ x ρ' I G em=>wpAny_execs_cons (aW (h.go hk hn zv s σ H tg F ρ x ρ' I G em) (fun _ _ z=>z.elim) fun _ _ z=>z)⟩
theorem ae7{g k:Sd}(h:SV K X st g)(hx:XS K X st g)(t:XSs K X ss k):XSs K X (st::ss) (dSeq g k):=⟨fun hk hn zv s σ H tg F ρ x ρ' I G em=>by
 have em:=u9.mp em;unfold dSeq at em;split at em
 ·rename_i ρ1 e1;refine wpAny_execs_cons (aW (h.go hk zv s σ H { nx:=fun σ1 H1=>∃F1,Good K tg F1 H1 ρ1 σ1/\Ext (Own ρ σ) (Own ρ1 σ1) F H F1 H1,rt:=fun _ _=>False } I ⟨tg,F,ρ,.nx,ρ1,G,e1,fun σ' H' F' G' x=>⟨F',G',x⟩⟩) (fun f s1 q =>?_) fun e s1 q=>by rw[hn] at q;exact q.elim)
  cases f with
  | next =>
   obtain⟨σ1,H1,I1,F1,G1,x1⟩:=q;exact aW (t.go hk hn zv s1 σ1 H1 tg F1 ρ1 x ρ' I1 G1 (u9.mpr em)) (fun _ _ z=>z.elim) fun _ _ z=>z.back x1
  | ret v=>obtain⟨_,_,_,_,_,z⟩:=q;exact z.elim
  | brk=>obtain⟨_,_,_,z⟩:=q;exact z.elim
  | cont=>obtain⟨_,_,_,z⟩:=q;exact z.elim
 ·exact wpAny_execs_cons (aW (hx.go hk hn zv s σ H tg F ρ x ρ' I G (u9.mpr em)) (fun _ _ z=>z.elim) fun _ _ z=>z)⟩
theorem ahk{α:Type}{m:M α}(h:XE K X e m)(hs:lO e none pos.line X.env=pure false:=by rfl):XS K X (.Expr e pos) (ae6 m):=⟨fun hk hn zv s σ H tg F ρ x ρ' I G em=>by
 rcases asp (u9.mp em) with em | ⟨_,_,_,em⟩
 ·exact wpAny_Expr_any (aW (h.go hk hn zv s σ H tg F ρ x ρ' I G (lr.mpr em)) (fun _ _ z=>z.elim) fun _ _ z=>z) I.quiet hs
 ·cases em⟩
theorem az5{m:M Rv}(h:XE K X e m):XS K X (.Return (some e) pos) (dRet m):=⟨fun hk hn zv s σ H tg F ρ x ρ' I G em=>by
 rcases asp (u9.mp em) with em | ⟨_,_,_,em⟩
 ·exact wpAny_Return_some (aW (h.go hk hn zv s σ H tg F ρ x ρ' I G (lr.mpr em)) (fun _ _ z=>z.elim) fun _ _ z=>z)
 ·cases em⟩
theorem az6{m:M Bool}{g k:Sd}{ss':List Stmt}(h:ET K X c m)(hm:NoX m)(h1:XSs K X ss g)(h2:XSs K X ss' k):XS K X (.If c ss ss' pos) (dIf m g k):=⟨fun hk hn zv s σ H tg F ρ x ρ' I G em=>by
 rcases asp (u9.mp em) with em | ⟨z,ρ1,e1,em⟩
 ·exact absurd em (hm _ _ _)
 ·refine wpAny_If (aW (h.go hk zv s σ H (fun b H1=>b=z/\∃F1,Good K tg F1 H1 ρ1 σ/\Ext (Own ρ σ) (Own ρ1 σ) F H F1 H1) I ⟨tg,F,ρ,z,ρ1,G,e1,fun H' F' G' x=>⟨rfl,F',G',x⟩⟩) (fun d s1 ⟨H1,I1,hz,F1,G1,x1⟩ =>?_) fun e s1 q=>by rw[hn] at q;exact q.elim)
  subst hz;cases d with
  | true=>exact aW (h1.go hk hn zv s1 σ H1 tg F1 ρ1 x ρ' I1 G1 (u9.mpr em)) (fun _ _ z=>z.elim) fun _ _ z=>z.back x1
  | false=>exact aW (h2.go hk hn zv s1 σ H1 tg F1 ρ1 x ρ' I1 G1 (u9.mpr em)) (fun _ _ z=>z.elim) fun _ _ z=>z.back x1⟩
def CX1(P:bJ)(w:World):CXT:=fun outer H s E e s'=>∃H' a C dx ch,e=.ref a/\s'.os=s.os/\oU s'.gens/\Un (frs outer) [] H H' s.heap s'.heap/\HOk P w H' s'.heap /\
 (∀L',FlyAt s'.heap a C dx ch L')/\(∀b∈ch,s.heap.get? b=none/\H' b=none)/\E (.ref C) dx H'
def spX(K:Fg9)(n:Nat)(f:Fd):Sp:=fun vs H _ E=>vs.length=n/\∃F as x ps,Good K (tgOf (vs.map some)) F H as (vs.map some)/\f as=some (.exc x,ps) /\
 ∀C dx H' F' O',Same F' H'->Ext (Own as (vs.map some)) O' F H F' H'->Fin K F' H' (vs.map some) ps O'->ClsOk K x.cls C->azw F' dx x.fs->E (.ref C) dx H'
def DfnX(P:bJ)(w:World)(K:Fg9)(mg:Str->Option Value)(base:Heap)(x:Str)(ps:List Str)(k:Nat)(sp:Sp):Prop :=
 ∃(f:Addr) (fd:eG),FnOk P w K mg base (CX1 P w) k f fd ps sp/\mg x=some (.ref f)/\dI K (.ref f)=true/\Binds K fd ps []
theorem ayr{f:Fd}{js:List (Option Nat)}{ms:M (List (Option D))}{ρ ρ':Ro}{x:Exn}(h:mFn f js ms ρ=some (.exc x,ρ')) :
  ms ρ=some (.exc x,ρ')∨∃ds ρ1 ps,ms ρ=some (.ok ds,ρ1)/\okJs ρ1 js=true/\f (lend ρ1 js ds)=some (.exc x,ps)/\ρ'=putB ρ1 js ps:=by
 rcases vo h with h | ⟨ds,ρ1,e1,em⟩
 ·exact .inl h
 ·split at em
  ·rename_i hj;split at em
   ·cases em
   ·rename_i y ps e2;cases em;exact .inr ⟨ds,ρ1,ps,e1,hj,e2,rfl⟩
   ·cases em
  ·cases em
theorem apl{f:Fd}{n k:Nat}{x:Str}{pn:List Str}{js:List (Option Nat)}{ms:M (List (Option D))}(F:DfnX X.prog X.w X.K X.mg X.base x pn k (spX K n f))(hr:Room k X.A)(hg:Gl X x)(ha:EG K X (e::es) js ms)(hxa:XA K X (e::es) ms)(hn:js.length=n:=by rfl)(hdb:(x==("__debug__" : Str))=false:=by decide)
  (he:aQ (e::es) X.env=(false,eval e X.env)::aQ es X.env:=by rfl) (hpl:(iG pos (aQ es X.env)).any (·.1)=false:=by rfl):XE K X (.Call (.Name x p) (e::es) [] pos) (mFn f js ms):=⟨fun hk hno zv s σ H tg F0 ρ y ρ' I G em=>by
 obtain⟨fa,fd,Fo,hm,hkp,hb⟩:=F;refine wpAny_Call_Name_kw (ack I hg hm ?_ hdb);rcases ayr (lr.mp em) with em | ⟨ds,ρ1,ps,e1,hj,e2,rfl⟩
 ·exact mG (h₀:=X.base) I.ok.mod.kin hkp (aW (hxa.go pos hk hno zv s σ H tg F0 ρ y ρ' I G (lr.mpr em)) (fun _ _ z=>z.elim) fun _ _ z=>z) he hpl
 ·refine mG (h₀:=X.base) I.ok.mod.kin hkp (aW (ha.go hk pos zv s σ H (fun vs H1=>∃F1,Good K tg F1 H1 ρ1 σ/\Ext (Own ρ σ) (Own ρ1 σ) F0 H F1 H1/\AR K F1 σ js ds vs) I ⟨tg,F0,ρ,ds,ρ1,G,e1,fun vs H1 F1 G1 x1 ar=>⟨F1,G1,x1,ar⟩⟩) (fun us s1 ⟨vs,H1,I1,r,F1,G1,x1,ar⟩=>⟨I1.kIn,?_⟩) fun e s1 q=>by rw[hno] at q;exact q.elim) he hpl
  have L:=ar.lent;have hl:(us++[]).length=pn.length:=by
   rw[iC,<-r.length];exact Fo.len vs H1 (fun _ _=>True) (fun _ _ _=>True) ⟨by rw[ar.length];exact hn,F1,_,y,ps,abd G1 hj L,e2,fun _ _ _ _ _ _ _ _ _ _=>trivial⟩
  have hbn:=hb s1 us I1.kIn hl;rw[iC] at hbn;refine lX (jW (Fo.run X.A X.stack s1 H1 ⟨[]++us,[]⟩ us vs (fun _ _=>False) (fun cv dx H2=>∃C F2,cv=.ref C/\Good K tg F2 H2 (putB ρ1 js ps) σ/\Ext (Own ρ σ) (Own (putB ρ1 js ps) σ) F0 H F2 H2/\ClsOk K y.cls C/\azw F2 dx y.fs) hr I1.env0 hbn r
   ⟨by rw[ar.length];exact hn,F1,_,y,ps,abd G1 hj L,e2,fun C dx H2 F2 O2 s2 x2 fin hc hf=>⟨C,F2,rfl,ad0 G1 L x2 s2 fin,x1.trans (afg G1 L x2),hc,hf⟩⟩) fun r s' hq =>?_)
  cases r with
  | ok fl =>
   cases fl with
   | ret u=>obtain⟨_,_,_,_,_,_,_,z⟩:=hq;exact z.elim
   | next=>exact dH hq
   | brk=>exact dH hq
   | cont=>exact dH hq
  | error er =>
   obtain⟨H',a,C,dx,ch,rfl,os,bare,un,hok,fl,hch,C',F2,ce,G2,x2,hc,hf⟩:=hq;cases ce;exact⟨σ,H',F2,I1.call' os un hok bare (fun b z=>absurd z (by simp)),G2,x2,a,C,dx,ch,rfl,hc,hf,fl _,fun b hb=>Inv.fpX I1 (hch b hb).1 (hch b hb).2⟩⟩
end
theorem fn_x{K:Fg9}{P:bJ}{w:World}{mg:Str->Option Value}{base:Heap}{x qual:Str}{st:Stmt}{f:Addr}{fd:eG}{N ps:List Str}{k nl np:Nat}{g:Sd}(F:Fun K x qual st f fd)(S:FnScope N ps (aj st))(h1:N.length=nl)(h2:ps.length=np)
  (body:∀(cdv:Value) (A:bW) (outer:List Env) (s:aF) (H:Hp) (E:XK),Room k (A.deeper (nY qual (aj st) s.heap.objs.size f cdv))->XSs K (cxOf CX0 P w K mg base N qual (aj st) f cdv A outer s H E).nox (dg st) g) :
  FnOk P w K mg base (CX1 P w) (k+1) f fd ps (spX K np (fnD nl np g)):=by
 subst h1 h2;obtain⟨oc,od,kV,doc,pm,an,cdv,ct,osl,rfl,lk,hcd⟩:=F.ex;refine a2z lk hcd S (fun vs H Q E h=>h.1) fun A outer s H vs Q E hr hsp =>?_
 obtain⟨hn,F0,as,y,ps',G,em,q⟩:=hsp;have hl:as.length=(vs.map some).length:=G.len;have G1:=G.app (N.length - vs.length);have es:start N vs=vs.map some++aM (N.length - vs.length) none:=rfl;unfold fnD at em;rw[<-hn] at em;have fin:∀{ρ':Ro} {σ':L2.St} {F' H':Hp},Good K (tgOf (vs.map some)) F' H' ρ' σ'->Fin K F' H' (vs.map some) (ρ'.take vs.length) (Own ρ' σ'):=fun{ρ' σ' F' H'} G'=>⟨fun i l e=>by
  have hi:=(aK.mp e).1;rw[fJ] at hi;rw[jY (by omega)] at e
  obtain⟨o,ho,a,ws,rfl,hf,hh,hl,ht⟩:=G'.at e;rw[ht i rfl];exact⟨⟨i,⟨_,_,e⟩,ho⟩,hf,ws,hh,hl⟩⟩
 refine⟨fun _ σ0 H0=>σ0=start N vs/\H0=H,fun zv s1 σ0 H0 D I hs =>?_,rfl,rfl⟩
 obtain⟨hs1,hs2⟩:=hs;subst hs2;rw[hs1,es] at I;split at em
 ·cases em
 ·cases em
 ·rename_i y' ρ' e;cases em;have run:=(body cdv A outer s H0 E hr).go rfl rfl zv s1 _ H0 (tgOf (vs.map some)) F0 _ y ρ' (I.wish _) G1 (u9.mpr e);refine aW run (fun _ _ z=>z.elim) fun er s' ⟨σ',H',F',J,G',x',a,C,dx,ch,e1,hc,hf,fl,hch⟩ =>?_
  subst e1;rw[aad hl] at x';show wpAny _ _ (leaving _ (.ref a)) _ _ s';refine a2e J.ok.frames J.stack rfl fl fun h' ch' hc' kb fl' =>?_
  have J2:=Inv.records J kb hch;have hsz:s.heap.objs.size<=s'.heap.objs.size:=J.sz;refine⟨H',a,C,dx,ch',rfl,J.os,J.bare,J2.base,J2.hok,fl',fun b hb =>?_,q C dx H' F' (Own ρ' σ') G'.sub x' (fin G') hc hf⟩
  rcases hc' b hb with z | z
  ·obtain⟨f1,_,_,f3,_⟩:=hch b z;rcases f3 with f3 | f3
   ·exact absurd (show b∈([]:List Addr) from f3) (by simp)
   ·exact⟨f3,f1⟩
  ·exact⟨Heap.get?_none_of_le (cM hsz z),J.hok.fresh z⟩
 ·cases em
theorem obj_there{P:bJ}{w:World}{H:Hp}{h:Heap}{a:Addr}{o:HO}(x:v9 P w H h a o):∃ob,h.get? a=some ob:=by
 cases o with
 | lst xs=>obtain⟨_,_,_,_,e⟩:=x;exact⟨_,e⟩
 | tup xs=>obtain⟨_,_,_,ob,e,_⟩:=x;exact⟨_,e⟩
 | dK kvs=>obtain⟨_,_,_,_,o,_,_,e,_⟩:=x;exact⟨_,e⟩
 | dT kvs=>obtain⟨_,_,_,_,o,_,_,e,_⟩:=x;exact⟨_,e⟩
 | set S n=>obtain⟨o,_,_,_,e,_⟩:=x;exact⟨_,e⟩
 | ins C dx fs=>obtain⟨_,_,_,e,_⟩:=x;exact⟨_,e⟩
 | own y=>exact x
 | xd fs=>obtain⟨_,⟨_,_,_,e,_⟩,_⟩:=x;exact⟨_,e⟩
 | rng lo hi=>obtain⟨_,_,_,e⟩:=x;exact⟨_,e⟩
 | frz ob u=>exact⟨_,x.1⟩
 | tbl ps=>exact⟨_,x⟩
 | met f y=>exact⟨_,x⟩
 | ext φ=>exact x.2.1
abbrev bmV:List Value:=[.type "ValueError", .type "Exception", .type "BaseException", .type "object"]
theorem azf{K:Fg9}{h:Heap}{C:Addr}{bmB:List Value}{newId:String}(X:K.In h)(q:nM K C bmB newId=true) :
  ∃bm N nm qn bs hdct sn sub ab col dd k0 k1 k2 k3 k5 mN,h.get? C=some (excClassObj nm qn C N bs bm hdct sn sub ab col dd k0 k1 k2 k3 k5 newId)/\h.Ns N mN/\mN "__init__" = none/\OwnTail h bmB bm:=by
 unfold nM at q;split at q
 ·rename_i dd cd sl ho;split at q
  ·rename_i C' bm k0 k1 k2 k3 n k5 hm hs;simp only[aZ,beq_iff_eq,wC] at q;obtain⟨⟨⟨⟨⟨e1,e2⟩,e3⟩,e4⟩,e5⟩,e6⟩:=q;subst e1 e2;obtain⟨nm,bs,mro,ns,qn,hd,sn,sub,ab,col,del⟩:=cd;have hm:mro=_:=hm;have e3:del=false:=e3;subst hm e3;have z:sl = #[k0,k1,k2,k3,some (.builtin n),k5]:=wO.mp hs;subst z;exact⟨bm,ns,nm,qn,bs,hd,sn,sub,ab,col,dd,k0,k1,k2,k3,k5,h.nsMap ns,X _ _ ho,.of_isNs (pH X e5),PySem.W.nsMap_none_of_in X e5 e6,uR X e4⟩
  ·cases q
 ·cases q
def aj2(x:Exn):Sd:=fun ρ=>some (.exc x,ρ)
section
variable{K:Fg9}{X:Cx}{c:Str}{C:Addr}{np cpos pos:Pos}
theorem api(hcalm:X.calm=true)(hg:Gl X c)(hm:X.mg c=some (.ref C))(k:ClsOk X.K c C)(q:nM X.K C bmV "ValueError.__new__" = true)(hd:(c==("__debug__" : Str))=false:=by decide) :
  XS K X (.Raise (some (.Call (.Name c np) [] [] cpos)) none pos) (aj2 ⟨c,[]⟩):=⟨fun hk hn zv s σ H tg F ρ x ρ' I G em=>by
 have em:=u9.mp em;cases em;subst hk;obtain⟨tl,N,nm,qn,bs,hdct,sn,sub,ab,col,dd,k0,k1,k2,k3,k5,mN,hC,hN,hni,T⟩:=azf I.kIn q;refine wpAny_Raise_call_subU (C:=C) (nm:=nm) (q:=qn) (N:=N) (bs:=bs) (bm:=tl) (hdct:=hdct) (sn:=sn) (sub:=sub) (ab:=ab) (col:=col) (dd:=dd) (k0:=k0) (k1:=k1) (k2:=k2) (k3:=k3) (k5:=k5)
  fL (by decide +kernel) fL (mN:=mN) (T.hasType fL.hasBase) (I.ok.hd hcalm) rfl hni ?_
 refine ack I hg hm ⟨rfl,?_⟩ hd;refine evalArgs_empty ⟨rfl,gA _,hC,hN,T,fun h' e hme =>?_⟩
 obtain⟨t,he,_,_⟩:=hme.there;have J:Inv X zv σ H { s with heap:=h' }:=I.kept (t':=s.toks) hme.keeps
 have hnH:H e=none:=by
  cases z:H e with
  | none=>rfl
  | some o =>
   obtain⟨ob,h1⟩:=obj_there (I.hok e o z);have h2:s.heap.get? e=none:=hme.new;rw[h2] at h1;cases h1
 exact⟨σ,H,F,J,G,Ext.refl _ _ _,e,C,none,[e],rfl,k,.inl ⟨rfl,rfl⟩,⟨_,_,he,rfl,rfl,rfl,by simp,.inl ⟨rfl,rfl⟩⟩,fun b hb=>by
  obtain rfl:=cN.mp hb;exact Inv.fpX I hme.new hnH⟩⟩
end
end Dn
namespace L2
section
variable{X:Cx}{zv:List (Addr×Obj)}{σ:List (Option V)}{H:Hp}{s:aF}
theorem a3e{M:Model}{A:bW}{E:Value->aF->Prop}{i:Nat}{x:Str}{v:V}{Q:Unit->aF->Prop}(I:Inv X zv σ H s)(hN:X.N.Nodup)(hi:X.N[i]? = some x)(hk:X.env.scope.names.lookup x=some .local)(hv:σ[i]? = some (some v))
  (h:∀s',Inv X zv (σ.set i none) H s'->Q () s'):wpAny M A (unbindName X.env x) Q E s:=by
 obtain⟨m,hn,hl⟩:=id I.loc;have hcls:(X.env.scope.kind==.class||(X.env.scope.kind==.module&&X.env.locals != X.env.globals))=false:=by rw[I.ok.kind];rfl
 have hiσ:i < σ.length:=(aK.mp hv).1;obtain⟨u,_,lk⟩:=hl i x v hi hv (.inl hk);have hmx:∃u,m x=some u:=by
  rcases lk with⟨_,e⟩ | ⟨k,_⟩
  ·exact⟨u,e⟩
  ·rcases k with k | k
   ·exact absurd (hk.symm.trans k) (by simp)
   ·exact absurd (hk.symm.trans k) (by simp)
 obtain⟨u0,hmx⟩:=hmx;refine wpAny_unbindName_local hk hn hmx hcls fun h' u' hn' hs=>h _ ?_
 have ne0:∀b o,X.s₀.heap.get? b=some o->b≠X.env.locals:=fun b o e=>bC (bL (aP e) I.ok.above)
 refine⟨I.ok,I.os,I.bare,⟨fun b o e n hb hx=>(hs.2 b (ne0 b o e)).trans (I.base.keep b o e n hb hx),fun b o e n hb hx =>?_,I.base.free,fun b o e hx =>?_,I.base.tups,I.base.frzs,I.base.tbls⟩,⟨_,hn',fun j y v' e1 e2 e3 =>?_⟩,fun y c e =>?_,I.free,I.freeC,fun p hp =>?_,fun b ob e =>?_,by simpa using I.len⟩
 ·obtain⟨sl,e1⟩:=I.base.slot b o e n hb hx;exact⟨sl,(hs.2 b (ne0 b o e)).trans e1⟩
 ·obtain⟨o',e1⟩:=I.base.there b o e hx;exact⟨o',(hs.2 b (ne0 b o e)).trans e1⟩
 ·by_cases hj:j=i
  ·subst hj;rw[lF hiσ] at e2;cases e2
  ·rw[lU (fO hj)] at e2;obtain⟨u',r',q⟩:=hl j y v' e1 e2 e3;refine⟨u',r',?_⟩;rcases q with⟨k,e⟩ | ⟨k,c,e,z⟩
   ·refine .inl ⟨k,?_⟩;have:y≠x:=fun e=>hj (ah6 hN e1 (e▸hi))
    simp[this,e]
   ·exact .inr ⟨k,c,e,z.sameBut hs (I.cne y c e)⟩
 ·obtain⟨w',z⟩:=I.cell y c e;exact⟨w',z.sameBut hs (I.cne y c e)⟩
 ·obtain⟨e,n,ne,nf,d⟩:=I.pin p hp;exact⟨(hs.2 p.1 ne).trans e,n,ne,nf,d⟩
 ·have nL:∀c z,H c=some z->c≠X.env.locals:=fun c z q w=>by
   have:=I.free;rw[<-w,q] at this;cases this
  refine(I.hok b ob e).stay (fun c w' hc q=>(hs.2 c ?_).trans q) (fun _ q=>q) fun _ _ q=>q
  rcases hc with z | z
  ·rw[z];exact nL b ob e
  ·exact nL c _ z
end
section
variable{M:Model}{A:bW}{E:Value->aF->Prop}{s:aF}
theorem aw9{fs:List Addr}{a C:Addr}{dx:Option Addr}{ch:List Addr}{L:Addr}{Q:Unit->aF->Prop}(x:FlyAt s.heap a C dx ch L)(hT:ch≠[a])
  (h:∀h',KeptBut fs ch s.heap h'->(∀L',FlyAt h' a C dx ch L')->h'.get? a=s.heap.get? a->Q () { s with heap:=h' }):wpAny M A (setFlight (.ref a) none) Q E s:=by
 obtain⟨oe,vs,he,hc,hdx,hd,hsz,⟨_,e⟩ | ⟨T,oT,ts,fl,rfl,h1,hTa,hT,hdT,h3,hfl⟩⟩:=x.obj
 ·exact absurd e hT
 ·unfold setFlight;refine aA (cU he hd h1 ?_);rw[if_pos (show(cJ T != cF)=true from by simp)]
  have hsz3:3 < ts.size:=(dZ.mp h3).1;refine eH hT hdT hsz3 (h _ (KeptBut.upd.sub (by simp)) (fun L'=>⟨oe,vs,(bA _ _ hTa).trans he,hc,hdx,hd,hsz,.inr ⟨T,_,_,.none,rfl,h1,hTa,bQ _ hT (dJ (bK hdT _)),bK hdT _,by simp[hsz3],.inl rfl⟩⟩) (bA _ _ hTa))
theorem aq2{base:Heap}{env:Env}{outer:List Env}{L a C:Addr}{dx:Option Addr}{ch:List Addr}{Q:Unit->aF->Prop}
  (hfr:A.frames=some (env::outer)) (hl:s.heap.FunFrames base (env::outer)) (hf:env.frame=some L) (x:FlyAt s.heap a C dx ch L)
  (h:∀h' ch',ch'≠[a]->(∀b∈ch',b∈ch∨s.heap.objs.size<=b)->KeptBut (frs (env::outer)) ch s.heap h'->(∀L',FlyAt h' a C dx ch' L')->Q () { s with heap:=h' }) :
  wpAny M A (noteFrame (.ref a) env) (fun _ s'=>wpAny M A (setFlight (.ref a) none) Q E s') E s:=by
 refine a1o hfr hl hf x fun h' T oT ts oe vs hT k e1 e2 e3 e4 e5 e6 e7 e8 e9 e10 =>?_
 unfold setFlight;refine aA (cU e1 e4 e6 ?_);rw[if_pos (show(cJ T != cF)=true from by simp)]
 have hsz3:3 < ts.size:=(dZ.mp e10).1;refine eH e8 e9 hsz3 (h _ [a,T] (by simp) (fun b hb =>?_) ?_ fun L'=>⟨oe,vs,(bA _ _ e7).trans e1,e2,e3,e4,e5,.inr ⟨T,_,_,.none,rfl,e6,e7,bQ _ e8 (dJ (bK e9 _)),bK e9 _,by simp[hsz3],.inl rfl⟩⟩)
 ·have:b=a∨b=T:=by simpa using hb
  rcases this with rfl | rfl
  ·exact .inl x.fresh
  ·exact hT
 ·rcases hT with hT | hT
  ·exact k.trans (KeptBut.upd.sub (by simp[hT]))
  ·refine⟨fun b o n1 n2 e =>?_,fun b o n e =>?_⟩
   ·rw[bA _ _ fun z=>absurd (aP e) (by rw[<-z];exact nD.mpr hT)]
    exact k.keep b o n1 n2 e
   ·obtain⟨sl,q⟩:=k.slot b o n e;exact⟨sl,by rw[bA _ _ fun z=>absurd (aP e) (by rw[<-z];exact nD.mpr hT)];exact q⟩
structure CatK (K:Fg9) (B:Addr):Prop where
 cls:(kJ K B).isSome=true
 ty:oZ K (.ref B)=some (.type "type")
 base:fW K (.ref B) (.type "BaseException")=some true
theorem au4{K:Fg9}{a C B:Addr}{oe:Obj}{b:Bool}{Q:Bool->aF->Prop}(X:K.In s.heap)(k:CatK K B)(he:s.heap.get? a=some oe)(hc:oe.cls=.ref C)(hs:fW K (.ref C) (.ref B)=some b)(h:Q b s):wpAny M A (excMatches (.ref a) (.ref B)) Q E s:=by
 obtain⟨hp,g,d,tk,os⟩:=s;have L0:jF M hp (isInstance (.ref B) (.type "tuple")) false:=(PySem.W.looks_typeIn X k.ty).andThen (tH (by rw[isSubtype_type];kernel_rfl))
 have L1:jF M hp (isType (.ref B)) true:=by
  have z:=k.cls;unfold kJ at z;split at z
  ·rename_i c' d' cd' sl' ho;intro A' Q' E' s' kk q;unfold isType loadHead;exact aA (wpAny_loadPart (kk _ _ (X _ _ ho)) (aD q))
  ·cases z
 have L2:=uF (M:=M) X k.base;have L3:=uF (M:=M) X hs;have L4:jF M hp (isExcClass (.ref B)) true:=L1.andThen (by rw[if_pos rfl];exact L2)
 have L5:jF M hp (typeOf (.ref a)) (.ref C):=(PySem.W.Looks.ld he).andThen (tH (by rw[hc]))
 unfold excMatches;refine aA (L0.at ?_);simp only[lD,if_false];refine aA (aD ?_);simp only[oM,rQ];refine aA (aA (aA (L4.at ?_)));rw[if_neg (by simp)]
 refine aD (aD (aA (L5.at (aA (aA (aA (L3.at ?_)))))));cases b with
 | true =>
  rw[if_pos rfl];exact aD (aD (aD h))
 | false =>
  rw[if_neg bZ];exact aD (aD (aD h))
end
end L2
namespace Dn
open L2 Mn
noncomputable def aib(c0 c:Str):Bool:=c0==c||c == "ArrowError" || c == "ValueError"
noncomputable def clsAt(K:Fg9)(c:Str):Option Addr:=match nsIn K aH c with
 | some (some (.ref C))=>some C
 | _=>none
def ahp(K:Fg9)(ns:List Str):Bool:=ns.all fun c0=>match clsAt K c0 with
 | some C0=>(ns.all fun c=>match clsAt K c with
  | some C=>fX K (.ref C0) (.ref C)==some (aib c0 c)
  | none=>false)&&fX K (.ref C0) (.type "ValueError")==some true
 | none=>false
theorem adw{K:Fg9}{c:Str}{C:Addr}(h:nsIn K aH c=some (some (.ref C))):clsAt K c=some C:=by
 unfold clsAt;rw[h]
theorem al7{K:Fg9}{ns:List Str}{c0 c:Str}{C0 C:Addr}(h:ahp K ns=true)(h0:ns.contains c0=true)(h1:ns.contains c=true)(e0:nsIn K aH c0=some (some (.ref C0)))(e1:nsIn K aH c=some (some (.ref C))) :
  fX K (.ref C0) (.ref C)=some (aib c0 c):=by
 have z:=dX.mp h c0 (dO.mp h0);rw[adw e0] at z;have z1:=dX.mp (uA.mp z).1 c (dO.mp h1);rw[adw e1] at z1;exact beq_iff_eq.mp z1
theorem axh{K:Fg9}{ns:List Str}{c0:Str}{C0:Addr}(h:ahp K ns=true)(h0:ns.contains c0=true)(e0:nsIn K aH c0=some (some (.ref C0))):fX K (.ref C0) (.type "ValueError")=some true:=by
 have z:=dX.mp h c0 (dO.mp h0);rw[adw e0] at z;exact beq_iff_eq.mp (uA.mp z).2
noncomputable def gIsC(ns:List Str)(c:Str):D->Option D
 | .exn c0 _=>if ns.contains c0 then some (.bl (aib c0 c)) else none
 | _=>none
def mIsC(ns:List Str)(c:Str)(m:M D):M D:=m.bind fun d=>lift (gIsC ns c d)
section
variable{K:Fg9}{X:Cx}{e:Expr}{pos p:Pos}
theorem aj7{X:Cx}{cv:Value}{cV:V}(rc:∀u,RelV cV u->u=cv):za X (.builtin "isinstance") (fun xs H Q=>∃F c0 fs x b,xs=[x,cV]/\Same F H/\Is X.K F (.exn c0 fs) x/\(∀C0,nsIn X.K aH c0=some (some (.ref C0))->fX X.K (.ref C0) cv=some b)/\Q (.bl b) H):=by
 intro zv s σ H xs us Q I r ⟨F,c0,fs,x,b,e,g,h,hk1,q⟩;subst e;obtain⟨u,w',rfl,r1,r2⟩:=vals2 r;obtain rfl:=rc w' r2;have fin:∀tk,EP X zv σ Q (.bool b) { s with toks:=tk }:=fun tk=>⟨.bl _,H,I.tok tk,rfl,q⟩
 cases h with
 | @exn a C c dx fs e hc hk hf =>
  cases(show u=cJ a from r1)
  obtain⟨⟨oe,ws,h1,h2,h3,h4⟩,_⟩:=(show v9 X.prog X.w H s.heap a (.ext (exO a C dx)) from I.hok a _ (g _ _ e))
  have hno:lN oe=true:=by unfold lN;rw[h4]
  have ia:∃ox od,fY s.heap a ox C od:=by
   rcases hf with⟨rfl,_⟩ | ⟨d,rfl,hd⟩
   ·exact⟨oe,none,h1,h2,hno,by rw[h3];trivial⟩
   ·obtain⟨mA,⟨od,_,_,e1,_⟩,_⟩:=(show v9 X.prog X.w H s.heap d (.xd _) from I.hok d _ (g _ _ hd))
    exact⟨oe,some od,h1,h2,hno,by rw[h3];exact e1⟩
  exact cY (ams hk) I.kIn ia (hk1 C hc) (fun z=>nomatch z) fin
theorem aww{F H:Hp}{d:D}{v:V}{ns:List Str}{c:Str}{r:D}(b:Bor K F H d v)(e:gIsC ns c d=some r):∃c0 fs,d=.exn c0 fs/\Is K F (.exn c0 fs) v/\ns.contains c0=true/\r=.bl (aib c0 c):=by
 cases d with
 | exn c0 fs =>
  have e:(if ns.contains c0 then some (D.bl (aib c0 c)) else none)=some r:=e
  split at e
  ·rename_i hn;cases e;refine⟨c0,fs,rfl,?_,hn,rfl⟩;rcases b with b | ⟨_,_,_,z,_⟩
   ·exact b
   ·cases z
  ·cases e
 | _=>cases e
theorem azi{ns:List Str}{c:Str}{C:Addr}{m:M D}{x:Str}{pc:Pos}(sub:ahp K ns=true)(h1:ns.contains c=true)(hgC:Gl X c)(hmC:X.mg c=some (.ref C))(hnC:nsIn K aH c=some (some (.ref C)))
  (hg:Gl X x) (hm:X.mg x=none) (hv:bN x=some (.builtin "isinstance")) (h:EB K X e m) (hdC:(c==("__debug__" : Str))=false:=by decide) (hn:x ≠ "__name__" := by decide) (hdb:(x==("__debug__" : Str))=false:=by decide)
  (h1':aQ [.Name c pc] X.env=(false,eval (.Name c pc) X.env)::aQ [] X.env:=by rfl) (he:aQ [e,.Name c pc] X.env=(false,eval e X.env)::aQ [.Name c pc] X.env:=by rfl) (hpl:(iG pos (aQ [.Name c pc] X.env)).any (·.1)=false:=by rfl) :
  EV K X (.Call (.Name x p) [e,.Name c pc] [] pos) (mIsC ns c m):=EV.mk fun hk=>by
 refine PE.imp (ac8 (aj7 (cv:=.ref C) (cV:=.ref C) fun u r=>r) hg hm hv (uf (h hk) (uf (aqq (v:=.ref C) hgC hmC rfl hdC) ac9 h1') he) hn hdb he hpl) fun σ H Q ⟨tg,F,ρ,d,ρ',G,em,q⟩ =>?_
 obtain⟨d1,ρ1,e1,em⟩:=bf em;obtain⟨e2,rfl⟩:=gr em;subst hk;refine⟨tg,F,ρ,d1,_,G,e1,fun v H' F' G' x bv =>?_⟩
 obtain⟨c0,fs,rfl,hi,h0,rfl⟩:=aww bv e2;exact⟨F',c0,fs,v,_,rfl,G'.sub,hi,fun C0 e0=>al7 sub h0 h1 e0 hnC,q _ H' F' G' x (.bl _)⟩
theorem ase{ns:List Str}{m:M D}{x:Str}{pc:Pos}(sub:ahp K ns=true)(hgC:Gl X "ValueError")(hmC:X.mg "ValueError" = none)(hvC:bN "ValueError" = some (.type "ValueError"))
  (hg:Gl X x) (hm:X.mg x=none) (hv:bN x=some (.builtin "isinstance")) (h:EB K X e m) (hn:x ≠ "__name__" := by decide) (hdb:(x==("__debug__" : Str))=false:=by decide)
  (h1':aQ [.Name "ValueError" pc] X.env=(false,eval (.Name "ValueError" pc) X.env)::aQ [] X.env:=by rfl) (he:aQ [e,.Name "ValueError" pc] X.env=(false,eval e X.env)::aQ [.Name "ValueError" pc] X.env:=by rfl) (hpl:(iG pos (aQ [.Name "ValueError" pc] X.env)).any (·.1)=false:=by rfl) :
  EV K X (.Call (.Name x p) [e,.Name "ValueError" pc] [] pos) (mIsC ns "ValueError" m):=EV.mk fun hk=>by
 refine PE.imp (ac8 (aj7 (cv:=.type "ValueError") (cV:=.ty "ValueError") fun u r=>r) hg hm hv (uf (h hk) (uf (ahx hgC hmC hvC) ac9 h1') he) hn hdb he hpl) fun σ H Q ⟨tg,F,ρ,d,ρ',G,em,q⟩ =>?_
 obtain⟨d1,ρ1,e1,em⟩:=bf em;obtain⟨e2,rfl⟩:=gr em;subst hk;refine⟨tg,F,ρ,d1,_,G,e1,fun v H' F' G' x bv =>?_⟩
 obtain⟨c0,fs,rfl,hi,h0,rfl⟩:=aww bv e2;refine⟨F',c0,fs,v,aib c0 "ValueError", rfl,G'.sub,hi,fun C0 e0 =>?_,q _ H' F' G' x (.bl _)⟩
 rw[axh sub h0 e0];simp[aib]
end
theorem adx:bN "ValueError" = some (.type "ValueError"):=by decide +kernel
@[simp] theorem a69(ns:List Str)(c:Str)(m:M D)(ρ:Ro):mIsC ns c m ρ=(m.bind fun d=>lift (gIsC ns c d)) ρ:=rfl
@[simp] theorem a4t(ns:List Str)(c c0:Str)(fs:List (Str×Int)):gIsC ns c (.exn c0 fs)=if ns.contains c0 then some (.bl (aib c0 c)) else none:=rfl
end Dn
namespace L2
structure RoomU (k:Nat) (A:bW):Prop where
 dp:A.depth+3*k+5 < recursionLimit
 un:A.units+16*k+200 < cLine
 gd:A.guards=some []
theorem RoomU.mono{j k:Nat}{A:bW}(r:RoomU k A)(h:j<=k):RoomU j A:=⟨by have:=r.dp;omega,by have:=r.un;omega,r.gd⟩
theorem RoomU.deeper{k:Nat}{A:bW}(r:RoomU (k+1) A)(env:Env):RoomU k (A.deeper env) :=
 ⟨by have:=r.dp;show A.depth+1+3*k+5 < _;omega,by have:=r.un;show A.units+3+16*k+200 < _;omega,r.gd⟩
theorem RoomU.depth{k:Nat}{A:bW}(r:RoomU k A):A.depth < recursionLimit:=by have:=r.dp;omega
theorem RoomU.units{k:Nat}{A:bW}(r:RoomU k A):A.units+64 < cLine:=by have:=r.un;omega
theorem Room.mark{k:Nat}{A:bW}(r:Room k A)(e:Value):RoomU k (A.mark (some e)):=⟨r.dp,r.un,r.gd⟩
noncomputable def cxU(P:bJ)(w:World)(K:Fg9)(mg:Str->Option Value)(base:Heap)(N:List Str)(qual:Str)(scope:Scope)(f:Addr)(cd:Value)(A:bW)(outer:List Env)(s:aF)(H:Hp):Cx :=
 { (cxOf CX0 P w K mg base N qual scope f cd A outer s H E0).nox with calm:=false }
structure FnOkU (P:bJ) (w:World) (K:Fg9) (mg:Str->Option Value) (base:Heap) (k:Nat) (f:Addr) (fd:eG) (ps:List Str) (sp:Sp):Prop where
 len:∀vs H Q E,sp vs H Q E->vs.length=ps.length
 run:∀(A:bW) (outer:List Env) (s:aF) (H:Hp) (args:Args) (us:List Value) (vs:List V) (Q:VK),RoomU k A->Env0 P w K mg base A outer s H->nW s fd args (ps.zip us)->Vals vs us->sp vs H Q E0 ->
  nJ (model P w) A (.call (.ref f) args) (CR CX0 outer P w H s Q E0) s
theorem Fun.okU{P:bJ}{w:World}{K:Fg9}{mg:Str->Option Value}{base:Heap}{x qual:Str}{st:Stmt}{f:Addr}{fd:eG}{N ps:List Str}{k:Nat}{sp:Sp}(F:Fun K x qual st f fd)(S:FnScope N ps (aj st))(len:∀vs H Q E,sp vs H Q E->vs.length=ps.length)
  (hbody:∀(cdv:Value) (A:bW) (outer:List Env) (s:aF) (H:Hp) (vs:List V) (Q:VK),RoomU k (A.deeper (nY qual (aj st) s.heap.objs.size f cdv))->sp vs H Q E0 ->
   ∃t,PSs (cxU P w K mg base N qual (aj st) f cdv A outer s H) (dg st) t/\t { nx:=fun _ H'=>Q .non H',rt:=Q } (start N vs) H):FnOkU P w K mg base (k+1) f fd ps sp:=by
 obtain⟨oc,od,kV,doc,pm,an,cdv,ct,osl,rfl,lk,hcd⟩:=F.ex;refine⟨len,fun A outer s H args us vs Q hr e0 hb r hsp =>?_⟩
 have hl:=len _ _ _ _ hsp;have KX:K.In s.heap:=e0.mod.kin.keeps fun b o e=>(e0.bs b o e).1
 have lim:s.heap.NoLimit:=e0.mod.nolimit.keeps fun b o e=>(e0.bs b o e).1
 have hkind:∀y∈ps.zip us,(aj st).names.lookup y.1=some .local∨((aj st).names.lookup y.1=some .cell/\((cellsFrom (s.heap.objs.size+1) (aj st).names []).lookup y.1).isSome=true):=fun y hy=>by
  rcases S.par y.1 (oJ hy).1 with q | q
  ·exact .inl q
  ·exact .inr ⟨q,oE _ _ _ (.inl q)⟩
 refine codeAny_call_function hr.depth (KX _ _ lk) rfl S.co S.gen rfl (uU KX hcd) (hb _ _ _ _ ?_);refine wpAny_newFunctionEnv_cells S.kind hkind fun env he s1 x =>?_
 subst he;refine⟨lim.keeps x.toInCall.keep,codeAny_func ?_⟩;obtain⟨t,ht,hq⟩:=hbody cdv A outer s H vs Q (hr.deeper _) hsp;have e1:Env0 P w K mg base { A with handled:=none } outer s H:=⟨e0.frames,e0.mod,e0.bs,e0.bsz,e0.funs,e0.frf,e0.hok,e0.bare⟩
 have J:Inv (cxOf CX0 P w K mg base N qual (aj st) f cdv { A with handled:=none } outer s H E0) [] (start N vs) H s1:=ajo S rfl e1 hl r x
 have I:Inv (cxU P w K mg base N qual (aj st) f cdv A outer s H) [] (start N vs) H s1 :=
  ⟨⟨J.ok.mod,J.ok.kind,J.ok.glob,J.ok.blt,J.ok.above,J.ok.inj,J.ok.has,J.ok.cab,(fun z=>absurd z bZ),uB e0.frames,J.ok.stk,J.ok.exf,J.ok.bs,J.ok.bsz,J.ok.noex,J.ok.exfs,J.ok.funs,J.ok.frf⟩,J.os,J.bare,J.base,J.loc,J.cell,J.free,J.freeC,J.pin,J.hok,J.len⟩
 refine aW (ht [] s1 (start N vs) H _ I hq) (fun fl s' hs =>?_) fun e s' hs=>dH hs
 have fin:∀{σ':St} {H':Hp} {v:V} {u:Value},Inv (cxU P w K mg base N qual (aj st) f cdv A outer s H) [] σ' H' s'->RelV v u->Q v H'->CE outer P w H s Q u s' :=
  fun{σ' H' v u} J rv q=>⟨v,H',J.os,J.bare,J.base,J.hok,rv,q⟩
 cases fl with
 | ret u =>
  obtain⟨v,σ',H',J,rv,q⟩:=hs;exact fin J rv q
 | next =>
  obtain⟨σ',H',J,q⟩:=hs;exact fin (v:=V.non) (u:=cF) J rfl q
 | brk =>
  obtain⟨_,_,_,q⟩:=hs;exact dH q
 | cont =>
  obtain⟨_,_,_,q⟩:=hs;exact dH q
def DfnU(P:bJ)(w:World)(K:Fg9)(mg:Str->Option Value)(base:Heap)(x:Str)(ps:List Str)(k:Nat)(sp:Sp):Prop :=
 ∃(f:Addr) (fd:eG),FnOkU P w K mg base k f fd ps sp/\mg x=some (.ref f)/\dI K (.ref f)=true/\Binds K fd ps []
theorem a09{X:Cx}{x:Str}{ps:List Str}{k:Nat}{sp:Sp}{e:Expr}{es:List Expr}{t:TA}{p pos:Pos}(F:DfnU X.prog X.w X.K X.mg X.base x ps k sp)(hr:RoomU k X.A)(hg:Gl X x)(ha:PA X (e::es) t)(hdb:(x==("__debug__" : Str))=false:=by decide)
  (he:aQ (e::es) X.env=(false,eval e X.env)::aQ es X.env:=by rfl) (hpl:(iG pos (aQ es X.env)).any (·.1)=false:=by rfl):PE X (.Call (.Name x p) (e::es) [] pos) (axg sp [] E0 t):=by
 obtain⟨f,fd,F,hm,hk,hb⟩:=F;intro zv s σ H Q I h;refine wpAny_Call_Name_kw (ack I hg hm ?_ hdb);refine mG (h₀:=X.base) I.ok.mod.kin hk (thn (ha pos zv s σ H _ I h) fun us s1 ⟨vs,H1,I1,r,q⟩=>⟨I1.kIn,?_⟩) he hpl
 have q:sp (vs++[]) H1 Q E0:=q;rw[iC] at q;have hl:(us++[]).length=ps.length:=by rw[iC,<-r.length];exact F.len _ _ _ _ q
 have hbn:=hb s1 us I1.kIn hl;rw[iC] at hbn;refine lX (jW (F.run X.A X.stack s1 H1 ⟨[]++us,[]⟩ us vs Q hr I1.env0 hbn r q) fun r s' hq =>?_)
 cases r with
 | error e=>exact dH hq
 | ok fl =>
  cases fl with
  | ret u=>exact I1.after hq
  | next=>exact dH hq
  | brk=>exact dH hq
  | cont=>exact dH hq
end L2
namespace Dn
open L2 Mn
theorem ajz{K:Fg9}{X:Cx}{e:Expr}{es:List Expr}{pos p:Pos}{f:Fd}{n k:Nat}{x:Str}{pn:List Str}{js:List (Option Nat)}{ms:M (List (Option D))}(F:DfnU X.prog X.w X.K X.mg X.base x pn k (spOf K n f))(hr:RoomU k X.A)(hg:Gl X x)(ha:EG K X (e::es) js ms)(hn:js.length=n:=by rfl)(hdb:(x==("__debug__" : Str))=false:=by decide)
  (he:aQ (e::es) X.env=(false,eval e X.env)::aQ es X.env:=by rfl) (hpl:(iG pos (aQ es X.env)).any (·.1)=false:=by rfl):ER K X (.Call (.Name x p) (e::es) [] pos) (mFn f js ms):=ER.mk fun hk=>PE.imp (a09 F hr hg (ha hk) hdb he hpl) fun σ H Q hq0=>by
 obtain⟨tg,F,ρ,r,ρ',G,em,q⟩:=hq0;obtain⟨ds,ρ1,ps,e1,hj,e2,rfl⟩:=awl em;refine⟨tg,F,ρ,ds,ρ1,G,e1,fun vs H1 F1 G1 x1 ar =>?_⟩
 have L:=ar.lent;show spOf K n f (vs++[]) H1 Q E0;rw[iC];refine⟨by rw[ar.length];exact hn,F1,_,r,ps,abd G1 hj L,e2,fun v H' F' O' s' x' fin rr =>?_⟩
 exact q v H' F' (ad0 G1 L x' s' fin) (x1.trans (afg G1 L x')) (p6 x1 (ank G1 L fin rr))
theorem ar8{K:Fg9}{P:bJ}{w:World}{mg:Str->Option Value}{base:Heap}{x qual:Str}{st:Stmt}{f:Addr}{fd:eG}{N ps:List Str}{k nl np:Nat}{g:Sd}(F:Fun K x qual st f fd)(S:FnScope N ps (aj st))(h1:N.length=nl)(h2:ps.length=np)
  (body:∀(cdv:Value) (A:bW) (outer:List Env) (s:aF) (H:Hp),RoomU k (A.deeper (nY qual (aj st) s.heap.objs.size f cdv))->SVs K (cxU P w K mg base N qual (aj st) f cdv A outer s H) (dg st) g) :
  FnOkU P w K mg base (k+1) f fd ps (spOf K np (fnD nl np g)):=by
 subst h1 h2;refine F.okU S (fun vs H Q E h=>h.1) fun cdv A outer s H vs Q hr h=>⟨_,body cdv A outer s H hr rfl,?_⟩
 obtain⟨hn,F,as,r,ps',G,em,q⟩:=h;have hl:as.length=(vs.map some).length:=G.len;have G1:=G.app (N.length - vs.length);have es:start N vs=vs.map some++aM (N.length - vs.length) none:=rfl;rw[es];unfold fnD at em;rw[<-hn] at em;have fin:∀{ρ':Ro} {σ':L2.St} {F' H':Hp},Good K (tgOf (vs.map some)) F' H' ρ' σ'->Fin K F' H' (vs.map some) (ρ'.take vs.length) (Own ρ' σ'):=fun{ρ' σ' F' H'} G'=>⟨fun i l e=>by
  have hi:=(aK.mp e).1;rw[fJ] at hi;rw[jY (by omega)] at e
  obtain⟨o,ho,a,ws,rfl,hf,hh,hl,ht⟩:=G'.at e;rw[ht i rfl];exact⟨⟨i,⟨_,_,e⟩,ho⟩,hf,ws,hh,hl⟩⟩
 split at em
 ·rename_i r' ρ' e;cases em;refine⟨_,F,_,.ret r,ρ',G1,e,fun v σ' H' F' G' x' rr =>?_⟩
  rw[aad hl] at x' rr;exact q v H' F' (Own ρ' σ') G'.sub x' (fin G') rr
 ·rename_i ρ' e;cases em;refine⟨_,F,_,.nx,ρ',G1,e,fun σ' H' F' G' x' =>?_⟩
  rw[aad hl] at x';exact q .non H' F' (Own ρ' σ') G'.sub x' (fin G') .non
 ·cases em
 ·cases em
noncomputable def cxH(X:Cx)(ev:Value):Cx:={ X with A:=X.A.mark (some ev),calm:=false }
section
variable{K:Fg9}{X:Cx}{zv:List (Addr×Obj)}{σ:L2.St}{H:Hp}{s:aF}{tg:Nat->Addr}{F:Hp}{ρ:Ro}
theorem Inv.hnd(I:Inv X zv σ H s)(ev:Value):Inv (cxH X ev) zv σ H s :=
 ⟨⟨I.ok.mod,I.ok.kind,I.ok.glob,I.ok.blt,I.ok.above,I.ok.inj,I.ok.has,I.ok.cab,(fun z=>absurd z bZ),I.ok.frames,I.ok.stk,I.ok.exf,I.ok.bs,I.ok.bsz,I.ok.noex,I.ok.exfs,I.ok.funs,I.ok.frf⟩,I.os,I.bare,I.base,I.loc,I.cell,I.free,I.freeC,I.pin,I.hok,I.len⟩
theorem Inv.unhnd{ev:Value}(hd:X.calm=true->X.A.handled=none)(I:Inv (cxH X ev) zv σ H s):Inv X zv σ H s :=
 ⟨⟨I.ok.mod,I.ok.kind,I.ok.glob,I.ok.blt,I.ok.above,I.ok.inj,I.ok.has,I.ok.cab,hd,I.ok.frames,I.ok.stk,I.ok.exf,I.ok.bs,I.ok.bsz,I.ok.noex,I.ok.exfs,I.ok.funs,I.ok.frf⟩,I.os,I.bare,I.base,I.loc,I.cell,I.free,I.freeC,I.pin,I.hok,I.len⟩
theorem Inv.track{a:Addr}{o:HO}(I:Inv X zv σ H s)(f:FpX X zv H a)(new:v9 X.prog X.w (upd H a o) s.heap a o):Inv X zv σ (upd H a o) s:=by
 have ne:∀b z,H b=some z->b≠a:=fun b z q w=>by rw[w,f.1] at q;cases q
 refine⟨I.ok,I.os,I.bare,⟨I.base.keep,I.base.slot,fun b o' e n hx =>?_,I.base.there,fun b xs q =>?_,fun b ob u q =>?_,fun b ps q =>?_⟩,I.loc,I.cell,?_,fun x c e =>?_,fun p hp =>?_,fun b u e =>?_,I.len⟩
 ·rw[dj (fun w=>by
   rcases f.2.2.2.1 with z | z
   ·exact hx (w▸z)
   ·rw[w,z] at e;cases e)]
  exact I.base.free b o' e n hx
 ·have:=I.base.tups b xs q;rw[dj (ne _ _ this)];exact this
 ·have:=I.base.frzs b ob u q;rw[dj (ne _ _ this)];exact this
 ·obtain⟨more,h1⟩:=I.base.tbls b ps q;exact⟨more,by rw[dj (ne _ _ h1)];exact h1⟩
 ·rw[dj (fO f.2.1)];exact I.free
 ·rw[dj (f.2.2.2.2.1 x c e)];exact I.freeC x c e
 ·obtain⟨h1,h2,h3,h4,h5⟩:=I.pin p hp;exact⟨h1,by rw[dj (f.2.2.2.2.2 p hp)];exact h2,h3,h4,h5⟩
 ·by_cases hb:b=a
  ·subst hb;rw[gq] at e;cases e;exact new
  ·rw[dj hb] at e;refine(I.hok b u e).stay (fun c v _ q=>q) (fun c q =>?_) fun c xs q =>?_
   ·rw[dj (ne _ _ q)];exact q
   ·rw[dj (ne _ _ q)];exact q
theorem aom{i:Nat}{a:Addr}{σ':L2.St}(hs:∀j,j≠i->σ'[j]? = σ[j]?)(h:Own (bT ρ i .emp) σ' a):Own ρ σ a:=by
 obtain⟨j,⟨t,l,e⟩,q⟩:=h;rw[bO] at e
 by_cases hj:i=j
 ·subst hj;rw[if_pos rfl] at e;split at e <;> cases e
 ·rw[if_neg hj] at e;exact⟨j,⟨t,l,e⟩,by rw[<-hs j (fO hj)];exact q⟩
theorem Good.forget(G:Good K tg F H ρ σ)(i:Nat):Good K tg F H (bT ρ i .emp) (bT σ i none) where
 sub:=G.sub
 len:=by rw[eQ,eQ];exact G.len
 sl:=fun j s o e q=>by
  rw[bO] at e q
  by_cases hj:i=j
  ·subst hj;rw[if_pos rfl] at e;split at e
   ·cases e;trivial
   ·cases e
  ·rw[if_neg hj] at e q;exact G.sl j s o e q
 inj:=fun j k a ⟨⟨t,l,e⟩,q⟩ ⟨⟨t',l',e'⟩,q'⟩=>by
  have f:∀{j t l},(bT ρ i Sl.emp)[j]? = some (Sl.own t l)->i≠j:=fun{j t l} e z=>by
   subst z;rw[bO,if_pos rfl] at e;split at e <;> cases e
  have n1:=f e;have n2:=f e';rw[bO,if_neg n1] at e q;rw[bO,if_neg n2] at e' q';exact G.inj j k a ⟨⟨t,l,e⟩,q⟩ ⟨⟨t',l',e'⟩,q'⟩
theorem Ext.less{O O' O2:Addr->Prop}{F H F' H':Hp}(x:Ext O O' F H F' H')(h:∀a,O2 a->O' a):Ext O O2 F H F' H':=⟨x.sub,x.new,x.keep,fun a z=>x.own a (h a z),x.there⟩
theorem aqe{O O' O2:Addr->Prop}{F' H H':Hp}{r:Rv}{v:V}(x:relR K r v H O F' H' O')(h:∀a,O2 a->O' a):relR K r v H O F' H' O2:=by
 cases r with
 | v d=>exact x
 | fr l =>
  obtain⟨a,vs,e1,e2,e3,e4,e5,e6⟩:=x;exact⟨a,vs,e1,e2,e3,e4,e5,fun z=>e6 (h a z)⟩
 | tf d l =>
  obtain⟨t,u,a,vs,e0,e1,e2,e3,e4,e5,e6,e7⟩:=x;exact⟨t,u,a,vs,e0,e1,e2,e3,e4,e5,e6,fun z=>e7 (h a z)⟩
end
noncomputable def dTry(ns:List Str)(gb:Sd)(i:Nat)(gh:Sd):Sd:=fun ρ=>match gb ρ with
 | some (.exc x,ρ1)=>if ns.contains x.cls then match gh (bT ρ1 i (.val (.exn x.cls x.fs))) with
   | some (.exc _,_)=>none
   | some (fl,ρ2)=>some (fl,bT ρ2 i .emp)
   | none=>none
  else none
 | r=>r
structure CatN (K:Fg9) (B:Addr):Prop extends CatK K B where
 ns:nsIn K aH "ArrowError" = some (some (.ref B))
 self:fW K (.ref B) (.ref B)=some true
theorem aoc{K:Fg9}{C B:Addr}(k:CatN K B)(h:fX K (.ref C) (.ref B)=some true):fW K (.ref C) (.ref B)=some true:=by
 by_cases e:C=B
 ·rw[e];exact k.self
 ·have h1:(if (cJ C==cJ B)=true then some true else xQ K (.ref C) (.ref B))=some true:=h
  rw[if_neg (fun z=>e (xV (beq_iff_eq.mp z)))] at h1
  have h2:(if ((kJ K B).isSome&&oZ K (.ref B)==some (.type "type"))=true then fW K (.ref C) (.ref B) else none)=some true:=h1
  split at h2
  ·exact h2
  ·cases h2
def a8r(K:Fg9)(tg:Nat->Addr)(ρ:Ro)(σ:L2.St)(F H:Hp)(ρ2:Ro)(fl:Fl):Ends where
 nx:=fun σ6 H6=>fl=.nx/\∃F6,Good K tg F6 H6 ρ2 σ6/\Ext (Own ρ σ) (Own ρ2 σ6) F H F6 H6
 bk:=fun σ6 H6=>fl=.brk/\∃F6,Good K tg F6 H6 ρ2 σ6/\Ext (Own ρ σ) (Own ρ2 σ6) F H F6 H6
 ct:=fun σ6 H6=>fl=.cont/\∃F6,Good K tg F6 H6 ρ2 σ6/\Ext (Own ρ σ) (Own ρ2 σ6) F H F6 H6
 rt:=fun v H6=>∃r σ6 F6,fl=.ret r/\Good K tg F6 H6 ρ2 σ6/\Ext (Own ρ σ) (Own ρ2 σ6) F H F6 H6/\relR K r v H (Own ρ σ) F6 H6 (Own ρ2 σ6)
section
variable{K:Fg9}{X:Cx}{pos hpos bp:Pos}{n:Str}{B:Addr}{i:Nat}{b₀:Stmt}{body suite:List Stmt}{ns:List Str}{gb gh:Sd}
theorem a0e(hcalm:X.calm=true)(hno:X.xe=fun _ _=>False)(hfr:X.env.frame=some X.env.locals)(hst:X.stack=X.env::X.outer)(hN:X.N.Nodup)(hi:X.N[i]? = some n)(hk0:X.env.scope.names.lookup n=some .local)
  (hgB:Gl X "ArrowError") (hmB:X.mg "ArrowError" = some (.ref B)) (cat:CatN K B) (sub:ahp K ns=true) (hB:ns.contains "ArrowError" = true) (hb:SVs K X body gb) (hx:XSs K X body gb) (hh:∀ev,SVs K (cxH X ev) (b₀::suite) gh) :
  SV K X (.Try body [.ExceptHandler (some (.Name "ArrowError" bp)) (some n) (b₀::suite) hpos] [] [] pos) (dTry ns gb i gh):=SV.mk fun hk zv s σ H E I hq0=>by
 obtain⟨tg,F,ρ,fl,ρ',G,em,q⟩:=hq0;refine wpAny_Try_except ?_;unfold dTry at em;split at em
 ·rename_i x ρ1 e1;split at em
  ·rename_i hc0;split at em
   ·cases em
   ·rename_i fl' ρ2 hne e2;cases em;refine aW (hx.go hk hno zv s σ H tg F ρ x ρ1 I G (u9.mpr e1)) (fun _ _ z=>z.elim) fun er s1 ⟨σ1,H1,F1,I1,G1,x1,a,C,dx,ch,ea,hc,hf,fly,hch⟩ =>?_
    subst ea;have hl1:=I1.stack;rw[hst] at hl1;refine aq2 (by rw[<-hst];exact I1.ok.frames) hl1 hfr fly fun h2 ch2 hne2 hch2 kb2 fly2 =>?_
    rw[<-hst] at kb2;have I2:=Inv.records I1 kb2 hch;have fp2:∀b∈ch2,FpX X zv H1 b:=fun b hb=>by
     rcases hch2 b hb with z | z
     ·exact hch b z
     ·exact Inv.fpX I1 (jP z) (I1.hok.fresh z)
    obtain⟨oe,vs,he,hcl,_⟩:=(fly2 X.env.locals).obj;have hsub:=aoc cat (by have z:=al7 sub hc0 hB hc.ns cat.ns;rw[z];simp[aib])
    refine wpAny_handleBy_cons (codeAny_handlers_test (ack (X:=cxH X (.ref a)) (Inv.hnd I2 _) hgB hmB ?_ (by decide))) (by intro z;cases z)
    refine au4 (hk▸I2.kIn) cat.toCatK he hcl hsub ?_;refine codeAny_handlers_suite_as ?_;refine aw9 (fs:=frs X.stack) (fly2 X.env.locals) hne2 fun h3 kb3 fly3 ha3 =>?_
    have I3:=Inv.records I2 kb3 fp2;obtain⟨oe3,vs3,he3,hcl3,hdx3,hd3,_⟩:=(fly3 X.env.locals).obj;have fa:FpX X zv H1 a:=fp2 a (fly2 X.env.locals).fresh;have I4:=Inv.track (o:=.ext (exO a C dx)) I3 fa ⟨⟨oe3,vs3,he3,hcl3,hdx3,hd3⟩,⟨oe3,he3⟩,fun g1 g2 ⟨o,vs',h1,h2,h3,h4⟩ kp=>⟨o,vs',kp o h1,h2,h3,h4⟩⟩
    have G4:=G1.new fa.1 (.ext (exO a C dx));have x4:=G1.newX fa.1 (.ext (exO a C dx));have isE:Is K (upd F1 a (.ext (exO a C dx))) (.exn x.cls x.fs) (.ref a):=.exn gq hc.ns hc.ok (hf.imp id fun⟨d,h1,h2⟩=>⟨d,h1,x4.sub _ _ h2⟩)
    obtain⟨G5,x5⟩:=G4.storeV i isE;refine abp I4 hN hi (.inl hk0) (v:=.ref a) rfl (fun s5 I5 =>?_) (.inr hk0)
    have hx5:=(x1.trans x4).trans x5;have back:∀{f:Flow} {s6:aF} {σ6:L2.St} {H6:Hp},Inv (cxH X (.ref a)) zv σ6 H6 s6->(∀s7,Inv X zv (bT σ6 i none) H6 s7->SP X zv E f s7) ->
      wpAny (model X.prog X.w) X.A (do bindName X.env n .none;unbindBehindTheSuite X.env n hpos) (fun _ s7=>SP X zv E f s7) X.xe s6:=fun{f s6 σ6 H6} I6 fin=>by
     have I6:=Inv.unhnd I.ok.hd I6;refine aA (wpAny_bindName (abp I6 hN hi (.inl hk0) (v:=.non) rfl (fun s7 I7 =>?_) (.inr hk0)))
     unfold unbindBehindTheSuite;refine wpAny_onRaise (a3e I7 hN hi hk0 (v:=.non) (lF (by rw[I6.len];exact(aK.mp hi).1)) fun s8 I8=>fin s8 ?_)
     rw[List.set_set] at I8;exact I8
    refine aW ((hh (.ref a)).go hk zv s5 _ _ (a8r K tg ρ σ F H ρ2 fl) (Inv.hnd I5 (.ref a))
      ⟨tg,_,_,fl,ρ2,G5,e2,?_⟩) (fun f s6 hs =>?_) fun _ _ z=>by
       have z:X.xe _ _:=z;rw[hno] at z;exact z.elim
    ·cases fl with
     | nx=>exact fun σ6 H6 F6 G6 x6=>⟨rfl,F6,G6,hx5.trans x6⟩
     | brk=>exact fun σ6 H6 F6 G6 x6=>⟨rfl,F6,G6,hx5.trans x6⟩
     | cont=>exact fun σ6 H6 F6 G6 x6=>⟨rfl,F6,G6,hx5.trans x6⟩
     | ret r=>exact fun v σ6 H6 F6 G6 x6 rr=>⟨r,σ6,F6,rfl,G6,hx5.trans x6,p6 hx5 rr⟩
     | exc y=>exact(hne y rfl).elim
    ·have sub6:∀(σ6:L2.St) (a:Addr),Own (bT ρ2 i .emp) (bT σ6 i none) a->Own ρ2 σ6 a:=fun σ6 a z=>aom (fun j hj=>lU (fO hj)) z
     cases f with
     | next =>
      obtain⟨σ6,H6,I6,rfl,F6,G6,x6⟩:=hs;exact back I6 fun s7 I7=>⟨_,H6,I7,q _ H6 F6 (G6.forget i) (x6.less (sub6 σ6))⟩
     | brk =>
      obtain⟨σ6,H6,I6,rfl,F6,G6,x6⟩:=hs;exact back I6 fun s7 I7=>⟨_,H6,I7,q _ H6 F6 (G6.forget i) (x6.less (sub6 σ6))⟩
     | cont =>
      obtain⟨σ6,H6,I6,rfl,F6,G6,x6⟩:=hs;exact back I6 fun s7 I7=>⟨_,H6,I7,q _ H6 F6 (G6.forget i) (x6.less (sub6 σ6))⟩
     | ret u =>
      obtain⟨v,σ6,H6,I6,rv,r,σ6',F6,rfl,G6,x6,rr⟩:=hs;exact back I6 fun s7 I7=>⟨v,_,H6,I7,rv,q v _ H6 F6 (G6.forget i) (x6.less (sub6 σ6')) (aqe rr (sub6 σ6'))⟩
   ·cases em
  ·cases em
 ·rename_i hn;refine aW (hb.go hk zv s σ H E I ⟨tg,F,ρ,fl,ρ',G,em,q⟩) (fun f s1 z =>?_) fun er s1 z=>by rw[hno] at z;exact z.elim
  cases f with
  | next=>exact wpAny_execs_nil z
  | ret v=>exact z
  | brk=>exact z
  | cont=>exact z
end
def okS{α:Type}(m:M α):M α:=fun ρ=>match m ρ with
 | some (.ok a,ρ1)=>some (.ok a,ρ1)
 | _=>none
noncomputable def dOk(g:Sd):Sd:=fun ρ=>match g ρ with
 | some (.exc _,_)=>none
 | r=>r
@[simp] theorem a8w{α:Type}(m:M α)(ρ:Ro):okS m ρ=match m ρ with
 | some (.ok a,ρ1)=>some (.ok a,ρ1)
 | _=>none:=rfl
@[simp] theorem a89(g:Sd)(ρ:Ro):dOk g ρ=match g ρ with
 | some (.exc _,_)=>none
 | r=>r:=rfl
theorem ajc{α:Type}{m:M α}{ρ ρ':Ro}{o:Out α}(h:okS m ρ=some (o,ρ')):m ρ=some (o,ρ')/\∃a,o=.ok a:=by
 unfold okS at h;split at h
 ·rename_i a ρ1 e;cases h;exact⟨e,a,rfl⟩
 ·cases h
theorem aw0{g:Sd}{ρ ρ':Ro}{fl:Fl}(h:dOk g ρ=some (fl,ρ')):g ρ=some (fl,ρ')/\∀x,fl≠.exc x:=by
 unfold dOk at h;split at h
 ·cases h
 ·rename_i hn;exact⟨h,fun x e=>hn x ρ' (by rw[h,e])⟩
theorem abb{α:Type}{m:M α}:NoX (okS m):=fun ρ x ρ' h=>by
 obtain⟨_,a,e⟩:=ajc h;cases e
theorem ayi{g:Sd}:NoS (dOk g):=fun ρ x ρ' h=>(aw0 h).2 x rfl
section
variable{K:Fg9}{X:Cx}{e a b c:Expr}{es:List Expr}{pos p:Pos}{st:Stmt}{ss:List Stmt}
theorem SV.s{g:Sd}(h:SV K X st g):SV K X st (dOk g):=SV.mk fun hk=>PS.imp (h.go hk) fun E σ H ⟨tg,F,ρ,fl,ρ',G,em,q⟩=>⟨tg,F,ρ,fl,ρ',G,(aw0 em).1,q⟩
theorem EV.s{m:M D}(h:EV K X e m):EV K X e (okS m):=EV.mk fun hk=>PE.imp (h.go hk) fun σ H Q ⟨tg,F,ρ,d,ρ',G,em,q⟩=>⟨tg,F,ρ,d,ρ',G,(ajc em).1,q⟩
theorem ER.s{m:M Rv}(h:ER K X e m):ER K X e (okS m):=ER.mk fun hk=>PE.imp (h.go hk) fun σ H Q ⟨tg,F,ρ,d,ρ',G,em,q⟩=>⟨tg,F,ρ,d,ρ',G,(ajc em).1,q⟩
theorem ET.s{m:M Bool}(h:ET K X e m):ET K X e (okS m):=ET.mk fun hk=>fun zv s σ H Q I ⟨tg,F,ρ,d,ρ',G,em,q⟩=>h.go hk zv s σ H Q I ⟨tg,F,ρ,d,ρ',G,(ajc em).1,q⟩
theorem EG.s{js:List (Option Nat)}{m:M (List (Option D))}(h:EG K X es js m):EG K X es js (okS m):=EG.mk fun hk=>PA.imp (h.go hk) fun σ H Q ⟨tg,F,ρ,d,ρ',G,em,q⟩=>⟨tg,F,ρ,d,ρ',G,(ajc em).1,q⟩
theorem atx{x:Exn}:SV K X st (aj2 x):=SV.mk fun _=>PS.imp amd fun E σ H hq0=>by
 obtain⟨tg,F,ρ,fl,ρ',G,em,q⟩:=hq0;cases em;exact(show False from q).elim
theorem apj{g:Sd}:XS K X st (dOk g):=XS.no ayi
theorem XE.d{m:M Rv}(h:XE K X e m):XE K X e m.d:=⟨fun hk hn zv s σ H tg F ρ x ρ' I G em=>by
 rcases vo (lr.mp em) with em | ⟨_,_,_,em⟩
 ·exact h.go hk hn zv s σ H tg F ρ x ρ' I G (lr.mpr em)
 ·cases em⟩
theorem XE.v{m:M D}(h:XE K X e m):XE K X e m.v:=⟨fun hk hn zv s σ H tg F ρ x ρ' I G em=>by
 rcases vo (lr.mp em) with em | ⟨_,_,_,em⟩
 ·exact h.go hk hn zv s σ H tg F ρ x ρ' I G (lr.mpr em)
 ·cases em⟩
theorem agz{α:Type}{l:α}:XA K X [] (ret l):=XA.no fun ρ x ρ' h=>by cases h
theorem xa_v{m:M D}{js:List (Option Nat)}{ms:M (List (Option D))}(h:EV K X e m)(hx:XE K X e m)(t:XA K X es ms)(hs:aQ (e::es) X.env=(false,eval e X.env)::aQ es X.env:=by rfl):XA K X (e::es) (bu m ms):=⟨fun pos hk hn zv s σ H tg F ρ x ρ' I G em=>by
 rw[hs];refine mO ?_;rcases vo (lr.mp em) with em | ⟨d,ρ1,e1,em⟩
 ·exact aW (hx.go hk hn zv s σ H tg F ρ x ρ' I G (lr.mpr em)) (fun _ _ z=>z.elim) fun _ _ z=>z
 ·rcases vo em with em | ⟨_,_,_,em⟩
  ·refine aW (h.go hk zv s σ H (fun _ H1=>∃F1,Good K tg F1 H1 ρ1 σ/\Ext (Own ρ σ) (Own ρ1 σ) F H F1 H1) I ⟨tg,F,ρ,d,ρ1,G,e1,fun v H1 F1 G1 x1 _=>⟨F1,G1,x1⟩⟩) (fun u s1 ⟨v,H1,I1,_,F1,G1,x1⟩ =>?_) fun e s1 q=>by rw[hn] at q;exact q.elim
   exact aW (t.go pos hk hn zv s1 σ H1 tg F1 ρ1 x ρ' I1 G1 (lr.mpr em)) (fun _ _ z=>z.elim) fun _ _ z=>z.back x1
  ·cases em⟩
theorem xa_n{j:Nat}{ms:M (List (Option D))}(h:PE X e (tVar j))(t:XA K X es ms)(hs:aQ (e::es) X.env=(false,eval e X.env)::aQ es X.env:=by rfl):XA K X (e::es) (fu j ms):=⟨fun pos hk hn zv s σ H tg F ρ x ρ' I G em=>by
 rw[hs];refine mO ?_;rcases vo (lr.mp em) with em1 | ⟨d,ρ1,e1,em2⟩
 ·exfalso;unfold dw at em1;split at em1 <;> cases em1
 ·obtain⟨hρ,v,hv,_⟩:=ue G e1;rw[hρ] at em2;rcases vo em2 with em3 | ⟨_,_,_,em3⟩
  ·refine aW (h zv s σ H (fun _ H1=>H1=H) I ⟨v,hv,rfl⟩) (fun u s1 ⟨_,H1,I1,_,e⟩ =>?_) fun e s1 q=>by rw[hn] at q;exact q.elim
   subst e;exact aW (t.go pos hk hn zv s1 σ H1 tg F ρ x ρ' I1 G (lr.mpr em3)) (fun _ _ z=>z.elim) fun _ _ z=>z
  ·cases em3⟩
theorem apk{m:M D}{ms:M (List D)}(h:EV K X e m)(hx:XE K X e m)(t:XA K X es ms)(hs:aQ (e::es) X.env=(false,eval e X.env)::aQ es X.env:=by rfl):XA K X (e::es) (aq m ms):=⟨fun pos hk hn zv s σ H tg F ρ x ρ' I G em=>by
 rw[hs];refine mO ?_;rcases vo (lr.mp em) with em | ⟨d,ρ1,e1,em⟩
 ·exact aW (hx.go hk hn zv s σ H tg F ρ x ρ' I G (lr.mpr em)) (fun _ _ z=>z.elim) fun _ _ z=>z
 ·rcases vo em with em | ⟨_,_,_,em⟩
  ·refine aW (h.go hk zv s σ H (fun _ H1=>∃F1,Good K tg F1 H1 ρ1 σ/\Ext (Own ρ σ) (Own ρ1 σ) F H F1 H1) I ⟨tg,F,ρ,d,ρ1,G,e1,fun v H1 F1 G1 x1 _=>⟨F1,G1,x1⟩⟩) (fun u s1 ⟨v,H1,I1,_,F1,G1,x1⟩ =>?_) fun e s1 q=>by rw[hn] at q;exact q.elim
   exact aW (t.go pos hk hn zv s1 σ H1 tg F1 ρ1 x ρ' I1 G1 (lr.mpr em)) (fun _ _ z=>z.elim) fun _ _ z=>z.back x1
  ·cases em⟩
theorem az7{k}{ms:M (List D)}(h:XA K X es ms):XE K X (.Tuple es k pos) (mTup ms):=⟨fun hk hn zv s σ H tg F ρ x ρ' I G em=>by
 rcases vo (lr.mp em) with em | ⟨_,_,_,em⟩
 ·exact wpAny_Tuple_spliced (aW (h.go pos hk hn zv s σ H tg F ρ x ρ' I G (lr.mpr em)) (fun _ _ z=>z.elim) fun _ _ z=>z)
 ·unfold lift at em;split at em <;> cases em⟩
end
noncomputable def fnS(f:Fd):Fd:=fun as=>match f as with
 | some (.exc _,_)=>none
 | r=>r
@[simp] theorem a86(f:Fd)(as:Ro):fnS f as=match f as with
 | some (.exc _,_)=>none
 | r=>r:=rfl
section
variable{K:Fg9}{X:Cx}{e:Expr}{es:List Expr}{pos p:Pos}
end
def ClsT(K:Fg9)(mg:Str->Option Value)(c:Str):Prop:=∃C,mg c=some (.ref C)/\ClsOk K c C
def RaiT(K:Fg9)(mg:Str->Option Value)(c:Str):Prop:=∃C,mg c=some (.ref C)/\ClsOk K c C/\nM K C bmV "ValueError.__new__" = true
def CatT(K:Fg9)(mg:Str->Option Value):Prop:=∃B,mg "ArrowError" = some (.ref B)/\CatN K B
section
variable{K:Fg9}{X:Cx}{e:Expr}{pos p np cpos hpos bp:Pos}{c:Str}
theorem apf(hk:X.K=K)(hcalm:X.calm=true)(hg:Gl X c)(h:RaiT K X.mg c)(hd:(c==("__debug__" : Str))=false:=by decide):XS K X (.Raise (some (.Call (.Name c np) [] [] cpos)) none pos) (aj2 ⟨c,[]⟩):=by
 obtain⟨C,hm,k,q⟩:=h;subst hk;exact api hcalm hg hm k q hd
theorem ju{ns:List Str}{m:M D}{x:Str}{pc:Pos}(sub:ahp K ns=true)(h1:ns.contains c=true)(hgC:Gl X c)(hC:ClsT K X.mg c)(hg:Gl X x)(hm:X.mg x=none)(hv:bN x=some (.builtin "isinstance"))(h:EB K X e m)
  (hdC:(c==("__debug__" : Str))=false:=by decide) (hn:x ≠ "__name__" := by decide) (hdb:(x==("__debug__" : Str))=false:=by decide)
  (h1':aQ [.Name c pc] X.env=(false,eval (.Name c pc) X.env)::aQ [] X.env:=by rfl) (he:aQ [e,.Name c pc] X.env=(false,eval e X.env)::aQ [.Name c pc] X.env:=by rfl) (hpl:(iG pos (aQ [.Name c pc] X.env)).any (·.1)=false:=by rfl) :
  EV K X (.Call (.Name x p) [e,.Name c pc] [] pos) (mIsC ns c m):=by
 obtain⟨C,hmC,k⟩:=hC;exact azi sub h1 hgC hmC k.ns hg hm hv h hdC hn hdb h1' he hpl
theorem apy{n:Str}{i:Nat}{b₀:Stmt}{body suite:List Stmt}{ns:List Str}{gb gh:Sd}(hcalm:X.calm=true)(hno:X.xe=fun _ _=>False)(hfr:X.env.frame=some X.env.locals)(hst:X.stack=X.env::X.outer)(hN:X.N.Nodup)(hi:X.N[i]? = some n)(hk0:X.env.scope.names.lookup n=some .local)
  (hgB:Gl X "ArrowError") (hB:CatT K X.mg) (sub:ahp K ns=true) (hB2:ns.contains "ArrowError" = true) (hb:SVs K X body gb) (hx:XSs K X body gb) (hh:∀ev,SVs K (cxH X ev) (b₀::suite) gh) :
  SV K X (.Try body [.ExceptHandler (some (.Name "ArrowError" bp)) (some n) (b₀::suite) hpos] [] [] pos) (dTry ns gb i gh):=by
 obtain⟨B,hm,cat⟩:=hB;exact a0e hcalm hno hfr hst hN hi hk0 hgB hm cat sub hB2 hb hx hh
end
@[simp] theorem a3f(x:Exn)(ρ:Ro):aj2 x ρ=some (.exc x,ρ):=rfl
noncomputable def azg(K:Fg9)(C:Addr):Bool:=(lE K (.ref C) "__getattribute__" == some (some (.builtin "BaseException.__getattribute__")))&&(lE K (.ref C) "__getattr__" == some none)&&(kI K C (.type "BaseException")==some true)&&lH K C&&(lE K (.ref C) "__class__" == some (some (.builtin "object.__class__")))&&(lG K (.builtin "object.__class__") "__get__" == some (some (.builtin "getset_descriptor.__get__"))) &&
 (oG K (.builtin "object.__class__")==some true)&&(kI K C (.type "object")==some true)&&["int","bool","tuple","list","str","dict"].all fun T=>fW K (.ref C) (.type T)==some false
theorem avx{K:Fg9}{C:Addr}(h:azg K C=true):ExcK K C:=by
 unfold azg at h;simp only[aZ,beq_iff_eq] at h;obtain⟨⟨⟨⟨⟨⟨⟨⟨h0,h1⟩,h8⟩,h2⟩,h3⟩,h4⟩,h5⟩,h6⟩,h7⟩:=h;exact⟨h0,h1,h8,h2,h3,h4,h5,h6,fun T hT=>beq_iff_eq.mp (dX.mp h7 T hT)⟩
def anc(K:Fg9)(ns:List Str):Bool:=ns.all fun c=>match clsAt K c with
 | some C=>azg K C
 | none=>false
def awf(K:Fg9)(ns:List Str):Bool:=ns.all fun c=>match clsAt K c with
 | some C=>nM K C bmV "ValueError.__new__"
 | none=>false
noncomputable def catB(K:Fg9):Bool:=match clsAt K "ArrowError" with
 | some B=>lH K B&&(oZ K (.ref B)==some (.type "type"))&&(fW K (.ref B) (.type "BaseException")==some true)&&(fW K (.ref B) (.ref B)==some true)
 | none=>false
theorem afe{K:Fg9}{c:Str}{C:Addr}(h:clsAt K c=some C):nsIn K aH c=some (some (.ref C)):=by
 unfold clsAt at h;split at h
 ·rename_i C' e;cases h;exact e
 ·cases h
section
variable{K:Fg9}{h:Heap}{mg:Str->Option Value}{ns:List Str}{c:Str}
theorem su(X:K.In h)(G:h.Ns aH mg)(e:anc K ns=true)(hc:ns.contains c=true):ClsT K mg c:=by
 have z:=dX.mp e c (dO.mp hc);split at z
 ·rename_i C q;exact⟨C,mg_of X G (afe q),afe q,avx z⟩
 ·cases z
theorem aa9{rs:List Str}(X:K.In h)(G:h.Ns aH mg)(e:anc K ns=true)(hc:ns.contains c=true)(e2:awf K rs=true)(hr:rs.contains c=true):RaiT K mg c:=by
 obtain⟨C,h1,h2⟩:=su X G e hc;have z:=dX.mp e2 c (dO.mp hr);rw[adw h2.ns] at z;exact⟨C,h1,h2,z⟩
theorem azp(X:K.In h)(G:h.Ns aH mg)(e:catB K=true):CatT K mg:=by
 unfold catB at e;split at e
 ·rename_i B q;simp only[aZ,beq_iff_eq] at e;obtain⟨⟨⟨h1,h2⟩,h3⟩,h4⟩:=e;obtain⟨cd,hc,_⟩:=jT h1;exact⟨B,mg_of X G (afe q),⟨by rw[hc];rfl,h2,h3⟩,afe q,h4⟩
 ·cases e
end
end Dn
namespace Mn
open L2
section
variable{X:Cx}
end
end Mn
namespace Dn
open L2 Mn
section
variable{K:Fg9}{X:Cx}{a b:Expr}{pos p p2:Pos}
noncomputable def alh(neg:Bool):D->List D->Option D
 | .int i,[.int y]=>some (.bl (if neg then !(decide (0<=i)&&decide (i < y)) else (decide (0<=i)&&decide (i < y))))
 | _,_=>none
@[simp] theorem ay4(neg:Bool)(i y:Int):alh neg (.int i) [.int y]=some (.bl (if neg then !(decide (0<=i)&&decide (i < y)) else (decide (0<=i)&&decide (i < y)))):=rfl
def ayq(neg:Bool)(m1:M D)(m2:M (List D)):M D:=m1.bind fun x=>m2.bind fun ds=>lift (alh neg x ds)
@[simp] theorem azx(neg:Bool)(m1:M D)(m2:M (List D))(ρ:Ro):ayq neg m1 m2 ρ=(m1.bind fun x=>m2.bind fun ds=>lift (alh neg x ds)) ρ:=rfl
end
section
variable{K:Fg9}{X:Cx}{a b e:Expr}{pos:Pos}{m1:M D}{m2 m:M Rv}
def a6s(m1:M D)(m2:M Rv):M Rv:=m1.bind fun d=>m2.bind fun r=>match r with
 | .v d2=>ret (.v (.tup [d,d2]))
 | .fr l=>ret (.tf d l)
 | .tf _ _=>lift none
@[simp] theorem a3y(ρ:Ro):a6s m1 m2 ρ=(m1.bind fun d=>m2.bind fun r=>match r with
 | .v d2=>ret (.v (.tup [d,d2]))
 | .fr l=>ret (.tf d l)
 | .tf _ _=>lift none) ρ:=rfl
def a8l(i j:Nat)(m:M Rv):Sd:=dM m fun r ρ=>match r with
 | .tf d l=>some (.nx,bT (bT ρ i (.val d)) j (.own none l))
 | .v (.tup [d,d2])=>some (.nx,bT (bT ρ i (.val d)) j (.val d2))
 | _=>none
end
@[simp] theorem a5l(i j:Nat)(m:M Rv)(ρ:Ro):a8l i j m ρ=dM m (fun r ρ=>match r with
 | .tf d l=>some (.nx,bT (bT ρ i (.val d)) j (.own none l))
 | .v (.tup [d,d2])=>some (.nx,bT (bT ρ i (.val d)) j (.val d2))
 | _=>none) ρ:=rfl
def aze:D->Bool
 | .non | .bl _ | .int _ | .str _=>true
 | _=>false
def aqs:Sl->Bool
 | .own _ l=>l.all aze
 | _=>true
noncomputable def a65(i:Nat)(m:M Rv):M Rv:=fun ρ=>match ρ[i]?,m ρ with
 | some (.own none l),some (.ok (.fr ys),ρ')=>if ys.all aze=true/\ρ.all aqs=true then some (.ok (.fr ys),ρ) else none
 | _,_=>none
@[simp] theorem a4g(i:Nat)(m:M Rv)(ρ:Ro):a65 i m ρ=match ρ[i]?,m ρ with
 | some (.own none l),some (.ok (.fr ys),ρ')=>if ys.all aze=true/\ρ.all aqs=true then some (.ok (.fr ys),ρ) else none
 | _,_=>none:=rfl
end Dn
namespace Mn
open PySem PySem.SeqAt PySem.MeetsSeq
open PySem.AutoSeq1 (wpAny_loadPart')
end Mn
namespace Dn
open L2 Mn
end Dn
namespace Mn
open L2
section
variable{prog:bJ}{w:World}{A:bW}{E:Value->aF->Prop}{h:Heap}{g:Array GenState}{d:Drawn}{t:Nat}{os:OsState}
variable{nm q:Str}{C N:Addr}{bs bm bmB:List Value}{hdct:Bool}{sn:List Str}{sub:List Value}{ab:Bool}{col:Option Bool}{dd:Option Addr}{k0 k1 k2 k3 k5:Option Value}{B Bn newId nid initId inN:String}{bmN:List Value}
theorem afi(Fn:ExcBaseFacts Bn newId inN bmN)(hBn:bmB.contains (.type Bn)=true)(F:ExcBaseFacts B nid initId bmB)(T:OwnTail h bmB bm){mN:Str->Option Value}{rest:List Value}{fI:Addr}{oI:Obj}{Q:Fin->aF->Prop}
  (hC:h.get? C=some (excClassObj nm q C N bs bm hdct sn sub ab col dd k0 k1 k2 k3 k5 newId)) (hn:h.Ns N mN) (hi:mN "__init__" = some (.ref fI)) (hfI:h.get? fI=some oI) (hfc:oI.cls=.type "function")
  (hq:∀h' e,rW h h' e (.ref C) rest->wpAny (model prog w) A (call (.ref fI) (.ref e::rest)) (fun r s'=>r=.none/\Q (.done (.ret (.ref e))) s') E ⟨h',g,d,t,os⟩) (hrest:rest.length<=bV:=by size_fits) :
  wpAny (model prog w) A (iU.«type.__call__» ⟨.ref C::rest,[]⟩) Q E ⟨h,g,d,t,os⟩:=by
 repeat (first | with_reducible refine wpAny_loadPart_at hC ?_ | with_reducible refine wpAny_madeBy_exc hC ?_ | wp_step)
 refine codeAny_call_builtin_code (vC _ Fn.quiet) (wpAny_check_new_subU Fn hBn T hC ?_);refine codeAny_exc_new_subU Fn hBn F T hC ?_ hrest;show wpAny _ _ _ _ _ _
 let o1:Obj:={ cls:=.type "tuple", data:=.seq rest.toArray }
 let o2:Obj:={ cls:=.ref C,data:=.fields #[.ref h.objs.size,.none,.none,.none,.bool false,.none] }
 have keep:∀b o,h.get? b=some o->((h.push o1).push o2).get? b=some o:=fun b o e=>aB _ (aB _ e)
 have hC1:=keep _ _ hC;have hf1:=keep _ _ hfI;have hn1:((h.push o1).push o2).Ns N mN:=let ⟨o,es,ep,e,r⟩:=hn;⟨o,es,ep,keep _ _ e,r⟩
 have hget:((h.push o1).push o2).get? (h.objs.size+1)=some o2:=by heap_get
 have hcC:(cJ C::bm).contains (.ref C)=true:=by simp
 have T1:=T.keeps (h':=(h.push o1).push o2) keep;unfold isInstance
 repeat (first | with_reducible refine wpAny_loadPart_at hget ?_ | (with_reducible refine wpAny_isSubtype_exc hC1 ?_;rw[hcC]) | wp_step)
 show wpAny _ _ (typeLookup (.ref C) _) _ _ _;refine wpAny_typeLookup_tail hC1 hn1 T1 F.mroIs F.init.lookup ?_;rw[hi];refine dD (aA ?_);unfold bindSpecial;refine aA (wpAny_typeOf (T := "function") ⟨_,hf1,hfc⟩ ?_);rw[if_pos (by decide)]
 refine aD (aA (aW (hq _ (h.objs.size+1) ⟨keep,jP (lJ _),h.objs.size,hget,jP (aN _),?_⟩) (fun r s' hr =>?_) fun _ _ x=>x))
 ·exact aB _ (vW rfl rfl)
 ·obtain⟨rfl,hQ⟩:=hr;wp_walk;exact hQ
theorem ao5(Fn:ExcBaseFacts Bn newId inN bmN)(hBn:bmB.contains (.type Bn)=true)(F:ExcBaseFacts B nid initId bmB)(T:OwnTail h bmB bm){mN:Str->Option Value}{rest:List Value}{fI:Addr}{oI:Obj}{Q:Value->aF->Prop}
  (hC:h.get? C=some (excClassObj nm q C N bs bm hdct sn sub ab col dd k0 k1 k2 k3 k5 newId)) (hn:h.Ns N mN) (hi:mN "__init__" = some (.ref fI)) (hfI:h.get? fI=some oI) (hfc:oI.cls=.type "function")
  (hq:∀h' e,rW h h' e (.ref C) rest->wpAny (model prog w) (A.under (.builtin "type.__call__" ⟨.ref C::rest,[]⟩)) (call (.ref fI) (.ref e::rest)) (fun r s'=>r=.none/\Q (.ref e) s') E ⟨h',g,d,t,os⟩) (hrest:rest.length<=bV:=by size_fits) :
  wpAny (model prog w) A (call (.ref C) rest) Q E ⟨h,g,d,t,os⟩:=by
 have f1:=tc_lookup;have f2:=tc_bind (.ref C);have hT:(⟨h,g,d,t,os⟩:aF).TypeIs (.ref C) "type" := ⟨_,hC,rfl⟩;refine lX (codeAny_of_tree ?_);show wpAny _ _ (callAny (.ref C) _) _ _ _
 repeat (any_goals (first | assumption | with_reducible refine wpAny_loadPart_at hC ?_ | wp_step))
 refine⟨rfl,?_⟩;exact codeAny_call_builtin_at (vC _ (by decide +kernel)) entry_typeCall (wpAny_check_type_call_sub hC (afi (hrest:=hrest) Fn hBn F T hC hn hi hfI hfc fun h' e hm=>hq h' e hm))
end
end Mn
namespace Dn
open L2 Mn
def refB:Value->Bool
 | .ref _=>true
 | _=>false
noncomputable def agc(K:Fg9)(C:Addr):Bool:=(kJ K C).any fun cd=>cd.mro.dropWhile refB==bmV
theorem ag5(self:Value):∀{l:List Value},l.dropWhile refB=bmV->refuseLoop self "__setattr__" l=pure ()
 | .ref c::r,e=>by rw[refuseLoop_ref];exact ag5 self (by simpa[xT,refB] using e)
 | [],e=>by cases e
 | .type n::r,e=>by
  have:(iR n::r)=bmV:=by simpa[xT,refB] using e
  rw[this];exact PySem.F.store_ValueError.passes self
 | .none::r,e=>nomatch (show(cF::r:List Value)=bmV from e)
 | .ellipsis::r,e=>nomatch (show(Value.ellipsis::r:List Value)=bmV from e)
 | .notImplemented::r,e=>nomatch (show(tW::r:List Value)=bmV from e)
 | .bool b::r,e=>nomatch (show(pX b::r:List Value)=bmV from e)
 | .int i t::r,e=>nomatch (show(mY i t::r:List Value)=bmV from e)
 | .float b t::r,e=>nomatch (show(uD b t::r:List Value)=bmV from e)
 | .str x t::r,e=>nomatch (show(tG x t::r:List Value)=bmV from e)
 | .bytes b t::r,e=>nomatch (show(Value.bytes b t::r:List Value)=bmV from e)
 | .builtin i::r,e=>nomatch (show(lV i::r:List Value)=bmV from e)
section
variable{prog:bJ}{w:World}{A:bW}{E:Value->aF->Prop}{s:aF}{K:Fg9}{x C:Addr}{ox:Obj}{od:Option Obj}{name:Str}{v:Value}
theorem aya{tk:Tok}{R:Result->aF->Prop}(X:K.In s.heap)(I:fY s.heap x ox C od)(hp:agc K C=true)(hob:kI K C (.type "object")=some true)(ht:mC K C name=some none)
  (h:∀b,wpAny (model prog w) A.in1 (Builtin.ObjectAttr.storeInOwnDict (.ref x) (.ref C) (.str name tk) name v b)
   (fun fin s'=>match fin with | .done f=>R (.ok f) s' | .again c'=>c'.quiet=true/\nJ (model prog w) A c' R s') (fun e s'=>R (.error e) s') s) :
  nJ (model prog w) A (.call (.builtin "object.__setattr__") ⟨[.ref x,.str name tk,v],[]⟩) R s:=by
 have SF:=PySem.F.store_object;obtain⟨cd,hc,ho⟩:=jT hp;have ho:=beq_iff_eq.mp ho;have sub:jF (model prog w) s.heap (isInstance (.ref x) (.type "object")) true:=I.type.andThen (uG X hob);refine codeAny_call_builtin SF.slot.plain SF.entry (@uV (model prog w) _ _ s "object.__setattr__" "object" "__setattr__" (.ref x) [.str name tk,v] [] _ SF.kind SF.split sub (SF.args (.ref x) (.str name tk) v) ?_);obtain⟨attr,ha,hr⟩:=Option.bind_eq_some_iff.mp ht;have hm:jF (model prog w) s.heap (mroOf (.ref C)) cd.mro:=(uH X hc).andThen .now;have L3:jF (model prog w) s.heap (Builtin.ObjectAttr.storeTaker? attr) none:=by
  cases attr with
  | none=>exact .now
  | some a =>
   obtain⟨b,hb,hz⟩:=iT.mp hr;refine(PySem.W.looks_takesIn X hb).andThen ?_;cases b with
   | true=>cases hz
   | false=>exact .now
 rw[PySem.W.osa_eq,refuse_eq];refine aA (aA (I.type.here (aA (hm.here ?_))));rw[ag5 _ ho];refine aD (aA (I.type.here (aA ((oV X ha).here (aA (L3.here ?_))))));exact h _
theorem akm{vs:Array Value}{Q:Unit->aF->Prop}(X:K.In s.heap)(I:fY s.heap x ox C none)(hx:s.heap.get? x=some ox)(hc:ox.cls=.ref C)(hdn:ox.dict=none)(hdt:ox.data=.fields vs)
  (hs:lE K (.ref C) "__setattr__" = some (some (.builtin "object.__setattr__"))) (hp:agc K C=true) (hob:kI K C (.type "object")=some true) (ht:mC K C name=some none) (hh:lH K C=true)
  (h:∀h' tk',h'.get? x=some { ox with dict:=some s.heap.objs.size }->h'.Ns1 s.heap.objs.size (fun y=>if y=name then some v else none)->(∀b o,b≠x->s.heap.get? b=some o->h'.get? b=some o)->Q () { s with heap:=h',toks:=tk' }) :
  wpAny (model prog w) A (setAttr (.ref x) name v) Q E s:=by
 obtain⟨oc,odict,odata,osl⟩:=ox;simp only at hc hdn hdt;subst hc hdn hdt;refine PySem.W.set_plain X I hs (aya (s:={ s with toks:=s.toks+1 }) X I hp hob ht fun b =>?_)
 obtain⟨cd,hcd,hd'⟩:=jT hh;have hxs:x≠s.heap.objs.size:=bC (aP hx);refine aA (aD (aA (aA (wpAny_loadPart hx (aA (PySem.W.Looks.here (s:={ s with toks:=s.toks+1 }) (uH X hcd) ?_))))))
 rw[hd']
 let o0:Obj:={ cls:=.type "dict", data:=.dict #[] }
 have hx1:(s.heap.push o0).get? x=some ⟨.ref C,none,.fields vs,osl⟩:=aB _ hx;have hgd:((s.heap.push o0).update x fun o=>{ cls:=o.cls,dict:=some s.heap.objs.size,data:=o.data,slots:=o.slots }).get? s.heap.objs.size=some o0:=(uM _ _ _ _ hxs.symm).trans (vW rfl rfl)
 have hnd:((s.heap.push o0).update x fun o=>{ cls:=o.cls,dict:=some s.heap.objs.size,data:=o.data,slots:=o.slots }).Ns s.heap.objs.size (fun _=>none):=⟨_,#[],_,hgd,rfl,fun e he=>absurd he (by simp),fun _=>rfl⟩
 refine aA (wpAny_alloc' (aA (wpAny_update' hx1 (aD ?_))));show wpAny _ _ (qL s.heap.objs.size (.str name _) name v) _ _ _;unfold qL Builtin.ObjectAttr.newKeyGuard;refine aA (aD (aA (wpAny_nsSet1 (vY hnd) fun h' hn' hs' =>?_)))
 obtain⟨oD,esD,epD,hoD,hdD,hcD⟩:=hn'.count (Within.cons name v Within.nil);refine aA (wpAny_lookBehind hoD (by rw[hdD];exact pastItsLine_dict (cM hcD (by rw[cC,wX,gM];omega))) (aD ?_))
 refine h h' _ ((hs'.2 x hxs).trans (bQ _ hx1 rfl)) hn' fun b o hb e=>(hs'.2 b (bC (aP e))).trans ((uM _ _ _ _ hb).trans (aB _ e))
end
def exV(a C:Addr)(dx:Option Addr)(vs:Array Value):Heap->Prop:=fun h=>∃oe,h.get? a=some oe/\oe.cls=.ref C/\oe.dict=dx/\oe.data=.fields vs
section
variable{vs:Array Value}{X:Cx}{zv:List (Addr×Obj)}{σ:L2.St}{H:Hp}{s:aF}{A:bW}{E:Value->aF->Prop}{a C:Addr}{f:Str}
theorem ap9{y:V}{u:Value}{Q:Unit->aF->Prop}(I:Inv X zv σ H s)(e:H a=some (.ext (exV a C none vs)))(k:ExcK X.K C)(hs:lE X.K (.ref C) "__setattr__" = some (some (.builtin "object.__setattr__")))(hp:agc X.K C=true)(ht:mC X.K C f=some none)(ry:RelV y u)
  (h:∀d s',H d=none->Inv X zv σ (upd (upd H a (.ext (exV a C (some d) vs))) d (.xd [(f,y)])) s'->Q () s'):wpAny (model X.prog X.w) A (setAttr (.ref a) f u) Q E s:=by
 obtain⟨⟨oe,he,hc,hdn,hdt⟩,_,_⟩:=I.hok _ _ e;refine akm I.kIn ⟨he,hc,by unfold lN;rw[hdt],by rw[hdn];trivial⟩ he hc hdn hdt hs hp k.ob ht k.hd fun h' tk' e1 e2 e3 =>?_
 have hd:H s.heap.objs.size=none:=I.hok.fresh (aN _);have hda:s.heap.objs.size≠a:=fZ (aP he);have I2:=I.write (x:=a) (e:=a) (o:=.ext (exV a C (some s.heap.objs.size) vs)) (t':=tk') (h':=h') (by rw[e];trivial) (.inl rfl) (fun b u hb q=>e3 b u hb q) ⟨_,e1⟩ ⟨⟨_,e1,hc,rfl,hdt⟩,⟨_,e1⟩,fun h1 h2 p q=>by obtain⟨oe,z1,z2⟩:=p;exact⟨oe,q _ z1,z2⟩⟩
 have fp:FpX X zv (upd H a (.ext (exV a C (some s.heap.objs.size) vs))) s.heap.objs.size:=Inv.fpX I (jP (aN _)) (by rw[dj hda];exact hd)
 refine h s.heap.objs.size _ hd (Inv.track I2 fp ⟨_,e2,fun g =>?_⟩)
 by_cases q:g=f
 ·subst q;have e1:[(g,y)].lookup g=some y:=by simp[cO]
  rw[e1];show RelO (some y) (if g=g then some u else none)
  rw[if_pos rfl];exact ry
 ·have:(g==f)=false:=beq_eq_false_iff_ne.mpr q;simp[cO,this,q,RelO]
structure FldK (K:Fg9) (C:Addr) (f:Str):Prop where
 k:ExcK K C
 sa:lE K (.ref C) "__setattr__" = some (some (.builtin "object.__setattr__"))
 ov:agc K C=true
 tk:mC K C f=some none
def a0j(C:Addr)(vs:Array Value)(ta tv:TE)(f:Str):TS:=fun D σ H=>tv σ H fun y H1=>ta σ H1 fun x H2=>∃a,x=.ref a/\H2 a=some (.ext (exV a C none vs))/\∀d,H2 d=none->D.nx σ (upd (upd H2 a (.ext (exV a C (some d) vs))) d (.xd [(f,y)]))
theorem axs{o value:Expr}{ta tv:TE}{pos pos':Pos}(k:FldK X.K C f)(ha:PE X o ta)(hv:PE X value tv)(hs:lO value (some (.Attribute o f pos')) pos.line X.env=pure false):PS X (.Assign [.Attribute o f pos'] value pos) (a0j C vs ta tv f):=by
 intro zv s σ H D I h;refine plainObj_wpAny_Assign_Attribute (thn (hv zv s σ H _ I h) fun u s1 ⟨y,H1,I1,ry,q⟩=>thn (ha zv s1 σ H1 _ I1 q) fun ov s2 ⟨x,H2,I2,rx,a,ex,ea,q2⟩ =>?_) hs
 subst ex;obtain rfl:ov=cJ a:=rx;exact ap9 I2 ea k.k k.sa k.ov k.tk ry fun d s3 hd I3=>⟨σ,_,I3,q2 d hd⟩
def spI(C:Addr)(vs:Array Value)(f:Str):Sp:=fun us H Q _=>∃a i,us=[.ref a,.int i]/\H a=some (.ext (exV a C none vs))/\∀d,H d=none->Q .non (upd (upd H a (.ext (exV a C (some d) vs))) d (.xd [(f,.int i)]))
theorem azc{K:Fg9}{P:bJ}{w:World}{mg:Str->Option Value}{base:Heap}{x qual:Str}{st:Stmt}{fa:Addr}{fd:eG}{k:Nat}{p1 p2 p3 p4:Pos}(F:Fun K x qual st fa fd)(S:FnScope ["self", f] ["self", f] (aj st))(hf:FldK K C f)
  (hb:dg st=[.Assign [.Attribute (.Name "self" p1) f p2] (.Name f p3) p4]) (h1:(f==("__debug__" : Str))=false) (h2:(f==("__classdict__" : Str))=false)
  (hs:∀env,lO (.Name f p3) (some (.Attribute (.Name "self" p1) f p2)) p4.line env=pure false) (hv1:Vis (aj st) "self") (hv2:Vis (aj st) f) :
  FnOk P w K mg base CX0 (k+1) fa fd ["self", f] (spI C vs f):=by
 refine F.ok S (fun us H Q E h =>?_) fun cdv A outer s H us Q E hr h=>⟨a0j C vs (tVar 0) (tVar 1) f,?_,?_⟩
 ·obtain⟨a,i,rfl,_⟩:=h;rfl
 ·rw[hb];exact aqj (axs hf (pv 0 rfl hv1) (pv 1 rfl hv2 h1 h2) (hs _))
 ·obtain⟨a,i,rfl,e,q⟩:=h;exact⟨_,rfl,_,rfl,a,rfl,e,fun d hd=>q d hd⟩
end
end Dn
namespace Mn
open L2
section
variable{M:Model}{A:bW}{E:Value->aF->Prop}{env:Env}
variable{nm q:Str}{C N:Addr}{bs bm:List Value}{hdct:Bool}{sn:List Str}{sub:List Value}{ab:Bool}{col:Option Bool}{dd:Option Addr}{k0 k1 k2 k3 k5:Option Value}{newId:String}
theorem ag6{s:aF}{x:Sem Value}{Q:Flow->aF->Prop}(hbase:bm.contains (.type "BaseException")=true)(hh:A.handled=none)
  (h:wpAny M A x (fun v s₁=>∃e oe vs,v=.ref e/\s₁.heap.get? C=some (excClassObj nm q C N bs bm hdct sn sub ab col dd k0 k1 k2 k3 k5 newId)/\s₁.heap.get? e=some oe/\oe.cls=.ref C/\oe.data=.fields vs/\vs[1]? = some .none/\E (.ref e) s₁) E s) :
  wpAny M A (raiseStmt env (some x) none) Q E s:=by
 have hcB:(cJ C::bm).contains (.type "BaseException")=true:=by rw[List.contains_cons,hbase,Bool.or_true]
 unfold raiseStmt;refine aA (aW h (fun v s₁ h₁ =>?_) fun _ _ x=>x)
 obtain⟨e,⟨oc,od,odt,osl⟩,vs,rfl,hC,he,hc,hd,h1,hE⟩:=h₁;simp only at hc hd;subst hc hd;obtain⟨hp,g,d,tk,os⟩:=s₁
 repeat (first | with_reducible refine wpAny_loadPart_at he ?_ | with_reducible refine wpAny_loadPart_at hC ?_ | (with_reducible refine wpAny_isSubtype_exc hC ?_;rw[hcB]) | wp_step)
 rw[h1];exact aD (aD (wpAny_raiseNew_none hh hE))
end
section
variable{prog:bJ}{w:World}{A:bW}{E:Value->aF->Prop}{s:aF}{env:Env}
variable{nm q:Str}{C N:Addr}{bs bm bmB:List Value}{hdct:Bool}{sn:List Str}{sub:List Value}{ab:Bool}{col:Option Bool}{dd:Option Addr}{k0 k1 k2 k3 k5:Option Value}{B Bn newId nid initId inN:String}{bmN:List Value}
theorem aks(Fn:ExcBaseFacts Bn newId inN bmN)(hBn:bmB.contains (.type Bn)=true)(F:ExcBaseFacts B nid initId bmB){x:Str}{np cpos pos:Pos}{args:List Expr}{Q:Flow->aF->Prop}{fI:Addr}
  (hbase:bm.contains (.type "BaseException")=true) (hh:A.handled=none) (hplain:(iG cpos (aQ args env)).any (·.1)=false)
  (h:wpAny (model prog w) A (eval (.Name x np) env) (fun f s₁=>f=.ref C/\wpAny (model prog w) A (evalArgs (.ref C) true (iG cpos (aQ args env)) [])
   (fun a s₂=>a.kw=[]/\a.pos.length<=bV/\s₂.heap.get? C=some (excClassObj nm q C N bs bm hdct sn sub ab col dd k0 k1 k2 k3 k5 newId)/\(∃mN,s₂.heap.Ns N mN/\mN "__init__" = some (.ref fI))/\OwnTail s₂.heap bmB bm/\(∃oI,s₂.heap.get? fI=some oI/\oI.cls=.type "function") /\
    ∀h' e,rW s₂.heap h' e (.ref C) a.pos->wpAny (model prog w) (A.under (.builtin "type.__call__" ⟨.ref C::a.pos,[]⟩)) (call (.ref fI) (.ref e::a.pos))
     (fun r s'=>r=.none/\s'.heap.get? C=some (excClassObj nm q C N bs bm hdct sn sub ab col dd k0 k1 k2 k3 k5 newId)/\∃oe vs,s'.heap.get? e=some oe/\oe.cls=.ref C/\oe.data=.fields vs/\vs[1]? = some .none/\E (.ref e) s') E { s₂ with heap:=h' }) E s₁) E s) :
  wpAny (model prog w) A (exec (.Raise (some (.Call (.Name x np) args [] cpos)) none pos) env) Q E s:=by
 rw[arm_exec_Raise]
 first
  | refine aA (iH (ag6 (C:=C) (nm:=nm) (q:=q) (N:=N) (bs:=bs) (bm:=bm) (hdct:=hdct) (sn:=sn) (sub:=sub) (ab:=ab) (col:=col) (dd:=dd) (k0:=k0) (k1:=k1) (k2:=k2) (k3:=k3) (k5:=k5) (newId:=newId) hbase hh (aA (aW (wpAny_Call_ofName (aW h (fun f s₁ h₁ =>?_) fun _ _ x=>x)) (fun v s₃ h₃=>aA (iH (aD h₃))) fun _ _ x=>x))))
  | (simp only[evalOpt,Option.map];refine aA (iH (ag6 (C:=C) (nm:=nm) (q:=q) (N:=N) (bs:=bs) (bm:=bm) (hdct:=hdct) (sn:=sn) (sub:=sub) (ab:=ab) (col:=col) (dd:=dd) (k0:=k0) (k1:=k1) (k2:=k2) (k3:=k3) (k5:=k5) (newId:=newId) hbase hh (aA (aW (wpAny_Call_ofName (aW h (fun f s₁ h₁ =>?_) fun _ _ x=>x)) (fun v s₃ h₃=>aA (iH (aD h₃))) fun _ _ x=>x)))))
 obtain⟨rfl,h₁⟩:=h₁;unfold callWith;refine aA (dD (aW h₁ (fun a s₂ h₂=>aA (iH ?_)) fun _ _ x=>x))
 obtain⟨apos,akw⟩:=a;obtain⟨hkw,hlen,hC,⟨mN,hn,hi⟩,T,⟨oI,hfI,hfc⟩,h₂⟩:=h₂;obtain rfl:akw=[]:=hkw;obtain⟨hp,g,d,tk,os⟩:=s₂;simp only[hplain];refine aA (wpAny_keeperOf_exc hC ?_);refine aA (ao5 (hrest:=hlen) Fn hBn F T hC hn hi hfI hfc fun h' e hm=>aW (h₂ h' e hm) (fun r s' ⟨hr,hC',oe,vs,he,hc,hd,h1,hE⟩=>⟨hr,aA (dD (wpAny_point (aD ?_)))⟩) fun _ _ z=>z)
 exact⟨e,oe,vs,rfl,hC',he,hc,hd,h1,hE⟩
end
end Mn
namespace Dn
open L2 Mn
theorem ae8{H:Hp}{a b:Addr}{o:HO}(h:upd H a o b=none):H b=none:=by
 by_cases z:b=a
 ·rw[z,gq] at h;cases h
 ·rw[dj z] at h;exact h
theorem ac0{H:Hp}{a b:Addr}{φ:Heap->Prop}{u:HO}(h:upd H a (.ext φ) b=some u)(hu:∀ψ,u≠.ext ψ):H b=some u:=by
 by_cases z:b=a
 ·rw[z,gq] at h;cases h;exact absurd rfl (hu φ)
 ·rw[dj z] at h;exact h
theorem Inv.untrack{X:Cx}{zv:List (Addr×Obj)}{σ:L2.St}{H:Hp}{s:aF}{a:Addr}{φ:Heap->Prop}(I:L2.Inv X zv σ (upd H a (.ext φ)) s)(hn:H a=none):L2.Inv X zv σ H s :=
 ⟨I.ok,I.os,I.bare,⟨I.base.keep,I.base.slot,fun b o e n hx=>ae8 (I.base.free b o e n hx),I.base.there,fun b xs q=>ac0 (I.base.tups b xs q) (fun _ z=>by cases z),fun b ob u q=>ac0 (I.base.frzs b ob u q) (fun _ z=>by cases z),fun b ps q=>let ⟨more,h⟩:=I.base.tbls b ps q;⟨more,ac0 h (fun _ z=>by cases z)⟩⟩,
  I.loc,I.cell,ae8 I.free,fun x c e=>ae8 (I.freeC x c e),fun p hp=>let ⟨h1,h2,h3⟩:=I.pin p hp;⟨h1,ae8 h2,h3⟩,fun b u e=>by
   have hb:b≠a:=fun z=>by rw[z,hn] at e;cases e
   exact(I.hok b u (by rw[dj hb];exact e)).stay (fun c v _ q=>q) (fun c q=>ac0 q (fun _ z=>by cases z)) fun c xs q=>ac0 q (fun _ z=>by cases z),I.len⟩
noncomputable def aju(K:Fg9)(C fI:Addr):Bool:=match K.lookup C with
 | some ⟨.type "type", _,.cls cd,sl⟩=>(match cd.mro,sl.toList with
  | .ref C'::bm,[_,_,_,_,some (.builtin n),_]=>C'==C&&n == "ValueError.__new__" && !cd.hasDel&&PySem.W.tailIn K bmV bm&&PySem.W.nsOkIn K cd.ns&&nsIn K cd.ns "__init__" == some (some (.ref fI))&&oZ K (.ref fI)==some (.type "function")
  | _,_=>false)
 | _=>false
theorem ayh{K:Fg9}{h:Heap}{N:Addr}{mg:Str->Option Value}{n:Str}{v:Value}(X:K.In h)(G:h.Ns N mg)(e:nsIn K N n=some (some v)):mg n=some v:=by
 obtain⟨o,es,ep,ho,hd,_,hf⟩:=G;unfold nsIn at e;split at e
 ·rename_i c d es' n' sl q;have:=X _ _ q;rw[ho] at this;cases this;cases hd;split at e
  ·rename_i en he;cases e;rw[<-hf];unfold nsFind findBy;rw[<-vG,he];rfl
  ·split at e <;> cases e
 ·cases e
theorem avv{K:Fg9}{C fI:Addr}(q:aju K C fI=true) :
  ∃bm N nm qn bs hdct sn sub ab col dd k0 k1 k2 k3 k5,∀h:Heap,K.In h->h.get? C=some (excClassObj nm qn C N bs bm hdct sn sub ab col dd k0 k1 k2 k3 k5 "ValueError.__new__")/\(∃mN,h.Ns N mN/\mN "__init__" = some (.ref fI))/\OwnTail h bmV bm/\∃oI,h.get? fI=some oI/\oI.cls=.type "function" := by
 unfold aju at q;split at q
 ·rename_i dd cd sl ho;split at q
  ·rename_i C' bm k0 k1 k2 k3 n k5 hm hs;simp only[aZ,beq_iff_eq,wC] at q;obtain⟨⟨⟨⟨⟨⟨e1,e2⟩,e3⟩,e4⟩,e5⟩,e6⟩,e7⟩:=q;subst e1 e2;obtain⟨nm,bs,mro,ns,qn,hd,sn,sub,ab,col,del⟩:=cd;have hm:mro=_:=hm;have e3:del=false:=e3;subst hm e3;have z:sl = #[k0,k1,k2,k3,some (.builtin "ValueError.__new__"),k5]:=wO.mp hs;subst z;refine⟨bm,ns,nm,qn,bs,hd,sn,sub,ab,col,dd,k0,k1,k2,k3,k5,fun h X=>⟨X _ _ ho,⟨h.nsMap ns,.of_isNs (pH X e5),?_⟩,uR X e4,?_⟩⟩
   ·exact ayh X (.of_isNs (pH X e5)) e6
   ·obtain⟨o,ho2,hc2⟩:=iT.mp e7;exact⟨o,X _ _ ho2,hc2⟩
  ·cases q
 ·cases q
def acx(c f:Str)(m:M D):Sd:=dM m fun d ρ=>match d with
 | .int i=>some (.exc ⟨c,[(f,i)]⟩,ρ)
 | _=>none
section
variable{K:Fg9}{X:Cx}{c f:Str}{C fI:Addr}{fd:eG}{kk:Nat}{e1:Expr}{m:M D}{np cpos pos:Pos}
theorem aph(hcalm:X.calm=true)(hg:Gl X c)(hm:X.mg c=some (.ref C))(k:ClsOk X.K c C)(qq:aju X.K C fI=true)(Fi:∀vs,FnOk X.prog X.w X.K X.mg X.base CX0 kk fI fd ["self", f] (spI C vs f))(hb:∀s us,us.length=2->nW s fd ⟨us,[]⟩ ((["self", f]:List Str).zip us))
  (hr:Room (kk+1) X.A) (h:EV K X e1 m) (hn:NoX m) (hs:aQ [e1] X.env=(false,eval e1 X.env)::aQ [] X.env:=by rfl) (hd:(c==("__debug__" : Str))=false:=by decide) :
  XS K X (.Raise (some (.Call (.Name c np) [e1] [] cpos)) none pos) (acx c f m):=⟨fun hk hnx zv s σ H tg F ρ x ρ' I G em=>by
 have em:=u9.mp em;unfold acx dM at em;split at em
 ·rename_i d ρ1 em1;dsimp only at em;split at em
  ·rename_i i;cases em;have h:=h hk;subst hk;obtain⟨bm,N,nm,qn,bs,hdct,sn,sub,ab,col,dd,k0,k1,k2,k3,k5,hobj⟩:=avv qq;have T0:=(hobj _ I.kIn).2.2.1;refine aks (C:=C) (nm:=nm) (q:=qn) (N:=N) (bs:=bs) (bm:=bm) (hdct:=hdct) (sn:=sn) (sub:=sub) (ab:=ab) (col:=col) (dd:=dd) (k0:=k0) (k1:=k1) (k2:=k2) (k3:=k3) (k5:=k5) (fI:=fI)
    fL (by decide +kernel) fL (T0.hasType fL.hasBase) (I.ok.hd hcalm) (by rw[hs];rfl) ?_
   refine ack I hg hm ⟨rfl,?_⟩ hd;have pa:=uf h ac9 hs cpos zv s σ H (fun vs H1=>∃F1,vs=[.int i]/\Good X.K tg F1 H1 ρ' σ/\Ext (Own ρ σ) (Own ρ' σ) F H F1 H1) I ⟨tg,F,ρ,.int i,ρ',G,em1,fun v H' F' G' x' r=>by
    cases r;exact⟨F',rfl,G',x'⟩⟩
   rw[hs] at pa ⊢
   refine tY (aW pa (fun us s2 ⟨vs,H2,I2,r2,F2,ev,G2,x2⟩ =>?_) fun e s1 q=>by rw[hnx] at q;exact q.elim)
   subst ev;have hlen:us.length=1:=r2.length.symm;obtain⟨o1,o2,o3,o4⟩:=hobj _ I2.kIn;refine⟨rfl,by rw[gM];show us.length<=_;omega,o1,o2,o3,o4,fun h' e hme =>?_⟩
   obtain⟨t,he,_,_⟩:=hme.there;have hnH:H2 e=none:=by
    cases z:H2 e with
    | none=>rfl
    | some o =>
     obtain⟨ob,h1⟩:=obj_there (I2.hok e o z);have h2:s2.heap.get? e=none:=hme.new;rw[h2] at h1;cases h1
   have J:L2.Inv X zv σ H2 { s2 with heap:=h' }:=I2.kept (t':=s2.toks) hme.keeps
   have J1:L2.Inv X zv σ (upd H2 e (.ext (exV e C none #[.ref t,.none,.none,.none,.bool false,.none]))) { s2 with heap:=h' } :=
    Inv.track J (Inv.fpX I2 hme.new hnH) ⟨⟨_,he,rfl,rfl,rfl⟩,⟨_,he⟩,fun h1 h2 p q=>by obtain⟨oe,z1,z2⟩:=p;exact⟨oe,q _ z1,z2⟩⟩
   refine lX (jW ((Fi #[.ref t,.none,.none,.none,.bool false,.none]).run (X.A.under (.builtin "type.__call__" ⟨.ref C::us,[]⟩)) X.stack _ _ ⟨.ref e::us,[]⟩ (.ref e::us) [.ref e,.int i]
    (fun v H3=>v=.non/\∃d,upd H2 e (.ext (exV e C none #[.ref t,.none,.none,.none,.bool false,.none])) d=none/\H3=upd (upd (upd H2 e (.ext (exV e C none #[.ref t,.none,.none,.none,.bool false,.none]))) e (.ext (exV e C (some d) #[.ref t,.none,.none,.none,.bool false,.none]))) d (.xd [(f,.int i)]))
    (fun _ _ _=>False) (hr.make C us []) (J1.env0.make C us []) (hb _ _ (by rw[cC,hlen])) (.cons rfl r2) ⟨e,i,rfl,gq,fun d hd=>⟨rfl,d,hd,rfl⟩⟩) fun r s' z =>?_)
   cases r with
   | error er=>exact z.elim
   | ok fl =>
    cases fl with
    | ret u =>
    obtain⟨v,H3,J3,rv,rfl,d,hd,rfl⟩:=Inv.after J1 z;have hde:d≠e:=fun q=>by rw[q,gq] at hd;cases hd
    have hd2:H2 d=none:=by rw[dj hde] at hd;exact hd
    have eq:upd (upd (upd H2 e (.ext (exV e C none #[.ref t,.none,.none,.none,.bool false,.none]))) e (.ext (exV e C (some d) #[.ref t,.none,.none,.none,.bool false,.none]))) d (.xd [(f,.int i)])=upd (upd H2 d (.xd [(f,.int i)])) e (.ext (exV e C (some d) #[.ref t,.none,.none,.none,.bool false,.none])):=by
     rw[aw7]
     funext b
     unfold upd
     by_cases q1:b=d
     ·rw[if_pos q1,if_neg (fun q=>hde (q1.symm.trans q)),if_pos q1]
     ·rw[if_neg q1,if_neg q1]
    rw[eq] at J3;obtain⟨⟨oe,he2,hc2,hdx2,hdt2⟩,_⟩:=J3.hok e _ gq;have hne:upd H2 d (.xd [(f,.int i)]) e=none:=by rw[dj (fO hde)];exact hnH
    have J4:=Inv.untrack J3 hne;have rv:u=cF:=rv;refine⟨rv,(hobj _ J4.kIn).1,oe,_,he2,hc2,hdt2,rfl,σ,upd H2 d (.xd [(f,.int i)]),upd F2 d (.xd [(f,.int i)]),J4,G2.new hd2 _,x2.trans (G2.newX hd2 _),e,C,some d,[e],rfl,k,.inr ⟨d,rfl,gq⟩,⟨oe,_,he2,hc2,hdx2,hdt2,by simp,.inl ⟨rfl,rfl⟩⟩,fun b hb =>?_⟩
    obtain rfl:=cN.mp hb;exact Inv.fpX I2 hme.new hne
    | _=>exact z.elim
  ·cases em
 ·rename_i y ρ1 em1;exact absurd em1 (hn _ _ _)
 ·cases em⟩
end
theorem af3(f:Str):∀fs:List (Str×Int),(fs.map fun p=>(p.1,V.int p.2)).lookup f=(fs.lookup f).map V.int
 | []=>rfl
 | (g,i)::r=>by
  rw[aV,wM,wM];cases f==g
  ·exact af3 f r
  ·rfl
def mFld(cs:List Str)(f:Str)(m:M D):M D:=m.bind fun d=>match d with
 | .exn c fs=>if cs.contains c=true then lift ((fs.lookup f).map D.int) else lift none
 | _=>lift none
@[simp] theorem a7b(cs:List Str)(f:Str)(m:M D)(ρ:Ro):mFld cs f m ρ=(m.bind fun d=>match d with
 | .exn c fs=>if cs.contains c=true then lift ((fs.lookup f).map D.int) else lift none
 | _=>lift none) ρ:=rfl
theorem am6{K:Fg9}{X:Cx}{e:Expr}{m:M D}{cs:List Str}{f:Str}{pos:Pos}(hF:∀c C,cs.contains c=true->nsIn K aH c=some (some (.ref C))->lE K (.ref C) f=some none)(h:EV K X e m)(hb:attributeBase e f X.env (eval e X.env)=eval e X.env:=by rfl) :
  EV K X (.Attribute e f pos) (mFld cs f m):=EV.mk fun hk=>by
 intro zv s σ H Q I ⟨tg,F,ρ,d,ρ',G,em,q⟩;obtain⟨d1,ρ1,e1,em⟩:=bf em;refine azs hb (thn (h hk zv s σ H (fun x H1=>∃F1,Good K tg F1 H1 ρ1 σ/\Ext (Own ρ σ) (Own ρ1 σ) F H F1 H1/\Is K F1 d1 x) I ⟨tg,F,ρ,d1,ρ1,G,e1,fun v H' F' G' x' r=>⟨F',G',x',r⟩⟩) fun u s1 ⟨x,H1,I1,rx,F1,G1,x1,i1⟩ =>?_)
 subst hk;cases i1 with
 | @exn a C c dx fs ea hc hk hf =>
  dsimp only at em;split at em
  ·rename_i hcs;obtain⟨e2,rfl⟩:=gr em;obtain⟨i,hi,rfl⟩:=iT.mp e2;rcases hf with⟨_,rfl⟩ | ⟨d,rfl,hFd⟩
   ·cases hi
   ·obtain rfl:u=cJ a:=rx;obtain⟨⟨oe,vs,he,hcl,hdx,hdt⟩,_⟩:=I1.hok a _ (G1.sub _ _ ea);obtain⟨mA,hns,hrel⟩:=I1.hok d _ (G1.sub _ _ hFd);obtain⟨od,ho,hl⟩:=aji hns;have J:fY s1.heap a oe C (some od):=⟨he,hcl,by unfold lN;rw[hdt],by rw[hdx];exact ho⟩
    have hr:=hrel f;rw[af3,hi] at hr;cases hm:mA f with
    | none=>rw[hm] at hr;exact hr.elim
    | some v =>
     rw[hm] at hr;obtain⟨t,rfl⟩:∃t,v=.int i t:=hr
     have hfo:=PySem.W.findObj_own (od:=od) hk.hd (hF c C hcs hc) rfl (by rw[hl,hm])
     unfold getAttr;refine aA (wpAny_mkText (am5 (s:={ s1 with toks:=s1.toks+1 }) I1.kIn J hk (exc_value (s:={ s1 with toks:=s1.toks+1 }) I1.kIn J hfo ?_)))
     exact aD ⟨.int i,H1,I1.kept (t':=s1.toks+1) (fun _ _ z=>z),⟨t,rfl⟩,q _ H1 F1 G1 x1 (.int i)⟩
  ·cases em
 | _=>cases em
def azn(s:Stmt):Stmt:=match s with
 | .ClassDef _ _ _ b _ _ _ _ _ _ _=>b.getD 0 s
 | _=>s
section
variable{K:Fg9}{X:Cx}{c f:Str}{st st':Stmt}{e1:Expr}{m:M D}{np cpos pos p1 p2 p3 p4:Pos}
theorem ap0:SV K X st (acx c f m):=SV.mk fun _=>PS.imp amd fun E σ H hq0=>by
 obtain⟨tg,F,ρ,fl,ρ',G,em,q⟩:=hq0;unfold acx dM at em;split at em
 ·dsimp only at em;split at em
  ·cases em;exact(show False from q).elim
  ·cases em
 ·cases em;exact(show False from q).elim
 ·cases em
structure IniT (K:Fg9) (mg:Str->Option Value) (c f q:Str) (st:Stmt):Prop where
 ex:∃C fI fd,mg c=some (.ref C)/\ClsOk K c C/\aju K C fI=true/\FldK K C f/\Fun K "__init__" q st fI fd
theorem apg{q:Str}(hk:X.K=K)(hcalm:X.calm=true)(hg:Gl X c)(h:IniT K X.mg c f q st)(S:FnScope ["self", f] ["self", f] (aj st))(hb:dg st=[.Assign [.Attribute (.Name "self" p1) f p2] (.Name f p3) p4])(h1:(f==("__debug__" : Str))=false)(h2:(f==("__classdict__" : Str))=false)
  (hs:∀env,lO (.Name f p3) (some (.Attribute (.Name "self" p1) f p2)) p4.line env=pure false) (hv1:Vis (aj st) "self") (hv2:Vis (aj st) f)
  (hbd:∀fI fd,Fun K "__init__" q st fI fd->∀s us,us.length=2->nW s fd ⟨us,[]⟩ ((["self", f]:List Str).zip us))
  (hr:Room 2 X.A) (he:EV K X e1 m) (hn:NoX m) (hst:aQ [e1] X.env=(false,eval e1 X.env)::aQ [] X.env:=by rfl) (hd:(c==("__debug__" : Str))=false:=by decide) :
  XS K X (.Raise (some (.Call (.Name c np) [e1] [] cpos)) none pos) (acx c f m):=by
 subst hk;obtain⟨C,fI,fd,hm,k,qq,kf,F⟩:=h.ex;exact aph (kk:=1) hcalm hg hm k qq (fun vs=>azc F S kf hb h1 h2 hs hv1 hv2) (hbd fI fd F) hr he hn hst hd
theorem ao0{q:Str}(h:∀(kV doc pm:Value) (an:Option Addr) (cdv ct:Value) (us:List Value),us.length=2->bindArgs (fnOf "__init__" q (fc st) (dg st) (aj st) .none kV doc pm an cdv ct) ⟨us,[]⟩=pure ((["self", f]:List Str).zip us)) :
  ∀fI fd,Fun K "__init__" q st fI fd->∀s us,us.length=2->nW s fd ⟨us,[]⟩ ((["self", f]:List Str).zip us):=fun fI fd F s us hl=>by
 obtain⟨oc,od,kV,doc,pm,an,cdv,ct,osl,rfl,lk,hcd⟩:=F.ex;exact .of_eq (h kV doc pm an cdv ct us hl)
noncomputable def ayy(K:Fg9)(C fI:Addr)(f:Str):Bool:=aju K C fI&&(lE K (.ref C) "__setattr__" == some (some (.builtin "object.__setattr__")))&&agc K C&&(mC K C f==some none)
theorem avl{h:Heap}{mg:Str->Option Value}{ns:List Str}{q:Str}{C fI:Addr}{fd:eG}(X:K.In h)(G:h.Ns aH mg)(e:anc K ns=true)(hc:ns.contains c=true)(aC:nsIn K aH c=some (some (.ref C)))(e2:ayy K C fI f=true)(F:Fun K "__init__" q st fI fd):IniT K mg c f q st:=by
 obtain⟨C',h1,h2⟩:=su X G e hc;have z:=h2.ns.symm.trans aC;cases z;unfold ayy at e2;simp only[aZ,beq_iff_eq] at e2;obtain⟨⟨⟨a1,a2⟩,a3⟩,a4⟩:=e2;exact⟨C,fI,fd,h1,h2,a1,⟨h2.ok,a2,a3,a4⟩,F⟩
def azd(K:Fg9)(cs:List Str)(f:Str):Bool:=cs.all fun c=>match clsAt K c with
 | some C=>lE K (.ref C) f==some none
 | none=>false
theorem afc{cs:List Str}(h:azd K cs f=true):∀c C,cs.contains c=true->nsIn K aH c=some (some (.ref C))->lE K (.ref C) f=some none:=fun c C hc hn=>by
 have z:=dX.mp h c (dO.mp hc);rw[adw hn] at z;exact beq_iff_eq.mp z
end
end Dn
namespace Stt
open PySem
def Rise(t:cL):Prop:=t.place.toList.Pairwise (· < ·)
theorem Rise.lt{t:cL}(h:Rise t){i j:Nat}{x y:Nat}(hij:i < j)(hx:t.place[i]? = some x)(hy:t.place[j]? = some y):x < y:=by
 obtain⟨hi,rfl⟩:=dZ.mp hx;obtain⟨hj,rfl⟩:=dZ.mp hy;have:=List.pairwise_iff_getElem.mp h i j (by simpa using hi) (by simpa using hj) hij
 simpa using this
def Cut(xs:Array Nat)(j p:Nat):Prop:=p<=xs.size/\(∀i x,i < p->xs[i]? = some x->x < j)/\∀i x,p<=i->xs[i]? = some x->j<=x
theorem aio{xs:Array Nat}(hs:xs.toList.Pairwise (· < ·))(j:Nat):∀(fuel lo hi:Nat),hi - lo<=fuel->lo<=hi->hi<=xs.size->(∀i x,i < lo->xs[i]? = some x->x < j)->(∀i x,hi<=i->xs[i]? = some x->j<=x) ->
  Cut xs j (vJ xs j fuel lo hi)
 | 0,lo,hi,hf,hle,hsz,a,b=>by
  have:lo=hi:=by omega
  subst this;exact⟨hsz,a,b⟩
 | fuel+1,lo,hi,hf,hle,hsz,a,b=>by
  unfold vJ;split
  ·rename_i hlt;dsimp only;have hm:(lo+hi) / 2 < xs.size:=by omega
   have hg:xs.getD ((lo+hi) / 2) j=xs[(lo+hi) / 2]:=by simp[wG,hm]
   have hx:xs[(lo+hi) / 2]? = some (xs[(lo+hi) / 2]):=by simp[hm]
   rw[hg]
   by_cases hc:xs[(lo+hi) / 2] < j
   ·rw[if_pos hc];refine aio hs j fuel ((lo+hi) / 2+1) hi (by omega) (by omega) hsz (fun i x hi' hx' =>?_) b
    rcases iY i ((lo+hi) / 2) with h | h
    ·exact fB (Rise.lt (t:={ mask:=0,place:=xs,dummies := #[],finger:=0,led:=true,moves:=0,plain:=true }) hs h hx' hx) hc
    ·have:i=(lo+hi) / 2:=by omega
     subst this;rw[hx] at hx';cases hx';exact hc
   ·rw[if_neg hc];refine aio hs j fuel lo ((lo+hi) / 2) (by omega) (by omega) (by omega) a (fun i x hi' hx' =>?_)
    rcases iY ((lo+hi) / 2) i with h | h
    ·exact cM (nD.mp hc) (mJ (Rise.lt (t:={ mask:=0,place:=xs,dummies := #[],finger:=0,led:=true,moves:=0,plain:=true }) hs h hx hx'))
    ·have:i=(lo+hi) / 2:=by omega
     subst this;rw[hx] at hx';cases hx';omega
  ·have:lo=hi:=by omega
   subst this;exact⟨hsz,a,b⟩
theorem ags{xs:Array Nat}(hs:xs.toList.Pairwise (· < ·))(j:Nat):Cut xs j (eN xs j) :=
 aio hs j xs.size 0 xs.size (by omega) (gA _) (aN _) (fun i x h _=>absurd h (oH _)) fun i x h hx=>by
  obtain⟨h',_⟩:=dZ.mp hx;omega
theorem ao6{t:cL}(h:Rise t):eN t.place 0=0:=by
 obtain⟨hp,a,b⟩:=ags h 0;rcases pK (eN t.place 0) with h0 | h0
 ·exact h0
 ·have h1:0 < t.place.size:=by omega
  exact absurd (a 0 t.place[0] h0 (by simp[h1])) (oH _)
theorem ao7{t:cL}(h:Rise t){i x:Nat}(hx:t.place[i]? = some x):eN t.place (x+1)=i+1:=by
 obtain⟨hp,a,b⟩:=ags h (x+1);rcases Nat.lt_trichotomy (eN t.place (x+1)) (i+1) with h1 | h1 | h1
 ·have:=b i x (by omega) hx
  omega
 ·exact h1
 ·have h2:i+1 < t.place.size:=by omega
  have h3:t.place[i+1]? = some t.place[i+1]:=by simp[h2]
  have:=a (i+1) _ h1 h3;have:=h.lt (jU i) hx h3;omega
theorem akr{t:cL}(h:Rise t){j:Nat}(hj:t.place[eN t.place j]? ≠ some j):(SetTable.insertAt t.place (eN t.place j) j).toList.Pairwise (· < ·):=by
 obtain⟨hp,a,b⟩:=ags h j;rw[SetTable.toList_insertAt];generalize hq:eN t.place j=p at *;rw[List.pairwise_append];refine⟨List.Pairwise.sublist (vP _ _) h,?_,?_⟩
 ·rw[gH];refine⟨fun y hy =>?_,oN (List.drop_sublist _ _) h⟩
  obtain⟨i,hi,rfl⟩:=lR.mp hy;rw[iM,bH] at hi;rw[vU,oX];have h1:t.place[p+i]? = some t.place[p+i]:=by simp
  have h2:=b (p+i) _ (by omega) h1
  rcases Nat.eq_or_lt_of_le h2 with e | e
  ·exfalso;rcases pK i with z | z
   ·subst z;exact hj (by rw[e];exact h1)
   ·have h3:t.place[p]? = some t.place[p]:=by simp
    have h4:=h.lt (show p < p+i by omega) h3 h1
    have h5:=b p _ (aN _) h3;omega
  ·exact e
 ·intro x hx y hy;have hxj:x < j:=by
   obtain⟨i,hi,rfl⟩:=lR.mp hx;rw[fJ,bH] at hi;rw[List.getElem_take,oX];exact a i _ (by omega) (by simp)
  rcases bF.mp hy with rfl | hy
  ·exact hxj
  ·obtain⟨i,hi,rfl⟩:=lR.mp hy;rw[iM,bH] at hi;rw[vU,oX];have:=b (p+i) t.place[p+i] (by omega) (by simp)
   omega
def Away(t:cL)(j:Nat):Prop:=t.place[eN t.place j]? ≠ some j
theorem aiu{t:cL}{j:Nat}(h:∀i,t.slot j≠.live i):Away t j:=fun e=>h (eN t.place j) (by
 unfold SetTable.slot;dsimp only;rw[if_pos (by rw[e];exact beq_self_eq_true _)])
theorem ad5{t:cL}{f:Nat->Int}{h:Int}:∀(fuel:Nat) (p:xO) (j:Nat) (d:Option Nat),(∀x,p.dummy=some x->Away t x)->vI t f h fuel p=some (.empty j d)->Away t (d.getD j)
 | 0,p,j,d,_,e=>by cases e
 | fuel+1,p,j,d,hd,e=>by
  unfold vI at e;have adv:∀q:xO,(t.advance q).dummy=q.dummy:=fun q=>by unfold SetTable.advance;split <;> rfl
  split at e
  ·rename_i hs;cases e;cases hq:p.dummy with
   | none=>exact aiu fun i z=>by rw[qO,hs] at z;cases z
   | some x=>exact hd x hq
  ·rename_i hs;refine ad5 fuel _ j d (fun x hx =>?_) e
   rw[adv] at hx;cases hx;exact aiu fun i z=>by rw[hs] at z;cases z
  ·split at e
   ·cases e
   ·exact ad5 fuel _ j d (fun x hx=>by rw[adv] at hx;exact hd x hx) e
theorem ar6{t:cL}{h:Int}{j:Nat}{b:Bool}(e:t.freeSlot h=some (j,b)):Away t j:=by
 unfold SetTable.freeSlot at e;split at e
 ·rename_i j' d hp;cases e;exact ad5 _ _ j' d (fun x hx=>by cases hx) hp
 ·cases e
theorem aoi(n:Nat):(Array.range n).toList.Pairwise (· < ·):=by
 rw[Array.toList_range];exact sZ
def Kept(b:Bool)(t:cL):Prop:=Rise t/\t.led=b
theorem Kept.standIn{b:Bool}{t:cL}(h:Kept b t)(n:Nat):Kept b (t.standIn n):=⟨aoi n,h.2⟩
theorem ala{b:Bool}{t:cL}(h:Kept b t)(es:Array (Int×Value))(k:Int)(x:Value):Kept b (layNew t es k x).2.1:=by
 unfold layNew;split
 ·rename_i slot wd e;dsimp only;have h':Kept b (t.put slot).1:=⟨akr h.1 (ar6 e),h.2⟩;unfold SetTable.orStandIn;split
  ·exact h'
  ·exact h'.standIn _
 ·exact h.standIn _
theorem arc{m f mv:Nat}{b p:Bool}{hs:Array Int}{t:cL}{o:Array Nat}(e:xX m f mv b p hs=some (t,o)):Kept b t:=by
 unfold xX at e;cases e1:SetTable.layClean m hs with
 | none=>rw[e1] at e;cases e
 | some ow =>
  rw[e1] at e;cases e;refine⟨?_,rfl⟩;show List.Pairwise _ _;dsimp only;have h0:((aJ (m+1)).filterMap fun j=>(ow.getD j none).map (j,·)).map (·.1)=(aJ (m+1)).filter fun j=>(ow.getD j none).isSome:=by
   generalize aJ (m+1)=l
   induction l with
   | nil=>rfl
   | cons a r ih =>
    cases h:ow.getD a none with
    | none=>simp only[gD,wN,h,Option.map_none,Option.isSome_none];simpa using ih
    | some z=>simp only[gD,wN,h,Option.map_some,Option.isSome_some,aV];simpa using ih
  rw[h0];exact oN uJ sZ
theorem aof{b:Bool}{t:cL}(h:Kept b t)(es:Array (Int×Value))(n:Nat):Kept b (relayAll t es n).2.1:=by
 unfold relayAll;split
 ·rename_i t' o e;dsimp only;split
  ·have:=arc e;rw[h.2] at this;exact this
  ·exact h.standIn _
 ·exact h.standIn _
theorem ao1(b:Bool):Kept b (.fresh 0 0 b):=⟨List.Pairwise.nil,rfl⟩
open PySem.Spec PyProof.Rows
def keyE(e:Int×Value):Int:=match e.2 with
 | .int k _=>k
 | _=>0
def Ent(e:Int×Value):Prop:=∃k u,e=(pB k,mY k u)
structure SetG (w:World) (es:Array (Int×Value)) (t:cL) (ns:List Int):Prop where
 ent:∀e∈es.toList,Ent e
 nd:(es.toList.map keyE).Nodup
 mem:∀k,k∈es.toList.map keyE↔k∈ns
 fit:t.fits es.size=true
 kept:Kept (!w.params.followText "set-order") t
def setO(es:Array (Int×Value))(ep:Nat)(t:cL):Obj:={ cls:=.type "set", dict:=none,data:=.set es ep t }
theorem SetG.elems{prog:bJ}{w:World}{es:Array (Int×Value)}{t:cL}{ns:List Int}(g:SetG w es t ns):ElemsOf (pA prog w) es.toList:=fun e he=>by
 obtain⟨k,u,rfl⟩:=g.ent e he;exact⟨⟨k,intKind_is _ _ _ _,rfl⟩,rfl⟩
theorem SetG.empty(w:World):SetG w #[] (.fresh 0 0 (!w.params.followText "set-order")) []:=⟨fun e he=>by simp at he,vV,fun k=>by simp,rfl,ao1 _⟩
theorem asi{e:Int×Value}(h:Ent e)(k:Int):uC k e.2=true↔keyE e=k:=by
 obtain⟨j,u,rfl⟩:=h;simp[uC,keyE]
theorem SetG.push{w:World}{es es':Array (Int×Value)}{t t':cL}{ns:List Int}{k:Int}{u:Tok}(g:SetG w es t ns)(hn:k∉es.toList.map keyE)(hp:es'.toList.Perm (es.push (pB k,.int k u)).toList)(hf:t'.fits es'.size=true)
  (hk:Kept (!w.params.followText "set-order") t'):SetG w es' t' (ns++[k]):=by
 rw[wF] at hp;have hm:=hp.map keyE;rw[cI] at hm;refine⟨fun e he =>?_,?_,fun j =>?_,hf,hk⟩
 ·rcases cZ.mp (hp.mem_iff.mp he) with h | h
  ·exact g.ent e h
  ·rw[cN] at h;exact⟨k,u,h⟩
 ·rw[hm.nodup_iff,vR];refine⟨g.nd,by simp,fun a ha b hb e =>?_⟩
  simp only[aV,qG,cN] at hb;subst hb;subst e;exact hn ha
 ·rw[hm.mem_iff,cZ,cZ,g.mem j];rfl
theorem SetG.perm{w:World}{es es':Array (Int×Value)}{t t':cL}{ns:List Int}(g:SetG w es t ns)(hp:es'.toList.Perm es.toList)(hf:t'.fits es'.size=true)(hk:Kept (!w.params.followText "set-order") t'):SetG w es' t' ns :=
 ⟨fun e he=>g.ent e (hp.mem_iff.mp he),(hp.map keyE).nodup_iff.mpr g.nd,fun k=>by rw[(hp.map keyE).mem_iff,g.mem k],hf,hk⟩
section
variable{prog:bJ}{w:World}{A:bW}{E:Value->aF->Prop}{s:aF}
theorem al8{h:Heap}{a:Addr}{es es':Array (Int×Value)}{ep:Nat}{t t':cL}(ho:h.get? a=some (setO es ep t)):(h.update a (vN es' t')).get? a=some (setO es' (ep+1) t'):=by
 have:=bQ (vN es' t') ho (by rw[putSet_of es' t' (o:=setO es ep t) rfl];rfl)
 rw[putSet_of es' t' (o:=setO es ep t) rfl] at this;exact this
theorem aw3{a:Addr}{es es1:Array (Int×Value)}{ep:Nat}{t t2:cL}{ns:List Int}(g:Bool->Sem Unit)(hg:∀(b:Bool) (s₁:aF) (Q':Unit->aF->Prop),Q' () s₁->wpAny (model prog w) A (g b) Q' E s₁)
  (ho:s.heap.get? a=some (setO es ep t)) (G:SetG w es1 t2 ns) (hb:es1.size < mW) {wasDummy:Bool} {R:Option Bool->aF->Prop}
  (h:∀h' es' ep' t',fG a s.heap h'->h'.get? a=some (setO es' ep' t')->SetG w es' t' ns->es'.size=es1.size->R (some true) { s with heap:=h' }) :
  wpAny (model prog w) A (do
    storeSet a es1 t2
    if (!wasDummy&&t2.tooFull)=true then do
      g (relayAll t2 es1 (mR es1.size)).2.2
      storeSet a (relayAll t2 es1 (mR es1.size)).1 (relayAll t2 es1 (mR es1.size)).2.1
      pure (some true)
     else pure (some true)) R E s:=by
 refine aA (wpAny_storeSet_of ho rfl ?_ (fits_of_scanBound hb));have h1:=al8 (es':=es1) (t':=t2) ho;have b1:=cP s.heap a (vN es1 t2);split
 ·have hp:=relayAll_perm t2 es1 (mR es1.size);have hsz:(relayAll t2 es1 (mR es1.size)).1.size=es1.size:=by rw[<-bH,hp.length_eq,bH]
  refine aA (hg _ _ _ ?_);refine aA (wpAny_storeSet_of h1 rfl ?_ (fits_of_scanBound (by rw[hsz];exact hb)))
  exact aD (h _ _ _ _ (b1.trans (cP _ a _)) (al8 h1) (G.perm hp (relayAll_fits _ _ _) (aof G.kept _ _)) hsz)
 ·exact aD (h _ _ _ _ b1 h1 G rfl)
theorem a3r{a:Addr}{es:Array (Int×Value)}{ep:Nat}{t:cL}{ns:List Int}{k:Int}{u:Tok}{Q:Bool->aF->Prop}(ho:s.heap.get? a=some (setO es ep t))(G:SetG w es t ns)(hb:es.size+1 < mW)
  (h:∀h' es' ep' t' b,fG a s.heap h'->h'.get? a=some (setO es' ep' t')->SetG w es' t' (ns++[k])->es'.size<=es.size+1->Q b { s with heap:=h' }) :
  wpAny (model prog w) A (setAddHashed a (.int k u) (pB k)) Q E s:=by
 have hel:ElemsOf (pA prog w) es.toList:=G.elems;have hkey:(pA prog w).is k (.int k u)=true:=intKind_is _ _ _ _;unfold setAddHashed setAddHashedIn;refine dD (aA (wpAny_setState_of ho rfl G.fit ?_));dsimp only;rw[byScan_of (knd:=pA prog w) rfl (by omega) hel]
 simp only[↓reduceIte];unfold setAddByScan;refine aA ?_;refine aA (jV ?_);refine aA (wpAny_setScan_of (knd:=pA prog w) hkey ho rfl G.fit hel ?_);cases hr:pL (fun e=>(pA prog w).is k e.2) es.toList with
 | some j =>
  dsimp only;obtain⟨hj,hpj,_⟩:=kZ.mp hr;have hin:k∈es.toList.map keyE:=cR.mpr ⟨_,fV hj,(asi (G.ent _ (fV hj)) k).mp hpj⟩;refine aD (aD ?_);refine h s.heap es ep t _ (vX a s.heap) ho ⟨G.ent,G.nd,fun j' =>?_,G.fit,G.kept⟩ (by omega)
  rw[cZ,cN,G.mem j'];exact⟨.inl,fun z=>z.elim id fun z=>z▸(G.mem k).mp hin⟩
 | none =>
  dsimp only;have hout:k∉es.toList.map keyE:=fun z=>by
   obtain⟨e,he,hk⟩:=cR.mp z;have h1:=rR.mp hr e he;have h2:(pA prog w).is k e.2=true:=(asi (G.ent e he) k).mpr hk;rw[h2] at h1;cases h1
  have hgw:∀(b:Bool) {s₁:aF} {Q':Unit->aF->Prop},Q' () s₁->wpAny (model prog w) A (match b with | true=>rule "set.scan.the-table-gave-way" | false=>pure ()) Q' E s₁ :=
   fun b s₁ Q' hq=>by cases b <;> first | exact aD hq | exact jV hq
  have hperm:=layNew_perm t es (pB k) (.int k u);have hfits:=layNew_fits t es (pB k) (.int k u);have hkept:=ala G.kept es (pB k) (.int k u);show wpAny (model prog w) A _ _ _ _
  change wpAny (model prog w) A (match layNew t es (pB k) (.int k u) with | (es,t,wasDummy,gave)=>_) _ _ _
  generalize hL:layNew t es (pB k) (.int k u)=L at hperm hfits hkept ⊢
  obtain⟨es1,t1,wasDummy,gave⟩:=L;dsimp only at hperm hfits hkept ⊢
  have G1:=G.push hout hperm hfits hkept;have hsz1:es1.size=es.size+1:=by rw[<-bH,hperm.length_eq,bH,Array.size_push]
  refine aA (hgw _ ?_);split
  ·refine aA ?_;rw[hashByValue_scannable 8 rfl];refine aD ?_;refine aw3 _ ?_ ho (ns:=ns++[k]) ?_ (by omega) ?_
   ·intro b s₁ Q' hq;cases b <;> first | exact aD hq | exact jV hq
   ·exact G1
   ·intro h' es' ep' t' hsb ho' G' hz;exact aD (h h' es' ep' t' _ hsb ho' G' (by omega))
  ·refine aA (aD ?_);simp only[↓reduceIte];refine aw3 _ ?_ ho (ns:=ns++[k]) G1 (by omega) ?_
   ·intro b s₁ Q' hq;cases b <;> first | exact aD hq | exact jV hq
   ·intro h' es' ep' t' hsb ho' G' hz;exact aD (h h' es' ep' t' _ hsb ho' G' (by omega))
end
section
variable{prog:bJ}{w:World}{A:bW}{R:Result->aF->Prop}{I:Addr}{fp wr:List Addr}{G:Array GenState->Array GenState->Prop}{n:Nat}{P:Nat->Value->Prop}{St:Nat->aF->Prop}
theorem aw8(W:WalksS prog w A.in1 I fp wr G n P St)(S:Addr)(hSf:S∉fp)(val:Nat->Int)(hval:∀i v,P i v->∃t,v=.int (val i) t)(hb:n+1 < mW) :
  ∀(k i:Nat) (s:aF) (es:Array (Int×Value)) (ep:Nat) (t:cL),n - i=k->i<=n->St i s->s.heap.get? S=some (setO es ep t)->SetG w es t ((aJ i).map val)->es.size<=i ->
   (∀s' es' ep' t',Moved (S::wr) G s s'->s'.heap.get? S=some (setO es' ep' t')->SetG w es' t' ((aJ n).map val)->es'.size<=n->R (.ok (.ret .none)) s') ->
   nJ (model prog w) A (.builtin "set.update.loop" ⟨[.ref S,.ref I],[]⟩) R s:=by
 have hSw:S∉wr:=fun h=>hSf (W.sub _ h)
 have hsub:∀b∈wr,b∈S::wr:=fun b hb=>aX _ hb
 intro k
 induction k with
 | zero =>
  intro i s es ep t hk hi hst ho g hz hR;have hin:i=n:=by omega
  subst hin;refine codeAny_builtin sY ?_;rw[jQ nU _];show wpAny _ A.in1 (mX (.ref I) >>= _) _ _ s;refine aA (W.done s _ _ hst fun s' hm =>?_)
  show wpAny _ A.in1 (ret cF) _ _ s';exact aD (hR s' es ep t (hm.mono hsub) (hm.heap S _ hSw ho) g hz)
 | succ k ih =>
  intro i s es ep t hk hi hst ho g hz hR;have hlt:i < n:=by omega
  refine codeAny_builtin sY ?_;rw[jQ nU _];show wpAny _ A.in1 (mX (.ref I) >>= _) _ _ s;refine aA (W.item i s _ _ hlt hst fun v s' hP hst' hm =>?_)
  obtain⟨u,rfl⟩:=hval i v hP;have ho':s'.heap.get? S=some (setO es ep t):=hm.heap S _ hSw ho;show wpAny _ A.in1 (mQ [mY (val i) u] (setAdd S (.int (val i) u)) >>= _) _ _ s';refine aA (dD ?_);unfold setAdd;refine dD ?_;refine aA ((pA prog w).pyHash (k:=val i) (intKind_is _ _ _ _) ?_);refine a3r (s:={ s' with toks:=s'.toks+1 }) (u:=u) (k:=val i) ho' g (by omega) fun h' es' ep' t' b hsb ho2 g2 hz2 =>?_
  have g3:SetG w es' t' ((aJ (i+1)).map val):=by
   rw[gC,cI];exact g2
  refine aD ⟨plainId_quiet nU _,ih (i+1) _ es' ep' t' (by omega) hlt (W.frame _ s' _ _ hst' (lJ _) fun b hb o e =>?_) ho2 g3 (by omega) fun s'' es'' ep'' t'' hm'' ho'' g'' hz'' =>?_⟩
  ·rw[hsb.2 b (fun h:b=S=>hSf (by rw[<-h];exact hb))];exact e
  ·refine hR s'' es'' ep'' t'' (Moved.trans W.gtrans ((hm.mono hsub).then_heap (lJ _) fun b o hb e =>?_) hm'') ho'' g'' hz''
   rw[hsb.2 b (fun h:b=S=>hb (by rw[h];exact bB))];exact e
end
theorem sub_tuple_set:isSubtype (.type "tuple") (.type "set")=pure false:=by rw[isSubtype_type];kernel_rfl
theorem sub_tuple_frozenset:isSubtype (.type "tuple") (.type "frozenset")=pure false:=by rw[isSubtype_type];kernel_rfl
section
variable{prog:bJ}{w:World}{A:bW}{E:Value->aF->Prop}{s:aF}
abbrev fresh0(w:World):Obj:=setO #[] 0 (.fresh 0 0 (!w.params.followText "set-order"))
theorem ayj(a:Value){Q₁:Value->aF->Prop}(h:Q₁ (.ref s.heap.objs.size) { s with heap:=s.heap.push (fresh0 w) }) :
  nJ (model prog w) A (.call (.builtin "set.__new__") ⟨[.type "set", a],[]⟩) (wants Q₁ E) s:=by
 refine codeAny_of_tree ?_;show wpAny _ A.in1 (do checkBuiltinCall "set.__new__" ⟨[.type "set", a],[]⟩;again (.builtin "set.__new__" ⟨[.type "set", a],[]⟩)) _ _ s
 refine aA (wpAny_of_eq (F.newCall_set_1 a) (aD ⟨plainId_quiet xM _,codeAny_builtin F.entry_set_new ?_⟩));rw[jQ xM _];unfold iU.«set.__new__» Builtin.Frozenset.newClass;have hsub:=sub_set_self;obtain⟨hp,g,d,tk,os⟩:=s;dsimp only;wp_walk;refine wpAny_askSetting (aD ?_);dsimp only;simp only[newObj];refine aA (wpAny_alloc (aD ?_));exact aD h
set_option maxRecDepth 100000 in
set_option maxHeartbeats 3200000 in
theorem a0h{l:Addr}{items:Array Value}{ns:List Int}{Q:Value->aF->Prop}(hh:A.handled=none)(hl:s.heap.IsTuple l items)(hi:nT items.toList ns)(hb:items.size+1 < mW)
  (h:∀(h':Heap) (tk:Nat) es ep t,h'.get? s.heap.objs.size=some (setO es ep t)->SetG w es t ns->es.size<=items.size->(∀b o,s.heap.get? b=some o->h'.get? b=some o)->Q (.ref s.heap.objs.size) { s with heap:=h',toks:=tk }) :
  wpAny (model prog w) A (call (.type "set") [.ref l]) Q E s:=by
 obtain⟨c,tl,hmro⟩:=jZ.mro;have hmade:=jZ.made;have hsub:=jZ.sub;refine lX (codeAny_of_tree ?_);show wpAny _ _ (callAny (.type "set") _) _ _ _;refine aD ⟨Code.quiet_builtin _ (by decide +kernel),codeAny_builtin F.entry_type_call ?_⟩
 rw[Around.under_plain (weight_type_call_type "set" [.ref l] []) rfl];have h1:=jZ.notType;have h2:=jZ.canCreate;have hct:=F.typeCall_set_1 (.ref l)
 repeat (any_goals (first | assumption | wp_step))
 refine jW (ayj (.ref l) (E:=E) (Q₁:=fun obj s₁=>obj=.ref s.heap.objs.size/\s₁={ s with heap:=s.heap.push (fresh0 w) }) ⟨rfl,rfl⟩) fun r s₁ hr =>?_
 cases r with
 | error e=>exact hr
 | ok fl =>
  cases fl with
  | ret obj =>
   obtain⟨rfl,rfl⟩:=hr;have hS:(s.heap.push (fresh0 w)).get? s.heap.objs.size=some (fresh0 w):=aL _ rfl;have hT:Shared.TypeIs { s with heap:=s.heap.push (fresh0 w) } (.ref s.heap.objs.size) "set" := ⟨_,hS,rfl⟩
   have hli:=jZ.init.lookup;have hbi:=jZ.init.bind (.ref s.heap.objs.size)
   repeat (any_goals (first | assumption | wp_step))
   refine jW (codeAny_call_builtin (R:=wants (fun r s₂=>r=.none/\∃h' tk es ep t,s₂={ s with heap:=h',toks:=tk }/\h'.get? s.heap.objs.size=some (setO es ep t)/\SetG w es t ns/\es.size<=items.size /\
     (∀b o,s.heap.get? b=some o->h'.get? b=some o)) E) jZ.init.plain F.entry_set_init (check_set_init_1 hT ?_)) fun r₂ s₂ hr₂ =>?_
   ·obtain⟨ol,hol,hcl,nl,hdl⟩:=hl;obtain⟨ocls,odict,odata,oslots⟩:=ol;simp only at hcl hdl;subst hcl;subst hdl;have hol':(s.heap.push (fresh0 w)).get? l=some { cls:=.type "tuple", dict:=odict,data:=.seq items nl,slots:=oslots }:=aB _ hol;have hsls:=sub_tuple_set;have hslf:=sub_tuple_frozenset;have hne:(iR "tuple" == iR "dict")=false:=by decide
    have hl1:(s.heap.push (fresh0 w)).IsTuple l items:=⟨_,hol',rfl,nl,rfl⟩;unfold iU.«set.__init__» noKeywords Builtin.Frozenset.updateFrom;generalize hPI:pyIter=PI;wp_walk;subst hPI;refine wpAny_pyIter_tuple hl1 ?_;refine aA (wpAny_runValue ?_);have hlS:l < s.heap.objs.size:=aP hol;have hh3:A.in1.in1.in1.handled=none:=by simp[hh]
    have hneI:l≠(s.heap.push (fresh0 w)).objs.size:=by
     rw[cB];exact bC (qD hlS)
    have hSf:s.heap.objs.size∉[(s.heap.push (fresh0 w)).objs.size,l]:=by
     rw[cB];simp only[bF,cN,eV,or_false,not_or];exact⟨Nat.ne_of_lt (jU _),fZ hlS⟩
    have hval:∀(i:Nat) (v:Value),items[i]? = some v->∃t,v=.int ((fun i=>ns.getD i 0) i) t:=fun i v hv =>
     PyProof.Rows.IntsAre.int_at hi i v (by rw[oR];exact hv)
    have hlen:items.size=ns.length:=by rw[<-bH];exact hi.length
    have hns:(aJ items.size).map (fun i=>ns.getD i 0)=ns:=by
     rw[hlen];apply qQ
     ·simp
     ·intro i h1 h2;simp[cT,h2]
    refine aw8 ((Walks.tuple hh3 _ l hneI items).toS) s.heap.objs.size hSf (fun i=>ns.getD i 0) hval hb (items.size - 0) 0 _ #[] 0 _ (by omega) (gA _)
     ⟨⟨_,aL _ rfl,rfl,rfl⟩,(hl1.push _)⟩ (aB _ hS) (SetG.empty w) (gA _) ?hR
    case hR =>
     intro s' es ep t hm ho' g' hz';rw[hns] at g';obtain⟨h',g₀,d',tk',os'⟩:=s';have eg:g₀=s.gens:=hm.gens;have ed:d'=s.drawn:=hm.drawn;have eo:os'=s.os:=hm.os;subst eg;subst ed;subst eo;show wpAny _ _ _ _ _ _;refine aD ?_;show wpAny _ _ (ret cF) _ _ _;refine aD ⟨rfl,h',tk',es,ep,t,rfl,ho',g',hz',fun b o e =>?_⟩
     have hlt:=aP e;have hb1:b≠s.heap.objs.size:=bC hlt;have hb2:b≠(s.heap.push (fresh0 w)).objs.size:=by
      rw[cB];exact bC (qD hlt)
     exact hm.heap b o (by simp only[bF,cN,eV,or_false,not_or];exact⟨hb1,hb2⟩) (aB _ (aB _ e))
   ·cases r₂ with
    | error e=>exact hr₂
    | ok fl₂ =>
     cases fl₂ with
     | ret r =>
      obtain⟨rfl,h',tk,es,ep,t,rfl,hS',g',hz',hk'⟩:=hr₂
      repeat (any_goals (first | assumption | wp_step))
      exact h _ _ _ _ _ hS' g' hz' hk'
     | _=>exact hr₂.elim
  | _=>exact hr.elim
end
theorem agy:entryFor table "set.__iter__" = some iU.«frozenset.__iter__» :=
 entryFor_alias (id' := "frozenset.__iter__") (by kernel_rfl) rfl (by decide +kernel) (by kernel_rfl)
theorem jc:Slot "set_iterator" "__next__" "set_iterator.__next__" :=
 .of (owner := "set_iterator") (n := "__next__") (by rw[typeLookup_type,builtinLookup_eq_fast];kernel_rfl) (by decide +kernel) (by decide +kernel) (by decide +kernel)
  (by first | exact .inl (by decide +kernel) | exact .inr (by decide +kernel)) (by rw[isSubtype_type];kernel_rfl)
theorem xj:entryFor table "set_iterator.__next__" = some iU.«set_iterator.__next__» := entryFor_of_tree (by kernel_rfl)
theorem aep:Slot "set_iterator" "__iter__" "set_iterator.__iter__" :=
 .of (owner := "set_iterator") (n := "__iter__") (by rw[typeLookup_type,builtinLookup_eq_fast];kernel_rfl) (by decide +kernel) (by decide +kernel) (by decide +kernel)
  (by first | exact .inl (by decide +kernel) | exact .inr (by decide +kernel)) (by rw[isSubtype_type];kernel_rfl)
theorem ail:entryFor table "set_iterator.__iter__" = some iU.«dict_keyiterator.__iter__» :=
 entryFor_alias (id' := "dict_keyiterator.__iter__") (by kernel_rfl) rfl (by decide +kernel) (by kernel_rfl)
theorem amg:Manifest.owners.lookup (String.ofList ['r','o','t','a','r','e','t','i','_','t','e','s'].reverse)=some Manifest.sig_set_iterator:=by kernel_rfl
theorem zr(a:Value):argsOk "set_iterator.__next__" ⟨[a],[]⟩:=by
 unfold argsOk;rw[signature?_of (id := "set_iterator.__next__") (n:=['_','_','t','x','e','n','_','_']) (o:=['r','o','t','a','r','e','t','i','_','t','e','s']) (by kernel_rfl) amg];kernel_rfl
theorem akg(a:Value):argsOk "set_iterator.__iter__" ⟨[a],[]⟩:=by
 unfold argsOk;rw[signature?_of (id := "set_iterator.__iter__") (n:=['_','_','r','e','t','i','_','_']) (o:=['r','o','t','a','r','e','t','i','_','t','e','s']) (by kernel_rfl) amg];kernel_rfl
def IsSI(h:Heap)(I S:Addr)(first:Value)(i n ep:Nat):Prop:=∃o,h.get? I=some o/\o.cls=.type "set_iterator" /\ o.data=.fields #[first,.int i 0,.ref S,.int n 0,.int ep 0]
theorem IsSI.typeIs{s:aF}{I S:Addr}{first:Value}{i n ep:Nat}(x:IsSI s.heap I S first i n ep):s.TypeIs (.ref I) "set_iterator" := let ⟨o,ho,hc,_⟩:=x;⟨o,ho,hc⟩
theorem IsSI.at{h h':Heap}{I S:Addr}{first:Value}{i n ep:Nat}(x:IsSI h I S first i n ep)(e:∀o,h.get? I=some o->h'.get? I=some o):IsSI h' I S first i n ep:=let ⟨o,ho,r⟩:=x;⟨o,e _ ho,r⟩
section
variable{prog:bJ}{w:World}{A:bW}{E:Value->aF->Prop}{s:aF}
theorem akk{I S:Addr}{first:Value}{i n ep:Nat}{Q:Value->aF->Prop}(hit:IsSI s.heap I S first i n ep)(h:Q (.ref I) s):wpAny (model prog w) A (pyIter (.ref I)) Q E s:=by
 refine wpAny_pyIter_slot hit.typeIs aep (dU aep hit.typeIs ail ?_ (akg _));show wpAny _ _ (ret (.ref I)) _ _ s;exact aD ⟨_,rfl, "set_iterator", _,hit.typeIs,jc.lookup,h⟩
theorem ap8{I S:Addr}{slot i:Nat}{es:Array (Int×Value)}{ep:Nat}{t:cL}{Q:Option Value->aF->Prop}{x:Value}{slot':Nat}(hit:IsSI s.heap I S (.int slot 0) i es.size ep)(ho:s.heap.get? S=some (setO es ep t))(hf:t.fits es.size=true)
  (hn:∀(A':bW) (Q':Option (Value×Nat)->aF->Prop) (E':Value->aF->Prop),Q' (some (x,slot')) s->wpAny (model prog w) A' (pR S slot i ep) Q' E' s)
  (hQ:∀h',IsSI h' I S (.int slot' 0) (i+1) es.size ep->fG I s.heap h'->Q (some x) { s with heap:=h' }) :
  wpAny (model prog w) A (mX (.ref I)) Q E s:=by
 obtain⟨o,hI,hc,hd⟩:=id hit;unfold mX;refine aA (wpAny_attempt (cW (name:=iV "__next__") hit.typeIs jc
  (dU jc hit.typeIs xj ?_ (zr _))))
 refine aA (aD ?_);refine aA (wpAny_fieldsOf hI hd ?_);dsimp only;refine aA (wpAny_setEntries_of ho rfl hf ?_);rw[if_neg (by simp)]
 simp only[bI];refine aA (hn _ _ _ ?_);dsimp only;refine aA (eH hI hd (by simp) ?_)
 have h1:=bQ (lW (·.setIfInBounds 0 (jM (slot':Int)))) hI (dJ (bK hd _));refine aA (eH h1 (bK hd _) (by simp) ?_)
 refine aD ⟨_,rfl,aD (hQ _ ?_ ((cP ..).trans (cP ..)))⟩;exact⟨_,bQ _ h1 (dJ (bK (bK hd _) _)),(jH ..).trans ((jH ..).trans hc),by
  rw[bK (bK hd _)];simp[jM]⟩
theorem awe{I S:Addr}{slot i:Nat}{es:Array (Int×Value)}{ep:Nat}{t:cL}{Q:Option Value->aF->Prop}(hh:A.handled=none)(hit:IsSI s.heap I S (.int slot 0) i es.size ep)(ho:s.heap.get? S=some (setO es ep t))(hf:t.fits es.size=true)
  (hn:∀(A':bW) (Q':Option (Value×Nat)->aF->Prop) (E':Value->aF->Prop),Q' none s->wpAny (model prog w) A' (pR S slot i ep) Q' E' s)
  (hQ:∀h',uN I s.heap h'->Q none { s with heap:=h' }):wpAny (model prog w) A (mX (.ref I)) Q E s:=by
 obtain⟨o,hI,hc,hd⟩:=id hit;unfold mX;refine aA (wpAny_attempt (cW (name:=iV "__next__") hit.typeIs jc
  (dU jc hit.typeIs xj ?_ (zr _))))
 refine aA (aD ?_);refine aA (wpAny_fieldsOf hI hd ?_);dsimp only;refine aA (wpAny_setEntries_of ho rfl hf ?_);rw[if_neg (by simp)]
 simp only[bI];refine aA (hn _ _ _ ?_);dsimp only;refine aA (eH hI hd (by simp) ?_)
 show wpAny _ _ (newExc (.type "StopIteration") [] >>= _) _ _ _;refine aA ?_;simp only[newExc,newTuple];refine aA (bR ?_ (by size_fits))
 refine aA (m:=firstArgMember _ _) (wpAny_of_eq (a:=cF) (by first | rfl | (simp only[firstArgMember];rfl)) ?_)
 refine bR ?_ (by size_fits)
 simp only[raiseNew];refine aA (wpAny_handled ?_);rw[show A.in1.handled=none from hh]
 refine aA (aD (wpAny_throw ?_));refine aA (wpAny_isInstance (T := "StopIteration") (b:=true) ⟨_,aL _ rfl,rfl⟩ isSubtype_stop ?_);exact aD (hQ _ (((cP ..).extBut.push _).push _))
theorem at3{I S q:Addr}{i j m:Nat}{es:Array (Int×Value)}{ep:Nat}{t:cL}{Q:Option Value->aF->Prop}{x:Int×Value}{ps:Array Value}(hit:IsSI s.heap I S (.ref q) i es.size ep)(ho:s.heap.get? S=some (setO es ep t))(hf:t.fits es.size=true)
  (hq:∃oq,s.heap.get? q=some oq/\oq.data=.seq ps m) (hp:ps[i]? = some (.int (j:Nat) 0)) (hx:es[j]? = some x)
  (hQ:∀h',IsSI h' I S (.ref q) (i+1) es.size ep->fG I s.heap h'->Q (some x.2) { s with heap:=h' }) :
  wpAny (model prog w) A (mX (.ref I)) Q E s:=by
 obtain⟨o,hI,hc,hd⟩:=id hit;obtain⟨oq,hoq,hdq⟩:=hq;unfold mX;refine aA (wpAny_attempt (cW (name:=iV "__next__") hit.typeIs jc
  (dU jc hit.typeIs xj ?_ (zr _))))
 refine aA (aD ?_);refine aA (wpAny_fieldsOf hI hd ?_);dsimp only;refine aA (wpAny_setEntries_of ho rfl hf ?_);rw[if_neg (by simp)]
 refine aA (gK hoq hdq ?_);dsimp only;simp only[bI,hp];unfold setNextDrawn;refine aA (aA (wpAny_setState_of ho rfl hf ?_));dsimp only;rw[if_neg (by simp)]
 rw[hx];refine aD ?_;refine aA (eH hI hd (by simp) ?_)
 refine aD ⟨_,rfl,aD (hQ _ ?_ (cP ..))⟩;exact⟨_,bQ _ hI (dJ (bK hd _)),(jH ..).trans hc,by
  rw[bK hd];simp[jM]⟩
theorem aix{I S q:Addr}{i m:Nat}{es:Array (Int×Value)}{ep:Nat}{t:cL}{Q:Option Value->aF->Prop}{ps:Array Value}(hh:A.handled=none)(hit:IsSI s.heap I S (.ref q) i es.size ep)(ho:s.heap.get? S=some (setO es ep t))(hf:t.fits es.size=true)
  (hq:∃oq,s.heap.get? q=some oq/\oq.data=.seq ps m) (hp:ps[i]? = none)
  (hQ:∀h',uN I s.heap h'->Q none { s with heap:=h' }):wpAny (model prog w) A (mX (.ref I)) Q E s:=by
 obtain⟨o,hI,hc,hd⟩:=id hit;obtain⟨oq,hoq,hdq⟩:=hq;unfold mX;refine aA (wpAny_attempt (cW (name:=iV "__next__") hit.typeIs jc
  (dU jc hit.typeIs xj ?_ (zr _))))
 refine aA (aD ?_);refine aA (wpAny_fieldsOf hI hd ?_);dsimp only;refine aA (wpAny_setEntries_of ho rfl hf ?_);rw[if_neg (by simp)]
 refine aA (gK hoq hdq ?_);dsimp only;simp only[bI,hp];refine aA (eH hI hd (by simp) ?_)
 have h1:=bQ (lW (·.setIfInBounds 0 (jM 0))) hI (dJ (bK hd _));refine aA (eH h1 (bK hd _) (by simp) ?_)
 show wpAny _ _ (newExc (.type "StopIteration") [] >>= _) _ _ _;refine aA ?_;simp only[newExc,newTuple];refine aA (bR ?_ (by size_fits))
 refine aA (m:=firstArgMember _ _) (wpAny_of_eq (a:=cF) (by first | rfl | (simp only[firstArgMember];rfl)) ?_)
 refine bR ?_ (by size_fits)
 simp only[raiseNew];refine aA (wpAny_handled ?_);rw[show A.in1.handled=none from hh]
 refine aA (aD (wpAny_throw ?_));refine aA (wpAny_isInstance (T := "StopIteration") (b:=true) ⟨_,aL _ rfl,rfl⟩ isSubtype_stop ?_);exact aD (hQ _ ((((cP ..).trans (cP ..)).extBut.push _).push _))
end
section
variable{prog:bJ}{w:World}{A:bW}{E:Value->aF->Prop}{s:aF}
theorem agq{Q:Bool->aF->Prop}(h:Q (w.params.followText "set-order") s):wpAny (model prog w) A setsByText Q E s:=by
 unfold setsByText;exact aA (wpAny_askSetting (aD h))
theorem aot{S:Addr}{slot g i j:Nat}{es:Array (Int×Value)}{ep:Nat}{t:cL}{e:Int×Value}{Q:Option (Value×Nat)->aF->Prop}(ho:s.heap.get? S=some (setO es ep t))(hf:t.fits es.size=true)
  (hw:w.params.followText "set-order" = false) (hd:(!t.plain&&decide (es.size > 1))=false) (hl:t.led=true) (hb:eN t.place slot=i) (he:es[i]? = some e) (hp:t.place[i]? = some j)
  (h:Q (some (e.2,j+1)) s):wpAny (model prog w) A (pR S slot g ep) Q E s:=by
 unfold pR;refine aA (wpAny_setState_of ho rfl hf ?_);dsimp only;refine aA (agq ?_);rw[hw,if_neg (by simp)]
 show wpAny _ _ (if (!t.plain&&decide (es.size > 1))=true then _ else _) _ _ _
 rw[hd,if_neg (by simp)]
 refine aA (m:=if (!t.led && !es.isEmpty)=true then _ else _) ?_
 rw[hl,if_neg (by simp)]
 refine aD ?_;rw[hb,he,hp];exact aD h
theorem aq4{S:Addr}{slot g i:Nat}{es:Array (Int×Value)}{ep:Nat}{t:cL}{Q:Option (Value×Nat)->aF->Prop}(ho:s.heap.get? S=some (setO es ep t))(hf:t.fits es.size=true)
  (hw:w.params.followText "set-order" = false) (hd:(!t.plain&&decide (es.size > 1))=false) (hl:t.led=true) (hb:eN t.place slot=i) (he:es[i]? = none)
  (h:Q none s):wpAny (model prog w) A (pR S slot g ep) Q E s:=by
 unfold pR;refine aA (wpAny_setState_of ho rfl hf ?_);dsimp only;refine aA (agq ?_);rw[hw,if_neg (by simp)]
 show wpAny _ _ (if (!t.plain&&decide (es.size > 1))=true then _ else _) _ _ _
 rw[hd,if_neg (by simp)]
 refine aA (m:=if (!t.led && !es.isEmpty)=true then _ else _) ?_
 rw[hl,if_neg (by simp)]
 refine aD ?_;rw[hb,he];exact aD h
theorem aje{S:Addr}{slot g:Nat}{es:Array (Int×Value)}{ep:Nat}{t:cL}{Q:Option (Value×Nat)->aF->Prop}(ho:s.heap.get? S=some (setO es ep t))(hf:t.fits es.size=true)
  (hw:w.params.followText "set-order" = true) (h:Q (((kE (w.params.setOrder S ep) es)[g]?).map fun e=>(e.2,slot)) s):wpAny (model prog w) A (pR S slot g ep) Q E s:=by
 unfold pR;refine aA (wpAny_setState_of ho rfl hf ?_);dsimp only;refine aA (agq ?_);rw[hw,if_pos rfl,if_neg (by simp)]
 unfold setWalk;refine aA (aA (wpAny_setState_of ho rfl hf ?_));dsimp only;refine aA (agq ?_);rw[hw,if_pos rfl];exact aA (wpAny_askSetting (aD (aD h)))
theorem aef{α:Type}:∀(l:List α) (i:Nat) (x:α),l[i]? = some x->(x::l.eraseIdx i).Perm l
 | [],i,x,h=>by simp at h
 | a::r,0,x,h=>by simp at h;subst h;exact .refl _
 | a::r,i+1,x,h=>by
  rw[List.getElem?_cons_succ] at h;exact(List.Perm.swap a x _).trans ((aef r i x h).cons a)
theorem aqm{α:Type}(next:Nat->Nat):∀(fuel k:Nat) (left:List α) (out:Array α),left.length=fuel->(kE.go next fuel k left out).toList.Perm (out.toList++left)
 | 0,k,left,out,h=>by
  have:left=[]:=sW.mp h;subst this;show out.toList.Perm _;simp
 | fuel+1,k,left,out,h=>by
  have hlt:next k % left.length < left.length:=vO _ (by omega)
  unfold kE.go;have hx:left[next k % left.length]? = some left[next k % left.length]:=aG hlt;rw[hx];dsimp only;have hlen:(left.eraseIdx (next k % left.length)).length=fuel:=by rw[rF hlt];omega
  refine(aqm next fuel (k+1) _ _ hlen).trans ?_;rw[wF,dB];exact List.Perm.append_left _ (aef _ _ _ hx)
theorem afv{α:Type}(next:Nat->Nat)(xs:Array α):(kE next xs).toList.Perm xs.toList:=by
 have:=aqm next xs.size 0 xs.toList #[] (by simp)
 simpa[kE] using this
theorem ahh:∀(n:Nat) {α:Type} (xs:List α) (s:aF) (Q:List α->aF->Prop),xs.length=n->(∀ys d,ys.Perm xs->Q ys { s with drawn:=d })->wpAny (model prog w) A (drawOrder n xs) Q E s
 | 0,α,xs,s,Q,h,q=>by
  have:xs=[]:=sW.mp h;subst this;exact aD (q [] s.drawn (.refl _))
 | n+1,α,[],s,Q,h,q=>by cases h
 | n+1,α,x::r,s,Q,h,q=>by
  unfold drawOrder;intro Γ p hΓ;show(x::r).length≠0/\_;refine⟨by simp,?_⟩
  revert Γ p hΓ
  show wpAny _ _ (match (x::r)[(model prog w).w.draws .order (s.drawn.get .order) % (x::r).length]? with | some y=>_ | none=>_) _ _ _
  have hlt:(model prog w).w.draws .order (s.drawn.get .order) % (x::r).length < (x::r).length:=vO _ (by simp)
  have hx:=aG hlt;rw[hx];refine aA (ahh n _ _ _ (by rw[rF hlt];simpa using h) fun ys d hp =>?_)
  exact aD (q _ _ ((hp.cons _).trans (aef _ _ _ hx)))
end
def PW(ord:Array (Int×Value))(i:Nat)(v:Value):Prop:=∃e,ord[i]? = some e/\v=e.2
theorem akn{h h':Heap}{I S:Addr}{o:Obj}(hne:S≠I)(ho:h.get? S=some o)(hs:fG I h h'):h'.get? S=some o:=(hs.2 S hne).trans ho
theorem ar9{t:cL}{n:Nat}(h:t.fits n=true):t.place.size=n:=by
 unfold SetTable.fits at h;rw[aZ] at h;exact eq_of_beq h.1
section
variable{prog:bJ}{w:World}{A:bW}
theorem atr(hh:A.handled=none)(I S:Addr)(hne:S≠I){es:Array (Int×Value)}{ep:Nat}{t:cL}(hf:t.fits es.size=true)(hw:w.params.followText "set-order" = true) :
  Walks prog w A I [I,S] [I] es.size (PW (kE (w.params.setOrder S ep) es)) (fun i h=>IsSI h I S (.int (0:Nat) 0) i es.size ep/\h.get? S=some (setO es ep t)) where
 sub:=fun b hb=>by simp at hb;simp[hb]
 frame:=fun _ _ _ st hk=>⟨st.1.at fun o e=>hk I (by simp) o e,hk S (by simp) _ st.2⟩
 item:=fun i s Q E hi st hQ=>by
  have hsz:(kE (w.params.setOrder S ep) es).size=es.size:=by rw[<-bH,(afv _ _).length_eq,bH]
  have hx:(kE (w.params.setOrder S ep) es)[i]? = some (kE (w.params.setOrder S ep) es)[i]:=by simp[hsz,hi]
  refine ap8 (x:=((kE (w.params.setOrder S ep) es)[i]).2) (slot':=0) st.1 st.2 hf (fun A' Q' E' q=>aje st.2 hf hw (by rw[hx];exact q)) fun h' hit' hs' =>?_
  exact hQ _ h' s.toks ⟨_,hx,rfl⟩ ⟨hit',akn hne st.2 hs'⟩ fun b o hb e=>hs'.extBut b o (fun h=>hb (by simp[h])) e
 done:=fun s Q E st hQ=>by
  have hsz:(kE (w.params.setOrder S ep) es).size=es.size:=by rw[<-bH,(afv _ _).length_eq,bH]
  refine awe hh st.1 st.2 hf (fun A' Q' E' q=>aje st.2 hf hw (by rw[tE (by omega)];exact q)) fun h' he'=>hQ h' s.toks fun b o hb e=>he' b o (fun h=>hb (by simp[h])) e
 self:=fun _ _ _ _ st hQ=>akk st.1 hQ
theorem apm(hh:A.handled=none)(I S:Addr)(hne:S≠I){es:Array (Int×Value)}{ep:Nat}{t:cL}(hf:t.fits es.size=true)(hw:w.params.followText "set-order" = false)(hr:Rise t)(hd:(!t.plain&&decide (es.size > 1))=false)(hl:t.led=true) :
  Walks prog w A I [I,S] [I] es.size (PW es) (fun i h=>(∃slot:Nat,eN t.place slot=i/\IsSI h I S (.int slot 0) i es.size ep)/\h.get? S=some (setO es ep t)) where
 sub:=fun b hb=>by simp at hb;simp[hb]
 frame:=fun _ _ _ ⟨⟨slot,hb,st⟩,ho⟩ hk=>⟨⟨slot,hb,st.at fun o e=>hk I (by simp) o e⟩,hk S (by simp) _ ho⟩
 item:=fun i s Q E hi ⟨⟨slot,hb,st⟩,ho⟩ hQ=>by
  have hx:es[i]? = some es[i]:=by simp[hi]
  have hps:=ar9 hf;have hp:t.place[i]? = some (t.place[i]):=by simp[hps,hi]
  refine ap8 (x:=(es[i]).2) (slot':=t.place[i]+1) st ho hf (fun A' Q' E' q=>aot ho hf hw hd hl hb hx hp q) fun h' hit' hs' =>?_
  exact hQ _ h' s.toks ⟨_,hx,rfl⟩ ⟨⟨_,ao7 hr hp,hit'⟩,akn hne ho hs'⟩ fun b o hb e=>hs'.extBut b o (fun h=>hb (by simp[h])) e
 done:=fun s Q E ⟨⟨slot,hb,st⟩,ho⟩ hQ=>by
  refine awe hh st ho hf (fun A' Q' E' q=>aq4 ho hf hw hd hl hb (tE (aN _)) q) fun h' he'=>hQ h' s.toks fun b o hb e=>he' b o (fun h=>hb (by simp[h])) e
 self:=fun _ _ _ _ ⟨⟨slot,hb,st⟩,ho⟩ hQ=>akk st hQ
theorem apn(hh:A.handled=none)(I S q:Addr)(hne:S≠I)(hq:q≠I){es:Array (Int×Value)}{ep:Nat}{t:cL}(hf:t.fits es.size=true)(js:List Nat)(hj:js.Perm (aJ es.size)) :
  Walks prog w A I [I,S,q] [I] es.size (PW (js.map fun j=>es.getD j (0,.none)).toArray) (fun i h=>IsSI h I S (.ref q) i es.size ep/\h.get? S=some (setO es ep t)/\∃oq m,h.get? q=some oq/\oq.data=.seq (js.map fun(j:Nat)=>jM j).toArray m) where
 sub:=fun b hb=>by simp at hb;simp[hb]
 frame:=fun _ _ _ ⟨st,ho,oq,m,h1,h2⟩ hk=>⟨st.at fun o e=>hk I (by simp) o e,hk S (by simp) _ ho,oq,m,hk q (by simp) _ h1,h2⟩
 item:=fun i s Q E hi ⟨st,ho,oq,m,h1,h2⟩ hQ=>by
  have hlen:js.length=es.size:=by rw[hj.length_eq,lL]
  have hjlt:js[i] < es.size:=gP.mp (hj.mem_iff.mp (fV (by omega)))
  have hx:es[js[i]]? = some es[js[i]]:=by simp[hjlt]
  refine at3 (j:=js[i]) (x:=es[js[i]]) st ho hf ⟨oq,h1,h2⟩ (by simp[hlen,hi,jM]) hx fun h' hit' hs' =>?_
  refine hQ _ h' s.toks ⟨es[js[i]],?_,rfl⟩ ⟨hit',akn hne ho hs',oq,m,(hs'.2 q hq).trans h1,h2⟩ fun b o hb e=>hs'.extBut b o (fun h=>hb (by simp[h])) e
  simp[hlen,hi,wG,hjlt]
 done:=fun s Q E ⟨st,ho,oq,m,h1,h2⟩ hQ=>by
  have hlen:js.length=es.size:=by rw[hj.length_eq,lL]
  refine aix hh st ho hf ⟨oq,h1,h2⟩ (by simp[hlen]) fun h' he'=>hQ h' s.toks fun b o hb e=>he' b o (fun h=>hb (by simp[h])) e
 self:=fun _ _ _ _ st hQ=>akk st.1 hQ
variable{E:Value->aF->Prop}{s:aF}
theorem aqa{S:Addr}{es:Array (Int×Value)}{ep:Nat}{t:cL}{Q:Bool->aF->Prop}(ho:s.heap.get? S=some (setO es ep t))(hf:t.fits es.size=true)(h:Q (!w.params.followText "set-order" && (!t.plain&&decide (es.size > 1))) s) :
  wpAny (model prog w) A (setDrawn S) Q E s:=by
 unfold setDrawn;refine aA (wpAny_setState_of ho rfl hf ?_);dsimp only;refine aA (agq ?_);exact aD h
theorem at5{S:Addr}{es:Array (Int×Value)}{ep:Nat}{t:cL}{ns:List Int}{Q:Value->aF->Prop}(ho:s.heap.get? S=some (setO es ep t))(G:SetG w es t ns)(hb:es.size < mW)
  (h:∀(I:Addr) (fp:List Addr) (St:Nat->Heap->Prop) (ord:Array (Int×Value)) (s':aF),(∀A':bW,A'.handled=none->Walks prog w A' I fp [I] es.size (PW ord) St)->St 0 s'.heap->ord.toList.Perm es.toList ->
   s.heap.objs.size<=I->(∀b∈fp,b=S∨s.heap.objs.size<=b)->(∀b o,s.heap.get? b=some o->s'.heap.get? b=some o)->s'.gens=s.gens->s'.os=s.os->s'.toks=s.toks->Q (.ref I) s') :
  wpAny (model prog w) A (pyIter (.ref S)) Q E s:=by
 have hT:s.TypeIs (.ref S) "set" := ⟨_,ho,rfl⟩;have hSlt:S < s.heap.objs.size:=aP ho;refine wpAny_pyIter_slot hT xK (dU xK hT agy ?_ (F.args_set_iter_1 _));show wpAny _ _ (pure S >>= _) _ _ s;refine aA (aD ?_);unfold Builtin.Frozenset.sizeOf;refine aA (aA (wpAny_setEntries_of ho rfl G.fit (aD ?_)));refine aA (aqa ho G.fit ?_);cases hw:w.params.followText "set-order" with
 | true =>
  rw[Bool.not_true,rY,if_neg (by simp)]
  refine aA (aD ?_);refine aA (wpAny_setEpoch_of ho rfl G.fit ?_);refine aA (bR (aD ⟨_,rfl, "set_iterator", _,⟨_,aL _ rfl,rfl⟩,jc.lookup,?_⟩));refine h s.heap.objs.size [s.heap.objs.size,S] _ _ _ (fun A' hh=>atr hh _ S (bC hSlt) G.fit hw) ⟨⟨_,aL _ rfl,rfl,rfl⟩,aB _ ho⟩ (afv _ _) (aN _) (fun b hb =>?_) (fun b o e=>aB _ e) rfl rfl rfl
  simp only[bF,eV,or_false] at hb;rcases hb with rfl | rfl
  ·exact .inr (aN _)
  ·exact .inl rfl
 | false =>
  have hl:t.led=true:=by
   have:=G.kept.2;rw[hw] at this;exact this
  cases hd:(!t.plain&&decide (es.size > 1)) with
  | false =>
   rw[xU,if_neg (by simp)]
   refine aA (aD ?_);refine aA (wpAny_setEpoch_of ho rfl G.fit ?_);refine aA (bR (aD ⟨_,rfl, "set_iterator", _,⟨_,aL _ rfl,rfl⟩,jc.lookup,?_⟩));refine h s.heap.objs.size [s.heap.objs.size,S] _ _ _ (fun A' hh=>apm hh _ S (bC hSlt) G.fit hw G.kept.1 hd hl) ⟨⟨0,ao6 G.kept.1,_,aL _ rfl,rfl,rfl⟩,aB _ ho⟩ (.refl _) (aN _) (fun b hb =>?_) (fun b o e=>aB _ e) rfl rfl rfl
   simp only[bF,eV,or_false] at hb;rcases hb with rfl | rfl
   ·exact .inr (aN _)
   ·exact .inl rfl
  | true =>
   rw[Bool.not_false,pP,if_pos rfl];refine aA (ahh _ (aJ es.size) _ _ lL fun js d hj =>?_)
   have hlen:js.length=es.size:=by rw[hj.length_eq,lL]
   simp only[newTuple];refine aA (bR ?_ (by show(js.map fun(i:Nat)=>jM i).toArray.size<=bV;rw[aR,aU,hlen];exact fits_of_scanBound hb))
   refine aA (wpAny_setEpoch_of (aB _ ho) rfl G.fit ?_);refine aA (bR (aD ⟨_,rfl, "set_iterator", _,⟨_,aL _ rfl,rfl⟩,jc.lookup,?_⟩));have hq:∀o:Obj,s.heap.objs.size≠(s.heap.push o).objs.size:=fun o=>by rw[cB];exact bC (jU _)
   have hS2:∀o:Obj,S≠(s.heap.push o).objs.size:=fun o=>by rw[cB];exact bC (qD hSlt)
   refine h _ _ _ _ _ (fun A' hh=>apn hh _ S s.heap.objs.size (hS2 _) (hq _) G.fit js hj) ⟨⟨_,aL _ rfl,rfl,rfl⟩,aB _ (aB _ ho),_,_,aB _ (aL _ rfl),rfl⟩ ?_ ?_ (fun b hb =>?_) (fun b o e=>aB _ (aB _ e)) rfl rfl rfl
   ·refine(hj.map _).trans ?_;have e:(aJ es.size).map (fun j=>es.getD j (0,cF))=es.toList:=by
     apply qQ
     ·simp
     ·intro i h1 h2;have h3:i < es.size:=by simpa using h2
      simp[wG,h3]
    rw[e]
   ·rw[cB];exact lJ _
   ·simp only[bF,eV,or_false] at hb;rcases hb with rfl | rfl | rfl
    ·right;rw[cB];exact lJ _
    ·exact .inl rfl
    ·exact .inr (aN _)
end
theorem agu:typeLookup (.type "set") "__len__" = pure (some (.builtin "set.__len__")):=by rw[typeLookup_type,builtinLookup_eq_fast];kernel_rfl
theorem aex:∀{es:List (Int×Value)},(∀e∈es,Ent e)->nT (es.map (·.2)) (es.map keyE)
 | [],_=>.nil
 | e::r,h=>by
  obtain⟨k,u,he⟩:=h e (bB ..);subst he;exact .cons k u (aex fun e he=>h e (aX _ he))
theorem arh{ord:Array (Int×Value)}{acc:Array Value}{n:Nat}(h:ItemsOf (PW ord) acc n)(hn:ord.size=n):acc.toList=ord.toList.map (·.2):=by
 apply qQ
 ·rw[aU,bH,bH,h.1,hn]
 ·intro i h1 h2;obtain⟨e,he,hv⟩:=h.2 i acc.toList[i] (by rw[<-oR];exact aG h1)
  rw[hv,List.getElem_map];rw[<-oR] at he;have h3:i < ord.toList.length:=by simpa using h2
  rw[aG h3] at he;cases he;rfl
theorem ap3{h:Heap}{a:Addr}{xs:Array Value}{n:Nat}(ho:h.get? a=some (seqObj "list" xs n))(vs:List Value)(out:Array Value):∃m,(sortedHeap h a vs out).get? a=some (seqObj "list" out m) :=
 ⟨_,get?_update_seq (aB _ (aB _ (get?_update_seq ho (fun _ => #[])))) (fun _=>out)⟩
theorem aoe{h:Heap}{a b:Addr}{o:Obj}{vs:List Value}{out:Array Value}(e:h.get? b=some o)(hb:b≠a):(sortedHeap h a vs out).get? b=some o :=
 (bA _ _ (fO hb)).trans (aB _ (aB _ ((bA _ _ (fO hb)).trans e)))
section
variable{prog:bJ}{w:World}{A:bW}{E:Value->aF->Prop}{s:aF}
theorem als{S:Addr}{es:Array (Int×Value)}{ep:Nat}{t:cL}{ns:List Int}{Q:List Value->aF->Prop}(hh:A.handled=none)(ho:s.heap.get? S=some (setO es ep t))(G:SetG w es t ns)(hb:es.size < mW)
  (hQ:∀(s':aF) (acc:List Value) (ks:List Int),s.heap.objs.size < s'.heap.objs.size->(∀b o,s.heap.get? b=some o->s'.heap.get? b=some o)->s'.gens=s.gens->s'.os=s.os->nT acc ks->ks.Perm (es.toList.map keyE)->Q acc s') :
  wpAny (model prog w) A (collect (.ref S)) Q E s:=by
 have hSlt:S < s.heap.objs.size:=aP ho;unfold collect;refine aA (wpAny_runValue (codeAny_builtin F.entry_proto_collect ?_));rw[jQ F.plain_proto_collect _];show wpAny _ A.in1 (newList [] >>= fun l=>again (.builtin "list.__iadd__" ⟨[l,.ref S],[]⟩)) _ _ s
 refine aA (bR ?_);refine aD ⟨plainId_quiet wA _,codeAny_builtin F.entry_list_iadd ?_⟩;rw[jQ wA _];have ho1:(s.heap.push { cls:=.type "list", data:=.seq ([]:List Value).toArray }).get? S=some (setO es ep t):=aB _ ho;have hL:(s.heap.push { cls:=.type "list", data:=.seq ([]:List Value).toArray }).get? s.heap.objs.size=some { cls:=.type "list", data:=.seq ([]:List Value).toArray }:=aL _ rfl;have hold:∀b o,s.heap.get? b=some o->(s.heap.push { cls:=.type "list", data:=.seq ([]:List Value).toArray }).get? b=some o:=fun b o e=>aB _ e
 have hsz1:(s.heap.push { cls:=.type "list", data:=.seq ([]:List Value).toArray }).objs.size=s.heap.objs.size+1:=cB _ _;show wpAny _ A.in1 (rE (.ref s.heap.objs.size) (.ref S) (.ref s.heap.objs.size)) _ _ { s with heap:=s.heap.push { cls:=.type "list", data:=.seq ([]:List Value).toArray } }
 generalize s.heap.push { cls:=.type "list", data:=.seq ([]:List Value).toArray }=H1 at ho1 hL hold hsz1 ⊢
 unfold rE;refine aA (wpAny_typeOf (T := "set") ⟨_,ho1,rfl⟩ ?_);have h1:sH (.ref s.heap.objs.size) (.ref S)=false:=by simp[sH,fZ hSlt]
 have h2:(iR "set" == iR "list")=false:=by decide
 have h3:(iR "set" == iR "tuple")=false:=by decide
 simp only[h1,h2,h3,yH,lD,if_false];refine aA (at5 (s:={ s with heap:=H1 }) ho1 G hb fun I fp St ord s2 W hst hord hI hfp hk2 hg2 ho2 ht2 =>?_)
 have hSs:s2.heap.get? S=some (setO es ep t):=hk2 _ _ ho1;have hLs:s2.heap.get? s.heap.objs.size=some { cls:=.type "list", data:=.seq ([]:List Value).toArray }:=hk2 _ _ hL;refine aA (dD ?_);unfold Builtin.List.listLengthHint;refine aA (wpAny_specialOf (T := "set") ⟨_,hSs,rfl⟩ agu ?_);generalize hid:("set.__len__" : String)=id0
 wp_delta
 rw[show splitId id0=some ("set","__len__") from by subst hid;decide +kernel]
 subst hid;refine aA (wpAny_isInstance (T := "set") (b:=true) ⟨_,hSs,rfl⟩ (by rw[isSubtype_type];kernel_rfl) ?_)
 show wpAny _ A.in1 (typeOf (cJ S) >>= _) _ _ _;refine aA (wpAny_typeOf (T := "set") ⟨_,hSs,rfl⟩ ?_);refine aD ?_;rw[if_pos (by decide)]
 refine aA (jV ?_);refine aA ?_;show wpAny _ A.in1 (updateSeq s.heap.objs.size (·.push .none) >>= fun _=>updateSeq s.heap.objs.size (·.pop)) _ _ _
 refine aA (wpAny_updateSeq hLs rfl ?_);have hS₂:=bQ (jG (·.push cF)) hLs rfl;refine wpAny_updateSeq hS₂ rfl ?_;have hS₃:=bQ (jG (·.pop)) hS₂ rfl;have oth:∀b o,b≠s.heap.objs.size->s2.heap.get? b=some o ->
   ((s2.heap.update s.heap.objs.size (jG (·.push cF))).update s.heap.objs.size (jG (·.pop))).get? b=some o :=
  fun b o hb e=>(bA _ _ (fO hb)).trans ((bA _ _ (fO hb)).trans e)
 have hSf:s.heap.objs.size∉fp:=fun hm=>by
  rcases hfp _ hm with e | e
  ·exact fZ hSlt e
  ·have e':s.heap.objs.size+1<=s.heap.objs.size:=hsz1▸e;exact Nat.not_succ_le_self _ e'
 have hIne:s.heap.objs.size+1<=I:=hsz1▸hI;refine aD ⟨plainId_quiet F.plain_extend_loop _,codeAny_extend_loopS (W A.in1 hh).toS (fits_of_scanBound hb) _ hSf _ es.size 0 _ _ _ rfl (gA _)
  ((W A.in1 hh).frame 0 s2.heap _ hst fun b hb o e=>oth b o (fun h=>hSf (h▸hb)) e) hS₃ (ItemsOf.nil _) fun s' acc' c' hm hS' hacc =>?_⟩
 show wpAny _ A (load s.heap.objs.size >>= _) _ _ s';refine aA (wpAny_load hS' ?_);have hosz:ord.size=es.size:=by rw[<-bH,hord.length_eq,bH]
 have hacc':=arh hacc hosz;refine aD (hQ s' acc'.toList (ord.toList.map keyE) (aP hS') (fun b o e =>?_) (hm.gens.trans hg2) (hm.os.trans ho2) ?_ (hord.map _))
 ·have hlt:=aP e;refine hm.heap b o (fun hb =>?_) (oth b o (bC hlt) (hk2 b o (hold b o e)))
  simp only[bF,eV,or_false] at hb;rcases hb with rfl | rfl
  ·exact kO _ hlt
  ·exact absurd hlt (nD.mpr (cM (lJ _) hIne))
 ·rw[hacc'];exact aex fun e he=>G.ent e (hord.mem_iff.mp he)
set_option maxHeartbeats 1000000 in
theorem aod{S:Addr}{es:Array (Int×Value)}{ep:Nat}{t:cL}{ns:List Int}{Q:Value->aF->Prop}(hh:A.handled=none)(ho:s.heap.get? S=some (setO es ep t))(G:SetG w es t ns)(h64:es.size < 64)
  (h:∀(s':aF) (a:Addr) (out:Array Value) (m:Nat) (ns':List Int),s.heap.objs.size<=a->(∀b o,s.heap.get? b=some o->s'.heap.get? b=some o)->s'.gens=s.gens->s'.os=s.os->s'.heap.get? a=some (seqObj "list" out m) ->
   nT out.toList ns'->ns'.Perm (es.toList.map keyE)->ns'.Pairwise (· <= ·)->Q (.ref a) s') :
  wpAny (model prog w) A (call (.builtin "sorted") [.ref S]) Q E s:=by
 refine Calls.call_function_entry kind_sorted plain_sorted entry_sorted (args_sorted1 _) ?_;unfold iU.«sorted»
 refine aA (m:=checkCount "sorted" 1 1 _) (aD ?_);refine aA (als hh ho G (by unfold mW;omega) fun s1 acc ks hlt1 hk hg hos hI hp =>?_)
 have hlen:acc.length=es.size:=by rw[hI.length,hp.length_eq,aU,bH]
 refine aA (wpAny_newList ?_);have hoL:(s1.heap.push (seqObj "list" acc.toArray 0)).get? s1.heap.objs.size=some (seqObj "list" acc.toArray 0):=aL _ rfl;show wpAny _ _ _ _ _ { s1 with heap:=s1.heap.push (seqObj "list" acc.toArray 0) }
 refine aA (dD (dU slot_list_sort ⟨_,hoL,rfl⟩ entry_list_sort (list_sort_tree hoL hI (by omega) fun out ns' a1 a2 a3=>⟨_,rfl,?_⟩) (args_list_sort _)))
 obtain⟨m,hm⟩:=ap3 hoL acc out;refine aD ⟨_,rfl,?_⟩;refine h _ s1.heap.objs.size out m ns' (mJ hlt1) ?_ hg hos hm a1 (a2.trans hp) a3;intro b o e;exact aoe (aB _ (hk b o e)) (bC (fB (aP e) hlt1))
end
end Stt
namespace Dn
open L2 Mn
noncomputable def dedI:List Int->List Int
 | []=>[]
 | x::r=>if r.contains x then dedI r else x::dedI r
theorem adg:∀(l:List Int) (x:Int),x∈dedI l↔x∈l
 | [],x=>.rfl
 | y::r,x=>by
  unfold dedI;split
  ·rename_i h;rw[adg r x,bF];exact⟨.inr,fun z=>z.elim (fun e=>e▸List.contains_iff_mem.mp h) id⟩
  ·rw[bF,bF,adg r x]
theorem abt:∀l:List Int,(dedI l).Nodup
 | []=>vV
 | y::r=>by
  unfold dedI;split
  ·exact abt r
  ·rename_i h;exact List.Pairwise.cons (fun z hz e=>h (dO.mpr (e▸(adg r z).mp hz))) (abt r)
theorem acj:∀l:List Int,(dedI l).length<=l.length
 | []=>aN _
 | y::r=>by
  unfold dedI;have:=acj r;split
  ·simp only[cC];omega
  ·simp only[cC];omega
theorem ac6:∀{a b:List Int},a.Nodup->b.Nodup->(∀x,x∈a↔x∈b)->a.Perm b
 | [],b,_,_,h=>by
  cases b with
  | nil=>exact .refl _
  | cons y r=>exact absurd ((h y).mpr (bB ..)) (eV)
 | x::r,b,ha,hb,h=>by
  have hx:x∈b:=(h x).mp (bB ..);have hp:=List.perm_cons_erase hx;refine(List.Perm.cons x (ac6 (List.Pairwise.of_cons ha) (hb.erase x) fun y =>?_)).trans hp.symm
  rw[hb.mem_erase_iff];have hxr:x∉r:=fun z=>(gH.mp ha).1 x z rfl
  constructor
  ·intro hy;exact⟨fun e=>hxr (e▸hy),(h y).mp (aX _ hy)⟩
  ·rintro⟨hne,hy⟩
   exact(bF.mp ((h y).mpr hy)).resolve_left hne
def setI(ns:List Int):List Int:=sortI (dedI ns)
section
variable{K:Fg9}{X:Cx}{e a b c:Expr}{es:List Expr}{pos p p2:Pos}
def SetH(w:World)(a:Addr)(ns:List Int):Heap->Prop:=fun h=>∃es ep t,h.get? a=some (Stt.setO es ep t)/\Stt.SetG w es t ns/\es.size<=ns.length
def a5y(w:World):List V->Hp->VK->Prop:=fun vs H Q=>∃p ns,vs=[.ref p]/\H p=some (.tup (ns.map V.int))/\ns.length < 4000/\∀a,H a=none->Q (.ref a) (upd H a (.ext (SetH w a ns)))
theorem av3(hc:X.calm=true):za X (.type "set") (a5y X.w):=by
 intro zv s σ H xs us Q I r ⟨p,ns,hv,hp,hz,q⟩;subst hv;obtain⟨u,rfl,ru⟩:=vals1 r;cases ru;obtain⟨its,rv,pt,_⟩:=I.tuple (SqT.of hp);have hlen:=rv.length;rw[aU] at hlen;refine Stt.a0h (I.ok.hd hc) pt (intsAre_of rv) (by rw[aR];unfold mW;omega) fun h' tk es ep t ho g hsz hk =>?_
 have hn:H s.heap.objs.size=none:=I.hok.fresh (aN _);refine⟨.ref s.heap.objs.size,_,I.laid hk (aN _) ?_,rfl,q _ hn⟩;refine⟨⟨es,ep,t,ho,g,?_⟩,⟨_,ho⟩,fun h1 h2 ⟨es,ep,t,z,g,zz⟩ k=>⟨es,ep,t,k _ z,g,zz⟩⟩
 have hsz':es.size<=its.length:=by simpa using hsz
 omega
def rcSS(w:World):List V->Hp->VK->Prop:=fun vs H Q=>∃a ns,vs=[.ref a]/\H a=some (.ext (SetH w a ns))/\ns.length < 64/\∀b,H b=none->Q (.ref b) (upd H b (.lst ((setI ns).map V.int)))
theorem azq(hc:X.calm=true):za X (.builtin "sorted") (rcSS X.w):=by
 intro zv s σ H xs us Q I r ⟨a,ns,hv,ha,hz,q⟩;subst hv;obtain⟨u,rfl,ru⟩:=vals1 r;cases ru;obtain⟨⟨es,ep,t,ho,g,hsz⟩,_⟩:=I.hok a _ ha;refine Stt.aod (I.ok.hd hc) ho g (by omega) fun s' b out m ns' hb hk hg hos hob hI hp hs =>?_
 have hn:H b=none:=I.hok.fresh hb;have e':ns'=setI ns:=atz (hp.trans (ac6 g.nd (abt ns) fun k=>by rw[g.mem k,adg])) hs
 subst e';obtain⟨h',g',d',tk',os'⟩:=s';subst hg;subst hos;have I1:Inv X zv σ (upd H b (.lst ((setI ns).map V.int))) { s with heap:=h',toks:=tk' }:=I.laid hk hb ⟨by
  rw[aU];have h1:(setI ns).length=(dedI ns).length:=(sortI_perm _).length_eq;have h2:=acj ns;exact mJ (ap6 (by omega)),out.toList,m,aem hI,by simpa using hob⟩
 exact⟨.ref b,_,⟨I1.ok,I1.os,I1.bare,I1.base,I1.loc,I1.cell,I1.free,I1.freeC,I1.pin,I1.hok,I1.len⟩,rfl,q b hn⟩
noncomputable def gSet:D->Option Rv
 | .tup l=>(yz l).bind fun ns=>if ns.length < 64 then some (.fr ((setI ns).map D.int)) else none
 | _=>none
theorem ajx{x y:Str}{m:M (List D)}{pp qq:Pos}{ppos:Pos}(hc:X.calm=true)(hg1:Gl X x)(hm1:X.mg x=none)(hv1:bN x=some (.builtin "sorted"))(hg2:Gl X y)(hm2:X.mg y=none)(hv2:bN y=some (.type "set"))
  (ha:EA K X [e] m) (hn1:x ≠ "__name__" := by decide) (hdb1:(x==("__debug__" : Str))=false:=by decide) (hn2:y ≠ "__name__" := by decide) (hdb2:(y==("__debug__" : Str))=false:=by decide)
  (he:aQ [e] X.env=[(false,eval e X.env)]:=by rfl) (he2:aQ [.Call (.Name y qq) [e] [] ppos] X.env=[(false,eval (.Call (.Name y qq) [e] [] ppos) X.env)]:=by rfl) :
  ER K X (.Call (.Name x pp) [.Call (.Name y qq) [e] [] ppos] [] pos) (jk (g1 gSet) m):=ER.mk fun hk=>PE.imp (ac8 (azq hc) hg1 hm1 hv1 (uf (ac7 (av3 hc) hg2 hm2 hv2 (ha hk) hn2 hdb2 he rfl) ac9 he2) hn1 hdb1 he2 rfl) fun σ H Q hq0=>by
 obtain⟨tg,F,ρ,r,ρ',G,em,q⟩:=hq0;obtain⟨ds,ρ1,e1,em⟩:=bf em;obtain⟨e2,rfl⟩:=gr em;refine⟨tg,F,ρ,ds,_,G,e1,fun vs H1 F1 G1 x1 bl =>?_⟩
 cases ds with
 | nil=>cases e2
 | cons d tl =>
  cases tl with
  | cons _ _=>cases e2
  | nil =>
   cases d with
   | tup l =>
    have e2:(yz l).bind (fun ns=>if ns.length < 64 then some (Rv.fr ((setI ns).map D.int)) else none)=some r:=e2
    cases ei:yz l with
    | none=>rw[ei] at e2;cases e2
    | some ns =>
     rw[ei] at e2;have e2:(if ns.length < 64 then some (Rv.fr ((setI ns).map D.int)) else none)=some r:=e2
     split at e2
     ·rename_i h64;cases e2;obtain⟨v,rfl,bv⟩:=bl.one;obtain⟨p,ws,rfl,ea,hl⟩:=bv.tup;rw[aic ei] at hl;rw[hl.int_inv] at ea;refine⟨p,ns,rfl,G1.sub _ _ ea,by omega,fun a hna =>?_⟩
      show rcSS X.w _ _ _;refine⟨a,ns,rfl,gq,h64,fun b hnb =>?_⟩
      have G2:=G1.fresh hna (.ext (SetH X.w a ns));have X2:=G1.freshX hna (.ext (SetH X.w a ns));exact Res.lst G2 (fun v H3 F3 G3 x3 rr=>q v H3 F3 G3 ((x1.trans X2).trans x3) (p6 (x1.trans X2) rr)) (adm _) hnb
     ·cases e2
   | _=>cases e2
@[simp] theorem a4n(l:List D):gSet (.tup l)=(yz l).bind fun ns=>if ns.length < 64 then some (.fr ((setI ns).map D.int)) else none:=rfl
end
theorem abo{c:M Bool}{g:Sd}(Inv:Nat->Ro->Prop)(Done:Ro->Prop)(hs:∀k ρ,Inv k ρ->(∃ρ',c ρ=some (.ok false,ρ')/\Done ρ')∨∃ρ1 ρ2 k',c ρ=some (.ok true,ρ1)/\g ρ1=some (.nx,ρ2)/\k' < k/\Inv k' ρ2) :
  ∀(n k:Nat) (ρ:Ro),k < n->Inv k ρ->∃ρ',whileD c g n ρ=some (.nx,ρ')/\Done ρ'
 | 0,k,ρ,h,_=>absurd h (oH _)
 | n+1,k,ρ,h,h0=>by
  unfold whileD;rcases hs k ρ h0 with⟨ρ',e,d⟩ | ⟨ρ1,ρ2,k',e1,e2,hk,h2⟩
  ·rw[e];exact⟨ρ',rfl,d⟩
  ·rw[e1];dsimp only;rw[e2];exact abo Inv Done hs n k' ρ2 (by omega) h2
theorem aih:100000 < fuel:=by unfold fuel;decide
theorem aik(a b:Int):eqD (.int a) (.int b)=decide (a=b):=by
 show(a==b)=_
 by_cases h:a=b <;> simp[h]
theorem azt(ns:List Int)(a:Int):(ns.map D.int).any (fun y=>eqD y (.int a))=decide (a∈ns):=by
 induction ns with
 | nil=>simp
 | cons x r ih=>simp[aik,bF,ih,eq_comm]
theorem ab4(n:Nat)(ns:List Int):(ns.map D.int).all (okD n)=true:=by
 induction ns with
 | nil=>rfl
 | cons x r ih=>simp[okD]
theorem arw(neg:Bool)(a:Int)(ns:List Int):gIn neg (.int a) (.lst (ns.map D.int))=some (.v (.bl (if neg then !decide (a∈ns) else decide (a∈ns)))):=by
 have h:=ab4 30 ns;have h2:=azt ns a;simp only[gIn,itemsD,h,h2];simp[okD]
theorem aij:∀(a b:List Int),eqDs (a.map D.int) (b.map D.int)=decide (a=b)
 | [],[]=>rfl
 | [],_::_=>rfl
 | _::_,[]=>rfl
 | x::r,y::t=>by
  show(eqD (.int x) (.int y)&&eqDs (r.map D.int) (t.map D.int))=_;rw[aik,aij r t]
  by_cases h:x=y <;> simp[h]
theorem ash(a b:List Int):eqD (.tup (a.map D.int)) (.tup (b.map D.int))=decide (a=b):=by
 rw[<-aij];exact agf _ _
theorem am2(neg:Bool)(a b:List Int):gEq neg (.tup (a.map D.int)) (.tup (b.map D.int))=some (.v (.bl (if neg then !decide (a=b) else decide (a=b)))):=by
 have h1:okD 30 (.tup (a.map D.int))=true:=ab4 29 a;have h2:okD 30 (.tup (b.map D.int))=true:=ab4 29 b;simp only[gEq,h1,h2,ash];simp
theorem ar7(r:List Int):∀x:Int,(0<=r.foldl (fun m y=>if decide (y < m)=true then y else m) x)↔0<=x/\∀y∈r,0<=y:=by
 induction r with
 | nil=>intro x;simp
 | cons z t ih =>
  intro x;rw[wY,ih]
  by_cases h:z < x
  ·simp only[h,decide_true,if_true,bF,forall_eq_or_imp];constructor
   ·rintro⟨a,b⟩;exact⟨by omega,a,b⟩
   ·rintro⟨_,a,b⟩;exact⟨a,b⟩
  ·simp only[h,decide_false,lD,if_false,bF,forall_eq_or_imp];constructor
   ·rintro⟨a,b⟩;exact⟨a,by omega,b⟩
   ·rintro⟨a,_,b⟩;exact⟨a,b⟩
def minI(ns:List Int):Int:=ady (fun i j=>decide (i < j)) ns
theorem afb{ns:List Int}(h:ns≠[]):0<=minI ns↔∀y∈ns,0<=y:=by
 cases ns with
 | nil=>exact absurd rfl h
 | cons x r =>
  show 0<=r.foldl (fun m y=>if decide (y < m)=true then y else m) x↔_
  rw[ar7];simp
theorem am1{ns:List Int}(h:ns≠[]):avt (.lst (ns.map D.int))=some (.v (.int (minI ns))):=by
 show(yz (ns.map D.int)).bind _=_;rw[ajp];simp[h,minI]
theorem aru{ns:List Int}(h:ns.length < 64):gSet (.tup (ns.map D.int))=some (.fr ((setI ns).map D.int)):=by
 show(yz (ns.map D.int)).bind _=_;rw[ajp];simp[h]
theorem amm(ns:List Int)(x:Int):x∈setI ns↔x∈ns:=by
 unfold setI;rw[(sortI_perm _).mem_iff,adg]
theorem aos(ns:List Int):(setI ns).Nodup:=by
 unfold setI;rw[(sortI_perm _).nodup_iff];exact abt ns
@[simp] theorem a2v(d:D):ar0 [d]=(itemsD d).map agh:=rfl
@[simp] theorem a2q(a b:D):alf [a,b]=(itemsD a).bind fun l1=>(itemsD b).bind fun l2=>if l1.length<=l2.length then some (lw l1 l2) else none:=rfl
@[simp] theorem ayz(a b c:D):a7t [a,b,c]=(itemsD a).bind fun l1=>(itemsD b).bind fun l2=>(itemsD c).bind fun l3=>if l1.length<=l2.length/\l1.length<=l3.length then some (az4 l1 l2 l3) else none:=rfl
@[simp] theorem az3(ρ:Ro)(f:Int->Int->Int)(i:Nat)(mi m:M D):alr f i mi m ρ=(dM (mOwn i) fun _=>dM mi fun k=>dM (mOwn i) fun l=>dM (lift ((asI k).bind (ixN l.length))) fun j=>dM (lift ((l[j]?).bind asI)) fun x=>dM m fun y=>dM (lift (asI y)) fun y=>dM (mOwn i) fun l2=>dM (lift (if l2.length=l.length then some () else none)) fun _=>dM (adh i (l2.set j (.int (f x y)))) fun _=>dNx) ρ:=rfl
@[simp] theorem a1z(ρ:Ro)(i:Nat)(ms:M (List D)):aeu i ms ρ=((dw i).bind fun d0=>ms.bind fun ds=>(dw i).bind fun d=>(lift (match d0,d with
 | .lst _,.lst _=>some ()
 | .tup _,.tup _=>some ()
 | _,_=>none)).bind fun _=>lift (aig d ds)) ρ:=rfl
@[simp] theorem ay9(l:List D)(x:D):aig (.lst l) [x]=if okD 30 x&&l.all (okD 30) then some (.int (l.countP fun y=>eqD y x)) else none:=rfl
@[simp] theorem ay8(l:List D)(x:D):aig (.tup l) [x]=if okD 30 x&&l.all (okD 30) then some (.int (l.countP fun y=>eqD y x)) else none:=rfl
theorem abe{n:Nat}{k:Int}(h0:0<=k)(h1:k < (n:Int)):ixN n k=some k.toNat:=by
 unfold ixN;simp[h0,h1]
theorem jb{K:Fg9}{P:bJ}{w:World}{mg:Str->Option Value}{base:Heap}{x qual:Str}{st:Stmt}{f:Addr}{fd:eG}{N ps:List Str}{k nl np:Nat}{g:Sd}(F:Fun K x qual st f fd)(S:FnScope N ps (aj st))(h1:N.length=nl)(h2:ps.length=np)
  (body:∀(cdv:Value) (A:bW) (outer:List Env) (s:aF) (H:Hp) (E:XK),Room k (A.deeper (nY qual (aj st) s.heap.objs.size f cdv))->SVs K (cxOf CX0 P w K mg base N qual (aj st) f cdv A outer s H E).nox (dg st) g) :
  FnOk P w K mg base CX0 (k+1) f fd ps (spOf K np (fnD nl np g)):=by
 subst h1 h2;exact a72 F S body
section
variable{K:Fg9}{X:Cx}{e:Expr}{pos:Pos}
noncomputable def gLS:D->Option Rv
 | .tup l=>(yz l).bind fun ns=>if ns.length < 64 then some (.v (.int ((dedI ns).length:Int))) else none
 | _=>none
@[simp] theorem a7x(l:List D):gLS (.tup l)=(yz l).bind fun ns=>if ns.length < 64 then some (.v (.int ((dedI ns).length:Int))) else none:=rfl
end
section
variable{K:Fg9}{X:Cx}
def rReverse:V->List V->Hp->VK->Prop:=fun x vs H Q=>∃l xs,x=.ref l/\vs=[]/\H l=some (.lst xs)/\xs.length < bV/\Q .non (upd H l (.lst xs.reverse))
noncomputable def avr(l ds:List D):Option (D×List D):=match ds with
 | []=>if l.length < capS then some (.non,l.reverse) else none
 | _=>none
@[simp] theorem awv(l:List D):avr l []=if l.length < capS then some (.non,l.reverse) else none:=rfl
end
section
variable{K:Fg9}{X:Cx}{a:Expr}{pos p2:Pos}
def mIx1(m:M Rv):M Rv:=m.bind fun r=>match r with
 | .tf _ l=>ret (.fr l)
 | _=>lift none
@[simp] theorem a66(m:M Rv)(ρ:Ro):mIx1 m ρ=(m.bind fun r=>match r with
 | .tf _ l=>ret (.fr l)
 | _=>lift none) ρ:=rfl
end
end Dn
namespace L2
def Itdn(lo:Int)(n:Nat):It:=⟨fun i _=>i < n,fun i H x H'=>H'=H/\x=.int (lo - i),fun i _=>n<=i⟩
theorem aps{P:bJ}{w:World}{K:Fg9}{tg:Expr}(it:Addr)(lo:Int)(n:Nat):Turn P w K tg (Itdn lo n) [it] it (fun i h=>IsRangeIter h it (lo+(i:Nat)*(-1)) ((n:Int) - (i:Nat)) (-1)) where
 mem:=kW _
 obj:=fun i h st b hb=>by
  obtain rfl:b=it:=cN.mp hb;exact⟨_,st,fun v z=>Data.noConfusion (show Data.fields _=Data.cell v from z)⟩
 keep:=fun i h h' st k=>k it (kW _) _ st
 item:=by
  intro X e1 e2 e3 hc i zv s σ H E I hf st hg;subst e1 e2 e3;obtain⟨g0,g1,g2,g3,g4,g5⟩:=hf it (kW _);have W:=Walks.range (prog:=X.prog) (w:=X.w) (I.ok.hd hc) it lo (-1) n;refine W.item i s _ _ hg st fun v h' tk hv st' kk =>?_
  obtain⟨t,rfl⟩:=hv;have I1:Inv X zv σ H { s with heap:=h',toks:=tk }:=I.turned (fun b o hb e=>kk b o (fun z=>hb (cN.mp z)) e) g0 g1 g3 g4 g5
  refine⟨_,rfl,avn (s:={ s with heap:=h',toks:=tk }) (n := "range_iterator") st' rfl rfl (by decide) ⟨.int (lo - i),H,I1,⟨t,?_⟩,⟨rfl,rfl⟩,st',fun b hb=>(hf b hb).1⟩⟩
  rw[show lo+(i:Int)*(-1)=lo - (i:Int) by omega]
 done:=by
  intro X e1 e2 e3 hc i zv s σ H E I hf st hg;subst e1 e2 e3;obtain⟨g0,g1,g2,g3,g4,g5⟩:=hf it (kW _);have hle:n<=i:=hg;exact wpAny_pyNext_range_end (I.ok.hd hc) st (by omega) fun h' eb=>⟨rfl,I.turned (t':=s.toks) (fun b o hb e=>eb b o hb e) g0 g1 g3 g4 g5⟩
 self:=fun _ _ _ _ _ st h=>wpAny_pyIter_rangeiter st h
theorem aiw(a b:Int):lC a b (-1)=((a - b).toNat:Int):=by
 unfold lC;rw[if_neg (by decide),show -(-1:Int)=1 by decide,Int.ediv_one]
 split <;> omega
theorem small_down{a b:Int}(h1:a.natAbs < 1000000000)(h2:b.natAbs < 1000000000):uQ a b (-1)=true:=by
 unfold uQ;rw[aiw];simp only[Builtin.Range.rangeFitsLong,aZ,Bool.or_eq_true,decide_eq_true_eq,beq_iff_eq,show ¬((-1:Int) > 0) by decide,if_false]
 omega
section
variable{X:Cx}{tg:Expr}
def a7s(ta:TA):TI:=fun σ H R=>ta σ H fun vs H1=>∃i j:Int,vs=[.int i,.int j,.int (-1)]/\(i.natAbs < 1000000000/\j.natAbs < 1000000000)/\R (Itdn i (i - j).toNat) H1
theorem ax1{a b c:Expr}{ta:TA}{p pos:Pos}(hg:Gl X "range")(hm:X.mg "range" = none)(ha:PA X [a,b,c] ta)(hs:aQ [a,b,c] X.env=[(false,eval a X.env),(false,eval b X.env),(false,eval c X.env)]:=by rfl)(hs2:aQ [b,c] X.env=[(false,eval b X.env),(false,eval c X.env)]:=by rfl) :
  PI X tg (.Call (.Name "range" p) [a,b,c] [] pos) (a7s ta):=by
 intro zv s σ H R I h;refine Call_ (aev I hg hm boot_range (fH (thn (ha pos zv s σ H _ I h) fun us s1 ⟨vs,H1,I1,r1,q1⟩ =>?_) (by rw[hs,hs2]) (by rw[hs2];rfl)))
 obtain⟨i,j,e,⟨z1,z2⟩,q⟩:=q1;subst e;cases r1 with
 | cons r rr =>
  cases rr with
  | cons r' rr =>
   cases rr with
   | cons r'' rr =>
    cases rr;obtain⟨t,rfl⟩:=r;obtain⟨t',rfl⟩:=r';obtain⟨t'',rfl⟩:=r'';refine call_range_3 (by decide) ?_ (.inl (PyProof.noPylong_small (by decide)))
    refine wpAny_pyIter_range (IsRange.new ..) (small_down z1 z2) ?_;have I2:Inv X zv σ H1 { s1 with heap:=s1.heap.push { cls:=.type "range", data:=.fields #[.int i t,.int j t',.int (-1) t''] },toks:=s1.toks }:=I1.kept fun b o e=>aB _ e
    refine⟨(s1.heap.push { cls:=.type "range", data:=.fields #[.int i t,.int j t',.int (-1) t''] }).objs.size,[(s1.heap.push { cls:=.type "range", data:=.fields #[.int i t,.int j t',.int (-1) t''] }).objs.size],_,_,H1,rfl,I2.kept (t':=s1.toks) fun b o e=>aB _ e,aps _ i (i - j).toNat,?_,fun b hb =>?_,q⟩
    ·show IsRangeIter _ _ (i+((0:Nat):Int)*(-1)) ((((i - j).toNat:Nat):Int) - ((0:Nat):Int)) (-1);rw[show i+((0:Nat):Int)*(-1)=i by omega,show(((i - j).toNat:Nat):Int) - ((0:Nat):Int)=lC i j (-1) by rw[aiw];omega]
     exact aL _ rfl
    ·obtain rfl:=cN.mp hb;exact I2.fpOk (aN _) (I2.hok.fresh (aN _))
end
end L2
namespace Dn
open L2 Mn
section
variable{K:Fg9}{X:Cx}{tgt a b c:Expr}{p pos:Pos}
def aj0(lo:Int)(n:Nat):List Int:=(aJ n).map fun i=>lo - ((i:Nat):Int)
theorem abm(lo:Int)(n:Nat):(aj0 lo n).length=n:=by unfold aj0;rw[aU,lL]
theorem arj{lo:Int}{n:Nat}:ItOf (Itdn lo n) ((aj0 lo n).map V.int) fun _=>True :=
 ⟨fun i H _ hi=>by rw[aU,abm] at hi;exact hi,fun i H x H' _ y=>⟨y.1,fun hi=>by
  rw[aU,abm] at hi;rw[y.2];unfold aj0;rw[aO,aO,aY hi];rfl⟩,fun i H _ hi=>by rw[aU,abm] at hi;exact hi⟩
noncomputable def ar3:List D->Option (List D)
 | [.int i,.int j,.int k]=>if k = -1/\i.natAbs < 1000000000/\j.natAbs < 1000000000 then some ((aj0 i (i - j).toNat).map D.int) else none
 | _=>none
@[simp] theorem az1(i j:Int):ar3 [.int i,.int j,.int (-1)]=if i.natAbs < 1000000000/\j.natAbs < 1000000000 then some ((aj0 i (i - j).toNat).map D.int) else none:=by simp[ar3]
theorem ayu{m:M (List D)}(hg:Gl X "range")(hm:X.mg "range" = none)(h:ED K X [a,b,c] m)(hs:aQ [a,b,c] X.env=[(false,eval a X.env),(false,eval b X.env),(false,eval c X.env)]:=by rfl)(hs2:aQ [b,c] X.env=[(false,eval b X.env),(false,eval c X.env)]:=by rfl):IT K X tgt (.Call (.Name "range" p) [a,b,c] [] pos) (mGet ar3 m):=IT.mk fun hk=>by
 intro zv s σ H R I ⟨tg,F,ρ,l,ρ',G,em,q⟩;obtain⟨ds,ρ1,e1,em⟩:=bf em;obtain⟨e2,rfl⟩:=gr em;refine ax1 hg hm (h hk) hs hs2 zv s σ H R I ⟨tg,F,ρ,ds,_,G,e1,fun vs H' F' G' x r =>?_⟩
 unfold ar3 at e2;split at e2
 ·split at e2
  ·rename_i i j k hc;obtain⟨rfl,z1,z2⟩:=hc;cases e2;cases r with
   | cons h1 t =>
    cases t with
    | cons h2 t =>
     cases t with
     | cons h3 t =>
      cases t;cases h1;cases h2;cases h3;exact⟨_,_,rfl,⟨z1,z2⟩,q _ H' F' G' x (.of (adm _) (arj.imp fun _ _=>trivial))⟩
  ·cases e2
 ·cases e2
end
end Dn
namespace Mn
open L2
section
variable{X:Cx}
end
end Mn
namespace Dn
open L2 Mn
section
variable{K:Fg9}{X:Cx}
end
theorem mkSc{N P:List Str}{sc:Scope}(a:sc.kind=.function)(b:sc.isCoroutine=false)(c:sc.isGenerator=false)(e:N.take P.length=P)(d:N.Nodup/\(∀x∈P,sc.names.lookup x=some .local∨sc.names.lookup x=some .cell)/\∀y∈sc.names,y.2≠.free):FnScope N P sc:=⟨a,b,c,d.1,e,d.2.1,d.2.2⟩
section
variable{K:Fg9}{X:Cx}{e a b o:Expr}{es:List Expr}{pos p p2:Pos}
end
theorem _root_.L2.Inv.gh{X:Cx}{zv:List (Addr×Obj)}{σ σ2:L2.St}{H:Hp}{s:aF}(I:Inv X zv σ H s)(hl:σ2.length=σ.length)(h:∀(i:Nat) (x:Str) (v:V),X.N[i]? = some x->σ2[i]? = some (some v)->Vis X.env.scope x->σ[i]? = some (some v)):Inv X zv σ2 H s:=by
 obtain⟨m,hm,hx⟩:=I.loc;exact⟨I.ok,I.os,I.bare,I.base,⟨m,hm,fun i x v e q vis=>hx i x v e (h i x v e q vis) vis⟩,I.cell,I.free,I.freeC,I.pin,I.hok,hl.trans I.len⟩
section
variable{K:Fg9}{X:Cx}{tg:Nat->Addr}{F H:Hp}{ρ:Ro}{σ:L2.St}
end
structure DfnM (P:bJ) (w:World) (K:Fg9) (mg:Str->Option Value) (base:Heap) (c m:Str) (ps:List Str) (k:Nat) (sp:Sp):Prop where
 ex:∃C f fd,nsIn K aH c=some (some (.ref C))/\Cls K C/\Meth K C m f/\FnOk P w K mg base CX0 k f fd ps sp/\Binds K fd ps []
def a1q:Sl->Bool
 | .box _ _=>false
 | _=>true
section
variable{K:Fg9}{X:Cx}{tg:Nat->Addr}{F H F1 H1:Hp}{O O1:Addr->Prop}{ρ:Ro}{σ:L2.St}
inductive FdR (K:Fg9) (F H:Hp) (O:Addr->Prop):List (Str×Rv)->List (Str×V)->List Addr->Prop
 | nil:FdR K F H O [] [] []
 | v {f:Str} {d:D} {v:V} {rs:List (Str×Rv)} {fvs:List (Str×V)} {A:List Addr} (h:Is K F d v) (t:FdR K F H O rs fvs A):FdR K F H O ((f,.v d)::rs) ((f,v)::fvs) A
 | fr {f:Str} {l:List D} {e:Addr} {ws:List V} {rs:List (Str×Rv)} {fvs:List (Str×V)} {A:List Addr} (hf:F e=none) (hn:¬O e) (hh:H e=some (.lst ws)) (h:IsL K F l ws) (ne:e∉A) (t:FdR K F H O rs fvs A):FdR K F H O ((f,.fr l)::rs) ((f,.ref e)::fvs) (e::A)
theorem FdR.step{rs:List (Str×Rv)}{fvs:List (Str×V)}{A:List Addr}(h:FdR K F H O rs fvs A)(x:Ext O O1 F H F1 H1):FdR K F1 H1 O1 rs fvs A:=by
 induction h with
 | nil=>exact .nil
 | v h t ih=>exact .v (h.mono x.sub) ih
 | @fr f l e ws rs fvs A hf hn hh h ne t ih =>
  refine .fr ?_ (fun z =>?_) (x.keep e _ hh hn) (h.mono x.sub) ne ih
  ·cases z:F1 e with
   | none=>rfl
   | some o =>
    rcases x.new e o z with z | z | z
    ·rw[hf] at z;cases z
    ·rw[hh] at z;cases z
    ·exact absurd z hn
  ·rcases x.own e z with z | z
   ·exact hn z
   ·rw[hh] at z;cases z
theorem FdR.out{rs:List (Str×Rv)}{fvs:List (Str×V)}{A:List Addr}(h:FdR K F H O rs fvs A):∀e∈A,¬O e/\F e=none/\∃ws,H e=some (.lst ws)/\∃l,IsL K F l ws:=by
 induction h with
 | nil=>exact fun e he=>absurd he eV
 | v h t ih=>exact ih
 | @fr f l e ws rs fvs A hf hn hh h ne t ih =>
  intro e' he;rcases bF.mp he with rfl | he
  ·exact⟨hn,hf,ws,hh,l,h⟩
  ·exact ih e' he
theorem FdR.upd{rs:List (Str×Rv)}{fvs:List (Str×V)}{A:List Addr}{d:Addr}{o:HO}(h:FdR K F H O rs fvs A)(hd:d∉A):FdR K F (L2.upd H d o) O rs fvs A:=by
 induction h with
 | nil=>exact .nil
 | v h t ih=>exact .v h (ih hd)
 | @fr f l e ws rs fvs A hf hn hh h ne t ih =>
  have h1:d≠e/\d∉A:=⟨fun q=>hd (q▸List.mem_cons_self ..),fun q=>hd (aX _ q)⟩
  exact .fr hf hn (by rw[dj (fO h1.1)];exact hh) h ne (ih h1.2)
def Oa(ρ:Ro)(σ:L2.St)(a:Addr)(A:List Addr):Addr->Prop:=fun z=>Own ρ σ z∨z=a∨z∈A
noncomputable def iniD:List (Str×M Rv)->Ro->Option (List (Str×Rv)×Ro)
 | [],ρ=>some ([],ρ)
 | (f,m)::r,ρ=>match m ρ with
  | some (.ok (.v d),ρ1)=>if (ρ1:List Sl).all a1q=true then (iniD r ρ1).map fun p=>((f,.v d)::p.1,p.2) else none
  | some (.ok (.fr l),ρ1)=>if (ρ1:List Sl).all a1q=true then (iniD r ρ1).map fun p=>((f,.fr l)::p.1,p.2) else none
  | _=>none
def TSi(K:Fg9)(C:Addr)(fms:List (Str×M Rv)):TS:=fun D σ H=>∃tg F ρ a dx rs0 fvs0 A0 rs ρ',Good K tg F H ρ σ/\σ[0]? = some (some (.ref a))/\H a=some (.ins C dx fvs0)/\F a=none/\FdR K F H (Own ρ σ) rs0 fvs0 A0/\fvs0.length+fms.length < 1000 /\
 (∀f∈fms.map (·.1),fvs0.lookup f=none)/\(fms.map (·.1)).Nodup/\iniD fms ρ=some (rs,ρ') /\
 ∀H' F' fvs A,Good K tg F' H' ρ' σ->H' a=some (.ins C dx fvs)->F' a=none->FdR K F' H' (Own ρ' σ) (rs0++rs) fvs A->Ext (Oa ρ σ a A0) (Oa ρ' σ a A) F H F' H'->D.nx σ H'
structure SI (K:Fg9) (X:Cx) (C:Addr) (ss:List Stmt) (fms:List (Str×M Rv)):Prop where
 go:X.K=K->PSs X ss (TSi K C fms)
end
section
variable{K:Fg9}{X:Cx}{tg tg1:Nat->Addr}{F H F1 H1:Hp}{ρ:Ro}{σ:L2.St}
noncomputable def offs(ρ:Ro):List Nat->Ro
 | []=>ρ
 | j::js=>offs (bT ρ j .emp) js
theorem Good.offs(G:Good K tg F H ρ σ):∀{js:List Nat},Good K tg F H (Dn.offs ρ js) σ/\∀z,Own (Dn.offs ρ js) σ z->Own ρ σ z:=fun{js}=>by
 induction js generalizing ρ with
 | nil=>exact⟨G,fun _ h=>h⟩
 | cons j js ih =>
  obtain⟨g,h⟩:=ih (G.drop j);exact⟨g,fun z hz=>(ada (h z hz)).1⟩
end
structure DfnI (P:bJ) (w:World) (K:Fg9) (mg:Str->Option Value) (base:Heap) (c:Str) (ps:List Str) (k:Nat) (sp:Addr->Sp):Prop where
 ex:∃C f fd,nsIn K aH c=some (some (.ref C))/\mg c=some (.ref C)/\Mk K C f/\FnOk P w K mg base CX0 k f fd ps (sp C)/\Binds K fd ps []
theorem Fin.mono{K:Fg9}{F' H':Hp}{τ:L2.St}{ps:Ro}{O O':Addr->Prop}(h:Fin K F' H' τ ps O)(w:∀z,O z->O' z):Fin K F' H' τ ps O':=⟨fun i l e=>let ⟨a,b,c⟩:=h.at' i l e;⟨w _ a,b,c⟩⟩
theorem Ext.imp{O O1 O2:Addr->Prop}{F H F1 H1:Hp}(x:Ext O O1 F H F1 H1)(w:∀z,O2 z->O1 z):Ext O O2 F H F1 H1:=⟨x.sub,x.new,x.keep,fun z h=>x.own z (w z h),x.there⟩
section
variable{K:Fg9}{C:Addr}{fs:List Str}{c f m:Str}
end
def noTf:Rv->Bool
 | .tf _ _=>false
 | _=>true
def a8e(i j:Nat)(m1 m2:M Rv):Sd:=dM m1 fun r1=>dM m2 fun r2 ρ=>if noTf r1=true/\noTf r2=true then some (.nx,bT (bT ρ i r1.sl) j r2.sl) else none
section
variable{K:Fg9}{X:Cx}{tg:Nat->Addr}{F H F1 H1 F2 H2:Hp}{ρ ρ1 ρ2:Ro}{σ:L2.St}{e a b:Expr}{pos:Pos}
end
@[simp] theorem a5h(i j:Nat)(m1 m2:M Rv)(ρ:Ro):a8e i j m1 m2 ρ=dM m1 (fun r1=>dM m2 fun r2 ρ=>if noTf r1=true/\noTf r2=true then some (.nx,bT (bT ρ i r1.sl) j r2.sl) else none) ρ:=rfl
end Dn
namespace Mn
open L2
section
variable{X:Cx}
end
end Mn
namespace Dn
open L2 Mn
section
variable{K:Fg9}{X:Cx}
noncomputable def a71:D->Option Rv
 | .lst l=>(yz l).map fun ns=>.v (.bl ((ns.map fun n=>n != 0).any id))
 | _=>none
@[simp] theorem a2x(l:List D):a71 (.lst l)=(yz l).map fun ns=>.v (.bl ((ns.map fun n=>n != 0).any id)):=rfl
end
section
variable{K:Fg9}{X:Cx}
noncomputable def gAbs:D->Option Rv
 | .int i=>some (.v (.int (if i < 0 then -i else i)))
 | _=>none
@[simp] theorem a5f(i:Int):gAbs (.int i)=some (.v (.int (if i < 0 then -i else i))):=rfl
theorem a3k:CallD K X (.builtin "abs") (g1 gAbs):=cd_one fun hk zv s σ0 H x u Q tg F ρ σ d r I ru G bd eg q=>by
 subst hk;cases d with
 | int i =>
  cases eg;obtain rfl:=bd.int;exact av5 zv s σ0 H [_] [u] Q I (.cons ru .nil) ⟨i,rfl,Res.same G q (.int _)⟩
 | _=>cases eg
end
end Dn
end
namespace Dn
open PySem L2
@[simp] abbrev gL9(d:D):Option Rv:=(itemsD d).map fun l=>.v (.int l.length)
@[simp] abbrev gT9(d:D):Option Rv:=(itemsD d).map fun l=>.v (.tup l)
end Dn
namespace My
open PySem L2 Mn Dn
def NS:List Str:=["ArrowError","NoArrows","NoRoom","NoWalkers","NotShut","NeverBack","NoTour","NoRow","NoHouse","NotOpen","Nobody","NoText","TooGreat"]
def ahb:Sd :=
 (dRet (M.v (mAnd (mIsi .int (dw 0)) (mUn gNot (mIsi .bool (dw 0))))))
def aaj:Fd:=fnD 1 1 ahb
def aag:Sd :=
 (dRet (M.v (mAnd (M.d (mFn aaj [some 0] (fu 0 gn))) (ajh (fun i j=>decide (i<=j)) (fun i j=>decide (i<=j)) (mVar 1) (mVar 0) (mVar 2)))))
def lg:Fd:=fnD 3 3 aag
def aah:Sd :=
 (dRet (M.v (mAnd (mIsi .tuple (dw 0)) (ajh (fun i j=>decide (i<=j)) (fun i j=>decide (i<=j)) (mVar 1) (M.d (jk (g1 gL9) (jl 0 mNil))) (mVar 2)))))
def lq:Fd:=fnD 3 3 aah
def acl:Sd :=
 (dIf (j7 (gEq true) (gj (M.d (mOp gIx (gj (M.d (mOp gIx (bj 0 (dw 2)))) (dw 1)))) (ret (.int 0)))) (dRet (af2 2)) dNx)
def ag9:Sd :=
 (dSeq (dFor (mGet aid (aq (mVar 1) (aq (M.d (jk (g1 gL9) (jl 0 mNil))) mNil))) (cj 2) acl) (dRet (M.v (ret .non))))
def aai:Fd:=fnD 3 2 ag9
def aeg:M D :=
 (M.d (jk (g1 fun d=>(itemsD d).map fun l=>.fr l) (jl 0 mNil)))
def ao2:M D :=
 (mUn gNeg (mVar 0))
def ajq:Sd :=
 (dSeq (dSet 3 (ud [none] (qd (mVar 0)) (cj 0) (ret true) aeg)) (dSeq (dIf (j7 (gEq true) (bj 1 (dw 2))) (dSeq (dSub 3 (mVar 1) (M.d (jk (g1 fun d=>(itemsD d).map fun l=>.fr l) (aq (M.d (mOp gIx (bj 0 (dw 2)))) mNil)))) (dSub 3 (mVar 2) (M.d (ud [none] (qd (M.d (mOp gIx (bj 0 (dw 1))))) (cj 0) (ret true) ao2)))) dNx) (dRet (af2 3))))
def abi:Fd:=fnD 4 3 ajq
def ab0:M D :=
 (M.d (mOp (gInt fDiv) (gj (M.d (mOp (gInt fSub) (gj (M.d (mOp gMul (gj (M.d (mOp gIx (bj 3 (dw 5)))) (dw 0)))) (M.d (mOp gMul (gj (M.d (mOp gIx (bj 2 (dw 5)))) (dw 1))))))) (dw 4))))
def abx:Sd :=
 (dIf (j7 (gEq false) (bj 5 (dw 1))) (ae6 (M.v (mMut 4 acq (aq (M.d (jk (g1 fun d=>(itemsD d).map fun l=>.fr l) (jl 3 mNil))) mNil)))) (ae6 (M.v (mMut 4 acq (aq (M.d (ud [none,none,some 6,some 3,some 2,some 1] (mGet alf (aq (mVar 6) (aq (mVar 3) mNil))) (bTup 2 (jm (cj 0) (jm (cj 1) bNil))) (ret true) ab0)) mNil)))))
def ajr:Sd :=
 (dSeq (dSet 3 (mOp gIx (bj 0 (dw 1)))) (dSeq (dSet 4 (mLst mNil)) (dSeq (dFor (mGet ar0 (aq (mVar 0) mNil)) (bTup 2 (jm (cj 5) (jm (cj 6) bNil))) abx) (dRet (af2 4)))))
def abj:Fd:=fnD 7 3 ajr
def adt:M D :=
 (M.d (mOp gAdd (gj (M.d (jk (g1 fun d=>(itemsD d).map fun l=>.fr l) (jl 0 mNil))) (M.d (mLst (aq (mVar 1) mNil))))))
def adk:Sd :=
 (dSeq (dSet 5 (mFn aai [some 2,none] (fu 2 (bu (mVar 4) gn)))) (dSeq (dIf (zx (mIsN false (dw 5))) (dRet (M.v (ret .non))) dNx) (dSeq (dSet 2 (mFn abi [none,none,none] (bu (mVar 2) (bu (mVar 4) (bu (mVar 5) gn))))) (dSeq (dSet 2 (mFn abj [none,some 4,some 3] (bu (mVar 2) (fu 4 (fu 3 gn))))) (dSet 3 (mOp gIx (gj (M.d (mOp gIx (bj 2 (dw 4)))) (dw 4))))))))
def agi:M D :=
 (M.d (mOp gIx (bj 0 (M.d (jk (g1 gL9) (jl 1 mNil))))))
def amz:Sd :=
 (dSeq (dSet 2 (ud [none,none] (mGet alf (aq (mVar 0) (aq (mVar 1) mNil))) (bTup 2 (jm (cj 0) (jm (cj 1) bNil))) (ret true) adt)) (dSeq (dSet 3 (M.v (ret (.int 1)))) (dSeq (dFor (mGet u6 (aq (M.d (jk (g1 gL9) (jl 0 mNil))) mNil)) (cj 4) adk) (dRet (M.v (mTup (aq (M.d (ud [none,some 0] (qd (mVar 2)) (cj 0) (ret true) agi)) (aq (mVar 3) mNil))))))))
def adp:Fd:=fnD 6 2 amz
def uo:M Bool :=
 (j7 (gEq true) (bj 3 (ret (.int 0))))
def um:Sd :=
 (dSeq (dSet 4 (mOp (gInt fMod) (bj 1 (dw 3)))) (dSeq (dSet 1 (M.v (mVar 3))) (dSet 3 (M.v (mVar 4)))))
def l1_common_divisor:Sd :=
 (dSeq (dSet 3 (jk (g1 gAbs) (jl 2 mNil))) (whileD uo um fuel))
def aa2:Sd :=
 (dSeq (dSet 1 (M.v (ret (.int 0)))) (dSeq (dFor (qd (mVar 0)) (cj 2) l1_common_divisor) (dRet (af2 1))))
def my:Fd:=fnD 5 1 aa2
def yu:M D :=
 (mUn gNeg (aeu 1 (aq (mVar 0) mNil)))
def l1_doors_square:Sd :=
 (dSeq (dSet 4 (ud [none,some 3] (mGet u6 (aq (M.d (jk (g1 gL9) (jl 0 mNil))) mNil)) (cj 0) (ret true) yu)) (dSeq (alr (fun i j=>i+j) 4 (mVar 2) (M.d (jk (g1 gL9) (jl 3 mNil)))) (ae6 (M.v (mMut 1 acq (aq (mVar 4) mNil))))))
def ab6:Sd :=
 (dSeq (dSet 1 (mLst mNil)) (dSeq (dFor (mGet ar0 (aq (mVar 0) mNil)) (bTup 2 (jm (cj 2) (jm (cj 3) bNil))) l1_doors_square) (dRet (af2 1))))
def qu:Fd:=fnD 5 1 ab6
def ahc:Sd :=
 (dSeq (dSet 2 (mFn my [none] (bu (M.d (mLst (aq (mVar 0) (aq (mVar 1) mNil)))) gn))) (dSeq (dIf (j7 (gCmp fun i j=>decide (i < j)) (bj 1 (ret (.int 0)))) (dSet 2 (M.v (mUn gNeg (mVar 2)))) dNx) (dRet (M.v (mTup (aq (M.d (mOp (gInt fDiv) (bj 0 (dw 2)))) (aq (M.d (mOp (gInt fDiv) (bj 1 (dw 2)))) mNil)))))))
def qm:Fd:=fnD 3 2 ahc
def arp:Sd :=
 (dRet (M.v (mTup (aq (mVar 0) (aq (ret (.int 1)) mNil)))))
def agb:Fd:=fnD 1 1 arp
def arq:Sd :=
 (dRet (mFn qm [none,none] (bu (M.d (mOp gMul (bj 0 (M.d (mOp gIx (bj 1 (ret (.int 0)))))))) (bu (M.d (mOp gIx (bj 1 (ret (.int 1))))) gn))))
def acs:Fd:=fnD 2 2 arq
def ars:Sd :=
 (dRet (mFn qm [none,none] (bu (M.d (mOp gAdd (gj (M.d (mOp gMul (gj (M.d (mOp gIx (bj 0 (ret (.int 0))))) (M.d (mOp gIx (bj 1 (ret (.int 1)))))))) (M.d (mOp gMul (gj (M.d (mOp gIx (bj 1 (ret (.int 0))))) (M.d (mOp gIx (bj 0 (ret (.int 1))))))))))) (bu (M.d (mOp gMul (gj (M.d (mOp gIx (bj 0 (ret (.int 1))))) (M.d (mOp gIx (bj 1 (ret (.int 1)))))))) gn))))
def aee:Fd:=fnD 2 2 ars
def adi:Sd :=
 (dSet 1 (mFn aee [some 1,some 2] (fu 1 (fu 2 gn))))
def amy:Sd :=
 (dSeq (dSet 1 (mFn agb [none] (bu (ret (.int 0)) gn))) (dSeq (dFor (qd (mVar 0)) (cj 2) adi) (dRet (af2 1))))
def ado:Fd:=fnD 3 1 amy
def aln:M D :=
 (M.d (mOp (gIn false) (bj 0 (dw 1))))
def ain:M Bool :=
 (zx (M.d (jk (g1 gAll) (aq (M.d (ud [none,some 1] (qd (M.d (mOp gIx (bj 2 (dw 0))))) (cj 0) (ret true) aln)) mNil))))
def alm:M D :=
 (mVar 0)
def aho:M Bool :=
 (j7 (gCmp fun i j=>decide (i < j)) (gj (M.d (jk (g1 gL9) (jl 1 mNil))) (dw 2)))
def ahm:Sd :=
 (dSeq (dSet 2 (jk (g1 gL9) (jl 1 mNil))) (dSet 1 (ud [none,some 1,some 0] (qd (mVar 1)) (cj 0) ain alm)))
def awt:Sd :=
 (dSeq (dSet 1 (ad8 (aq (M.d (jk (g1 gL9) (jl 0 mNil))) mNil))) (dSeq (dSet 2 (mOp gAdd (gj (M.d (jk (g1 gL9) (jl 1 mNil))) (ret (.int 1))))) (dSeq (whileD aho ahm fuel) (dRet (jk (g1 gT9) (jl 1 mNil))))))
def ajt:Fd:=fnD 3 1 awt
def u5:Sd :=
 (dSeq (dOk (dSet 1 (mFn ajt [some 0] (fu 0 gn)))) (dIf (okS (j7 (gEq true) (bj 1 (mTup mNil)))) (acx "NotOpen" "room" (okS (M.d (mOp gIx (bj 1 (ret (.int 0))))))) dNx))
def gk:Fd:=fnD 2 1 u5
def aav:M D :=
 (M.d (mFn lg [some 0,none,some 1] (fu 0 (bu (ret (.int 0)) (fu 1 gn)))))
def abh:Sd :=
 (dSeq (dIf (ad9 (zx (M.d (mFn lq [some 1,none,none] (fu 1 (bu (M.d (jk (g1 gL9) (jl 0 mNil))) (bu (M.d (jk (g1 gL9) (jl 0 mNil))) gn))))))) (dRet (M.v (ret (.bl false)))) dNx) (dRet (jk (g1 gAll) (aq (M.d (ud [none,some 2] (qd (mVar 1)) (cj 0) (ret true) aav)) mNil))))
def qg:Fd:=fnD 3 3 abh
def mq:Sd :=
 (dIf (okS (ad9 (zx (M.d (mFn qg [some 0,none,none] (fu 0 (bu (mVar 1) (bu (ret (.int 100)) gn)))))))) (aj2 ⟨"NoWalkers", []⟩) dNx)
def dz:Fd:=fnD 2 2 mq
def acw:M D :=
 (aeu 0 (aq (mVar 1) mNil))
def acv:M D :=
 (M.d (mFn qm [some 0,none] (fu 0 (bu (M.d (mOp gIx (bj 1 (ret (.int 1))))) gn))))
def aha:Sd :=
 (dSeq (dSet 2 (mFn adp [none,none] (bu (M.d (mFn qu [none] (bu (mVar 0) gn))) (bu (M.d (ud [none,some 1] (qd (mVar 0)) (cj 0) (ret true) acw)) gn)))) (dRet (jk (g1 gT9) (aq (M.d (ud [none,some 2] (qd (M.d (mOp gIx (bj 2 (ret (.int 0)))))) (cj 0) (ret true) acv)) mNil))))
def ym:Fd:=fnD 3 2 aha
def am0:Sd :=
 (dSeq (ae6 (mFn gk [some 0] (fu 0 gn))) (dOk (dRet (mFn ym [none,some 1] (bu (mVar 0) (fu 1 gn))))))
def aat:Fd:=fnD 2 2 am0
def zm:M D :=
 (M.d (mFn acs [some 0,some 1] (fu 0 (fu 1 gn))))
def af8:Sd :=
 (dRet (mFn ado [none] (bu (M.d (ud [none,none] (mGet alf (aq (mVar 1) (aq (mVar 0) mNil))) (bTup 2 (jm (cj 0) (jm (cj 1) bNil))) (ret true) zm)) gn)))
def yq:Fd:=fnD 2 2 af8
def aby:Sd :=
 (dSeq (ae6 (mFn dz [some 0,none] (fu 0 (bu (okS (mVar 2)) gn)))) (dSeq (ae6 (mFn gk [some 0] (fu 0 gn))) (dOk (dRet (mFn yq [none,none] (bu (M.d (mFn ym [none,some 1] (bu (mVar 0) (fu 1 gn)))) (bu (mVar 2) gn)))))))
def km:Fd:=fnD 3 3 aby
def acp:Sd :=
 (dSeq (dIf (j7 (gCmp fun i j=>decide (i < j)) (bj 1 (M.d (jk (g1 gL9) (jl 0 mNil))))) (dRet (mOp gIx (bj 0 (dw 1)))) dNx) (dRet (M.v (ret (.int 0)))))
def f__law_cell:Fd:=fnD 2 2 acp
def ahd:Sd :=
 (dSeq (dSet 1 (jk (g2 (gInt fun i j=>some (if j > i then j else i))) (jl 0 (aq (M.d (mOp (gInt fSub) (gj (ret (.int 0)) (dw 0)))) mNil)))) (dRet (mLst (aq (mVar 1) (aq (M.d (jk (g1 avu) (aq (M.d (mOp (gCmp fun i j=>decide (j<=i)) (bj 1 (M.d (mOp (gInt fPow) (gj (ret (.int 10)) (ret (.int 18)))))))) mNil))) mNil)))))
def f__law_pen:Fd:=fnD 2 1 ahd
def aco:Sd :=
 (dSeq (dIf (j7 (gEq false) (gj (M.d (mOp gIx (bj 0 (ret (.int 1))))) (ret (.int 1)))) (dSeq (dAsg (M.d (jk (g2 aif) (aq (M.d (mOp gIx (bj 0 (ret (.int 0))))) (jl 1 mNil)))) (bTup 2 (jm (cj 2) (jm (cj 3) bNil)))) (dSeq (dSub 0 (ret (.int 0)) (mVar 2)) (dRet (af2 3)))) dNx) (dSeq (dSet 4 (mOp (gInt fMod) (gj (M.d (mOp gMul (gj (M.d (mOp gAdd (gj (M.d (mOp (gInt fMod) (gj (M.d (mOp gIx (bj 0 (ret (.int 0))))) (ret (.int 2147483647))))) (ret (.int 40503))))) (ret (.int 69621))))) (ret (.int 2147483629))))) (dSeq (dSet 4 (mOp (gInt fMod) (gj (M.d (mOp gAdd (gj (M.d (mOp gMul (bj 4 (dw 4)))) (ret (.int 7817))))) (ret (.int 2147483587))))) (dSeq (dSub 0 (ret (.int 0)) (M.d (mOp (gInt fMod) (gj (M.d (mOp gAdd (gj (M.d (mOp gMul (bj 4 (ret (.int 48271))))) (ret (.int 11))))) (ret (.int 2147483629)))))) (dRet (mOp (gInt fMod) (gj (M.d (mOp (gInt fDiv) (gj (M.d (mOp gIx (bj 0 (ret (.int 0))))) (ret (.int 32))))) (dw 1))))))))
def f__law_draw:Fd:=fnD 5 2 aco
def aey:Sd :=
 (dRet (M.v (mAnd (mIsi .int (dw 0)) (mUn gNot (mIsi .bool (dw 0))))))
def j8:Fd:=fnD 1 1 aey
def ahe:Sd :=
 (dSeq (dSet 1 (mLst (aq (ret .non) (aq (ret (.bl true)) (aq (ret (.bl false)) (aq (mUn gNeg (ret (.int 1))) (aq (ret (.str "1")) (aq (ret (.str "")) (aq (mTup mNil) (aq (M.d (mLst mNil)) (aq (mTup (aq (ret (.int 0)) mNil)) (aq (M.d (mLst (aq (ret (.int 0)) mNil))) (aq (ret (.dct [(lZ "a", .int 1)])) (aq (mTup (aq (ret (.int 0)) (aq (ret (.int 1)) mNil))) (aq (M.d (mOp (gInt fPow) (gj (ret (.int 10)) (ret (.int 30))))) (aq (mTup (aq (mTup (aq (ret (.int 0)) mNil)) mNil)) (aq (ret (.str "ab")) mNil))))))))))))))))) (dRet (mOp gIx (gj (M.d (mOp gAdd (bj 1 (M.d (mLst (aq (mTup (aq (mTup (aq (mUn gNeg (ret (.int 1))) mNil)) (aq (mTup (aq (ret (.int 0)) (aq (ret (.int 1)) mNil))) mNil))) mNil)))))) (M.d (mFn f__law_draw [some 0,none] (fu 0 (bu (ret (.int 16)) gn))))))))
def f__law_odd:Fd:=fnD 2 1 ahe
def aaw:M D :=
 (M.d (mOp (gInt fSub) (gj (M.d (mFn f__law_draw [some 1,none] (fu 1 (bu (M.d (mOp gAdd (bj 2 (dw 3)))) gn)))) (dw 3))))
def aap:Sd :=
 (dSeq (dSet 7 (mOp gAdd (gj (ret (.int 1)) (M.d (mFn f__law_draw [some 0,some 2] (fu 0 (fu 2 gn))))))) (ae6 (M.v (mMut 5 acq (aq (M.d (jk (g1 gT9) (aq (M.d (ud [none,some 0,some 3,some 4] (mGet u6 (aq (mVar 7) mNil)) (cj 0) (ret true) aaw)) mNil))) mNil)))))
def ae1:Sd :=
 (dSeq (dSet 3 (mOp gAdd (gj (ret (.int 1)) (M.d (mFn f__law_draw [some 0,some 1] (fu 0 (fu 1 gn))))))) (dSeq (dSet 4 (mOp gIx (gj (M.d (mLst (aq (ret (.int 0)) (aq (ret (.int 1)) (aq (ret (.int 3)) (aq (ret (.int 3)) mNil)))))) (M.d (mFn f__law_draw [some 0,none] (fu 0 (bu (ret (.int 4)) gn))))))) (dSeq (dSet 5 (mLst mNil)) (dSeq (dFor (mGet u6 (aq (mVar 3) mNil)) (cj 6) aap) (dRet (jk (g1 gT9) (jl 5 mNil)))))))
def f__law_house:Fd:=fnD 8 3 ae1
def yx:M Bool :=
 (j7 (gIn true) (bj 0 (dw 1)))
def yw:M D :=
 (mVar 0)
def oh:M Bool :=
 (j7 (gCmp fun i j=>decide (i < j)) (bj 3 (M.d (jk (g1 gL9) (jl 2 mNil)))))
def j4:Sd :=
 (dSeq (dIf (j7 (gCmp fun i j=>decide (j<=i)) (gj (M.d (mOp gIx (bj 2 (dw 3)))) (ret (.int 0)))) (dSet 2 (mOp gAdd (bj 2 (M.d (ud [none,some 2] (qd (M.d (jk (g1 gSet) (aq (M.d (mOp gIx (bj 0 (M.d (mOp gIx (bj 2 (dw 3))))))) mNil)))) (cj 0) yx yw))))) dNx) (dSet 3 (mOp gAdd (bj 3 (ret (.int 1))))))
def ab8:Sd :=
 (dSeq (dSet 2 (mLst (aq (mVar 1) mNil))) (dSeq (dSet 3 (M.v (ret (.int 0)))) (dSeq (whileD oh j4 fuel) (dRet (af2 2)))))
def m9:Fd:=fnD 4 2 ab8
def l1__law_open:Sd :=
 (dIf (j7 (gCmp fun i j=>decide (j<=i)) (gj (M.d (jk (g1 avt) (aq (M.d (mFn m9 [some 3,none] (fu 3 (bu (mVar 4) gn)))) mNil))) (ret (.int 0)))) (dSeq (dSet 5 (mFn f__law_draw [some 0,none] (fu 0 (bu (M.d (jk (g1 gL9) (aq (M.d (mOp gIx (bj 3 (dw 4)))) mNil))) gn)))) (dSub 3 (mVar 4) (M.d (mOp gAdd (gj (M.d (mOp gAdd (gj (M.d (mCut (M.d (mOp gIx (bj 3 (dw 4)))) (ret none) (ah9 (mVar 5)))) (mTup (aq (M.d (mOp (gInt fSub) (gj (mUn gNeg (ret (.int 1))) (M.d (mFn f__law_draw [some 0,none] (fu 0 (bu (ret (.int 3)) gn))))))) mNil))))) (M.d (mCut (M.d (mOp gIx (bj 3 (dw 4)))) (ah9 (M.d (mOp gAdd (bj 5 (ret (.int 1)))))) (ret none)))))))) dNx)
def af9:Sd :=
 (dSeq (dSet 3 (jk (g1 fun d=>(itemsD d).map fun l=>.fr l) (aq (M.d (mFn f__law_house [some 0,some 1,some 2] (fu 0 (fu 1 (fu 2 gn))))) mNil))) (dSeq (dFor (mGet u6 (aq (M.d (jk (g1 gL9) (jl 3 mNil))) mNil)) (cj 4) l1__law_open) (dRet (jk (g1 gT9) (jl 3 mNil)))))
def f__law_open:Fd:=fnD 6 3 af9
def ale:Sd :=
 (dSeq (dSet 1 (mLst (aq (mIsC NS "NoArrows" (dw 0)) (aq (mIsC NS "NoRoom" (dw 0)) (aq (mIsC NS "NoWalkers" (dw 0)) (aq (mIsC NS "NotShut" (dw 0)) mNil)))))) (dSeq (dSet 1 (mOp gAdd (bj 1 (M.d (mLst (aq (mIsC NS "NeverBack" (dw 0)) (aq (mIsC NS "NoTour" (dw 0)) (aq (mIsC NS "NoRow" (dw 0)) (aq (mIsC NS "NoHouse" (dw 0)) mNil))))))))) (dSeq (dSet 1 (mOp gAdd (bj 1 (M.d (mLst (aq (mIsC NS "NotOpen" (dw 0)) (aq (mIsC NS "Nobody" (dw 0)) (aq (mIsC NS "NoText" (dw 0)) (aq (mIsC NS "TooGreat" (dw 0)) mNil))))))))) (dSeq (dIf (mOrB (ad9 (zx (mIsC NS "ValueError" (dw 0)))) (j7 (gEq true) (gj (aeu 1 (aq (ret (.bl true)) mNil)) (ret (.int 1))))) (dRet (M.v (ret (.str "other")))) dNx) (dSeq (dSet 2 (mLst (aq (ret (.str "arrows")) (aq (ret (.str "room")) (aq (ret (.str "walkers")) (aq (ret (.str "shut")) (aq (ret (.str "never")) (aq (ret (.str "tour")) (aq (ret (.str "row")) (aq (ret (.str "house")) (aq (ret (.str "open")) (aq (ret (.str "nobody")) mNil)))))))))))) (dRet (mOp gIx (gj (M.d (mOp gAdd (bj 2 (M.d (mLst (aq (ret (.str "text")) (aq (ret (.str "great")) mNil))))))) (ayp 1 arv (aq (ret (.bl true)) mNil))))))))))
def qi:Fd:=fnD 3 1 ale
def acb:M Bool :=
 (j7 (gEq true) (bj 3 (ret (.int 0))))
def aca:Sd :=
 (dPar 2 3 (aq (mVar 3) (aq (M.d (mOp (gInt fMod) (bj 2 (dw 3)))) mNil)))
def ahf:Sd :=
 (dSeq (dPar 2 3 (aq (M.d (jk (g2 (gInt fun i j=>some (if j > i then j else i))) (jl 0 (aq (M.d (mOp (gInt fSub) (gj (ret (.int 0)) (dw 0)))) mNil)))) (aq (M.d (jk (g2 (gInt fun i j=>some (if j > i then j else i))) (jl 1 (aq (M.d (mOp (gInt fSub) (gj (ret (.int 0)) (dw 1)))) mNil)))) mNil))) (dSeq (whileD acb aca fuel) (dSeq (dSet 2 (jk (g2 (gInt fun i j=>some (if j > i then j else i))) (aq (ret (.int 1)) (jl 2 mNil)))) (dSeq (dIf (j7 (gCmp fun i j=>decide (i < j)) (bj 1 (ret (.int 0)))) (dSet 2 (mOp (gInt fSub) (gj (ret (.int 0)) (dw 2)))) dNx) (dRet (M.v (mTup (aq (M.d (mOp (gInt fDiv) (bj 0 (dw 2)))) (aq (M.d (mOp (gInt fDiv) (bj 1 (dw 2)))) mNil)))))))))
def j0:Fd:=fnD 4 2 ahf
def qe:Sd :=
 (dAsg (M.d (mFn j0 [none,none] (bu (M.d (mOp gAdd (gj (M.d (mOp gMul (bj 1 (M.d (mOp gIx (bj 3 (ret (.int 1)))))))) (M.d (mOp gMul (gj (M.d (mOp gIx (bj 3 (ret (.int 0))))) (dw 2))))))) (bu (M.d (mOp gMul (bj 2 (M.d (mOp gIx (bj 3 (ret (.int 1)))))))) gn)))) (bTup 2 (jm (cj 1) (jm (cj 2) bNil))))
def aed:Sd :=
 (dSeq (dAsg (mTup (aq (ret (.int 0)) (aq (ret (.int 1)) mNil))) (bTup 2 (jm (cj 1) (jm (cj 2) bNil)))) (dSeq (dFor (qd (mVar 0)) (cj 3) qe) (dRet (M.v (mTup (aq (mVar 1) (aq (mVar 2) mNil)))))))
def qp:Fd:=fnD 4 1 aed
def aez:Sd :=
 (dRet (mFn j0 [none,none] (bu (M.d (mOp gMul (gj (M.d (mOp gIx (bj 0 (ret (.int 0))))) (dw 1)))) (bu (M.d (mOp gIx (bj 0 (ret (.int 1))))) gn))))
def t8:Fd:=fnD 2 2 aez
def z8:M D :=
 (mTup (aq (M.d (mOp (gInt fSub) (gj (ret (.int 0)) (aeu 1 (aq (mVar 0) mNil))))) (aq (ret (.int 1)) mNil)))
def l1__law_solved:Sd :=
 (dSeq (dSet 6 (mOp gAdd (gj (M.d (ud [none,some 5] (mGet u6 (aq (mVar 2) mNil)) (cj 0) (ret true) z8)) (M.d (mLst (aq (mTup (aq (aeu 5 (aq (mVar 1) mNil)) (aq (ret (.int 1)) mNil))) mNil)))))) (dSeq (dSub 6 (mVar 4) (mTup (aq (M.d (mOp (gInt fSub) (gj (M.d (jk (g1 gL9) (jl 5 mNil))) (aeu 5 (aq (mVar 4) mNil))))) (aq (ret (.int 1)) mNil)))) (ae6 (M.v (mMut 3 acq (aq (mVar 6) mNil))))))
def nu:M D :=
 (M.d (mFn j0 [none,none] (bu (M.d (mOp gMul (gj (M.d (mOp gIx (bj 0 (ret (.int 0))))) (M.d (mOp gIx (bj 1 (ret (.int 1)))))))) (bu (M.d (mOp gMul (gj (M.d (mOp gIx (bj 0 (ret (.int 1))))) (M.d (mOp gIx (bj 1 (ret (.int 0)))))))) gn))))
def nj:M D :=
 (M.d (mFn j0 [none,none] (bu (M.d (mOp (gInt fSub) (gj (ret (.int 0)) (M.d (mOp gMul (gj (M.d (mOp gIx (bj 0 (ret (.int 0))))) (M.d (mOp gIx (bj 1 (ret (.int 0))))))))))) (bu (M.d (mOp gMul (gj (M.d (mOp gIx (bj 0 (ret (.int 1))))) (M.d (mOp gIx (bj 1 (ret (.int 1)))))))) gn))))
def vm:M D :=
 (M.d (mFn qp [none] (bu (M.d (mLst (aq (mVar 0) (aq (mVar 1) mNil)))) gn)))
def l2__law_solved:Sd :=
 (dIf (j7 (gEq true) (bj 8 (dw 4))) (dSeq (dSet 9 (mOp gIx (gj (M.d (mOp gIx (bj 3 (dw 8)))) (dw 4)))) (dSeq (dSet 10 (ud [none,some 9] (qd (M.d (mOp gIx (bj 3 (dw 4))))) (cj 0) (ret true) nj)) (dSub 3 (mVar 8) (M.d (ud [none,none] (mGet alf (aq (M.d (mOp gIx (bj 3 (dw 8)))) (aq (mVar 10) mNil))) (bTup 2 (jm (cj 0) (jm (cj 1) bNil))) (ret true) vm))))) dNx)
def vh:Sd :=
 (dSeq (dSet 7 (mOp gIx (gj (M.d (mOp gIx (bj 3 (dw 4)))) (dw 4)))) (dSeq (dSub 3 (mVar 4) (M.d (ud [none,some 7] (qd (M.d (mOp gIx (bj 3 (dw 4))))) (cj 0) (ret true) nu))) (dFor (mGet u6 (aq (mVar 2) mNil)) (cj 8) l2__law_solved)))
def z7:M D :=
 (M.d (mOp gIx (bj 0 (dw 1))))
def adn:Sd :=
 (dSeq (dSet 2 (jk (g1 gL9) (jl 0 mNil))) (dSeq (dSet 3 (mLst mNil)) (dSeq (dFor (mGet ar0 (aq (mVar 0) mNil)) (bTup 2 (jm (cj 4) (jm (cj 5) bNil))) l1__law_solved) (dSeq (dFor (mGet ar3 (aq (M.d (mOp (gInt fSub) (bj 2 (ret (.int 1))))) (aq (mUn gNeg (ret (.int 1))) (aq (mUn gNeg (ret (.int 1))) mNil)))) (cj 4) vh) (dRet (jk (g1 gT9) (aq (M.d (ud [none,some 2] (qd (mVar 3)) (cj 0) (ret true) z7)) mNil)))))))
def ug:Fd:=fnD 11 2 adn
def sr:M D :=
 (M.d (mFn j8 [some 0] (fu 0 gn)))
def zj:Sd :=
 (dSeq (dIf (mOrB (ad9 (zx (mIsi .tuple (dw 0)))) (mOrB (j7 (gEq true) (gj (M.d (jk (g1 gL9) (jl 0 mNil))) (ret (.int 2)))) (ad9 (zx (M.d (jk (g1 gAll) (aq (M.d (ud [none] (qd (mVar 0)) (cj 0) (ret true) sr)) mNil))))))) (dRet (M.v (ret (.bl false)))) dNx) (dRet (M.v (mAnd (M.d (mOp (gCmp fun i j=>decide (j < i)) (gj (M.d (mOp gIx (bj 0 (ret (.int 1))))) (ret (.int 0))))) (M.d (mOp (gEq false) (gj (M.d (mFn j0 [none,none] (bu (M.d (mOp gIx (bj 0 (ret (.int 0))))) (bu (M.d (mOp gIx (bj 0 (ret (.int 1))))) gn)))) (dw 0))))))))
def jq:Fd:=fnD 1 1 zj
def abf:Sd :=
 (dSeq (dIf (j7 (gEq false) (gj (M.d (mFn qi [some 3] (fu 3 gn))) (ret (.str "open")))) (dRet (M.v (mTup (aq (ret (.str "open")) (aq (M.d (mIf (zx (M.d (mFn j8 [none] (bu (mFld ["NotOpen"] "room" (mVar 3)) gn)))) (M.v (mFld ["NotOpen"] "room" (mVar 3))) (M.v (ret .non)))) mNil))))) dNx) (dRet (M.v (mTup (aq (M.d (mFn qi [some 3] (fu 3 gn))) (aq (ret .non) mNil))))))
def aas:Sd :=
 (dTry NS (dRet (M.v (mTup (aq (okS (ret (.str "told"))) (aq (M.d (mFn km [none,some 1,none] (bu (okS (mVar 0)) (fu 1 (bu (okS (mVar 2)) gn))))) mNil))))) 3 abf)
def jj:Fd:=fnD 4 3 aas
def xm:M D :=
 (M.d (mFn t8 [some 0,some 1] (fu 0 (fu 1 gn))))
def ae0:Sd :=
 (dSeq (dSet 3 (mFn qp [none] (bu (M.d (ud [none,none] (mGet alf (aq (M.d (mFn ug [none,none] (bu (mVar 0) (bu (mVar 1) gn)))) (aq (mVar 2) mNil))) (bTup 2 (jm (cj 0) (jm (cj 1) bNil))) (ret true) xm)) gn))) (dSeq (dAsg (M.d (mFn jj [none,some 1,none] (bu (mVar 0) (fu 1 (bu (mVar 2) gn))))) (bTup 2 (jm (cj 4) (jm (cj 5) bNil)))) (dSeq (dIf (mOrB (j7 (gEq true) (bj 4 (ret (.str "told")))) (mOrB (ad9 (zx (M.d (mFn jq [none] (bu (mVar 5) gn))))) (j7 (gEq true) (bj 5 (dw 3))))) (dRet (M.v (ret (.bl false)))) dNx) (dRet (mOp (gEq false) (gj (M.d (mFn jj [none,some 1,none] (bu (mVar 0) (fu 1 (bu (mVar 2) gn))))) (mTup (aq (mVar 4) (aq (mVar 5) mNil)))))))))
def jx:Fd:=fnD 6 3 ae0
def abg:Sd :=
 (dRet (M.v (mAnd (M.d (mOp (gEq false) (gj (M.d (mFn qi [some 3] (fu 3 gn))) (ret (.str "open"))))) (mAnd (M.d (mFn j8 [none] (bu (mFld ["NotOpen"] "room" (mVar 3)) gn))) (M.d (mOp (gEq false) (gj (mFld ["NotOpen"] "room" (mVar 3)) (dw 2))))))))
def ab7:Sd :=
 (dSeq (dTry NS (ae6 (mFn aat [none,some 1] (bu (okS (mVar 0)) (fu 1 gn)))) 3 abg) (dRet (M.v (ret (.bl false)))))
def qw:Fd:=fnD 4 3 ab7
def am8:M D :=
 (M.d (mFn f__law_draw [some 1,none] (fu 1 (bu (M.d (mOp gIx (gj (M.d (mLst (aq (ret (.int 3)) (aq (ret (.int 101)) mNil)))) (M.d (mFn f__law_draw [some 1,none] (fu 1 (bu (ret (.int 2)) gn))))))) gn))))
def asl:M D :=
 (ret (.int 0))
def as9:M Bool :=
 (j7 (gCmp fun i j=>decide (j<=i)) (gj (M.d (jk (g1 avt) (aq (M.d (mFn m9 [some 1,some 0] (fu 1 (fu 0 gn)))) mNil))) (ret (.int 0))))
def asj:M D :=
 (mVar 0)
def amr:Sd :=
 (dIf (j7 (gEq true) (gj (M.d (mFn jj [none,some 4,none] (bu (mVar 3) (fu 4 (bu (mVar 9) gn))))) (mTup (aq (ret (.str "walkers")) (aq (ret .non) mNil))))) (dRet (M.v (ret (.bl false)))) dNx)
def awy:M D :=
 (ret (.int 0))
def l2_law:Sd :=
 (dSeq (dSet 2 (mFn f__law_pen [some 1] (fu 1 gn))) (dSeq (dSet 3 (mFn f__law_open [some 2,none,none] (fu 2 (bu (ret (.int 5)) (bu (ret (.int 4)) gn))))) (dSeq (dSet 4 (mOp (gInt fSub) (gj (mUn gNeg (ret (.int 1))) (M.d (mFn f__law_draw [some 2,none] (fu 2 (bu (ret (.int 3)) gn))))))) (dSeq (dSet 5 (jk (g1 gT9) (aq (M.d (ud [none,some 2] (qd (mVar 3)) (cj 0) (ret true) am8)) mNil))) (dSeq (dSet 6 (jk (g1 gT9) (aq (M.d (ud [none] (qd (mVar 3)) (cj 0) (ret true) asl)) mNil))) (dSeq (dIf (mOrB (ad9 (zx (M.d (mFn jx [none,none,none] (bu (mVar 3) (bu (mVar 4) (bu (mVar 5) gn))))))) (ad9 (zx (M.d (mFn jx [none,none,none] (bu (mVar 3) (bu (mVar 4) (bu (mVar 6) gn)))))))) (dRet (M.v (ret (.bl false)))) dNx) (dSeq (dSet 7 (mFn f__law_house [some 2,none,none] (fu 2 (bu (ret (.int 4)) (bu (ret (.int 2)) gn))))) (dSeq (dSet 8 (ud [none,some 7] (mGet u6 (aq (M.d (jk (g1 gL9) (jl 7 mNil))) mNil)) (cj 0) as9 asj)) (dSeq (dFor (qd (M.d (mLst (aq (M.d (mOp gAdd (bj 5 (mTup (aq (ret (.int 0)) mNil))))) (aq (M.d (jk (g1 fun d=>(itemsD d).map fun l=>.fr l) (jl 5 mNil))) (aq (M.d (mOp gAdd (gj (mTup (aq (ret (.int 101)) mNil)) (M.d (aox 5 (ah9 (ret (.int 1))) (ret none)))))) (aq (M.d (mOp gAdd (gj (mTup (aq (mUn gNeg (ret (.int 1))) mNil)) (M.d (aox 5 (ah9 (ret (.int 1))) (ret none)))))) (aq (M.d (mOp gAdd (gj (mTup (aq (ret (.bl true)) mNil)) (M.d (aox 5 (ah9 (ret (.int 1))) (ret none)))))) (aq (ret .non) mNil))))))))) (cj 9) amr) (dIf (j7 (gEq true) (bj 8 (M.d (mLst mNil)))) (dSeq (dIf (j7 (gEq true) (gj (M.d (mFn jj [none,some 4,none] (bu (mVar 7) (fu 4 (bu (M.d (jk (g1 gT9) (aq (M.d (ud [none] (qd (mVar 7)) (cj 0) (ret true) awy)) mNil))) gn))))) (mTup (aq (ret (.str "open")) (aq (M.d (mOp gIx (bj 8 (ret (.int 0))))) mNil))))) (dRet (M.v (ret (.bl false)))) dNx) (dSeq (dIf (ays (j7 (gEq true) (gj (M.d (mFn jj [none,some 4,none] (bu (mVar 7) (fu 4 (bu (M.d (mFn f__law_odd [some 2] (fu 2 gn))) gn))))) (mTup (aq (ret (.str "walkers")) (aq (ret .non) mNil))))) (j7 (gCmp fun i j=>decide (j < i)) (gj (M.d (jk (g1 gL9) (jl 7 mNil))) (ret (.int 2))))) (dRet (M.v (ret (.bl false)))) dNx) (dIf (ad9 (zx (M.d (mFn qw [none,some 4,none] (bu (mVar 7) (fu 4 (bu (M.d (mOp gIx (bj 8 (ret (.int 0))))) gn))))))) (dRet (M.v (ret (.bl false)))) dNx))) dNx))))))))))
def a2p:Sd :=
 (dSeq (dIf (mOrB (ad9 (zx (M.d (mFn jx [none,none,none] (bu (mTup (aq (mTup (aq (mUn gNeg (ret (.int 1))) mNil)) mNil)) (bu (mUn gNeg (ret (.int 1))) (bu (mTup (aq (ret (.int 100)) mNil)) gn))))))) (ad9 (zx (M.d (mFn jx [none,none,none] (bu (mTup (aq (mTup (aq (mUn gNeg (ret (.int 1))) (aq (mUn gNeg (ret (.int 2))) (aq (ret (.int 0)) mNil)))) mNil)) (bu (mUn gNeg (ret (.int 2))) (bu (mTup (aq (ret (.int 1)) mNil)) gn)))))))) (dRet (M.v (ret (.bl false)))) dNx) (dSeq (dFor (qd (M.d (mOp gAdd (gj (M.d (mLst (aq (M.d (mFn f__law_cell [some 0,none] (fu 0 (bu (ret (.int 0)) gn)))) mNil))) (M.d (aox 0 (ah9 (ret (.int 1))) (ah9 (ret (.int 3))))))))) (cj 1) l2_law) (dRet (M.v (ret (.bl true))))))
def asa:Fd:=fnD 10 1 a2p
def ael:D->Bool
 | .int _=>true
 | _=>false
noncomputable def rn(a b:Int):D->Bool
 | .int i=>decide (a<=i)&&decide (i<=b)
 | _=>false
@[simp] theorem ayw(d:D):aaj [.val d]=some (.ok (.v (.bl (ael d))),[.val d]):=by
 cases d <;> simp[aaj,ahb,isTy,ael]
@[simp] theorem amv(d:D)(a b:Int):lg [.val d,.val (.int a),.val (.int b)]=some (.ok (.v (.bl (rn a b d))),[.val d,.val (.int a),.val (.int b)]):=by
 cases d <;> simp[lg,aag,ael,rn]
theorem asx(ns:List Int)(k:Int)(h:0<=k):∃n,f__law_cell [.val (.kst (ns.map D.int)),.val (.int k)]=some (.ok (.v (.int n)),[.val (.kst (ns.map D.int)),.val (.int k)]):=by
 by_cases hk:k < (ns.length:Int)
 ·have e:atI (ns.map D.int) k=some (.int (ns[k.toNat]'(by omega))):=by
   have h2:atI (ns.map D.int) ((k.toNat:Nat):Int)=some (.int (ns[k.toNat]'(by omega))):=aly (by simp[aO,aG (show k.toNat < ns.length by omega)])
   rw[show((k.toNat:Nat):Int)=k by omega] at h2
   exact h2
  exact⟨ns[k.toNat]'(by omega),by simp[f__law_cell,acp,hk,e]⟩
 ·exact⟨0,by simp[f__law_cell,acp,hk]⟩
noncomputable def pen(P:Int×Int):List D:=[.int P.1,.int P.2]
theorem auh(n:Int):∃P,f__law_pen [.val (.int n)]=some (.ok (.fr (pen P)),[.val (.int n)]):=by
 refine⟨(if 0 - n > n then 0 - n else n,if 10 ^ 18<=(if 0 - n > n then 0 - n else n) then 1 else 0),?_⟩
 simp[f__law_pen,ahd,pen,fPow]
theorem qx(P:Int×Int)(m:Int)(h0:0 < m)(h1:m < 1000000000000000000000000000000000000000000000000000000000000):∃r P',f__law_draw [.own (some 0) (pen P),.val (.int m)]=some (.ok (.v (.int r)),[.own (some 0) (pen P'),.val (.int m)])/\0<=r/\r < m:=by
 obtain⟨a,b⟩:=P
 by_cases hb:b=1
 ·refine⟨a % m,(a / m,b),?_,rB _ (by omega),pO _ h0⟩
  simp[f__law_draw,aco,pen,hb,h0,h1,atI,ixN]
 ·have z0:0<=(a % 2147483647+40503)*69621 % 2147483629:=rB _ (by decide)
  have z1:(a % 2147483647+40503)*69621 % 2147483629 < 2147483629:=pO _ (by decide)
  generalize hz:(a % 2147483647+40503)*69621 % 2147483629=z at z0 z1;have hm:fMul z z=some (z*z):=by
   unfold fMul;rw[if_pos (.inl ⟨by omega,by omega⟩)]
  refine⟨((z*z+7817) % 2147483587*48271+11) % 2147483629 / 32 % m,(((z*z+7817) % 2147483587*48271+11) % 2147483629,b),?_,rB _ (by omega),pO _ h0⟩
  have h69:∀x:Int,fMul x 69621=some (x*69621):=fun x=>by unfold fMul;rw[if_pos (.inr (by decide))]
  have h48:∀x:Int,fMul x 48271=some (x*48271):=fun x=>by unfold fMul;rw[if_pos (.inr (by decide))]
  simp[f__law_draw,aco,pen,hb,h0,h1,atI,ixN,h69,h48,hm,fMod,fDiv,hz]
structure HouseOk (m w:Int) (qv:LL9):Prop where
 one:1<=qv.length
 most:(qv.length:Int)<=m
 room:∀r∈qv,1<=r.length/\(r.length:Int)<=w/\∀x∈r,-3<=x/\x < (qv.length:Int)
def hDs(qv:LL9):List D:=qv.map fun r=>D.tup (r.map D.int)
def hD(qv:LL9):D:=.tup (hDs qv)
theorem ag8(P:Int×Int)(m w:Int)(m1:1<=m)(m2:m<=10)(w1:1<=w)(w2:w<=6):∃qv P',f__law_house [.own (some 0) (pen P),.val (.int m),.val (.int w)]=some (.ok (.v (hD qv)),[.own (some 0) (pen P'),.val (.int m),.val (.int w)])/\HouseOk m w qv:=by
 obtain⟨r1,P1,e1,r1a,r1b⟩:=qx P m (by omega) (by omega)
 obtain⟨r2,P2,e2,r2a,r2b⟩:=qx P1 4 (by decide) (by decide)
 have hg:∃g:Int,atI [D.int 0,D.int 1,D.int 3,D.int 3] r2=some (.int g)/\0<=g/\g<=3:=by
  have:r2=0∨r2=1∨r2=2∨r2=3:=by omega
  rcases this with rfl | rfl | rfl | rfl
  ·exact⟨0,rfl,by decide,by decide⟩
  ·exact⟨1,rfl,by decide,by decide⟩
  ·exact⟨3,rfl,by decide,by decide⟩
  ·exact⟨3,rfl,by decide,by decide⟩
 obtain⟨g,eg,g0,g3⟩:=hg;have loop:=xg (b:=cj 6) (g:=aap) (fun i ρ=>∃qv P o1 o2,ρ=[.own (some 0) (pen P),.val (.int m),.val (.int w),.val (.int (1+r1)),.val (.int g),.own none (hDs qv),o1,o2]/\qv.length=i/\∀r∈qv,1<=r.length/\(r.length:Int)<=w/\∀x∈r,-3<=x/\x < 1+r1)
  (l:=rangeD 0 (1+r1).toNat) (ρ:=[.own (some 0) (pen P2),.val (.int m),.val (.int w),.val (.int (1+r1)),.val (.int g),.own none [],.emp,.emp]) 0 ⟨[],P2,.emp,.emp,rfl,rfl,by simp⟩ ?_
 ·obtain⟨ρ',e3,qv,P3,o1,o2,rfl,hl,hr⟩:=loop;have hl:qv.length=(1+r1).toNat:=by simpa[rangeD] using hl
  refine⟨qv,P3,?_,by omega,by omega,fun r h =>?_⟩
  ·have hb:(1+r1).natAbs < 4611686018427387904:=by omega
   simp[f__law_house,ae1,e1,e2,eg,hb,e3,hD]
  ·obtain⟨a,b,c⟩:=hr r h;exact⟨a,b,fun x hx=>by have:=c x hx;omega⟩
 ·rintro i d ρ hd ⟨qv,P4,o1,o2,rfl,hl,hr⟩
  obtain⟨r5,P5,e5,r5a,r5b⟩:=qx P4 w (by omega) (by omega)
  have comp:=qy (b:=cj 0) (mc:=ret true) (me:=aaw) (fun j ys ρ=>∃ns P o,ρ=[o,.own (some 1) (pen P),.val (.int (1+r1)),.val (.int g)]/\ys=ns.map D.int/\ns.length=j/\∀x∈ns,-3<=x/\x < 1+r1)
   (l:=rangeD 0 (1+r5).toNat) (ys:=[]) (ρ:=[.emp,.own (some 1) (pen P5),.val (.int (1+r1)),.val (.int g)]) 0 ⟨[],P5,.emp,rfl,rfl,rfl,by simp⟩ ?_
  ·obtain⟨ys,ρ',e6,ns,P6,o,rfl,rfl,hn,hx⟩:=comp;have hn:ns.length=(1+r5).toNat:=by simpa[rangeD] using hn
   have hb:(1+r5).natAbs < 4611686018427387904:=by omega
   have hc1:ns.length<=capS:=di (by omega)
   have hi:i < (1+r1).toNat:=by
    have:=(aK.mp hd).1
    simpa[rangeD] using this
   have hc2:(hDs qv).length < capS:=by simp[hDs,capS];omega
   refine⟨_,[.own (some 0) (pen P6),.val (.int m),.val (.int w),.val (.int (1+r1)),.val (.int g),.own none (hDs (qv++[ns])),.val d,.val (.int (1+r5))],rfl,.inl (by simp[aap,e5,hb,e6,hc1,hc2];simp[hDs]),qv++[ns],P6,_,_,rfl,by simp[hl],fun r h =>?_⟩
   rcases cZ.mp h with h | h
   ·exact hr r h
   ·obtain rfl:r=ns:=by simpa using h
    exact⟨by omega,by omega,hx⟩
  ·rintro j d ys ρ hd ⟨ns,P6,o,rfl,rfl,hn,hx⟩
   obtain⟨r7,P7,e7,r7a,r7b⟩:=qx P6 (1+r1+g) (by omega) (by omega)
   refine⟨_,_,true,rfl,rfl,.inr ⟨rfl,.int (r7 - g),_,by simp[aaw,e7];rfl,ns++[r7 - g],P7,_,rfl,by simp,by simp[hn],fun x h =>?_⟩⟩
   rcases cZ.mp h with h | h
   ·exact hx x h
   ·obtain rfl:x=r7 - g:=by simpa using h
    omega
@[simp] theorem awm(d:D):j8 [.val d]=some (.ok (.v (.bl (ael d))),[.val d]):=by
 cases d <;> simp[j8,aey,isTy,ael]
structure Hs (qv:LL9):Prop where
 one:1<=qv.length
 most:qv.length<=10
 room:∀r∈qv,1<=r.length/\r.length<=6/\∀x∈r,-3<=x/\x < (qv.length:Int)
def dr(qv:LL9)(x:Int):List Int:=qv.getD x.toNat []
inductive Rch (qv:LL9) (a:Int):Int->Prop
 | base:Rch qv a a
 | step {x d:Int}:Rch qv a x->0<=x->d∈dr qv x->Rch qv a d
theorem alx{qv:LL9}{x:Int}(h0:0<=x)(h1:x < (qv.length:Int)):atI (hDs qv) x=some (.tup ((dr qv x).map D.int)):=by
 have hk:x.toNat < qv.length:=by omega
 have q:atI (hDs qv) ((x.toNat:Nat):Int)=some (.tup ((dr qv x).map D.int)):=aly (by simp[hDs,dr,aG hk])
 rw[show((x.toNat:Nat):Int)=x by omega] at q
 exact q
theorem Hs.dr{qv:LL9}(h:Hs qv){x:Int}(h0:0<=x)(h1:x < (qv.length:Int)):1<=(dr qv x).length/\(My.dr qv x).length<=6/\∀y∈My.dr qv x,-3<=y/\y < (qv.length:Int):=by
 have hk:x.toNat < qv.length:=by omega
 have e:My.dr qv x=qv[x.toNat]:=by simp[My.dr,hk]
 rw[e];exact h.room _ (fV hk)
theorem Rch.range{qv:LL9}(h:Hs qv){a x:Int}(ha:0<=a/\a < (qv.length:Int))(r:Rch qv a x) : -3<=x/\x < (qv.length:Int):=by
 induction r with
 | base=>omega
 | step r h0 hd ih=>exact(h.dr h0 ih.2).2.2 _ hd
theorem ajd:∀(m:Nat) (l:List Int),l.Nodup->(∀x∈l,-3<=x/\x < (m:Int) - 3)->l.length<=m
 | 0,l,_,h=>by
  cases l with
  | nil=>simp
  | cons x r=>have:=h x (bB ..);omega
 | m+1,l,hn,h=>by
  have h1:(l.erase ((m:Int) - 3)).length<=m:=ajd m _ (hn.erase _) fun x hx=>by
   rw[hn.mem_erase_iff] at hx;have:=h x hx.2;have:=hx.1;omega
  have h2:l.length<=(l.erase ((m:Int) - 3)).length+1:=by
   rw[List.length_erase];split <;> omega
  omega
theorem axn{qv:LL9}(h:Hs qv){a:Int}(ha:0<=a/\a < (qv.length:Int)){ns:List Int}(hn:ns.Nodup)(hr:∀x∈ns,Rch qv a x):ns.length<=13:=by
 have:=ajd (qv.length+3) ns hn fun x hx=>by have:=Rch.range h ha (hr x hx);omega
 have:=h.most;omega
theorem aoh{qv:LL9}{a:Int}{ns:List Int}(h0:a∈ns)(hc:∀x∈ns,0<=x->∀d∈dr qv x,d∈ns){x:Int}(r:Rch qv a x):x∈ns:=by
 induction r with
 | base=>exact h0
 | step r h0 hd ih=>exact hc _ ih h0 _ hd
theorem a3o{ns:List Int}{i:Nat}(h:i < ns.length):atI (ns.map D.int) (i:Int)=some (.int ns[i]):=aly (by simp[aG h])
def a3t(qv:LL9)(S:Sl):Prop:=S=.val (hD qv)∨S=.own (some 0) (hDs qv)
theorem ai2{qv:LL9}(h:Hs qv){S:Sl}(hS:a3t qv S){a:Int}{ns:List Int}{i:Nat}(hi:i < ns.length)(hz:ns.length<=13)(hx:ns[i] < (qv.length:Int)) :
  j4 [S,.val (.int a),.own none (ns.map D.int),.val (.int (i:Nat))]=some (.nx,[S,.val (.int a),.own none ((if 0<=ns[i] then ns++(setI (dr qv ns[i])).filter (fun d => !decide (d∈ns)) else ns).map D.int),.val (.int ((i:Nat)+1))]):=by
 have ei:=a3o hi
 by_cases h0:0<=ns[i]
 ·obtain⟨k1,k2,k3⟩:=h.dr h0 hx;have er:=alx h0 hx;have es:=aru (ns:=dr qv ns[i]) (by omega)
  have ef:compD (cj 0) yx yw ((setI (dr qv ns[i])).map D.int) [] [.emp,.own (some 1) (ns.map D.int)]=some (.ok (((setI (dr qv ns[i])).filter (fun d => !decide (d∈ns))).map D.int),yp .emp ((setI (dr qv ns[i])).map D.int)::[.own (some 1) (ns.map D.int)]):=by
   rw[v7 (p:=fun d=>match d with | .int k => !decide (k∈ns) | _=>false) (f:=id)]
   ·simp[qZ,nG]
   ·intro d hd;obtain⟨k,_,rfl⟩:=cR.mp hd;simp[yx,arw]
   ·intro d hd _;simp[yw]
  have hlen:(setI (dr qv ns[i])).length<=6:=by
   unfold setI;rw[(sortI_perm _).length_eq];exact cM (acj _) k2
  have hc1:((setI (dr qv ns[i])).filter (fun d => !decide (d∈ns))).length<=6:=cM (jA _ _) hlen
  have hc2:ns.length+((setI (dr qv ns[i])).filter (fun d => !decide (d∈ns))).length<=capS:=di (by omega)
  have hc3:((setI (dr qv ns[i])).filter (fun d => !decide (d∈ns))).length<=capS:=di (by omega)
  rcases hS with rfl | rfl
  ·simp[j4,hD,ei,h0,er,es,ef,hc1,hc2,hc3]
  ·simp[j4,ei,h0,er,es,ef,hc1,hc2,hc3]
 ·simp[j4,ei,h0]
theorem aet{qv:LL9}(h:Hs qv){S:Sl}(hS:a3t qv S){a:Int}(ha:0<=a/\a < (qv.length:Int)) :
  ∃ns:List Int,m9 [S,.val (.int a)]=some (.ok (.fr (ns.map D.int)),[S,.val (.int a)])/\ns≠[]/\∀x,x∈ns↔Rch qv a x:=by
 have loop:=abo (c:=oh) (g:=j4)
  (fun k ρ=>∃(ns:List Int) (i:Nat),ρ=[S,.val (.int a),.own none (ns.map D.int),.val (.int (i:Nat))]/\k=20 - i/\i<=ns.length/\ns.Nodup/\a∈ns/\(∀x∈ns,Rch qv a x)/\∀j (hj:j < ns.length),j < i->0<=ns[j]->∀d∈dr qv ns[j],d∈ns)
  (fun ρ=>∃(ns:List Int) (o:Sl),ρ=[S,.val (.int a),.own none (ns.map D.int),o]/\ns≠[]/\∀x,x∈ns↔Rch qv a x) ?_ fuel 20 [S,.val (.int a),.own none ([a].map D.int),.val (.int ((0:Nat):Int))] (fB (by decide) aih)
  ⟨[a],0,rfl,rfl,by simp,by simp,by simp,by simp;exact .base,fun j hj hlt=>absurd hlt (oH _)⟩
 ·obtain⟨ρ',e,ns,o,rfl,hne,hm⟩:=loop;have e:whileD oh j4 fuel [S,.val (.int a),.own none [.int a],.val (.int 0)]=some (.nx,[S,.val (.int a),.own none (ns.map D.int),o]):=e;refine⟨ns,?_,hne,hm⟩;rcases hS with rfl | rfl <;> simp[m9,ab8,e]
 ·rintro k ρ ⟨ns,i,rfl,rfl,hi,hn,h0,hr,hc⟩
  have hz:=axn h ha hn hr
  by_cases hlt:i < ns.length
  ·refine .inr ⟨[S,.val (.int a),.own none (ns.map D.int),.val (.int (i:Nat))],_,20 - (i+1),?_,ai2 h hS hlt hz (Rch.range h ha (hr _ (fV hlt))).2,by omega,?_⟩
   ·have:(i:Int) < (ns.length:Int):=by omega
    rcases hS with rfl | rfl <;> simp[oh,this]
   ·by_cases hp:0<=ns[i]
    ·rw[if_pos hp];refine⟨_,i+1,rfl,rfl,by simp;omega,?_,gR _ h0,?_,?_⟩
     ·rw[vR];refine⟨hn,oN uJ (aos _),fun x hx y hy e =>?_⟩
      have:=(dN.mp hy).2;subst e;simp[hx] at this
     ·intro x hx;rcases cZ.mp hx with hx | hx
      ·exact hr x hx
      ·exact .step (hr _ (fV hlt)) hp ((amm _ _).mp (dN.mp hx).1)
     ·intro j hj hji hjp d hd;have hjl:j < ns.length:=by omega
      rw[List.getElem_append_left hjl] at hjp hd;rcases iY j i with z | z
      ·exact gR _ (hc j hjl z hjp d hd)
      ·have:j=i:=by omega
       subst this
       by_cases hdn:d∈ns
       ·exact gR _ hdn
       ·exact cG _ (dN.mpr ⟨(amm _ _).mpr hd,by simp[hdn]⟩)
    ·rw[if_neg hp];refine⟨_,i+1,rfl,rfl,hlt,hn,h0,hr,?_⟩;intro j hj hji hjp d hd;rcases iY j i with z | z
     ·exact hc j hj z hjp d hd
     ·have:j=i:=by omega
      subst this;exact absurd hjp hp
  ·refine .inl ⟨[S,.val (.int a),.own none (ns.map D.int),.val (.int (i:Nat))],?_,ns,_,rfl,List.ne_nil_of_mem h0,fun x=>⟨hr x,aoh h0 fun y hy hp d hd =>?_⟩⟩
   ·have:¬(i:Int) < (ns.length:Int):=by omega
    rcases hS with rfl | rfl <;> simp[oh,this]
   ·obtain⟨j,hj,rfl⟩:=lR.mp hy;exact hc j hj (by omega) hp d hd
open Classical in
noncomputable def caught(qv:LL9)(a:Int):Bool:=decide (∀x,Rch qv a x->0<=x)
theorem uc(qv:LL9)(a:Int):caught qv a=true↔∀x,Rch qv a x->0<=x:=by
 unfold caught;exact @decide_eq_true_iff _ (Classical.propDecidable _)
def upto(n:Nat):List Int:=(aJ n).map fun i=>((i:Nat):Int)
theorem acf(n:Nat):rangeD 0 n=(upto n).map D.int:=by
 unfold rangeD upto;rw[fD];apply fP;intro i _;simp
theorem abu{n:Nat}{x:Int}(h:x∈upto n):0<=x/\x < (n:Int):=by
 obtain⟨i,hi,rfl⟩:=cR.mp h;have:=gP.mp hi;omega
noncomputable def n8(qv:LL9):List Int:=(upto qv.length).filter (caught qv)
theorem afm{qv:LL9}(h:Hs qv):(qv.length:Int).natAbs < 4611686018427387904:=by have:=h.most;omega
theorem aqf{qv:LL9}(h:Hs qv):u6 [.int (qv.length:Int)]=some (rangeD 0 qv.length):=by
 rw[alg,if_pos (afm h),bI]
def keepI(qv:LL9)(S:List Int):List Int:=S.filter fun x=>(dr qv x).all fun d=>decide (d∈S)
theorem axb{qv:LL9}(h:Hs qv)(S:List Int){x:Int}(h0:0<=x)(h1:x < (qv.length:Int)) :
  ain [.val (.int x),.val (.lst (S.map D.int)),.val (hD qv)]=some (.ok ((dr qv x).all fun d=>decide (d∈S)),[.val (.int x),.val (.lst (S.map D.int)),.val (hD qv)]):=by
 have er:=alx h0 h1;obtain⟨k1,k2,k3⟩:=h.dr h0 h1;have ef:compD (cj 0) (ret true) aln ((dr qv x).map D.int) [] [.emp,.val (.lst (S.map D.int))]=some (.ok ((dr qv x).map fun d=>.bl (decide (d∈S))),yp .emp ((dr qv x).map D.int)::[.val (.lst (S.map D.int))]):=by
  rw[mz (f:=fun d=>match d with | .int k=>.bl (decide (k∈S)) | _=>.non)]
  ·simp
  ·intro d hd;obtain⟨k,_,rfl⟩:=cR.mp hd;simp[aln,arw]
 have hc:(dr qv x).length<=capS:=di (by omega)
 have hb:w6 ((dr qv x).map fun d=>D.bl (decide (d∈S)))=some ((dr qv x).map fun d=>decide (d∈S)):=alv _ _
 simp[ain,hD,er,ef,hc,hb,nG]
theorem apu{qv:LL9}(h:Hs qv)(S:List Int)(hS:∀x∈S,0<=x/\x < (qv.length:Int)) :
  compD (cj 0) ain alm (S.map D.int) [] [.emp,.val (.lst (S.map D.int)),.val (hD qv)]=some (.ok ((keepI qv S).map D.int),yp .emp (S.map D.int)::[.val (.lst (S.map D.int)),.val (hD qv)]):=by
 rw[v7 (p:=fun d=>match d with | .int x=>(dr qv x).all fun d=>decide (d∈S) | _=>false) (f:=id)]
 ·simp only[keepI,qZ,nG,List.map_id,bM]
 ·intro d hd;obtain⟨k,hk,rfl⟩:=cR.mp hd;exact axb h S (hS k hk).1 (hS k hk).2
 ·intro d hd _;simp[alm]
theorem a0a{qv:LL9}(h:Hs qv){S:List Int}(hS:∀x∈S,0<=x/\x < (qv.length:Int))(hl:S.length<=10)(o:Sl) :
  ahm [.val (hD qv),.own none (S.map D.int),o]=some (.nx,[.val (hD qv),.own none ((keepI qv S).map D.int),.val (.int (S.length:Nat))]):=by
 have e:=apu h S hS;have hc:(keepI qv S).length<=capS:=di (cM (jA _ _) (by omega))
 generalize keepI qv S=T at e hc;simp only[hD] at e ⊢
 simp[ahm,e,hc]
theorem at9{qv:LL9}{x d y:Int}(h0:0<=x)(hd:d∈dr qv x)(hy:Rch qv d y):Rch qv x y:=by
 induction hy with
 | base=>exact .step .base h0 hd
 | step r h1 hd1 ih=>exact .step ih h1 hd1
theorem apt{qv:LL9}(h:Hs qv):ajt [.val (hD qv)]=some (.ok (.v (.tup ((n8 qv).map D.int))),[.val (hD qv)]):=by
 have hm:=h.most;have ul:(upto qv.length).length=qv.length:=by simp[upto]
 have e0:((upto qv.length).filter fun _=>true)=upto qv.length:=uK.mpr fun _ _=>rfl
 have loop:=abo (c:=aho) (g:=ahm)
  (fun k ρ=>∃(p:Int->Bool) (m:Nat),ρ=[.val (hD qv),.own none (((upto qv.length).filter p).map D.int),.val (.int (m:Nat))]/\k=m/\((upto qv.length).filter p).length<=m/\(m=((upto qv.length).filter p).length->keepI qv ((upto qv.length).filter p)=(upto qv.length).filter p)/\∀x∈n8 qv,p x=true)
  (fun ρ=>∃o,ρ=[.val (hD qv),.own none ((n8 qv).map D.int),o]) ?_ fuel (qv.length+1) [.val (hD qv),.own none (((upto qv.length).filter fun _=>true).map D.int),.val (.int ((qv.length+1:Nat):Int))] (fB (show qv.length+1 < 100000 by omega) aih)
  ⟨fun _=>true,qv.length+1,rfl,rfl,by rw[e0,ul];omega,fun z=>by rw[e0,ul] at z;omega,fun _ _=>rfl⟩
 ·obtain⟨ρ',e,o,rfl⟩:=loop;rw[e0] at e;have hb:u6 [.int (qv.length:Int)]=some (rangeD 0 qv.length):=aqf h;have hb':qv.length < 1000000:=by omega
  have hl:(hDs qv).length=qv.length:=by simp[hDs]
  have er:=acf qv.length;have hcast:((qv.length+1:Nat):Int)=(qv.length:Int)+1:=by omega
  rw[hcast] at e;simp only[hD] at e ⊢
  simp[ajt,awt,hl,hb',er,ul,e]
 ·rintro k ρ ⟨p,m,rfl,hkm,hle,hcl,hp⟩
  subst hkm;have hS:∀x∈(upto qv.length).filter p,0<=x/\x < (qv.length:Int):=fun x hx=>abu (dN.mp hx).1
  have hl:((upto qv.length).filter p).length<=10:=cM (jA _ _) (by omega)
  by_cases hlt:((upto qv.length).filter p).length < k
  ·refine .inr ⟨_,_,((upto qv.length).filter p).length,?_,a0a h hS hl (.val (.int (k:Nat))),hlt,(fun x=>((dr qv x).all fun d=>decide (d∈(upto qv.length).filter p))&&p x),((upto qv.length).filter p).length,?_,rfl,?_,?_,?_⟩
   ·generalize (upto qv.length).filter p=S at hlt;have:(S.length:Int) < (k:Int):=by omega
    simp[aho,this]
   ·unfold keepI;rw[pM]
   ·rw[<-pM];exact jA _ _
   ·rw[<-pM];intro z;have:keepI qv ((upto qv.length).filter p)=(upto qv.length).filter p:=uK.mpr fun a ha=>by
     by_cases q:((dr qv a).all fun d=>decide (d∈(upto qv.length).filter p))=true
     ·exact q
     ·exfalso;have:(((upto qv.length).filter p).filter fun x=>(dr qv x).all fun d=>decide (d∈(upto qv.length).filter p)).length < ((upto qv.length).filter p).length:=List.length_filter_lt_length_iff_exists.mpr ⟨a,ha,by simpa using q⟩
      omega
    show keepI qv (keepI qv ((upto qv.length).filter p))=keepI qv ((upto qv.length).filter p);rw[this,this]
   ·intro x hx;rw[aZ];refine⟨List.all_eq_true.mpr fun d hd=>decide_eq_true ?_,hp x hx⟩
    obtain⟨x1,x2⟩:=dN.mp hx;have hx0:=abu x1;have hd0:0<=d:=(uc qv x).mp x2 d (.step .base hx0.1 hd);have hd1:=((h.dr hx0.1 hx0.2).2.2 d hd).2;have du:d∈upto qv.length:=by
     unfold upto;exact cR.mpr ⟨d.toNat,gP.mpr (by omega),by omega⟩
    have dt:d∈n8 qv:=dN.mpr ⟨du,(uc qv d).mpr fun y hy=>(uc qv x).mp x2 y (at9 hx0.1 hd hy)⟩
    exact dN.mpr ⟨du,hp d dt⟩
  ·refine .inl ⟨[.val (hD qv),.own none (((upto qv.length).filter p).map D.int),.val (.int (k:Nat))],?_,.val (.int (k:Nat)),?_⟩
   ·generalize (upto qv.length).filter p=S at hlt;have:¬(S.length:Int) < (k:Int):=by omega
    simp[aho,this]
   ·have hk:=hcl (by omega)
    have:(upto qv.length).filter p=n8 qv:=by
     unfold n8;refine List.filter_congr fun x hx =>?_
     by_cases c:caught qv x=true
     ·rw[c];exact hp x (dN.mpr ⟨hx,c⟩)
     ·have:p x=false:=by
       cases q:p x with
       | false=>rfl
       | true =>
        exfalso;refine c ((uc qv x).mpr fun y hy =>?_)
        have:y∈(upto qv.length).filter p:=by
         induction hy with
         | base=>exact dN.mpr ⟨hx,q⟩
         | step r h0 hd ih =>
          rw[<-hk] at ih;have:=dX.mp (dN.mp ih).2 _ hd
          simpa using this
        exact(hS y this).1
      rw[this]
      simpa using c
    rw[this]
theorem HouseOk.hs{m w:Int}{qv:LL9}(h:HouseOk m w qv)(hm:m<=10)(hw:w<=6):Hs qv :=
 ⟨h.one,by have:=h.most;omega,fun r hr=>by obtain⟨a,b,c⟩:=h.room r hr;exact⟨a,by omega,c⟩⟩
theorem aqd{n d:Nat}{k:Int}(h0:0<=k):HT.sIx n d (some k)=min k.toNat n:=by
 show(if k < 0 then (k+(n:Int)).toNat else min k.toNat n)=_
 rw[if_neg (by omega)]
theorem a3h{ns:List Int}{k:Int}(h0:0<=k)(h1:k < (ns.length:Int)):cutD (ns.map D.int) none (some k)=(ns.take k.toNat).map D.int:=by
 unfold cutD;rw[aqd h0,aU,xZ];have:HT.sIx ns.length 0 none=0:=rfl;rw[this,wV (by omega),Nat.sub_zero,xR]
theorem avz{ns:List Int}{k:Int}(h0:0<=k)(h1:k<=(ns.length:Int)):cutD (ns.map D.int) (some k) none=(ns.drop k.toNat).map D.int:=by
 unfold cutD;rw[aqd h0,aU,yC];have:HT.sIx ns.length ns.length none=ns.length:=rfl;rw[this,wV (by omega)]
 exact List.take_of_length_le (by simp)
noncomputable def bend(r:List Int)(k:Nat)(x:Int):List Int:=r.take k++[x]++r.drop (k+1)
theorem at4(qv:LL9)(j:Nat)(r:List Int):(hDs qv).set j (.tup (r.map D.int))=hDs (qv.set j r):=by
 simp[hDs,List.map_set]
theorem Hs.set{qv:LL9}(h:Hs qv)(j:Nat){r:List Int}(hr:1<=r.length/\r.length<=6/\∀x∈r,-3<=x/\x < (qv.length:Int)):Hs (qv.set j r) :=
 ⟨by rw[eQ];exact h.one,by rw[eQ];exact h.most,fun q hq=>by
  rw[eQ];rcases rP hq with z | rfl
  ·exact h.room q z
  ·exact hr⟩
def Opn(qv:LL9)(a:Int):Prop:=∃x,Rch qv a x/\x < 0
theorem alo{qv:LL9}{k:Int}(h0:0<=k)(h1:k < (qv.length:Int))(r:List Int):dr (qv.set k.toNat r) k=r:=by
 have:k.toNat < qv.length:=by omega
 simp[dr,this]
theorem asm{qv:LL9}{k y:Int}(h0:0<=k)(hy:0<=y)(hne:y≠k)(r:List Int):dr (qv.set k.toNat r) y=dr qv y:=by
 have:k.toNat≠y.toNat:=by omega
 simp[dr,bO,this]
theorem axm{qv:LL9}{k a y:Int}(h0:0<=k)(r:List Int)(h:Rch qv a y):Rch (qv.set k.toNat r) a y∨Rch qv k y:=by
 induction h with
 | base=>exact .inl .base
 | step p hp hd ih =>
  rename_i x d;rcases ih with ih | ih
  ·by_cases e:x=k
   ·subst e;exact .inr (.step .base hp hd)
   ·exact .inl (.step ih hp (by rw[asm h0 hp e];exact hd))
  ·exact .inr (.step ih hp hd)
theorem aqt{qv:LL9}(h:Hs qv){W:Nat}(hW:∀r∈qv,r.length<=W)(P:Int×Int){A B o:Sl}{k:Int}(h0:0<=k)(h1:k < (qv.length:Int)) :
  ∃rooms' P' o',l1__law_open [.own (some 0) (pen P),A,B,.own none (hDs qv),.val (.int k),o]=some (.nx,[.own (some 0) (pen P'),A,B,.own none (hDs rooms'),.val (.int k),o'])/\Hs rooms'/\(∀r∈rooms',r.length<=W)/\rooms'.length=qv.length/\Opn rooms' k/\∀a,Opn qv a->Opn rooms' a:=by
 obtain⟨ns,e,hne,hm⟩:=aet h (S:=.own (some 0) (hDs qv)) (.inr rfl) ⟨h0,h1⟩;have em:=am1 hne
 by_cases z:0<=minI ns
 ·have hcaught:∀x,Rch qv k x->0<=x:=fun x hx=>(afb hne).mp z x ((hm x).mpr hx)
  obtain⟨a1,a2,a3⟩:=h.dr h0 h1;have er:=alx h0 h1;have aw:=hW (dr qv k) (by
   have hk:k.toNat < qv.length:=by omega
   unfold dr;rw[cT,aG hk];exact fV hk)
  generalize hrow:dr qv k=r at a1 a2 a3 er aw;obtain⟨r1,P1,e1,r1a,r1b⟩:=qx P r.length (by omega) (by omega)
  obtain⟨r2,P2,e2,r2a,r2b⟩:=qx P1 3 (by decide) (by decide)
  have c1:=a3h (ns:=r) r1a r1b;have c2:=avz (ns:=r) (k:=r1+1) (by omega) (by omega)
  have hk:(r1+1).toNat=r1.toNat+1:=by omega
  rw[hk] at c2;have ix:ixN (hDs qv).length k=some k.toNat:=by
   have hl:(hDs qv).length=qv.length:=by simp[hDs]
   rw[hl];unfold ixN;simp[h0,h1]
  have k1:(r.take r1.toNat).length<=6:=by rw[fJ];omega
  have k2:(r.drop (r1.toNat+1)).length<=6:=by rw[iM];omega
  have k3:(r.take r1.toNat).length+1<=capS:=di (by omega)
  have k4:(r.take r1.toNat).length+1+(r.drop (r1.toNat+1)).length<=capS:=di (by omega)
  have hin:(-1 - r2)∈bend r r1.toNat (-1 - r2):=by simp[bend]
  refine⟨qv.set k.toNat (bend r r1.toNat (-1 - r2)),P2,.val (.int r1),?_,h.set _ ?_,fun q hq =>?_,eQ,⟨-1 - r2,.step .base h0 (by rw[alo h0 h1];exact hin),by omega⟩,fun a ⟨x,hx,hx0⟩ =>?_⟩
  ·rw[<-at4];unfold bend;generalize r.take r1.toNat=ta at c1 k3 k4;generalize r.drop (r1.toNat+1)=td at c2 k4;simp[l1__law_open,e,em,z,er,e1,e2,c1,c2,k3,k4,ix]
  ·refine⟨by simp[bend];omega,by simp[bend];omega,fun x hx =>?_⟩
   have:=h.one;unfold bend at hx;rcases cZ.mp hx with hx | hx
   ·rcases cZ.mp hx with hx | hx
    ·exact a3 x (List.mem_of_mem_take hx)
    ·rw[cN] at hx;omega
   ·exact a3 x (List.mem_of_mem_drop hx)
  ·rcases rP hq with z | rfl
   ·exact hW q z
   ·simp[bend];omega
  ·rcases axm h0 (bend r r1.toNat (-1 - r2)) hx with q | q
   ·exact⟨x,q,hx0⟩
   ·have:=hcaught x q;omega
 ·refine⟨qv,P,o,by simp[l1__law_open,e,em,z],h,hW,rfl,?_,fun _ x=>x⟩
  have:¬ ∀y∈ns,0<=y:=fun w=>z ((afb hne).mpr w)
  apply fU;intro w;refine this fun y hy =>?_
  rcases qJ y 0 with q | q
  ·exact absurd ⟨y,(hm y).mp hy,q⟩ w
  ·exact q
theorem al4{qv:LL9}(h:∀a,0<=a->a < (qv.length:Int)->Opn qv a):n8 qv=[]:=by
 unfold n8;refine List.filter_eq_nil_iff.mpr fun a ha hc =>?_
 obtain⟨x,hx,hx0⟩:=h a (abu ha).1 (abu ha).2;have:=(uc qv a).mp hc x hx;omega
theorem open_spec(P:Int×Int)(m w:Int)(m1:1<=m)(m2:m<=10)(w1:1<=w)(w2:w<=6):∃qv P',f__law_open [.own (some 0) (pen P),.val (.int m),.val (.int w)]=some (.ok (.v (hD qv)),[.own (some 0) (pen P'),.val (.int m),.val (.int w)])/\Hs qv/\n8 qv=[]/\(qv.length:Int)<=m/\∀r∈qv,r.length<=w.toNat:=by
 obtain⟨qv,P1,e1,ho⟩:=ag8 P m w m1 m2 w1 w2;have h:=ho.hs m2 w2;have loop:=xg (b:=cj 4) (g:=l1__law_open) (fun i ρ=>∃rs P o1 o2,ρ=[.own (some 0) (pen P),.val (.int m),.val (.int w),.own none (hDs rs),o1,o2]/\Hs rs/\(∀r∈rs,r.length<=w.toNat)/\rs.length=qv.length/\∀a:Int,0<=a->a < (i:Int)->Opn rs a)
  (l:=rangeD 0 qv.length) (ρ:=[.own (some 0) (pen P1),.val (.int m),.val (.int w),.own none (hDs qv),.emp,.emp]) 0 ⟨qv,P1,.emp,.emp,rfl,h,fun r hr=>by have:=(ho.room r hr).2.1;omega,rfl,fun a x y=>by omega⟩ ?_
 ·obtain⟨ρ',e2,rs,P2,o1,o2,rfl,hs,hw,hl,hop⟩:=loop;refine⟨rs,P2,?_,hs,al4 fun a x y=>hop a x (by simp[rangeD];omega),by rw[hl];exact ho.most,hw⟩
  have hl0:(hDs qv).length=qv.length:=by simp[hDs]
  have hb':qv.length < 4611686018427387904:=by simpa using afm h
  simp[f__law_open,af9,e1,hD,hl0,hb',e2]
 ·rintro i d ρ hd ⟨rs,P3,o1,o2,rfl,hs,hw,hl,hop⟩
  rw[acf,aO] at hd;obtain⟨k,hk,rfl⟩:=iT.mp hd;have hk':=abu (jO hk);have hki:k=(i:Int):=by
   unfold upto at hk;rw[aO] at hk;obtain⟨j,hj,rfl⟩:=iT.mp hk;have hlt:i < qv.length:=by
    have:=(aK.mp hj).1
    simpa using this
   rw[aY hlt] at hj;cases hj;rfl
  obtain⟨rs',P4,o',e3,hs',hw',hl',h5,h6⟩:=aqt hs hw P3 (A:=.val (.int m)) (B:=.val (.int w)) (o:=o2) hk'.1 (by rw[hl];exact hk'.2)
  refine⟨[.own (some 0) (pen P3),.val (.int m),.val (.int w),.own none (hDs rs),.val (.int k),o2],_,rfl,.inl e3,rs',P4,_,_,rfl,hs',hw',hl'.trans hl,fun a x y =>?_⟩
  by_cases q:a=k
  ·rw[q];exact h5
  ·exact h6 a (hop a x (by omega))
theorem aar(qv:LL9):(hDs qv).length=qv.length:=by simp[hDs]
structure Arr (qv:LL9) (as:List Int):Prop where
 len:as.length=qv.length
 ok:∀(i:Nat) (a:Int) (r:List Int),as[i]? = some a->qv[i]? = some r->0<=a/\a < (r.length:Int)
def ar(as:List Int)(x:Int):Int:=as.getD x.toNat 0
theorem Arr.at{qv:LL9}{as:List Int}(h:Arr qv as){x:Int}(h0:0<=x)(h1:x < (qv.length:Int)):0<=ar as x/\ar as x < ((dr qv x).length:Int):=by
 have hk:x.toNat < qv.length:=by omega
 have hk2:x.toNat < as.length:=by rw[h.len];exact hk
 have:=h.ok x.toNat as[x.toNat] qv[x.toNat] (aG hk2) (aG hk)
 simpa[ar,dr,hk,hk2] using this
theorem axa{qv:LL9}{y:Int}(y0:0<=y)(y1:y < (qv.length:Int))(h:∀z,Rch qv y z->0<=z):y∈n8 qv:=dN.mpr ⟨by
 unfold upto;exact cR.mpr ⟨y.toNat,gP.mpr (by omega),by omega⟩,(uc qv y).mpr h⟩
abbrev Rw:=Nat->Int
noncomputable def lap(c:Nat)(F:List Rw->Int):List Rw->List Rw->Int
 | _,[]=>0
 | pre,r::rs=>r c*F (pre++rs) - lap c F (pre++[r]) rs
noncomputable def det:List Nat->List Rw->Int
 | [],[]=>1
 | [],_::_=>0
 | c::cs,rows=>lap c (det cs) [] rows
def SW(F:List Rw->Int):Prop:=∀p a b q,F (p++a::b::q) = - F (p++b::a::q)
theorem ara{c:Nat}{F:List Rw->Int}(hF:SW F)(a b:Rw):∀(q p1 p2:List Rw),lap c F (p1++a::b::p2) q = - lap c F (p1++b::a::p2) q
 | [],_,_=>by simp[lap]
 | r::q,p1,p2=>by
  have ih:=ara (c:=c) hF a b q p1 (p2++[r]);have e:=hF p1 a b (p2++q);simp only[lap,dB,dW] at ih e ⊢
  rw[ih,e,jE];omega
theorem awn{c:Nat}{F:List Rw->Int}(hF:SW F)(a b:Rw)(q:List Rw):∀(p pre:List Rw),lap c F pre (p++a::b::q) = - lap c F pre (p++b::a::q)
 | [],pre=>by
  have h:=ara (c:=c) hF a b q pre [];simp only[lap,bM,dB,dW] at h ⊢
  rw[h];omega
 | r::p,pre=>by
  have ih:=awn (c:=c) hF a b q p (pre++[r]);have e:=hF (pre++p) a b q;simp only[lap,dB,dW] at ih e ⊢
  rw[ih,e,jE];omega
theorem am9:∀cs,SW (det cs)
 | []=>fun p a b q=>by
  have e:∀x:List Rw,x≠[]->det [] x=0:=fun x hx=>by
   cases x with
   | nil=>exact absurd rfl hx
   | cons=>rfl
  rw[e _ (by simp),e _ (by simp)]
  rfl
 | c::cs=>fun p a b q=>awn (am9 cs) a b q p []
def LN(F:List Rw->Int):Prop:=∀p (x y:Int) (a b:Rw) q,F (p++(fun j=>x*a j+y*b j)::q)=x*F (p++a::q)+y*F (p++b::q)
theorem arb{c:Nat}{F:List Rw->Int}(hF:LN F)(x y:Int)(a b:Rw):∀(q p1 p2:List Rw),lap c F (p1++(fun j=>x*a j+y*b j)::p2) q=x*lap c F (p1++a::p2) q+y*lap c F (p1++b::p2) q
 | [],_,_=>by simp[lap]
 | r::q,p1,p2=>by
  have ih:=arb (c:=c) hF x y a b q p1 (p2++[r]);have e:=hF p1 x y a b (p2++q);simp only[lap,dB,dW] at ih e ⊢
  rw[ih,e,iK,lM,lM,fQ,fQ (r c)];omega
theorem awo{c:Nat}{F:List Rw->Int}(hF:LN F)(x y:Int)(a b:Rw)(q:List Rw):∀(p pre:List Rw),lap c F pre (p++(fun j=>x*a j+y*b j)::q)=x*lap c F pre (p++a::q)+y*lap c F pre (p++b::q)
 | [],pre=>by
  have h:=arb (c:=c) hF x y a b q pre [];simp only[lap,bM] at h ⊢
  rw[h,uL,lM,lM,jL,jL];omega
 | r::p,pre=>by
  have ih:=awo (c:=c) hF x y a b q p (pre++[r]);have e:=hF (pre++p) x y a b q;simp only[lap,dB,dW] at ih e ⊢
  rw[ih,e,iK,lM,lM,fQ,fQ (r c)];omega
theorem aso:∀cs,LN (det cs)
 | []=>fun p x y a b q=>by
  have e:∀z:List Rw,z≠[]->det [] z=0:=fun z hx=>by
   cases z with
   | nil=>exact absurd rfl hx
   | cons=>rfl
  rw[e _ (by simp),e _ (by simp),e _ (by simp)]
  simp
 | c::cs=>fun p x y a b q=>awo (aso cs) x y a b q p []
theorem ana(cs:List Nat)(a:Rw):∀(q p r:List Rw),det cs (p++a::(q++a::r))=0
 | [],p,r=>by
  have:=am9 cs p a a r;simp only[bM];omega
 | x::q,p,r=>by
  have h:=am9 cs p a x (q++a::r);have ih:=ana cs a q (p++[x]) r;simp only[dB,dW,bM] at h ih ⊢
  rw[h,ih];rfl
theorem awz(cs:List Nat)(a:Rw):∀(q p r:List Rw),det cs (p++(q++a::r))=det cs (p++a::(q++r))∨det cs (p++(q++a::r)) = - det cs (p++a::(q++r))
 | [],p,r=>.inl rfl
 | x::q,p,r=>by
  have h:=am9 cs p x a (q++r);have ih:=awz cs a q (p++[x]) r;simp only[dB,dW,bM] at h ih ⊢
  rcases ih with e | e
  ·right;rw[e,h]
  ·left;rw[e,h];omega
noncomputable def clr(x u:Int)(r k:Rw):Rw:=fun j=>x*r j+(-u)*k j
theorem alq(C:List Nat)(k:Rw)(x:Int)(u:Rw->Int):∀(rs pre:List Rw),det C (k::(pre++rs.map fun r=>clr x (u r) r k))=x ^ rs.length*det C (k::(pre++rs))
 | [],pre=>by simp
 | r::rs,pre=>by
  have e:=aso C (k::pre) x (-(u r)) r k (rs.map fun r=>clr x (u r) r k)
  have z:=ana C k pre [] (rs.map fun r=>clr x (u r) r k)
  have ih:=alq C k x u rs (pre++[r]);simp only[dB,dW,bM,aV,cC] at e z ih ⊢
  show det C (k::(pre++(fun j=>x*r j+(-(u r))*k j)::_))=_
  rw[e,z,ih,jD,mL,mK,dC (x ^ rs.length) x,jL]
theorem amq{c:Nat}{F:List Rw->Int}:∀(rs pre:List Rw),(∀r∈rs,r c=0)->lap c F pre rs=0
 | [],_,_=>rfl
 | r::rs,pre,h=>by
  show r c*F (pre++rs) - lap c F (pre++[r]) rs=0;rw[h r (bB ..),amq rs _ fun x hx=>h x (aX _ hx)]
  simp
theorem chio(c:Nat)(cs:List Nat)(k:Rw)(rs:List Rw):k c*det cs (rs.map fun r=>clr (k c) (r c) r k)=k c ^ rs.length*det (c::cs) (k::rs):=by
 have e:=alq (c::cs) k (k c) (fun r=>r c) rs []
 rw[bM,bM] at e;rw[<-e];show _=lap c (det cs) [] (k::_);show _=k c*det cs ([]++_) - lap c (det cs) ([]++[k]) _;rw[amq]
 ·simp
 ·intro r hr;obtain⟨r0,_,rfl⟩:=cR.mp hr;show k c*r0 c+(-(r0 c))*k c=0;rw[jC,dC];omega
theorem agl(cs:List Nat)(x:Int):∀(rs pre:List Rw),det cs (pre++rs.map fun r j=>x*r j)=x ^ rs.length*det cs (pre++rs)
 | [],pre=>by simp
 | r::rs,pre=>by
  have e:=aso cs pre x 0 r r (rs.map fun r j=>x*r j)
  have ih:=agl cs x rs (pre++[r]);have z:(fun j=>x*r j+0*r j)=fun j=>x*r j:=by funext j;simp
  rw[z] at e;simp only[dB,dW,bM,aV,cC] at e ih ⊢
  rw[e,ih,jB,mL,mK,dC (x ^ rs.length) x,jL]
def Dvd(d:Int)(n:Nat)(M:Nat->Rw):Prop:=∀(is cs:List Nat),(∀i∈is,i < n)->is≠[]->d ^ (is.length - 1) ∣ det cs (is.map M)
theorem Dvd.one(n:Nat)(M:Nat->Rw):Dvd 1 n M:=fun is cs _ _=>by rw[Int.one_pow];exact Int.one_dvd _
theorem Dvd.two{d:Int}{n:Nat}{M:Nat->Rw}(h:Dvd d n M){i k:Nat}(hi:i < n)(hk:k < n)(c j:Nat):d ∣ M k c*M i j - M i c*M k j:=by
 have:=h [k,i] [c,j] (fun x hx=>by simp at hx;omega) (by simp)
 simp[det,lap] at this;have e:d ^ 1=d:=by rw[mK,Int.pow_zero,pG]
 rwa[e] at this
noncomputable def stM(d:Int)(k:Nat)(M:Nat->Rw):Nat->Rw:=fun i j=>if i=k then M k j else (M k k*M i j - M i k*M k j) / d
section
variable{d:Int}{n:Nat}{M:Nat->Rw}(h:Dvd d n M){k:Nat}(hk:k < n)(hd:d≠0)
include h hk hd
omit hd in
theorem ahq{i:Nat}(hi:i < n)(hne:i≠k)(j:Nat):d*stM d k M i j=M k k*M i j - M i k*M k j:=by
 unfold stM;rw[if_neg hne];exact Int.mul_ediv_cancel' (h.two hi hk k j)
theorem al9(is:List Nat)(hi:∀i∈is,i < n)(hn:k∉is):(is.map (stM d k M)).map (fun r j=>d*r j)=(is.map M).map fun r=>clr (M k k) (r k) r (M k):=by
 rw[fD,fD];apply fP;intro i hm
 funext j
 have:=ahq h hk (hi i hm) (fun e=>hn (e▸hm)) j
 show d*stM d k M i j=M k k*M i j+(-(M i k))*M k j;rw[this,jC];omega
theorem Dvd.step(hp:M k k≠0):Dvd (M k k) n (stM d k M):=fun is cs hi hne=>by
 by_cases hm:k∈is
 ·obtain⟨a,b,rfl⟩:=pN hm
  by_cases ha:k∈a++b
  ·-- twice
   have z:det cs ((a++k::b).map (stM d k M))=0:=by
    rw[cI,aV];rcases cZ.mp ha with q | q
    ·obtain⟨a1,a2,rfl⟩:=pN q;rw[cI,aV,dB,dW];exact ana cs _ _ _ _
    ·obtain⟨b1,b2,rfl⟩:=pN q;rw[cI,aV];exact ana cs _ _ _ _
   rw[z];exact Int.dvd_zero _
  ·have hab:∀i∈a++b,i < n:=fun i q=>hi i (by
    rcases cZ.mp q with q | q
    ·exact gR _ q
    ·exact cG _ (aX _ q))
   have e1:=al9 h hk hd (a++b) hab ha;have ek:stM d k M k=M k:=by funext j;unfold stM;rw[if_pos rfl]
   have e2:=agl cs d ((a++b).map (stM d k M)) [M k];have e3:=alq cs (M k) (M k k) (fun r=>r k) ((a++b).map M) []
   obtain⟨q,e4⟩:=h (k::(a++b)) cs (fun i hi'=>by
    rcases bF.mp hi' with rfl | z
    ·exact hk
    ·exact hab i z) (by simp)
   rw[e1] at e2;simp only[bM,dW,aU,aV,cC,uW] at e2 e3 e4;rw[e3,e4] at e2;have e5:det cs (M k::(a++b).map (stM d k M))=M k k ^ (a++b).length*q:=by
    refine eU (xF hd) ((e2.symm).trans ?_);rw[fQ]
   have e6:=awz cs (M k) (a.map (stM d k M)) [] (b.map (stM d k M));rw[bM,bM,<-cI,e5] at e6;rw[cI,aV,ek,show(a++k::b).length - 1=(a++b).length by simp]
   rcases e6 with z | z
   ·exact⟨q,z⟩
   ·exact⟨-q,by rw[z,jE]⟩
 ·have e1:=al9 h hk hd is hi hm;have e2:=agl cs d (is.map (stM d k M)) [];have e3:=chio k cs (M k) (is.map M);obtain⟨q,e4⟩:=h (k::is) (k::cs) (fun i hi'=>by
   rcases bF.mp hi' with rfl | z
   ·exact hk
   ·exact hi i z) (by simp)
  rw[e1] at e2;simp only[bM,aU,aV,cC,uW] at e2 e3 e4;rw[e2,e4] at e3;have e5:M k k*det cs (is.map (stM d k M))=M k k ^ is.length*q:=by
   refine eU (show d ^ is.length≠0 from xF hd) ?_
   rw[fQ,e3,fQ]
  have hl:is.length=is.length - 1+1:=by have:=mF.mpr hne;omega
  rw[hl,mK,dC (M k k ^ (is.length - 1)) (M k k),jL] at e5;exact⟨q,eU hp e5⟩
end
theorem akj{f:Int->Int}{m:Int}:∀{l:List Int},(∀d∈l,f d<=m)->(l.map f).sum<=m*(l.length:Int)
 | [],_=>by simp
 | d::l,h=>by
  have a:=h d (bB ..);have b:=akj (l:=l) fun x hx=>h x (aX _ hx)
  rw[aV,dG,cC,rA,iK];simp;omega
theorem ag0{f:Int->Int}{m:Int}:∀{l:List Int},(∀d∈l,f d<=m)->m*(l.length:Int)<=(l.map f).sum->∀d∈l,f d=m
 | d::l,h,hs,x,hx=>by
  have a:=h d (bB ..);have b:=akj (l:=l) fun x hx=>h x (aX _ hx)
  rw[aV,dG,cC,rA,iK] at hs;simp at hs;rcases bF.mp hx with rfl | q
  ·omega
  ·exact ag0 (fun x hx=>h x (aX _ hx)) (by omega) x q
theorem atg(X:Int->Int):∀n:Nat,0 < n->∃i:Int,0<=i/\i < (n:Int)/\∀j:Int,0<=j->j < (n:Int)->X j<=X i
 | 1,_=>⟨0,by omega,by omega,fun j a b=>by
  have:j=0:=by omega
  rw[this];exact Int.le_refl _⟩
 | n+2,_=>by
  obtain⟨i,i0,i1,h⟩:=atg X (n+1) (by omega)
  by_cases q:X i<=X ((n+1:Nat):Int)
  ·refine⟨((n+1:Nat):Int),by omega,by omega,fun j a b =>?_⟩
   by_cases e:j=((n+1:Nat):Int)
   ·rw[e];exact Int.le_refl _
   ·exact tR (h j a (by omega)) q
  ·refine⟨i,i0,by omega,fun j a b =>?_⟩
   by_cases e:j=((n+1:Nat):Int)
   ·rw[e];omega
   ·exact h j a (by omega)
section
variable{qv:LL9}(h:Hs qv)(hop:n8 qv=[])
include h hop
theorem af1{X:Int->Int}(hg:∀d,d < 0->X d=0)(hX:∀i,0<=i->i < (qv.length:Int)->0 < X i->((dr qv i).length:Int)*X i<=((dr qv i).map X).sum)(i:Int)(i0:0<=i)(i1:i < (qv.length:Int)):X i<=0:=by
 apply fU;intro hi;obtain⟨t,t0,t1,ht⟩:=atg X qv.length h.one;have hpos:0 < X t:=by have:=ht i i0 i1;omega
 have le:∀y,0<=y->y < (qv.length:Int)->∀d∈dr qv y,X d<=X t:=fun y y0 y1 d hd=>by
  have b:=(h.dr y0 y1).2.2 d hd;rcases qJ d 0 with q | q
  ·rw[hg d q];omega
  ·exact ht d q b.2
 have all:∀z,Rch qv t z->(0<=z/\z < (qv.length:Int))/\X z=X t:=fun z hz=>by
  induction hz with
  | base=>exact⟨⟨t0,t1⟩,rfl⟩
  | @step x d r _ hd ih =>
   obtain⟨⟨x0,x1⟩,e⟩:=ih;have a:=hX x x0 x1 (by omega)
   rw[e,dC] at a;have q:=ag0 (le x x0 x1) a d hd;have b:=(h.dr x0 x1).2.2 d hd;refine⟨⟨?_,b.2⟩,q⟩;rcases qJ d 0 with z | z
   ·rw[hg d z] at q;omega
   ·exact z
 have:=axa t0 t1 fun z hz=>(all z hz).1.1
 rw[hop] at this;cases this
end
noncomputable def dot:Nat->Rw->Rw->Int
 | 0,_,_=>0
 | m+1,r,y=>dot m r y+r m*y m
theorem agj(x z:Int)(a b y:Rw):∀m,dot m (fun j=>x*a j+z*b j) y=x*dot m a y+z*dot m b y
 | 0=>by simp[dot]
 | m+1=>by
  show dot m _ y+(x*a m+z*b m)*y m=x*(dot m a y+a m*y m)+z*(dot m b y+b m*y m);rw[agj x z a b y m,uL,iK,iK,jL,jL];omega
theorem aal{a b y z:Rw}:∀m,(∀j < m,a j=b j)->(∀j < m,y j=z j)->dot m a y=dot m b z
 | 0,_,_=>rfl
 | m+1,h,g=>by
  show dot m a y+_=dot m b z+_;rw[aal m (fun j hj=>h j (by omega)) (fun j hj=>g j (by omega)),h m (by omega),g m (by omega)]
theorem adu{a y:Rw}:∀m,(∀j < m,a j*y j=0)->dot m a y=0
 | 0,_=>rfl
 | m+1,h=>by
  show dot m a y+_=0;rw[adu m fun j hj=>h j (by omega),h m (by omega)]
  rfl
theorem aeh{a y:Rw}{i:Nat}:∀m,i < m->(∀j < m,j≠i->a j*y j=0)->dot m a y=a i*y i
 | m+1,hi,h=>by
  show dot m a y+a m*y m=_
  by_cases e:i=m
  ·subst e;rw[adu i fun j hj=>h j (by omega) (by omega)]
   omega
  ·rw[aeh m (by omega) fun j hj=>h j (by omega),h m (by omega) (fO e)]
   omega
theorem aim{a y z:Rw}:∀m,dot m a (fun j=>y j+z j)=dot m a y+dot m a z
 | 0=>rfl
 | m+1=>by
  show dot m a _+a m*(y m+z m)=dot m a y+a m*y m+(dot m a z+a m*z m);rw[aim m,iK];omega
theorem alp{a y:Rw}(x:Int):∀m,dot m a (fun j=>x*y j)=x*dot m a y
 | 0=>by simp[dot]
 | m+1=>by
  show dot m a _+a m*(x*y m)=x*(dot m a y+a m*y m);rw[alp x m,iK,fQ]
noncomputable def BS(M0:Nat->Rw):Nat->Int×(Nat->Rw)
 | 0=>(1,M0)
 | k+1=>((BS M0 k).2 k k,stM (BS M0 k).1 k (BS M0 k).2)
structure BJ (n m:Nat) (M0:Nat->Rw) (P:Nat->Prop) (d:Int) (M:Nat->Rw):Prop where
 pos:0 < d
 dvd:Dvd d n M
 pin:∀j,P j->j < n
 shape:∀i < n,∀j,P j->M i j=if i=j then d else 0
 back:∀y,(∀j,P j->dot m (M j) y=0)->(∀j,P j->dot m (M0 j) y=0)/\∀i,i < n->¬P i->dot m (M i) y=d*dot m (M0 i) y
theorem BJ.zero(n m:Nat)(M0:Nat->Rw):BJ n m M0 (fun _=>False) 1 M0:=⟨by decide,Dvd.one n M0,fun _ h=>h.elim,fun _ _ _ h=>h.elim,fun y _=>⟨fun j hj=>hj.elim,fun i _ _=>by rw[pG]⟩⟩
theorem BJ.to{n m:Nat}{M0:Nat->Rw}{P Q:Nat->Prop}{d:Int}{M:Nat->Rw}(b:BJ n m M0 P d M)(h:∀j,P j↔Q j):BJ n m M0 Q d M:=by
 have:P=Q:=funext fun j=>propext (h j)
 rwa[<-this]
theorem BJ.step{n m:Nat}{M0:Nat->Rw}{P:Nat->Prop}{d:Int}{M:Nat->Rw}(b:BJ n m M0 P d M){k:Nat}(hk:k < n)(hnk:¬P k)(hp:0 < M k k):BJ n m M0 (fun j=>P j∨j=k) (M k k) (stM d k M):=by
 obtain⟨p1,p2,pin,p3,p4⟩:=b;have mul:=fun{i:Nat} (hi:i < n) (hne:i≠k) j=>ahq p2 hk hi hne j
 have hd:d≠0:=by omega
 have st:=p2.step hk hd (by omega)
 have ek:stM d k M k=M k:=by funext j;unfold stM;rw[if_pos rfl]
 have dm:∀i,i < n->i≠k->∀y,d*dot m (stM d k M i) y=M k k*dot m (M i) y - M i k*dot m (M k) y:=fun i hi hne y=>by
  have a:=agj d 0 (stM d k M i) (stM d k M i) y m;have c:=agj (M k k) (-(M i k)) (M i) (M k) y m;rw[jB,mL] at a;rw[<-a,Int.sub_eq_add_neg,<-jC,<-c];refine aal m (fun j _ =>?_) fun _ _=>rfl
  rw[jB,mL,mul hi hne j,jC];omega
 refine⟨hp,st,fun j hj =>?_,fun i hi j hj =>?_,fun y hy =>?_⟩
 ·rcases hj with z | z
  ·exact pin j z
  ·omega
 ·by_cases hik:i=k
  ·subst hik;rw[ek]
   by_cases hjk:j=i
   ·subst hjk;rw[if_pos rfl]
   ·have hPj:P j:=hj.elim id fun z=>absurd z hjk
    rw[if_neg (fO hjk),p3 i hi j hPj,if_neg (fO hjk)]
  ·refine eU hd ?_;rw[mul hi hik j]
   by_cases hjk:j=k
   ·subst hjk;rw[if_neg hik,dC];omega
   ·have hPj:P j:=hj.elim id fun z=>absurd z hjk
    rw[p3 i hi j hPj,p3 k hk j hPj,if_neg (show ¬k=j from fO hjk)]
    by_cases hij:i=j
    ·rw[if_pos hij,if_pos hij,dC];omega
    ·rw[if_neg hij,if_neg hij];simp
 ·have hkk:dot m (M k) y=0:=by have:=hy k (.inr rfl);rwa[ek] at this
  have hj:∀j,P j->dot m (M j) y=0:=fun j hj=>by
   have hjk:j≠k:=fun e=>hnk (e▸hj)
   have a:=dm j (pin j hj) hjk y;rw[hy j (.inl hj),hkk,jD,jD,Int.sub_zero] at a;rcases xG.mp a.symm with z | z
   ·omega
   ·exact z
  obtain⟨b1,b2⟩:=p4 y hj;refine⟨fun j hj' =>?_,fun i hi hki =>?_⟩
  ·rcases hj' with z | z
   ·exact b1 j z
   ·subst z;have:=b2 j hk hnk;rw[hkk] at this;rcases xG.mp this.symm with z | z
    ·omega
    ·exact z
  ·have hik:i≠k:=fun e=>hki (.inr e)
   have a:=dm i hi hik y;rw[hkk,jD,Int.sub_zero,b2 i hi (fun z=>hki (.inl z)),fQ] at a
   exact eU hd a
noncomputable def dsq(qv:LL9):Nat->Rw:=fun i j=>(if i=j then ((dr qv (i:Int)).length:Int) else 0) - ((dr qv (i:Int)).count (j:Int):Int)
def xt(y:Rw)(d:Int):Int:=if d < 0 then 0 else y d.toNat
theorem aj1(y:Rw){n:Nat}:∀l:List Int,(∀d∈l,d < (n:Int))->dot n (fun j=>(l.count (j:Int):Int)) y=(l.map (xt y)).sum
 | [],_=>adu n fun j _=>by simp
 | d::l,h=>by
  have ih:=aj1 y l fun x hx=>h x (aX _ hx)
  have hd:=h d (bB ..);have e:=agj 1 1 (fun j=>(l.count (j:Int):Int)) (fun j=>if d=(j:Int) then 1 else 0) y n
  rw[ih,pG,pG] at e;rw[aV,dG];have e1:dot n (fun j=>(((d::l).count (j:Int):Nat):Int)) y=dot n (fun j=>1*(l.count (j:Int):Int)+1*(if d=(j:Int) then 1 else 0)) y:=by
   refine aal n (fun j _ =>?_) fun _ _=>rfl
   rw[wZ]
   by_cases q:d=(j:Int)
   ·simp[q]
   ·simp[q]
  have e2:dot n (fun j=>if d=(j:Int) then 1 else 0) y=xt y d:=by
   unfold xt
   by_cases q:d < 0
   ·rw[if_pos q];exact adu n fun j _=>by rw[if_neg (by omega),jB]
   ·rw[if_neg q,aeh (i:=d.toNat) n (by omega) fun j _ hj=>by rw[if_neg (by omega),jB],if_pos (by omega),pG]
  rw[e1,e,e2];omega
section
variable{qv:LL9}(h:Hs qv)
include h
theorem aei(y:Rw){i:Nat}(hi:i < qv.length):dot qv.length (dsq qv i) y=((dr qv (i:Int)).length:Int)*y i - ((dr qv (i:Int)).map (xt y)).sum:=by
 have e:=agj 1 (-1) (fun j=>if i=j then ((dr qv (i:Int)).length:Int) else 0) (fun j=>((dr qv (i:Int)).count (j:Int):Int)) y qv.length
 rw[aj1 y _ fun d hd=>((h.dr (x:=(i:Int)) (by omega) (by omega)).2.2 d hd).2] at e
 have e1:dot qv.length (dsq qv i) y=dot qv.length (fun j=>1*(if i=j then ((dr qv (i:Int)).length:Int) else 0)+(-1)*((dr qv (i:Int)).count (j:Int):Int)) y:=by
  refine aal _ (fun j _ =>?_) fun _ _=>rfl
  unfold dsq;omega
 have e2:dot qv.length (fun j=>if i=j then ((dr qv (i:Int)).length:Int) else 0) y=((dr qv (i:Int)).length:Int)*y i:=by
  rw[aeh (i:=i) _ hi fun j _ hj=>by rw[if_neg (fO hj),jB],if_pos rfl]
 rw[e1,e,e2];omega
variable(hop:n8 qv=[])
include hop
theorem ave{y:Rw}(hy:∀i < qv.length,dot qv.length (dsq qv i) y=0):∀j < qv.length,y j=0:=fun j hj=>by
 have a:=af1 h hop (X:=xt y) (fun d hd=>by unfold xt;rw[if_pos hd]) (fun i i0 i1 _=>by
  have:=hy i.toNat (by omega)
  rw[aei h y (by omega),show((i.toNat:Nat):Int)=i by omega] at this
  unfold xt at this ⊢
  rw[if_neg (by omega)]
  omega) (j:Int) (by omega) (by omega)
 have b:=af1 h hop (X:=fun d => - xt y d) (fun d hd=>by unfold xt;rw[if_pos hd];rfl) (fun i i0 i1 _=>by
  have:=hy i.toNat (by omega)
  rw[aei h y (by omega),show((i.toNat:Nat):Int)=i by omega] at this
  have e:((dr qv i).map fun d => - xt y d).sum = - ((dr qv i).map (xt y)).sum:=by
   generalize dr qv i=l
   induction l with
   | nil=>rfl
   | cons x l ih=>rw[aV,aV,dG,dG,ih];omega
  rw[e];show _*(-(if i < 0 then 0 else y i.toNat))<=_
  rw[if_neg (by omega),jE]
  omega) (j:Int) (by omega) (by omega)
 unfold xt at a b;rw[if_neg (by omega),bI] at a b
 omega
theorem ayk(y:Rw)(l:List Int):(l.map fun d => - xt y d).sum = - (l.map (xt y)).sum:=by
 induction l with
 | nil=>rfl
 | cons x l ih=>rw[aV,aV,dG,dG,ih];omega
open Classical in
theorem colY{M0:Nat->Rw}(hM:∀i < qv.length,∀j < qv.length,M0 i j=dsq qv i j){P:Nat->Prop}{d:Int}{M:Nat->Rw}(b:BJ qv.length (qv.length+1) M0 P d M){k:Nat}(hk:k < qv.length)(hnk:¬P k):∃Y:Rw,Y k=d/\(∀j,¬P j->j≠k->Y j=0)/\(∀i,P i->M i k = - Y i)/\(∀i,P i->((dr qv (i:Int)).length:Int)*Y i - ((dr qv (i:Int)).map (xt Y)).sum=0)/\∀i < qv.length,¬P i->((dr qv (i:Int)).length:Int)*Y i - ((dr qv (i:Int)).map (xt Y)).sum=M i k:=by
 obtain⟨p1,p2,pin,p3,p4⟩:=b;have ds:∀i,dot (qv.length+1) (M i) (fun j=>(if P j then - M j k else 0)+(if j=k then d else 0))=dot (qv.length+1) (M i) (fun j=>if P j then - M j k else 0)+M i k*d:=fun i=>by
  rw[aim,aeh (i:=k) (y:=fun j=>if j=k then d else 0) _ (by omega) fun j _ hj=>by rw[if_neg hj,jD]]
  rw[if_pos rfl]
 obtain⟨q1,q2⟩:=p4 (fun j=>(if P j then - M j k else 0)+(if j=k then d else 0)) fun j hj=>by
  have hjn:=pin j hj;rw[ds j,aeh (i:=j) _ (by omega) fun j' hj' hne=>by
   by_cases q:P j'
   ·rw[p3 j hjn j' q,if_neg (fO hne),jB]
   ·rw[if_neg q,jD],p3 j hjn j hj,if_pos rfl,if_pos hj,jE,dC]
  omega
 have q2:∀i,i < qv.length->¬P i->dot (qv.length+1) (M0 i) (fun j=>(if P j then - M j k else 0)+(if j=k then d else 0))=M i k:=fun i hi hki=>by
  have q2:=q2 i hi hki;rw[ds i,adu _ fun j' hj'=>by
   by_cases q:P j'
   ·rw[p3 i hi j' q,if_neg (fun e:i=j'=>hki (by rw[e];exact q)),jB]
   ·rw[if_neg q,jD],oO,dC] at q2
  exact(eU (by omega) q2).symm
 have hPn:¬P qv.length:=fun z=>by have:=pin _ z;omega
 have lo:∀i,i < qv.length->dot (qv.length+1) (M0 i) (fun j=>(if P j then - M j k else 0)+(if j=k then d else 0))=((dr qv (i:Int)).length:Int)*((if P i then - M i k else 0)+(if i=k then d else 0)) - ((dr qv (i:Int)).map (xt fun j=>(if P j then - M j k else 0)+(if j=k then d else 0))).sum:=fun i hi=>by
  rw[<-aei h (fun j=>(if P j then - M j k else 0)+(if j=k then d else 0)) hi]
  show dot qv.length _ _+M0 i qv.length*((if P qv.length then - M qv.length k else 0)+(if qv.length=k then d else 0))=_
  rw[if_neg hPn,if_neg (by omega),mL,jD,mL]
  exact aal _ (fun j hj=>hM i hi j hj) fun _ _=>rfl
 refine⟨fun j=>(if P j then - M j k else 0)+(if j=k then d else 0),?_,fun j hj hjk =>?_,fun i hi =>?_,fun i hi =>?_,fun i hi hki =>?_⟩
 ·show(if P k then _ else _)+(if k=k then d else 0)=d
  rw[if_neg hnk,if_pos rfl,oO]
 ·show(if P j then _ else _)+(if j=k then d else 0)=0
  rw[if_neg hj,if_neg hjk];rfl
 ·show M i k = - ((if P i then - M i k else 0)+(if i=k then d else 0))
  rw[if_pos hi,if_neg (fun e:i=k=>hnk (by rw[<-e];exact hi))]
  omega
 ·rw[<-lo i (pin i hi),q1 i hi]
 ·rw[<-lo i hi,q2 i hi hki]
theorem ame{M0:Nat->Rw}(hM:∀i < qv.length,∀j < qv.length,M0 i j=dsq qv i j){P:Nat->Prop}{d:Int}{M:Nat->Rw}(b:BJ qv.length (qv.length+1) M0 P d M){k:Nat}(hk:k < qv.length)(hnk:¬P k):0 < M k k/\M k k<=6*d/\∀i < qv.length,-(6*d)<=M i k/\M i k<=6*d:=by
 have p1:=b.pos;have pin:=b.pin;obtain⟨Y,Yk,Yb,m1,q1,q2⟩:=colY h hop hM b hk hnk;have hx0:∀d,d < 0->xt Y d=0:=fun d hd=>by unfold xt;rw[if_pos hd]
 have xi:∀i:Int,0<=i->xt Y i=Y i.toNat:=fun i hi=>by unfold xt;rw[if_neg (by omega)]
 have nn:∀i:Int,0<=i->i < (qv.length:Int)->0<=xt Y i:=fun i i0 i1=>by
  have:=af1 h hop (X:=fun d => - xt Y d) (fun d hd=>by show - xt Y d=0;rw[hx0 d hd];rfl) (fun i i0 i1 hi=>by
   have hik:P i.toNat:=by
    apply fU;intro z
    by_cases e:i.toNat=k
    ·rw[xi i i0,e,Yk] at hi;omega
    ·rw[xi i i0,Yb _ z e] at hi;omega
   have a:=q1 _ hik;rw[show((i.toNat:Nat):Int)=i by omega] at a
   rw[ayk h hop,xi i i0,jE];omega) i i0 i1
  omega
 have up:∀i:Int,0<=i->i < (qv.length:Int)->xt Y i<=d:=fun i i0 i1=>by
  have:=af1 h hop (X:=xt fun j=>Y j+(-d)) (fun d hd=>by unfold xt;rw[if_pos hd]) (fun i i0 i1 hi=>by
   have e:xt (fun j=>Y j+(-d)) i=Y i.toNat+(-d):=by unfold xt;rw[if_neg (by omega)]
   rw[e] at hi ⊢
   have hik:P i.toNat:=by
    apply fU;intro z
    by_cases e:i.toNat=k
    ·rw[e,Yk] at hi;omega
    ·rw[Yb _ z e] at hi;omega
   have a:=q1 _ hik;rw[show((i.toNat:Nat):Int)=i by omega] at a
   have s:∀l:List Int,(l.map (xt Y)).sum - d*(l.length:Int)<=(l.map (xt fun j=>Y j+(-d))).sum:=fun l=>by
    induction l with
    | nil=>simp
    | cons x l ih =>
     rw[aV,aV,dG,dG,cC,rA,iK];have:xt Y x - d<=xt (fun j=>Y j+(-d)) x:=by
      unfold xt;split
      ·omega
      ·show Y x.toNat - d<=Y x.toNat+(-d);omega
     simp;omega
   have:=s (dr qv i);rw[iK,jE,dC _ d];omega) i i0 i1
  have e:xt (fun j=>Y j+(-d)) i=xt Y i+(-d):=by unfold xt;rw[if_neg (by omega),if_neg (by omega)]
  rw[e] at this;omega
 have sb:∀i:Nat,i < qv.length->0<=((dr qv (i:Int)).map (xt Y)).sum/\((dr qv (i:Int)).map (xt Y)).sum<=6*d:=fun i hi=>by
  obtain⟨_,l6,hb⟩:=h.dr (x:=(i:Int)) (by omega) (by omega)
  have s1:∀x∈dr qv (i:Int),0<=xt Y x/\xt Y x<=d:=fun x hx=>by
   rcases qJ x 0 with z | z
   ·rw[hx0 x z];omega
   ·exact⟨nn x z (hb x hx).2,up x z (hb x hx).2⟩
  have s2:=akj (f:=xt Y) (m:=d) fun x hx=>(s1 x hx).2
  have s3:d*((dr qv (i:Int)).length:Int)<=d*6:=Int.mul_le_mul_of_nonneg_left (by omega) (by omega)
  refine⟨?_,by omega⟩
  have s4:∀l:List Int,(∀x∈l,0<=xt Y x)->0<=(l.map (xt Y)).sum:=fun l=>by
   induction l with
   | nil=>intro _;simp
   | cons x l ih =>
    intro hl;rw[aV,dG];have:=ih fun y hy=>hl y (aX _ hy)
    have:=hl x (bB ..);omega
  exact s4 _ fun x hx=>(s1 x hx).1
 have dk:=h.dr (x:=(k:Int)) (by omega) (by omega)
 have a:=q2 k hk hnk;rw[Yk] at a;have kd:((dr qv (k:Int)).length:Int)*d<=6*d:=qI (by omega) (by omega)
 have pos:0 < M k k:=by
  apply fU;intro hneg;have:=af1 h hop (X:=xt Y) hx0 (fun i i0 i1 hi=>by
   rw[xi i i0] at hi ⊢
   by_cases z:P i.toNat
   ·have c:=q1 _ z;rw[show((i.toNat:Nat):Int)=i by omega] at c
    omega
   ·by_cases e:i.toNat=k
    ·have c:=q2 i.toNat (by omega) z
     rw[show((i.toNat:Nat):Int)=i by omega,e] at c
     rw[e];omega
    ·rw[Yb _ z e] at hi;omega) (k:Int) (by omega) (by omega)
  rw[xi _ (by omega),bI,Yk] at this
  omega
 have sk:=sb k hk;refine⟨pos,by omega,fun i hi =>?_⟩
 by_cases z:P i
 ·rw[m1 i z];have u:=up (i:Int) (by omega) (by omega)
  have l:=nn (i:Int) (by omega) (by omega)
  rw[xi _ (by omega),bI] at u l
  omega
 ·by_cases e:i=k
  ·subst e;omega
  ·have c:=q2 i hi z;rw[Yb i z e,jD] at c;have:=sb i hi;omega
theorem ahj{M0:Nat->Rw}(hM:∀i < qv.length,∀j < qv.length,M0 i j=dsq qv i j){P:Nat->Prop}(hP:∀j < qv.length,P j){d:Int}{M:Nat->Rw}(b:BJ qv.length (qv.length+1) M0 P d M)(i:Nat)(hi:i < qv.length):dot qv.length (dsq qv i) (fun j=>M j qv.length)=M0 i qv.length*d:=by
 obtain⟨p1,p2,pin,p3,p4⟩:=b;obtain⟨q1,_⟩:=p4 (fun j=>if j < qv.length then M j qv.length else -d) fun j hj'=>by
  have hj:=pin j hj';show dot qv.length (M j) _+M j qv.length*(if qv.length < qv.length then _ else -d)=0
  rw[if_neg (by omega),aeh (i:=j) _ hj fun j' hj' hne=>by rw[p3 j hj j' (hP j' hj'),if_neg (fO hne),jB],p3 j hj j (hP j hj),if_pos rfl,if_pos hj,jE,dC]
  omega
 have a:=q1 i (hP i hi);have a:dot qv.length (M0 i) _+M0 i qv.length*(if qv.length < qv.length then _ else -d)=0:=a
 rw[if_neg (by omega),jE] at a
 have e:=aal (a:=M0 i) (b:=dsq qv i) (y:=fun j=>if j < qv.length then M j qv.length else -d) (z:=fun j=>M j qv.length) qv.length (fun j hj=>hM i hi j hj) fun j hj=>if_pos hj
 rw[e] at a;omega
theorem ant{M0:Nat->Rw}(hM:∀i < qv.length,∀j < qv.length,M0 i j=dsq qv i j):∀k,k<=qv.length->BJ qv.length (qv.length+1) M0 (fun j=>j < k) (BS M0 k).1 (BS M0 k).2/\(BS M0 k).1<=6 ^ k
 | 0,_=>⟨(BJ.zero ..).to fun j=>⟨fun z=>z.elim,fun z=>by omega⟩,by show(1:Int)<=1;omega⟩
 | k+1,hk=>by
  obtain⟨a,c⟩:=ant hM k (by omega)
  obtain⟨p1,p2,_⟩:=ame h hop hM a (k:=k) (by omega) (by omega)
  refine⟨(a.step (by omega) (by omega) p1).to fun j=>by omega,?_⟩
  show(BS M0 k).2 k k<=6 ^ (k+1);rw[mK,dC];omega
theorem a6f{M0:Nat->Rw}(hM:∀i < qv.length,∀j < qv.length,M0 i j=dsq qv i j){k:Nat}(b:BJ qv.length (qv.length+1) M0 (fun j=>j < k) (BS M0 k).1 (BS M0 k).2)(hk:k < qv.length):0 < (BS M0 k).2 k k/\(BS M0 k).2 k k<=6*(BS M0 k).1/\∀i < qv.length,-(6*(BS M0 k).1)<=(BS M0 k).2 i k/\(BS M0 k).2 i k<=6*(BS M0 k).1:=ame h hop hM b hk (by omega)
theorem ap4{M0:Nat->Rw}(hM:∀i < qv.length,∀j < qv.length,M0 i j=dsq qv i j)(i:Nat)(hi:i < qv.length):dot qv.length (dsq qv i) (fun j=>(BS M0 qv.length).2 j qv.length)=M0 i qv.length*(BS M0 qv.length).1:=ahj h hop hM (fun _ hj=>hj) (ant h hop hM qv.length (aN _)).1 i hi
end
noncomputable def CS(n:Nat)(M0:Nat->Rw):Nat->Int×(Nat->Rw)
 | 0=>(1,M0)
 | k+1=>((CS n M0 k).2 (n - 1 - k) (n - 1 - k),stM (CS n M0 k).1 (n - 1 - k) (CS n M0 k).2)
section
variable{qv:LL9}(h:Hs qv)(hop:n8 qv=[])
include h hop
theorem atj{M0:Nat->Rw}(hM:∀i < qv.length,∀j < qv.length,M0 i j=dsq qv i j)(hB:∀i < qv.length,∀j,j<=qv.length->(M0 i j).natAbs<=6):∀k,k<=qv.length->BJ qv.length (qv.length+1) M0 (fun j=>qv.length - k<=j/\j < qv.length) (CS qv.length M0 k).1 (CS qv.length M0 k).2/\(CS qv.length M0 k).1<=6 ^ k/\∀i < qv.length,∀j,j<=qv.length->((CS qv.length M0 k).2 i j).natAbs<=6*12 ^ k
 | 0,_=>⟨(BJ.zero ..).to fun j=>⟨fun z=>z.elim,fun z=>by omega⟩,by show(1:Int)<=1;omega,fun i hi j hj=>by
  show(M0 i j).natAbs<=6*12 ^ 0;exact hB i hi j hj⟩
 | k+1,hk=>by
  obtain⟨a,c,e⟩:=atj hM hB k (by omega)
  obtain⟨p1,p2,p3⟩:=ame h hop hM a (k:=qv.length - 1 - k) (by omega) (by omega)
  have d0:=a.pos;have sm:=fun{i:Nat} (hi:i < qv.length) (hne:i≠qv.length - 1 - k) j=>ahq a.dvd (k:=qv.length - 1 - k) (by omega) hi hne j
  refine⟨(a.step (by omega) (by omega) p1).to fun j=>by omega,?_,fun i hi j hj =>?_⟩
  ·show(CS qv.length M0 k).2 _ _<=6 ^ (k+1);rw[mK,dC];omega
  ·show(stM (CS qv.length M0 k).1 (qv.length - 1 - k) (CS qv.length M0 k).2 i j).natAbs<=6*12 ^ (k+1);rw[Nat.pow_succ]
   by_cases hik:i=qv.length - 1 - k
   ·have:stM (CS qv.length M0 k).1 (qv.length - 1 - k) (CS qv.length M0 k).2 i j=(CS qv.length M0 k).2 i j:=by unfold stM;rw[if_pos hik,hik]
    rw[this];have:=e i hi j hj;omega
   ·have m:=sm hi hik j;have b1:=e i hi j hj;have b2:=e (qv.length - 1 - k) (by omega) j hj
    obtain⟨b3,b4⟩:=p3 i hi;generalize stM (CS qv.length M0 k).1 (qv.length - 1 - k) (CS qv.length M0 k).2 i j=z at *;generalize (CS qv.length M0 k).2 (qv.length - 1 - k) (qv.length - 1 - k)=p at *;generalize (CS qv.length M0 k).2 (qv.length - 1 - k) j=u at *;generalize (CS qv.length M0 k).2 i (qv.length - 1 - k)=v at *;generalize (CS qv.length M0 k).2 i j=w at *;generalize (CS qv.length M0 k).1=d at *;generalize 12 ^ k=t at *;have k1:(p*w).natAbs<=(6*d.natAbs)*(6*t):=by rw[cQ];exact cA (by omega) b1
    have k2:(v*u).natAbs<=(6*d.natAbs)*(6*t):=by rw[cQ];exact cA (by omega) b2
    have k3:(d*z).natAbs<=d.natAbs*(6*(t*12)):=by
     have e1:(6*d.natAbs)*(6*t)+(6*d.natAbs)*(6*t)=d.natAbs*(6*(t*12)):=by
      rw[mH 6 d.natAbs,Nat.mul_assoc,<-Nat.mul_add]
      congr 1
      omega
     rw[m];omega
    rw[cQ] at k3;exact Nat.le_of_mul_le_mul_left k3 (by omega)
end
noncomputable def mu(x y:Nat):Nat:=if y=0 then 0 else (x*y).log2+(if x < y then 2 else 1)
theorem aym{x y:Nat}(hy:y≠0):mu y (x % y) < mu x y:=by
 unfold mu;rw[if_neg hy]
 by_cases hr:x % y=0
 ·rw[if_pos hr];split <;> omega
 ·rw[if_neg hr];have hlt:x % y < y:=vO _ (by omega)
  rw[if_neg (show ¬y < x % y by omega)]
  by_cases hxy:x < y
  ·rw[if_pos hxy,Nat.mod_eq_of_lt hxy,mH];omega
  ·rw[if_neg hxy];have h2:2*(x % y)<=x:=by
    have:=Nat.div_add_mod x y;have h1:1<=x / y:=(Nat.one_le_div_iff (by omega)).mpr (by omega)
    have:y*1<=y*(x / y):=uI _ h1;omega
   have h3:2*(y*(x % y))<=x*y:=by
    rw[Nat.mul_left_comm,mH x y];exact uI _ h2
   have h4:y*(x % y)≠0:=iB hy hr;have h5:(y*(x % y)).log2 < (x*y).log2:=by
    have a:=Nat.log2_self_le h4;have b:2 ^ ((y*(x % y)).log2+1)<=x*y:=by rw[Nat.pow_succ];omega
    have:=(Nat.le_log2 (by omega)).mpr b
    omega
   omega
theorem a6p{x y:Nat}(h:x*y < 2 ^ 1000):mu x y < 2000:=by
 unfold mu;split
 ·decide
 ·by_cases z:x*y=0
  ·rw[z];split <;> decide
  ·have:=(Nat.log2_lt z).mpr h;split <;> omega
noncomputable def frD(q:Rat):D:=.tup [.int q.num,.int (q.den:Int)]
theorem euclid{c:M Bool}{g:Sd}(fr:Int->Int->Sl->Ro)(hc:∀x y o,c (fr x y o)=some (.ok (decide (y≠0)),fr x y o))(hg:∀x y o,0 < y->∃o',g (fr x y o)=some (.nx,fr y (x % y) o'))(x y:Nat)(hb:x*y < 2 ^ 1000)(o:Sl):∃o',whileD c g fuel (fr x y o)=some (.nx,fr ((lK x y:Nat):Int) 0 o'):=by
 have loop:=abo (c:=c) (g:=g)
  (fun n ρ=>∃(a b:Nat) (o:Sl),n=mu a b/\lK a b=lK x y/\ρ=fr a b o)
  (fun ρ=>∃o:Sl,ρ=fr ((lK x y:Nat):Int) 0 o)
  ?_ fuel (mu x y) (fr x y o) (fB (a6p hb) (fB (by decide) aih)) ⟨x,y,o,rfl,rfl,rfl⟩
 ·obtain⟨ρ',e,o',rfl⟩:=loop;exact⟨o',e⟩
 ·rintro n ρ ⟨a,b,o,rfl,hab,rfl⟩
  by_cases hz:b=0
  ·subst hz;refine .inl ⟨fr a (0:Nat) o,?_,o,?_⟩
   ·have:=hc a (0:Nat) o;rw[this];rfl
   ·rw[<-hab,Nat.gcd_zero_right];rfl
  ·obtain⟨o',e⟩:=hg a b o (by omega)
   refine .inr ⟨fr a b o,fr b ((a:Int) % (b:Int)) o',mu b (a % b),?_,e,aym hz,b,a % b,o',rfl,?_,?_⟩
   ·rw[hc a b o,decide_eq_true (by omega)]
   ·rw[<-hab,tM b,<-Nat.gcd_rec,tM]
   ·rw[Int.natCast_emod]
theorem a3s(t:Int):gAbs (.int t)=some (.v (.int (t.natAbs:Int))):=by
 show some (Rv.v (.int _))=_
 congr 3
 try omega
theorem cd_one(t:Int)(x:Nat)(hb:x*t.natAbs < 2 ^ 1000)(a0 a3 a4:Sl):∃b3 b4,l1_common_divisor [a0,.val (.int (x:Int)),.val (.int t),a3,a4]=some (.nx,[a0,.val (.int ((lK x t.natAbs:Nat):Int)),.val (.int t),b3,b4]):=by
 obtain⟨o',e⟩:=euclid (c:=uo) (g:=um) (fun x y o=>[a0,.val (.int x),.val (.int t),.val (.int y),o])
  (fun x y o=>by by_cases z:y=0 <;> simp[uo,z]) (fun x y o hy=>⟨.val (.int (x % y)),by
   have e:fMod x y=some (x % y):=by unfold fMod;rw[if_pos hy]
   simp[um,e]⟩) x t.natAbs hb a4
 have e2:=a3s t;refine⟨.val (.int 0),o',?_⟩;simp[l1_common_divisor,e2,e]
theorem a8m(t:Int)(b:Nat)(hb:t.natAbs*b < 2 ^ 1000):my [.val (.lst [.int t,.int (b:Int)])]=some (.ok (.v (.int ((lK t.natAbs b:Nat):Int))),[.val (.lst [.int t,.int (b:Int)])]):=by
 obtain⟨b3,b4,e1⟩:=cd_one t 0 (by rw[Nat.zero_mul];exact Nat.two_pow_pos _) (.val (.lst [.int t,.int (b:Int)])) .emp .emp
 rw[Nat.gcd_zero_left] at e1;obtain⟨c3,c4,e2⟩:=cd_one (b:Int) t.natAbs (by rw[eF];exact hb) (.val (.lst [.int t,.int (b:Int)])) b3 b4
 rw[eF] at e2;have e1:l1_common_divisor [.val (.lst [.int t,.int (b:Int)]),.val (.int 0),.val (.int t),.emp,.emp]=_:=e1;simp[my,aa2,v6,e1,e2]
section
variable{t:Int}{b:Nat}(hb:0 < b)(hB:b < 1000000000000000000000000000000000000000000000000000000000000)(ht:t.natAbs < 2 ^ 500)
include hb hB ht
theorem aws:0 < ((lK t.natAbs b:Nat):Int)/\((lK t.natAbs b:Nat):Int) < 1000000000000000000000000000000000000000000000000000000000000:=by
 have a:=Nat.gcd_pos_of_pos_right t.natAbs hb;have c:=Nat.gcd_le_right t.natAbs hb;omega
theorem aro:t.natAbs*b < 2 ^ 1000:=by
 have:b < 2 ^ 500:=fB hB (by decide)
 have:=Nat.mul_lt_mul_of_lt_of_lt ht this;rwa[<-Nat.pow_add] at this
omit hB ht in
theorem am4:(mkRat t b).num=t / ((lK t.natAbs b:Nat):Int)/\(((mkRat t b).den:Nat):Int)=(b:Int) / ((lK t.natAbs b:Nat):Int):=by
 rw[sI,sJ,if_neg (by omega),if_neg (by omega),tM,Int.natCast_ediv]
 exact⟨rfl,rfl⟩
theorem acr:qm [.val (.int t),.val (.int (b:Int))]=some (.ok (.v (frD (mkRat t b))),[.val (.int t),.val (.int (b:Int))]):=by
 have e1:=a8m t b (aro hb hB ht);obtain⟨g1,g2⟩:=aws hb hB ht;obtain⟨p1,p2⟩:=am4 (t:=t) hb;unfold frD;rw[p1,p2];generalize ((lK t.natAbs b:Nat):Int)=g at *;have d1:∀x,fDiv x g=some (x / g):=fun x=>by unfold fDiv;rw[if_pos ⟨g1,g2⟩]
 have nb:¬(b:Int) < 0:=by omega
 simp[qm,ahc,e1,nb,d1]
theorem amn:j0 [.val (.int t),.val (.int (b:Int))]=some (.ok (.v (frD (mkRat t b))),[.val (.int t),.val (.int (b:Int))]):=by
 obtain⟨o',e⟩:=euclid (c:=acb) (g:=aca) (fun x y o=>[.val (.int t),.val (.int (b:Int)),.val (.int x),.val (.int y)])
  (fun x y o=>by by_cases z:y=0 <;> simp[acb,z]) (fun x y o hy=>⟨o,by
   have e:fMod x y=some (x % y):=by unfold fMod;rw[if_pos hy]
   simp[aca,e]⟩) t.natAbs b (aro hb hB ht) .emp
 obtain⟨g1,g2⟩:=aws hb hB ht;obtain⟨p1,p2⟩:=am4 (t:=t) hb;unfold frD;rw[p1,p2];have m1:(if 0 - t > t then 0 - t else t)=(t.natAbs:Int):=by split <;> omega
 have m2:(if 0 - (b:Int) > (b:Int) then 0 - (b:Int) else (b:Int))=(b:Int):=by split <;> omega
 have m3:(if ((lK t.natAbs b:Nat):Int) > 1 then ((lK t.natAbs b:Nat):Int) else 1)=((lK t.natAbs b:Nat):Int):=by split <;> omega
 generalize ((lK t.natAbs b:Nat):Int)=g at *;have d1:∀x,fDiv x g=some (x / g):=fun x=>by unfold fDiv;rw[if_pos ⟨g1,g2⟩]
 have nb:¬(b:Int) < 0:=by omega
 generalize (t.natAbs:Int)=ta at *;simp only[tQ] at m1 m2;simp[j0,ahf,m1,m2,e,m3,nb,d1]
end
def rwD(m:Nat)(r:Rw):D:=.lst ((aJ m).map fun j=>.int (r j))
def mtD(n m:Nat)(M:Nat->Rw):List D:=(aJ n).map fun i=>rwD m (M i)
theorem wk(n m:Nat)(M:Nat->Rw):(mtD n m M).length=n:=by simp[mtD]
theorem ah7(n m:Nat)(M:Nat->Rw):mtD (n+1) m M=mtD n m M++[rwD m (M n)]:=by unfold mtD;rw[gC,cI];rfl
theorem aq7{n m:Nat}{M:Nat->Rw}{k:Nat}(hk:k < n):atI (mtD n m M) (k:Int)=some (rwD m (M k)):=by
 unfold atI;rw[abe (by omega) (by rw[wk];omega),bI]
 show(mtD n m M)[k]? = _;unfold mtD;rw[aO,aY hk];rfl
theorem ai1{m:Nat}{r:Rw}{k:Nat}(hk:k < m):atI ((aJ m).map fun j=>D.int (r j)) (k:Int)=some (.int (r k)):=by
 unfold atI;rw[abe (by omega) (by simp;omega),bI]
 show((aJ m).map fun j=>D.int (r j))[k]? = _
 rw[aO,aY hk];rfl
theorem uz(m:Nat)(r:Rw):((aJ m).map fun j=>D.int (r j)).length=m:=by simp
theorem aoj{k n:Nat}(hk:k < n):∃rest,rangeD (k:Int) (n - k)=.int (k:Int)::rest:=by
 obtain⟨c,hc⟩:∃c,n - k=c+1:=⟨n - k - 1,by omega⟩
 rw[hc];refine⟨(aJ c).map fun i=>.int ((k:Int)+((i+1:Nat):Int)),?_⟩
 unfold rangeD;rw[List.range_succ_eq_map,aV,fD];show D.int ((k:Int)+((0:Nat):Int))::_=_;rw[show(k:Int)+((0:Nat):Int)=k by omega]
 rfl
theorem akq{n m:Nat}{M:Nat->Rw}{k:Nat}(hk:k < n)(hm:k < m)(hn:n < 1000)(h0:M k k≠0):aai [.own (some 0) (mtD n m M),.val (.int (k:Int))]=some (.ok (.v (.int (k:Int))),[.own (some 0) (mtD n m M),.val (.int (k:Int))]):=by
 have e1:=aq7 (m:=m) (M:=M) hk;have e2:=ai1 (r:=M k) hm;have hl:=wk n m M;obtain⟨rest,er⟩:=aoj hk;unfold rwD at e1;generalize (aJ m).map (fun j=>D.int (M k j))=rr at *
 generalize M k k=v at *;generalize mtD n m M=mm at *;have e3:acl [.own (some 0) mm,.val (.int (k:Int)),.val (.int (k:Int))]=some (.ret (.v (.int (k:Int))),[.own (some 0) mm,.val (.int (k:Int)),.val (.int (k:Int))]):=by
  simp[acl,e1,e2,h0]
 have hb:((n:Int) - (k:Int)).toNat=n - k:=by omega
 have hb1:k < 4611686018427387904:=by omega
 have hb2:n < 4611686018427387904:=by omega
 simp[aai,ag9,hl,hb,hb1,hb2,er,v6,e3]
theorem ass(n m:Nat)(M:Nat->Rw)(hm:m<=1000):compD (cj 0) (ret true) aeg (mtD n m M) [] [.emp]=some (.ok (mtD n m M),yp .emp (mtD n m M)::[]):=by
 rw[mz (f:=id)]
 ·simp
 ·intro d hd;unfold mtD at hd;obtain⟨i,_,rfl⟩:=cR.mp hd;have hl:=uz m (M i);unfold rwD;have hc:((aJ m).map fun j=>D.int (M i j)).length<=capS:=by rw[hl];exact di hm
  generalize (aJ m).map (fun j=>D.int (M i j))=rr at *
  simp[aeg,hc]
theorem aob{n m:Nat}{M:Nat->Rw}(k:Int)(hn:n<=1000)(hm:m<=1000):abi [.val (.lst (mtD n m M)),.val (.int k),.val (.int k)]=some (.ok (.fr (mtD n m M)),[.val (.lst (mtD n m M)),.val (.int k),.val (.int k)]):=by
 have e:=ass n m M hm;have hl:=wk n m M;have hc:(mtD n m M).length<=capS:=by rw[hl];exact di hn
 generalize mtD n m M=mm at *;simp[abi,ajq,e,hc]
theorem ao4{m:Nat}{k i:Nat}{M:Nat->Rw}{d:Int}(hk:k < m)(hd0:0 < d)(hd1:d < 1000000000000000000000000000000000000000000000000000000000000)(hik:i≠k)(hkk : -18446744073709551616 < M k k/\M k k < 18446744073709551616)(hic : -18446744073709551616 < M i k/\M i k < 18446744073709551616):∃q1 q2,compD (bTup 2 (jm (cj 0) (jm (cj 1) bNil))) (ret true) ab0 (lw ((aJ m).map fun j=>D.int (M i j)) ((aJ m).map fun j=>D.int (M k j))) [] [.emp,.emp,.val (rwD m (M i)),.val (rwD m (M k)),.val (.int d),.val (.int (k:Int))] =
  some (.ok ((aJ m).map fun j=>D.int (stM d k M i j)),[q1,q2,.val (rwD m (M i)),.val (rwD m (M k)),.val (.int d),.val (.int (k:Int))]):=by
 have ek:=ai1 (r:=M k) hk;have ei:=ai1 (r:=M i) hk;have comp:=qy (b:=bTup 2 (jm (cj 0) (jm (cj 1) bNil))) (mc:=ret true) (me:=ab0) (fun j ys ρ=>∃o1 o2:Sl,ρ=[o1,o2,.val (rwD m (M i)),.val (rwD m (M k)),.val (.int d),.val (.int (k:Int))]/\ys=(aJ j).map fun j=>D.int (stM d k M i j))
  (l:=lw ((aJ m).map fun j=>D.int (M i j)) ((aJ m).map fun j=>D.int (M k j))) (ys:=[]) (ρ:=[.emp,.emp,.val (rwD m (M i)),.val (rwD m (M k)),.val (.int d),.val (.int (k:Int))]) 0 ⟨.emp,.emp,rfl,rfl⟩ ?_
 ·obtain⟨ys,ρ',e6,o1,o2,rfl,rfl⟩:=comp;have hz:(lw ((aJ m).map fun j=>D.int (M i j)) ((aJ m).map fun j=>D.int (M k j))).length=m:=by unfold lw;rw[cX,uz,uz];omega
  rw[hz,bU] at e6;exact⟨o1,o2,e6⟩
 ·rintro j z ys ρ hd ⟨o1,o2,rfl,rfl⟩
  have hj:j < m:=by
   rcases iY j m with q | q
   ·exact q
   ·rw[bY (by unfold lw;rw[cX,uz];omega)] at hd
    cases hd
  have ed:z=.tup [.int (M i j),.int (M k j)]:=by
   unfold lw at hd;rw[gJ,aO,aO,aY hj] at hd;exact(bD hd).symm
  subst ed;have es:stM d k M i j=(M k k*M i j - M i k*M k j) / d:=by unfold stM;rw[if_neg hik]
  have fd:fDiv (M k k*M i j - M i k*M k j) d=some ((M k k*M i j - M i k*M k j) / d):=by unfold fDiv;rw[if_pos ⟨hd0,hd1⟩]
  refine⟨[.val (.int (M i j)),.val (.int (M k j)),.val (rwD m (M i)),.val (rwD m (M k)),.val (.int d),.val (.int (k:Int))],_,true,by simp,rfl,.inr ⟨rfl,.int (stM d k M i j),[.val (.int (M i j)),.val (.int (M k j)),.val (rwD m (M i)),.val (rwD m (M k)),.val (.int d),.val (.int (k:Int))],?_,_,_,rfl,?_⟩⟩
  ·rw[es];unfold rwD;generalize (aJ m).map (fun j=>D.int (M k j))=rk at *
   generalize (aJ m).map (fun j=>D.int (M i j))=ri at *
   generalize M k k=a1 at *;generalize M i j=a2 at *;generalize M i k=a3 at *;generalize M k j=a4 at *;have m1:fMul a1 a2=some (a1*a2):=by unfold fMul;rw[if_pos (.inl hkk)]
   have m2:fMul a3 a4=some (a3*a4):=by unfold fMul;rw[if_pos (.inl hic)]
   simp[ab0,ek,ei,m1,m2,fd]
  ·rw[bU,gC,cI];rfl
theorem ao3{n m:Nat}{k:Nat}{M:Nat->Rw}{d:Int}(hkn:k < n)(hk:k < m)(hn:n<=1000)(hm:m<=1000)(hd0:0 < d)(hd1:d < 1000000000000000000000000000000000000000000000000000000000000)(hcol:∀i < n,-18446744073709551616 < M i k/\M i k < 18446744073709551616):abj [.val (.lst (mtD n m M)),.val (.int (k:Int)),.val (.int d)]=some (.ok (.fr (mtD n m (stM d k M))),[.val (.lst (mtD n m M)),.val (.int (k:Int)),.val (.int d)]):=by
 have loop:=xg (b:=bTup 2 (jm (cj 5) (jm (cj 6) bNil))) (g:=abx) (fun i ρ=>∃o5 o6,ρ=[.val (.lst (mtD n m M)),.val (.int (k:Int)),.val (.int d),.val (rwD m (M k)),.own none (mtD i m (stM d k M)),o5,o6])
  (l:=agh (mtD n m M)) (ρ:=[.val (.lst (mtD n m M)),.val (.int (k:Int)),.val (.int d),.val (rwD m (M k)),.own none [],.emp,.emp]) 0 ⟨.emp,.emp,rfl⟩ ?_
 ·obtain⟨ρ',e,o5,o6,rfl⟩:=loop;rw[abl,wk,bU] at e;have e1:=aq7 (m:=m) (M:=M) hkn;generalize mtD n m (stM d k M)=m2 at *;generalize mtD n m M=mm at *;generalize rwD m (M k)=rk at *;simp[abj,ajr,e1,e]
 ·rintro i z ρ hd ⟨o5,o6,rfl⟩
  rw[bU];obtain⟨d0,g1,rfl⟩:=adq hd;have hi:i < n:=by
   have:=(aK.mp g1).1;rwa[wk] at this
  have ed:d0=rwD m (M i):=by
   unfold mtD at g1;rw[aO,aY hi] at g1;exact(bD g1).symm
  subst ed;refine⟨[.val (.lst (mtD n m M)),.val (.int (k:Int)),.val (.int d),.val (rwD m (M k)),.own none (mtD i m (stM d k M)),.val (.int (i:Int)),.val (rwD m (M i))],[.val (.lst (mtD n m M)),.val (.int (k:Int)),.val (.int d),.val (rwD m (M k)),.own none (mtD (i+1) m (stM d k M)),.val (.int (i:Int)),.val (rwD m (M i))],rfl,.inl ?_,_,_,rfl⟩;have hcap:(mtD i m (stM d k M)).length < capS:=by rw[wk];unfold capS;omega
  rw[ah7]
  by_cases hik:i=k
  ·subst hik;have ek:stM d i M i=M i:=by funext j;unfold stM;rw[if_pos rfl]
   rw[ek];have hl:=uz m (M i);have hc:((aJ m).map fun j=>D.int (M i j)).length<=capS:=by rw[hl];exact di hm
   unfold rwD;generalize (aJ m).map (fun j=>D.int (M i j))=rr at *
   generalize mtD i m (stM d i M)=m2 at *;generalize mtD n m M=mm at *;simp[abx,hc,hcap]
  ·obtain⟨q1,q2,e⟩:=ao4 (M:=M) hk hd0 hd1 hik (hcol k hkn) (hcol i hi);have l1:=uz m (M i);have l2:=uz m (M k);have l3:=uz m (stM d k M i);have hle:((aJ m).map fun j=>D.int (M i j)).length<=((aJ m).map fun j=>D.int (M k j)).length:=by rw[l1,l2];exact aN _
   have hc:((aJ m).map fun j=>D.int (stM d k M i j)).length<=capS:=by rw[l3];exact di hm
   have hne:¬((i:Int)=(k:Int)):=by omega
   unfold rwD at e ⊢
   generalize (aJ m).map (fun j=>D.int (stM d k M i j))=rs at *
   generalize (aJ m).map (fun j=>D.int (M i j))=ri at *
   generalize (aJ m).map (fun j=>D.int (M k j))=rk at *
   generalize mtD i m (stM d k M)=m2 at *;generalize mtD n m M=mm at *;simp[abx,hne,hle,e,hc,hcap]
def aug(A:Nat->Rw)(n:Nat)(c:Rw):Nat->Rw:=fun i j=>if j < n then A i j else c i
theorem axl(A:Nat->Rw)(n:Nat)(c:Rw)(i:Nat):rwD (n+1) (aug A n c i)=.lst (((aJ n).map fun j=>.int (A i j))++[.int (c i)]):=by
 unfold rwD;rw[gC,cI]
 congr 2
 ·apply fP;intro j hj;have:=gP.mp hj;unfold aug;rw[if_pos this]
 ·show[D.int (aug A n c i n)]=_;unfold aug;rw[if_neg (by omega)]
theorem av8{A:Nat->Rw}{n:Nat}{c:Rw}(hn:n<=100):∃q1 q2,compD (bTup 2 (jm (cj 0) (jm (cj 1) bNil))) (ret true) adt (lw (mtD n n A) ((aJ n).map fun i=>.int (c i))) [] [.emp,.emp]=some (.ok (mtD n (n+1) (aug A n c)),[q1,q2]):=by
 have comp:=qy (b:=bTup 2 (jm (cj 0) (jm (cj 1) bNil))) (mc:=ret true) (me:=adt) (fun j ys ρ=>∃o1 o2:Sl,ρ=[o1,o2]/\ys=mtD j (n+1) (aug A n c))
  (l:=lw (mtD n n A) ((aJ n).map fun i=>D.int (c i))) (ys:=[]) (ρ:=[.emp,.emp]) 0 ⟨.emp,.emp,rfl,rfl⟩ ?_
 ·obtain⟨ys,ρ',e6,o1,o2,rfl,rfl⟩:=comp;have hz:(lw (mtD n n A) ((aJ n).map fun i=>D.int (c i))).length=n:=by unfold lw;rw[cX,wk,uz];omega
  rw[hz,bU] at e6;exact⟨o1,o2,e6⟩
 ·rintro j z ys ρ hd ⟨o1,o2,rfl,rfl⟩
  have hj:j < n:=by
   rcases iY j n with q | q
   ·exact q
   ·rw[bY (by unfold lw;rw[cX,wk];omega)] at hd
    cases hd
  have ed:z=.tup [rwD n (A j),.int (c j)]:=by
   unfold lw mtD at hd;rw[gJ,aO,aO,aY hj] at hd;exact(bD hd).symm
  subst ed;have hl:=uz n (A j);have hc:((aJ n).map fun i=>D.int (A j i)).length<=capS:=by rw[hl];exact di (by omega)
  have hc2:((aJ n).map fun i=>D.int (A j i)).length+1<=capS:=by rw[hl];exact di (by omega)
  refine⟨[.val (rwD n (A j)),.val (.int (c j))],_,true,by simp,rfl,.inr ⟨rfl,rwD (n+1) (aug A n c j),[.val (rwD n (A j)),.val (.int (c j))],?_,_,_,rfl,?_⟩⟩
  ·rw[axl];unfold rwD;generalize (aJ n).map (fun i=>D.int (A j i))=rr at *
   simp[adt,hc,hc2]
  ·rw[bU,ah7]
noncomputable def tops(qv:LL9)(c:Rw):Nat->Int:=fun i=>(BS (aug (dsq qv) qv.length c) qv.length).2 i qv.length
noncomputable def botm(qv:LL9)(c:Rw):Int:=(BS (aug (dsq qv) qv.length c) qv.length).1
section
variable{qv:LL9}(h:Hs qv)(hop:n8 qv=[])(c:Rw)
include h hop
theorem agt:∀i < qv.length,∀j < qv.length,aug (dsq qv) qv.length c i j=dsq qv i j:=fun i _ j hj=>by unfold aug;rw[if_pos hj]
theorem atd:0 < botm qv c/\botm qv c<=60466176:=by
 obtain⟨a,b⟩:=ant h hop (agt h hop c) qv.length (aN _);refine⟨a.pos,tR b ?_⟩;have:(6:Int) ^ qv.length<=6 ^ 10:=by
  have:=gQ (show 0 < 6 by decide) h.most
  exact_mod_cast this
 exact this
theorem apv(i:Nat)(hi:i < qv.length):dot qv.length (dsq qv i) (tops qv c)=c i*botm qv c:=by
 have:=ap4 h hop (agt h hop c) i hi;have e:aug (dsq qv) qv.length c i qv.length=c i:=by unfold aug;rw[if_neg (by omega)]
 rw[e] at this;exact this
theorem ap5:adp [.val (.lst (mtD qv.length qv.length (dsq qv))),.val (.lst ((aJ qv.length).map fun i=>.int (c i)))]=some (.ok (.v (.tup [.lst ((aJ qv.length).map fun i=>.int (tops qv c i)),.int (botm qv c)])),[.val (.lst (mtD qv.length qv.length (dsq qv))),.val (.lst ((aJ qv.length).map fun i=>.int (c i)))]):=by
 have hm:=h.most;generalize hM:aug (dsq qv) qv.length c=M0;have hM0:=agt h hop c;rw[hM] at hM0;have all:=ant h hop hM0;have loop:=xg (b:=cj 4) (g:=adk) (fun k ρ=>k<=qv.length->∃o4 o5,ρ=[.val (.lst (mtD qv.length qv.length (dsq qv))),.val (.lst ((aJ qv.length).map fun i=>D.int (c i))),.own none (mtD qv.length (qv.length+1) (BS M0 k).2),.val (.int (BS M0 k).1),o4,o5])
  (l:=rangeD 0 qv.length) (ρ:=[.val (.lst (mtD qv.length qv.length (dsq qv))),.val (.lst ((aJ qv.length).map fun i=>D.int (c i))),.own none (mtD qv.length (qv.length+1) M0),.val (.int 1),.emp,.emp]) 0 (fun _=>⟨.emp,.emp,rfl⟩) ?_
 ·obtain⟨ρ',e,hρ⟩:=loop;have rl:(rangeD 0 qv.length).length=qv.length:=by simp[rangeD]
  rw[rl,bU] at hρ;obtain⟨o4,o5,rfl⟩:=hρ (aN _);obtain⟨q1,q2,e1⟩:=av8 (A:=dsq qv) (n:=qv.length) (c:=c) (by omega)
  rw[hM] at e1;have ec:compD (cj 0) (ret true) agi (mtD qv.length (qv.length+1) (BS M0 qv.length).2) [] [.emp,.val (.lst (mtD qv.length qv.length (dsq qv)))]=some (.ok ((aJ qv.length).map fun i=>.int (tops qv c i)),yp .emp (mtD qv.length (qv.length+1) (BS M0 qv.length).2)::[.val (.lst (mtD qv.length qv.length (dsq qv)))]):=by
   have hl:=wk qv.length qv.length (dsq qv);have et:=fun i=>ai1 (r:=(BS M0 qv.length).2 i) (m:=qv.length+1) (k:=qv.length) (by omega)
   have eg:∀i,((aJ (qv.length+1)).map fun j=>D.int ((BS M0 qv.length).2 i j))[qv.length]? = some (.int ((BS M0 qv.length).2 i qv.length)):=fun i=>by
    rw[aO,aY (by omega)]
    rfl
   rw[mz (f:=fun d=>match d with | .lst l=>(l[qv.length]?).getD .non | d=>d)]
   ·congr 3
    unfold mtD;rw[bM,fD];apply fP;intro i _;show(((aJ (qv.length+1)).map fun j=>D.int ((BS M0 qv.length).2 i j))[qv.length]?).getD .non=.int (tops qv c i)
    rw[eg i];unfold tops;rw[hM];rfl
   ·intro d hd;unfold mtD at hd;obtain⟨i,_,rfl⟩:=cR.mp hd;have k1:=et i;have k2:=eg i
    clear e1 e hρ
    unfold rwD;generalize (aJ (qv.length+1)).map (fun j=>D.int ((BS M0 qv.length).2 i j))=rr at *
    generalize mtD qv.length qv.length (dsq qv)=mm at *;simp[agi,hl,k1,k2]
  have hl1:=wk qv.length qv.length (dsq qv);have hl2:=uz qv.length c;have hle:(mtD qv.length qv.length (dsq qv)).length<=((aJ qv.length).map fun i=>D.int (c i)).length:=by rw[hl1,hl2];exact aN _
  have hc1:(mtD qv.length (qv.length+1) M0).length<=capS:=by rw[wk];exact di (by omega)
  have hc2:((aJ qv.length).map fun i=>D.int (tops qv c i)).length<=capS:=by rw[uz qv.length (tops qv c)];exact di (by omega)
  have hb:qv.length < 4611686018427387904:=by omega
  have ed:botm qv c=(BS M0 qv.length).1:=by unfold botm;rw[hM]
  rw[ed];generalize (aJ qv.length).map (fun i=>D.int (tops qv c i))=tt at *
  generalize mtD qv.length (qv.length+1) (BS M0 qv.length).2=m3 at *;generalize mtD qv.length (qv.length+1) M0=m2 at *;generalize (aJ qv.length).map (fun i=>D.int (c i))=cc at *
  generalize mtD qv.length qv.length (dsq qv)=mm at *;generalize (BS M0 qv.length).1=dn at *;simp[adp,amz,e1,hc1,hl1,hl2,hb,e,ec,hc2]
 ·rintro k z ρ hd hρ
  rw[bU];have hk:k < qv.length:=by
   have:=(aK.mp hd).1
   simpa[rangeD] using this
  rw[bU] at hρ;obtain⟨o4,o5,rfl⟩:=hρ (by omega)
  have ez:z=.int (k:Int):=by
   unfold rangeD at hd;rw[aO,aY hk] at hd;have:=(bD hd).symm
   simpa using this
  subst ez;obtain⟨b1,b2⟩:=all k (by omega)
  obtain⟨p1,p2,p3⟩:=a6f h hop hM0 b1 hk;have d0:=b1.pos;have d2:(BS M0 k).1<=60466176:=by
   have:(6:Int) ^ k<=6 ^ 10:=by
    have:=gQ (show 0 < 6 by decide) (show k<=10 by omega)
    exact_mod_cast this
   have e10:(6:Int) ^ 10=60466176:=by decide
   omega
  have d1:(BS M0 k).1 < 1000000000000000000000000000000000000000000000000000000000000:=by omega
  have e1:=akq (M:=(BS M0 k).2) hk (show k < qv.length+1 by omega) (by omega) (by omega)
  have e2:=aob (n:=qv.length) (m:=qv.length+1) (M:=(BS M0 k).2) (k:Int) (by omega) (by omega)
  have e3:=ao3 (M:=(BS M0 k).2) hk (show k < qv.length+1 by omega) (by omega) (by omega) d0 d1 (fun i hi=>by have:=p3 i hi;omega)
  have e4:=aq7 (m:=qv.length+1) (M:=stM (BS M0 k).1 k (BS M0 k).2) hk;have e5:=ai1 (r:=stM (BS M0 k).1 k (BS M0 k).2 k) (show k < qv.length+1 by omega)
  have e6:stM (BS M0 k).1 k (BS M0 k).2 k k=(BS M0 k).2 k k:=by unfold stM;rw[if_pos rfl]
  rw[e6] at e5;refine⟨_,[.val (.lst (mtD qv.length qv.length (dsq qv))),.val (.lst ((aJ qv.length).map fun i=>D.int (c i))),.own none (mtD qv.length (qv.length+1) (BS M0 (k+1)).2),.val (.int (BS M0 (k+1)).1),.val (.int (k:Int)),.val (.int (k:Int))],rfl,.inl ?_,fun _=>⟨_,_,rfl⟩⟩
  show adk [.val (.lst (mtD qv.length qv.length (dsq qv))),.val (.lst ((aJ qv.length).map fun i=>D.int (c i))),.own none (mtD qv.length (qv.length+1) (BS M0 k).2),.val (.int (BS M0 k).1),.val (.int (k:Int)),o5]=some (Fl.nx,[.val (.lst (mtD qv.length qv.length (dsq qv))),.val (.lst ((aJ qv.length).map fun i=>D.int (c i))),.own none (mtD qv.length (qv.length+1) (stM (BS M0 k).1 k (BS M0 k).2)),.val (.int ((BS M0 k).2 k k)),.val (.int (k:Int)),.val (.int (k:Int))])
  unfold rwD at e4;generalize (aJ (qv.length+1)).map (fun j=>D.int (stM (BS M0 k).1 k (BS M0 k).2 k j))=rk at *
  generalize mtD qv.length (qv.length+1) (stM (BS M0 k).1 k (BS M0 k).2)=m3 at *;generalize mtD qv.length (qv.length+1) (BS M0 k).2=m2 at *;generalize (aJ qv.length).map (fun i=>D.int (c i))=cc at *
  generalize mtD qv.length qv.length (dsq qv)=mm at *;generalize (BS M0 k).2 k k=pk at *;generalize (BS M0 k).1=dk at *;simp[adk,e1,isN,e2,e3,e4,e5]
end
theorem vf(x:Int):∀V:List Int,(V.map D.int).countP (fun y=>eqD y (.int x))=V.count x
 | []=>rfl
 | a::V=>by
  have e:=aik a x;rw[aV,nZ,vf x V,wZ,e]
  by_cases q:a=x <;> simp[q]
theorem au1(n:Nat)(r:List Int):compD (cj 0) (ret true) yu (rangeD 0 n) [] [.emp,.val (.tup (r.map D.int))]=some (.ok ((aJ n).map fun(j:Nat)=>.int (-((r.count (j:Int):Nat):Int))),yp .emp (rangeD 0 n)::[.val (.tup (r.map D.int))]):=by
 have ok:=ab4 30 r;have hc:=fun x=>vf x r
 rw[mz (f:=fun d=>match d with | .int k=>.int (-((r.count k:Nat):Int)) | d=>d)]
 ·unfold rangeD;rw[bM,fD]
  congr 3
  apply fP;intro i _;simp
 ·intro d hd;unfold rangeD at hd;obtain⟨k,_,rfl⟩:=cR.mp hd;have hk:=hc (k:Int);generalize r.map D.int=vv at *;simp[yu,ok,hk,okD]
section
variable{qv:LL9}(h:Hs qv)
include h
theorem axi{i:Nat}(hi:i < qv.length)(o4:Sl):∃q4,l1_doors_square [.val (hD qv),.own none (mtD i qv.length (dsq qv)),.val (.int (i:Int)),.val (.tup ((dr qv (i:Int)).map D.int)),o4]=some (.nx,[.val (hD qv),.own none (mtD (i+1) qv.length (dsq qv)),.val (.int (i:Int)),.val (.tup ((dr qv (i:Int)).map D.int)),q4]):=by
 have hm:=h.most;have hl:=aar qv;have e1:=au1 qv.length (dr qv (i:Int));have hb:qv.length < 4611686018427387904:=by omega
 have rl:((aJ qv.length).map fun(j:Nat)=>D.int (-(((dr qv (i:Int)).count (j:Int):Nat):Int))).length=qv.length:=by simp
 have hc:((aJ qv.length).map fun(j:Nat)=>D.int (-(((dr qv (i:Int)).count (j:Int):Nat):Int))).length<=capS:=by rw[rl];exact di (by omega)
 have ix:ixN ((aJ qv.length).map fun(j:Nat)=>D.int (-(((dr qv (i:Int)).count (j:Int):Nat):Int))).length (i:Int)=some i:=by
  rw[rl,abe (by omega) (by omega),bI]
 have ia:((aJ qv.length).map fun(j:Nat)=>D.int (-(((dr qv (i:Int)).count (j:Int):Nat):Int)))[i]? = some (.int (-(((dr qv (i:Int)).count (i:Int):Nat):Int))):=by
  rw[aO,aY hi];rfl
 have es:((aJ qv.length).map fun(j:Nat)=>D.int (-(((dr qv (i:Int)).count (j:Int):Nat):Int))).set i (.int (-(((dr qv (i:Int)).count (i:Int):Nat):Int)+((dr qv (i:Int)).length:Int)))=(aJ qv.length).map fun j=>D.int (dsq qv i j):=by
  apply nF;intro j;rw[bO,rl]
  by_cases hj:j < qv.length
  ·rw[aO,aO,aY hj]
   by_cases e:i=j
   ·subst e;rw[if_pos rfl,if_pos hj];show _=some (D.int (dsq qv i i));unfold dsq;rw[if_pos rfl]
    congr 2
    omega
   ·rw[if_neg e];show some (D.int _)=some (D.int (dsq qv i j));unfold dsq;rw[if_neg e]
    congr 2
    omega
  ·rw[if_neg (by omega),bY (by simp;omega),bY (by simp;omega)]
 have dl:((dr qv (i:Int)).map D.int).length=(dr qv (i:Int)).length:=aU ..
 have hcap:(mtD i qv.length (dsq qv)).length < capS:=by rw[wk];unfold capS;omega
 rw[ah7];unfold rwD;rw[<-es];generalize ((aJ qv.length).map fun(j:Nat)=>D.int (-(((dr qv (i:Int)).count (j:Int):Nat):Int)))=rr at *
 generalize (-(((dr qv (i:Int)).count (i:Int):Nat):Int))=v at *;generalize (dr qv (i:Int)).length=ln at *;generalize (dr qv (i:Int)).map D.int=dd at *;generalize mtD i qv.length (dsq qv)=mm at *;refine⟨.val (.lst (rr.set i (.int (v+(ln:Int))))),?_⟩;have hc':qv.length<=capS:=di (by omega)
 have ix':ixN qv.length (i:Int)=some i:=by rw[<-rl];exact ix
 simp only[hD] at *;simp[l1_doors_square,hl,hb,e1,hc',rl,dl,ix',ia,hcap]
theorem agk:qu [.val (hD qv)]=some (.ok (.fr (mtD qv.length qv.length (dsq qv))),[.val (hD qv)]):=by
 have loop:=xg (b:=bTup 2 (jm (cj 2) (jm (cj 3) bNil))) (g:=l1_doors_square) (fun i ρ=>∃o2 o3 o4,ρ=[.val (hD qv),.own none (mtD i qv.length (dsq qv)),o2,o3,o4])
  (l:=agh (hDs qv)) (ρ:=[.val (hD qv),.own none [],.emp,.emp,.emp]) 0 ⟨.emp,.emp,.emp,rfl⟩ ?_
 ·obtain⟨ρ',e,o2,o3,o4,rfl⟩:=loop;rw[abl,aar,bU] at e;generalize mtD qv.length qv.length (dsq qv)=mm at *;simp only[hD] at *;simp[qu,ab6,e]
 ·rintro i z ρ hd ⟨o2,o3,o4,rfl⟩
  rw[bU];obtain⟨d0,g1,rfl⟩:=adq hd;have hi:i < qv.length:=by
   have:=(aK.mp g1).1;rwa[aar] at this
  have ed:d0=.tup ((dr qv (i:Int)).map D.int):=by
   unfold hDs at g1;rw[aO,aG hi] at g1;unfold dr;rw[bI,cT,aG hi];exact(bD g1).symm
  subst ed;obtain⟨q4,e⟩:=axi h hi o4;exact⟨_,_,rfl,.inl e,_,_,_,rfl⟩
end
def gcn(l:List Int):Nat:=l.countP fun d=>decide (d < 0)
theorem al3(x:Int):∀l:List Int,(l.map (xt fun _=>x)).sum=x*((l.length:Int) - (gcn l:Int))
 | []=>by simp[gcn]
 | d::l=>by
  have ih:=al3 x l;rw[aV,dG,ih,cC];unfold gcn xt;rw[nZ]
  by_cases q:d < 0
  ·rw[if_pos q,if_pos (decide_eq_true q),oO]
   congr 1
   omega
  ·have q':¬decide (d < 0)=true:=by simpa using q
   rw[if_neg q,if_neg q'];generalize (l.countP fun d=>decide (d < 0))=c
   show x+x*((l.length:Int) - (c:Int))=x*(((l.length+1:Nat):Int) - ((c+0:Nat):Int));rw[show((l.length+1:Nat):Int) - ((c+0:Nat):Int)=1+((l.length:Int) - (c:Int)) by omega,iK,Int.mul_one]
theorem a3i{g:Int}(hg:g < 0)(l:List Int):l.count g<=gcn l:=List.countP_mono_left fun x _ hx=>by
 have:x=g:=by simpa using hx
 rw[this];exact decide_eq_true hg
section
variable{qv:LL9}(h:Hs qv)(hop:n8 qv=[])
def cg(qv:LL9)(g:Int):Rw:=fun i=>((dr qv (i:Int)).count g:Int)
include h hop
theorem asn(x:Int){i:Nat}(hi:i < qv.length):dot qv.length (dsq qv i) (fun _=>x)=x*(gcn (dr qv (i:Int)):Int):=by
 rw[aei h _ hi,al3];rw[lM,dC];omega
theorem apw{g:Int}(hg:g < 0){i:Nat}(hi:i < qv.length):0<=tops qv (cg qv g) i/\tops qv (cg qv g) i<=botm qv (cg qv g):=by
 have ok:=apv h hop (cg qv g);have b0:=(atd h hop (cg qv g)).1;generalize tops qv (cg qv g)=t at *;generalize botm qv (cg qv g)=b at *;have neg:∀(y:Rw) (l:List Int),(l.map fun d => - xt y d).sum = - (l.map (xt y)).sum:=fun y l=>by
  induction l with
  | nil=>rfl
  | cons x l ih=>rw[aV,aV,dG,dG,ih];omega
 constructor
 ·have:=af1 h hop (X:=fun d => - xt t d) (fun d hd=>by show - xt t d=0;unfold xt;rw[if_pos hd];rfl) (fun i i0 i1 _=>by
   have a:=ok i.toNat (by omega)
   rw[aei h t (by omega),show((i.toNat:Nat):Int)=i by omega] at a
   have c0:0<=cg qv g i.toNat*b:=Int.mul_nonneg (by unfold cg;omega) (by omega)
   have e:xt t i=t i.toNat:=by unfold xt;rw[if_neg (by omega)]
   rw[neg,e,jE];omega) (i:Int) (by omega) (by omega)
  have e:xt t (i:Int)=t i:=by unfold xt;rw[if_neg (by omega),bI]
  rw[e] at this;omega
 ·have:=af1 h hop (X:=xt fun j=>t j+(-b)) (fun d hd=>by unfold xt;rw[if_pos hd]) (fun i i0 i1 _=>by
   have a:=ok i.toNat (by omega)
   have c:=asn h hop (-b) (i:=i.toNat) (by omega)
   have s:=aim (a:=dsq qv i.toNat) (y:=t) (z:=fun _ => -b) qv.length
   rw[a,c,aei h _ (by omega),show((i.toNat:Nat):Int)=i by omega] at s
   have e:xt (fun j=>t j+(-b)) i=t i.toNat+(-b):=by unfold xt;rw[if_neg (by omega)]
   have k1:cg qv g i.toNat<=(gcn (dr qv i):Int):=by
    unfold cg;rw[show((i.toNat:Nat):Int)=i by omega]
    have:=a3i hg (dr qv i);omega
   have k2:=qI k1 (show 0<=b by omega)
   have k3 : -b*(gcn (dr qv i):Int) = -((gcn (dr qv i):Int)*b):=by rw[jC,dC]
   rw[e];omega) (i:Int) (by omega) (by omega)
  have e:xt (fun j=>t j+(-b)) (i:Int)=t i+(-b):=by unfold xt;rw[if_neg (by omega),bI]
  rw[e] at this;omega
end
def btn(qv:LL9)(g:Int):Nat:=(botm qv (cg qv g)).toNat
def part(qv:LL9)(g:Int)(i:Nat):Rat:=mkRat (tops qv (cg qv g) i) (btn qv g)
def v4(qv:LL9)(g:Int):List D:=(aJ qv.length).map fun i=>frD (part qv g i)
theorem vz(qv:LL9)(g:Int):(v4 qv g).length=qv.length:=by simp[v4]
section
variable{qv:LL9}(h:Hs qv)(hop:n8 qv=[]){g:Int}
include h
theorem av1:compD (cj 0) (ret true) acw (hDs qv) [] [.emp,.val (.int g)]=some (.ok ((aJ qv.length).map fun i=>.int (cg qv g i)),yp .emp (hDs qv)::[.val (.int g)]):=by
 rw[mz (f:=fun d=>match d with | .tup l=>.int ((l.countP fun y=>eqD y (.int g):Nat):Int) | d=>d)]
 ·congr 3
  rw[bM];unfold hDs;rw[fD];apply nF;intro i
  by_cases hi:i < qv.length
  ·rw[aO,aO,aY hi,aG hi];show some (D.int ((((qv[i]).map D.int).countP fun y=>eqD y (.int g):Nat):Int))=some (D.int (cg qv g i))
   rw[vf];unfold cg dr;rw[bI,cT,aG hi];rfl
  ·rw[bY (by simp;omega),bY (by simp;omega)]
 ·intro d hd;unfold hDs at hd;obtain⟨r,_,rfl⟩:=cR.mp hd;have ok:=ab4 30 r;generalize r.map D.int=vv at *;simp[acw,ok,okD]
include hop
theorem agr:0 < btn qv g/\btn qv g<=60466176/\((btn qv g:Nat):Int)=botm qv (cg qv g):=by
 have:=atd h hop (cg qv g);unfold btn;omega
theorem aqr(hg:g < 0):compD (cj 0) (ret true) acv ((aJ qv.length).map fun i=>.int (tops qv (cg qv g) i)) [] [.emp,.val (.tup [.lst ((aJ qv.length).map fun i=>.int (tops qv (cg qv g) i)),.int (botm qv (cg qv g))])]=some (.ok (v4 qv g),yp .emp ((aJ qv.length).map fun i=>D.int (tops qv (cg qv g) i))::[.val (.tup [.lst ((aJ qv.length).map fun i=>.int (tops qv (cg qv g) i)),.int (botm qv (cg qv g))])]):=by
 obtain⟨b0,b1,b2⟩:=agr h hop (g:=g);rw[mz (f:=fun d=>match d with | .int t=>frD (mkRat t (btn qv g)) | d=>d)]
 ·congr 3
  rw[bM,fD];rfl
 ·intro d hd;obtain⟨i,hi,rfl⟩:=cR.mp hd;have hi:=gP.mp hi;have t:=apw h hop hg hi;have e:=acr (t:=tops qv (cg qv g) i) b0 (by omega) (fB (show(tops qv (cg qv g) i).natAbs < 100000000 by omega) (by decide))
  rw[b2] at e;generalize tops qv (cg qv g) i=ti at *;generalize ((aJ qv.length).map fun i=>D.int (tops qv (cg qv g) i))=tl at *
  generalize botm qv (cg qv g)=bb at *;have a1:atI [D.lst tl,D.int bb] 1=some (.int bb):=rfl;simp[acv,a1,e]
theorem aum(hg:g < 0):ym [.val (hD qv),.val (.int g)]=some (.ok (.v (.tup (v4 qv g))),[.val (hD qv),.val (.int g)]):=by
 have hm:=h.most;have k1:=agk h;have k2:=av1 h (g:=g);have k3:=ap5 h hop (cg qv g);have k4:=aqr h hop hg;have c1:((aJ qv.length).map fun i=>D.int (cg qv g i)).length<=capS:=by rw[uz];exact di (by omega)
 have c2:(v4 qv g).length<=capS:=by rw[vz];exact di (by omega)
 generalize v4 qv g=pl at *;generalize ((aJ qv.length).map fun i=>D.int (tops qv (cg qv g) i))=tl at *
 generalize ((aJ qv.length).map fun i=>D.int (cg qv g i))=cl at *
 generalize mtD qv.length qv.length (dsq qv)=mm at *;generalize botm qv (cg qv g)=bb at *;have a0:atI [D.lst tl,D.int bb] 0=some (.lst tl):=rfl;simp only[hD] at *;simp[ym,aha,k1,k2,c1,k3,a0,k4,c2]
end
theorem anj:(10000000000000000000000000:Nat) < 2 ^ 500:=bL (show 10000000000000000000000000 < 2 ^ 100 by decide) (gQ (by decide) (by decide))
theorem adf{s:Int}{b:Nat}(hb:0 < b):(mkRat s b).num.natAbs<=s.natAbs:=by
 rw[sI,if_neg (by omega)]
 have hd:((b.gcd s.natAbs:Nat):Int) ∣ s:=Int.ofNat_dvd_left.mpr (Nat.gcd_dvd_right ..);obtain⟨c,hc⟩:=hd;have hp:0 < b.gcd s.natAbs:=Nat.gcd_pos_of_pos_left _ hb;have e:s / ((b.gcd s.natAbs:Nat):Int)=c:=Int.ediv_eq_of_eq_mul_right (by omega) hc
 rw[e];rcases pK c.natAbs with z | z
 ·omega
 ·have:s.natAbs=b.gcd s.natAbs*c.natAbs:=by
   have:=congrArg Int.natAbs hc;rwa[cQ,eF] at this
  calc c.natAbs=1*c.natAbs:=(Nat.one_mul _).symm
   _<=b.gcd s.natAbs*c.natAbs:=Nat.mul_le_mul_right _ hp
   _=s.natAbs:=this.symm
theorem ae5{s:Int}{b:Nat}(hb:0 < b):(mkRat s b).den<=b:=by
 rw[sJ,if_neg (by omega)]
 exact Nat.div_le_self ..
theorem awk{s x:Int}{b:Nat}(hb:0 < b):mkRat s b+mkRat x b=mkRat (s+x) b:=by
 rw[pD _ _ (by omega) (by omega),gG (iB (by omega) (by omega)) (by omega),dR,<-uL,jL]
theorem al0(q r:Rat):mkRat (q.num*(r.den:Int)+r.num*(q.den:Int)) (q.den*r.den)=q+r:=by
 have:=pD q.num r.num q.den_nz r.den_nz;rw[mU,mU] at this;exact this.symm
section
variable{b:Nat}(hb:0 < b)(hB:b<=60466176)
include hb hB
omit hb hB in
theorem ap2{n1 d1 n2 d2 n3 d3:Int}(f1:fMul n1 d2=some (n1*d2))(f2:fMul n2 d1=some (n2*d1))(f3:fMul d1 d2=some (d1*d2))(e:j0 [.val (.int (n1*d2+n2*d1)),.val (.int (d1*d2))]=some (.ok (.v (.tup [.int n3,.int d3])),[.val (.int (n1*d2+n2*d1)),.val (.int (d1*d2))]))(a:Sl):qe [a,.val (.int n1),.val (.int d1),.val (.tup [.int n2,.int d2])]=some (.nx,[a,.val (.int n3),.val (.int d3),.val (.tup [.int n2,.int d2])]):=by
 have a0:atI [D.int n2,D.int d2] 0=some (.int n2):=rfl;have a1:atI [D.int n2,D.int d2] 1=some (.int d2):=rfl;simp[qe,a0,a1,f1,f2,f3,e]
theorem aty{s x:Int}(hs:s.natAbs<=100000000000000)(hx:x.natAbs<=100000000000000)(a:Sl):qe [a,.val (.int (mkRat s b).num),.val (.int ((mkRat s b).den:Int)),.val (frD (mkRat x b))]=some (.nx,[a,.val (.int (mkRat (s+x) b).num),.val (.int ((mkRat (s+x) b).den:Int)),.val (frD (mkRat x b))]):=by
 have n1:=adf (s:=s) hb;have n2:=adf (s:=x) hb;have d1:=ae5 (s:=s) hb;have d2:=ae5 (s:=x) hb;have z1:=(mkRat s b).den_nz;have z2:=(mkRat x b).den_nz;have ea:=al0 (mkRat s b) (mkRat x b);rw[awk hb] at ea;have hdd:(mkRat s b).den*(mkRat x b).den<=60466176*60466176:=cA (by omega) (by omega)
 have hdp:0 < (mkRat s b).den*(mkRat x b).den:=nR (by omega) (by omega)
 have m1:((mkRat s b).num*((mkRat x b).den:Int)).natAbs<=100000000000000*60466176:=by rw[cQ,eF];exact cA (by omega) (by omega)
 have m2:((mkRat x b).num*((mkRat s b).den:Int)).natAbs<=100000000000000*60466176:=by rw[cQ,eF];exact cA (by omega) (by omega)
 have e:=amn (t:=(mkRat s b).num*((mkRat x b).den:Int)+(mkRat x b).num*((mkRat s b).den:Int)) hdp (by omega) (fB (show _ < 10000000000000000000000000 by omega) anj)
 rw[ea,dR] at e;have f1:fMul (mkRat s b).num ((mkRat x b).den:Int)=some ((mkRat s b).num*((mkRat x b).den:Int)):=by unfold fMul;rw[if_pos (.inl (by omega))]
 have f2:fMul (mkRat x b).num ((mkRat s b).den:Int)=some ((mkRat x b).num*((mkRat s b).den:Int)):=by unfold fMul;rw[if_pos (.inl (by omega))]
 have f3:fMul ((mkRat s b).den:Int) ((mkRat x b).den:Int)=some (((mkRat s b).den:Int)*((mkRat x b).den:Int)):=by unfold fMul;rw[if_pos (.inl (by omega))]
 exact ap2 f1 f2 f3 e a
theorem al6(a:Sl):∀(xs:List Int) (s:Int) (o:Sl),s.natAbs+xs.length*10000000000<=100000000000000->(∀x∈xs,x.natAbs<=10000000000)->∃o',forD (cj 3) qe (xs.map fun x=>frD (mkRat x b)) [a,.val (.int (mkRat s b).num),.val (.int ((mkRat s b).den:Int)),o]=some (.nx,[a,.val (.int (mkRat (s+xs.sum) b).num),.val (.int ((mkRat (s+xs.sum) b).den:Int)),o'])
 | [],s,o,_,_=>⟨o,by simp[forD]⟩
 | x::xs,s,o,hs,hx=>by
  have h1:=hx x (bB ..);rw[cC] at hs;have e1:=aty hb hB (s:=s) (x:=x) (by omega) (by omega) a
  obtain⟨o',e2⟩:=al6 a xs (s+x) (.val (frD (mkRat x b))) (by omega) fun y hy=>hx y (aX _ hy)
  refine⟨o',?_⟩;rw[dG,<-yE,aV,v6];generalize frD (mkRat x b)=fx at *;generalize (xs.map fun x=>frD (mkRat x b))=fl at *
  simp[e1,e2]
theorem aoy(xs:List Int)(hl:xs.length<=1000)(hx:∀x∈xs,x.natAbs<=10000000000):qp [.val (.lst (xs.map fun x=>frD (mkRat x b)))]=some (.ok (.v (frD (mkRat xs.sum b))),[.val (.lst (xs.map fun x=>frD (mkRat x b)))]):=by
 obtain⟨o',e⟩:=al6 hb hB (.val (.lst (xs.map fun x=>frD (mkRat x b)))) xs 0 .emp (by omega) hx
 rw[oO] at e;have z:mkRat 0 b=0:=xP b;rw[z] at e;unfold frD at e ⊢
 generalize (xs.map fun x=>D.tup [D.int (mkRat x b).num,D.int ((mkRat x b).den:Int)])=fl at *
 generalize (mkRat xs.sum b).num=n1 at *;generalize (((mkRat xs.sum b).den:Nat):Int)=n2 at *;have e:forD (cj 3) qe fl [.val (.lst fl),.val (.int 0),.val (.int 1),.emp]=_:=e;simp[qp,aed,e]
end
theorem aie{d:D}(hd:okD 30 d=true)(neg:Bool):gEq neg d d=some (.v (.bl (!neg))):=by
 have e:eqD d d=true:=PySem.SeqAt.eqv_refl _ (aaz _ _ hd).1;unfold gEq;rw[hd,e];cases neg <;> rfl
theorem aqz(n:Nat)(q:Rat):okD (n+2) (frD q)=true:=ab4 (n+1) [q.num,(q.den:Int)]
theorem agx{q:Rat}(hn:q.num.natAbs < 2 ^ 500)(hd:q.den < 1000000000000000000000000000000000000000000000000000000000000):jq [.val (frD q)]=some (.ok (.v (.bl true)),[.val (frD q)]):=by
 have z:=q.den_nz;have e:=amn (t:=q.num) (b:=q.den) (by omega) hd hn
 rw[mU] at e;have r:=aie (aqz 28 q) false;have hpos:0 < (q.den:Int):=by omega
 have ec:compD (cj 0) (ret true) sr [.int q.num,.int (q.den:Int)] [] [.emp]=some (.ok [.bl true,.bl true],yp .emp [.int q.num,.int (q.den:Int)]::[]):=by
  rw[mz (f:=fun _=>.bl true)]
  ·rfl
  ·intro d hd;have:∃i,d=.int i:=by
    simp only[bF,eV,or_false] at hd;rcases hd with rfl | rfl
    ·exact⟨_,rfl⟩
    ·exact⟨_,rfl⟩
   obtain⟨i,rfl⟩:=this;simp[sr,ael]
 have hb2:w6 [D.bl true,D.bl true]=some [true,true]:=aek [true,true];unfold frD at *;generalize q.num=n1 at *;generalize (q.den:Int)=n2 at *;have a0:atI [D.int n1,D.int n2] 0=some (.int n1):=rfl;have a1:atI [D.int n1,D.int n2] 1=some (.int n2):=rfl;simp[jq,zj,isTy,ec,hb2,a0,a1,hpos,e,r]
section
variable{qv:LL9}(h:Hs qv)(hop:n8 qv=[]){g:Int}(hg:g < 0)
include h hop hg
end
theorem a2y(x:Int):frD (mkRat x 1)=.tup [.int x,.int 1]:=by
 unfold frD;rw[sI,sJ];simp
def qrw(m:Nat)(r:Rw)(d:Int):List D:=(aJ m).map fun j=>frD (mkRat (r j) d.toNat)
def qmt(n m:Nat)(N:Nat->Rw)(d:Nat->Int):List D:=(aJ n).map fun i=>.lst (qrw m (N i) (d i))
theorem zu(m:Nat)(r:Rw)(d:Int):(qrw m r d).length=m:=by simp[qrw]
theorem afu(n m:Nat)(N:Nat->Rw)(d:Nat->Int):(qmt n m N d).length=n:=by simp[qmt]
theorem aua(n m:Nat)(N:Nat->Rw)(d:Nat->Int):qmt (n+1) m N d=qmt n m N d++[.lst (qrw m (N n) (d n))]:=by unfold qmt;rw[gC,cI];rfl
theorem amc{m:Nat}{r:Rw}{d:Int}{k:Nat}(hk:k < m):atI (qrw m r d) (k:Int)=some (frD (mkRat (r k) d.toNat)):=by
 unfold atI;rw[abe (by omega) (by rw[zu];omega),bI]
 show(qrw m r d)[k]? = _;unfold qrw;rw[aO,aY hk];rfl
theorem aqi{n m:Nat}{N:Nat->Rw}{d:Nat->Int}{k:Nat}(hk:k < n):atI (qmt n m N d) (k:Int)=some (.lst (qrw m (N k) (d k))):=by
 unfold atI;rw[abe (by omega) (by rw[afu];omega),bI]
 show(qmt n m N d)[k]? = _;unfold qmt;rw[aO,aY hk];rfl
theorem aqh{n m:Nat}{N:Nat->Rw}{d:Nat->Int}{k:Nat}(hk:k < n)(r:Rw)(e:Int):(qmt n m N d).set k (.lst (qrw m r e))=qmt n m (fun i=>if i=k then r else N i) (fun i=>if i=k then e else d i):=by
 apply nF;intro i;rw[bO,afu]
 by_cases hi:i < n
 ·unfold qmt;rw[aO,aO,aY hi]
  by_cases q:k=i
  ·subst q;rw[if_pos rfl,if_pos hi];show _=some (D.lst (qrw m (if k=k then r else N k) (if k=k then e else d k)))
   rw[if_pos rfl,if_pos rfl]
  ·rw[if_neg q];show _=some (D.lst (qrw m (if i=k then r else N i) (if i=k then e else d i)))
   rw[if_neg (fO q),if_neg (fO q)];rfl
 ·rw[if_neg (by omega)]
  unfold qmt;rw[bY (by simp;omega),bY (by simp;omega)]
structure Sm (q:Rat):Prop where
 num:q.num.natAbs<=10000000000000000000000000000000000000000
 den:q.den<=100000000000000000
theorem Sm.mk'{x:Int}{b:Nat}(hb:0 < b)(h1:x.natAbs<=10000000000000000000000000000000000000000)(h2:b<=100000000000000000):Sm (mkRat x b):=⟨Nat.le_trans (adf hb) h1,cM (ae5 hb) h2⟩
theorem big2:(100000000000000000000000000000000000000000000000000000000000000000000000000000000:Nat) < 2 ^ 500:=bL (show 100000000000000000000000000000000000000000000000000000000000000000000000000000000 < 2 ^ 300 by decide +kernel) (gQ (by decide) (by decide))
theorem lowQ{t:Int}{b:Nat}(hb:0 < b)(hB:b < 1000000000000000000000000000000000000000000000000000000000000)(ht:t.natAbs<=100000000000000000000000000000000000000000000000000000000000000000000000000):j0 [.val (.int t),.val (.int (b:Int))]=some (.ok (.v (frD (mkRat t b))),[.val (.int t),.val (.int (b:Int))]):=amn hb hB (pJ ht (fB (by decide +kernel) big2))
theorem ais{q r:Rat}(hq:Sm q)(hr:Sm r)(a:Sl):qe [a,.val (.int q.num),.val (.int (q.den:Int)),.val (frD r)]=some (.nx,[a,.val (.int (q+r).num),.val (.int ((q+r).den:Int)),.val (frD r)]):=by
 obtain⟨q1,q2⟩:=hq;obtain⟨r1,r2⟩:=hr;have z1:=q.den_nz;have z2:=r.den_nz;have hdp:0 < q.den*r.den:=nR (by omega) (by omega)
 have hdd:q.den*r.den<=100000000000000000*100000000000000000:=cA q2 r2;have m1:(q.num*(r.den:Int)).natAbs<=10000000000000000000000000000000000000000*100000000000000000:=by rw[cQ,eF];exact cA q1 r2
 have m2:(r.num*(q.den:Int)).natAbs<=10000000000000000000000000000000000000000*100000000000000000:=by rw[cQ,eF];exact cA r1 q2
 have e:=lowQ (t:=q.num*(r.den:Int)+r.num*(q.den:Int)) hdp (by omega) (by omega)
 rw[al0,dR] at e;have f1:fMul q.num (r.den:Int)=some (q.num*(r.den:Int)):=by unfold fMul;rw[if_pos (.inr (by omega))]
 have f2:fMul r.num (q.den:Int)=some (r.num*(q.den:Int)):=by unfold fMul;rw[if_pos (.inr (by omega))]
 have f3:fMul (q.den:Int) (r.den:Int)=some ((q.den:Int)*(r.den:Int)):=by unfold fMul;rw[if_pos (.inl (by omega))]
 exact ap2 f1 f2 f3 e a
theorem a5w{q r:Rat}(hq:Sm q)(hr:Sm r):qp [.val (.lst [frD q,frD r])]=some (.ok (.v (frD (q+r))),[.val (.lst [frD q,frD r])]):=by
 have e1:=ais (q:=0) (r:=q) ⟨by decide,by decide⟩ hq (.val (.lst [frD q,frD r]))
 rw[Rat.zero_add] at e1;have e2:=ais hq hr (.val (.lst [frD q,frD r]));have e1:qe [.val (.lst [frD q,frD r]),.val (.int 0),.val (.int 1),.val (frD q)]=_:=e1;have ef:frD (q+r)=.tup [.int (q+r).num,.int ((q+r).den:Int)]:=rfl;rw[ef];generalize (q+r).num=n1 at *;generalize (((q+r).den:Nat):Int)=n2 at *;generalize q.num=n3 at *;generalize ((q.den:Nat):Int)=n4 at *;generalize frD q=fq at *;generalize frD r=fr at *;simp[qp,aed,v6,e1,e2]
theorem ac5{n m:Nat}{N N':Nat->Rw}{d d':Nat->Int}(h1:∀i < n,N i=N' i)(h2:∀i < n,d i=d' i):qmt n m N d=qmt n m N' d':=by
 unfold qmt;apply fP;intro i hi;have:=gP.mp hi;rw[h1 i this,h2 i this]
theorem ajg{x:Int}{B:Nat}(hB:0 < B):(mkRat x B).num*(B:Int)=x*((mkRat x B).den:Int):=(gG (mkRat x B).den_nz (by omega)).mp (mU _)
theorem awj{P B:Nat}(hP:0 < P)(hB:0 < B):0 < (mkRat (P:Int) B).num:=by
 have e:=ajg (x:=(P:Int)) hB;have z:=(mkRat (P:Int) B).den_nz;have:0 < (P:Int)*((mkRat (P:Int) B).den:Int):=Int.mul_pos (by omega) (by omega)
 rw[<-e] at this;exact Int.pos_of_mul_pos_left this (by omega)
theorem divQ{x:Int}{P B:Nat}(hP:0 < P)(hB:0 < B):mkRat ((mkRat x B).num*((mkRat (P:Int) B).den:Int)) ((mkRat x B).den*(mkRat (P:Int) B).num.toNat)=mkRat x P:=by
 have e1:=ajg (x:=x) hB;have e2:=ajg (x:=(P:Int)) hB;have hp:=awj hP hB;have z1:=(mkRat x B).den_nz;rw[gG (iB z1 (by omega)) (by omega),dR,show(((mkRat (P:Int) B).num.toNat:Nat):Int)=(mkRat (P:Int) B).num by omega]
 generalize (mkRat x B).num=a at *;generalize (((mkRat x B).den:Nat):Int)=b at *;generalize (mkRat (P:Int) B).num=c at *;generalize (((mkRat (P:Int) B).den:Nat):Int)=e at *;refine eU (a:=(B:Int)) (by omega) ?_
 calc (B:Int)*(a*e*P)=(a*B)*(P*e):=by ac_rfl
  _=(x*b)*(c*B):=by rw[e1,e2]
  _=(B:Int)*(x*(b*c)):=by ac_rfl
theorem negQ{u v:Int}{P B:Nat}(hP:0 < P)(hB:0 < B):mkRat (0 - (mkRat u P).num*(mkRat v B).num) ((mkRat u P).den*(mkRat v B).den)=mkRat (-(u*v)) (P*B):=by
 have e1:=ajg (x:=u) hP;have e2:=ajg (x:=v) hB;have z1:=(mkRat u P).den_nz;have z2:=(mkRat v B).den_nz;rw[gG (iB z1 z2) (iB (by omega) (by omega)),dR,dR,tQ]
 generalize (mkRat u P).num=a at *;generalize (((mkRat u P).den:Nat):Int)=b at *;generalize (mkRat v B).num=c at *;generalize (((mkRat v B).den:Nat):Int)=e at *
 calc -(a*c)*((P:Int)*B) = -((a*P)*(c*B)):=by rw[jC];congr 1;ac_rfl
  _ = -((u*b)*(v*e)):=by rw[e1,e2]
  _ = -(u*v)*(b*e):=by rw[jC];congr 1;ac_rfl
theorem subQ{a u v z:Int}{P B:Nat}(hP:0 < P)(hB:0 < B)(hz:(B:Int)*z=P*a - v*u):mkRat a B+mkRat (-(u*v)) (P*B)=mkRat z P:=by
 rw[pD _ _ (by omega) (iB (by omega) (by omega)),gG (iB (by omega) (iB (by omega) (by omega))) (by omega),dR,dR]
 have e:a*((P:Int)*B) + -(u*v)*B=B*(P*a - v*u):=by
  rw[lM,jC];have e1:a*((P:Int)*B)=B*(P*a):=by ac_rfl
  have e2:u*v*(B:Int)=B*(v*u):=by ac_rfl
  omega
 rw[e,<-hz,dR]
 ac_rfl
section
variable{qv:LL9}(h:Hs qv)(hop:n8 qv=[]){g:Int}
include h
theorem a7e(n:Nat)(r:List Int):compD (cj 0) (ret true) z8 (rangeD 0 n) [] [.emp,.val (.tup (r.map D.int))]=some (.ok ((aJ n).map fun(j:Nat)=>.tup [.int (0 - ((r.count (j:Int):Nat):Int)),.int 1]),yp .emp (rangeD 0 n)::[.val (.tup (r.map D.int))]):=by
 have ok:=ab4 30 r;have hc:=fun x=>vf x r
 rw[mz (f:=fun d=>match d with | .int k=>.tup [.int (0 - ((r.count k:Nat):Int)),.int 1] | d=>d)]
 ·unfold rangeD;rw[bM,fD]
  congr 3
  apply fP;intro i _;simp
 ·intro d hd;unfold rangeD at hd;obtain⟨k,_,rfl⟩:=cR.mp hd;have hk:=hc (k:Int);generalize r.map D.int=vv at *;simp[z8,ok,hk,okD]
theorem a2c{i:Nat}(hi:i < qv.length):((((aJ qv.length).map fun(j:Nat)=>D.tup [.int (0 - (((dr qv (i:Int)).count (j:Int):Nat):Int)),.int 1])++[D.tup [.int (((dr qv (i:Int)).count g:Nat):Int),.int 1]]).set i (D.tup [.int (((dr qv (i:Int)).length:Int) - (((dr qv (i:Int)).count (i:Int):Nat):Int)),.int 1]))=qrw (qv.length+1) (aug (dsq qv) qv.length (cg qv g) i) 1:=by
 apply nF;intro j;unfold qrw;rw[bO]
 by_cases hj:j < qv.length+1
 ·rw[aO,aY hj];show _=some (frD (mkRat (aug (dsq qv) qv.length (cg qv g) i j) (1:Int).toNat));rw[show(1:Int).toNat=1 from rfl,a2y]
  unfold aug dsq cg
  by_cases e:i=j
  ·subst e;rw[if_pos rfl,if_pos (by simp;omega),if_pos hi,if_pos rfl]
  ·rw[if_neg e]
   by_cases q:j < qv.length
   ·rw[cH (by simpa using q),aO,aY q,if_pos q,if_neg e]
    rfl
   ·have:j=qv.length:=by omega
    subst this;rw[gF (by simp),if_neg q]
    simp
 ·rw[if_neg (by omega),bY (by simp;omega),bY (by simp;omega)]
theorem au6{i:Nat}(hi:i < qv.length)(o6 o7 o8 o9 o10:Sl):∃q6,l1__law_solved [.val (hD qv),.val (.int g),.val (.int (qv.length:Int)),.own none (qmt i (qv.length+1) (aug (dsq qv) qv.length (cg qv g)) fun _=>1),.val (.int (i:Int)),.val (.tup ((dr qv (i:Int)).map D.int)),o6,o7,o8,o9,o10] =
  some (.nx,[.val (hD qv),.val (.int g),.val (.int (qv.length:Int)),.own none (qmt (i+1) (qv.length+1) (aug (dsq qv) qv.length (cg qv g)) fun _=>1),.val (.int (i:Int)),.val (.tup ((dr qv (i:Int)).map D.int)),q6,o7,o8,o9,o10]):=by
 have hm:=h.most;have e1:=a7e h qv.length (dr qv (i:Int));have er:=a2c h (g:=g) hi;have ok:=ab4 30 (dr qv (i:Int));have c1:=vf g (dr qv (i:Int));have c2:=vf (i:Int) (dr qv (i:Int));have hb:qv.length < 4611686018427387904:=by omega
 have ll:((aJ qv.length).map fun(j:Nat)=>D.tup [.int (0 - (((dr qv (i:Int)).count (j:Int):Nat):Int)),.int 1]).length=qv.length:=by simp
 have hc:qv.length<=capS:=di (by omega)
 have hc2:qv.length+1<=capS:=di (by omega)
 have dl:((dr qv (i:Int)).map D.int).length=(dr qv (i:Int)).length:=aU ..
 have ix:ixN (qv.length+1) (i:Int)=some i:=by rw[abe (by omega) (by omega),bI]
 have hcap:(qmt i (qv.length+1) (aug (dsq qv) qv.length (cg qv g)) fun _=>1).length < capS:=by rw[afu];unfold capS;omega
 refine⟨.val (.lst (qrw (qv.length+1) (aug (dsq qv) qv.length (cg qv g) i) 1)),?_⟩;rw[aua,<-er];generalize ((aJ qv.length).map fun(j:Nat)=>D.tup [.int (0 - (((dr qv (i:Int)).count (j:Int):Nat):Int)),.int 1])=rr at *
 generalize hv1:(((dr qv (i:Int)).count g:Nat):Int)=v1 at *;generalize hv2:(((dr qv (i:Int)).count (i:Int):Nat):Int)=v2 at *;generalize (dr qv (i:Int)).length=ln at *;generalize (dr qv (i:Int)).map D.int=dd at *;generalize (qmt i (qv.length+1) (aug (dsq qv) qv.length (cg qv g)) fun _=>1)=mm at *
 simp[l1__law_solved,hb,e1,ll,hc,hc2,ok,okD,c1,c2,hv1,hv2,dl,ix,hcap]
theorem anr(hg:g < 0):∀i < qv.length,∀j,j<=qv.length->(aug (dsq qv) qv.length (cg qv g) i j).natAbs<=6:=fun i hi j hj=>by
 obtain⟨l1,l6,_⟩:=h.dr (x:=(i:Int)) (by omega) (by omega)
 have c1:(dr qv (i:Int)).count g<=(dr qv (i:Int)).length:=tX;have c2:(dr qv (i:Int)).count (j:Int)<=(dr qv (i:Int)).length:=tX;unfold aug dsq cg;split
 ·split <;> omega
 ·omega
end
theorem ax8{a1 a2 a3 a4:Int}{R:D}(f1:fMul a1 a4=some (a1*a4))(f2:fMul a2 a3=some (a2*a3))(e:j0 [.val (.int (a1*a4)),.val (.int (a2*a3))]=some (.ok (.v R),[.val (.int (a1*a4)),.val (.int (a2*a3))])):nu [.val (.tup [.int a1,.int a2]),.val (.tup [.int a3,.int a4])]=some (.ok R,[.val (.tup [.int a1,.int a2]),.val (.tup [.int a3,.int a4])]):=by
 have i0:atI [D.int a1,D.int a2] 0=some (.int a1):=rfl;have i1:atI [D.int a1,D.int a2] 1=some (.int a2):=rfl;have i2:atI [D.int a3,D.int a4] 0=some (.int a3):=rfl;have i3:atI [D.int a3,D.int a4] 1=some (.int a4):=rfl;simp[nu,i0,i1,i2,i3,f1,f2,e]
theorem au8{a1 a2 a3 a4:Int}{R:D}(f1:fMul a1 a3=some (a1*a3))(f2:fMul a2 a4=some (a2*a4))(e:j0 [.val (.int (0 - a1*a3)),.val (.int (a2*a4))]=some (.ok (.v R),[.val (.int (0 - a1*a3)),.val (.int (a2*a4))])):nj [.val (.tup [.int a1,.int a2]),.val (.tup [.int a3,.int a4])]=some (.ok R,[.val (.tup [.int a1,.int a2]),.val (.tup [.int a3,.int a4])]):=by
 have i0:atI [D.int a1,D.int a2] 0=some (.int a1):=rfl;have i1:atI [D.int a1,D.int a2] 1=some (.int a2):=rfl;have i2:atI [D.int a3,D.int a4] 0=some (.int a3):=rfl;have i3:atI [D.int a3,D.int a4] 1=some (.int a4):=rfl;rw[tQ] at e;simp[nj,i0,i1,i2,i3,f1,f2,e]
section
variable{m:Nat}{N:Nat->Rw}{d p:Int}(d0:0 < d)(d1:d<=60466176)(p0:0 < p)(p1:p<=362797056)
include d0 d1 p0 p1
theorem axj{x:Int}(hx:x.natAbs<=100000000000000):Sm (mkRat x d.toNat)/\Sm (mkRat x p.toNat):=⟨.mk' (by omega) (by omega) (by omega),.mk' (by omega) (by omega) (by omega)⟩
theorem own_one{x:Int}(hx:x.natAbs<=100000000000000):nu [.val (frD (mkRat x d.toNat)),.val (frD (mkRat p d.toNat))]=some (.ok (frD (mkRat x p.toNat)),[.val (frD (mkRat x d.toNat)),.val (frD (mkRat p d.toNat))]):=by
 have ep:((p.toNat:Nat):Int)=p:=by omega
 have dq:=divQ (x:=x) (P:=p.toNat) (B:=d.toNat) (by omega) (by omega)
 have np:=awj (P:=p.toNat) (B:=d.toNat) (by omega) (by omega)
 rw[ep] at dq np;obtain⟨q1,q2⟩:=(axj d0 d1 p0 p1 hx).1;obtain⟨o1,o2⟩:=(axj d0 d1 p0 p1 (x:=p) (by omega)).1
 have n2:=adf (s:=p) (b:=d.toNat) (by omega)
 have zq:=(mkRat x d.toNat).den_nz;have zo:=(mkRat p d.toNat).den_nz;have hb:0 < (mkRat x d.toNat).den*(mkRat p d.toNat).num.toNat:=nR (by omega) (by omega)
 have hB:(mkRat x d.toNat).den*(mkRat p d.toNat).num.toNat<=100000000000000000*362797056:=cA q2 (by omega)
 have m1:((mkRat x d.toNat).num*((mkRat p d.toNat).den:Int)).natAbs<=10000000000000000000000000000000000000000*100000000000000000:=by rw[cQ,eF];exact cA q1 o2
 have e:=lowQ (t:=(mkRat x d.toNat).num*((mkRat p d.toNat).den:Int)) hb (by omega) (by omega)
 rw[dq,dR,show(((mkRat p d.toNat).num.toNat:Nat):Int)=(mkRat p d.toNat).num by omega] at e
 have f1:fMul (mkRat x d.toNat).num ((mkRat p d.toNat).den:Int)=some ((mkRat x d.toNat).num*((mkRat p d.toNat).den:Int)):=by unfold fMul;rw[if_pos (.inr (by omega))]
 have f2:fMul ((mkRat x d.toNat).den:Int) (mkRat p d.toNat).num=some (((mkRat x d.toNat).den:Int)*(mkRat p d.toNat).num):=by unfold fMul;rw[if_pos (.inr (by omega))]
 exact ax8 f1 f2 e
theorem auo{r:Rw}(hr:∀j < m,(r j).natAbs<=100000000000000):∃o,compD (cj 0) (ret true) nu (qrw m r d) [] [.emp,.val (frD (mkRat p d.toNat))]=some (.ok (qrw m r p),[o,.val (frD (mkRat p d.toNat))]):=by
 have comp:=qy (b:=cj 0) (mc:=ret true) (me:=nu) (fun j ys ρ=>∃o:Sl,ρ=[o,.val (frD (mkRat p d.toNat))]/\ys=qrw j r p)
  (l:=qrw m r d) (ys:=[]) (ρ:=[.emp,.val (frD (mkRat p d.toNat))]) 0 ⟨.emp,rfl,rfl⟩ ?_
 ·obtain⟨ys,ρ',e6,o,rfl,rfl⟩:=comp;rw[zu,bU] at e6;exact⟨o,e6⟩
 ·rintro j z ys ρ hd ⟨o,rfl,rfl⟩
  have hj:j < m:=by have:=(aK.mp hd).1;rwa[zu] at this
  have ed:z=frD (mkRat (r j) d.toNat):=by
   unfold qrw at hd;rw[aO,aY hj] at hd;exact(bD hd).symm
  subst ed;refine⟨[.val (frD (mkRat (r j) d.toNat)),.val (frD (mkRat p d.toNat))],_,true,by simp,rfl,.inr ⟨rfl,frD (mkRat (r j) p.toNat),_,own_one d0 d1 p0 p1 (hr j hj),_,rfl,?_⟩⟩
  rw[bU];unfold qrw;rw[gC,cI];rfl
theorem au7{u v:Int}(hu:u.natAbs<=100000000000000)(hv:v.natAbs<=362797056):nj [.val (frD (mkRat u p.toNat)),.val (frD (mkRat v d.toNat))]=some (.ok (frD (mkRat (-(u*v)) (p.toNat*d.toNat))),[.val (frD (mkRat u p.toNat)),.val (frD (mkRat v d.toNat))]):=by
 have nq:=negQ (u:=u) (v:=v) (P:=p.toNat) (B:=d.toNat) (by omega) (by omega)
 have n1:=adf (s:=u) (b:=p.toNat) (by omega)
 have n2:=adf (s:=v) (b:=d.toNat) (by omega)
 have k1:=ae5 (s:=u) (b:=p.toNat) (by omega)
 have k2:=ae5 (s:=v) (b:=d.toNat) (by omega)
 have z1:=(mkRat u p.toNat).den_nz;have z2:=(mkRat v d.toNat).den_nz;have hb:0 < (mkRat u p.toNat).den*(mkRat v d.toNat).den:=nR (by omega) (by omega)
 have hB:(mkRat u p.toNat).den*(mkRat v d.toNat).den<=362797056*60466176:=cA (by omega) (by omega)
 have m1:((mkRat u p.toNat).num*(mkRat v d.toNat).num).natAbs<=100000000000000*362797056:=by rw[cQ];exact cA (by omega) (by omega)
 have e:=lowQ (t:=0 - (mkRat u p.toNat).num*(mkRat v d.toNat).num) hb (by omega) (by omega)
 rw[nq,dR] at e;have f1:fMul (mkRat u p.toNat).num (mkRat v d.toNat).num=some ((mkRat u p.toNat).num*(mkRat v d.toNat).num):=by unfold fMul;rw[if_pos (.inr (by omega))]
 have f2:fMul ((mkRat u p.toNat).den:Int) ((mkRat v d.toNat).den:Int)=some (((mkRat u p.toNat).den:Int)*((mkRat v d.toNat).den:Int)):=by unfold fMul;rw[if_pos (.inr (by omega))]
 exact au8 f1 f2 e
def aea(m:Nat)(r:Rw)(v:Int)(P:Nat):List D:=(aJ m).map fun j=>frD (mkRat (-(r j*v)) P)
theorem aq8{r:Rw}{v:Int}(hr:∀j < m,(r j).natAbs<=100000000000000)(hv:v.natAbs<=362797056):∃o,compD (cj 0) (ret true) nj (qrw m r p) [] [.emp,.val (frD (mkRat v d.toNat))]=some (.ok (aea m r v (p.toNat*d.toNat)),[o,.val (frD (mkRat v d.toNat))]):=by
 have comp:=qy (b:=cj 0) (mc:=ret true) (me:=nj) (fun j ys ρ=>∃o:Sl,ρ=[o,.val (frD (mkRat v d.toNat))]/\ys=aea j r v (p.toNat*d.toNat))
  (l:=qrw m r p) (ys:=[]) (ρ:=[.emp,.val (frD (mkRat v d.toNat))]) 0 ⟨.emp,rfl,rfl⟩ ?_
 ·obtain⟨ys,ρ',e6,o,rfl,rfl⟩:=comp;rw[zu,bU] at e6;exact⟨o,e6⟩
 ·rintro j z ys ρ hd ⟨o,rfl,rfl⟩
  have hj:j < m:=by have:=(aK.mp hd).1;rwa[zu] at this
  have ed:z=frD (mkRat (r j) p.toNat):=by
   unfold qrw at hd;rw[aO,aY hj] at hd;exact(bD hd).symm
  subst ed;refine⟨[.val (frD (mkRat (r j) p.toNat)),.val (frD (mkRat v d.toNat))],_,true,by simp,rfl,.inr ⟨rfl,frD (mkRat (-(r j*v)) (p.toNat*d.toNat)),_,au7 d0 d1 p0 p1 (hr j hj) hv,_,rfl,?_⟩⟩
  rw[bU];unfold aea;rw[gC,cI];rfl
theorem au0{a r z:Rw}{v:Int}(ha:∀j < m,(a j).natAbs<=100000000000000)(hr:∀j < m,(r j).natAbs<=100000000000000)(hv:v.natAbs<=362797056)(hz:∀j < m,d*z j=p*a j - v*r j):∃q1 q2,compD (bTup 2 (jm (cj 0) (jm (cj 1) bNil))) (ret true) vm (lw (qrw m a d) (aea m r v (p.toNat*d.toNat))) [] [.emp,.emp]=some (.ok (qrw m z p),[q1,q2]):=by
 have ll:(aea m r v (p.toNat*d.toNat)).length=m:=by simp[aea]
 have comp:=qy (b:=bTup 2 (jm (cj 0) (jm (cj 1) bNil))) (mc:=ret true) (me:=vm) (fun j ys ρ=>∃o1 o2:Sl,ρ=[o1,o2]/\ys=qrw j z p)
  (l:=lw (qrw m a d) (aea m r v (p.toNat*d.toNat))) (ys:=[]) (ρ:=[.emp,.emp]) 0 ⟨.emp,.emp,rfl,rfl⟩ ?_
 ·obtain⟨ys,ρ',e6,o1,o2,rfl,rfl⟩:=comp;have hzl:(lw (qrw m a d) (aea m r v (p.toNat*d.toNat))).length=m:=by unfold lw;rw[cX,zu,ll];omega
  rw[hzl,bU] at e6;exact⟨o1,o2,e6⟩
 ·rintro j w ys ρ hd ⟨o1,o2,rfl,rfl⟩
  have hj:j < m:=by
   rcases iY j m with q | q
   ·exact q
   ·rw[bY (by unfold lw;rw[cX,zu];omega)] at hd
    cases hd
  have ed:w=.tup [frD (mkRat (a j) d.toNat),frD (mkRat (-(r j*v)) (p.toNat*d.toNat))]:=by
   unfold lw qrw aea at hd;rw[gJ,aO,aO,aY hj] at hd;exact(bD hd).symm
  subst ed;have hpd:p.toNat*d.toNat<=362797056*60466176:=cA (by omega) (by omega)
  have hpp:0 < p.toNat*d.toNat:=nR (by omega) (by omega)
  have m1:(-(r j*v)).natAbs<=100000000000000*362797056:=by rw[Int.natAbs_neg,cQ];exact cA (hr j hj) hv
  have e:=a5w (q:=mkRat (a j) d.toNat) (r:=mkRat (-(r j*v)) (p.toNat*d.toNat)) (axj d0 d1 p0 p1 (ha j hj)).1 (.mk' hpp (by omega) (by omega))
  rw[subQ (z:=z j) (by omega) (by omega) (by have:=hz j hj;rw[show((d.toNat:Nat):Int)=d by omega,show((p.toNat:Nat):Int)=p by omega];exact this)] at e
  clear m1 hpp hpd
  refine⟨[.val (frD (mkRat (a j) d.toNat)),.val (frD (mkRat (-(r j*v)) (p.toNat*d.toNat)))],_,true,by simp,rfl,.inr ⟨rfl,frD (mkRat (z j) p.toNat),[.val (frD (mkRat (a j) d.toNat)),.val (frD (mkRat (-(r j*v)) (p.toNat*d.toNat)))],?_,_,_,rfl,?_⟩⟩
  ·have c2:2<=capS:=di (by decide)
   generalize frD (mkRat (z j) p.toNat)=R at *;generalize frD (mkRat (a j) d.toNat)=f1 at *;generalize frD (mkRat (-(r j*v)) (p.toNat*d.toNat))=f2 at *;simp[vm,c2,e]
  ·rw[bU];unfold qrw;rw[gC,cI];rfl
end
theorem a7k{n m:Nat}{NN:Nat->Rw}{dd:Nat->Int}{i pv:Nat}{d p:Int}{z:Rw}(d0:0 < d)(d1:d<=60466176)(p0:0 < p)(p1:p<=362797056)(hm:m<=100)(hi:i < n)(hp:pv < n)(hpm:pv < m)(hne:i≠pv)(ed:dd i=d)(ep:dd pv=p)(ha:∀j < m,(NN i j).natAbs<=100000000000000)(hr:∀j < m,(NN pv j).natAbs<=100000000000000)(hv:(NN i pv).natAbs<=362797056)(hz:∀j < m,d*z j=p*NN i j - NN i pv*NN pv j)(a0 a1 a2 a5 a6 a7 o9 o10:Sl) :
  ∃q9 q10,l2__law_solved [a0,a1,a2,.own none (qmt n m NN dd),.val (.int (pv:Int)),a5,a6,a7,.val (.int (i:Int)),o9,o10]=some (.nx,[a0,a1,a2,.own none ((qmt n m NN dd).set i (.lst (qrw m z p))),.val (.int (pv:Int)),a5,a6,a7,.val (.int (i:Int)),q9,q10]):=by
 have e1:=aqi (m:=m) (N:=NN) (d:=dd) hi;have e2:=aqi (m:=m) (N:=NN) (d:=dd) hp;rw[ed] at e1;rw[ep] at e2;have e3:=amc (r:=NN i) (d:=d) hpm;obtain⟨o,e4⟩:=aq8 d0 d1 p0 p1 (r:=NN pv) (v:=NN i pv) hr hv;obtain⟨q1,q2,e5⟩:=au0 d0 d1 p0 p1 (a:=NN i) (r:=NN pv) (z:=z) (v:=NN i pv) ha hr hv hz;have l1:=zu m (NN i) d;have l2:(aea m (NN pv) (NN i pv) (p.toNat*d.toNat)).length=m:=by simp[aea]
 have l3:=zu m z p;have c1:m<=capS:=di (by omega)
 have hl:=afu n m NN dd;have ix:ixN n (i:Int)=some i:=by rw[abe (by omega) (by omega),bI]
 have hne':¬(i:Int)=(pv:Int):=by omega
 refine⟨.val (frD (mkRat (NN i pv) d.toNat)),.val (.lst (aea m (NN pv) (NN i pv) (p.toNat*d.toNat))),?_⟩
 clear hz ha hr hv
 generalize frD (mkRat (NN i pv) d.toNat)=fb at *;generalize aea m (NN pv) (NN i pv) (p.toNat*d.toNat)=ls at *;generalize qrw m z p=nz at *;generalize qrw m (NN i) d=ri at *;generalize qrw m (NN pv) p=rp at *;generalize qmt n m NN dd=mm at *;simp[l2__law_solved,hne',e1,e2,e3,e4,l1,l2,l3,c1,e5,hl,ix]
section
variable{qv:LL9}(h:Hs qv)(hop:n8 qv=[]){g:Int}(hg:g < 0)
include h hop hg
theorem a7i{k:Nat}(hk:k < qv.length)(a0 a1 a5 a6 a7 a8 a9 a10:Sl):∃q7 q8 q9 q10,
  vh [a0,a1,.val (.int (qv.length:Int)),.own none (qmt qv.length (qv.length+1) (CS qv.length (aug (dsq qv) qv.length (cg qv g)) k).2 fun _=>(CS qv.length (aug (dsq qv) qv.length (cg qv g)) k).1),.val (.int ((qv.length - 1 - k:Nat):Int)),a5,a6,a7,a8,a9,a10] =
  some (.nx,[a0,a1,.val (.int (qv.length:Int)),.own none (qmt qv.length (qv.length+1) (CS qv.length (aug (dsq qv) qv.length (cg qv g)) (k+1)).2 fun _=>(CS qv.length (aug (dsq qv) qv.length (cg qv g)) (k+1)).1),.val (.int ((qv.length - 1 - k:Nat):Int)),a5,a6,q7,q8,q9,q10]):=by
 have hm:=h.most;generalize hM0:aug (dsq qv) qv.length (cg qv g)=M0;have hM:=agt h hop (cg qv g);have hS:=anr h hg;rw[hM0] at hM hS;obtain⟨b,c,e⟩:=atj h hop hM hS k (by omega)
 obtain⟨p0,p1,p3⟩:=ame h hop hM b (k:=qv.length - 1 - k) (by omega) (by omega)
 have d0:=b.pos;have six:(6:Int) ^ k<=60466176:=by
  have:(6:Int) ^ k<=6 ^ 10:=by
   have:=gQ (show 0 < 6 by decide) (show k<=10 by omega)
   exact_mod_cast this
  have e10:(6:Int) ^ 10=60466176:=by decide
  omega
 have tw:6*12 ^ k<=100000000000000:=by
  have:12 ^ k<=12 ^ 10:=gQ (by decide) (by omega)
  have e10:12 ^ 10=61917364224:=by decide
  omega
 have sm:=fun{i:Nat} (hi:i < qv.length) (hne:i≠qv.length - 1 - k) j=>ahq b.dvd (k:=qv.length - 1 - k) (by omega) hi hne j
 have eC1:(CS qv.length M0 (k+1)).1=(CS qv.length M0 k).2 (qv.length - 1 - k) (qv.length - 1 - k):=rfl;have eC2:(CS qv.length M0 (k+1)).2=stM (CS qv.length M0 k).1 (qv.length - 1 - k) (CS qv.length M0 k).2:=rfl;rw[eC1,eC2];generalize (CS qv.length M0 k).1=d at *;generalize (CS qv.length M0 k).2=N at *;have hpv:qv.length - 1 - k < qv.length:=by omega
 generalize qv.length - 1 - k=pv at *;have ep:stM d pv N pv=N pv:=by funext j;unfold stM;rw[if_pos rfl]
 have bd:∀i < qv.length,∀j < qv.length+1,(N i j).natAbs<=100000000000000:=fun i hi j hj=>cM (e i hi j (by omega)) tw
 have loop:=xg (b:=cj 8) (g:=l2__law_solved) (fun t ρ=>∃o8 o9 o10,ρ=[a0,a1,.val (.int (qv.length:Int)),.own none (qmt qv.length (qv.length+1) (fun i=>if i=pv∨i < t then stM d pv N i else N i) fun i=>if i=pv∨i < t then N pv pv else d),.val (.int (pv:Int)),a5,a6,.val (frD (mkRat (N pv pv) d.toNat)),o8,o9,o10])
  (l:=rangeD 0 qv.length) (ρ:=[a0,a1,.val (.int (qv.length:Int)),.own none ((qmt qv.length (qv.length+1) N fun _=>d).set pv (.lst (qrw (qv.length+1) (N pv) (N pv pv)))),.val (.int (pv:Int)),a5,a6,.val (frD (mkRat (N pv pv) d.toNat)),a8,a9,a10]) 0 ⟨a8,a9,a10,by
   rw[aqh hpv]
   congr 5
   refine ac5 (fun i _ =>?_) fun i _ =>?_
   ·by_cases q:i=pv
    ·rw[if_pos q,if_pos (.inl q),q,ep]
    ·rw[if_neg q,if_neg (by omega)]
   ·by_cases q:i=pv
    ·rw[if_pos q,if_pos (.inl q)]
    ·rw[if_neg q,if_neg (by omega)]⟩ ?_
 ·obtain⟨ρ',el,o8,o9,o10,rfl⟩:=loop;have rl:(rangeD 0 qv.length).length=qv.length:=by simp[rangeD]
  rw[rl,bU] at el;have ef:(qmt qv.length (qv.length+1) (fun i=>if i=pv∨i < qv.length then stM d pv N i else N i) fun i=>if i=pv∨i < qv.length then N pv pv else d)=qmt qv.length (qv.length+1) (stM d pv N) fun _=>N pv pv:=ac5 (fun i hi=>if_pos (.inr hi)) fun i hi=>if_pos (.inr hi)
  rw[ef] at el;have e1:=aqi (m:=qv.length+1) (N:=N) (d:=fun _=>d) hpv
  have e2:=amc (r:=N pv) (d:=d) (show pv < qv.length+1 by omega)
  obtain⟨o,e3⟩:=auo d0 (by omega) p0 (by omega) (m:=qv.length+1) (r:=N pv) (bd pv hpv)
  have l1:=zu (qv.length+1) (N pv) (N pv pv);have hl:=afu qv.length (qv.length+1) N (fun _=>d)
  have ix:ixN qv.length (pv:Int)=some pv:=by rw[abe (by omega) (by omega),bI]
  have hb:qv.length < 4611686018427387904:=by omega
  have c1:qv.length+1<=capS:=di (by omega)
  refine⟨.val (frD (mkRat (N pv pv) d.toNat)),o8,o9,o10,?_⟩
  clear sm bd e p3 b hM hS
  generalize frD (mkRat (N pv pv) d.toNat)=fp at *;generalize qmt qv.length (qv.length+1) (stM d pv N) (fun _=>N pv pv)=m2 at *
  generalize qrw (qv.length+1) (N pv) (N pv pv)=r2 at *;generalize qrw (qv.length+1) (N pv) d=r1 at *;generalize qmt qv.length (qv.length+1) N (fun _=>d)=m1 at *
  simp[vh,e1,e2,e3,l1,c1,hl,ix,hb,el]
 ·rintro i w ρ hd ⟨o8,o9,o10,rfl⟩
  rw[bU];have hi:i < qv.length:=by
   have:=(aK.mp hd).1
   simpa[rangeD] using this
  have ez:w=.int (i:Int):=by
   unfold rangeD at hd;rw[aO,aY hi] at hd;have:=(bD hd).symm
   simpa using this
  subst ez
  by_cases hip:i=pv
  ·refine⟨_,[a0,a1,.val (.int (qv.length:Int)),.own none (qmt qv.length (qv.length+1) (fun j=>if j=pv∨j < i+1 then stM d pv N j else N j) fun j=>if j=pv∨j < i+1 then N pv pv else d),.val (.int (pv:Int)),a5,a6,.val (frD (mkRat (N pv pv) d.toNat)),.val (.int (i:Int)),o9,o10],rfl,.inl ?_,_,_,_,rfl⟩
   have ef:(qmt qv.length (qv.length+1) (fun j=>if j=pv∨j < i then stM d pv N j else N j) fun j=>if j=pv∨j < i then N pv pv else d)=qmt qv.length (qv.length+1) (fun j=>if j=pv∨j < i+1 then stM d pv N j else N j) fun j=>if j=pv∨j < i+1 then N pv pv else d:=by
    refine ac5 (fun j _ =>?_) fun j _ =>?_
    ·by_cases q:j=pv∨j < i
     ·rw[if_pos q,if_pos (by omega)]
     ·rw[if_neg q,if_neg (by omega)]
    ·by_cases q:j=pv∨j < i
     ·rw[if_pos q,if_pos (by omega)]
     ·rw[if_neg q,if_neg (by omega)]
   show l2__law_solved [a0,a1,.val (.int (qv.length:Int)),.own none (qmt qv.length (qv.length+1) (fun j=>if j=pv∨j < i then stM d pv N j else N j) fun j=>if j=pv∨j < i then N pv pv else d),.val (.int (pv:Int)),a5,a6,.val (frD (mkRat (N pv pv) d.toNat)),.val (.int (i:Int)),o9,o10]=_
   rw[ef];generalize (qmt qv.length (qv.length+1) (fun j=>if j=pv∨j < i+1 then stM d pv N j else N j) fun j=>if j=pv∨j < i+1 then N pv pv else d)=mm
   subst hip;simp[l2__law_solved]
  ·have ni:¬(i=pv∨i < i):=by omega
   have pi:pv=pv∨pv < i:=.inl rfl;obtain⟨q9,q10,el⟩:=a7k (n:=qv.length) (m:=qv.length+1) (NN:=fun j=>if j=pv∨j < i then stM d pv N j else N j) (dd:=fun j=>if j=pv∨j < i then N pv pv else d) (i:=i) (pv:=pv) (d:=d) (p:=N pv pv) (z:=stM d pv N i) d0 (by omega) p0 (by omega) (by omega) hi hpv (by omega) hip (if_neg ni) (if_pos pi)
    (fun j hj=>by rw[if_neg ni];exact bd i hi j hj) (fun j hj=>by rw[if_pos pi,ep];exact bd pv hpv j hj) (by rw[if_neg ni];have:=p3 i hi;omega) (fun j hj=>by rw[if_neg ni,if_pos pi,ep];exact sm hi hip j)
    a0 a1 (.val (.int (qv.length:Int))) a5 a6 (.val (frD (mkRat (N pv pv) d.toNat))) o9 o10
   rw[aqh hi] at el;have ef:(qmt qv.length (qv.length+1) (fun j=>if j=i then stM d pv N i else if j=pv∨j < i then stM d pv N j else N j) fun j=>if j=i then N pv pv else if j=pv∨j < i then N pv pv else d)=qmt qv.length (qv.length+1) (fun j=>if j=pv∨j < i+1 then stM d pv N j else N j) fun j=>if j=pv∨j < i+1 then N pv pv else d:=by
    refine ac5 (fun j _ =>?_) fun j _ =>?_
    ·by_cases q:j=i
     ·rw[if_pos q,if_pos (by omega),q]
     ·rw[if_neg q]
      by_cases q2:j=pv∨j < i
      ·rw[if_pos q2,if_pos (by omega)]
      ·rw[if_neg q2,if_neg (by omega)]
    ·by_cases q:j=i
     ·rw[if_pos q,if_pos (by omega)]
     ·rw[if_neg q]
      by_cases q2:j=pv∨j < i
      ·rw[if_pos q2,if_pos (by omega)]
      ·rw[if_neg q2,if_neg (by omega)]
   rw[ef] at el;exact⟨_,_,rfl,.inl el,_,_,_,rfl⟩
end
section
variable{qv:LL9}(h:Hs qv)(hop:n8 qv=[]){g:Int}(hg:g < 0)
include h hop hg
theorem azm{i:Nat}(hi:i < qv.length):mkRat ((CS qv.length (aug (dsq qv) qv.length (cg qv g)) qv.length).2 i qv.length) (CS qv.length (aug (dsq qv) qv.length (cg qv g)) qv.length).1.toNat=part qv g i:=by
 obtain⟨b0,b1,b2⟩:=agr h hop (g:=g);have hM:=agt h hop (cg qv g);obtain⟨b,_,_⟩:=atj h hop hM (anr h hg) qv.length (aN _);have ok:=ahj h hop hM (fun j hj=>⟨by omega,hj⟩) b
 have tk:=apv h hop (cg qv g);have d0:=b.pos;have ea:∀i,aug (dsq qv) qv.length (cg qv g) i qv.length=cg qv g i:=fun i=>by unfold aug;rw[if_neg (by omega)]
 clear b
 generalize (CS qv.length (aug (dsq qv) qv.length (cg qv g)) qv.length).1=d at *;generalize (CS qv.length (aug (dsq qv) qv.length (cg qv g)) qv.length).2=N at *;have z:=ave h hop (y:=fun j=>botm qv (cg qv g)*N j qv.length+(-d)*tops qv (cg qv g) j) (fun i hi=>by
  rw[aim,alp,alp,ok i hi,tk i hi,ea i,jC];have:botm qv (cg qv g)*(cg qv g i*d)=d*(cg qv g i*botm qv (cg qv g)):=by ac_rfl
  omega) i hi
 have z:botm qv (cg qv g)*N i qv.length+(-d)*tops qv (cg qv g) i=0:=z;unfold part;rw[gG (by omega) (by omega),b2,show((d.toNat:Nat):Int)=d by omega,dC (N i qv.length),dC (tops qv (cg qv g) i)]
 rw[jC] at z;omega
theorem aq9:∃o,compD (cj 0) (ret true) z7 (qmt qv.length (qv.length+1) (CS qv.length (aug (dsq qv) qv.length (cg qv g)) qv.length).2 fun _=>(CS qv.length (aug (dsq qv) qv.length (cg qv g)) qv.length).1) [] [.emp,.val (.int (qv.length:Int))]=some (.ok (v4 qv g),[o,.val (.int (qv.length:Int))]):=by
 have cp:=fun i (hi:i < qv.length)=>azm h hop hg hi
 generalize (CS qv.length (aug (dsq qv) qv.length (cg qv g)) qv.length).1=d at *;generalize (CS qv.length (aug (dsq qv) qv.length (cg qv g)) qv.length).2=N at *;refine⟨yp .emp (qmt qv.length (qv.length+1) N fun _=>d),?_⟩
 rw[mz (f:=fun x=>match x with | .lst l=>(atI l (qv.length:Int)).getD x | x=>x)]
 rotate_left
 ·intro x hx;unfold qmt at hx;obtain⟨i,hi,rfl⟩:=cR.mp hx;have e:=amc (r:=N i) (d:=d) (show qv.length < qv.length+1 by omega)
  dsimp only;rw[e];generalize frD (mkRat (N i qv.length) d.toNat)=ff at *;generalize qrw (qv.length+1) (N i) d=rr at *;simp[z7,e]
 ·congr 3
  rw[bM];unfold qmt v4;rw[fD];apply fP;intro i hi;have hi:=gP.mp hi;show(atI (qrw (qv.length+1) (N i) d) (qv.length:Int)).getD _=_;rw[amc (by omega),qN,cp i hi]
theorem aia:ug [.val (hD qv),.val (.int g)]=some (.ok (.v (.tup (v4 qv g))),[.val (hD qv),.val (.int g)]):=by
 have hm:=h.most;have hl:=aar qv;have loop1:=xg (b:=bTup 2 (jm (cj 4) (jm (cj 5) bNil))) (g:=l1__law_solved) (fun i ρ=>∃o4 o5 o6,ρ=[.val (hD qv),.val (.int g),.val (.int (qv.length:Int)),.own none (qmt i (qv.length+1) (aug (dsq qv) qv.length (cg qv g)) fun _=>1),o4,o5,o6,.emp,.emp,.emp,.emp])
  (l:=agh (hDs qv)) (ρ:=[.val (hD qv),.val (.int g),.val (.int (qv.length:Int)),.own none [],.emp,.emp,.emp,.emp,.emp,.emp,.emp]) 0 ⟨.emp,.emp,.emp,rfl⟩ (by
   rintro i z ρ hd ⟨o4,o5,o6,rfl⟩
   rw[bU];obtain⟨d0,g1,rfl⟩:=adq hd;have hi:i < qv.length:=by
    have:=(aK.mp g1).1;rwa[aar] at this
   have ed:d0=.tup ((dr qv (i:Int)).map D.int):=by
    unfold hDs at g1;rw[aO,aG hi] at g1;unfold dr;rw[bI,cT,aG hi];exact(bD g1).symm
   subst ed;obtain⟨q6,e⟩:=au6 h (g:=g) hi o6 .emp .emp .emp .emp;exact⟨_,_,rfl,.inl e,_,_,_,rfl⟩)
 obtain⟨_,k1,o4,o5,o6,rfl⟩:=loop1;rw[abl,hl,bU] at k1;have loop2:=xg (b:=cj 4) (g:=vh) (fun k ρ=>∃o4 o7 o8 o9 o10,ρ=[.val (hD qv),.val (.int g),.val (.int (qv.length:Int)),.own none (qmt qv.length (qv.length+1) (CS qv.length (aug (dsq qv) qv.length (cg qv g)) k).2 fun _=>(CS qv.length (aug (dsq qv) qv.length (cg qv g)) k).1),o4,o5,o6,o7,o8,o9,o10])
  (l:=(aj0 ((qv.length:Int) - 1) qv.length).map D.int) (ρ:=[.val (hD qv),.val (.int g),.val (.int (qv.length:Int)),.own none (qmt qv.length (qv.length+1) (aug (dsq qv) qv.length (cg qv g)) fun _=>1),o4,o5,o6,.emp,.emp,.emp,.emp]) 0 ⟨o4,.emp,.emp,.emp,.emp,rfl⟩ (by
   rintro k z ρ hd ⟨o4,o7,o8,o9,o10,rfl⟩
   rw[bU];have hk:k < qv.length:=by
    have:=(aK.mp hd).1;rwa[aU,abm] at this
   have ez:z=.int ((qv.length - 1 - k:Nat):Int):=by
    unfold aj0 at hd;rw[fD,aO,aY hk] at hd;have hd:some (D.int ((qv.length:Int) - 1 - (k:Int)))=some z:=hd;rw[show((qv.length:Int) - 1 - (k:Int))=((qv.length - 1 - k:Nat):Int) by omega] at hd
    exact(bD hd).symm
   subst ez;obtain⟨q7,q8,q9,q10,e⟩:=a7i h hop hg hk (.val (hD qv)) (.val (.int g)) o5 o6 o7 o8 o9 o10;exact⟨_,_,rfl,.inl e,_,_,_,_,_,rfl⟩)
 obtain⟨_,k2,p4,p7,p8,p9,p10,rfl⟩:=loop2;rw[aU,abm,bU] at k2;obtain⟨o,k3⟩:=aq9 h hop hg;have c2:(v4 qv g).length<=capS:=by rw[vz];exact di (by omega)
 have b1:((qv.length:Int) - 1).natAbs < 1000000000:=by omega
 generalize v4 qv g=pl at *;generalize (qmt qv.length (qv.length+1) (CS qv.length (aug (dsq qv) qv.length (cg qv g)) qv.length).2 fun _=>(CS qv.length (aug (dsq qv) qv.length (cg qv g)) qv.length).1)=m3 at *
 generalize (qmt qv.length (qv.length+1) (aug (dsq qv) qv.length (cg qv g)) fun _=>1)=m2 at *
 simp only[hD] at *;simp[ug,adn,hl,k1,b1,k2,k3,c2]
end
theorem at0(x:D)(l:List D):atI (x::l) 0=some x:=by simp[atI,ixN]
theorem ajn(i:Int):qi [.val (.exn "NotOpen" [("room", i)])]=some (.ok (.v (.str "open")),[.val (.exn "NotOpen" [("room", i)])]):=by kernel_rfl
theorem aq1:("NotOpen" : Str)∈NS:=dO.mp (by decide +kernel)
theorem a3c:gEq false (.str "open") (.str "open")=some (.v (.bl true)):=by kernel_rfl
theorem a2u(neg:Bool){s:Str}(hs:PyData.strOk s=true)(hq:eqD (.str s) (.str s)=true)(x y:Int):gEq neg (.tup [.str s,.int x]) (.tup [.str s,.int y])=some (.v (.bl (if neg then !decide (x=y) else decide (x=y)))):=by
 have h1:∀x:Int,okD 30 (.tup [.str s,.int x])=true:=fun x=>by
  show([D.str s,D.int x].all (okD 29))=true;simp only[lA,tO,pQ];rw[show okD 29 (.str s)=true from hs]
  rfl
 have h3:eqD (.tup [.str s,.int x]) (.tup [.str s,.int y])=decide (x=y):=by
  show pI (aa5 [D.str s,D.int x]) (aa5 [D.str s,D.int y])=_;rw[agf];show(eqD (.str s) (.str s)&&(eqD (.int x) (.int y)&&true))=_;rw[hq,aik,pQ,pP]
 simp only[gEq,h1,h3];simp
theorem azj(neg:Bool)(x y:Int):gEq neg (.tup [.str "open", .int x]) (.tup [.str "open", .int y])=some (.v (.bl (if neg then !decide (x=y) else decide (x=y)))):=a2u neg (by kernel_rfl) (by kernel_rfl) x y
section
variable{qv:LL9}(h:Hs qv)
include h
theorem amk{i:Int}{r:List Int}(ht:n8 qv=i::r):gk [.val (hD qv)]=some (.exc ⟨"NotOpen", [("room", i)]⟩,[.val (hD qv)]):=by
 have q:=apt h;rw[ht,aV] at q;have e3:gEq true (.tup (D.int i::r.map D.int)) (.tup [])=some (.v (.bl true)):=am2 true (i::r) [];have a0:atI (D.int i::r.map D.int) 0=some (.int i):=at0 _ _;generalize hD qv=hh at *;generalize r.map D.int=rr at *;simp[gk,u5,acx,dM,q,e3,a0]
theorem aoz(hop:n8 qv=[]):gk [.val (hD qv)]=some (.ok (.v .non),[.val (hD qv)]):=by
 have q:=apt h;rw[hop] at q;have e3:gEq true (.tup []) (.tup [])=some (.v (.bl false)):=am2 true [] [];simp[gk,u5,q,e3]
end
structure Wk (n:Nat) (ws:List Int):Prop where
 len:ws.length=n
 ok:∀w∈ws,0<=w/\w<=100
noncomputable def tupB(a b:Int):D->Bool
 | .tup l=>decide (a<=(l.length:Int))&&decide ((l.length:Int)<=b)
 | _=>false
theorem adl(d:D)(a b:Int):lq [.val d,.val (.int a),.val (.int b)]=some (.ok (.v (.bl (tupB a b d))),[.val d,.val (.int a),.val (.int b)]):=by
 cases d <;> simp[lq,aah,isTy,tupB]
noncomputable def wkB(n:Nat):D->Bool
 | .tup l=>decide (l.length=n)&&l.all (rn 0 100)
 | _=>false
theorem aaq{qv:LL9}(h:Hs qv)(d:D):qg [.val (hD qv),.val d,.val (.int 100)]=some (.ok (.v (.bl (wkB qv.length d))),[.val (hD qv),.val d,.val (.int 100)]):=by
 have e1:=adl d (qv.length:Int) (qv.length:Int);have hl3:=aar qv;have hm:=h.most;have no:tupB (qv.length:Int) (qv.length:Int) d=false->wkB qv.length d=false->qg [.val (hD qv),.val d,.val (.int 100)]=some (.ok (.v (.bl (wkB qv.length d))),[.val (hD qv),.val d,.val (.int 100)]):=fun q1 q2=>by
  rw[q1] at e1;rw[q2];simp only[hD] at *;simp[qg,abh,hl3,e1]
 cases d with
 | tup l =>
  by_cases hl:l.length=qv.length
  ·have e2:compD (cj 0) (ret true) aav l [] [.emp,.val (.int 100)]=some (.ok (l.map fun d=>.bl (rn 0 100 d)),yp .emp l::[.val (.int 100)]):=by
    rw[mz (f:=fun d=>.bl (rn 0 100 d))]
    ·simp
    ·intro d _;simp[aav]
   have e3:w6 (l.map fun d=>D.bl (rn 0 100 d))=some (l.map (rn 0 100)):=by
    have:=aek (l.map (rn 0 100));rwa[fD] at this
   have ha:wkB qv.length (.tup l)=(l.map (rn 0 100)).all id:=by
    rw[List.all_map];simp only[wkB,hl,decide_true,pP];rfl
   have q1:tupB (qv.length:Int) (qv.length:Int) (.tup l)=true:=by simp[tupB,hl]
   rw[q1] at e1;rw[ha];have hc2:(l.map fun d=>D.bl (rn 0 100 d)).length<=capS:=by rw[aU];exact di (by omega)
   generalize (l.map fun d=>D.bl (rn 0 100 d))=BB at *
   generalize l.map (rn 0 100)=bs at *;simp only[hD] at *;simp[qg,abh,hl3,e1,e2,e3,hc2]
  ·refine no ?_ ?_
   ·show(decide ((qv.length:Int)<=(l.length:Int))&&decide ((l.length:Int)<=(qv.length:Int)))=false;rw[tV,decide_eq_false_iff_not,decide_eq_false_iff_not];omega
   ·show(decide (l.length=qv.length)&&_)=false;rw[decide_eq_false hl];rfl
 | _=>exact no rfl rfl
theorem aip{n:Nat}{l:List D}(hl:l.length≠n):wkB n (.tup l)=false:=by
 show(decide (l.length=n)&&_)=false;rw[decide_eq_false hl];rfl
theorem ahl{n:Nat}{l:List D}{d:D}(hm:d∈l)(hd:rn 0 100 d=false):wkB n (.tup l)=false:=by
 show(decide (l.length=n)&&l.all (rn 0 100))=false;rw[tV]
 right
 rw[List.all_eq_false];exact⟨d,hm,by rw[hd];exact bZ⟩
theorem awb{n:Nat}{ws:List Int}(hw:Wk n ws):wkB n (.tup (ws.map D.int))=true:=by
 show(decide ((ws.map D.int).length=n)&&(ws.map D.int).all (rn 0 100))=true;rw[aU,decide_eq_true hw.len,pP,dX];intro d hd;obtain⟨w,hwm,rfl⟩:=cR.mp hd;have:=hw.ok w hwm;show(decide (0<=w)&&decide (w<=100))=true;rw[aZ,decide_eq_true_eq,decide_eq_true_eq];exact this
theorem al2(n:Nat):Wk n (aM n 0):=⟨List.length_replicate,fun w hw=>by have:=(List.mem_replicate.mp hw).2;omega⟩
theorem am3(neg:Bool)(a b:List Int):gEq neg (.lst (a.map D.int)) (.lst (b.map D.int))=some (.v (.bl (if neg then !decide (a=b) else decide (a=b)))):=by
 have h1:okD 30 (.lst (a.map D.int))=true:=ab4 29 a;have h2:okD 30 (.lst (b.map D.int))=true:=ab4 29 b;have h3:eqD (.lst (a.map D.int)) (.lst (b.map D.int))=decide (a=b):=by
  rw[<-aij];exact agf _ _
 simp only[gEq,h1,h2,h3];rfl
theorem aq5{s m:Int}{b:Nat}(hb:0 < b):mkRat ((mkRat s b).num*m) (mkRat s b).den=mkRat (s*m) b:=by
 have e:=mU (mkRat s b);have d:=(mkRat s b).den_nz;rw[gG d (by omega)] at e
 rw[gG d (by omega),vA,e,vA]
section
variable{b:Nat}(hb:0 < b)(hB:b<=60466176)
include hb hB
theorem ajl{t m:Int}(ht:t.natAbs<=100000000)(hm:m.natAbs<=1000):t8 [.val (frD (mkRat t b)),.val (.int m)]=some (.ok (.v (frD (mkRat (t*m) b))),[.val (frD (mkRat t b)),.val (.int m)]):=by
 have n1:=adf (s:=t) hb;have d1:=ae5 (s:=t) hb;have z1:=(mkRat t b).den_nz;have m1:((mkRat t b).num*m).natAbs<=100000000*1000:=by rw[cQ];exact cA (by omega) (by omega)
 have e:=amn (t:=(mkRat t b).num*m) (b:=(mkRat t b).den) (by omega) (by omega) (fB (show _ < 10000000000000000000000000 by omega) anj)
 rw[aq5 hb] at e;have f1:fMul (mkRat t b).num m=some ((mkRat t b).num*m):=by unfold fMul;rw[if_pos (.inl (by omega))]
 clear n1 d1 z1 m1
 generalize frD (mkRat (t*m) b)=R at *;unfold frD;generalize (mkRat t b).num=n1' at *;generalize (((mkRat t b).den:Nat):Int)=d1' at *;have a0:atI [D.int n1',D.int d1'] 0=some (.int n1'):=rfl;have a1:atI [D.int n1',D.int d1'] 1=some (.int d1'):=rfl;simp[t8,aez,a0,a1,f1,e]
omit hb hB in
theorem anz{m a1 a2:Int}{R:D}(f1:fMul m a1=some (m*a1))(e:qm [.val (.int (m*a1)),.val (.int a2)]=some (.ok (.v R),[.val (.int (m*a1)),.val (.int a2)])):acs [.val (.int m),.val (.tup [.int a1,.int a2])]=some (.ok (.v R),[.val (.int m),.val (.tup [.int a1,.int a2])]):=by
 have i0:atI [D.int a1,D.int a2] 0=some (.int a1):=rfl;have i1:atI [D.int a1,D.int a2] 1=some (.int a2):=rfl;simp[acs,arq,i0,i1,f1,e]
theorem atv{t m:Int}(ht:t.natAbs<=100000000)(hm:m.natAbs<=1000):acs [.val (.int m),.val (frD (mkRat t b))]=some (.ok (.v (frD (mkRat (t*m) b))),[.val (.int m),.val (frD (mkRat t b))]):=by
 have n1:=adf (s:=t) hb;have d1:=ae5 (s:=t) hb;have z1:=(mkRat t b).den_nz;have m1:((mkRat t b).num*m).natAbs<=100000000*1000:=by rw[cQ];exact cA (by omega) (by omega)
 have e:=acr (t:=(mkRat t b).num*m) (b:=(mkRat t b).den) (by omega) (by omega) (fB (show _ < 10000000000000000000000000 by omega) anj)
 rw[aq5 hb,dC] at e;exact anz (by unfold fMul;rw[if_pos (.inl (by omega))]) e
end
theorem awa{a1 a2 a3 a4:Int}{R:D}(f1:fMul a1 a4=some (a1*a4))(f2:fMul a3 a2=some (a3*a2))(f3:fMul a2 a4=some (a2*a4))(e:qm [.val (.int (a1*a4+a3*a2)),.val (.int (a2*a4))]=some (.ok (.v R),[.val (.int (a1*a4+a3*a2)),.val (.int (a2*a4))])):aee [.val (.tup [.int a1,.int a2]),.val (.tup [.int a3,.int a4])]=some (.ok (.v R),[.val (.tup [.int a1,.int a2]),.val (.tup [.int a3,.int a4])]):=by
 have i0:atI [D.int a1,D.int a2] 0=some (.int a1):=rfl;have i1:atI [D.int a1,D.int a2] 1=some (.int a2):=rfl;have i2:atI [D.int a3,D.int a4] 0=some (.int a3):=rfl;have i3:atI [D.int a3,D.int a4] 1=some (.int a4):=rfl;simp[aee,ars,i0,i1,i2,i3,f1,f2,f3,e]
theorem big3{n:Nat}(h:n<=100000000000000000000000000000000000000000000000000000000000000000000000000):n < 2 ^ 500:=pJ h (fB (by decide +kernel) big2)
theorem av9{q r:Rat}(hq:Sm q)(hr:Sm r):aee [.val (frD q),.val (frD r)]=some (.ok (.v (frD (q+r))),[.val (frD q),.val (frD r)]):=by
 obtain⟨q1,q2⟩:=hq;obtain⟨r1,r2⟩:=hr;have z1:=q.den_nz;have z2:=r.den_nz;have hdp:0 < q.den*r.den:=nR (by omega) (by omega)
 have hdd:q.den*r.den<=100000000000000000*100000000000000000:=cA q2 r2;have m1:(q.num*(r.den:Int)).natAbs<=10000000000000000000000000000000000000000*100000000000000000:=by rw[cQ,eF];exact cA q1 r2
 have m2:(r.num*(q.den:Int)).natAbs<=10000000000000000000000000000000000000000*100000000000000000:=by rw[cQ,eF];exact cA r1 q2
 have e:=acr (t:=q.num*(r.den:Int)+r.num*(q.den:Int)) hdp (by omega) (big3 (by omega))
 rw[al0,dR] at e;have f1:fMul q.num (r.den:Int)=some (q.num*(r.den:Int)):=by unfold fMul;rw[if_pos (.inr (by omega))]
 have f2:fMul r.num (q.den:Int)=some (r.num*(q.den:Int)):=by unfold fMul;rw[if_pos (.inr (by omega))]
 have f3:fMul (q.den:Int) (r.den:Int)=some ((q.den:Int)*(r.den:Int)):=by unfold fMul;rw[if_pos (.inl (by omega))]
 exact awa f1 f2 f3 e
theorem atq(x:Int):agb [.val (.int x)]=some (.ok (.v (.tup [.int x,.int 1])),[.val (.int x)]):=by simp[agb,arp]
section
variable{b:Nat}(hb:0 < b)(hB:b<=60466176)
include hb hB
theorem anq(a:Sl):∀(xs:List Int) (s:Int) (o:Sl),s.natAbs+xs.length*10000000000000<=10000000000000000->(∀x∈xs,x.natAbs<=10000000000000)->∃o',forD (cj 2) adi (xs.map fun x=>frD (mkRat x b)) [a,.val (frD (mkRat s b)),o]=some (.nx,[a,.val (frD (mkRat (s+xs.sum) b)),o'])
 | [],s,o,_,_=>⟨o,by simp[forD]⟩
 | x::xs,s,o,hs,hx=>by
  have h1:=hx x (bB ..);rw[cC] at hs;have e1:=av9 (q:=mkRat s b) (r:=mkRat x b) (.mk' hb (by omega) (by omega)) (.mk' hb (by omega) (by omega))
  rw[awk hb] at e1;obtain⟨o',e2⟩:=anq a xs (s+x) (.val (frD (mkRat x b))) (by omega) fun y hy=>hx y (aX _ hy)
  refine⟨o',?_⟩;rw[dG,<-yE,aV,v6];generalize frD (mkRat (s+x) b)=f3 at *;generalize frD (mkRat s b)=f2 at *;generalize frD (mkRat x b)=fx at *;generalize (xs.map fun x=>frD (mkRat x b))=fl at *
  have e3:adi [a,.val f2,.val fx]=some (.nx,[a,.val f3,.val fx]):=by simp[adi,e1]
  simp[e3,e2]
theorem ap1(xs:List Int)(hl:xs.length<=100)(hx:∀x∈xs,x.natAbs<=10000000000000):ado [.val (.lst (xs.map fun x=>frD (mkRat x b)))]=some (.ok (.v (frD (mkRat xs.sum b))),[.val (.lst (xs.map fun x=>frD (mkRat x b)))]):=by
 obtain⟨o',e⟩:=anq hb hB (.val (.lst (xs.map fun x=>frD (mkRat x b)))) xs 0 .emp (by omega) hx
 have z:frD (mkRat 0 b)=.tup [.int 0,.int 1]:=by rw[xP];rfl
 rw[oO,z] at e;have w:=atq 0;generalize (xs.map fun x=>frD (mkRat x b))=fl at *
 generalize frD (mkRat xs.sum b)=R at *;simp[ado,amy,w,e]
end
def shL(qv:LL9)(g:Int)(ws:List Int)(j:Nat):List Int:=(aJ j).map fun i=>tops qv (cg qv g) i*ws.getD i 0
theorem ama(qv:LL9)(g:Int)(ws:List Int)(j:Nat):shL qv g ws (j+1)=shL qv g ws j++[tops qv (cg qv g) j*ws.getD j 0]:=by unfold shL;rw[gC,cI];rfl
section
variable{qv:LL9}(h:Hs qv)(hop:n8 qv=[]){g:Int}(hg:g < 0){ws:List Int}(hw:Wk qv.length ws)
include h hop hg hw
theorem w_in{i:Nat}(hi:i < qv.length):0<=ws.getD i 0/\ws.getD i 0<=100:=by
 have hl:=hw.len;rw[cT,aG (by omega),qN]
 exact hw.ok _ (fV _)
theorem t_in{i:Nat}(hi:i < qv.length):(tops qv (cg qv g) i).natAbs<=100000000:=by
 have:=apw h hop hg hi;have:=agr h hop (g:=g);omega
theorem axk:∀x∈shL qv g ws qv.length,x.natAbs<=10000000000:=fun x hx=>by
 unfold shL at hx;obtain⟨i,hi,rfl⟩:=cR.mp hx;have hi:=gP.mp hi;have a:=w_in h hop hg hw hi;have b:=t_in h hop hg hw hi;rw[cQ];exact cA b (show _<=100 by omega)
theorem aol:∃o1 o2,compD (bTup 2 (jm (cj 0) (jm (cj 1) bNil))) (ret true) zm (lw (ws.map D.int) (v4 qv g)) [] [.emp,.emp]=some (.ok ((shL qv g ws qv.length).map fun x=>frD (mkRat x (btn qv g))),[o1,o2]):=by
 obtain⟨b0,b1,b2⟩:=agr h hop (g:=g);have hl:=hw.len;have comp:=qy (b:=bTup 2 (jm (cj 0) (jm (cj 1) bNil))) (mc:=ret true) (me:=zm) (fun j ys ρ=>∃o1 o2:Sl,ρ=[o1,o2]/\ys=(shL qv g ws j).map fun x=>frD (mkRat x (btn qv g)))
  (l:=lw (ws.map D.int) (v4 qv g)) (ys:=[]) (ρ:=[.emp,.emp]) 0 ⟨.emp,.emp,rfl,rfl⟩ ?_
 ·obtain⟨ys,ρ',e6,o1,o2,rfl,rfl⟩:=comp;have hzl:(lw (ws.map D.int) (v4 qv g)).length=qv.length:=by unfold lw;rw[cX,vz,aU];omega
  rw[hzl,bU] at e6;exact⟨o1,o2,e6⟩
 ·rintro j z ys ρ hd ⟨o1,o2,rfl,rfl⟩
  have hj:j < qv.length:=by
   rcases iY j qv.length with q | q
   ·exact q
   ·rw[bY (by unfold lw;rw[cX,vz];omega)] at hd
    cases hd
  have ed:z=.tup [.int (ws.getD j 0),frD (part qv g j)]:=by
   unfold lw v4 at hd;rw[gJ,aO,aO,aY hj,aG (by omega)] at hd
   rw[cT,aG (by omega)]
   exact(bD hd).symm
  subst ed;have e:=atv b0 b1 (t:=tops qv (cg qv g) j) (m:=ws.getD j 0) (t_in h hop hg hw hj) (by have:=w_in h hop hg hw hj;omega)
  have e:acs [.val (.int (ws.getD j 0)),.val (frD (part qv g j))]=some (.ok (.v (frD (mkRat (tops qv (cg qv g) j*ws.getD j 0) (btn qv g)))),[.val (.int (ws.getD j 0)),.val (frD (part qv g j))]):=e;refine⟨[.val (.int (ws.getD j 0)),.val (frD (part qv g j))],_,true,by simp,rfl,.inr ⟨rfl,frD (mkRat (tops qv (cg qv g) j*ws.getD j 0) (btn qv g)),[.val (.int (ws.getD j 0)),.val (frD (part qv g j))],?_,_,_,rfl,?_⟩⟩
  ·generalize frD (mkRat (tops qv (cg qv g) j*ws.getD j 0) (btn qv g))=R at *;generalize frD (part qv g j)=f1 at *
   clear hd
   generalize ws.getD j 0=w at *;simp[zm,e]
  ·rw[bU,ama,cI];rfl
theorem avb:∃o1 o2,compD (bTup 2 (jm (cj 0) (jm (cj 1) bNil))) (ret true) xm (lw (v4 qv g) (ws.map D.int)) [] [.emp,.emp]=some (.ok ((shL qv g ws qv.length).map fun x=>frD (mkRat x (btn qv g))),[o1,o2]):=by
 obtain⟨b0,b1,b2⟩:=agr h hop (g:=g);have hl:=hw.len;have comp:=qy (b:=bTup 2 (jm (cj 0) (jm (cj 1) bNil))) (mc:=ret true) (me:=xm) (fun j ys ρ=>∃o1 o2:Sl,ρ=[o1,o2]/\ys=(shL qv g ws j).map fun x=>frD (mkRat x (btn qv g)))
  (l:=lw (v4 qv g) (ws.map D.int)) (ys:=[]) (ρ:=[.emp,.emp]) 0 ⟨.emp,.emp,rfl,rfl⟩ ?_
 ·obtain⟨ys,ρ',e6,o1,o2,rfl,rfl⟩:=comp;have hzl:(lw (v4 qv g) (ws.map D.int)).length=qv.length:=by unfold lw;rw[cX,vz,aU];omega
  rw[hzl,bU] at e6;exact⟨o1,o2,e6⟩
 ·rintro j z ys ρ hd ⟨o1,o2,rfl,rfl⟩
  have hj:j < qv.length:=by
   rcases iY j qv.length with q | q
   ·exact q
   ·rw[bY (by unfold lw;rw[cX,vz];omega)] at hd
    cases hd
  have ed:z=.tup [frD (part qv g j),.int (ws.getD j 0)]:=by
   unfold lw v4 at hd;rw[gJ,aO,aO,aY hj,aG (by omega)] at hd
   rw[cT,aG (by omega)]
   exact(bD hd).symm
  subst ed;have e:=ajl b0 b1 (t:=tops qv (cg qv g) j) (m:=ws.getD j 0) (t_in h hop hg hw hj) (by have:=w_in h hop hg hw hj;omega)
  have e:t8 [.val (frD (part qv g j)),.val (.int (ws.getD j 0))]=some (.ok (.v (frD (mkRat (tops qv (cg qv g) j*ws.getD j 0) (btn qv g)))),[.val (frD (part qv g j)),.val (.int (ws.getD j 0))]):=e;refine⟨[.val (frD (part qv g j)),.val (.int (ws.getD j 0))],_,true,by simp,rfl,.inr ⟨rfl,frD (mkRat (tops qv (cg qv g) j*ws.getD j 0) (btn qv g)),[.val (frD (part qv g j)),.val (.int (ws.getD j 0))],?_,_,_,rfl,?_⟩⟩
  ·generalize frD (mkRat (tops qv (cg qv g) j*ws.getD j 0) (btn qv g))=R at *;generalize frD (part qv g j)=f1 at *
   clear hd
   generalize ws.getD j 0=w at *;simp[xm,e]
  ·rw[bU,ama,cI];rfl
noncomputable def shr(qv:LL9)(g:Int)(ws:List Int):Rat:=mkRat (shL qv g ws qv.length).sum (btn qv g)
omit hop hg in
theorem aq3:dz [.val (hD qv),.val (.tup (ws.map D.int))]=some (.ok (.v .non),[.val (hD qv),.val (.tup (ws.map D.int))]):=by
 have e:=aaq h (.tup (ws.map D.int));rw[awb hw] at e;generalize ws.map D.int=wl at *;generalize hD qv=hh at *;simp[dz,mq,e]
theorem akl:km [.val (hD qv),.val (.int g),.val (.tup (ws.map D.int))]=some (.ok (.v (frD (shr qv g ws))),[.val (hD qv),.val (.int g),.val (.tup (ws.map D.int))]):=by
 obtain⟨b0,b1,b2⟩:=agr h hop (g:=g);have hm:=h.most;have s0:=aq3 h hw;have s1:=aoz h hop;have e1:=aum h hop hg;obtain⟨o1,o2,e2⟩:=aol h hop hg hw;have ll:(shL qv g ws qv.length).length=qv.length:=by simp[shL]
 have e3:=ap1 b0 b1 (shL qv g ws qv.length) (by omega) fun x hx=>by have:=axk h hop hg hw x hx;omega
 have hc:((shL qv g ws qv.length).map fun x=>frD (mkRat x (btn qv g))).length<=capS:=by rw[aU,ll];exact di (by omega)
 have e4:yq [.val (.tup (v4 qv g)),.val (.tup (ws.map D.int))]=some (.ok (.v (frD (shr qv g ws))),[.val (.tup (v4 qv g)),.val (.tup (ws.map D.int))]):=by
  unfold shr;have hz:(ws.map D.int).length<=(v4 qv g).length:=by rw[aU,vz,hw.len];exact aN _
  clear s0 s1 e1
  generalize frD (mkRat (shL qv g ws qv.length).sum (btn qv g))=R at *;generalize ((shL qv g ws qv.length).map fun x=>frD (mkRat x (btn qv g)))=xs at *
  generalize ws.map D.int=wl at *;generalize v4 qv g=pl at *;simp[yq,af8,hz,e2,hc,e3]
 clear e2 e3 hc
 generalize frD (shr qv g ws)=R at *;generalize v4 qv g=pl at *;generalize ws.map D.int=wl at *;generalize hD qv=hh at *;simp[km,aby,s0,s1,e1,e4]
end
theorem ajm:qi [.val (.exn "NoWalkers" [])]=some (.ok (.v (.str "walkers")),[.val (.exn "NoWalkers" [])]):=by kernel_rfl
theorem aor:("NoWalkers" : Str)∈NS:=dO.mp (by decide +kernel)
theorem a76:gEq false (.str "walkers") (.str "open")=some (.v (.bl false)):=by kernel_rfl
theorem a77:gEq true (.str "told") (.str "told")=some (.v (.bl false)):=by kernel_rfl
theorem a3b:gEq true (.tup [.str "walkers", .non]) (.tup [.str "walkers", .non])=some (.v (.bl false)):=by kernel_rfl
theorem a78(i:Int):gEq true (.tup [.str "open", .int i]) (.tup [.str "walkers", .non])=some (.v (.bl true)):=by
 have h1:okD 30 (.tup [.str "open", .int i])=true:=by
  show([D.str "open", D.int i].all (okD 29))=true;simp only[lA,tO,pQ];rw[show okD 29 (.str "open")=true by kernel_rfl]
  rfl
 have h2:okD 30 (.tup [.str "walkers", .non])=true:=by kernel_rfl
 have h3:eqD (.tup [.str "open", .int i]) (.tup [.str "walkers", .non])=false:=by
  show pI (aa5 [D.str "open", D.int i]) (aa5 [D.str "walkers", D.non])=_;rw[agf];show(eqD (.str "open") (.str "walkers")&&(eqD (.int i) .non&&true))=_;rw[show eqD (.str "open") (.str "walkers")=false by kernel_rfl]
  rfl
 simp only[gEq,h1,h2,h3];rfl
theorem auw(q:Rat):okD 30 (.tup [.str "told", frD q])=true:=by
 show([D.str "told", frD q].all (okD 29))=true;simp only[lA,tO,pQ];rw[show okD 29 (.str "told")=true by kernel_rfl,aqz 27 q]
 rfl
section
variable{qv:LL9}(h:Hs qv)
include h
theorem apx{d:D}(hd:wkB qv.length d=false)(g:Int):jj [.val (hD qv),.val (.int g),.val d]=some (.ok (.v (.tup [.str "walkers", .non])),[.val (hD qv),.val (.int g),.val d]):=by
 have e:=aaq h d;rw[hd] at e;have s0:dz [.val (hD qv),.val d]=some (.exc ⟨"NoWalkers", []⟩,[.val (hD qv),.val d]):=by
  generalize hD qv=hh at *;simp[dz,mq,e]
 have e1:km [.val (hD qv),.val (.int g),.val d]=some (.exc ⟨"NoWalkers", []⟩,[.val (hD qv),.val (.int g),.val d]):=by
  generalize hD qv=hh at *;simp[km,aby,s0]
 have k1:=ajm;have n1:=aor;have q:=a76;generalize hD qv=hh at *;simp[jj,aas,abf,dTry,e1,k1,n1,q]
theorem air{i:Int}{r:List Int}(ht:n8 qv=i::r){d:D}(hd:wkB qv.length d=true)(g:Int):jj [.val (hD qv),.val (.int g),.val d]=some (.ok (.v (.tup [.str "open", .int i])),[.val (hD qv),.val (.int g),.val d]):=by
 have e:=aaq h d;rw[hd] at e;have s0:dz [.val (hD qv),.val d]=some (.ok (.v .non),[.val (hD qv),.val d]):=by
  generalize hD qv=hh at *;simp[dz,mq,e]
 have s1:=amk h ht;have e1:km [.val (hD qv),.val (.int g),.val d]=some (.exc ⟨"NotOpen", [("room", i)]⟩,[.val (hD qv),.val (.int g),.val d]):=by
  generalize hD qv=hh at *;simp[km,aby,s0,s1]
 have k1:=ajn i;have n1:=aq1;have q:=a3c;generalize hD qv=hh at *;simp[jj,aas,abf,dTry,e1,k1,n1,q,ael,cO]
theorem aog{i:Int}{r:List Int}(ht:n8 qv=i::r)(g:Int):qw [.val (hD qv),.val (.int g),.val (.int i)]=some (.ok (.v (.bl true)),[.val (hD qv),.val (.int g),.val (.int i)]):=by
 have s1:=amk h ht;have e1:aat [.val (hD qv),.val (.int g)]=some (.exc ⟨"NotOpen", [("room", i)]⟩,[.val (hD qv),.val (.int g)]):=by
  generalize hD qv=hh at *;simp[aat,am0,s1]
 have k1:=ajn i;have n1:=aq1;have q:=a3c;generalize hD qv=hh at *;simp[qw,ab7,abg,dTry,e1,k1,n1,q,ael,cO]
end
section
variable{qv:LL9}(h:Hs qv)(hop:n8 qv=[]){g:Int}(hg:g < 0){ws:List Int}(hw:Wk qv.length ws)
include h hop hg hw
theorem axc:jj [.val (hD qv),.val (.int g),.val (.tup (ws.map D.int))]=some (.ok (.v (.tup [.str "told", frD (shr qv g ws)])),[.val (hD qv),.val (.int g),.val (.tup (ws.map D.int))]):=by
 have e:=akl h hop hg hw;generalize frD (shr qv g ws)=R at *;generalize ws.map D.int=wl at *;generalize hD qv=hh at *;simp[jj,aas,dTry,e]
theorem afa:jx [.val (hD qv),.val (.int g),.val (.tup (ws.map D.int))]=some (.ok (.v (.bl true)),[.val (hD qv),.val (.int g),.val (.tup (ws.map D.int))]):=by
 obtain⟨b0,b1,b2⟩:=agr h hop (g:=g);have hm:=h.most;have e0:=aia h hop hg;obtain⟨o1,o2,e1⟩:=avb h hop hg hw;have ll:(shL qv g ws qv.length).length=qv.length:=by simp[shL]
 have hc:((shL qv g ws qv.length).map fun x=>frD (mkRat x (btn qv g))).length<=capS:=by rw[aU,ll];exact di (by omega)
 have e2:=aoy b0 b1 (shL qv g ws qv.length) (by omega) (axk h hop hg hw)
 have e2:qp [.val (.lst ((shL qv g ws qv.length).map fun x=>frD (mkRat x (btn qv g))))]=some (.ok (.v (frD (shr qv g ws))),[.val (.lst ((shL qv g ws qv.length).map fun x=>frD (mkRat x (btn qv g))))]):=e2
 have hz:(v4 qv g).length<=(ws.map D.int).length:=by rw[aU,vz,hw.len];exact aN _
 have e3:=axc h hop hg hw;have sb:∀xs:List Int,(∀x∈xs,x.natAbs<=10000000000)->xs.sum.natAbs<=xs.length*10000000000:=fun xs=>by
  induction xs with
  | nil=>intro _;simp
  | cons x xs ih =>
   intro hx;have a:=hx x (bB ..);have b:=ih fun y hy=>hx y (aX _ hy)
   rw[dG,cC];omega
 have s1:=sb _ (axk h hop hg hw);rw[ll] at s1;have n1:=adf (s:=(shL qv g ws qv.length).sum) b0;have d1:=ae5 (s:=(shL qv g ws qv.length).sum) b0;have e4:=agx (q:=mkRat (shL qv g ws qv.length).sum (btn qv g)) (fB (show _ < 10000000000000000000000000 by omega) anj) (by omega)
 have e4:jq [.val (frD (shr qv g ws))]=some (.ok (.v (.bl true)),[.val (frD (shr qv g ws))]):=e4;have q1:=aie (aqz 28 (shr qv g ws)) true;have q2:=aie (auw (shr qv g ws)) false;have q3:=a77
 clear n1 d1 s1 sb
 generalize ((shL qv g ws qv.length).map fun x=>frD (mkRat x (btn qv g)))=xs at *
 generalize frD (shr qv g ws)=R at *;generalize v4 qv g=pl at *;generalize ws.map D.int=wl at *;generalize hD qv=hh at *;simp[jx,ae0,e0,hz,e1,hc,e2,e3,e4,q1,q2,q3]
end
theorem awr{r:List Int}(h1:1<=r.length)(h6:r.length<=6)(hr:∀x∈r,-3<=x/\x < 1):Hs [r]:=⟨by simp,by simp,fun r' hr'=>by
 rw[cN] at hr';rw[hr'];exact⟨h1,h6,hr⟩⟩
theorem amh{r:List Int}{d:Int}(hd:d∈r)(h0:d < 0):n8 [r]=[]:=al4 fun a a0 a1=>by
 have:a=0:=by simp at a1;omega
 rw[this];exact⟨d,.step .base (by decide) hd,h0⟩
theorem a3d{qv:LL9}(h:Hs qv):compD (cj 0) as9 asj (rangeD 0 qv.length) [] [.emp,.val (hD qv)]=some (.ok ((n8 qv).map D.int),yp .emp (rangeD 0 qv.length)::[.val (hD qv)]):=by
 rw[acf,v7 (p:=fun d=>match d with | .int k=>caught qv k | _=>false) (f:=id)]
 ·simp only[n8,qZ,nG,List.map_id,bM]
 ·intro d hd;obtain⟨k,hk,rfl⟩:=cR.mp hd;obtain⟨ns,e,hne,hm⟩:=aet h (S:=.val (hD qv)) (.inl rfl) (abu hk);have em:=am1 hne;have:decide (0<=minI ns)=caught qv k:=by
   by_cases z:0<=minI ns
   ·have:caught qv k=true:=(uc qv k).mpr fun x hx=>(afb hne).mp z x ((hm x).mpr hx)
    rw[this];simp[z]
   ·have:caught qv k=false:=wD.mpr fun y=>z ((afb hne).mpr fun x hx=>(uc qv k).mp y x ((hm x).mp hx))
    rw[this];simp[z]
  simp[as9,e,em,this]
 ·intro d hd _;simp[asj]
theorem a1n(P:Int×Int):∃d P',f__law_odd [.own (some 0) (pen P)]=some (.ok (.v d),[.own (some 0) (pen P')])/\∀n:Nat,wkB n d=true->n<=2:=by
 obtain⟨r,P',e,h0,h1⟩:=qx P 16 (by decide) (by decide)
 have big:fPow 10 30=some 1000000000000000000000000000000:=by decide +kernel
 have hT:∃d,atI [.non,.bl true,.bl false,.int (-1),.str "1", .str "", .tup [],.lst [],.tup [.int 0],.lst [.int 0],.dct [(lZ "a", .int 1)],.tup [.int 0,.int 1],.int 1000000000000000000000000000000,.tup [.tup [.int 0]],.str "ab", .tup [.tup [.int (-1)],.tup [.int 0,.int 1]]] r=some d/\∀n:Nat,wkB n d=true->n<=2:=by
  have:r=0∨r=1∨r=2∨r=3∨r=4∨r=5∨r=6∨r=7∨r=8∨r=9∨r=10∨r=11∨r=12∨r=13∨r=14∨r=15:=by omega
  have ht:∀l:List D,l.length<=2->∀n:Nat,wkB n (.tup l)=true->n<=2:=fun l hl n hn=>by
   have:l.length=n:=fU fun z=>by rw[aip z] at hn;cases hn
   omega
  rcases this with rfl | rfl | rfl | rfl | rfl | rfl | rfl | rfl | rfl | rfl | rfl | rfl | rfl | rfl | rfl | rfl
  ·exact⟨_,rfl,nofun⟩
  ·exact⟨_,rfl,nofun⟩
  ·exact⟨_,rfl,nofun⟩
  ·exact⟨_,rfl,nofun⟩
  ·exact⟨_,rfl,nofun⟩
  ·exact⟨_,rfl,nofun⟩
  ·exact⟨_,rfl,ht _ (by decide)⟩
  ·exact⟨_,rfl,nofun⟩
  ·exact⟨_,rfl,ht _ (by decide)⟩
  ·exact⟨_,rfl,nofun⟩
  ·exact⟨_,rfl,nofun⟩
  ·exact⟨_,rfl,ht _ (by decide)⟩
  ·exact⟨_,rfl,nofun⟩
  ·exact⟨_,rfl,ht _ (by decide)⟩
  ·exact⟨_,rfl,nofun⟩
  ·exact⟨_,rfl,ht _ (by decide)⟩
 obtain⟨T,eT,t⟩:=hT;have hc:(16:Nat)<=capS:=by decide
 exact⟨T,P',by simp[f__law_odd,ahe,e,big,eT,hc],t⟩
theorem aoa(P:Int×Int)(qv:LL9):∃(ws:List Int) (P':Int×Int) (o:Sl),compD (cj 0) (ret true) am8 (hDs qv) [] [.emp,.own (some 1) (pen P)]=some (.ok (ws.map D.int),[o,.own (some 1) (pen P')])/\Wk qv.length ws:=by
 have comp:=qy (b:=cj 0) (mc:=ret true) (me:=am8) (fun j ys ρ=>∃ns P o,ρ=[o,.own (some 1) (pen P)]/\ys=ns.map D.int/\Wk j ns)
  (l:=hDs qv) (ys:=[]) (ρ:=[.emp,.own (some 1) (pen P)]) 0 ⟨[],P,.emp,rfl,rfl,rfl,by simp⟩ ?_
 ·obtain⟨ys,ρ',e6,ns,P6,o,rfl,rfl,hn⟩:=comp;rw[aar,bU] at hn;exact⟨ns,P6,o,e6,hn⟩
 ·rintro j d ys ρ hd ⟨ns,P6,o,rfl,rfl,hn⟩
  obtain⟨r1,P7,e7,a0,a1⟩:=qx P6 2 (by decide) (by decide)
  have hm:∃m:Int,atI [D.int 3,D.int 101] r1=some (.int m)/\0 < m/\m<=101:=by
   have:r1=0∨r1=1:=by omega
   rcases this with rfl | rfl
   ·exact⟨3,rfl,by decide,by decide⟩
   ·exact⟨101,rfl,by decide,by decide⟩
  obtain⟨m,em,m0,m1⟩:=hm;obtain⟨r2,P8,e8,c0,c1⟩:=qx P7 m m0 (by omega)
  have c2:2<=capS:=di (by decide)
  refine⟨_,_,true,rfl,rfl,.inr ⟨rfl,.int r2,[.val d,.own (some 1) (pen P8)],by simp[am8,e7,c2,em,e8],ns++[r2],P8,_,rfl,by simp,by simp[hn.len],fun x hx =>?_⟩⟩
  rcases cZ.mp hx with z | z
  ·exact hn.ok x z
  ·rw[cN] at z;omega
theorem apd(qv:LL9):compD (cj 0) (ret true) asl (hDs qv) [] [.emp]=some (.ok ((aM qv.length (0:Int)).map D.int),yp .emp (hDs qv)::[]):=by
 rw[mz (f:=fun _=>.int 0)]
 ·rw[bM,List.map_replicate,List.map_const',aar]
 ·intro d _;simp[asl]
theorem aw4(qv:LL9):compD (cj 0) (ret true) awy (hDs qv) [] [.emp]=some (.ok ((aM qv.length (0:Int)).map D.int),yp .emp (hDs qv)::[]):=apd qv
theorem ayd{qv:LL9}(h:Hs qv){d:D}(hd:wkB qv.length d=false)(g:Int)(a0 a1 a2 a5 a6 a7 a8:Sl):amr [a0,a1,a2,.val (hD qv),.val (.int g),a5,a6,a7,a8,.val d]=some (.nx,[a0,a1,a2,.val (hD qv),.val (.int g),a5,a6,a7,a8,.val d]):=by
 have e:=apx h hd g;have q:=a3b;generalize hD qv=hh at *;simp[amr,e,q]
theorem bads{qv:LL9}(h:Hs qv)(g:Int)(a0 a1 a2 a5 a6 a7 a8:Sl):∀(ds:List D) (o:Sl),(∀d∈ds,wkB qv.length d=false)->∃o',forD (cj 9) amr ds [a0,a1,a2,.val (hD qv),.val (.int g),a5,a6,a7,a8,o]=some (.nx,[a0,a1,a2,.val (hD qv),.val (.int g),a5,a6,a7,a8,o'])
 | [],o,_=>⟨o,rfl⟩
 | d::ds,o,hd=>by
  have e:=ayd h (hd d (bB ..)) g a0 a1 a2 a5 a6 a7 a8;obtain⟨o',e2⟩:=bads h g a0 a1 a2 a5 a6 a7 a8 ds (.val d) fun x hx=>hd x (aX _ hx)
  exact⟨o',by rw[v6];simp[e,e2]⟩
theorem a7j(S:D)(n:Int)(a2 a3 a4 a5 a6 a7 a8 a9:Sl):∃b2 b3 b4 b5 b6 b7 b8 b9,l2_law [.val S,.val (.int n),a2,a3,a4,a5,a6,a7,a8,a9]=some (.nx,[.val S,.val (.int n),b2,b3,b4,b5,b6,b7,b8,b9]):=by
 obtain⟨P,e0⟩:=auh n;obtain⟨qv,P1,e1,h,hop,_,_⟩:=open_spec P 5 4 (by decide) (by decide) (by decide) (by decide)
 have hrm:=h.most;obtain⟨r,P2,e2,r0,r1⟩:=qx P1 3 (by decide) (by decide)
 obtain⟨ws,P3,o,e3,hw⟩:=aoa P2 qv;have e4:=apd qv;have k1:=afa h hop (g := -1 - r) (by omega) hw
 have k2:=afa h hop (g := -1 - r) (by omega) (al2 qv.length)
 generalize hg : -1 - r=g at *;obtain⟨shut,P4,e5,hk⟩:=ag8 P3 4 2 (by decide) (by decide) (by decide) (by decide)
 have hs:Hs shut:=hk.hs (by decide) (by decide)
 have hm:=hs.most;have e6:=a3d hs;have hl:=aar shut;have hb:shut.length < 4611686018427387904:=by omega
 have tl:(n8 shut).length<=shut.length:=by
  have:=jA (caught shut) (upto shut.length);have u:(upto shut.length).length=shut.length:=by simp[upto]
  rw[u] at this;exact this
 have hc:((n8 shut).map D.int).length<=capS:=by rw[aU];exact di (by omega)
 have c1:(ws.map D.int).length+1<=capS:=by rw[aU,hw.len];exact di (by omega)
 have c1':(ws.map D.int).length<=capS:=by omega
 have c2:(cutD (ws.map D.int) (some 1) none).length+1<=capS:=by have:=azl (ws.map D.int) (some 1) none;omega
 have c3:1+(cutD (ws.map D.int) (some 1) none).length<=capS:=by omega
 have c6:6<=capS:=di (by decide)
 have cz:((aM qv.length (0:Int)).map D.int).length<=capS:=by rw[aU,iZ];exact di (by omega)
 have cy:((aM shut.length (0:Int)).map D.int).length<=capS:=by rw[aU,iZ];exact di (by omega)
 have ez:=aw4 shut;have wz:=awb (al2 shut.length);obtain⟨o9,e7⟩:=bads h g (.val S) (.val (.int n)) (.own none (pen P4)) (.val (.tup (ws.map D.int))) (.val (.tup ((aM qv.length (0:Int)).map D.int))) (.val (hD shut)) (.own none ((n8 shut).map D.int)) [.tup (ws.map D.int++[.int 0]),.lst (ws.map D.int),.tup (.int 101::cutD (ws.map D.int) (some 1) none),.tup (.int (-1)::cutD (ws.map D.int) (some 1) none),.tup (.bl true::cutD (ws.map D.int) (some 1) none),.non] a9 (by
  intro d hd;simp only[bF,eV,or_false] at hd;rcases hd with rfl | rfl | rfl | rfl | rfl | rfl
  ·exact aip (by rw[eE,aU,hw.len];simp)
  ·rfl
  ·exact ahl (bB ..) (by rfl)
  ·exact ahl (bB ..) (by rfl)
  ·exact ahl (bB ..) (by rfl)
  ·rfl)
 cases ht:n8 shut with
 | nil =>
  refine⟨.own none (pen P4),.val (hD qv),.val (.int g),.val (.tup (ws.map D.int)),.val (.tup ((aM qv.length (0:Int)).map D.int)),.val (hD shut),.own none ((n8 shut).map D.int),o9,?_⟩;have z:gEq true (.lst []) (.lst [])=some (.v (.bl false)):=am3 true [] [];rw[ht,qG] at e6 e7 ⊢
  clear wz cy ez
  generalize (aM qv.length (0:Int)).map D.int=zz at *;generalize hcc:cutD (ws.map D.int) (some 1) none=cc at *;generalize ws.map D.int=wl at *;simp only[hD] at *;generalize hDs qv=hh at *;generalize hDs shut=ss at *;simp[l2_law,hcc,e0,e1,e2,hg,e3,c1',e4,cz,k1,k2,e5,hl,hb,e6,c1,c2,c3,c6,e7,z]
 | cons i rr =>
  obtain⟨d,P5,eo,hod⟩:=a1n P4;have z:gEq true (.lst (D.int i::rr.map D.int)) (.lst [])=some (.v (.bl true)):=am3 true (i::rr) [];have a0:atI (D.int i::rr.map D.int) 0=some (.int i):=at0 _ _;have t1:=air hs ht wz g;have q1:gEq true (.tup [.str "open", .int i]) (.tup [.str "open", .int i])=some (.v (.bl false)):=by rw[azj];simp
  have t3:=aog hs ht g;refine⟨.own none (pen P5),.val (hD qv),.val (.int g),.val (.tup (ws.map D.int)),.val (.tup ((aM qv.length (0:Int)).map D.int)),.val (hD shut),.own none ((n8 shut).map D.int),o9,?_⟩;rw[ht,aV] at e6 e7 hc ⊢
  generalize D.int i::rr.map D.int=L at *;generalize (aM qv.length (0:Int)).map D.int=zz at *;generalize (aM shut.length (0:Int)).map D.int=zy at *;generalize hcc:cutD (ws.map D.int) (some 1) none=cc at *;generalize ws.map D.int=wl at *;cases hwk:wkB shut.length d with
  | false =>
   have t2:=apx hs hwk g;have q2:=a3b;simp only[hD] at *;generalize hDs qv=hh at *;generalize hDs shut=ss at *;simp[l2_law,hcc,e0,e1,e2,hg,e3,c1',e4,cz,k1,k2,e5,hl,hb,e6,hc,c1,c2,c3,c6,e7,z,ez,cy,t1,a0,q1,eo,t2,q2,t3]
  | true =>
   have t2:=air hs ht hwk g;have q2:=a78 i;have h2:=hod _ hwk;have h2':¬(2:Int) < (shut.length:Int):=by omega
   simp only[hD] at *;generalize hDs qv=hh at *;generalize hDs shut=ss at *;simp[l2_law,hcc,e0,e1,e2,hg,e3,c1',e4,cz,k1,k2,e5,hl,hb,e6,hc,c1,c2,c3,c6,e7,z,ez,cy,t1,a0,q1,eo,t2,q2,h2',t3]
theorem loop1(S:D):∀(ns:List Int) (q a2 a3 a4 a5 a6 a7 a8 a9:Sl),∃ρ,forD (cj 1) l2_law (ns.map D.int) [.val S,q,a2,a3,a4,a5,a6,a7,a8,a9]=some (.nx,.val S::ρ)
 | [],q,a2,a3,a4,a5,a6,a7,a8,a9=>⟨_,rfl⟩
 | n::r,q,a2,a3,a4,a5,a6,a7,a8,a9=>by
  obtain⟨b2,b3,b4,b5,b6,b7,b8,b9,z⟩:=a7j S n a2 a3 a4 a5 a6 a7 a8 a9;obtain⟨ρ,z2⟩:=loop1 S r (.val (.int n)) b2 b3 b4 b5 b6 b7 b8 b9;exact⟨ρ,by rw[aV,v6];simp[z,z2]⟩
theorem ava:al1 asa:=fun ns hn=>by
 obtain⟨n0,e0⟩:=asx ns 0 (by decide)
 obtain⟨ms,em,hm⟩:=asr ns (some 1) (some 3);have hc:1+ms.length<=capS:=di (by omega)
 obtain⟨ρ,q⟩:=loop1 (.kst (ns.map D.int)) (n0::ms) .emp .emp .emp .emp .emp .emp .emp .emp .emp;simp only[aV] at q;have k1:jx [.val (.tup [.tup [.int (-1)]]),.val (.int (-1)),.val (.tup [.int 100])]=some (.ok (.v (.bl true)),[.val (.tup [.tup [.int (-1)]]),.val (.int (-1)),.val (.tup [.int 100])]):=afa (qv:=[[-1]]) (awr (by decide) (by decide) (by decide)) (amh (d := -1) (by decide) (by decide)) (g := -1) (by decide) (ws:=[100]) ⟨rfl,by decide⟩
 have k2:jx [.val (.tup [.tup [.int (-1),.int (-2),.int 0]]),.val (.int (-2)),.val (.tup [.int 1])]=some (.ok (.v (.bl true)),[.val (.tup [.tup [.int (-1),.int (-2),.int 0]]),.val (.int (-2)),.val (.tup [.int 1])]):=afa (qv:=[[-1,-2,0]]) (awr (by decide) (by decide) (by decide)) (amh (d := -1) (by decide) (by decide)) (g := -2) (by decide) (ws:=[1]) ⟨rfl,by decide⟩
 simp[asa,a2p,k1,k2,e0,em,hc,q]
end My
set_option maxHeartbeats 0
namespace My
open PySem L2 Mn Dn
def top(i:Nat):Stmt:=PySem.Challenge.pw_turnarrows_k53_shares_of_walkers.main.body.getD i (.Pass ⟨0,0,0,0⟩)
abbrev yc:Stmt:=top 1
theorem akp:FnScope ["thing"] ["thing"] (aj yc):=mkSc rfl rfl rfl rfl (by decide +kernel)
abbrev jy:Stmt:=top 2
theorem ac2:FnScope ["thing","least","most"] ["thing","least","most"] (aj jy):=mkSc rfl rfl rfl rfl (by decide +kernel)
abbrev jz:Stmt:=top 3
theorem ac3:FnScope ["thing","least","most"] ["thing","least","most"] (aj jz):=mkSc rfl rfl rfl rfl (by decide +kernel)
abbrev xu:Stmt:=top 5
theorem afq:FnScope ["rows","at","number"] ["rows","at"] (aj xu):=mkSc rfl rfl rfl rfl (by decide +kernel)
abbrev aaa:Stmt:=top 6
theorem ag3:FnScope ["rows","one","other","told"] ["rows","one","other"] (aj aaa):=mkSc rfl rfl rfl rfl (by decide +kernel)
abbrev aab:Stmt:=top 7
theorem z9:FnScope ["rows","at","bottom","head","told","number","row"] ["rows","at","bottom"] (aj aab):=mkSc rfl rfl rfl rfl (by decide +kernel)
abbrev abr:Stmt:=top 8
theorem vq:FnScope ["rows","right","work","bottom","at","found"] ["rows","right"] (aj abr):=mkSc rfl rfl rfl rfl (by decide +kernel)
abbrev j6:Stmt:=top 9
theorem jg:FnScope ["numbers","told","number","other","over"] ["numbers"] (aj j6):=mkSc rfl rfl rfl rfl (by decide +kernel)
abbrev m5:Stmt:=top 10
theorem ou:FnScope ["house","rows","room","doors","row"] ["house"] (aj m5):=mkSc rfl rfl rfl rfl (by decide +kernel)
abbrev ye:Stmt:=top 12
theorem acd:FnScope ["top","bottom","divisor"] ["top","bottom"] (aj ye):=mkSc rfl rfl rfl rfl (by decide +kernel)
abbrev ad2:Stmt:=top 13
theorem at6:FnScope ["number"] ["number"] (aj ad2):=mkSc rfl rfl rfl rfl (by decide +kernel)
abbrev ad3:Stmt:=top 14
theorem at7:FnScope ["number","one"] ["number","one"] (aj ad3):=mkSc rfl rfl rfl rfl (by decide +kernel)
abbrev ad4:Stmt:=top 15
theorem at8:FnScope ["one","other"] ["one","other"] (aj ad4):=mkSc rfl rfl rfl rfl (by decide +kernel)
abbrev abq:Stmt:=top 16
theorem ac1:FnScope ["many","told","one"] ["many"] (aj abq):=mkSc rfl rfl rfl rfl (by decide +kernel)
abbrev ag4:Stmt:=top 32
theorem afo:FnScope ["house","staying","many"] ["house"] (aj ag4):=mkSc rfl rfl rfl rfl (by decide +kernel)
abbrev jh:Stmt:=top 33
theorem n6:FnScope ["house","rooms"] ["house"] (aj jh):=mkSc rfl rfl rfl rfl (by decide +kernel)
abbrev sy:Stmt:=top 36
theorem ahs:FnScope ["house","thing","most"] ["house","thing","most"] (aj sy):=mkSc rfl rfl rfl rfl (by decide +kernel)
abbrev ik:Stmt:=top 37
theorem ww:FnScope ["house","thing"] ["house","thing"] (aj ik):=mkSc rfl rfl rfl rfl (by decide +kernel)
abbrev xx:Stmt:=top 39
theorem afr:FnScope ["house","gate","told"] ["house","gate"] (aj xx):=mkSc rfl rfl rfl rfl (by decide +kernel)
abbrev aan:Stmt:=top 40
theorem aiy:FnScope ["house","gate"] ["house","gate"] (aj aan):=mkSc rfl rfl rfl rfl (by decide +kernel)
abbrev ut:Stmt:=top 41
theorem aiz:FnScope ["parts","walkers"] ["parts","walkers"] (aj ut):=mkSc rfl rfl rfl rfl (by decide +kernel)
abbrev ur:Stmt:=top 42
theorem afp:FnScope ["house","gate","walkers"] ["house","gate","walkers"] (aj ur):=mkSc rfl rfl rfl rfl (by decide +kernel)
abbrev uy:Stmt:=top 44
theorem ai0:FnScope ["script","k"] ["script","k"] (aj uy):=mkSc rfl rfl rfl rfl (by decide +kernel)
abbrev yh:Stmt:=top 45
theorem afs:FnScope ["cell","left"] ["cell"] (aj yh):=mkSc rfl rfl rfl rfl (by decide +kernel)
abbrev ux:Stmt:=top 46
theorem vy:FnScope ["pen","many","left","found","stir"] ["pen","many"] (aj ux):=mkSc rfl rfl rfl rfl (by decide +kernel)
abbrev pq:Stmt:=top 47
theorem ac4:FnScope ["thing"] ["thing"] (aj pq):=mkSc rfl rfl rfl rfl (by decide +kernel)
abbrev yj:Stmt:=top 48
theorem aft:FnScope ["pen","some"] ["pen"] (aj yj):=mkSc rfl rfl rfl rfl (by decide +kernel)
abbrev t7:Stmt:=top 49
theorem qj:FnScope ["pen","most","doors","many","gates","house","room","wide"] ["pen","most","doors"] (aj t7):=mkSc rfl rfl rfl rfl (by decide +kernel)
abbrev m8:Stmt:=top 50
theorem ph:FnScope ["house","room","found","at"] ["house","room"] (aj m8):=mkSc rfl rfl rfl rfl (by decide +kernel)
abbrev uw:Stmt:=top 51
theorem zc:FnScope ["pen","most","doors","house","room","at"] ["pen","most","doors"] (aj uw):=mkSc rfl rfl rfl rfl (by decide +kernel)
abbrev rz:Stmt:=top 52
theorem jw:FnScope ["e","marks","words"] ["e"] (aj rz):=mkSc rfl rfl rfl rfl (by decide +kernel)
abbrev yl:Stmt:=top 53
theorem yo:FnScope ["top","bottom","one","other"] ["top","bottom"] (aj yl):=mkSc rfl rfl rfl rfl (by decide +kernel)
abbrev yg:Stmt:=top 54
theorem uq:FnScope ["some","top","bottom","one"] ["some"] (aj yg):=mkSc rfl rfl rfl rfl (by decide +kernel)
abbrev tu:Stmt:=top 55
theorem aht:FnScope ["one","many"] ["one","many"] (aj tu):=mkSc rfl rfl rfl rfl (by decide +kernel)
abbrev ql:Stmt:=top 56
theorem ie:FnScope ["house","gate","many","rows","at","room","row","own","other","by","some_less"] ["house","gate"] (aj ql):=mkSc rfl rfl rfl rfl (by decide +kernel)
abbrev jn:Stmt:=top 57
theorem ace:FnScope ["thing"] ["thing"] (aj jn):=mkSc rfl rfl rfl rfl (by decide +kernel)
abbrev uv:Stmt:=top 58
theorem aeq:FnScope ["house","gate","there","e"] ["house","gate","there"] (aj uv):=mkSc rfl rfl rfl rfl (by decide +kernel)
abbrev t6:Stmt:=top 59
theorem xf:FnScope ["house","gate","there","due","word","found"] ["house","gate","there"] (aj t6):=mkSc rfl rfl rfl rfl (by decide +kernel)
abbrev m7:Stmt:=top 60
theorem aa6:FnScope ["house","gate","room","e"] ["house","gate","room"] (aj m7):=mkSc rfl rfl rfl rfl (by decide +kernel)
abbrev ahu:Stmt:=top 61
theorem ab3:FnScope ["script","cell","pen","house","gate","there","none","shut","closed","bad"] ["script"] (aj ahu):=mkSc rfl rfl rfl rfl (by decide +kernel)
theorem lnS{k:Nat}{us:List Value}(h:us.length=k+1):∃a r,us=a::r/\r.length=k:=by
 cases us with
 | nil=>cases h
 | cons a r=>exact⟨a,r,rfl,Nat.succ.inj h⟩
theorem ln1{us:List Value}(h:us.length=1):∃a0,us=[a0]:=by
 obtain⟨a,r,rfl,h'⟩:=lnS h;cases List.eq_nil_of_length_eq_zero h';exact⟨a,rfl⟩
theorem ln2{us:List Value}(h:us.length=2):∃a0 a1,us=[a0,a1]:=by
 obtain⟨a,r,rfl,h'⟩:=lnS h;obtain⟨_,rfl⟩:=ln1 h';exact⟨_,_,rfl⟩
theorem ln3{us:List Value}(h:us.length=3):∃a0 a1 a2,us=[a0,a1,a2]:=by
 obtain⟨a,r,rfl,h'⟩:=lnS h;obtain⟨_,_,rfl⟩:=ln2 h';exact⟨_,_,_,rfl⟩
abbrev xr:Stmt:=azn (top 27)
theorem ako:FnScope ["self","room"] ["self","room"] (aj xr):=mkSc rfl rfl rfl rfl (by decide +kernel)
structure Txt (K:Fg9) (mg:Str->Option Value):Prop where
 c_MOST_WALKERS:∃t,mg "MOST_WALKERS" = some (.int 100 t)
 z_ValueError:mg "ValueError" = none
 z_abs:mg "abs" = none
 z_all:mg "all" = none
 z_bool:mg "bool" = none
 z_divmod:mg "divmod" = none
 z_enumerate:mg "enumerate" = none
 z_int:mg "int" = none
 z_isinstance:mg "isinstance" = none
 z_len:mg "len" = none
 z_list:mg "list" = none
 z_max:mg "max" = none
 z_min:mg "min" = none
 z_range:mg "range" = none
 z_set:mg "set" = none
 z_sorted:mg "sorted" = none
 z_tuple:mg "tuple" = none
 z_zip:mg "zip" = none
 sub:ahp K NS=true
 cat:CatT K mg
 k_ArrowError:ClsT K mg "ArrowError"
 k_NoArrows:ClsT K mg "NoArrows"
 k_NoRoom:ClsT K mg "NoRoom"
 k_NoWalkers:ClsT K mg "NoWalkers"
 k_NotShut:ClsT K mg "NotShut"
 k_NeverBack:ClsT K mg "NeverBack"
 k_NoTour:ClsT K mg "NoTour"
 k_NoRow:ClsT K mg "NoRow"
 k_NoHouse:ClsT K mg "NoHouse"
 k_NotOpen:ClsT K mg "NotOpen"
 k_Nobody:ClsT K mg "Nobody"
 k_NoText:ClsT K mg "NoText"
 k_TooGreat:ClsT K mg "TooGreat"
 r_ArrowError:RaiT K mg "ArrowError"
 r_NoArrows:RaiT K mg "NoArrows"
 r_NoRoom:RaiT K mg "NoRoom"
 r_NoWalkers:RaiT K mg "NoWalkers"
 r_NotShut:RaiT K mg "NotShut"
 r_NeverBack:RaiT K mg "NeverBack"
 r_NoTour:RaiT K mg "NoTour"
 r_NoRow:RaiT K mg "NoRow"
 i_NotOpen:IniT K mg "NotOpen" "room" "NotOpen.__init__" xr
 n_room:azd K ["NotOpen"] "room" = true
section
variable(P:bJ)(w:World)(K:Fg9)(mg:Str->Option Value)(base:Heap)
abbrev Dd0:Prop:=Dfn P w K mg base "is_whole" ["thing"] 1 (spOf K 1 aaj)
abbrev Dd3:Prop:=Dfn P w K mg base "row_with" ["rows","at"] 1 (spOf K 2 aai)
abbrev Dd4:Prop:=Dfn P w K mg base "swapped" ["rows","one","other"] 1 (spOf K 3 abi)
abbrev Dd5:Prop:=Dfn P w K mg base "cleared" ["rows","at","bottom"] 1 (spOf K 3 abj)
abbrev Dd7:Prop:=Dfn P w K mg base "common_divisor" ["numbers"] 1 (spOf K 1 my)
abbrev Dd9:Prop:=Dfn P w K mg base "fraction" ["top","bottom"] 2 (spOf K 2 qm)
abbrev Dd10:Prop:=Dfn P w K mg base "whole" ["number"] 1 (spOf K 1 agb)
abbrev Dd12:Prop:=Dfn P w K mg base "added" ["one","other"] 3 (spOf K 2 aee)
abbrev Dd14:Prop:=Dfn P w K mg base "trap" ["house"] 1 (spOf K 1 ajt)
abbrev Dd2:Prop:=Dfn P w K mg base "is_tuple_within" ["thing","least","most"] 1 (spOf K 3 lq)
abbrev Dd1:Prop:=Dfn P w K mg base "is_whole_within" ["thing","least","most"] 2 (spOf K 3 lg)
abbrev Dd16:Prop:=Dfn P w K mg base "is_walkers" ["house","thing","most"] 3 (spOf K 3 qg)
abbrev Dd8:Prop:=Dfn P w K mg base "doors_square" ["house"] 1 (spOf K 1 qu)
abbrev Dd6:Prop:=Dfn P w K mg base "solved" ["rows","right"] 2 (spOf K 2 adp)
abbrev Dd15:Prop:=Dfn P w K mg base "refuse_not_open" ["house"] 3 (spOf K 1 gk)
abbrev Dd18:Prop:=Dfn P w K mg base "parts_of" ["house","gate"] 3 (spOf K 2 ym)
abbrev Dx15:Prop:=DfnX P w K mg base "refuse_not_open" ["house"] 3 (spX K 1 gk)
abbrev Dd11:Prop:=Dfn P w K mg base "times" ["number","one"] 3 (spOf K 2 acs)
abbrev Dd13:Prop:=Dfn P w K mg base "sum_of" ["many"] 4 (spOf K 1 ado)
abbrev Dd17:Prop:=Dfn P w K mg base "refuse_no_walkers" ["house","thing"] 4 (spOf K 2 dz)
abbrev Dd20:Prop:=Dfn P w K mg base "parts_sum" ["parts","walkers"] 5 (spOf K 2 yq)
abbrev Dx17:Prop:=DfnX P w K mg base "refuse_no_walkers" ["house","thing"] 4 (spX K 2 dz)
abbrev Dd24:Prop:=Dfn P w K mg base "_law_draw" ["pen","many"] 1 (spOf K 2 f__law_draw)
abbrev Dd27:Prop:=Dfn P w K mg base "_law_house" ["pen","most","doors"] 2 (spOf K 3 f__law_house)
abbrev Dd28:Prop:=Dfn P w K mg base "_law_reached" ["house","room"] 1 (spOf K 2 m9)
abbrev Dd31:Prop:=Dfn P w K mg base "_law_low" ["top","bottom"] 1 (spOf K 2 j0)
abbrev Dd32:Prop:=Dfn P w K mg base "_law_sum" ["some"] 2 (spOf K 1 qp)
abbrev Dd25:Prop:=Dfn P w K mg base "_law_whole" ["thing"] 1 (spOf K 1 j8)
abbrev Dd21:Prop:=Dfn P w K mg base "share_of" ["house","gate","walkers"] 6 (spOf K 3 km)
abbrev Dx21:Prop:=DfnX P w K mg base "share_of" ["house","gate","walkers"] 6 (spX K 3 km)
abbrev Du30:Prop:=DfnU P w K mg base "_law_kind" ["e"] 1 (spOf K 1 qi)
abbrev Du25:Prop:=DfnU P w K mg base "_law_whole" ["thing"] 1 (spOf K 1 j8)
abbrev Dd34:Prop:=Dfn P w K mg base "_law_solved" ["house","gate"] 3 (spOf K 2 ug)
abbrev Dd33:Prop:=Dfn P w K mg base "_law_times" ["one","many"] 2 (spOf K 2 t8)
abbrev Dd36:Prop:=Dfn P w K mg base "_law_told" ["house","gate","there"] 7 (spOf K 3 jj)
abbrev Dd35:Prop:=Dfn P w K mg base "_law_is_fraction" ["thing"] 2 (spOf K 1 jq)
abbrev Dd19:Prop:=Dfn P w K mg base "shares" ["house","gate"] 4 (spOf K 2 aat)
abbrev Dx19:Prop:=DfnX P w K mg base "shares" ["house","gate"] 4 (spX K 2 aat)
abbrev Dd37:Prop:=Dfn P w K mg base "_law_right" ["house","gate","there"] 8 (spOf K 3 jx)
abbrev Dd22:Prop:=Dfn P w K mg base "_law_cell" ["script","k"] 1 (spOf K 2 f__law_cell)
abbrev Dd23:Prop:=Dfn P w K mg base "_law_pen" ["cell"] 1 (spOf K 1 f__law_pen)
abbrev Dd29:Prop:=Dfn P w K mg base "_law_open" ["pen","most","doors"] 3 (spOf K 3 f__law_open)
abbrev Dd26:Prop:=Dfn P w K mg base "_law_odd" ["pen"] 2 (spOf K 1 f__law_odd)
abbrev Dd38:Prop:=Dfn P w K mg base "_law_refused" ["house","gate","room"] 5 (spOf K 3 qw)
end
section
variable{P:bJ}{w:World}{K:Fg9}{mg:Str->Option Value}{base:Heap}{f:Addr}{fd:eG}
theorem ak0(F:Fun K "is_whole" "is_whole" yc f fd)(T:Txt K mg):FnOk P w K mg base CX0 1 f fd ["thing"] (spOf K 1 aaj) :=
 jb F akp rfl rfl fun cdv A outer s H E hr =>
  (au (f9 (EV.toR (ae4 (ae3 (t:=.int) (ahx (by rfl) T.z_int ani) (by rfl) T.z_isinstance bc (bw (pv 0))) (agd (asb (ae3 (t:=.bool) (ahx (by rfl) T.z_bool alu) (by rfl) T.z_isinstance bc (bw (pv 0)))))))))
theorem adc(F:Fun K "is_whole_within" "is_whole_within" jy f fd)(T:Txt K mg)(d0:Dd0 P w K mg base):FnOk P w K mg base CX0 2 f fd ["thing","least","most"] (spOf K 3 lg) :=
 jb F ac2 rfl rfl fun cdv A outer s H E hr =>
  (au (f9 (EV.toR (ae4 (ER.toD (gw d0 (hr.mono (by decide)) (by rfl) (eg_n (pv 0) bz))) (agd (am7 aur aur (az (pv 1)) (az (pv 0)) (az (pv 2))))))))
theorem ade(F:Fun K "is_tuple_within" "is_tuple_within" jz f fd)(T:Txt K mg):FnOk P w K mg base CX0 1 f fd ["thing","least","most"] (spOf K 3 lq) :=
 jb F ac3 rfl rfl fun cdv A outer s H E hr =>
  (au (f9 (EV.toR (ae4 (ae3 (t:=.tuple) (ahx (by rfl) T.z_tuple uh) (by rfl) T.z_isinstance bc (bw (pv 0))) (agd (am7 aur aur (az (pv 1)) (ER.toD (gf qz (by rfl) T.z_len rm (ea_n (pv 0) gm))) (az (pv 2))))))))
theorem aky(F:Fun K "row_with" "row_with" xu f fd)(T:Txt K mg):FnOk P w K mg base CX0 1 f fd ["rows","at"] (spOf K 2 aai) :=
 jb F afq rfl rfl fun cdv A outer s H E hr =>
  (ak (zb cD rfl (ari (by rfl) T.z_range (aa (az (pv 1)) (aa (ER.toD (gf qz (by rfl) T.z_len rm (ea_n (pv 0) gm))) bh))) (cu (i:=2) afq.nd rfl (bG rfl)) (au (vp (j9 (wy hr.units) (e2_v (ER.toD (ig (e2_v (ER.toD (ig (e2_n (pv 0) (bw (pv 2))) (fun _ _=>by rfl))) (bw (pv 1))) (fun _ _=>by rfl))) (EV.toB ao)) (jo _)) (au (f9 (abk (pv 2)))) jr))) (au (f9 (EV.toR ae2))))
theorem aop(F:Fun K "swapped" "swapped" aaa f fd)(T:Txt K mg):FnOk P w K mg base CX0 1 f fd ["rows","one","other"] (spOf K 3 abi) :=
 jb F ag3 rfl rfl fun cdv A outer s H E hr =>
  (ak (afj (i:=3) [] ["row"] [none] ag3.nd rfl (bG rfl) rfl (qt (az (pv 0))) (fun _ _ _=>(cu (i:=0) (show(["row"]:List Str).Nodup by decide +kernel) rfl (bG rfl))) (fun _ _ _=>j5) (fun _ _ _=>(ER.toD (jt aej (by rfl) T.z_list acz (ea_n (pv 0) gm))))) (ak (vp (j9 (wy hr.units) (e2_n (pv 1) (bw (pv 2))) (jo _)) (ak (aen (ER.toD (jt aej (by rfl) T.z_list acz (ea_v (ER.toD (ig (e2_n (pv 0) (bw (pv 2))) (fun _ _=>by rfl))) gm))) (pv 3) (az (pv 1))) (au (aen (ER.toD (lu [] ["number"] [none] rfl (qt (ER.toD (ig (e2_n (pv 0) (bw (pv 1))) (fun _ _=>by rfl)))) (fun _ _ _=>(cu (i:=0) (show(["number"]:List Str).Nodup by decide +kernel) rfl (bG rfl))) (fun _ _ _=>j5) (fun _ _ _=>(yr (az (pv 0)))))) (pv 3) (az (pv 2))))) jr) (au (f9 (abk (pv 3))))))
theorem aoq(F:Fun K "cleared" "cleared" aab f fd)(T:Txt K mg):FnOk P w K mg base CX0 1 f fd ["rows","at","bottom"] (spOf K 3 abj) :=
 jb F z9 rfl rfl fun cdv A outer s H E hr =>
  (ak (fj (i:=3) z9.nd rfl (lQ rfl) (ig (e2_n (pv 0) (bw (pv 1))) (fun _ _=>by rfl))) (ak (fj (i:=4) z9.nd rfl (bG rfl) (kh bh)) (ak (zb cD rfl (alb (by rfl) T.z_enumerate (aa (az (pv 0)) bh)) (aa1 rfl (iu (cu (i:=5) z9.nd rfl (bG rfl)) (iu (cu (i:=6) z9.nd rfl (lQ rfl)) wu))) (au (vp (j9 (afx hr.units) (e2_n (pv 5) (bw (pv 1))) (jo _)) (au (wg (EV.toR (ajw aae gY PySem.F.type_list_append aaf (pv 4) (aa (ER.toD (jt aej (by rfl) T.z_list acz (ea_n (pv 3) gm))) bh))))) (au (wg (EV.toR (ajw aae gY PySem.F.type_list_append aaf (pv 4) (aa (ER.toD (lu ["row","head","bottom","at"] ["own","over","row","head","bottom","at"] [none,none,some 6,some 3,some 2,some 1] rfl (af4 (by rfl) T.z_zip (aa (az (pv 6)) (aa (az (pv 3)) bh))) (fun _ _ _=>(aa1 rfl (iu (cu (i:=0) (show(["own","over","row","head","bottom","at"]:List Str).Nodup by decide +kernel) rfl (bG rfl)) (iu (cu (i:=1) (show(["own","over","row","head","bottom","at"]:List Str).Nodup by decide +kernel) rfl (bG rfl)) wu)))) (fun _ _ _=>j5) (fun _ _ _=>(ER.toD (dh ad6 (e2_v (ER.toD (dh wj (e2_v (ER.toD (dh qb (e2_v (ER.toD (ig (e2_n (pv 3) (bw (pv 5))) (fun _ _=>by rfl))) (bw (pv 0))))) (EV.toB (ER.toD (dh qb (e2_v (ER.toD (ig (e2_n (pv 2) (bw (pv 5))) (fun _ _=>by rfl))) (bw (pv 1))))))))) (bw (pv 4)))))))) bh)))))))) (au (f9 (abk (pv 4)))))))
theorem aqx(F:Fun K "solved" "solved" abr f fd)(T:Txt K mg)(d3:Dd3 P w K mg base)(d4:Dd4 P w K mg base)(d5:Dd5 P w K mg base):FnOk P w K mg base CX0 2 f fd ["rows","right"] (spOf K 2 adp) :=
 jb F vq rfl rfl fun cdv A outer s H E hr =>
  (ak (afj (i:=2) [] ["row","number"] [none,none] vq.nd rfl (bG rfl) rfl (af4 (by rfl) T.z_zip (aa (az (pv 0)) (aa (az (pv 1)) bh))) (fun _ _ _=>(aa1 rfl (iu (cu (i:=0) (show(["row","number"]:List Str).Nodup by decide +kernel) rfl (bG rfl)) (iu (cu (i:=1) (show(["row","number"]:List Str).Nodup by decide +kernel) rfl (bG rfl)) wu)))) (fun _ _ _=>j5) (fun _ _ _=>(ER.toD (dh je (e2_v (ER.toD (jt aej (by rfl) T.z_list acz (ea_n (pv 0) gm))) (EV.toB (ER.toD (kh (aa (az (pv 1)) bh))))))))) (ak (fj (i:=3) vq.nd rfl (bG rfl) (EV.toR ao)) (ak (zb cD rfl (v5 (by rfl) T.z_range (aa (ER.toD (gf qz (by rfl) T.z_len rm (ea_n (pv 0) gm))) bh)) (cu (i:=4) vq.nd rfl (bG rfl)) (ak (fj (i:=5) vq.nd rfl (bG rfl) (gw d3 (hr.mono (by decide)) (by rfl) (eg_n (pv 2) (eg_v (az (pv 4)) bz)))) (ak (vp (asf (bw (pv 5))) (au (f9 (EV.toR ae2))) jr) (ak (fj (i:=2) vq.nd rfl (bG rfl) (gw d4 (hr.mono (by decide)) (by rfl) (eg_v (az (pv 2)) (eg_v (az (pv 4)) (eg_v (az (pv 5)) bz))))) (ak (fj (i:=2) vq.nd rfl (bG rfl) (gw d5 (hr.mono (by decide)) (by rfl) (eg_v (az (pv 2)) (eg_n (pv 4) (eg_n (pv 3) bz))))) (au (fj (i:=3) vq.nd rfl (bG rfl) (ig (e2_v (ER.toD (ig (e2_n (pv 2) (bw (pv 4))) (fun _ _=>by rfl))) (bw (pv 4))) (fun _ _=>by rfl))))))))) (au (f9 (EV.toR (jf (aa (ER.toD (lu ["rows"] ["row","rows"] [none,some 0] rfl (qt (az (pv 2))) (fun _ _ _=>(cu (i:=0) (show(["row","rows"]:List Str).Nodup by decide +kernel) rfl (bG rfl))) (fun _ _ _=>j5) (fun _ _ _=>(ER.toD (ig (e2_n (pv 0) (EV.toB (ER.toD (gf qz (by rfl) T.z_len rm (ea_n (pv 1) gm))))) (fun _ _=>by rfl)))))) (aa (az (pv 3)) bh)))))))))
theorem ad7(F:Fun K "common_divisor" "common_divisor" j6 f fd)(T:Txt K mg):FnOk P w K mg base CX0 1 f fd ["numbers"] (spOf K 1 my) :=
 jb F jg rfl rfl fun cdv A outer s H E hr =>
  (ak (fj (i:=1) jg.nd rfl (bG rfl) (EV.toR ao)) (ak (zb cD rfl (qt (az (pv 0))) (cu (i:=2) jg.nd rfl (bG rfl)) (ak (fj (i:=3) jg.nd rfl (bG rfl) (gf a3k (by rfl) T.z_abs a3n (ea_n (pv 2) gm))) (au (ae9 fuel cD (j9 (wy hr.units) (e2_n (pv 3) (EV.toB ao)) (jo _)) (ak (fj (i:=4) jg.nd rfl (bG rfl) (dh acg (e2_n (pv 1) (bw (pv 3))))) (ak (fj (i:=1) jg.nd rfl (bG rfl) (EV.toR (az (pv 3)))) (au (fj (i:=3) jg.nd rfl (bG rfl) (EV.toR (az (pv 4))))))))))) (au (f9 (abk (pv 1))))))
theorem afy(F:Fun K "doors_square" "doors_square" m5 f fd)(T:Txt K mg):FnOk P w K mg base CX0 1 f fd ["house"] (spOf K 1 qu) :=
 jb F ou rfl rfl fun cdv A outer s H E hr =>
  (ak (fj (i:=1) ou.nd rfl (bG rfl) (kh bh)) (ak (zb cD rfl (alb (by rfl) T.z_enumerate (aa (az (pv 0)) bh)) (aa1 rfl (iu (cu (i:=2) ou.nd rfl (bG rfl)) (iu (cu (i:=3) ou.nd rfl (lQ rfl)) wu))) (ak (afj (i:=4) ["doors"] ["other","doors"] [none,some 3] ou.nd rfl (bG rfl) rfl (v5 (by rfl) T.z_range (aa (ER.toD (gf qz (by rfl) T.z_len rm (ea_n (pv 0) gm))) bh)) (fun _ _ _=>(cu (i:=0) (show(["other","doors"]:List Str).Nodup by decide +kernel) rfl (bG rfl))) (fun _ _ _=>j5) (fun _ _ _=>(yr (aau hr.units (pv 1) (aa (az (pv 0)) bh))))) (ak (apz (pv 4) (az (pv 2)) (ER.toD (gf qz (by rfl) T.z_len rm (ea_n (pv 3) gm))) a2o) (au (wg (EV.toR (ajw aae gY PySem.F.type_list_append aaf (pv 1) (aa (az (pv 4)) bh)))))))) (au (f9 (abk (pv 1))))))
theorem ak1(F:Fun K "fraction" "fraction" ye f fd)(T:Txt K mg)(d7:Dd7 P w K mg base):FnOk P w K mg base CX0 2 f fd ["top","bottom"] (spOf K 2 qm) :=
 jb F acd rfl rfl fun cdv A outer s H E hr =>
  (ak (fj (i:=2) acd.nd rfl (bG rfl) (gw d7 (hr.mono (by decide)) (by rfl) (eg_v (ER.toD (kh (aa (az (pv 0)) (aa (az (pv 1)) bh)))) bz))) (ak (vp (j9 ai4 (e2_n (pv 1) (EV.toB ao)) (jo _)) (au (fj (i:=2) acd.nd rfl (bG rfl) (EV.toR (yr (az (pv 2)))))) jr) (au (f9 (EV.toR (jf (aa (ER.toD (dh ad6 (e2_n (pv 0) (bw (pv 2))))) (aa (ER.toD (dh ad6 (e2_n (pv 1) (bw (pv 2))))) bh))))))))
theorem aut(F:Fun K "whole" "whole" ad2 f fd)(T:Txt K mg):FnOk P w K mg base CX0 1 f fd ["number"] (spOf K 1 agb) :=
 jb F at6 rfl rfl fun cdv A outer s H E hr =>
  (au (f9 (EV.toR (jf (aa (az (pv 0)) (aa ao bh))))))
theorem auu(F:Fun K "times" "times" ad3 f fd)(T:Txt K mg)(d9:Dd9 P w K mg base):FnOk P w K mg base CX0 3 f fd ["number","one"] (spOf K 2 acs) :=
 jb F at7 rfl rfl fun cdv A outer s H E hr =>
  (au (f9 (gw d9 (hr.mono (by decide)) (by rfl) (eg_v (ER.toD (dh qb (e2_n (pv 0) (EV.toB (ER.toD (ig (e2_n (pv 1) (EV.toB ao)) (fun _ _=>by rfl))))))) (eg_v (ER.toD (ig (e2_n (pv 1) (EV.toB ao)) (fun _ _=>by rfl))) bz)))))
theorem auv(F:Fun K "added" "added" ad4 f fd)(T:Txt K mg)(d9:Dd9 P w K mg base):FnOk P w K mg base CX0 3 f fd ["one","other"] (spOf K 2 aee) :=
 jb F at8 rfl rfl fun cdv A outer s H E hr =>
  (au (f9 (gw d9 (hr.mono (by decide)) (by rfl) (eg_v (ER.toD (dh je (e2_v (ER.toD (dh qb (e2_v (ER.toD (ig (e2_n (pv 0) (EV.toB ao)) (fun _ _=>by rfl))) (EV.toB (ER.toD (ig (e2_n (pv 1) (EV.toB ao)) (fun _ _=>by rfl))))))) (EV.toB (ER.toD (dh qb (e2_v (ER.toD (ig (e2_n (pv 1) (EV.toB ao)) (fun _ _=>by rfl))) (EV.toB (ER.toD (ig (e2_n (pv 0) (EV.toB ao)) (fun _ _=>by rfl))))))))))) (eg_v (ER.toD (dh qb (e2_v (ER.toD (ig (e2_n (pv 0) (EV.toB ao)) (fun _ _=>by rfl))) (EV.toB (ER.toD (ig (e2_n (pv 1) (EV.toB ao)) (fun _ _=>by rfl))))))) bz)))))
theorem aqw(F:Fun K "sum_of" "sum_of" abq f fd)(T:Txt K mg)(d10:Dd10 P w K mg base)(d12:Dd12 P w K mg base):FnOk P w K mg base CX0 4 f fd ["many"] (spOf K 1 ado) :=
 jb F ac1 rfl rfl fun cdv A outer s H E hr =>
  (ak (fj (i:=1) ac1.nd rfl (bG rfl) (gw d10 (hr.mono (by decide)) (by rfl) (eg_v ao bz))) (ak (zb cD rfl (qt (az (pv 0))) (cu (i:=2) ac1.nd rfl (bG rfl)) (au (fj (i:=1) ac1.nd rfl (bG rfl) (gw d12 (hr.mono (by decide)) (by rfl) (eg_n (pv 1) (eg_n (pv 2) bz)))))) (au (f9 (abk (pv 1))))))
theorem aye(F:Fun K "trap" "trap" ag4 f fd)(T:Txt K mg):FnOk P w K mg base CX0 1 f fd ["house"] (spOf K 1 ajt) :=
 jb F afo rfl rfl fun cdv A outer s H E hr =>
  (ak (fj (i:=1) afo.nd rfl (lQ rfl) (ajy rfl (by rfl) T.z_list (by rfl) T.z_range (aa (ER.toD (gf qz (by rfl) T.z_len rm (ea_n (pv 0) gm))) bh))) (ak (fj (i:=2) afo.nd rfl (bG rfl) (dh je (e2_v (ER.toD (gf qz (by rfl) T.z_len rm (ea_n (pv 1) gm))) (EV.toB ao)))) (ak (ae9 fuel cD (j9 ai4 (e2_v (ER.toD (gf qz (by rfl) T.z_len rm (ea_n (pv 1) gm))) (bw (pv 2))) (jo _)) (ak (fj (i:=2) afo.nd rfl (bG rfl) (gf qz (by rfl) T.z_len rm (ea_n (pv 1) gm))) (au (fj (i:=1) afo.nd rfl (lQ rfl) (lu ["staying","house"] ["room","staying","house"] [none,some 1,some 0] rfl (qt (az (pv 1))) (fun _ _ _=>(cu (i:=0) (show(["room","staying","house"]:List Str).Nodup by decide +kernel) rfl (bG rfl))) (fun _ _ _=>(alk (yt (ER.toD (gf (as3 rfl) (by rfl) T.z_all atc (ea_v (ER.toD (lu ["staying"] ["door","staying"] [none,some 1] rfl (qt (ER.toD (ig (e2_n (pv 2) (bw (pv 0))) (fun _ _=>by rfl)))) (fun _ _ _=>(cu (i:=0) (show(["door","staying"]:List Str).Nodup by decide +kernel) rfl (bG rfl))) (fun _ _ _=>j5) (fun _ _ _=>(ER.toD (age (a1c hr.units) (e2_n (pv 0) (bw (pv 1))) (by with_unfolding_all rfl)))))) gm)))))) (fun _ _ _=>(az (pv 0)))))))) (au (f9 (jt xq (by rfl) T.z_tuple uh (ea_n (pv 1) gm)))))))
theorem adb(F:Fun K "refuse_not_open" "refuse_not_open" jh f fd)(T:Txt K mg)(d14:Dd14 P w K mg base):FnOk P w K mg base CX0 3 f fd ["house"] (spOf K 1 gk) :=
 jb F n6 rfl rfl fun cdv A outer s H E hr =>
  (ak (SV.s (fj (i:=1) n6.nd rfl (bG rfl) (gw d14 (hr.mono (by decide)) (by rfl) (eg_n (pv 0) bz)))) (au (vp (ET.s (j9 (wy hr.units) (e2_n (pv 1) (EV.toB (jf bh))) (jo _))) (au ap0) jr)))
theorem ach(F:Fun K "refuse_not_open" "refuse_not_open" jh f fd)(T:Txt K mg)(d14:Dd14 P w K mg base):FnOk P w K mg base (CX1 P w) 3 f fd ["house"] (spX K 1 gk) :=
 fn_x F n6 rfl rfl fun cdv A outer s H E hr =>
  (ae7 (SV.s (fj (i:=1) n6.nd rfl (bG rfl) (gw d14 (hr.mono (by decide)) (by rfl) (eg_n (pv 0) bz)))) apj (aa4 (az6 (ET.s (j9 (wy hr.units) (e2_n (pv 1) (EV.toB (jf bh))) (jo _))) abb (aa4 (apg rfl rfl (by rfl) T.i_NotOpen ako rfl (by decide) (by decide) (fun _=>rfl) (bG rfl) (bG rfl) (ao0 fun _ _ _ _ _ _ us hl=>by obtain⟨_,_,rfl⟩:=ln2 hl;rfl) (hr.mono (by decide)) (EV.s (ER.toD (ig (e2_n (pv 1) (EV.toB ao)) (fun _ _=>by rfl)))) abb)) ape)))
theorem ahz(F:Fun K "is_walkers" "is_walkers" sy f fd)(T:Txt K mg)(d2:Dd2 P w K mg base)(d1:Dd1 P w K mg base):FnOk P w K mg base CX0 3 f fd ["house","thing","most"] (spOf K 3 qg) :=
 jb F ahs rfl rfl fun cdv A outer s H E hr =>
  (ak (vp (aak (yt (ER.toD (gw d2 (hr.mono (by decide)) (by rfl) (eg_n (pv 1) (eg_v (ER.toD (gf qz (by rfl) T.z_len rm (ea_n (pv 0) gm))) (eg_v (ER.toD (gf qz (by rfl) T.z_len rm (ea_n (pv 0) gm))) bz))))))) (au (f9 (EV.toR aa3))) jr) (au (f9 (gf (as3 rfl) (by rfl) T.z_all atc (ea_v (ER.toD (lu ["most"] ["many","most"] [none,some 2] rfl (qt (az (pv 1))) (fun _ _ _=>(cu (i:=0) (show(["many","most"]:List Str).Nodup by decide +kernel) rfl (bG rfl))) (fun _ _ _=>j5) (fun _ _ _=>(ER.toD (gw d1 (hr.mono (by decide)) (by rfl) (eg_n (pv 0) (eg_v ao (eg_n (pv 1) bz)))))))) gm)))))
theorem ab2(F:Fun K "refuse_no_walkers" "refuse_no_walkers" ik f fd)(T:Txt K mg)(d16:Dd16 P w K mg base):FnOk P w K mg base CX0 4 f fd ["house","thing"] (spOf K 2 dz) :=
 jb F ww rfl rfl fun cdv A outer s H E hr =>
  (au (vp (ET.s (aak (yt (ER.toD (gw d16 (hr.mono (by decide)) (by rfl) (eg_n (pv 0) (eg_v (az (pv 1)) (eg_v (ev_c (a08 (by rfl) T.c_MOST_WALKERS) fun _=>.int _) bz)))))))) (au atx) jr))
theorem aba(F:Fun K "refuse_no_walkers" "refuse_no_walkers" ik f fd)(T:Txt K mg)(d16:Dd16 P w K mg base):FnOk P w K mg base (CX1 P w) 4 f fd ["house","thing"] (spX K 2 dz) :=
 fn_x F ww rfl rfl fun cdv A outer s H E hr =>
  (aa4 (az6 (ET.s (aak (yt (ER.toD (gw d16 (hr.mono (by decide)) (by rfl) (eg_n (pv 0) (eg_v (az (pv 1)) (eg_v (ev_c (a08 (by rfl) T.c_MOST_WALKERS) fun _=>.int _) bz)))))))) abb (aa4 (apf rfl rfl (by rfl) T.r_NoWalkers)) ape))
theorem akz(F:Fun K "parts_of" "parts_of" xx f fd)(T:Txt K mg)(d8:Dd8 P w K mg base)(d6:Dd6 P w K mg base)(d9:Dd9 P w K mg base):FnOk P w K mg base CX0 3 f fd ["house","gate"] (spOf K 2 ym) :=
 jb F afr rfl rfl fun cdv A outer s H E hr =>
  (ak (fj (i:=2) afr.nd rfl (lQ rfl) (gw d6 (hr.mono (by decide)) (by rfl) (eg_v (ER.toD (gw d8 (hr.mono (by decide)) (by rfl) (eg_v (az (pv 0)) bz))) (eg_v (ER.toD (lu ["gate"] ["doors","gate"] [none,some 1] rfl (qt (az (pv 0))) (fun _ _ _=>(cu (i:=0) (show(["doors","gate"]:List Str).Nodup by decide +kernel) rfl (bG rfl))) (fun _ _ _=>j5) (fun _ _ _=>(aau hr.units (pv 0) (aa (az (pv 1)) bh))))) bz)))) (au (f9 (jt xq (by rfl) T.z_tuple uh (ea_v (ER.toD (lu ["told"] ["top","told"] [none,some 2] rfl (qt (ER.toD (ig (e2_n (pv 2) (EV.toB ao)) (fun _ _=>by rfl)))) (fun _ _ _=>(cu (i:=0) (show(["top","told"]:List Str).Nodup by decide +kernel) rfl (bG rfl))) (fun _ _ _=>j5) (fun _ _ _=>(ER.toD (gw d9 (hr.mono (by decide)) (by rfl) (eg_n (pv 0) (eg_v (ER.toD (ig (e2_n (pv 1) (EV.toB ao)) (fun _ _=>by rfl))) bz))))))) gm)))))
theorem aqy(F:Fun K "shares" "shares" aan f fd)(T:Txt K mg)(d15:Dd15 P w K mg base)(d18:Dd18 P w K mg base)(x15:Dx15 P w K mg base):FnOk P w K mg base CX0 4 f fd ["house","gate"] (spOf K 2 aat) :=
 jb F aiy rfl rfl fun cdv A outer s H E hr =>
  (ak (wg (gw d15 (hr.mono (by decide)) (by rfl) (eg_n (pv 0) bz))) (au (SV.s (f9 (gw d18 (hr.mono (by decide)) (by rfl) (eg_v (az (pv 0)) (eg_n (pv 1) bz)))))))
theorem aoo(F:Fun K "shares" "shares" aan f fd)(T:Txt K mg)(d15:Dd15 P w K mg base)(d18:Dd18 P w K mg base)(x15:Dx15 P w K mg base):FnOk P w K mg base (CX1 P w) 4 f fd ["house","gate"] (spX K 2 aat) :=
 fn_x F aiy rfl rfl fun cdv A outer s H E hr =>
  (ae7 (wg (gw d15 (hr.mono (by decide)) (by rfl) (eg_n (pv 0) bz))) (ahk (apl x15 (hr.mono (by decide)) (by rfl) (eg_n (pv 0) bz) (xa_n (pv 0) agz))) (aa4 apj))
theorem ai6(F:Fun K "parts_sum" "parts_sum" ut f fd)(T:Txt K mg)(d11:Dd11 P w K mg base)(d13:Dd13 P w K mg base):FnOk P w K mg base CX0 5 f fd ["parts","walkers"] (spOf K 2 yq) :=
 jb F aiz rfl rfl fun cdv A outer s H E hr =>
  (au (f9 (gw d13 (hr.mono (by decide)) (by rfl) (eg_v (ER.toD (lu [] ["many","part"] [none,none] rfl (af4 (by rfl) T.z_zip (aa (az (pv 1)) (aa (az (pv 0)) bh))) (fun _ _ _=>(aa1 rfl (iu (cu (i:=0) (show(["many","part"]:List Str).Nodup by decide +kernel) rfl (bG rfl)) (iu (cu (i:=1) (show(["many","part"]:List Str).Nodup by decide +kernel) rfl (bG rfl)) wu)))) (fun _ _ _=>j5) (fun _ _ _=>(ER.toD (gw d11 (hr.mono (by decide)) (by rfl) (eg_n (pv 0) (eg_n (pv 1) bz))))))) bz))))
theorem akx(F:Fun K "share_of" "share_of" ur f fd)(T:Txt K mg)(d17:Dd17 P w K mg base)(d15:Dd15 P w K mg base)(d18:Dd18 P w K mg base)(d20:Dd20 P w K mg base)(x17:Dx17 P w K mg base)(x15:Dx15 P w K mg base):FnOk P w K mg base CX0 6 f fd ["house","gate","walkers"] (spOf K 3 km) :=
 jb F afp rfl rfl fun cdv A outer s H E hr =>
  (ak (wg (gw d17 (hr.mono (by decide)) (by rfl) (eg_n (pv 0) (eg_v (EV.s (az (pv 2))) bz)))) (ak (wg (gw d15 (hr.mono (by decide)) (by rfl) (eg_n (pv 0) bz))) (au (SV.s (f9 (gw d20 (hr.mono (by decide)) (by rfl) (eg_v (ER.toD (gw d18 (hr.mono (by decide)) (by rfl) (eg_v (az (pv 0)) (eg_n (pv 1) bz)))) (eg_v (az (pv 2)) bz))))))))
theorem ai5(F:Fun K "share_of" "share_of" ur f fd)(T:Txt K mg)(d17:Dd17 P w K mg base)(d15:Dd15 P w K mg base)(d18:Dd18 P w K mg base)(d20:Dd20 P w K mg base)(x17:Dx17 P w K mg base)(x15:Dx15 P w K mg base):FnOk P w K mg base (CX1 P w) 6 f fd ["house","gate","walkers"] (spX K 3 km) :=
 fn_x F afp rfl rfl fun cdv A outer s H E hr =>
  (ae7 (wg (gw d17 (hr.mono (by decide)) (by rfl) (eg_n (pv 0) (eg_v (EV.s (az (pv 2))) bz)))) (ahk (apl x17 (hr.mono (by decide)) (by rfl) (eg_n (pv 0) (eg_v (EV.s (az (pv 2))) bz)) (xa_n (pv 0) (xa_v (js:=[]) (EV.s (az (pv 2))) (XE.no abb) agz)))) (ae7 (wg (gw d15 (hr.mono (by decide)) (by rfl) (eg_n (pv 0) bz))) (ahk (apl x15 (hr.mono (by decide)) (by rfl) (eg_n (pv 0) bz) (xa_n (pv 0) agz))) (aa4 apj)))
theorem ajb(F:Fun K "_law_cell" "_law_cell" uy f fd)(T:Txt K mg):FnOk P w K mg base CX0 1 f fd ["script","k"] (spOf K 2 f__law_cell) :=
 jb F ai0 rfl rfl fun cdv A outer s H E hr =>
  (ak (vp (j9 ai4 (e2_n (pv 1) (EV.toB (ER.toD (gf qz (by rfl) T.z_len rm (ea_n (pv 0) gm))))) (jo _)) (au (f9 (ig (e2_n (pv 0) (bw (pv 1))) (fun _ _=>by rfl)))) jr) (au (f9 (EV.toR ao))))
theorem ak3(F:Fun K "_law_pen" "_law_pen" yh f fd)(T:Txt K mg):FnOk P w K mg base CX0 1 f fd ["cell"] (spOf K 1 f__law_pen) :=
 jb F afs rfl rfl fun cdv A outer s H E hr =>
  (ak (fj (i:=1) afs.nd rfl (bG rfl) (gf (anf rfl) (by rfl) T.z_max anh (ea_n (pv 0) (ea_v (ER.toD (dh wj (e2_v ao (bw (pv 0))))) gm)))) (au (f9 (kh (aa (az (pv 1)) (aa (ER.toD (jt a3j (by rfl) T.z_int ani (ea_v (ER.toD (age ami (e2_n (pv 1) (EV.toB (ER.toD (dh aqu (e2_v ao (EV.toB ao)))))) (jo _))) gm))) bh))))))
theorem aja(F:Fun K "_law_draw" "_law_draw" ux f fd)(T:Txt K mg):FnOk P w K mg base CX0 1 f fd ["pen","many"] (spOf K 2 f__law_draw) :=
 jb F vy rfl rfl fun cdv A outer s H E hr =>
  (ak (vp (j9 (afx hr.units) (e2_v (ER.toD (ig (e2_n (pv 0) (EV.toB ao)) (fun _ _=>by rfl))) (EV.toB ao)) (jo _)) (ak (al5 (ER.toD (gf asz (by rfl) T.z_divmod atb (ea_v (ER.toD (ig (e2_n (pv 0) (EV.toB ao)) (fun _ _=>by rfl))) (ea_n (pv 1) gm)))) (aa1 rfl (iu (cu (i:=2) vy.nd rfl (bG rfl)) (iu (cu (i:=3) vy.nd rfl (bG rfl)) wu)))) (ak (aen (az (pv 2)) (pv 0) ao) (au (f9 (abk (pv 3)))))) jr) (ak (fj (i:=4) vy.nd rfl (bG rfl) (dh acg (e2_v (ER.toD (dh qb (e2_v (ER.toD (dh je (e2_v (ER.toD (dh acg (e2_v (ER.toD (ig (e2_n (pv 0) (EV.toB ao)) (fun _ _=>by rfl))) (EV.toB ao)))) (EV.toB ao)))) (EV.toB ao)))) (EV.toB ao)))) (ak (fj (i:=4) vy.nd rfl (bG rfl) (dh acg (e2_v (ER.toD (dh je (e2_v (ER.toD (dh qb (e2_n (pv 4) (bw (pv 4))))) (EV.toB ao)))) (EV.toB ao)))) (ak (aen (ER.toD (dh acg (e2_v (ER.toD (dh je (e2_v (ER.toD (dh qb (e2_n (pv 4) (EV.toB ao)))) (EV.toB ao)))) (EV.toB ao)))) (pv 0) ao) (au (f9 (dh acg (e2_v (ER.toD (dh ad6 (e2_v (ER.toD (ig (e2_n (pv 0) (EV.toB ao)) (fun _ _=>by rfl))) (EV.toB ao)))) (bw (pv 1))))))))))
theorem ah0(F:Fun K "_law_whole" "_law_whole" pq f fd)(T:Txt K mg):FnOk P w K mg base CX0 1 f fd ["thing"] (spOf K 1 j8) :=
 jb F ac4 rfl rfl fun cdv A outer s H E hr =>
  (au (f9 (EV.toR (ae4 (ae3 (t:=.int) (ahx (by rfl) T.z_int ani) (by rfl) T.z_isinstance bc (bw (pv 0))) (agd (asb (ae3 (t:=.bool) (ahx (by rfl) T.z_bool alu) (by rfl) T.z_isinstance bc (bw (pv 0)))))))))
theorem agv(F:Fun K "_law_whole" "_law_whole" pq f fd)(T:Txt K mg):FnOkU P w K mg base 1 f fd ["thing"] (spOf K 1 j8) :=
 ar8 F ac4 rfl rfl fun cdv A outer s H hr =>
  (au (f9 (EV.toR (ae4 (ae3 (t:=.int) (ahx (by rfl) T.z_int ani) (by rfl) T.z_isinstance bc (bw (pv 0))) (agd (asb (ae3 (t:=.bool) (ahx (by rfl) T.z_bool alu) (by rfl) T.z_isinstance bc (bw (pv 0)))))))))
theorem ak4(F:Fun K "_law_odd" "_law_odd" yj f fd)(T:Txt K mg)(d24:Dd24 P w K mg base):FnOk P w K mg base CX0 2 f fd ["pen"] (spOf K 1 f__law_odd) :=
 jb F aft rfl rfl fun cdv A outer s H E hr =>
  (ak (fj (i:=1) aft.nd rfl (bG rfl) (kh (aa ae2 (aa aa3 (aa aa3 (aa (yr ao) (aa jd (aa jd (aa (jf bh) (aa (ER.toD (kh bh)) (aa (jf (aa ao bh)) (aa (ER.toD (kh (aa ao bh))) (aa avy (aa (jf (aa ao (aa ao bh))) (aa (ER.toD (dh aqu (e2_v ao (EV.toB ao)))) (aa (jf (aa (jf (aa ao bh)) bh)) (aa jd bh))))))))))))))))) (au (f9 (ig (e2_v (ER.toD (dh je (e2_n (pv 1) (EV.toB (ER.toD (kh (aa (jf (aa (jf (aa (yr ao) bh)) (aa (jf (aa ao (aa ao bh))) bh))) bh))))))) (EV.toB (ER.toD (gw d24 (hr.mono (by decide)) (by rfl) (eg_n (pv 0) (eg_v ao bz)))))) (fun _ _=>by rfl)))))
theorem ah3(F:Fun K "_law_house" "_law_house" t7 f fd)(T:Txt K mg)(d24:Dd24 P w K mg base):FnOk P w K mg base CX0 2 f fd ["pen","most","doors"] (spOf K 3 f__law_house) :=
 jb F qj rfl rfl fun cdv A outer s H E hr =>
  (ak (fj (i:=3) qj.nd rfl (lQ rfl) (dh je (e2_v ao (EV.toB (ER.toD (gw d24 (hr.mono (by decide)) (by rfl) (eg_n (pv 0) (eg_n (pv 1) bz)))))))) (ak (fj (i:=4) qj.nd rfl (lQ rfl) (ig (e2_v (ER.toD (kh (aa ao (aa ao (aa ao (aa ao bh)))))) (EV.toB (ER.toD (gw d24 (hr.mono (by decide)) (by rfl) (eg_n (pv 0) (eg_v ao bz)))))) (fun _ _=>by rfl))) (ak (fj (i:=5) qj.nd rfl (bG rfl) (kh bh)) (ak (zb cD rfl (v5 (by rfl) T.z_range (aa (az (pv 3)) bh)) (cu (i:=6) qj.nd rfl (bG rfl)) (ak (fj (i:=7) qj.nd rfl (bG rfl) (dh je (e2_v ao (EV.toB (ER.toD (gw d24 (hr.mono (by decide)) (by rfl) (eg_n (pv 0) (eg_n (pv 2) bz)))))))) (au (wg (EV.toR (ajw aae gY PySem.F.type_list_append aaf (pv 5) (aa (ER.toD (jt xq (by rfl) T.z_tuple uh (ea_v (ER.toD (lu ["pen","many","gates"] ["door","pen","many","gates"] [none,some 0,some 3,some 4] rfl (v5 (by rfl) T.z_range (aa (az (pv 7)) bh)) (fun _ _ _=>(cu (i:=0) (show(["door","pen","many","gates"]:List Str).Nodup by decide +kernel) rfl (bG rfl))) (fun _ _ _=>j5) (fun _ _ _=>(ER.toD (dh wj (e2_v (ER.toD (gw d24 (hr.mono (by decide)) (by rfl) (eg_n (pv 1) (eg_v (ER.toD (dh je (e2_n (pv 2) (bw (pv 3))))) bz)))) (bw (pv 3)))))))) gm))) bh))))))) (au (f9 (jt xq (by rfl) T.z_tuple uh (ea_n (pv 5) gm))))))))
theorem af0(F:Fun K "_law_reached" "_law_reached" m8 f fd)(T:Txt K mg):FnOk P w K mg base CX0 1 f fd ["house","room"] (spOf K 2 m9) :=
 jb F ph rfl rfl fun cdv A outer s H E hr =>
  (ak (fj (i:=2) ph.nd rfl (lQ rfl) (kh (aa (az (pv 1)) bh))) (ak (fj (i:=3) ph.nd rfl (bG rfl) (EV.toR ao)) (ak (ae9 fuel cD (j9 ai4 (e2_n (pv 3) (EV.toB (ER.toD (gf qz (by rfl) T.z_len rm (ea_n (pv 2) gm))))) (jo _)) (ak (vp (j9 ami (e2_v (ER.toD (ig (e2_n (pv 2) (bw (pv 3))) (fun _ _=>by rfl))) (EV.toB ao)) (jo _)) (au (fj (i:=2) ph.nd rfl (lQ rfl) (dh je (e2_n (pv 2) (EV.toB (ER.toD (lu ["found"] ["door","found"] [none,some 2] rfl (qt (ER.toD (ajx rfl (by rfl) T.z_sorted ata (by rfl) T.z_set a3m (ea_v (ER.toD (ig (e2_n (pv 0) (EV.toB (ER.toD (ig (e2_n (pv 2) (bw (pv 3))) (fun _ _=>by rfl))))) (fun _ _=>by rfl))) gm)))) (fun _ _ _=>(cu (i:=0) (show(["door","found"]:List Str).Nodup by decide +kernel) rfl (bG rfl))) (fun _ _ _=>(alk (j9 (aqv hr.units) (e2_n (pv 0) (bw (pv 1))) (by with_unfolding_all rfl)))) (fun _ _ _=>(az (pv 0)))))))))) jr) (au (fj (i:=3) ph.nd rfl (bG rfl) (dh je (e2_n (pv 3) (EV.toB ao))))))) (au (f9 (abk (pv 2)))))))
theorem ai8(F:Fun K "_law_open" "_law_open" uw f fd)(T:Txt K mg)(d27:Dd27 P w K mg base)(d28:Dd28 P w K mg base)(d24:Dd24 P w K mg base):FnOk P w K mg base CX0 3 f fd ["pen","most","doors"] (spOf K 3 f__law_open) :=
 jb F zc rfl rfl fun cdv A outer s H E hr =>
  (ak (fj (i:=3) zc.nd rfl (bG rfl) (jt aej (by rfl) T.z_list acz (ea_v (ER.toD (gw d27 (hr.mono (by decide)) (by rfl) (eg_n (pv 0) (eg_n (pv 1) (eg_n (pv 2) bz))))) gm))) (ak (zb cD rfl (v5 (by rfl) T.z_range (aa (ER.toD (gf qz (by rfl) T.z_len rm (ea_n (pv 3) gm))) bh)) (cu (i:=4) zc.nd rfl (bG rfl)) (au (vp (j9 ami (e2_v (ER.toD (gf (asy rfl) (by rfl) T.z_min aw2 (ea_v (ER.toD (gw d28 (hr.mono (by decide)) (by rfl) (eg_n (pv 3) (eg_v (az (pv 4)) bz)))) gm))) (EV.toB ao)) (jo _)) (ak (fj (i:=5) zc.nd rfl (bG rfl) (gw d24 (hr.mono (by decide)) (by rfl) (eg_n (pv 0) (eg_v (ER.toD (gf qz (by rfl) T.z_len rm (ea_v (ER.toD (ig (e2_n (pv 3) (bw (pv 4))) (fun _ _=>by rfl))) gm))) bz)))) (au (aen (ER.toD (dh je (e2_v (ER.toD (dh je (e2_v (ER.toD (awx (ER.toD (ig (e2_n (pv 3) (bw (pv 4))) (fun _ _=>by rfl))) agg (acu (az (pv 5))))) (EV.toB (jf (aa (ER.toD (dh wj (e2_v (yr ao) (EV.toB (ER.toD (gw d24 (hr.mono (by decide)) (by rfl) (eg_n (pv 0) (eg_v ao bz)))))))) bh)))))) (EV.toB (ER.toD (awx (ER.toD (ig (e2_n (pv 3) (bw (pv 4))) (fun _ _=>by rfl))) (acu (ER.toD (dh je (e2_n (pv 5) (EV.toB ao))))) agg)))))) (pv 3) (az (pv 4))))) jr))) (au (f9 (jt xq (by rfl) T.z_tuple uh (ea_n (pv 3) gm))))))
theorem ai9(F:Fun K "_law_kind" "_law_kind" rz f fd)(T:Txt K mg):FnOk P w K mg base CX0 1 f fd ["e"] (spOf K 1 qi) :=
 jb F jw rfl rfl fun cdv A outer s H E hr =>
  (ak (fj (i:=1) jw.nd rfl (bG rfl) (kh (aa (ju T.sub (by decide +kernel) (by rfl) T.k_NoArrows (by rfl) T.z_isinstance bc (bw (pv 0))) (aa (ju T.sub (by decide +kernel) (by rfl) T.k_NoRoom (by rfl) T.z_isinstance bc (bw (pv 0))) (aa (ju T.sub (by decide +kernel) (by rfl) T.k_NoWalkers (by rfl) T.z_isinstance bc (bw (pv 0))) (aa (ju T.sub (by decide +kernel) (by rfl) T.k_NotShut (by rfl) T.z_isinstance bc (bw (pv 0))) bh)))))) (ak (fj (i:=1) jw.nd rfl (bG rfl) (dh je (e2_n (pv 1) (EV.toB (ER.toD (kh (aa (ju T.sub (by decide +kernel) (by rfl) T.k_NeverBack (by rfl) T.z_isinstance bc (bw (pv 0))) (aa (ju T.sub (by decide +kernel) (by rfl) T.k_NoTour (by rfl) T.z_isinstance bc (bw (pv 0))) (aa (ju T.sub (by decide +kernel) (by rfl) T.k_NoRow (by rfl) T.z_isinstance bc (bw (pv 0))) (aa (ju T.sub (by decide +kernel) (by rfl) T.k_NoHouse (by rfl) T.z_isinstance bc (bw (pv 0))) bh)))))))))) (ak (fj (i:=1) jw.nd rfl (bG rfl) (dh je (e2_n (pv 1) (EV.toB (ER.toD (kh (aa (ju T.sub (by decide +kernel) (by rfl) T.k_NotOpen (by rfl) T.z_isinstance bc (bw (pv 0))) (aa (ju T.sub (by decide +kernel) (by rfl) T.k_Nobody (by rfl) T.z_isinstance bc (bw (pv 0))) (aa (ju T.sub (by decide +kernel) (by rfl) T.k_NoText (by rfl) T.z_isinstance bc (bw (pv 0))) (aa (ju T.sub (by decide +kernel) (by rfl) T.k_TooGreat (by rfl) T.z_isinstance bc (bw (pv 0))) bh)))))))))) (ak (vp (EW.pt (ajv (aak (yt (ase T.sub (by rfl) T.z_ValueError adx (by rfl) T.z_isinstance bc (bw (pv 0))))) (ahg (j9 (wy hr.units) (e2_v (aau hr.units (pv 1) (aa aa3 bh)) (EV.toB ao)) (jo _))))) (au (f9 (EV.toR jd))) jr) (ak (fj (i:=2) jw.nd rfl (bG rfl) (kh (aa jd (aa jd (aa jd (aa jd (aa jd (aa jd (aa jd (aa jd (aa jd (aa jd bh)))))))))))) (au (f9 (ig (e2_v (ER.toD (dh je (e2_n (pv 2) (EV.toB (ER.toD (kh (aa jd (aa jd bh)))))))) (EV.toB (asd nO sO (aml hr.units) (pv 1) (aa aa3 bh)))) (fun _ _=>by rfl)))))))))
theorem ahy(F:Fun K "_law_kind" "_law_kind" rz f fd)(T:Txt K mg):FnOkU P w K mg base 1 f fd ["e"] (spOf K 1 qi) :=
 ar8 F jw rfl rfl fun cdv A outer s H hr =>
  (ak (fj (i:=1) jw.nd rfl (bG rfl) (kh (aa (ju T.sub (by decide +kernel) (by rfl) T.k_NoArrows (by rfl) T.z_isinstance bc (bw (pv 0))) (aa (ju T.sub (by decide +kernel) (by rfl) T.k_NoRoom (by rfl) T.z_isinstance bc (bw (pv 0))) (aa (ju T.sub (by decide +kernel) (by rfl) T.k_NoWalkers (by rfl) T.z_isinstance bc (bw (pv 0))) (aa (ju T.sub (by decide +kernel) (by rfl) T.k_NotShut (by rfl) T.z_isinstance bc (bw (pv 0))) bh)))))) (ak (fj (i:=1) jw.nd rfl (bG rfl) (dh je (e2_n (pv 1) (EV.toB (ER.toD (kh (aa (ju T.sub (by decide +kernel) (by rfl) T.k_NeverBack (by rfl) T.z_isinstance bc (bw (pv 0))) (aa (ju T.sub (by decide +kernel) (by rfl) T.k_NoTour (by rfl) T.z_isinstance bc (bw (pv 0))) (aa (ju T.sub (by decide +kernel) (by rfl) T.k_NoRow (by rfl) T.z_isinstance bc (bw (pv 0))) (aa (ju T.sub (by decide +kernel) (by rfl) T.k_NoHouse (by rfl) T.z_isinstance bc (bw (pv 0))) bh)))))))))) (ak (fj (i:=1) jw.nd rfl (bG rfl) (dh je (e2_n (pv 1) (EV.toB (ER.toD (kh (aa (ju T.sub (by decide +kernel) (by rfl) T.k_NotOpen (by rfl) T.z_isinstance bc (bw (pv 0))) (aa (ju T.sub (by decide +kernel) (by rfl) T.k_Nobody (by rfl) T.z_isinstance bc (bw (pv 0))) (aa (ju T.sub (by decide +kernel) (by rfl) T.k_NoText (by rfl) T.z_isinstance bc (bw (pv 0))) (aa (ju T.sub (by decide +kernel) (by rfl) T.k_TooGreat (by rfl) T.z_isinstance bc (bw (pv 0))) bh)))))))))) (ak (vp (EW.pt (ajv (aak (yt (ase T.sub (by rfl) T.z_ValueError adx (by rfl) T.z_isinstance bc (bw (pv 0))))) (ahg (j9 (wy hr.units) (e2_v (aau hr.units (pv 1) (aa aa3 bh)) (EV.toB ao)) (jo _))))) (au (f9 (EV.toR jd))) jr) (ak (fj (i:=2) jw.nd rfl (bG rfl) (kh (aa jd (aa jd (aa jd (aa jd (aa jd (aa jd (aa jd (aa jd (aa jd (aa jd bh)))))))))))) (au (f9 (ig (e2_v (ER.toD (dh je (e2_n (pv 2) (EV.toB (ER.toD (kh (aa jd (aa jd bh)))))))) (EV.toB (asd nO sO (aml hr.units) (pv 1) (aa aa3 bh)))) (fun _ _=>by rfl)))))))))
theorem ak5(F:Fun K "_law_low" "_law_low" yl f fd)(T:Txt K mg):FnOk P w K mg base CX0 1 f fd ["top","bottom"] (spOf K 2 j0) :=
 jb F yo rfl rfl fun cdv A outer s H E hr =>
  (ak (awd (i:=2) (j:=3) rfl yo.nd rfl rfl (by decide) rfl rfl (aa (ER.toD (gf (anf rfl) (by rfl) T.z_max anh (ea_n (pv 0) (ea_v (ER.toD (dh wj (e2_v ao (bw (pv 0))))) gm)))) (aa (ER.toD (gf (anf rfl) (by rfl) T.z_max anh (ea_n (pv 1) (ea_v (ER.toD (dh wj (e2_v ao (bw (pv 1))))) gm)))) bh))) (ak (ae9 fuel cD (j9 (wy hr.units) (e2_n (pv 3) (EV.toB ao)) (jo _)) (au (awd (i:=2) (j:=3) rfl yo.nd rfl rfl (by decide) rfl rfl (aa (az (pv 3)) (aa (ER.toD (dh acg (e2_n (pv 2) (bw (pv 3))))) bh))))) (ak (fj (i:=2) yo.nd rfl (bG rfl) (gf (anf rfl) (by rfl) T.z_max anh (ea_v ao (ea_n (pv 2) gm)))) (ak (vp (j9 ai4 (e2_n (pv 1) (EV.toB ao)) (jo _)) (au (fj (i:=2) yo.nd rfl (bG rfl) (dh wj (e2_v ao (bw (pv 2)))))) jr) (au (f9 (EV.toR (jf (aa (ER.toD (dh ad6 (e2_n (pv 0) (bw (pv 2))))) (aa (ER.toD (dh ad6 (e2_n (pv 1) (bw (pv 2))))) bh))))))))))
theorem ak2(F:Fun K "_law_sum" "_law_sum" yg f fd)(T:Txt K mg)(d31:Dd31 P w K mg base):FnOk P w K mg base CX0 2 f fd ["some"] (spOf K 1 qp) :=
 jb F uq rfl rfl fun cdv A outer s H E hr =>
  (ak (al5 (jf (aa ao (aa ao bh))) (aa1 rfl (iu (cu (i:=1) uq.nd rfl (bG rfl)) (iu (cu (i:=2) uq.nd rfl (bG rfl)) wu)))) (ak (zb cD rfl (qt (az (pv 0))) (cu (i:=3) uq.nd rfl (bG rfl)) (au (al5 (ER.toD (gw d31 (hr.mono (by decide)) (by rfl) (eg_v (ER.toD (dh je (e2_v (ER.toD (dh qb (e2_n (pv 1) (EV.toB (ER.toD (ig (e2_n (pv 3) (EV.toB ao)) (fun _ _=>by rfl))))))) (EV.toB (ER.toD (dh qb (e2_v (ER.toD (ig (e2_n (pv 3) (EV.toB ao)) (fun _ _=>by rfl))) (bw (pv 2))))))))) (eg_v (ER.toD (dh qb (e2_n (pv 2) (EV.toB (ER.toD (ig (e2_n (pv 3) (EV.toB ao)) (fun _ _=>by rfl))))))) bz)))) (aa1 rfl (iu (cu (i:=1) uq.nd rfl (bG rfl)) (iu (cu (i:=2) uq.nd rfl (bG rfl)) wu)))))) (au (f9 (EV.toR (jf (aa (az (pv 1)) (aa (az (pv 2)) bh))))))))
theorem ah1(F:Fun K "_law_times" "_law_times" tu f fd)(T:Txt K mg)(d31:Dd31 P w K mg base):FnOk P w K mg base CX0 2 f fd ["one","many"] (spOf K 2 t8) :=
 jb F aht rfl rfl fun cdv A outer s H E hr =>
  (au (f9 (gw d31 (hr.mono (by decide)) (by rfl) (eg_v (ER.toD (dh qb (e2_v (ER.toD (ig (e2_n (pv 0) (EV.toB ao)) (fun _ _=>by rfl))) (bw (pv 1))))) (eg_v (ER.toD (ig (e2_n (pv 0) (EV.toB ao)) (fun _ _=>by rfl))) bz)))))
theorem agw(F:Fun K "_law_solved" "_law_solved" ql f fd)(T:Txt K mg)(d31:Dd31 P w K mg base)(d32:Dd32 P w K mg base):FnOk P w K mg base CX0 3 f fd ["house","gate"] (spOf K 2 ug) :=
 jb F ie rfl rfl fun cdv A outer s H E hr =>
  (ak (fj (i:=2) ie.nd rfl (lQ rfl) (gf qz (by rfl) T.z_len rm (ea_n (pv 0) gm))) (ak (fj (i:=3) ie.nd rfl (bG rfl) (kh bh)) (ak (zb cD rfl (alb (by rfl) T.z_enumerate (aa (az (pv 0)) bh)) (aa1 rfl (iu (cu (i:=4) ie.nd rfl (bG rfl)) (iu (cu (i:=5) ie.nd rfl (lQ rfl)) wu))) (ak (fj (i:=6) ie.nd rfl (bG rfl) (dh je (e2_v (ER.toD (lu ["room"] ["one","room"] [none,some 5] rfl (v5 (by rfl) T.z_range (aa (az (pv 2)) bh)) (fun _ _ _=>(cu (i:=0) (show(["one","room"]:List Str).Nodup by decide +kernel) rfl (bG rfl))) (fun _ _ _=>j5) (fun _ _ _=>(jf (aa (ER.toD (dh wj (e2_v ao (EV.toB (aau hr.units (pv 1) (aa (az (pv 0)) bh)))))) (aa ao bh)))))) (EV.toB (ER.toD (kh (aa (jf (aa (aau hr.units (pv 5) (aa (az (pv 1)) bh)) (aa ao bh))) bh))))))) (ak (aen (jf (aa (ER.toD (dh wj (e2_v (ER.toD (gf qz (by rfl) T.z_len rm (ea_n (pv 5) gm))) (EV.toB (aau hr.units (pv 5) (aa (az (pv 4)) bh)))))) (aa ao bh))) (pv 6) (az (pv 4))) (au (wg (EV.toR (ajw aae gY PySem.F.type_list_append aaf (pv 3) (aa (az (pv 6)) bh)))))))) (ak (zb cD rfl (ayu (by rfl) T.z_range (aa (ER.toD (dh wj (e2_n (pv 2) (EV.toB ao)))) (aa (yr ao) (aa (yr ao) bh)))) (cu (i:=4) ie.nd rfl (bG rfl)) (ak (fj (i:=7) ie.nd rfl (lQ rfl) (ig (e2_v (ER.toD (ig (e2_n (pv 3) (bw (pv 4))) (fun _ _=>by rfl))) (bw (pv 4))) (fun _ _=>by rfl))) (ak (aen (ER.toD (lu ["own"] ["one","own"] [none,some 7] rfl (qt (ER.toD (ig (e2_n (pv 3) (bw (pv 4))) (fun _ _=>by rfl)))) (fun _ _ _=>(cu (i:=0) (show(["one","own"]:List Str).Nodup by decide +kernel) rfl (bG rfl))) (fun _ _ _=>j5) (fun _ _ _=>(ER.toD (gw d31 (hr.mono (by decide)) (by rfl) (eg_v (ER.toD (dh qb (e2_v (ER.toD (ig (e2_n (pv 0) (EV.toB ao)) (fun _ _=>by rfl))) (EV.toB (ER.toD (ig (e2_n (pv 1) (EV.toB ao)) (fun _ _=>by rfl))))))) (eg_v (ER.toD (dh qb (e2_v (ER.toD (ig (e2_n (pv 0) (EV.toB ao)) (fun _ _=>by rfl))) (EV.toB (ER.toD (ig (e2_n (pv 1) (EV.toB ao)) (fun _ _=>by rfl))))))) bz))))))) (pv 3) (az (pv 4))) (au (zb cD rfl (v5 (by rfl) T.z_range (aa (az (pv 2)) bh)) (cu (i:=8) ie.nd rfl (bG rfl)) (au (vp (j9 (wy hr.units) (e2_n (pv 8) (bw (pv 4))) (jo _)) (ak (fj (i:=9) ie.nd rfl (lQ rfl) (ig (e2_v (ER.toD (ig (e2_n (pv 3) (bw (pv 8))) (fun _ _=>by rfl))) (bw (pv 4))) (fun _ _=>by rfl))) (ak (afj (i:=10) ["by"] ["one","by"] [none,some 9] ie.nd rfl (bG rfl) rfl (qt (ER.toD (ig (e2_n (pv 3) (bw (pv 4))) (fun _ _=>by rfl)))) (fun _ _ _=>(cu (i:=0) (show(["one","by"]:List Str).Nodup by decide +kernel) rfl (bG rfl))) (fun _ _ _=>j5) (fun _ _ _=>(ER.toD (gw d31 (hr.mono (by decide)) (by rfl) (eg_v (ER.toD (dh wj (e2_v ao (EV.toB (ER.toD (dh qb (e2_v (ER.toD (ig (e2_n (pv 0) (EV.toB ao)) (fun _ _=>by rfl))) (EV.toB (ER.toD (ig (e2_n (pv 1) (EV.toB ao)) (fun _ _=>by rfl))))))))))) (eg_v (ER.toD (dh qb (e2_v (ER.toD (ig (e2_n (pv 0) (EV.toB ao)) (fun _ _=>by rfl))) (EV.toB (ER.toD (ig (e2_n (pv 1) (EV.toB ao)) (fun _ _=>by rfl))))))) bz)))))) (au (aen (ER.toD (lu [] ["one","two"] [none,none] rfl (af4 (by rfl) T.z_zip (aa (ER.toD (ig (e2_n (pv 3) (bw (pv 8))) (fun _ _=>by rfl))) (aa (az (pv 10)) bh))) (fun _ _ _=>(aa1 rfl (iu (cu (i:=0) (show(["one","two"]:List Str).Nodup by decide +kernel) rfl (bG rfl)) (iu (cu (i:=1) (show(["one","two"]:List Str).Nodup by decide +kernel) rfl (bG rfl)) wu)))) (fun _ _ _=>j5) (fun _ _ _=>(ER.toD (gw d32 (hr.mono (by decide)) (by rfl) (eg_v (ER.toD (kh (aa (az (pv 0)) (aa (az (pv 1)) bh)))) bz)))))) (pv 3) (az (pv 8)))))) jr))))))) (au (f9 (jt xq (by rfl) T.z_tuple uh (ea_v (ER.toD (lu ["many"] ["row","many"] [none,some 2] rfl (qt (az (pv 3))) (fun _ _ _=>(cu (i:=0) (show(["row","many"]:List Str).Nodup by decide +kernel) rfl (bG rfl))) (fun _ _ _=>j5) (fun _ _ _=>(ER.toD (ig (e2_n (pv 0) (bw (pv 1))) (fun _ _=>by rfl)))))) gm))))))))
theorem aci(F:Fun K "_law_is_fraction" "_law_is_fraction" jn f fd)(T:Txt K mg)(d25:Dd25 P w K mg base)(d31:Dd31 P w K mg base):FnOk P w K mg base CX0 2 f fd ["thing"] (spOf K 1 jq) :=
 jb F ace rfl rfl fun cdv A outer s H E hr =>
  (ak (vp (EW.pt (ajv (aak (yt (ae3 (t:=.tuple) (ahx (by rfl) T.z_tuple uh) (by rfl) T.z_isinstance bc (bw (pv 0))))) (ajv (j9 (wy hr.units) (e2_v (ER.toD (gf qz (by rfl) T.z_len rm (ea_n (pv 0) gm))) (EV.toB ao)) (jo _)) (ahg (aak (yt (ER.toD (gf (as3 rfl) (by rfl) T.z_all atc (ea_v (ER.toD (lu [] ["one"] [none] rfl (qt (az (pv 0))) (fun _ _ _=>(cu (i:=0) (show(["one"]:List Str).Nodup by decide +kernel) rfl (bG rfl))) (fun _ _ _=>j5) (fun _ _ _=>(ER.toD (gw d25 (hr.mono (by decide)) (by rfl) (eg_n (pv 0) bz)))))) gm))))))))) (au (f9 (EV.toR aa3))) jr) (au (f9 (EV.toR (ae4 (ER.toD (age awh (e2_v (ER.toD (ig (e2_n (pv 0) (EV.toB ao)) (fun _ _=>by rfl))) (EV.toB ao)) (jo _))) (agd (ER.toD (age (afx hr.units) (e2_v (ER.toD (gw d31 (hr.mono (by decide)) (by rfl) (eg_v (ER.toD (ig (e2_n (pv 0) (EV.toB ao)) (fun _ _=>by rfl))) (eg_v (ER.toD (ig (e2_n (pv 0) (EV.toB ao)) (fun _ _=>by rfl))) bz)))) (bw (pv 0))) (jo _)))))))))
theorem ai7(F:Fun K "_law_told" "_law_told" uv f fd)(T:Txt K mg)(d21:Dd21 P w K mg base)(x21:Dx21 P w K mg base)(u30:Du30 P w K mg base)(u25:Du25 P w K mg base):FnOk P w K mg base CX0 7 f fd ["house","gate","there"] (spOf K 3 jj) :=
 jb F aeq rfl rfl fun cdv A outer s H E hr =>
  (au (apy rfl rfl rfl rfl aeq.nd rfl rfl (by rfl) T.cat T.sub (by decide +kernel) (au (f9 (EV.toR (jf (aa (EV.s jd) (aa (ER.toD (gw d21 (hr.mono (by decide)) (by rfl) (eg_v (EV.s (az (pv 0))) (eg_n (pv 1) (eg_v (EV.s (az (pv 2))) bz))))) bh)))))) (aa4 (az5 (XE.v (az7 (apk (EV.s jd) (XE.no abb) (apk (ER.toD (gw d21 (hr.mono (by decide)) (by rfl) (eg_v (EV.s (az (pv 0))) (eg_n (pv 1) (eg_v (EV.s (az (pv 2))) bz))))) (XE.d (apl x21 (hr.mono (by decide)) (by rfl) (eg_v (EV.s (az (pv 0))) (eg_n (pv 1) (eg_v (EV.s (az (pv 2))) bz))) (xa_v (js:=[]) (EV.s (az (pv 0))) (XE.no abb) (xa_n (pv 1) (xa_v (js:=[]) (EV.s (az (pv 2))) (XE.no abb) agz))))) agz)))))) (fun ev=>(ak (vp (j9 (afx (hr.mark ev).units) (e2_v (ER.toD (ajz u30 ((hr.mark ev).mono (by decide)) (by rfl) (eg_n (pv 3) bz))) (EV.toB jd)) (jo _)) (au (f9 (EV.toR (jf (aa jd (aa (ER.toD (a75 (yt (ER.toD (ajz u25 ((hr.mark ev).mono (by decide)) (by rfl) (eg_v (am6 (afc T.n_room) (az (pv 3))) bz)))) (EV.toR (am6 (afc T.n_room) (az (pv 3)))) (EV.toR ae2))) bh)))))) jr) (au (f9 (EV.toR (jf (aa (ER.toD (ajz u30 ((hr.mark ev).mono (by decide)) (by rfl) (eg_n (pv 3) bz))) (aa ae2 bh))))))))))
theorem ah2(F:Fun K "_law_right" "_law_right" t6 f fd)(T:Txt K mg)(d34:Dd34 P w K mg base)(d33:Dd33 P w K mg base)(d32:Dd32 P w K mg base)(d36:Dd36 P w K mg base)(d35:Dd35 P w K mg base):FnOk P w K mg base CX0 8 f fd ["house","gate","there"] (spOf K 3 jx) :=
 jb F xf rfl rfl fun cdv A outer s H E hr =>
  (ak (fj (i:=3) xf.nd rfl (bG rfl) (gw d32 (hr.mono (by decide)) (by rfl) (eg_v (ER.toD (lu [] ["one","many"] [none,none] rfl (af4 (by rfl) T.z_zip (aa (ER.toD (gw d34 (hr.mono (by decide)) (by rfl) (eg_v (az (pv 0)) (eg_v (az (pv 1)) bz)))) (aa (az (pv 2)) bh))) (fun _ _ _=>(aa1 rfl (iu (cu (i:=0) (show(["one","many"]:List Str).Nodup by decide +kernel) rfl (bG rfl)) (iu (cu (i:=1) (show(["one","many"]:List Str).Nodup by decide +kernel) rfl (bG rfl)) wu)))) (fun _ _ _=>j5) (fun _ _ _=>(ER.toD (gw d33 (hr.mono (by decide)) (by rfl) (eg_n (pv 0) (eg_n (pv 1) bz))))))) bz))) (ak (al5 (ER.toD (gw d36 (hr.mono (by decide)) (by rfl) (eg_v (az (pv 0)) (eg_n (pv 1) (eg_v (az (pv 2)) bz))))) (aa1 rfl (iu (cu (i:=4) xf.nd rfl (bG rfl)) (iu (cu (i:=5) xf.nd rfl (bG rfl)) wu)))) (ak (vp (EW.pt (ajv (j9 (wy hr.units) (e2_n (pv 4) (EV.toB jd)) (jo _)) (ajv (aak (yt (ER.toD (gw d35 (hr.mono (by decide)) (by rfl) (eg_v (az (pv 5)) bz))))) (ahg (j9 (wy hr.units) (e2_n (pv 5) (bw (pv 3))) (jo _)))))) (au (f9 (EV.toR aa3))) jr) (au (f9 (age (afx hr.units) (e2_v (ER.toD (gw d36 (hr.mono (by decide)) (by rfl) (eg_v (az (pv 0)) (eg_n (pv 1) (eg_v (az (pv 2)) bz))))) (EV.toB (jf (aa (az (pv 4)) (aa (az (pv 5)) bh))))) (jo _)))))))
theorem afz(F:Fun K "_law_refused" "_law_refused" m7 f fd)(T:Txt K mg)(d19:Dd19 P w K mg base)(x19:Dx19 P w K mg base)(u30:Du30 P w K mg base)(u25:Du25 P w K mg base):FnOk P w K mg base CX0 5 f fd ["house","gate","room"] (spOf K 3 qw) :=
 jb F aa6 rfl rfl fun cdv A outer s H E hr =>
  (ak (apy rfl rfl rfl rfl aa6.nd rfl rfl (by rfl) T.cat T.sub (by decide +kernel) (au (wg (gw d19 (hr.mono (by decide)) (by rfl) (eg_v (EV.s (az (pv 0))) (eg_n (pv 1) bz))))) (aa4 (ahk (apl x19 (hr.mono (by decide)) (by rfl) (eg_v (EV.s (az (pv 0))) (eg_n (pv 1) bz)) (xa_v (js:=[]) (EV.s (az (pv 0))) (XE.no abb) (xa_n (pv 1) agz))))) (fun ev=>(au (f9 (EV.toR (ae4 (ER.toD (age (afx (hr.mark ev).units) (e2_v (ER.toD (ajz u30 ((hr.mark ev).mono (by decide)) (by rfl) (eg_n (pv 3) bz))) (EV.toB jd)) (jo _))) (ae4 (ER.toD (ajz u25 ((hr.mark ev).mono (by decide)) (by rfl) (eg_v (am6 (afc T.n_room) (az (pv 3))) bz))) (agd (ER.toD (age (afx (hr.mark ev).units) (e2_v (am6 (afc T.n_room) (az (pv 3))) (bw (pv 2))) (jo _))))))))))) (au (f9 (EV.toR aa3))))
theorem a1k(F:Fun K "law" "law" ahu f fd)(T:Txt K mg)(d37:Dd37 P w K mg base)(d22:Dd22 P w K mg base)(d23:Dd23 P w K mg base)(d29:Dd29 P w K mg base)(d24:Dd24 P w K mg base)(d27:Dd27 P w K mg base)(d28:Dd28 P w K mg base)(d36:Dd36 P w K mg base)(d26:Dd26 P w K mg base)(d38:Dd38 P w K mg base):FnOk P w K mg base CX0 9 f fd ["script"] (spOf K 1 asa) :=
 jb F ab3 rfl rfl fun cdv A outer s H E hr =>
  (ak (vp (EW.pt (ajv (aak (yt (ER.toD (gw d37 (hr.mono (by decide)) (by rfl) (eg_v (jf (aa (jf (aa (yr ao) bh)) bh)) (eg_v (yr ao) (eg_v (jf (aa ao bh)) bz))))))) (ahg (aak (yt (ER.toD (gw d37 (hr.mono (by decide)) (by rfl) (eg_v (jf (aa (jf (aa (yr ao) (aa (yr ao) (aa ao bh)))) bh)) (eg_v (yr ao) (eg_v (jf (aa ao bh)) bz)))))))))) (au (f9 (EV.toR aa3))) jr) (ak (zb cD rfl (qt (ER.toD (dh je (e2_v (ER.toD (kh (aa (ER.toD (gw d22 (hr.mono (by decide)) (by rfl) (eg_n (pv 0) (eg_v ao bz)))) bh))) (EV.toB (ER.toD (aii (pv 0) (acu ao) (acu ao)))))))) (cu (i:=1) ab3.nd rfl (bG rfl)) (ak (fj (i:=2) ab3.nd rfl (lQ rfl) (gw d23 (hr.mono (by decide)) (by rfl) (eg_n (pv 1) bz))) (ak (fj (i:=3) ab3.nd rfl (bG rfl) (gw d29 (hr.mono (by decide)) (by rfl) (eg_n (pv 2) (eg_v ao (eg_v ao bz))))) (ak (fj (i:=4) ab3.nd rfl (bG rfl) (dh wj (e2_v (yr ao) (EV.toB (ER.toD (gw d24 (hr.mono (by decide)) (by rfl) (eg_n (pv 2) (eg_v ao bz)))))))) (ak (fj (i:=5) ab3.nd rfl (bG rfl) (jt xq (by rfl) T.z_tuple uh (ea_v (ER.toD (lu ["pen"] ["room","pen"] [none,some 2] rfl (qt (az (pv 3))) (fun _ _ _=>(cu (i:=0) (show(["room","pen"]:List Str).Nodup by decide +kernel) rfl (bG rfl))) (fun _ _ _=>j5) (fun _ _ _=>(ER.toD (gw d24 (hr.mono (by decide)) (by rfl) (eg_n (pv 1) (eg_v (ER.toD (ig (e2_v (ER.toD (kh (aa ao (aa ao bh)))) (EV.toB (ER.toD (gw d24 (hr.mono (by decide)) (by rfl) (eg_n (pv 1) (eg_v ao bz)))))) (fun _ _=>by rfl))) bz))))))) gm))) (ak (fj (i:=6) ab3.nd rfl (bG rfl) (jt xq (by rfl) T.z_tuple uh (ea_v (ER.toD (lu [] ["room"] [none] rfl (qt (az (pv 3))) (fun _ _ _=>(cu (i:=0) (show(["room"]:List Str).Nodup by decide +kernel) rfl (bG rfl))) (fun _ _ _=>j5) (fun _ _ _=>ao))) gm))) (ak (vp (EW.pt (ajv (aak (yt (ER.toD (gw d37 (hr.mono (by decide)) (by rfl) (eg_v (az (pv 3)) (eg_v (az (pv 4)) (eg_v (az (pv 5)) bz))))))) (ahg (aak (yt (ER.toD (gw d37 (hr.mono (by decide)) (by rfl) (eg_v (az (pv 3)) (eg_v (az (pv 4)) (eg_v (az (pv 6)) bz)))))))))) (au (f9 (EV.toR aa3))) jr) (ak (fj (i:=7) ab3.nd rfl (lQ rfl) (gw d27 (hr.mono (by decide)) (by rfl) (eg_n (pv 2) (eg_v ao (eg_v ao bz))))) (ak (afj (i:=8) ["shut"] ["room","shut"] [none,some 7] ab3.nd rfl (bG rfl) rfl (v5 (by rfl) T.z_range (aa (ER.toD (gf qz (by rfl) T.z_len rm (ea_n (pv 7) gm))) bh)) (fun _ _ _=>(cu (i:=0) (show(["room","shut"]:List Str).Nodup by decide +kernel) rfl (bG rfl))) (fun _ _ _=>(alk (j9 ami (e2_v (ER.toD (gf (asy rfl) (by rfl) T.z_min aw2 (ea_v (ER.toD (gw d28 (hr.mono (by decide)) (by rfl) (eg_n (pv 1) (eg_n (pv 0) bz)))) gm))) (EV.toB ao)) (jo _)))) (fun _ _ _=>(az (pv 0)))) (ak (zb cD rfl (qt (ER.toD (kh (aa (ER.toD (dh je (e2_n (pv 5) (EV.toB (jf (aa ao bh)))))) (aa (ER.toD (jt aej (by rfl) T.z_list acz (ea_n (pv 5) gm))) (aa (ER.toD (dh je (e2_v (jf (aa ao bh)) (EV.toB (ER.toD (aii (pv 5) (acu ao) agg)))))) (aa (ER.toD (dh je (e2_v (jf (aa (yr ao) bh)) (EV.toB (ER.toD (aii (pv 5) (acu ao) agg)))))) (aa (ER.toD (dh je (e2_v (jf (aa aa3 bh)) (EV.toB (ER.toD (aii (pv 5) (acu ao) agg)))))) (aa ae2 bh))))))))) (cu (i:=9) ab3.nd rfl (bG rfl)) (au (vp (j9 (wy hr.units) (e2_v (ER.toD (gw d36 (hr.mono (by decide)) (by rfl) (eg_v (az (pv 3)) (eg_n (pv 4) (eg_v (az (pv 9)) bz))))) (EV.toB (jf (aa jd (aa ae2 bh))))) (jo _)) (au (f9 (EV.toR aa3))) jr))) (au (vp (j9 (wy hr.units) (e2_n (pv 8) (EV.toB (ER.toD (kh bh)))) (jo _)) (ak (vp (j9 (wy hr.units) (e2_v (ER.toD (gw d36 (hr.mono (by decide)) (by rfl) (eg_v (az (pv 7)) (eg_n (pv 4) (eg_v (ER.toD (jt xq (by rfl) T.z_tuple uh (ea_v (ER.toD (lu [] ["room"] [none] rfl (qt (az (pv 7))) (fun _ _ _=>(cu (i:=0) (show(["room"]:List Str).Nodup by decide +kernel) rfl (bG rfl))) (fun _ _ _=>j5) (fun _ _ _=>ao))) gm))) bz))))) (EV.toB (jf (aa jd (aa (ER.toD (ig (e2_n (pv 8) (EV.toB ao)) (fun _ _=>by rfl))) bh))))) (jo _)) (au (f9 (EV.toR aa3))) jr) (ak (vp (EW.pt (a3a (j9 (wy hr.units) (e2_v (ER.toD (gw d36 (hr.mono (by decide)) (by rfl) (eg_v (az (pv 7)) (eg_n (pv 4) (eg_v (ER.toD (gw d26 (hr.mono (by decide)) (by rfl) (eg_n (pv 2) bz))) bz))))) (EV.toB (jf (aa jd (aa ae2 bh))))) (jo _)) (azh (j9 awh (e2_v (ER.toD (gf qz (by rfl) T.z_len rm (ea_n (pv 7) gm))) (EV.toB ao)) (jo _))))) (au (f9 (EV.toR aa3))) jr) (au (vp (aak (yt (ER.toD (gw d38 (hr.mono (by decide)) (by rfl) (eg_v (az (pv 7)) (eg_n (pv 4) (eg_v (ER.toD (ig (e2_n (pv 8) (EV.toB ao)) (fun _ _=>by rfl))) bz))))))) (au (f9 (EV.toR aa3))) jr)))) jr)))))))))))) (au (f9 (EV.toR aa3)))))
end
theorem a3q{l:qY}{w:World}{K:Fg9}{h:Heap}{mg:Str->Option Value}{fa f0' f1' f2' f3' f4' f5' f6' f7' f8' f9' f10' f11' f12' f13' f14' f15' f16' f17' f18' f19' f20' f21' f22' f23' f24' f25' f26' f27' f28' f29' f30' f31' f32' f33' f34' f35' f36' f37' f38' f39':Addr}(X:K.In h)(G:h.Ns aH mg)(hfa:mg "law" = some (.ref fa))
  {od0 an0 od1 an1 od2 an2 od3 an3 od4 an4 od5 an5 od6 an6 od7 an7 od8 an8 od9 an9 od10 an10 od11 an11 od12 an12 od13 an13 od14 an14 od15 an15 od16 an16 od17 an17 od18 an18 od19 an19 od20 an20 od21 an21 od22 an22 od23 an23 od24 an24 od25 an25 od26 an26 od27 an27 od28 an28 od29 an29 od30 an30 od31 an31 od32 an32 od33 an33 od34 an34 od35 an35 od36 an36 od37 an37 od38 an38 od39 an39:Option Addr} {sl0 sl1 sl2 sl3 sl4 sl5 sl6 sl7 sl8 sl9 sl10 sl11 sl12 sl13 sl14 sl15 sl16 sl17 sl18 sl19 sl20 sl21 sl22 sl23 sl24 sl25 sl26 sl27 sl28 sl29 sl30 sl31 sl32 sl33 sl34 sl35 sl36 sl37 sl38 sl39:Array (Option Value)} {oc0 kV0 dc0 pm0 cd0 ct0 oc1 kV1 dc1 pm1 cd1 ct1 oc2 kV2 dc2 pm2 cd2 ct2 oc3 kV3 dc3 pm3 cd3 ct3 oc4 kV4 dc4 pm4 cd4 ct4 oc5 kV5 dc5 pm5 cd5 ct5 oc6 kV6 dc6 pm6 cd6 ct6 oc7 kV7 dc7 pm7 cd7 ct7 oc8 kV8 dc8 pm8 cd8 ct8 oc9 kV9 dc9 pm9 cd9 ct9 oc10 kV10 dc10 pm10 cd10 ct10 oc11 kV11 dc11 pm11 cd11 ct11 oc12 kV12 dc12 pm12 cd12 ct12 oc13 kV13 dc13 pm13 cd13 ct13 oc14 kV14 dc14 pm14 cd14 ct14 oc15 kV15 dc15 pm15 cd15 ct15 oc16 kV16 dc16 pm16 cd16 ct16 oc17 kV17 dc17 pm17 cd17 ct17 oc18 kV18 dc18 pm18 cd18 ct18 oc19 kV19 dc19 pm19 cd19 ct19 oc20 kV20 dc20 pm20 cd20 ct20 oc21 kV21 dc21 pm21 cd21 ct21 oc22 kV22 dc22 pm22 cd22 ct22 oc23 kV23 dc23 pm23 cd23 ct23 oc24 kV24 dc24 pm24 cd24 ct24 oc25 kV25 dc25 pm25 cd25 ct25 oc26 kV26 dc26 pm26 cd26 ct26 oc27 kV27 dc27 pm27 cd27 ct27 oc28 kV28 dc28 pm28 cd28 ct28 oc29 kV29 dc29 pm29 cd29 ct29 oc30 kV30 dc30 pm30 cd30 ct30 oc31 kV31 dc31 pm31 cd31 ct31 oc32 kV32 dc32 pm32 cd32 ct32 oc33 kV33 dc33 pm33 cd33 ct33 oc34 kV34 dc34 pm34 cd34 ct34 oc35 kV35 dc35 pm35 cd35 ct35 oc36 kV36 dc36 pm36 cd36 ct36 oc37 kV37 dc37 pm37 cd37 ct37 oc38 kV38 dc38 pm38 cd38 ct38 oc39 kV39 dc39 pm39 cd39 ct39:Value}
  {tk_MOST_WALKERS:Tok}
  (a0:nsIn K aH "is_whole" = some (some (.ref f0'))) (l0:K.lookup f0'=some ⟨oc0,od0,.func (fnOf "is_whole" "is_whole" (fc yc) (dg yc) (aj yc) .none kV0 dc0 pm0 an0 cd0 ct0),sl0⟩) (c0:eX K cd0 "is_whole" = true) (k0:dI K (.ref f0')=true)
  (a1:nsIn K aH "is_whole_within" = some (some (.ref f1'))) (l1:K.lookup f1'=some ⟨oc1,od1,.func (fnOf "is_whole_within" "is_whole_within" (fc jy) (dg jy) (aj jy) .none kV1 dc1 pm1 an1 cd1 ct1),sl1⟩) (c1:eX K cd1 "is_whole_within" = true) (k1:dI K (.ref f1')=true)
  (a2:nsIn K aH "is_tuple_within" = some (some (.ref f2'))) (l2:K.lookup f2'=some ⟨oc2,od2,.func (fnOf "is_tuple_within" "is_tuple_within" (fc jz) (dg jz) (aj jz) .none kV2 dc2 pm2 an2 cd2 ct2),sl2⟩) (c2:eX K cd2 "is_tuple_within" = true) (k2:dI K (.ref f2')=true)
  (a3:nsIn K aH "row_with" = some (some (.ref f3'))) (l3:K.lookup f3'=some ⟨oc3,od3,.func (fnOf "row_with" "row_with" (fc xu) (dg xu) (aj xu) .none kV3 dc3 pm3 an3 cd3 ct3),sl3⟩) (c3:eX K cd3 "row_with" = true) (k3:dI K (.ref f3')=true)
  (a4:nsIn K aH "swapped" = some (some (.ref f4'))) (l4:K.lookup f4'=some ⟨oc4,od4,.func (fnOf "swapped" "swapped" (fc aaa) (dg aaa) (aj aaa) .none kV4 dc4 pm4 an4 cd4 ct4),sl4⟩) (c4:eX K cd4 "swapped" = true) (k4:dI K (.ref f4')=true)
  (a5:nsIn K aH "cleared" = some (some (.ref f5'))) (l5:K.lookup f5'=some ⟨oc5,od5,.func (fnOf "cleared" "cleared" (fc aab) (dg aab) (aj aab) .none kV5 dc5 pm5 an5 cd5 ct5),sl5⟩) (c5:eX K cd5 "cleared" = true) (k5:dI K (.ref f5')=true)
  (a6:nsIn K aH "solved" = some (some (.ref f6'))) (l6:K.lookup f6'=some ⟨oc6,od6,.func (fnOf "solved" "solved" (fc abr) (dg abr) (aj abr) .none kV6 dc6 pm6 an6 cd6 ct6),sl6⟩) (c6:eX K cd6 "solved" = true) (k6:dI K (.ref f6')=true)
  (a7:nsIn K aH "common_divisor" = some (some (.ref f7'))) (l7:K.lookup f7'=some ⟨oc7,od7,.func (fnOf "common_divisor" "common_divisor" (fc j6) (dg j6) (aj j6) .none kV7 dc7 pm7 an7 cd7 ct7),sl7⟩) (c7:eX K cd7 "common_divisor" = true) (k7:dI K (.ref f7')=true)
  (a8:nsIn K aH "doors_square" = some (some (.ref f8'))) (l8:K.lookup f8'=some ⟨oc8,od8,.func (fnOf "doors_square" "doors_square" (fc m5) (dg m5) (aj m5) .none kV8 dc8 pm8 an8 cd8 ct8),sl8⟩) (c8:eX K cd8 "doors_square" = true) (k8:dI K (.ref f8')=true)
  (a9:nsIn K aH "fraction" = some (some (.ref f9'))) (l9:K.lookup f9'=some ⟨oc9,od9,.func (fnOf "fraction" "fraction" (fc ye) (dg ye) (aj ye) .none kV9 dc9 pm9 an9 cd9 ct9),sl9⟩) (c9:eX K cd9 "fraction" = true) (k9:dI K (.ref f9')=true)
  (a10:nsIn K aH "whole" = some (some (.ref f10'))) (l10:K.lookup f10'=some ⟨oc10,od10,.func (fnOf "whole" "whole" (fc ad2) (dg ad2) (aj ad2) .none kV10 dc10 pm10 an10 cd10 ct10),sl10⟩) (c10:eX K cd10 "whole" = true) (k10:dI K (.ref f10')=true)
  (a11:nsIn K aH "times" = some (some (.ref f11'))) (l11:K.lookup f11'=some ⟨oc11,od11,.func (fnOf "times" "times" (fc ad3) (dg ad3) (aj ad3) .none kV11 dc11 pm11 an11 cd11 ct11),sl11⟩) (c11:eX K cd11 "times" = true) (k11:dI K (.ref f11')=true)
  (a12:nsIn K aH "added" = some (some (.ref f12'))) (l12:K.lookup f12'=some ⟨oc12,od12,.func (fnOf "added" "added" (fc ad4) (dg ad4) (aj ad4) .none kV12 dc12 pm12 an12 cd12 ct12),sl12⟩) (c12:eX K cd12 "added" = true) (k12:dI K (.ref f12')=true)
  (a13:nsIn K aH "sum_of" = some (some (.ref f13'))) (l13:K.lookup f13'=some ⟨oc13,od13,.func (fnOf "sum_of" "sum_of" (fc abq) (dg abq) (aj abq) .none kV13 dc13 pm13 an13 cd13 ct13),sl13⟩) (c13:eX K cd13 "sum_of" = true) (k13:dI K (.ref f13')=true)
  (a14:nsIn K aH "trap" = some (some (.ref f14'))) (l14:K.lookup f14'=some ⟨oc14,od14,.func (fnOf "trap" "trap" (fc ag4) (dg ag4) (aj ag4) .none kV14 dc14 pm14 an14 cd14 ct14),sl14⟩) (c14:eX K cd14 "trap" = true) (k14:dI K (.ref f14')=true)
  (a15:nsIn K aH "refuse_not_open" = some (some (.ref f15'))) (l15:K.lookup f15'=some ⟨oc15,od15,.func (fnOf "refuse_not_open" "refuse_not_open" (fc jh) (dg jh) (aj jh) .none kV15 dc15 pm15 an15 cd15 ct15),sl15⟩) (c15:eX K cd15 "refuse_not_open" = true) (k15:dI K (.ref f15')=true)
  (a16:nsIn K aH "is_walkers" = some (some (.ref f16'))) (l16:K.lookup f16'=some ⟨oc16,od16,.func (fnOf "is_walkers" "is_walkers" (fc sy) (dg sy) (aj sy) .none kV16 dc16 pm16 an16 cd16 ct16),sl16⟩) (c16:eX K cd16 "is_walkers" = true) (k16:dI K (.ref f16')=true)
  (a17:nsIn K aH "refuse_no_walkers" = some (some (.ref f17'))) (l17:K.lookup f17'=some ⟨oc17,od17,.func (fnOf "refuse_no_walkers" "refuse_no_walkers" (fc ik) (dg ik) (aj ik) .none kV17 dc17 pm17 an17 cd17 ct17),sl17⟩) (c17:eX K cd17 "refuse_no_walkers" = true) (k17:dI K (.ref f17')=true)
  (a18:nsIn K aH "parts_of" = some (some (.ref f18'))) (l18:K.lookup f18'=some ⟨oc18,od18,.func (fnOf "parts_of" "parts_of" (fc xx) (dg xx) (aj xx) .none kV18 dc18 pm18 an18 cd18 ct18),sl18⟩) (c18:eX K cd18 "parts_of" = true) (k18:dI K (.ref f18')=true)
  (a19:nsIn K aH "shares" = some (some (.ref f19'))) (l19:K.lookup f19'=some ⟨oc19,od19,.func (fnOf "shares" "shares" (fc aan) (dg aan) (aj aan) .none kV19 dc19 pm19 an19 cd19 ct19),sl19⟩) (c19:eX K cd19 "shares" = true) (k19:dI K (.ref f19')=true)
  (a20:nsIn K aH "parts_sum" = some (some (.ref f20'))) (l20:K.lookup f20'=some ⟨oc20,od20,.func (fnOf "parts_sum" "parts_sum" (fc ut) (dg ut) (aj ut) .none kV20 dc20 pm20 an20 cd20 ct20),sl20⟩) (c20:eX K cd20 "parts_sum" = true) (k20:dI K (.ref f20')=true)
  (a21:nsIn K aH "share_of" = some (some (.ref f21'))) (l21:K.lookup f21'=some ⟨oc21,od21,.func (fnOf "share_of" "share_of" (fc ur) (dg ur) (aj ur) .none kV21 dc21 pm21 an21 cd21 ct21),sl21⟩) (c21:eX K cd21 "share_of" = true) (k21:dI K (.ref f21')=true)
  (a22:nsIn K aH "_law_cell" = some (some (.ref f22'))) (l22:K.lookup f22'=some ⟨oc22,od22,.func (fnOf "_law_cell" "_law_cell" (fc uy) (dg uy) (aj uy) .none kV22 dc22 pm22 an22 cd22 ct22),sl22⟩) (c22:eX K cd22 "_law_cell" = true) (k22:dI K (.ref f22')=true)
  (a23:nsIn K aH "_law_pen" = some (some (.ref f23'))) (l23:K.lookup f23'=some ⟨oc23,od23,.func (fnOf "_law_pen" "_law_pen" (fc yh) (dg yh) (aj yh) .none kV23 dc23 pm23 an23 cd23 ct23),sl23⟩) (c23:eX K cd23 "_law_pen" = true) (k23:dI K (.ref f23')=true)
  (a24:nsIn K aH "_law_draw" = some (some (.ref f24'))) (l24:K.lookup f24'=some ⟨oc24,od24,.func (fnOf "_law_draw" "_law_draw" (fc ux) (dg ux) (aj ux) .none kV24 dc24 pm24 an24 cd24 ct24),sl24⟩) (c24:eX K cd24 "_law_draw" = true) (k24:dI K (.ref f24')=true)
  (a25:nsIn K aH "_law_whole" = some (some (.ref f25'))) (l25:K.lookup f25'=some ⟨oc25,od25,.func (fnOf "_law_whole" "_law_whole" (fc pq) (dg pq) (aj pq) .none kV25 dc25 pm25 an25 cd25 ct25),sl25⟩) (c25:eX K cd25 "_law_whole" = true) (k25:dI K (.ref f25')=true)
  (a26:nsIn K aH "_law_odd" = some (some (.ref f26'))) (l26:K.lookup f26'=some ⟨oc26,od26,.func (fnOf "_law_odd" "_law_odd" (fc yj) (dg yj) (aj yj) .none kV26 dc26 pm26 an26 cd26 ct26),sl26⟩) (c26:eX K cd26 "_law_odd" = true) (k26:dI K (.ref f26')=true)
  (a27:nsIn K aH "_law_house" = some (some (.ref f27'))) (l27:K.lookup f27'=some ⟨oc27,od27,.func (fnOf "_law_house" "_law_house" (fc t7) (dg t7) (aj t7) .none kV27 dc27 pm27 an27 cd27 ct27),sl27⟩) (c27:eX K cd27 "_law_house" = true) (k27:dI K (.ref f27')=true)
  (a28:nsIn K aH "_law_reached" = some (some (.ref f28'))) (l28:K.lookup f28'=some ⟨oc28,od28,.func (fnOf "_law_reached" "_law_reached" (fc m8) (dg m8) (aj m8) .none kV28 dc28 pm28 an28 cd28 ct28),sl28⟩) (c28:eX K cd28 "_law_reached" = true) (k28:dI K (.ref f28')=true)
  (a29:nsIn K aH "_law_open" = some (some (.ref f29'))) (l29:K.lookup f29'=some ⟨oc29,od29,.func (fnOf "_law_open" "_law_open" (fc uw) (dg uw) (aj uw) .none kV29 dc29 pm29 an29 cd29 ct29),sl29⟩) (c29:eX K cd29 "_law_open" = true) (k29:dI K (.ref f29')=true)
  (a30:nsIn K aH "_law_kind" = some (some (.ref f30'))) (l30:K.lookup f30'=some ⟨oc30,od30,.func (fnOf "_law_kind" "_law_kind" (fc rz) (dg rz) (aj rz) .none kV30 dc30 pm30 an30 cd30 ct30),sl30⟩) (c30:eX K cd30 "_law_kind" = true) (k30:dI K (.ref f30')=true)
  (a31:nsIn K aH "_law_low" = some (some (.ref f31'))) (l31:K.lookup f31'=some ⟨oc31,od31,.func (fnOf "_law_low" "_law_low" (fc yl) (dg yl) (aj yl) .none kV31 dc31 pm31 an31 cd31 ct31),sl31⟩) (c31:eX K cd31 "_law_low" = true) (k31:dI K (.ref f31')=true)
  (a32:nsIn K aH "_law_sum" = some (some (.ref f32'))) (l32:K.lookup f32'=some ⟨oc32,od32,.func (fnOf "_law_sum" "_law_sum" (fc yg) (dg yg) (aj yg) .none kV32 dc32 pm32 an32 cd32 ct32),sl32⟩) (c32:eX K cd32 "_law_sum" = true) (k32:dI K (.ref f32')=true)
  (a33:nsIn K aH "_law_times" = some (some (.ref f33'))) (l33:K.lookup f33'=some ⟨oc33,od33,.func (fnOf "_law_times" "_law_times" (fc tu) (dg tu) (aj tu) .none kV33 dc33 pm33 an33 cd33 ct33),sl33⟩) (c33:eX K cd33 "_law_times" = true) (k33:dI K (.ref f33')=true)
  (a34:nsIn K aH "_law_solved" = some (some (.ref f34'))) (l34:K.lookup f34'=some ⟨oc34,od34,.func (fnOf "_law_solved" "_law_solved" (fc ql) (dg ql) (aj ql) .none kV34 dc34 pm34 an34 cd34 ct34),sl34⟩) (c34:eX K cd34 "_law_solved" = true) (k34:dI K (.ref f34')=true)
  (a35:nsIn K aH "_law_is_fraction" = some (some (.ref f35'))) (l35:K.lookup f35'=some ⟨oc35,od35,.func (fnOf "_law_is_fraction" "_law_is_fraction" (fc jn) (dg jn) (aj jn) .none kV35 dc35 pm35 an35 cd35 ct35),sl35⟩) (c35:eX K cd35 "_law_is_fraction" = true) (k35:dI K (.ref f35')=true)
  (a36:nsIn K aH "_law_told" = some (some (.ref f36'))) (l36:K.lookup f36'=some ⟨oc36,od36,.func (fnOf "_law_told" "_law_told" (fc uv) (dg uv) (aj uv) .none kV36 dc36 pm36 an36 cd36 ct36),sl36⟩) (c36:eX K cd36 "_law_told" = true) (k36:dI K (.ref f36')=true)
  (a37:nsIn K aH "_law_right" = some (some (.ref f37'))) (l37:K.lookup f37'=some ⟨oc37,od37,.func (fnOf "_law_right" "_law_right" (fc t6) (dg t6) (aj t6) .none kV37 dc37 pm37 an37 cd37 ct37),sl37⟩) (c37:eX K cd37 "_law_right" = true) (k37:dI K (.ref f37')=true)
  (a38:nsIn K aH "_law_refused" = some (some (.ref f38'))) (l38:K.lookup f38'=some ⟨oc38,od38,.func (fnOf "_law_refused" "_law_refused" (fc m7) (dg m7) (aj m7) .none kV38 dc38 pm38 an38 cd38 ct38),sl38⟩) (c38:eX K cd38 "_law_refused" = true) (k38:dI K (.ref f38')=true)
  (a39:nsIn K aH "law" = some (some (.ref f39'))) (l39:K.lookup f39'=some ⟨oc39,od39,.func (fnOf "law" "law" (fc ahu) (dg ahu) (aj ahu) .none kV39 dc39 pm39 an39 cd39 ct39),sl39⟩) (c39:eX K cd39 "law" = true) (k39:dI K (.ref f39')=true)
  (g_MOST_WALKERS:nsIn K aH "MOST_WALKERS" = some (some (.int 100 tk_MOST_WALKERS)))
  {fi_NotOpen:Addr} {ci0_NotOpen:Addr} {odi_NotOpen ani_NotOpen:Option Addr} {sli_NotOpen:Array (Option Value)} {oci_NotOpen kVi_NotOpen dci_NotOpen pmi_NotOpen cdi_NotOpen cti_NotOpen:Value} (aj_NotOpen:nsIn K aH "NotOpen" = some (some (.ref ci0_NotOpen))) (ai_NotOpen:lE K (.ref ci0_NotOpen) "__init__" = some (some (.ref fi_NotOpen))) (li_NotOpen:K.lookup fi_NotOpen=some ⟨oci_NotOpen,odi_NotOpen,.func (fnOf "__init__" "NotOpen.__init__" (fc xr) (dg xr) (aj xr) .none kVi_NotOpen dci_NotOpen pmi_NotOpen ani_NotOpen cdi_NotOpen cti_NotOpen),sli_NotOpen⟩) (ci_NotOpen:eX K cdi_NotOpen "NotOpen.__init__" = true) (ki_NotOpen:dI K (.ref fi_NotOpen)=true) (e_iNotOpen:ayy K ci0_NotOpen fi_NotOpen "room" = true)
  (e_nroom:azd K ["NotOpen"] "room" = true)
  (e_cls:anc K NS=true) (e_sub:ahp K NS=true) (e_rai:awf K ["ArrowError","NoArrows","NoRoom","NoWalkers","NotShut","NeverBack","NoTour","NoRow"]=true) (e_cat:catB K=true)
  (y_ValueError:nsIn K aH "ValueError" = some none)
  (y_abs:nsIn K aH "abs" = some none)
  (y_all:nsIn K aH "all" = some none)
  (y_bool:nsIn K aH "bool" = some none)
  (y_divmod:nsIn K aH "divmod" = some none)
  (y_enumerate:nsIn K aH "enumerate" = some none)
  (y_int:nsIn K aH "int" = some none)
  (y_isinstance:nsIn K aH "isinstance" = some none)
  (y_len:nsIn K aH "len" = some none)
  (y_list:nsIn K aH "list" = some none)
  (y_max:nsIn K aH "max" = some none)
  (y_min:nsIn K aH "min" = some none)
  (y_range:nsIn K aH "range" = some none)
  (y_set:nsIn K aH "set" = some none)
  (y_sorted:nsIn K aH "sorted" = some none)
  (y_tuple:nsIn K aH "tuple" = some none)
  (y_zip:nsIn K aH "zip" = some none)
  : ∃fd:eG,(∀(s:aF) (v:Value),nW s fd ⟨[v],[]⟩ [("script", v)])/\∀base:Heap,K.In base->base.Ns aH mg->FnOk l.prog w K mg base CX0 9 fa fd ["script"] (spOf K 1 asa):=by
 have e:=hfa.symm.trans (mg_of X G a39);cases e;have T:Txt K mg:=⟨⟨_,mg_of X G g_MOST_WALKERS⟩,fM X G y_ValueError,fM X G y_abs,fM X G y_all,fM X G y_bool,fM X G y_divmod,fM X G y_enumerate,fM X G y_int,fM X G y_isinstance,fM X G y_len,fM X G y_list,fM X G y_max,fM X G y_min,fM X G y_range,fM X G y_set,fM X G y_sorted,fM X G y_tuple,fM X G y_zip,e_sub,azp X G e_cat,su X G e_cls (by decide +kernel),su X G e_cls (by decide +kernel),su X G e_cls (by decide +kernel),su X G e_cls (by decide +kernel),su X G e_cls (by decide +kernel),su X G e_cls (by decide +kernel),su X G e_cls (by decide +kernel),su X G e_cls (by decide +kernel),su X G e_cls (by decide +kernel),su X G e_cls (by decide +kernel),su X G e_cls (by decide +kernel),su X G e_cls (by decide +kernel),su X G e_cls (by decide +kernel),aa9 X G e_cls (by decide +kernel) e_rai (by decide +kernel),aa9 X G e_cls (by decide +kernel) e_rai (by decide +kernel),aa9 X G e_cls (by decide +kernel) e_rai (by decide +kernel),aa9 X G e_cls (by decide +kernel) e_rai (by decide +kernel),aa9 X G e_cls (by decide +kernel) e_rai (by decide +kernel),aa9 X G e_cls (by decide +kernel) e_rai (by decide +kernel),aa9 X G e_cls (by decide +kernel) e_rai (by decide +kernel),aa9 X G e_cls (by decide +kernel) e_rai (by decide +kernel),avl X G e_cls (by decide +kernel) aj_NotOpen e_iNotOpen (ir (st:=xr) li_NotOpen ci_NotOpen ki_NotOpen),e_nroom⟩
 have F0:=ir (st:=yc) l0 c0 k0;have b0:=F0.binds (ps:=["thing"]) fun _ _ _ _ _ _ us hl=>by obtain⟨_,rfl⟩:=ln1 hl;rfl
 have F1:=ir (st:=jy) l1 c1 k1;have b1:=F1.binds (ps:=["thing","least","most"]) fun _ _ _ _ _ _ us hl=>by obtain⟨_,_,_,rfl⟩:=ln3 hl;rfl
 have F2:=ir (st:=jz) l2 c2 k2;have b2:=F2.binds (ps:=["thing","least","most"]) fun _ _ _ _ _ _ us hl=>by obtain⟨_,_,_,rfl⟩:=ln3 hl;rfl
 have F3:=ir (st:=xu) l3 c3 k3;have b3:=F3.binds (ps:=["rows","at"]) fun _ _ _ _ _ _ us hl=>by obtain⟨_,_,rfl⟩:=ln2 hl;rfl
 have F4:=ir (st:=aaa) l4 c4 k4;have b4:=F4.binds (ps:=["rows","one","other"]) fun _ _ _ _ _ _ us hl=>by obtain⟨_,_,_,rfl⟩:=ln3 hl;rfl
 have F5:=ir (st:=aab) l5 c5 k5;have b5:=F5.binds (ps:=["rows","at","bottom"]) fun _ _ _ _ _ _ us hl=>by obtain⟨_,_,_,rfl⟩:=ln3 hl;rfl
 have F6:=ir (st:=abr) l6 c6 k6;have b6:=F6.binds (ps:=["rows","right"]) fun _ _ _ _ _ _ us hl=>by obtain⟨_,_,rfl⟩:=ln2 hl;rfl
 have F7:=ir (st:=j6) l7 c7 k7;have b7:=F7.binds (ps:=["numbers"]) fun _ _ _ _ _ _ us hl=>by obtain⟨_,rfl⟩:=ln1 hl;rfl
 have F8:=ir (st:=m5) l8 c8 k8;have b8:=F8.binds (ps:=["house"]) fun _ _ _ _ _ _ us hl=>by obtain⟨_,rfl⟩:=ln1 hl;rfl
 have F9:=ir (st:=ye) l9 c9 k9;have b9:=F9.binds (ps:=["top","bottom"]) fun _ _ _ _ _ _ us hl=>by obtain⟨_,_,rfl⟩:=ln2 hl;rfl
 have F10:=ir (st:=ad2) l10 c10 k10;have b10:=F10.binds (ps:=["number"]) fun _ _ _ _ _ _ us hl=>by obtain⟨_,rfl⟩:=ln1 hl;rfl
 have F11:=ir (st:=ad3) l11 c11 k11;have b11:=F11.binds (ps:=["number","one"]) fun _ _ _ _ _ _ us hl=>by obtain⟨_,_,rfl⟩:=ln2 hl;rfl
 have F12:=ir (st:=ad4) l12 c12 k12;have b12:=F12.binds (ps:=["one","other"]) fun _ _ _ _ _ _ us hl=>by obtain⟨_,_,rfl⟩:=ln2 hl;rfl
 have F13:=ir (st:=abq) l13 c13 k13;have b13:=F13.binds (ps:=["many"]) fun _ _ _ _ _ _ us hl=>by obtain⟨_,rfl⟩:=ln1 hl;rfl
 have F14:=ir (st:=ag4) l14 c14 k14;have b14:=F14.binds (ps:=["house"]) fun _ _ _ _ _ _ us hl=>by obtain⟨_,rfl⟩:=ln1 hl;rfl
 have F15:=ir (st:=jh) l15 c15 k15;have b15:=F15.binds (ps:=["house"]) fun _ _ _ _ _ _ us hl=>by obtain⟨_,rfl⟩:=ln1 hl;rfl
 have F16:=ir (st:=sy) l16 c16 k16;have b16:=F16.binds (ps:=["house","thing","most"]) fun _ _ _ _ _ _ us hl=>by obtain⟨_,_,_,rfl⟩:=ln3 hl;rfl
 have F17:=ir (st:=ik) l17 c17 k17;have b17:=F17.binds (ps:=["house","thing"]) fun _ _ _ _ _ _ us hl=>by obtain⟨_,_,rfl⟩:=ln2 hl;rfl
 have F18:=ir (st:=xx) l18 c18 k18;have b18:=F18.binds (ps:=["house","gate"]) fun _ _ _ _ _ _ us hl=>by obtain⟨_,_,rfl⟩:=ln2 hl;rfl
 have F19:=ir (st:=aan) l19 c19 k19;have b19:=F19.binds (ps:=["house","gate"]) fun _ _ _ _ _ _ us hl=>by obtain⟨_,_,rfl⟩:=ln2 hl;rfl
 have F20:=ir (st:=ut) l20 c20 k20;have b20:=F20.binds (ps:=["parts","walkers"]) fun _ _ _ _ _ _ us hl=>by obtain⟨_,_,rfl⟩:=ln2 hl;rfl
 have F21:=ir (st:=ur) l21 c21 k21;have b21:=F21.binds (ps:=["house","gate","walkers"]) fun _ _ _ _ _ _ us hl=>by obtain⟨_,_,_,rfl⟩:=ln3 hl;rfl
 have F22:=ir (st:=uy) l22 c22 k22;have b22:=F22.binds (ps:=["script","k"]) fun _ _ _ _ _ _ us hl=>by obtain⟨_,_,rfl⟩:=ln2 hl;rfl
 have F23:=ir (st:=yh) l23 c23 k23;have b23:=F23.binds (ps:=["cell"]) fun _ _ _ _ _ _ us hl=>by obtain⟨_,rfl⟩:=ln1 hl;rfl
 have F24:=ir (st:=ux) l24 c24 k24;have b24:=F24.binds (ps:=["pen","many"]) fun _ _ _ _ _ _ us hl=>by obtain⟨_,_,rfl⟩:=ln2 hl;rfl
 have F25:=ir (st:=pq) l25 c25 k25;have b25:=F25.binds (ps:=["thing"]) fun _ _ _ _ _ _ us hl=>by obtain⟨_,rfl⟩:=ln1 hl;rfl
 have F26:=ir (st:=yj) l26 c26 k26;have b26:=F26.binds (ps:=["pen"]) fun _ _ _ _ _ _ us hl=>by obtain⟨_,rfl⟩:=ln1 hl;rfl
 have F27:=ir (st:=t7) l27 c27 k27;have b27:=F27.binds (ps:=["pen","most","doors"]) fun _ _ _ _ _ _ us hl=>by obtain⟨_,_,_,rfl⟩:=ln3 hl;rfl
 have F28:=ir (st:=m8) l28 c28 k28;have b28:=F28.binds (ps:=["house","room"]) fun _ _ _ _ _ _ us hl=>by obtain⟨_,_,rfl⟩:=ln2 hl;rfl
 have F29:=ir (st:=uw) l29 c29 k29;have b29:=F29.binds (ps:=["pen","most","doors"]) fun _ _ _ _ _ _ us hl=>by obtain⟨_,_,_,rfl⟩:=ln3 hl;rfl
 have F30:=ir (st:=rz) l30 c30 k30;have b30:=F30.binds (ps:=["e"]) fun _ _ _ _ _ _ us hl=>by obtain⟨_,rfl⟩:=ln1 hl;rfl
 have F31:=ir (st:=yl) l31 c31 k31;have b31:=F31.binds (ps:=["top","bottom"]) fun _ _ _ _ _ _ us hl=>by obtain⟨_,_,rfl⟩:=ln2 hl;rfl
 have F32:=ir (st:=yg) l32 c32 k32;have b32:=F32.binds (ps:=["some"]) fun _ _ _ _ _ _ us hl=>by obtain⟨_,rfl⟩:=ln1 hl;rfl
 have F33:=ir (st:=tu) l33 c33 k33;have b33:=F33.binds (ps:=["one","many"]) fun _ _ _ _ _ _ us hl=>by obtain⟨_,_,rfl⟩:=ln2 hl;rfl
 have F34:=ir (st:=ql) l34 c34 k34;have b34:=F34.binds (ps:=["house","gate"]) fun _ _ _ _ _ _ us hl=>by obtain⟨_,_,rfl⟩:=ln2 hl;rfl
 have F35:=ir (st:=jn) l35 c35 k35;have b35:=F35.binds (ps:=["thing"]) fun _ _ _ _ _ _ us hl=>by obtain⟨_,rfl⟩:=ln1 hl;rfl
 have F36:=ir (st:=uv) l36 c36 k36;have b36:=F36.binds (ps:=["house","gate","there"]) fun _ _ _ _ _ _ us hl=>by obtain⟨_,_,_,rfl⟩:=ln3 hl;rfl
 have F37:=ir (st:=t6) l37 c37 k37;have b37:=F37.binds (ps:=["house","gate","there"]) fun _ _ _ _ _ _ us hl=>by obtain⟨_,_,_,rfl⟩:=ln3 hl;rfl
 have F38:=ir (st:=m7) l38 c38 k38;have b38:=F38.binds (ps:=["house","gate","room"]) fun _ _ _ _ _ _ us hl=>by obtain⟨_,_,_,rfl⟩:=ln3 hl;rfl
 have F39:=ir (st:=ahu) l39 c39 k39;refine⟨fnOf "law" "law" (fc ahu) (dg ahu) (aj ahu) .none kV39 dc39 pm39 an39 cd39 ct39,fun s v=>.of_eq rfl,fun base _ _ =>?_⟩
 have d0:Dd0 l.prog w K mg base:=⟨f0',_,ak0 F0 T,mg_of X G a0,k0,b0⟩;have d1:Dd1 l.prog w K mg base:=⟨f1',_,adc F1 T d0,mg_of X G a1,k1,b1⟩;have d2:Dd2 l.prog w K mg base:=⟨f2',_,ade F2 T,mg_of X G a2,k2,b2⟩;have d3:Dd3 l.prog w K mg base:=⟨f3',_,aky F3 T,mg_of X G a3,k3,b3⟩;have d4:Dd4 l.prog w K mg base:=⟨f4',_,aop F4 T,mg_of X G a4,k4,b4⟩;have d5:Dd5 l.prog w K mg base:=⟨f5',_,aoq F5 T,mg_of X G a5,k5,b5⟩;have d6:Dd6 l.prog w K mg base:=⟨f6',_,aqx F6 T d3 d4 d5,mg_of X G a6,k6,b6⟩;have d7:Dd7 l.prog w K mg base:=⟨f7',_,ad7 F7 T,mg_of X G a7,k7,b7⟩;have d8:Dd8 l.prog w K mg base:=⟨f8',_,afy F8 T,mg_of X G a8,k8,b8⟩;have d9:Dd9 l.prog w K mg base:=⟨f9',_,ak1 F9 T d7,mg_of X G a9,k9,b9⟩;have d10:Dd10 l.prog w K mg base:=⟨f10',_,aut F10 T,mg_of X G a10,k10,b10⟩;have d11:Dd11 l.prog w K mg base:=⟨f11',_,auu F11 T d9,mg_of X G a11,k11,b11⟩;have d12:Dd12 l.prog w K mg base:=⟨f12',_,auv F12 T d9,mg_of X G a12,k12,b12⟩;have d13:Dd13 l.prog w K mg base:=⟨f13',_,aqw F13 T d10 d12,mg_of X G a13,k13,b13⟩;have d14:Dd14 l.prog w K mg base:=⟨f14',_,aye F14 T,mg_of X G a14,k14,b14⟩;have d15:Dd15 l.prog w K mg base:=⟨f15',_,adb F15 T d14,mg_of X G a15,k15,b15⟩;have x15:Dx15 l.prog w K mg base:=⟨f15',_,ach F15 T d14,mg_of X G a15,k15,b15⟩;have d16:Dd16 l.prog w K mg base:=⟨f16',_,ahz F16 T d2 d1,mg_of X G a16,k16,b16⟩;have d17:Dd17 l.prog w K mg base:=⟨f17',_,ab2 F17 T d16,mg_of X G a17,k17,b17⟩;have x17:Dx17 l.prog w K mg base:=⟨f17',_,aba F17 T d16,mg_of X G a17,k17,b17⟩;have d18:Dd18 l.prog w K mg base:=⟨f18',_,akz F18 T d8 d6 d9,mg_of X G a18,k18,b18⟩;have d19:Dd19 l.prog w K mg base:=⟨f19',_,aqy F19 T d15 d18 x15,mg_of X G a19,k19,b19⟩;have x19:Dx19 l.prog w K mg base:=⟨f19',_,aoo F19 T d15 d18 x15,mg_of X G a19,k19,b19⟩;have d20:Dd20 l.prog w K mg base:=⟨f20',_,ai6 F20 T d11 d13,mg_of X G a20,k20,b20⟩;have d21:Dd21 l.prog w K mg base:=⟨f21',_,akx F21 T d17 d15 d18 d20 x17 x15,mg_of X G a21,k21,b21⟩;have x21:Dx21 l.prog w K mg base:=⟨f21',_,ai5 F21 T d17 d15 d18 d20 x17 x15,mg_of X G a21,k21,b21⟩;have d22:Dd22 l.prog w K mg base:=⟨f22',_,ajb F22 T,mg_of X G a22,k22,b22⟩;have d23:Dd23 l.prog w K mg base:=⟨f23',_,ak3 F23 T,mg_of X G a23,k23,b23⟩;have d24:Dd24 l.prog w K mg base:=⟨f24',_,aja F24 T,mg_of X G a24,k24,b24⟩;have u25:Du25 l.prog w K mg base:=⟨f25',_,agv F25 T,mg_of X G a25,k25,b25⟩;have d25:Dd25 l.prog w K mg base:=⟨f25',_,ah0 F25 T,mg_of X G a25,k25,b25⟩;have d26:Dd26 l.prog w K mg base:=⟨f26',_,ak4 F26 T d24,mg_of X G a26,k26,b26⟩;have d27:Dd27 l.prog w K mg base:=⟨f27',_,ah3 F27 T d24,mg_of X G a27,k27,b27⟩;have d28:Dd28 l.prog w K mg base:=⟨f28',_,af0 F28 T,mg_of X G a28,k28,b28⟩;have d29:Dd29 l.prog w K mg base:=⟨f29',_,ai8 F29 T d27 d28 d24,mg_of X G a29,k29,b29⟩;have u30:Du30 l.prog w K mg base:=⟨f30',_,ahy F30 T,mg_of X G a30,k30,b30⟩;have d30:Dfn l.prog w K mg base _ _ _ _:=⟨f30',_,ai9 (P:=l.prog) (w:=w) (base:=base) F30 T,mg_of X G a30,k30,b30⟩;have d31:Dd31 l.prog w K mg base:=⟨f31',_,ak5 F31 T,mg_of X G a31,k31,b31⟩;have d32:Dd32 l.prog w K mg base:=⟨f32',_,ak2 F32 T d31,mg_of X G a32,k32,b32⟩;have d33:Dd33 l.prog w K mg base:=⟨f33',_,ah1 F33 T d31,mg_of X G a33,k33,b33⟩;have d34:Dd34 l.prog w K mg base:=⟨f34',_,agw F34 T d31 d32,mg_of X G a34,k34,b34⟩;have d35:Dd35 l.prog w K mg base:=⟨f35',_,aci F35 T d25 d31,mg_of X G a35,k35,b35⟩;have d36:Dd36 l.prog w K mg base:=⟨f36',_,ai7 F36 T d21 x21 u30 u25,mg_of X G a36,k36,b36⟩;have d37:Dd37 l.prog w K mg base:=⟨f37',_,ah2 F37 T d34 d33 d32 d36 d35,mg_of X G a37,k37,b37⟩;have d38:Dd38 l.prog w K mg base:=⟨f38',_,afz F38 T d19 x19 u30 u25,mg_of X G a38,k38,b38⟩;exact a1k F39 T d37 d22 d23 d29 d24 d27 d28 d36 d26 d38
end My
namespace PySem.W.Fast
def tw14982857253208213632:Unit:=()
def tw1153915948718831808:Unit:=()
def tw2127175115654299904:Unit:=()
def tw7998804523842070912:Unit:=()
def tw13538332959264727584:Unit:=()
def tw5220208827390782721:Unit:=()
def tw9592041648341663233:Unit:=()
def tw1695185037254304545:Unit:=()
def tw4979197549611632417:Unit:=()
def tw1578253137872908354:Unit:=()
def tw10379105646393814754:Unit:=()
def tw4738088807081320900:Unit:=()
def tw14624627473741906660:Unit:=()
def tw8144907940168821572:Unit:=()
def tw17444313469718489157:Unit:=()
def tw324243518532139141:Unit:=()
def tw8682172456932907813:Unit:=()
def tw10768740564996045894:Unit:=()
def tw12118443273378006342:Unit:=()
def tw8014587836764120550:Unit:=()
def tw3615227812427711206:Unit:=()
def tw2149699438025485222:Unit:=()
def tw2129583071989305031:Unit:=()
def tw9161441403256550119:Unit:=()
def tw7128386685332386216:Unit:=()
def tw267724703800869576:Unit:=()
def tw17854904778644111176:Unit:=()
def tw14026520792894569320:Unit:=()
def tw17966444181680480393:Unit:=()
def tw10465452158104525129:Unit:=()
def tw6443103532343942633:Unit:=()
def tw3520821640739029674:Unit:=()
def tw566905708775898283:Unit:=()
def tw4954285487168713099:Unit:=()
def tw5820721020767010092:Unit:=()
def tw10679149615362520844:Unit:=()
def tw14770805615372417038:Unit:=()
def tw7008512746409994350:Unit:=()
def tw15944672461804555630:Unit:=()
def tw7027564081000878574:Unit:=()
def tw11250476976647822030:Unit:=()
def tw827148581379655470:Unit:=()
def tw18225525043772217743:Unit:=()
def tw4338570453182114543:Unit:=()
def tw16832966794844548911:Unit:=()
def tw8975823184964597264:Unit:=()
def tw17463004240800998064:Unit:=()
def tw12266891158111497969:Unit:=()
def tw17293374245563758385:Unit:=()
def tw5762828829366942545:Unit:=()
def tw11891424021259277586:Unit:=()
def tw12808339880670618066:Unit:=()
def tw5975665171427198612:Unit:=()
def tw4593730381261479796:Unit:=()
def tw17503499833496732693:Unit:=()
def tw18353147491696803925:Unit:=()
def tw18320295979110156053:Unit:=()
def tw1808181466817335350:Unit:=()
def tw8700818900582795798:Unit:=()
def tw9334930246952487510:Unit:=()
def tw5110748779736832279:Unit:=()
def tw4048039325311025815:Unit:=()
def tw6925187397201935063:Unit:=()
def tw17553473548223293335:Unit:=()
def tw6585537030572524056:Unit:=()
def tw2891287680703114840:Unit:=()
def tw7907920470919009305:Unit:=()
def tw14185252286317854073:Unit:=()
def tw12723539883838060985:Unit:=()
def tw44228345720596985:Unit:=()
def tw9197487254325383833:Unit:=()
def tw10785103346334501307:Unit:=()
def tw7480624747233526236:Unit:=()
def tw13718590029819570812:Unit:=()
def tw858563999986310173:Unit:=()
def tw5975299887260822365:Unit:=()
def tw15122610152443618846:Unit:=()
def tw9509891122001326847:Unit:=()
def tw8331729670529908350:Unit:=()
end PySem.W.Fast
open PySem PySem.W PyProof.Rows
set_option maxRecDepth 100000 in
set_option maxHeartbeats 0 in
theorem PySem.Challenge.cw_turnarrows_k53_shares_of_walkers_holds : PySem.Challenge.rw_turnarrows_k53_shares_of_walkers.Holds := by
 w_on;o_law;k_head;(case hw=>w_witness2)
 k_fill
 refine Dn.walk (l:=PySem.Challenge.rw_turnarrows_k53_shares_of_walkers) (f:=My.asa) (k:=9) My.ava rfl rfl ⟨rfl,by decide,by decide,rfl⟩ (fun w h Y=>PySem.W.kIn_of Y) ?F
 case F =>
  intro w mg fa h KX G hmg;refine' My.a3q KX G hmg ?_ ?_ ?_ ?_ ?_ ?_ ?_ ?_ ?_ ?_ ?_ ?_ ?_ ?_ ?_ ?_ ?_ ?_ ?_ ?_ ?_ ?_ ?_ ?_ ?_ ?_ ?_ ?_ ?_ ?_ ?_ ?_ ?_ ?_ ?_ ?_ ?_ ?_ ?_ ?_ ?_ ?_ ?_ ?_ ?_ ?_ ?_ ?_ ?_ ?_ ?_ ?_ ?_ ?_ ?_ ?_ ?_ ?_ ?_ ?_ ?_ ?_ ?_ ?_ ?_ ?_ ?_ ?_ ?_ ?_ ?_ ?_ ?_ ?_ ?_ ?_ ?_ ?_ ?_ ?_ ?_ ?_ ?_ ?_ ?_ ?_ ?_ ?_ ?_ ?_ ?_ ?_ ?_ ?_ ?_ ?_ ?_ ?_ ?_ ?_ ?_ ?_ ?_ ?_ ?_ ?_ ?_ ?_ ?_ ?_ ?_ ?_ ?_ ?_ ?_ ?_ ?_ ?_ ?_ ?_ ?_ ?_ ?_ ?_ ?_ ?_ ?_ ?_ ?_ ?_ ?_ ?_ ?_ ?_ ?_ ?_ ?_ ?_ ?_ ?_ ?_ ?_ ?_ ?_ ?_ ?_ ?_ ?_ ?_ ?_ ?_ ?_ ?_ ?_ ?_ ?_ ?_ ?_ ?_ ?_ ?_ ?_ ?_ ?_ ?_ ?_ ?_ ?_ ?_ ?_ ?_ ?_ ?_ ?_ ?_ ?_ ?_ ?_ ?_ ?_ ?_ ?_ ?_ ?_ ?_ ?_ ?_ ?_ ?_
  any_goals k_is
  all_goals kernel_rfl
