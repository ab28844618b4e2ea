import PyProof.Rows.All
import Wide.All
import OpenK.AllK
import Wide.FinOn
import Lean
import PyProof.EqAt
import PyProof.EqKinds
import PyProof.TupleCall
import PySem.Challenge.RW_turnarrows_k25_rounds_walked
set_option Elab.async false
set_option linter.all false
set_option maxRecDepth 100000
open Option renaming some->ZY,none->ZX
open Bool renaming true->ZW,false->ZV
open Array renaming length_toList->jF,perm_iff_toList_perm->mV,forIn_toList->pX,toList->uR,getElem?_toList->uT,getD->wJ
open Bool renaming and_eq_true->bL,false_ne_true->dG,false_eq_true->fJ,not_true->oG,and_self->uA,or_eq_false_iff->uU,false_and->xV,and_true->yF
open Classical renaming byContradiction->bR
open False renaming elim->iU
open ForInStep renaming yield->xK
open Function renaming comp_def->nW
open Int renaming toNat_natCast->bZ,mul_left_comm->cQ,mul_comm->dD,eq_of_mul_eq_mul_left->dW,emod_eq_of_lt->eU,zero_mul->fL,mul_zero->fM,mul_assoc->fW,mul_add->gD,emod_lt_of_pos->iI,natCast_mul->iT,pow_succ->iY,add_zero->iZ,mul_neg->jD,natCast_add->jN,one_mul->jX,lt_or_le->lQ,pow_ne_zero->mK,neg_mul->mL,mul_sub->mO,emod_nonneg->mQ,add_emod_right->mY,mul_eq_zero->pD,mul_le_mul_of_nonneg_right->qQ,add_mul_emod_self_right->rQ,add_mul->rR,fmod_eq_emod_of_nonneg->rZ,fdiv_eq_ediv_of_nonneg->sE,eq_ofNat_of_zero_le->tY,zero_add->uM,toNat->uN,sub_zero->uO,le_trans->uP,le_refl->vD,emod_add_emod->wD,mul_neg_one->xJ
open List renaming mem_cons_of_mem->aA,getElem?_eq_getElem->aC,mem_cons_self->aF,map_cons->aG,range->aJ,length_map->aK,getD_eq_getElem?_getD->aL,getElem?_map->aN,replicate->aP,getElem?_eq_some_iff->aQ,size_toArray->aU,length_cons->aX,nil_append->aZ,set->bB,getElem?_set->bC,map_append->bD,getElem?_append_left->bF,mem_cons->bG,sum_cons->bH,getElem?_eq_none->bI,mem_map->bJ,getElem?_range->bM,lookup->bN,append_assoc->bV,length_set->bW,mem_singleton->bY,mem_range->cD,mem_append_right->cF,lookup_cons_self->cI,map_map->cL,mem_append->cN,length_append->cP,mem_of_getElem?->cR,pairwise_cons->cV,cons_append->cW,all_eq_true->cX,map_congr_left->cY,mem_filter->dF,getElem?_append_right->dI,getElem_mem->dO,ext_getElem?->dU,foldl_cons->eF,nodup_cons->eY,range_succ->fZ,mem_append_left->gF,getElem?_replicate->gG,replicate_succ->gQ,set_cons_zero->iD,set_cons_succ->iG,getElem?_set_ne->iK,length_zipWith->jB,getElem?_cons_succ->jC,length_take->jJ,length_replicate->jL,count_cons->jM,flatten_cons->jP,mem_iff_getElem->jR,filterMap_cons->jW,getElem?_take_of_lt->kO,findIdx?_eq_some_iff_getElem->lB,append_of_mem->lC,append_nil->lD,all_cons->lE,length_filter_le->lO,foldl->lZ,length_pos_iff->mG,find?_cons->mH,pairwise_map->nP,nodup_append->nQ,idxOf_lt_length_iff->nT,count_append->nU,not_mem_nil->oK,nodup_range->oM,length_drop->oN,take_of_length_le->oU,pairwise_lt_range->oV,getElem?_set_self->oW,getElem?_zipWith->pC,getElem?_mapIdx->pG,count_eq_zero->pW,length_range->qL,toArray->qN,map_id'->qO,take_length->qW,mem_flatMap->qX,countP_cons->qY,of_mem_zip->rM,forIn_cons->rN,filter_map->rO,mem_of_find?_eq_some->sS,forIn_nil->sU,findIdx?_eq_none_iff->sV,drop_eq_getElem_cons->sW,Pairwise.imp_of_mem->tD,findIdx?->tV,any_cons->tW,drop_eq_nil_of_le->uE,map_nil->uL,length->vA,filter_sublist->vB,mem_filterMap->vL,length_mapIdx->vM,getElem_idxOf->vN,take_add_one->vZ,length_erase->wA,getElem?_inj->wB,Pairwise.nil->wC,zipIdx_cons->wN,perm_middle->wO,filter_cons->wQ,zipIdx_nil->wZ,find?_some->xF,cons.injEq->xG,perm_cons->xQ,nodup_nil->xT,drop_zero->xU,zip->xY,map_take->xZ,map_drop->yC
open Nat renaming le_refl->aM,ne_of_lt->bQ,lt_of_lt_of_le->cC,zero_add->cJ,le_trans->dC,zero_le->fG,le_succ->gP,succ_mul->gY,mul_comm->iB,lt_or_ge->iW,lt_succ_self->jH,lt_irrefl->jO,lt_trans->kJ,le_of_lt->lN,pow_le_pow_right->lX,gcd->mF,le_mul_of_pos_right->oF,zero_mul->pA,ne_of_gt->pB,eq_zero_or_pos->pQ,add_sub_cancel->pR,add_assoc->pU,not_lt->qJ,lt_succ_of_lt->qK,succ_le_succ->qU,not_lt_zero->rJ,div_add_mod->rK,mul_assoc->tR,sub_zero->uJ,le_of_eq->uK,one_mul->uY,mul_le_mul_left->uZ,lt_of_le_of_lt->vJ,gcd_zero_right->vK,mul_left_comm->vW,mod_lt->vX,le_succ_of_le->vY,strongRecOn->wX,min_eq_left->wY
open Ne renaming symm->gR
open Option renaming some.inj->bO,bind_some->cB,map_eq_some_iff->cZ,isNone_iff_eq_none->sO,isSome_iff_exists->sZ,map_eq_none_iff->uD,getD_none->wM
open Or renaming inl->bU,inr->pJ
open Prod renaming ext->tQ
open PyProof renaming Rows.slot_tuple_getitem->eQ,Rows.callWith_type1->gM,Rows.seqObj->jK,Rows.IntsAre->jT,Rows.envOfC->oH,Rows.AllBare->pN,Rows.IntsAre.allInts->rB,Rows.sortedAll_old->rY,Rows.sortedAll_at->sJ,Rows.LSm.kept_iter->tX,Rows.IsTup->vC
open PySem renaming wpAny_bind->aB,Heap.get?_push_of_some->aD,Value->aH,Shared->aO,wpAny_pure->aR,Heap.lt_size->aV,Heap.get?_push_size->aW,Addr->aY,starEach->bA,mainGlobals->bK,wpAny->bT,model->cA,Program->cG,PassesOwn.never->cH,bootBuiltins->cM,sizeLine->cO,wpAny_mono->cU,Heap.size_push->dB,Expr->dH,NameKind.free->dJ,Value.ref->dN,F.type_list_append->dX,F.slot_list_append->dY,World->dZ,W.kia_one->eE,Around->eG,wpAny_newObj_type->eH,sizeLine_eq->eV,assignEach->eX,foldedSetIterable->fB,compareOp->fD,Heap->fH,Value.none->fK,binaryOp->fO,wpAny_truthy_bool->fP,wpAny_field->fQ,Obj.mapSeq->fU,wpAny_holding->fV,Builtin.Tuple.tupleHashOf->fX,swapsWith->fY,Heap.SameBut->gA,FuncData->gB,wpAny_call_entry->gC,W.mg_none_of->gH,W.emptyDict->gJ,mem_of_lookup->gK,Stmt->gU,behindInMarks->gW,NameKind.cell->iC,wpAny_seqItems->iJ,W.instObj->iM,PyData.int->iQ,Builtin.Tuple.tupleExact->iV,attributeBase->jA,backTo->jG,F.slot_tuple_iterator_next->jQ,Builtin.Slice.slicePlaces->jU,Scope->jV,tupleKeyHash->jY,call_meets->jZ,PyData.eqv->kI,holding->kW,W.findIn->kY,Value.builtin->kZ,F.slot_int_rmul->lF,assign->lG,W.hasDictIn->lJ,intItems->lK,W.isFn->lM,Heap.get?_update_self->lU,W.plainGet->lV,Builtin->lW,closureFor->lY,W.keepIn->mC,intKind->mD,W.KasT.kasWp_bind->mJ,Heap.SameBut.update->mR,Builtin.Tuple.tupleItemsOf->mU,Str.ofString->mW,Operator->mX,W.InstAt->mZ,Builtin.Slice.sliceAdjust->nD,cellsFrom->nF,Value.type->nG,W.specialIn->nM,F.args_tuple_add_2->nO,F.slot_tuple_hash->nY,AutoSeq1.wpAny_loadPart'->nZ,F.plainAttrs_list->oA,F.entry_tuple_add->oE,W.any_some->oJ,F.slot_tuple_mul->oO,F.slot_tuple_add->oR,Value.int->oX,W.makesIn->oY,W.findObj->oZ,W.looks_findIn->pF,W.lookIn->pH,W.kitOne->pI,argBest->pK,W.plainGet_of->pL,Keyword->pM,W.callWith_K->pO,PassesOwn->pP,getItem->pY,codeAny->pZ,callerA->qC,Value.bool->qD,W.plainOver->qG,W.methodObj->qH,W.kitx_list->qI,F.args_int_rmul_2->qM,IsPart->qP,Code.isFrame->qR,Around.under->qT,F.slot_int_index->qZ,F.entry_int_rmul->rA,F.args_tuple_iterator_next_1->rC,Builtin.divisionGoesByPylong->rD,W.takesIn->rF,W.takerIn->rG,W.OpenLaw->rH,IsZip->rP,F.fills_int_mul->rT,F.entry_tuple_iterator_next->rW,Calls.Name_function_global->sG,Builtin.Tuple.tupleTooMany->sH,Builtin.Slice.sliceApplied->sI,Calls.call_function_entry->sX,F.slot_tuple_count->sY,Builtin.List.listTooLong->tE,W.subIn->tG,W.mroIn->tH,W.clsIn->tK,F.slot_list_index->tL,F.slot_list_count->tM,F.attr_ValueError->tO,NameKind->tU,CmpOp->tZ,W.cellsFrom_some->uB,SeqAt.eqAt_reads->uC,Heap.get?_update_other->uF,Value.str->uG,Within->uH,PyData.tuple->uI,Flow.next->uQ,Value.float->uV,Shared.heap->uW,nums_intItems->uX,Heap.get?_update_ne->vG,Code.frames->vH,Obj.data_mapFields->vI,F.args_tuple_mul_2->vO,Value.isInt_shape->vP,Reads->vQ,call->vR,W.kitx_dict->vU,PyData.canLayAll0->vV,Heap.get?_push_ne->wF,Heap.SameBut.refl->wG,F.slot_tuple_rmul->wH,F.entry_tuple_mul->wI,seqSlot_of->wK,W.handedIn->wL,preSum_eq->wR,W.kitMeta->wU,PyData.depthAll->wV,Paired->wW,F.slot_zip_next->xM,F.slot_tuple_eq->xN,Code.isCreation->xO,W.notCls->xP,W.WalkO->xW,PyData.eqvAll->xX,Code.isCaller->yD,CmpOf.ints_lt->yE
open Sum renaming inl->qF,inr->rE
open True renaming intro->nJ
noncomputable section
open PySem.W (nsIn mg_of keepIn fnOf codeIn findIn mg_none_of)
abbrev Fg9:=PySem.W.Frag
abbrev LL9:=List (List Int)
section
open PySem PySem.Spec PyProof.Rows
namespace L2
abbrev Key:=Sum Int Str
def a76:Key->aH->Bool
 | .inl k,v=>Value.isInt k v
 | .inr x,v=>Value.isStrOf x v
noncomputable def keyH(w:dZ):Key->Int
 | .inl k=>hashInt k
 | .inr x=>hashStr w x
theorem jy:∀{k:Key} {v:aH},a76 k v=ZW->(∃i t,k=qF i/\v=oX i t)∨(∃x t,k=rE x/\v=uG x t)
 | .inl i,v,h=>by
  obtain⟨t,e⟩:=vP (k:=i) (v:=v) h;exact .inl ⟨i,t,rfl,e⟩
 | .inr x,v,h=>by
  obtain⟨t,e⟩:=Value.isStrOf_shape (x:=x) (v:=v) h;exact .inr ⟨x,t,rfl,e⟩
theorem a75(a b:Int):decide ((qF a:Key)=qF b)=(a==b):=by
 by_cases e:a=b
 ·subst e;simp
 ·have h:¬(qF a:Key)=qF b:=λq=>e (Sum.inl.inj q)
  rw[decide_eq_false h];exact(beq_eq_false_iff_ne.mpr e).symm
theorem a72(a b:Str):decide ((rE a:Key)=rE b)=decide (a=b):=by
 by_cases e:a=b
 ·subst e;simp
 ·have h:¬(rE a:Key)=rE b:=λq=>e (Sum.inr.inj q)
  rw[decide_eq_false h,decide_eq_false e]
theorem a74(a:Int)(b:Str):decide ((qF a:Key)=rE b)=ZV:=decide_eq_false (λq=>nomatch q)
theorem a73(a:Str)(b:Int):decide ((rE a:Key)=qF b)=ZV:=decide_eq_false (λq=>nomatch q)
def auy(prog:cG)(w:dZ):PySem.KeyKind prog w Key where
 is:=a76
 hash:=keyH w
 inj:=λv a b ha hb=>by
  rcases jy ha with⟨i,t,rfl,rfl⟩ | ⟨x,t,rfl,rfl⟩
  ·rcases jy hb with⟨j,u,rfl,e⟩ | ⟨y,u,rfl,e⟩
   ·injection e with e1 _;rw[e1]
   ·exact nomatch e
  ·rcases jy hb with⟨j,u,rfl,e⟩ | ⟨y,u,rfl,e⟩
   ·exact nomatch e
   ·injection e with e1 _;rw[e1]
 byValue:=λk v h=>by
  rcases jy h with⟨i,t,rfl,rfl⟩ | ⟨x,t,rfl,rfl⟩ <;> rfl
 pyHash:=λhv h=>by
  rcases jy hv with⟨i,t,rfl,rfl⟩ | ⟨x,t,rfl,rfl⟩
  ·exact wpAny_pyHash_int h
  ·exact wpAny_pyHash_str h
 eqBool:=λhu hv h=>by
  rcases jy hu with⟨i,t,rfl,rfl⟩ | ⟨x,t,rfl,rfl⟩
  ·rcases jy hv with⟨j,u,rfl,rfl⟩ | ⟨y,u,rfl,rfl⟩
   ·rw[a75] at h;exact wpAny_eqBool_int h
   ·rw[a74] at h;exact SeqAt.EqAt.int_str i t y u _ _ _ _ h
  ·rcases jy hv with⟨j,u,rfl,rfl⟩ | ⟨y,u,rfl,rfl⟩
   ·rw[a73] at h;exact SeqAt.EqAt.str_int x t j u _ _ _ _ h
   ·rw[a72] at h;exact wpAny_eqBool_str h
 «strs» := λk x t v h=>by
  rcases jy h with⟨i,u,rfl,e⟩ | ⟨y,u,rfl,e⟩
  ·exact nomatch e
  ·injection e with e1 _
   subst e1;cases v <;> rfl
def IsTp(h:fH)(a:aY)(items:Array aH):Prop:=∃o,h.get? a=ZY o/\o.cls=.type "tuple" /\ o.dict=ZX/\∃n,o.data=.seq items n
theorem IsTp.tup{h:fH}{a:aY}{items:Array aH}(x:IsTp h a items):vC h a items:=let ⟨o,e,c,_,n,d⟩:=x;⟨o,e,c,n,d⟩
theorem IsTp.new(h:fH)(items:Array aH):IsTp (h.push { cls:=.type "tuple", data:=.seq items }) h.objs.size items:=⟨_,aW _ rfl,rfl,rfl,_,rfl⟩
inductive V where
 | non | bl (b:Bool) | int (i:Int) | str (x:Str) | byt (b:Array UInt8) | flt (b:UInt64) | ref (a:aY) | ty (n:String)
 deriving DecidableEq
noncomputable def RelV:V->aH->Prop
 | .non,u=>u=fK
 | .bl b,u=>u=qD b
 | .int i,u=>∃t,u=oX i t
 | .str x,u=>∃t,u=uG x t
 | .byt b,u=>∃t,u=Value.bytes b t
 | .flt b,u=>∃t,u=uV b t
 | .ref a,u=>u=dN a
 | .ty n,u=>u=nG n
abbrev Vals:List V->List aH->Prop:=wW RelV
theorem Vals.length{xs:List V}{us:List aH}(r:Vals xs us):xs.length=us.length:=Paired.length r
theorem Vals.get:∀{xs:List V} {us:List aH} {i:Nat} {x:V},Vals xs us->xs[i]? = ZY x->∃u,us[i]? = ZY u/\RelV x u
 | _,_,_,_,.nil,e=>by simp at e
 | _,_,0,_,.cons r _,e=>by simp at e;subst e;exact⟨_,rfl,r⟩
 | _,_,i+1,x,.cons _ t,e=>by
  obtain⟨u,h1,h2⟩:=Vals.get (i:=i) (x:=x) t (by simpa using e)
  exact⟨u,by simpa using h1,h2⟩
theorem Vals.set{x:V}{u:aH}(r:RelV x u):∀{xs:List V} {us:List aH} (i:Nat),Vals xs us->Vals (xs.set i x) (us.set i u)
 | _,_,_,.nil=>.nil
 | _,_,0,.cons _ t=>.cons r t
 | _,_,i+1,.cons q t=>.cons q (Vals.set r i t)
theorem Vals.append:∀{xs ys:List V} {us ws:List aH},Vals xs us->Vals ys ws->Vals (xs++ys) (us++ws)
 | _,_,_,_,.nil,s=>s
 | _,_,_,_,.cons r t,s=>.cons r (Vals.append t s)
theorem Vals.take:∀{xs:List V} {us:List aH} (n:Nat),Vals xs us->Vals (xs.take n) (us.take n)
 | _,_,0,_=>.nil
 | _,_,_+1,.nil=>.nil
 | _,_,n+1,.cons r t=>.cons r (Vals.take n t)
theorem Vals.drop:∀{xs:List V} {us:List aH} (n:Nat),Vals xs us->Vals (xs.drop n) (us.drop n)
 | _,_,0,r=>r
 | _,_,_+1,.nil=>.nil
 | _,_,n+1,.cons _ t=>Vals.drop n t
def RelO:Option V->Option aH->Prop
 | some v,ZY u=>RelV v u
 | none,ZX=>True
 | _,_=>False
def KV{κ:Type}:List (κ×V)->List (κ×Value)->Prop:=wW λ(p:κ×V) (q:κ×Value)=>p.1=q.1/\RelV p.2 q.2
noncomputable def kV:Key->V
 | .inl i=>.int i
 | .inr x=>.str x
inductive HO where
 | lst (xs:List V)
 | tup (xs:List V)
 | dK (kvs:List (Key×V)) | dT (kvs:List (List Key×V))
 | set (S:Int->Bool) (n:Nat)
 | ins (C dx:aY) (fs:List (Str×V))
 | own (x:aY)
 | xd (fs:List (Str×V))
 | met (f x:aY)
 | rng (lo hi:Int)
 | frz (o:Obj) (u:HO)
 | tbl (ps:Array aH)
 | ext (φ:fH->Prop)
abbrev Hp:=aY->Option HO
noncomputable def upd(H:Hp)(a:aY)(o:HO):Hp:=λb=>if b=a then ZY o else H b
theorem di{H:Hp}{a:aY}{o:HO}:upd H a o a=ZY o:=by unfold upd;rw[if_pos rfl]
theorem bf{H:Hp}{a b:aY}{o:HO}(h:b≠a):upd H a o b=H b:=by unfold upd;rw[if_neg h]
theorem gj{H:Hp}{a b:aY}{o:HO}(h:H a=ZY o)(h':H b=ZX):a≠b:=by
 intro e;subst e;rw[h] at h';cases h'
section
variable(P:cG)(w:dZ)
def yx(H:Hp)(h:fH)(a:aY):HO->Prop
 | .lst xs=>xs.length<=cO/\∃(its:List aH) (n:Nat),Vals xs its/\h.get? a=ZY { cls:=.type "list", data:=.seq its.toArray n }
 | .tup xs=>xs.length<=cO/\∃its:List aH,Vals xs its/\IsTp h a its.toArray
 | .dK kvs=>kvs.length<=cO/\(a==sysModules)=ZV/\∃vs,KV kvs vs/\h.DictOf (auy P w) a vs
 | .dT kvs=>kvs.length<=cO/\(a==sysModules)=ZV/\∃xs:List (List Key×Addr×Value),
   wW (λ(p:List Key×V) (q:List Key×Addr×Value)=>p.1=q.1/\H q.2.1=ZY (.tup (p.1.map kV))/\RelV p.2 q.2.2) kvs xs /\
   ∃o es ep,h.get? a=ZY o/\o.ExactDict/\o.data=.dict es ep/\es.toList=xs.map (entryOfKey (tupleKind (auy P w)))/\(xs.map (·.1)).Nodup
 | .set S n=>h.SetOf (mD P w) a S n
 | .ins C dx fs=>H dx=ZY (.own a)/\fs.length<=1000/\dx≠a/\h.get? a=ZY (iM C dx) /\
   ∃mA,h.Ns1 dx mA/\(∀f,RelO (fs.lookup f) (mA f))/\uH mA (fs.map (·.1))
 | .own _=>∃o,h.get? a=ZY o
 | .xd fs=>∃mA,h.Ns1 a mA/\∀f,RelO (fs.lookup f) (mA f)
 | .rng lo hi=>∃t u v,h.get? a=ZY { cls:=.type "range", data:=.fields #[.int lo t,.int hi u,.int 1 v] }
 | .frz o u=>h.get? a=ZY o/\yx H h a u
 | .tbl ps=>h.get? a=ZY { cls:=.none,data:=.fields ps }
 | .met f x=>h.get? a=ZY (qH (.ref f) (.ref x))
 | .ext φ=>φ h/\(∃o,h.get? a=ZY o)/\∀h1 h2:fH,φ h1->(∀o,h1.get? a=ZY o->h2.get? a=ZY o)->φ h2
def HOk(H:Hp)(h:fH):Prop:=∀a o,H a=ZY o->yx P w H h a o
end
section
variable{P:cG}{w:dZ}{H H':Hp}{h h':fH}{a:aY}{o:HO}
theorem yx.lt(x:yx P w H h a o):a < h.objs.size:=by
 cases o with
 | lst xs=>obtain⟨_,_,_,_,e⟩:=x;exact aV e
 | tup xs=>obtain⟨_,_,_,p⟩:=x;exact p.tup.lt
 | dK kvs=>obtain⟨_,_,_,_,o,_,_,e,_⟩:=x;exact aV e
 | dT kvs=>obtain⟨_,_,_,_,o,_,_,e,_⟩:=x;exact aV e
 | set S n=>obtain⟨o,_,_,_,e,_⟩:=x;exact aV e
 | ins C dx fs=>obtain⟨_,_,_,e,_⟩:=x;exact aV e
 | own y=>obtain⟨_,e⟩:=x;exact aV e
 | xd fs=>obtain⟨_,⟨_,_,_,e,_⟩,_⟩:=x;exact aV e
 | rng lo hi=>obtain⟨_,_,_,e⟩:=x;exact aV e
 | frz ob u=>obtain⟨e,_⟩:=x;exact aV e
 | tbl ps=>exact aV (show h.get? a=ZY _ from x)
 | met f y=>exact aV (show h.get? a=ZY _ from x)
 | ext φ=>obtain⟨_,⟨_,e⟩,_⟩:=x;exact aV e
theorem Paired.mapP{α β:Type}{F G:α->β->Prop}:∀{l₁:List α} {l₂:List β},wW F l₁ l₂->(∀a b,F a b->G a b)->wW G l₁ l₂
 | _,_,.nil,_=>.nil
 | _,_,.cons r t,f=>.cons (f _ _ r) (Paired.mapP t f)
theorem yx.stay(x:yx P w H h a o)(k:∀b u,(b=a∨H b=ZY (.own a))->h.get? b=ZY u->h'.get? b=ZY u)
  (ho:∀b,H b=ZY (.own a)->H' b=ZY (.own a)) (ht:∀b xs,H b=ZY (.tup xs)->H' b=ZY (.tup xs)):yx P w H' h' a o:=by
 induction o with
 | lst xs=>obtain⟨z,its,n,r,e⟩:=x;exact⟨z,its,n,r,k _ _ (.inl rfl) e⟩
 | tup xs=>obtain⟨z,its,r,ob,e,c⟩:=x;exact⟨z,its,r,ob,k _ _ (.inl rfl) e,c⟩
 | dK kvs=>obtain⟨z,y,vs,r,ob,es,ep,e,c⟩:=x;exact⟨z,y,vs,r,ob,es,ep,k _ _ (.inl rfl) e,c⟩
 | dT kvs =>
  obtain⟨z,y,xs,r,ob,es,ep,e,c⟩:=x;exact⟨z,y,xs,Paired.mapP r λp q z=>⟨z.1,ht _ _ z.2.1,z.2.2⟩,ob,es,ep,k _ _ (.inl rfl) e,c⟩
 | set S n=>obtain⟨ob,es,ep,t,e,c⟩:=x;exact⟨ob,es,ep,t,k _ _ (.inl rfl) e,c⟩
 | ins C dx fs =>
  obtain⟨d,z,ne,e,mA,⟨od,es,ep,e2,c⟩,r⟩:=x;exact⟨ho _ d,z,ne,k _ _ (.inl rfl) e,mA,⟨od,es,ep,k _ _ (.inr d) e2,c⟩,r⟩
 | own y=>obtain⟨ob,e⟩:=x;exact⟨ob,k _ _ (.inl rfl) e⟩
 | xd fs=>obtain⟨mA,⟨od,es,ep,e,c⟩,r⟩:=x;exact⟨mA,⟨od,es,ep,k _ _ (.inl rfl) e,c⟩,r⟩
 | rng lo hi=>obtain⟨t,u,v,e⟩:=x;exact⟨t,u,v,k _ _ (.inl rfl) e⟩
 | frz ob u ih=>obtain⟨e,q⟩:=x;exact⟨k _ _ (.inl rfl) e,ih q⟩
 | tbl ps =>
  have e:h.get? a=ZY { cls:=.none,data:=.fields ps }:=x;show h'.get? a=ZY { cls:=.none,data:=.fields ps };exact k a _ (.inl rfl) e
 | met f y =>
  have e:h.get? a=ZY (qH (.ref f) (.ref y)):=x;show h'.get? a=ZY (qH (.ref f) (.ref y));exact k a _ (.inl rfl) e
 | ext φ=>obtain⟨p,⟨o,e⟩,st⟩:=x;exact⟨st _ _ p λo q=>k _ _ (.inl rfl) q,⟨o,k _ _ (.inl rfl) e⟩,st⟩
theorem HOk.lt(x:HOk P w H h)(e:H a=ZY o):a < h.objs.size:=(x a o e).lt
theorem HOk.fresh(x:HOk P w H h)(e:h.objs.size<=a):H a=ZX:=by
 cases q:H a with
 | none=>rfl
 | some u=>exact absurd (cC (x.lt q) e) (jO _)
theorem HOk.kept(x:HOk P w H h)(k:∀b u,h.get? b=ZY u->h'.get? b=ZY u):HOk P w H h':=λa o e =>
 (x a o e).stay (λb u _ q=>k b u q) (λ_ q=>q) λ_ _ q=>q
theorem HOk.laid(x:HOk P w H h)(k:∀b u,h.get? b=ZY u->h'.get? b=ZY u)(hp:h.objs.size<=a)(new:yx P w (upd H a o) h' a o):HOk P w (upd H a o) h':=λb u e=>by
 have hn:=x.fresh hp
 by_cases hb:b=a
 ·subst hb;rw[di] at e;cases e;exact new
 ·rw[bf hb] at e;exact(x b u e).stay (λc v _ q=>k c v q) (λc q=>by rw[bf (gj q hn)];exact q) λc xs q=>by rw[bf (gj q hn)];exact q
end
def Rd(H:Hp)(a:aY)(u:HO):Prop:=H a=ZY u∨∃o,H a=ZY (.frz o u)
theorem Rd.ok{P:cG}{w:dZ}{H:Hp}{h:fH}{a:aY}{u:HO}(r:Rd H a u)(x:HOk P w H h):yx P w H h a u:=by
 rcases r with r | ⟨o,r⟩
 ·exact x a u r
 ·obtain⟨_,q⟩:=x a _ r;exact q
def Mut:Option HO->Prop
 | some (.lst _)=>True
 | some (.dK _)=>True
 | some (.dT _)=>True
 | some (.set _ _)=>True
 | some (.ins _ _ _)=>True
 | some (.ext _)=>True
 | _=>False
section
variable{P:cG}{w:dZ}{H:Hp}{h h':fH}{x e:aY}{o':HO}
theorem HOk.write(ok:HOk P w H h)(mu:Mut (H x))(he:e=x∨H e=ZY (.own x))(k:∀b u,b≠e->h.get? b=ZY u->h'.get? b=ZY u)(heo:∃u,h'.get? e=ZY u)
  (new:yx P w (upd H x o') h' x o'):HOk P w (upd H x o') h':=λb u q=>by
 have nown:∀c y,H c=ZY (.own y)->c≠x:=λc y r z=>by subst z;rw[r] at mu;exact mu
 have ntup:∀c xs,H c=ZY (.tup xs)->c≠x:=λc xs r z=>by subst z;rw[r] at mu;exact mu
 by_cases hb:b=x
 ·subst hb;rw[di] at q;cases q;exact new
 ·rw[bf hb] at q
  by_cases hbe:b=e
  ·have q':H b=ZY (.own x):=by
    rcases he with z | z
    ·exact absurd (hbe.trans z) hb
    ·rw[hbe];exact z
   rw[q] at q';cases q';obtain⟨v,hv⟩:=heo;exact⟨v,by rw[hbe];exact hv⟩
  ·refine(ok b u q).stay (λc v hc r=>k c v ?_ r) (λc r=>by rw[bf (nown c b r)];exact r) λc xs r=>by rw[bf (ntup c xs r)];exact r
   rcases hc with rfl | hc
   ·exact hbe
   ·rintro rfl
    rcases he with z | z
    ·exact nown c b hc z
    ·rw[hc] at z;cases z;exact hb rfl
end
structure Un (fs ex:List aY) (H H':Hp) (h h':fH):Prop where
 keep:∀b o,h.get? b=ZY o->H b=ZX->b∉fs->b∉ex->h'.get? b=ZY o
 slot:∀b o,h.get? b=ZY o->H b=ZX->b∈fs->b∉ex->∃sl,h'.get? b=ZY { o with slots:=sl }
 free:∀b o,h.get? b=ZY o->H b=ZX->b∉ex->H' b=ZX
 there:∀b o,h.get? b=ZY o->b∉ex->∃o',h'.get? b=ZY o'
 tups:∀b xs,H b=ZY (.tup xs)->H' b=ZY (.tup xs)
 frzs:∀b o u,H b=ZY (.frz o u)->H' b=ZY (.frz o u)
 tbls:∀b ps,H b=ZY (.tbl ps)->∃more,H' b=ZY (.tbl (ps++more))
section
variable{fs fs' ex ex':List aY}{H H1 H2:Hp}{h h1 h2 h':fH}{a x e:aY}{o:HO}
theorem Un.any(u:Un fs ex H H1 h h1){b:aY}{ob:Obj}(q:h.get? b=ZY ob)(n:H b=ZX)(hx:b∉ex):∃sl,h1.get? b=ZY { ob with slots:=sl }:=by
 by_cases hb:b∈fs
 ·exact u.slot b ob q n hb hx
 ·exact⟨ob.slots,u.keep b ob q n hb hx⟩
theorem Un.kept(k:∀b u,h.get? b=ZY u->h'.get? b=ZY u):Un fs ex H H h h' :=
 ⟨λb ob q _ _ _=>k b ob q,λb ob q _ _ _=>⟨ob.slots,k b ob q⟩,λ_ _ _ n _=>n,λb ob q _=>⟨ob,k b ob q⟩,λ_ _ q=>q,λ_ _ _ q=>q,λ_ ps q=>⟨#[],by rw[q];simp⟩⟩
theorem Un.refl:Un fs ex H H h h:=Un.kept λ_ _ q=>q
theorem Un.laid(k:∀b u,h.get? b=ZY u->h'.get? b=ZY u)(hp:h.objs.size<=a)(hn:H a=ZX):Un fs ex H (upd H a o) h h' where
 keep:=λb u q _ _ _=>k b u q
 slot:=λb u q _ _ _=>⟨u.slots,k b u q⟩
 free:=λb u q n _=>by rw[bf (bQ (cC (aV q) hp))];exact n
 there:=λb u q _=>⟨u,k b u q⟩
 tups:=λb xs q=>by rw[bf (gj q hn)];exact q
 frzs:=λb u xs q=>by rw[bf (gj q hn)];exact q
 tbls:=λb ps q=>⟨#[],by rw[bf (gj q hn),q];simp⟩
theorem Un.write(mu:Mut (H x))(he:e=x∨H e=ZY (.own x))(k:∀b u,b≠e->h.get? b=ZY u->h'.get? b=ZY u)(heo:∃u,h'.get? e=ZY u):Un fs ex H (upd H x o) h h':=by
 have hx:∀b,H b=ZX->b≠x:=λb n z=>by subst z;rw[n] at mu;exact mu
 have hb:∀b,H b=ZX->b≠e:=λb n z=>by
  subst z;rcases he with r | r
  ·exact hx b n r
  ·rw[n] at r;cases r
 have hm:∀b u,H b=ZY u->¬Mut (ZY u)->b≠x:=λb u q nm z=>by subst z;rw[q] at mu;exact nm mu
 refine⟨λb u q n _ _=>k b u (hb b n) q,λb u q n _ _=>⟨u.slots,k b u (hb b n) q⟩,λb u q n _=>by rw[bf (hx b n)];exact n,λb u q _ =>?_,
  λb xs q=>by rw[bf (hm b _ q λz=>z)];exact q,λb u xs q=>by rw[bf (hm b _ q λz=>z)];exact q,λb ps q=>⟨#[],by rw[bf (hm b _ q λz=>z),q];simp⟩⟩
 by_cases hbe:b=e
 ·subst hbe;exact heo
 ·exact⟨u,k b u hbe q⟩
end
noncomputable def trk(h:fH)(H:Hp):List aY:=(aJ h.objs.size).filter λa=>(H a).isSome
def hidT(h:fH)(H:Hp):fH:=PySem.W.hideAll h (trk h H)
theorem avo(h:fH)(H:Hp):(hidT h H).objs.size=h.objs.size:=PySem.W.hideAll_size _ _
theorem ay6{h:fH}{H:Hp}{b:aY}{o:Obj}(e:h.get? b=ZY o)(n:H b=ZX):(hidT h H).get? b=ZY o :=
 PySem.W.hideAll_get _ e λhm=>by
  have q:(H b).isSome=ZW:=(dF.mp hm).2;rw[n] at q;simp at q
theorem a2y{h:fH}{H:Hp}{b:aY}{o:Obj}(e:(hidT h H).get? b=ZY o):h.get? b=ZY o/\H b=ZX:=by
 have e':h.get? b=ZY o:=PySem.W.of_hideAll (trk h H) e;refine⟨e',?_⟩;cases q:H b with
 | none=>rfl
 | some x =>
  have hm:b∈trk h H:=dF.mpr ⟨List.mem_range.mpr (aV e'),by simp[q]⟩
  have z:(hidT h H).get? b=ZX:=PySem.W.hideAll_none (trk h H) hm;rw[z] at e;cases e
noncomputable def a4y(g h:fH)(L:aY):List (aY×Obj):=(aJ h.objs.size).filterMap λa=>if a=L∨(g.get? a).isSome=ZW then ZX else (h.get? a).map λo=>(a,o)
def rest(g h:fH)(L d:aY):List (aY×Obj):=(a4y g h L).filter λp=>decide (p.1≠d)
structure Mod (K:Fg9) (mg:Str->Option aH) (base:fH):Prop where
 kin:K.In base
 glob:base.Ns bK mg
 blt:∃mb,base.Ns builtinsNs mb/\∀x:Str,x ≠ "__name__" -> mb x=cM x
 nolimit:base.NoLimit
structure Cx where
 prog:cG
 w:dZ
 K:Fg9
 mg:Str->Option aH
 base:fH
 A:eG
 N:List Str
 s₀:aO
 H₀:Hp
 env:Env
 outer:List Env
 stack:List Env
 ex:List aY
 fn:Str->Bool
 calm:Bool
 pn:List (aY×Obj)
 xe:aH->aO->Prop
noncomputable def frs(l:List Env):List aY:=l.filterMap (·.frame)
abbrev Cx.fs(X:Cx):List aY:=frs X.outer
def Vis(sc:jV)(x:Str):Prop:=sc.names.lookup x=ZY .local∨sc.names.lookup x=ZY .cell∨sc.names.lookup x=ZY .free
def Loc(sc:jV)(x:Str):Prop:=sc.names.lookup x=ZY .local∨sc.names.lookup x=ZY .cell
def Look(env:Env)(h:fH)(m:Str->Option aH)(x:Str)(u:aH):Prop :=
 (env.kindOf x=ZY .local/\m x=ZY u)∨((env.kindOf x=ZY .cell∨env.kindOf x=ZY .free)/\∃c,env.cells.lookup x=ZY c/\h.IsCell c (ZY u))
structure Cx.Ok (X:Cx):Prop where
 mod:Mod X.K X.mg X.base
 kind:X.env.scope.kind=.function
 glob:X.env.globals=bK
 blt:X.env.builtins=builtinsNs
 above:X.s₀.heap.objs.size<=X.env.locals
 inj:∀x y c,X.env.cells.lookup x=ZY c->X.env.cells.lookup y=ZY c->x=y
 has:∀x,(X.env.kindOf x=ZY .cell∨X.env.kindOf x=ZY .free)->∃c,X.env.cells.lookup x=ZY c
 cab:∀x c,X.fn x=ZW->X.env.cells.lookup x=ZY c->X.s₀.heap.objs.size<=c
 hd:X.calm=ZW->X.A.handled=ZX
 frames:X.A.frames=ZY X.stack
 stk:X.stack=X.outer∨(X.stack=X.env::X.outer/\X.env.frame=ZY X.env.locals)
 exf:∀b∈X.ex,b≠X.env.locals/\∀x c,X.env.cells.lookup x=ZY c->c≠b
 bs:∀b o,X.base.get? b=ZY o->X.s₀.heap.get? b=ZY o/\X.H₀ b=ZX
 bsz:X.base.objs.size<=X.s₀.heap.objs.size
 noex:∀b o,X.base.get? b=ZY o->b∉X.ex
 exfs:∀b∈X.ex,b∉X.fs
 funs:X.s₀.heap.FunFrames X.base X.outer
 frf:∀b∈X.fs,X.H₀ b=ZX
structure Inv (X:Cx) (qv:List (aY×Obj)) (σ:List (Option V)) (H:Hp) (s:aO):Prop where
 ok:X.Ok
 os:s.os=X.s₀.os
 bare:pN s.gens
 base:Un X.fs X.ex X.H₀ H X.s₀.heap s.heap
 loc:∃m,s.heap.Ns X.env.locals m/\∀(i:Nat) (x:Str) (v:V),X.N[i]? = ZY x->σ[i]? = ZY (ZY v)->Vis X.env.scope x->∃u,RelV v u/\Look X.env s.heap m x u
 cell:∀x c,X.env.cells.lookup x=ZY c->∃v,s.heap.IsCell c v
 free:H X.env.locals=ZX
 freeC:∀x c,X.env.cells.lookup x=ZY c->H c=ZX
 pin:∀p∈X.pn++qv,s.heap.get? p.1=ZY p.2/\H p.1=ZX/\p.1≠X.env.locals/\p.1∉X.fs/\∀v,p.2.data≠.cell v
 hok:HOk X.prog X.w H s.heap
 len:σ.length=X.N.length
section
variable{X:Cx}{qv:List (aY×Obj)}{σ:List (Option V)}{H H':Hp}{s:aO}{h':fH}
theorem Cx.Ok.nofr(ok:X.Ok){b:aY}{o:Obj}(e:X.base.get? b=ZY o):b∉X.fs:=λhb=>by
 have:=(ok.funs.mem hb).1;rw[e] at this;cases this
theorem Inv.bs(I:Inv X qv σ H s):∀b o,X.base.get? b=ZY o->s.heap.get? b=ZY o/\H b=ZX:=λb o e =>
 ⟨I.base.keep b o (I.ok.bs b o e).1 (I.ok.bs b o e).2 (I.ok.nofr e) (I.ok.noex b o e),I.base.free b o (I.ok.bs b o e).1 (I.ok.bs b o e).2 (I.ok.noex b o e)⟩
theorem Inv.bk(I:Inv X qv σ H s):∀b o,X.base.get? b=ZY o->s.heap.get? b=ZY o:=λb o e=>(I.bs b o e).1
theorem Inv.mod(I:Inv X qv σ H s):Mod X.K X.mg X.base:=I.ok.mod
theorem Inv.kIn(I:Inv X qv σ H s):X.K.In s.heap:=I.ok.mod.kin.keeps I.bk
theorem Inv.lt(I:Inv X qv σ H s):X.env.locals < s.heap.objs.size:=let ⟨_,hn,_⟩:=I.loc;hn.lt
theorem Inv.sz(I:Inv X qv σ H s):X.s₀.heap.objs.size<=s.heap.objs.size:=dC I.ok.above (lN I.lt)
theorem Inv.nofs(I:Inv X qv σ H s){a:aY}(h:s.heap.objs.size<=a):a∉X.fs:=λhb=>by
 obtain⟨_,o,ho,_⟩:=I.ok.funs.mem hb;exact absurd (cC (aV ho) (dC I.sz h)) (jO _)
theorem Inv.cne(I:Inv X qv σ H s):∀x c,X.env.cells.lookup x=ZY c->c≠X.env.locals:=λx c e z=>by
 obtain⟨v,o,ho,hd⟩:=I.cell x c e;obtain⟨m,⟨o',es,ep,ho',hd',_⟩,_⟩:=I.loc;rw[z,ho'] at ho;cases ho;rw[hd'] at hd;cases hd
theorem Inv.funs(I:Inv X qv σ H s):s.heap.FunFrames X.base X.outer:=by
 have all:∀(l:List Env),(∀b∈frs l,b∈X.fs)->X.s₀.heap.FunFrames X.base l->s.heap.FunFrames X.base l:=by
  intro l
  induction l with
  | nil=>intro _ _;trivial
  | cons env r ih =>
   intro hs hl;obtain⟨hk,⟨L,o,hf,hn,ho,hd⟩,hr⟩:=hl;have hL:L∈X.fs:=hs L (by unfold frs;rw[jW,hf];exact aF)
   obtain⟨sl,e⟩:=I.base.slot L o ho (I.ok.frf L hL) hL λz=>I.ok.exfs L z hL
   exact⟨hk,⟨L,_,hf,hn,e,hd⟩,ih (λb hb=>hs b (by unfold frs;rw[jW,hf];exact aA _ hb)) hr⟩
 exact all X.outer (λ_ hb=>hb) I.ok.funs
theorem Inv.stack(I:Inv X qv σ H s):s.heap.FunFrames X.base X.stack:=by
 rcases I.ok.stk with e | ⟨e,hf⟩
 ·rw[e];exact I.funs
 ·rw[e];obtain⟨m,hn,_⟩:=I.loc;refine .cons (by rw[I.ok.kind];decide) hf hn ?_ I.funs
  exact Heap.get?_none_of_le (dC I.ok.bsz I.ok.above)
theorem Inv.stkSub(I:Inv X qv σ H s):∀b∈frs X.stack,b∈X.env.locals::X.fs:=λb hb=>by
 rcases I.ok.stk with e | ⟨e,hf⟩
 ·rw[e] at hb;exact aA _ hb
 ·rw[e] at hb;unfold frs at hb;rw[jW,hf] at hb;exact hb
theorem Inv.stkFree(I:Inv X qv σ H s):∀b∈frs X.stack,H b=ZX:=λb hb=>by
 rcases bG.mp (I.stkSub b hb) with e | hb
 ·rw[e];exact I.free
 ·obtain⟨_,o,ho,_⟩:=I.ok.funs.mem hb;exact I.base.free b o ho (I.ok.frf b hb) λz=>I.ok.exfs b z hb
theorem Inv.step{g':Array GenState}{t':Nat}{d':Drawn}{ch:List aY}(I:Inv X qv σ H s)
  (hch:∀b∈ch,(b∈X.ex∨X.s₀.heap.objs.size<=b)/\b≠X.env.locals/\(∀x c,X.env.cells.lookup x=ZY c->c≠b)/\∀p∈X.pn++qv,p.1≠b)
  (keep:∀b o,b≠X.env.locals->b∉X.fs->b∉ch->s.heap.get? b=ZY o->H b=ZX->h'.get? b=ZY o)
  (slot:∀b o,b≠X.env.locals->b∈X.fs->b∉ch->s.heap.get? b=ZY o->H b=ZX->∃sl,h'.get? b=ZY { o with slots:=sl }) (free:∀b o,b∉ch->s.heap.get? b=ZY o->H b=ZX->H' b=ZX)
  (there:∀b o,b∉ch->s.heap.get? b=ZY o->∃o',h'.get? b=ZY o')
  (tups:∀b xs,H b=ZY (.tup xs)->H' b=ZY (.tup xs)) (frzs:∀b o u,H b=ZY (.frz o u)->H' b=ZY (.frz o u)) (tbls:∀b ps,H b=ZY (.tbl ps)->∃more,H' b=ZY (.tbl (ps++more)))
  (ns:∀m,s.heap.Ns X.env.locals m->h'.Ns X.env.locals m) (hok:HOk X.prog X.w H' h') (hg:pN g') :
  Inv X qv σ H' { s with heap:=h',gens:=g',drawn:=d',toks:=t' }:=by
 have neL:∀b o,X.s₀.heap.get? b=ZY o->b≠X.env.locals:=λb o e=>bQ (cC (aV e) I.ok.above)
 have neC:∀b o,X.s₀.heap.get? b=ZY o->b∉X.ex->b∉ch:=λb o e hx hb=>by
  rcases(hch b hb).1 with z | z
  ·exact hx z
  ·exact absurd (cC (aV e) z) (jO _)
 have cellK:∀x c,X.env.cells.lookup x=ZY c->∀v,s.heap.IsCell c v->h'.IsCell c v:=λx c e v hq0=>by
  obtain⟨o,ho,hd⟩:=hq0;have nch:c∉ch:=λz=>(hch c z).2.2.1 x c e rfl
  by_cases hc:c∈X.fs
  ·obtain⟨sl,q⟩:=slot c o (I.cne x c e) hc nch ho (I.freeC x c e);exact⟨_,q,hd⟩
  ·exact⟨o,keep c o (I.cne x c e) hc nch ho (I.freeC x c e),hd⟩
 refine⟨I.ok,I.os,hg,⟨λb o e n hb hx =>?_,λb o e n hb hx =>?_,λb o e n hx =>?_,λb o e hx =>?_,λb xs e=>tups b xs (I.base.tups b xs e),λb o xs e=>frzs b o xs (I.base.frzs b o xs e),λb ps e =>?_⟩,?_,λx c e =>?_,?_,λx c e =>?_,λp hp =>?_,hok,I.len⟩
 ·exact keep b o (neL b o e) hb (neC b o e hx) (I.base.keep b o e n hb hx) (I.base.free b o e n hx)
 ·obtain⟨sl,e1⟩:=I.base.slot b o e n hb hx;obtain⟨sl',e2⟩:=slot b _ (neL b o e) hb (neC b o e hx) e1 (I.base.free b o e n hx);exact⟨sl',e2⟩
 ·obtain⟨o',e1⟩:=I.base.there b o e hx;exact free b o' (neC b o e hx) e1 (I.base.free b o e n hx)
 ·obtain⟨o',e1⟩:=I.base.there b o e hx;exact there b o' (neC b o e hx) e1
 ·obtain⟨m1,e1⟩:=I.base.tbls b ps e;obtain⟨m2,e2⟩:=tbls b _ e1;exact⟨m1++m2,by rw[e2,Array.append_assoc]⟩
 ·obtain⟨m,hn,hl⟩:=I.loc;refine⟨m,ns m hn,λi x v e1 e2 e3 =>?_⟩
  obtain⟨u,r,l⟩:=hl i x v e1 e2 e3;refine⟨u,r,?_⟩;rcases l with l | ⟨k,c,e,z⟩
  ·exact .inl l
  ·exact .inr ⟨k,c,e,cellK x c e _ z⟩
 ·obtain⟨v,z⟩:=I.cell x c e;exact⟨v,cellK x c e v z⟩
 ·obtain⟨m,⟨o,_,_,ho,_⟩,_⟩:=I.loc;exact free _ o (λz=>(hch _ z).2.1 rfl) ho I.free
 ·obtain⟨v,o,ho,hd⟩:=I.cell x c e;exact free c o (λz=>(hch c z).2.2.1 x c e rfl) ho (I.freeC x c e)
 ·obtain⟨e,n,ne,nf,d⟩:=I.pin p hp;have nch:p.1∉ch:=λz=>(hch p.1 z).2.2.2 p hp rfl
  exact⟨keep p.1 p.2 ne nf nch e n,free p.1 p.2 nch e n,ne,nf,d⟩
theorem Inv.un{t':Nat}(I:Inv X qv σ H s)(u:Un X.fs [] H H' s.heap h')(hok:HOk X.prog X.w H' h'):Inv X qv σ H' { s with heap:=h',toks:=t' }:=by
 obtain⟨m,⟨o,es,ep,ho,r⟩,_⟩:=id I.loc;obtain⟨sl,hL⟩:=u.any ho I.free (by simp)
 exact I.step (g':=s.gens) (d':=s.drawn) (ch:=[]) (λ_ z=>nomatch z) (λb o _ hb _ e n=>u.keep b o e n hb (by simp)) (λb o _ hb _ e n=>u.slot b o e n hb (by simp)) (λb o _ e n=>u.free b o e n (by simp)) (λb o _ e=>u.there b o e (by simp)) u.tups u.frzs u.tbls (λm' hm=>by
  obtain⟨o',es',ep',ho',r'⟩:=hm;rw[ho] at ho';cases ho';exact⟨_,es',ep',hL,r'⟩) hok I.bare
theorem Inv.call{g':Array GenState}{t':Nat}{d':Drawn}{ch:List aY}(I:Inv X qv σ H s)(u:Un (frs X.stack) ch H H' s.heap h')(hok:HOk X.prog X.w H' h')(hg:pN g')
  (hch:∀b∈ch,(b∈X.ex∨X.s₀.heap.objs.size<=b)/\b≠X.env.locals/\(∀x c,X.env.cells.lookup x=ZY c->c≠b)/\∀p∈X.pn++qv,p.1≠b) :
  Inv X qv σ H' { s with heap:=h',gens:=g',drawn:=d',toks:=t' }:=by
 obtain⟨m,⟨o,es,ep,ho,r⟩,_⟩:=id I.loc;obtain⟨sl,hL⟩:=u.any ho I.free λz=>(hch _ z).2.1 rfl
 exact I.step (ch:=ch) hch (λb o hL hb hc e n=>u.keep b o e n (λz=>(bG.mp (I.stkSub b z)).elim hL hb) hc) (λb o _ _ hc e n=>u.any e n hc) (λb o hc e n=>u.free b o e n hc) (λb o hc e=>u.there b o e hc) u.tups u.frzs u.tbls (λm' hm=>by
  obtain⟨o',es',ep',ho',r'⟩:=hm;rw[ho] at ho';cases ho';exact⟨_,es',ep',hL,r'⟩) hok hg
theorem Inv.turned{t':Nat}{it:aY}(I:Inv X qv σ H s)(k:∀b o,b≠it->s.heap.get? b=ZY o->h'.get? b=ZY o)(hn:H it=ZX)(hL:it≠X.env.locals)
  (h1:it∈X.ex∨X.s₀.heap.objs.size<=it) (h2:∀x c,X.env.cells.lookup x=ZY c->c≠it) (h3:∀p∈X.pn++qv,p.1≠it):Inv X qv σ H { s with heap:=h',toks:=t' }:=by
 have nit:∀b u,H b=ZY u->b≠it:=λb u e z=>by rw[z,hn] at e;cases e
 refine I.step (g':=s.gens) (d':=s.drawn) (ch:=[it]) (λb hb =>?_) (λb o _ _ hc e _=>k b o (λz=>hc (by simp[z])) e) (λb o _ _ hc e _=>⟨o.slots,k b o (λz=>hc (by simp[z])) e⟩) (λ_ _ _ _ n=>n)
  (λb o hc e=>⟨o,k b o (λz=>hc (by simp[z])) e⟩) (λ_ _ e=>e) (λ_ _ _ e=>e) (λb ps e=>⟨#[],by rw[e];simp⟩) (λm hm =>?_) (λb u e =>?_) I.bare
 ·have e:b=it:=by simpa using hb
  subst e;exact⟨h1,hL,h2,h3⟩
 ·obtain⟨o,es,ep,ho,r⟩:=hm;exact⟨o,es,ep,k _ o (gR hL) ho,r⟩
 ·refine(I.hok b u e).stay (λc v hc q=>k c v ?_ q) (λ_ q=>q) λ_ _ q=>q
  rcases hc with z | z
  ·rw[z];exact nit b u e
  ·exact nit c _ z
theorem Inv.tok(I:Inv X qv σ H s)(t:Nat):Inv X qv σ H { s with toks:=t }:=I.un (h':=s.heap) (t':=t) Un.refl I.hok
theorem Inv.kept{t':Nat}(I:Inv X qv σ H s)(k:∀b u,s.heap.get? b=ZY u->h'.get? b=ZY u):Inv X qv σ H { s with heap:=h',toks:=t' }:=I.un (Un.kept k) (I.hok.kept k)
theorem Inv.laid{a:aY}{o:HO}{t':Nat}(I:Inv X qv σ H s)(k:∀b u,s.heap.get? b=ZY u->h'.get? b=ZY u)(hp:s.heap.objs.size<=a)(new:yx X.prog X.w (upd H a o) h' a o) :
  Inv X qv σ (upd H a o) { s with heap:=h',toks:=t' }:=I.un (Un.laid k hp (I.hok.fresh hp)) (I.hok.laid k hp new)
theorem Inv.write{x e:aY}{o:HO}{t':Nat}(I:Inv X qv σ H s)(mu:Mut (H x))(he:e=x∨H e=ZY (.own x))(k:∀b u,b≠e->s.heap.get? b=ZY u->h'.get? b=ZY u)(heo:∃u,h'.get? e=ZY u)
  (new:yx X.prog X.w (upd H x o) h' x o):Inv X qv σ (upd H x o) { s with heap:=h',toks:=t' }:=I.un (Un.write mu he k heo) (I.hok.write mu he k heo new)
theorem Inv.pins_of{pins':List (aY×Obj)}(I:Inv X qv σ H s)(h:∀p∈pins',s.heap.get? p.1=ZY p.2/\H p.1=ZX/\p.1≠X.env.locals/\p.1∉X.fs/\∀v,p.2.data≠.cell v):Inv X pins' σ H s :=
 ⟨I.ok,I.os,I.bare,I.base,I.loc,I.cell,I.free,I.freeC,λp hp=>(cN.mp hp).elim (λz=>I.pin p (gF _ z)) (h p),I.hok,I.len⟩
theorem ap8{N:List Str}(hN:N.Nodup){i j:Nat}{x:Str}(a:N[i]? = ZY x)(b:N[j]? = ZY x):i=j:=by
 obtain⟨h1,e1⟩:=aQ.mp a;obtain⟨h2,e2⟩:=aQ.mp b;exact(List.getElem_inj hN).mp (e1.trans e2.symm)
theorem agn{M:Model}{A:eG}{E:aH->aO->Prop}{i:Nat}{x:Str}{v:V}{u:aH}{Q:Unit->aO->Prop}(I:Inv X qv σ H s)(hN:X.N.Nodup)(hi:X.N[i]? = ZY x)(hx:Loc X.env.scope x)(r:RelV v u)
  (h:∀s',Inv X qv (σ.set i (ZY v)) H s'->(∃a,gA a s.heap s'.heap/\(a=X.env.locals∨X.env.cells.lookup x=ZY a))->Q () s') (hf:X.fn x=ZW∨X.env.scope.names.lookup x=ZY .local:=by first | exact .inl rfl | exact .inr rfl | assumption):bT M A (storeName X.env x u) Q E s:=by
 obtain⟨m,hn,hl⟩:=id I.loc;have hcls:(X.env.scope.kind==.class||(X.env.scope.kind==.module&&X.env.locals != X.env.globals))=ZV:=by rw[I.ok.kind];rfl
 have hiσ:i < σ.length:=by rw[I.len];exact(aQ.mp hi).1
 have cne:=I.cne;have tracked:∀{a:aY} {h':fH},(∃o,s.heap.get? a=ZY o/\H a=ZX)->gA a s.heap h'->HOk X.prog X.w H h':=λ{a h'} ha hs b ob e=>by
  obtain⟨_,_,hfree⟩:=ha;refine(I.hok b ob e).stay (λc w' hc q=>(hs.2 c ?_).trans q) (λ_ q=>q) λ_ _ q=>q
  rintro rfl
  rcases hc with rfl | hc
  ·rw[hfree] at e;cases e
  ·rw[hfree] at hc;cases hc
 rcases hx with hk | hk
 ·refine wpAny_storeName_local hk hn (λh' hn' hs =>?_) hcls
  obtain⟨oL,_,_,hoL,_⟩:=id hn;refine h _ ⟨I.ok,I.os,I.bare,⟨λb o e n hb hx =>?_,λb o e n hb hx =>?_,I.base.free,λb o e hx =>?_,I.base.tups,I.base.frzs,I.base.tbls⟩,⟨_,hn',λj y v' e1 e2 e3 =>?_⟩,λy c e =>?_,I.free,I.freeC,λp hp =>?_,tracked ⟨oL,hoL,I.free⟩ hs,by simpa using I.len⟩ ⟨_,hs,.inl rfl⟩
  ·exact(hs.2 b (bQ (cC (aV e) I.ok.above))).trans (I.base.keep b o e n hb hx)
  ·obtain⟨sl,e1⟩:=I.base.slot b o e n hb hx;exact⟨sl,(hs.2 b (bQ (cC (aV e) I.ok.above))).trans e1⟩
  ·obtain⟨o',e1⟩:=I.base.there b o e hx;exact⟨o',(hs.2 b (bQ (cC (aV e) I.ok.above))).trans e1⟩
  ·by_cases hj:j=i
   ·subst hj;rw[hi] at e1;cases e1;rw[oW hiσ] at e2;cases e2;exact⟨u,r,.inl ⟨hk,by simp⟩⟩
   ·rw[iK (gR hj)] at e2;obtain⟨u',r',q⟩:=hl j y v' e1 e2 e3;refine⟨u',r',?_⟩;rcases q with⟨k,e⟩ | ⟨k,c,e,z⟩
    ·refine .inl ⟨k,?_⟩;have:y≠x:=λe=>hj (ap8 hN e1 (e▸hi))
     simp[this,e]
    ·exact .inr ⟨k,c,e,z.sameBut hs (cne y c e)⟩
  ·obtain⟨w',z⟩:=I.cell y c e;exact⟨w',z.sameBut hs (cne y c e)⟩
  ·obtain⟨e,n,ne,nf,d⟩:=I.pin p hp;exact⟨(hs.2 p.1 ne).trans e,n,ne,nf,d⟩
 ·have hfn:X.fn x=ZW:=by
   rcases hf with z | z
   ·exact z
   ·rw[z] at hk;cases hk
  obtain⟨c,hc⟩:=I.ok.has x (.inl hk);obtain⟨w',z⟩:=I.cell x c hc;refine wpAny_storeName_cell I.ok.kind hk hc z (λh' hc' hs =>?_)
  obtain⟨oc,hoc,hocd⟩:=id z;refine h { s with heap:=h' } ⟨I.ok,I.os,I.bare,⟨λb o e n hb hx =>?_,λb o e n hb hx =>?_,I.base.free,λb o e hx =>?_,I.base.tups,I.base.frzs,I.base.tbls⟩,⟨m,hn.sameBut hs (gR (cne x c hc)),λj y v' e1 e2 e3 =>?_⟩,λy c' e =>?_,I.free,I.freeC,λp hp =>?_,tracked ⟨oc,hoc,I.freeC x c hc⟩ hs,by simpa using I.len⟩ ⟨c,hs,.inr hc⟩
  ·exact(hs.2 b (bQ (cC (aV e) (I.ok.cab x c hfn hc)))).trans (I.base.keep b o e n hb hx)
  ·obtain⟨sl,e1⟩:=I.base.slot b o e n hb hx;exact⟨sl,(hs.2 b (bQ (cC (aV e) (I.ok.cab x c hfn hc)))).trans e1⟩
  ·obtain⟨o',e1⟩:=I.base.there b o e hx;exact⟨o',(hs.2 b (bQ (cC (aV e) (I.ok.cab x c hfn hc)))).trans e1⟩
  ·by_cases hj:j=i
   ·subst hj;rw[hi] at e1;cases e1;rw[oW hiσ] at e2;cases e2;exact⟨u,r,.inr ⟨.inl hk,c,hc,hc'⟩⟩
   ·rw[iK (gR hj)] at e2;obtain⟨u',r',q⟩:=hl j y v' e1 e2 e3;refine⟨u',r',?_⟩;rcases q with q | ⟨k,c',e,z'⟩
    ·exact .inl q
    ·refine .inr ⟨k,c',e,z'.sameBut hs ?_⟩
     rintro rfl
     exact hj (ap8 hN e1 (I.ok.inj _ _ _ e hc▸hi))
  ·by_cases hcc:c'=c
   ·subst hcc;exact⟨_,hc'⟩
   ·obtain⟨w2,z2⟩:=I.cell y c' e;exact⟨w2,z2.sameBut hs hcc⟩
  ·obtain⟨e,n,ne,nf,d⟩:=I.pin p hp;refine⟨(hs.2 p.1 ?_).trans e,n,ne,nf,d⟩;intro q;rw[q,hoc] at e;have q':oc=p.2:=bO e;exact d w' (by rw[<-q'];exact hocd)
theorem ajv{M:Model}{A:eG}{E:aH->aO->Prop}{i:Nat}{x:Str}{v:V}{u:aH}{Q:Unit->aO->Prop}(I:Inv X qv σ H s)(hN:X.N.Nodup)(hi:X.N[i]? = ZY x)(hx:Loc X.env.scope x)(r:RelV v u)
  (h:∀s',Inv X qv (σ.set i (ZY v)) H s'->Q () s') (hf:X.fn x=ZW∨X.env.scope.names.lookup x=ZY .local:=by first | exact .inl rfl | exact .inr rfl | assumption):bT M A (storeName X.env x u) Q E s :=
 agn I hN hi hx r (λs' I' _=>h s' I') hf
theorem Inv.call'{s':aO}{ch:List aY}(I:Inv X qv σ H s)(ho:s'.os=s.os)(u:Un (frs X.stack) ch H H' s.heap s'.heap)(hok:HOk X.prog X.w H' s'.heap)(hg:pN s'.gens)
  (hch:∀b∈ch,(b∈X.ex∨X.s₀.heap.objs.size<=b)/\b≠X.env.locals/\(∀x c,X.env.cells.lookup x=ZY c->c≠b)/\∀p∈X.pn++qv,p.1≠b):Inv X qv σ H' s':=by
 obtain⟨h',g',d',t',o'⟩:=s';have e:o'=s.os:=ho;subst e;exact I.call (g':=g') (t':=t') (d':=d') u hok hg hch
end
abbrev XK:=aH->Option aY->Hp->Prop
abbrev St:=List (Option V)
abbrev VK:=V->Hp->Prop
abbrev TE:=St->Hp->VK->Prop
abbrev TT:=St->Hp->(Bool->Hp->Prop)->Prop
abbrev TA:=St->Hp->(List V->Hp->Prop)->Prop
structure Ends where
 nx:St->Hp->Prop
 rt:VK
 bk:St->Hp->Prop:=λ_ _=>False
 ct:St->Hp->Prop:=λ_ _=>False
abbrev TS:=Ends->St->Hp->Prop
def EP(X:Cx)(qv:List (aY×Obj))(σ:St)(Q:VK)(u:aH)(s':aO):Prop:=∃v H',Inv X qv σ H' s'/\RelV v u/\Q v H'
def TP(X:Cx)(qv:List (aY×Obj))(σ:St)(Q:Bool->Hp->Prop)(b:Bool)(s':aO):Prop:=∃H',Inv X qv σ H' s'/\Q b H'
def AP(X:Cx)(qv:List (aY×Obj))(σ:St)(Q:List V->Hp->Prop)(us:List aH)(s':aO):Prop:=∃vs H',Inv X qv σ H' s'/\Vals vs us/\Q vs H'
def SP(X:Cx)(qv:List (aY×Obj))(D:Ends)(f:Flow)(s':aO):Prop :=
 match f with
 | .next=>∃σ' H',Inv X qv σ' H' s'/\D.nx σ' H'
 | .brk=>∃σ' H',Inv X qv σ' H' s'/\D.bk σ' H'
 | .cont=>∃σ' H',Inv X qv σ' H' s'/\D.ct σ' H'
 | .ret u=>∃v σ' H',Inv X qv σ' H' s'/\RelV v u/\D.rt v H'
def PE(X:Cx)(e:dH)(t:TE):Prop :=
 ∀(qv:List (aY×Obj)) (s:aO) (σ:St) (H:Hp) (Q:VK),Inv X qv σ H s->t σ H Q->bT (cA X.prog X.w) X.A (eval e X.env) (EP X qv σ Q) X.xe s
def PT(X:Cx)(e:dH)(t:TT):Prop :=
 ∀(qv:List (aY×Obj)) (s:aO) (σ:St) (H:Hp) (Q:Bool->Hp->Prop),Inv X qv σ H s->t σ H Q->bT (cA X.prog X.w) X.A (isTrue e X.env (eval e X.env)) (TP X qv σ Q) X.xe s
def PW(X:Cx)(e:dH)(t:TT):Prop :=
 ∀(whole:Sem aH) (qv:List (aY×Obj)) (s:aO) (σ:St) (H:Hp) (Q:Bool->Hp->Prop),Inv X qv σ H s->t σ H Q->bT (cA X.prog X.w) X.A (isTrue e X.env whole) (TP X qv σ Q) X.xe s
theorem PW.pt{X:Cx}{e:dH}{t:TT}(h:PW X e t):PT X e t:=h _
def PA(X:Cx)(es:List dH)(t:TA):Prop :=
 ∀(pos:Pos) (qv:List (aY×Obj)) (s:aO) (σ:St) (H:Hp) (Q:List V->Hp->Prop),Inv X qv σ H s->t σ H Q->bT (cA X.prog X.w) X.A (spliced (jG pos (bA es X.env))) (AP X qv σ Q) X.xe s
def PS(X:Cx)(st:gU)(t:TS):Prop :=
 ∀(qv:List (aY×Obj)) (s:aO) (σ:St) (H:Hp) (D:Ends),Inv X qv σ H s->t D σ H->bT (cA X.prog X.w) X.A (exec st X.env) (SP X qv D) X.xe s
def PSs(X:Cx)(st:List gU)(t:TS):Prop :=
 ∀(qv:List (aY×Obj)) (s:aO) (σ:St) (H:Hp) (D:Ends),Inv X qv σ H s->t D σ H->bT (cA X.prog X.w) X.A (execs st X.env) (SP X qv D) X.xe s
theorem thn{α:Type}{t:Sem α}{Q Q':α->aO->Prop}{M:Model}{A:eG}{E:aH->aO->Prop}{s:aO}(h:bT M A t Q E s)(hQ:∀a s,Q a s->Q' a s):bT M A t Q' E s:=cU h hQ λ_ _ x=>x
section
variable{X:Cx}
def tVar(i:Nat):TE:=λσ H Q=>∃v,σ[i]? = ZY (ZY v)/\Q v H
def tC(v:V):TE:=λ_ H Q=>Q v H
theorem a6p{i:Nat}{x:Str}{pos:Pos}(hN:X.N[i]? = ZY x)(hv:Vis X.env.scope x)(hd:(x==("__debug__" : Str))=ZV:=by decide)(hcd:(x==("__classdict__" : Str))=ZV:=by decide):PE X (.Name x pos) (tVar i):=by
 intro qv s σ H Q I h;obtain⟨v,e,h⟩:=h;obtain⟨m,hn,hl⟩:=I.loc;obtain⟨u,r,l⟩:=hl i x v hN e hv;have fin:EP X qv σ Q u s:=⟨v,H,I,r,h⟩;rcases l with⟨hk,hm⟩ | ⟨hk,c,hc,hcell⟩
 ·exact wpAny_Name (wpAny_loadName_local I.ok.kind hk hn hm fin) hd
 ·rcases hk with hk | hk
  ·exact wpAny_Name (wpAny_loadName_cell I.ok.kind hk hc hcell fin) hd
  ·exact wpAny_Name (wpAny_loadName_free I.ok.kind hk hc hcell fin hcd) hd
theorem a6w{i j pos}:PE X (.Constant (.int i) j pos) (tC (.int i)):=λ_ _ _ H _ I h=>wpAny_Constant_int ⟨.int i,H,I.tok _,⟨_,rfl⟩,h⟩
theorem ba2{b j pos}:PE X (.Constant (.bool b) j pos) (tC (.bl b)):=λ_ _ _ H _ I h=>Constant_bool ⟨.bl b,H,I,rfl,h⟩
theorem a6t{j pos}:PE X (.Constant .none j pos) (tC .non):=λ_ _ _ H _ I h=>Constant_none ⟨.non,H,I,rfl,h⟩
def Gl(X:Cx)(x:Str):Prop:=X.env.kindOf x=ZY .globalImplicit
theorem au8{E:aH->aO->Prop}{qv:List (aY×Obj)}{s:aO}{σ:St}{H:Hp}{x:Str}{u:aH}{pos:Pos}{Q:aH->aO->Prop}(I:Inv X qv σ H s)(hg:Gl X x)(hm:X.mg x=ZY u)(h:Q u s)
  (hd:(x==("__debug__" : Str))=ZV:=by decide):bT (cA X.prog X.w) X.A (eval (.Name x pos) X.env) Q E s :=
 sG I.ok.kind hg (Calls.loadGlobal_global (by rw[I.ok.glob];exact I.mod.glob.keeps I.bk) hm h) hd
theorem ahh{E:aH->aO->Prop}{qv:List (aY×Obj)}{s:aO}{σ:St}{H:Hp}{x:Str}{u:aH}{pos:Pos}{Q:aH->aO->Prop}(I:Inv X qv σ H s)(hg:Gl X x)(hm:X.mg x=ZX)(hv:cM x=ZY u)(h:Q u s)
  (hn:x ≠ "__name__" := by decide) (hd:(x==("__debug__" : Str))=ZV:=by decide):bT (cA X.prog X.w) X.A (eval (.Name x pos) X.env) Q E s:=by
 obtain⟨mb,h1,h2⟩:=I.mod.blt;exact sG I.ok.kind hg (Calls.loadGlobal_builtin (by rw[I.ok.glob];exact I.mod.glob.keeps I.bk) hm (by rw[I.ok.blt];exact h1.keeps I.bk) ((h2 x hn).trans hv) h) hd
theorem a2q{x:Str}{v:V}{u:aH}{pos:Pos}(hg:Gl X x)(hm:X.mg x=ZX)(hv:cM x=ZY u)(r:RelV v u)(hn:x ≠ "__name__" := by decide)(hd:(x==("__debug__" : Str))=ZV:=by decide):PE X (.Name x pos) (tC v) :=
 λ_ _ _ H _ I h=>ahh I hg hm hv ⟨v,H,I,r,h⟩ hn hd
variable{a b:dH}{ta tb:TE}{pos:Pos}
def PC(X:Cx)(op:tZ)(a b:dH)(t:TE):Prop :=
 ∀(qv:List (aY×Obj)) (s:aO) (σ:St) (H:Hp) (Q:VK),Inv X qv σ H s->t σ H Q ->
  bT (cA X.prog X.w) X.A (eval a X.env) (λv s₁=>bT (cA X.prog X.w) X.A (eval b X.env) (λu s₂=>bT (cA X.prog X.w) X.A (fD op v u) (EP X qv σ Q) X.xe s₂) X.xe s₁) X.xe s
theorem ayj(b:dH){op:tZ}(h:op≠.In)(h2:op≠.NotIn):gW op b=ZV:=by
 have e1:(op==CmpOp.In)=ZV:=by cases op <;> first | rfl | exact absurd rfl h
 have e2:(op==CmpOp.NotIn)=ZV:=by cases op <;> first | rfl | exact absurd rfl h2
 cases b <;> simp[gW,e1,e2]
def tIsN(ta:TE):TE:=λσ H Q=>ta σ H λx H1=>Q (.bl (decide (x=.non))) H1
def a5n(ta:TE):TE:=λσ H Q=>ta σ H λx H1=>Q (.bl (!decide (x=.non))) H1
theorem RelV.none_iff{x:V}{v:aH}(r:RelV x v):(v==fK)=decide (x=.non):=by
 cases x with
 | non=>cases r;rfl
 | bl _=>cases r;rfl
 | int _=>obtain⟨t,rfl⟩:=r;rfl
 | str _=>obtain⟨t,rfl⟩:=r;rfl
 | byt _=>obtain⟨t,rfl⟩:=r;rfl
 | flt _=>obtain⟨t,rfl⟩:=r;rfl
 | ref _=>cases r;rfl
 | ty _=>cases r;rfl
theorem a65{j pos'}(ha:PE X a ta):PC X .Is a (.Constant .none j pos') (tIsN ta):=by
 intro qv s σ H Q I h;refine thn (ha qv s σ H _ I h) λv s1 ⟨x,H1,I1,r1,q1⟩ =>?_
 exact Constant_none (is_none_gen ⟨.bl _,H1,I1,by rw[r1.none_iff];rfl,q1⟩)
theorem a2r{j pos'}(ha:PE X a ta):PC X .IsNot a (.Constant .none j pos') (a5n ta):=by
 intro qv s σ H Q I h;refine thn (ha qv s σ H _ I h) λv s1 ⟨x,H1,I1,r1,q1⟩ =>?_
 exact Constant_none (isnot_none_gen ⟨.bl _,H1,I1,by rw[r1.none_iff];rfl,q1⟩)
def tB(t:TE):TT:=λσ H Q=>t σ H λx H1=>∃c,x=.bl c/\Q c H1
theorem a0g{op:tZ}{t:TE}(h:PC X op a b t)(h1:gW op b=ZV:=by first | exact ayj _ (by decide) (by decide) | rfl):PT X (.Compare a [op] [b] pos) (tB t):=by
 intro qv s σ H Q I hw;refine wpAny_isTrue_Compare1 (thn (h qv s σ H _ I hw) λv s1 h1=>thn h1 λu s2 h2=>thn h2 λc s3 ⟨x,H1,I1,r1,q1⟩ =>?_) h1
 obtain⟨d,rfl,q⟩:=q1;cases r1;exact fP ⟨H1,I1,q⟩
theorem a6j{e:dH}{t:TE}(h:PE X e t)(he:∀whole,isTrue e X.env whole=(do let v <-whole;standAt e.pos;kW [v] (truthy v)):=by intro _;rfl):PT X e (tB t):=by
 intro qv s σ H Q I hw;refine isTrue_plain (thn (h qv s σ H _ I hw) λv s1 ⟨x,H1,I1,r1,q1⟩ =>?_) (he _)
 obtain⟨d,rfl,q⟩:=q1;cases r1;exact fP ⟨H1,I1,q⟩
variable{tA tB':TT}{rest:List dH}
def tAnd(t u:TT):TT:=λσ H Q=>t σ H λc H1=>if c=ZW then u σ H1 Q else Q ZV H1
def tOr(t u:TT):TT:=λσ H Q=>t σ H λc H1=>if c=ZW then Q ZW H1 else u σ H1 Q
def tNot(t:TT):TT:=λσ H Q=>t σ H λc H1=>Q (!c) H1
theorem a2b(ha:PT X a tA):PW X (.BoolOp .And [a] pos) tA:=by
 intro wh qv s σ H Q I h;refine isTrue_and (thn (ha qv s σ H Q I h) λc s1 e =>?_)
 cases c with
 | true=>exact isTrue_and_nil e
 | false=>exact e
theorem a6f(ha:PT X a tA):PW X (.BoolOp .Or [a] pos) tA:=by
 intro wh qv s σ H Q I h;refine isTrue_or (thn (ha qv s σ H Q I h) λc s1 e =>?_)
 cases c with
 | false=>exact isTrue_or_nil e
 | true=>exact e
theorem a6g(ha:PT X a tA)(hb:PW X (.BoolOp .And (b::rest) pos) tB'):PW X (.BoolOp .And (a::b::rest) pos) (tAnd tA tB'):=by
 intro wh qv s σ H Q I h;refine isTrue_and (thn (ha qv s σ H _ I h) λc s1 ⟨H1,I1,q1⟩ =>?_)
 cases c with
 | true=>exact hb wh qv s1 σ H1 Q I1 q1
 | false=>exact⟨H1,I1,q1⟩
theorem bav(ha:PT X a tA)(hb:PW X (.BoolOp .Or (b::rest) pos) tB'):PW X (.BoolOp .Or (a::b::rest) pos) (tOr tA tB'):=by
 intro wh qv s σ H Q I h;refine isTrue_or (thn (ha qv s σ H _ I h) λc s1 ⟨H1,I1,q1⟩ =>?_)
 cases c with
 | true=>exact⟨H1,I1,q1⟩
 | false=>exact hb wh qv s1 σ H1 Q I1 q1
theorem a6k(ha:PT X a tA):PT X (.UnaryOp .Not a pos) (tNot tA):=by
 intro qv s σ H Q I h;exact isTrue_not (ha qv s σ H (λc H1=>Q (!c) H1) I h)
def baj(ta tb:TE):TE:=λσ H Q=>ta σ H λx H1=>∃c,x=.bl c/\if c=ZW then tb σ H1 Q else Q (.bl ZV) H1
def bab(ta:TE):TE:=λσ H Q=>ta σ H λx H1=>∃c,x=.bl c/\Q (.bl (!c)) H1
theorem a6r{op}{t:TE}(h:PE X a t):PE X (.BoolOp op [a] pos) t:=λqv s σ H Q I hw=>BoolOp_one (h qv s σ H Q I hw)
theorem a6z(ha:PE X a ta)(hb:PE X (.BoolOp .And (b::rest) pos) tb):PE X (.BoolOp .And (a::b::rest) pos) (baj ta tb):=by
 intro qv s σ H Q I h;refine BoolOp_and (thn (ha qv s σ H _ I h) λv s1 ⟨x,H1,I1,r1,q1⟩ =>?_)
 obtain⟨c,rfl,q1⟩:=q1;cases r1;refine fP ?_;cases c with
 | true=>exact hb qv s1 σ H1 Q I1 q1
 | false=>exact⟨.bl ZV,H1,I1,rfl,q1⟩
theorem a6s(ha:PE X a ta):PE X (.UnaryOp .Not a pos) (bab ta):=by
 intro qv s σ H Q I h;refine UnaryOp_ (thn (ha qv s σ H _ I h) λv s1 ⟨x,H1,I1,r1,q1⟩ =>?_)
 obtain⟨c,rfl,q1⟩:=q1;cases r1;exact not_of (fP ⟨.bl (!c),H1,I1,rfl,q1⟩)
def tIf(t:TT)(ta tb:TE):TE:=λσ H Q=>t σ H λc H1=>if c=ZW then ta σ H1 Q else tb σ H1 Q
theorem ax3{c:dH}(hc:PT X c tA)(ha:PE X a ta)(hb:PE X b tb):PE X (.IfExp c a b pos) (tIf tA ta tb):=by
 intro qv s σ H Q I h;refine wpAny_IfExp (thn (hc qv s σ H _ I h) λd s1 ⟨H1,I1,q1⟩ =>?_)
 cases d with
 | true=>exact ha qv s1 σ H1 Q I1 q1
 | false=>exact hb qv s1 σ H1 Q I1 q1
end
def SqL(K:Fg9)(H:Hp)(a:aY)(xs:List V):Prop :=
 Rd H a (.lst xs) ∨
  ∃(o:Obj) (its:Array aH) (n:Nat),K.lookup a=ZY o/\o.cls=.type "list" /\ o.dict=ZX/\o.data=.seq its n/\its.size<=cO/\Vals xs its.toList
def SqT(K:Fg9)(H:Hp)(a:aY)(xs:List V):Prop :=
 Rd H a (.tup xs) ∨
  ∃(o:Obj) (its:Array aH) (n:Nat),K.lookup a=ZY o/\o.cls=.type "tuple" /\ o.data=.seq its n/\its.size<=cO/\Vals xs its.toList
noncomputable def absV:aH->Option V
 | .none=>ZY .non
 | .bool b=>ZY (.bl b)
 | .int i _=>ZY (.int i)
 | .str x _=>ZY (.str x)
 | .bytes b _=>ZY (.byt b)
 | .float b _=>ZY (.flt b)
 | .ref a=>ZY (.ref a)
 | .type n=>ZY (.ty n)
 | _=>ZX
theorem RelV.abs{x:V}{u:aH}(r:RelV x u):absV u=ZY x:=by
 cases x with
 | non=>cases r;rfl
 | bl _=>cases r;rfl
 | int _=>obtain⟨t,rfl⟩:=r;rfl
 | str _=>obtain⟨t,rfl⟩:=r;rfl
 | byt _=>obtain⟨t,rfl⟩:=r;rfl
 | flt _=>obtain⟨t,rfl⟩:=r;rfl
 | ref _=>cases r;rfl
 | ty _=>cases r;rfl
theorem RelV.inj{x y:V}{u:aH}(r:RelV x u)(q:RelV y u):x=y:=bO (r.abs.symm.trans q.abs)
theorem Vals.inj:∀{xs ys:List V} {us:List aH},Vals xs us->Vals ys us->xs=ys
 | _,_,_,.nil,.nil=>rfl
 | _,_,_,.cons r t,.cons r' t'=>by rw[r.inj r',Vals.inj t t']
section
variable{X:Cx}{qv:List (aY×Obj)}{σ:St}{H:Hp}{s:aO}{a:aY}{xs ys:List V}
theorem SqL.of{K:Fg9}(h:H a=ZY (.lst xs)):SqL K H a xs:=.inl (.inl h)
theorem SqT.of{K:Fg9}(h:H a=ZY (.tup xs)):SqT K H a xs:=.inl (.inl h)
theorem Inv.list(I:Inv X qv σ H s)(h:SqL X.K H a xs):∃its:List aH,Vals xs its/\PlainL s.heap a its.toArray/\xs.length<=cO:=by
 rcases h with h | ⟨o,its,n,hk,hc,hd,hs,hz,r⟩
 ·obtain⟨z,its,n,r,e⟩:=h.ok I.hok;exact⟨its,r,⟨_,n,e,rfl,rfl,rfl⟩,z⟩
 ·refine⟨its.toList,r,⟨o,n,I.kIn a o hk,hc,hd,by simpa using hs⟩,?_⟩
  have e:=r.length;simp only[jF] at e;omega
theorem Inv.tuple(I:Inv X qv σ H s)(h:SqT X.K H a xs):∃its:List aH,Vals xs its/\vC s.heap a its.toArray/\xs.length<=cO:=by
 rcases h with h | ⟨o,its,n,hk,hc,hs,hz,r⟩
 ·obtain⟨z,its,r,p⟩:=h.ok I.hok;exact⟨its,r,p.tup,z⟩
 ·refine⟨its.toList,r,⟨o,I.kIn a o hk,hc,n,by simpa using hs⟩,?_⟩
  have e:=r.length;simp only[jF] at e;omega
theorem Inv.list_inj(I:Inv X qv σ H s)(h:SqL X.K H a xs)(h':SqL X.K H a ys):xs=ys:=by
 obtain⟨its,r,⟨o,n,e,_,_,d⟩,_⟩:=I.list h;obtain⟨its',r',⟨o',n',e',_,_,d'⟩,_⟩:=I.list h';rw[e] at e';cases e';rw[d] at d'
 injection d' with d1 _
 have:its=its':=by simpa using congrArg uR d1
 subst this;exact r.inj r'
theorem Inv.tuple_inj(I:Inv X qv σ H s)(h:SqT X.K H a xs)(h':SqT X.K H a ys):xs=ys:=by
 obtain⟨its,r,⟨o,e,_,n,d⟩,_⟩:=I.tuple h;obtain⟨its',r',⟨o',e',_,n',d'⟩,_⟩:=I.tuple h';rw[e] at e';cases e';rw[d] at d'
 injection d' with d1 _
 have:its=its':=by simpa using congrArg uR d1
 subst this;exact r.inj r'
end
abbrev Cx.wish(X:Cx)(E:aH->aO->Prop):Cx:={ X with xe:=E }
abbrev Cx.nox(X:Cx):Cx:=X.wish λ_ _=>False
theorem Cx.Ok.wish{X:Cx}(ok:X.Ok)(E:aH->aO->Prop):(X.wish E).Ok :=
 ⟨ok.mod,ok.kind,ok.glob,ok.blt,ok.above,ok.inj,ok.has,ok.cab,ok.hd,ok.frames,ok.stk,ok.exf,ok.bs,ok.bsz,ok.noex,ok.exfs,ok.funs,ok.frf⟩
theorem Cx.Ok.unwish{X:Cx}{E:aH->aO->Prop}(ok:(X.wish E).Ok):X.Ok :=
 ⟨ok.mod,ok.kind,ok.glob,ok.blt,ok.above,ok.inj,ok.has,ok.cab,ok.hd,ok.frames,ok.stk,ok.exf,ok.bs,ok.bsz,ok.noex,ok.exfs,ok.funs,ok.frf⟩
section
variable{X:Cx}{qv:List (aY×Obj)}{σ:St}{H:Hp}{s:aO}{E:aH->aO->Prop}
theorem Inv.wish(I:Inv X qv σ H s)(E:aH->aO->Prop):Inv (X.wish E) qv σ H s:=⟨I.ok.wish E,I.os,I.bare,I.base,I.loc,I.cell,I.free,I.freeC,I.pin,I.hok,I.len⟩
theorem Inv.unwish(I:Inv (X.wish E) qv σ H s):Inv X qv σ H s:=⟨I.ok.unwish,I.os,I.bare,I.base,I.loc,I.cell,I.free,I.freeC,I.pin,I.hok,I.len⟩
theorem SP.unwish{D:Ends}{f:Flow}{s':aO}(h:SP (X.wish E) qv D f s'):SP X qv D f s':=by
 cases f with
 | next=>obtain⟨σ',H',I,q⟩:=h;exact⟨σ',H',I.unwish,q⟩
 | brk=>obtain⟨σ',H',I,q⟩:=h;exact⟨σ',H',I.unwish,q⟩
 | cont=>obtain⟨σ',H',I,q⟩:=h;exact⟨σ',H',I.unwish,q⟩
 | ret u=>obtain⟨v,σ',H',I,r,q⟩:=h;exact⟨v,σ',H',I.unwish,r,q⟩
theorem PSs.nox{st:List gU}{t:TS}(h:PSs X.nox st t):PSs X st t:=λqv s σ H D I hw =>
 cU (h qv s σ H D (I.wish _) hw) (λ_ _ q=>q.unwish) λ_ _ z=>iU z
end
section
variable{X:Cx}{st:gU}{rest:List gU}{t u:TS}{e:dH}{te:TE}{pos:Pos}
def bac:TS:=λD σ H=>D.nx σ H
def tSeq(t u:TS):TS:=λD σ H=>t { D with nx:=u D } σ H
theorem aue:PSs X [] bac:=λ_ _ σ H _ I h=>wpAny_execs_nil ⟨σ,H,I,h⟩
theorem ph(h1:PS X st t)(h2:PSs X rest u):PSs X (st::rest) (tSeq t u):=by
 intro qv s σ H D I h;refine wpAny_execs_cons (thn (h1 qv s σ H { D with nx:=u D } I h) λf s1 q =>?_)
 cases f with
 | next =>
  obtain⟨σ',H',I',q⟩:=q;exact h2 qv s1 σ' H' D I' q
 | ret v=>exact q
 | brk=>exact q
 | cont=>exact q
theorem akd(h1:PS X st t):PSs X [st] t:=by
 intro qv s σ H D I h;refine wpAny_execs_cons (thn (h1 qv s σ H D I h) λf s1 q =>?_)
 cases f with
 | next=>exact wpAny_execs_nil q
 | ret v=>exact q
 | brk=>exact q
 | cont=>exact q
theorem Inv.quiet{qv:List (aY×Obj)}{σ:St}{H:Hp}{s:aO}(I:Inv X qv σ H s):interactive X.env=ZV:=by simp[interactive,I.ok.kind]
def bag(te:TE):TS:=λD σ H=>te σ H λ_ H1=>D.nx σ H1
theorem aoc(he:PE X e te)(hs:fY e ZX pos.line X.env=pure ZV:=by rfl):PS X (.Expr e pos) (bag te):=by
 intro qv s σ H D I h;exact wpAny_Expr_any (thn (he qv s σ H _ I h) λv s1 ⟨x,H1,I1,r1,q1⟩=>⟨σ,H1,I1,q1⟩) I.quiet hs
def tRet(te:TE):TS:=λD σ H=>te σ H D.rt
theorem a0h(he:PE X e te):PS X (.Return (ZY e) pos) (tRet te):=by
 intro qv s σ H D I h;exact wpAny_Return_some (thn (he qv s σ H _ I h) λv s1 ⟨x,H1,I1,r1,q1⟩=>⟨x,σ,H1,I1,r1,q1⟩)
def tIfS(c:TT)(t u:TS):TS:=λD σ H=>c σ H λb H1=>if b=ZW then t D σ H1 else u D σ H1
theorem bay{c:dH}{a b:List gU}{tc:TT}(hc:PT X c tc)(ha:PSs X a t)(hb:PSs X b u):PS X (.If c a b pos) (tIfS tc t u):=by
 intro qv s σ H D I h;refine wpAny_If (thn (hc qv s σ H _ I h) λd s1 ⟨H1,I1,q1⟩ =>?_)
 cases d with
 | true=>exact ha qv s1 σ H1 D I1 q1
 | false=>exact hb qv s1 σ H1 D I1 q1
def a5o:TS:=λ_ _ _=>False
theorem axz:PS X st a5o:=λ_ _ _ _ _ _ h=>h.elim
end
abbrev TG:=V->St->Hp->(St->Hp->Prop)->Prop
abbrev TGs:=List V->St->Hp->(St->Hp->Prop)->Prop
def PG(X:Cx)(target:dH)(t:TG):Prop :=
 ∀(qv:List (aY×Obj)) (s:aO) (σ:St) (H:Hp) (v:V) (u:aH) (Q:St->Hp->Prop),Inv X qv σ H s->RelV v u->t v σ H Q ->
  bT (cA X.prog X.w) X.A (lG target X.env u) (λ_ s'=>∃σ' H',Inv X qv σ' H' s'/\Q σ' H') X.xe s
def PGs(X:Cx)(ts:List dH)(t:TGs):Prop :=
 ∀(qv:List (aY×Obj)) (s:aO) (σ:St) (H:Hp) (vs:List V) (us:List aH) (Q:St->Hp->Prop),Inv X qv σ H s->Vals vs us->t vs σ H Q ->
  bT (cA X.prog X.w) X.A (assignInOrder ((eX ts X.env).map (·.2)) us) (λ_ s'=>∃σ' H',Inv X qv σ' H' s'/\Q σ' H') X.xe s
abbrev TSet:=V->V->V->Hp->(Hp->Prop)->Prop
def PSet(X:Cx)(t:TSet):Prop :=
 ∀(qv:List (aY×Obj)) (s:aO) (σ:St) (H:Hp) (o i v:V) (ov iv u:aH) (Q:Hp->Prop),Inv X qv σ H s->RelV o ov->RelV i iv->RelV v u->t o i v H Q ->
  bT (cA X.prog X.w) X.A (setItem ov iv u) (λ_ s'=>∃H',Inv X qv σ H' s'/\Q H') X.xe s
abbrev TIp:=V->V->Hp->VK->Prop
def PIp(X:Cx)(op:mX)(t:TIp):Prop :=
 ∀(qv:List (aY×Obj)) (s:aO) (σ:St) (H:Hp) (x y:V) (v u:aH) (Q:VK),Inv X qv σ H s->RelV x v->RelV y u->t x y H Q ->
  bT (cA X.prog X.w) X.A (inplaceOp op v u) (EP X qv σ Q) X.xe s
section
variable{X:Cx}{pos:Pos}
def aza(i:Nat):TG:=λv σ H Q=>Q (σ.set i (ZY v)) H
theorem aoe{i:Nat}{x:Str}(hN:X.N.Nodup)(hi:X.N[i]? = ZY x)(hx:Loc X.env.scope x)(hf:X.fn x=ZW∨X.env.scope.names.lookup x=ZY .local:=by first | exact .inl rfl | exact .inr rfl | assumption):PG X (.Name x pos) (aza i):=by
 intro qv s σ H v u Q I r h;exact wpAny_assign_Name (ajv I hN hi hx r (λs' I'=>⟨_,H,I',h⟩) hf)
def gNil:TGs:=λvs σ H Q=>vs=[]/\Q σ H
def bb3(t:TG)(u:TGs):TGs:=λvs σ H Q=>∃v r,vs=v::r/\t v σ H λσ' H'=>u r σ' H' Q
theorem auo:PGs X [] gNil:=by
 intro qv s σ H vs us Q I r h;obtain⟨e,h⟩:=h;subst e;cases r;exact assignInOrder_nil ⟨σ,H,I,h⟩
theorem akh{e:dH}{es:List dH}{t:TG}{u:TGs}(h1:PG X e t)(h2:PGs X es u)
  (hs:(eX (e::es) X.env).map (·.2)=lG e X.env::(eX es X.env).map (·.2):=by rfl):PGs X (e::es) (bb3 t u):=by
 intro qv s σ H vs us Q I r h;obtain⟨v,vr,e1,h⟩:=h;subst e1;cases r with
 | cons r rr =>
  rw[hs];refine assignInOrder_cons (thn (h1 qv s σ H _ _ _ I r h) λ_ s1 ⟨σ1,H1,I1,q1⟩ =>?_)
  exact h2 qv s1 σ1 H1 _ _ Q I1 rr q1
def gTup(K:Fg9)(n:Nat)(t:TGs):TG:=λv σ H Q=>∃a xs,v=.ref a/\SqT K H a xs/\xs.length=n/\t xs σ H Q
theorem a0k{es:List dH}{k:Nat}{t:TGs}{n:Nat}(hc:X.calm=ZW)(h:PGs X es t)
  (hn:(eX es X.env).length=n:=by rfl) (hst:(eX es X.env).findIdx? (·.1)=ZX:=by rfl):PG X (.Tuple es k pos) (gTup X.K n t):=by
 intro qv s σ H v u Q I r hw;obtain⟨a,xs,e1,hq,hl,hw⟩:=hw;subst e1;cases r;obtain⟨its,rv,ht,hz⟩:=I.tuple hq;refine assign_Tuple_tuple (I.ok.hd hc) ht (by simp[hn,<-hl,rv.length]) hst λh' hx =>?_
 have I1:Inv X qv σ H { s with heap:=h' }:=I.kept (t':=s.toks) λb o e=>hx b o (bQ (aV e)) e
 exact h qv _ σ H xs _ Q I1 (by simpa using rv) hw
def gSub(to ti:TE)(t:TSet):TG:=λv σ H Q=>to σ H λo H1=>ti σ H1 λi H2=>t o i v H2 λH3=>Q σ H3
theorem a0l{o i:dH}{to ti:TE}{t:TSet}(ho:PE X o to)(hi:PE X i ti)(hs:PSet X t)
  (ha:∀v,lG (.Subscript o i pos) X.env v=(do
   let ov <-kW [v] (eval o X.env)
   let iv <-kW [v,ov] (eval i X.env)
   standAt pos
   kW [v,ov,iv] (setItem ov iv v)
   release [v,ov,iv] []):=by intro _;rfl):PG X (.Subscript o i pos) (gSub to ti t):=by
 intro qv s σ H v u Q I r h;rw[ha];refine aB (fV (thn (ho qv s σ H _ I h) λov s1 ⟨x,H1,I1,r1,q1⟩ =>?_))
 refine aB (fV (thn (hi qv s1 σ H1 _ I1 q1) λiv s2 ⟨y,H2,I2,r2,q2⟩ =>?_))
 refine aB (wpAny_standAt (aB (fV (thn (hs qv s2 σ H2 x y v ov iv u _ I2 r1 r2 r q2) λ_ s3 ⟨H3,I3,q3⟩ =>?_))))
 exact wpAny_release ⟨σ,H3,I3,q3⟩
def tAsg(te:TE)(g:TG):TS:=λD σ H=>te σ H λx H1=>g x σ H1 D.nx
theorem ap1{tg e:dH}{te:TE}{g:TG}(he:PE X e te)(hg:PG X tg g)(hs:swapsWithSole [tg] e pos.line X.env=pure ZV:=by rfl)(hw:swappedStores [tg] e X.env=pure ZX:=by rfl)
  (h1:(eX [tg] X.env).map (·.2)=[lG tg X.env]:=by rfl):PS X (.Assign [tg] e pos) (tAsg te g):=by
 intro qv s σ H D I h;refine wpAny_Assign_stores (thn (he qv s σ H _ I h) λv s1 ⟨x,H1,I1,r1,q1⟩ =>?_) hs hw
 rw[h1];exact thn (hg qv s1 σ H1 x v _ I1 r1 q1) λ_ s2 q=>q
theorem ag0{i:Nat}{x:Str}{e:dH}{te:TE}{pos':Pos}(hN:X.N.Nodup)(hi:X.N[i]? = ZY x)(hx:Loc X.env.scope x)(he:PE X e te)(hs:fY e (ZY (.Name x pos')) pos.line X.env=pure ZV:=by rfl)(hf:X.fn x=ZW∨X.env.scope.names.lookup x=ZY .local:=by first | exact .inl rfl | exact .inr rfl | assumption) :
  PS X (.Assign [.Name x pos'] e pos) (tAsg te (aza i)):=by
 intro qv s σ H D I h;refine wpAny_Assign_Name (thn (he qv s σ H _ I h) λv s1 ⟨y,H1,I1,r1,q1⟩ =>?_) hs
 exact ajv I1 hN hi hx r1 (λs2 I2=>⟨_,H1,I2,q1⟩) hf
def tAug(i:Nat)(te:TE)(ti:TIp):TS:=λD σ H=>∃x,σ[i]? = ZY (ZY x)/\te σ H λy H1=>ti x y H1 λz H2=>D.nx (σ.set i (ZY z)) H2
theorem a6m{i:Nat}{x:Str}{e:dH}{te:TE}{op:mX}{ti:TIp}{pos':Pos}(hN:X.N.Nodup)(hi:X.N[i]? = ZY x)(hx:Loc X.env.scope x)(he:PE X e te)(ho:PIp X op ti)(hf:X.fn x=ZW∨X.env.scope.names.lookup x=ZY .local:=by first | exact .inl rfl | exact .inr rfl | assumption) :
  PS X (.AugAssign (.Name x pos') op e pos) (tAug i te ti):=by
 intro qv s σ H D I h;obtain⟨v,e1,h⟩:=h;obtain⟨m,hn,hl⟩:=I.loc;have vis:Vis X.env.scope x:=by rcases hx with k | k;exact .inl k;exact .inr (.inl k)
 obtain⟨u,r,l⟩:=hl i x v hi e1 vis;refine wpAny_AugAssign_Name ?_;have go:bT (cA X.prog X.w) X.A (eval e X.env) (λw s₂=>bT (cA X.prog X.w) X.A (inplaceOp op u w) (λr s₃=>bT (cA X.prog X.w) X.A (storeName X.env x r) (λ_=>SP X qv D .next) X.xe s₃) X.xe s₂) X.xe s:=by
  refine thn (he qv s σ H _ I h) λw s1 ⟨y,H1,I1,r1,q1⟩ =>?_
  refine thn (ho qv s1 σ H1 v y u w _ I1 r r1 q1) λz s2 ⟨zv,H2,I2,r2,q2⟩ =>?_
  exact ajv I2 hN hi hx r2 (λs3 I3=>⟨_,H2,I3,q2⟩) hf
 rcases l with⟨hk,hm⟩ | ⟨hk,c,hc,hcell⟩
 ·exact wpAny_loadName_local I.ok.kind hk hn hm go
 ·rcases hk with hk | hk
  ·exact wpAny_loadName_cell I.ok.kind hk hc hcell go
  ·rcases hx with k | k
   ·have:X.env.scope.names.lookup x=ZY .free:=hk;rw[k] at this;cases this
   ·have:X.env.scope.names.lookup x=ZY .free:=hk;rw[k] at this;cases this
def bai(to ti te:TE)(tget:V->V->Hp->VK->Prop)(tip:TIp)(tset:TSet):TS:=λD σ H=>to σ H λo H1=>ti σ H1 λi H2=>tget o i H2 λx H3=>te σ H3 λy H4=>tip x y H4 λz H5=>tset o i z H5 λH6=>D.nx σ H6
def PGet(X:Cx)(t:V->V->Hp->VK->Prop):Prop :=
 ∀(qv:List (aY×Obj)) (s:aO) (σ:St) (H:Hp) (o i:V) (ov iv:aH) (Q:VK),Inv X qv σ H s->RelV o ov->RelV i iv->t o i H Q ->
  bT (cA X.prog X.w) X.A (pY ov iv) (EP X qv σ Q) X.xe s
theorem a2d{o i e:dH}{to ti te:TE}{tget:V->V->Hp->VK->Prop}{tip:TIp}{tset:TSet}{op:mX}{tpos:Pos}(ho:PE X o to)(hi:PE X i ti)(hg:PGet X tget)(he:PE X e te)(hp:PIp X op tip)(hs:PSet X tset)
  (ha:∀ov iv new,augStore i ov iv new=(do kW [new,ov,iv] (setItem ov iv new);release [new,ov,iv] [];pure .next):=by intros;rfl):PS X (.AugAssign (.Subscript o i tpos) op e pos) (bai to ti te tget tip tset):=by
 intro qv s σ H D I h;refine wpAny_AugAssign_SubscriptAny (thn (ho qv s σ H _ I h) λov s1 ⟨x1,H1,I1,r1,q1⟩ =>?_) ha
 refine thn (hi qv s1 σ H1 _ I1 q1) λiv s2 ⟨x2,H2,I2,r2,q2⟩ =>?_
 refine thn (hg qv s2 σ H2 x1 x2 ov iv _ I2 r1 r2 q2) λold s3 ⟨x3,H3,I3,r3,q3⟩ =>?_
 refine thn (he qv s3 σ H3 _ I3 q3) λv s4 ⟨x4,H4,I4,r4,q4⟩ =>?_
 refine thn (hp qv s4 σ H4 x3 x4 old v _ I4 r3 r4 q4) λnew s5 ⟨x5,H5,I5,r5,q5⟩ =>?_
 exact thn (hs qv s5 σ H5 x1 x2 x5 ov iv new _ I5 r1 r2 r5 q5) λ_ s6 ⟨H6,I6,q6⟩=>⟨σ,H6,I6,q6⟩
def ipI(f:Int->Int->Int):TIp:=λx y H Q=>∃i j,x=.int i/\y=.int j/\Q (.int (f i j)) H
theorem a0w:PIp X .Add (ipI λi j=>i+j):=by
 intro qv s σ H x y v u Q I r1 r2 h;obtain⟨i,j,e1,e2,q⟩:=h;subst e1;subst e2;obtain⟨t,rfl⟩:=r1;obtain⟨t',rfl⟩:=r2;exact iadd_int ⟨.int _,H,I.tok _,⟨_,rfl⟩,q⟩
end
section
variable{X:Cx}{pos:Pos}
def a5m(c:TT)(tb:TS):TS:=λD σ H=>∃W:Nat->St->Hp->Prop,(∃m,W m σ H)/\∀m σ H,W m σ H ->
 c σ H λb H1=>if b=ZW then ∃N:St->Hp->Prop,(∀σ' H',N σ' H'->∃m',m' < m/\W m' σ' H')/\tb { D with nx:=N,ct:=N,bk:=D.nx } σ H1 else D.nx σ H1
theorem ake{c:dH}{body:List gU}{tc:TT}{tb:TS}(hp:pP (cA X.prog X.w) X.A X.env X.xe)(hc:PT X c tc)(hb:PSs X body tb):PS X (.While c body [] pos) (a5m tc tb):=by
 intro qv s σ H D I h;obtain⟨W,⟨m0,w0⟩,turn⟩:=h;refine wpAny_While (codeAny_whileLoop (λn s'=>∃σ' H',Inv X qv σ' H' s'/\W n σ' H') ?_ m0 ⟨σ,H,I,w0⟩)
 rintro n s1 ⟨σ1,H1,I1,w1⟩
 refine wpAny_passesOwn hp (thn (hc qv s1 σ1 H1 _ I1 (turn n σ1 H1 w1)) λb s2 ⟨H2,I2,q2⟩ =>?_)
 cases b with
 | true =>
  obtain⟨N,hN,q2⟩:=q2;rw[if_pos rfl];refine wpAny_passesOwn hp (thn (hb qv s2 σ1 H2 _ I2 q2) λf s3 q3 =>?_)
  cases f with
  | next =>
   obtain⟨σ3,H3,I3,n3⟩:=q3;obtain⟨m',hm,w3⟩:=hN σ3 H3 n3;exact⟨m',hm,σ3,H3,I3,w3⟩
  | cont =>
   obtain⟨σ3,H3,I3,n3⟩:=q3;obtain⟨m',hm,w3⟩:=hN σ3 H3 n3;exact⟨m',hm,σ3,H3,I3,w3⟩
  | brk=>exact q3
  | ret v=>exact q3
 | false =>
  rw[if_neg dG];exact wpAny_execs_nil ⟨σ1,H2,I2,q2⟩
end
structure It where
 go:Nat->Hp->Prop
 yld:Nat->Hp->V->Hp->Prop
 stop:Nat->Hp->Prop
def FpOk(X:Cx)(qv:List (aY×Obj))(H:Hp)(b:aY):Prop :=
 H b=ZX/\b≠X.env.locals/\b∉X.fs/\(b∈X.ex∨X.s₀.heap.objs.size<=b)/\(∀x c,X.env.cells.lookup x=ZY c->c≠b)/\∀p∈X.pn++qv,p.1≠b
theorem Inv.fpOk{X:Cx}{qv:List (aY×Obj)}{σ:St}{H H':Hp}{s:aO}{b:aY}(I:Inv X qv σ H s)(hb:s.heap.objs.size<=b)(hn:H' b=ZX):FpOk X qv H' b:=by
 refine⟨hn,pB (cC I.lt hb),I.nofs hb,.inr (dC I.sz hb),λx c e z =>?_,λp hp z =>?_⟩
 ·obtain⟨v,q⟩:=I.cell x c e;exact absurd (cC q.lt (by rw[z];exact hb)) (jO _)
 ·exact absurd (cC (aV (I.pin p hp).1) (by rw[z];exact hb)) (jO _)
structure Turn (P:cG) (w:dZ) (K:Fg9) (tg:dH) (J:It) (fp:List aY) (it:aY) (tn:Nat->fH->Prop):Prop where
 mem:it∈fp
 obj:∀i h,tn i h->∀b∈fp,∃o,h.get? b=ZY o/\∀v,o.data≠.cell v
 keep:∀i h h',tn i h->(∀b∈fp,∀o,h.get? b=ZY o->h'.get? b=ZY o)->tn i h'
 item:∀(X:Cx),X.prog=P->X.w=w->X.K=K->X.calm=ZW->∀(i:Nat) (qv:List (aY×Obj)) (s:aO) (σ:St) (H:Hp) (E:aH->aO->Prop),Inv X qv σ H s->(∀b∈fp,FpOk X qv H b)->tn i s.heap->J.go i H ->
  bT (cA P w) X.A (pyNext (.ref it)) (λr s1=>∃u,r=ZY u /\
   bT (cA P w) X.A (letOwnedTupleGo tg (.ref it) u) (λ_ s2=>∃x H',Inv X qv σ H' s2/\RelV x u/\J.yld i H x H'/\tn (i+1) s2.heap/\∀b∈fp,H' b=ZX) E s1) E s
 done:∀(X:Cx),X.prog=P->X.w=w->X.K=K->X.calm=ZW->∀(i:Nat) (qv:List (aY×Obj)) (s:aO) (σ:St) (H:Hp) (E:aH->aO->Prop),Inv X qv σ H s->(∀b∈fp,FpOk X qv H b)->tn i s.heap->J.stop i H ->
  bT (cA P w) X.A (pyNext (.ref it)) (λr s1=>r=ZX/\Inv X qv σ H s1) E s
 self:∀(A:eG) (i:Nat) (s:aO) (Q:aH->aO->Prop) (E:aH->aO->Prop),tn i s.heap->Q (.ref it) s->bT (cA P w) A (pyIter (.ref it)) Q E s
abbrev TI:=St->Hp->(It->Hp->Prop)->Prop
def PIE(X:Cx)(qv:List (aY×Obj))(σ:St)(tg:dH)(R:It->Hp->Prop)(itv:aH)(s2:aO):Prop :=
 ∃(it:aY) (fp:List aY) (tn:Nat->fH->Prop) (J:It) (H':Hp),itv=.ref it/\Inv X qv σ H' s2/\Turn X.prog X.w X.K tg J fp it tn/\tn 0 s2.heap/\(∀b∈fp,FpOk X qv H' b)/\R J H'
def PI(X:Cx)(tg iter:dH)(wi:TI):Prop :=
 ∀(qv:List (aY×Obj)) (s:aO) (σ:St) (H:Hp) (R:It->Hp->Prop),Inv X qv σ H s->wi σ H R ->
  bT (cA X.prog X.w) X.A (eval iter X.env) (λv s1=>bT (cA X.prog X.w) X.A (pyIter v) (PIE X qv σ tg R) X.xe s1) X.xe s
theorem a3s{M:Model}{A:eG}{E:aH->aO->Prop}{s:aO}{tg:dH}{it:aY}{u:aH}{o:Obj}{n:String}{vs:Array aH}{Q:Unit->aO->Prop}(ho:s.heap.get? it=ZY o)(hc:o.cls=.type n)(hd:o.data=.fields vs)
  (hn:["enumerate","zip","dict_itemiterator","dict_reverseitemiterator","odict_iterator","itertools.zip_longest","itertools.pairwise"].contains n=ZV) (hQ:Q () s):bT M A (letOwnedTupleGo tg (.ref it) u) Q E s:=by
 unfold letOwnedTupleGo;cases tg <;> first
  | exact aR hQ
  | (cases u <;> first
    | exact aR hQ
    | (refine aB (wpAny_load ho ?_)
       rw[hc,hd];show bT M A (if (["enumerate","zip","dict_itemiterator","dict_reverseitemiterator","odict_iterator","itertools.zip_longest","itertools.pairwise"].contains n&&vs[0]? == ZY (rawInt _))=ZW then _ else _) Q E s
       rw[if_neg (by intro h;rw[hn,xV] at h;cases h)]
       exact aR hQ))
def Itl(K:Fg9)(a:aY):It :=
 ⟨λi H=>∃xs x,SqL K H a xs/\xs[i]? = ZY x,λi H x H'=>H'=H/\∀xs,SqL K H a xs->xs[i]? = ZY x,λi H=>∃xs,SqL K H a xs/\xs.length<=i⟩
def Itt(K:Fg9)(a:aY):It :=
 ⟨λi H=>∃xs x,SqT K H a xs/\xs[i]? = ZY x,λi H x H'=>H'=H/\∀xs,SqT K H a xs->xs[i]? = ZY x,λi H=>∃xs,SqT K H a xs/\xs.length<=i⟩
noncomputable def Itr(lo:Int)(n:Nat):It:=⟨λi _=>i < n,λi H x H'=>H'=H/\x=.int (lo+i),λi _=>n<=i⟩
theorem atg{P:cG}{w:dZ}{K:Fg9}{tg:dH}(a it:aY):Turn P w K tg (Itl K a) [it] it (λi h=>h.IsListIter it a i) where
 mem:=by simp
 obj:=λi h st b hb=>by
  have e:b=it:=by simpa using hb
  subst e;obtain⟨o,e,c,d⟩:=st;exact⟨o,e,λv z=>by rw[d] at z;cases z⟩
 keep:=λi h h' st k=>st.at λo e=>k it (by simp) o e
 item:=by
  intro X hP hw hK hc i qv s σ H E I hf st hg;subst hP hw hK;obtain⟨xs,x,hq,hx⟩:=hg;obtain⟨its,rv,p,hz⟩:=I.list hq;obtain⟨u,hu,ru⟩:=rv.get hx;obtain⟨f0,f1,f2,f3,f4,f5⟩:=hf it (by simp)
  refine wpAny_pyNext_list_item st p.isList (x:=u) (by simpa using hu) λh' st' sb =>?_
  have I1:Inv X qv σ H { s with heap:=h' }:=I.turned (t':=s.toks) (λb o hb e=>(sb.2 b hb).trans e) f0 f1 f3 f4 f5
  obtain⟨o,e,c,d⟩:=id st';exact⟨u,rfl,a3s (s:={ s with heap:=h' }) e c d (by decide) ⟨x,H,I1,ru,⟨rfl,λys hy=>by rw[I.list_inj hy hq];exact hx⟩,st',λb hb=>(hf b hb).1⟩⟩
 done:=by
  intro X hP hw hK hc i qv s σ H E I hf st hg;subst hP hw hK;obtain⟨xs,hq,hx⟩:=hg;obtain⟨its,rv,p,hz⟩:=I.list hq;obtain⟨f0,f1,f2,f3,f4,f5⟩:=hf it (by simp)
  have hl:=rv.length;exact wpAny_pyNext_list_end (I.ok.hd hc) st p.isList (by simp;omega) λh' eb=>⟨rfl,I.turned (t':=s.toks) (λb o hb e=>eb b o hb e) f0 f1 f3 f4 f5⟩
 self:=λ_ _ _ _ _ st h=>wpAny_pyIter_listiter st h
theorem arq{P:cG}{w:dZ}{K:Fg9}{tg:dH}(a it:aY):Turn P w K tg (Itt K a) [it] it (λi h=>h.IsTupleIter it a i) where
 mem:=by simp
 obj:=λi h st b hb=>by
  have e:b=it:=by simpa using hb
  subst e;obtain⟨o,e,c,d⟩:=st;exact⟨o,e,λv z=>by rw[d] at z;cases z⟩
 keep:=λi h h' st k=>st.at λo e=>k it (by simp) o e
 item:=by
  intro X hP hw hK hc i qv s σ H E I hf st hg;subst hP hw hK;obtain⟨xs,x,hq,hx⟩:=hg;obtain⟨its,rv,p,hz⟩:=I.tuple hq;obtain⟨u,hu,ru⟩:=rv.get hx;obtain⟨f0,f1,f2,f3,f4,f5⟩:=hf it (by simp)
  refine wpAny_pyNext_tuple_item st (show s.heap.IsTuple a its.toArray from p) (x:=u) (by simpa using hu) λh' st' sb =>?_
  have I1:Inv X qv σ H { s with heap:=h' }:=I.turned (t':=s.toks) (λb o hb e=>(sb.2 b hb).trans e) f0 f1 f3 f4 f5
  obtain⟨o,e,c,d⟩:=id st';exact⟨u,rfl,a3s (s:={ s with heap:=h' }) e c d (by decide) ⟨x,H,I1,ru,⟨rfl,λys hy=>by rw[I.tuple_inj hy hq];exact hx⟩,st',λb hb=>(hf b hb).1⟩⟩
 done:=by
  intro X hP hw hK hc i qv s σ H E I hf st hg;subst hP hw hK;obtain⟨xs,hq,hx⟩:=hg;obtain⟨its,rv,p,hz⟩:=I.tuple hq;obtain⟨f0,f1,f2,f3,f4,f5⟩:=hf it (by simp)
  have hl:=rv.length;exact wpAny_pyNext_tuple_end (I.ok.hd hc) st (show s.heap.IsTuple a its.toArray from p) (by simp;omega) λh' eb=>⟨rfl,I.turned (t':=s.toks) (λb o hb e=>eb b o hb e) f0 f1 f3 f4 f5⟩
 self:=λ_ _ _ _ _ st h=>wpAny_pyIter_tupleiter st h
theorem ars{P:cG}{w:dZ}{K:Fg9}{tg:dH}(it:aY)(lo:Int)(n:Nat):Turn P w K tg (Itr lo n) [it] it (λi h=>IsRangeIter h it (lo+(i:Nat)*1) ((n:Int) - (i:Nat)) 1) where
 mem:=by simp
 obj:=λi h st b hb=>by
  have e:b=it:=by simpa using hb
  subst e;exact⟨_,st,λv z=>by
   have z':Data.fields _=Data.cell v:=z;cases z'⟩
 keep:=λi h h' st k=>k it (by simp) _ st
 item:=by
  intro X hP hw hK hc i qv s σ H E I hf st hg;subst hP hw hK;obtain⟨f0,f1,f2,f3,f4,f5⟩:=hf it (by simp)
  have W:=Walks.range (prog:=X.prog) (w:=X.w) (I.ok.hd hc) it lo 1 n;refine W.item i s _ _ hg st λv h' tk hv st' kk =>?_
  obtain⟨t,rfl⟩:=hv;have I1:Inv X qv σ H { s with heap:=h',toks:=tk }:=I.turned (λb o hb e=>kk b o (by simpa using hb) e) f0 f1 f3 f4 f5
  refine⟨_,rfl,a3s (s:={ s with heap:=h',toks:=tk }) (n := "range_iterator") st' rfl rfl (by decide) ⟨.int (lo+i),H,I1,⟨t,?_⟩,⟨rfl,rfl⟩,st',λb hb=>(hf b hb).1⟩⟩
  rw[Int.mul_one]
 done:=by
  intro X hP hw hK hc i qv s σ H E I hf st hg;subst hP hw hK;obtain⟨f0,f1,f2,f3,f4,f5⟩:=hf it (by simp)
  exact wpAny_pyNext_range_end (I.ok.hd hc) st (by have:n<=i:=hg;omega) λh' eb=>⟨rfl,I.turned (t':=s.toks) (λb o hb e=>eb b o hb e) f0 f1 f3 f4 f5⟩
 self:=λ_ _ _ _ _ st h=>wpAny_pyIter_rangeiter st h
section
variable{X:Cx}{tg:dH}
def bbv(K:Fg9)(tl:TE):TI:=λσ H R=>tl σ H λx H1=>∃a,x=.ref a/\(∃xs,SqL K H1 a xs)/\R (Itl K a) H1
def iTup(K:Fg9)(tl:TE):TI:=λσ H R=>tl σ H λx H1=>∃a,x=.ref a/\(∃xs,SqT K H1 a xs)/\R (Itt K a) H1
theorem aun{l:dH}{tl:TE}(hl:PE X l tl):PI X tg l (bbv X.K tl):=by
 intro qv s σ H R I h;refine thn (hl qv s σ H _ I h) λv s1 ⟨x,H1,I1,r1,q1⟩ =>?_
 obtain⟨a,e,⟨xs,hq⟩,q⟩:=q1;subst e;cases r1;obtain⟨its,rv,p,hz⟩:=I1.list hq;refine wpAny_pyIter_list p.isList ?_;refine⟨s1.heap.objs.size,[s1.heap.objs.size],_,_,H1,rfl,I1.kept (t':=s1.toks) λb o e=>aD _ e,atg a _,⟨_,aW _ rfl,rfl,rfl⟩,λb hb =>?_,q⟩
 have e:b=s1.heap.objs.size:=by simpa using hb
 subst e;exact I1.fpOk (aM _) (I1.hok.fresh (aM _))
theorem a6o{l:dH}{tl:TE}(hl:PE X l tl):PI X tg l (iTup X.K tl):=by
 intro qv s σ H R I h;refine thn (hl qv s σ H _ I h) λv s1 ⟨x,H1,I1,r1,q1⟩ =>?_
 obtain⟨a,e,⟨xs,hq⟩,q⟩:=q1;subst e;cases r1;obtain⟨its,rv,p,hz⟩:=I1.tuple hq;refine wpAny_pyIter_tuple (show s1.heap.IsTuple a its.toArray from p) ?_
 refine⟨s1.heap.objs.size,[s1.heap.objs.size],_,_,H1,rfl,I1.kept (t':=s1.toks) λb o e=>aD _ e,arq a _,⟨_,aW _ rfl,rfl,rfl⟩,λb hb =>?_,q⟩
 have e:b=s1.heap.objs.size:=by simpa using hb
 subst e;exact I1.fpOk (aM _) (I1.hok.fresh (aM _))
theorem apz{qv:List (aY×Obj)}{σ:St}{H:Hp}{s:aO}{R:It->Hp->Prop}{E:aH->aO->Prop}{lo hi:Int}{t u v:Tok}{tk:Nat}(I:Inv X qv σ H s)(h1 : -(2 ^ 62)<=lo)(h2:lo < 2 ^ 62)(h3 : -(2 ^ 62)<=hi)(h4:hi < 2 ^ 62)
  (q:R (Itr lo (hi - lo).toNat) H):bT (cA X.prog X.w) X.A (pyIter (.ref s.heap.objs.size)) (PIE X qv σ tg R) E { s with heap:=s.heap.push { cls:=.type "range", data:=.fields #[.int lo t,.int hi u,.int 1 v] },toks:=tk }:=by
 refine wpAny_pyIter_range (IsRange.new ..) (small_one h1 h2 h3 h4) ?_;have I1:Inv X qv σ H { s with heap:=s.heap.push { cls:=.type "range", data:=.fields #[.int lo t,.int hi u,.int 1 v] },toks:=tk }:=I.kept λb o e=>aD _ e
 refine⟨(s.heap.push { cls:=.type "range", data:=.fields #[.int lo t,.int hi u,.int 1 v] }).objs.size,[(s.heap.push { cls:=.type "range", data:=.fields #[.int lo t,.int hi u,.int 1 v] }).objs.size],_,_,H,rfl,
  I1.kept (t':=tk) λb o e=>aD _ e,ars _ lo (hi - lo).toNat,?_,λb hb =>?_,q⟩
 ·have e1:lo+((0:Nat):Int)*1=lo:=by simp
  have e2:(((hi - lo).toNat:Nat):Int) - ((0:Nat):Int)=Builtin.Range.rangeSize lo hi 1:=by rw[rangeSize_one];split <;> omega
  show IsRangeIter _ _ (lo+((0:Nat):Int)*1) ((((hi - lo).toNat:Nat):Int) - ((0:Nat):Int)) 1;rw[e1,e2];exact aW _ rfl
 ·have e:b=(s.heap.push { cls:=.type "range", data:=.fields #[.int lo t,.int hi u,.int 1 v] }).objs.size:=by simpa using hb
  subst e;exact I1.fpOk (aM _) (I1.hok.fresh (aM _))
def bbu(ta:TA):TI:=λσ H R=>ta σ H λvs H1=>∃j:Int,vs=[.int j] /\ -(2 ^ 62)<=j/\j < 2 ^ 62/\R (Itr 0 j.toNat) H1
def bbt(ta:TA):TI:=λσ H R=>ta σ H λvs H1=>∃i j:Int,vs=[.int i,.int j]/\(-(2 ^ 62)<=i/\i < 2 ^ 62 /\ -(2 ^ 62)<=j/\j < 2 ^ 62)/\R (Itr i (j - i).toNat) H1
theorem aum{a:dH}{ta:TA}{p pos:Pos}(hg:Gl X "range")(hm:X.mg "range" = ZX)(ha:PA X [a] ta)(hs:bA [a] X.env=[(ZV,eval a X.env)]:=by rfl):PI X tg (.Call (.Name "range" p) [a] [] pos) (bbu ta):=by
 intro qv s σ H R I h;refine Call_ (ahh I hg hm boot_range (gM (thn (ha pos qv s σ H _ I h) λus s1 ⟨vs,H1,I1,r1,q1⟩ =>?_) hs rfl))
 obtain⟨j,e,q1,q2,q⟩:=q1;subst e;cases r1 with
 | cons r rr =>
  cases rr;obtain⟨t,rfl⟩:=r;exact call_range_1 (apz I1 (by omega) (by omega) q1 q2 (by simpa using q))
theorem aul{a b:dH}{ta:TA}{p pos:Pos}(hg:Gl X "range")(hm:X.mg "range" = ZX)(ha:PA X [a,b] ta)(hs:bA [a,b] X.env=[(ZV,eval a X.env),(ZV,eval b X.env)]:=by rfl)(hs2:bA [b] X.env=[(ZV,eval b X.env)]:=by rfl) :
  PI X tg (.Call (.Name "range" p) [a,b] [] pos) (bbt ta):=by
 intro qv s σ H R I h;refine Call_ (ahh I hg hm boot_range (gM (thn (ha pos qv s σ H _ I h) λus s1 ⟨vs,H1,I1,r1,q1⟩ =>?_) (by rw[hs,hs2]) (by rw[hs2];rfl)))
 obtain⟨i,j,e,⟨q1,q2,q3,q4⟩,q⟩:=q1;subst e;cases r1 with
 | cons r rr =>
  cases rr with
  | cons r' rr =>
   cases rr;obtain⟨t,rfl⟩:=r;obtain⟨t',rfl⟩:=r';exact call_range_2 (apz I1 q1 q2 q3 q4 q)
def tFor(wi:TI)(g:TG)(tb:TS):TS:=λD σ H=>wi σ H λJ H1=>∃W:Nat->Nat->St->Hp->Prop,(∃m,W 0 m σ H1)/\∀i m σ H,W i m σ H ->
 (J.stop i H/\D.nx σ H)∨(J.go i H/\∃N:St->Hp->Prop,(∀σ' H',N σ' H'->∃m',m' < m/\W (i+1) m' σ' H')/\∀x H',J.yld i H x H'->g x σ H' λσ2 H2=>tb { D with nx:=N,ct:=N,bk:=D.nx } σ2 H2)
noncomputable def als(fp:List aY)(h:fH):List (aY×Obj):=fp.filterMap λb=>(h.get? b).map λo=>(b,o)
theorem acn{fp:List aY}{h:fH}{b:aY}{o:Obj}(hb:b∈fp)(e:h.get? b=ZY o):(b,o)∈als fp h:=vL.mpr ⟨b,hb,by rw[e];rfl⟩
theorem auu{fp:List aY}{h:fH}{p:aY×Obj}(hp:p∈als fp h):p.1∈fp/\h.get? p.1=ZY p.2:=by
 obtain⟨b,hb,e⟩:=vL.mp hp;cases q:h.get? b with
 | none=>rw[q] at e;cases e
 | some o =>
  rw[q] at e;have e':(b,o)=p:=bO e;subst e';exact⟨hb,q⟩
theorem Inv.pinned{qv:List (aY×Obj)}{σ:St}{H:Hp}{s:aO}{fp:List aY}(I:Inv X qv σ H s)(hf:∀b∈fp,FpOk X qv H b)(ho:∀b∈fp,∃o,s.heap.get? b=ZY o/\∀v,o.data≠.cell v):Inv X (qv++als fp s.heap) σ H s :=
 I.pins_of λp hp=>(cN.mp hp).elim (λz=>I.pin p (cF _ z)) λz=>by
  obtain⟨hb,e⟩:=auu z;obtain⟨f0,f1,f2,_⟩:=hf p.1 hb;obtain⟨o,e',d⟩:=ho p.1 hb;rw[e] at e';cases e';exact⟨e,f0,f1,f2,d⟩
theorem Inv.unpinned{qv pl:List (aY×Obj)}{σ:St}{H:Hp}{s:aO}(I:Inv X (qv++pl) σ H s):Inv X qv σ H s:=I.pins_of λp hp=>I.pin p (cF _ (gF _ hp))
theorem a6l{iter:dH}{body:List gU}{wi:TI}{g:TG}{tb:TS}{pos:Pos}(hp:pP (cA X.prog X.w) X.A X.env X.xe)(hc:X.calm=ZW)(hi:PI X tg iter wi)(hg:PG X tg g)(hb:PSs X body tb)
  (hs:∀x,fB iter X.env x=pure x:=by intro _;rfl):PS X (.For tg iter body [] pos) (tFor wi g tb):=by
 intro qv s σ H D I h;refine wpAny_For (thn (hi qv s σ H _ I h) λv s1 h1=>thn h1 λitv s2 h2 =>?_) hs
 obtain⟨it,fp,tn,J,H2,e,I2,T,st2,f2,W,⟨m0,w0⟩,turn⟩:=h2;subst e;have stat:∀{H':Hp},(∀b∈fp,H' b=ZX)->∀b∈fp,FpOk X qv H' b:=λhn b hb=>⟨hn b hb,(f2 b hb).2⟩
 refine codeAny_forLoop_any (λn s'=>∃i σ' H',Inv X qv σ' H' s'/\tn i s'.heap/\(∀b∈fp,H' b=ZX)/\W i n σ' H') ?_ m0 ⟨0,σ,H2,I2,st2,λb hb=>(f2 b hb).1,w0⟩
 rintro n s3 ⟨i,σ3,H3,I3,st3,fr3,w3⟩
 rcases turn i n σ3 H3 w3 with⟨stop,qn⟩ | ⟨go,N,hN,step⟩
 ·refine wpAny_passesOwn hp (thn (T.done X rfl rfl rfl hc i qv s3 σ3 H3 X.xe I3 (stat fr3) st3 stop) λr s4 ⟨hr,I4⟩ =>?_)
  subst hr;exact wpAny_execs_nil ⟨σ3,H3,I4,qn⟩
 ·refine wpAny_passesOwn hp (thn (T.item X rfl rfl rfl hc i qv s3 σ3 H3 X.xe I3 (stat fr3) st3 go) λr s4 ⟨u,hr,h4⟩ =>?_)
  subst hr;refine wpAny_passesOwn hp (thn h4 λ_ s5 ⟨x,H5,I5,r5,y5,st5,fr5⟩ =>?_)
  have I5':=I5.pinned (stat fr5) (T.obj _ _ st5);refine wpAny_passesOwn hp (thn (hg _ s5 σ3 H5 x u _ I5' r5 (step x H5 y5)) λ_ s6 ⟨σ6,H6,I6,q6⟩ =>?_)
  refine wpAny_passesOwn hp (thn (hb _ s6 σ6 H6 _ I6 q6) λf s7 q7 =>?_)
  have again:∀{σ7:St} {H7:Hp},Inv X (qv++als fp s5.heap) σ7 H7 s7->N σ7 H7->∃m,m < n/\∃i σ' H',Inv X qv σ' H' s7/\tn i s7.heap/\(∀b∈fp,H' b=ZX)/\W i m σ' H':=λ{σ7 H7} I7 n7=>by
   obtain⟨m',hm,w7⟩:=hN σ7 H7 n7;refine⟨m',hm,i+1,σ7,H7,I7.unpinned,T.keep _ _ _ st5 λb hb o e=>(I7.pin (b,o) (cF _ (cF _ (acn hb e)))).1,λb hb =>?_,w7⟩
   obtain⟨o,e,d⟩:=T.obj _ _ st5 b hb;exact(I7.pin (b,o) (cF _ (cF _ (acn hb e)))).2.1
  cases f with
  | next=>obtain⟨σ7,H7,I7,n7⟩:=q7;exact again I7 n7
  | cont=>obtain⟨σ7,H7,I7,n7⟩:=q7;exact again I7 n7
  | brk=>obtain⟨σ7,H7,I7,q7⟩:=q7;exact⟨σ7,H7,I7.unpinned,q7⟩
  | ret v=>obtain⟨x7,σ7,H7,I7,r7,q7⟩:=q7;exact⟨x7,σ7,H7,I7.unpinned,r7,q7⟩
end
abbrev R2:=V->V->Hp->VK->Prop
def OpR(X:Cx)(f:aH->aH->Sem aH)(r:R2):Prop :=
 ∀(qv:List (aY×Obj)) (s:aO) (σ:St) (H:Hp) (x y:V) (v u:aH) (Q:VK),Inv X qv σ H s->RelV x v->RelV y u->r x y H Q ->
  bT (cA X.prog X.w) X.A (f v u) (EP X qv σ Q) X.xe s
def UnR(X:Cx)(f:aH->Sem aH)(r:V->Hp->VK->Prop):Prop :=
 ∀(qv:List (aY×Obj)) (s:aO) (σ:St) (H:Hp) (x:V) (v:aH) (Q:VK),Inv X qv σ H s->RelV x v->r x H Q ->
  bT (cA X.prog X.w) X.A (f v) (EP X qv σ Q) X.xe s
def afw(X:Cx)(f:aH)(r:List V->Hp->VK->Prop):Prop :=
 ∀(qv:List (aY×Obj)) (s:aO) (σ:St) (H:Hp) (xs:List V) (us:List aH) (Q:VK),Inv X qv σ H s->Vals xs us->r xs H Q ->
  bT (cA X.prog X.w) X.A (call f us) (EP X qv σ Q) X.xe s
def tOp(r:R2)(ta tb:TE):TE:=λσ H Q=>ta σ H λx H1=>tb σ H1 λy H2=>r x y H2 Q
def tUn(r:V->Hp->VK->Prop)(ta:TE):TE:=λσ H Q=>ta σ H λx H1=>r x H1 Q
def rI(C:Int->Int->Prop)(g:Int->Int->V):R2:=λx y H Q=>∃i j,x=.int i/\y=.int j/\C i j/\Q (g i j) H
def rI0(g:Int->Int->V):R2:=λx y H Q=>∃i j,x=.int i/\y=.int j/\Q (g i j) H
def rU(g:Int->V):V->Hp->VK->Prop:=λx H Q=>∃i,x=.int i/\Q (g i) H
section
variable{X:Cx}{a b c:dH}{ta tb tc:TE}{pos:Pos}
theorem binT(ha:PE X a ta)(hb:PE X b tb){qv:List (aY×Obj)}{s:aO}{σ:St}{H:Hp}{R:V->V->Hp->Prop}(I:Inv X qv σ H s)
  (h:ta σ H λx H1=>tb σ H1 λy H2=>R x y H2) {Q:aH->aO->Prop} {f:aH->aH->Sem aH}
  (hf:∀v u s2 x y H2,Inv X qv σ H2 s2->RelV x v->RelV y u->R x y H2->bT (cA X.prog X.w) X.A (f v u) Q X.xe s2) :
  bT (cA X.prog X.w) X.A (eval a X.env) (λv s₁=>bT (cA X.prog X.w) X.A (eval b X.env) (λu s₂=>bT (cA X.prog X.w) X.A (f v u) Q X.xe s₂) X.xe s₁) X.xe s:=by
 refine thn (ha qv s σ H _ I h) λv s1 ⟨x,H1,I1,r1,q1⟩ =>?_
 refine thn (hb qv s1 σ H1 _ I1 q1) λu s2 ⟨y,H2,I2,r2,q2⟩ =>?_
 exact hf v u s2 x y H2 I2 r1 r2 q2
theorem ba1{op:mX}{r:R2}(ho:OpR X (fO op) r)(ha:PE X a ta)(hb:PE X b tb):PE X (.BinOp a op b pos) (tOp r ta tb):=by
 intro qv s σ H Q I h;exact wpAny_BinOp (binT ha hb I h λv u s2 x y H2 I2 rx ry q=>ho qv s2 σ H2 x y v u Q I2 rx ry q)
theorem ba0{op:UnaryOp}{r:V->Hp->VK->Prop}(ho:UnR X (unaryOp op) r)(ha:PE X a ta):PE X (.UnaryOp op a pos) (tUn r ta):=by
 intro qv s σ H Q I h;exact UnaryOp_ (thn (ha qv s σ H _ I h) λv s1 ⟨x,H1,I1,r1,q1⟩=>ho qv s1 σ H1 x v Q I1 r1 q1)
theorem opI{f:aH->aH->Sem aH}{C:Int->Int->Prop}{g:Int->Int->Int}
  (rule:∀(i j:Int) (t u:Tok) (s:aO) (Q:aH->aO->Prop) (E:aH->aO->Prop),C i j->Q (.int (g i j) s.toks) { s with toks:=s.toks+1 }->bT (cA X.prog X.w) X.A (f (.int i t) (.int j u)) Q E s) :
  OpR X f (rI C λi j=>.int (g i j)):=by
 intro qv s σ H x y v u Q I rx ry h;obtain⟨i,j,rfl,rfl,hc,q⟩:=h;obtain⟨t,rfl⟩:=rx;obtain⟨t',rfl⟩:=ry;exact rule i j t t' s _ _ hc ⟨.int (g i j),H,I.tok _,⟨_,rfl⟩,q⟩
theorem opI0{f:aH->aH->Sem aH}{g:Int->Int->Int}
  (rule:∀(i j:Int) (t u:Tok) (s:aO) (Q:aH->aO->Prop) (E:aH->aO->Prop),Q (.int (g i j) s.toks) { s with toks:=s.toks+1 }->bT (cA X.prog X.w) X.A (f (.int i t) (.int j u)) Q E s) :
  OpR X f (rI0 λi j=>.int (g i j)):=by
 intro qv s σ H x y v u Q I rx ry h;obtain⟨i,j,rfl,rfl,q⟩:=h;obtain⟨t,rfl⟩:=rx;obtain⟨t',rfl⟩:=ry;exact rule i j t t' s _ _ ⟨.int (g i j),H,I.tok _,⟨_,rfl⟩,q⟩
theorem opB0{f:aH->aH->Sem aH}{g:Int->Int->Bool}
  (rule:∀(i j:Int) (t u:Tok) (s:aO) (Q:aH->aO->Prop) (E:aH->aO->Prop),Q (.bool (g i j)) s->bT (cA X.prog X.w) X.A (f (.int i t) (.int j u)) Q E s) :
  OpR X f (rI0 λi j=>.bl (g i j)):=by
 intro qv s σ H x y v u Q I rx ry h;obtain⟨i,j,rfl,rfl,q⟩:=h;obtain⟨t,rfl⟩:=rx;obtain⟨t',rfl⟩:=ry;exact rule i j t t' s _ _ ⟨.bl (g i j),H,I,rfl,q⟩
def CPow(i j:Int):Prop:=0<=j/\j<=1000000/\i.natAbs < 2 ^ 64
def CMul(i j:Int):Prop:=(-(2 ^ 64) < i/\i < 2 ^ 64)∨(-(2 ^ 64) < j/\j < 2 ^ 64)
theorem CMul.ok{i j:Int}(h:CMul i j):IntMulOk i j:=by
 rcases h with⟨h1,h2⟩ | ⟨h1,h2⟩
 ·exact .of_left (intBits_le_64 h1 h2)
 ·exact .of_right (intBits_le_64 h1 h2)
theorem a7d:OpR X (fO .Add) (rI0 λi j=>.int (i+j)):=opI0 λ_ _ _ _ _ _ _ q=>add_int q
theorem a67:OpR X (fO .Sub) (rI0 λi j=>.int (i - j)):=opI0 λ_ _ _ _ _ _ _ q=>sub_int q
theorem a7a:OpR X (fO .Mult) (rI CMul λi j=>.int (i*j)):=opI λ_ _ _ _ _ _ _ hc q=>mul_int q hc.ok
theorem a7b:OpR X (fO .Mod) (rI (λ_ j=>0 < j) λi j=>.int (i % j)):=opI λi j _ _ _ _ _ hc q=>by
 have h1:(0:Int) < j:=hc;exact mod_int' (by omega) (by rw[rZ i (by omega)];exact q)
theorem a69:OpR X (fO .Pow) (rI CPow λi j=>.int (i ^ j.toNat)):=opI λ_ _ _ _ _ _ _ hc q=>pow_int_small hc.1 hc.2.1 hc.2.2 q
theorem unI{f:aH->Sem aH}{g:Int->Int}
  (rule:∀(i:Int) (t:Tok) (s:aO) (Q:aH->aO->Prop) (E:aH->aO->Prop),Q (.int (g i) s.toks) { s with toks:=s.toks+1 }->bT (cA X.prog X.w) X.A (f (.int i t)) Q E s) :
  UnR X f (rU λi=>.int (g i)):=by
 intro qv s σ H x v Q I rx h;obtain⟨i,rfl,q⟩:=h;obtain⟨t,rfl⟩:=rx;exact rule i t s _ _ ⟨.int (g i),H,I.tok _,⟨_,rfl⟩,q⟩
theorem a5k:UnR X (unaryOp .USub) (rU λi=>.int (-i)):=unI λ_ _ _ _ _ q=>neg_int q
end
section
variable{X:Cx}{a b c:dH}{ta tb tc:TE}{pos:Pos}
theorem ba3:OpR X (fD .Lt) (rI0 λi j=>.bl (decide (i < j))):=opB0 λ_ _ _ _ _ _ _ q=>lt_int q
theorem aye:OpR X (fD .LtE) (rI0 λi j=>.bl (decide (i<=j))):=opB0 λ_ _ _ _ _ _ _ q=>le_int q
theorem ba4:OpR X (fD .GtE) (rI0 λi j=>.bl (decide (j<=i))):=opB0 λ_ _ _ _ _ _ _ q=>ge_int q
theorem xu(b:dH){op:tZ}(h:op≠.In:=by decide)(h2:op≠.NotIn:=by decide):gW op b=ZV:=by
 have e1:(op==CmpOp.In)=ZV:=by cases op <;> first | rfl | exact absurd rfl h
 have e2:(op==CmpOp.NotIn)=ZV:=by cases op <;> first | rfl | exact absurd rfl h2
 cases b <;> simp[gW,e1,e2]
theorem a2o{op:tZ}{r:R2}(ho:OpR X (fD op) r)(ha:PE X a ta)(hb:PE X b tb)(hm:gW op b=ZV):PE X (.Compare a [op] [b] pos) (tOp r ta tb):=by
 intro qv s σ H Q I h;exact wpAny_Compare1 (binT ha hb I h λv u s2 x y H2 I2 rx ry q=>ho qv s2 σ H2 x y v u Q I2 rx ry q) hm
def a99(t:TE):TT:=λσ H Q=>t σ H λx H'=>∃k,x=.bl k/\Q k H'
theorem aud{op:tZ}{r:R2}(ho:OpR X (fD op) r)(ha:PE X a ta)(hb:PE X b tb)(hm:gW op b=ZV):PT X (.Compare a [op] [b] pos) (a99 (tOp r ta tb)):=by
 intro qv s σ H Q I h;refine wpAny_isTrue_Compare1 (thn (ha qv s σ H _ I h) λv s1 ⟨x,H1,I1,r1,q1⟩=>thn (hb qv s1 σ H1 _ I1 q1) λu s2 ⟨y,H2,I2,r2,q2⟩ =>
  thn (ho qv s2 σ H2 x y v u _ I2 r1 r2 q2) λc s3 ⟨z,H3,I3,r3,k,e,q3⟩ =>?_) hm
 subst e;cases r3;exact fP ⟨H3,I3,q3⟩
def az7(r r':R2)(ta tb tc:TE):TE:=λσ H Q=>ta σ H λx H1=>tb σ H1 λy H2=>r x y H2 λz H3=>∃k,z=.bl k /\
 (if k=ZW then tc σ H3 λw' H4=>r' y w' H4 Q else Q (.bl ZV) H3)
theorem ax6{op op':tZ}{r r':R2}(ho:OpR X (fD op) r)(ho':OpR X (fD op') r')(ha:PE X a ta)(hb:PE X b tb)(hc:PE X c tc)
  (hm:lastMarks [op,op'] [b,c]=ZV:=by with_unfolding_all rfl):PE X (.Compare a [op,op'] [b,c] pos) (az7 r r' ta tb tc):=by
 intro qv s σ H Q I h;refine Compare_chain (thn (ha qv s σ H _ I h) λv s1 ⟨x,H1,I1,r1,q1⟩=>chain_link (thn (hb qv s1 σ H1 _ I1 q1) λu s2 ⟨y,H2,I2,r2,q2⟩ =>
  thn (ho qv s2 σ H2 x y v u _ I2 r1 r2 q2) λd s3 ⟨z,H3,I3,r3,k,e,q3⟩ =>?_)) hm
 subst e;cases r3;refine fP ?_;cases k with
 | false=>exact ite_ff ⟨.bl ZV,H3,I3,rfl,q3⟩
 | true=>exact ite_tt (chain_last (thn (hc qv s3 σ H3 _ I3 q3) λw' s4 ⟨z',H4,I4,r4,q4⟩=>ho' qv s4 σ H4 y z' u w' Q I4 r2 r4 q4))
theorem al9:(cO:Nat) < 2 ^ 63:=by rw[eV];decide
theorem asa:OpR X (fO .Add) (λx y H Q=>∃i j,x=.str i/\y=.str j/\i.length+j.length<=cO/\Q (.str (i++j)) H):=by
 intro qv s σ H x y v u Q I rx ry h;obtain⟨i,j,rfl,rfl,hz,q⟩:=h;obtain⟨t,rfl⟩:=rx;obtain⟨t',rfl⟩:=ry;exact add_str (λt' tk=>⟨.str (i++j),H,I.tok _,⟨_,rfl⟩,q⟩) hz
theorem vals1{x:V}{us:List aH}(r:Vals [x] us):∃u,us=[u]/\RelV x u:=by
 cases r with
 | cons r1 r2=>cases r2;exact⟨_,rfl,r1⟩
theorem vals2{x y:V}{us:List aH}(r:Vals [x,y] us):∃u w',us=[u,w']/\RelV x u/\RelV y w':=by
 cases r with
 | cons r1 r2 =>
  cases r2 with
  | cons r3 r4=>cases r4;exact⟨_,_,rfl,r1,r3⟩
theorem azu:afw X (.builtin "abs") (λxs H Q=>∃i,xs=[.int i]/\Q (.int (if i < 0 then -i else i)) H):=by
 intro qv s σ H xs us Q I r h;obtain⟨i,rfl,q⟩:=h;obtain⟨u,rfl,t,rfl⟩:=vals1 r;exact call_abs_int λu tk=>⟨.int (if i < 0 then -i else i),H,I.tok _,⟨_,rfl⟩,q⟩
theorem aww(hc:X.calm=ZW):afw X (.builtin "max") (λxs H Q=>∃i j,xs=[.int i,.int j]/\Q (.int (if j > i then j else i)) H):=by
 intro qv s σ H xs us Q I r h;obtain⟨i,j,rfl,q⟩:=h;obtain⟨u,w',rfl,⟨t,rfl⟩,⟨t',rfl⟩⟩:=vals2 r;refine max_two_ints (I.ok.hd hc) λh' tk k=>⟨_,H,I.kept k,?_,q⟩
 by_cases hj:j > i
 ·rw[if_pos hj,if_pos hj];exact⟨_,rfl⟩
 ·rw[if_neg hj,if_neg hj];exact⟨_,rfl⟩
theorem am5:afw X (.type "int") (λxs H Q=>(∃i,xs=[.int i]/\Q (.int i) H)∨∃k,xs=[.bl k]/\Q (.int (if k then 1 else 0)) H):=by
 intro qv s σ H xs us Q I r h;rcases h with⟨i,rfl,q⟩ | ⟨k,rfl,q⟩
 ·obtain⟨u,rfl,t,rfl⟩:=vals1 r;exact call_int_int ⟨.int i,H,I,⟨_,rfl⟩,q⟩
 ·obtain⟨u,rfl,r1⟩:=vals1 r;cases r1;exact call_int_bool ⟨.int (if k then 1 else 0),H,I.tok _,⟨_,rfl⟩,q⟩
end
structure ObjM (h:fH) (x dx C:aY) (mA:Str->Option aH):Prop where
 obj:h.get? x=ZY (iM C dx)
 ns:h.Ns1 dx mA
 ne:dx≠x
theorem au6{h:fH}{dx:aY}{mA:Str->Option aH}(n:h.Ns1 dx mA):∃od,h.get? dx=ZY od/\∀name,pH name od=ZY (mA name):=by
 obtain⟨o,es,ep,ho,hd,hk,_,hm⟩:=n;refine⟨o,ho,λname =>?_⟩
 have e:=hm name;unfold nsFind findBy at e;rw[<-Array.find?_toList] at e;unfold pH;rw[hd];dsimp only;split
 ·rename_i y q;rw[q] at e;exact congrArg ZY e
 ·rename_i q;rw[q] at e;have a:es.toList.any (·.refKey)=ZV:=by
   rw[List.any_eq_false];intro y hy;obtain⟨z,t,hkey⟩:=hk y (Array.mem_toList_iff.mp hy);simp[DictEntry.refKey,hkey]
  have a':¬es.toList.any (·.refKey)=ZW:=by rw[a];exact dG
  rw[if_neg a'];exact congrArg ZY e
theorem ObjM.look{h:fH}{x dx C:aY}{mA:Str->Option aH}(I:ObjM h x dx C mA):∃od,mZ h x (iM C dx) C (ZY od)/\∀name,pH name od=ZY (mA name) :=
 let ⟨od,ho,hl⟩:=au6 I.ns
 ⟨od,⟨I.obj,rfl,rfl,ho⟩,hl⟩
section
variable{prog:cG}{w:dZ}{A:eG}{E:aH->aO->Prop}{s:aO}{K:Fg9}{x dx C f:aY}{mA:Str->Option aH}{name:Str}{v:aH}
theorem a3t{expr:Bool}{Q:aH->aO->Prop}(X:K.In s.heap)(I:ObjM s.heap x dx C mA)(hg:lV K C name=ZW)(hh:lJ K C=ZW)
  (ha:kY K (.ref C) name=ZY ZX) (hv:mA name=ZY v) (hv':wL v=ZW) (h:Q v { s with toks:=s.toks+1 }) :
  bT (cA prog w) A (getAttr (.ref x) name expr) Q E s:=by
 obtain⟨od,J,hl⟩:=I.look;exact PySem.W.get_value X J (pL hg).1 (PySem.W.findObj_own hh ha rfl (by rw[hl,hv])) hv' h
theorem ay8{pl:Sem Bool}{Q:aH×List aH->aO->Prop}(X:K.In s.heap)(I:ObjM s.heap x dx C mA)(hg:lV K C name=ZW)
  (hf:kY K (.ref C) name=ZY (ZY (.ref f))) (ht:lM K (.ref f)=ZW) (hv:mA name=ZX) (h:Q (.ref f,[.ref x]) s) :
  bT (cA prog w) A (getMethod (.ref x) name pl) Q E s:=by
 obtain⟨od,J,hl⟩:=I.look;exact PySem.W.method_fn X J (pL hg).1 (pL hg).2 hf (beq_iff_eq.mp ht) (by show(pH name od).map (·.isSome)=ZY ZV;rw[hl,hv];rfl) h
theorem a1p{ns:List Str}{Q:Unit->aO->Prop}(X:K.In s.heap)(I:ObjM s.heap x dx C mA)
  (hs:kY K (.ref C) "__setattr__" = ZY (ZY (.builtin "object.__setattr__"))) (hp:qG K C=ZW) (ht:rG K C name=ZY ZX) (hh:lJ K C=ZW)
  (hw:uH mA ns) (hsz:ns.length<=cO)
  (h:∀h',ObjM h' x dx C (λy=>if y=name then ZY v else mA y)->gA dx s.heap h'->Q () { s with heap:=h',toks:=s.toks+2 }) :
  bT (cA prog w) A (setAttr (.ref x) name v) Q E s:=by
 obtain⟨od,J,hl⟩:=I.look;refine PySem.W.set_plain X J hs (PySem.W.osa_open (s:={ s with toks:=s.toks+1 }) (r:=ZX) X J hp ht λb =>?_)
 obtain⟨cd,hc,hd'⟩:=oJ hh;have hx:s.heap.get? x=ZY ⟨.ref C,ZY dx,.plain,#[]⟩:=I.obj;refine aB (aR (aB (aB (wpAny_loadPart hx (aB (PySem.W.Looks.here (s:={ s with toks:=s.toks+1 }) (PySem.W.looks_clsIn X hc) ?_))))))
 rw[hd'];refine aR (a:=ZY dx) (aB (aR (aB ?_)));refine wpAny_nsSet1 (s:={ s with toks:=s.toks+1 }) I.ns λh' hn2 hs2 =>?_
 obtain⟨oD,esD,epD,hoD,hdD,hcD⟩:=hn2.count (PySem.Within.cons name v hw);refine aB (wpAny_lookBehind hoD (by rw[hdD];exact pastItsLine_dict (dC hcD (by rw[aX];omega))) ?_)
 exact aR (h _ ⟨(hs2.2 _ (gR I.ne)).trans I.obj,hn2,I.ne⟩ hs2)
theorem ayq{R:Result->aO->Prop}{vs:List aH}{kw:List (Str×Value)}(X:K.In s.heap)(hm:oY K C=ZW)
  (hi:kY K (.ref C) "__init__" = ZY (ZY (.ref f))) (hf:PySem.W.typeIn K (.ref f)=ZY (.type "function"))
  (h:pZ (cA prog w) (A.under (.builtin "type.__call__" ⟨.ref C::vs,kw⟩)) (.call (.ref f) ⟨.ref (s.heap.objs.size+1)::vs,kw⟩) (PySem.W.InitBack (s.heap.objs.size+1) R)
   { s with heap:=(s.heap.push gJ).push (iM C s.heap.objs.size) }) :
  pZ (cA prog w) A (.call (.ref C) ⟨vs,kw⟩) R s:=by
 obtain⟨hh,g,d,t,os⟩:=s;exact PySem.W.make_core (PySem.W.makes_of X hm) (pF X hi) (λself=>PySem.W.bind_fn X self hf) (.inl rfl) h
end
def putF(f:Str)(v:V):List (Str×V)->List (Str×V)
 | []=>[(f,v)]
 | (g,x)::r=>if g=f then (g,v)::r else (g,x)::putF f v r
theorem adn(f g:Str)(v:V):∀fs:List (Str×V),(putF f v fs).lookup g=if g=f then ZY v else fs.lookup g
 | []=>by
  show bN g [(f,v)]=_
  by_cases h:g=f
  ·have hb:(g==f)=ZW:=beq_iff_eq.mpr h;simp only[bN,hb,if_pos h]
  ·have hb:(g==f)=ZV:=beq_eq_false_iff_ne.mpr h;simp only[bN,hb,if_neg h]
 | (k,x)::r=>by
  have ih:=adn f g v r;rw[show putF f v ((k,x)::r)=(if k=f then (k,v)::r else (k,x)::putF f v r) from rfl]
  by_cases hk:k=f
  ·rw[if_pos hk]
   by_cases h:g=k
   ·have hb:(g==k)=ZW:=beq_iff_eq.mpr h;simp only[bN,hb,if_pos (h.trans hk)]
   ·have hb:(g==k)=ZV:=beq_eq_false_iff_ne.mpr h;simp only[bN,hb,if_neg (λe:g=f=>h (e.trans hk.symm))]
  ·rw[if_neg hk]
   by_cases h:g=k
   ·have hb:(g==k)=ZW:=beq_iff_eq.mpr h;simp only[bN,hb,if_neg (λe:g=f=>hk (h.symm.trans e))]
   ·have hb:(g==k)=ZV:=beq_eq_false_iff_ne.mpr h;simp only[bN,hb];exact ih
theorem ahk(f:Str)(v:V):∀fs:List (Str×V),f∈(putF f v fs).map (·.1)/\∀g,g∈fs.map (·.1)->g∈(putF f v fs).map (·.1)
 | []=>⟨by simp[putF],λg h=>by simp at h⟩
 | (k,x)::r=>by
  obtain⟨i1,i2⟩:=ahk f v r;rw[show putF f v ((k,x)::r)=(if k=f then (k,v)::r else (k,x)::putF f v r) from rfl]
  by_cases hk:k=f
  ·rw[if_pos hk];subst hk;exact⟨by simp,λg h=>by simpa using h⟩
  ·rw[if_neg hk];refine⟨?_,λg h =>?_⟩
   ·rw[aG];exact aA _ i1
   ·rw[aG] at h ⊢
    rcases bG.mp h with e | e
    ·exact bG.mpr (.inl e)
    ·exact aA _ (i2 g e)
theorem ahf(f:Str)(v:V):∀fs:List (Str×V),(putF f v fs).length<=fs.length+1
 | []=>by simp[putF]
 | (k,x)::r=>by
  have ih:=ahf f v r;rw[show putF f v ((k,x)::r)=(if k=f then (k,v)::r else (k,x)::putF f v r) from rfl]
  by_cases hk:k=f
  ·rw[if_pos hk,aX,aX];omega
  ·rw[if_neg hk,aX,aX];omega
theorem RelO.some_of{v:V}{o:Option aH}(r:RelO (ZY v) o):∃u,o=ZY u/\RelV v u:=by
 cases o with
 | none=>exact(show False from r).elim
 | some u=>exact⟨u,rfl,r⟩
theorem RelO.none_of{o:Option aH}(r:RelO ZX o):o=ZX:=by
 cases o with
 | none=>rfl
 | some u=>exact(show False from r).elim
theorem avq{v:V}{u:aH}(r:RelV v u):wL u=ZW:=by
 cases v with
 | non=>cases(show u=fK from r);rfl
 | bl b=>cases(show u=qD b from r);rfl
 | int i=>obtain⟨t,e⟩:=(show ∃t,u=oX i t from r);cases e;rfl
 | str x=>obtain⟨t,e⟩:=(show ∃t,u=uG x t from r);cases e;rfl
 | byt b=>obtain⟨t,e⟩:=(show ∃t,u=Value.bytes b t from r);cases e;rfl
 | flt b=>obtain⟨t,e⟩:=(show ∃t,u=uV b t from r);cases e;rfl
 | ref a=>cases(show u=dN a from r);rfl
 | ty n=>cases(show u=nG n from r);rfl
section
variable{P:cG}{w:dZ}{H H':Hp}{h h':fH}{a C dx:aY}{fs fs':List (Str×V)}
theorem aks(hok:HOk P w H h)(e:H a=ZY (.ins C dx fs)):∃mA,ObjM h a dx C mA/\(∀f,RelO (fs.lookup f) (mA f))/\uH mA (fs.map (·.1))/\fs.length<=1000/\H dx=ZY (.own a):=by
 obtain⟨d,z,ne,ob,mA,n,r,q⟩:=(show yx P w H h a (.ins C dx fs) from hok a _ e)
 exact⟨mA,⟨ob,n,ne⟩,r,q,z,d⟩
end
structure Cls (K:Fg9) (C:aY):Prop where
 pg:lV K C Str.empty=ZW
 hd:lJ K C=ZW
 po:qG K C=ZW
 sa:kY K (.ref C) "__setattr__" = ZY (ZY (.builtin "object.__setattr__"))
theorem Cls.get{K:Fg9}{C:aY}(c:Cls K C)(f:Str):lV K C f=ZW:=c.pg
def ach(K:Fg9)(C:aY)(f:Str):Prop:=kY K (.ref C) f=ZY ZX
theorem ach.taker{K:Fg9}{C:aY}{f:Str}(n:ach K C f):rG K C f=ZY ZX:=by
 unfold rG;rw[show kY K (.ref C) f=ZY ZX from n]
 rfl
structure Con (K:Fg9) (C:aY) (f:Str) (v:V) (u:aH):Prop where
 at_:kY K (.ref C) f=ZY (ZY u)
 rel:RelV v u
 get:nM K u "__get__" = ZY ZX
 cp:PySem.W.copiedNames.contains f=ZV
structure Meth (K:Fg9) (C:aY) (m:Str) (f:aY):Prop where
 at_:kY K (.ref C) m=ZY (ZY (.ref f))
 fn:lM K (.ref f)=ZW
 kp:mC K (.ref f)=ZW
section
variable{X:Cx}{qv:List (aY×Obj)}{σ:St}{H:Hp}{s:aO}{a C dx:aY}{fs:List (Str×V)}{f:Str}{v:V}{A:eG}{E:aH->aO->Prop}
theorem ai9{b:Bool}{Q:aH->aO->Prop}(I:Inv X qv σ H s)(e:H a=ZY (.ins C dx fs))(c:Cls X.K C)(n:ach X.K C f)(l:fs.lookup f=ZY v)
  (h:∀u s',Inv X qv σ H s'->RelV v u->Q u s'):bT (cA X.prog X.w) A (getAttr (.ref a) f b) Q E s:=by
 obtain⟨mA,O,r,_,_,_⟩:=aks I.hok e;obtain⟨u,hu,ru⟩:=RelO.some_of (v:=v) (o:=mA f) (by rw[<-l];exact r f)
 exact a3t I.kIn O (c.get f) c.hd n hu (avq ru) (h u _ (I.tok _) ru)
theorem asu{m:Str}{g:aY}{pl:Sem Bool}{Q:aH×List aH->aO->Prop}(I:Inv X qv σ H s)(e:H a=ZY (.ins C dx fs))(c:Cls X.K C)(k:Meth X.K C m g)(l:fs.lookup m=ZX)
  (h:Q (.ref g,[.ref a]) s):bT (cA X.prog X.w) A (getMethod (.ref a) m pl) Q E s:=by
 obtain⟨mA,O,r,_,_,_⟩:=aks I.hok e;have hn:mA m=ZX:=RelO.none_of (by rw[<-l];exact r m)
 exact ay8 I.kIn O (c.get m) k.at_ k.fn hn h
theorem aiy{y:V}{u:aH}{Q:Unit->aO->Prop}(I:Inv X qv σ H s)(e:H a=ZY (.ins C dx fs))(c:Cls X.K C)(n:ach X.K C f)(hl:fs.length < 1000)(ry:RelV y u)
  (h:∀s',Inv X qv σ (upd H a (.ins C dx (putF f y fs))) s'->Q () s'):bT (cA X.prog X.w) A (setAttr (.ref a) f u) Q E s:=by
 obtain⟨mA,O,r,wi,_,ho⟩:=aks I.hok e;have hz:(fs.map (·.1)).length<=cO:=by rw[aK,eV];omega
 refine a1p I.kIn O c.sa c.po n.taker c.hd wi hz λh' O' sb=>h _ ?_
 have hd:∃o,h'.get? dx=ZY o:=let ⟨o,_,_,e',_⟩:=O'.ns;⟨o,e'⟩
 refine I.write (x:=a) (e:=dx) (by rw[e];exact nJ) (.inr ho) (λb q hb z=>(sb.2 b hb).trans z) hd ?_
 refine⟨by rw[bf O.ne];exact ho,?_,O.ne,O'.obj,_,O'.ns,λg =>?_,λg hg =>?_⟩
 ·have:=ahf f y fs;omega
 ·show RelO ((putF f y fs).lookup g) (if g=f then ZY u else mA g)
  rw[adn]
  by_cases q:g=f
  ·rw[if_pos q,if_pos q];exact ry
  ·rw[if_neg q,if_neg q];exact r g
 ·by_cases q:g=f
  ·rw[q];exact(ahk f y fs).1
  ·refine(ahk f y fs).2 g (wi g λz=>hg ?_)
   show(if g=f then ZY u else mA g)=ZX
   rw[if_neg q];exact z
theorem Inv.made(I:Inv X qv σ H s):Inv X qv σ (upd (upd H s.heap.objs.size (.own (s.heap.objs.size+1))) (s.heap.objs.size+1) (.ins C s.heap.objs.size []))
  { s with heap:=(s.heap.push gJ).push (iM C s.heap.objs.size) }:=by
 have e1:(s.heap.push gJ).get? s.heap.objs.size=ZY gJ:=aW s.heap rfl;have e2:((s.heap.push gJ).push (iM C s.heap.objs.size)).get? (s.heap.objs.size+1)=ZY (iM C s.heap.objs.size):=by
  have:=aW (s.heap.push gJ) (o:=iM C s.heap.objs.size) rfl;rwa[dB] at this
 have e3:(s.heap.push gJ).Ns s.heap.objs.size (λ_=>ZX):=⟨PySem.W.emptyDict,#[],_,e1,rfl,(λe he=>absurd he (by simp)),λ_=>rfl⟩
 have I1:=I.laid (a:=s.heap.objs.size) (o:=.own (s.heap.objs.size+1)) (h':=s.heap.push gJ) (t':=s.toks) (λb u q=>aD _ q) (aM _) ⟨_,e1⟩
 refine I1.laid (a:=s.heap.objs.size+1) (o:=.ins C s.heap.objs.size []) (t':=s.toks) (λb u q=>aD _ q) (uK (dB _ _)) ?_
 have ne:s.heap.objs.size≠s.heap.objs.size+1:=bQ (jH _);refine⟨by rw[bf ne,di],fG _,ne,e2,λ_=>ZX,(Heap.Ns1.of_empty e3).at λo q=>aD _ q,λ_=>nJ,λy hy=>absurd rfl hy⟩
theorem a4r{prog:cG}{w:dZ}{env:Env}{e:dH}{f:Str}{pos:Pos}{s:aO}{Q:aH->aO->Prop}(hb:jA e f env (eval e env)=eval e env)
  (h:bT (cA prog w) A (eval e env) (λo s₁=>bT (cA prog w) A (getAttr o f ZW) Q E s₁) E s):bT (cA prog w) A (eval (.Attribute e f pos) env) Q E s :=
 Attribute_any_ h (by rw[arm_eval_Attribute,hb])
end
def tFld(K:Fg9)(ta:TE)(f:Str):TE:=λσ H Q=>ta σ H λx H1=>∃a C dx fs v,x=.ref a/\H1 a=ZY (.ins C dx fs)/\Cls K C/\ach K C f/\fs.lookup f=ZY v/\Q v H1
def sFld(K:Fg9)(ta tv:TE)(f:Str):TS:=λD σ H=>tv σ H λy H1=>ta σ H1 λx H2=>∃a C dx fs,x=.ref a/\H2 a=ZY (.ins C dx fs)/\Cls K C/\ach K C f/\fs.length < 1000 /\
 D.nx σ (upd H2 a (.ins C dx (putF f y fs)))
def InOp(X:Cx)(op:mX)(rd:V->V->Hp->VK->Prop):Prop :=
 ∀(qv:List (aY×Obj)) (s:aO) (σ:St) (H:Hp) (x y:V) (u v:aH) (Q:VK),Inv X qv σ H s->RelV x u->RelV y v->rd x y H Q->bT (cA X.prog X.w) X.A (inplaceOp op u v) (EP X qv σ Q) X.xe s
def a1r(K:Fg9)(ta tv:TE)(rd:V->V->Hp->VK->Prop)(f:Str):TS:=λD σ H=>ta σ H λx H1=>∃a C dx fs v,x=.ref a/\H1 a=ZY (.ins C dx fs)/\Cls K C/\ach K C f/\fs.lookup f=ZY v /\
 tv σ H1 λy H2=>rd v y H2 λz H3=>∃dx' fs',H3 a=ZY (.ins C dx' fs')/\fs'.length < 1000/\D.nx σ (upd H3 a (.ins C dx' (putF f z fs')))
section
variable{X:Cx}{o e value:dH}{f:Str}{pos pos' tpos:Pos}{ta tv:TE}
theorem a6x(he:PE X e ta)(hb:jA e f X.env (eval e X.env)=eval e X.env):PE X (.Attribute e f pos) (tFld X.K ta f):=by
 intro qv s σ H Q I h;refine a4r hb (thn (he qv s σ H _ I h) λu s1 ⟨x,H1,I1,rx,a,C,dx,fs,v,ex,ea,c,n,l,q⟩ =>?_)
 subst ex;obtain rfl:u=dN a:=rx;exact ai9 I1 ea c n l λu' s2 I2 ru=>⟨v,H1,I2,ru,q⟩
theorem a0i(ha:PE X o ta)(hv:PE X value tv)(hs:fY value (ZY (.Attribute o f pos')) pos.line X.env=pure ZV):PS X (.Assign [.Attribute o f pos'] value pos) (sFld X.K ta tv f):=by
 intro qv s σ H D I h;refine plainObj_wpAny_Assign_Attribute (thn (hv qv s σ H _ I h) λu s1 ⟨y,H1,I1,ry,q⟩=>thn (ha qv s1 σ H1 _ I1 q) λov s2 ⟨x,H2,I2,rx,a,C,dx,fs,ex,ea,c,n,l,q2⟩ =>?_) hs
 subst ex;obtain rfl:ov=dN a:=rx;exact aiy I2 ea c n l ry λs3 I3=>⟨σ,_,I3,q2⟩
theorem auh{op:mX}{rd:V->V->Hp->VK->Prop}(ha:PE X o ta)(hv:PE X value tv)(hop:InOp X op rd):PS X (.AugAssign (.Attribute o f tpos) op value pos) (a1r X.K ta tv rd f):=by
 intro qv s σ H D I h;refine wpAny_AugAssign_AttributeAny (thn (ha qv s σ H _ I h) λov s1 ⟨x,H1,I1,rx,a,C,dx,fs,v,ex,ea,c,n,l,q⟩ =>?_)
 subst ex;obtain rfl:ov=dN a:=rx;refine ai9 I1 ea c n l λu s2 I2 ru=>thn (hv qv s2 σ H1 _ I2 q) λw3 s3 ⟨y,H2,I3,ry,q3⟩=>thn (hop qv s3 σ H2 v y u w3 _ I3 ru ry q3) λw4 s4 ⟨z,H3,I4,rz,dx',fs',ea',l',q4⟩ =>?_
 exact aiy I4 ea' c n l' rz λs5 I5=>⟨σ,_,I5,q4⟩
def rAdd:V->V->Hp->VK->Prop:=λx y H Q=>∃i j,x=.int i/\y=.int j/\Q (.int (i+j)) H
theorem a8d:InOp X .Add rAdd:=by
 rintro qv s σ H x y u v Q I rx ry ⟨i,j,rfl,rfl,q⟩
 obtain⟨t,rfl⟩:=(show ∃t,u=oX i t from rx)
 obtain⟨t',rfl⟩:=(show ∃t',v=oX j t' from ry)
 exact PyProof.Rows.iadd_int ⟨.int (i+j),H,I.tok _,⟨_,rfl⟩,q⟩
end
section
variable{X:Cx}{qv:List (aY×Obj)}{σ:St}{H:Hp}{s:aO}{A:eG}{E:aH->aO->Prop}{Q:aH->aO->Prop}{c:aH}{b:Bool}
inductive TyOf (K:Fg9) (H:Hp):V->aH->Prop where
 | non:TyOf K H .non (.type "NoneType")
 | bl (x:Bool):TyOf K H (.bl x) (.type "bool")
 | int (i:Int):TyOf K H (.int i) (.type "int")
 | str (x:Str):TyOf K H (.str x) (.type "str")
 | flt (x:UInt64):TyOf K H (.flt x) (.type "float")
 | lst {a:aY} {xs:List V} (e:H a=ZY (.lst xs)):TyOf K H (.ref a) (.type "list")
 | frz {a:aY} {o:Obj} {xs:List V} (e:H a=ZY (.frz o (.lst xs))):TyOf K H (.ref a) (.type "list")
 | tup {a:aY} {xs:List V} (e:H a=ZY (.tup xs)):TyOf K H (.ref a) (.type "tuple")
 | dK {a:aY} {kvs:List (Key×V)} (e:H a=ZY (.dK kvs)):TyOf K H (.ref a) (.type "dict")
 | dT {a:aY} {kvs:List (List Key×V)} (e:H a=ZY (.dT kvs)):TyOf K H (.ref a) (.type "dict")
 | ins {a C dx:aY} {fs:List (Str×V)} (e:H a=ZY (.ins C dx fs)) (cl:Cls K C) (ha:kY K (.ref C) "__class__" = ZY (ZY (.builtin "object.__class__")))
   (hn:nM K (.builtin "object.__class__") "__get__" = ZY (ZY (.builtin "getset_descriptor.__get__"))) (htk:rF K (.builtin "object.__class__")=ZY ZW)
   (hm:tH K C (.type "object")=ZY ZW):TyOf K H (.ref a) (.ref C)
theorem avj{x:V}{u t:aH}(I:Inv X qv σ H s)(rx:RelV x u)(ty:TyOf X.K H x t)(e:pI X.K t c=ZY b)(h:∀tk,Q (.bool b) { s with toks:=tk }) :
  bT (cA X.prog X.w) A (call (.builtin "isinstance") [u,c]) Q E s:=by
 cases ty with
 | non=>cases(show u=fK from rx);exact eE PySem.W.kitx_none I.kIn nJ e (λz=>nomatch z) h
 | bl y=>cases(show u=qD y from rx);exact eE PySem.W.kitx_bool I.kIn nJ e (λz=>nomatch z) h
 | int i=>obtain⟨t,q⟩:=(show ∃t,u=oX i t from rx);cases q;exact eE PySem.W.kitx_int I.kIn nJ e (λz=>nomatch z) h
 | str y=>obtain⟨t,q⟩:=(show ∃t,u=uG y t from rx);cases q;exact eE PySem.W.kitx_str I.kIn nJ e (λz=>nomatch z) h
 | flt y=>obtain⟨t,q⟩:=(show ∃t,u=uV y t from rx);cases q;exact eE PySem.W.kitx_float I.kIn nJ e (λz=>nomatch z) h
 | @lst a xs ea =>
  cases(show u=dN a from rx)
  obtain⟨_,_,n,_,h1⟩:=(show yx X.prog X.w H s.heap a (.lst xs) from I.hok a _ ea)
  exact eE qI I.kIn ⟨_,h1,rfl⟩ e (λz=>nomatch z) h
 | @frz a ob xs ea =>
  cases(show u=dN a from rx)
  obtain⟨_,_,_,n,_,h1⟩:=(show yx X.prog X.w H s.heap a (.frz ob (.lst xs)) from I.hok a _ ea)
  exact eE qI I.kIn ⟨_,h1,rfl⟩ e (λz=>nomatch z) h
 | @tup a xs ea =>
  cases(show u=dN a from rx)
  obtain⟨_,_,_,p⟩:=(show yx X.prog X.w H s.heap a (.tup xs) from I.hok a _ ea)
  obtain⟨o,h1,h2,_⟩:=p;exact eE PySem.W.kitx_tuple I.kIn ⟨o,h1,h2⟩ e (λz=>nomatch z) h
 | @dK a kvs ea =>
  cases(show u=dN a from rx)
  obtain⟨_,_,vs,_,p⟩:=(show yx X.prog X.w H s.heap a (.dK kvs) from I.hok a _ ea)
  obtain⟨o,es,ep,h1,h2,_⟩:=p;exact eE vU I.kIn ⟨o,h1,h2.1⟩ e (λz=>nomatch z) h
 | @dT a kvs ea =>
  cases(show u=dN a from rx)
  obtain⟨_,_,xs,_,o,es,ep,h1,h2,_⟩:=(show yx X.prog X.w H s.heap a (.dT kvs) from I.hok a _ ea)
  exact eE vU I.kIn ⟨o,h1,h2.1⟩ e (λz=>nomatch z) h
 | @ins a C dx fs ea cl ha hn htk hm =>
  cases(show u=dN a from rx)
  obtain⟨mA,O,_⟩:=aks I.hok ea;obtain⟨od,J,_⟩:=O.look;exact eE (PySem.W.kitx_own (cl.get _) cl.hd ha hn htk hm) I.kIn J e (λz=>nomatch z) h
end
structure Room (k:Nat) (A:eG):Prop where
 hd:A.handled=ZX
 dp:A.depth+3*k+5 < recursionLimit
 un:A.units+16*k+200 < cLine
 gd:A.guards=ZY []
theorem Room.mono{j k:Nat}{A:eG}(r:Room k A)(h:j<=k):Room j A:=⟨r.hd,by have:=r.dp;omega,by have:=r.un;omega,r.gd⟩
theorem Room.deeper{k:Nat}{A:eG}(r:Room (k+1) A)(env:Env):Room k (A.deeper env) :=
 ⟨r.hd,by have:=r.dp;show A.depth+1+3*k+5 < _;omega,by have:=r.un;show A.units+3+16*k+200 < _;omega,r.gd⟩
theorem asl{A:eG}{C:aY}{us:List aH}{kw:List (Str×Value)}:(A.under (.builtin "type.__call__" ⟨.ref C::us,kw⟩)).depth=A.depth+1:=by
 first | rfl | simp[qT,Code.weight,xO,Code.isGuard,yD,vH,qR,guardIds]
theorem asj{A:eG}{C:aY}{us:List aH}{kw:List (Str×Value)}:(A.under (.builtin "type.__call__" ⟨.ref C::us,kw⟩)).units=A.units+1:=by
 first | rfl | simp[qT,Code.cUnits,vH,qR]
theorem aoo{A:eG}{C:aY}{us:List aH}{kw:List (Str×Value)}:(A.under (.builtin "type.__call__" ⟨.ref C::us,kw⟩)).guards=A.guards:=by first | rfl | simp[qT,Code.weight,xO,Code.isGuard,yD,vH,qR,guardIds]
theorem Room.make{k:Nat}{A:eG}(r:Room (k+1) A)(C:aY)(us:List aH)(kw:List (Str×Value)):Room k (A.under (.builtin "type.__call__" ⟨.ref C::us,kw⟩)) :=
 ⟨r.hd,by have:=r.dp;rw[asl];omega,by have:=r.un;rw[asj];omega,by rw[aoo];exact r.gd⟩
theorem Room.depth{k:Nat}{A:eG}(r:Room k A):A.depth < recursionLimit:=by have:=r.dp;omega
theorem Room.units{k:Nat}{A:eG}(r:Room k A):A.units+64 < cLine:=by have:=r.un;omega
def tNil:TA:=λ_ H Q=>Q [] H
def bah(ta:TE)(tr:TA):TA:=λσ H Q=>ta σ H λx H1=>tr σ H1 λxs H2=>Q (x::xs) H2
section
variable{X:Cx}{e:dH}{es:List dH}{te:TE}{t:TA}{pos:Pos}
theorem alx:PA X [] tNil:=λ_ _ _ _ H Q I h=>Calls.spliced_nil ⟨[],H,I,.nil,h⟩
theorem aa6(ha:PE X e te)(hr:PA X es t)(hs:bA (e::es) X.env=(ZV,eval e X.env)::bA es X.env:=by rfl):PA X (e::es) (bah te t):=by
 intro pos qv s σ H Q I h;rw[hs];show bT _ _ (spliced ((ZV,eval e X.env)::jG pos (bA es X.env))) _ _ s;refine Calls.spliced_cons (thn (ha qv s σ H _ I h) λu s1 ⟨x,H1,I1,r1,q1⟩ =>?_)
 exact thn (hr pos qv s1 σ H1 _ I1 q1) λus s2 ⟨xs,H2,I2,r2,q2⟩=>⟨x::xs,H2,I2,.cons r1 r2,q2⟩
def tTup(t:TA):TE:=λσ H Q=>t σ H λxs H1=>xs.length<=cO/\∀p,H1 p=ZX->Q (.ref p) (upd H1 p (.tup xs))
def tLst(t:TA):TE:=λσ H Q=>t σ H λxs H1=>xs.length<=cO/\∀p,H1 p=ZX->Q (.ref p) (upd H1 p (.lst xs))
theorem a6q{x1}(h:PA X es t):PE X (.Tuple es x1 pos) (tTup t):=by
 intro qv s σ H Q I hq;refine wpAny_Tuple_spliced (thn (h pos qv s σ H _ I hq) λus s1 ⟨xs,H1,I1,r,z,q⟩=>⟨by rw[<-r.length];exact z,?_⟩)
 have hf:H1 s1.heap.objs.size=ZX:=I1.hok.fresh (aM _);refine⟨.ref s1.heap.objs.size,upd H1 s1.heap.objs.size (.tup xs),I1.laid (t':=s1.toks) (λb u e=>aD _ e) (aM _) ?_,rfl,q _ hf⟩
 exact⟨z,us,r,⟨_,aW _ rfl,rfl,rfl,_,rfl⟩⟩
theorem a6u(h:PA X es t):PE X (.List es pos) (tLst t):=by
 intro qv s σ H Q I hq;refine wpAny_List_spliced (thn (h pos qv s σ H _ I hq) λus s1 ⟨xs,H1,I1,r,z,q⟩=>⟨by rw[<-r.length];exact z,?_⟩)
 have hf:H1 s1.heap.objs.size=ZX:=I1.hok.fresh (aM _);refine⟨.ref s1.heap.objs.size,upd H1 s1.heap.objs.size (.lst xs),I1.laid (t':=s1.toks) (λb u e=>aD _ e) (aM _) ?_,rfl,q _ hf⟩
 exact⟨z,us,0,r,aW _ rfl⟩
end
abbrev Sp:=List V->Hp->VK->XK->Prop
abbrev CXT:=List Env->Hp->aO->XK->aH->aO->Prop
structure Env0 (P:cG) (w:dZ) (K:Fg9) (mg:Str->Option aH) (base:fH) (A:eG) (outer:List Env) (s:aO) (H:Hp):Prop where
 frames:A.frames=ZY outer
 mod:Mod K mg base
 bs:∀b o,base.get? b=ZY o->s.heap.get? b=ZY o/\H b=ZX
 bsz:base.objs.size<=s.heap.objs.size
 funs:s.heap.FunFrames base outer
 frf:∀b∈frs outer,H b=ZX
 hok:HOk P w H s.heap
 bare:pN s.gens
def CE(outer:List Env)(P:cG)(w:dZ)(H:Hp)(s:aO)(Q:VK)(u:aH)(s':aO):Prop :=
 ∃v H',s'.os=s.os/\pN s'.gens/\Un (frs outer) [] H H' s.heap s'.heap/\HOk P w H' s'.heap/\RelV v u/\Q v H'
def CR(CX:CXT)(outer:List Env)(P:cG)(w:dZ)(H:Hp)(s:aO)(Q:VK)(E:XK)(r:Result)(s':aO):Prop :=
 match r with
 | .ok (.ret u)=>CE outer P w H s Q u s'
 | .ok _=>False
 | .error e=>CX outer H s E e s'
structure FnOk (P:cG) (w:dZ) (K:Fg9) (mg:Str->Option aH) (base:fH) (CX:CXT) (k:Nat) (f:aY) (fd:gB) (ps:List Str) (sp:Sp):Prop where
 len:∀vs H Q E,sp vs H Q E->vs.length=ps.length
 run:∀(A:eG) (outer:List Env) (s:aO) (H:Hp) (args:Args) (us:List aH) (vs:List V) (Q:VK) (E:XK),Room k A->Env0 P w K mg base A outer s H->BindsTo s fd args (ps.zip us)->Vals vs us->sp vs H Q E ->
  pZ (cA P w) A (.call (.ref f) args) (CR CX outer P w H s Q E) s
theorem Env0.make{P:cG}{w:dZ}{K:Fg9}{mg:Str->Option aH}{base:fH}{A:eG}{outer:List Env}{s:aO}{H:Hp}(e:Env0 P w K mg base A outer s H)(C:aY)(us:List aH)(kw:List (Str×Value)) :
  Env0 P w K mg base (A.under (.builtin "type.__call__" ⟨.ref C::us,kw⟩)) outer s H:=⟨by first | exact e.frames | (simpa[qT,Code.envs,qR,pushEnvs] using e.frames),e.mod,e.bs,e.bsz,e.funs,e.frf,e.hok,e.bare⟩
section
variable{X:Cx}{qv:List (aY×Obj)}{σ:St}{H:Hp}{s s':aO}
theorem Inv.env0(I:Inv X qv σ H s):Env0 X.prog X.w X.K X.mg X.base X.A X.stack s H :=
 ⟨I.ok.frames,I.ok.mod,I.bs,dC I.ok.bsz I.sz,I.stack,I.stkFree,I.hok,I.bare⟩
theorem Inv.after{Q:VK}{u:aH}(I:Inv X qv σ H s)(h:CE X.stack X.prog X.w H s Q u s'):EP X qv σ Q u s':=by
 obtain⟨v,H',os,bare,un,hok,r,q⟩:=h;obtain⟨hh,g,d,t,os'⟩:=s';obtain rfl:os'=s.os:=os;exact⟨v,H',I.call (h':=hh) (g':=g) (d':=d) (t':=t) (ch:=[]) un hok bare (λb z=>absurd z (by simp)),r,q⟩
end
def a5q(sp:Sp)(dvs:List V)(E:XK)(t:TA):TE:=λσ H Q=>t σ H λvs H1=>sp (vs++dvs) H1 Q E
def bae(C:aY)(m:Str)(sp:Sp)(dvs:List V)(E:XK)(ta:TE)(t:TA):TE:=λσ H Q=>ta σ H λx H1=>∃a dx fs,x=.ref a/\H1 a=ZY (.ins C dx fs)/\fs.lookup m=ZX /\
 t σ H1 λvs H2=>sp (x::(vs++dvs)) H2 Q E
def baf(C:aY)(sp:Sp)(dvs:List V)(E:XK)(t:TA):TE:=λσ H Q=>t σ H λvs H1=>∀x dx,H1 x=ZX->H1 dx=ZX->dx≠x ->
 sp (.ref x::(vs++dvs)) (upd (upd H1 dx (.own x)) x (.ins C dx [])) (λv H2=>v=.non/\Q (.ref x) H2) E
def Binds(K:Fg9)(fd:gB)(ps:List Str)(ds:List aH):Prop :=
 ∀(s:aO) (us:List aH),K.In s.heap->(us++ds).length=ps.length->BindsTo s fd ⟨us,[]⟩ (ps.zip (us++ds))
theorem Binds.all{K:Fg9}{fd:gB}{ps:List Str}(h:∀us:List aH,us.length=ps.length->bindArgs fd ⟨us,[]⟩=pure (ps.zip us)):Binds K fd ps []:=λs us _ hl=>by
 rw[lD] at hl ⊢
 exact .of_eq (h us hl)
def ajq(CX:CXT)(X:Cx)(E:XK):Prop:=∀(qv:List (aY×Obj)) (σ:St) (H:Hp) (s:aO) (e:aH) (s':aO),Inv X qv σ H s->CX X.stack H s E e s'->X.xe e s'
section
variable{X:Cx}{CX:CXT}{k:Nat}{f C:aY}{fd:gB}{ps:List Str}{sp:Sp}{dvs:List V}{ds:List aH}{E:XK}{x m:Str}{p pos apos:Pos}{e o:dH}{es:List dH}{ta:TE}{t:TA}
theorem a0d{qv:List (aY×Obj)}{σ:St}{H:Hp}{s:aO}{Q:VK}{us:List aH}{vs:List V}(F:FnOk X.prog X.w X.K X.mg X.base CX k f fd ps sp)(hr:Room k X.A)(hb:Binds X.K fd ps ds)(hd:Vals dvs ds)(hx:ajq CX X E)
  (I:Inv X qv σ H s) (r:Vals vs us) (h:sp (vs++dvs) H Q E):bT (cA X.prog X.w) X.A (call (.ref f) us) (EP X qv σ Q) X.xe s:=by
 have r2:Vals (vs++dvs) (us++ds):=r.append hd;have hl:(us++ds).length=ps.length:=by rw[<-r2.length];exact F.len _ _ _ _ h
 refine wpAny_call (codeAny_mono (F.run X.A X.stack s H ⟨us,[]⟩ (us++ds) (vs++dvs) Q E hr I.env0 (hb s us I.kIn hl) r2 h) λr s' hq =>?_)
 cases r with
 | error e=>exact hx qv σ H s e s' I hq
 | ok fl =>
  cases fl with
  | ret u=>exact I.after hq
  | next=>exact iU hq
  | brk=>exact iU hq
  | cont=>exact iU hq
theorem a2p(F:FnOk X.prog X.w X.K X.mg X.base CX k f fd ps sp)(hr:Room k X.A)(hg:Gl X x)(hm:X.mg x=ZY (.ref f))(hk:mC X.K (.ref f)=ZW)(hb:Binds X.K fd ps ds)(hd:Vals dvs ds)(hx:ajq CX X E)
  (ha:PA X (e::es) t) (hdb:(x==("__debug__" : Str))=ZV:=by decide) (he:bA (e::es) X.env=(ZV,eval e X.env)::bA es X.env:=by rfl) (hpl:(jG pos (bA es X.env)).any (·.1)=ZV:=by rfl) :
  PE X (.Call (.Name x p) (e::es) [] pos) (a5q sp dvs E t):=by
 intro qv s σ H Q I h;refine wpAny_Call_Name_kw (au8 I hg hm ?_ hdb);refine pO (h₀:=X.base) I.ok.mod.kin hk (thn (ha pos qv s σ H _ I h) λus s1 ⟨vs,H1,I1,r,q⟩=>⟨I1.kIn,?_⟩) he hpl
 exact a0d F hr hb hd hx I1 r q
theorem a2k{pl:Sem Bool}(he:PE X o ta)(c:Cls X.K C)(hm:Meth X.K C m f)(F:FnOk X.prog X.w X.K X.mg X.base CX k f fd ps sp)(hr:Room k X.A)(hb:Binds X.K fd ps ds)(hd:Vals dvs ds)(hx:ajq CX X E)(ha:PA X (e::es) t)
  (hst:bA (e::es) X.env=(ZV,eval e X.env)::bA es X.env:=by rfl) (hpl:(jG pos (bA es X.env)).any (·.1)=ZV:=by rfl)
  (ht:eval (.Call (.Attribute o m apos) (e::es) [] pos) X.env=(do
   let ov <-eval o X.env
   standAt apos.atName
   let (f,first) <-kW [ov] (getMethod ov m pl)
   callWith pos f first (jG pos (bA (e::es) X.env)) (backToKw pos (keywordEach [] X.env))):=by rfl) :
  PE X (.Call (.Attribute o m apos) (e::es) [] pos) (bae C m sp dvs E ta t):=by
 intro qv s σ H Q I h;refine PySem.W.methodCall_KW (pl:=pl) (thn (he qv s σ H _ I h) λu s1 ⟨x,H1,I1,rx,a,dx,fs,ex,ea,l,q⟩ =>?_) ht
 subst ex;obtain rfl:u=dN a:=rx;refine asu I1 ea c hm l ?_;refine pO (first:=[.ref a]) (h₀:=X.base) I.ok.mod.kin hm.kp (thn (ha pos qv s1 σ H1 _ I1 q) λus s2 ⟨vs,H2,I2,r,q2⟩=>⟨I2.kIn,?_⟩) hst hpl
 exact a0d (us:=.ref a::us) (vs:=.ref a::vs) F hr hb hd hx I2 (.cons rfl r) q2
structure Mk (K:Fg9) (C f:aY):Prop where
 makes:oY K C=ZW
 init:kY K (.ref C) "__init__" = ZY (ZY (.ref f))
 fn:lM K (.ref f)=ZW
 kp:mC K (.ref C)=ZW
theorem axt{qv:List (aY×Obj)}{σ:St}{H:Hp}{s:aO}{Q:VK}{us:List aH}{vs:List V}(M:Mk X.K C f)(F:FnOk X.prog X.w X.K X.mg X.base CX k f fd ps sp)(hr:Room (k+1) X.A)(hb:Binds X.K fd ps ds)(hd:Vals dvs ds)
  (hx:ajq CX X E) (I:Inv X qv σ H s) (r:Vals vs us)
  (h:∀x dx,H x=ZX->H dx=ZX->dx≠x->sp (.ref x::(vs++dvs)) (upd (upd H dx (.own x)) x (.ins C dx [])) (λv H2=>v=.non/\Q (.ref x) H2) E) :
  bT (cA X.prog X.w) X.A (call (.ref C) us) (EP X qv σ Q) X.xe s:=by
 have hq:=h (s.heap.objs.size+1) s.heap.objs.size (I.hok.fresh (gP _)) (I.hok.fresh (aM _)) (bQ (jH _));have I2:=Inv.made (C:=C) I;have r2:Vals (V.ref (s.heap.objs.size+1)::(vs++dvs)) (dN (s.heap.objs.size+1)::(us++ds)):=.cons rfl (r.append hd);have hl:(dN (s.heap.objs.size+1)::us++ds).length=ps.length:=by
  have e:=r2.length;rw[F.len _ _ _ _ hq] at e;exact e.symm
 refine wpAny_call (ayq (f:=f) I.kIn M.makes M.init (beq_iff_eq.mp M.fn) (codeAny_mono (F.run _ X.stack _ _ ⟨Value.ref (s.heap.objs.size+1)::us,[]⟩ (dN (s.heap.objs.size+1)::(us++ds)) _ _ E (hr.make C us [])
  (I2.env0.make C us []) (hb _ (dN (s.heap.objs.size+1)::us) I2.kIn hl) r2 hq) λr s' hq' =>?_))
 cases r with
 | error e=>exact hx qv σ _ _ e s' I2 hq'
 | ok fl =>
  cases fl with
  | ret u =>
   obtain⟨v,H',I3,rv,ev,q3⟩:=I2.after hq';subst ev;exact⟨rv,⟨V.ref (s.heap.objs.size+1),H',I3,rfl,q3⟩⟩
  | next=>exact iU hq'
  | brk=>exact iU hq'
  | cont=>exact iU hq'
theorem a2l(M:Mk X.K C f)(F:FnOk X.prog X.w X.K X.mg X.base CX k f fd ps sp)(hr:Room (k+1) X.A)(hg:Gl X x)(hm:X.mg x=ZY (.ref C))(hb:Binds X.K fd ps ds)(hd:Vals dvs ds)(hx:ajq CX X E)
  (ha:PA X (e::es) t) (hdb:(x==("__debug__" : Str))=ZV:=by decide) (he:bA (e::es) X.env=(ZV,eval e X.env)::bA es X.env:=by rfl) (hpl:(jG pos (bA es X.env)).any (·.1)=ZV:=by rfl) :
  PE X (.Call (.Name x p) (e::es) [] pos) (baf C sp dvs E t):=by
 intro qv s σ H Q I h;refine wpAny_Call_Name_kw (au8 I hg hm ?_ hdb);refine pO (h₀:=X.base) I.ok.mod.kin M.kp (thn (ha pos qv s σ H _ I h) λus s1 ⟨vs,H1,I1,r,q⟩=>⟨I1.kIn,?_⟩) he hpl
 exact axt M F hr hb hd hx I1 r q
end
section
variable{X:Cx}{CX:CXT}{k:Nat}{f C:aY}{fd:gB}{ps ks:List Str}{sp:Sp}{E:XK}{x m:Str}{p pos apos kpos:Pos}{e o:dH}{es:List dH}{kws:List pM}{te ta:TE}{t tk:TA}{nm:Option Str}
structure KBinds (K:Fg9) (fd:gB) (ps ks:List Str) (g:List aH->List aH->List aH) (gV:List V->List V->List V):Prop where
 to:∀(s:aO) (us ws:List aH),K.In s.heap->(g us ws).length=ps.length->BindsTo s fd ⟨us,ks.zip ws⟩ (ps.zip (g us ws))
 rel:∀{vs:List V} {us:List aH} {zs:List V} {ws:List aH},Vals vs us->Vals zs ws->Vals (gV vs zs) (g us ws)
variable{g:List aH->List aH->List aH}{gV:List V->List V->List V}
end
structure FnScope (N P:List Str) (sc:jV):Prop where
 kind:sc.kind=.function
 co:sc.isCoroutine=ZV
 gen:sc.isGenerator=ZV
 nd:N.Nodup
 pre:N.take P.length=P
 par:∀x∈P,sc.names.lookup x=ZY .local∨sc.names.lookup x=ZY .cell
 nofree:∀y∈sc.names,y.2≠.free
theorem ana{kindOf:Str->Option tU}{x:Str}:∀{binds:List (Str×Value)} {m:Str->Option aH},(∀v,(x,v)∉binds)->bindL kindOf binds m x=m x
 | [],_,_=>rfl
 | (n,v)::r,m,h=>by
  unfold bindL;rw[ana λw hw=>h w (aA _ hw)]
  split
  ·have:x≠n:=by rintro rfl;exact h v aF
   simp[this]
  ·rfl
theorem anc{kindOf:Str->Option tU}{x:Str}:∀{binds:List (Str×Value)} {m:Str->Option aH},(∀v,(x,v)∉binds)->bindC kindOf binds m x=m x
 | [],_,_=>rfl
 | (n,v)::r,m,h=>by
  unfold bindC;rw[anc λw hw=>h w (aA _ hw)]
  split
  ·rfl
  ·have:x≠n:=by rintro rfl;exact h v aF
   simp[this]
theorem anb{kindOf:Str->Option tU}{x:Str}{v:aH}:∀{P:List Str} {vs:List aH} {i:Nat} {m:Str->Option aH},P.Nodup->P[i]? = ZY x->vs[i]? = ZY v->kindOf x=ZY .local ->
  bindL kindOf (P.zip vs) m x=ZY v
 | [],_,_,_,_,h,_,_=>by simp at h
 | _::_,[],_,_,_,_,h,_=>by simp at h
 | p::P,w::vs,0,m,nd,h1,h2,hk=>by
  simp at h1 h2;subst h1;subst h2;show bindL kindOf ((p,w)::P.zip vs) m p=_;unfold bindL;rw[ana λv hv=>(eY.mp nd).1 (rM hv).1,if_pos hk]
  simp
 | p::P,w::vs,i+1,m,nd,h1,h2,hk=>by
  show bindL kindOf ((p,w)::P.zip vs) m x=_;unfold bindL;exact anb (i:=i) (eY.mp nd).2 (by simpa using h1) (by simpa using h2) hk
theorem ane{kindOf:Str->Option tU}{x:Str}{v:aH}:∀{P:List Str} {vs:List aH} {i:Nat} {m:Str->Option aH},P.Nodup->P[i]? = ZY x->vs[i]? = ZY v->kindOf x≠ZY .local ->
  bindC kindOf (P.zip vs) m x=ZY v
 | [],_,_,_,_,h,_,_=>by simp at h
 | _::_,[],_,_,_,_,h,_=>by simp at h
 | p::P,w::vs,0,m,nd,h1,h2,hk=>by
  simp at h1 h2;subst h1;subst h2;show bindC kindOf ((p,w)::P.zip vs) m p=_;unfold bindC;rw[anc λv hv=>(eY.mp nd).1 (rM hv).1,if_neg hk]
  simp
 | p::P,w::vs,i+1,m,nd,h1,h2,hk=>by
  show bindC kindOf ((p,w)::P.zip vs) m x=_;unfold bindC;exact ane (i:=i) (eY.mp nd).2 (by simpa using h1) (by simpa using h2) hk
noncomputable def start(N:List Str)(vs:List V):St:=vs.map ZY++aP (N.length - vs.length) ZX
noncomputable def cxOf(CX:CXT)(P:cG)(w:dZ)(K:Fg9)(mg:Str->Option aH)(base:fH)(N:List Str)(qual:Str)(scope:jV)(f:aY)(cd:aH)(A:eG)(outer:List Env)(s:aO)(H:Hp)(E:XK):Cx where
 prog:=P
 w:=w
 K:=K
 mg:=mg
 base:=base
 A:=A.deeper (oH qual scope s.heap.objs.size f cd)
 N:=N
 s₀:=s
 H₀:=H
 env:=oH qual scope s.heap.objs.size f cd
 outer:=outer
 stack:=oH qual scope s.heap.objs.size f cd::outer
 ex:=[]
 calm:=ZW
 fn:=λ_=>ZW
 pn:=[]
 xe:=λe s'=>bT (cA P w) (A.deeper (oH qual scope s.heap.objs.size f cd)) (leaving (oH qual scope s.heap.objs.size f cd) e) (λ_ s''=>CX outer H s E e s'') (λe' s''=>CX outer H s E e' s'') s'
theorem aq9{sc:jV}{n:Nat}{x:Str}(h:sc.names.lookup x=ZY .cell):∃c,(nF n sc.names []).lookup x=ZY c:=by
 have q:=uB sc.names n [] (.inl h);exact sZ.mp q
theorem avk{CX:CXT}{P:cG}{w:dZ}{K:Fg9}{mg:Str->Option aH}{base:fH}{N ps:List Str}{qual:Str}{scope:jV}{f:aY}{cd:aH}{A:eG}{outer:List Env}{s s1:aO}{H:Hp}{E:XK}{us:List aH}{vs:List V}
  (S:FnScope N ps scope) (hd:A.handled=ZX) (e0:Env0 P w K mg base A outer s H) (hl:vs.length=ps.length) (r:Vals vs us)
  (x:InCallC s s.heap.objs.size (bindL (oH qual scope s.heap.objs.size f cd).kindOf (ps.zip us) λ_=>ZX) (nF (s.heap.objs.size+1) scope.names []) (bindC (oH qual scope s.heap.objs.size f cd).kindOf (ps.zip us) λ_=>ZX) s1) :
  Inv (cxOf CX P w K mg base N qual scope f cd A outer s H E) [] (start N vs) H s1:=by
 have hpl:ps.length<=N.length:=by have:=congrArg vA S.pre;rw[jJ] at this;omega
 obtain⟨h1,tk,rfl,hk⟩:=x.done;have noA:∀b:aY,b∉(cxOf CX P w K mg base N qual scope f cd A outer s H E).ex:=λb z=>absurd (show b∈([]:List aY) from z) (by simp)
 refine⟨⟨e0.mod,S.kind,rfl,rfl,aM _,λy z c h1 h2 =>?_,λy hy =>?_,λy c _ h =>?_,λ_=>hd,Around.frames_deeper e0.frames,.inr ⟨rfl,rfl⟩,λb z=>absurd z (noA b),e0.bs,e0.bsz,λb _ _=>noA b,λb z=>absurd z (noA b),e0.funs,e0.frf⟩,
  rfl,e0.bare,Un.kept hk,⟨_,x.toInCall.ns,λi y v h1 h2 h3 =>?_⟩,λy c h=>⟨_,x.cell y c h⟩,e0.hok.fresh (aM _),λy c h =>?_,λp hp=>absurd (show p∈([]:List (aY×Obj)) from hp) (by simp),e0.hok.kept hk,?_⟩
 ·exact name_of_addr x.apart (gK h1) (gK h2)
 ·have hy:scope.names.lookup y=ZY .cell∨scope.names.lookup y=ZY .free:=hy;rcases hy with hy | hy
  ·exact aq9 hy
  ·exact absurd rfl (S.nofree _ (gK hy))
 ·exact lN (x.above y c (gK h))
 ·have hi:i < vs.length:=by
   unfold start at h2
   by_cases hi:i < vs.length
   ·exact hi
   ·rw[dI (by simpa using hi)] at h2
    rw[gG] at h2;split at h2 <;> cases h2
  have ha:vs[i]? = ZY v:=by
   unfold start at h2;rw[bF (by simpa using hi),aN] at h2
   cases e:vs[i]? with
   | none=>rw[e] at h2;cases h2
   | some a=>rw[e] at h2;cases h2;rfl
  obtain⟨u,hu,rv⟩:=r.get ha;have hp:ps[i]? = ZY y:=by
   rw[<-S.pre,kO (by omega)];exact h1
  have ndP:ps.Nodup:=by rw[<-S.pre];exact S.nd.sublist (List.take_sublist _ _)
  refine⟨u,rv,?_⟩;rcases S.par y (cR hp) with k | k
  ·exact .inl ⟨k,anb ndP hp hu k⟩
  ·obtain⟨c,e⟩:=aq9 (n:=s.heap.objs.size+1) k;refine .inr ⟨.inl k,c,e,?_⟩;have q:=x.cell y c e;rw[ane ndP hp hu (by show scope.names.lookup y≠_;rw[k];decide)] at q
   exact q
 ·exact e0.hok.fresh (lN (x.above y c (gK h)))
 ·unfold start;show _=N.length;rw[cP,aK,jL];omega
theorem bb6{CX:CXT}{P:cG}{w:dZ}{K:Fg9}{mg:Str->Option aH}{base:fH}{k:Nat}{f:aY}{name qual:Str}{params:Arguments}{body:List gU}{scope:jV}{dV kV doc pm cdv ct oc:aH}{an od:Option aY}
  {osl:Array (Option aH)} {N ps:List Str} {sp:Sp} (lk:K.lookup f=ZY ⟨oc,od,.func (fnOf name qual params body scope dV kV doc pm an cdv ct),osl⟩) (hcd:codeIn K cdv qual=ZW) (S:FnScope N ps scope)
  (len:∀vs H Q E,sp vs H Q E->vs.length=ps.length)
  (hbody:∀(A:eG) (outer:List Env) (s:aO) (H:Hp) (vs:List V) (Q:VK) (E:XK),Room k (A.deeper (oH qual scope s.heap.objs.size f cdv))->sp vs H Q E ->
   ∃t,PSs (cxOf CX P w K mg base N qual scope f cdv A outer s H E) body t/\t { nx:=λ_ H'=>Q .non H',rt:=Q } (start N vs) H) :
  FnOk P w K mg base CX (k+1) f (fnOf name qual params body scope dV kV doc pm an cdv ct) ps sp:=by
 refine⟨len,λA outer s H args us vs Q E hr e0 hb r hsp =>?_⟩
 have hl:=len _ _ _ _ hsp;have KX:K.In s.heap:=e0.mod.kin.keeps λb o e=>(e0.bs b o e).1
 have lim:s.heap.NoLimit:=e0.mod.nolimit.keeps λb o e=>(e0.bs b o e).1
 have hkind:∀y∈ps.zip us,scope.names.lookup y.1=ZY .local∨(scope.names.lookup y.1=ZY .cell/\((nF (s.heap.objs.size+1) scope.names []).lookup y.1).isSome=ZW):=λ⟨n,v⟩ hy=>by
  rcases S.par n (rM hy).1 with q | q
  ·exact .inl q
  ·exact .inr ⟨q,uB _ _ _ (.inl q)⟩
 refine codeAny_call_function hr.depth (KX _ _ lk) rfl S.co S.gen rfl (PySem.W.codeRec_of KX hcd) (hb _ _ _ _ ?_);refine wpAny_newFunctionEnv_cells S.kind hkind λenv he s1 x =>?_
 subst he;refine⟨lim.keeps x.toInCall.keep,codeAny_func ?_⟩;obtain⟨t,ht,hq⟩:=hbody A outer s H vs Q E (hr.deeper _) hsp;have I:Inv (cxOf CX P w K mg base N qual scope f cdv A outer s H E) [] (start N vs) H s1:=avk S hr.hd e0 hl r x;refine cU (ht [] s1 (start N vs) H _ I hq) (λfl s' hs =>?_) λe s' hs=>hs
 have fin:∀{σ':St} {H':Hp} {v:V} {u:aH},Inv (cxOf CX P w K mg base N qual scope f cdv A outer s H E) [] σ' H' s'->RelV v u->Q v H'->CE outer P w H s Q u s' :=
  λ{σ' H' v u} J rv q=>⟨v,H',J.os,J.bare,J.base,J.hok,rv,q⟩
 cases fl with
 | ret u =>
  obtain⟨v,σ',H',J,rv,q⟩:=hs;exact fin J rv q
 | next =>
  obtain⟨σ',H',J,q⟩:=hs;exact fin (v:=V.non) (u:=fK) J rfl q
 | brk =>
  obtain⟨_,_,_,q⟩:=hs;exact iU q
 | cont =>
  obtain⟨_,_,_,q⟩:=hs;exact iU q
section
variable{X:Cx}{x:Str}{p pos:Pos}{e:dH}{es:List dH}{t:TA}{id T:String}{r:List V->Hp->VK->Prop}
def tCB(r:List V->Hp->VK->Prop)(t:TA):TE:=λσ H Q=>t σ H λvs H1=>r vs H1 Q
theorem ap5(hc:afw X (.builtin id) r)(hg:Gl X x)(hm:X.mg x=ZX)(hv:cM x=ZY (.builtin id))(ha:PA X (e::es) t)(hn:x ≠ "__name__" := by decide)(hdb:(x==("__debug__" : Str))=ZV:=by decide)
  (he:bA (e::es) X.env=(ZV,eval e X.env)::bA es X.env:=by rfl) (hpl:(jG pos (bA es X.env)).any (·.1)=ZV:=by rfl):PE X (.Call (.Name x p) (e::es) [] pos) (tCB r t):=by
 intro qv s σ H Q I h;refine wpAny_Call_Name_kw (ahh I hg hm hv ?_ hn hdb);exact PyProof.Rows.callWith_builtin1 (thn (ha pos qv s σ H _ I h) λus s1 ⟨vs,H1,I1,r1,q1⟩=>hc qv s1 σ H1 vs us Q I1 r1 q1) he hpl
theorem aup(hc:afw X (.type T) r)(hg:Gl X x)(hm:X.mg x=ZX)(hv:cM x=ZY (.type T))(ha:PA X (e::es) t)(hn:x ≠ "__name__" := by decide)(hdb:(x==("__debug__" : Str))=ZV:=by decide)
  (he:bA (e::es) X.env=(ZV,eval e X.env)::bA es X.env:=by rfl) (hpl:(jG pos (bA es X.env)).any (·.1)=ZV:=by rfl):PE X (.Call (.Name x p) (e::es) [] pos) (tCB r t):=by
 intro qv s σ H Q I h;refine wpAny_Call_Name_kw (ahh I hg hm hv ?_ hn hdb);exact gM (thn (ha pos qv s σ H _ I h) λus s1 ⟨vs,H1,I1,r1,q1⟩=>hc qv s1 σ H1 vs us Q I1 r1 q1) he hpl
end
end L2
namespace HT
open PySem PyProof.Rows
section
open PySem.SeqAt
open PySem.AutoSeq1 (wpAny_loadPart')
open PySem.MeetsSeq PySem.MeetsSeq2 PySem.MeetsSeq3
end
section
variable{prog:cG}{w:dZ}{A:eG}{E:aH->aO->Prop}{s:aO}
theorem a4k{t b:aY}{vs ws:List aH}{Q:aH->aO->Prop}(ht:vC s.heap t vs.toArray)(hb:vC s.heap b ws.toArray)(hv:vs≠[])
  (h1:ws=[]->Q (.ref t) s) (h2:ws≠[]->Q (.ref s.heap.objs.size) { s with heap:=s.heap.push { cls:=.type "tuple", data:=.seq (vs++ws).toArray } })
  (hsz:vs.length+ws.length<=cO):bT (cA prog w) A (fO .Add (.ref t) (.ref b)) Q E s:=by
 obtain⟨⟨cls,dd,data,sl⟩,ho,hc,n,hd⟩:=id ht;obtain⟨⟨cls2,dd2,data2,sl2⟩,ho2,hc2,n2,hd2⟩:=id hb;simp only at hc hd hc2 hd2;subst hc hd hc2 hd2;have e:vs.toArray++ws.toArray=(vs++ws).toArray:=by simp
 by_cases hw:ws=[]
 ·exact concat_meets ⟨_,ho,rfl⟩ ⟨_,ho2,rfl⟩ noFill_tuple_add seq_tuple_add oR oE (nO _ _)
   (tuple_addW1 t b vs.toArray ws.toArray n n2 dd dd2 sl sl2 (by simpa using hv) (by simp[hw])) ⟨ho,ho2,h1 hw⟩
 ·refine concat_meets ⟨_,ho,rfl⟩ ⟨_,ho2,rfl⟩ noFill_tuple_add seq_tuple_add oR oE (nO _ _)
   (tuple_addW2 t b vs.toArray ws.toArray n n2 dd dd2 sl sl2 (by simpa using hv) (by simpa using hw) (by rw[aU,aU];exact hsz)) ⟨ho,ho2,?_⟩
  rw[e];exact h2 hw
def sIx(n d:Nat):Option Int->Nat
 | none=>d
 | some v=>if v < 0 then (v+(n:Int)).toNat else min v.toNat n
theorem a5z(n d:Nat)(hd:d<=n)(o:Option Int):sIx n d o<=n:=by
 cases o with
 | none=>exact hd
 | some v =>
  show(if v < 0 then (v+(n:Int)).toNat else min v.toNat n)<=n
  by_cases hv:v < 0
  ·rw[if_pos hv];omega
  ·rw[if_neg hv];exact Nat.min_le_right _ _
theorem awn(v:Int)(n d:Nat):(if v < 0 then max (v+(n:Int)) 0 else min v (n:Int))=((sIx n d (ZY v):Nat):Int):=by
 show(if v < 0 then max (v+(n:Int)) 0 else min v (n:Int))=(((if v < 0 then (v+(n:Int)).toNat else min v.toNat n):Nat):Int)
 by_cases hv:v < 0
 ·simp only[if_pos hv];omega
 ·simp only[if_neg hv];omega
theorem as5(lo hi:Option Int)(n:Nat):nD lo hi 1 (n:Int)=(((sIx n 0 lo:Nat):Int),((sIx n n hi:Nat):Int)):=by
 have h1:¬((1:Int) < 0):=by omega
 unfold nD;simp only[h1,if_false];refine tQ ?_ ?_
 ·cases lo with
  | none=>rfl
  | some v=>exact awn v n 0
 ·cases hi with
  | none=>rfl
  | some v=>exact awn v n n
theorem ar8(i j:Nat):jU (i:Int) (j:Int) 1=j - i:=by
 unfold jU;have h1:(1:Int) > 0:=by omega
 simp only[h1,if_true,Int.ediv_one];split <;> omega
theorem aix{v:aH}{o:Option Int}{Q:Option Int->aO->Prop}(p:qP v o)(h:Q o s):bT (cA prog w) A (Builtin.Slice.slicePartIndex v) Q E s:=by
 cases p with
 | none=>exact slicePart_none h
 | int i t=>exact slicePart_int h
theorem abf{sl:aY}{vl vu:aH}{lo hi:Option Int}{n:Nat}{Q:Int×Int×Nat->aO->Prop}(hs:s.heap.IsSliceOf sl vl vu .none)(pl:qP vl lo)(pu:qP vu hi)
  (h:Q (((sIx n 0 lo:Nat):Int),1,sIx n n hi - sIx n 0 lo) s):bT (cA prog w) A (sI (.ref sl) (pure (n:Int))) Q E s:=by
 obtain⟨os,hos,hcs,hds⟩:=id hs;unfold sI Builtin.Slice.sliceFields;refine aB (aB (fQ hos hds (x:=vl) rfl (aB (fQ hos hds (x:=vu) rfl (aB (fQ hos hds (x:=.none) rfl (aR ?_)))))));refine aB (slicePart_none ?_);show bT _ _ (if ((1:Int)==0)=ZW then _ else _) _ _ s
 rw[if_neg (by decide)]
 refine aB (aix pl (aB (aix pu (aB (aR ?_)))));show bT _ _ (match nD lo hi 1 (n:Int) with | (lo,hi)=>pure (lo,(1:Int),jU lo hi 1)) _ _ s
 rw[as5 lo hi n];show bT _ _ (pure (((sIx n 0 lo:Nat):Int),(1:Int),jU ((sIx n 0 lo:Nat):Int) ((sIx n n hi:Nat):Int) 1)) _ _ s;rw[ar8];exact aR h
theorem ax0(xs:Array aH)(i k:Nat):((aJ k).filterMap λ(m:Nat)=>xs[((i:Int)+(m:Int)*1).toNat]?).toArray=((xs.toList.drop i).take k).toArray:=by
 have e:(λ(m:Nat)=>xs[((i:Int)+(m:Int)*1).toNat]?)=λm=>xs[i+m]? := by
  funext m
  have:((i:Int)+(m:Int)*1).toNat=i+m:=by omega
  rw[this]
 rw[e];have:=pick_run xs i k;rw[List.filterMap_map] at this;have e2:((λx=>xs[x]?)∘λx=>i+x)=λm=>xs[i+m]? := rfl
 rw[e2] at this;rw[this]
theorem afr{t sl:aY}{items:Array aH}{vl vu:aH}{lo hi:Option Int}{Q:aH->aO->Prop}(ht:vC s.heap t items)(hs:s.heap.IsSliceOf sl vl vu .none)(pl:qP vl lo)(pu:qP vu hi)
  (hw:¬(sIx items.size 0 lo=0/\sIx items.size items.size hi=items.size))
  (h:Q (.ref s.heap.objs.size) { s with heap:=s.heap.push { cls:=.type "tuple", data:=.seq ((items.toList.drop (sIx items.size 0 lo)).take (sIx items.size items.size hi - sIx items.size 0 lo)).toArray } })
  (hsz:items.size<=cO):bT (cA prog w) A (pY (.ref t) (.ref sl)) Q E s:=by
 have htake:sizeOk (.seq ((items.toList.drop (sIx items.size 0 lo)).take (sIx items.size items.size hi - sIx items.size 0 lo)).toArray):=by
  show((items.toList.drop (sIx items.size 0 lo)).take (sIx items.size items.size hi - sIx items.size 0 lo)).toArray.size<=cO;rw[aU,jJ,oN,jF];omega
 have hj:sIx items.size items.size hi<=items.size:=a5z _ _ (aM _) hi;obtain⟨os,hos,hcs,hds⟩:=id hs;have hTs:s.TypeIs (.ref sl) "slice" := ⟨os,hos,hcs⟩;unfold pY
 try with_reducible refine fV ?_
 first | refine aB (aR ?_) | skip
 refine aB (wpAny_sequenceKey ht.typeIs (by decide) ?_)
 refine aB (wpAny_callSpecial?_slot (name:=mW "__getitem__") ht.typeIs eQ
  (gC eQ ht.typeIs entry_tuple_getitem ?_ (args_tuple_getitem _ _)))
 show bT _ _ (mU (.ref t) >>= _) _ _ s;refine aB (tupleItemsOf_ ht ?_);refine aB (wpAny_typeOf hTs ?_);rw[if_pos (by decide)]
 refine aB (abf hs pl pu ?_);have hno:¬((((sIx items.size 0 lo:Nat):Int)==0&&(1:Int)==1&&(sIx items.size items.size hi - sIx items.size 0 lo)==items.size)=ZW):=by
  intro q;rw[bL,bL] at q;have q1:((sIx items.size 0 lo:Nat):Int)=0:=eq_of_beq q.1.1;have q2:sIx items.size items.size hi - sIx items.size 0 lo=items.size:=eq_of_beq q.2;exact hw ⟨by omega,by omega⟩
 show bT _ _ (if (((sIx items.size 0 lo:Nat):Int)==0&&(1:Int)==1&&(sIx items.size items.size hi - sIx items.size 0 lo)==items.size)=ZW then _ else _) _ _ s
 rw[if_neg hno,ax0]
 first
  | exact aB (m:=iV _) (eH (aR ⟨_,rfl,aR h⟩) htake)
  | exact aB (m:=iV _) (eH (aB (aR (aR ⟨_,rfl,aR h⟩))) htake)
  | exact aB (aB (m:=iV _) (eH (aR (aR ⟨_,rfl,aR h⟩)) htake))
  | exact aB (aB (m:=iV _) (eH (aR ⟨_,rfl,aR h⟩) htake))
end
end HT
namespace L2
abbrev TO:=St->Hp->(Option Int->Hp->Prop)->Prop
def PO(X:Cx)(e:Option dH)(t:TO):Prop :=
 ∀(qv:List (aY×Obj)) (s:aO) (σ:St) (H:Hp) (Q:Option Int->Hp->Prop),Inv X qv σ H s->t σ H Q ->
  bT (cA X.prog X.w) X.A (evalPart e X.env) (λu s'=>∃o H',Inv X qv σ H' s'/\qP u o/\Q o H') X.xe s
def a1h:TO:=λ_ H Q=>Q ZX H
def baa(t:TE):TO:=λσ H Q=>t σ H λx H1=>∃i,x=.int i/\Q (ZY i) H1
theorem intsAre_of{ns:List Int}:∀{us:List aH},Vals (ns.map V.int) us->jT us ns:=by
 induction ns with
 | nil=>intro us r;rw[uL] at r;cases r;exact .nil
 | cons n ns ih =>
  intro us r;rw[aG] at r;cases r with
  | cons r1 r2 =>
   obtain⟨t,e⟩:=r1;subst e;exact .cons n t (ih r2)
section
variable{X:Cx}{e:dH}{te:TE}{lo hi:Option dH}{tl th:TO}{pos p2:Pos}
theorem a2f:PO X ZX a1h:=by
 intro qv s σ H Q I h;rw[evalPart_none];exact aR ⟨ZX,H,I,.none,h⟩
theorem a2e(h:PE X e te):PO X (ZY e) (baa te):=by
 intro qv s σ H Q I hw;rw[evalPart_some];refine thn (h qv s σ H _ I hw) λu s1 ⟨x,H1,I1,r1,q1⟩ =>?_
 obtain⟨i,rfl,q⟩:=q1;obtain⟨t,rfl⟩:=r1;exact⟨ZY i,H1,I1,.int i t,q⟩
def SlR(X:Cx)(r:V->Option Int->Option Int->Hp->VK->Prop):Prop :=
 ∀(qv:List (aY×Obj)) (s:aO) (σ:St) (H:Hp) (x:V) (v vl vu:aH) (lo hi:Option Int) (sl:aY) (Q:VK),Inv X qv σ H s->RelV x v->s.heap.IsSliceOf sl vl vu .none->qP vl lo->qP vu hi->r x lo hi H Q ->
  ∃T id,typeLookup (.type T) "__getitem__" = pure (ZY (.builtin id))/\s.TypeIs v T/\bT (cA X.prog X.w) X.A (pY v (.ref sl)) (EP X qv σ Q) X.xe s
def tSl(r:V->Option Int->Option Int->Hp->VK->Prop)(te:TE)(tl th:TO):TE:=λσ H Q=>te σ H λx H1=>tl σ H1 λl H2=>th σ H2 λu H3=>r x l u H3 Q
theorem ax2{r:V->Option Int->Option Int->Hp->VK->Prop}(hr:SlR X r)(he:PE X e te)(hl:PO X lo tl)(hu:PO X hi th):PE X (.Subscript e (.Slice lo hi ZX p2) pos) (tSl r te tl th):=by
 intro qv s σ H Q I h;refine Subscript_ (thn (he qv s σ H _ I h) λv s1 ⟨x,H1,I1,r1,q1⟩ =>?_)
 refine wpAny_Slice (thn (hl qv s1 σ H1 _ I1 q1) λvl s2 ⟨l,H2,I2,pl,q2⟩=>thn (hu qv s2 σ H2 _ I2 q2) λvu s3 ⟨u,H3,I3,pu,q3⟩ =>?_)
 rw[evalPart_none];refine aR ?_;have I4:Inv X qv σ H3 { s3 with heap:=s3.heap.push { cls:=.type "slice", data:=.fields #[vl,vu,.none] } }:=I3.kept (t':=s3.toks) λb ob q=>aD _ q
 obtain⟨T,id,hT,ht,hg⟩:=hr qv { s3 with heap:=s3.heap.push { cls:=.type "slice", data:=.fields #[vl,vu,.none] } } σ H3 x v vl vu l u s3.heap.objs.size Q I4 r1 (Heap.IsSliceOf.new ..) pl pu q3
 show bT (cA X.prog X.w) X.A (subscriptTail e (.Slice lo hi ZX p2) v (.ref s3.heap.objs.size)) (EP X qv σ Q) X.xe { s3 with heap:=s3.heap.push { cls:=.type "slice", data:=.fields #[vl,vu,.none] } }
 exact tail_any (ops:=[.ref s3.heap.objs.size,v]) ht hT hg (by with_unfolding_all rfl)
def cutV(xs:List V)(lo hi:Option Int):List V:=(xs.drop (HT.sIx xs.length 0 lo)).take (HT.sIx xs.length xs.length hi - HT.sIx xs.length 0 lo)
theorem ah7(xs:List V)(lo hi:Option Int):(cutV xs lo hi).length<=xs.length:=by
 unfold cutV;rw[jJ,oN];omega
def rSlT(K:Fg9):V->Option Int->Option Int->Hp->VK->Prop:=λx lo hi H Q=>∃a xs,x=.ref a/\SqT K H a xs /\
 ¬(HT.sIx xs.length 0 lo=0/\HT.sIx xs.length xs.length hi=xs.length)/\∀p,H p=ZX->Q (.ref p) (upd H p (.tup (cutV xs lo hi)))
theorem a5w:SlR X (rSlT X.K):=by
 intro qv s σ H x v vl vu lo hi sl Q I rx hs pl pu h;obtain⟨a,xs,rfl,hx,hw,q⟩:=h;cases rx;obtain⟨its,r,ht,hz⟩:=I.tuple hx;have hlen:its.toArray.size=xs.length:=by rw[aU];exact r.length.symm
 refine⟨"tuple", _,eQ.lookup,ht.typeIs,?_⟩;refine HT.afr ht hs pl pu (by rw[hlen];exact hw) ?_ (by rw[hlen];exact hz)
 rw[hlen];refine⟨.ref s.heap.objs.size,_,I.laid (t':=s.toks) (o:=.tup (cutV xs lo hi)) (λb ob q=>aD _ q) (aM _) ?_,rfl,q _ (I.hok.fresh (aM _))⟩
 exact⟨Nat.le_trans (ah7 xs lo hi) hz,_,(r.drop (HT.sIx xs.length 0 lo)).take (HT.sIx xs.length xs.length hi - HT.sIx xs.length 0 lo),IsTp.new _ _⟩
def bau(K:Fg9):R2:=λx y H Q=>∃a b xs ys,x=.ref a/\y=.ref b/\SqT K H a xs/\SqT K H b ys/\xs≠[]/\xs.length+ys.length<=cO /\
 (ys=[]->Q (.ref a) H)/\(ys≠[]->∀p,H p=ZX->Q (.ref p) (upd H p (.tup (xs++ys))))
theorem Vals.nil_iff{xs:List V}{us:List aH}(r:Vals xs us):us=[]↔xs=[]:=by
 cases r with
 | nil=>simp
 | cons _ _=>simp
theorem a2w:OpR X (fO .Add) (bau X.K):=by
 intro qv s σ H x y v u Q I rx ry h;obtain⟨a,b,xs,ys,rfl,rfl,ha,hb,hx,hz,q1,q2⟩:=h;cases rx;cases ry;obtain⟨its,r1,p1,_⟩:=I.tuple ha;obtain⟨its2,r2,p2,_⟩:=I.tuple hb;refine HT.a4k p1 p2 (λz=>hx (r1.nil_iff.mp z)) (λz=>⟨.ref a,H,I,rfl,q1 (r2.nil_iff.mp z)⟩) (λz =>?_) (by rw[<-r1.length,<-r2.length];exact hz)
 refine⟨.ref s.heap.objs.size,_,I.laid (t':=s.toks) (o:=.tup (xs++ys)) (λb ob q=>aD _ q) (aM _) ?_,rfl,q2 (λw=>z (r2.nil_iff.mpr w)) _ (I.hok.fresh (aM _))⟩
 exact⟨by rw[cP];exact hz,_,r1.append r2,IsTp.new _ _⟩
end
noncomputable def ixN(n:Nat)(i:Int):Option Nat:=if 0<=i then (if i < n then ZY i.toNat else ZX) else if -(n:Int)<=i then ZY (i+n).toNat else ZX
def atI{α:Type}(xs:List α)(i:Int):Option α:=(ixN xs.length i).bind λj=>xs[j]?
theorem ave{n:Nat}{i:Int}{j:Nat}(h:ixN n i=ZY j):seqIndex? i n=ZY j/\j < n /\ -(n:Int)<=i/\i < n:=by
 unfold ixN at h
 by_cases h0:0<=i
 ·rw[if_pos h0] at h
  by_cases h1:i < n
  ·rw[if_pos h1] at h;have e:i.toNat=j:=bO h;exact⟨by rw[seqIndex_of h0 h1,e],by omega,by omega,h1⟩
  ·rw[if_neg h1] at h;cases h
 ·rw[if_neg h0] at h
  by_cases h1 : -(n:Int)<=i
  ·rw[if_pos h1] at h;have e:(i+n).toNat=j:=bO h;exact⟨by rw[seqIndex_neg (by omega) h1,e],by omega,h1,by omega⟩
  ·rw[if_neg h1] at h;cases h
theorem apb{α:Type}{xs:List α}{i:Int}{v:α}(h:atI xs i=ZY v):∃j,seqIndex? i xs.length=ZY j/\xs[j]? = ZY v/\j < xs.length /\ -(xs.length:Int)<=i/\i < xs.length:=by
 unfold atI at h;cases e:ixN xs.length i with
 | none=>rw[e] at h;cases h
 | some j =>
  rw[e] at h;obtain⟨h1,h2,h3,h4⟩:=ave e;exact⟨j,h1,h,h2,h3,h4⟩
theorem ald{α:Type}{xs:List α}{j:Nat}{v:α}(h:xs[j]? = ZY v):atI xs (j:Int)=ZY v:=by
 have hj:j < xs.length:=(aQ.mp h).1;have e:ixN xs.length (j:Int)=ZY j:=by
  unfold ixN;rw[if_pos (by omega),if_pos (by omega)];simp
 unfold atI;rw[e];exact h
def apf(b:dH):Prop:=∀o i,subscripted b ZV o i=operate [o,i] (pY o i)
def IxR(X:Cx)(r:R2):Prop :=
 ∀(value slice:dH) (qv:List (aY×Obj)) (s:aO) (σ:St) (H:Hp) (x y:V) (v u:aH) (Q:VK),Inv X qv σ H s->RelV x v->RelV y u->r x y H Q ->
  subscripted slice ZV v u=operate [v,u] (pY v u)->bT (cA X.prog X.w) X.A (subscriptTail value slice v u) (EP X qv σ Q) X.xe s
def MtR(X:Cx)(id:String)(r:V->List V->Hp->VK->Prop):Prop :=
 ∀(qv:List (aY×Obj)) (s:aO) (σ:St) (H:Hp) (x:V) (xs:List V) (v:aH) (us:List aH) (Q:VK),Inv X qv σ H s->RelV x v->Vals xs us->r x xs H Q ->
  bT (cA X.prog X.w) X.A (call (.builtin id) (v::us)) (EP X qv σ Q) X.xe s
section
variable{X:Cx}{a b:dH}{ta tb:TE}{pos:Pos}
theorem a6v{r:R2}(hr:IxR X r)(ha:PE X a ta)(hb:PE X b tb)(hs:apf b):PE X (.Subscript a b pos) (tOp r ta tb):=by
 intro qv s σ H Q I h;exact Subscript_ (binT ha hb I h λv u s2 x y H2 I2 rx ry q=>hr a b qv s2 σ H2 x y v u Q I2 rx ry q (hs _ _))
def rIxL(K:Fg9):R2:=λx y H Q=>∃p xs i v,x=.ref p/\y=.int i/\SqL K H p xs/\atI xs i=ZY v/\Q v H
def rIxT(K:Fg9):R2:=λx y H Q=>∃p xs i v,x=.ref p/\y=.int i/\SqT K H p xs/\atI xs i=ZY v/\Q v H
theorem a3o:IxR X (rIxL X.K):=by
 intro value slice qv s σ H x y v u Q I rx ry h hs;obtain⟨p,xs,i,z,rfl,rfl,hq,he,q⟩:=h;cases rx;obtain⟨t,rfl⟩:=ry;obtain⟨its,r,pl,hz⟩:=I.list hq;obtain⟨j,h1,h2,h3,h4,h5⟩:=apb he;obtain⟨w,ew,rw'⟩:=r.get h2;have hl:=r.length;have hn:=al9;have fin:EP X qv σ Q w s:=⟨z,H,I,rw',q⟩
 by_cases h0:0<=i
 ·have hj:i.toNat=j:=by
   rw[seqIndex_of h0 h5] at h1;exact bO h1
  exact item_listR pl.isList h0 (by omega) (by rw[hj];simpa using ew) fin hs
 ·have hj:(i+(its.toArray.size:Int)).toNat=j:=by
   rw[seqIndex_neg (by omega) h4] at h1
   rw[aU,<-hl];exact bO h1
  exact subscriptTail_builtinR (x:=w) pl.isList.typeIs slot_list_getitem.lookup
   (wpAny_getItem_list_neg (Q:=λr s'=>r=w/\EP X qv σ Q r s') pl.isList (by omega) (by rw[aU] <;> omega) (by omega) (by rw[hj];simpa using ew) ⟨rfl,fin⟩) hs
theorem a77:IxR X (rIxT X.K):=by
 intro value slice qv s σ H x y v u Q I rx ry h hs;obtain⟨p,xs,i,z,rfl,rfl,hq,he,q⟩:=h;cases rx;obtain⟨t,rfl⟩:=ry;obtain⟨its,r,pl,hz⟩:=I.tuple hq;obtain⟨j,h1,h2,h3,h4,h5⟩:=apb he;obtain⟨w,ew,rw'⟩:=r.get h2;have hl:=r.length;have hn:=al9;have fin:EP X qv σ Q w s:=⟨z,H,I,rw',q⟩;exact subscriptTail_builtinR (x:=w) pl.typeIs slot_tuple_getitem.lookup
  (getItem_tuple (j:=j) (Q:=λr s'=>r=w/\EP X qv σ Q r s') pl (by omega) (by omega) (by rw[aU,<-hl];exact h1) (by simpa using ew) ⟨rfl,fin⟩) hs
theorem asi(its:List aH)(n j:Nat)(u:aH):fU (·.setIfInBounds j u) { cls:=.type "list", data:=.seq its.toArray n }={ cls:=.type "list", data:=.seq (its.set j u).toArray n }:=by
 simp[fU]
theorem Inv.lst{qv:List (aY×Obj)}{σ:St}{H:Hp}{s:aO}{p:aY}{xs:List V}(I:Inv X qv σ H s)(h:H p=ZY (.lst xs)) :
  ∃(its:List aH) (n:Nat),Vals xs its/\s.heap.get? p=ZY { cls:=.type "list", data:=.seq its.toArray n }/\xs.length<=cO:=by
 obtain⟨z,its,n,r,e⟩:=I.hok p _ h;exact⟨its,n,r,e,z⟩
theorem Inv.lstUpd{qv:List (aY×Obj)}{σ:St}{H:Hp}{s:aO}{p:aY}{xs ys:List V}{its its':List aH}{n n':Nat}{f:Obj->Obj}(I:Inv X qv σ H s)(h:H p=ZY (.lst xs))
  (ho:s.heap.get? p=ZY { cls:=.type "list", data:=.seq its.toArray n }) (hf:f { cls:=.type "list", data:=.seq its.toArray n }={ cls:=.type "list", data:=.seq its'.toArray n' }) (r:Vals ys its') (hz:ys.length<=cO) (t:Nat) :
  Inv X qv σ (upd H p (.lst ys)) { s with heap:=s.heap.update p f,toks:=t }:=by
 have e:(s.heap.update p f).get? p=ZY { cls:=.type "list", data:=.seq its'.toArray n' }:=by
  rw[lU f ho (by rw[hf] <;> rfl),hf]
 refine I.write (x:=p) (e:=p) (by rw[h];trivial) (.inl rfl) (λb u hb q=>(uF _ _ (gR hb)).trans q) ⟨_,e⟩ ?_
 exact⟨hz,its',n',r,e⟩
def baq:V->V->V->Hp->(Hp->Prop)->Prop:=λo i v H Q=>∃p xs k j,o=.ref p/\i=.int k/\H p=ZY (.lst xs)/\ixN xs.length k=ZY j/\Q (upd H p (.lst (xs.set j v)))
theorem set_list:PSet X baq:=by
 intro qv s σ H o i v ov iv u Q I ro ri rv h;obtain⟨p,xs,k,j,rfl,rfl,hp,hj,q⟩:=h;cases ro;obtain⟨t,rfl⟩:=ri;obtain⟨its,n,r,ho,hz⟩:=I.lst hp;obtain⟨h1,h2,h3,h4⟩:=ave hj;have hl:=r.length;have hn:=al9;have I':Inv X qv σ (upd H p (.lst (xs.set j v))) { s with heap:=s.heap.update p (fU (·.setIfInBounds j u)) } :=
  I.lstUpd hp ho (asi its n j u) (r.set rv j) (by rw[bW];exact hz) s.toks
 by_cases h0:0<=k
 ·have hk:k.toNat=j:=by
   rw[seqIndex_of h0 h4] at h1;exact bO h1
  exact PySem.W.ki_setAt ho h0 (by omega) (by rw[aU,<-hl];exact h4) (by rw[hk];exact⟨_,I',q⟩)
 ·have hk:(k+(its.toArray.size:Int)).toNat=j:=by
   rw[seqIndex_neg (by omega) h3] at h1
   rw[aU,<-hl];exact bO h1
  exact PySem.W.ki_setBack ho (by omega) (by rw[aU,<-hl];exact h3) (by omega) (by rw[hk];exact⟨_,I',q⟩)
theorem alj(lo hi:Option Int)(n:Nat):(sliceBounds lo hi ZX n).1=((HT.sIx n 0 lo:Nat):Int)/\(sliceBounds lo hi ZX n).2.1=((HT.sIx n n hi:Nat):Int)/\(sliceBounds lo hi ZX n).2.2=1:=by
 refine⟨?_,?_,rfl⟩
 ·cases lo with
  | none=>simp[sliceBounds,HT.sIx]
  | some i =>
   simp only[sliceBounds,HT.sIx,wM,show(1:Int) > 0 by decide,if_true]
   by_cases h:i < 0
   ·simp only[h,if_true] <;> omega
   ·simp only[h,if_false] <;> omega
 ·cases hi with
  | none=>simp[sliceBounds,HT.sIx]
  | some i =>
   simp only[sliceBounds,HT.sIx,wM,show(1:Int) > 0 by decide,if_true]
   by_cases h:i < 0
   ·simp only[h,if_true] <;> omega
   ·simp only[h,if_false] <;> omega
theorem ajy(its:List aH)(lo hi:Option Int):slicePick its.toArray lo hi ZX=((its.drop (HT.sIx its.length 0 lo)).take (HT.sIx its.length its.length hi - HT.sIx its.length 0 lo)).toArray:=by
 obtain⟨h1,h2,h3⟩:=alj lo hi its.toArray.size;unfold slicePick;rw[h1,h2,h3];simp only[sliceRange_one,pick_run,aU] <;> rfl
def rSlL(K:Fg9):V->Option Int->Option Int->Hp->VK->Prop:=λx lo hi H Q=>∃a xs,x=.ref a/\SqL K H a xs/\∀p,H p=ZX->Q (.ref p) (upd H p (.lst (cutV xs lo hi)))
theorem atu:SlR X (rSlL X.K):=by
 intro qv s σ H x v vl vu lo hi sl Q I rx hs pl pu h;obtain⟨a,xs,rfl,hx,q⟩:=h;cases rx;obtain⟨its,r,ht,hz⟩:=I.list hx;have hlen:=r.length;refine⟨"list", _,slot_list_getitem.lookup,ht.isList.typeIs,?_⟩;refine wpAny_getItem_list_slice ht.isList hs pl pu .none (by simp) ?_ (by rw[aU] <;> omega)
 rw[ajy,<-hlen];refine⟨.ref s.heap.objs.size,_,I.laid (t':=s.toks) (o:=.lst (cutV xs lo hi)) (λb ob q=>aD _ q) (aM _) ?_,rfl,q _ (I.hok.fresh (aM _))⟩
 exact⟨Nat.le_trans (ah7 xs lo hi) hz,_,0,(r.drop (HT.sIx xs.length 0 lo)).take (HT.sIx xs.length xs.length hi - HT.sIx xs.length 0 lo),aW _ rfl⟩
noncomputable def flatV:V->Bool
 | .non=>ZW
 | .bl _=>ZW
 | .int _=>ZW
 | .str _=>ZW
 | _=>ZV
theorem am4:afw X (.builtin "len") (λxs H Q=>∃p ys,xs=[.ref p]/\(SqL X.K H p ys∨SqT X.K H p ys)/\Q (.int ys.length) H):=by
 intro qv s σ H xs us Q I r h;obtain⟨p,ys,rfl,hq,q⟩:=h;obtain⟨u,rfl,rx⟩:=vals1 r;cases rx;have hn:=al9;rcases hq with hq | hq
 ·obtain⟨its,r',pl,hz⟩:=I.list hq;have hlen:=r'.length;exact Calls.call_len_list pl.isList (by simp only[aU] <;> omega) ⟨.int ys.length,H,I.tok _,⟨s.toks+1,by rw[aU,hlen]⟩,q⟩
 ·obtain⟨its,r',pl,hz⟩:=I.tuple hq;have hlen:=r'.length;exact len_tuple pl (by simp only[aU] <;> omega) ⟨.int ys.length,H,I.tok _,⟨s.toks+1,by rw[aU,hlen]⟩,q⟩
theorem am3:afw X (.type "list") (λxs H Q=>∃p ys,xs=[.ref p]/\(SqL X.K H p ys∨SqT X.K H p ys)/\∀l,H l=ZX->Q (.ref l) (upd H l (.lst ys))):=by
 intro qv s σ H xs us Q I r h;obtain⟨p,ys,rfl,hq,q⟩:=h;obtain⟨u,rfl,rx⟩:=vals1 r;cases rx;have fin:∀(its:List aH),Vals ys its->ys.length<=cO->∀(h':fH) (c':Nat),(∀b o',s.heap.get? b=ZY o'->h'.get? b=ZY o') ->
   h'.get? s.heap.objs.size=ZY { cls:=.type "list", dict:=ZX,data:=.seq its.toArray c',slots := #[] }->EP X qv σ Q (.ref s.heap.objs.size) { s with heap:=h' }:=λits r' hz h' c' kp e =>
  ⟨.ref s.heap.objs.size,_,I.laid (t':=s.toks) kp (aM _) (show yx X.prog X.w _ h' _ (.lst ys) from⟨hz,its,c',r',e⟩),rfl,q _ (I.hok.fresh (aM _))⟩
 rcases hq with hq | hq
 ·obtain⟨its,r',pl,hz⟩:=I.list hq;have hlen:=r'.length;obtain⟨o,ho,hc,n,hd⟩:=pl.isList;exact call_list_seq p (.inl rfl) ho hc hd (λh' c' kp e=>fin its r' hz h' c' kp e) (by simp only[aU] <;> omega)
 ·obtain⟨its,r',pl,hz⟩:=I.tuple hq;have hlen:=r'.length;obtain⟨o,ho,hc,n,hd⟩:=pl;exact call_list_seq p (.inr rfl) ho hc hd (λh' c' kp e=>fin its r' hz h' c' kp e) (by simp only[aU] <;> omega)
theorem abe:afw X (.type "tuple") (λxs H Q=>∃p ys,xs=[.ref p]/\((SqL X.K H p ys/\∀l,H l=ZX->Q (.ref l) (upd H l (.tup ys)))∨(SqT X.K H p ys/\Q (.ref p) H))):=by
 intro qv s σ H xs us Q I r h;obtain⟨p,ys,rfl,h⟩:=h;obtain⟨u,rfl,rx⟩:=vals1 r;cases rx;rcases h with⟨hq,q⟩ | ⟨hq,q⟩
 ·obtain⟨its,r',pl,hz⟩:=I.list hq;have hlen:=r'.length;refine call_tuple_list pl.isList (λh' kp =>?_) (by simp only[aU] <;> omega)
  have I1:Inv X qv σ H { s with heap:=h' }:=I.kept (t':=s.toks) kp
  have I2:Inv X qv σ (upd H h'.objs.size (.tup ys)) { s with heap:=h'.push { cls:=.type "tuple", data:=.seq its.toArray } } :=
   I1.laid (t':=s.toks) (λb o e=>aD _ e) (aM _) (show yx X.prog X.w _ _ _ (.tup ys) from⟨hz,its,r',IsTp.new _ _⟩)
  exact⟨.ref h'.objs.size,_,I2,rfl,q _ (I1.hok.fresh (aM _))⟩
 ·obtain⟨its,r',pl,hz⟩:=I.tuple hq;exact call_tuple_same pl ⟨.ref p,H,I,rfl,q⟩
def tyV(K:Fg9)(T:String)(x:V)(H:Hp):Prop:=match x with
 | .str _=>T = "str"
 | .int _=>T = "int"
 | .ref p=>(T = "list" /\ ∃xs,SqL K H p xs)∨(T = "tuple" /\ ((∃o,K.lookup p=ZY o/\o.cls=.type "tuple" /\ o.dict=ZX)∨∃xs,H p=ZY (.tup xs))) ∨
   (T = "dict" /\ ((∃kvs,H p=ZY (.dK kvs))∨∃kvs,H p=ZY (.dT kvs)))∨(T = "set" /\ ∃S n,H p=ZY (.set S n))
 | _=>False
theorem a5l{qv:List (aY×Obj)}{σ:St}{H:Hp}{s:aO}{T:String}{x:V}{v:aH}(I:Inv X qv σ H s)(r:RelV x v)(ty:tyV X.K T x H) :
  s.TypeIs v T/\∀a,v=.ref a->∃ob,s.heap.get? a=ZY ob/\ob.dict=ZX:=by
 cases x with
 | str z =>
  obtain⟨t,rfl⟩:=r;cases(show T = "str" from ty)
  exact⟨typeIs_str s z t,λ_ e=>nomatch e⟩
 | int i =>
  obtain⟨t,rfl⟩:=r;cases(show T = "int" from ty)
  exact⟨typeIs_int s i t,λ_ e=>nomatch e⟩
 | ref p =>
  cases r;rcases ty with⟨rfl,xs,hq⟩ | ⟨rfl,⟨o,hk,hc,hd⟩ | ⟨xs,hk⟩⟩ | ⟨rfl,hk⟩ | ⟨rfl,S,n,hk⟩
  ·obtain⟨its,_,pl,_⟩:=I.list hq;refine⟨pl.isList.typeIs,λa e =>?_⟩
   cases e;obtain⟨o,n,e,c,hd,_⟩:=pl;exact⟨o,e,hd⟩
  ·refine⟨⟨o,I.kIn p o hk,hc⟩,λa e =>?_⟩
   cases e;exact⟨o,I.kIn _ o hk,hd⟩
  ·obtain⟨_,_,_,o,e,hc,hd,_⟩:=I.hok p _ hk;refine⟨⟨o,e,hc⟩,λa e2 =>?_⟩
   cases e2;exact⟨o,e,hd⟩
  ·have z:∃o,s.heap.get? p=ZY o/\o.ExactDict:=by
    rcases hk with⟨kvs,hk⟩ | ⟨kvs,hk⟩
    ·obtain⟨_,_,_,_,o,_,_,e,ex,_⟩:=I.hok p _ hk;exact⟨o,e,ex⟩
    ·obtain⟨_,_,_,_,o,_,_,e,ex,_⟩:=I.hok p _ hk;exact⟨o,e,ex⟩
   obtain⟨o,e,ex⟩:=z;refine⟨⟨o,e,ex.1⟩,λa e2 =>?_⟩
   cases e2;exact⟨o,e,ex.2.1⟩
  ·obtain⟨o,_,_,_,e,ex,_⟩:=I.hok p _ hk;refine⟨⟨o,e,ex.1⟩,λa e2 =>?_⟩
   cases e2;exact⟨o,e,ex.2.1⟩
 | _=>exact iU ty
def tBM(K:Fg9)(T:String)(r:V->List V->Hp->VK->Prop)(to:TE)(t:TA):TE:=λσ H Q=>to σ H λx H1=>tyV K T x H1/\t σ H1 λxs H2=>r x xs H2 Q
variable{o e:dH}{es:List dH}{to:TE}{t:TA}{name:Str}{apos cpos:Pos}{T id:String}{r:V->List V->Hp->VK->Prop}
theorem ax7(pa:PlainAttrs T)(slot:Slot T name id)(hty:typeOf (.builtin id)=pure (.type "method_descriptor"))(hm:MtR X id r)(ho:PE X o to)(ha:PA X (e::es) t)
  (hbase:jA o name X.env (eval o X.env)=eval o X.env:=by rfl)
  (hfew:((jG cpos (bA (e::es) X.env)).all (λx => !x.1)&&(backToKw cpos (keywordEach [] X.env)).all (λx=>x.1.isSome)
   && decide ((e::es).length+([]:List pM).length+(if ([]:List pM).isEmpty then 0 else 1) < 30))=ZW:=by rfl)
  (hline:(apos.endLine==cpos.line)=ZW:=by rfl) (hs:bA (e::es) X.env=(ZV,eval e X.env)::bA es X.env:=by rfl) (hplain:(jG cpos (bA es X.env)).any (·.1)=ZV:=by rfl) :
  PE X (.Call (.Attribute o name apos) (e::es) [] cpos) (tBM X.K T r to t):=by
 intro qv s σ H Q I h;refine wpAny_Call_method_late hbase hfew hline rfl (thn (ho qv s σ H _ I h) λv s1 ⟨x,H1,I1,r1,ty,q1⟩ =>?_)
 obtain⟨h1,h2⟩:=a5l I1 r1 ty;refine⟨T,id,pa,slot,hty,h1,h2,?_⟩;have hA:=ha cpos qv s1 σ H1 _ I1 q1;rw[hs] at hA ⊢
 refine Calls.callWith_builtin (by show(ZV||(jG cpos (bA es X.env)).any (·.1))=ZV;rw[hplain] <;> rfl) (Calls.evalArgs_plain ?_)
 exact thn hA λus s2 ⟨vs,H2,I2,r2,q2⟩=>hm qv s2 σ H2 x vs v us Q I2 r1 r2 q2
end
def MtM(X:Cx)(id:String)(r:V->List V->Hp->VK->Prop):Prop :=
 ∀(qv:List (aY×Obj)) (s:aO) (σ:St) (H:Hp) (x:V) (xs:List V) (v:aH) (us:List aH) (Q:VK),Inv X qv σ H s->RelV x v->Vals xs us->r x xs H Q ->
  bT (cA X.prog X.w) X.A (call (.builtin id) (v::us)) (EP X qv σ Q) X.xe s
theorem Vals.one:∀{x:V} {us:List aH},Vals [x] us->∃u,us=[u]/\RelV x u
 | _,_,.cons r .nil=>⟨_,rfl,r⟩
theorem Vals.rep{xs:List V}{us:List aH}(h:Vals xs us):∀k:Nat,Vals (aP k xs).flatten (aP k us).flatten
 | 0=>.nil
 | k+1=>by
  rw[gQ,gQ,jP,jP];exact Vals.append h (Vals.rep h k)
theorem foldl_rep(its:List aH):∀(k:Nat) (acc:List aH),
  lZ (λx1 x2=>x1++x2) acc.toArray (aP k its.toArray)=(acc++(aP k its).flatten).toArray
 | 0,acc=>by simp
 | k+1,acc=>by
  have e:acc.toArray++its.toArray=(acc++its).toArray:=by simp
  have e2:(acc++its)++(aP k its).flatten=acc++(aP (k+1) its).flatten:=by
   rw[gQ,jP,bV]
  rw[<-e2,<-foldl_rep its k (acc++its),<-e,gQ,eF]
section
variable{X:Cx}{qv:List (aY×Obj)}{σ:St}{H:Hp}{s:aO}{l b:aY}{xs ys zs:List V}
theorem Inv.lset{its its':List aH}{n:Nat}{f:Array aH->Array aH}{t':Nat}(I:Inv X qv σ H s)(hH:H l=ZY (.lst xs))
  (e:s.heap.get? l=ZY { cls:=.type "list", data:=.seq its.toArray n }) (hf:f its.toArray=its'.toArray) (hv:Vals ys its') (hz:ys.length<=cO) :
  Inv X qv σ (upd H l (.lst ys)) { s with heap:=s.heap.update l (fU f),toks:=t' }:=by
 have q:=PySem.IsL.update e f;rw[hf] at q;refine I.write (x:=l) (e:=l) (by rw[hH];exact trivial) (.inl rfl) (λb' u hb hu=>(uF s.heap (fU f) (gR hb)).trans hu) ⟨_,q⟩ ?_
 exact⟨hz,its',_,hv,q⟩
theorem Inv.lnew{its:List aH}{t':Nat}(I:Inv X qv σ H s)(hv:Vals ys its)(hz:ys.length<=cO) :
  Inv X qv σ (upd H s.heap.objs.size (.lst ys)) { s with heap:=s.heap.push { cls:=.type "list", data:=.seq its.toArray },toks:=t' } :=
 I.laid (λ_ _ q=>aD _ q) (aM _) ⟨hz,its,0,hv,aW _ rfl⟩
theorem Inv.fresh(I:Inv X qv σ H s):H s.heap.objs.size=ZX:=I.hok.fresh (aM _)
theorem Inv.lstM(I:Inv X qv σ H s)(hH:H l=ZY (.lst xs)):xs.length<=cO/\∃(its:List aH) (n:Nat),Vals xs its/\xs.length=its.length/\s.heap.get? l=ZY { cls:=.type "list", data:=.seq its.toArray n }:=by
 obtain⟨z,its,n,r,e⟩:=I.hok l _ hH;exact⟨z,its,n,r,r.length,e⟩
theorem ayi{n:Nat}(h:n<=cO):tE n=ZV:=by
 unfold tE;exact decide_eq_false (by omega)
end
section
variable{X:Cx}
def auc:V->List V->Hp->VK->Prop:=λx vs H Q=>∃l xs y,x=.ref l/\vs=[y]/\H l=ZY (.lst xs)/\xs.length < cO/\Q .non (upd H l (.lst (xs++[y])))
theorem sy:MtM X "list.append" auc:=by
 intro qv s σ H x vs v us Q I rx rv h;obtain⟨l,xs,y,rfl,rfl,hH,hz,q⟩:=h;cases rx;obtain⟨u,rfl,ru⟩:=rv.one;obtain⟨z,its,n,r,hl,e⟩:=I.lstM hH;refine jZ F.slot_list_append ⟨_,e,rfl⟩ F.entry_list_append (F.args_list_append_2 _ _) (PySem.list_append l its.toArray n u (by rw[aU];omega)) ⟨e,?_⟩
 refine⟨.non,_,I.lset (its':=its++[u]) hH e (by simp) (r.append (.cons ru .nil)) ?_,rfl,q⟩
 rw[cP,List.length_singleton];omega
def rCat:R2:=λx y H Q=>∃l b xs zs,x=.ref l/\y=.ref b/\H l=ZY (.lst xs)/\H b=ZY (.lst zs)/\xs.length+zs.length<=cO/\∀p,H p=ZX->Q (.ref p) (upd H p (.lst (xs++zs)))
theorem a7c:OpR X (fO .Add) rCat:=by
 intro qv s σ H x y v u Q I rx ry h;obtain⟨l,b,xs,zs,rfl,rfl,hH,hB,hz,q⟩:=h;cases rx;cases ry;obtain⟨z,its,n,r,hl,e⟩:=I.lstM hH;obtain⟨z2,its2,n2,r2,hl2,e2⟩:=I.lstM hB;refine PySem.P.add_list e e2 ?_ (by rw[aU,aU];omega)
 have ea:its.toArray++its2.toArray=(its++its2).toArray:=by simp
 rw[ea];exact⟨.ref _,_,I.lnew (t':=s.toks) (r.append r2) (by rw[cP];omega),rfl,q _ I.fresh⟩
def rRep:R2:=λx y H Q=>∃l k xs,x=.ref l/\y=.int k/\H l=ZY (.lst xs) /\ -(2 ^ 63)<=k/\k < 2 ^ 63/\xs.length*k.toNat<=cO /\
 ∀p,H p=ZX->Q (.ref p) (upd H p (.lst (aP k.toNat xs).flatten))
theorem len_rep{α:Type}(xs:List α)(k:Nat):(aP k xs).flatten.length=k*xs.length:=by
 induction k with
 | zero=>simp
 | succ k ih=>rw[gQ,jP,cP,ih,gY,Nat.add_comm]
theorem a68:OpR X (fO .Mult) rRep:=by
 intro qv s σ H x y v u Q I rx ry h;obtain⟨l,k,xs,rfl,rfl,hH,h1,h2,hz,q⟩:=h;cases rx;obtain⟨t,rfl⟩:=ry;obtain⟨z,its,n,r,hl,e⟩:=I.lstM hH;have hlen:its.toArray.size*k.toNat<=cO:=by rw[aU,<-hl];exact hz
 have hcap:¬its.toArray.size*k.toNat > (2 ^ 63 - 1) / 8:=by
  have:(cO:Nat)<=(2 ^ 63 - 1) / 8:=by decide
  omega
 have hfit:¬(!Builtin.List.listFitsIndex k)=ZW:=by
  rw[fitsIndex_both h1 h2];exact dG
 have hlong:¬Builtin.List.listTooLong (its.toArray.size*k.toNat)=ZW:=by
  rw[ayi hlen];exact dG
 have hnew:lZ (λx1 x2=>x1++x2) #[] (aP (if its.toArray.isEmpty=ZW then 0 else k.toNat) its.toArray)=(aP k.toNat its).flatten.toArray:=by
  have f0:∀m:Nat,lZ (λx1 x2=>x1++x2) #[] (aP m its.toArray)=(aP m its).flatten.toArray:=λm=>by
   have:=foldl_rep its m [];rw[aZ] at this;exact this
  rw[f0];cases its with
  | nil=>simp
  | cons a r'=>rw[if_neg (by simp)]
 refine wpAny_binaryOp_repeat_ref (T := "list") (U := "int") (by decide) ⟨_,e,rfl⟩ (λs'=>typeIs_int s' k t) noFill_list_mul rT lF repeat_list qZ.lookup
  (jZ lF (typeIs_int s k t) rA (qM _ _) (int___rmul___int_list k t l its.toArray n)
   ⟨e,rfl,⟨_,e,rfl⟩,jZ F.slot_list_mul ⟨_,e,rfl⟩ F.entry_list_mul (F.args_list_mul_2 _ _) (AutoListH.list___mul___list_int_3 l its.toArray n k t hfit hcap hlong) ⟨e,?_⟩⟩)
 rw[hnew];exact⟨.ref _,_,I.lnew (t':=s.toks) (r.rep k.toNat) (by rw[len_rep,iB];exact hz),rfl,q _ I.fresh⟩
end
section
variable{prog:cG}{w:dZ}{A:eG}{E:aH->aO->Prop}{s:aO}
end
section
variable{X:Cx}
end
end L2
namespace Att
open PySem PySem.W PySem.Calls PyProof.Rows
theorem ahm{P:Params}{h:fH}:∀(ns:List Int) (vs:List aH),WellAll P h vs (ns.map WData.int)->jT vs ns:=by
 intro ns
 induction ns with
 | nil =>
  intro vs w;rw[uL] at w;cases w;exact .nil
 | cons n ns ih =>
  intro vs w;rw[aG] at w;cases w with
  | cons a b =>
   cases a;exact .cons _ _ (ih _ b)
theorem atz{l:OpenLaw}{n:Nat}(hn:l.most=ZY n){P:Params}{h:fH}{args:List WData}{vals:List aH}
  (hpre:l.row.toRowW.claim.pre args=ZW) (hwl:WellAll P h vals args) :
  ∃a vs ns,vals=[dN a]/\args=[WData.list (ns.map WData.int)]/\h.get? a=ZY { cls:=.type "list", data:=.seq vs.toArray }/\jT vs ns/\ns.length<=n:=by
 have hsh:WShape.hasAll [] args [.list .int]=ZW:=(pre_splitW hpre).1;have hc:l.pre.holds [] { args:=args }=ZW:=(pre_splitW hpre).2;obtain⟨d,r,rfl,h1,h2⟩:=hasAllW_cons hsh;obtain rfl:=hasAllW_nil h2;obtain⟨xs,rfl,h3⟩:=hasW_list h1;obtain⟨ns,rfl⟩:=items_int h3;have hlen:ns.length<=n:=by
  unfold OpenLaw.pre at hc;have h4:(WTm.not (.lt (.lit (.int (n:Int))) (.len (.arg 0)))).holds [] { args:=[.list (ns.map .int)] }=ZW:=by
   have h4:=(holds_andW hc).1;rw[hn] at h4;exact h4
  have h5:=condW_of h4 (w_not (w_lt w_lit (w_len_list (w_arg rfl))));rw[aK] at h5;refine Nat.le_of_not_lt λq =>?_
  have q':(n:Int) < ((ns.length:Nat):Int):=by omega
  first
   | (rw[decide_eq_true q'] at h5;exact absurd h5 (by decide))
   | (simp at h5;omega)
 cases hwl with
 | cons w1 w2 =>
  cases w2;cases w1 with
  | list ho hall=>exact⟨_,_,ns,rfl,rfl,ho,ahm ns _ hall,hlen⟩
theorem aui(l:OpenLaw)(args:List WData):l.row.toRowW.claim.post args (.bool ZW) args=ZW :=
 postW_of (r:=l.row.toRowW) (X:=(ZW==ZW))
  (show WShape.has [] (.bool ZW) .bool=ZW by first | rfl | decide | simp[WShape.has,WShape.arms,WShape.armsAll])
  (show(WTm.eq .res (.lit (.bool ZW))).value [] { args:=args,res:=ZY (.bool ZW),after:=args }=ZY (.bool (ZW==ZW)) from w_eq_bool (w_res rfl) w_lit) rfl
theorem ao9{l:OpenLaw}{n:Nat}{q:cG}{loose:List Str}{XP:(Str->Option aH)->fH->Prop}{YP:dZ->fH->Prop}{d:DefRec}
  (hn:l.most=ZY n) (hdf:d.params.defaults=[])
  (call:∀(w:dZ) (s₀ s₁:aO) (mg mb:Str->Option aH) (fa:aY) (o:Obj) (pm cd doc:aH) (a:aY) (vs:List aH) (ns:List Int),
   Ground q loose [] XP w s₀ mg mb s₁.heap->YP w s₁.heap ->
   s₁.heap.get? fa=ZY o->o.data=.func (docDef d.name d.params d.body d.scope pm cd doc)->s₁.heap.CodeRec cd d.name->mg d.name=ZY (.ref fa) ->
   s₁.heap.get? a=ZY { cls:=.type "list", data:=.seq vs.toArray }->jT vs ns->ns.length<=n->s₁.gens = #[] ->
   pZ (cA l.prog w) qC (.call (.ref fa) ⟨[.ref a],[]⟩) (λr s'=>r=.ok (.ret (.bool ZW))/\OldK s₁.heap s'.heap/\s'.os=s₁.os/\pN s'.gens) s₁) :
  WalkO q loose XP YP l.row.toRowW d [] (λf vs=>vR f vs):=by
 intro w s₀ s₁ mg mb G Y fa o pm cd doc dV kV ho hd hcd hD hmg hg args vals as hpre hlay hrd hwl hlo;obtain rfl:dV=.none:=Dflts.none hD hdf;obtain rfl:kV=.none:=Dflts.noKw hD;obtain⟨a,vs,ns,rfl,rfl,hobj,hints,hlen⟩:=atz hn hpre hwl;refine enter_call (codeAny_mono (call w s₀ s₁ mg mb fa o pm cd doc a vs ns G Y ho (fd_plain hd) hcd hmg hobj hints hlen hg) λr s' hq =>?_)
 obtain⟨rfl,h2,h3,h4⟩:=hq;exact⟨.inl ⟨.bool ZW,.bool ZW,[],rfl,λ_=>rfl,.bool ZW,aui l _,λ_=>⟨List.Pairwise.nil,λ_ hm=>(nomatch hm)⟩⟩,h2,h3,h4⟩
section
variable{prog:cG}{w:dZ}{A:eG}{E:aH->aO->Prop}{s:aO}{K:Frag}
end
end Att
namespace L2
theorem alf:∀{vs:List aH} {ns:List Int},jT vs ns->Vals (ns.map V.int) vs
 | _,_,.nil=>.nil
 | _,_,.cons n t h=>.cons ⟨t,rfl⟩ (alf h)
def Only(H:Hp):Prop:=∀b,H b=ZX∨∃o xs,H b=ZY (.frz o (.lst xs))
theorem ayy{P:cG}{w:dZ}{K:Fg9}{mg mb:Str->Option aH}{CX:CXT}{k:Nat}{fa a:aY}{fd:gB}{x:Str}{sp:Sp}{s₁:aO}{vs:List aH}{ns:List Int}
  (KX:K.In s₁.heap) (hns:s₁.heap.Ns bK mg) (hb:s₁.heap.Ns builtinsNs mb) (hbb:∀x:Str,x ≠ "__name__" -> mb x=cM x) (hlim:s₁.heap.NoLimit) (hg:s₁.gens = #[])
  (ha:s₁.heap.get? a=ZY { cls:=.type "list", data:=.seq vs.toArray }) (hi:jT vs ns) (hl:ns.length<=cO) (hr:Room k qC)
  (F:∀base:fH,K.In base->base.Ns bK mg->FnOk P w K mg base CX k fa fd [x] sp) (hbind:∀(s:aO) (u:aH),BindsTo s fd ⟨[u],[]⟩ [(x,u)])
  (hsp:∀H:Hp,Only H->SqL K H a (ns.map V.int)->sp [.ref a] H (λv _=>v=.bl ZW) λ_ _ _=>False)
  (hCX:∀H e s',CX [] H s₁ (λ_ _ _=>False) e s'->False) :
  pZ (cA P w) qC (.call (.ref fa) ⟨[.ref a],[]⟩) (λr s'=>r=.ok (.ret (.bool ZW))/\OldK s₁.heap s'.heap/\s'.os=s₁.os/\pN s'.gens) s₁:=by
 have rv:=alf hi;have lenV:=hi.length;have core:∀H:Hp,Only H->SqL K H a (ns.map V.int)->HOk P w H s₁.heap->(∀b,H b≠ZX->b=a)->(H a≠ZX->K.lookup a=ZX) ->
   pZ (cA P w) qC (.call (.ref fa) ⟨[.ref a],[]⟩) (λr s'=>r=.ok (.ret (.bool ZW))/\OldK s₁.heap s'.heap/\s'.os=s₁.os/\pN s'.gens) s₁:=by
  intro H hO hS hok hA hK;have base_of:∀{b:aY} {o:Obj},s₁.heap.get? b=ZY o->H b=ZX->(hidT s₁.heap H).get? b=ZY o:=λe n=>ay6 e n
  have noA:∀{b:aY} {o:Obj} {es:Array DictEntry} {ep:Nat},s₁.heap.get? b=ZY o->o.data=.dict es ep->H b=ZX:=λ{b o es ep} e d=>by
   cases q:H b with
   | none=>rfl
   | some u =>
    have e':b=a:=hA b (by rw[q];simp)
    subst e';rw[ha] at e;cases e;have d':Data.seq vs.toArray _=Data.dict es ep:=d;cases d'
  have nsK:∀{b:aY} {m:Str->Option aH},s₁.heap.Ns b m->(hidT s₁.heap H).Ns b m:=λ{b m} ⟨o,es,ep,e,d,r⟩=>⟨o,es,ep,base_of e (noA e d),d,r⟩
  have hKb:K.In (hidT s₁.heap H):=λb o e=>base_of (KX b o e) (by
   cases q:H b with
   | none=>rfl
   | some u =>
    have e':b=a:=hA b (by rw[q];simp)
    subst e';rw[hK (by rw[q];simp)] at e;cases e)
  have hM:Mod K mg (hidT s₁.heap H):=⟨hKb,nsK hns,⟨mb,nsK hb,hbb⟩,let ⟨mc,h1,h2⟩:=hlim;⟨mc,nsK h1,h2⟩⟩
  have e0:Env0 P w K mg (hidT s₁.heap H) qC [] s₁ H:=⟨rfl,hM,λb o e=>a2y e,uK (avo _ _),trivial,λb hb=>absurd (show b∈([]:List aY) from hb) (by simp),hok,.of_eq hg⟩
  refine codeAny_mono ((F _ hKb (nsK hns)).run qC [] s₁ H ⟨[.ref a],[]⟩ [.ref a] [.ref a] _ _ hr e0 (hbind s₁ (.ref a)) (.cons rfl .nil) (hsp H hO hS)) λr s' h =>?_
  cases r with
  | error e=>exact(hCX H e s' h).elim
  | ok fl =>
   cases fl with
   | next=>exact iU h
   | brk=>exact iU h
   | cont=>exact iU h
   | ret u =>
    obtain⟨v,H',os,bare,un,hok',r',q⟩:=h;have q':v=.bl ZW:=q;subst q';obtain rfl:u=qD ZW:=r';refine⟨rfl,OldK.of_keep λb o e =>?_,os,bare⟩
    cases q:H b with
    | none=>exact un.keep b o e q (by intro z;exact absurd (show b∈([]:List aY) from z) (by simp)) (by simp)
    | some u =>
     rcases hO b with z | ⟨ob,xs,z⟩
     ·rw[q] at z;cases z
     ·have z2:=un.frzs b ob _ z;obtain⟨e1,_⟩:=hok b _ z;obtain⟨e2,_⟩:=hok' b _ z2;rw[e] at e1;cases e1;exact e2
 cases hk:K.lookup a with
 | some o =>
  have e:=KX a o hk;rw[ha] at e;cases e;refine core (λ_=>ZX) (λ_=>.inl rfl) (.inr ⟨_,vs.toArray,_,hk,rfl,rfl,rfl,by rw[aU,lenV];exact hl,by simpa using rv⟩) (λb u z=>by have z':(ZX:Option HO)=ZY u:=z;cases z') (λb z=>absurd rfl z) λz=>absurd rfl z
 | none =>
  refine core (λb=>if b=a then ZY (.frz { cls:=.type "list", data:=.seq vs.toArray } (.lst (ns.map V.int))) else ZX) (λb =>?_) (.inl (.inr ⟨{ cls:=.type "list", data:=.seq vs.toArray },if_pos rfl⟩)) (λb u z =>?_) (λb z =>?_) λ_=>hk
  ·by_cases hb:b=a
   ·exact .inr ⟨_,_,if_pos hb⟩
   ·exact .inl (if_neg hb)
  ·by_cases hb:b=a
   ·have z':=(if_pos hb).symm.trans z;cases z';subst hb;exact⟨ha,by rw[aK];exact hl,vs,_,rv,ha⟩
   ·have z':=(if_neg hb).symm.trans z;cases z'
  ·by_cases hb:b=a
   ·exact hb
   ·exact absurd (if_neg hb) z
theorem a1c{l:rH}{n k:Nat}{q:cG}{loose:List Str}{XP:(Str->Option aH)->fH->Prop}{YP:dZ->fH->Prop}{d:DefRec}{K:Params->Fg9}{CX:dZ->CXT}{sp:dZ->Sp}{x:Str}
  (hn:l.most=ZY n) (hn2:n<=cO) (hdf:d.params.defaults=[]) (hr:Room k qC)
  (hY:∀(w:dZ) (h:fH),YP w h->(K w.params).In h)
  (F:∀(w:dZ) (mg:Str->Option aH) (fa:aY) (h:fH),(K w.params).In h->h.Ns bK mg->mg d.name=ZY (.ref fa) ->
   ∃fd:gB,(∀(s:aO) (u:aH),BindsTo s fd ⟨[u],[]⟩ [(x,u)]) /\
    ∀base:fH,(K w.params).In base->base.Ns bK mg->FnOk l.prog w (K w.params) mg base (CX w) k fa fd [x] (sp w))
  (hsp:∀(w:dZ) (H:Hp) (a:aY) (ns:List Int),ns.length<=n->Only H->SqL (K w.params) H a (ns.map V.int)->sp w [.ref a] H (λv _=>v=.bl ZW) λ_ _ _=>False)
  (hCX:∀(w:dZ) (H:Hp) (s:aO) (e:aH) (s':aO),CX w [] H s (λ_ _ _=>False) e s'->False) :
  xW q loose XP YP l.row.toRowW d [] (λf vs=>vR f vs):=by
 refine Att.ao9 hn hdf λw s₀ s₁ mg mb fa o pm cd doc a vs ns G Y ho hd hcd hmg hobj hints hlen hg =>?_
 have KX:=hY w _ Y;obtain⟨fd,hb,hF⟩:=F w mg fa _ KX G.T.g hmg;exact ayy KX G.T.g G.T.b G.T.builtins G.T.nolimit hg hobj hints (dC hlen hn2) hr hF hb (λH hO hS=>hsp w H a ns hlen hO hS) λH e s'=>hCX w H s₁ e s'
noncomputable def j9(s:gU):Arguments:=match s with
 | .FunctionDef _ a _ _ _ _ _ _ _ _=>a
 | _=>{ posonlyargs:=[],args:=[],vararg:=ZX,kwonlyargs:=[],kw_defaults:=[],kwarg:=ZX,defaults:=[] }
noncomputable def iu(s:gU):List gU:=match s with
 | .FunctionDef _ _ b _ _ _ _ _ _ _=>b
 | _=>[]
noncomputable def aa(s:gU):jV:=match s with
 | .FunctionDef _ _ _ _ _ _ sc _ _ _=>sc
 | _=>{ kind:=.function,names:=[],isGenerator:=ZV,isCoroutine:=ZV }
abbrev CX0:CXT:=λ_ _ _ _ _ _=>False
abbrev E0:XK:=λ_ _ _=>False
theorem a2s{X:Cx}:ajq CX0 X E0:=λ_ _ _ _ _ _ _ h=>h.elim
structure Fun (K:Fg9) (x qual:Str) (st:gU) (f:aY) (fd:gB):Prop where
 ex:∃(oc:aH) (od:Option aY) (kV doc pm:aH) (an:Option aY) (cdv ct:aH) (osl:Array (Option aH)),
  fd=fnOf x qual (j9 st) (iu st) (aa st) .none kV doc pm an cdv ct/\K.lookup f=ZY ⟨oc,od,.func fd,osl⟩/\codeIn K cdv qual=ZW
 kp:mC K (.ref f)=ZW
section
variable{P:cG}{w:dZ}{K:Fg9}{mg:Str->Option aH}{base:fH}
theorem Fun.ok{x qual:Str}{st:gU}{f:aY}{fd:gB}{N ps:List Str}{k:Nat}{sp:Sp}(F:Fun K x qual st f fd)(S:FnScope N ps (aa st))(len:∀vs H Q E,sp vs H Q E->vs.length=ps.length)
  (hbody:∀(cdv:aH) (A:eG) (outer:List Env) (s:aO) (H:Hp) (vs:List V) (Q:VK) (E:XK),Room k (A.deeper (oH qual (aa st) s.heap.objs.size f cdv))->sp vs H Q E ->
   ∃t,PSs (cxOf CX0 P w K mg base N qual (aa st) f cdv A outer s H E).nox (iu st) t/\t { nx:=λ_ H'=>Q .non H',rt:=Q } (start N vs) H):FnOk P w K mg base CX0 (k+1) f fd ps sp:=by
 obtain⟨oc,od,kV,doc,pm,an,cdv,ct,osl,rfl,lk,hcd⟩:=F.ex;refine bb6 lk hcd S len λA outer s H vs Q E hr hsp =>?_
 obtain⟨t,h,q⟩:=hbody cdv A outer s H vs Q E hr hsp;exact⟨t,h.nox,q⟩
theorem Fun.binds{x qual:Str}{st:gU}{f:aY}{fd:gB}{ps:List Str}(F:Fun K x qual st f fd)
  (h:∀(kV doc pm:aH) (an:Option aY) (cdv ct:aH) (us:List aH),us.length=ps.length->bindArgs (fnOf x qual (j9 st) (iu st) (aa st) .none kV doc pm an cdv ct) ⟨us,[]⟩=pure (ps.zip us)):Binds K fd ps []:=by
 obtain⟨oc,od,kV,doc,pm,an,cdv,ct,osl,rfl,lk,hcd⟩:=F.ex;exact .all (h kV doc pm an cdv ct)
theorem aqy{x qual:Str}{st:gU}{f:aY}{oc:aH}{od an:Option aY}{osl:Array (Option aH)}{kV doc pm cdv ct:aH}(l:K.lookup f=ZY ⟨oc,od,.func (fnOf x qual (j9 st) (iu st) (aa st) .none kV doc pm an cdv ct),osl⟩)
  (c:codeIn K cdv qual=ZW) (k:mC K (.ref f)=ZW):Fun K x qual st f (fnOf x qual (j9 st) (iu st) (aa st) .none kV doc pm an cdv ct):=⟨⟨oc,od,kV,doc,pm,an,cdv,ct,osl,rfl,l,c⟩,k⟩
end
theorem agp{n:Nat}(h:n<=1000):n < cO:=vJ h (by decide)
section
variable{X:Cx}
theorem pv(i:Nat){x:Str}{pos:Pos}(hN:X.N[i]? = ZY x:=by rfl)(hv:Vis X.env.scope x:=by first | exact bU rfl | exact pJ (bU rfl) | exact pJ (pJ rfl))(hd:(x==("__debug__" : Str))=ZV:=by decide)
  (hcd:(x==("__classdict__" : Str))=ZV:=by decide):PE X (.Name x pos) (tVar i):=a6p hN hv hd hcd
end
theorem iteF{A B:Prop}(h:B):if ZV=ZW then A else B:=by
 rw[if_neg dG];exact h
theorem iteT{A B:Prop}(h:A):if ZW=ZW then A else B:=by
 rw[if_pos rfl];exact h
def Same(H H':Hp):Prop:=∀b o,H b=ZY o->H' b=ZY o
theorem Same.refl(H:Hp):Same H H:=λ_ _ h=>h
theorem Same.trans{H H1 H2:Hp}(a:Same H H1)(b:Same H1 H2):Same H H2:=λc o h=>b c o (a c o h)
theorem Same.free{H H':Hp}(e:Same H H'){l:aY}(h:H' l=Option.none):H l=Option.none:=by
 cases q:H l with
 | none=>rfl
 | some o =>
  rw[e l o q] at h;cases h
theorem Same.seq{K:Fg9}{H H':Hp}{a:aY}{xs:List V}(e:Same H H')(h:SqL K H a xs):SqL K H' a xs:=by
 rcases h with(h | ⟨o,h⟩) | h
 ·exact .inl (.inl (e _ _ h))
 ·exact .inl (.inr ⟨o,e _ _ h⟩)
 ·exact .inr h
end L2
namespace Mn
open L2
noncomputable def qt(env:Env)(fr:List Str):List (Str×Addr):=fr.filterMap λn=>(env.cells.lookup n).map λc=>(n,c)
theorem aia{env:Env}{n:Str}{r:List Str}(e:env.cells.lookup n=ZX):qt env (n::r)=qt env r:=by
 unfold qt;rw[jW,e];rfl
theorem adw{env:Env}{n:Str}{r:List Str}{c:aY}(e:env.cells.lookup n=ZY c):qt env (n::r)=(n,c)::qt env r:=by
 unfold qt;rw[jW,e];rfl
theorem look_same{x:Str}{c:aY}{l:List (Str×Addr)}:bN x ((x,c)::l)=ZY c:=by
 have hb:(x==x)=ZW:=beq_iff_eq.mpr rfl;simp only[bN,hb]
theorem aao{x n:Str}{c:aY}{l:List (Str×Addr)}(h:x≠n):bN x ((n,c)::l)=l.lookup x:=by
 have hb:(x==n)=ZV:=beq_eq_false_iff_ne.mpr h;simp only[bN,hb]
theorem jc{env:Env}:∀{fr:List Str} {x:Str} {c:aY},(qt env fr).lookup x=ZY c->env.cells.lookup x=ZY c
 | [],x,c,h=>by
  have h':(ZX:Option aY)=ZY c:=h;cases h'
 | n::r,x,c,h=>by
  cases e:env.cells.lookup n with
  | none =>
   rw[aia e] at h;exact jc h
  | some d =>
   rw[adw e] at h
   by_cases hx:x=n
   ·subst hx;rw[look_same] at h;rw[e];exact h
   ·rw[aao hx] at h;exact jc h
theorem yj{env:Env}:∀{fr:List Str} {x:Str} {c:aY},x∈fr->env.cells.lookup x=ZY c->(qt env fr).lookup x=ZY c
 | [],x,c,hm,h=>absurd hm (by simp)
 | n::r,x,c,hm,h=>by
  by_cases hx:x=n
  ·subst hx;rw[adw h,look_same]
  ·have hm':x∈r:=(bG.mp hm).elim (λe=>absurd e hx) id
   cases e:env.cells.lookup n with
   | none =>
    rw[aia e];exact yj hm' h
   | some d =>
    rw[adw e,aao hx];exact yj hm' h
noncomputable def ae8(XN fr:List Str):List Str->List (Option Nat)->Bool
 | [],[]=>ZW
 | _::N,ZX::r=>ae8 XN fr N r
 | x::N,ZY j::r=>XN[j]? == ZY x&&fr.contains x&&ae8 XN fr N r
 | _,_=>ZV
theorem ad2{XN fr:List Str}:∀{N:List Str} {src:List (Option Nat)} {i j:Nat} {x:Str},ae8 XN fr N src=ZW->N[i]? = ZY x->src[i]? = ZY (ZY j)->XN[j]? = ZY x/\x∈fr
 | [],[],i,j,x,_,h,_=>by simp at h
 | [],_::_,i,j,x,_,h,_=>by simp at h
 | _::_,[],i,j,x,_,_,h=>by simp at h
 | y::N,ZX::r,0,j,x,_,_,h=>by simp at h
 | y::N,ZX::r,i+1,j,x,hk,h1,h2=>ad2 (N:=N) (src:=r) (i:=i) hk (by simpa using h1) (by simpa using h2)
 | y::N,ZY k::r,0,j,x,hk,h1,h2=>by
  simp only[ae8,bL] at hk;obtain⟨⟨a,b⟩,_⟩:=hk;simp at h1 h2;subst h1 h2;exact⟨by simpa using a,by simpa using b⟩
 | y::N,ZY k::r,i+1,j,x,hk,h1,h2=>by
  simp only[ae8,bL] at hk;exact ad2 (N:=N) (src:=r) (i:=i) hk.2 (by simpa using h1) (by simpa using h2)
theorem ad1{XN fr:List Str}:∀{N:List Str} {src:List (Option Nat)},ae8 XN fr N src=ZW->src.length=N.length
 | [],[],_=>rfl
 | [],_::_,h=>by simp[ae8] at h
 | _::_,[],h=>by simp[ae8] at h
 | _::N,ZX::r,h=>by
  have:=ad1 (N:=N) (src:=r) h;simp[this]
 | _::N,ZY k::r,h=>by
  simp only[ae8,bL] at h;have:=ad1 (N:=N) (src:=r) h.2;simp[this]
noncomputable def pick(src:List (Option Nat))(σ:L2.St):L2.St:=src.map λo=>o.bind λj=>(σ[j]?).bind id
theorem ap3{src:List (Option Nat)}{σ:L2.St}{i:Nat}{v:V}(h:(pick src σ)[i]? = ZY (ZY v)):∃j,src[i]? = ZY (ZY j)/\σ[j]? = ZY (ZY v):=by
 unfold pick at h;rw[aN] at h;cases e:src[i]? with
 | none=>rw[e] at h;cases h
 | some o =>
  rw[e] at h;have h':(o.bind λj=>(σ[j]?).bind id)=ZY v:=bO h
  cases o with
  | none=>cases h'
  | some j =>
   refine⟨j,rfl,?_⟩;have h2:(σ[j]?).bind id=ZY v:=h';cases q:σ[j]? with
   | none=>rw[q] at h2;cases h2
   | some z =>
    rw[q] at h2;have h3:z=ZY v:=h2;rw[h3]
def aji(env:Env)(XN:List Str)(scope:jV)(fr N:List Str)(src:List (Option Nat)):Bool :=
 scope.names.all (λy=>y.2 != .cell&&(y.2 != .local||scope.names.lookup y.1==ZY .local)&&(y.2 != .free||fr.contains y.1)) &&
 fr.all (λx=>scope.names.lookup x==ZY .free&&(env.kindOf x==ZY .cell||env.kindOf x==ZY .free))&&ae8 XN fr N src
structure CompOk (env:Env) (XN:List Str) (scope:jV) (fr N:List Str) (src:List (Option Nat)):Prop where
 cell:∀y∈scope.names,y.2≠.cell
 loc:∀y∈scope.names,y.2=.local->scope.names.lookup y.1=ZY .local
 free:∀y∈scope.names,y.2=.free->y.1∈fr
 frk:∀x∈fr,scope.names.lookup x=ZY .free
 out:∀x∈fr,env.kindOf x=ZY .cell∨env.kindOf x=ZY .free
 src:ae8 XN fr N src=ZW
theorem CompOk.of{env:Env}{XN:List Str}{scope:jV}{fr N:List Str}{src:List (Option Nat)}(h:aji env XN scope fr N src=ZW):CompOk env XN scope fr N src:=by
 simp only[aji,bL,cX] at h;obtain⟨⟨h1,h2⟩,h3⟩:=h;refine⟨λy hy =>?_,λy hy e =>?_,λy hy e =>?_,λx hx =>?_,λx hx =>?_,h3⟩
 ·have:=(h1 y hy).1.1
  simpa using this
 ·have:=(h1 y hy).1.2;rw[e] at this
  simpa using this
 ·have:=(h1 y hy).2;rw[e] at this
  simpa using this
 ·have:=(h2 x hx).1
  simpa using this
 ·have:=(h2 x hx).2
  simpa using this
theorem abx{env:Env}:∀{names:List (Str×NameKind)} {x:Str} {k:tU},
  (names.map λ(n,k)=>if (k==dJ&&env.scope.kind==.function&&env.kindOf n==ZY .cell) then (n,iC) else (n,k)).lookup x=ZY k ->
  ∃k0,names.lookup x=ZY k0/\(k=k0∨(k0=.free/\k=.cell))
 | [],x,k,h=>by simp at h
 | (n,q)::r,x,k,h=>by
  by_cases hx:x=n
  ·subst hx;have hb:(x==x)=ZW:=beq_iff_eq.mpr rfl;refine⟨q,by simp only[bN,hb],?_⟩
   by_cases hc:(q==dJ&&env.scope.kind==.function&&env.kindOf x==ZY .cell)=ZW
   ·rw[aG] at h;simp only[hc,if_true,bN,hb] at h;simp only[bL] at hc;exact .inr ⟨by simpa using hc.1.1,(bO h).symm⟩
   ·rw[aG] at h;simp only[hc,bN,hb] at h;exact .inl (by simpa using h.symm)
  ·have hb:(x==n)=ZV:=beq_eq_false_iff_ne.mpr hx;have h':(r.map λ(n,k)=>if (k==dJ&&env.scope.kind==.function&&env.kindOf n==ZY .cell) then (n,iC) else (n,k)).lookup x=ZY k:=by
    rw[aG] at h
    by_cases hc:(q==dJ&&env.scope.kind==.function&&env.kindOf n==ZY .cell)=ZW
    ·simp only[hc,if_true,bN,hb] at h;exact h
    ·have h2:bN x ((if (q==dJ&&env.scope.kind==.function&&env.kindOf n==ZY .cell)=ZW then (n,iC) else (n,q))::(r.map λ(n,k)=>if (k==dJ&&env.scope.kind==.function&&env.kindOf n==ZY .cell) then (n,iC) else (n,k)))=ZY k:=h
     rw[if_neg hc] at h2;simp only[bN,hb] at h2;exact h2
   obtain⟨k0,e,d⟩:=abx h';exact⟨k0,by simp only[bN,hb];exact e,d⟩
theorem zb{env:Env}:∀{names:List (Str×NameKind)} {x:Str},names.lookup x=ZY .free ->
  (names.map λ(n,k)=>if (k==dJ&&env.scope.kind==.function&&env.kindOf n==ZY .cell) then (n,iC) else (n,k)).lookup x=ZY .free ∨
  (names.map λ(n,k)=>if (k==dJ&&env.scope.kind==.function&&env.kindOf n==ZY .cell) then (n,iC) else (n,k)).lookup x=ZY .cell
 | [],x,h=>by simp at h
 | (n,q)::r,x,h=>by
  by_cases hx:x=n
  ·subst hx;have hb:(x==x)=ZW:=beq_iff_eq.mpr rfl;simp only[bN,hb] at h;have hq:q=.free:=bO h;subst hq
   by_cases hc:(dJ==dJ&&env.scope.kind==.function&&env.kindOf x==ZY .cell)=ZW
   ·right
    rw[aG];simp only[hc,if_true,bN,hb]
   ·left
    show bN x ((if (dJ==dJ&&env.scope.kind==.function&&env.kindOf x==ZY .cell)=ZW then (x,iC) else (x,dJ))::_)=ZY dJ
    rw[if_neg hc];simp only[bN,hb]
  ·have hb:(x==n)=ZV:=beq_eq_false_iff_ne.mpr hx;simp only[bN,hb] at h;rw[aG]
   by_cases hc:(q==dJ&&env.scope.kind==.function&&env.kindOf n==ZY .cell)=ZW
   ·simp only[hc,if_true,bN,hb];exact zb h
   ·simp only[hc,bN,hb]
    simpa[bN,hb] using zb (env:=env) h
def cxC(X:Cx)(N:List Str)(scope:jV)(fr:List Str)(fp:List aY)(s:aO)(H:Hp):Cx where
 prog:=X.prog
 w:=X.w
 K:=X.K
 mg:=X.mg
 base:=X.base
 A:=X.A
 N:=N
 s₀:=s
 H₀:=H
 env:=compEnvC scope (qt X.env fr) s.heap.objs.size X.env
 outer:=X.stack
 stack:=X.stack
 ex:=fp
 fn:=λ_=>ZV
 calm:=X.calm
 pn:=[]
 xe:=λ_ _=>False
section
variable{X:Cx}{qv:List (aY×Obj)}{σ:L2.St}{H:Hp}{s:aO}{scope:jV}{fr N:List Str}{src:List (Option Nat)}{fp:List aY}
theorem a8v(I:Inv X qv σ H s)(C:CompOk X.env X.N scope fr N src)(hkind:scope.kind=.function)(hf:∀b∈fp,FpOk X qv H b)(hl:∀b∈fp,b < s.heap.objs.size):(cxC X N scope fr fp s H).Ok where
 mod:=I.ok.mod
 kind:=hkind
 glob:=I.ok.glob
 blt:=I.ok.blt
 above:=aM _
 inj:=λx y c h1 h2=>I.ok.inj x y c (jc h1) (jc h2)
 has:=λx hx=>by
  have mem:∀k,(k=iC∨k=dJ)->(cxC X N scope fr fp s H).env.kindOf x=ZY k->x∈fr:=λk hk e=>by
   obtain⟨k0,e0,d⟩:=abx (env:=X.env) (names:=scope.names) e;have hm:=gK e0;rcases d with rfl | ⟨rfl,_⟩
   ·rcases hk with rfl | rfl
    ·exact absurd rfl (C.cell _ hm)
    ·exact C.free _ hm rfl
   ·exact C.free _ hm rfl
  have hm:x∈fr:=by
   rcases hx with e | e
   ·exact mem _ (.inl rfl) e
   ·exact mem _ (.inr rfl) e
  obtain⟨c,hc⟩:=I.ok.has x (C.out x hm);exact⟨c,yj hm hc⟩
 cab:=λ_ _ h _=>absurd h dG
 hd:=I.ok.hd
 frames:=I.ok.frames
 stk:=.inl rfl
 exf:=λb hb=>⟨Nat.ne_of_lt (hl b hb),λx c e=>(hf b hb).2.2.2.2.1 x c (jc e)⟩
 bs:=I.bs
 bsz:=dC I.ok.bsz I.sz
 noex:=λb o e hb=>by
  rcases(hf b hb).2.2.2.1 with z | z
  ·exact I.ok.noex b o e z
  ·exact absurd (cC (aV e) (dC I.ok.bsz z)) (jO _)
 exfs:=λb hb z=>by
  rcases bG.mp (I.stkSub b z) with e | e
  ·exact(hf b hb).2.1 e
  ·exact(hf b hb).2.2.1 e
 funs:=I.stack
 frf:=I.stkFree
theorem aqp(I:Inv X qv σ H s)(C:CompOk X.env X.N scope fr N src)(hkind:scope.kind=.function)(hf:∀b∈fp,FpOk X qv H b)(hl:∀b∈fp,b < s.heap.objs.size){h':fH}{tk:Nat}{m:Str->Option aH}
  (hns:h'.Ns s.heap.objs.size m) (hk:∀b o,s.heap.get? b=ZY o->h'.get? b=ZY o):Inv (cxC X N scope fr fp s H) [] (pick src σ) H { s with heap:=h',toks:=tk } where
 ok:=a8v I C hkind hf hl
 os:=rfl
 bare:=I.bare
 base:=Un.kept hk
 loc:=by
  refine⟨m,hns,λi x v h1 h2 h3 =>?_⟩
  obtain⟨j,hj,hv⟩:=ap3 h2;obtain⟨hN,hm⟩:=ad2 C.src h1 hj;obtain⟨mo,_,hlo⟩:=I.loc;have vis:Vis X.env.scope x:=by
   rcases C.out x hm with e | e
   ·exact .inr (.inl e)
   ·exact .inr (.inr e)
  obtain⟨u,r,l⟩:=hlo j x v hN hv vis;refine⟨u,r,.inr ⟨?_,?_⟩⟩
  ·rcases zb (env:=X.env) (C.frk x hm) with e | e
   ·exact .inr e
   ·exact .inl e
  ·rcases l with⟨e,_⟩ | ⟨_,c,hc,z⟩
   ·rcases C.out x hm with q | q
    ·rw[q] at e;cases e
    ·rw[q] at e;cases e
   ·obtain⟨o,ho,hd⟩:=z;exact⟨c,yj hm hc,o,hk c o ho,hd⟩
 cell:=λx c e=>by
  obtain⟨v,o,ho,hd⟩:=I.cell x c (jc e);exact⟨v,o,hk c o ho,hd⟩
 free:=I.hok.fresh (aM _)
 freeC:=λx c e=>I.freeC x c (jc e)
 pin:=λp hp=>absurd (show p∈([]:List (aY×Obj)) from hp) (by simp)
 hok:=I.hok.kept hk
 len:=by
  unfold pick;rw[aK];exact ad1 C.src
theorem aqq{pins':List (aY×Obj)}{σ':L2.St}{H':Hp}{s':aO}{h'':fH}(I:Inv X qv σ H s)(hf:∀b∈fp,FpOk X qv H b)(J:Inv (cxC X N scope fr fp s H) pins' σ' H' s')
  (hs:gA s.heap.objs.size s'.heap h''):Inv X qv σ H' { s' with heap:=h'' }:=by
 have k:∀b o,b≠s.heap.objs.size->s'.heap.get? b=ZY o->h''.get? b=ZY o:=λb o hb e=>(hs.2 b hb).trans e
 have old:∀b o,s.heap.get? b=ZY o->b≠s.heap.objs.size:=λb o e=>bQ (aV e)
 have un:Un (frs X.stack) fp H H' s.heap h'':=by
  have u:Un (frs X.stack) fp H H' s.heap s'.heap:=J.base;refine⟨λb o e n hb hx=>k b o (old b o e) (u.keep b o e n hb hx),λb o e n hb hx =>?_,u.free,λb o e hx =>?_,u.tups,u.frzs,u.tbls⟩
  ·obtain⟨sl,q⟩:=u.slot b o e n hb hx;exact⟨sl,k b _ (old b o e) q⟩
  ·obtain⟨o',q⟩:=u.there b o e hx;exact⟨o',k b _ (old b o e) q⟩
 have hok:HOk X.prog X.w H' h'':=λb u e=>by
  have nC:∀c z,H' c=ZY z->c≠s.heap.objs.size:=λc z q w=>by
   have f:H' s.heap.objs.size=ZX:=J.free;rw[w,f] at q;cases q
  refine(J.hok b u e).stay (λc v hc q=>k c v ?_ q) (λ_ q=>q) λ_ _ q=>q
  rcases hc with z | z
  ·rw[z];exact nC b u e
  ·exact nC c _ z
 have os:s'.os=s.os:=J.os;refine Inv.call' (s':={ s' with heap:=h'' }) I os un hok J.bare λb hb =>?_
 obtain⟨_,f1,_,f3,f4,f5⟩:=hf b hb;exact⟨f3,f1,f4,f5⟩
end
noncomputable def anr(ifs:List dH)(env:Env):Sem Bool:=forIn ifs ZW λc r=>if r=ZW then do let ok <-isTrue c env (eval c env);pure (xK ok) else pure (xK r)
def PIf(X:Cx)(ifs:List dH)(t:TT):Prop :=
 ∀(qv:List (aY×Obj)) (s:aO) (σ:L2.St) (H:Hp) (Q:Bool->Hp->Prop),Inv X qv σ H s->t σ H Q->bT (cA X.prog X.w) X.A (anr ifs X.env) (TP X qv σ Q) X.xe s
def tYes:TT:=λ_ H Q=>Q ZW H
theorem a2h{X:Cx}:PIf X [] tYes:=λqv s σ H Q I h=>by
 show bT _ _ (pure ZW) _ _ s;exact aR ⟨H,I,h⟩
theorem a2g{X:Cx}{c:dH}{t:TT}(hc:PT X c t):PIf X [c] t:=λqv s σ H Q I h=>by
 unfold anr;rw[rN];rw[if_pos rfl];refine aB (aB (thn (hc qv s σ H _ I h) λb s1 q=>aR ?_))
 show bT _ _ (forIn [] b _) _ _ s1;exact aR q
section
variable{prog:cG}{w:dZ}{A:eG}{R:Result->aO->Prop}{s:aO}
theorem compLoop{elt target iter:dH}{ifs:List dH}{scope:jV}{pos:Pos}{it acc:aH}{env:Env}(I:Nat->aO->Prop)
  (turn:∀n s,I n s->bT (cA prog w) A (pyNext it) (λr s₁=>match r with
   | none=>R (.ok .next) s₁
   | some v=>bT (cA prog w) A (letOwnedTupleGo target it v) (λ_ s₁'=>bT (cA prog w) A (lG target env v) (λ_ s₂ =>
     bT (cA prog w) A (anr ifs env) (λok s₃ =>
      if ok=ZW then bT (cA prog w) A (eval elt env) (λx s₄ =>
       bT (cA prog w) A (call (.builtin "list.append") [acc,x]) (λ_ s₅=>∃m,m < n/\I m s₅) (λ_ _=>False) s₄) (λ_ _=>False) s₃
      else ∃m,m < n/\I m s₃) (λ_ _=>False) s₂) (λ_ _=>False) s₁') (λ_ _=>False) s₁) (λ_ _=>False) s)
  (n:Nat) (h:I n s) :
  pZ (cA prog w) A (.compLoop (.ListComp elt [⟨target,iter,ifs,0⟩] scope pos) 0 it acc env) R s:=by
 refine codeAny_loop rfl I (λn s hI =>?_) n h
 show bT _ A ((compTurn (.ListComp elt [⟨target,iter,ifs,0⟩] scope pos) 0 it acc env).onRaise (λx=>do noteFrame x env;theTreesLotGoes x)) _ _ s
 refine wpAny_noted ?_;rw[compTurn_list];refine aB (wpAny_standAt (aB (cU (turn n s hI) (λr s₁ h₁ =>?_) λ_ _ h'=>h'.elim)))
 cases r with
 | none=>exact aR h₁
 | some v =>
  refine aB (cU h₁ (λ_ s₁' h₁' =>?_) λ_ _ h'=>h'.elim)
  refine aB (cU h₁' (λ_ s₂ h₂=>aB (cU h₂ (λok s₃ h₃ =>?_) λ_ _ h'=>h'.elim)) λ_ _ h'=>h'.elim)
  cases ok with
  | false=>exact aR ⟨rfl,h₃⟩
  | true =>
   exact aB (aB (cU h₃ (λx s₄ h₄=>aB (cU h₄ (λ_ s₅ h₅=>aR (aR ⟨rfl,h₅⟩)) λ_ _ h'=>h'.elim)) λ_ _ h'=>h'.elim))
end
def a9b(J:It)(g:TG)(ti:TT)(te:TE)(Q:VK)(d:aY)(σ0:L2.St)(H1:Hp):Prop :=
 ∃W:Nat->Nat->List V->L2.St->Hp->Prop,(∃m,W 0 m [] σ0 (upd H1 d (.lst [])))/\∀i m ys σ H2,W i m ys σ H2->H2 d=ZY (.lst ys) /\
  ((J.stop i H2/\Q (.ref d) H2)∨(J.go i H2/\∀x H3,J.yld i H2 x H3->g x σ H3 λσ4 H4=>ti σ4 H4 λb H5 =>
   if b=ZW then te σ4 H5 λy H6=>H6 d=ZY (.lst ys)/\ys.length < cO/\∃m',m' < m/\W (i+1) m' (ys++[y]) σ4 (upd H6 d (.lst (ys++[y]))) else ∃m',m' < m/\W (i+1) m' ys σ4 H5))
def atj(wi:TI)(g:TG)(ti:TT)(te:TE)(src:List (Option Nat)):TE:=λσ H Q=>wi σ H λJ H1=>∀d,H1 d=ZX->a9b J g ti te Q d (pick src σ) H1
theorem ae0{X:Cx}{tg iter elt:dH}{ifs:List dH}{scope:jV}{pos:Pos}{J:It}{fp:List aY}{it d:aY}{tn:Nat->fH->Prop}{g:TG}{ti:TT}{te:TE}{Q:VK}{R:Result->aO->Prop}
  {W:Nat->Nat->List V->L2.St->Hp->Prop} {m0:Nat} {σ0:L2.St} {H0:Hp} {s:aO} (hc:X.calm=ZW) (hE:X.xe=λ_ _=>False) (T:Turn X.prog X.w X.K tg J fp it tn)
  (hf:∀H':Hp,(∀b∈fp,H' b=ZX)->∀b∈fp,FpOk X [] H' b) (hg:PG X tg g) (ht:PIf X ifs ti) (he:PE X elt te)
  (turn:∀i m ys σ H2,W i m ys σ H2->H2 d=ZY (.lst ys) /\
   ((J.stop i H2/\Q (.ref d) H2)∨(J.go i H2/\∀x H3,J.yld i H2 x H3->g x σ H3 λσ4 H4=>ti σ4 H4 λb H5 =>
    if b=ZW then te σ4 H5 λy H6=>H6 d=ZY (.lst ys)/\ys.length < cO/\∃m',m' < m/\W (i+1) m' (ys++[y]) σ4 (upd H6 d (.lst (ys++[y]))) else ∃m',m' < m/\W (i+1) m' ys σ4 H5)))
  (w0:W 0 m0 [] σ0 H0) (I0:Inv X [] σ0 H0 s) (st0:tn 0 s.heap) (fr0:∀b∈fp,H0 b=ZX)
  (hR:∀σ' H' s',Inv X [] σ' H' s'->Q (.ref d) H'->R (.ok .next) s') :
  pZ (cA X.prog X.w) X.A (.compLoop (.ListComp elt [⟨tg,iter,ifs,0⟩] scope pos) 0 (.ref it) (.ref d) X.env) R s:=by
 have hE':∀e s',X.xe e s'->False:=λe s' h=>by rw[hE] at h;exact h
 refine compLoop (λn s'=>∃i ys σ' H',Inv X [] σ' H' s'/\tn i s'.heap/\(∀b∈fp,H' b=ZX)/\W i n ys σ' H') ?_ m0 ⟨0,[],σ0,H0,I0,st0,fr0,w0⟩
 rintro n s5 ⟨i,ys,σ5,H5,I5,st5,fr5,w5⟩
 obtain⟨hD,alt⟩:=turn i n ys σ5 H5 w5;rcases alt with⟨stop,qn⟩ | ⟨go,step⟩
 ·refine cU (T.done X rfl rfl rfl hc i [] s5 σ5 H5 (λ_ _=>False) I5 (hf _ fr5) st5 stop) (λr s6 ⟨hr,I6⟩ =>?_) λ_ _ e=>e
  subst hr;exact hR σ5 H5 s6 I6 qn
 ·refine cU (T.item X rfl rfl rfl hc i [] s5 σ5 H5 (λ_ _=>False) I5 (hf _ fr5) st5 go) (λr s6 ⟨u,hr,h6⟩ =>?_) λ_ _ e=>e
  subst hr;refine cU h6 (λ_ s7 ⟨x,H7,I7,r7,y7,st7,fr7⟩ =>?_) λ_ _ e=>e
  have I7':=I7.pinned (hf _ fr7) (T.obj _ _ st7);have again:∀{σ':L2.St} {H':Hp} {s':aO} {ys':List V} {m':Nat},Inv X ([]++als fp s7.heap) σ' H' s'->W (i+1) m' ys' σ' H'->∃i ys σ' H',Inv X [] σ' H' s'/\tn i s'.heap/\(∀b∈fp,H' b=ZX)/\W i m' ys σ' H':=λ{σ' H' s' ys' m'} Ia wa=>by
   refine⟨i+1,ys',σ',H',Ia.unpinned,T.keep _ _ _ st7 λb hb o e=>(Ia.pin (b,o) (cF _ (cF _ (acn hb e)))).1,λb hb =>?_,wa⟩
   obtain⟨o,e,d⟩:=T.obj _ _ st7 b hb;exact(Ia.pin (b,o) (cF _ (cF _ (acn hb e)))).2.1
  refine cU (hg _ s7 σ5 H7 x u _ I7' r7 (step x H7 y7)) (λ_ s8 ⟨σ8,H8,I8,q8⟩ =>?_) hE'
  refine cU (ht _ s8 σ8 H8 _ I8 q8) (λok s9 ⟨H9,I9,q9⟩ =>?_) hE'
  cases ok with
  | false =>
   rw[if_neg dG] at q9 ⊢
   obtain⟨m',hm,wa⟩:=q9;exact⟨m',hm,again I9 wa⟩
  | true =>
   rw[if_pos rfl] at q9 ⊢
   refine cU (he _ s9 σ8 H9 _ I9 q9) (λz s10 ⟨y,H10,I10,r10,hd10,hz,m',hm,wa⟩ =>?_) hE'
   refine cU (sy _ s10 σ8 H10 (.ref d) [y] (.ref d) [z] (λ_ H'=>H'=upd H10 d (.lst (ys++[y]))) I10 rfl (.cons r10 .nil) ⟨d,ys,y,rfl,rfl,hd10,hz,rfl⟩) (λ_ s11 ⟨_,H11,I11,_,e11⟩ =>?_) hE'
   subst e11;exact⟨m',hm,again I11 wa⟩
theorem a2n{X:Cx}{tg iter elt:dH}{ifs:List dH}{scope:jV}{pos:Pos}{wi:TI}{g:TG}{ti:TT}{te:TE}(fr N:List Str)(src:List (Option Nat))(hc:X.calm=ZW)(hi:PI X tg iter wi)
  (hg:∀fp s H,PG (cxC X N scope fr fp s H) tg g) (ht:∀fp s H,PIf (cxC X N scope fr fp s H) ifs ti) (he:∀fp s H,PE (cxC X N scope fr fp s H) elt te)
  (hok:aji X.env X.N scope fr N src=ZW:=by rfl) (hkind:scope.kind=.function:=by rfl) (hclos:lY scope X.env=pure (qt X.env fr):=by rfl)
  (hs:∀x,fB iter X.env x=pure x:=by intro _;rfl):PE X (.ListComp elt [⟨tg,iter,ifs,0⟩] scope pos) (atj wi g ti te src):=by
 have C:=CompOk.of hok;intro qv s σ H Q I h;rw[eval_ListComp];refine wpAny_comprehension_free (use:=ZX) rfl hs hclos hkind C.loc (cU (hi qv s σ H _ I h) (λv s1 h1=>cU h1 (λitv s2 h2 =>?_) λ_ _ e=>e) λ_ _ e=>e)
 obtain⟨it,fp,tn,J,H2,e,I2,T,st2,f2,q2⟩:=h2;subst e;have hd0:H2 s2.heap.objs.size=ZX:=I2.hok.fresh (aM _);obtain⟨W,⟨m0,w0⟩,turn⟩:=q2 s2.heap.objs.size hd0;refine eH ?_;generalize hs3:({ s2 with heap:=s2.heap.push { cls:=.type "list", dict:=ZX,data:=.seq ([]:List aH).toArray } }:aO)=s3
 have keep2:∀b o,s2.heap.get? b=ZY o->s3.heap.get? b=ZY o:=λb o e=>by rw[<-hs3];exact aD _ e
 have I3:Inv X qv σ (upd H2 s2.heap.objs.size (.lst [])) s3:=by
  rw[<-hs3];exact I2.laid (t':=s2.toks) (λb u q=>aD _ q) (aM _) ⟨Nat.zero_le _,[],0,.nil,aW _ rfl⟩
 have ne0:∀b∈fp,b≠s2.heap.objs.size:=λb hb=>by
  obtain⟨o,e,_⟩:=T.obj _ _ st2 b hb;exact bQ (aV e)
 have f3:∀b∈fp,FpOk X qv (upd H2 s2.heap.objs.size (.lst [])) b:=λb hb=>⟨by rw[bf (ne0 b hb)];exact(f2 b hb).1,(f2 b hb).2⟩
 have lt3:∀b∈fp,b < s3.heap.objs.size:=λb hb=>by
  obtain⟨o,e,_⟩:=T.obj _ _ st2 b hb;exact aV (keep2 b o e)
 refine wpAny_newFunctionEnv C.cell (by intro y hy;simp at hy) (λh₁ hns₁ hsb₁ =>?_) hkind
 have keep3:∀b o,s3.heap.get? b=ZY o->h₁.get? b=ZY o:=λb o e=>hsb₁.extBut b o (bQ (aV e)) (aD _ e)
 have st4:tn 0 h₁:=T.keep _ _ _ st2 λb hb o e=>keep3 b o (keep2 b o e)
 have I4:=aqp (tk:=s3.toks+([]:List (Str×Value)).length) I3 C hkind f3 lt3 hns₁ keep3;have loop:=ae0 (X:=cxC X N scope fr fp s3 (upd H2 s2.heap.objs.size (.lst []))) (iter:=iter) (scope:=scope) (pos:=pos) (d:=s2.heap.objs.size)
  (R:=compPost (cA X.prog X.w) X.A X.xe ZX (EP X qv σ Q) (.ref s2.heap.objs.size) s3.heap.objs.size) hc rfl T
  (λH' hn b hb=>⟨hn b hb,bQ (lt3 b hb),I4.ok.exfs b hb,.inl hb,(I4.ok.exf b hb).2,λp hp=>absurd (show p∈([]:List (aY×Obj)) from hp) (by simp)⟩)
  (hg fp s3 _) (ht fp s3 _) (he fp s3 _) turn w0 I4 st4 (λb hb=>(f3 b hb).1) (λσ' H' s' I6 qn=>by
   obtain⟨m6,hn6,_⟩:=I6.loc;exact⟨m6,hn6,λh'' hs''=>⟨.ref s2.heap.objs.size,H',aqq I3 f3 I6 hs'',rfl,qn⟩⟩)
 exact codeAny_compStart_list loop (T.self _ 0 _ _ _ st4 loop)
theorem Same.new{H:Hp}{p:aY}(h:H p=ZX)(o:HO):Same H (upd H p o):=λb u q=>by rw[bf (gj q h)];exact q
structure ItOf (J:It) (xs:List V) (S:Hp->Prop):Prop where
 go:∀i H,S H->i < xs.length->J.go i H
 yld:∀i H x H',S H->J.yld i H x H'->H'=H/\(i < xs.length->xs[i]? = ZY x)
 stop:∀i H,S H->xs.length<=i->J.stop i H
theorem ay4{K:Fg9}{a:aY}{xs:List V}:ItOf (Itt K a) xs λH=>SqT K H a xs :=
 ⟨λi H h hi=>⟨xs,xs[i],h,by simp[hi]⟩,λi H x H' h y=>⟨y.1,λ_=>y.2 xs h⟩,λi H h hi=>⟨xs,h,hi⟩⟩
theorem aql{K:Fg9}{a:aY}{xs:List V}:ItOf (Itl K a) xs λH=>SqL K H a xs :=
 ⟨λi H h hi=>⟨xs,xs[i],h,by simp[hi]⟩,λi H x H' h y=>⟨y.1,λ_=>y.2 xs h⟩,λi H h hi=>⟨xs,h,hi⟩⟩
noncomputable def ups(lo:Int)(n:Nat):List V:=(aJ n).map λi=>V.int (lo+(i:Nat))
theorem anm(lo:Int)(n:Nat):(ups lo n).length=n:=by simp[ups]
theorem a1e{lo:Int}{n i:Nat}(h:i < n):(ups lo n)[i]? = ZY (.int (lo+(i:Nat))):=by
 unfold ups;rw[aN,bM h];rfl
theorem aqk{lo:Int}{n:Nat}:ItOf (Itr lo n) (ups lo n) λ_=>True :=
 ⟨λi H _ hi=>by rw[anm] at hi;exact hi,λi H x H' _ y=>⟨y.1,λhi=>by rw[anm] at hi;rw[a1e hi,y.2]⟩,λi H _ hi=>by rw[anm] at hi;exact hi⟩
section
variable{X:Cx}
def rAll(K:Fg9):List V->Hp->VK->Prop:=λxs H Q=>∃(p:aY) (bs:List Bool),xs=[.ref p]/\SqL K H p (bs.map V.bl)/\Q (.bl (bs.all id)) H
theorem azt(hc:X.calm=ZW):afw X (.builtin "all") (rAll X.K):=by
 intro qv s σ H xs us Q I r h;obtain⟨p,bs,rfl,hq,q⟩:=h;obtain⟨u,rfl,ru⟩:=vals1 r;cases ru;obtain⟨its,rv,pl,hz⟩:=I.list hq;have hl:=pl.isList;have hlen:=rv.length;rw[aK] at hlen;have hlt:p < s.heap.objs.size:=by obtain⟨_,e,_⟩:=hl;exact aV e
 refine call_all_walk (wpAny_pyIter_list hl ?_);refine⟨s.heap.objs.size,[s.heap.objs.size,p],[s.heap.objs.size],its.toArray.size,_,_,λi=>(bs[i]?).getD ZW,rfl,Walks.list (A:=X.A.in1) (I.ok.hd hc) _ p (bQ hlt) its.toArray,
  ⟨⟨_,aW _ rfl,rfl,rfl⟩,hl.push _⟩,λi v s' Q' E' hP hQ =>?_,λh' tk hk =>?_⟩
 ·have hi:its[i]? = ZY v:=by simpa using hP
  cases e:bs[i]? with
  | none =>
   have h1:bs.length<=i:=List.getElem?_eq_none_iff.mp e;have h2:i < its.length:=(aQ.mp hi).1;omega
  | some b =>
   obtain⟨u,hu,ru⟩:=rv.get (i:=i) (x:=V.bl b) (by rw[aN,e];rfl)
   rw[hi] at hu;cases hu;obtain rfl:v=qD b:=ru;simp only[e,Option.getD_some] at hQ;exact fP hQ
 ·have e:((aJ its.toArray.size).all λi=>(bs[i]?).getD ZW)=bs.all id:=by
   rw[aU,<-hlen];exact LSm.range_all bs
  rw[e];exact⟨.bl (bs.all id),H,I.kept (t':=tk) (tX hk),rfl,q⟩
end
def Dfn(P:cG)(w:dZ)(K:Fg9)(mg:Str->Option aH)(base:fH)(x:Str)(ps:List Str)(k:Nat)(sp:Sp):Prop :=
 ∃(f:aY) (fd:gB),FnOk P w K mg base CX0 k f fd ps sp/\mg x=ZY (.ref f)/\mC K (.ref f)=ZW/\Binds K fd ps []
section
variable{X:Cx}{x:Str}{ps:List Str}{k:Nat}{sp:Sp}{e:dH}{es:List dH}{t:TA}{p pos:Pos}
theorem a2m(F:Dfn X.prog X.w X.K X.mg X.base x ps k sp)(hr:Room k X.A)(hg:Gl X x)(ha:PA X (e::es) t)(hdb:(x==("__debug__" : Str))=ZV:=by decide)
  (he:bA (e::es) X.env=(ZV,eval e X.env)::bA es X.env:=by rfl) (hpl:(jG pos (bA es X.env)).any (·.1)=ZV:=by rfl):PE X (.Call (.Name x p) (e::es) [] pos) (a5q sp [] E0 t):=by
 obtain⟨f,fd,F,hm,hk,hb⟩:=F;exact a2p F hr hg hm hk hb .nil a2s ha hdb he hpl
theorem ar9{T:String}(hg:Gl X x)(hm:X.mg x=ZX)(hv:cM x=ZY (.type T))(hn:x ≠ "__name__" := by decide)(hd:(x==("__debug__" : Str))=ZV:=by decide):PE X (.Name x pos) (tC (.ty T)) :=
 a2q hg hm hv rfl hn hd
end
section
variable{X:Cx}
end
section
variable{prog:cG}{w:dZ}{A:eG}{E:aH->aO->Prop}{s:aO}
theorem azs{t b:aY}{vs ws:List aH}{Q:aH->aO->Prop}(ht:vC s.heap t vs.toArray)(hb:vC s.heap b ws.toArray)(hv:vs=[])(h:Q (.ref b) s):bT (cA prog w) A (fO .Add (.ref t) (.ref b)) Q E s:=by
 obtain⟨⟨cls,dd,data,sl⟩,ho,hc,n,hd⟩:=id ht;obtain⟨⟨cls2,dd2,data2,sl2⟩,ho2,hc2,n2,hd2⟩:=id hb;simp only at hc hd hc2 hd2;subst hc hd hc2 hd2;exact concat_meets ⟨_,ho,rfl⟩ ⟨_,ho2,rfl⟩ noFill_tuple_add seq_tuple_add oR oE (nO _ _)
  (tuple_addW0 t b vs.toArray ws.toArray n n2 dd dd2 sl sl2 (by simp[hv])) ⟨ho,ho2,h⟩
end
section
variable{X:Cx}
end
section
variable{X:Cx}
end
theorem abh:fillsNumberSlot (.type "tuple") "mul" = pure ZV :=
 PySem.fillsNumberSlot_seq (id := "tuple.__mul__") (r:=ZY (.builtin "tuple.__rmul__")) oO.lookup (by decide +kernel) wH.lookup (by decide +kernel)
theorem afz:seqRepeat? (.type "tuple")=pure (ZY (.builtin "tuple.__mul__")):=by
 unfold seqRepeat?;rw[wK (T := "tuple") (name := "__mul__") (id := "tuple.__mul__") oO.lookup (by decide +kernel),wK (T := "tuple") (name := "__rmul__") (id := "tuple.__rmul__") wH.lookup (by decide +kernel)]
 rfl
theorem ac5(a:Int)(t:Tok)(l:aY)(items:Array aH)(n:Nat)(dd:Option aY)(sl:Array (Option aH)) :
  Meets (lW.«int.__rmul__» ⟨[.int a t,.ref l],[]⟩) (λ_ R s=>s.heap.get? l=ZY { cls:=.type "tuple", dict:=dd,data:=.seq items n,slots:=sl }/\R (.ok (.ret Value.notImplemented)) s) :=
 .of_wp λprog w A R s h=>by obtain⟨hp,g,d,tk,os⟩:=s;obtain⟨hl,h⟩:=h;wp_walk;exact⟨_,rfl,h⟩
theorem art(l:aY)(items:Array aH)(n:Nat)(dd:Option aY)(sl:Array (Option aH))(x:Int)(u:Tok)(h0:items.isEmpty=ZV)(h2:2<=x)(h63:x < 2 ^ 63)(hsz:items.size*x.toNat<=cO) :
  Meets (lW.«tuple.__mul__» ⟨[.ref l,.int x u],[]⟩) (λ_ R s=>s.heap.get? l=ZY { cls:=.type "tuple", dict:=dd,data:=.seq items n,slots:=sl } /\
   R (.ok (.ret (dN s.heap.objs.size))) { s with heap:=s.heap.push { cls:=nG "tuple", data:=Data.seq (lZ (λx1 x2=>x1++x2) #[] (aP x.toNat items)) },toks:=s.toks }) :=
 .of_wp λprog w A R s h=>by
  obtain⟨hp,g,d,tk,os⟩:=s;obtain⟨hl,h⟩:=h;have c1:(decide (x < -2 ^ 63)||decide (x≥2 ^ 63))=ZV:=by
   rw[uU];exact⟨decide_eq_false (by omega),decide_eq_false (by omega)⟩
  have c2:(items.isEmpty||x==1)=ZV:=by
   rw[h0,Bool.false_or,beq_eq_false_iff_ne];omega
  have c3:(decide (x<=0)||items.isEmpty)=ZV:=by
   rw[h0,Bool.or_false];exact decide_eq_false (by omega)
  have e4:((items.size:Int)*x)=((items.size*x.toNat:Nat):Int):=by
   have:x=(x.toNat:Int):=by omega
   rw[iT,<-this]
  have h4:(cO:Int)<=(2 ^ 63 - 1) / 8:=by decide
  have c4:¬((items.size:Int)*x > (2 ^ 63 - 1) / 8):=by rw[e4];omega
  have c5:sH ((items.size:Int)*x)=ZV:=by
   unfold sH;rw[e4];exact decide_eq_false (by omega)
  wp_walk;refine wpAny_ite_false (by rw[c1];rfl) ?_
  wp_walk;refine wpAny_ite_false (by rw[c2];rfl) ?_
  try dsimp only
  refine wpAny_ite_false (by rw[c3];rfl) ?_
  try dsimp only
  refine wpAny_ite_false (decide_eq_false c4) ?_
  try dsimp only
  refine wpAny_ite_false (by rw[c5];rfl) ?_
  have hso:sizeOk (.seq (lZ (λx1 x2=>x1++x2) #[] (aP x.toNat items))):=by
   show(lZ (λx1 x2=>x1++x2) #[] (aP x.toNat items)).size<=cO
   have hn:=foldl_rep items.toList x.toNat [];rw[aZ] at hn;have hn':lZ (λx1 x2=>x1++x2) #[] (aP x.toNat items)=(aP x.toNat items.toList).flatten.toArray:=hn
   rw[hn',aU,len_rep,jF,iB];exact hsz
  refine aB (m:=iV _) (eH (aR ⟨_,rfl,h⟩) hso)
theorem aru(l:aY)(items:Array aH)(n:Nat)(dd:Option aY)(sl:Array (Option aH))(x:Int)(u:Tok)(hx:x=1) :
  Meets (lW.«tuple.__mul__» ⟨[.ref l,.int x u],[]⟩) (λ_ R s=>s.heap.get? l=ZY { cls:=.type "tuple", dict:=dd,data:=.seq items n,slots:=sl }/\R (.ok (.ret (dN l))) s) :=
 .of_wp λprog w A R s h=>by
  obtain⟨hp,g,d,tk,os⟩:=s;obtain⟨hl,h⟩:=h;have c1:(decide (x < -2 ^ 63)||decide (x≥2 ^ 63))=ZV:=by
   rw[uU];exact⟨decide_eq_false (by omega),decide_eq_false (by omega)⟩
  have c2:(items.isEmpty||x==1)=ZW:=by rw[hx];simp
  wp_walk;exact⟨_,rfl,h⟩
section
variable{X:Cx}
theorem a2v:OpR X (fO .Mult) (λx y H Q=>∃a xs,x=.ref a/\y=.int 1/\H a=ZY (.tup xs)/\Q (.ref a) H):=by
 intro qv s σ H x y v u Q I rx ry h;obtain⟨a,xs,rfl,rfl,ha,q⟩:=h;cases rx;obtain⟨t,rfl⟩:=ry;obtain⟨its,r1,p1,_⟩:=I.tuple (SqT.of ha);obtain⟨⟨cls,dd,data,sl⟩,ho,hc,n,hd⟩:=id p1;simp only at hc hd;subst hc hd;exact wpAny_binaryOp_repeat_ref (T := "tuple") (U := "int") (by decide) ⟨_,ho,rfl⟩ (λs'=>typeIs_int s' 1 t) abh rT lF afz qZ.lookup
  (jZ lF (typeIs_int s 1 t) rA (qM _ _) (ac5 1 t a its.toArray n dd sl)
   ⟨ho,rfl,⟨_,ho,rfl⟩,jZ oO ⟨_,ho,rfl⟩ wI (vO _ _) (aru a its.toArray n dd sl 1 t rfl) ⟨ho,⟨.ref a,H,I,rfl,q⟩⟩⟩)
def a6e:R2:=λx y H Q=>∃a xs k,x=.ref a/\y=.int k/\H a=ZY (.tup xs)/\xs≠[]/\2<=k/\k < 2 ^ 63/\xs.length*k.toNat<=cO/\∀p,H p=ZX->Q (.ref p) (upd H p (.tup (aP k.toNat xs).flatten))
theorem ayd:OpR X (fO .Mult) a6e:=by
 intro qv s σ H x y v u Q I rx ry h;obtain⟨a,xs,k,rfl,rfl,ha,hx,h2,h63,hz,q⟩:=h;cases rx;obtain⟨t,rfl⟩:=ry;obtain⟨its,r1,p1,_⟩:=I.tuple (SqT.of ha);obtain⟨⟨cls,dd,data,sl⟩,ho,hc,n,hd⟩:=id p1;simp only at hc hd;subst hc hd;have hnew:lZ (λx1 x2=>x1++x2) #[] (aP k.toNat its.toArray)=(aP k.toNat its).flatten.toArray:=by
  have:=foldl_rep its k.toNat [];rw[aZ] at this;exact this
 refine wpAny_binaryOp_repeat_ref (T := "tuple") (U := "int") (by decide) ⟨_,ho,rfl⟩ (λs'=>typeIs_int s' k t) abh rT lF afz qZ.lookup
  (jZ lF (typeIs_int s k t) rA (qM _ _) (ac5 k t a its.toArray n dd sl)
   ⟨ho,rfl,⟨_,ho,rfl⟩,jZ oO ⟨_,ho,rfl⟩ wI (vO _ _) (art a its.toArray n dd sl k t ?_ h2 h63 ?_) ⟨ho,?_⟩⟩)
 ·cases its with
  | nil=>exact absurd (r1.nil_iff.mp rfl) hx
  | cons _ _=>rfl
 ·rw[aU,<-r1.length];exact hz
 ·rw[hnew];refine⟨.ref s.heap.objs.size,_,I.laid (t':=s.toks) (o:=.tup (aP k.toNat xs).flatten) (λb ob q=>aD _ q) (aM _) ?_,rfl,q _ (I.hok.fresh (aM _))⟩
  exact⟨by rw[len_rep,iB];exact hz,_,r1.rep k.toNat,IsTp.new _ _⟩
end
section
variable{prog:cG}{w:dZ}{A:eG}{E:aH->aO->Prop}{s:aO}
theorem adp{t sl:aY}{items:Array aH}{vl vu:aH}{lo hi:Option Int}{Q:aH->aO->Prop}(ht:vC s.heap t items)(hs:s.heap.IsSliceOf sl vl vu .none)(pl:qP vl lo)(pu:qP vu hi)
  (h1:HT.sIx items.size 0 lo=0) (h2:HT.sIx items.size items.size hi=items.size) (h:Q (.ref t) s):bT (cA prog w) A (pY (.ref t) (.ref sl)) Q E s:=by
 obtain⟨os,hos,hcs,hds⟩:=id hs;have hTs:s.TypeIs (.ref sl) "slice" := ⟨os,hos,hcs⟩;unfold pY
 try with_reducible refine fV ?_
 first | refine aB (aR ?_) | skip
 refine aB (wpAny_sequenceKey ht.typeIs (by decide) ?_)
 refine aB (wpAny_callSpecial?_slot (name:=mW "__getitem__") ht.typeIs eQ
  (gC eQ ht.typeIs entry_tuple_getitem ?_ (args_tuple_getitem _ _)))
 show bT _ _ (mU (.ref t) >>= _) _ _ s;refine aB (tupleItemsOf_ ht ?_);refine aB (wpAny_typeOf hTs ?_);rw[if_pos (by decide)]
 refine aB (HT.abf hs pl pu ?_);have hyes:(((HT.sIx items.size 0 lo:Nat):Int)==0&&(1:Int)==1&&(HT.sIx items.size items.size hi - HT.sIx items.size 0 lo)==items.size)=ZW:=by
  rw[h1,h2];simp
 show bT _ _ (if (((HT.sIx items.size 0 lo:Nat):Int)==0&&(1:Int)==1&&(HT.sIx items.size items.size hi - HT.sIx items.size 0 lo)==items.size)=ZW then _ else _) _ _ s
 rw[if_pos hyes];refine aB (aB (wpAny_typeOf ht.typeIs (aR ?_)));rw[if_pos (by decide)]
 exact aB (wpAny_rule (aR ⟨_,rfl,aR h⟩))
end
section
variable{X:Cx}
end
section
variable{X:Cx}(K:Fg9)(hK:X.K=K)
include hK
variable{tg:dH}
end
theorem jx:cM "len" = ZY (.builtin "len"):=by decide +kernel
theorem aw3:cM "all" = ZY (.builtin "all"):=by decide +kernel
theorem lw:cM "isinstance" = ZY (.builtin "isinstance"):=by decide +kernel
theorem a83:cM "max" = ZY (.builtin "max"):=by decide +kernel
theorem a07:cM "min" = ZY (.builtin "min"):=by decide +kernel
theorem a82:cM "sum" = ZY (.builtin "sum"):=by decide +kernel
theorem am7:cM "sorted" = ZY (.builtin "sorted"):=by decide +kernel
theorem aw1:cM "divmod" = ZY (.builtin "divmod"):=by decide +kernel
theorem a84:cM "abs" = ZY (.builtin "abs"):=by decide +kernel
theorem aw0:cM "int" = ZY (.type "int"):=by decide +kernel
theorem aw2:cM "bool" = ZY (.type "bool"):=by decide +kernel
theorem vm:cM "tuple" = ZY (.type "tuple"):=by decide +kernel
theorem ady:cM "list" = ZY (.type "list"):=by decide +kernel
theorem am8:cM "enumerate" = ZY (.type "enumerate"):=by decide +kernel
structure ExcK (K:Fg9) (C:aY):Prop where
 ga:kY K (.ref C) "__getattribute__" = ZY (ZY (.builtin "BaseException.__getattribute__"))
 gh:kY K (.ref C) "__getattr__" = ZY ZX
 be:tH K C (.type "BaseException")=ZY ZW
 hd:lJ K C=ZW
 cl:kY K (.ref C) "__class__" = ZY (ZY (.builtin "object.__class__"))
 sp:nM K (.builtin "object.__class__") "__get__" = ZY (ZY (.builtin "getset_descriptor.__get__"))
 tk:rF K (.builtin "object.__class__")=ZY ZW
 ob:tH K C (.type "object")=ZY ZW
 no:∀T∈["int","bool","tuple","list","str","dict"],tG K (.ref C) (.type T)=ZY ZV
theorem ao1{K:Fg9}{C:aY}{od:Option Obj}{name:Str}{a g:aH}(hc:(tK K C).isSome=ZW)(ha:kY K (.ref C) name=ZY (ZY a))(hg:nM K a "__get__" = ZY (ZY g))(ht:rF K a=ZY ZW):oZ K C od name=ZY (.bind g a):=by
 obtain⟨cd,hc⟩:=sZ.mp hc;unfold oZ;rw[hc,cB,ha,cB];simp[hg,ht]
section
variable{prog:cG}{w:dZ}{A:eG}{E:aH->aO->Prop}{s:aO}{K:Fg9}{x D:aY}{ox:Obj}{od:Option Obj}{name:Str}
theorem azh{fill expr:Bool}{tk:Tok}{Q:aH->aO->Prop}(X:K.In s.heap)(I:mZ s.heap x ox D od)(k:ExcK K D)
  (h:bT (cA prog w) A.in1 (lW.«object.__getattribute__» ⟨[.ref x,.str name tk],[]⟩)
   (λfin s'=>match fin with | .done (.ret v)=>bT (cA prog w) A (handedOut v) Q E s' | _=>False) (λ_ _=>False) s) :
  bT (cA prog w) A (getAttrBy (.ref x) (.str name tk) fill expr) Q E s:=by
 obtain⟨hh,g,d,t,os⟩:=s;have L0:=I.type (M:=cA prog w);have L1:=pF (M:=cA prog w) X k.ga;have L2:=pF (M:=cA prog w) X k.gh;have L3:PySem.W.Looks (cA prog w) hh (isInstance (.ref x) (.type "BaseException")) ZW:=L0.andThen (PySem.W.looks_mroIn X k.be);unfold getAttrBy;refine fV (aB (L0.at (aB (L1.at ?_))));have hx2:(kZ "BaseException.__getattribute__" == kZ "object.__getattribute__")=ZV:=by decide +kernel
 have hx1:(onTheHeap (dN D)&&kZ "BaseException.__getattribute__" == kZ "object.__getattribute__")=ZV:=by rw[hx2,Bool.and_false]
 simp only[hx1,fJ,if_false];unfold getAttrByItsOwn hookBefore;rw[if_pos (show onTheHeap (dN D)=ZW from rfl)]
 refine aB ?_;refine L2.at (aB (wpAny_attempt (fV ?_)));have hx0:(expr&&onTheHeap (kZ "BaseException.__getattribute__"))=ZV:=by cases expr <;> rfl
 unfold callGetattribute;rw[if_neg (by rw[hx0];exact dG)]
 unfold boundAndCalled;refine aB (wpAny_of_eq (tO.ga.bind (.ref x)) ?_);have hk1:builtinKind "BaseException.__getattribute__" = ZY .slot:=by decide +kernel
 have hs1:splitId "BaseException.__getattribute__" = ZY ("BaseException","__getattribute__"):=by decide +kernel
 have ha1:=PySem.F.args_bexc_ga (.ref x) (.str name tk);dsimp only[cW,aZ];refine wpAny_call (codeAny_call_builtin (id := "BaseException.__getattribute__") (args:=⟨[.ref x,.str name tk],[]⟩) tO.ga.plain PySem.F.entry_bexc_ga ?_);refine PySem.W.check_slot (i := "BaseException.__getattribute__") (owner := "BaseException") (n := "__getattribute__") (self:=.ref x) (rest:=[.str name tk]) (kw:=[]) hk1 hs1 L3 ha1 ?_;refine cU h (λfin s' z =>?_) λ_ _ z=>z.elim
 rcases fin with(_ | _ | _ | _) | _ <;> first | exact z | exact z.elim
theorem azi{g a:aH}{tk:Tok}{P:aH->aO->Prop}(X:K.In s.heap)(I:mZ s.heap x ox D od)(hf:oZ K D od name=ZY (.bind g a))
  (h:bT (cA prog w) A (call g [a,.ref x,.ref D]) P E s) :
  bT (cA prog w) A (lW.«object.__getattribute__» ⟨[.ref x,.str name tk],[]⟩) (λfin s'=>match fin with | .done (.ret v)=>P v s' | _=>False) E s:=by
 obtain⟨hh,gg,d,t,os⟩:=s;have L0:=I.type (M:=cA prog w);have L1:=PySem.W.looks_find (M:=cA prog w) X I hf;unfold lW.«object.__getattribute__»
 refine aB (aR (aB (aR (aB (L0.at (aB (L1.at ?_)))))));show bT _ _ (Builtin.ObjectAttr.bindTo g a (.ref x) (.ref D)) _ _ _;show bT _ _ (kW [a] (call g [a,.ref x,.ref D]) >>= ret) _ _ _;exact aB (fV (cU h (λv s' z=>aR z) λ_ _ z=>z))
end
theorem ayz{K:Fg9}{x D:aY}(k:ExcK K D):PySem.W.KitX K (.ref x) (.ref D) (λh=>∃ox od,mZ h x ox D od) where
 ty:=λ_ _ _ ⟨_,_,I⟩=>I.type
 it:=λ_ _ X _=>by
  obtain⟨cdD,hcD,_⟩:=oJ k.hd;unfold tK at hcD;split at hcD
  ·rename_i c' d' cd' sl' ho;intro A' Q' E' s' k q;unfold isType loadHead;exact aB (wpAny_loadPart (k _ _ (X _ _ ho)) (aR q))
  ·cases hcD
 ne:=λh tp dd its n sl X htp=>by
  obtain⟨cdD,hcD,_⟩:=oJ k.hd;refine Bool.eq_false_iff.mpr λq =>?_
  have e:D=tp:=Value.ref.inj (beq_iff_eq.mp q);subst e;unfold tK at hcD;split at hcD
  ·rename_i c' d' cd' sl' ho;have z:=(X _ _ ho).symm.trans htp;cases z
  ·cases hcD
 ca:=λ{prog w A E Q s} X ⟨ox,od,I⟩ q=>by
  have hf:oZ K D od "__class__" = ZY (.bind (.builtin "getset_descriptor.__get__") (.builtin "object.__class__")):=ao1 (by obtain⟨cd,hc,_⟩:=oJ k.hd;rw[hc];rfl) k.cl k.sp k.tk
  unfold getAttr? getAttrBy?;refine aB (wpAny_mkText (aB (wpAny_attempt (azh (s:={ s with toks:=s.toks+1 }) X I k (azi (s:={ s with toks:=s.toks+1 }) X I hf
   (wpAny_call (PySem.W.class_get (s:={ s with toks:=s.toks+1 }) (ox:=ox) (od:=od) X I k.ob (PySem.W.handed_on rfl (aR q)))))))))
end Mn
namespace Dn
open L2 Mn
inductive D where
 | non | bl (b:Bool) | int (i:Int) | str (x:Str) | tup (l:List D) | lst (l:List D) | kst (l:List D) | dct (kvs:List (Key×D)) | exn (c:Str) (fs:List (Str×Int)) | dtt (kvs:List (List Int×Int))
def exO(a C:aY)(dx:Option aY):fH->Prop:=λh=>∃oe vs,h.get? a=ZY oe/\oe.cls=.ref C/\oe.dict=dx/\oe.data=.fields vs
section
variable(K:Fg9)(F:Hp)
mutual
inductive Is:D->V->Prop
 | non:Is .non .non
 | bl (b:Bool):Is (.bl b) (.bl b)
 | int (i:Int):Is (.int i) (.int i)
 | str (x:Str):Is (.str x) (.str x)
 | tup {a:aY} {vs:List V} {ds:List D} (e:F a=ZY (.tup vs)) (h:IsL ds vs):Is (.tup ds) (.ref a)
 | lst {a:aY} {vs:List V} {ds:List D} (e:F a=ZY (.lst vs)) (h:IsL ds vs):Is (.lst ds) (.ref a)
 | kst {a:aY} {vs:List V} {ds:List D} (e:SqL K F a vs) (h:IsL ds vs):Is (.kst ds) (.ref a)
 | dct {a:aY} {kvs:List (Key×V)} {ds:List (Key×D)} (e:F a=ZY (.dK kvs)) (h:IsK ds kvs):Is (.dct ds) (.ref a)
 | exn {a C:aY} {c:Str} {dx:Option aY} {fs:List (Str×Int)} (e:F a=ZY (.ext (exO a C dx))) (hc:nsIn K bK c=ZY (ZY (.ref C))) (hk:ExcK K C)
   (hf:(dx=ZX/\fs=[])∨∃d,dx=ZY d/\F d=ZY (.xd (fs.map λp=>(p.1,V.int p.2)))):Is (.exn c fs) (.ref a)
 | dtt {a:aY} {ds:List (List Int×Int)} (e:F a=ZY (.dT (ds.map λp=>(p.1.map qF,V.int p.2)))):Is (.dtt ds) (.ref a)
inductive IsL:List D->List V->Prop
 | nil:IsL [] []
 | cons {d:D} {v:V} {ds:List D} {vs:List V} (h:Is d v) (t:IsL ds vs):IsL (d::ds) (v::vs)
inductive IsK:List (Key×D)->List (Key×V)->Prop
 | nil:IsK [] []
 | cons {k:Key} {d:D} {v:V} {ds:List (Key×D)} {vs:List (Key×V)} (h:Is d v) (t:IsK ds vs):IsK ((k,d)::ds) ((k,v)::vs)
end
end
section
variable{K:Fg9}{F F':Hp}
mutual
theorem Is.mono(g:Same F F'):∀{d:D} {v:V},Is K F d v->Is K F' d v
 | _,_,.non=>.non
 | _,_,.bl b=>.bl b
 | _,_,.int i=>.int i
 | _,_,.str x=>.str x
 | _,_,.tup e h=>.tup (g _ _ e) (IsL.mono g h)
 | _,_,.lst e h=>.lst (g _ _ e) (IsL.mono g h)
 | _,_,.kst e h=>.kst (L2.Same.seq g e) (IsL.mono g h)
 | _,_,.dct e h=>.dct (g _ _ e) (IsK.mono g h)
 | _,_,.exn e hc hk hf=>.exn (g _ _ e) hc hk (hf.imp id λ⟨d,h1,h2⟩=>⟨d,h1,g _ _ h2⟩)
 | _,_,.dtt e=>.dtt (g _ _ e)
theorem IsL.mono(g:Same F F'):∀{ds:List D} {vs:List V},IsL K F ds vs->IsL K F' ds vs
 | _,_,.nil=>.nil
 | _,_,.cons h t=>.cons (Is.mono g h) (IsL.mono g t)
theorem IsK.mono(g:Same F F'):∀{ds:List (Key×D)} {vs:List (Key×V)},IsK K F ds vs->IsK K F' ds vs
 | _,_,.nil=>.nil
 | _,_,.cons h t=>.cons (Is.mono g h) (IsK.mono g t)
end
theorem IsL.length:∀{ds:List D} {vs:List V},IsL K F ds vs->ds.length=vs.length
 | _,_,.nil=>rfl
 | _,_,.cons _ t=>by simp[IsL.length t]
theorem IsL.append:∀{ds es:List D} {vs ws:List V},IsL K F ds vs->IsL K F es ws->IsL K F (ds++es) (vs++ws)
 | _,_,_,_,.nil,h=>h
 | _,_,_,_,.cons h t,k=>.cons h (IsL.append t k)
theorem IsL.take:∀{ds:List D} {vs:List V} (n:Nat),IsL K F ds vs->IsL K F (ds.take n) (vs.take n)
 | _,_,0,_=>by simpa using IsL.nil
 | _,_,_+1,.nil=>.nil
 | _,_,n+1,.cons h t=>.cons h (IsL.take n t)
theorem IsL.drop:∀{ds:List D} {vs:List V} (n:Nat),IsL K F ds vs->IsL K F (ds.drop n) (vs.drop n)
 | _,_,0,h=>h
 | _,_,_+1,.nil=>.nil
 | _,_,n+1,.cons _ t=>IsL.drop n t
theorem IsL.get:∀{ds:List D} {vs:List V} {i:Nat} {d:D},IsL K F ds vs->ds[i]? = ZY d->∃v,vs[i]? = ZY v/\Is K F d v
 | _,_,_,_,.nil,e=>by simp at e
 | _,_,0,_,.cons h _,e=>by simp at e;subst e;exact⟨_,rfl,h⟩
 | _,_,i+1,v,.cons _ t,e=>by
  obtain⟨d,h1,h2⟩:=IsL.get (i:=i) (d:=v) t (by simpa using e)
  exact⟨d,by simpa using h1,h2⟩
theorem IsL.set{d:D}{v:V}(h:Is K F d v):∀{ds:List D} {vs:List V} (i:Nat),IsL K F ds vs->IsL K F (ds.set i d) (vs.set i v)
 | _,_,_,.nil=>.nil
 | _,_,0,.cons _ t=>.cons h t
 | _,_,i+1,.cons q t=>.cons q (IsL.set h i t)
theorem IsL.rep{ds:List D}{vs:List V}(h:IsL K F ds vs):∀k:Nat,IsL K F (aP k ds).flatten (aP k vs).flatten
 | 0=>by simpa using IsL.nil
 | k+1=>by
  rw[gQ,gQ,jP,jP];exact h.append (IsL.rep h k)
theorem IsL.int_inv{ns:List Int}:∀{vs:List V},IsL K F (ns.map D.int) vs->vs=ns.map V.int:=by
 induction ns with
 | nil =>
  intro _ h;cases h;rfl
 | cons n r ih =>
  intro _ h;cases h with
  | cons h t =>
   cases h;rw[ih t];rfl
theorem IsL.bl_inv{ns:List Bool}:∀{vs:List V},IsL K F (ns.map D.bl) vs->vs=ns.map V.bl:=by
 induction ns with
 | nil =>
  intro _ h;cases h;rfl
 | cons n r ih =>
  intro _ h;cases h with
  | cons h t =>
   cases h;rw[ih t];rfl
theorem ael:∀ns:List Int,IsL K F (ns.map D.int) (ns.map V.int)
 | []=>.nil
 | n::r=>.cons (.int n) (ael r)
end
inductive Sl where
 | emp | val (d:D) | own (t:Option Nat) (l:List D) | box (c:Str) (fs:List (Str×(Nat ⊕ D))) | lol (ts:List Nat) | lnk (k:Nat)
abbrev Ro:=List Sl
def Owns(ρ:Ro)(σ:L2.St)(i:Nat)(a:aY):Prop:=(∃t l,ρ[i]? = ZY (.own t l))/\σ[i]? = ZY (ZY (.ref a))
def Own(ρ:Ro)(σ:L2.St)(a:aY):Prop:=∃i,Owns ρ σ i a
def SlOk(K:Fg9)(tg:Nat->aY)(F H:Hp):Sl->Option V->Prop
 | .emp,_=>True
 | .val d,o=>∃v,o=ZY v/\Is K F d v
 | .own t l,o=>∃a vs,o=ZY (.ref a)/\F a=ZX/\H a=ZY (.lst vs)/\IsL K F l vs/\∀k,t=ZY k->tg k=a
 | .box c fs,o=>∃a C dx fvs,o=ZY (.ref a)/\F a=ZX/\H a=ZY (.ins C dx fvs)/\nsIn K bK c=ZY (ZY (.ref C))/\(∀f,fs.lookup f=ZX->fvs.lookup f=ZX)/\(∀f k,fs.lookup f=ZY (.inl k)->fvs.lookup f=ZY (.ref (tg k)))/\∀f d,fs.lookup f=ZY (.inr d)->∃v,fvs.lookup f=ZY v/\Is K F d v
 | .lol ts,o=>∃a,o=ZY (.ref a)/\F a=ZY (.lst (ts.map λk=>V.ref (tg k)))
 | .lnk k,o=>o=ZY (.ref (tg k))
structure Good (K:Fg9) (tg:Nat->aY) (F H:Hp) (ρ:Ro) (σ:L2.St):Prop where
 sub:Same F H
 len:ρ.length=σ.length
 sl:∀(i:Nat) (s:Sl) (o:Option V),ρ[i]? = ZY s->σ[i]? = ZY o->SlOk K tg F H s o
 inj:∀(i j:Nat) (a:aY),Owns ρ σ i a->Owns ρ σ j a->i=j
structure Ext (O O':aY->Prop) (F H F' H':Hp):Prop where
 sub:Same F F'
 new:∀a o,F' a=ZY o->F a=ZY o∨H a=ZX∨O a
 keep:∀a o,H a=ZY o->¬O a->H' a=ZY o
 own:∀a,O' a->O a∨H a=ZX
 there:∀a,H' a=ZX->H a=ZX
theorem Ext.refl(O:aY->Prop)(F H:Hp):Ext O O F H F H:=⟨λ_ _ e=>e,λ_ _ e=>.inl e,λ_ _ e _=>e,λ_ h=>.inl h,λ_ h=>h⟩
theorem Ext.trans{O O1 O2:aY->Prop}{F H F1 H1 F2 H2:Hp}(a:Ext O O1 F H F1 H1)(b:Ext O1 O2 F1 H1 F2 H2):Ext O O2 F H F2 H2 where
 sub:=a.sub.trans b.sub
 new:=λc o e=>by
  rcases b.new c o e with q | q | q
  ·exact a.new c o q
  ·exact .inr (.inl (a.there c q))
  ·rcases a.own c q with z | z
   ·exact .inr (.inr z)
   ·exact .inr (.inl z)
 keep:=λc o e n=>b.keep c o (a.keep c o e n) λz=>by
  rcases a.own c z with q | q
  ·exact n q
  ·rw[e] at q;cases q
 own:=λc z=>by
  rcases b.own c z with q | q
  ·exact a.own c q
  ·exact .inr (a.there c q)
 there:=λc z=>a.there c (b.there c z)
section
variable{K:Fg9}{tg:Nat->aY}{F H F' H':Hp}{ρ ρ':Ro}{σ:L2.St}
theorem Good.ownAt(G:Good K tg F H ρ σ){a:aY}(h:Own ρ σ a):F a=ZX/\∃vs,H a=ZY (.lst vs):=by
 obtain⟨i,⟨t,l,e⟩,q⟩:=h;obtain⟨b,vs,e1,f,e2,_⟩:=G.sl i _ _ e q;cases e1;exact⟨f,vs,e2⟩
theorem Good.grow(G:Good K tg F H ρ σ)(s:Same F F')(s':Same F' H')(k:∀a,Own ρ σ a->F' a=ZX/\H' a=H a)(kb:∀a C dx fvs,F a=ZX->H a=ZY (.ins C dx fvs)->F' a=ZX/\H' a=H a):Good K tg F' H' ρ σ where
 sub:=s'
 len:=G.len
 inj:=G.inj
 sl:=λi sl o e q=>by
  have z:=G.sl i sl o e q;cases sl with
  | emp=>trivial
  | val d =>
   obtain⟨v,e1,h⟩:=z;exact⟨v,e1,h.mono s⟩
  | lol ts =>
   obtain⟨a,e1,e2⟩:=z;exact⟨a,e1,s _ _ e2⟩
  | lnk k=>exact z
  | box c fs =>
   obtain⟨a,C,dx,fvs,e1,e2,e3,e4,e7,e5,e6⟩:=z;obtain⟨f1,f2⟩:=kb a C dx fvs e2 e3;exact⟨a,C,dx,fvs,e1,f1,f2.trans e3,e4,e7,e5,λf d h=>(e6 f d h).imp λv h=>⟨h.1,h.2.mono s⟩⟩
  | own t l =>
   obtain⟨a,vs,e1,f,e2,h,ht⟩:=z;have w:=k a ⟨i,⟨t,l,e⟩,by rw[q,e1]⟩
   exact⟨a,vs,e1,w.1,by rw[w.2];exact e2,h.mono s,ht⟩
theorem Same.put{p:aY}(s:Same F H)(h:H p=ZX)(o:HO):Same (upd F p o) (upd H p o):=λb u e=>by
 by_cases hb:b=p
 ·subst hb;rw[di] at e ⊢
  exact e
 ·rw[bf hb] at e ⊢
  exact s b u e
theorem Good.freeF(G:Good K tg F H ρ σ){p:aY}(h:H p=ZX):F p=ZX:=by
 cases e:F p with
 | none=>rfl
 | some o=>rw[G.sub p o e] at h;cases h
theorem Good.own_ne(G:Good K tg F H ρ σ){p a:aY}(h:H p=ZX)(w:Own ρ σ a):a≠p:=by
 obtain⟨_,vs,e⟩:=G.ownAt w;exact gj e h
theorem Good.new(G:Good K tg F H ρ σ){p:aY}(h:H p=ZX)(o:HO):Good K tg (upd F p o) (upd H p o) ρ σ :=
 G.grow (Same.new (G.freeF h) o) (Same.put G.sub h o) (λa w=>by
  rw[bf (G.own_ne h w),bf (G.own_ne h w)];exact⟨(G.ownAt w).1,rfl⟩) λa C dx fvs h1 h2=>by
  rw[bf (gj h2 h),bf (gj h2 h)];exact⟨h1,rfl⟩
theorem Good.newX(G:Good K tg F H ρ σ){p:aY}(h:H p=ZX)(o:HO):Ext (Own ρ σ) (Own ρ σ) F H (upd F p o) (upd H p o) where
 sub:=Same.new (G.freeF h) o
 new:=λa u e=>by
  by_cases ha:a=p
  ·subst ha;exact .inr (.inl h)
  ·rw[bf ha] at e;exact .inl e
 keep:=λa u e _=>by rw[bf (gj e h)];exact e
 own:=λa w=>.inl w
 there:=λa e=>by
  by_cases ha:a=p
  ·subst ha;exact h
  ·rw[bf ha] at e;exact e
theorem Good.fresh(G:Good K tg F H ρ σ){p:aY}(h:H p=ZX)(o:HO):Good K tg F (upd H p o) ρ σ :=
 G.grow (Same.refl F) (λb u e=>by rw[bf (gj (G.sub b u e) h)];exact G.sub b u e) (λa w=>by
  rw[bf (G.own_ne h w)];exact⟨(G.ownAt w).1,rfl⟩) λa C dx fvs h1 h2=>⟨h1,bf (gj h2 h)⟩
theorem Good.freshX(G:Good K tg F H ρ σ){p:aY}(h:H p=ZX)(o:HO):Ext (Own ρ σ) (Own ρ σ) F H F (upd H p o) where
 sub:=Same.refl F
 new:=λa u e=>.inl e
 keep:=λa u e _=>by rw[bf (gj e h)];exact e
 own:=λa w=>.inl w
 there:=λa e=>by
  by_cases ha:a=p
  ·subst ha;exact h
  ·rw[bf ha] at e;exact e
theorem Good.freeze(G:Good K tg F H ρ σ){p:aY}{o:HO}(h:H p=ZY o)(n:¬Own ρ σ p)(hf:F p=ZX)(hi:∀C dx fs,o≠.ins C dx fs:=by intro _ _ _ z;cases z):Good K tg (upd F p o) H ρ σ :=
 G.grow (Same.new hf o) (λb u e=>by
  by_cases hb:b=p
  ·subst hb;rw[di] at e;cases e;exact h
  ·rw[bf hb] at e;exact G.sub b u e) (λa w=>by
  have:a≠p:=λz=>n (z▸w)
  rw[bf this];exact⟨(G.ownAt w).1,rfl⟩) λa C dx fvs h1 h2=>by
  have:a≠p:=λz=>by
   subst z;rw[h] at h2;exact hi _ _ _ (bO h2)
  rw[bf this];exact⟨h1,rfl⟩
end
end Dn
namespace Dn
open L2 Mn
structure Exn where
 cls:Str
 fs:List (Str×Int)
inductive Out (α:Type) where
 | ok (a:α) | exc (x:Exn)
abbrev M(α:Type):=Ro->Option (Out α×Ro)
noncomputable def M.bind{α β:Type}(m:M α)(k:α->M β):M β:=λρ=>match m ρ with
 | some (.ok a,ρ1)=>k a ρ1
 | some (.exc x,ρ1)=>ZY (.exc x,ρ1)
 | none=>ZX
noncomputable def ret{α:Type}(a:α):M α:=λρ=>ZY (.ok a,ρ)
noncomputable def lift{α:Type}(o:Option α):M α:=λρ=>match o with
 | some a=>ZY (.ok a,ρ)
 | none=>ZX
section
variable{α β:Type}
theorem az{m:M α}{k:α->M β}{ρ ρ2:Ro}{b:β}(h:m.bind k ρ=ZY (.ok b,ρ2)):∃a ρ1,m ρ=ZY (.ok a,ρ1)/\k a ρ1=ZY (.ok b,ρ2):=by
 unfold M.bind at h;split at h
 ·exact⟨_,_,by assumption,h⟩
 ·cases h
 ·cases h
theorem fu{o:Option α}{ρ ρ2:Ro}{b:α}(h:lift o ρ=ZY (.ok b,ρ2)):o=ZY b/\ρ2=ρ:=by
 unfold lift at h;split at h
 ·cases h;exact⟨rfl,rfl⟩
 ·cases h
theorem ji{a b:α}{ρ ρ2:Ro}(h:ret a ρ=ZY (.ok b,ρ2)):a=b/\ρ2=ρ:=by
 unfold ret at h;cases h;exact⟨rfl,rfl⟩
@[simp] theorem a9d(a:α)(k:α->M β):(ret a).bind k=k a:=rfl
@[simp] theorem a7z(a:α):lift (ZY a)=ret a:=rfl
end
inductive Rv where
 | v (d:D) | fr (l:List D)
 | tf (d:D) (l:List D)
abbrev Rel(α:Type):=α->V->(H:Hp)->(O:aY->Prop)->(F' H':Hp)->(O':aY->Prop)->Prop
def relD(K:Fg9):Rel D:=λd v _ _ F' _ _=>Is K F' d v
def Bor(K:Fg9)(F H:Hp)(d:D)(v:V):Prop:=Is K F d v∨∃a vs l,d=.lst l/\v=.ref a/\H a=ZY (.lst vs)/\IsL K F l vs
def relB(K:Fg9):Rel D:=λd v _ _ F' H' _=>Bor K F' H' d v
def relR(K:Fg9):Rel Rv:=λr v H O F' H' O'=>match r with
 | .v d=>Is K F' d v
 | .fr l=>∃a vs,v=.ref a/\(H a=ZX∨O a)/\F' a=ZX/\H' a=ZY (.lst vs)/\IsL K F' l vs/\¬O' a
 | .tf d l=>∃t u a vs,v=.ref t/\F' t=ZY (.tup [u,.ref a])/\Is K F' d u/\(H a=ZX∨O a)/\F' a=ZX/\H' a=ZY (.lst vs)/\IsL K F' l vs/\¬O' a
def T{α:Type}(K:Fg9)(rel:Rel α)(m:M α):TE:=λσ H Q=>∃tg F ρ a ρ',Good K tg F H ρ σ/\m ρ=ZY (.ok a,ρ') /\
 ∀v H' F',Good K tg F' H' ρ' σ->Ext (Own ρ σ) (Own ρ' σ) F H F' H'->rel a v H (Own ρ σ) F' H' (Own ρ' σ)->Q v H'
structure EV (K:Fg9) (X:Cx) (e:dH) (m:M D):Prop where
 go:X.K=K->PE X e (T K (relD K) m)
instance {K:Fg9} {X:Cx} {e:dH} {m:M D}:CoeFun (EV K X e m) λ_=>X.K=K->PE X e (T K (relD K) m):=⟨EV.go⟩
structure EB (K:Fg9) (X:Cx) (e:dH) (m:M D):Prop where
 go:X.K=K->PE X e (T K (relB K) m)
instance {K:Fg9} {X:Cx} {e:dH} {m:M D}:CoeFun (EB K X e m) λ_=>X.K=K->PE X e (T K (relB K) m):=⟨EB.go⟩
structure ER (K:Fg9) (X:Cx) (e:dH) (m:M Rv):Prop where
 go:X.K=K->PE X e (T K (relR K) m)
instance {K:Fg9} {X:Cx} {e:dH} {m:M Rv}:CoeFun (ER K X e m) λ_=>X.K=K->PE X e (T K (relR K) m):=⟨ER.go⟩
theorem PE.imp{X:Cx}{e:dH}{t t':TE}(h:PE X e t)(w:∀σ H Q,t' σ H Q->t σ H Q):PE X e t':=λqv s σ H Q I q=>h qv s σ H Q I (w σ H Q q)
section
variable{K:Fg9}{X:Cx}{e a b:dH}{pos:Pos}
theorem EV.toB{m:M D}(h:EV K X e m):EB K X e m:=EB.mk λhk=>PE.imp (h hk) λσ H Q ⟨tg,F,ρ,d,ρ',G,em,q⟩=>⟨tg,F,ρ,d,ρ',G,em,λv H' F' G' x r=>q v H' F' G' x (.inl r)⟩
def M.v(m:M D):M Rv:=m.bind λd=>ret (.v d)
theorem EV.toR{m:M D}(h:EV K X e m):ER K X e m.v:=ER.mk λhk=>PE.imp (h hk) λσ H Q z9=>by
 obtain⟨tg,F,ρ,r,ρ',G,em,q⟩:=z9;obtain⟨d,ρ1,e1,e2⟩:=az em;obtain⟨rfl,rfl⟩:=ji e2;exact⟨tg,F,ρ,d,_,G,e1,λv H' F' G' x r=>q v H' F' G' x r⟩
noncomputable def Rv.d:Rv->D
 | .v d=>d
 | .fr l=>.lst l
 | .tf d l=>.tup [d,.lst l]
def M.d(m:M Rv):M D:=m.bind λr=>ret r.d
theorem frz{tg:Nat->aY}{O:aY->Prop}{F H F' H':Hp}{ρ':Ro}{σ':L2.St}{r:Rv}{v:V}(G:Good K tg F' H' ρ' σ')(x:Ext O (Own ρ' σ') F H F' H')(h:relR K r v H O F' H' (Own ρ' σ')) :
  ∃F2,Good K tg F2 H' ρ' σ'/\Ext O (Own ρ' σ') F H F2 H'/\Is K F2 r.d v:=by
 cases r with
 | v d=>exact⟨F',G,x,h⟩
 | fr l =>
  obtain⟨a,vs,rfl,ha,hf,hh,hl,hn⟩:=h;refine⟨upd F' a (.lst vs),G.freeze hh hn hf,⟨x.sub.trans (Same.new hf _),λb o e =>?_,x.keep,x.own,x.there⟩,.lst di (hl.mono (Same.new hf _))⟩
  by_cases hb:b=a
  ·subst hb;exact .inr ha
  ·rw[bf hb] at e;exact x.new b o e
 | tf d l =>
  obtain⟨t,u,a,vs,rfl,ht,hd,ha,hf,hh,hl,hn⟩:=h;have hta:t≠a:=λz=>by rw[z,hf] at ht;cases ht
  refine⟨upd F' a (.lst vs),G.freeze hh hn hf,⟨x.sub.trans (Same.new hf _),λb o e =>?_,x.keep,x.own,x.there⟩,.tup (by rw[bf hta];exact ht) (.cons (hd.mono (Same.new hf _)) (.cons (.lst di (hl.mono (Same.new hf _))) .nil))⟩
  by_cases hb:b=a
  ·subst hb;exact .inr ha
  ·rw[bf hb] at e;exact x.new b o e
theorem ER.toD{m:M Rv}(h:ER K X e m):EV K X e m.d:=EV.mk λhk=>PE.imp (h hk) λσ H Q z9=>by
 obtain⟨tg,F,ρ,d,ρ',G,em,q⟩:=z9;obtain⟨r,ρ1,e1,e2⟩:=az em;obtain⟨rfl,rfl⟩:=ji e2;refine⟨tg,F,ρ,r,_,G,e1,λv H' F' G' x w =>?_⟩
 obtain⟨F2,G2,x2,i2⟩:=frz G' x w;exact q v H' F2 G2 x2 i2
noncomputable def dj(i:Nat):M D:=λρ=>match ρ[i]? with
 | some (.val d)=>ZY (.ok d,ρ)
 | some (.own _ l)=>ZY (.ok (.lst l),ρ)
 | _=>ZX
theorem Good.at{tg:Nat->aY}{F H:Hp}{ρ:Ro}{σ:L2.St}(G:Good K tg F H ρ σ){i:Nat}{s:Sl}(e:ρ[i]? = ZY s):∃o,σ[i]? = ZY o/\SlOk K tg F H s o:=by
 have hi:i < σ.length:=by rw[<-G.len];exact(aQ.mp e).1
 exact⟨σ[i],aC hi,G.sl i s _ e (aC hi)⟩
theorem qx{tg:Nat->aY}{F H:Hp}{ρ ρ':Ro}{σ:L2.St}(G:Good K tg F H ρ σ){i:Nat}{d:D}(em:dj i ρ=ZY (.ok d,ρ')):ρ'=ρ/\∃v,σ[i]? = ZY (ZY v)/\Bor K F H d v:=by
 unfold dj at em;split at em
 ·rename_i d' e';cases em;obtain⟨o,ho,v,rfl,hv⟩:=G.at e';exact⟨rfl,v,ho,.inl hv⟩
 ·rename_i t l e';cases em;obtain⟨o,ho,a,vs,rfl,hf,hh,hl,_⟩:=G.at e';exact⟨rfl,_,ho,.inr ⟨a,vs,l,rfl,rfl,hh,hl⟩⟩
 ·cases em
theorem dg{i:Nat}(h:PE X e (tVar i)):EB K X e (dj i):=EB.mk λ_=>PE.imp h λσ H Q z9=>by
 obtain⟨tg,F,ρ,d,ρ',G,em,q⟩:=z9;obtain⟨rfl,v,ho,hv⟩:=qx G em;exact⟨v,ho,q v H F G (Ext.refl _ _ _) hv⟩
def ahc(i:Nat):M Rv:=λρ=>match ρ[i]? with
 | some (.val d)=>ZY (.ok (.v d),ρ)
 | some (.own ZX l)=>ZY (.ok (.fr l),ρ.set i .emp)
 | _=>ZX
theorem Good.drop{tg:Nat->aY}{F H:Hp}{ρ:Ro}{σ:L2.St}(G:Good K tg F H ρ σ)(i:Nat):Good K tg F H (ρ.set i .emp) σ:=by
 have sub:∀j t l,(bB ρ i Sl.emp)[j]? = ZY (Sl.own t l)->(ρ:List Sl)[j]? = ZY (Sl.own t l):=λj t l e=>by
  rw[bC] at e;split at e
  ·split at e <;> cases e
  ·exact e
 refine⟨G.sub,by rw[bW];exact G.len,λj s o e q =>?_,λj k a ⟨⟨t,l,e⟩,q⟩ ⟨⟨t',l',e'⟩,q'⟩=>G.inj j k a ⟨⟨t,l,sub _ _ _ e⟩,q⟩ ⟨⟨t',l',sub _ _ _ e'⟩,q'⟩⟩
 rw[bC] at e;split at e
 ·split at e
  ·cases e;trivial
  ·cases e
 ·exact G.sl j s o e q
theorem aeb{ρ:Ro}{σ:L2.St}{i:Nat}{a:aY}(h:Own (ρ.set i .emp) σ a):Own ρ σ a/\∀t l,ρ[i]? = ZY (.own t l)->∀(inj:∀i j a,Owns ρ σ i a->Owns ρ σ j a->i=j),¬Owns ρ σ i a:=by
 obtain⟨j,⟨t,l,e⟩,q⟩:=h;rw[bC] at e;split at e
 ·split at e <;> cases e
 ·rename_i hne;have w:Owns ρ σ j a:=⟨⟨t,l,e⟩,q⟩;exact⟨⟨j,w⟩,λt' l' _ inj z=>hne (inj _ _ _ z w)⟩
theorem ab8{i:Nat}(h:PE X e (tVar i)):ER K X e (ahc i):=ER.mk λ_=>PE.imp h λσ H Q z9=>by
 obtain⟨tg,F,ρ,d,ρ',G,em,q⟩:=z9;unfold ahc at em;split at em
 ·rename_i d' e';cases em;obtain⟨o,ho,v,rfl,hv⟩:=G.at e';exact⟨v,ho,q v H F G (Ext.refl _ _ _) hv⟩
 ·rename_i l e';cases em;obtain⟨o,ho,a,vs,rfl,hf,hh,hl,_⟩:=G.at e';have w:Owns ρ σ i a:=⟨⟨_,_,e'⟩,ho⟩;refine⟨_,ho,q _ H F (G.drop i) ⟨Same.refl _,λ_ _ e=>.inl e,λ_ _ e _=>e,λb z=>.inl (aeb z).1,λ_ z=>z⟩ ⟨a,vs,rfl,.inr ⟨i,w⟩,hf,hh,hl,λz=>(aeb z).2 _ _ e' G.inj w⟩⟩
 ·cases em
noncomputable def mVar(i:Nat):M D:=λρ=>match ρ[i]? with
 | some (.val d)=>ZY (.ok d,ρ)
 | some (.own ZX l)=>ZY (.ok (.lst l),ρ.set i (.val (.lst l)))
 | _=>ZX
theorem ax9{ρ:Ro}{σ:L2.St}{i:Nat}{d:D}{a:aY}(h:Own (ρ.set i (.val d)) σ a):Own (ρ.set i .emp) σ a:=by
 obtain⟨j,⟨t,l,e⟩,q⟩:=h;refine⟨j,⟨t,l,?_⟩,q⟩;rw[bC] at e ⊢
 split at e
 ·split at e <;> cases e
 ·rename_i hne;rw[if_neg hne];exact e
theorem Good.setv{tg:Nat->aY}{F H:Hp}{ρ:Ro}{σ:L2.St}{i:Nat}{d:D}{v:V}(G:Good K tg F H (ρ.set i .emp) σ)(e:σ[i]? = ZY (ZY v))(h:Is K F d v):Good K tg F H (ρ.set i (.val d)) σ:=by
 have sub:∀j t l,(bB ρ i (Sl.val d))[j]? = ZY (Sl.own t l)->(bB ρ i Sl.emp)[j]? = ZY (Sl.own t l):=λj t l z=>by
  rw[bC] at z ⊢
  split at z
  ·split at z <;> cases z
  ·rename_i hne;rw[if_neg hne];exact z
 refine⟨G.sub,by have:=G.len;rw[bW] at this ⊢;exact this,λj s o z q =>?_,λj k a ⟨⟨t,l,z⟩,q⟩ ⟨⟨t',l',z'⟩,q'⟩=>G.inj j k a ⟨⟨t,l,sub _ _ _ z⟩,q⟩ ⟨⟨t',l',sub _ _ _ z'⟩,q'⟩⟩
 by_cases hij:i=j
 ·subst hij;rw[bC,if_pos rfl] at z;split at z
  ·cases z;rw[e] at q;cases q;exact⟨v,rfl,h⟩
  ·cases z
 ·refine G.sl j s o ?_ q;rw[bC,if_neg hij] at z ⊢
  exact z
theorem ao{i:Nat}(h:PE X e (tVar i)):EV K X e (mVar i):=EV.mk λ_=>PE.imp h λσ H Q z9=>by
 obtain⟨tg,F,ρ,d,ρ',G,em,q⟩:=z9;unfold mVar at em;split at em
 ·rename_i d' e';cases em;obtain⟨o,ho,v,rfl,hv⟩:=G.at e';exact⟨v,ho,q v H F G (Ext.refl _ _ _) hv⟩
 ·rename_i l e';cases em;obtain⟨o,ho,a,vs,rfl,hf,hh,hl,_⟩:=G.at e';have w:Owns ρ σ i a:=⟨⟨_,_,e'⟩,ho⟩;have nown:¬Own (ρ.set i .emp) σ a:=λz=>(aeb z).2 _ _ e' G.inj w
  have G2:=(G.drop i).freeze hh nown hf;have i2:Is K (upd F a (.lst vs)) (.lst l) (.ref a):=.lst di (hl.mono (Same.new hf _));refine⟨_,ho,q _ H _ (G2.setv ho i2) ⟨Same.new hf _,λb o z =>?_,λ_ _ z _=>z,λb z=>.inl (aeb (ax9 z)).1,λ_ z=>z⟩ i2⟩
  by_cases hb:b=a
  ·subst hb;exact .inr (.inr ⟨i,w⟩)
  ·rw[bf hb] at z;exact .inl z
 ·cases em
theorem ev_c{d:D}{v:V}(h:PE X e (tC v))(hi:∀F,Is K F d v):EV K X e (ret d):=EV.mk λ_=>PE.imp h λσ H Q z9=>by
 obtain⟨tg,F,ρ,d',ρ',G,em,q⟩:=z9;obtain⟨rfl,rfl⟩:=ji em;exact q v H F G (Ext.refl _ _ _) (hi F)
theorem bh{i:Int}{j:Nat}:EV K X (.Constant (.int i) j pos) (ret (.int i)):=ev_c a6w λ_=>.int i
theorem ao3{i:Bool}{j:Nat}:EV K X (.Constant (.bool i) j pos) (ret (.bl i)):=ev_c ba2 λ_=>.bl i
theorem av6{j:Nat}:EV K X (.Constant .none j pos) (ret .non):=ev_c a6t λ_=>.non
def T2(K:Fg9)(m:M (D×D))(σ:L2.St)(H:Hp)(R:V->V->Hp->Prop):Prop:=∃tg F ρ p ρ',Good K tg F H ρ σ/\m ρ=ZY (.ok p,ρ') /\
 ∀x y H' F',Good K tg F' H' ρ' σ->Ext (Own ρ σ) (Own ρ' σ) F H F' H'->Bor K F' H' p.1 x->Bor K F' H' p.2 y->R x y H'
structure E2 (K:Fg9) (X:Cx) (a b:dH) (m:M (D×D)):Prop where
 go:X.K=K->∃ta tb,PE X a ta/\PE X b tb/\∀σ H R,T2 K m σ H R->ta σ H λx H1=>tb σ H1 λy H2=>R x y H2
instance {K:Fg9} {X:Cx} {a b:dH} {m:M (D×D)}:CoeFun (E2 K X a b m) λ_=>X.K=K->∃ta tb,PE X a ta/\PE X b tb/\∀σ H R,T2 K m σ H R->ta σ H λx H1=>tb σ H1 λy H2=>R x y H2:=⟨E2.go⟩
def jd(m1 m2:M D):M (D×D):=m1.bind λx=>m2.bind λy=>ret (x,y)
def cz(i:Nat)(m2:M D):M (D×D):=(dj i).bind λ_=>m2.bind λy=>(dj i).bind λx=>ret (x,y)
theorem e2_v{m1 m2:M D}(ha:EV K X a m1)(hb:EB K X b m2):E2 K X a b (jd m1 m2):=E2.mk λhk=>⟨_,_,ha hk,hb hk,λσ H R z9=>by
 obtain⟨tg,F,ρ,p,ρ',G,em,q⟩:=z9;obtain⟨d1,ρ1,e1,em⟩:=az em;obtain⟨d2,ρ2,e2,em⟩:=az em;obtain⟨rfl,rfl⟩:=ji em;exact⟨tg,F,ρ,d1,ρ1,G,e1,λx H1 F1 G1 x1 r1=>⟨tg,F1,ρ1,d2,_,G1,e2,λy H2 F2 G2 x2 r2=>q x y H2 F2 G2 (x1.trans x2) (.inl (r1.mono x2.sub)) r2⟩⟩⟩
theorem e2_n{i:Nat}{m2:M D}(ha:PE X a (tVar i))(hb:EB K X b m2):E2 K X a b (cz i m2):=E2.mk λhk=>⟨_,_,ha,hb hk,λσ H R z9=>by
 obtain⟨tg,F,ρ,p,ρ',G,em,q⟩:=z9;obtain⟨d0,ρ0,e0,em⟩:=az em;obtain⟨d2,ρ2,e2,em⟩:=az em;obtain⟨d1,ρ1,e1,em⟩:=az em;obtain⟨rfl,rfl⟩:=ji em;obtain⟨rfl,v,hv,_⟩:=qx G e0;exact⟨v,hv,tg,F,ρ0,d2,ρ2,G,e2,λy H2 F2 G2 x2 r2=>by
  obtain⟨rfl,v',hv',b'⟩:=qx G2 e1;rw[hv] at hv';cases hv';exact q v y H2 F2 G2 x2 b' r2⟩⟩
end
section
variable{K:Fg9}{X:Cx}{e a b c:dH}{es:List dH}{pos p:Pos}
section
variable{F H:Hp}{x:V}
theorem Bor.lst{l:List D}(g:Same F H)(h:Bor K F H (.lst l) x):∃a vs,x=.ref a/\H a=ZY (.lst vs)/\IsL K F l vs:=by
 rcases h with h | ⟨a,vs,l',e1,e2,e3,h⟩
 ·cases h with
  | lst e h=>exact⟨_,_,rfl,g _ _ e,h⟩
 ·cases e1;exact⟨a,vs,e2,e3,h⟩
theorem Bor.tup{l:List D}(h:Bor K F H (.tup l) x):∃a vs,x=.ref a/\F a=ZY (.tup vs)/\IsL K F l vs:=by
 rcases h with h | ⟨a,vs,l',e1,_⟩
 ·cases h with
  | tup e h=>exact⟨_,_,rfl,e,h⟩
 ·cases e1
theorem Bor.kst{l:List D}(h:Bor K F H (.kst l) x):∃a vs,x=.ref a/\SqL K F a vs/\IsL K F l vs:=by
 rcases h with h | ⟨a,vs,l',e1,_⟩
 ·cases h with
  | kst e h=>exact⟨_,_,rfl,e,h⟩
 ·cases e1
theorem Bor.int{i:Int}(h:Bor K F H (.int i) x):x=.int i:=by
 rcases h with h | ⟨a,vs,l',e1,_⟩
 ·cases h;rfl
 ·cases e1
theorem Bor.bl{i:Bool}(h:Bor K F H (.bl i) x):x=.bl i:=by
 rcases h with h | ⟨a,vs,l',e1,_⟩
 ·cases h;rfl
 ·cases e1
theorem Bor.str{i:Str}(h:Bor K F H (.str i) x):x=.str i:=by
 rcases h with h | ⟨a,vs,l',e1,_⟩
 ·cases h;rfl
 ·cases e1
theorem Bor.non(h:Bor K F H .non x):x=.non:=by
 rcases h with h | ⟨a,vs,l',e1,_⟩
 ·cases h;rfl
 ·cases e1
end
def Res(K:Fg9)(tg:Nat->aY)(F H:Hp)(ρ:Ro)(σ:L2.St)(r:Rv)(Q:VK):Prop :=
 ∀v H' F',Good K tg F' H' ρ σ->Ext (Own ρ σ) (Own ρ σ) F H F' H'->relR K r v H (Own ρ σ) F' H' (Own ρ σ)->Q v H'
section
variable{tg:Nat->aY}{F H:Hp}{ρ:Ro}{σ:L2.St}{Q:VK}
theorem Res.same{d:D}{v:V}(G:Good K tg F H ρ σ)(q:Res K tg F H ρ σ (.v d) Q)(h:Is K F d v):Q v H:=q v H F G (Ext.refl _ _ _) h
theorem Res.tup{l:List D}{vs:List V}(G:Good K tg F H ρ σ)(q:Res K tg F H ρ σ (.v (.tup l)) Q)(h:IsL K F l vs){p:aY}(hp:H p=ZX):Q (.ref p) (upd H p (.tup vs)) :=
 q _ _ _ (G.new hp _) (G.newX hp _) (.tup di (h.mono (Same.new (G.freeF hp) _)))
theorem Res.lst{l:List D}{vs:List V}(G:Good K tg F H ρ σ)(q:Res K tg F H ρ σ (.fr l) Q)(h:IsL K F l vs){p:aY}(hp:H p=ZX):Q (.ref p) (upd H p (.lst vs)) :=
 q _ _ _ (G.fresh hp _) (G.freshX hp _) ⟨p,vs,rfl,.inl hp,G.freeF hp,di,h,λz=>G.own_ne hp z rfl⟩
end
def rOf(K:Fg9)(g:D->D->Option Rv):R2:=λx y H Q=>∃tg F ρ σ d1 d2 r,Good K tg F H ρ σ/\Bor K F H d1 x/\Bor K F H d2 y/\g d1 d2=ZY r/\Res K tg F H ρ σ r Q
structure OpD (K:Fg9) (X:Cx) (f:aH->aH->Sem aH) (g:D->D->Option Rv):Prop where
 go:X.K=K->OpR X f (rOf K g)
instance {K:Fg9} {X:Cx} {f:aH->aH->Sem aH} {g:D->D->Option Rv}:CoeFun (OpD K X f g) λ_=>X.K=K->OpR X f (rOf K g):=⟨OpD.go⟩
def mOp(g:D->D->Option Rv)(m:M (D×D)):M Rv:=m.bind λp=>lift (g p.1 p.2)
theorem ap7{g:D->D->Option Rv}{m:M (D×D)}{ta tb:TE}(h:∀σ H R,T2 K m σ H R->ta σ H λx H1=>tb σ H1 λy H2=>R x y H2)(σ:L2.St)(H:Hp)(Q:VK)(t:T K (relR K) (mOp g m) σ H Q):tOp (rOf K g) ta tb σ H Q:=by
 obtain⟨tg,F,ρ,r,ρ',G,em,q⟩:=t;obtain⟨p,ρ1,e1,em⟩:=az em;obtain⟨e2,rfl⟩:=fu em;refine h σ H _ ⟨tg,F,ρ,p,_,G,e1,λx y H' F' G' x' bx by'=>⟨tg,F',_,σ,p.1,p.2,r,G',bx,by',e2,λv H2 F2 G2 x2 rr=>q v H2 F2 G2 (x'.trans x2) ?_⟩⟩
 cases r with
 | v d=>exact rr
 | fr l =>
  obtain⟨a,vs,ev,ha,w⟩:=rr;refine⟨a,vs,ev,?_,w⟩;rcases ha with ha | ha
  ·exact .inl (x'.there a ha)
  ·exact(x'.own a ha).symm
 | tf d l =>
  obtain⟨t,u,a,vs,ev,ht,hd,ha,w⟩:=rr;refine⟨t,u,a,vs,ev,ht,hd,?_,w⟩;rcases ha with ha | ha
  ·exact .inl (x'.there a ha)
  ·exact(x'.own a ha).symm
theorem gf{op:mX}{g:D->D->Option Rv}{m:M (D×D)}(ho:OpD K X (fO op) g)(h:E2 K X a b m):ER K X (.BinOp a op b pos) (mOp g m):=ER.mk λhk=>by
 obtain⟨ta,tb,ha,hb,h⟩:=h hk;exact PE.imp (ba1 (ho hk) ha hb) (ap7 h)
theorem a03{op:tZ}{g:D->D->Option Rv}{m:M (D×D)}(ho:OpD K X (fD op) g)(h:E2 K X a b m)(hm:gW op b=ZV):ER K X (.Compare a [op] [b] pos) (mOp g m):=ER.mk λhk=>by
 obtain⟨ta,tb,ha,hb,h⟩:=h hk;exact PE.imp (a2o (ho hk) ha hb hm) (ap7 h)
noncomputable def capS:Nat:=16777216
theorem aib{n:Nat}(h:n<=capS):n<=cO:=by rw[eV];exact h
def gAdd:D->D->Option Rv
 | .int i,.int j=>ZY (.v (.int (i+j)))
 | .tup l,.tup k=>if l.length+k.length<=capS then ZY (.v (.tup (l++k))) else ZX
 | .lst l,.lst k=>if l.length+k.length<=capS then ZY (.fr (l++k)) else ZX
 | .str i,.str j=>if i.length+j.length<=capS then ZY (.v (.str (i++j))) else ZX
 | _,_=>ZX
theorem xj:OpD K X (fO .Add) gAdd:=OpD.mk λhk=>by
 intro qv s σ0 H x y v u Q I rx ry z9;obtain⟨tg,F,ρ,σ,d1,d2,r,G,b1,b2,eg,q⟩:=z9;subst hk;unfold gAdd at eg;split at eg
 ·cases eg;obtain rfl:=b1.int;obtain rfl:=b2.int;exact a7d qv s σ0 H _ _ v u Q I rx ry ⟨_,_,rfl,rfl,Res.same G q (.int _)⟩
 ·split at eg
  ·rename_i hz;cases eg;obtain⟨a1,vs1,rfl,s1,i1⟩:=b1.tup;obtain⟨a2,vs2,rfl,s2,i2⟩:=b2.tup;have l1:=i1.length;have l2:=i2.length
   by_cases hx:vs1=[]
   ·subst hx;cases i1;cases rx;cases ry;obtain⟨its,r1,p1,_⟩:=I.tuple (SqT.of (G.sub _ _ s1));obtain⟨its2,r2,p2,_⟩:=I.tuple (SqT.of (G.sub _ _ s2));exact azs p1 p2 (r1.nil_iff.mpr rfl) ⟨.ref a2,H,I,rfl,Res.same G q (.tup s2 i2)⟩
   ·refine a2w qv s σ0 H _ _ v u Q I rx ry ⟨a1,a2,vs1,vs2,rfl,rfl,SqT.of (G.sub _ _ s1),SqT.of (G.sub _ _ s2),hx,by rw[<-l1,<-l2];exact aib hz,λe =>?_,λ_ p hp=>Res.tup G q (i1.append i2) hp⟩
    subst e;cases i2;exact Res.same G q (.tup s1 (by simpa using i1))
  ·cases eg
 ·split at eg
  ·rename_i hz;cases eg;obtain⟨a1,vs1,rfl,s1,i1⟩:=b1.lst G.sub;obtain⟨a2,vs2,rfl,s2,i2⟩:=b2.lst G.sub;have l1:=i1.length;have l2:=i2.length;exact a7c qv s σ0 H _ _ v u Q I rx ry ⟨a1,a2,vs1,vs2,rfl,rfl,s1,s2,by rw[<-l1,<-l2];exact aib hz,λp hp=>Res.lst G q (i1.append i2) hp⟩
  ·cases eg
 ·split at eg
  ·rename_i hz;cases eg;obtain rfl:=b1.str;obtain rfl:=b2.str;exact asa qv s σ0 H _ _ v u Q I rx ry ⟨_,_,rfl,rfl,aib hz,Res.same G q (.str _)⟩
  ·cases eg
 ·cases eg
def gInt(f:Int->Int->Option Int):D->D->Option Rv
 | .int i,.int j=>(f i j).map λk=>.v (.int k)
 | _,_=>ZX
theorem aof{op:mX}{f:Int->Int->Option Int}{C:Int->Int->Prop}{g:Int->Int->Int}(h:OpR X (fO op) (rI C λi j=>.int (g i j)))(hf:∀i j k,f i j=ZY k->C i j/\k=g i j):OpD K X (fO op) (gInt f):=OpD.mk λhk=>by
 intro qv s σ0 H x y v u Q I rx ry z9;obtain⟨tg,F,ρ,σ,d1,d2,r,G,b1,b2,eg,q⟩:=z9;unfold gInt at eg;split at eg
 ·rename_i i j;obtain rfl:=b1.int;obtain rfl:=b2.int;cases z:f i j with
  | none=>rw[z] at eg;cases eg
  | some k =>
   rw[z] at eg;cases eg;obtain⟨h1,rfl⟩:=hf i j k z;exact h qv s σ0 H _ _ v u Q I rx ry ⟨_,_,rfl,rfl,h1,Res.same G q (.int _)⟩
 ·cases eg
noncomputable def fSub(i j:Int):Option Int:=ZY (i - j)
noncomputable def fMul(i j:Int):Option Int:=if (-18446744073709551616 < i/\i < 18446744073709551616)∨(-18446744073709551616 < j/\j < 18446744073709551616) then ZY (i*j) else ZX
theorem a7k{i j:Int}(h0:0 < j)(h:j < 1000000000000000000000000000000000000000000000000000000000000):rD i j=ZV:=by
 have e2:(2:Nat) ^ 200=1606938044258990275541962092341162602522202993782792835301376:=by decide +kernel
 have hl:j.natAbs.log2 < 200:=(Nat.log2_lt (by omega)).2 (by rw[e2];omega)
 have hd:¬(j.natAbs.log2 / 30+1 > 300):=by omega
 have hj:(j==0)=ZV:=by
  rw[beq_eq_false_iff_ne];omega
 unfold rD;simp only[hj,fJ,if_false,hd,decide_false,xV]
theorem ayf:OpR X (fO .FloorDiv) (rI (λ_ j=>0 < j/\j < 1000000000000000000000000000000000000000000000000000000000000) λi j=>.int (i / j)):=opI λi j _ _ _ _ _ hc q=>by
 have h1:(0:Int) < j:=hc.1;exact floordiv_int (by omega) (by rw[sE i (by omega)];exact q) (.inl (a7k hc.1 hc.2))
noncomputable def fDiv(i j:Int):Option Int:=if 0 < j/\j < 1000000000000000000000000000000000000000000000000000000000000 then ZY (i / j) else ZX
noncomputable def fMod(i j:Int):Option Int:=if 0 < j then ZY (i % j) else ZX
noncomputable def fPow(i j:Int):Option Int:=if 0<=j/\j<=1000000/\i.natAbs < 18446744073709551616 then ZY (i ^ j.toNat) else ZX
theorem afi:OpD K X (fO .Sub) (gInt fSub):=OpD.mk λhk=>by
 intro qv s σ0 H x y v u Q I rx ry z9;obtain⟨tg,F,ρ,σ,d1,d2,r,G,b1,b2,eg,q⟩:=z9;unfold gInt at eg;split at eg
 ·obtain rfl:=b1.int;obtain rfl:=b2.int;cases eg;exact a67 qv s σ0 H _ _ v u Q I rx ry ⟨_,_,rfl,rfl,Res.same G q (.int _)⟩
 ·cases eg
end
mutual
def toPy:D->PyData
 | .non=>.none
 | .bl b=>.bool b
 | .int i=>.int i
 | .str x=>.str x
 | .tup l=>.tuple (acz l)
 | .lst l=>.list (acz l)
 | .kst l=>.list (acz l)
 | .dct _=>.dict []
 | .exn _ _=>.dict []
 | .dtt _=>.dict []
def acz:List D->List PyData
 | []=>[]
 | d::r=>toPy d::acz r
end
noncomputable def okD:Nat->D->Bool
 | _,.non=>ZW
 | _,.bl _=>ZW
 | _,.int _=>ZW
 | _,.str x=>PyData.strOk x
 | n+1,.tup l=>l.all (okD n)
 | n+1,.lst l=>l.all (okD n)
 | n+1,.kst l=>l.all (okD n)
 | _,_=>ZV
theorem akn{n:Nat}(ih:∀d,okD n d=ZW->(toPy d).canLay0=ZW/\(toPy d).depth<=n):∀l:List D,l.all (okD n)=ZW->vV (acz l)=ZW/\wV (acz l)<=n
 | [],_=>⟨rfl,fG _⟩
 | d::r,h=>by
  rw[lE,bL] at h;obtain⟨h1,h2⟩:=ih d h.1;obtain⟨h3,h4⟩:=akn ih r h.2;refine⟨?_,?_⟩
  ·show(PyData.canLay0 (toPy d)&&vV (acz r))=ZW;rw[h1,h3];rfl
  ·show max (PyData.depth (toPy d)) (wV (acz r))<=n;omega
theorem abg:∀(n:Nat) (d:D),okD n d=ZW->(toPy d).canLay0=ZW/\(toPy d).depth<=n
 | n,.non,_=>⟨rfl,fG _⟩
 | n,.bl _,_=>⟨rfl,fG _⟩
 | n,.int _,_=>⟨rfl,fG _⟩
 | n,.str x,h=>by
  refine⟨?_,fG _⟩;cases n <;> exact h
 | n+1,.tup l,h=>by
  obtain⟨h1,h2⟩:=akn (abg n) l h;exact⟨h1,qU h2⟩
 | n+1,.lst l,h=>by
  obtain⟨h1,h2⟩:=akn (abg n) l h;exact⟨h1,qU h2⟩
 | n+1,.kst l,h=>by
  obtain⟨h1,h2⟩:=akn (abg n) l h;exact⟨h1,qU h2⟩
 | 0,.tup l,h=>by cases h
 | 0,.lst l,h=>by cases h
 | 0,.kst l,h=>by cases h
 | 0,.dct l,h=>by cases h
 | n+1,.dct l,h=>by cases h
 | 0,.exn _ _,h=>by cases h
 | n+1,.exn _ _,h=>by cases h
 | 0,.dtt _,h=>by cases h
 | n+1,.dtt _,h=>by cases h
def eqD(a b:D):Bool:=kI (toPy a) (toPy b)
def eqDs:List D->List D->Bool
 | [],[]=>ZW
 | a::r,b::t=>eqD a b&&eqDs r t
 | _,_=>ZV
theorem av7:∀a b:List D,xX (acz a) (acz b)=eqDs a b
 | [],[]=>rfl
 | a::r,b::t=>by
  show(kI (toPy a) (toPy b)&&xX (acz r) (acz t))=_;rw[av7 r t];rfl
 | [],_::_=>rfl
 | _::_,[]=>rfl
section
variable{K:Fg9}{X:Cx}
section
variable{qv:List (aY×Obj)}{σ:L2.St}{F H:Hp}{s:aO}
mutual
theorem zc(I:Inv X qv σ H s)(g:Same F H):∀{n:Nat} {d:D} {v:V} {u:aH},Is X.K F d v->okD n d=ZW->RelV v u->∃as,vQ s.heap u (toPy d) as
 | _,_,_,_,.non,_,r=>by cases r;exact⟨_,.none⟩
 | _,_,_,_,.bl b,_,r=>by cases r;exact⟨_,.bool b⟩
 | _,_,_,_,.int i,_,r=>by obtain⟨t,rfl⟩:=r;exact⟨_,.int i t⟩
 | _,_,_,_,.str i,_,r=>by obtain⟨t,rfl⟩:=r;exact⟨_,.str i t⟩
 | 0,_,_,_,.tup e h,k,r=>by cases k
 | n+1,_,_,_,.tup e h,k,r=>by
  cases r;obtain⟨its,rv,p1,_⟩:=I.tuple (SqT.of (g _ _ e));obtain⟨o,ho,hc,m,hd⟩:=p1;obtain⟨as,ra⟩:=aby I g h k rv;exact⟨_,.tuple ho hc hd (by simpa using ra)⟩
 | 0,_,_,_,.lst e h,k,r=>by cases k
 | n+1,_,_,_,.lst e h,k,r=>by
  cases r;obtain⟨its,rv,p1,_⟩:=I.list (SqL.of (g _ _ e));obtain⟨o,ho,hc,m,hd⟩:=p1.isList;obtain⟨as,ra⟩:=aby I g h k rv;exact⟨_,.list ho hc hd (by simpa using ra)⟩
 | 0,_,_,_,.kst e h,k,r=>by cases k
 | n+1,_,_,_,.kst e h,k,r=>by
  cases r;obtain⟨its,rv,p1,_⟩:=I.list (L2.Same.seq g e);obtain⟨o,ho,hc,m,hd⟩:=p1.isList;obtain⟨as,ra⟩:=aby I g h k rv;exact⟨_,.list ho hc hd (by simpa using ra)⟩
 | 0,_,_,_,.dct e h,k,r=>by cases k
 | n+1,_,_,_,.dct e h,k,r=>by cases k
 | 0,_,_,_,.exn ..,k,r=>by cases k
 | n+1,_,_,_,.exn ..,k,r=>by cases k
 | 0,_,_,_,.dtt ..,k,r=>by cases k
 | n+1,_,_,_,.dtt ..,k,r=>by cases k
theorem aby(I:Inv X qv σ H s)(g:Same F H):∀{n:Nat} {ds:List D} {vs:List V} {us:List aH},IsL X.K F ds vs->ds.all (okD n)=ZW->Vals vs us->∃as,ReadsAll s.heap us (acz ds) as
 | _,_,_,_,.nil,_,r=>by cases r;exact⟨_,.nil⟩
 | n,_,_,_,.cons h t,k,r=>by
  rw[lE,bL] at k;cases r with
  | cons r1 r2 =>
   obtain⟨as,ra⟩:=zc I g h k.1 r1;obtain⟨bs,rb⟩:=aby I g t k.2 r2;exact⟨_,.cons ra rb⟩
end
theorem aal(I:Inv X qv σ H s)(g:Same F H){n:Nat}{d:D}{v:V}{u:aH}(h:Bor X.K F H d v)(k:okD n d=ZW)(r:RelV v u):∃as,vQ s.heap u (toPy d) as:=by
 rcases h with h | ⟨a,vs,l,rfl,rfl,e,h⟩
 ·exact zc I g h k r
 ·cases r;cases n with
  | zero=>cases k
  | succ n =>
   obtain⟨its,rv,p1,_⟩:=I.list (SqL.of e);obtain⟨o,ho,hc,m,hd⟩:=p1.isList;obtain⟨as,ra⟩:=aby I g h k rv;exact⟨_,.list ho hc hd (by simpa using ra)⟩
end
def gEq(neg:Bool)(a b:D):Option Rv:=if okD 30 a&&okD 30 b then ZY (.v (.bl (if neg then !eqD a b else eqD a b))) else ZX
theorem ap6(hu:X.A.units+64 < cLine):OpD K X (fD .Eq) (gEq ZV):=OpD.mk λhk=>by
 intro qv s σ0 H x y v u Q I rx ry z9;obtain⟨tg,F,ρ,σ,d1,d2,r,G,b1,b2,eg,q⟩:=z9;subst hk;unfold gEq at eg;split at eg
 ·rename_i ho;rw[bL] at ho;cases eg;obtain⟨as,ra⟩:=aal I G.sub b1 ho.1 rx;obtain⟨bs,rb⟩:=aal I G.sub b2 ho.2 ry;obtain⟨c1,p1⟩:=abg _ _ ho.1;obtain⟨c2,p2⟩:=abg _ _ ho.2;exact PySem.SeqAt.compareEq_reads ra rb c1 c2 (by omega) ⟨.bl _,H,I,rfl,Res.same G q (.bl _)⟩
 ·cases eg
theorem ai5(hu:X.A.units+64 < cLine):OpD K X (fD .NotEq) (gEq ZW):=OpD.mk λhk=>by
 intro qv s σ0 H x y v u Q I rx ry z9;obtain⟨tg,F,ρ,σ,d1,d2,r,G,b1,b2,eg,q⟩:=z9;subst hk;unfold gEq at eg;split at eg
 ·rename_i ho;rw[bL] at ho;cases eg;obtain⟨as,ra⟩:=aal I G.sub b1 ho.1 rx;obtain⟨bs,rb⟩:=aal I G.sub b2 ho.2 ry;obtain⟨c1,p1⟩:=abg _ _ ho.1;obtain⟨c2,p2⟩:=abg _ _ ho.2;exact PySem.SeqAt.compareNe_reads ra rb c1 c2 (by omega) ⟨.bl _,H,I,rfl,Res.same G q (.bl _)⟩
 ·cases eg
noncomputable def itemsD:D->Option (List D)
 | .tup l=>ZY l
 | .lst l=>ZY l
 | .kst l=>ZY l
 | _=>ZX
def gIn(neg:Bool)(a b:D):Option Rv:=match itemsD b with
 | some l=>if okD 30 a&&l.all (okD 30) then ZY (.v (.bl (if neg then !l.any (λy=>eqD y a) else l.any (λy=>eqD y a)))) else ZX
 | none=>ZX
open Classical in
noncomputable def aac(h:fH)(dx:PyData)(u:aH):Bool:=decide (∃d as,vQ h u d as/\d.canLay0=ZW/\kI d dx=ZW)
open Classical in
theorem age{h:fH}{dx d:PyData}{u:aH}{as:List aY}(r:vQ h u d as)(c:d.canLay0=ZW):aac h dx u=kI d dx:=by
 unfold aac;cases e:kI d dx with
 | true=>exact decide_eq_true ⟨d,as,r,c,e⟩
 | false =>
  refine decide_eq_false ?_
  rintro⟨d',as',r',c',e'⟩
  rw[<-PySem.SeqAt.Reads.unique d d' u as as' c r r'] at e';rw[e] at e';cases e'
theorem ww{qv:List (aY×Obj)}{σ:L2.St}{F H:Hp}{s:aO}(I:Inv X qv σ H s)(g:Same F H){a:D}{n:Nat}:∀{ds:List D} {vs:List V} {us:List aH},IsL X.K F ds vs->ds.all (okD n)=ZW->Vals vs us ->
  us.any (aac s.heap (toPy a))=ds.any (λy=>eqD y a)/\∀u∈us,∃d as,vQ s.heap u d as/\d.canLay0=ZW/\d.depth<=n
 | _,_,_,.nil,_,r=>by cases r;exact⟨rfl,λu hu=>by cases hu⟩
 | _,_,_,.cons h t,k,r=>by
  rw[lE,bL] at k;cases r with
  | cons r1 r2 =>
   obtain⟨as,ra⟩:=zc I g h k.1 r1;obtain⟨c,p⟩:=abg _ _ k.1;obtain⟨e,z⟩:=ww I g (a:=a) t k.2 r2;refine⟨?_,λu hu =>?_⟩
   ·rw[tW,tW,e,age ra c];rfl
   ·rcases bG.mp hu with rfl | hu
    ·exact⟨_,as,ra,c,p⟩
    ·exact z u hu
theorem u6{s:aO}{A:eG}(hu:A.units+64 < cLine){us:List aH}{a:D}{v:aH}{as:List aY}(ra:vQ s.heap v (toPy a) as)(ka:okD 30 a=ZW)(z:∀u∈us,∃d as,vQ s.heap u d as/\d.canLay0=ZW/\d.depth<=30) :
  ∀u∈us,SeqAt.EqAt A.in1 s u v (aac s.heap (toPy a) u):=λu hm=>by
 obtain⟨d,bs,rb,c,p⟩:=z u hm;obtain⟨c2,p2⟩:=abg _ _ ka;rw[age rb c];refine uC d (toPy a) A.in1 s u v bs as rb ra c c2 ?_;show A.units+1+_ < _;omega
theorem amt{a b:D}{neg:Bool}{r:Rv}(h:gIn neg a b=ZY r):∃l,itemsD b=ZY l/\okD 30 a=ZW/\l.all (okD 30)=ZW/\r=.v (.bl (if neg then !l.any (λy=>eqD y a) else l.any (λy=>eqD y a))):=by
 unfold gIn at h;split at h
 ·rename_i l e;split at h
  ·rename_i ho;rw[bL] at ho;cases h;exact⟨l,e,ho.1,ho.2,rfl⟩
  ·cases h
 ·cases h
theorem agq{F H:Hp}{d:D}{l:List D}{x:V}(g:Same F H)(e:itemsD d=ZY l)(h:Bor K F H d x):∃a vs,x=.ref a/\IsL K F l vs/\(SqL K H a vs∨SqT K H a vs):=by
 cases d with
 | tup k =>
  cases e;obtain⟨a,vs,rfl,e,h⟩:=h.tup;exact⟨a,vs,rfl,h,.inr (SqT.of (g _ _ e))⟩
 | lst k =>
  cases e;obtain⟨a,vs,rfl,e,h⟩:=h.lst g;exact⟨a,vs,rfl,h,.inl (SqL.of e)⟩
 | kst k =>
  cases e;obtain⟨a,vs,rfl,e,h⟩:=h.kst;exact⟨a,vs,rfl,h,.inl (L2.Same.seq g e)⟩
 | _=>cases e
theorem a66(hu:X.A.units+64 < cLine):OpD K X (fD .In) (gIn ZV):=OpD.mk λhk=>by
 intro qv s σ0 H x y v u Q I rx ry z9;obtain⟨tg,F,ρ,σ,d1,d2,r,G,b1,b2,eg,q⟩:=z9;subst hk;obtain⟨l,e,k1,k2,rfl⟩:=amt eg;obtain⟨as,ra⟩:=aal I G.sub b1 k1 rx;obtain⟨p,vs,rfl,hl,hs⟩:=agq G.sub e b2;cases ry;rcases hs with hs | hs
 ·obtain⟨its,rv,pl,_⟩:=I.list hs;obtain⟨ea,z⟩:=ww I G.sub (a:=d1) hl k2 rv;refine SeqAt.in_listAt (aac s.heap (toPy d1)) pl.isList (λw hw=>u6 hu ra k1 z w (by simpa using hw)) ⟨.bl _,H,I,rfl,?_⟩
  rw[show its.toArray.any (aac s.heap (toPy d1))=its.any (aac s.heap (toPy d1)) by simp,ea]
  exact Res.same G q (.bl _)
 ·obtain⟨its,rv,pl,_⟩:=I.tuple hs;obtain⟨ea,z⟩:=ww I G.sub (a:=d1) hl k2 rv;refine SeqAt.in_tupleAt (aac s.heap (toPy d1)) pl (λw hw=>u6 hu ra k1 z w (by simpa using hw)) ⟨.bl _,H,I,rfl,?_⟩
  rw[show its.toArray.any (aac s.heap (toPy d1))=its.any (aac s.heap (toPy d1)) by simp,ea]
  exact Res.same G q (.bl _)
theorem abz(hu:X.A.units+64 < cLine):OpD K X (fD .NotIn) (gIn ZW):=OpD.mk λhk=>by
 intro qv s σ0 H x y v u Q I rx ry z9;obtain⟨tg,F,ρ,σ,d1,d2,r,G,b1,b2,eg,q⟩:=z9;subst hk;obtain⟨l,e,k1,k2,rfl⟩:=amt eg;obtain⟨as,ra⟩:=aal I G.sub b1 k1 rx;obtain⟨p,vs,rfl,hl,hs⟩:=agq G.sub e b2;cases ry;rcases hs with hs | hs
 ·obtain⟨its,rv,pl,_⟩:=I.list hs;obtain⟨ea,z⟩:=ww I G.sub (a:=d1) hl k2 rv;refine SeqAt.notIn_listAt (aac s.heap (toPy d1)) pl.isList (λw hw=>u6 hu ra k1 z w (by simpa using hw)) ⟨.bl _,H,I,rfl,?_⟩
  rw[show its.toArray.any (aac s.heap (toPy d1))=its.any (aac s.heap (toPy d1)) by simp,ea]
  exact Res.same G q (.bl _)
 ·obtain⟨its,rv,pl,_⟩:=I.tuple hs;obtain⟨ea,z⟩:=ww I G.sub (a:=d1) hl k2 rv;refine SeqAt.notIn_tupleAt (aac s.heap (toPy d1)) pl (λw hw=>u6 hu ra k1 z w (by simpa using hw)) ⟨.bl _,H,I,rfl,?_⟩
  rw[show its.toArray.any (aac s.heap (toPy d1))=its.any (aac s.heap (toPy d1)) by simp,ea]
  exact Res.same G q (.bl _)
end
end Dn
namespace Dn
open L2 Mn
section
variable{K:Fg9}{X:Cx}{e a b c:dH}{es:List dH}{pos p:Pos}
theorem aog:OpD K X (fO .FloorDiv) (gInt fDiv):=aof ayf λi j k h=>by
 unfold fDiv at h;split at h
 ·cases h;exact⟨by assumption,rfl⟩
 ·cases h
theorem aa7:OpD K X (fO .Mod) (gInt fMod):=aof a7b λi j k h=>by
 unfold fMod at h;split at h
 ·cases h;exact⟨by assumption,rfl⟩
 ·cases h
theorem a2u:OpD K X (fO .Pow) (gInt fPow):=aof a69 λi j k h=>by
 unfold fPow at h;split at h
 ·rename_i hc;cases h;exact⟨⟨hc.1,hc.2.1,hc.2.2⟩,rfl⟩
 ·cases h
def gMul:D->D->Option Rv
 | .int i,.int j=>(fMul i j).map λk=>.v (.int k)
 | .tup l,.int k=>if k=1 then ZY (.v (.tup l)) else if l≠[]/\2<=k/\k < 9223372036854775808/\l.length*k.toNat<=capS then ZY (.v (.tup (aP k.toNat l).flatten)) else ZX
 | .lst l,.int k=>if k.natAbs < 9223372036854775808/\l.length*k.toNat<=capS then ZY (.fr (aP k.toNat l).flatten) else ZX
 | _,_=>ZX
theorem ab0:OpD K X (fO .Mult) gMul:=OpD.mk λhk=>by
 intro qv s σ0 H x y v u Q I rx ry z9;obtain⟨tg,F,ρ,σ,d1,d2,r,G,b1,b2,eg,q⟩:=z9;subst hk;unfold gMul at eg;split at eg
 ·rename_i i j;obtain rfl:=b1.int;obtain rfl:=b2.int;unfold fMul at eg;split at eg
  ·rename_i hc;cases eg;exact a7a qv s σ0 H _ _ v u Q I rx ry ⟨_,_,rfl,rfl,hc,Res.same G q (.int _)⟩
  ·cases eg
 ·rename_i l k;split at eg
  ·rename_i hk1;subst hk1;cases eg;obtain⟨a1,vs1,rfl,s1,i1⟩:=b1.tup;obtain rfl:=b2.int;exact a2v qv s σ0 H _ _ v u Q I rx ry ⟨a1,vs1,rfl,rfl,G.sub _ _ s1,Res.same G q (.tup s1 i1)⟩
  split at eg
  ·rename_i hc;obtain⟨h0,h2,h3,hz⟩:=hc;cases eg;obtain⟨a1,vs1,rfl,s1,i1⟩:=b1.tup;obtain rfl:=b2.int;have l1:=i1.length;refine ayd qv s σ0 H _ _ v u Q I rx ry ⟨a1,vs1,k,rfl,rfl,G.sub _ _ s1,?_,h2,h3,by rw[<-l1];exact aib hz,λp hp=>Res.tup G q (i1.rep _) hp⟩
   intro z;subst z;cases i1;exact h0 rfl
  ·cases eg
 ·rename_i l k;split at eg
  ·rename_i hc;obtain⟨hab,hz⟩:=hc;have h0 : -9223372036854775808<=k:=by omega
   have h2:k < 9223372036854775808:=by omega
   cases eg;obtain⟨a1,vs1,rfl,s1,i1⟩:=b1.lst G.sub;obtain rfl:=b2.int;have l1:=i1.length;exact a68 qv s σ0 H _ _ v u Q I rx ry ⟨a1,k,vs1,rfl,rfl,s1,h0,h2,by rw[<-l1];exact aib hz,λp hp=>Res.lst G q (i1.rep _) hp⟩
  ·cases eg
 ·cases eg
def gCmp(f:Int->Int->Bool):D->D->Option Rv
 | .int i,.int j=>ZY (.v (.bl (f i j)))
 | _,_=>ZX
theorem aus{op:tZ}{f:Int->Int->Bool}(h:OpR X (fD op) (rI0 λi j=>.bl (f i j))):OpD K X (fD op) (gCmp f):=OpD.mk λhk=>by
 intro qv s σ0 H x y v u Q I rx ry z9;obtain⟨tg,F,ρ,σ,d1,d2,r,G,b1,b2,eg,q⟩:=z9;unfold gCmp at eg;split at eg
 ·cases eg;obtain rfl:=b1.int;obtain rfl:=b2.int;exact h qv s σ0 H _ _ v u Q I rx ry ⟨_,_,rfl,rfl,Res.same G q (.bl _)⟩
 ·cases eg
theorem auq:OpD K X (fD .Lt) (gCmp λi j=>decide (i < j)):=aus ba3
theorem aur:OpD K X (fD .GtE) (gCmp λi j=>decide (j<=i)):=aus ba4
noncomputable def gNeg:D->Option D
 | .int i=>ZY (.int (-i))
 | _=>ZX
def mUn(g:D->Option D)(m:M D):M D:=m.bind λd=>lift (g d)
theorem aq0{m:M D}(h:EV K X a m):EV K X (.UnaryOp .USub a pos) (mUn gNeg m):=EV.mk λhk=>PE.imp (ba0 a5k (h hk)) λσ H Q z9=>by
 obtain⟨tg,F,ρ,d,ρ',G,em,q⟩:=z9;obtain⟨d1,ρ1,e1,em⟩:=az em;obtain⟨e2,rfl⟩:=fu em;refine⟨tg,F,ρ,d1,_,G,e1,λv H' F' G' x r =>?_⟩
 cases d1 with
 | int i =>
  cases e2;cases r;exact⟨i,rfl,q _ H' F' G' x (.int _)⟩
 | _=>cases e2
noncomputable def asB:D->Option Bool
 | .bl b=>ZY b
 | _=>ZX
def gNot(d:D):Option D:=(asB d).map λk=>.bl (!k)
theorem arj{d:D}{k:Bool}(h:asB d=ZY k):d=.bl k:=by
 cases d with
 | bl b=>cases h;rfl
 | _=>cases h
theorem a01{m:M D}(h:EV K X a m):EV K X (.UnaryOp .Not a pos) (mUn gNot m):=EV.mk λhk=>PE.imp (a6s (h hk)) λσ H Q z9=>by
 obtain⟨tg,F,ρ,d,ρ',G,em,q⟩:=z9;obtain⟨d1,ρ1,e1,em⟩:=az em;obtain⟨e2,rfl⟩:=fu em;refine⟨tg,F,ρ,d1,_,G,e1,λv H' F' G' x r =>?_⟩
 cases d1 with
 | bl i =>
  cases e2;cases r;exact⟨i,rfl,q _ H' F' G' x (.bl _)⟩
 | _=>cases e2
def mAnd(m1 m2:M D):M D:=m1.bind λd=>(lift (asB d)).bind λk=>if k=ZW then m2 else ret (.bl ZV)
theorem aqz{op}{m:M D}(h:EV K X a m):EV K X (.BoolOp op [a] pos) m:=EV.mk λhk=>a6r (h hk)
theorem aq2{m1 m2:M D}{rest:List dH}(h1:EV K X a m1)(h2:EV K X (.BoolOp .And (b::rest) pos) m2):EV K X (.BoolOp .And (a::b::rest) pos) (mAnd m1 m2):=EV.mk λhk=>PE.imp (a6z (h1 hk) (h2 hk)) λσ H Q z9=>by
 obtain⟨tg,F,ρ,d,ρ',G,em,q⟩:=z9;obtain⟨d1,ρ1,e1,em⟩:=az em;obtain⟨k,ρ2,e2,em⟩:=az em;obtain⟨e3,rfl⟩:=fu e2;obtain rfl:=arj e3;refine⟨tg,F,ρ,_,_,G,e1,λv H' F' G' x r =>?_⟩
 cases r;refine⟨k,rfl,?_⟩;cases k with
 | true=>exact iteT ⟨tg,F',_,d,ρ',G',em,λv2 H2 F2 G2 x2 r2=>q v2 H2 F2 G2 (x.trans x2) r2⟩
 | false =>
  obtain⟨rfl,rfl⟩:=ji (show ret (D.bl ZV) _=_ from em)
  exact iteF (q _ H' F' G' x (.bl _))
def TB(K:Fg9)(m:M Bool):TT:=λσ H Q=>∃tg F ρ k ρ',Good K tg F H ρ σ/\m ρ=ZY (.ok k,ρ')/\∀H' F',Good K tg F' H' ρ' σ->Ext (Own ρ σ) (Own ρ' σ) F H F' H'->Q k H'
structure ET (K:Fg9) (X:Cx) (e:dH) (m:M Bool):Prop where
 go:X.K=K->PT X e (TB K m)
instance {K:Fg9} {X:Cx} {e:dH} {m:M Bool}:CoeFun (ET K X e m) λ_=>X.K=K->PT X e (TB K m):=⟨ET.go⟩
structure EW (K:Fg9) (X:Cx) (e:dH) (m:M Bool):Prop where
 go:X.K=K->PW X e (TB K m)
instance {K:Fg9} {X:Cx} {e:dH} {m:M Bool}:CoeFun (EW K X e m) λ_=>X.K=K->PW X e (TB K m):=⟨EW.go⟩
theorem PT.imp{t t':TT}(h:PT X e t)(w:∀σ H Q,t' σ H Q->t σ H Q):PT X e t':=λqv s σ H Q I q=>h qv s σ H Q I (w σ H Q q)
theorem PW.imp{t t':TT}(h:PW X e t)(w:∀σ H Q,t' σ H Q->t σ H Q):PW X e t':=λwh qv s σ H Q I q=>h wh qv s σ H Q I (w σ H Q q)
theorem EW.pt{m:M Bool}(h:EW K X e m):ET K X e m:=ET.mk λhk=>(h hk).pt
def aan(m:M D):M Bool:=m.bind λd=>lift (asB d)
theorem axi{m:M D}(σ:L2.St)(H:Hp)(Q:Bool->Hp->Prop)(t:TB K (aan m) σ H Q):tB (T K (relD K) m) σ H Q:=by
 obtain⟨tg,F,ρ,k,ρ',G,em,q⟩:=t;obtain⟨d1,ρ1,e1,em⟩:=az em;obtain⟨e3,rfl⟩:=fu em;obtain rfl:=arj e3;refine⟨tg,F,ρ,_,_,G,e1,λv H' F' G' x r =>?_⟩
 cases r;exact⟨k,rfl,q H' F' G' x⟩
theorem aet{m:M D}(h:EV K X e m)(he:∀whole,isTrue e X.env whole=(do let v <-whole;standAt e.pos;kW [v] (truthy v)):=by intro _;rfl):ET K X e (aan m):=ET.mk λhk=>PT.imp (a6j (h hk) he) axi
def mq(g:D->D->Option Rv)(m:M (D×D)):M Bool:=aan (mOp g m).d
theorem ql{op:tZ}{g:D->D->Option Rv}{m:M (D×D)}(ho:OpD K X (fD op) g)(h:E2 K X a b m)(hm:gW op b=ZV):ET K X (.Compare a [op] [b] pos) (mq g m):=ET.mk λhk=>by
 obtain⟨ta,tb,ha,hb,h⟩:=h hk;refine PT.imp (aud (ho hk) ha hb hm) λσ H Q t =>?_
 obtain⟨tg,F,ρ,k,ρ',G,em,q⟩:=t;obtain⟨d1,ρ1,e1,em⟩:=az em;obtain⟨e3,rfl⟩:=fu em;obtain rfl:=arj e3;obtain⟨r,ρ2,e1,em⟩:=az e1;obtain⟨er,rfl⟩:=ji em;refine ap7 h σ H _ ⟨tg,F,ρ,r,_,G,e1,λv H' F' G' x w =>?_⟩
 cases r with
 | v d =>
  have er:d=.bl k:=er;subst er;have w:Is K F' (.bl k) v:=w;cases w;exact⟨k,rfl,q H' F' G' x⟩
 | fr l=>cases er
 | tf d l=>cases er
def ahb(m:M Bool):M Bool:=m.bind λk=>ret (!k)
theorem aeu{m:M Bool}(h:ET K X a m):ET K X (.UnaryOp .Not a pos) (ahb m):=ET.mk λhk=>PT.imp (a6k (h hk)) λσ H Q z9=>by
 obtain⟨tg,F,ρ,k,ρ',G,em,q⟩:=z9;obtain⟨d1,ρ1,e1,em⟩:=az em;obtain⟨rfl,rfl⟩:=ji em;exact⟨tg,F,ρ,d1,_,G,e1,λH' F' G' x=>q H' F' G' x⟩
def a3i(m1 m2:M Bool):M Bool:=m1.bind λk=>if k=ZW then m2 else ret ZV
def mOrB(m1 m2:M Bool):M Bool:=m1.bind λk=>if k=ZW then ret ZW else m2
theorem a4b{m:M Bool}(h:ET K X a m):EW K X (.BoolOp .And [a] pos) m:=EW.mk λhk=>a2b (h hk)
theorem a00{m:M Bool}(h:ET K X a m):EW K X (.BoolOp .Or [a] pos) m:=EW.mk λhk=>a6f (h hk)
theorem a8p{m1 m2:M Bool}{rest:List dH}(h1:ET K X a m1)(h2:EW K X (.BoolOp .And (b::rest) pos) m2):EW K X (.BoolOp .And (a::b::rest) pos) (a3i m1 m2):=EW.mk λhk=>PW.imp (a6g (h1 hk) (h2 hk)) λσ H Q z9=>by
 obtain⟨tg,F,ρ,d,ρ',G,em,q⟩:=z9;obtain⟨k,ρ1,e1,em⟩:=az em;refine⟨tg,F,ρ,k,_,G,e1,λH' F' G' x =>?_⟩
 cases k with
 | true=>exact iteT ⟨tg,F',_,d,ρ',G',em,λH2 F2 G2 x2=>q H2 F2 G2 (x.trans x2)⟩
 | false =>
  obtain⟨rfl,rfl⟩:=ji (show ret ZV _=_ from em)
  exact iteF (q H' F' G' x)
theorem a8o{m1 m2:M Bool}{rest:List dH}(h1:ET K X a m1)(h2:EW K X (.BoolOp .Or (b::rest) pos) m2):EW K X (.BoolOp .Or (a::b::rest) pos) (mOrB m1 m2):=EW.mk λhk=>PW.imp (bav (h1 hk) (h2 hk)) λσ H Q z9=>by
 obtain⟨tg,F,ρ,d,ρ',G,em,q⟩:=z9;obtain⟨k,ρ1,e1,em⟩:=az em;refine⟨tg,F,ρ,k,_,G,e1,λH' F' G' x =>?_⟩
 cases k with
 | false=>exact iteF ⟨tg,F',_,d,ρ',G',em,λH2 F2 G2 x2=>q H2 F2 G2 (x.trans x2)⟩
 | true =>
  obtain⟨rfl,rfl⟩:=ji (show ret ZW _=_ from em)
  exact iteT (q H' F' G' x)
def al8(f g:Int->Int->Bool)(m1 m2 m3:M D):M D:=m1.bind λx=>m2.bind λy=>match x,y with
 | .int i,.int j=>if f i j=ZW then m3.bind λz=>match z with
  | .int k=>ret (.bl (g j k))
  | _=>lift ZX
  else ret (.bl ZV)
 | _,_=>lift ZX
theorem awo{f g:Int->Int->Bool}{m1 m2 m3:M D}(σ:L2.St)(H:Hp)(Q:VK)(t:T K (relD K) (al8 f g m1 m2 m3) σ H Q) :
  az7 (rI0 λi j=>.bl (f i j)) (rI0 λi j=>.bl (g i j)) (T K (relD K) m1) (T K (relD K) m2) (T K (relD K) m3) σ H Q:=by
 obtain⟨tg,F,ρ,d,ρ',G,em,q⟩:=t;obtain⟨d1,ρ1,e1,em⟩:=az em;obtain⟨d2,ρ2,e2,em⟩:=az em;have bad:∀{ρ:Ro},(lift (ZX:Option D)) ρ=ZY (.ok d,ρ')->False:=λz=>by
  obtain⟨z,_⟩:=fu z;cases z
 cases d1 with
 | int i =>
  cases d2 with
  | int j =>
   refine⟨tg,F,ρ,_,ρ1,G,e1,λv H1 F1 G1 x1 r1=>⟨tg,F1,ρ1,_,ρ2,G1,e2,λv2 H2 F2 G2 x2 r2 =>?_⟩⟩
   cases r1;cases r2;refine⟨i,j,rfl,rfl,f i j,rfl,?_⟩;have em:(if f i j=ZW then m3.bind λz=>match z with
    | .int k=>ret (.bl (g j k))
    | _=>lift ZX
    else ret (.bl ZV)) ρ2=ZY (.ok d,ρ'):=em
   by_cases hf:f i j=ZW
   ·rw[if_pos hf] at em ⊢
    obtain⟨d3,ρ3,e3,em⟩:=az em;refine⟨tg,F2,ρ2,d3,ρ3,G2,e3,λv3 H3 F3 G3 x3 r3 =>?_⟩
    cases d3 with
    | int k =>
     obtain⟨rfl,rfl⟩:=ji (show ret (D.bl (g j k)) _=_ from em)
     cases r3;exact⟨j,k,rfl,rfl,q _ H3 F3 G3 ((x1.trans x2).trans x3) (.bl _)⟩
    | _=>exact(bad em).elim
   ·rw[if_neg hf] at em ⊢
    obtain⟨rfl,rfl⟩:=ji em;exact q _ H2 F2 G2 (x1.trans x2) (.bl _)
  | _=>exact(bad em).elim
 | _=>cases d2 <;> exact(bad em).elim
theorem aq1{op op':tZ}{f g:Int->Int->Bool}{m1 m2 m3:M D}(ho:OpR X (fD op) (rI0 λi j=>.bl (f i j)))(ho':OpR X (fD op') (rI0 λi j=>.bl (g i j)))(h1:EV K X a m1)(h2:EV K X b m2)(h3:EV K X c m3)
  (hm:lastMarks [op,op'] [b,c]=ZV:=by with_unfolding_all rfl):EV K X (.Compare a [op,op'] [b,c] pos) (al8 f g m1 m2 m3):=EV.mk λhk=>PE.imp (ax6 ho ho' (h1 hk) (h2 hk) (h3 hk) hm) awo
def mIf{α:Type}(m:M Bool)(m1 m2:M α):M α:=m.bind λk=>if k=ZW then m1 else m2
theorem bb9{m:M Bool}{m1 m2:M Rv}(h:ET K X c m)(h1:ER K X a m1)(h2:ER K X b m2):ER K X (.IfExp c a b pos) (mIf m m1 m2):=ER.mk λhk=>PE.imp (ax3 (h hk) (h1 hk) (h2 hk)) λσ H Q z9=>by
 obtain⟨tg,F,ρ,d,ρ',G,em,q⟩:=z9;obtain⟨k,ρ1,e1,em⟩:=az em;refine⟨tg,F,ρ,k,_,G,e1,λH' F' G' x =>?_⟩
 have fin:∀{m':M Rv},m' ρ1=ZY (.ok d,ρ')->T K (relR K) m' σ H' Q:=λ{m'} e'=>⟨tg,F',ρ1,d,ρ',G',e',λv H2 F2 G2 x2 r2=>q v H2 F2 G2 (x.trans x2) (by
  cases d with
  | v d=>exact r2
  | fr l =>
   obtain⟨a,vs,ev,ha,w⟩:=r2;refine⟨a,vs,ev,?_,w⟩;rcases ha with ha | ha
   ·exact .inl (x.there a ha)
   ·exact(x.own a ha).symm
  | tf d l =>
   obtain⟨t,u,a,vs,ev,ht,hd,ha,w⟩:=r2;refine⟨t,u,a,vs,ev,ht,hd,?_,w⟩;rcases ha with ha | ha
   ·exact .inl (x.there a ha)
   ·exact(x.own a ha).symm)⟩
 cases k with
 | true=>exact iteT (fin em)
 | false=>exact iteF (fin em)
end
section
variable{K:Fg9}{X:Cx}{e a b c:dH}{es:List dH}{pos p p2:Pos}
def TL(K:Fg9)(m:M (List D)):TA:=λσ H Q=>∃tg F ρ ds ρ',Good K tg F H ρ σ/\m ρ=ZY (.ok ds,ρ')/\∀vs H' F',Good K tg F' H' ρ' σ->Ext (Own ρ σ) (Own ρ' σ) F H F' H'->IsL K F' ds vs->Q vs H'
structure ED (K:Fg9) (X:Cx) (es:List dH) (m:M (List D)):Prop where
 go:X.K=K->PA X es (TL K m)
instance {K:Fg9} {X:Cx} {es:List dH} {m:M (List D)}:CoeFun (ED K X es m) λ_=>X.K=K->PA X es (TL K m):=⟨ED.go⟩
theorem PA.imp{t t':TA}(h:PA X es t)(w:∀σ H Q,t' σ H Q->t σ H Q):PA X es t':=λps qv s σ H Q I q=>h ps qv s σ H Q I (w σ H Q q)
def mNil:M (List D):=ret []
def b7(m:M D)(ms:M (List D)):M (List D):=m.bind λd=>ms.bind λds=>ret (d::ds)
theorem cj:ED K X [] mNil:=ED.mk λ_=>PA.imp alx λσ H Q z9=>by
 obtain⟨tg,F,ρ,ds,ρ',G,em,q⟩:=z9;obtain⟨rfl,rfl⟩:=ji em;exact q [] H F G (Ext.refl _ _ _) .nil
theorem au{m:M D}{ms:M (List D)}(h:EV K X e m)(t:ED K X es ms)(hs:bA (e::es) X.env=(ZV,eval e X.env)::bA es X.env:=by rfl):ED K X (e::es) (b7 m ms):=ED.mk λhk=>PA.imp (aa6 (h hk) (t hk) hs) λσ H Q z9=>by
 obtain⟨tg,F,ρ,ds,ρ',G,em,q⟩:=z9;obtain⟨d,ρ1,e1,em⟩:=az em;obtain⟨r,ρ2,e2,em⟩:=az em;obtain⟨rfl,rfl⟩:=ji em;exact⟨tg,F,ρ,d,ρ1,G,e1,λv H1 F1 G1 x1 r1=>⟨tg,F1,ρ1,r,_,G1,e2,λvs H2 F2 G2 x2 r2=>q _ H2 F2 G2 (x1.trans x2) (.cons (r1.mono x2.sub) r2)⟩⟩
def gTup(ds:List D):Option D:=if ds.length<=capS then ZY (.tup ds) else ZX
def gLst(ds:List D):Option Rv:=if ds.length<=capS then ZY (.fr ds) else ZX
def mTup(m:M (List D)):M D:=m.bind λds=>lift (gTup ds)
def mLst(m:M (List D)):M Rv:=m.bind λds=>lift (gLst ds)
theorem ye{k}{m:M (List D)}(h:ED K X es m):EV K X (.Tuple es k pos) (mTup m):=EV.mk λhk=>PE.imp (a6q (h hk)) λσ H Q z9=>by
 obtain⟨tg,F,ρ,d,ρ',G,em,q⟩:=z9;obtain⟨ds,ρ1,e1,em⟩:=az em;obtain⟨e2,rfl⟩:=fu em;unfold gTup at e2;split at e2
 ·rename_i hz;cases e2;refine⟨tg,F,ρ,ds,_,G,e1,λvs H1 F1 G1 x1 r1=>⟨by rw[<-r1.length];exact aib hz,λp hp=>q _ _ _ (G1.new hp _) (x1.trans (G1.newX hp _)) (.tup di (r1.mono (Same.new (G1.freeF hp) _)))⟩⟩
 ·cases e2
theorem zm{m:M (List D)}(h:ED K X es m):ER K X (.List es pos) (mLst m):=ER.mk λhk=>PE.imp (a6u (h hk)) λσ H Q z9=>by
 obtain⟨tg,F,ρ,d,ρ',G,em,q⟩:=z9;obtain⟨ds,ρ1,e1,em⟩:=az em;obtain⟨e2,rfl⟩:=fu em;unfold gLst at e2;split at e2
 ·rename_i hz;cases e2;refine⟨tg,F,ρ,ds,_,G,e1,λvs H1 F1 G1 x1 r1=>⟨by rw[<-r1.length];exact aib hz,λp hp=>q _ _ _ (G1.fresh hp _) (x1.trans (G1.freshX hp _)) ⟨p,vs,rfl,.inl (x1.there p hp),G1.freeF hp,di,r1,λz=>G1.own_ne hp z rfl⟩⟩⟩
 ·cases e2
inductive BorL (K:Fg9) (F H:Hp):List D->List V->Prop
 | nil:BorL K F H [] []
 | cons {d:D} {v:V} {ds:List D} {vs:List V} (h:Bor K F H d v) (t:BorL K F H ds vs):BorL K F H (d::ds) (v::vs)
def TA'(K:Fg9)(m:M (List D)):TA:=λσ H Q=>∃tg F ρ ds ρ',Good K tg F H ρ σ/\m ρ=ZY (.ok ds,ρ')/\∀vs H' F',Good K tg F' H' ρ' σ->Ext (Own ρ σ) (Own ρ' σ) F H F' H'->BorL K F' H' ds vs->Q vs H'
structure EA (K:Fg9) (X:Cx) (es:List dH) (m:M (List D)):Prop where
 go:X.K=K->PA X es (TA' K m)
instance {K:Fg9} {X:Cx} {es:List dH} {m:M (List D)}:CoeFun (EA K X es m) λ_=>X.K=K->PA X es (TA' K m):=⟨EA.go⟩
def dw(i:Nat)(ms:M (List D)):M (List D):=(dj i).bind λ_=>ms.bind λds=>(dj i).bind λd=>ret (d::ds)
theorem dh:EA K X [] mNil:=EA.mk λ_=>PA.imp alx λσ H Q z9=>by
 obtain⟨tg,F,ρ,ds,ρ',G,em,q⟩:=z9;obtain⟨rfl,rfl⟩:=ji em;exact q [] H F G (Ext.refl _ _ _) .nil
theorem ea_v{m:M D}{ms:M (List D)}(h:EV K X e m)(t:EA K X es ms)(hs:bA (e::es) X.env=(ZV,eval e X.env)::bA es X.env:=by rfl):EA K X (e::es) (b7 m ms):=EA.mk λhk=>PA.imp (aa6 (h hk) (t hk) hs) λσ H Q z9=>by
 obtain⟨tg,F,ρ,ds,ρ',G,em,q⟩:=z9;obtain⟨d,ρ1,e1,em⟩:=az em;obtain⟨r,ρ2,e2,em⟩:=az em;obtain⟨rfl,rfl⟩:=ji em;exact⟨tg,F,ρ,d,ρ1,G,e1,λv H1 F1 G1 x1 r1=>⟨tg,F1,ρ1,r,_,G1,e2,λvs H2 F2 G2 x2 r2=>q _ H2 F2 G2 (x1.trans x2) (.cons (.inl (r1.mono x2.sub)) r2)⟩⟩
theorem ea_n{i:Nat}{ms:M (List D)}(h:PE X e (tVar i))(t:EA K X es ms)(hs:bA (e::es) X.env=(ZV,eval e X.env)::bA es X.env:=by rfl):EA K X (e::es) (dw i ms):=EA.mk λhk=>PA.imp (aa6 h (t hk) hs) λσ H Q z9=>by
 obtain⟨tg,F,ρ,ds,ρ',G,em,q⟩:=z9;obtain⟨d0,ρ0,e0,em⟩:=az em;obtain⟨r,ρ2,e2,em⟩:=az em;obtain⟨d,ρ1,e1,em⟩:=az em;obtain⟨rfl,rfl⟩:=ji em;obtain⟨rfl,v,hv,_⟩:=qx G e0;exact⟨v,hv,tg,F,ρ0,r,_,G,e2,λvs H2 F2 G2 x2 r2=>by
  obtain⟨rfl,v',hv',b'⟩:=qx G2 e1;rw[hv] at hv';cases hv';exact q _ H2 F2 G2 x2 (.cons b' r2)⟩
def rcOf(K:Fg9)(g:List D->Option Rv):List V->Hp->VK->Prop:=λvs H Q=>∃tg F ρ σ ds r,Good K tg F H ρ σ/\BorL K F H ds vs/\g ds=ZY r/\Res K tg F H ρ σ r Q
structure CallD (K:Fg9) (X:Cx) (f:aH) (g:List D->Option Rv):Prop where
 go:X.K=K->afw X f (rcOf K g)
instance {K:Fg9} {X:Cx} {f:aH} {g:List D->Option Rv}:CoeFun (CallD K X f g) λ_=>X.K=K->afw X f (rcOf K g):=⟨CallD.go⟩
def gb(g:List D->Option Rv)(m:M (List D)):M Rv:=m.bind λds=>lift (g ds)
theorem aak{O O1 O2:aY->Prop}{F H F1 H1 F2 H2:Hp}{r:Rv}{v:V}(x:Ext O O1 F H F1 H1)(h:relR K r v H1 O1 F2 H2 O2):relR K r v H O F2 H2 O2:=by
 cases r with
 | v d=>exact h
 | fr l =>
  obtain⟨a,vs,ev,ha,w⟩:=h;refine⟨a,vs,ev,?_,w⟩;rcases ha with ha | ha
  ·exact .inl (x.there a ha)
  ·exact(x.own a ha).symm
 | tf d l =>
  obtain⟨t,u,a,vs,ev,ht,hd,ha,w⟩:=h;refine⟨t,u,a,vs,ev,ht,hd,?_,w⟩;rcases ha with ha | ha
  ·exact .inl (x.there a ha)
  ·exact(x.own a ha).symm
theorem ard{g:List D->Option Rv}{m:M (List D)}(σ:L2.St)(H:Hp)(Q:VK)(t:T K (relR K) (gb g m) σ H Q):tCB (rcOf K g) (TA' K m) σ H Q:=by
 obtain⟨tg,F,ρ,r,ρ',G,em,q⟩:=t;obtain⟨ds,ρ1,e1,em⟩:=az em;obtain⟨e2,rfl⟩:=fu em;exact⟨tg,F,ρ,ds,_,G,e1,λvs H' F' G' x' bl=>⟨tg,F',_,σ,ds,r,G',bl,e2,λv H2 F2 G2 x2 rr=>q v H2 F2 G2 (x'.trans x2) (aak x' rr)⟩⟩
section
variable{x:Str}{id Ty:String}{g:List D->Option Rv}{m:M (List D)}
theorem b8(hc:CallD K X (.builtin id) g)(hg:Gl X x)(hm:X.mg x=ZX)(hv:cM x=ZY (.builtin id))(ha:EA K X (e::es) m)(hn:x ≠ "__name__" := by decide)(hdb:(x==("__debug__" : Str))=ZV:=by decide)
  (he:bA (e::es) X.env=(ZV,eval e X.env)::bA es X.env:=by rfl) (hpl:(jG pos (bA es X.env)).any (·.1)=ZV:=by rfl):ER K X (.Call (.Name x p) (e::es) [] pos) (gb g m):=ER.mk λhk=>PE.imp (ap5 (hc hk) hg hm hv (ha hk) hn hdb he hpl) ard
theorem ir(hc:CallD K X (.type Ty) g)(hg:Gl X x)(hm:X.mg x=ZX)(hv:cM x=ZY (.type Ty))(ha:EA K X (e::es) m)(hn:x ≠ "__name__" := by decide)(hdb:(x==("__debug__" : Str))=ZV:=by decide)
  (he:bA (e::es) X.env=(ZV,eval e X.env)::bA es X.env:=by rfl) (hpl:(jG pos (bA es X.env)).any (·.1)=ZV:=by rfl):ER K X (.Call (.Name x p) (e::es) [] pos) (gb g m):=ER.mk λhk=>PE.imp (aup (hc hk) hg hm hv (ha hk) hn hdb he hpl) ard
end
theorem BorL.one{F H:Hp}{d:D}{vs:List V}(h:BorL K F H [d] vs):∃v,vs=[v]/\Bor K F H d v:=by
 cases h with
 | cons h t=>cases t;exact⟨_,rfl,h⟩
theorem BorL.two{F H:Hp}{d d':D}{vs:List V}(h:BorL K F H [d,d'] vs):∃v v',vs=[v,v']/\Bor K F H d v/\Bor K F H d' v':=by
 cases h with
 | cons h t =>
  obtain⟨v',rfl,h'⟩:=t.one;exact⟨_,_,rfl,h,h'⟩
def g1(f:D->Option Rv):List D->Option Rv
 | [d]=>f d
 | _=>ZX
def g2(f:D->D->Option Rv):List D->Option Rv
 | [d,d']=>f d d'
 | _=>ZX
theorem cd_one{f:D->Option Rv}{w:aH} (h:X.K=K->∀(qv:List (aY×Obj)) (s:aO) (σ0:L2.St) (H:Hp) (x:V) (u:aH) (Q:VK) (tg:Nat->aY) (F:Hp) (ρ:Ro) (σ:L2.St) (d:D) (r:Rv),Inv X qv σ0 H s->RelV x u->Good K tg F H ρ σ->Bor K F H d x->f d=ZY r->Res K tg F H ρ σ r Q ->
  bT (cA X.prog X.w) X.A (call w [u]) (EP X qv σ0 Q) X.xe s):CallD K X w (g1 f):=CallD.mk λhk=>by
 intro qv s σ0 H xs us Q I r z9;obtain⟨tg,F,ρ,σ,ds,rv,G,bl,eg,q⟩:=z9
 match ds,eg with
 | [d],eg =>
  obtain⟨v,rfl,bv⟩:=bl.one;obtain⟨u,rfl,ru⟩:=vals1 r;exact h hk qv s σ0 H v u Q tg F ρ σ d rv I ru G bv eg q
theorem jw:CallD K X (.builtin "len") (g1 λd=>(itemsD d).map λl=>.v (.int l.length)):=cd_one λhk qv s σ0 H x u Q tg F ρ σ d r I ru G bd eg q=>by
 subst hk;cases e:itemsD d with
 | none=>rw[e] at eg;cases eg
 | some l =>
  rw[e] at eg;cases eg;obtain⟨a,vs,rfl,hl,hs⟩:=agq G.sub e bd;have q':=Res.same G q (.int _);rw[hl.length] at q';exact am4 qv s σ0 H [.ref a] [u] Q I (.cons ru .nil) ⟨a,vs,rfl,hs,q'⟩
noncomputable def abk:List D->Option (List Bool)
 | []=>ZY []
 | .bl b::r=>(abk r).map (b :: ·)
 | _::_=>ZX
theorem am9:∀{l:List D} {bs:List Bool},abk l=ZY bs->l=bs.map D.bl
 | [],_,h=>by cases h;rfl
 | .bl b::r,bs,h=>by
  have h':(abk r).map (b :: ·)=ZY bs:=h;cases e:abk r with
  | none=>rw[e] at h';cases h'
  | some t =>
   rw[e] at h';cases h';rw[am9 e];rfl
 | .non::_,_,h=>by cases h
 | .int _::_,_,h=>by cases h
 | .str _::_,_,h=>by cases h
 | .tup _::_,_,h=>by cases h
 | .lst _::_,_,h=>by cases h
 | .kst _::_,_,h=>by cases h
 | .dct _::_,_,h=>by cases h
@[simp] theorem ajl(bs:List Bool):abk (bs.map D.bl)=ZY bs:=by
 induction bs with
 | nil=>rfl
 | cons b r ih=>show(abk (r.map D.bl)).map (b :: ·)=_;rw[ih];rfl
def gAll:D->Option Rv
 | .lst l=>(abk l).map λbs=>.v (.bl (bs.all id))
 | _=>ZX
theorem awu(hc:X.calm=ZW):CallD K X (.builtin "all") (g1 gAll):=cd_one λhk qv s σ0 H x u Q tg F ρ σ d r I ru G bd eg q=>by
 subst hk;cases d with
 | lst l =>
  have eg:(abk l).map (λbs=>Rv.v (.bl (bs.all id)))=ZY r:=eg
  cases e:abk l with
  | none=>rw[e] at eg;cases eg
  | some bs =>
   rw[e] at eg;cases eg;obtain⟨a,vs,rfl,ea,hl⟩:=bd.lst G.sub;rw[am9 e] at hl;rw[hl.bl_inv] at ea;exact azt hc qv s σ0 H [.ref a] [u] Q I (.cons ru .nil) ⟨a,bs,rfl,SqL.of ea,Res.same G q (.bl _)⟩
 | _=>cases eg
def azd:D->Option Rv
 | .int i=>ZY (.v (.int i))
 | .bl k=>ZY (.v (.int (if k then 1 else 0)))
 | _=>ZX
theorem a8z:CallD K X (.type "int") (g1 azd):=cd_one λhk qv s σ0 H x u Q tg F ρ σ d r I ru G bd eg q=>by
 cases d with
 | int i =>
  cases eg;obtain rfl:=bd.int;exact am5 qv s σ0 H [_] [u] Q I (.cons ru .nil) (.inl ⟨i,rfl,Res.same G q (.int _)⟩)
 | bl k =>
  cases eg;obtain rfl:=bd.bl;exact am5 qv s σ0 H [_] [u] Q I (.cons ru .nil) (.inr ⟨k,rfl,Res.same G q (.int _)⟩)
 | _=>cases eg
theorem zq:CallD K X (.type "tuple") (g1 λd=>(itemsD d).map λl=>.v (.tup l)):=cd_one λhk qv s σ0 H x u Q tg F ρ σ d r I ru G bd eg q=>by
 subst hk;cases d with
 | tup l =>
  cases eg;obtain⟨a,vs,rfl,ea,hl⟩:=bd.tup;exact abe qv s σ0 H [_] [u] Q I (.cons ru .nil) ⟨a,vs,rfl,.inr ⟨SqT.of (G.sub _ _ ea),Res.same G q (.tup ea hl)⟩⟩
 | lst l =>
  cases eg;obtain⟨a,vs,rfl,ea,hl⟩:=bd.lst G.sub;exact abe qv s σ0 H [_] [u] Q I (.cons ru .nil) ⟨a,vs,rfl,.inl ⟨SqL.of ea,λp hp=>Res.tup G q hl hp⟩⟩
 | kst l =>
  cases eg;obtain⟨a,vs,rfl,ea,hl⟩:=bd.kst;exact abe qv s σ0 H [_] [u] Q I (.cons ru .nil) ⟨a,vs,rfl,.inl ⟨L2.Same.seq G.sub ea,λp hp=>Res.tup G q hl hp⟩⟩
 | _=>cases eg
theorem adx:CallD K X (.type "list") (g1 λd=>(itemsD d).map λl=>.fr l):=cd_one λhk qv s σ0 H x u Q tg F ρ σ d r I ru G bd eg q=>by
 subst hk;cases e:itemsD d with
 | none=>rw[e] at eg;cases eg
 | some l =>
  rw[e] at eg;cases eg;obtain⟨a,vs,rfl,hl,hs⟩:=agq G.sub e bd;exact am3 qv s σ0 H [_] [u] Q I (.cons ru .nil) ⟨a,vs,rfl,hs,λp hp=>Res.lst G q hl hp⟩
theorem a06{f:D->D->Option Rv}{w:aH} (h:X.K=K->∀(qv:List (aY×Obj)) (s:aO) (σ0:L2.St) (H:Hp) (x y:V) (u v:aH) (Q:VK) (tg:Nat->aY) (F:Hp) (ρ:Ro) (σ:L2.St) (d d':D) (r:Rv),Inv X qv σ0 H s->RelV x u->RelV y v->Good K tg F H ρ σ->Bor K F H d x->Bor K F H d' y->f d d'=ZY r->Res K tg F H ρ σ r Q ->
  bT (cA X.prog X.w) X.A (call w [u,v]) (EP X qv σ0 Q) X.xe s):CallD K X w (g2 f):=CallD.mk λhk=>by
 intro qv s σ0 H xs us Q I r z9;obtain⟨tg,F,ρ,σ,ds,rv,G,bl,eg,q⟩:=z9
 match ds,eg with
 | [d,d'],eg =>
  obtain⟨v,v',rfl,bv,bv'⟩:=bl.two;obtain⟨u,w,rfl,ru,rw'⟩:=vals2 r;exact h hk qv s σ0 H v v' u w Q tg F ρ σ d d' rv I ru rw' G bv bv' eg q
theorem a8y(hc:X.calm=ZW):CallD K X (.builtin "max") (g2 (gInt λi j=>ZY (if j > i then j else i))):=a06 λhk qv s σ0 H x y u v Q tg F ρ σ d d' r I ru rv G bd bd' eg q=>by
 unfold gInt at eg;split at eg
 ·cases eg;obtain rfl:=bd.int;obtain rfl:=bd'.int;exact aww hc qv s σ0 H [_,_] [u,v] Q I (.cons ru (.cons rv .nil)) ⟨_,_,rfl,Res.same G q (.int _)⟩
 ·cases eg
theorem am6:afw X (.builtin "divmod") (λxs H Q=>∃i j,xs=[.int i,.int j]/\(0 < j/\j < 1000000000000000000000000000000000000000000000000000000000000)/\∀p,H p=ZX->Q (.ref p) (upd H p (.tup [.int (i / j),.int (i % j)]))):=by
 intro qv s σ H xs us Q I r h;obtain⟨i,j,rfl,hj,q⟩:=h;obtain⟨u,w',rfl,⟨t,rfl⟩,⟨t',rfl⟩⟩:=vals2 r;have h1:=hj.1;refine divmod_int (by omega) ?_ (.inl (a7k hj.1 hj.2))
 rw[sE i (by omega),rZ i (by omega)]
 refine⟨.ref s.heap.objs.size,_,?_,rfl,q _ (I.hok.fresh (aM _))⟩;exact I.laid (λb o e=>aD _ e) (aM _) ⟨by simp only[aX,List.length_nil];rw[eV];decide,[.int (i / j) s.toks,.int (i % j) (s.toks+1)],.cons ⟨_,rfl⟩ (.cons ⟨_,rfl⟩ .nil),⟨_,aW s.heap rfl,rfl,rfl,0,rfl⟩⟩
def ak0:D->D->Option Rv
 | .int i,.int j=>if 0 < j/\j < 1000000000000000000000000000000000000000000000000000000000000 then ZY (.v (.tup [.int (i / j),.int (i % j)])) else ZX
 | _,_=>ZX
theorem awt:CallD K X (.builtin "divmod") (g2 ak0):=a06 λhk qv s σ0 H x y u v Q tg F ρ σ d d' r I ru rv G bd bd' eg q=>by
 unfold ak0 at eg;split at eg
 ·split at eg
  ·rename_i hc;cases eg;obtain rfl:=bd.int;obtain rfl:=bd'.int;exact am6 qv s σ0 H [_,_] [u,v] Q I (.cons ru (.cons rv .nil)) ⟨_,_,rfl,hc,λp hp=>Res.tup G q (.cons (.int _) (.cons (.int _) .nil)) hp⟩
  ·cases eg
 ·cases eg
inductive Ty where
 | int | bool | tuple | list | str | dict
noncomputable def Ty.nm:Ty->String
 | .int => "int" | .bool => "bool" | .tuple => "tuple" | .list => "list" | .str => "str" | .dict => "dict"
noncomputable def tyD:D->aH
 | .non=>.type "NoneType"
 | .bl _=>.type "bool"
 | .int _=>.type "int"
 | .str _=>.type "str"
 | .tup _=>.type "tuple"
 | .lst _=>.type "list"
 | .kst _=>.type "list"
 | .dct _=>.type "dict"
 | .exn _ _=>.type "NoneType"
 | .dtt _=>.type "dict"
noncomputable def isTy:Ty->D->Bool
 | .int,.int _=>ZW
 | .int,.bl _=>ZW
 | .bool,.bl _=>ZW
 | .tuple,.tup _=>ZW
 | .list,.lst _=>ZW
 | .list,.kst _=>ZW
 | .str,.str _=>ZW
 | .dict,.dct _=>ZW
 | .dict,.dtt _=>ZW
 | _,_=>ZV
theorem a0u(t:Ty)(d:D):pI K (tyD d) (.type t.nm)=ZY (isTy t d):=by
 cases d <;> cases t <;> kernel_rfl
theorem awx{X:Cx}:afw X (.builtin "isinstance") (λxs H Q=>∃F d x t,xs=[x,.ty (Ty.nm t)]/\Same F H/\Bor X.K F H d x/\Q (.bl (isTy t d)) H):=by
 intro qv s σ H xs us Q I r z9;obtain⟨F,d,x,t,e,g,h,q⟩:=z9;subst e;obtain⟨u,w',rfl,r1,r2⟩:=vals2 r;obtain rfl:w'=nG t.nm:=r2;have fin:∀tk,EP X qv σ Q (.bool (isTy t d)) { s with toks:=tk }:=λtk=>⟨.bl _,H,I.tok tk,rfl,q⟩
 have go:TyOf X.K H x (tyD d)->bT (cA X.prog X.w) X.A (call (.builtin "isinstance") [u,.type t.nm]) (EP X qv σ Q) X.xe s:=λty=>avj I r1 ty (a0u t d) fin
 cases d with
 | non=>obtain rfl:=h.non;exact go .non
 | bl b=>obtain rfl:=h.bl;exact go (.bl b)
 | int b=>obtain rfl:=h.int;exact go (.int b)
 | str b=>obtain rfl:=h.str;exact go (.str b)
 | tup b=>obtain⟨a,vs,rfl,e,_⟩:=h.tup;exact go (.tup (g _ _ e))
 | lst b=>obtain⟨a,vs,rfl,e,_⟩:=h.lst g;exact go (.lst e)
 | kst b =>
  obtain⟨a,vs,rfl,e,_⟩:=h.kst;cases(show u=dN a from r1)
  obtain⟨its,_,pl,_⟩:=I.list (L2.Same.seq g e);obtain⟨o,ho,hc,n,hd⟩:=pl.isList;exact eE qI I.kIn ⟨o,ho,hc⟩ (a0u t (.kst b)) (λz=>nomatch z) fin
 | dct b =>
  rcases h with h | ⟨a,vs,l',e1,_⟩
  ·cases h with
   | dct e h=>exact go (.dK (g _ _ e))
  ·cases e1
 | dtt b =>
  rcases h with h | ⟨a,vs,l',e1,_⟩
  ·cases h with
   | dtt e=>exact go (.dT (g _ _ e))
  ·cases e1
 | exn c fs =>
  rcases h with h | ⟨a,vs,l',e1,_⟩
  ·cases h with
   | @exn a C c dx fs e hc hk hf =>
    cases(show u=dN a from r1)
    obtain⟨⟨oe,ws,h1,h2,h3,h4⟩,_⟩:=(show yx X.prog X.w H s.heap a (.ext (exO a C dx)) from I.hok a _ (g _ _ e))
    have hno:xP oe=ZW:=by unfold xP;rw[h4]
    have ia:∃ox od,mZ s.heap a ox C od:=by
     rcases hf with⟨rfl,_⟩ | ⟨d,rfl,hd⟩
     ·exact⟨oe,ZX,h1,h2,hno,by rw[h3];trivial⟩
     ·obtain⟨mA,⟨od,_,_,e1,_⟩,_⟩:=(show yx X.prog X.w H s.heap d (.xd _) from I.hok d _ (g _ _ hd))
      exact⟨oe,ZY od,h1,h2,hno,by rw[h3];exact e1⟩
    have kq:pI X.K (.ref C) (.type t.nm)=ZY ZV:=by
     have h5:tG X.K (.ref C) (.type t.nm)=ZY ZV:=hk.no _ (by cases t <;> simp[Ty.nm])
     have h6:wU t.nm=ZW:=by cases t <;> kernel_rfl
     unfold pI PySem.W.kitCls;rw[if_neg (by simp)]
     show(if wU t.nm=ZW then tG X.K (.ref C) (.type t.nm) else ZX)=ZY ZV
     rw[if_pos h6];exact h5
    have e7:isTy t (.exn c fs)=ZV:=by cases t <;> rfl
    exact eE (ayz hk) I.kIn ia kq (λz=>nomatch z) λtk=>e7▸fin tk
  ·cases e1
def mIsi(t:Ty)(m:M D):M D:=m.bind λd=>ret (.bl (isTy t d))
theorem ajg{t:Ty}{tn:dH}{m:M D}{x:Str}(ht:PE X tn (tC (.ty t.nm)))(hg:Gl X x)(hm:X.mg x=ZX)(hv:cM x=ZY (.builtin "isinstance"))(h:EB K X e m)(hn:x ≠ "__name__" := by decide)(hdb:(x==("__debug__" : Str))=ZV:=by decide)
  (h1:bA [tn] X.env=(ZV,eval tn X.env)::bA [] X.env:=by rfl) (he:bA [e,tn] X.env=(ZV,eval e X.env)::bA [tn] X.env:=by rfl) (hpl:(jG pos (bA [tn] X.env)).any (·.1)=ZV:=by rfl) :
  EV K X (.Call (.Name x p) [e,tn] [] pos) (mIsi t m):=EV.mk λhk=>by
 refine PE.imp (ap5 awx hg hm hv (aa6 (h hk) (aa6 ht alx h1) he) hn hdb he hpl) λσ H Q z9 =>?_
 obtain⟨tg,F,ρ,d,ρ',G,em,q⟩:=z9;obtain⟨d1,ρ1,e1,em⟩:=az em;obtain⟨rfl,rfl⟩:=ji em;subst hk;exact⟨tg,F,ρ,d1,_,G,e1,λv H' F' G' x bv=>⟨F',d1,v,t,rfl,G'.sub,bv,q _ H' F' G' x (.bl _)⟩⟩
def gIx(d i:D):Option Rv:=match i with
 | .int k=>(itemsD d).bind λl=>(atI l k).map λx=>.v x
 | _=>ZX
theorem a86{F:Hp}{l:List D}{vs:List V}{k:Int}{d:D}(h:IsL K F l vs)(e:atI l k=ZY d):∃v,atI vs k=ZY v/\Is K F d v:=by
 unfold atI at e ⊢
 rw[h.length] at e;cases q:ixN vs.length k with
 | none=>rw[q] at e;cases e
 | some j =>
  rw[q] at e;obtain⟨v,e1,e2⟩:=h.get (i:=j) e;exact⟨v,e1,e2⟩
theorem ixd:X.K=K->IxR X (rOf K gIx):=λhk=>by
 intro value slice qv s σ0 H x y v u Q I rx ry z9 hs;obtain⟨tg,F,ρ,σ,d1,d2,r,G,b1,b2,eg,q⟩:=z9;subst hk;cases d2 with
 | int k =>
  have eg:(itemsD d1).bind (λl=>(atI l k).map λx=>Rv.v x)=ZY r:=eg
  cases e:itemsD d1 with
  | none=>rw[e] at eg;cases eg
  | some l =>
   rw[e] at eg;have eg:(atI l k).map (λx=>Rv.v x)=ZY r:=eg
   cases e2:atI l k with
   | none=>rw[e2] at eg;cases eg
   | some d =>
    rw[e2] at eg;cases eg;obtain⟨a,vs,rfl,hl,hq⟩:=agq G.sub e b1;obtain rfl:=b2.int;obtain⟨z,hz,iz⟩:=a86 hl e2;rcases hq with hq | hq
    ·exact a3o value slice qv s σ0 H _ _ v u Q I rx ry ⟨a,vs,k,z,rfl,rfl,hq,hz,Res.same G q iz⟩ hs
    ·exact a77 value slice qv s σ0 H _ _ v u Q I rx ry ⟨a,vs,k,z,rfl,rfl,hq,hz,Res.same G q iz⟩ hs
 | _=>cases eg
theorem kh{m:M (D×D)}(h:E2 K X a b m)(hs:apf b):ER K X (.Subscript a b pos) (mOp gIx m):=ER.mk λhk=>by
 obtain⟨ta,tb,ha,hb,h⟩:=h hk;exact PE.imp (a6v (ixd hk) ha hb hs) (ap7 h)
def TOp(K:Fg9)(m:M (Option Int)):TO:=λσ H Q=>∃tg F ρ o ρ',Good K tg F H ρ σ/\m ρ=ZY (.ok o,ρ')/\∀H' F',Good K tg F' H' ρ' σ->Ext (Own ρ σ) (Own ρ' σ) F H F' H'->Q o H'
structure EO (K:Fg9) (X:Cx) (e:Option dH) (m:M (Option Int)):Prop where
 go:X.K=K->PO X e (TOp K m)
instance {K:Fg9} {X:Cx} {e:Option dH} {m:M (Option Int)}:CoeFun (EO K X e m) λ_=>X.K=K->PO X e (TOp K m):=⟨EO.go⟩
theorem PO.imp{eo:Option dH}{t t':TO}(h:PO X eo t)(w:∀σ H Q,t' σ H Q->t σ H Q):PO X eo t':=λqv s σ H Q I q=>h qv s σ H Q I (w σ H Q q)
theorem av8:EO K X ZX (ret ZX):=EO.mk λ_=>PO.imp a2f λσ H Q z9=>by
 obtain⟨tg,F,ρ,o,ρ',G,em,q⟩:=z9;obtain⟨rfl,rfl⟩:=ji em;exact q H F G (Ext.refl _ _ _)
noncomputable def asI:D->Option Int
 | .int i=>ZY i
 | _=>ZX
theorem ae5{d:D}{k:Int}(h:asI d=ZY k):d=.int k:=by
 cases d with
 | int b=>cases h;rfl
 | _=>cases h
def asm(m:M D):M (Option Int):=m.bind λd=>lift ((asI d).map ZY)
theorem ak4{m:M D}(h:EV K X e m):EO K X (ZY e) (asm m):=EO.mk λhk=>PO.imp (a2e (h hk)) λσ H Q z9=>by
 obtain⟨tg,F,ρ,o,ρ',G,em,q⟩:=z9;obtain⟨d,ρ1,e1,em⟩:=az em;obtain⟨e2,rfl⟩:=fu em;refine⟨tg,F,ρ,d,_,G,e1,λv H' F' G' x r =>?_⟩
 cases d with
 | int i =>
  cases e2;cases r;exact⟨i,rfl,q H' F' G' x⟩
 | _=>cases e2
def cutD(l:List D)(lo hi:Option Int):List D:=(l.drop (HT.sIx l.length 0 lo)).take (HT.sIx l.length l.length hi - HT.sIx l.length 0 lo)
theorem awj{F:Hp}{l:List D}{vs:List V}(h:IsL K F l vs)(lo hi:Option Int):IsL K F (cutD l lo hi) (cutV vs lo hi):=by
 unfold cutD cutV;rw[h.length];exact(h.drop _).take _
def gCut(d:D)(lo hi:Option Int):Option Rv:=match d with
 | .tup l=>ZY (.v (.tup (cutD l lo hi)))
 | .lst l=>ZY (.fr (cutD l lo hi))
 | .kst l=>ZY (.fr (cutD l lo hi))
 | _=>ZX
def rsOf(K:Fg9):V->Option Int->Option Int->Hp->VK->Prop:=λx lo hi H Q=>∃tg F ρ σ d r,Good K tg F H ρ σ/\Bor K F H d x/\gCut d lo hi=ZY r/\Res K tg F H ρ σ r Q
theorem sld(hk:X.K=K):SlR X (rsOf K):=by
 intro qv s σ0 H x v vl vu lo hi sl Q I rx hs pl pu z9;obtain⟨tg,F,ρ,σ,d,r,G,bd,eg,q⟩:=z9;subst hk;cases d with
 | tup l =>
  cases eg;obtain⟨a,vs,rfl,ea,hl⟩:=bd.tup
  by_cases hw:HT.sIx vs.length 0 lo=0/\HT.sIx vs.length vs.length hi=vs.length
  ·have ec:cutD l lo hi=l:=by
    unfold cutD;rw[hl.length,hw.1,hw.2,xU,uJ,<-hl.length,qW]
   rw[ec] at q;cases rx;obtain⟨its,r,ht,hz⟩:=I.tuple (SqT.of (G.sub _ _ ea));have hlen:its.toArray.size=vs.length:=by rw[aU];exact r.length.symm
   refine⟨"tuple", _,eQ.lookup,ht.typeIs,?_⟩;exact adp ht hs pl pu (by rw[hlen];exact hw.1) (by rw[hlen];exact hw.2) ⟨.ref a,H,I,rfl,Res.same G q (.tup ea hl)⟩
  ·exact a5w qv s σ0 H _ v vl vu lo hi sl Q I rx hs pl pu ⟨a,vs,rfl,SqT.of (G.sub _ _ ea),hw,λp hp=>Res.tup G q (awj hl lo hi) hp⟩
 | lst l =>
  cases eg;obtain⟨a,vs,rfl,ea,hl⟩:=bd.lst G.sub;exact atu qv s σ0 H _ v vl vu lo hi sl Q I rx hs pl pu ⟨a,vs,rfl,SqL.of ea,λp hp=>Res.lst G q (awj hl lo hi) hp⟩
 | kst l =>
  cases eg;obtain⟨a,vs,rfl,ea,hl⟩:=bd.kst;exact atu qv s σ0 H _ v vl vu lo hi sl Q I rx hs pl pu ⟨a,vs,rfl,L2.Same.seq G.sub ea,λp hp=>Res.lst G q (awj hl lo hi) hp⟩
 | _=>cases eg
def au1(i:Nat)(ml mh:M (Option Int)):M Rv:=(dj i).bind λ_=>ml.bind λlo=>mh.bind λhi=>(dj i).bind λd=>lift (gCut d lo hi)
theorem ao4{i:Nat}{ml mh:M (Option Int)}{lo hi:Option dH}(h:PE X a (tVar i))(hl:EO K X lo ml)(hh:EO K X hi mh):ER K X (.Subscript a (.Slice lo hi ZX p2) pos) (au1 i ml mh):=ER.mk λhk=>PE.imp (ax2 (sld hk) h (hl hk) (hh hk)) λσ H Q z9=>by
 obtain⟨tg,F,ρ,r,ρ',G,em,q⟩:=z9;obtain⟨d0,ρ0,e0,em⟩:=az em;obtain⟨o1,ρ2,e2,em⟩:=az em;obtain⟨o2,ρ3,e3,em⟩:=az em;obtain⟨d,ρ4,e1,em⟩:=az em;obtain⟨e4,rfl⟩:=fu em;obtain⟨rfl,v,hv,_⟩:=qx G e0;refine⟨v,hv,tg,F,ρ0,o1,ρ2,G,e2,λH2 F2 G2 x2=>⟨tg,F2,ρ2,o2,_,G2,e3,λH3 F3 G3 x3 =>?_⟩⟩
 obtain⟨rfl,v',hv',b'⟩:=qx G3 e1;rw[hv] at hv';cases hv';exact⟨tg,F3,_,σ,d,r,G3,b',e4,λv' H4 F4 G4 x4 rr=>q v' H4 F4 G4 ((x2.trans x3).trans x4) (aak (x2.trans x3) rr)⟩
end
inductive Fl where
 | nx | ret (r:Rv) | brk | cont | exc (x:Exn)
abbrev Sd:=Ro->Option (Fl×Ro)
section
variable{K:Fg9}{X:Cx}{e a b c tgt:dH}{es:List dH}{pos p p2:Pos}{st:gU}{ss:List gU}
def FlOk(K:Fg9)(tg:Nat->aY)(ρ:Ro)(σ:L2.St)(F H:Hp)(E:Ends)(fl:Fl)(ρ':Ro):Prop:=match fl with
 | .nx=>∀σ' H' F',Good K tg F' H' ρ' σ'->Ext (Own ρ σ) (Own ρ' σ') F H F' H'->E.nx σ' H'
 | .brk=>∀σ' H' F',Good K tg F' H' ρ' σ'->Ext (Own ρ σ) (Own ρ' σ') F H F' H'->E.bk σ' H'
 | .cont=>∀σ' H' F',Good K tg F' H' ρ' σ'->Ext (Own ρ σ) (Own ρ' σ') F H F' H'->E.ct σ' H'
 | .ret r=>∀v σ' H' F',Good K tg F' H' ρ' σ'->Ext (Own ρ σ) (Own ρ' σ') F H F' H'->relR K r v H (Own ρ σ) F' H' (Own ρ' σ')->E.rt v H'
 | .exc _=>False
def TSd(K:Fg9)(g:Sd):TS:=λE σ H=>∃tg F ρ fl ρ',Good K tg F H ρ σ/\g ρ=ZY (fl,ρ')/\FlOk K tg ρ σ F H E fl ρ'
structure SV (K:Fg9) (X:Cx) (st:gU) (g:Sd):Prop where
 go:X.K=K->PS X st (TSd K g)
instance {K:Fg9} {X:Cx} {st:gU} {g:Sd}:CoeFun (SV K X st g) λ_=>X.K=K->PS X st (TSd K g):=⟨SV.go⟩
structure SVs (K:Fg9) (X:Cx) (ss:List gU) (g:Sd):Prop where
 go:X.K=K->PSs X ss (TSd K g)
instance {K:Fg9} {X:Cx} {ss:List gU} {g:Sd}:CoeFun (SVs K X ss g) λ_=>X.K=K->PSs X ss (TSd K g):=⟨SVs.go⟩
theorem PS.imp{t t':TS}(h:PS X st t)(w:∀E σ H,t' E σ H->t E σ H):PS X st t':=λqv s σ H E I q=>h qv s σ H E I (w E σ H q)
theorem PSs.imp{t t':TS}(h:PSs X ss t)(w:∀E σ H,t' E σ H->t E σ H):PSs X ss t':=λqv s σ H E I q=>h qv s σ H E I (w E σ H q)
theorem FlOk.back{tg:Nat->aY}{ρ ρ1 ρ':Ro}{σ σ1:L2.St}{F H F1 H1:Hp}{E:Ends}{fl:Fl}(x:Ext (Own ρ σ) (Own ρ1 σ1) F H F1 H1)(h:FlOk K tg ρ σ F H E fl ρ'):FlOk K tg ρ1 σ1 F1 H1 E fl ρ':=by
 cases fl with
 | nx=>exact λσ' H' F' G' x'=>h σ' H' F' G' (x.trans x')
 | brk=>exact λσ' H' F' G' x'=>h σ' H' F' G' (x.trans x')
 | cont=>exact λσ' H' F' G' x'=>h σ' H' F' G' (x.trans x')
 | ret r=>exact λv σ' H' F' G' x' rr=>h v σ' H' F' G' (x.trans x') (aak x rr)
 | exc _=>exact h
noncomputable def dNx:Sd:=λρ=>ZY (.nx,ρ)
noncomputable def dSeq(g k:Sd):Sd:=λρ=>match g ρ with
 | some (.nx,ρ1)=>k ρ1
 | r=>r
theorem kj:SVs K X [] dNx:=SVs.mk λ_=>PSs.imp aue λE σ H z9=>by
 obtain⟨tg,F,ρ,fl,ρ',G,em,q⟩:=z9;cases em;exact q σ H F G (Ext.refl _ _ _)
theorem aq{g:Sd}(h:SV K X st g):SVs K X [st] g:=SVs.mk λhk=>akd (h hk)
theorem ak{g k:Sd}(h:SV K X st g)(t:SVs K X ss k):SVs K X (st::ss) (dSeq g k):=SVs.mk λhk=>PSs.imp (ph (h hk) (t hk)) λE σ H z9=>by
 obtain⟨tg,F,ρ,fl,ρ',G,em,q⟩:=z9;unfold dSeq at em;split at em
 ·rename_i ρ1 e1;exact⟨tg,F,ρ,.nx,ρ1,G,e1,λσ' H' F' G' x=>⟨tg,F',ρ1,fl,ρ',G',em,q.back x⟩⟩
 ·rename_i hn;refine⟨tg,F,ρ,fl,ρ',G,em,?_⟩;cases fl with
  | nx=>exact absurd em (hn ρ')
  | brk=>exact q
  | cont=>exact q
  | ret r=>exact q
  | exc _=>exact q
theorem ajt:SV K X st (λ_=>ZX):=SV.mk λ_=>PS.imp axz λE σ H ⟨tg,F,ρ,fl,ρ',G,em,q⟩=>by cases em
noncomputable def dM{α:Type}(m:M α)(k:α->Sd):Sd:=λρ=>match m ρ with
 | some (.ok x,ρ1)=>k x ρ1
 | some (.exc x,ρ1)=>ZY (.exc x,ρ1)
 | none=>ZX
theorem u9{α:Type}{m:M α}{k:α->Sd}{ρ ρ':Ro}{fl:Fl}{P:Prop}(h:dM m k ρ=ZY (fl,ρ'))(hx:FlOk K tg ρ0 σ0 F0 H0 E0' fl ρ')(go:∀x ρ1,m ρ=ZY (.ok x,ρ1)->k x ρ1=ZY (fl,ρ')->P):P:=by
 unfold dM at h;split at h
 ·exact go _ _ (by assumption) h
 ·cases h;exact(show False from hx).elim
 ·cases h
noncomputable def dRet(m:M Rv):Sd:=dM m λr ρ=>ZY (.ret r,ρ)
theorem du{m:M Rv}(h:ER K X e m):SV K X (.Return (ZY e) pos) (dRet m):=SV.mk λhk=>PS.imp (a0h (h hk)) λE σ H ⟨tg,F,ρ,fl,ρ',G,em,q⟩=>u9 em q λr ρ1 e1 em=>by
 cases em;exact⟨tg,F,ρ,r,_,G,e1,λv H' F' G' x rr=>q v σ H' F' G' x rr⟩
noncomputable def dIf(m:M Bool)(g k:Sd):Sd:=dM m λz=>if z=ZW then g else k
theorem abl{m:M Bool}{g k:Sd}{ss':List gU}(h:ET K X c m)(h1:SVs K X ss g)(h2:SVs K X ss' k):SV K X (.If c ss ss' pos) (dIf m g k):=SV.mk λhk=>PS.imp (bay (h hk) (h1 hk) (h2 hk)) λE σ H ⟨tg,F,ρ,fl,ρ',G,em,q⟩=>u9 em q λz ρ1 e1 em=>by
 refine⟨tg,F,ρ,z,ρ1,G,e1,λH' F' G' x =>?_⟩
 cases z with
 | true=>exact iteT ⟨tg,F',ρ1,fl,ρ',G',em,q.back x⟩
 | false=>exact iteF ⟨tg,F',ρ1,fl,ρ',G',em,q.back x⟩
def adv{α:Type}(m:M α):Sd:=dM m λ_ ρ=>ZY (.nx,ρ)
theorem uo{m:M Rv}(h:ER K X e m)(hs:fY e ZX pos.line X.env=pure ZV:=by rfl):SV K X (.Expr e pos) (adv m):=SV.mk λhk=>PS.imp (aoc (h hk) hs) λE σ H ⟨tg,F,ρ,fl,ρ',G,em,q⟩=>u9 em q λr ρ1 e1 em=>by
 cases em;exact⟨tg,F,ρ,r,_,G,e1,λv H' F' G' x rr=>q σ H' F' G' x⟩
section
variable{tg:Nat->aY}{F H:Hp}{ρ:Ro}{σ:L2.St}
theorem ag1{i:Nat}{s:Sl}{v:V}{b:aY}(hl:ρ.length=σ.length)(h:Own (bB ρ i s) (bB σ i (ZY v)) b):Own ρ σ b∨((∃t l,s=.own t l)/\v=.ref b):=by
 obtain⟨j,⟨t,l,e⟩,q⟩:=h;rw[bC] at e q
 by_cases hj:i=j
 ·subst hj;rw[if_pos rfl] at e q;split at e
  ·rename_i hi;rw[if_pos (by rw[<-hl];exact hi)] at q
   cases e;cases q;exact .inr ⟨⟨t,l,rfl⟩,rfl⟩
  ·cases e
 ·rw[if_neg hj] at e q;exact .inl ⟨j,⟨t,l,e⟩,q⟩
theorem Good.put(G:Good K tg F H ρ σ){s:Sl}{v:V}(i:Nat)(h:SlOk K tg F H s (ZY v))(n:∀t l a,s=.own t l->v=.ref a->¬Own ρ σ a):Good K tg F H (bB ρ i s) (bB σ i (ZY v)) where
 sub:=G.sub
 len:=by rw[bW,bW];exact G.len
 sl:=λj s' o e q=>by
  rw[bC] at e q
  by_cases hj:i=j
  ·subst hj;rw[if_pos rfl] at e q;split at e
   ·rename_i hi;rw[if_pos (by rw[<-G.len];exact hi)] at q
    cases e;cases q;exact h
   ·cases e
  ·rw[if_neg hj] at e q;exact G.sl j s' o e q
 inj:=λj k a ⟨⟨t,l,e⟩,q⟩ ⟨⟨t',l',e'⟩,q'⟩=>by
  rw[bC] at e q e' q'
  by_cases hj:i=j
  ·subst hj;rw[if_pos rfl] at e q
   by_cases hk:i=k
   ·exact hk
   ·rw[if_neg hk] at e' q';split at e
    ·rename_i hi;rw[if_pos (by rw[<-G.len];exact hi)] at q
     cases e;cases q;exact absurd ⟨k,⟨t',l',e'⟩,q'⟩ (n t l a rfl rfl)
    ·cases e
  ·rw[if_neg hj] at e q
   by_cases hk:i=k
   ·subst hk;rw[if_pos rfl] at e' q';split at e'
    ·rename_i hi;rw[if_pos (by rw[<-G.len];exact hi)] at q'
     cases e';cases q';exact absurd ⟨j,⟨t,l,e⟩,q⟩ (n t' l' a rfl rfl)
    ·cases e'
   ·rw[if_neg hk] at e' q';exact G.inj j k a ⟨⟨t,l,e⟩,q⟩ ⟨⟨t',l',e'⟩,q'⟩
def Rv.sl:Rv->Sl
 | .v d=>.val d
 | .fr l=>.own ZX l
 | .tf _ _=>.emp
theorem Good.store{F0 H0:Hp}{O:aY->Prop}(G:Good K tg F H ρ σ)(x:Ext O (Own ρ σ) F0 H0 F H){r:Rv}{v:V}(i:Nat)(h:relR K r v H0 O F H (Own ρ σ)) :
  Good K tg F H (bB ρ i r.sl) (bB σ i (ZY v))/\Ext O (Own (bB ρ i r.sl) (bB σ i (ZY v))) F0 H0 F H:=by
 cases r with
 | v d =>
  refine⟨G.put i ⟨v,rfl,h⟩ (λt l a e=>by cases e),x.sub,x.new,x.keep,λb w =>?_,x.there⟩
  rcases ag1 G.len w with w | ⟨⟨t,l,e⟩,_⟩
  ·exact x.own b w
  ·cases e
 | fr l =>
  obtain⟨a,vs,rfl,ha,hf,hh,hl,hn⟩:=h;refine⟨G.put i ⟨a,vs,rfl,hf,hh,hl,λk e=>by cases e⟩ (λt l' b _ e2=>by cases e2;exact hn),x.sub,x.new,x.keep,λb w =>?_,x.there⟩
  rcases ag1 G.len w with w | ⟨_,e⟩
  ·exact x.own b w
  ·cases e;exact ha.symm
 | tf d l =>
  refine⟨G.put i trivial (λt l a e=>by cases e),x.sub,x.new,x.keep,λb w =>?_,x.there⟩
  rcases ag1 G.len w with w | ⟨⟨t,l,e⟩,_⟩
  ·exact x.own b w
  ·cases e
end
def dSet(i:Nat)(m:M Rv):Sd:=dM m λr ρ=>ZY (.nx,bB ρ i r.sl)
theorem dz{i:Nat}{x:Str}{m:M Rv}(hN:X.N.Nodup)(hi:X.N[i]? = ZY x)(hx:Loc X.env.scope x)(h:ER K X e m)(hs:fY e (ZY (.Name x p)) pos.line X.env=pure ZV:=by rfl)(hf:X.fn x=ZW∨X.env.scope.names.lookup x=ZY .local:=by first | exact .inl rfl | exact .inr rfl | assumption) :
  SV K X (.Assign [.Name x p] e pos) (dSet i m):=SV.mk λhk=>PS.imp (ag0 hN hi hx (h hk) hs hf) λE σ H ⟨tg,F,ρ,fl,ρ',G,em,q⟩=>u9 em q λr ρ1 e1 em=>by
 cases em;refine⟨tg,F,ρ,r,ρ1,G,e1,λv H' F' G' x rr =>?_⟩
 obtain⟨G2,x2⟩:=G'.store x i rr;exact q _ H' F' G2 x2
def TGd(K:Fg9)(b:D->Ro->Option Ro):TG:=λv σ H Q=>∃tg F ρ d ρ',Good K tg F H ρ σ/\Is K F d v/\b d ρ=ZY ρ'/\∀σ' H' F',Good K tg F' H' ρ' σ'->Ext (Own ρ σ) (Own ρ' σ') F H F' H'->Q σ' H'
structure GV (K:Fg9) (X:Cx) (e:dH) (b:D->Ro->Option Ro):Prop where
 go:X.K=K->PG X e (TGd K b)
instance {K:Fg9} {X:Cx} {e:dH} {b:D->Ro->Option Ro}:CoeFun (GV K X e b) λ_=>X.K=K->PG X e (TGd K b):=⟨GV.go⟩
theorem PG.imp{t t':TG}(h:PG X e t)(w:∀v σ H Q,t' v σ H Q->t v σ H Q):PG X e t':=λqv s σ H v u Q I r q=>h qv s σ H v u Q I r (w v σ H Q q)
def bj(i:Nat):D->Ro->Option Ro:=λd ρ=>ZY (bB ρ i (.val d))
theorem Good.storeV{tg:Nat->aY}{F H:Hp}{ρ:Ro}{σ:L2.St}(G:Good K tg F H ρ σ){d:D}{v:V}(i:Nat)(h:Is K F d v):Good K tg F H (bB ρ i (.val d)) (bB σ i (ZY v))/\Ext (Own ρ σ) (Own (bB ρ i (.val d)) (bB σ i (ZY v))) F H F H :=
 G.store (r:=.v d) (Ext.refl _ _ _) i h
theorem bw{i:Nat}{x:Str}(hN:X.N.Nodup)(hi:X.N[i]? = ZY x)(hx:Loc X.env.scope x)(hf:X.fn x=ZW∨X.env.scope.names.lookup x=ZY .local:=by first | exact .inl rfl | exact .inr rfl | assumption):GV K X (.Name x pos) (bj i):=GV.mk λ_=>PG.imp (aoe hN hi hx hf) λv σ H Q z9=>by
 obtain⟨tg,F,ρ,d,ρ',G,h,em,q⟩:=z9;cases em;obtain⟨G2,x2⟩:=G.storeV i h;exact q _ H F G2 x2
def TGsd(K:Fg9)(b:List D->Ro->Option Ro):TGs:=λvs σ H Q=>∃tg F ρ ds ρ',Good K tg F H ρ σ/\IsL K F ds vs/\b ds ρ=ZY ρ'/\∀σ' H' F',Good K tg F' H' ρ' σ'->Ext (Own ρ σ) (Own ρ' σ') F H F' H'->Q σ' H'
structure GVs (K:Fg9) (X:Cx) (es:List dH) (b:List D->Ro->Option Ro):Prop where
 go:X.K=K->PGs X es (TGsd K b)
instance {K:Fg9} {X:Cx} {es:List dH} {b:List D->Ro->Option Ro}:CoeFun (GVs K X es b) λ_=>X.K=K->PGs X es (TGsd K b):=⟨GVs.go⟩
theorem PGs.imp{t t':TGs}(h:PGs X es t)(w:∀v σ H Q,t' v σ H Q->t v σ H Q):PGs X es t':=λqv s σ H v u Q I r q=>h qv s σ H v u Q I r (w v σ H Q q)
noncomputable def bNil:List D->Ro->Option Ro:=λds ρ=>match ds with
 | []=>ZY ρ
 | _=>ZX
def je(b:D->Ro->Option Ro)(bs:List D->Ro->Option Ro):List D->Ro->Option Ro:=λds ρ=>match ds with
 | d::r=>(b d ρ).bind (bs r)
 | _=>ZX
theorem aaa:GVs K X [] bNil:=GVs.mk λ_=>PGs.imp auo λvs σ H Q z9=>by
 obtain⟨tg,F,ρ,ds,ρ',G,h,em,q⟩:=z9;cases ds with
 | nil=>cases em;cases h;exact⟨rfl,q σ H F G (Ext.refl _ _ _)⟩
 | cons _ _=>cases em
theorem ie{b:D->Ro->Option Ro}{bs:List D->Ro->Option Ro}(h1:GV K X e b)(h2:GVs K X es bs)(hs:(eX (e::es) X.env).map (·.2)=lG e X.env::(eX es X.env).map (·.2):=by rfl):GVs K X (e::es) (je b bs):=GVs.mk λhk=>PGs.imp (akh (h1 hk) (h2 hk) hs) λvs σ H Q z9=>by
 obtain⟨tg,F,ρ,ds,ρ',G,h,em,q⟩:=z9;cases h with
 | nil=>cases em
 | @cons d v ds vs hd ht =>
  have em:(b d ρ).bind (bs ds)=ZY ρ':=em;cases e1:b d ρ with
  | none=>rw[e1] at em;cases em
  | some ρ1 =>
   rw[e1] at em;exact⟨v,vs,rfl,tg,F,ρ,d,ρ1,G,hd,e1,λσ' H' F' G' x=>⟨tg,F',ρ1,ds,ρ',G',ht.mono x.sub,em,λσ2 H2 F2 G2 x2=>q σ2 H2 F2 G2 (x.trans x2)⟩⟩
def bTup(n:Nat)(bs:List D->Ro->Option Ro):D->Ro->Option Ro:=λd ρ=>match d with
 | .tup l=>if l.length=n then bs l ρ else ZX
 | _=>ZX
theorem ac6{k n:Nat}{bs:List D->Ro->Option Ro}(hc:X.calm=ZW)(h:GVs K X es bs)(hn:(eX es X.env).length=n:=by rfl)(hst:(eX es X.env).findIdx? (·.1)=ZX:=by rfl):GV K X (.Tuple es k pos) (bTup n bs):=GV.mk λhk=>PG.imp (a0k hc (h hk) hn hst) λv σ H Q z9=>by
 obtain⟨tg,F,ρ,d,ρ',G,hd,em,q⟩:=z9;cases hd with
 | @tup a vs ds e hl =>
  have em:(if ds.length=n then bs ds ρ else ZX)=ZY ρ':=em
  split at em
  ·rename_i hz;exact⟨a,vs,rfl,SqT.of (G.sub _ _ e),by rw[<-hl.length];exact hz,tg,F,ρ,ds,ρ',G,hl,em,q⟩
  ·cases em
 | _=>cases em
def dAsg(m:M D)(b:D->Ro->Option Ro):Sd:=dM m λd ρ=>(b d ρ).map λρ'=>(.nx,ρ')
theorem az8{m:M D}{b:D->Ro->Option Ro}(h:EV K X e m)(hg:GV K X tgt b)(hs:swapsWithSole [tgt] e pos.line X.env=pure ZV:=by rfl)(hw:swappedStores [tgt] e X.env=pure ZX:=by rfl)
  (h1:(eX [tgt] X.env).map (·.2)=[lG tgt X.env]:=by rfl):SV K X (.Assign [tgt] e pos) (dAsg m b):=SV.mk λhk=>PS.imp (ap1 (h hk) (hg hk) hs hw h1) λE σ H ⟨tg,F,ρ,fl,ρ',G,em,q⟩=>u9 em q λd ρ1 e1 em=>by
 refine⟨tg,F,ρ,d,ρ1,G,e1,λv H' F' G' x r =>?_⟩
 cases e2:b d ρ1 with
 | none=>rw[e2] at em;cases em
 | some ρ2 =>
  rw[e2] at em;cases em;exact⟨tg,F',ρ1,d,_,G',r,e2,λσ2 H2 F2 G2 x2=>q σ2 H2 F2 G2 (x.trans x2)⟩
theorem Good.mut{tg:Nat->aY}{F H:Hp}{ρ:Ro}{σ:L2.St}(G:Good K tg F H ρ σ){i:Nat}{t:Option Nat}{l l':List D}{a:aY}{ys:List V}(e:(ρ:List Sl)[i]? = ZY (.own t l))(q:σ[i]? = ZY (ZY (.ref a)))(h:IsL K F l' ys) :
  Good K tg F (upd H a (.lst ys)) (bB ρ i (.own t l')) σ/\Ext (Own ρ σ) (Own (bB ρ i (.own t l')) σ) F H F (upd H a (.lst ys)):=by
 obtain⟨a',vs,e1,hf,hh,hl,ht⟩:=G.sl i _ _ e q;cases e1;have ow:∀j b,Owns (bB ρ i (.own t l')) σ j b->Owns ρ σ j b:=λj b ⟨⟨t2,l2,e2⟩,q2⟩=>by
  rw[bC] at e2
  by_cases hj:i=j
  ·subst hj;exact⟨⟨t,l,e⟩,q2⟩
  ·rw[if_neg hj] at e2;exact⟨⟨t2,l2,e2⟩,q2⟩
 have me:Own ρ σ a:=⟨i,⟨t,l,e⟩,q⟩;refine⟨⟨λb o z =>?_,by rw[bW];exact G.len,λj s o e2 q2 =>?_,λj k b w1 w2=>G.inj j k b (ow _ _ w1) (ow _ _ w2)⟩,Same.refl F,λ_ _ z=>.inl z,λb o z n =>?_,λb ⟨j,w⟩=>.inl ⟨j,ow j b w⟩,λb z =>?_⟩
 ·have hb:b≠a:=λz2=>by
   subst z2;rw[hf] at z;cases z
  rw[bf hb];exact G.sub b o z
 ·rw[bC] at e2
  by_cases hj:i=j
  ·subst hj;rw[if_pos rfl] at e2;split at e2
   ·cases e2;rw[q] at q2;cases q2;exact⟨a,ys,rfl,hf,di,h,ht⟩
   ·cases e2
  ·rw[if_neg hj] at e2;have z:=G.sl j s o e2 q2;cases s with
   | emp=>trivial
   | val d=>exact z
   | lol ts=>exact z
   | lnk k=>exact z
   | box c fs =>
    obtain⟨b,C,dx,fvs,e1,e2,e3,e4⟩:=z;have hb:b≠a:=λz2=>by
     subst z2;rw[e3] at hh;cases hh
    exact⟨b,C,dx,fvs,e1,e2,by rw[bf hb];exact e3,e4⟩
   | own t2 l2 =>
    obtain⟨b,ws,e3,hf3,hh3,hl3,ht3⟩:=z;have hb:b≠a:=λz2=>by
     subst z2;exact hj (G.inj i j b ⟨⟨t,l,e⟩,q⟩ ⟨⟨t2,l2,e2⟩,by rw[q2,e3]⟩)
    exact⟨b,ws,e3,hf3,by rw[bf hb];exact hh3,hl3,ht3⟩
 ·have hb:b≠a:=λz2=>n (z2▸me)
  rw[bf hb];exact z
 ·by_cases hb:b=a
  ·subst hb;rw[di] at z;cases z
  ·rw[bf hb] at z;exact z
noncomputable def mOwn(i:Nat):M (List D):=λρ=>match ρ[i]? with
 | some (.own _ l)=>ZY (.ok l,ρ)
 | _=>ZX
theorem ag2{tg:Nat->aY}{F H:Hp}{ρ ρ':Ro}{σ:L2.St}(G:Good K tg F H ρ σ){i:Nat}{l:List D}(em:mOwn i ρ=ZY (.ok l,ρ')):ρ'=ρ/\∃t a xs,(ρ:List Sl)[i]? = ZY (.own t l)/\σ[i]? = ZY (ZY (.ref a))/\H a=ZY (.lst xs)/\IsL K F l xs:=by
 unfold mOwn at em;split at em
 ·rename_i t l' e';cases em;obtain⟨o,ho,a,vs,rfl,hf,hh,hl,_⟩:=G.at e';exact⟨rfl,t,a,vs,e',ho,hh,hl⟩
 ·cases em
noncomputable def aeh(i:Nat)(l':List D):M Unit:=λρ=>match ρ[i]? with
 | some (.own t _)=>ZY (.ok (),bB ρ i (.own t l'))
 | _=>ZX
def mMut(i:Nat)(g:List D->List D->Option (D×List D))(ms:M (List D)):M D:=(mOwn i).bind λ_=>ms.bind λds=>(mOwn i).bind λl=>(lift (g l ds)).bind λr=>(aeh i r.2).bind λ_=>ret r.1
def MutD(K:Fg9)(r:V->List V->Hp->VK->Prop)(g:List D->List D->Option (D×List D)):Prop :=
 ∀(F H:Hp) (a:aY) (xs vs:List V) (l ds:List D) (d:D) (l':List D) (Q:VK),Same F H->H a=ZY (.lst xs)->xs.length<=capS->IsL K F l xs->IsL K F ds vs->g l ds=ZY (d,l')->(∀v ys,Is K F d v->IsL K F l' ys->Q v (upd H a (.lst ys)))->r (.ref a) vs H Q
theorem aom{tg:Nat->aY}{F H:Hp}{ρ ρ2:Ro}{σ:L2.St}(G:Good K tg F H ρ σ){i:Nat}{l':List D}{u:Unit}{a:aY}{ys:List V}(e:aeh i l' ρ=ZY (.ok u,ρ2))(q:σ[i]? = ZY (ZY (.ref a)))(h:IsL K F l' ys) :
  Good K tg F (upd H a (.lst ys)) ρ2 σ/\Ext (Own ρ σ) (Own ρ2 σ) F H F (upd H a (.lst ys)):=by
 unfold aeh at e;split at e
 ·rename_i t l e';cases e;exact G.mut e' q h
 ·cases e
theorem af5{i:Nat}{name:Str}{id:String}{r:V->List V->Hp->VK->Prop}{g:List D->List D->Option (D×List D)}{ms:M (List D)}{apos cpos:Pos}(hr:MutD K r g)(slot:Slot "list" name id)(hty:typeOf (.builtin id)=pure (.type "method_descriptor"))(hm:MtR X id r)(ho:PE X a (tVar i))(ha:ED K X (e::es) ms)
  (hbase:jA a name X.env (eval a X.env)=eval a X.env:=by rfl)
  (hfew:((jG cpos (bA (e::es) X.env)).all (λx => !x.1)&&(backToKw cpos (keywordEach [] X.env)).all (λx=>x.1.isSome)
   && decide ((e::es).length+([]:List pM).length+(if ([]:List pM).isEmpty then 0 else 1) < 30))=ZW:=by rfl)
  (hline:(apos.endLine==cpos.line)=ZW:=by rfl) (hs:bA (e::es) X.env=(ZV,eval e X.env)::bA es X.env:=by rfl) (hplain:(jG cpos (bA es X.env)).any (·.1)=ZV:=by rfl) :
  EV K X (.Call (.Attribute a name apos) (e::es) [] cpos) (mMut i g ms):=EV.mk λhk=>by
 intro qv s σ H Q I z9;obtain⟨tg,F,ρ,d,ρ',G,em,q⟩:=z9;obtain⟨l0,ρ0,e0,em1⟩:=az em;obtain⟨ds,ρ1,e1,em2⟩:=az em1;obtain⟨l,ρ2,e2,em3⟩:=az em2;obtain⟨x,ρ3,e3,em4⟩:=az em3;obtain⟨u,ρ4,e4,em5⟩:=az em4;obtain⟨rfl,rfl⟩:=ji em5;obtain⟨eg,rfl⟩:=fu e3;obtain⟨rfl,t0,b,xs0,es0,hv,hh0,hl0⟩:=ag2 G e0;refine ax7 (r:=λx vs H Q=>(∀b xs,x=.ref b->H b=ZY (.lst xs)->xs.length<=capS)->r x vs H Q) oA slot hty (λqv s σ H x xs v us Q I rx rv h=>hm qv s σ H x xs v us Q I rx rv (h λb xs _ hb =>?_)) ho (ha hk) hbase hfew hline hs hplain qv s σ H Q I ?_
 ·obtain⟨z,_⟩:=I.lstM hb;rw[eV] at z;exact z
 refine⟨_,hv,.inl ⟨rfl,_,SqL.of hh0⟩,tg,F,ρ0,ds,ρ1,G,e1,λvs H1 F1 G1 x1 r1 cap =>?_⟩
 obtain⟨rfl,t,a',xs,es',hv',hh,hl⟩:=ag2 G1 e2;rw[hv] at hv';cases hv';refine hr F1 H1 _ xs vs l ds x.1 x.2 Q G1.sub hh (cap _ _ rfl hh) hl r1 eg λw ys iw il =>?_
 obtain⟨G2,x2⟩:=aom G1 e4 hv il;exact q w _ F1 G2 (x1.trans x2) iw
def yo(l ds:List D):Option (D×List D):=match ds with
 | [d]=>if l.length < capS then ZY (.non,l++[d]) else ZX
 | _=>ZX
theorem qg:MutD K auc yo:=by
 intro F H a xs vs l ds d l' Q g hh hc hl hd eg q
 match ds,eg with
 | [d1],eg =>
  have eg:(if l.length < capS then ZY (D.non,l++[d1]) else ZX)=ZY (d,l'):=eg
  split at eg
  ·rename_i hz;cases eg;cases hd with
   | cons h t =>
    cases t;exact⟨a,xs,_,rfl,rfl,hh,by rw[eV,<-hl.length];exact hz,q _ _ .non (hl.append (.cons h .nil))⟩
  ·cases eg
def dSub(i:Nat)(mi m:M D):Sd:=dM m λd=>dM (mOwn i) λ_=>dM mi λk=>dM (mOwn i) λl=>dM (lift ((asI k).bind (ixN l.length))) λj=>dM (aeh i (l.set j d)) λ_=>dNx
theorem afx{i:Nat}{mi m:M D}(h:EV K X e m)(ho:PE X a (tVar i))(hi:EV K X b mi)(hs:swapsWithSole [.Subscript a b p] e pos.line X.env=pure ZV:=by rfl)(hw:swappedStores [.Subscript a b p] e X.env=pure ZX:=by rfl)
  (h1:(eX [.Subscript a b p] X.env).map (·.2)=[lG (.Subscript a b p) X.env]:=by rfl)
  (ha:∀v,lG (.Subscript a b p) X.env v=(do
   let ov <-kW [v] (eval a X.env)
   let iv <-kW [v,ov] (eval b X.env)
   standAt p
   kW [v,ov,iv] (setItem ov iv v)
   release [v,ov,iv] []):=by intro _;rfl):SV K X (.Assign [.Subscript a b p] e pos) (dSub i mi m):=SV.mk λhk=>PS.imp (ap1 (h hk) (a0l ho (hi hk) set_list ha) hs hw h1) λE σ H ⟨tg,F,ρ,fl,ρ',G,em,q⟩ =>
 u9 em q λd ρ1 e1 em=>u9 em q λl0 ρ0 e0 em=>u9 em q λk ρ2 e2 em=>u9 em q λl ρ3 e3 em=>u9 em q λj ρ4 e4 em=>u9 em q λu ρ5 e5 em=>by
 cases em;obtain⟨e6,rfl⟩:=fu e4;refine⟨tg,F,ρ,d,ρ1,G,e1,λv H1 F1 G1 x1 r1 =>?_⟩
 obtain⟨rfl,t0,a0,xs0,es0,hv,hh0,hl0⟩:=ag2 G1 e0;refine⟨_,hv,tg,F1,_,k,ρ2,G1,e2,λw H2 F2 G2 x2 r2 =>?_⟩
 obtain⟨rfl,t,a1,xs,es1,hv',hh,hl⟩:=ag2 G2 e3;rw[hv] at hv';cases hv';cases ek:asI k with
 | none=>rw[ek] at e6;cases e6
 | some n =>
  rw[ek] at e6;obtain rfl:=ae5 ek;cases r2;obtain⟨G3,x3⟩:=aom G2 e5 hv (hl.set (r1.mono x2.sub) j);exact⟨_,xs,n,j,rfl,rfl,hh,by rw[<-hl.length];exact e6,q _ _ F2 G3 ((x1.trans x2).trans x3)⟩
def dAug(f:Int->Int->Int)(i:Nat)(m:M D):Sd:=dM (mVar i) λx=>dM m λy=>dM (lift ((asI x).bind λn=>(asI y).map λk=>D.int (f n k))) λz ρ=>ZY (.nx,bB ρ i (.val z))
theorem a5r{f:Int->Int->Int}{op:mX}{i:Nat}{x:Str}{m:M D}(hN:X.N.Nodup)(hi:X.N[i]? = ZY x)(hx:Loc X.env.scope x)(h:EV K X e m)(ho:PIp X op (ipI f))(hf:X.fn x=ZW∨X.env.scope.names.lookup x=ZY .local:=by first | exact .inl rfl | exact .inr rfl | assumption) :
  SV K X (.AugAssign (.Name x p) op e pos) (dAug f i m):=SV.mk λhk=>PS.imp (a6m hN hi hx (h hk) ho hf) λE σ H ⟨tg,F,ρ,fl,ρ',G,em,q⟩=>u9 em q λd ρ1 e1 em=>u9 em q λd2 ρ2 e2 em=>u9 em q λz ρ3 e3 em=>by
 cases em;obtain⟨e4,rfl⟩:=fu e3;cases ed:asI d with
 | none=>rw[ed] at e4;cases e4
 | some n =>
  rw[ed] at e4;obtain rfl:=ae5 ed;cases ed2:asI d2 with
  | none=>rw[ed2] at e4;cases e4
  | some k =>
   rw[ed2] at e4;obtain rfl:=ae5 ed2;cases e4;unfold mVar at e1;split at e1
   ·rename_i d' es';cases e1;obtain⟨o,ho',v,rfl,hv⟩:=G.at es';cases hv;refine⟨_,ho',tg,F,ρ,_,_,G,e2,λy H1 F1 G1 x1 r1 =>?_⟩
    cases r1;obtain⟨G2,x2⟩:=G1.storeV i (Is.int (f n k));exact⟨n,k,rfl,rfl,q _ H1 F1 G2 (x1.trans x2)⟩
   ·cases e1
   ·cases e1
end
section
variable{K:Fg9}{X:Cx}{e a b c tgt iter elt:dH}{es:List dH}{pos p p2:Pos}{st:gU}{ss:List gU}
theorem _root_.Mn.ItOf.imp{J:It}{xs:List V}{S S':Hp->Prop}(Z:ItOf J xs S)(h:∀H,S' H->S H):ItOf J xs S':=⟨λi H q=>Z.go i H (h H q),λi H x H' q=>Z.yld i H x H' (h H q),λi H q=>Z.stop i H (h H q)⟩
def Alt(K:Fg9)(F:Hp)(d:D)(x:V)(H H':Hp):Prop:=(H'=H/\Is K F d x)∨∃q vs ds,H q=ZX/\x=.ref q/\H'=upd H q (.tup vs)/\d=.tup ds/\IsL K F ds vs
structure ItD (K:Fg9) (J:It) (l:List D) (F:Hp):Prop where
 go:∀i H,Same F H->i < l.length->J.go i H
 yld:∀i H x H' d,Same F H->J.yld i H x H'->l[i]? = ZY d->Alt K F d x H H'
 stop:∀H,Same F H->J.stop l.length H
theorem ItD.of{J:It}{l:List D}{vs:List V}{F:Hp}(il:IsL K F l vs)(Z:ItOf J vs λH2=>Same F H2):ItD K J l F where
 go:=λi H s hi=>Z.go i H s (by rw[<-il.length];exact hi)
 yld:=λi H x H' d s y hd=>by
  obtain⟨v,hv,iv⟩:=il.get hd;obtain⟨e,z⟩:=Z.yld i H x H' s y;have:=z (aQ.mp hv).1;rw[hv] at this;cases this;exact .inl ⟨e,iv⟩
 stop:=λH s=>Z.stop _ H s (by rw[<-il.length];exact aM _)
theorem ark{tg:Nat->aY}{O:aY->Prop}{F H F1 F2 H2 H3:Hp}{ρ2:Ro}{σ2:L2.St}{d:D}{x:V}(G2:Good K tg F2 H2 ρ2 σ2)(x2:Ext O (Own ρ2 σ2) F H F2 H2)(s2:Same F1 F2)(a:Alt K F1 d x H2 H3) :
  ∃F3,Good K tg F3 H3 ρ2 σ2/\Ext O (Own ρ2 σ2) F H F3 H3/\Same F1 F3/\Is K F3 d x/\Ext (Own ρ2 σ2) (Own ρ2 σ2) F2 H2 F3 H3:=by
 rcases a with⟨rfl,id⟩ | ⟨q,vs,ds,hq,rfl,rfl,rfl,il⟩
 ·exact⟨F2,G2,x2,s2,id.mono s2,Ext.refl _ _ _⟩
 ·have z:=G2.newX hq (.tup vs);exact⟨_,G2.new hq _,x2.trans z,s2.trans z.sub,.tup di (il.mono (s2.trans z.sub)),z⟩
theorem a4a{J:It}{l:List D}{F:Hp}(Z:ItD K J l F){g:TG}{tb:TS}{D':Ends}{σ:L2.St}{H:Hp}(Pv:Nat->L2.St->Hp->Prop)(h0:Pv 0 σ H)(hl:∀i σ H,i<=l.length->Pv i σ H->Same F H)
  (hs:∀i d x σ H H',l[i]? = ZY d->Pv i σ H->Alt K F d x H H'->g x σ H' λσ2 H2=>tb { D' with nx:=Pv (i+1),ct:=Pv (i+1),bk:=D'.nx } σ2 H2) (hd:∀σ H,Pv l.length σ H->D'.nx σ H) :
  ∃W:Nat->Nat->L2.St->Hp->Prop,(∃m,W 0 m σ H)/\∀i m σ H,W i m σ H ->
   (J.stop i H/\D'.nx σ H)∨(J.go i H/\∃N:L2.St->Hp->Prop,(∀σ' H',N σ' H'->∃m',m' < m/\W (i+1) m' σ' H')/\∀x H',J.yld i H x H'->g x σ H' λσ2 H2=>tb { D' with nx:=N,ct:=N,bk:=D'.nx } σ2 H2):=by
 refine⟨λi m σ H=>m=l.length - i/\i<=l.length/\Pv i σ H,⟨l.length,by simp,fG _,h0⟩,?_⟩
 rintro i m σ H ⟨rfl,hi,p⟩
 have q:=hl i σ H hi p
 by_cases hlt:i < l.length
 ·exact .inr ⟨Z.go i H q hlt,Pv (i+1),λσ' H' p'=>⟨l.length - (i+1),by omega,rfl,hlt,p'⟩,λx H' y=>hs i _ x σ H H' (aC hlt) p (Z.yld i H x H' _ q y (aC hlt))⟩
 ·have e:i=l.length:=by omega
  subst e;exact .inl ⟨Z.stop H q,hd σ H p⟩
theorem azo{J:It}{l:List D}{F:Hp}(Z:ItD K J l F){d:aY}{g:TG}{ti:TT}{te:TE}{Q:VK}{σ0:L2.St}{H1:Hp}(Pv:Nat->List V->L2.St->Hp->Prop)(h0:Pv 0 [] σ0 (upd H1 d (.lst [])))
  (hl:∀i ys σ H,i<=l.length->Pv i ys σ H->Same F H/\H d=ZY (.lst ys))
  (hs:∀i e x ys σ H H' (M:List V->L2.St->Hp->Prop),l[i]? = ZY e->Pv i ys σ H->Alt K F e x H H'->(∀ys' σ' H',Pv (i+1) ys' σ' H'->M ys' σ' H') ->
   g x σ H' λσ4 H4=>ti σ4 H4 λb H5=>if b=ZW then te σ4 H5 λy H6=>H6 d=ZY (.lst ys)/\ys.length < cO/\M (ys++[y]) σ4 (upd H6 d (.lst (ys++[y]))) else M ys σ4 H5)
  (hd:∀ys σ H,Pv l.length ys σ H->Q (.ref d) H):a9b J g ti te Q d σ0 H1:=by
 refine⟨λi m ys σ H=>m=l.length - i/\i<=l.length/\Pv i ys σ H,⟨l.length,by simp,fG _,h0⟩,?_⟩
 rintro i m ys σ H ⟨rfl,hi,p⟩
 obtain⟨q,e⟩:=hl i ys σ H hi p;refine⟨e,?_⟩
 by_cases hlt:i < l.length
 ·exact .inr ⟨Z.go i H q hlt,λx H' y=>hs i _ x ys σ H H' (λys' σ' H'=>∃m',m' < l.length - i/\(m'=l.length - (i+1)/\i+1<=l.length/\Pv (i+1) ys' σ' H')) (aC hlt) p (Z.yld i H x H' _ q y (aC hlt)) λys' σ' H' p'=>⟨l.length - (i+1),by omega,rfl,hlt,p'⟩⟩
 ·have e:i=l.length:=by omega
  subst e;exact .inl ⟨Z.stop H q,hd ys σ H p⟩
def TIt(K:Fg9)(m:M (List D)):TI:=λσ H R=>∃tg F ρ l ρ',Good K tg F H ρ σ/\m ρ=ZY (.ok l,ρ')/\∀J H' F',Good K tg F' H' ρ' σ->Ext (Own ρ σ) (Own ρ' σ) F H F' H'->ItD K J l F'->R J H'
structure IT (K:Fg9) (X:Cx) (tgt iter:dH) (m:M (List D)):Prop where
 go:X.K=K->PI X tgt iter (TIt K m)
instance {K:Fg9} {X:Cx} {tgt iter:dH} {m:M (List D)}:CoeFun (IT K X tgt iter m) λ_=>X.K=K->PI X tgt iter (TIt K m):=⟨IT.go⟩
def qi(m:M D):M (List D):=m.bind λd=>lift (itemsD d)
theorem vy{m:M D}(h:EV K X iter m):IT K X tgt iter (qi m):=IT.mk λhk=>by
 intro qv s σ H R I z9;obtain⟨tg,F,ρ,l,ρ',G,em,q⟩:=z9;obtain⟨d,ρ1,e1,em⟩:=az em;obtain⟨e2,rfl⟩:=fu em;have h:=h hk;subst hk;cases d with
 | tup k =>
  cases e2;refine a6o h qv s σ H R I ⟨tg,F,ρ,_,_,G,e1,λv H' F' G' x r =>?_⟩
  cases r with
  | @tup a vs _ e hl=>exact⟨a,rfl,⟨vs,SqT.of (G'.sub _ _ e)⟩,q _ H' F' G' x (.of hl (ay4.imp λH2 g=>SqT.of (g _ _ e)))⟩
 | lst k =>
  cases e2;refine aun h qv s σ H R I ⟨tg,F,ρ,_,_,G,e1,λv H' F' G' x r =>?_⟩
  cases r with
  | @lst a vs _ e hl=>exact⟨a,rfl,⟨vs,SqL.of (G'.sub _ _ e)⟩,q _ H' F' G' x (.of hl (aql.imp λH2 g=>SqL.of (g _ _ e)))⟩
 | kst k =>
  cases e2;refine aun h qv s σ H R I ⟨tg,F,ρ,_,_,G,e1,λv H' F' G' x r =>?_⟩
  cases r with
  | @kst a vs _ e hl=>exact⟨a,rfl,⟨vs,L2.Same.seq G'.sub e⟩,q _ H' F' G' x (.of hl (aql.imp λH2 g=>L2.Same.seq g e))⟩
 | _=>cases e2
noncomputable def rangeD(lo:Int)(n:Nat):List D:=(aJ n).map λi=>D.int (lo+(i:Nat))
theorem ap0{F:Hp}(lo:Int)(n:Nat):IsL K F (rangeD lo n) (ups lo n):=by
 have e1:rangeD lo n=((aJ n).map λi=>lo+((i:Nat):Int)).map D.int:=by unfold rangeD;rw[cL];rfl
 have e2:ups lo n=((aJ n).map λi=>lo+((i:Nat):Int)).map V.int:=by unfold ups;rw[cL];rfl
 rw[e1,e2];exact ael _
theorem as7{j:Int}(h:j.natAbs < 4611686018427387904) : -2 ^ 62<=j/\j < 2 ^ 62:=by
 have e:(2:Int) ^ 62=4611686018427387904:=by decide
 rw[e];omega
def qb:List D->Option (List D)
 | [.int j]=>if j.natAbs < 4611686018427387904 then ZY (rangeD 0 j.toNat) else ZX
 | _=>ZX
def aky:List D->Option (List D)
 | [.int i,.int j]=>if i.natAbs < 4611686018427387904/\j.natAbs < 4611686018427387904 then ZY (rangeD i (j - i).toNat) else ZX
 | _=>ZX
def mGet{α β:Type}(g:α->Option β)(m:M α):M β:=m.bind λds=>lift (g ds)
theorem vz{m:M (List D)}(hg:Gl X "range")(hm:X.mg "range" = ZX)(h:ED K X [a] m)(hs:bA [a] X.env=[(ZV,eval a X.env)]:=by rfl):IT K X tgt (.Call (.Name "range" p) [a] [] pos) (mGet qb m):=IT.mk λhk=>by
 intro qv s σ H R I z9;obtain⟨tg,F,ρ,l,ρ',G,em,q⟩:=z9;obtain⟨ds,ρ1,e1,em⟩:=az em;obtain⟨e2,rfl⟩:=fu em;refine aum hg hm (h hk) hs qv s σ H R I ⟨tg,F,ρ,ds,_,G,e1,λvs H' F' G' x r =>?_⟩
 unfold qb at e2;split at e2
 ·split at e2
  ·rename_i j hc;cases e2;cases r with
   | cons h t =>
    cases t;cases h;exact⟨_,rfl,(as7 hc).1,(as7 hc).2,q _ H' F' G' x (.of (ap0 0 _) (aqk.imp λ_ _=>trivial))⟩
  ·cases e2
 ·cases e2
theorem avh{m:M (List D)}(hg:Gl X "range")(hm:X.mg "range" = ZX)(h:ED K X [a,b] m)(hs:bA [a,b] X.env=[(ZV,eval a X.env),(ZV,eval b X.env)]:=by rfl)(hs2:bA [b] X.env=[(ZV,eval b X.env)]:=by rfl):IT K X tgt (.Call (.Name "range" p) [a,b] [] pos) (mGet aky m):=IT.mk λhk=>by
 intro qv s σ H R I z9;obtain⟨tg,F,ρ,l,ρ',G,em,q⟩:=z9;obtain⟨ds,ρ1,e1,em⟩:=az em;obtain⟨e2,rfl⟩:=fu em;refine aul hg hm (h hk) hs hs2 qv s σ H R I ⟨tg,F,ρ,ds,_,G,e1,λvs H' F' G' x r =>?_⟩
 unfold aky at e2;split at e2
 ·split at e2
  ·rename_i i j hc;cases e2;cases r with
   | cons h t =>
    cases t with
    | cons h2 t =>
     cases t;cases h;cases h2;exact⟨_,_,rfl,⟨(as7 hc.1).1,(as7 hc.1).2,(as7 hc.2).1,(as7 hc.2).2⟩,q _ H' F' G' x (.of (ap0 _ _) (aqk.imp λ_ _=>trivial))⟩
  ·cases e2
 ·cases e2
noncomputable def forD(b:D->Ro->Option Ro)(g:Sd):List D->Sd
 | [],ρ=>ZY (.nx,ρ)
 | d::ds,ρ=>match b d ρ with
  | none=>ZX
  | some ρ1=>match g ρ1 with
   | some (.nx,ρ2)=>forD b g ds ρ2
   | some (.cont,ρ2)=>forD b g ds ρ2
   | some (.brk,ρ2)=>ZY (.nx,ρ2)
   | some (.ret r,ρ2)=>ZY (.ret r,ρ2)
   | some (.exc x,ρ2)=>ZY (.exc x,ρ2)
   | none=>ZX
def dFor(m:M (List D))(b:D->Ro->Option Ro)(g:Sd):Sd:=dM m (forD b g)
theorem za{m:M (List D)}{b:D->Ro->Option Ro}{g:Sd}(hp:pP (cA X.prog X.w) X.A X.env X.xe)(hc:X.calm=ZW)(hi:IT K X tgt iter m)(hg:GV K X tgt b)(hb:SVs K X ss g)
  (hs:∀x,fB iter X.env x=pure x:=by intro _;rfl):SV K X (.For tgt iter ss [] pos) (dFor m b g):=SV.mk λhk=>PS.imp (a6l hp hc (hi hk) (hg hk) (hb hk) hs) λE σ H ⟨tg,F,ρ,fl,ρ',G,em,q⟩=>u9 em q λl ρ1 e1 em=>by
 refine⟨tg,F,ρ,l,ρ1,G,e1,λJ H1 F1 G1 x1 Z =>?_⟩
 refine a4a Z (λi σ2 H2=>∃F2 ρ2,Good K tg F2 H2 ρ2 σ2/\Ext (Own ρ σ) (Own ρ2 σ2) F H F2 H2/\Same F1 F2/\forD b g (l.drop i) ρ2=ZY (fl,ρ')) ⟨F1,ρ1,G1,x1,Same.refl _,em⟩ (λi σ2 H2 _ ⟨F2,ρ2,G2,_,s2,_⟩=>s2.trans G2.sub) ?_ ?_
 ·rintro i d x σ2 H2' H2 hd ⟨F2',ρ2,G2',x2',s2',em2⟩ al
  obtain⟨F2,G2,x2,s2,id,_⟩:=ark G2' x2' s2' al;have hlt:i < l.length:=(aQ.mp hd).1;have ed:l[i]=d:=(aQ.mp hd).2;rw[sW hlt,ed] at em2;unfold forD at em2;split at em2
  ·cases em2
  ·rename_i ρ3 e3;refine⟨tg,F2,ρ2,d,ρ3,G2,id,e3,λσ3 H3 F3 G3 x3 =>?_⟩
   have again:∀{ρ4:Ro},forD b g (l.drop (i+1)) ρ4=ZY (fl,ρ')->∀σ' H' F',Good K tg F' H' ρ4 σ'->Ext (Own ρ3 σ3) (Own ρ4 σ') F3 H3 F' H' ->
     ∃F2 ρ2,Good K tg F2 H' ρ2 σ'/\Ext (Own ρ σ) (Own ρ2 σ') F H F2 H'/\Same F1 F2/\forD b g (l.drop (i+1)) ρ2=ZY (fl,ρ') :=
    λ{ρ4} e4 σ' H' F' G' x'=>⟨F',ρ4,G',(x2.trans x3).trans x',(s2.trans x3.sub).trans x'.sub,e4⟩
   split at em2
   ·rename_i ρ4 e4;exact⟨tg,F3,ρ3,.nx,ρ4,G3,e4,again em2⟩
   ·rename_i ρ4 e4;exact⟨tg,F3,ρ3,.cont,ρ4,G3,e4,again em2⟩
   ·rename_i ρ4 e4;cases em2;exact⟨tg,F3,ρ3,.brk,_,G3,e4,λσ' H' F' G' x'=>q σ' H' F' G' ((x2.trans x3).trans x')⟩
   ·rename_i r ρ4 e4;cases em2;exact⟨tg,F3,ρ3,.ret r,_,G3,e4,λv σ' H' F' G' x' rr=>q v σ' H' F' G' ((x2.trans x3).trans x') (aak (x2.trans x3) rr)⟩
   ·cases em2;exact(show False from q).elim
   ·cases em2
 ·rintro σ2 H2 ⟨F2,ρ2,G2,x2,s2,em2⟩
  rw[uE (aM _)] at em2;cases em2;exact q σ2 H2 F2 G2 x2
noncomputable def whileD(c:M Bool)(g:Sd):Nat->Sd
 | 0,_=>ZX
 | n+1,ρ=>match c ρ with
  | some (.ok ZW,ρ1)=>match g ρ1 with
   | some (.nx,ρ2)=>whileD c g n ρ2
   | some (.cont,ρ2)=>whileD c g n ρ2
   | some (.brk,ρ2)=>ZY (.nx,ρ2)
   | some (.ret r,ρ2)=>ZY (.ret r,ρ2)
   | some (.exc x,ρ2)=>ZY (.exc x,ρ2)
   | none=>ZX
  | some (.ok ZV,ρ1)=>ZY (.nx,ρ1)
  | some (.exc x,ρ1)=>ZY (.exc x,ρ1)
  | none=>ZX
theorem af9{m:M Bool}{g:Sd}(n:Nat)(hp:pP (cA X.prog X.w) X.A X.env X.xe)(hc:ET K X c m)(hb:SVs K X ss g):SV K X (.While c ss [] pos) (whileD m g n):=SV.mk λhk=>PS.imp (ake hp (hc hk) (hb hk)) λE σ H z9=>by
 obtain⟨tg,F,ρ,fl,ρ',G,em,q⟩:=z9;refine⟨λk σ2 H2=>∃F2 ρ2,Good K tg F2 H2 ρ2 σ2/\Ext (Own ρ σ) (Own ρ2 σ2) F H F2 H2/\whileD m g k ρ2=ZY (fl,ρ'),⟨n,F,ρ,G,Ext.refl _ _ _,em⟩,?_⟩
 rintro k σ2 H2 ⟨F2,ρ2,G2,x2,em2⟩
 cases k with
 | zero=>cases em2
 | succ k =>
  unfold whileD at em2;split at em2
  ·rename_i ρ3 e3;refine⟨tg,F2,ρ2,ZW,ρ3,G2,e3,λH3 F3 G3 x3=>iteT ?_⟩
   refine⟨λσ' H'=>∃F2 ρ2,Good K tg F2 H' ρ2 σ'/\Ext (Own ρ σ) (Own ρ2 σ') F H F2 H'/\whileD m g k ρ2=ZY (fl,ρ'),λσ' H' h=>⟨k,jH k,h⟩,?_⟩
   split at em2
   ·rename_i ρ4 e4;exact⟨tg,F3,ρ3,.nx,ρ4,G3,e4,λσ' H' F' G' x'=>⟨F',ρ4,G',(x2.trans x3).trans x',em2⟩⟩
   ·rename_i ρ4 e4;exact⟨tg,F3,ρ3,.cont,ρ4,G3,e4,λσ' H' F' G' x'=>⟨F',ρ4,G',(x2.trans x3).trans x',em2⟩⟩
   ·rename_i ρ4 e4;cases em2;exact⟨tg,F3,ρ3,.brk,_,G3,e4,λσ' H' F' G' x'=>q σ' H' F' G' ((x2.trans x3).trans x')⟩
   ·rename_i r ρ4 e4;cases em2;exact⟨tg,F3,ρ3,.ret r,_,G3,e4,λv σ' H' F' G' x' rr=>q v σ' H' F' G' ((x2.trans x3).trans x') (aak (x2.trans x3) rr)⟩
   ·cases em2;exact(show False from q).elim
   ·cases em2
  ·rename_i ρ3 e3;cases em2;exact⟨tg,F2,ρ2,ZV,_,G2,e3,λH3 F3 G3 x3=>iteF (q σ2 H3 F3 G3 (x2.trans x3))⟩
  ·cases em2;exact(show False from q).elim
  ·cases em2
end
def ama(ρ:Ro)(i:Nat)(o:Option Nat)(d:Option D):Sl:=match o with
 | some j=>match ρ[j]? with
  | some (.val d)=>.val d
  | some (.own _ l)=>.own (ZY i) l
  | _=>.emp
 | none=>match d with
  | some d=>.val d
  | none=>.emp
def lend(ρ:Ro)(js:List (Option Nat))(ds:List (Option D)):Ro:=(xY js ds).mapIdx λi p=>ama ρ i p.1 p.2
noncomputable def okJs(ρ:Ro):List (Option Nat)->Bool
 | []=>ZW
 | none::r=>okJs ρ r
 | some j::r=>(match ρ[j]? with
  | some (.own _ _) => !r.contains (ZY j)
  | _=>ZW)&&okJs ρ r
theorem ako{ρ:Ro}:∀{js:List (Option Nat)} {i i' j:Nat} {t:Option Nat} {l:List D},okJs ρ js=ZW->js[i]? = ZY (ZY j)->js[i']? = ZY (ZY j)->ρ[j]? = ZY (.own t l)->i=i'
 | [],_,_,_,_,_,_,h,_,_=>by simp at h
 | o::r,0,0,_,_,_,_,_,_,_=>rfl
 | o::r,0,i'+1,j,t,l,hk,h,h',e=>by
  simp at h h';subst h;unfold okJs at hk;rw[e,bL] at hk;have:=cR h';simp[this] at hk
 | o::r,i+1,0,j,t,l,hk,h,h',e=>by
  simp at h h';subst h';unfold okJs at hk;rw[e,bL] at hk;have:=cR h;simp[this] at hk
 | none::r,i+1,i'+1,j,t,l,hk,h,h',e=>by
  rw[ako (js:=r) (i:=i) (i':=i') (j:=j) (by unfold okJs at hk;exact hk) (by simpa using h) (by simpa using h') e]
 | some k::r,i+1,i'+1,j,t,l,hk,h,h',e=>by
  unfold okJs at hk;rw[bL] at hk;rw[ako (js:=r) (i:=i) (i':=i') (j:=j) hk.2 (by simpa using h) (by simpa using h') e]
noncomputable def putS(js:List (Option Nat))(ps:Ro)(j:Nat)(s:Sl):Sl:=match js.findIdx? (λo=>o==ZY j) with
 | none=>s
 | some i=>match s with
  | .own t _=>match ps[i]? with
   | some (.own (ZY i') l')=>if i'=i then .own t l' else .emp
   | _=>.emp
  | s=>s
def putB(ρ:Ro)(js:List (Option Nat))(ps:Ro):Ro:=ρ.mapIdx λj s=>putS js ps j s
noncomputable def tgOf(τ:L2.St)(i:Nat):aY:=match τ[i]? with
 | some (ZY (.ref a))=>a
 | _=>0
section
variable{K:Fg9}{tg:Nat->aY}{F H F' H':Hp}{ρ ps:Ro}{σ τ:L2.St}{js:List (Option Nat)}{ds:List (Option D)}{O':aY->Prop}
theorem aqd{i:Nat}{s:Sl}(h:(lend ρ js ds:List Sl)[i]? = ZY s):∃o d,js[i]? = ZY o/\ds[i]? = ZY d/\s=ama ρ i o d:=by
 unfold lend at h;rw[pG] at h;cases e:(xY js ds)[i]? with
 | none=>rw[e] at h;cases h
 | some p =>
  rw[e] at h;cases h;rw[List.getElem?_zip_eq_some] at e;exact⟨p.1,p.2,e.1,e.2,rfl⟩
theorem ayu{i:Nat}{t:Option Nat}{l:List D}(h:(lend ρ js ds:List Sl)[i]? = ZY (.own t l)):∃j t',js[i]? = ZY (ZY j)/\ρ[j]? = ZY (.own t' l)/\t=ZY i:=by
 obtain⟨o,d,e1,e2,e3⟩:=aqd h;unfold ama at e3;cases o with
 | none=>cases d <;> cases e3
 | some j =>
  simp only at e3;cases e:ρ[j]? with
  | none=>rw[e] at e3;cases e3
  | some s =>
   rw[e] at e3;cases s with
   | emp=>cases e3
   | val _=>cases e3
   | box _ _=>cases e3
   | lol _=>cases e3
   | lnk _=>cases e3
   | own t' l'=>cases e3;exact⟨j,t',e1,e,rfl⟩
structure Lent (K:Fg9) (F:Hp) (σ τ:L2.St) (js:List (Option Nat)) (ds:List (Option D)):Prop where
 l1:τ.length=js.length
 l2:ds.length=js.length
 h1:∀(i j:Nat) (o:Option V),js[i]? = ZY (ZY j)->σ[j]? = ZY o->τ[i]? = ZY o
 h2:∀(i:Nat) (d:D),js[i]? = ZY ZX->ds[i]? = ZY (ZY d)->∃v,τ[i]? = ZY (ZY v)/\Is K F d v
theorem Good.σ_at(G:Good K tg F H ρ σ){j:Nat}{s:Sl}(e:(ρ:List Sl)[j]? = ZY s):∃o,σ[j]? = ZY o:=by
 obtain⟨o,h,_⟩:=G.at e;exact⟨o,h⟩
theorem aco(G:Good K tg F H ρ σ)(L:Lent K F σ τ js ds){i:Nat}{a:aY}(h:Owns (lend ρ js ds) τ i a):∃j,js[i]? = ZY (ZY j)/\Owns ρ σ j a:=by
 obtain⟨⟨t,l,e⟩,q⟩:=h;obtain⟨j,t',e1,e2,_⟩:=ayu e;obtain⟨o,ho⟩:=G.σ_at e2;have:=L.h1 i j o e1 ho;rw[q] at this;cases this;exact⟨j,e1,⟨t',l,e2⟩,ho⟩
theorem aei(G:Good K tg F H ρ σ)(hk:okJs ρ js=ZW)(L:Lent K F σ τ js ds):Good K (tgOf τ) F H (lend ρ js ds) τ where
 sub:=G.sub
 len:=by
  unfold lend;rw[vM,List.length_zip,L.l2,L.l1];omega
 sl:=λi s o e q=>by
  obtain⟨oj,d,e1,e2,rfl⟩:=aqd e;unfold ama;cases oj with
  | none =>
   cases d with
   | none=>trivial
   | some d =>
    obtain⟨v,h1,h2⟩:=L.h2 i d e1 e2;rw[q] at h1;cases h1;exact⟨v,rfl,h2⟩
  | some j =>
   simp only;cases e3:ρ[j]? with
   | none=>trivial
   | some s =>
    obtain⟨o',ho,w⟩:=G.at e3;have:=L.h1 i j o' e1 ho;rw[q] at this;cases this;cases s with
    | emp=>trivial
    | val d=>exact w
    | box _ _=>trivial
    | lol _=>trivial
    | lnk _=>trivial
    | own t l =>
     obtain⟨a,vs,rfl,hf,hh,hl,_⟩:=w;refine⟨a,vs,rfl,hf,hh,hl,λk e =>?_⟩
     cases e;unfold tgOf;rw[q]
 inj:=λi i' a w w'=>by
  obtain⟨j,e,v⟩:=aco G L w;obtain⟨j',e',v'⟩:=aco G L w';have:=G.inj j j' a v v';subst this;obtain⟨⟨t,l,z⟩,_⟩:=v;exact ako hk e e' z
structure Fin (K:Fg9) (F' H':Hp) (τ:L2.St) (ps:Ro) (O':aY->Prop):Prop where
 at':∀(i:Nat) (l:List D),(ps:List Sl)[i]? = ZY (.own (ZY i) l)->O' (tgOf τ i)/\F' (tgOf τ i)=ZX/\∃vs,H' (tgOf τ i)=ZY (.lst vs)/\IsL K F' l vs
theorem akc{j:Nat}{s:Sl}(h:(putB ρ js ps:List Sl)[j]? = ZY s):∃s0:Sl,(ρ:List Sl)[j]? = ZY s0/\((∃t l,s0=Sl.own t l/\∃i:Nat,js[i]? = ZY (ZY j)/\((∃l',(ps:List Sl)[i]? = ZY (Sl.own (ZY i) l')/\s=Sl.own t l')∨s=Sl.emp)) ∨
  (s=s0/\∀t l,s0=Sl.own t l->∀i:Nat,js[i]? ≠ ZY (ZY j))):=by
 unfold putB at h;rw[pG] at h;cases e:(ρ:List Sl)[j]? with
 | none=>rw[e] at h;cases h
 | some s0 =>
  rw[e] at h;refine⟨s0,rfl,?_⟩;have h:putS js ps j s0=s:=bO h;unfold putS at h;cases ei:js.findIdx? (λo=>o==ZY j) with
  | none =>
   rw[ei] at h;have h:s0=s:=h;refine .inr ⟨h.symm,λ_ _ _ i z =>?_⟩
   rw[sV] at ei;have:=ei _ (cR z);simp at this
  | some i =>
   rw[ei] at h;cases s0 with
   | emp=>exact .inr ⟨(show Sl.emp=s from h).symm,λt l z=>by cases z⟩
   | val d=>exact .inr ⟨(show Sl.val d=s from h).symm,λt l z=>by cases z⟩
   | box c fs=>exact .inr ⟨(show Sl.box c fs=s from h).symm,λt l z=>by cases z⟩
   | lol ts=>exact .inr ⟨(show Sl.lol ts=s from h).symm,λt l z=>by cases z⟩
   | lnk k=>exact .inr ⟨(show Sl.lnk k=s from h).symm,λt l z=>by cases z⟩
   | own t l =>
    refine .inl ⟨t,l,rfl,i,?_,?_⟩
    ·obtain⟨hi,hb,_⟩:=lB.mp ei;rw[aC hi];exact congrArg ZY (eq_of_beq hb)
    ·have h:(match (ps:List Sl)[i]? with
      | some (.own (ZY i') l')=>if i'=i then Sl.own t l' else .emp
      | _=>.emp)=s:=h
     cases ep:(ps:List Sl)[i]? with
     | none=>rw[ep] at h;exact .inr h.symm
     | some sp =>
      rw[ep] at h;cases sp with
      | emp=>exact .inr h.symm
      | val _=>exact .inr h.symm
      | box _ _=>exact .inr h.symm
      | lol _=>exact .inr h.symm
      | lnk _=>exact .inr h.symm
      | own t' l' =>
       cases t' with
       | none=>exact .inr h.symm
       | some i' =>
        have h2:(if i'=i then Sl.own t l' else .emp)=s:=h
        by_cases z:i'=i
        ·subst z;rw[if_pos rfl] at h2;exact .inl ⟨l',rfl,h2.symm⟩
        ·rw[if_neg z] at h2;exact .inr h2.symm
theorem ae3{j:Nat}{a:aY}(h:Owns (putB ρ js ps) σ j a):Owns ρ σ j a:=by
 obtain⟨⟨t,l,e⟩,q⟩:=h;obtain⟨s0,e0,h | ⟨rfl,_⟩⟩:=akc e
 ·obtain⟨t',l',rfl,i,_,⟨l2,_,z⟩ | z⟩:=h
  ·exact⟨⟨t',l',e0⟩,q⟩
  ·cases z
 ·exact⟨⟨t,l,e0⟩,q⟩
theorem aic(G:Good K tg F H ρ σ)(L:Lent K F σ τ js ds)(x:Ext (Own (lend ρ js ds) τ) O' F H F' H')(s':Same F' H')(fin:Fin K F' H' τ ps O'):Good K tg F' H' (putB ρ js ps) σ where
 sub:=s'
 len:=by
  unfold putB;rw[vM];exact G.len
 sl:=λj s o e q=>by
  obtain⟨s0,e0,h | ⟨rfl,hn⟩⟩:=akc e
  ·obtain⟨t,l,rfl,i,ei,⟨l',ep,rfl⟩ | rfl⟩:=h
   ·obtain⟨a,vs,rfl,hf,hh,hl,ht⟩:=G.sl j _ _ e0 q;obtain⟨_,hf',ws,hh',hl'⟩:=fin.at' i l' ep;have:=L.h1 i j _ ei q;have et:tgOf τ i=a:=by
     unfold tgOf;rw[this]
    rw[et] at hf' hh';exact⟨a,ws,rfl,hf',hh',hl',ht⟩
   ·trivial
  ·have w:=G.sl j _ _ e0 q;cases s with
   | emp=>trivial
   | val d =>
    obtain⟨v,h1,h2⟩:=w;exact⟨v,h1,h2.mono x.sub⟩
   | lol ts =>
    obtain⟨a,h1,h2⟩:=w;exact⟨a,h1,x.sub _ _ h2⟩
   | lnk k=>exact w
   | box c fs =>
    obtain⟨a,C,dx,fvs,e1,e2,e3,e4,e7,e5,e6⟩:=w;have no:¬Own (lend ρ js ds) τ a:=λ⟨i,z⟩=>by
     obtain⟨j',_,v⟩:=aco G L z;obtain⟨_,vs,hv⟩:=G.ownAt ⟨j',v⟩;rw[e3] at hv;cases hv
    have hf:F' a=ZX:=by
     cases z:F' a with
     | none=>rfl
     | some o =>
      rcases x.new a o z with z | z | z
      ·rw[e2] at z;cases z
      ·rw[e3] at z;cases z
      ·exact absurd z no
    exact⟨a,C,dx,fvs,e1,hf,x.keep a _ e3 no,e4,e7,e5,λf d h=>(e6 f d h).imp λv h=>⟨h.1,h.2.mono x.sub⟩⟩
   | own t l =>
    obtain⟨a,vs,rfl,hf,hh,hl,ht⟩:=w;have no:¬Own (lend ρ js ds) τ a:=λ⟨i,z⟩=>by
     obtain⟨j',e1,v⟩:=aco G L z;have:=G.inj j' j a v ⟨⟨t,l,e0⟩,q⟩;subst this;exact hn t l rfl i e1
    refine⟨a,vs,rfl,?_,x.keep a _ hh no,hl.mono x.sub,ht⟩;cases z:F' a with
    | none=>rfl
    | some o =>
     rcases x.new a o z with z | z | z
     ·rw[hf] at z;cases z
     ·rw[hh] at z;cases z
     ·exact absurd z no
 inj:=λi j a w w'=>G.inj i j a (ae3 w) (ae3 w')
theorem aa9(G:Good K tg F H ρ σ)(L:Lent K F σ τ js ds){a:aY}(h:Own (lend ρ js ds) τ a):Own ρ σ a:=by
 obtain⟨i,h⟩:=h;obtain⟨j,_,h⟩:=aco G L h;exact⟨j,h⟩
theorem alc(G:Good K tg F H ρ σ)(L:Lent K F σ τ js ds)(x:Ext (Own (lend ρ js ds) τ) O' F H F' H'):Ext (Own ρ σ) (Own (putB ρ js ps) σ) F H F' H' where
 sub:=x.sub
 new:=λa o e=>by
  rcases x.new a o e with z | z | z
  ·exact .inl z
  ·exact .inr (.inl z)
  ·exact .inr (.inr (aa9 G L z))
 keep:=λa o e n=>x.keep a o e λz=>n (aa9 G L z)
 own:=λa ⟨j,w⟩=>.inl ⟨j,ae3 w⟩
 there:=x.there
theorem aw5(G:Good K tg F H ρ σ)(L:Lent K F σ τ js ds)(fin:Fin K F' H' τ ps O'){a:aY}(ha:H a=ZX∨Own (lend ρ js ds) τ a)(hn:¬O' a):¬Own (putB ρ js ps) σ a:=λ⟨j,w⟩=>by
 have v:=ae3 w;obtain⟨⟨t,l2,e⟩,q⟩:=w;obtain⟨s0,e0,z | ⟨rfl,hno⟩⟩:=akc e
 ·obtain⟨t',l',rfl,i,ei,⟨l3,ep,z⟩ | z⟩:=z
  ·have et:tgOf τ i=a:=by
    unfold tgOf;rw[L.h1 i j _ ei q]
   have:=(fin.at' i l3 ep).1;rw[et] at this;exact hn this
  ·cases z
 ·rcases ha with ha | ⟨i,z⟩
  ·obtain⟨a',vs',ea,_,e2,_⟩:=G.sl j _ _ e0 q;cases ea;rw[ha] at e2;cases e2
  ·obtain⟨j',e1,v'⟩:=aco G L z;have:=G.inj j' j a v' v;subst this;exact hno t l2 rfl i e1
theorem arf(G:Good K tg F H ρ σ)(L:Lent K F σ τ js ds)(fin:Fin K F' H' τ ps O'){r:Rv}{v:V}(h:relR K r v H (Own (lend ρ js ds) τ) F' H' O'):relR K r v H (Own ρ σ) F' H' (Own (putB ρ js ps) σ):=by
 cases r with
 | v d=>exact h
 | fr l =>
  obtain⟨a,vs,rfl,ha,hf,hh,hl,hn⟩:=h;exact⟨a,vs,rfl,ha.imp id (aa9 G L),hf,hh,hl,aw5 G L fin ha hn⟩
 | tf d l =>
  obtain⟨t,u,a,vs,rfl,ht,hd,ha,hf,hh,hl,hn⟩:=h;exact⟨t,u,a,vs,rfl,ht,hd,ha.imp id (aa9 G L),hf,hh,hl,aw5 G L fin ha hn⟩
end
abbrev Fd:=Ro->Option (Out Rv×Ro)
noncomputable def fnD(nl np:Nat)(g:Sd):Fd:=λas=>match g (as++aP (nl - np) .emp) with
 | some (.ret r,ρ)=>ZY (.ok r,ρ.take np)
 | some (.nx,ρ)=>ZY (.ok (.v .non),ρ.take np)
 | some (.exc x,ρ)=>ZY (.exc x,ρ.take np)
 | _=>ZX
def spOf(K:Fg9)(n:Nat)(f:Fd):Sp:=λvs H Q _=>vs.length=n/\∃F as r ps,Good K (tgOf (vs.map ZY)) F H as (vs.map ZY)/\f as=ZY (.ok r,ps) /\
 ∀v H' F' O',Same F' H'->Ext (Own as (vs.map ZY)) O' F H F' H'->Fin K F' H' (vs.map ZY) ps O'->relR K r v H (Own as (vs.map ZY)) F' H' O'->Q v H'
section
variable{K:Fg9}
theorem a2t{as:Ro}{τ:L2.St}{n:Nat}{a:aY}(hl:as.length=τ.length)(h:Own (as++aP n .emp) (τ++aP n ZX) a):Own as τ a:=by
 obtain⟨i,⟨t,l,e⟩,q⟩:=h
 by_cases hi:i < as.length
 ·rw[bF hi] at e;rw[bF (by omega)] at q
  exact⟨i,⟨t,l,e⟩,q⟩
 ·rw[dI (by omega),gG] at e
  split at e <;> cases e
theorem aya{as:Ro}{τ:L2.St}{n:Nat}{a:aY}(hl:as.length=τ.length)(h:Own as τ a):Own (as++aP n .emp) (τ++aP n ZX) a:=by
 obtain⟨i,⟨t,l,e⟩,q⟩:=h;have hi:=(aQ.mp e).1;exact⟨i,⟨t,l,by rw[bF hi];exact e⟩,by rw[bF (by omega)];exact q⟩
theorem aam{as:Ro}{τ:L2.St}{n:Nat}(hl:as.length=τ.length):Own (as++aP n .emp) (τ++aP n ZX)=Own as τ:=funext λa=>propext ⟨a2t hl,aya hl⟩
theorem Good.app{tg:Nat->aY}{F H:Hp}{as:Ro}{τ:L2.St}(G:Good K tg F H as τ)(n:Nat):Good K tg F H (as++aP n .emp) (τ++aP n ZX) where
 sub:=G.sub
 len:=by rw[cP,cP,G.len,jL,jL]
 sl:=λi s o e q=>by
  have hl:=G.len
  by_cases hi:i < as.length
  ·rw[bF hi] at e;rw[bF (by omega)] at q
   exact G.sl i s o e q
  ·rw[dI (by omega),gG] at e
   split at e
   ·cases e;trivial
   ·cases e
 inj:=λi j a w w'=>by
  have hl:=G.len;have f:∀k,Owns (as++aP n .emp) (τ++aP n ZX) k a->Owns as τ k a:=λk ⟨⟨t,l,e⟩,q⟩=>by
   by_cases hi:k < as.length
   ·rw[bF hi] at e;rw[bF (by omega)] at q
    exact⟨⟨t,l,e⟩,q⟩
   ·rw[dI (by omega),gG] at e
    split at e <;> cases e
  exact G.inj i j a (f i w) (f j w')
theorem bb5{P:cG}{w:dZ}{mg:Str->Option aH}{base:fH}{x qual:Str}{st:gU}{f:aY}{fd:gB}{N ps:List Str}{k:Nat}{g:Sd}(F:Fun K x qual st f fd)(S:FnScope N ps (aa st))
  (body:∀(cdv:aH) (A:eG) (outer:List Env) (s:aO) (H:Hp) (E:XK),Room k (A.deeper (oH qual (aa st) s.heap.objs.size f cdv))->SVs K (cxOf CX0 P w K mg base N qual (aa st) f cdv A outer s H E).nox (iu st) g) :
  FnOk P w K mg base CX0 (k+1) f fd ps (spOf K ps.length (fnD N.length ps.length g)):=by
 refine F.ok S (λvs H Q E h=>h.1) (λcdv A outer s H vs Q E hr h=>⟨_,body cdv A outer s H E hr rfl,?_⟩)
 obtain⟨hn,F,as,r,ps',G,em,q⟩:=h;have hl:as.length=(vs.map ZY).length:=G.len;have G1:=G.app (N.length - vs.length);have es:start N vs=vs.map ZY++aP (N.length - vs.length) ZX:=rfl;rw[es];unfold fnD at em;rw[<-hn] at em;have fin:∀{ρ':Ro} {σ':L2.St} {F' H':Hp},Good K (tgOf (vs.map ZY)) F' H' ρ' σ'->Fin K F' H' (vs.map ZY) (ρ'.take vs.length) (Own ρ' σ'):=λ{ρ' σ' F' H'} G'=>⟨λi l e=>by
  have hi:=(aQ.mp e).1;rw[jJ] at hi;rw[kO (by omega)] at e
  obtain⟨o,ho,a,ws,rfl,hf,hh,hl,ht⟩:=G'.at e;rw[ht i rfl];exact⟨⟨i,⟨_,_,e⟩,ho⟩,hf,ws,hh,hl⟩⟩
 split at em
 ·rename_i r' ρ' e;cases em;refine⟨_,F,_,.ret r,ρ',G1,e,λv σ' H' F' G' x' rr =>?_⟩
  rw[aam hl] at x' rr;exact q v H' F' (Own ρ' σ') G'.sub x' (fin G') rr
 ·rename_i ρ' e;cases em;refine⟨_,F,_,.nx,ρ',G1,e,λσ' H' F' G' x' =>?_⟩
  rw[aam hl] at x';exact q .non H' F' (Own ρ' σ') G'.sub x' (fin G') .non
 ·cases em
 ·cases em
end
section
variable{K:Fg9}{X:Cx}{e a b c tgt iter elt:dH}{es:List dH}{pos p p2:Pos}
inductive AR (K:Fg9) (F:Hp) (σ:L2.St):List (Option Nat)->List (Option D)->List V->Prop
 | nil:AR K F σ [] [] []
 | ex {d:D} {v:V} {js:List (Option Nat)} {ds:List (Option D)} {vs:List V} (h:Is K F d v) (t:AR K F σ js ds vs):AR K F σ (ZX::js) (ZY d::ds) (v::vs)
 | nm {j:Nat} {v:V} {js:List (Option Nat)} {ds:List (Option D)} {vs:List V} (h:σ[j]? = ZY (ZY v)) (t:AR K F σ js ds vs):AR K F σ (ZY j::js) (ZX::ds) (v::vs)
theorem AR.lent{F:Hp}{σ:L2.St}:∀{js:List (Option Nat)} {ds:List (Option D)} {vs:List V},AR K F σ js ds vs->Lent K F σ (vs.map ZY) js ds
 | _,_,_,.nil=>⟨rfl,rfl,λi j o h=>by simp at h,λi d h=>by simp at h⟩
 | _,_,_,.ex h t=>by
  have L:=t.lent;refine⟨by simp[by simpa using L.l1],by simp[L.l2],λi j o h q =>?_,λi d h q =>?_⟩
  ·cases i with
   | zero=>simp at h
   | succ i=>simpa using L.h1 i j o (by simpa using h) q
  ·cases i with
   | zero=>simp at q;subst q;exact⟨_,rfl,‹_›⟩
   | succ i=>simpa using L.h2 i d (by simpa using h) (by simpa using q)
 | _,_,_,.nm h t=>by
  have L:=t.lent;refine⟨by simp[by simpa using L.l1],by simp[L.l2],λi j o h' q =>?_,λi d h' q =>?_⟩
  ·cases i with
   | zero =>
    simp at h';subst h';rw[h] at q;cases q;rfl
   | succ i=>simpa using L.h1 i j o (by simpa using h') q
  ·cases i with
   | zero=>simp at h'
   | succ i=>simpa using L.h2 i d (by simpa using h') (by simpa using q)
theorem AR.length{F:Hp}{σ:L2.St}{js:List (Option Nat)}{ds:List (Option D)}{vs:List V}(h:AR K F σ js ds vs):vs.length=js.length:=by
 have:=h.lent.l1
 simpa using this
def TAg(K:Fg9)(js:List (Option Nat))(m:M (List (Option D))):TA:=λσ H Q=>∃tg F ρ ds ρ',Good K tg F H ρ σ/\m ρ=ZY (.ok ds,ρ')/\∀vs H' F',Good K tg F' H' ρ' σ->Ext (Own ρ σ) (Own ρ' σ) F H F' H'->AR K F' σ js ds vs->Q vs H'
structure EG (K:Fg9) (X:Cx) (es:List dH) (js:List (Option Nat)) (m:M (List (Option D))):Prop where
 go:X.K=K->PA X es (TAg K js m)
instance {K:Fg9} {X:Cx} {es:List dH} {js:List (Option Nat)} {m:M (List (Option D))}:CoeFun (EG K X es js m) λ_=>X.K=K->PA X es (TAg K js m):=⟨EG.go⟩
def fj:M (List (Option D)):=ret []
def bc(m:M D)(ms:M (List (Option D))):M (List (Option D)):=m.bind λd=>ms.bind λds=>ret (ZY d::ds)
def bu(j:Nat)(ms:M (List (Option D))):M (List (Option D)):=(dj j).bind λ_=>ms.bind λds=>ret (ZX::ds)
theorem cu:EG K X [] [] fj:=EG.mk λ_=>PA.imp alx λσ H Q z9=>by
 obtain⟨tg,F,ρ,ds,ρ',G,em,q⟩:=z9;obtain⟨rfl,rfl⟩:=ji em;exact q [] H F G (Ext.refl _ _ _) .nil
theorem eg_v{m:M D}{js:List (Option Nat)}{ms:M (List (Option D))}(h:EV K X e m)(t:EG K X es js ms)(hs:bA (e::es) X.env=(ZV,eval e X.env)::bA es X.env:=by rfl):EG K X (e::es) (ZX::js) (bc m ms):=EG.mk λhk=>PA.imp (aa6 (h hk) (t hk) hs) λσ H Q z9=>by
 obtain⟨tg,F,ρ,ds,ρ',G,em,q⟩:=z9;obtain⟨d,ρ1,e1,em⟩:=az em;obtain⟨r,ρ2,e2,em⟩:=az em;obtain⟨rfl,rfl⟩:=ji em;exact⟨tg,F,ρ,d,ρ1,G,e1,λv H1 F1 G1 x1 r1=>⟨tg,F1,ρ1,r,_,G1,e2,λvs H2 F2 G2 x2 r2=>q _ H2 F2 G2 (x1.trans x2) (.ex (r1.mono x2.sub) r2)⟩⟩
theorem eg_n{j:Nat}{js:List (Option Nat)}{ms:M (List (Option D))}(h:PE X e (tVar j))(t:EG K X es js ms)(hs:bA (e::es) X.env=(ZV,eval e X.env)::bA es X.env:=by rfl):EG K X (e::es) (ZY j::js) (bu j ms):=EG.mk λhk=>PA.imp (aa6 h (t hk) hs) λσ H Q z9=>by
 obtain⟨tg,F,ρ,ds,ρ',G,em,q⟩:=z9;obtain⟨d0,ρ0,e0,em⟩:=az em;obtain⟨r,ρ2,e2,em⟩:=az em;obtain⟨rfl,rfl⟩:=ji em;obtain⟨rfl,v,hv,_⟩:=qx G e0;exact⟨v,hv,tg,F,ρ0,r,_,G,e2,λvs H2 F2 G2 x2 r2=>q _ H2 F2 G2 x2 (.nm hv r2)⟩
noncomputable def mFn(f:Fd)(js:List (Option Nat))(ms:M (List (Option D))):M Rv:=ms.bind λds ρ=>if okJs ρ js=ZW then match f (lend ρ js ds) with
  | some (.ok r,ps)=>ZY (.ok r,putB ρ js ps)
  | some (.exc x,ps)=>ZY (.exc x,putB ρ js ps)
  | none=>ZX
 else ZX
theorem a7t{f:Fd}{js:List (Option Nat)}{ms:M (List (Option D))}{ρ ρ':Ro}{r:Rv}(h:mFn f js ms ρ=ZY (.ok r,ρ')):∃ds ρ1 ps,ms ρ=ZY (.ok ds,ρ1)/\okJs ρ1 js=ZW/\f (lend ρ1 js ds)=ZY (.ok r,ps)/\ρ'=putB ρ1 js ps:=by
 obtain⟨ds,ρ1,e1,em⟩:=az h;have em:(if okJs ρ1 js=ZW then match f (lend ρ1 js ds) with
  | some (.ok r,ps)=>ZY (Out.ok r,putB ρ1 js ps)
  | some (.exc x,ps)=>ZY (.exc x,putB ρ1 js ps)
  | none=>ZX
  else ZX)=ZY (.ok r,ρ'):=em
 split at em
 ·rename_i hk;split at em
  ·rename_i r' ps e2;cases em;exact⟨ds,ρ1,ps,e1,hk,e2,rfl⟩
  ·cases em
  ·cases em
 ·cases em
theorem ik{f:Fd}{n k:Nat}{x:Str}{pn:List Str}{js:List (Option Nat)}{ms:M (List (Option D))}(F:Dfn X.prog X.w X.K X.mg X.base x pn k (spOf K n f))(hr:Room k X.A)(hg:Gl X x)(ha:EG K X (e::es) js ms)(hn:js.length=n:=by rfl)(hdb:(x==("__debug__" : Str))=ZV:=by decide)
  (he:bA (e::es) X.env=(ZV,eval e X.env)::bA es X.env:=by rfl) (hpl:(jG pos (bA es X.env)).any (·.1)=ZV:=by rfl):ER K X (.Call (.Name x p) (e::es) [] pos) (mFn f js ms):=ER.mk λhk=>PE.imp (a2m F hr hg (ha hk) hdb he hpl) λσ H Q z9=>by
 obtain⟨tg,F,ρ,r,ρ',G,em,q⟩:=z9;obtain⟨ds,ρ1,ps,e1,hj,e2,rfl⟩:=a7t em;refine⟨tg,F,ρ,ds,ρ1,G,e1,λvs H1 F1 G1 x1 ar =>?_⟩
 have L:=ar.lent;show spOf K n f (vs++[]) H1 Q E0;rw[lD];refine⟨by rw[ar.length];exact hn,F1,_,r,ps,aei G1 hj L,e2,λv H' F' O' s' x' fin rr =>?_⟩
 exact q v H' F' (aic G1 L x' s' fin) (x1.trans (alc G1 L x')) (aak x1 (arf G1 L fin rr))
structure EIf (K:Fg9) (X:Cx) (ifs:List dH) (m:M Bool):Prop where
 go:X.K=K->PIf X ifs (TB K m)
instance {K:Fg9} {X:Cx} {ifs:List dH} {m:M Bool}:CoeFun (EIf K X ifs m) λ_=>X.K=K->PIf X ifs (TB K m):=⟨EIf.go⟩
theorem mz:EIf K X [] (ret ZW):=EIf.mk λ_ qv s σ H Q I z9=>by
 obtain⟨tg,F,ρ,k,ρ',G,em,q⟩:=z9;obtain⟨rfl,rfl⟩:=ji em;exact a2h qv s σ H Q I (q H F G (Ext.refl _ _ _))
theorem ak5{m:M Bool}(h:ET K X c m):EIf K X [c] m:=EIf.mk λhk=>a2g (h hk)
noncomputable def compD(b:D->Ro->Option Ro)(mc:M Bool)(me:M D):List D->List D->M (List D)
 | [],ys=>ret ys
 | d::ds,ys=>λρ=>match b d ρ with
  | none=>ZX
  | some ρ1=>(mc.bind λk=>if k=ZW then me.bind λy=>compD b mc me ds (ys++[y]) else compD b mc me ds ys) ρ1
theorem ah9{b:D->Ro->Option Ro}{mc:M Bool}{me:M D}:∀{l ys yf:List D} {ρ ρ':Ro},compD b mc me l ys ρ=ZY (.ok yf,ρ')->ys.length<=yf.length
 | [],ys,yf,ρ,ρ',h=>by
  obtain⟨rfl,_⟩:=ji (show ret ys ρ=_ from h)
  exact aM _
 | d::ds,ys,yf,ρ,ρ',h=>by
  unfold compD at h;split at h
  ·cases h
  ·obtain⟨k,ρ2,e2,h⟩:=az h;split at h
   ·obtain⟨y,ρ3,e3,h⟩:=az h;have:=ah9 h;rw[cP] at this;omega
   ·exact ah9 h
def tu(src:List (Option Nat))(mi:M (List D))(b:D->Ro->Option Ro)(mc:M Bool)(me:M D):M Rv:=mi.bind λl ρ=>if okJs ρ src=ZW then match compD b mc me l [] (lend ρ src (src.map λ_=>ZX)) with
  | some (.ok ys,ps)=>if ys.length<=capS then ZY (.ok (.fr ys),putB ρ src ps) else ZX
  | some (.exc x,ps)=>ZY (.exc x,putB ρ src ps)
  | none=>ZX
 else ZX
theorem ayr{src:List (Option Nat)}{mi:M (List D)}{b:D->Ro->Option Ro}{mc:M Bool}{me:M D}{ρ ρ':Ro}{r:Rv}(h:tu src mi b mc me ρ=ZY (.ok r,ρ')):∃l ρ1 ys ps,mi ρ=ZY (.ok l,ρ1)/\okJs ρ1 src=ZW/\compD b mc me l [] (lend ρ1 src (src.map λ_=>ZX))=ZY (.ok ys,ps)/\ys.length<=capS/\r=.fr ys/\ρ'=putB ρ1 src ps:=by
 obtain⟨l,ρ1,e1,em⟩:=az h;have em:(if okJs ρ1 src=ZW then match compD b mc me l [] (lend ρ1 src (src.map λ_=>ZX)) with
  | some (.ok ys,ps)=>if ys.length<=capS then ZY (Out.ok (Rv.fr ys),putB ρ1 src ps) else ZX
  | some (.exc x,ps)=>ZY (.exc x,putB ρ1 src ps)
  | none=>ZX
  else ZX)=ZY (.ok r,ρ'):=em
 split at em
 ·rename_i hk;split at em
  ·rename_i ys ps e2;split at em
   ·rename_i hz;cases em;exact⟨l,ρ1,ys,ps,e1,hk,e2,hz,rfl,rfl⟩
   ·cases em
  ·cases em
  ·cases em
 ·cases em
theorem auk{F:Hp}{σ:L2.St}(src:List (Option Nat)):Lent K F σ (pick src σ) src (src.map λ_=>ZX):=by
 refine⟨by simp[pick],by simp,λi j o h q =>?_,λi d h q =>?_⟩
 ·unfold pick;rw[aN,h];show ZY ((σ[j]?).bind id)=ZY o;rw[q];rfl
 ·rw[aN,h] at q;cases q
theorem Ext.upd{O O':aY->Prop}{F H F' H':Hp}{d:aY}{o:HO}(x:Ext O O' F H F' H')(h:H d=ZX):Ext O O' F H F' (upd H' d o) :=
 ⟨x.sub,x.new,λa u e n=>by rw[bf (gj e h)];exact x.keep a u e n,x.own,λa e=>by
  by_cases ha:a=d
  ·subst ha;exact h
  ·rw[bf ha] at e;exact x.there a e⟩
theorem Good.upd{tg:Nat->aY}{F H:Hp}{ρ:Ro}{σ:L2.St}{d:aY}(G:Good K tg F H ρ σ)(hf:F d=ZX)(hn:¬Own ρ σ d)(o:HO)(hi:∀C dx fs,H d≠ZY (.ins C dx fs)):Good K tg F (upd H d o) ρ σ :=
 G.grow (Same.refl F) (λb u e=>by
  have hb:b≠d:=λz=>by
   subst z;rw[hf] at e;cases e
  rw[bf hb];exact G.sub b u e) (λa w=>⟨(G.ownAt w).1,by
  have hb:a≠d:=λz=>hn (z▸w)
  rw[bf hb]⟩) λa C dx fvs h1 h2=>⟨h1,by
  have hb:a≠d:=λz=>hi C dx fvs (z▸h2)
  rw[bf hb]⟩
theorem agg{mi:M (List D)}{bb:D->Ro->Option Ro}{mc:M Bool}{me:M D}{src:List (Option Nat)}(σ:L2.St)(H:Hp)(Q:VK)(t:T K (relR K) (tu src mi bb mc me) σ H Q):atj (TIt K mi) (TGd K bb) (TB K mc) (T K (relD K) me) src σ H Q:=by
 obtain⟨tg,F,ρ,r,ρ',G,em,q⟩:=t;obtain⟨l,ρ1,yf,ps,e1,hj,e2,hz,rfl,rfl⟩:=ayr em;refine⟨tg,F,ρ,l,ρ1,G,e1,λJ H1 F1 G1 x1 Z dd hd =>?_⟩
 have L:Lent K F1 σ (pick src σ) src (src.map λ_=>ZX):=auk src
 have Gl:=aei G1 hj L;have own0:¬Own (lend ρ1 src (src.map λ_=>ZX)) (pick src σ) dd:=λz=>Gl.own_ne hd z rfl
 refine azo Z (λi ys σc Hc=>∃Fc ρc yd,Good K (tgOf (pick src σ)) Fc Hc ρc σc/\Ext (Own (lend ρ1 src (src.map λ_=>ZX)) (pick src σ)) (Own ρc σc) F1 H1 Fc Hc/\Fc dd=ZX/\¬Own ρc σc dd/\Hc dd=ZY (.lst ys)/\IsL K Fc yd ys/\compD bb mc me (l.drop i) yd ρc=ZY (.ok yf,ps))
  ⟨F1,_,[],Gl.upd (G1.freeF hd) own0 _ (λ_ _ _ z=>by rw[hd] at z;cases z),(Ext.refl _ _ _).upd hd,G1.freeF hd,own0,di,.nil,e2⟩ ?_ ?_ ?_
 ·rintro i ys σc Hc _ ⟨Fc,ρc,yd,Gc,xc,_,_,hdd,_,_⟩
  exact⟨xc.sub.trans Gc.sub,hdd⟩
 ·rintro i d x ys σc Hc0 Hc M hdl ⟨Fc0,ρc,yd,Gc0,xc0,fd0,od0,hdd0,iy0,ec⟩ al hM
  obtain⟨Fc,Gc,xc,_,idl,xa⟩:=ark Gc0 xc0 xc0.sub al;have iy:=iy0.mono xa.sub;have hlt:i < l.length:=(aQ.mp hdl).1;have edl:l[i]=d:=(aQ.mp hdl).2;rw[sW hlt,edl] at ec;unfold compD at ec;have step:∀{F2 H2:Hp} {ρ2 ρ3:Ro} {σ2 σ3:L2.St} {F3 H3:Hp},F2 dd=ZX->¬Own ρ2 σ2 dd->H2 dd=ZY (.lst ys)->Ext (Own ρ2 σ2) (Own ρ3 σ3) F2 H2 F3 H3->F3 dd=ZX/\¬Own ρ3 σ3 dd/\H3 dd=ZY (.lst ys):=λ{F2 H2 ρ2 ρ3 σ2 σ3 F3 H3} h1 h2 h3 x3=>by
   refine⟨?_,λz =>?_,x3.keep _ _ h3 h2⟩
   ·cases z:F3 dd with
    | none=>rfl
    | some o =>
     rcases x3.new _ _ z with z | z | z
     ·rw[h1] at z;cases z
     ·rw[h3] at z;cases z
     ·exact absurd z h2
   ·rcases x3.own _ z with z | z
    ·exact h2 z
    ·rw[h3] at z;cases z
  obtain⟨fd,od,hdd⟩:=step fd0 od0 hdd0 xa;split at ec
  ·cases ec
  ·rename_i ρ2 eb;refine⟨_,Fc,ρc,d,ρ2,Gc,idl,eb,λσ2 H2 F2 G2 x2 =>?_⟩
   obtain⟨k,ρ3,ek,ec⟩:=az ec;obtain⟨fd2,od2,hdd2⟩:=step fd od hdd x2;refine⟨_,F2,ρ2,k,ρ3,G2,ek,λH3 F3 G3 x3 =>?_⟩
   obtain⟨fd3,od3,hdd3⟩:=step fd2 od2 hdd2 x3;cases k with
   | false =>
    refine iteF (hM _ _ _ ⟨F3,ρ3,yd,G3,(xc.trans x2).trans x3,fd3,od3,hdd3,(iy.mono x2.sub).mono x3.sub,ec⟩)
   | true =>
    obtain⟨y,ρ4,ey,ec⟩:=az ec;refine iteT ⟨_,F3,ρ3,y,ρ4,G3,ey,λv H4 F4 G4 x4 iv =>?_⟩
    obtain⟨fd4,od4,hdd4⟩:=step fd3 od3 hdd3 x4;refine⟨hdd4,?_,hM _ _ _ ⟨F4,ρ4,yd++[y],G4.upd fd4 od4 _ (λ_ _ _ z=>by rw[hdd4] at z;cases z),(((xc.trans x2).trans x3).trans x4).upd hd,fd4,od4,di,?_,ec⟩⟩
    ·have:=ah9 ec;rw[cP,iy.length] at this;rw[eV];exact cC (by simpa using jH ys.length) (dC this hz)
    ·exact(((iy.mono x2.sub).mono x3.sub).mono x4.sub).append (.cons iv .nil)
 ·rintro ys σc Hc ⟨Fc,ρc,yd,Gc,xc,fd,od,hdd,iy,ec⟩
  rw[uE (aM _)] at ec;obtain⟨rfl,rfl⟩:=ji (show ret yd ρc=_ from ec)
  have fin:Fin K Fc Hc (pick src σ) ps (Own ps σc):=⟨λi l' e=>by
   obtain⟨o,ho,a,ws,rfl,hf,hh,hl,ht⟩:=Gc.at e;rw[ht i rfl];exact⟨⟨i,⟨_,_,e⟩,ho⟩,hf,ws,hh,hl⟩⟩
  refine q _ Hc Fc (aic G1 L xc Gc.sub fin) (x1.trans (alc G1 L xc)) ⟨dd,ys,rfl,.inl (x1.there dd hd),fd,hdd,iy,λ⟨j,w⟩ =>?_⟩
  exact G1.own_ne hd ⟨j,ae3 w⟩ rfl
theorem ue{ifs:List dH}{scope:jV}{mi:M (List D)}{bb:D->Ro->Option Ro}{mc:M Bool}{me:M D}(fr N:List Str)(src:List (Option Nat))(hc:X.calm=ZW)(hi:IT K X tgt iter mi)
  (hg:∀fp s H,GV K (cxC X N scope fr fp s H) tgt bb) (ht:∀fp s H,EIf K (cxC X N scope fr fp s H) ifs mc) (he:∀fp s H,EV K (cxC X N scope fr fp s H) elt me)
  (hok:aji X.env X.N scope fr N src=ZW:=by rfl) (hkind:scope.kind=.function:=by rfl) (hclos:lY scope X.env=pure (qt X.env fr):=by rfl)
  (hs:∀x,fB iter X.env x=pure x:=by intro _;rfl):ER K X (.ListComp elt [⟨tgt,iter,ifs,0⟩] scope pos) (tu src mi bb mc me):=ER.mk λhk=>by
 have hkc:∀fp s H,(cxC X N scope fr fp s H).K=K:=λ_ _ _=>hk
 refine PE.imp (a2n fr N src hc (hi hk) (λfp s H=>(hg fp s H).go (hkc _ _ _)) (λfp s H=>(ht fp s H).go (hkc _ _ _)) (λfp s H=>(he fp s H).go (hkc _ _ _)) hok hkind hclos hs) agg
end
end Dn
namespace Mn
open L2
theorem a2c{X:Cx}{tg iter elt:dH}{ifs:List dH}{scope:jV}{cpos pos px:Pos}{wi:TI}{g:TG}{ti:TT}{te:TE}{i:Nat}{x:Str}(fr N:List Str)(src:List (Option Nat))(hN:X.N.Nodup)(hxi:X.N[i]? = ZY x)(hx:Loc X.env.scope x)(hc:X.calm=ZW)(hi:PI X tg iter wi)
  (hg:∀fp s H,PG (cxC X N scope fr fp s H) tg g) (ht:∀fp s H,PIf (cxC X N scope fr fp s H) ifs ti) (he:∀fp s H,PE (cxC X N scope fr fp s H) elt te)
  (hsw:fY (.ListComp elt [⟨tg,iter,ifs,0⟩] scope cpos) (ZY (.Name x px)) pos.line X.env=pure ZW:=by rfl)
  (hok:aji X.env X.N scope fr N src=ZW:=by rfl) (hkind:scope.kind=.function:=by rfl) (hclos:lY scope X.env=pure (qt X.env fr):=by rfl)
  (hs:∀x,fB iter X.env x=pure x:=by intro _;rfl) (hf:X.fn x=ZW∨X.env.scope.names.lookup x=ZY .local:=by first | exact .inl rfl | exact .inr rfl | assumption) :
  PS X (.Assign [.Name x px] (.ListComp elt [⟨tg,iter,ifs,0⟩] scope cpos) pos) (tAsg (atj wi g ti te src) (aza i)):=by
 have C:=CompOk.of hok;intro qv s σ H D I h;rw[exec_Assign_Name_used _ _ _ _ hsw];refine aB (wpAny_standAt (aB ?_));show bT _ _ (comprehension (.ListComp elt [⟨tg,iter,ifs,0⟩] scope cpos) scope X.env (firstIterPos [⟨tg,iter,ifs,0⟩] cpos) (newList []) (firstAsync [⟨tg,iter,ifs,0⟩]) (firstIter [⟨tg,iter,ifs,0⟩] X.env) (ZY (lG (.Name x px) X.env)) >>= λ_=>pure ()) _ _ _
 refine aB (wpAny_comprehension_free (use:=ZY (lG (.Name x px) X.env)) (Q:=λ_ s'=>bT (cA X.prog X.w) X.A (pure ()) (λ_ s''=>bT (cA X.prog X.w) X.A (pure uQ) (SP X qv D) X.xe s'') X.xe s') rfl hs hclos hkind C.loc (cU (hi qv s σ H _ I h) (λv s1 h1=>cU h1 (λitv s2 h2 =>?_) λ_ _ e=>e) λ_ _ e=>e))
 obtain⟨it,fp,tn,J,H2,e,I2,T,st2,f2,q2⟩:=h2;subst e;have hd0:H2 s2.heap.objs.size=ZX:=I2.hok.fresh (aM _);obtain⟨W,⟨m0,w0⟩,turn⟩:=q2 s2.heap.objs.size hd0;refine eH ?_;generalize hs3:({ s2 with heap:=s2.heap.push { cls:=.type "list", dict:=ZX,data:=.seq ([]:List aH).toArray } }:aO)=s3
 have keep2:∀b o,s2.heap.get? b=ZY o->s3.heap.get? b=ZY o:=λb o e=>by rw[<-hs3];exact aD _ e
 have I3:Inv X qv σ (upd H2 s2.heap.objs.size (.lst [])) s3:=by
  rw[<-hs3];exact I2.laid (t':=s2.toks) (λb u q=>aD _ q) (aM _) ⟨Nat.zero_le _,[],0,.nil,aW _ rfl⟩
 have ne0:∀b∈fp,b≠s2.heap.objs.size:=λb hb=>by
  obtain⟨o,e,_⟩:=T.obj _ _ st2 b hb;exact bQ (aV e)
 have f3:∀b∈fp,FpOk X qv (upd H2 s2.heap.objs.size (.lst [])) b:=λb hb=>⟨by rw[bf (ne0 b hb)];exact(f2 b hb).1,(f2 b hb).2⟩
 have lt3:∀b∈fp,b < s3.heap.objs.size:=λb hb=>by
  obtain⟨o,e,_⟩:=T.obj _ _ st2 b hb;exact aV (keep2 b o e)
 refine wpAny_newFunctionEnv C.cell (by intro y hy;simp at hy) (λh₁ hns₁ hsb₁ =>?_) hkind
 have keep3:∀b o,s3.heap.get? b=ZY o->h₁.get? b=ZY o:=λb o e=>hsb₁.extBut b o (bQ (aV e)) (aD _ e)
 have st4:tn 0 h₁:=T.keep _ _ _ st2 λb hb o e=>keep3 b o (keep2 b o e)
 have I4:=aqp (tk:=s3.toks+([]:List (Str×Value)).length) I3 C hkind f3 lt3 hns₁ keep3;have loop:=ae0 (X:=cxC X N scope fr fp s3 (upd H2 s2.heap.objs.size (.lst []))) (iter:=iter) (scope:=scope) (pos:=cpos) (d:=s2.heap.objs.size) (Q:=λv H1=>D.nx (σ.set i (ZY v)) H1)
  (R:=compPost (cA X.prog X.w) X.A X.xe (ZY (lG (.Name x px) X.env)) (λ_ s'=>bT (cA X.prog X.w) X.A (pure ()) (λ_ s''=>bT (cA X.prog X.w) X.A (pure uQ) (SP X qv D) X.xe s'') X.xe s') (.ref s2.heap.objs.size) s3.heap.objs.size) hc rfl T
  (λH' hn b hb=>⟨hn b hb,bQ (lt3 b hb),I4.ok.exfs b hb,.inl hb,(I4.ok.exf b hb).2,λp hp=>absurd (show p∈([]:List (aY×Obj)) from hp) (by simp)⟩)
  (hg fp s3 _) (ht fp s3 _) (he fp s3 _) turn w0 I4 st4 (λb hb=>(f3 b hb).1) (λσ' H' s' I6 qn=>by
   obtain⟨m6,hn6,_⟩:=I6.loc;have fC:FpOk X qv H' s3.heap.objs.size:=I3.fpOk (aM _) I6.free;have I7:Inv X qv σ H' s':=aqq I3 f3 I6 (wG ..);refine wpAny_assign_Name (agn I7 hN hxi hx (v:=.ref s2.heap.objs.size) rfl (λs8 I8 ⟨a,sb,ha⟩ =>?_) hf)
   have hne:s3.heap.objs.size≠a:=by
    rcases ha with rfl | ha
    ·exact fC.2.1
    ·exact(fC.2.2.2.2.1 x a ha).symm
   obtain⟨o6,es6,ep6,g6,r6⟩:=hn6;refine⟨m6,⟨o6,es6,ep6,(sb.2 _ hne).trans g6,r6⟩,λh9 sb9=>aR (aR ⟨_,H',?_,qn⟩)⟩
   exact I8.turned (t':=s8.toks) (it:=s3.heap.objs.size) (λb o hb e=>(sb9.2 b hb).trans e) fC.1 fC.2.1 fC.2.2.2.1 fC.2.2.2.2.1 fC.2.2.2.2.2)
 exact codeAny_compStart_list loop (T.self _ 0 _ _ _ st4 loop)
end Mn
namespace Dn
open L2 Mn
section
variable{K:Fg9}{X:Cx}{tgt iter elt:dH}{pos p:Pos}
theorem ajs{i:Nat}{x:Str}{ifs:List dH}{scope:jV}{cpos:Pos}{mi:M (List D)}{bb:D->Ro->Option Ro}{mc:M Bool}{me:M D}(fr N:List Str)(src:List (Option Nat))(hN:X.N.Nodup)(hxi:X.N[i]? = ZY x)(hx:Loc X.env.scope x)(hc:X.calm=ZW)(hi:IT K X tgt iter mi)
  (hg:∀fp s H,GV K (cxC X N scope fr fp s H) tgt bb) (ht:∀fp s H,EIf K (cxC X N scope fr fp s H) ifs mc) (he:∀fp s H,EV K (cxC X N scope fr fp s H) elt me)
  (hsw:fY (.ListComp elt [⟨tgt,iter,ifs,0⟩] scope cpos) (ZY (.Name x p)) pos.line X.env=pure ZW:=by rfl)
  (hok:aji X.env X.N scope fr N src=ZW:=by rfl) (hkind:scope.kind=.function:=by rfl) (hclos:lY scope X.env=pure (qt X.env fr):=by rfl)
  (hs:∀x,fB iter X.env x=pure x:=by intro _;rfl) (hf:X.fn x=ZW∨X.env.scope.names.lookup x=ZY .local:=by first | exact .inl rfl | exact .inr rfl | assumption) :
  SV K X (.Assign [.Name x p] (.ListComp elt [⟨tgt,iter,ifs,0⟩] scope cpos) pos) (dSet i (tu src mi bb mc me)):=SV.mk λhk=>by
 have hkc:∀fp s H,(cxC X N scope fr fp s H).K=K:=λ_ _ _=>hk
 refine PS.imp (a2c fr N src hN hxi hx hc (hi hk) (λfp s H=>(hg fp s H).go (hkc _ _ _)) (λfp s H=>(ht fp s H).go (hkc _ _ _)) (λfp s H=>(he fp s H).go (hkc _ _ _)) hsw hok hkind hclos hs hf) λE σ H ⟨tg,F,ρ,fl,ρ',G,em,q⟩=>u9 em q λr ρ1 e1 em =>?_
 cases em;refine agg σ H _ ⟨tg,F,ρ,r,ρ1,G,e1,λv H' F' G' x rr =>?_⟩
 obtain⟨G2,x2⟩:=G'.store x i rr;exact q _ H' F' G2 x2
end
@[irreducible] noncomputable def fuel:Nat:=1000000000
section
variable{K:Fg9}{X:Cx}{e a b c:dH}{es:List dH}{pos p p2:Pos}
noncomputable def isN:D->Bool
 | .non=>ZW
 | _=>ZV
def mIsN(neg:Bool)(m:M D):M D:=m.bind λd=>ret (.bl (if neg then !isN d else isN d))
theorem a4o{F H:Hp}{d:D}{x:V}(h:Bor K F H d x):decide (x=.non)=isN d:=by
 rcases h with h | ⟨a,vs,l',rfl,rfl,_⟩
 ·cases h <;> first | rfl | (simp[isN])
 ·simp[isN]
theorem a3p{neg:Bool}{m:M D}{t:TE->TE}(ht:∀te σ H Q,t te σ H Q=te σ H λx H1=>Q (.bl (if neg then !decide (x=.non) else decide (x=.non))) H1)(σ:L2.St)(H:Hp)(Q:VK)(h:T K (relD K) (mIsN neg m) σ H Q):t (T K (relB K) m) σ H Q:=by
 rw[ht];obtain⟨tg,F,ρ,d,ρ',G,em,q⟩:=h;obtain⟨d1,ρ1,e1,em⟩:=az em;obtain⟨rfl,rfl⟩:=ji em;refine⟨tg,F,ρ,d1,_,G,e1,λv H' F' G' x r =>?_⟩
 show Q (.bl (if neg then !decide (v=.non) else decide (v=.non))) H'
 rw[a4o r];exact q _ H' F' G' x (.bl _)
theorem aqm{neg:Bool}{m:M D}{t:TE->TE}(ht:∀te σ H Q,t te σ H Q=te σ H λx H1=>Q (.bl (if neg then !decide (x=.non) else decide (x=.non))) H1)(σ:L2.St)(H:Hp)(Q:Bool->Hp->Prop)(h:TB K (aan (mIsN neg m)) σ H Q):tB (t (T K (relB K) m)) σ H Q:=by
 obtain⟨tg,F,ρ,k,ρ',G,em,q⟩:=h;obtain⟨d1,ρ1,e1,em⟩:=az em;obtain⟨e3,rfl⟩:=fu em;obtain rfl:=arj e3;refine a3p ht σ H _ ⟨tg,F,ρ,_,_,G,e1,λv H' F' G' x r =>?_⟩
 cases r;exact⟨k,rfl,q H' F' G' x⟩
theorem amv{j:Nat}{m:M D}(h:EB K X a m):ET K X (.Compare a [.Is] [.Constant .none j p] p2) (aan (mIsN ZV m)):=ET.mk λhk=>PT.imp (a0g (a65 (h hk))) (aqm (t:=tIsN) λ_ _ _ _=>rfl)
theorem asv{j:Nat}{m:M D}(h:EB K X a m):ET K X (.Compare a [.IsNot] [.Constant .none j p] p2) (aan (mIsN ZW m)):=ET.mk λhk=>PT.imp (a0g (a2r (h hk))) (aqm (t:=a5n) λ_ _ _ _=>rfl)
end
def apg(f:Fd):Prop:=∀ns:List Int,ns.length<=63->∃ps,f [.val (.kst (ns.map D.int))]=ZY (.ok (.v (.bl ZW)),ps)
theorem a5u{K:Fg9}{f:Fd}(h:apg f)(H:Hp)(a:aY)(ns:List Int)(hn:ns.length<=63)(hS:SqL K H a (ns.map V.int)):spOf K 1 f [.ref a] H (λv _=>v=.bl ZW) λ_ _ _=>False:=by
 obtain⟨ps,e⟩:=h ns hn;refine⟨rfl,H,_,_,ps,⟨Same.refl H,rfl,λi s o e1 e2 =>?_,λi j b ⟨⟨t,l,e1⟩,_⟩ _=>by cases i <;> simp at e1⟩,e,λv H' F' O' _ _ _ rr =>?_⟩
 ·cases i with
  | zero =>
   simp at e1 e2;subst e1 e2;exact⟨_,rfl,.kst hS (ael ns)⟩
  | succ i=>simp at e1
 ·have rr:Is K F' (.bl ZW) v:=rr;cases rr;rfl
theorem walk{l:rH}{q:cG}{loose:List Str}{XP:(Str->Option aH)->fH->Prop}{YP:dZ->fH->Prop}{d:DefRec}{K:Params->Fg9}{f:Fd}{k:Nat}(ht:apg f)(hn:l.most=ZY 63)(hdf:d.params.defaults=[])(hr:Room k qC)
  (hY:∀(w:dZ) (h:fH),YP w h->(K w.params).In h)
  (F:∀(w:dZ) (mg:Str->Option aH) (fa:aY) (h:fH),(K w.params).In h->h.Ns bK mg->mg d.name=ZY (.ref fa) ->
   ∃fd:gB,(∀(s:aO) (u:aH),BindsTo s fd ⟨[u],[]⟩ [("script", u)])/\∀base:fH,(K w.params).In base->base.Ns bK mg->FnOk l.prog w (K w.params) mg base CX0 k fa fd ["script"] (spOf (K w.params) 1 f)) :
  xW q loose XP YP l.row.toRowW d [] (λf vs=>vR f vs) :=
 L2.a1c (n:=63) (k:=k) (x := "script") (CX:=λ_=>CX0) (sp:=λw=>spOf (K w.params) 1 f) hn (by decide) hdf hr hY F (λ_ H a ns hl _ hS=>a5u ht H a ns hl hS) λ_ _ _ _ _ z=>z
section
variable{α β:Type}(ρ:Ro)
@[simp] theorem bcu(a:α):ret a ρ=ZY (.ok a,ρ):=rfl
@[simp] theorem bbj(o:Option α):lift o ρ=match o with
 | some a=>ZY (.ok a,ρ)
 | none=>ZX:=rfl
@[simp] theorem a4q(m:M α)(k:α->M β):M.bind m k ρ=match m ρ with
 | some (.ok a,ρ1)=>k a ρ1
 | some (.exc x,ρ1)=>ZY (.exc x,ρ1)
 | none=>ZX:=rfl
@[simp] theorem v_ap(m:M D):M.v m ρ=(m.bind λd=>ret (.v d)) ρ:=rfl
@[simp] theorem d_ap(m:M Rv):M.d m ρ=(m.bind λr=>ret r.d) ρ:=rfl
@[simp] theorem bc9(d:D):(Rv.v d).d=d:=rfl
@[simp] theorem bct(l:List D):(Rv.fr l).d=.lst l:=rfl
@[simp] theorem bcs(d:D)(l:List D):(Rv.tf d l).d=.tup [d,.lst l]:=rfl
@[simp] theorem bc8(d:D):(Rv.v d).sl=.val d:=rfl
@[simp] theorem bcr(l:List D):(Rv.fr l).sl=.own ZX l:=rfl
@[simp] theorem ba8(i:Nat):mVar i ρ=match ρ[i]? with
 | some (.val d)=>ZY (.ok d,ρ)
 | some (.own ZX l)=>ZY (.ok (.lst l),ρ.set i (.val (.lst l)))
 | _=>ZX:=rfl
@[simp] theorem a9f(i:Nat):dj i ρ=match ρ[i]? with
 | some (.val d)=>ZY (.ok d,ρ)
 | some (.own _ l)=>ZY (.ok (.lst l),ρ)
 | _=>ZX:=rfl
@[simp] theorem a9k(i:Nat):ahc i ρ=match ρ[i]? with
 | some (.val d)=>ZY (.ok (.v d),ρ)
 | some (.own ZX l)=>ZY (.ok (.fr l),ρ.set i .emp)
 | _=>ZX:=rfl
@[simp] theorem bba(i:Nat):mOwn i ρ=match ρ[i]? with
 | some (.own _ l)=>ZY (.ok l,ρ)
 | _=>ZX:=rfl
@[simp] theorem a7o(i:Nat)(l':List D):aeh i l' ρ=match ρ[i]? with
 | some (.own t _)=>ZY (.ok (),bB ρ i (.own t l'))
 | _=>ZX:=rfl
@[simp] theorem a9i(m1 m2:M D):jd m1 m2 ρ=(m1.bind λx=>m2.bind λy=>ret (x,y)) ρ:=rfl
@[simp] theorem a7p(i:Nat)(m2:M D):cz i m2 ρ=((dj i).bind λ_=>m2.bind λy=>(dj i).bind λx=>ret (x,y)) ρ:=rfl
@[simp] theorem bcw(g:D->D->Option Rv)(m:M (D×D)):mOp g m ρ=(m.bind λp=>lift (g p.1 p.2)) ρ:=rfl
@[simp] theorem bcv(g:D->Option D)(m:M D):mUn g m ρ=(m.bind λd=>lift (g d)) ρ:=rfl
@[simp] theorem bbi(m1 m2:M D):mAnd m1 m2 ρ=(m1.bind λd=>(lift (asB d)).bind λk=>if k=ZW then m2 else ret (.bl ZV)) ρ:=rfl
@[simp] theorem a9g(m:M D):aan m ρ=(m.bind λd=>lift (asB d)) ρ:=rfl
@[simp] theorem a7n(g:D->D->Option Rv)(m:M (D×D)):mq g m ρ=aan (mOp g m).d ρ:=rfl
@[simp] theorem a9j(m:M Bool):ahb m ρ=(m.bind λk=>ret (!k)) ρ:=rfl
@[simp] theorem a9q(m1 m2:M Bool):a3i m1 m2 ρ=(m1.bind λk=>if k=ZW then m2 else ret ZV) ρ:=rfl
@[simp] theorem bbb(m1 m2:M Bool):mOrB m1 m2 ρ=(m1.bind λk=>if k=ZW then ret ZW else m2) ρ:=rfl
@[simp] theorem bcx(m:M Bool)(m1 m2:M α):mIf m m1 m2 ρ=(m.bind λk=>if k=ZW then m1 else m2) ρ:=rfl
@[simp] theorem bcz(c:Prop)[Decidable c](m1 m2:M α):(if c then m1 else m2) ρ=if c then m1 ρ else m2 ρ:=by split <;> rfl
@[simp] theorem bbr(c:Prop)[Decidable c](m1 m2:Sd):(if c then m1 else m2) ρ=if c then m1 ρ else m2 ρ:=by split <;> rfl
@[simp] theorem bc7(b:Bool):asB (.bl b)=ZY b:=rfl
@[simp] theorem bcm(b:Int):asI (.int b)=ZY b:=rfl
@[simp] theorem bbz(b:Bool):gNot (.bl b)=ZY (.bl (!b)):=rfl
@[simp] theorem a9r(b:Int):gNeg (.int b)=ZY (.int (-b)):=rfl
@[simp] theorem a94(i j:Int):gAdd (.int i) (.int j)=ZY (.v (.int (i+j))):=rfl
@[simp] theorem a92(l k:List D):gAdd (.tup l) (.tup k)=if l.length+k.length<=capS then ZY (.v (.tup (l++k))) else ZX:=rfl
@[simp] theorem a93(l k:List D):gAdd (.lst l) (.lst k)=if l.length+k.length<=capS then ZY (.fr (l++k)) else ZX:=rfl
@[simp] theorem a9v(f:Int->Int->Option Int)(i j:Int):gInt f (.int i) (.int j)=(f i j).map λk=>.v (.int k):=rfl
@[simp] theorem bb8(i j:Int):fSub i j=ZY (i - j):=rfl
@[simp] theorem a9u(i j:Int):gMul (.int i) (.int j)=(fMul i j).map λk=>.v (.int k):=rfl
@[simp] theorem a9s(l:List D)(k:Int):gMul (.tup l) (.int k)=if k=1 then ZY (.v (.tup l)) else if l≠[]/\2<=k/\k < 9223372036854775808/\l.length*k.toNat<=capS then ZY (.v (.tup (aP k.toNat l).flatten)) else ZX:=rfl
@[simp] theorem a9t(l:List D)(k:Int):gMul (.lst l) (.int k)=if k.natAbs < 9223372036854775808/\l.length*k.toNat<=capS then ZY (.fr (aP k.toNat l).flatten) else ZX:=rfl
@[simp] theorem a90(f:Int->Int->Bool)(i j:Int):gCmp f (.int i) (.int j)=ZY (.v (.bl (f i j))):=rfl
@[simp] theorem bbf(t:Ty)(m:M D):mIsi t m ρ=(m.bind λd=>ret (.bl (isTy t d))) ρ:=rfl
@[simp] theorem a7w(f g:Int->Int->Bool)(m1 m2 m3:M D):al8 f g m1 m2 m3 ρ=(m1.bind λx=>m2.bind λy=>match x,y with
 | .int i,.int j=>if f i j=ZW then m3.bind λz=>match z with
  | .int k=>ret (.bl (g j k))
  | _=>lift ZX
  else ret (.bl ZV)
 | _,_=>lift ZX) ρ:=rfl
@[simp] theorem bbc:mNil ρ=ZY (.ok [],ρ):=rfl
@[simp] theorem a9o(m:M D)(ms:M (List D)):b7 m ms ρ=(m.bind λd=>ms.bind λds=>ret (d::ds)) ρ:=rfl
@[simp] theorem a7v(i:Nat)(ms:M (List D)):dw i ms ρ=((dj i).bind λ_=>ms.bind λds=>(dj i).bind λd=>ret (d::ds)) ρ:=rfl
@[simp] theorem ba9(m:M (List D)):mTup m ρ=(m.bind λds=>lift (gTup ds)) ρ:=rfl
@[simp] theorem bbe(m:M (List D)):mLst m ρ=(m.bind λds=>lift (gLst ds)) ρ:=rfl
@[simp] theorem a9p(g:List D->Option Rv)(m:M (List D)):gb g m ρ=(m.bind λds=>lift (g ds)) ρ:=rfl
@[simp] theorem bc2(f:D->Option Rv)(d:D):g1 f [d]=f d:=rfl
@[simp] theorem bc1(f:D->D->Option Rv)(d d':D):g2 f [d,d']=f d d':=rfl
@[simp] theorem a79(l:List D):itemsD (.tup l)=ZY l:=rfl
@[simp] theorem a8a(l:List D):itemsD (.lst l)=ZY l:=rfl
@[simp] theorem a8b(l:List D):itemsD (.kst l)=ZY l:=rfl
@[simp] theorem a91(l:List D):gAll (.lst l)=(abk l).map λbs=>.v (.bl (bs.all id)):=rfl
@[simp] theorem a8i(i:Int):azd (.int i)=ZY (.v (.int i)):=rfl
@[simp] theorem a9w(i:Bool):azd (.bl i)=ZY (.v (.int (if i then 1 else 0))):=rfl
@[simp] theorem bb1(d:D)(k:Int):gIx d (.int k)=(itemsD d).bind λl=>(atI l k).map λx=>.v x:=rfl
@[simp] theorem a9n(i:Nat)(ml mh:M (Option Int)):au1 i ml mh ρ=((dj i).bind λ_=>ml.bind λlo=>mh.bind λhi=>(dj i).bind λd=>lift (gCut d lo hi)) ρ:=rfl
@[simp] theorem a9h(m:M D):asm m ρ=(m.bind λd=>lift ((asI d).map ZY)) ρ:=rfl
@[simp] theorem a9x(l:List D)(lo hi:Option Int):gCut (.tup l) lo hi=ZY (.v (.tup (cutD l lo hi))):=rfl
@[simp] theorem a9y(l:List D)(lo hi:Option Int):gCut (.lst l) lo hi=ZY (.fr (cutD l lo hi)):=rfl
@[simp] theorem a9z(l:List D)(lo hi:Option Int):gCut (.kst l) lo hi=ZY (.fr (cutD l lo hi)):=rfl
@[simp] theorem bbg(neg:Bool)(m:M D):mIsN neg m ρ=(m.bind λd=>ret (.bl (if neg then !isN d else isN d))) ρ:=rfl
@[simp] theorem a7q(m:M D):qi m ρ=(m.bind λd=>lift (itemsD d)) ρ:=rfl
@[simp] theorem bbh(g:α->Option β)(m:M α):mGet g m ρ=(m.bind λds=>lift (g ds)) ρ:=rfl
@[simp] theorem aoy(j:Int):qb [.int j]=if j.natAbs < 4611686018427387904 then ZY (rangeD 0 j.toNat) else ZX:=rfl
@[simp] theorem a3u(i j:Int):aky [.int i,.int j]=if i.natAbs < 4611686018427387904/\j.natAbs < 4611686018427387904 then ZY (rangeD i (j - i).toNat) else ZX:=rfl
@[simp] theorem a3w(i j:Int):ak0 (.int i) (.int j)=if 0 < j/\j < 1000000000000000000000000000000000000000000000000000000000000 then ZY (.v (.tup [.int (i / j),.int (i % j)])) else ZX:=rfl
@[simp] theorem bbd(i:Nat)(g:List D->List D->Option (D×List D))(ms:M (List D)):mMut i g ms ρ=((mOwn i).bind λ_=>ms.bind λds=>(mOwn i).bind λl=>(lift (g l ds)).bind λr=>(aeh i r.2).bind λ_=>ret r.1) ρ:=rfl
@[simp] theorem a3z(l:List D)(d:D):yo l [d]=if l.length < capS then ZY (.non,l++[d]) else ZX:=rfl
@[simp] theorem a9m:fj ρ=ZY (.ok [],ρ):=rfl
@[simp] theorem a7s(m:M D)(ms:M (List (Option D))):bc m ms ρ=(m.bind λd=>ms.bind λds=>ret (ZY d::ds)) ρ:=rfl
@[simp] theorem a7r(j:Nat)(ms:M (List (Option D))):bu j ms ρ=((dj j).bind λ_=>ms.bind λds=>ret (ZX::ds)) ρ:=rfl
@[simp] theorem bcy(f:Fd)(js:List (Option Nat))(ms:M (List (Option D))):mFn f js ms ρ=(ms.bind λds ρ=>if okJs ρ js=ZW then match f (lend ρ js ds) with
  | some (.ok r,ps)=>ZY (.ok r,putB ρ js ps)
  | some (.exc x,ps)=>ZY (.exc x,putB ρ js ps)
  | none=>ZX
 else ZX) ρ:=rfl
@[simp] theorem ayt(src:List (Option Nat))(mi:M (List D))(b:D->Ro->Option Ro)(mc:M Bool)(me:M D):tu src mi b mc me ρ=(mi.bind λl ρ=>if okJs ρ src=ZW then match compD b mc me l [] (lend ρ src (src.map λ_=>ZX)) with
  | some (.ok ys,ps)=>if ys.length<=capS then ZY (.ok (.fr ys),putB ρ src ps) else ZX
  | some (.exc x,ps)=>ZY (.exc x,putB ρ src ps)
  | none=>ZX
 else ZX) ρ:=rfl
@[simp] theorem a9e:okJs ρ []=ZW:=rfl
@[simp] theorem a7h(r:List (Option Nat)):okJs ρ (ZX::r)=okJs ρ r:=rfl
@[simp] theorem a7g(j:Nat)(r:List (Option Nat)):okJs ρ (ZY j::r)=((match ρ[j]? with
  | some (.own _ _) => !r.contains (ZY j)
  | _=>ZW)&&okJs ρ r):=rfl
@[simp] theorem lend_eq(js:List (Option Nat))(ds:List (Option D)):lend ρ js ds=(xY js ds).mapIdx λi p=>ama ρ i p.1 p.2:=rfl
@[simp] theorem a5c(i j:Nat)(d:Option D):ama ρ i (ZY j) d=match ρ[j]? with
  | some (.val d)=>.val d
  | some (.own _ l)=>.own (ZY i) l
  | _=>.emp:=rfl
@[simp] theorem bbk(i:Nat)(d:D):ama ρ i ZX (ZY d)=.val d:=rfl
@[simp] theorem bbl(i:Nat):ama ρ i ZX ZX=.emp:=rfl
@[simp] theorem bax(js:List (Option Nat))(ps:Ro):putB ρ js ps=ρ.mapIdx λj s=>putS js ps j s:=rfl
@[simp] theorem baw(js:List (Option Nat))(ps:Ro)(j:Nat)(s:Sl):putS js ps j s=match js.findIdx? (λo=>o==ZY j) with
 | none=>s
 | some i=>match s with
  | .own t _=>match ps[i]? with
   | some (.own (ZY i') l')=>if i'=i then .own t l' else .emp
   | _=>.emp
  | s=>s:=rfl
@[simp] theorem bc3(nl np:Nat)(g:Sd):fnD nl np g ρ=match g (ρ++aP (nl - np) .emp) with
 | some (.ret r,ρ)=>ZY (.ok r,ρ.take np)
 | some (.nx,ρ)=>ZY (.ok (.v .non),ρ.take np)
 | some (.exc x,ρ)=>ZY (.exc x,ρ.take np)
 | _=>ZX:=rfl
@[simp] theorem bc5:dNx ρ=ZY (.nx,ρ):=rfl
@[simp] theorem bcc(g k:Sd):dSeq g k ρ=match g ρ with
 | some (.nx,ρ1)=>k ρ1
 | r=>r:=rfl
@[simp] theorem bda(m:M α)(k:α->Sd):dM m k ρ=match m ρ with
 | some (.ok x,ρ1)=>k x ρ1
 | some (.exc x,ρ1)=>ZY (.exc x,ρ1)
 | none=>ZX:=rfl
@[simp] theorem bcd(m:M Rv):dRet m ρ=dM m (λr ρ=>ZY (.ret r,ρ)) ρ:=rfl
@[simp] theorem bc6(m:M Bool)(g k:Sd):dIf m g k ρ=dM m (λz=>if z=ZW then g else k) ρ:=rfl
@[simp] theorem a97(m:M α):adv m ρ=dM m (λ_ ρ=>ZY (.nx,ρ)) ρ:=rfl
@[simp] theorem bcb(i:Nat)(m:M Rv):dSet i m ρ=dM m (λr ρ=>ZY (.nx,bB ρ i r.sl)) ρ:=rfl
@[simp] theorem bcg(m:M D)(b:D->Ro->Option Ro):dAsg m b ρ=dM m (λd ρ=>(b d ρ).map λρ'=>(.nx,ρ')) ρ:=rfl
@[simp] theorem bca(i:Nat)(mi m:M D):dSub i mi m ρ=(dM m λd=>dM (mOwn i) λ_=>dM mi λk=>dM (mOwn i) λl=>dM (lift ((asI k).bind (ixN l.length))) λj=>dM (aeh i (l.set j d)) λ_=>dNx) ρ:=rfl
@[simp] theorem bcf(f:Int->Int->Int)(i:Nat)(m:M D):dAug f i m ρ=(dM (mVar i) λx=>dM m λy=>dM (lift ((asI x).bind λn=>(asI y).map λk=>D.int (f n k))) λz ρ=>ZY (.nx,bB ρ i (.val z))) ρ:=rfl
@[simp] theorem bce(m:M (List D))(b:D->Ro->Option Ro)(g:Sd):dFor m b g ρ=dM m (forD b g) ρ:=rfl
@[simp] theorem agi(i:Nat)(d:D):bj i d ρ=ZY (bB ρ i (.val d)):=rfl
@[simp] theorem bcl:bNil [] ρ=ZY ρ:=rfl
@[simp] theorem a98(b:D->Ro->Option Ro)(bs:List D->Ro->Option Ro)(d:D)(r:List D):je b bs (d::r) ρ=(b d ρ).bind (bs r):=rfl
@[simp] theorem bck(n:Nat)(bs:List D->Ro->Option Ro)(l:List D):bTup n bs (.tup l) ρ=if l.length=n then bs l ρ else ZX:=rfl
end
section
variable(c:Prop)[Decidable c](b:Bool)(ρ:Ro)
@[simp] theorem bbq:(if c then ZY (Out.ok (D.bl b),ρ) else ZY (Out.ok (D.bl ZV),ρ))=ZY (.ok (.bl (decide c&&b)),ρ):=by by_cases h:c <;> simp[h]
end
@[simp] theorem cg{n:Nat}(h:n<=1000):n<=capS:=dC h (by decide)
theorem a4l:capS=16777216:=rfl
@[simp] theorem bby(ds:List D):gTup ds=if ds.length<=capS then ZY (.tup ds) else ZX:=rfl
@[simp] theorem bb0(ds:List D):gLst ds=if ds.length<=capS then ZY (.fr ds) else ZX:=rfl
@[simp] theorem a4p{α:Type}(l:List α)(f:α->Bool):abk (l.map λd=>D.bl (f d))=ZY (l.map f):=by
 have:=ajl (l.map f);rw[cL] at this;exact this
def aap(s:Sl):List D->Sl
 | []=>s
 | d::r=>aap (.val d) r
theorem uf{me:M D}{rest:Ro}{f:D->D}:∀{l:List D} {ys:List D} {s:Sl},(∀d∈l,me (.val d::rest)=ZY (.ok (f d),.val d::rest))->compD (bj 0) (ret ZW) me l ys (s::rest)=ZY (.ok (ys++l.map f),aap s l::rest)
 | [],ys,s,_=>by simp[compD,aap]
 | d::r,ys,s,h=>by
  have h1:=h d (aF ..);have ih:=uf (me:=me) (rest:=rest) (f:=f) (l:=r) (ys:=ys++[f d]) (s:=.val d) λx hx=>h x (aA _ hx)
  simp[compD,h1,ih,aap]
theorem qm{mc:M Bool}{me:M D}{rest:Ro}{p:D->Bool}{f:D->D}:∀{l:List D} {ys:List D} {s:Sl},(∀d∈l,mc (.val d::rest)=ZY (.ok (p d),.val d::rest))->(∀d∈l,p d=ZW->me (.val d::rest)=ZY (.ok (f d),.val d::rest)) ->
  compD (bj 0) mc me l ys (s::rest)=ZY (.ok (ys++(l.filter p).map f),aap s l::rest)
 | [],ys,s,_,_=>by simp[compD,aap]
 | d::r,ys,s,hc,h=>by
  have h0:=hc d (aF ..);cases hp:p d with
  | true =>
   have h1:=h d (aF ..) hp;have ih:=qm (mc:=mc) (me:=me) (rest:=rest) (p:=p) (f:=f) (l:=r) (ys:=ys++[f d]) (s:=.val d) (λx hx=>hc x (aA _ hx)) λx hx=>h x (aA _ hx)
   simp[compD,h0,h1,ih,aap,hp]
  | false =>
   have ih:=qm (mc:=mc) (me:=me) (rest:=rest) (p:=p) (f:=f) (l:=r) (ys:=ys) (s:=.val d) (λx hx=>hc x (aA _ hx)) λx hx=>h x (aA _ hx)
   simp[compD,h0,ih,aap,hp]
@[simp] theorem a96(b:D->Ro->Option Ro)(g:Sd)(ρ:Ro):forD b g [] ρ=ZY (.nx,ρ):=rfl
theorem oh(b:D->Ro->Option Ro)(g:Sd)(d:D)(ds:List D)(ρ:Ro):forD b g (d::ds) ρ=match b d ρ with
  | none=>ZX
  | some ρ1=>match g ρ1 with
   | some (.nx,ρ2)=>forD b g ds ρ2
   | some (.cont,ρ2)=>forD b g ds ρ2
   | some (.brk,ρ2)=>ZY (.nx,ρ2)
   | some (.ret r,ρ2)=>ZY (.ret r,ρ2)
   | some (.exc x,ρ2)=>ZY (.exc x,ρ2)
   | none=>ZX:=rfl
@[simp] theorem bb7{α:Type}(p:α->Bool)(a:α)(l:List α):tV p (a::l)=if p a=ZW then ZY 0 else (tV p l).map (· + 1):=by
 rw[List.findIdx?_cons]
@[simp] theorem bc4{α:Type}(p:α->Bool):tV p ([]:List α)=ZX:=rfl
theorem awk(ns:List Int)(lo hi:Option Int):∃ms:List Int,cutD (ns.map D.int) lo hi=ms.map D.int/\ms.length<=ns.length:=by
 refine⟨(ns.drop (HT.sIx ns.length 0 lo)).take (HT.sIx ns.length ns.length hi - HT.sIx ns.length 0 lo),?_,?_⟩
 ·unfold cutD;rw[aK,xZ,yC]
 ·rw[jJ,oN];omega
theorem acv{b:D->Ro->Option Ro}{g:Sd}(Inv:Nat->Ro->Prop):∀{l:List D} {ρ:Ro} (k:Nat),Inv k ρ->(∀i d ρ,l[i]? = ZY d->Inv (k+i) ρ->∃ρ1 ρ2,b d ρ=ZY ρ1/\(g ρ1=ZY (.nx,ρ2)∨g ρ1=ZY (.cont,ρ2))/\Inv (k+i+1) ρ2) ->
  ∃ρ',forD b g l ρ=ZY (.nx,ρ')/\Inv (k+l.length) ρ'
 | [],ρ,k,h0,_=>⟨ρ,rfl,h0⟩
 | d::r,ρ,k,h0,hs=>by
  obtain⟨ρ1,ρ2,e1,e2,h1⟩:=hs 0 d ρ rfl h0;obtain⟨ρ',e3,h3⟩:=acv (b:=b) (g:=g) Inv (l:=r) (ρ:=ρ2) (k+1) h1 λi x ρ hx hi=>by
   have:=hs (i+1) x ρ (by simpa using hx) ((show k+(i+1)=k+1+i by omega)▸hi)
   have e:k+(i+1)+1=k+1+i+1:=by omega
   rw[e] at this;exact this
  refine⟨ρ',?_,?_⟩
  ·rw[oh,e1];rcases e2 with e2 | e2 <;> simp only[e2] <;> exact e3
  ·have e:k+(d::r).length=k+1+r.length:=by simp;omega
   rw[e];exact h3
theorem wk{b:D->Ro->Option Ro}{mc:M Bool}{me:M D}(Inv:Nat->List D->Ro->Prop):∀{l:List D} {ys:List D} {ρ:Ro} (k:Nat),Inv k ys ρ ->
  (∀i d ys ρ,l[i]? = ZY d->Inv (k+i) ys ρ->∃ρ1 ρ2 z,b d ρ=ZY ρ1/\mc ρ1=ZY (.ok z,ρ2)/\((z=ZV/\Inv (k+i+1) ys ρ2)∨(z=ZW/\∃y ρ3,me ρ2=ZY (.ok y,ρ3)/\Inv (k+i+1) (ys++[y]) ρ3))) ->
  ∃ys' ρ',compD b mc me l ys ρ=ZY (.ok ys',ρ')/\Inv (k+l.length) ys' ρ'
 | [],ys,ρ,k,h0,_=>⟨ys,ρ,rfl,h0⟩
 | d::r,ys,ρ,k,h0,hs=>by
  obtain⟨ρ1,ρ2,z,e1,e2,h1⟩:=hs 0 d ys ρ rfl h0;have nxt:∀{ys':List D} {ρ':Ro},Inv (k+0+1) ys' ρ'->∃ys2 ρ2,compD b mc me r ys' ρ'=ZY (.ok ys2,ρ2)/\Inv (k+1+r.length) ys2 ρ2:=λ{ys' ρ'} hi =>
   wk (b:=b) (mc:=mc) (me:=me) Inv (l:=r) (ys:=ys') (ρ:=ρ') (k+1) hi λi x ys ρ hx hi=>by
    have:=hs (i+1) x ys ρ (by simpa using hx) ((show k+(i+1)=k+1+i by omega)▸hi)
    have e:k+(i+1)+1=k+1+i+1:=by omega
    rw[e] at this;exact this
  have el:k+(d::r).length=k+1+r.length:=by simp;omega
  rw[el];rcases h1 with⟨rfl,h1⟩ | ⟨rfl,y,ρ3,e3,h1⟩
  ·obtain⟨ys2,ρ4,e4,h4⟩:=nxt h1;exact⟨ys2,ρ4,by simp[compD,e1,e2,e4],h4⟩
  ·obtain⟨ys2,ρ4,e4,h4⟩:=nxt h1;exact⟨ys2,ρ4,by simp[compD,e1,e2,e3,e4],h4⟩
@[simp] theorem bb2(neg:Bool)(a b:Int):gEq neg (.int a) (.int b)=ZY (.v (.bl (if neg then !(a==b) else (a==b)))):=rfl
@[simp] theorem bc0(neg:Bool)(a b:Bool):gEq neg (.bl a) (.bl b)=ZY (.v (.bl (if neg then !(a==b) else (a==b)))):=rfl
section
variable{K:Fg9}{X:Cx}{e a b c:dH}{es:List dH}{pos p p2:Pos}
noncomputable def lg:List D->Option (List Int)
 | []=>ZY []
 | .int i::r=>(lg r).map (i :: ·)
 | _::_=>ZX
theorem zg:∀{l:List D} {ns:List Int},lg l=ZY ns->l=ns.map D.int
 | [],_,h=>by cases h;rfl
 | .int b::r,bs,h=>by
  have h':(lg r).map (b :: ·)=ZY bs:=h;cases e:lg r with
  | none=>rw[e] at h';cases h'
  | some t =>
   rw[e] at h';cases h';rw[zg e];rfl
 | .non::_,_,h=>by cases h
 | .bl _::_,_,h=>by cases h
 | .str _::_,_,h=>by cases h
 | .tup _::_,_,h=>by cases h
 | .lst _::_,_,h=>by cases h
 | .kst _::_,_,h=>by cases h
 | .dct _::_,_,h=>by cases h
@[simp] theorem aaq(ns:List Int):lg (ns.map D.int)=ZY ns:=by
 induction ns with
 | nil=>rfl
 | cons b r ih=>show(lg (r.map D.int)).map (b :: ·)=_;rw[ih];rfl
theorem a1j{prog:cG}{w:dZ}{A:eG}{E:aH->aO->Prop}{s:aO}{l:aY}{xs:Array (Int×Tok)}{Q:aH->aO->Prop}(hh:A.handled=ZX)(ht:s.heap.IsTuple l (lK xs))
  (h:∀h' tk t',(∀b o,s.heap.get? b=ZY o->h'.get? b=ZY o)->Q (.int (PySem.preSum (PySem.numAt xs) xs.size) t') { s with heap:=h',toks:=tk }):bT (cA prog w) A (call (.builtin "sum") [.ref l]) Q E s:=by
 have hlt:l < s.heap.objs.size:=by obtain⟨_,e,_⟩:=ht;exact aV e
 refine PySem.call_sum_walkG (wpAny_pyIter_tuple ht ?_);refine⟨s.heap.objs.size,[s.heap.objs.size,l],[s.heap.objs.size],(lK xs).size,_,_,PySem.numAt xs,rfl,Walks.tuple (A:=A.in1) hh _ l (bQ hlt) (lK xs),⟨⟨_,aW _ rfl,rfl,rfl⟩,Heap.IsTuple.push ht _⟩,λb hb =>?_,λ_ _ z=>PySem.intItems_at z,λh' tk t' hk =>?_⟩
 ·have hb:b=s.heap.objs.size∨b=l:=by simpa using hb
  rw[dB];rcases hb with rfl | rfl
  ·exact jH _
  ·exact qK hlt
 ·have:=h h' tk t' λb o e=>hk b o (λz=>by rw[bY] at z;exact absurd (aV e) (by rw[z];exact jO _)) (aD _ e)
  simpa[lK] using this
def gSum:D->Option Rv
 | .lst l=>(lg l).map λns=>.v (.int ns.sum)
 | .tup l=>(lg l).map λns=>.v (.int ns.sum)
 | _=>ZX
theorem a8x(hc:X.calm=ZW):CallD K X (.builtin "sum") (g1 gSum):=cd_one λhk qv s σ0 H x u Q tg F ρ σ d r I ru G bd eg q=>by
 subst hk;cases d with
 | lst l =>
  have eg:(lg l).map (λns=>Rv.v (.int ns.sum))=ZY r:=eg
  cases e:lg l with
  | none=>rw[e] at eg;cases eg
  | some ns =>
   rw[e] at eg;cases eg;obtain⟨a,vs,rfl,ea,hl⟩:=bd.lst G.sub;rw[zg e] at hl;rw[hl.int_inv] at ea;cases ru;obtain⟨its,rv,pl,_⟩:=I.list (SqL.of ea);obtain⟨xs,hxs⟩:∃xs:Array (Int×Tok),its.toArray=lK xs:=(rB (intsAre_of rv)).items
   have hl':=pl.isList;rw[hxs] at hl';refine PySem.sum_intListG (I.ok.hd hc) hl' λh' tk t' hk=>⟨.int ns.sum,H,I.kept hk,⟨t',?_⟩,Res.same G q (.int _)⟩
   have h1:numsOf its=ns:=(intsAre_of rv).numsOf;have h2:=uX xs;rw[<-hxs] at h2;have h3:xs.toList.map (·.1)=ns:=by
    rw[<-h2];exact h1
   rw[wR,oU (by simp),h3]
 | tup l =>
  have eg:(lg l).map (λns=>Rv.v (.int ns.sum))=ZY r:=eg
  cases e:lg l with
  | none=>rw[e] at eg;cases eg
  | some ns =>
   rw[e] at eg;cases eg;obtain⟨a,vs,rfl,ea,hl⟩:=bd.tup;rw[zg e] at hl;rw[hl.int_inv] at ea;cases ru;obtain⟨its,rv,pl,_⟩:=I.tuple (SqT.of (G.sub _ _ ea));obtain⟨xs,hxs⟩:∃xs:Array (Int×Tok),its.toArray=lK xs:=(rB (intsAre_of rv)).items
   have hl':s.heap.IsTuple a its.toArray:=pl;rw[hxs] at hl';refine a1j (I.ok.hd hc) hl' λh' tk t' hk=>⟨.int ns.sum,H,I.kept hk,⟨t',?_⟩,Res.same G q (.int _)⟩
   have h1:numsOf its=ns:=(intsAre_of rv).numsOf;have h2:=uX xs;rw[<-hxs] at h2;have h3:xs.toList.map (·.1)=ns:=by
    rw[<-h2];exact h1
   rw[wR,oU (by simp),h3]
 | _=>cases eg
noncomputable def insI(x:Int):List Int->List Int
 | []=>[x]
 | y::r=>if x<=y then x::y::r else y::insI x r
def sortI:List Int->List Int
 | []=>[]
 | x::r=>insI x (sortI r)
theorem insI_perm(x:Int):∀l:List Int,(insI x l).Perm (x::l)
 | []=>.refl _
 | y::r=>by
  unfold insI;split
  ·exact .refl _
  ·exact((insI_perm x r).cons y).trans (.swap x y r)
theorem sortI_perm:∀l:List Int,(sortI l).Perm l
 | []=>.refl _
 | x::r=>(insI_perm x (sortI r)).trans ((sortI_perm r).cons x)
theorem ahq(x:Int):∀{l:List Int},l.Pairwise (· <= ·)->(insI x l).Pairwise (· <= ·)
 | [],_=>by simp[insI]
 | y::r,h=>by
  unfold insI;rw[cV] at h;split
  ·rename_i hxy;rw[cV,cV];refine⟨λz hz =>?_,h⟩
   rcases bG.mp hz with rfl | hz
   ·exact hxy
   ·exact uP hxy (h.1 z hz)
  ·rename_i hxy;rw[cV];refine⟨λz hz =>?_,ahq x h.2⟩
   rcases bG.mp ((insI_perm x r).mem_iff.mp hz) with rfl | hz
   ·omega
   ·exact h.1 z hz
theorem abo:∀l:List Int,(sortI l).Pairwise (· <= ·)
 | []=>.nil
 | x::r=>ahq x (abo r)
theorem aiw:∀{l k:List Int},l.Perm k->l.Pairwise (· <= ·)->k.Pairwise (· <= ·)->l=k
 | [],k,h,_,_=>h.nil_eq
 | x::r,[],h,_,_=>absurd h.length_eq (by simp)
 | x::r,y::t,h,hl,hk=>by
  rw[cV] at hl hk;have e:x=y:=by
   have h1:x∈y::t:=h.mem_iff.mp (aF ..);have h2:y∈x::r:=h.mem_iff.mpr (aF ..);rcases bG.mp h1 with h1 | h1
   ·exact h1
   ·rcases bG.mp h2 with h2 | h2
    ·exact h2.symm
    ·have a:=hk.1 x h1;have b:=hl.1 y h2;omega
  subst e;rw[aiw ((xQ x).mp h) hl.2 hk.2]
theorem apn{l k:List Int}(h:l.Perm k)(hs:l.Pairwise (· <= ·)):l=sortI k:=aiw (h.trans (sortI_perm k).symm) hs (abo k)
theorem abn:∀{ns:List Int} {us:List aH},jT us ns->Vals (ns.map V.int) us
 | _,_,.nil=>.nil
 | _,_,.cons n t h=>.cons ⟨t,rfl⟩ (abn h)
def akx:D->Option Rv
 | .lst l=>(lg l).bind λns=>if ns.length < 64 then ZY (.fr ((sortI ns).map D.int)) else ZX
 | _=>ZX
theorem awq:CallD K X (.builtin "sorted") (g1 akx):=cd_one λhk qv s σ0 H x u Q tg F ρ σ d r I ru G bd eg q=>by
 subst hk;cases d with
 | lst l =>
  have eg:(lg l).bind (λns=>if ns.length < 64 then ZY (Rv.fr ((sortI ns).map D.int)) else ZX)=ZY r:=eg
  cases e:lg l with
  | none=>rw[e] at eg;cases eg
  | some ns =>
   rw[e] at eg;have eg:(if ns.length < 64 then ZY (Rv.fr ((sortI ns).map D.int)) else ZX)=ZY r:=eg
   split at eg
   ·rename_i h64;cases eg;obtain⟨a,vs,rfl,ea,hl⟩:=bd.lst G.sub;rw[zg e] at hl;rw[hl.int_inv] at ea;cases ru;obtain⟨its,rv,pl,_⟩:=I.list (SqL.of ea);have hlen:=rv.length;rw[aK] at hlen;refine PyProof.Rows.sorted_ints pl.isList (intsAre_of rv) (by omega) λout ns' i1 hp hs =>?_
    have e':=apn hp hs;subst e';obtain⟨ep,eo⟩:=sJ s.heap its out;have hn:H (s.heap.objs.size+1)=ZX:=I.hok.fresh (gP _);refine⟨.ref (s.heap.objs.size+1),upd H (s.heap.objs.size+1) (.lst ((sortI ns).map V.int)),?_,rfl,Res.lst G q (ael _) hn⟩;refine I.laid (t':=s.toks) (λb u e=>rY e) (gP _) ?_
    refine⟨?_,out.toList,ep,abn i1,by simpa using eo⟩
    rw[aK,(sortI_perm ns).length_eq];exact lN (agp (by omega))
   ·cases eg
 | _=>cases eg
end
section
variable{K:Fg9}{X:Cx}{e a b c:dH}{es:List dH}{pos p p2:Pos}
noncomputable def ae2(lt:Int->Int->Bool):List Int->Int
 | []=>0
 | x::r=>r.foldl (λm y=>if lt y m=ZW then y else m) x
theorem aw4(lt:Int->Int->Bool)(ns:List Int):∀k,k < ns.length->pK (λi j=>lt (ns.getD i 0) (ns.getD j 0)) k<=k/\ns.getD (pK (λi j=>lt (ns.getD i 0) (ns.getD j 0)) k) 0=ae2 lt (ns.take (k+1))
 | 0,h=>by
  cases ns with
  | nil=>simp at h
  | cons x r=>exact⟨Nat.le_refl _,rfl⟩
 | k+1,h=>by
  obtain⟨h1,h2⟩:=aw4 lt ns k (by omega)
  have ht:ns.take (k+1+1)=ns.take (k+1)++[ns.getD (k+1) 0]:=by
   rw[vZ,aC h];simp[List.getD,aC h]
  have hb:ae2 lt (ns.take (k+1+1))=if lt (ns.getD (k+1) 0) (ae2 lt (ns.take (k+1)))=ZW then ns.getD (k+1) 0 else ae2 lt (ns.take (k+1)):=by
   rw[ht];cases ns with
   | nil=>simp at h
   | cons x r=>simp[ae2,List.foldl_append]
  have ha:pK (λi j=>lt (ns.getD i 0) (ns.getD j 0)) (k+1)=if lt (ns.getD (k+1) 0) (ns.getD (pK (λi j=>lt (ns.getD i 0) (ns.getD j 0)) k) 0)=ZW then k+1 else pK (λi j=>lt (ns.getD i 0) (ns.getD j 0)) k:=rfl
  rw[hb,<-h2,ha]
  by_cases hc:lt (ns.getD (k+1) 0) (ns.getD (pK (λi j=>lt (ns.getD i 0) (ns.getD j 0)) k) 0)=ZW
  ·rw[if_pos hc,if_pos hc];exact⟨Nat.le_refl _,rfl⟩
  ·rw[if_neg hc,if_neg hc];exact⟨by omega,rfl⟩
theorem azw(lt:Int->Int->Bool)(ns:List Int)(h:ns≠[]):pK (λi j=>lt (ns.getD i 0) (ns.getD j 0)) (ns.length - 1) < ns.length/\ns.getD (pK (λi j=>lt (ns.getD i 0) (ns.getD j 0)) (ns.length - 1)) 0=ae2 lt ns:=by
 have hl:0 < ns.length:=mG.mpr h;obtain⟨h1,h2⟩:=aw4 lt ns (ns.length - 1) (by omega)
 refine⟨by omega,?_⟩
 rw[h2,show ns.length - 1+1=ns.length by omega,qW]
def a8k(lt:Int->Int->Bool):D->Option Rv
 | .lst l=>(lg l).bind λns=>if ns=[] then ZX else ZY (.v (.int (ae2 lt ns)))
 | .tup l=>(lg l).bind λns=>if ns=[] then ZX else ZY (.v (.int (ae2 lt ns)))
 | _=>ZX
theorem ao0{lt:Int->Int->Bool}{d:D}{r:Rv}(h:a8k lt d=ZY r):∃ns:List Int,ns≠[]/\r=.v (.int (ae2 lt ns))/\(d=.lst (ns.map D.int)∨d=.tup (ns.map D.int)):=by
 have go:∀l,(lg l).bind (λns=>if ns=[] then ZX else ZY (Rv.v (.int (ae2 lt ns))))=ZY r->∃ns:List Int,ns≠[]/\r=.v (.int (ae2 lt ns))/\l=ns.map D.int:=λl h=>by
  cases e:lg l with
  | none=>rw[e] at h;cases h
  | some ns =>
   rw[e] at h;have h:(if ns=[] then ZX else ZY (Rv.v (.int (ae2 lt ns))))=ZY r:=h
   split at h
   ·cases h
   ·rename_i hn;cases h;exact⟨ns,hn,rfl,zg e⟩
 cases d with
 | lst l=>obtain⟨ns,h1,h2,rfl⟩:=go l h;exact⟨ns,h1,h2,.inl rfl⟩
 | tup l=>obtain⟨ns,h1,h2,rfl⟩:=go l h;exact⟨ns,h1,h2,.inr rfl⟩
 | _=>cases h
theorem ahn{ns:List Int}{its:List aH}(rv:Vals (ns.map V.int) its)(i:Nat)(v:aH)(h:its.toArray[i]? = ZY v):∃t,v=.int (ns.getD i 0) t:=by
 have h:its[i]? = ZY v:=by simpa using h
 have hi:i < its.length:=(aQ.mp h).1;have hl:=rv.length;rw[aK] at hl;have hi':i < ns.length:=by omega
 obtain⟨u,hu,t,rfl⟩:=rv.get (i:=i) (x:=V.int ns[i]) (by rw[aN,aC hi'];rfl)
 rw[h] at hu;cases hu;exact⟨t,by simp[List.getD,aC hi']⟩
def avz:D->Option Rv:=a8k λi j=>decide (i < j)
theorem awr(hc:X.calm=ZW):CallD K X (.builtin "min") (g1 avz):=cd_one λhk qv s σ0 H x u Q tg F ρ σ d r I ru G bd eg q=>by
 subst hk;obtain⟨ns,hn,rfl,hd⟩:=ao0 eg;have q':=Res.same G q (.int _);obtain⟨hb1,hb2⟩:=azw (λi j=>decide (i < j)) ns hn
 have fin:∀{its:List aH} (rv:Vals (ns.map V.int) its) {v:aH} {h':fH} {tk:Nat},its.toArray[pK (λi j=>decide (ns.getD i 0 < ns.getD j 0)) (its.toArray.size - 1)]? = ZY v->(∀b o,s.heap.get? b=ZY o->h'.get? b=ZY o)->EP X qv σ0 Q v { s with heap:=h',toks:=tk }:=λ{its} rv {v h' tk} hv hk=>by
  have hl:=rv.length;rw[aK] at hl;rw[aU,<-hl] at hv;obtain⟨t,rfl⟩:=ahn rv _ v hv;exact⟨.int (ae2 (λi j=>decide (i < j)) ns),H,I.kept hk,⟨t,by rw[hb2]⟩,q'⟩
 rcases hd with rfl | rfl
 ·obtain⟨a,vs,rfl,ea,hl⟩:=bd.lst G.sub;rw[hl.int_inv] at ea;cases ru;obtain⟨its,rv,pl,_⟩:=I.list (SqL.of ea);have hl':=pl.isList;have hlt:a < s.heap.objs.size:=by obtain⟨_,e,_⟩:=hl';exact aV e
  have hlen:=rv.length;rw[aK] at hlen;refine call_min_walk (wpAny_pyIter_list hl' ⟨s.heap.objs.size,[s.heap.objs.size,a],[s.heap.objs.size],its.toArray.size,_,_,_,rfl,Walks.list (A:=X.A.in1) (I.ok.hd hc) _ a (bQ hlt) its.toArray,
   ⟨⟨_,aW _ rfl,rfl,rfl⟩,hl'.push _⟩,λb hb =>?_,?_,yE (λi=>ns.getD i 0) (λi v=>ahn rv i v),λv h' tk hP hk=>fin rv hP (tX hk)⟩)
  ·have hs:∀o:Obj,(s.heap.push o).objs.size=s.heap.objs.size+1:=λo=>dB ..
   show b < (s.heap.push _).objs.size;rw[hs];rcases bG.mp hb with hb | hb
   ·exact hb▸Nat.lt_succ_self _
   ·have hb:b=a:=by simpa using hb
    exact hb▸Nat.lt_succ_of_lt hlt
  ·rw[aU,<-hlen];exact mG.mpr hn
 ·obtain⟨a,vs,rfl,ea,hl⟩:=bd.tup;rw[hl.int_inv] at ea;cases ru;obtain⟨its,rv,pl,_⟩:=I.tuple (SqT.of (G.sub _ _ ea));have hlt:a < s.heap.objs.size:=by obtain⟨_,e,_⟩:=pl;exact aV e
  have hlen:=rv.length;rw[aK] at hlen;refine call_min_walk (wpAny_pyIter_tuple pl ⟨s.heap.objs.size,[s.heap.objs.size,a],[s.heap.objs.size],its.toArray.size,_,_,_,rfl,Walks.tuple (A:=X.A.in1) (I.ok.hd hc) _ a (bQ hlt) its.toArray,
   ⟨⟨_,aW _ rfl,rfl,rfl⟩,pl.push _⟩,λb hb =>?_,?_,yE (λi=>ns.getD i 0) (λi v=>ahn rv i v),λv h' tk hP hk=>fin rv hP (tX hk)⟩)
  ·have hs:∀o:Obj,(s.heap.push o).objs.size=s.heap.objs.size+1:=λo=>dB ..
   show b < (s.heap.push _).objs.size;rw[hs];rcases bG.mp hb with hb | hb
   ·exact hb▸Nat.lt_succ_self _
   ·have hb:b=a:=by simpa using hb
    exact hb▸Nat.lt_succ_of_lt hlt
  ·rw[aU,<-hlen];exact mG.mpr hn
end
section
variable{K:Fg9}{X:Cx}{e a b c:dH}{es:List dH}{pos p p2:Pos}
def rmOf(K:Fg9)(g:D->List D->Option D):V->List V->Hp->VK->Prop:=λx vs H Q=>∃F d ds r,Same F H/\Bor K F H d x/\IsL K F ds vs/\g d ds=ZY r/\∀v,Is K F r v->Q v H
def a3h(i:Nat)(g:D->List D->Option D)(ms:M (List D)):M D:=(dj i).bind λd0=>(lift (match d0 with
 | .lst _=>ZY ()
 | _=>ZX)).bind λ_=>ms.bind λds=>(dj i).bind λd=>lift (g d ds)
theorem a4c{i:Nat}{name:Str}{id:String}{g:D->List D->Option D}{ms:M (List D)}{apos cpos:Pos}(slot:Slot "list" name id)(hty:typeOf (.builtin id)=pure (.type "method_descriptor"))(hm:X.K=K->MtR X id (rmOf K g))(ho:PE X a (tVar i))(ha:ED K X (e::es) ms)
  (hbase:jA a name X.env (eval a X.env)=eval a X.env:=by rfl)
  (hfew:((jG cpos (bA (e::es) X.env)).all (λx => !x.1)&&(backToKw cpos (keywordEach [] X.env)).all (λx=>x.1.isSome)
   && decide ((e::es).length+([]:List pM).length+(if ([]:List pM).isEmpty then 0 else 1) < 30))=ZW:=by rfl)
  (hline:(apos.endLine==cpos.line)=ZW:=by rfl) (hs:bA (e::es) X.env=(ZV,eval e X.env)::bA es X.env:=by rfl) (hplain:(jG cpos (bA es X.env)).any (·.1)=ZV:=by rfl) :
  EV K X (.Call (.Attribute a name apos) (e::es) [] cpos) (a3h i g ms):=EV.mk λhk=>PE.imp (ax7 oA slot hty (hm hk) ho (ha hk) hbase hfew hline hs hplain) λσ H Q z9=>by
 obtain⟨tg,F,ρ,d,ρ',G,em,q⟩:=z9;obtain⟨d0,ρ0,e0,em1⟩:=az em;obtain⟨u0,ρ9,e9,em2⟩:=az em1;obtain⟨ds,ρ1,e1,em3⟩:=az em2;obtain⟨d1,ρ2,e2,em4⟩:=az em3;obtain⟨e3,rfl⟩:=fu em4;obtain⟨e9,rfl⟩:=fu e9;obtain⟨rfl,v,hv,bv⟩:=qx G e0;have ty:∃b,v=.ref b/\∃xs,SqL X.K H b xs:=by
  cases d0 with
  | lst l =>
   obtain⟨b,xs,rfl,hb,_⟩:=bv.lst G.sub;exact⟨b,rfl,xs,SqL.of hb⟩
  | _=>cases e9
 obtain⟨b,rfl,hty'⟩:=ty;refine⟨_,hv,.inl ⟨rfl,hty'⟩,tg,F,_,ds,ρ1,G,e1,λvs H1 F1 G1 x1 r1 =>?_⟩
 obtain⟨rfl,v',hv',b'⟩:=qx G1 e2;rw[hv] at hv';cases hv';exact⟨F1,d1,ds,d,G1.sub,b',r1,e3,λw iw=>q w H1 F1 G1 x1 iw⟩
def av1(d:D)(ds:List D):Option D:=match d,ds with
 | .lst l,[x]=>if okD 30 x&&l.all (okD 30) then ZY (.int (l.countP λy=>eqD y x)) else ZX
 | _,_=>ZX
theorem acf{qv:List (aY×Obj)}{σ:L2.St}{F H:Hp}{s:aO}(I:Inv X qv σ H s)(g:Same F H){a:D}{n:Nat}:∀{ds:List D} {vs:List V} {us:List aH},IsL X.K F ds vs->ds.all (okD n)=ZW->Vals vs us ->
  us.countP (aac s.heap (toPy a))=ds.countP (λy=>eqD y a)
 | _,_,_,.nil,_,r=>by cases r;rfl
 | _,_,_,.cons h t,k,r=>by
  rw[lE,bL] at k;cases r with
  | cons r1 r2 =>
   obtain⟨as,ra⟩:=zc I g h k.1 r1;obtain⟨c,p⟩:=abg _ _ k.1;rw[qY,qY,acf I g t k.2 r2,age ra c];rfl
theorem aym(hu:X.A.units+64 < cLine):X.K=K->MtR X "list.count" (rmOf K av1):=λhk=>by
 subst hk;intro qv s σ H x vs v us Q I rx rv z9;obtain⟨F,d,ds,r,g,bd,il,eg,q⟩:=z9
 match d,ds,eg with
 | .lst l,[y],eg =>
  have eg:(if okD 30 y&&l.all (okD 30) then ZY (D.int (l.countP λz=>eqD z y)) else ZX)=ZY r:=eg
  split at eg
  ·rename_i ho;rw[bL] at ho;cases eg;cases il with
   | cons hy t =>
    cases t;obtain⟨u,rfl,ru⟩:=rv.one;obtain⟨p,ws,rfl,ea,hl⟩:=bd.lst g;cases rx;obtain⟨its,rw',pl,_⟩:=I.list (SqL.of ea);obtain⟨as,ra⟩:=zc I g hy ho.1 ru;obtain⟨_,z⟩:=ww I g (a:=y) hl ho.2 rw';obtain⟨⟨cls,dd,data,sl⟩,h1,hc,n,hd⟩:=pl.isList;simp only at hc hd;subst hc hd;refine jZ tM ⟨_,h1,rfl⟩ PySem.F.entry_list_count (PySem.F.args_list_count_2 _ _) (SeqAt.list_countAt p its.toArray n dd sl u (aac s.heap (toPy y))) ⟨h1,λw hw =>?_,?_⟩
    ·exact u6 (A:=X.A) hu ra ho.1 z w (by simpa using hw)
    ·refine⟨.int (l.countP λz=>eqD z y),H,I.tok _,⟨s.toks,?_⟩,q _ (.int _)⟩
     rw[acf I g (a:=y) hl ho.2 rw']
  ·cases eg
def av0(d:D)(ds:List D):Option D:=match d,ds with
 | .tup l,[x]=>if okD 30 x&&l.all (okD 30) then ZY (.int (l.countP λy=>eqD y x)) else ZX
 | _,_=>ZX
theorem auw(hu:X.A.units+64 < cLine):X.K=K->MtR X "tuple.count" (rmOf K av0):=λhk=>by
 subst hk;intro qv s σ H x vs v us Q I rx rv z9;obtain⟨F,d,ds,r,g,bd,il,eg,q⟩:=z9
 match d,ds,eg with
 | .tup l,[y],eg =>
  have eg:(if okD 30 y&&l.all (okD 30) then ZY (D.int (l.countP λz=>eqD z y)) else ZX)=ZY r:=eg
  split at eg
  ·rename_i ho;rw[bL] at ho;cases eg;cases il with
   | cons hy t =>
    cases t;obtain⟨u,rfl,ru⟩:=rv.one;obtain⟨p,ws,rfl,ea,hl⟩:=bd.tup;cases rx;obtain⟨its,rw',pl,_⟩:=I.tuple (SqT.of (g _ _ ea));obtain⟨as,ra⟩:=zc I g hy ho.1 ru;obtain⟨_,z⟩:=ww I g (a:=y) hl ho.2 rw';obtain⟨⟨cls,dd,data,sl⟩,h1,hc,n,hd⟩:=pl;simp only at hc hd;subst hc hd;refine jZ sY ⟨_,h1,rfl⟩ PySem.F.entry_tuple_count (PySem.F.args_tuple_count_2 _ _) (SeqAt.tuple_countAt p its.toArray n dd sl u (aac s.heap (toPy y))) ⟨h1,λw hw =>?_,?_⟩
    ·exact u6 (A:=X.A) hu ra ho.1 z w (by simpa using hw)
    ·refine⟨.int (l.countP λz=>eqD z y),H,I.tok _,⟨s.toks,?_⟩,q _ (.int _)⟩
     rw[acf I g (a:=y) hl ho.2 rw']
  ·cases eg
theorem PE.or{t1 t2:TE}(h1:PE X e t1)(h2:PE X e t2):PE X e λσ H Q=>t1 σ H Q∨t2 σ H Q:=λqv s σ H Q I h=>h.elim (h1 qv s σ H Q I) (h2 qv s σ H Q I)
def ak1(d:D)(ds:List D):Option D:=match d with
 | .lst _=>av1 d ds
 | .tup _=>av0 d ds
 | _=>ZX
def au2(i:Nat)(ms:M (List D)):M D:=(dj i).bind λd0=>ms.bind λds=>(dj i).bind λd=>(lift (match d0,d with
 | .lst _,.lst _=>ZY ()
 | .tup _,.tup _=>ZY ()
 | _,_=>ZX)).bind λ_=>lift (ak1 d ds)
theorem azq{d0 d:D}{u:Unit} (h:(match d0,d with
 | .lst _,.lst _=>ZY ()
 | .tup _,.tup _=>ZY ()
 | _,_=>ZX)=ZY u):(∃l l1,d0=.lst l/\d=.lst l1)∨∃l l1,d0=.tup l/\d=.tup l1:=by
 split at h
 ·exact .inl ⟨_,_,rfl,rfl⟩
 ·exact .inr ⟨_,_,rfl,rfl⟩
 ·cases h
theorem azj{i:Nat}{ms:M (List D)}{apos cpos:Pos}(hu:X.A.units+64 < cLine)(ho:PE X a (tVar i))(ha:ED K X (e::es) ms)
  (hbase:jA a "count" X.env (eval a X.env)=eval a X.env:=by rfl)
  (hfew:((jG cpos (bA (e::es) X.env)).all (λx => !x.1)&&(backToKw cpos (keywordEach [] X.env)).all (λx=>x.1.isSome)
   && decide ((e::es).length+([]:List pM).length+(if ([]:List pM).isEmpty then 0 else 1) < 30))=ZW:=by rfl)
  (hline:(apos.endLine==cpos.line)=ZW:=by rfl) (hs:bA (e::es) X.env=(ZV,eval e X.env)::bA es X.env:=by rfl) (hplain:(jG cpos (bA es X.env)).any (·.1)=ZV:=by rfl) :
  EV K X (.Call (.Attribute a "count" apos) (e::es) [] cpos) (au2 i ms):=EV.mk λhk=>PE.imp (PE.or (ax7 oA tM PySem.F.type_list_count (aym hu hk) ho (ha hk) hbase hfew hline hs hplain) (ax7 PySem.F.plainAttrs_tuple sY PySem.F.type_tuple_count (auw hu hk) ho (ha hk) hbase hfew hline hs hplain)) λσ H Q z9=>by
 obtain⟨tg,F,ρ,d,ρ',G,em,q⟩:=z9;obtain⟨d0,ρ0,e0,em1⟩:=az em;obtain⟨ds,ρ1,e1,em3⟩:=az em1;obtain⟨d1,ρ2,e2,em4⟩:=az em3;obtain⟨u0,ρ9,e9,em5⟩:=az em4;obtain⟨e3,rfl⟩:=fu em5;obtain⟨g9,rfl⟩:=fu e9;obtain⟨rfl,v,hv,bv⟩:=qx G e0;rcases azq g9 with⟨l,l1,rfl,rfl⟩ | ⟨l,l1,rfl,rfl⟩
 ·obtain⟨b,xs,rfl,hb,_⟩:=bv.lst G.sub;refine .inl ⟨_,hv,.inl ⟨rfl,xs,SqL.of hb⟩,tg,F,_,ds,ρ1,G,e1,λvs H1 F1 G1 x1 r1 =>?_⟩
  obtain⟨rfl,v',hv',b'⟩:=qx G1 e2;rw[hv] at hv';cases hv';exact⟨F1,.lst l1,ds,d,G1.sub,b',r1,e3,λw iw=>q w H1 F1 G1 x1 iw⟩
 ·obtain⟨b,xs,rfl,hb,_⟩:=bv.tup;refine .inr ⟨_,hv,.inr (.inl ⟨rfl,.inr ⟨xs,G.sub _ _ hb⟩⟩),tg,F,_,ds,ρ1,G,e1,λvs H1 F1 G1 x1 r1 =>?_⟩
  obtain⟨rfl,v',hv',b'⟩:=qx G1 e2;rw[hv] at hv';cases hv';exact⟨F1,.tup l1,ds,d,G1.sub,b',r1,e3,λw iw=>q w H1 F1 G1 x1 iw⟩
def ams(d:D)(ds:List D):Option D:=match d,ds with
 | .lst l,[x]=>if okD 30 x&&l.all (okD 30) then (l.findIdx? λy=>eqD y x).map λi=>.int i else ZX
 | _,_=>ZX
theorem arh{qv:List (aY×Obj)}{σ:L2.St}{F H:Hp}{s:aO}(I:Inv X qv σ H s)(g:Same F H){a:D}{n:Nat}{ds:List D}{vs:List V}{us:List aH}(il:IsL X.K F ds vs)(k:ds.all (okD n)=ZW)(rv:Vals vs us)(i:Nat)(hi:i < us.length)(hd:i < ds.length) :
  aac s.heap (toPy a) us[i]=eqD ds[i] a:=by
 obtain⟨v,hv,iv⟩:=il.get (i:=i) (aC hd);obtain⟨u,hu,ru⟩:=rv.get hv;rw[aC hi] at hu;cases hu;have ko:okD n ds[i]=ZW:=cX.mp k _ (dO hd);obtain⟨as,ra⟩:=zc I g iv ko ru;rw[age ra (abg _ _ ko).1];rfl
theorem ayl(hu:X.A.units+64 < cLine):X.K=K->MtR X "list.index" (rmOf K ams):=λhk=>by
 subst hk;intro qv s σ H x vs v us Q I rx rv z9;obtain⟨F,d,ds,r,g,bd,il,eg,q⟩:=z9
 match d,ds,eg with
 | .lst l,[y],eg =>
  have eg:(if okD 30 y&&l.all (okD 30) then (l.findIdx? λz=>eqD z y).map (λi=>D.int i) else ZX)=ZY r:=eg
  split at eg
  ·rename_i ho;rw[bL] at ho;cases ei:l.findIdx? (λz=>eqD z y) with
   | none=>rw[ei] at eg;cases eg
   | some j =>
    rw[ei] at eg;cases eg;obtain⟨hj,hhit,hno⟩:=lB.mp ei;cases il with
    | cons hy t =>
     cases t;obtain⟨u,rfl,ru⟩:=rv.one;obtain⟨p,ws,rfl,ea,hl⟩:=bd.lst g;cases rx;obtain⟨its,rw',pl,hz⟩:=I.list (SqL.of ea);have l1:=hl.length;have l2:=rw'.length;rw[eV] at hz;obtain⟨as,ra⟩:=zc I g hy ho.1 ru;obtain⟨_,z⟩:=ww I g (a:=y) hl ho.2 rw';obtain⟨⟨cls,dd,data,sl⟩,h1,hc,n,hd⟩:=pl.isList;simp only at hc hd;subst hc hd;have hj':j < its.toArray.size:=by rw[aU];omega
     refine jZ tL ⟨_,h1,rfl⟩ PySem.F.entry_list_index (PySem.F.args_list_index_2 _ _) (SeqAt.list_indexAt p its.toArray n dd sl u (aac s.heap (toPy y)) j hj' (by omega) ?_ λm hm hlt =>?_) ⟨h1,λw hw =>?_,?_⟩
     ·have:=arh I g (a:=y) hl ho.2 rw' j (by omega) hj
      simpa[this] using hhit
     ·rw[aU] at hm;have:=arh I g (a:=y) hl ho.2 rw' m hm (by omega)
      have hn:=hno m hlt
      simpa[this] using hn
     ·exact u6 (A:=X.A) hu ra ho.1 z w (by simpa using hw)
     ·exact⟨.int j,H,I.tok _,⟨_,rfl⟩,q _ (.int _)⟩
  ·cases eg
section
variable(ρ:Ro)
@[simp] theorem a9l(i:Nat)(g:D->List D->Option D)(ms:M (List D)):a3h i g ms ρ=((dj i).bind λd0=>(lift (match d0 with
 | .lst _=>ZY ()
 | _=>ZX)).bind λ_=>ms.bind λds=>(dj i).bind λd=>lift (g d ds)) ρ:=rfl
@[simp] theorem a5e(l:List D)(x:D):av1 (.lst l) [x]=if okD 30 x&&l.all (okD 30) then ZY (.int (l.countP λy=>eqD y x)) else ZX:=rfl
@[simp] theorem a5d(l:List D)(x:D):ams (.lst l) [x]=if okD 30 x&&l.all (okD 30) then (l.findIdx? λy=>eqD y x).map (λi=>D.int i) else ZX:=rfl
end
end
end Dn
namespace En
open PySem PySem.Builtin
def It1(k:Bool)(h:fH)(it l:aY)(i:Nat):Prop:=cond k (h.IsTupleIter it l i) (h.IsListIter it l i)
def Sq1(k:Bool)(h:fH)(l:aY)(xs:Array aH):Prop:=cond k (h.IsTuple l xs) (h.IsList l xs)
section
variable{prog:cG}{w:dZ}{A:eG}{E:aH->aO->Prop}{s:aO}
theorem a2z{it t:aY}{i:Nat}{xs:Array aH}{x:aH}{Q:aH->aO->Prop}(h1:s.heap.IsTupleIter it t i)(h2:s.heap.IsTuple t xs)(hx:xs[i]? = ZY x)
  (q:∀h',h'.IsTupleIter it t (i+1)->gA it s.heap h'->Q x { s with heap:=h' }):bT (cA prog w) A (SmallTypes.nextOf (.ref it)) Q E s:=by
 obtain⟨o1,e1,c1,d1⟩:=id h1;obtain⟨o2,e2,_,k2,d2⟩:=h2;have nn:¬((dN t==fK)=ZW):=dG;unfold SmallTypes.nextOf;refine aB (wpAny_callSpecial?_slot (name:=mW "__next__") h1.typeIs jQ (gC jQ h1.typeIs rW ?_ (rC _)));refine aB (m:=field (.ref it) 0) (fQ e1 d1 (x:=.ref t) rfl ?_);show bT _ _ (if (dN t==fK)=ZW then _ else (field (.ref it) 1 >>= _)) _ _ s;rw[if_neg nn]
 refine aB (m:=field (.ref it) 1) (fQ e1 d1 (x:=.int i 0) rfl ?_);refine aB (m:=seqItems? (.ref t)) (iJ e2 d2 ?_);simp only[bZ,hx];refine aB (wpAny_setField e1 d1 (by simp) (aR ⟨x,rfl,aR (q _ ?_ (mR ..))⟩))
 refine⟨_,lU _ e1 (Obj.isFreed_of_fields (vI d1 _)),(Obj.cls_mapFields ..).trans c1,?_⟩;rw[vI d1];simp[rawInt]
theorem a4d{it t:aY}{i:Nat}{xs:Array aH}{Q:aH->aO->Prop}(hh:A.handled=ZX)(h1:s.heap.IsTupleIter it t i)(h2:s.heap.IsTuple t xs)(hx:xs[i]? = ZX)
  (q:∀h' e,Heap.ExtBut it s.heap h'->(∃o,h'.get? e=ZY o/\o.cls=.type "StopIteration")->E (.ref e) { s with heap:=h' }):bT (cA prog w) A (SmallTypes.nextOf (.ref it)) Q E s:=by
 obtain⟨o1,e1,c1,d1⟩:=id h1;obtain⟨o2,e2,_,k2,d2⟩:=h2;have nn:¬((dN t==fK)=ZW):=dG;unfold SmallTypes.nextOf;refine aB (wpAny_callSpecial?_slot (name:=mW "__next__") h1.typeIs jQ (gC jQ h1.typeIs rW ?_ (rC _)));refine aB (m:=field (.ref it) 0) (fQ e1 d1 (x:=.ref t) rfl ?_);show bT _ _ (if (dN t==fK)=ZW then _ else (field (.ref it) 1 >>= _)) _ _ s;rw[if_neg nn]
 refine aB (m:=field (.ref it) 1) (fQ e1 d1 (x:=.int i 0) rfl ?_);refine aB (m:=seqItems? (.ref t)) (iJ e2 d2 ?_);simp only[bZ,hx];refine aB (wpAny_rule (aB (wpAny_setField e1 d1 (by simp) ?_)))
 refine aB (m:=newExc (.type "StopIteration") []) ?_;simp only[newExc,newTuple];refine aB (eH ?_ (by size_fits))
 refine aB (m:=firstArgMember _ _) (wpAny_of_eq (a:=fK) (by first | rfl | (simp only[firstArgMember];rfl)) (eH ?_ (by size_fits)))
 simp only[raiseNew];refine aB (wpAny_handled ?_);first | rw[show A.in1.handled=ZX from hh] | rw[hh]
 refine aB (aR (wpAny_throw (q _ _ ?_ ⟨_,aW _ rfl,rfl⟩)));exact((mR ..).extBut.push _).push _
theorem src(hh:A.handled=ZX)(k:Bool)(it l:aY)(ne:l≠it)(xs:Array aH):Draws prog w A it [it,l] xs.size (λi v=>xs[i]? = ZY v) (λi h=>It1 k h it l i/\Sq1 k h l xs):=by
 cases k with
 | false=>exact Draws.list hh it l ne xs
 | true=>exact{
   live:=λ_ _ z=>let ⟨o,e,_⟩:=z.1;⟨o,e⟩
   frame:=λ_ _ _ z kk=>⟨(let ⟨o,e,r⟩:=z.1;⟨o,kk it (by simp) o e,r⟩),(let ⟨o,e,r⟩:=z.2;⟨o,kk l (by simp) o e,r⟩)⟩
   item:=λi s Q E hi z q=>a2z z.1 z.2 (x:=xs[i]) (by simp[hi]) λh' z' sb=>q _ h' s.toks (by simp[hi]) ⟨z',Heap.IsTuple.extBut z.2 sb.extBut ne⟩ sb
   done:=λs Q E z q=>a4d hh z.1 z.2 (by simp) q }
theorem It1.at{k:Bool}{h h':fH}{it l:aY}{i:Nat}(x:It1 k h it l i)(e:∀o,h.get? it=ZY o->h'.get? it=ZY o):It1 k h' it l i:=by
 cases k <;> exact(let ⟨o,z,r⟩:=x;⟨o,e _ z,r⟩)
theorem It1.got{k:Bool}{h:fH}{it l:aY}{i:Nat}(x:It1 k h it l i):∃o,h.get? it=ZY o/\∀v,o.data≠.cell v:=by
 cases k <;> exact(let ⟨o,z,_,r⟩:=x;⟨o,z,λv e=>by rw[r] at e;cases e⟩)
theorem Sq1.at{k:Bool}{h h':fH}{l:aY}{xs:Array aH}(x:Sq1 k h l xs)(e:∀o,h.get? l=ZY o->h'.get? l=ZY o):Sq1 k h' l xs:=by
 cases k <;> exact(let ⟨o,z,r⟩:=x;⟨o,e _ z,r⟩)
theorem Sq1.got{k:Bool}{h:fH}{l:aY}{xs:Array aH}(x:Sq1 k h l xs):∃o,h.get? l=ZY o:=by
 cases k <;> exact(let ⟨o,z,_⟩:=x;⟨o,z⟩)
theorem ay1{k:Bool}{l:aY}{xs:Array aH}{Q:aH->aO->Prop}(h:Sq1 k s.heap l xs)
  (q:Q (.ref s.heap.objs.size) { s with heap:=s.heap.push { cls:=.type (cond k "tuple_iterator" "list_iterator"),data:=.fields #[.ref l,.int 0 0] } }):bT (cA prog w) A (pyIter (.ref l)) Q E s:=by
 cases k with
 | false=>exact wpAny_pyIter_list h q
 | true=>exact wpAny_pyIter_tuple h q
theorem aov{k:Bool}{h:fH}{l a:aY}(e:h.get? a=ZY { cls:=.type (cond k "tuple_iterator" "list_iterator"),data:=.fields #[.ref l,.int 0 0] }):It1 k h a l 0:=by
 cases k <;> exact⟨_,e,rfl,rfl⟩
end
set_option maxRecDepth 100000
abbrev eh1(k:Bool)(h:fH)(l:aY):fH:=h.push { cls:=.type (cond k "tuple_iterator" "list_iterator"),data:=.fields #[.ref l,.int 0 0] }
abbrev eh2(k:Bool)(h:fH)(l:aY):fH:=(eh1 k h l).push { cls:=.type "enumerate", data:=.fields #[.none,.bool ZV,.ref h.objs.size,rawInt 0,.none,.none] }
theorem a3d(k:Bool)(l:aY)(o:Obj)(xs:Array aH) :
  Meets (lW.«enumerate.__new__» ⟨[.type "enumerate", .ref l],[]⟩) (λ_ R s=>s.heap.get? l=ZY o/\Sq1 k s.heap l xs/\R (.ok (.ret (.ref (eh1 k s.heap l).objs.size))) { s with heap:=eh2 k s.heap l }) :=
 .of_wp λprog w A R s h=>by
  obtain⟨hp,g,d,tk,os⟩:=s;obtain⟨ho,r1,h⟩:=h;have sb:=sub_enumerate;have r1:Sq1 k (uW ⟨hp,g,d,tk,os⟩) l xs:=r1;wp_walk using nZ ho;refine wpAny_stack_any λst=>aR ?_
  split
  ·rename_i c _ _ _ _ _;cases(c==nG "enumerate") <;> (wp_walk using nZ ho,ay1 r1;exact⟨_,rfl,h⟩)
  ·wp_walk using nZ ho,ay1 r1;exact⟨_,rfl,h⟩
theorem awy{prog:cG}{w:dZ}{A:eG}{E:aH->aO->Prop}{s:aO}{k:Bool}{l:aY}{xs:Array aH}{Q:aH->aO->Prop}(s1:Sq1 k s.heap l xs)
  (q:∀h',IsEnum h' (s.heap.objs.size+1) s.heap.objs.size 0 .none->It1 k h' s.heap.objs.size l 0->h'.objs.size=s.heap.objs.size+2->(∀b o,s.heap.get? b=ZY o->h'.get? b=ZY o)->Q (.ref (s.heap.objs.size+1)) { s with heap:=h' }) :
  bT (cA prog w) A (call (.type "enumerate") [.ref l]) Q E s:=by
 obtain⟨o,ho⟩:=s1.got;refine callType_new F.called_enumerate (by decide) (F.typeCall_enumerate_1 _) (F.newCall_enumerate_1 _) (λobj=>F.args_object_init_2 obj _) F.entry_enumerate_new (a3d k l o xs) ⟨ho,s1,?_⟩
 have z1:(eh1 k s.heap l).objs.size=s.heap.objs.size+1:=dB ..
 have g2:(eh2 k s.heap l).get? (eh1 k s.heap l).objs.size=ZY _:=aW _ rfl;have g1:(eh2 k s.heap l).get? s.heap.objs.size=ZY _:=aD _ (aW _ rfl);rw[z1] at g2;show _/\_;rw[z1];exact⟨⟨_,g2,rfl⟩,q _ g2 (aov g1) (by rw[dB,z1]) λb o x=>aD _ (aD _ x)⟩
end En
namespace En
open PySem PySem.Builtin
set_option maxRecDepth 100000
theorem a1f(v1 v2:aH):checkTypeCall "zip" ⟨[v1,v2],[]⟩=pure ():=by kernel_rfl
theorem a3a(v1 v2:aH):checkBuiltinCall "zip.__new__" ⟨[.type "zip", v1,v2],[]⟩=pure ():=by kernel_rfl
theorem a4z(o v1 v2:aH):argsOk "object.__init__" ⟨[o,v1,v2],[]⟩:=by
 unfold argsOk;rw[signature?_of (id := "object.__init__") (n:=['_','_','t','i','n','i','_','_']) (o:=['t','c','e','j','b','o']) (by kernel_rfl) F.owner_object];kernel_rfl
abbrev Row2(h:fH)(T:aY)(v1 v2:aH):Prop:=h.get? T=ZY { cls:=.type "tuple", data:=.seq #[v1,v2] }
structure Apart2 (z TI TO i1 i2 l1 l2:aY):Prop where
 nTIz:TI≠z
 nTOz:TO≠z
 nTOTI:TO≠TI
 ni1z:i1≠z
 ni1TI:i1≠TI
 ni1TO:i1≠TO
 ni2z:i2≠z
 ni2TI:i2≠TI
 ni2TO:i2≠TO
 ni2i1:i2≠i1
 nl1z:l1≠z
 nl1TO:l1≠TO
 nl1i1:l1≠i1
 nl1i2:l1≠i2
 nl2z:l2≠z
 nl2TO:l2≠TO
 nl2i1:l2≠i1
 nl2i2:l2≠i2
section
variable{prog:cG}{w:dZ}{A:eG}{E:aH->aO->Prop}{s:aO}
theorem a6i{T:aY}{v1 v2 x:aH}{Q:Unit->aO->Prop}(h:Row2 s.heap T v1 v2)(q:∀h',Row2 h' T x v2->gA T s.heap h'->Q () { s with heap:=h' }):bT (cA prog w) A (updateSeq T (·.setIfInBounds 0 x)) Q E s:=by
 refine wpAny_updateSeq h rfl (q _ (show Heap.get? _ T=_ from ?_) (mR ..))
 rw[lU _ h rfl];simp[fU]
theorem a6h{T:aY}{v1 v2 x:aH}{Q:Unit->aO->Prop}(h:Row2 s.heap T v1 v2)(q:∀h',Row2 h' T v1 x->gA T s.heap h'->Q () { s with heap:=h' }):bT (cA prog w) A (updateSeq T (·.setIfInBounds 1 x)) Q E s:=by
 refine wpAny_updateSeq h rfl (q _ (show Heap.get? _ T=_ from ?_) (mR ..))
 rw[lU _ h rfl];simp[fU]
theorem as9{z TI TO i1 i2 l1 l2:aY}{k1 k2:Bool}{i:Nat}{x1 x2:Array aH}{v1 v2:aH}{Q:aH->aO->Prop}(hh:A.handled=ZX)(D:Apart2 z TI TO i1 i2 l1 l2)
  (hz:rP s.heap z TI TO .none) (hI:Row2 s.heap TI (.ref i1) (.ref i2)) (hO:Row2 s.heap TO v1 v2) (h1:It1 k1 s.heap i1 l1 i) (s1:Sq1 k1 s.heap l1 x1) (h2:It1 k2 s.heap i2 l2 i) (s2:Sq1 k2 s.heap l2 x2) (b1:i < x1.size) (b2:i < x2.size)
  (q:∀h' tk y1 y2,x1[i]? = ZY y1->x2[i]? = ZY y2->rP h' z TI TO (rawInt s.heap.objs.size)->Row2 h' TO y1 y2->It1 k1 h' i1 l1 (i+1)->It1 k2 h' i2 l2 (i+1)->Row2 h' s.heap.objs.size y1 y2->h'.objs.size=s.heap.objs.size+1 ->
   (∀c o,c≠z->c≠TO->c≠i1->c≠i2->s.heap.get? c=ZY o->h'.get? c=ZY o)->Q (.ref s.heap.objs.size) { s with heap:=h',toks:=tk }) :
  bT (cA prog w) A (lW.«zip.__next__» ⟨[.ref z],[]⟩) (λfin s'=>∃v,fin=.done (.ret v)/\Q v s') E s:=by
 refine aB (m:=field (.ref z) 2) (fQ hz rfl (x:=.bool ZV) rfl ?_);refine aB (m:=field (.ref z) 3) (fQ hz rfl (x:=.ref TI) rfl ?_);refine aB (iJ hI rfl ?_);refine aB (m:=SmallTypes.ownedTupleIsFree (.ref z)) ?_;unfold SmallTypes.ownedTupleIsFree;refine aB (fQ hz rfl (x:=.none) rfl (aR ?_));simp only[if_true];refine aB (wpAny_rule (aB (fQ hz rfl (x:=.ref TO) rfl ?_)));refine aB (wpAny_setField_rec hz (by simp) λg0 z0 a0 =>?_)
 have z0:rP g0 z TI TO .ellipsis:=z0;refine aB ?_;simp only[wN,wZ,rN,sU];refine aB (aB (wpAny_onRaise ?_));refine aB (m:=SmallTypes.nextOf (.ref i1)) ((src hh k1 i1 l1 D.nl1i1 x1).item i _ _ _ b1 ⟨(h1.at λ_ e=>(a0.extBut _ _ D.ni1z e)),(s1.at λ_ e=>(a0.extBut _ _ D.nl1z e))⟩ λy1 f1 t1 p1 q1 c1=>aR ?_)
 have c1:gA i1 g0 f1:=c1;have P1:Row2 f1 TO v1 v2:=(c1.extBut _ _ D.ni1TO.symm (a0.extBut _ _ D.nTOz hO));refine aB (iJ P1 rfl ?_);refine aB (a6i P1 λg1 O1 a1 =>?_)
 have a1:gA TO f1 g1:=a1;refine aB (wpAny_letGo (aR ?_));refine aB (aB (wpAny_onRaise ?_));refine aB (m:=SmallTypes.nextOf (.ref i2)) ((src hh k2 i2 l2 D.nl2i2 x2).item i _ _ _ b2 ⟨(h2.at λ_ e=>(a1.extBut _ _ D.ni2TO (c1.extBut _ _ D.ni2i1 (a0.extBut _ _ D.ni2z e)))),(s2.at λ_ e=>(a1.extBut _ _ D.nl2TO (c1.extBut _ _ D.nl2i1 (a0.extBut _ _ D.nl2z e))))⟩ λy2 f2 t2 p2 q2 c2=>aR ?_)
 have c2:gA i2 g1 f2:=c2;have P2:Row2 f2 TO y1 v2:=(c2.extBut _ _ D.ni2TO.symm O1);refine aB (iJ P2 rfl ?_);refine aB (a6h P2 λg2 O2 a2 =>?_)
 have a2:gA TO f2 g2:=a2;refine aB (wpAny_letGo (aR (aR ?_)));refine aB (iJ O2 rfl (aB (wpAny_newTuple ?_)));have sz:g2.objs.size=s.heap.objs.size:=by rw[a2.1,c2.1,a1.1,c1.1,a0.1]
 have zn:rP g2 z TI TO .ellipsis:=(a2.extBut _ _ D.nTOz.symm (c2.extBut _ _ D.ni2z.symm (a1.extBut _ _ D.nTOz.symm (c1.extBut _ _ D.ni1z.symm z0))));have kn:∀c o,c≠z->c≠TO->c≠i1->c≠i2->s.heap.get? c=ZY o->g2.get? c=ZY o:=λc o n0 n1 n2 n3 e=>(a2.extBut _ _ n1 (c2.extBut _ _ n3 (a1.extBut _ _ n1 (c1.extBut _ _ n2 (a0.extBut _ _ n0 e)))))
 have j1:It1 k1 g2 i1 l1 (i+1):=q1.1.at λ_ e=>(a2.extBut _ _ D.ni1TO (c2.extBut _ _ D.ni2i1.symm (a1.extBut _ _ D.ni1TO e)))
 have j2:It1 k2 g2 i2 l2 (i+1):=q2.1.at λ_ e=>(a2.extBut _ _ D.ni2TO e)
 have lz:z < g2.objs.size:=aV zn;refine aB (m:=SmallTypes.ownedTupleHandOut (.ref z) (.ref g2.objs.size)) ?_;unfold SmallTypes.ownedTupleHandOut;have zp:rP (g2.push { cls:=.type "tuple", data:=.seq #[y1,y2] }) z TI TO .ellipsis:=aD _ zn;refine aB (wpAny_setField_rec zp (by simp) λe1 z1 b1' =>?_)
 have z1:rP e1 z TI TO (rawInt g2.objs.size):=z1;refine wpAny_setField_rec z1 (by simp) λe2 z2 b2' =>?_
 have z2:rP e2 z TI TO (rawInt g2.objs.size):=z2;have up:∀c o,c≠z->g2.get? c=ZY o->e2.get? c=ZY o:=λc o n1 e=>b2'.extBut _ _ n1 (b1'.extBut _ _ n1 (aD _ e))
 have t2:Row2 e2 g2.objs.size y1 y2:=b2'.extBut _ _ (pB lz) (b1'.extBut _ _ (pB lz) (aW _ rfl));have s2':e2.objs.size=g2.objs.size+1:=by rw[b2'.1,b1'.1,dB]
 rw[sz] at z2 t2 s2';refine aR ⟨_,rfl,?_⟩;show Q (.ref g2.objs.size) _;rw[sz];exact q e2 _ y1 y2 p1 p2 z2 (up _ _ D.nTOz O2) (j1.at λ_ e=>up _ _ D.ni1z e) (j2.at λ_ e=>up _ _ D.ni2z e) t2 s2' λc o n0 n1 n2 n3 e=>up c o n0 (kn c o n0 n1 n2 n3 e)
theorem axc{z TI TO i1 i2 l1 l2:aY}{k1:Bool}{x1:Array aH}{v1 v2:aH}{Q:Fin->aO->Prop}(hh:A.handled=ZX)(D:Apart2 z TI TO i1 i2 l1 l2)
  (hz:rP s.heap z TI TO .none) (hI:Row2 s.heap TI (.ref i1) (.ref i2)) (hO:Row2 s.heap TO v1 v2) (h1:It1 k1 s.heap i1 l1 x1.size) (s1:Sq1 k1 s.heap l1 x1)
  (q:∀h' e,(∀c o,c≠z->c≠i1->s.heap.get? c=ZY o->h'.get? c=ZY o)->(∃o,h'.get? e=ZY o/\o.cls=.type "StopIteration")->E (.ref e) { s with heap:=h' }) :
  bT (cA prog w) A (lW.«zip.__next__» ⟨[.ref z],[]⟩) Q E s:=by
 refine aB (m:=field (.ref z) 2) (fQ hz rfl (x:=.bool ZV) rfl ?_);refine aB (m:=field (.ref z) 3) (fQ hz rfl (x:=.ref TI) rfl ?_);refine aB (iJ hI rfl ?_);refine aB (m:=SmallTypes.ownedTupleIsFree (.ref z)) ?_;unfold SmallTypes.ownedTupleIsFree;refine aB (fQ hz rfl (x:=.none) rfl (aR ?_));simp only[if_true];refine aB (wpAny_rule (aB (fQ hz rfl (x:=.ref TO) rfl ?_)));refine aB (wpAny_setField_rec hz (by simp) λg0 z0 a0 =>?_)
 have z0:rP g0 z TI TO .ellipsis:=z0;refine aB ?_;simp only[wN,wZ,rN,sU];refine aB (aB (wpAny_onRaise ?_));refine aB (m:=SmallTypes.nextOf (.ref i1)) ((src hh k1 i1 l1 D.nl1i1 x1).done _ _ _ ⟨(h1.at λ_ e=>a0.extBut _ _ D.ni1z e),(s1.at λ_ e=>a0.extBut _ _ D.nl1z e)⟩ λf1 e c1 ⟨oe,he,ce⟩ =>?_)
 have zf:rP f1 z TI TO .ellipsis:=c1 _ _ D.ni1z.symm z0;have ez:e≠z:=λx=>by subst x;rw[zf] at he;cases he;simp at ce
 refine wpAny_setField_rec zf (by simp) λf2 _ a1=>q f2 e (λc o n1 n2 y=>a1.extBut _ _ n1 (c1 _ _ n2 (a0.extBut _ _ n1 y))) ⟨oe,a1.extBut _ _ ez he,ce⟩
abbrev ata(h:fH)(k1 k2:Bool)(l1 l2:aY):fH:=h.push { cls:=.type (cond k1 "tuple_iterator" "list_iterator"),data:=.fields #[.ref l1,.int 0 0] }
abbrev axf(h:fH)(k1 k2:Bool)(l1 l2:aY):fH:=(ata h k1 k2 l1 l2).push { cls:=.type (cond k2 "tuple_iterator" "list_iterator"),data:=.fields #[.ref l2,.int 0 0] }
abbrev axe(h:fH)(k1 k2:Bool)(l1 l2:aY):fH:=(axf h k1 k2 l1 l2).push { cls:=.type "tuple", data:=.seq #[.ref h.objs.size,.ref (ata h k1 k2 l1 l2).objs.size] }
abbrev axd(h:fH)(k1 k2:Bool)(l1 l2:aY):fH:=(axe h k1 k2 l1 l2).push { cls:=.type "tuple", data:=.seq #[.none,.none] }
abbrev anh(h:fH)(k1 k2:Bool)(l1 l2:aY):fH:=(axd h k1 k2 l1 l2).push { cls:=.type "zip", data:=.fields #[.none,.bool ZV,.bool ZV,.ref (axf h k1 k2 l1 l2).objs.size,.ref (axe h k1 k2 l1 l2).objs.size] }
theorem a3c(k1 k2:Bool)(l1 l2:aY)(x1 x2:Array aH) :
  Meets (lW.«zip.__new__» ⟨[.type "zip", .ref l1,.ref l2],[]⟩) (λ_ R s=>Sq1 k1 s.heap l1 x1/\Sq1 k2 s.heap l2 x2/\R (.ok (.ret (.ref (axd s.heap k1 k2 l1 l2).objs.size))) { s with heap:=anh s.heap k1 k2 l1 l2 }) :=
 .of_wp λprog w A R s h=>by
  obtain⟨hp,g,d,tk,os⟩:=s;obtain⟨s1,s2,h⟩:=h;have sb:=sub_zip;have r1:Sq1 k1 (uW ⟨hp,g,d,tk,os⟩) l1 x1:=s1.at λ_ e=>e
  have r2:Sq1 k2 (uW ⟨ata hp k1 k2 l1 l2,g,d,tk,os⟩) l2 x2:=s2.at λ_ e=>aD _ (e)
  wp_walk using ay1 r1,ay1 r2;exact⟨_,rfl,h⟩
theorem awv{k1 k2:Bool}{l1 l2:aY}{x1 x2:Array aH}{Q:aH->aO->Prop}(s1:Sq1 k1 s.heap l1 x1)(s2:Sq1 k2 s.heap l2 x2)
  (q:∀h',rP h' (s.heap.objs.size+4) (s.heap.objs.size+2) (s.heap.objs.size+3) .none->Row2 h' (s.heap.objs.size+2) (.ref s.heap.objs.size) (.ref (s.heap.objs.size+1))->Row2 h' (s.heap.objs.size+3) .none .none->It1 k1 h' s.heap.objs.size l1 0->It1 k2 h' (s.heap.objs.size+1) l2 0->h'.objs.size=s.heap.objs.size+5->(∀c o,s.heap.get? c=ZY o->h'.get? c=ZY o)->Q (.ref (s.heap.objs.size+4)) { s with heap:=h' }) :
  bT (cA prog w) A (call (.type "zip") [.ref l1,.ref l2]) Q E s:=by
 refine callType_new F.called_zip (by decide) (a1f _ _) (a3a _ _) (λobj=>a4z obj _ _) F.entry_zip_new (a3c k1 k2 l1 l2 x1 x2) ⟨s1,s2,?_⟩
 have e1:(ata s.heap k1 k2 l1 l2).objs.size=s.heap.objs.size+1:=by rw[dB]
 have e2:(axf s.heap k1 k2 l1 l2).objs.size=s.heap.objs.size+2:=by rw[dB,e1]
 have eI:(axe s.heap k1 k2 l1 l2).objs.size=s.heap.objs.size+3:=by rw[dB,e2]
 have eO:(axd s.heap k1 k2 l1 l2).objs.size=s.heap.objs.size+4:=by rw[dB,eI]
 have eZ:(anh s.heap k1 k2 l1 l2).objs.size=s.heap.objs.size+5:=by rw[dB,eO]
 have gZ:(anh s.heap k1 k2 l1 l2).get? (axd s.heap k1 k2 l1 l2).objs.size=ZY _:=aW _ rfl;have gO:(anh s.heap k1 k2 l1 l2).get? (axe s.heap k1 k2 l1 l2).objs.size=ZY _:=aD _ (aW _ rfl);have gI:(anh s.heap k1 k2 l1 l2).get? (axf s.heap k1 k2 l1 l2).objs.size=ZY _:=aD _ (aD _ (aW _ rfl));have j1:(anh s.heap k1 k2 l1 l2).get? s.heap.objs.size=ZY _:=aD _ (aD _ (aD _ (aD _ (aW _ rfl))));have j2:(anh s.heap k1 k2 l1 l2).get? (ata s.heap k1 k2 l1 l2).objs.size=ZY _:=aD _ (aD _ (aD _ (aW _ rfl)));show _/\_;rw[e2,eI,eO] at gZ;rw[e1,e2] at gI;rw[eI] at gO;rw[e1] at j2;rw[eO];exact⟨⟨_,gZ,rfl⟩,q _ gZ gI gO (aov j1) (aov j2) eZ λc o x=>aD _ (aD _ (aD _ (aD _ (aD _ (x)))))⟩
end
structure Apart3 (z TI TO i1 i2 i3 l1 l2 l3:aY):Prop where
 nTIz:TI≠z
 nTOz:TO≠z
 nTOTI:TO≠TI
 ni1z:i1≠z
 ni1TI:i1≠TI
 ni1TO:i1≠TO
 ni2z:i2≠z
 ni2TI:i2≠TI
 ni2TO:i2≠TO
 ni2i1:i2≠i1
 ni3z:i3≠z
 ni3TI:i3≠TI
 ni3TO:i3≠TO
 ni3i1:i3≠i1
 ni3i2:i3≠i2
 nl1z:l1≠z
 nl1TO:l1≠TO
 nl1i1:l1≠i1
 nl1i2:l1≠i2
 nl1i3:l1≠i3
 nl2z:l2≠z
 nl2TO:l2≠TO
 nl2i1:l2≠i1
 nl2i2:l2≠i2
 nl2i3:l2≠i3
 nl3z:l3≠z
 nl3TO:l3≠TO
 nl3i1:l3≠i1
 nl3i2:l3≠i2
 nl3i3:l3≠i3
section
variable{prog:cG}{w:dZ}{A:eG}{E:aH->aO->Prop}{s:aO}
end
end En
namespace Mn
open L2 En
def SqK(k:Bool)(K:Fg9)(H:Hp)(a:aY)(xs:List V):Prop:=cond k (SqT K H a xs) (SqL K H a xs)
theorem agl{xs:List V}{us:List aH}(r:Vals xs us){i:Nat}{x:V}{u:aH}(h:xs[i]? = ZY x)(h':us.toArray[i]? = ZY u):RelV x u:=by
 obtain⟨u',e,z⟩:=r.get h;have:us[i]? = ZY u:=by simpa using h'
 rw[this] at e;cases e;exact z
section
variable{X:Cx}{qv:List (aY×Obj)}{σ:L2.St}{H:Hp}{s:aO}{h':fH}{a:aY}{xs ys:List V}{k:Bool}
theorem af1(I:Inv X qv σ H s)(h:SqK k X.K H a xs):∃its:List aH,Vals xs its/\Sq1 k s.heap a its.toArray:=by
 cases k with
 | false =>
  obtain⟨its,r,p,_⟩:=I.list h;exact⟨its,r,p.isList⟩
 | true =>
  obtain⟨its,r,p,_⟩:=I.tuple h;exact⟨its,r,p⟩
theorem aow(I:Inv X qv σ H s)(h:SqK k X.K H a xs)(h2:SqK k X.K H a ys):xs=ys:=by
 cases k with
 | false=>exact I.list_inj h h2
 | true=>exact I.tuple_inj h h2
theorem afq{t':Nat}{fp:List aY}(I:Inv X qv σ H s)(kk:∀b o,b∉fp->s.heap.get? b=ZY o->h'.get? b=ZY o)(hf:∀b∈fp,FpOk X qv H b):Inv X qv σ H { s with heap:=h',toks:=t' }:=by
 have nit:∀b u,H b=ZY u->b∉fp:=λb u e z=>by rw[(hf b z).1] at e;cases e
 have nL:X.env.locals∉fp:=λz=>(hf _ z).2.1 rfl
 refine I.step (g':=s.gens) (d':=s.drawn) (ch:=fp) (λb hb=>⟨(hf b hb).2.2.2.1,(hf b hb).2.1,(hf b hb).2.2.2.2.1,(hf b hb).2.2.2.2.2⟩) (λb o _ _ hc e _=>kk b o hc e) (λb o _ _ hc e _=>⟨o.slots,kk b o hc e⟩) (λ_ _ _ _ n=>n)
  (λb o hc e=>⟨o,kk b o hc e⟩) (λ_ _ e=>e) (λ_ _ _ e=>e) (λb ps e=>⟨#[],by rw[e];simp⟩) (λm hm =>?_) (λb u e =>?_) I.bare
 ·obtain⟨o,es,ep,ho,r⟩:=hm;exact⟨o,es,ep,kk _ o nL ho,r⟩
 ·refine(I.hok b u e).stay (λc v hc q=>kk c v ?_ q) (λ_ q=>q) λ_ _ q=>q
  rcases hc with z | z
  ·rw[z];exact nit b u e
  ·exact nit c _ z
theorem avl{t':Nat}{fp:List aY}{vs:List V}{us:List aH}(I:Inv X qv σ H s)(kk:∀b o,b∉fp->s.heap.get? b=ZY o->h'.get? b=ZY o)(hf:∀b∈fp,FpOk X qv H b)(hb:∀b∈fp,b < s.heap.objs.size)
  (r:Vals vs us) (hz:vs.length<=cO) (ht:h'.get? s.heap.objs.size=ZY { cls:=.type "tuple", data:=.seq us.toArray }):Inv X qv σ (upd H s.heap.objs.size (.tup vs)) { s with heap:=h',toks:=t' }:=by
 have I1:=I.laid (h':=s.heap.push { cls:=.type "tuple", data:=.seq us.toArray }) (t':=s.toks) (a:=s.heap.objs.size) (o:=.tup vs) (λb u e=>aD _ e) (aM _) ⟨hz,us,r,⟨_,aW _ rfl,rfl,rfl,_,rfl⟩⟩
 have k2:∀b o,b∉fp->(s.heap.push { cls:=.type "tuple", data:=.seq us.toArray }).get? b=ZY o->h'.get? b=ZY o:=λb o hn e=>by
  rcases Heap.get?_push_cases e with⟨rfl,rfl⟩ | e
  ·exact ht
  ·exact kk b o hn e
 have f2:∀b∈fp,FpOk X qv (upd H s.heap.objs.size (.tup vs)) b:=λb hb'=>by
  obtain⟨f0,f⟩:=hf b hb';exact⟨by rw[bf (bQ (hb b hb'))];exact f0,f⟩
 have R:=afq (t':=t') (h':=h') (fp:=fp) I1 k2 f2;exact R
end
theorem a0v{k:Bool}{h:fH}{it a l:aY}{i:Nat}{xs:Array aH}(x:It1 k h it l i){k':Bool}(y:Sq1 k' h a xs):a≠it:=λe=>by
 subst e;cases k <;> cases k' <;> exact(by
  obtain⟨o,e1,c1,_⟩:=x;obtain⟨o',e2,c2,_⟩:=y;rw[e1] at e2;cases e2;rw[c1] at c2;simp at c2)
theorem bak{h:fH}{a b:aY}{o:Obj}{n:String}{k:Bool}{xs:Array aH}(e:h.get? b=ZY o)(c:o.cls=.type n)(hn:n ≠ "list" /\ n ≠ "tuple")(y:Sq1 k h a xs):a≠b:=λz=>by
 subst z;cases k <;> exact(by
  obtain⟨o',e2,c2,_⟩:=y;rw[e] at e2;cases e2;rw[c] at c2;simp at c2
  first | exact hn.1 c2 | exact hn.2 c2)
def Ite(K:Fg9)(k:Bool)(a:aY):It :=
 ⟨λi H=>∃xs x,SqK k K H a xs/\xs[i]? = ZY x,λi H x H'=>∃q v,H q=ZX/\x=.ref q/\H'=upd H q (.tup [.int i,v])/\∀xs,SqK k K H a xs->xs[i]? = ZY v,λi H=>∃xs,SqK k K H a xs/\xs.length=i⟩
theorem ath{P:cG}{w:dZ}{K:Fg9}{elts:List dH}{n:Nat}{pos:Pos}(k:Bool)(a e it:aY)(ne:e≠it) :
  Turn P w K (.Tuple elts n pos) (Ite K k a) [e,it] e (λi h=>(∃old,IsEnum h e it i old)/\It1 k h it a i) where
 mem:=by simp
 obj:=λi h st b hb=>by
  have hb:b=e∨b=it:=by simpa using hb
  rcases hb with rfl | rfl
  ·obtain⟨old,z⟩:=st.1;exact⟨_,z,λv z=>by cases z⟩
  ·exact st.2.got
 keep:=λi h h' st kk=>by
  obtain⟨⟨old,z⟩,y⟩:=st;exact⟨⟨old,kk e (by simp) _ z⟩,y.at λo z=>kk it (by simp) o z⟩
 item:=by
  intro X hP hw hK hc i qv s σ H E I hf st hg;subst hP hw hK;obtain⟨⟨old,he⟩,hi⟩:=st;obtain⟨xs,x,hq,hx⟩:=hg;obtain⟨its,rv,sq⟩:=af1 I hq;obtain⟨u,hu,ru⟩:=rv.get hx;have hlt:i < its.toArray.size:=by simpa using (aQ.mp hu).1
  have nai:=a0v hi sq;have nae:a≠e:=bak he rfl (by decide) sq
  have D:=En.src (prog:=X.prog) (w:=X.w) (A:=X.A.in1) (I.ok.hd hc) k it a nai its.toArray;refine wpAny_pyNext_enum_itemD D he ⟨hi,sq⟩ hlt ne (by simp[ne,nae.symm]) λy g tk hy ho hs hT hz hk =>?_
  refine⟨_,rfl,wpAny_letOwnedTupleGo_enum ho λg2 he2 sb =>?_⟩
  have ry:=agl rv hx hy;have lte:e < s.heap.objs.size:=aV he;have lti:it < s.heap.objs.size:=by obtain⟨o,z,_⟩:=hi.got;exact aV z
  have fr:H s.heap.objs.size=ZX:=I.hok.fresh (aM _);refine⟨.ref s.heap.objs.size,upd H s.heap.objs.size (.tup [.int i,x]),?_,rfl,⟨_,x,fr,rfl,rfl,λys hy=>by rw[aow I hy hq];exact hx⟩,⟨⟨_,he2⟩,hs.1.at λo z=>sb.extBut _ _ ne.symm z⟩,λb hb =>?_⟩
  ·refine avl (fp:=[e,it]) (us:=[.int i tk,y]) I (λb o hn z =>?_) hf (λb hb =>?_) (.cons ⟨tk,rfl⟩ (.cons ry .nil)) (by rw[eV];simp) (sb.extBut _ _ (pB lte) hT)
   ·have h1:b≠e:=λz=>hn (by simp[z])
    have h2:b≠it:=λz=>hn (by simp[z])
    exact sb.extBut _ _ h1 (hk b o h1 h2 z)
   ·have hb:b=e∨b=it:=by simpa using hb
    rcases hb with rfl | rfl
    ·exact lte
    ·exact lti
  ·have hb':b=e∨b=it:=by simpa using hb
   rw[bf (by rcases hb' with rfl | rfl;exact bQ lte;exact bQ lti)]
   exact(hf b hb).1
 done:=by
  intro X hP hw hK hc i qv s σ H E I hf st hg;subst hP hw hK;obtain⟨⟨old,he⟩,hi⟩:=st;obtain⟨xs,hq,hx⟩:=hg;obtain⟨its,rv,sq⟩:=af1 I hq;have hl:i=its.toArray.size:=by have:=rv.length;simp;omega
  subst hl;have D:=En.src (prog:=X.prog) (w:=X.w) (A:=X.A.in1) (I.ok.hd hc) k it a (a0v hi sq) its.toArray;refine wpAny_pyNext_enum_endD D he ⟨hi,sq⟩ λg eb=>⟨rfl,afq (t':=s.toks) (fp:=[e,it]) I (λb o hn z=>eb b o (λz=>hn (by simp[z])) z) hf⟩
 self:=λ_ _ _ _ _ st h=>let ⟨_,z⟩:=st.1;wpAny_pyIter_enum z h
theorem a81:cM "zip" = ZY (.type "zip"):=by decide +kernel
section
variable{X:Cx}
def bbw(K:Fg9)(ta:TA):TI:=λσ H R=>ta σ H λvs H1=>∃a k,vs=[.ref a]/\(∃xs,SqK k K H1 a xs)/\R (Ite K k a) H1
theorem a2j{a:dH}{ta:TA}{p pos:Pos}{elts:List dH}{n:Nat}{tp:Pos}(hg:Gl X "enumerate")(hm:X.mg "enumerate" = ZX)(ha:PA X [a] ta)(hs:bA [a] X.env=[(ZV,eval a X.env)]:=by rfl) :
  PI X (.Tuple elts n tp) (.Call (.Name "enumerate" p) [a] [] pos) (bbw X.K ta):=by
 intro qv s σ H R I h;refine Call_ (ahh I hg hm am8 (gM (thn (ha pos qv s σ H _ I h) λus s1 ⟨vs,H1,I1,r1,q1⟩ =>?_) hs rfl))
 obtain⟨b,k,rfl,⟨xs,hq⟩,q⟩:=q1;obtain⟨u,rfl,ru⟩:=vals1 r1;cases ru;obtain⟨its,rv,sq⟩:=af1 I1 hq;refine awy sq λg he hi hz kk=>wpAny_pyIter_enum he ?_
 have I2:Inv X qv σ H1 { s1 with heap:=g }:=I1.kept (t':=s1.toks) kk
 refine⟨_,[s1.heap.objs.size+1,s1.heap.objs.size],_,_,H1,rfl,I2,ath k b _ _ (Nat.succ_ne_self _),⟨⟨_,he⟩,hi⟩,λc hc =>?_,q⟩
 have hc:c=s1.heap.objs.size+1∨c=s1.heap.objs.size:=by simpa using hc
 rcases hc with rfl | rfl
 ·exact I1.fpOk (gP _) (I1.hok.fresh (gP _))
 ·exact I1.fpOk (aM _) (I1.hok.fresh (aM _))
end
end Mn
namespace En
open PySem PySem.Builtin
theorem a0m{prog:cG}{w:dZ}{A:eG}{E:aH->aO->Prop}{s:aO}{z TI TO:aY}{f0:aH}{Q:Option aH->aO->Prop}(hz:rP s.heap z TI TO f0)
  (h:bT (cA prog w) A.in1 (lW.«zip.__next__» ⟨[.ref z],[]⟩) (λfin s'=>∃v,fin=.done (.ret v)/\Q (ZY v) s') (λe s'=>∃a o,e=.ref a/\s'.heap.get? a=ZY o/\o.cls=.type "StopIteration" /\ Q ZX s') s) :
  bT (cA prog w) A (pyNext (.ref z)) Q E s:=by
 have tz:s.TypeIs (.ref z) "zip" := ⟨_,hz,rfl⟩;unfold pyNext;refine aB (wpAny_attempt (wpAny_callSpecial?_slot (name:=mW "__next__") tz xM (gC xM tz F.entry_zip_next (cU h (λfin s' ⟨v,e,q⟩=>⟨v,e,aR q⟩) λe s' ⟨a,o,e1,e2,e3,q⟩ =>?_) (F.args_zip_next_1 _))))
 subst e1;exact aB (wpAny_isInstance (T := "StopIteration") (b:=ZW) ⟨o,e2,e3⟩ isSubtype_stop (aR q))
end En
namespace Mn
open L2 En
def Itz2(K:Fg9)(k1 k2:Bool)(a1 a2:aY):It :=
 ⟨λi H=>∃x1 x2 v1 v2,(SqK k1 K H a1 x1/\x1[i]? = ZY v1)/\(SqK k2 K H a2 x2/\x2[i]? = ZY v2),λi H x H'=>∃q v1 v2,H q=ZX/\x=.ref q/\H'=upd H q (.tup [v1,v2])/\(∀xs,SqK k1 K H a1 xs->xs[i]? = ZY v1)/\(∀xs,SqK k2 K H a2 xs->xs[i]? = ZY v2),λi H=>∃xs,SqK k1 K H a1 xs/\xs.length=i⟩
theorem ate{P:cG}{w:dZ}{K:Fg9}{elts:List dH}{n:Nat}{pos:Pos}(k1 k2:Bool)(a1 a2 z TI TO i1 i2:aY)(D:Apart2 z TI TO i1 i2 a1 a2) :
  Turn P w K (.Tuple elts n pos) (Itz2 K k1 k2 a1 a2) [z,TI,TO,i1,i2] z (λi h=>rP h z TI TO .none/\Row2 h TI (.ref i1) (.ref i2)/\(∃v1 v2,Row2 h TO v1 v2)/\It1 k1 h i1 a1 i/\It1 k2 h i2 a2 i) where
 mem:=by simp
 obj:=λi h ⟨hz,hI,⟨v1,v2,hO⟩,h1,h2⟩ b hb=>by
  have hb:b=z∨b=TI∨b=TO∨b=i1∨b=i2:=by simpa using hb
  rcases hb with rfl | rfl | rfl | rfl | rfl
  ·exact⟨_,hz,λv z=>by cases z⟩
  ·exact⟨_,hI,λv z=>by cases z⟩
  ·exact⟨_,hO,λv z=>by cases z⟩
  ·exact h1.got
  ·exact h2.got
 keep:=λi h h' ⟨hz,hI,⟨v1,v2,hO⟩,h1,h2⟩ kk=>⟨kk z (by simp) _ hz,kk TI (by simp) _ hI,⟨v1,v2,kk TO (by simp) _ hO⟩,h1.at λo e=>kk i1 (by simp) o e,h2.at λo e=>kk i2 (by simp) o e⟩
 item:=by
  intro X hP hw hK hc i qv s σ H E I hf st hg;subst hP hw hK;obtain⟨hz,hI,⟨o1,o2,hO⟩,h1,h2⟩:=st;obtain⟨x1,x2,v1,v2,⟨hq1,hx1⟩,⟨hq2,hx2⟩⟩:=hg;obtain⟨t1,r1,s1⟩:=af1 I hq1;obtain⟨u1,hu1,_⟩:=r1.get hx1;have b1:i < t1.toArray.size:=by simpa using (aQ.mp hu1).1
  obtain⟨t2,r2,s2⟩:=af1 I hq2;obtain⟨u2,hu2,_⟩:=r2.get hx2;have b2:i < t2.toArray.size:=by simpa using (aQ.mp hu2).1
  refine a0m hz (as9 (I.ok.hd hc) D hz hI hO h1 s1 h2 s2 b1 b2 λg tk y1 y2 p1 p2 z2 O2 j1 j2 T2 hsz hk =>?_)
  refine⟨_,rfl,wpAny_letOwnedTupleGo_zip z2 λg2 he2 sb =>?_⟩
  have fr:H s.heap.objs.size=ZX:=I.hok.fresh (aM _);have lt:∀b∈[z,TI,TO,i1,i2],b < s.heap.objs.size:=λb hb=>by
   have hb:b=z∨b=TI∨b=TO∨b=i1∨b=i2:=by simpa using hb
   rcases hb with rfl | rfl | rfl | rfl | rfl
   ·exact aV hz
   ·exact aV hI
   ·exact aV hO
   ·obtain⟨o,e,_⟩:=h1.got;exact aV e
   ·obtain⟨o,e,_⟩:=h2.got;exact aV e
  have up:∀b o,b∉[z,TI,TO,i1,i2]->s.heap.get? b=ZY o->g2.get? b=ZY o:=λb o hn e=>sb.extBut _ _ (λx=>hn (by simp[x])) (hk b o (λx=>hn (by simp[x])) (λx=>hn (by simp[x])) (λx=>hn (by simp[x])) (λx=>hn (by simp[x])) e)
  have TI2:g2.get? TI=_:=sb.extBut _ _ D.nTIz (hk TI _ D.nTIz D.nTOTI.symm D.ni1TI.symm D.ni2TI.symm hI);refine⟨.ref s.heap.objs.size,upd H s.heap.objs.size (.tup [v1,v2]),?_,rfl,⟨_,v1,v2,fr,rfl,rfl,λys hy=>by rw[aow I hy hq1];exact hx1,λys hy=>by rw[aow I hy hq2];exact hx2⟩,⟨he2,TI2,⟨y1,y2,sb.extBut _ _ D.nTOz O2⟩,(j1.at λo e=>sb.extBut _ _ D.ni1z e),(j2.at λo e=>sb.extBut _ _ D.ni2z e)⟩,λb hb =>?_⟩
  ·exact avl (fp:=[z,TI,TO,i1,i2]) (us:=[y1,y2]) I up hf lt (.cons (agl r1 hx1 p1) (.cons (agl r2 hx2 p2) .nil)) (by rw[eV];simp) (sb.extBut _ _ (pB (lt z (by simp))) T2)
  ·rw[bf (bQ (lt b hb))];exact(hf b hb).1
 done:=by
  intro X hP hw hK hc i qv s σ H E I hf st hg;subst hP hw hK;obtain⟨hz,hI,⟨o1,o2,hO⟩,h1,h2⟩:=st;obtain⟨xs,hq,hx⟩:=hg;obtain⟨its,rv,sq⟩:=af1 I hq;have hl:i=its.toArray.size:=by have:=rv.length;simp;omega
  subst hl;refine a0m hz (axc (I.ok.hd hc) D hz hI hO h1 sq λg e kk ⟨o,he,ce⟩=>⟨e,o,rfl,he,ce,rfl,afq (t':=s.toks) (fp:=[z,TI,TO,i1,i2]) I (λb o hn z=>kk b o (λz=>hn (by simp[z])) (λz=>hn (by simp[z])) z) hf⟩)
 self:=λ_ _ _ _ _ st h=>wpAny_pyIter_zip st.1 h
theorem apart2{N l1 l2:Nat}(h1:l1 < N)(h2:l2 < N):Apart2 (N+4) (N+2) (N+3) N (N+1) l1 l2:=by
 constructor <;> (intro e;have e:(_:Nat)=_:=e;omega)
section
variable{X:Cx}
def bbs(K:Fg9)(ta:TA):TI:=λσ H R=>ta σ H λvs H1=>∃a1 a2 k1 k2,vs=[.ref a1,.ref a2]/\(∃xs,SqK k1 K H1 a1 xs)/\(∃xs,SqK k2 K H1 a2 xs)/\R (Itz2 K k1 k2 a1 a2) H1
theorem a2i{e1 e2:dH}{ta:TA}{p pos:Pos}{elts:List dH}{n:Nat}{tp:Pos}(hg:Gl X "zip")(hm:X.mg "zip" = ZX)(ha:PA X [e1,e2] ta)(hs:bA [e1,e2] X.env=[(ZV,eval e1 X.env),(ZV,eval e2 X.env)]:=by rfl)(hs2:bA [e2] X.env=[(ZV,eval e2 X.env)]:=by rfl) :
  PI X (.Tuple elts n tp) (.Call (.Name "zip" p) [e1,e2] [] pos) (bbs X.K ta):=by
 intro qv s σ H R I h;refine Call_ (ahh I hg hm a81 (gM (thn (ha pos qv s σ H _ I h) λus s1 ⟨vs,H1,I1,r1,q1⟩ =>?_) (by rw[hs,hs2]) (by rw[hs2];rfl)))
 obtain⟨a1,a2,k1,k2,rfl,⟨x1,hq1⟩,⟨x2,hq2⟩,q⟩:=q1;obtain⟨u1,u2,rfl,ru1,ru2⟩:=vals2 r1;cases ru1;cases ru2;obtain⟨t1,r1',sq1⟩:=af1 I1 hq1;have b1:a1 < s1.heap.objs.size:=by obtain⟨o,e⟩:=sq1.got;exact aV e
 obtain⟨t2,r2',sq2⟩:=af1 I1 hq2;have b2:a2 < s1.heap.objs.size:=by obtain⟨o,e⟩:=sq2.got;exact aV e
 refine awv sq1 sq2 λg hz hI hO h1 h2 hsz kk=>wpAny_pyIter_zip hz ?_
 have I2:Inv X qv σ H1 { s1 with heap:=g }:=I1.kept (t':=s1.toks) kk
 refine⟨_,[s1.heap.objs.size+4,s1.heap.objs.size+2,s1.heap.objs.size+3,s1.heap.objs.size,s1.heap.objs.size+1],_,_,H1,rfl,I2,ate k1 k2 a1 a2 _ _ _ _ _ (apart2 b1 b2),⟨hz,hI,⟨_,_,hO⟩,h1,h2⟩,λc hc =>?_,q⟩
 have hc:s1.heap.objs.size<=c:=by
  simp only[bG,oK,or_false] at hc;rcases hc with rfl | rfl | rfl | rfl | rfl <;> first | exact aM _ | exact Nat.le_add_right _ _
 exact I1.fpOk hc (I1.hok.fresh hc)
end
section
variable{X:Cx}
end
end Mn
namespace Dn
open L2 Mn
section
variable{K:Fg9}{X:Cx}{e a b c:dH}{es elts:List dH}{pos p tp:Pos}{n:Nat}
theorem atx{F:Hp}{d:D}{l:List D}{v:V}(e:itemsD d=ZY l)(h:Is K F d v):∃a k vs,v=.ref a/\IsL K F l vs/\∀H,Same F H->SqK k K H a vs:=by
 cases h with
 | tup e1 h1=>cases e;exact⟨_,ZW,_,rfl,h1,λH g=>SqT.of (g _ _ e1)⟩
 | lst e1 h1=>cases e;exact⟨_,ZV,_,rfl,h1,λH g=>SqL.of (g _ _ e1)⟩
 | kst e1 h1=>cases e;exact⟨_,ZV,_,rfl,h1,λH g=>L2.Same.seq g e1⟩
 | _=>cases e
def aip(l:List D):List D:=l.mapIdx λi d=>.tup [.int (i:Nat),d]
def azg:List D->Option (List D)
 | [d]=>(itemsD d).map aip
 | _=>ZX
theorem aev(l:List D):(aip l).length=l.length:=by unfold aip;simp
theorem ah2{l:List D}{i:Nat}{d:D}(h:(aip l)[i]? = ZY d):∃d0,l[i]? = ZY d0/\d=.tup [.int (i:Nat),d0]:=by
 unfold aip at h;rw[pG] at h;cases e:l[i]? with
 | none=>rw[e] at h;cases h
 | some d0=>rw[e] at h;cases h;exact⟨d0,rfl,rfl⟩
theorem ay3{F:Hp}{k:Bool}{a:aY}{l:List D}{vs:List V}(il:IsL K F l vs)(hs:∀H,Same F H->SqK k K H a vs):ItD K (Ite K k a) (aip l) F where
 go:=λi H s hi=>by
  have hi:i < vs.length:=by rw[<-il.length,<-aev];exact hi
  exact⟨vs,_,hs H s,aC hi⟩
 yld:=λi H x H' d s y hd=>by
  obtain⟨d0,h0,rfl⟩:=ah2 hd;obtain⟨q,v,hq,rfl,rfl,hv⟩:=y;obtain⟨v',e1,i1⟩:=il.get h0;have:=hv _ (hs H s);rw[e1] at this;cases this;exact .inr ⟨q,_,_,hq,rfl,rfl,rfl,.cons (.int _) (.cons i1 .nil)⟩
 stop:=λH s=>⟨vs,hs H s,by rw[aev,il.length]⟩
theorem avi{m:M (List D)}(hg:Gl X "enumerate")(hm:X.mg "enumerate" = ZX)(h:ED K X [a] m)(hs:bA [a] X.env=[(ZV,eval a X.env)]:=by rfl):IT K X (.Tuple elts n tp) (.Call (.Name "enumerate" p) [a] [] pos) (mGet azg m):=IT.mk λhk=>by
 intro qv s σ H R I z9;obtain⟨tg,F,ρ,l,ρ',G,em,q⟩:=z9;obtain⟨ds,ρ1,e1,em⟩:=az em;obtain⟨e2,rfl⟩:=fu em;have h:=h hk;subst hk;refine a2j hg hm h hs qv s σ H R I ⟨tg,F,ρ,ds,_,G,e1,λvs H' F' G' x r =>?_⟩
 match ds,e2 with
 | [d],e2 =>
  have e2:(itemsD d).map aip=ZY l:=e2;cases e3:itemsD d with
  | none=>rw[e3] at e2;cases e2
  | some l0 =>
   rw[e3] at e2;cases e2;cases r with
   | cons h1 t =>
    cases t;obtain⟨b,k,ws,rfl,il,hq⟩:=atx e3 h1;exact⟨b,k,rfl,⟨ws,hq _ G'.sub⟩,q _ H' F' G' x (ay3 il hq)⟩
noncomputable def qu(l1 l2:List D):List D:=List.zipWith (λx y=>.tup [x,y]) l1 l2
def amq:List D->Option (List D)
 | [a,b]=>(itemsD a).bind λl1=>(itemsD b).bind λl2=>if l1.length<=l2.length then ZY (qu l1 l2) else ZX
 | _=>ZX
theorem adz{l1 l2:List D}{i:Nat}{d:D}(h:(qu l1 l2)[i]? = ZY d):∃d1 d2,l1[i]? = ZY d1/\l2[i]? = ZY d2/\d=.tup [d1,d2]:=by
 unfold qu at h;rw[pC] at h;cases e1:l1[i]? with
 | none=>rw[e1] at h;cases h
 | some d1 =>
  cases e2:l2[i]? with
  | none=>rw[e1,e2] at h;cases h
  | some d2=>rw[e1,e2] at h;cases h;exact⟨_,_,rfl,rfl,rfl⟩
theorem ay2{F:Hp}{k1 k2:Bool}{a1 a2:aY}{l1 l2:List D}{x1 x2:List V}(h:l1.length<=l2.length)(i1:IsL K F l1 x1)(i2:IsL K F l2 x2)(s1:∀H,Same F H->SqK k1 K H a1 x1)(s2:∀H,Same F H->SqK k2 K H a2 x2):ItD K (Itz2 K k1 k2 a1 a2) (qu l1 l2) F where
 go:=λi H s hi=>by
  have z1:=i1.length;have z2:=i2.length;have hi:i < l1.length:=by unfold qu at hi;simp at hi;omega
  exact⟨x1,x2,_,_,⟨s1 H s,aC (by omega)⟩,s2 H s,aC (by omega)⟩
 yld:=λi H x H' d s y hd=>by
  obtain⟨d1,d2,h1,h2,rfl⟩:=adz hd;obtain⟨q,v1,v2,hq,rfl,rfl,y1,y2⟩:=y;obtain⟨w1,e1,j1⟩:=i1.get h1;obtain⟨w2,e2,j2⟩:=i2.get h2;have z1:=y1 _ (s1 H s);have z2:=y2 _ (s2 H s);rw[e1] at z1;rw[e2] at z2;cases z1;cases z2;exact .inr ⟨q,_,_,hq,rfl,rfl,rfl,.cons j1 (.cons j2 .nil)⟩
 stop:=λH s=>⟨x1,s1 H s,by unfold qu;rw[jB,<-i1.length];omega⟩
theorem afp{m:M (List D)}(hg:Gl X "zip")(hm:X.mg "zip" = ZX)(h:ED K X [a,b] m)(hs:bA [a,b] X.env=[(ZV,eval a X.env),(ZV,eval b X.env)]:=by rfl)(hs2:bA [b] X.env=[(ZV,eval b X.env)]:=by rfl) :
  IT K X (.Tuple elts n tp) (.Call (.Name "zip" p) [a,b] [] pos) (mGet amq m):=IT.mk λhk=>by
 intro qv s σ H R I z9;obtain⟨tg,F,ρ,l,ρ',G,em,q⟩:=z9;obtain⟨ds,ρ1,e1,em⟩:=az em;obtain⟨e2,rfl⟩:=fu em;have h:=h hk;subst hk;refine a2i hg hm h hs hs2 qv s σ H R I ⟨tg,F,ρ,ds,_,G,e1,λvs H' F' G' x r =>?_⟩
 match ds,e2 with
 | [d,d'],e2 =>
  have e2:((itemsD d).bind λl1=>(itemsD d').bind λl2=>if l1.length<=l2.length then ZY (qu l1 l2) else ZX)=ZY l:=e2
  cases e3:itemsD d with
  | none=>rw[e3] at e2;cases e2
  | some l1 =>
   cases e4:itemsD d' with
   | none=>rw[e3,e4] at e2;cases e2
   | some l2 =>
    rw[e3,e4] at e2;have e2:(if l1.length<=l2.length then ZY (qu l1 l2) else ZX)=ZY l:=e2
    split at e2
    ·rename_i hle;cases e2;cases r with
     | cons h1 t =>
      cases t with
      | cons h2 t =>
       cases t;obtain⟨b1,k1,w1,rfl,il1,hq1⟩:=atx e3 h1;obtain⟨b2,k2,w2,rfl,il2,hq2⟩:=atx e4 h2;exact⟨b1,b2,k1,k2,rfl,⟨w1,hq1 _ G'.sub⟩,⟨w2,hq2 _ G'.sub⟩,q _ H' F' G' x (ay2 hle il1 il2 hq1 hq2)⟩
    ·cases e2
end
end Dn
namespace Mn
open L2
theorem ay9{X:Cx}:PGet X (rIxL X.K):=by
 intro qv s σ H x y v u Q I rx ry h;obtain⟨p,xs,i,z,rfl,rfl,hq,he,q⟩:=h;cases rx;obtain⟨t,rfl⟩:=ry;obtain⟨its,r,pl,hz⟩:=I.list hq;obtain⟨j,h1,h2,h3,h4,h5⟩:=apb he;obtain⟨w,ew,rw'⟩:=r.get h2;have hl:=r.length;have hn:=al9;have fin:EP X qv σ Q w s:=⟨z,H,I,rw',q⟩
 by_cases h0:0<=i
 ·have hj:i.toNat=j:=by
   rw[seqIndex_of h0 h5] at h1;exact bO h1
  exact wpAny_getItem_list pl.isList h0 (by omega) (by rw[hj];simpa using ew) fin
 ·have hj:(i+(its.toArray.size:Int)).toNat=j:=by
   rw[seqIndex_neg (by omega) h4] at h1
   have:=bO h1;rw[aU,<-hl];exact this
  exact wpAny_getItem_list_neg pl.isList (by omega) (by simp only[aU];omega) (by omega) (by rw[hj];simpa using ew) fin
end Mn
namespace Dn
open L2 Mn
section
variable{K:Fg9}{X:Cx}{e a b:dH}{pos p:Pos}
def ao5(f:Int->Int->Int)(i:Nat)(mi m:M D):Sd:=dM (mOwn i) λ_=>dM mi λk=>dM (mOwn i) λl=>dM (lift ((asI k).bind (ixN l.length))) λj=>dM (lift ((l[j]?).bind asI)) λx=>dM m λy=>dM (lift (asI y)) λy=>dM (mOwn i) λl2=>dM (lift (if l2.length=l.length then ZY () else ZX)) λ_=>dM (aeh i (l2.set j (.int (f x y)))) λ_=>dNx
theorem a78{n:Nat}{k:Int}{j:Nat}{α:Type}{l:List α}(hn:l.length=n)(h:ixN n k=ZY j):atI l k=l[j]? := by
 unfold atI;rw[hn,h];rfl
theorem atk{f:Int->Int->Int}{op:mX}{i:Nat}{mi m:M D}(ho:PE X a (tVar i))(hi:EV K X b mi)(h:EV K X e m)(hp:PIp X op (ipI f))
  (ha:∀ov iv new,augStore b ov iv new=(do kW [new,ov,iv] (setItem ov iv new);release [new,ov,iv] [];pure .next):=by intros;rfl):SV K X (.AugAssign (.Subscript a b p) op e pos) (ao5 f i mi m):=SV.mk λhk=>by
 subst hk;refine PS.imp (a2d ho (hi rfl) ay9 (h rfl) hp set_list ha) λE σ H z9 =>?_
 obtain⟨tg,F,ρ,fl,ρ',G,em,q⟩:=z9;refine u9 em q λl0 ρ0 e0 em=>u9 em q λk ρ1 e1 em=>u9 em q λl ρ2 e2 em=>u9 em q λj ρ3 e3 em=>u9 em q λx ρ4 e4 em=>u9 em q λy ρ5 e5 em=>u9 em q λy' ρ6 e6 em=>u9 em q λl2 ρ7 e7 em=>u9 em q λu ρ8 e8 em=>u9 em q λu2 ρ9 e9 em =>?_
 cases em;obtain⟨rfl,t0,a0,xs0,es0,hv,hh0,hl0⟩:=ag2 G e0;refine⟨_,hv,tg,F,_,k,ρ1,G,e1,λw H1 F1 G1 x1 r1 =>?_⟩
 obtain⟨rfl,t1,a1,xs1,es1,hv1,hh1,hl1⟩:=ag2 G1 e2;rw[hv] at hv1;cases hv1;obtain⟨g3,rfl⟩:=fu e3;obtain⟨g4,rfl⟩:=fu e4;cases ek:asI k with
 | none=>rw[ek] at g3;cases g3
 | some n =>
  rw[ek] at g3;obtain rfl:=ae5 ek;cases r1;have e3:ixN l.length n=ZY j:=g3;cases ej:l[j]? with
  | none=>rw[ej] at g4;cases g4
  | some d =>
   rw[ej] at g4;have h4:asI d=ZY x:=g4;obtain rfl:=ae5 h4;obtain⟨v,ev,iv⟩:=hl1.get ej;cases iv;refine⟨_,xs1,n,.int x,rfl,rfl,SqL.of hh1,by rw[a78 hl1.length.symm e3];exact ev,?_⟩
   refine⟨tg,F1,_,y,ρ5,G1,e5,λw2 H2 F2 G2 x2 r2 =>?_⟩
   obtain⟨g6,rfl⟩:=fu e6;obtain rfl:=ae5 g6;cases r2;refine⟨x,y',rfl,rfl,?_⟩;obtain⟨rfl,t2,a2,xs2,es2,hv2,hh2,hl2⟩:=ag2 G2 e7;rw[hv] at hv2;cases hv2;obtain⟨g8,rfl⟩:=fu e8;split at g8
   ·rename_i hlen;obtain⟨G3,x3⟩:=aom G2 e9 hv (hl2.set (Is.int (f x y')) j);exact⟨_,xs2,n,j,rfl,rfl,hh2,by rw[<-hl2.length,hlen];exact e3,q _ _ F2 G3 ((x1.trans x2).trans x3)⟩
   ·cases g8
end
end Dn
namespace Mn
open L2
section
variable{prog:cG}{w:dZ}{A:eG}{E:aH->aO->Prop}{s:aO}
theorem ar4{l:aY}{vs:List aH}{ns:List Int}{Q:aH->aO->Prop}(hl:vC s.heap l vs.toArray)(hI:jT vs ns)(h64:vs.length < 64)
  (h:∀(h1 h':fH) (out:Array aH) (ns':List Int) (e:Nat),(∀b o,s.heap.get? b=ZY o->h1.get? b=ZY o)->(∀b o,h1.get? b=ZY o->h'.get? b=ZY o)->h'.get? h1.objs.size=ZY (jK "list" out e)->jT out.toList ns'->ns'.Perm ns->ns'.Pairwise (· <= ·)->Q (.ref h1.objs.size) { s with heap:=h' }) :
  bT (cA prog w) A (call (.builtin "sorted") [.ref l]) Q E s:=by
 obtain⟨o,ho,hc,n,hd⟩:=id hl;refine sX kind_sorted plain_sorted entry_sorted (args_sorted1 _) ?_;unfold lW.«sorted»
 refine aB (m:=checkCount "sorted" 1 1 _) (aR ?_);refine aB (wpAny_collect_seq l (.inr rfl) ho hc hd (λh1 k1 =>?_) (by rw[aU,eV];omega))
 refine aB (wpAny_newList ?_);have hoL:(h1.push (jK "list" vs.toArray 0)).get? h1.objs.size=ZY (jK "list" vs.toArray 0):=aW _ rfl;show bT _ _ _ _ _ { s with heap:=h1.push (jK "list" vs.toArray 0) }
 refine aB (fV (gC slot_list_sort ⟨_,hoL,rfl⟩ entry_list_sort (list_sort_tree hoL hI h64 λout ns' a1 a2 a3=>⟨_,rfl,?_⟩) (args_list_sort _)))
 obtain⟨e,he⟩:=sortedHeap_at (out:=out) hoL;exact aR ⟨_,rfl,h h1 _ out ns' e k1 (λb ob q=>by
  have hlt:b < h1.objs.size:=aV q;rw[sortedHeap_old (bQ hlt) (by rw[size_push'];exact qK hlt)]
  exact aD _ q) he a1 a2 a3⟩
end
end Mn
namespace Dn
open L2 Mn
section
variable{K:Fg9}{X:Cx}
def acu:D->Option Rv
 | .tup l=>(lg l).bind λns=>if ns.length < 64 then ZY (.fr ((sortI ns).map D.int)) else ZX
 | d=>akx d
@[simp] theorem a0y(l:List D):acu (.lst l)=akx (.lst l):=rfl
theorem as3:CallD K X (.builtin "sorted") (g1 λd=>match d with | .tup l=>(lg l).bind λns=>if ns.length < 64 then ZY (.fr ((sortI ns).map D.int)) else ZX | _=>ZX):=cd_one λhk qv s σ0 H x u Q tg F ρ σ d r I ru G bd eg q=>by
 subst hk;cases d with
 | tup l =>
  have eg:(lg l).bind (λns=>if ns.length < 64 then ZY (Rv.fr ((sortI ns).map D.int)) else ZX)=ZY r:=eg
  cases e:lg l with
  | none=>rw[e] at eg;cases eg
  | some ns =>
   rw[e] at eg;have eg:(if ns.length < 64 then ZY (Rv.fr ((sortI ns).map D.int)) else ZX)=ZY r:=eg
   split at eg
   ·rename_i h64;cases eg;obtain⟨a,vs,rfl,ea,hl⟩:=bd.tup;rw[zg e] at hl;rw[hl.int_inv] at ea;cases ru;obtain⟨its,rv,pl,_⟩:=I.tuple (SqT.of (G.sub _ _ ea));have hlen:=rv.length;rw[aK] at hlen;refine ar4 pl (intsAre_of rv) (by omega) λh1 h' out ns' ep k1 k2 eo i1 hp hs =>?_
    have e':=apn hp hs;subst e';have I1:=I.kept (h':=h1) (t':=s.toks) k1;have hn:H h1.objs.size=ZX:=I1.hok.fresh (aM _);refine⟨.ref h1.objs.size,upd H h1.objs.size (.lst ((sortI ns).map V.int)),?_,rfl,Res.lst G q (ael _) hn⟩;refine I1.laid (t':=s.toks) k2 (aM _) ?_;refine⟨?_,out.toList,ep,abn i1,by simpa using eo⟩
    rw[aK,(sortI_perm ns).length_eq];exact lN (agp (by omega))
   ·cases eg
 | _=>cases eg
theorem ajk:CallD K X (.builtin "sorted") (g1 acu):=cd_one λhk qv s σ0 H x u Q tg F ρ σ d r I ru G bd eg q=>by
 cases d with
 | tup l=>exact as3.go hk qv s σ0 H [x] [u] Q I (.cons ru .nil) ⟨tg,F,ρ,σ,[.tup l],r,G,.cons bd .nil,eg,q⟩
 | lst l=>exact awq.go hk qv s σ0 H [x] [u] Q I (.cons ru .nil) ⟨tg,F,ρ,σ,[.lst l],r,G,.cons bd .nil,eg,q⟩
 | _=>cases eg
end
end Dn
namespace Mn
open L2
def afv(y:Str)(env:Env)(XN:List Str)(scope:jV)(fr N:List Str)(src:List (Option Nat)):Bool :=
 scope.names.all (λz=>(z.2 != .cell||z.1==y)&&(z.2 != .local||scope.names.lookup z.1==ZY .local)&&(z.2 != .free||fr.contains z.1)) &&
 fr.all (λx=>x != y&&(scope.names.lookup x==ZY .free&&(env.kindOf x==ZY .cell||env.kindOf x==ZY .free)))&&ae8 XN fr N src
structure CompOkY (y:Str) (env:Env) (XN:List Str) (scope:jV) (fr N:List Str) (src:List (Option Nat)):Prop where
 cell:∀z∈scope.names,z.2=.cell->z.1=y
 loc:∀z∈scope.names,z.2=.local->scope.names.lookup z.1=ZY .local
 free:∀z∈scope.names,z.2=.free->z.1∈fr
 ne:∀x∈fr,x≠y
 frk:∀x∈fr,scope.names.lookup x=ZY .free
 out:∀x∈fr,env.kindOf x=ZY .cell∨env.kindOf x=ZY .free
 src:ae8 XN fr N src=ZW
theorem CompOkY.of{y:Str}{env:Env}{XN:List Str}{scope:jV}{fr N:List Str}{src:List (Option Nat)}(h:afv y env XN scope fr N src=ZW):CompOkY y env XN scope fr N src:=by
 simp only[afv,bL,cX] at h;obtain⟨⟨h1,h2⟩,h3⟩:=h;refine⟨λz hz e =>?_,λz hz e =>?_,λz hz e =>?_,λx hx =>?_,λx hx =>?_,λx hx =>?_,h3⟩
 ·have:=(h1 z hz).1.1;rw[e] at this
  simpa using this
 ·have:=(h1 z hz).1.2;rw[e] at this
  simpa using this
 ·have:=(h1 z hz).2;rw[e] at this
  simpa using this
 ·simpa using (h2 x hx).1
 ·simpa using (h2 x hx).2.1
 ·simpa using (h2 x hx).2.2
def cxY(y:Str)(X:Cx)(N:List Str)(scope:jV)(fr:List Str)(fp:List aY)(s:aO)(H:Hp):Cx :=
 { cxC X N scope fr fp s H with env:=compEnvC scope ((y,s.heap.objs.size+1)::qt X.env fr) s.heap.objs.size X.env,fn:=λx=>x==y }
theorem mj{M:Model}{A:eG}{E:aH->aO->Prop}{s:aO}{scope:jV}{globals:aY}{cl:List (Str×Addr)}{qual:Str}{func:Option aY}{code:aH}{ar:Env}{builtins:aY}{Q:Env->aO->Prop}
  (hQ:Q (newEnv scope s.heap.objs.size globals (nF (s.heap.objs.size+1) scope.names cl) qual func code (ZY ar) builtins)
   { s with heap:=pushCells (s.heap.push { cls:=.type "dict", data:=.dict #[] }) scope.names }) :
  bT M A (newFunctionEnv scope globals cl [] qual func code (ZY ar) builtins) Q E s:=by
 simp only[newFunctionEnv,Option.isSome_some,if_true];refine aB (wpAny_alloc ?_);refine aB (wpAny_layCells _ (λname kind cells=>by cases hkc:kind==iC <;> simp[hkc]) _ _ _ _ ?_)
 rw[show({ s with heap:=s.heap.push { cls:=.type "dict", data:=.dict #[] } }:aO).heap.objs.size=s.heap.objs.size+1 from dB ..]
 refine aB ?_;rw[sU];exact aR (aR hQ)
section
variable{y:Str}{X:Cx}{qv:List (aY×Obj)}{σ:L2.St}{H:Hp}{s:aO}{scope:jV}{fr N:List Str}{src:List (Option Nat)}{fp:List aY}
theorem au5{a c:aY}{x:Str}{l:List (Str×Addr)}(h:bN x ((y,a)::l)=ZY c):(x=y/\c=a)∨(x≠y/\l.lookup x=ZY c):=by
 by_cases e:x=y
 ·subst e;rw[look_same] at h;exact .inl ⟨rfl,(bO h).symm⟩
 ·rw[aao e] at h;exact .inr ⟨e,h⟩
theorem a8u(I:Inv X qv σ H s)(C:CompOkY y X.env X.N scope fr N src)(hkind:scope.kind=.function)(hf:∀b∈fp,FpOk X qv H b)(hl:∀b∈fp,b < s.heap.objs.size):(cxY y X N scope fr fp s H).Ok where
 mod:=I.ok.mod
 kind:=hkind
 glob:=I.ok.glob
 blt:=I.ok.blt
 above:=aM _
 inj:=λx z c h1 h2=>by
  have lt:∀{x c},(qt X.env fr).lookup x=ZY c->c < s.heap.objs.size:=λh=>by
   obtain⟨v,q⟩:=I.cell _ _ (jc h);exact q.lt
  rcases au5 h1 with⟨e1,a1⟩ | ⟨e1,l1⟩ <;> rcases au5 h2 with⟨e2,a2⟩ | ⟨e2,l2⟩
  ·rw[e1,e2]
  ·exact absurd (lt l2) (by rw[a1];exact λh=>absurd h (qJ.mpr (gP _)))
  ·exact absurd (lt l1) (by rw[a2];exact λh=>absurd h (qJ.mpr (gP _)))
  ·exact I.ok.inj x z c (jc l1) (jc l2)
 has:=λx hx=>by
  by_cases e:x=y
  ·subst e;exact⟨_,look_same⟩
  have mem:∀k,(k=iC∨k=dJ)->(cxY y X N scope fr fp s H).env.kindOf x=ZY k->x∈fr:=λk hk e'=>by
   obtain⟨k0,e0,d⟩:=abx (env:=X.env) (names:=scope.names) e';have hm:=gK e0;rcases d with rfl | ⟨rfl,_⟩
   ·rcases hk with rfl | rfl
    ·exact absurd (C.cell _ hm rfl) e
    ·exact C.free _ hm rfl
   ·exact C.free _ hm rfl
  have hm:x∈fr:=by
   rcases hx with e | e
   ·exact mem _ (.inl rfl) e
   ·exact mem _ (.inr rfl) e
  obtain⟨c,hc⟩:=I.ok.has x (C.out x hm);exact⟨c,(aao e).trans (yj hm hc)⟩
 cab:=λx c h e=>by
  have hx:x=y:=by simpa[cxY] using h
  subst hx;rw[show(cxY x X N scope fr fp s H).env.cells=(x,s.heap.objs.size+1)::qt X.env fr from rfl,look_same] at e
  cases e;exact gP _
 hd:=I.ok.hd
 frames:=I.ok.frames
 stk:=.inl rfl
 exf:=λb hb=>⟨Nat.ne_of_lt (hl b hb),λx c e=>by
  rcases au5 e with⟨_,a1⟩ | ⟨_,l1⟩
  ·rw[a1];exact λh=>absurd (hl b hb) (by rw[<-h];exact qJ.mpr (gP _))
  ·exact(hf b hb).2.2.2.2.1 x c (jc l1)⟩
 bs:=I.bs
 bsz:=dC I.ok.bsz I.sz
 noex:=λb o e hb=>by
  rcases(hf b hb).2.2.2.1 with z | z
  ·exact I.ok.noex b o e z
  ·exact absurd (cC (aV e) (dC I.ok.bsz z)) (jO _)
 exfs:=λb hb z=>by
  rcases bG.mp (I.stkSub b z) with e | e
  ·exact(hf b hb).2.1 e
  ·exact(hf b hb).2.2.1 e
 funs:=I.stack
 frf:=I.stkFree
theorem amf(I:Inv X qv σ H s)(C:CompOkY y X.env X.N scope fr N src)(hkind:scope.kind=.function)(hf:∀b∈fp,FpOk X qv H b)(hl:∀b∈fp,b < s.heap.objs.size){h':fH}{tk:Nat}{m:Str->Option aH}
  (hns:h'.Ns s.heap.objs.size m) (hk:∀b o,s.heap.get? b=ZY o->h'.get? b=ZY o) (hc:h'.IsCell (s.heap.objs.size+1) ZX):Inv (cxY y X N scope fr fp s H) [] (pick src σ) H { s with heap:=h',toks:=tk } where
 ok:=a8u I C hkind hf hl
 os:=rfl
 bare:=I.bare
 base:=Un.kept hk
 loc:=by
  refine⟨m,hns,λi x v h1 h2 h3 =>?_⟩
  obtain⟨j,hj,hv⟩:=ap3 h2;obtain⟨hN,hm⟩:=ad2 C.src h1 hj;obtain⟨mo,_,hlo⟩:=I.loc;have vis:Vis X.env.scope x:=by
   rcases C.out x hm with e | e
   ·exact .inr (.inl e)
   ·exact .inr (.inr e)
  obtain⟨u,r,l⟩:=hlo j x v hN hv vis;refine⟨u,r,.inr ⟨?_,?_⟩⟩
  ·rcases zb (env:=X.env) (C.frk x hm) with e | e
   ·exact .inr e
   ·exact .inl e
  ·rcases l with⟨e,_⟩ | ⟨_,c,hc,z⟩
   ·rcases C.out x hm with q | q
    ·rw[q] at e;cases e
    ·rw[q] at e;cases e
   ·obtain⟨o,ho,hd⟩:=z;exact⟨c,(aao (C.ne x hm)).trans (yj hm hc),o,hk c o ho,hd⟩
 cell:=λx c e=>by
  rcases au5 e with⟨_,a1⟩ | ⟨_,l1⟩
  ·rw[a1];exact⟨_,hc⟩
  ·obtain⟨v,o,ho,hd⟩:=I.cell x c (jc l1);exact⟨v,o,hk c o ho,hd⟩
 free:=I.hok.fresh (aM _)
 freeC:=λx c e=>by
  rcases au5 e with⟨_,a1⟩ | ⟨_,l1⟩
  ·rw[a1];exact I.hok.fresh (gP _)
  ·exact I.freeC x c (jc l1)
 pin:=λp hp=>absurd (show p∈([]:List (aY×Obj)) from hp) (by simp)
 hok:=I.hok.kept hk
 len:=by
  unfold pick;rw[aK];exact ad1 C.src
theorem amg{pins':List (aY×Obj)}{σ':L2.St}{H':Hp}{s':aO}{h'':fH}(I:Inv X qv σ H s)(hf:∀b∈fp,FpOk X qv H b)(J:Inv (cxY y X N scope fr fp s H) pins' σ' H' s')
  (hs:gA s.heap.objs.size s'.heap h''):Inv X qv σ H' { s' with heap:=h'' }:=by
 have k:∀b o,b≠s.heap.objs.size->s'.heap.get? b=ZY o->h''.get? b=ZY o:=λb o hb e=>(hs.2 b hb).trans e
 have old:∀b o,s.heap.get? b=ZY o->b≠s.heap.objs.size:=λb o e=>bQ (aV e)
 have un:Un (frs X.stack) fp H H' s.heap h'':=by
  have u:Un (frs X.stack) fp H H' s.heap s'.heap:=J.base;refine⟨λb o e n hb hx=>k b o (old b o e) (u.keep b o e n hb hx),λb o e n hb hx =>?_,u.free,λb o e hx =>?_,u.tups,u.frzs,u.tbls⟩
  ·obtain⟨sl,q⟩:=u.slot b o e n hb hx;exact⟨sl,k b _ (old b o e) q⟩
  ·obtain⟨o',q⟩:=u.there b o e hx;exact⟨o',k b _ (old b o e) q⟩
 have hok:HOk X.prog X.w H' h'':=λb u e=>by
  have nC:∀c z,H' c=ZY z->c≠s.heap.objs.size:=λc z q w=>by
   have f:H' s.heap.objs.size=ZX:=J.free;rw[w,f] at q;cases q
  refine(J.hok b u e).stay (λc v hc q=>k c v ?_ q) (λ_ q=>q) λ_ _ q=>q
  rcases hc with z | z
  ·rw[z];exact nC b u e
  ·exact nC c _ z
 have os:s'.os=s.os:=J.os;refine Inv.call' (s':={ s' with heap:=h'' }) I os un hok J.bare λb hb =>?_
 obtain⟨_,f1,_,f3,f4,f5⟩:=hf b hb;exact⟨f3,f1,f4,f5⟩
end
theorem ax5{X:Cx}{tg iter elt:dH}{ifs:List dH}{scope:jV}{pos:Pos}{wi:TI}{g:TG}{ti:TT}{te:TE}(y:Str)(fr N:List Str)(src:List (Option Nat))(hc:X.calm=ZW)(hi:PI X tg iter wi)
  (hg:∀fp s H,PG (cxY y X N scope fr fp s H) tg g) (ht:∀fp s H,PIf (cxY y X N scope fr fp s H) ifs ti) (he:∀fp s H,PE (cxY y X N scope fr fp s H) elt te)
  (hok:afv y X.env X.N scope fr N src=ZW) (hcf:∀a l,nF a scope.names l=(y,a)::l) (hkind:scope.kind=.function) (hclos:lY scope X.env=pure (qt X.env fr))
  (hs:∀x,fB iter X.env x=pure x):PE X (.ListComp elt [⟨tg,iter,ifs,0⟩] scope pos) (atj wi g ti te src):=by
 have C:=CompOkY.of hok;intro qv s σ H Q I h;rw[eval_ListComp];refine wpAny_comprehension_free (use:=ZX) rfl hs hclos hkind C.loc (cU (hi qv s σ H _ I h) (λv s1 h1=>cU h1 (λitv s2 h2 =>?_) λ_ _ e=>e) λ_ _ e=>e)
 obtain⟨it,fp,tn,J,H2,e,I2,T,st2,f2,q2⟩:=h2;subst e;have hd0:H2 s2.heap.objs.size=ZX:=I2.hok.fresh (aM _);obtain⟨W,⟨m0,w0⟩,turn⟩:=q2 s2.heap.objs.size hd0;refine eH ?_;generalize hs3:({ s2 with heap:=s2.heap.push { cls:=.type "list", dict:=ZX,data:=.seq ([]:List aH).toArray } }:aO)=s3
 have keep2:∀b o,s2.heap.get? b=ZY o->s3.heap.get? b=ZY o:=λb o e=>by rw[<-hs3];exact aD _ e
 have I3:Inv X qv σ (upd H2 s2.heap.objs.size (.lst [])) s3:=by
  rw[<-hs3];exact I2.laid (t':=s2.toks) (λb u q=>aD _ q) (aM _) ⟨Nat.zero_le _,[],0,.nil,aW _ rfl⟩
 have ne0:∀b∈fp,b≠s2.heap.objs.size:=λb hb=>by
  obtain⟨o,e,_⟩:=T.obj _ _ st2 b hb;exact bQ (aV e)
 have f3:∀b∈fp,FpOk X qv (upd H2 s2.heap.objs.size (.lst [])) b:=λb hb=>⟨by rw[bf (ne0 b hb)];exact(f2 b hb).1,(f2 b hb).2⟩
 have lt3:∀b∈fp,b < s3.heap.objs.size:=λb hb=>by
  obtain⟨o,e,_⟩:=T.obj _ _ st2 b hb;exact aV (keep2 b o e)
 refine mj ?_;rw[hcf];have ok:=cellsFrom_ok scope.names (s3.heap.push { cls:=.type "dict", data:=.dict #[] }) (s3.heap.objs.size+1) [] ⟨λ_ _ hm=>(nomatch hm),wC⟩ (by rw[dB];exact aM _)
 rw[dB,hcf] at ok;have hns₁:=(Heap.Ns.new s3.heap (.type "dict")).keeps (pushCells_keeps scope.names _);have keep3:∀b o,s3.heap.get? b=ZY o->(pushCells (s3.heap.push { cls:=.type "dict", data:=.dict #[] }) scope.names).get? b=ZY o:=λb o e=>pushCells_keeps _ _ b o (aD _ e)
 have hcl:=(ok.empty y (s3.heap.objs.size+1) aF).1;generalize pushCells (s3.heap.push { cls:=.type "dict", data:=.dict #[] }) scope.names=h₁ at hns₁ keep3 hcl ⊢
 have st4:tn 0 h₁:=T.keep _ _ _ st2 λb hb o e=>keep3 b o (keep2 b o e)
 have I4:=amf (tk:=s3.toks) I3 C hkind f3 lt3 hns₁ keep3 hcl;have loop:=ae0 (X:=cxY y X N scope fr fp s3 (upd H2 s2.heap.objs.size (.lst []))) (iter:=iter) (scope:=scope) (pos:=pos) (d:=s2.heap.objs.size)
  (R:=compPost (cA X.prog X.w) X.A X.xe ZX (EP X qv σ Q) (.ref s2.heap.objs.size) s3.heap.objs.size) hc rfl T
  (λH' hn b hb=>⟨hn b hb,bQ (lt3 b hb),I4.ok.exfs b hb,.inl hb,(I4.ok.exf b hb).2,λp hp=>absurd (show p∈([]:List (aY×Obj)) from hp) (by simp)⟩)
  (hg fp s3 _) (ht fp s3 _) (he fp s3 _) turn w0 I4 st4 (λb hb=>(f3 b hb).1) (λσ' H' s' I6 qn=>by
   obtain⟨m6,hn6,_⟩:=I6.loc;exact⟨m6,hn6,λh'' hs''=>⟨.ref s2.heap.objs.size,H',amg I3 f3 I6 hs'',rfl,qn⟩⟩)
 exact codeAny_compStart_list loop (T.self _ 0 _ _ _ st4 loop)
end Mn
namespace Dn
open L2 Mn
theorem azk{K:Fg9}{X:Cx}{tgt iter elt:dH}{pos:Pos}{ifs:List dH}{scope:jV}{mi:M (List D)}{bb:D->Ro->Option Ro}{mc:M Bool}{me:M D}(y:Str)(fr N:List Str)(src:List (Option Nat))(hc:X.calm=ZW)(hi:IT K X tgt iter mi)
  (hg:∀fp s H,GV K (cxY y X N scope fr fp s H) tgt bb) (ht:∀fp s H,EIf K (cxY y X N scope fr fp s H) ifs mc) (he:∀fp s H,EV K (cxY y X N scope fr fp s H) elt me)
  (hok:afv y X.env X.N scope fr N src=ZW:=by rfl) (hcf:∀a l,nF a scope.names l=(y,a)::l:=by intro _ _;rfl) (hkind:scope.kind=.function:=by rfl) (hclos:lY scope X.env=pure (qt X.env fr):=by rfl)
  (hs:∀x,fB iter X.env x=pure x:=by intro _;rfl):ER K X (.ListComp elt [⟨tgt,iter,ifs,0⟩] scope pos) (tu src mi bb mc me):=ER.mk λhk=>by
 have hkc:∀fp s H,(cxY y X N scope fr fp s H).K=K:=λ_ _ _=>hk
 refine PE.imp (ax5 y fr N src hc (hi hk) (λfp s H=>(hg fp s H).go (hkc _ _ _)) (λfp s H=>(ht fp s H).go (hkc _ _ _)) (λfp s H=>(he fp s H).go (hkc _ _ _)) hok hcf hkind hclos hs) agg
theorem uh{c:M Bool}{g:Sd}(Inv:Nat->Ro->Prop)(Done:Ro->Prop)(hs:∀k ρ,Inv k ρ->(∃ρ',c ρ=ZY (.ok ZV,ρ')/\Done ρ')∨∃ρ1 ρ2 k',c ρ=ZY (.ok ZW,ρ1)/\g ρ1=ZY (.nx,ρ2)/\k' < k/\Inv k' ρ2) :
  ∀(n k:Nat) (ρ:Ro),k < n->Inv k ρ->∃ρ',whileD c g n ρ=ZY (.nx,ρ')/\Done ρ'
 | 0,k,ρ,h,_=>absurd h (rJ _)
 | n+1,k,ρ,h,h0=>by
  unfold whileD;rcases hs k ρ h0 with⟨ρ',e,d⟩ | ⟨ρ1,ρ2,k',e1,e2,hk,h2⟩
  ·rw[e];exact⟨ρ',rfl,d⟩
  ·rw[e1];dsimp only;rw[e2];exact uh Inv Done hs n k' ρ2 (by omega) h2
theorem abb:100000 < fuel:=by unfold fuel;decide
theorem ah1(a b:Int):eqD (.int a) (.int b)=decide (a=b):=by
 show(a==b)=_
 by_cases h:a=b <;> simp[h]
theorem a4x(ns:List Int)(a:Int):(ns.map D.int).any (λy=>eqD y (.int a))=decide (a∈ns):=by
 induction ns with
 | nil=>simp
 | cons x r ih=>simp[ah1,bG,ih,eq_comm]
theorem ag8(n:Nat)(ns:List Int):(ns.map D.int).all (okD n)=ZW:=by
 induction ns with
 | nil=>rfl
 | cons x r ih=>simp[okD]
theorem akz(neg:Bool)(a:Int)(ns:List Int):gIn neg (.int a) (.lst (ns.map D.int))=ZY (.v (.bl (if neg then !decide (a∈ns) else decide (a∈ns)))):=by
 have h:=ag8 30 ns;have h2:=a4x ns a;simp only[gIn,itemsD,h,h2];simp[okD]
theorem aq3:∀(a b:List Int),eqDs (a.map D.int) (b.map D.int)=decide (a=b)
 | [],[]=>rfl
 | [],_::_=>rfl
 | _::_,[]=>rfl
 | x::r,y::t=>by
  show(eqD (.int x) (.int y)&&eqDs (r.map D.int) (t.map D.int))=_;rw[ah1,aq3 r t]
  by_cases h:x=y <;> simp[h]
theorem ah0(a b:List Int):eqD (.tup (a.map D.int)) (.tup (b.map D.int))=decide (a=b):=by
 rw[<-aq3];exact av7 _ _
theorem azf(neg:Bool)(a b:List Int):gEq neg (.tup (a.map D.int)) (.tup (b.map D.int))=ZY (.v (.bl (if neg then !decide (a=b) else decide (a=b)))):=by
 have h1:okD 30 (.tup (a.map D.int))=ZW:=ag8 29 a;have h2:okD 30 (.tup (b.map D.int))=ZW:=ag8 29 b;simp only[gEq,h1,h2,ah0];simp
def minI(ns:List Int):Int:=ae2 (λi j=>decide (i < j)) ns
theorem azc{ns:List Int}(h:ns≠[]):avz (.lst (ns.map D.int))=ZY (.v (.int (minI ns))):=by
 show(lg (ns.map D.int)).bind _=_;rw[aaq];simp[h,minI]
theorem azb{ns:List Int}(h:ns≠[]):avz (.tup (ns.map D.int))=ZY (.v (.int (minI ns))):=by
 show(lg (ns.map D.int)).bind _=_;rw[aaq];simp[h,minI]
theorem amr{ns:List Int}(h:ns.length < 64):akx (.lst (ns.map D.int))=ZY (.fr ((sortI ns).map D.int)):=by
 show(lg (ns.map D.int)).bind _=_;rw[aaq];simp[h]
@[simp] theorem a8j(d:D):azg [d]=(itemsD d).map aip:=rfl
@[simp] theorem a8h(a b:D):amq [a,b]=(itemsD a).bind λl1=>(itemsD b).bind λl2=>if l1.length<=l2.length then ZY (qu l1 l2) else ZX:=rfl
@[simp] theorem a5f(ρ:Ro)(f:Int->Int->Int)(i:Nat)(mi m:M D):ao5 f i mi m ρ=(dM (mOwn i) λ_=>dM mi λk=>dM (mOwn i) λl=>dM (lift ((asI k).bind (ixN l.length))) λj=>dM (lift ((l[j]?).bind asI)) λx=>dM m λy=>dM (lift (asI y)) λy=>dM (mOwn i) λl2=>dM (lift (if l2.length=l.length then ZY () else ZX)) λ_=>dM (aeh i (l2.set j (.int (f x y)))) λ_=>dNx) ρ:=rfl
@[simp] theorem a7u(ρ:Ro)(i:Nat)(ms:M (List D)):au2 i ms ρ=((dj i).bind λd0=>ms.bind λds=>(dj i).bind λd=>(lift (match d0,d with
 | .lst _,.lst _=>ZY ()
 | .tup _,.tup _=>ZY ()
 | _,_=>ZX)).bind λ_=>lift (ak1 d ds)) ρ:=rfl
@[simp] theorem a3y(l:List D)(x:D):ak1 (.lst l) [x]=if okD 30 x&&l.all (okD 30) then ZY (.int (l.countP λy=>eqD y x)) else ZX:=rfl
@[simp] theorem a3x(l:List D)(x:D):ak1 (.tup l) [x]=if okD 30 x&&l.all (okD 30) then ZY (.int (l.countP λy=>eqD y x)) else ZX:=rfl
theorem agj{l1 l2:List D}(h:l1.length<=l2.length):(qu l1 l2).length=l1.length:=by unfold qu;rw[jB];omega
theorem ae4{ns:List Int}{k:Int}(h0:0<=k)(h1:k < (ns.length:Int)):atI (ns.map D.int) k=ZY (.int (ns.getD k.toNat 0)):=by
 have hk:k.toNat < ns.length:=by omega
 have q:atI (ns.map D.int) ((k.toNat:Nat):Int)=ZY (.int (ns.getD k.toNat 0)):=ald (by simp[aC hk])
 rw[show((k.toNat:Nat):Int)=k by omega] at q
 exact q
theorem afo{n:Nat}{k:Int}(h0:0<=k)(h1:k < (n:Int)):ixN n k=ZY k.toNat:=by
 unfold ixN;simp[h0,h1]
theorem a0c{n d:Nat}{k:Int}(h0:0<=k):HT.sIx n d (ZY k)=min k.toNat n:=by
 show(if k < 0 then (k+(n:Int)).toNat else min k.toNat n)=_
 rw[if_neg (by omega)]
theorem bch{ns:List D}{k:Int}(h0:0<=k)(h1:k<=(ns.length:Int)):cutD ns ZX (ZY k)=ns.take k.toNat:=by
 unfold cutD;rw[a0c h0];have:HT.sIx ns.length 0 ZX=0:=rfl;rw[this,wY (by omega),uJ,xU]
theorem a4j{ns:List D}{k:Int}(h0:0<=k)(h1:k<=(ns.length:Int)):cutD ns (ZY k) ZX=ns.drop k.toNat:=by
 unfold cutD;rw[a0c h0];have:HT.sIx ns.length ns.length ZX=ns.length:=rfl;rw[this,wY (by omega)]
 exact oU (by simp)
theorem f9{K:Fg9}{P:cG}{w:dZ}{mg:Str->Option aH}{base:fH}{x qual:Str}{st:gU}{f:aY}{fd:gB}{N ps:List Str}{k nl np:Nat}{g:Sd}(F:Fun K x qual st f fd)(S:FnScope N ps (aa st))(h1:N.length=nl)(h2:ps.length=np)
  (body:∀(cdv:aH) (A:eG) (outer:List Env) (s:aO) (H:Hp) (E:XK),Room k (A.deeper (oH qual (aa st) s.heap.objs.size f cdv))->SVs K (cxOf CX0 P w K mg base N qual (aa st) f cdv A outer s H E).nox (iu st) g) :
  FnOk P w K mg base CX0 (k+1) f fd ps (spOf K np (fnD nl np g)):=by
 subst h1 h2;exact bb5 F S body
end Dn
namespace Mn
open L2
section
variable{X:Cx}
end
end Mn
namespace Dn
open L2 Mn
section
variable{K:Fg9}{X:Cx}
end
theorem mkSc{N P:List Str}{sc:jV}(a:sc.kind=.function)(b:sc.isCoroutine=ZV)(c:sc.isGenerator=ZV)(e:N.take P.length=P)(d:N.Nodup/\(∀x∈P,sc.names.lookup x=ZY .local∨sc.names.lookup x=ZY .cell)/\∀y∈sc.names,y.2≠.free):FnScope N P sc:=⟨a,b,c,d.1,e,d.2.1,d.2.2⟩
section
variable{K:Fg9}{X:Cx}{e a b o:dH}{es:List dH}{pos p p2:Pos}
def FldT(K:Fg9)(c f:Str):Prop:=∀C,nsIn K bK c=ZY (ZY (.ref C))->Cls K C/\ach K C f
def mLnk(c:Str)(i:Nat)(f:Str)(j:Nat):M Unit:=λρ=>match ρ[i]?,ρ[j]? with
 | some (.box c' fs),ZY (.own (ZY k) _)=>match fs.lookup f with
  | some (.inl k')=>if c'=c/\k'=k then ZY (.ok (),ρ) else ZX
  | _=>ZX
 | _,_=>ZX
theorem a7y{tg:Nat->aY}{F H:Hp}{ρ ρ':Ro}{σ:L2.St}(G:Good K tg F H ρ σ){c f:Str}{i j:Nat}{u:Unit}(hc:FldT K c f)(em:mLnk c i f j ρ=ZY (.ok u,ρ')) :
  ρ'=ρ/\∃a C dx fvs v,σ[i]? = ZY (ZY (.ref a))/\H a=ZY (.ins C dx fvs)/\Cls K C/\ach K C f/\fvs.lookup f=ZY v/\σ[j]? = ZY (ZY v):=by
 unfold mLnk at em;split at em
 ·rename_i c' fs k l ei ej;split at em
  ·rename_i k' hk;split at em
   ·rename_i hz;obtain⟨rfl,rfl⟩:=hz;cases em;obtain⟨oi,hoi,a,C,dx,fvs,rfl,hf,hh,hn,_,h1,_⟩:=G.at ei;obtain⟨oj,hoj,b,vs,rfl,_,_,_,ht⟩:=G.at ej;obtain⟨k1,k2⟩:=hc C hn;refine⟨rfl,a,C,dx,fvs,.ref b,hoi,hh,k1,k2,?_,hoj⟩;rw[h1 f _ hk,ht _ rfl]
   ·cases em
  ·cases em
 ·cases em
abbrev tAt(K:Fg9)(i:Nat)(f:Str):TE:=tFld K (tVar i) f
theorem a6y{i:Nat}{f:Str}(h:PE X o (tVar i))(hb:jA o f X.env (eval o X.env)=eval o X.env:=by rfl):PE X (.Attribute o f pos) (tAt X.K i f):=a6x h hb
def mFV(c:Str)(i:Nat)(f:Str):M D:=λρ=>match ρ[i]? with
 | some (.box c' fs)=>if c'=c then match fs.lookup f with
  | some (.inr d)=>ZY (.ok d,ρ)
  | _=>ZX
  else ZX
 | _=>ZX
theorem ao2{c f:Str}{i:Nat}(hc:FldT K c f)(h:PE X o (tVar i))(hb:jA o f X.env (eval o X.env)=eval o X.env:=by rfl):EV K X (.Attribute o f pos) (mFV c i f):=EV.mk λhk=>by
 subst hk;refine PE.imp (a6y h hb) λσ H Q z9 =>?_
 obtain⟨tg,F,ρ,d,ρ',G,em,q⟩:=z9;unfold mFV at em;split at em
 ·rename_i c' fs ei;split at em
  ·rename_i hz;subst hz;split at em
   ·rename_i d' hd;cases em;obtain⟨oi,hoi,a,C,dx,fvs,rfl,hf,hh,hn,_,_,h2⟩:=G.at ei;obtain⟨k1,k2⟩:=hc C hn;obtain⟨v,hv,iv⟩:=h2 f _ hd;exact⟨_,hoi,a,C,dx,fvs,v,rfl,hh,k1,k2,hv,q v H F G (Ext.refl _ _ _) iv⟩
   ·cases em
  ·cases em
 ·cases em
end
theorem _root_.L2.Inv.gh{X:Cx}{qv:List (aY×Obj)}{σ σ2:L2.St}{H:Hp}{s:aO}(I:Inv X qv σ H s)(hl:σ2.length=σ.length)(h:∀(i:Nat) (x:Str) (v:V),X.N[i]? = ZY x->σ2[i]? = ZY (ZY v)->Vis X.env.scope x->σ[i]? = ZY (ZY v)):Inv X qv σ2 H s:=by
 obtain⟨m,hm,hx⟩:=I.loc;exact⟨I.ok,I.os,I.bare,I.base,⟨m,hm,λi x v e q vis=>hx i x v e (h i x v e q vis) vis⟩,I.cell,I.free,I.freeC,I.pin,I.hok,hl.trans I.len⟩
def GH(X:Cx)(σ σ2:L2.St):Prop:=σ2.length=σ.length/\∀(i:Nat) (x:Str) (v:V),X.N[i]? = ZY x->σ2[i]? = ZY (ZY v)->Vis X.env.scope x->σ[i]? = ZY (ZY v)
theorem auf{X:Cx}{ss:List gU}{t:TS}(h:PSs X ss t):PSs X ss (λD σ H=>∃σ2,GH X σ σ2/\t D σ2 H):=λqv s σ H D I ⟨σ2,g,q⟩=>h qv s σ2 H D (I.gh g.1 g.2) q
theorem ai7{α β:Type}[BEq α]{f:α}:∀{a b:List (α×β)},(a++b).lookup f=(a.lookup f).or (b.lookup f)
 | [],b=>rfl
 | (g,x)::a,b=>by
  rw[cW];simp only[bN];split
  ·rfl
  ·exact ai7
section
variable{K:Fg9}{X:Cx}{tg:Nat->aY}{F H:Hp}{ρ:Ro}{σ:L2.St}
theorem a3j{js:List (Option Nat)}{ds:List (Option D)}{vs gv:List V}{gs:List Nat}{a:aY}(ar:AR K F σ js ds vs)(hg:gv.length=gs.length)(hgv:∀(n j:Nat) (v:V),gs[n]? = ZY j->gv[n]? = ZY v->σ[j]? = ZY (ZY v)) :
  Lent K F σ ((V.ref a::(vs++gv)).map ZY) (ZX::(js++gs.map ZY)) (ZX::(ds++gs.map λ_=>ZX)):=by
 have L:=ar.lent;have l0:=ar.length;have l2:=L.l2;refine⟨by simp[hg,l0],by simp[l2],λi j o h q =>?_,λi d h q =>?_⟩
 ·cases i with
  | zero=>cases h
  | succ i =>
   rw[jC] at h;rw[aG,jC,aN]
   by_cases hi:i < js.length
   ·rw[bF hi] at h;have z:=L.h1 i j o h q;rw[aN] at z;rw[bF (by omega)]
    exact z
   ·rw[dI (by omega),aN] at h
    obtain⟨j',hj,e⟩:=cZ.mp h;cases e;rw[dI (by omega),l0]
    have hlt:i - js.length < gv.length:=by rw[hg];exact(aQ.mp hj).1
    have z:=hgv _ _ _ hj (aC hlt);rw[q] at z;rw[aC hlt];exact z.symm▸rfl
 ·cases i with
  | zero=>cases q
  | succ i =>
   rw[jC] at h q;rw[aG,jC,aN]
   by_cases hi:i < js.length
   ·rw[bF hi] at h;rw[bF (by omega)] at q
    obtain⟨v,hv,iv⟩:=L.h2 i d h q;rw[aN] at hv;rw[bF (by omega)]
    exact⟨v,hv,iv⟩
   ·rw[dI (by omega),aN] at h
    obtain⟨j',_,e⟩:=cZ.mp h;cases e
end
structure DfnM (P:cG) (w:dZ) (K:Fg9) (mg:Str->Option aH) (base:fH) (c m:Str) (ps:List Str) (k:Nat) (sp:Sp):Prop where
 ex:∃C f fd,nsIn K bK c=ZY (ZY (.ref C))/\Cls K C/\Meth K C m f/\FnOk P w K mg base CX0 k f fd ps sp/\Binds K fd ps []
def mIsB(c:Str)(i:Nat)(m:Str):M (List (Str×(Nat ⊕ D))):=λρ=>match ρ[i]? with
 | some (.box c' fs)=>if c'=c/\(fs.lookup m).isNone=ZW then ZY (.ok fs,ρ) else ZX
 | _=>ZX
theorem a8c{K:Fg9}{tg:Nat->aY}{F H:Hp}{ρ ρ':Ro}{σ:L2.St}(G:Good K tg F H ρ σ){c m:Str}{i:Nat}{fs:List (Str×(Nat ⊕ D))}(em:mIsB c i m ρ=ZY (.ok fs,ρ')) :
  ρ'=ρ/\(ρ:List Sl)[i]? = ZY (.box c fs)/\∃a C dx fvs,σ[i]? = ZY (ZY (.ref a))/\F a=ZX/\H a=ZY (.ins C dx fvs)/\nsIn K bK c=ZY (ZY (.ref C))/\(∀f,fs.lookup f=ZX->fvs.lookup f=ZX)/\fvs.lookup m=ZX/\(∀f k,fs.lookup f=ZY (.inl k)->fvs.lookup f=ZY (.ref (tg k)))/\∀f d,fs.lookup f=ZY (.inr d)->∃v,fvs.lookup f=ZY v/\Is K F d v:=by
 unfold mIsB at em;split at em
 ·rename_i c' fs' ei;split at em
  ·rename_i hz;obtain⟨rfl,hm⟩:=hz;cases em;obtain⟨oi,hoi,a,C,dx,fvs,rfl,hf,hh,hn,h0,h1,h2⟩:=G.at ei;exact⟨rfl,ei,a,C,dx,fvs,hoi,hf,hh,hn,h0,h0 m (sO.mp hm),h1,h2⟩
  ·cases em
 ·cases em
noncomputable def ab1:Sl->Bool
 | .box _ _=>ZV
 | _=>ZW
section
variable{K:Fg9}{X:Cx}{tg:Nat->aY}{F H F1 H1:Hp}{O O1:aY->Prop}{ρ:Ro}{σ:L2.St}
theorem Good.updN(G:Good K tg F H ρ σ)(hb:(ρ:List Sl).all ab1=ZW){d:aY}(hf:F d=ZX)(hn:¬Own ρ σ d)(o:HO):Good K tg F (L2.upd H d o) ρ σ where
 sub:=λb u e=>by
  have hb:b≠d:=λz=>by subst z;rw[hf] at e;cases e
  rw[bf hb];exact G.sub b u e
 len:=G.len
 inj:=G.inj
 sl:=λi s o' e q=>by
  have z:=G.sl i s o' e q;cases s with
  | emp=>trivial
  | val _=>exact z
  | lol _=>exact z
  | lnk _=>exact z
  | box c fs=>exact absurd (cX.mp hb _ (cR e)) (by simp[ab1])
  | own t l =>
   obtain⟨a,vs,e1,f,e2,h,ht⟩:=z;have ha:a≠d:=λz=>hn (z▸⟨i,⟨t,l,e⟩,by rw[q,e1]⟩)
   exact⟨a,vs,e1,f,by rw[bf ha];exact e2,h,ht⟩
inductive FdR (K:Fg9) (F H:Hp) (O:aY->Prop):List (Str×Rv)->List (Str×V)->List aY->Prop
 | nil:FdR K F H O [] [] []
 | v {f:Str} {d:D} {v:V} {rs:List (Str×Rv)} {fvs:List (Str×V)} {A:List aY} (h:Is K F d v) (t:FdR K F H O rs fvs A):FdR K F H O ((f,.v d)::rs) ((f,v)::fvs) A
 | fr {f:Str} {l:List D} {e:aY} {ws:List V} {rs:List (Str×Rv)} {fvs:List (Str×V)} {A:List aY} (hf:F e=ZX) (hn:¬O e) (hh:H e=ZY (.lst ws)) (h:IsL K F l ws) (ne:e∉A) (t:FdR K F H O rs fvs A):FdR K F H O ((f,.fr l)::rs) ((f,.ref e)::fvs) (e::A)
theorem FdR.step{rs:List (Str×Rv)}{fvs:List (Str×V)}{A:List aY}(h:FdR K F H O rs fvs A)(x:Ext O O1 F H F1 H1):FdR K F1 H1 O1 rs fvs A:=by
 induction h with
 | nil=>exact .nil
 | v h t ih=>exact .v (h.mono x.sub) ih
 | @fr f l e ws rs fvs A hf hn hh h ne t ih =>
  refine .fr ?_ (λz =>?_) (x.keep e _ hh hn) (h.mono x.sub) ne ih
  ·cases z:F1 e with
   | none=>rfl
   | some o =>
    rcases x.new e o z with z | z | z
    ·rw[hf] at z;cases z
    ·rw[hh] at z;cases z
    ·exact absurd z hn
  ·rcases x.own e z with z | z
   ·exact hn z
   ·rw[hh] at z;cases z
theorem FdR.out{rs:List (Str×Rv)}{fvs:List (Str×V)}{A:List aY}(h:FdR K F H O rs fvs A):∀e∈A,¬O e/\F e=ZX/\∃ws,H e=ZY (.lst ws)/\∃l,IsL K F l ws:=by
 induction h with
 | nil=>exact λe he=>absurd he oK
 | v h t ih=>exact ih
 | @fr f l e ws rs fvs A hf hn hh h ne t ih =>
  intro e' he;rcases bG.mp he with rfl | he
  ·exact⟨hn,hf,ws,hh,l,h⟩
  ·exact ih e' he
theorem FdR.upd{rs:List (Str×Rv)}{fvs:List (Str×V)}{A:List aY}{d:aY}{o:HO}(h:FdR K F H O rs fvs A)(hd:d∉A):FdR K F (L2.upd H d o) O rs fvs A:=by
 induction h with
 | nil=>exact .nil
 | v h t ih=>exact .v h (ih hd)
 | @fr f l e ws rs fvs A hf hn hh h ne t ih =>
  have h1:d≠e/\d∉A:=⟨λq=>hd (q▸List.mem_cons_self ..),λq=>hd (aA _ q)⟩
  exact .fr hf hn (by rw[bf (gR h1.1)];exact hh) h ne (ih h1.2)
theorem FdR.snocV{rs:List (Str×Rv)}{fvs:List (Str×V)}{A:List aY}(h:FdR K F H O rs fvs A){f:Str}{d:D}{v:V}(hd:Is K F d v):FdR K F H O (rs++[(f,.v d)]) (fvs++[(f,v)]) A:=by
 induction h with
 | nil=>exact .v hd .nil
 | v h t ih=>exact .v h ih
 | fr hf hn hh h ne t ih=>exact .fr hf hn hh h ne ih
theorem FdR.snocF{rs:List (Str×Rv)}{fvs:List (Str×V)}{A:List aY}(h:FdR K F H O rs fvs A){f:Str}{l:List D}{e:aY}{ws:List V}(h1:F e=ZX)(h2:¬O e)(h3:H e=ZY (.lst ws))(h4:IsL K F l ws)(h5:e∉A):FdR K F H O (rs++[(f,.fr l)]) (fvs++[(f,.ref e)]) (A++[e]):=by
 induction h with
 | nil=>exact .fr h1 h2 h3 h4 oK .nil
 | v h t ih=>exact .v h (ih h5)
 | @fr f' l' e' ws' rs fvs A hf hn hh h ne t ih =>
  have z:e≠e'/\e∉A:=⟨λq=>h5 (q▸List.mem_cons_self ..),λq=>h5 (aA _ q)⟩
  refine .fr hf hn hh h (λq =>?_) (ih z.2)
  rcases cN.mp q with q | q
  ·exact ne q
  ·rw[bY] at q;exact z.1 q.symm
theorem aka{f:Str}{y:V}:∀{fs:List (Str×V)},fs.lookup f=ZX->putF f y fs=fs++[(f,y)]
 | [],_=>rfl
 | (g,x)::r,h=>by
  by_cases e:f=g
  ·subst e;rw[cI] at h;cases h
  ·have hb:(f==g)=ZV:=beq_eq_false_iff_ne.mpr e;simp only[bN,hb] at h;show(if g=f then (g,y)::r else (g,x)::putF f y r)=_
   rw[if_neg (gR e),aka h];rfl
def Oa(ρ:Ro)(σ:L2.St)(a:aY)(A:List aY):aY->Prop:=λz=>Own ρ σ z∨z=a∨z∈A
def iniD:List (Str×M Rv)->Ro->Option (List (Str×Rv)×Ro)
 | [],ρ=>ZY ([],ρ)
 | (f,m)::r,ρ=>match m ρ with
  | some (.ok (.v d),ρ1)=>if (ρ1:List Sl).all ab1=ZW then (iniD r ρ1).map λp=>((f,.v d)::p.1,p.2) else ZX
  | some (.ok (.fr l),ρ1)=>if (ρ1:List Sl).all ab1=ZW then (iniD r ρ1).map λp=>((f,.fr l)::p.1,p.2) else ZX
  | _=>ZX
def TSi(K:Fg9)(C:aY)(fms:List (Str×M Rv)):TS:=λD σ H=>∃tg F ρ a dx rs0 fvs0 A0 rs ρ',Good K tg F H ρ σ/\σ[0]? = ZY (ZY (.ref a))/\H a=ZY (.ins C dx fvs0)/\F a=ZX/\FdR K F H (Own ρ σ) rs0 fvs0 A0/\fvs0.length+fms.length < 1000 /\
 (∀f∈fms.map (·.1),fvs0.lookup f=ZX)/\(fms.map (·.1)).Nodup/\iniD fms ρ=ZY (rs,ρ') /\
 ∀H' F' fvs A,Good K tg F' H' ρ' σ->H' a=ZY (.ins C dx fvs)->F' a=ZX->FdR K F' H' (Own ρ' σ) (rs0++rs) fvs A->Ext (Oa ρ σ a A0) (Oa ρ' σ a A) F H F' H'->D.nx σ H'
structure SI (K:Fg9) (X:Cx) (C:aY) (ss:List gU) (fms:List (Str×M Rv)):Prop where
 go:X.K=K->PSs X ss (TSi K C fms)
theorem a5x{C:aY}:SI K X C [] []:=SI.mk λ_=>PSs.imp aue λD σ H z9=>by
 obtain⟨tg,F,ρ,a,dx,rs0,fvs0,A0,rs,ρ',G,h0,h1,h2,h3,h4,h5,h6,em,q⟩:=z9;cases em;exact q H F fvs0 A0 G h1 h2 (by rw[lD];exact h3) (Ext.refl _ _ _)
theorem Ext.oa{ρ1:Ro}{a:aY}{A A1:List aY}{o:HO}(x:Ext (Own ρ σ) (Own ρ1 σ) F H F1 H1)(hA:∀z∈A1,z∈A∨Own ρ σ z∨H z=ZX):Ext (Oa ρ σ a A) (Oa ρ1 σ a A1) F H F1 (L2.upd H1 a o) where
 sub:=x.sub
 new:=λz u e=>(x.new z u e).imp id λh=>h.imp id .inl
 keep:=λz u e n=>by
  have hz:z≠a:=λq=>n (.inr (.inl q))
  rw[bf hz];exact x.keep z u e λq=>n (.inl q)
 own:=λz h=>by
  rcases h with h | h | h
  ·exact(x.own z h).imp .inl id
  ·exact .inl (.inr (.inl h))
  ·rcases hA z h with q | q | q
   ·exact .inl (.inr (.inr q))
   ·exact .inl (.inl q)
   ·exact .inr q
 there:=λz h=>by
  by_cases hz:z=a
  ·subst hz;rw[di] at h;cases h
  ·rw[bf hz] at h;exact x.there z h
theorem ajz{C:aY}{o e:dH}{f:Str}{p2 pos:Pos}{m:M Rv}{ss:List gU}{fms:List (Str×M Rv)}(hcl:Cls K C)(hna:ach K C f)(hv:ER K X e m)(ho:PE X o (tVar 0))(t:SI K X C ss fms)(hs:fY e (ZY (.Attribute o f p2)) pos.line X.env=pure ZV:=by rfl) :
  SI K X C (.Assign [.Attribute o f p2] e pos::ss) ((f,m)::fms):=SI.mk λhk=>by
 subst hk;refine PSs.imp (ph (a0i ho (hv.go rfl) hs) (t.go rfl)) λD σ H z9 =>?_
 obtain⟨tg,F,ρ,a,dx,rs0,fvs0,A0,rs,ρ',G,h0,h1,h2,h3,h4,h5,h6,em,q⟩:=z9;have hlk:fvs0.lookup f=ZX:=h5 f (aF ..);rw[aG,eY] at h6;have h5':∀(y:V),∀g∈fms.map (·.1),(fvs0++[(f,y)]).lookup g=ZX:=λy g hg=>by
  rw[ai7,h5 g (aA _ hg)];have e:g≠f:=λz=>h6.1 (z▸hg)
  have hb:(g==f)=ZV:=beq_eq_false_iff_ne.mpr e;simp[bN,hb]
 have h4':∀y:V,(fvs0++[(f,y)]).length+fms.length < 1000:=λy=>by
  rw[cP];rw[aX] at h4;simp;omega
 have stay:∀{ρ1:Ro} {F1 H1:Hp},Ext (Own ρ σ) (Own ρ1 σ) F H F1 H1->H1 a=ZY (.ins C dx fvs0)/\F1 a=ZX/\¬Own ρ1 σ a:=λ{ρ1 F1 H1} x=>by
  have no:¬Own ρ σ a:=λz=>by
   obtain⟨_,vs,hv⟩:=G.ownAt z;rw[h1] at hv;cases hv
  refine⟨x.keep a _ h1 no,?_,λz =>?_⟩
  ·cases z:F1 a with
   | none=>rfl
   | some u =>
    rcases x.new a u z with z | z | z
    ·rw[h2] at z;cases z
    ·rw[h1] at z;cases z
    ·exact absurd z no
  ·rcases x.own a z with z | z
   ·exact no z
   ·rw[h1] at z;cases z
 have hA0:a∉A0:=λz=>by
  obtain⟨_,_,ws,hw,_⟩:=h3.out a z;rw[h1] at hw;cases hw
 unfold iniD at em;split at em
 ·rename_i d ρ1 e1;split at em
  ·rename_i hb;obtain⟨⟨rs1,ρ2⟩,e2,e3⟩:=cZ.mp em;cases e3;refine⟨tg,F,ρ,.v d,ρ1,G,e1,λy H1 F1 G1 x1 rr=>⟨_,h0,a,C,dx,fvs0,rfl,(stay x1).1,hcl,hna,by omega,?_⟩⟩
   obtain⟨s1,s2,s3⟩:=stay x1;have rr:Is X.K F1 d y:=rr;rw[aka hlk];refine⟨tg,F1,ρ1,a,dx,rs0++[(f,.v d)],fvs0++[(f,y)],A0,rs1,ρ2,G1.updN hb s2 s3 _,h0,di,s2,((h3.step x1).snocV rr).upd hA0,h4' y,h5' y,h6.2,e2,λH' F' fvs A G' g1 g2 g3 g4=>q H' F' fvs A G' g1 g2 (by rw[bV] at g3;exact g3) ((Ext.oa (o:=.ins C dx (fvs0++[(f,y)])) x1 λz hz=>.inl hz).trans g4)⟩
  ·cases em
 ·rename_i l ρ1 e1;split at em
  ·rename_i hb;obtain⟨⟨rs1,ρ2⟩,e2,e3⟩:=cZ.mp em;cases e3;refine⟨tg,F,ρ,.fr l,ρ1,G,e1,λy H1 F1 G1 x1 rr=>⟨_,h0,a,C,dx,fvs0,rfl,(stay x1).1,hcl,hna,by omega,?_⟩⟩
   obtain⟨s1,s2,s3⟩:=stay x1;obtain⟨b,ws,rfl,hb1,hb2,hb3,hb4,hb5⟩:=rr;have hbA:b∉A0:=λz=>by
    obtain⟨o1,_,ws',hw,_⟩:=h3.out b z;rcases hb1 with q | q
    ·rw[hw] at q;cases q
    ·exact o1 q
   have hba:a≠b:=λz=>by
    subst z;rw[s1] at hb3;cases hb3
   rw[aka hlk];refine⟨tg,F1,ρ1,a,dx,rs0++[(f,.fr l)],fvs0++[(f,.ref b)],A0++[b],rs1,ρ2,G1.updN hb s2 s3 _,h0,di,s2,((h3.step x1).snocF hb2 hb5 hb3 hb4 hbA).upd (λz=>by
    rcases cN.mp z with z | z
    ·exact hA0 z
    ·rw[bY] at z;exact hba z),h4' _,h5' _,h6.2,e2,λH' F' fvs A G' g1 g2 g3 g4=>q H' F' fvs A G' g1 g2 (by rw[bV] at g3;exact g3) ((Ext.oa (o:=.ins C dx (fvs0++[(f,.ref b)])) x1 λz hz =>?_).trans g4)⟩
   rcases cN.mp hz with q | q
   ·exact .inl q
   ·rw[bY] at q;subst q;exact .inr hb1.symm
  ·cases em
 ·cases em
end
def ar3(K:Fg9)(n nl:Nat)(fms:List (Str×M Rv))(C:aY):Sp:=λvs H Q _=>vs.length=n/\∃a dx F as rs ρ',vs[0]? = ZY (.ref a)/\H a=ZY (.ins C dx [])/\F a=ZX/\Good K (tgOf (vs.map ZY)) F H as (vs.map ZY)/\iniD fms (as++aP (nl - n) .emp)=ZY (rs,ρ') /\
 ∀H' F' fvs A O',Same F' H'->H' a=ZY (.ins C dx fvs)->F' a=ZX->FdR K F' H' O' rs fvs A->Ext (λz=>Own as (vs.map ZY) z∨z=a) (λz=>O' z∨z=a∨z∈A) F H F' H'->Fin K F' H' (vs.map ZY) (ρ'.take n) O'->Q .non H'
theorem a8m{K:Fg9}{P:cG}{w:dZ}{mg:Str->Option aH}{base:fH}{x qual:Str}{st:gU}{f:aY}{fd:gB}{N ps:List Str}{k nl np:Nat}{fms:List (Str×M Rv)}{C:aY}(F:Fun K x qual st f fd)(S:FnScope N ps (aa st))(h1:N.length=nl)(h2:ps.length=np)
  (hnd:(fms.map (·.1)).Nodup) (hsz:fms.length < 1000)
  (body:∀(cdv:aH) (A:eG) (outer:List Env) (s:aO) (H:Hp) (E:XK),Room k (A.deeper (oH qual (aa st) s.heap.objs.size f cdv))->SI K (cxOf CX0 P w K mg base N qual (aa st) f cdv A outer s H E).nox C (iu st) fms) :
  FnOk P w K mg base CX0 (k+1) f fd ps (ar3 K np nl fms C):=by
 subst h1 h2;refine F.ok S (λvs H Q E h=>h.1) (λcdv A outer s H vs Q E hr h=>⟨_,(body cdv A outer s H E hr).go rfl,?_⟩)
 obtain⟨hn,a,dx,F,as,rs,ρ',h0,hH,hF,G,em,q⟩:=h;have hl:as.length=(vs.map ZY).length:=G.len;have G1:=G.app (N.length - vs.length);rw[<-hn] at em;have hs0:(L2.start N vs)[0]? = ZY (ZY (.ref a)):=by
  unfold L2.start;have hlt:0 < vs.length:=(aQ.mp h0).1;rw[bF (by rw[aK];exact hlt),aN,h0]
  rfl
 refine⟨_,F,_,a,dx,[],[],[],rs,ρ',G1,hs0,hH,hF,.nil,by simpa using hsz,λ_ _=>rfl,hnd,em,λH' F' fvs A' G' g1 g2 g3 g4 =>?_⟩
 refine q H' F' fvs A' (Own ρ' (L2.start N vs)) G'.sub g1 g2 g3 ?_ ⟨λi l e =>?_⟩
 ·have e:Oa (as++aP (N.length - vs.length) .emp) (L2.start N vs) a []=λz=>Own as (vs.map ZY) z∨z=a:=by
   funext z
   unfold Oa L2.start;rw[aam hl];simp
  rw[e] at g4;exact g4
 ·have hi:=(aQ.mp e).1;rw[jJ] at hi;rw[kO (by omega)] at e
  obtain⟨o,ho,b,ws,rfl,hf,hh,hl,ht⟩:=G'.at e;rw[ht i rfl];exact⟨⟨i,⟨_,_,e⟩,ho⟩,hf,ws,hh,hl⟩
noncomputable def tagB:Sl->Bool
 | .own (ZY k) _=>decide (k < 1000)
 | .box _ _=>ZV
 | .lol _=>ZV
 | .lnk _=>ZV
 | _=>ZW
section
variable{K:Fg9}{X:Cx}{tg tg1:Nat->aY}{F H F1 H1:Hp}{ρ:Ro}{σ:L2.St}
theorem Good.retag(G:Good K tg F H ρ σ)(hb:(ρ:List Sl).all tagB=ZW)(h:∀k,k < 1000->tg k=tg1 k):Good K tg1 F H ρ σ where
 sub:=G.sub
 len:=G.len
 inj:=G.inj
 sl:=λi s o e q=>by
  have z:=G.sl i s o e q;have t:=cX.mp hb _ (cR e);cases s with
  | emp=>trivial
  | val _=>exact z
  | box c fs=>cases t
  | lol _=>cases t
  | lnk _=>cases t
  | own t' l =>
   obtain⟨a,vs,e1,f,e2,h',ht⟩:=z;refine⟨a,vs,e1,f,e2,h',λk ek =>?_⟩
   subst ek;have t:decide (k < 1000)=ZW:=t;rw[<-h k (of_decide_eq_true t)];exact ht k rfl
noncomputable def offs(ρ:Ro):List Nat->Ro
 | []=>ρ
 | j::js=>offs (bB ρ j .emp) js
theorem Good.offs(G:Good K tg F H ρ σ):∀{js:List Nat},Good K tg F H (Dn.offs ρ js) σ/\∀z,Own (Dn.offs ρ js) σ z->Own ρ σ z:=λ{js}=>by
 induction js generalizing ρ with
 | nil=>exact⟨G,λ_ h=>h⟩
 | cons j js ih =>
  obtain⟨g,h⟩:=ih (G.drop j);exact⟨g,λz hz=>(aeb (h z hz)).1⟩
def mkFs:List (Str×Rv)->Nat->List (Str×(Nat ⊕ D))
 | [],_=>[]
 | (f,.v d)::r,n=>(f,.inr d)::mkFs r n
 | (f,.fr _)::r,n=>(f,.inl (1000+n))::mkFs r (n+1)
 | (f,.tf _ _)::r,n=>(f,.inl 0)::mkFs r n
theorem a3e{O:aY->Prop}{rs:List (Str×Rv)}{fvs:List (Str×V)}{A:List aY}(h:FdR K F H O rs fvs A):∀{n:Nat},(∀(m:Nat) (e:aY),A[m]? = ZY e->tg1 (1000+(n+m))=e) ->
  (∀f,(mkFs rs n).lookup f=ZX->fvs.lookup f=ZX)/\(∀f k,(mkFs rs n).lookup f=ZY (.inl k)->fvs.lookup f=ZY (.ref (tg1 k)))/\∀f d,(mkFs rs n).lookup f=ZY (.inr d)->∃v,fvs.lookup f=ZY v/\Is K F d v:=by
 induction h with
 | nil =>
  intro n _;refine⟨λ_ _=>rfl,λ_ _ h =>?_,λ_ _ h =>?_⟩
  ·cases h
  ·cases h
 | @v g d v rs fvs A h t ih =>
  intro n ht;obtain⟨i1,i2,i3⟩:=ih (n:=n) ht;refine⟨λf hf =>?_,λf k hf =>?_,λf d' hf =>?_⟩
  all_goals (unfold mkFs at hf;by_cases e:f=g)
  ·subst e;rw[cI] at hf;cases hf
  ·have hb:(f==g)=ZV:=beq_eq_false_iff_ne.mpr e;simp only[bN,hb] at hf ⊢
   exact i1 f hf
  ·subst e;rw[cI] at hf;cases hf
  ·have hb:(f==g)=ZV:=beq_eq_false_iff_ne.mpr e;simp only[bN,hb] at hf ⊢
   exact i2 f k hf
  ·subst e;rw[cI] at hf ⊢
   cases hf;exact⟨v,rfl,h⟩
  ·have hb:(f==g)=ZV:=beq_eq_false_iff_ne.mpr e;simp only[bN,hb] at hf ⊢
   exact i3 f d' hf
 | @fr g l e0 ws rs fvs A hf0 hn hh h ne t ih =>
  intro n ht;have hte:tg1 (1000+n)=e0:=ht 0 e0 rfl;obtain⟨i1,i2,i3⟩:=ih (n:=n+1) (λm e' he'=>by
   have:=ht (m+1) e' (by simpa using he')
   rw[show n+1+m=n+(m+1) by omega]
   exact this)
  refine⟨λf hf =>?_,λf k hf =>?_,λf d' hf =>?_⟩
  all_goals (unfold mkFs at hf;by_cases e:f=g)
  ·subst e;rw[cI] at hf;cases hf
  ·have hb:(f==g)=ZV:=beq_eq_false_iff_ne.mpr e;simp only[bN,hb] at hf ⊢
   exact i1 f hf
  ·subst e;rw[cI] at hf ⊢
   cases hf;rw[hte]
  ·have hb:(f==g)=ZV:=beq_eq_false_iff_ne.mpr e;simp only[bN,hb] at hf ⊢
   exact i2 f k hf
  ·subst e;rw[cI] at hf;cases hf
  ·have hb:(f==g)=ZV:=beq_eq_false_iff_ne.mpr e;simp only[bN,hb] at hf ⊢
   exact i3 f d' hf
end
structure DfnI (P:cG) (w:dZ) (K:Fg9) (mg:Str->Option aH) (base:fH) (c:Str) (ps:List Str) (k:Nat) (sp:aY->Sp):Prop where
 ex:∃C f fd,nsIn K bK c=ZY (ZY (.ref C))/\mg c=ZY (.ref C)/\Mk K C f/\FnOk P w K mg base CX0 k f fd ps (sp C)/\Binds K fd ps []
theorem Fin.mono{K:Fg9}{F' H':Hp}{τ:L2.St}{ps:Ro}{O O':aY->Prop}(h:Fin K F' H' τ ps O)(w:∀z,O z->O' z):Fin K F' H' τ ps O':=⟨λi l e=>let ⟨a,b,c⟩:=h.at' i l e;⟨w _ a,b,c⟩⟩
theorem Ext.imp{O O1 O2:aY->Prop}{F H F1 H1:Hp}(x:Ext O O1 F H F1 H1)(w:∀z,O2 z->O1 z):Ext O O2 F H F1 H1:=⟨x.sub,x.new,x.keep,λz h=>x.own z (w z h),x.there⟩
theorem axx{K:Fg9}{r:Rv}{v:V}{H:Hp}{O:aY->Prop}{F' H':Hp}{O1 O2:aY->Prop}(w:∀z,O2 z->O1 z)(h:relR K r v H O F' H' O1):relR K r v H O F' H' O2:=by
 cases r with
 | v d=>exact h
 | fr l =>
  obtain⟨a,vs,e,h1,h2,h3,h4,h5⟩:=h;exact⟨a,vs,e,h1,h2,h3,h4,λz=>h5 (w _ z)⟩
 | tf d l =>
  obtain⟨t,u,a,vs,e,h1,h2,h3,h4,h5,h6,h7⟩:=h;exact⟨t,u,a,vs,e,h1,h2,h3,h4,h5,h6,λz=>h7 (w _ z)⟩
theorem FlOk.off{K:Fg9}{tg tg1:Nat->aY}{ρ ρ4:Ro}{σ:L2.St}{F H:Hp}{E:Ends}{fl:Fl}{js:List Nat}(ht:∀k,k < 1000->tg1 k=tg k)(hb:(offs ρ4 js:List Sl).all tagB=ZW)(q:FlOk K tg ρ σ F H E fl (offs ρ4 js)):FlOk K tg1 ρ σ F H E fl ρ4:=by
 have go:∀{σ':L2.St} {H' F':Hp},Good K tg1 F' H' ρ4 σ'->Good K tg F' H' (offs ρ4 js) σ'/\∀z,Own (offs ρ4 js) σ' z->Own ρ4 σ' z:=λG=>by
  obtain⟨g,h⟩:=G.offs (js:=js);exact⟨g.retag hb ht,h⟩
 cases fl with
 | nx=>exact λσ' H' F' G' x'=>let ⟨g,h⟩:=go G';q σ' H' F' g (x'.imp h)
 | brk=>exact λσ' H' F' G' x'=>let ⟨g,h⟩:=go G';q σ' H' F' g (x'.imp h)
 | cont=>exact λσ' H' F' G' x'=>let ⟨g,h⟩:=go G';q σ' H' F' g (x'.imp h)
 | ret r=>exact λv σ' H' F' G' x' rr=>let ⟨g,h⟩:=go G';q v σ' H' F' g (x'.imp h) (axx h rr)
 | exc _=>exact q
noncomputable def a05(s:gU)(n:Nat):gU:=match s with
 | .ClassDef _ _ _ b _ _ _ _ _ _ _=>b.getD n s
 | _=>s
def boxB(K:Fg9)(C:aY)(fs:List Str):Bool:=lV K C Str.empty&&lJ K C&&qG K C&&(kY K (.ref C) "__setattr__" == ZY (ZY (.builtin "object.__setattr__")))&&oY K C&&mC K (.ref C)&&fs.all λf=>kY K (.ref C) f==ZY ZX
section
variable{K:Fg9}{C:aY}{fs:List Str}{c f m:Str}
theorem alb(e:boxB K C fs=ZW):Cls K C/\oY K C=ZW/\mC K (.ref C)=ZW/\∀f∈fs,ach K C f:=by
 unfold boxB at e;simp only[bL,beq_iff_eq,cX] at e;obtain⟨⟨⟨⟨⟨⟨a,b⟩,c⟩,d⟩,g⟩,h⟩,i⟩:=e;exact⟨⟨a,b,c,d⟩,g,h,λf hf=>i f hf⟩
theorem ak3(a:nsIn K bK c=ZY (ZY (.ref C)))(e:boxB K C fs=ZW)(h:fs.contains f=ZW):FldT K c f:=λC' h'=>by
 rw[a] at h';cases h';obtain⟨x,_,_,y⟩:=alb e;exact⟨x,y f (List.contains_iff_mem.mp h)⟩
theorem a4f{P:cG}{w:dZ}{mg:Str->Option aH}{base:fH}{fa:aY}{fd:gB}{ps:List Str}{k:Nat}{sp:Sp}(a:nsIn K bK c=ZY (ZY (.ref C)))(e:boxB K C fs=ZW)(b:kY K (.ref C) m=ZY (ZY (.ref fa)))(h1:lM K (.ref fa)=ZW)(h2:mC K (.ref fa)=ZW)
  (F:FnOk P w K mg base CX0 k fa fd ps sp) (B:Binds K fd ps []):DfnM P w K mg base c m ps k sp:=⟨C,fa,fd,a,(alb e).1,⟨b,h1,h2⟩,F,B⟩
theorem a4g{P:cG}{w:dZ}{mg:Str->Option aH}{base:fH}{fa:aY}{fd:gB}{ps:List Str}{k:Nat}{sp:aY->Sp}(a:nsIn K bK c=ZY (ZY (.ref C)))(g:mg c=ZY (.ref C))(e:boxB K C fs=ZW)(b:kY K (.ref C) "__init__" = ZY (ZY (.ref fa)))(h1:lM K (.ref fa)=ZW)
  (F:FnOk P w K mg base CX0 k fa fd ps (sp C)) (B:Binds K fd ps []):DfnI P w K mg base c ps k sp:=⟨C,fa,fd,a,g,⟨(alb e).2.1,b,h1,(alb e).2.2.1⟩,F,B⟩
end
noncomputable def ghB(N:List Str)(gs:List Nat)(sc:jV):Bool:=gs.all λj=>match N[j]? with
 | some y=>(sc.names.lookup y).isNone
 | none=>ZW
theorem bbx{N:List Str}{gs:List Nat}{sc:jV}(h:ghB N gs sc=ZW):∀j∈gs,∀y,N[j]? = ZY y->¬Vis sc y:=λj hj y hy v=>by
 have z:=cX.mp h j hj;rw[hy] at z;have z:sc.names.lookup y=ZX:=sO.mp z;rcases v with v | v | v <;> (rw[z] at v;cases v)
section
variable{K:Fg9}{X:Cx}
def gAbs:D->Option Rv
 | .int i=>ZY (.v (.int (if i < 0 then -i else i)))
 | _=>ZX
@[simp] theorem a95(i:Int):gAbs (.int i)=ZY (.v (.int (if i < 0 then -i else i))):=rfl
theorem a80:CallD K X (.builtin "abs") (g1 gAbs):=cd_one λhk qv s σ0 H x u Q tg F ρ σ d r I ru G bd eg q=>by
 subst hk;cases d with
 | int i =>
  cases eg;obtain rfl:=bd.int;exact azu qv s σ0 H [_] [u] Q I (.cons ru .nil) ⟨i,rfl,Res.same G q (.int _)⟩
 | _=>cases eg
end
def an1:Option Sl->Sl
 | some (.val d)=>.val d
 | some (.own _ l)=>.val (.lst l)
 | _=>.emp
def seen(ρ:Ro):List (Option Nat)->List (Option D)->Ro
 | none::js,ZY d::ds=>.val d::seen ρ js ds
 | some j::js,ZX::ds=>an1 ((ρ:List Sl)[j]?)::seen ρ js ds
 | _,_=>[]
noncomputable def isI:D->Bool
 | .int _=>ZW
 | _=>ZV
theorem a8n{K:Fg9}{F F':Hp}:∀{l:List D} {ws:List V},l.all isI=ZW->IsL K F l ws->IsL K F' l ws
 | _,_,_,.nil=>.nil
 | d::l,_,h,.cons a t=>by
  rw[lE,bL] at h;refine .cons ?_ (a8n h.2 t);cases d with
  | int i=>cases a;exact .int i
  | _=>cases h.1
section
variable{K:Fg9}{tg:Nat->aY}{F H:Hp}{ρ:Ro}{σ:L2.St}
open Classical in
noncomputable def Fc(ρ:Ro)(σ:L2.St)(F H:Hp):Hp:=λb=>if Own ρ σ b then H b else F b
theorem arn(G:Good K tg F H ρ σ):Same F (Fc ρ σ F H):=λb o e=>by
 unfold Fc
 by_cases w:Own ρ σ b
 ·rw[(G.ownAt w).1] at e;cases e
 ·rw[if_neg w];exact e
theorem bco(G:Good K tg F H ρ σ):Same (Fc ρ σ F H) H:=λb o e=>by
 unfold Fc at e
 by_cases w:Own ρ σ b
 ·rw[if_pos w] at e;exact e
 ·rw[if_neg w] at e;exact G.sub b o e
theorem aj1:∀{js:List (Option Nat)} {ds:List (Option D)} {vs:List V},AR K F σ js ds vs->(seen ρ js ds).length=vs.length
 | _,_,_,.nil=>rfl
 | _,_,_,.ex _ t=>by
  show(seen ρ _ _).length+1=_;rw[aj1 t];rfl
 | _,_,_,.nm _ t=>by
  show(seen ρ _ _).length+1=_;rw[aj1 t];rfl
theorem seen_own:∀{js:List (Option Nat)} {ds:List (Option D)} {vs:List V},AR K F σ js ds vs->∀(i:Nat) (t:Option Nat) (l:List D),(seen ρ js ds:List Sl)[i]? ≠ ZY (.own t l)
 | _,_,_,.nil,i,t,l=>by simp[seen]
 | _,_,_,.ex _ r,i,t,l=>by
  cases i with
  | zero=>intro e;cases e
  | succ i=>exact seen_own r i t l
 | _,_,_,.nm (j:=j) _ r,i,t,l=>by
  cases i with
  | zero =>
   intro e;have e:ZY (an1 ((ρ:List Sl)[j]?))=ZY (.own t l):=e;unfold an1 at e;split at e <;> cases e
  | succ i=>exact seen_own r i t l
theorem an0(G:Good K tg F H ρ σ){tg':Nat->aY}{H':Hp}:∀{js:List (Option Nat)} {ds:List (Option D)} {vs:List V},AR K F σ js ds vs->∀(i:Nat) (s:Sl) (o:Option V),(seen ρ js ds:List Sl)[i]? = ZY s->(vs.map ZY)[i]? = ZY o->SlOk K tg' (Fc ρ σ F H) H' s o
 | _,_,_,.nil,i,s,o,e,_=>by simp[seen] at e
 | _,_,_,.ex h r,i,s,o,e,q=>by
  cases i with
  | zero =>
   cases e;cases q;exact⟨_,rfl,h.mono (arn G)⟩
  | succ i=>exact an0 G r i s o e q
 | _,_,_,.nm (j:=j) (v:=v) h r,i,s,o,e,q=>by
  cases i with
  | zero =>
   have e:ZY (an1 ((ρ:List Sl)[j]?))=ZY s:=e;cases q;cases es:(ρ:List Sl)[j]? with
   | none=>rw[es] at e;cases e;trivial
   | some s0 =>
    rw[es] at e;have z:=G.sl j s0 _ es h;cases s0 with
    | emp=>cases e;trivial
    | val d =>
     cases e;obtain⟨v',e1,hi⟩:=z;cases e1;exact⟨_,rfl,hi.mono (arn G)⟩
    | own t l =>
     cases e;obtain⟨a,ws,e1,hf,hh,hl,_⟩:=z;cases e1;refine⟨_,rfl,.lst (vs:=ws) ?_ (hl.mono (arn G))⟩;unfold Fc;rw[if_pos ⟨j,⟨t,l,es⟩,h⟩];exact hh
    | box c fs=>cases e;trivial
    | lol _=>cases e;trivial
    | lnk _=>cases e;trivial
  | succ i=>exact an0 G r i s o e q
end
section
variable{K:Fg9}{X:Cx}{e:dH}{es:List dH}{pos p:Pos}
end
@[simp] theorem a9c(ρ:Ro):seen ρ [] []=[]:=rfl
@[simp] theorem bcp(ρ:Ro)(js:List (Option Nat))(d:D)(ds:List (Option D)):seen ρ (ZX::js) (ZY d::ds)=.val d::seen ρ js ds:=rfl
@[simp] theorem bcq(ρ:Ro)(j:Nat)(js:List (Option Nat))(ds:List (Option D)):seen ρ (ZY j::js) (ZX::ds)=an1 ((ρ:List Sl)[j]?)::seen ρ js ds:=rfl
@[simp] theorem bao(d:D):an1 (ZY (.val d))=.val d:=rfl
@[simp] theorem bap(t:Option Nat)(l:List D):an1 (ZY (.own t l))=.val (.lst l):=rfl
end Dn
namespace Kst
open PySem PySem.W PyProof.Rows
structure Od (n:Nat) (c:Nat->Nat->Bool):Prop where
 tr:∀i j k,c i j=ZW->c j k=ZW->c i k=ZW
 to:∀i j,i < n->j < n->i≠j->c i j=ZV->c j i=ZW
def Asks(n:Nat)(c:Nat->Nat->Bool)(cmp:Nat->Nat->(Bool->aO->Prop)->aO->Prop)(s:aO):Prop:=∀i j,i < n->j < n->∀C:Bool->aO->Prop,C (c i j) s->cmp i j C s
structure Pm (n:Nat) (p:Array Nat):Prop where
 pm:p.toList.Perm (aJ n)
section
variable{n:Nat}{c:Nat->Nat->Bool}{cmp:Nat->Nat->(Bool->aO->Prop)->aO->Prop}{s:aO}{p:Array Nat}
theorem Pm.size(h:Pm n p):p.size=n:=by have:=h.pm.length_eq;simpa using this
theorem Pm.get(h:Pm n p){k:Nat}(hk:k < n):p[k]? = ZY (p.getD k 0):=by
 have:=h.size;have h':k < p.size:=by omega
 simp[wJ,h']
theorem Pm.lt(h:Pm n p){k:Nat}(hk:k < n):p.getD k 0 < n:=by
 have e:=h.get hk;have m:p.getD k 0∈p.toList:=by
  rw[<-uT] at e;exact cR e
 have:=h.pm.mem_iff.mp m
 simpa using this
theorem Pm.inj(h:Pm n p){i j:Nat}(hi:i < n)(hj:j < n)(e:p.getD i 0=p.getD j 0):i=j:=by
 have nd:p.toList.Nodup:=h.pm.nodup_iff.mpr oM;have e1:=h.get hi;have e2:=h.get hj;rw[<-uT] at e1 e2;have s1:=h.size;exact(wB (by simpa[s1] using hi) nd).mp (by rw[e1,e2,e])
def Srt(c:Nat->Nat->Bool)(p:Array Nat)(m:Nat):Prop:=∀i j,i < j->j < m->c (p.getD i 0) (p.getD j 0)=ZW
theorem az9(O:Od n c){m:Nat}(h:∀k,1<=k->k < m->c (p.getD (k - 1) 0) (p.getD k 0)=ZW):Srt c p m:=by
 intro i j hij hj
 induction j with
 | zero=>omega
 | succ j ih =>
  have a:=h (j+1) (by omega) hj
  rw[pR] at a
  by_cases e:i=j
  ·subst e;exact a
  ·exact O.tr _ _ _ (ih (by omega) (by omega)) a
theorem aw7(A:Asks n c cmp s)(hp:Pm n p){Q:Nat->aO->Prop}:∀f a,1<=a->a+f<=n->(∀m,a<=m->m<=a+f->(∀k,a<=k->k < m->c (p.getD k 0) (p.getD (k - 1) 0)=ZV)->(m < a+f->c (p.getD m 0) (p.getD (m - 1) 0)=ZW)->Q m s)->(kas_asc p f a).kasWp cmp Q s
 | 0,a,_,_,h=>h a (aM _) (aM _) (λk _ _=>by omega) (λ_=>by omega)
 | f+1,a,h1,h2,h=>A _ _ (hp.lt (by omega)) (hp.lt (by omega)) _ (by
   cases e:c (p.getD a 0) (p.getD (a - 1) 0) with
   | true =>
    dsimp only;rw[if_pos rfl];exact h a (aM _) (by omega) (λk _ _=>by omega) λ_=>e
   | false =>
    dsimp only;rw[if_neg (by simp)]
    exact aw7 A hp f (a+1) (by omega) (by omega) λm x1 x2 x3 x4=>h m (by omega) (by omega) (λk k1 k2=>by
     by_cases q:k=a
     ·subst q;exact e
     ·exact x3 k (by omega) k2) λq=>x4 (by omega))
theorem awi(A:Asks n c cmp s)(O:Od n c)(hp:Pm n p){Q:Array Nat×Nat×Nat->aO->Prop}:∀f a,1<=a->a+f<=n->(∀k,1<=k->k < a->c (p.getD k 0) (p.getD (k - 1) 0)=ZW)->(∀m,a<=m->m<=a+f->(∀k,1<=k->k < m->c (p.getD k 0) (p.getD (k - 1) 0)=ZW)->Q (p,m,0) s)->(kas_desc f p a 0).kasWp cmp Q s
 | 0,a,_,_,hs,h=>h a (aM _) (aM _) hs
 | f+1,a,h1,h2,hs,h=>A _ _ (hp.lt (by omega)) (hp.lt (by omega)) _ (by
   cases e:c (p.getD a 0) (p.getD (a - 1) 0) with
   | true =>
    dsimp only;rw[if_pos rfl,if_neg (by omega)]
    exact awi A O hp f (a+1) (by omega) (by omega) (λk k1 k2=>by
     by_cases q:k=a
     ·subst q;exact e
     ·exact hs k k1 (by omega)) λm x1 x2 x3=>h m (by omega) (by omega) x3
   | false =>
    dsimp only;rw[if_neg (by simp)]
    refine A _ _ (hp.lt (by omega)) (hp.lt (by omega)) _ ?_
    rw[O.to _ _ (hp.lt (by omega)) (hp.lt (by omega)) (λq=>by have:=hp.inj (by omega) (by omega) q;omega) e]
    dsimp only;rw[if_pos rfl];exact h a (aM _) (by omega) hs)
theorem a0e(hp:Pm n p)(i j:Nat):Pm n (kas_rev p i j):=⟨(mV.mp (mirror_perm p i j _)).trans hp.pm⟩
theorem at8(hp:Pm n p){m:Nat}(hm:m<=n){k:Nat}(hk:k < m):(kas_rev p 0 m).getD k 0=p.getD (m - 1 - k) 0:=by
 have e:=getElem?_mirror_all (xs:=p) (i:=0) (j:=m) (by rw[hp.size];exact hm) k
 rw[if_pos ⟨Nat.zero_le _,hk⟩,hp.get (by omega)] at e
 have e2:=(a0e hp 0 m).get (k:=k) (by omega)
 unfold kas_rev at e2 ⊢
 rw[e2] at e;have:=bO e;rw[this]
 congr 1
 omega
theorem flip(O:Od n c)(hp:Pm n p){i j:Nat}(hi:i < n)(hj:j < n)(h:i≠j)(e:c (p.getD i 0) (p.getD j 0)=ZV):c (p.getD j 0) (p.getD i 0)=ZW :=
 O.to _ _ (hp.lt hi) (hp.lt hj) (λq=>h (hp.inj hi hj q)) e
theorem a1g(A:Asks n c cmp s)(O:Od n c)(hp:Pm n p){m:Nat}(h1:1<=m)(hm:m<=n)(hd:∀k,1<=k->k < m->c (p.getD k 0) (p.getD (k - 1) 0)=ZW){Q:Nat×Array Nat->aO->Prop}
  (h:∀m' p',1<=m'->m'<=n->Pm n p'->Srt c p' m'->Q (m',p') s):(kas_tail3 m n p).kasWp cmp Q s:=by
 unfold kas_tail3;rw[mJ];have hr:=a0e hp 0 m;refine aw7 A hr _ _ h1 (by omega) λm' x1 x2 x3 _ =>?_
 refine h m' _ (by omega) (by omega) hr (az9 O λk k1 k2 =>?_)
 by_cases q:k < m
 ·rw[at8 hp hm q,at8 hp hm (k:=k - 1) (by omega)]
  have:=hd (m - 1 - (k - 1)) (by omega) (by omega)
  rwa[show m - 1 - (k - 1) - 1=m - 1 - k by omega] at this
 ·exact flip O hr (by omega) (by omega) (by omega) (x3 k (by omega) k2)
theorem azn(A:Asks n c cmp s)(O:Od n c)(hp:Pm n p)(h2:2<=n){Q:Nat×Array Nat->aO->Prop}
  (h:∀m' p',1<=m'->m'<=n->Pm n p'->Srt c p' m'->Q (m',p') s):(kas_count n p).kasWp cmp Q s:=by
 unfold kas_count;rw[mJ];refine aw7 A hp _ _ (aM _) (by omega) λm x1 x2 x3 x4 =>?_
 have hs:Srt c p m:=az9 O λk k1 k2=>flip O hp (by omega) (by omega) (by omega) (x3 k k1 k2)
 by_cases q:m=n
 ·rw[if_pos (by simp[q])]
  exact h m p x1 (by omega) hp hs
 ·rw[if_neg (by simp[q])]
  by_cases q1:m > 1
  ·rw[if_pos q1];refine A _ _ (hp.lt (by omega)) (hp.lt (by omega)) _ ?_
   rw[hs 0 (m - 1) (by omega) (by omega)]
   dsimp only;rw[if_pos rfl];exact h m p x1 (by omega) hp hs
  ·rw[if_neg q1];have e1:m=1:=by omega
   subst e1;have y:=x4 (by omega)
   unfold kas_descPart;rw[mJ];refine awi A O hp _ _ (by omega) (by omega) (λk k1 k2 =>?_) λm y1 y2 y3 =>?_
   ·have:k=1:=by omega
    subst this;exact y
   ·dsimp only;rw[if_neg (by omega)]
    exact a1g A O hp (by omega) (by omega) y3 h
theorem akf(A:Asks n c cmp s)(O:Od n c)(hp:Pm n p){k:Nat}(hk:k < n)(hs:Srt c p k){Q:Nat->aO->Prop}:∀f l r,l<=r->r<=k->r - l<=f->(∀i,i < l->c (p.getD i 0) (p.getD k 0)=ZW)->(∀i,r<=i->i < k->c (p.getD k 0) (p.getD i 0)=ZW) ->
  (∀l',l'<=k->(∀i,i < l'->c (p.getD i 0) (p.getD k 0)=ZW)->(∀i,l'<=i->i < k->c (p.getD k 0) (p.getD i 0)=ZW)->Q l' s)->(kas_place p k f l r).kasWp cmp Q s
 | 0,l,r,h1,h2,h3,a,b,h=>h l (by omega) a λi i1 i2=>b i (by omega) i2
 | f+1,l,r,h1,h2,h3,a,b,h=>by
  show KasT.kasWp cmp (if l≥r then .ret l else _) Q s
  by_cases q:l≥r
  ·rw[if_pos q];exact h l (by omega) a λi i1 i2=>b i (by omega) i2
  ·rw[if_neg q];refine A _ _ (hp.lt hk) (hp.lt (by omega)) _ ?_
   cases e:c (p.getD k 0) (p.getD ((l+r) / 2) 0) with
   | true =>
    dsimp only;rw[if_pos rfl];refine akf A O hp hk hs f l ((l+r) / 2) (by omega) (by omega) (by omega) a (λi i1 i2 =>?_) h
    by_cases z:i=(l+r) / 2
    ·subst z;exact e
    ·exact O.tr _ _ _ e (hs _ i (by omega) i2)
   | false =>
    dsimp only;rw[if_neg (by simp)]
    have e':=flip O hp hk (by omega) (by omega) e
    refine akf A O hp hk hs f ((l+r) / 2+1) r (by omega) h2 (by omega) (λi i1 =>?_) b h
    by_cases z:i=(l+r) / 2
    ·subst z;exact e'
    ·exact O.tr _ _ _ (hs i ((l+r) / 2) (by omega) (by omega)) e'
theorem awz(hp:Pm n p){k l:Nat}(hk:k < n)(hl:l<=k){j:Nat}(hj:j < n):(bubble p k (k - l)).getD j 0=if j=l then p.getD k 0 else if l < j/\j<=k then p.getD (j - 1) 0 else p.getD j 0:=by
 have e:=getElem?_bubble (xs:=p) (src:=k) (by rw[hp.size];exact hk) (k - l) (by omega) j
 rw[show k - (k - l)=l by omega,hp.get hk,hp.get hj] at e
 have hb:Pm n (bubble p k (k - l)):=⟨(mV.mp (bubble_perm p k _)).trans hp.pm⟩;rw[hb.get hj] at e
 by_cases h1:j=l
 ·rw[if_pos h1] at e ⊢
  exact bO e
 ·rw[if_neg h1] at e ⊢
  by_cases h2:l < j/\j<=k
  ·rw[if_pos h2,hp.get (by omega)] at e
   rw[if_pos h2];exact bO e
  ·rw[if_neg h2] at e ⊢
   exact bO e
theorem a08(A:Asks n c cmp s)(O:Od n c){Q:Array Nat->aO->Prop}(h:∀p',Pm n p'->Srt c p' n->Q p' s):∀f p k,k+f=n->Pm n p->Srt c p k->(kas_bin f p k).kasWp cmp Q s
 | 0,p,k,e,hp,hs=>h p hp (by rw[<-e];exact hs)
 | f+1,p,k,e,hp,hs=>by
  show KasT.kasWp cmp (KasT.bind _ _) Q s;rw[mJ];refine akf A O hp (by omega) hs k 0 k (by omega) (aM _) (by omega) (λi hi=>by omega) (λi i1 i2=>by omega) λl hl a b =>?_
  refine a08 A O h f _ (k+1) (by omega) ⟨(mV.mp (bubble_perm p k _)).trans hp.pm⟩ λi j hij hj =>?_
  rw[awz hp (by omega) hl (by omega),awz hp (by omega) hl (by omega)]
  by_cases i1:i=l
  ·rw[if_pos i1,if_neg (by omega),if_pos (by omega)]
   exact b (j - 1) (by omega) (by omega)
  ·rw[if_neg i1]
   by_cases j1:j=l
   ·rw[if_pos j1,if_neg (by omega)]
    exact a i (by omega)
   ·rw[if_neg j1]
    by_cases i2:l < i
    ·rw[if_pos (by omega),if_pos (by omega)]
     exact hs _ _ (by omega) (by omega)
    ·rw[if_neg (by omega)]
     by_cases j2:l < j
     ·rw[if_pos (by omega)]
      by_cases z:i=j - 1
      ·omega
      ·exact hs _ _ (by omega) (by omega)
     ·rw[if_neg (by omega)]
      exact hs _ _ hij (by omega)
theorem a1n(A:Asks n c cmp s)(O:Od n c)(h2:2<=n){Q:Array Nat->aO->Prop}(h:∀p',Pm n p'->Srt c p' n->Q p' s):(kas_sort n).kasWp cmp Q s:=by
 unfold kas_sort;rw[mJ];refine azn A O ⟨by simp⟩ h2 λm p m1 m2 hp hs =>?_
 dsimp only
 by_cases q:m < n
 ·rw[if_pos q];rw[show max m 1=m by omega]
  exact a08 A O h _ _ _ (by omega) hp hs
 ·rw[if_neg q];exact h p hp (by rw[show n=m by omega];exact hs)
end
section
variable{prog:cG}{w:dZ}{A:eG}{E:aH->aO->Prop}{s:aO}
noncomputable def aly(vs:List aH)(p:Array Nat):Array aH:=(p.toList.map λi=>vs.getD i fK).toArray
theorem aua(vs:List aH):((aJ vs.length).map λi=>vs.getD i fK)=vs:=by
 apply dU;intro i;rw[aN]
 by_cases h:i < vs.length
 ·rw[bM h];simp[h]
 ·rw[bI (by simpa using h),bI (by omega)]
  rfl
theorem ar5{a:aY}{vs:List aH}{n:Nat}{P:PySem.Fin->aO->Prop}{κ:SortKind}{c:Nat->Nat->Bool}(ho:s.heap.get? a=ZY (jK "list" vs.toArray n))(h64:vs.length < 64)(O:Od vs.length c)
  (hk:2<=vs.length->∀h':fH,(∀b o,b≠a->s.heap.get? b=ZY o->h'.get? b=ZY o)->(∀Q:SortKind->aO->Prop,Q κ { s with heap:=h' }->bT (cA prog w) A (keyKind' vs.toArray) Q (λ_ _=>False) { s with heap:=h' })/\Asks vs.length c (kas_ask prog w A κ vs) { s with heap:=h' })
  (h:∀p,Pm vs.length p->Srt c p vs.length->P (.done (.ret .none)) { s with heap:=sortedHeap s.heap a vs (aly vs p) }) :
  bT (cA prog w) A (lW.«list.sort» ⟨[.ref a],[]⟩) P E s:=by
 have ha:a < s.heap.objs.size:=aV ho;obtain⟨e1,ho1⟩:∃e1,(s.heap.update a (fU λ_=>(#[]:Array aH))).get? a=ZY (jK "list" #[] e1):=⟨_,get?_update_seq ho λ_ => #[]⟩
 have ho6:(((s.heap.update a (fU λ_=>(#[]:Array aH))).push (jK "tuple" vs.toArray 0)).push (jK "list" #[] 0)).get? a=ZY (jK "list" #[] e1):=aD _ (aD _ ho1)
 have kp:∀b o,b≠a->s.heap.get? b=ZY o->(((s.heap.update a (fU λ_=>(#[]:Array aH))).push (jK "tuple" vs.toArray 0)).push (jK "list" #[] 0)).get? b=ZY o:=λb o hb e =>
  aD _ (aD _ (by rw[vG _ _ _ _ hb];exact e))
 rw[list_sort_plain];refine aB (listItems_at ho rfl ?_);refine aB (listUpdate_at ho rfl ?_ (by rw[aU,eV];omega) (fG _))
 refine aB (seqEpoch_at ho1 rfl ?_);refine aB (wpAny_newTuple ?_ (by show vs.length<=_;rw[eV];omega))
 refine aB (wpAny_newList ?_ (fG _));refine fV ?_;show bT (cA prog w) A _ P E { s with heap:=((s.heap.update a (fU λ_=>(#[]:Array aH))).push (jK "tuple" vs.toArray 0)).push (jK "list" #[] 0) }
 dsimp only
 by_cases h2:vs.length < 2
 ·rw[if_pos (by rw[aU];exact h2),if_pos (by rw[aU];exact h2)]
  refine aB (aR ?_);rw[StateT.run_pure];refine aB (aR ?_);dsimp only;refine aB (seqEpoch_at ho6 rfl ?_);have e0:(vs.toArray.zip vs.toArray).map (·.2)=aly vs (qN (aJ vs.length)):=by
   unfold aly;rw[show(qN (aJ vs.length)).toList=aJ vs.length from rfl,aua]
   apply Array.toList_inj.mp;simp[List.map_snd_zip]
  have hz:((vs.toArray.zip vs.toArray).map (·.2)).size<=cO:=by
   rw[Array.size_map,Array.size_zip,aU,eV];omega
  refine aB (listUpdate_at ho6 rfl ?_ (fG _) (vY hz));simp only[bne_self_eq_false,fJ,if_false];have z:=h (qN (aJ vs.length)) ⟨List.Perm.refl _⟩ (λi j hij hj=>by omega)
  rw[<-e0] at z;exact aR z
 ·have hn2:¬vs.toArray.size < 2:=by rw[aU];exact h2
  rw[if_neg hn2,if_neg hn2];obtain⟨k1,k2⟩:=hk (by omega) _ kp
  refine aB (cU (k1 _ ?_) (λκ' s' q=>q) λ_ _ x=>x.elim)
  refine aB (cU (kat_run (Q:=λst' s'=>s'={ s with heap:=((s.heap.update a (fU λ_=>(#[]:Array aH))).push (jK "tuple" vs.toArray 0)).push (jK "list" #[] 0) }/\∃p:Array Nat,Pm vs.length p/\Srt c p vs.length/\arrOf st'=p.map (kas_item (vs.toArray.zip vs.toArray))/\failedOf st'=ZX)
   (G:=λp s'=>s'={ s with heap:=((s.heap.update a (fU λ_=>(#[]:Array aH))).push (jK "tuple" vs.toArray 0)).push (jK "list" #[] 0) }/\Pm vs.length p/\Srt c p vs.length)
   rfl (by omega) h64 (λp st' s' a1 a2 a3 a4=>⟨a4.1,p,a4.2.1,a4.2.2,a2,a3⟩) (a1n k2 O (by omega) λp hp hs=>⟨rfl,hp,hs⟩)) ?_ λ_ _ e=>e)
  intro r s' hr;obtain⟨u,st'⟩:=r;obtain⟨e,p,hp,hs,har,hf⟩:=hr;subst e;dsimp only at har hf ⊢
  have hout:(arrOf st').map (·.2)=aly vs p:=kat_snds rfl har;rw[hout];have hz:(aly vs p).size<=cO:=by
   unfold aly;rw[aU,aK,jF,hp.size,eV];omega
  refine aB (seqEpoch_at ho6 rfl ?_);refine aB (listUpdate_at ho6 rfl ?_ (fG _) (vY hz));rw[hf];simp only[bne_self_eq_false,fJ,if_false];exact aR (h p hp hs)
theorem ali{l:aY}{vs:List aH}{Q:aH->aO->Prop}{κ:SortKind}{c:Nat->Nat->Bool}(hl:s.heap.IsList l vs.toArray)(h64:vs.length < 64)(O:Od vs.length c)
  (hk:2<=vs.length->∀h':fH,(∀b o,s.heap.get? b=ZY o->h'.get? b=ZY o)->(∀Q:SortKind->aO->Prop,Q κ { s with heap:=h' }->bT (cA prog w) A.in1.in1 (keyKind' vs.toArray) Q (λ_ _=>False) { s with heap:=h' })/\Asks vs.length c (kas_ask prog w A.in1.in1 κ vs) { s with heap:=h' })
  (h:∀p,Pm vs.length p->Srt c p vs.length->Q (.ref (s.heap.objs.size+1)) { s with heap:=sortedAll s.heap vs (aly vs p) }) :
  bT (cA prog w) A (call (.builtin "sorted") [.ref l]) Q E s:=by
 refine sX kind_sorted plain_sorted entry_sorted (args_sorted1 _) ?_;unfold lW.«sorted»
 refine aB (m:=checkCount "sorted" 1 1 _) (aR ?_);refine aB (collect_list hl ?_ (by rw[eV];omega))
 refine aB (wpAny_newList ?_ (by rw[eV];omega))
 have hsz:((s.heap.push (jK "list" #[] 0)).update s.heap.objs.size (fU (· ++ vs.toArray))).objs.size=s.heap.objs.size+1:=by
  rw[Heap.size_update,size_push']
 have hoL:(((s.heap.push (jK "list" #[] 0)).update s.heap.objs.size (fU (· ++ vs.toArray))).push (jK "list" vs.toArray 0)).get? (s.heap.objs.size+1)=ZY (jK "list" vs.toArray 0):=by
  rw[<-hsz];exact aW _ rfl
 have keep:∀b o,s.heap.get? b=ZY o->(((s.heap.push (jK "list" #[] 0)).update s.heap.objs.size (fU (· ++ vs.toArray))).push (jK "list" vs.toArray 0)).get? b=ZY o:=λb o q=>by
  have hlt:b < s.heap.objs.size:=aV q;rw[wF _ _ _ (by rw[hsz];exact bQ (qK hlt)),vG _ _ _ _ (bQ hlt),wF _ _ _ (bQ hlt)]
  exact q
 show bT _ _ _ _ _ { s with heap:=((s.heap.push (jK "list" #[] 0)).update s.heap.objs.size (fU (· ++ vs.toArray))).push (jK "list" vs.toArray 0) }
 rw[hsz];refine aB (fV (gC slot_list_sort ⟨_,hoL,rfl⟩ entry_list_sort (ar5 (κ:=κ) hoL h64 O (λh2 h' k'=>hk h2 h' λb o e=>k' b o (λq=>absurd (aV e) (by rw[q];exact qJ.mpr (gP _))) (keep b o e)) λp hp hs=>⟨_,rfl,?_⟩) (args_list_sort _)))
 exact aR ⟨_,rfl,h p hp hs⟩
noncomputable def lexB:List Int->List Int->Bool
 | [],[]=>ZV
 | [],_::_=>ZW
 | _::_,[]=>ZV
 | a::x,b::y=>if a=b then lexB x y else decide (a < b)
theorem aop:∀x y z:List Int,lexB x y=ZW->lexB y z=ZW->lexB x z=ZW
 | [],[],_,h,_=>by simp[lexB] at h
 | [],_::_,[],_,h=>by simp[lexB] at h
 | [],_::_,_::_,_,_=>by simp[lexB]
 | _::_,[],_,h,_=>by simp[lexB] at h
 | _::_,_::_,[],_,h=>by simp[lexB] at h
 | a::x,b::y,c::z,h,k=>by
  unfold lexB at h k ⊢
  by_cases e1:a=b
  ·subst e1;rw[if_pos rfl] at h
   by_cases e2:a=c
   ·rw[if_pos e2] at k ⊢
    exact aop x y z h k
   ·rw[if_neg e2] at k ⊢
    exact k
  ·rw[if_neg e1,decide_eq_true_eq] at h
   by_cases e2:b=c
   ·subst e2;rw[if_neg e1,decide_eq_true_eq];exact h
   ·rw[if_neg e2,decide_eq_true_eq] at k;rw[if_neg (by omega),decide_eq_true_eq]
    omega
theorem aoq:∀x y:List Int,x≠y->lexB x y=ZV->lexB y x=ZW
 | [],[],h,_=>absurd rfl h
 | [],_::_,_,h=>by simp[lexB] at h
 | _::_,[],_,_=>by simp[lexB]
 | a::x,b::y,h,k=>by
  unfold lexB at k ⊢
  by_cases e:a=b
  ·subst e;rw[if_pos rfl] at k ⊢
   exact aoq x y (λq=>h (by rw[q])) k
  ·rw[if_neg e,decide_eq_false_iff_not] at k;rw[if_neg (λq=>e q.symm),decide_eq_true_eq]
   omega
theorem au7:∀x y:List Int,lexB x y=ZW->lexB y x=ZV
 | [],[],h=>by simp[lexB] at h
 | [],_::_,_=>by simp[lexB]
 | _::_,[],h=>by simp[lexB] at h
 | a::x,b::y,h=>by
  unfold lexB at h ⊢
  by_cases e:a=b
  ·subst e;rw[if_pos rfl] at h ⊢
   exact au7 x y h
  ·rw[if_neg e,decide_eq_true_eq] at h;rw[if_neg (λq=>e q.symm),decide_eq_false_iff_not]
   omega
theorem a0o{b:Bool}{Q:Bool->aO->Prop}:∀{xs ys:List aH} {as bs:List Int} (i:Nat),jT xs as->jT ys bs->Q (lexB as bs) s->KatLex prog w A b (decide (as.length < bs.length)) Q (xs.zip ys) i s
 | [],[],_,_,i,.nil,.nil,h=>kat_nil h
 | [],_::_,_,_,i,.nil,.cons n t r,h=>kat_nil (by simpa[lexB] using h)
 | _::_,[],_,_,i,.cons n t r,.nil,h=>kat_nil (by simpa[lexB] using h)
 | _::_,_::_,_,_,i,.cons n t r,.cons m u r',h=>by
  rw[List.zip_cons_cons];refine kat_cons (wpAny_eqBool_int ?_);unfold lexB at h
  by_cases e:n=m
  ·rw[if_pos e] at h;rw[show(n==m)=ZW by simpa using e]
   refine kat_yes ?_;have:=a0o (b:=b) (i+1) r r' h
   simpa using this
  ·rw[if_neg e] at h;rw[show(n==m)=ZV by simpa using e]
   refine kat_no ?_;cases b&&i==0 with
   | true=>exact oneLt_int h
   | false=>exact kat_one _ _ (lt_int h)
end
end Kst
namespace Dn
open PySem PySem.Spec PySem.W PyProof.Rows L2 Mn Kst
noncomputable def rowT(r:List Int):D:=.tup (r.map D.int)
def aj7:List D->Option (LL9)
 | []=>ZY []
 | .tup l::r=>(lg l).bind λa=>(aj7 r).map (a :: ·)
 | _::_=>ZX
theorem alq:∀rows:LL9,aj7 (rows.map rowT)=ZY rows
 | []=>rfl
 | r::rows=>by
  show(lg (r.map D.int)).bind _=_;rw[aaq,cB,alq rows];rfl
theorem apw:∀{l:List D} {rows:LL9},aj7 l=ZY rows->l=rows.map rowT
 | [],_,h=>by cases h;rfl
 | .tup t::l,rows,h=>by
  have h:(lg t).bind (λa=>(aj7 l).map (a :: ·))=ZY rows:=h
  cases e:lg t with
  | none=>rw[e] at h;cases h
  | some a =>
   rw[e,cB] at h;cases e2:aj7 l with
   | none=>rw[e2] at h;cases h
   | some rs =>
    rw[e2] at h;cases h;rw[aG,<-apw e2,rowT,<-zg e]
def insL(x:List Int):LL9->LL9
 | []=>[x]
 | y::r=>if lexB x y then x::y::r else y::insL x r
def ago:LL9->LL9
 | []=>[]
 | x::r=>insL x (ago r)
theorem ahp(x:List Int):∀l,(insL x l).Perm (x::l)
 | []=>.refl _
 | y::r=>by
  unfold insL;split
  ·exact .refl _
  ·exact((ahp x r).cons y).trans (.swap x y r)
theorem acl:∀l,(ago l).Perm l
 | []=>.refl _
 | x::r=>(ahp x (ago r)).trans ((acl r).cons x)
abbrev LxS(l:LL9):Prop:=l.Pairwise λa b=>lexB a b=ZW
theorem aho(x:List Int):∀{l},x∉l->LxS l->LxS (insL x l)
 | [],_,_=>by simp[insL,LxS]
 | y::r,hx,h=>by
  unfold insL;have h:=cV.mp h;split
  ·rename_i hxy;refine cV.mpr ⟨λz hz =>?_,cV.mpr h⟩
   rcases bG.mp hz with rfl | hz
   ·exact hxy
   ·exact aop _ _ _ hxy (h.1 z hz)
  ·rename_i hxy;refine cV.mpr ⟨λz hz =>?_,aho x (λq=>hx (aA _ q)) h.2⟩
   rcases bG.mp ((ahp x r).mem_iff.mp hz) with rfl | hz
   ·exact aoq _ _ (λq=>hx (by rw[q];exact aF ..)) (by simpa using hxy)
   ·exact h.1 z hz
theorem afy:∀{l:LL9},l.Nodup->LxS (ago l)
 | [],_=>.nil
 | x::r,h=>by
  have h:=eY.mp h;exact aho x (λq=>h.1 ((acl r).mem_iff.mp q)) (afy h.2)
theorem au3:∀{l k:LL9},l.Perm k->LxS l->LxS k->l=k
 | [],k,h,_,_=>h.nil_eq
 | x::r,[],h,_,_=>absurd h.length_eq (by simp)
 | x::r,y::t,h,hl,hk=>by
  have hl:=cV.mp hl;have hk:=cV.mp hk;have e:x=y:=by
   have h1:x∈y::t:=h.mem_iff.mp (aF ..);have h2:y∈x::r:=h.mem_iff.mpr (aF ..);rcases bG.mp h1 with h1 | h1
   ·exact h1
   ·rcases bG.mp h2 with h2 | h2
    ·exact h2.symm
    ·have a:=hk.1 x h1;have b:=hl.1 y h2;rw[au7 _ _ a] at b;cases b
  subst e;rw[au3 ((xQ x).mp h) hl.2 hk.2]
inductive TupsAre (h:fH):List aH->LL9->Prop
 | nil:TupsAre h [] []
 | cons {a:aY} {o:Obj} {xs:List aH} {n:Nat} {r:List Int} {us:List aH} {rs:LL9} (e:h.get? a=ZY o) (c:o.cls=.type "tuple") (d:o.data=.seq xs.toArray n) (i:jT xs r) (t:TupsAre h us rs):TupsAre h (.ref a::us) (r::rs)
theorem TupsAre.len{h:fH}:∀{us:List aH} {rs:LL9},TupsAre h us rs->us.length=rs.length
 | _,_,.nil=>rfl
 | _,_,.cons _ _ _ _ t=>by rw[aX,aX,t.len]
theorem TupsAre.mono{h h':fH}(k:∀b o,h.get? b=ZY o->h'.get? b=ZY o):∀{us:List aH} {rs:LL9},TupsAre h us rs->TupsAre h' us rs
 | _,_,.nil=>.nil
 | _,_,.cons e c d i t=>.cons (k _ _ e) c d i (t.mono k)
theorem TupsAre.at{h:fH}:∀{us:List aH} {rs:LL9},TupsAre h us rs->∀i,i < rs.length->∃a o xs n,us.getD i fK=.ref a/\h.get? a=ZY o/\o.data=.seq (qN xs) n/\jT xs (rs.getD i [])
 | _,_,.cons e c d i t,0,_=>⟨_,_,_,_,rfl,e,d,i⟩
 | _,_,.cons e c d i t,k+1,hk=>by
  obtain⟨a,o,xs,n,e1,e2,e3,e4⟩:=t.at k (by simpa using hk)
  exact⟨a,o,xs,n,by simpa using e1,e2,e3,by simpa using e4⟩
theorem TupsAre.kat{h:fH}:∀{us:List aH} {rs:LL9},TupsAre h us rs->(∀r∈rs,r≠[])->∃fs:List aH,KatTups h us fs/\fs.length=rs.length/\∀f∈fs,∃i t,f=oX i t
 | _,_,.nil,_=>⟨[],.nil,rfl,λ_ h=>by cases h⟩
 | _,_,.cons (r:=r) e c d i t,hn=>by
  obtain⟨fs,k,l,z⟩:=t.kat λr hr=>hn r (aA _ hr)
  cases i with
  | nil=>exact absurd rfl (hn _ (aF ..))
  | cons m u q =>
   refine⟨.int m u::fs,KatTups.cons e c d (by simp) k,by simp[l],λf hf =>?_⟩
   rcases bG.mp hf with rfl | hf
   ·exact⟨m,u,rfl⟩
   ·exact z f hf
section
variable{K:Fg9}{X:Cx}
theorem ait{qv:List (aY×Obj)}{σ:L2.St}{F H:Hp}{s:aO}(I:Inv X qv σ H s)(g:Same F H):∀{rs:LL9} {vs:List V} {us:List aH},IsL X.K F (rs.map rowT) vs->Vals vs us->TupsAre s.heap us rs
 | [],_,_,h,r=>by cases h;cases r;exact .nil
 | a::rs,_,_,.cons h t,r=>by
  cases r with
  | cons r1 r2 =>
   have z:=ait I g t r2;have h:Is X.K F (.tup (a.map D.int)) _:=h;cases h with
   | tup e hl =>
    rw[hl.int_inv] at e;cases r1;obtain⟨its,rv,⟨o,e1,e2,n,e3⟩,_⟩:=I.tuple (SqT.of (g _ _ e));exact .cons e1 e2 e3 (intsAre_of rv) z
def avy:D->Option Rv
 | .lst l=>(aj7 l).bind λrows=>if (decide (rows.length < 64)&&rows.all (λr => !r.isEmpty)&&decide rows.Nodup)=ZW then ZY (.fr ((ago rows).map rowT)) else ZX
 | _=>ZX
theorem aox{rows:LL9}(h:rows.length < 64)(hn:∀r∈rows,r≠[])(nd:rows.Nodup):avy (.lst (rows.map rowT))=ZY (.fr ((ago rows).map rowT)):=by
 show(aj7 (rows.map rowT)).bind _=_;rw[alq,cB,if_pos];simp only[bL,decide_eq_true_eq,cX];exact⟨⟨h,λr hr=>by cases r with
  | nil=>exact absurd rfl (hn _ hr)
  | cons=>rfl⟩,nd⟩
theorem aki{α:Type}(d:α){l:List α}{p:Array Nat}(hp:Pm l.length p):(p.toList.map λi=>l.getD i d).Perm l:=by
 refine(hp.pm.map _).trans ?_;have e:((aJ l.length).map λi=>l.getD i d)=l:=by
  apply dU;intro i;rw[aN]
  by_cases h:i < l.length
  ·rw[bM h];simp[h]
  ·rw[bI (by simpa using h),bI (by omega)]
   rfl
 rw[e]
theorem a1l{rows:LL9}{p:Array Nat}(hp:Pm rows.length p)(hs:Srt (λi j=>lexB (rows.getD i []) (rows.getD j [])) p rows.length):LxS (p.toList.map λi=>rows.getD i []):=by
 rw[LxS,nP,List.pairwise_iff_getElem];intro i j hi hj hij;have h:=hs i j hij (by rw[<-hp.size];simpa using hj)
 have e1:=hp.get (k:=i) (by rw[<-hp.size];simpa using hi)
 have e2:=hp.get (k:=j) (by rw[<-hp.size];simpa using hj)
 have f1:p.toList[i]=p.getD i 0:=by
  have hi':i < p.size:=by simpa using hi
  simp[wJ,hi']
 have f2:p.toList[j]=p.getD j 0:=by
  have hj':j < p.size:=by simpa using hj
  simp[wJ,hj']
 rw[f1,f2];exact h
theorem aqo{F:Hp}{rows:LL9}{vs:List V}(h:IsL K F (rows.map rowT) vs):∀{p:List Nat},(∀i∈p,i < rows.length)->IsL K F ((p.map λi=>rows.getD i []).map rowT) (p.map λi=>vs.getD i .non)
 | [],_=>.nil
 | i::p,hp=>by
  have hi:=hp i (aF ..);obtain⟨v,e,hv⟩:=h.get (i:=i) (d:=rowT (rows.getD i [])) (by simp[hi])
  have e':vs.getD i .non=v:=by simp[e]
  refine .cons ?_ (aqo h λj hj=>hp j (aA _ hj))
  dsimp only;rw[e'];exact hv
theorem ale{vs:List V}{us:List aH}(h:Vals vs us):∀{p:List Nat},(∀i∈p,i < vs.length)->Vals (p.map λi=>vs.getD i .non) (p.map λi=>us.getD i fK)
 | [],_=>.nil
 | i::p,hp=>by
  have hi:=hp i (aF ..);refine .cons ?_ (ale h λj hj=>hp j (aA _ hj))
  have:∀{vs:List V} {us:List aH} {i:Nat},Vals vs us->i < vs.length->RelV (vs.getD i .non) (us.getD i fK):=by
   intro vs us i h
   induction h generalizing i with
   | nil=>intro h;simp at h
   | cons a b ih =>
    intro hi;cases i with
    | zero=>exact a
    | succ i=>simpa using ih (by simpa using hi)
  exact this h hi
theorem azr:CallD K X (.builtin "sorted") (g1 avy):=cd_one λhk qv s σ0 H x u Q tg F ρ σ d r I ru G bd eg q=>by
 subst hk;cases d with
 | lst l =>
  have eg:(aj7 l).bind (λrows=>if (decide (rows.length < 64)&&rows.all (λr => !r.isEmpty)&&decide rows.Nodup)=ZW then ZY (Rv.fr ((ago rows).map rowT)) else ZX)=ZY r:=eg
  cases e:aj7 l with
  | none=>rw[e] at eg;cases eg
  | some rows =>
   rw[e,cB] at eg;split at eg
   ·rename_i hc;simp only[bL,decide_eq_true_eq,cX] at hc;obtain⟨⟨h64,hne⟩,nd⟩:=hc;have hne:∀r∈rows,r≠[]:=λr hr q=>by have:=hne r hr;rw[q] at this;cases this
    cases eg;obtain⟨a,vs,rfl,ea,hl⟩:=bd.lst G.sub;rw[apw e] at hl;cases ru;obtain⟨its,rv,pl,_⟩:=I.list (SqL.of ea);have hlen:vs.length=its.length:=rv.length;have T:=ait I G.sub hl rv;have tl:=T.len;have O:Od its.length λi j=>lexB (rows.getD i []) (rows.getD j []):=⟨λi j k=>aop _ _ _,λi j hi hj hij=>aoq _ _ λq=>hij (by
     have hi':i < rows.length:=by omega
     have hj':j < rows.length:=by omega
     exact(wB hi' nd).mp (by
      have e1:rows[i]? = ZY (rows.getD i []):=by simp[hi']
      have e2:rows[j]? = ZY (rows.getD j []):=by simp[hj']
      rw[e1,e2,q]))⟩
    refine ali (κ:=tuples' (nG "int" != nG "tuple")) pl.isList (by omega) O (λh2 h' k'=>⟨λQ q =>?_,λi j hi hj C hC =>?_⟩) λp hp hs =>?_
    ·obtain⟨fs,kt,fl,fz⟩:=(T.mono k').kat hne;refine kat_kind kt (by omega) (λv hv =>?_) (by decide) q
     obtain⟨i,t,rfl⟩:=fz v hv;exact Looks.of_pure rfl
    ·obtain⟨a1,o1,xs1,n1,f1,g1,d1,i1⟩:=(T.mono k').at i (by omega)
     obtain⟨a2,o2,xs2,n2,f2,g2,d2,i2⟩:=(T.mono k').at j (by omega)
     unfold kas_ask;rw[f1,f2];refine kat_lt g1 d1 g2 d2 ?_;have l1:xs1.toArray.size=(rows.getD i []).length:=i1.length;have l2:xs2.toArray.size=(rows.getD j []).length:=i2.length;rw[l1,l2];exact a0o 0 i1 i2 hC
    ·have hp':Pm rows.length p:=tl▸hp;have hs':Srt (λi j=>lexB (rows.getD i []) (rows.getD j [])) p rows.length:=tl▸hs
     have e':(p.toList.map λi=>rows.getD i [])=ago rows:=au3 ((aki [] hp').trans (acl rows).symm) (a1l hp' hs') (afy nd)
     have hm:∀i∈p.toList,i < rows.length:=λi hi=>by simpa using hp'.pm.mem_iff.mp hi
     obtain⟨ep,eo⟩:=sJ s.heap its (aly its p);have hn:H (s.heap.objs.size+1)=ZX:=I.hok.fresh (gP _);have il:=aqo hl hm;rw[e'] at il;refine⟨.ref (s.heap.objs.size+1),upd H (s.heap.objs.size+1) (.lst (p.toList.map λi=>vs.getD i .non)),?_,rfl,Res.lst G q il hn⟩
     refine I.laid (t':=s.toks) (λb u e=>rY e) (gP _) ?_
     refine⟨?_,(p.toList.map λi=>its.getD i fK),ep,ale rv λi hi=>by have:=hm i hi;omega,eo⟩
     rw[aK,jF,hp'.size];exact lN (agp (by omega))
   ·cases eg
 | _=>cases eg
def aeq(d:D):Option Rv:=match acu d with
 | some r=>ZY r
 | none=>avy d
theorem as4:CallD K X (.builtin "sorted") (g1 aeq):=cd_one λhk qv s σ0 H x u Q tg F ρ σ d r I ru G bd eg q=>by
 unfold aeq at eg;cases e:acu d with
 | some r' =>
  rw[e] at eg;cases eg;exact ajk.go hk qv s σ0 H [x] [u] Q I (.cons ru .nil) ⟨tg,F,ρ,σ,[d],_,G,.cons bd .nil,e,q⟩
 | none =>
  rw[e] at eg;exact azr.go hk qv s σ0 H [x] [u] Q I (.cons ru .nil) ⟨tg,F,ρ,σ,[d],_,G,.cons bd .nil,eg,q⟩
theorem akv{rows:LL9}(h:rows.length < 64)(hn:∀r∈rows,r≠[])(nd:rows.Nodup):aeq (.lst (rows.map rowT))=ZY (.fr ((ago rows).map rowT)):=by
 cases rows with
 | nil=>rfl
 | cons r rows =>
  unfold aeq;rw[show acu (.lst ((r::rows).map rowT))=ZX from rfl]
  exact aox h hn nd
end
end Dn
namespace PySem
abbrev StK:=List Int×Int
section
variable{prog:cG}{w:dZ}
def IsSt(prog:cG)(w:dZ)(h:fH)(k:StK)(a:aY):Prop:=∃o b t n,h.get? a=ZY o/\o.cls=.type "tuple" /\ o.data=.seq #[.ref b,.int k.2 t] n/\IsTupleKey (mD prog w) h k.1 b
theorem IsSt.typeIs{s:aO}{k:StK}{a:aY}(x:IsSt prog w s.heap k a):s.TypeIs (.ref a) "tuple" := by
 obtain⟨o,b,t,n,ho,hc,_⟩:=x;exact⟨o,ho,hc⟩
theorem IsSt.inj{h:fH}{a:aY}{x y:StK}(hx:IsSt prog w h x a)(hy:IsSt prog w h y a):x=y:=by
 obtain⟨o,b,t,n,ho,hc,hd,hi⟩:=hx;obtain⟨o',b',t',n',ho',hc',hd',hi'⟩:=hy;rw[ho] at ho';cases ho';rw[hd] at hd'
 injection hd' with h1 _
 have h1:=congrArg uR h1;simp only[xG,Value.ref.injEq,Value.int.injEq,and_true] at h1;obtain⟨rfl,h2,_⟩:=h1;exact tQ (hi.inj hi') h2
theorem IsSt.keeps{h h':fH}{k:StK}{a d:aY}{o:Obj}{es ep}(x:IsSt prog w h k a)(ho:h.get? d=ZY o)(hd:o.data=.dict es ep)(hs:gA d h h'):IsSt prog w h' k a:=by
 obtain⟨o',b,t,n,ho',hc,hd',hi⟩:=x;have hne:a≠d:=by
  intro z;subst z;rw[ho] at ho';cases ho';rw[hd] at hd';cases hd'
 exact⟨o',b,t,n,(hs.2 a hne).trans ho',hc,hd',hi.keeps ho hd hs⟩
noncomputable def avp(prog:cG)(w:dZ)(k:StK):Int:=reduceHash (fX [jY (mD prog w) k.1,hashInt k.2])
variable{A:eG}{E:aH->aO->Prop}{s:aO}
theorem agk{k:StK}{a:aY}{Q:Int->aO->Prop}(hu:A.units+8 < cLine)(hk:IsSt prog w s.heap k a)(h:Q (avp prog w k) { s with toks:=s.toks+(k.1.length+3) }) :
  bT (cA prog w) A (pyHash (.ref a)) Q E s:=by
 have hT:=hk.typeIs;obtain⟨o,b,t,n,ho,_,hd,hi⟩:=hk;unfold pyHash
 first | unfold pyHashByItsType | skip
 first | refine aB (wpAny_cRoomFor_or (.inr (by omega)) ?_) | skip
 refine aB (wpAny_specialOf hT nY.lookup ?_);show bT _ _ (if (ZY (kZ "tuple.__hash__")==ZY fK)=ZW then _ else _) Q E s
 rw[if_neg (by rw[beq_builtin_none];exact dG)]
 refine aB (wpAny_specialOf hT nY.lookup ?_);show bT _ _ (callSpecialIfBoundUnlessNone? (.ref a) "__hash__" _ >>= _) Q E s;refine aB (wpAny_callSpecialIfBoundUnlessNone?_slot hT nY (gC nY hT F.entry_tuple_hash ?_ (F.args_tuple_hash_1 _)));show bT _ _ (mU (.ref a) >>= _) _ _ s;refine aB (wpAny_tupleItemsOf ho hd ?_);refine aB ?_;rw[<-pX];refine wpAny_forIn_list _
  (λrest (c:Array Int) s'=>(rest=[.ref b,.int k.2 t]/\c.toList=[]/\s'=s)∨(rest=[.int k.2 t]/\c.toList=[jY (mD prog w) k.1]/\s'={ s with toks:=s.toks+(k.1.length+1) })
   ∨ (rest=[]/\c.toList=[jY (mD prog w) k.1,hashInt k.2]/\s'={ s with toks:=s.toks+(k.1.length+1)+1 }))
  _ ?_ ?_ _ _ (.inl ⟨rfl,rfl,rfl⟩)
 ·rintro x rest c s' (⟨e,hc,rfl⟩ | ⟨e,hc,rfl⟩ | ⟨e,_⟩)
  ·injection e with e1 e2
   subst e1;subst e2;have z:bT (cA prog w) A.in1 (pyHash (.ref b)) (λv s''=>v=jY (mD prog w) k.1/\s''={ s' with toks:=s'.toks+(k.1.length+1) }) (λ_ _=>False) s' :=
    wpAny_pyHash_tuple (by show A.units+1 < _;omega) hi ⟨rfl,rfl⟩
   refine aB (cU z (λv s'' hv =>?_) λ_ _ q=>q.elim)
   obtain⟨rfl,rfl⟩:=hv
   first
    | exact aR (.inr (.inl ⟨rfl,by simp[hc],rfl⟩))
    | exact aB (aR (aR (.inr (.inl ⟨rfl,by simp[hc],rfl⟩))))
  ·injection e with e1 e2
   subst e1;subst e2;refine aB (wpAny_pyHash_int ?_)
   first
    | exact aR (.inr (.inr ⟨rfl,by simp[hc],rfl⟩))
    | exact aB (aR (aR (.inr (.inr ⟨rfl,by simp[hc],rfl⟩))))
  ·cases e
 ·rintro c s' (⟨e,_⟩ | ⟨e,_⟩ | ⟨_,hc,rfl⟩)
  ·cases e
  ·cases e
  ·show bT _ _ (retInt (fX c.toList)) _ _ _;rw[hc];refine wpAny_ret_mkInt ?_;show bT _ _ (if (decide (-(2:Int) ^ 63<=fX [jY (mD prog w) k.1,hashInt k.2])&&decide (fX [jY (mD prog w) k.1,hashInt k.2] < 2 ^ 63))=ZW then _ else _) Q E _
   unfold avp reduceHash at h
   by_cases hr:(decide (-(2:Int) ^ 63<=fX [jY (mD prog w) k.1,hashInt k.2])&&decide (fX [jY (mD prog w) k.1,hashInt k.2] < 2 ^ 63))=ZW
   ·rw[if_pos hr];rw[if_pos hr] at h;exact aR (by simpa[pU] using h)
   ·rw[if_neg hr];rw[if_neg hr] at h;exact aB (wpAny_rule (aR (by simpa[pU] using h)))
theorem agy{h:fH}:∀{ks:List Int} {vs:List aH},ItemsAre (mD prog w) ks vs->ReadsAll h vs (ks.map iQ) []
 | _,_,.nil=>.nil
 | _,_,.cons e r=>by
  obtain⟨t,rfl⟩:=vP e;exact .cons (as:=[]) (bs:=[]) (.int _ _) (agy r)
theorem IsSt.reads{h:fH}{k:StK}{a:aY}(x:IsSt prog w h k a):vQ h (.ref a) (.tuple [.tuple (k.1.map iQ),.int k.2]) []:=by
 obtain⟨o,b,t,n,ho,hc,hd,ob,its,m,ho2,hc2,hd2,hi⟩:=x;exact .tuple ho hc hd (.cons (as:=[]) (bs:=[]) (.tuple ho2 hc2 hd2 (agy hi)) (.cons (as:=[]) (bs:=[]) (.int _ _) .nil))
theorem anv{k:StK}{a:aY}{Q:Bool->aO->Prop}(hk:IsSt prog w s.heap k a)(h:Q ZW s):bT (cA prog w) A (eqIsQuiet 8 (.ref a)) Q E s:=by
 have hT:=hk.typeIs;obtain⟨o,b,t,n,ho,_,hd,hb⟩:=hk;have hT2:=hb.typeIs (s:=s);obtain⟨ob,its,m,ho2,hc2,hd2,hi⟩:=hb;unfold eqIsQuiet;refine aB (wpAny_specialOf hT xN.lookup ?_);show bT _ _ (isInstance (.ref a) (.type "tuple") >>= _) _ _ s;refine aB (wpAny_isInstance hT isSubtype_tuple_tuple ?_);simp only[oG,fJ,if_false];refine aB (iJ ho hd ?_);refine aB ?_;show bT _ _ (forIn _ _ _) _ _ s;rw[<-pX];refine wpAny_forIn_list _ (λrest r s'=>r.1=ZX/\s'=s/\∀v∈rest,v=.ref b∨carriedByValue v=ZW) _ ?_ ?_ _ _ ⟨rfl,rfl,λv hv=>by
  rcases bG.mp hv with rfl | hv
  ·exact .inl rfl
  ·rcases bG.mp hv with rfl | hv
   ·exact .inr rfl
   ·cases hv⟩
 ·rintro v rest r s' ⟨hr,rfl,hall⟩
  rcases hall v aF with rfl | hv
  ·refine aB ?_;unfold eqIsQuiet;refine aB (wpAny_specialOf hT2 xN.lookup ?_);show bT _ _ (isInstance (.ref b) (.type "tuple") >>= _) _ _ s';refine aB (wpAny_isInstance hT2 isSubtype_tuple_tuple ?_);simp only[oG,fJ,if_false];refine aB (iJ ho2 hd2 ?_);refine aB ?_;show bT _ _ (forIn its _ _) _ _ s';rw[<-pX];refine wpAny_forIn_list _ (λrest r s2=>r.1=ZX/\s2=s'/\∀v∈rest,carriedByValue v=ZW) _ ?_ ?_ _ _ ⟨rfl,rfl,hi.byValue⟩
   ·rintro v rest r s2 ⟨hr,rfl,hall⟩
    rw[eqIsQuiet_byValue _ (hall v aF)];refine aB (aR ?_);simp only[oG,fJ,if_false];exact aR ⟨rfl,rfl,λu hu'=>hall u (aA _ hu')⟩
   ·rintro⟨r1,r2⟩ s2 ⟨hr,rfl,_⟩
    simp only at hr;subst hr;refine aR ?_;simp only[oG,fJ,if_false];exact aR ⟨rfl,rfl,λu hu'=>hall u (aA _ hu')⟩
  ·rw[eqIsQuiet_byValue _ hv];refine aB (aR ?_);simp only[oG,fJ,if_false];exact aR ⟨rfl,rfl,λu hu'=>hall u (aA _ hu')⟩
 ·rintro⟨r1,r2⟩ s' ⟨hr,rfl,_⟩
  simp only at hr;subst hr;exact aR h
end
end PySem
namespace Dn
open L2 Mn
theorem acj:∀l:List Int,acz (l.map D.int)=l.map iQ
 | []=>rfl
 | i::l=>by show iQ i::acz (l.map D.int)=_;rw[acj l];rfl
theorem a8s(x y:StK):kI (.tuple [.tuple (x.1.map iQ),.int x.2]) (.tuple [.tuple (y.1.map iQ),.int y.2])=decide (x=y):=by
 have h1:kI (.tuple (x.1.map iQ)) (.tuple (y.1.map iQ))=decide (x.1=y.1):=by
  rw[<-acj,<-acj];exact ah0 x.1 y.1
 have h2:kI (.int x.2) (.int y.2)=decide (x.2=y.2):=ah1 x.2 y.2;show(kI (.tuple (x.1.map iQ)) (.tuple (y.1.map iQ))&&(kI (.int x.2) (.int y.2)&&ZW))=_;rw[h1,h2,yF];obtain⟨a,b⟩:=x;obtain⟨c,d⟩:=y
 by_cases e1:a=c
 ·by_cases e2:b=d
  ·simp[e1,e2]
  ·simp[e2]
 ·simp[e1]
theorem a0q(x:StK):(uI [.tuple (x.1.map iQ),.int x.2]).canLay0=ZW/\(uI [.tuple (x.1.map iQ),.int x.2]).depth<=30:=by
 have h:=abg 30 (.tup [.tup (x.1.map D.int),.int x.2]) (by
  show(okD 29 (.tup (x.1.map D.int))&&(okD 29 (.int x.2)&&ZW))=ZW;rw[yF,bL];refine⟨?_,rfl⟩;show(x.1.map D.int).all (okD 28)=ZW;rw[List.all_map,cX];exact λi _=>rfl)
 have e:toPy (.tup [.tup (x.1.map D.int),.int x.2])=.tuple [.tuple (x.1.map iQ),.int x.2]:=by
  show uI [.tuple (acz (x.1.map D.int)),.int x.2]=_;rw[acj]
 rwa[e] at h
def alh(prog:cG)(w:dZ):HeapKind prog w StK where
 is:=IsSt prog w
 hash:=avp prog w
 draws:=λk=>k.1.length+3
 room:=λA=>A.units+40 < cLine
 inj:=λhx hy=>hx.inj hy
 keeps:=λx ho hd hs=>x.keeps ho hd hs
 pyHash:=λhu hk h=>agk (by omega) hk h
 eqBool:=λ{A E s x y a b Q} hu hx hy h=>by
  have l1:=a0q x;have l2:=a0q y;have e:=uC _ _ A s (.ref a) (.ref b) [] [] hx.reads hy.reads l1.1 l2.1 (by omega)
  rw[a8s] at e;exact e _ _ E Q h
 quiet:=λhk h=>anv hk h
end Dn
namespace PySem
section
variable{prog:cG}{w:dZ}{K:Type}[DecidableEq K]{knd:HeapKind prog w K}{A:eG}{E:aH->aO->Prop}{s:aO}{d a:aY}{k:K}{xs:List (K×Addr×Value)}
theorem ash{Q:aH->aO->Prop}(hu:knd.room A.in1)(hkey:knd.is s.heap k a)(hd:(d==sysModules)=ZV)(hm:s.heap.DictOfH knd d xs)
  (h:Q (.bool (!(atKey xs k).isSome)) { s with toks:=s.toks+knd.draws k }):bT (cA prog w) A (fD .NotIn (.ref a) (.ref d)) Q E s:=by
 show bT _ _ (do return .bool (!(<-contains (.ref d) (.ref a)))) Q E s
 refine aB ?_;unfold contains
 try with_reducible refine fV ?_
 refine aB (wpAny_specialOf hm.typeIs slot_dict_contains.lookup ?_);show bT _ _ (if (ZY (kZ "dict.__contains__")==ZY fK)=ZW then _ else _) _ E s
 rw[if_neg (by rw[beq_builtin_none];exact dG)]
 refine aB (wpAny_callSpecialUnlessNone?_slot (name:=mW "__contains__") hm.typeIs slot_dict_contains
  (gC slot_dict_contains hm.typeIs entry_dict_contains ?_ (args_dict_contains _ _)))
 show bT _ _ (dictGet d (.ref a) >>= _) _ _ s;refine aB (wpAny_dictGet_heap hu hkey hm ?_);cases hf:atKey xs k with
 | some v =>
  rw[hf] at h;show bT _ _ (ret (.bool ZW)) _ _ _;exact aR ⟨_,rfl,fP (aR h)⟩
 | none =>
  rw[hf] at h;show bT _ _ (Builtin.Dict.pendingKey? d (.ref a) >>= _) _ _ _;exact aB (wpAny_pendingKey_other hd (aR ⟨_,rfl,fP (aR h)⟩))
end
end PySem
namespace Dn
open L2 Mn
abbrev StX:=List (StK×Addr×Value)
def a1k(P:cG)(w:dZ)(d:aY)(xs:StX):fH->Prop:=λh=>∃o es ep,h.get? d=ZY o/\o.ExactDict/\o.data=.dict es ep/\es.toList=xs.map (entryOfKey (alh P w))/\(xs.map (·.1)).Nodup/\(d==sysModules)=ZV
abbrev StO(X:Cx)(d:aY)(xs:StX):HO:=.ext (a1k X.prog X.w d xs)
def aek(H:Hp)(xs:StX):Prop:=∀x∈xs,∃b,H x.2.1=ZY (.tup [.ref b,.int x.1.2])/\H b=ZY (.tup (x.1.1.map V.int))
section
variable{K:Fg9}{X:Cx}
theorem aqj{P:cG}{w:dZ}:∀{ns:List Int} {us:List aH},Vals (ns.map V.int) us->ItemsAre (mD P w) ns us
 | [],_,h=>by cases h;exact .nil
 | n::ns,_,h=>by
  cases h with
  | cons a b =>
   obtain⟨t,rfl⟩:=a;exact .cons (by simp[mD,Value.isInt]) (aqj b)
theorem akr{qv:List (aY×Obj)}{σ:L2.St}{H:Hp}{s:aO}(I:Inv X qv σ H s){a b:aY}{as:List Int}{r:Int}(e1:H a=ZY (.tup [.ref b,.int r]))(e2:H b=ZY (.tup (as.map V.int))):IsSt X.prog X.w s.heap (as,r) a:=by
 obtain⟨its,rv,⟨o,f1,f2,n,f3⟩,_⟩:=I.tuple (SqT.of e1);obtain⟨its2,rv2,⟨o2,g1,g2,n2,g3⟩,_⟩:=I.tuple (SqT.of e2);cases rv with
 | cons h1 t1 =>
  cases t1 with
  | cons h2 t2 =>
   cases t2;cases h1;obtain⟨t,rfl⟩:=h2;exact⟨o,b,t,n,f1,f2,f3,o2,its2.toArray,n2,g1,g2,g3,aqj rv2⟩
theorem awc{qv:List (aY×Obj)}{σ:L2.St}{H:Hp}{s:aO}(I:Inv X qv σ H s){d:aY}{xs:StX}(h:H d=ZY (StO X d xs))(k:aek H xs):s.heap.DictOfH (alh X.prog X.w) d xs/\(d==sysModules)=ZV:=by
 obtain⟨⟨o,es,ep,e1,e2,e3,e4,e5,e6⟩,_⟩:=(show yx X.prog X.w H s.heap d (StO X d xs) from I.hok d _ h)
 refine⟨⟨o,es,ep,e1,e2,e3,e4,λx hx =>?_,e5⟩,e6⟩
 obtain⟨b,b1,b2⟩:=k x hx;exact akr I b1 b2
def a5p(X:Cx):TE:=λ_ H Q=>∀p,H p=ZX->Q (.ref p) (upd H p (StO X p []))
theorem stable{P:cG}{w:dZ}{d:aY}{xs:StX}{h1 h2:fH}(x:a1k P w d xs h1)(k:∀o,h1.get? d=ZY o->h2.get? d=ZY o):a1k P w d xs h2:=by
 obtain⟨o,es,ep,e1,r⟩:=x;exact⟨o,es,ep,k o e1,r⟩
theorem ax4{pos:Pos}:PE X (.Dict [] [] pos) (a5p X):=by
 intro qv s σ H Q I q;have big:sysModules < s.heap.objs.size:=by
  have h:bK < s.heap.objs.size:=(I.mod.glob.keeps I.bk).lt;exact kJ (by decide) h
 have hn:=I.hok.fresh (aM s.heap.objs.size);refine wpAny_Dict_empty ⟨.ref s.heap.objs.size,upd H s.heap.objs.size (StO X s.heap.objs.size []),?_,rfl,q _ hn⟩;refine I.laid (t':=s.toks) (λb u e=>aD _ e) (aM _) ?_
 have e:(s.heap.push { cls:=.type "dict", data:=.dict #[] }).get? s.heap.objs.size=ZY { cls:=.type "dict", data:=.dict #[] }:=aW _ rfl;exact⟨⟨_,#[],0,e,⟨rfl,rfl,rfl⟩,rfl,rfl,xT,beq_eq_false_iff_ne.mpr (gR (bQ big))⟩,⟨_,e⟩,λh1 h2=>stable⟩
def a6d(X:Cx):R2:=λx y H Q=>∃a b as r d xs,x=.ref a/\y=.ref d/\H a=ZY (.tup [.ref b,.int r])/\H b=ZY (.tup (as.map V.int))/\H d=ZY (StO X d xs)/\aek H xs/\Q (.bl (!(atKey xs (as,r)).isSome)) H
theorem ayc(hu:X.A.units+64 < cLine):OpR X (fD .NotIn) (a6d X):=by
 intro qv s σ H x y v u Q I rx ry h;obtain⟨a,b,as,r,d,xs,rfl,rfl,e1,e2,e3,k,q⟩:=h;cases rx;cases ry;obtain⟨m,md⟩:=awc I e3 k;exact ash (knd:=alh X.prog X.w) (by show X.A.units+1+40 < _;omega) (akr I e1 e2) md m ⟨.bl _,H,I.tok _,rfl,q⟩
def bas(X:Cx):R2:=λx y H Q=>∃a b as r d xs p,x=.ref d/\y=.ref a/\H a=ZY (.tup [.ref b,.int r])/\H b=ZY (.tup (as.map V.int))/\H d=ZY (StO X d xs)/\aek H xs/\atKey xs (as,r)=ZY p/\∃z,RelV z p.2/\Q z H
theorem bbp(hu:X.A.units+64 < cLine):IxR X (bas X):=by
 intro value slice qv s σ H x y v u Q I rx ry h hs;obtain⟨a,b,as,r,d,xs,p,rfl,rfl,e1,e2,e3,k,ek,z,rz,q⟩:=h;cases rx;cases ry;obtain⟨m,md⟩:=awc I e3 k;exact tail_any m.typeIs slot_dict_getitem.lookup (wpAny_getItem_heap (knd:=alh X.prog X.w) (by show X.A.units+1+40 < _;omega) (akr I e1 e2) m ek ⟨z,H,I.tok _,rz,q⟩) hs
def a6c(X:Cx):TSet:=λo i v H Q=>∃a b as r d xs,o=.ref d/\i=.ref a/\H a=ZY (.tup [.ref b,.int r])/\H b=ZY (.tup (as.map V.int))/\H d=ZY (StO X d xs)/\aek H xs/\atKey xs (as,r)=ZX/\xs.length<=100000 /\
 ∀u,RelV v u->Q (upd H d (StO X d (xs++[((as,r),a,u)])))
theorem a5y(hu:X.A.units+64 < cLine):PSet X (a6c X):=by
 intro qv s σ H o i v ov iv u Q I ro ri rv h;obtain⟨a,b,as,r,d,xs,rfl,rfl,e1,e2,e3,k,ek,hz,q⟩:=h;cases ro;cases ri;obtain⟨m,md⟩:=awc I e3 k;refine wpAny_setItem_heap (knd:=alh X.prog X.w) (by show X.A.units+1+40 < _;omega) (akr I e1 e2) m (λh' m' hs =>?_) (by rw[eV];omega)
 rw[storedH_new ek] at m';refine⟨_,?_,q u rv⟩;obtain⟨o,es,ep,f1,f2,f3,f4,_,f5⟩:=m';exact I.write (by rw[e3];trivial) (.inl rfl) (λb u hb e=>(hs.2 b hb).trans e) ⟨o,f1⟩ ⟨⟨o,es,ep,f1,f2,f3,f4,f5,md⟩,⟨o,f1⟩,λh1 h2=>stable⟩
end
noncomputable def okR{α:Type}(m:M α)(ρ:Ro):Option (α×Ro):=match m ρ with
 | some (.ok a,ρ')=>ZY (a,ρ')
 | _=>ZX
theorem ag7{α:Type}{m:M α}{ρ ρ':Ro}{a:α}(h:okR m ρ=ZY (a,ρ')):m ρ=ZY (.ok a,ρ'):=by
 unfold okR at h;split at h
 ·rename_i e;cases h;exact e
 ·cases h
theorem ag6{α:Type}{m:M α}{ρ ρ':Ro}{a:α}(h:m ρ=ZY (.ok a,ρ')):okR m ρ=ZY (a,ρ'):=by
 unfold okR;rw[h]
theorem nj{α β:Type}{o:Option α}{f:α->Option β}{b:β}(h:o.bind f=ZY b):∃a,o=ZY a/\f a=ZY b:=by
 cases o with
 | none=>cases h
 | some a=>exact⟨a,rfl,h⟩
section
variable{K:Fg9}{X:Cx}
theorem Good.empS{tg:Nat->aY}{F H:Hp}{ρ:Ro}{σ:L2.St}(G:Good K tg F H ρ σ)(i:Nat)(o:Option V):Good K tg F H (bB ρ i .emp) (bB σ i o)/\∀a,Own (bB ρ i .emp) (bB σ i o) a->Own ρ σ a:=by
 have key:∀j (t:Option Nat) (l:List D),(bB ρ i Sl.emp)[j]? = ZY (Sl.own t l)->i≠j/\ρ[j]? = ZY (Sl.own t l):=λj t l e=>by
  rw[bC] at e;split at e
  ·split at e <;> cases e
  ·rename_i h;exact⟨h,e⟩
 have ow:∀j a,Owns (bB ρ i .emp) (bB σ i o) j a->Owns ρ σ j a:=λj a z=>by
  obtain⟨⟨t,l,e⟩,q⟩:=z;obtain⟨h,e'⟩:=key j t l e;rw[iK h] at q;exact⟨⟨t,l,e'⟩,q⟩
 refine⟨⟨G.sub,by rw[bW,bW];exact G.len,λj sl o' e q =>?_,λj1 j2 a h1 h2=>G.inj j1 j2 a (ow j1 a h1) (ow j2 a h2)⟩,λa z =>?_⟩
 ·by_cases h:i=j
  ·subst h;rw[bC] at e;simp only[if_true] at e;split at e
   ·cases e;trivial
   ·cases e
  ·rw[iK h] at e q;exact G.sl j sl o' e q
 ·obtain⟨j,z⟩:=z;exact⟨j,ow j a z⟩
end
def keyD:D->Option StK
 | .tup [.tup l,.int r]=>(lg l).map λas=>(as,r)
 | _=>ZX
theorem aot{d:D}{k:StK}(h:keyD d=ZY k):d=.tup [.tup (k.1.map D.int),.int k.2]:=by
 unfold keyD at h;split at h
 ·rename_i l r;cases e:lg l with
  | none=>rw[e] at h;cases h
  | some as =>
   rw[e] at h;cases h;rw[zg e]
 ·cases h
@[simp] theorem aos(as:List Int)(r:Int):keyD (.tup [.tup (as.map D.int),.int r])=ZY (as,r):=by
 show(lg (as.map D.int)).map _=_;rw[aaq];rfl
abbrev Kvs:=List (StK×Int)
noncomputable def pairD:D->Option (D×D)
 | .tup [x,y]=>ZY (x,y)
 | _=>ZX
theorem ax8{d:D}{p:D×D}(h:pairD d=ZY p):d=.tup [p.1,p.2]:=by
 unfold pairD at h;split at h
 ·cases h;rfl
 ·cases h
def a1q(mk mv:M D)(ma:M Rv)(ml:M D)(iA iR:Nat)(kvs:Kvs)(ρ:Ro):Option (Kvs×Ro) :=
 (okR mv ρ).bind λp=>(asI p.1).bind λn=>(okR mk p.2).bind λq=>(keyD q.1).bind λk =>
  if (decide (k∈kvs.map (·.1))||decide (100000 < kvs.length))=ZW then ZX else (okR ma q.2).bind λr=>(okR ml r.2).bind λt=>(pairD t.1).bind λz =>
   ZY (kvs++[(k,n)],bB (bB t.2 iA (.val z.1)) iR (.val z.2))
def an2(mk mv:M D)(ma:M Rv)(ml:M D)(iA iR:Nat):Nat->Kvs->Ro->Option (Kvs×Ro)
 | 0,_,_=>ZX
 | n+1,kvs,ρ=>(okR mk ρ).bind λp=>(keyD p.1).bind λk=>if decide (k∈kvs.map (·.1))=ZW then ZY (kvs,p.2) else (a1q mk mv ma ml iA iR kvs p.2).bind λq=>an2 mk mv ma ml iA iR n q.1 q.2
def a4i(iS iL iA iR iH:Nat)(m0:M Rv)(mk mv:M D)(ma:M Rv)(ml:M D)(n:Nat)(g:Sd):Sd:=λρ=>(ρ[iS]?).bind λ_ =>
 (okR m0 (bB ρ iS .emp)).bind λp=>(an2 mk mv ma ml iA iR n [] (bB p.2 iL p.1.sl)).bind λq=>(okR mk q.2).bind λr=>(keyD r.1).bind λk=>(q.1.lookup k).bind λj=>g (bB r.2 iH (.val (.int j)))
theorem ajm{xs:StX}{k:StK}:(atKey xs k).isSome=decide (k∈xs.map (·.1)):=by
 induction xs with
 | nil=>rfl
 | cons x xs ih =>
  by_cases e:x.1=k
  ·simp[atKey,mH,e]
  ·have e':¬k=x.1:=λq=>e q.symm
   have:atKey (x::xs) k=atKey xs k:=by simp[atKey,mH,e]
   rw[this,ih,aG];simp[e']
theorem ajn{k:StK}{n:Int}:∀{xs:StX} {kvs:Kvs},xs.map (·.1)=kvs.map (·.1)->jT (xs.map (·.2.2)) (kvs.map (·.2))->kvs.lookup k=ZY n->∃p:aY×Value,atKey xs k=ZY p/\∃t,p.2=.int n t
 | [],[],_,_,h=>by cases h
 | [],_::_,h,_,_=>by cases h
 | _::_,[],h,_,_=>by cases h
 | x::xs,y::kvs,h1,h2,h=>by
  obtain⟨k',a',u'⟩:=x;obtain⟨ky,ny⟩:=y;simp only[aG,xG] at h1 h2;obtain⟨rfl,h1⟩:=h1
  by_cases e:k=k'
  ·subst e;rw[cI] at h;cases h;cases h2 with
   | cons n t r=>exact⟨(a',.int _ t),by simp[atKey],t,rfl⟩
  ·have e':¬k'=k:=λq=>e q.symm
   rw[List.lookup_cons,show(k==k')=ZV by simpa using e] at h
   cases h2 with
   | cons n t r =>
    obtain⟨p,hp,t',ht⟩:=ajn h1 r h;refine⟨p,?_,t',ht⟩;rw[<-hp];simp[atKey,mH,e']
section
variable{K:Fg9}{X:Cx}
structure SeenI (K:Fg9) (X:Cx) (tg:Nat->aY) (F0 H0:Hp) (O:aY->Prop) (iS:Nat) (p:aY) (kvs:Kvs) (F H:Hp) (ρ:Ro) (σ:L2.St):Prop where
 good:Good K tg F H ρ σ
 ext:Ext O (Own ρ σ) F0 H0 F H
 at':σ[iS]? = ZY (ZY (.ref p))
 new:H0 p=ZX
 free:F p=ZX
 nown:¬Own ρ σ p
 xs:∃xs:StX,H p=ZY (StO X p xs)/\aek F xs/\xs.map (·.1)=kvs.map (·.1)/\jT (xs.map (·.2.2)) (kvs.map (·.2))
section
variable{tg:Nat->aY}{F0 H0:Hp}{O:aY->Prop}{iS:Nat}{p:aY}{kvs:Kvs}{F H F' H':Hp}{ρ ρ':Ro}{σ σ':L2.St}
theorem aek.mono{F F':Hp}{xs:StX}(s:Same F F')(h:aek F xs):aek F' xs:=λx hx=>by
 obtain⟨b,b1,b2⟩:=h x hx;exact⟨b,s _ _ b1,s _ _ b2⟩
theorem SeenI.step(J:SeenI K X tg F0 H0 O iS p kvs F H ρ σ)(G:Good K tg F' H' ρ' σ')(x:Ext (Own ρ σ) (Own ρ' σ') F H F' H')(hs:σ'[iS]? = σ[iS]?):SeenI K X tg F0 H0 O iS p kvs F' H' ρ' σ':=by
 obtain⟨xs,h1,h2,h3,h4⟩:=J.xs;refine⟨G,J.ext.trans x,hs.trans J.at',J.new,?_,λz =>?_,xs,x.keep _ _ h1 J.nown,h2.mono x.sub,h3,h4⟩
 ·cases e:F' p with
  | none=>rfl
  | some o =>
   rcases x.new p o e with q | q | q
   ·rw[J.free] at q;cases q
   ·rw[h1] at q;cases q
   ·exact absurd q J.nown
 ·rcases x.own p z with q | q
  ·exact J.nown q
  ·rw[h1] at q;cases q
theorem SeenI.store(J:SeenI K X tg F0 H0 O iS p kvs F H ρ σ){i:Nat}(hi:i≠iS){d:D}{v:V}(h:Is K F d v):SeenI K X tg F0 H0 O iS p kvs F H (bB ρ i (.val d)) (bB σ i (ZY v)):=by
 obtain⟨G,x⟩:=J.good.storeV i h;exact J.step G x (iK hi)
theorem aor{k:StK}{v:V}(h:Is K F (.tup [.tup (k.1.map D.int),.int k.2]) v):∃a b,v=.ref a/\F a=ZY (.tup [.ref b,.int k.2])/\F b=ZY (.tup (k.1.map V.int)):=by
 cases h with
 | tup e hl =>
  cases hl with
  | cons h1 t1 =>
   cases t1 with
   | cons h2 t2 =>
    cases t2;cases h2;cases h1 with
    | tup e' hl' =>
     rw[hl'.int_inv] at e';exact⟨_,_,rfl,e,e'⟩
theorem SeenI.write(J:SeenI K X tg F0 H0 O iS p kvs F H ρ σ){xs:StX}(h1:H p=ZY (StO X p xs))(h2:aek F xs)(h3:xs.map (·.1)=kvs.map (·.1))(h4:jT (xs.map (·.2.2)) (kvs.map (·.2))){k:StK}{a b:aY}{n:Int}{u:aH}(ea:F a=ZY (.tup [.ref b,.int k.2]))(eb:F b=ZY (.tup (k.1.map V.int)))(ru:RelV (.int n) u) :
  SeenI K X tg F0 H0 O iS p (kvs++[(k,n)]) F (upd H p (StO X p (xs++[(k,a,u)]))) ρ σ:=by
 have hp:∀b o,F b=ZY o->b≠p:=λb o e z=>by rw[z,J.free] at e;cases e
 have ap:∀{ys:List aH} {ns:List Int} {m:Int} {t:Tok},jT ys ns->jT (ys++[.int m t]) (ns++[m]):=by
  intro ys ns m t h
  induction h with
  | nil=>exact .cons m t .nil
  | cons n' t' r ih=>exact .cons n' t' ih
 obtain⟨t,rfl⟩:=ru;refine⟨J.good.grow (Same.refl F) (λb o e=>by rw[bf (hp b o e)];exact J.good.sub b o e) (λc w =>?_) (λc C dx fvs f1 f2=>⟨f1,?_⟩),?_,J.at',J.new,J.free,J.nown,xs++[(k,a,.int n t)],di,λx hx =>?_,?_,?_⟩
 ·have:c≠p:=λz=>J.nown (z▸w)
  rw[bf this];exact⟨(J.good.ownAt w).1,rfl⟩
 ·have:c≠p:=λz=>by rw[z,h1] at f2;cases f2
  rw[bf this]
 ·refine⟨J.ext.sub,J.ext.new,λc o e n' =>?_,J.ext.own,λc e =>?_⟩
  ·have:c≠p:=λz=>by rw[z,J.new] at e;cases e
   rw[bf this];exact J.ext.keep c o e n'
  ·by_cases hc:c=p
   ·rw[hc];exact J.new
   ·rw[bf hc] at e;exact J.ext.there c e
 ·rcases cN.mp hx with hx | hx
  ·exact h2 x hx
  ·rcases bY.mp hx with rfl;exact⟨b,ea,eb⟩
 ·rw[bD,bD,h3];rfl
 ·rw[bD,bD];exact ap h4
end
variable{ek1 ek2 ek3 e0 ev ea el eS1 eS2 eS3:dH}{ss:List gU}{p1 p2 p3 p4 p5 p6 p7 p8 p9 p10 p11 p12 p13 p14 p15 p16 p17:Pos}
theorem axj{iS iL iA iR iH kt:Nat}{xS xL xA xR xH:Str}{mk mv ml:M D}{m0 ma:M Rv}{g:Sd}(n:Nat)(hu:X.A.units+64 < cLine)(hp:pP (cA X.prog X.w) X.A X.env X.xe)(hc:X.calm=ZW)(hN:X.N.Nodup)
  (nS:X.N[iS]? = ZY xS) (nL:X.N[iL]? = ZY xL) (nA:X.N[iA]? = ZY xA) (nR:X.N[iR]? = ZY xR) (nH:X.N[iH]? = ZY xH)
  (lS:Loc X.env.scope xS) (lL:Loc X.env.scope xL) (lA:Loc X.env.scope xA) (lR:Loc X.env.scope xR) (lH:Loc X.env.scope xH) (dL:iL≠iS) (dA:iA≠iS) (dR:iR≠iS)
  (s1:PE X eS1 (tVar iS)) (s2:PE X eS2 (tVar iS)) (s3:PE X eS3 (tVar iS)) (h0:ER K X e0 m0) (k1:EV K X ek1 mk) (k2:EV K X ek2 mk) (k3:EV K X ek3 mk) (hv:EV K X ev mv) (ha:ER K X ea ma) (hl:EV K X el ml) (hg:SVs K X ss g) (hix:apf ek3)
  (hm:gW .NotIn eS1=ZV:=by with_unfolding_all rfl)
  (w1:fY (.Dict [] [] p2) (ZY (.Name xS p1)) p3.line X.env=pure ZV:=by rfl) (f1:X.fn xS=ZW∨X.env.scope.names.lookup xS=ZY .local:=by first | exact .inl rfl | exact .inr rfl | assumption)
  (w2:fY e0 (ZY (.Name xL p4)) p5.line X.env=pure ZV:=by rfl) (f2:X.fn xL=ZW∨X.env.scope.names.lookup xL=ZY .local:=by first | exact .inl rfl | exact .inr rfl | assumption)
  (w3:swapsWithSole [.Subscript eS2 ek2 p7] ev p8.line X.env=pure ZV:=by rfl) (w4:swappedStores [.Subscript eS2 ek2 p7] ev X.env=pure ZX:=by rfl)
  (w5:(eX [.Subscript eS2 ek2 p7] X.env).map (·.2)=[lG (.Subscript eS2 ek2 p7) X.env]:=by rfl)
  (w6:∀v,lG (.Subscript eS2 ek2 p7) X.env v=(do
   let ov <-kW [v] (eval eS2 X.env)
   let iv <-kW [v,ov] (eval ek2 X.env)
   standAt p7
   kW [v,ov,iv] (setItem ov iv v)
   release [v,ov,iv] []):=by intro _;rfl)
  (w7:fY ea ZX p9.line X.env=pure ZV:=by rfl)
  (w8:swapsWithSole [.Tuple [.Name xA p10,.Name xR p11] kt p12] el p13.line X.env=pure ZV:=by rfl) (w9:swappedStores [.Tuple [.Name xA p10,.Name xR p11] kt p12] el X.env=pure ZX:=by rfl)
  (w10:(eX [.Tuple [.Name xA p10,.Name xR p11] kt p12] X.env).map (·.2)=[lG (.Tuple [.Name xA p10,.Name xR p11] kt p12) X.env]:=by rfl)
  (w11:(eX [.Name xA p10,.Name xR p11] X.env).map (·.2)=lG (.Name xA p10) X.env::(eX [.Name xR p11] X.env).map (·.2):=by rfl) (w12:(eX [.Name xR p11] X.env).map (·.2)=lG (.Name xR p11) X.env::(eX [] X.env).map (·.2):=by rfl)
  (w13:(eX [.Name xA p10,.Name xR p11] X.env).length=2:=by rfl) (w14:(eX [.Name xA p10,.Name xR p11] X.env).findIdx? (·.1)=ZX:=by rfl)
  (f3:X.fn xA=ZW∨X.env.scope.names.lookup xA=ZY .local:=by first | exact .inl rfl | exact .inr rfl | assumption) (f4:X.fn xR=ZW∨X.env.scope.names.lookup xR=ZY .local:=by first | exact .inl rfl | exact .inr rfl | assumption)
  (w15:fY (.Subscript eS3 ek3 p16) (ZY (.Name xH p15)) p17.line X.env=pure ZV:=by rfl) (f5:X.fn xH=ZW∨X.env.scope.names.lookup xH=ZY .local:=by first | exact .inl rfl | exact .inr rfl | assumption) :
  SVs K X (.Assign [.Name xS p1] (.Dict [] [] p2) p3::.Assign [.Name xL p4] e0 p5::.While (.Compare ek1 [.NotIn] [eS1] p6) [.Assign [.Subscript eS2 ek2 p7] ev p8,.Expr ea p9,.Assign [.Tuple [.Name xA p10,.Name xR p11] kt p12] el p13] [] p14::.Assign [.Name xH p15] (.Subscript eS3 ek3 p16) p17::ss)
   (a4i iS iL iA iR iH m0 mk mv ma ml n g):=SVs.mk λhk=>PSs.imp (ph (ag0 hN nS lS ax4 w1 f1) (ph (ag0 hN nL lL (h0 hk) w2 f2) (ph (ake hp (aud (ayc hu) (k1 hk) s1 hm)
    (ph (ap1 (hv hk) (a0l s2 (k2 hk) (a5y hu) w6) w3 w4 w5) (ph (aoc (ha hk) w7) (akd (ap1 (hl hk) (a0k hc (akh (aoe hN nA lA f3) (akh (aoe hN nR lR f4) auo w12) w11) w13 w14) w8 w9 w10)))))
    (ph (ag0 hN nH lH (a6v (bbp hu) s3 (k3 hk) hix) w15 f5) (hg hk))))) λE σ H z9=>by
 obtain⟨tg,F,ρ,fl,ρ',G,em,q⟩:=z9;subst hk;obtain⟨sl0,esl,em⟩:=nj em;obtain⟨⟨r0,ρ0⟩,em0,em⟩:=nj em;obtain⟨⟨kvE,ρE⟩,emL,em⟩:=nj em;obtain⟨⟨dE,ρK⟩,emK,em⟩:=nj em;obtain⟨kE,ekE,em⟩:=nj em;obtain⟨jE,ejE,emF⟩:=nj em
 clear em
 intro p hpn;have Gf:=G.fresh hpn (StO X p []);have Xf:=G.freshX hpn (StO X p []);obtain⟨Ge,oe⟩:=Gf.empS iS (ZY (.ref p));have oe':=oe;have hlen:iS < σ.length:=by
  rw[<-G.len];exact(aQ.mp esl).1
 have J0:SeenI X.K X tg F H (Own ρ σ) iS p [] F (upd H p (StO X p [])) (bB ρ iS .emp) (bB σ iS (ZY (.ref p))) :=
  ⟨Ge,⟨Xf.sub,Xf.new,Xf.keep,λa z=>Xf.own a (oe a z),Xf.there⟩,by rw[oW hlen],hpn,G.freeF hpn,(λz=>by
   obtain⟨_,vs,e⟩:=G.ownAt (oe' p z);rw[hpn] at e;cases e),⟨[],di,(λx hx=>by cases hx),rfl,.nil⟩⟩
 refine⟨tg,F,bB ρ iS .emp,r0,ρ0,Ge,ag7 em0,λv H1 F1 G1 x1 rr =>?_⟩
 obtain⟨G2,x2⟩:=G1.store x1 iL rr;have J1:=J0.step G2 x2 (iK dL);refine⟨λm σ' H'=>∃kvs F' ρ',SeenI X.K X tg F H (Own ρ σ) iS p kvs F' H' ρ' σ'/\an2 mk mv ma ml iA iR m kvs ρ'=ZY (kvE,ρE),⟨n,[],F1,_,J1,emL⟩,?_⟩
 rintro m σ2 H2 ⟨kvs,F2,ρ2,J,es⟩
 cases m with
 | zero=>cases es
 | succ m =>
  obtain⟨⟨d1,ρ3⟩,e1,es⟩:=nj es;obtain⟨k,ek,es⟩:=nj es;refine⟨tg,F2,ρ2,d1,ρ3,J.good,ag7 e1,λv H3 F3 G3 x3 r3 =>?_⟩
  have J3:=J.step G3 x3 rfl;have r3:Is X.K F3 d1 v:=r3;have ek:keyD d1=ZY k:=ek;rw[aot ek] at r3;obtain⟨a,b,rfl,ea,eb⟩:=aor r3;obtain⟨xs,h1,h2,h3,h4⟩:=J3.xs;refine⟨.ref p,J3.at',a,b,k.1,k.2,p,xs,rfl,rfl,G3.sub _ _ ea,G3.sub _ _ eb,h1,h2.mono G3.sub,!(atKey xs k).isSome,rfl,?_⟩;rw[ajm,h3]
  by_cases hkk:k∈kvs.map (·.1)
  ·rw[if_pos (decide_eq_true hkk)] at es;cases es;rw[decide_eq_true hkk];refine iteF ?_;refine⟨.ref p,J3.at',tg,F3,_,dE,ρK,G3,ag7 emK,λv4 H4 F4 G4 x4 r4 =>?_⟩
   have J4:=J3.step G4 x4 rfl;have r4:Is X.K F4 dE v4:=r4;have ekE:keyD dE=ZY kE:=ekE;rw[aot ekE] at r4;obtain⟨a4,b4,rfl,ea4,eb4⟩:=aor r4;obtain⟨ys,g1,g2,g3,g4⟩:=J4.xs;obtain⟨pp,gp,t,gt⟩:=ajn g3 g4 ejE;refine⟨a4,b4,kE.1,kE.2,p,ys,pp,rfl,rfl,G4.sub _ _ ea4,G4.sub _ _ eb4,g1,g2.mono G4.sub,gp,.int jE,⟨t,gt⟩,?_⟩;obtain⟨G5,x5⟩:=J4.good.storeV iH (.int jE);exact⟨tg,F4,_,fl,ρ',G5,emF,FlOk.back (J4.ext.trans x5) q⟩
  ·rw[if_neg (by simpa using hkk)] at es
   obtain⟨⟨kv2,ρ9⟩,et,es⟩:=nj es;obtain⟨⟨dv,ρ4⟩,ev',et⟩:=nj et;obtain⟨nv,en,et⟩:=nj et;obtain⟨⟨d2,ρ5⟩,e2,et⟩:=nj et;obtain⟨k2',ek2',et⟩:=nj et;split at et
   ·cases et
   rename_i hc2;simp only[Bool.or_eq_true,decide_eq_true_eq,not_or] at hc2;obtain⟨⟨ra,ρ6⟩,ea',et⟩:=nj et;obtain⟨⟨dt,ρ7⟩,el',et⟩:=nj et;obtain⟨z,ez,et⟩:=nj et;cases et;rw[decide_eq_false hkk];refine iteT ⟨λσ' H'=>∃kvs F' ρ',SeenI X.K X tg F H (Own ρ σ) iS p kvs F' H' ρ' σ'/\an2 mk mv ma ml iA iR m kvs ρ'=ZY (kvE,ρE),λσ' H' h=>⟨m,jH m,h⟩,?_⟩
   refine⟨tg,F3,ρ3,dv,ρ4,G3,ag7 ev',λvv H5 F5 G5 x5 r5 =>?_⟩
   have J5:=J3.step G5 x5 rfl;refine⟨.ref p,J5.at',tg,F5,ρ4,d2,ρ5,G5,ag7 e2,λv6 H6 F6 G6 x6 r6 =>?_⟩
   have J6:=J5.step G6 x6 rfl;have r6:Is X.K F6 d2 v6:=r6;have ek2':keyD d2=ZY k2':=ek2';rw[aot ek2'] at r6;obtain⟨a6,b6,rfl,ea6,eb6⟩:=aor r6;obtain⟨ys,g1,g2,g3,g4⟩:=J6.xs;have r5:Is X.K F5 dv vv:=r5;have en:asI dv=ZY nv:=en;rw[ae5 en] at r5;cases r5;have hnone:atKey ys k2'=ZX:=by
    have:(atKey ys k2').isSome=ZV:=by rw[ajm,g3];exact decide_eq_false hc2.1
    cases e:atKey ys k2' with
    | none=>rfl
    | some _=>rw[e] at this;cases this
   have hlen2:ys.length=kvs.length:=by
    have:=congrArg vA g3
    simpa using this
   refine⟨a6,b6,k2'.1,k2'.2,p,ys,rfl,rfl,G6.sub _ _ ea6,G6.sub _ _ eb6,g1,g2.mono G6.sub,hnone,by omega,λu ru =>?_⟩
   have J7:=J6.write g1 g2 g3 g4 ea6 eb6 ru;refine⟨tg,F6,ρ5,ra,ρ6,J7.good,ag7 ea',λv7 H7 F7 G7 x7 r7 =>?_⟩
   have J8:=J7.step G7 x7 rfl;refine⟨tg,F7,ρ6,dt,ρ7,G7,ag7 el',λv8 H8 F8 G8 x8 r8 =>?_⟩
   have J9:=J8.step G8 x8 rfl;have r8:Is X.K F8 dt v8:=r8;have ez:pairD dt=ZY z:=ez;rw[ax8 ez] at r8;cases r8 with
   | tup e8 hl8 =>
    cases hl8 with
    | cons i1 t1 =>
     cases t1 with
     | cons i2 t2 =>
      cases t2;exact⟨_,_,rfl,SqT.of (G8.sub _ _ e8),rfl,_,_,rfl,_,_,rfl,rfl,_,F8,_,(J9.store dA i1).store dR i2,es⟩
end
def Oi(ρ:Ro)(σ:L2.St)(a:aY):aY->Prop:=λz=>Own ρ σ z∨z=a
def Bnd(H:Hp)(a:aY):Prop:=∃C dx fvs,H a=ZY (.ins C dx fvs)/\fvs.length < 1000
noncomputable def putA(f:Str)(x:D):List (Str×(Nat ⊕ D))->List (Str×(Nat ⊕ D))
 | []=>[]
 | (g,y)::r=>if g=f then (g,.inr x)::r else (g,y)::putA f x r
theorem ahe{f g:Str}{x:D}:∀{fs:List (Str×(Nat ⊕ D))},(fs.lookup f).isSome=ZW->(putA f x fs).lookup g=if g=f then ZY (.inr x) else fs.lookup g
 | [],h=>by cases h
 | (k,y)::r,h=>by
  unfold putA
  by_cases e:k=f
  ·subst e;rw[if_pos rfl]
   by_cases e2:g=k
   ·subst e2;rw[if_pos rfl,cI]
   ·have hb:(g==k)=ZV:=beq_eq_false_iff_ne.mpr e2;rw[if_neg e2];simp only[bN,hb]
  ·rw[if_neg e];have hb:(f==k)=ZV:=beq_eq_false_iff_ne.mpr (gR e);simp only[bN,hb] at h;have ih:=ahe (g:=g) (x:=x) h
   by_cases e2:g=k
   ·subst e2;rw[cI,cI,if_neg e]
   ·have hb2:(g==k)=ZV:=beq_eq_false_iff_ne.mpr e2;simp only[bN,hb2];exact ih
theorem akb{f:Str}{y v:V}:∀{fs:List (Str×V)},fs.lookup f=ZY v->(putF f y fs).length=fs.length
 | [],h=>by cases h
 | (k,x)::r,h=>by
  rw[show putF f y ((k,x)::r)=(if k=f then (k,y)::r else (k,x)::putF f y r) from rfl]
  by_cases e:k=f
  ·rw[if_pos e];rfl
  ·rw[if_neg e];have hb:(f==k)=ZV:=beq_eq_false_iff_ne.mpr (gR e);simp only[bN,hb] at h;rw[aX,aX,akb h]
section
variable{K:Fg9}{X:Cx}{tg:Nat->aY}{F H F1 H1:Hp}{ρ ρ1:Ro}{σ σ1:L2.St}{a:aY}
theorem Ext.oi(x:Ext (Own ρ σ) (Own ρ1 σ1) F H F1 H1):Ext (Oi ρ σ a) (Oi ρ1 σ1 a) F H F1 H1 :=
 ⟨x.sub,λz o e=>(x.new z o e).imp id λh=>h.imp id .inl,λz o e n=>x.keep z o e λw=>n (.inl w),λz w=>w.elim (λw=>(x.own z w).imp .inl id) λw=>.inl (.inr w),x.there⟩
theorem Good.noI(G:Good K tg F H ρ σ)(h:Bnd H a):¬Own ρ σ a:=λz=>by
 obtain⟨_,vs,hv⟩:=G.ownAt z;obtain⟨C,dx,fvs,e,_⟩:=h;rw[e] at hv;cases hv
theorem Bnd.step(h:Bnd H a)(G:Good K tg F H ρ σ)(x:Ext (Own ρ σ) (Own ρ1 σ1) F H F1 H1):Bnd H1 a:=by
 have n:=G.noI h;obtain⟨C,dx,fvs,e,l⟩:=h;exact⟨C,dx,fvs,x.keep a _ e n,l⟩
theorem Good.setBx(G:Good K tg F H ρ σ){i:Nat}{c f:Str}{fs:List (Str×(Nat ⊕ D))}{C dx:aY}{fvs:List (Str×V)}{d:D}{v:V}(ei:(ρ:List Sl)[i]? = ZY (.box c fs))(hb:(bB ρ i .emp).all ab1=ZW)(ea:σ[i]? = ZY (ZY (.ref a)))(hh:H a=ZY (.ins C dx fvs))(hf:(fs.lookup f).isSome=ZW)(hd:Is K F d v) :
  Good K tg F (L2.upd H a (.ins C dx (putF f v fvs))) (bB ρ i (.box c (putA f d fs))) σ/\∀z,Own (bB ρ i (.box c (putA f d fs))) σ z->Own ρ σ z:=by
 obtain⟨oi,hoi,a',C',dx',fvs',e',hF,hH,hn,h0,h1,h2⟩:=G.at ei;rw[ea] at hoi;cases hoi;cases e';rw[hh] at hH;cases hH;have hi:i < ρ.length:=(aQ.mp ei).1;have ow:∀j z,Owns (bB ρ i (.box c (putA f d fs))) σ j z->Owns ρ σ j z:=λj z ⟨⟨t,l,e⟩,q⟩=>by
  rw[bC] at e
  by_cases hj:i=j
  ·subst hj;rw[if_pos rfl,if_pos hi] at e;cases e
  ·rw[if_neg hj] at e;exact⟨⟨t,l,e⟩,q⟩
 refine⟨⟨λb u e =>?_,by rw[bW];exact G.len,λj s o e q =>?_,λj k z w w'=>G.inj j k z (ow j z w) (ow k z w')⟩,λz ⟨j,w⟩=>⟨j,ow j z w⟩⟩
 ·have hb:b≠a:=λz=>by subst z;rw[hF] at e;cases e
  rw[bf hb];exact G.sub b u e
 ·rw[bC] at e
  by_cases hj:i=j
  ·subst hj;rw[if_pos rfl,if_pos hi] at e;cases e;rw[ea] at q;cases q;refine⟨a,C,dx,_,rfl,hF,di,hn,λg hg =>?_,λg k hg =>?_,λg x hg =>?_⟩
   all_goals rw[ahe hf] at hg;rw[adn];by_cases eg:g=f
   ·rw[if_pos eg] at hg;cases hg
   ·rw[if_neg eg] at hg ⊢;exact h0 g hg
   ·rw[if_pos eg] at hg;cases hg
   ·rw[if_neg eg] at hg ⊢;exact h1 g k hg
   ·rw[if_pos eg] at hg ⊢;cases hg;exact⟨v,rfl,hd⟩
   ·rw[if_neg eg] at hg ⊢;exact h2 g x hg
  ·rw[if_neg hj] at e;have z:=G.sl j s o e q;cases s with
   | emp=>trivial
   | val _=>exact z
   | lol _=>exact z
   | lnk _=>exact z
   | box c' fs' =>
    have hm:(bB ρ i .emp)[j]? = ZY (.box c' fs'):=by rw[bC,if_neg hj];exact e
    exact absurd (cX.mp hb _ (cR hm)) (by simp[ab1])
   | own t l =>
    obtain⟨b,vs,e1,f1,e2,h3,ht⟩:=z;have hba:b≠a:=λz=>by subst z;rw[hh] at e2;cases e2
    exact⟨b,vs,e1,f1,by rw[bf hba];exact e2,h3,ht⟩
theorem av5{o:HO}(hw:∀z,Own ρ1 σ z->Own ρ σ z):Ext (Oi ρ σ a) (Oi ρ1 σ a) F H F (L2.upd H a o) where
 sub:=Same.refl F
 new:=λz u e=>.inl e
 keep:=λz u e n=>by rw[bf (λq=>n (.inr q))];exact e
 own:=λz w=>.inl (w.imp (hw z) id)
 there:=λz e=>by
  by_cases hz:z=a
  ·subst hz;rw[di] at e;cases e
  ·rw[bf hz] at e;exact e
def TSm(K:Fg9)(i:Nat)(g:Sd):TS:=λD σ H=>∃tg F ρ ρ' a,Good K tg F H ρ σ/\σ[i]? = ZY (ZY (.ref a))/\Bnd H a/\g ρ=ZY (.nx,ρ') /\
 ∀σ' H' F',Good K tg F' H' ρ' σ'->σ'[i]? = ZY (ZY (.ref a))->Bnd H' a->Ext (Oi ρ σ a) (Oi ρ' σ' a) F H F' H'->D.nx σ' H'
structure SM (K:Fg9) (X:Cx) (i:Nat) (st:gU) (g:Sd):Prop where
 go:X.K=K->PS X st (TSm K i g)
structure SMs (K:Fg9) (X:Cx) (i:Nat) (ss:List gU) (g:Sd):Prop where
 go:X.K=K->PSs X ss (TSm K i g)
end
section
variable{K:Fg9}{X:Cx}{e o c:dH}{st:gU}{ss:List gU}{pos p p2:Pos}{i j:Nat}{f cn x:Str}{g k:Sd}
theorem ao7{α:Type}{m:M α}{k:α->Sd}{ρ ρ':Ro}(h:dM m k ρ=ZY (.nx,ρ')):∃x ρ1,m ρ=ZY (.ok x,ρ1)/\k x ρ1=ZY (.nx,ρ'):=by
 unfold dM at h;split at h
 ·exact⟨_,_,by assumption,h⟩
 ·cases h
 ·cases h
theorem a0b{ρ ρ':Ro}(h:dSeq g k ρ=ZY (.nx,ρ')):∃ρ1,g ρ=ZY (.nx,ρ1)/\k ρ1=ZY (.nx,ρ'):=by
 unfold dSeq at h;split at h
 ·exact⟨_,by assumption,h⟩
 ·rename_i hn;exact absurd h (hn ρ')
theorem apo(h:SM K X i st g)(t:SMs K X i ss k):SMs K X i (st::ss) (dSeq g k):=SMs.mk λhk=>PSs.imp (ph (h.go hk) (t.go hk)) λE σ H z9=>by
 obtain⟨tg,F,ρ,ρ',a,G,ea,hB,em,q⟩:=z9;obtain⟨ρ1,e1,e2⟩:=a0b em;exact⟨tg,F,ρ,ρ1,a,G,ea,hB,e1,λσ' H' F' G' ea' hB' x=>⟨tg,F',ρ1,ρ',a,G',ea',hB',e2,λσ2 H2 F2 G2 ea2 hB2 x2=>q σ2 H2 F2 G2 ea2 hB2 (x.trans x2)⟩⟩
theorem anx(h:SM K X i st g):SMs K X i [st] g:=SMs.mk λhk=>akd (h.go hk)
def dFld(c:Str)(i:Nat)(f:Str)(m:M D):Sd:=dM m λd ρ=>match ρ[i]? with
 | some (.box c' fs)=>if c'=c/\(fs.lookup f).isSome=ZW/\(bB ρ i .emp).all ab1=ZW then ZY (.nx,bB ρ i (.box c (putA f d fs))) else ZX
 | _=>ZX
theorem a5v{m:M D}(hc:FldT K cn f)(h:EV K X e m)(ho:PE X o (tVar i))(hs:fY e (ZY (.Attribute o f p2)) pos.line X.env=pure ZV:=by rfl):SM K X i (.Assign [.Attribute o f p2] e pos) (dFld cn i f m):=SM.mk λhk=>by
 subst hk;refine PS.imp (a0i ho (h rfl) hs) λE σ H z9 =>?_
 obtain⟨tg,F,ρ,ρ',a,G,ea,hB,em,q⟩:=z9;obtain⟨d,ρ1,e1,em⟩:=ao7 em;split at em
 ·rename_i c' fs ei;split at em
  ·rename_i hz;obtain⟨rfl,hf,hb⟩:=hz;cases em;refine⟨tg,F,ρ,d,ρ1,G,e1,λv H1 F1 G1 x1 r1 =>?_⟩
   obtain⟨C,dx,fvs,hh,hlen⟩:=hB.step G x1;obtain⟨oi,hoi,a',C',dx',fvs',e',hF,hH,hn,h0,h1,h2⟩:=G1.at ei;rw[ea] at hoi;cases hoi;cases e';rw[hh] at hH;cases hH;obtain⟨k1,k2⟩:=hc C hn;obtain⟨G2,ow⟩:=G1.setBx ei hb ea hh hf r1;refine⟨_,ea,a,C,dx,fvs,rfl,hh,k1,k2,hlen,q _ _ _ G2 ea ⟨C,dx,_,di,?_⟩ (x1.oi.trans (av5 ow))⟩;have hv:∃w,fvs.lookup f=ZY w:=by
    cases hl:fs.lookup f with
    | none=>rw[hl] at hf;cases hf
    | some y =>
     cases y with
     | inl k=>exact⟨_,h1 f k hl⟩
     | inr d'=>obtain⟨w,hw,_⟩:=h2 f d' hl;exact⟨w,hw⟩
   obtain⟨w,hw⟩:=hv;rw[akb hw];exact hlen
  ·cases em
 ·cases em
def ak9(c:Str)(i:Nat)(f:Str)(m:M D):Sd:=dM (mFV c i f) λx=>dM m λy=>dM (lift ((asI x).bind λn=>(asI y).map λk=>D.int (n+k))) λz ρ=>match ρ[i]? with
 | some (.box c' fs)=>if c'=c/\(fs.lookup f).isSome=ZW/\(bB ρ i .emp).all ab1=ZW then ZY (.nx,bB ρ i (.box c (putA f z fs))) else ZX
 | _=>ZX
theorem bb4{tg:Nat->aY}{F H:Hp}{ρ ρ':Ro}{σ:L2.St}{a:aY}(G:Good K tg F H ρ σ){d:D}(ea:σ[i]? = ZY (ZY (.ref a)))(em:mFV cn i f ρ=ZY (.ok d,ρ')):ρ'=ρ/\∃C dx fvs v,H a=ZY (.ins C dx fvs)/\nsIn K bK cn=ZY (ZY (.ref C))/\fvs.lookup f=ZY v/\Is K F d v:=by
 unfold mFV at em;split at em
 ·rename_i c' fs ei;split at em
  ·rename_i hz;subst hz;split at em
   ·rename_i d' hd;cases em;obtain⟨oi,hoi,a',C,dx,fvs,rfl,hf,hh,hn,_,_,h2⟩:=G.at ei;rw[ea] at hoi;cases hoi;obtain⟨v,hv,iv⟩:=h2 f _ hd;exact⟨rfl,C,dx,fvs,v,hh,hn,hv,iv⟩
   ·cases em
  ·cases em
 ·cases em
theorem atr{m:M D}(hc:FldT K cn f)(h:EV K X e m)(ho:PE X o (tVar i)):SM K X i (.AugAssign (.Attribute o f p2) .Add e pos) (ak9 cn i f m):=SM.mk λhk=>by
 subst hk;refine PS.imp (auh ho (h rfl) a8d) λE σ H z9 =>?_
 obtain⟨tg,F,ρ,ρ',a,G,ea,hB,em,q⟩:=z9;obtain⟨x,ρ1,e1,em1⟩:=ao7 em;obtain⟨y,ρ2,e2,em2⟩:=ao7 em1;obtain⟨z,ρ3,e3,em3⟩:=ao7 em2
 clear em em1 em2
 obtain⟨e4,rfl⟩:=fu e3;obtain⟨rfl,C,dx,fvs,v,hh,hn,hv,iv⟩:=bb4 G ea e1;obtain⟨k1,k2⟩:=hc C hn;split at em3
 ·rename_i c' fs ei;split at em3
  ·rename_i hz;obtain⟨rfl,hf,hb⟩:=hz;cases em3;cases ed:asI x with
   | none=>rw[ed] at e4;cases e4
   | some n =>
    rw[ed] at e4;obtain rfl:=ae5 ed;cases iv;cases ed2:asI y with
    | none=>rw[ed2] at e4;cases e4
    | some k =>
     rw[ed2] at e4;obtain rfl:=ae5 ed2;cases e4;refine⟨_,ea,a,C,dx,fvs,_,rfl,hh,k1,k2,hv,tg,F,_,_,_,G,e2,λw H1 F1 G1 x1 r1 =>?_⟩
     cases r1;refine⟨n,k,rfl,rfl,?_⟩;have hB1:=hB.step G x1;have hkeep:=x1.keep a _ hh (G.noI hB);obtain⟨C9,dx9,fvs9,hh9,hlen⟩:=hB1;rw[hkeep] at hh9;cases hh9;obtain⟨G2,ow⟩:=G1.setBx ei hb ea hkeep hf (Is.int (n+k));refine⟨dx,fvs,hkeep,hlen,q _ _ _ G2 ea ⟨C,dx,_,di,?_⟩ (x1.oi.trans (av5 ow))⟩;rw[akb hv];exact hlen
  ·cases em3
 ·cases em3
theorem a0a{m:M Rv}(hij:j≠i)(hN:X.N.Nodup)(hj:X.N[j]? = ZY x)(hx:Loc X.env.scope x)(h:ER K X e m)(hs:fY e (ZY (.Name x p)) pos.line X.env=pure ZV:=by rfl)(hf:X.fn x=ZW∨X.env.scope.names.lookup x=ZY .local:=by first | exact .inl rfl | exact .inr rfl | assumption) :
  SM K X i (.Assign [.Name x p] e pos) (dSet j m):=SM.mk λhk=>PS.imp (ag0 hN hj hx (h hk) hs hf) λE σ H z9=>by
 obtain⟨tg,F,ρ,ρ',a,G,ea,hB,em,q⟩:=z9;obtain⟨r,ρ1,e1,em⟩:=ao7 em;cases em;refine⟨tg,F,ρ,r,ρ1,G,e1,λv H' F' G' x rr =>?_⟩
 obtain⟨G2,x2⟩:=G'.store x j rr;exact q _ H' F' G2 (by rw[bC,if_neg hij];exact ea) (hB.step G x) x2.oi
noncomputable def af7(g:Sd):Sd:=λρ=>match g ρ with
 | some (.nx,ρ')=>ZY (.nx,ρ')
 | _=>ZX
theorem ak8{ρ ρ':Ro}{fl:Fl}(h:af7 g ρ=ZY (fl,ρ')):fl=.nx/\g ρ=ZY (.nx,ρ'):=by
 unfold af7 at h;split at h
 ·rename_i ρ1 e;cases h;exact⟨rfl,e⟩
 ·cases h
theorem apq{m:M Bool}(n:Nat)(hp:pP (cA X.prog X.w) X.A X.env X.xe)(hc:ET K X c m)(hb:SMs K X i ss g):SM K X i (.While c ss [] pos) (whileD m (af7 g) n):=SM.mk λhk=>PS.imp (ake hp (hc hk) (hb.go hk)) λE σ H z9=>by
 obtain⟨tg,F,ρ,ρ',a,G,ea,hB,em,q⟩:=z9;refine⟨λk σ2 H2=>∃F2 ρ2,Good K tg F2 H2 ρ2 σ2/\σ2[i]? = ZY (ZY (.ref a))/\Bnd H2 a/\Ext (Oi ρ σ a) (Oi ρ2 σ2 a) F H F2 H2/\whileD m (af7 g) k ρ2=ZY (.nx,ρ'),⟨n,F,ρ,G,ea,hB,Ext.refl _ _ _,em⟩,?_⟩
 rintro k σ2 H2 ⟨F2,ρ2,G2,ea2,hB2,x2,em2⟩
 cases k with
 | zero=>cases em2
 | succ k =>
  unfold whileD at em2;split at em2
  ·rename_i ρ3 e3;refine⟨tg,F2,ρ2,ZW,ρ3,G2,e3,λH3 F3 G3 x3=>iteT ?_⟩
   refine⟨λσ' H'=>∃F2 ρ2,Good K tg F2 H' ρ2 σ'/\σ'[i]? = ZY (ZY (.ref a))/\Bnd H' a/\Ext (Oi ρ σ a) (Oi ρ2 σ' a) F H F2 H'/\whileD m (af7 g) k ρ2=ZY (.nx,ρ'),λσ' H' h=>⟨k,jH k,h⟩,?_⟩
   have hB3:=hB2.step G2 x3;split at em2
   ·rename_i ρ4 e4;exact⟨tg,F3,ρ3,ρ4,a,G3,ea2,hB3,(ak8 e4).2,λσ' H' F' G' ea' hB' x'=>⟨F',ρ4,G',ea',hB',(x2.trans x3.oi).trans x',em2⟩⟩
   ·rename_i ρ4 e4;cases(ak8 e4).1
   ·rename_i ρ4 e4;cases(ak8 e4).1
   ·cases em2
   ·cases em2
   ·cases em2
  ·rename_i ρ3 e3;cases em2;exact⟨tg,F2,ρ2,ZV,_,G2,e3,λH3 F3 G3 x3=>iteF (q σ2 H3 F3 G3 ea2 (hB2.step G2 x3) (x2.trans x3.oi))⟩
  ·cases em2
  ·cases em2
end
def ato(K:Fg9)(n nl:Nat)(g:Sd):Sp:=λvs H Q _=>vs.length=n/\∃b a F as ρ',vs[0]? = ZY (.ref a)/\Bnd H a/\Good K (tgOf ((vs++[V.ref b]).map ZY)) F H as ((vs++[V.ref b]).map ZY)/\g (as++aP (nl - (n+1)) .emp)=ZY (.nx,ρ') /\
 ∀σ' H' F',Good K (tgOf ((vs++[V.ref b]).map ZY)) F' H' ρ' σ'->σ'[0]? = ZY (ZY (.ref a))->Bnd H' a->Ext (Oi as ((vs++[V.ref b]).map ZY) a) (Oi ρ' σ' a) F H F' H'->Q .non H'
theorem a8l{K:Fg9}{P:cG}{w:dZ}{mg:Str->Option aH}{base:fH}{x qual:Str}{st:gU}{f:aY}{fd:gB}{N ps:List Str}{k nl np:Nat}{g:Sd}(F:Fun K x qual st f fd)(S:FnScope N ps (aa st))(h1:N.length=nl)(h2:ps.length=np)(hN:np+1<=nl)(h0:0 < np)
  (hgh:∀y∈(N.drop np).take 1,(aa st).names.lookup y=ZX)
  (body:∀(cdv:aH) (A:eG) (outer:List Env) (s:aO) (H:Hp) (E:XK),Room k (A.deeper (oH qual (aa st) s.heap.objs.size f cdv))->SMs K (cxOf CX0 P w K mg base N qual (aa st) f cdv A outer s H E).nox 0 (iu st) g) :
  FnOk P w K mg base CX0 (k+1) f fd ps (ato K np nl g):=by
 subst h1 h2;refine F.ok S (λvs H Q E h=>h.1) (λcdv A outer s H vs Q E hr h=>⟨_,auf ((body cdv A outer s H E hr).go rfl),?_⟩)
 obtain⟨hn,b,a,F,as,ρ',hv0,hB,G,em,q⟩:=h;have hl:as.length=((vs++[V.ref b]).map ZY).length:=G.len;have hlen:(vs++[V.ref b]).length=ps.length+1:=by rw[cP,hn];rfl
 have G1:=G.app (N.length - (ps.length+1));refine⟨(vs++[V.ref b]).map ZY++aP (N.length - (ps.length+1)) ZX,⟨?_,?_⟩,?_⟩
 ·show _=(vs.map ZY++aP (N.length - vs.length) ZX).length;rw[cP,cP,aK,aK,jL,jL,hlen];omega
 ·intro i y v ei ev vis;show(vs.map ZY++aP (N.length - vs.length) ZX)[i]? = ZY (ZY v)
  by_cases q1:i < vs.length
  ·rw[bF (by rw[aK];exact q1)]
   rw[bF (by rw[aK,hlen];omega),aN,bF q1] at ev
   rw[aN];exact ev
  ·exfalso
   by_cases q2:i < ps.length+1
   ·have hm:y∈(N.drop ps.length).take 1:=by
     refine cR (i:=i - ps.length) ?_;rw[kO (by omega),List.getElem?_drop,show ps.length+(i - ps.length)=i by omega]
     exact ei
    have z:=hgh y hm;rcases vis with v | v | v
    ·rw[show((cxOf CX0 P w K mg base N qual (aa st) f cdv A outer s H E).nox).env.scope=aa st from rfl,z] at v;cases v
    ·rw[show((cxOf CX0 P w K mg base N qual (aa st) f cdv A outer s H E).nox).env.scope=aa st from rfl,z] at v;cases v
    ·rw[show((cxOf CX0 P w K mg base N qual (aa st) f cdv A outer s H E).nox).env.scope=aa st from rfl,z] at v;cases v
   ·rw[dI (by rw[aK,hlen];omega),gG] at ev
    split at ev <;> cases ev
 have oe:∀z,Oi (as++aP (N.length - (ps.length+1)) .emp) ((vs++[V.ref b]).map ZY++aP (N.length - (ps.length+1)) ZX) z=Oi as ((vs++[V.ref b]).map ZY) z:=λz=>by
  unfold Oi;rw[aam hl]
 refine⟨_,F,_,ρ',a,G1,?_,hB,em,λσ' H' F' G' ea hB' x' =>?_⟩
 ·have hlt:0 < vs.length:=(aQ.mp hv0).1;rw[bF (by rw[aK,hlen];omega),aN,bF hlt,hv0]
  rfl
 ·rw[oe] at x';exact q σ' H' F' G' ea hB' x'
def rt1(k:Nat):Nat ⊕ D->Nat ⊕ D
 | .inl _=>.inl k
 | .inr d=>.inr d
def rtg(k:Nat)(fs:List (Str×(Nat ⊕ D))):List (Str×(Nat ⊕ D)):=fs.map λp=>(p.1,rt1 k p.2)
theorem afm{k:Nat}{f:Str}:∀{fs:List (Str×(Nat ⊕ D))},(rtg k fs).lookup f=(fs.lookup f).map (rt1 k)
 | []=>rfl
 | (g,y)::r=>by
  unfold rtg;rw[aG]
  by_cases e:f=g
  ·subst e;rw[cI,cI];rfl
  ·have hb:(f==g)=ZV:=beq_eq_false_iff_ne.mpr e;simp only[bN,hb];exact afm
def inlB(k:Nat)(fs:List (Str×(Nat ⊕ D))):Bool:=fs.all λp=>match p.2 with
 | .inl k'=>k'==k
 | .inr _=>ZW
theorem avm{k k':Nat}{f:Str}:∀{fs:List (Str×(Nat ⊕ D))},inlB k fs=ZW->fs.lookup f=ZY (.inl k')->k'=k
 | [],_,h=>by cases h
 | (g,y)::r,hb,h=>by
  unfold inlB at hb;rw[lE,bL] at hb
  by_cases e:f=g
  ·subst e;rw[cI] at h;cases h;exact beq_iff_eq.mp hb.1
  ·have he:(f==g)=ZV:=beq_eq_false_iff_ne.mpr e;simp only[bN,he] at h;exact avm hb.2 h
section
variable{K:Fg9}{tg tg1:Nat->aY}{F H:Hp}{c:Str}{fs:List (Str×(Nat ⊕ D))}{k k1:Nat}{o:Option V}
theorem SlOk.rtg(h:SlOk K tg F H (.box c fs) o)(hk:inlB k fs=ZW)(ht:tg1 k1=tg k):SlOk K tg1 F H (.box c (rtg k1 fs)) o:=by
 obtain⟨a,C,dx,fvs,e1,e2,e3,e4,e7,e5,e6⟩:=h;refine⟨a,C,dx,fvs,e1,e2,e3,e4,λf hf =>?_,λf k' hf =>?_,λf d hf =>?_⟩
 all_goals rw[afm] at hf
 ·exact e7 f (uD.mp hf)
 ·obtain⟨y,hy,hz⟩:=cZ.mp hf;cases y with
  | inl k2 =>
   cases hz;rw[e5 f k2 hy,avm hk hy,ht]
  | inr d=>cases hz
 ·obtain⟨y,hy,hz⟩:=cZ.mp hf;cases y with
  | inl k2=>cases hz
  | inr d' =>
   cases hz;exact e6 f _ hy
end
def ao6(c m:Str)(i j nl:Nat)(g:Sd)(me:M D):Sd:=dM (mIsB c i m) λ_=>dM me λd ρ=>match (ρ:List Sl)[i]?,(ρ:List Sl)[j]? with
 | some (.box c' fs),ZY (.own (ZY k) l)=>if c'=c/\inlB k fs=ZW/\(bB ρ i .emp).all ab1=ZW/\i≠j then
   match g ([.box c (rtg 2 fs),.val d,.own (ZY 2) l]++aP (nl - 3) .emp) with
   | some (.nx,ρ2)=>match (ρ2:List Sl)[(0:Nat)]?,(ρ2:List Sl)[(2:Nat)]? with
    | some (Sl.box c2 fs2),ZY (Sl.own (ZY 2) l2)=>if c2=c/\inlB 2 fs2=ZW then ZY (.nx,bB (bB ρ i (.box c (rtg k fs2))) j (.own (ZY k) l2)) else ZX
    | _,_=>ZX
   | _=>ZX
  else ZX
 | _,_=>ZX
section
variable{K:Fg9}{X:Cx}{e o:dH}{pos p2 apos:Pos}{i j:Nat}{cn m:Str}{g:Sd}
theorem ati{τ:L2.St}{c:Str}{fs:List (Str×(Nat ⊕ D))}{d:D}{l:List D}{b z:aY}{t:Option Nat}(hτ:τ[2]? = ZY (ZY (V.ref b)))(h:Own [.box c fs,.val d,.own t l] τ z):z=b:=by
 obtain⟨n,⟨t,l,e⟩,q⟩:=h
 match n,e,q with
 | 0,e,_=>cases e
 | 1,e,_=>cases e
 | 2,_,q=>rw[hτ] at q;cases q;rfl
 | n+3,e,_=>simp at e
theorem arx{tg:Nat->aY}{F H:Hp}{c:Str}{fs:List (Str×(Nat ⊕ D))}{d:D}{l:List D}{a b:aY}{v:V}{ws:List V}(g:Same F H)(h0:SlOk K tg F H (.box c fs) (ZY (.ref a)))(h1:Is K F d v)(hf:F b=ZX)(hh:H b=ZY (.lst ws))(hl:IsL K F l ws)(ht:tg 2=b) :
  Good K tg F H [.box c fs,.val d,.own (ZY 2) l] [ZY (V.ref a),ZY v,ZY (V.ref b)]:=⟨g,rfl,λn s o e q=>by
 match n,e,q with
 | 0,e,q=>cases e;cases q;exact h0
 | 1,e,q=>cases e;cases q;exact⟨v,rfl,h1⟩
 | 2,e,q =>
  cases e;cases q;exact⟨b,ws,rfl,hf,hh,hl,λk ek=>by cases ek;exact ht⟩
 | n+3,e,_=>simp at e,λn n' z ⟨⟨t,l1,e⟩,q⟩ ⟨⟨t',l2,e'⟩,q'⟩=>by
 match n,n',e,e' with
 | 0,_,e,_=>cases e
 | 1,_,e,_=>cases e
 | 2,0,_,e'=>cases e'
 | 2,1,_,e'=>cases e'
 | 2,2,_,_=>rfl
 | 2,n'+3,_,e'=>simp at e'
 | n+3,_,e,_=>simp at e⟩
theorem auz{tg:Nat->aY}{F H F' H':Hp}{ρ:Ro}{σ:L2.St}{c:Str}{fs fs2:List (Str×(Nat ⊕ D))}{k:Nat}{l l2:List D}{a b:aY}{ws:List V}{O O':aY->Prop}(G:Good K tg F H ρ σ)(hB:Bnd H a)(ea:σ[i]? = ZY (ZY (.ref a)))(ei:(ρ:List Sl)[i]? = ZY (.box c fs))(ej:(ρ:List Sl)[j]? = ZY (.own (ZY k) l))(hij:i≠j)(hb:(bB ρ i .emp).all ab1=ZW)(eb:σ[j]? = ZY (ZY (.ref b)))
  (hO:∀z,O z->z=b∨z=a) (x:Ext O O' F H F' H') (s':Same F' H') (hbx:SlOk K tg F' H' (.box c fs2) (ZY (.ref a))) (hf:F' b=ZX) (hh:H' b=ZY (.lst ws)) (hl:IsL K F' l2 ws) :
  Good K tg F' H' (bB (bB ρ i (.box c fs2)) j (.own (ZY k) l2)) σ/\Ext (Oi ρ σ a) (Oi (bB (bB ρ i (.box c fs2)) j (.own (ZY k) l2)) σ a) F H F' H':=by
 have hi:i < ρ.length:=(aQ.mp ei).1;have hj:j < ρ.length:=(aQ.mp ej).1;obtain⟨oj,hoj,b',ws0,rfl,hf0,hh0,hl0,ht0⟩:=G.at ej;rw[eb] at hoj;cases hoj;have gs:∀n,(bB (bB ρ i (.box c fs2)) j (.own (ZY k) l2))[n]? = if j=n then ZY (.own (ZY k) l2) else if i=n then ZY (.box c fs2) else (ρ:List Sl)[n]? := λn=>by
  rw[bC,bW,bC]
  by_cases q1:j=n
  ·subst q1;rw[if_pos rfl,if_pos rfl,if_pos hj]
  ·rw[if_neg q1,if_neg q1]
   by_cases q2:i=n
   ·subst q2;rw[if_pos rfl,if_pos rfl,if_pos hi]
   ·rw[if_neg q2,if_neg q2]
 have ow:∀n z,Owns (bB (bB ρ i (.box c fs2)) j (.own (ZY k) l2)) σ n z->Owns ρ σ n z:=λn z ⟨⟨t,l',e⟩,q⟩=>by
  rw[gs] at e
  by_cases q1:j=n
  ·subst q1;exact⟨⟨_,_,ej⟩,q⟩
  ·rw[if_neg q1] at e
   by_cases q2:i=n
   ·subst q2;rw[if_pos rfl] at e;cases e
   ·rw[if_neg q2] at e;exact⟨⟨t,l',e⟩,q⟩
 refine⟨⟨s',by rw[bW,bW];exact G.len,λn s o e q =>?_,λn n' z w w'=>G.inj n n' z (ow n z w) (ow n' z w')⟩,x.sub,λz o e =>?_,λz o e n=>x.keep z o e λw =>?_,λz w=>.inl (w.imp (λ⟨n,w⟩=>⟨n,ow n z w⟩) id),x.there⟩
 ·rw[gs] at e
  by_cases q1:j=n
  ·subst q1;rw[if_pos rfl] at e;cases e;rw[eb] at q;cases q;exact⟨b,ws,rfl,hf,hh,hl,λk' ek=>by cases ek;exact ht0 k rfl⟩
  ·rw[if_neg q1] at e
   by_cases q2:i=n
   ·subst q2;rw[if_pos rfl] at e;cases e;rw[ea] at q;cases q;exact hbx
   ·rw[if_neg q2] at e;have z:=G.sl n s o e q;cases s with
    | emp=>trivial
    | val d =>
     obtain⟨v,h1,h2⟩:=z;exact⟨v,h1,h2.mono x.sub⟩
    | lol ts =>
     obtain⟨a2,h1,h2⟩:=z;exact⟨a2,h1,x.sub _ _ h2⟩
    | lnk k2=>exact z
    | box c' fs' =>
     have hm:(bB ρ i .emp)[n]? = ZY (.box c' fs'):=by rw[bC,if_neg q2];exact e
     exact absurd (cX.mp hb _ (cR hm)) (by simp[ab1])
    | own t l' =>
     obtain⟨a2,vs,rfl,hf2,hh2,hl2,ht2⟩:=z;have no:¬O a2:=λw=>by
      rcases hO a2 w with w | w
      ·subst w;exact q1 (G.inj j n _ ⟨⟨_,_,ej⟩,eb⟩ ⟨⟨_,_,e⟩,q⟩)
      ·subst w;obtain⟨C,dx,fvs,hc,_⟩:=hB;rw[hc] at hh2;cases hh2
     refine⟨a2,vs,rfl,?_,x.keep a2 _ hh2 no,hl2.mono x.sub,ht2⟩;cases z:F' a2 with
     | none=>rfl
     | some u =>
      rcases x.new a2 u z with z | z | z
      ·rw[hf2] at z;cases z
      ·rw[hh2] at z;cases z
      ·exact absurd z no
 ·rcases x.new z o e with w | w | w
  ·exact .inl w
  ·exact .inr (.inl w)
  ·rcases hO z w with w | w
   ·subst w;exact .inr (.inr (.inl ⟨j,⟨_,_,ej⟩,eb⟩))
   ·exact .inr (.inr (.inr w))
 ·rcases hO z w with w | w
  ·subst w;exact n (.inl ⟨j,⟨_,_,ej⟩,eb⟩)
  ·exact n (.inr w)
theorem atq{me:M D}{ps:List Str}{kk nl:Nat}(Dm:DfnM X.prog X.w X.K X.mg X.base cn m ps kk (ato K 2 nl g))(hr:Room kk X.A)(ho:PE X o (tVar i))(h:EV K X e me){pl:Sem Bool}
  (hst:bA [e] X.env=(ZV,eval e X.env)::bA [] X.env:=by rfl) (hpl:(jG pos (bA [] X.env)).any (·.1)=ZV:=by rfl)
  (ht:eval (.Call (.Attribute o m apos) [e] [] pos) X.env=(do
   let ov <-eval o X.env
   standAt apos.atName
   let (f,first) <-kW [ov] (getMethod ov m pl)
   callWith pos f first (jG pos (bA [e] X.env)) (backToKw pos (keywordEach [] X.env))):=by rfl)
  (hs:fY (.Call (.Attribute o m apos) [e] [] pos) ZX p2.line X.env=pure ZV:=by rfl) :
  SM K X i (.Expr (.Call (.Attribute o m apos) [e] [] pos) p2) (ao6 cn m i j nl g me):=SM.mk λhk=>by
 obtain⟨C,fa,fd,hC,hcl,hme,hF,hB⟩:=Dm.ex;refine PS.imp (aoc (a2k (pl:=pl) ho hcl hme hF hr hB .nil a2s (aa6 (h hk) alx hst) hst hpl ht) hs) λE σ H z9 =>?_
 obtain⟨tg,F,ρ,ρ',a,G,ea,hBn,em,q⟩:=z9;obtain⟨fs0,ρ0,e0,em0⟩:=ao7 em;obtain⟨d,ρ1,e1,em1⟩:=ao7 em0
 clear em em0
 subst hk;obtain⟨rfl,_,a0,C0,dx0,fvs0,z1,z2,z3,z4,z5,z6,z7,z8⟩:=a8c G e0;rw[ea] at z1;cases z1;rw[hC] at z4;cases z4;split at em1
 ·rename_i c' fs k l ei ej;split at em1
  ·rename_i hz;obtain⟨rfl,hik,hb,hij⟩:=hz;split at em1
   ·rename_i ρ2 e2;split at em1
    ·rename_i c2 fs2 l2 e3 e4;split at em1
     ·rename_i hz2;obtain⟨rfl,hik2⟩:=hz2;cases em1;refine⟨_,ea,a,dx0,fvs0,rfl,z3,z6,tg,F,ρ0,d,ρ1,G,e1,λv H1 F1 G1 x1 r1 =>?_⟩
      obtain⟨oi,hoi,hbx⟩:=G1.at ei;rw[ea] at hoi;cases hoi;obtain⟨oj,hoj,b,ws,rfl,hfb,hhb,hlb,htb⟩:=G1.at ej;have hB1:=hBn.step G x1;refine⟨rfl,b,a,F1,_,ρ2,rfl,hB1,arx G1.sub (SlOk.rtg (k1:=2) hbx hik (htb k rfl).symm) r1 hfb hhb hlb rfl,e2,λσ' H' F' G' ea' hB' x' =>?_⟩
      obtain⟨o0,ho0,hbx'⟩:=G'.at e3;rw[ea'] at ho0;cases ho0;obtain⟨o2,ho2,b2,ws2,rfl,hf2,hh2,hl2,ht2⟩:=G'.at e4;have hb2:b=b2:=ht2 2 rfl;subst hb2;obtain⟨G3,x3⟩:=auz (fs2:=rtg k fs2) (O:=Oi _ _ a) G1 hB1 ea ei ej hij hb hoj (λz w=>w.imp (λw=>ati rfl w) id) x' G'.sub (hbx'.rtg hik2 (htb k rfl)) hf2 hh2 hl2
      exact q σ H' F' G3 ea hB' (x1.oi.trans x3)
     ·cases em1
    ·cases em1
   ·cases em1
  ·cases em1
 ·cases em1
end
abbrev BF:=List (Str×(Nat ⊕ D))
def az4(K:Fg9)(F H:Hp)(c:Str)(fs:BF)(l:List D)(a b:aY):Prop:=SlOk K (λ_=>b) F H (.box c fs) (ZY (.ref a))/\Bnd H a/\F b=ZX/\∃vs,H b=ZY (.lst vs)/\IsL K F l vs
abbrev MS:=Ro->Option ((BF×List D)×Ro)
def TEs(K:Fg9)(c:Str)(m:MS):TE:=λσ H Q=>∃tg F ρ fs l ρ1,Good K tg F H ρ σ/\m ρ=ZY ((fs,l),ρ1) /\
 ∀a b H' F',Good K tg F' H' ρ1 σ->Ext (Own ρ σ) (Own ρ1 σ) F H F' H'->H a=ZX->(Own ρ σ b∨H b=ZX)->¬Own ρ1 σ b->az4 K F' H' c fs l a b->Q (.ref a) H'
structure ES (K:Fg9) (X:Cx) (c:Str) (e:dH) (m:MS):Prop where
 go:X.K=K->PE X e (TEs K c m)
def frs:List (Str×Rv)->List (List D)
 | []=>[]
 | (_,.fr l)::r=>l::frs r
 | (_,.v _)::r=>frs r
 | (_,.tf _ _)::r=>frs r
section
variable{K:Fg9}{X:Cx}{tg tg1:Nat->aY}{F H F1 H1:Hp}{O:aY->Prop}{ρ ρ1:Ro}{σ:L2.St}
theorem FdR.lens{rs:List (Str×Rv)}{fvs:List (Str×V)}{A:List aY}(h:FdR K F H O rs fvs A):fvs.length=rs.length:=by
 induction h with
 | nil=>rfl
 | v h t ih=>rw[aX,aX,ih]
 | fr hf hn hh h ne t ih=>rw[aX,aX,ih]
theorem FdR.zero{rs:List (Str×Rv)}{fvs:List (Str×V)}{A:List aY}(h:FdR K F H O rs fvs A):frs rs=[]->A=[]:=by
 induction h with
 | nil=>exact λ_=>rfl
 | v h t ih=>exact ih
 | fr hf hn hh h ne t ih=>exact λz=>by cases z
theorem FdR.one{rs:List (Str×Rv)}{fvs:List (Str×V)}{A:List aY}{l:List D}(h:FdR K F H O rs fvs A):frs rs=[l]->∃b,A=[b]/\F b=ZX/\∃ws,H b=ZY (.lst ws)/\IsL K F l ws:=by
 induction h with
 | nil=>exact λz=>by cases z
 | v h t ih=>exact ih
 | @fr f l' e ws rs fvs A hf hn hh h ne t ih =>
  intro z;have z:l'::frs rs=[l]:=z;obtain⟨rfl,z2⟩:=List.cons.inj z;obtain rfl:=t.zero z2;exact⟨e,rfl,hf,ws,hh,h⟩
theorem SlOk.rtgC{c:Str}{fs:BF}{o:Option V}{k1:Nat}{b:aY}(h:SlOk K (λ_=>b) F H (.box c fs) o)(ht:tg1 k1=b):SlOk K tg1 F H (.box c (Dn.rtg k1 fs)) o:=by
 obtain⟨a,C,dx,fvs,e1,e2,e3,e4,e7,e5,e6⟩:=h;refine⟨a,C,dx,fvs,e1,e2,e3,e4,λf hf =>?_,λf k' hf =>?_,λf d hf =>?_⟩
 all_goals rw[afm] at hf
 ·exact e7 f (uD.mp hf)
 ·obtain⟨y,hy,hz⟩:=cZ.mp hf;cases y with
  | inl k2 =>
   cases hz;rw[e5 f k2 hy,ht]
  | inr d=>cases hz
 ·obtain⟨y,hy,hz⟩:=cZ.mp hf;cases y with
  | inl k2=>cases hz
  | inr d' =>
   cases hz;exact e6 f _ hy
theorem SlOk.cst{c:Str}{fs:BF}{o:Option V}{k:Nat}{b:aY}(h:SlOk K tg F H (.box c fs) o)(hk:inlB k fs=ZW)(ht:tg k=b):SlOk K (λ_=>b) F H (.box c fs) o:=by
 obtain⟨a,C,dx,fvs,e1,e2,e3,e4,e7,e5,e6⟩:=h;refine⟨a,C,dx,fvs,e1,e2,e3,e4,e7,λf k' hf =>?_,e6⟩
 rw[e5 f k' hf,avm hk hf,ht]
end
def au0(n nl:Nat)(fms:List (Str×M Rv))(js:List (Option Nat))(ms:M (List (Option D))):MS:=λρ=>match ms ρ with
 | some (.ok ds,ρ1)=>if okJs ρ1 (ZX::js)=ZW then match iniD fms (lend ρ1 (ZX::js) (ZX::ds)++aP (nl - n) .emp) with
  | some (rs,ρc)=>match frs rs with
   | [l]=>if rs.length < 1000 then ZY ((mkFs rs 0,l),putB ρ1 (ZX::js) (ρc.take n)) else ZX
   | _=>ZX
  | none=>ZX
  else ZX
 | _=>ZX
section
variable{K:Fg9}{X:Cx}{e:dH}{es:List dH}{p p2 pos pos2:Pos}{x c:Str}{i j kk n nl:Nat}{fms:List (Str×M Rv)}{ps:List Str}{js:List (Option Nat)}{ms:M (List (Option D))}
theorem a8q(D:DfnI X.prog X.w X.K X.mg X.base c ps kk (ar3 K n nl fms))(hr:Room (kk+1) X.A)(hgl:Gl X c)(ha:EG K X (e::es) js ms)(hn:1+js.length=n:=by rfl)
  (hdb:(c==("__debug__" : Str))=ZV:=by decide) (he:bA (e::es) X.env=(ZV,eval e X.env)::bA es X.env:=by rfl) (hpl:(jG pos (bA es X.env)).any (·.1)=ZV:=by rfl) :
  ES K X c (.Call (.Name c p2) (e::es) [] pos) (au0 n nl fms js ms):=ES.mk λhk=>by
 obtain⟨C,fa,fd,hC,hmg,hM,hF,hB⟩:=D.ex;subst hk;refine PE.imp (a2l hM hF hr hgl hmg hB .nil a2s (ha rfl) hdb he hpl) λσ H Q z9 =>?_
 obtain⟨tg,F,ρ,fs,l,ρ9,G,em,q⟩:=z9;unfold au0 at em;split at em
 ·rename_i ds ρ1 e1;split at em
  ·rename_i hj;split at em
   ·rename_i rs ρc e2;split at em
    ·rename_i l' hfr;split at em
     ·rename_i hlen;cases em;refine⟨tg,F,ρ,ds,ρ1,G,e1,λvs H1 F1 G1 x1 ar x0 dx hx0 hdx hne =>?_⟩
      have vl:=ar.length;have L:Lent X.K F1 σ ((V.ref x0::vs).map ZY) (ZX::js) (ZX::ds):=by
       have:=a3j (a:=x0) (gs:=[]) (gv:=[]) ar rfl (λn j v h=>by simp at h)
       simpa using this
      have hx1:(upd H1 dx (.own x0)) x0=ZX:=by rw[bf (gR hne)];exact hx0
      have G2:=(G1.fresh hdx (.own x0)).fresh hx1 (.ins C dx []);have Gl:=aei G2 hj L;show ar3 X.K n nl fms C (V.ref x0::(vs++[])) _ _ E0;rw[lD];refine⟨by rw[aX,vl];omega,x0,dx,F1,_,rs,ρc,rfl,di,G1.freeF hx0,Gl,e2,λH' F' fvs A O' s' g1 g2 g3 g4 fin=>⟨rfl,?_⟩⟩
      have y:Ext (Own (lend ρ1 (ZX::js) (ZX::ds)) ((V.ref x0::vs).map ZY)) (λz=>O' z∨z=x0∨z∈A) F1 H1 F' H':=by
       have up:∀z o,H1 z=ZY o->(upd (upd H1 dx (.own x0)) x0 (.ins C dx [])) z=ZY o:=λz o hz=>by
        rw[bf (gj hz hx0),bf (gj hz hdx)];exact hz
       have dn:∀z,(upd (upd H1 dx (.own x0)) x0 (.ins C dx [])) z=ZX->H1 z=ZX:=λz hz=>by
        cases q:H1 z with
        | none=>rfl
        | some o=>rw[up z o q] at hz;cases hz
       refine⟨g4.sub,λz o hz =>?_,λz o hz nz =>?_,λz hz =>?_,λz hz=>dn z (g4.there z hz)⟩
       ·rcases g4.new z o hz with w | w | w | w
        ·exact .inl w
        ·exact .inr (.inl (dn z w))
        ·exact .inr (.inr w)
        ·subst w;rw[g2] at hz;cases hz
       ·exact g4.keep z o (up z o hz) λw=>w.elim nz λw=>by subst w;rw[hx0] at hz;cases hz
       ·rcases g4.own z hz with(w | w) | w
        ·exact .inl w
        ·subst w;exact .inr hx0
        ·exact .inr (dn z w)
      have fin':=fin.mono (O':=λz=>O' z∨z=x0∨z∈A) λz hz=>.inl hz
      have Gb:=aic G1 L y s' fin';have xb:=alc (ps:=ρc.take n) G1 L y;obtain⟨b,rfl,hfb,ws,hhb,hlb⟩:=g3.one hfr;have hA:¬Own (putB ρ1 (ZX::js) (ρc.take n)) σ b/\(Own ρ1 σ b∨H1 b=ZX):=by
       obtain⟨o1,o2,ws',o3,l3,o4⟩:=g3.out b (aF ..);have w:=y.own b (.inr (.inr (aF ..)));have rr:relR X.K (.fr l3) (.ref b) H1 (Own (lend ρ1 (ZX::js) (ZX::ds)) ((V.ref x0::vs).map ZY)) F' H' O':=⟨b,ws',rfl,w.symm,o2,o3,o4,o1⟩;obtain⟨a,vs',e',h1,h2,h3,h4,h5⟩:=arf (ps:=ρc.take n) G1 L fin rr;cases e';exact⟨h5,h1.symm⟩
      obtain⟨k1,k2,k3⟩:=a3e (tg1:=λ_=>b) (n:=0) g3 (λm e' he'=>by
       cases m with
       | zero=>cases he';rfl
       | succ m=>simp at he')
      refine q x0 b H' F' Gb (x1.trans xb) (x1.there x0 hx0) ?_ hA.1 ⟨⟨x0,C,dx,fvs,rfl,g2,g1,hC,k1,k2,k3⟩,⟨C,dx,fvs,g1,by rw[g3.lens];exact hlen⟩,hfb,ws,hhb,hlb⟩
      rcases hA.2 with w | w
      ·exact x1.own b w
      ·exact .inr (x1.there b w)
     ·cases em
    ·cases em
   ·cases em
  ·cases em
 ·cases em
noncomputable def ay5:Sl->Bool
 | .val _=>ZW
 | _=>ZV
def anw(K:Fg9)(n:Nat)(c:Str)(f:Ro->Option (BF×List D)):Sp:=λvs H Q _=>vs.length=n/\∃F as fs l,Good K (tgOf (vs.map ZY)) F H as (vs.map ZY)/\(as:List Sl).all ay5=ZW/\f as=ZY (fs,l) /\
 ∀a b H' F',Same F' H'->Same F F'->(∀z o,F' z=ZY o->F z=ZY o∨H z=ZX)->Same H H'->H a=ZX->H b=ZX->az4 K F' H' c fs l a b->Q (.ref a) H'
def af0(f:Ro->Option (BF×List D))(js:List (Option Nat))(ms:M (List (Option D))):MS:=λρ=>match ms ρ with
 | some (.ok ds,ρ1)=>if okJs ρ1 js=ZW/\(lend ρ1 js ds:List Sl).all ay5=ZW then match f (lend ρ1 js ds) with
  | some (fs,l)=>ZY ((fs,l),ρ1)
  | none=>ZX
  else ZX
 | _=>ZX
theorem a8r{f:Ro->Option (BF×List D)}{k:Nat}{pn:List Str}(F:Dfn X.prog X.w X.K X.mg X.base x pn k (anw K n c f))(hr:Room k X.A)(hg:Gl X x)(ha:EG K X (e::es) js ms)(hn:js.length=n:=by rfl)(hdb:(x==("__debug__" : Str))=ZV:=by decide)
  (he:bA (e::es) X.env=(ZV,eval e X.env)::bA es X.env:=by rfl) (hpl:(jG pos (bA es X.env)).any (·.1)=ZV:=by rfl):ES K X c (.Call (.Name x p) (e::es) [] pos) (af0 f js ms):=ES.mk λhk=>PE.imp (a2m F hr hg (ha hk) hdb he hpl) λσ H Q z9=>by
 obtain⟨tg,F,ρ,fs,l,ρ9,G,em,q⟩:=z9;unfold af0 at em;split at em
 ·rename_i ds ρ1 e1;split at em
  ·rename_i hz;obtain⟨hj,hv⟩:=hz;split at em
   ·rename_i fs' l' e2;cases em;refine⟨tg,F,ρ,ds,ρ9,G,e1,λvs H1 F1 G1 x1 ar =>?_⟩
    have L:=ar.lent;show anw K n c f (vs++[]) H1 Q E0;rw[lD];refine⟨by rw[ar.length];exact hn,F1,_,fs,l,aei G1 hj L,hv,e2,λa b H' F' s1 s2 s3 s4 h1 h2 bx =>?_⟩
    have no:∀z,H1 z≠ZX->F1 z=ZX->F' z=ZX:=λz hz hf=>by
     cases w:F' z with
     | none=>rfl
     | some o =>
      rcases s3 z o w with w | w
      ·rw[hf] at w;cases w
      ·exact absurd w hz
    have G2:Good K tg F' H' ρ9 σ:=G1.grow s2 s1 (λz w=>by
     obtain⟨w1,ws,w2⟩:=G1.ownAt w;exact⟨no z (by rw[w2];simp) w1,by rw[w2,s4 z _ w2]⟩) λz C dx fvs w1 w2=>⟨no z (by rw[w2];simp) w1,by rw[w2,s4 z _ w2]⟩
    have x2:Ext (Own ρ9 σ) (Own ρ9 σ) F1 H1 F' H':=⟨s2,λz o w=>(s3 z o w).imp id .inl,λz o w _=>s4 z o w,λz w=>.inl w,λz w=>Same.free s4 w⟩
    exact q a b H' F' G2 (x1.trans x2) (x1.there a h1) (.inr (x1.there b h2)) (λw=>G1.own_ne h2 w rfl) bx
   ·cases em
  ·cases em
 ·cases em
end
def TSr(K:Fg9)(i:Nat)(g:Sd):TS:=λD σ H=>∃tg F ρ ρ' a,Good K tg F H ρ σ/\σ[i]? = ZY (ZY (.ref a))/\Bnd H a/\g ρ=ZY (.nx,ρ') /\
 ∀σ' H' F',Good K tg F' H' ρ' σ'->σ'[i]? = ZY (ZY (.ref a))->Bnd H' a->Ext (Oi ρ σ a) (Oi ρ' σ' a) F H F' H'->D.rt (.ref a) H'
structure SRs (K:Fg9) (X:Cx) (i:Nat) (ss:List gU) (g:Sd):Prop where
 go:X.K=K->PSs X ss (TSr K i g)
noncomputable def strD(nl np:Nat)(g:Ro->Option (BF×List D)):Ro->Option (BF×List D):=λas=>g (as++aP (nl - np) .emp)
def TSf(K:Fg9)(c:Str)(g:Ro->Option (BF×List D)):TS:=λD σ H=>∃tg F ρ fs l,Good K tg F H ρ σ/\(∀z,¬Own ρ σ z)/\g ρ=ZY (fs,l) /\
 ∀a b H' F',Same F' H'->Same F F'->(∀z o,F' z=ZY o->F z=ZY o∨H z=ZX)->Same H H'->H a=ZX->H b=ZX->az4 K F' H' c fs l a b->D.rt (.ref a) H'
structure SF (K:Fg9) (X:Cx) (c:Str) (ss:List gU) (g:Ro->Option (BF×List D)):Prop where
 go:X.K=K->PSs X ss (TSf K c g)
def ajh(c:Str)(i j:Nat)(m:MS)(k:Sd):Ro->Option (BF×List D):=λρ=>match m ρ with
 | some ((fs,l),ρ1)=>if (ρ1:List Sl).all tagB=ZW/\i≠j/\i < (ρ1:List Sl).length then match k (bB (bB ρ1 i (.box c (rtg 1000 fs))) j (.own (ZY 1000) l)) with
  | some (.nx,ρ')=>match (ρ':List Sl)[i]?,(ρ':List Sl)[j]? with
   | some (Sl.box c2 fs2),ZY (Sl.own (ZY 1000) l2)=>if c2=c/\inlB 1000 fs2=ZW then ZY (fs2,l2) else ZX
   | _,_=>ZX
  | _=>ZX
  else ZX
 | none=>ZX
def dGot(c:Str)(i j:Nat)(m:MS)(k:Sd):Sd:=λρ=>match m ρ with
 | some ((fs,l),ρ1)=>if (ρ1:List Sl).all tagB=ZW/\i≠j then match k (bB (bB ρ1 i (.box c (rtg 1000 fs))) j (.own (ZY 1000) l)) with
  | some (fl,ρ4)=>if (offs ρ4 [i,j]:List Sl).all tagB=ZW then ZY (fl,offs ρ4 [i,j]) else ZX
  | none=>ZX
  else ZX
 | none=>ZX
section
variable{K:Fg9}{X:Cx}{e o:dH}{es:List dH}{st:gU}{ss:List gU}{p p2 pos pos2:Pos}{x c:Str}{i j:Nat}{m:MS}{g k:Sd}
theorem atn(ho:PE X o (tVar i)):SRs K X i [.Return (ZY o) pos] dNx:=SRs.mk λ_=>PSs.imp (akd (a0h ho)) λE σ H z9=>by
 obtain⟨tg,F,ρ,ρ',a,G,ea,hB,em,q⟩:=z9;cases em;exact⟨_,ea,q σ H F G ea hB (Ext.refl _ _ _)⟩
theorem ajx(h:SM K X i st g)(t:SRs K X i ss k):SRs K X i (st::ss) (dSeq g k):=SRs.mk λhk=>PSs.imp (ph (h.go hk) (t.go hk)) λE σ H z9=>by
 obtain⟨tg,F,ρ,ρ',a,G,ea,hB,em,q⟩:=z9;obtain⟨ρ1,e1,e2⟩:=a0b em;exact⟨tg,F,ρ,ρ1,a,G,ea,hB,e1,λσ' H' F' G' ea' hB' x=>⟨tg,F',ρ1,ρ',a,G',ea',hB',e2,λσ2 H2 F2 G2 ea2 hB2 x2=>q σ2 H2 F2 G2 ea2 hB2 (x.trans x2)⟩⟩
theorem a0f{tg:Nat->aY}{F H:Hp}{ρ:Ro}{σ:L2.St}{fs:BF}{l:List D}{a b:aY}(G:Good K tg F H ρ σ)(hb:(ρ:List Sl).all tagB=ZW)(hn:¬Own ρ σ b)(bx:az4 K F H c fs l a b) :
  ∃tg1,(∀m,m < 1000->tg1 m=tg m)/\tg1 1000=b/\Good K tg1 F H (bB (bB ρ i (.box c (rtg 1000 fs))) j (.own (ZY 1000) l)) (bB (bB σ i (ZY (V.ref a))) j (ZY (V.ref b))) /\
   ∀z,Own (bB (bB ρ i (.box c (rtg 1000 fs))) j (.own (ZY 1000) l)) (bB (bB σ i (ZY (V.ref a))) j (ZY (V.ref b))) z->Own ρ σ z∨z=b:=by
 obtain⟨b1,b2,b3,ws,b4,b5⟩:=bx;refine⟨λm=>if m < 1000 then tg m else b,λm hm=>by simp[hm],by simp,?_⟩
 have Gt:=G.retag (tg1:=λm=>if m < 1000 then tg m else b) hb (λm hm=>by simp[hm])
 have Gi:=Gt.put (s:=.box c (rtg 1000 fs)) (v:=.ref a) i (SlOk.rtgC b1 (by simp)) (λt l a z=>by cases z)
 have ob:∀z,Own (bB ρ i (.box c (rtg 1000 fs))) (bB σ i (ZY (V.ref a))) z->Own ρ σ z:=λz hz=>by
  rcases ag1 G.len hz with w | ⟨⟨t,l,w⟩,_⟩
  ·exact w
  ·cases w
 refine⟨Gi.put (s:=.own (ZY 1000) l) (v:=.ref b) j ⟨b,ws,rfl,b3,b4,b5,λk' ek=>by cases ek;simp⟩ (λt l' a' _ ea w=>by cases ea;exact hn (ob _ w)),λz hz =>?_⟩
 rcases ag1 Gi.len hz with w | ⟨_,w⟩
 ·exact .inl (ob z w)
 ·cases w;exact .inr rfl
theorem a0x{σ:L2.St}{a b:aY}(hgh:∀y,X.N[j]? = ZY y->¬Vis X.env.scope y):GH X (bB σ i (ZY (V.ref a))) (bB (bB σ i (ZY (V.ref a))) j (ZY (V.ref b))):=⟨by rw[bW],λn y v hn hv vis=>by
 rw[bC] at hv
 by_cases q:j=n
 ·subst q;exact absurd vis (hgh y hn)
 ·rw[if_neg q] at hv;exact hv⟩
theorem apr(hN:X.N.Nodup)(hi:X.N[i]? = ZY x)(hx:Loc X.env.scope x)(h:ES K X c e m)(t:SRs K X i ss k)(hgh:∀y,X.N[j]? = ZY y->¬Vis X.env.scope y)
  (hs:fY e (ZY (.Name x p)) pos.line X.env=pure ZV:=by rfl) (hf:X.fn x=ZW∨X.env.scope.names.lookup x=ZY .local:=by first | exact .inl rfl | exact .inr rfl | assumption) :
  SF K X c (.Assign [.Name x p] e pos::ss) (ajh c i j m k):=SF.mk λhk=>PSs.imp (ph (ag0 hN hi hx (h.go hk) hs hf) (auf (t.go hk))) λE σ H z9=>by
 obtain⟨tg,F,ρ,fs2,l2,G,hno,em,q⟩:=z9;unfold ajh at em;split at em
 ·rename_i fs l ρ1 e1;split at em
  ·rename_i hz;obtain⟨hb,hij,hlt⟩:=hz;split at em
   ·rename_i ρ' e2;split at em
    ·rename_i c2 fs3 l3 e3 e4;split at em
     ·rename_i hz2;obtain⟨rfl,hik⟩:=hz2;cases em;refine⟨tg,F,ρ,fs,l,ρ1,G,e1,λa b H1 F1 G1 x1 ha hbb hnb bx =>?_⟩
      obtain⟨tg1,ht,ht1,Gj,ow⟩:=a0f (i:=i) (j:=j) G1 hb hnb bx;have hBn:Bnd H1 a:=bx.2.1;have hlt2:i < σ.length:=by rw[<-G1.len];exact hlt
      refine⟨_,a0x (b:=b) hgh,tg1,F1,_,ρ',a,Gj,?_,hBn,e2,λσ' H' F' G' ea' hB' x' =>?_⟩
      ·rw[bC,if_neg (gR hij),bC,if_pos rfl,if_pos hlt2]
      obtain⟨oi,hoi,hbx'⟩:=G'.at e3;rw[ea'] at hoi;cases hoi;obtain⟨oj,hoj,b2,ws2,rfl,hf2,hh2,hl2,ht2⟩:=G'.at e4;have hb2:b=b2:=ht1.symm.trans (ht2 1000 rfl);subst hb2;have hb0:H b=ZX:=hbb.elim (λw=>absurd w (hno b)) id
      have hO:∀z,Oi (bB (bB ρ1 i (.box c2 (rtg 1000 fs))) j (.own (ZY 1000) l)) (bB (bB σ i (ZY (V.ref a))) j (ZY (V.ref b))) a z->H z=ZX:=λz w=>by
       rcases w with w | w
       ·rcases ow z w with w | w
        ·exact(x1.own z w).elim (λw=>absurd w (hno z)) id
        ·subst w;exact hb0
       ·subst w;exact ha
      refine q a b H' F' G'.sub (x1.sub.trans x'.sub) (λz o w =>?_) (λz o w =>?_) ha hb0 ⟨SlOk.cst hbx' hik ht1,hB',hf2,ws2,hh2,hl2⟩
      ·rcases x'.new z o w with w | w | w
       ·rcases x1.new z o w with w | w | w
        ·exact .inl w
        ·exact .inr w
        ·exact absurd w (hno z)
       ·exact .inr (x1.there z w)
       ·exact .inr (hO z w)
      ·refine x'.keep z o (x1.keep z o w (hno z)) λw2 =>?_
       rw[hO z w2] at w;cases w
     ·cases em
    ·cases em
   ·cases em
  ·cases em
 ·cases em
theorem a0z{P:cG}{w:dZ}{mg:Str->Option aH}{base:fH}{qual:Str}{st:gU}{f:aY}{fd:gB}{N ps:List Str}{kk nl np:Nat}{g:Ro->Option (BF×List D)}(F:Fun K x qual st f fd)(S:FnScope N ps (aa st))(h1:N.length=nl)(h2:ps.length=np)
  (body:∀(cdv:aH) (A:eG) (outer:List Env) (s:aO) (H:Hp) (E:XK),Room kk (A.deeper (oH qual (aa st) s.heap.objs.size f cdv))->SF K (cxOf CX0 P w K mg base N qual (aa st) f cdv A outer s H E).nox c (iu st) g) :
  FnOk P w K mg base CX0 (kk+1) f fd ps (anw K np c (strD nl np g)):=by
 subst h1 h2;refine F.ok S (λvs H Q E h=>h.1) (λcdv A outer s H vs Q E hr h=>⟨_,(body cdv A outer s H E hr).go rfl,?_⟩)
 obtain⟨hn,F,as,fs,l,G,hv,em,q⟩:=h;have hl:as.length=(vs.map ZY).length:=G.len;have G1:=G.app (N.length - vs.length);unfold strD at em;rw[<-hn] at em;refine⟨_,F,_,fs,l,G1,λz w =>?_,em,q⟩
 have w:Own (as++aP (N.length - vs.length) .emp) (vs.map ZY++aP (N.length - vs.length) ZX) z:=w;rw[aam hl] at w;obtain⟨n,⟨t,l',e⟩,_⟩:=w;have:=cX.mp hv _ (cR e);cases this
theorem a1i(hN:X.N.Nodup)(hi:X.N[i]? = ZY x)(hx:Loc X.env.scope x)(h:ES K X c e m)(t:SVs K X ss k)(hgh:∀y,X.N[j]? = ZY y->¬Vis X.env.scope y)
  (hs:fY e (ZY (.Name x p)) pos.line X.env=pure ZV:=by rfl) (hf:X.fn x=ZW∨X.env.scope.names.lookup x=ZY .local:=by first | exact .inl rfl | exact .inr rfl | assumption) :
  SVs K X (.Assign [.Name x p] e pos::ss) (dGot c i j m k):=SVs.mk λhk=>PSs.imp (ph (ag0 hN hi hx (h.go hk) hs hf) (auf (t.go hk))) λE σ H z9=>by
 obtain⟨tg,F,ρ,fl,ρ',G,em,q⟩:=z9;unfold dGot at em;split at em
 ·rename_i fs l ρ1 e1;split at em
  ·rename_i hz;obtain⟨hb,hij⟩:=hz;split at em
   ·rename_i fl' ρ4 e4;split at em
    ·rename_i hb4;cases em;refine⟨tg,F,ρ,fs,l,ρ1,G,e1,λa b H1 F1 G1 x1 ha hbb hnb bx =>?_⟩
     obtain⟨tg1,ht,ht1,Gj,ow⟩:=a0f (i:=i) (j:=j) G1 hb hnb bx;refine⟨_,a0x (b:=b) hgh,tg1,F1,_,_,ρ4,Gj,e4,FlOk.off ht hb4 (FlOk.back ⟨x1.sub,x1.new,x1.keep,λz w =>?_,x1.there⟩ q)⟩
     rcases ow z w with w | w
     ·exact x1.own z w
     ·subst w;exact hbb
    ·cases em
   ·cases em
  ·cases em
 ·cases em
theorem eg_f{c f:Str}{js:List (Option Nat)}{ms:M (List (Option D))}(hc:FldT K c f)(h:PE X o (tVar i))(t:EG K X es js ms)(hb:jA o f X.env (eval o X.env)=eval o X.env:=by rfl)(hs:bA (.Attribute o f pos::es) X.env=(ZV,eval (.Attribute o f pos) X.env)::bA es X.env:=by rfl) :
  EG K X (.Attribute o f pos::es) (ZY j::js) ((mLnk c i f j).bind λ_=>bu j ms):=EG.mk λhk=>by
 subst hk;refine PA.imp (aa6 (a6y h hb) (t rfl) hs) λσ H Q z9 =>?_
 obtain⟨tg,F,ρ,ds,ρ',G,em,q⟩:=z9;obtain⟨u,ρ9,e9,em1⟩:=az em;obtain⟨rfl,a,C,dx,fvs,v,h1,h2,h3,h4,h5,h6⟩:=a7y G hc e9;obtain⟨d0,ρ0,e0,em2⟩:=az em1;obtain⟨r,ρ2,e2,em3⟩:=az em2;obtain⟨rfl,rfl⟩:=ji em3;obtain⟨rfl,v',hv',_⟩:=qx G e0;rw[h6] at hv';cases hv';exact⟨_,h1,a,C,dx,fvs,v,rfl,h2,h3,h4,h5,tg,F,ρ0,r,_,G,e2,λvs H2 F2 G2 x2 r2=>q _ H2 F2 G2 x2 (.nm h6 r2)⟩
end
def flatV:D->Bool
 | .non | .bl _ | .int _ | .str _=>ZW
 | .tup l=>l.all isI
 | _=>ZV
def mFnW(f:Fd)(js:List (Option Nat))(ms:M (List (Option D))):M Rv:=ms.bind λds ρ=>match f (seen ρ js ds) with
 | some (.ok (.v d),_)=>if flatV d=ZW then ZY (.ok (.v d),ρ) else ZX
 | _=>ZX
section
variable{K:Fg9}{X:Cx}{e:dH}{es:List dH}{pos p:Pos}
theorem a02{f:Fd}{n k:Nat}{x:Str}{pn:List Str}{js:List (Option Nat)}{ms:M (List (Option D))}(F:Dfn X.prog X.w X.K X.mg X.base x pn k (spOf K n f))(hr:Room k X.A)(hg:Gl X x)(ha:EG K X (e::es) js ms)(hn:js.length=n:=by rfl)(hdb:(x==("__debug__" : Str))=ZV:=by decide)
  (he:bA (e::es) X.env=(ZV,eval e X.env)::bA es X.env:=by rfl) (hpl:(jG pos (bA es X.env)).any (·.1)=ZV:=by rfl):ER K X (.Call (.Name x p) (e::es) [] pos) (mFnW f js ms):=ER.mk λhk=>PE.imp (a2m F hr hg (ha hk) hdb he hpl) λσ H Q z9=>by
 obtain⟨tg,F,ρ,r,ρ',G,em,q⟩:=z9;obtain⟨ds,ρ1,e1,em⟩:=az em;have em:(match f (seen ρ1 js ds) with
  | some (.ok (.v d),_)=>if flatV d=ZW then ZY (Out.ok (Rv.v d),ρ1) else ZX
  | _=>ZX)=ZY (.ok r,ρ'):=em
 split at em
 ·rename_i d ps e2;split at em
  ·rename_i hl;obtain⟨rfl,rfl⟩:r=.v d/\ρ'=ρ1:=by cases em;exact⟨rfl,rfl⟩
   refine⟨tg,F,ρ,ds,ρ',G,e1,λvs H1 F1 G1 x1 ar =>?_⟩
   have no:∀a,¬Own (seen ρ' js ds) (vs.map ZY) a:=λa ⟨i,⟨t,l,e⟩,_⟩=>seen_own ar i t l e
   have Gc:Good K (tgOf (vs.map ZY)) (Fc ρ' σ F1 H1) H1 (seen ρ' js ds) (vs.map ZY):=⟨bco G1,by rw[aj1 ar,aK],λi s o e q=>an0 G1 ar i s o e q,λi j a w _=>absurd ⟨i,w⟩ (no a)⟩
   show spOf K n f (vs++[]) H1 Q E0;rw[lD];refine⟨by rw[ar.length];exact hn,_,_,.v d,ps,Gc,e2,λv H' F' O' s' x' fin rr =>?_⟩
   have kp:∀b o,H1 b=ZY o->H' b=ZY o:=λb o e=>x'.keep b o e (no b)
   have rr:Is K F' d v:=rr;have plain:Is K F1 d v->Q v H':=λhv=>by
    have G2:Good K tg F1 H' ρ' σ:=G1.grow (Same.refl F1) (λb o e=>kp b o (G1.sub b o e)) (λa w=>⟨(G1.ownAt w).1,by
     obtain⟨_,ws,z⟩:=G1.ownAt w;rw[z,kp a _ z]⟩) λa C dx fvs h1 h2=>⟨h1,by rw[h2,kp a _ h2]⟩
    have x2:Ext (Own ρ' σ) (Own ρ' σ) F1 H1 F1 H':=⟨Same.refl F1,λa o e=>.inl e,λa o e _=>kp a o e,λa w=>.inl w,λa e=>x'.there a e⟩
    exact q v H' F1 G2 (x1.trans x2) hv
   cases rr with
   | non=>exact plain .non
   | bl b=>exact plain (.bl b)
   | int i=>exact plain (.int i)
   | str y=>exact plain (.str y)
   | @tup t us l ht hi =>
    have ht':H' t=ZY (.tup us):=s' _ _ ht;have sm:Same F1 (upd F1 t (.tup us)):=λb o e=>by
     by_cases z:b=t
     ·subst z;rw[di];have:=x'.sub _ _ (arn G1 _ _ e);rw[ht] at this;exact this
     ·rw[bf z];exact e
    have ne:∀a,(∀ws,H1 a≠ZY (.tup ws))->H1 a≠ZX->a≠t:=λa h h0 z=>by
     subst z;cases w:H1 a with
     | none=>exact h0 w
     | some o =>
      rw[kp a o w] at ht';cases ht';exact h us w
    have G2:Good K tg (upd F1 t (.tup us)) H' ρ' σ:=G1.grow sm (λb o e=>by
     by_cases z:b=t
     ·subst z;rw[di] at e;cases e;exact ht'
     ·rw[bf z] at e;exact kp b o (G1.sub b o e)) (λa w=>by
     obtain⟨w1,ws,w2⟩:=G1.ownAt w;rw[bf (ne a (λws' h=>by rw[w2] at h;cases h) (by rw[w2];simp))]
     exact⟨w1,by rw[w2,kp a _ w2]⟩) λa C dx fvs h1 h2=>by
     rw[bf (ne a (λws' h=>by rw[h2] at h;cases h) (by rw[h2];simp))]
     exact⟨h1,by rw[h2,kp a _ h2]⟩
    have x2:Ext (Own ρ' σ) (Own ρ' σ) F1 H1 (upd F1 t (.tup us)) H':=⟨sm,λa o e=>by
     by_cases z:a=t
     ·subst z;rw[di] at e;cases e;rcases x'.new a _ ht with w | w | w
      ·unfold Fc at w;split at w
       ·rename_i wo;obtain⟨_,ws,w2⟩:=G1.ownAt wo;rw[w2] at w;cases w
       ·exact .inl w
      ·exact .inr (.inl w)
      ·exact absurd w (no a)
     ·rw[bf z] at e;exact .inl e,λa o e _=>kp a o e,λa w=>.inl w,λa e=>x'.there a e⟩
    exact q _ H' _ G2 (x1.trans x2) (.tup di (a8n hl hi))
   | lst _ _=>cases hl
   | kst _ _=>cases hl
   | dct _ _=>cases hl
   | exn _ _ _ _=>cases hl
   | dtt _=>cases hl
  ·cases em
 ·cases em
end
theorem avv{N:List Str}{j:Nat}{sc:jV}(h:ghB N [j] sc=ZW):∀y,N[j]? = ZY y->¬Vis sc y:=bbx h j (aF ..)
end Dn
namespace Mn
open L2
theorem axy{X:Cx}{tg iter elt:dH}{ifs:List dH}{scope:jV}{cpos pos px:Pos}{wi:TI}{g:TG}{ti:TT}{te:TE}{i:Nat}{x:Str}(y:Str)(fr N:List Str)(src:List (Option Nat))(hN:X.N.Nodup)(hxi:X.N[i]? = ZY x)(hx:Loc X.env.scope x)(hc:X.calm=ZW)(hi:PI X tg iter wi)
  (hg:∀fp s H,PG (cxY y X N scope fr fp s H) tg g) (ht:∀fp s H,PIf (cxY y X N scope fr fp s H) ifs ti) (he:∀fp s H,PE (cxY y X N scope fr fp s H) elt te)
  (hsw:fY (.ListComp elt [⟨tg,iter,ifs,0⟩] scope cpos) (ZY (.Name x px)) pos.line X.env=pure ZW:=by rfl)
  (hok:afv y X.env X.N scope fr N src=ZW:=by rfl) (hcf:∀a l,nF a scope.names l=(y,a)::l:=by intro _ _;rfl) (hkind:scope.kind=.function:=by rfl) (hclos:lY scope X.env=pure (qt X.env fr):=by rfl)
  (hs:∀x,fB iter X.env x=pure x:=by intro _;rfl) (hf:X.fn x=ZW∨X.env.scope.names.lookup x=ZY .local:=by first | exact .inl rfl | exact .inr rfl | assumption) :
  PS X (.Assign [.Name x px] (.ListComp elt [⟨tg,iter,ifs,0⟩] scope cpos) pos) (tAsg (atj wi g ti te src) (aza i)):=by
 have C:=CompOkY.of hok;intro qv s σ H D I h;rw[exec_Assign_Name_used _ _ _ _ hsw];refine aB (wpAny_standAt (aB ?_));show bT _ _ (comprehension (.ListComp elt [⟨tg,iter,ifs,0⟩] scope cpos) scope X.env (firstIterPos [⟨tg,iter,ifs,0⟩] cpos) (newList []) (firstAsync [⟨tg,iter,ifs,0⟩]) (firstIter [⟨tg,iter,ifs,0⟩] X.env) (ZY (lG (.Name x px) X.env)) >>= λ_=>pure ()) _ _ _
 refine aB (wpAny_comprehension_free (use:=ZY (lG (.Name x px) X.env)) (Q:=λ_ s'=>bT (cA X.prog X.w) X.A (pure ()) (λ_ s''=>bT (cA X.prog X.w) X.A (pure uQ) (SP X qv D) X.xe s'') X.xe s') rfl hs hclos hkind C.loc (cU (hi qv s σ H _ I h) (λv s1 h1=>cU h1 (λitv s2 h2 =>?_) λ_ _ e=>e) λ_ _ e=>e))
 obtain⟨it,fp,tn,J,H2,e,I2,T,st2,f2,q2⟩:=h2;subst e;have hd0:H2 s2.heap.objs.size=ZX:=I2.hok.fresh (aM _);obtain⟨W,⟨m0,w0⟩,turn⟩:=q2 s2.heap.objs.size hd0;refine eH ?_;generalize hs3:({ s2 with heap:=s2.heap.push { cls:=.type "list", dict:=ZX,data:=.seq ([]:List aH).toArray } }:aO)=s3
 have keep2:∀b o,s2.heap.get? b=ZY o->s3.heap.get? b=ZY o:=λb o e=>by rw[<-hs3];exact aD _ e
 have I3:Inv X qv σ (upd H2 s2.heap.objs.size (.lst [])) s3:=by
  rw[<-hs3];exact I2.laid (t':=s2.toks) (λb u q=>aD _ q) (aM _) ⟨Nat.zero_le _,[],0,.nil,aW _ rfl⟩
 have ne0:∀b∈fp,b≠s2.heap.objs.size:=λb hb=>by
  obtain⟨o,e,_⟩:=T.obj _ _ st2 b hb;exact bQ (aV e)
 have f3:∀b∈fp,FpOk X qv (upd H2 s2.heap.objs.size (.lst [])) b:=λb hb=>⟨by rw[bf (ne0 b hb)];exact(f2 b hb).1,(f2 b hb).2⟩
 have lt3:∀b∈fp,b < s3.heap.objs.size:=λb hb=>by
  obtain⟨o,e,_⟩:=T.obj _ _ st2 b hb;exact aV (keep2 b o e)
 refine mj ?_;rw[hcf];have ok:=cellsFrom_ok scope.names (s3.heap.push { cls:=.type "dict", data:=.dict #[] }) (s3.heap.objs.size+1) [] ⟨λ_ _ hm=>(nomatch hm),wC⟩ (by rw[dB];exact aM _)
 rw[dB,hcf] at ok;have hns₁:=(Heap.Ns.new s3.heap (.type "dict")).keeps (pushCells_keeps scope.names _);have keep3:∀b o,s3.heap.get? b=ZY o->(pushCells (s3.heap.push { cls:=.type "dict", data:=.dict #[] }) scope.names).get? b=ZY o:=λb o e=>pushCells_keeps _ _ b o (aD _ e)
 have hcl:=(ok.empty y (s3.heap.objs.size+1) aF).1;generalize pushCells (s3.heap.push { cls:=.type "dict", data:=.dict #[] }) scope.names=h₁ at hns₁ keep3 hcl ⊢
 have st4:tn 0 h₁:=T.keep _ _ _ st2 λb hb o e=>keep3 b o (keep2 b o e)
 have I4:=amf (tk:=s3.toks) I3 C hkind f3 lt3 hns₁ keep3 hcl;have loop:=ae0 (X:=cxY y X N scope fr fp s3 (upd H2 s2.heap.objs.size (.lst []))) (iter:=iter) (scope:=scope) (pos:=cpos) (d:=s2.heap.objs.size) (Q:=λv H1=>D.nx (σ.set i (ZY v)) H1)
  (R:=compPost (cA X.prog X.w) X.A X.xe (ZY (lG (.Name x px) X.env)) (λ_ s'=>bT (cA X.prog X.w) X.A (pure ()) (λ_ s''=>bT (cA X.prog X.w) X.A (pure uQ) (SP X qv D) X.xe s'') X.xe s') (.ref s2.heap.objs.size) s3.heap.objs.size) hc rfl T
  (λH' hn b hb=>⟨hn b hb,bQ (lt3 b hb),I4.ok.exfs b hb,.inl hb,(I4.ok.exf b hb).2,λp hp=>absurd (show p∈([]:List (aY×Obj)) from hp) (by simp)⟩)
  (hg fp s3 _) (ht fp s3 _) (he fp s3 _) turn w0 I4 st4 (λb hb=>(f3 b hb).1) (λσ' H' s' I6 qn=>by
   obtain⟨m6,hn6,_⟩:=I6.loc;have fC:FpOk X qv H' s3.heap.objs.size:=I3.fpOk (aM _) I6.free;have I7:Inv X qv σ H' s':=amg I3 f3 I6 (wG ..);refine wpAny_assign_Name (agn I7 hN hxi hx (v:=.ref s2.heap.objs.size) rfl (λs8 I8 ⟨a,sb,ha⟩ =>?_) hf)
   have hne:s3.heap.objs.size≠a:=by
    rcases ha with rfl | ha
    ·exact fC.2.1
    ·exact(fC.2.2.2.2.1 x a ha).symm
   obtain⟨o6,es6,ep6,g6,r6⟩:=hn6;refine⟨m6,⟨o6,es6,ep6,(sb.2 _ hne).trans g6,r6⟩,λh9 sb9=>aR (aR ⟨_,H',?_,qn⟩)⟩
   exact I8.turned (t':=s8.toks) (it:=s3.heap.objs.size) (λb o hb e=>(sb9.2 b hb).trans e) fC.1 fC.2.1 fC.2.2.2.1 fC.2.2.2.2.1 fC.2.2.2.2.2)
 exact codeAny_compStart_list loop (T.self _ 0 _ _ _ st4 loop)
end Mn
namespace Dn
open L2 Mn
theorem axk{K:Fg9}{X:Cx}{tgt iter elt:dH}{pos p:Pos}{i:Nat}{x:Str}{ifs:List dH}{scope:jV}{cpos:Pos}{mi:M (List D)}{bb:D->Ro->Option Ro}{mc:M Bool}{me:M D}(y:Str)(fr N:List Str)(src:List (Option Nat))(hN:X.N.Nodup)(hxi:X.N[i]? = ZY x)(hx:Loc X.env.scope x)(hc:X.calm=ZW)(hi:IT K X tgt iter mi)
  (hg:∀fp s H,GV K (cxY y X N scope fr fp s H) tgt bb) (ht:∀fp s H,EIf K (cxY y X N scope fr fp s H) ifs mc) (he:∀fp s H,EV K (cxY y X N scope fr fp s H) elt me)
  (hsw:fY (.ListComp elt [⟨tgt,iter,ifs,0⟩] scope cpos) (ZY (.Name x p)) pos.line X.env=pure ZW:=by rfl)
  (hok:afv y X.env X.N scope fr N src=ZW:=by rfl) (hcf:∀a l,nF a scope.names l=(y,a)::l:=by intro _ _;rfl) (hkind:scope.kind=.function:=by rfl) (hclos:lY scope X.env=pure (qt X.env fr):=by rfl)
  (hs:∀x,fB iter X.env x=pure x:=by intro _;rfl) (hf:X.fn x=ZW∨X.env.scope.names.lookup x=ZY .local:=by first | exact .inl rfl | exact .inr rfl | assumption) :
  SV K X (.Assign [.Name x p] (.ListComp elt [⟨tgt,iter,ifs,0⟩] scope cpos) pos) (dSet i (tu src mi bb mc me)):=SV.mk λhk=>by
 have hkc:∀fp s H,(cxY y X N scope fr fp s H).K=K:=λ_ _ _=>hk
 refine PS.imp (axy y fr N src hN hxi hx hc (hi hk) (λfp s H=>(hg fp s H).go (hkc _ _ _)) (λfp s H=>(ht fp s H).go (hkc _ _ _)) (λfp s H=>(he fp s H).go (hkc _ _ _)) hsw hok hcf hkind hclos hs hf) λE σ H z9 =>?_
 obtain⟨tg,F,ρ,fl,ρ',G,em,q⟩:=z9;refine u9 em q λr ρ1 e1 em =>?_
 cases em;refine agg σ H _ ⟨tg,F,ρ,r,ρ1,G,e1,λv H' F' G' x rr =>?_⟩
 obtain⟨G2,x2⟩:=G'.store x i rr;exact q _ H' F' G2 x2
end Dn
end
namespace Dn
open PySem L2
@[simp] abbrev gL9(d:D):Option Rv:=(itemsD d).map λl=>.v (.int l.length)
@[simp] abbrev gT9(d:D):Option Rv:=(itemsD d).map λl=>.v (.tup l)
end Dn
namespace My
open PySem L2 Mn Dn
def ajd:Sd :=
 (dRet (M.v (mAnd (mIsi .int (dj 0)) (mUn gNot (mIsi .bool (dj 0))))))
def aay:Fd:=fnD 1 1 ajd
def aat:Sd :=
 (dRet (M.v (mAnd (M.d (mFn aay [ZY 0] (bu 0 fj))) (al8 (λi j=>decide (i<=j)) (λi j=>decide (i<=j)) (mVar 1) (mVar 0) (mVar 2)))))
def jb:Fd:=fnD 3 3 aat
def aau:Sd :=
 (dRet (M.v (mAnd (mIsi .tuple (dj 0)) (al8 (λi j=>decide (i<=j)) (λi j=>decide (i<=j)) (mVar 1) (M.d (gb (g1 gL9) (dw 0 mNil))) (mVar 2)))))
def jt:Fd:=fnD 3 3 aau
def abi:Sd :=
 (dRet (mFn jb [ZX,ZX,ZX] (bc (mVar 1) (bc (ret (.int 0)) (bc (M.d (mOp (gInt fSub) (jd (M.d (gb (g1 gL9) (dw 0 mNil))) (ret (.int 1))))) fj)))))
def j4:Fd:=fnD 2 2 abi
def xn:Sd :=
 (dIf (ahb (aan (M.d (mFn j4 [ZY 0,ZX] (bu 0 (bc (mVar 1) fj)))))) (λ_=>ZX) dNx)
def gk:Fd:=fnD 2 2 xn
def yh:Sd :=
 (dIf (a3i (mq (gCmp λi j=>decide (j<=i)) (cz 5 (ret (.int 0)))) (mq (gIn ZW) (cz 5 (dj 2)))) (adv (M.v (mMut 2 yo (b7 (mVar 5) mNil)))) dNx)
def aai:M Bool :=
 (mq (gCmp λi j=>decide (i < j)) (cz 3 (M.d (gb (g1 gL9) (dw 2 mNil)))))
def aci:Sd :=
 (dSeq (dSet 4 (mOp gIx (cz 0 (M.d (mOp gIx (cz 2 (dj 3))))))) (dSeq (dFor (qi (mVar 4)) (bj 5) yh) (dAug (λi j=>i+j) 3 (ret (.int 1)))))
def amn:Sd :=
 (dSeq (adv (mFn gk [ZY 0,ZX] (bu 0 (bc (mVar 1) fj)))) (dSeq (dSet 2 (mLst (b7 (mVar 1) mNil))) (dSeq (dSet 3 (M.v (ret (.int 0)))) (dSeq (whileD aai aci fuel) (dRet (gb (g1 gT9) (b7 (M.d (gb (g1 acu) (dw 2 mNil))) mNil)))))))
def ud:Fd:=fnD 6 2 amn
def acw:M D :=
 (M.d (mOp (gCmp λi j=>decide (j<=i)) (jd (M.d (gb (g1 avz) (dw 0 mNil))) (ret (.int 0)))))
def amm:Sd :=
 (dRet (gb (g1 gAll) (b7 (M.d (tu [ZX] (qi (mVar 0)) (bj 0) (ret ZW) acw)) mNil)))
def ab6:Fd:=fnD 1 1 amm
def aar:Sd :=
 (dIf (ahb (aan (M.d (mFn ab6 [ZX] (bc (mVar 0) fj))))) (λ_=>ZX) dNx)
def jq:Fd:=fnD 1 1 aar
def aca:M D :=
 (M.d (mFn jb [ZY 0,ZX,ZX] (bu 0 (bc (ret (.int 0)) (bc (M.d (mOp (gInt fSub) (jd (M.d (gb (g1 gL9) (dw 1 mNil))) (ret (.int 1))))) fj)))))
def aht:Sd :=
 (dSeq (dIf (ahb (aan (M.d (mFn jt [ZY 1,ZX,ZX] (bu 1 (bc (M.d (gb (g1 gL9) (dw 0 mNil))) (bc (M.d (gb (g1 gL9) (dw 0 mNil))) fj))))))) (dRet (M.v (ret (.bl ZV)))) dNx) (dRet (gb (g1 gAll) (b7 (M.d (tu [ZX,ZX] (mGet amq (b7 (mVar 1) (b7 (mVar 0) mNil))) (bTup 2 (je (bj 0) (je (bj 1) bNil))) (ret ZW) aca)) mNil))))
def yq:Fd:=fnD 2 2 aht
def zj:Sd :=
 (dIf (ahb (aan (M.d (mFn yq [ZX,ZX] (bc (mVar 0) (bc (mVar 1) fj)))))) (λ_=>ZX) dNx)
def jf:Fd:=fnD 2 2 zj
def ab9:M D :=
 (M.d (mOp gIx (cz 1 (M.d (mOp (gInt fSub) (cz 0 (ret (.int 1))))))))
def ahs:Sd :=
 (dRet (gb (g1 gT9) (b7 (M.d (tu [ZX,ZX] (mGet amq (b7 (mVar 1) (b7 (mVar 0) mNil))) (bTup 2 (je (bj 0) (je (bj 1) bNil))) (ret ZW) ab9)) mNil)))
def yp:Fd:=fnD 2 2 ahs
def aah:M Bool :=
 (mq (gIn ZV) (jd (M.d (mOp gIx (cz 2 (dj 0)))) (dj 1)))
def aae:M D :=
 (mVar 0)
def nq:M Bool :=
 (mq (gCmp λi j=>decide (i < j)) (jd (M.d (gb (g1 gL9) (dw 2 mNil))) (dj 3)))
def vd:Sd :=
 (dSeq (dSet 3 (gb (g1 gL9) (dw 2 mNil))) (dSet 2 (tu [ZX,ZY 2,ZY 0] (qi (mVar 2)) (bj 0) aah aae)))
def aen:Sd :=
 (dSeq (dSet 2 (gb (g1 λd=>(itemsD d).map λl=>.fr l) (dw 1 mNil))) (dSeq (dSet 3 (mOp gAdd (jd (M.d (gb (g1 gL9) (dw 2 mNil))) (ret (.int 1))))) (dSeq (whileD nq vd fuel) (dRet (ahc 2)))))
def uc:Fd:=fnD 4 2 aen
def ak6:M D :=
 (M.d (mOp gIx (jd (M.d (mOp gIx (cz 1 (dj 2)))) (dj 0))))
def agf:M D :=
 (M.d (tu [ZX,ZY 1,ZY 0] (qi (mVar 2)) (bj 0) (ret ZW) ak6))
def avw:Sd :=
 (dRet (tu [ZX,ZY 0,ZY 1] (qi (mVar 1)) (bj 0) (ret ZW) agf))
def ahz:Fd:=fnD 2 2 avw
def ado:Sd :=
 (dIf (mq (gEq ZW) (jd (M.d (mOp gIx (jd (M.d (mOp gIx (cz 0 (dj 2)))) (dj 1)))) (ret (.int 0)))) (dRet (ahc 2)) dNx)
def aja:Sd :=
 (dSeq (dFor (mGet aky (b7 (mVar 1) (b7 (M.d (gb (g1 gL9) (dw 0 mNil))) mNil))) (bj 2) ado) (dRet (M.v (ret .non))))
def aav:Fd:=fnD 3 2 aja
def aft:M D :=
 (M.d (gb (g1 λd=>(itemsD d).map λl=>.fr l) (dw 0 mNil)))
def asw:M D :=
 (mUn gNeg (mVar 0))
def aml:Sd :=
 (dSeq (dSet 3 (tu [ZX] (qi (mVar 0)) (bj 0) (ret ZW) aft)) (dSeq (dIf (mq (gEq ZW) (cz 1 (dj 2))) (dSeq (dSub 3 (mVar 1) (M.d (gb (g1 λd=>(itemsD d).map λl=>.fr l) (b7 (M.d (mOp gIx (cz 0 (dj 2)))) mNil)))) (dSub 3 (mVar 2) (M.d (tu [ZX] (qi (M.d (mOp gIx (cz 0 (dj 1))))) (bj 0) (ret ZW) asw)))) dNx) (dRet (ahc 3))))
def ab5:Fd:=fnD 4 3 aml
def acx:M D :=
 (M.d (mOp (gInt fDiv) (jd (M.d (mOp (gInt fSub) (jd (M.d (mOp gMul (jd (M.d (mOp gIx (cz 3 (dj 5)))) (dj 0)))) (M.d (mOp gMul (jd (M.d (mOp gIx (cz 2 (dj 5)))) (dj 1))))))) (dj 4))))
def acq:Sd :=
 (dIf (mq (gEq ZV) (cz 5 (dj 1))) (adv (M.v (mMut 4 yo (b7 (M.d (gb (g1 λd=>(itemsD d).map λl=>.fr l) (dw 3 mNil))) mNil)))) (adv (M.v (mMut 4 yo (b7 (M.d (tu [ZX,ZX,ZY 6,ZY 3,ZY 2,ZY 1] (mGet amq (b7 (mVar 6) (b7 (mVar 3) mNil))) (bTup 2 (je (bj 0) (je (bj 1) bNil))) (ret ZW) acx)) mNil)))))
def amo:Sd :=
 (dSeq (dSet 3 (mOp gIx (cz 0 (dj 1)))) (dSeq (dSet 4 (mLst mNil)) (dSeq (dFor (mGet azg (b7 (mVar 0) mNil)) (bTup 2 (je (bj 5) (je (bj 6) bNil))) acq) (dRet (ahc 4)))))
def ab7:Fd:=fnD 7 3 amo
def aew:M D :=
 (M.d (mOp gAdd (jd (M.d (gb (g1 λd=>(itemsD d).map λl=>.fr l) (dw 0 mNil))) (M.d (mLst (b7 (mVar 1) mNil))))))
def aej:Sd :=
 (dSeq (dSet 5 (mFn aav [ZY 2,ZX] (bu 2 (bc (mVar 4) fj)))) (dSeq (dIf (aan (mIsN ZV (dj 5))) (dRet (M.v (ret .non))) dNx) (dSeq (dSet 2 (mFn ab5 [ZX,ZX,ZX] (bc (mVar 2) (bc (mVar 4) (bc (mVar 5) fj))))) (dSeq (dSet 2 (mFn ab7 [ZX,ZY 4,ZY 3] (bc (mVar 2) (bu 4 (bu 3 fj))))) (dSet 3 (mOp gIx (jd (M.d (mOp gIx (cz 2 (dj 4)))) (dj 4))))))))
def ah3:M D :=
 (M.d (mOp gIx (cz 0 (M.d (gb (g1 gL9) (dw 1 mNil))))))
def aqx:Sd :=
 (dSeq (dSet 2 (tu [ZX,ZX] (mGet amq (b7 (mVar 0) (b7 (mVar 1) mNil))) (bTup 2 (je (bj 0) (je (bj 1) bNil))) (ret ZW) aew)) (dSeq (dSet 3 (M.v (ret (.int 1)))) (dSeq (dFor (mGet qb (b7 (M.d (gb (g1 gL9) (dw 0 mNil))) mNil)) (bj 4) aej) (dRet (M.v (mTup (b7 (M.d (tu [ZX,ZY 0] (qi (mVar 2)) (bj 0) (ret ZW) ah3)) (b7 (mVar 3) mNil))))))))
def aes:Fd:=fnD 6 2 aqx
def aeo:Sd :=
 (dSeq (dSet 1 (mFn aes [ZX,ZX] (bc (mVar 0) (bc (M.d (mOp gMul (jd (M.d (mLst (b7 (ret (.int 0)) mNil))) (M.d (gb (g1 gL9) (dw 0 mNil)))))) fj)))) (dRet (mIf (aan (mIsN ZV (dj 1))) (M.v (ret (.int 0))) (mOp gIx (cz 1 (ret (.int 1)))))))
def jz:Fd:=fnD 2 1 aeo
def um:M Bool :=
 (mq (gEq ZW) (cz 3 (ret (.int 0))))
def ul:Sd :=
 (dSeq (dSet 4 (mOp (gInt fMod) (cz 1 (dj 3)))) (dSeq (dSet 1 (M.v (mVar 3))) (dSet 3 (M.v (mVar 4)))))
def l1_common_divisor:Sd :=
 (dSeq (dSet 3 (gb (g1 gAbs) (dw 2 mNil))) (whileD um ul fuel))
def abj:Sd :=
 (dSeq (dSet 1 (M.v (ret (.int 0)))) (dSeq (dFor (qi (mVar 0)) (bj 2) l1_common_divisor) (dRet (ahc 1))))
def j5:Fd:=fnD 5 1 abj
def yw:M D :=
 (mUn gNeg (au2 1 (b7 (mVar 0) mNil)))
def l1_doors_square:Sd :=
 (dSeq (dSet 4 (tu [ZX,ZY 3] (mGet qb (b7 (M.d (gb (g1 gL9) (dw 0 mNil))) mNil)) (bj 0) (ret ZW) yw)) (dSeq (ao5 (λi j=>i+j) 4 (mVar 2) (M.d (gb (g1 gL9) (dw 3 mNil)))) (adv (M.v (mMut 1 yo (b7 (mVar 4) mNil))))))
def ac8:Sd :=
 (dSeq (dSet 1 (mLst mNil)) (dSeq (dFor (mGet azg (b7 (mVar 0) mNil)) (bTup 2 (je (bj 2) (je (bj 3) bNil))) l1_doors_square) (dRet (ahc 1))))
def ou:Fd:=fnD 5 1 ac8
def ab2:Sd :=
 (dSet 2 (mOp gIx (cz 0 (dj 2))))
def yz:M Bool :=
 (mq (gEq ZW) (jd (M.d (mOp gIx (cz 0 (M.d (mOp gIx (cz 4 (mUn gNeg (ret (.int 1))))))))) (dj 2)))
def abm:Sd :=
 (adv (M.v (mMut 4 yo (b7 (M.d (mOp gIx (cz 0 (M.d (mOp gIx (cz 4 (mUn gNeg (ret (.int 1))))))))) mNil))))
def ahr:Sd :=
 (dSeq (dSet 2 (M.v (mVar 1))) (dSeq (dFor (mGet qb (b7 (M.d (gb (g1 gL9) (dw 0 mNil))) mNil)) (bj 3) ab2) (dSeq (dSet 4 (mLst (b7 (mVar 2) mNil))) (dSeq (whileD yz abm fuel) (dSeq (dSet 5 (M.v (a3h 4 ams (b7 (M.d (gb (g1 avz) (dw 4 mNil))) mNil)))) (dRet (gb (g1 gT9) (b7 (M.d (mOp gAdd (jd (M.d (au1 4 (asm (mVar 5)) (ret ZX))) (M.d (au1 4 (ret ZX) (asm (mVar 5))))))) mNil))))))))
def uz:Fd:=fnD 6 2 ahr
def uy:Sd :=
 (dSeq (dSet 4 (mFn uz [ZY 0,ZX] (bu 0 (bc (mVar 3) fj)))) (dIf (mq (gIn ZW) (cz 4 (dj 2))) (adv (M.v (mMut 2 yo (b7 (mVar 4) mNil)))) dNx))
def ajc:Sd :=
 (dSeq (dSet 2 (mLst mNil)) (dSeq (dFor (qi (M.d (mFn uc [ZY 0,ZY 1] (bu 0 (bu 1 fj))))) (bj 3) uy) (dRet (gb (g1 aeq) (dw 2 mNil)))))
def aax:Fd:=fnD 5 2 ajc
def aas:Sd :=
 (dSeq (adv (mFn jf [ZX,ZX] (bc (mVar 0) (bc (mVar 1) fj)))) (adv (mFn gk [ZY 0,ZX] (bu 0 (bc (mVar 2) fj)))))
def jr:Fd:=fnD 3 3 aas
def avx:Sd :=
 (dSeq (dSet 3 (mOp gIx (cz 1 (dj 2)))) (dSeq (dSub 1 (mVar 2) (M.d (mOp (gInt fMod) (jd (M.d (mOp gAdd (cz 3 (ret (.int 1))))) (M.d (gb (g1 gL9) (b7 (M.d (mOp gIx (cz 0 (dj 2)))) mNil))))))) (dRet (mOp gIx (jd (M.d (mOp gIx (cz 0 (dj 2)))) (dj 3))))))
def adu:Fd:=fnD 4 3 avx
def ug:Sd :=
 (dSeq (adv (mFn jr [ZX,ZX,ZX] (bc (mVar 0) (bc (mVar 1) (bc (mVar 2) fj))))) (adv (mFn jq [ZX] (bc (mVar 0) fj))))
def gm:Fd:=fnD 3 3 ug
def acg:M Bool :=
 (mq (gIn ZW) (cz 1 (M.d (mFn ud [ZY 2,ZY 0] (bu 2 (bu 0 fj))))))
def acb:M D :=
 (mVar 0)
def ahu:Sd :=
 (dRet (tu [ZX,ZY 1,ZY 0] (qi (M.d (mFn ud [ZY 0,ZX] (bu 0 (bc (mVar 1) fj))))) (bj 0) acg acb))
def yt:Fd:=fnD 2 2 ahu
def jo:Sd :=
 (dIf (mq (gIn ZW) (cz 2 (dj 3))) (dRet (ahc 3)) dNx)
def aab:Sd :=
 (dSeq (dFor (qi (M.d (mFn aax [ZX,ZX] (bc (M.d (mFn yp [ZX,ZX] (bc (mVar 0) (bc (mVar 1) fj)))) (bc (M.d (mFn ud [ZY 0,ZX] (bu 0 (bc (mVar 2) fj)))) fj))))) (bj 3) jo) (dRet (M.v (ret .non))))
def ig:Fd:=fnD 4 3 aab
def jk:M Bool :=
 (mq (gIn ZW) (jd (mFV "Stroll" 0 "place") (dj 1)))
def jj:Sd :=
 (dSeq (dFld "Stroll" 0 "place" (M.d (mFn adu [ZX,ZY 2,ZX] (bc (mFV "Stroll" 0 "house") ((mLnk "Stroll" 0 "turning" 2).bind λ_=>bu 2 (bc (mFV "Stroll" 0 "place") fj)))))) (ak9 "Stroll" 0 "steps" (ret (.int 1))))
def bz:Sd :=
 (whileD jk (af7 jj) fuel)
def acr:List (Str×M Rv) :=
 [("house", (M.v (mVar 1))),("turning", (gb (g1 λd=>(itemsD d).map λl=>.fr l) (dw 2 mNil))),("place", (M.v (mVar 3))),("steps", (M.v (ret (.int 0))))]
def jm:M Bool :=
 (mq (gEq ZV) (jd (M.d (mFn yt [ZY 1,ZY 0] (bu 1 (bu 0 fj)))) (M.d (mLst mNil))))
def jl:M D :=
 (mVar 0)
def ym:Ro->Option (BF×List D) :=
 (ajh "Stroll" 3 4 (au0 4 4 acr [ZY 0,ZY 1,ZY 2] (bu 0 (bu 1 (bu 2 fj)))) (dSeq (ao6 "Stroll" "go_till_in" 3 4 3 bz (M.d (tu [ZX,ZY 0] (mGet qb (b7 (M.d (gb (g1 gL9) (dw 0 mNil))) mNil)) (bj 0) jm jl))) dNx))
def gw:Ro->Option (BF×List D):=strD 5 3 ym
def qy:M Bool :=
 (aan (mIsN ZW (dj 4)))
def qw:Sd :=
 (dSeq (ao6 "Stroll" "go_till_in" 3 5 3 bz (mVar 4)) (dSet 4 (mFnW ig [ZX,ZY 5,ZX] (bc (mVar 0) ((mLnk "Stroll" 3 "turning" 5).bind λ_=>bu 5 (bc (mFV "Stroll" 3 "place") fj))))))
def ac7:Ro->Option (BF×List D) :=
 (ajh "Stroll" 3 5 (af0 gw [ZY 0,ZY 1,ZY 2] (bu 0 (bu 1 (bu 2 fj)))) (dSeq (dSet 4 (mFnW ig [ZX,ZY 5,ZX] (bc (mVar 0) ((mLnk "Stroll" 3 "turning" 5).bind λ_=>bu 5 (bc (mFV "Stroll" 3 "place") fj))))) (dSeq (whileD qy (af7 qw) fuel) dNx)))
def j6:Ro->Option (BF×List D):=strD 6 3 ac7
def aag:M Bool :=
 (mq (gEq ZW) (cz 0 (dj 1)))
def aad:M D :=
 (mVar 0)
def vh:M D :=
 (M.d (mFn jz [ZX] (bc (M.d (mFn ahz [ZY 1,ZX] (bu 1 (bc (M.d (tu [ZX,ZY 0] (qi (mVar 2)) (bj 0) aag aad)) fj)))) fj)))
def vg:Sd :=
 (dSub 5 (mVar 6) (M.d (mOp (gInt fDiv) (cz 7 (dj 4)))))
def aem:Sd :=
 (dSeq (dSet 2 (mFn ou [ZX] (bc (mVar 0) fj))) (dSeq (dSet 3 (tu [ZX,ZY 2,ZY 1] (qi (mVar 1)) (bj 0) (ret ZW) vh)) (dSeq (dSet 4 (mFn j5 [ZX] (bc (mVar 3) fj))) (dSeq (dSet 5 (mOp gMul (jd (M.d (mLst (b7 (ret (.int 0)) mNil))) (M.d (gb (g1 gL9) (dw 0 mNil)))))) (dSeq (dFor (mGet amq (b7 (mVar 1) (b7 (mVar 3) mNil))) (bTup 2 (je (bj 6) (je (bj 7) bNil))) vg) (dRet (gb (g1 gT9) (dw 5 mNil))))))))
def lu:Fd:=fnD 8 2 aem
def yu:M D :=
 (M.d (mOp gMul (cz 0 (M.d (gb (g1 gL9) (dw 1 mNil))))))
def ajb:Sd :=
 (dSeq (adv (mFn gm [ZX,ZX,ZX] (bc (mVar 0) (bc (mVar 1) (bc (mVar 2) fj))))) (dGot "Stroll" 3 5 (af0 j6 [ZX,ZY 1,ZY 2] (bc (mVar 0) (bu 1 (bu 2 fj)))) (dSeq (dSet 4 (mFn lu [ZX,ZX] (bc (mVar 0) (bc (M.d (mFn ud [ZY 0,ZX] (bu 0 (bc (mFV "Stroll" 3 "place") fj)))) fj)))) (dRet (M.v (mTup (b7 (mFV "Stroll" 3 "steps") (b7 (M.d (gb (g1 gSum) (b7 (M.d (tu [ZX,ZX] (mGet amq (b7 (mVar 4) (b7 (mVar 0) mNil))) (bTup 2 (je (bj 0) (je (bj 1) bNil))) (ret ZW) yu)) mNil))) mNil))))))))
def aaw:Fd:=fnD 6 3 ajb
def adt:Sd :=
 (dSeq (dIf (mq (gCmp λi j=>decide (i < j)) (cz 1 (M.d (gb (g1 gL9) (dw 0 mNil))))) (dRet (mOp gIx (cz 0 (dj 1)))) dNx) (dRet (M.v (ret (.int 0)))))
def f__law_cell:Fd:=fnD 2 2 adt
def aje:Sd :=
 (dSeq (dSet 1 (gb (g2 (gInt λi j=>ZY (if j > i then j else i))) (dw 0 (b7 (M.d (mOp (gInt fSub) (jd (ret (.int 0)) (dj 0)))) mNil)))) (dRet (mLst (b7 (mVar 1) (b7 (M.d (gb (g1 azd) (b7 (M.d (mOp (gCmp λi j=>decide (j<=i)) (cz 1 (M.d (mOp (gInt fPow) (jd (ret (.int 10)) (ret (.int 18)))))))) mNil))) mNil)))))
def f__law_pen:Fd:=fnD 2 1 aje
def adq:Sd :=
 (dSeq (dIf (mq (gEq ZV) (jd (M.d (mOp gIx (cz 0 (ret (.int 1))))) (ret (.int 1)))) (dSeq (dAsg (M.d (gb (g2 ak0) (b7 (M.d (mOp gIx (cz 0 (ret (.int 0))))) (dw 1 mNil)))) (bTup 2 (je (bj 2) (je (bj 3) bNil)))) (dSeq (dSub 0 (ret (.int 0)) (mVar 2)) (dRet (ahc 3)))) dNx) (dSeq (dSet 4 (mOp (gInt fMod) (jd (M.d (mOp gMul (jd (M.d (mOp gAdd (jd (M.d (mOp (gInt fMod) (jd (M.d (mOp gIx (cz 0 (ret (.int 0))))) (ret (.int 2147483647))))) (ret (.int 40503))))) (ret (.int 69621))))) (ret (.int 2147483629))))) (dSeq (dSet 4 (mOp (gInt fMod) (jd (M.d (mOp gAdd (jd (M.d (mOp gMul (cz 4 (dj 4)))) (ret (.int 7817))))) (ret (.int 2147483587))))) (dSeq (dSub 0 (ret (.int 0)) (M.d (mOp (gInt fMod) (jd (M.d (mOp gAdd (jd (M.d (mOp gMul (cz 4 (ret (.int 48271))))) (ret (.int 11))))) (ret (.int 2147483629)))))) (dRet (mOp (gInt fMod) (jd (M.d (mOp (gInt fDiv) (jd (M.d (mOp gIx (cz 0 (ret (.int 0))))) (ret (.int 32))))) (dj 1))))))))
def f__law_draw:Fd:=fnD 5 2 adq
def af2:Sd :=
 (dRet (M.v (mAnd (mIsi .int (dj 0)) (mUn gNot (mIsi .bool (dj 0))))))
def wg:Fd:=fnD 1 1 af2
def acd:M D :=
 (M.d (mFn f__law_draw [ZY 1,ZY 2] (bu 1 (bu 2 fj))))
def l1__law_shut:Sd :=
 (dSeq (dSet 6 (mOp gAdd (jd (ret (.int 1)) (M.d (mFn f__law_draw [ZY 0,ZY 2] (bu 0 (bu 2 fj))))))) (dSeq (dSet 7 (tu [ZX,ZY 0,ZY 3] (mGet qb (b7 (mVar 6) mNil)) (bj 0) (ret ZW) acd)) (dSeq (dIf (mq (gEq ZV) (jd (M.d (mFn f__law_draw [ZY 0,ZX] (bu 0 (bc (ret (.int 2)) fj)))) (ret (.int 1)))) (dSub 7 (ret (.int 0)) (M.d (mOp (gInt fMod) (jd (M.d (mOp gAdd (cz 5 (ret (.int 1))))) (dj 3))))) dNx) (adv (M.v (mMut 4 yo (b7 (M.d (gb (g1 gT9) (dw 7 mNil))) mNil)))))))
def ahv:Sd :=
 (dSeq (dSet 3 (mOp gAdd (jd (ret (.int 1)) (M.d (mFn f__law_draw [ZY 0,ZY 1] (bu 0 (bu 1 fj))))))) (dSeq (dSet 4 (mLst mNil)) (dSeq (dFor (mGet qb (b7 (mVar 3) mNil)) (bj 5) l1__law_shut) (dRet (gb (g1 gT9) (dw 4 mNil))))))
def f__law_shut:Fd:=fnD 8 3 ahv
def aaf:M D :=
 (M.d (mFn f__law_draw [ZY 1,ZX] (bu 1 (bc (M.d (gb (g1 gL9) (dw 0 mNil))) fj))))
def aep:Sd :=
 (dRet (gb (g1 gT9) (b7 (M.d (tu [ZX,ZY 0] (qi (mVar 1)) (bj 0) (ret ZW) aaf)) mNil)))
def f__law_arrows:Fd:=fnD 2 2 aep
def ahw:Sd :=
 (dSeq (dSet 3 (mOp gIx (cz 1 (dj 2)))) (dSeq (dSet 4 (gb (g1 λd=>(itemsD d).map λl=>.fr l) (dw 1 mNil))) (dSeq (dSub 4 (mVar 2) (M.d (mOp (gInt fMod) (jd (M.d (mOp gAdd (cz 3 (ret (.int 1))))) (M.d (gb (g1 gL9) (b7 (M.d (mOp gIx (cz 0 (dj 2)))) mNil))))))) (dRet (M.v (mTup (b7 (M.d (gb (g1 gT9) (dw 4 mNil))) (b7 (M.d (mOp gIx (jd (M.d (mOp gIx (cz 0 (dj 2)))) (dj 3)))) mNil))))))))
def u5:Fd:=fnD 5 3 ahw
def abd:M D :=
 (M.d (mFn wg [ZY 0] (bu 0 fj)))
def af3:Sd :=
 (dSeq (dIf (mOrB (ahb (aan (mIsi .tuple (dj 0)))) (mq (gEq ZW) (cz 0 (dj 1)))) (dRet (M.v (ret (.bl ZV)))) dNx) (dRet (gb (g1 gAll) (b7 (M.d (tu [ZX] (qi (mVar 0)) (bj 0) (ret ZW) abd)) mNil))))
def qj:Fd:=fnD 2 2 af3
def ab4:Sd :=
 (a4i 3 4 1 2 5 (mLst mNil) (mTup (b7 (mVar 1) (b7 (mVar 2) mNil))) (M.d (gb (g1 gL9) (dw 4 mNil))) (M.v (mMut 4 yo (b7 (mTup (b7 (mVar 1) (b7 (mVar 2) mNil))) mNil))) (M.d (mFn u5 [ZY 0,ZY 1,ZX] (bu 0 (bu 1 (bc (mVar 2) fj))))) fuel (dRet (M.v (mTup (b7 (mVar 5) (b7 (M.d (mOp (gInt fSub) (jd (M.d (gb (g1 gL9) (dw 4 mNil))) (dj 5)))) (b7 (mVar 4) mNil)))))))
def wj:Fd:=fnD 6 3 ab4
def aba:Sd :=
 (dIf (ahb (aan (M.d (mFn qj [ZX,ZX] (bc (M.d (mFn aaw [ZX,ZX,ZX] (bc (mVar 0) (bc (mVar 1) (bc (mVar 2) fj))))) (bc (mTup (b7 (mVar 3) (b7 (mVar 4) mNil))) fj)))))) (dRet (M.v (ret (.bl ZV)))) dNx)
def af4:Sd :=
 (dSeq (dAsg (M.d (mFn wj [ZY 0,ZX,ZX] (bu 0 (bc (mVar 1) (bc (mVar 2) fj))))) (bTup 3 (je (bj 3) (je (bj 4) (je (bj 5) bNil))))) (dSeq (dFor (mGet qb (b7 (ret (.int 2)) mNil)) (bj 6) aba) (dRet (M.v (ret (.bl ZW))))))
def ju:Fd:=fnD 7 3 af4
def aqh:Sd :=
 (dIf (ahb (aan (M.d (mFn ju [ZX,ZX,ZX] (bc (mVar 3) (bc (mVar 4) (bc (mVar 5) fj))))))) (dRet (M.v (ret (.bl ZV)))) dNx)
def l2_law:Sd :=
 (dSeq (dSet 2 (mFn f__law_pen [ZY 1] (bu 1 fj))) (dSeq (dSet 3 (mFn f__law_shut [ZY 2,ZX,ZX] (bu 2 (bc (M.d (mOp gIx (jd (M.d (mLst (b7 (ret (.int 3)) (b7 (ret (.int 4)) (b7 (ret (.int 5)) mNil))))) (M.d (mFn f__law_draw [ZY 2,ZX] (bu 2 (bc (ret (.int 3)) fj))))))) (bc (ret (.int 3)) fj))))) (dSeq (dSet 4 (mFn f__law_arrows [ZY 2,ZX] (bu 2 (bc (mVar 3) fj)))) (dFor (mGet qb (b7 (M.d (gb (g1 gL9) (dw 3 mNil))) mNil)) (bj 5) aqh))))
def a8g:Sd :=
 (dSeq (dIf (mOrB (ahb (aan (M.d (mFn ju [ZX,ZX,ZX] (bc (mTup (b7 (mTup (b7 (ret (.int 0)) mNil)) mNil)) (bc (mTup (b7 (ret (.int 0)) mNil)) (bc (ret (.int 0)) fj))))))) (ahb (aan (M.d (mFn ju [ZX,ZX,ZX] (bc (mTup (b7 (mTup (b7 (ret (.int 0)) (b7 (ret (.int 1)) mNil))) (b7 (mTup (b7 (ret (.int 1)) mNil)) mNil))) (bc (mTup (b7 (ret (.int 0)) (b7 (ret (.int 0)) mNil))) (bc (ret (.int 0)) fj)))))))) (dRet (M.v (ret (.bl ZV)))) dNx) (dSeq (dFor (qi (M.d (mOp gAdd (jd (M.d (mLst (b7 (M.d (mFn f__law_cell [ZY 0,ZX] (bu 0 (bc (ret (.int 0)) fj)))) mNil))) (M.d (au1 0 (asm (ret (.int 1))) (asm (ret (.int 3))))))))) (bj 1) l2_law) (dRet (M.v (ret (.bl ZW))))))
def av4:Fd:=fnD 6 1 a8g
noncomputable def air:D->Bool
 | .int _=>ZW
 | _=>ZV
noncomputable def ae6(a b:Int):D->Bool
 | .int i=>decide (a<=i)&&decide (i<=b)
 | _=>ZV
@[simp] theorem a3q(d:D):aay [.val d]=ZY (.ok (.v (.bl (air d))),[.val d]):=by
 cases d <;> simp[aay,ajd,isTy,air]
@[simp] theorem aqn(d:D)(a b:Int):jb [.val d,.val (.int a),.val (.int b)]=ZY (.ok (.v (.bl (ae6 a b d))),[.val d,.val (.int a),.val (.int b)]):=by
 cases d <;> simp[jb,aat,air,ae6]
theorem awp(ns:List Int)(k:Int)(h:0<=k):∃n,f__law_cell [.val (.kst (ns.map D.int)),.val (.int k)]=ZY (.ok (.v (.int n)),[.val (.kst (ns.map D.int)),.val (.int k)]):=by
 by_cases hk:k < (ns.length:Int)
 ·have e:atI (ns.map D.int) k=ZY (.int (ns[k.toNat]'(by omega))):=by
   have h2:atI (ns.map D.int) ((k.toNat:Nat):Int)=ZY (.int (ns[k.toNat]'(by omega))):=ald (by simp[aN,aC (show k.toNat < ns.length by omega)])
   rw[show((k.toNat:Nat):Int)=k by omega] at h2
   exact h2
  exact⟨ns[k.toNat]'(by omega),by simp[f__law_cell,adt,hk,e]⟩
 ·exact⟨0,by simp[f__law_cell,adt,hk]⟩
noncomputable def pen(P:Int×Int):List D:=[.int P.1,.int P.2]
theorem ax1(n:Int):∃P,f__law_pen [.val (.int n)]=ZY (.ok (.fr (pen P)),[.val (.int n)]):=by
 refine⟨(if 0 - n > n then 0 - n else n,if 10 ^ 18<=(if 0 - n > n then 0 - n else n) then 1 else 0),?_⟩
 simp[f__law_pen,aje,pen,fPow]
theorem aaz(P:Int×Int)(m:Int)(h0:0 < m)(h1:m < 1000000000000000000000000000000000000000000000000000000000000):∃r P',f__law_draw [.own (ZY 0) (pen P),.val (.int m)]=ZY (.ok (.v (.int r)),[.own (ZY 0) (pen P'),.val (.int m)])/\0<=r/\r < m:=by
 obtain⟨a,b⟩:=P
 by_cases hb:b=1
 ·refine⟨a % m,(a / m,b),?_,mQ _ (by omega),iI _ h0⟩
  simp[f__law_draw,adq,pen,hb,h0,h1,atI,ixN]
 ·have z0:0<=(a % 2147483647+40503)*69621 % 2147483629:=mQ _ (by decide)
  have z1:(a % 2147483647+40503)*69621 % 2147483629 < 2147483629:=iI _ (by decide)
  generalize hz:(a % 2147483647+40503)*69621 % 2147483629=z at z0 z1;have hm:fMul z z=ZY (z*z):=by
   unfold fMul;rw[if_pos (.inl ⟨by omega,by omega⟩)]
  refine⟨((z*z+7817) % 2147483587*48271+11) % 2147483629 / 32 % m,(((z*z+7817) % 2147483587*48271+11) % 2147483629,b),?_,mQ _ (by omega),iI _ h0⟩
  have h69:∀x:Int,fMul x 69621=ZY (x*69621):=λx=>by unfold fMul;rw[if_pos (.inr (by decide))]
  have h48:∀x:Int,fMul x 48271=ZY (x*48271):=λx=>by unfold fMul;rw[if_pos (.inr (by decide))]
  simp[f__law_draw,adq,pen,hb,h0,h1,atI,ixN,h69,h48,hm,fMod,fDiv,hz]
structure HouseOk (m w:Int) (qq:LL9):Prop where
 one:1<=qq.length
 most:(qq.length:Int)<=m
 room:∀r∈qq,1<=r.length/\(r.length:Int)<=w/\∀x∈r,0<=x/\x < (qq.length:Int)
noncomputable def hDs(qq:LL9):List D:=qq.map λr=>D.tup (r.map D.int)
def hD(qq:LL9):D:=.tup (hDs qq)
theorem atv(P:Int×Int)(m w:Int)(w1:1<=w)(w2:w<=6){n:Int}(n1:1<=n)(n2:n<=10)(i:Nat)(hi:(i:Int) < n)(qq:LL9)(hl:qq.length<=10)(o1 o2:Sl):∃ns P' q1 q2,l1__law_shut [.own (ZY 0) (pen P),.val (.int m),.val (.int w),.val (.int n),.own ZX (hDs qq),.val (.int (i:Int)),o1,o2]=ZY (.nx,[.own (ZY 0) (pen P'),.val (.int m),.val (.int w),.val (.int n),.own ZX (hDs (qq++[ns])),.val (.int (i:Int)),q1,q2])
  /\ 1<=ns.length/\(ns.length:Int)<=w/\∀x∈ns,0<=x/\x < n:=by
 obtain⟨r5,P5,e5,r5a,r5b⟩:=aaz P w (by omega) (by omega)
 have comp:=wk (b:=bj 0) (mc:=ret ZW) (me:=acd) (λj ys ρ=>∃ns P o,ρ=[o,.own (ZY 1) (pen P),.val (.int n)]/\ys=ns.map D.int/\ns.length=j/\∀x∈ns,0<=x/\x < n)
  (l:=rangeD 0 (1+r5).toNat) (ys:=[]) (ρ:=[.emp,.own (ZY 1) (pen P5),.val (.int n)]) 0 ⟨[],P5,.emp,rfl,rfl,rfl,by simp⟩ ?_
 ·obtain⟨ys,ρ',e6,ns,P6,o,rfl,rfl,hn,hx⟩:=comp;have hn:ns.length=(1+r5).toNat:=by simpa[rangeD] using hn
  have hb:(1+r5).natAbs < 4611686018427387904:=by omega
  have hc1:ns.length<=capS:=cg (by omega)
  have hc2:(hDs qq).length < capS:=by simp[hDs,capS];omega
  obtain⟨r7,P7,e7,r7a,r7b⟩:=aaz P6 2 (by decide) (by decide)
  have hm:fMod ((i:Int)+1) n=ZY (((i:Int)+1) % n):=by
   unfold fMod;rw[if_pos (by omega)]
  cases ns with
  | nil=>simp at hn;omega
  | cons x r =>
   have hc1:r.length+1<=capS:=by simpa using hc1
   by_cases q:r7=1
   ·refine⟨((i:Int)+1) % n::r,P7,.val (.int (1+r5)),.own ZX ((((i:Int)+1) % n::r).map D.int),?_,by simp,by simp at hn ⊢;omega,λy hy =>?_⟩
    ·have e8:ixN (r.length+1) 0=ZY 0:=by simp[ixN]
     simp[l1__law_shut,e5,hb,e6,hc1,e7,q,hm,hc2,e8];simp[hDs]
    ·rcases bG.mp hy with rfl | hy
     ·exact⟨Int.emod_nonneg _ (by omega),iI _ (by omega)⟩
     ·exact hx y (aA _ hy)
   ·refine⟨x::r,P7,.val (.int (1+r5)),.own ZX ((x::r).map D.int),?_,by simp,by simp at hn ⊢;omega,hx⟩
    simp[l1__law_shut,e5,hb,e6,hc1,e7,q,hc2];simp[hDs]
 ·rintro j d ys ρ hd ⟨ns,P6,o,rfl,rfl,hn,hx⟩
  obtain⟨r7,P7,e7,r7a,r7b⟩:=aaz P6 n (by omega) (by omega)
  refine⟨_,_,ZW,rfl,rfl,.inr ⟨rfl,.int r7,_,by simp[acd,e7];rfl,ns++[r7],P7,_,rfl,by simp,by simp[hn],λx h =>?_⟩⟩
  rcases cN.mp h with h | h
  ·exact hx x h
  ·obtain rfl:x=r7:=by simpa using h
   omega
theorem atw(P:Int×Int)(m w:Int)(m1:1<=m)(m2:m<=10)(w1:1<=w)(w2:w<=6):∃qq P',f__law_shut [.own (ZY 0) (pen P),.val (.int m),.val (.int w)]=ZY (.ok (.v (hD qq)),[.own (ZY 0) (pen P'),.val (.int m),.val (.int w)])/\HouseOk m w qq:=by
 obtain⟨r1,P1,e1,r1a,r1b⟩:=aaz P m (by omega) (by omega)
 have loop:=acv (b:=bj 5) (g:=l1__law_shut) (λi ρ=>∃qq P o o1 o2,ρ=[.own (ZY 0) (pen P),.val (.int m),.val (.int w),.val (.int (1+r1)),.own ZX (hDs qq),o,o1,o2]/\qq.length=i/\∀r∈qq,1<=r.length/\(r.length:Int)<=w/\∀x∈r,0<=x/\x < 1+r1)
  (l:=rangeD 0 (1+r1).toNat) (ρ:=[.own (ZY 0) (pen P1),.val (.int m),.val (.int w),.val (.int (1+r1)),.own ZX [],.emp,.emp,.emp]) 0 ⟨[],P1,.emp,.emp,.emp,rfl,rfl,by simp⟩ ?_
 ·obtain⟨ρ',e3,qq,P3,o,o1,o2,rfl,hl,hr⟩:=loop;have hl:qq.length=(1+r1).toNat:=by simpa[rangeD] using hl
  refine⟨qq,P3,?_,by omega,by omega,λr h =>?_⟩
  ·have hb:(1+r1).natAbs < 4611686018427387904:=by omega
   simp[f__law_shut,ahv,e1,hb,e3,hD]
  ·obtain⟨a,b,c⟩:=hr r h;exact⟨a,b,λx hx=>by have:=c x hx;omega⟩
 ·rintro i d ρ hd ⟨qq,P4,o,o1,o2,rfl,hl,hr⟩
  have hi:i < (1+r1).toNat:=by
   have:=(aQ.mp hd).1
   simpa[rangeD] using this
  have ed:d=.int (i:Int):=by
   unfold rangeD at hd;rw[aN,bM hi] at hd;have:=bO hd
   simpa using this.symm
  subst ed;obtain⟨ns,P5,q1,q2,e,z1,z2,z3⟩:=atv P4 m w w1 w2 (n:=1+r1) (by omega) (by omega) i (by omega) qq (by omega) o1 o2
  refine⟨_,_,rfl,.inl e,qq++[ns],P5,_,_,_,rfl,by simp[hl],λr h =>?_⟩
  rcases cN.mp h with h | h
  ·exact hr r h
  ·obtain rfl:r=ns:=by simpa using h
   exact⟨z1,z2,z3⟩
structure Hs (qq:LL9):Prop where
 one:1<=qq.length
 most:qq.length<=10
 room:∀r∈qq,1<=r.length/\r.length<=6/\∀x∈r,-3<=x/\x < (qq.length:Int)
noncomputable def dr(qq:LL9)(x:Int):List Int:=qq.getD x.toNat []
inductive Rch (qq:LL9) (a:Int):Int->Prop
 | base:Rch qq a a
 | step {x d:Int}:Rch qq a x->0<=x->d∈dr qq x->Rch qq a d
theorem apa{qq:LL9}{x:Int}(h0:0<=x)(h1:x < (qq.length:Int)):atI (hDs qq) x=ZY (.tup ((dr qq x).map D.int)):=by
 have hk:x.toNat < qq.length:=by omega
 have q:atI (hDs qq) ((x.toNat:Nat):Int)=ZY (.tup ((dr qq x).map D.int)):=ald (by simp[hDs,dr,aC hk])
 rw[show((x.toNat:Nat):Int)=x by omega] at q
 exact q
theorem Hs.dr{qq:LL9}(h:Hs qq){x:Int}(h0:0<=x)(h1:x < (qq.length:Int)):1<=(dr qq x).length/\(My.dr qq x).length<=6/\∀y∈My.dr qq x,-3<=y/\y < (qq.length:Int):=by
 have hk:x.toNat < qq.length:=by omega
 have e:My.dr qq x=qq[x.toNat]:=by simp[My.dr,hk]
 rw[e];exact h.room _ (dO hk)
theorem Rch.range{qq:LL9}(h:Hs qq){a x:Int}(ha:0<=a/\a < (qq.length:Int))(r:Rch qq a x) : -3<=x/\x < (qq.length:Int):=by
 induction r with
 | base=>omega
 | step r h0 hd ih=>exact(h.dr h0 ih.2).2.2 _ hd
theorem ag9:∀(m:Nat) (l:List Int),l.Nodup->(∀x∈l,-3<=x/\x < (m:Int) - 3)->l.length<=m
 | 0,l,_,h=>by
  cases l with
  | nil=>simp
  | cons x r=>have:=h x (aF ..);omega
 | m+1,l,hn,h=>by
  have h1:(l.erase ((m:Int) - 3)).length<=m:=ag9 m _ (hn.erase _) λx hx=>by
   rw[hn.mem_erase_iff] at hx;have:=h x hx.2;have:=hx.1;omega
  have h2:l.length<=(l.erase ((m:Int) - 3)).length+1:=by
   rw[wA];split <;> omega
  omega
theorem a1z{qq:LL9}(h:Hs qq){a:Int}(ha:0<=a/\a < (qq.length:Int)){ns:List Int}(hn:ns.Nodup)(hr:∀x∈ns,Rch qq a x):ns.length<=13:=by
 have:=ag9 (qq.length+3) ns hn λx hx=>by have:=Rch.range h ha (hr x hx);omega
 have:=h.most;omega
theorem aob{qq:LL9}{a:Int}{ns:List Int}(h0:a∈ns)(hc:∀x∈ns,∀d∈dr qq x,0<=d->d∈ns){x:Int}(r:Rch qq a x)(hx:0<=x):x∈ns:=by
 induction r with
 | base=>exact h0
 | step r h0 hd ih=>exact hc _ (ih h0) _ hd hx
theorem a85{ns:List Int}{i:Nat}(h:i < ns.length):atI (ns.map D.int) (i:Int)=ZY (.int ns[i]):=ald (by simp[aC h])
def Sh(qq:LL9):Prop:=∀r∈qq,∀x∈r,0<=x
theorem HouseOk.hs{m w:Int}{qq:LL9}(h:HouseOk m w qq)(hm:m<=10)(hw:w<=6):Hs qq :=
 ⟨h.one,by have:=h.most;omega,λr hr=>by obtain⟨a,b,c⟩:=h.room r hr;exact⟨a,by omega,λx hx=>by have:=c x hx;omega⟩⟩
theorem HouseOk.sh{m w:Int}{qq:LL9}(h:HouseOk m w qq):Sh qq:=λr hr x hx=>((h.room r hr).2.2 x hx).1
open Classical in
noncomputable def caught(qq:LL9)(a:Int):Bool:=decide (∀x,Rch qq a x->0<=x)
theorem yl(qq:LL9)(a:Int):caught qq a=ZW↔∀x,Rch qq a x->0<=x:=by
 unfold caught;exact @decide_eq_true_iff _ (Classical.propDecidable _)
noncomputable def upto(n:Nat):List Int:=(aJ n).map λi=>((i:Nat):Int)
theorem agz(n:Nat):rangeD 0 n=(upto n).map D.int:=by
 unfold rangeD upto;rw[cL];apply cY;intro i _;simp
theorem vf{n:Nat}{x:Int}(h:x∈upto n):0<=x/\x < (n:Int):=by
 obtain⟨i,hi,rfl⟩:=bJ.mp h;have:=cD.mp hi;omega
noncomputable def fc(qq:LL9):List Int:=(upto qq.length).filter (caught qq)
theorem anz{qq:LL9}(h:Hs qq):(qq.length:Int).natAbs < 4611686018427387904:=by have:=h.most;omega
theorem aub{qq:LL9}(h:Hs qq):qb [.int (qq.length:Int)]=ZY (rangeD 0 qq.length):=by
 rw[aoy,if_pos (anz h),bZ]
theorem a0p{qq:LL9}(h:Hs qq):∃L:Int,((hDs qq).length:Int)=L/\qb [.int L]=ZY (rangeD 0 qq.length) :=
 ⟨_,rfl,by rw[show(hDs qq).length=qq.length by simp[hDs]];exact aub h⟩
theorem ays{src:List (Option Nat)}{mi:M (List D)}{b:D->Ro->Option Ro}{mc:M Bool}{me:M D}{ρ ρ1 ps:Ro}{l ys:List D}(e:mi ρ=ZY (.ok l,ρ1))(hj:okJs ρ1 src=ZW)(ec:compD b mc me l [] (lend ρ1 src (src.map λ_=>ZX))=ZY (.ok ys,ps))(hc:ys.length<=capS) :
  tu src mi b mc me ρ=ZY (.ok (.fr ys),putB ρ1 src ps):=by
 rw[ayt,a4q,e];dsimp only;rw[if_pos hj,ec];dsimp only;rw[if_pos hc]
theorem zz(qq:LL9):(hDs qq).length=qq.length:=by simp[hDs]
theorem akt{qq:LL9}{i:Nat}{d:D}(h:(hDs qq)[i]? = ZY d):∃r,qq[i]? = ZY r/\d=.tup (r.map D.int):=by
 unfold hDs at h;rw[aN] at h;obtain⟨r,e,rfl⟩:=cZ.mp h;exact⟨r,e,rfl⟩
structure Arr (qq:LL9) (as:List Int):Prop where
 len:as.length=qq.length
 ok:∀(i:Nat) (a:Int) (r:List Int),as[i]? = ZY a->qq[i]? = ZY r->0<=a/\a < (r.length:Int)
noncomputable def ar(as:List Int)(x:Int):Int:=as.getD x.toNat 0
theorem Arr.at{qq:LL9}{as:List Int}(h:Arr qq as){x:Int}(h0:0<=x)(h1:x < (qq.length:Int)):0<=ar as x/\ar as x < ((dr qq x).length:Int):=by
 have hk:x.toNat < qq.length:=by omega
 have hk2:x.toNat < as.length:=by rw[h.len];exact hk
 have:=h.ok x.toNat as[x.toNat] qq[x.toNat] (aC hk2) (aC hk)
 simpa[ar,dr,hk,hk2] using this
theorem apc(P:Int×Int){qq:LL9}(h:Hs qq):∃as P',f__law_arrows [.own (ZY 0) (pen P),.val (hD qq)]=ZY (.ok (.v (.tup (as.map D.int))),[.own (ZY 0) (pen P'),.val (hD qq)])/\Arr qq as:=by
 have comp:=wk (b:=bj 0) (mc:=ret ZW) (me:=aaf) (λj ys ρ=>∃ns P o,ρ=[o,.own (ZY 1) (pen P)]/\ys=ns.map D.int/\ns.length=j/\∀(i:Nat) (a:Int) (r:List Int),ns[i]? = ZY a->qq[i]? = ZY r->0<=a/\a < (r.length:Int))
  (l:=hDs qq) (ys:=[]) (ρ:=[.emp,.own (ZY 1) (pen P)]) 0 ⟨[],P,.emp,rfl,rfl,rfl,by simp⟩ ?_
 ·obtain⟨ys,ρ',e6,ns,P6,o,rfl,rfl,hn,hx⟩:=comp;rw[zz,cJ] at hn;have hc:ns.length<=capS:=cg (by have:=h.most;omega)
  exact⟨ns,P6,by simp[f__law_arrows,aep,hD,e6,hc],hn,hx⟩
 ·rintro j d ys ρ hd ⟨ns,P6,o,rfl,rfl,hn,hx⟩
  obtain⟨r,hr,rfl⟩:=akt hd;obtain⟨k1,k2,k3⟩:=h.room r (cR hr);obtain⟨r7,P7,e7,r7a,r7b⟩:=aaz P6 (r.length:Int) (by omega) (by omega)
  refine⟨_,_,ZW,rfl,rfl,.inr ⟨rfl,.int r7,[.val (.tup (r.map D.int)),.own (ZY 1) (pen P7)],by simp[aaf,e7],ns++[r7],P7,_,rfl,by simp,by simp[hn],λi a q ha hq =>?_⟩⟩
  rcases iW i ns.length with z | z
  ·rw[bF z] at ha;exact hx i a q ha hq
  ·have hi:i=ns.length:=by
    have:=(aQ.mp ha).1;simp at this;omega
   subst hi;simp at ha;subst ha;have:ns.length=j:=by omega
   rw[this,hr] at hq;cases hq;exact⟨r7a,r7b⟩
def gone(qq:LL9)(as:List Int)(k:Int):List Int:=as.set k.toNat ((ar as k+1) % ((dr qq k).length:Int))
def led(qq:LL9)(as:List Int)(k:Int):Int:=(dr qq k).getD (ar as k).toNat 0
section
variable{qq:LL9}(h:Hs qq){as:List Int}(ha:Arr qq as){k:Int}(h0:0<=k)(h1:k < (qq.length:Int))
include h ha h0 h1
theorem ari:atI (as.map D.int) k=ZY (.int (ar as k)):=ae4 h0 (by rw[ha.len];exact h1)
theorem aw6:atI ((dr qq k).map D.int) (ar as k)=ZY (.int (led qq as k)):=ae4 (ha.at h0 h1).1 (ha.at h0 h1).2
theorem amu(x:Int):fMod x ((dr qq k).length:Int)=ZY (x % ((dr qq k).length:Int)):=by
 have:=(h.dr h0 h1).1;unfold fMod;rw[if_pos (by omega)]
theorem a3k:u5 [.val (hD qq),.val (.tup (as.map D.int)),.val (.int k)]=ZY (.ok (.v (.tup [.tup ((gone qq as k).map D.int),.int (led qq as k)])),[.val (hD qq),.val (.tup (as.map D.int)),.val (.int k)]):=by
 have e1:=apa h0 h1;have e2:=ari h ha h0 h1;have e3:=aw6 h ha h0 h1;have e4:=amu h ha h0 h1 (ar as k+1);have e5:ixN as.length k=ZY k.toNat:=afo h0 (by rw[ha.len];exact h1)
 have e6:as.length<=capS:=cg (by have:=h.most;rw[ha.len];omega)
 simp[u5,ahw,hD,e1,e2,e3,e4,e5,e6,gone]
end
section
variable{qq:LL9}(h:Hs qq){as:List Int}(ha:Arr qq as){k:Int}(h0:0<=k)(h1:k < (qq.length:Int))
include h ha h0 h1
theorem aku:Arr qq (gone qq as k):=by
 have hd:=(h.dr h0 h1).1;refine⟨by unfold gone;rw[bW];exact ha.len,λi a r g1 g2 =>?_⟩
 unfold gone at g1;rw[bC] at g1;split at g1
 ·rename_i hi;subst hi;split at g1
  ·cases g1;have:dr qq k=r:=by simp[dr,g2]
   rw[this] at hd ⊢
   exact⟨Int.emod_nonneg _ (by omega),iI _ (by omega)⟩
  ·cases g1
 ·exact ha.ok i a r g1 g2
end
theorem a71{qq:LL9}(h:Hs qq){as:List Int}(ha:Arr qq as){k:Int}(h0:0<=k)(h1:k < (qq.length:Int)) : -3<=led qq as k/\led qq as k < (qq.length:Int):=by
 obtain⟨a1,a2⟩:=ha.at h0 h1;have hk:(ar as k).toNat < (dr qq k).length:=by omega
 have:led qq as k∈dr qq k:=by
  unfold led;simp[hk]
 exact(h.dr h0 h1).2.2 _ this
def wd(qq:LL9)(k:Int):Int:=((dr qq k).length:Int)
def zy(qq:LL9)(as:List Int)(k:Int):Int:=(dr qq k).getD ((ar as k - 1) % wd qq k).toNat 0
theorem a4s{r:List Int}{a:Int}(h0:0<=a)(h1:a < (r.length:Int)):atI (r.map D.int) (a - 1)=ZY (.int (r.getD ((a - 1) % (r.length:Int)).toNat 0)):=by
 by_cases z:1<=a
 ·rw[eU (by omega) (by omega)]
  exact ae4 (by omega) (by omega)
 ·have:a=0:=by omega
  subst this;have e:((0:Int) - 1) % (r.length:Int)=(r.length:Int) - 1:=by
   have:=mY ((0:Int) - 1) (r.length:Int);rw[<-this,eU (by omega) (by omega)]
   omega
  rw[e];have hn:((r.length:Int) - 1).toNat=r.length - 1:=by omega
  rw[hn];have hl:r.length - 1 < r.length:=by omega
  have h3:ixN (r.map D.int).length (0 - 1)=ZY (r.length - 1):=by
   unfold ixN;rw[aK];have a1:¬(0<=(0:Int) - 1):=by omega
   have a2 : -(r.length:Int)<=(0:Int) - 1:=by omega
   simp[a2];omega
  unfold atI;rw[h3];simp[aC hl]
def lasts(qq:LL9)(as:List Int):List Int:=(aJ qq.length).map λ(i:Nat)=>zy qq as (i:Int)
theorem jn(qq:LL9)(as:List Int):(lasts qq as).length=qq.length:=by unfold lasts;rw[aK,qL]
theorem asn(qq:LL9)(as:List Int)(j:Nat):((aJ (j+1)).map λ(i:Nat)=>zy qq as (i:Int))=((aJ j).map λ(i:Nat)=>zy qq as (i:Int))++[zy qq as (j:Int)]:=by
 rw[fZ,bD];rfl
section
variable{qq:LL9}(h:Hs qq){as:List Int}(ha:Arr qq as)
include h ha
theorem aso{A:D}(hA:itemsD A=ZY (as.map D.int)):yp [.val (hD qq),.val A]=ZY (.ok (.v (.tup ((lasts qq as).map D.int))),[.val (hD qq),.val A]):=by
 have hl:=ha.len;have hm:=h.most;have hle:(as.map D.int).length<=(hDs qq).length:=by rw[zz,aK];omega
 have comp:=wk (b:=bTup 2 (je (bj 0) (je (bj 1) bNil))) (mc:=ret ZW) (me:=ab9) (λj ys ρ=>∃(o1 o2:Sl),ρ=[o1,o2]/\ys=((aJ j).map λ(i:Nat)=>zy qq as (i:Int)).map D.int)
  (l:=qu (as.map D.int) (hDs qq)) (ys:=[]) (ρ:=[.emp,.emp]) 0 ⟨.emp,.emp,rfl,rfl⟩ ?_
 ·obtain⟨ys,ρ',e6,o1,o2,rfl,rfl⟩:=comp;rw[agj hle,aK,cJ,hl] at e6;have hc:((lasts qq as).map D.int).length<=capS:=by rw[aK,jn];exact cg (by omega)
  have hle2:as.length<=(hDs qq).length:=by simpa using hle
  change compD _ _ _ _ _ _=ZY (.ok ((lasts qq as).map D.int),_) at e6
  generalize (lasts qq as).map D.int=ld at *;simp only[hD];simp[yp,ahs,hA,hle2,e6,hc]
 ·rintro j d ys ρ hd ⟨o1,o2,rfl,rfl⟩
  obtain⟨d1,d2,g1,g2,rfl⟩:=adz hd;obtain⟨r,hr,rfl⟩:=akt g2;rw[aN] at g1;obtain⟨a,ea,rfl⟩:=cZ.mp g1;obtain⟨b0,b1⟩:=ha.ok j a r ea hr;have er:dr qq (j:Int)=r:=by unfold dr;rw[aL,bZ,hr];rfl
  have e3:ar as (j:Int)=a:=by unfold ar;rw[aL,bZ,ea];rfl
  have e4:=a4s b0 b1;have e5:zy qq as ((0+j:Nat):Int)=r.getD ((a - 1) % (r.length:Int)).toNat 0:=by rw[cJ];unfold zy wd;rw[er,e3]
  refine⟨[.val (.int a),.val (.tup (r.map D.int))],_,ZW,by simp,rfl,.inr ⟨rfl,.int (r.getD ((a - 1) % (r.length:Int)).toNat 0),[.val (.int a),.val (.tup (r.map D.int))],by simp[ab9,e4],_,_,rfl,?_⟩⟩
  rw[asn,bD,e5];rfl
end
noncomputable def lp(L:List Int):LL9:=L.map λy=>[y]
theorem ahd(L:List Int):(lp L).length=L.length:=aK ..
theorem a4e{L:List Int}{x:Int}(h0:0<=x)(h1:x < (L.length:Int)):dr (lp L) x=[L.getD x.toNat 0]:=by
 have hk:x.toNat < L.length:=by omega
 simp[dr,lp,hk]
structure Ways (L:List Int):Prop where
 one:1<=L.length
 most:L.length<=10
 ok:∀y∈L,-3<=y/\y < (L.length:Int)
theorem Ways.hs{L:List Int}(w:Ways L):Hs (lp L):=⟨by rw[ahd];exact w.one,by rw[ahd];exact w.most,λr hr=>by
 obtain⟨y,hy,rfl⟩:=bJ.mp hr;rw[ahd];exact⟨by simp,by simp,λx hx=>by rw[bY] at hx;rw[hx];exact w.ok _ hy⟩⟩
theorem afn{qq:LL9}(h:Hs qq){as:List Int}(ha:Arr qq as):Ways (lasts qq as):=⟨by rw[jn];exact h.one,by rw[jn];exact h.most,λy hy=>by
 rw[jn];unfold lasts at hy;obtain⟨i,hi,rfl⟩:=bJ.mp hy;have hi:=cD.mp hi;obtain⟨a1,a2,a3⟩:=h.dr (x:=(i:Int)) (by omega) (by omega)
 refine a3 _ ?_;unfold zy;have w0:0 < wd qq (i:Int):=by unfold wd;omega
 have b0:=mQ (ar as (i:Int) - 1) (show wd qq (i:Int)≠0 by omega)
 have b1:=iI (ar as (i:Int) - 1) w0;have hk:((ar as (i:Int) - 1) % wd qq (i:Int)).toNat < (dr qq (i:Int)).length:=by unfold wd at *;omega
 rw[aL,aC hk];exact dO hk⟩
theorem ai6:∀(m:Nat) (l:List Int),l.Nodup->(∀x∈l,0<=x/\x < (m:Int))->l.length<=m
 | 0,l,_,h=>by
  cases l with
  | nil=>simp
  | cons x r=>have:=h x (aF ..);omega
 | m+1,l,hn,h=>by
  have h1:(l.erase (m:Int)).length<=m:=ai6 m _ (hn.erase _) λx hx=>by
   rw[hn.mem_erase_iff] at hx;have:=h x hx.2;have:=hx.1;omega
  have h2:l.length<=(l.erase (m:Int)).length+1:=by
   rw[wA];split <;> omega
  omega
theorem pig(f:Nat->Int)(n:Nat)(hf:∀i,i<=n->0<=f i/\f i < (n:Int)):∃i j,i < j/\j<=n/\f i=f j:=by
 apply bR;intro H;have hn:((aJ (n+1)).map f).Nodup:=by
  rw[List.Nodup,nP];refine tD (λ{a b} ha hb hlt e=>H ⟨a,b,hlt,?_,e⟩) oV
  have:=cD.mp hb;omega
 have:=ai6 n _ hn λx hx=>by
  obtain⟨i,hi,rfl⟩:=bJ.mp hx;have:=cD.mp hi;exact hf i (by omega)
 rw[aK,qL] at this;omega
theorem least{P:Nat->Prop}:∀n,P n->∃m,P m/\∀i < m,¬P i:=λn=>by
 induction n using wX with
 | _ n ih =>
  intro hn
  by_cases q:∃i,i < n/\P i
  ·obtain⟨i,hi,hp⟩:=q;exact ih i hi hp
  ·exact⟨n,hn,λi hi hp=>q ⟨i,hi,hp⟩⟩
noncomputable def nxt(L:List Int)(p:Int):Int:=if 0<=p then L.getD p.toNat 0 else p
def itr(L:List Int)(p:Int):Nat->Int
 | 0=>p
 | t+1=>itr L (nxt L p) t
theorem my(L:List Int):∀(s t:Nat) (p:Int),itr L p (s+t)=itr L (itr L p s) t
 | 0,t,p=>by rw[cJ];rfl
 | s+1,t,p=>by
  rw[show s+1+t=(s+t)+1 by omega]
  exact my L s t (nxt L p)
theorem a7i{L:List Int}(w:Ways L){p:Int}(hp:p < (L.length:Int)):nxt L p < (L.length:Int):=by
 unfold nxt;split
 ·rename_i h0;have hk:p.toNat < L.length:=by omega
  rw[aL,aC hk];exact(w.ok _ (dO hk)).2
 ·exact hp
theorem avf{L:List Int}(w:Ways L):∀(t:Nat) {p:Int},p < (L.length:Int)->itr L p t < (L.length:Int)
 | 0,_,h=>h
 | t+1,_,h=>avf w t (a7i w h)
theorem wu{qq:LL9}{bs:List Int}{p:Int}(hp:p.toNat < bs.length):ar (gone qq bs p) p=(ar bs p+1) % ((dr qq p).length:Int):=by
 unfold gone;generalize (ar bs p+1) % ((dr qq p).length:Int)=z;unfold ar;simp[hp]
theorem acy{qq:LL9}{bs:List Int}{p x:Int}(hx:0<=x)(hp:0<=p)(hne:x≠p):ar (gone qq bs p) x=ar bs x:=by
 have:p.toNat≠x.toNat:=by omega
 unfold gone;generalize (ar bs p+1) % ((dr qq p).length:Int)=z;unfold ar;simp[aL,bC,this]
def run(qq:LL9)(as:List Int)(k:Int):Nat->List Int×Int
 | 0=>(as,k)
 | n+1=>(gone qq (run qq as k n).1 (run qq as k n).2,led qq (run qq as k n).1 (run qq as k n).2)
noncomputable def bump(l:List Int)(x:Int):List Int:=l.set x.toNat (l.getD x.toNat 0+1)
def cnt(qq:LL9)(as:List Int)(k:Int):Nat->List Int
 | 0=>aP qq.length 0
 | t+1=>bump (cnt qq as k t) (run qq as k t).2
section
variable{qq:LL9}(h:Hs qq){as:List Int}(ha:Arr qq as){k:Int}(h0:0<=k)(h1:k < (qq.length:Int))
include h ha h0 h1
end
theorem aqa{a w:Int}(h0:0<=a)(h1:a < w):((a+1) % w - 1) % w=a:=by
 rcases lQ (a+1) w with q | q
 ·rw[eU (by omega) q,show a+1 - 1=a by omega,eU h0 h1]
 ·have e0:a+1=w:=by omega
  have e:=mY (-1) w;rw[e0,Int.emod_self,show(0:Int) - 1 = -1 by omega,<-e,eU (by omega) (by omega)]
  omega
theorem ahi{qq:LL9}{as:List Int}{i:Nat}(hi:i < qq.length):(lasts qq as)[i]? = ZY (zy qq as (i:Int)):=by
 unfold lasts;rw[aN,bM hi];rfl
section
variable{qq:LL9}(h:Hs qq){bs:List Int}(hb:Arr qq bs){p:Int}(p0:0<=p)(p1:p < (qq.length:Int))
include h hb p0 p1
theorem asp:zy qq (gone qq bs p) p=led qq bs p:=by
 have a:=hb.at p0 p1;have hl:=hb.len;unfold zy wd led;rw[wu (by omega),aqa a.1 a.2]
theorem acp:lasts qq (gone qq bs p)=(lasts qq bs).set p.toNat (led qq bs p):=by
 apply dU;intro i
 by_cases hi:i < qq.length
 ·rw[ahi hi,bC]
  by_cases q:p.toNat=i
  ·rw[if_pos q,if_pos (by rw[jn];omega)]
   have:((i:Nat):Int)=p:=by omega
   rw[this,asp h hb p0 p1]
  ·rw[if_neg q,ahi hi];unfold zy;rw[acy (by omega) p0 (by omega)]
 ·rw[bI (by rw[jn];omega),bI (by rw[bW,jn];omega)]
theorem ajp:(ar (gone qq bs p) p - 1) % ((dr qq p).length:Int)=ar bs p:=by
 have a:=hb.at p0 p1;have hl:=hb.len;rw[wu (by omega)]
 exact aqa a.1 a.2
theorem ami:(gone qq bs p).set p.toNat (ar bs p)=bs:=by
 have hl:=hb.len;unfold gone;rw[List.set_set];apply dU;intro i;rw[bC]
 by_cases q:p.toNat=i
 ·have hk:i < bs.length:=by omega
  rw[if_pos q,if_pos (by omega),aC hk]
  unfold ar;rw[q,aL,aC hk];rfl
 ·rw[if_neg q]
end
noncomputable def code:List Int->Int
 | []=>0
 | a::r=>a+6*code r
theorem awm:∀{l:List Int},(∀a∈l,0<=a/\a < 6)->0<=code l/\code l < ((6 ^ l.length:Nat):Int)
 | [],_=>⟨Int.le_refl 0,by show(0:Int) < ((6 ^ 0:Nat):Int);decide⟩
 | a::r,h=>by
  obtain⟨h1,h2⟩:=awm (l:=r) λx hx=>h x (aA _ hx)
  have h3:=h a (aF ..);have e:6 ^ (a::r).length=6*6 ^ r.length:=by rw[aX,Nat.pow_succ,iB]
  rw[e];show 0<=a+6*code r/\a+6*code r < _;generalize 6 ^ r.length=q at *;constructor <;> omega
theorem code_inj:∀{l m:List Int},l.length=m.length->(∀a∈l,0<=a/\a < 6)->(∀a∈m,0<=a/\a < 6)->code l=code m->l=m
 | [],[],_,_,_,_=>rfl
 | [],_::_,h,_,_,_=>by simp at h
 | _::_,[],h,_,_,_=>by simp at h
 | a::r,b::t,h,h1,h2,e=>by
  have a1:=h1 a (aF ..);have b1:=h2 b (aF ..);have e:a+6*code r=b+6*code t:=e;have hab:a=b:=by omega
  have hr:code r=code t:=by omega
  rw[hab,code_inj (by simpa using h) (λx hx=>h1 x (aA _ hx)) (λx hx=>h2 x (aA _ hx)) hr]
theorem apd{qq:LL9}(h:Hs qq){bs:List Int}(hb:Arr qq bs):∀a∈bs,0<=a/\a < 6:=λa ha=>by
 obtain⟨i,hi,rfl⟩:=jR.mp ha;have hr:i < qq.length:=by rw[<-hb.len];exact hi
 have h1:=hb.ok i bs[i] qq[i] (aC hi) (aC hr);have h2:=(h.room qq[i] (dO hr)).2.1;omega
theorem abw(qq:LL9)(as:List Int)(k:Int){i j:Nat}(e:run qq as k i=run qq as k j):∀m,run qq as k (i+m)=run qq as k (j+m)
 | 0=>e
 | m+1=>by
  have ih:=abw qq as k e m;show(gone qq (run qq as k (i+m)).1 (run qq as k (i+m)).2,led qq (run qq as k (i+m)).1 (run qq as k (i+m)).2)=(gone qq (run qq as k (j+m)).1 (run qq as k (j+m)).2,led qq (run qq as k (j+m)).1 (run qq as k (j+m)).2);rw[ih]
theorem ai1{qq:LL9}(h:Hs qq)(f:Nat->List Int×Int)(hf:∀i,i<=10*6 ^ qq.length->Arr qq (f i).1/\0<=(f i).2/\(f i).2 < (qq.length:Int)):∃i j,i < j/\j<=10*6 ^ qq.length/\f i=f j:=by
 have hm:=h.most;have cd:∀i,i<=10*6 ^ qq.length->0<=code (f i).1/\code (f i).1 < ((6 ^ qq.length:Nat):Int):=λi hi=>by
  have a:=(hf i hi).1;have:=awm (apd h a);rw[a.len] at this;exact this
 obtain⟨i,j,hij,hj,e⟩:=pig (λi=>10*code (f i).1+(f i).2) (10*6 ^ qq.length) λi hi=>by
  have a:=hf i hi;have b:=cd i hi;generalize 6 ^ qq.length=q6 at *;constructor <;> omega
 have ai:=hf i (by omega)
 have aj:=hf j hj;have e:10*code (f i).1+(f i).2=10*code (f j).1+(f j).2:=e;have e1:(f i).2=(f j).2:=by omega
 have e2:(f i).1=(f j).1:=code_inj (by rw[ai.1.len,aj.1.len]) (apd h ai.1) (apd h aj.1) (by omega)
 exact⟨i,j,hij,hj,tQ e2 e1⟩
theorem Sh.dr{qq:LL9}(s:Sh qq){x:Int}{d:Int}(hd:d∈dr qq x):0<=d:=by
 unfold My.dr at hd;rw[aL] at hd;cases e:qq[x.toNat]? with
 | none=>rw[e] at hd;cases hd
 | some r =>
  rw[e] at hd;exact s r (cR e) d hd
theorem akp{L:List Int}{p d:Int}(p0:0<=p)(p1:p < (L.length:Int))(x:Int):nxt (L.set p.toNat d) x=if x=p then d else nxt L x:=by
 unfold nxt
 by_cases hx:x=p
 ·subst hx;have hk:x.toNat < L.length:=by omega
  rw[if_pos p0,if_pos rfl,aL,bC];simp[hk]
 ·rw[if_neg hx]
  by_cases h0:0<=x
  ·have:p.toNat≠x.toNat:=by omega
   rw[if_pos h0,if_pos h0,aL,bC,if_neg this,<-aL]
  ·rw[if_neg h0,if_neg h0]
theorem xm(L:List Int)(x:Int)(m:Nat):itr L x (m+1)=nxt L (itr L x m):=my L m 1 x
theorem ahl{L:List Int}{p d:Int}(p0:0<=p)(p1:p < (L.length:Int)):∀(m:Nat) {x:Int},(∀i,i < m->itr L x i≠p)->itr (L.set p.toNat d) x m=itr L x m
 | 0,_,_=>rfl
 | m+1,x,h=>by
  have h0:x≠p:=h 0 (by omega)
  show itr (L.set p.toNat d) (nxt (L.set p.toNat d) x) m=itr L (nxt L x) m;rw[akp p0 p1,if_neg h0];exact ahl p0 p1 m λi hi=>h (i+1) (by omega)
theorem amb{L:List Int}{p d x:Int}(p0:0<=p)(p1:p < (L.length:Int))(h:∃m,itr L x m=p):∃m,itr (L.set p.toNat d) x m=d:=by
 obtain⟨m0,e0⟩:=h;obtain⟨m,e,hmin⟩:=least (P:=λm=>itr L x m=p) m0 e0
 refine⟨m+1,?_⟩;rw[xm,ahl p0 p1 m hmin,e,akp p0 p1,if_pos rfl]
theorem aqe{L:List Int}{p d:Int}(p0:0<=p)(p1:p < (L.length:Int))(h:∃m,itr L d m=p):∃m,itr (L.set p.toNat d) d m=p/\(∀i,i < m->itr (L.set p.toNat d) d i≠p)/\nxt (L.set p.toNat d) p=d:=by
 obtain⟨m0,e0⟩:=h;obtain⟨m,e,hmin⟩:=least (P:=λm=>itr L d m=p) m0 e0
 refine⟨m,?_,λi hi =>?_,?_⟩
 ·rw[ahl p0 p1 m hmin];exact e
 ·rw[ahl p0 p1 i λj hj=>hmin j (by omega)]
  exact hmin i hi
 ·rw[akp p0 p1,if_pos rfl]
theorem aga{L:List Int}{d k1 k2:Int}{m1 m2:Nat}(e1:itr L d m1=k1)(n1:nxt L k1=d)(e2:itr L d m2=k2)(h2:∀i,i < m2->itr L d i≠k2):¬m1 < m2:=λq=>by
 have z:itr L d (m1+1)=d:=by rw[xm,e1,n1]
 have:itr L d (m2 - (m1+1))=k2:=by
  have y:=my L (m1+1) (m2 - (m1+1)) d;rw[show m1+1+(m2 - (m1+1))=m2 by omega,z,e2] at y
  exact y.symm
 exact h2 _ (by omega) this
theorem su{qq:LL9}{a b c:Int}(h1:Rch qq a b)(h2:Rch qq b c):Rch qq a c:=by
 induction h2 with
 | base=>exact h1
 | step r h0 hd ih=>exact .step ih h0 hd
theorem ahg{qq:LL9}{as:List Int}(ha:Arr qq as){k:Int}(h0:0<=k)(h1:k < (qq.length:Int)):led qq as k∈dr qq k:=by
 have a:=ha.at h0 h1;unfold led;have hk:(ar as k).toNat < (dr qq k).length:=by omega
 rw[aL,aC hk];exact dO hk
structure InG (qq:LL9) (as:List Int) (k:Int):Prop where
 back:∀x,Rch qq k x->Rch qq x k
 lead:∀x,Rch qq k x->∃m,itr (lasts qq as) x m=k
section
variable{qq:LL9}(h:Hs qq)(sh:Sh qq)
include h sh
theorem a70{as:List Int}(ha:Arr qq as){k:Int}(h0:0<=k)(h1:k < (qq.length:Int)):0<=led qq as k/\led qq as k < (qq.length:Int) :=
 ⟨sh.dr (ahg ha h0 h1),(a71 h ha h0 h1).2⟩
theorem InG.step{as:List Int}(ha:Arr qq as){k:Int}(h0:0<=k)(h1:k < (qq.length:Int))(g:InG qq as k):InG qq (gone qq as k) (led qq as k):=by
 have rk:Rch qq k (led qq as k):=.step .base h0 (ahg ha h0 h1);refine⟨λx hx=>su (g.back x (su rk hx)) rk,λx hx =>?_⟩
 rw[acp h ha h0 h1];exact amb h0 (by rw[jn];exact h1) (g.lead x (su rk hx))
theorem axn{as1 as2:List Int}(ha1:Arr qq as1)(ha2:Arr qq as2){k1 k2:Int}(h01:0<=k1)(h11:k1 < (qq.length:Int))(h02:0<=k2)(h12:k2 < (qq.length:Int))(g1:InG qq as1 k1)(g2:InG qq as2 k2)
  (e1:gone qq as1 k1=gone qq as2 k2) (e2:led qq as1 k1=led qq as2 k2):as1=as2/\k1=k2:=by
 have r1:Rch qq k1 (led qq as1 k1):=.step .base h01 (ahg ha1 h01 h11);have r2:Rch qq k2 (led qq as2 k2):=.step .base h02 (ahg ha2 h02 h12);obtain⟨m1,a1,b1,c1⟩:=aqe h01 (by rw[jn];exact h11) (g1.lead _ r1)
 obtain⟨m2,a2,b2,c2⟩:=aqe h02 (by rw[jn];exact h12) (g2.lead _ r2)
 rw[<-acp h ha1 h01 h11] at a1 b1 c1;rw[<-acp h ha2 h02 h12,<-e1,<-e2] at a2 b2 c2;have q1:=aga a1 c1 a2 b2;have q2:=aga a2 c2 a1 b1;have:m1=m2:=by omega
 subst this;have ek:k1=k2:=a1.symm.trans a2;subst ek;refine⟨?_,rfl⟩;have u1:=ajp h ha1 h01 h11;have u2:=ajp h ha2 h02 h12;rw[e1] at u1;rw[<-ami h ha1 h01 h11,<-ami h ha2 h02 h12,e1,<-u1,<-u2]
variable{as:List Int}(ha:Arr qq as){k:Int}(h0:0<=k)(h1:k < (qq.length:Int))
include ha h0 h1
theorem srun:∀t:Nat,Arr qq (run qq as k t).1/\0<=(run qq as k t).2/\(run qq as k t).2 < (qq.length:Int)
 | 0=>⟨ha,h0,h1⟩
 | t+1=>by
  obtain⟨a1,a2,a3⟩:=srun t;exact⟨aku h a1 a2 a3,a70 h sh a1 a2 a3⟩
theorem a1u(g:InG qq as k):∀t:Nat,InG qq (run qq as k t).1 (run qq as k t).2
 | 0=>g
 | t+1=>by
  obtain⟨a1,a2,a3⟩:=srun h sh ha h0 h1 t;exact InG.step h sh a1 a2 a3 (a1u g t)
theorem apv(g:InG qq as k):∀i j:Nat,i < j->run qq as k i=run qq as k j->run qq as k (j - i)=(as,k)
 | 0,j,_,e=>by rw[uJ,<-e];rfl
 | i+1,0,q,_=>by omega
 | i+1,j+1,q,e=>by
  obtain⟨a1,a2,a3⟩:=srun h sh ha h0 h1 i;obtain⟨b1,b2,b3⟩:=srun h sh ha h0 h1 j;have ee:(gone qq (run qq as k i).1 (run qq as k i).2,led qq (run qq as k i).1 (run qq as k i).2)=(gone qq (run qq as k j).1 (run qq as k j).2,led qq (run qq as k j).1 (run qq as k j).2):=e;obtain⟨f1,f2⟩:=Prod.mk.inj ee;obtain⟨z1,z2⟩:=axn h sh a1 b1 a2 a3 b2 b3 (a1u h sh ha h0 h1 g i) (a1u h sh ha h0 h1 g j) f1 f2;have:=apv g i j (by omega) (tQ z1 z2)
  rw[show j+1 - (i+1)=j - i by omega]
  exact this
theorem ai3(g:InG qq as k):∃T,1<=T/\run qq as k T=(as,k):=by
 obtain⟨i,j,hij,_,e⟩:=ai1 h (run qq as k) λi _=>srun h sh ha h0 h1 i
 exact⟨j - i,by omega,apv h sh ha h0 h1 g i j hij e⟩
theorem aj6(i:Nat):∀m:Nat,Rch qq (run qq as k i).2 (run qq as k (i+m)).2
 | 0=>.base
 | m+1=>by
  obtain⟨a1,a2,a3⟩:=srun h sh ha h0 h1 (i+m);exact .step (aj6 i m) a2 (ahg a1 a2 a3)
theorem axa{x:Int}(hx:0<=x)(t:Nat):ar (run qq as k (t+1)).1 x=if x=(run qq as k t).2 then (ar (run qq as k t).1 x+1) % ((dr qq x).length:Int) else ar (run qq as k t).1 x:=by
 obtain⟨a1,a2,a3⟩:=srun h sh ha h0 h1 t;show ar (gone qq (run qq as k t).1 (run qq as k t).2) x=_
 by_cases e:x=(run qq as k t).2
 ·rw[if_pos e,e];exact wu (by have:=a1.len;omega)
 ·rw[if_neg e];exact acy hx a2 e
theorem ape{x:Int}(hx:0<=x)(i:Nat):∀d:Nat,(∀j,i<=j->j < i+d->(run qq as k j).2≠x)->ar (run qq as k (i+d)).1 x=ar (run qq as k i).1 x
 | 0,_=>rfl
 | d+1,q=>by
  have e:=axa h sh ha h0 h1 hx (i+d);rw[if_neg (λz=>q (i+d) (by omega) (by omega) z.symm)] at e
  rw[show i+(d+1)=i+d+1 by omega,e]
  exact ape hx i d λj j1 j2=>q j j1 (by omega)
variable{T:Nat}(hT:1<=T)(eT:run qq as k T=(as,k))
include hT eT
theorem per(i:Nat):run qq as k (i+T)=run qq as k i:=by
 have:=abw qq as k (i:=T) (j:=0) eT i;rw[cJ,Nat.add_comm] at this;exact this
theorem adl:∀n:Nat,run qq as k (n*T)=(as,k)
 | 0=>by rw[pA];rfl
 | n+1=>by rw[gY,per h sh ha h0 h1 hT eT];exact adl n
theorem turns{x:Int}(hx:0<=x){i:Nat}(hi:(run qq as k i).2=x):∀n:Nat,∃i',(run qq as k i').2=x/\ar (run qq as k i').1 x=(ar (run qq as k i).1 x+n) % ((dr qq x).length:Int)
 | 0=>by
  obtain⟨a1,a2,a3⟩:=srun h sh ha h0 h1 i;rw[hi] at a2 a3;have b:=a1.at a2 a3;exact⟨i,hi,by rw[show((0:Nat):Int)=0 from rfl,iZ,eU b.1 b.2]⟩
 | n+1=>by
  obtain⟨i',e1,e2⟩:=turns hx hi n;obtain⟨d,⟨d1,d2⟩,dm⟩:=least (P:=λd=>1<=d/\(run qq as k (i'+d)).2=x) T ⟨hT,by rw[per h sh ha h0 h1 hT eT];exact e1⟩
  refine⟨i'+d,d2,?_⟩;have s1:=axa h sh ha h0 h1 hx i';rw[if_pos e1.symm,e2] at s1;have s2:=ape h sh ha h0 h1 hx (i'+1) (d - 1) λj j1 j2 z=>dm (j - i') (by omega) ⟨by omega,by rw[show i'+(j - i')=j by omega];exact z⟩
  rw[show i'+1+(d - 1)=i'+d by omega,s1] at s2
  rw[s2,show((n+1:Nat):Int)=(n:Int)+1 by omega,wD]
  congr 1
  omega
theorem arl{x:Int}(r:Rch qq k x):∃i,(run qq as k i).2=x:=by
 induction r with
 | base=>exact⟨0,rfl⟩
 | @step x d r q hd ih =>
  obtain⟨i,hi⟩:=ih;obtain⟨a1,a2,a3⟩:=srun h sh ha h0 h1 i;rw[hi] at a2 a3;have b:=a1.at a2 a3;obtain⟨j,hj,ej⟩:=jR.mp hd;obtain⟨i',e1,e2⟩:=turns h sh ha h0 h1 hT eT q hi (j+(dr qq x).length - (ar (run qq as k i).1 x).toNat);have e3:ar (run qq as k i').1 x=(j:Int):=by
   rw[e2,show ar (run qq as k i).1 x+((j+(dr qq x).length - (ar (run qq as k i).1 x).toNat:Nat):Int)=(j:Int)+((dr qq x).length:Int) by omega,mY]
   exact eU (by omega) (by omega)
  refine⟨i'+1,?_⟩;show led qq (run qq as k i').1 (run qq as k i').2=d;rw[e1];unfold led;rw[e3,bZ,aL,aC (by omega)]
  exact ej
theorem as8:InG qq as k:=by
 have led:∀t j:Nat,j<=t->∃m,itr (lasts qq (run qq as k t).1) (run qq as k j).2 m=(run qq as k t).2:=by
  intro t
  induction t with
  | zero=>intro j hj;exact⟨0,by rw[show j=0 by omega];rfl⟩
  | succ t ih =>
   intro j hj;obtain⟨a1,a2,a3⟩:=srun h sh ha h0 h1 t
   by_cases e:j=t+1
   ·exact⟨0,by rw[e];rfl⟩
   ·have z:=amb (d:=(run qq as k (t+1)).2) a2 (by rw[jn];exact a3) (ih j (by omega))
    have l:=acp h a1 a2 a3;show ∃m,itr (lasts qq (gone qq (run qq as k t).1 (run qq as k t).2)) (run qq as k j).2 m=_
    rw[l];exact z
 refine⟨λx hx =>?_,λx hx =>?_⟩
 ·obtain⟨i,rfl⟩:=arl h sh ha h0 h1 hT eT hx;have:=aj6 h sh ha h0 h1 i (i*T+T - i);have e:i+(i*T+T - i)=(i+1)*T:=by
   have:i<=i*T:=oF i (by omega)
   rw[gY];omega
  rw[e,adl h sh ha h0 h1 hT eT] at this;exact this
 ·obtain⟨i,rfl⟩:=arl h sh ha h0 h1 hT eT hx;have:=led ((i+1)*T) i (by
   have:i<=i*T:=oF i (by omega)
   rw[gY];omega)
  rw[adl h sh ha h0 h1 hT eT] at this;exact this
end
@[simp] theorem asr(qq:LL9)(d:D):j4 [.val (hD qq),.val d]=ZY (.ok (.v (.bl (ae6 0 ((qq.length:Int) - 1) d))),[.val (hD qq),.val d]):=by
 simp[j4,abi,hD,hDs]
theorem aij{qq:LL9}{a:Int}(h0:0<=a)(h1:a < (qq.length:Int)):gk [.val (hD qq),.val (.int a)]=ZY (.ok (.v .non),[.val (hD qq),.val (.int a)]):=by
 have h1:a<=(qq.length:Int) - 1:=by omega
 simp[gk,xn,ae6,h0,h1]
theorem ame{qq:LL9}(h:Hs qq){as:List Int}(ha:Arr qq as):yq [.val (hD qq),.val (.tup (as.map D.int))]=ZY (.ok (.v (.bl ZW)),[.val (hD qq),.val (.tup (as.map D.int))]):=by
 have hl:=ha.len;have hle:(as.map D.int).length<=(hDs qq).length:=by rw[zz,aK];omega
 have comp:=wk (b:=bTup 2 (je (bj 0) (je (bj 1) bNil))) (mc:=ret ZW) (me:=aca) (λj ys ρ=>∃o1 o2,ρ=[o1,o2]/\ys=(aP j ZW).map D.bl)
  (l:=qu (as.map D.int) (hDs qq)) (ys:=[]) (ρ:=[.emp,.emp]) 0 ⟨.emp,.emp,rfl,rfl⟩ ?_
 ·obtain⟨ys,ρ',e6,o1,o2,rfl,rfl⟩:=comp;rw[agj hle,aK,cJ] at e6;have hc:as.length<=capS:=cg (by have:=h.most;omega)
  have e1:jt [.val (.tup (as.map D.int)),.val (.int (qq.length:Int)),.val (.int (qq.length:Int))]=ZY (.ok (.v (.bl ZW)),[.val (.tup (as.map D.int)),.val (.int (qq.length:Int)),.val (.int (qq.length:Int))]):=by
   have:(as.length:Int)=qq.length:=by omega
   simp[jt,aau,isTy,this]
  have hle2:as.length<=(hDs qq).length:=by simpa using hle
  have hl3:=zz qq;have hl4:qq.length<=capS:=hl▸hc;have hbl:abk (aP qq.length (D.bl ZW))=ZY (aP qq.length ZW):=by
   have:=ajl (aP qq.length ZW);rwa[List.map_replicate] at this
  simp only[hD];simp[yq,aht,hl3,e1,e6,hl,hl4,hbl]
 ·rintro j d ys ρ hd ⟨o1,o2,rfl,rfl⟩
  obtain⟨d1,d2,g1,g2,rfl⟩:=adz hd;obtain⟨r,hr,rfl⟩:=akt g2;rw[aN] at g1;obtain⟨a,ga,rfl⟩:=cZ.mp g1;obtain⟨b0,b1⟩:=ha.ok j a r ga hr;have b2:a<=(r.length:Int) - 1:=by omega
  refine⟨[.val (.int a),.val (.tup (r.map D.int))],_,ZW,by simp,rfl,.inr ⟨rfl,.bl ZW,[.val (.int a),.val (.tup (r.map D.int))],by simp[aca,ae6,b0,b2],_,_,rfl,?_⟩⟩
  rw[List.replicate_succ',bD];rfl
theorem agx{qq:LL9}(h:Hs qq){as:List Int}(ha:Arr qq as){k:Int}(h0:0<=k)(h1:k < (qq.length:Int)):jr [.val (hD qq),.val (.tup (as.map D.int)),.val (.int k)]=ZY (.ok (.v .non),[.val (hD qq),.val (.tup (as.map D.int)),.val (.int k)]):=by
 have r1:jf [.val (hD qq),.val (.tup (as.map D.int))]=ZY (.ok (.v .non),[.val (hD qq),.val (.tup (as.map D.int))]):=by
  simp[jf,zj,ame h ha]
 have r2:=aij h0 h1;simp[jr,aas,r1,r2]
def a1o(qq:LL9):Bool:=qq.all λr=>decide (0<=minI r)
theorem a87{C:M Rv}{s:Sl}{f:List Int->Bool}{qq:LL9}(e:C [s]=ZY (.ok (.fr (qq.map λr=>D.bl (f r))),[s])):fnD 1 1 (dRet (gb (g1 gAll) (b7 (M.d C) mNil))) [s]=ZY (.ok (.v (.bl (qq.all f))),[s]):=by
 simp[e,nW]
theorem asq{qq:LL9}(h:Hs qq):ab6 [.val (hD qq)]=ZY (.ok (.v (.bl (a1o qq))),[.val (hD qq)]):=by
 have ef:compD (bj 0) (ret ZW) acw (hDs qq) [] [.emp]=ZY (.ok (qq.map λr=>.bl (decide (0<=minI r))),aap .emp (hDs qq)::[]):=by
  rw[uf (f:=λd=>match d with | .tup l=>.bl (decide (0<=minI ((lg l).getD []))) | _=>.non)]
  ·simp[hDs,nW]
  ·intro d hd;obtain⟨r,hr,rfl⟩:=bJ.mp hd;have hne:r≠[]:=λz=>by have:=(h.room r hr).1;rw[z] at this;simp at this
   simp[acw,azb hne]
 have hc:(qq.map λr=>D.bl (decide (0<=minI r))).length<=capS:=by rw[aK];exact cg (dC h.most (by decide))
 have e1:=ays (src:=[ZX]) (mi:=qi (mVar 0)) (ρ:=[.val (hD qq)]) (ρ1:=[.val (hD qq)]) (b:=bj 0) (mc:=ret ZW) (me:=acw) (l:=hDs qq) rfl rfl ef hc;unfold ab6 amm;exact a87 e1
theorem a3f:∀{r:List Int},r≠[]->minI r∈r
 | [],h=>absurd rfl h
 | x::r,_=>by
  have:∀(r:List Int) (x:Int),r.foldl (λm y=>if decide (y < m)=ZW then y else m) x∈x::r:=by
   intro r
   induction r with
   | nil=>intro x;simp
   | cons z t ih =>
    intro x;rw[eF];have:=ih (if decide (z < x)=ZW then z else x)
    rcases bG.mp this with e | e
    ·rw[e];split <;> simp
    ·exact aA _ (aA _ e)
  exact this r x
theorem axr{qq:LL9}(h:Hs qq)(s:Sh qq):a1o qq=ZW:=by
 unfold a1o;rw[cX];intro r hr;have hne:r≠[]:=λz=>by have:=(h.room r hr).1;rw[z] at this;simp at this
 exact decide_eq_true (s r hr _ (a3f hne))
theorem aii{qq:LL9}(h:Hs qq)(s:Sh qq):jq [.val (hD qq)]=ZY (.ok (.v .non),[.val (hD qq)]):=by
 have e:=asq h;rw[axr h s] at e;simp[jq,aar,e]
def addD(ms:List Int)(d:Int):List Int:=if 0<=d/\d∉ms then ms++[d] else ms
theorem az1(ms:List Int)(d x:Int):x∈addD ms d↔x∈ms∨(x=d/\0<=d):=by
 unfold addD;split
 ·rename_i h;simp only[cN,bY];constructor
  ·rintro(q | q)
   ·exact .inl q
   ·exact .inr ⟨q,h.1⟩
  ·rintro(q | ⟨q,_⟩)
   ·exact .inl q
   ·exact .inr q
 ·rename_i h;constructor
  ·exact .inl
  ·rintro(q | ⟨rfl,q⟩)
   ·exact q
   ·exact bR λz=>h ⟨q,z⟩
theorem as6{ms:List Int}(h:ms.Nodup)(d:Int):(addD ms d).Nodup:=by
 unfold addD;split
 ·rename_i q;rw[nQ];refine⟨h,by simp,λx hx y hy e =>?_⟩
  rw[bY] at hy;subst hy;subst e;exact q.2 hx
 ·exact h
theorem az0(ms:List Int)(d:Int):∃t,addD ms d=ms++t:=by
 unfold addD;split
 ·exact⟨_,rfl⟩
 ·exact⟨[],by simp⟩
theorem az2(ms:List Int)(d:Int):(addD ms d).length<=ms.length+1:=by
 unfold addD;split <;> simp
theorem aer:∀(ds ms:List Int) (x:Int),x∈ds.foldl addD ms↔x∈ms∨(x∈ds/\0<=x)
 | [],ms,x=>by simp
 | d::r,ms,x=>by
  rw[eF,aer r,az1];simp only[bG];constructor
  ·rintro((q | ⟨rfl,q⟩) | ⟨q,w⟩)
   ·exact .inl q
   ·exact .inr ⟨.inl rfl,q⟩
   ·exact .inr ⟨.inr q,w⟩
  ·rintro(q | ⟨rfl | q,w⟩)
   ·exact .inl (.inl q)
   ·exact .inl (.inr ⟨rfl,w⟩)
   ·exact .inr ⟨q,w⟩
theorem ajf:∀(ds:List Int) {ms:List Int},ms.Nodup->(ds.foldl addD ms).Nodup
 | [],_,h=>h
 | d::r,_,h=>ajf r (as6 h d)
theorem ak2:∀(ds ms:List Int),∃t,ds.foldl addD ms=ms++t
 | [],ms=>⟨[],by simp⟩
 | d::r,ms=>by
  obtain⟨t,e⟩:=az0 ms d;obtain⟨u,e2⟩:=ak2 r (addD ms d);exact⟨t++u,by rw[eF,e2,e,bV]⟩
theorem ajj(a b c e:Sl):∀(ds ms:List Int) (o:Sl),ms.length+ds.length<=100->∃o',forD (bj 5) yh (ds.map D.int) [a,b,.own ZX (ms.map D.int),c,e,o]=ZY (.nx,[a,b,.own ZX ((ds.foldl addD ms).map D.int),c,e,o'])
 | [],ms,o,_=>⟨o,rfl⟩
 | d::r,ms,o,hl=>by
  rw[aX] at hl;have hal:=az2 ms d;obtain⟨o',q⟩:=ajj a b c e r (addD ms d) (.val (.int d)) (by omega)
  refine⟨o',?_⟩;have hc:ms.length < capS:=by rw[a4l];omega
  have es:yh [a,b,.own ZX (ms.map D.int),c,e,.val (.int d)]=ZY (.nx,[a,b,.own ZX ((addD ms d).map D.int),c,e,.val (.int d)]):=by
   have ei:=akz ZW d ms
   by_cases h0:0<=d
   ·by_cases h1:d∈ms
    ·have:addD ms d=ms:=if_neg λz=>z.2 h1
     rw[this];simp[yh,h0,ei,h1]
    ·have:addD ms d=ms++[d]:=if_pos ⟨h0,h1⟩;rw[this,bD];simp[yh,h0,ei,h1,hc]
   ·have:addD ms d=ms:=if_neg λz=>h0 z.1
    rw[this];simp[yh,h0]
  rw[aG,oh,eF];simp only[agi,iG,iD];rw[es];exact q
theorem axq{l:List Int}(h:l.Nodup):(sortI l).Pairwise (· < ·):=by
 have h1:=abo l;have h2:(sortI l).Nodup:=(sortI_perm l).nodup_iff.mpr h;have:=h1.and h2;exact this.imp λ⟨a,b⟩=>by omega
structure Come (qq:LL9) (a:Int) (cs:List Int):Prop where
 lt:cs.Pairwise (· < ·)
 mem:∀x,x∈cs↔Rch qq a x/\0<=x
 len:cs.length<=10
theorem af6{qq:LL9}(h:Hs qq){a:Int}(ha:0<=a/\a < (qq.length:Int)) :
  ∃cs:List Int,ud [.val (hD qq),.val (.int a)]=ZY (.ok (.v (.tup (cs.map D.int))),[.val (hD qq),.val (.int a)])/\Come qq a cs:=by
 have hm:=h.most;have loop:=uh (c:=aai) (g:=aci)
  (λk ρ=>∃(ms:List Int) (i:Nat) (o4 o5:Sl),ρ=[.val (hD qq),.val (.int a),.own ZX (ms.map D.int),.val (.int (i:Nat)),o4,o5]/\k=20 - i/\i<=ms.length/\ms.Nodup/\a∈ms/\(∀x∈ms,Rch qq a x/\0<=x)/\∀j (hj:j < ms.length),j < i->∀d∈dr qq ms[j],0<=d->d∈ms)
  (λρ=>∃(ms:List Int) (o3 o4 o5:Sl),ρ=[.val (hD qq),.val (.int a),.own ZX (ms.map D.int),o3,o4,o5]/\ms.Nodup/\∀x,x∈ms↔Rch qq a x/\0<=x) ?_ fuel 20 [.val (hD qq),.val (.int a),.own ZX ([a].map D.int),.val (.int ((0:Nat):Int)),.emp,.emp] (kJ (by decide) abb)
  ⟨[a],0,.emp,.emp,rfl,rfl,by simp,by simp,by simp,by simp;exact⟨.base,ha.1⟩,λj hj hlt=>absurd hlt (rJ _)⟩
 ·obtain⟨ρ',e,ms,o3,o4,o5,rfl,hn,hm'⟩:=loop;have e:whileD aai aci fuel [.val (hD qq),.val (.int a),.own ZX [.int a],.val (.int 0),.emp,.emp]=ZY (.nx,[.val (hD qq),.val (.int a),.own ZX (ms.map D.int),o3,o4,o5]):=e;have hlen:ms.length<=10:=by
   have:=ag9 (qq.length+3) ([-3,-2,-1]++ms) (by
    rw[nQ];refine⟨by decide,hn,λx hx y hy e =>?_⟩
    subst e;have:=((hm' x).mp hy).2;simp at hx;omega) (λx hx=>by
    rcases cN.mp hx with hx | hx
    ·simp at hx;omega
    ·have:=(hm' x).mp hx;have:=Rch.range h ha this.1;omega)
   simp at this;omega
  have es:=amr (ns:=ms) (by omega)
  have hp:=sortI_perm ms;refine⟨sortI ms,?_,axq hn,λx=>by rw[hp.mem_iff];exact hm' x,by rw[hp.length_eq];exact hlen⟩
  have er:gk [.val (hD qq),.val (.int a)]=ZY (.ok (.v .non),[.val (hD qq),.val (.int a)]):=by
   have h1:a<=(qq.length:Int) - 1:=by omega
   simp[gk,xn,ae6,ha.1,h1]
  simp only[hD] at e er ⊢
  simp[ud,amn,er,e,es]
 ·rintro k ρ ⟨ms,i,o4,o5,rfl,rfl,hi,hn,h0,hr,hc⟩
  have hz:=a1z h ha hn λx hx=>(hr x hx).1
  by_cases hlt:i < ms.length
  ·obtain⟨q1,q2⟩:=hr _ (dO hlt);have q3:=(Rch.range h ha q1).2;obtain⟨d1,d2,d3⟩:=h.dr q2 q3;have er:=apa q2 q3;have ei:=a85 hlt;obtain⟨o5',el⟩:=ajj (.val (hD qq)) (.val (.int a)) (.val (.int (i:Nat))) (.val (.tup ((dr qq ms[i]).map D.int))) (dr qq ms[i]) ms o5 (by omega)
   refine .inr ⟨[.val (hD qq),.val (.int a),.own ZX (ms.map D.int),.val (.int (i:Nat)),o4,o5],[.val (hD qq),.val (.int a),.own ZX (((dr qq ms[i]).foldl addD ms).map D.int),.val (.int ((i+1:Nat):Int)),.val (.tup ((dr qq ms[i]).map D.int)),o5'],20 - (i+1),?_,?_,by omega,(dr qq ms[i]).foldl addD ms,i+1,_,_,rfl,rfl,?_,ajf _ hn,(aer _ _ _).mpr (.inl h0),λx hx =>?_,λj hj hji d hd hd0 =>?_⟩
   ·have:(i:Int) < (ms.length:Int):=by omega
    simp[aai,this]
   ·have hcast:((i+1:Nat):Int)=(i:Int)+1:=by omega
    rw[hcast];simp only[hD] at el ⊢
    generalize (dr qq ms[i]).map D.int=dd at er el;simp[aci,ei,er,el]
   ·obtain⟨t,et⟩:=ak2 (dr qq ms[i]) ms;rw[et,cP];omega
   ·rcases(aer _ _ _).mp hx with hx | ⟨hx,hx0⟩
    ·exact hr x hx
    ·exact⟨.step q1 q2 hx,hx0⟩
   ·obtain⟨t,et⟩:=ak2 (dr qq ms[i]) ms;have hjl:j < ms.length:=by omega
    have ej:((dr qq ms[i]).foldl addD ms)[j]=ms[j]:=by
     simp only[et];exact List.getElem_append_left hjl
    rw[ej] at hd;rcases iW j i with z | z
    ·exact(aer _ _ _).mpr (.inl (hc j hjl z d hd hd0))
    ·have:j=i:=by omega
     subst this;exact(aer _ _ _).mpr (.inr ⟨hd,hd0⟩)
  ·refine .inl ⟨[.val (hD qq),.val (.int a),.own ZX (ms.map D.int),.val (.int (i:Nat)),o4,o5],?_,ms,_,_,_,rfl,hn,λx=>⟨λhx=>hr x hx,λ⟨hx,hx0⟩ =>?_⟩⟩
   ·have:¬(i:Int) < (ms.length:Int):=by omega
    simp[aai,this]
   ·exact aob h0 (λy hy d hd hd0=>by
     obtain⟨j,hj,rfl⟩:=jR.mp hy;exact hc j hj (by omega) d hd hd0) hx hx0
open Classical in
noncomputable def dq(qq:LL9)(a:Int):List Int:=if q:Hs qq/\0<=a/\a < (qq.length:Int) then (af6 q.1 q.2).choose else []
section
variable{qq:LL9}(h:Hs qq){a:Int}(ha:0<=a/\a < (qq.length:Int))
include h ha
theorem j7:ud [.val (hD qq),.val (.int a)]=ZY (.ok (.v (.tup ((dq qq a).map D.int))),[.val (hD qq),.val (.int a)])/\Come qq a (dq qq a):=by
 unfold dq;rw[dif_pos ⟨h,ha⟩];exact(af6 h ha).choose_spec
theorem qp:∀x∈dq qq a,0<=x/\x < (qq.length:Int):=λx hx=>by
 obtain⟨q,q0⟩:=((j7 h ha).2.mem x).mp hx;exact⟨q0,(Rch.range h ha q).2⟩
end
theorem aoz(neg:Bool)(a:Int)(ns:List Int):gIn neg (.int a) (.tup (ns.map D.int))=ZY (.v (.bl (if neg then !decide (a∈ns) else decide (a∈ns)))):=akz neg a ns
noncomputable def ab3(qq:LL9)(k:Int):List Int:=(dq qq k).filter λx => !decide (k∈dq qq x)
section
variable{qq:LL9}(h:Hs qq){k:Int}(hk:0<=k/\k < (qq.length:Int))
include h hk
theorem amj:yt [.val (hD qq),.val (.int k)]=ZY (.ok (.fr ((ab3 qq k).map D.int)),[.val (hD qq),.val (.int k)]):=by
 obtain⟨e1,C⟩:=j7 h hk;have ef:compD (bj 0) acg acb ((dq qq k).map D.int) [] [.emp,.val (.int k),.val (hD qq)]=ZY (.ok ((ab3 qq k).map D.int),aap .emp ((dq qq k).map D.int)::[.val (.int k),.val (hD qq)]):=by
  rw[qm (p:=λd=>match d with | .int x => !decide (k∈dq qq x) | _=>ZV) (f:=λd=>d)]
  ·rw[aZ,qO,rO];rfl
  ·intro d hd;obtain⟨x,hx,rfl⟩:=bJ.mp hd;have hr:=qp h hk x hx;obtain⟨e2,_⟩:=j7 h hr;have e3:=aoz ZW k (dq qq x);generalize (dq qq x).map D.int=cc at *;generalize hD qq=hh at *;simp[acg,e2,e3]
  ·intro d hd _;obtain⟨x,hx,rfl⟩:=bJ.mp hd;simp[acb]
 have hc:((ab3 qq k).map D.int).length<=capS:=by
  rw[aK];exact cg (dC (lO _ _) (dC C.len (by decide)))
 generalize (ab3 qq k).map D.int=gg at *;generalize (dq qq k).map D.int=cc at *;generalize hD qq=hh at *;simp[yt,ahu,e1,ef,hc]
theorem lr(sh:Sh qq){x:Int}:x∈dq qq k↔Rch qq k x:=by
 obtain⟨_,C⟩:=j7 h hk;rw[C.mem];refine⟨λq=>q.1,λq=>⟨q,?_⟩⟩
 cases q with
 | base=>exact hk.1
 | step r h0 hd=>exact sh.dr hd
theorem acs(sh:Sh qq):ab3 qq k=[]↔∀x,Rch qq k x->Rch qq x k:=by
 unfold ab3;rw[List.filter_eq_nil_iff];constructor
 ·intro q x hx;have hm:=(lr h hk sh).mpr hx;have:=q x hm;have hr:=qp h hk x hm;exact(lr h hr sh).mp (by simpa using this)
 ·intro q x hx;have hr:=qp h hk x hx;have:=(lr h hr sh).mpr (q x ((lr h hk sh).mp hx));simp[this]
end
theorem a3m(l:List Int)(x:Int):atI ((l++[x]).map D.int) (-1)=ZY (.int x):=by
 unfold atI;have:ixN ((l++[x]).map D.int).length (-1)=ZY l.length:=by
  unfold ixN;rw[aK,cP];simp;omega
 rw[this];simp
theorem av2(r:List Int):∀x:Int,r.foldl (λm y=>if decide (y < m)=ZW then y else m) x∈x::r:=by
 induction r with
 | nil=>intro x;simp
 | cons z t ih =>
  intro x;rw[eF];have:=ih (if decide (z < x)=ZW then z else x)
  rcases bG.mp this with e | e
  ·rw[e];split <;> simp
  ·exact aA _ (aA _ e)
theorem ayo{ns:List Int}(h:ns≠[]):minI ns∈ns:=by
 cases ns with
 | nil=>exact absurd rfl h
 | cons x r=>exact av2 r x
def ixm(ns:List Int):Nat:=((ns.map D.int).findIdx? λy=>eqD y (.int (minI ns))).getD 0
def rotm(ns:List Int):List Int:=ns.drop (ixm ns)++ns.take (ixm ns)
theorem avn{ns:List Int}(h:ns≠[]):ams (.lst (ns.map D.int)) [.int (minI ns)]=ZY (.int (ixm ns:Int))/\ixm ns<=ns.length:=by
 have hm:=ayo h;have h1:=ag8 30 ns;cases e:(ns.map D.int).findIdx? λy=>eqD y (.int (minI ns)) with
 | none =>
  rw[sV] at e;have:=e (.int (minI ns)) (bJ.mpr ⟨_,hm,rfl⟩);rw[ah1] at this;simp at this
 | some i =>
  have hi:=(lB.mp e).1;rw[aK] at hi;have ei:ixm ns=i:=by unfold ixm;rw[e];rfl
  rw[ei];refine⟨?_,by omega⟩
  have ho:okD 30 (D.int (minI ns))=ZW:=rfl;simp only[ams,ho,h1,uA,if_true,e];rfl
theorem aou{L:List Int}(w:Ways L){s:Int}(hs:s∈fc (lp L))(m:Nat):0<=itr L s m/\itr L s m < (L.length:Int):=by
 have tI:fc (lp L)=(upto L.length).filter (caught (lp L)):=by unfold fc;rw[ahd]
 rw[tI] at hs;obtain⟨a1,a2⟩:=dF.mp hs;have a0:=vf a1;have hc:=(yl _ _).mp a2;have hr:∀m:Nat,Rch (lp L) s (itr L s m):=λm=>by
  induction m with
  | zero=>exact .base
  | succ m ih =>
   have h0:=hc _ ih;have hl:=avf w m a0.2;rw[my];refine .step ih h0 ?_;rw[a4e h0 hl,bY];show nxt L (itr L s m)=_;exact if_pos h0
 exact⟨hc _ (hr m),avf w m a0.2⟩
theorem ay0(L:List Int)(s:Int)(m:Nat)(h:0<=itr L s m):itr L s (m+1)=L.getD (itr L s m).toNat 0:=by
 rw[my];show nxt L (itr L s m)=_;exact if_pos h
theorem a6a{L:List Int}(w:Ways L){s:Int}(hs:s∈fc (lp L)):∃T,T < L.length/\itr L (itr L s L.length) (T+1)=itr L s L.length/\∀i,1<=i->i<=T->itr L (itr L s L.length) i≠itr L s L.length:=by
 obtain⟨i,j,hij,hj,e⟩:=pig (λm=>itr L s m) L.length λm _=>aou w hs m
 have e:itr L s i=itr L s j:=e;have ed:itr L (itr L s L.length) (j - i)=itr L s L.length:=by
  rw[<-my,show L.length+(j - i)=j+(L.length - i) by omega,my,<-e,<-my,show i+(L.length - i)=L.length by omega]
 obtain⟨T,hT,hl⟩:=least (P:=λT=>itr L (itr L s L.length) (T+1)=itr L s L.length) (j - i - 1) (by
  show itr L (itr L s L.length) (j - i - 1+1)=_;rw[show j - i - 1+1=j - i by omega]
  exact ed)
 refine⟨T,?_,hT,λm m1 m2 z =>?_⟩
 ·rcases iW (j - i - 1) T with q | q
  ·have:=hl (j - i - 1) q;rw[show j - i - 1+1=j - i by omega] at this
   exact absurd ed this
  ·omega
 ·have:=hl (m - 1) (by omega)
  rw[show m - 1+1=m by omega] at this
  exact this z
def rg(L:List Int)(p:Int)(t:Nat):List Int:=(aJ (t+1)).map λi=>itr L p i
theorem at6(L:List Int)(p:Int)(t:Nat):rg L p (t+1)=rg L p t++[itr L p (t+1)]:=by
 unfold rg;rw[fZ,bD];rfl
theorem at7(L:List Int)(p:Int)(t:Nat):(rg L p t).length=t+1:=by unfold rg;simp
theorem axw(L:List Int)(p:Int):∀t:Nat,∃l,rg L p t=l++[itr L p t]
 | 0=>⟨[],rfl⟩
 | t+1=>⟨rg L p t,at6 L p t⟩
section
variable{L:List Int}(w:Ways L)
include w
variable{s:Int}(hs:s∈fc (lp L)){T:Nat}(hT:T < L.length)(eT:itr L (itr L s L.length) (T+1)=itr L s L.length)(hl:∀i,1<=i->i<=T->itr L (itr L s L.length) i≠itr L s L.length)
include hs
theorem a09(m:Nat):atI (L.map D.int) (itr L s m)=ZY (.int (itr L s (m+1))):=by
 have h:=aou w hs m;rw[ay0 L s m h.1];exact ae4 h.1 h.2
include hT eT hl
theorem alr:uz [.val (.tup (L.map D.int)),.val (.int s)]=ZY (.ok (.v (.tup ((rotm (rg L (itr L s L.length) T)).map D.int))),[.val (.tup (L.map D.int)),.val (.int s)]):=by
 have hm:=w.most;have loop:=acv (b:=bj 3) (g:=ab2) (λi ρ=>∃o3:Sl,ρ=[.val (.tup (L.map D.int)),.val (.int s),.val (.int (itr L s i)),o3,.emp,.emp])
  (l:=rangeD 0 L.length) (ρ:=[.val (.tup (L.map D.int)),.val (.int s),.val (.int s),.emp,.emp,.emp]) 0 ⟨.emp,rfl⟩ ?_
 ·have rl:(rangeD 0 L.length).length=L.length:=by simp[rangeD]
  rw[rl,cJ] at loop;obtain⟨ρ',e,o3,rfl⟩:=loop;generalize hp:itr L s L.length=p at *;have at2:∀m,atI (L.map D.int) (itr L p m)=ZY (.int (itr L p (m+1))):=λm=>by
   have:=a09 w hs (L.length+m);rw[my,hp,show L.length+m+1=L.length+(m+1) by omega,my,hp] at this
   exact this
  have loop2:=uh (c:=yz) (g:=abm)
   (λn ρ=>∃t:Nat,t<=T/\n=T - t/\ρ=[.val (.tup (L.map D.int)),.val (.int s),.val (.int p),o3,.own ZX ((rg L p t).map D.int),.emp])
   (λρ=>ρ=[.val (.tup (L.map D.int)),.val (.int s),.val (.int p),o3,.own ZX ((rg L p T).map D.int),.emp])
   ?_ fuel T [.val (.tup (L.map D.int)),.val (.int s),.val (.int p),o3,.own ZX [.int p],.emp] (kJ (show T < 100000 by omega) abb) ⟨0,by omega,rfl,rfl⟩
  ·obtain⟨ρ',e2,rfl⟩:=loop2;have hne:rg L p T≠[]:=λz=>by have:=at7 L p T;rw[z] at this;simp at this
   have e3:=azc hne;obtain⟨e4,hle⟩:=avn hne;have hrl:=at7 L p T;have c1:=a4j (ns:=(rg L p T).map D.int) (k:=(ixm (rg L p T):Int)) (by omega) (by rw[aK];omega)
   have c2:=bch (ns:=(rg L p T).map D.int) (k:=(ixm (rg L p T):Int)) (by omega) (by rw[aK];omega)
   rw[bZ] at c1 c2;have e5:(rotm (rg L p T)).map D.int=((rg L p T).map D.int).drop (ixm (rg L p T))++((rg L p T).map D.int).take (ixm (rg L p T)):=by
    unfold rotm;rw[bD,yC,xZ]
   have hc:(((rg L p T).map D.int).drop (ixm (rg L p T))).length+(((rg L p T).map D.int).take (ixm (rg L p T))).length<=capS:=by
    rw[oN,jJ,aK];exact cg (by omega)
   have hl2:(L.map D.int).length=L.length:=aK ..
   have hb:L.length < 4611686018427387904:=by omega
   rw[e5];generalize ((rg L p T).map D.int).drop (ixm (rg L p T))=X1 at *;generalize ((rg L p T).map D.int).take (ixm (rg L p T))=X2 at *;generalize (rg L p T).map D.int=RR at *;generalize L.map D.int=LL at *;simp[uz,ahr,hl2,hb,e,e2,e3,e4,c1,c2,hc]
  ·rintro n ρ ⟨t,t2,rfl,rfl⟩
   obtain⟨l,el⟩:=axw L p t;have e1:atI ((rg L p t).map D.int) (-1)=ZY (.int (itr L p t)):=by rw[el];exact a3m l _
   have e2:=at2 t;rcases iW t T with q | q
   ·have hne:=hl (t+1) (by omega) (by omega)
    have hcap:((rg L p t).map D.int).length < capS:=by rw[aK,at7];unfold capS;omega
    refine .inr ⟨[.val (.tup (L.map D.int)),.val (.int s),.val (.int p),o3,.own ZX ((rg L p t).map D.int),.emp],[.val (.tup (L.map D.int)),.val (.int s),.val (.int p),o3,.own ZX ((rg L p (t+1)).map D.int),.emp],T - (t+1),?_,?_,by omega,t+1,by omega,rfl,rfl⟩
    ·generalize (rg L p t).map D.int=RR at *;generalize L.map D.int=LL at *;generalize itr L p (t+1)=y at *;simp[yz,e1,e2,hne]
    ·rw[at6,bD];generalize (rg L p t).map D.int=RR at *;generalize L.map D.int=LL at *;simp[abm,e1,e2,hcap]
   ·have:t=T:=by omega
    subst this;refine .inl ⟨[.val (.tup (L.map D.int)),.val (.int s),.val (.int p),o3,.own ZX ((rg L p t).map D.int),.emp],?_,rfl⟩;rw[eT] at e2;generalize (rg L p t).map D.int=RR at *;generalize L.map D.int=LL at *;simp[yz,e1,e2]
 ·rintro i d ρ hd ⟨o3,rfl⟩
  rw[cJ];have e:=a09 w hs i;refine⟨_,[.val (.tup (L.map D.int)),.val (.int s),.val (.int (itr L s (i+1))),.val d,.emp,.emp],rfl,.inl ?_,_,rfl⟩;generalize itr L s (i+1)=y at *;generalize L.map D.int=LL at *;simp[ab2,e]
end
theorem a7f(n:Nat)(r:List Int):okD (n+1) (rowT r)=ZW:=by
 show(r.map D.int).all (okD n)=ZW;exact ag8 n r
theorem aze(neg:Bool)(r:List Int)(rows:LL9):gIn neg (rowT r) (.lst (rows.map rowT))=ZY (.v (.bl (if neg then !decide (r∈rows) else decide (r∈rows)))):=by
 have h1:(rows.map rowT).all (okD 30)=ZW:=by
  rw[List.all_map,cX];exact λx _=>a7f 29 x
 have h2:(rows.map rowT).any (λy=>eqD y (rowT r))=decide (r∈rows):=by
  rw[List.any_map]
  induction rows with
  | nil=>rfl
  | cons a l ih =>
   have ih:=ih (by rw[aG,lE,bL] at h1;exact h1.2)
   rw[tW,ih];have:eqD (rowT a) (rowT r)=decide (a=r):=ah0 a r;show(eqD (rowT a) (rowT r)||_)=_;rw[this]
   by_cases q:a=r
   ·simp[q]
   ·have q':¬r=a:=λz=>q z.symm
    simp[q,q']
 have h3:okD 30 (rowT r)=ZW:=a7f 29 r;simp only[gIn,itemsD,h1,h2,h3,uA,if_true]
open Classical in
noncomputable def aj9(L:List Int)(s:Int):Nat:=if q:∃T,T < L.length/\itr L (itr L s L.length) (T+1)=itr L s L.length/\∀i,1<=i->i<=T->itr L (itr L s L.length) i≠itr L s L.length then q.choose else 0
noncomputable def vq(L:List Int)(s:Int):List Int:=rotm (rg L (itr L s L.length) (aj9 L s))
section
variable{L:List Int}(w:Ways L){s:Int}(hs:s∈fc (lp L))
include w hs
theorem ai4:aj9 L s < L.length/\itr L (itr L s L.length) (aj9 L s+1)=itr L s L.length/\∀i,1<=i->i<=aj9 L s->itr L (itr L s L.length) i≠itr L s L.length:=by
 have q:=a6a w hs;unfold aj9;rw[dif_pos q];exact q.choose_spec
theorem aoa:uz [.val (.tup (L.map D.int)),.val (.int s)]=ZY (.ok (.v (rowT (vq L s))),[.val (.tup (L.map D.int)),.val (.int s)]):=by
 obtain⟨a,b,c⟩:=ai4 w hs;exact alr w hs a b c
omit w hs in
theorem ayp{ns:List Int}{x:Int}:x∈rotm ns↔x∈ns:=by
 unfold rotm;rw[cN,Or.comm,<-cN,List.take_append_drop]
theorem agc{x:Int}:x∈vq L s↔∃m,x=itr L (itr L s L.length) m:=by
 obtain⟨a,b,c⟩:=ai4 w hs;unfold vq;rw[ayp];unfold rg;constructor
 ·intro q;obtain⟨i,_,rfl⟩:=bJ.mp q;exact⟨i,rfl⟩
 ·rintro⟨m,rfl⟩
  have em:∀n:Nat,itr L (itr L s L.length) (n*(aj9 L s+1))=itr L s L.length:=λn=>by
   induction n with
   | zero=>rw[pA];rfl
   | succ n ih=>rw[gY,my,ih,b]
  refine bJ.mpr ⟨m % (aj9 L s+1),cD.mpr (vX _ (by omega)),?_⟩
  have e:=rK m (aj9 L s+1);have:itr L (itr L s L.length) m=itr L (itr L s L.length) (m % (aj9 L s+1)):=by
   rw[<-e,iB,my,em,iB,e]
  exact this.symm
theorem a1x:vq L s≠[]:=λz=>by
 have:itr L s L.length∈vq L s:=(agc w hs).mpr ⟨0,rfl⟩;rw[z] at this;cases this
end
noncomputable def addR(L:List Int)(rs:LL9)(x:Int):LL9:=if vq L x∈rs then rs else rs++[vq L x]
theorem afs(L:List Int):∀(C:List Int) (rs:LL9) (r:List Int),r∈C.foldl (addR L) rs↔r∈rs∨∃x∈C,r=vq L x
 | [],rs,r=>by simp
 | x::C,rs,r=>by
  rw[eF,afs L C];unfold addR;split
  ·rename_i q;constructor
   ·rintro(z | ⟨y,hy,e⟩)
    ·exact .inl z
    ·exact .inr ⟨y,aA _ hy,e⟩
   ·rintro(z | ⟨y,hy,e⟩)
    ·exact .inl z
    ·rcases bG.mp hy with rfl | hy
     ·exact .inl (e▸q)
     ·exact .inr ⟨y,hy,e⟩
  ·constructor
   ·rintro(z | ⟨y,hy,e⟩)
    ·rcases cN.mp z with z | z
     ·exact .inl z
     ·exact .inr ⟨x,aF ..,by simpa using z⟩
    ·exact .inr ⟨y,aA _ hy,e⟩
   ·rintro(z | ⟨y,hy,e⟩)
    ·exact .inl (gF _ z)
    ·rcases bG.mp hy with rfl | hy
     ·exact .inl (cF _ (by simp[e]))
     ·exact .inr ⟨y,hy,e⟩
theorem ahy(L:List Int):∀(C:List Int) {rs:LL9},rs.Nodup->(C.foldl (addR L) rs).Nodup
 | [],_,h=>h
 | x::C,rs,h=>by
  rw[eF];refine ahy L C ?_;unfold addR;split
  ·exact h
  ·rename_i q;exact nQ.mpr ⟨h,(by simp),λa ha b hb z=>q (by rw[bY] at hb;rw[<-hb,<-z];exact ha)⟩
theorem ahx(L:List Int):∀(C:List Int) (rs:LL9),(C.foldl (addR L) rs).length<=rs.length+C.length
 | [],_=>by simp
 | x::C,rs=>by
  rw[eF];have:=ahx L C (addR L rs x);have:(addR L rs x).length<=rs.length+1:=by unfold addR;split <;> simp
  rw[aX];omega
noncomputable def ad8(L C:List Int):LL9:=ago (C.foldl (addR L) [])
theorem aha{L C:List Int}{r:List Int}:r∈ad8 L C↔∃x∈C,r=vq L x:=by
 unfold ad8;rw[(acl _).mem_iff,afs];simp
section
variable{L:List Int}(w:Ways L){C:List Int}(hC:∀x∈C,x∈fc (lp L))(hz:C.length<=10)(cl:∀x∈C,nxt L x∈C)
include w hC hz cl
theorem axh{x:Int}(hx:x∈fc (lp L)):0<=x/\x < (L.length:Int):=by
 have tI:fc (lp L)=(upto L.length).filter (caught (lp L)):=by unfold fc;rw[ahd]
 rw[tI] at hx;exact vf (dF.mp hx).1
theorem avu:uc [.val (.tup (L.map D.int)),.val (.tup (C.map D.int))]=ZY (.ok (.fr (C.map D.int)),[.val (.tup (L.map D.int)),.val (.tup (C.map D.int))]):=by
 have ef:compD (bj 0) aah aae (C.map D.int) [] [.emp,.val (.lst (C.map D.int)),.val (.tup (L.map D.int))]=ZY (.ok (C.map D.int),aap .emp (C.map D.int)::[.val (.lst (C.map D.int)),.val (.tup (L.map D.int))]):=by
  rw[qm (p:=λ_=>ZW) (f:=λd=>d)]
  ·rw[aZ,qO,List.filter_eq_self.mpr λ_ _=>rfl]
  ·intro d hd;obtain⟨x,hx,rfl⟩:=bJ.mp hd;have hr:=axh w hC hz cl (hC x hx);have er:=ae4 (ns:=L) hr.1 hr.2;have hn:=cl x hx;have:nxt L x=L.getD x.toNat 0:=if_pos hr.1;rw[this] at hn;have e2:=akz ZV (L.getD x.toNat 0) C;rw[decide_eq_true hn] at e2;generalize L.getD x.toNat 0=y at *;generalize L.map D.int=LL at *;generalize C.map D.int=CC at *;simp[aah,er,e2]
  ·intro d hd _;obtain⟨x,hx,rfl⟩:=bJ.mp hd;simp[aae]
 have hc:(C.map D.int).length<=capS:=by rw[aK];exact cg (by omega)
 have loop:=uh (c:=nq) (g:=vd)
  (λn ρ=>ρ=[.val (.tup (L.map D.int)),.val (.tup (C.map D.int)),.own ZX (C.map D.int),.val (.int ((C.length:Int)+n))]/\n<=1)
  (λρ=>∃o,ρ=[.val (.tup (L.map D.int)),.val (.tup (C.map D.int)),.own ZX (C.map D.int),o])
  ?_ fuel 1 [.val (.tup (L.map D.int)),.val (.tup (C.map D.int)),.own ZX (C.map D.int),.val (.int ((C.length:Int)+(1:Nat)))] (kJ (by decide) abb) ⟨rfl,aM _⟩
 ·obtain⟨ρ',e,o,rfl⟩:=loop;have hl:(C.map D.int).length=C.length:=aK ..
  have e:whileD nq vd fuel [.val (.tup (L.map D.int)),.val (.tup (C.map D.int)),.own ZX (C.map D.int),.val (.int ((C.length:Int)+1))]=ZY (.nx,[.val (.tup (L.map D.int)),.val (.tup (C.map D.int)),.own ZX (C.map D.int),o]):=e;generalize L.map D.int=LL at *;generalize C.map D.int=CC at *;simp[uc,aen,hl,e]
 ·rintro n ρ ⟨rfl,hn⟩
  have hl:(C.map D.int).length=C.length:=aK ..
  by_cases q:n=0
  ·subst q;refine .inl ⟨[.val (.tup (L.map D.int)),.val (.tup (C.map D.int)),.own ZX (C.map D.int),.val (.int ((C.length:Int)+(0:Nat)))],?_,_,rfl⟩;generalize L.map D.int=LL at *;generalize C.map D.int=CC at *;simp[nq,hl]
  ·have:n=1:=by omega
   subst this;refine .inr ⟨[.val (.tup (L.map D.int)),.val (.tup (C.map D.int)),.own ZX (C.map D.int),.val (.int ((C.length:Int)+(1:Nat)))],[.val (.tup (L.map D.int)),.val (.tup (C.map D.int)),.own ZX (C.map D.int),.val (.int ((C.length:Int)+(0:Nat)))],0,?_,?_,by omega,rfl,by omega⟩
   ·generalize L.map D.int=LL at *;generalize C.map D.int=CC at *;have:(C.length:Int) < (C.length:Int)+1:=by omega
    simp[nq,hl,this]
   ·generalize L.map D.int=LL at *;generalize C.map D.int=CC at *;rw[hl] at hc;simp[vd,hl,ef,hc]
theorem an9:aax [.val (.tup (L.map D.int)),.val (.tup (C.map D.int))]=ZY (.ok (.fr ((ad8 L C).map rowT)),[.val (.tup (L.map D.int)),.val (.tup (C.map D.int))]):=by
 have eg:=avu w hC hz cl;have loop:∀(xs:List Int) (rs:LL9) (o3 o4:Sl),(∀x∈xs,x∈fc (lp L))->rs.length+xs.length<=10->∃q3 q4,forD (bj 3) uy (xs.map D.int) [.val (.tup (L.map D.int)),.val (.tup (C.map D.int)),.own ZX (rs.map rowT),o3,o4]=ZY (.nx,[.val (.tup (L.map D.int)),.val (.tup (C.map D.int)),.own ZX ((xs.foldl (addR L) rs).map rowT),q3,q4]):=by
  intro xs
  induction xs with
  | nil=>intro rs o3 o4 _ _;exact⟨o3,o4,rfl⟩
  | cons x xs ih =>
   intro rs o3 o4 hx hn;have e1:=aoa w (hx x (aF ..));have e2:=aze ZW (vq L x) rs;have es:uy [.val (.tup (L.map D.int)),.val (.tup (C.map D.int)),.own ZX (rs.map rowT),.val (.int x),o4]=ZY (.nx,[.val (.tup (L.map D.int)),.val (.tup (C.map D.int)),.own ZX ((addR L rs x).map rowT),.val (.int x),.val (rowT (vq L x))]):=by
    have hcap:(rs.map rowT).length < capS:=by rw[aK];unfold capS;rw[aX] at hn;omega
    by_cases q:vq L x∈rs
    ·rw[decide_eq_true q] at e2;have:addR L rs x=rs:=if_pos q;rw[this];generalize rowT (vq L x)=rr at *;generalize rs.map rowT=RR at *;generalize L.map D.int=LL at *;generalize C.map D.int=CC at *;simp[uy,e1,e2]
    ·rw[decide_eq_false q] at e2;have:addR L rs x=rs++[vq L x]:=if_neg q;rw[this,bD];generalize hrr:rowT (vq L x)=rr at *;generalize rs.map rowT=RR at *;generalize L.map D.int=LL at *;generalize C.map D.int=CC at *;simp[uy,e1,e2,hcap,hrr]
   have hz2:(addR L rs x).length<=rs.length+1:=by unfold addR;split <;> simp
   obtain⟨q3,q4,e3⟩:=ih (addR L rs x) (.val (.int x)) (.val (rowT (vq L x))) (λy hy=>hx y (aA _ hy)) (by rw[aX] at hn;omega)
   refine⟨q3,q4,?_⟩;rw[aG,oh,eF];simp only[agi,iG,iD];rw[es];exact e3
 obtain⟨q3,q4,e⟩:=loop C [] .emp .emp hC (by simpa using hz)
 have hz3:=ahx L C [];have es:=akv (rows:=C.foldl (addR L) []) (by simp at hz3;omega) (λr hr=>by
  rcases(afs L C [] r).mp hr with z | ⟨x,hx,rfl⟩
  ·cases z
  ·exact a1x w (hC x hx)) (ahy L C xT)
 have e:forD (bj 3) uy (C.map D.int) [.val (.tup (L.map D.int)),.val (.tup (C.map D.int)),.own ZX [],.emp,.emp]=ZY (.nx,[.val (.tup (L.map D.int)),.val (.tup (C.map D.int)),.own ZX ((C.foldl (addR L) []).map rowT),q3,q4]):=e;unfold ad8;generalize (ago (C.foldl (addR L) [])).map rowT=SS at *;generalize (C.foldl (addR L) []).map rowT=FF at *;generalize L.map D.int=LL at *;generalize C.map D.int=CC at *;simp[aax,ajc,eg,e,es]
end
section
variable{qq:LL9}(h:Hs qq)(sh:Sh qq){as:List Int}(ha:Arr qq as)
include h sh ha
theorem lasts_get0{x:Int}(h0:0<=x)(h1:x < (qq.length:Int)):(lasts qq as).getD x.toNat 0=zy qq as x:=by
 have hx:x.toNat < qq.length:=by omega
 rw[aL,ahi hx,show((x.toNat:Nat):Int)=x by omega]
 rfl
theorem ahj{x:Int}(h0:0<=x)(h1:x < (qq.length:Int)):zy qq as x∈dr qq x:=by
 have a:=(h.dr h0 h1).1;unfold zy;have w0:0 < wd qq x:=by unfold wd;omega
 have b0:=mQ (ar as x - 1) (show wd qq x≠0 by omega)
 have b1:=iI (ar as x - 1) w0;have hk:((ar as x - 1) % wd qq x).toNat < (dr qq x).length:=by unfold wd at *;omega
 rw[aL,aC hk];exact dO hk
theorem agb{x:Int}(h0:0<=x)(h1:x < (qq.length:Int)):nxt (lasts qq as) x=zy qq as x:=by
 unfold nxt;rw[if_pos h0];exact lasts_get0 h sh ha h0 h1
theorem azz{x:Int}(h0:0<=x)(h1:x < (qq.length:Int)):x∈fc (lp (lasts qq as)):=by
 have tI:fc (lp (lasts qq as))=(upto qq.length).filter (caught (lp (lasts qq as))):=by unfold fc;rw[ahd,jn]
 rw[tI];refine dF.mpr ⟨List.mem_map.mpr ⟨x.toNat,cD.mpr (by omega),by omega⟩,(yl _ _).mpr λy r =>?_⟩
 have key:0<=y/\y < (qq.length:Int):=by
  induction r with
  | base=>exact⟨h0,h1⟩
  | step r q hd ih =>
   obtain⟨i0,i1⟩:=ih;rw[a4e i0 (by rw[jn];exact i1),bY,lasts_get0 h sh ha i0 i1] at hd
   have m:=ahj h sh ha i0 i1;rw[hd];exact⟨sh.dr m,((h.dr i0 i1).2.2 _ m).2⟩
 exact key.1
variable{k:Int}(hk:0<=k/\k < (qq.length:Int))
include hk
theorem ao8:∀x∈dq qq k,nxt (lasts qq as) x∈dq qq k:=λx hx=>by
 have hr:=qp h hk x hx;rw[agb h sh ha hr.1 hr.2];exact(lr h hk sh).mpr (.step ((lr h hk sh).mp hx) hr.1 (ahj h sh ha hr.1 hr.2))
omit hk in
theorem ae1(hk:0<=k/\k < (qq.length:Int)):∀x∈dq qq k,x∈fc (lp (lasts qq as)):=λx hx=>by
 have hr:=qp h hk x hx;exact azz h sh ha hr.1 hr.2
theorem ai8:(∀r∈ad8 (lasts qq as) (dq qq k),k∈r)↔∀x,Rch qq k x->∃m,itr (lasts qq as) x m=k:=by
 have w:=afn h ha;constructor
 ·intro q x hx;have hm:=(lr h hk sh).mpr hx;have:=q _ (aha.mpr ⟨x,hm,rfl⟩);obtain⟨m,e⟩:=(agc w (ae1 h sh ha hk x hm)).mp this;exact⟨(lasts qq as).length+m,by rw[my];exact e.symm⟩
 ·intro q r hr;obtain⟨x,hx,rfl⟩:=aha.mp hr;have cl:∀m:Nat,itr (lasts qq as) x m∈dq qq k:=λm=>by
   induction m with
   | zero=>exact hx
   | succ m ih=>rw[xm];exact ao8 h sh ha hk _ ih
  obtain⟨m,e⟩:=q _ ((lr h hk sh).mp (cl (lasts qq as).length));exact(agc w (ae1 h sh ha hk x hx)).mpr ⟨m,e.symm⟩
noncomputable def outR(qq:LL9)(as:List Int)(k:Int):Option (List Int):=(ad8 (lasts qq as) (dq qq k)).find? λr => !decide (k∈r)
theorem aj8{A:D}(hA:itemsD A=ZY (as.map D.int)):ig [.val (hD qq),.val A,.val (.int k)]=ZY (.ok (.v (match outR qq as k with | some r=>rowT r | none=>.non)),[.val (hD qq),.val A,.val (.int k)]):=by
 have e1:=aso h ha hA;obtain⟨e2,C⟩:=j7 h hk;have w:=afn h ha;have e3:=an9 w (ae1 h sh ha hk) C.len (ao8 h sh ha hk);have loop:∀(rs:LL9) (o:Sl),∃q,forD (bj 3) jo (rs.map rowT) [.val (hD qq),.val A,.val (.int k),o]=ZY (match rs.find? λr => !decide (k∈r) with | some r=>.ret (.v (rowT r)) | none=>.nx,[.val (hD qq),.val A,.val (.int k),q]):=by
  intro rs
  induction rs with
  | nil=>intro o;exact⟨o,rfl⟩
  | cons r rs ih =>
   intro o;have e4:gIn ZW (.int k) (rowT r)=ZY (.v (.bl (!decide (k∈r)))):=aoz ZW k r;obtain⟨q,eq⟩:=ih (.val (rowT r));rw[aG,oh];simp only[agi,iG,iD]
   by_cases z:k∈r
   ·rw[decide_eq_true z] at e4;have es:jo [.val (hD qq),.val A,.val (.int k),.val (rowT r)]=ZY (.nx,[.val (hD qq),.val A,.val (.int k),.val (rowT r)]):=by
     generalize rowT r=rr at *;generalize hD qq=hh at *;simp[jo,e4]
    rw[es,mH,decide_eq_true z];exact⟨q,eq⟩
   ·rw[decide_eq_false z] at e4;have es:jo [.val (hD qq),.val A,.val (.int k),.val (rowT r)]=ZY (.ret (.v (rowT r)),[.val (hD qq),.val A,.val (.int k),.val (rowT r)]):=by
     generalize rowT r=rr at *;generalize hD qq=hh at *;simp[jo,e4]
    rw[es,mH,decide_eq_false z];exact⟨_,rfl⟩
 obtain⟨q,e5⟩:=loop (ad8 (lasts qq as) (dq qq k)) .emp;unfold outR;generalize ((ad8 (lasts qq as) (dq qq k)).find? λr => !decide (k∈r))=ff at *
 generalize (ad8 (lasts qq as) (dq qq k)).map rowT=RR at *;generalize (lasts qq as).map D.int=LL at *;generalize (dq qq k).map D.int=CC at *
 clear hA
 generalize hD qq=hh at *;cases ff with
 | none =>
  simp only at e5;simp[ig,aab,e1,e2,e3,e5]
 | some r =>
  dsimp only at e5 ⊢
  generalize rowT r=rr at *;simp[ig,aab,e1,e2,e3,e5]
theorem ayb(hg:ab3 qq k=[]):outR qq as k=ZX↔InG qq as k:=by
 have b:=(acs h hk sh).mp hg;constructor
 ·intro ho;refine⟨b,(ai8 h sh ha hk).mp λr hr =>?_⟩
  have:=List.find?_eq_none.mp ho r hr
  simpa using this
 ·intro g;cases ho:outR qq as k with
  | none=>rfl
  | some r =>
   have h1:=xF ho;have h2:=sS ho;have:=(ai8 h sh ha hk).mpr g.lead r h2;simp[this] at h1
end
noncomputable def stO(s:List Int×Int):D:=.tup [.tup (s.1.map D.int),.int s.2]
def stD(qq:LL9)(as:List Int)(k:Int)(t:Nat):List D:=(aJ t).map λi=>stO (run qq as k i)
def kvR(qq:LL9)(as:List Int)(k:Int)(t:Nat):Kvs:=(aJ t).map λi=>(run qq as k i,(i:Int))
theorem atm(qq:LL9)(as:List Int)(k:Int)(t:Nat):(stD qq as k t).length=t:=by unfold stD;simp
theorem axo(qq:LL9)(as:List Int)(k:Int)(t:Nat):stD qq as k (t+1)=stD qq as k t++[stO (run qq as k t)]:=by
 unfold stD;rw[fZ,bD];rfl
theorem aqi(qq:LL9)(as:List Int)(k:Int)(t:Nat):kvR qq as k (t+1)=kvR qq as k t++[(run qq as k t,(t:Int))]:=by
 unfold kvR;rw[fZ,bD];rfl
theorem a3n(qq:LL9)(as:List Int)(k:Int)(t:Nat):(kvR qq as k t).length=t:=by unfold kvR;simp
theorem aon{qq:LL9}{as:List Int}{k:Int}{t:Nat}{s:StK}:s∈(kvR qq as k t).map (·.1)↔∃i,i < t/\s=run qq as k i:=by
 unfold kvR;rw[cL,bJ];constructor
 ·rintro⟨i,hi,rfl⟩
  exact⟨i,cD.mp hi,rfl⟩
 ·rintro⟨i,hi,rfl⟩
  exact⟨i,cD.mpr hi,rfl⟩
theorem aqc{qq:LL9}{as:List Int}{k:Int}:∀{N:Nat},(∀i j,i < j->j < N->run qq as k i≠run qq as k j)->∀{a:Nat},a < N->(kvR qq as k N).lookup (run qq as k a)=ZY (a:Int)
 | 0,_,a,h=>by omega
 | N+1,hd,a,h=>by
  rw[aqi,List.lookup_append]
  by_cases q:a < N
  ·rw[aqc (λi j x y=>hd i j x (by omega)) q]
   rfl
  ·have e:a=N:=by omega
   subst e;have:(kvR qq as k a).lookup (run qq as k a)=ZX:=by
    rw[List.lookup_eq_none_iff];intro p hp;obtain⟨i,hi,rfl⟩:=bJ.mp hp;have:=hd i a (cD.mp hi) (by omega)
    simpa using λz=>this z.symm
   rw[this];simp
abbrev mkR:M D:=mTup (b7 (mVar 1) (b7 (mVar 2) mNil))
abbrev mvR:M D:=M.d (gb (g1 gL9) (dw 4 mNil))
abbrev maR:M Rv:=M.v (mMut 4 yo (b7 (mTup (b7 (mVar 1) (b7 (mVar 2) mNil))) mNil))
abbrev mlR:M D:=M.d (mFn u5 [ZY 0,ZY 1,ZX] (bu 0 (bu 1 (bc (mVar 2) fj))))
abbrev roR(hh:D)(as:List D)(k:Int)(S:List D):Ro:=[.val hh,.val (.tup as),.val (.int k),.emp,.own ZX S,.emp]
section
variable{qq:LL9}(h:Hs qq)(sh:Sh qq){as:List Int}(ha:Arr qq as){k:Int}(h0:0<=k)(h1:k < (qq.length:Int))
include h sh ha h0 h1
theorem aty(t:Nat)(ht:t<=100000)(hn:∀i,i < t->run qq as k i≠run qq as k t) :
  a1q mkR mvR maR mlR 1 2 (kvR qq as k t) (roR (hD qq) ((run qq as k t).1.map D.int) (run qq as k t).2 (stD qq as k t))=ZY (kvR qq as k (t+1),roR (hD qq) ((run qq as k (t+1)).1.map D.int) (run qq as k (t+1)).2 (stD qq as k (t+1))):=by
 obtain⟨a1,a2,a3⟩:=srun h sh ha h0 h1 t;have el:=a3k h a1 a2 a3;have hl:=atm qq as k t;have hcap:(stD qq as k t).length < capS:=by rw[hl];unfold capS;omega
 have ek:keyD (.tup [.tup ((run qq as k t).1.map D.int),.int (run qq as k t).2])=ZY (run qq as k t):=aos _ _;have e1:okR mvR (roR (hD qq) ((run qq as k t).1.map D.int) (run qq as k t).2 (stD qq as k t))=ZY (.int (t:Int),roR (hD qq) ((run qq as k t).1.map D.int) (run qq as k t).2 (stD qq as k t)):=ag6 (by
  generalize stD qq as k t=SS at *;simp[roR,hl])
 have e2:okR mkR (roR (hD qq) ((run qq as k t).1.map D.int) (run qq as k t).2 (stD qq as k t))=ZY (.tup [.tup ((run qq as k t).1.map D.int),.int (run qq as k t).2],roR (hD qq) ((run qq as k t).1.map D.int) (run qq as k t).2 (stD qq as k t)):=ag6 (by simp[roR])
 have e3:okR maR (roR (hD qq) ((run qq as k t).1.map D.int) (run qq as k t).2 (stD qq as k t))=ZY (.v .non,roR (hD qq) ((run qq as k t).1.map D.int) (run qq as k t).2 (stD qq as k t++[.tup [.tup ((run qq as k t).1.map D.int),.int (run qq as k t).2]])):=ag6 (by
  generalize stD qq as k t=SS at *;simp[roR,hcap])
 have e4:okR mlR (roR (hD qq) ((run qq as k t).1.map D.int) (run qq as k t).2 (stD qq as k t++[.tup [.tup ((run qq as k t).1.map D.int),.int (run qq as k t).2]]))=ZY (.tup [.tup ((gone qq (run qq as k t).1 (run qq as k t).2).map D.int),.int (led qq (run qq as k t).1 (run qq as k t).2)],roR (hD qq) ((run qq as k t).1.map D.int) (run qq as k t).2 (stD qq as k t++[.tup [.tup ((run qq as k t).1.map D.int),.int (run qq as k t).2]])):=ag6 (by
  generalize stD qq as k t++[.tup [.tup ((run qq as k t).1.map D.int),.int (run qq as k t).2]]=SS at *;generalize hD qq=hh at *;simp[roR,el])
 have hb:(decide (run qq as k t∈(kvR qq as k t).map (·.1))||decide (100000 < (kvR qq as k t).length))=ZV:=by
  rw[decide_eq_false,decide_eq_false]
  ·rfl
  ·rw[a3n];omega
  ·intro z;obtain⟨i,hi,e⟩:=aon.mp z;exact hn i hi e.symm
 unfold a1q;rw[e1];dsimp only[cB];rw[show asI (D.int (t:Int))=ZY (t:Int) from rfl]
 dsimp only[cB];rw[e2];dsimp only[cB];rw[ek];dsimp only[cB];rw[hb,if_neg (by simp),e3]
 dsimp only[cB];rw[e4];dsimp only[cB,pairD];rw[aqi,axo];rfl
theorem alk{N:Nat}(hN:N<=100000)(hd:∀i j,i < j->j < N->run qq as k i≠run qq as k j)(hl:∃i,i < N/\run qq as k N=run qq as k i):∀(d t n:Nat),t+d=N->d < n ->
  an2 mkR mvR maR mlR 1 2 n (kvR qq as k t) (roR (hD qq) ((run qq as k t).1.map D.int) (run qq as k t).2 (stD qq as k t))=ZY (kvR qq as k N,roR (hD qq) ((run qq as k N).1.map D.int) (run qq as k N).2 (stD qq as k N))
 | d,t,0,_,h=>absurd h (rJ _)
 | d,t,n+1,e,hn=>by
  have ek:keyD (.tup [.tup ((run qq as k t).1.map D.int),.int (run qq as k t).2])=ZY (run qq as k t):=aos _ _;have e2:okR mkR (roR (hD qq) ((run qq as k t).1.map D.int) (run qq as k t).2 (stD qq as k t))=ZY (.tup [.tup ((run qq as k t).1.map D.int),.int (run qq as k t).2],roR (hD qq) ((run qq as k t).1.map D.int) (run qq as k t).2 (stD qq as k t)):=ag6 (by simp[roR])
  unfold an2;rw[e2];dsimp only[cB];rw[ek];dsimp only[cB];cases d with
  | zero =>
   have:t=N:=by omega
   subst this;rw[if_pos];obtain⟨i,hi,ei⟩:=hl;exact decide_eq_true (aon.mpr ⟨i,hi,ei⟩)
  | succ d =>
   rw[if_neg]
   ·rw[aty h sh ha h0 h1 t (by omega) λi hi=>hd i t hi (by omega)]
    dsimp only[cB];exact alk hN hd hl d (t+1) n (by omega) (by omega)
   ·simp only[decide_eq_true_eq];intro z;obtain⟨i,hi,ei⟩:=aon.mp z;exact hd i t hi (by omega) ei.symm
theorem amd(h5:qq.length<=5):∃a m:Nat,1<=m/\a+m<=77760/\(∀i j,i < j->j < a+m->run qq as k i≠run qq as k j)/\run qq as k (a+m)=run qq as k a /\
  wj [.val (hD qq),.val (.tup (as.map D.int)),.val (.int k)]=ZY (.ok (.v (.tup [.int (a:Int),.int (m:Int),.lst (stD qq as k (a+m))])),[.val (hD qq),.val (.tup ((run qq as k (a+m)).1.map D.int)),.val (.int (run qq as k (a+m)).2)]):=by
 have hp:10*6 ^ qq.length<=77760:=by
  have:6 ^ qq.length<=6 ^ 5:=lX (by decide) h5
  omega
 obtain⟨i0,j0,hij,hj,e0⟩:=ai1 h (run qq as k) λi _=>srun h sh ha h0 h1 i
 obtain⟨N,⟨a,haN,eN⟩,hmin⟩:=least (P:=λN=>∃i,i < N/\run qq as k i=run qq as k N) j0 ⟨i0,hij,e0⟩
 have hNj:N<=j0:=by
  rcases iW j0 N with q | q
  ·exact absurd ⟨i0,hij,e0⟩ (hmin j0 q)
  ·exact q
 have hd:∀i j,i < j->j < N->run qq as k i≠run qq as k j:=λi j x y z=>hmin j y ⟨i,x,z⟩
 refine⟨a,N - a,by omega,by omega,by rw[show a+(N - a)=N by omega];exact hd,by rw[show a+(N - a)=N by omega];exact eN.symm,?_⟩
 rw[show a+(N - a)=N by omega]
 have lo:=alk h sh ha h0 h1 (by omega) hd ⟨a,haN,eN.symm⟩ N 0 fuel (by omega) (kJ (show N < 100000 by omega) abb)
 have lo:an2 mkR mvR maR mlR 1 2 fuel [] [.val (hD qq),.val (.tup (as.map D.int)),.val (.int k),.emp,.own ZX [],.emp]=ZY (kvR qq as k N,roR (hD qq) ((run qq as k N).1.map D.int) (run qq as k N).2 (stD qq as k N)):=lo;have lk:=aqc hd haN;rw[eN] at lk;have ek:keyD (.tup [.tup ((run qq as k N).1.map D.int),.int (run qq as k N).2])=ZY (run qq as k N):=aos _ _;have e2:okR mkR (roR (hD qq) ((run qq as k N).1.map D.int) (run qq as k N).2 (stD qq as k N))=ZY (.tup [.tup ((run qq as k N).1.map D.int),.int (run qq as k N).2],roR (hD qq) ((run qq as k N).1.map D.int) (run qq as k N).2 (stD qq as k N)):=ag6 (by simp[roR])
 have hl:=atm qq as k N;have e0':okR (mLst mNil) [.val (hD qq),.val (.tup (as.map D.int)),.val (.int k),.emp,.emp,.emp]=ZY (.fr [],[.val (hD qq),.val (.tup (as.map D.int)),.val (.int k),.emp,.emp,.emp]):=ag6 (by simp)
 have eg:ab4 [.val (hD qq),.val (.tup (as.map D.int)),.val (.int k),.emp,.emp,.emp]=ZY (.ret (.v (.tup [.int (a:Int),.int ((N - a:Nat):Int),.lst (stD qq as k N)])),[.val (hD qq),.val (.tup ((run qq as k N).1.map D.int)),.val (.int (run qq as k N).2),.emp,.val (.lst (stD qq as k N)),.val (.int (a:Int))]):=by
  unfold ab4 a4i;simp only[jC,List.getElem?_cons_zero,cB,iG,iD];rw[e0'];simp only[cB,iG,iD,Rv.sl];rw[lo];dsimp only[cB];rw[e2];dsimp only[cB];rw[ek];dsimp only[cB];rw[lk];dsimp only[cB];have ec:(N:Int) - (a:Int)=((N - a:Nat):Int):=by omega
  generalize stD qq as k N=SS at *;simp[roR,hl,ec]
 unfold wj;generalize stD qq as k N=SS at *;generalize hD qq=hh at *;simp[fnD,eg]
end
theorem afh(qq:LL9)(as:List Int)(k:Int)(t:Nat):∀m:Nat,run qq (run qq as k t).1 (run qq as k t).2 m=run qq as k (t+m)
 | 0=>rfl
 | m+1=>by
  show(gone qq (run qq (run qq as k t).1 (run qq as k t).2 m).1 (run qq (run qq as k t).1 (run qq as k t).2 m).2,led qq (run qq (run qq as k t).1 (run qq as k t).2 m).1 (run qq (run qq as k t).1 (run qq as k t).2 m).2)=_;rw[afh qq as k t m];rfl
section
variable{qq:LL9}{as:List Int}{k:Int}{a m:Nat}(hm:1<=m)(e:run qq as k (a+m)=run qq as k a)
include hm e
theorem ap4(y:Nat):run qq as k (a+y+m)=run qq as k (a+y):=by
 have:=abw qq as k e y;rw[show a+y+m=a+m+y by omega]
 exact this
theorem a6b:∀x:Nat,a<=x->∃j,a<=j/\j < a+m/\run qq as k x=run qq as k j:=λx=>by
 induction x using wX with
 | ind x ih =>
  intro hx
  by_cases q:x < a+m
  ·exact⟨x,hx,q,rfl⟩
  ·obtain⟨j,j1,j2,j3⟩:=ih (x - m) (by omega) (by omega)
   refine⟨j,j1,j2,?_⟩;have:=ap4 hm e (x - m - a);rw[show a+(x - m - a)+m=x by omega,show a+(x - m - a)=x - m by omega] at this
   rw[this];exact j3
theorem a3l(h:Hs qq)(sh:Sh qq)(ha:Arr qq as)(h0:0<=k)(h1:k < (qq.length:Int)){t:Nat}(ht:a<=t):InG qq (run qq as k t).1 (run qq as k t).2:=by
 obtain⟨a1,a2,a3⟩:=srun h sh ha h0 h1 t;refine as8 h sh a1 a2 a3 (T:=m) hm ?_;rw[afh];have:=ap4 hm e (t - a);rw[show a+(t - a)+m=t+m by omega,show a+(t - a)=t by omega] at this
 exact this
theorem av9(h:Hs qq)(sh:Sh qq)(ha:Arr qq as)(h0:0<=k)(h1:k < (qq.length:Int))(hd:∀i j,i < j->j < a+m->run qq as k i≠run qq as k j){t:Nat}(ht:t < a):¬InG qq (run qq as k t).1 (run qq as k t).2:=λg=>by
 obtain⟨a1,a2,a3⟩:=srun h sh ha h0 h1 t;obtain⟨T,hT,eT⟩:=ai3 h sh a1 a2 a3 g;rw[afh] at eT;have em:∀n:Nat,run qq as k (t+n*T)=run qq as k t:=λn=>by
  induction n with
  | zero=>rw[pA];rfl
  | succ n ih =>
   have:=abw qq as k (i:=t+T) (j:=t) eT (n*T);rw[gY,show t+(n*T+T)=t+T+n*T by omega,this]
   exact ih
 obtain⟨j,j1,j2,j3⟩:=a6b hm e (t+a*T) (by
  have:a<=a*T:=oF a (by omega)
  omega)
 rw[em] at j3;exact hd t j (by omega) j2 j3
end
section
variable{qq:LL9}(h:Hs qq)(sh:Sh qq){as:List Int}(ha:Arr qq as){k:Int}(h0:0<=k)(h1:k < (qq.length:Int))
include h sh ha h0 h1
theorem aj0:gm [.val (hD qq),.val (.tup (as.map D.int)),.val (.int k)]=ZY (.ok (.v .non),[.val (hD qq),.val (.tup (as.map D.int)),.val (.int k)]):=by
 have e1:=agx h ha h0 h1;have e2:=aii h sh;generalize hD qq=hh at *;simp[gm,ug,e1,e2]
end
noncomputable def bxS(t:Nat)(hh:D)(k n:Int):List (Str×(Nat ⊕ D)):=[("house", .inr hh),("turning", .inl t),("place", .inr (.int k)),("steps", .inr (.int n))]
section
variable(t:Nat)(hh:D)(k n x:Int)(a:Sl)(l:List D)(r:Ro)
theorem sp_h:mFV "Stroll" 0 "house" (.box "Stroll" (bxS t hh k n)::r)=ZY (.ok hh,.box "Stroll" (bxS t hh k n)::r):=by rfl
theorem sp_p:mFV "Stroll" 0 "place" (.box "Stroll" (bxS t hh k n)::r)=ZY (.ok (.int k),.box "Stroll" (bxS t hh k n)::r):=by rfl
theorem sp_s:mFV "Stroll" 0 "steps" (.box "Stroll" (bxS t hh k n)::r)=ZY (.ok (.int n),.box "Stroll" (bxS t hh k n)::r):=by rfl
theorem sp_t:mLnk "Stroll" 0 "turning" 2 (.box "Stroll" (bxS 2 hh k n)::a::.own (ZY 2) l::r)=ZY (.ok (),.box "Stroll" (bxS 2 hh k n)::a::.own (ZY 2) l::r):=by rfl
theorem ban:putA "place" (.int x) (bxS t hh k n)=bxS t hh x n:=by rfl
theorem bam:putA "steps" (.int x) (bxS t hh k n)=bxS t hh k x:=by rfl
theorem is_p:((bxS t hh k n).lookup ("place" : Str)).isSome=ZW:=by rfl
theorem is_s:((bxS t hh k n).lookup ("steps" : Str)).isSome=ZW:=by rfl
end
theorem ayv{qq:LL9}(h:Hs qq){bs:List Int}(hb:Arr qq bs){p:Int}(p0:0<=p)(p1:p < (qq.length:Int)):adu [.val (hD qq),.own (ZY 1) (bs.map D.int),.val (.int p)]=ZY (.ok (.v (.int (led qq bs p))),[.val (hD qq),.own (ZY 1) ((gone qq bs p).map D.int),.val (.int p)]):=by
 have e1:=apa p0 p1;have e2:=ari h hb p0 p1;have e3:=aw6 h hb p0 p1;have e4:=amu h hb p0 p1 (ar bs p+1);have e5:ixN bs.length p=ZY p.toNat:=afo p0 (by rw[hb.len];exact p1)
 simp[adu,avx,hD,e1,e2,e3,e4,e5,gone]
abbrev stF(hh R:D)(as:List D)(k n:Int):Ro:=[.box "Stroll" (bxS 2 hh k n),.val R,.own (ZY 2) as]
theorem a5t(hh R:D)(as bs:List D)(k n k':Int)(el:adu [.val hh,.own (ZY 1) as,.val (.int k)]=ZY (.ok (.v (.int k')),[.val hh,.own (ZY 1) bs,.val (.int k)])) :
  dFld "Stroll" 0 "place" (M.d (mFn adu [ZX,ZY 2,ZX] (bc (mFV "Stroll" 0 "house") ((mLnk "Stroll" 0 "turning" 2).bind λ_=>bu 2 (bc (mFV "Stroll" 0 "place") fj))))) (stF hh R as k n)=ZY (.nx,stF hh R bs k' n):=by
 simp[dFld,stF,sp_h,sp_t,sp_p,el,ban,is_p,ab1]
theorem a5s(hh R:D)(as:List D)(k n:Int):ak9 "Stroll" 0 "steps" (ret (.int 1)) (stF hh R as k n)=ZY (.nx,stF hh R as k (n+1)):=by
 simp[ak9,stF,sp_s,bam,is_s,ab1]
section
variable{qq:LL9}(h:Hs qq)(sh:Sh qq){as:List Int}(ha:Arr qq as){k:Int}(h0:0<=k)(h1:k < (qq.length:Int))
include h sh ha h0 h1
theorem a3r(R:D)(t:Nat)(n:Int):jj (stF (hD qq) R ((run qq as k t).1.map D.int) (run qq as k t).2 n)=ZY (.nx,stF (hD qq) R ((run qq as k (t+1)).1.map D.int) (run qq as k (t+1)).2 (n+1)):=by
 obtain⟨a1,a2,a3⟩:=srun h sh ha h0 h1 t;have e1:=a5t (hD qq) R _ _ _ n _ (ayv h a1 a2 a3);have e2:=a5s (hD qq) R ((run qq as k (t+1)).1.map D.int) (run qq as k (t+1)).2 n;unfold jj dSeq;rw[e1];exact e2
theorem a8e{R:D}{rs:List Int}(hR:∀x:Int,gIn ZW (.int x) R=ZY (.v (.bl (!decide (x∈rs))))){s T:Nat}(hn:∀t,s<=t->t < T->(run qq as k t).2∉rs)(hT:(run qq as k T).2∈rs)(hs:s<=T)(hf:T < 100000)(n:Int) :
  bz (stF (hD qq) R ((run qq as k s).1.map D.int) (run qq as k s).2 n)=ZY (.nx,stF (hD qq) R ((run qq as k T).1.map D.int) (run qq as k T).2 (n+((T - s:Nat):Int))):=by
 have test:∀(AA:List D) (p:Int) (n:Int),jk (stF (hD qq) R AA p n)=ZY (.ok (!decide (p∈rs)),stF (hD qq) R AA p n):=λAA p n=>by
  have e:=hR p;generalize hD qq=hh at *;simp[jk,stF,sp_p,e]
 obtain⟨ρ',e,rfl⟩:=uh (c:=jk) (g:=af7 jj) (λj ρ=>∃t,s<=t/\t+j=T/\ρ=stF (hD qq) R ((run qq as k t).1.map D.int) (run qq as k t).2 (n+((t - s:Nat):Int)))
  (λρ=>ρ=stF (hD qq) R ((run qq as k T).1.map D.int) (run qq as k T).2 (n+((T - s:Nat):Int))) (λj ρ z9=>by
   obtain⟨t,ht,hj,rfl⟩:=z9
   by_cases q:t=T
   ·subst q;refine .inl ⟨_,?_,rfl⟩;rw[test,decide_eq_true hT];rfl
   ·refine .inr ⟨stF (hD qq) R ((run qq as k t).1.map D.int) (run qq as k t).2 (n+((t - s:Nat):Int)),stF (hD qq) R ((run qq as k (t+1)).1.map D.int) (run qq as k (t+1)).2 (n+((t+1 - s:Nat):Int)),j - 1,?_,?_,by omega,t+1,by omega,by omega,rfl⟩
    ·rw[test,decide_eq_false (hn t ht (by omega))]
     rfl
    ·unfold af7;rw[a3r h sh ha h0 h1 R t,show n+((t - s:Nat):Int)+1=n+((t+1 - s:Nat):Int) by omega]) fuel (T - s) (stF (hD qq) R ((run qq as k s).1.map D.int) (run qq as k s).2 n) (by have:=abb;omega) ⟨s,aM _,by omega,by rw[Nat.sub_self];simp⟩
 exact e
end
theorem an6(t t':Nat)(hh:D)(k n:Int):rtg t' (bxS t hh k n)=bxS t' hh k n:=by rfl
theorem a7j(t:Nat)(hh:D)(k n:Int):(bxS t hh k n).lookup ("go_till_in" : Str)=ZX:=by rfl
theorem ass(t:Nat)(hh:D)(k n:Int):inlB t (bxS t hh k n)=ZW:=by simp[inlB,bxS]
abbrev fr4(a b c:D)(hh:D)(as:List D)(k n:Int):Ro:=[.val a,.val b,.val c,.box "Stroll" (bxS 1000 hh k n),.own (ZY 1000) as]
theorem ba7(a b c hh R:D)(as bs:List D)(k n k' n':Int)(me:M D)(e1:me (fr4 a b c hh as k n)=ZY (.ok R,fr4 a b c hh as k n))(e2:bz (stF hh R as k n)=ZY (.nx,stF hh R bs k' n')) :
  ao6 "Stroll" "go_till_in" 3 4 3 bz me (fr4 a b c hh as k n)=ZY (.nx,fr4 a b c hh bs k' n'):=by
 have e0:mIsB "Stroll" 3 "go_till_in" (fr4 a b c hh as k n)=ZY (.ok (bxS 1000 hh k n),fr4 a b c hh as k n):=by
  simp[mIsB,fr4,a7j]
 unfold ao6 dM;rw[e0];dsimp only;rw[e1];simp[fr4,ass,ab1,an6];rw[show[Sl.box "Stroll" (bxS 2 hh k n),.val R,.own (ZY 2) as]=stF hh R as k n from rfl,e2]
 simp[stF,ass,an6]
noncomputable def ac3(qq:LL9):List Int:=(upto qq.length).filter λx=>decide (ab3 qq x=[])
theorem a3v(l:List Int):gEq ZV (.lst (l.map D.int)) (.lst [])=ZY (.v (.bl (decide (l=[])))):=by
 cases l with
 | nil=>kernel_rfl
 | cons x r =>
  have h1:okD 30 (.lst ((x::r).map D.int))=ZW:=ag8 29 (x::r);have h2:eqD (.lst ((x::r).map D.int)) (.lst [])=ZV:=rfl;have h3:okD 30 (.lst [])=ZW:=rfl;simp only[gEq,h1,h2,h3,uA,if_true];rfl
theorem ar0{qq:LL9}(h:Hs qq):compD (bj 0) jm jl (rangeD 0 qq.length) [] [.emp,.val (hD qq)]=ZY (.ok ((ac3 qq).map D.int),aap .emp (rangeD 0 qq.length)::[.val (hD qq)]):=by
 rw[agz,qm (p:=λd=>match d with | .int x=>decide (ab3 qq x=[]) | _=>ZV) (f:=λd=>d)]
 ·rw[aZ,qO,rO];rfl
 ·intro d hd;obtain⟨x,hx,rfl⟩:=bJ.mp hd;have e2:=amj h (vf hx);have e3:=a3v (ab3 qq x);generalize (ab3 qq x).map D.int=cc at *;generalize hD qq=hh at *;simp[jm,e2,e3]
 ·intro d hd _;obtain⟨x,hx,rfl⟩:=bJ.mp hd;simp[jl]
theorem alg{qq:LL9}{x:Int}(h0:0<=x)(h1:x < (qq.length:Int)):x∈ac3 qq↔ab3 qq x=[]:=by
 unfold ac3;rw[dF,decide_eq_true_iff];exact⟨λq=>q.2,λq=>⟨by unfold upto;exact bJ.mpr ⟨x.toNat,cD.mpr (by omega),by omega⟩,q⟩⟩
theorem a7l(hh A:D)(as:List D)(k:Int)(hA:itemsD A=ZY as):au0 4 4 acr [ZY 0,ZY 1,ZY 2] (bu 0 (bu 1 (bu 2 fj))) [.val hh,.val A,.val (.int k),.emp,.emp]=ZY ((bxS 1000 hh k 0,as),[.val hh,.val A,.val (.int k),.emp,.emp]):=by
 simp[au0,acr,iniD,hA,ab1,Dn.frs,mkFs,bxS]
section
variable{qq:LL9}(h:Hs qq)(sh:Sh qq){as:List Int}(ha:Arr qq as){k:Int}(h0:0<=k)(h1:k < (qq.length:Int))
include h sh ha h0 h1
theorem anp{T:Nat}(hn:∀t,t < T->ab3 qq (run qq as k t).2≠[])(hT:ab3 qq (run qq as k T).2=[])(hf:T < 100000) :
  gw [.val (hD qq),.val (.tup (as.map D.int)),.val (.int k)]=ZY (bxS 1000 (hD qq) (run qq as k T).2 (T:Int),(run qq as k T).1.map D.int):=by
 have e1:=a7l (hD qq) (.tup (as.map D.int)) (as.map D.int) k rfl;have eg:=a8e h sh ha h0 h1 (R:=.lst ((ac3 qq).map D.int)) (rs:=ac3 qq) (λx=>akz ZW x _) (s:=0) (T:=T) (λt _ ht z=>by
  obtain⟨_,b0,b1⟩:=srun h sh ha h0 h1 t;exact hn t ht ((alg b0 b1).mp z)) (by
  obtain⟨_,b0,b1⟩:=srun h sh ha h0 h1 T;exact(alg b0 b1).mpr hT) (fG _) hf 0
 rw[show(0:Int)+((T - 0:Nat):Int)=(T:Int) by omega] at eg
 have eg:bz (stF (hD qq) (.lst ((ac3 qq).map D.int)) (as.map D.int) k 0)=ZY (.nx,stF (hD qq) (.lst ((ac3 qq).map D.int)) ((run qq as k T).1.map D.int) (run qq as k T).2 (T:Int)):=eg;have ec:=ar0 h;have hc:((ac3 qq).map D.int).length<=capS:=by
  rw[aK];have:=h.most;exact cg (dC (lO _ _) (by simp[upto];omega))
 obtain⟨L,hL,eL⟩:=a0p h;have em:(M.d (tu [ZX,ZY 0] (mGet qb (b7 (M.d (gb (g1 gL9) (dw 0 mNil))) mNil)) (bj 0) jm jl)) (fr4 (hD qq) (.tup (as.map D.int)) (.int k) (hD qq) (as.map D.int) k 0)=ZY (.ok (.lst ((ac3 qq).map D.int)),fr4 (hD qq) (.tup (as.map D.int)) (.int k) (hD qq) (as.map D.int) k 0):=by
  generalize (ac3 qq).map D.int=ss at *;generalize as.map D.int=AA at *;generalize rangeD 0 qq.length=RR at *;simp only[hD] at *;generalize hDs qq=hh at *;simp[fr4,hL,eL,ec,hc]
 have e3:=ba7 (hD qq) (.tup (as.map D.int)) (.int k) (hD qq) _ _ _ _ _ _ _ _ em eg;unfold gw strD ym ajh;rw[show[Sl.val (hD qq),.val (.tup (as.map D.int)),.val (.int k)]++aP (5 - 3) Sl.emp=[.val (hD qq),.val (.tup (as.map D.int)),.val (.int k),.emp,.emp] from rfl,e1]
 dsimp only;rw[an6];have hq:(([Sl.val (hD qq),.val (.tup (as.map D.int)),.val (.int k),.emp,.emp]:List Sl).all tagB=ZW/\3≠4/\3 < ([Sl.val (hD qq),.val (.tup (as.map D.int)),.val (.int k),.emp,.emp]:List Sl).length):=⟨by simp[tagB],by decide,by simp⟩
 rw[if_pos hq];rw[show bB (bB [Sl.val (hD qq),.val (.tup (as.map D.int)),.val (.int k),.emp,.emp] 3 (.box "Stroll" (bxS 1000 (hD qq) k 0))) 4 (.own (ZY 1000) (as.map D.int))=fr4 (hD qq) (.tup (as.map D.int)) (.int k) (hD qq) (as.map D.int) k 0 from rfl]
 unfold dSeq;rw[e3];simp[dNx,fr4,ass]
end
section
variable{qq:LL9}(h:Hs qq)(sh:Sh qq){as:List Int}(ha:Arr qq as){k:Int}(h0:0<=k)(h1:k < (qq.length:Int))
include h sh ha h0 h1
theorem at4{t a:Nat}(hg:ab3 qq (run qq as k t).2=[])(hta:t<=a)(ga:InG qq (run qq as k a).1 (run qq as k a).2){r:List Int}(ho:outR qq (run qq as k t).1 (run qq as k t).2=ZY r) :
  ∃T',t < T'/\T'<=a/\(run qq as k T').2∈r/\∀s,t<=s->s < T'->(run qq as k s).2∉r:=by
 obtain⟨b1,b2,b3⟩:=srun h sh ha h0 h1 t;have hk:=And.intro b2 b3;have w:=afn h b1;have q1:=xF ho;have q2:=sS ho;have q1:(run qq as k t).2∉r:=by simpa using q1
 obtain⟨x,hx,rfl⟩:=aha.mp q2;have hxt:=ae1 h sh b1 hk x hx;have mr:∀{y:Int},y∈vq (lasts qq (run qq as k t).1) x↔∃m,y=itr (lasts qq (run qq as k t).1) (itr (lasts qq (run qq as k t).1) x (lasts qq (run qq as k t).1).length) m:=agc w hxt
 have cl:∀m:Nat,itr (lasts qq (run qq as k t).1) x m∈dq qq (run qq as k t).2:=λm=>by
  induction m with
  | zero=>exact hx
  | succ m ih=>rw[xm];exact ao8 h sh b1 hk _ ih
 have inC:∀y,y∈vq (lasts qq (run qq as k t).1) x->y∈dq qq (run qq as k t).2:=λy hy=>by
  obtain⟨m,rfl⟩:=mr.mp hy;rw[<-my];exact cl _
 have nx:∀y,y∈vq (lasts qq (run qq as k t).1) x->nxt (lasts qq (run qq as k t).1) y∈vq (lasts qq (run qq as k t).1) x:=λy hy=>by
  obtain⟨m,rfl⟩:=mr.mp hy;exact mr.mpr ⟨m+1,(xm _ _ _).symm⟩
 have ex:∃s,t<=s/\s<=a/\(run qq as k s).2∈vq (lasts qq (run qq as k t).1) x:=by
  refine bR λno =>?_
  have no:∀s,t<=s->s<=a->(run qq as k s).2∉vq (lasts qq (run qq as k t).1) x:=λs s1 s2 z=>no ⟨s,s1,s2,z⟩
  obtain⟨c1,c2,c3⟩:=srun h sh ha h0 h1 a;have same:∀y,y∈vq (lasts qq (run qq as k t).1) x->nxt (lasts qq (run qq as k a).1) y=nxt (lasts qq (run qq as k t).1) y:=λy hy=>by
   have hr:=qp h hk y (inC y hy);have e:=ape h sh ha h0 h1 hr.1 t (a - t) λj j1 j2 z=>no j j1 (by omega) (z▸hy)
   rw[show t+(a - t)=a by omega] at e
   rw[agb h sh c1 hr.1 hr.2,agb h sh b1 hr.1 hr.2];unfold zy;rw[e]
  have y0:itr (lasts qq (run qq as k t).1) x (lasts qq (run qq as k t).1).length∈vq (lasts qq (run qq as k t).1) x:=mr.mpr ⟨0,rfl⟩;have stay:∀m,itr (lasts qq (run qq as k a).1) (itr (lasts qq (run qq as k t).1) x (lasts qq (run qq as k t).1).length) m∈vq (lasts qq (run qq as k t).1) x:=λm=>by
   induction m with
   | zero=>exact y0
   | succ m ih=>rw[xm,same _ ih];exact nx _ ih
  have b:=(acs h hk sh).mp hg;have r1:=aj6 h sh ha h0 h1 t (a - t);rw[show t+(a - t)=a by omega] at r1
  obtain⟨m,e⟩:=ga.lead _ (su (b _ r1) ((lr h hk sh).mp (inC _ y0)));have:=stay m;rw[e] at this;exact no a hta (aM _) this
 obtain⟨s,s1,s2,s3⟩:=ex;obtain⟨T',⟨t1,t2⟩,tm⟩:=least (P:=λs=>t<=s/\(run qq as k s).2∈vq (lasts qq (run qq as k t).1) x) s ⟨s1,s3⟩
 refine⟨T',?_,?_,t2,λs s1 s2 z=>tm s s2 ⟨s1,z⟩⟩
 ·rcases Nat.lt_or_eq_of_le t1 with q | q
  ·exact q
  ·subst q;exact absurd t2 q1
 ·rcases iW s T' with q | q
  ·exact absurd ⟨s1,s3⟩ (tm s q)
  ·omega
end
noncomputable def ad9(qq:LL9)(as:List Int)(k:Int):D:=match outR qq as k with | some r=>rowT r | none=>.non
theorem at5(qq:LL9)(as:List Int)(k:Int):flatV (ad9 qq as k)=ZW:=by
 unfold ad9;cases outR qq as k with
 | none=>rfl
 | some r =>
  show(r.map D.int).all isI=ZW;rw[cX];intro d hd;obtain⟨x,_,rfl⟩:=bJ.mp hd;rfl
abbrev fr5(a b c:D)(s4:Sl)(hh:D)(as:List D)(k n:Int):Ro:=[.val a,.val b,.val c,.box "Stroll" (bxS 1000 hh k n),s4,.own (ZY 1000) as]
theorem sq_p(a b c:Sl)(hh:D)(k n:Int)(t:Nat)(r:Ro):mFV "Stroll" 3 "place" (a::b::c::.box "Stroll" (bxS t hh k n)::r)=ZY (.ok (.int k),a::b::c::.box "Stroll" (bxS t hh k n)::r):=by rfl
theorem sq_s(a b c:Sl)(hh:D)(k n:Int)(t:Nat)(r:Ro):mFV "Stroll" 3 "steps" (a::b::c::.box "Stroll" (bxS t hh k n)::r)=ZY (.ok (.int n),a::b::c::.box "Stroll" (bxS t hh k n)::r):=by rfl
theorem sq_t(a b c d:Sl)(hh:D)(k n:Int)(l:List D)(r:Ro):mLnk "Stroll" 3 "turning" 5 (a::b::c::.box "Stroll" (bxS 1000 hh k n)::d::.own (ZY 1000) l::r)=ZY (.ok (),a::b::c::.box "Stroll" (bxS 1000 hh k n)::d::.own (ZY 1000) l::r):=by rfl
theorem ba6(a b c hh R:D)(s4:Sl)(h4:ab1 s4=ZW)(as bs:List D)(k n k' n':Int)(me:M D)(e1:me (fr5 a b c s4 hh as k n)=ZY (.ok R,fr5 a b c s4 hh as k n))(e2:bz (stF hh R as k n)=ZY (.nx,stF hh R bs k' n')) :
  ao6 "Stroll" "go_till_in" 3 5 3 bz me (fr5 a b c s4 hh as k n)=ZY (.nx,fr5 a b c s4 hh bs k' n'):=by
 have e0:mIsB "Stroll" 3 "go_till_in" (fr5 a b c s4 hh as k n)=ZY (.ok (bxS 1000 hh k n),fr5 a b c s4 hh as k n):=by
  simp[mIsB,fr5,a7j]
 unfold ao6 dM;rw[e0];dsimp only;rw[e1];simp[fr5,ass,ab1,h4,an6];rw[show[Sl.box "Stroll" (bxS 2 hh k n),.val R,.own (ZY 2) as]=stF hh R as k n from rfl,e2]
 simp[stF,ass,an6];exact h4
abbrev a3g:M Rv:=mFnW ig [ZX,ZY 5,ZX] (bc (mVar 0) ((mLnk "Stroll" 3 "turning" 5).bind λ_=>bu 5 (bc (mFV "Stroll" 3 "place") fj)))
theorem azy(a b c R hh:D)(s4:Sl)(as:List D)(k n:Int){ps:Ro}(hR:flatV R=ZW)(e:ig [.val a,.val (.lst as),.val (.int k)]=ZY (.ok (.v R),ps)):dSet 4 a3g (fr5 a b c s4 hh as k n)=ZY (.nx,fr5 a b c (.val R) hh as k n):=by
 simp[dSet,a3g,mFnW,fr5,sq_t,sq_p,e,hR]
section
variable{qq:LL9}(h:Hs qq)(sh:Sh qq){as:List Int}(ha:Arr qq as){k:Int}(h0:0<=k)(h1:k < (qq.length:Int))
include h sh ha h0 h1
theorem a1a(a b c:D)(s4:Sl)(hh:D)(ea:a=hD qq)(t:Nat)(n:Int):dSet 4 a3g (fr5 a b c s4 hh ((run qq as k t).1.map D.int) (run qq as k t).2 n)=ZY (.nx,fr5 a b c (.val (ad9 qq (run qq as k t).1 (run qq as k t).2)) hh ((run qq as k t).1.map D.int) (run qq as k t).2 n):=by
 subst ea;obtain⟨b1,b2,b3⟩:=srun h sh ha h0 h1 t;exact azy _ _ _ _ _ _ _ _ _ (at5 _ _ _) (aj8 h sh b1 ⟨b2,b3⟩ (A:=.lst ((run qq as k t).1.map D.int)) rfl)
theorem atf(b c:D){t T':Nat}{r:List Int}(ho:outR qq (run qq as k t).1 (run qq as k t).2=ZY r)(g1:t < T')(g3:(run qq as k T').2∈r)(g4:∀s,t<=s->s < T'->(run qq as k s).2∉r)(hf:T' < 100000) :
  af7 qw (fr5 (hD qq) b c (.val (ad9 qq (run qq as k t).1 (run qq as k t).2)) (hD qq) ((run qq as k t).1.map D.int) (run qq as k t).2 (t:Int))=ZY (.nx,fr5 (hD qq) b c (.val (ad9 qq (run qq as k T').1 (run qq as k T').2)) (hD qq) ((run qq as k T').1.map D.int) (run qq as k T').2 (T':Int)):=by
 have er:ad9 qq (run qq as k t).1 (run qq as k t).2=.tup (r.map D.int):=by
  unfold ad9;rw[ho];rfl
 rw[er];have eg:=a8e h sh ha h0 h1 (R:=.tup (r.map D.int)) (rs:=r) (λx=>aoz ZW x _) g4 g3 (lN g1) hf (t:Int)
 rw[show(t:Int)+((T' - t:Nat):Int)=(T':Int) by omega] at eg
 have e3:=ba6 (hD qq) b c (hD qq) _ (.val (.tup (r.map D.int))) rfl _ _ _ _ _ _ (mVar 4) (by simp[fr5]) eg
 have e4:=a1a h sh ha h0 h1 (hD qq) b c (.val (.tup (r.map D.int))) (hD qq) rfl T' (T':Int);unfold af7 qw dSeq;rw[e3];dsimp only;rw[e4]
theorem anq{a:Nat}(ga:InG qq (run qq as k a).1 (run qq as k a).2)(ne:∀t,t < a->¬InG qq (run qq as k t).1 (run qq as k t).2)(hf:a < 100000) :
  j6 [.val (hD qq),.val (.tup (as.map D.int)),.val (.int k)]=ZY (bxS 1000 (hD qq) (run qq as k a).2 (a:Int),(run qq as k a).1.map D.int):=by
 have pl:∀t,0<=(run qq as k t).2/\(run qq as k t).2 < (qq.length:Int):=λt=>(srun h sh ha h0 h1 t).2
 obtain⟨T,hT,hm⟩:=least (P:=λt=>ab3 qq (run qq as k t).2=[]) a ((acs h (pl a) sh).mpr ga.back)
 have hTa:T<=a:=by
  rcases iW a T with q | q
  ·exact absurd ((acs h (pl a) sh).mpr ga.back) (hm a q)
  ·exact q
 have gn:∀t,T<=t->ab3 qq (run qq as k t).2=[]:=λt ht=>by
  refine(acs h (pl t) sh).mpr λx hx =>?_
  have b:=(acs h (pl T) sh).mp hT;have r1:=aj6 h sh ha h0 h1 T (t - T);rw[show T+(t - T)=t by omega] at r1
  exact su (b x (su r1 hx)) r1
 have e1:=anp h sh ha h0 h1 hm hT (by omega)
 have e2:=a1a h sh ha h0 h1 (hD qq) (.tup (as.map D.int)) (.int k) .emp (hD qq) rfl T (T:Int);have test:∀(R:D) (AA:List D) (p n:Int),qy (fr5 (hD qq) (.tup (as.map D.int)) (.int k) (.val R) (hD qq) AA p n)=ZY (.ok (!isN R),fr5 (hD qq) (.tup (as.map D.int)) (.int k) (.val R) (hD qq) AA p n):=λR AA p n=>by
  simp[qy,fr5]
 obtain⟨ρ',e3,rfl⟩:=uh (c:=qy) (g:=af7 qw) (λj ρ=>∃t,T<=t/\t<=a/\j=a - t/\ρ=fr5 (hD qq) (.tup (as.map D.int)) (.int k) (.val (ad9 qq (run qq as k t).1 (run qq as k t).2)) (hD qq) ((run qq as k t).1.map D.int) (run qq as k t).2 (t:Int))
  (λρ=>ρ=fr5 (hD qq) (.tup (as.map D.int)) (.int k) (.val (ad9 qq (run qq as k a).1 (run qq as k a).2)) (hD qq) ((run qq as k a).1.map D.int) (run qq as k a).2 (a:Int)) (λj ρ z9=>by
   obtain⟨t,ht,hta,rfl,rfl⟩:=z9;obtain⟨b1,b2,b3⟩:=srun h sh ha h0 h1 t;cases ho:outR qq (run qq as k t).1 (run qq as k t).2 with
   | none =>
    have g:=(ayb h sh b1 ⟨b2,b3⟩ (gn t ht)).mp ho;have:t=a:=by
     rcases iW t a with q | q
     ·exact absurd g (ne t q)
     ·omega
    subst this;refine .inl ⟨_,?_,rfl⟩;rw[test];unfold ad9;rw[ho];rfl
   | some r =>
    obtain⟨T',g1,g2,g3,g4⟩:=at4 h sh ha h0 h1 (gn t ht) hta ga ho;refine .inr ⟨fr5 (hD qq) (.tup (as.map D.int)) (.int k) (.val (ad9 qq (run qq as k t).1 (run qq as k t).2)) (hD qq) ((run qq as k t).1.map D.int) (run qq as k t).2 (t:Int),fr5 (hD qq) (.tup (as.map D.int)) (.int k) (.val (ad9 qq (run qq as k T').1 (run qq as k T').2)) (hD qq) ((run qq as k T').1.map D.int) (run qq as k T').2 (T':Int),a - T',?_,atf h sh ha h0 h1 _ _ ho g1 g3 g4 (by omega),by omega,T',by omega,g2,rfl,rfl⟩
    rw[test];unfold ad9;rw[ho];rfl) fuel (a - T) (fr5 (hD qq) (.tup (as.map D.int)) (.int k) (.val (ad9 qq (run qq as k T).1 (run qq as k T).2)) (hD qq) ((run qq as k T).1.map D.int) (run qq as k T).2 (T:Int)) (by have:=abb;omega) ⟨T,aM _,hTa,rfl,rfl⟩
 have em:af0 gw [ZY 0,ZY 1,ZY 2] (bu 0 (bu 1 (bu 2 fj))) [.val (hD qq),.val (.tup (as.map D.int)),.val (.int k),.emp,.emp,.emp]=ZY ((bxS 1000 (hD qq) (run qq as k T).2 (T:Int),(run qq as k T).1.map D.int),[.val (hD qq),.val (.tup (as.map D.int)),.val (.int k),.emp,.emp,.emp]):=by
  generalize hD qq=hh at *;generalize as.map D.int=AA at *;simp[af0,ay5,e1]
 unfold j6 strD ac7 ajh;rw[show[Sl.val (hD qq),.val (.tup (as.map D.int)),.val (.int k)]++aP (6 - 3) Sl.emp=[.val (hD qq),.val (.tup (as.map D.int)),.val (.int k),.emp,.emp,.emp] from rfl,em]
 dsimp only;rw[an6];have hq:(([Sl.val (hD qq),.val (.tup (as.map D.int)),.val (.int k),.emp,.emp,.emp]:List Sl).all tagB=ZW/\3≠5/\3 < ([Sl.val (hD qq),.val (.tup (as.map D.int)),.val (.int k),.emp,.emp,.emp]:List Sl).length):=⟨by simp[tagB],by decide,by simp⟩
 rw[if_pos hq];rw[show bB (bB [Sl.val (hD qq),.val (.tup (as.map D.int)),.val (.int k),.emp,.emp,.emp] 3 (.box "Stroll" (bxS 1000 (hD qq) (run qq as k T).2 (T:Int)))) 5 (.own (ZY 1000) ((run qq as k T).1.map D.int))=fr5 (hD qq) (.tup (as.map D.int)) (.int k) .emp (hD qq) ((run qq as k T).1.map D.int) (run qq as k T).2 (T:Int) from rfl]
 unfold dSeq;rw[e2];dsimp only;rw[e3];simp[dNx,fr5,ass]
end
def go(qq:LL9):List Int->List Int->List Int
 | as,[]=>as
 | as,x::s=>go qq (gone qq as x) s
def arv(qq:LL9)(d:Int):List Int->List Int->Nat
 | _,[]=>0
 | as,x::s=>(if led qq as x=d then 1 else 0)+arv qq d (gone qq as x) s
def us(qq:LL9)(as:List Int)(y d:Int):Nat->Nat
 | 0=>0
 | n+1=>us qq as y d n+if (dr qq y).getD ((ar as y+(n:Int)) % ((dr qq y).length:Int)).toNat 0=d then 1 else 0
def InR(qq:LL9)(s:List Int):Prop:=∀x∈s,0<=x/\x < (qq.length:Int)
theorem amk(qq:LL9):∀(s t as:List Int),go qq as (s++t)=go qq (go qq as s) t
 | [],t,as=>rfl
 | x::s,t,as=>amk qq s t (gone qq as x)
theorem ajo(qq:LL9)(d:Int):∀(s t as:List Int),arv qq d as (s++t)=arv qq d as s+arv qq d (go qq as s) t
 | [],t,as=>by simp[arv,go]
 | x::s,t,as=>by
  show(if led qq as x=d then 1 else 0)+arv qq d (gone qq as x) (s++t)=(if led qq as x=d then 1 else 0)+arv qq d (gone qq as x) s+arv qq d (go qq (gone qq as x) s) t
  rw[ajo qq d s t];omega
theorem jg(x y:Int)(s:List Int):(x::s).count y=s.count y+if x=y then 1 else 0:=by
 rw[jM];simp
theorem al7{a c w:Int}(hw:0 < w):((a+1) % w+c) % w=(a+(c+1)) % w:=by
 rw[wD]
 congr 1
 omega
theorem anl(qq:LL9)(as:List Int)(y d:Int){m n:Nat}(h:m<=n):us qq as y d m<=us qq as y d n:=by
 induction n with
 | zero =>
  have:m=0:=by omega
  rw[this];exact aM _
 | succ n ih =>
  by_cases q:m=n+1
  ·rw[q];exact aM _
  ·have:=ih (by omega)
   have e:us qq as y d (n+1)=us qq as y d n+if (dr qq y).getD ((ar as y+(n:Int)) % ((dr qq y).length:Int)).toNat 0=d then 1 else 0:=rfl
   omega
theorem aju(f g:Int->Nat):∀l:List Int,(∀x∈l,f x<=g x)->(l.map f).sum<=(l.map g).sum
 | [],_=>aM _
 | x::l,h=>by
  rw[aG,aG,bH,bH];have:=h x (aF ..);have:=aju f g l λy hy=>h y (aA _ hy)
  omega
theorem ack(f g:Int->Nat):∀l:List Int,(∀x∈l,f x=g x)->(l.map f).sum=(l.map g).sum
 | [],_=>rfl
 | x::l,h=>by
  rw[aG,aG,bH,bH,h x (aF ..),ack f g l λy hy=>h y (aA _ hy)]
theorem anu(f g:Int->Nat)(x:Int)(k:Nat)(hx:f x=k+g x):∀l:List Int,l.Nodup->x∈l->(∀y∈l,y≠x->f y=g y)->(l.map f).sum=k+(l.map g).sum
 | [],_,h,_=>by cases h
 | y::l,hn,h,hs=>by
  obtain⟨h1,h2⟩:=cV.mp hn;rw[aG,aG,bH,bH]
  by_cases e:y=x
  ·subst e;rw[hx,ack f g l λz hz=>hs z (aA _ hz) λq=>h1 z hz q.symm]
   omega
  ·have hm:x∈l:=by
    rcases bG.mp h with q | q
    ·exact absurd q.symm e
    ·exact q
   rw[hs y (aF ..) e,anu f g x k hx l h2 hm λz hz=>hs z (aA _ hz)]
   omega
theorem ae7(n:Nat):(upto n).Nodup:=by
 unfold upto;rw[List.Nodup,nP];exact List.Pairwise.imp (λ{a b} hab=>by omega) oV
theorem af8{n:Nat}{x:Int}(h0:0<=x)(h1:x < (n:Int)):x∈upto n:=by
 unfold upto;exact bJ.mpr ⟨x.toNat,cD.mpr (by omega),by omega⟩
section
variable{qq:LL9}(h:Hs qq)
include h
theorem a4w{y:Int}(y0:0<=y)(y1:y < (qq.length:Int)):∀(s:List Int) {as:List Int},Arr qq as->InR qq s->ar (go qq as s) y=(ar as y+(s.count y:Int)) % ((dr qq y).length:Int)
 | [],as,ha,_=>by
  have a:=ha.at y0 y1;show ar as y=(ar as y+0) % _;rw[iZ,eU a.1 a.2]
 | x::s,as,ha,hs=>by
  have hx:=hs x (aF ..);have hd:=(h.dr y0 y1).1;have hal:=ha.len;have ih:=a4w y0 y1 s (aku h ha hx.1 hx.2) λz hz=>hs z (aA _ hz)
  show ar (go qq (gone qq as x) s) y=_;rw[ih,jg]
  by_cases e:x=y
  ·subst e;rw[wu (by omega),if_pos rfl,al7 (by omega),jN]
   rfl
  ·rw[acy y0 hx.1 (gR e),if_neg e];rfl
theorem a5j{as:List Int}{x y d:Int}(x0:0<=x)(y0:0<=y)(e:y≠x):∀n,us qq (gone qq as x) y d n=us qq as y d n
 | 0=>rfl
 | n+1=>by
  unfold us;rw[a5j x0 y0 e n,acy y0 x0 e]
theorem atc{as:List Int}(ha:Arr qq as){x d:Int}(x0:0<=x)(x1:x < (qq.length:Int)):∀n,us qq as x d (n+1)=(if led qq as x=d then 1 else 0)+us qq (gone qq as x) x d n
 | 0=>by
  have a:=ha.at x0 x1;show 0+(if (dr qq x).getD ((ar as x+0) % ((dr qq x).length:Int)).toNat 0=d then 1 else 0)=_+0
  rw[iZ,eU a.1 a.2];unfold led;omega
 | n+1=>by
  have ih:=atc ha (d:=d) x0 x1 n;have hd:=(h.dr x0 x1).1;have hal:=ha.len;have e1:us qq as x d (n+2)=us qq as x d (n+1)+if (dr qq x).getD ((ar as x+((n+1:Nat):Int)) % ((dr qq x).length:Int)).toNat 0=d then 1 else 0:=rfl
  have e2:us qq (gone qq as x) x d (n+1)=us qq (gone qq as x) x d n+if (dr qq x).getD ((ar (gone qq as x) x+(n:Int)) % ((dr qq x).length:Int)).toNat 0=d then 1 else 0:=rfl
  rw[e1,e2,ih,wu (by omega),al7 (by omega),jN]
  show _+_+(if (dr qq x).getD ((ar as x+((n:Int)+1)) % ((dr qq x).length:Int)).toNat 0=d then 1 else 0)=_
  omega
theorem aw8(d:Int):∀(s:List Int) {as:List Int},Arr qq as->InR qq s->arv qq d as s=((upto qq.length).map λy=>us qq as y d (s.count y)).sum
 | [],as,_,_=>by
  show 0=_
  symm
  rw[ack (λy=>us qq as y d (([]:List Int).count y)) (λ_=>0) _ λx _=>rfl]
  generalize upto qq.length=l
  induction l with
  | nil=>rfl
  | cons x l ih=>rw[aG,bH,ih]
 | x::s,as,ha,hs=>by
  have hx:=hs x (aF ..);have ih:=aw8 d s (aku h ha hx.1 hx.2) λz hz=>hs z (aA _ hz)
  show(if led qq as x=d then 1 else 0)+arv qq d (gone qq as x) s=_
  rw[ih]
  symm
  refine anu _ _ x _ ?_ _ (ae7 _) (af8 hx.1 hx.2) λy hy e =>?_
  ·show us qq as x d ((x::s).count x)=_;rw[jg,if_pos rfl,atc h ha hx.1 hx.2]
  ·show us qq as y d ((x::s).count y)=us qq (gone qq as x) y d (s.count y);rw[jg,if_neg (gR e),a5j h hx.1 (vf hy).1 e];rfl
end
def vis(qq:LL9)(as:List Int)(k:Int)(T:Nat):List Int:=(aJ T).map λi=>(run qq as k i).2
theorem ad0(qq:LL9)(as:List Int)(k:Int)(t:Nat):vis qq as k (t+1)=vis qq as k t++[(run qq as k t).2]:=by
 unfold vis;rw[fZ,bD];rfl
theorem aqt(qq:LL9)(as:List Int)(k:Int):∀t,go qq as (vis qq as k t)=(run qq as k t).1
 | 0=>rfl
 | t+1=>by
  rw[ad0,amk,aqt qq as k t];rfl
theorem ank(qq:LL9)(as:List Int)(k d:Int):∀t,(vis qq as k t).count d+(if (run qq as k t).2=d then 1 else 0)=(if k=d then 1 else 0)+arv qq d as (vis qq as k t)
 | 0=>by
  show 0+(if k=d then 1 else 0)=(if k=d then 1 else 0)+0
  omega
 | t+1=>by
  have ih:=ank qq as k d t;rw[ad0,nU,ajo,aqt,jg];show(vis qq as k t).count d+(([]:List Int).count d+(if (run qq as k t).2=d then 1 else 0))+(if led qq (run qq as k t).1 (run qq as k t).2=d then 1 else 0)=(if k=d then 1 else 0)+(arv qq d as (vis qq as k t)+((if led qq (run qq as k t).1 (run qq as k t).2=d then 1 else 0)+0))
  have z:([]:List Int).count d=0:=rfl;omega
def ldo(qq:LL9)(as:List Int)(x:Int)(m:Nat):Int:=(dr qq x).getD ((ar as x+((m:Int) - 1)) % ((dr qq x).length:Int)).toNat 0
theorem a1d(qq:LL9)(as:List Int)(x:Int){m n:Nat}(hm:m < n):us qq as x (ldo qq as x n) m < us qq as x (ldo qq as x n) n:=by
 obtain⟨n,rfl⟩:∃k,n=k+1:=⟨n - 1,by omega⟩
 have e:us qq as x (ldo qq as x (n+1)) (n+1)=us qq as x (ldo qq as x (n+1)) n+1:=by
  show us qq as x (ldo qq as x (n+1)) n+(if (dr qq x).getD ((ar as x+(n:Int)) % ((dr qq x).length:Int)).toNat 0=ldo qq as x (n+1) then 1 else 0)=_
  rw[if_pos];unfold ldo;rw[show(((n+1:Nat):Int) - 1)=(n:Int) by omega]
 have:=anl qq as x (ldo qq as x (n+1)) (show m<=n by omega)
 omega
theorem apk(f g:Int->Nat)(x:Int)(hx:f x < g x):∀l:List Int,x∈l->(∀y∈l,f y<=g y)->(l.map f).sum < (l.map g).sum
 | [],h,_=>by cases h
 | y::l,h,hs=>by
  rw[aG,aG,bH,bH];have h1:=aju f g l λz hz=>hs z (aA _ hz)
  have h2:=hs y (aF ..);rcases bG.mp h with rfl | h
  ·omega
  ·have:=apk f g x hx l h λz hz=>hs z (aA _ hz)
   omega
def fdo(l:List Int)(d m:Int):Nat:=if l.getD (m % (l.length:Int)).toNat 0=d then 1 else 0
def gsm(l:List Int)(d a:Int):Nat->Nat
 | 0=>0
 | n+1=>gsm l d a n+fdo l d (a+(n:Int))
theorem az6(qq:LL9)(as:List Int)(y d:Int):∀n,us qq as y d n=gsm (dr qq y) d (ar as y) n
 | 0=>rfl
 | n+1=>by
  show us qq as y d n+_=gsm (dr qq y) d (ar as y) n+_;rw[az6 qq as y d n];rfl
theorem av3(l:List Int)(d m:Int):fdo l d (m+(l.length:Int))=fdo l d m:=by
 unfold fdo;rw[mY]
theorem avr(l:List Int)(d a:Int):∀n,gsm l d a (n+l.length)=gsm l d a n+gsm l d a l.length
 | 0=>by rw[cJ];show _=0+_;omega
 | n+1=>by
  rw[show n+1+l.length=(n+l.length)+1 by omega]
  show gsm l d a (n+l.length)+fdo l d (a+((n+l.length:Nat):Int))=gsm l d a n+fdo l d (a+(n:Int))+gsm l d a l.length;rw[avr l d a n,show a+((n+l.length:Nat):Int)=a+(n:Int)+(l.length:Int) by omega,av3]
  omega
theorem amh(l:List Int)(d a:Int):∀n,gsm l d a (n+1)=fdo l d a+gsm l d (a+1) n
 | 0=>by
  show 0+fdo l d (a+((0:Nat):Int))=fdo l d a+0;rw[show a+((0:Nat):Int)=a by omega]
  omega
 | n+1=>by
  show gsm l d a (n+1)+fdo l d (a+((n+1:Nat):Int))=fdo l d a+(gsm l d (a+1) n+fdo l d (a+1+(n:Int)));rw[amh l d a n,show a+((n+1:Nat):Int)=a+1+(n:Int) by omega]
  omega
theorem ay7(l:List Int)(d a:Int):gsm l d (a+1) l.length=gsm l d a l.length:=by
 have e1:=amh l d a l.length;have e2:gsm l d a (l.length+1)=gsm l d a l.length+fdo l d (a+(l.length:Int)):=rfl;rw[av3] at e2;omega
theorem aqs(l:List Int)(d:Int):∀n,n<=l.length->gsm l d 0 n=(l.take n).count d
 | 0,_=>by simp[gsm]
 | n+1,hn=>by
  show gsm l d 0 n+fdo l d (0+(n:Int))=_;rw[aqs l d n (by omega),vZ,aC (by omega),nU]
  unfold fdo;rw[uM,eU (by omega) (by omega),bZ,aL,aC (by omega)]
  show _+(if l[n]=d then 1 else 0)=_+[l[n]].count d
  rw[jg];simp
theorem avs(l:List Int)(d:Int):∀a:Nat,gsm l d (a:Int) l.length=l.count d
 | 0=>by
  have:=aqs l d l.length (aM _);rw[qW] at this;exact this
 | a+1=>by
  rw[show((a+1:Nat):Int)=(a:Int)+1 by omega,ay7,avs l d a]
theorem avt(l:List Int)(d:Int)(a n:Nat):∀k,gsm l d (a:Int) (n+k*l.length)=gsm l d (a:Int) n+k*l.count d
 | 0=>by simp
 | k+1=>by
  rw[gY,<-pU,avr,avt l d a n k,avs,gY];omega
theorem a4v{qq:LL9}{as:List Int}(ha:Arr qq as){bs:List Int}(hb:Arr qq bs)(e:∀i:Nat,i < qq.length->ar as (i:Int)=ar bs (i:Int)):as=bs:=by
 have l1:=ha.len;have l2:=hb.len;apply dU;intro i
 by_cases hi:i < qq.length
 ·have e1:=e i hi;unfold ar at e1;rw[show((i:Nat):Int).toNat=i by omega,aL,aL,aC (by omega),aC (by omega)] at e1
  rw[aC (by omega),aC (by omega)]
  exact congrArg ZY e1
 ·rw[bI (by omega),bI (by omega)]
section
variable{qq:LL9}(h:Hs qq)(sh:Sh qq){as:List Int}(ha:Arr qq as){k:Int}(h0:0<=k)(h1:k < (qq.length:Int))
include h sh ha h0 h1
theorem ani(t:Nat):InR qq (vis qq as k t):=λx hx=>by
 obtain⟨i,_,rfl⟩:=bJ.mp hx;exact(srun h sh ha h0 h1 i).2
theorem anj(t:Nat)(x:Int):(vis qq as k (t+1)).count x=(vis qq as k t).count x+if (run qq as k t).2=x then 1 else 0:=by
 rw[ad0,nU,jg];simp
theorem azp{s t:Nat}(hst:s<=t)(x:Int):(vis qq as k s).count x<=(vis qq as k t).count x:=by
 induction t with
 | zero=>rw[show s=0 by omega];exact aM _
 | succ t ih =>
  by_cases q:s=t+1
  ·rw[q];exact aM _
  ·have:=ih (by omega)
   rw[anj h sh ha h0 h1];omega
theorem atd{y:Int}(y0:0<=y)(y1:y < (qq.length:Int))(d:Int)(z:Nat):us qq as y d (z*(dr qq y).length)=z*(dr qq y).count d:=by
 have a:=ha.at y0 y1;obtain⟨n,hn⟩:=tY a.1;rw[az6,hn];have:=avt (dr qq y) d n 0 z;rw[cJ] at this;rw[this];show 0+_=_;omega
theorem ayw{y:Int}(y0:0<=y)(y1:y < (qq.length:Int)){z:Nat}(hz:0 < z):ldo qq as y (z*(dr qq y).length)=zy qq as y:=by
 unfold ldo zy wd;have hd:=(h.dr y0 y1).1
 congr 2
 rw[iT];obtain⟨m,rfl⟩:∃m,z=m+1:=⟨z - 1,by omega⟩
 rw[show ar as y+(((m+1:Nat):Int)*((dr qq y).length:Int) - 1)=(ar as y - 1)+((m+1:Nat):Int)*((dr qq y).length:Int) by omega,rQ]
theorem a1v(g:InG qq as k){z:Int->Nat}(hz1:∀x,Rch qq k x->0 < z x)(hz0:∀x,¬Rch qq k x->z x=0)
  (ker:∀v,0<=v->v < (qq.length:Int)->((upto qq.length).map λw=>z w*(dr qq w).count v).sum=z v*(dr qq v).length) :
  ∃T,1<=T/\run qq as k T=(as,k)/\∀x,0<=x->x < (qq.length:Int)->(vis qq as k T).count x=z x*(dr qq x).length:=by
 obtain⟨T0,hT0,eT0⟩:=ai3 h sh ha h0 h1 g;have many:∀n,n<=(vis qq as k (n*T0)).count k:=λn=>by
  induction n with
  | zero=>exact fG _
  | succ n ih =>
   have e:=anj h sh ha h0 h1 (n*T0) k;rw[adl h sh ha h0 h1 hT0 eT0 n,if_pos rfl] at e;have:=azp h sh ha h0 h1 (s:=n*T0+1) (t:=(n+1)*T0) (by rw[gY];omega) k
   omega
 obtain⟨T,hT,hm⟩:=least (P:=λt=>z (run qq as k t).2*(dr qq (run qq as k t).2).length<=(vis qq as k t).count (run qq as k t).2) ((z k*(dr qq k).length)*T0) (by
  rw[adl h sh ha h0 h1 hT0 eT0];exact many _)
 have le:∀t,t<=T->∀x,(vis qq as k t).count x<=z x*(dr qq x).length:=λt=>by
  induction t with
  | zero=>intro _ x;exact fG _
  | succ t ih =>
   intro ht x;have i1:=ih (by omega) x
   have i2:=hm t (by omega)
   rw[anj h sh ha h0 h1]
   by_cases q:(run qq as k t).2=x
   ·rw[q] at i2;rw[if_pos q];omega
   ·rw[if_neg q];omega
 have inr:=ani h sh ha h0 h1 T;have top:∀d,0<=d->d < (qq.length:Int)->arv qq d as (vis qq as k T)<=z d*(dr qq d).length:=λd d0 d1=>by
  rw[aw8 h d _ ha inr,<-ker d d0 d1];refine aju _ _ _ λy hy =>?_
  have hy:=vf hy;rw[<-atd h sh ha h0 h1 hy.1 hy.2];exact anl _ _ _ _ (le T (aM _) y)
 obtain⟨_,p0,p1⟩:=srun h sh ha h0 h1 T;have bal:=ank qq as k (run qq as k T).2 T;have eqp:=Nat.le_antisymm (le T (aM _) _) hT;have hk:k=(run qq as k T).2:=by
  refine bR λq =>?_
  rw[if_pos rfl,if_neg q] at bal;have:=top _ p0 p1;omega
 have bal2:∀x,(vis qq as k T).count x=arv qq x as (vis qq as k T):=λx=>by
  have:=ank qq as k x T;rw[<-hk] at this;omega
 have full:∀(m:Nat) (x:Int),0<=x->x < (qq.length:Int)->itr (lasts qq as) x m=k->(vis qq as k T).count x=z x*(dr qq x).length:=λm=>by
  induction m with
  | zero =>
   intro x x0 x1 e;have e:x=k:=e;rw[<-hk] at eqp;rw[e];exact eqp
  | succ m ih =>
   intro x x0 x1 e;have e:itr (lasts qq as) (nxt (lasts qq as) x) m=k:=e;rw[agb h sh ha x0 x1] at e;have hmem:=ahj h sh ha x0 x1;have y0:=sh.dr hmem;have y1:=((h.dr x0 x1).2.2 _ hmem).2;have fy:=ih _ y0 y1 e;refine bR λq =>?_
   have hlt:(vis qq as k T).count x < z x*(dr qq x).length:=Nat.lt_of_le_of_ne (le T (aM _) x) q;have hz:0 < z x:=by
    rcases pQ (z x) with w | w
    ·rw[w] at hlt;omega
    ·exact w
   have l1:=a1d qq as x hlt;rw[ayw h sh ha h0 h1 x0 x1 hz] at l1;have l2:=apk (λy=>us qq as y (zy qq as x) ((vis qq as k T).count y)) (λy=>us qq as y (zy qq as x) (z y*(dr qq y).length)) x l1 (upto qq.length) (af8 x0 x1) λy hy=>anl _ _ _ _ (le T (aM _) y)
   rw[<-aw8 h _ _ ha inr,<-bal2,fy,<-ker _ y0 y1] at l2;refine absurd l2 (qJ.mpr (uK ?_));refine ack _ _ _ λy hy =>?_
   have hy:=vf hy;exact atd h sh ha h0 h1 hy.1 hy.2 _ _
 have all:∀x,0<=x->x < (qq.length:Int)->(vis qq as k T).count x=z x*(dr qq x).length:=λx x0 x1=>by
  by_cases q:Rch qq k x
  ·obtain⟨m,e⟩:=g.lead x q;exact full m x x0 x1 e
  ·have:=le T (aM _) x;rw[hz0 x q] at this ⊢
   omega
 refine⟨T,?_,?_,all⟩
 ·have:=all k h0 h1;have z1:=hz1 k .base;have d1:=(h.dr h0 h1).1;have:1<=(vis qq as k T).count k:=by
   rw[this];exact Nat.mul_pos z1 d1
  rcases pQ T with w | w
  ·rw[w] at this;simp[vis] at this
  ·exact w
 ·refine tQ ?_ hk.symm;show(run qq as k T).1=as
  symm
  refine a4v ha (srun h sh ha h0 h1 T).1 λi hi =>?_
  have e:=a4w h (y:=(i:Int)) (by omega) (by omega) (vis qq as k T) ha inr
  rw[aqt,all _ (by omega) (by omega),iT,rQ] at e
  have b:=ha.at (x:=(i:Int)) (by omega) (by omega)
  rw[e,eU b.1 b.2]
end
theorem atb(qq:LL9)(as:List Int)(k:Int)(s:Nat):∀t,vis qq as k (s+t)=vis qq as k s++vis qq (run qq as k s).1 (run qq as k s).2 t
 | 0=>by simp[vis]
 | t+1=>by
  rw[<-pU,ad0,atb qq as k s t,ad0,afh,bV]
theorem aiv{n:Nat}:∀s:List Int,(∀x∈s,0<=x/\x < (n:Int))->s.length=((upto n).map λx=>s.count x).sum
 | [],_=>by
  symm
  rw[ack (λx=>([]:List Int).count x) (λ_=>0) _ λx _=>rfl]
  generalize upto n=l
  induction l with
  | nil=>rfl
  | cons x l ih=>rw[aG,bH,ih];rfl
 | y::s,hs=>by
  have hy:=hs y (aF ..);have ih:=aiv s λx hx=>hs x (aA _ hx)
  rw[aX,ih];have:=anu (λx=>(y::s).count x) (λx=>s.count x) y 1 (by rw[jg,if_pos rfl];omega) (upto n) (ae7 n) (af8 hy.1 hy.2) λx _ e=>by rw[jg,if_neg (gR e)];rfl
  omega
section
variable{qq:LL9}(h:Hs qq)(sh:Sh qq){as:List Int}(ha:Arr qq as){k:Int}(h0:0<=k)(h1:k < (qq.length:Int))
include h sh ha h0 h1
theorem a1w{m:Nat}(hm:1<=m)(em:run qq as k m=(as,k))(hd:∀r,0 < r->r < m->run qq as k r≠(as,k))(g:InG qq as k){z:Int->Nat}(hz1:∀x,Rch qq k x->0 < z x)(hz0:∀x,¬Rch qq k x->z x=0)
  (ker:∀v,0<=v->v < (qq.length:Int)->((upto qq.length).map λw=>z w*(dr qq w).count v).sum=z v*(dr qq v).length) (hg:∀q:Nat,(∀x,Rch qq k x->q ∣ z x)->q=1) :
  (∀x,0<=x->x < (qq.length:Int)->(vis qq as k m).count x=z x*(dr qq x).length)/\m=((upto qq.length).map λx=>z x*(dr qq x).length).sum:=by
 obtain⟨T,hT,eT,cT⟩:=a1v h sh ha h0 h1 g hz1 hz0 ker;have hdm:=rK T m;have hlt:=vX T (show 0 < m by omega)
 have hr:T % m=0:=by
  rcases pQ (T % m) with q | q
  ·exact q
  ·refine absurd ?_ (hd _ q hlt);have:=abw qq as k (i:=(T / m)*m) (j:=0) (adl h sh ha h0 h1 hm em (T / m)) (T % m);rw[cJ,show T / m*m+T % m=T by rw[iB];exact hdm,eT] at this
   exact this.symm
 have hq:T=(T / m)*m:=by rw[iB];omega
 generalize hQ:T / m=Q at hq;have cnt:∀n x,(vis qq as k (n*m)).count x=n*(vis qq as k m).count x:=λn x=>by
  induction n with
  | zero=>simp[vis]
  | succ n ih =>
   have e:=atb qq as k (n*m) m;rw[adl h sh ha h0 h1 hm em n] at e;rw[gY,e,nU,ih,gY]
 have dv:∀x,0<=x->x < (qq.length:Int)->∃y,(vis qq as k m).count x=y*(dr qq x).length:=λx x0 x1=>by
  have e:=a4w h x0 x1 (vis qq as k m) ha (ani h sh ha h0 h1 m);rw[aqt,em] at e;have b:=ha.at x0 x1;have hd:=(h.dr x0 x1).1;have e:ar as x=(ar as x+((vis qq as k m).count x:Int)) % ((dr qq x).length:Int):=e;have:((vis qq as k m).count x:Int) % ((dr qq x).length:Int)=0:=by
   have:=Int.emod_add_mul_ediv (ar as x+((vis qq as k m).count x:Int)) ((dr qq x).length:Int);rw[<-e] at this;have e2:((vis qq as k m).count x:Int)=((dr qq x).length:Int)*((ar as x+((vis qq as k m).count x:Int)) / ((dr qq x).length:Int)):=by omega
   rw[e2];exact Int.mul_emod_right _ _
  obtain⟨y,hy⟩:=Int.dvd_of_emod_eq_zero this;have y0:0<=y:=by
   rcases lQ y 0 with q | q
   ·have:((dr qq x).length:Int)*y < 0:=Int.mul_neg_of_pos_of_neg (by omega) q
    omega
   ·exact q
  obtain⟨n,rfl⟩:=tY y0;refine⟨n,?_⟩;have:(((vis qq as k m).count x:Nat):Int)=((n*(dr qq x).length:Nat):Int):=by rw[hy,iT,dD]
  omega
 have q1:Q=1:=hg Q λx hx=>by
  have rg:=Rch.range h ⟨h0,h1⟩ hx;have x0:0<=x:=by
   cases hx with
   | base=>exact h0
   | step r q hd=>exact sh.dr hd
  obtain⟨y,hy⟩:=dv x x0 rg.2;have e:=cT x x0 rg.2;rw[hq,cnt,hy,<-tR] at e;have hd:=(h.dr x0 rg.2).1;exact⟨y,(Nat.eq_of_mul_eq_mul_right (by omega) e).symm⟩
 have hTm:T=m:=by rw[q1,uY] at hq;exact hq
 rw[hTm] at cT;refine⟨cT,?_⟩;have l:=aiv (vis qq as k m) (ani h sh ha h0 h1 m);have lm:(vis qq as k m).length=m:=by simp[vis]
 rw[lm] at l;rw[l];refine ack _ _ _ λx hx =>?_
 have hx:=vf hx;exact cT x hx.1 hx.2
end
theorem ano{qq:LL9}{y:Int}(y0:0<=y)(y1:y < (qq.length:Int))(h:∀z,Rch qq y z->0<=z):y∈fc qq:=dF.mpr ⟨by
 unfold upto;exact bJ.mpr ⟨y.toNat,cD.mpr (by omega),by omega⟩,(yl qq y).mpr h⟩
abbrev Rw:=Nat->Int
noncomputable def lap(c:Nat)(F:List Rw->Int):List Rw->List Rw->Int
 | _,[]=>0
 | pre,r::rs=>r c*F (pre++rs) - lap c F (pre++[r]) rs
def det:List Nat->List Rw->Int
 | [],[]=>1
 | [],_::_=>0
 | c::cs,rows=>lap c (det cs) [] rows
def SW(F:List Rw->Int):Prop:=∀p a b q,F (p++a::b::q) = - F (p++b::a::q)
theorem ava{c:Nat}{F:List Rw->Int}(hF:SW F)(a b:Rw):∀(q p1 p2:List Rw),lap c F (p1++a::b::p2) q = - lap c F (p1++b::a::p2) q
 | [],_,_=>by simp[lap]
 | r::q,p1,p2=>by
  have ih:=ava (c:=c) hF a b q p1 (p2++[r]);have e:=hF p1 a b (p2++q);simp only[lap,bV,cW] at ih e ⊢
  rw[ih,e,jD];omega
theorem a0s{c:Nat}{F:List Rw->Int}(hF:SW F)(a b:Rw)(q:List Rw):∀(p pre:List Rw),lap c F pre (p++a::b::q) = - lap c F pre (p++b::a::q)
 | [],pre=>by
  have h:=ava (c:=c) hF a b q pre [];simp only[lap,aZ,bV,cW] at h ⊢
  rw[h];omega
 | r::p,pre=>by
  have ih:=a0s (c:=c) hF a b q p (pre++[r]);have e:=hF (pre++p) a b q;simp only[lap,bV,cW] at ih e ⊢
  rw[ih,e,jD];omega
theorem amx:∀cs,SW (det cs)
 | []=>λp a b q=>by
  have e:∀x:List Rw,x≠[]->det [] x=0:=λx hx=>by
   cases x with
   | nil=>exact absurd rfl hx
   | cons=>rfl
  rw[e _ (by simp),e _ (by simp)]
  rfl
 | c::cs=>λp a b q=>a0s (amx cs) a b q p []
def LN(F:List Rw->Int):Prop:=∀p (x y:Int) (a b:Rw) q,F (p++(λj=>x*a j+y*b j)::q)=x*F (p++a::q)+y*F (p++b::q)
theorem avc{c:Nat}{F:List Rw->Int}(hF:LN F)(x y:Int)(a b:Rw):∀(q p1 p2:List Rw),lap c F (p1++(λj=>x*a j+y*b j)::p2) q=x*lap c F (p1++a::p2) q+y*lap c F (p1++b::p2) q
 | [],_,_=>by simp[lap]
 | r::q,p1,p2=>by
  have ih:=avc (c:=c) hF x y a b q p1 (p2++[r]);have e:=hF p1 x y a b (p2++q);simp only[lap,bV,cW] at ih e ⊢
  rw[ih,e,gD,mO,mO,cQ,cQ (r c)];omega
theorem a0t{c:Nat}{F:List Rw->Int}(hF:LN F)(x y:Int)(a b:Rw)(q:List Rw):∀(p pre:List Rw),lap c F pre (p++(λj=>x*a j+y*b j)::q)=x*lap c F pre (p++a::q)+y*lap c F pre (p++b::q)
 | [],pre=>by
  have h:=avc (c:=c) hF x y a b q pre [];simp only[lap,aZ] at h ⊢
  rw[h,rR,mO,mO,fW,fW];omega
 | r::p,pre=>by
  have ih:=a0t (c:=c) hF x y a b q p (pre++[r]);have e:=hF (pre++p) x y a b q;simp only[lap,bV,cW] at ih e ⊢
  rw[ih,e,gD,mO,mO,cQ,cQ (r c)];omega
theorem amz:∀cs,LN (det cs)
 | []=>λp x y a b q=>by
  have e:∀z:List Rw,z≠[]->det [] z=0:=λz hx=>by
   cases z with
   | nil=>exact absurd rfl hx
   | cons=>rfl
  rw[e _ (by simp),e _ (by simp),e _ (by simp)]
  simp
 | c::cs=>λp x y a b q=>a0t (amz cs) x y a b q p []
theorem aq6(cs:List Nat)(a:Rw):∀(q p r:List Rw),det cs (p++a::(q++a::r))=0
 | [],p,r=>by
  have:=amx cs p a a r;simp only[aZ];omega
 | x::q,p,r=>by
  have h:=amx cs p a x (q++a::r);have ih:=aq6 cs a q (p++[x]) r;simp only[bV,cW,aZ] at h ih ⊢
  rw[h,ih];rfl
theorem a04(cs:List Nat)(a:Rw):∀(q p r:List Rw),det cs (p++(q++a::r))=det cs (p++a::(q++r))∨det cs (p++(q++a::r)) = - det cs (p++a::(q++r))
 | [],p,r=>.inl rfl
 | x::q,p,r=>by
  have h:=amx cs p x a (q++r);have ih:=a04 cs a q (p++[x]) r;simp only[bV,cW,aZ] at h ih ⊢
  rcases ih with e | e
  ·right;rw[e,h]
  ·left;rw[e,h];omega
noncomputable def clr(x u:Int)(r k:Rw):Rw:=λj=>x*r j+(-u)*k j
theorem ak7(C:List Nat)(k:Rw)(x:Int)(u:Rw->Int):∀(rs pre:List Rw),det C (k::(pre++rs.map λr=>clr x (u r) r k))=x ^ rs.length*det C (k::(pre++rs))
 | [],pre=>by simp
 | r::rs,pre=>by
  have e:=amz C (k::pre) x (-(u r)) r k (rs.map λr=>clr x (u r) r k)
  have z:=aq6 C k pre [] (rs.map λr=>clr x (u r) r k)
  have ih:=ak7 C k x u rs (pre++[r]);simp only[bV,cW,aZ,aG,aX] at e z ih ⊢
  show det C (k::(pre++(λj=>x*r j+(-(u r))*k j)::_))=_
  rw[e,z,ih,fM,iZ,iY,dD (x ^ rs.length) x,fW]
theorem agd{c:Nat}{F:List Rw->Int}:∀(rs pre:List Rw),(∀r∈rs,r c=0)->lap c F pre rs=0
 | [],_,_=>rfl
 | r::rs,pre,h=>by
  show r c*F (pre++rs) - lap c F (pre++[r]) rs=0;rw[h r (aF ..),agd rs _ λx hx=>h x (aA _ hx)]
  simp
theorem chio(c:Nat)(cs:List Nat)(k:Rw)(rs:List Rw):k c*det cs (rs.map λr=>clr (k c) (r c) r k)=k c ^ rs.length*det (c::cs) (k::rs):=by
 have e:=ak7 (c::cs) k (k c) (λr=>r c) rs []
 rw[aZ,aZ] at e;rw[<-e];show _=lap c (det cs) [] (k::_);show _=k c*det cs ([]++_) - lap c (det cs) ([]++[k]) _;rw[agd]
 ·simp
 ·intro r hr;obtain⟨r0,_,rfl⟩:=bJ.mp hr;show k c*r0 c+(-(r0 c))*k c=0;rw[mL,dD];omega
theorem aey(cs:List Nat)(x:Int):∀(rs pre:List Rw),det cs (pre++rs.map λr j=>x*r j)=x ^ rs.length*det cs (pre++rs)
 | [],pre=>by simp
 | r::rs,pre=>by
  have e:=amz cs pre x 0 r r (rs.map λr j=>x*r j)
  have ih:=aey cs x rs (pre++[r]);have z:(λj=>x*r j+0*r j)=λj=>x*r j:=by funext j;simp
  rw[z] at e;simp only[bV,cW,aZ,aG,aX] at e ih ⊢
  rw[e,ih,fL,iZ,iY,dD (x ^ rs.length) x,fW]
def Dvd(d:Int)(n:Nat)(M:Nat->Rw):Prop:=∀(is cs:List Nat),(∀i∈is,i < n)->is≠[]->d ^ (is.length - 1) ∣ det cs (is.map M)
theorem Dvd.one(n:Nat)(M:Nat->Rw):Dvd 1 n M:=λis cs _ _=>by rw[Int.one_pow];exact Int.one_dvd _
theorem Dvd.two{d:Int}{n:Nat}{M:Nat->Rw}(h:Dvd d n M){i k:Nat}(hi:i < n)(hk:k < n)(c j:Nat):d ∣ M k c*M i j - M i c*M k j:=by
 have:=h [k,i] [c,j] (λx hx=>by simp at hx;omega) (by simp)
 simp[det,lap] at this;have e:d ^ 1=d:=by rw[iY,Int.pow_zero,jX]
 rwa[e] at this
def stM(d:Int)(k:Nat)(M:Nat->Rw):Nat->Rw:=λi j=>if i=k then M k j else (M k k*M i j - M i k*M k j) / d
section
variable{d:Int}{n:Nat}{M:Nat->Rw}(h:Dvd d n M){k:Nat}(hk:k < n)(hd:d≠0)
include h hk hd
omit hd in
theorem atl{i:Nat}(hi:i < n)(hne:i≠k)(j:Nat):d*stM d k M i j=M k k*M i j - M i k*M k j:=by
 unfold stM;rw[if_neg hne];exact Int.mul_ediv_cancel' (h.two hi hk k j)
theorem ajw(is:List Nat)(hi:∀i∈is,i < n)(hn:k∉is):(is.map (stM d k M)).map (λr j=>d*r j)=(is.map M).map λr=>clr (M k k) (r k) r (M k):=by
 rw[cL,cL];apply cY;intro i hm
 funext j
 have:=atl h hk (hi i hm) (λe=>hn (e▸hm)) j
 show d*stM d k M i j=M k k*M i j+(-(M i k))*M k j;rw[this,mL];omega
theorem Dvd.step(hp:M k k≠0):Dvd (M k k) n (stM d k M):=λis cs hi hne=>by
 by_cases hm:k∈is
 ·obtain⟨a,b,rfl⟩:=lC hm
  by_cases ha:k∈a++b
  ·-- twice
   have z:det cs ((a++k::b).map (stM d k M))=0:=by
    rw[bD,aG];rcases cN.mp ha with q | q
    ·obtain⟨a1,a2,rfl⟩:=lC q;rw[bD,aG,bV,cW];exact aq6 cs _ _ _ _
    ·obtain⟨b1,b2,rfl⟩:=lC q;rw[bD,aG];exact aq6 cs _ _ _ _
   rw[z];exact Int.dvd_zero _
  ·have hab:∀i∈a++b,i < n:=λi q=>hi i (by
    rcases cN.mp q with q | q
    ·exact gF _ q
    ·exact cF _ (aA _ q))
   have e1:=ajw h hk hd (a++b) hab ha;have ek:stM d k M k=M k:=by funext j;unfold stM;rw[if_pos rfl]
   have e2:=aey cs d ((a++b).map (stM d k M)) [M k];have e3:=ak7 cs (M k) (M k k) (λr=>r k) ((a++b).map M) []
   obtain⟨q,e4⟩:=h (k::(a++b)) cs (λi hi'=>by
    rcases bG.mp hi' with rfl | z
    ·exact hk
    ·exact hab i z) (by simp)
   rw[e1] at e2;simp only[aZ,cW,aK,aG,aX,pR] at e2 e3 e4;rw[e3,e4] at e2;have e5:det cs (M k::(a++b).map (stM d k M))=M k k ^ (a++b).length*q:=by
    refine dW (mK hd) ((e2.symm).trans ?_);rw[cQ]
   have e6:=a04 cs (M k) (a.map (stM d k M)) [] (b.map (stM d k M));rw[aZ,aZ,<-bD,e5] at e6;rw[bD,aG,ek,show(a++k::b).length - 1=(a++b).length by simp]
   rcases e6 with z | z
   ·exact⟨q,z⟩
   ·exact⟨-q,by rw[z,jD]⟩
 ·have e1:=ajw h hk hd is hi hm;have e2:=aey cs d (is.map (stM d k M)) [];have e3:=chio k cs (M k) (is.map M);obtain⟨q,e4⟩:=h (k::is) (k::cs) (λi hi'=>by
   rcases bG.mp hi' with rfl | z
   ·exact hk
   ·exact hi i z) (by simp)
  rw[e1] at e2;simp only[aZ,aK,aG,aX,pR] at e2 e3 e4;rw[e2,e4] at e3;have e5:M k k*det cs (is.map (stM d k M))=M k k ^ is.length*q:=by
   refine dW (show d ^ is.length≠0 from mK hd) ?_
   rw[cQ,e3,cQ]
  have hl:is.length=is.length - 1+1:=by have:=mG.mpr hne;omega
  rw[hl,iY,dD (M k k ^ (is.length - 1)) (M k k),fW] at e5;exact⟨q,dW hp e5⟩
end
theorem ant{f:Int->Int}{m:Int}:∀{l:List Int},(∀d∈l,f d<=m)->(l.map f).sum<=m*(l.length:Int)
 | [],_=>by simp
 | d::l,h=>by
  have a:=h d (aF ..);have b:=ant (l:=l) λx hx=>h x (aA _ hx)
  rw[aG,bH,aX,jN,gD];simp;omega
theorem aiu{f:Int->Int}{m:Int}:∀{l:List Int},(∀d∈l,f d<=m)->m*(l.length:Int)<=(l.map f).sum->∀d∈l,f d=m
 | d::l,h,hs,x,hx=>by
  have a:=h d (aF ..);have b:=ant (l:=l) λx hx=>h x (aA _ hx)
  rw[aG,bH,aX,jN,gD] at hs;simp at hs;rcases bG.mp hx with rfl | q
  ·omega
  ·exact aiu (λx hx=>h x (aA _ hx)) (by omega) x q
theorem aw9(X:Int->Int):∀n:Nat,0 < n->∃i:Int,0<=i/\i < (n:Int)/\∀j:Int,0<=j->j < (n:Int)->X j<=X i
 | 1,_=>⟨0,by omega,by omega,λj a b=>by
  have:j=0:=by omega
  rw[this];exact vD _⟩
 | n+2,_=>by
  obtain⟨i,i0,i1,h⟩:=aw9 X (n+1) (by omega)
  by_cases q:X i<=X ((n+1:Nat):Int)
  ·refine⟨((n+1:Nat):Int),by omega,by omega,λj a b =>?_⟩
   by_cases e:j=((n+1:Nat):Int)
   ·rw[e];exact vD _
   ·exact uP (h j a (by omega)) q
  ·refine⟨i,i0,by omega,λj a b =>?_⟩
   by_cases e:j=((n+1:Nat):Int)
   ·rw[e];omega
   ·exact h j a (by omega)
section
variable{qq:LL9}(h:Hs qq)(hop:fc qq=[])
include h hop
theorem aqb{X:Int->Int}(hg:∀d,d < 0->X d=0)(hX:∀i,0<=i->i < (qq.length:Int)->0 < X i->((dr qq i).length:Int)*X i<=((dr qq i).map X).sum)(i:Int)(i0:0<=i)(i1:i < (qq.length:Int)):X i<=0:=by
 apply bR;intro hi;obtain⟨t,t0,t1,ht⟩:=aw9 X qq.length h.one;have hpos:0 < X t:=by have:=ht i i0 i1;omega
 have le:∀y,0<=y->y < (qq.length:Int)->∀d∈dr qq y,X d<=X t:=λy y0 y1 d hd=>by
  have b:=(h.dr y0 y1).2.2 d hd;rcases lQ d 0 with q | q
  ·rw[hg d q];omega
  ·exact ht d q b.2
 have all:∀z,Rch qq t z->(0<=z/\z < (qq.length:Int))/\X z=X t:=λz hz=>by
  induction hz with
  | base=>exact⟨⟨t0,t1⟩,rfl⟩
  | @step x d r _ hd ih =>
   obtain⟨⟨x0,x1⟩,e⟩:=ih;have a:=hX x x0 x1 (by omega)
   rw[e,dD] at a;have q:=aiu (le x x0 x1) a d hd;have b:=(h.dr x0 x1).2.2 d hd;refine⟨⟨?_,b.2⟩,q⟩;rcases lQ d 0 with z | z
   ·rw[hg d z] at q;omega
   ·exact z
 have:=ano t0 t1 λz hz=>(all z hz).1.1
 rw[hop] at this;cases this
end
noncomputable def dot:Nat->Rw->Rw->Int
 | 0,_,_=>0
 | m+1,r,y=>dot m r y+r m*y m
theorem ah5(x z:Int)(a b y:Rw):∀m,dot m (λj=>x*a j+z*b j) y=x*dot m a y+z*dot m b y
 | 0=>by simp[dot]
 | m+1=>by
  show dot m _ y+(x*a m+z*b m)*y m=x*(dot m a y+a m*y m)+z*(dot m b y+b m*y m);rw[ah5 x z a b y m,rR,gD,gD,fW,fW];omega
theorem ace{a b y z:Rw}:∀m,(∀j < m,a j=b j)->(∀j < m,y j=z j)->dot m a y=dot m b z
 | 0,_,_=>rfl
 | m+1,h,g=>by
  show dot m a y+_=dot m b z+_;rw[ace m (λj hj=>h j (by omega)) (λj hj=>g j (by omega)),h m (by omega),g m (by omega)]
theorem aex{a y:Rw}:∀m,(∀j < m,a j*y j=0)->dot m a y=0
 | 0,_=>rfl
 | m+1,h=>by
  show dot m a y+_=0;rw[aex m λj hj=>h j (by omega),h m (by omega)]
  rfl
theorem ah4{a y:Rw}{i:Nat}:∀m,i < m->(∀j < m,j≠i->a j*y j=0)->dot m a y=a i*y i
 | m+1,hi,h=>by
  show dot m a y+a m*y m=_
  by_cases e:i=m
  ·subst e;rw[aex i λj hj=>h j (by omega) (by omega)]
   omega
  ·rw[ah4 m (by omega) λj hj=>h j (by omega),h m (by omega) (gR e)]
   omega
theorem awb{a y z:Rw}:∀m,dot m a (λj=>y j+z j)=dot m a y+dot m a z
 | 0=>rfl
 | m+1=>by
  show dot m a _+a m*(y m+z m)=dot m a y+a m*y m+(dot m a z+a m*z m);rw[awb m,gD];omega
def BS(M0:Nat->Rw):Nat->Int×(Nat->Rw)
 | 0=>(1,M0)
 | k+1=>((BS M0 k).2 k k,stM (BS M0 k).1 k (BS M0 k).2)
structure BJ (n m:Nat) (M0:Nat->Rw) (P:Nat->Prop) (d:Int) (M:Nat->Rw):Prop where
 pos:0 < d
 dvd:Dvd d n M
 pin:∀j,P j->j < n
 shape:∀i < n,∀j,P j->M i j=if i=j then d else 0
 back:∀y,(∀j,P j->dot m (M j) y=0)->(∀j,P j->dot m (M0 j) y=0)/\∀i,i < n->¬P i->dot m (M i) y=d*dot m (M0 i) y
theorem BJ.zero(n m:Nat)(M0:Nat->Rw):BJ n m M0 (λ_=>False) 1 M0:=⟨by decide,Dvd.one n M0,λ_ h=>h.elim,λ_ _ _ h=>h.elim,λy _=>⟨λj hj=>hj.elim,λi _ _=>by rw[jX]⟩⟩
theorem BJ.to{n m:Nat}{M0:Nat->Rw}{P Q:Nat->Prop}{d:Int}{M:Nat->Rw}(b:BJ n m M0 P d M)(h:∀j,P j↔Q j):BJ n m M0 Q d M:=by
 have:P=Q:=funext λj=>propext (h j)
 rwa[<-this]
theorem BJ.step{n m:Nat}{M0:Nat->Rw}{P:Nat->Prop}{d:Int}{M:Nat->Rw}(b:BJ n m M0 P d M){k:Nat}(hk:k < n)(hnk:¬P k)(hp:0 < M k k):BJ n m M0 (λj=>P j∨j=k) (M k k) (stM d k M):=by
 obtain⟨p1,p2,pin,p3,p4⟩:=b;have mul:=λ{i:Nat} (hi:i < n) (hne:i≠k) j=>atl p2 hk hi hne j
 have hd:d≠0:=by omega
 have st:=p2.step hk hd (by omega)
 have ek:stM d k M k=M k:=by funext j;unfold stM;rw[if_pos rfl]
 have dm:∀i,i < n->i≠k->∀y,d*dot m (stM d k M i) y=M k k*dot m (M i) y - M i k*dot m (M k) y:=λi hi hne y=>by
  have a:=ah5 d 0 (stM d k M i) (stM d k M i) y m;have c:=ah5 (M k k) (-(M i k)) (M i) (M k) y m;rw[fL,iZ] at a;rw[<-a,Int.sub_eq_add_neg,<-mL,<-c];refine ace m (λj _ =>?_) λ_ _=>rfl
  rw[fL,iZ,mul hi hne j,mL];omega
 refine⟨hp,st,λj hj =>?_,λi hi j hj =>?_,λy hy =>?_⟩
 ·rcases hj with z | z
  ·exact pin j z
  ·omega
 ·by_cases hik:i=k
  ·subst hik;rw[ek]
   by_cases hjk:j=i
   ·subst hjk;rw[if_pos rfl]
   ·have hPj:P j:=hj.elim id λz=>absurd z hjk
    rw[if_neg (gR hjk),p3 i hi j hPj,if_neg (gR hjk)]
  ·refine dW hd ?_;rw[mul hi hik j]
   by_cases hjk:j=k
   ·subst hjk;rw[if_neg hik,dD];omega
   ·have hPj:P j:=hj.elim id λz=>absurd z hjk
    rw[p3 i hi j hPj,p3 k hk j hPj,if_neg (show ¬k=j from gR hjk)]
    by_cases hij:i=j
    ·rw[if_pos hij,if_pos hij,dD];omega
    ·rw[if_neg hij,if_neg hij];simp
 ·have hkk:dot m (M k) y=0:=by have:=hy k (.inr rfl);rwa[ek] at this
  have hj:∀j,P j->dot m (M j) y=0:=λj hj=>by
   have hjk:j≠k:=λe=>hnk (e▸hj)
   have a:=dm j (pin j hj) hjk y;rw[hy j (.inl hj),hkk,fM,fM,uO] at a;rcases pD.mp a.symm with z | z
   ·omega
   ·exact z
  obtain⟨b1,b2⟩:=p4 y hj;refine⟨λj hj' =>?_,λi hi hki =>?_⟩
  ·rcases hj' with z | z
   ·exact b1 j z
   ·subst z;have:=b2 j hk hnk;rw[hkk] at this;rcases pD.mp this.symm with z | z
    ·omega
    ·exact z
  ·have hik:i≠k:=λe=>hki (.inr e)
   have a:=dm i hi hik y;rw[hkk,fM,uO,b2 i hi (λz=>hki (.inl z)),cQ] at a
   exact dW hd a
def dsq(qq:LL9):Nat->Rw:=λi j=>(if i=j then ((dr qq (i:Int)).length:Int) else 0) - ((dr qq (i:Int)).count (j:Int):Int)
def xt(y:Rw)(d:Int):Int:=if d < 0 then 0 else y d.toNat
theorem amw(y:Rw){n:Nat}:∀l:List Int,(∀d∈l,d < (n:Int))->dot n (λj=>(l.count (j:Int):Int)) y=(l.map (xt y)).sum
 | [],_=>aex n λj _=>by simp
 | d::l,h=>by
  have ih:=amw y l λx hx=>h x (aA _ hx)
  have hd:=h d (aF ..);have e:=ah5 1 1 (λj=>(l.count (j:Int):Int)) (λj=>if d=(j:Int) then 1 else 0) y n
  rw[ih,jX,jX] at e;rw[aG,bH];have e1:dot n (λj=>(((d::l).count (j:Int):Nat):Int)) y=dot n (λj=>1*(l.count (j:Int):Int)+1*(if d=(j:Int) then 1 else 0)) y:=by
   refine ace n (λj _ =>?_) λ_ _=>rfl
   rw[jM]
   by_cases q:d=(j:Int)
   ·simp[q]
   ·simp[q]
  have e2:dot n (λj=>if d=(j:Int) then 1 else 0) y=xt y d:=by
   unfold xt
   by_cases q:d < 0
   ·rw[if_pos q];exact aex n λj _=>by rw[if_neg (by omega),fL]
   ·rw[if_neg q,ah4 (i:=d.toNat) n (by omega) λj _ hj=>by rw[if_neg (by omega),fL],if_pos (by omega),jX]
  rw[e1,e,e2];omega
section
variable{qq:LL9}(h:Hs qq)
include h
theorem awa(y:Rw){i:Nat}(hi:i < qq.length):dot qq.length (dsq qq i) y=((dr qq (i:Int)).length:Int)*y i - ((dr qq (i:Int)).map (xt y)).sum:=by
 have e:=ah5 1 (-1) (λj=>if i=j then ((dr qq (i:Int)).length:Int) else 0) (λj=>((dr qq (i:Int)).count (j:Int):Int)) y qq.length
 rw[amw y _ λd hd=>((h.dr (x:=(i:Int)) (by omega) (by omega)).2.2 d hd).2] at e
 have e1:dot qq.length (dsq qq i) y=dot qq.length (λj=>1*(if i=j then ((dr qq (i:Int)).length:Int) else 0)+(-1)*((dr qq (i:Int)).count (j:Int):Int)) y:=by
  refine ace _ (λj _ =>?_) λ_ _=>rfl
  unfold dsq;omega
 have e2:dot qq.length (λj=>if i=j then ((dr qq (i:Int)).length:Int) else 0) y=((dr qq (i:Int)).length:Int)*y i:=by
  rw[ah4 (i:=i) _ hi λj _ hj=>by rw[if_neg (gR hj),fL],if_pos rfl]
 rw[e1,e,e2];omega
variable(hop:fc qq=[])
include hop
theorem auv(y:Rw)(l:List Int):(l.map λd => - xt y d).sum = - (l.map (xt y)).sum:=by
 induction l with
 | nil=>rfl
 | cons x l ih=>rw[aG,aG,bH,bH,ih];omega
open Classical in
theorem colY{M0:Nat->Rw}(hM:∀i < qq.length,∀j < qq.length,M0 i j=dsq qq i j){P:Nat->Prop}{d:Int}{M:Nat->Rw}(b:BJ qq.length (qq.length+1) M0 P d M){k:Nat}(hk:k < qq.length)(hnk:¬P k):∃Y:Rw,Y k=d/\(∀j,¬P j->j≠k->Y j=0)/\(∀i,P i->M i k = - Y i)/\(∀i,P i->((dr qq (i:Int)).length:Int)*Y i - ((dr qq (i:Int)).map (xt Y)).sum=0)/\∀i < qq.length,¬P i->((dr qq (i:Int)).length:Int)*Y i - ((dr qq (i:Int)).map (xt Y)).sum=M i k:=by
 obtain⟨p1,p2,pin,p3,p4⟩:=b;have ds:∀i,dot (qq.length+1) (M i) (λj=>(if P j then - M j k else 0)+(if j=k then d else 0))=dot (qq.length+1) (M i) (λj=>if P j then - M j k else 0)+M i k*d:=λi=>by
  rw[awb,ah4 (i:=k) (y:=λj=>if j=k then d else 0) _ (by omega) λj _ hj=>by rw[if_neg hj,fM]]
  rw[if_pos rfl]
 obtain⟨q1,q2⟩:=p4 (λj=>(if P j then - M j k else 0)+(if j=k then d else 0)) λj hj=>by
  have hjn:=pin j hj;rw[ds j,ah4 (i:=j) _ (by omega) λj' hj' hne=>by
   by_cases q:P j'
   ·rw[p3 j hjn j' q,if_neg (gR hne),fL]
   ·rw[if_neg q,fM],p3 j hjn j hj,if_pos rfl,if_pos hj,jD,dD]
  omega
 have q2:∀i,i < qq.length->¬P i->dot (qq.length+1) (M0 i) (λj=>(if P j then - M j k else 0)+(if j=k then d else 0))=M i k:=λi hi hki=>by
  have q2:=q2 i hi hki;rw[ds i,aex _ λj' hj'=>by
   by_cases q:P j'
   ·rw[p3 i hi j' q,if_neg (λe:i=j'=>hki (by rw[e];exact q)),fL]
   ·rw[if_neg q,fM],uM,dD] at q2
  exact(dW (by omega) q2).symm
 have hPn:¬P qq.length:=λz=>by have:=pin _ z;omega
 have lo:∀i,i < qq.length->dot (qq.length+1) (M0 i) (λj=>(if P j then - M j k else 0)+(if j=k then d else 0))=((dr qq (i:Int)).length:Int)*((if P i then - M i k else 0)+(if i=k then d else 0)) - ((dr qq (i:Int)).map (xt λj=>(if P j then - M j k else 0)+(if j=k then d else 0))).sum:=λi hi=>by
  rw[<-awa h (λj=>(if P j then - M j k else 0)+(if j=k then d else 0)) hi]
  show dot qq.length _ _+M0 i qq.length*((if P qq.length then - M qq.length k else 0)+(if qq.length=k then d else 0))=_
  rw[if_neg hPn,if_neg (by omega),iZ,fM,iZ]
  exact ace _ (λj hj=>hM i hi j hj) λ_ _=>rfl
 refine⟨λj=>(if P j then - M j k else 0)+(if j=k then d else 0),?_,λj hj hjk =>?_,λi hi =>?_,λi hi =>?_,λi hi hki =>?_⟩
 ·show(if P k then _ else _)+(if k=k then d else 0)=d
  rw[if_neg hnk,if_pos rfl,uM]
 ·show(if P j then _ else _)+(if j=k then d else 0)=0
  rw[if_neg hj,if_neg hjk];rfl
 ·show M i k = - ((if P i then - M i k else 0)+(if i=k then d else 0))
  rw[if_pos hi,if_neg (λe:i=k=>hnk (by rw[<-e];exact hi))]
  omega
 ·rw[<-lo i (pin i hi),q1 i hi]
 ·rw[<-lo i hi,q2 i hi hki]
theorem a0j{M0:Nat->Rw}(hM:∀i < qq.length,∀j < qq.length,M0 i j=dsq qq i j){P:Nat->Prop}{d:Int}{M:Nat->Rw}(b:BJ qq.length (qq.length+1) M0 P d M){k:Nat}(hk:k < qq.length)(hnk:¬P k):0 < M k k/\M k k<=6*d/\∀i < qq.length,-(6*d)<=M i k/\M i k<=6*d:=by
 have p1:=b.pos;have pin:=b.pin;obtain⟨Y,Yk,Yb,m1,q1,q2⟩:=colY h hop hM b hk hnk;have hx0:∀d,d < 0->xt Y d=0:=λd hd=>by unfold xt;rw[if_pos hd]
 have xi:∀i:Int,0<=i->xt Y i=Y i.toNat:=λi hi=>by unfold xt;rw[if_neg (by omega)]
 have nn:∀i:Int,0<=i->i < (qq.length:Int)->0<=xt Y i:=λi i0 i1=>by
  have:=aqb h hop (X:=λd => - xt Y d) (λd hd=>by show - xt Y d=0;rw[hx0 d hd];rfl) (λi i0 i1 hi=>by
   have hik:P i.toNat:=by
    apply bR;intro z
    by_cases e:i.toNat=k
    ·rw[xi i i0,e,Yk] at hi;omega
    ·rw[xi i i0,Yb _ z e] at hi;omega
   have a:=q1 _ hik;rw[show((i.toNat:Nat):Int)=i by omega] at a
   rw[auv h hop,xi i i0,jD];omega) i i0 i1
  omega
 have up:∀i:Int,0<=i->i < (qq.length:Int)->xt Y i<=d:=λi i0 i1=>by
  have:=aqb h hop (X:=xt λj=>Y j+(-d)) (λd hd=>by unfold xt;rw[if_pos hd]) (λi i0 i1 hi=>by
   have e:xt (λj=>Y j+(-d)) i=Y i.toNat+(-d):=by unfold xt;rw[if_neg (by omega)]
   rw[e] at hi ⊢
   have hik:P i.toNat:=by
    apply bR;intro z
    by_cases e:i.toNat=k
    ·rw[e,Yk] at hi;omega
    ·rw[Yb _ z e] at hi;omega
   have a:=q1 _ hik;rw[show((i.toNat:Nat):Int)=i by omega] at a
   have s:∀l:List Int,(l.map (xt Y)).sum - d*(l.length:Int)<=(l.map (xt λj=>Y j+(-d))).sum:=λl=>by
    induction l with
    | nil=>simp
    | cons x l ih =>
     rw[aG,aG,bH,bH,aX,jN,gD];have:xt Y x - d<=xt (λj=>Y j+(-d)) x:=by
      unfold xt;split
      ·omega
      ·show Y x.toNat - d<=Y x.toNat+(-d);omega
     simp;omega
   have:=s (dr qq i);rw[gD,jD,dD _ d];omega) i i0 i1
  have e:xt (λj=>Y j+(-d)) i=xt Y i+(-d):=by unfold xt;rw[if_neg (by omega),if_neg (by omega)]
  rw[e] at this;omega
 have sb:∀i:Nat,i < qq.length->0<=((dr qq (i:Int)).map (xt Y)).sum/\((dr qq (i:Int)).map (xt Y)).sum<=6*d:=λi hi=>by
  obtain⟨_,l6,hb⟩:=h.dr (x:=(i:Int)) (by omega) (by omega)
  have s1:∀x∈dr qq (i:Int),0<=xt Y x/\xt Y x<=d:=λx hx=>by
   rcases lQ x 0 with z | z
   ·rw[hx0 x z];omega
   ·exact⟨nn x z (hb x hx).2,up x z (hb x hx).2⟩
  have s2:=ant (f:=xt Y) (m:=d) λx hx=>(s1 x hx).2
  have s3:d*((dr qq (i:Int)).length:Int)<=d*6:=Int.mul_le_mul_of_nonneg_left (by omega) (by omega)
  refine⟨?_,by omega⟩
  have s4:∀l:List Int,(∀x∈l,0<=xt Y x)->0<=(l.map (xt Y)).sum:=λl=>by
   induction l with
   | nil=>intro _;simp
   | cons x l ih =>
    intro hl;rw[aG,bH];have:=ih λy hy=>hl y (aA _ hy)
    have:=hl x (aF ..);omega
  exact s4 _ λx hx=>(s1 x hx).1
 have dk:=h.dr (x:=(k:Int)) (by omega) (by omega)
 have a:=q2 k hk hnk;rw[Yk] at a;have kd:((dr qq (k:Int)).length:Int)*d<=6*d:=qQ (by omega) (by omega)
 have pos:0 < M k k:=by
  apply bR;intro hneg;have:=aqb h hop (X:=xt Y) hx0 (λi i0 i1 hi=>by
   rw[xi i i0] at hi ⊢
   by_cases z:P i.toNat
   ·have c:=q1 _ z;rw[show((i.toNat:Nat):Int)=i by omega] at c
    omega
   ·by_cases e:i.toNat=k
    ·have c:=q2 i.toNat (by omega) z
     rw[show((i.toNat:Nat):Int)=i by omega,e] at c
     rw[e];omega
    ·rw[Yb _ z e] at hi;omega) (k:Int) (by omega) (by omega)
  rw[xi _ (by omega),bZ,Yk] at this
  omega
 have sk:=sb k hk;refine⟨pos,by omega,λi hi =>?_⟩
 by_cases z:P i
 ·rw[m1 i z];have u:=up (i:Int) (by omega) (by omega)
  have l:=nn (i:Int) (by omega) (by omega)
  rw[xi _ (by omega),bZ] at u l
  omega
 ·by_cases e:i=k
  ·subst e;omega
  ·have c:=q2 i hi z;rw[Yb i z e,fM] at c;have:=sb i hi;omega
theorem ang{M0:Nat->Rw}(hM:∀i < qq.length,∀j < qq.length,M0 i j=dsq qq i j):∀k,k<=qq.length->BJ qq.length (qq.length+1) M0 (λj=>j < k) (BS M0 k).1 (BS M0 k).2/\(BS M0 k).1<=6 ^ k
 | 0,_=>⟨(BJ.zero ..).to λj=>⟨λz=>z.elim,λz=>by omega⟩,by show(1:Int)<=1;omega⟩
 | k+1,hk=>by
  obtain⟨a,c⟩:=ang hM k (by omega)
  obtain⟨p1,p2,_⟩:=a0j h hop hM a (k:=k) (by omega) (by omega)
  refine⟨(a.step (by omega) (by omega) p1).to λj=>by omega,?_⟩
  show(BS M0 k).2 k k<=6 ^ (k+1);rw[iY,dD];omega
theorem baz{M0:Nat->Rw}(hM:∀i < qq.length,∀j < qq.length,M0 i j=dsq qq i j){k:Nat}(b:BJ qq.length (qq.length+1) M0 (λj=>j < k) (BS M0 k).1 (BS M0 k).2)(hk:k < qq.length):0 < (BS M0 k).2 k k/\(BS M0 k).2 k k<=6*(BS M0 k).1/\∀i < qq.length,-(6*(BS M0 k).1)<=(BS M0 k).2 i k/\(BS M0 k).2 i k<=6*(BS M0 k).1:=a0j h hop hM b hk (by omega)
end
section
variable{qq:LL9}(h:Hs qq)(hop:fc qq=[])
include h hop
end
noncomputable def rwD(m:Nat)(r:Rw):D:=.lst ((aJ m).map λj=>.int (r j))
def mtD(n m:Nat)(M:Nat->Rw):List D:=(aJ n).map λi=>rwD m (M i)
theorem ux(n m:Nat)(M:Nat->Rw):(mtD n m M).length=n:=by simp[mtD]
theorem akq(n m:Nat)(M:Nat->Rw):mtD (n+1) m M=mtD n m M++[rwD m (M n)]:=by unfold mtD;rw[fZ,bD];rfl
theorem ap9{n m:Nat}{M:Nat->Rw}{k:Nat}(hk:k < n):atI (mtD n m M) (k:Int)=ZY (rwD m (M k)):=by
 unfold atI;rw[afo (by omega) (by rw[ux];omega),bZ]
 show(mtD n m M)[k]? = _;unfold mtD;rw[aN,bM hk];rfl
theorem ai2{m:Nat}{r:Rw}{k:Nat}(hk:k < m):atI ((aJ m).map λj=>D.int (r j)) (k:Int)=ZY (.int (r k)):=by
 unfold atI;rw[afo (by omega) (by simp;omega),bZ]
 show((aJ m).map λj=>D.int (r j))[k]? = _
 rw[aN,bM hk];rfl
theorem xg(m:Nat)(r:Rw):((aJ m).map λj=>D.int (r j)).length=m:=by simp
theorem ar7{k n:Nat}(hk:k < n):∃rest,rangeD (k:Int) (n - k)=.int (k:Int)::rest:=by
 obtain⟨c,hc⟩:∃c,n - k=c+1:=⟨n - k - 1,by omega⟩
 rw[hc];refine⟨(aJ c).map λi=>.int ((k:Int)+((i+1:Nat):Int)),?_⟩
 unfold rangeD;rw[List.range_succ_eq_map,aG,cL];show D.int ((k:Int)+((0:Nat):Int))::_=_;rw[show(k:Int)+((0:Nat):Int)=k by omega]
 rfl
theorem an7{n m:Nat}{M:Nat->Rw}{k:Nat}(hk:k < n)(hm:k < m)(hn:n < 1000)(h0:M k k≠0):aav [.own (ZY 0) (mtD n m M),.val (.int (k:Int))]=ZY (.ok (.v (.int (k:Int))),[.own (ZY 0) (mtD n m M),.val (.int (k:Int))]):=by
 have e1:=ap9 (m:=m) (M:=M) hk;have e2:=ai2 (r:=M k) hm;have hl:=ux n m M;obtain⟨rest,er⟩:=ar7 hk;unfold rwD at e1;generalize (aJ m).map (λj=>D.int (M k j))=rr at *
 generalize M k k=v at *;generalize mtD n m M=mm at *;have e3:ado [.own (ZY 0) mm,.val (.int (k:Int)),.val (.int (k:Int))]=ZY (.ret (.v (.int (k:Int))),[.own (ZY 0) mm,.val (.int (k:Int)),.val (.int (k:Int))]):=by
  simp[ado,e1,e2,h0]
 have hb:((n:Int) - (k:Int)).toNat=n - k:=by omega
 have hb1:k < 4611686018427387904:=by omega
 have hb2:n < 4611686018427387904:=by omega
 simp[aav,aja,hl,hb,hb1,hb2,er,oh,e3]
theorem awl(n m:Nat)(M:Nat->Rw)(hm:m<=1000):compD (bj 0) (ret ZW) aft (mtD n m M) [] [.emp]=ZY (.ok (mtD n m M),aap .emp (mtD n m M)::[]):=by
 rw[uf (f:=id)]
 ·simp
 ·intro d hd;unfold mtD at hd;obtain⟨i,_,rfl⟩:=bJ.mp hd;have hl:=xg m (M i);unfold rwD;have hc:((aJ m).map λj=>D.int (M i j)).length<=capS:=by rw[hl];exact cg hm
  generalize (aJ m).map (λj=>D.int (M i j))=rr at *
  simp[aft,hc]
theorem arz{n m:Nat}{M:Nat->Rw}(k:Int)(hn:n<=1000)(hm:m<=1000):ab5 [.val (.lst (mtD n m M)),.val (.int k),.val (.int k)]=ZY (.ok (.fr (mtD n m M)),[.val (.lst (mtD n m M)),.val (.int k),.val (.int k)]):=by
 have e:=awl n m M hm;have hl:=ux n m M;have hc:(mtD n m M).length<=capS:=by rw[hl];exact cg hn
 generalize mtD n m M=mm at *;simp[ab5,aml,e,hc]
theorem asz{m:Nat}{k i:Nat}{M:Nat->Rw}{d:Int}(hk:k < m)(hd0:0 < d)(hd1:d < 1000000000000000000000000000000000000000000000000000000000000)(hik:i≠k)(hkk : -18446744073709551616 < M k k/\M k k < 18446744073709551616)(hic : -18446744073709551616 < M i k/\M i k < 18446744073709551616):∃q1 q2,compD (bTup 2 (je (bj 0) (je (bj 1) bNil))) (ret ZW) acx (qu ((aJ m).map λj=>D.int (M i j)) ((aJ m).map λj=>D.int (M k j))) [] [.emp,.emp,.val (rwD m (M i)),.val (rwD m (M k)),.val (.int d),.val (.int (k:Int))] =
  ZY (.ok ((aJ m).map λj=>D.int (stM d k M i j)),[q1,q2,.val (rwD m (M i)),.val (rwD m (M k)),.val (.int d),.val (.int (k:Int))]):=by
 have ek:=ai2 (r:=M k) hk;have ei:=ai2 (r:=M i) hk;have comp:=wk (b:=bTup 2 (je (bj 0) (je (bj 1) bNil))) (mc:=ret ZW) (me:=acx) (λj ys ρ=>∃o1 o2:Sl,ρ=[o1,o2,.val (rwD m (M i)),.val (rwD m (M k)),.val (.int d),.val (.int (k:Int))]/\ys=(aJ j).map λj=>D.int (stM d k M i j))
  (l:=qu ((aJ m).map λj=>D.int (M i j)) ((aJ m).map λj=>D.int (M k j))) (ys:=[]) (ρ:=[.emp,.emp,.val (rwD m (M i)),.val (rwD m (M k)),.val (.int d),.val (.int (k:Int))]) 0 ⟨.emp,.emp,rfl,rfl⟩ ?_
 ·obtain⟨ys,ρ',e6,o1,o2,rfl,rfl⟩:=comp;have hz:(qu ((aJ m).map λj=>D.int (M i j)) ((aJ m).map λj=>D.int (M k j))).length=m:=by unfold qu;rw[jB,xg,xg];omega
  rw[hz,cJ] at e6;exact⟨o1,o2,e6⟩
 ·rintro j z ys ρ hd ⟨o1,o2,rfl,rfl⟩
  have hj:j < m:=by
   rcases iW j m with q | q
   ·exact q
   ·rw[bI (by unfold qu;rw[jB,xg];omega)] at hd
    cases hd
  have ed:z=.tup [.int (M i j),.int (M k j)]:=by
   unfold qu at hd;rw[pC,aN,aN,bM hj] at hd;exact(bO hd).symm
  subst ed;have es:stM d k M i j=(M k k*M i j - M i k*M k j) / d:=by unfold stM;rw[if_neg hik]
  have fd:fDiv (M k k*M i j - M i k*M k j) d=ZY ((M k k*M i j - M i k*M k j) / d):=by unfold fDiv;rw[if_pos ⟨hd0,hd1⟩]
  refine⟨[.val (.int (M i j)),.val (.int (M k j)),.val (rwD m (M i)),.val (rwD m (M k)),.val (.int d),.val (.int (k:Int))],_,ZW,by simp,rfl,.inr ⟨rfl,.int (stM d k M i j),[.val (.int (M i j)),.val (.int (M k j)),.val (rwD m (M i)),.val (rwD m (M k)),.val (.int d),.val (.int (k:Int))],?_,_,_,rfl,?_⟩⟩
  ·rw[es];unfold rwD;generalize (aJ m).map (λj=>D.int (M k j))=rk at *
   generalize (aJ m).map (λj=>D.int (M i j))=ri at *
   generalize M k k=a1 at *;generalize M i j=a2 at *;generalize M i k=a3 at *;generalize M k j=a4 at *;have m1:fMul a1 a2=ZY (a1*a2):=by unfold fMul;rw[if_pos (.inl hkk)]
   have m2:fMul a3 a4=ZY (a3*a4):=by unfold fMul;rw[if_pos (.inl hic)]
   simp[acx,ek,ei,m1,m2,fd]
  ·rw[cJ,fZ,bD];rfl
theorem asy{n m:Nat}{k:Nat}{M:Nat->Rw}{d:Int}(hkn:k < n)(hk:k < m)(hn:n<=1000)(hm:m<=1000)(hd0:0 < d)(hd1:d < 1000000000000000000000000000000000000000000000000000000000000)(hcol:∀i < n,-18446744073709551616 < M i k/\M i k < 18446744073709551616):ab7 [.val (.lst (mtD n m M)),.val (.int (k:Int)),.val (.int d)]=ZY (.ok (.fr (mtD n m (stM d k M))),[.val (.lst (mtD n m M)),.val (.int (k:Int)),.val (.int d)]):=by
 have loop:=acv (b:=bTup 2 (je (bj 5) (je (bj 6) bNil))) (g:=acq) (λi ρ=>∃o5 o6,ρ=[.val (.lst (mtD n m M)),.val (.int (k:Int)),.val (.int d),.val (rwD m (M k)),.own ZX (mtD i m (stM d k M)),o5,o6])
  (l:=aip (mtD n m M)) (ρ:=[.val (.lst (mtD n m M)),.val (.int (k:Int)),.val (.int d),.val (rwD m (M k)),.own ZX [],.emp,.emp]) 0 ⟨.emp,.emp,rfl⟩ ?_
 ·obtain⟨ρ',e,o5,o6,rfl⟩:=loop;rw[aev,ux,cJ] at e;have e1:=ap9 (m:=m) (M:=M) hkn;generalize mtD n m (stM d k M)=m2 at *;generalize mtD n m M=mm at *;generalize rwD m (M k)=rk at *;simp[ab7,amo,e1,e]
 ·rintro i z ρ hd ⟨o5,o6,rfl⟩
  rw[cJ];obtain⟨d0,g1,rfl⟩:=ah2 hd;have hi:i < n:=by
   have:=(aQ.mp g1).1;rwa[ux] at this
  have ed:d0=rwD m (M i):=by
   unfold mtD at g1;rw[aN,bM hi] at g1;exact(bO g1).symm
  subst ed;refine⟨[.val (.lst (mtD n m M)),.val (.int (k:Int)),.val (.int d),.val (rwD m (M k)),.own ZX (mtD i m (stM d k M)),.val (.int (i:Int)),.val (rwD m (M i))],[.val (.lst (mtD n m M)),.val (.int (k:Int)),.val (.int d),.val (rwD m (M k)),.own ZX (mtD (i+1) m (stM d k M)),.val (.int (i:Int)),.val (rwD m (M i))],rfl,.inl ?_,_,_,rfl⟩;have hcap:(mtD i m (stM d k M)).length < capS:=by rw[ux];unfold capS;omega
  rw[akq]
  by_cases hik:i=k
  ·subst hik;have ek:stM d i M i=M i:=by funext j;unfold stM;rw[if_pos rfl]
   rw[ek];have hl:=xg m (M i);have hc:((aJ m).map λj=>D.int (M i j)).length<=capS:=by rw[hl];exact cg hm
   unfold rwD;generalize (aJ m).map (λj=>D.int (M i j))=rr at *
   generalize mtD i m (stM d i M)=m2 at *;generalize mtD n m M=mm at *;simp[acq,hc,hcap]
  ·obtain⟨q1,q2,e⟩:=asz (M:=M) hk hd0 hd1 hik (hcol k hkn) (hcol i hi);have l1:=xg m (M i);have l2:=xg m (M k);have l3:=xg m (stM d k M i);have hle:((aJ m).map λj=>D.int (M i j)).length<=((aJ m).map λj=>D.int (M k j)).length:=by rw[l1,l2];exact aM _
   have hc:((aJ m).map λj=>D.int (stM d k M i j)).length<=capS:=by rw[l3];exact cg hm
   have hne:¬((i:Int)=(k:Int)):=by omega
   unfold rwD at e ⊢
   generalize (aJ m).map (λj=>D.int (stM d k M i j))=rs at *
   generalize (aJ m).map (λj=>D.int (M i j))=ri at *
   generalize (aJ m).map (λj=>D.int (M k j))=rk at *
   generalize mtD i m (stM d k M)=m2 at *;generalize mtD n m M=mm at *;simp[acq,hne,hle,e,hc,hcap]
noncomputable def aug(A:Nat->Rw)(n:Nat)(c:Rw):Nat->Rw:=λi j=>if j < n then A i j else c i
theorem a1t(A:Nat->Rw)(n:Nat)(c:Rw)(i:Nat):rwD (n+1) (aug A n c i)=.lst (((aJ n).map λj=>.int (A i j))++[.int (c i)]):=by
 unfold rwD;rw[fZ,bD]
 congr 2
 ·apply cY;intro j hj;have:=cD.mp hj;unfold aug;rw[if_pos this]
 ·show[D.int (aug A n c i n)]=_;unfold aug;rw[if_neg (by omega)]
theorem azx{A:Nat->Rw}{n:Nat}{c:Rw}(hn:n<=100):∃q1 q2,compD (bTup 2 (je (bj 0) (je (bj 1) bNil))) (ret ZW) aew (qu (mtD n n A) ((aJ n).map λi=>.int (c i))) [] [.emp,.emp]=ZY (.ok (mtD n (n+1) (aug A n c)),[q1,q2]):=by
 have comp:=wk (b:=bTup 2 (je (bj 0) (je (bj 1) bNil))) (mc:=ret ZW) (me:=aew) (λj ys ρ=>∃o1 o2:Sl,ρ=[o1,o2]/\ys=mtD j (n+1) (aug A n c))
  (l:=qu (mtD n n A) ((aJ n).map λi=>D.int (c i))) (ys:=[]) (ρ:=[.emp,.emp]) 0 ⟨.emp,.emp,rfl,rfl⟩ ?_
 ·obtain⟨ys,ρ',e6,o1,o2,rfl,rfl⟩:=comp;have hz:(qu (mtD n n A) ((aJ n).map λi=>D.int (c i))).length=n:=by unfold qu;rw[jB,ux,xg];omega
  rw[hz,cJ] at e6;exact⟨o1,o2,e6⟩
 ·rintro j z ys ρ hd ⟨o1,o2,rfl,rfl⟩
  have hj:j < n:=by
   rcases iW j n with q | q
   ·exact q
   ·rw[bI (by unfold qu;rw[jB,ux];omega)] at hd
    cases hd
  have ed:z=.tup [rwD n (A j),.int (c j)]:=by
   unfold qu mtD at hd;rw[pC,aN,aN,bM hj] at hd;exact(bO hd).symm
  subst ed;have hl:=xg n (A j);have hc:((aJ n).map λi=>D.int (A j i)).length<=capS:=by rw[hl];exact cg (by omega)
  have hc2:((aJ n).map λi=>D.int (A j i)).length+1<=capS:=by rw[hl];exact cg (by omega)
  refine⟨[.val (rwD n (A j)),.val (.int (c j))],_,ZW,by simp,rfl,.inr ⟨rfl,rwD (n+1) (aug A n c j),[.val (rwD n (A j)),.val (.int (c j))],?_,_,_,rfl,?_⟩⟩
  ·rw[a1t];unfold rwD;generalize (aJ n).map (λi=>D.int (A j i))=rr at *
   simp[aew,hc,hc2]
  ·rw[cJ,akq]
def tops(qq:LL9)(c:Rw):Nat->Int:=λi=>(BS (aug (dsq qq) qq.length c) qq.length).2 i qq.length
def botm(qq:LL9)(c:Rw):Int:=(BS (aug (dsq qq) qq.length c) qq.length).1
section
variable{qq:LL9}(h:Hs qq)(hop:fc qq=[])(c:Rw)
include h hop
theorem aid:∀i < qq.length,∀j < qq.length,aug (dsq qq) qq.length c i j=dsq qq i j:=λi _ j hj=>by unfold aug;rw[if_pos hj]
theorem a4m:0 < botm qq c/\botm qq c<=60466176:=by
 obtain⟨a,b⟩:=ang h hop (aid h hop c) qq.length (aM _);refine⟨a.pos,uP b ?_⟩;have:(6:Int) ^ qq.length<=6 ^ 10:=by
  have:=lX (show 0 < 6 by decide) h.most
  exact_mod_cast this
 exact this
theorem atp:aes [.val (.lst (mtD qq.length qq.length (dsq qq))),.val (.lst ((aJ qq.length).map λi=>.int (c i)))]=ZY (.ok (.v (.tup [.lst ((aJ qq.length).map λi=>.int (tops qq c i)),.int (botm qq c)])),[.val (.lst (mtD qq.length qq.length (dsq qq))),.val (.lst ((aJ qq.length).map λi=>.int (c i)))]):=by
 have hm:=h.most;generalize hM:aug (dsq qq) qq.length c=M0;have hM0:=aid h hop c;rw[hM] at hM0;have all:=ang h hop hM0;have loop:=acv (b:=bj 4) (g:=aej) (λk ρ=>k<=qq.length->∃o4 o5,ρ=[.val (.lst (mtD qq.length qq.length (dsq qq))),.val (.lst ((aJ qq.length).map λi=>D.int (c i))),.own ZX (mtD qq.length (qq.length+1) (BS M0 k).2),.val (.int (BS M0 k).1),o4,o5])
  (l:=rangeD 0 qq.length) (ρ:=[.val (.lst (mtD qq.length qq.length (dsq qq))),.val (.lst ((aJ qq.length).map λi=>D.int (c i))),.own ZX (mtD qq.length (qq.length+1) M0),.val (.int 1),.emp,.emp]) 0 (λ_=>⟨.emp,.emp,rfl⟩) ?_
 ·obtain⟨ρ',e,hρ⟩:=loop;have rl:(rangeD 0 qq.length).length=qq.length:=by simp[rangeD]
  rw[rl,cJ] at hρ;obtain⟨o4,o5,rfl⟩:=hρ (aM _);obtain⟨q1,q2,e1⟩:=azx (A:=dsq qq) (n:=qq.length) (c:=c) (by omega)
  rw[hM] at e1;have ec:compD (bj 0) (ret ZW) ah3 (mtD qq.length (qq.length+1) (BS M0 qq.length).2) [] [.emp,.val (.lst (mtD qq.length qq.length (dsq qq)))]=ZY (.ok ((aJ qq.length).map λi=>.int (tops qq c i)),aap .emp (mtD qq.length (qq.length+1) (BS M0 qq.length).2)::[.val (.lst (mtD qq.length qq.length (dsq qq)))]):=by
   have hl:=ux qq.length qq.length (dsq qq);have et:=λi=>ai2 (r:=(BS M0 qq.length).2 i) (m:=qq.length+1) (k:=qq.length) (by omega)
   have eg:∀i,((aJ (qq.length+1)).map λj=>D.int ((BS M0 qq.length).2 i j))[qq.length]? = ZY (.int ((BS M0 qq.length).2 i qq.length)):=λi=>by
    rw[aN,bM (by omega)]
    rfl
   rw[uf (f:=λd=>match d with | .lst l=>(l[qq.length]?).getD .non | d=>d)]
   ·congr 3
    unfold mtD;rw[aZ,cL];apply cY;intro i _;show(((aJ (qq.length+1)).map λj=>D.int ((BS M0 qq.length).2 i j))[qq.length]?).getD .non=.int (tops qq c i)
    rw[eg i];unfold tops;rw[hM];rfl
   ·intro d hd;unfold mtD at hd;obtain⟨i,_,rfl⟩:=bJ.mp hd;have k1:=et i;have k2:=eg i
    clear e1 e hρ
    unfold rwD;generalize (aJ (qq.length+1)).map (λj=>D.int ((BS M0 qq.length).2 i j))=rr at *
    generalize mtD qq.length qq.length (dsq qq)=mm at *;simp[ah3,hl,k1,k2]
  have hl1:=ux qq.length qq.length (dsq qq);have hl2:=xg qq.length c;have hle:(mtD qq.length qq.length (dsq qq)).length<=((aJ qq.length).map λi=>D.int (c i)).length:=by rw[hl1,hl2];exact aM _
  have hc1:(mtD qq.length (qq.length+1) M0).length<=capS:=by rw[ux];exact cg (by omega)
  have hc2:((aJ qq.length).map λi=>D.int (tops qq c i)).length<=capS:=by rw[xg qq.length (tops qq c)];exact cg (by omega)
  have hb:qq.length < 4611686018427387904:=by omega
  have ed:botm qq c=(BS M0 qq.length).1:=by unfold botm;rw[hM]
  rw[ed];generalize (aJ qq.length).map (λi=>D.int (tops qq c i))=tt at *
  generalize mtD qq.length (qq.length+1) (BS M0 qq.length).2=m3 at *;generalize mtD qq.length (qq.length+1) M0=m2 at *;generalize (aJ qq.length).map (λi=>D.int (c i))=cc at *
  generalize mtD qq.length qq.length (dsq qq)=mm at *;generalize (BS M0 qq.length).1=dn at *;simp[aes,aqx,e1,hc1,hl1,hl2,hb,e,ec,hc2]
 ·rintro k z ρ hd hρ
  rw[cJ];have hk:k < qq.length:=by
   have:=(aQ.mp hd).1
   simpa[rangeD] using this
  rw[cJ] at hρ;obtain⟨o4,o5,rfl⟩:=hρ (by omega)
  have ez:z=.int (k:Int):=by
   unfold rangeD at hd;rw[aN,bM hk] at hd;have:=(bO hd).symm
   simpa using this
  subst ez;obtain⟨b1,b2⟩:=all k (by omega)
  obtain⟨p1,p2,p3⟩:=baz h hop hM0 b1 hk;have d0:=b1.pos;have d2:(BS M0 k).1<=60466176:=by
   have:(6:Int) ^ k<=6 ^ 10:=by
    have:=lX (show 0 < 6 by decide) (show k<=10 by omega)
    exact_mod_cast this
   have e10:(6:Int) ^ 10=60466176:=by decide
   omega
  have d1:(BS M0 k).1 < 1000000000000000000000000000000000000000000000000000000000000:=by omega
  have e1:=an7 (M:=(BS M0 k).2) hk (show k < qq.length+1 by omega) (by omega) (by omega)
  have e2:=arz (n:=qq.length) (m:=qq.length+1) (M:=(BS M0 k).2) (k:Int) (by omega) (by omega)
  have e3:=asy (M:=(BS M0 k).2) hk (show k < qq.length+1 by omega) (by omega) (by omega) d0 d1 (λi hi=>by have:=p3 i hi;omega)
  have e4:=ap9 (m:=qq.length+1) (M:=stM (BS M0 k).1 k (BS M0 k).2) hk;have e5:=ai2 (r:=stM (BS M0 k).1 k (BS M0 k).2 k) (show k < qq.length+1 by omega)
  have e6:stM (BS M0 k).1 k (BS M0 k).2 k k=(BS M0 k).2 k k:=by unfold stM;rw[if_pos rfl]
  rw[e6] at e5;refine⟨_,[.val (.lst (mtD qq.length qq.length (dsq qq))),.val (.lst ((aJ qq.length).map λi=>D.int (c i))),.own ZX (mtD qq.length (qq.length+1) (BS M0 (k+1)).2),.val (.int (BS M0 (k+1)).1),.val (.int (k:Int)),.val (.int (k:Int))],rfl,.inl ?_,λ_=>⟨_,_,rfl⟩⟩
  show aej [.val (.lst (mtD qq.length qq.length (dsq qq))),.val (.lst ((aJ qq.length).map λi=>D.int (c i))),.own ZX (mtD qq.length (qq.length+1) (BS M0 k).2),.val (.int (BS M0 k).1),.val (.int (k:Int)),o5]=ZY (Fl.nx,[.val (.lst (mtD qq.length qq.length (dsq qq))),.val (.lst ((aJ qq.length).map λi=>D.int (c i))),.own ZX (mtD qq.length (qq.length+1) (stM (BS M0 k).1 k (BS M0 k).2)),.val (.int ((BS M0 k).2 k k)),.val (.int (k:Int)),.val (.int (k:Int))])
  unfold rwD at e4;generalize (aJ (qq.length+1)).map (λj=>D.int (stM (BS M0 k).1 k (BS M0 k).2 k j))=rk at *
  generalize mtD qq.length (qq.length+1) (stM (BS M0 k).1 k (BS M0 k).2)=m3 at *;generalize mtD qq.length (qq.length+1) (BS M0 k).2=m2 at *;generalize (aJ qq.length).map (λi=>D.int (c i))=cc at *
  generalize mtD qq.length qq.length (dsq qq)=mm at *;generalize (BS M0 k).2 k k=pk at *;generalize (BS M0 k).1=dk at *;simp[aej,e1,isN,e2,e3,e4,e5]
end
theorem ah8(x:Int):∀V:List Int,(V.map D.int).countP (λy=>eqD y (.int x))=V.count x
 | []=>rfl
 | a::V=>by
  have e:=ah1 a x;rw[aG,qY,ah8 x V,jM,e]
  by_cases q:a=x <;> simp[q]
theorem ayk(n:Nat)(r:List Int):compD (bj 0) (ret ZW) yw (rangeD 0 n) [] [.emp,.val (.tup (r.map D.int))]=ZY (.ok ((aJ n).map λ(j:Nat)=>.int (-((r.count (j:Int):Nat):Int))),aap .emp (rangeD 0 n)::[.val (.tup (r.map D.int))]):=by
 have ok:=ag8 30 r;have hc:=λx=>ah8 x r
 rw[uf (f:=λd=>match d with | .int k=>.int (-((r.count k:Nat):Int)) | d=>d)]
 ·unfold rangeD;rw[aZ,cL]
  congr 3
  apply cY;intro i _;simp
 ·intro d hd;unfold rangeD at hd;obtain⟨k,_,rfl⟩:=bJ.mp hd;have hk:=hc (k:Int);generalize r.map D.int=vv at *;simp[yw,ok,hk,okD]
section
variable{qq:LL9}(h:Hs qq)
include h
theorem a1m{i:Nat}(hi:i < qq.length)(o4:Sl):∃q4,l1_doors_square [.val (hD qq),.own ZX (mtD i qq.length (dsq qq)),.val (.int (i:Int)),.val (.tup ((dr qq (i:Int)).map D.int)),o4]=ZY (.nx,[.val (hD qq),.own ZX (mtD (i+1) qq.length (dsq qq)),.val (.int (i:Int)),.val (.tup ((dr qq (i:Int)).map D.int)),q4]):=by
 have hm:=h.most;have hl:=zz qq;have e1:=ayk qq.length (dr qq (i:Int));have hb:qq.length < 4611686018427387904:=by omega
 have rl:((aJ qq.length).map λ(j:Nat)=>D.int (-(((dr qq (i:Int)).count (j:Int):Nat):Int))).length=qq.length:=by simp
 have hc:((aJ qq.length).map λ(j:Nat)=>D.int (-(((dr qq (i:Int)).count (j:Int):Nat):Int))).length<=capS:=by rw[rl];exact cg (by omega)
 have ix:ixN ((aJ qq.length).map λ(j:Nat)=>D.int (-(((dr qq (i:Int)).count (j:Int):Nat):Int))).length (i:Int)=ZY i:=by
  rw[rl,afo (by omega) (by omega),bZ]
 have ia:((aJ qq.length).map λ(j:Nat)=>D.int (-(((dr qq (i:Int)).count (j:Int):Nat):Int)))[i]? = ZY (.int (-(((dr qq (i:Int)).count (i:Int):Nat):Int))):=by
  rw[aN,bM hi];rfl
 have es:((aJ qq.length).map λ(j:Nat)=>D.int (-(((dr qq (i:Int)).count (j:Int):Nat):Int))).set i (.int (-(((dr qq (i:Int)).count (i:Int):Nat):Int)+((dr qq (i:Int)).length:Int)))=(aJ qq.length).map λj=>D.int (dsq qq i j):=by
  apply dU;intro j;rw[bC,rl]
  by_cases hj:j < qq.length
  ·rw[aN,aN,bM hj]
   by_cases e:i=j
   ·subst e;rw[if_pos rfl,if_pos hj];show _=ZY (D.int (dsq qq i i));unfold dsq;rw[if_pos rfl]
    congr 2
    omega
   ·rw[if_neg e];show ZY (D.int _)=ZY (D.int (dsq qq i j));unfold dsq;rw[if_neg e]
    congr 2
    omega
  ·rw[if_neg (by omega),bI (by simp;omega),bI (by simp;omega)]
 have dl:((dr qq (i:Int)).map D.int).length=(dr qq (i:Int)).length:=aK ..
 have hcap:(mtD i qq.length (dsq qq)).length < capS:=by rw[ux];unfold capS;omega
 rw[akq];unfold rwD;rw[<-es];generalize ((aJ qq.length).map λ(j:Nat)=>D.int (-(((dr qq (i:Int)).count (j:Int):Nat):Int)))=rr at *
 generalize (-(((dr qq (i:Int)).count (i:Int):Nat):Int))=v at *;generalize (dr qq (i:Int)).length=ln at *;generalize (dr qq (i:Int)).map D.int=dd at *;generalize mtD i qq.length (dsq qq)=mm at *;refine⟨.val (.lst (rr.set i (.int (v+(ln:Int))))),?_⟩;have hc':qq.length<=capS:=cg (by omega)
 have ix':ixN qq.length (i:Int)=ZY i:=by rw[<-rl];exact ix
 simp only[hD] at *;simp[l1_doors_square,hl,hb,e1,hc',rl,dl,ix',ia,hcap]
theorem ah6:ou [.val (hD qq)]=ZY (.ok (.fr (mtD qq.length qq.length (dsq qq))),[.val (hD qq)]):=by
 have loop:=acv (b:=bTup 2 (je (bj 2) (je (bj 3) bNil))) (g:=l1_doors_square) (λi ρ=>∃o2 o3 o4,ρ=[.val (hD qq),.own ZX (mtD i qq.length (dsq qq)),o2,o3,o4])
  (l:=aip (hDs qq)) (ρ:=[.val (hD qq),.own ZX [],.emp,.emp,.emp]) 0 ⟨.emp,.emp,.emp,rfl⟩ ?_
 ·obtain⟨ρ',e,o2,o3,o4,rfl⟩:=loop;rw[aev,zz,cJ] at e;generalize mtD qq.length qq.length (dsq qq)=mm at *;simp only[hD] at *;simp[ou,ac8,e]
 ·rintro i z ρ hd ⟨o2,o3,o4,rfl⟩
  rw[cJ];obtain⟨d0,g1,rfl⟩:=ah2 hd;have hi:i < qq.length:=by
   have:=(aQ.mp g1).1;rwa[zz] at this
  have ed:d0=.tup ((dr qq (i:Int)).map D.int):=by
   unfold hDs at g1;rw[aN,aC hi] at g1;unfold dr;rw[bZ,aL,aC hi];exact(bO g1).symm
  subst ed;obtain⟨q4,e⟩:=a1m h hi o4;exact⟨_,_,rfl,.inl e,_,_,_,rfl⟩
end
section
variable{qq:LL9}(h:Hs qq)(hop:fc qq=[])
include h hop
end
theorem am0(cs:List Nat)(k:Rw):∀(a p r:List Rw),det cs (p++(a++k::r))=(-1) ^ a.length*det cs (p++k::(a++r))
 | [],p,r=>by simp
 | x::a,p,r=>by
  have ih:=am0 cs k a (p++[x]) r;have h:=amx cs p x k (a++r);simp only[bV,cW,aZ] at ih h ⊢
  rw[ih,h,aX,iY,fW,jD,mL,jX,jD]
theorem azl{d:Int}{n:Nat}{M:Nat->Rw}(h:Dvd d n M){k:Nat}(hk:k < n)(hd:d≠0)(cs a b:List Nat)(hi:∀i∈a++b,i < n)(hn:k∉a++b):d ^ (a++b).length*det cs ((a++k::b).map (stM d k M))=(M k k) ^ (a++b).length*det cs ((a++k::b).map M):=by
 have e1:=ajw h hk hd (a++b) hi hn;have ek:stM d k M k=M k:=by funext j;unfold stM;rw[if_pos rfl]
 have e2:=aey cs d ((a++b).map (stM d k M)) [M k];have e3:=ak7 cs (M k) (M k k) (λr=>r k) ((a++b).map M) []
 rw[e1] at e2;simp only[aZ,cW,aK] at e2 e3;rw[e3] at e2;have f1:=am0 cs (M k) (a.map (stM d k M)) [] (b.map (stM d k M));have f2:=am0 cs (M k) (a.map M) [] (b.map M);rw[aZ,aZ,aK,<-bD] at f1 f2;have g1:(a++k::b).map (stM d k M)=a.map (stM d k M)++M k::b.map (stM d k M):=by rw[bD,aG,ek]
 have g2:(a++k::b).map M=a.map M++M k::b.map M:=by rw[bD,aG]
 rw[g1,f1,g2,f2,cQ,cQ ((M k k) ^ _),e2]
theorem axp{n k:Nat}(hk:k < n):∃a b,aJ n=a++k::b/\(∀i∈a++b,i < n)/\k∉a++b/\(a++b).length=n - 1:=by
 obtain⟨a,b,e⟩:=lC (cD.mpr hk);have nd:=oM (n:=n);rw[e] at nd;have l:=congrArg vA e;refine⟨a,b,e,λi hi =>?_,?_,?_⟩
 ·have:i∈List.range n:=by
   rw[e];rcases cN.mp hi with z | z
   ·exact gF _ z
   ·exact cF _ (aA _ z)
  exact cD.mp this
 ·intro z;rw[nQ] at nd;rcases cN.mp z with q | q
  ·exact nd.2.2 k q k (aF ..) rfl
  ·exact(eY.mp nd.2.1).1 q
 ·simp at l;simp;omega
theorem aq7{d:Int}{M:Nat->Rw}:∀(is:List Nat),is.Nodup->(∀i∈is,∀j∈is,M i j=if i=j then d else 0)->det is (is.map M)=d ^ is.length
 | [],_,_=>by simp[det]
 | c::cs,nd,h=>by
  show lap c (det cs) [] (M c::cs.map M)=_;show M c c*det cs ([]++cs.map M) - lap c (det cs) ([]++[M c]) (cs.map M)=_;rw[agd,aZ,aq7 cs (eY.mp nd).2 λi hi j hj=>h i (aA _ hi) j (aA _ hj),h c (aF ..) c (aF ..),if_pos rfl,aX,iY,dD,uO]
  intro r hr;obtain⟨i,hi,rfl⟩:=bJ.mp hr;rw[h i (aA _ hi) c (aF ..),if_neg];intro e;exact(eY.mp nd).1 (e▸hi)
theorem aqg{c:Nat}{F:List Rw->Int}{A B:Nat->Rw}:∀(q p:List Nat),(∀l:List Nat,(∀i∈l,i∈p++q)->F (l.map A)=F (l.map B))->(∀i∈q,A i c=B i c)->lap c F (p.map A) (q.map A)=lap c F (p.map B) (q.map B)
 | [],p,_,_=>rfl
 | r::q,p,hF,hc=>by
  show A r c*F (p.map A++q.map A) - lap c F (p.map A++[A r]) (q.map A)=B r c*F (p.map B++q.map B) - lap c F (p.map B++[B r]) (q.map B);have e1:=hF (p++q) λi hi=>by
   rcases cN.mp hi with z | z
   ·exact gF _ z
   ·exact cF _ (aA _ z)
  have e2:=aqg (c:=c) (F:=F) (A:=A) (B:=B) q (p++[r]) (λl hl=>hF l λi hi=>by have:=hl i hi;simpa using this) λi hi=>hc i (aA _ hi)
  rw[bD,bD] at e1;rw[bD,bD] at e2;have e2:lap c F (p.map A++[A r]) (q.map A)=lap c F (p.map B++[B r]) (q.map B):=e2;rw[e1,e2,hc r (aF ..)]
theorem aez:∀(cs is:List Nat) (A B:Nat->Rw),(∀i∈is,∀j∈cs,A i j=B i j)->det cs (is.map A)=det cs (is.map B)
 | [],[],_,_,_=>rfl
 | [],_::_,_,_,_=>rfl
 | c::cs,is,A,B,h=>by
  have:=aqg (c:=c) (F:=det cs) (A:=A) (B:=B) is [] (λl hl=>aez cs l A B λi hi j hj=>h i (by simpa using hl i hi) j (aA _ hj)) λi hi=>h i hi c (aF ..)
  exact this
theorem azm(cs:List Nat)(A B:Nat->Rw)(h:∀i∈cs,∀j∈cs,A i j=B i j):det cs (cs.map A)=det cs (cs.map B):=aez cs cs A B h
theorem azv{n:Nat}{A:Nat->Rw}{c:Rw}(one:1<=n)(all:∀k,k<=n->BJ n (n+1) (aug A n c) (λj=>j < k) (BS (aug A n c) k).1 (BS (aug A n c) k).2):(BS (aug A n c) n).1=det (aJ n) ((aJ n).map A):=by
 have inv:∀k,k<=n->det (aJ n) ((aJ n).map (BS (aug A n c) k).2)=(BS (aug A n c) k).1 ^ (n - 1)*det (aJ n) ((aJ n).map (aug A n c)):=λk=>by
  induction k with
  | zero =>
   intro _;show _=(1:Int) ^ _*_;rw[Int.one_pow,jX];rfl
  | succ k ih =>
   intro hk;have ih:=ih (by omega)
   have a:=all k (by omega)
   obtain⟨x,y,e,h1,h2,h3⟩:=axp (n:=n) (k:=k) (by omega)
   have s:=azl a.dvd (k:=k) (by omega) (by have:=a.pos;omega) (aJ n) x y h1 h2
   rw[h3,<-e,ih] at s;refine dW (a:=(BS (aug A n c) k).1 ^ (n - 1)) (mK (by have:=a.pos;omega)) ?_
   show _*det _ ((aJ n).map (stM (BS (aug A n c) k).1 k (BS (aug A n c) k).2))=_*((BS (aug A n c) k).2 k k ^ _*_);rw[s,cQ]
 have q:=inv n (aM _);have a:=all n (aM _);have d:=aq7 (d:=(BS (aug A n c) n).1) (M:=(BS (aug A n c) n).2) (aJ n) oM λi hi j hj=>a.shape i (cD.mp hi) j (cD.mp hj)
 rw[d,qL] at q;have q2:(BS (aug A n c) n).1 ^ (n - 1)*(BS (aug A n c) n).1=(BS (aug A n c) n).1 ^ (n - 1)*det (aJ n) ((aJ n).map (aug A n c)):=by
  rw[<-q,<-iY]
  congr 1
  omega
 have q3:=dW (mK (by have:=a.pos;omega)) q2
 rw[q3];exact azm (aJ n) _ _ λi _ j hj=>by unfold aug;rw[if_pos (cD.mp hj)]
theorem agh{qq:LL9}(h:Hs qq)(hop:fc qq=[])(c:Rw):botm qq c=det (aJ qq.length) ((aJ qq.length).map (dsq qq)):=azv h.one λk hk=>(ang h hop (aid h hop c) k hk).1
noncomputable def cdot:List Nat->Rw->Rw->Int
 | [],_,_=>0
 | c::cs,x,r=>x c*r c+cdot cs x r
theorem ara(x a b:Rw)(p q:Int):∀cs,cdot cs x (λj=>p*a j+q*b j)=p*cdot cs x a+q*cdot cs x b
 | []=>by simp[cdot]
 | c::cs=>by
  show x c*(p*a c+q*b c)+cdot cs x _=p*(x c*a c+cdot cs x a)+q*(x c*b c+cdot cs x b);rw[ara x a b p q cs,gD,gD,gD,cQ (x c) p,cQ (x c) q];omega
theorem am2{x:Rw}(r:Rw):∀cs,(∀j∈cs,x j=0)->cdot cs x r=0
 | [],_=>rfl
 | c::cs,h=>by
  show x c*r c+cdot cs x r=0;rw[h c (aF ..),am2 r cs λj hj=>h j (aA _ hj),fL]
  rfl
theorem awh(x:Rw):∀(cs:List Nat) (rows:List Rw),(∀r∈rows,cdot cs x r=0)->(∃j∈cs,x j≠0)->det cs rows=0
 | [],_,_,⟨_,h,_⟩=>by cases h
 | c::cs,rows,hr,hx=>by
  by_cases hz:∀r∈rows,r c=0
  ·exact agd rows [] hz
  ·obtain⟨k,hk,hkc⟩:∃k,k∈rows/\k c≠0:=by
    apply bR;intro z;exact hz λr hr'=>bR λq=>z ⟨r,hr',q⟩
   obtain⟨a,b,rfl⟩:=lC hk;have e:=chio c cs k (a++b);have hx':∃j∈cs,x j≠0:=by
    apply bR;intro z;have z0:∀j∈cs,x j=0:=λj hj=>bR λq=>z ⟨j,hj,q⟩
    have q:=hr k hk;have q:x c*k c+cdot cs x k=0:=q;rw[am2 k cs z0,iZ] at q;obtain⟨j,hj,hne⟩:=hx;rcases bG.mp hj with w | w
    ·subst w;rcases pD.mp q with v | v
     ·exact hne v
     ·exact hkc v
    ·exact hne (z0 j w)
   have d0:=awh x cs ((a++b).map λr=>clr (k c) (r c) r k) (λr hr'=>by
    obtain⟨r0,h0,rfl⟩:=bJ.mp hr';have h1:x c*r0 c+cdot cs x r0=0:=hr r0 (by
     rcases cN.mp h0 with w | w
     ·exact gF _ w
     ·exact cF _ (aA _ w))
    have h2:x c*k c+cdot cs x k=0:=hr k hk;show cdot cs x (λj=>k c*r0 j+(-(r0 c))*k j)=0
    rw[ara,show cdot cs x r0 = -(x c*r0 c) by omega,show cdot cs x k = -(x c*k c) by omega,jD,mL,jD,Int.neg_neg,cQ (k c),cQ (r0 c),dD (k c) (r0 c)]
    omega) hx'
   rw[d0,fM] at e;have e2:det (c::cs) (k::(a++b))=0:=by
    rcases pD.mp e.symm with w | w
    ·exact absurd w (mK hkc)
    ·exact w
   have f:=am0 (c::cs) k a [] b;rw[aZ,aZ,e2,fM] at f;exact f
theorem awd{α:Type}(cs:List Nat)(p q:List Rw)(r:α->Rw):∀l:List α,det cs (p++(λj=>(l.map λd=>r d j).sum)::q)=(l.map λd=>det cs (p++r d::q)).sum
 | []=>by
  have:=amz cs p 0 0 (λ_=>0) (λ_=>0) q
  have e:(λj=>(([]:List α).map λd=>r d j).sum)=λj=>(0:Int)*(λ_=>(0:Int)) j+0*(λ_=>(0:Int)) j:=by funext j;simp
  rw[e,this];simp
 | d::l=>by
  have:=amz cs p 1 1 (r d) (λj=>(l.map λd=>r d j).sum) q
  have e:(λj=>((d::l).map λd=>r d j).sum)=λj=>1*r d j+1*(l.map λd=>r d j).sum:=by funext j;simp
  rw[e,this,awd cs p q r l,aG,bH];omega
def picks{α:Type}:List (List α)->List (List α)
 | []=>[[]]
 | l::ls=>l.flatMap λd=>(picks ls).map λc=>d::c
theorem sum_map_add{α:Type}(f:α->Int):∀a b:List α,((a++b).map f).sum=(a.map f).sum+(b.map f).sum:=λa b=>by rw[bD,List.sum_append]
theorem uq{α β:Type}(f:β->Int)(g:α->List β):∀l:List α,((l.flatMap g).map f).sum=(l.map λd=>((g d).map f).sum).sum
 | []=>rfl
 | d::l=>by
  rw[List.flatMap_cons,sum_map_add,uq f g l,aG,bH]
theorem amy(cs:List Nat):∀(ls:List (List Rw)) (p:List Rw),det cs (p++ls.map λl j=>(l.map λr=>r j).sum)=((picks ls).map λc=>det cs (p++c)).sum
 | [],p=>by simp[picks]
 | l::ls,p=>by
  rw[aG,awd cs p _ (λr=>r) l]
  unfold picks;rw[uq]
  congr 1
  apply cY;intro r _;have:=amy cs ls (p++[r]);rw[bV] at this;rw[cL];have e:(λc=>det cs (p++c))∘(λc=>r::c)=λc=>det cs ((p++[r])++c):=by
   funext c
   simp
  rw[e,<-this];rfl
section
variable{qq:LL9}(h:Hs qq)(hop:fc qq=[])
include h hop
theorem a6n{M0:Nat->Rw}(hM:∀i < qq.length,∀j < qq.length,M0 i j=dsq qq i j){P:Nat->Prop}{d:Int}{M:Nat->Rw}(b:BJ qq.length (qq.length+1) M0 P d M){k:Nat}(hk:k < qq.length)(hnk:¬P k):M k k<=((dr qq (k:Int)).length:Int)*d:=by
 obtain⟨Y,Yk,Yb,m1,q1,q2⟩:=colY h hop hM b hk hnk;have p1:=b.pos;have hx0:∀d,d < 0->xt Y d=0:=λd hd=>by unfold xt;rw[if_pos hd]
 have xi:∀i:Int,0<=i->xt Y i=Y i.toNat:=λi hi=>by unfold xt;rw[if_neg (by omega)]
 have nn:∀i:Int,0<=i->i < (qq.length:Int)->0<=xt Y i:=λi i0 i1=>by
  have:=aqb h hop (X:=λd => - xt Y d) (λd hd=>by show - xt Y d=0;rw[hx0 d hd];rfl) (λi i0 i1 hi=>by
   have hik:P i.toNat:=by
    apply bR;intro z
    by_cases e:i.toNat=k
    ·rw[xi i i0,e,Yk] at hi;omega
    ·rw[xi i i0,Yb _ z e] at hi;omega
   have a:=q1 _ hik;rw[show((i.toNat:Nat):Int)=i by omega] at a
   rw[auv h hop,xi i i0,jD];omega) i i0 i1
  omega
 have a:=q2 k hk hnk;rw[Yk] at a;have s4:∀l:List Int,(∀x∈l,0<=xt Y x)->0<=(l.map (xt Y)).sum:=λl=>by
  induction l with
  | nil=>intro _;simp
  | cons x l ih =>
   intro hl;rw[aG,bH];have:=ih λy hy=>hl y (aA _ hy)
   have:=hl x (aF ..);omega
 have:=s4 (dr qq (k:Int)) λx hx=>by
  rcases lQ x 0 with z | z
  ·rw[hx0 x z];omega
  ·exact nn x z ((h.dr (x:=(k:Int)) (by omega) (by omega)).2.2 x hx).2
 omega
theorem a4n(h1:∀k,k < qq.length->(dr qq (k:Int)).length=1):botm qq (λ_=>0)=1:=by
 have all:=ang h hop (aid h hop λ_=>0)
 have le:∀k,k<=qq.length->(BS (aug (dsq qq) qq.length λ_=>0) k).1<=1:=λk=>by
  induction k with
  | zero=>intro _;exact vD _
  | succ k ih =>
   intro hk;have a:=ih (by omega)
   have p:=a6n h hop (aid h hop λ_=>0) (all k (by omega)).1 (k:=k) (by omega) (by omega)
   rw[h1 k (by omega)] at p
   show(BS (aug (dsq qq) qq.length λ_=>0) k).2 k k<=1
   omega
 have a:=(all qq.length (aM _)).1.pos;have b:=le qq.length (aM _);unfold botm;omega
end
def ch(v:List Int):LL9:=v.map λd=>[d]
theorem asx{v:List Int}{i:Nat}(hi:i < v.length):dr (ch v) (i:Int)=[v[i]]:=by
 unfold dr ch;rw[bZ,aL,aN,aC hi];rfl
theorem aq8(v:List Int):(ch v).length=v.length:=by simp[ch]
theorem bci{v:List Int}(h1:1<=v.length)(h2:v.length<=10)(hv:∀d∈v,-3<=d/\d < (v.length:Int)):Hs (ch v):=⟨by rw[aq8];exact h1,by rw[aq8];exact h2,λr hr=>by
 obtain⟨d,hd,rfl⟩:=bJ.mp hr;refine⟨by simp,by simp,λx hx =>?_⟩
 rw[bY] at hx;rw[hx,aq8];exact hv d hd⟩
theorem arc(x r:Rw):∀a b,cdot (a++b) x r=cdot a x r+cdot b x r
 | [],b=>by simp[cdot]
 | c::a,b=>by
  show x c*r c+cdot (a++b) x r=x c*r c+cdot a x r+cdot b x r;rw[arc x r a b];omega
theorem arb(x r:Rw):∀n,cdot (aJ n) x r=dot n r x
 | 0=>rfl
 | n+1=>by
  rw[fZ,arc,arb x r n];show _+(x n*r n+0)=dot n r x+r n*x n;rw[dD (x n)];omega
theorem a1y{v:List Int}{i:Nat}(hi:i < v.length){z:Int}(h:Rch (ch v) (i:Int) z):z=(i:Int)∨Rch (ch v) v[i] z:=by
 induction h with
 | base=>exact .inl rfl
 | @step x d hr hx hd ih =>
  rcases ih with e | e
  ·right
   rw[e,asx hi,bY] at hd;rw[hd];exact .base
  ·exact .inr (.step e hx hd)
theorem a2a{v:List Int}{i:Nat}(hi:i < v.length){z:Int}(h:Rch (ch v) v[i] z):Rch (ch v) (i:Int) z:=by
 induction h with
 | base=>exact .step .base (by omega) (by rw[asx hi];simp)
 | step hr hx hd ih=>exact .step ih hx hd
theorem ajr(qq:LL9)(i:Nat)(hi:i < qq.length):(i:Int)∈fc qq↔∀z,Rch qq (i:Int) z->0<=z:=⟨λh=>(yl qq _).mp (dF.mp h).2,λh=>ano (by omega) (by omega) h⟩
theorem leaf{v:List Int}(h1:1<=v.length)(h2:v.length<=10)(hv:∀d∈v,-3<=d/\d < (v.length:Int)):det (aJ v.length) ((aJ v.length).map (dsq (ch v)))=if fc (ch v)=[] then 1 else 0:=by
 have h:=bci h1 h2 hv;have hl:=aq8 v
 by_cases q:fc (ch v)=[]
 ·rw[if_pos q];have e:=agh h q (λ_=>0)
  rw[a4n h q λk hk=>by rw[asx (by omega)];rfl,hl] at e
  exact e.symm
 ·rw[if_neg q];have x0:∀i:Nat,i < v.length->dot v.length (dsq (ch v) i) (λj=>if (j:Int)∈fc (ch v) then 1 else 0)=0:=λi hi=>by
   have e:=awa h (λj=>if (j:Int)∈fc (ch v) then 1 else 0) (i:=i) (by omega)
   rw[hl,asx hi] at e;rw[e];have hb:=hv v[i] (dO hi);show((1:Nat):Int)*(if (i:Int)∈fc (ch v) then 1 else 0) - (([v[i]].map (xt _)).sum)=0
   rw[aG,uL,bH,List.sum_nil]
   by_cases g:v[i] < 0
   ·have ni:¬(i:Int)∈fc (ch v):=λw=>by
     have:=(ajr (ch v) i (by omega)).mp w v[i] (.step .base (by omega) (by rw[asx hi];simp))
     omega
    unfold xt;rw[if_neg ni,if_pos g];rfl
   ·have eq:((i:Int)∈fc (ch v))↔((v[i].toNat:Nat):Int)∈fc (ch v):=by
     rw[ajr (ch v) i (by omega),ajr (ch v) v[i].toNat (by omega),show((v[i].toNat:Nat):Int)=v[i] by omega]
     exact⟨λw z hz=>w z (a2a hi hz),λw z hz=>by
      rcases a1y hi hz with e | e
      ·omega
      ·exact w z e⟩
    unfold xt;rw[if_neg g];show((1:Nat):Int)*(if (i:Int)∈fc (ch v) then 1 else 0) - ((if ((v[i].toNat:Nat):Int)∈fc (ch v) then 1 else 0)+0)=0
    by_cases w:(i:Int)∈fc (ch v)
    ·rw[if_pos w,if_pos (eq.mp w)];rfl
    ·rw[if_neg w,if_neg λz=>w (eq.mpr z)]
     rfl
  refine awh (λj=>if (j:Int)∈fc (ch v) then 1 else 0) (aJ v.length) _ (λr hr =>?_) ?_
  ·obtain⟨i,hi,rfl⟩:=bJ.mp hr;rw[arb];exact x0 i (cD.mp hi)
  ·obtain⟨t,ht⟩:=List.exists_mem_of_ne_nil _ q;have:=(dF.mp ht).1;unfold upto at this;obtain⟨k,hk,rfl⟩:=bJ.mp this;refine⟨k,by rw[<-hl];exact hk,?_⟩
   show(if ((k:Nat):Int)∈fc (ch v) then (1:Int) else 0)≠0
   rw[if_pos ht]
   decide
def rowC(i:Nat)(d:Int):Rw:=λj=>(if i=j then 1 else 0) - (if d=(j:Int) then 1 else 0)
theorem apx(i j:Nat):∀l:List Int,(l.map λd=>rowC i d j).sum=(if i=j then (l.length:Int) else 0) - ((l.count (j:Int):Nat):Int)
 | []=>by simp
 | d::l=>by
  rw[aG,bH,apx i j l,jM,aX];unfold rowC
  by_cases a:i=j <;> by_cases b:d=(j:Int) <;> simp[a,b] <;> omega
def lsF:Nat->LL9->List (List Rw)
 | _,[]=>[]
 | k,r::rs=>r.map (rowC k)::lsF (k+1) rs
def rwF:Nat->List Int->List Rw
 | _,[]=>[]
 | k,d::v=>rowC k d::rwF (k+1) v
theorem au4:∀(rs:LL9) (k i:Nat),(lsF k rs)[i]? = (rs[i]?).map λr=>r.map (rowC (k+i))
 | [],k,i=>by simp[lsF]
 | r::rs,k,0=>by simp[lsF]
 | r::rs,k,i+1=>by
  show(lsF (k+1) rs)[i]? = _;rw[au4 rs (k+1) i,show k+1+i=k+(i+1) by omega]
  simp
theorem at3:∀(v:List Int) (k i:Nat),(rwF k v)[i]? = (v[i]?).map (rowC (k+i))
 | [],k,i=>by simp[rwF]
 | d::v,k,0=>by simp[rwF]
 | d::v,k,i+1=>by
  show(rwF (k+1) v)[i]? = _;rw[at3 v (k+1) i,show k+1+i=k+(i+1) by omega]
  simp
theorem alw:∀(rs:LL9) (k:Nat),picks (lsF k rs)=(picks rs).map (rwF k)
 | [],k=>rfl
 | r::rs,k=>by
  show(r.map (rowC k)).flatMap (λd=>(picks (lsF (k+1) rs)).map λc=>d::c)=(r.flatMap λd=>(picks rs).map λc=>d::c).map (rwF k)
  rw[alw rs (k+1),List.flatMap_map,List.map_flatMap]
  congr 1
  funext d
  rw[cL,cL];rfl
theorem alv:∀{rs:LL9} {v:List Int},v∈picks rs->v.length=rs.length/\∀d∈v,∃r∈rs,d∈r
 | [],v,h=>by
  have:v=[]:=by simpa[picks] using h
  subst this;exact⟨rfl,λd hd=>by cases hd⟩
 | r::rs,v,h=>by
  unfold picks at h;obtain⟨d,hd,hv⟩:=qX.mp h;obtain⟨c,hc,rfl⟩:=bJ.mp hv;obtain⟨a,b⟩:=alv hc;refine⟨by rw[aX,aX,a],λx hx =>?_⟩
  rcases bG.mp hx with e | e
  ·exact⟨r,aF ..,e▸hd⟩
  ·obtain⟨q,hq,z⟩:=b x e;exact⟨q,aA _ hq,z⟩
theorem axu(qq:LL9):((lsF 0 qq).map λl j=>(l.map λr=>r j).sum)=(aJ qq.length).map (dsq qq):=by
 apply dU;intro i;rw[aN,aN,au4]
 by_cases hi:i < qq.length
 ·rw[aC hi,bM hi];show ZY _=ZY _
  congr 1
  funext j
  show((qq[i].map (rowC (0+i))).map λr=>r j).sum=dsq qq i j
  rw[cL];have:=apx (0+i) j qq[i];have e:dr qq (i:Int)=qq[i]:=by
   unfold dr;rw[bZ,aL,aC hi];rfl
  unfold dsq;rw[e];rw[cJ] at this ⊢
  exact this
 ·rw[bI (by omega),bI (by simp;omega)]
  rfl
theorem a1s(v:List Int):rwF 0 v=(aJ v.length).map (dsq (ch v)):=by
 apply dU;intro i;rw[at3,aN]
 by_cases hi:i < v.length
 ·rw[aC hi,bM hi];show ZY _=ZY _
  congr 1
  funext j
  unfold dsq rowC;rw[asx hi,cJ];generalize v[i]=x;have e:(([x].count (j:Int):Nat):Int)=if x=(j:Int) then 1 else 0:=by
   rw[jM,List.count_nil]
   by_cases b:x=(j:Int) <;> simp[b]
  rw[e];rfl
 ·rw[bI (by omega),bI (by simp;omega)]
  rfl
theorem tree{qq:LL9}(h:Hs qq)(hop:fc qq=[])(c:Rw):botm qq c=((picks qq).map λv=>if fc (ch v)=[] then (1:Int) else 0).sum:=by
 rw[agh h hop c,<-axu];have e:=amy (aJ qq.length) (lsF 0 qq) [];rw[aZ] at e;rw[e,alw,cL]
 congr 1
 apply cY;intro v hv;obtain⟨a,b⟩:=alv hv;show det (aJ qq.length) ([]++rwF 0 v)=_;rw[aZ,a1s,<-a];have h1:=h.one;have h2:=h.most;exact leaf (by omega) (by omega) λd hd=>by
  obtain⟨r,hr,hdr⟩:=b d hd;have:=(h.room r hr).2.2 d hdr;omega
theorem alu(G:Int->Int)(c:Int):∀(H:LL9) (r:Nat) (F:List Int->Int) (l:List Int),H[r]? = ZY l->((picks H).map λv=>G (v.getD r 0)*F (v.set r c)).sum=(l.map G).sum*((picks (H.set r [c])).map F).sum
 | [],_,_,_,h=>by simp at h
 | l0::H,0,F,l,h=>by
  simp at h;subst h;unfold picks;rw[uq,iD];have e2:(((([c]:List Int).flatMap λd=>(picks H).map λc=>d::c)).map F).sum=((picks H).map λt=>F (c::t)).sum:=by
   rw[uq];simp[cL,nW]
  show _=(l0.map G).sum*((([c]:List Int).flatMap λd=>(picks H).map λc=>d::c).map F).sum
  rw[e2]
  induction l0 with
  | nil=>simp
  | cons d l0 ih =>
   rw[aG,bH,ih,aG,bH,rR]
   congr 1
   rw[cL];have:((λv:List Int=>G (v.getD 0 0)*F (v.set 0 c))∘λc=>d::c)=λt=>G d*F (c::t):=by
    funext t
    simp
   rw[this];generalize picks H=P
   induction P with
   | nil=>simp
   | cons t P ih=>rw[aG,bH,ih,aG,bH,gD]
 | l0::H,r+1,F,l,h=>by
  have hh:H[r]? = ZY l:=by simpa using h
  clear h
  rw[iG];unfold picks;rw[uq,uq]
  induction l0 with
  | nil=>simp
  | cons d l0 ih =>
   rw[aG,bH,ih,aG,bH,gD]
   congr 1
   have e:=alu G c H r (λu=>F (d::u)) l hh
   rw[cL,cL];have e1:((λv:List Int=>G (v.getD (r+1) 0)*F (v.set (r+1) c))∘λc=>d::c)=λt=>G (t.getD r 0)*F (d::t.set r c):=by
    funext t
    simp
   rw[e1,e];rfl
theorem api{α β:Type}(f:α->β->Int)(lb:List β):∀la:List α,(la.map λa=>(lb.map λb=>f a b).sum).sum=(lb.map λb=>(la.map λa=>f a b).sum).sum
 | []=>by
  show 0=_
  induction lb with
  | nil=>rfl
  | cons b lb ih=>rw[aG,bH,<-ih];rfl
 | a::la=>by
  rw[aG,bH,api f lb la]
  induction lb with
  | nil=>rfl
  | cons b lb ih =>
   simp only[aG,bH] at ih ⊢
   omega
theorem apl(P:Int->Prop)[DecidablePred P](w:Int)(hw:P w):∀l:List Int,l.Nodup->w∈l->(∀y∈l,P y->y=w)->(l.map λy=>if P y then (1:Int) else 0).sum=1
 | [],_,h,_=>by cases h
 | y::l,hn,h,hu=>by
  obtain⟨n1,n2⟩:=eY.mp hn;rw[aG,bH]
  by_cases e:y=w
  ·subst e;rw[if_pos hw];have:(l.map λy=>if P y then (1:Int) else 0).sum=0:=by
    have hz:∀x∈l,¬P x:=λx hx hp=>by
     have:=hu x (aA _ hx) hp;subst this;exact n1 hx
    clear hu h hn n1 n2
    induction l with
    | nil=>rfl
    | cons x l ih=>rw[aG,bH,if_neg (hz x (aF ..)),ih λy hy=>hz y (aA _ hy)];rfl
   rw[this];rfl
  ·rw[if_neg λhp=>e (hu y (aF ..) hp)]
   have hm:w∈l:=by
    rcases bG.mp h with q | q
    ·exact absurd q.symm e
    ·exact q
   rw[apl P w hw l n2 hm λx hx=>hu x (aA _ hx)]
   rfl
theorem apj(P:Int->Prop)[DecidablePred P]:∀l:List Int,(∀y∈l,¬P y)->(l.map λy=>if P y then (1:Int) else 0).sum=0
 | [],_=>rfl
 | x::l,hz=>by rw[aG,bH,if_neg (hz x (aF ..)),apj P l λy hy=>hz y (aA _ hy)];rfl
def AllR(C:List Int)(v:List Int)(r:Int):Prop:=∀x∈C,∃m,itr v x m=r
theorem a2x(C v:List Int)(hC:∀x∈C,0<=x/\x < (v.length:Int))(cl:∀x∈C,v.getD x.toNat 0∈C){r:Int}(hr:r∈C) :
  (AllR C v r->∃w∈C,v.getD w.toNat 0=r/\AllR C v w)/\(∀w∈C,v.getD w.toNat 0=r->AllR C v w->AllR C v r)/\∀w∈C,∀w'∈C,v.getD w.toNat 0=r->AllR C v w->v.getD w'.toNat 0=r->AllR C v w'->w=w':=by
 have nx:∀x∈C,nxt v x=v.getD x.toNat 0:=λx hx=>by
  unfold nxt;rw[if_pos (hC x hx).1]
 have inC:∀m x,x∈C->itr v x m∈C:=λm=>by
  induction m with
  | zero=>exact λx hx=>hx
  | succ m ih =>
   intro x hx;rw[xm,nx _ (ih x hx)];exact cl _ (ih x hx)
 refine⟨λA =>?_,λw hw e A x hx =>?_,λw hw w' hw' e A e' A' =>?_⟩
 ·obtain⟨m,hm⟩:=A _ (cl r hr);have hm:itr v (v.getD r.toNat 0) m=r:=hm;cases m with
  | zero =>
   have hm:v.getD r.toNat 0=r:=hm;exact⟨r,hr,hm,A⟩
  | succ m =>
   rw[xm] at hm;have hc:=inC m _ (cl r hr);rw[nx _ hc] at hm;refine⟨_,hc,hm,λx hx =>?_⟩
   obtain⟨j,hj⟩:=A x hx;refine⟨j+(1+m),?_⟩;rw[my,hj,my];show itr v (nxt v r) m=_;rw[nx r hr]
 ·obtain⟨m,hm⟩:=A x hx;exact⟨m+1,by rw[xm,hm,nx w hw,e]⟩
 ·obtain⟨m,hm,lm⟩:=least (P:=λm=>itr v r m=w) _ (A r hr).choose_spec
  obtain⟨m',hm',lm'⟩:=least (P:=λm=>itr v r m=w') _ (A' r hr).choose_spec
  have n1:nxt v w=r:=by rw[nx w hw,e]
  have n2:nxt v w'=r:=by rw[nx w' hw',e']
  have q1:=aga hm n1 hm' lm';have q2:=aga hm' n2 hm lm;have:m=m':=by omega
  subst this;rw[<-hm,hm']
theorem akg:∀{H:LL9} {v:List Int},v∈picks H->∀(i:Nat) (l:List Int),H[i]? = ZY l->∃d∈l,v[i]? = ZY d
 | [],v,_,i,l,e=>by simp at e
 | l0::H,v,hv,i,l,e=>by
  unfold picks at hv;obtain⟨d,hd,hv⟩:=qX.mp hv;obtain⟨t,ht,rfl⟩:=bJ.mp hv;cases i with
  | zero=>simp at e;subst e;exact⟨d,hd,rfl⟩
  | succ i =>
   obtain⟨d',h1,h2⟩:=akg ht i l (by simpa using e)
   exact⟨d',h1,by simpa using h2⟩
theorem aea:∀{H:LL9} {v:List Int},v∈picks H->v.length=H.length
 | [],v,hv=>by simp[picks] at hv;subst hv;rfl
 | l0::H,v,hv=>by
  unfold picks at hv;obtain⟨d,hd,hv⟩:=qX.mp hv;obtain⟨t,ht,rfl⟩:=bJ.mp hv;rw[aX,aX,aea ht]
def Hc(qq:LL9)(C:List Int):LL9:=(aJ qq.length).map λ(i:Nat)=>if (i:Int)∈C then dr qq (i:Int) else [-1]
def Hr(qq:LL9)(C:List Int)(r:Int):LL9:=(Hc qq C).set r.toNat [-1]
noncomputable def xr(qq:LL9)(C:List Int)(r:Int):Int:=((picks (Hr qq C r)).map λv=>if fc (ch v)=[] then (1:Int) else 0).sum
theorem anf(qq:LL9)(C:List Int):(Hc qq C).length=qq.length:=by simp[Hc]
theorem az3{qq:LL9}{C:List Int}{i:Nat}(hi:i < qq.length):(Hc qq C)[i]? = ZY (if (i:Int)∈C then dr qq (i:Int) else [-1]):=by
 unfold Hc;rw[aN,bM hi];rfl
structure Cl (qq:LL9) (C:List Int):Prop where
 rng:∀x∈C,0<=x/\x < (qq.length:Int)
 cls:∀x∈C,∀d∈dr qq x,d∈C
 all:∀x∈C,∀y∈C,Rch qq x y
section
variable{qq:LL9}(h:Hs qq){C:List Int}(c:Cl qq C)
include h c
theorem aod{v:List Int}(hv:v∈picks (Hc qq C)){x:Int}(hx:x∈C):v.getD x.toNat 0∈dr qq x:=by
 have hr:=c.rng x hx;obtain⟨d,hd,e⟩:=akg hv x.toNat _ (az3 (by omega))
 rw[show((x.toNat:Nat):Int)=x by omega,if_pos hx] at hd
 rw[aL,e];exact hd
theorem ap2{v:List Int}(hv:v∈picks (Hc qq C)){x:Int}(x0:0<=x)(x1:x < (qq.length:Int))(hx:x∉C):v.getD x.toNat 0 = -1:=by
 obtain⟨d,hd,e⟩:=akg hv x.toNat _ (az3 (by omega))
 rw[show((x.toNat:Nat):Int)=x by omega,if_neg hx,bY] at hd
 rw[aL,e,hd];rfl
theorem auj{v:List Int}(hv:v∈picks (Hc qq C))(r:Int):Ways (v.set r.toNat (-1)):=by
 have hl:=aea hv;rw[anf] at hl;refine⟨by rw[bW,hl];exact h.one,by rw[bW,hl];exact h.most,λy hy =>?_⟩
 rw[bW];have h1:=h.one;rcases List.mem_or_eq_of_mem_set hy with q | q
 ·obtain⟨i,hi,e⟩:=jR.mp q;have hir:i < qq.length:=by omega
  have eg:v.getD i 0=y:=by rw[aL,aC hi,e];rfl
  by_cases z:(i:Int)∈C
  ·have m:=aod h c hv z;rw[show((i:Nat):Int).toNat=i by omega,eg] at m
   have:=(h.dr (x:=(i:Int)) (by omega) (by omega)).2.2 y m
   omega
  ·have m:=ap2 h c hv (x:=(i:Int)) (by omega) (by omega) z
   rw[show((i:Nat):Int).toNat=i by omega,eg] at m
   omega
 ·rw[q];omega
theorem aec{v:List Int}(hv:v∈picks (Hc qq C)){r:Int}(hr:r∈C):fc (ch (v.set r.toNat (-1)))=[]↔AllR C v r:=by
 have hl:=aea hv;rw[anf] at hl;have hrr:=c.rng r hr;have w:=auj h c hv r;have eL:ch (v.set r.toNat (-1))=lp (v.set r.toNat (-1)):=rfl;rw[eL];have nx:∀x∈C,nxt v x∈C:=λx hx=>by
  unfold nxt;rw[if_pos (c.rng x hx).1];exact c.cls x hx _ (aod h c hv hx)
 have inC:∀m x,x∈C->itr v x m∈C:=λm=>by
  induction m with
  | zero=>exact λx hx=>hx
  | succ m ih =>
   intro x hx;rw[xm];exact nx _ (ih x hx)
 have ns:∀x,nxt (v.set r.toNat (-1)) x=if x=r then -1 else nxt v x:=akp hrr.1 (by omega)
 constructor
 ·intro ht x hx;refine bR λno =>?_
  have no:∀m,itr v x m≠r:=λm e=>no ⟨m,e⟩
  have rc:∀z,Rch (lp (v.set r.toNat (-1))) x z->∃m,z=itr v x m:=λz hz=>by
   induction hz with
   | base=>exact⟨0,rfl⟩
   | @step y d _ q hd ih =>
    obtain⟨m,rfl⟩:=ih;have hy:=c.rng _ (inC m x hx);rw[a4e q (by rw[bW];omega),bY] at hd
    refine⟨m+1,?_⟩;have e:=ns (itr v x m);rw[if_neg (no m)] at e;rw[xm,<-e];unfold nxt;rw[if_pos hy.1];exact hd
  have hx':=c.rng x hx;have:=ano (qq:=lp (v.set r.toNat (-1))) hx'.1 (by rw[ahd,bW];omega) λz hz=>by
   obtain⟨m,rfl⟩:=rc z hz;exact(c.rng _ (inC m x hx)).1
  rw[ht] at this;cases this
 ·intro A;cases ht:fc (lp (v.set r.toNat (-1))) with
  | nil=>rfl
  | cons s l =>
   exfalso;have hs:s∈fc (lp (v.set r.toNat (-1))):=by rw[ht];exact aF ..
   have pos:=aou w hs;have s0:=pos 0;rw[bW] at s0;have s0:0<=s/\s < (v.length:Int):=s0
   by_cases q:s∈C
   ·obtain⟨m,hm,lm⟩:=least (P:=λm=>itr v s m=r) _ (A s q).choose_spec
    have e:=ahl (L:=v) (d := -1) hrr.1 (by omega) m λi hi=>lm i hi
    have p:=(pos (m+1)).1;rw[xm,e,hm,ns,if_pos rfl] at p;omega
   ·have p:=(pos 1).1;have e:itr (v.set r.toNat (-1)) s 1=nxt (v.set r.toNat (-1)) s:=rfl;rw[e,ns,if_neg (show ¬s=r from λz=>q (by rw[z];exact hr))] at p
    unfold nxt at p;rw[if_pos s0.1,ap2 h c hv s0.1 (by omega) q] at p
    omega
theorem bbo{r:Int}(hr:r∈C):((upto qq.length).map λw=>if w∈C then xr qq C w*((dr qq w).count r:Int) else 0).sum=xr qq C r*((dr qq r).length:Int):=by
 have one:∀w∈C,∀G:Int->Int,((picks (Hc qq C)).map λv=>G (v.getD w.toNat 0)*(if fc (ch (v.set w.toNat (-1)))=[] then (1:Int) else 0)).sum=((dr qq w).map G).sum*xr qq C w:=λw hw G=>by
  have hwr:=c.rng w hw;have e:=az3 (qq:=qq) (C:=C) (i:=w.toNat) (by omega)
  rw[show((w.toNat:Nat):Int)=w by omega,if_pos hw] at e
  exact alu G (-1) (Hc qq C) w.toNat (λv=>if fc (ch v)=[] then (1:Int) else 0) _ e
 have e1:=one r hr λ_=>1
 have e2:((dr qq r).map λ_=>(1:Int)).sum=((dr qq r).length:Int):=by
  generalize dr qq r=l
  induction l with
  | nil=>rfl
  | cons x l ih=>rw[aG,bH,ih,aX];omega
 rw[e2,dD] at e1;rw[<-e1];have pt:∀v∈picks (Hc qq C),(1:Int)*(if fc (ch (v.set r.toNat (-1)))=[] then (1:Int) else 0)=((upto qq.length).map λw=>if w∈C/\v.getD w.toNat 0=r/\fc (ch (v.set w.toNat (-1)))=[] then (1:Int) else 0).sum:=λv hv=>by
  have hl:=aea hv;rw[anf] at hl;obtain⟨o1,o2,o3⟩:=a2x C v (λx hx=>by rw[hl];exact c.rng x hx) (λx hx=>c.cls x hx _ (aod h c hv hx)) hr
  rw[jX]
  by_cases q:fc (ch (v.set r.toNat (-1)))=[]
  ·rw[if_pos q];obtain⟨w,hw,ew,aw⟩:=o1 ((aec h c hv hr).mp q);have hwr:=c.rng w hw;exact(apl (λw=>w∈C/\v.getD w.toNat 0=r/\fc (ch (v.set w.toNat (-1)))=[]) w ⟨hw,ew,(aec h c hv hw).mpr aw⟩ _ (ae7 _) (af8 hwr.1 hwr.2) λy _ hy=>o3 y hy.1 w hw hy.2.1 ((aec h c hv hy.1).mp hy.2.2) ew aw).symm
  ·rw[if_neg q];exact(apj (λw=>w∈C/\v.getD w.toNat 0=r/\fc (ch (v.set w.toNat (-1)))=[]) _ λy _ hy=>q ((aec h c hv hr).mpr (o2 y hy.1 hy.2.1 ((aec h c hv hy.1).mp hy.2.2)))).symm
 have e3:((picks (Hc qq C)).map λv=>(1:Int)*(if fc (ch (v.set r.toNat (-1)))=[] then (1:Int) else 0))=(picks (Hc qq C)).map λv=>((upto qq.length).map λw=>if w∈C/\v.getD w.toNat 0=r/\fc (ch (v.set w.toNat (-1)))=[] then (1:Int) else 0).sum:=cY pt
 rw[e3,api (λv w=>if w∈C/\v.getD w.toNat 0=r/\fc (ch (v.set w.toNat (-1)))=[] then (1:Int) else 0) (upto qq.length) (picks (Hc qq C))]
 congr 1
 refine cY λw _ =>?_
 by_cases q:w∈C
 ·rw[if_pos q];have e:=one w q λd=>if d=r then 1 else 0
  have e4:((dr qq w).map λd=>if d=r then (1:Int) else 0).sum=((dr qq w).count r:Int):=by
   generalize dr qq w=l
   induction l with
   | nil=>rfl
   | cons x l ih =>
    rw[aG,bH,ih,jg]
    by_cases z:x=r
    ·rw[if_pos z,if_pos z];omega
    ·rw[if_neg z,if_neg z];omega
  rw[e4,dD] at e;rw[<-e]
  congr 1
  refine cY λv _ =>?_
  by_cases z1:v.getD w.toNat 0=r
  ·by_cases z2:fc (ch (v.set w.toNat (-1)))=[]
   ·rw[if_pos z1,if_pos z2,if_pos ⟨q,z1,z2⟩];rfl
   ·rw[if_pos z1,if_neg z2,if_neg λz=>z2 z.2.2];rfl
  ·rw[if_neg z1,fL,if_neg (show ¬(w∈C/\v.getD w.toNat 0=r/\fc (ch (v.set w.toNat (-1)))=[]) from λz=>z1 z.2.1)]
 ·rw[if_neg q]
  symm
  have:∀v∈picks (Hc qq C),(if w∈C/\v.getD w.toNat 0=r/\fc (ch (v.set w.toNat (-1)))=[] then (1:Int) else 0)=0:=λv _=>if_neg λz=>q z.1
  rw[cY this];generalize picks (Hc qq C)=P
  induction P with
  | nil=>rfl
  | cons x P ih=>rw[aG,bH,ih];rfl
end
theorem avd{c:Nat}{F:List Rw->Int}{e:Rw}(hF:∀p q,F (p++e::q)=0):∀(rs p1 p2:List Rw),lap c F (p1++e::p2) rs=0
 | [],_,_=>rfl
 | r::rs,p1,p2=>by
  have ih:=avd (c:=c) hF rs p1 (p2++[r]);have e1:=hF p1 (p2++rs);simp only[lap,bV,cW] at ih ⊢
  rw[e1,ih,fM];rfl
theorem au9{c:Nat}{F:List Rw->Int}{e:Rw}(hF:∀p q,F (p++e::q)=0)(hc:e c=0)(q:List Rw):∀(p pre:List Rw),lap c F pre (p++e::q)=0
 | [],pre=>by
  have i:=avd (c:=c) hF q pre [];show e c*_ - lap c F (pre++[e]) q=0;rw[i,hc,fL];rfl
 | r::p,pre=>by
  show r c*F (pre++(p++e::q)) - lap c F (pre++[r]) (p++e::q)=0;rw[au9 hF hc q p (pre++[r]),<-bV,hF,fM];rfl
theorem aq5{e:Rw}:∀(cs:List Nat),(∀j∈cs,e j=0)->∀p q,det cs (p++e::q)=0
 | [],_,p,q=>by
  cases h:p++e::q with
  | nil=>simp at h
  | cons _ _=>rfl
 | c::cs,h,p,q=>au9 (aq5 cs λj hj=>h j (aA _ hj)) (h c (aF ..)) q p []
theorem aqf{c:Nat}{F F':List Rw->Int}{e:Rw}{s:Int}(hF:∀X,F (e::X)=s*F' X):∀(rs pre:List Rw),lap c F (e::pre) rs=s*lap c F' pre rs
 | [],_=>by show 0=s*0;rw[fM]
 | r::rs,pre=>by
  have ih:=aqf (c:=c) hF rs (pre++[r]);show r c*F (e::(pre++rs)) - lap c F (e::(pre++[r])) rs=s*(r c*F' (pre++rs) - lap c F' (pre++[r]) rs);rw[ih,hF,mO,cQ]
theorem aq4{e:Rw}{q:Nat}(h1:e q=1):∀(a b:List Nat) (rs:List Rw),(∀j∈a++b,e j=0)->det (a++q::b) (e::rs)=(-1) ^ a.length*det (a++b) rs
 | [],b,rs,h=>by
  have z:=avd (c:=q) (F:=det b) (e:=e) (aq5 b h) rs [] [];show e q*det b ([]++rs) - lap q (det b) ([]++[e]) rs=_;have z:lap q (det b) ([]++[e]) rs=0:=z;rw[z,h1];simp
 | c::a,b,rs,h=>by
  have ih:=λX=>aq4 h1 a b X λj hj=>h j (aA _ hj)
  have z:=aqf (c:=c) (F:=det (a++q::b)) (F':=det (a++b)) (e:=e) ih rs [];show e c*det (a++q::b) ([]++rs) - lap c (det (a++q::b)) [e] rs=_;rw[h c (aF ..),z,fL,aX,iY];show 0 - _=_*det (c::(a++b)) rs;have:det (c::(a++b)) rs=lap c (det (a++b)) [] rs:=rfl;rw[this,xJ,mL];omega
theorem a0n:∀n:Nat,((-1:Int) ^ n)*((-1) ^ n)=1
 | 0=>rfl
 | n+1=>by
  rw[iY];have:=a0n n;rw[xJ,Int.neg_mul_neg];exact this
theorem awg{M:Nat->Rw}{q:Nat}(a b:List Nat)(h1:M q q=1)(h0:∀j∈a++b,M q j=0):det (a++q::b) ((a++q::b).map M)=det (a++b) ((a++b).map M):=by
 have e:=am0 (a++q::b) (M q) (a.map M) [] (b.map M);rw[aZ,aZ,aK] at e;rw[bD,aG,e,aq4 h1 a b _ h0,<-fW,a0n,jX,bD]
theorem afu{M:Nat->Rw}(P:Nat->Bool):∀(l a:List Nat),(a++l).Nodup->(∀q∈l,P q=ZV->M q q=1/\∀j,j≠q->M q j=0)->det (a++l) ((a++l).map M)=det (a++l.filter P) ((a++l.filter P).map M)
 | [],a,_,_=>rfl
 | q::l,a,hn,h=>by
  cases hp:P q with
  | true =>
   have e:=afu P l (a++[q]) (by rw[bV];exact hn) λx hx=>h x (aA _ hx)
   rw[bV,bV] at e;rw[wQ,hp,if_pos rfl];exact e
  | false =>
   obtain⟨h1,h0⟩:=h q (aF ..) hp;rw[wQ,hp,if_neg (by simp)]
   have hn2:q∉a++l:=by
    have:=(wO.nodup_iff.mp hn);exact(eY.mp this).1
   rw[awg a l h1 λj hj=>h0 j λz=>hn2 (z▸hj)]
   exact afu P l a ((eY.mp (wO.nodup_iff.mp hn)).2) λx hx=>h x (aA _ hx)
theorem avb{f:Nat->Nat}{c:Nat}{F F':List Rw->Int}(hF:∀X:List Rw,F X=F' (X.map λr j=>r (f j))):∀rs pre:List Rw,lap (f c) F pre rs=lap c F' (pre.map λr j=>r (f j)) (rs.map λr j=>r (f j))
 | [],_=>rfl
 | r::rs,pre=>by
  have ih:=avb (c:=c) hF rs (pre++[r]);rw[bD] at ih;show r (f c)*F (pre++rs) - lap (f c) F (pre++[r]) rs=_;rw[ih,hF,bD];rfl
theorem awf(f:Nat->Nat):∀(cs:List Nat) (rows:List Rw),det (cs.map f) rows=det cs (rows.map λr j=>r (f j))
 | [],[]=>rfl
 | [],_::_=>rfl
 | c::cs,rows=>by
  show lap (f c) (det (cs.map f)) [] rows=lap c (det cs) [] _;rw[avb (F':=det cs) (awf f cs)];rfl
theorem aie(qq:LL9)(C:List Int)(r:Int):(Hr qq C r).length=qq.length:=by unfold Hr;rw[bW,anf]
section
variable{qq:LL9}(h:Hs qq){C:List Int}(c:Cl qq C){r:Int}(hr:r∈C)
include h c hr
theorem axb{i:Nat}(hi:i < qq.length):dr (Hr qq C r) (i:Int)=if (i:Int)∈C/\(i:Int)≠r then dr qq (i:Int) else [-1]:=by
 have hrr:=c.rng r hr;unfold dr Hr;rw[aL,bZ,bC]
 by_cases q:r.toNat=i
 ·have:(i:Int)=r:=by omega
  rw[if_pos q,anf,if_pos (by omega),if_neg λz=>z.2 this]
  rfl
 ·rw[if_neg q,az3 hi];have ne:(i:Int)≠r:=λz=>q (by omega)
  by_cases z:(i:Int)∈C
  ·rw[if_pos z,if_pos ⟨z,ne⟩];rfl
  ·rw[if_neg z,if_neg λy=>z y.1];rfl
theorem a5a:Hs (Hr qq C r):=by
 refine⟨by rw[aie];exact h.one,by rw[aie];exact h.most,λl hl =>?_⟩
 obtain⟨i,hi,e⟩:=jR.mp hl;rw[aie] at hi;have e2:dr (Hr qq C r) (i:Int)=l:=by
  unfold dr;rw[aL,bZ,aC (by rw[aie];exact hi),e]
  rfl
 rw[axb h c hr hi] at e2;rw[aie];split at e2
 ·rw[<-e2];exact h.dr (x:=(i:Int)) (by omega) (by omega)
 ·rw[<-e2];refine⟨by simp,by simp,λx hx =>?_⟩
  rw[bY] at hx;rw[hx];omega
theorem aph:fc (Hr qq C r)=[]:=by
 have hrr:=c.rng r hr;have out:∀i:Int,0<=i->i < (qq.length:Int)->¬(i∈C/\i≠r)->Rch (Hr qq C r) i (-1):=λi i0 i1 hi=>by
  refine .step .base i0 ?_;have e:=axb h c hr (i:=i.toNat) (by omega)
  rw[show((i.toNat:Nat):Int)=i by omega,if_neg hi] at e
  rw[e];exact bY.mpr rfl
 have all:∀i:Int,0<=i->i < (qq.length:Int)->Rch (Hr qq C r) i (-1):=λi i0 i1=>by
  by_cases q:i∈C/\i≠r
  ·have go:∀y,Rch qq i y->y∈C/\(Rch (Hr qq C r) i y∨Rch (Hr qq C r) i (-1)):=λy hy=>by
    induction hy with
    | base=>exact⟨q.1,.inl .base⟩
    | @step y d _ y0 hd ih =>
     obtain⟨yc,ih⟩:=ih;refine⟨c.cls y yc d hd,?_⟩;rcases ih with ih | ih
     ·have yr:=c.rng y yc
      by_cases z:y=r
      ·exact .inr (su ih (out y yr.1 yr.2 λw=>w.2 z))
      ·refine .inl (.step ih y0 ?_);have e:=axb h c hr (i:=y.toNat) (by omega)
       rw[show((y.toNat:Nat):Int)=y by omega,if_pos ⟨yc,z⟩] at e
       rw[e];exact hd
     ·exact .inr ih
   rcases(go r (c.all i q.1 r hr)).2 with z | z
   ·exact su z (out r hrr.1 hrr.2 λw=>w.2 rfl)
   ·exact z
  ·exact out i i0 i1 q
 cases ht:fc (Hr qq C r) with
 | nil=>rfl
 | cons s l =>
  exfalso;have hs:s∈fc (Hr qq C r):=by rw[ht];exact aF ..
  have hs2:=dF.mp hs;have b:=vf hs2.1;rw[aie] at b;have:=(yl _ _).mp hs2.2 _ (all s b.1 b.2);omega
theorem az5(cc:Rw):xr qq C r=botm (Hr qq C r) cc:=(tree (a5a h c hr) (aph h c hr) cc).symm
theorem axg:0 < xr qq C r/\xr qq C r<=60466176:=by
 rw[az5 h c hr λ_=>0]
 exact a4m (a5a h c hr) (aph h c hr) _
theorem a5i:xr qq C r=det ((aJ qq.length).filter λ(i:Nat)=>decide ((i:Int)∈C/\(i:Int)≠r)) (((aJ qq.length).filter λ(i:Nat)=>decide ((i:Int)∈C/\(i:Int)≠r)).map (dsq qq)):=by
 rw[az5 h c hr λ_=>0,agh (a5a h c hr) (aph h c hr),aie]
 have e:=afu (M:=dsq (Hr qq C r)) (λ(i:Nat)=>decide ((i:Int)∈C/\(i:Int)≠r)) (aJ qq.length) [] (by rw[aZ];exact oM) λq hq hp=>by
  have e:=axb h c hr (i:=q) (cD.mp hq);rw[if_neg (of_decide_eq_false hp)] at e;unfold dsq;rw[e];refine⟨?_,λj hj =>?_⟩
  ·rw[if_pos rfl,pW.mpr (by rw[bY];omega)]
   rfl
  ·rw[if_neg (gR hj),pW.mpr (by rw[bY];omega)]
   rfl
 rw[aZ,aZ] at e;rw[e];refine aez _ _ _ _ λi hi j _ =>?_
 obtain⟨h1,h2⟩:=dF.mp hi;have e:=axb h c hr (i:=i) (cD.mp h1);rw[if_pos (of_decide_eq_true h2)] at e;unfold dsq;rw[e]
end
noncomputable def mu(x y:Nat):Nat:=if y=0 then 0 else (x*y).log2+(if x < y then 2 else 1)
theorem a3b{x y:Nat}(hy:y≠0):mu y (x % y) < mu x y:=by
 unfold mu;rw[if_neg hy]
 by_cases hr:x % y=0
 ·rw[if_pos hr];split <;> omega
 ·rw[if_neg hr];have hlt:x % y < y:=vX _ (by omega)
  rw[if_neg (show ¬y < x % y by omega)]
  by_cases hxy:x < y
  ·rw[if_pos hxy,Nat.mod_eq_of_lt hxy,iB];omega
  ·rw[if_neg hxy];have h2:2*(x % y)<=x:=by
    have:=rK x y;have h1:1<=x / y:=(Nat.one_le_div_iff (by omega)).mpr (by omega)
    have:y*1<=y*(x / y):=uZ _ h1;omega
   have h3:2*(y*(x % y))<=x*y:=by
    rw[vW,iB x y];exact uZ _ h2
   have h4:y*(x % y)≠0:=Nat.mul_ne_zero hy hr;have h5:(y*(x % y)).log2 < (x*y).log2:=by
    have a:=Nat.log2_self_le h4;have b:2 ^ ((y*(x % y)).log2+1)<=x*y:=by rw[Nat.pow_succ];omega
    have:=(Nat.le_log2 (by omega)).mpr b
    omega
   omega
theorem ba5{x y:Nat}(h:x*y < 2 ^ 1000):mu x y < 2000:=by
 unfold mu;split
 ·decide
 ·by_cases z:x*y=0
  ·rw[z];split <;> decide
  ·have:=(Nat.log2_lt z).mpr h;split <;> omega
theorem euclid{c:M Bool}{g:Sd}(fr:Int->Int->Sl->Ro)(hc:∀x y o,c (fr x y o)=ZY (.ok (decide (y≠0)),fr x y o))(hg:∀x y o,0 < y->∃o',g (fr x y o)=ZY (.nx,fr y (x % y) o'))(x y:Nat)(hb:x*y < 2 ^ 1000)(o:Sl):∃o',whileD c g fuel (fr x y o)=ZY (.nx,fr ((mF x y:Nat):Int) 0 o'):=by
 have loop:=uh (c:=c) (g:=g)
  (λn ρ=>∃(a b:Nat) (o:Sl),n=mu a b/\mF a b=mF x y/\ρ=fr a b o)
  (λρ=>∃o:Sl,ρ=fr ((mF x y:Nat):Int) 0 o)
  ?_ fuel (mu x y) (fr x y o) (kJ (ba5 hb) (kJ (by decide) abb)) ⟨x,y,o,rfl,rfl,rfl⟩
 ·obtain⟨ρ',e,o',rfl⟩:=loop;exact⟨o',e⟩
 ·rintro n ρ ⟨a,b,o,rfl,hab,rfl⟩
  by_cases hz:b=0
  ·subst hz;refine .inl ⟨fr a (0:Nat) o,?_,o,?_⟩
   ·have:=hc a (0:Nat) o;rw[this];rfl
   ·rw[<-hab,vK];rfl
  ·obtain⟨o',e⟩:=hg a b o (by omega)
   refine .inr ⟨fr a b o,fr b ((a:Int) % (b:Int)) o',mu b (a % b),?_,e,a3b hz,b,a % b,o',rfl,?_,?_⟩
   ·rw[hc a b o,decide_eq_true (by omega)]
   ·rw[<-hab,Nat.gcd_comm b,<-Nat.gcd_rec,Nat.gcd_comm]
   ·rw[Int.natCast_emod]
theorem a89(t:Int):gAbs (.int t)=ZY (.v (.int (t.natAbs:Int))):=by
 show ZY (Rv.v (.int _))=_
 congr 3
 try omega
theorem cd_one(t:Int)(x:Nat)(hb:x*t.natAbs < 2 ^ 1000)(a0 a3 a4:Sl):∃b3 b4,l1_common_divisor [a0,.val (.int (x:Int)),.val (.int t),a3,a4]=ZY (.nx,[a0,.val (.int ((mF x t.natAbs:Nat):Int)),.val (.int t),b3,b4]):=by
 obtain⟨o',e⟩:=euclid (c:=um) (g:=ul) (λx y o=>[a0,.val (.int x),.val (.int t),.val (.int y),o])
  (λx y o=>by by_cases z:y=0 <;> simp[um,z]) (λx y o hy=>⟨.val (.int (x % y)),by
   have e:fMod x y=ZY (x % y):=by unfold fMod;rw[if_pos hy]
   simp[ul,e]⟩) x t.natAbs hb a4
 have e2:=a89 t;refine⟨.val (.int 0),o',?_⟩;simp[l1_common_divisor,e2,e]
noncomputable def gcdL:Nat->List Int->Nat
 | x,[]=>x
 | x,t::l=>gcdL (mF x t.natAbs) l
theorem aqw:∀(l:List Int) (x:Nat),gcdL x l ∣ x/\∀t∈l,gcdL x l ∣ t.natAbs
 | [],x=>⟨Nat.dvd_refl _,λt ht=>by cases ht⟩
 | t::l,x=>by
  obtain⟨a,b⟩:=aqw l (mF x t.natAbs);refine⟨Nat.dvd_trans a (Nat.gcd_dvd_left ..),λu hu =>?_⟩
  rcases bG.mp hu with z | z
  ·rw[z];exact Nat.dvd_trans a (Nat.gcd_dvd_right ..)
  ·exact b u z
theorem aqv(d m:Nat):∀(l:List Int) (x:Nat),d ∣ m*x->(∀t∈l,d ∣ m*t.natAbs)->d ∣ m*gcdL x l
 | [],x,hx,_=>hx
 | t::l,x,hx,hl=>aqv d m l (mF x t.natAbs) (by
  rw[<-Nat.gcd_mul_left];exact Nat.dvd_gcd hx (hl t (aF ..))) λu hu=>hl u (aA _ hu)
theorem a8f{x t B:Nat}(hx:x < B)(ht:t < B):mF x t < B:=by
 by_cases z:t=0
 ·subst z;rw[vK];exact hx
 ·exact vJ (Nat.gcd_le_right _ (by omega)) ht
theorem aws(a0:Sl):∀(l:List Int) (x:Nat) (o2 o3 o4:Sl),x < 2 ^ 400->(∀t∈l,t.natAbs < 2 ^ 400)->∃q2 q3 q4,forD (bj 2) l1_common_divisor (l.map D.int) [a0,.val (.int (x:Int)),o2,o3,o4]=ZY (.nx,[a0,.val (.int ((gcdL x l:Nat):Int)),q2,q3,q4])
 | [],x,o2,o3,o4,_,_=>⟨o2,o3,o4,rfl⟩
 | t::l,x,o2,o3,o4,hx,hl=>by
  have ht:=hl t (aF ..);have hb:x*t.natAbs < 2 ^ 1000:=by
   have:=Nat.mul_lt_mul_of_lt_of_lt hx ht;rw[<-Nat.pow_add] at this;exact kJ this (Nat.pow_lt_pow_right (by decide) (by decide))
  obtain⟨b3,b4,e1⟩:=cd_one t x hb a0 o3 o4;obtain⟨q2,q3,q4,e2⟩:=aws a0 l (mF x t.natAbs) (.val (.int t)) b3 b4 (a8f hx ht) λu hu=>hl u (aA _ hu)
  refine⟨q2,q3,q4,?_⟩;rw[aG,oh];generalize l.map D.int=LL at *;show _=ZY (Fl.nx,[a0,.val (.int ((gcdL (mF x t.natAbs) l:Nat):Int)),q2,q3,q4]);generalize gcdL (mF x t.natAbs) l=gg at *;generalize mF x t.natAbs=g0 at *;simp[e1,e2]
theorem a8w{l:List Int}(hl:∀t∈l,t.natAbs < 2 ^ 400):j5 [.val (.lst (l.map D.int))]=ZY (.ok (.v (.int ((gcdL 0 l:Nat):Int))),[.val (.lst (l.map D.int))]):=by
 obtain⟨q2,q3,q4,e⟩:=aws (.val (.lst (l.map D.int))) l 0 .emp .emp .emp (Nat.two_pow_pos _) hl;have e:forD (bj 2) l1_common_divisor (l.map D.int) [.val (.lst (l.map D.int)),.val (.int 0),.emp,.emp,.emp]=_:=e;generalize gcdL 0 l=gg at *;generalize l.map D.int=LL at *;simp[j5,abj,e]
section
variable{qq:LL9}(h:Hs qq)
include h
theorem aiq(hop:fc qq=[]):jz [.val (.lst (mtD qq.length qq.length (dsq qq)))]=ZY (.ok (.v (.int (botm qq λ_=>0))),[.val (.lst (mtD qq.length qq.length (dsq qq)))]):=by
 have hm:=h.most;have e:=atp h hop λ_=>0
 have er:((aJ qq.length).map λ_=>D.int 0)=aP qq.length (D.int 0):=by
  rw[List.map_const'];simp
 rw[er] at e;have ml:=ux qq.length qq.length (dsq qq);have hc:qq.length<=capS:=cg (by omega)
 have hb:qq.length < 9223372036854775808:=by omega
 have a1:∀x y:D,atI [x,y] 1=ZY y:=λx y=>by simp[atI,ixN]
 generalize (aJ qq.length).map (λi=>D.int (tops qq (λ_=>0) i))=TT at *
 generalize botm qq (λ_=>0)=bb at *
 generalize mtD qq.length qq.length (dsq qq)=MM at *;simp[jz,aeo,ml,hc,hb,e,a1,isN]
end
theorem ayn{n:Nat}{M:Nat->Rw}{R:List Int}(hR:∀x∈R,0<=x/\x < (n:Int))(hl:R.length<=100):ahz [.own (ZY 0) (mtD n n M),.val (.lst (R.map D.int))]=ZY (.ok (.fr (R.map λi=>D.lst (R.map λj=>.int (M i.toNat j.toNat)))),[.own (ZY 0) (mtD n n M),.val (.lst (R.map D.int))]):=by
 have inner:∀i∈R,compD (bj 0) (ret ZW) ak6 (R.map D.int) [] [.emp,.own (ZY 1) (mtD n n M),.val (.int i)]=ZY (.ok (R.map λj=>.int (M i.toNat j.toNat)),aap .emp (R.map D.int)::[.own (ZY 1) (mtD n n M),.val (.int i)]):=λi hi=>by
  rw[uf (f:=λd=>match d with | .int j=>.int (M i.toNat j.toNat) | d=>d)]
  ·rw[aZ,cL];rfl
  ·intro d hd;obtain⟨j,hj,rfl⟩:=bJ.mp hd;have hir:=hR i hi;have hjr:=hR j hj;have k1:=ap9 (n:=n) (m:=n) (M:=M) (k:=i.toNat) (by omega)
   rw[show((i.toNat:Nat):Int)=i by omega] at k1
   have k2:=ai2 (m:=n) (r:=M i.toNat) (k:=j.toNat) (by omega)
   rw[show((j.toNat:Nat):Int)=j by omega] at k2
   unfold rwD at k1;generalize (aJ n).map (λj=>D.int (M i.toNat j))=rr at *
   generalize mtD n n M=mm at *;simp[ak6,k1,k2]
 have outer:compD (bj 0) (ret ZW) agf (R.map D.int) [] [.emp,.own (ZY 1) (mtD n n M),.val (.lst (R.map D.int))]=ZY (.ok (R.map λi=>D.lst (R.map λj=>.int (M i.toNat j.toNat))),aap .emp (R.map D.int)::[.own (ZY 1) (mtD n n M),.val (.lst (R.map D.int))]):=by
  rw[uf (f:=λd=>match d with | .int i=>.lst (R.map λj=>.int (M i.toNat j.toNat)) | d=>d)]
  ·rw[aZ,cL];rfl
  ·intro d hd;obtain⟨i,hi,rfl⟩:=bJ.mp hd;have e:=inner i hi;have hc:(R.map λj=>D.int (M i.toNat j.toNat)).length<=capS:=by rw[aK];exact cg (by omega)
   show agf [.val (.int i),.own (ZY 1) (mtD n n M),.val (.lst (R.map D.int))]=ZY (.ok (.lst (R.map λj=>D.int (M i.toNat j.toNat))),[.val (.int i),.own (ZY 1) (mtD n n M),.val (.lst (R.map D.int))])
   generalize (R.map λj=>D.int (M i.toNat j.toNat))=rr at *
   generalize R.map D.int=RR at *;generalize mtD n n M=mm at *;simp[agf,e,hc]
 have hc:(R.map λi=>D.lst (R.map λj=>.int (M i.toNat j.toNat))).length<=capS:=by rw[aK];exact cg (by omega)
 generalize (R.map λi=>D.lst (R.map λj=>.int (M i.toNat j.toNat)))=r2 at *
 generalize R.map D.int=RR at *;generalize mtD n n M=mm at *;simp[ahz,avw,outer,hc]
noncomputable def ren(R:List Int)(y:Int):Int:=if y∈R then (R.idxOf y:Int) else -1
def Hn(qq:LL9)(R:List Int):LL9:=R.map λi=>(dr qq i).map (ren R)
theorem aqr{R:List Int}(hn:R.Nodup){j:Nat}(hj:j < R.length):R.idxOf R[j]=j:=hn.idxOf_getElem j hj
theorem at9{R:List Int}(hn:R.Nodup){j:Nat}(hj:j < R.length)(y:Int):ren R y=(j:Int)↔y=R[j]:=by
 unfold ren;constructor
 ·intro e;split at e
  ·rename_i hy;have e:R.idxOf y=j:=by omega
   have hlt:=nT.mpr hy;have:=vN hlt;rw[<-this]
   congr 1
  ·omega
 ·intro e;subst e;rw[if_pos (dO hj),aqr hn hj]
theorem am1{R:List Int}(hn:R.Nodup){j:Nat}(hj:j < R.length):∀l:List Int,(l.map (ren R)).count (j:Int)=l.count R[j]
 | []=>rfl
 | y::l=>by
  rw[aG,jM,jM,am1 hn hj l]
  by_cases e:y=R[j]
  ·rw[(at9 hn hj y).mpr e,e];simp
  ·have:ren R y≠(j:Int):=λz=>e ((at9 hn hj y).mp z)
   simp[e,this]
section
variable{qq:LL9}(h:Hs qq){C:List Int}(c:Cl qq C){r:Int}(hr:r∈C)(hlt:C.Pairwise (· < ·))(h10:C.length<=10)
include h c hr hlt
theorem a9a{R:List Int}{i:Nat}(hi:i < R.length):dr (Hn qq R) (i:Int)=(dr qq R[i]).map (ren R):=by
 unfold Hn;show((R.map λi=>(dr qq i).map (ren R)).getD ((i:Nat):Int).toNat [])=_
 rw[aL,bZ,aN,aC hi];rfl
theorem a1b{R:List Int}(hn:R.Nodup)(hR:∀x∈R,0<=x/\x < (qq.length:Int)){i j:Nat}(hi:i < R.length)(hj:j < R.length):dsq (Hn qq R) i j=dsq qq R[i].toNat R[j].toNat:=by
 have a:=hR _ (dO hi);have b:=hR _ (dO hj);unfold dsq;rw[a9a h c hr hlt hi,aK,am1 hn hj,show((R[i].toNat:Nat):Int)=R[i] by omega,show((R[j].toNat:Nat):Int)=R[j] by omega]
 by_cases e:i=j
 ·subst e;rw[if_pos rfl,if_pos rfl]
 ·have:R[i].toNat≠R[j].toNat:=λz=>e (by
   have q:R[i]=R[j]:=by omega
   have q1:=aqr hn hi;rw[q,aqr hn hj] at q1;exact q1.symm)
  rw[if_neg e,if_neg this]
end
theorem apm:∀{l m:List Nat},l.Pairwise (· < ·)->m.Pairwise (· < ·)->(∀x,x∈l↔x∈m)->l=m
 | [],[],_,_,_=>rfl
 | [],y::m,_,_,h=>by have:=(h y).mpr (aF ..);cases this
 | x::l,[],_,_,h=>by have:=(h x).mp (aF ..);cases this
 | x::l,y::m,hl,hm,h=>by
  obtain⟨l1,l2⟩:=cV.mp hl;obtain⟨m1,m2⟩:=cV.mp hm;have e:x=y:=by
   rcases bG.mp ((h x).mp (aF ..)) with q | q
   ·exact q
   ·rcases bG.mp ((h y).mpr (aF ..)) with p | p
    ·exact p.symm
    ·have:=l1 y p;have:=m1 x q;omega
  subst e
  congr 1
  refine apm l2 m2 λz=>⟨λhz =>?_,λhz =>?_⟩
  ·rcases bG.mp ((h z).mp (aA _ hz)) with q | q
   ·have:=l1 z hz;omega
   ·exact q
  ·rcases bG.mp ((h z).mpr (aA _ hz)) with q | q
   ·have:=m1 z hz;omega
   ·exact q
theorem a4h:jz [.val (.lst [])]=ZY (.ok (.v (.int 1)),[.val (.lst [])]):=by kernel_rfl
section
variable{qq:LL9}(h:Hs qq){C:List Int}(c:Cl qq C){r:Int}(hr:r∈C)(hlt:C.Pairwise (· < ·))(h10:C.length<=10)
include h c hr hlt
theorem bcn{R:List Int}(h1:1<=R.length)(hR:∀x∈R,x∈C)(h10:R.length<=10):Hs (Hn qq R):=by
 have hl:(Hn qq R).length=R.length:=by unfold Hn;rw[aK]
 refine⟨by rw[hl];exact h1,by rw[hl];exact h10,λl hl2 =>?_⟩
 obtain⟨i,hi,rfl⟩:=bJ.mp hl2;have hir:=c.rng i (hR i hi);have d:=h.dr hir.1 hir.2;rw[hl,aK];refine⟨d.1,d.2.1,λy hy =>?_⟩
 obtain⟨z,hz,rfl⟩:=bJ.mp hy;unfold ren;split
 ·rename_i hm;have:=nT.mpr hm;omega
 ·omega
theorem a5b{R:List Int}(hn:R.Nodup)(hR:∀x,x∈R↔x∈C/\x≠r):fc (Hn qq R)=[]:=by
 have hl:(Hn qq R).length=R.length:=by unfold Hn;rw[aK]
 have all:∀i:Nat,(hi:i < R.length)->Rch (Hn qq R) (i:Int) (-1):=λi hi=>by
  have mem:=(hR _).mp (dO hi);have go:∀y,Rch qq R[i] y->y∈C/\((y∈R/\Rch (Hn qq R) (i:Int) (R.idxOf y:Int))∨Rch (Hn qq R) (i:Int) (-1)):=λy hy=>by
   induction hy with
   | base=>exact⟨mem.1,.inl ⟨List.getElem_mem hi,by rw[aqr hn hi];exact .base⟩⟩
   | @step y d _ y0 hd ih =>
    obtain⟨yc,ih⟩:=ih;refine⟨c.cls y yc d hd,?_⟩;rcases ih with⟨yr,ih⟩ | ih
    ·have hlt2:=nT.mpr yr;have e:=a9a h c hr hlt (R:=R) hlt2;rw[vN hlt2] at e;have st:Rch (Hn qq R) (i:Int) (ren R d):=.step ih (by omega) (by rw[e];exact bJ.mpr ⟨d,hd,rfl⟩)
     unfold ren at st
     by_cases z:d∈R
     ·rw[if_pos z] at st;exact .inl ⟨z,st⟩
     ·rw[if_neg z] at st;exact .inr st
    ·exact .inr ih
  rcases(go r (c.all _ mem.1 r hr)).2 with z | z
  ·exact absurd rfl ((hR r).mp z.1).2
  ·exact z
 cases ht:fc (Hn qq R) with
 | nil=>rfl
 | cons s l =>
  exfalso;have hs:s∈fc (Hn qq R):=by rw[ht];exact aF ..
  have hs2:=dF.mp hs;have b:=vf hs2.1;rw[hl] at b;have:=(yl _ _).mp hs2.2 _ (by
   have:=all s.toNat (by omega)
   rw[show((s.toNat:Nat):Int)=s by omega] at this
   exact this)
  omega
include h10
theorem awe{R:List Int}(hRe:R=C.filter λx=>decide (x≠r)):jz [.val (.lst (R.map λi=>D.lst (R.map λj=>.int (dsq qq i.toNat j.toNat))))]=ZY (.ok (.v (.int (xr qq C r))),[.val (.lst (R.map λi=>D.lst (R.map λj=>.int (dsq qq i.toNat j.toNat))))]):=by
 have hR:∀x,x∈R↔x∈C/\x≠r:=λx=>by rw[hRe,dF,decide_eq_true_iff]
 have hRl:R.Pairwise (· < ·):=by rw[hRe];exact hlt.sublist vB
 have hn:R.Nodup:=hRl.imp λq z=>by omega
 have hR10:R.length<=10:=by rw[hRe];exact dC (lO _ _) h10
 have hrng:∀x∈R,0<=x/\x < (qq.length:Int):=λx hx=>c.rng x ((hR x).mp hx).1
 have ex:xr qq C r=det (R.map uN) ((R.map uN).map (dsq qq)):=by
  rw[a5i h c hr];have:((aJ qq.length).filter λ(i:Nat)=>decide ((i:Int)∈C/\(i:Int)≠r))=R.map uN:=by
   refine apm (oV.sublist vB) ?_ λi =>?_
   ·rw[nP];refine tD (λ{a b} ha hb q =>?_) hRl
    have:=hrng a ha;have:=hrng b hb;omega
   ·rw[dF,cD,decide_eq_true_iff,bJ];constructor
    ·intro q;exact⟨(i:Int),(hR _).mpr q.2,by omega⟩
    ·intro q;obtain⟨x,hx,rfl⟩:=q;have a:=hrng x hx;refine⟨by omega,?_⟩
     rw[show((x.toNat:Nat):Int)=x by omega]
     exact(hR x).mp hx
  rw[this]
 cases hz:R with
 | nil =>
  rw[hz] at ex;have ex:xr qq C r=1:=ex;rw[ex];exact a4h
 | cons y R' =>
  rw[<-hz];have h1:1<=R.length:=by rw[hz];simp
  have H:=bcn h c hr hlt h1 (λx hx=>((hR x).mp hx).1) hR10
  have hop:=a5b h c hr hlt hn hR;have hl:(Hn qq R).length=R.length:=by unfold Hn;rw[aK]
  have e:=aiq H hop;rw[hl] at e;have em:mtD R.length R.length (dsq (Hn qq R))=R.map λi=>D.lst (R.map λj=>.int (dsq qq i.toNat j.toNat)):=by
   unfold mtD rwD;apply dU;intro i;rw[aN,aN]
   by_cases hi:i < R.length
   ·rw[bM hi,aC hi];show ZY (D.lst ((aJ R.length).map λj=>D.int (dsq (Hn qq R) i j)))=ZY (D.lst (R.map λj=>D.int (dsq qq R[i].toNat j.toNat)))
    congr 2
    apply dU;intro j;rw[aN,aN]
    by_cases hj:j < R.length
    ·rw[bM hj,aC hj];show ZY (D.int (dsq (Hn qq R) i j))=ZY (D.int (dsq qq R[i].toNat R[j].toNat));rw[a1b h c hr hlt hn hrng hi hj]
    ·rw[bI (by simp;omega),bI (by omega)]
     rfl
   ·rw[bI (by simp;omega),bI (by omega)]
    rfl
  have eb:botm (Hn qq R) (λ_=>0)=xr qq C r:=by
   rw[ex,agh H hop,hl];have ef:R.map uN=(aJ R.length).map λi=>(R.getD i 0).toNat:=by
    apply dU;intro i;rw[aN,aN]
    by_cases hi:i < R.length
    ·rw[bM hi,aC hi];show ZY R[i].toNat=ZY (R.getD i 0).toNat;rw[aL,aC hi];rfl
    ·rw[bI (by omega),bI (by simp;omega)]
     rfl
   rw[ef,awf,cL,cL];refine aez _ _ _ _ λi hi j hj =>?_
   have hi:=cD.mp hi;have hj:=cD.mp hj;rw[a1b h c hr hlt hn hrng hi hj];show _=dsq qq (R.getD i 0).toNat (R.getD j 0).toNat;rw[aL,aL,aC hi,aC hj];rfl
  rw[em,eb] at e;exact e
end
noncomputable def gdC(qq:LL9)(C:List Int):Nat:=gcdL 0 (C.map (xr qq C))
noncomputable def zC(qq:LL9)(C:List Int)(x:Int):Int:=if x∈C then xr qq C x / (gdC qq C:Int) else 0
noncomputable def agm(qq:LL9)(C:List Int):List Int:=(upto qq.length).map (zC qq C)
section
variable{qq:LL9}(h:Hs qq){C:List Int}(c:Cl qq C)(hlt:C.Pairwise (· < ·))(h10:C.length<=10){r:Int}(hr:r∈C)
include h c hlt h10
theorem arw:compD (bj 0) (ret ZW) vh (C.map D.int) [] [.emp,.own (ZY 1) (mtD qq.length qq.length (dsq qq)),.val (.tup (C.map D.int))]=ZY (.ok ((C.map (xr qq C)).map D.int),aap .emp (C.map D.int)::[.own (ZY 1) (mtD qq.length qq.length (dsq qq)),.val (.tup (C.map D.int))]):=by
 rw[uf (f:=λd=>match d with | .int r=>.int (xr qq C r) | d=>d)]
 ·rw[aZ,cL,cL];rfl
 ·intro d hd;obtain⟨r,hr,rfl⟩:=bJ.mp hd;have e1:compD (bj 0) aag aad (C.map D.int) [] [.emp,.val (.int r)]=ZY (.ok ((C.filter λx=>decide (x≠r)).map D.int),aap .emp (C.map D.int)::[.val (.int r)]):=by
   rw[qm (p:=λd=>match d with | .int x=>decide (x≠r) | _=>ZV) (f:=λd=>d)]
   ·rw[aZ,qO,rO];rfl
   ·intro d hd;obtain⟨x,hx,rfl⟩:=bJ.mp hd
    by_cases e:x=r <;> simp[aag,e]
   ·intro d hd _;obtain⟨x,hx,rfl⟩:=bJ.mp hd;simp[aad]
  have hm:=h.most;have hl2:(C.filter λx=>decide (x≠r)).length<=10:=dC (lO _ _) h10
  have e2:=ayn (n:=qq.length) (M:=dsq qq) (R:=C.filter λx=>decide (x≠r)) (λx hx=>c.rng x (dF.mp hx).1) (by omega)
  have e3:=awe h c hr hlt h10 (R:=C.filter λx=>decide (x≠r)) rfl
  have hc:((C.filter λx=>decide (x≠r)).map D.int).length<=capS:=by rw[aK];exact cg (by omega)
  show vh [.val (.int r),.own (ZY 1) (mtD qq.length qq.length (dsq qq)),.val (.tup (C.map D.int))]=ZY (.ok (.int (xr qq C r)),[.val (.int r),.own (ZY 1) (mtD qq.length qq.length (dsq qq)),.val (.tup (C.map D.int))]);generalize xr qq C r=xx at *;generalize ((C.filter λx=>decide (x≠r)).map λi=>D.lst ((C.filter λx=>decide (x≠r)).map λj=>.int (dsq qq i.toNat j.toNat)))=MN at *
  generalize (C.filter λx=>decide (x≠r)).map D.int=RR at *
  generalize C.map D.int=CC at *;generalize mtD qq.length qq.length (dsq qq)=mm at *;simp[vh,e1,hc,e2,e3]
theorem aqu(hr:r∈C):0 < gdC qq C/\gdC qq C<=60466176/\∀x∈C,((gdC qq C:Nat):Int) ∣ xr qq C x:=by
 have d:=aqw (C.map (xr qq C)) 0;have x:=axg h c hr;have dv:∀x∈C,gdC qq C ∣ (xr qq C x).natAbs:=λx hx=>d.2 _ (bJ.mpr ⟨x,hx,rfl⟩)
 have d1:=dv r hr;have hp:0 < (xr qq C r).natAbs:=by omega
 refine⟨Nat.pos_of_dvd_of_pos d1 hp,dC (Nat.le_of_dvd hp d1) (by omega),λx hx =>?_⟩
 have:=Int.natCast_dvd_natCast.mpr (dv x hx);have hx:=axg h c hx;rwa[show(((xr qq C x).natAbs:Nat):Int)=xr qq C x by omega] at this
end
def setT(f:Int->Int)(T:List Int)(r:Int):List Int:=T.set r.toNat (f r)
theorem aps(f:Int->Int):∀(cs T:List Int),(cs.foldl (setT f) T).length=T.length
 | [],_=>rfl
 | r::cs,T=>by
  rw[eF,aps f cs];unfold setT;rw[bW]
theorem apt(f:Int->Int):∀(cs T:List Int),(∀x∈cs,0<=x)->∀i,i < T.length->(cs.foldl (setT f) T)[i]? = ZY (if (i:Int)∈cs then f (i:Int) else T.getD i 0)
 | [],T,_,i,hi=>by
  rw[if_neg oK,aL];show T[i]? = _;rw[aC hi];rfl
 | r::cs,T,h,i,hi=>by
  have r0:=h r (aF ..);rw[eF,apt f cs _ (λx hx=>h x (aA _ hx)) i (by unfold setT;rw[bW];exact hi)]
  congr 1
  by_cases q:(i:Int)∈cs
  ·rw[if_pos q,if_pos (aA _ q)]
  ·rw[if_neg q];unfold setT;rw[aL,bC]
   by_cases z:r.toNat=i
   ·have:(i:Int)=r:=by omega
    rw[if_pos z,if_pos (by omega),if_pos (by rw[this];exact aF ..),this]
    rfl
   ·rw[if_neg z,if_neg λw=>by
     rcases bG.mp w with w | w
     ·exact z (by omega)
     ·exact q w,aL]
theorem ais(hh CC RW TT:Sl){g:Nat}(g0:0 < g)(g1:g<=60466176)(X:Int->Int)(n:Nat):∀(cs T:List Int) (o6 o7:Sl),T.length=n->(∀x∈cs,0<=x/\x < (n:Int)) ->
  ∃q6 q7,forD (bTup 2 (je (bj 6) (je (bj 7) bNil))) vg (qu (cs.map D.int) ((cs.map X).map D.int)) [hh,CC,RW,TT,.val (.int (g:Int)),.own ZX (T.map D.int),o6,o7]=ZY (.nx,[hh,CC,RW,TT,.val (.int (g:Int)),.own ZX ((cs.foldl (setT λr=>X r / (g:Int)) T).map D.int),q6,q7])
 | [],T,o6,o7,_,_=>⟨o6,o7,rfl⟩
 | r::cs,T,o6,o7,hT,hc=>by
  have hr:=hc r (aF ..);have e1:fDiv (X r) (g:Int)=ZY (X r / (g:Int)):=by
   unfold fDiv;rw[if_pos ⟨by omega,by omega⟩]
  have ix:ixN (T.map D.int).length r=ZY r.toNat:=afo hr.1 (by rw[aK];omega)
  have m3:(T.map D.int).set r.toNat (.int (X r / (g:Int)))=(setT (λr=>X r / (g:Int)) T r).map D.int:=by unfold setT;rw[List.map_set]
  obtain⟨q6,q7,e2⟩:=ais hh CC RW TT g0 g1 X n cs (setT (λr=>X r / (g:Int)) T r) (.val (.int r)) (.val (.int (X r))) (by unfold setT;rw[bW];exact hT) λx hx=>hc x (aA _ hx)
  refine⟨q6,q7,?_⟩;rw[eF];generalize (cs.foldl (setT λr=>X r / (g:Int)) (setT (λr=>X r / (g:Int)) T r)).map D.int=FF at *
  rw[<-m3] at e2;generalize T.map D.int=TM at *;rw[aG,aG,aG];show forD _ _ (.tup [.int r,.int (X r)]::qu (cs.map D.int) ((cs.map X).map D.int)) _=_;generalize qu (cs.map D.int) ((cs.map X).map D.int)=ZZ at *;generalize X r / (g:Int)=xx at *;have step:vg [hh,CC,RW,TT,.val (.int (g:Int)),.own ZX TM,.val (.int r),.val (.int (X r))]=ZY (.nx,[hh,CC,RW,TT,.val (.int (g:Int)),.own ZX (TM.set r.toNat (.int xx)),.val (.int r),.val (.int (X r))]):=by
   simp[vg,e1,ix]
  rw[oh];simp[step,e2]
section
variable{qq:LL9}(h:Hs qq){C:List Int}(c:Cl qq C)(hlt:C.Pairwise (· < ·))(h10:C.length<=10){r:Int}(hr:r∈C)
include h c hlt h10 hr
theorem aif:lu [.val (hD qq),.val (.tup (C.map D.int))]=ZY (.ok (.v (.tup ((agm qq C).map D.int))),[.val (hD qq),.val (.tup (C.map D.int))]):=by
 have hm:=h.most;have e1:=ah6 h;have e2:=arw h c hlt h10;have hx:∀t∈C.map (xr qq C),t.natAbs < 2 ^ 400:=λt ht=>by
  obtain⟨x,hx,rfl⟩:=bJ.mp ht;have b:=axg h c hx;refine cC (m:=2 ^ 30) (by omega) (lX (by decide) (by decide))
 have e3:=a8w hx;obtain⟨g0,g1,_⟩:=aqu h c hlt h10 hr;have hC:C.length<=(C.map (xr qq C)).length:=by simp
 have hc:((C.map (xr qq C)).map D.int).length<=capS:=by rw[aK,aK];exact cg (by omega)
 obtain⟨q6,q7,e4⟩:=ais (.val (hD qq)) (.val (.tup (C.map D.int))) (.own ZX (mtD qq.length qq.length (dsq qq))) (.val (.lst ((C.map (xr qq C)).map D.int))) g0 g1 (xr qq C) qq.length C (aP qq.length 0) .emp .emp (by simp) c.rng
 have e5:C.foldl (setT λr=>xr qq C r / (gdC qq C:Int)) (aP qq.length 0)=agm qq C:=by
  apply dU;intro i
  by_cases hi:i < qq.length
  ·rw[apt _ C _ (λx hx=>(c.rng x hx).1) i (by simpa using hi)]
   unfold agm upto zC;rw[cL,aN,bM hi];show ZY _=ZY (if (i:Int)∈C then xr qq C (i:Int) / (gdC qq C:Int) else 0)
   congr 1
   split
   ·rfl
   ·rw[aL,gG,if_pos hi];rfl
  ·rw[bI (by rw[aps];simpa using hi),bI (by unfold agm upto;simpa using hi)]
 rw[e5] at e4;have e6:(aP qq.length (0:Int)).map D.int=aP qq.length (D.int 0):=by simp
 rw[e6] at e4;have hl:=zz qq;have hlc:qq.length<=capS:=cg (by omega)
 have hb:qq.length < 9223372036854775808:=by omega
 have hz:(C.map D.int).length<=((C.map (xr qq C)).map D.int).length:=by simp
 unfold gdC at e4;generalize gcdL 0 (C.map (xr qq C))=gg at *;generalize (C.map (xr qq C)).map D.int=XX at *;generalize (agm qq C).map D.int=TT at *;generalize C.map D.int=CC at *;generalize mtD qq.length qq.length (dsq qq)=mm at *;simp only[hD] at *;generalize hDs qq=hh at *;simp[lu,aem,e1,e2,e3,hc,hl,hlc,hb,hz,e4]
end
section
variable{qq:LL9}(h:Hs qq)(sh:Sh qq){as:List Int}(ha:Arr qq as){k:Int}(h0:0<=k)(h1:k < (qq.length:Int))(b:∀x,Rch qq k x->Rch qq x k)
include h sh h0 h1 b
theorem ala:Cl qq (dq qq k):=by
 have mem:∀x,x∈dq qq k↔Rch qq k x:=λx=>lr h ⟨h0,h1⟩ sh
 refine⟨qp h ⟨h0,h1⟩,λx hx d hd=>(mem d).mpr (.step ((mem x).mp hx) (qp h ⟨h0,h1⟩ x hx).1 hd),λx hx y hy=>su (b x ((mem x).mp hx)) ((mem y).mp hy)⟩
noncomputable def zN(qq:LL9)(k x:Int):Nat:=(zC qq (dq qq k) x).toNat
theorem aro(x:Int)(hx:x∈dq qq k):0 < zC qq (dq qq k) x/\zC qq (dq qq k) x<=60466176/\xr qq (dq qq k) x=(gdC qq (dq qq k):Int)*zC qq (dq qq k) x:=by
 have c:=ala h sh h0 h1 b;obtain⟨_,K⟩:=j7 h ⟨h0,h1⟩;obtain⟨g0,g1,gd⟩:=aqu h c K.lt K.len hx;have hp:=axg h c hx;obtain⟨q,hq⟩:=gd x hx;have e:zC qq (dq qq k) x=q:=by
  unfold zC;rw[if_pos hx,hq];exact Int.mul_ediv_cancel_left _ (by omega)
 rw[e];have q0:0 < q:=by
  rcases lQ 0 q with z | z
  ·exact z
  ·have:(gdC qq (dq qq k):Int)*q<=0:=Int.mul_nonpos_of_nonneg_of_nonpos (by omega) z
   omega
 refine⟨q0,?_,hq⟩;have:1*q<=(gdC qq (dq qq k):Int)*q:=qQ (by omega) (by omega)
 omega
theorem zN_c(x:Int):((zN qq k x:Nat):Int)=zC qq (dq qq k) x:=by
 unfold zN
 by_cases q:x∈dq qq k
 ·have:=(aro h sh h0 h1 b x q).1;omega
 ·have:zC qq (dq qq k) x=0:=if_neg q;rw[this];rfl
theorem a5h(v:Int)(v0:0<=v)(v1:v < (qq.length:Int)):((upto qq.length).map λw=>zN qq k w*(dr qq w).count v).sum=zN qq k v*(dr qq v).length:=by
 have c:=ala h sh h0 h1 b;obtain⟨_,K⟩:=j7 h ⟨h0,h1⟩
 by_cases q:v∈dq qq k
 ·have kx:=bbo h c q;obtain⟨g0,g1,gd⟩:=aqu h c K.lt K.len q;have e:∀l:List Int,(((l.map λw=>zN qq k w*(dr qq w).count v).sum:Nat):Int)*(gdC qq (dq qq k):Int)=(l.map λw=>if w∈dq qq k then xr qq (dq qq k) w*((dr qq w).count v:Int) else 0).sum:=λl=>by
   induction l with
   | nil=>simp
   | cons w l ih =>
    rw[aG,bH,aG,bH,jN,rR,ih]
    congr 1
    rw[iT,zN_c h sh h0 h1 b]
    by_cases z:w∈dq qq k
    ·rw[if_pos z,(aro h sh h0 h1 b w z).2.2,dD,fW]
    ·have e0:zC qq (dq qq k) w=0:=if_neg z;rw[if_neg z,e0,fL,fL]
  have e:=e (upto qq.length);rw[kx,(aro h sh h0 h1 b v q).2.2,<-zN_c h sh h0 h1 b,dD (gdC qq (dq qq k):Int),fW,dD (gdC qq (dq qq k):Int),<-fW] at e;have e:=Int.eq_of_mul_eq_mul_right (by omega) e
  rw[<-iT] at e;omega
 ·have e0:zC qq (dq qq k) v=0:=if_neg q;have z0:zN qq k v=0:=by unfold zN;rw[e0];rfl
  rw[z0,pA];have:∀w∈upto qq.length,zN qq k w*(dr qq w).count v=0:=λw _=>by
   by_cases z:w∈dq qq k
   ·rw[pW.mpr λhd=>q (c.cls w z v hd),Nat.mul_zero]
   ·have e1:zC qq (dq qq k) w=0:=if_neg z;have:zN qq k w=0:=by unfold zN;rw[e1];rfl
    rw[this,pA]
  rw[cY this];generalize upto qq.length=l
  induction l with
  | nil=>rfl
  | cons x l ih=>rw[aG,bH,ih]
theorem a5g(q:Nat)(hq:∀x,Rch qq k x->q ∣ zN qq k x):q=1:=by
 have c:=ala h sh h0 h1 b;obtain⟨_,K⟩:=j7 h ⟨h0,h1⟩;have mem:∀x,x∈dq qq k↔Rch qq k x:=λx=>lr h ⟨h0,h1⟩ sh
 have hk:=(mem k).mpr .base;obtain⟨g0,g1,gd⟩:=aqu h c K.lt K.len hk;have:=aqv (q*gdC qq (dq qq k)) 1 ((dq qq k).map (xr qq (dq qq k))) 0 (by simp) λt ht=>by
  obtain⟨x,hx,rfl⟩:=bJ.mp ht;rw[uY];obtain⟨p,hp⟩:=hq x ((mem x).mp hx);have e:=(aro h sh h0 h1 b x hx).2.2;rw[<-zN_c h sh h0 h1 b,hp] at e;refine⟨p,?_⟩;have e2:(xr qq (dq qq k) x).natAbs=gdC qq (dq qq k)*(q*p):=by
   rw[e,<-iT,Int.natAbs_natCast]
  rw[e2,vW,<-tR]
 rw[uY] at this;have this:q*gdC qq (dq qq k) ∣ gdC qq (dq qq k):=this;obtain⟨p,hp⟩:=this;have:1=q*p:=by
  have:gdC qq (dq qq k)*1=gdC qq (dq qq k)*(q*p):=by
   rw[Nat.mul_one,<-tR,iB _ q];exact hp
  exact Nat.eq_of_mul_eq_mul_left g0 this
 exact Nat.eq_one_of_mul_eq_one_right this.symm
include ha
theorem axv{m:Nat}(hm:1<=m)(em:run qq as k m=(as,k))(hd:∀r,0 < r->r < m->run qq as k r≠(as,k))(g:InG qq as k) :
  (∀x,0<=x->x < (qq.length:Int)->(vis qq as k m).count x=zN qq k x*(dr qq x).length)/\m=((upto qq.length).map λx=>zN qq k x*(dr qq x).length).sum:=by
 have mem:∀x,x∈dq qq k↔Rch qq k x:=λx=>lr h ⟨h0,h1⟩ sh
 refine a1w h sh ha h0 h1 hm em hd g (λx hx =>?_) (λx hx =>?_) (a5h h sh h0 h1 b) (a5g h sh h0 h1 b)
 ·have:=(aro h sh h0 h1 b x ((mem x).mpr hx)).1;unfold zN;omega
 ·have e0:zC qq (dq qq k) x=0:=if_neg λz=>hx ((mem x).mp z)
  unfold zN;rw[e0];rfl
theorem arp:lu [.val (hD qq),.val (.tup ((dq qq k).map D.int))]=ZY (.ok (.v (.tup (((upto qq.length).map λx=>((zN qq k x:Nat):Int)).map D.int))),[.val (hD qq),.val (.tup ((dq qq k).map D.int))]):=by
 have c:=ala h sh h0 h1 b;obtain⟨_,K⟩:=j7 h ⟨h0,h1⟩;have e:=aif h c K.lt K.len ((lr h ⟨h0,h1⟩ sh).mpr .base);have:agm qq (dq qq k)=(upto qq.length).map λx=>((zN qq k x:Nat):Int):=by
  unfold agm;exact cY λx _=>(zN_c h sh h0 h1 b x).symm
 rw[this] at e;exact e
end
theorem a7m{z n:Nat}(hz:z<=60466176):fMul (z:Int) (n:Int)=ZY ((z*n:Nat):Int):=by
 unfold fMul;rw[if_pos (.inl ⟨by omega,by omega⟩),iT]
theorem a8t(x p:Int)(rr:List D)(em:fMul x (rr.length:Int)=ZY p):yu [.val (.int x),.val (.tup rr)]=ZY (.ok (.int p),[.val (.int x),.val (.tup rr)]):=by
 simp[yu,em]
section
variable{qq:LL9}(h:Hs qq)(sh:Sh qq){as:List Int}(ha:Arr qq as){k:Int}(h0:0<=k)(h1:k < (qq.length:Int))
include h
theorem axm(z:Int->Nat)(hz:∀x,z x<=60466176):∃q1 q2,compD (bTup 2 (je (bj 0) (je (bj 1) bNil))) (ret ZW) yu (qu (((upto qq.length).map λx=>((z x:Nat):Int)).map D.int) (hDs qq)) [] [.emp,.emp]=ZY (.ok (((upto qq.length).map λx=>((z x*(dr qq x).length:Nat):Int)).map D.int),[q1,q2]):=by
 have hlz:(((upto qq.length).map λx=>((z x:Nat):Int)).map D.int).length=qq.length:=by simp[upto]
 have comp:=wk (b:=bTup 2 (je (bj 0) (je (bj 1) bNil))) (mc:=ret ZW) (me:=yu) (λj ys ρ=>∃(o1 o2:Sl),ρ=[o1,o2]/\ys=((upto j).map λx=>((z x*(dr qq x).length:Nat):Int)).map D.int)
  (l:=qu (((upto qq.length).map λx=>((z x:Nat):Int)).map D.int) (hDs qq)) (ys:=[]) (ρ:=[.emp,.emp]) 0 ⟨.emp,.emp,rfl,rfl⟩ ?_
 ·obtain⟨ys,ρ',e6,o1,o2,rfl,rfl⟩:=comp;rw[agj (by rw[hlz,zz];exact aM _),hlz,cJ] at e6
  exact⟨o1,o2,e6⟩
 ·rintro j d ys ρ hd ⟨o1,o2,rfl,rfl⟩
  obtain⟨d1,d2,g1,g2,rfl⟩:=adz hd;obtain⟨r,hr,rfl⟩:=akt g2;have hj:j < qq.length:=(aQ.mp hr).1;have er:dr qq (j:Int)=r:=by unfold dr;rw[aL,bZ,hr];rfl
  have e1:d1=.int ((z (j:Int):Nat):Int):=by
   rw[aN,aN] at g1;unfold upto at g1;rw[aN,bM hj] at g1;exact(bO g1).symm
  subst e1;have hb:=hz (j:Int);have em:fMul ((z (j:Int):Nat):Int) ((r.map D.int).length:Int)=ZY ((z (j:Int)*r.length:Nat):Int):=by
   rw[aK];exact a7m hb
  refine⟨[.val (.int ((z (j:Int):Nat):Int)),.val (.tup (r.map D.int))],_,ZW,by simp,rfl,.inr ⟨rfl,.int ((z (j:Int)*r.length:Nat):Int),[.val (.int ((z (j:Int):Nat):Int)),.val (.tup (r.map D.int))],?_,_,_,rfl,?_⟩⟩
  ·exact a8t _ _ _ em
  ·rw[cJ];unfold upto;rw[fZ,bD,bD,bD];show _=_++[D.int ((z (j:Int)*(dr qq (j:Int)).length:Nat):Int)];rw[er]
theorem axl(z:Int->Nat):gSum (.lst (((upto qq.length).map λx=>((z x*(dr qq x).length:Nat):Int)).map D.int))=ZY (.v (.int ((((upto qq.length).map λx=>z x*(dr qq x).length).sum:Nat):Int))):=by
 show(lg _).map _=_;rw[aaq];have:∀l:List Int,(l.map λx=>((z x*(dr qq x).length:Nat):Int)).sum=(((l.map λx=>z x*(dr qq x).length).sum:Nat):Int):=λl=>by
  induction l with
  | nil=>rfl
  | cons x l ih=>rw[aG,bH,ih,aG,bH,jN]
 show ZY (Rv.v (.int _))=_;rw[this]
include sh ha h0 h1
theorem an8{a m:Nat}(hm:1<=m)(hf:a+m<=77760)(hd:∀i j,i < j->j < a+m->run qq as k i≠run qq as k j)(e:run qq as k (a+m)=run qq as k a) :
  aaw [.val (hD qq),.val (.tup (as.map D.int)),.val (.int k)]=ZY (.ok (.v (.tup [.int (a:Int),.int (m:Int)])),[.val (hD qq),.val (.tup (as.map D.int)),.val (.int k)]):=by
 have ga:=a3l hm e h sh ha h0 h1 (aM a);obtain⟨b1,b2,b3⟩:=srun h sh ha h0 h1 a;have e0:=aj0 h sh ha h0 h1;have e1:=anq h sh ha h0 h1 ga (λt ht=>av9 hm e h sh ha h0 h1 hd ht) (by omega)
 obtain⟨e2,_⟩:=j7 h ⟨b2,b3⟩;have e3:=arp h sh b1 b2 b3 ga.back;have rm:=axv h sh b1 b2 b3 ga.back hm (by rw[afh];exact e) (λr r0 r1 z=>hd a (a+r) (by omega) (by omega) (by rw[afh] at z;exact z.symm)) ga
 have hz:∀x,zN qq (run qq as k a).2 x<=60466176:=λx=>by
  by_cases q:x∈dq qq (run qq as k a).2
  ·have:=(aro h sh b2 b3 ga.back x q).2.1;unfold zN;omega
  ·have e0:zC qq (dq qq (run qq as k a).2) x=0:=if_neg q;unfold zN;rw[e0];exact fG _
 obtain⟨q1,q2,e4⟩:=axm h (zN qq (run qq as k a).2) hz;have e5:=axl h (zN qq (run qq as k a).2);rw[<-rm.2] at e5;have hmo:=h.most;have hc:(((upto qq.length).map λx=>((zN qq (run qq as k a).2 x*(dr qq x).length:Nat):Int)).map D.int).length<=capS:=by rw[aK,aK];exact cg (by simp[upto];omega)
 have hlz:(((upto qq.length).map λx=>((zN qq (run qq as k a).2 x:Nat):Int)).map D.int).length<=(hDs qq).length:=by rw[zz];simp[upto]
 generalize (((upto qq.length).map λx=>((zN qq (run qq as k a).2 x*(dr qq x).length:Nat):Int)).map D.int)=SS at *
 generalize (((upto qq.length).map λx=>((zN qq (run qq as k a).2 x:Nat):Int)).map D.int)=TT at *
 generalize (dq qq (run qq as k a).2).map D.int=CC at *;generalize as.map D.int=AA at *;generalize (run qq as k a).1.map D.int=BB at *;generalize (run qq as k a).2=pp at *
 clear hz rm
 simp only[hD] at *;generalize hDs qq=hh at *;have eg:af0 j6 [ZX,ZY 1,ZY 2] (bc (mVar 0) (bu 1 (bu 2 fj))) [.val (.tup hh),.val (.tup AA),.val (.int k),.emp,.emp,.emp]=ZY ((bxS 1000 (.tup hh) pp (a:Int),BB),[.val (.tup hh),.val (.tup AA),.val (.int k),.emp,.emp,.emp]):=by
  simp[af0,ay5,e1]
 simp[aaw,ajb,e0,dGot,eg,tagB,an6,sq_p,sq_s,e2,e3,e4,e5,hc,hlz,offs]
end
@[simp] theorem a0r(d:D):wg [.val d]=ZY (.ok (.v (.bl (air d))),[.val d]):=by
 cases d <;> simp[wg,af2,isTy,air]
theorem amc{l:List Int}(hl:l.length<=1000):qj [.val (.tup (l.map D.int)),.val (.tup (l.map D.int))]=ZY (.ok (.v (.bl ZW)),[.val (.tup (l.map D.int)),.val (.tup (l.map D.int))]):=by
 have e1:gEq ZW (.tup (l.map D.int)) (.tup (l.map D.int))=ZY (.v (.bl ZV)):=by rw[azf];simp
 have e4:compD (bj 0) (ret ZW) abd (l.map D.int) [] [.emp]=ZY (.ok (l.map λ_=>.bl ZW),aap .emp (l.map D.int)::[]):=by
  rw[uf (f:=λ_=>.bl ZW)]
  ·simp
  ·intro d hd;obtain⟨k,_,rfl⟩:=bJ.mp hd;simp[abd,air]
 have hc:l.length<=capS:=cg hl;simp[qj,af3,isTy,e1,e4,hc,nW]
section
variable{qq:LL9}(h:Hs qq)(sh:Sh qq){as:List Int}(ha:Arr qq as){k:Int}(h0:0<=k)(h1:k < (qq.length:Int))(h5:qq.length<=5)
include h sh ha h0 h1 h5
theorem apy:ju [.val (hD qq),.val (.tup (as.map D.int)),.val (.int k)]=ZY (.ok (.v (.bl ZW)),[.val (hD qq),.val (.tup (as.map D.int)),.val (.int k)]):=by
 obtain⟨a,m,hm,hf,hd,e,er⟩:=amd h sh ha h0 h1 h5;have e1:=an8 h sh ha h0 h1 hm hf hd e;have e2:qj [.val (.tup [.int (a:Int),.int (m:Int)]),.val (.tup [.int (a:Int),.int (m:Int)])]=ZY (.ok (.v (.bl ZW)),[.val (.tup [.int (a:Int),.int (m:Int)]),.val (.tup [.int (a:Int),.int (m:Int)])]):=amc (l:=[(a:Int),(m:Int)]) (by simp)
 generalize stD qq as k (a+m)=SS at *;generalize (run qq as k (a+m)).1.map D.int=RR at *;generalize (run qq as k (a+m)).2=pp at *;generalize as.map D.int=AA at *;generalize hD qq=hh at *;generalize (a:Int)=x at *;generalize (m:Int)=y at *;have turn:∀q:Sl,aba [.val hh,.val (.tup AA),.val (.int k),.val (.int x),.val (.int y),.val (.lst SS),q]=ZY (.nx,[.val hh,.val (.tup AA),.val (.int k),.val (.int x),.val (.int y),.val (.lst SS),q]):=λq=>by
  simp[aba,e1,e2]
 have r2:qb [.int 2]=ZY [.int 0,.int 1]:=by kernel_rfl
 simp[ju,af4,er,r2,oh,turn]
end
theorem bbn(S C P:Sl){qq:LL9}(h:Hs qq)(h5:qq.length<=5)(sh:Sh qq){as:List Int}(ha:Arr qq as){k:Int}(h0:0<=k)(h1:k < (qq.length:Int)) :
  aqh [S,C,P,.val (hD qq),.val (.tup (as.map D.int)),.val (.int k)]=ZY (.nx,[S,C,P,.val (hD qq),.val (.tup (as.map D.int)),.val (.int k)]):=by
 have e:=apy h sh ha h0 h1 h5;generalize as.map D.int=AA at *;generalize hD qq=hh at *;simp[aqh,e]
theorem a7x(S C P:Sl){qq:LL9}(h:Hs qq)(h5:qq.length<=5)(sh:Sh qq){as:List Int}(ha:Arr qq as):∀(ks:List Int) (o5:Sl),(∀k∈ks,0<=k/\k < (qq.length:Int)) ->
  ∃q5,forD (bj 5) aqh (ks.map D.int) [S,C,P,.val (hD qq),.val (.tup (as.map D.int)),o5]=ZY (.nx,[S,C,P,.val (hD qq),.val (.tup (as.map D.int)),q5])
 | [],o5,_=>⟨_,rfl⟩
 | k::ks,o5,hk=>by
  obtain⟨k0,k1⟩:=hk k (aF ..);have e1:=bbn S C P h h5 sh ha k0 k1;obtain⟨q5,e2⟩:=a7x S C P h h5 sh ha ks (.val (.int k)) λx hx=>hk x (aA _ hx)
  refine⟨q5,?_⟩;rw[aG,oh];simp only[agi,iG,iD];rw[e1];exact e2
theorem bbm(S:D)(n:Int)(a2 a3 a4 a5:Sl):∃b2 b3 b4 b5,l2_law [.val S,.val (.int n),a2,a3,a4,a5]=ZY (.nx,[.val S,.val (.int n),b2,b3,b4,b5]):=by
 obtain⟨P,e0⟩:=ax1 n;obtain⟨r,P1,e1,r0,r1⟩:=aaz P 3 (by decide) (by decide)
 have ei:∃m:Int,atI [D.int 3,.int 4,.int 5] r=ZY (.int m)/\1<=m/\m<=5:=by
  have:r=0∨r=1∨r=2:=by omega
  rcases this with rfl | rfl | rfl
  ·exact⟨3,rfl,by decide,by decide⟩
  ·exact⟨4,rfl,by decide,by decide⟩
  ·exact⟨5,rfl,by decide,by decide⟩
 obtain⟨m,em,m1,m2⟩:=ei;obtain⟨qq,P2,e2,hk⟩:=atw P1 m 3 m1 (by omega) (by decide) (by decide)
 have h:Hs qq:=hk.hs (by omega) (by decide)
 have h5:qq.length<=5:=by have:=hk.most;omega
 obtain⟨as,P3,e3,ha⟩:=apc P2 h;obtain⟨q5,e4⟩:=a7x (.val S) (.val (.int n)) (.own ZX (pen P3)) h h5 hk.sh ha (upto qq.length) a5 λx hx=>vf hx
 rw[<-agz] at e4;obtain⟨L,hL,eL⟩:=a0p h;refine⟨.own ZX (pen P3),.val (hD qq),.val (.tup (as.map D.int)),q5,?_⟩;generalize as.map D.int=la at *;generalize rangeD 0 qq.length=RR at *;simp only[hD] at *;generalize hDs qq=hh at *;simp[l2_law,e0,e1,em,e2,e3,hL,eL,e4]
theorem loop2(S:D):∀(ns:List Int) (q a2 a3 a4 a5:Sl),∃ρ,forD (bj 1) l2_law (ns.map D.int) [.val S,q,a2,a3,a4,a5]=ZY (.nx,.val S::ρ)
 | [],q,a2,a3,a4,a5=>⟨_,rfl⟩
 | n::r,q,a2,a3,a4,a5=>by
  obtain⟨b2,b3,b4,b5,z⟩:=bbm S n a2 a3 a4 a5;obtain⟨ρ,z2⟩:=loop2 S r (.val (.int n)) b2 b3 b4 b5;exact⟨ρ,by rw[aG,oh];simp[z,z2]⟩
theorem right_of{d e:D}{k:Int}(qq:LL9)(as:List Int)(e1:hD qq=d)(e2:D.tup (as.map D.int)=e)(h:Hs qq)(sh:Sh qq)(ha:Arr qq as)(h0:0<=k)(h1:k < (qq.length:Int))(h5:qq.length<=5):ju [.val d,.val e,.val (.int k)]=ZY (.ok (.v (.bl ZW)),[.val d,.val e,.val (.int k)]):=by
 subst e1 e2;exact apy h sh ha h0 h1 h5
theorem a4u{r:List Int}{a:Int}(h0:0<=a)(h1:a < (r.length:Int)):Arr [r] [a]:=⟨rfl,λi x q g1 g2=>by
 cases i with
 | zero=>simp at g1 g2;subst g1 g2;exact⟨h0,h1⟩
 | succ i=>simp at g1⟩
theorem a4t:Arr [[0,1],[1]] [0,0]:=⟨rfl,λi x q g1 g2=>by
 match i,g1,g2 with
 | 0,g1,g2=>simp at g1 g2;subst g1 g2;exact⟨by decide,by decide⟩
 | 1,g1,g2=>simp at g1 g2;subst g1 g2;exact⟨by decide,by decide⟩
 | i+2,g1,_=>simp at g1⟩
theorem ayx:apg av4:=λns hn=>by
 obtain⟨n0,e0⟩:=awp ns 0 (by decide)
 obtain⟨ms,em,hm⟩:=awk ns (ZY 1) (ZY 3);have hc:1+ms.length<=capS:=cg (by omega)
 have r1:=right_of (d:=.tup [.tup [.int 0]]) (e:=.tup [.int 0]) (k:=0) [[0]] [0] rfl rfl ⟨by decide,by decide,by decide⟩ (by unfold Sh;decide) (a4u (by decide) (by decide)) (by decide) (by decide) (by decide)
 have r2:=right_of (d:=.tup [.tup [.int 0,.int 1],.tup [.int 1]]) (e:=.tup [.int 0,.int 0]) (k:=0) [[0,1],[1]] [0,0] rfl rfl ⟨by decide,by decide,by decide⟩ (by unfold Sh;decide) a4t (by decide) (by decide) (by decide)
 obtain⟨ρ,q⟩:=loop2 (.kst (ns.map D.int)) (n0::ms) .emp .emp .emp .emp .emp;simp only[aG] at q;simp[av4,a8g,r1,r2,e0,em,hc,q]
end My
set_option maxHeartbeats 0
namespace My
open PySem L2 Mn Dn
noncomputable def top(i:Nat):gU:=PySem.Challenge.pw_turnarrows_k25_rounds_walked.main.body.getD i (.Pass ⟨0,0,0,0⟩)
abbrev afe:gU:=top 6
theorem an3:FnScope ["thing"] ["thing"] (aa afe):=mkSc rfl rfl rfl rfl (by decide +kernel)
abbrev uv:gU:=top 7
theorem ad5:FnScope ["thing","least","most"] ["thing","least","most"] (aa uv):=mkSc rfl rfl rfl rfl (by decide +kernel)
abbrev uw:gU:=top 8
theorem ad6:FnScope ["thing","least","most"] ["thing","least","most"] (aa uw):=mkSc rfl rfl rfl rfl (by decide +kernel)
abbrev wz:gU:=top 10
theorem afa:FnScope ["house","thing"] ["house","thing"] (aa wz):=mkSc rfl rfl rfl rfl (by decide +kernel)
abbrev wy:gU:=top 11
theorem ae9:FnScope ["house","thing"] ["house","thing"] (aa wy):=mkSc rfl rfl rfl rfl (by decide +kernel)
abbrev agv:gU:=top 12
theorem yg:FnScope ["house","room","met","looked_at","doors","door"] ["house","room"] (aa agv):=mkSc rfl rfl rfl rfl (by decide +kernel)
abbrev agu:gU:=top 13
theorem ar6:FnScope ["house"] ["house"] (aa agu):=mkSc rfl rfl rfl rfl (by decide +kernel)
abbrev ur:gU:=top 14
theorem ad3:FnScope ["house"] ["house"] (aa ur):=mkSc rfl rfl rfl rfl (by decide +kernel)
abbrev ade:gU:=top 16
theorem aln:FnScope ["house","thing"] ["house","thing"] (aa ade):=mkSc rfl rfl rfl rfl (by decide +kernel)
abbrev sr:gU:=top 17
theorem ada:FnScope ["house","thing"] ["house","thing"] (aa sr):=mkSc rfl rfl rfl rfl (by decide +kernel)
abbrev adc:gU:=top 18
theorem alm:FnScope ["house","arrows"] ["house","arrows"] (aa adc):=mkSc rfl rfl rfl rfl (by decide +kernel)
abbrev aa3:gU:=top 19
theorem nu:FnScope ["last","rooms","staying","many"] ["last","rooms"] (aa aa3):=mkSc rfl rfl rfl rfl (by decide +kernel)
abbrev an4:gU:=top 21
theorem axs:FnScope ["rows","chosen"] ["rows","chosen"] (aa an4):=mkSc rfl rfl rfl rfl (by decide +kernel)
abbrev afb:gU:=top 22
theorem agr:FnScope ["rows","at","number"] ["rows","at"] (aa afb):=mkSc rfl rfl rfl rfl (by decide +kernel)
abbrev agt:gU:=top 23
theorem aiz:FnScope ["rows","one","other","told"] ["rows","one","other"] (aa agt):=mkSc rfl rfl rfl rfl (by decide +kernel)
abbrev agw:gU:=top 24
theorem aaj:FnScope ["rows","at","bottom","head","told","number","row"] ["rows","at","bottom"] (aa agw):=mkSc rfl rfl rfl rfl (by decide +kernel)
abbrev aj4:gU:=top 25
theorem vo:FnScope ["rows","right","work","bottom","at","found"] ["rows","right"] (aa aj4):=mkSc rfl rfl rfl rfl (by decide +kernel)
abbrev aa4:gU:=top 26
theorem ac4:FnScope ["rows","told"] ["rows"] (aa aa4):=mkSc rfl rfl rfl rfl (by decide +kernel)
abbrev xf:gU:=top 27
theorem gq:FnScope ["numbers","told","number","other","over"] ["numbers"] (aa xf):=mkSc rfl rfl rfl rfl (by decide +kernel)
abbrev zx:gU:=top 28
theorem km:FnScope ["house","rows","room","doors","row"] ["house"] (aa zx):=mkSc rfl rfl rfl rfl (by decide +kernel)
abbrev adb:gU:=top 30
theorem qd:FnScope ["last","room","place","turn","ring","least"] ["last","room"] (aa adb):=mkSc rfl rfl rfl rfl (by decide +kernel)
abbrev afd:gU:=top 31
theorem aa0:FnScope ["last","rooms","rings","room","ring"] ["last","rooms"] (aa afd):=mkSc rfl rfl rfl rfl (by decide +kernel)
abbrev ut:gU:=top 33
theorem ad4:FnScope ["house","arrows","room"] ["house","arrows","room"] (aa ut):=mkSc rfl rfl rfl rfl (by decide +kernel)
abbrev an5:gU:=top 34
theorem apu:FnScope ["house","turning","room","door"] ["house","turning","room"] (aa an5):=mkSc rfl rfl rfl rfl (by decide +kernel)
abbrev j8:gU:=top 36
theorem aa1:FnScope ["house","arrows","room"] ["house","arrows","room"] (aa j8):=mkSc rfl rfl rfl rfl (by decide +kernel)
abbrev adf:gU:=top 38
theorem alo:FnScope ["house","room"] ["house","room"] (aa adf):=mkSc rfl rfl rfl rfl (by decide +kernel)
abbrev zu:gU:=top 39
theorem abp:FnScope ["house","arrows","room","ring"] ["house","arrows","room"] (aa zu):=mkSc rfl rfl rfl rfl (by decide +kernel)
abbrev pq:gU:=top 40
theorem xq:FnScope ["house","arrows","room","stroll","stroll.turning"] ["house","arrows","room"] (aa pq):=mkSc rfl rfl rfl rfl (by decide +kernel)
abbrev zr:gU:=top 41
theorem qz:FnScope ["house","arrows","room","stroll","ring","stroll.turning"] ["house","arrows","room"] (aa zr):=mkSc rfl rfl rfl rfl (by decide +kernel)
abbrev aa2:gU:=top 42
theorem jh:FnScope ["house","rooms","rows","trees","divisor","turns","room","many"] ["house","rooms"] (aa aa2):=mkSc rfl rfl rfl rfl (by decide +kernel)
abbrev afc:gU:=top 43
theorem ac9:FnScope ["house","arrows","room","stroll","turns","stroll.turning"] ["house","arrows","room"] (aa afc):=mkSc rfl rfl rfl rfl (by decide +kernel)
abbrev adk:gU:=top 45
theorem alp:FnScope ["script","k"] ["script","k"] (aa adk):=mkSc rfl rfl rfl rfl (by decide +kernel)
abbrev afg:gU:=top 46
theorem ags:FnScope ["cell","left"] ["cell"] (aa afg):=mkSc rfl rfl rfl rfl (by decide +kernel)
abbrev adi:gU:=top 47
theorem vp:FnScope ["pen","many","left","found","stir"] ["pen","many"] (aa adi):=mkSc rfl rfl rfl rfl (by decide +kernel)
abbrev abr:gU:=top 48
theorem aj2:FnScope ["thing"] ["thing"] (aa abr):=mkSc rfl rfl rfl rfl (by decide +kernel)
abbrev adg:gU:=top 49
theorem qe:FnScope ["pen","most","doors","many","house","room","wide","some"] ["pen","most","doors"] (aa adg):=mkSc rfl rfl rfl rfl (by decide +kernel)
abbrev aa5:gU:=top 50
theorem aig:FnScope ["pen","house"] ["pen","house"] (aa aa5):=mkSc rfl rfl rfl rfl (by decide +kernel)
abbrev adh:gU:=top 51
theorem abq:FnScope ["house","arrows","room","door","later"] ["house","arrows","room"] (aa adh):=mkSc rfl rfl rfl rfl (by decide +kernel)
abbrev abt:gU:=top 52
theorem aj3:FnScope ["found","due"] ["found","due"] (aa abt):=mkSc rfl rfl rfl rfl (by decide +kernel)
abbrev abu:gU:=top 53
theorem ad7:FnScope ["house","arrows","room","seen","states","ahead"] ["house","arrows","room"] (aa abu):=mkSc rfl rfl rfl rfl (by decide +kernel)
abbrev abv:gU:=top 54
theorem rn:FnScope ["house","arrows","room","ahead","many","states","turn"] ["house","arrows","room"] (aa abv):=mkSc rfl rfl rfl rfl (by decide +kernel)
abbrev aj5:gU:=top 55
theorem ai0:FnScope ["script","cell","pen","house","arrows","room"] ["script"] (aa aj5):=mkSc rfl rfl rfl rfl (by decide +kernel)
abbrev lq:gU:=a05 (top 37) 0
theorem aih:FnScope ["self","house","arrows","room"] ["self","house","arrows","room"] (aa lq):=mkSc rfl rfl rfl rfl (by decide +kernel)
abbrev gr:gU:=a05 (top 37) 1
theorem ac0:FnScope ["self","rooms","self.turning"] ["self","rooms"] (aa gr):=mkSc rfl rfl rfl rfl (by decide +kernel)
theorem lnS{k:Nat}{us:List aH}(h:us.length=k+1):∃a r,us=a::r/\r.length=k:=by
 cases us with
 | nil=>cases h
 | cons a r=>exact⟨a,r,rfl,Nat.succ.inj h⟩
theorem ln1{us:List aH}(h:us.length=1):∃a0,us=[a0]:=by
 obtain⟨a,r,rfl,h'⟩:=lnS h;cases List.eq_nil_of_length_eq_zero h';exact⟨a,rfl⟩
theorem ln2{us:List aH}(h:us.length=2):∃a0 a1,us=[a0,a1]:=by
 obtain⟨a,r,rfl,h'⟩:=lnS h;obtain⟨_,rfl⟩:=ln1 h';exact⟨_,_,rfl⟩
theorem ln3{us:List aH}(h:us.length=3):∃a0 a1 a2,us=[a0,a1,a2]:=by
 obtain⟨a,r,rfl,h'⟩:=lnS h;obtain⟨_,_,rfl⟩:=ln2 h';exact⟨_,_,_,rfl⟩
theorem ln4{us:List aH}(h:us.length=4):∃a0 a1 a2 a3,us=[a0,a1,a2,a3]:=by
 obtain⟨a,r,rfl,h'⟩:=lnS h;obtain⟨_,_,_,rfl⟩:=ln3 h';exact⟨_,_,_,_,rfl⟩
structure Txt (K:Fg9) (mg:Str->Option aH):Prop where
 z_abs:mg "abs" = ZX
 z_all:mg "all" = ZX
 z_bool:mg "bool" = ZX
 z_divmod:mg "divmod" = ZX
 z_enumerate:mg "enumerate" = ZX
 z_int:mg "int" = ZX
 z_isinstance:mg "isinstance" = ZX
 z_len:mg "len" = ZX
 z_list:mg "list" = ZX
 z_max:mg "max" = ZX
 z_min:mg "min" = ZX
 z_range:mg "range" = ZX
 z_sorted:mg "sorted" = ZX
 z_sum:mg "sum" = ZX
 z_tuple:mg "tuple" = ZX
 z_zip:mg "zip" = ZX
 f_Stroll_house:FldT K "Stroll" "house"
 f_Stroll_turning:FldT K "Stroll" "turning"
 f_Stroll_place:FldT K "Stroll" "place"
 f_Stroll_steps:FldT K "Stroll" "steps"
section
variable(P:cG)(w:dZ)(K:Fg9)(mg:Str->Option aH)(base:fH)
abbrev Dd0:Prop:=Dfn P w K mg base "is_whole" ["thing"] 1 (spOf K 1 aay)
abbrev Dd1:Prop:=Dfn P w K mg base "is_whole_within" ["thing","least","most"] 2 (spOf K 3 jb)
abbrev Dd3:Prop:=Dfn P w K mg base "is_room_number" ["house","thing"] 3 (spOf K 2 j4)
abbrev Dd4:Prop:=Dfn P w K mg base "refuse_no_room" ["house","thing"] 4 (spOf K 2 gk)
abbrev Dd6:Prop:=Dfn P w K mg base "is_shut" ["house"] 1 (spOf K 1 ab6)
abbrev Dd2:Prop:=Dfn P w K mg base "is_tuple_within" ["thing","least","most"] 1 (spOf K 3 jt)
abbrev Dd8:Prop:=Dfn P w K mg base "is_arrows" ["house","thing"] 3 (spOf K 2 yq)
abbrev Dd13:Prop:=Dfn P w K mg base "row_with" ["rows","at"] 1 (spOf K 2 aav)
abbrev Dd14:Prop:=Dfn P w K mg base "swapped" ["rows","one","other"] 1 (spOf K 3 ab5)
abbrev Dd15:Prop:=Dfn P w K mg base "cleared" ["rows","at","bottom"] 1 (spOf K 3 ab7)
abbrev Dd16:Prop:=Dfn P w K mg base "solved" ["rows","right"] 2 (spOf K 2 aes)
abbrev Dd11:Prop:=Dfn P w K mg base "going_round" ["last","rooms"] 1 (spOf K 2 uc)
abbrev Dd20:Prop:=Dfn P w K mg base "ring_from" ["last","room"] 1 (spOf K 2 uz)
abbrev Dd9:Prop:=Dfn P w K mg base "refuse_no_arrows" ["house","thing"] 4 (spOf K 2 jf)
abbrev Dd22:Prop:=Dfn P w K mg base "refuse_no_state" ["house","arrows","room"] 5 (spOf K 3 jr)
abbrev Dd7:Prop:=Dfn P w K mg base "refuse_not_shut" ["house"] 2 (spOf K 1 jq)
abbrev Dd5:Prop:=Dfn P w K mg base "come_to" ["house","room"] 5 (spOf K 2 ud)
abbrev Dd10:Prop:=Dfn P w K mg base "last_ways" ["house","arrows"] 1 (spOf K 2 yp)
abbrev Dd21:Prop:=Dfn P w K mg base "rings_of" ["last","rooms"] 2 (spOf K 2 aax)
abbrev Dd23:Prop:=Dfn P w K mg base "leave" ["house","turning","room"] 1 (spOf K 3 adu)
abbrev Dd25:Prop:=Dfn P w K mg base "gone_from" ["house","room"] 6 (spOf K 2 yt)
abbrev Dd26:Prop:=Dfn P w K mg base "ring_without" ["house","arrows","room"] 6 (spOf K 3 ig)
abbrev Dd19:Prop:=Dfn P w K mg base "doors_square" ["house"] 1 (spOf K 1 ou)
abbrev Dd12:Prop:=Dfn P w K mg base "minor" ["rows","chosen"] 1 (spOf K 2 ahz)
abbrev Dd17:Prop:=Dfn P w K mg base "determinant" ["rows"] 3 (spOf K 1 jz)
abbrev Dd18:Prop:=Dfn P w K mg base "common_divisor" ["numbers"] 1 (spOf K 1 j5)
abbrev Dd24:Prop:=Dfn P w K mg base "refuse_no_shut_state" ["house","arrows","room"] 6 (spOf K 3 gm)
abbrev Dd29:Prop:=Dfn P w K mg base "turns_among" ["house","rooms"] 4 (spOf K 2 lu)
abbrev Dd33:Prop:=Dfn P w K mg base "_law_draw" ["pen","many"] 1 (spOf K 2 f__law_draw)
abbrev Dd34:Prop:=Dfn P w K mg base "_law_whole" ["thing"] 1 (spOf K 1 wg)
abbrev Dd37:Prop:=Dfn P w K mg base "_law_left" ["house","arrows","room"] 1 (spOf K 3 u5)
abbrev Dd39:Prop:=Dfn P w K mg base "_law_round" ["house","arrows","room"] 2 (spOf K 3 wj)
abbrev Dd30:Prop:=Dfn P w K mg base "round_of" ["house","arrows","room"] 9 (spOf K 3 aaw)
abbrev Dd38:Prop:=Dfn P w K mg base "_law_tuple" ["found","due"] 2 (spOf K 2 qj)
abbrev Dd40:Prop:=Dfn P w K mg base "_law_right" ["house","arrows","room"] 10 (spOf K 3 ju)
abbrev Dd31:Prop:=Dfn P w K mg base "_law_cell" ["script","k"] 1 (spOf K 2 f__law_cell)
abbrev Dd32:Prop:=Dfn P w K mg base "_law_pen" ["cell"] 1 (spOf K 1 f__law_pen)
abbrev Dd35:Prop:=Dfn P w K mg base "_law_shut" ["pen","most","doors"] 2 (spOf K 3 f__law_shut)
abbrev Dd36:Prop:=Dfn P w K mg base "_law_arrows" ["pen","house"] 2 (spOf K 2 f__law_arrows)
end
section
variable{P:cG}{w:dZ}{K:Fg9}{mg:Str->Option aH}{base:fH}{f:aY}{fd:gB}
theorem aok(F:Fun K "is_whole" "is_whole" afe f fd)(T:Txt K mg):FnOk P w K mg base CX0 1 f fd ["thing"] (spOf K 1 aay) :=
 f9 F an3 rfl rfl λcdv A outer s H E hr =>
  (aq (du (EV.toR (aq2 (ajg (t:=.int) (ar9 (by rfl) T.z_int aw0) (by rfl) T.z_isinstance lw (dg (pv 0))) (aqz (a01 (ajg (t:=.bool) (ar9 (by rfl) T.z_bool aw2) (by rfl) T.z_isinstance lw (dg (pv 0)))))))))
theorem aef(F:Fun K "is_whole_within" "is_whole_within" uv f fd)(T:Txt K mg)(d0:Dd0 P w K mg base):FnOk P w K mg base CX0 2 f fd ["thing","least","most"] (spOf K 3 jb) :=
 f9 F ad5 rfl rfl λcdv A outer s H E hr =>
  (aq (du (EV.toR (aq2 (ER.toD (ik d0 (hr.mono (by decide)) (by rfl) (eg_n (pv 0) cu))) (aqz (aq1 aye aye (ao (pv 1)) (ao (pv 0)) (ao (pv 2))))))))
theorem aeg(F:Fun K "is_tuple_within" "is_tuple_within" uw f fd)(T:Txt K mg):FnOk P w K mg base CX0 1 f fd ["thing","least","most"] (spOf K 3 jt) :=
 f9 F ad6 rfl rfl λcdv A outer s H E hr =>
  (aq (du (EV.toR (aq2 (ajg (t:=.tuple) (ar9 (by rfl) T.z_tuple vm) (by rfl) T.z_isinstance lw (dg (pv 0))) (aqz (aq1 aye aye (ao (pv 1)) (ER.toD (b8 jw (by rfl) T.z_len jx (ea_n (pv 0) dh))) (ao (pv 2))))))))
theorem afk(F:Fun K "is_room_number" "is_room_number" wz f fd)(T:Txt K mg)(d1:Dd1 P w K mg base):FnOk P w K mg base CX0 3 f fd ["house","thing"] (spOf K 2 j4) :=
 f9 F afa rfl rfl λcdv A outer s H E hr =>
  (aq (du (ik d1 (hr.mono (by decide)) (by rfl) (eg_v (ao (pv 1)) (eg_v bh (eg_v (ER.toD (gf afi (e2_v (ER.toD (b8 jw (by rfl) T.z_len jx (ea_n (pv 0) dh))) (EV.toB bh)))) cu))))))
theorem afj(F:Fun K "refuse_no_room" "refuse_no_room" wy f fd)(T:Txt K mg)(d3:Dd3 P w K mg base):FnOk P w K mg base CX0 4 f fd ["house","thing"] (spOf K 2 gk) :=
 f9 F ae9 rfl rfl λcdv A outer s H E hr =>
  (aq (abl (aeu (aet (ER.toD (ik d3 (hr.mono (by decide)) (by rfl) (eg_n (pv 0) (eg_v (ao (pv 1)) cu)))))) (aq ajt) kj))
theorem ase(F:Fun K "come_to" "come_to" agv f fd)(T:Txt K mg)(d4:Dd4 P w K mg base):FnOk P w K mg base CX0 5 f fd ["house","room"] (spOf K 2 ud) :=
 f9 F yg rfl rfl λcdv A outer s H E hr =>
  (ak (uo (ik d4 (hr.mono (by decide)) (by rfl) (eg_n (pv 0) (eg_v (ao (pv 1)) cu)))) (ak (dz (i:=2) yg.nd rfl (bU rfl) (zm (au (ao (pv 1)) cj))) (ak (dz (i:=3) yg.nd rfl (bU rfl) (EV.toR bh)) (ak (af9 fuel cH (ql auq (e2_n (pv 3) (EV.toB (ER.toD (b8 jw (by rfl) T.z_len jx (ea_n (pv 2) dh))))) (xu _)) (ak (dz (i:=4) yg.nd rfl (bU rfl) (kh (e2_n (pv 0) (EV.toB (ER.toD (kh (e2_n (pv 2) (dg (pv 3))) (λ_ _=>by rfl))))) (λ_ _=>by rfl))) (ak (za cH rfl (vy (ao (pv 4))) (bw (i:=5) yg.nd rfl (bU rfl)) (aq (abl (EW.pt (a8p (ql aur (e2_n (pv 5) (EV.toB bh)) (xu _)) (a4b (ql (abz hr.units) (e2_n (pv 5) (dg (pv 2))) (by with_unfolding_all rfl))))) (aq (uo (EV.toR (af5 qg dY PySem.F.type_list_append sy (pv 2) (au (ao (pv 5)) cj))))) kj))) (aq (a5r (i:=3) yg.nd rfl (bU rfl) bh a0w))))) (aq (du (ir zq (by rfl) T.z_tuple vm (ea_v (ER.toD (b8 ajk (by rfl) T.z_sorted am7 (ea_n (pv 2) dh))) dh))))))))
theorem asd(F:Fun K "is_shut" "is_shut" agu f fd)(T:Txt K mg):FnOk P w K mg base CX0 1 f fd ["house"] (spOf K 1 ab6) :=
 f9 F ar6 rfl rfl λcdv A outer s H E hr =>
  (aq (du (b8 (awu rfl) (by rfl) T.z_all aw3 (ea_v (ER.toD (ue [] ["doors"] [ZX] rfl (vy (ao (pv 0))) (λ_ _ _=>(bw (i:=0) (show(["doors"]:List Str).Nodup by decide +kernel) rfl (bU rfl))) (λ_ _ _=>mz) (λ_ _ _=>(ER.toD (a03 aur (e2_v (ER.toD (b8 (awr rfl) (by rfl) T.z_min a07 (ea_n (pv 0) dh))) (EV.toB bh)) (xu _)))))) dh))))
theorem aed(F:Fun K "refuse_not_shut" "refuse_not_shut" ur f fd)(T:Txt K mg)(d6:Dd6 P w K mg base):FnOk P w K mg base CX0 2 f fd ["house"] (spOf K 1 jq) :=
 f9 F ad3 rfl rfl λcdv A outer s H E hr =>
  (aq (abl (aeu (aet (ER.toD (ik d6 (hr.mono (by decide)) (by rfl) (eg_v (ao (pv 0)) cu))))) (aq ajt) kj))
theorem al1(F:Fun K "is_arrows" "is_arrows" ade f fd)(T:Txt K mg)(d2:Dd2 P w K mg base)(d1:Dd1 P w K mg base):FnOk P w K mg base CX0 3 f fd ["house","thing"] (spOf K 2 yq) :=
 f9 F aln rfl rfl λcdv A outer s H E hr =>
  (ak (abl (aeu (aet (ER.toD (ik d2 (hr.mono (by decide)) (by rfl) (eg_n (pv 1) (eg_v (ER.toD (b8 jw (by rfl) T.z_len jx (ea_n (pv 0) dh))) (eg_v (ER.toD (b8 jw (by rfl) T.z_len jx (ea_n (pv 0) dh))) cu))))))) (aq (du (EV.toR ao3))) kj) (aq (du (b8 (awu rfl) (by rfl) T.z_all aw3 (ea_v (ER.toD (ue [] ["arrow","doors"] [ZX,ZX] rfl (afp (by rfl) T.z_zip (au (ao (pv 1)) (au (ao (pv 0)) cj))) (λ_ _ _=>(ac6 rfl (ie (bw (i:=0) (show(["arrow","doors"]:List Str).Nodup by decide +kernel) rfl (bU rfl)) (ie (bw (i:=1) (show(["arrow","doors"]:List Str).Nodup by decide +kernel) rfl (bU rfl)) aaa)))) (λ_ _ _=>mz) (λ_ _ _=>(ER.toD (ik d1 (hr.mono (by decide)) (by rfl) (eg_n (pv 0) (eg_v bh (eg_v (ER.toD (gf afi (e2_v (ER.toD (b8 jw (by rfl) T.z_len jx (ea_n (pv 1) dh))) (EV.toB bh)))) cu)))))))) dh)))))
theorem adm(F:Fun K "refuse_no_arrows" "refuse_no_arrows" sr f fd)(T:Txt K mg)(d8:Dd8 P w K mg base):FnOk P w K mg base CX0 4 f fd ["house","thing"] (spOf K 2 jf) :=
 f9 F ada rfl rfl λcdv A outer s H E hr =>
  (aq (abl (aeu (aet (ER.toD (ik d8 (hr.mono (by decide)) (by rfl) (eg_v (ao (pv 0)) (eg_v (ao (pv 1)) cu)))))) (aq ajt) kj))
theorem al0(F:Fun K "last_ways" "last_ways" adc f fd)(T:Txt K mg):FnOk P w K mg base CX0 1 f fd ["house","arrows"] (spOf K 2 yp) :=
 f9 F alm rfl rfl λcdv A outer s H E hr =>
  (aq (du (ir zq (by rfl) T.z_tuple vm (ea_v (ER.toD (ue [] ["arrow","doors"] [ZX,ZX] rfl (afp (by rfl) T.z_zip (au (ao (pv 1)) (au (ao (pv 0)) cj))) (λ_ _ _=>(ac6 rfl (ie (bw (i:=0) (show(["arrow","doors"]:List Str).Nodup by decide +kernel) rfl (bU rfl)) (ie (bw (i:=1) (show(["arrow","doors"]:List Str).Nodup by decide +kernel) rfl (bU rfl)) aaa)))) (λ_ _ _=>mz) (λ_ _ _=>(ER.toD (kh (e2_n (pv 1) (EV.toB (ER.toD (gf afi (e2_n (pv 0) (EV.toB bh)))))) (λ_ _=>by rfl)))))) dh))))
theorem ail(F:Fun K "going_round" "going_round" aa3 f fd)(T:Txt K mg):FnOk P w K mg base CX0 1 f fd ["last","rooms"] (spOf K 2 uc) :=
 f9 F nu rfl rfl λcdv A outer s H E hr =>
  (ak (dz (i:=2) nu.nd rfl (pJ rfl) (ir adx (by rfl) T.z_list ady (ea_n (pv 1) dh))) (ak (dz (i:=3) nu.nd rfl (bU rfl) (gf xj (e2_v (ER.toD (b8 jw (by rfl) T.z_len jx (ea_n (pv 2) dh))) (EV.toB bh)))) (ak (af9 fuel cH (ql auq (e2_v (ER.toD (b8 jw (by rfl) T.z_len jx (ea_n (pv 2) dh))) (dg (pv 3))) (xu _)) (ak (dz (i:=3) nu.nd rfl (bU rfl) (b8 jw (by rfl) T.z_len jx (ea_n (pv 2) dh))) (aq (dz (i:=2) nu.nd rfl (pJ rfl) (ue ["staying","last"] ["room","staying","last"] [ZX,ZY 2,ZY 0] rfl (vy (ao (pv 2))) (λ_ _ _=>(bw (i:=0) (show(["room","staying","last"]:List Str).Nodup by decide +kernel) rfl (bU rfl))) (λ_ _ _=>(ak5 (ql (a66 hr.units) (e2_v (ER.toD (kh (e2_n (pv 2) (dg (pv 0))) (λ_ _=>by rfl))) (dg (pv 1))) (by with_unfolding_all rfl)))) (λ_ _ _=>(ao (pv 0)))))))) (aq (du (ab8 (pv 2)))))))
theorem ayg(F:Fun K "minor" "minor" an4 f fd)(T:Txt K mg):FnOk P w K mg base CX0 1 f fd ["rows","chosen"] (spOf K 2 ahz) :=
 f9 F axs rfl rfl λcdv A outer s H E hr =>
  (aq (du (azk "row" ["rows","chosen"] ["row","rows","chosen"] [ZX,ZY 0,ZY 1] rfl (vy (ao (pv 1))) (λ_ _ _=>(bw (i:=0) (show(["row","rows","chosen"]:List Str).Nodup by decide +kernel) rfl (pJ rfl))) (λ_ _ _=>mz) (λ_ _ _=>(ER.toD (ue ["rows","row"] ["column","rows","row"] [ZX,ZY 1,ZY 0] rfl (vy (ao (pv 2))) (λ_ _ _=>(bw (i:=0) (show(["column","rows","row"]:List Str).Nodup by decide +kernel) rfl (bU rfl))) (λ_ _ _=>mz) (λ_ _ _=>(ER.toD (kh (e2_v (ER.toD (kh (e2_n (pv 1) (dg (pv 2))) (λ_ _=>by rfl))) (dg (pv 0))) (λ_ _=>by rfl))))))))))
theorem aoh(F:Fun K "row_with" "row_with" afb f fd)(T:Txt K mg):FnOk P w K mg base CX0 1 f fd ["rows","at"] (spOf K 2 aav) :=
 f9 F agr rfl rfl λcdv A outer s H E hr =>
  (ak (za cH rfl (avh (by rfl) T.z_range (au (ao (pv 1)) (au (ER.toD (b8 jw (by rfl) T.z_len jx (ea_n (pv 0) dh))) cj))) (bw (i:=2) agr.nd rfl (bU rfl)) (aq (abl (ql (ai5 hr.units) (e2_v (ER.toD (kh (e2_v (ER.toD (kh (e2_n (pv 0) (dg (pv 2))) (λ_ _=>by rfl))) (dg (pv 1))) (λ_ _=>by rfl))) (EV.toB bh)) (xu _)) (aq (du (ab8 (pv 2)))) kj))) (aq (du (EV.toR av6))))
theorem asb(F:Fun K "swapped" "swapped" agt f fd)(T:Txt K mg):FnOk P w K mg base CX0 1 f fd ["rows","one","other"] (spOf K 3 ab5) :=
 f9 F aiz rfl rfl λcdv A outer s H E hr =>
  (ak (ajs (i:=3) [] ["row"] [ZX] aiz.nd rfl (bU rfl) rfl (vy (ao (pv 0))) (λ_ _ _=>(bw (i:=0) (show(["row"]:List Str).Nodup by decide +kernel) rfl (bU rfl))) (λ_ _ _=>mz) (λ_ _ _=>(ER.toD (ir adx (by rfl) T.z_list ady (ea_n (pv 0) dh))))) (ak (abl (ql (ai5 hr.units) (e2_n (pv 1) (dg (pv 2))) (xu _)) (ak (afx (ER.toD (ir adx (by rfl) T.z_list ady (ea_v (ER.toD (kh (e2_n (pv 0) (dg (pv 2))) (λ_ _=>by rfl))) dh))) (pv 3) (ao (pv 1))) (aq (afx (ER.toD (ue [] ["number"] [ZX] rfl (vy (ER.toD (kh (e2_n (pv 0) (dg (pv 1))) (λ_ _=>by rfl)))) (λ_ _ _=>(bw (i:=0) (show(["number"]:List Str).Nodup by decide +kernel) rfl (bU rfl))) (λ_ _ _=>mz) (λ_ _ _=>(aq0 (ao (pv 0)))))) (pv 3) (ao (pv 2))))) kj) (aq (du (ab8 (pv 3))))))
theorem asf(F:Fun K "cleared" "cleared" agw f fd)(T:Txt K mg):FnOk P w K mg base CX0 1 f fd ["rows","at","bottom"] (spOf K 3 ab7) :=
 f9 F aaj rfl rfl λcdv A outer s H E hr =>
  (ak (dz (i:=3) aaj.nd rfl (pJ rfl) (kh (e2_n (pv 0) (dg (pv 1))) (λ_ _=>by rfl))) (ak (dz (i:=4) aaj.nd rfl (bU rfl) (zm cj)) (ak (za cH rfl (avi (by rfl) T.z_enumerate (au (ao (pv 0)) cj)) (ac6 rfl (ie (bw (i:=5) aaj.nd rfl (bU rfl)) (ie (bw (i:=6) aaj.nd rfl (pJ rfl)) aaa))) (aq (abl (ql (ap6 hr.units) (e2_n (pv 5) (dg (pv 1))) (xu _)) (aq (uo (EV.toR (af5 qg dY PySem.F.type_list_append sy (pv 4) (au (ER.toD (ir adx (by rfl) T.z_list ady (ea_n (pv 3) dh))) cj))))) (aq (uo (EV.toR (af5 qg dY PySem.F.type_list_append sy (pv 4) (au (ER.toD (ue ["row","head","bottom","at"] ["own","over","row","head","bottom","at"] [ZX,ZX,ZY 6,ZY 3,ZY 2,ZY 1] rfl (afp (by rfl) T.z_zip (au (ao (pv 6)) (au (ao (pv 3)) cj))) (λ_ _ _=>(ac6 rfl (ie (bw (i:=0) (show(["own","over","row","head","bottom","at"]:List Str).Nodup by decide +kernel) rfl (bU rfl)) (ie (bw (i:=1) (show(["own","over","row","head","bottom","at"]:List Str).Nodup by decide +kernel) rfl (bU rfl)) aaa)))) (λ_ _ _=>mz) (λ_ _ _=>(ER.toD (gf aog (e2_v (ER.toD (gf afi (e2_v (ER.toD (gf ab0 (e2_v (ER.toD (kh (e2_n (pv 3) (dg (pv 5))) (λ_ _=>by rfl))) (dg (pv 0))))) (EV.toB (ER.toD (gf ab0 (e2_v (ER.toD (kh (e2_n (pv 2) (dg (pv 5))) (λ_ _=>by rfl))) (dg (pv 1))))))))) (dg (pv 4)))))))) cj)))))))) (aq (du (ab8 (pv 4)))))))
theorem aut(F:Fun K "solved" "solved" aj4 f fd)(T:Txt K mg)(d13:Dd13 P w K mg base)(d14:Dd14 P w K mg base)(d15:Dd15 P w K mg base):FnOk P w K mg base CX0 2 f fd ["rows","right"] (spOf K 2 aes) :=
 f9 F vo rfl rfl λcdv A outer s H E hr =>
  (ak (ajs (i:=2) [] ["row","number"] [ZX,ZX] vo.nd rfl (bU rfl) rfl (afp (by rfl) T.z_zip (au (ao (pv 0)) (au (ao (pv 1)) cj))) (λ_ _ _=>(ac6 rfl (ie (bw (i:=0) (show(["row","number"]:List Str).Nodup by decide +kernel) rfl (bU rfl)) (ie (bw (i:=1) (show(["row","number"]:List Str).Nodup by decide +kernel) rfl (bU rfl)) aaa)))) (λ_ _ _=>mz) (λ_ _ _=>(ER.toD (gf xj (e2_v (ER.toD (ir adx (by rfl) T.z_list ady (ea_n (pv 0) dh))) (EV.toB (ER.toD (zm (au (ao (pv 1)) cj))))))))) (ak (dz (i:=3) vo.nd rfl (bU rfl) (EV.toR bh)) (ak (za cH rfl (vz (by rfl) T.z_range (au (ER.toD (b8 jw (by rfl) T.z_len jx (ea_n (pv 0) dh))) cj)) (bw (i:=4) vo.nd rfl (bU rfl)) (ak (dz (i:=5) vo.nd rfl (bU rfl) (ik d13 (hr.mono (by decide)) (by rfl) (eg_n (pv 2) (eg_v (ao (pv 4)) cu)))) (ak (abl (amv (dg (pv 5))) (aq (du (EV.toR av6))) kj) (ak (dz (i:=2) vo.nd rfl (bU rfl) (ik d14 (hr.mono (by decide)) (by rfl) (eg_v (ao (pv 2)) (eg_v (ao (pv 4)) (eg_v (ao (pv 5)) cu))))) (ak (dz (i:=2) vo.nd rfl (bU rfl) (ik d15 (hr.mono (by decide)) (by rfl) (eg_v (ao (pv 2)) (eg_n (pv 4) (eg_n (pv 3) cu))))) (aq (dz (i:=3) vo.nd rfl (bU rfl) (kh (e2_v (ER.toD (kh (e2_n (pv 2) (dg (pv 4))) (λ_ _=>by rfl))) (dg (pv 4))) (λ_ _=>by rfl))))))))) (aq (du (EV.toR (ye (au (ER.toD (ue ["rows"] ["row","rows"] [ZX,ZY 0] rfl (vy (ao (pv 2))) (λ_ _ _=>(bw (i:=0) (show(["row","rows"]:List Str).Nodup by decide +kernel) rfl (bU rfl))) (λ_ _ _=>mz) (λ_ _ _=>(ER.toD (kh (e2_n (pv 0) (EV.toB (ER.toD (b8 jw (by rfl) T.z_len jx (ea_n (pv 1) dh))))) (λ_ _=>by rfl)))))) (au (ao (pv 3)) cj)))))))))
theorem aim(F:Fun K "determinant" "determinant" aa4 f fd)(T:Txt K mg)(d16:Dd16 P w K mg base):FnOk P w K mg base CX0 3 f fd ["rows"] (spOf K 1 jz) :=
 f9 F ac4 rfl rfl λcdv A outer s H E hr =>
  (ak (dz (i:=1) ac4.nd rfl (bU rfl) (ik d16 (hr.mono (by decide)) (by rfl) (eg_v (ao (pv 0)) (eg_v (ER.toD (gf ab0 (e2_v (ER.toD (zm (au bh cj))) (EV.toB (ER.toD (b8 jw (by rfl) T.z_len jx (ea_n (pv 0) dh))))))) cu)))) (aq (du (bb9 (amv (dg (pv 1))) (EV.toR bh) (kh (e2_n (pv 1) (EV.toB bh)) (λ_ _=>by rfl))))))
theorem afl(F:Fun K "common_divisor" "common_divisor" xf f fd)(T:Txt K mg):FnOk P w K mg base CX0 1 f fd ["numbers"] (spOf K 1 j5) :=
 f9 F gq rfl rfl λcdv A outer s H E hr =>
  (ak (dz (i:=1) gq.nd rfl (bU rfl) (EV.toR bh)) (ak (za cH rfl (vy (ao (pv 0))) (bw (i:=2) gq.nd rfl (bU rfl)) (ak (dz (i:=3) gq.nd rfl (bU rfl) (b8 a80 (by rfl) T.z_abs a84 (ea_n (pv 2) dh))) (aq (af9 fuel cH (ql (ai5 hr.units) (e2_n (pv 3) (EV.toB bh)) (xu _)) (ak (dz (i:=4) gq.nd rfl (bU rfl) (gf aa7 (e2_n (pv 1) (dg (pv 3))))) (ak (dz (i:=1) gq.nd rfl (bU rfl) (EV.toR (ao (pv 3)))) (aq (dz (i:=3) gq.nd rfl (bU rfl) (EV.toR (ao (pv 4))))))))))) (aq (du (ab8 (pv 1))))))
theorem ag5(F:Fun K "doors_square" "doors_square" zx f fd)(T:Txt K mg):FnOk P w K mg base CX0 1 f fd ["house"] (spOf K 1 ou) :=
 f9 F km rfl rfl λcdv A outer s H E hr =>
  (ak (dz (i:=1) km.nd rfl (bU rfl) (zm cj)) (ak (za cH rfl (avi (by rfl) T.z_enumerate (au (ao (pv 0)) cj)) (ac6 rfl (ie (bw (i:=2) km.nd rfl (bU rfl)) (ie (bw (i:=3) km.nd rfl (pJ rfl)) aaa))) (ak (ajs (i:=4) ["doors"] ["other","doors"] [ZX,ZY 3] km.nd rfl (bU rfl) rfl (vz (by rfl) T.z_range (au (ER.toD (b8 jw (by rfl) T.z_len jx (ea_n (pv 0) dh))) cj)) (λ_ _ _=>(bw (i:=0) (show(["other","doors"]:List Str).Nodup by decide +kernel) rfl (bU rfl))) (λ_ _ _=>mz) (λ_ _ _=>(aq0 (azj hr.units (pv 1) (au (ao (pv 0)) cj))))) (ak (atk (pv 4) (ao (pv 2)) (ER.toD (b8 jw (by rfl) T.z_len jx (ea_n (pv 3) dh))) a0w) (aq (uo (EV.toR (af5 qg dY PySem.F.type_list_append sy (pv 1) (au (ao (pv 4)) cj)))))))) (aq (du (ab8 (pv 1))))))
theorem alz(F:Fun K "ring_from" "ring_from" adb f fd)(T:Txt K mg):FnOk P w K mg base CX0 1 f fd ["last","room"] (spOf K 2 uz) :=
 f9 F qd rfl rfl λcdv A outer s H E hr =>
  (ak (dz (i:=2) qd.nd rfl (bU rfl) (EV.toR (ao (pv 1)))) (ak (za cH rfl (vz (by rfl) T.z_range (au (ER.toD (b8 jw (by rfl) T.z_len jx (ea_n (pv 0) dh))) cj)) (bw (i:=3) qd.nd rfl (bU rfl)) (aq (dz (i:=2) qd.nd rfl (bU rfl) (kh (e2_n (pv 0) (dg (pv 2))) (λ_ _=>by rfl))))) (ak (dz (i:=4) qd.nd rfl (bU rfl) (zm (au (ao (pv 2)) cj))) (ak (af9 fuel cH (ql (ai5 hr.units) (e2_v (ER.toD (kh (e2_n (pv 0) (EV.toB (ER.toD (kh (e2_n (pv 4) (EV.toB (aq0 bh))) (λ_ _=>by rfl))))) (λ_ _=>by rfl))) (dg (pv 2))) (xu _)) (aq (uo (EV.toR (af5 qg dY PySem.F.type_list_append sy (pv 4) (au (ER.toD (kh (e2_n (pv 0) (EV.toB (ER.toD (kh (e2_n (pv 4) (EV.toB (aq0 bh))) (λ_ _=>by rfl))))) (λ_ _=>by rfl))) cj)))))) (ak (dz (i:=5) qd.nd rfl (bU rfl) (EV.toR (a4c tL PySem.F.type_list_index (ayl hr.units) (pv 4) (au (ER.toD (b8 (awr rfl) (by rfl) T.z_min a07 (ea_n (pv 4) dh))) cj)))) (aq (du (ir zq (by rfl) T.z_tuple vm (ea_v (ER.toD (gf xj (e2_v (ER.toD (ao4 (pv 4) (ak4 (ao (pv 5))) av8)) (EV.toB (ER.toD (ao4 (pv 4) av8 (ak4 (ao (pv 5))))))))) dh)))))))))
theorem aoj(F:Fun K "rings_of" "rings_of" afd f fd)(T:Txt K mg)(d11:Dd11 P w K mg base)(d20:Dd20 P w K mg base):FnOk P w K mg base CX0 2 f fd ["last","rooms"] (spOf K 2 aax) :=
 f9 F aa0 rfl rfl λcdv A outer s H E hr =>
  (ak (dz (i:=2) aa0.nd rfl (bU rfl) (zm cj)) (ak (za cH rfl (vy (ER.toD (ik d11 (hr.mono (by decide)) (by rfl) (eg_n (pv 0) (eg_n (pv 1) cu))))) (bw (i:=3) aa0.nd rfl (bU rfl)) (ak (dz (i:=4) aa0.nd rfl (bU rfl) (ik d20 (hr.mono (by decide)) (by rfl) (eg_n (pv 0) (eg_v (ao (pv 3)) cu)))) (aq (abl (ql (abz hr.units) (e2_n (pv 4) (dg (pv 2))) (by with_unfolding_all rfl)) (aq (uo (EV.toR (af5 qg dY PySem.F.type_list_append sy (pv 2) (au (ao (pv 4)) cj))))) kj)))) (aq (du (b8 as4 (by rfl) T.z_sorted am7 (ea_n (pv 2) dh))))))
theorem aee(F:Fun K "refuse_no_state" "refuse_no_state" ut f fd)(T:Txt K mg)(d9:Dd9 P w K mg base)(d4:Dd4 P w K mg base):FnOk P w K mg base CX0 5 f fd ["house","arrows","room"] (spOf K 3 jr) :=
 f9 F ad4 rfl rfl λcdv A outer s H E hr =>
  (ak (uo (ik d9 (hr.mono (by decide)) (by rfl) (eg_v (ao (pv 0)) (eg_v (ao (pv 1)) cu)))) (aq (uo (ik d4 (hr.mono (by decide)) (by rfl) (eg_n (pv 0) (eg_v (ao (pv 2)) cu))))))
theorem ayh(F:Fun K "leave" "leave" an5 f fd)(T:Txt K mg):FnOk P w K mg base CX0 1 f fd ["house","turning","room"] (spOf K 3 adu) :=
 f9 F apu rfl rfl λcdv A outer s H E hr =>
  (ak (dz (i:=3) apu.nd rfl (bU rfl) (kh (e2_n (pv 1) (dg (pv 2))) (λ_ _=>by rfl))) (ak (afx (ER.toD (gf aa7 (e2_v (ER.toD (gf xj (e2_n (pv 3) (EV.toB bh)))) (EV.toB (ER.toD (b8 jw (by rfl) T.z_len jx (ea_v (ER.toD (kh (e2_n (pv 0) (dg (pv 2))) (λ_ _=>by rfl))) dh))))))) (pv 1) (ao (pv 2))) (aq (du (kh (e2_v (ER.toD (kh (e2_n (pv 0) (dg (pv 2))) (λ_ _=>by rfl))) (dg (pv 3))) (λ_ _=>by rfl))))))
theorem aa8(F:Fun K "refuse_no_shut_state" "refuse_no_shut_state" j8 f fd)(T:Txt K mg)(d22:Dd22 P w K mg base)(d7:Dd7 P w K mg base):FnOk P w K mg base CX0 6 f fd ["house","arrows","room"] (spOf K 3 gm) :=
 f9 F aa1 rfl rfl λcdv A outer s H E hr =>
  (ak (uo (ik d22 (hr.mono (by decide)) (by rfl) (eg_v (ao (pv 0)) (eg_v (ao (pv 1)) (eg_v (ao (pv 2)) cu))))) (aq (uo (ik d7 (hr.mono (by decide)) (by rfl) (eg_v (ao (pv 0)) cu)))))
theorem al2(F:Fun K "gone_from" "gone_from" adf f fd)(T:Txt K mg)(d5:Dd5 P w K mg base):FnOk P w K mg base CX0 6 f fd ["house","room"] (spOf K 2 yt) :=
 f9 F alo rfl rfl λcdv A outer s H E hr =>
  (aq (du (ue ["room","house"] ["there","room","house"] [ZX,ZY 1,ZY 0] rfl (vy (ER.toD (ik d5 (hr.mono (by decide)) (by rfl) (eg_n (pv 0) (eg_v (ao (pv 1)) cu))))) (λ_ _ _=>(bw (i:=0) (show(["there","room","house"]:List Str).Nodup by decide +kernel) rfl (bU rfl))) (λ_ _ _=>(ak5 (ql (abz hr.units) (e2_n (pv 1) (EV.toB (ER.toD (ik d5 (hr.mono (by decide)) (by rfl) (eg_n (pv 2) (eg_n (pv 0) cu)))))) (by with_unfolding_all rfl)))) (λ_ _ _=>(ao (pv 0))))))
theorem ag4(F:Fun K "ring_without" "ring_without" zu f fd)(T:Txt K mg)(d10:Dd10 P w K mg base)(d5:Dd5 P w K mg base)(d21:Dd21 P w K mg base):FnOk P w K mg base CX0 6 f fd ["house","arrows","room"] (spOf K 3 ig) :=
 f9 F abp rfl rfl λcdv A outer s H E hr =>
  (ak (za cH rfl (vy (ER.toD (ik d21 (hr.mono (by decide)) (by rfl) (eg_v (ER.toD (ik d10 (hr.mono (by decide)) (by rfl) (eg_v (ao (pv 0)) (eg_v (ao (pv 1)) cu)))) (eg_v (ER.toD (ik d5 (hr.mono (by decide)) (by rfl) (eg_n (pv 0) (eg_v (ao (pv 2)) cu)))) cu))))) (bw (i:=3) abp.nd rfl (bU rfl)) (aq (abl (ql (abz hr.units) (e2_n (pv 2) (dg (pv 3))) (by with_unfolding_all rfl)) (aq (du (ab8 (pv 3)))) kj))) (aq (du (EV.toR av6))))
theorem ac2(F:Fun K "go_till_in" "Stroll.go_till_in" gr f fd)(T:Txt K mg)(d23:Dd23 P w K mg base):FnOk P w K mg base CX0 2 f fd ["self","rooms"] (ato K 2 3 bz) :=
 a8l F ac0 rfl rfl (by decide) (by decide) (by decide +kernel) λcdv A outer s H E hr =>
  (anx (apq fuel cH (ql (abz hr.units) (e2_v (ao2 T.f_Stroll_place (pv 0)) (dg (pv 1))) (by with_unfolding_all rfl)) (apo (a5v T.f_Stroll_place (ER.toD (ik d23 (hr.mono (by decide)) (by rfl) (eg_v (ao2 T.f_Stroll_house (pv 0)) (eg_f T.f_Stroll_turning (pv 0) (eg_v (ao2 T.f_Stroll_place (pv 0)) cu))))) (pv 0)) (anx (atr T.f_Stroll_steps bh (pv 0))))))
theorem aio{C:aY}(F:Fun K "__init__" "Stroll.__init__" lq f fd)(T:Txt K mg)(hC:nsIn K bK "Stroll" = ZY (ZY (.ref C))):FnOk P w K mg base CX0 1 f fd ["self","house","arrows","room"] (ar3 K 4 4 acr C) :=
 a8m F aih rfl rfl (by decide) (by decide) λcdv A outer s H E hr =>
  (ajz (T.f_Stroll_house C hC).1 (T.f_Stroll_house C hC).2 (EV.toR (ao (pv 1))) (pv 0) (ajz (T.f_Stroll_turning C hC).1 (T.f_Stroll_turning C hC).2 (ir adx (by rfl) T.z_list ady (ea_n (pv 2) dh)) (pv 0) (ajz (T.f_Stroll_place C hC).1 (T.f_Stroll_place C hC).2 (EV.toR (ao (pv 3))) (pv 0) (ajz (T.f_Stroll_steps C hC).1 (T.f_Stroll_steps C hC).2 (EV.toR bh) (pv 0) a5x))))
theorem ac1(F:Fun K "to_where_it_stays" "to_where_it_stays" pq f fd)(T:Txt K mg)(d25:Dd25 P w K mg base)(m_Stroll_go_till_in:DfnM P w K mg base "Stroll" "go_till_in" ["self","rooms"] 2 (ato K 2 3 bz))(n_Stroll:DfnI P w K mg base "Stroll" ["self","house","arrows","room"] 1 (ar3 K 4 4 acr)):FnOk P w K mg base CX0 7 f fd ["house","arrows","room"] (anw K 3 "Stroll" gw) :=
 a0z F xq rfl rfl λcdv A outer s H E hr =>
  (apr (i:=3) (j:=4) xq.nd rfl (bU rfl) (a8q n_Stroll (hr.mono (by decide)) (by rfl) (eg_n (pv 0) (eg_n (pv 1) (eg_n (pv 2) cu)))) (ajx (atq (j:=4) m_Stroll_go_till_in (hr.mono (by decide)) (pv 3) (ER.toD (ue ["house"] ["place","house"] [ZX,ZY 0] rfl (vz (by rfl) T.z_range (au (ER.toD (b8 jw (by rfl) T.z_len jx (ea_n (pv 0) dh))) cj)) (λ_ _ _=>(bw (i:=0) (show(["place","house"]:List Str).Nodup by decide +kernel) rfl (bU rfl))) (λ_ _ _=>(ak5 (ql (ap6 hr.units) (e2_v (ER.toD (ik d25 (hr.mono (by decide)) (by rfl) (eg_n (pv 1) (eg_n (pv 0) cu)))) (EV.toB (ER.toD (zm cj)))) (xu _)))) (λ_ _ _=>(ao (pv 0)))))) (atn (pv 3))) (avv (by rfl)))
theorem ag3(F:Fun K "to_its_round" "to_its_round" zr f fd)(T:Txt K mg)(d27:Dfn P w K mg base "to_where_it_stays" ["house","arrows","room"] 7 (anw K 3 "Stroll" gw))(d26:Dd26 P w K mg base)(m_Stroll_go_till_in:DfnM P w K mg base "Stroll" "go_till_in" ["self","rooms"] 2 (ato K 2 3 bz)):FnOk P w K mg base CX0 8 f fd ["house","arrows","room"] (anw K 3 "Stroll" j6) :=
 a0z F qz rfl rfl λcdv A outer s H E hr =>
  (apr (i:=3) (j:=5) qz.nd rfl (bU rfl) (a8r d27 (hr.mono (by decide)) (by rfl) (eg_n (pv 0) (eg_n (pv 1) (eg_n (pv 2) cu)))) (ajx (a0a (j:=4) (by decide) qz.nd rfl (bU rfl) (a02 d26 (hr.mono (by decide)) (by rfl) (eg_v (ao (pv 0)) (eg_f T.f_Stroll_turning (pv 3) (eg_v (ao2 T.f_Stroll_place (pv 3)) cu))))) (ajx (apq fuel cH (asv (dg (pv 4))) (apo (atq (j:=5) m_Stroll_go_till_in (hr.mono (by decide)) (pv 3) (ao (pv 4))) (anx (a0a (j:=4) (by decide) qz.nd rfl (bU rfl) (a02 d26 (hr.mono (by decide)) (by rfl) (eg_v (ao (pv 0)) (eg_f T.f_Stroll_turning (pv 3) (eg_v (ao2 T.f_Stroll_place (pv 3)) cu)))))))) (atn (pv 3)))) (avv (by rfl)))
theorem aik(F:Fun K "turns_among" "turns_among" aa2 f fd)(T:Txt K mg)(d19:Dd19 P w K mg base)(d12:Dd12 P w K mg base)(d17:Dd17 P w K mg base)(d18:Dd18 P w K mg base):FnOk P w K mg base CX0 4 f fd ["house","rooms"] (spOf K 2 lu) :=
 f9 F jh rfl rfl λcdv A outer s H E hr =>
  (ak (dz (i:=2) jh.nd rfl (pJ rfl) (ik d19 (hr.mono (by decide)) (by rfl) (eg_v (ao (pv 0)) cu))) (ak (axk (i:=3) "room" ["rows","rooms"] ["room","rows","rooms"] [ZX,ZY 2,ZY 1] jh.nd rfl (bU rfl) rfl (vy (ao (pv 1))) (λ_ _ _=>(bw (i:=0) (show(["room","rows","rooms"]:List Str).Nodup by decide +kernel) rfl (pJ rfl))) (λ_ _ _=>mz) (λ_ _ _=>(ER.toD (ik d17 (hr.mono (by decide)) (by rfl) (eg_v (ER.toD (ik d12 (hr.mono (by decide)) (by rfl) (eg_n (pv 1) (eg_v (ER.toD (ue ["room"] ["other","room"] [ZX,ZY 0] rfl (vy (ao (pv 2))) (λ_ _ _=>(bw (i:=0) (show(["other","room"]:List Str).Nodup by decide +kernel) rfl (bU rfl))) (λ_ _ _=>(ak5 (ql (ai5 hr.units) (e2_n (pv 0) (dg (pv 1))) (xu _)))) (λ_ _ _=>(ao (pv 0))))) cu)))) cu))))) (ak (dz (i:=4) jh.nd rfl (bU rfl) (ik d18 (hr.mono (by decide)) (by rfl) (eg_v (ao (pv 3)) cu))) (ak (dz (i:=5) jh.nd rfl (bU rfl) (gf ab0 (e2_v (ER.toD (zm (au bh cj))) (EV.toB (ER.toD (b8 jw (by rfl) T.z_len jx (ea_n (pv 0) dh))))))) (ak (za cH rfl (afp (by rfl) T.z_zip (au (ao (pv 1)) (au (ao (pv 3)) cj))) (ac6 rfl (ie (bw (i:=6) jh.nd rfl (bU rfl)) (ie (bw (i:=7) jh.nd rfl (bU rfl)) aaa))) (aq (afx (ER.toD (gf aog (e2_n (pv 7) (dg (pv 4))))) (pv 5) (ao (pv 6))))) (aq (du (ir zq (by rfl) T.z_tuple vm (ea_n (pv 5) dh)))))))))
theorem aoi(F:Fun K "round_of" "round_of" afc f fd)(T:Txt K mg)(d24:Dd24 P w K mg base)(d28:Dfn P w K mg base "to_its_round" ["house","arrows","room"] 8 (anw K 3 "Stroll" j6))(d5:Dd5 P w K mg base)(d29:Dd29 P w K mg base):FnOk P w K mg base CX0 9 f fd ["house","arrows","room"] (spOf K 3 aaw) :=
 f9 F ac9 rfl rfl λcdv A outer s H E hr =>
  (ak (uo (ik d24 (hr.mono (by decide)) (by rfl) (eg_v (ao (pv 0)) (eg_v (ao (pv 1)) (eg_v (ao (pv 2)) cu))))) (a1i (i:=3) (j:=5) ac9.nd rfl (bU rfl) (a8r d28 (hr.mono (by decide)) (by rfl) (eg_v (ao (pv 0)) (eg_n (pv 1) (eg_n (pv 2) cu)))) (ak (dz (i:=4) ac9.nd rfl (bU rfl) (ik d29 (hr.mono (by decide)) (by rfl) (eg_v (ao (pv 0)) (eg_v (ER.toD (ik d5 (hr.mono (by decide)) (by rfl) (eg_n (pv 0) (eg_v (ao2 T.f_Stroll_place (pv 3)) cu)))) cu)))) (aq (du (EV.toR (ye (au (ao2 T.f_Stroll_steps (pv 3)) (au (ER.toD (b8 (a8x rfl) (by rfl) T.z_sum a82 (ea_v (ER.toD (ue [] ["many","doors"] [ZX,ZX] rfl (afp (by rfl) T.z_zip (au (ao (pv 4)) (au (ao (pv 0)) cj))) (λ_ _ _=>(ac6 rfl (ie (bw (i:=0) (show(["many","doors"]:List Str).Nodup by decide +kernel) rfl (bU rfl)) (ie (bw (i:=1) (show(["many","doors"]:List Str).Nodup by decide +kernel) rfl (bU rfl)) aaa)))) (λ_ _ _=>mz) (λ_ _ _=>(ER.toD (gf ab0 (e2_n (pv 0) (EV.toB (ER.toD (b8 jw (by rfl) T.z_len jx (ea_n (pv 1) dh)))))))))) dh))) cj))))))) (avv (by rfl))))
theorem al6(F:Fun K "_law_cell" "_law_cell" adk f fd)(T:Txt K mg):FnOk P w K mg base CX0 1 f fd ["script","k"] (spOf K 2 f__law_cell) :=
 f9 F alp rfl rfl λcdv A outer s H E hr =>
  (ak (abl (ql auq (e2_n (pv 1) (EV.toB (ER.toD (b8 jw (by rfl) T.z_len jx (ea_n (pv 0) dh))))) (xu _)) (aq (du (kh (e2_n (pv 0) (dg (pv 1))) (λ_ _=>by rfl)))) kj) (aq (du (EV.toR bh))))
theorem aol(F:Fun K "_law_pen" "_law_pen" afg f fd)(T:Txt K mg):FnOk P w K mg base CX0 1 f fd ["cell"] (spOf K 1 f__law_pen) :=
 f9 F ags rfl rfl λcdv A outer s H E hr =>
  (ak (dz (i:=1) ags.nd rfl (bU rfl) (b8 (a8y rfl) (by rfl) T.z_max a83 (ea_n (pv 0) (ea_v (ER.toD (gf afi (e2_v bh (dg (pv 0))))) dh)))) (aq (du (zm (au (ao (pv 1)) (au (ER.toD (ir a8z (by rfl) T.z_int aw0 (ea_v (ER.toD (a03 aur (e2_n (pv 1) (EV.toB (ER.toD (gf a2u (e2_v bh (EV.toB bh)))))) (xu _))) dh))) cj))))))
theorem al5(F:Fun K "_law_draw" "_law_draw" adi f fd)(T:Txt K mg):FnOk P w K mg base CX0 1 f fd ["pen","many"] (spOf K 2 f__law_draw) :=
 f9 F vp rfl rfl λcdv A outer s H E hr =>
  (ak (abl (ql (ap6 hr.units) (e2_v (ER.toD (kh (e2_n (pv 0) (EV.toB bh)) (λ_ _=>by rfl))) (EV.toB bh)) (xu _)) (ak (az8 (ER.toD (b8 awt (by rfl) T.z_divmod aw1 (ea_v (ER.toD (kh (e2_n (pv 0) (EV.toB bh)) (λ_ _=>by rfl))) (ea_n (pv 1) dh)))) (ac6 rfl (ie (bw (i:=2) vp.nd rfl (bU rfl)) (ie (bw (i:=3) vp.nd rfl (bU rfl)) aaa)))) (ak (afx (ao (pv 2)) (pv 0) bh) (aq (du (ab8 (pv 3)))))) kj) (ak (dz (i:=4) vp.nd rfl (bU rfl) (gf aa7 (e2_v (ER.toD (gf ab0 (e2_v (ER.toD (gf xj (e2_v (ER.toD (gf aa7 (e2_v (ER.toD (kh (e2_n (pv 0) (EV.toB bh)) (λ_ _=>by rfl))) (EV.toB bh)))) (EV.toB bh)))) (EV.toB bh)))) (EV.toB bh)))) (ak (dz (i:=4) vp.nd rfl (bU rfl) (gf aa7 (e2_v (ER.toD (gf xj (e2_v (ER.toD (gf ab0 (e2_n (pv 4) (dg (pv 4))))) (EV.toB bh)))) (EV.toB bh)))) (ak (afx (ER.toD (gf aa7 (e2_v (ER.toD (gf xj (e2_v (ER.toD (gf ab0 (e2_n (pv 4) (EV.toB bh)))) (EV.toB bh)))) (EV.toB bh)))) (pv 0) bh) (aq (du (gf aa7 (e2_v (ER.toD (gf aog (e2_v (ER.toD (kh (e2_n (pv 0) (EV.toB bh)) (λ_ _=>by rfl))) (EV.toB bh)))) (dg (pv 1))))))))))
theorem akj(F:Fun K "_law_whole" "_law_whole" abr f fd)(T:Txt K mg):FnOk P w K mg base CX0 1 f fd ["thing"] (spOf K 1 wg) :=
 f9 F aj2 rfl rfl λcdv A outer s H E hr =>
  (aq (du (EV.toR (aq2 (ajg (t:=.int) (ar9 (by rfl) T.z_int aw0) (by rfl) T.z_isinstance lw (dg (pv 0))) (aqz (a01 (ajg (t:=.bool) (ar9 (by rfl) T.z_bool aw2) (by rfl) T.z_isinstance lw (dg (pv 0)))))))))
theorem al3(F:Fun K "_law_shut" "_law_shut" adg f fd)(T:Txt K mg)(d33:Dd33 P w K mg base):FnOk P w K mg base CX0 2 f fd ["pen","most","doors"] (spOf K 3 f__law_shut) :=
 f9 F qe rfl rfl λcdv A outer s H E hr =>
  (ak (dz (i:=3) qe.nd rfl (pJ rfl) (gf xj (e2_v bh (EV.toB (ER.toD (ik d33 (hr.mono (by decide)) (by rfl) (eg_n (pv 0) (eg_n (pv 1) cu)))))))) (ak (dz (i:=4) qe.nd rfl (bU rfl) (zm cj)) (ak (za cH rfl (vz (by rfl) T.z_range (au (ao (pv 3)) cj)) (bw (i:=5) qe.nd rfl (bU rfl)) (ak (dz (i:=6) qe.nd rfl (bU rfl) (gf xj (e2_v bh (EV.toB (ER.toD (ik d33 (hr.mono (by decide)) (by rfl) (eg_n (pv 0) (eg_n (pv 2) cu)))))))) (ak (ajs (i:=7) ["pen","many"] ["door","pen","many"] [ZX,ZY 0,ZY 3] qe.nd rfl (bU rfl) rfl (vz (by rfl) T.z_range (au (ao (pv 6)) cj)) (λ_ _ _=>(bw (i:=0) (show(["door","pen","many"]:List Str).Nodup by decide +kernel) rfl (bU rfl))) (λ_ _ _=>mz) (λ_ _ _=>(ER.toD (ik d33 (hr.mono (by decide)) (by rfl) (eg_n (pv 1) (eg_n (pv 2) cu)))))) (ak (abl (ql (ap6 hr.units) (e2_v (ER.toD (ik d33 (hr.mono (by decide)) (by rfl) (eg_n (pv 0) (eg_v bh cu)))) (EV.toB bh)) (xu _)) (aq (afx (ER.toD (gf aa7 (e2_v (ER.toD (gf xj (e2_n (pv 5) (EV.toB bh)))) (dg (pv 3))))) (pv 7) bh)) kj) (aq (uo (EV.toR (af5 qg dY PySem.F.type_list_append sy (pv 4) (au (ER.toD (ir zq (by rfl) T.z_tuple vm (ea_n (pv 7) dh))) cj))))))))) (aq (du (ir zq (by rfl) T.z_tuple vm (ea_n (pv 4) dh)))))))
theorem ain(F:Fun K "_law_arrows" "_law_arrows" aa5 f fd)(T:Txt K mg)(d33:Dd33 P w K mg base):FnOk P w K mg base CX0 2 f fd ["pen","house"] (spOf K 2 f__law_arrows) :=
 f9 F aig rfl rfl λcdv A outer s H E hr =>
  (aq (du (ir zq (by rfl) T.z_tuple vm (ea_v (ER.toD (ue ["pen"] ["doors","pen"] [ZX,ZY 0] rfl (vy (ao (pv 1))) (λ_ _ _=>(bw (i:=0) (show(["doors","pen"]:List Str).Nodup by decide +kernel) rfl (bU rfl))) (λ_ _ _=>mz) (λ_ _ _=>(ER.toD (ik d33 (hr.mono (by decide)) (by rfl) (eg_n (pv 1) (eg_v (ER.toD (b8 jw (by rfl) T.z_len jx (ea_n (pv 0) dh))) cu))))))) dh))))
theorem al4(F:Fun K "_law_left" "_law_left" adh f fd)(T:Txt K mg):FnOk P w K mg base CX0 1 f fd ["house","arrows","room"] (spOf K 3 u5) :=
 f9 F abq rfl rfl λcdv A outer s H E hr =>
  (ak (dz (i:=3) abq.nd rfl (bU rfl) (kh (e2_n (pv 1) (dg (pv 2))) (λ_ _=>by rfl))) (ak (dz (i:=4) abq.nd rfl (bU rfl) (ir adx (by rfl) T.z_list ady (ea_n (pv 1) dh))) (ak (afx (ER.toD (gf aa7 (e2_v (ER.toD (gf xj (e2_n (pv 3) (EV.toB bh)))) (EV.toB (ER.toD (b8 jw (by rfl) T.z_len jx (ea_v (ER.toD (kh (e2_n (pv 0) (dg (pv 2))) (λ_ _=>by rfl))) dh))))))) (pv 4) (ao (pv 2))) (aq (du (EV.toR (ye (au (ER.toD (ir zq (by rfl) T.z_tuple vm (ea_n (pv 4) dh))) (au (ER.toD (kh (e2_v (ER.toD (kh (e2_n (pv 0) (dg (pv 2))) (λ_ _=>by rfl))) (dg (pv 3))) (λ_ _=>by rfl))) cj)))))))))
theorem akk(F:Fun K "_law_tuple" "_law_tuple" abt f fd)(T:Txt K mg)(d34:Dd34 P w K mg base):FnOk P w K mg base CX0 2 f fd ["found","due"] (spOf K 2 qj) :=
 f9 F aj3 rfl rfl λcdv A outer s H E hr =>
  (ak (abl (EW.pt (a8o (aeu (aet (ajg (t:=.tuple) (ar9 (by rfl) T.z_tuple vm) (by rfl) T.z_isinstance lw (dg (pv 0))))) (a00 (ql (ai5 hr.units) (e2_n (pv 0) (dg (pv 1))) (xu _))))) (aq (du (EV.toR ao3))) kj) (aq (du (b8 (awu rfl) (by rfl) T.z_all aw3 (ea_v (ER.toD (ue [] ["one"] [ZX] rfl (vy (ao (pv 0))) (λ_ _ _=>(bw (i:=0) (show(["one"]:List Str).Nodup by decide +kernel) rfl (bU rfl))) (λ_ _ _=>mz) (λ_ _ _=>(ER.toD (ik d34 (hr.mono (by decide)) (by rfl) (eg_n (pv 0) cu)))))) dh)))))
theorem akl(F:Fun K "_law_round" "_law_round" abu f fd)(T:Txt K mg)(d37:Dd37 P w K mg base):FnOk P w K mg base CX0 2 f fd ["house","arrows","room"] (spOf K 3 wj) :=
 f9 F ad7 rfl rfl λcdv A outer s H E hr =>
  (axj (iS:=3) (iL:=4) (iA:=1) (iR:=2) (iH:=5) fuel hr.units cH rfl ad7.nd rfl rfl rfl rfl rfl (bU rfl) (bU rfl) (bU rfl) (bU rfl) (bU rfl) (by decide) (by decide) (by decide) (pv 3) (pv 3) (pv 3) (zm cj) (ye (au (ao (pv 1)) (au (ao (pv 2)) cj))) (ye (au (ao (pv 1)) (au (ao (pv 2)) cj))) (ye (au (ao (pv 1)) (au (ao (pv 2)) cj))) (ER.toD (b8 jw (by rfl) T.z_len jx (ea_n (pv 4) dh))) (EV.toR (af5 qg dY PySem.F.type_list_append sy (pv 4) (au (ye (au (ao (pv 1)) (au (ao (pv 2)) cj))) cj))) (ER.toD (ik d37 (hr.mono (by decide)) (by rfl) (eg_n (pv 0) (eg_n (pv 1) (eg_v (ao (pv 2)) cu))))) (aq (du (EV.toR (ye (au (ao (pv 5)) (au (ER.toD (gf afi (e2_v (ER.toD (b8 jw (by rfl) T.z_len jx (ea_n (pv 4) dh))) (dg (pv 5))))) (au (ao (pv 4)) cj))))))) (λ_ _=>by rfl))
theorem akm(F:Fun K "_law_right" "_law_right" abv f fd)(T:Txt K mg)(d39:Dd39 P w K mg base)(d30:Dd30 P w K mg base)(d38:Dd38 P w K mg base):FnOk P w K mg base CX0 10 f fd ["house","arrows","room"] (spOf K 3 ju) :=
 f9 F rn rfl rfl λcdv A outer s H E hr =>
  (ak (az8 (ER.toD (ik d39 (hr.mono (by decide)) (by rfl) (eg_n (pv 0) (eg_v (ao (pv 1)) (eg_v (ao (pv 2)) cu))))) (ac6 rfl (ie (bw (i:=3) rn.nd rfl (bU rfl)) (ie (bw (i:=4) rn.nd rfl (bU rfl)) (ie (bw (i:=5) rn.nd rfl (bU rfl)) aaa))))) (ak (za cH rfl (vz (by rfl) T.z_range (au bh cj)) (bw (i:=6) rn.nd rfl (bU rfl)) (aq (abl (aeu (aet (ER.toD (ik d38 (hr.mono (by decide)) (by rfl) (eg_v (ER.toD (ik d30 (hr.mono (by decide)) (by rfl) (eg_v (ao (pv 0)) (eg_v (ao (pv 1)) (eg_v (ao (pv 2)) cu))))) (eg_v (ye (au (ao (pv 3)) (au (ao (pv 4)) cj))) cu)))))) (aq (du (EV.toR ao3))) kj))) (aq (du (EV.toR ao3)))))
theorem a7e(F:Fun K "law" "law" aj5 f fd)(T:Txt K mg)(d40:Dd40 P w K mg base)(d31:Dd31 P w K mg base)(d32:Dd32 P w K mg base)(d33:Dd33 P w K mg base)(d35:Dd35 P w K mg base)(d36:Dd36 P w K mg base):FnOk P w K mg base CX0 11 f fd ["script"] (spOf K 1 av4) :=
 f9 F ai0 rfl rfl λcdv A outer s H E hr =>
  (ak (abl (EW.pt (a8o (aeu (aet (ER.toD (ik d40 (hr.mono (by decide)) (by rfl) (eg_v (ye (au (ye (au bh cj)) cj)) (eg_v (ye (au bh cj)) (eg_v bh cu))))))) (a00 (aeu (aet (ER.toD (ik d40 (hr.mono (by decide)) (by rfl) (eg_v (ye (au (ye (au bh (au bh cj))) (au (ye (au bh cj)) cj))) (eg_v (ye (au bh (au bh cj))) (eg_v bh cu)))))))))) (aq (du (EV.toR ao3))) kj) (ak (za cH rfl (vy (ER.toD (gf xj (e2_v (ER.toD (zm (au (ER.toD (ik d31 (hr.mono (by decide)) (by rfl) (eg_n (pv 0) (eg_v bh cu)))) cj))) (EV.toB (ER.toD (ao4 (pv 0) (ak4 bh) (ak4 bh)))))))) (bw (i:=1) ai0.nd rfl (bU rfl)) (ak (dz (i:=2) ai0.nd rfl (bU rfl) (ik d32 (hr.mono (by decide)) (by rfl) (eg_n (pv 1) cu))) (ak (dz (i:=3) ai0.nd rfl (bU rfl) (ik d35 (hr.mono (by decide)) (by rfl) (eg_n (pv 2) (eg_v (ER.toD (kh (e2_v (ER.toD (zm (au bh (au bh (au bh cj))))) (EV.toB (ER.toD (ik d33 (hr.mono (by decide)) (by rfl) (eg_n (pv 2) (eg_v bh cu)))))) (λ_ _=>by rfl))) (eg_v bh cu))))) (ak (dz (i:=4) ai0.nd rfl (bU rfl) (ik d36 (hr.mono (by decide)) (by rfl) (eg_n (pv 2) (eg_v (ao (pv 3)) cu)))) (aq (za cH rfl (vz (by rfl) T.z_range (au (ER.toD (b8 jw (by rfl) T.z_len jx (ea_n (pv 3) dh))) cj)) (bw (i:=5) ai0.nd rfl (bU rfl)) (aq (abl (aeu (aet (ER.toD (ik d40 (hr.mono (by decide)) (by rfl) (eg_v (ao (pv 3)) (eg_v (ao (pv 4)) (eg_v (ao (pv 5)) cu))))))) (aq (du (EV.toR ao3))) kj)))))))) (aq (du (EV.toR ao3)))))
end
abbrev Q(K:Fg9)(x:Str)(st:gU)(f:aY)(oc:aH)(od:Option aY)(kV dc pm:aH)(an:Option aY)(cd ct:aH)(sl:Array (Option aH)):Prop:=nsIn K bK x=ZY (ZY (.ref f))/\K.lookup f=ZY ⟨oc,od,.func (fnOf x x (j9 st) (iu st) (aa st) .none kV dc pm an cd ct),sl⟩/\codeIn K cd x=ZW/\mC K (.ref f)=ZW
section
variable{K:Fg9}{x:Str}{st:gU}{f:aY}{oc:aH}{od:Option aY}{kV dc pm:aH}{an:Option aY}{cd ct:aH}{sl:Array (Option aH)}(q:Q K x st f oc od kV dc pm an cd ct sl){h:fH}{mg:Str->Option aH}
include q
theorem Q.F:Fun K x x st f (fnOf x x (j9 st) (iu st) (aa st) .none kV dc pm an cd ct):=aqy q.2.1 q.2.2.1 q.2.2.2
theorem Q.E{ps:List Str}(X:K.In h)(G:h.Ns bK mg)(b:∀(kV doc pm:aH) (an:Option aY) (cdv ct:aH) (us:List aH),us.length=ps.length->bindArgs (fnOf x x (j9 st) (iu st) (aa st) .none kV doc pm an cdv ct) ⟨us,[]⟩=pure (ps.zip us)):mg x=ZY (.ref f)/\mC K (.ref f)=ZW/\Binds K (fnOf x x (j9 st) (iu st) (aa st) .none kV dc pm an cd ct) ps []:=⟨mg_of X G q.1,q.2.2.2,(Q.F q).binds b⟩
theorem Q.E1{p0:Str}(X:K.In h)(G:h.Ns bK mg)(b:∀(kV doc pm:aH) (an:Option aY) (cdv ct u0:aH),bindArgs (fnOf x x (j9 st) (iu st) (aa st) .none kV doc pm an cdv ct) ⟨[u0],[]⟩=pure ([p0].zip [u0]):=by intros;rfl):mg x=ZY (.ref f)/\mC K (.ref f)=ZW/\Binds K (fnOf x x (j9 st) (iu st) (aa st) .none kV dc pm an cd ct) [p0] []:=q.E X G λ_ _ _ _ _ _ us hl=>by obtain⟨_,rfl⟩:=ln1 hl;apply b
theorem Q.E2{p0 p1:Str}(X:K.In h)(G:h.Ns bK mg)(b:∀(kV doc pm:aH) (an:Option aY) (cdv ct u0 u1:aH),bindArgs (fnOf x x (j9 st) (iu st) (aa st) .none kV doc pm an cdv ct) ⟨[u0,u1],[]⟩=pure ([p0,p1].zip [u0,u1]):=by intros;rfl):mg x=ZY (.ref f)/\mC K (.ref f)=ZW/\Binds K (fnOf x x (j9 st) (iu st) (aa st) .none kV dc pm an cd ct) [p0,p1] []:=q.E X G λ_ _ _ _ _ _ us hl=>by obtain⟨_,_,rfl⟩:=ln2 hl;apply b
theorem Q.E3{p0 p1 p2:Str}(X:K.In h)(G:h.Ns bK mg)(b:∀(kV doc pm:aH) (an:Option aY) (cdv ct u0 u1 u2:aH),bindArgs (fnOf x x (j9 st) (iu st) (aa st) .none kV doc pm an cdv ct) ⟨[u0,u1,u2],[]⟩=pure ([p0,p1,p2].zip [u0,u1,u2]):=by intros;rfl):mg x=ZY (.ref f)/\mC K (.ref f)=ZW/\Binds K (fnOf x x (j9 st) (iu st) (aa st) .none kV dc pm an cd ct) [p0,p1,p2] []:=q.E X G λ_ _ _ _ _ _ us hl=>by obtain⟨_,_,_,rfl⟩:=ln3 hl;apply b
end
theorem a88{l:rH}{w:dZ}{K:Fg9}{h:fH}{mg:Str->Option aH}(X:K.In h)(G:h.Ns bK mg)(hfa:mg "law" = ZY (.ref fa))
  {B_Stroll:aY} (aB_Stroll:nsIn K bK "Stroll" = ZY (ZY (.ref B_Stroll))) (e_B_Stroll:boxB K B_Stroll ["house","turning","place","steps"]=ZW)
  (q0:Q K "is_whole" afe f0' o0 p0 v0 t0 m0 n0 c0 r0 z0)
  (q1:Q K "is_whole_within" uv f1' o1 p1 v1 t1 m1 n1 c1 r1 z1)
  (q2:Q K "is_tuple_within" uw f2' o2 p2 v2 t2 m2 n2 c2 r2 z2)
  (q3:Q K "is_room_number" wz f3' o3 p3 v3 t3 m3 n3 c3 r3 z3)
  (q4:Q K "refuse_no_room" wy f4' o4 p4 v4 t4 m4 n4 c4 r4 z4)
  (q5:Q K "come_to" agv f5' o5 p5 v5 t5 m5 n5 c5 r5 z5)
  (q6:Q K "is_shut" agu f6' o6 p6 v6 t6 m6 n6 c6 r6 z6)
  (q7:Q K "refuse_not_shut" ur f7' o7 p7 v7 t7 m7 n7 c7 r7 z7)
  (q8:Q K "is_arrows" ade f8' o8 p8 v8 t8 m8 n8 c8 r8 z8)
  (q9:Q K "refuse_no_arrows" sr f9' o9 p9 v9 t9 m9 n9 c9 r9 z9)
  (q10:Q K "last_ways" adc f10' o10 p10 v10 t10 m10 n10 c10 r10 z10)
  (q11:Q K "going_round" aa3 f11' o11 p11 v11 t11 m11 n11 c11 r11 z11)
  (q12:Q K "minor" an4 f12' o12 p12 v12 t12 m12 n12 c12 r12 z12)
  (q13:Q K "row_with" afb f13' o13 p13 v13 t13 m13 n13 c13 r13 z13)
  (q14:Q K "swapped" agt f14' o14 p14 v14 t14 m14 n14 c14 r14 z14)
  (q15:Q K "cleared" agw f15' o15 p15 v15 t15 m15 n15 c15 r15 z15)
  (q16:Q K "solved" aj4 f16' o16 p16 v16 t16 m16 n16 c16 r16 z16)
  (q17:Q K "determinant" aa4 f17' o17 p17 v17 t17 m17 n17 c17 r17 z17)
  (q18:Q K "common_divisor" xf f18' o18 p18 v18 t18 m18 n18 c18 r18 z18)
  (q19:Q K "doors_square" zx f19' o19 p19 v19 t19 m19 n19 c19 r19 z19)
  (q20:Q K "ring_from" adb f20' o20 p20 v20 t20 m20 n20 c20 r20 z20)
  (q21:Q K "rings_of" afd f21' o21 p21 v21 t21 m21 n21 c21 r21 z21)
  (q22:Q K "refuse_no_state" ut f22' o22 p22 v22 t22 m22 n22 c22 r22 z22)
  (q23:Q K "leave" an5 f23' o23 p23 v23 t23 m23 n23 c23 r23 z23)
  (q24:Q K "refuse_no_shut_state" j8 f24' o24 p24 v24 t24 m24 n24 c24 r24 z24)
  (q25:Q K "gone_from" adf f25' o25 p25 v25 t25 m25 n25 c25 r25 z25)
  (q26:Q K "ring_without" zu f26' o26 p26 v26 t26 m26 n26 c26 r26 z26)
  (q27:Q K "to_where_it_stays" pq f27' o27 p27 v27 t27 m27 n27 c27 r27 z27)
  (q28:Q K "to_its_round" zr f28' o28 p28 v28 t28 m28 n28 c28 r28 z28)
  (q29:Q K "turns_among" aa2 f29' o29 p29 v29 t29 m29 n29 c29 r29 z29)
  (q30:Q K "round_of" afc f30' o30 p30 v30 t30 m30 n30 c30 r30 z30)
  (q31:Q K "_law_cell" adk f31' o31 p31 v31 t31 m31 n31 c31 r31 z31)
  (q32:Q K "_law_pen" afg f32' o32 p32 v32 t32 m32 n32 c32 r32 z32)
  (q33:Q K "_law_draw" adi f33' o33 p33 v33 t33 m33 n33 c33 r33 z33)
  (q34:Q K "_law_whole" abr f34' o34 p34 v34 t34 m34 n34 c34 r34 z34)
  (q35:Q K "_law_shut" adg f35' o35 p35 v35 t35 m35 n35 c35 r35 z35)
  (q36:Q K "_law_arrows" aa5 f36' o36 p36 v36 t36 m36 n36 c36 r36 z36)
  (q37:Q K "_law_left" adh f37' o37 p37 v37 t37 m37 n37 c37 r37 z37)
  (q38:Q K "_law_tuple" abt f38' o38 p38 v38 t38 m38 n38 c38 r38 z38)
  (q39:Q K "_law_round" abu f39' o39 p39 v39 t39 m39 n39 c39 r39 z39)
  (q40:Q K "_law_right" abv f40' o40 p40 v40 t40 m40 n40 c40 r40 z40)
  (a41:nsIn K bK "law" = ZY (ZY (.ref f41'))) (l41:K.lookup f41'=ZY ⟨oc41,od41,.func (fnOf "law" "law" (j9 aj5) (iu aj5) (aa aj5) .none kV41 dc41 pm41 an41 cd41 ct41),sl41⟩) (c41:codeIn K cd41 "law" = ZW) (k41:mC K (.ref f41')=ZW)
  (a42:kY K (.ref B_Stroll) "__init__" = ZY (ZY (.ref f42'))) (l42:K.lookup f42'=ZY ⟨oc42,od42,.func (fnOf "__init__" "Stroll.__init__" (j9 lq) (iu lq) (aa lq) .none kV42 dc42 pm42 an42 cd42 ct42),sl42⟩) (c42:codeIn K cd42 "Stroll.__init__" = ZW) (k42:mC K (.ref f42')=ZW) (e_F_Stroll_init:lM K (.ref f42')=ZW)
  (a43:kY K (.ref B_Stroll) "go_till_in" = ZY (ZY (.ref f43'))) (l43:K.lookup f43'=ZY ⟨oc43,od43,.func (fnOf "go_till_in" "Stroll.go_till_in" (j9 gr) (iu gr) (aa gr) .none kV43 dc43 pm43 an43 cd43 ct43),sl43⟩) (c43:codeIn K cd43 "Stroll.go_till_in" = ZW) (k43:mC K (.ref f43')=ZW) (e_F_Stroll_go_till_in:lM K (.ref f43')=ZW)
  (y_abs:nsIn K bK "abs" = ZY ZX)
  (y_all:nsIn K bK "all" = ZY ZX)
  (y_bool:nsIn K bK "bool" = ZY ZX)
  (y_divmod:nsIn K bK "divmod" = ZY ZX)
  (y_enumerate:nsIn K bK "enumerate" = ZY ZX)
  (y_int:nsIn K bK "int" = ZY ZX)
  (y_isinstance:nsIn K bK "isinstance" = ZY ZX)
  (y_len:nsIn K bK "len" = ZY ZX)
  (y_list:nsIn K bK "list" = ZY ZX)
  (y_max:nsIn K bK "max" = ZY ZX)
  (y_min:nsIn K bK "min" = ZY ZX)
  (y_range:nsIn K bK "range" = ZY ZX)
  (y_sorted:nsIn K bK "sorted" = ZY ZX)
  (y_sum:nsIn K bK "sum" = ZY ZX)
  (y_tuple:nsIn K bK "tuple" = ZY ZX)
  (y_zip:nsIn K bK "zip" = ZY ZX)
  : ∃fd:gB,(∀(s:aO) (v:aH),BindsTo s fd ⟨[v],[]⟩ [("script", v)])/\∀base:fH,K.In base->base.Ns bK mg->FnOk l.prog w K mg base CX0 11 fa fd ["script"] (spOf K 1 av4):=by
 have e:=hfa.symm.trans (mg_of X G a41);cases e;have T:Txt K mg:=⟨mg_none_of X G y_abs,gH X G y_all,gH X G y_bool,gH X G y_divmod,gH X G y_enumerate,gH X G y_int,gH X G y_isinstance,gH X G y_len,gH X G y_list,gH X G y_max,gH X G y_min,gH X G y_range,gH X G y_sorted,gH X G y_sum,gH X G y_tuple,gH X G y_zip,ak3 aB_Stroll e_B_Stroll (by decide +kernel),ak3 aB_Stroll e_B_Stroll (by decide +kernel),ak3 aB_Stroll e_B_Stroll (by decide +kernel),ak3 aB_Stroll e_B_Stroll (by decide +kernel)⟩
 have F41:=aqy (st:=aj5) l41 c41 k41;have F42:=aqy (st:=lq) l42 c42 k42;have b42:=F42.binds (ps:=["self","house","arrows","room"]) λ_ _ _ _ _ _ us hl=>by obtain⟨_,_,_,_,rfl⟩:=ln4 hl;rfl
 have F43:=aqy (st:=gr) l43 c43 k43;have b43:=F43.binds (ps:=["self","rooms"]) λ_ _ _ _ _ _ us hl=>by obtain⟨_,_,rfl⟩:=ln2 hl;rfl
 refine⟨fnOf "law" "law" (j9 aj5) (iu aj5) (aa aj5) .none kV41 dc41 pm41 an41 cd41 ct41,λs v=>.of_eq rfl,λbase _ _ =>?_⟩
 have d0:Dd0 l.prog w K mg base:=⟨_,_,aok q0.F T,q0.E1 X G⟩;have d1:Dd1 l.prog w K mg base:=⟨_,_,aef q1.F T d0,q1.E3 X G⟩;have d2:Dd2 l.prog w K mg base:=⟨_,_,aeg q2.F T,q2.E3 X G⟩;have d3:Dd3 l.prog w K mg base:=⟨_,_,afk q3.F T d1,q3.E2 X G⟩;have d4:Dd4 l.prog w K mg base:=⟨_,_,afj q4.F T d3,q4.E2 X G⟩;have d5:Dd5 l.prog w K mg base:=⟨_,_,ase q5.F T d4,q5.E2 X G⟩;have d6:Dd6 l.prog w K mg base:=⟨_,_,asd q6.F T,q6.E1 X G⟩;have d7:Dd7 l.prog w K mg base:=⟨_,_,aed q7.F T d6,q7.E1 X G⟩;have d8:Dd8 l.prog w K mg base:=⟨_,_,al1 q8.F T d2 d1,q8.E2 X G⟩;have d9:Dd9 l.prog w K mg base:=⟨_,_,adm q9.F T d8,q9.E2 X G⟩;have d10:Dd10 l.prog w K mg base:=⟨_,_,al0 q10.F T,q10.E2 X G⟩;have d11:Dd11 l.prog w K mg base:=⟨_,_,ail q11.F T,q11.E2 X G⟩;have d12:Dd12 l.prog w K mg base:=⟨_,_,ayg q12.F T,q12.E2 X G⟩;have d13:Dd13 l.prog w K mg base:=⟨_,_,aoh q13.F T,q13.E2 X G⟩;have d14:Dd14 l.prog w K mg base:=⟨_,_,asb q14.F T,q14.E3 X G⟩;have d15:Dd15 l.prog w K mg base:=⟨_,_,asf q15.F T,q15.E3 X G⟩;have d16:Dd16 l.prog w K mg base:=⟨_,_,aut q16.F T d13 d14 d15,q16.E2 X G⟩;have d17:Dd17 l.prog w K mg base:=⟨_,_,aim q17.F T d16,q17.E1 X G⟩;have d18:Dd18 l.prog w K mg base:=⟨_,_,afl q18.F T,q18.E1 X G⟩;have d19:Dd19 l.prog w K mg base:=⟨_,_,ag5 q19.F T,q19.E1 X G⟩;have d20:Dd20 l.prog w K mg base:=⟨_,_,alz q20.F T,q20.E2 X G⟩;have d21:Dd21 l.prog w K mg base:=⟨_,_,aoj q21.F T d11 d20,q21.E2 X G⟩;have d22:Dd22 l.prog w K mg base:=⟨_,_,aee q22.F T d9 d4,q22.E3 X G⟩;have d23:Dd23 l.prog w K mg base:=⟨_,_,ayh q23.F T,q23.E3 X G⟩;have d24:Dd24 l.prog w K mg base:=⟨_,_,aa8 q24.F T d22 d7,q24.E3 X G⟩;have d25:Dd25 l.prog w K mg base:=⟨_,_,al2 q25.F T d5,q25.E2 X G⟩;have d26:Dd26 l.prog w K mg base:=⟨_,_,ag4 q26.F T d10 d5 d21,q26.E3 X G⟩;have m_Stroll_go_till_in:DfnM l.prog w K mg base _ _ _ _ _:=a4f aB_Stroll e_B_Stroll a43 e_F_Stroll_go_till_in k43 (ac2 (P:=l.prog) (w:=w) (base:=base) F43 T d23) b43;have n_Stroll:DfnI l.prog w K mg base _ _ _ (ar3 K _ _ acr):=a4g aB_Stroll (mg_of X G aB_Stroll) e_B_Stroll a42 e_F_Stroll_init (aio (P:=l.prog) (w:=w) (base:=base) F42 T aB_Stroll) b42;have d27:Dfn l.prog w K mg base _ _ _ _:=⟨_,_,ac1 (P:=l.prog) (w:=w) (base:=base) q27.F T d25 m_Stroll_go_till_in n_Stroll,q27.E3 X G⟩;have d28:Dfn l.prog w K mg base _ _ _ _:=⟨_,_,ag3 (P:=l.prog) (w:=w) (base:=base) q28.F T d27 d26 m_Stroll_go_till_in,q28.E3 X G⟩;have d29:Dd29 l.prog w K mg base:=⟨_,_,aik q29.F T d19 d12 d17 d18,q29.E2 X G⟩;have d30:Dd30 l.prog w K mg base:=⟨_,_,aoi q30.F T d24 d28 d5 d29,q30.E3 X G⟩;have d31:Dd31 l.prog w K mg base:=⟨_,_,al6 q31.F T,q31.E2 X G⟩;have d32:Dd32 l.prog w K mg base:=⟨_,_,aol q32.F T,q32.E1 X G⟩;have d33:Dd33 l.prog w K mg base:=⟨_,_,al5 q33.F T,q33.E2 X G⟩;have d34:Dd34 l.prog w K mg base:=⟨_,_,akj q34.F T,q34.E1 X G⟩;have d35:Dd35 l.prog w K mg base:=⟨_,_,al3 q35.F T d33,q35.E3 X G⟩;have d36:Dd36 l.prog w K mg base:=⟨_,_,ain q36.F T d33,q36.E2 X G⟩;have d37:Dd37 l.prog w K mg base:=⟨_,_,al4 q37.F T,q37.E3 X G⟩;have d38:Dd38 l.prog w K mg base:=⟨_,_,akk q38.F T d34,q38.E2 X G⟩;have d39:Dd39 l.prog w K mg base:=⟨_,_,akl q39.F T d37,q39.E3 X G⟩;have d40:Dd40 l.prog w K mg base:=⟨_,_,akm q40.F T d39 d30 d38,q40.E3 X G⟩;exact a7e F41 T d40 d31 d32 d33 d35 d36
end My
set_option genInjectivity false in
structure PySem.W.Fast where(tw1221468181016287584 tw10387887030488494848 tw9559015188914021473 tw2880823429986810914 tw4918734930525168162 tw9734439009621306372 tw11626219393667080228 tw6337529970003904580 tw5884378188325989828 tw3563948256595759012 tw15528858781764323335 tw3560777159444718567 tw212467780881056232 tw5029489623754842473 tw76951924448069258 tw5098240630307897194 tw4826527009374442891 tw7656784021997591499 tw725384249277530412 tw2982911921934718733 tw7772760178600309134 tw4568759228953497998 tw6312928926719969424 tw37638120978310930 tw17780032740432088019 tw2428654504130501750 tw18209153516480393494 tw14565099198639410710 tw10170024678853994326 tw572693279850718455 tw12741320529664475863 tw15288454849573845911 tw13594294258698347544 tw9370094709815576665 tw6139778158010305337 tw17785522314246717146 tw3399370507306016795 tw9807663548528066779 tw667113383836630331 tw6002026108609093724 tw13385330951715843932 tw4407707892157728700 tw3144983778011709 tw7827506315021476701 tw5762235396550223869 tw9273522858849040542 tw3585604976257508511 tw11669305647610338911 tw3151133636217732063 tw8752693352522836830 tw3416082787081329372 tw12621512925418741794 tw7754459097137082491 tw5384972138450290168 tw765542244042767644 tw10029409355807798379 tw1496334875144149165 tw16807467765831950346 tw13849753132176798934 tw3144760320002363650 tw7023592698282579262 tw8191998435100165138 tw12194630313396643555 tw14995330963434256381 tw6864069591724691417 tw9371027452144684540 tw14614897550073076858 tw2396665311225784476 tw13786858096985754415 tw2929117712368490932 tw3743231461576673608 tw7703523653824038070 tw1887244213806411996 tw13197402413526887315 tw3984703637761123356 tw5752177756486018322 tw18284274016871188049 tw2719327595260192897 tw12762400163086078722 tw10794463069883973113 tw8608820892408774960 tw7922151002206198299 tw14535354498678803207 tw12376013137961983662 tw17294768351107709953 tw9258283083561128204 tw15866800405330435047 tw15845499414338586568 tw9792629683484613097 tw13107315692147695386 tw5546656420985901876 tw18133197570766378786 tw16662472002527208321 tw3385788987444530227 tw17506613363148713025 tw3760221946184413324 tw6331428366446946658 tw16460847156366338082 tw7898259184108756394 tw2010295971638106625 tw10118588637063005735 tw13222376979627598080 tw1307524102290279072 tw8639523579124274651 tw1385591307648876427 tw7686783603606013638 tw15523382982776361000 tw3041090800098264707 tw7983268254502239622 tw16692588394365769067 tw6469022701351687816 tw4114960758319440512 tw11055329801044404818 tw12917462636301347546 tw18183744573251997675 tw9658197643391468182 tw1425193092310706610 tw8953078157555115808 tw1055199611447966152 tw16975768445688209134 tw16993603818063700935 tw15437184882517537430 tw4683552316154199171 tw15473446733627879430 tw14077453168803692780 tw16341038874466405260 tw11994147876062233862 tw5492154860766943653 tw17002248557884081651 tw3348075462417952103 tw12510676360974576265 tw15663870836079916847 tw4823482859703411610 tw3264633602303488459 tw15018426271774809948 tw6921609989864276510 tw5475503159026460850 tw3442764187820284462 tw12430079126299609980 tw3324380022451350940 tw269114790859953603 tw4472349010991474771 tw2056913013175829581 tw3639453920836471289 tw9046671133571698358:Unit)
open PySem PySem.W PyProof.Rows
set_option maxRecDepth 100000 in
set_option maxHeartbeats 0 in
theorem PySem.Challenge.cw_turnarrows_k25_rounds_walked_holds : PySem.Challenge.rw_turnarrows_k25_rounds_walked.Holds := by
 w_on;o_law;k_head;(case hw=>w_witness2)
 k_fill
 refine Dn.walk (l:=PySem.Challenge.rw_turnarrows_k25_rounds_walked) (f:=My.av4) (k:=11) My.ayx rfl rfl ⟨rfl,by decide,by decide,rfl⟩ (fun w h Y=>PySem.W.kIn_of Y) ?F
 case F =>
  intro w mg fa h KX G hmg;refine' My.a88 KX G hmg ?_ ?_ ?_ ?_ ?_ ?_ ?_ ?_ ?_ ?_ ?_ ?_ ?_ ?_ ?_ ?_ ?_ ?_ ?_ ?_ ?_ ?_ ?_ ?_ ?_ ?_ ?_ ?_ ?_ ?_ ?_ ?_ ?_ ?_ ?_ ?_ ?_ ?_ ?_ ?_ ?_ ?_ ?_ ?_ ?_ ?_ ?_ ?_ ?_ ?_ ?_ ?_ ?_ ?_ ?_ ?_ ?_ ?_ ?_ ?_ ?_ ?_ ?_ ?_ ?_ ?_ ?_ ?_ ?_ ?_ ?_ ?_ ?_
  all_goals try refine' And.intro ?_ (And.intro ?_ (And.intro ?_ ?_))
  any_goals k_is
  all_goals kernel_rfl
