import PyProof.Rows.All
import Wide.All
import OpenK.AllK
import Wide.FinOn
import Lean
import PyProof.EqAt
import PyProof.EqKinds
import PyProof.TupleCall
import PySem.Challenge.RW_turnarrows_k20_leavings_by_anybody
set_option Elab.async false
set_option linter.all false
set_option maxRecDepth 100000
open Array renaming length_toList->bB,getElem?_eq_some_iff->jZ,getElem?_toList->mX,getElem_toList->nA,getElem?_eq_none->rP,append_assoc->tH,toList_push->uG,getD->uH
open Bool renaming and_eq_true->bA,false_ne_true->eF,false_eq_true->iB,true_and->oG,false_and->qR,or_eq_false_iff->sJ,or_eq_true->uY,eq_iff_iff->uZ,and_false->vH,or_false->vR
open Classical renaming byContradiction->cB
open False renaming elim->gW
open ForInStep renaming yield->uT
open Function renaming comp_def->iK
open Int renaming toNat_natCast->aZ,emod_lt_of_pos->cV,emod_eq_of_lt->dH,emod_nonneg->fD,natCast_add->jH,add_zero->jN,mul_le_mul_of_nonneg_left->jO,lt_or_le->kO,add_emod_right->kW,emod_add_mul_ediv->mW,mul_add->nP,natCast_mul->pX,mul_one->pY,fmod_eq_emod_of_nonneg->qH,fdiv_eq_ediv_of_nonneg->qI,ediv_one->rY,ediv_emod_unique->sH
open List renaming getElem?_eq_getElem->aC,length_map->aD,replicate->aG,getD_eq_getElem?_getD->aH,getElem?_eq_some_iff->aM,size_toArray->aN,mem_cons_of_mem->aQ,mem_cons_self->aR,getElem?_map->aU,mem_cons->aV,map_cons->aX,range->aY,getElem?_eq_none->bG,set->bJ,getElem?_set->bL,getElem_mem->bO,mem_filter->bR,map_append->bT,length_set->bU,sum_cons->cD,length_range->cF,length_append->cG,getElem?_append_left->cL,mem_append->cN,mem_map->cO,mem_singleton->cR,mem_append_right->cT,length_replicate->cU,mem_range->cW,getElem?_range->cX,mem_of_getElem?->cY,nil_append->dD,lookup->dR,length_filter_le->dU,filterMap_cons->dW,not_mem_nil->dX,length_cons->dY,replicate_succ->eU,ext_getElem?->eX,count_append->eY,pairwise_cons->fC,map_map->fG,range_succ->fK,all_eq_true->fL,getElem?_replicate->fM,getElem?_append_right->fV,findIdx?_eq_some_iff_getElem->fZ,mem_iff_getElem->gC,mem_append_left->gD,flatten_cons->gG,length_zipWith->gP,length_take->gQ,pairwise_lt_range->gY,foldl_cons->iG,reverse_cons->iJ,length_drop->iV,length_pos_iff->iW,map_set->jB,map_replicate->jF,append_nil->jG,getElem?_zipWith->jM,all_cons->jQ,foldl->jR,map_congr_left->jW,forIn_cons->jX,all_map->kJ,findIdx?_eq_none_iff->lC,drop_eq_getElem_cons->lD,append_assoc->lM,zipIdx_cons->mC,cons_append->mD,zipIdx_nil->mO,nodup_cons->mQ,filter_map->mR,cons.injEq->mU,Pairwise.sublist->mV,getElem?_mapIdx->mZ,forIn_nil->nG,filter_eq_self->nO,findIdx?->nW,filter_filter->nY,filterMap_map->nZ,count_eq_zero->oA,Pairwise.cons->oE,pairwise_map->oR,nodup_append->oU,Pairwise.nil->oV,map_nil->oZ,take_length->pD,filter_cons->pF,ext_getElem->pG,eq_nil_of_length_eq_zero->pH,sum_append->pQ,of_mem_zip->pR,length_zip->pU,all_append->pW,length_eraseIdx_of_lt->qG,mem_or_eq_of_mem_set->qM,getElem?_zip_eq_some->qN,drop_zero->qO,append_eq_append_iff->qP,getElem?_take_of_lt->qX,zip->rF,map_take->rG,length_eq_zero_iff->rH,take_of_length_le->rM,getElem?_set_self->rN,drop_eq_nil_of_le->rO,Pairwise.of_cons->rW,mem_of_mem_take->sE,getElem?_set_ne->sG,map_id->sV,length_reverse->sW,filter_sublist->sX,mem_filterMap->sZ,length_mapIdx->tD,take_sublist->tW,take_add_one->tX,length_erase->tY,getElem_drop->tZ,foldl_append->uA,Pairwise.imp->uB,Nodup->uC,take_left'->uR,map_drop->vN,any_cons->vO
open Nat renaming le_refl->aL,ne_of_lt->bC,zero_add->bW,lt_of_lt_of_le->bY,le_trans->cC,zero_le->dJ,ne_of_gt->fX,lt_or_ge->fY,lt_succ_self->iU,lt_irrefl->jE,lt_trans->jL,le_succ->jV,le_of_lt->kE,le_of_eq->kI,succ_le_succ->lZ,not_lt_zero->mL,mul_le_mul_right->mY,lt_of_le_of_lt->nT,eq_zero_or_pos->nU,lt_succ_of_lt->oO,min_eq_left->pP,sub_zero->rR,mul_comm->rT,le_add_right->uL
open Ne renaming symm->iR
open Option renaming some.inj->bK,map_eq_some_iff->bM,getD_none->pC,isSome_iff_exists->qW,bind_some->uK
open Or renaming inl->bH,inr->lK
open PyProof renaming Rows.slot_tuple_getitem->bZ,Rows.callWith_type1->fU,Rows.LSm.kept_iter->lW,Rows.IntsAre->lX,Rows.F.plain_set_update_loop->lY,Rows.AllBare->nQ,Rows.envOfC->nR,Rows.F.entry_set_update_loop->rJ
open PySem renaming wpAny_bind->aA,Heap.get?_push_of_some->aB,wpAny_pure->aF,Shared->aJ,Heap.get?_push_size->aK,mainGlobals->aO,Heap.lt_size->aP,starEach->aW,Heap.size_push->bD,wpAny_newObj_type->bF,Program->bI,bootBuiltins->bN,Heap.get?_update_self->bQ,sizeLine->bV,Heap.SameBut.update->cA,Heap.SameBut->cH,PassesOwn.never->cI,wpAny_field->cJ,Around->cM,SetTable->cP,wpAny_callSpecial?_slot->cQ,Builtin.Tuple.tupleExact->cZ,Obj.data_mapFields->dB,wpAny_call_entry->dC,wpAny_seqItems->dF,wpAny_mono->dG,Builtin.Slice.slicePlaces->dI,NameKind.free->dN,W.kia_one->dO,compareOp->dZ,wpAny_setField_rec->eE,Heap.get?_update_other->eG,W.keepIn->eH,SetTable.below->eN,wpAny_holding->eQ,assignEach->eV,W.codeIn->fB,binaryOp->fH,Value.ref->fJ,FuncData->fO,W.mg_none_of->fP,Value.none->fQ,Obj.mapSeq->fW,sizeLine_eq->gA,Builtin.Slice.sliceAdjust->gB,W.emptyDict->gF,Builtin->gH,Str.ofString->gJ,behindInMarks->gK,mem_of_lookup->gM,wpAny_setField->gR,wpAny_rule->gU,W.instObj->iC,Obj.isFreed_of_fields->iD,Value.type->iH,NameKind.cell->iI,F.slot_tuple_iterator_next->iM,Builtin.Slice.sliceApplied->iQ,Around.under_plainId->iT,call_meets->iY,F.type_list_append->iZ,F.slot_list_append->jA,F.called_set->jC,pickOrder->jD,F.slot_int_rmul->jJ,sliceBounds->jK,backTo->jP,rawInt->jT,Builtin.Tuple.tupleItemsOf->jY,holding->kY,getItem->kZ,SetTable.grown->lA,W.InstAt->lB,scanBound->lE,pyNext->lF,W.specialIn->lH,F.args_tuple_add_2->lJ,Obj.cls_mapFields->lL,AutoSeq1.wpAny_loadPart'->lN,Value.builtin->lO,Shared.heap->lQ,W.subIn->lR,W.clsIn->lU,F.entry_tuple_add->lV,F.slot_tuple_mul->mF,F.slot_tuple_add->mG,argBest->mH,Value.int->mJ,W.findObj->mK,assign->nD,W.kitOne->nF,intKind->nH,hashInt->nJ,codeAny->nM,Heap.IsSliceOf.new->oF,setNext->oH,callerA->oJ,W.methodObj->oK,W.kitx_list->oM,PyData.eqv->oN,F.args_int_rmul_2->oW,BindsTo->oX,W.findIn->oY,IsPart->pA,W.any_some->pB,F.slot_int_index->pI,F.entry_int_rmul->pJ,F.args_tuple_iterator_next_1->pK,Builtin.divisionGoesByPylong->pL,W.takesIn->pN,W.OpenLaw->pO,Heap.get?->pZ,F.fills_int_mul->qC,F.entry_tuple_iterator_next->qD,Builtin.List.listExtendWith->qF,Calls.Name_function_global->qJ,Builtin.Tuple.tupleTooMany->qK,W.lookIn->qL,Builtin.Slice.sliceFields->qQ,argsOk->qT,Value.bool->qU,Builtin.List.listTooLong->qY,Builtin.List.listSameRef->qZ,W.mroIn->rA,F.slot_list_index->rB,F.plainAttrs_list->rC,F.attr_ValueError->rD,NameKind->rE,W.cellsFrom_some->rK,PassesOwn->rQ,W.looks_findIn->rZ,F.slot_tuple_ne_refl->sI,Walks.tuple->sO,Value.isInt->sU,Heap.ExtBut->sY,F.args_tuple_mul_2->tE,Calls.Constant_str->tG,Walks.list->tK,SetTable.probe.go->tL,SetTable.below.go->tM,call->tO,W.kitx_dict->tQ,W.hasDictIn->tR,PyData.canLayAll0->tU,Obj.putSet->tV,F.slot_tuple_rmul->uD,F.plain_list_iadd->uE,F.entry_tuple_mul->uF,seqSlot_of->uI,W.plainGet->uJ,F.sub_tuple_dict->uM,Value.str->uN,W.kitMeta->uO,PyData.depthAll->uP,Paired->uQ,F.slot_zip_next->uU,F.slot_set_iter->uV,F.plain_set_new->uW,F.entry_zip_new->uX,SetTable.Probe->vA,W.typeIn->vB,W.notCls->vC,F.slot_dict_ne->vD,F.owner_object->vG,Value.isStrOf->vI,SetTable.laid->vJ,W.WalkO->vK,PyData.eqvAll->vL,Obj.mapFields->vM,CmpOf.ints_lt->vP,CmpOf.ints_gt->vQ
open Sum renaming inr->jU,inl->pM
open True renaming intro->lG
noncomputable section
open PySem.W (nsIn mg_of keepIn fnOf codeIn findIn mg_none_of)
abbrev Fg9:=PySem.W.Frag
abbrev LL9:=List (List Int)
section
open PySem PySem.Spec PyProof.Rows
namespace L2
abbrev Key:=Sum Int Str
def atc:Key->Value->Bool
 | .inl k,v=>sU k v
 | .inr x,v=>vI x v
def keyH(w:World):Key->Int
 | .inl k=>nJ k
 | .inr x=>hashStr w x
theorem m8:∀{k:Key} {v:Value},atc k v=true->(∃i t,k=pM i/\v=mJ i t)∨(∃x t,k=jU x/\v=uN x t)
 | .inl i,v,h=>by
  obtain⟨t,e⟩:=Value.isInt_shape (k:=i) (v:=v) h;exact .inl ⟨i,t,rfl,e⟩
 | .inr x,v,h=>by
  obtain⟨t,e⟩:=Value.isStrOf_shape (x:=x) (v:=v) h;exact .inr ⟨x,t,rfl,e⟩
theorem apz(x:Str)(t:Tok):atc (.inr x) (.str x t)=true:=by simp[atc,vI]
theorem a0h(a b:Int):decide ((pM a:Key)=pM b)=(a==b):=by
 by_cases e:a=b
 ·subst e;simp
 ·have h:¬(pM a:Key)=pM b:=fun q=>e (Sum.inl.inj q)
  rw[decide_eq_false h];exact(beq_eq_false_iff_ne.mpr e).symm
theorem a0e(a b:Str):decide ((jU a:Key)=jU b)=decide (a=b):=by
 by_cases e:a=b
 ·subst e;simp
 ·have h:¬(jU a:Key)=jU b:=fun q=>e (Sum.inr.inj q)
  rw[decide_eq_false h,decide_eq_false e]
theorem a0g(a:Int)(b:Str):decide ((pM a:Key)=jU b)=false:=decide_eq_false (fun q=>nomatch q)
theorem a0f(a:Str)(b:Int):decide ((jU a:Key)=pM b)=false:=decide_eq_false (fun q=>nomatch q)
def aht(prog:bI)(w:World):PySem.KeyKind prog w Key where
 is:=atc
 hash:=keyH w
 inj:=fun v a b ha hb=>by
  rcases m8 ha with⟨i,t,rfl,rfl⟩ | ⟨x,t,rfl,rfl⟩
  ·rcases m8 hb with⟨j,u,rfl,e⟩ | ⟨y,u,rfl,e⟩
   ·injection e with e1 _;rw[e1]
   ·exact nomatch e
  ·rcases m8 hb with⟨j,u,rfl,e⟩ | ⟨y,u,rfl,e⟩
   ·exact nomatch e
   ·injection e with e1 _;rw[e1]
 byValue:=fun k v h=>by
  rcases m8 h with⟨i,t,rfl,rfl⟩ | ⟨x,t,rfl,rfl⟩ <;> rfl
 pyHash:=fun hv h=>by
  rcases m8 hv with⟨i,t,rfl,rfl⟩ | ⟨x,t,rfl,rfl⟩
  ·exact wpAny_pyHash_int h
  ·exact wpAny_pyHash_str h
 eqBool:=fun hu hv h=>by
  rcases m8 hu with⟨i,t,rfl,rfl⟩ | ⟨x,t,rfl,rfl⟩
  ·rcases m8 hv with⟨j,u,rfl,rfl⟩ | ⟨y,u,rfl,rfl⟩
   ·rw[a0h] at h;exact wpAny_eqBool_int h
   ·rw[a0g] at h;exact SeqAt.EqAt.int_str i t y u _ _ _ _ h
  ·rcases m8 hv with⟨j,u,rfl,rfl⟩ | ⟨y,u,rfl,rfl⟩
   ·rw[a0f] at h;exact SeqAt.EqAt.str_int x t j u _ _ _ _ h
   ·rw[a0e] at h;exact wpAny_eqBool_str h
 «strs» := fun k x t v h=>by
  rcases m8 h with⟨i,u,rfl,e⟩ | ⟨y,u,rfl,e⟩
  ·exact nomatch e
  ·injection e with e1 _
   subst e1;cases v <;> rfl
theorem aku(prog:bI)(w:World)(x:Str)(t:Tok):(aht prog w).is (.inr x) (.str x t)=true:=apz x t
def IsTp(h:Heap)(a:Addr)(items:Array Value):Prop:=∃o,h.get? a=some o/\o.cls=.type "tuple" /\ o.dict=none/\∃n,o.data=.seq items n
theorem IsTp.tup{h:Heap}{a:Addr}{items:Array Value}(x:IsTp h a items):IsTup h a items:=let ⟨o,e,c,_,n,d⟩:=x;⟨o,e,c,n,d⟩
theorem IsTp.new(h:Heap)(items:Array Value):IsTp (h.push { cls:=.type "tuple", data:=.seq items }) h.objs.size items:=⟨_,aK _ rfl,rfl,rfl,_,rfl⟩
inductive V where
 | non | bl (b:Bool) | int (i:Int) | str (x:Str) | byt (b:Array UInt8) | flt (b:UInt64) | ref (a:Addr) | ty (n:String)
 deriving DecidableEq
def RelV:V->Value->Prop
 | .non,u=>u=fQ
 | .bl b,u=>u=qU b
 | .int i,u=>∃t,u=mJ i t
 | .str x,u=>∃t,u=uN x t
 | .byt b,u=>∃t,u=Value.bytes b t
 | .flt b,u=>∃t,u=Value.float b t
 | .ref a,u=>u=fJ a
 | .ty n,u=>u=iH n
abbrev Vals:List V->List Value->Prop:=uQ RelV
theorem Vals.length{xs:List V}{us:List Value}(r:Vals xs us):xs.length=us.length:=Paired.length r
theorem Vals.get:∀{xs:List V} {us:List Value} {i:Nat} {x:V},Vals xs us->xs[i]? = some x->∃u,us[i]? = some u/\RelV x u
 | _,_,_,_,.nil,e=>by simp at e
 | _,_,0,_,.cons r _,e=>by simp at e;subst e;exact⟨_,rfl,r⟩
 | _,_,i+1,x,.cons _ t,e=>by
  obtain⟨u,h1,h2⟩:=Vals.get (i:=i) (x:=x) t (by simpa using e)
  exact⟨u,by simpa using h1,h2⟩
theorem Vals.set{x:V}{u:Value}(r:RelV x u):∀{xs:List V} {us:List Value} (i:Nat),Vals xs us->Vals (xs.set i x) (us.set i u)
 | _,_,_,.nil=>.nil
 | _,_,0,.cons _ t=>.cons r t
 | _,_,i+1,.cons q t=>.cons q (Vals.set r i t)
theorem Vals.append:∀{xs ys:List V} {us ws:List Value},Vals xs us->Vals ys ws->Vals (xs++ys) (us++ws)
 | _,_,_,_,.nil,s=>s
 | _,_,_,_,.cons r t,s=>.cons r (Vals.append t s)
theorem Vals.take:∀{xs:List V} {us:List Value} (n:Nat),Vals xs us->Vals (xs.take n) (us.take n)
 | _,_,0,_=>.nil
 | _,_,_+1,.nil=>.nil
 | _,_,n+1,.cons r t=>.cons r (Vals.take n t)
theorem Vals.drop:∀{xs:List V} {us:List Value} (n:Nat),Vals xs us->Vals (xs.drop n) (us.drop n)
 | _,_,0,r=>r
 | _,_,_+1,.nil=>.nil
 | _,_,n+1,.cons _ t=>Vals.drop n t
def RelO:Option V->Option Value->Prop
 | some v,some u=>RelV v u
 | none,none=>True
 | _,_=>False
def KV{κ:Type}:List (κ×V)->List (κ×Value)->Prop:=uQ fun(p:κ×V) (q:κ×Value)=>p.1=q.1/\RelV p.2 q.2
def kV:Key->V
 | .inl i=>.int i
 | .inr x=>.str x
inductive HO where
 | lst (xs:List V)
 | tup (xs:List V)
 | dK (kvs:List (Key×V)) | dT (kvs:List (List Key×V))
 | set (S:Int->Bool) (n:Nat)
 | ins (C dx:Addr) (fs:List (Str×V))
 | own (x:Addr)
 | xd (fs:List (Str×V))
 | met (f x:Addr)
 | rng (lo hi:Int)
 | frz (o:Obj) (u:HO)
 | tbl (ps:Array Value)
 | ext (φ:Heap->Prop)
abbrev Hp:=Addr->Option HO
def upd(H:Hp)(a:Addr)(o:HO):Hp:=fun b=>if b=a then some o else H b
theorem jm{H:Hp}{a:Addr}{o:HO}:upd H a o a=some o:=by unfold upd;rw[if_pos rfl]
theorem fj{H:Hp}{a b:Addr}{o:HO}(h:b≠a):upd H a o b=H b:=by unfold upd;rw[if_neg h]
theorem ji{H:Hp}{a b:Addr}{o:HO}(h:H a=some o)(h':H b=none):a≠b:=by
 intro e;subst e;rw[h] at h';cases h'
section
variable(P:bI)(w:World)
def ym(H:Hp)(h:Heap)(a:Addr):HO->Prop
 | .lst xs=>xs.length<=bV/\∃(its:List Value) (n:Nat),Vals xs its/\h.get? a=some { cls:=.type "list", data:=.seq its.toArray n }
 | .tup xs=>xs.length<=bV/\∃its:List Value,Vals xs its/\IsTp h a its.toArray
 | .dK kvs=>kvs.length<=bV/\(a==sysModules)=false/\∃vs,KV kvs vs/\h.DictOf (aht P w) a vs
 | .dT kvs=>kvs.length<=bV/\(a==sysModules)=false/\∃xs:List (List Key×Addr×Value),
   uQ (fun(p:List Key×V) (q:List Key×Addr×Value)=>p.1=q.1/\H q.2.1=some (.tup (p.1.map kV))/\RelV p.2 q.2.2) kvs xs /\
   ∃o es ep,h.get? a=some o/\o.ExactDict/\o.data=.dict es ep/\es.toList=xs.map (entryOfKey (tupleKind (aht P w)))/\(xs.map (·.1)).Nodup
 | .set S n=>h.SetOf (nH P w) a S n
 | .ins C dx fs=>H dx=some (.own a)/\fs.length<=1000/\dx≠a/\h.get? a=some (iC C dx) /\
   ∃mA,h.Ns1 dx mA/\(∀f,RelO (fs.lookup f) (mA f))/\PySem.Within mA (fs.map (·.1))
 | .own _=>∃o,h.get? a=some o
 | .xd fs=>∃mA,h.Ns1 a mA/\∀f,RelO (fs.lookup f) (mA f)
 | .rng lo hi=>∃t u v,h.get? a=some { cls:=.type "range", data:=.fields #[.int lo t,.int hi u,.int 1 v] }
 | .frz o u=>h.get? a=some o/\ym H h a u
 | .tbl ps=>h.get? a=some { cls:=.none,data:=.fields ps }
 | .met f x=>h.get? a=some (oK (.ref f) (.ref x))
 | .ext φ=>φ h/\(∃o,h.get? a=some o)/\∀h1 h2:Heap,φ h1->(∀o,h1.get? a=some o->h2.get? a=some o)->φ h2
def HOk(H:Hp)(h:Heap):Prop:=∀a o,H a=some o->ym P w H h a o
end
section
variable{P:bI}{w:World}{H H':Hp}{h h':Heap}{a:Addr}{o:HO}
theorem ym.lt(x:ym P w H h a o):a < h.objs.size:=by
 cases o with
 | lst xs=>obtain⟨_,_,_,_,e⟩:=x;exact aP e
 | tup xs=>obtain⟨_,_,_,p⟩:=x;exact p.tup.lt
 | dK kvs=>obtain⟨_,_,_,_,o,_,_,e,_⟩:=x;exact aP e
 | dT kvs=>obtain⟨_,_,_,_,o,_,_,e,_⟩:=x;exact aP e
 | set S n=>obtain⟨o,_,_,_,e,_⟩:=x;exact aP e
 | ins C dx fs=>obtain⟨_,_,_,e,_⟩:=x;exact aP e
 | own y=>obtain⟨_,e⟩:=x;exact aP e
 | xd fs=>obtain⟨_,⟨_,_,_,e,_⟩,_⟩:=x;exact aP e
 | rng lo hi=>obtain⟨_,_,_,e⟩:=x;exact aP e
 | frz ob u=>obtain⟨e,_⟩:=x;exact aP e
 | tbl ps=>exact aP (show h.get? a=some _ from x)
 | met f y=>exact aP (show h.get? a=some _ from x)
 | ext φ=>obtain⟨_,⟨_,e⟩,_⟩:=x;exact aP e
theorem Paired.mapP{α β:Type}{F G:α->β->Prop}:∀{l₁:List α} {l₂:List β},uQ F l₁ l₂->(∀a b,F a b->G a b)->uQ G l₁ l₂
 | _,_,.nil,_=>.nil
 | _,_,.cons r t,f=>.cons (f _ _ r) (Paired.mapP t f)
theorem ym.stay(x:ym P w H h a o)(k:∀b u,(b=a∨H b=some (.own a))->h.get? b=some u->h'.get? b=some u)
  (ho:∀b,H b=some (.own a)->H' b=some (.own a)) (ht:∀b xs,H b=some (.tup xs)->H' b=some (.tup xs)):ym P w H' h' a o:=by
 induction o with
 | lst xs=>obtain⟨z,its,n,r,e⟩:=x;exact⟨z,its,n,r,k _ _ (.inl rfl) e⟩
 | tup xs=>obtain⟨z,its,r,ob,e,c⟩:=x;exact⟨z,its,r,ob,k _ _ (.inl rfl) e,c⟩
 | dK kvs=>obtain⟨z,y,vs,r,ob,es,ep,e,c⟩:=x;exact⟨z,y,vs,r,ob,es,ep,k _ _ (.inl rfl) e,c⟩
 | dT kvs =>
  obtain⟨z,y,xs,r,ob,es,ep,e,c⟩:=x;exact⟨z,y,xs,Paired.mapP r fun p q z=>⟨z.1,ht _ _ z.2.1,z.2.2⟩,ob,es,ep,k _ _ (.inl rfl) e,c⟩
 | set S n=>obtain⟨ob,es,ep,t,e,c⟩:=x;exact⟨ob,es,ep,t,k _ _ (.inl rfl) e,c⟩
 | ins C dx fs =>
  obtain⟨d,z,ne,e,mA,⟨od,es,ep,e2,c⟩,r⟩:=x;exact⟨ho _ d,z,ne,k _ _ (.inl rfl) e,mA,⟨od,es,ep,k _ _ (.inr d) e2,c⟩,r⟩
 | own y=>obtain⟨ob,e⟩:=x;exact⟨ob,k _ _ (.inl rfl) e⟩
 | xd fs=>obtain⟨mA,⟨od,es,ep,e,c⟩,r⟩:=x;exact⟨mA,⟨od,es,ep,k _ _ (.inl rfl) e,c⟩,r⟩
 | rng lo hi=>obtain⟨t,u,v,e⟩:=x;exact⟨t,u,v,k _ _ (.inl rfl) e⟩
 | frz ob u ih=>obtain⟨e,q⟩:=x;exact⟨k _ _ (.inl rfl) e,ih q⟩
 | tbl ps =>
  have e:h.get? a=some { cls:=.none,data:=.fields ps }:=x;show h'.get? a=some { cls:=.none,data:=.fields ps };exact k a _ (.inl rfl) e
 | met f y =>
  have e:h.get? a=some (oK (.ref f) (.ref y)):=x;show h'.get? a=some (oK (.ref f) (.ref y));exact k a _ (.inl rfl) e
 | ext φ=>obtain⟨p,⟨o,e⟩,st⟩:=x;exact⟨st _ _ p fun o q=>k _ _ (.inl rfl) q,⟨o,k _ _ (.inl rfl) e⟩,st⟩
theorem HOk.lt(x:HOk P w H h)(e:H a=some o):a < h.objs.size:=(x a o e).lt
theorem HOk.fresh(x:HOk P w H h)(e:h.objs.size<=a):H a=none:=by
 cases q:H a with
 | none=>rfl
 | some u=>exact absurd (bY (x.lt q) e) (jE _)
theorem HOk.kept(x:HOk P w H h)(k:∀b u,h.get? b=some u->h'.get? b=some u):HOk P w H h':=fun a o e =>
 (x a o e).stay (fun b u _ q=>k b u q) (fun _ q=>q) fun _ _ q=>q
theorem HOk.laid(x:HOk P w H h)(k:∀b u,h.get? b=some u->h'.get? b=some u)(hp:h.objs.size<=a)(new:ym P w (upd H a o) h' a o):HOk P w (upd H a o) h':=fun b u e=>by
 have hn:=x.fresh hp
 by_cases hb:b=a
 ·subst hb;rw[jm] at e;cases e;exact new
 ·rw[fj hb] at e;exact(x b u e).stay (fun c v _ q=>k c v q) (fun c q=>by rw[fj (ji q hn)];exact q) fun c xs q=>by rw[fj (ji q hn)];exact q
end
def Rd(H:Hp)(a:Addr)(u:HO):Prop:=H a=some u∨∃o,H a=some (.frz o u)
theorem Rd.of{H:Hp}{a:Addr}{u:HO}(h:H a=some u):Rd H a u:=.inl h
theorem Rd.ok{P:bI}{w:World}{H:Hp}{h:Heap}{a:Addr}{u:HO}(r:Rd H a u)(x:HOk P w H h):ym P w H h a u:=by
 rcases r with r | ⟨o,r⟩
 ·exact x a u r
 ·obtain⟨_,q⟩:=x a _ r;exact q
def Mut:Option HO->Prop
 | some (.lst _)=>True
 | some (.dK _)=>True
 | some (.dT _)=>True
 | some (.set _ _)=>True
 | some (.ins _ _ _)=>True
 | some (.ext _)=>True
 | _=>False
section
variable{P:bI}{w:World}{H:Hp}{h h':Heap}{x e:Addr}{o':HO}
theorem HOk.write(ok:HOk P w H h)(mu:Mut (H x))(he:e=x∨H e=some (.own x))(k:∀b u,b≠e->h.get? b=some u->h'.get? b=some u)(heo:∃u,h'.get? e=some u)
  (new:ym P w (upd H x o') h' x o'):HOk P w (upd H x o') h':=fun b u q=>by
 have nown:∀c y,H c=some (.own y)->c≠x:=fun c y r z=>by subst z;rw[r] at mu;exact mu
 have ntup:∀c xs,H c=some (.tup xs)->c≠x:=fun c xs r z=>by subst z;rw[r] at mu;exact mu
 by_cases hb:b=x
 ·subst hb;rw[jm] at q;cases q;exact new
 ·rw[fj hb] at q
  by_cases hbe:b=e
  ·have q':H b=some (.own x):=by
    rcases he with z | z
    ·exact absurd (hbe.trans z) hb
    ·rw[hbe];exact z
   rw[q] at q';cases q';obtain⟨v,hv⟩:=heo;exact⟨v,by rw[hbe];exact hv⟩
  ·refine(ok b u q).stay (fun c v hc r=>k c v ?_ r) (fun c r=>by rw[fj (nown c b r)];exact r) fun c xs r=>by rw[fj (ntup c xs r)];exact r
   rcases hc with rfl | hc
   ·exact hbe
   ·rintro rfl
    rcases he with z | z
    ·exact nown c b hc z
    ·rw[hc] at z;cases z;exact hb rfl
end
structure Un (fs ex:List Addr) (H H':Hp) (h h':Heap):Prop where
 keep:∀b o,h.get? b=some o->H b=none->b∉fs->b∉ex->h'.get? b=some o
 slot:∀b o,h.get? b=some o->H b=none->b∈fs->b∉ex->∃sl,h'.get? b=some { o with slots:=sl }
 free:∀b o,h.get? b=some o->H b=none->b∉ex->H' b=none
 there:∀b o,h.get? b=some o->b∉ex->∃o',h'.get? b=some o'
 tups:∀b xs,H b=some (.tup xs)->H' b=some (.tup xs)
 frzs:∀b o u,H b=some (.frz o u)->H' b=some (.frz o u)
 tbls:∀b ps,H b=some (.tbl ps)->∃more,H' b=some (.tbl (ps++more))
section
variable{fs fs' ex ex':List Addr}{H H1 H2:Hp}{h h1 h2 h':Heap}{a x e:Addr}{o:HO}
theorem Un.any(u:Un fs ex H H1 h h1){b:Addr}{ob:Obj}(q:h.get? b=some ob)(n:H b=none)(hx:b∉ex):∃sl,h1.get? b=some { ob with slots:=sl }:=by
 by_cases hb:b∈fs
 ·exact u.slot b ob q n hb hx
 ·exact⟨ob.slots,u.keep b ob q n hb hx⟩
theorem Un.trans(a:Un fs ex H H1 h h1)(b:Un fs ex H1 H2 h1 h2):Un fs ex H H2 h h2 where
 keep:=fun c ob q n hc hx=>b.keep c ob (a.keep c ob q n hc hx) (a.free c ob q n hx) hc hx
 slot:=fun c ob q n hc hx=>by
  obtain⟨sl,e1⟩:=a.slot c ob q n hc hx;obtain⟨sl',e2⟩:=b.slot c _ e1 (a.free c ob q n hx) hc hx;exact⟨sl',e2⟩
 free:=fun c ob q n hx=>by
  obtain⟨o',e1⟩:=a.there c ob q hx;exact b.free c o' e1 (a.free c ob q n hx) hx
 there:=fun c ob q hx=>by
  obtain⟨o',e1⟩:=a.there c ob q hx;exact b.there c o' e1 hx
 tups:=fun c xs q=>b.tups c xs (a.tups c xs q)
 frzs:=fun c ob xs q=>b.frzs c ob xs (a.frzs c ob xs q)
 tbls:=fun c ps q=>by
  obtain⟨m1,e1⟩:=a.tbls c ps q;obtain⟨m2,e2⟩:=b.tbls c _ e1;exact⟨m1++m2,by rw[e2,tH]⟩
theorem Un.kept(k:∀b u,h.get? b=some u->h'.get? b=some u):Un fs ex H H h h' :=
 ⟨fun b ob q _ _ _=>k b ob q,fun b ob q _ _ _=>⟨ob.slots,k b ob q⟩,fun _ _ _ n _=>n,fun b ob q _=>⟨ob,k b ob q⟩,fun _ _ q=>q,fun _ _ _ q=>q,fun _ ps q=>⟨#[],by rw[q];simp⟩⟩
theorem Un.refl:Un fs ex H H h h:=Un.kept fun _ _ q=>q
theorem Un.laid(k:∀b u,h.get? b=some u->h'.get? b=some u)(hp:h.objs.size<=a)(hn:H a=none):Un fs ex H (upd H a o) h h' where
 keep:=fun b u q _ _ _=>k b u q
 slot:=fun b u q _ _ _=>⟨u.slots,k b u q⟩
 free:=fun b u q n _=>by rw[fj (bC (bY (aP q) hp))];exact n
 there:=fun b u q _=>⟨u,k b u q⟩
 tups:=fun b xs q=>by rw[fj (ji q hn)];exact q
 frzs:=fun b u xs q=>by rw[fj (ji q hn)];exact q
 tbls:=fun b ps q=>⟨#[],by rw[fj (ji q hn),q];simp⟩
theorem Un.write(mu:Mut (H x))(he:e=x∨H e=some (.own x))(k:∀b u,b≠e->h.get? b=some u->h'.get? b=some u)(heo:∃u,h'.get? e=some u):Un fs ex H (upd H x o) h h':=by
 have hx:∀b,H b=none->b≠x:=fun b n z=>by subst z;rw[n] at mu;exact mu
 have hb:∀b,H b=none->b≠e:=fun b n z=>by
  subst z;rcases he with r | r
  ·exact hx b n r
  ·rw[n] at r;cases r
 have hm:∀b u,H b=some u->¬Mut (some u)->b≠x:=fun b u q nm z=>by subst z;rw[q] at mu;exact nm mu
 refine⟨fun b u q n _ _=>k b u (hb b n) q,fun b u q n _ _=>⟨u.slots,k b u (hb b n) q⟩,fun b u q n _=>by rw[fj (hx b n)];exact n,fun b u q _ =>?_,
  fun b xs q=>by rw[fj (hm b _ q fun z=>z)];exact q,fun b u xs q=>by rw[fj (hm b _ q fun z=>z)];exact q,fun b ps q=>⟨#[],by rw[fj (hm b _ q fun z=>z),q];simp⟩⟩
 by_cases hbe:b=e
 ·subst hbe;exact heo
 ·exact⟨u,k b u hbe q⟩
theorem Un.mono(u:Un fs ex H H1 h h1)(hs:∀b∈fs,b∈fs')(hx:∀b∈ex,b∈ex'):Un fs' ex' H H1 h h1 :=
 ⟨fun b ob q n hb he=>u.keep b ob q n (fun z=>hb (hs b z)) fun z=>he (hx b z),fun _ _ q n _ he=>u.any q n fun z=>he (hx _ z),fun b ob q n he=>u.free b ob q n fun z=>he (hx b z),fun b ob q he=>u.there b ob q fun z=>he (hx b z),u.tups,u.frzs,u.tbls⟩
end
def trk(h:Heap)(H:Hp):List Addr:=(aY h.objs.size).filter fun a=>(H a).isSome
def hidT(h:Heap)(H:Hp):Heap:=PySem.W.hideAll h (trk h H)
theorem ap6(h:Heap)(H:Hp):(hidT h H).objs.size=h.objs.size:=PySem.W.hideAll_size _ _
theorem atm{h:Heap}{H:Hp}{b:Addr}{o:Obj}(e:h.get? b=some o)(n:H b=none):(hidT h H).get? b=some o :=
 PySem.W.hideAll_get _ e fun hm=>by
  have q:(H b).isSome=true:=(bR.mp hm).2;rw[n] at q;simp at q
theorem awk{h:Heap}{H:Hp}{b:Addr}{o:Obj}(e:(hidT h H).get? b=some o):h.get? b=some o/\H b=none:=by
 have e':h.get? b=some o:=PySem.W.of_hideAll (trk h H) e;refine⟨e',?_⟩;cases q:H b with
 | none=>rfl
 | some x =>
  have hm:b∈trk h H:=bR.mpr ⟨List.mem_range.mpr (aP e'),by simp[q]⟩
  have z:(hidT h H).get? b=none:=PySem.W.hideAll_none (trk h H) hm;rw[z] at e;cases e
def ax3(g h:Heap)(L:Addr):List (Addr×Obj):=(aY h.objs.size).filterMap fun a=>if a=L∨(g.get? a).isSome=true then none else (h.get? a).map fun o=>(a,o)
def rest(g h:Heap)(L d:Addr):List (Addr×Obj):=(ax3 g h L).filter fun p=>decide (p.1≠d)
structure Mod (K:Fg9) (mg:Str->Option Value) (base:Heap):Prop where
 kin:K.In base
 glob:base.Ns aO mg
 blt:∃mb,base.Ns builtinsNs mb/\∀x:Str,x ≠ "__name__" -> mb x=bN x
 nolimit:base.NoLimit
structure Cx where
 prog:bI
 w:World
 K:Fg9
 mg:Str->Option Value
 base:Heap
 A:cM
 N:List Str
 s₀:aJ
 H₀:Hp
 env:Env
 outer:List Env
 stack:List Env
 ex:List Addr
 fn:Str->Bool
 calm:Bool
 pn:List (Addr×Obj)
 xe:Value->aJ->Prop
def frs(l:List Env):List Addr:=l.filterMap (·.frame)
abbrev Cx.fs(X:Cx):List Addr:=frs X.outer
def Vis(sc:Scope)(x:Str):Prop:=sc.names.lookup x=some .local∨sc.names.lookup x=some .cell∨sc.names.lookup x=some .free
def Loc(sc:Scope)(x:Str):Prop:=sc.names.lookup x=some .local∨sc.names.lookup x=some .cell
def Look(env:Env)(h:Heap)(m:Str->Option Value)(x:Str)(u:Value):Prop :=
 (env.kindOf x=some .local/\m x=some u)∨((env.kindOf x=some .cell∨env.kindOf x=some .free)/\∃c,env.cells.lookup x=some c/\h.IsCell c (some u))
structure Cx.Ok (X:Cx):Prop where
 mod:Mod X.K X.mg X.base
 kind:X.env.scope.kind=.function
 glob:X.env.globals=aO
 blt:X.env.builtins=builtinsNs
 above:X.s₀.heap.objs.size<=X.env.locals
 inj:∀x y c,X.env.cells.lookup x=some c->X.env.cells.lookup y=some c->x=y
 has:∀x,(X.env.kindOf x=some .cell∨X.env.kindOf x=some .free)->∃c,X.env.cells.lookup x=some c
 cab:∀x c,X.fn x=true->X.env.cells.lookup x=some c->X.s₀.heap.objs.size<=c
 hd:X.calm=true->X.A.handled=none
 frames:X.A.frames=some X.stack
 stk:X.stack=X.outer∨(X.stack=X.env::X.outer/\X.env.frame=some X.env.locals)
 exf:∀b∈X.ex,b≠X.env.locals/\∀x c,X.env.cells.lookup x=some c->c≠b
 bs:∀b o,X.base.get? b=some o->X.s₀.heap.get? b=some o/\X.H₀ b=none
 bsz:X.base.objs.size<=X.s₀.heap.objs.size
 noex:∀b o,X.base.get? b=some o->b∉X.ex
 exfs:∀b∈X.ex,b∉X.fs
 funs:X.s₀.heap.FunFrames X.base X.outer
 frf:∀b∈X.fs,X.H₀ b=none
structure Inv (X:Cx) (zv:List (Addr×Obj)) (σ:List (Option V)) (H:Hp) (s:aJ):Prop where
 ok:X.Ok
 os:s.os=X.s₀.os
 bare:nQ s.gens
 base:Un X.fs X.ex X.H₀ H X.s₀.heap s.heap
 loc:∃m,s.heap.Ns X.env.locals m/\∀(i:Nat) (x:Str) (v:V),X.N[i]? = some x->σ[i]? = some (some v)->Vis X.env.scope x->∃u,RelV v u/\Look X.env s.heap m x u
 cell:∀x c,X.env.cells.lookup x=some c->∃v,s.heap.IsCell c v
 free:H X.env.locals=none
 freeC:∀x c,X.env.cells.lookup x=some c->H c=none
 pin:∀p∈X.pn++zv,s.heap.get? p.1=some p.2/\H p.1=none/\p.1≠X.env.locals/\p.1∉X.fs/\∀v,p.2.data≠.cell v
 hok:HOk X.prog X.w H s.heap
 len:σ.length=X.N.length
section
variable{X:Cx}{zv:List (Addr×Obj)}{σ:List (Option V)}{H H':Hp}{s:aJ}{h':Heap}
theorem Cx.Ok.nofr(ok:X.Ok){b:Addr}{o:Obj}(e:X.base.get? b=some o):b∉X.fs:=fun hb=>by
 have:=(ok.funs.mem hb).1;rw[e] at this;cases this
theorem Inv.bs(I:Inv X zv σ H s):∀b o,X.base.get? b=some o->s.heap.get? b=some o/\H b=none:=fun b o e =>
 ⟨I.base.keep b o (I.ok.bs b o e).1 (I.ok.bs b o e).2 (I.ok.nofr e) (I.ok.noex b o e),I.base.free b o (I.ok.bs b o e).1 (I.ok.bs b o e).2 (I.ok.noex b o e)⟩
theorem Inv.bk(I:Inv X zv σ H s):∀b o,X.base.get? b=some o->s.heap.get? b=some o:=fun b o e=>(I.bs b o e).1
theorem Inv.mod(I:Inv X zv σ H s):Mod X.K X.mg X.base:=I.ok.mod
theorem Inv.kIn(I:Inv X zv σ H s):X.K.In s.heap:=I.ok.mod.kin.keeps I.bk
theorem Inv.nolimit(I:Inv X zv σ H s):s.heap.NoLimit:=I.ok.mod.nolimit.keeps I.bk
theorem Inv.fr(I:Inv X zv σ H s):∃m,Fr X.base X.env.locals s.heap m :=
 let ⟨m,hn,_⟩:=I.loc
 ⟨m,hn,I.bk,cC I.ok.bsz I.ok.above⟩
theorem Inv.lt(I:Inv X zv σ H s):X.env.locals < s.heap.objs.size:=let ⟨_,hn,_⟩:=I.loc;hn.lt
theorem Inv.sz(I:Inv X zv σ H s):X.s₀.heap.objs.size<=s.heap.objs.size:=cC I.ok.above (kE I.lt)
theorem Inv.nofs(I:Inv X zv σ H s){a:Addr}(h:s.heap.objs.size<=a):a∉X.fs:=fun hb=>by
 obtain⟨_,o,ho,_⟩:=I.ok.funs.mem hb;exact absurd (bY (aP ho) (cC I.sz h)) (jE _)
theorem Inv.cne(I:Inv X zv σ H s):∀x c,X.env.cells.lookup x=some c->c≠X.env.locals:=fun x c e z=>by
 obtain⟨v,o,ho,hd⟩:=I.cell x c e;obtain⟨m,⟨o',es,ep,ho',hd',_⟩,_⟩:=I.loc;rw[z,ho'] at ho;cases ho;rw[hd'] at hd;cases hd
theorem Inv.funs(I:Inv X zv σ H s):s.heap.FunFrames X.base X.outer:=by
 have all:∀(l:List Env),(∀b∈frs l,b∈X.fs)->X.s₀.heap.FunFrames X.base l->s.heap.FunFrames X.base l:=by
  intro l
  induction l with
  | nil=>intro _ _;trivial
  | cons env r ih =>
   intro hs hl;obtain⟨hk,⟨L,o,hf,hn,ho,hd⟩,hr⟩:=hl;have hL:L∈X.fs:=hs L (by unfold frs;rw[dW,hf];exact aR)
   obtain⟨sl,e⟩:=I.base.slot L o ho (I.ok.frf L hL) hL fun z=>I.ok.exfs L z hL
   exact⟨hk,⟨L,_,hf,hn,e,hd⟩,ih (fun b hb=>hs b (by unfold frs;rw[dW,hf];exact aQ _ hb)) hr⟩
 exact all X.outer (fun _ hb=>hb) I.ok.funs
theorem Inv.stack(I:Inv X zv σ H s):s.heap.FunFrames X.base X.stack:=by
 rcases I.ok.stk with e | ⟨e,hf⟩
 ·rw[e];exact I.funs
 ·rw[e];obtain⟨m,hn,_⟩:=I.loc;refine .cons (by rw[I.ok.kind];decide) hf hn ?_ I.funs
  exact Heap.get?_none_of_le (cC I.ok.bsz I.ok.above)
theorem Inv.stkSub(I:Inv X zv σ H s):∀b∈frs X.stack,b∈X.env.locals::X.fs:=fun b hb=>by
 rcases I.ok.stk with e | ⟨e,hf⟩
 ·rw[e] at hb;exact aQ _ hb
 ·rw[e] at hb;unfold frs at hb;rw[dW,hf] at hb;exact hb
theorem Inv.stkFree(I:Inv X zv σ H s):∀b∈frs X.stack,H b=none:=fun b hb=>by
 rcases aV.mp (I.stkSub b hb) with e | hb
 ·rw[e];exact I.free
 ·obtain⟨_,o,ho,_⟩:=I.ok.funs.mem hb;exact I.base.free b o ho (I.ok.frf b hb) fun z=>I.ok.exfs b z hb
theorem Inv.step{g':Array GenState}{t':Nat}{d':Drawn}{ch:List Addr}(I:Inv X zv σ H s)
  (hch:∀b∈ch,(b∈X.ex∨X.s₀.heap.objs.size<=b)/\b≠X.env.locals/\(∀x c,X.env.cells.lookup x=some c->c≠b)/\∀p∈X.pn++zv,p.1≠b)
  (keep:∀b o,b≠X.env.locals->b∉X.fs->b∉ch->s.heap.get? b=some o->H b=none->h'.get? b=some o)
  (slot:∀b o,b≠X.env.locals->b∈X.fs->b∉ch->s.heap.get? b=some o->H b=none->∃sl,h'.get? b=some { o with slots:=sl }) (free:∀b o,b∉ch->s.heap.get? b=some o->H b=none->H' b=none)
  (there:∀b o,b∉ch->s.heap.get? b=some o->∃o',h'.get? b=some o')
  (tups:∀b xs,H b=some (.tup xs)->H' b=some (.tup xs)) (frzs:∀b o u,H b=some (.frz o u)->H' b=some (.frz o u)) (tbls:∀b ps,H b=some (.tbl ps)->∃more,H' b=some (.tbl (ps++more)))
  (ns:∀m,s.heap.Ns X.env.locals m->h'.Ns X.env.locals m) (hok:HOk X.prog X.w H' h') (hg:nQ g') :
  Inv X zv σ H' { s with heap:=h',gens:=g',drawn:=d',toks:=t' }:=by
 have neL:∀b o,X.s₀.heap.get? b=some o->b≠X.env.locals:=fun b o e=>bC (bY (aP e) I.ok.above)
 have neC:∀b o,X.s₀.heap.get? b=some o->b∉X.ex->b∉ch:=fun b o e hx hb=>by
  rcases(hch b hb).1 with z | z
  ·exact hx z
  ·exact absurd (bY (aP e) z) (jE _)
 have cellK:∀x c,X.env.cells.lookup x=some c->∀v,s.heap.IsCell c v->h'.IsCell c v:=fun x c e v hq0=>by
  obtain⟨o,ho,hd⟩:=hq0;have nch:c∉ch:=fun z=>(hch c z).2.2.1 x c e rfl
  by_cases hc:c∈X.fs
  ·obtain⟨sl,q⟩:=slot c o (I.cne x c e) hc nch ho (I.freeC x c e);exact⟨_,q,hd⟩
  ·exact⟨o,keep c o (I.cne x c e) hc nch ho (I.freeC x c e),hd⟩
 refine⟨I.ok,I.os,hg,⟨fun b o e n hb hx =>?_,fun b o e n hb hx =>?_,fun b o e n hx =>?_,fun b o e hx =>?_,fun b xs e=>tups b xs (I.base.tups b xs e),fun b o xs e=>frzs b o xs (I.base.frzs b o xs e),fun b ps e =>?_⟩,?_,fun x c e =>?_,?_,fun x c e =>?_,fun p hp =>?_,hok,I.len⟩
 ·exact keep b o (neL b o e) hb (neC b o e hx) (I.base.keep b o e n hb hx) (I.base.free b o e n hx)
 ·obtain⟨sl,e1⟩:=I.base.slot b o e n hb hx;obtain⟨sl',e2⟩:=slot b _ (neL b o e) hb (neC b o e hx) e1 (I.base.free b o e n hx);exact⟨sl',e2⟩
 ·obtain⟨o',e1⟩:=I.base.there b o e hx;exact free b o' (neC b o e hx) e1 (I.base.free b o e n hx)
 ·obtain⟨o',e1⟩:=I.base.there b o e hx;exact there b o' (neC b o e hx) e1
 ·obtain⟨m1,e1⟩:=I.base.tbls b ps e;obtain⟨m2,e2⟩:=tbls b _ e1;exact⟨m1++m2,by rw[e2,tH]⟩
 ·obtain⟨m,hn,hl⟩:=I.loc;refine⟨m,ns m hn,fun i x v e1 e2 e3 =>?_⟩
  obtain⟨u,r,l⟩:=hl i x v e1 e2 e3;refine⟨u,r,?_⟩;rcases l with l | ⟨k,c,e,z⟩
  ·exact .inl l
  ·exact .inr ⟨k,c,e,cellK x c e _ z⟩
 ·obtain⟨v,z⟩:=I.cell x c e;exact⟨v,cellK x c e v z⟩
 ·obtain⟨m,⟨o,_,_,ho,_⟩,_⟩:=I.loc;exact free _ o (fun z=>(hch _ z).2.1 rfl) ho I.free
 ·obtain⟨v,o,ho,hd⟩:=I.cell x c e;exact free c o (fun z=>(hch c z).2.2.1 x c e rfl) ho (I.freeC x c e)
 ·obtain⟨e,n,ne,nf,d⟩:=I.pin p hp;have nch:p.1∉ch:=fun z=>(hch p.1 z).2.2.2 p hp rfl
  exact⟨keep p.1 p.2 ne nf nch e n,free p.1 p.2 nch e n,ne,nf,d⟩
theorem Inv.un{t':Nat}(I:Inv X zv σ H s)(u:Un X.fs [] H H' s.heap h')(hok:HOk X.prog X.w H' h'):Inv X zv σ H' { s with heap:=h',toks:=t' }:=by
 obtain⟨m,⟨o,es,ep,ho,r⟩,_⟩:=id I.loc;obtain⟨sl,hL⟩:=u.any ho I.free (by simp)
 exact I.step (g':=s.gens) (d':=s.drawn) (ch:=[]) (fun _ z=>nomatch z) (fun b o _ hb _ e n=>u.keep b o e n hb (by simp)) (fun b o _ hb _ e n=>u.slot b o e n hb (by simp)) (fun b o _ e n=>u.free b o e n (by simp)) (fun b o _ e=>u.there b o e (by simp)) u.tups u.frzs u.tbls (fun m' hm=>by
  obtain⟨o',es',ep',ho',r'⟩:=hm;rw[ho] at ho';cases ho';exact⟨_,es',ep',hL,r'⟩) hok I.bare
theorem Inv.call{g':Array GenState}{t':Nat}{d':Drawn}{ch:List Addr}(I:Inv X zv σ H s)(u:Un (frs X.stack) ch H H' s.heap h')(hok:HOk X.prog X.w H' h')(hg:nQ g')
  (hch:∀b∈ch,(b∈X.ex∨X.s₀.heap.objs.size<=b)/\b≠X.env.locals/\(∀x c,X.env.cells.lookup x=some c->c≠b)/\∀p∈X.pn++zv,p.1≠b) :
  Inv X zv σ H' { s with heap:=h',gens:=g',drawn:=d',toks:=t' }:=by
 obtain⟨m,⟨o,es,ep,ho,r⟩,_⟩:=id I.loc;obtain⟨sl,hL⟩:=u.any ho I.free fun z=>(hch _ z).2.1 rfl
 exact I.step (ch:=ch) hch (fun b o hL hb hc e n=>u.keep b o e n (fun z=>(aV.mp (I.stkSub b z)).elim hL hb) hc) (fun b o _ _ hc e n=>u.any e n hc) (fun b o hc e n=>u.free b o e n hc) (fun b o hc e=>u.there b o e hc) u.tups u.frzs u.tbls (fun m' hm=>by
  obtain⟨o',es',ep',ho',r'⟩:=hm;rw[ho] at ho';cases ho';exact⟨_,es',ep',hL,r'⟩) hok hg
theorem Inv.turned{t':Nat}{it:Addr}(I:Inv X zv σ H s)(k:∀b o,b≠it->s.heap.get? b=some o->h'.get? b=some o)(hn:H it=none)(hL:it≠X.env.locals)
  (h1:it∈X.ex∨X.s₀.heap.objs.size<=it) (h2:∀x c,X.env.cells.lookup x=some c->c≠it) (h3:∀p∈X.pn++zv,p.1≠it):Inv X zv σ H { s with heap:=h',toks:=t' }:=by
 have nit:∀b u,H b=some u->b≠it:=fun b u e z=>by rw[z,hn] at e;cases e
 refine I.step (g':=s.gens) (d':=s.drawn) (ch:=[it]) (fun b hb =>?_) (fun b o _ _ hc e _=>k b o (fun z=>hc (by simp[z])) e) (fun b o _ _ hc e _=>⟨o.slots,k b o (fun z=>hc (by simp[z])) e⟩) (fun _ _ _ _ n=>n)
  (fun b o hc e=>⟨o,k b o (fun z=>hc (by simp[z])) e⟩) (fun _ _ e=>e) (fun _ _ _ e=>e) (fun b ps e=>⟨#[],by rw[e];simp⟩) (fun m hm =>?_) (fun b u e =>?_) I.bare
 ·have e:b=it:=by simpa using hb
  subst e;exact⟨h1,hL,h2,h3⟩
 ·obtain⟨o,es,ep,ho,r⟩:=hm;exact⟨o,es,ep,k _ o (iR hL) ho,r⟩
 ·refine(I.hok b u e).stay (fun c v hc q=>k c v ?_ q) (fun _ q=>q) fun _ _ q=>q
  rcases hc with z | z
  ·rw[z];exact nit b u e
  ·exact nit c _ z
theorem Inv.tok(I:Inv X zv σ H s)(t:Nat):Inv X zv σ H { s with toks:=t }:=I.un (h':=s.heap) (t':=t) Un.refl I.hok
theorem Inv.kept{t':Nat}(I:Inv X zv σ H s)(k:∀b u,s.heap.get? b=some u->h'.get? b=some u):Inv X zv σ H { s with heap:=h',toks:=t' }:=I.un (Un.kept k) (I.hok.kept k)
theorem Inv.laid{a:Addr}{o:HO}{t':Nat}(I:Inv X zv σ H s)(k:∀b u,s.heap.get? b=some u->h'.get? b=some u)(hp:s.heap.objs.size<=a)(new:ym X.prog X.w (upd H a o) h' a o) :
  Inv X zv σ (upd H a o) { s with heap:=h',toks:=t' }:=I.un (Un.laid k hp (I.hok.fresh hp)) (I.hok.laid k hp new)
theorem Inv.write{x e:Addr}{o:HO}{t':Nat}(I:Inv X zv σ H s)(mu:Mut (H x))(he:e=x∨H e=some (.own x))(k:∀b u,b≠e->s.heap.get? b=some u->h'.get? b=some u)(heo:∃u,h'.get? e=some u)
  (new:ym X.prog X.w (upd H x o) h' x o):Inv X zv σ (upd H x o) { s with heap:=h',toks:=t' }:=I.un (Un.write mu he k heo) (I.hok.write mu he k heo new)
theorem Inv.pins_of{pins':List (Addr×Obj)}(I:Inv X zv σ H s)(h:∀p∈pins',s.heap.get? p.1=some p.2/\H p.1=none/\p.1≠X.env.locals/\p.1∉X.fs/\∀v,p.2.data≠.cell v):Inv X pins' σ H s :=
 ⟨I.ok,I.os,I.bare,I.base,I.loc,I.cell,I.free,I.freeC,fun p hp=>(cN.mp hp).elim (fun z=>I.pin p (gD _ z)) (h p),I.hok,I.len⟩
theorem aly{N:List Str}(hN:N.Nodup){i j:Nat}{x:Str}(a:N[i]? = some x)(b:N[j]? = some x):i=j:=by
 obtain⟨h1,e1⟩:=aM.mp a;obtain⟨h2,e2⟩:=aM.mp b;exact(List.getElem_inj hN).mp (e1.trans e2.symm)
theorem aoy{M:Model}{A:cM}{E:Value->aJ->Prop}{i:Nat}{x:Str}{v:V}{u:Value}{Q:Unit->aJ->Prop}(I:Inv X zv σ H s)(hN:X.N.Nodup)(hi:X.N[i]? = some x)(hx:Loc X.env.scope x)(r:RelV v u)
  (h:∀s',Inv X zv (σ.set i (some v)) H s'->(∃a,cH a s.heap s'.heap/\(a=X.env.locals∨X.env.cells.lookup x=some a))->Q () s') (hf:X.fn x=true∨X.env.scope.names.lookup x=some .local:=by first | exact .inl rfl | exact .inr rfl | assumption):wpAny M A (storeName X.env x u) Q E s:=by
 obtain⟨m,hn,hl⟩:=id I.loc;have hcls:(X.env.scope.kind==.class||(X.env.scope.kind==.module&&X.env.locals != X.env.globals))=false:=by rw[I.ok.kind];rfl
 have hiσ:i < σ.length:=by rw[I.len];exact(aM.mp hi).1
 have cne:=I.cne;have tracked:∀{a:Addr} {h':Heap},(∃o,s.heap.get? a=some o/\H a=none)->cH a s.heap h'->HOk X.prog X.w H h':=fun{a h'} ha hs b ob e=>by
  obtain⟨_,_,hfree⟩:=ha;refine(I.hok b ob e).stay (fun c w' hc q=>(hs.2 c ?_).trans q) (fun _ q=>q) fun _ _ q=>q
  rintro rfl
  rcases hc with rfl | hc
  ·rw[hfree] at e;cases e
  ·rw[hfree] at hc;cases hc
 rcases hx with hk | hk
 ·refine wpAny_storeName_local hk hn (fun h' hn' hs =>?_) hcls
  obtain⟨oL,_,_,hoL,_⟩:=id hn;refine h _ ⟨I.ok,I.os,I.bare,⟨fun b o e n hb hx =>?_,fun b o e n hb hx =>?_,I.base.free,fun b o e hx =>?_,I.base.tups,I.base.frzs,I.base.tbls⟩,⟨_,hn',fun j y v' e1 e2 e3 =>?_⟩,fun y c e =>?_,I.free,I.freeC,fun p hp =>?_,tracked ⟨oL,hoL,I.free⟩ hs,by simpa using I.len⟩ ⟨_,hs,.inl rfl⟩
  ·exact(hs.2 b (bC (bY (aP e) I.ok.above))).trans (I.base.keep b o e n hb hx)
  ·obtain⟨sl,e1⟩:=I.base.slot b o e n hb hx;exact⟨sl,(hs.2 b (bC (bY (aP e) I.ok.above))).trans e1⟩
  ·obtain⟨o',e1⟩:=I.base.there b o e hx;exact⟨o',(hs.2 b (bC (bY (aP e) I.ok.above))).trans e1⟩
  ·by_cases hj:j=i
   ·subst hj;rw[hi] at e1;cases e1;rw[rN hiσ] at e2;cases e2;exact⟨u,r,.inl ⟨hk,by simp⟩⟩
   ·rw[sG (iR hj)] at e2;obtain⟨u',r',q⟩:=hl j y v' e1 e2 e3;refine⟨u',r',?_⟩;rcases q with⟨k,e⟩ | ⟨k,c,e,z⟩
    ·refine .inl ⟨k,?_⟩;have:y≠x:=fun e=>hj (aly hN e1 (e▸hi))
     simp[this,e]
    ·exact .inr ⟨k,c,e,z.sameBut hs (cne y c e)⟩
  ·obtain⟨w',z⟩:=I.cell y c e;exact⟨w',z.sameBut hs (cne y c e)⟩
  ·obtain⟨e,n,ne,nf,d⟩:=I.pin p hp;exact⟨(hs.2 p.1 ne).trans e,n,ne,nf,d⟩
 ·have hfn:X.fn x=true:=by
   rcases hf with z | z
   ·exact z
   ·rw[z] at hk;cases hk
  obtain⟨c,hc⟩:=I.ok.has x (.inl hk);obtain⟨w',z⟩:=I.cell x c hc;refine wpAny_storeName_cell I.ok.kind hk hc z (fun h' hc' hs =>?_)
  obtain⟨oc,hoc,hocd⟩:=id z;refine h { s with heap:=h' } ⟨I.ok,I.os,I.bare,⟨fun b o e n hb hx =>?_,fun b o e n hb hx =>?_,I.base.free,fun b o e hx =>?_,I.base.tups,I.base.frzs,I.base.tbls⟩,⟨m,hn.sameBut hs (iR (cne x c hc)),fun j y v' e1 e2 e3 =>?_⟩,fun y c' e =>?_,I.free,I.freeC,fun p hp =>?_,tracked ⟨oc,hoc,I.freeC x c hc⟩ hs,by simpa using I.len⟩ ⟨c,hs,.inr hc⟩
  ·exact(hs.2 b (bC (bY (aP e) (I.ok.cab x c hfn hc)))).trans (I.base.keep b o e n hb hx)
  ·obtain⟨sl,e1⟩:=I.base.slot b o e n hb hx;exact⟨sl,(hs.2 b (bC (bY (aP e) (I.ok.cab x c hfn hc)))).trans e1⟩
  ·obtain⟨o',e1⟩:=I.base.there b o e hx;exact⟨o',(hs.2 b (bC (bY (aP e) (I.ok.cab x c hfn hc)))).trans e1⟩
  ·by_cases hj:j=i
   ·subst hj;rw[hi] at e1;cases e1;rw[rN hiσ] at e2;cases e2;exact⟨u,r,.inr ⟨.inl hk,c,hc,hc'⟩⟩
   ·rw[sG (iR hj)] at e2;obtain⟨u',r',q⟩:=hl j y v' e1 e2 e3;refine⟨u',r',?_⟩;rcases q with q | ⟨k,c',e,z'⟩
    ·exact .inl q
    ·refine .inr ⟨k,c',e,z'.sameBut hs ?_⟩
     rintro rfl
     exact hj (aly hN e1 (I.ok.inj _ _ _ e hc▸hi))
  ·by_cases hcc:c'=c
   ·subst hcc;exact⟨_,hc'⟩
   ·obtain⟨w2,z2⟩:=I.cell y c' e;exact⟨w2,z2.sameBut hs hcc⟩
  ·obtain⟨e,n,ne,nf,d⟩:=I.pin p hp;refine⟨(hs.2 p.1 ?_).trans e,n,ne,nf,d⟩;intro q;rw[q,hoc] at e;have q':oc=p.2:=bK e;exact d w' (by rw[<-q'];exact hocd)
theorem aet{M:Model}{A:cM}{E:Value->aJ->Prop}{i:Nat}{x:Str}{v:V}{u:Value}{Q:Unit->aJ->Prop}(I:Inv X zv σ H s)(hN:X.N.Nodup)(hi:X.N[i]? = some x)(hx:Loc X.env.scope x)(r:RelV v u)
  (h:∀s',Inv X zv (σ.set i (some v)) H s'->Q () s') (hf:X.fn x=true∨X.env.scope.names.lookup x=some .local:=by first | exact .inl rfl | exact .inr rfl | assumption):wpAny M A (storeName X.env x u) Q E s :=
 aoy I hN hi hx r (fun s' I' _=>h s' I') hf
theorem Inv.call'{s':aJ}{ch:List Addr}(I:Inv X zv σ H s)(ho:s'.os=s.os)(u:Un (frs X.stack) ch H H' s.heap s'.heap)(hok:HOk X.prog X.w H' s'.heap)(hg:nQ s'.gens)
  (hch:∀b∈ch,(b∈X.ex∨X.s₀.heap.objs.size<=b)/\b≠X.env.locals/\(∀x c,X.env.cells.lookup x=some c->c≠b)/\∀p∈X.pn++zv,p.1≠b):Inv X zv σ H' s':=by
 obtain⟨h',g',d',t',o'⟩:=s';have e:o'=s.os:=ho;subst e;exact I.call (g':=g') (t':=t') (d':=d') u hok hg hch
end
abbrev XK:=Value->Option Addr->Hp->Prop
abbrev St:=List (Option V)
abbrev VK:=V->Hp->Prop
abbrev TE:=St->Hp->VK->Prop
abbrev TT:=St->Hp->(Bool->Hp->Prop)->Prop
abbrev TA:=St->Hp->(List V->Hp->Prop)->Prop
structure Ends where
 nx:St->Hp->Prop
 rt:VK
 bk:St->Hp->Prop:=fun _ _=>False
 ct:St->Hp->Prop:=fun _ _=>False
abbrev TS:=Ends->St->Hp->Prop
def EP(X:Cx)(zv:List (Addr×Obj))(σ:St)(Q:VK)(u:Value)(s':aJ):Prop:=∃v H',Inv X zv σ H' s'/\RelV v u/\Q v H'
def TP(X:Cx)(zv:List (Addr×Obj))(σ:St)(Q:Bool->Hp->Prop)(b:Bool)(s':aJ):Prop:=∃H',Inv X zv σ H' s'/\Q b H'
def AP(X:Cx)(zv:List (Addr×Obj))(σ:St)(Q:List V->Hp->Prop)(us:List Value)(s':aJ):Prop:=∃vs H',Inv X zv σ H' s'/\Vals vs us/\Q vs H'
def SP(X:Cx)(zv:List (Addr×Obj))(D:Ends)(f:Flow)(s':aJ):Prop :=
 match f with
 | .next=>∃σ' H',Inv X zv σ' H' s'/\D.nx σ' H'
 | .brk=>∃σ' H',Inv X zv σ' H' s'/\D.bk σ' H'
 | .cont=>∃σ' H',Inv X zv σ' H' s'/\D.ct σ' H'
 | .ret u=>∃v σ' H',Inv X zv σ' H' s'/\RelV v u/\D.rt v H'
def PE(X:Cx)(e:Expr)(t:TE):Prop :=
 ∀(zv:List (Addr×Obj)) (s:aJ) (σ:St) (H:Hp) (Q:VK),Inv X zv σ H s->t σ H Q->wpAny (model X.prog X.w) X.A (eval e X.env) (EP X zv σ Q) X.xe s
def PT(X:Cx)(e:Expr)(t:TT):Prop :=
 ∀(zv:List (Addr×Obj)) (s:aJ) (σ:St) (H:Hp) (Q:Bool->Hp->Prop),Inv X zv σ H s->t σ H Q->wpAny (model X.prog X.w) X.A (isTrue e X.env (eval e X.env)) (TP X zv σ Q) X.xe s
def PW(X:Cx)(e:Expr)(t:TT):Prop :=
 ∀(whole:Sem Value) (zv:List (Addr×Obj)) (s:aJ) (σ:St) (H:Hp) (Q:Bool->Hp->Prop),Inv X zv σ H s->t σ H Q->wpAny (model X.prog X.w) X.A (isTrue e X.env whole) (TP X zv σ Q) X.xe s
theorem PW.pt{X:Cx}{e:Expr}{t:TT}(h:PW X e t):PT X e t:=h _
def PA(X:Cx)(es:List Expr)(t:TA):Prop :=
 ∀(pos:Pos) (zv:List (Addr×Obj)) (s:aJ) (σ:St) (H:Hp) (Q:List V->Hp->Prop),Inv X zv σ H s->t σ H Q->wpAny (model X.prog X.w) X.A (spliced (jP pos (aW es X.env))) (AP X zv σ Q) X.xe s
def PS(X:Cx)(st:Stmt)(t:TS):Prop :=
 ∀(zv:List (Addr×Obj)) (s:aJ) (σ:St) (H:Hp) (D:Ends),Inv X zv σ H s->t D σ H->wpAny (model X.prog X.w) X.A (exec st X.env) (SP X zv D) X.xe s
def PSs(X:Cx)(st:List Stmt)(t:TS):Prop :=
 ∀(zv:List (Addr×Obj)) (s:aJ) (σ:St) (H:Hp) (D:Ends),Inv X zv σ H s->t D σ H->wpAny (model X.prog X.w) X.A (execs st X.env) (SP X zv D) X.xe s
theorem thn{α:Type}{t:Sem α}{Q Q':α->aJ->Prop}{M:Model}{A:cM}{E:Value->aJ->Prop}{s:aJ}(h:wpAny M A t Q E s)(hQ:∀a s,Q a s->Q' a s):wpAny M A t Q' E s:=dG h hQ fun _ _ x=>x
section
variable{X:Cx}
def tVar(i:Nat):TE:=fun σ H Q=>∃v,σ[i]? = some (some v)/\Q v H
def tC(v:V):TE:=fun _ H Q=>Q v H
theorem ay8{i:Nat}{x:Str}{pos:Pos}(hN:X.N[i]? = some x)(hv:Vis X.env.scope x)(hd:(x==("__debug__" : Str))=false:=by decide)(hcd:(x==("__classdict__" : Str))=false:=by decide):PE X (.Name x pos) (tVar i):=by
 intro zv s σ H Q I h;obtain⟨v,e,h⟩:=h;obtain⟨m,hn,hl⟩:=I.loc;obtain⟨u,r,l⟩:=hl i x v hN e hv;have fin:EP X zv σ Q u s:=⟨v,H,I,r,h⟩;rcases l with⟨hk,hm⟩ | ⟨hk,c,hc,hcell⟩
 ·exact wpAny_Name (wpAny_loadName_local I.ok.kind hk hn hm fin) hd
 ·rcases hk with hk | hk
  ·exact wpAny_Name (wpAny_loadName_cell I.ok.kind hk hc hcell fin) hd
  ·exact wpAny_Name (wpAny_loadName_free I.ok.kind hk hc hcell fin hcd) hd
theorem azf{i j pos}:PE X (.Constant (.int i) j pos) (tC (.int i)):=fun _ _ _ H _ I h=>wpAny_Constant_int ⟨.int i,H,I.tok _,⟨_,rfl⟩,h⟩
theorem a3x{b j pos}:PE X (.Constant (.bool b) j pos) (tC (.bl b)):=fun _ _ _ H _ I h=>Constant_bool ⟨.bl b,H,I,rfl,h⟩
theorem azd{j pos}:PE X (.Constant .none j pos) (tC .non):=fun _ _ _ H _ I h=>Constant_none ⟨.non,H,I,rfl,h⟩
theorem ay9{x j pos}:PE X (.Constant (.str x) j pos) (tC (.str x)):=fun _ _ _ H _ I h=>tG ⟨.str x,H,I.tok _,⟨_,rfl⟩,h⟩
def Gl(X:Cx)(x:Str):Prop:=X.env.kindOf x=some .globalImplicit
theorem apx{E:Value->aJ->Prop}{zv:List (Addr×Obj)}{s:aJ}{σ:St}{H:Hp}{x:Str}{u:Value}{pos:Pos}{Q:Value->aJ->Prop}(I:Inv X zv σ H s)(hg:Gl X x)(hm:X.mg x=some u)(h:Q u s)
  (hd:(x==("__debug__" : Str))=false:=by decide):wpAny (model X.prog X.w) X.A (eval (.Name x pos) X.env) Q E s :=
 qJ I.ok.kind hg (Calls.loadGlobal_global (by rw[I.ok.glob];exact I.mod.glob.keeps I.bk) hm h) hd
theorem afd{E:Value->aJ->Prop}{zv:List (Addr×Obj)}{s:aJ}{σ:St}{H:Hp}{x:Str}{u:Value}{pos:Pos}{Q:Value->aJ->Prop}(I:Inv X zv σ H s)(hg:Gl X x)(hm:X.mg x=none)(hv:bN x=some u)(h:Q u s)
  (hn:x ≠ "__name__" := by decide) (hd:(x==("__debug__" : Str))=false:=by decide):wpAny (model X.prog X.w) X.A (eval (.Name x pos) X.env) Q E s:=by
 obtain⟨mb,h1,h2⟩:=I.mod.blt;exact qJ I.ok.kind hg (Calls.loadGlobal_builtin (by rw[I.ok.glob];exact I.mod.glob.keeps I.bk) hm (by rw[I.ok.blt];exact h1.keeps I.bk) ((h2 x hn).trans hv) h) hd
theorem av9{x:Str}{v:V}{u:Value}{pos:Pos}(hg:Gl X x)(hm:X.mg x=some u)(r:RelV v u)(hd:(x==("__debug__" : Str))=false:=by decide):PE X (.Name x pos) (tC v) :=
 fun _ _ _ H _ I h=>apx I hg hm ⟨v,H,I,r,h⟩ hd
theorem awd{x:Str}{v:V}{u:Value}{pos:Pos}(hg:Gl X x)(hm:X.mg x=none)(hv:bN x=some u)(r:RelV v u)(hn:x ≠ "__name__" := by decide)(hd:(x==("__debug__" : Str))=false:=by decide):PE X (.Name x pos) (tC v) :=
 fun _ _ _ H _ I h=>afd I hg hm hv ⟨v,H,I,r,h⟩ hn hd
variable{a b:Expr}{ta tb:TE}{pos:Pos}
def PC(X:Cx)(op:CmpOp)(a b:Expr)(t:TE):Prop :=
 ∀(zv:List (Addr×Obj)) (s:aJ) (σ:St) (H:Hp) (Q:VK),Inv X zv σ H s->t σ H Q ->
  wpAny (model X.prog X.w) X.A (eval a X.env) (fun v s₁=>wpAny (model X.prog X.w) X.A (eval b X.env) (fun u s₂=>wpAny (model X.prog X.w) X.A (dZ op v u) (EP X zv σ Q) X.xe s₂) X.xe s₁) X.xe s
theorem as4(b:Expr){op:CmpOp}(h:op≠.In)(h2:op≠.NotIn):gK op b=false:=by
 have e1:(op==CmpOp.In)=false:=by cases op <;> first | rfl | exact absurd rfl h
 have e2:(op==CmpOp.NotIn)=false:=by cases op <;> first | rfl | exact absurd rfl h2
 cases b <;> simp[gK,e1,e2]
def tB(t:TE):TT:=fun σ H Q=>t σ H fun x H1=>∃c,x=.bl c/\Q c H1
theorem ay2{op:CmpOp}{t:TE}(h:PC X op a b t)(h1:gK op b=false:=by first | exact as4 _ (by decide) (by decide) | rfl):PT X (.Compare a [op] [b] pos) (tB t):=by
 intro zv s σ H Q I hw;refine wpAny_isTrue_Compare1 (thn (h zv s σ H _ I hw) fun v s1 h1=>thn h1 fun u s2 h2=>thn h2 fun c s3 ⟨x,H1,I1,r1,q1⟩ =>?_) h1
 obtain⟨d,rfl,q⟩:=q1;cases r1;exact wpAny_truthy_bool ⟨H1,I1,q⟩
theorem ay0{e:Expr}{t:TE}(h:PE X e t)(he:∀whole,isTrue e X.env whole=(do let v <-whole;standAt e.pos;kY [v] (truthy v)):=by intro _;rfl):PT X e (tB t):=by
 intro zv s σ H Q I hw;refine isTrue_plain (thn (h zv s σ H _ I hw) fun v s1 ⟨x,H1,I1,r1,q1⟩ =>?_) (he _)
 obtain⟨d,rfl,q⟩:=q1;cases r1;exact wpAny_truthy_bool ⟨H1,I1,q⟩
variable{tA tB':TT}{rest:List Expr}
def tAnd(t u:TT):TT:=fun σ H Q=>t σ H fun c H1=>if c=true then u σ H1 Q else Q false H1
def tOr(t u:TT):TT:=fun σ H Q=>t σ H fun c H1=>if c=true then Q true H1 else u σ H1 Q
def tNot(t:TT):TT:=fun σ H Q=>t σ H fun c H1=>Q (!c) H1
theorem avv(ha:PT X a tA):PW X (.BoolOp .And [a] pos) tA:=by
 intro wh zv s σ H Q I h;refine isTrue_and (thn (ha zv s σ H Q I h) fun c s1 e =>?_)
 cases c with
 | true=>exact isTrue_and_nil e
 | false=>exact e
theorem ayt(ha:PT X a tA):PW X (.BoolOp .Or [a] pos) tA:=by
 intro wh zv s σ H Q I h;refine isTrue_or (thn (ha zv s σ H Q I h) fun c s1 e =>?_)
 cases c with
 | false=>exact isTrue_or_nil e
 | true=>exact e
theorem ayu(ha:PT X a tA)(hb:PW X (.BoolOp .And (b::rest) pos) tB'):PW X (.BoolOp .And (a::b::rest) pos) (tAnd tA tB'):=by
 intro wh zv s σ H Q I h;refine isTrue_and (thn (ha zv s σ H _ I h) fun c s1 ⟨H1,I1,q1⟩ =>?_)
 cases c with
 | true=>exact hb wh zv s1 σ H1 Q I1 q1
 | false=>exact⟨H1,I1,q1⟩
theorem a3o(ha:PT X a tA)(hb:PW X (.BoolOp .Or (b::rest) pos) tB'):PW X (.BoolOp .Or (a::b::rest) pos) (tOr tA tB'):=by
 intro wh zv s σ H Q I h;refine isTrue_or (thn (ha zv s σ H _ I h) fun c s1 ⟨H1,I1,q1⟩ =>?_)
 cases c with
 | true=>exact⟨H1,I1,q1⟩
 | false=>exact hb wh zv s1 σ H1 Q I1 q1
theorem ay1(ha:PT X a tA):PT X (.UnaryOp .Not a pos) (tNot tA):=by
 intro zv s σ H Q I h;exact isTrue_not (ha zv s σ H (fun c H1=>Q (!c) H1) I h)
def a3j(ta tb:TE):TE:=fun σ H Q=>ta σ H fun x H1=>∃c,x=.bl c/\if c=true then tb σ H1 Q else Q (.bl false) H1
def a3e(ta:TE):TE:=fun σ H Q=>ta σ H fun x H1=>∃c,x=.bl c/\Q (.bl (!c)) H1
theorem azb{op}{t:TE}(h:PE X a t):PE X (.BoolOp op [a] pos) t:=fun zv s σ H Q I hw=>BoolOp_one (h zv s σ H Q I hw)
theorem azh(ha:PE X a ta)(hb:PE X (.BoolOp .And (b::rest) pos) tb):PE X (.BoolOp .And (a::b::rest) pos) (a3j ta tb):=by
 intro zv s σ H Q I h;refine BoolOp_and (thn (ha zv s σ H _ I h) fun v s1 ⟨x,H1,I1,r1,q1⟩ =>?_)
 obtain⟨c,rfl,q1⟩:=q1;cases r1;refine wpAny_truthy_bool ?_;cases c with
 | true=>exact hb zv s1 σ H1 Q I1 q1
 | false=>exact⟨.bl false,H1,I1,rfl,q1⟩
theorem azc(ha:PE X a ta):PE X (.UnaryOp .Not a pos) (a3e ta):=by
 intro zv s σ H Q I h;refine UnaryOp_ (thn (ha zv s σ H _ I h) fun v s1 ⟨x,H1,I1,r1,q1⟩ =>?_)
 obtain⟨c,rfl,q1⟩:=q1;cases r1;exact not_of (wpAny_truthy_bool ⟨.bl (!c),H1,I1,rfl,q1⟩)
end
def SqL(K:Fg9)(H:Hp)(a:Addr)(xs:List V):Prop :=
 Rd H a (.lst xs) ∨
  ∃(o:Obj) (its:Array Value) (n:Nat),K.lookup a=some o/\o.cls=.type "list" /\ o.dict=none/\o.data=.seq its n/\its.size<=bV/\Vals xs its.toList
def SqT(K:Fg9)(H:Hp)(a:Addr)(xs:List V):Prop :=
 Rd H a (.tup xs) ∨
  ∃(o:Obj) (its:Array Value) (n:Nat),K.lookup a=some o/\o.cls=.type "tuple" /\ o.data=.seq its n/\its.size<=bV/\Vals xs its.toList
def absV:Value->Option V
 | .none=>some .non
 | .bool b=>some (.bl b)
 | .int i _=>some (.int i)
 | .str x _=>some (.str x)
 | .bytes b _=>some (.byt b)
 | .float b _=>some (.flt b)
 | .ref a=>some (.ref a)
 | .type n=>some (.ty n)
 | _=>none
theorem RelV.abs{x:V}{u:Value}(r:RelV x u):absV u=some x:=by
 cases x with
 | non=>cases r;rfl
 | bl _=>cases r;rfl
 | int _=>obtain⟨t,rfl⟩:=r;rfl
 | str _=>obtain⟨t,rfl⟩:=r;rfl
 | byt _=>obtain⟨t,rfl⟩:=r;rfl
 | flt _=>obtain⟨t,rfl⟩:=r;rfl
 | ref _=>cases r;rfl
 | ty _=>cases r;rfl
theorem RelV.inj{x y:V}{u:Value}(r:RelV x u)(q:RelV y u):x=y:=bK (r.abs.symm.trans q.abs)
theorem Vals.inj:∀{xs ys:List V} {us:List Value},Vals xs us->Vals ys us->xs=ys
 | _,_,_,.nil,.nil=>rfl
 | _,_,_,.cons r t,.cons r' t'=>by rw[r.inj r',Vals.inj t t']
section
variable{X:Cx}{zv:List (Addr×Obj)}{σ:St}{H:Hp}{s:aJ}{a:Addr}{xs ys:List V}
theorem SqL.of{K:Fg9}(h:H a=some (.lst xs)):SqL K H a xs:=.inl (.inl h)
theorem SqT.of{K:Fg9}(h:H a=some (.tup xs)):SqT K H a xs:=.inl (.inl h)
theorem Inv.list(I:Inv X zv σ H s)(h:SqL X.K H a xs):∃its:List Value,Vals xs its/\PlainL s.heap a its.toArray/\xs.length<=bV:=by
 rcases h with h | ⟨o,its,n,hk,hc,hd,hs,hz,r⟩
 ·obtain⟨z,its,n,r,e⟩:=h.ok I.hok;exact⟨its,r,⟨_,n,e,rfl,rfl,rfl⟩,z⟩
 ·refine⟨its.toList,r,⟨o,n,I.kIn a o hk,hc,hd,by simpa using hs⟩,?_⟩
  have e:=r.length;simp only[bB] at e;omega
theorem Inv.tuple(I:Inv X zv σ H s)(h:SqT X.K H a xs):∃its:List Value,Vals xs its/\IsTup s.heap a its.toArray/\xs.length<=bV:=by
 rcases h with h | ⟨o,its,n,hk,hc,hs,hz,r⟩
 ·obtain⟨z,its,r,p⟩:=h.ok I.hok;exact⟨its,r,p.tup,z⟩
 ·refine⟨its.toList,r,⟨o,I.kIn a o hk,hc,n,by simpa using hs⟩,?_⟩
  have e:=r.length;simp only[bB] at e;omega
theorem Inv.list_inj(I:Inv X zv σ H s)(h:SqL X.K H a xs)(h':SqL X.K H a ys):xs=ys:=by
 obtain⟨its,r,⟨o,n,e,_,_,d⟩,_⟩:=I.list h;obtain⟨its',r',⟨o',n',e',_,_,d'⟩,_⟩:=I.list h';rw[e] at e';cases e';rw[d] at d'
 injection d' with d1 _
 have:its=its':=by simpa using congrArg Array.toList d1
 subst this;exact r.inj r'
theorem Inv.tuple_inj(I:Inv X zv σ H s)(h:SqT X.K H a xs)(h':SqT X.K H a ys):xs=ys:=by
 obtain⟨its,r,⟨o,e,_,n,d⟩,_⟩:=I.tuple h;obtain⟨its',r',⟨o',e',_,n',d'⟩,_⟩:=I.tuple h';rw[e] at e';cases e';rw[d] at d'
 injection d' with d1 _
 have:its=its':=by simpa using congrArg Array.toList d1
 subst this;exact r.inj r'
end
abbrev Cx.wish(X:Cx)(E:Value->aJ->Prop):Cx:={ X with xe:=E }
abbrev Cx.nox(X:Cx):Cx:=X.wish fun _ _=>False
theorem Cx.Ok.wish{X:Cx}(ok:X.Ok)(E:Value->aJ->Prop):(X.wish E).Ok :=
 ⟨ok.mod,ok.kind,ok.glob,ok.blt,ok.above,ok.inj,ok.has,ok.cab,ok.hd,ok.frames,ok.stk,ok.exf,ok.bs,ok.bsz,ok.noex,ok.exfs,ok.funs,ok.frf⟩
theorem Cx.Ok.unwish{X:Cx}{E:Value->aJ->Prop}(ok:(X.wish E).Ok):X.Ok :=
 ⟨ok.mod,ok.kind,ok.glob,ok.blt,ok.above,ok.inj,ok.has,ok.cab,ok.hd,ok.frames,ok.stk,ok.exf,ok.bs,ok.bsz,ok.noex,ok.exfs,ok.funs,ok.frf⟩
section
variable{X:Cx}{zv:List (Addr×Obj)}{σ:St}{H:Hp}{s:aJ}{E:Value->aJ->Prop}
theorem Inv.wish(I:Inv X zv σ H s)(E:Value->aJ->Prop):Inv (X.wish E) zv σ H s:=⟨I.ok.wish E,I.os,I.bare,I.base,I.loc,I.cell,I.free,I.freeC,I.pin,I.hok,I.len⟩
theorem Inv.unwish(I:Inv (X.wish E) zv σ H s):Inv X zv σ H s:=⟨I.ok.unwish,I.os,I.bare,I.base,I.loc,I.cell,I.free,I.freeC,I.pin,I.hok,I.len⟩
theorem SP.unwish{D:Ends}{f:Flow}{s':aJ}(h:SP (X.wish E) zv D f s'):SP X zv D f s':=by
 cases f with
 | next=>obtain⟨σ',H',I,q⟩:=h;exact⟨σ',H',I.unwish,q⟩
 | brk=>obtain⟨σ',H',I,q⟩:=h;exact⟨σ',H',I.unwish,q⟩
 | cont=>obtain⟨σ',H',I,q⟩:=h;exact⟨σ',H',I.unwish,q⟩
 | ret u=>obtain⟨v,σ',H',I,r,q⟩:=h;exact⟨v,σ',H',I.unwish,r,q⟩
theorem PE.nox{e:Expr}{t:TE}(h:PE X.nox e t):PE X e t:=fun zv s σ H Q I hw =>
 dG (h zv s σ H Q (I.wish _) hw) (fun _ _ ⟨v,H',I',r,q⟩=>⟨v,H',I'.unwish,r,q⟩) fun _ _ z=>gW z
theorem PT.nox{e:Expr}{t:TT}(h:PT X.nox e t):PT X e t:=fun zv s σ H Q I hw =>
 dG (h zv s σ H Q (I.wish _) hw) (fun _ _ ⟨H',I',q⟩=>⟨H',I'.unwish,q⟩) fun _ _ z=>gW z
theorem PSs.nox{st:List Stmt}{t:TS}(h:PSs X.nox st t):PSs X st t:=fun zv s σ H D I hw =>
 dG (h zv s σ H D (I.wish _) hw) (fun _ _ q=>q.unwish) fun _ _ z=>gW z
end
section
variable{X:Cx}{st:Stmt}{rest:List Stmt}{t u:TS}{e:Expr}{te:TE}{pos:Pos}
def a3f:TS:=fun D σ H=>D.nx σ H
def tSeq(t u:TS):TS:=fun D σ H=>t { D with nx:=u D } σ H
theorem avy:PSs X [] a3f:=fun _ _ σ H _ I h=>wpAny_execs_nil ⟨σ,H,I,h⟩
theorem ash(h1:PS X st t)(h2:PSs X rest u):PSs X (st::rest) (tSeq t u):=by
 intro zv s σ H D I h;refine wpAny_execs_cons (thn (h1 zv s σ H { D with nx:=u D } I h) fun f s1 q =>?_)
 cases f with
 | next =>
  obtain⟨σ',H',I',q⟩:=q;exact h2 zv s1 σ' H' D I' q
 | ret v=>exact q
 | brk=>exact q
 | cont=>exact q
theorem avx(h1:PS X st t):PSs X [st] t:=by
 intro zv s σ H D I h;refine wpAny_execs_cons (thn (h1 zv s σ H D I h) fun f s1 q =>?_)
 cases f with
 | next=>exact wpAny_execs_nil q
 | ret v=>exact q
 | brk=>exact q
 | cont=>exact q
theorem Inv.quiet{zv:List (Addr×Obj)}{σ:St}{H:Hp}{s:aJ}(I:Inv X zv σ H s):interactive X.env=false:=by simp[interactive,I.ok.kind]
def a3g(te:TE):TS:=fun D σ H=>te σ H fun _ H1=>D.nx σ H1
theorem avz(he:PE X e te)(hs:swapsWith e none pos.line X.env=pure false:=by rfl):PS X (.Expr e pos) (a3g te):=by
 intro zv s σ H D I h;exact wpAny_Expr_any (thn (he zv s σ H _ I h) fun v s1 ⟨x,H1,I1,r1,q1⟩=>⟨σ,H1,I1,q1⟩) I.quiet hs
def tRet(te:TE):TS:=fun D σ H=>te σ H D.rt
theorem ay4(he:PE X e te):PS X (.Return (some e) pos) (tRet te):=by
 intro zv s σ H D I h;exact wpAny_Return_some (thn (he zv s σ H _ I h) fun v s1 ⟨x,H1,I1,r1,q1⟩=>⟨x,σ,H1,I1,r1,q1⟩)
def tIfS(c:TT)(t u:TS):TS:=fun D σ H=>c σ H fun b H1=>if b=true then t D σ H1 else u D σ H1
theorem a3r{c:Expr}{a b:List Stmt}{tc:TT}(hc:PT X c tc)(ha:PSs X a t)(hb:PSs X b u):PS X (.If c a b pos) (tIfS tc t u):=by
 intro zv s σ H D I h;refine wpAny_If (thn (hc zv s σ H _ I h) fun d s1 ⟨H1,I1,q1⟩ =>?_)
 cases d with
 | true=>exact ha zv s1 σ H1 D I1 q1
 | false=>exact hb zv s1 σ H1 D I1 q1
def ayi:TS:=fun _ _ _=>False
theorem asj:PS X st ayi:=fun _ _ _ _ _ _ h=>h.elim
end
abbrev TG:=V->St->Hp->(St->Hp->Prop)->Prop
abbrev TGs:=List V->St->Hp->(St->Hp->Prop)->Prop
def PG(X:Cx)(target:Expr)(t:TG):Prop :=
 ∀(zv:List (Addr×Obj)) (s:aJ) (σ:St) (H:Hp) (v:V) (u:Value) (Q:St->Hp->Prop),Inv X zv σ H s->RelV v u->t v σ H Q ->
  wpAny (model X.prog X.w) X.A (nD target X.env u) (fun _ s'=>∃σ' H',Inv X zv σ' H' s'/\Q σ' H') X.xe s
def PGs(X:Cx)(ts:List Expr)(t:TGs):Prop :=
 ∀(zv:List (Addr×Obj)) (s:aJ) (σ:St) (H:Hp) (vs:List V) (us:List Value) (Q:St->Hp->Prop),Inv X zv σ H s->Vals vs us->t vs σ H Q ->
  wpAny (model X.prog X.w) X.A (assignInOrder ((eV ts X.env).map (·.2)) us) (fun _ s'=>∃σ' H',Inv X zv σ' H' s'/\Q σ' H') X.xe s
abbrev TSet:=V->V->V->Hp->(Hp->Prop)->Prop
def PSet(X:Cx)(t:TSet):Prop :=
 ∀(zv:List (Addr×Obj)) (s:aJ) (σ:St) (H:Hp) (o i v:V) (ov iv u:Value) (Q:Hp->Prop),Inv X zv σ H s->RelV o ov->RelV i iv->RelV v u->t o i v H Q ->
  wpAny (model X.prog X.w) X.A (setItem ov iv u) (fun _ s'=>∃H',Inv X zv σ H' s'/\Q H') X.xe s
abbrev TIp:=V->V->Hp->VK->Prop
def PIp(X:Cx)(op:Operator)(t:TIp):Prop :=
 ∀(zv:List (Addr×Obj)) (s:aJ) (σ:St) (H:Hp) (x y:V) (v u:Value) (Q:VK),Inv X zv σ H s->RelV x v->RelV y u->t x y H Q ->
  wpAny (model X.prog X.w) X.A (inplaceOp op v u) (EP X zv σ Q) X.xe s
section
variable{X:Cx}{pos:Pos}
def a0t(i:Nat):TG:=fun v σ H Q=>Q (σ.set i (some v)) H
theorem aki{i:Nat}{x:Str}(hN:X.N.Nodup)(hi:X.N[i]? = some x)(hx:Loc X.env.scope x)(hf:X.fn x=true∨X.env.scope.names.lookup x=some .local:=by first | exact .inl rfl | exact .inr rfl | assumption):PG X (.Name x pos) (a0t i):=by
 intro zv s σ H v u Q I r h;exact wpAny_assign_Name (aet I hN hi hx r (fun s' I'=>⟨_,H,I',h⟩) hf)
def gNil:TGs:=fun vs σ H Q=>vs=[]/\Q σ H
def a5l(t:TG)(u:TGs):TGs:=fun vs σ H Q=>∃v r,vs=v::r/\t v σ H fun σ' H'=>u r σ' H' Q
theorem apf:PGs X [] gNil:=by
 intro zv s σ H vs us Q I r h;obtain⟨e,h⟩:=h;subst e;cases r;exact assignInOrder_nil ⟨σ,H,I,h⟩
theorem ahh{e:Expr}{es:List Expr}{t:TG}{u:TGs}(h1:PG X e t)(h2:PGs X es u)
  (hs:(eV (e::es) X.env).map (·.2)=nD e X.env::(eV es X.env).map (·.2):=by rfl):PGs X (e::es) (a5l t u):=by
 intro zv s σ H vs us Q I r h;obtain⟨v,vr,e1,h⟩:=h;subst e1;cases r with
 | cons r rr =>
  rw[hs];refine assignInOrder_cons (thn (h1 zv s σ H _ _ _ I r h) fun _ s1 ⟨σ1,H1,I1,q1⟩ =>?_)
  exact h2 zv s1 σ1 H1 _ _ Q I1 rr q1
def gTup(K:Fg9)(n:Nat)(t:TGs):TG:=fun v σ H Q=>∃a xs,v=.ref a/\SqT K H a xs/\xs.length=n/\t xs σ H Q
theorem auq{es:List Expr}{k:Nat}{t:TGs}{n:Nat}(hc:X.calm=true)(h:PGs X es t)
  (hn:(eV es X.env).length=n:=by rfl) (hst:(eV es X.env).findIdx? (·.1)=none:=by rfl):PG X (.Tuple es k pos) (gTup X.K n t):=by
 intro zv s σ H v u Q I r hw;obtain⟨a,xs,e1,hq,hl,hw⟩:=hw;subst e1;cases r;obtain⟨its,rv,ht,hz⟩:=I.tuple hq;refine assign_Tuple_tuple (I.ok.hd hc) ht (by simp[hn,<-hl,rv.length]) hst fun h' hx =>?_
 have I1:Inv X zv σ H { s with heap:=h' }:=I.kept (t':=s.toks) fun b o e=>hx b o (bC (aP e)) e
 exact h zv _ σ H xs _ Q I1 (by simpa using rv) hw
def gSub(to ti:TE)(t:TSet):TG:=fun v σ H Q=>to σ H fun o H1=>ti σ H1 fun i H2=>t o i v H2 fun H3=>Q σ H3
theorem ay7{o i:Expr}{to ti:TE}{t:TSet}(ho:PE X o to)(hi:PE X i ti)(hs:PSet X t)
  (ha:∀v,nD (.Subscript o i pos) X.env v=(do
   let ov <-kY [v] (eval o X.env)
   let iv <-kY [v,ov] (eval i X.env)
   standAt pos
   kY [v,ov,iv] (setItem ov iv v)
   release [v,ov,iv] []):=by intro _;rfl):PG X (.Subscript o i pos) (gSub to ti t):=by
 intro zv s σ H v u Q I r h;rw[ha];refine aA (eQ (thn (ho zv s σ H _ I h) fun ov s1 ⟨x,H1,I1,r1,q1⟩ =>?_))
 refine aA (eQ (thn (hi zv s1 σ H1 _ I1 q1) fun iv s2 ⟨y,H2,I2,r2,q2⟩ =>?_))
 refine aA (wpAny_standAt (aA (eQ (thn (hs zv s2 σ H2 x y v ov iv u _ I2 r1 r2 r q2) fun _ s3 ⟨H3,I3,q3⟩ =>?_))))
 exact wpAny_release ⟨σ,H3,I3,q3⟩
def tAsg(te:TE)(g:TG):TS:=fun D σ H=>te σ H fun x H1=>g x σ H1 D.nx
theorem ao9{tg e:Expr}{te:TE}{g:TG}(he:PE X e te)(hg:PG X tg g)(hs:swapsWithSole [tg] e pos.line X.env=pure false:=by rfl)(hw:swappedStores [tg] e X.env=pure none:=by rfl)
  (h1:(eV [tg] X.env).map (·.2)=[nD tg X.env]:=by rfl):PS X (.Assign [tg] e pos) (tAsg te g):=by
 intro zv s σ H D I h;refine wpAny_Assign_stores (thn (he zv s σ H _ I h) fun v s1 ⟨x,H1,I1,r1,q1⟩ =>?_) hs hw
 rw[h1];exact thn (hg zv s1 σ H1 x v _ I1 r1 q1) fun _ s2 q=>q
theorem ay3{i:Nat}{x:Str}{e:Expr}{te:TE}{pos':Pos}(hN:X.N.Nodup)(hi:X.N[i]? = some x)(hx:Loc X.env.scope x)(he:PE X e te)(hs:swapsWith e (some (.Name x pos')) pos.line X.env=pure false:=by rfl)(hf:X.fn x=true∨X.env.scope.names.lookup x=some .local:=by first | exact .inl rfl | exact .inr rfl | assumption) :
  PS X (.Assign [.Name x pos'] e pos) (tAsg te (a0t i)):=by
 intro zv s σ H D I h;refine wpAny_Assign_Name (thn (he zv s σ H _ I h) fun v s1 ⟨y,H1,I1,r1,q1⟩ =>?_) hs
 exact aet I1 hN hi hx r1 (fun s2 I2=>⟨_,H1,I2,q1⟩) hf
def tPar(i j:Nat)(ta:TA):TS:=fun D σ H=>ta σ H fun vs H1=>∃v w,vs=[v,w]/\D.nx ((σ.set i (some v)).set j (some w)) H1
theorem aup{i j:Nat}{x y:Str}{a b:Expr}{ta:TA}{px py pt:Pos}{kt k2 pt2}(hc:X.calm=true)(hN:X.N.Nodup)(hi:X.N[i]? = some x)(hj:X.N[j]? = some y)(hij:i≠j)
  (hx:X.env.scope.names.lookup x=some .local) (hy:X.env.scope.names.lookup y=some .local) (ha:PA X [a,b] ta)
  (hw:swappedStores [.Tuple [.Name x px,.Name y py] kt pt] (.Tuple [a,b] k2 pt2) X.env=pure (some [x,y]))
  (hs:swapsWithSole [.Tuple [.Name x px,.Name y py] kt pt] (.Tuple [a,b] k2 pt2) pos.line X.env=pure false:=by rfl) :
  PS X (.Assign [.Tuple [.Name x px,.Name y py] kt pt] (.Tuple [a,b] k2 pt2) pos) (tPar i j ta):=by
 intro zv s σ H D I h;rw[exec_Assign_arm];refine aA (wpAny_standAt ?_);rw[hs];refine aA (aF ?_);rw[if_neg (by decide)]
 refine aA (Tuple_ (thn (ha _ zv s σ H _ I h) fun us s1 ⟨vs,H1,I1,r1,q1⟩ =>?_))
 obtain⟨v,w,e1,q1⟩:=q1;subst e1;obtain⟨u1,u2,rfl,rv,rw'⟩:∃u1 u2,us=[u1,u2]/\RelV v u1/\RelV w u2:=by
  cases r1 with
  | cons p q =>
   cases q with
   | cons p' q' =>
    cases q';exact⟨_,_,rfl,p,p'⟩
 refine bF ?_ (by show 2<=bV;decide)
 have I2:Inv X zv σ H1 { s1 with heap:=s1.heap.push { cls:=.type "tuple", data:=.seq [u1,u2].toArray } }:=I1.kept (t':=s1.toks) fun b o e=>aB _ e
 rw[hw];refine aA (aF ?_);show wpAny (model X.prog X.w) X.A (do rule "assign.swapped-stores";let items <-unpackItems (.ref s1.heap.objs.size) 2 none;assignInOrder [fun v=>bindName X.env y v,fun v=>bindName X.env x v] items.reverse;pure Flow.next) _ _ _
 refine aA (gU (aA (unpackItems_tuple (items := #[u1,u2]) (I.ok.hd hc) (IsTup.new s1.heap _) fun h' hx' =>?_)))
 have I3:=I2.kept (h':=h') (t':=s1.toks) fun b o e=>hx' b o (bC (aP e)) e
 show wpAny _ _ (assignInOrder [fun v=>bindName X.env y v,fun v=>bindName X.env x v] [u2,u1] >>= fun _=>pure Flow.next) _ _ _
 refine aA (assignInOrder_cons (wpAny_bindName (aet I3 hN hj (.inl hy) rw' (fun s2 I4 =>?_) (.inr hy))))
 refine assignInOrder_cons (wpAny_bindName (aet I4 hN hi (.inl hx) rv (fun s3 I5=>assignInOrder_nil (aF ?_)) (.inr hx)))
 rw[List.set_comm _ _ (iR hij)] at I5;exact⟨_,H1,I5,q1⟩
def a3i(to ti te:TE)(tget:V->V->Hp->VK->Prop)(tip:TIp)(tset:TSet):TS:=fun D σ H=>to σ H fun o H1=>ti σ H1 fun i H2=>tget o i H2 fun x H3=>te σ H3 fun y H4=>tip x y H4 fun z H5=>tset o i z H5 fun H6=>D.nx σ H6
def PGet(X:Cx)(t:V->V->Hp->VK->Prop):Prop :=
 ∀(zv:List (Addr×Obj)) (s:aJ) (σ:St) (H:Hp) (o i:V) (ov iv:Value) (Q:VK),Inv X zv σ H s->RelV o ov->RelV i iv->t o i H Q ->
  wpAny (model X.prog X.w) X.A (kZ ov iv) (EP X zv σ Q) X.xe s
theorem av0{o i e:Expr}{to ti te:TE}{tget:V->V->Hp->VK->Prop}{tip:TIp}{tset:TSet}{op:Operator}{tpos:Pos}(ho:PE X o to)(hi:PE X i ti)(hg:PGet X tget)(he:PE X e te)(hp:PIp X op tip)(hs:PSet X tset)
  (ha:∀ov iv new,augStore i ov iv new=(do kY [new,ov,iv] (setItem ov iv new);release [new,ov,iv] [];pure .next):=by intros;rfl):PS X (.AugAssign (.Subscript o i tpos) op e pos) (a3i to ti te tget tip tset):=by
 intro zv s σ H D I h;refine wpAny_AugAssign_SubscriptAny (thn (ho zv s σ H _ I h) fun ov s1 ⟨x1,H1,I1,r1,q1⟩ =>?_) ha
 refine thn (hi zv s1 σ H1 _ I1 q1) fun iv s2 ⟨x2,H2,I2,r2,q2⟩ =>?_
 refine thn (hg zv s2 σ H2 x1 x2 ov iv _ I2 r1 r2 q2) fun old s3 ⟨x3,H3,I3,r3,q3⟩ =>?_
 refine thn (he zv s3 σ H3 _ I3 q3) fun v s4 ⟨x4,H4,I4,r4,q4⟩ =>?_
 refine thn (hp zv s4 σ H4 x3 x4 old v _ I4 r3 r4 q4) fun new s5 ⟨x5,H5,I5,r5,q5⟩ =>?_
 exact thn (hs zv s5 σ H5 x1 x2 x5 ov iv new _ I5 r1 r2 r5 q5) fun _ s6 ⟨H6,I6,q6⟩=>⟨σ,H6,I6,q6⟩
def ipI(f:Int->Int->Int):TIp:=fun x y H Q=>∃i j,x=.int i/\y=.int j/\Q (.int (f i j)) H
theorem a0o:PIp X .Add (ipI fun i j=>i+j):=by
 intro zv s σ H x y v u Q I r1 r2 h;obtain⟨i,j,e1,e2,q⟩:=h;subst e1;subst e2;obtain⟨t,rfl⟩:=r1;obtain⟨t',rfl⟩:=r2;exact iadd_int ⟨.int _,H,I.tok _,⟨_,rfl⟩,q⟩
end
section
variable{X:Cx}{pos:Pos}
def ayh(c:TT)(tb:TS):TS:=fun D σ H=>∃W:Nat->St->Hp->Prop,(∃m,W m σ H)/\∀m σ H,W m σ H ->
 c σ H fun b H1=>if b=true then ∃N:St->Hp->Prop,(∀σ' H',N σ' H'->∃m',m' < m/\W m' σ' H')/\tb { D with nx:=N,ct:=N,bk:=D.nx } σ H1 else D.nx σ H1
theorem asi{c:Expr}{body:List Stmt}{tc:TT}{tb:TS}(hp:rQ (model X.prog X.w) X.A X.env X.xe)(hc:PT X c tc)(hb:PSs X body tb):PS X (.While c body [] pos) (ayh tc tb):=by
 intro zv s σ H D I h;obtain⟨W,⟨m0,w0⟩,turn⟩:=h;refine wpAny_While (codeAny_whileLoop (fun n s'=>∃σ' H',Inv X zv σ' H' s'/\W n σ' H') ?_ m0 ⟨σ,H,I,w0⟩)
 rintro n s1 ⟨σ1,H1,I1,w1⟩
 refine wpAny_passesOwn hp (thn (hc zv s1 σ1 H1 _ I1 (turn n σ1 H1 w1)) fun b s2 ⟨H2,I2,q2⟩ =>?_)
 cases b with
 | true =>
  obtain⟨N,hN,q2⟩:=q2;rw[if_pos rfl];refine wpAny_passesOwn hp (thn (hb zv s2 σ1 H2 _ I2 q2) fun f s3 q3 =>?_)
  cases f with
  | next =>
   obtain⟨σ3,H3,I3,n3⟩:=q3;obtain⟨m',hm,w3⟩:=hN σ3 H3 n3;exact⟨m',hm,σ3,H3,I3,w3⟩
  | cont =>
   obtain⟨σ3,H3,I3,n3⟩:=q3;obtain⟨m',hm,w3⟩:=hN σ3 H3 n3;exact⟨m',hm,σ3,H3,I3,w3⟩
  | brk=>exact q3
  | ret v=>exact q3
 | false =>
  rw[if_neg eF];exact wpAny_execs_nil ⟨σ1,H2,I2,q2⟩
end
structure It where
 go:Nat->Hp->Prop
 yld:Nat->Hp->V->Hp->Prop
 stop:Nat->Hp->Prop
def FpOk(X:Cx)(zv:List (Addr×Obj))(H:Hp)(b:Addr):Prop :=
 H b=none/\b≠X.env.locals/\b∉X.fs/\(b∈X.ex∨X.s₀.heap.objs.size<=b)/\(∀x c,X.env.cells.lookup x=some c->c≠b)/\∀p∈X.pn++zv,p.1≠b
theorem Inv.fpOk{X:Cx}{zv:List (Addr×Obj)}{σ:St}{H H':Hp}{s:aJ}{b:Addr}(I:Inv X zv σ H s)(hb:s.heap.objs.size<=b)(hn:H' b=none):FpOk X zv H' b:=by
 refine⟨hn,fX (bY I.lt hb),I.nofs hb,.inr (cC I.sz hb),fun x c e z =>?_,fun p hp z =>?_⟩
 ·obtain⟨v,q⟩:=I.cell x c e;exact absurd (bY q.lt (by rw[z];exact hb)) (jE _)
 ·exact absurd (bY (aP (I.pin p hp).1) (by rw[z];exact hb)) (jE _)
structure Turn (P:bI) (w:World) (K:Fg9) (tg:Expr) (J:It) (fp:List Addr) (it:Addr) (tn:Nat->Heap->Prop):Prop where
 mem:it∈fp
 obj:∀i h,tn i h->∀b∈fp,∃o,h.get? b=some o/\∀v,o.data≠.cell v
 keep:∀i h h',tn i h->(∀b∈fp,∀o,h.get? b=some o->h'.get? b=some o)->tn i h'
 item:∀(X:Cx),X.prog=P->X.w=w->X.K=K->X.calm=true->∀(i:Nat) (zv:List (Addr×Obj)) (s:aJ) (σ:St) (H:Hp) (E:Value->aJ->Prop),Inv X zv σ H s->(∀b∈fp,FpOk X zv H b)->tn i s.heap->J.go i H ->
  wpAny (model P w) X.A (lF (.ref it)) (fun r s1=>∃u,r=some u /\
   wpAny (model P w) X.A (letOwnedTupleGo tg (.ref it) u) (fun _ s2=>∃x H',Inv X zv σ H' s2/\RelV x u/\J.yld i H x H'/\tn (i+1) s2.heap/\∀b∈fp,H' b=none) E s1) E s
 done:∀(X:Cx),X.prog=P->X.w=w->X.K=K->X.calm=true->∀(i:Nat) (zv:List (Addr×Obj)) (s:aJ) (σ:St) (H:Hp) (E:Value->aJ->Prop),Inv X zv σ H s->(∀b∈fp,FpOk X zv H b)->tn i s.heap->J.stop i H ->
  wpAny (model P w) X.A (lF (.ref it)) (fun r s1=>r=none/\Inv X zv σ H s1) E s
 self:∀(A:cM) (i:Nat) (s:aJ) (Q:Value->aJ->Prop) (E:Value->aJ->Prop),tn i s.heap->Q (.ref it) s->wpAny (model P w) A (pyIter (.ref it)) Q E s
abbrev TI:=St->Hp->(It->Hp->Prop)->Prop
def PIE(X:Cx)(zv:List (Addr×Obj))(σ:St)(tg:Expr)(R:It->Hp->Prop)(itv:Value)(s2:aJ):Prop :=
 ∃(it:Addr) (fp:List Addr) (tn:Nat->Heap->Prop) (J:It) (H':Hp),itv=.ref it/\Inv X zv σ H' s2/\Turn X.prog X.w X.K tg J fp it tn/\tn 0 s2.heap/\(∀b∈fp,FpOk X zv H' b)/\R J H'
def PI(X:Cx)(tg iter:Expr)(wi:TI):Prop :=
 ∀(zv:List (Addr×Obj)) (s:aJ) (σ:St) (H:Hp) (R:It->Hp->Prop),Inv X zv σ H s->wi σ H R ->
  wpAny (model X.prog X.w) X.A (eval iter X.env) (fun v s1=>wpAny (model X.prog X.w) X.A (pyIter v) (PIE X zv σ tg R) X.xe s1) X.xe s
theorem aw2{M:Model}{A:cM}{E:Value->aJ->Prop}{s:aJ}{tg:Expr}{it:Addr}{u:Value}{o:Obj}{n:String}{vs:Array Value}{Q:Unit->aJ->Prop}(ho:s.heap.get? it=some o)(hc:o.cls=.type n)(hd:o.data=.fields vs)
  (hn:["enumerate","zip","dict_itemiterator","dict_reverseitemiterator","odict_iterator","itertools.zip_longest","itertools.pairwise"].contains n=false) (hQ:Q () s):wpAny M A (letOwnedTupleGo tg (.ref it) u) Q E s:=by
 unfold letOwnedTupleGo;cases tg <;> first
  | exact aF hQ
  | (cases u <;> first
    | exact aF hQ
    | (refine aA (wpAny_load ho ?_)
       rw[hc,hd];show wpAny M A (if (["enumerate","zip","dict_itemiterator","dict_reverseitemiterator","odict_iterator","itertools.zip_longest","itertools.pairwise"].contains n&&vs[0]? == some (jT _))=true then _ else _) Q E s
       rw[if_neg (by intro h;rw[hn,qR] at h;cases h)]
       exact aF hQ))
def Itl(K:Fg9)(a:Addr):It :=
 ⟨fun i H=>∃xs x,SqL K H a xs/\xs[i]? = some x,fun i H x H'=>H'=H/\∀xs,SqL K H a xs->xs[i]? = some x,fun i H=>∃xs,SqL K H a xs/\xs.length<=i⟩
def Itt(K:Fg9)(a:Addr):It :=
 ⟨fun i H=>∃xs x,SqT K H a xs/\xs[i]? = some x,fun i H x H'=>H'=H/\∀xs,SqT K H a xs->xs[i]? = some x,fun i H=>∃xs,SqT K H a xs/\xs.length<=i⟩
def Itr(lo:Int)(n:Nat):It:=⟨fun i _=>i < n,fun i H x H'=>H'=H/\x=.int (lo+i),fun i _=>n<=i⟩
theorem aot{P:bI}{w:World}{K:Fg9}{tg:Expr}(a it:Addr):Turn P w K tg (Itl K a) [it] it (fun i h=>h.IsListIter it a i) where
 mem:=by simp
 obj:=fun i h st b hb=>by
  have e:b=it:=by simpa using hb
  subst e;obtain⟨o,e,c,d⟩:=st;exact⟨o,e,fun v z=>by rw[d] at z;cases z⟩
 keep:=fun i h h' st k=>st.at fun o e=>k it (by simp) o e
 item:=by
  intro X hP hw hK hc i zv s σ H E I hf st hg;subst hP hw hK;obtain⟨xs,x,hq,hx⟩:=hg;obtain⟨its,rv,p,hz⟩:=I.list hq;obtain⟨u,hu,ru⟩:=rv.get hx;obtain⟨f0,f1,f2,f3,f4,f5⟩:=hf it (by simp)
  refine wpAny_pyNext_list_item st p.isList (x:=u) (by simpa using hu) fun h' st' sb =>?_
  have I1:Inv X zv σ H { s with heap:=h' }:=I.turned (t':=s.toks) (fun b o hb e=>(sb.2 b hb).trans e) f0 f1 f3 f4 f5
  obtain⟨o,e,c,d⟩:=id st';exact⟨u,rfl,aw2 (s:={ s with heap:=h' }) e c d (by decide) ⟨x,H,I1,ru,⟨rfl,fun ys hy=>by rw[I.list_inj hy hq];exact hx⟩,st',fun b hb=>(hf b hb).1⟩⟩
 done:=by
  intro X hP hw hK hc i zv s σ H E I hf st hg;subst hP hw hK;obtain⟨xs,hq,hx⟩:=hg;obtain⟨its,rv,p,hz⟩:=I.list hq;obtain⟨f0,f1,f2,f3,f4,f5⟩:=hf it (by simp)
  have hl:=rv.length;exact wpAny_pyNext_list_end (I.ok.hd hc) st p.isList (by simp;omega) fun h' eb=>⟨rfl,I.turned (t':=s.toks) (fun b o hb e=>eb b o hb e) f0 f1 f3 f4 f5⟩
 self:=fun _ _ _ _ _ st h=>wpAny_pyIter_listiter st h
theorem am1{P:bI}{w:World}{K:Fg9}{tg:Expr}(a it:Addr):Turn P w K tg (Itt K a) [it] it (fun i h=>h.IsTupleIter it a i) where
 mem:=by simp
 obj:=fun i h st b hb=>by
  have e:b=it:=by simpa using hb
  subst e;obtain⟨o,e,c,d⟩:=st;exact⟨o,e,fun v z=>by rw[d] at z;cases z⟩
 keep:=fun i h h' st k=>st.at fun o e=>k it (by simp) o e
 item:=by
  intro X hP hw hK hc i zv s σ H E I hf st hg;subst hP hw hK;obtain⟨xs,x,hq,hx⟩:=hg;obtain⟨its,rv,p,hz⟩:=I.tuple hq;obtain⟨u,hu,ru⟩:=rv.get hx;obtain⟨f0,f1,f2,f3,f4,f5⟩:=hf it (by simp)
  refine wpAny_pyNext_tuple_item st (show s.heap.IsTuple a its.toArray from p) (x:=u) (by simpa using hu) fun h' st' sb =>?_
  have I1:Inv X zv σ H { s with heap:=h' }:=I.turned (t':=s.toks) (fun b o hb e=>(sb.2 b hb).trans e) f0 f1 f3 f4 f5
  obtain⟨o,e,c,d⟩:=id st';exact⟨u,rfl,aw2 (s:={ s with heap:=h' }) e c d (by decide) ⟨x,H,I1,ru,⟨rfl,fun ys hy=>by rw[I.tuple_inj hy hq];exact hx⟩,st',fun b hb=>(hf b hb).1⟩⟩
 done:=by
  intro X hP hw hK hc i zv s σ H E I hf st hg;subst hP hw hK;obtain⟨xs,hq,hx⟩:=hg;obtain⟨its,rv,p,hz⟩:=I.tuple hq;obtain⟨f0,f1,f2,f3,f4,f5⟩:=hf it (by simp)
  have hl:=rv.length;exact wpAny_pyNext_tuple_end (I.ok.hd hc) st (show s.heap.IsTuple a its.toArray from p) (by simp;omega) fun h' eb=>⟨rfl,I.turned (t':=s.toks) (fun b o hb e=>eb b o hb e) f0 f1 f3 f4 f5⟩
 self:=fun _ _ _ _ _ st h=>wpAny_pyIter_tupleiter st h
theorem am3{P:bI}{w:World}{K:Fg9}{tg:Expr}(it:Addr)(lo:Int)(n:Nat):Turn P w K tg (Itr lo n) [it] it (fun i h=>IsRangeIter h it (lo+(i:Nat)*1) ((n:Int) - (i:Nat)) 1) where
 mem:=by simp
 obj:=fun i h st b hb=>by
  have e:b=it:=by simpa using hb
  subst e;exact⟨_,st,fun v z=>by
   have z':Data.fields _=Data.cell v:=z;cases z'⟩
 keep:=fun i h h' st k=>k it (by simp) _ st
 item:=by
  intro X hP hw hK hc i zv s σ H E I hf st hg;subst hP hw hK;obtain⟨f0,f1,f2,f3,f4,f5⟩:=hf it (by simp)
  have W:=Walks.range (prog:=X.prog) (w:=X.w) (I.ok.hd hc) it lo 1 n;refine W.item i s _ _ hg st fun v h' tk hv st' kk =>?_
  obtain⟨t,rfl⟩:=hv;have I1:Inv X zv σ H { s with heap:=h',toks:=tk }:=I.turned (fun b o hb e=>kk b o (by simpa using hb) e) f0 f1 f3 f4 f5
  refine⟨_,rfl,aw2 (s:={ s with heap:=h',toks:=tk }) (n := "range_iterator") st' rfl rfl (by decide) ⟨.int (lo+i),H,I1,⟨t,?_⟩,⟨rfl,rfl⟩,st',fun b hb=>(hf b hb).1⟩⟩
  rw[pY]
 done:=by
  intro X hP hw hK hc i zv s σ H E I hf st hg;subst hP hw hK;obtain⟨f0,f1,f2,f3,f4,f5⟩:=hf it (by simp)
  exact wpAny_pyNext_range_end (I.ok.hd hc) st (by have:n<=i:=hg;omega) fun h' eb=>⟨rfl,I.turned (t':=s.toks) (fun b o hb e=>eb b o hb e) f0 f1 f3 f4 f5⟩
 self:=fun _ _ _ _ _ st h=>wpAny_pyIter_rangeiter st h
section
variable{X:Cx}{tg:Expr}
def a5d(K:Fg9)(tl:TE):TI:=fun σ H R=>tl σ H fun x H1=>∃a,x=.ref a/\(∃xs,SqL K H1 a xs)/\R (Itl K a) H1
def iTup(K:Fg9)(tl:TE):TI:=fun σ H R=>tl σ H fun x H1=>∃a,x=.ref a/\(∃xs,SqT K H1 a xs)/\R (Itt K a) H1
theorem ape{l:Expr}{tl:TE}(hl:PE X l tl):PI X tg l (a5d X.K tl):=by
 intro zv s σ H R I h;refine thn (hl zv s σ H _ I h) fun v s1 ⟨x,H1,I1,r1,q1⟩ =>?_
 obtain⟨a,e,⟨xs,hq⟩,q⟩:=q1;subst e;cases r1;obtain⟨its,rv,p,hz⟩:=I1.list hq;refine wpAny_pyIter_list p.isList ?_;refine⟨s1.heap.objs.size,[s1.heap.objs.size],_,_,H1,rfl,I1.kept (t':=s1.toks) fun b o e=>aB _ e,aot a _,⟨_,aK _ rfl,rfl,rfl⟩,fun b hb =>?_,q⟩
 have e:b=s1.heap.objs.size:=by simpa using hb
 subst e;exact I1.fpOk (aL _) (I1.hok.fresh (aL _))
theorem ay6{l:Expr}{tl:TE}(hl:PE X l tl):PI X tg l (iTup X.K tl):=by
 intro zv s σ H R I h;refine thn (hl zv s σ H _ I h) fun v s1 ⟨x,H1,I1,r1,q1⟩ =>?_
 obtain⟨a,e,⟨xs,hq⟩,q⟩:=q1;subst e;cases r1;obtain⟨its,rv,p,hz⟩:=I1.tuple hq;refine wpAny_pyIter_tuple (show s1.heap.IsTuple a its.toArray from p) ?_
 refine⟨s1.heap.objs.size,[s1.heap.objs.size],_,_,H1,rfl,I1.kept (t':=s1.toks) fun b o e=>aB _ e,am1 a _,⟨_,aK _ rfl,rfl,rfl⟩,fun b hb =>?_,q⟩
 have e:b=s1.heap.objs.size:=by simpa using hb
 subst e;exact I1.fpOk (aL _) (I1.hok.fresh (aL _))
theorem asf{zv:List (Addr×Obj)}{σ:St}{H:Hp}{s:aJ}{R:It->Hp->Prop}{E:Value->aJ->Prop}{lo hi:Int}{t u v:Tok}{tk:Nat}(I:Inv X zv σ H s)(h1 : -(2 ^ 62)<=lo)(h2:lo < 2 ^ 62)(h3 : -(2 ^ 62)<=hi)(h4:hi < 2 ^ 62)
  (q:R (Itr lo (hi - lo).toNat) H):wpAny (model X.prog X.w) X.A (pyIter (.ref s.heap.objs.size)) (PIE X zv σ tg R) E { s with heap:=s.heap.push { cls:=.type "range", data:=.fields #[.int lo t,.int hi u,.int 1 v] },toks:=tk }:=by
 refine wpAny_pyIter_range (IsRange.new ..) (small_one h1 h2 h3 h4) ?_;have I1:Inv X zv σ H { s with heap:=s.heap.push { cls:=.type "range", data:=.fields #[.int lo t,.int hi u,.int 1 v] },toks:=tk }:=I.kept fun b o e=>aB _ e
 refine⟨(s.heap.push { cls:=.type "range", data:=.fields #[.int lo t,.int hi u,.int 1 v] }).objs.size,[(s.heap.push { cls:=.type "range", data:=.fields #[.int lo t,.int hi u,.int 1 v] }).objs.size],_,_,H,rfl,
  I1.kept (t':=tk) fun b o e=>aB _ e,am3 _ lo (hi - lo).toNat,?_,fun b hb =>?_,q⟩
 ·have e1:lo+((0:Nat):Int)*1=lo:=by simp
  have e2:(((hi - lo).toNat:Nat):Int) - ((0:Nat):Int)=Builtin.Range.rangeSize lo hi 1:=by rw[rangeSize_one];split <;> omega
  show IsRangeIter _ _ (lo+((0:Nat):Int)*1) ((((hi - lo).toNat:Nat):Int) - ((0:Nat):Int)) 1;rw[e1,e2];exact aK _ rfl
 ·have e:b=(s.heap.push { cls:=.type "range", data:=.fields #[.int lo t,.int hi u,.int 1 v] }).objs.size:=by simpa using hb
  subst e;exact I1.fpOk (aL _) (I1.hok.fresh (aL _))
def a5c(ta:TA):TI:=fun σ H R=>ta σ H fun vs H1=>∃j:Int,vs=[.int j] /\ -(2 ^ 62)<=j/\j < 2 ^ 62/\R (Itr 0 j.toNat) H1
theorem apd{a:Expr}{ta:TA}{p pos:Pos}(hg:Gl X "range")(hm:X.mg "range" = none)(ha:PA X [a] ta)(hs:aW [a] X.env=[(false,eval a X.env)]:=by rfl):PI X tg (.Call (.Name "range" p) [a] [] pos) (a5c ta):=by
 intro zv s σ H R I h;refine Call_ (afd I hg hm boot_range (fU (thn (ha pos zv s σ H _ I h) fun us s1 ⟨vs,H1,I1,r1,q1⟩ =>?_) hs rfl))
 obtain⟨j,e,q1,q2,q⟩:=q1;subst e;cases r1 with
 | cons r rr =>
  cases rr;obtain⟨t,rfl⟩:=r;exact call_range_1 (asf I1 (by omega) (by omega) q1 q2 (by simpa using q))
def tFor(wi:TI)(g:TG)(tb:TS):TS:=fun D σ H=>wi σ H fun J H1=>∃W:Nat->Nat->St->Hp->Prop,(∃m,W 0 m σ H1)/\∀i m σ H,W i m σ H ->
 (J.stop i H/\D.nx σ H)∨(J.go i H/\∃N:St->Hp->Prop,(∀σ' H',N σ' H'->∃m',m' < m/\W (i+1) m' σ' H')/\∀x H',J.yld i H x H'->g x σ H' fun σ2 H2=>tb { D with nx:=N,ct:=N,bk:=D.nx } σ2 H2)
def aiu(fp:List Addr)(h:Heap):List (Addr×Obj):=fp.filterMap fun b=>(h.get? b).map fun o=>(b,o)
theorem abu{fp:List Addr}{h:Heap}{b:Addr}{o:Obj}(hb:b∈fp)(e:h.get? b=some o):(b,o)∈aiu fp h:=sZ.mpr ⟨b,hb,by rw[e];rfl⟩
theorem apl{fp:List Addr}{h:Heap}{p:Addr×Obj}(hp:p∈aiu fp h):p.1∈fp/\h.get? p.1=some p.2:=by
 obtain⟨b,hb,e⟩:=sZ.mp hp;cases q:h.get? b with
 | none=>rw[q] at e;cases e
 | some o =>
  rw[q] at e;have e':(b,o)=p:=bK e;subst e';exact⟨hb,q⟩
theorem Inv.pinned{zv:List (Addr×Obj)}{σ:St}{H:Hp}{s:aJ}{fp:List Addr}(I:Inv X zv σ H s)(hf:∀b∈fp,FpOk X zv H b)(ho:∀b∈fp,∃o,s.heap.get? b=some o/\∀v,o.data≠.cell v):Inv X (zv++aiu fp s.heap) σ H s :=
 I.pins_of fun p hp=>(cN.mp hp).elim (fun z=>I.pin p (cT _ z)) fun z=>by
  obtain⟨hb,e⟩:=apl z;obtain⟨f0,f1,f2,_⟩:=hf p.1 hb;obtain⟨o,e',d⟩:=ho p.1 hb;rw[e] at e';cases e';exact⟨e,f0,f1,f2,d⟩
theorem Inv.unpinned{zv pl:List (Addr×Obj)}{σ:St}{H:Hp}{s:aJ}(I:Inv X (zv++pl) σ H s):Inv X zv σ H s:=I.pins_of fun p hp=>I.pin p (cT _ (gD _ hp))
theorem ay5{iter:Expr}{body:List Stmt}{wi:TI}{g:TG}{tb:TS}{pos:Pos}(hp:rQ (model X.prog X.w) X.A X.env X.xe)(hc:X.calm=true)(hi:PI X tg iter wi)(hg:PG X tg g)(hb:PSs X body tb)
  (hs:∀x,foldedSetIterable iter X.env x=pure x:=by intro _;rfl):PS X (.For tg iter body [] pos) (tFor wi g tb):=by
 intro zv s σ H D I h;refine wpAny_For (thn (hi zv s σ H _ I h) fun v s1 h1=>thn h1 fun itv s2 h2 =>?_) hs
 obtain⟨it,fp,tn,J,H2,e,I2,T,st2,f2,W,⟨m0,w0⟩,turn⟩:=h2;subst e;have stat:∀{H':Hp},(∀b∈fp,H' b=none)->∀b∈fp,FpOk X zv H' b:=fun hn b hb=>⟨hn b hb,(f2 b hb).2⟩
 refine codeAny_forLoop_any (fun n s'=>∃i σ' H',Inv X zv σ' H' s'/\tn i s'.heap/\(∀b∈fp,H' b=none)/\W i n σ' H') ?_ m0 ⟨0,σ,H2,I2,st2,fun b hb=>(f2 b hb).1,w0⟩
 rintro n s3 ⟨i,σ3,H3,I3,st3,fr3,w3⟩
 rcases turn i n σ3 H3 w3 with⟨stop,qn⟩ | ⟨go,N,hN,step⟩
 ·refine wpAny_passesOwn hp (thn (T.done X rfl rfl rfl hc i zv s3 σ3 H3 X.xe I3 (stat fr3) st3 stop) fun r s4 ⟨hr,I4⟩ =>?_)
  subst hr;exact wpAny_execs_nil ⟨σ3,H3,I4,qn⟩
 ·refine wpAny_passesOwn hp (thn (T.item X rfl rfl rfl hc i zv s3 σ3 H3 X.xe I3 (stat fr3) st3 go) fun r s4 ⟨u,hr,h4⟩ =>?_)
  subst hr;refine wpAny_passesOwn hp (thn h4 fun _ s5 ⟨x,H5,I5,r5,y5,st5,fr5⟩ =>?_)
  have I5':=I5.pinned (stat fr5) (T.obj _ _ st5);refine wpAny_passesOwn hp (thn (hg _ s5 σ3 H5 x u _ I5' r5 (step x H5 y5)) fun _ s6 ⟨σ6,H6,I6,q6⟩ =>?_)
  refine wpAny_passesOwn hp (thn (hb _ s6 σ6 H6 _ I6 q6) fun f s7 q7 =>?_)
  have again:∀{σ7:St} {H7:Hp},Inv X (zv++aiu fp s5.heap) σ7 H7 s7->N σ7 H7->∃m,m < n/\∃i σ' H',Inv X zv σ' H' s7/\tn i s7.heap/\(∀b∈fp,H' b=none)/\W i m σ' H':=fun{σ7 H7} I7 n7=>by
   obtain⟨m',hm,w7⟩:=hN σ7 H7 n7;refine⟨m',hm,i+1,σ7,H7,I7.unpinned,T.keep _ _ _ st5 fun b hb o e=>(I7.pin (b,o) (cT _ (cT _ (abu hb e)))).1,fun b hb =>?_,w7⟩
   obtain⟨o,e,d⟩:=T.obj _ _ st5 b hb;exact(I7.pin (b,o) (cT _ (cT _ (abu hb e)))).2.1
  cases f with
  | next=>obtain⟨σ7,H7,I7,n7⟩:=q7;exact again I7 n7
  | cont=>obtain⟨σ7,H7,I7,n7⟩:=q7;exact again I7 n7
  | brk=>obtain⟨σ7,H7,I7,q7⟩:=q7;exact⟨σ7,H7,I7.unpinned,q7⟩
  | ret v=>obtain⟨x7,σ7,H7,I7,r7,q7⟩:=q7;exact⟨x7,σ7,H7,I7.unpinned,r7,q7⟩
end
abbrev R2:=V->V->Hp->VK->Prop
def OpR(X:Cx)(f:Value->Value->Sem Value)(r:R2):Prop :=
 ∀(zv:List (Addr×Obj)) (s:aJ) (σ:St) (H:Hp) (x y:V) (v u:Value) (Q:VK),Inv X zv σ H s->RelV x v->RelV y u->r x y H Q ->
  wpAny (model X.prog X.w) X.A (f v u) (EP X zv σ Q) X.xe s
def UnR(X:Cx)(f:Value->Sem Value)(r:V->Hp->VK->Prop):Prop :=
 ∀(zv:List (Addr×Obj)) (s:aJ) (σ:St) (H:Hp) (x:V) (v:Value) (Q:VK),Inv X zv σ H s->RelV x v->r x H Q ->
  wpAny (model X.prog X.w) X.A (f v) (EP X zv σ Q) X.xe s
def ab6(X:Cx)(f:Value)(r:List V->Hp->VK->Prop):Prop :=
 ∀(zv:List (Addr×Obj)) (s:aJ) (σ:St) (H:Hp) (xs:List V) (us:List Value) (Q:VK),Inv X zv σ H s->Vals xs us->r xs H Q ->
  wpAny (model X.prog X.w) X.A (call f us) (EP X zv σ Q) X.xe s
def tOp(r:R2)(ta tb:TE):TE:=fun σ H Q=>ta σ H fun x H1=>tb σ H1 fun y H2=>r x y H2 Q
def tUn(r:V->Hp->VK->Prop)(ta:TE):TE:=fun σ H Q=>ta σ H fun x H1=>r x H1 Q
def rI(C:Int->Int->Prop)(g:Int->Int->V):R2:=fun x y H Q=>∃i j,x=.int i/\y=.int j/\C i j/\Q (g i j) H
def rI0(g:Int->Int->V):R2:=fun x y H Q=>∃i j,x=.int i/\y=.int j/\Q (g i j) H
def rU(g:Int->V):V->Hp->VK->Prop:=fun x H Q=>∃i,x=.int i/\Q (g i) H
section
variable{X:Cx}{a b c:Expr}{ta tb tc:TE}{pos:Pos}
theorem binT(ha:PE X a ta)(hb:PE X b tb){zv:List (Addr×Obj)}{s:aJ}{σ:St}{H:Hp}{R:V->V->Hp->Prop}(I:Inv X zv σ H s)
  (h:ta σ H fun x H1=>tb σ H1 fun y H2=>R x y H2) {Q:Value->aJ->Prop} {f:Value->Value->Sem Value}
  (hf:∀v u s2 x y H2,Inv X zv σ H2 s2->RelV x v->RelV y u->R x y H2->wpAny (model X.prog X.w) X.A (f v u) Q X.xe s2) :
  wpAny (model X.prog X.w) X.A (eval a X.env) (fun v s₁=>wpAny (model X.prog X.w) X.A (eval b X.env) (fun u s₂=>wpAny (model X.prog X.w) X.A (f v u) Q X.xe s₂) X.xe s₁) X.xe s:=by
 refine thn (ha zv s σ H _ I h) fun v s1 ⟨x,H1,I1,r1,q1⟩ =>?_
 refine thn (hb zv s1 σ H1 _ I1 q1) fun u s2 ⟨y,H2,I2,r2,q2⟩ =>?_
 exact hf v u s2 x y H2 I2 r1 r2 q2
theorem a3t{op:Operator}{r:R2}(ho:OpR X (fH op) r)(ha:PE X a ta)(hb:PE X b tb):PE X (.BinOp a op b pos) (tOp r ta tb):=by
 intro zv s σ H Q I h;exact wpAny_BinOp (binT ha hb I h fun v u s2 x y H2 I2 rx ry q=>ho zv s2 σ H2 x y v u Q I2 rx ry q)
theorem a3s{op:UnaryOp}{r:V->Hp->VK->Prop}(ho:UnR X (unaryOp op) r)(ha:PE X a ta):PE X (.UnaryOp op a pos) (tUn r ta):=by
 intro zv s σ H Q I h;exact UnaryOp_ (thn (ha zv s σ H _ I h) fun v s1 ⟨x,H1,I1,r1,q1⟩=>ho zv s1 σ H1 x v Q I1 r1 q1)
theorem opI{f:Value->Value->Sem Value}{C:Int->Int->Prop}{g:Int->Int->Int}
  (rule:∀(i j:Int) (t u:Tok) (s:aJ) (Q:Value->aJ->Prop) (E:Value->aJ->Prop),C i j->Q (.int (g i j) s.toks) { s with toks:=s.toks+1 }->wpAny (model X.prog X.w) X.A (f (.int i t) (.int j u)) Q E s) :
  OpR X f (rI C fun i j=>.int (g i j)):=by
 intro zv s σ H x y v u Q I rx ry h;obtain⟨i,j,rfl,rfl,hc,q⟩:=h;obtain⟨t,rfl⟩:=rx;obtain⟨t',rfl⟩:=ry;exact rule i j t t' s _ _ hc ⟨.int (g i j),H,I.tok _,⟨_,rfl⟩,q⟩
theorem opI0{f:Value->Value->Sem Value}{g:Int->Int->Int}
  (rule:∀(i j:Int) (t u:Tok) (s:aJ) (Q:Value->aJ->Prop) (E:Value->aJ->Prop),Q (.int (g i j) s.toks) { s with toks:=s.toks+1 }->wpAny (model X.prog X.w) X.A (f (.int i t) (.int j u)) Q E s) :
  OpR X f (rI0 fun i j=>.int (g i j)):=by
 intro zv s σ H x y v u Q I rx ry h;obtain⟨i,j,rfl,rfl,q⟩:=h;obtain⟨t,rfl⟩:=rx;obtain⟨t',rfl⟩:=ry;exact rule i j t t' s _ _ ⟨.int (g i j),H,I.tok _,⟨_,rfl⟩,q⟩
theorem opB0{f:Value->Value->Sem Value}{g:Int->Int->Bool}
  (rule:∀(i j:Int) (t u:Tok) (s:aJ) (Q:Value->aJ->Prop) (E:Value->aJ->Prop),Q (.bool (g i j)) s->wpAny (model X.prog X.w) X.A (f (.int i t) (.int j u)) Q E s) :
  OpR X f (rI0 fun i j=>.bl (g i j)):=by
 intro zv s σ H x y v u Q I rx ry h;obtain⟨i,j,rfl,rfl,q⟩:=h;obtain⟨t,rfl⟩:=rx;obtain⟨t',rfl⟩:=ry;exact rule i j t t' s _ _ ⟨.bl (g i j),H,I,rfl,q⟩
def CPow(i j:Int):Prop:=0<=j/\j<=1000000/\i.natAbs < 2 ^ 64
def CMul(i j:Int):Prop:=(-(2 ^ 64) < i/\i < 2 ^ 64)∨(-(2 ^ 64) < j/\j < 2 ^ 64)
theorem CMul.ok{i j:Int}(h:CMul i j):IntMulOk i j:=by
 rcases h with⟨h1,h2⟩ | ⟨h1,h2⟩
 ·exact .of_left (intBits_le_64 h1 h2)
 ·exact .of_right (intBits_le_64 h1 h2)
theorem azo:OpR X (fH .Add) (rI0 fun i j=>.int (i+j)):=opI0 fun _ _ _ _ _ _ _ q=>add_int q
theorem azi:OpR X (fH .Sub) (rI0 fun i j=>.int (i - j)):=opI0 fun _ _ _ _ _ _ _ q=>sub_int q
theorem azl:OpR X (fH .Mult) (rI CMul fun i j=>.int (i*j)):=opI fun _ _ _ _ _ _ _ hc q=>mul_int q hc.ok
theorem azm:OpR X (fH .Mod) (rI (fun _ j=>0 < j) fun i j=>.int (i % j)):=opI fun i j _ _ _ _ _ hc q=>by
 have h1:(0:Int) < j:=hc;exact mod_int' (by omega) (by rw[qH i (by omega)];exact q)
theorem azk:OpR X (fH .Pow) (rI CPow fun i j=>.int (i ^ j.toNat)):=opI fun _ _ _ _ _ _ _ hc q=>pow_int_small hc.1 hc.2.1 hc.2.2 q
theorem unI{f:Value->Sem Value}{g:Int->Int}
  (rule:∀(i:Int) (t:Tok) (s:aJ) (Q:Value->aJ->Prop) (E:Value->aJ->Prop),Q (.int (g i) s.toks) { s with toks:=s.toks+1 }->wpAny (model X.prog X.w) X.A (f (.int i t)) Q E s) :
  UnR X f (rU fun i=>.int (g i)):=by
 intro zv s σ H x v Q I rx h;obtain⟨i,rfl,q⟩:=h;obtain⟨t,rfl⟩:=rx;exact rule i t s _ _ ⟨.int (g i),H,I.tok _,⟨_,rfl⟩,q⟩
theorem aye:UnR X (unaryOp .USub) (rU fun i=>.int (-i)):=unI fun _ _ _ _ _ q=>neg_int q
end
section
variable{X:Cx}{a b c:Expr}{ta tb tc:TE}{pos:Pos}
theorem a3z:OpR X (dZ .Lt) (rI0 fun i j=>.bl (decide (i < j))):=opB0 fun _ _ _ _ _ _ _ q=>lt_int q
theorem asv:OpR X (dZ .LtE) (rI0 fun i j=>.bl (decide (i<=j))):=opB0 fun _ _ _ _ _ _ _ q=>le_int q
theorem a4a:OpR X (dZ .Gt) (rI0 fun i j=>.bl (decide (j < i))):=opB0 fun _ _ _ _ _ _ _ q=>gt_int q
theorem a4b:OpR X (dZ .GtE) (rI0 fun i j=>.bl (decide (j<=i))):=opB0 fun _ _ _ _ _ _ _ q=>ge_int q
theorem kj(b:Expr){op:CmpOp}(h:op≠.In:=by decide)(h2:op≠.NotIn:=by decide):gK op b=false:=by
 have e1:(op==CmpOp.In)=false:=by cases op <;> first | rfl | exact absurd rfl h
 have e2:(op==CmpOp.NotIn)=false:=by cases op <;> first | rfl | exact absurd rfl h2
 cases b <;> simp[gK,e1,e2]
theorem awb{op:CmpOp}{r:R2}(ho:OpR X (dZ op) r)(ha:PE X a ta)(hb:PE X b tb)(hm:gK op b=false):PE X (.Compare a [op] [b] pos) (tOp r ta tb):=by
 intro zv s σ H Q I h;exact wpAny_Compare1 (binT ha hb I h fun v u s2 x y H2 I2 rx ry q=>ho zv s2 σ H2 x y v u Q I2 rx ry q) hm
def a3b(t:TE):TT:=fun σ H Q=>t σ H fun x H'=>∃k,x=.bl k/\Q k H'
theorem avw{op:CmpOp}{r:R2}(ho:OpR X (dZ op) r)(ha:PE X a ta)(hb:PE X b tb)(hm:gK op b=false):PT X (.Compare a [op] [b] pos) (a3b (tOp r ta tb)):=by
 intro zv s σ H Q I h;refine wpAny_isTrue_Compare1 (thn (ha zv s σ H _ I h) fun v s1 ⟨x,H1,I1,r1,q1⟩=>thn (hb zv s1 σ H1 _ I1 q1) fun u s2 ⟨y,H2,I2,r2,q2⟩ =>
  thn (ho zv s2 σ H2 x y v u _ I2 r1 r2 q2) fun c s3 ⟨z,H3,I3,r3,k,e,q3⟩ =>?_) hm
 subst e;cases r3;exact wpAny_truthy_bool ⟨H3,I3,q3⟩
def aul(r r':R2)(ta tb tc:TE):TE:=fun σ H Q=>ta σ H fun x H1=>tb σ H1 fun y H2=>r x y H2 fun z H3=>∃k,z=.bl k /\
 (if k=true then tc σ H3 fun w' H4=>r' y w' H4 Q else Q (.bl false) H3)
theorem asq{op op':CmpOp}{r r':R2}(ho:OpR X (dZ op) r)(ho':OpR X (dZ op') r')(ha:PE X a ta)(hb:PE X b tb)(hc:PE X c tc)
  (hm:lastMarks [op,op'] [b,c]=false:=by with_unfolding_all rfl):PE X (.Compare a [op,op'] [b,c] pos) (aul r r' ta tb tc):=by
 intro zv s σ H Q I h;refine Compare_chain (thn (ha zv s σ H _ I h) fun v s1 ⟨x,H1,I1,r1,q1⟩=>chain_link (thn (hb zv s1 σ H1 _ I1 q1) fun u s2 ⟨y,H2,I2,r2,q2⟩ =>
  thn (ho zv s2 σ H2 x y v u _ I2 r1 r2 q2) fun d s3 ⟨z,H3,I3,r3,k,e,q3⟩ =>?_)) hm
 subst e;cases r3;refine wpAny_truthy_bool ?_;cases k with
 | false=>exact ite_ff ⟨.bl false,H3,I3,rfl,q3⟩
 | true=>exact ite_tt (chain_last (thn (hc zv s3 σ H3 _ I3 q3) fun w' s4 ⟨z',H4,I4,r4,q4⟩=>ho' zv s4 σ H4 y z' u w' Q I4 r2 r4 q4))
theorem ajf:(bV:Nat) < 2 ^ 63:=by rw[gA];decide
theorem anf:OpR X (fH .Add) (fun x y H Q=>∃i j,x=.str i/\y=.str j/\i.length+j.length<=bV/\Q (.str (i++j)) H):=by
 intro zv s σ H x y v u Q I rx ry h;obtain⟨i,j,rfl,rfl,hz,q⟩:=h;obtain⟨t,rfl⟩:=rx;obtain⟨t',rfl⟩:=ry;exact add_str (fun t' tk=>⟨.str (i++j),H,I.tok _,⟨_,rfl⟩,q⟩) hz
theorem vals1{x:V}{us:List Value}(r:Vals [x] us):∃u,us=[u]/\RelV x u:=by
 cases r with
 | cons r1 r2=>cases r2;exact⟨_,rfl,r1⟩
theorem vals2{x y:V}{us:List Value}(r:Vals [x,y] us):∃u w',us=[u,w']/\RelV x u/\RelV y w':=by
 cases r with
 | cons r1 r2 =>
  cases r2 with
  | cons r3 r4=>cases r4;exact⟨_,_,rfl,r1,r3⟩
theorem aq8(hc:X.calm=true):ab6 X (.builtin "max") (fun xs H Q=>∃i j,xs=[.int i,.int j]/\Q (.int (if j > i then j else i)) H):=by
 intro zv s σ H xs us Q I r h;obtain⟨i,j,rfl,q⟩:=h;obtain⟨u,w',rfl,⟨t,rfl⟩,⟨t',rfl⟩⟩:=vals2 r;refine max_two_ints (I.ok.hd hc) fun h' tk k=>⟨_,H,I.kept k,?_,q⟩
 by_cases hj:j > i
 ·rw[if_pos hj,if_pos hj];exact⟨_,rfl⟩
 ·rw[if_neg hj,if_neg hj];exact⟨_,rfl⟩
theorem ajx:ab6 X (.type "int") (fun xs H Q=>(∃i,xs=[.int i]/\Q (.int i) H)∨∃k,xs=[.bl k]/\Q (.int (if k then 1 else 0)) H):=by
 intro zv s σ H xs us Q I r h;rcases h with⟨i,rfl,q⟩ | ⟨k,rfl,q⟩
 ·obtain⟨u,rfl,t,rfl⟩:=vals1 r;exact call_int_int ⟨.int i,H,I,⟨_,rfl⟩,q⟩
 ·obtain⟨u,rfl,r1⟩:=vals1 r;cases r1;exact call_int_bool ⟨.int (if k then 1 else 0),H,I.tok _,⟨_,rfl⟩,q⟩
end
structure ObjM (h:Heap) (x dx C:Addr) (mA:Str->Option Value):Prop where
 obj:h.get? x=some (iC C dx)
 ns:h.Ns1 dx mA
 ne:dx≠x
theorem apv{h:Heap}{dx:Addr}{mA:Str->Option Value}(n:h.Ns1 dx mA):∃od,h.get? dx=some od/\∀name,qL name od=some (mA name):=by
 obtain⟨o,es,ep,ho,hd,hk,_,hm⟩:=n;refine⟨o,ho,fun name =>?_⟩
 have e:=hm name;unfold nsFind findBy at e;rw[<-Array.find?_toList] at e;unfold qL;rw[hd];dsimp only;split
 ·rename_i y q;rw[q] at e;exact congrArg some e
 ·rename_i q;rw[q] at e;have a:es.toList.any (·.refKey)=false:=by
   rw[List.any_eq_false];intro y hy;obtain⟨z,t,hkey⟩:=hk y (Array.mem_toList_iff.mp hy);simp[DictEntry.refKey,hkey]
  have a':¬es.toList.any (·.refKey)=true:=by rw[a];exact eF
  rw[if_neg a'];exact congrArg some e
theorem ObjM.look{h:Heap}{x dx C:Addr}{mA:Str->Option Value}(I:ObjM h x dx C mA):∃od,lB h x (iC C dx) C (some od)/\∀name,qL name od=some (mA name) :=
 let ⟨od,ho,hl⟩:=apv I.ns
 ⟨od,⟨I.obj,rfl,rfl,ho⟩,hl⟩
section
variable{prog:bI}{w:World}{A:cM}{E:Value->aJ->Prop}{s:aJ}{K:Fg9}{x dx C f:Addr}{mA:Str->Option Value}{name:Str}{v:Value}
end
section
variable{P:bI}{w:World}{H H':Hp}{h h':Heap}{a C dx:Addr}{fs fs':List (Str×V)}
theorem aw1(hok:HOk P w H h)(e:H a=some (.ins C dx fs)):∃mA,ObjM h a dx C mA/\(∀f,RelO (fs.lookup f) (mA f))/\PySem.Within mA (fs.map (·.1))/\fs.length<=1000/\H dx=some (.own a):=by
 obtain⟨d,z,ne,ob,mA,n,r,q⟩:=(show ym P w H h a (.ins C dx fs) from hok a _ e)
 exact⟨mA,⟨ob,n,ne⟩,r,q,z,d⟩
end
structure Cls (K:Fg9) (C:Addr):Prop where
 pg:uJ K C Str.empty=true
 hd:tR K C=true
 po:PySem.W.plainOver K C=true
 sa:oY K (.ref C) "__setattr__" = some (some (.builtin "object.__setattr__"))
theorem Cls.get{K:Fg9}{C:Addr}(c:Cls K C)(f:Str):uJ K C f=true:=c.pg
structure Con (K:Fg9) (C:Addr) (f:Str) (v:V) (u:Value):Prop where
 at_:oY K (.ref C) f=some (some u)
 rel:RelV v u
 get:lH K u "__get__" = some none
 cp:PySem.W.copiedNames.contains f=false
structure Meth (K:Fg9) (C:Addr) (m:Str) (f:Addr):Prop where
 at_:oY K (.ref C) m=some (some (.ref f))
 fn:PySem.W.isFn K (.ref f)=true
 kp:eH K (.ref f)=true
section
variable{X:Cx}{zv:List (Addr×Obj)}{σ:St}{H:Hp}{s:aJ}{a C dx:Addr}{fs:List (Str×V)}{f:Str}{v:V}{A:cM}{E:Value->aJ->Prop}
theorem Inv.made(I:Inv X zv σ H s):Inv X zv σ (upd (upd H s.heap.objs.size (.own (s.heap.objs.size+1))) (s.heap.objs.size+1) (.ins C s.heap.objs.size []))
  { s with heap:=(s.heap.push gF).push (iC C s.heap.objs.size) }:=by
 have e1:(s.heap.push gF).get? s.heap.objs.size=some gF:=aK s.heap rfl;have e2:((s.heap.push gF).push (iC C s.heap.objs.size)).get? (s.heap.objs.size+1)=some (iC C s.heap.objs.size):=by
  have:=aK (s.heap.push gF) (o:=iC C s.heap.objs.size) rfl;rwa[bD] at this
 have e3:(s.heap.push gF).Ns s.heap.objs.size (fun _=>none):=⟨PySem.W.emptyDict,#[],_,e1,rfl,(fun e he=>absurd he (by simp)),fun _=>rfl⟩
 have I1:=I.laid (a:=s.heap.objs.size) (o:=.own (s.heap.objs.size+1)) (h':=s.heap.push gF) (t':=s.toks) (fun b u q=>aB _ q) (aL _) ⟨_,e1⟩
 refine I1.laid (a:=s.heap.objs.size+1) (o:=.ins C s.heap.objs.size []) (t':=s.toks) (fun b u q=>aB _ q) (kI (bD _ _)) ?_
 have ne:s.heap.objs.size≠s.heap.objs.size+1:=bC (iU _);refine⟨by rw[fj ne,jm],dJ _,ne,e2,fun _=>none,(Heap.Ns1.of_empty e3).at fun o q=>aB _ q,fun _=>lG,fun y hy=>absurd rfl hy⟩
end
section
variable{X:Cx}{o e value:Expr}{f:Str}{pos pos' tpos:Pos}{ta tv:TE}
end
section
variable{X:Cx}{zv:List (Addr×Obj)}{σ:St}{H:Hp}{s:aJ}{A:cM}{E:Value->aJ->Prop}{Q:Value->aJ->Prop}{c:Value}{b:Bool}
inductive TyOf (K:Fg9) (H:Hp):V->Value->Prop where
 | non:TyOf K H .non (.type "NoneType")
 | bl (x:Bool):TyOf K H (.bl x) (.type "bool")
 | int (i:Int):TyOf K H (.int i) (.type "int")
 | str (x:Str):TyOf K H (.str x) (.type "str")
 | flt (x:UInt64):TyOf K H (.flt x) (.type "float")
 | lst {a:Addr} {xs:List V} (e:H a=some (.lst xs)):TyOf K H (.ref a) (.type "list")
 | frz {a:Addr} {o:Obj} {xs:List V} (e:H a=some (.frz o (.lst xs))):TyOf K H (.ref a) (.type "list")
 | tup {a:Addr} {xs:List V} (e:H a=some (.tup xs)):TyOf K H (.ref a) (.type "tuple")
 | dK {a:Addr} {kvs:List (Key×V)} (e:H a=some (.dK kvs)):TyOf K H (.ref a) (.type "dict")
 | dT {a:Addr} {kvs:List (List Key×V)} (e:H a=some (.dT kvs)):TyOf K H (.ref a) (.type "dict")
 | ins {a C dx:Addr} {fs:List (Str×V)} (e:H a=some (.ins C dx fs)) (cl:Cls K C) (ha:oY K (.ref C) "__class__" = some (some (.builtin "object.__class__")))
   (hn:lH K (.builtin "object.__class__") "__get__" = some (some (.builtin "getset_descriptor.__get__"))) (htk:pN K (.builtin "object.__class__")=some true)
   (hm:rA K C (.type "object")=some true):TyOf K H (.ref a) (.ref C)
theorem ap4{x:V}{u t:Value}(I:Inv X zv σ H s)(rx:RelV x u)(ty:TyOf X.K H x t)(e:nF X.K t c=some b)(h:∀tk,Q (.bool b) { s with toks:=tk }) :
  wpAny (model X.prog X.w) A (call (.builtin "isinstance") [u,c]) Q E s:=by
 cases ty with
 | non=>cases(show u=fQ from rx);exact dO PySem.W.kitx_none I.kIn lG e (fun z=>nomatch z) h
 | bl y=>cases(show u=qU y from rx);exact dO PySem.W.kitx_bool I.kIn lG e (fun z=>nomatch z) h
 | int i=>obtain⟨t,q⟩:=(show ∃t,u=mJ i t from rx);cases q;exact dO PySem.W.kitx_int I.kIn lG e (fun z=>nomatch z) h
 | str y=>obtain⟨t,q⟩:=(show ∃t,u=uN y t from rx);cases q;exact dO PySem.W.kitx_str I.kIn lG e (fun z=>nomatch z) h
 | flt y=>obtain⟨t,q⟩:=(show ∃t,u=Value.float y t from rx);cases q;exact dO PySem.W.kitx_float I.kIn lG e (fun z=>nomatch z) h
 | @lst a xs ea =>
  cases(show u=fJ a from rx)
  obtain⟨_,_,n,_,h1⟩:=(show ym X.prog X.w H s.heap a (.lst xs) from I.hok a _ ea)
  exact dO oM I.kIn ⟨_,h1,rfl⟩ e (fun z=>nomatch z) h
 | @frz a ob xs ea =>
  cases(show u=fJ a from rx)
  obtain⟨_,_,_,n,_,h1⟩:=(show ym X.prog X.w H s.heap a (.frz ob (.lst xs)) from I.hok a _ ea)
  exact dO oM I.kIn ⟨_,h1,rfl⟩ e (fun z=>nomatch z) h
 | @tup a xs ea =>
  cases(show u=fJ a from rx)
  obtain⟨_,_,_,p⟩:=(show ym X.prog X.w H s.heap a (.tup xs) from I.hok a _ ea)
  obtain⟨o,h1,h2,_⟩:=p;exact dO PySem.W.kitx_tuple I.kIn ⟨o,h1,h2⟩ e (fun z=>nomatch z) h
 | @dK a kvs ea =>
  cases(show u=fJ a from rx)
  obtain⟨_,_,vs,_,p⟩:=(show ym X.prog X.w H s.heap a (.dK kvs) from I.hok a _ ea)
  obtain⟨o,es,ep,h1,h2,_⟩:=p;exact dO tQ I.kIn ⟨o,h1,h2.1⟩ e (fun z=>nomatch z) h
 | @dT a kvs ea =>
  cases(show u=fJ a from rx)
  obtain⟨_,_,xs,_,o,es,ep,h1,h2,_⟩:=(show ym X.prog X.w H s.heap a (.dT kvs) from I.hok a _ ea)
  exact dO tQ I.kIn ⟨o,h1,h2.1⟩ e (fun z=>nomatch z) h
 | @ins a C dx fs ea cl ha hn htk hm =>
  cases(show u=fJ a from rx)
  obtain⟨mA,O,_⟩:=aw1 I.hok ea;obtain⟨od,J,_⟩:=O.look;exact dO (PySem.W.kitx_own (cl.get _) cl.hd ha hn htk hm) I.kIn J e (fun z=>nomatch z) h
end
structure Room (k:Nat) (A:cM):Prop where
 hd:A.handled=none
 dp:A.depth+3*k+5 < recursionLimit
 un:A.units+16*k+200 < cLine
 gd:A.guards=some []
theorem Room.mono{j k:Nat}{A:cM}(r:Room k A)(h:j<=k):Room j A:=⟨r.hd,by have:=r.dp;omega,by have:=r.un;omega,r.gd⟩
theorem Room.deeper{k:Nat}{A:cM}(r:Room (k+1) A)(env:Env):Room k (A.deeper env) :=
 ⟨r.hd,by have:=r.dp;show A.depth+1+3*k+5 < _;omega,by have:=r.un;show A.units+3+16*k+200 < _;omega,r.gd⟩
theorem Room.in1{k:Nat}{A:cM}(r:Room (k+1) A):Room k A.in1 :=
 ⟨r.hd,by have:=r.dp;show A.depth+3*k+5 < _;omega,by have:=r.un;show A.units+1+16*k+200 < _;omega,r.gd⟩
theorem Room.depth{k:Nat}{A:cM}(r:Room k A):A.depth < recursionLimit:=by have:=r.dp;omega
theorem Room.units{k:Nat}{A:cM}(r:Room k A):A.units+64 < cLine:=by have:=r.un;omega
def tNil:TA:=fun _ H Q=>Q [] H
def a3h(ta:TE)(tr:TA):TA:=fun σ H Q=>ta σ H fun x H1=>tr σ H1 fun xs H2=>Q (x::xs) H2
section
variable{X:Cx}{e:Expr}{es:List Expr}{te:TE}{t:TA}{pos:Pos}
theorem aej:PA X [] tNil:=fun _ _ _ _ H Q I h=>Calls.spliced_nil ⟨[],H,I,.nil,h⟩
theorem ur(ha:PE X e te)(hr:PA X es t)(hs:aW (e::es) X.env=(false,eval e X.env)::aW es X.env:=by rfl):PA X (e::es) (a3h te t):=by
 intro pos zv s σ H Q I h;rw[hs];show wpAny _ _ (spliced ((false,eval e X.env)::jP pos (aW es X.env))) _ _ s;refine Calls.spliced_cons (thn (ha zv s σ H _ I h) fun u s1 ⟨x,H1,I1,r1,q1⟩ =>?_)
 exact thn (hr pos zv s1 σ H1 _ I1 q1) fun us s2 ⟨xs,H2,I2,r2,q2⟩=>⟨x::xs,H2,I2,.cons r1 r2,q2⟩
def tTup(t:TA):TE:=fun σ H Q=>t σ H fun xs H1=>xs.length<=bV/\∀p,H1 p=none->Q (.ref p) (upd H1 p (.tup xs))
def tLst(t:TA):TE:=fun σ H Q=>t σ H fun xs H1=>xs.length<=bV/\∀p,H1 p=none->Q (.ref p) (upd H1 p (.lst xs))
theorem aur{x1}(h:PA X es t):PE X (.Tuple es x1 pos) (tTup t):=by
 intro zv s σ H Q I hq;refine wpAny_Tuple_spliced (thn (h pos zv s σ H _ I hq) fun us s1 ⟨xs,H1,I1,r,z,q⟩=>⟨by rw[<-r.length];exact z,?_⟩)
 have hf:H1 s1.heap.objs.size=none:=I1.hok.fresh (aL _);refine⟨.ref s1.heap.objs.size,upd H1 s1.heap.objs.size (.tup xs),I1.laid (t':=s1.toks) (fun b u e=>aB _ e) (aL _) ?_,rfl,q _ hf⟩
 exact⟨z,us,r,⟨_,aK _ rfl,rfl,rfl,_,rfl⟩⟩
theorem aze(h:PA X es t):PE X (.List es pos) (tLst t):=by
 intro zv s σ H Q I hq;refine wpAny_List_spliced (thn (h pos zv s σ H _ I hq) fun us s1 ⟨xs,H1,I1,r,z,q⟩=>⟨by rw[<-r.length];exact z,?_⟩)
 have hf:H1 s1.heap.objs.size=none:=I1.hok.fresh (aL _);refine⟨.ref s1.heap.objs.size,upd H1 s1.heap.objs.size (.lst xs),I1.laid (t':=s1.toks) (fun b u e=>aB _ e) (aL _) ?_,rfl,q _ hf⟩
 exact⟨z,us,0,r,aK _ rfl⟩
end
abbrev Sp:=List V->Hp->VK->XK->Prop
abbrev CXT:=List Env->Hp->aJ->XK->Value->aJ->Prop
structure Env0 (P:bI) (w:World) (K:Fg9) (mg:Str->Option Value) (base:Heap) (A:cM) (outer:List Env) (s:aJ) (H:Hp):Prop where
 frames:A.frames=some outer
 mod:Mod K mg base
 bs:∀b o,base.get? b=some o->s.heap.get? b=some o/\H b=none
 bsz:base.objs.size<=s.heap.objs.size
 funs:s.heap.FunFrames base outer
 frf:∀b∈frs outer,H b=none
 hok:HOk P w H s.heap
 bare:nQ s.gens
def CE(outer:List Env)(P:bI)(w:World)(H:Hp)(s:aJ)(Q:VK)(u:Value)(s':aJ):Prop :=
 ∃v H',s'.os=s.os/\nQ s'.gens/\Un (frs outer) [] H H' s.heap s'.heap/\HOk P w H' s'.heap/\RelV v u/\Q v H'
def CR(CX:CXT)(outer:List Env)(P:bI)(w:World)(H:Hp)(s:aJ)(Q:VK)(E:XK)(r:Result)(s':aJ):Prop :=
 match r with
 | .ok (.ret u)=>CE outer P w H s Q u s'
 | .ok _=>False
 | .error e=>CX outer H s E e s'
structure FnOk (P:bI) (w:World) (K:Fg9) (mg:Str->Option Value) (base:Heap) (CX:CXT) (k:Nat) (f:Addr) (fd:fO) (ps:List Str) (sp:Sp):Prop where
 len:∀vs H Q E,sp vs H Q E->vs.length=ps.length
 run:∀(A:cM) (outer:List Env) (s:aJ) (H:Hp) (args:Args) (us:List Value) (vs:List V) (Q:VK) (E:XK),Room k A->Env0 P w K mg base A outer s H->oX s fd args (ps.zip us)->Vals vs us->sp vs H Q E ->
  nM (model P w) A (.call (.ref f) args) (CR CX outer P w H s Q E) s
theorem FnOk.mono{P:bI}{w:World}{K:Fg9}{mg:Str->Option Value}{base:Heap}{CX:CXT}{j k:Nat}{f:Addr}{fd:fO}{ps:List Str}{sp:Sp}(F:FnOk P w K mg base CX j f fd ps sp)(h:j<=k) :
  FnOk P w K mg base CX k f fd ps sp:=⟨F.len,fun A outer s H args us vs Q E hr=>F.run A outer s H args us vs Q E (hr.mono h)⟩
theorem FnOk.imp{P:bI}{w:World}{K:Fg9}{mg:Str->Option Value}{base:Heap}{CX:CXT}{k:Nat}{f:Addr}{fd:fO}{ps:List Str}{sp sp':Sp}(F:FnOk P w K mg base CX k f fd ps sp)
  (h:∀vs H Q E,sp' vs H Q E->sp vs H Q E):FnOk P w K mg base CX k f fd ps sp' :=
 ⟨fun vs H Q E q=>F.len vs H Q E (h _ _ _ _ q),fun A outer s H args us vs Q E hr he hb hv hs=>F.run A outer s H args us vs Q E hr he hb hv (h _ _ _ _ hs)⟩
theorem Env0.in1{P:bI}{w:World}{K:Fg9}{mg:Str->Option Value}{base:Heap}{A:cM}{outer:List Env}{s:aJ}{H:Hp}(e:Env0 P w K mg base A outer s H) :
  Env0 P w K mg base A.in1 outer s H:=⟨e.frames,e.mod,e.bs,e.bsz,e.funs,e.frf,e.hok,e.bare⟩
section
variable{X:Cx}{zv:List (Addr×Obj)}{σ:St}{H:Hp}{s s':aJ}
theorem Inv.env0(I:Inv X zv σ H s):Env0 X.prog X.w X.K X.mg X.base X.A X.stack s H :=
 ⟨I.ok.frames,I.ok.mod,I.bs,cC I.ok.bsz I.sz,I.stack,I.stkFree,I.hok,I.bare⟩
theorem Inv.after{Q:VK}{u:Value}(I:Inv X zv σ H s)(h:CE X.stack X.prog X.w H s Q u s'):EP X zv σ Q u s':=by
 obtain⟨v,H',os,bare,un,hok,r,q⟩:=h;obtain⟨hh,g,d,t,os'⟩:=s';obtain rfl:os'=s.os:=os;exact⟨v,H',I.call (h':=hh) (g':=g) (d':=d) (t':=t) (ch:=[]) un hok bare (fun b z=>absurd z (by simp)),r,q⟩
end
def ayl(sp:Sp)(dvs:List V)(E:XK)(t:TA):TE:=fun σ H Q=>t σ H fun vs H1=>sp (vs++dvs) H1 Q E
def Binds(K:Fg9)(fd:fO)(ps:List Str)(ds:List Value):Prop :=
 ∀(s:aJ) (us:List Value),K.In s.heap->(us++ds).length=ps.length->oX s fd ⟨us,[]⟩ (ps.zip (us++ds))
theorem Binds.all{K:Fg9}{fd:fO}{ps:List Str}(h:∀us:List Value,us.length=ps.length->bindArgs fd ⟨us,[]⟩=pure (ps.zip us)):Binds K fd ps []:=fun s us _ hl=>by
 rw[jG] at hl ⊢
 exact .of_eq (h us hl)
def ark(CX:CXT)(X:Cx)(E:XK):Prop:=∀(zv:List (Addr×Obj)) (σ:St) (H:Hp) (s:aJ) (e:Value) (s':aJ),Inv X zv σ H s->CX X.stack H s E e s'->X.xe e s'
section
variable{X:Cx}{CX:CXT}{k:Nat}{f C:Addr}{fd:fO}{ps:List Str}{sp:Sp}{dvs:List V}{ds:List Value}{E:XK}{x m:Str}{p pos apos:Pos}{e o:Expr}{es:List Expr}{ta:TE}{t:TA}
theorem ayr{zv:List (Addr×Obj)}{σ:St}{H:Hp}{s:aJ}{Q:VK}{us:List Value}{vs:List V}(F:FnOk X.prog X.w X.K X.mg X.base CX k f fd ps sp)(hr:Room k X.A)(hb:Binds X.K fd ps ds)(hd:Vals dvs ds)(hx:ark CX X E)
  (I:Inv X zv σ H s) (r:Vals vs us) (h:sp (vs++dvs) H Q E):wpAny (model X.prog X.w) X.A (call (.ref f) us) (EP X zv σ Q) X.xe s:=by
 have r2:Vals (vs++dvs) (us++ds):=r.append hd;have hl:(us++ds).length=ps.length:=by rw[<-r2.length];exact F.len _ _ _ _ h
 refine wpAny_call (codeAny_mono (F.run X.A X.stack s H ⟨us,[]⟩ (us++ds) (vs++dvs) Q E hr I.env0 (hb s us I.kIn hl) r2 h) fun r s' hq =>?_)
 cases r with
 | error e=>exact hx zv σ H s e s' I hq
 | ok fl =>
  cases fl with
  | ret u=>exact I.after hq
  | next=>exact gW hq
  | brk=>exact gW hq
  | cont=>exact gW hq
theorem awc(F:FnOk X.prog X.w X.K X.mg X.base CX k f fd ps sp)(hr:Room k X.A)(hg:Gl X x)(hm:X.mg x=some (.ref f))(hk:eH X.K (.ref f)=true)(hb:Binds X.K fd ps ds)(hd:Vals dvs ds)(hx:ark CX X E)
  (ha:PA X (e::es) t) (hdb:(x==("__debug__" : Str))=false:=by decide) (he:aW (e::es) X.env=(false,eval e X.env)::aW es X.env:=by rfl) (hpl:(jP pos (aW es X.env)).any (·.1)=false:=by rfl) :
  PE X (.Call (.Name x p) (e::es) [] pos) (ayl sp dvs E t):=by
 intro zv s σ H Q I h;refine wpAny_Call_Name_kw (apx I hg hm ?_ hdb);refine PySem.W.callWith_K (h₀:=X.base) I.ok.mod.kin hk (thn (ha pos zv s σ H _ I h) fun us s1 ⟨vs,H1,I1,r,q⟩=>⟨I1.kIn,?_⟩) he hpl
 exact ayr F hr hb hd hx I1 r q
structure Mk (K:Fg9) (C f:Addr):Prop where
 makes:PySem.W.makesIn K C=true
 init:oY K (.ref C) "__init__" = some (some (.ref f))
 fn:PySem.W.isFn K (.ref f)=true
 kp:eH K (.ref C)=true
end
section
variable{X:Cx}{CX:CXT}{k:Nat}{f C:Addr}{fd:fO}{ps ks:List Str}{sp:Sp}{E:XK}{x m:Str}{p pos apos kpos:Pos}{e o:Expr}{es:List Expr}{kws:List Keyword}{te ta:TE}{t tk:TA}{nm:Option Str}
structure KBinds (K:Fg9) (fd:fO) (ps ks:List Str) (g:List Value->List Value->List Value) (gV:List V->List V->List V):Prop where
 to:∀(s:aJ) (us ws:List Value),K.In s.heap->(g us ws).length=ps.length->oX s fd ⟨us,ks.zip ws⟩ (ps.zip (g us ws))
 rel:∀{vs:List V} {us:List Value} {zs:List V} {ws:List Value},Vals vs us->Vals zs ws->Vals (gV vs zs) (g us ws)
variable{g:List Value->List Value->List Value}{gV:List V->List V->List V}
end
structure FnScope (N P:List Str) (sc:Scope):Prop where
 kind:sc.kind=.function
 co:sc.isCoroutine=false
 gen:sc.isGenerator=false
 nd:N.Nodup
 pre:N.take P.length=P
 par:∀x∈P,sc.names.lookup x=some .local∨sc.names.lookup x=some .cell
 nofree:∀y∈sc.names,y.2≠.free
theorem aj1{kindOf:Str->Option rE}{x:Str}:∀{binds:List (Str×Value)} {m:Str->Option Value},(∀v,(x,v)∉binds)->bindL kindOf binds m x=m x
 | [],_,_=>rfl
 | (n,v)::r,m,h=>by
  unfold bindL;rw[aj1 fun w hw=>h w (aQ _ hw)]
  split
  ·have:x≠n:=by rintro rfl;exact h v aR
   simp[this]
  ·rfl
theorem aj3{kindOf:Str->Option rE}{x:Str}:∀{binds:List (Str×Value)} {m:Str->Option Value},(∀v,(x,v)∉binds)->bindC kindOf binds m x=m x
 | [],_,_=>rfl
 | (n,v)::r,m,h=>by
  unfold bindC;rw[aj3 fun w hw=>h w (aQ _ hw)]
  split
  ·rfl
  ·have:x≠n:=by rintro rfl;exact h v aR
   simp[this]
theorem aj2{kindOf:Str->Option rE}{x:Str}{v:Value}:∀{P:List Str} {vs:List Value} {i:Nat} {m:Str->Option Value},P.Nodup->P[i]? = some x->vs[i]? = some v->kindOf x=some .local ->
  bindL kindOf (P.zip vs) m x=some v
 | [],_,_,_,_,h,_,_=>by simp at h
 | _::_,[],_,_,_,_,h,_=>by simp at h
 | p::P,w::vs,0,m,nd,h1,h2,hk=>by
  simp at h1 h2;subst h1;subst h2;show bindL kindOf ((p,w)::P.zip vs) m p=_;unfold bindL;rw[aj1 fun v hv=>(mQ.mp nd).1 (pR hv).1,if_pos hk]
  simp
 | p::P,w::vs,i+1,m,nd,h1,h2,hk=>by
  show bindL kindOf ((p,w)::P.zip vs) m x=_;unfold bindL;exact aj2 (i:=i) (mQ.mp nd).2 (by simpa using h1) (by simpa using h2) hk
theorem aj4{kindOf:Str->Option rE}{x:Str}{v:Value}:∀{P:List Str} {vs:List Value} {i:Nat} {m:Str->Option Value},P.Nodup->P[i]? = some x->vs[i]? = some v->kindOf x≠some .local ->
  bindC kindOf (P.zip vs) m x=some v
 | [],_,_,_,_,h,_,_=>by simp at h
 | _::_,[],_,_,_,_,h,_=>by simp at h
 | p::P,w::vs,0,m,nd,h1,h2,hk=>by
  simp at h1 h2;subst h1;subst h2;show bindC kindOf ((p,w)::P.zip vs) m p=_;unfold bindC;rw[aj3 fun v hv=>(mQ.mp nd).1 (pR hv).1,if_neg hk]
  simp
 | p::P,w::vs,i+1,m,nd,h1,h2,hk=>by
  show bindC kindOf ((p,w)::P.zip vs) m x=_;unfold bindC;exact aj4 (i:=i) (mQ.mp nd).2 (by simpa using h1) (by simpa using h2) hk
def start(N:List Str)(vs:List V):St:=vs.map some++aG (N.length - vs.length) none
def cxOf(CX:CXT)(P:bI)(w:World)(K:Fg9)(mg:Str->Option Value)(base:Heap)(N:List Str)(qual:Str)(scope:Scope)(f:Addr)(cd:Value)(A:cM)(outer:List Env)(s:aJ)(H:Hp)(E:XK):Cx where
 prog:=P
 w:=w
 K:=K
 mg:=mg
 base:=base
 A:=A.deeper (nR qual scope s.heap.objs.size f cd)
 N:=N
 s₀:=s
 H₀:=H
 env:=nR qual scope s.heap.objs.size f cd
 outer:=outer
 stack:=nR qual scope s.heap.objs.size f cd::outer
 ex:=[]
 calm:=true
 fn:=fun _=>true
 pn:=[]
 xe:=fun e s'=>wpAny (model P w) (A.deeper (nR qual scope s.heap.objs.size f cd)) (leaving (nR qual scope s.heap.objs.size f cd) e) (fun _ s''=>CX outer H s E e s'') (fun e' s''=>CX outer H s E e' s'') s'
theorem aml{sc:Scope}{n:Nat}{x:Str}(h:sc.names.lookup x=some .cell):∃c,(cellsFrom n sc.names []).lookup x=some c:=by
 have q:=rK sc.names n [] (.inl h);exact qW.mp q
theorem ap5{CX:CXT}{P:bI}{w:World}{K:Fg9}{mg:Str->Option Value}{base:Heap}{N ps:List Str}{qual:Str}{scope:Scope}{f:Addr}{cd:Value}{A:cM}{outer:List Env}{s s1:aJ}{H:Hp}{E:XK}{us:List Value}{vs:List V}
  (S:FnScope N ps scope) (hd:A.handled=none) (e0:Env0 P w K mg base A outer s H) (hl:vs.length=ps.length) (r:Vals vs us)
  (x:InCallC s s.heap.objs.size (bindL (nR qual scope s.heap.objs.size f cd).kindOf (ps.zip us) fun _=>none) (cellsFrom (s.heap.objs.size+1) scope.names []) (bindC (nR qual scope s.heap.objs.size f cd).kindOf (ps.zip us) fun _=>none) s1) :
  Inv (cxOf CX P w K mg base N qual scope f cd A outer s H E) [] (start N vs) H s1:=by
 have hpl:ps.length<=N.length:=by have:=congrArg List.length S.pre;rw[gQ] at this;omega
 obtain⟨h1,tk,rfl,hk⟩:=x.done;have noA:∀b:Addr,b∉(cxOf CX P w K mg base N qual scope f cd A outer s H E).ex:=fun b z=>absurd (show b∈([]:List Addr) from z) (by simp)
 refine⟨⟨e0.mod,S.kind,rfl,rfl,aL _,fun y z c h1 h2 =>?_,fun y hy =>?_,fun y c _ h =>?_,fun _=>hd,Around.frames_deeper e0.frames,.inr ⟨rfl,rfl⟩,fun b z=>absurd z (noA b),e0.bs,e0.bsz,fun b _ _=>noA b,fun b z=>absurd z (noA b),e0.funs,e0.frf⟩,
  rfl,e0.bare,Un.kept hk,⟨_,x.toInCall.ns,fun i y v h1 h2 h3 =>?_⟩,fun y c h=>⟨_,x.cell y c h⟩,e0.hok.fresh (aL _),fun y c h =>?_,fun p hp=>absurd (show p∈([]:List (Addr×Obj)) from hp) (by simp),e0.hok.kept hk,?_⟩
 ·exact name_of_addr x.apart (gM h1) (gM h2)
 ·have hy:scope.names.lookup y=some .cell∨scope.names.lookup y=some .free:=hy;rcases hy with hy | hy
  ·exact aml hy
  ·exact absurd rfl (S.nofree _ (gM hy))
 ·exact kE (x.above y c (gM h))
 ·have hi:i < vs.length:=by
   unfold start at h2
   by_cases hi:i < vs.length
   ·exact hi
   ·rw[fV (by simpa using hi)] at h2
    rw[fM] at h2;split at h2 <;> cases h2
  have ha:vs[i]? = some v:=by
   unfold start at h2;rw[cL (by simpa using hi),aU] at h2
   cases e:vs[i]? with
   | none=>rw[e] at h2;cases h2
   | some a=>rw[e] at h2;cases h2;rfl
  obtain⟨u,hu,rv⟩:=r.get ha;have hp:ps[i]? = some y:=by
   rw[<-S.pre,qX (by omega)];exact h1
  have ndP:ps.Nodup:=by rw[<-S.pre];exact S.nd.sublist (tW _ _)
  refine⟨u,rv,?_⟩;rcases S.par y (cY hp) with k | k
  ·exact .inl ⟨k,aj2 ndP hp hu k⟩
  ·obtain⟨c,e⟩:=aml (n:=s.heap.objs.size+1) k;refine .inr ⟨.inl k,c,e,?_⟩;have q:=x.cell y c e;rw[aj4 ndP hp hu (by show scope.names.lookup y≠_;rw[k];decide)] at q
   exact q
 ·exact e0.hok.fresh (kE (x.above y c (gM h)))
 ·unfold start;show _=N.length;rw[cG,aD,cU];omega
theorem a5o{CX:CXT}{P:bI}{w:World}{K:Fg9}{mg:Str->Option Value}{base:Heap}{k:Nat}{f:Addr}{name qual:Str}{params:Arguments}{body:List Stmt}{scope:Scope}{dV kV doc pm cdv ct oc:Value}{an od:Option Addr}
  {osl:Array (Option Value)} {N ps:List Str} {sp:Sp} (lk:K.lookup f=some ⟨oc,od,.func (fnOf name qual params body scope dV kV doc pm an cdv ct),osl⟩) (hcd:fB K cdv qual=true) (S:FnScope N ps scope)
  (len:∀vs H Q E,sp vs H Q E->vs.length=ps.length)
  (hbody:∀(A:cM) (outer:List Env) (s:aJ) (H:Hp) (vs:List V) (Q:VK) (E:XK),Room k (A.deeper (nR qual scope s.heap.objs.size f cdv))->sp vs H Q E ->
   ∃t,PSs (cxOf CX P w K mg base N qual scope f cdv A outer s H E) body t/\t { nx:=fun _ H'=>Q .non H',rt:=Q } (start N vs) H) :
  FnOk P w K mg base CX (k+1) f (fnOf name qual params body scope dV kV doc pm an cdv ct) ps sp:=by
 refine⟨len,fun A outer s H args us vs Q E hr e0 hb r hsp =>?_⟩
 have hl:=len _ _ _ _ hsp;have KX:K.In s.heap:=e0.mod.kin.keeps fun b o e=>(e0.bs b o e).1
 have lim:s.heap.NoLimit:=e0.mod.nolimit.keeps fun b o e=>(e0.bs b o e).1
 have hkind:∀y∈ps.zip us,scope.names.lookup y.1=some .local∨(scope.names.lookup y.1=some .cell/\((cellsFrom (s.heap.objs.size+1) scope.names []).lookup y.1).isSome=true):=fun⟨n,v⟩ hy=>by
  rcases S.par n (pR hy).1 with q | q
  ·exact .inl q
  ·exact .inr ⟨q,rK _ _ _ (.inl q)⟩
 refine codeAny_call_function hr.depth (KX _ _ lk) rfl S.co S.gen rfl (PySem.W.codeRec_of KX hcd) (hb _ _ _ _ ?_);refine wpAny_newFunctionEnv_cells S.kind hkind fun env he s1 x =>?_
 subst he;refine⟨lim.keeps x.toInCall.keep,codeAny_func ?_⟩;obtain⟨t,ht,hq⟩:=hbody A outer s H vs Q E (hr.deeper _) hsp;have I:Inv (cxOf CX P w K mg base N qual scope f cdv A outer s H E) [] (start N vs) H s1:=ap5 S hr.hd e0 hl r x;refine dG (ht [] s1 (start N vs) H _ I hq) (fun fl s' hs =>?_) fun e s' hs=>hs
 have fin:∀{σ':St} {H':Hp} {v:V} {u:Value},Inv (cxOf CX P w K mg base N qual scope f cdv A outer s H E) [] σ' H' s'->RelV v u->Q v H'->CE outer P w H s Q u s' :=
  fun{σ' H' v u} J rv q=>⟨v,H',J.os,J.bare,J.base,J.hok,rv,q⟩
 cases fl with
 | ret u =>
  obtain⟨v,σ',H',J,rv,q⟩:=hs;exact fin J rv q
 | next =>
  obtain⟨σ',H',J,q⟩:=hs;exact fin (v:=V.non) (u:=fQ) J rfl q
 | brk =>
  obtain⟨_,_,_,q⟩:=hs;exact gW q
 | cont =>
  obtain⟨_,_,_,q⟩:=hs;exact gW q
section
variable{X:Cx}{x:Str}{p pos:Pos}{e:Expr}{es:List Expr}{t:TA}{id T:String}{r:List V->Hp->VK->Prop}
def tCB(r:List V->Hp->VK->Prop)(t:TA):TE:=fun σ H Q=>t σ H fun vs H1=>r vs H1 Q
theorem ahi(hc:ab6 X (.builtin id) r)(hg:Gl X x)(hm:X.mg x=none)(hv:bN x=some (.builtin id))(ha:PA X (e::es) t)(hn:x ≠ "__name__" := by decide)(hdb:(x==("__debug__" : Str))=false:=by decide)
  (he:aW (e::es) X.env=(false,eval e X.env)::aW es X.env:=by rfl) (hpl:(jP pos (aW es X.env)).any (·.1)=false:=by rfl):PE X (.Call (.Name x p) (e::es) [] pos) (tCB r t):=by
 intro zv s σ H Q I h;refine wpAny_Call_Name_kw (afd I hg hm hv ?_ hn hdb);exact PyProof.Rows.callWith_builtin1 (thn (ha pos zv s σ H _ I h) fun us s1 ⟨vs,H1,I1,r1,q1⟩=>hc zv s1 σ H1 vs us Q I1 r1 q1) he hpl
theorem ac3(hc:ab6 X (.type T) r)(hg:Gl X x)(hm:X.mg x=none)(hv:bN x=some (.type T))(ha:PA X (e::es) t)(hn:x ≠ "__name__" := by decide)(hdb:(x==("__debug__" : Str))=false:=by decide)
  (he:aW (e::es) X.env=(false,eval e X.env)::aW es X.env:=by rfl) (hpl:(jP pos (aW es X.env)).any (·.1)=false:=by rfl):PE X (.Call (.Name x p) (e::es) [] pos) (tCB r t):=by
 intro zv s σ H Q I h;refine wpAny_Call_Name_kw (afd I hg hm hv ?_ hn hdb);exact fU (thn (ha pos zv s σ H _ I h) fun us s1 ⟨vs,H1,I1,r1,q1⟩=>hc zv s1 σ H1 vs us Q I1 r1 q1) he hpl
end
end L2
namespace HT
open PySem PyProof.Rows
section
open PySem.SeqAt
open PySem.AutoSeq1 (wpAny_loadPart')
open PySem.MeetsSeq PySem.MeetsSeq2 PySem.MeetsSeq3
end
section
variable{prog:bI}{w:World}{A:cM}{E:Value->aJ->Prop}{s:aJ}
theorem axx{t b:Addr}{vs ws:List Value}{Q:Value->aJ->Prop}(ht:IsTup s.heap t vs.toArray)(hb:IsTup s.heap b ws.toArray)(hv:vs≠[])
  (h1:ws=[]->Q (.ref t) s) (h2:ws≠[]->Q (.ref s.heap.objs.size) { s with heap:=s.heap.push { cls:=.type "tuple", data:=.seq (vs++ws).toArray } })
  (hsz:vs.length+ws.length<=bV):wpAny (model prog w) A (fH .Add (.ref t) (.ref b)) Q E s:=by
 obtain⟨⟨cls,dd,data,sl⟩,ho,hc,n,hd⟩:=id ht;obtain⟨⟨cls2,dd2,data2,sl2⟩,ho2,hc2,n2,hd2⟩:=id hb;simp only at hc hd hc2 hd2;subst hc hd hc2 hd2;have e:vs.toArray++ws.toArray=(vs++ws).toArray:=by simp
 by_cases hw:ws=[]
 ·exact concat_meets ⟨_,ho,rfl⟩ ⟨_,ho2,rfl⟩ noFill_tuple_add seq_tuple_add mG lV (lJ _ _)
   (tuple_addW1 t b vs.toArray ws.toArray n n2 dd dd2 sl sl2 (by simpa using hv) (by simp[hw])) ⟨ho,ho2,h1 hw⟩
 ·refine concat_meets ⟨_,ho,rfl⟩ ⟨_,ho2,rfl⟩ noFill_tuple_add seq_tuple_add mG lV (lJ _ _)
   (tuple_addW2 t b vs.toArray ws.toArray n n2 dd dd2 sl sl2 (by simpa using hv) (by simpa using hw) (by rw[aN,aN];exact hsz)) ⟨ho,ho2,?_⟩
  rw[e];exact h2 hw
def sIx(n d:Nat):Option Int->Nat
 | none=>d
 | some v=>if v < 0 then (v+(n:Int)).toNat else min v.toNat n
theorem ayq(n d:Nat)(hd:d<=n)(o:Option Int):sIx n d o<=n:=by
 cases o with
 | none=>exact hd
 | some v =>
  show(if v < 0 then (v+(n:Int)).toNat else min v.toNat n)<=n
  by_cases hv:v < 0
  ·rw[if_pos hv];omega
  ·rw[if_neg hv];exact Nat.min_le_right _ _
theorem aq0(v:Int)(n d:Nat):(if v < 0 then max (v+(n:Int)) 0 else min v (n:Int))=((sIx n d (some v):Nat):Int):=by
 show(if v < 0 then max (v+(n:Int)) 0 else min v (n:Int))=(((if v < 0 then (v+(n:Int)).toNat else min v.toNat n):Nat):Int)
 by_cases hv:v < 0
 ·simp only[if_pos hv];omega
 ·simp only[if_neg hv];omega
theorem aoe(lo hi:Option Int)(n:Nat):gB lo hi 1 (n:Int)=(((sIx n 0 lo:Nat):Int),((sIx n n hi:Nat):Int)):=by
 have h1:¬((1:Int) < 0):=by omega
 unfold gB;simp only[h1,if_false];refine Prod.ext ?_ ?_
 ·cases lo with
  | none=>rfl
  | some v=>exact aq0 v n 0
 ·cases hi with
  | none=>rfl
  | some v=>exact aq0 v n n
theorem ane(i j:Nat):dI (i:Int) (j:Int) 1=j - i:=by
 unfold dI;have h1:(1:Int) > 0:=by omega
 simp only[h1,if_true,rY];split <;> omega
theorem agl{v:Value}{o:Option Int}{Q:Option Int->aJ->Prop}(p:pA v o)(h:Q o s):wpAny (model prog w) A (Builtin.Slice.slicePartIndex v) Q E s:=by
 cases p with
 | none=>exact slicePart_none h
 | int i t=>exact slicePart_int h
theorem aa0{sl:Addr}{vl vu:Value}{lo hi:Option Int}{n:Nat}{Q:Int×Int×Nat->aJ->Prop}(hs:s.heap.IsSliceOf sl vl vu .none)(pl:pA vl lo)(pu:pA vu hi)
  (h:Q (((sIx n 0 lo:Nat):Int),1,sIx n n hi - sIx n 0 lo) s):wpAny (model prog w) A (iQ (.ref sl) (pure (n:Int))) Q E s:=by
 obtain⟨os,hos,hcs,hds⟩:=id hs;unfold iQ qQ;refine aA (aA (cJ hos hds (x:=vl) rfl (aA (cJ hos hds (x:=vu) rfl (aA (cJ hos hds (x:=.none) rfl (aF ?_)))))));refine aA (slicePart_none ?_);show wpAny _ _ (if ((1:Int)==0)=true then _ else _) _ _ s
 rw[if_neg (by decide)]
 refine aA (agl pl (aA (agl pu (aA (aF ?_)))));show wpAny _ _ (match gB lo hi 1 (n:Int) with | (lo,hi)=>pure (lo,(1:Int),dI lo hi 1)) _ _ s
 rw[aoe lo hi n];show wpAny _ _ (pure (((sIx n 0 lo:Nat):Int),(1:Int),dI ((sIx n 0 lo:Nat):Int) ((sIx n n hi:Nat):Int) 1)) _ _ s;rw[ane];exact aF h
theorem asn(xs:Array Value)(i k:Nat):((aY k).filterMap fun(m:Nat)=>xs[((i:Int)+(m:Int)*1).toNat]?).toArray=((xs.toList.drop i).take k).toArray:=by
 have e:(fun(m:Nat)=>xs[((i:Int)+(m:Int)*1).toNat]?)=fun m=>xs[i+m]? := by
  funext m
  have:((i:Int)+(m:Int)*1).toNat=i+m:=by omega
  rw[this]
 rw[e];have:=pick_run xs i k;rw[nZ] at this;have e2:((fun x=>xs[x]?)∘fun x=>i+x)=fun m=>xs[i+m]? := rfl
 rw[e2] at this;rw[this]
theorem ad3{t sl:Addr}{items:Array Value}{vl vu:Value}{lo hi:Option Int}{Q:Value->aJ->Prop}(ht:IsTup s.heap t items)(hs:s.heap.IsSliceOf sl vl vu .none)(pl:pA vl lo)(pu:pA vu hi)
  (hw:¬(sIx items.size 0 lo=0/\sIx items.size items.size hi=items.size))
  (h:Q (.ref s.heap.objs.size) { s with heap:=s.heap.push { cls:=.type "tuple", data:=.seq ((items.toList.drop (sIx items.size 0 lo)).take (sIx items.size items.size hi - sIx items.size 0 lo)).toArray } })
  (hsz:items.size<=bV):wpAny (model prog w) A (kZ (.ref t) (.ref sl)) Q E s:=by
 have htake:sizeOk (.seq ((items.toList.drop (sIx items.size 0 lo)).take (sIx items.size items.size hi - sIx items.size 0 lo)).toArray):=by
  show((items.toList.drop (sIx items.size 0 lo)).take (sIx items.size items.size hi - sIx items.size 0 lo)).toArray.size<=bV;rw[aN,gQ,iV,bB];omega
 have hj:sIx items.size items.size hi<=items.size:=ayq _ _ (aL _) hi;obtain⟨os,hos,hcs,hds⟩:=id hs;have hTs:s.TypeIs (.ref sl) "slice" := ⟨os,hos,hcs⟩;unfold kZ
 try with_reducible refine eQ ?_
 first | refine aA (aF ?_) | skip
 refine aA (wpAny_sequenceKey ht.typeIs (by decide) ?_)
 refine aA (cQ (name:=gJ "__getitem__") ht.typeIs bZ
  (dC bZ ht.typeIs entry_tuple_getitem ?_ (args_tuple_getitem _ _)))
 show wpAny _ _ (jY (.ref t) >>= _) _ _ s;refine aA (tupleItemsOf_ ht ?_);refine aA (wpAny_typeOf hTs ?_);rw[if_pos (by decide)]
 refine aA (aa0 hs pl pu ?_);have hno:¬((((sIx items.size 0 lo:Nat):Int)==0&&(1:Int)==1&&(sIx items.size items.size hi - sIx items.size 0 lo)==items.size)=true):=by
  intro q;rw[bA,bA] at q;have q1:((sIx items.size 0 lo:Nat):Int)=0:=eq_of_beq q.1.1;have q2:sIx items.size items.size hi - sIx items.size 0 lo=items.size:=eq_of_beq q.2;exact hw ⟨by omega,by omega⟩
 show wpAny _ _ (if (((sIx items.size 0 lo:Nat):Int)==0&&(1:Int)==1&&(sIx items.size items.size hi - sIx items.size 0 lo)==items.size)=true then _ else _) _ _ s
 rw[if_neg hno,asn]
 first
  | exact aA (m:=cZ _) (bF (aF ⟨_,rfl,aF h⟩) htake)
  | exact aA (m:=cZ _) (bF (aA (aF (aF ⟨_,rfl,aF h⟩))) htake)
  | exact aA (aA (m:=cZ _) (bF (aF (aF ⟨_,rfl,aF h⟩)) htake))
  | exact aA (aA (m:=cZ _) (bF (aF ⟨_,rfl,aF h⟩) htake))
end
end HT
namespace L2
abbrev TO:=St->Hp->(Option Int->Hp->Prop)->Prop
def PO(X:Cx)(e:Option Expr)(t:TO):Prop :=
 ∀(zv:List (Addr×Obj)) (s:aJ) (σ:St) (H:Hp) (Q:Option Int->Hp->Prop),Inv X zv σ H s->t σ H Q ->
  wpAny (model X.prog X.w) X.A (evalPart e X.env) (fun u s'=>∃o H',Inv X zv σ H' s'/\pA u o/\Q o H') X.xe s
def avp:TO:=fun _ H Q=>Q none H
def a3d(t:TE):TO:=fun σ H Q=>t σ H fun x H1=>∃i,x=.int i/\Q (some i) H1
theorem intsAre_of{ns:List Int}:∀{us:List Value},Vals (ns.map V.int) us->lX us ns:=by
 induction ns with
 | nil=>intro us r;rw[oZ] at r;cases r;exact .nil
 | cons n ns ih =>
  intro us r;rw[aX] at r;cases r with
  | cons r1 r2 =>
   obtain⟨t,e⟩:=r1;subst e;exact .cons n t (ih r2)
section
variable{X:Cx}{e:Expr}{te:TE}{lo hi:Option Expr}{tl th:TO}{pos p2:Pos}
theorem av2:PO X none avp:=by
 intro zv s σ H Q I h;rw[evalPart_none];exact aF ⟨none,H,I,.none,h⟩
theorem av1(h:PE X e te):PO X (some e) (a3d te):=by
 intro zv s σ H Q I hw;rw[evalPart_some];refine thn (h zv s σ H _ I hw) fun u s1 ⟨x,H1,I1,r1,q1⟩ =>?_
 obtain⟨i,rfl,q⟩:=q1;obtain⟨t,rfl⟩:=r1;exact⟨some i,H1,I1,.int i t,q⟩
def SlR(X:Cx)(r:V->Option Int->Option Int->Hp->VK->Prop):Prop :=
 ∀(zv:List (Addr×Obj)) (s:aJ) (σ:St) (H:Hp) (x:V) (v vl vu:Value) (lo hi:Option Int) (sl:Addr) (Q:VK),Inv X zv σ H s->RelV x v->s.heap.IsSliceOf sl vl vu .none->pA vl lo->pA vu hi->r x lo hi H Q ->
  ∃T id,typeLookup (.type T) "__getitem__" = pure (some (.builtin id))/\s.TypeIs v T/\wpAny (model X.prog X.w) X.A (kZ v (.ref sl)) (EP X zv σ Q) X.xe s
def tSl(r:V->Option Int->Option Int->Hp->VK->Prop)(te:TE)(tl th:TO):TE:=fun σ H Q=>te σ H fun x H1=>tl σ H1 fun l H2=>th σ H2 fun u H3=>r x l u H3 Q
theorem alp{r:V->Option Int->Option Int->Hp->VK->Prop}(hr:SlR X r)(he:PE X e te)(hl:PO X lo tl)(hu:PO X hi th):PE X (.Subscript e (.Slice lo hi none p2) pos) (tSl r te tl th):=by
 intro zv s σ H Q I h;refine Subscript_ (thn (he zv s σ H _ I h) fun v s1 ⟨x,H1,I1,r1,q1⟩ =>?_)
 refine wpAny_Slice (thn (hl zv s1 σ H1 _ I1 q1) fun vl s2 ⟨l,H2,I2,pl,q2⟩=>thn (hu zv s2 σ H2 _ I2 q2) fun vu s3 ⟨u,H3,I3,pu,q3⟩ =>?_)
 rw[evalPart_none];refine aF ?_;have I4:Inv X zv σ H3 { s3 with heap:=s3.heap.push { cls:=.type "slice", data:=.fields #[vl,vu,.none] } }:=I3.kept (t':=s3.toks) fun b ob q=>aB _ q
 obtain⟨T,id,hT,ht,hg⟩:=hr zv { s3 with heap:=s3.heap.push { cls:=.type "slice", data:=.fields #[vl,vu,.none] } } σ H3 x v vl vu l u s3.heap.objs.size Q I4 r1 (oF ..) pl pu q3
 show wpAny (model X.prog X.w) X.A (subscriptTail e (.Slice lo hi none p2) v (.ref s3.heap.objs.size)) (EP X zv σ Q) X.xe { s3 with heap:=s3.heap.push { cls:=.type "slice", data:=.fields #[vl,vu,.none] } }
 exact tail_any (ops:=[.ref s3.heap.objs.size,v]) ht hT hg (by with_unfolding_all rfl)
def cutV(xs:List V)(lo hi:Option Int):List V:=(xs.drop (HT.sIx xs.length 0 lo)).take (HT.sIx xs.length xs.length hi - HT.sIx xs.length 0 lo)
theorem af4(xs:List V)(lo hi:Option Int):(cutV xs lo hi).length<=xs.length:=by
 unfold cutV;rw[gQ,iV];omega
def rSlT(K:Fg9):V->Option Int->Option Int->Hp->VK->Prop:=fun x lo hi H Q=>∃a xs,x=.ref a/\SqT K H a xs /\
 ¬(HT.sIx xs.length 0 lo=0/\HT.sIx xs.length xs.length hi=xs.length)/\∀p,H p=none->Q (.ref p) (upd H p (.tup (cutV xs lo hi)))
theorem ayo:SlR X (rSlT X.K):=by
 intro zv s σ H x v vl vu lo hi sl Q I rx hs pl pu h;obtain⟨a,xs,rfl,hx,hw,q⟩:=h;cases rx;obtain⟨its,r,ht,hz⟩:=I.tuple hx;have hlen:its.toArray.size=xs.length:=by rw[aN];exact r.length.symm
 refine⟨"tuple", _,bZ.lookup,ht.typeIs,?_⟩;refine HT.ad3 ht hs pl pu (by rw[hlen];exact hw) ?_ (by rw[hlen];exact hz)
 rw[hlen];refine⟨.ref s.heap.objs.size,_,I.laid (t':=s.toks) (o:=.tup (cutV xs lo hi)) (fun b ob q=>aB _ q) (aL _) ?_,rfl,q _ (I.hok.fresh (aL _))⟩
 exact⟨Nat.le_trans (af4 xs lo hi) hz,_,(r.drop (HT.sIx xs.length 0 lo)).take (HT.sIx xs.length xs.length hi - HT.sIx xs.length 0 lo),IsTp.new _ _⟩
def a3n(K:Fg9):R2:=fun x y H Q=>∃a b xs ys,x=.ref a/\y=.ref b/\SqT K H a xs/\SqT K H b ys/\xs≠[]/\xs.length+ys.length<=bV /\
 (ys=[]->Q (.ref a) H)/\(ys≠[]->∀p,H p=none->Q (.ref p) (upd H p (.tup (xs++ys))))
theorem Vals.nil_iff{xs:List V}{us:List Value}(r:Vals xs us):us=[]↔xs=[]:=by
 cases r with
 | nil=>simp
 | cons _ _=>simp
theorem awi:OpR X (fH .Add) (a3n X.K):=by
 intro zv s σ H x y v u Q I rx ry h;obtain⟨a,b,xs,ys,rfl,rfl,ha,hb,hx,hz,q1,q2⟩:=h;cases rx;cases ry;obtain⟨its,r1,p1,_⟩:=I.tuple ha;obtain⟨its2,r2,p2,_⟩:=I.tuple hb;refine HT.axx p1 p2 (fun z=>hx (r1.nil_iff.mp z)) (fun z=>⟨.ref a,H,I,rfl,q1 (r2.nil_iff.mp z)⟩) (fun z =>?_) (by rw[<-r1.length,<-r2.length];exact hz)
 refine⟨.ref s.heap.objs.size,_,I.laid (t':=s.toks) (o:=.tup (xs++ys)) (fun b ob q=>aB _ q) (aL _) ?_,rfl,q2 (fun w=>z (r2.nil_iff.mpr w)) _ (I.hok.fresh (aL _))⟩
 exact⟨by rw[cG];exact hz,_,r1.append r2,IsTp.new _ _⟩
end
def ixN(n:Nat)(i:Int):Option Nat:=if 0<=i then (if i < n then some i.toNat else none) else if -(n:Int)<=i then some (i+n).toNat else none
def atI{α:Type}(xs:List α)(i:Int):Option α:=(ixN xs.length i).bind fun j=>xs[j]?
theorem ap0{n:Nat}{i:Int}{j:Nat}(h:ixN n i=some j):seqIndex? i n=some j/\j < n /\ -(n:Int)<=i/\i < n:=by
 unfold ixN at h
 by_cases h0:0<=i
 ·rw[if_pos h0] at h
  by_cases h1:i < n
  ·rw[if_pos h1] at h;have e:i.toNat=j:=bK h;exact⟨by rw[seqIndex_of h0 h1,e],by omega,by omega,h1⟩
  ·rw[if_neg h1] at h;cases h
 ·rw[if_neg h0] at h
  by_cases h1 : -(n:Int)<=i
  ·rw[if_pos h1] at h;have e:(i+n).toNat=j:=bK h;exact⟨by rw[seqIndex_neg (by omega) h1,e],by omega,h1,by omega⟩
  ·rw[if_neg h1] at h;cases h
theorem ale{α:Type}{xs:List α}{i:Int}{v:α}(h:atI xs i=some v):∃j,seqIndex? i xs.length=some j/\xs[j]? = some v/\j < xs.length /\ -(xs.length:Int)<=i/\i < xs.length:=by
 unfold atI at h;cases e:ixN xs.length i with
 | none=>rw[e] at h;cases h
 | some j =>
  rw[e] at h;obtain⟨h1,h2,h3,h4⟩:=ap0 e;exact⟨j,h1,h,h2,h3,h4⟩
theorem aia{α:Type}{xs:List α}{j:Nat}{v:α}(h:xs[j]? = some v):atI xs (j:Int)=some v:=by
 have hj:j < xs.length:=(aM.mp h).1;have e:ixN xs.length (j:Int)=some j:=by
  unfold ixN;rw[if_pos (by omega),if_pos (by omega)];simp
 unfold atI;rw[e];exact h
theorem atI_last{α:Type}(xs:List α)(v:α):atI (xs++[v]) (-1)=some v:=by
 have hl:(xs++[v]).length=xs.length+1:=by simp
 have e:ixN (xs++[v]).length (-1)=some xs.length:=by
  unfold ixN;rw[hl,if_neg (by decide),if_pos (by omega)]
  congr 1
  omega
 unfold atI;rw[e];show(xs++[v])[xs.length]? = some v;simp
def arj(b:Expr):Prop:=∀o i,subscripted b false o i=operate [o,i] (kZ o i)
def IxR(X:Cx)(r:R2):Prop :=
 ∀(value slice:Expr) (zv:List (Addr×Obj)) (s:aJ) (σ:St) (H:Hp) (x y:V) (v u:Value) (Q:VK),Inv X zv σ H s->RelV x v->RelV y u->r x y H Q ->
  subscripted slice false v u=operate [v,u] (kZ v u)->wpAny (model X.prog X.w) X.A (subscriptTail value slice v u) (EP X zv σ Q) X.xe s
def MtR(X:Cx)(id:String)(r:V->List V->Hp->VK->Prop):Prop :=
 ∀(zv:List (Addr×Obj)) (s:aJ) (σ:St) (H:Hp) (x:V) (xs:List V) (v:Value) (us:List Value) (Q:VK),Inv X zv σ H s->RelV x v->Vals xs us->r x xs H Q ->
  wpAny (model X.prog X.w) X.A (call (.builtin id) (v::us)) (EP X zv σ Q) X.xe s
section
variable{X:Cx}{a b:Expr}{ta tb:TE}{pos:Pos}
theorem a3u{r:R2}(hr:IxR X r)(ha:PE X a ta)(hb:PE X b tb)(hs:arj b):PE X (.Subscript a b pos) (tOp r ta tb):=by
 intro zv s σ H Q I h;exact Subscript_ (binT ha hb I h fun v u s2 x y H2 I2 rx ry q=>hr a b zv s2 σ H2 x y v u Q I2 rx ry q (hs _ _))
def rIxL(K:Fg9):R2:=fun x y H Q=>∃p xs i v,x=.ref p/\y=.int i/\SqL K H p xs/\atI xs i=some v/\Q v H
def rIxT(K:Fg9):R2:=fun x y H Q=>∃p xs i v,x=.ref p/\y=.int i/\SqT K H p xs/\atI xs i=some v/\Q v H
theorem awy:IxR X (rIxL X.K):=by
 intro value slice zv s σ H x y v u Q I rx ry h hs;obtain⟨p,xs,i,z,rfl,rfl,hq,he,q⟩:=h;cases rx;obtain⟨t,rfl⟩:=ry;obtain⟨its,r,pl,hz⟩:=I.list hq;obtain⟨j,h1,h2,h3,h4,h5⟩:=ale he;obtain⟨w,ew,rw'⟩:=r.get h2;have hl:=r.length;have hn:=ajf;have fin:EP X zv σ Q w s:=⟨z,H,I,rw',q⟩
 by_cases h0:0<=i
 ·have hj:i.toNat=j:=by
   rw[seqIndex_of h0 h5] at h1;exact bK h1
  exact item_listR pl.isList h0 (by omega) (by rw[hj];simpa using ew) fin hs
 ·have hj:(i+(its.toArray.size:Int)).toNat=j:=by
   rw[seqIndex_neg (by omega) h4] at h1
   rw[aN,<-hl];exact bK h1
  exact subscriptTail_builtinR (x:=w) pl.isList.typeIs slot_list_getitem.lookup
   (wpAny_getItem_list_neg (Q:=fun r s'=>r=w/\EP X zv σ Q r s') pl.isList (by omega) (by rw[aN] <;> omega) (by omega) (by rw[hj];simpa using ew) ⟨rfl,fin⟩) hs
theorem a0i:IxR X (rIxT X.K):=by
 intro value slice zv s σ H x y v u Q I rx ry h hs;obtain⟨p,xs,i,z,rfl,rfl,hq,he,q⟩:=h;cases rx;obtain⟨t,rfl⟩:=ry;obtain⟨its,r,pl,hz⟩:=I.tuple hq;obtain⟨j,h1,h2,h3,h4,h5⟩:=ale he;obtain⟨w,ew,rw'⟩:=r.get h2;have hl:=r.length;have hn:=ajf;have fin:EP X zv σ Q w s:=⟨z,H,I,rw',q⟩;exact subscriptTail_builtinR (x:=w) pl.typeIs slot_tuple_getitem.lookup
  (getItem_tuple (j:=j) (Q:=fun r s'=>r=w/\EP X zv σ Q r s') pl (by omega) (by omega) (by rw[aN,<-hl];exact h1) (by simpa using ew) ⟨rfl,fin⟩) hs
theorem ano(its:List Value)(n j:Nat)(u:Value):fW (·.setIfInBounds j u) { cls:=.type "list", data:=.seq its.toArray n }={ cls:=.type "list", data:=.seq (its.set j u).toArray n }:=by
 simp[fW]
theorem Inv.lst{zv:List (Addr×Obj)}{σ:St}{H:Hp}{s:aJ}{p:Addr}{xs:List V}(I:Inv X zv σ H s)(h:H p=some (.lst xs)) :
  ∃(its:List Value) (n:Nat),Vals xs its/\s.heap.get? p=some { cls:=.type "list", data:=.seq its.toArray n }/\xs.length<=bV:=by
 obtain⟨z,its,n,r,e⟩:=I.hok p _ h;exact⟨its,n,r,e,z⟩
theorem Inv.lstUpd{zv:List (Addr×Obj)}{σ:St}{H:Hp}{s:aJ}{p:Addr}{xs ys:List V}{its its':List Value}{n n':Nat}{f:Obj->Obj}(I:Inv X zv σ H s)(h:H p=some (.lst xs))
  (ho:s.heap.get? p=some { cls:=.type "list", data:=.seq its.toArray n }) (hf:f { cls:=.type "list", data:=.seq its.toArray n }={ cls:=.type "list", data:=.seq its'.toArray n' }) (r:Vals ys its') (hz:ys.length<=bV) (t:Nat) :
  Inv X zv σ (upd H p (.lst ys)) { s with heap:=s.heap.update p f,toks:=t }:=by
 have e:(s.heap.update p f).get? p=some { cls:=.type "list", data:=.seq its'.toArray n' }:=by
  rw[bQ f ho (by rw[hf] <;> rfl),hf]
 refine I.write (x:=p) (e:=p) (by rw[h];trivial) (.inl rfl) (fun b u hb q=>(eG _ _ (iR hb)).trans q) ⟨_,e⟩ ?_
 exact⟨hz,its',n',r,e⟩
def a3m:V->V->V->Hp->(Hp->Prop)->Prop:=fun o i v H Q=>∃p xs k j,o=.ref p/\i=.int k/\H p=some (.lst xs)/\ixN xs.length k=some j/\Q (upd H p (.lst (xs.set j v)))
theorem set_list:PSet X a3m:=by
 intro zv s σ H o i v ov iv u Q I ro ri rv h;obtain⟨p,xs,k,j,rfl,rfl,hp,hj,q⟩:=h;cases ro;obtain⟨t,rfl⟩:=ri;obtain⟨its,n,r,ho,hz⟩:=I.lst hp;obtain⟨h1,h2,h3,h4⟩:=ap0 hj;have hl:=r.length;have hn:=ajf;have I':Inv X zv σ (upd H p (.lst (xs.set j v))) { s with heap:=s.heap.update p (fW (·.setIfInBounds j u)) } :=
  I.lstUpd hp ho (ano its n j u) (r.set rv j) (by rw[bU];exact hz) s.toks
 by_cases h0:0<=k
 ·have hk:k.toNat=j:=by
   rw[seqIndex_of h0 h4] at h1;exact bK h1
  exact PySem.W.ki_setAt ho h0 (by omega) (by rw[aN,<-hl];exact h4) (by rw[hk];exact⟨_,I',q⟩)
 ·have hk:(k+(its.toArray.size:Int)).toNat=j:=by
   rw[seqIndex_neg (by omega) h3] at h1
   rw[aN,<-hl];exact bK h1
  exact PySem.W.ki_setBack ho (by omega) (by rw[aN,<-hl];exact h3) (by omega) (by rw[hk];exact⟨_,I',q⟩)
theorem aik(lo hi:Option Int)(n:Nat):(jK lo hi none n).1=((HT.sIx n 0 lo:Nat):Int)/\(jK lo hi none n).2.1=((HT.sIx n n hi:Nat):Int)/\(jK lo hi none n).2.2=1:=by
 refine⟨?_,?_,rfl⟩
 ·cases lo with
  | none=>simp[jK,HT.sIx]
  | some i =>
   simp only[jK,HT.sIx,pC,show(1:Int) > 0 by decide,if_true]
   by_cases h:i < 0
   ·simp only[h,if_true] <;> omega
   ·simp only[h,if_false] <;> omega
 ·cases hi with
  | none=>simp[jK,HT.sIx]
  | some i =>
   simp only[jK,HT.sIx,pC,show(1:Int) > 0 by decide,if_true]
   by_cases h:i < 0
   ·simp only[h,if_true] <;> omega
   ·simp only[h,if_false] <;> omega
theorem aha(its:List Value)(lo hi:Option Int):slicePick its.toArray lo hi none=((its.drop (HT.sIx its.length 0 lo)).take (HT.sIx its.length its.length hi - HT.sIx its.length 0 lo)).toArray:=by
 obtain⟨h1,h2,h3⟩:=aik lo hi its.toArray.size;unfold slicePick;rw[h1,h2,h3];simp only[sliceRange_one,pick_run,aN] <;> rfl
def rSlL(K:Fg9):V->Option Int->Option Int->Hp->VK->Prop:=fun x lo hi H Q=>∃a xs,x=.ref a/\SqL K H a xs/\∀p,H p=none->Q (.ref p) (upd H p (.lst (cutV xs lo hi)))
theorem ao1:SlR X (rSlL X.K):=by
 intro zv s σ H x v vl vu lo hi sl Q I rx hs pl pu h;obtain⟨a,xs,rfl,hx,q⟩:=h;cases rx;obtain⟨its,r,ht,hz⟩:=I.list hx;have hlen:=r.length;refine⟨"list", _,slot_list_getitem.lookup,ht.isList.typeIs,?_⟩;refine wpAny_getItem_list_slice ht.isList hs pl pu .none (by simp) ?_ (by rw[aN] <;> omega)
 rw[aha,<-hlen];refine⟨.ref s.heap.objs.size,_,I.laid (t':=s.toks) (o:=.lst (cutV xs lo hi)) (fun b ob q=>aB _ q) (aL _) ?_,rfl,q _ (I.hok.fresh (aL _))⟩
 exact⟨Nat.le_trans (af4 xs lo hi) hz,_,0,(r.drop (HT.sIx xs.length 0 lo)).take (HT.sIx xs.length xs.length hi - HT.sIx xs.length 0 lo),aK _ rfl⟩
theorem ajw:ab6 X (.builtin "len") (fun xs H Q=>∃p ys,xs=[.ref p]/\(SqL X.K H p ys∨SqT X.K H p ys)/\Q (.int ys.length) H):=by
 intro zv s σ H xs us Q I r h;obtain⟨p,ys,rfl,hq,q⟩:=h;obtain⟨u,rfl,rx⟩:=vals1 r;cases rx;have hn:=ajf;rcases hq with hq | hq
 ·obtain⟨its,r',pl,hz⟩:=I.list hq;have hlen:=r'.length;exact Calls.call_len_list pl.isList (by simp only[aN] <;> omega) ⟨.int ys.length,H,I.tok _,⟨s.toks+1,by rw[aN,hlen]⟩,q⟩
 ·obtain⟨its,r',pl,hz⟩:=I.tuple hq;have hlen:=r'.length;exact len_tuple pl (by simp only[aN] <;> omega) ⟨.int ys.length,H,I.tok _,⟨s.toks+1,by rw[aN,hlen]⟩,q⟩
theorem ajv:ab6 X (.type "list") (fun xs H Q=>∃p ys,xs=[.ref p]/\(SqL X.K H p ys∨SqT X.K H p ys)/\∀l,H l=none->Q (.ref l) (upd H l (.lst ys))):=by
 intro zv s σ H xs us Q I r h;obtain⟨p,ys,rfl,hq,q⟩:=h;obtain⟨u,rfl,rx⟩:=vals1 r;cases rx;have fin:∀(its:List Value),Vals ys its->ys.length<=bV->∀(h':Heap) (c':Nat),(∀b o',s.heap.get? b=some o'->h'.get? b=some o') ->
   h'.get? s.heap.objs.size=some { cls:=.type "list", dict:=none,data:=.seq its.toArray c',slots := #[] }->EP X zv σ Q (.ref s.heap.objs.size) { s with heap:=h' }:=fun its r' hz h' c' kp e =>
  ⟨.ref s.heap.objs.size,_,I.laid (t':=s.toks) kp (aL _) (show ym X.prog X.w _ h' _ (.lst ys) from⟨hz,its,c',r',e⟩),rfl,q _ (I.hok.fresh (aL _))⟩
 rcases hq with hq | hq
 ·obtain⟨its,r',pl,hz⟩:=I.list hq;have hlen:=r'.length;obtain⟨o,ho,hc,n,hd⟩:=pl.isList;exact call_list_seq p (.inl rfl) ho hc hd (fun h' c' kp e=>fin its r' hz h' c' kp e) (by simp only[aN] <;> omega)
 ·obtain⟨its,r',pl,hz⟩:=I.tuple hq;have hlen:=r'.length;obtain⟨o,ho,hc,n,hd⟩:=pl;exact call_list_seq p (.inr rfl) ho hc hd (fun h' c' kp e=>fin its r' hz h' c' kp e) (by simp only[aN] <;> omega)
theorem aaz:ab6 X (.type "tuple") (fun xs H Q=>∃p ys,xs=[.ref p]/\((SqL X.K H p ys/\∀l,H l=none->Q (.ref l) (upd H l (.tup ys)))∨(SqT X.K H p ys/\Q (.ref p) H))):=by
 intro zv s σ H xs us Q I r h;obtain⟨p,ys,rfl,h⟩:=h;obtain⟨u,rfl,rx⟩:=vals1 r;cases rx;rcases h with⟨hq,q⟩ | ⟨hq,q⟩
 ·obtain⟨its,r',pl,hz⟩:=I.list hq;have hlen:=r'.length;refine call_tuple_list pl.isList (fun h' kp =>?_) (by simp only[aN] <;> omega)
  have I1:Inv X zv σ H { s with heap:=h' }:=I.kept (t':=s.toks) kp
  have I2:Inv X zv σ (upd H h'.objs.size (.tup ys)) { s with heap:=h'.push { cls:=.type "tuple", data:=.seq its.toArray } } :=
   I1.laid (t':=s.toks) (fun b o e=>aB _ e) (aL _) (show ym X.prog X.w _ _ _ (.tup ys) from⟨hz,its,r',IsTp.new _ _⟩)
  exact⟨.ref h'.objs.size,_,I2,rfl,q _ (I1.hok.fresh (aL _))⟩
 ·obtain⟨its,r',pl,hz⟩:=I.tuple hq;exact call_tuple_same pl ⟨.ref p,H,I,rfl,q⟩
def tyV(K:Fg9)(T:String)(x:V)(H:Hp):Prop:=match x with
 | .str _=>T = "str"
 | .int _=>T = "int"
 | .ref p=>(T = "list" /\ ∃xs,SqL K H p xs)∨(T = "tuple" /\ ((∃o,K.lookup p=some o/\o.cls=.type "tuple" /\ o.dict=none)∨∃xs,H p=some (.tup xs))) ∨
   (T = "dict" /\ ((∃kvs,H p=some (.dK kvs))∨∃kvs,H p=some (.dT kvs)))∨(T = "set" /\ ∃S n,H p=some (.set S n))
 | _=>False
theorem ayf{zv:List (Addr×Obj)}{σ:St}{H:Hp}{s:aJ}{T:String}{x:V}{v:Value}(I:Inv X zv σ H s)(r:RelV x v)(ty:tyV X.K T x H) :
  s.TypeIs v T/\∀a,v=.ref a->∃ob,s.heap.get? a=some ob/\ob.dict=none:=by
 cases x with
 | str z =>
  obtain⟨t,rfl⟩:=r;cases(show T = "str" from ty)
  exact⟨typeIs_str s z t,fun _ e=>nomatch e⟩
 | int i =>
  obtain⟨t,rfl⟩:=r;cases(show T = "int" from ty)
  exact⟨typeIs_int s i t,fun _ e=>nomatch e⟩
 | ref p =>
  cases r;rcases ty with⟨rfl,xs,hq⟩ | ⟨rfl,⟨o,hk,hc,hd⟩ | ⟨xs,hk⟩⟩ | ⟨rfl,hk⟩ | ⟨rfl,S,n,hk⟩
  ·obtain⟨its,_,pl,_⟩:=I.list hq;refine⟨pl.isList.typeIs,fun a e =>?_⟩
   cases e;obtain⟨o,n,e,c,hd,_⟩:=pl;exact⟨o,e,hd⟩
  ·refine⟨⟨o,I.kIn p o hk,hc⟩,fun a e =>?_⟩
   cases e;exact⟨o,I.kIn _ o hk,hd⟩
  ·obtain⟨_,_,_,o,e,hc,hd,_⟩:=I.hok p _ hk;refine⟨⟨o,e,hc⟩,fun a e2 =>?_⟩
   cases e2;exact⟨o,e,hd⟩
  ·have z:∃o,s.heap.get? p=some o/\o.ExactDict:=by
    rcases hk with⟨kvs,hk⟩ | ⟨kvs,hk⟩
    ·obtain⟨_,_,_,_,o,_,_,e,ex,_⟩:=I.hok p _ hk;exact⟨o,e,ex⟩
    ·obtain⟨_,_,_,_,o,_,_,e,ex,_⟩:=I.hok p _ hk;exact⟨o,e,ex⟩
   obtain⟨o,e,ex⟩:=z;refine⟨⟨o,e,ex.1⟩,fun a e2 =>?_⟩
   cases e2;exact⟨o,e,ex.2.1⟩
  ·obtain⟨o,_,_,_,e,ex,_⟩:=I.hok p _ hk;refine⟨⟨o,e,ex.1⟩,fun a e2 =>?_⟩
   cases e2;exact⟨o,e,ex.2.1⟩
 | _=>exact gW ty
def tBM(K:Fg9)(T:String)(r:V->List V->Hp->VK->Prop)(to:TE)(t:TA):TE:=fun σ H Q=>to σ H fun x H1=>tyV K T x H1/\t σ H1 fun xs H2=>r x xs H2 Q
variable{o e:Expr}{es:List Expr}{to:TE}{t:TA}{name:Str}{apos cpos:Pos}{T id:String}{r:V->List V->Hp->VK->Prop}
theorem azg(pa:PlainAttrs T)(slot:Slot T name id)(hty:typeOf (.builtin id)=pure (.type "method_descriptor"))(hm:MtR X id r)(ho:PE X o to)(ha:PA X (e::es) t)
  (hbase:attributeBase o name X.env (eval o X.env)=eval o X.env:=by rfl)
  (hfew:((jP cpos (aW (e::es) X.env)).all (fun x => !x.1)&&(backToKw cpos (keywordEach [] X.env)).all (fun x=>x.1.isSome)
   && decide ((e::es).length+([]:List Keyword).length+(if ([]:List Keyword).isEmpty then 0 else 1) < 30))=true:=by rfl)
  (hline:(apos.endLine==cpos.line)=true:=by rfl) (hs:aW (e::es) X.env=(false,eval e X.env)::aW es X.env:=by rfl) (hplain:(jP cpos (aW es X.env)).any (·.1)=false:=by rfl) :
  PE X (.Call (.Attribute o name apos) (e::es) [] cpos) (tBM X.K T r to t):=by
 intro zv s σ H Q I h;refine wpAny_Call_method_late hbase hfew hline rfl (thn (ho zv s σ H _ I h) fun v s1 ⟨x,H1,I1,r1,ty,q1⟩ =>?_)
 obtain⟨h1,h2⟩:=ayf I1 r1 ty;refine⟨T,id,pa,slot,hty,h1,h2,?_⟩;have hA:=ha cpos zv s1 σ H1 _ I1 q1;rw[hs] at hA ⊢
 refine Calls.callWith_builtin (by show(false||(jP cpos (aW es X.env)).any (·.1))=false;rw[hplain] <;> rfl) (Calls.evalArgs_plain ?_)
 exact thn hA fun us s2 ⟨vs,H2,I2,r2,q2⟩=>hm zv s2 σ H2 x vs v us Q I2 r1 r2 q2
end
def MtM(X:Cx)(id:String)(r:V->List V->Hp->VK->Prop):Prop :=
 ∀(zv:List (Addr×Obj)) (s:aJ) (σ:St) (H:Hp) (x:V) (xs:List V) (v:Value) (us:List Value) (Q:VK),Inv X zv σ H s->RelV x v->Vals xs us->r x xs H Q ->
  wpAny (model X.prog X.w) X.A (call (.builtin id) (v::us)) (EP X zv σ Q) X.xe s
theorem Vals.one:∀{x:V} {us:List Value},Vals [x] us->∃u,us=[u]/\RelV x u
 | _,_,.cons r .nil=>⟨_,rfl,r⟩
theorem Vals.two:∀{x y:V} {us:List Value},Vals [x,y] us->∃u v,us=[u,v]/\RelV x u/\RelV y v
 | _,_,_,.cons r (.cons q .nil)=>⟨_,_,rfl,r,q⟩
theorem Vals.zero:∀{us:List Value},Vals [] us->us=[]
 | _,.nil=>rfl
theorem Vals.eraseIdx:∀{xs:List V} {us:List Value} (i:Nat),Vals xs us->Vals (xs.eraseIdx i) (us.eraseIdx i)
 | _,_,_,.nil=>.nil
 | _,_,0,.cons _ t=>t
 | _,_,i+1,.cons r t=>.cons r (Vals.eraseIdx i t)
theorem Vals.reverse{xs:List V}{us:List Value}(h:Vals xs us):Vals xs.reverse us.reverse:=by
 induction h with
 | nil=>exact .nil
 | cons r t ih=>rw[iJ,iJ];exact Vals.append ih (.cons r .nil)
theorem Vals.rep{xs:List V}{us:List Value}(h:Vals xs us):∀k:Nat,Vals (aG k xs).flatten (aG k us).flatten
 | 0=>.nil
 | k+1=>by
  rw[eU,eU,gG,gG];exact Vals.append h (Vals.rep h k)
theorem foldl_rep(its:List Value):∀(k:Nat) (acc:List Value),
  jR (fun x1 x2=>x1++x2) acc.toArray (aG k its.toArray)=(acc++(aG k its).flatten).toArray
 | 0,acc=>by simp
 | k+1,acc=>by
  have e:acc.toArray++its.toArray=(acc++its).toArray:=by simp
  have e2:(acc++its)++(aG k its).flatten=acc++(aG (k+1) its).flatten:=by
   rw[eU,gG,lM]
  rw[<-e2,<-foldl_rep its k (acc++its),<-e,eU,iG]
section
variable{X:Cx}{zv:List (Addr×Obj)}{σ:St}{H:Hp}{s:aJ}{l b:Addr}{xs ys zs:List V}
theorem Inv.lset{its its':List Value}{n:Nat}{f:Array Value->Array Value}{t':Nat}(I:Inv X zv σ H s)(hH:H l=some (.lst xs))
  (e:s.heap.get? l=some { cls:=.type "list", data:=.seq its.toArray n }) (hf:f its.toArray=its'.toArray) (hv:Vals ys its') (hz:ys.length<=bV) :
  Inv X zv σ (upd H l (.lst ys)) { s with heap:=s.heap.update l (fW f),toks:=t' }:=by
 have q:=PySem.IsL.update e f;rw[hf] at q;refine I.write (x:=l) (e:=l) (by rw[hH];exact trivial) (.inl rfl) (fun b' u hb hu=>(eG s.heap (fW f) (iR hb)).trans hu) ⟨_,q⟩ ?_
 exact⟨hz,its',_,hv,q⟩
theorem Inv.lnew{its:List Value}{t':Nat}(I:Inv X zv σ H s)(hv:Vals ys its)(hz:ys.length<=bV) :
  Inv X zv σ (upd H s.heap.objs.size (.lst ys)) { s with heap:=s.heap.push { cls:=.type "list", data:=.seq its.toArray },toks:=t' } :=
 I.laid (fun _ _ q=>aB _ q) (aL _) ⟨hz,its,0,hv,aK _ rfl⟩
theorem Inv.fresh(I:Inv X zv σ H s):H s.heap.objs.size=none:=I.hok.fresh (aL _)
theorem Inv.lstM(I:Inv X zv σ H s)(hH:H l=some (.lst xs)):xs.length<=bV/\∃(its:List Value) (n:Nat),Vals xs its/\xs.length=its.length/\s.heap.get? l=some { cls:=.type "list", data:=.seq its.toArray n }:=by
 obtain⟨z,its,n,r,e⟩:=I.hok l _ hH;exact⟨z,its,n,r,r.length,e⟩
theorem as3{n:Nat}(h:n<=bV):qY n=false:=by
 unfold qY;exact decide_eq_false (by omega)
end
section
variable{X:Cx}
def ao8:V->List V->Hp->VK->Prop:=fun x vs H Q=>∃l xs y,x=.ref l/\vs=[y]/\H l=some (.lst xs)/\xs.length < bV/\Q .non (upd H l (.lst (xs++[y])))
theorem abb:MtM X "list.append" ao8:=by
 intro zv s σ H x vs v us Q I rx rv h;obtain⟨l,xs,y,rfl,rfl,hH,hz,q⟩:=h;cases rx;obtain⟨u,rfl,ru⟩:=rv.one;obtain⟨z,its,n,r,hl,e⟩:=I.lstM hH;refine iY F.slot_list_append ⟨_,e,rfl⟩ F.entry_list_append (F.args_list_append_2 _ _) (PySem.list_append l its.toArray n u (by rw[aN];omega)) ⟨e,?_⟩
 refine⟨.non,_,I.lset (its':=its++[u]) hH e (by simp) (r.append (.cons ru .nil)) ?_,rfl,q⟩
 rw[cG,List.length_singleton];omega
def rReverse:V->List V->Hp->VK->Prop:=fun x vs H Q=>∃l xs,x=.ref l/\vs=[]/\H l=some (.lst xs)/\Q .non (upd H l (.lst xs.reverse))
def rCat:R2:=fun x y H Q=>∃l b xs zs,x=.ref l/\y=.ref b/\H l=some (.lst xs)/\H b=some (.lst zs)/\xs.length+zs.length<=bV/\∀p,H p=none->Q (.ref p) (upd H p (.lst (xs++zs)))
theorem azn:OpR X (fH .Add) rCat:=by
 intro zv s σ H x y v u Q I rx ry h;obtain⟨l,b,xs,zs,rfl,rfl,hH,hB,hz,q⟩:=h;cases rx;cases ry;obtain⟨z,its,n,r,hl,e⟩:=I.lstM hH;obtain⟨z2,its2,n2,r2,hl2,e2⟩:=I.lstM hB;refine PySem.P.add_list e e2 ?_ (by rw[aN,aN];omega)
 have ea:its.toArray++its2.toArray=(its++its2).toArray:=by simp
 rw[ea];exact⟨.ref _,_,I.lnew (t':=s.toks) (r.append r2) (by rw[cG];omega),rfl,q _ I.fresh⟩
def rRep:R2:=fun x y H Q=>∃l k xs,x=.ref l/\y=.int k/\H l=some (.lst xs) /\ -(2 ^ 63)<=k/\k < 2 ^ 63/\xs.length*k.toNat<=bV /\
 ∀p,H p=none->Q (.ref p) (upd H p (.lst (aG k.toNat xs).flatten))
theorem len_rep{α:Type}(xs:List α)(k:Nat):(aG k xs).flatten.length=k*xs.length:=by
 induction k with
 | zero=>simp
 | succ k ih=>rw[eU,gG,cG,ih,Nat.succ_mul,Nat.add_comm]
theorem azj:OpR X (fH .Mult) rRep:=by
 intro zv s σ H x y v u Q I rx ry h;obtain⟨l,k,xs,rfl,rfl,hH,h1,h2,hz,q⟩:=h;cases rx;obtain⟨t,rfl⟩:=ry;obtain⟨z,its,n,r,hl,e⟩:=I.lstM hH;have hlen:its.toArray.size*k.toNat<=bV:=by rw[aN,<-hl];exact hz
 have hcap:¬its.toArray.size*k.toNat > (2 ^ 63 - 1) / 8:=by
  have:(bV:Nat)<=(2 ^ 63 - 1) / 8:=by decide
  omega
 have hfit:¬(!Builtin.List.listFitsIndex k)=true:=by
  rw[fitsIndex_both h1 h2];exact eF
 have hlong:¬Builtin.List.listTooLong (its.toArray.size*k.toNat)=true:=by
  rw[as3 hlen];exact eF
 have hnew:jR (fun x1 x2=>x1++x2) #[] (aG (if its.toArray.isEmpty=true then 0 else k.toNat) its.toArray)=(aG k.toNat its).flatten.toArray:=by
  have f0:∀m:Nat,jR (fun x1 x2=>x1++x2) #[] (aG m its.toArray)=(aG m its).flatten.toArray:=fun m=>by
   have:=foldl_rep its m [];rw[dD] at this;exact this
  rw[f0];cases its with
  | nil=>simp
  | cons a r'=>rw[if_neg (by simp)]
 refine wpAny_binaryOp_repeat_ref (T := "list") (U := "int") (by decide) ⟨_,e,rfl⟩ (fun s'=>typeIs_int s' k t) noFill_list_mul qC jJ repeat_list pI.lookup
  (iY jJ (typeIs_int s k t) pJ (oW _ _) (int___rmul___int_list k t l its.toArray n)
   ⟨e,rfl,⟨_,e,rfl⟩,iY F.slot_list_mul ⟨_,e,rfl⟩ F.entry_list_mul (F.args_list_mul_2 _ _) (AutoListH.list___mul___list_int_3 l its.toArray n k t hfit hcap hlong) ⟨e,?_⟩⟩)
 rw[hnew];exact⟨.ref _,_,I.lnew (t':=s.toks) (r.rep k.toNat) (by rw[len_rep,rT];exact hz),rfl,q _ I.fresh⟩
end
section
variable{prog:bI}{w:World}{A:cM}{E:Value->aJ->Prop}{s:aJ}
end
section
variable{X:Cx}
end
end L2
namespace Att
open PySem PySem.W PySem.Calls PyProof.Rows
theorem afj{P:Params}{h:Heap}:∀(ns:List Int) (vs:List Value),WellAll P h vs (ns.map WData.int)->lX vs ns:=by
 intro ns
 induction ns with
 | nil =>
  intro vs w;rw[oZ] at w;cases w;exact .nil
 | cons n ns ih =>
  intro vs w;rw[aX] at w;cases w with
  | cons a b =>
   cases a;exact .cons _ _ (ih _ b)
theorem ao4{l:OpenLaw}{n:Nat}(hn:l.most=some n){P:Params}{h:Heap}{args:List WData}{vals:List Value}
  (hpre:l.row.toRowW.claim.pre args=true) (hwl:WellAll P h vals args) :
  ∃a vs ns,vals=[fJ a]/\args=[WData.list (ns.map WData.int)]/\h.get? a=some { cls:=.type "list", data:=.seq vs.toArray }/\lX vs ns/\ns.length<=n:=by
 have hsh:WShape.hasAll [] args [.list .int]=true:=(pre_splitW hpre).1;have hc:l.pre.holds [] { args:=args }=true:=(pre_splitW hpre).2;obtain⟨d,r,rfl,h1,h2⟩:=hasAllW_cons hsh;obtain rfl:=hasAllW_nil h2;obtain⟨xs,rfl,h3⟩:=hasW_list h1;obtain⟨ns,rfl⟩:=items_int h3;have hlen:ns.length<=n:=by
  unfold OpenLaw.pre at hc;have h4:(WTm.not (.lt (.lit (.int (n:Int))) (.len (.arg 0)))).holds [] { args:=[.list (ns.map .int)] }=true:=by
   have h4:=(holds_andW hc).1;rw[hn] at h4;exact h4
  have h5:=condW_of h4 (w_not (w_lt w_lit (w_len_list (w_arg rfl))));rw[aD] at h5;refine Nat.le_of_not_lt fun q =>?_
  have q':(n:Int) < ((ns.length:Nat):Int):=by omega
  first
   | (rw[decide_eq_true q'] at h5;exact absurd h5 (by decide))
   | (simp at h5;omega)
 cases hwl with
 | cons w1 w2 =>
  cases w2;cases w1 with
  | list ho hall=>exact⟨_,_,ns,rfl,rfl,ho,afj ns _ hall,hlen⟩
theorem apa(l:OpenLaw)(args:List WData):l.row.toRowW.claim.post args (.bool true) args=true :=
 postW_of (r:=l.row.toRowW) (X:=(true==true))
  (show WShape.has [] (.bool true) .bool=true by first | rfl | decide | simp[WShape.has,WShape.arms,WShape.armsAll])
  (show(WTm.eq .res (.lit (.bool true))).value [] { args:=args,res:=some (.bool true),after:=args }=some (.bool (true==true)) from w_eq_bool (w_res rfl) w_lit) rfl
theorem ald{l:OpenLaw}{n:Nat}{q:bI}{loose:List Str}{XP:(Str->Option Value)->Heap->Prop}{YP:World->Heap->Prop}{d:DefRec}
  (hn:l.most=some n) (hdf:d.params.defaults=[])
  (call:∀(w:World) (s₀ s₁:aJ) (mg mb:Str->Option Value) (fa:Addr) (o:Obj) (pm cd doc:Value) (a:Addr) (vs:List Value) (ns:List Int),
   Ground q loose [] XP w s₀ mg mb s₁.heap->YP w s₁.heap ->
   s₁.heap.get? fa=some o->o.data=.func (docDef d.name d.params d.body d.scope pm cd doc)->s₁.heap.CodeRec cd d.name->mg d.name=some (.ref fa) ->
   s₁.heap.get? a=some { cls:=.type "list", data:=.seq vs.toArray }->lX vs ns->ns.length<=n->s₁.gens = #[] ->
   nM (model l.prog w) oJ (.call (.ref fa) ⟨[.ref a],[]⟩) (fun r s'=>r=.ok (.ret (.bool true))/\OldK s₁.heap s'.heap/\s'.os=s₁.os/\nQ s'.gens) s₁) :
  WalkO q loose XP YP l.row.toRowW d [] (fun f vs=>tO f vs):=by
 intro w s₀ s₁ mg mb G Y fa o pm cd doc dV kV ho hd hcd hD hmg hg args vals as hpre hlay hrd hwl hlo;obtain rfl:dV=.none:=Dflts.none hD hdf;obtain rfl:kV=.none:=Dflts.noKw hD;obtain⟨a,vs,ns,rfl,rfl,hobj,hints,hlen⟩:=ao4 hn hpre hwl;refine enter_call (codeAny_mono (call w s₀ s₁ mg mb fa o pm cd doc a vs ns G Y ho (fd_plain hd) hcd hmg hobj hints hlen hg) fun r s' hq =>?_)
 obtain⟨rfl,h2,h3,h4⟩:=hq;exact⟨.inl ⟨.bool true,.bool true,[],rfl,fun _=>rfl,.bool true,apa l _,fun _=>⟨List.Pairwise.nil,fun _ hm=>(nomatch hm)⟩⟩,h2,h3,h4⟩
section
variable{prog:bI}{w:World}{A:cM}{E:Value->aJ->Prop}{s:aJ}{K:Frag}
end
end Att
namespace L2
theorem aif:∀{vs:List Value} {ns:List Int},lX vs ns->Vals (ns.map V.int) vs
 | _,_,.nil=>.nil
 | _,_,.cons n t h=>.cons ⟨t,rfl⟩ (aif h)
def Only(H:Hp):Prop:=∀b,H b=none∨∃o xs,H b=some (.frz o (.lst xs))
theorem ata{P:bI}{w:World}{K:Fg9}{mg mb:Str->Option Value}{CX:CXT}{k:Nat}{fa a:Addr}{fd:fO}{x:Str}{sp:Sp}{s₁:aJ}{vs:List Value}{ns:List Int}
  (KX:K.In s₁.heap) (hns:s₁.heap.Ns aO mg) (hb:s₁.heap.Ns builtinsNs mb) (hbb:∀x:Str,x ≠ "__name__" -> mb x=bN x) (hlim:s₁.heap.NoLimit) (hg:s₁.gens = #[])
  (ha:s₁.heap.get? a=some { cls:=.type "list", data:=.seq vs.toArray }) (hi:lX vs ns) (hl:ns.length<=bV) (hr:Room k oJ)
  (F:∀base:Heap,K.In base->base.Ns aO mg->FnOk P w K mg base CX k fa fd [x] sp) (hbind:∀(s:aJ) (u:Value),oX s fd ⟨[u],[]⟩ [(x,u)])
  (hsp:∀H:Hp,Only H->SqL K H a (ns.map V.int)->sp [.ref a] H (fun v _=>v=.bl true) fun _ _ _=>False)
  (hCX:∀H e s',CX [] H s₁ (fun _ _ _=>False) e s'->False) :
  nM (model P w) oJ (.call (.ref fa) ⟨[.ref a],[]⟩) (fun r s'=>r=.ok (.ret (.bool true))/\OldK s₁.heap s'.heap/\s'.os=s₁.os/\nQ s'.gens) s₁:=by
 have rv:=aif hi;have lenV:=hi.length;have core:∀H:Hp,Only H->SqL K H a (ns.map V.int)->HOk P w H s₁.heap->(∀b,H b≠none->b=a)->(H a≠none->K.lookup a=none) ->
   nM (model P w) oJ (.call (.ref fa) ⟨[.ref a],[]⟩) (fun r s'=>r=.ok (.ret (.bool true))/\OldK s₁.heap s'.heap/\s'.os=s₁.os/\nQ s'.gens) s₁:=by
  intro H hO hS hok hA hK;have base_of:∀{b:Addr} {o:Obj},s₁.heap.get? b=some o->H b=none->(hidT s₁.heap H).get? b=some o:=fun e n=>atm e n
  have noA:∀{b:Addr} {o:Obj} {es:Array DictEntry} {ep:Nat},s₁.heap.get? b=some o->o.data=.dict es ep->H b=none:=fun{b o es ep} e d=>by
   cases q:H b with
   | none=>rfl
   | some u =>
    have e':b=a:=hA b (by rw[q];simp)
    subst e';rw[ha] at e;cases e;have d':Data.seq vs.toArray _=Data.dict es ep:=d;cases d'
  have nsK:∀{b:Addr} {m:Str->Option Value},s₁.heap.Ns b m->(hidT s₁.heap H).Ns b m:=fun{b m} ⟨o,es,ep,e,d,r⟩=>⟨o,es,ep,base_of e (noA e d),d,r⟩
  have hKb:K.In (hidT s₁.heap H):=fun b o e=>base_of (KX b o e) (by
   cases q:H b with
   | none=>rfl
   | some u =>
    have e':b=a:=hA b (by rw[q];simp)
    subst e';rw[hK (by rw[q];simp)] at e;cases e)
  have hM:Mod K mg (hidT s₁.heap H):=⟨hKb,nsK hns,⟨mb,nsK hb,hbb⟩,let ⟨mc,h1,h2⟩:=hlim;⟨mc,nsK h1,h2⟩⟩
  have e0:Env0 P w K mg (hidT s₁.heap H) oJ [] s₁ H:=⟨rfl,hM,fun b o e=>awk e,kI (ap6 _ _),trivial,fun b hb=>absurd (show b∈([]:List Addr) from hb) (by simp),hok,.of_eq hg⟩
  refine codeAny_mono ((F _ hKb (nsK hns)).run oJ [] s₁ H ⟨[.ref a],[]⟩ [.ref a] [.ref a] _ _ hr e0 (hbind s₁ (.ref a)) (.cons rfl .nil) (hsp H hO hS)) fun r s' h =>?_
  cases r with
  | error e=>exact(hCX H e s' h).elim
  | ok fl =>
   cases fl with
   | next=>exact gW h
   | brk=>exact gW h
   | cont=>exact gW h
   | ret u =>
    obtain⟨v,H',os,bare,un,hok',r',q⟩:=h;have q':v=.bl true:=q;subst q';obtain rfl:u=qU true:=r';refine⟨rfl,OldK.of_keep fun b o e =>?_,os,bare⟩
    cases q:H b with
    | none=>exact un.keep b o e q (by intro z;exact absurd (show b∈([]:List Addr) from z) (by simp)) (by simp)
    | some u =>
     rcases hO b with z | ⟨ob,xs,z⟩
     ·rw[q] at z;cases z
     ·have z2:=un.frzs b ob _ z;obtain⟨e1,_⟩:=hok b _ z;obtain⟨e2,_⟩:=hok' b _ z2;rw[e] at e1;cases e1;exact e2
 cases hk:K.lookup a with
 | some o =>
  have e:=KX a o hk;rw[ha] at e;cases e;refine core (fun _=>none) (fun _=>.inl rfl) (.inr ⟨_,vs.toArray,_,hk,rfl,rfl,rfl,by rw[aN,lenV];exact hl,by simpa using rv⟩) (fun b u z=>by have z':(none:Option HO)=some u:=z;cases z') (fun b z=>absurd rfl z) fun z=>absurd rfl z
 | none =>
  refine core (fun b=>if b=a then some (.frz { cls:=.type "list", data:=.seq vs.toArray } (.lst (ns.map V.int))) else none) (fun b =>?_) (.inl (.inr ⟨{ cls:=.type "list", data:=.seq vs.toArray },if_pos rfl⟩)) (fun b u z =>?_) (fun b z =>?_) fun _=>hk
  ·by_cases hb:b=a
   ·exact .inr ⟨_,_,if_pos hb⟩
   ·exact .inl (if_neg hb)
  ·by_cases hb:b=a
   ·have z':=(if_pos hb).symm.trans z;cases z';subst hb;exact⟨ha,by rw[aD];exact hl,vs,_,rv,ha⟩
   ·have z':=(if_neg hb).symm.trans z;cases z'
  ·by_cases hb:b=a
   ·exact hb
   ·exact absurd (if_neg hb) z
theorem avf{l:pO}{n k:Nat}{q:bI}{loose:List Str}{XP:(Str->Option Value)->Heap->Prop}{YP:World->Heap->Prop}{d:DefRec}{K:Params->Fg9}{CX:World->CXT}{sp:World->Sp}{x:Str}
  (hn:l.most=some n) (hn2:n<=bV) (hdf:d.params.defaults=[]) (hr:Room k oJ)
  (hY:∀(w:World) (h:Heap),YP w h->(K w.params).In h)
  (F:∀(w:World) (mg:Str->Option Value) (fa:Addr) (h:Heap),(K w.params).In h->h.Ns aO mg->mg d.name=some (.ref fa) ->
   ∃fd:fO,(∀(s:aJ) (u:Value),oX s fd ⟨[u],[]⟩ [(x,u)]) /\
    ∀base:Heap,(K w.params).In base->base.Ns aO mg->FnOk l.prog w (K w.params) mg base (CX w) k fa fd [x] (sp w))
  (hsp:∀(w:World) (H:Hp) (a:Addr) (ns:List Int),ns.length<=n->Only H->SqL (K w.params) H a (ns.map V.int)->sp w [.ref a] H (fun v _=>v=.bl true) fun _ _ _=>False)
  (hCX:∀(w:World) (H:Hp) (s:aJ) (e:Value) (s':aJ),CX w [] H s (fun _ _ _=>False) e s'->False) :
  vK q loose XP YP l.row.toRowW d [] (fun f vs=>tO f vs):=by
 refine Att.ald hn hdf fun w s₀ s₁ mg mb fa o pm cd doc a vs ns G Y ho hd hcd hmg hobj hints hlen hg =>?_
 have KX:=hY w _ Y;obtain⟨fd,hb,hF⟩:=F w mg fa _ KX G.T.g hmg;exact ata KX G.T.g G.T.b G.T.builtins G.T.nolimit hg hobj hints (cC hlen hn2) hr hF hb (fun H hO hS=>hsp w H a ns hlen hO hS) fun H e s'=>hCX w H s₁ e s'
def dz(s:Stmt):Arguments:=match s with
 | .FunctionDef _ a _ _ _ _ _ _ _ _=>a
 | _=>{ posonlyargs:=[],args:=[],vararg:=none,kwonlyargs:=[],kw_defaults:=[],kwarg:=none,defaults:=[] }
def dj(s:Stmt):List Stmt:=match s with
 | .FunctionDef _ _ b _ _ _ _ _ _ _=>b
 | _=>[]
def ak(s:Stmt):Scope:=match s with
 | .FunctionDef _ _ _ _ _ _ sc _ _ _=>sc
 | _=>{ kind:=.function,names:=[],isGenerator:=false,isCoroutine:=false }
abbrev CX0:CXT:=fun _ _ _ _ _ _=>False
abbrev E0:XK:=fun _ _ _=>False
theorem a3y{X:Cx}:ark CX0 X E0:=fun _ _ _ _ _ _ _ h=>h.elim
structure Fun (K:Fg9) (x qual:Str) (st:Stmt) (f:Addr) (fd:fO):Prop where
 ex:∃(oc:Value) (od:Option Addr) (kV doc pm:Value) (an:Option Addr) (cdv ct:Value) (osl:Array (Option Value)),
  fd=fnOf x qual (dz st) (dj st) (ak st) .none kV doc pm an cdv ct/\K.lookup f=some ⟨oc,od,.func fd,osl⟩/\fB K cdv qual=true
 kp:eH K (.ref f)=true
section
variable{P:bI}{w:World}{K:Fg9}{mg:Str->Option Value}{base:Heap}
theorem Fun.ok{x qual:Str}{st:Stmt}{f:Addr}{fd:fO}{N ps:List Str}{k:Nat}{sp:Sp}(F:Fun K x qual st f fd)(S:FnScope N ps (ak st))(len:∀vs H Q E,sp vs H Q E->vs.length=ps.length)
  (hbody:∀(cdv:Value) (A:cM) (outer:List Env) (s:aJ) (H:Hp) (vs:List V) (Q:VK) (E:XK),Room k (A.deeper (nR qual (ak st) s.heap.objs.size f cdv))->sp vs H Q E ->
   ∃t,PSs (cxOf CX0 P w K mg base N qual (ak st) f cdv A outer s H E).nox (dj st) t/\t { nx:=fun _ H'=>Q .non H',rt:=Q } (start N vs) H):FnOk P w K mg base CX0 (k+1) f fd ps sp:=by
 obtain⟨oc,od,kV,doc,pm,an,cdv,ct,osl,rfl,lk,hcd⟩:=F.ex;refine a5o lk hcd S len fun A outer s H vs Q E hr hsp =>?_
 obtain⟨t,h,q⟩:=hbody cdv A outer s H vs Q E hr hsp;exact⟨t,h.nox,q⟩
theorem Fun.binds{x qual:Str}{st:Stmt}{f:Addr}{fd:fO}{ps:List Str}(F:Fun K x qual st f fd)
  (h:∀(kV doc pm:Value) (an:Option Addr) (cdv ct:Value) (us:List Value),us.length=ps.length->bindArgs (fnOf x qual (dz st) (dj st) (ak st) .none kV doc pm an cdv ct) ⟨us,[]⟩=pure (ps.zip us)):Binds K fd ps []:=by
 obtain⟨oc,od,kV,doc,pm,an,cdv,ct,osl,rfl,lk,hcd⟩:=F.ex;exact .all (h kV doc pm an cdv ct)
theorem iu{x qual:Str}{st:Stmt}{f:Addr}{oc:Value}{od an:Option Addr}{osl:Array (Option Value)}{kV doc pm cdv ct:Value}(l:K.lookup f=some ⟨oc,od,.func (fnOf x qual (dz st) (dj st) (ak st) .none kV doc pm an cdv ct),osl⟩)
  (c:fB K cdv qual=true) (k:eH K (.ref f)=true):Fun K x qual st f (fnOf x qual (dz st) (dj st) (ak st) .none kV doc pm an cdv ct):=⟨⟨oc,od,kV,doc,pm,an,cdv,ct,osl,rfl,l,c⟩,k⟩
end
theorem ao0{n:Nat}(h:n<=1000):n < bV:=nT h (by decide)
section
variable{X:Cx}
theorem pv(i:Nat){x:Str}{pos:Pos}(hN:X.N[i]? = some x:=by rfl)(hv:Vis X.env.scope x:=by first | exact bH rfl | exact lK (bH rfl) | exact lK (lK rfl))(hd:(x==("__debug__" : Str))=false:=by decide)
  (hcd:(x==("__classdict__" : Str))=false:=by decide):PE X (.Name x pos) (tVar i):=ay8 hN hv hd hcd
end
theorem iteF{A B:Prop}(h:B):if false=true then A else B:=by
 rw[if_neg eF];exact h
theorem iteT{A B:Prop}(h:A):if true=true then A else B:=by
 rw[if_pos rfl];exact h
def Same(H H':Hp):Prop:=∀b o,H b=some o->H' b=some o
theorem Same.refl(H:Hp):Same H H:=fun _ _ h=>h
theorem Same.trans{H H1 H2:Hp}(a:Same H H1)(b:Same H1 H2):Same H H2:=fun c o h=>b c o (a c o h)
theorem Same.free{H H':Hp}(e:Same H H'){l:Addr}(h:H' l=Option.none):H l=Option.none:=by
 cases q:H l with
 | none=>rfl
 | some o =>
  rw[e l o q] at h;cases h
theorem Same.seq{K:Fg9}{H H':Hp}{a:Addr}{xs:List V}(e:Same H H')(h:SqL K H a xs):SqL K H' a xs:=by
 rcases h with(h | ⟨o,h⟩) | h
 ·exact .inl (.inl (e _ _ h))
 ·exact .inl (.inr ⟨o,e _ _ h⟩)
 ·exact .inr h
end L2
namespace Mn
open L2
def abn(env:Env)(fr:List Str):List (Str×Addr):=fr.filterMap fun n=>(env.cells.lookup n).map fun c=>(n,c)
theorem af6{env:Env}{n:Str}{r:List Str}(e:env.cells.lookup n=none):abn env (n::r)=abn env r:=by
 unfold abn;rw[dW,e];rfl
theorem acp{env:Env}{n:Str}{r:List Str}{c:Addr}(e:env.cells.lookup n=some c):abn env (n::r)=(n,c)::abn env r:=by
 unfold abn;rw[dW,e];rfl
theorem look_same{x:Str}{c:Addr}{l:List (Str×Addr)}:dR x ((x,c)::l)=some c:=by
 have hb:(x==x)=true:=beq_iff_eq.mpr rfl;simp only[dR,hb]
theorem agr{x n:Str}{c:Addr}{l:List (Str×Addr)}(h:x≠n):dR x ((n,c)::l)=l.lookup x:=by
 have hb:(x==n)=false:=beq_eq_false_iff_ne.mpr h;simp only[dR,hb]
theorem uz{env:Env}:∀{fr:List Str} {x:Str} {c:Addr},(abn env fr).lookup x=some c->env.cells.lookup x=some c
 | [],x,c,h=>by
  have h':(none:Option Addr)=some c:=h;cases h'
 | n::r,x,c,h=>by
  cases e:env.cells.lookup n with
  | none =>
   rw[af6 e] at h;exact uz h
  | some d =>
   rw[acp e] at h
   by_cases hx:x=n
   ·subst hx;rw[look_same] at h;rw[e];exact h
   ·rw[agr hx] at h;exact uz h
theorem ab0{env:Env}:∀{fr:List Str} {x:Str} {c:Addr},x∈fr->env.cells.lookup x=some c->(abn env fr).lookup x=some c
 | [],x,c,hm,h=>absurd hm (by simp)
 | n::r,x,c,hm,h=>by
  by_cases hx:x=n
  ·subst hx;rw[acp h,look_same]
  ·have hm':x∈r:=(aV.mp hm).elim (fun e=>absurd e hx) id
   cases e:env.cells.lookup n with
   | none =>
    rw[af6 e];exact ab0 hm' h
   | some d =>
    rw[acp e,agr hx];exact ab0 hm' h
def adp(XN fr:List Str):List Str->List (Option Nat)->Bool
 | [],[]=>true
 | _::N,none::r=>adp XN fr N r
 | x::N,some j::r=>XN[j]? == some x&&fr.contains x&&adp XN fr N r
 | _,_=>false
theorem ae0{XN fr:List Str}:∀{N:List Str} {src:List (Option Nat)} {i j:Nat} {x:Str},adp XN fr N src=true->N[i]? = some x->src[i]? = some (some j)->XN[j]? = some x/\x∈fr
 | [],[],i,j,x,_,h,_=>by simp at h
 | [],_::_,i,j,x,_,h,_=>by simp at h
 | _::_,[],i,j,x,_,_,h=>by simp at h
 | y::N,none::r,0,j,x,_,_,h=>by simp at h
 | y::N,none::r,i+1,j,x,hk,h1,h2=>ae0 (N:=N) (src:=r) (i:=i) hk (by simpa using h1) (by simpa using h2)
 | y::N,some k::r,0,j,x,hk,h1,h2=>by
  simp only[adp,bA] at hk;obtain⟨⟨a,b⟩,_⟩:=hk;simp at h1 h2;subst h1 h2;exact⟨by simpa using a,by simpa using b⟩
 | y::N,some k::r,i+1,j,x,hk,h1,h2=>by
  simp only[adp,bA] at hk;exact ae0 (N:=N) (src:=r) (i:=i) hk.2 (by simpa using h1) (by simpa using h2)
theorem aez{XN fr:List Str}:∀{N:List Str} {src:List (Option Nat)},adp XN fr N src=true->src.length=N.length
 | [],[],_=>rfl
 | [],_::_,h=>by simp[adp] at h
 | _::_,[],h=>by simp[adp] at h
 | _::N,none::r,h=>by
  have:=aez (N:=N) (src:=r) h;simp[this]
 | _::N,some k::r,h=>by
  simp only[adp,bA] at h;have:=aez (N:=N) (src:=r) h.2;simp[this]
def pick(src:List (Option Nat))(σ:L2.St):L2.St:=src.map fun o=>o.bind fun j=>(σ[j]?).bind id
theorem asm{src:List (Option Nat)}{σ:L2.St}{i:Nat}{v:V}(h:(pick src σ)[i]? = some (some v)):∃j,src[i]? = some (some j)/\σ[j]? = some (some v):=by
 unfold pick at h;rw[aU] at h;cases e:src[i]? with
 | none=>rw[e] at h;cases h
 | some o =>
  rw[e] at h;have h':(o.bind fun j=>(σ[j]?).bind id)=some v:=bK h
  cases o with
  | none=>cases h'
  | some j =>
   refine⟨j,rfl,?_⟩;have h2:(σ[j]?).bind id=some v:=h';cases q:σ[j]? with
   | none=>rw[q] at h2;cases h2
   | some z =>
    rw[q] at h2;have h3:z=some v:=h2;rw[h3]
def ami(env:Env)(XN:List Str)(scope:Scope)(fr N:List Str)(src:List (Option Nat)):Bool :=
 scope.names.all (fun y=>y.2 != .cell&&(y.2 != .local||scope.names.lookup y.1==some .local)&&(y.2 != .free||fr.contains y.1)) &&
 fr.all (fun x=>scope.names.lookup x==some .free&&(env.kindOf x==some .cell||env.kindOf x==some .free))&&adp XN fr N src
structure CompOk (env:Env) (XN:List Str) (scope:Scope) (fr N:List Str) (src:List (Option Nat)):Prop where
 cell:∀y∈scope.names,y.2≠.cell
 loc:∀y∈scope.names,y.2=.local->scope.names.lookup y.1=some .local
 free:∀y∈scope.names,y.2=.free->y.1∈fr
 frk:∀x∈fr,scope.names.lookup x=some .free
 out:∀x∈fr,env.kindOf x=some .cell∨env.kindOf x=some .free
 src:adp XN fr N src=true
theorem CompOk.of{env:Env}{XN:List Str}{scope:Scope}{fr N:List Str}{src:List (Option Nat)}(h:ami env XN scope fr N src=true):CompOk env XN scope fr N src:=by
 simp only[ami,bA,fL] at h;obtain⟨⟨h1,h2⟩,h3⟩:=h;refine⟨fun y hy =>?_,fun y hy e =>?_,fun y hy e =>?_,fun x hx =>?_,fun x hx =>?_,h3⟩
 ·have:=(h1 y hy).1.1
  simpa using this
 ·have:=(h1 y hy).1.2;rw[e] at this
  simpa using this
 ·have:=(h1 y hy).2;rw[e] at this
  simpa using this
 ·have:=(h2 x hx).1
  simpa using this
 ·have:=(h2 x hx).2
  simpa using this
theorem aei{env:Env}:∀{names:List (Str×NameKind)} {x:Str} {k:rE},
  (names.map fun(n,k)=>if (k==dN&&env.scope.kind==.function&&env.kindOf n==some .cell) then (n,iI) else (n,k)).lookup x=some k ->
  ∃k0,names.lookup x=some k0/\(k=k0∨(k0=.free/\k=.cell))
 | [],x,k,h=>by simp at h
 | (n,q)::r,x,k,h=>by
  by_cases hx:x=n
  ·subst hx;have hb:(x==x)=true:=beq_iff_eq.mpr rfl;refine⟨q,by simp only[dR,hb],?_⟩
   by_cases hc:(q==dN&&env.scope.kind==.function&&env.kindOf x==some .cell)=true
   ·rw[aX] at h;simp only[hc,if_true,dR,hb] at h;simp only[bA] at hc;exact .inr ⟨by simpa using hc.1.1,(bK h).symm⟩
   ·rw[aX] at h;simp only[hc,dR,hb] at h;exact .inl (by simpa using h.symm)
  ·have hb:(x==n)=false:=beq_eq_false_iff_ne.mpr hx;have h':(r.map fun(n,k)=>if (k==dN&&env.scope.kind==.function&&env.kindOf n==some .cell) then (n,iI) else (n,k)).lookup x=some k:=by
    rw[aX] at h
    by_cases hc:(q==dN&&env.scope.kind==.function&&env.kindOf n==some .cell)=true
    ·simp only[hc,if_true,dR,hb] at h;exact h
    ·have h2:dR x ((if (q==dN&&env.scope.kind==.function&&env.kindOf n==some .cell)=true then (n,iI) else (n,q))::(r.map fun(n,k)=>if (k==dN&&env.scope.kind==.function&&env.kindOf n==some .cell) then (n,iI) else (n,k)))=some k:=h
     rw[if_neg hc] at h2;simp only[dR,hb] at h2;exact h2
   obtain⟨k0,e,d⟩:=aei h';exact⟨k0,by simp only[dR,hb];exact e,d⟩
theorem aa7{env:Env}:∀{names:List (Str×NameKind)} {x:Str},names.lookup x=some .free ->
  (names.map fun(n,k)=>if (k==dN&&env.scope.kind==.function&&env.kindOf n==some .cell) then (n,iI) else (n,k)).lookup x=some .free ∨
  (names.map fun(n,k)=>if (k==dN&&env.scope.kind==.function&&env.kindOf n==some .cell) then (n,iI) else (n,k)).lookup x=some .cell
 | [],x,h=>by simp at h
 | (n,q)::r,x,h=>by
  by_cases hx:x=n
  ·subst hx;have hb:(x==x)=true:=beq_iff_eq.mpr rfl;simp only[dR,hb] at h;have hq:q=.free:=bK h;subst hq
   by_cases hc:(dN==dN&&env.scope.kind==.function&&env.kindOf x==some .cell)=true
   ·right
    rw[aX];simp only[hc,if_true,dR,hb]
   ·left
    show dR x ((if (dN==dN&&env.scope.kind==.function&&env.kindOf x==some .cell)=true then (x,iI) else (x,dN))::_)=some dN
    rw[if_neg hc];simp only[dR,hb]
  ·have hb:(x==n)=false:=beq_eq_false_iff_ne.mpr hx;simp only[dR,hb] at h;rw[aX]
   by_cases hc:(q==dN&&env.scope.kind==.function&&env.kindOf n==some .cell)=true
   ·simp only[hc,if_true,dR,hb];exact aa7 h
   ·simp only[hc,dR,hb]
    simpa[dR,hb] using aa7 (env:=env) h
def cxC(X:Cx)(N:List Str)(scope:Scope)(fr:List Str)(fp:List Addr)(s:aJ)(H:Hp):Cx where
 prog:=X.prog
 w:=X.w
 K:=X.K
 mg:=X.mg
 base:=X.base
 A:=X.A
 N:=N
 s₀:=s
 H₀:=H
 env:=compEnvC scope (abn X.env fr) s.heap.objs.size X.env
 outer:=X.stack
 stack:=X.stack
 ex:=fp
 fn:=fun _=>false
 calm:=X.calm
 pn:=[]
 xe:=fun _ _=>False
section
variable{X:Cx}{zv:List (Addr×Obj)}{σ:L2.St}{H:Hp}{s:aJ}{scope:Scope}{fr N:List Str}{src:List (Option Nat)}{fp:List Addr}
theorem a01(I:Inv X zv σ H s)(C:CompOk X.env X.N scope fr N src)(hkind:scope.kind=.function)(hf:∀b∈fp,FpOk X zv H b)(hl:∀b∈fp,b < s.heap.objs.size):(cxC X N scope fr fp s H).Ok where
 mod:=I.ok.mod
 kind:=hkind
 glob:=I.ok.glob
 blt:=I.ok.blt
 above:=aL _
 inj:=fun x y c h1 h2=>I.ok.inj x y c (uz h1) (uz h2)
 has:=fun x hx=>by
  have mem:∀k,(k=iI∨k=dN)->(cxC X N scope fr fp s H).env.kindOf x=some k->x∈fr:=fun k hk e=>by
   obtain⟨k0,e0,d⟩:=aei (env:=X.env) (names:=scope.names) e;have hm:=gM e0;rcases d with rfl | ⟨rfl,_⟩
   ·rcases hk with rfl | rfl
    ·exact absurd rfl (C.cell _ hm)
    ·exact C.free _ hm rfl
   ·exact C.free _ hm rfl
  have hm:x∈fr:=by
   rcases hx with e | e
   ·exact mem _ (.inl rfl) e
   ·exact mem _ (.inr rfl) e
  obtain⟨c,hc⟩:=I.ok.has x (C.out x hm);exact⟨c,ab0 hm hc⟩
 cab:=fun _ _ h _=>absurd h eF
 hd:=I.ok.hd
 frames:=I.ok.frames
 stk:=.inl rfl
 exf:=fun b hb=>⟨Nat.ne_of_lt (hl b hb),fun x c e=>(hf b hb).2.2.2.2.1 x c (uz e)⟩
 bs:=I.bs
 bsz:=cC I.ok.bsz I.sz
 noex:=fun b o e hb=>by
  rcases(hf b hb).2.2.2.1 with z | z
  ·exact I.ok.noex b o e z
  ·exact absurd (bY (aP e) (cC I.ok.bsz z)) (jE _)
 exfs:=fun b hb z=>by
  rcases aV.mp (I.stkSub b z) with e | e
  ·exact(hf b hb).2.1 e
  ·exact(hf b hb).2.2.1 e
 funs:=I.stack
 frf:=I.stkFree
theorem atj(I:Inv X zv σ H s)(C:CompOk X.env X.N scope fr N src)(hkind:scope.kind=.function)(hf:∀b∈fp,FpOk X zv H b)(hl:∀b∈fp,b < s.heap.objs.size){h':Heap}{tk:Nat}{m:Str->Option Value}
  (hns:h'.Ns s.heap.objs.size m) (hk:∀b o,s.heap.get? b=some o->h'.get? b=some o):Inv (cxC X N scope fr fp s H) [] (pick src σ) H { s with heap:=h',toks:=tk } where
 ok:=a01 I C hkind hf hl
 os:=rfl
 bare:=I.bare
 base:=Un.kept hk
 loc:=by
  refine⟨m,hns,fun i x v h1 h2 h3 =>?_⟩
  obtain⟨j,hj,hv⟩:=asm h2;obtain⟨hN,hm⟩:=ae0 C.src h1 hj;obtain⟨mo,_,hlo⟩:=I.loc;have vis:Vis X.env.scope x:=by
   rcases C.out x hm with e | e
   ·exact .inr (.inl e)
   ·exact .inr (.inr e)
  obtain⟨u,r,l⟩:=hlo j x v hN hv vis;refine⟨u,r,.inr ⟨?_,?_⟩⟩
  ·rcases aa7 (env:=X.env) (C.frk x hm) with e | e
   ·exact .inr e
   ·exact .inl e
  ·rcases l with⟨e,_⟩ | ⟨_,c,hc,z⟩
   ·rcases C.out x hm with q | q
    ·rw[q] at e;cases e
    ·rw[q] at e;cases e
   ·obtain⟨o,ho,hd⟩:=z;exact⟨c,ab0 hm hc,o,hk c o ho,hd⟩
 cell:=fun x c e=>by
  obtain⟨v,o,ho,hd⟩:=I.cell x c (uz e);exact⟨v,o,hk c o ho,hd⟩
 free:=I.hok.fresh (aL _)
 freeC:=fun x c e=>I.freeC x c (uz e)
 pin:=fun p hp=>absurd (show p∈([]:List (Addr×Obj)) from hp) (by simp)
 hok:=I.hok.kept hk
 len:=by
  unfold pick;rw[aD];exact aez C.src
theorem atk{pins':List (Addr×Obj)}{σ':L2.St}{H':Hp}{s':aJ}{h'':Heap}(I:Inv X zv σ H s)(hf:∀b∈fp,FpOk X zv H b)(J:Inv (cxC X N scope fr fp s H) pins' σ' H' s')
  (hs:cH s.heap.objs.size s'.heap h''):Inv X zv σ H' { s' with heap:=h'' }:=by
 have k:∀b o,b≠s.heap.objs.size->s'.heap.get? b=some o->h''.get? b=some o:=fun b o hb e=>(hs.2 b hb).trans e
 have old:∀b o,s.heap.get? b=some o->b≠s.heap.objs.size:=fun b o e=>bC (aP e)
 have un:Un (frs X.stack) fp H H' s.heap h'':=by
  have u:Un (frs X.stack) fp H H' s.heap s'.heap:=J.base;refine⟨fun b o e n hb hx=>k b o (old b o e) (u.keep b o e n hb hx),fun b o e n hb hx =>?_,u.free,fun b o e hx =>?_,u.tups,u.frzs,u.tbls⟩
  ·obtain⟨sl,q⟩:=u.slot b o e n hb hx;exact⟨sl,k b _ (old b o e) q⟩
  ·obtain⟨o',q⟩:=u.there b o e hx;exact⟨o',k b _ (old b o e) q⟩
 have hok:HOk X.prog X.w H' h'':=fun b u e=>by
  have nC:∀c z,H' c=some z->c≠s.heap.objs.size:=fun c z q w=>by
   have f:H' s.heap.objs.size=none:=J.free;rw[w,f] at q;cases q
  refine(J.hok b u e).stay (fun c v hc q=>k c v ?_ q) (fun _ q=>q) fun _ _ q=>q
  rcases hc with z | z
  ·rw[z];exact nC b u e
  ·exact nC c _ z
 have os:s'.os=s.os:=J.os;refine Inv.call' (s':={ s' with heap:=h'' }) I os un hok J.bare fun b hb =>?_
 obtain⟨_,f1,_,f3,f4,f5⟩:=hf b hb;exact⟨f3,f1,f4,f5⟩
end
def akb(ifs:List Expr)(env:Env):Sem Bool:=forIn ifs true fun c r=>if r=true then do let ok <-isTrue c env (eval c env);pure (uT ok) else pure (uT r)
def PIf(X:Cx)(ifs:List Expr)(t:TT):Prop :=
 ∀(zv:List (Addr×Obj)) (s:aJ) (σ:L2.St) (H:Hp) (Q:Bool->Hp->Prop),Inv X zv σ H s->t σ H Q->wpAny (model X.prog X.w) X.A (akb ifs X.env) (TP X zv σ Q) X.xe s
def tYes:TT:=fun _ H Q=>Q true H
theorem av4{X:Cx}:PIf X [] tYes:=fun zv s σ H Q I h=>by
 show wpAny _ _ (pure true) _ _ s;exact aF ⟨H,I,h⟩
theorem av3{X:Cx}{c:Expr}{t:TT}(hc:PT X c t):PIf X [c] t:=fun zv s σ H Q I h=>by
 unfold akb;rw[jX];rw[if_pos rfl];refine aA (aA (thn (hc zv s σ H _ I h) fun b s1 q=>aF ?_))
 show wpAny _ _ (forIn [] b _) _ _ s1;exact aF q
section
variable{prog:bI}{w:World}{A:cM}{R:Result->aJ->Prop}{s:aJ}
theorem compLoop{elt target iter:Expr}{ifs:List Expr}{scope:Scope}{pos:Pos}{it acc:Value}{env:Env}(I:Nat->aJ->Prop)
  (turn:∀n s,I n s->wpAny (model prog w) A (lF it) (fun r s₁=>match r with
   | none=>R (.ok .next) s₁
   | some v=>wpAny (model prog w) A (letOwnedTupleGo target it v) (fun _ s₁'=>wpAny (model prog w) A (nD target env v) (fun _ s₂ =>
     wpAny (model prog w) A (akb ifs env) (fun ok s₃ =>
      if ok=true then wpAny (model prog w) A (eval elt env) (fun x s₄ =>
       wpAny (model prog w) A (call (.builtin "list.append") [acc,x]) (fun _ s₅=>∃m,m < n/\I m s₅) (fun _ _=>False) s₄) (fun _ _=>False) s₃
      else ∃m,m < n/\I m s₃) (fun _ _=>False) s₂) (fun _ _=>False) s₁') (fun _ _=>False) s₁) (fun _ _=>False) s)
  (n:Nat) (h:I n s) :
  nM (model prog w) A (.compLoop (.ListComp elt [⟨target,iter,ifs,0⟩] scope pos) 0 it acc env) R s:=by
 refine codeAny_loop rfl I (fun n s hI =>?_) n h
 show wpAny _ A ((compTurn (.ListComp elt [⟨target,iter,ifs,0⟩] scope pos) 0 it acc env).onRaise (fun x=>do noteFrame x env;theTreesLotGoes x)) _ _ s
 refine wpAny_noted ?_;rw[compTurn_list];refine aA (wpAny_standAt (aA (dG (turn n s hI) (fun r s₁ h₁ =>?_) fun _ _ h'=>h'.elim)))
 cases r with
 | none=>exact aF h₁
 | some v =>
  refine aA (dG h₁ (fun _ s₁' h₁' =>?_) fun _ _ h'=>h'.elim)
  refine aA (dG h₁' (fun _ s₂ h₂=>aA (dG h₂ (fun ok s₃ h₃ =>?_) fun _ _ h'=>h'.elim)) fun _ _ h'=>h'.elim)
  cases ok with
  | false=>exact aF ⟨rfl,h₃⟩
  | true =>
   exact aA (aA (dG h₃ (fun x s₄ h₄=>aA (dG h₄ (fun _ s₅ h₅=>aF (aF ⟨rfl,h₅⟩)) fun _ _ h'=>h'.elim)) fun _ _ h'=>h'.elim))
end
def a1e(J:It)(g:TG)(ti:TT)(te:TE)(Q:VK)(d:Addr)(σ0:L2.St)(H1:Hp):Prop :=
 ∃W:Nat->Nat->List V->L2.St->Hp->Prop,(∃m,W 0 m [] σ0 (upd H1 d (.lst [])))/\∀i m ys σ H2,W i m ys σ H2->H2 d=some (.lst ys) /\
  ((J.stop i H2/\Q (.ref d) H2)∨(J.go i H2/\∀x H3,J.yld i H2 x H3->g x σ H3 fun σ4 H4=>ti σ4 H4 fun b H5 =>
   if b=true then te σ4 H5 fun y H6=>H6 d=some (.lst ys)/\ys.length < bV/\∃m',m' < m/\W (i+1) m' (ys++[y]) σ4 (upd H6 d (.lst (ys++[y]))) else ∃m',m' < m/\W (i+1) m' ys σ4 H5))
def ayk(wi:TI)(g:TG)(ti:TT)(te:TE)(src:List (Option Nat)):TE:=fun σ H Q=>wi σ H fun J H1=>∀d,H1 d=none->a1e J g ti te Q d (pick src σ) H1
theorem aqx{X:Cx}{tg iter elt:Expr}{ifs:List Expr}{scope:Scope}{pos:Pos}{J:It}{fp:List Addr}{it d:Addr}{tn:Nat->Heap->Prop}{g:TG}{ti:TT}{te:TE}{Q:VK}{R:Result->aJ->Prop}
  {W:Nat->Nat->List V->L2.St->Hp->Prop} {m0:Nat} {σ0:L2.St} {H0:Hp} {s:aJ} (hc:X.calm=true) (hE:X.xe=fun _ _=>False) (T:Turn X.prog X.w X.K tg J fp it tn)
  (hf:∀H':Hp,(∀b∈fp,H' b=none)->∀b∈fp,FpOk X [] H' b) (hg:PG X tg g) (ht:PIf X ifs ti) (he:PE X elt te)
  (turn:∀i m ys σ H2,W i m ys σ H2->H2 d=some (.lst ys) /\
   ((J.stop i H2/\Q (.ref d) H2)∨(J.go i H2/\∀x H3,J.yld i H2 x H3->g x σ H3 fun σ4 H4=>ti σ4 H4 fun b H5 =>
    if b=true then te σ4 H5 fun y H6=>H6 d=some (.lst ys)/\ys.length < bV/\∃m',m' < m/\W (i+1) m' (ys++[y]) σ4 (upd H6 d (.lst (ys++[y]))) else ∃m',m' < m/\W (i+1) m' ys σ4 H5)))
  (w0:W 0 m0 [] σ0 H0) (I0:Inv X [] σ0 H0 s) (st0:tn 0 s.heap) (fr0:∀b∈fp,H0 b=none)
  (hR:∀σ' H' s',Inv X [] σ' H' s'->Q (.ref d) H'->R (.ok .next) s') :
  nM (model X.prog X.w) X.A (.compLoop (.ListComp elt [⟨tg,iter,ifs,0⟩] scope pos) 0 (.ref it) (.ref d) X.env) R s:=by
 have hE':∀e s',X.xe e s'->False:=fun e s' h=>by rw[hE] at h;exact h
 refine compLoop (fun n s'=>∃i ys σ' H',Inv X [] σ' H' s'/\tn i s'.heap/\(∀b∈fp,H' b=none)/\W i n ys σ' H') ?_ m0 ⟨0,[],σ0,H0,I0,st0,fr0,w0⟩
 rintro n s5 ⟨i,ys,σ5,H5,I5,st5,fr5,w5⟩
 obtain⟨hD,alt⟩:=turn i n ys σ5 H5 w5;rcases alt with⟨stop,qn⟩ | ⟨go,step⟩
 ·refine dG (T.done X rfl rfl rfl hc i [] s5 σ5 H5 (fun _ _=>False) I5 (hf _ fr5) st5 stop) (fun r s6 ⟨hr,I6⟩ =>?_) fun _ _ e=>e
  subst hr;exact hR σ5 H5 s6 I6 qn
 ·refine dG (T.item X rfl rfl rfl hc i [] s5 σ5 H5 (fun _ _=>False) I5 (hf _ fr5) st5 go) (fun r s6 ⟨u,hr,h6⟩ =>?_) fun _ _ e=>e
  subst hr;refine dG h6 (fun _ s7 ⟨x,H7,I7,r7,y7,st7,fr7⟩ =>?_) fun _ _ e=>e
  have I7':=I7.pinned (hf _ fr7) (T.obj _ _ st7);have again:∀{σ':L2.St} {H':Hp} {s':aJ} {ys':List V} {m':Nat},Inv X ([]++aiu fp s7.heap) σ' H' s'->W (i+1) m' ys' σ' H'->∃i ys σ' H',Inv X [] σ' H' s'/\tn i s'.heap/\(∀b∈fp,H' b=none)/\W i m' ys σ' H':=fun{σ' H' s' ys' m'} Ia wa=>by
   refine⟨i+1,ys',σ',H',Ia.unpinned,T.keep _ _ _ st7 fun b hb o e=>(Ia.pin (b,o) (cT _ (cT _ (abu hb e)))).1,fun b hb =>?_,wa⟩
   obtain⟨o,e,d⟩:=T.obj _ _ st7 b hb;exact(Ia.pin (b,o) (cT _ (cT _ (abu hb e)))).2.1
  refine dG (hg _ s7 σ5 H7 x u _ I7' r7 (step x H7 y7)) (fun _ s8 ⟨σ8,H8,I8,q8⟩ =>?_) hE'
  refine dG (ht _ s8 σ8 H8 _ I8 q8) (fun ok s9 ⟨H9,I9,q9⟩ =>?_) hE'
  cases ok with
  | false =>
   rw[if_neg eF] at q9 ⊢
   obtain⟨m',hm,wa⟩:=q9;exact⟨m',hm,again I9 wa⟩
  | true =>
   rw[if_pos rfl] at q9 ⊢
   refine dG (he _ s9 σ8 H9 _ I9 q9) (fun z s10 ⟨y,H10,I10,r10,hd10,hz,m',hm,wa⟩ =>?_) hE'
   refine dG (abb _ s10 σ8 H10 (.ref d) [y] (.ref d) [z] (fun _ H'=>H'=upd H10 d (.lst (ys++[y]))) I10 rfl (.cons r10 .nil) ⟨d,ys,y,rfl,rfl,hd10,hz,rfl⟩) (fun _ s11 ⟨_,H11,I11,_,e11⟩ =>?_) hE'
   subst e11;exact⟨m',hm,again I11 wa⟩
theorem awa{X:Cx}{tg iter elt:Expr}{ifs:List Expr}{scope:Scope}{pos:Pos}{wi:TI}{g:TG}{ti:TT}{te:TE}(fr N:List Str)(src:List (Option Nat))(hc:X.calm=true)(hi:PI X tg iter wi)
  (hg:∀fp s H,PG (cxC X N scope fr fp s H) tg g) (ht:∀fp s H,PIf (cxC X N scope fr fp s H) ifs ti) (he:∀fp s H,PE (cxC X N scope fr fp s H) elt te)
  (hok:ami X.env X.N scope fr N src=true:=by rfl) (hkind:scope.kind=.function:=by rfl) (hclos:closureFor scope X.env=pure (abn X.env fr):=by rfl)
  (hs:∀x,foldedSetIterable iter X.env x=pure x:=by intro _;rfl):PE X (.ListComp elt [⟨tg,iter,ifs,0⟩] scope pos) (ayk wi g ti te src):=by
 have C:=CompOk.of hok;intro zv s σ H Q I h;rw[eval_ListComp];refine wpAny_comprehension_free (use:=none) rfl hs hclos hkind C.loc (dG (hi zv s σ H _ I h) (fun v s1 h1=>dG h1 (fun itv s2 h2 =>?_) fun _ _ e=>e) fun _ _ e=>e)
 obtain⟨it,fp,tn,J,H2,e,I2,T,st2,f2,q2⟩:=h2;subst e;have hd0:H2 s2.heap.objs.size=none:=I2.hok.fresh (aL _);obtain⟨W,⟨m0,w0⟩,turn⟩:=q2 s2.heap.objs.size hd0;refine bF ?_;generalize hs3:({ s2 with heap:=s2.heap.push { cls:=.type "list", dict:=none,data:=.seq ([]:List Value).toArray } }:aJ)=s3
 have keep2:∀b o,s2.heap.get? b=some o->s3.heap.get? b=some o:=fun b o e=>by rw[<-hs3];exact aB _ e
 have I3:Inv X zv σ (upd H2 s2.heap.objs.size (.lst [])) s3:=by
  rw[<-hs3];exact I2.laid (t':=s2.toks) (fun b u q=>aB _ q) (aL _) ⟨Nat.zero_le _,[],0,.nil,aK _ rfl⟩
 have ne0:∀b∈fp,b≠s2.heap.objs.size:=fun b hb=>by
  obtain⟨o,e,_⟩:=T.obj _ _ st2 b hb;exact bC (aP e)
 have f3:∀b∈fp,FpOk X zv (upd H2 s2.heap.objs.size (.lst [])) b:=fun b hb=>⟨by rw[fj (ne0 b hb)];exact(f2 b hb).1,(f2 b hb).2⟩
 have lt3:∀b∈fp,b < s3.heap.objs.size:=fun b hb=>by
  obtain⟨o,e,_⟩:=T.obj _ _ st2 b hb;exact aP (keep2 b o e)
 refine wpAny_newFunctionEnv C.cell (by intro y hy;simp at hy) (fun h₁ hns₁ hsb₁ =>?_) hkind
 have keep3:∀b o,s3.heap.get? b=some o->h₁.get? b=some o:=fun b o e=>hsb₁.extBut b o (bC (aP e)) (aB _ e)
 have st4:tn 0 h₁:=T.keep _ _ _ st2 fun b hb o e=>keep3 b o (keep2 b o e)
 have I4:=atj (tk:=s3.toks+([]:List (Str×Value)).length) I3 C hkind f3 lt3 hns₁ keep3;have loop:=aqx (X:=cxC X N scope fr fp s3 (upd H2 s2.heap.objs.size (.lst []))) (iter:=iter) (scope:=scope) (pos:=pos) (d:=s2.heap.objs.size)
  (R:=compPost (model X.prog X.w) X.A X.xe none (EP X zv σ Q) (.ref s2.heap.objs.size) s3.heap.objs.size) hc rfl T
  (fun H' hn b hb=>⟨hn b hb,bC (lt3 b hb),I4.ok.exfs b hb,.inl hb,(I4.ok.exf b hb).2,fun p hp=>absurd (show p∈([]:List (Addr×Obj)) from hp) (by simp)⟩)
  (hg fp s3 _) (ht fp s3 _) (he fp s3 _) turn w0 I4 st4 (fun b hb=>(f3 b hb).1) (fun σ' H' s' I6 qn=>by
   obtain⟨m6,hn6,_⟩:=I6.loc;exact⟨m6,hn6,fun h'' hs''=>⟨.ref s2.heap.objs.size,H',atk I3 f3 I6 hs'',rfl,qn⟩⟩)
 exact codeAny_compStart_list loop (T.self _ 0 _ _ _ st4 loop)
def Keep(ws:List Addr)(H H':Hp):Prop:=∀b o,H b=some o->b∉ws->H' b=some o
theorem Keep.of{ws:List Addr}{H H':Hp}(h:Same H H'):Keep ws H H':=fun b o e _=>h b o e
theorem Keep.same{H H':Hp}(h:Keep [] H H'):Same H H':=fun b o e=>h b o e (by simp)
theorem Keep.trans{ws:List Addr}{H H1 H2:Hp}(a:Keep ws H H1)(b:Keep ws H1 H2):Keep ws H H2:=fun c o e n=>b c o (a c o e n) n
theorem Keep.refl(ws:List Addr)(H:Hp):Keep ws H H:=fun _ _ e _=>e
theorem Same.new{H:Hp}{p:Addr}(h:H p=none)(o:HO):Same H (upd H p o):=fun b u q=>by rw[fj (ji q h)];exact q
theorem Keep.put{H:Hp}{p:Addr}(o:HO):Keep [p] H (upd H p o):=fun b u q n=>by rw[fj (fun e=>n (by simp[e]))];exact q
theorem Keep.new{ws:List Addr}{H H1:Hp}{p:Addr}(g:Keep ws H H1)(h:H p=none)(o:HO):Keep ws H (upd H1 p o):=fun b u q n=>by rw[fj (ji q h)];exact g b u q n
theorem Keep.free{ws:List Addr}{H H':Hp}(e:Keep ws H H'){l:Addr}(h:H' l=none)(n:l∉ws):H l=none:=by
 cases q:H l with
 | none=>rfl
 | some o =>
  rw[e l o q n] at h;cases h
theorem Same.tup{K:Fg9}{H H':Hp}{a:Addr}{xs:List V}(e:Same H H')(h:SqT K H a xs):SqT K H' a xs:=by
 rcases h with(h | ⟨o,h⟩) | h
 ·exact .inl (.inl (e _ _ h))
 ·exact .inl (.inr ⟨o,e _ _ h⟩)
 ·exact .inr h
structure ItOf (J:It) (xs:List V) (S:Hp->Prop):Prop where
 go:∀i H,S H->i < xs.length->J.go i H
 yld:∀i H x H',S H->J.yld i H x H'->H'=H/\(i < xs.length->xs[i]? = some x)
 stop:∀i H,S H->xs.length<=i->J.stop i H
theorem atg{K:Fg9}{a:Addr}{xs:List V}:ItOf (Itt K a) xs fun H=>SqT K H a xs :=
 ⟨fun i H h hi=>⟨xs,xs[i],h,by simp[hi]⟩,fun i H x H' h y=>⟨y.1,fun _=>y.2 xs h⟩,fun i H h hi=>⟨xs,h,hi⟩⟩
theorem al6{K:Fg9}{a:Addr}{xs:List V}:ItOf (Itl K a) xs fun H=>SqL K H a xs :=
 ⟨fun i H h hi=>⟨xs,xs[i],h,by simp[hi]⟩,fun i H x H' h y=>⟨y.1,fun _=>y.2 xs h⟩,fun i H h hi=>⟨xs,h,hi⟩⟩
def ups(lo:Int)(n:Nat):List V:=(aY n).map fun i=>V.int (lo+(i:Nat))
theorem ag3(lo:Int)(n:Nat):(ups lo n).length=n:=by simp[ups]
theorem avi{lo:Int}{n i:Nat}(h:i < n):(ups lo n)[i]? = some (.int (lo+(i:Nat))):=by
 unfold ups;rw[aU,cX h];rfl
theorem ath{lo:Int}{n:Nat}:ItOf (Itr lo n) (ups lo n) fun _=>True :=
 ⟨fun i H _ hi=>by rw[ag3] at hi;exact hi,fun i H x H' _ y=>⟨y.1,fun hi=>by rw[ag3] at hi;rw[avi hi,y.2]⟩,fun i H _ hi=>by rw[ag3] at hi;exact hi⟩
section
variable{X:Cx}
def rAll(K:Fg9):List V->Hp->VK->Prop:=fun xs H Q=>∃(p:Addr) (bs:List Bool),xs=[.ref p]/\SqL K H p (bs.map V.bl)/\Q (.bl (bs.all id)) H
theorem auf(hc:X.calm=true):ab6 X (.builtin "all") (rAll X.K):=by
 intro zv s σ H xs us Q I r h;obtain⟨p,bs,rfl,hq,q⟩:=h;obtain⟨u,rfl,ru⟩:=vals1 r;cases ru;obtain⟨its,rv,pl,hz⟩:=I.list hq;have hl:=pl.isList;have hlen:=rv.length;rw[aD] at hlen;have hlt:p < s.heap.objs.size:=by obtain⟨_,e,_⟩:=hl;exact aP e
 refine call_all_walk (wpAny_pyIter_list hl ?_);refine⟨s.heap.objs.size,[s.heap.objs.size,p],[s.heap.objs.size],its.toArray.size,_,_,fun i=>(bs[i]?).getD true,rfl,tK (A:=X.A.in1) (I.ok.hd hc) _ p (bC hlt) its.toArray,
  ⟨⟨_,aK _ rfl,rfl,rfl⟩,hl.push _⟩,fun i v s' Q' E' hP hQ =>?_,fun h' tk hk =>?_⟩
 ·have hi:its[i]? = some v:=by simpa using hP
  cases e:bs[i]? with
  | none =>
   have h1:bs.length<=i:=List.getElem?_eq_none_iff.mp e;have h2:i < its.length:=(aM.mp hi).1;omega
  | some b =>
   obtain⟨u,hu,ru⟩:=rv.get (i:=i) (x:=V.bl b) (by rw[aU,e];rfl)
   rw[hi] at hu;cases hu;obtain rfl:v=qU b:=ru;simp only[e,Option.getD_some] at hQ;exact wpAny_truthy_bool hQ
 ·have e:((aY its.toArray.size).all fun i=>(bs[i]?).getD true)=bs.all id:=by
   rw[aN,<-hlen];exact LSm.range_all bs
  rw[e];exact⟨.bl (bs.all id),H,I.kept (t':=tk) (lW hk),rfl,q⟩
end
def Dfn(P:bI)(w:World)(K:Fg9)(mg:Str->Option Value)(base:Heap)(x:Str)(ps:List Str)(k:Nat)(sp:Sp):Prop :=
 ∃(f:Addr) (fd:fO),FnOk P w K mg base CX0 k f fd ps sp/\mg x=some (.ref f)/\eH K (.ref f)=true/\Binds K fd ps []
section
variable{X:Cx}{x:Str}{ps:List Str}{k:Nat}{sp:Sp}{e:Expr}{es:List Expr}{t:TA}{p pos:Pos}
theorem a3w(F:Dfn X.prog X.w X.K X.mg X.base x ps k sp)(hr:Room k X.A)(hg:Gl X x)(ha:PA X (e::es) t)(hdb:(x==("__debug__" : Str))=false:=by decide)
  (he:aW (e::es) X.env=(false,eval e X.env)::aW es X.env:=by rfl) (hpl:(jP pos (aW es X.env)).any (·.1)=false:=by rfl):PE X (.Call (.Name x p) (e::es) [] pos) (ayl sp [] E0 t):=by
 obtain⟨f,fd,F,hm,hk,hb⟩:=F;exact awc F hr hg hm hk hb .nil a3y ha hdb he hpl
theorem a3v{n:Int}(hg:Gl X x)(hm:∃t,X.mg x=some (.int n t))(hd:(x==("__debug__" : Str))=false:=by decide):PE X (.Name x pos) (tC (.int n)):=by
 obtain⟨t,hm⟩:=hm;exact av9 hg hm ⟨t,rfl⟩ hd
theorem akj{T:String}(hg:Gl X x)(hm:X.mg x=none)(hv:bN x=some (.type T))(hn:x ≠ "__name__" := by decide)(hd:(x==("__debug__" : Str))=false:=by decide):PE X (.Name x pos) (tC (.ty T)) :=
 awd hg hm hv rfl hn hd
end
section
variable{X:Cx}
end
section
variable{prog:bI}{w:World}{A:cM}{E:Value->aJ->Prop}{s:aJ}
theorem aud{t b:Addr}{vs ws:List Value}{Q:Value->aJ->Prop}(ht:IsTup s.heap t vs.toArray)(hb:IsTup s.heap b ws.toArray)(hv:vs=[])(h:Q (.ref b) s):wpAny (model prog w) A (fH .Add (.ref t) (.ref b)) Q E s:=by
 obtain⟨⟨cls,dd,data,sl⟩,ho,hc,n,hd⟩:=id ht;obtain⟨⟨cls2,dd2,data2,sl2⟩,ho2,hc2,n2,hd2⟩:=id hb;simp only at hc hd hc2 hd2;subst hc hd hc2 hd2;exact concat_meets ⟨_,ho,rfl⟩ ⟨_,ho2,rfl⟩ noFill_tuple_add seq_tuple_add mG lV (lJ _ _)
  (tuple_addW0 t b vs.toArray ws.toArray n n2 dd dd2 sl sl2 (by simp[hv])) ⟨ho,ho2,h⟩
end
section
variable{X:Cx}
end
section
variable{X:Cx}
def ayj(x:Str)(n:Int):TE:=fun _ H Q=>∀p,H p=none->Q (.ref p) (upd H p (.dK [(jU x,.int n)]))
theorem asp{x:Str}{n:Int}{j1 j2:Nat}{p1 p2 pos:Pos}:PE X (.Dict [some (.Constant (.str x) j1 p1)] [.Constant (.int n) j2 p2] pos) (ayj x n):=by
 intro zv s σ H Q I q;have big:sysModules < s.heap.objs.size:=by
  have h:aO < s.heap.objs.size:=(I.mod.glob.keeps I.bk).lt;exact jL (by decide) h
 have hn:=I.hok.fresh (aL s.heap.objs.size);refine wpAny_Dict_walk (knd:=aht X.prog X.w) rfl rfl (by simp) (by show 1<=15;decide) ?_
 refine pairTrees_cons_walk (tG (wpAny_Constant_int (pairTrees_nil_walk ?_)));refine⟨[((jU x:Key),mJ n (s.toks+1))],⟨aku X.prog X.w x s.toks,rfl,lG⟩,Heap.DictOf.new s.heap,fun h' dd hs =>?_⟩
 refine⟨.ref s.heap.objs.size,upd H s.heap.objs.size (.dK [(jU x,.int n)]),?_,rfl,q _ hn⟩;refine I.laid (fun b u e=>hs.extBut b u (bC (aP e)) (aB _ e)) (aL _) ?_
 exact⟨by show 1<=bV;decide,beq_eq_false_iff_ne.mpr (iR (bC big)),_,.cons ⟨rfl,_,rfl⟩ .nil,dd⟩
end
theorem aa1:fillsNumberSlot (.type "tuple") "mul" = pure false :=
 PySem.fillsNumberSlot_seq (id := "tuple.__mul__") (r:=some (.builtin "tuple.__rmul__")) mF.lookup (by decide +kernel) uD.lookup (by decide +kernel)
theorem aeh:seqRepeat? (.type "tuple")=pure (some (.builtin "tuple.__mul__")):=by
 unfold seqRepeat?;rw[uI (T := "tuple") (name := "__mul__") (id := "tuple.__mul__") mF.lookup (by decide +kernel),uI (T := "tuple") (name := "__rmul__") (id := "tuple.__rmul__") uD.lookup (by decide +kernel)]
 rfl
theorem ab8(a:Int)(t:Tok)(l:Addr)(items:Array Value)(n:Nat)(dd:Option Addr)(sl:Array (Option Value)) :
  Meets (gH.«int.__rmul__» ⟨[.int a t,.ref l],[]⟩) (fun _ R s=>s.heap.get? l=some { cls:=.type "tuple", dict:=dd,data:=.seq items n,slots:=sl }/\R (.ok (.ret Value.notImplemented)) s) :=
 .of_wp fun prog w A R s h=>by obtain⟨hp,g,d,tk,os⟩:=s;obtain⟨hl,h⟩:=h;wp_walk;exact⟨_,rfl,h⟩
theorem am4(l:Addr)(items:Array Value)(n:Nat)(dd:Option Addr)(sl:Array (Option Value))(x:Int)(u:Tok)(h0:items.isEmpty=false)(h2:2<=x)(h63:x < 2 ^ 63)(hsz:items.size*x.toNat<=bV) :
  Meets (gH.«tuple.__mul__» ⟨[.ref l,.int x u],[]⟩) (fun _ R s=>s.heap.get? l=some { cls:=.type "tuple", dict:=dd,data:=.seq items n,slots:=sl } /\
   R (.ok (.ret (fJ s.heap.objs.size))) { s with heap:=s.heap.push { cls:=iH "tuple", data:=Data.seq (jR (fun x1 x2=>x1++x2) #[] (aG x.toNat items)) },toks:=s.toks }) :=
 .of_wp fun prog w A R s h=>by
  obtain⟨hp,g,d,tk,os⟩:=s;obtain⟨hl,h⟩:=h;have c1:(decide (x < -2 ^ 63)||decide (x≥2 ^ 63))=false:=by
   rw[sJ];exact⟨decide_eq_false (by omega),decide_eq_false (by omega)⟩
  have c2:(items.isEmpty||x==1)=false:=by
   rw[h0,Bool.false_or,beq_eq_false_iff_ne];omega
  have c3:(decide (x<=0)||items.isEmpty)=false:=by
   rw[h0,vR];exact decide_eq_false (by omega)
  have e4:((items.size:Int)*x)=((items.size*x.toNat:Nat):Int):=by
   have:x=(x.toNat:Int):=by omega
   rw[pX,<-this]
  have h4:(bV:Int)<=(2 ^ 63 - 1) / 8:=by decide
  have c4:¬((items.size:Int)*x > (2 ^ 63 - 1) / 8):=by rw[e4];omega
  have c5:qK ((items.size:Int)*x)=false:=by
   unfold qK;rw[e4];exact decide_eq_false (by omega)
  wp_walk;refine wpAny_ite_false (by rw[c1];rfl) ?_
  wp_walk;refine wpAny_ite_false (by rw[c2];rfl) ?_
  try dsimp only
  refine wpAny_ite_false (by rw[c3];rfl) ?_
  try dsimp only
  refine wpAny_ite_false (decide_eq_false c4) ?_
  try dsimp only
  refine wpAny_ite_false (by rw[c5];rfl) ?_
  have hso:sizeOk (.seq (jR (fun x1 x2=>x1++x2) #[] (aG x.toNat items))):=by
   show(jR (fun x1 x2=>x1++x2) #[] (aG x.toNat items)).size<=bV
   have hn:=foldl_rep items.toList x.toNat [];rw[dD] at hn;have hn':jR (fun x1 x2=>x1++x2) #[] (aG x.toNat items)=(aG x.toNat items.toList).flatten.toArray:=hn
   rw[hn',aN,len_rep,bB,rT];exact hsz
  refine aA (m:=cZ _) (bF (aF ⟨_,rfl,h⟩) hso)
theorem am5(l:Addr)(items:Array Value)(n:Nat)(dd:Option Addr)(sl:Array (Option Value))(x:Int)(u:Tok)(hx:x=1) :
  Meets (gH.«tuple.__mul__» ⟨[.ref l,.int x u],[]⟩) (fun _ R s=>s.heap.get? l=some { cls:=.type "tuple", dict:=dd,data:=.seq items n,slots:=sl }/\R (.ok (.ret (fJ l))) s) :=
 .of_wp fun prog w A R s h=>by
  obtain⟨hp,g,d,tk,os⟩:=s;obtain⟨hl,h⟩:=h;have c1:(decide (x < -2 ^ 63)||decide (x≥2 ^ 63))=false:=by
   rw[sJ];exact⟨decide_eq_false (by omega),decide_eq_false (by omega)⟩
  have c2:(items.isEmpty||x==1)=true:=by rw[hx];simp
  wp_walk;exact⟨_,rfl,h⟩
section
variable{X:Cx}
theorem awh:OpR X (fH .Mult) (fun x y H Q=>∃a xs,x=.ref a/\y=.int 1/\H a=some (.tup xs)/\Q (.ref a) H):=by
 intro zv s σ H x y v u Q I rx ry h;obtain⟨a,xs,rfl,rfl,ha,q⟩:=h;cases rx;obtain⟨t,rfl⟩:=ry;obtain⟨its,r1,p1,_⟩:=I.tuple (SqT.of ha);obtain⟨⟨cls,dd,data,sl⟩,ho,hc,n,hd⟩:=id p1;simp only at hc hd;subst hc hd;exact wpAny_binaryOp_repeat_ref (T := "tuple") (U := "int") (by decide) ⟨_,ho,rfl⟩ (fun s'=>typeIs_int s' 1 t) aa1 qC jJ aeh pI.lookup
  (iY jJ (typeIs_int s 1 t) pJ (oW _ _) (ab8 1 t a its.toArray n dd sl)
   ⟨ho,rfl,⟨_,ho,rfl⟩,iY mF ⟨_,ho,rfl⟩ uF (tE _ _) (am5 a its.toArray n dd sl 1 t rfl) ⟨ho,⟨.ref a,H,I,rfl,q⟩⟩⟩)
def ays:R2:=fun x y H Q=>∃a xs k,x=.ref a/\y=.int k/\H a=some (.tup xs)/\xs≠[]/\2<=k/\k < 2 ^ 63/\xs.length*k.toNat<=bV/\∀p,H p=none->Q (.ref p) (upd H p (.tup (aG k.toNat xs).flatten))
theorem asu:OpR X (fH .Mult) ays:=by
 intro zv s σ H x y v u Q I rx ry h;obtain⟨a,xs,k,rfl,rfl,ha,hx,h2,h63,hz,q⟩:=h;cases rx;obtain⟨t,rfl⟩:=ry;obtain⟨its,r1,p1,_⟩:=I.tuple (SqT.of ha);obtain⟨⟨cls,dd,data,sl⟩,ho,hc,n,hd⟩:=id p1;simp only at hc hd;subst hc hd;have hnew:jR (fun x1 x2=>x1++x2) #[] (aG k.toNat its.toArray)=(aG k.toNat its).flatten.toArray:=by
  have:=foldl_rep its k.toNat [];rw[dD] at this;exact this
 refine wpAny_binaryOp_repeat_ref (T := "tuple") (U := "int") (by decide) ⟨_,ho,rfl⟩ (fun s'=>typeIs_int s' k t) aa1 qC jJ aeh pI.lookup
  (iY jJ (typeIs_int s k t) pJ (oW _ _) (ab8 k t a its.toArray n dd sl)
   ⟨ho,rfl,⟨_,ho,rfl⟩,iY mF ⟨_,ho,rfl⟩ uF (tE _ _) (am4 a its.toArray n dd sl k t ?_ h2 h63 ?_) ⟨ho,?_⟩⟩)
 ·cases its with
  | nil=>exact absurd (r1.nil_iff.mp rfl) hx
  | cons _ _=>rfl
 ·rw[aN,<-r1.length];exact hz
 ·rw[hnew];refine⟨.ref s.heap.objs.size,_,I.laid (t':=s.toks) (o:=.tup (aG k.toNat xs).flatten) (fun b ob q=>aB _ q) (aL _) ?_,rfl,q _ (I.hok.fresh (aL _))⟩
  exact⟨by rw[len_rep,rT];exact hz,_,r1.rep k.toNat,IsTp.new _ _⟩
end
section
variable{prog:bI}{w:World}{A:cM}{E:Value->aJ->Prop}{s:aJ}
theorem acj{t sl:Addr}{items:Array Value}{vl vu:Value}{lo hi:Option Int}{Q:Value->aJ->Prop}(ht:IsTup s.heap t items)(hs:s.heap.IsSliceOf sl vl vu .none)(pl:pA vl lo)(pu:pA vu hi)
  (h1:HT.sIx items.size 0 lo=0) (h2:HT.sIx items.size items.size hi=items.size) (h:Q (.ref t) s):wpAny (model prog w) A (kZ (.ref t) (.ref sl)) Q E s:=by
 obtain⟨os,hos,hcs,hds⟩:=id hs;have hTs:s.TypeIs (.ref sl) "slice" := ⟨os,hos,hcs⟩;unfold kZ
 try with_reducible refine eQ ?_
 first | refine aA (aF ?_) | skip
 refine aA (wpAny_sequenceKey ht.typeIs (by decide) ?_)
 refine aA (cQ (name:=gJ "__getitem__") ht.typeIs bZ
  (dC bZ ht.typeIs entry_tuple_getitem ?_ (args_tuple_getitem _ _)))
 show wpAny _ _ (jY (.ref t) >>= _) _ _ s;refine aA (tupleItemsOf_ ht ?_);refine aA (wpAny_typeOf hTs ?_);rw[if_pos (by decide)]
 refine aA (HT.aa0 hs pl pu ?_);have hyes:(((HT.sIx items.size 0 lo:Nat):Int)==0&&(1:Int)==1&&(HT.sIx items.size items.size hi - HT.sIx items.size 0 lo)==items.size)=true:=by
  rw[h1,h2];simp
 show wpAny _ _ (if (((HT.sIx items.size 0 lo:Nat):Int)==0&&(1:Int)==1&&(HT.sIx items.size items.size hi - HT.sIx items.size 0 lo)==items.size)=true then _ else _) _ _ s
 rw[if_pos hyes];refine aA (aA (wpAny_typeOf ht.typeIs (aF ?_)));rw[if_pos (by decide)]
 exact aA (gU (aF ⟨_,rfl,aF h⟩))
end
section
variable{X:Cx}
end
section
variable{X:Cx}(K:Fg9)(hK:X.K=K)
include hK
variable{tg:Expr}
end
theorem jl:bN "len" = some (.builtin "len"):=by decide +kernel
theorem agz:bN "all" = some (.builtin "all"):=by decide +kernel
theorem ni:bN "isinstance" = some (.builtin "isinstance"):=by decide +kernel
theorem amn:bN "max" = some (.builtin "max"):=by decide +kernel
theorem a04:bN "min" = some (.builtin "min"):=by decide +kernel
theorem arb:bN "sorted" = some (.builtin "sorted"):=by decide +kernel
theorem arc:bN "divmod" = some (.builtin "divmod"):=by decide +kernel
theorem amo:bN "int" = some (.type "int"):=by decide +kernel
theorem alb:bN "bool" = some (.type "bool"):=by decide +kernel
theorem j7:bN "tuple" = some (.type "tuple"):=by decide +kernel
theorem acq:bN "list" = some (.type "list"):=by decide +kernel
theorem aui:bN "range" = some (.type "range"):=by decide +kernel
theorem a03:bN "set" = some (.type "set"):=by decide +kernel
theorem ajz:bN "enumerate" = some (.type "enumerate"):=by decide +kernel
structure ExcK (K:Fg9) (C:Addr):Prop where
 ga:oY K (.ref C) "__getattribute__" = some (some (.builtin "BaseException.__getattribute__"))
 gh:oY K (.ref C) "__getattr__" = some none
 be:rA K C (.type "BaseException")=some true
 hd:tR K C=true
 cl:oY K (.ref C) "__class__" = some (some (.builtin "object.__class__"))
 sp:lH K (.builtin "object.__class__") "__get__" = some (some (.builtin "getset_descriptor.__get__"))
 tk:pN K (.builtin "object.__class__")=some true
 ob:rA K C (.type "object")=some true
 no:∀T∈["int","bool","tuple","list","str","dict"],lR K (.ref C) (.type T)=some false
theorem ak3{K:Fg9}{C:Addr}{od:Option Obj}{name:Str}{a g:Value}(hc:(lU K C).isSome=true)(ha:oY K (.ref C) name=some (some a))(hg:lH K a "__get__" = some (some g))(ht:pN K a=some true):mK K C od name=some (.bind g a):=by
 obtain⟨cd,hc⟩:=qW.mp hc;unfold mK;rw[hc,uK,ha,uK];simp[hg,ht]
section
variable{prog:bI}{w:World}{A:cM}{E:Value->aJ->Prop}{s:aJ}{K:Fg9}{x D:Addr}{ox:Obj}{od:Option Obj}{name:Str}
theorem at4{fill expr:Bool}{tk:Tok}{Q:Value->aJ->Prop}(X:K.In s.heap)(I:lB s.heap x ox D od)(k:ExcK K D)
  (h:wpAny (model prog w) A.in1 (gH.«object.__getattribute__» ⟨[.ref x,.str name tk],[]⟩)
   (fun fin s'=>match fin with | .done (.ret v)=>wpAny (model prog w) A (handedOut v) Q E s' | _=>False) (fun _ _=>False) s) :
  wpAny (model prog w) A (getAttrBy (.ref x) (.str name tk) fill expr) Q E s:=by
 obtain⟨hh,g,d,t,os⟩:=s;have L0:=I.type (M:=model prog w);have L1:=rZ (M:=model prog w) X k.ga;have L2:=rZ (M:=model prog w) X k.gh;have L3:PySem.W.Looks (model prog w) hh (isInstance (.ref x) (.type "BaseException")) true:=L0.andThen (PySem.W.looks_mroIn X k.be);unfold getAttrBy;refine eQ (aA (L0.at (aA (L1.at ?_))));have hx2:(lO "BaseException.__getattribute__" == lO "object.__getattribute__")=false:=by decide +kernel
 have hx1:(onTheHeap (fJ D)&&lO "BaseException.__getattribute__" == lO "object.__getattribute__")=false:=by rw[hx2,vH]
 simp only[hx1,iB,if_false];unfold getAttrByItsOwn hookBefore;rw[if_pos (show onTheHeap (fJ D)=true from rfl)]
 refine aA ?_;refine L2.at (aA (wpAny_attempt (eQ ?_)));have hx0:(expr&&onTheHeap (lO "BaseException.__getattribute__"))=false:=by cases expr <;> rfl
 unfold callGetattribute;rw[if_neg (by rw[hx0];exact eF)]
 unfold boundAndCalled;refine aA (wpAny_of_eq (rD.ga.bind (.ref x)) ?_);have hk1:builtinKind "BaseException.__getattribute__" = some .slot:=by decide +kernel
 have hs1:splitId "BaseException.__getattribute__" = some ("BaseException","__getattribute__"):=by decide +kernel
 have ha1:=PySem.F.args_bexc_ga (.ref x) (.str name tk);dsimp only[mD,dD];refine wpAny_call (codeAny_call_builtin (id := "BaseException.__getattribute__") (args:=⟨[.ref x,.str name tk],[]⟩) rD.ga.plain PySem.F.entry_bexc_ga ?_);refine PySem.W.check_slot (i := "BaseException.__getattribute__") (owner := "BaseException") (n := "__getattribute__") (self:=.ref x) (rest:=[.str name tk]) (kw:=[]) hk1 hs1 L3 ha1 ?_;refine dG h (fun fin s' z =>?_) fun _ _ z=>z.elim
 rcases fin with(_ | _ | _ | _) | _ <;> first | exact z | exact z.elim
theorem at5{g a:Value}{tk:Tok}{P:Value->aJ->Prop}(X:K.In s.heap)(I:lB s.heap x ox D od)(hf:mK K D od name=some (.bind g a))
  (h:wpAny (model prog w) A (call g [a,.ref x,.ref D]) P E s) :
  wpAny (model prog w) A (gH.«object.__getattribute__» ⟨[.ref x,.str name tk],[]⟩) (fun fin s'=>match fin with | .done (.ret v)=>P v s' | _=>False) E s:=by
 obtain⟨hh,gg,d,t,os⟩:=s;have L0:=I.type (M:=model prog w);have L1:=PySem.W.looks_find (M:=model prog w) X I hf;unfold gH.«object.__getattribute__»
 refine aA (aF (aA (aF (aA (L0.at (aA (L1.at ?_)))))));show wpAny _ _ (Builtin.ObjectAttr.bindTo g a (.ref x) (.ref D)) _ _ _;show wpAny _ _ (kY [a] (call g [a,.ref x,.ref D]) >>= ret) _ _ _;exact aA (eQ (dG h (fun v s' z=>aF z) fun _ _ z=>z))
end
theorem atb{K:Fg9}{x D:Addr}(k:ExcK K D):PySem.W.KitX K (.ref x) (.ref D) (fun h=>∃ox od,lB h x ox D od) where
 ty:=fun _ _ _ ⟨_,_,I⟩=>I.type
 it:=fun _ _ X _=>by
  obtain⟨cdD,hcD,_⟩:=pB k.hd;unfold lU at hcD;split at hcD
  ·rename_i c' d' cd' sl' ho;intro A' Q' E' s' k q;unfold isType loadHead;exact aA (wpAny_loadPart (k _ _ (X _ _ ho)) (aF q))
  ·cases hcD
 ne:=fun h tp dd its n sl X htp=>by
  obtain⟨cdD,hcD,_⟩:=pB k.hd;refine Bool.eq_false_iff.mpr fun q =>?_
  have e:D=tp:=Value.ref.inj (beq_iff_eq.mp q);subst e;unfold lU at hcD;split at hcD
  ·rename_i c' d' cd' sl' ho;have z:=(X _ _ ho).symm.trans htp;cases z
  ·cases hcD
 ca:=fun{prog w A E Q s} X ⟨ox,od,I⟩ q=>by
  have hf:mK K D od "__class__" = some (.bind (.builtin "getset_descriptor.__get__") (.builtin "object.__class__")):=ak3 (by obtain⟨cd,hc,_⟩:=pB k.hd;rw[hc];rfl) k.cl k.sp k.tk
  unfold getAttr? getAttrBy?;refine aA (wpAny_mkText (aA (wpAny_attempt (at4 (s:={ s with toks:=s.toks+1 }) X I k (at5 (s:={ s with toks:=s.toks+1 }) X I hf
   (wpAny_call (PySem.W.class_get (s:={ s with toks:=s.toks+1 }) (ox:=ox) (od:=od) X I k.ob (PySem.W.handed_on rfl (aF q)))))))))
end Mn
namespace Dn
open L2 Mn
inductive D where
 | non | bl (b:Bool) | int (i:Int) | str (x:Str) | tup (l:List D) | lst (l:List D) | kst (l:List D) | dct (kvs:List (Key×D)) | exn (c:Str) (fs:List (Str×Int))
def exO(a C:Addr)(dx:Option Addr):Heap->Prop:=fun h=>∃oe vs,h.get? a=some oe/\oe.cls=.ref C/\oe.dict=dx/\oe.data=.fields vs
section
variable(K:Fg9)(F:Hp)
mutual
inductive Is:D->V->Prop
 | non:Is .non .non
 | bl (b:Bool):Is (.bl b) (.bl b)
 | int (i:Int):Is (.int i) (.int i)
 | str (x:Str):Is (.str x) (.str x)
 | tup {a:Addr} {vs:List V} {ds:List D} (e:F a=some (.tup vs)) (h:IsL ds vs):Is (.tup ds) (.ref a)
 | lst {a:Addr} {vs:List V} {ds:List D} (e:F a=some (.lst vs)) (h:IsL ds vs):Is (.lst ds) (.ref a)
 | kst {a:Addr} {vs:List V} {ds:List D} (e:SqL K F a vs) (h:IsL ds vs):Is (.kst ds) (.ref a)
 | dct {a:Addr} {kvs:List (Key×V)} {ds:List (Key×D)} (e:F a=some (.dK kvs)) (h:IsK ds kvs):Is (.dct ds) (.ref a)
 | exn {a C:Addr} {c:Str} {dx:Option Addr} {fs:List (Str×Int)} (e:F a=some (.ext (exO a C dx))) (hc:nsIn K aO c=some (some (.ref C))) (hk:ExcK K C)
   (hf:(dx=none/\fs=[])∨∃d,dx=some d/\F d=some (.xd (fs.map fun p=>(p.1,V.int p.2)))):Is (.exn c fs) (.ref a)
inductive IsL:List D->List V->Prop
 | nil:IsL [] []
 | cons {d:D} {v:V} {ds:List D} {vs:List V} (h:Is d v) (t:IsL ds vs):IsL (d::ds) (v::vs)
inductive IsK:List (Key×D)->List (Key×V)->Prop
 | nil:IsK [] []
 | cons {k:Key} {d:D} {v:V} {ds:List (Key×D)} {vs:List (Key×V)} (h:Is d v) (t:IsK ds vs):IsK ((k,d)::ds) ((k,v)::vs)
end
end
section
variable{K:Fg9}{F F':Hp}
mutual
theorem Is.mono(g:Same F F'):∀{d:D} {v:V},Is K F d v->Is K F' d v
 | _,_,.non=>.non
 | _,_,.bl b=>.bl b
 | _,_,.int i=>.int i
 | _,_,.str x=>.str x
 | _,_,.tup e h=>.tup (g _ _ e) (IsL.mono g h)
 | _,_,.lst e h=>.lst (g _ _ e) (IsL.mono g h)
 | _,_,.kst e h=>.kst (L2.Same.seq g e) (IsL.mono g h)
 | _,_,.dct e h=>.dct (g _ _ e) (IsK.mono g h)
 | _,_,.exn e hc hk hf=>.exn (g _ _ e) hc hk (hf.imp id fun⟨d,h1,h2⟩=>⟨d,h1,g _ _ h2⟩)
theorem IsL.mono(g:Same F F'):∀{ds:List D} {vs:List V},IsL K F ds vs->IsL K F' ds vs
 | _,_,.nil=>.nil
 | _,_,.cons h t=>.cons (Is.mono g h) (IsL.mono g t)
theorem IsK.mono(g:Same F F'):∀{ds:List (Key×D)} {vs:List (Key×V)},IsK K F ds vs->IsK K F' ds vs
 | _,_,.nil=>.nil
 | _,_,.cons h t=>.cons (Is.mono g h) (IsK.mono g t)
end
theorem IsL.length:∀{ds:List D} {vs:List V},IsL K F ds vs->ds.length=vs.length
 | _,_,.nil=>rfl
 | _,_,.cons _ t=>by simp[IsL.length t]
theorem IsL.append:∀{ds es:List D} {vs ws:List V},IsL K F ds vs->IsL K F es ws->IsL K F (ds++es) (vs++ws)
 | _,_,_,_,.nil,h=>h
 | _,_,_,_,.cons h t,k=>.cons h (IsL.append t k)
theorem IsL.take:∀{ds:List D} {vs:List V} (n:Nat),IsL K F ds vs->IsL K F (ds.take n) (vs.take n)
 | _,_,0,_=>by simpa using IsL.nil
 | _,_,_+1,.nil=>.nil
 | _,_,n+1,.cons h t=>.cons h (IsL.take n t)
theorem IsL.drop:∀{ds:List D} {vs:List V} (n:Nat),IsL K F ds vs->IsL K F (ds.drop n) (vs.drop n)
 | _,_,0,h=>h
 | _,_,_+1,.nil=>.nil
 | _,_,n+1,.cons _ t=>IsL.drop n t
theorem IsL.get:∀{ds:List D} {vs:List V} {i:Nat} {d:D},IsL K F ds vs->ds[i]? = some d->∃v,vs[i]? = some v/\Is K F d v
 | _,_,_,_,.nil,e=>by simp at e
 | _,_,0,_,.cons h _,e=>by simp at e;subst e;exact⟨_,rfl,h⟩
 | _,_,i+1,v,.cons _ t,e=>by
  obtain⟨d,h1,h2⟩:=IsL.get (i:=i) (d:=v) t (by simpa using e)
  exact⟨d,by simpa using h1,h2⟩
theorem IsL.set{d:D}{v:V}(h:Is K F d v):∀{ds:List D} {vs:List V} (i:Nat),IsL K F ds vs->IsL K F (ds.set i d) (vs.set i v)
 | _,_,_,.nil=>.nil
 | _,_,0,.cons _ t=>.cons h t
 | _,_,i+1,.cons q t=>.cons q (IsL.set h i t)
theorem IsL.rep{ds:List D}{vs:List V}(h:IsL K F ds vs):∀k:Nat,IsL K F (aG k ds).flatten (aG k vs).flatten
 | 0=>by simpa using IsL.nil
 | k+1=>by
  rw[eU,eU,gG,gG];exact h.append (IsL.rep h k)
theorem IsL.int_inv:∀{ns:List Int} {vs:List V},IsL K F (ns.map D.int) vs->vs=ns.map V.int
 | [],_,.nil=>rfl
 | n::r,_,.cons (.int _) t=>by rw[aX,IsL.int_inv t]
theorem IsL.bl_inv:∀{ns:List Bool} {vs:List V},IsL K F (ns.map D.bl) vs->vs=ns.map V.bl
 | [],_,.nil=>rfl
 | n::r,_,.cons (.bl _) t=>by rw[aX,IsL.bl_inv t]
theorem aeu:∀ns:List Int,IsL K F (ns.map D.int) (ns.map V.int)
 | []=>.nil
 | n::r=>.cons (.int n) (aeu r)
end
inductive Sl where
 | emp | val (d:D) | own (t:Option Nat) (l:List D) | box (c:Str) (fs:List (Str×(Nat ⊕ D)))
abbrev Ro:=List Sl
def Owns(ρ:Ro)(σ:L2.St)(i:Nat)(a:Addr):Prop:=(∃t l,ρ[i]? = some (.own t l))/\σ[i]? = some (some (.ref a))
def Own(ρ:Ro)(σ:L2.St)(a:Addr):Prop:=∃i,Owns ρ σ i a
def SlOk(K:Fg9)(tg:Nat->Addr)(F H:Hp):Sl->Option V->Prop
 | .emp,_=>True
 | .val d,o=>∃v,o=some v/\Is K F d v
 | .own t l,o=>∃a vs,o=some (.ref a)/\F a=none/\H a=some (.lst vs)/\IsL K F l vs/\∀k,t=some k->tg k=a
 | .box c fs,o=>∃a C dx fvs,o=some (.ref a)/\F a=none/\H a=some (.ins C dx fvs)/\nsIn K aO c=some (some (.ref C))/\(∀f,fs.lookup f=none->fvs.lookup f=none)/\(∀f k,fs.lookup f=some (.inl k)->fvs.lookup f=some (.ref (tg k)))/\∀f d,fs.lookup f=some (.inr d)->∃v,fvs.lookup f=some v/\Is K F d v
structure Good (K:Fg9) (tg:Nat->Addr) (F H:Hp) (ρ:Ro) (σ:L2.St):Prop where
 sub:Same F H
 len:ρ.length=σ.length
 sl:∀(i:Nat) (s:Sl) (o:Option V),ρ[i]? = some s->σ[i]? = some o->SlOk K tg F H s o
 inj:∀(i j:Nat) (a:Addr),Owns ρ σ i a->Owns ρ σ j a->i=j
structure Ext (O O':Addr->Prop) (F H F' H':Hp):Prop where
 sub:Same F F'
 new:∀a o,F' a=some o->F a=some o∨H a=none∨O a
 keep:∀a o,H a=some o->¬O a->H' a=some o
 own:∀a,O' a->O a∨H a=none
 there:∀a,H' a=none->H a=none
theorem Ext.refl(O:Addr->Prop)(F H:Hp):Ext O O F H F H:=⟨fun _ _ e=>e,fun _ _ e=>.inl e,fun _ _ e _=>e,fun _ h=>.inl h,fun _ h=>h⟩
theorem Ext.trans{O O1 O2:Addr->Prop}{F H F1 H1 F2 H2:Hp}(a:Ext O O1 F H F1 H1)(b:Ext O1 O2 F1 H1 F2 H2):Ext O O2 F H F2 H2 where
 sub:=a.sub.trans b.sub
 new:=fun c o e=>by
  rcases b.new c o e with q | q | q
  ·exact a.new c o q
  ·exact .inr (.inl (a.there c q))
  ·rcases a.own c q with z | z
   ·exact .inr (.inr z)
   ·exact .inr (.inl z)
 keep:=fun c o e n=>b.keep c o (a.keep c o e n) fun z=>by
  rcases a.own c z with q | q
  ·exact n q
  ·rw[e] at q;cases q
 own:=fun c z=>by
  rcases b.own c z with q | q
  ·exact a.own c q
  ·exact .inr (a.there c q)
 there:=fun c z=>a.there c (b.there c z)
section
variable{K:Fg9}{tg:Nat->Addr}{F H F' H':Hp}{ρ ρ':Ro}{σ:L2.St}
theorem Good.ownAt(G:Good K tg F H ρ σ){a:Addr}(h:Own ρ σ a):F a=none/\∃vs,H a=some (.lst vs):=by
 obtain⟨i,⟨t,l,e⟩,q⟩:=h;obtain⟨b,vs,e1,f,e2,_⟩:=G.sl i _ _ e q;cases e1;exact⟨f,vs,e2⟩
theorem Good.grow(G:Good K tg F H ρ σ)(s:Same F F')(s':Same F' H')(k:∀a,Own ρ σ a->F' a=none/\H' a=H a)(kb:∀a C dx fvs,F a=none->H a=some (.ins C dx fvs)->F' a=none/\H' a=H a):Good K tg F' H' ρ σ where
 sub:=s'
 len:=G.len
 inj:=G.inj
 sl:=fun i sl o e q=>by
  have z:=G.sl i sl o e q;cases sl with
  | emp=>trivial
  | val d =>
   obtain⟨v,e1,h⟩:=z;exact⟨v,e1,h.mono s⟩
  | box c fs =>
   obtain⟨a,C,dx,fvs,e1,e2,e3,e4,e7,e5,e6⟩:=z;obtain⟨f1,f2⟩:=kb a C dx fvs e2 e3;exact⟨a,C,dx,fvs,e1,f1,f2.trans e3,e4,e7,e5,fun f d h=>(e6 f d h).imp fun v h=>⟨h.1,h.2.mono s⟩⟩
  | own t l =>
   obtain⟨a,vs,e1,f,e2,h,ht⟩:=z;have w:=k a ⟨i,⟨t,l,e⟩,by rw[q,e1]⟩
   exact⟨a,vs,e1,w.1,by rw[w.2];exact e2,h.mono s,ht⟩
theorem Same.put{p:Addr}(s:Same F H)(h:H p=none)(o:HO):Same (upd F p o) (upd H p o):=fun b u e=>by
 by_cases hb:b=p
 ·subst hb;rw[jm] at e ⊢
  exact e
 ·rw[fj hb] at e ⊢
  exact s b u e
theorem Good.freeF(G:Good K tg F H ρ σ){p:Addr}(h:H p=none):F p=none:=by
 cases e:F p with
 | none=>rfl
 | some o=>rw[G.sub p o e] at h;cases h
theorem Good.own_ne(G:Good K tg F H ρ σ){p a:Addr}(h:H p=none)(w:Own ρ σ a):a≠p:=by
 obtain⟨_,vs,e⟩:=G.ownAt w;exact ji e h
theorem Good.new(G:Good K tg F H ρ σ){p:Addr}(h:H p=none)(o:HO):Good K tg (upd F p o) (upd H p o) ρ σ :=
 G.grow (Same.new (G.freeF h) o) (Same.put G.sub h o) (fun a w=>by
  rw[fj (G.own_ne h w),fj (G.own_ne h w)];exact⟨(G.ownAt w).1,rfl⟩) fun a C dx fvs h1 h2=>by
  rw[fj (ji h2 h),fj (ji h2 h)];exact⟨h1,rfl⟩
theorem Good.newX(G:Good K tg F H ρ σ){p:Addr}(h:H p=none)(o:HO):Ext (Own ρ σ) (Own ρ σ) F H (upd F p o) (upd H p o) where
 sub:=Same.new (G.freeF h) o
 new:=fun a u e=>by
  by_cases ha:a=p
  ·subst ha;exact .inr (.inl h)
  ·rw[fj ha] at e;exact .inl e
 keep:=fun a u e _=>by rw[fj (ji e h)];exact e
 own:=fun a w=>.inl w
 there:=fun a e=>by
  by_cases ha:a=p
  ·subst ha;exact h
  ·rw[fj ha] at e;exact e
theorem Good.fresh(G:Good K tg F H ρ σ){p:Addr}(h:H p=none)(o:HO):Good K tg F (upd H p o) ρ σ :=
 G.grow (Same.refl F) (fun b u e=>by rw[fj (ji (G.sub b u e) h)];exact G.sub b u e) (fun a w=>by
  rw[fj (G.own_ne h w)];exact⟨(G.ownAt w).1,rfl⟩) fun a C dx fvs h1 h2=>⟨h1,fj (ji h2 h)⟩
theorem Good.freshX(G:Good K tg F H ρ σ){p:Addr}(h:H p=none)(o:HO):Ext (Own ρ σ) (Own ρ σ) F H F (upd H p o) where
 sub:=Same.refl F
 new:=fun a u e=>.inl e
 keep:=fun a u e _=>by rw[fj (ji e h)];exact e
 own:=fun a w=>.inl w
 there:=fun a e=>by
  by_cases ha:a=p
  ·subst ha;exact h
  ·rw[fj ha] at e;exact e
theorem Good.freeze(G:Good K tg F H ρ σ){p:Addr}{o:HO}(h:H p=some o)(n:¬Own ρ σ p)(hf:F p=none)(hi:∀C dx fs,o≠.ins C dx fs:=by intro _ _ _ z;cases z):Good K tg (upd F p o) H ρ σ :=
 G.grow (Same.new hf o) (fun b u e=>by
  by_cases hb:b=p
  ·subst hb;rw[jm] at e;cases e;exact h
  ·rw[fj hb] at e;exact G.sub b u e) (fun a w=>by
  have:a≠p:=fun z=>n (z▸w)
  rw[fj this];exact⟨(G.ownAt w).1,rfl⟩) fun a C dx fvs h1 h2=>by
  have:a≠p:=fun z=>by
   subst z;rw[h] at h2;exact hi _ _ _ (bK h2)
  rw[fj this];exact⟨h1,rfl⟩
end
end Dn
namespace Dn
open L2 Mn
structure Exn where
 cls:Str
 fs:List (Str×Int)
inductive Out (α:Type) where
 | ok (a:α) | exc (x:Exn)
abbrev M(α:Type):=Ro->Option (Out α×Ro)
noncomputable def M.bind{α β:Type}(m:M α)(k:α->M β):M β:=fun ρ=>match m ρ with
 | some (.ok a,ρ1)=>k a ρ1
 | some (.exc x,ρ1)=>some (.exc x,ρ1)
 | none=>none
noncomputable def ret{α:Type}(a:α):M α:=fun ρ=>some (.ok a,ρ)
noncomputable def lift{α:Type}(o:Option α):M α:=fun ρ=>match o with
 | some a=>some (.ok a,ρ)
 | none=>none
section
variable{α β:Type}
theorem bf{m:M α}{k:α->M β}{ρ ρ2:Ro}{b:β}(h:m.bind k ρ=some (.ok b,ρ2)):∃a ρ1,m ρ=some (.ok a,ρ1)/\k a ρ1=some (.ok b,ρ2):=by
 unfold M.bind at h;split at h
 ·exact⟨_,_,by assumption,h⟩
 ·cases h
 ·cases h
theorem gw{o:Option α}{ρ ρ2:Ro}{b:α}(h:lift o ρ=some (.ok b,ρ2)):o=some b/\ρ2=ρ:=by
 unfold lift at h;split at h
 ·cases h;exact⟨rfl,rfl⟩
 ·cases h
theorem lq{a b:α}{ρ ρ2:Ro}(h:ret a ρ=some (.ok b,ρ2)):a=b/\ρ2=ρ:=by
 unfold ret at h;cases h;exact⟨rfl,rfl⟩
@[simp] theorem a1f(a:α)(k:α->M β):(ret a).bind k=k a:=rfl
@[simp] theorem a0b(a:α):lift (some a)=ret a:=rfl
end
inductive Rv where
 | v (d:D) | fr (l:List D)
 | tf (d:D) (l:List D)
abbrev Rel(α:Type):=α->V->(H:Hp)->(O:Addr->Prop)->(F' H':Hp)->(O':Addr->Prop)->Prop
def relD(K:Fg9):Rel D:=fun d v _ _ F' _ _=>Is K F' d v
def Bor(K:Fg9)(F H:Hp)(d:D)(v:V):Prop:=Is K F d v∨∃a vs l,d=.lst l/\v=.ref a/\H a=some (.lst vs)/\IsL K F l vs
def relB(K:Fg9):Rel D:=fun d v _ _ F' H' _=>Bor K F' H' d v
def relR(K:Fg9):Rel Rv:=fun r v H O F' H' O'=>match r with
 | .v d=>Is K F' d v
 | .fr l=>∃a vs,v=.ref a/\(H a=none∨O a)/\F' a=none/\H' a=some (.lst vs)/\IsL K F' l vs/\¬O' a
 | .tf d l=>∃t u a vs,v=.ref t/\F' t=some (.tup [u,.ref a])/\Is K F' d u/\(H a=none∨O a)/\F' a=none/\H' a=some (.lst vs)/\IsL K F' l vs/\¬O' a
def T{α:Type}(K:Fg9)(rel:Rel α)(m:M α):TE:=fun σ H Q=>∃tg F ρ a ρ',Good K tg F H ρ σ/\m ρ=some (.ok a,ρ') /\
 ∀v H' F',Good K tg F' H' ρ' σ->Ext (Own ρ σ) (Own ρ' σ) F H F' H'->rel a v H (Own ρ σ) F' H' (Own ρ' σ)->Q v H'
structure EV (K:Fg9) (X:Cx) (e:Expr) (m:M D):Prop where
 go:X.K=K->PE X e (T K (relD K) m)
instance {K:Fg9} {X:Cx} {e:Expr} {m:M D}:CoeFun (EV K X e m) fun _=>X.K=K->PE X e (T K (relD K) m):=⟨EV.go⟩
structure EB (K:Fg9) (X:Cx) (e:Expr) (m:M D):Prop where
 go:X.K=K->PE X e (T K (relB K) m)
instance {K:Fg9} {X:Cx} {e:Expr} {m:M D}:CoeFun (EB K X e m) fun _=>X.K=K->PE X e (T K (relB K) m):=⟨EB.go⟩
structure ER (K:Fg9) (X:Cx) (e:Expr) (m:M Rv):Prop where
 go:X.K=K->PE X e (T K (relR K) m)
instance {K:Fg9} {X:Cx} {e:Expr} {m:M Rv}:CoeFun (ER K X e m) fun _=>X.K=K->PE X e (T K (relR K) m):=⟨ER.go⟩
theorem PE.imp{X:Cx}{e:Expr}{t t':TE}(h:PE X e t)(w:∀σ H Q,t' σ H Q->t σ H Q):PE X e t':=fun zv s σ H Q I q=>h zv s σ H Q I (w σ H Q q)
section
variable{K:Fg9}{X:Cx}{e a b:Expr}{pos:Pos}
theorem Bor.of{F H:Hp}{d:D}{v:V}(h:Is K F d v):Bor K F H d v:=.inl h
theorem EV.toB{m:M D}(h:EV K X e m):EB K X e m:=EB.mk fun hk=>PE.imp (h hk) fun σ H Q ⟨tg,F,ρ,d,ρ',G,em,q⟩=>⟨tg,F,ρ,d,ρ',G,em,fun v H' F' G' x r=>q v H' F' G' x (.inl r)⟩
def M.v(m:M D):M Rv:=m.bind fun d=>ret (.v d)
theorem EV.toR{m:M D}(h:EV K X e m):ER K X e m.v:=ER.mk fun hk=>PE.imp (h hk) fun σ H Q hq0=>by
 obtain⟨tg,F,ρ,r,ρ',G,em,q⟩:=hq0;obtain⟨d,ρ1,e1,e2⟩:=bf em;obtain⟨rfl,rfl⟩:=lq e2;exact⟨tg,F,ρ,d,_,G,e1,fun v H' F' G' x r=>q v H' F' G' x r⟩
def Rv.d:Rv->D
 | .v d=>d
 | .fr l=>.lst l
 | .tf d l=>.tup [d,.lst l]
def M.d(m:M Rv):M D:=m.bind fun r=>ret r.d
theorem frz{tg:Nat->Addr}{O:Addr->Prop}{F H F' H':Hp}{ρ':Ro}{σ':L2.St}{r:Rv}{v:V}(G:Good K tg F' H' ρ' σ')(x:Ext O (Own ρ' σ') F H F' H')(h:relR K r v H O F' H' (Own ρ' σ')) :
  ∃F2,Good K tg F2 H' ρ' σ'/\Ext O (Own ρ' σ') F H F2 H'/\Is K F2 r.d v:=by
 cases r with
 | v d=>exact⟨F',G,x,h⟩
 | fr l =>
  obtain⟨a,vs,rfl,ha,hf,hh,hl,hn⟩:=h;refine⟨upd F' a (.lst vs),G.freeze hh hn hf,⟨x.sub.trans (Same.new hf _),fun b o e =>?_,x.keep,x.own,x.there⟩,.lst jm (hl.mono (Same.new hf _))⟩
  by_cases hb:b=a
  ·subst hb;exact .inr ha
  ·rw[fj hb] at e;exact x.new b o e
 | tf d l =>
  obtain⟨t,u,a,vs,rfl,ht,hd,ha,hf,hh,hl,hn⟩:=h;have hta:t≠a:=fun z=>by rw[z,hf] at ht;cases ht
  refine⟨upd F' a (.lst vs),G.freeze hh hn hf,⟨x.sub.trans (Same.new hf _),fun b o e =>?_,x.keep,x.own,x.there⟩,.tup (by rw[fj hta];exact ht) (.cons (hd.mono (Same.new hf _)) (.cons (.lst jm (hl.mono (Same.new hf _))) .nil))⟩
  by_cases hb:b=a
  ·subst hb;exact .inr ha
  ·rw[fj hb] at e;exact x.new b o e
theorem ER.toD{m:M Rv}(h:ER K X e m):EV K X e m.d:=EV.mk fun hk=>PE.imp (h hk) fun σ H Q hq0=>by
 obtain⟨tg,F,ρ,d,ρ',G,em,q⟩:=hq0;obtain⟨r,ρ1,e1,e2⟩:=bf em;obtain⟨rfl,rfl⟩:=lq e2;refine⟨tg,F,ρ,r,_,G,e1,fun v H' F' G' x w =>?_⟩
 obtain⟨F2,G2,x2,i2⟩:=frz G' x w;exact q v H' F2 G2 x2 i2
noncomputable def fc(i:Nat):M D:=fun ρ=>match ρ[i]? with
 | some (.val d)=>some (.ok d,ρ)
 | some (.own _ l)=>some (.ok (.lst l),ρ)
 | _=>none
theorem Good.at{tg:Nat->Addr}{F H:Hp}{ρ:Ro}{σ:L2.St}(G:Good K tg F H ρ σ){i:Nat}{s:Sl}(e:ρ[i]? = some s):∃o,σ[i]? = some o/\SlOk K tg F H s o:=by
 have hi:i < σ.length:=by rw[<-G.len];exact(aM.mp e).1
 exact⟨σ[i],aC hi,G.sl i s _ e (aC hi)⟩
theorem zr{tg:Nat->Addr}{F H:Hp}{ρ ρ':Ro}{σ:L2.St}(G:Good K tg F H ρ σ){i:Nat}{d:D}(em:fc i ρ=some (.ok d,ρ')):ρ'=ρ/\∃v,σ[i]? = some (some v)/\Bor K F H d v:=by
 unfold fc at em;split at em
 ·rename_i d' e';cases em;obtain⟨o,ho,v,rfl,hv⟩:=G.at e';exact⟨rfl,v,ho,.inl hv⟩
 ·rename_i t l e';cases em;obtain⟨o,ho,a,vs,rfl,hf,hh,hl,_⟩:=G.at e';exact⟨rfl,_,ho,.inr ⟨a,vs,l,rfl,rfl,hh,hl⟩⟩
 ·cases em
theorem dq{i:Nat}(h:PE X e (tVar i)):EB K X e (fc i):=EB.mk fun _=>PE.imp h fun σ H Q hq0=>by
 obtain⟨tg,F,ρ,d,ρ',G,em,q⟩:=hq0;obtain⟨rfl,v,ho,hv⟩:=zr G em;exact⟨v,ho,q v H F G (Ext.refl _ _ _) hv⟩
def ajb(i:Nat):M Rv:=fun ρ=>match ρ[i]? with
 | some (.val d)=>some (.ok (.v d),ρ)
 | some (.own none l)=>some (.ok (.fr l),ρ.set i .emp)
 | _=>none
theorem Good.drop{tg:Nat->Addr}{F H:Hp}{ρ:Ro}{σ:L2.St}(G:Good K tg F H ρ σ)(i:Nat):Good K tg F H (ρ.set i .emp) σ:=by
 have sub:∀j t l,(bJ ρ i Sl.emp)[j]? = some (Sl.own t l)->(ρ:List Sl)[j]? = some (Sl.own t l):=fun j t l e=>by
  rw[bL] at e;split at e
  ·split at e <;> cases e
  ·exact e
 refine⟨G.sub,by rw[bU];exact G.len,fun j s o e q =>?_,fun j k a ⟨⟨t,l,e⟩,q⟩ ⟨⟨t',l',e'⟩,q'⟩=>G.inj j k a ⟨⟨t,l,sub _ _ _ e⟩,q⟩ ⟨⟨t',l',sub _ _ _ e'⟩,q'⟩⟩
 rw[bL] at e;split at e
 ·split at e
  ·cases e;trivial
  ·cases e
 ·exact G.sl j s o e q
theorem ac4{ρ:Ro}{σ:L2.St}{i:Nat}{a:Addr}(h:Own (ρ.set i .emp) σ a):Own ρ σ a/\∀t l,ρ[i]? = some (.own t l)->∀(inj:∀i j a,Owns ρ σ i a->Owns ρ σ j a->i=j),¬Owns ρ σ i a:=by
 obtain⟨j,⟨t,l,e⟩,q⟩:=h;rw[bL] at e;split at e
 ·split at e <;> cases e
 ·rename_i hne;have w:Owns ρ σ j a:=⟨⟨t,l,e⟩,q⟩;exact⟨⟨j,w⟩,fun t' l' _ inj z=>hne (inj _ _ _ z w)⟩
theorem af1{i:Nat}(h:PE X e (tVar i)):ER K X e (ajb i):=ER.mk fun _=>PE.imp h fun σ H Q hq0=>by
 obtain⟨tg,F,ρ,d,ρ',G,em,q⟩:=hq0;unfold ajb at em;split at em
 ·rename_i d' e';cases em;obtain⟨o,ho,v,rfl,hv⟩:=G.at e';exact⟨v,ho,q v H F G (Ext.refl _ _ _) hv⟩
 ·rename_i l e';cases em;obtain⟨o,ho,a,vs,rfl,hf,hh,hl,_⟩:=G.at e';have w:Owns ρ σ i a:=⟨⟨_,_,e'⟩,ho⟩;refine⟨_,ho,q _ H F (G.drop i) ⟨Same.refl _,fun _ _ e=>.inl e,fun _ _ e _=>e,fun b z=>.inl (ac4 z).1,fun _ z=>z⟩ ⟨a,vs,rfl,.inr ⟨i,w⟩,hf,hh,hl,fun z=>(ac4 z).2 _ _ e' G.inj w⟩⟩
 ·cases em
noncomputable def mVar(i:Nat):M D:=fun ρ=>match ρ[i]? with
 | some (.val d)=>some (.ok d,ρ)
 | some (.own none l)=>some (.ok (.lst l),ρ.set i (.val (.lst l)))
 | _=>none
theorem asr{ρ:Ro}{σ:L2.St}{i:Nat}{d:D}{a:Addr}(h:Own (ρ.set i (.val d)) σ a):Own (ρ.set i .emp) σ a:=by
 obtain⟨j,⟨t,l,e⟩,q⟩:=h;refine⟨j,⟨t,l,?_⟩,q⟩;rw[bL] at e ⊢
 split at e
 ·split at e <;> cases e
 ·rename_i hne;rw[if_neg hne];exact e
theorem Good.setv{tg:Nat->Addr}{F H:Hp}{ρ:Ro}{σ:L2.St}{i:Nat}{d:D}{v:V}(G:Good K tg F H (ρ.set i .emp) σ)(e:σ[i]? = some (some v))(h:Is K F d v):Good K tg F H (ρ.set i (.val d)) σ:=by
 have sub:∀j t l,(bJ ρ i (Sl.val d))[j]? = some (Sl.own t l)->(bJ ρ i Sl.emp)[j]? = some (Sl.own t l):=fun j t l z=>by
  rw[bL] at z ⊢
  split at z
  ·split at z <;> cases z
  ·rename_i hne;rw[if_neg hne];exact z
 refine⟨G.sub,by have:=G.len;rw[bU] at this ⊢;exact this,fun j s o z q =>?_,fun j k a ⟨⟨t,l,z⟩,q⟩ ⟨⟨t',l',z'⟩,q'⟩=>G.inj j k a ⟨⟨t,l,sub _ _ _ z⟩,q⟩ ⟨⟨t',l',sub _ _ _ z'⟩,q'⟩⟩
 by_cases hij:i=j
 ·subst hij;rw[bL,if_pos rfl] at z;split at z
  ·cases z;rw[e] at q;cases q;exact⟨v,rfl,h⟩
  ·cases z
 ·refine G.sl j s o ?_ q;rw[bL,if_neg hij] at z ⊢
  exact z
theorem az{i:Nat}(h:PE X e (tVar i)):EV K X e (mVar i):=EV.mk fun _=>PE.imp h fun σ H Q hq0=>by
 obtain⟨tg,F,ρ,d,ρ',G,em,q⟩:=hq0;unfold mVar at em;split at em
 ·rename_i d' e';cases em;obtain⟨o,ho,v,rfl,hv⟩:=G.at e';exact⟨v,ho,q v H F G (Ext.refl _ _ _) hv⟩
 ·rename_i l e';cases em;obtain⟨o,ho,a,vs,rfl,hf,hh,hl,_⟩:=G.at e';have w:Owns ρ σ i a:=⟨⟨_,_,e'⟩,ho⟩;have nown:¬Own (ρ.set i .emp) σ a:=fun z=>(ac4 z).2 _ _ e' G.inj w
  have G2:=(G.drop i).freeze hh nown hf;have i2:Is K (upd F a (.lst vs)) (.lst l) (.ref a):=.lst jm (hl.mono (Same.new hf _));refine⟨_,ho,q _ H _ (G2.setv ho i2) ⟨Same.new hf _,fun b o z =>?_,fun _ _ z _=>z,fun b z=>.inl (ac4 (asr z)).1,fun _ z=>z⟩ i2⟩
  by_cases hb:b=a
  ·subst hb;exact .inr (.inr ⟨i,w⟩)
  ·rw[fj hb] at z;exact .inl z
 ·cases em
theorem ev_c{d:D}{v:V}(h:PE X e (tC v))(hi:∀F,Is K F d v):EV K X e (ret d):=EV.mk fun _=>PE.imp h fun σ H Q hq0=>by
 obtain⟨tg,F,ρ,d',ρ',G,em,q⟩:=hq0;obtain⟨rfl,rfl⟩:=lq em;exact q v H F G (Ext.refl _ _ _) (hi F)
theorem ao{i:Int}{j:Nat}:EV K X (.Constant (.int i) j pos) (ret (.int i)):=ev_c azf fun _=>.int i
theorem aat{i:Bool}{j:Nat}:EV K X (.Constant (.bool i) j pos) (ret (.bl i)):=ev_c a3x fun _=>.bl i
theorem aqm{j:Nat}:EV K X (.Constant .none j pos) (ret .non):=ev_c azd fun _=>.non
theorem amc{i:Str}{j:Nat}:EV K X (.Constant (.str i) j pos) (ret (.str i)):=ev_c ay9 fun _=>.str i
def T2(K:Fg9)(m:M (D×D))(σ:L2.St)(H:Hp)(R:V->V->Hp->Prop):Prop:=∃tg F ρ p ρ',Good K tg F H ρ σ/\m ρ=some (.ok p,ρ') /\
 ∀x y H' F',Good K tg F' H' ρ' σ->Ext (Own ρ σ) (Own ρ' σ) F H F' H'->Bor K F' H' p.1 x->Bor K F' H' p.2 y->R x y H'
structure E2 (K:Fg9) (X:Cx) (a b:Expr) (m:M (D×D)):Prop where
 go:X.K=K->∃ta tb,PE X a ta/\PE X b tb/\∀σ H R,T2 K m σ H R->ta σ H fun x H1=>tb σ H1 fun y H2=>R x y H2
instance {K:Fg9} {X:Cx} {a b:Expr} {m:M (D×D)}:CoeFun (E2 K X a b m) fun _=>X.K=K->∃ta tb,PE X a ta/\PE X b tb/\∀σ H R,T2 K m σ H R->ta σ H fun x H1=>tb σ H1 fun y H2=>R x y H2:=⟨E2.go⟩
def fu(m1 m2:M D):M (D×D):=m1.bind fun x=>m2.bind fun y=>ret (x,y)
def bu(i:Nat)(m2:M D):M (D×D):=(fc i).bind fun _=>m2.bind fun y=>(fc i).bind fun x=>ret (x,y)
theorem e2_v{m1 m2:M D}(ha:EV K X a m1)(hb:EB K X b m2):E2 K X a b (fu m1 m2):=E2.mk fun hk=>⟨_,_,ha hk,hb hk,fun σ H R hq0=>by
 obtain⟨tg,F,ρ,p,ρ',G,em,q⟩:=hq0;obtain⟨d1,ρ1,e1,em⟩:=bf em;obtain⟨d2,ρ2,e2,em⟩:=bf em;obtain⟨rfl,rfl⟩:=lq em;exact⟨tg,F,ρ,d1,ρ1,G,e1,fun x H1 F1 G1 x1 r1=>⟨tg,F1,ρ1,d2,_,G1,e2,fun y H2 F2 G2 x2 r2=>q x y H2 F2 G2 (x1.trans x2) (.inl (r1.mono x2.sub)) r2⟩⟩⟩
theorem e2_n{i:Nat}{m2:M D}(ha:PE X a (tVar i))(hb:EB K X b m2):E2 K X a b (bu i m2):=E2.mk fun hk=>⟨_,_,ha,hb hk,fun σ H R hq0=>by
 obtain⟨tg,F,ρ,p,ρ',G,em,q⟩:=hq0;obtain⟨d0,ρ0,e0,em⟩:=bf em;obtain⟨d2,ρ2,e2,em⟩:=bf em;obtain⟨d1,ρ1,e1,em⟩:=bf em;obtain⟨rfl,rfl⟩:=lq em;obtain⟨rfl,v,hv,_⟩:=zr G e0;exact⟨v,hv,tg,F,ρ0,d2,ρ2,G,e2,fun y H2 F2 G2 x2 r2=>by
  obtain⟨rfl,v',hv',b'⟩:=zr G2 e1;rw[hv] at hv';cases hv';exact q v y H2 F2 G2 x2 b' r2⟩⟩
end
section
variable{K:Fg9}{X:Cx}{e a b c:Expr}{es:List Expr}{pos p:Pos}
section
variable{F H:Hp}{x:V}
theorem Bor.lst{l:List D}(g:Same F H)(h:Bor K F H (.lst l) x):∃a vs,x=.ref a/\H a=some (.lst vs)/\IsL K F l vs:=by
 rcases h with h | ⟨a,vs,l',e1,e2,e3,h⟩
 ·cases h with
  | lst e h=>exact⟨_,_,rfl,g _ _ e,h⟩
 ·cases e1;exact⟨a,vs,e2,e3,h⟩
theorem Bor.tup{l:List D}(h:Bor K F H (.tup l) x):∃a vs,x=.ref a/\F a=some (.tup vs)/\IsL K F l vs:=by
 rcases h with h | ⟨a,vs,l',e1,_⟩
 ·cases h with
  | tup e h=>exact⟨_,_,rfl,e,h⟩
 ·cases e1
theorem Bor.kst{l:List D}(h:Bor K F H (.kst l) x):∃a vs,x=.ref a/\SqL K F a vs/\IsL K F l vs:=by
 rcases h with h | ⟨a,vs,l',e1,_⟩
 ·cases h with
  | kst e h=>exact⟨_,_,rfl,e,h⟩
 ·cases e1
theorem Bor.int{i:Int}(h:Bor K F H (.int i) x):x=.int i:=by
 rcases h with h | ⟨a,vs,l',e1,_⟩
 ·cases h;rfl
 ·cases e1
theorem Bor.bl{i:Bool}(h:Bor K F H (.bl i) x):x=.bl i:=by
 rcases h with h | ⟨a,vs,l',e1,_⟩
 ·cases h;rfl
 ·cases e1
theorem Bor.str{i:Str}(h:Bor K F H (.str i) x):x=.str i:=by
 rcases h with h | ⟨a,vs,l',e1,_⟩
 ·cases h;rfl
 ·cases e1
theorem Bor.non(h:Bor K F H .non x):x=.non:=by
 rcases h with h | ⟨a,vs,l',e1,_⟩
 ·cases h;rfl
 ·cases e1
end
def Res(K:Fg9)(tg:Nat->Addr)(F H:Hp)(ρ:Ro)(σ:L2.St)(r:Rv)(Q:VK):Prop :=
 ∀v H' F',Good K tg F' H' ρ σ->Ext (Own ρ σ) (Own ρ σ) F H F' H'->relR K r v H (Own ρ σ) F' H' (Own ρ σ)->Q v H'
section
variable{tg:Nat->Addr}{F H:Hp}{ρ:Ro}{σ:L2.St}{Q:VK}
theorem Res.same{d:D}{v:V}(G:Good K tg F H ρ σ)(q:Res K tg F H ρ σ (.v d) Q)(h:Is K F d v):Q v H:=q v H F G (Ext.refl _ _ _) h
theorem Res.tup{l:List D}{vs:List V}(G:Good K tg F H ρ σ)(q:Res K tg F H ρ σ (.v (.tup l)) Q)(h:IsL K F l vs){p:Addr}(hp:H p=none):Q (.ref p) (upd H p (.tup vs)) :=
 q _ _ _ (G.new hp _) (G.newX hp _) (.tup jm (h.mono (Same.new (G.freeF hp) _)))
theorem Res.lst{l:List D}{vs:List V}(G:Good K tg F H ρ σ)(q:Res K tg F H ρ σ (.fr l) Q)(h:IsL K F l vs){p:Addr}(hp:H p=none):Q (.ref p) (upd H p (.lst vs)) :=
 q _ _ _ (G.fresh hp _) (G.freshX hp _) ⟨p,vs,rfl,.inl hp,G.freeF hp,jm,h,fun z=>G.own_ne hp z rfl⟩
end
def rOf(K:Fg9)(g:D->D->Option Rv):R2:=fun x y H Q=>∃tg F ρ σ d1 d2 r,Good K tg F H ρ σ/\Bor K F H d1 x/\Bor K F H d2 y/\g d1 d2=some r/\Res K tg F H ρ σ r Q
structure OpD (K:Fg9) (X:Cx) (f:Value->Value->Sem Value) (g:D->D->Option Rv):Prop where
 go:X.K=K->OpR X f (rOf K g)
instance {K:Fg9} {X:Cx} {f:Value->Value->Sem Value} {g:D->D->Option Rv}:CoeFun (OpD K X f g) fun _=>X.K=K->OpR X f (rOf K g):=⟨OpD.go⟩
def mOp(g:D->D->Option Rv)(m:M (D×D)):M Rv:=m.bind fun p=>lift (g p.1 p.2)
theorem alv{g:D->D->Option Rv}{m:M (D×D)}{ta tb:TE}(h:∀σ H R,T2 K m σ H R->ta σ H fun x H1=>tb σ H1 fun y H2=>R x y H2)(σ:L2.St)(H:Hp)(Q:VK)(t:T K (relR K) (mOp g m) σ H Q):tOp (rOf K g) ta tb σ H Q:=by
 obtain⟨tg,F,ρ,r,ρ',G,em,q⟩:=t;obtain⟨p,ρ1,e1,em⟩:=bf em;obtain⟨e2,rfl⟩:=gw em;refine h σ H _ ⟨tg,F,ρ,p,_,G,e1,fun x y H' F' G' x' bx by'=>⟨tg,F',_,σ,p.1,p.2,r,G',bx,by',e2,fun v H2 F2 G2 x2 rr=>q v H2 F2 G2 (x'.trans x2) ?_⟩⟩
 cases r with
 | v d=>exact rr
 | fr l =>
  obtain⟨a,vs,ev,ha,w⟩:=rr;refine⟨a,vs,ev,?_,w⟩;rcases ha with ha | ha
  ·exact .inl (x'.there a ha)
  ·exact(x'.own a ha).symm
 | tf d l =>
  obtain⟨t,u,a,vs,ev,ht,hd,ha,w⟩:=rr;refine⟨t,u,a,vs,ev,ht,hd,?_,w⟩;rcases ha with ha | ha
  ·exact .inl (x'.there a ha)
  ·exact(x'.own a ha).symm
theorem cg{op:Operator}{g:D->D->Option Rv}{m:M (D×D)}(ho:OpD K X (fH op) g)(h:E2 K X a b m):ER K X (.BinOp a op b pos) (mOp g m):=ER.mk fun hk=>by
 obtain⟨ta,tb,ha,hb,h⟩:=h hk;exact PE.imp (a3t (ho hk) ha hb) (alv h)
theorem adk{op:CmpOp}{g:D->D->Option Rv}{m:M (D×D)}(ho:OpD K X (dZ op) g)(h:E2 K X a b m)(hm:gK op b=false):ER K X (.Compare a [op] [b] pos) (mOp g m):=ER.mk fun hk=>by
 obtain⟨ta,tb,ha,hb,h⟩:=h hk;exact PE.imp (awb (ho hk) ha hb hm) (alv h)
def capS:Nat:=16777216
theorem af8{n:Nat}(h:n<=capS):n<=bV:=by rw[gA];exact h
def gAdd:D->D->Option Rv
 | .int i,.int j=>some (.v (.int (i+j)))
 | .tup l,.tup k=>if l.length+k.length<=capS then some (.v (.tup (l++k))) else none
 | .lst l,.lst k=>if l.length+k.length<=capS then some (.fr (l++k)) else none
 | .str i,.str j=>if i.length+j.length<=capS then some (.v (.str (i++j))) else none
 | _,_=>none
theorem gq:OpD K X (fH .Add) gAdd:=OpD.mk fun hk=>by
 intro zv s σ0 H x y v u Q I rx ry ⟨tg,F,ρ,σ,d1,d2,r,G,b1,b2,eg,q⟩;subst hk;unfold gAdd at eg;split at eg
 ·cases eg;obtain rfl:=b1.int;obtain rfl:=b2.int;exact azo zv s σ0 H _ _ v u Q I rx ry ⟨_,_,rfl,rfl,Res.same G q (.int _)⟩
 ·split at eg
  ·rename_i hz;cases eg;obtain⟨a1,vs1,rfl,s1,i1⟩:=b1.tup;obtain⟨a2,vs2,rfl,s2,i2⟩:=b2.tup;have l1:=i1.length;have l2:=i2.length
   by_cases hx:vs1=[]
   ·subst hx;cases i1;cases rx;cases ry;obtain⟨its,r1,p1,_⟩:=I.tuple (SqT.of (G.sub _ _ s1));obtain⟨its2,r2,p2,_⟩:=I.tuple (SqT.of (G.sub _ _ s2));exact aud p1 p2 (r1.nil_iff.mpr rfl) ⟨.ref a2,H,I,rfl,Res.same G q (.tup s2 i2)⟩
   ·refine awi zv s σ0 H _ _ v u Q I rx ry ⟨a1,a2,vs1,vs2,rfl,rfl,SqT.of (G.sub _ _ s1),SqT.of (G.sub _ _ s2),hx,by rw[<-l1,<-l2];exact af8 hz,fun e =>?_,fun _ p hp=>Res.tup G q (i1.append i2) hp⟩
    subst e;cases i2;exact Res.same G q (.tup s1 (by simpa using i1))
  ·cases eg
 ·split at eg
  ·rename_i hz;cases eg;obtain⟨a1,vs1,rfl,s1,i1⟩:=b1.lst G.sub;obtain⟨a2,vs2,rfl,s2,i2⟩:=b2.lst G.sub;have l1:=i1.length;have l2:=i2.length;exact azn zv s σ0 H _ _ v u Q I rx ry ⟨a1,a2,vs1,vs2,rfl,rfl,s1,s2,by rw[<-l1,<-l2];exact af8 hz,fun p hp=>Res.lst G q (i1.append i2) hp⟩
  ·cases eg
 ·split at eg
  ·rename_i hz;cases eg;obtain rfl:=b1.str;obtain rfl:=b2.str;exact anf zv s σ0 H _ _ v u Q I rx ry ⟨_,_,rfl,rfl,af8 hz,Res.same G q (.str _)⟩
  ·cases eg
 ·cases eg
def gInt(f:Int->Int->Option Int):D->D->Option Rv
 | .int i,.int j=>(f i j).map fun k=>.v (.int k)
 | _,_=>none
theorem akk{op:Operator}{f:Int->Int->Option Int}{C:Int->Int->Prop}{g:Int->Int->Int}(h:OpR X (fH op) (rI C fun i j=>.int (g i j)))(hf:∀i j k,f i j=some k->C i j/\k=g i j):OpD K X (fH op) (gInt f):=OpD.mk fun hk=>by
 intro zv s σ0 H x y v u Q I rx ry ⟨tg,F,ρ,σ,d1,d2,r,G,b1,b2,eg,q⟩;unfold gInt at eg;split at eg
 ·rename_i i j;obtain rfl:=b1.int;obtain rfl:=b2.int;cases z:f i j with
  | none=>rw[z] at eg;cases eg
  | some k =>
   rw[z] at eg;cases eg;obtain⟨h1,rfl⟩:=hf i j k z;exact h zv s σ0 H _ _ v u Q I rx ry ⟨_,_,rfl,rfl,h1,Res.same G q (.int _)⟩
 ·cases eg
def fSub(i j:Int):Option Int:=some (i - j)
def fMul(i j:Int):Option Int:=if (-18446744073709551616 < i/\i < 18446744073709551616)∨(-18446744073709551616 < j/\j < 18446744073709551616) then some (i*j) else none
theorem azt{i j:Int}(h0:0 < j)(h:j < 1000000000000000000000000000000000000000000000000000000000000):pL i j=false:=by
 have e2:(2:Nat) ^ 200=1606938044258990275541962092341162602522202993782792835301376:=by decide +kernel
 have hl:j.natAbs.log2 < 200:=(Nat.log2_lt (by omega)).2 (by rw[e2];omega)
 have hd:¬(j.natAbs.log2 / 30+1 > 300):=by omega
 have hj:(j==0)=false:=by
  rw[beq_eq_false_iff_ne];omega
 unfold pL;simp only[hj,iB,if_false,hd,decide_false,qR]
theorem asw:OpR X (fH .FloorDiv) (rI (fun _ j=>0 < j/\j < 1000000000000000000000000000000000000000000000000000000000000) fun i j=>.int (i / j)):=opI fun i j _ _ _ _ _ hc q=>by
 have h1:(0:Int) < j:=hc.1;exact floordiv_int (by omega) (by rw[qI i (by omega)];exact q) (.inl (azt hc.1 hc.2))
def fDiv(i j:Int):Option Int:=if 0 < j/\j < 1000000000000000000000000000000000000000000000000000000000000 then some (i / j) else none
def fMod(i j:Int):Option Int:=if 0 < j then some (i % j) else none
def fPow(i j:Int):Option Int:=if 0<=j/\j<=1000000/\i.natAbs < 18446744073709551616 then some (i ^ j.toNat) else none
theorem m7:OpD K X (fH .Sub) (gInt fSub):=OpD.mk fun hk=>by
 intro zv s σ0 H x y v u Q I rx ry ⟨tg,F,ρ,σ,d1,d2,r,G,b1,b2,eg,q⟩;unfold gInt at eg;split at eg
 ·obtain rfl:=b1.int;obtain rfl:=b2.int;cases eg;exact azi zv s σ0 H _ _ v u Q I rx ry ⟨_,_,rfl,rfl,Res.same G q (.int _)⟩
 ·cases eg
end
mutual
def toPy:D->PyData
 | .non=>.none
 | .bl b=>.bool b
 | .int i=>.int i
 | .str x=>.str x
 | .tup l=>.tuple (ado l)
 | .lst l=>.list (ado l)
 | .kst l=>.list (ado l)
 | .dct _=>.dict []
 | .exn _ _=>.dict []
def ado:List D->List PyData
 | []=>[]
 | d::r=>toPy d::ado r
end
def okD:Nat->D->Bool
 | _,.non=>true
 | _,.bl _=>true
 | _,.int _=>true
 | _,.str x=>PyData.strOk x
 | n+1,.tup l=>l.all (okD n)
 | n+1,.lst l=>l.all (okD n)
 | n+1,.kst l=>l.all (okD n)
 | _,_=>false
theorem ahq{n:Nat}(ih:∀d,okD n d=true->(toPy d).canLay0=true/\(toPy d).depth<=n):∀l:List D,l.all (okD n)=true->tU (ado l)=true/\uP (ado l)<=n
 | [],_=>⟨rfl,dJ _⟩
 | d::r,h=>by
  rw[jQ,bA] at h;obtain⟨h1,h2⟩:=ih d h.1;obtain⟨h3,h4⟩:=ahq ih r h.2;refine⟨?_,?_⟩
  ·show(PyData.canLay0 (toPy d)&&tU (ado r))=true;rw[h1,h3];rfl
  ·show max (PyData.depth (toPy d)) (uP (ado r))<=n;omega
theorem aa9:∀(n:Nat) (d:D),okD n d=true->(toPy d).canLay0=true/\(toPy d).depth<=n
 | n,.non,_=>⟨rfl,dJ _⟩
 | n,.bl _,_=>⟨rfl,dJ _⟩
 | n,.int _,_=>⟨rfl,dJ _⟩
 | n,.str x,h=>by
  refine⟨?_,dJ _⟩;cases n <;> exact h
 | n+1,.tup l,h=>by
  obtain⟨h1,h2⟩:=ahq (aa9 n) l h;exact⟨h1,lZ h2⟩
 | n+1,.lst l,h=>by
  obtain⟨h1,h2⟩:=ahq (aa9 n) l h;exact⟨h1,lZ h2⟩
 | n+1,.kst l,h=>by
  obtain⟨h1,h2⟩:=ahq (aa9 n) l h;exact⟨h1,lZ h2⟩
 | 0,.tup l,h=>by cases h
 | 0,.lst l,h=>by cases h
 | 0,.kst l,h=>by cases h
 | 0,.dct l,h=>by cases h
 | n+1,.dct l,h=>by cases h
 | 0,.exn _ _,h=>by cases h
 | n+1,.exn _ _,h=>by cases h
def eqD(a b:D):Bool:=oN (toPy a) (toPy b)
def eqDs:List D->List D->Bool
 | [],[]=>true
 | a::r,b::t=>eqD a b&&eqDs r t
 | _,_=>false
theorem aqn:∀a b:List D,vL (ado a) (ado b)=eqDs a b
 | [],[]=>rfl
 | a::r,b::t=>by
  show(oN (toPy a) (toPy b)&&vL (ado r) (ado t))=_;rw[aqn r t];rfl
 | [],_::_=>rfl
 | _::_,[]=>rfl
section
variable{K:Fg9}{X:Cx}
section
variable{zv:List (Addr×Obj)}{σ:L2.St}{F H:Hp}{s:aJ}
mutual
theorem ac1(I:Inv X zv σ H s)(g:Same F H):∀{n:Nat} {d:D} {v:V} {u:Value},Is X.K F d v->okD n d=true->RelV v u->∃as,Reads s.heap u (toPy d) as
 | _,_,_,_,.non,_,r=>by cases r;exact⟨_,.none⟩
 | _,_,_,_,.bl b,_,r=>by cases r;exact⟨_,.bool b⟩
 | _,_,_,_,.int i,_,r=>by obtain⟨t,rfl⟩:=r;exact⟨_,.int i t⟩
 | _,_,_,_,.str i,_,r=>by obtain⟨t,rfl⟩:=r;exact⟨_,.str i t⟩
 | 0,_,_,_,.tup e h,k,r=>by cases k
 | n+1,_,_,_,.tup e h,k,r=>by
  cases r;obtain⟨its,rv,p1,_⟩:=I.tuple (SqT.of (g _ _ e));obtain⟨o,ho,hc,m,hd⟩:=p1;obtain⟨as,ra⟩:=aa8 I g h k rv;exact⟨_,.tuple ho hc hd (by simpa using ra)⟩
 | 0,_,_,_,.lst e h,k,r=>by cases k
 | n+1,_,_,_,.lst e h,k,r=>by
  cases r;obtain⟨its,rv,p1,_⟩:=I.list (SqL.of (g _ _ e));obtain⟨o,ho,hc,m,hd⟩:=p1.isList;obtain⟨as,ra⟩:=aa8 I g h k rv;exact⟨_,.list ho hc hd (by simpa using ra)⟩
 | 0,_,_,_,.kst e h,k,r=>by cases k
 | n+1,_,_,_,.kst e h,k,r=>by
  cases r;obtain⟨its,rv,p1,_⟩:=I.list (L2.Same.seq g e);obtain⟨o,ho,hc,m,hd⟩:=p1.isList;obtain⟨as,ra⟩:=aa8 I g h k rv;exact⟨_,.list ho hc hd (by simpa using ra)⟩
 | 0,_,_,_,.dct e h,k,r=>by cases k
 | n+1,_,_,_,.dct e h,k,r=>by cases k
 | 0,_,_,_,.exn ..,k,r=>by cases k
 | n+1,_,_,_,.exn ..,k,r=>by cases k
theorem aa8(I:Inv X zv σ H s)(g:Same F H):∀{n:Nat} {ds:List D} {vs:List V} {us:List Value},IsL X.K F ds vs->ds.all (okD n)=true->Vals vs us->∃as,ReadsAll s.heap us (ado ds) as
 | _,_,_,_,.nil,_,r=>by cases r;exact⟨_,.nil⟩
 | n,_,_,_,.cons h t,k,r=>by
  rw[jQ,bA] at k;cases r with
  | cons r1 r2 =>
   obtain⟨as,ra⟩:=ac1 I g h k.1 r1;obtain⟨bs,rb⟩:=aa8 I g t k.2 r2;exact⟨_,.cons ra rb⟩
end
theorem aac(I:Inv X zv σ H s)(g:Same F H){n:Nat}{d:D}{v:V}{u:Value}(h:Bor X.K F H d v)(k:okD n d=true)(r:RelV v u):∃as,Reads s.heap u (toPy d) as:=by
 rcases h with h | ⟨a,vs,l,rfl,rfl,e,h⟩
 ·exact ac1 I g h k r
 ·cases r;cases n with
  | zero=>cases k
  | succ n =>
   obtain⟨its,rv,p1,_⟩:=I.list (SqL.of e);obtain⟨o,ho,hc,m,hd⟩:=p1.isList;obtain⟨as,ra⟩:=aa8 I g h k rv;exact⟨_,.list ho hc hd (by simpa using ra)⟩
end
def gEq(neg:Bool)(a b:D):Option Rv:=if okD 30 a&&okD 30 b then some (.v (.bl (if neg then !eqD a b else eqD a b))) else none
theorem agq(hu:X.A.units+64 < cLine):OpD K X (dZ .Eq) (gEq false):=OpD.mk fun hk=>by
 intro zv s σ0 H x y v u Q I rx ry ⟨tg,F,ρ,σ,d1,d2,r,G,b1,b2,eg,q⟩;subst hk;unfold gEq at eg;split at eg
 ·rename_i ho;rw[bA] at ho;cases eg;obtain⟨as,ra⟩:=aac I G.sub b1 ho.1 rx;obtain⟨bs,rb⟩:=aac I G.sub b2 ho.2 ry;obtain⟨c1,p1⟩:=aa9 _ _ ho.1;obtain⟨c2,p2⟩:=aa9 _ _ ho.2;exact PySem.SeqAt.compareEq_reads ra rb c1 c2 (by omega) ⟨.bl _,H,I,rfl,Res.same G q (.bl _)⟩
 ·cases eg
theorem alr(hu:X.A.units+64 < cLine):OpD K X (dZ .NotEq) (gEq true):=OpD.mk fun hk=>by
 intro zv s σ0 H x y v u Q I rx ry ⟨tg,F,ρ,σ,d1,d2,r,G,b1,b2,eg,q⟩;subst hk;unfold gEq at eg;split at eg
 ·rename_i ho;rw[bA] at ho;cases eg;obtain⟨as,ra⟩:=aac I G.sub b1 ho.1 rx;obtain⟨bs,rb⟩:=aac I G.sub b2 ho.2 ry;obtain⟨c1,p1⟩:=aa9 _ _ ho.1;obtain⟨c2,p2⟩:=aa9 _ _ ho.2;exact PySem.SeqAt.compareNe_reads ra rb c1 c2 (by omega) ⟨.bl _,H,I,rfl,Res.same G q (.bl _)⟩
 ·cases eg
def itemsD:D->Option (List D)
 | .tup l=>some l
 | .lst l=>some l
 | .kst l=>some l
 | _=>none
def gIn(neg:Bool)(a b:D):Option Rv:=match itemsD b with
 | some l=>if okD 30 a&&l.all (okD 30) then some (.v (.bl (if neg then !l.any (fun y=>eqD y a) else l.any (fun y=>eqD y a)))) else none
 | none=>none
open Classical in
noncomputable def aa3(h:Heap)(dx:PyData)(u:Value):Bool:=decide (∃d as,Reads h u d as/\d.canLay0=true/\oN d dx=true)
open Classical in
theorem ah6{h:Heap}{dx d:PyData}{u:Value}{as:List Addr}(r:Reads h u d as)(c:d.canLay0=true):aa3 h dx u=oN d dx:=by
 unfold aa3;cases e:oN d dx with
 | true=>exact decide_eq_true ⟨d,as,r,c,e⟩
 | false =>
  refine decide_eq_false ?_
  rintro⟨d',as',r',c',e'⟩
  rw[<-PySem.SeqAt.Reads.unique d d' u as as' c r r'] at e';rw[e] at e';cases e'
theorem aam{zv:List (Addr×Obj)}{σ:L2.St}{F H:Hp}{s:aJ}(I:Inv X zv σ H s)(g:Same F H){a:D}{n:Nat}:∀{ds:List D} {vs:List V} {us:List Value},IsL X.K F ds vs->ds.all (okD n)=true->Vals vs us ->
  us.any (aa3 s.heap (toPy a))=ds.any (fun y=>eqD y a)/\∀u∈us,∃d as,Reads s.heap u d as/\d.canLay0=true/\d.depth<=n
 | _,_,_,.nil,_,r=>by cases r;exact⟨rfl,fun u hu=>by cases hu⟩
 | _,_,_,.cons h t,k,r=>by
  rw[jQ,bA] at k;cases r with
  | cons r1 r2 =>
   obtain⟨as,ra⟩:=ac1 I g h k.1 r1;obtain⟨c,p⟩:=aa9 _ _ k.1;obtain⟨e,z⟩:=aam I g (a:=a) t k.2 r2;refine⟨?_,fun u hu =>?_⟩
   ·rw[vO,vO,e,ah6 ra c];rfl
   ·rcases aV.mp hu with rfl | hu
    ·exact⟨_,as,ra,c,p⟩
    ·exact z u hu
theorem aaj{s:aJ}{A:cM}(hu:A.units+64 < cLine){us:List Value}{a:D}{v:Value}{as:List Addr}(ra:Reads s.heap v (toPy a) as)(ka:okD 30 a=true)(z:∀u∈us,∃d as,Reads s.heap u d as/\d.canLay0=true/\d.depth<=30) :
  ∀u∈us,SeqAt.EqAt A.in1 s u v (aa3 s.heap (toPy a) u):=fun u hm=>by
 obtain⟨d,bs,rb,c,p⟩:=z u hm;obtain⟨c2,p2⟩:=aa9 _ _ ka;rw[ah6 rb c];refine PySem.SeqAt.eqAt_reads d (toPy a) A.in1 s u v bs as rb ra c c2 ?_;show A.units+1+_ < _;omega
theorem ajp{a b:D}{neg:Bool}{r:Rv}(h:gIn neg a b=some r):∃l,itemsD b=some l/\okD 30 a=true/\l.all (okD 30)=true/\r=.v (.bl (if neg then !l.any (fun y=>eqD y a) else l.any (fun y=>eqD y a))):=by
 unfold gIn at h;split at h
 ·rename_i l e;split at h
  ·rename_i ho;rw[bA] at ho;cases h;exact⟨l,e,ho.1,ho.2,rfl⟩
  ·cases h
 ·cases h
theorem ae2{F H:Hp}{d:D}{l:List D}{x:V}(g:Same F H)(e:itemsD d=some l)(h:Bor K F H d x):∃a vs,x=.ref a/\IsL K F l vs/\(SqL K H a vs∨SqT K H a vs):=by
 cases d with
 | tup k =>
  cases e;obtain⟨a,vs,rfl,e,h⟩:=h.tup;exact⟨a,vs,rfl,h,.inr (SqT.of (g _ _ e))⟩
 | lst k =>
  cases e;obtain⟨a,vs,rfl,e,h⟩:=h.lst g;exact⟨a,vs,rfl,h,.inl (SqL.of e)⟩
 | kst k =>
  cases e;obtain⟨a,vs,rfl,e,h⟩:=h.kst;exact⟨a,vs,rfl,h,.inl (L2.Same.seq g e)⟩
 | _=>cases e
theorem apj(hu:X.A.units+64 < cLine):OpD K X (dZ .In) (gIn false):=OpD.mk fun hk=>by
 intro zv s σ0 H x y v u Q I rx ry ⟨tg,F,ρ,σ,d1,d2,r,G,b1,b2,eg,q⟩;subst hk;obtain⟨l,e,k1,k2,rfl⟩:=ajp eg;obtain⟨as,ra⟩:=aac I G.sub b1 k1 rx;obtain⟨p,vs,rfl,hl,hs⟩:=ae2 G.sub e b2;cases ry;rcases hs with hs | hs
 ·obtain⟨its,rv,pl,_⟩:=I.list hs;obtain⟨ea,z⟩:=aam I G.sub (a:=d1) hl k2 rv;refine SeqAt.in_listAt (aa3 s.heap (toPy d1)) pl.isList (fun w hw=>aaj hu ra k1 z w (by simpa using hw)) ⟨.bl _,H,I,rfl,?_⟩
  rw[show its.toArray.any (aa3 s.heap (toPy d1))=its.any (aa3 s.heap (toPy d1)) by simp,ea]
  exact Res.same G q (.bl _)
 ·obtain⟨its,rv,pl,_⟩:=I.tuple hs;obtain⟨ea,z⟩:=aam I G.sub (a:=d1) hl k2 rv;refine SeqAt.in_tupleAt (aa3 s.heap (toPy d1)) pl (fun w hw=>aaj hu ra k1 z w (by simpa using hw)) ⟨.bl _,H,I,rfl,?_⟩
  rw[show its.toArray.any (aa3 s.heap (toPy d1))=its.any (aa3 s.heap (toPy d1)) by simp,ea]
  exact Res.same G q (.bl _)
theorem aiv(hu:X.A.units+64 < cLine):OpD K X (dZ .NotIn) (gIn true):=OpD.mk fun hk=>by
 intro zv s σ0 H x y v u Q I rx ry ⟨tg,F,ρ,σ,d1,d2,r,G,b1,b2,eg,q⟩;subst hk;obtain⟨l,e,k1,k2,rfl⟩:=ajp eg;obtain⟨as,ra⟩:=aac I G.sub b1 k1 rx;obtain⟨p,vs,rfl,hl,hs⟩:=ae2 G.sub e b2;cases ry;rcases hs with hs | hs
 ·obtain⟨its,rv,pl,_⟩:=I.list hs;obtain⟨ea,z⟩:=aam I G.sub (a:=d1) hl k2 rv;refine SeqAt.notIn_listAt (aa3 s.heap (toPy d1)) pl.isList (fun w hw=>aaj hu ra k1 z w (by simpa using hw)) ⟨.bl _,H,I,rfl,?_⟩
  rw[show its.toArray.any (aa3 s.heap (toPy d1))=its.any (aa3 s.heap (toPy d1)) by simp,ea]
  exact Res.same G q (.bl _)
 ·obtain⟨its,rv,pl,_⟩:=I.tuple hs;obtain⟨ea,z⟩:=aam I G.sub (a:=d1) hl k2 rv;refine SeqAt.notIn_tupleAt (aa3 s.heap (toPy d1)) pl (fun w hw=>aaj hu ra k1 z w (by simpa using hw)) ⟨.bl _,H,I,rfl,?_⟩
  rw[show its.toArray.any (aa3 s.heap (toPy d1))=its.any (aa3 s.heap (toPy d1)) by simp,ea]
  exact Res.same G q (.bl _)
end
end Dn
namespace Dn
open L2 Mn
section
variable{K:Fg9}{X:Cx}{e a b c:Expr}{es:List Expr}{pos p:Pos}
theorem akl:OpD K X (fH .FloorDiv) (gInt fDiv):=akk asw fun i j k h=>by
 unfold fDiv at h;split at h
 ·cases h;exact⟨by assumption,rfl⟩
 ·cases h
theorem xg:OpD K X (fH .Mod) (gInt fMod):=akk azm fun i j k h=>by
 unfold fMod at h;split at h
 ·cases h;exact⟨by assumption,rfl⟩
 ·cases h
theorem api:OpD K X (fH .Pow) (gInt fPow):=akk azk fun i j k h=>by
 unfold fPow at h;split at h
 ·rename_i hc;cases h;exact⟨⟨hc.1,hc.2.1,hc.2.2⟩,rfl⟩
 ·cases h
def gMul:D->D->Option Rv
 | .int i,.int j=>(fMul i j).map fun k=>.v (.int k)
 | .tup l,.int k=>if k=1 then some (.v (.tup l)) else if l≠[]/\2<=k/\k < 9223372036854775808/\l.length*k.toNat<=capS then some (.v (.tup (aG k.toNat l).flatten)) else none
 | .lst l,.int k=>if k.natAbs < 9223372036854775808/\l.length*k.toNat<=capS then some (.fr (aG k.toNat l).flatten) else none
 | _,_=>none
theorem ahk:OpD K X (fH .Mult) gMul:=OpD.mk fun hk=>by
 intro zv s σ0 H x y v u Q I rx ry ⟨tg,F,ρ,σ,d1,d2,r,G,b1,b2,eg,q⟩;subst hk;unfold gMul at eg;split at eg
 ·rename_i i j;obtain rfl:=b1.int;obtain rfl:=b2.int;unfold fMul at eg;split at eg
  ·rename_i hc;cases eg;exact azl zv s σ0 H _ _ v u Q I rx ry ⟨_,_,rfl,rfl,hc,Res.same G q (.int _)⟩
  ·cases eg
 ·rename_i l k;split at eg
  ·rename_i hk1;subst hk1;cases eg;obtain⟨a1,vs1,rfl,s1,i1⟩:=b1.tup;obtain rfl:=b2.int;exact awh zv s σ0 H _ _ v u Q I rx ry ⟨a1,vs1,rfl,rfl,G.sub _ _ s1,Res.same G q (.tup s1 i1)⟩
  split at eg
  ·rename_i hc;obtain⟨h0,h2,h3,hz⟩:=hc;cases eg;obtain⟨a1,vs1,rfl,s1,i1⟩:=b1.tup;obtain rfl:=b2.int;have l1:=i1.length;refine asu zv s σ0 H _ _ v u Q I rx ry ⟨a1,vs1,k,rfl,rfl,G.sub _ _ s1,?_,h2,h3,by rw[<-l1];exact af8 hz,fun p hp=>Res.tup G q (i1.rep _) hp⟩
   intro z;subst z;cases i1;exact h0 rfl
  ·cases eg
 ·rename_i l k;split at eg
  ·rename_i hc;obtain⟨hab,hz⟩:=hc;have h0 : -9223372036854775808<=k:=by omega
   have h2:k < 9223372036854775808:=by omega
   cases eg;obtain⟨a1,vs1,rfl,s1,i1⟩:=b1.lst G.sub;obtain rfl:=b2.int;have l1:=i1.length;exact azj zv s σ0 H _ _ v u Q I rx ry ⟨a1,k,vs1,rfl,rfl,s1,h0,h2,by rw[<-l1];exact af8 hz,fun p hp=>Res.lst G q (i1.rep _) hp⟩
  ·cases eg
 ·cases eg
def gCmp(f:Int->Int->Bool):D->D->Option Rv
 | .int i,.int j=>some (.v (.bl (f i j)))
 | _,_=>none
theorem akm{op:CmpOp}{f:Int->Int->Bool}(h:OpR X (dZ op) (rI0 fun i j=>.bl (f i j))):OpD K X (dZ op) (gCmp f):=OpD.mk fun hk=>by
 intro zv s σ0 H x y v u Q I rx ry ⟨tg,F,ρ,σ,d1,d2,r,G,b1,b2,eg,q⟩;unfold gCmp at eg;split at eg
 ·cases eg;obtain rfl:=b1.int;obtain rfl:=b2.int;exact h zv s σ0 H _ _ v u Q I rx ry ⟨_,_,rfl,rfl,Res.same G q (.bl _)⟩
 ·cases eg
theorem als:OpD K X (dZ .Lt) (gCmp fun i j=>decide (i < j)):=akm a3z
theorem alu:OpD K X (dZ .Gt) (gCmp fun i j=>decide (j < i)):=akm a4a
theorem ab7:OpD K X (dZ .GtE) (gCmp fun i j=>decide (j<=i)):=akm a4b
def gNeg:D->Option D
 | .int i=>some (.int (-i))
 | _=>none
def mUn(g:D->Option D)(m:M D):M D:=m.bind fun d=>lift (g d)
theorem zg{m:M D}(h:EV K X a m):EV K X (.UnaryOp .USub a pos) (mUn gNeg m):=EV.mk fun hk=>PE.imp (a3s aye (h hk)) fun σ H Q hq0=>by
 obtain⟨tg,F,ρ,d,ρ',G,em,q⟩:=hq0;obtain⟨d1,ρ1,e1,em⟩:=bf em;obtain⟨e2,rfl⟩:=gw em;refine⟨tg,F,ρ,d1,_,G,e1,fun v H' F' G' x r =>?_⟩
 cases d1 with
 | int i =>
  cases e2;cases r;exact⟨i,rfl,q _ H' F' G' x (.int _)⟩
 | _=>cases e2
def asB:D->Option Bool
 | .bl b=>some b
 | _=>none
def gNot(d:D):Option D:=(asB d).map fun k=>.bl (!k)
theorem amw{d:D}{k:Bool}(h:asB d=some k):d=.bl k:=by
 cases d with
 | bl b=>cases h;rfl
 | _=>cases h
theorem au4{m:M D}(h:EV K X a m):EV K X (.UnaryOp .Not a pos) (mUn gNot m):=EV.mk fun hk=>PE.imp (azc (h hk)) fun σ H Q hq0=>by
 obtain⟨tg,F,ρ,d,ρ',G,em,q⟩:=hq0;obtain⟨d1,ρ1,e1,em⟩:=bf em;obtain⟨e2,rfl⟩:=gw em;refine⟨tg,F,ρ,d1,_,G,e1,fun v H' F' G' x r =>?_⟩
 cases d1 with
 | bl i =>
  cases e2;cases r;exact⟨i,rfl,q _ H' F' G' x (.bl _)⟩
 | _=>cases e2
def mAnd(m1 m2:M D):M D:=m1.bind fun d=>(lift (asB d)).bind fun k=>if k=true then m2 else ret (.bl false)
def mOr(m1 m2:M D):M D:=m1.bind fun d=>(lift (asB d)).bind fun k=>if k=true then ret (.bl true) else m2
theorem agv{op}{m:M D}(h:EV K X a m):EV K X (.BoolOp op [a] pos) m:=EV.mk fun hk=>azb (h hk)
theorem agw{m1 m2:M D}{rest:List Expr}(h1:EV K X a m1)(h2:EV K X (.BoolOp .And (b::rest) pos) m2):EV K X (.BoolOp .And (a::b::rest) pos) (mAnd m1 m2):=EV.mk fun hk=>PE.imp (azh (h1 hk) (h2 hk)) fun σ H Q hq0=>by
 obtain⟨tg,F,ρ,d,ρ',G,em,q⟩:=hq0;obtain⟨d1,ρ1,e1,em⟩:=bf em;obtain⟨k,ρ2,e2,em⟩:=bf em;obtain⟨e3,rfl⟩:=gw e2;obtain rfl:=amw e3;refine⟨tg,F,ρ,_,_,G,e1,fun v H' F' G' x r =>?_⟩
 cases r;refine⟨k,rfl,?_⟩;cases k with
 | true=>exact iteT ⟨tg,F',_,d,ρ',G',em,fun v2 H2 F2 G2 x2 r2=>q v2 H2 F2 G2 (x.trans x2) r2⟩
 | false =>
  obtain⟨rfl,rfl⟩:=lq (show ret (D.bl false) _=_ from em)
  exact iteF (q _ H' F' G' x (.bl _))
def TB(K:Fg9)(m:M Bool):TT:=fun σ H Q=>∃tg F ρ k ρ',Good K tg F H ρ σ/\m ρ=some (.ok k,ρ')/\∀H' F',Good K tg F' H' ρ' σ->Ext (Own ρ σ) (Own ρ' σ) F H F' H'->Q k H'
structure ET (K:Fg9) (X:Cx) (e:Expr) (m:M Bool):Prop where
 go:X.K=K->PT X e (TB K m)
instance {K:Fg9} {X:Cx} {e:Expr} {m:M Bool}:CoeFun (ET K X e m) fun _=>X.K=K->PT X e (TB K m):=⟨ET.go⟩
structure EW (K:Fg9) (X:Cx) (e:Expr) (m:M Bool):Prop where
 go:X.K=K->PW X e (TB K m)
instance {K:Fg9} {X:Cx} {e:Expr} {m:M Bool}:CoeFun (EW K X e m) fun _=>X.K=K->PW X e (TB K m):=⟨EW.go⟩
theorem PT.imp{t t':TT}(h:PT X e t)(w:∀σ H Q,t' σ H Q->t σ H Q):PT X e t':=fun zv s σ H Q I q=>h zv s σ H Q I (w σ H Q q)
theorem PW.imp{t t':TT}(h:PW X e t)(w:∀σ H Q,t' σ H Q->t σ H Q):PW X e t':=fun wh zv s σ H Q I q=>h wh zv s σ H Q I (w σ H Q q)
theorem EW.pt{m:M Bool}(h:EW K X e m):ET K X e m:=ET.mk fun hk=>(h hk).pt
def vz(m:M D):M Bool:=m.bind fun d=>lift (asB d)
theorem ar5{m:M D}(σ:L2.St)(H:Hp)(Q:Bool->Hp->Prop)(t:TB K (vz m) σ H Q):tB (T K (relD K) m) σ H Q:=by
 obtain⟨tg,F,ρ,k,ρ',G,em,q⟩:=t;obtain⟨d1,ρ1,e1,em⟩:=bf em;obtain⟨e3,rfl⟩:=gw em;obtain rfl:=amw e3;refine⟨tg,F,ρ,_,_,G,e1,fun v H' F' G' x r =>?_⟩
 cases r;exact⟨k,rfl,q H' F' G' x⟩
theorem vq{m:M D}(h:EV K X e m)(he:∀whole,isTrue e X.env whole=(do let v <-whole;standAt e.pos;kY [v] (truthy v)):=by intro _;rfl):ET K X e (vz m):=ET.mk fun hk=>PT.imp (ay0 (h hk) he) ar5
def mz(g:D->D->Option Rv)(m:M (D×D)):M Bool:=vz (mOp g m).d
theorem n8{op:CmpOp}{g:D->D->Option Rv}{m:M (D×D)}(ho:OpD K X (dZ op) g)(h:E2 K X a b m)(hm:gK op b=false):ET K X (.Compare a [op] [b] pos) (mz g m):=ET.mk fun hk=>by
 obtain⟨ta,tb,ha,hb,h⟩:=h hk;refine PT.imp (avw (ho hk) ha hb hm) fun σ H Q t =>?_
 obtain⟨tg,F,ρ,k,ρ',G,em,q⟩:=t;obtain⟨d1,ρ1,e1,em⟩:=bf em;obtain⟨e3,rfl⟩:=gw em;obtain rfl:=amw e3;obtain⟨r,ρ2,e1,em⟩:=bf e1;obtain⟨er,rfl⟩:=lq em;refine alv h σ H _ ⟨tg,F,ρ,r,_,G,e1,fun v H' F' G' x w =>?_⟩
 cases r with
 | v d =>
  have er:d=.bl k:=er;subst er;have w:Is K F' (.bl k) v:=w;cases w;exact⟨k,rfl,q H' F' G' x⟩
 | fr l=>cases er
 | tf d l=>cases er
def ab4(m:M Bool):M Bool:=m.bind fun k=>ret (!k)
theorem zj{m:M Bool}(h:ET K X a m):ET K X (.UnaryOp .Not a pos) (ab4 m):=ET.mk fun hk=>PT.imp (ay1 (h hk)) fun σ H Q hq0=>by
 obtain⟨tg,F,ρ,k,ρ',G,em,q⟩:=hq0;obtain⟨d1,ρ1,e1,em⟩:=bf em;obtain⟨rfl,rfl⟩:=lq em;exact⟨tg,F,ρ,d1,_,G,e1,fun H' F' G' x=>q H' F' G' x⟩
def apt(m1 m2:M Bool):M Bool:=m1.bind fun k=>if k=true then m2 else ret false
def mOrB(m1 m2:M Bool):M Bool:=m1.bind fun k=>if k=true then ret true else m2
theorem ak4{m:M Bool}(h:ET K X a m):EW K X (.BoolOp .And [a] pos) m:=EW.mk fun hk=>avv (h hk)
theorem amb{m:M Bool}(h:ET K X a m):EW K X (.BoolOp .Or [a] pos) m:=EW.mk fun hk=>ayt (h hk)
theorem aql{m1 m2:M Bool}{rest:List Expr}(h1:ET K X a m1)(h2:EW K X (.BoolOp .And (b::rest) pos) m2):EW K X (.BoolOp .And (a::b::rest) pos) (apt m1 m2):=EW.mk fun hk=>PW.imp (ayu (h1 hk) (h2 hk)) fun σ H Q hq0=>by
 obtain⟨tg,F,ρ,d,ρ',G,em,q⟩:=hq0;obtain⟨k,ρ1,e1,em⟩:=bf em;refine⟨tg,F,ρ,k,_,G,e1,fun H' F' G' x =>?_⟩
 cases k with
 | true=>exact iteT ⟨tg,F',_,d,ρ',G',em,fun H2 F2 G2 x2=>q H2 F2 G2 (x.trans x2)⟩
 | false =>
  obtain⟨rfl,rfl⟩:=lq (show ret false _=_ from em)
  exact iteF (q H' F' G' x)
theorem at6{m1 m2:M Bool}{rest:List Expr}(h1:ET K X a m1)(h2:EW K X (.BoolOp .Or (b::rest) pos) m2):EW K X (.BoolOp .Or (a::b::rest) pos) (mOrB m1 m2):=EW.mk fun hk=>PW.imp (a3o (h1 hk) (h2 hk)) fun σ H Q hq0=>by
 obtain⟨tg,F,ρ,d,ρ',G,em,q⟩:=hq0;obtain⟨k,ρ1,e1,em⟩:=bf em;refine⟨tg,F,ρ,k,_,G,e1,fun H' F' G' x =>?_⟩
 cases k with
 | false=>exact iteF ⟨tg,F',_,d,ρ',G',em,fun H2 F2 G2 x2=>q H2 F2 G2 (x.trans x2)⟩
 | true =>
  obtain⟨rfl,rfl⟩:=lq (show ret true _=_ from em)
  exact iteT (q H' F' G' x)
def ajd(f g:Int->Int->Bool)(m1 m2 m3:M D):M D:=m1.bind fun x=>m2.bind fun y=>match x,y with
 | .int i,.int j=>if f i j=true then m3.bind fun z=>match z with
  | .int k=>ret (.bl (g j k))
  | _=>lift none
  else ret (.bl false)
 | _,_=>lift none
theorem aq1{f g:Int->Int->Bool}{m1 m2 m3:M D}(σ:L2.St)(H:Hp)(Q:VK)(t:T K (relD K) (ajd f g m1 m2 m3) σ H Q) :
  aul (rI0 fun i j=>.bl (f i j)) (rI0 fun i j=>.bl (g i j)) (T K (relD K) m1) (T K (relD K) m2) (T K (relD K) m3) σ H Q:=by
 obtain⟨tg,F,ρ,d,ρ',G,em,q⟩:=t;obtain⟨d1,ρ1,e1,em⟩:=bf em;obtain⟨d2,ρ2,e2,em⟩:=bf em;have bad:∀{ρ:Ro},(lift (none:Option D)) ρ=some (.ok d,ρ')->False:=fun z=>by
  obtain⟨z,_⟩:=gw z;cases z
 cases d1 with
 | int i =>
  cases d2 with
  | int j =>
   refine⟨tg,F,ρ,_,ρ1,G,e1,fun v H1 F1 G1 x1 r1=>⟨tg,F1,ρ1,_,ρ2,G1,e2,fun v2 H2 F2 G2 x2 r2 =>?_⟩⟩
   cases r1;cases r2;refine⟨i,j,rfl,rfl,f i j,rfl,?_⟩;have em:(if f i j=true then m3.bind fun z=>match z with
    | .int k=>ret (.bl (g j k))
    | _=>lift none
    else ret (.bl false)) ρ2=some (.ok d,ρ'):=em
   by_cases hf:f i j=true
   ·rw[if_pos hf] at em ⊢
    obtain⟨d3,ρ3,e3,em⟩:=bf em;refine⟨tg,F2,ρ2,d3,ρ3,G2,e3,fun v3 H3 F3 G3 x3 r3 =>?_⟩
    cases d3 with
    | int k =>
     obtain⟨rfl,rfl⟩:=lq (show ret (D.bl (g j k)) _=_ from em)
     cases r3;exact⟨j,k,rfl,rfl,q _ H3 F3 G3 ((x1.trans x2).trans x3) (.bl _)⟩
    | _=>exact(bad em).elim
   ·rw[if_neg hf] at em ⊢
    obtain⟨rfl,rfl⟩:=lq em;exact q _ H2 F2 G2 (x1.trans x2) (.bl _)
  | _=>exact(bad em).elim
 | _=>cases d2 <;> exact(bad em).elim
theorem ame{op op':CmpOp}{f g:Int->Int->Bool}{m1 m2 m3:M D}(ho:OpR X (dZ op) (rI0 fun i j=>.bl (f i j)))(ho':OpR X (dZ op') (rI0 fun i j=>.bl (g i j)))(h1:EV K X a m1)(h2:EV K X b m2)(h3:EV K X c m3)
  (hm:lastMarks [op,op'] [b,c]=false:=by with_unfolding_all rfl):EV K X (.Compare a [op,op'] [b,c] pos) (ajd f g m1 m2 m3):=EV.mk fun hk=>PE.imp (asq ho ho' (h1 hk) (h2 hk) (h3 hk) hm) aq1
def mIf{α:Type}(m:M Bool)(m1 m2:M α):M α:=m.bind fun k=>if k=true then m1 else m2
end
section
variable{K:Fg9}{X:Cx}{e a b c:Expr}{es:List Expr}{pos p p2:Pos}
def TL(K:Fg9)(m:M (List D)):TA:=fun σ H Q=>∃tg F ρ ds ρ',Good K tg F H ρ σ/\m ρ=some (.ok ds,ρ')/\∀vs H' F',Good K tg F' H' ρ' σ->Ext (Own ρ σ) (Own ρ' σ) F H F' H'->IsL K F' ds vs->Q vs H'
structure ED (K:Fg9) (X:Cx) (es:List Expr) (m:M (List D)):Prop where
 go:X.K=K->PA X es (TL K m)
instance {K:Fg9} {X:Cx} {es:List Expr} {m:M (List D)}:CoeFun (ED K X es m) fun _=>X.K=K->PA X es (TL K m):=⟨ED.go⟩
theorem PA.imp{t t':TA}(h:PA X es t)(w:∀σ H Q,t' σ H Q->t σ H Q):PA X es t':=fun ps zv s σ H Q I q=>h ps zv s σ H Q I (w σ H Q q)
def mNil:M (List D):=ret []
def au(m:M D)(ms:M (List D)):M (List D):=m.bind fun d=>ms.bind fun ds=>ret (d::ds)
theorem bw:ED K X [] mNil:=ED.mk fun _=>PA.imp aej fun σ H Q hq0=>by
 obtain⟨tg,F,ρ,ds,ρ',G,em,q⟩:=hq0;obtain⟨rfl,rfl⟩:=lq em;exact q [] H F G (Ext.refl _ _ _) .nil
theorem aj{m:M D}{ms:M (List D)}(h:EV K X e m)(t:ED K X es ms)(hs:aW (e::es) X.env=(false,eval e X.env)::aW es X.env:=by rfl):ED K X (e::es) (au m ms):=ED.mk fun hk=>PA.imp (ur (h hk) (t hk) hs) fun σ H Q hq0=>by
 obtain⟨tg,F,ρ,ds,ρ',G,em,q⟩:=hq0;obtain⟨d,ρ1,e1,em⟩:=bf em;obtain⟨r,ρ2,e2,em⟩:=bf em;obtain⟨rfl,rfl⟩:=lq em;exact⟨tg,F,ρ,d,ρ1,G,e1,fun v H1 F1 G1 x1 r1=>⟨tg,F1,ρ1,r,_,G1,e2,fun vs H2 F2 G2 x2 r2=>q _ H2 F2 G2 (x1.trans x2) (.cons (r1.mono x2.sub) r2)⟩⟩
def gTup(ds:List D):Option D:=if ds.length<=capS then some (.tup ds) else none
def gLst(ds:List D):Option Rv:=if ds.length<=capS then some (.fr ds) else none
def mTup(m:M (List D)):M D:=m.bind fun ds=>lift (gTup ds)
def mLst(m:M (List D)):M Rv:=m.bind fun ds=>lift (gLst ds)
theorem jn{k}{m:M (List D)}(h:ED K X es m):EV K X (.Tuple es k pos) (mTup m):=EV.mk fun hk=>PE.imp (aur (h hk)) fun σ H Q hq0=>by
 obtain⟨tg,F,ρ,d,ρ',G,em,q⟩:=hq0;obtain⟨ds,ρ1,e1,em⟩:=bf em;obtain⟨e2,rfl⟩:=gw em;unfold gTup at e2;split at e2
 ·rename_i hz;cases e2;refine⟨tg,F,ρ,ds,_,G,e1,fun vs H1 F1 G1 x1 r1=>⟨by rw[<-r1.length];exact af8 hz,fun p hp=>q _ _ _ (G1.new hp _) (x1.trans (G1.newX hp _)) (.tup jm (r1.mono (Same.new (G1.freeF hp) _)))⟩⟩
 ·cases e2
theorem qp{m:M (List D)}(h:ED K X es m):ER K X (.List es pos) (mLst m):=ER.mk fun hk=>PE.imp (aze (h hk)) fun σ H Q hq0=>by
 obtain⟨tg,F,ρ,d,ρ',G,em,q⟩:=hq0;obtain⟨ds,ρ1,e1,em⟩:=bf em;obtain⟨e2,rfl⟩:=gw em;unfold gLst at e2;split at e2
 ·rename_i hz;cases e2;refine⟨tg,F,ρ,ds,_,G,e1,fun vs H1 F1 G1 x1 r1=>⟨by rw[<-r1.length];exact af8 hz,fun p hp=>q _ _ _ (G1.fresh hp _) (x1.trans (G1.freshX hp _)) ⟨p,vs,rfl,.inl (x1.there p hp),G1.freeF hp,jm,r1,fun z=>G1.own_ne hp z rfl⟩⟩⟩
 ·cases e2
theorem at7{x:Str}{n:Int}{j1 j2:Nat}{p1 p2:Pos}:EV K X (.Dict [some (.Constant (.str x) j1 p1)] [.Constant (.int n) j2 p2] pos) (ret (.dct [(jU x,.int n)])):=EV.mk fun _=>PE.imp asp fun σ H Q hq0=>by
 obtain⟨tg,F,ρ,d,ρ',G,em,q⟩:=hq0;obtain⟨rfl,rfl⟩:=lq em;exact fun p hp=>q _ _ _ (G.new hp _) (G.newX hp _) (.dct jm (.cons (.int n) .nil))
inductive BorL (K:Fg9) (F H:Hp):List D->List V->Prop
 | nil:BorL K F H [] []
 | cons {d:D} {v:V} {ds:List D} {vs:List V} (h:Bor K F H d v) (t:BorL K F H ds vs):BorL K F H (d::ds) (v::vs)
def TA'(K:Fg9)(m:M (List D)):TA:=fun σ H Q=>∃tg F ρ ds ρ',Good K tg F H ρ σ/\m ρ=some (.ok ds,ρ')/\∀vs H' F',Good K tg F' H' ρ' σ->Ext (Own ρ σ) (Own ρ' σ) F H F' H'->BorL K F' H' ds vs->Q vs H'
structure EA (K:Fg9) (X:Cx) (es:List Expr) (m:M (List D)):Prop where
 go:X.K=K->PA X es (TA' K m)
instance {K:Fg9} {X:Cx} {es:List Expr} {m:M (List D)}:CoeFun (EA K X es m) fun _=>X.K=K->PA X es (TA' K m):=⟨EA.go⟩
def f9(i:Nat)(ms:M (List D)):M (List D):=(fc i).bind fun _=>ms.bind fun ds=>(fc i).bind fun d=>ret (d::ds)
theorem cj:EA K X [] mNil:=EA.mk fun _=>PA.imp aej fun σ H Q hq0=>by
 obtain⟨tg,F,ρ,ds,ρ',G,em,q⟩:=hq0;obtain⟨rfl,rfl⟩:=lq em;exact q [] H F G (Ext.refl _ _ _) .nil
theorem ea_v{m:M D}{ms:M (List D)}(h:EV K X e m)(t:EA K X es ms)(hs:aW (e::es) X.env=(false,eval e X.env)::aW es X.env:=by rfl):EA K X (e::es) (au m ms):=EA.mk fun hk=>PA.imp (ur (h hk) (t hk) hs) fun σ H Q hq0=>by
 obtain⟨tg,F,ρ,ds,ρ',G,em,q⟩:=hq0;obtain⟨d,ρ1,e1,em⟩:=bf em;obtain⟨r,ρ2,e2,em⟩:=bf em;obtain⟨rfl,rfl⟩:=lq em;exact⟨tg,F,ρ,d,ρ1,G,e1,fun v H1 F1 G1 x1 r1=>⟨tg,F1,ρ1,r,_,G1,e2,fun vs H2 F2 G2 x2 r2=>q _ H2 F2 G2 (x1.trans x2) (.cons (.inl (r1.mono x2.sub)) r2)⟩⟩
theorem ea_n{i:Nat}{ms:M (List D)}(h:PE X e (tVar i))(t:EA K X es ms)(hs:aW (e::es) X.env=(false,eval e X.env)::aW es X.env:=by rfl):EA K X (e::es) (f9 i ms):=EA.mk fun hk=>PA.imp (ur h (t hk) hs) fun σ H Q hq0=>by
 obtain⟨tg,F,ρ,ds,ρ',G,em,q⟩:=hq0;obtain⟨d0,ρ0,e0,em⟩:=bf em;obtain⟨r,ρ2,e2,em⟩:=bf em;obtain⟨d,ρ1,e1,em⟩:=bf em;obtain⟨rfl,rfl⟩:=lq em;obtain⟨rfl,v,hv,_⟩:=zr G e0;exact⟨v,hv,tg,F,ρ0,r,_,G,e2,fun vs H2 F2 G2 x2 r2=>by
  obtain⟨rfl,v',hv',b'⟩:=zr G2 e1;rw[hv] at hv';cases hv';exact q _ H2 F2 G2 x2 (.cons b' r2)⟩
def rcOf(K:Fg9)(g:List D->Option Rv):List V->Hp->VK->Prop:=fun vs H Q=>∃tg F ρ σ ds r,Good K tg F H ρ σ/\BorL K F H ds vs/\g ds=some r/\Res K tg F H ρ σ r Q
structure CallD (K:Fg9) (X:Cx) (f:Value) (g:List D->Option Rv):Prop where
 go:X.K=K->ab6 X f (rcOf K g)
instance {K:Fg9} {X:Cx} {f:Value} {g:List D->Option Rv}:CoeFun (CallD K X f g) fun _=>X.K=K->ab6 X f (rcOf K g):=⟨CallD.go⟩
def gf(g:List D->Option Rv)(m:M (List D)):M Rv:=m.bind fun ds=>lift (g ds)
theorem nj{O O1 O2:Addr->Prop}{F H F1 H1 F2 H2:Hp}{r:Rv}{v:V}(x:Ext O O1 F H F1 H1)(h:relR K r v H1 O1 F2 H2 O2):relR K r v H O F2 H2 O2:=by
 cases r with
 | v d=>exact h
 | fr l =>
  obtain⟨a,vs,ev,ha,w⟩:=h;refine⟨a,vs,ev,?_,w⟩;rcases ha with ha | ha
  ·exact .inl (x.there a ha)
  ·exact(x.own a ha).symm
 | tf d l =>
  obtain⟨t,u,a,vs,ev,ht,hd,ha,w⟩:=h;refine⟨t,u,a,vs,ev,ht,hd,?_,w⟩;rcases ha with ha | ha
  ·exact .inl (x.there a ha)
  ·exact(x.own a ha).symm
theorem amm{g:List D->Option Rv}{m:M (List D)}(σ:L2.St)(H:Hp)(Q:VK)(t:T K (relR K) (gf g m) σ H Q):tCB (rcOf K g) (TA' K m) σ H Q:=by
 obtain⟨tg,F,ρ,r,ρ',G,em,q⟩:=t;obtain⟨ds,ρ1,e1,em⟩:=bf em;obtain⟨e2,rfl⟩:=gw em;exact⟨tg,F,ρ,ds,_,G,e1,fun vs H' F' G' x' bl=>⟨tg,F',_,σ,ds,r,G',bl,e2,fun v H2 F2 G2 x2 rr=>q v H2 F2 G2 (x'.trans x2) (nj x' rr)⟩⟩
section
variable{x:Str}{id Ty:String}{g:List D->Option Rv}{m:M (List D)}
theorem bz(hc:CallD K X (.builtin id) g)(hg:Gl X x)(hm:X.mg x=none)(hv:bN x=some (.builtin id))(ha:EA K X (e::es) m)(hn:x ≠ "__name__" := by decide)(hdb:(x==("__debug__" : Str))=false:=by decide)
  (he:aW (e::es) X.env=(false,eval e X.env)::aW es X.env:=by rfl) (hpl:(jP pos (aW es X.env)).any (·.1)=false:=by rfl):ER K X (.Call (.Name x p) (e::es) [] pos) (gf g m):=ER.mk fun hk=>PE.imp (ahi (hc hk) hg hm hv (ha hk) hn hdb he hpl) amm
theorem gn(hc:CallD K X (.type Ty) g)(hg:Gl X x)(hm:X.mg x=none)(hv:bN x=some (.type Ty))(ha:EA K X (e::es) m)(hn:x ≠ "__name__" := by decide)(hdb:(x==("__debug__" : Str))=false:=by decide)
  (he:aW (e::es) X.env=(false,eval e X.env)::aW es X.env:=by rfl) (hpl:(jP pos (aW es X.env)).any (·.1)=false:=by rfl):ER K X (.Call (.Name x p) (e::es) [] pos) (gf g m):=ER.mk fun hk=>PE.imp (ac3 (hc hk) hg hm hv (ha hk) hn hdb he hpl) amm
end
theorem BorL.one{F H:Hp}{d:D}{vs:List V}(h:BorL K F H [d] vs):∃v,vs=[v]/\Bor K F H d v:=by
 cases h with
 | cons h t=>cases t;exact⟨_,rfl,h⟩
theorem BorL.two{F H:Hp}{d d':D}{vs:List V}(h:BorL K F H [d,d'] vs):∃v v',vs=[v,v']/\Bor K F H d v/\Bor K F H d' v':=by
 cases h with
 | cons h t =>
  obtain⟨v',rfl,h'⟩:=t.one;exact⟨_,_,rfl,h,h'⟩
def g1(f:D->Option Rv):List D->Option Rv
 | [d]=>f d
 | _=>none
def g2(f:D->D->Option Rv):List D->Option Rv
 | [d,d']=>f d d'
 | _=>none
theorem af7{f:D->Option Rv}{w:Value} (h:X.K=K->∀(zv:List (Addr×Obj)) (s:aJ) (σ0:L2.St) (H:Hp) (x:V) (u:Value) (Q:VK) (tg:Nat->Addr) (F:Hp) (ρ:Ro) (σ:L2.St) (d:D) (r:Rv),Inv X zv σ0 H s->RelV x u->Good K tg F H ρ σ->Bor K F H d x->f d=some r->Res K tg F H ρ σ r Q ->
  wpAny (model X.prog X.w) X.A (call w [u]) (EP X zv σ0 Q) X.xe s):CallD K X w (g1 f):=CallD.mk fun hk=>by
 intro zv s σ0 H xs us Q I r ⟨tg,F,ρ,σ,ds,rv,G,bl,eg,q⟩
 match ds,eg with
 | [d],eg =>
  obtain⟨v,rfl,bv⟩:=bl.one;obtain⟨u,rfl,ru⟩:=vals1 r;exact h hk zv s σ0 H v u Q tg F ρ σ d rv I ru G bv eg q
theorem jk:CallD K X (.builtin "len") (g1 fun d=>(itemsD d).map fun l=>.v (.int l.length)):=af7 fun hk zv s σ0 H x u Q tg F ρ σ d r I ru G bd eg q=>by
 subst hk;cases e:itemsD d with
 | none=>rw[e] at eg;cases eg
 | some l =>
  rw[e] at eg;cases eg;obtain⟨a,vs,rfl,hl,hs⟩:=ae2 G.sub e bd;have q':=Res.same G q (.int _);rw[hl.length] at q';exact ajw zv s σ0 H [.ref a] [u] Q I (.cons ru .nil) ⟨a,vs,rfl,hs,q'⟩
def rz:List D->Option (List Bool)
 | []=>some []
 | .bl b::r=>(rz r).map (b :: ·)
 | _::_=>none
theorem aj0:∀{l:List D} {bs:List Bool},rz l=some bs->l=bs.map D.bl
 | [],_,h=>by cases h;rfl
 | .bl b::r,bs,h=>by
  have h':(rz r).map (b :: ·)=some bs:=h;cases e:rz r with
  | none=>rw[e] at h';cases h'
  | some t =>
   rw[e] at h';cases h';rw[aj0 e];rfl
 | .non::_,_,h=>by cases h
 | .int _::_,_,h=>by cases h
 | .str _::_,_,h=>by cases h
 | .tup _::_,_,h=>by cases h
 | .lst _::_,_,h=>by cases h
 | .kst _::_,_,h=>by cases h
 | .dct _::_,_,h=>by cases h
@[simp] theorem u5(bs:List Bool):rz (bs.map D.bl)=some bs:=by
 induction bs with
 | nil=>rfl
 | cons b r ih=>show(rz (r.map D.bl)).map (b :: ·)=_;rw[ih];rfl
def gAll:D->Option Rv
 | .lst l=>(rz l).map fun bs=>.v (.bl (bs.all id))
 | _=>none
theorem agy(hc:X.calm=true):CallD K X (.builtin "all") (g1 gAll):=af7 fun hk zv s σ0 H x u Q tg F ρ σ d r I ru G bd eg q=>by
 subst hk;cases d with
 | lst l =>
  have eg:(rz l).map (fun bs=>Rv.v (.bl (bs.all id)))=some r:=eg
  cases e:rz l with
  | none=>rw[e] at eg;cases eg
  | some bs =>
   rw[e] at eg;cases eg;obtain⟨a,vs,rfl,ea,hl⟩:=bd.lst G.sub;rw[aj0 e] at hl;rw[hl.bl_inv] at ea;exact auf hc zv s σ0 H [.ref a] [u] Q I (.cons ru .nil) ⟨a,bs,rfl,SqL.of ea,Res.same G q (.bl _)⟩
 | _=>cases eg
def aqb:D->Option Rv
 | .int i=>some (.v (.int i))
 | .bl k=>some (.v (.int (if k then 1 else 0)))
 | _=>none
theorem au9:CallD K X (.type "int") (g1 aqb):=af7 fun hk zv s σ0 H x u Q tg F ρ σ d r I ru G bd eg q=>by
 cases d with
 | int i =>
  cases eg;obtain rfl:=bd.int;exact ajx zv s σ0 H [_] [u] Q I (.cons ru .nil) (.inl ⟨i,rfl,Res.same G q (.int _)⟩)
 | bl k =>
  cases eg;obtain rfl:=bd.bl;exact ajx zv s σ0 H [_] [u] Q I (.cons ru .nil) (.inr ⟨k,rfl,Res.same G q (.int _)⟩)
 | _=>cases eg
theorem km:CallD K X (.type "tuple") (g1 fun d=>(itemsD d).map fun l=>.v (.tup l)):=af7 fun hk zv s σ0 H x u Q tg F ρ σ d r I ru G bd eg q=>by
 subst hk;cases d with
 | tup l =>
  cases eg;obtain⟨a,vs,rfl,ea,hl⟩:=bd.tup;exact aaz zv s σ0 H [_] [u] Q I (.cons ru .nil) ⟨a,vs,rfl,.inr ⟨SqT.of (G.sub _ _ ea),Res.same G q (.tup ea hl)⟩⟩
 | lst l =>
  cases eg;obtain⟨a,vs,rfl,ea,hl⟩:=bd.lst G.sub;exact aaz zv s σ0 H [_] [u] Q I (.cons ru .nil) ⟨a,vs,rfl,.inl ⟨SqL.of ea,fun p hp=>Res.tup G q hl hp⟩⟩
 | kst l =>
  cases eg;obtain⟨a,vs,rfl,ea,hl⟩:=bd.kst;exact aaz zv s σ0 H [_] [u] Q I (.cons ru .nil) ⟨a,vs,rfl,.inl ⟨L2.Same.seq G.sub ea,fun p hp=>Res.tup G q hl hp⟩⟩
 | _=>cases eg
theorem ad9:CallD K X (.type "list") (g1 fun d=>(itemsD d).map fun l=>.fr l):=af7 fun hk zv s σ0 H x u Q tg F ρ σ d r I ru G bd eg q=>by
 subst hk;cases e:itemsD d with
 | none=>rw[e] at eg;cases eg
 | some l =>
  rw[e] at eg;cases eg;obtain⟨a,vs,rfl,hl,hs⟩:=ae2 G.sub e bd;exact ajv zv s σ0 H [_] [u] Q I (.cons ru .nil) ⟨a,vs,rfl,hs,fun p hp=>Res.lst G q hl hp⟩
theorem au7{f:D->D->Option Rv}{w:Value} (h:X.K=K->∀(zv:List (Addr×Obj)) (s:aJ) (σ0:L2.St) (H:Hp) (x y:V) (u v:Value) (Q:VK) (tg:Nat->Addr) (F:Hp) (ρ:Ro) (σ:L2.St) (d d':D) (r:Rv),Inv X zv σ0 H s->RelV x u->RelV y v->Good K tg F H ρ σ->Bor K F H d x->Bor K F H d' y->f d d'=some r->Res K tg F H ρ σ r Q ->
  wpAny (model X.prog X.w) X.A (call w [u,v]) (EP X zv σ0 Q) X.xe s):CallD K X w (g2 f):=CallD.mk fun hk=>by
 intro zv s σ0 H xs us Q I r ⟨tg,F,ρ,σ,ds,rv,G,bl,eg,q⟩
 match ds,eg with
 | [d,d'],eg =>
  obtain⟨v,v',rfl,bv,bv'⟩:=bl.two;obtain⟨u,w,rfl,ru,rw'⟩:=vals2 r;exact h hk zv s σ0 H v v' u w Q tg F ρ σ d d' rv I ru rw' G bv bv' eg q
theorem au8(hc:X.calm=true):CallD K X (.builtin "max") (g2 (gInt fun i j=>some (if j > i then j else i))):=au7 fun hk zv s σ0 H x y u v Q tg F ρ σ d d' r I ru rv G bd bd' eg q=>by
 unfold gInt at eg;split at eg
 ·cases eg;obtain rfl:=bd.int;obtain rfl:=bd'.int;exact aq8 hc zv s σ0 H [_,_] [u,v] Q I (.cons ru (.cons rv .nil)) ⟨_,_,rfl,Res.same G q (.int _)⟩
 ·cases eg
theorem ajy:ab6 X (.builtin "divmod") (fun xs H Q=>∃i j,xs=[.int i,.int j]/\(0 < j/\j < 1000000000000000000000000000000000000000000000000000000000000)/\∀p,H p=none->Q (.ref p) (upd H p (.tup [.int (i / j),.int (i % j)]))):=by
 intro zv s σ H xs us Q I r h;obtain⟨i,j,rfl,hj,q⟩:=h;obtain⟨u,w',rfl,⟨t,rfl⟩,⟨t',rfl⟩⟩:=vals2 r;have h1:=hj.1;refine divmod_int (by omega) ?_ (.inl (azt hj.1 hj.2))
 rw[qI i (by omega),qH i (by omega)]
 refine⟨.ref s.heap.objs.size,_,?_,rfl,q _ (I.hok.fresh (aL _))⟩;exact I.laid (fun b o e=>aB _ e) (aL _) ⟨by simp only[dY,List.length_nil];rw[gA];decide,[.int (i / j) s.toks,.int (i % j) (s.toks+1)],.cons ⟨_,rfl⟩ (.cons ⟨_,rfl⟩ .nil),⟨_,aK s.heap rfl,rfl,rfl,0,rfl⟩⟩
def ah3:D->D->Option Rv
 | .int i,.int j=>if 0 < j/\j < 1000000000000000000000000000000000000000000000000000000000000 then some (.v (.tup [.int (i / j),.int (i % j)])) else none
 | _,_=>none
theorem aq4:CallD K X (.builtin "divmod") (g2 ah3):=au7 fun hk zv s σ0 H x y u v Q tg F ρ σ d d' r I ru rv G bd bd' eg q=>by
 unfold ah3 at eg;split at eg
 ·split at eg
  ·rename_i hc;cases eg;obtain rfl:=bd.int;obtain rfl:=bd'.int;exact ajy zv s σ0 H [_,_] [u,v] Q I (.cons ru (.cons rv .nil)) ⟨_,_,rfl,hc,fun p hp=>Res.tup G q (.cons (.int _) (.cons (.int _) .nil)) hp⟩
  ·cases eg
 ·cases eg
inductive Ty where
 | int | bool | tuple | list | str | dict
def Ty.nm:Ty->String
 | .int => "int" | .bool => "bool" | .tuple => "tuple" | .list => "list" | .str => "str" | .dict => "dict"
def tyD:D->Value
 | .non=>.type "NoneType"
 | .bl _=>.type "bool"
 | .int _=>.type "int"
 | .str _=>.type "str"
 | .tup _=>.type "tuple"
 | .lst _=>.type "list"
 | .kst _=>.type "list"
 | .dct _=>.type "dict"
 | .exn _ _=>.type "NoneType"
def isTy:Ty->D->Bool
 | .int,.int _=>true
 | .int,.bl _=>true
 | .bool,.bl _=>true
 | .tuple,.tup _=>true
 | .list,.lst _=>true
 | .list,.kst _=>true
 | .str,.str _=>true
 | .dict,.dct _=>true
 | _,_=>false
theorem auy(t:Ty)(d:D):nF K (tyD d) (.type t.nm)=some (isTy t d):=by
 cases d <;> cases t <;> kernel_rfl
theorem aq9{X:Cx}:ab6 X (.builtin "isinstance") (fun xs H Q=>∃F d x t,xs=[x,.ty (Ty.nm t)]/\Same F H/\Bor X.K F H d x/\Q (.bl (isTy t d)) H):=by
 intro zv s σ H xs us Q I r ⟨F,d,x,t,e,g,h,q⟩;subst e;obtain⟨u,w',rfl,r1,r2⟩:=vals2 r;obtain rfl:w'=iH t.nm:=r2;have fin:∀tk,EP X zv σ Q (.bool (isTy t d)) { s with toks:=tk }:=fun tk=>⟨.bl _,H,I.tok tk,rfl,q⟩
 have go:TyOf X.K H x (tyD d)->wpAny (model X.prog X.w) X.A (call (.builtin "isinstance") [u,.type t.nm]) (EP X zv σ Q) X.xe s:=fun ty=>ap4 I r1 ty (auy t d) fin
 cases d with
 | non=>obtain rfl:=h.non;exact go .non
 | bl b=>obtain rfl:=h.bl;exact go (.bl b)
 | int b=>obtain rfl:=h.int;exact go (.int b)
 | str b=>obtain rfl:=h.str;exact go (.str b)
 | tup b=>obtain⟨a,vs,rfl,e,_⟩:=h.tup;exact go (.tup (g _ _ e))
 | lst b=>obtain⟨a,vs,rfl,e,_⟩:=h.lst g;exact go (.lst e)
 | kst b =>
  obtain⟨a,vs,rfl,e,_⟩:=h.kst;cases(show u=fJ a from r1)
  obtain⟨its,_,pl,_⟩:=I.list (L2.Same.seq g e);obtain⟨o,ho,hc,n,hd⟩:=pl.isList;exact dO oM I.kIn ⟨o,ho,hc⟩ (auy t (.kst b)) (fun z=>nomatch z) fin
 | dct b =>
  rcases h with h | ⟨a,vs,l',e1,_⟩
  ·cases h with
   | dct e h=>exact go (.dK (g _ _ e))
  ·cases e1
 | exn c fs =>
  rcases h with h | ⟨a,vs,l',e1,_⟩
  ·cases h with
   | @exn a C c dx fs e hc hk hf =>
    cases(show u=fJ a from r1)
    obtain⟨⟨oe,ws,h1,h2,h3,h4⟩,_⟩:=(show ym X.prog X.w H s.heap a (.ext (exO a C dx)) from I.hok a _ (g _ _ e))
    have hno:vC oe=true:=by unfold vC;rw[h4]
    have ia:∃ox od,lB s.heap a ox C od:=by
     rcases hf with⟨rfl,_⟩ | ⟨d,rfl,hd⟩
     ·exact⟨oe,none,h1,h2,hno,by rw[h3];trivial⟩
     ·obtain⟨mA,⟨od,_,_,e1,_⟩,_⟩:=(show ym X.prog X.w H s.heap d (.xd _) from I.hok d _ (g _ _ hd))
      exact⟨oe,some od,h1,h2,hno,by rw[h3];exact e1⟩
    have kq:nF X.K (.ref C) (.type t.nm)=some false:=by
     have h5:lR X.K (.ref C) (.type t.nm)=some false:=hk.no _ (by cases t <;> simp[Ty.nm])
     have h6:uO t.nm=true:=by cases t <;> kernel_rfl
     unfold nF PySem.W.kitCls;rw[if_neg (by simp)]
     show(if uO t.nm=true then lR X.K (.ref C) (.type t.nm) else none)=some false
     rw[if_pos h6];exact h5
    have e7:isTy t (.exn c fs)=false:=by cases t <;> rfl
    exact dO (atb hk) I.kIn ia kq (fun z=>nomatch z) fun tk=>e7▸fin tk
  ·cases e1
def mIsi(t:Ty)(m:M D):M D:=m.bind fun d=>ret (.bl (isTy t d))
theorem af0{t:Ty}{tn:Expr}{m:M D}{x:Str}(ht:PE X tn (tC (.ty t.nm)))(hg:Gl X x)(hm:X.mg x=none)(hv:bN x=some (.builtin "isinstance"))(h:EB K X e m)(hn:x ≠ "__name__" := by decide)(hdb:(x==("__debug__" : Str))=false:=by decide)
  (h1:aW [tn] X.env=(false,eval tn X.env)::aW [] X.env:=by rfl) (he:aW [e,tn] X.env=(false,eval e X.env)::aW [tn] X.env:=by rfl) (hpl:(jP pos (aW [tn] X.env)).any (·.1)=false:=by rfl) :
  EV K X (.Call (.Name x p) [e,tn] [] pos) (mIsi t m):=EV.mk fun hk=>by
 refine PE.imp (ahi aq9 hg hm hv (ur (h hk) (ur ht aej h1) he) hn hdb he hpl) fun σ H Q ⟨tg,F,ρ,d,ρ',G,em,q⟩ =>?_
 obtain⟨d1,ρ1,e1,em⟩:=bf em;obtain⟨rfl,rfl⟩:=lq em;subst hk;exact⟨tg,F,ρ,d1,_,G,e1,fun v H' F' G' x bv=>⟨F',d1,v,t,rfl,G'.sub,bv,q _ H' F' G' x (.bl _)⟩⟩
def gIx(d i:D):Option Rv:=match i with
 | .int k=>(itemsD d).bind fun l=>(atI l k).map fun x=>.v x
 | _=>none
theorem a07{F:Hp}{l:List D}{vs:List V}{k:Int}{d:D}(h:IsL K F l vs)(e:atI l k=some d):∃v,atI vs k=some v/\Is K F d v:=by
 unfold atI at e ⊢
 rw[h.length] at e;cases q:ixN vs.length k with
 | none=>rw[q] at e;cases e
 | some j =>
  rw[q] at e;obtain⟨v,e1,e2⟩:=h.get (i:=j) e;exact⟨v,e1,e2⟩
theorem ixd:X.K=K->IxR X (rOf K gIx):=fun hk=>by
 intro value slice zv s σ0 H x y v u Q I rx ry ⟨tg,F,ρ,σ,d1,d2,r,G,b1,b2,eg,q⟩ hs;subst hk;cases d2 with
 | int k =>
  have eg:(itemsD d1).bind (fun l=>(atI l k).map fun x=>Rv.v x)=some r:=eg
  cases e:itemsD d1 with
  | none=>rw[e] at eg;cases eg
  | some l =>
   rw[e] at eg;have eg:(atI l k).map (fun x=>Rv.v x)=some r:=eg
   cases e2:atI l k with
   | none=>rw[e2] at eg;cases eg
   | some d =>
    rw[e2] at eg;cases eg;obtain⟨a,vs,rfl,hl,hq⟩:=ae2 G.sub e b1;obtain rfl:=b2.int;obtain⟨z,hz,iz⟩:=a07 hl e2;rcases hq with hq | hq
    ·exact awy value slice zv s σ0 H _ _ v u Q I rx ry ⟨a,vs,k,z,rfl,rfl,hq,hz,Res.same G q iz⟩ hs
    ·exact a0i value slice zv s σ0 H _ _ v u Q I rx ry ⟨a,vs,k,z,rfl,rfl,hq,hz,Res.same G q iz⟩ hs
 | _=>cases eg
theorem jq{m:M (D×D)}(h:E2 K X a b m)(hs:arj b):ER K X (.Subscript a b pos) (mOp gIx m):=ER.mk fun hk=>by
 obtain⟨ta,tb,ha,hb,h⟩:=h hk;exact PE.imp (a3u (ixd hk) ha hb hs) (alv h)
def TOp(K:Fg9)(m:M (Option Int)):TO:=fun σ H Q=>∃tg F ρ o ρ',Good K tg F H ρ σ/\m ρ=some (.ok o,ρ')/\∀H' F',Good K tg F' H' ρ' σ->Ext (Own ρ σ) (Own ρ' σ) F H F' H'->Q o H'
structure EO (K:Fg9) (X:Cx) (e:Option Expr) (m:M (Option Int)):Prop where
 go:X.K=K->PO X e (TOp K m)
instance {K:Fg9} {X:Cx} {e:Option Expr} {m:M (Option Int)}:CoeFun (EO K X e m) fun _=>X.K=K->PO X e (TOp K m):=⟨EO.go⟩
theorem PO.imp{eo:Option Expr}{t t':TO}(h:PO X eo t)(w:∀σ H Q,t' σ H Q->t σ H Q):PO X eo t':=fun zv s σ H Q I q=>h zv s σ H Q I (w σ H Q q)
theorem aco:EO K X none (ret none):=EO.mk fun _=>PO.imp av2 fun σ H Q hq0=>by
 obtain⟨tg,F,ρ,o,ρ',G,em,q⟩:=hq0;obtain⟨rfl,rfl⟩:=lq em;exact q H F G (Ext.refl _ _ _)
def asI:D->Option Int
 | .int i=>some i
 | _=>none
theorem amv{d:D}{k:Int}(h:asI d=some k):d=.int k:=by
 cases d with
 | int b=>cases h;rfl
 | _=>cases h
def afc(m:M D):M (Option Int):=m.bind fun d=>lift ((asI d).map some)
theorem aau{m:M D}(h:EV K X e m):EO K X (some e) (afc m):=EO.mk fun hk=>PO.imp (av1 (h hk)) fun σ H Q hq0=>by
 obtain⟨tg,F,ρ,o,ρ',G,em,q⟩:=hq0;obtain⟨d,ρ1,e1,em⟩:=bf em;obtain⟨e2,rfl⟩:=gw em;refine⟨tg,F,ρ,d,_,G,e1,fun v H' F' G' x r =>?_⟩
 cases d with
 | int i =>
  cases e2;cases r;exact⟨i,rfl,q H' F' G' x⟩
 | _=>cases e2
def cutD(l:List D)(lo hi:Option Int):List D:=(l.drop (HT.sIx l.length 0 lo)).take (HT.sIx l.length l.length hi - HT.sIx l.length 0 lo)
theorem aqv{F:Hp}{l:List D}{vs:List V}(h:IsL K F l vs)(lo hi:Option Int):IsL K F (cutD l lo hi) (cutV vs lo hi):=by
 unfold cutD cutV;rw[h.length];exact(h.drop _).take _
def gCut(d:D)(lo hi:Option Int):Option Rv:=match d with
 | .tup l=>some (.v (.tup (cutD l lo hi)))
 | .lst l=>some (.fr (cutD l lo hi))
 | .kst l=>some (.fr (cutD l lo hi))
 | _=>none
def rsOf(K:Fg9):V->Option Int->Option Int->Hp->VK->Prop:=fun x lo hi H Q=>∃tg F ρ σ d r,Good K tg F H ρ σ/\Bor K F H d x/\gCut d lo hi=some r/\Res K tg F H ρ σ r Q
theorem sld(hk:X.K=K):SlR X (rsOf K):=by
 intro zv s σ0 H x v vl vu lo hi sl Q I rx hs pl pu ⟨tg,F,ρ,σ,d,r,G,bd,eg,q⟩;subst hk;cases d with
 | tup l =>
  cases eg;obtain⟨a,vs,rfl,ea,hl⟩:=bd.tup
  by_cases hw:HT.sIx vs.length 0 lo=0/\HT.sIx vs.length vs.length hi=vs.length
  ·have ec:cutD l lo hi=l:=by
    unfold cutD;rw[hl.length,hw.1,hw.2,qO,rR,<-hl.length,pD]
   rw[ec] at q;cases rx;obtain⟨its,r,ht,hz⟩:=I.tuple (SqT.of (G.sub _ _ ea));have hlen:its.toArray.size=vs.length:=by rw[aN];exact r.length.symm
   refine⟨"tuple", _,bZ.lookup,ht.typeIs,?_⟩;exact acj ht hs pl pu (by rw[hlen];exact hw.1) (by rw[hlen];exact hw.2) ⟨.ref a,H,I,rfl,Res.same G q (.tup ea hl)⟩
  ·exact ayo zv s σ0 H _ v vl vu lo hi sl Q I rx hs pl pu ⟨a,vs,rfl,SqT.of (G.sub _ _ ea),hw,fun p hp=>Res.tup G q (aqv hl lo hi) hp⟩
 | lst l =>
  cases eg;obtain⟨a,vs,rfl,ea,hl⟩:=bd.lst G.sub;exact ao1 zv s σ0 H _ v vl vu lo hi sl Q I rx hs pl pu ⟨a,vs,rfl,SqL.of ea,fun p hp=>Res.lst G q (aqv hl lo hi) hp⟩
 | kst l =>
  cases eg;obtain⟨a,vs,rfl,ea,hl⟩:=bd.kst;exact ao1 zv s σ0 H _ v vl vu lo hi sl Q I rx hs pl pu ⟨a,vs,rfl,L2.Same.seq G.sub ea,fun p hp=>Res.lst G q (aqv hl lo hi) hp⟩
 | _=>cases eg
def mCut(m:M D)(ml mh:M (Option Int)):M Rv:=m.bind fun d=>ml.bind fun lo=>mh.bind fun hi=>lift (gCut d lo hi)
def ajc(i:Nat)(ml mh:M (Option Int)):M Rv:=(fc i).bind fun _=>ml.bind fun lo=>mh.bind fun hi=>(fc i).bind fun d=>lift (gCut d lo hi)
theorem au5{m:M D}{ml mh:M (Option Int)}{lo hi:Option Expr}(h:EV K X a m)(hl:EO K X lo ml)(hh:EO K X hi mh):ER K X (.Subscript a (.Slice lo hi none p2) pos) (mCut m ml mh):=ER.mk fun hk=>PE.imp (alp (sld hk) (h hk) (hl hk) (hh hk)) fun σ H Q hq0=>by
 obtain⟨tg,F,ρ,r,ρ',G,em,q⟩:=hq0;obtain⟨d,ρ1,e1,em⟩:=bf em;obtain⟨o1,ρ2,e2,em⟩:=bf em;obtain⟨o2,ρ3,e3,em⟩:=bf em;obtain⟨e4,rfl⟩:=gw em;refine⟨tg,F,ρ,d,ρ1,G,e1,fun v H1 F1 G1 x1 r1=>⟨tg,F1,ρ1,o1,ρ2,G1,e2,fun H2 F2 G2 x2=>⟨tg,F2,ρ2,o2,_,G2,e3,fun H3 F3 G3 x3 =>?_⟩⟩⟩
 exact⟨tg,F3,_,σ,d,r,G3,.inl ((r1.mono x2.sub).mono x3.sub),e4,fun v' H4 F4 G4 x4 rr=>q v' H4 F4 G4 (((x1.trans x2).trans x3).trans x4) (nj ((x1.trans x2).trans x3) rr)⟩
theorem ad8{i:Nat}{ml mh:M (Option Int)}{lo hi:Option Expr}(h:PE X a (tVar i))(hl:EO K X lo ml)(hh:EO K X hi mh):ER K X (.Subscript a (.Slice lo hi none p2) pos) (ajc i ml mh):=ER.mk fun hk=>PE.imp (alp (sld hk) h (hl hk) (hh hk)) fun σ H Q hq0=>by
 obtain⟨tg,F,ρ,r,ρ',G,em,q⟩:=hq0;obtain⟨d0,ρ0,e0,em⟩:=bf em;obtain⟨o1,ρ2,e2,em⟩:=bf em;obtain⟨o2,ρ3,e3,em⟩:=bf em;obtain⟨d,ρ4,e1,em⟩:=bf em;obtain⟨e4,rfl⟩:=gw em;obtain⟨rfl,v,hv,_⟩:=zr G e0;refine⟨v,hv,tg,F,ρ0,o1,ρ2,G,e2,fun H2 F2 G2 x2=>⟨tg,F2,ρ2,o2,_,G2,e3,fun H3 F3 G3 x3 =>?_⟩⟩
 obtain⟨rfl,v',hv',b'⟩:=zr G3 e1;rw[hv] at hv';cases hv';exact⟨tg,F3,_,σ,d,r,G3,b',e4,fun v' H4 F4 G4 x4 rr=>q v' H4 F4 G4 ((x2.trans x3).trans x4) (nj (x2.trans x3) rr)⟩
end
inductive Fl where
 | nx | ret (r:Rv) | brk | cont | exc (x:Exn)
abbrev Sd:=Ro->Option (Fl×Ro)
section
variable{K:Fg9}{X:Cx}{e a b c tgt:Expr}{es:List Expr}{pos p p2:Pos}{st:Stmt}{ss:List Stmt}
def FlOk(K:Fg9)(tg:Nat->Addr)(ρ:Ro)(σ:L2.St)(F H:Hp)(E:Ends)(fl:Fl)(ρ':Ro):Prop:=match fl with
 | .nx=>∀σ' H' F',Good K tg F' H' ρ' σ'->Ext (Own ρ σ) (Own ρ' σ') F H F' H'->E.nx σ' H'
 | .brk=>∀σ' H' F',Good K tg F' H' ρ' σ'->Ext (Own ρ σ) (Own ρ' σ') F H F' H'->E.bk σ' H'
 | .cont=>∀σ' H' F',Good K tg F' H' ρ' σ'->Ext (Own ρ σ) (Own ρ' σ') F H F' H'->E.ct σ' H'
 | .ret r=>∀v σ' H' F',Good K tg F' H' ρ' σ'->Ext (Own ρ σ) (Own ρ' σ') F H F' H'->relR K r v H (Own ρ σ) F' H' (Own ρ' σ')->E.rt v H'
 | .exc _=>False
def TSd(K:Fg9)(g:Sd):TS:=fun E σ H=>∃tg F ρ fl ρ',Good K tg F H ρ σ/\g ρ=some (fl,ρ')/\FlOk K tg ρ σ F H E fl ρ'
structure SV (K:Fg9) (X:Cx) (st:Stmt) (g:Sd):Prop where
 go:X.K=K->PS X st (TSd K g)
instance {K:Fg9} {X:Cx} {st:Stmt} {g:Sd}:CoeFun (SV K X st g) fun _=>X.K=K->PS X st (TSd K g):=⟨SV.go⟩
structure SVs (K:Fg9) (X:Cx) (ss:List Stmt) (g:Sd):Prop where
 go:X.K=K->PSs X ss (TSd K g)
instance {K:Fg9} {X:Cx} {ss:List Stmt} {g:Sd}:CoeFun (SVs K X ss g) fun _=>X.K=K->PSs X ss (TSd K g):=⟨SVs.go⟩
theorem PS.imp{t t':TS}(h:PS X st t)(w:∀E σ H,t' E σ H->t E σ H):PS X st t':=fun zv s σ H E I q=>h zv s σ H E I (w E σ H q)
theorem PSs.imp{t t':TS}(h:PSs X ss t)(w:∀E σ H,t' E σ H->t E σ H):PSs X ss t':=fun zv s σ H E I q=>h zv s σ H E I (w E σ H q)
theorem FlOk.back{tg:Nat->Addr}{ρ ρ1 ρ':Ro}{σ σ1:L2.St}{F H F1 H1:Hp}{E:Ends}{fl:Fl}(x:Ext (Own ρ σ) (Own ρ1 σ1) F H F1 H1)(h:FlOk K tg ρ σ F H E fl ρ'):FlOk K tg ρ1 σ1 F1 H1 E fl ρ':=by
 cases fl with
 | nx=>exact fun σ' H' F' G' x'=>h σ' H' F' G' (x.trans x')
 | brk=>exact fun σ' H' F' G' x'=>h σ' H' F' G' (x.trans x')
 | cont=>exact fun σ' H' F' G' x'=>h σ' H' F' G' (x.trans x')
 | ret r=>exact fun v σ' H' F' G' x' rr=>h v σ' H' F' G' (x.trans x') (nj x rr)
 | exc _=>exact h
def dNx:Sd:=fun ρ=>some (.nx,ρ)
def dBrk:Sd:=fun ρ=>some (.brk,ρ)
def a5x:Sd:=fun ρ=>some (.cont,ρ)
noncomputable def dSeq(g k:Sd):Sd:=fun ρ=>match g ρ with
 | some (.nx,ρ1)=>k ρ1
 | r=>r
theorem j5:SVs K X [] dNx:=SVs.mk fun _=>PSs.imp avy fun E σ H hq0=>by
 obtain⟨tg,F,ρ,fl,ρ',G,em,q⟩:=hq0;cases em;exact q σ H F G (Ext.refl _ _ _)
theorem bc{g:Sd}(h:SV K X st g):SVs K X [st] g:=SVs.mk fun hk=>avx (h hk)
theorem aq{g k:Sd}(h:SV K X st g)(t:SVs K X ss k):SVs K X (st::ss) (dSeq g k):=SVs.mk fun hk=>PSs.imp (ash (h hk) (t hk)) fun E σ H hq0=>by
 obtain⟨tg,F,ρ,fl,ρ',G,em,q⟩:=hq0;unfold dSeq at em;split at em
 ·rename_i ρ1 e1;exact⟨tg,F,ρ,.nx,ρ1,G,e1,fun σ' H' F' G' x=>⟨tg,F',ρ1,fl,ρ',G',em,q.back x⟩⟩
 ·rename_i hn;refine⟨tg,F,ρ,fl,ρ',G,em,?_⟩;cases fl with
  | nx=>exact absurd em (hn ρ')
  | brk=>exact q
  | cont=>exact q
  | ret r=>exact q
  | exc _=>exact q
theorem ag5:SV K X st (fun _=>none):=SV.mk fun _=>PS.imp asj fun E σ H ⟨tg,F,ρ,fl,ρ',G,em,q⟩=>by cases em
noncomputable def dM{α:Type}(m:M α)(k:α->Sd):Sd:=fun ρ=>match m ρ with
 | some (.ok x,ρ1)=>k x ρ1
 | some (.exc x,ρ1)=>some (.exc x,ρ1)
 | none=>none
theorem uy{α:Type}{m:M α}{k:α->Sd}{ρ ρ':Ro}{fl:Fl}{P:Prop}(h:dM m k ρ=some (fl,ρ'))(hx:FlOk K tg ρ0 σ0 F0 H0 E0' fl ρ')(go:∀x ρ1,m ρ=some (.ok x,ρ1)->k x ρ1=some (fl,ρ')->P):P:=by
 unfold dM at h;split at h
 ·exact go _ _ (by assumption) h
 ·cases h;exact(show False from hx).elim
 ·cases h
noncomputable def dRet(m:M Rv):Sd:=dM m fun r ρ=>some (.ret r,ρ)
theorem gj{m:M Rv}(h:ER K X e m):SV K X (.Return (some e) pos) (dRet m):=SV.mk fun hk=>PS.imp (ay4 (h hk)) fun E σ H ⟨tg,F,ρ,fl,ρ',G,em,q⟩=>uy em q fun r ρ1 e1 em=>by
 cases em;exact⟨tg,F,ρ,r,_,G,e1,fun v H' F' G' x rr=>q v σ H' F' G' x rr⟩
noncomputable def dIf(m:M Bool)(g k:Sd):Sd:=dM m fun z=>if z=true then g else k
theorem vy{m:M Bool}{g k:Sd}{ss':List Stmt}(h:ET K X c m)(h1:SVs K X ss g)(h2:SVs K X ss' k):SV K X (.If c ss ss' pos) (dIf m g k):=SV.mk fun hk=>PS.imp (a3r (h hk) (h1 hk) (h2 hk)) fun E σ H ⟨tg,F,ρ,fl,ρ',G,em,q⟩=>uy em q fun z ρ1 e1 em=>by
 refine⟨tg,F,ρ,z,ρ1,G,e1,fun H' F' G' x =>?_⟩
 cases z with
 | true=>exact iteT ⟨tg,F',ρ1,fl,ρ',G',em,q.back x⟩
 | false=>exact iteF ⟨tg,F',ρ1,fl,ρ',G',em,q.back x⟩
def af3{α:Type}(m:M α):Sd:=dM m fun _ ρ=>some (.nx,ρ)
theorem aao{m:M Rv}(h:ER K X e m)(hs:swapsWith e none pos.line X.env=pure false:=by rfl):SV K X (.Expr e pos) (af3 m):=SV.mk fun hk=>PS.imp (avz (h hk) hs) fun E σ H ⟨tg,F,ρ,fl,ρ',G,em,q⟩=>uy em q fun r ρ1 e1 em=>by
 cases em;exact⟨tg,F,ρ,r,_,G,e1,fun v H' F' G' x rr=>q σ H' F' G' x⟩
section
variable{tg:Nat->Addr}{F H:Hp}{ρ:Ro}{σ:L2.St}
theorem ahj{i:Nat}{s:Sl}{v:V}{b:Addr}(hl:ρ.length=σ.length)(h:Own (bJ ρ i s) (bJ σ i (some v)) b):Own ρ σ b∨((∃t l,s=.own t l)/\v=.ref b):=by
 obtain⟨j,⟨t,l,e⟩,q⟩:=h;rw[bL] at e q
 by_cases hj:i=j
 ·subst hj;rw[if_pos rfl] at e q;split at e
  ·rename_i hi;rw[if_pos (by rw[<-hl];exact hi)] at q
   cases e;cases q;exact .inr ⟨⟨t,l,rfl⟩,rfl⟩
  ·cases e
 ·rw[if_neg hj] at e q;exact .inl ⟨j,⟨t,l,e⟩,q⟩
theorem Good.put(G:Good K tg F H ρ σ){s:Sl}{v:V}(i:Nat)(h:SlOk K tg F H s (some v))(n:∀t l a,s=.own t l->v=.ref a->¬Own ρ σ a):Good K tg F H (bJ ρ i s) (bJ σ i (some v)) where
 sub:=G.sub
 len:=by rw[bU,bU];exact G.len
 sl:=fun j s' o e q=>by
  rw[bL] at e q
  by_cases hj:i=j
  ·subst hj;rw[if_pos rfl] at e q;split at e
   ·rename_i hi;rw[if_pos (by rw[<-G.len];exact hi)] at q
    cases e;cases q;exact h
   ·cases e
  ·rw[if_neg hj] at e q;exact G.sl j s' o e q
 inj:=fun j k a ⟨⟨t,l,e⟩,q⟩ ⟨⟨t',l',e'⟩,q'⟩=>by
  rw[bL] at e q e' q'
  by_cases hj:i=j
  ·subst hj;rw[if_pos rfl] at e q
   by_cases hk:i=k
   ·exact hk
   ·rw[if_neg hk] at e' q';split at e
    ·rename_i hi;rw[if_pos (by rw[<-G.len];exact hi)] at q
     cases e;cases q;exact absurd ⟨k,⟨t',l',e'⟩,q'⟩ (n t l a rfl rfl)
    ·cases e
  ·rw[if_neg hj] at e q
   by_cases hk:i=k
   ·subst hk;rw[if_pos rfl] at e' q';split at e'
    ·rename_i hi;rw[if_pos (by rw[<-G.len];exact hi)] at q'
     cases e';cases q';exact absurd ⟨j,⟨t,l,e⟩,q⟩ (n t' l' a rfl rfl)
    ·cases e'
   ·rw[if_neg hk] at e' q';exact G.inj j k a ⟨⟨t,l,e⟩,q⟩ ⟨⟨t',l',e'⟩,q'⟩
def Rv.sl:Rv->Sl
 | .v d=>.val d
 | .fr l=>.own none l
 | .tf _ _=>.emp
theorem Good.store{F0 H0:Hp}{O:Addr->Prop}(G:Good K tg F H ρ σ)(x:Ext O (Own ρ σ) F0 H0 F H){r:Rv}{v:V}(i:Nat)(h:relR K r v H0 O F H (Own ρ σ)) :
  Good K tg F H (bJ ρ i r.sl) (bJ σ i (some v))/\Ext O (Own (bJ ρ i r.sl) (bJ σ i (some v))) F0 H0 F H:=by
 cases r with
 | v d =>
  refine⟨G.put i ⟨v,rfl,h⟩ (fun t l a e=>by cases e),x.sub,x.new,x.keep,fun b w =>?_,x.there⟩
  rcases ahj G.len w with w | ⟨⟨t,l,e⟩,_⟩
  ·exact x.own b w
  ·cases e
 | fr l =>
  obtain⟨a,vs,rfl,ha,hf,hh,hl,hn⟩:=h;refine⟨G.put i ⟨a,vs,rfl,hf,hh,hl,fun k e=>by cases e⟩ (fun t l' b _ e2=>by cases e2;exact hn),x.sub,x.new,x.keep,fun b w =>?_,x.there⟩
  rcases ahj G.len w with w | ⟨_,e⟩
  ·exact x.own b w
  ·cases e;exact ha.symm
 | tf d l =>
  refine⟨G.put i trivial (fun t l a e=>by cases e),x.sub,x.new,x.keep,fun b w =>?_,x.there⟩
  rcases ahj G.len w with w | ⟨⟨t,l,e⟩,_⟩
  ·exact x.own b w
  ·cases e
end
def dSet(i:Nat)(m:M Rv):Sd:=dM m fun r ρ=>some (.nx,bJ ρ i r.sl)
theorem gr{i:Nat}{x:Str}{m:M Rv}(hN:X.N.Nodup)(hi:X.N[i]? = some x)(hx:Loc X.env.scope x)(h:ER K X e m)(hs:swapsWith e (some (.Name x p)) pos.line X.env=pure false:=by rfl)(hf:X.fn x=true∨X.env.scope.names.lookup x=some .local:=by first | exact .inl rfl | exact .inr rfl | assumption) :
  SV K X (.Assign [.Name x p] e pos) (dSet i m):=SV.mk fun hk=>PS.imp (ay3 hN hi hx (h hk) hs hf) fun E σ H ⟨tg,F,ρ,fl,ρ',G,em,q⟩=>uy em q fun r ρ1 e1 em=>by
 cases em;refine⟨tg,F,ρ,r,ρ1,G,e1,fun v H' F' G' x rr =>?_⟩
 obtain⟨G2,x2⟩:=G'.store x i rr;exact q _ H' F' G2 x2
def TGd(K:Fg9)(b:D->Ro->Option Ro):TG:=fun v σ H Q=>∃tg F ρ d ρ',Good K tg F H ρ σ/\Is K F d v/\b d ρ=some ρ'/\∀σ' H' F',Good K tg F' H' ρ' σ'->Ext (Own ρ σ) (Own ρ' σ') F H F' H'->Q σ' H'
structure GV (K:Fg9) (X:Cx) (e:Expr) (b:D->Ro->Option Ro):Prop where
 go:X.K=K->PG X e (TGd K b)
instance {K:Fg9} {X:Cx} {e:Expr} {b:D->Ro->Option Ro}:CoeFun (GV K X e b) fun _=>X.K=K->PG X e (TGd K b):=⟨GV.go⟩
theorem PG.imp{t t':TG}(h:PG X e t)(w:∀v σ H Q,t' v σ H Q->t v σ H Q):PG X e t':=fun zv s σ H v u Q I r q=>h zv s σ H v u Q I r (w v σ H Q q)
def cu(i:Nat):D->Ro->Option Ro:=fun d ρ=>some (bJ ρ i (.val d))
theorem Good.storeV{tg:Nat->Addr}{F H:Hp}{ρ:Ro}{σ:L2.St}(G:Good K tg F H ρ σ){d:D}{v:V}(i:Nat)(h:Is K F d v):Good K tg F H (bJ ρ i (.val d)) (bJ σ i (some v))/\Ext (Own ρ σ) (Own (bJ ρ i (.val d)) (bJ σ i (some v))) F H F H :=
 G.store (r:=.v d) (Ext.refl _ _ _) i h
theorem dg{i:Nat}{x:Str}(hN:X.N.Nodup)(hi:X.N[i]? = some x)(hx:Loc X.env.scope x)(hf:X.fn x=true∨X.env.scope.names.lookup x=some .local:=by first | exact .inl rfl | exact .inr rfl | assumption):GV K X (.Name x pos) (cu i):=GV.mk fun _=>PG.imp (aki hN hi hx hf) fun v σ H Q hq0=>by
 obtain⟨tg,F,ρ,d,ρ',G,h,em,q⟩:=hq0;cases em;obtain⟨G2,x2⟩:=G.storeV i h;exact q _ H F G2 x2
def TGsd(K:Fg9)(b:List D->Ro->Option Ro):TGs:=fun vs σ H Q=>∃tg F ρ ds ρ',Good K tg F H ρ σ/\IsL K F ds vs/\b ds ρ=some ρ'/\∀σ' H' F',Good K tg F' H' ρ' σ'->Ext (Own ρ σ) (Own ρ' σ') F H F' H'->Q σ' H'
structure GVs (K:Fg9) (X:Cx) (es:List Expr) (b:List D->Ro->Option Ro):Prop where
 go:X.K=K->PGs X es (TGsd K b)
instance {K:Fg9} {X:Cx} {es:List Expr} {b:List D->Ro->Option Ro}:CoeFun (GVs K X es b) fun _=>X.K=K->PGs X es (TGsd K b):=⟨GVs.go⟩
theorem PGs.imp{t t':TGs}(h:PGs X es t)(w:∀v σ H Q,t' v σ H Q->t v σ H Q):PGs X es t':=fun zv s σ H v u Q I r q=>h zv s σ H v u Q I r (w v σ H Q q)
def bNil:List D->Ro->Option Ro:=fun ds ρ=>match ds with
 | []=>some ρ
 | _=>none
def ir(b:D->Ro->Option Ro)(bs:List D->Ro->Option Ro):List D->Ro->Option Ro:=fun ds ρ=>match ds with
 | d::r=>(b d ρ).bind (bs r)
 | _=>none
theorem ut:GVs K X [] bNil:=GVs.mk fun _=>PGs.imp apf fun vs σ H Q hq0=>by
 obtain⟨tg,F,ρ,ds,ρ',G,h,em,q⟩:=hq0;cases ds with
 | nil=>cases em;cases h;exact⟨rfl,q σ H F G (Ext.refl _ _ _)⟩
 | cons _ _=>cases em
theorem gk{b:D->Ro->Option Ro}{bs:List D->Ro->Option Ro}(h1:GV K X e b)(h2:GVs K X es bs)(hs:(eV (e::es) X.env).map (·.2)=nD e X.env::(eV es X.env).map (·.2):=by rfl):GVs K X (e::es) (ir b bs):=GVs.mk fun hk=>PGs.imp (ahh (h1 hk) (h2 hk) hs) fun vs σ H Q hq0=>by
 obtain⟨tg,F,ρ,ds,ρ',G,h,em,q⟩:=hq0;cases h with
 | nil=>cases em
 | @cons d v ds vs hd ht =>
  have em:(b d ρ).bind (bs ds)=some ρ':=em;cases e1:b d ρ with
  | none=>rw[e1] at em;cases em
  | some ρ1 =>
   rw[e1] at em;exact⟨v,vs,rfl,tg,F,ρ,d,ρ1,G,hd,e1,fun σ' H' F' G' x=>⟨tg,F',ρ1,ds,ρ',G',ht.mono x.sub,em,fun σ2 H2 F2 G2 x2=>q σ2 H2 F2 G2 (x.trans x2)⟩⟩
def bTup(n:Nat)(bs:List D->Ro->Option Ro):D->Ro->Option Ro:=fun d ρ=>match d with
 | .tup l=>if l.length=n then bs l ρ else none
 | _=>none
theorem aag{k n:Nat}{bs:List D->Ro->Option Ro}(hc:X.calm=true)(h:GVs K X es bs)(hn:(eV es X.env).length=n:=by rfl)(hst:(eV es X.env).findIdx? (·.1)=none:=by rfl):GV K X (.Tuple es k pos) (bTup n bs):=GV.mk fun hk=>PG.imp (auq hc (h hk) hn hst) fun v σ H Q hq0=>by
 obtain⟨tg,F,ρ,d,ρ',G,hd,em,q⟩:=hq0;cases hd with
 | @tup a vs ds e hl =>
  have em:(if ds.length=n then bs ds ρ else none)=some ρ':=em
  split at em
  ·rename_i hz;exact⟨a,vs,rfl,SqT.of (G.sub _ _ e),by rw[<-hl.length];exact hz,tg,F,ρ,ds,ρ',G,hl,em,q⟩
  ·cases em
 | _=>cases em
def dAsg(m:M D)(b:D->Ro->Option Ro):Sd:=dM m fun d ρ=>(b d ρ).map fun ρ'=>(.nx,ρ')
theorem aum{m:M D}{b:D->Ro->Option Ro}(h:EV K X e m)(hg:GV K X tgt b)(hs:swapsWithSole [tgt] e pos.line X.env=pure false:=by rfl)(hw:swappedStores [tgt] e X.env=pure none:=by rfl)
  (h1:(eV [tgt] X.env).map (·.2)=[nD tgt X.env]:=by rfl):SV K X (.Assign [tgt] e pos) (dAsg m b):=SV.mk fun hk=>PS.imp (ao9 (h hk) (hg hk) hs hw h1) fun E σ H ⟨tg,F,ρ,fl,ρ',G,em,q⟩=>uy em q fun d ρ1 e1 em=>by
 refine⟨tg,F,ρ,d,ρ1,G,e1,fun v H' F' G' x r =>?_⟩
 cases e2:b d ρ1 with
 | none=>rw[e2] at em;cases em
 | some ρ2 =>
  rw[e2] at em;cases em;exact⟨tg,F',ρ1,d,_,G',r,e2,fun σ2 H2 F2 G2 x2=>q σ2 H2 F2 G2 (x.trans x2)⟩
def dPar(i j:Nat)(m:M (List D)):Sd:=dM m fun ds ρ=>match ds with
 | [d,d']=>some (.nx,bJ (bJ ρ i (.val d)) j (.val d'))
 | _=>none
theorem aym{i j:Nat}{x y:Str}{px py pt:Pos}{kt k2 pt2}{m:M (List D)}(hc:X.calm=true)(hN:X.N.Nodup)(hi:X.N[i]? = some x)(hj:X.N[j]? = some y)(hij:i≠j)
  (hx:X.env.scope.names.lookup x=some .local) (hy:X.env.scope.names.lookup y=some .local) (h:ED K X [a,b] m)
  (hw:swappedStores [.Tuple [.Name x px,.Name y py] kt pt] (.Tuple [a,b] k2 pt2) X.env=pure (some [x,y]):=by rfl)
  (hs:swapsWithSole [.Tuple [.Name x px,.Name y py] kt pt] (.Tuple [a,b] k2 pt2) pos.line X.env=pure false:=by rfl) :
  SV K X (.Assign [.Tuple [.Name x px,.Name y py] kt pt] (.Tuple [a,b] k2 pt2) pos) (dPar i j m):=SV.mk fun hk=>PS.imp (aup hc hN hi hj hij hx hy (h hk) hw hs) fun E σ H ⟨tg,F,ρ,fl,ρ',G,em,q⟩=>uy em q fun ds ρ1 e1 em=>by
 refine⟨tg,F,ρ,ds,ρ1,G,e1,fun vs H' F' G' x r =>?_⟩
 match ds,em with
 | [d,d'],em =>
  cases em;cases r with
  | @cons _ v _ _ h1 r =>
   cases r with
   | @cons _ v' _ _ h2 r =>
    cases r;obtain⟨G2,x2⟩:=G'.storeV i h1;obtain⟨G3,x3⟩:=G2.storeV j h2;exact⟨v,v',rfl,q _ H' F' G3 ((x.trans x2).trans x3)⟩
theorem Good.mut{tg:Nat->Addr}{F H:Hp}{ρ:Ro}{σ:L2.St}(G:Good K tg F H ρ σ){i:Nat}{t:Option Nat}{l l':List D}{a:Addr}{ys:List V}(e:(ρ:List Sl)[i]? = some (.own t l))(q:σ[i]? = some (some (.ref a)))(h:IsL K F l' ys) :
  Good K tg F (upd H a (.lst ys)) (bJ ρ i (.own t l')) σ/\Ext (Own ρ σ) (Own (bJ ρ i (.own t l')) σ) F H F (upd H a (.lst ys)):=by
 obtain⟨a',vs,e1,hf,hh,hl,ht⟩:=G.sl i _ _ e q;cases e1;have ow:∀j b,Owns (bJ ρ i (.own t l')) σ j b->Owns ρ σ j b:=fun j b ⟨⟨t2,l2,e2⟩,q2⟩=>by
  rw[bL] at e2
  by_cases hj:i=j
  ·subst hj;exact⟨⟨t,l,e⟩,q2⟩
  ·rw[if_neg hj] at e2;exact⟨⟨t2,l2,e2⟩,q2⟩
 have me:Own ρ σ a:=⟨i,⟨t,l,e⟩,q⟩;refine⟨⟨fun b o z =>?_,by rw[bU];exact G.len,fun j s o e2 q2 =>?_,fun j k b w1 w2=>G.inj j k b (ow _ _ w1) (ow _ _ w2)⟩,Same.refl F,fun _ _ z=>.inl z,fun b o z n =>?_,fun b ⟨j,w⟩=>.inl ⟨j,ow j b w⟩,fun b z =>?_⟩
 ·have hb:b≠a:=fun z2=>by
   subst z2;rw[hf] at z;cases z
  rw[fj hb];exact G.sub b o z
 ·rw[bL] at e2
  by_cases hj:i=j
  ·subst hj;rw[if_pos rfl] at e2;split at e2
   ·cases e2;rw[q] at q2;cases q2;exact⟨a,ys,rfl,hf,jm,h,ht⟩
   ·cases e2
  ·rw[if_neg hj] at e2;have z:=G.sl j s o e2 q2;cases s with
   | emp=>trivial
   | val d=>exact z
   | box c fs =>
    obtain⟨b,C,dx,fvs,e1,e2,e3,e4⟩:=z;have hb:b≠a:=fun z2=>by
     subst z2;rw[e3] at hh;cases hh
    exact⟨b,C,dx,fvs,e1,e2,by rw[fj hb];exact e3,e4⟩
   | own t2 l2 =>
    obtain⟨b,ws,e3,hf3,hh3,hl3,ht3⟩:=z;have hb:b≠a:=fun z2=>by
     subst z2;exact hj (G.inj i j b ⟨⟨t,l,e⟩,q⟩ ⟨⟨t2,l2,e2⟩,by rw[q2,e3]⟩)
    exact⟨b,ws,e3,hf3,by rw[fj hb];exact hh3,hl3,ht3⟩
 ·have hb:b≠a:=fun z2=>n (z2▸me)
  rw[fj hb];exact z
 ·by_cases hb:b=a
  ·subst hb;rw[jm] at z;cases z
  ·rw[fj hb] at z;exact z
def mOwn(i:Nat):M (List D):=fun ρ=>match ρ[i]? with
 | some (.own _ l)=>some (.ok l,ρ)
 | _=>none
theorem ae8{tg:Nat->Addr}{F H:Hp}{ρ ρ':Ro}{σ:L2.St}(G:Good K tg F H ρ σ){i:Nat}{l:List D}(em:mOwn i ρ=some (.ok l,ρ')):ρ'=ρ/\∃t a xs,(ρ:List Sl)[i]? = some (.own t l)/\σ[i]? = some (some (.ref a))/\H a=some (.lst xs)/\IsL K F l xs:=by
 unfold mOwn at em;split at em
 ·rename_i t l' e';cases em;obtain⟨o,ho,a,vs,rfl,hf,hh,hl,_⟩:=G.at e';exact⟨rfl,t,a,vs,e',ho,hh,hl⟩
 ·cases em
def ada(i:Nat)(l':List D):M Unit:=fun ρ=>match ρ[i]? with
 | some (.own t _)=>some (.ok (),bJ ρ i (.own t l'))
 | _=>none
def mMut(i:Nat)(g:List D->List D->Option (D×List D))(ms:M (List D)):M D:=(mOwn i).bind fun _=>ms.bind fun ds=>(mOwn i).bind fun l=>(lift (g l ds)).bind fun r=>(ada i r.2).bind fun _=>ret r.1
def MutD(K:Fg9)(r:V->List V->Hp->VK->Prop)(g:List D->List D->Option (D×List D)):Prop :=
 ∀(F H:Hp) (a:Addr) (xs vs:List V) (l ds:List D) (d:D) (l':List D) (Q:VK),Same F H->H a=some (.lst xs)->xs.length<=capS->IsL K F l xs->IsL K F ds vs->g l ds=some (d,l')->(∀v ys,Is K F d v->IsL K F l' ys->Q v (upd H a (.lst ys)))->r (.ref a) vs H Q
theorem akr{tg:Nat->Addr}{F H:Hp}{ρ ρ2:Ro}{σ:L2.St}(G:Good K tg F H ρ σ){i:Nat}{l':List D}{u:Unit}{a:Addr}{ys:List V}(e:ada i l' ρ=some (.ok u,ρ2))(q:σ[i]? = some (some (.ref a)))(h:IsL K F l' ys) :
  Good K tg F (upd H a (.lst ys)) ρ2 σ/\Ext (Own ρ σ) (Own ρ2 σ) F H F (upd H a (.lst ys)):=by
 unfold ada at e;split at e
 ·rename_i t l e';cases e;exact G.mut e' q h
 ·cases e
theorem amd{i:Nat}{name:Str}{id:String}{r:V->List V->Hp->VK->Prop}{g:List D->List D->Option (D×List D)}{ms:M (List D)}{apos cpos:Pos}(hr:MutD K r g)(slot:Slot "list" name id)(hty:typeOf (.builtin id)=pure (.type "method_descriptor"))(hm:MtR X id r)(ho:PE X a (tVar i))(ha:ED K X (e::es) ms)
  (hbase:attributeBase a name X.env (eval a X.env)=eval a X.env:=by rfl)
  (hfew:((jP cpos (aW (e::es) X.env)).all (fun x => !x.1)&&(backToKw cpos (keywordEach [] X.env)).all (fun x=>x.1.isSome)
   && decide ((e::es).length+([]:List Keyword).length+(if ([]:List Keyword).isEmpty then 0 else 1) < 30))=true:=by rfl)
  (hline:(apos.endLine==cpos.line)=true:=by rfl) (hs:aW (e::es) X.env=(false,eval e X.env)::aW es X.env:=by rfl) (hplain:(jP cpos (aW es X.env)).any (·.1)=false:=by rfl) :
  EV K X (.Call (.Attribute a name apos) (e::es) [] cpos) (mMut i g ms):=EV.mk fun hk=>by
 intro zv s σ H Q I ⟨tg,F,ρ,d,ρ',G,em,q⟩;obtain⟨l0,ρ0,e0,em1⟩:=bf em;obtain⟨ds,ρ1,e1,em2⟩:=bf em1;obtain⟨l,ρ2,e2,em3⟩:=bf em2;obtain⟨x,ρ3,e3,em4⟩:=bf em3;obtain⟨u,ρ4,e4,em5⟩:=bf em4;obtain⟨rfl,rfl⟩:=lq em5;obtain⟨eg,rfl⟩:=gw e3;obtain⟨rfl,t0,b,xs0,es0,hv,hh0,hl0⟩:=ae8 G e0;refine azg (r:=fun x vs H Q=>(∀b xs,x=.ref b->H b=some (.lst xs)->xs.length<=capS)->r x vs H Q) rC slot hty (fun zv s σ H x xs v us Q I rx rv h=>hm zv s σ H x xs v us Q I rx rv (h fun b xs _ hb =>?_)) ho (ha hk) hbase hfew hline hs hplain zv s σ H Q I ?_
 ·obtain⟨z,_⟩:=I.lstM hb;rw[gA] at z;exact z
 refine⟨_,hv,.inl ⟨rfl,_,SqL.of hh0⟩,tg,F,ρ0,ds,ρ1,G,e1,fun vs H1 F1 G1 x1 r1 cap =>?_⟩
 obtain⟨rfl,t,a',xs,es',hv',hh,hl⟩:=ae8 G1 e2;rw[hv] at hv';cases hv';refine hr F1 H1 _ xs vs l ds x.1 x.2 Q G1.sub hh (cap _ _ rfl hh) hl r1 eg fun w ys iw il =>?_
 obtain⟨G2,x2⟩:=akr G1 e4 hv il;exact q w _ F1 G2 (x1.trans x2) iw
def ad5(l ds:List D):Option (D×List D):=match ds with
 | [d]=>if l.length < capS then some (.non,l++[d]) else none
 | _=>none
theorem abt:MutD K ao8 ad5:=by
 intro F H a xs vs l ds d l' Q g hh hc hl hd eg q
 match ds,eg with
 | [d1],eg =>
  have eg:(if l.length < capS then some (D.non,l++[d1]) else none)=some (d,l'):=eg
  split at eg
  ·rename_i hz;cases eg;cases hd with
   | cons h t =>
    cases t;exact⟨a,xs,_,rfl,rfl,hh,by rw[gA,<-hl.length];exact hz,q _ _ .non (hl.append (.cons h .nil))⟩
  ·cases eg
def dSub(i:Nat)(mi m:M D):Sd:=dM m fun d=>dM (mOwn i) fun _=>dM mi fun k=>dM (mOwn i) fun l=>dM (lift ((asI k).bind (ixN l.length))) fun j=>dM (ada i (l.set j d)) fun _=>dNx
theorem acv{i:Nat}{mi m:M D}(h:EV K X e m)(ho:PE X a (tVar i))(hi:EV K X b mi)(hs:swapsWithSole [.Subscript a b p] e pos.line X.env=pure false:=by rfl)(hw:swappedStores [.Subscript a b p] e X.env=pure none:=by rfl)
  (h1:(eV [.Subscript a b p] X.env).map (·.2)=[nD (.Subscript a b p) X.env]:=by rfl)
  (ha:∀v,nD (.Subscript a b p) X.env v=(do
   let ov <-kY [v] (eval a X.env)
   let iv <-kY [v,ov] (eval b X.env)
   standAt p
   kY [v,ov,iv] (setItem ov iv v)
   release [v,ov,iv] []):=by intro _;rfl):SV K X (.Assign [.Subscript a b p] e pos) (dSub i mi m):=SV.mk fun hk=>PS.imp (ao9 (h hk) (ay7 ho (hi hk) set_list ha) hs hw h1) fun E σ H ⟨tg,F,ρ,fl,ρ',G,em,q⟩ =>
 uy em q fun d ρ1 e1 em=>uy em q fun l0 ρ0 e0 em=>uy em q fun k ρ2 e2 em=>uy em q fun l ρ3 e3 em=>uy em q fun j ρ4 e4 em=>uy em q fun u ρ5 e5 em=>by
 cases em;obtain⟨e6,rfl⟩:=gw e4;refine⟨tg,F,ρ,d,ρ1,G,e1,fun v H1 F1 G1 x1 r1 =>?_⟩
 obtain⟨rfl,t0,a0,xs0,es0,hv,hh0,hl0⟩:=ae8 G1 e0;refine⟨_,hv,tg,F1,_,k,ρ2,G1,e2,fun w H2 F2 G2 x2 r2 =>?_⟩
 obtain⟨rfl,t,a1,xs,es1,hv',hh,hl⟩:=ae8 G2 e3;rw[hv] at hv';cases hv';cases ek:asI k with
 | none=>rw[ek] at e6;cases e6
 | some n =>
  rw[ek] at e6;obtain rfl:=amv ek;cases r2;obtain⟨G3,x3⟩:=akr G2 e5 hv (hl.set (r1.mono x2.sub) j);exact⟨_,xs,n,j,rfl,rfl,hh,by rw[<-hl.length];exact e6,q _ _ F2 G3 ((x1.trans x2).trans x3)⟩
def dAug(f:Int->Int->Int)(i:Nat)(m:M D):Sd:=dM (mVar i) fun x=>dM m fun y=>dM (lift ((asI x).bind fun n=>(asI y).map fun k=>D.int (f n k))) fun z ρ=>some (.nx,bJ ρ i (.val z))
end
section
variable{K:Fg9}{X:Cx}{e a b c tgt iter elt:Expr}{es:List Expr}{pos p p2:Pos}{st:Stmt}{ss:List Stmt}
theorem _root_.Mn.ItOf.imp{J:It}{xs:List V}{S S':Hp->Prop}(Z:ItOf J xs S)(h:∀H,S' H->S H):ItOf J xs S':=⟨fun i H q=>Z.go i H (h H q),fun i H x H' q=>Z.yld i H x H' (h H q),fun i H q=>Z.stop i H (h H q)⟩
def Alt(K:Fg9)(F:Hp)(d:D)(x:V)(H H':Hp):Prop:=(H'=H/\Is K F d x)∨∃q vs ds,H q=none/\x=.ref q/\H'=upd H q (.tup vs)/\d=.tup ds/\IsL K F ds vs
structure ItD (K:Fg9) (J:It) (l:List D) (F:Hp):Prop where
 go:∀i H,Same F H->i < l.length->J.go i H
 yld:∀i H x H' d,Same F H->J.yld i H x H'->l[i]? = some d->Alt K F d x H H'
 stop:∀H,Same F H->J.stop l.length H
theorem ItD.of{J:It}{l:List D}{vs:List V}{F:Hp}(il:IsL K F l vs)(Z:ItOf J vs fun H2=>Same F H2):ItD K J l F where
 go:=fun i H s hi=>Z.go i H s (by rw[<-il.length];exact hi)
 yld:=fun i H x H' d s y hd=>by
  obtain⟨v,hv,iv⟩:=il.get hd;obtain⟨e,z⟩:=Z.yld i H x H' s y;have:=z (aM.mp hv).1;rw[hv] at this;cases this;exact .inl ⟨e,iv⟩
 stop:=fun H s=>Z.stop _ H s (by rw[<-il.length];exact aL _)
theorem amx{tg:Nat->Addr}{O:Addr->Prop}{F H F1 F2 H2 H3:Hp}{ρ2:Ro}{σ2:L2.St}{d:D}{x:V}(G2:Good K tg F2 H2 ρ2 σ2)(x2:Ext O (Own ρ2 σ2) F H F2 H2)(s2:Same F1 F2)(a:Alt K F1 d x H2 H3) :
  ∃F3,Good K tg F3 H3 ρ2 σ2/\Ext O (Own ρ2 σ2) F H F3 H3/\Same F1 F3/\Is K F3 d x/\Ext (Own ρ2 σ2) (Own ρ2 σ2) F2 H2 F3 H3:=by
 rcases a with⟨rfl,id⟩ | ⟨q,vs,ds,hq,rfl,rfl,rfl,il⟩
 ·exact⟨F2,G2,x2,s2,id.mono s2,Ext.refl _ _ _⟩
 ·have z:=G2.newX hq (.tup vs);exact⟨_,G2.new hq _,x2.trans z,s2.trans z.sub,.tup jm (il.mono (s2.trans z.sub)),z⟩
theorem axj{J:It}{l:List D}{F:Hp}(Z:ItD K J l F){g:TG}{tb:TS}{D':Ends}{σ:L2.St}{H:Hp}(Pv:Nat->L2.St->Hp->Prop)(h0:Pv 0 σ H)(hl:∀i σ H,i<=l.length->Pv i σ H->Same F H)
  (hs:∀i d x σ H H',l[i]? = some d->Pv i σ H->Alt K F d x H H'->g x σ H' fun σ2 H2=>tb { D' with nx:=Pv (i+1),ct:=Pv (i+1),bk:=D'.nx } σ2 H2) (hd:∀σ H,Pv l.length σ H->D'.nx σ H) :
  ∃W:Nat->Nat->L2.St->Hp->Prop,(∃m,W 0 m σ H)/\∀i m σ H,W i m σ H ->
   (J.stop i H/\D'.nx σ H)∨(J.go i H/\∃N:L2.St->Hp->Prop,(∀σ' H',N σ' H'->∃m',m' < m/\W (i+1) m' σ' H')/\∀x H',J.yld i H x H'->g x σ H' fun σ2 H2=>tb { D' with nx:=N,ct:=N,bk:=D'.nx } σ2 H2):=by
 refine⟨fun i m σ H=>m=l.length - i/\i<=l.length/\Pv i σ H,⟨l.length,by simp,dJ _,h0⟩,?_⟩
 rintro i m σ H ⟨rfl,hi,p⟩
 have q:=hl i σ H hi p
 by_cases hlt:i < l.length
 ·exact .inr ⟨Z.go i H q hlt,Pv (i+1),fun σ' H' p'=>⟨l.length - (i+1),by omega,rfl,hlt,p'⟩,fun x H' y=>hs i _ x σ H H' (aC hlt) p (Z.yld i H x H' _ q y (aC hlt))⟩
 ·have e:i=l.length:=by omega
  subst e;exact .inl ⟨Z.stop H q,hd σ H p⟩
theorem auc{J:It}{l:List D}{F:Hp}(Z:ItD K J l F){d:Addr}{g:TG}{ti:TT}{te:TE}{Q:VK}{σ0:L2.St}{H1:Hp}(Pv:Nat->List V->L2.St->Hp->Prop)(h0:Pv 0 [] σ0 (upd H1 d (.lst [])))
  (hl:∀i ys σ H,i<=l.length->Pv i ys σ H->Same F H/\H d=some (.lst ys))
  (hs:∀i e x ys σ H H' (M:List V->L2.St->Hp->Prop),l[i]? = some e->Pv i ys σ H->Alt K F e x H H'->(∀ys' σ' H',Pv (i+1) ys' σ' H'->M ys' σ' H') ->
   g x σ H' fun σ4 H4=>ti σ4 H4 fun b H5=>if b=true then te σ4 H5 fun y H6=>H6 d=some (.lst ys)/\ys.length < bV/\M (ys++[y]) σ4 (upd H6 d (.lst (ys++[y]))) else M ys σ4 H5)
  (hd:∀ys σ H,Pv l.length ys σ H->Q (.ref d) H):a1e J g ti te Q d σ0 H1:=by
 refine⟨fun i m ys σ H=>m=l.length - i/\i<=l.length/\Pv i ys σ H,⟨l.length,by simp,dJ _,h0⟩,?_⟩
 rintro i m ys σ H ⟨rfl,hi,p⟩
 obtain⟨q,e⟩:=hl i ys σ H hi p;refine⟨e,?_⟩
 by_cases hlt:i < l.length
 ·exact .inr ⟨Z.go i H q hlt,fun x H' y=>hs i _ x ys σ H H' (fun ys' σ' H'=>∃m',m' < l.length - i/\(m'=l.length - (i+1)/\i+1<=l.length/\Pv (i+1) ys' σ' H')) (aC hlt) p (Z.yld i H x H' _ q y (aC hlt)) fun ys' σ' H' p'=>⟨l.length - (i+1),by omega,rfl,hlt,p'⟩⟩
 ·have e:i=l.length:=by omega
  subst e;exact .inl ⟨Z.stop H q,hd ys σ H p⟩
def TIt(K:Fg9)(m:M (List D)):TI:=fun σ H R=>∃tg F ρ l ρ',Good K tg F H ρ σ/\m ρ=some (.ok l,ρ')/\∀J H' F',Good K tg F' H' ρ' σ->Ext (Own ρ σ) (Own ρ' σ) F H F' H'->ItD K J l F'->R J H'
structure IT (K:Fg9) (X:Cx) (tgt iter:Expr) (m:M (List D)):Prop where
 go:X.K=K->PI X tgt iter (TIt K m)
instance {K:Fg9} {X:Cx} {tgt iter:Expr} {m:M (List D)}:CoeFun (IT K X tgt iter m) fun _=>X.K=K->PI X tgt iter (TIt K m):=⟨IT.go⟩
def vp(m:M D):M (List D):=m.bind fun d=>lift (itemsD d)
theorem za{m:M D}(h:EV K X iter m):IT K X tgt iter (vp m):=IT.mk fun hk=>by
 intro zv s σ H R I ⟨tg,F,ρ,l,ρ',G,em,q⟩;obtain⟨d,ρ1,e1,em⟩:=bf em;obtain⟨e2,rfl⟩:=gw em;have h:=h hk;subst hk;cases d with
 | tup k =>
  cases e2;refine ay6 h zv s σ H R I ⟨tg,F,ρ,_,_,G,e1,fun v H' F' G' x r =>?_⟩
  cases r with
  | @tup a vs _ e hl=>exact⟨a,rfl,⟨vs,SqT.of (G'.sub _ _ e)⟩,q _ H' F' G' x (.of hl (atg.imp fun H2 g=>SqT.of (g _ _ e)))⟩
 | lst k =>
  cases e2;refine ape h zv s σ H R I ⟨tg,F,ρ,_,_,G,e1,fun v H' F' G' x r =>?_⟩
  cases r with
  | @lst a vs _ e hl=>exact⟨a,rfl,⟨vs,SqL.of (G'.sub _ _ e)⟩,q _ H' F' G' x (.of hl (al6.imp fun H2 g=>SqL.of (g _ _ e)))⟩
 | kst k =>
  cases e2;refine ape h zv s σ H R I ⟨tg,F,ρ,_,_,G,e1,fun v H' F' G' x r =>?_⟩
  cases r with
  | @kst a vs _ e hl=>exact⟨a,rfl,⟨vs,L2.Same.seq G'.sub e⟩,q _ H' F' G' x (.of hl (al6.imp fun H2 g=>L2.Same.seq g e))⟩
 | _=>cases e2
def jg(lo:Int)(n:Nat):List D:=(aY n).map fun i=>D.int (lo+(i:Nat))
theorem aln{F:Hp}(lo:Int)(n:Nat):IsL K F (jg lo n) (ups lo n):=by
 have e1:jg lo n=((aY n).map fun i=>lo+((i:Nat):Int)).map D.int:=by unfold jg;rw[fG];rfl
 have e2:ups lo n=((aY n).map fun i=>lo+((i:Nat):Int)).map V.int:=by unfold ups;rw[fG];rfl
 rw[e1,e2];exact aeu _
theorem a1b{j:Int}(h:j.natAbs < 4611686018427387904) : -2 ^ 62<=j/\j < 2 ^ 62:=by
 have e:(2:Int) ^ 62=4611686018427387904:=by decide
 rw[e];omega
def uw:List D->Option (List D)
 | [.int j]=>if j.natAbs < 4611686018427387904 then some (jg 0 j.toNat) else none
 | _=>none
def aw5:List D->Option (List D)
 | [.int i,.int j]=>if i.natAbs < 4611686018427387904/\j.natAbs < 4611686018427387904 then some (jg i (j - i).toNat) else none
 | _=>none
def mGet{α β:Type}(g:α->Option β)(m:M α):M β:=m.bind fun ds=>lift (g ds)
theorem vg{m:M (List D)}(hg:Gl X "range")(hm:X.mg "range" = none)(h:ED K X [a] m)(hs:aW [a] X.env=[(false,eval a X.env)]:=by rfl):IT K X tgt (.Call (.Name "range" p) [a] [] pos) (mGet uw m):=IT.mk fun hk=>by
 intro zv s σ H R I ⟨tg,F,ρ,l,ρ',G,em,q⟩;obtain⟨ds,ρ1,e1,em⟩:=bf em;obtain⟨e2,rfl⟩:=gw em;refine apd hg hm (h hk) hs zv s σ H R I ⟨tg,F,ρ,ds,_,G,e1,fun vs H' F' G' x r =>?_⟩
 unfold uw at e2;split at e2
 ·split at e2
  ·rename_i j hc;cases e2;cases r with
   | cons h t =>
    cases t;cases h;exact⟨_,rfl,(a1b hc).1,(a1b hc).2,q _ H' F' G' x (.of (aln 0 _) (ath.imp fun _ _=>trivial))⟩
  ·cases e2
 ·cases e2
noncomputable def forD(b:D->Ro->Option Ro)(g:Sd):List D->Sd
 | [],ρ=>some (.nx,ρ)
 | d::ds,ρ=>match b d ρ with
  | none=>none
  | some ρ1=>match g ρ1 with
   | some (.nx,ρ2)=>forD b g ds ρ2
   | some (.cont,ρ2)=>forD b g ds ρ2
   | some (.brk,ρ2)=>some (.nx,ρ2)
   | some (.ret r,ρ2)=>some (.ret r,ρ2)
   | some (.exc x,ρ2)=>some (.exc x,ρ2)
   | none=>none
def dFor(m:M (List D))(b:D->Ro->Option Ro)(g:Sd):Sd:=dM m (forD b g)
theorem z8{m:M (List D)}{b:D->Ro->Option Ro}{g:Sd}(hp:rQ (model X.prog X.w) X.A X.env X.xe)(hc:X.calm=true)(hi:IT K X tgt iter m)(hg:GV K X tgt b)(hb:SVs K X ss g)
  (hs:∀x,foldedSetIterable iter X.env x=pure x:=by intro _;rfl):SV K X (.For tgt iter ss [] pos) (dFor m b g):=SV.mk fun hk=>PS.imp (ay5 hp hc (hi hk) (hg hk) (hb hk) hs) fun E σ H ⟨tg,F,ρ,fl,ρ',G,em,q⟩=>uy em q fun l ρ1 e1 em=>by
 refine⟨tg,F,ρ,l,ρ1,G,e1,fun J H1 F1 G1 x1 Z =>?_⟩
 refine axj Z (fun i σ2 H2=>∃F2 ρ2,Good K tg F2 H2 ρ2 σ2/\Ext (Own ρ σ) (Own ρ2 σ2) F H F2 H2/\Same F1 F2/\forD b g (l.drop i) ρ2=some (fl,ρ')) ⟨F1,ρ1,G1,x1,Same.refl _,em⟩ (fun i σ2 H2 _ ⟨F2,ρ2,G2,_,s2,_⟩=>s2.trans G2.sub) ?_ ?_
 ·rintro i d x σ2 H2' H2 hd ⟨F2',ρ2,G2',x2',s2',em2⟩ al
  obtain⟨F2,G2,x2,s2,id,_⟩:=amx G2' x2' s2' al;have hlt:i < l.length:=(aM.mp hd).1;have ed:l[i]=d:=(aM.mp hd).2;rw[lD hlt,ed] at em2;unfold forD at em2;split at em2
  ·cases em2
  ·rename_i ρ3 e3;refine⟨tg,F2,ρ2,d,ρ3,G2,id,e3,fun σ3 H3 F3 G3 x3 =>?_⟩
   have again:∀{ρ4:Ro},forD b g (l.drop (i+1)) ρ4=some (fl,ρ')->∀σ' H' F',Good K tg F' H' ρ4 σ'->Ext (Own ρ3 σ3) (Own ρ4 σ') F3 H3 F' H' ->
     ∃F2 ρ2,Good K tg F2 H' ρ2 σ'/\Ext (Own ρ σ) (Own ρ2 σ') F H F2 H'/\Same F1 F2/\forD b g (l.drop (i+1)) ρ2=some (fl,ρ') :=
    fun{ρ4} e4 σ' H' F' G' x'=>⟨F',ρ4,G',(x2.trans x3).trans x',(s2.trans x3.sub).trans x'.sub,e4⟩
   split at em2
   ·rename_i ρ4 e4;exact⟨tg,F3,ρ3,.nx,ρ4,G3,e4,again em2⟩
   ·rename_i ρ4 e4;exact⟨tg,F3,ρ3,.cont,ρ4,G3,e4,again em2⟩
   ·rename_i ρ4 e4;cases em2;exact⟨tg,F3,ρ3,.brk,_,G3,e4,fun σ' H' F' G' x'=>q σ' H' F' G' ((x2.trans x3).trans x')⟩
   ·rename_i r ρ4 e4;cases em2;exact⟨tg,F3,ρ3,.ret r,_,G3,e4,fun v σ' H' F' G' x' rr=>q v σ' H' F' G' ((x2.trans x3).trans x') (nj (x2.trans x3) rr)⟩
   ·cases em2;exact(show False from q).elim
   ·cases em2
 ·rintro σ2 H2 ⟨F2,ρ2,G2,x2,s2,em2⟩
  rw[rO (aL _)] at em2;cases em2;exact q σ2 H2 F2 G2 x2
noncomputable def whileD(c:M Bool)(g:Sd):Nat->Sd
 | 0,_=>none
 | n+1,ρ=>match c ρ with
  | some (.ok true,ρ1)=>match g ρ1 with
   | some (.nx,ρ2)=>whileD c g n ρ2
   | some (.cont,ρ2)=>whileD c g n ρ2
   | some (.brk,ρ2)=>some (.nx,ρ2)
   | some (.ret r,ρ2)=>some (.ret r,ρ2)
   | some (.exc x,ρ2)=>some (.exc x,ρ2)
   | none=>none
  | some (.ok false,ρ1)=>some (.nx,ρ1)
  | some (.exc x,ρ1)=>some (.exc x,ρ1)
  | none=>none
theorem acu{m:M Bool}{g:Sd}(n:Nat)(hp:rQ (model X.prog X.w) X.A X.env X.xe)(hc:ET K X c m)(hb:SVs K X ss g):SV K X (.While c ss [] pos) (whileD m g n):=SV.mk fun hk=>PS.imp (asi hp (hc hk) (hb hk)) fun E σ H hq0=>by
 obtain⟨tg,F,ρ,fl,ρ',G,em,q⟩:=hq0;refine⟨fun k σ2 H2=>∃F2 ρ2,Good K tg F2 H2 ρ2 σ2/\Ext (Own ρ σ) (Own ρ2 σ2) F H F2 H2/\whileD m g k ρ2=some (fl,ρ'),⟨n,F,ρ,G,Ext.refl _ _ _,em⟩,?_⟩
 rintro k σ2 H2 ⟨F2,ρ2,G2,x2,em2⟩
 cases k with
 | zero=>cases em2
 | succ k =>
  unfold whileD at em2;split at em2
  ·rename_i ρ3 e3;refine⟨tg,F2,ρ2,true,ρ3,G2,e3,fun H3 F3 G3 x3=>iteT ?_⟩
   refine⟨fun σ' H'=>∃F2 ρ2,Good K tg F2 H' ρ2 σ'/\Ext (Own ρ σ) (Own ρ2 σ') F H F2 H'/\whileD m g k ρ2=some (fl,ρ'),fun σ' H' h=>⟨k,iU k,h⟩,?_⟩
   split at em2
   ·rename_i ρ4 e4;exact⟨tg,F3,ρ3,.nx,ρ4,G3,e4,fun σ' H' F' G' x'=>⟨F',ρ4,G',(x2.trans x3).trans x',em2⟩⟩
   ·rename_i ρ4 e4;exact⟨tg,F3,ρ3,.cont,ρ4,G3,e4,fun σ' H' F' G' x'=>⟨F',ρ4,G',(x2.trans x3).trans x',em2⟩⟩
   ·rename_i ρ4 e4;cases em2;exact⟨tg,F3,ρ3,.brk,_,G3,e4,fun σ' H' F' G' x'=>q σ' H' F' G' ((x2.trans x3).trans x')⟩
   ·rename_i r ρ4 e4;cases em2;exact⟨tg,F3,ρ3,.ret r,_,G3,e4,fun v σ' H' F' G' x' rr=>q v σ' H' F' G' ((x2.trans x3).trans x') (nj (x2.trans x3) rr)⟩
   ·cases em2;exact(show False from q).elim
   ·cases em2
  ·rename_i ρ3 e3;cases em2;exact⟨tg,F2,ρ2,false,_,G2,e3,fun H3 F3 G3 x3=>iteF (q σ2 H3 F3 G3 (x2.trans x3))⟩
  ·cases em2;exact(show False from q).elim
  ·cases em2
end
def ajh(ρ:Ro)(i:Nat)(o:Option Nat)(d:Option D):Sl:=match o with
 | some j=>match ρ[j]? with
  | some (.val d)=>.val d
  | some (.own _ l)=>.own (some i) l
  | _=>.emp
 | none=>match d with
  | some d=>.val d
  | none=>.emp
def lend(ρ:Ro)(js:List (Option Nat))(ds:List (Option D)):Ro:=(rF js ds).mapIdx fun i p=>ajh ρ i p.1 p.2
def okJs(ρ:Ro):List (Option Nat)->Bool
 | []=>true
 | none::r=>okJs ρ r
 | some j::r=>(match ρ[j]? with
  | some (.own _ _) => !r.contains (some j)
  | _=>true)&&okJs ρ r
theorem ahr{ρ:Ro}:∀{js:List (Option Nat)} {i i' j:Nat} {t:Option Nat} {l:List D},okJs ρ js=true->js[i]? = some (some j)->js[i']? = some (some j)->ρ[j]? = some (.own t l)->i=i'
 | [],_,_,_,_,_,_,h,_,_=>by simp at h
 | o::r,0,0,_,_,_,_,_,_,_=>rfl
 | o::r,0,i'+1,j,t,l,hk,h,h',e=>by
  simp at h h';subst h;unfold okJs at hk;rw[e,bA] at hk;have:=cY h';simp[this] at hk
 | o::r,i+1,0,j,t,l,hk,h,h',e=>by
  simp at h h';subst h';unfold okJs at hk;rw[e,bA] at hk;have:=cY h;simp[this] at hk
 | none::r,i+1,i'+1,j,t,l,hk,h,h',e=>by
  rw[ahr (js:=r) (i:=i) (i':=i') (j:=j) (by unfold okJs at hk;exact hk) (by simpa using h) (by simpa using h') e]
 | some k::r,i+1,i'+1,j,t,l,hk,h,h',e=>by
  unfold okJs at hk;rw[bA] at hk;rw[ahr (js:=r) (i:=i) (i':=i') (j:=j) hk.2 (by simpa using h) (by simpa using h') e]
def putS(js:List (Option Nat))(ps:Ro)(j:Nat)(s:Sl):Sl:=match js.findIdx? (fun o=>o==some j) with
 | none=>s
 | some i=>match s with
  | .own t _=>match ps[i]? with
   | some (.own (some i') l')=>if i'=i then .own t l' else .emp
   | _=>.emp
  | s=>s
def putB(ρ:Ro)(js:List (Option Nat))(ps:Ro):Ro:=ρ.mapIdx fun j s=>putS js ps j s
def tgOf(τ:L2.St)(i:Nat):Addr:=match τ[i]? with
 | some (some (.ref a))=>a
 | _=>0
section
variable{K:Fg9}{tg:Nat->Addr}{F H F' H':Hp}{ρ ps:Ro}{σ τ:L2.St}{js:List (Option Nat)}{ds:List (Option D)}{O':Addr->Prop}
theorem al2{i:Nat}{s:Sl}(h:(lend ρ js ds:List Sl)[i]? = some s):∃o d,js[i]? = some o/\ds[i]? = some d/\s=ajh ρ i o d:=by
 unfold lend at h;rw[mZ] at h;cases e:(rF js ds)[i]? with
 | none=>rw[e] at h;cases h
 | some p =>
  rw[e] at h;cases h;rw[qN] at e;exact⟨p.1,p.2,e.1,e.2,rfl⟩
theorem as8{i:Nat}{t:Option Nat}{l:List D}(h:(lend ρ js ds:List Sl)[i]? = some (.own t l)):∃j t',js[i]? = some (some j)/\ρ[j]? = some (.own t' l)/\t=some i:=by
 obtain⟨o,d,e1,e2,e3⟩:=al2 h;unfold ajh at e3;cases o with
 | none=>cases d <;> cases e3
 | some j =>
  simp only at e3;cases e:ρ[j]? with
  | none=>rw[e] at e3;cases e3
  | some s =>
   rw[e] at e3;cases s with
   | emp=>cases e3
   | val _=>cases e3
   | box _ _=>cases e3
   | own t' l'=>cases e3;exact⟨j,t',e1,e,rfl⟩
structure Lent (K:Fg9) (F:Hp) (σ τ:L2.St) (js:List (Option Nat)) (ds:List (Option D)):Prop where
 l1:τ.length=js.length
 l2:ds.length=js.length
 h1:∀(i j:Nat) (o:Option V),js[i]? = some (some j)->σ[j]? = some o->τ[i]? = some o
 h2:∀(i:Nat) (d:D),js[i]? = some none->ds[i]? = some (some d)->∃v,τ[i]? = some (some v)/\Is K F d v
theorem Good.σ_at(G:Good K tg F H ρ σ){j:Nat}{s:Sl}(e:(ρ:List Sl)[j]? = some s):∃o,σ[j]? = some o:=by
 obtain⟨o,h,_⟩:=G.at e;exact⟨o,h⟩
theorem abv(G:Good K tg F H ρ σ)(L:Lent K F σ τ js ds){i:Nat}{a:Addr}(h:Owns (lend ρ js ds) τ i a):∃j,js[i]? = some (some j)/\Owns ρ σ j a:=by
 obtain⟨⟨t,l,e⟩,q⟩:=h;obtain⟨j,t',e1,e2,_⟩:=as8 e;obtain⟨o,ho⟩:=G.σ_at e2;have:=L.h1 i j o e1 ho;rw[q] at this;cases this;exact⟨j,e1,⟨t',l,e2⟩,ho⟩
theorem ajg(G:Good K tg F H ρ σ)(hk:okJs ρ js=true)(L:Lent K F σ τ js ds):Good K (tgOf τ) F H (lend ρ js ds) τ where
 sub:=G.sub
 len:=by
  unfold lend;rw[tD,pU,L.l2,L.l1];omega
 sl:=fun i s o e q=>by
  obtain⟨oj,d,e1,e2,rfl⟩:=al2 e;unfold ajh;cases oj with
  | none =>
   cases d with
   | none=>trivial
   | some d =>
    obtain⟨v,h1,h2⟩:=L.h2 i d e1 e2;rw[q] at h1;cases h1;exact⟨v,rfl,h2⟩
  | some j =>
   simp only;cases e3:ρ[j]? with
   | none=>trivial
   | some s =>
    obtain⟨o',ho,w⟩:=G.at e3;have:=L.h1 i j o' e1 ho;rw[q] at this;cases this;cases s with
    | emp=>trivial
    | val d=>exact w
    | box _ _=>trivial
    | own t l =>
     obtain⟨a,vs,rfl,hf,hh,hl,_⟩:=w;refine⟨a,vs,rfl,hf,hh,hl,fun k e =>?_⟩
     cases e;unfold tgOf;rw[q]
 inj:=fun i i' a w w'=>by
  obtain⟨j,e,v⟩:=abv G L w;obtain⟨j',e',v'⟩:=abv G L w';have:=G.inj j j' a v v';subst this;obtain⟨⟨t,l,z⟩,_⟩:=v;exact ahr hk e e' z
structure Fin (K:Fg9) (F' H':Hp) (τ:L2.St) (ps:Ro) (O':Addr->Prop):Prop where
 at':∀(i:Nat) (l:List D),(ps:List Sl)[i]? = some (.own (some i) l)->O' (tgOf τ i)/\F' (tgOf τ i)=none/\∃vs,H' (tgOf τ i)=some (.lst vs)/\IsL K F' l vs
theorem ahg{j:Nat}{s:Sl}(h:(putB ρ js ps:List Sl)[j]? = some s):∃s0:Sl,(ρ:List Sl)[j]? = some s0/\((∃t l,s0=Sl.own t l/\∃i:Nat,js[i]? = some (some j)/\((∃l',(ps:List Sl)[i]? = some (Sl.own (some i) l')/\s=Sl.own t l')∨s=Sl.emp)) ∨
  (s=s0/\∀t l,s0=Sl.own t l->∀i:Nat,js[i]? ≠ some (some j))):=by
 unfold putB at h;rw[mZ] at h;cases e:(ρ:List Sl)[j]? with
 | none=>rw[e] at h;cases h
 | some s0 =>
  rw[e] at h;refine⟨s0,rfl,?_⟩;have h:putS js ps j s0=s:=bK h;unfold putS at h;cases ei:js.findIdx? (fun o=>o==some j) with
  | none =>
   rw[ei] at h;have h:s0=s:=h;refine .inr ⟨h.symm,fun _ _ _ i z =>?_⟩
   rw[lC] at ei;have:=ei _ (cY z);simp at this
  | some i =>
   rw[ei] at h;cases s0 with
   | emp=>exact .inr ⟨(show Sl.emp=s from h).symm,fun t l z=>by cases z⟩
   | val d=>exact .inr ⟨(show Sl.val d=s from h).symm,fun t l z=>by cases z⟩
   | box c fs=>exact .inr ⟨(show Sl.box c fs=s from h).symm,fun t l z=>by cases z⟩
   | own t l =>
    refine .inl ⟨t,l,rfl,i,?_,?_⟩
    ·obtain⟨hi,hb,_⟩:=fZ.mp ei;rw[aC hi];exact congrArg some (eq_of_beq hb)
    ·have h:(match (ps:List Sl)[i]? with
      | some (.own (some i') l')=>if i'=i then Sl.own t l' else .emp
      | _=>.emp)=s:=h
     cases ep:(ps:List Sl)[i]? with
     | none=>rw[ep] at h;exact .inr h.symm
     | some sp =>
      rw[ep] at h;cases sp with
      | emp=>exact .inr h.symm
      | val _=>exact .inr h.symm
      | box _ _=>exact .inr h.symm
      | own t' l' =>
       cases t' with
       | none=>exact .inr h.symm
       | some i' =>
        have h2:(if i'=i then Sl.own t l' else .emp)=s:=h
        by_cases z:i'=i
        ·subst z;rw[if_pos rfl] at h2;exact .inl ⟨l',rfl,h2.symm⟩
        ·rw[if_neg z] at h2;exact .inr h2.symm
theorem adm{j:Nat}{a:Addr}(h:Owns (putB ρ js ps) σ j a):Owns ρ σ j a:=by
 obtain⟨⟨t,l,e⟩,q⟩:=h;obtain⟨s0,e0,h | ⟨rfl,_⟩⟩:=ahg e
 ·obtain⟨t',l',rfl,i,_,⟨l2,_,z⟩ | z⟩:=h
  ·exact⟨⟨t',l',e0⟩,q⟩
  ·cases z
 ·exact⟨⟨t,l,e0⟩,q⟩
theorem aj5(G:Good K tg F H ρ σ)(L:Lent K F σ τ js ds)(x:Ext (Own (lend ρ js ds) τ) O' F H F' H')(s':Same F' H')(fin:Fin K F' H' τ ps O'):Good K tg F' H' (putB ρ js ps) σ where
 sub:=s'
 len:=by
  unfold putB;rw[tD];exact G.len
 sl:=fun j s o e q=>by
  obtain⟨s0,e0,h | ⟨rfl,hn⟩⟩:=ahg e
  ·obtain⟨t,l,rfl,i,ei,⟨l',ep,rfl⟩ | rfl⟩:=h
   ·obtain⟨a,vs,rfl,hf,hh,hl,ht⟩:=G.sl j _ _ e0 q;obtain⟨_,hf',ws,hh',hl'⟩:=fin.at' i l' ep;have:=L.h1 i j _ ei q;have et:tgOf τ i=a:=by
     unfold tgOf;rw[this]
    rw[et] at hf' hh';exact⟨a,ws,rfl,hf',hh',hl',ht⟩
   ·trivial
  ·have w:=G.sl j _ _ e0 q;cases s with
   | emp=>trivial
   | val d =>
    obtain⟨v,h1,h2⟩:=w;exact⟨v,h1,h2.mono x.sub⟩
   | box c fs =>
    obtain⟨a,C,dx,fvs,e1,e2,e3,e4,e7,e5,e6⟩:=w;have no:¬Own (lend ρ js ds) τ a:=fun⟨i,z⟩=>by
     obtain⟨j',_,v⟩:=abv G L z;obtain⟨_,vs,hv⟩:=G.ownAt ⟨j',v⟩;rw[e3] at hv;cases hv
    have hf:F' a=none:=by
     cases z:F' a with
     | none=>rfl
     | some o =>
      rcases x.new a o z with z | z | z
      ·rw[e2] at z;cases z
      ·rw[e3] at z;cases z
      ·exact absurd z no
    exact⟨a,C,dx,fvs,e1,hf,x.keep a _ e3 no,e4,e7,e5,fun f d h=>(e6 f d h).imp fun v h=>⟨h.1,h.2.mono x.sub⟩⟩
   | own t l =>
    obtain⟨a,vs,rfl,hf,hh,hl,ht⟩:=w;have no:¬Own (lend ρ js ds) τ a:=fun⟨i,z⟩=>by
     obtain⟨j',e1,v⟩:=abv G L z;have:=G.inj j' j a v ⟨⟨t,l,e0⟩,q⟩;subst this;exact hn t l rfl i e1
    refine⟨a,vs,rfl,?_,x.keep a _ hh no,hl.mono x.sub,ht⟩;cases z:F' a with
    | none=>rfl
    | some o =>
     rcases x.new a o z with z | z | z
     ·rw[hf] at z;cases z
     ·rw[hh] at z;cases z
     ·exact absurd z no
 inj:=fun i j a w w'=>G.inj i j a (adm w) (adm w')
theorem aaq(G:Good K tg F H ρ σ)(L:Lent K F σ τ js ds){a:Addr}(h:Own (lend ρ js ds) τ a):Own ρ σ a:=by
 obtain⟨i,h⟩:=h;obtain⟨j,_,h⟩:=abv G L h;exact⟨j,h⟩
theorem ams(G:Good K tg F H ρ σ)(L:Lent K F σ τ js ds)(x:Ext (Own (lend ρ js ds) τ) O' F H F' H'):Ext (Own ρ σ) (Own (putB ρ js ps) σ) F H F' H' where
 sub:=x.sub
 new:=fun a o e=>by
  rcases x.new a o e with z | z | z
  ·exact .inl z
  ·exact .inr (.inl z)
  ·exact .inr (.inr (aaq G L z))
 keep:=fun a o e n=>x.keep a o e fun z=>n (aaq G L z)
 own:=fun a ⟨j,w⟩=>.inl ⟨j,adm w⟩
 there:=x.there
theorem arh(G:Good K tg F H ρ σ)(L:Lent K F σ τ js ds)(fin:Fin K F' H' τ ps O'){a:Addr}(ha:H a=none∨Own (lend ρ js ds) τ a)(hn:¬O' a):¬Own (putB ρ js ps) σ a:=fun⟨j,w⟩=>by
 have v:=adm w;obtain⟨⟨t,l2,e⟩,q⟩:=w;obtain⟨s0,e0,z | ⟨rfl,hno⟩⟩:=ahg e
 ·obtain⟨t',l',rfl,i,ei,⟨l3,ep,z⟩ | z⟩:=z
  ·have et:tgOf τ i=a:=by
    unfold tgOf;rw[L.h1 i j _ ei q]
   have:=(fin.at' i l3 ep).1;rw[et] at this;exact hn this
  ·cases z
 ·rcases ha with ha | ⟨i,z⟩
  ·obtain⟨a',vs',ea,_,e2,_⟩:=G.sl j _ _ e0 q;cases ea;rw[ha] at e2;cases e2
  ·obtain⟨j',e1,v'⟩:=abv G L z;have:=G.inj j' j a v' v;subst this;exact hno t l2 rfl i e1
theorem auj(G:Good K tg F H ρ σ)(L:Lent K F σ τ js ds)(fin:Fin K F' H' τ ps O'){r:Rv}{v:V}(h:relR K r v H (Own (lend ρ js ds) τ) F' H' O'):relR K r v H (Own ρ σ) F' H' (Own (putB ρ js ps) σ):=by
 cases r with
 | v d=>exact h
 | fr l =>
  obtain⟨a,vs,rfl,ha,hf,hh,hl,hn⟩:=h;exact⟨a,vs,rfl,ha.imp id (aaq G L),hf,hh,hl,arh G L fin ha hn⟩
 | tf d l =>
  obtain⟨t,u,a,vs,rfl,ht,hd,ha,hf,hh,hl,hn⟩:=h;exact⟨t,u,a,vs,rfl,ht,hd,ha.imp id (aaq G L),hf,hh,hl,arh G L fin ha hn⟩
end
abbrev Fd:=Ro->Option (Out Rv×Ro)
noncomputable def fnD(nl np:Nat)(g:Sd):Fd:=fun as=>match g (as++aG (nl - np) .emp) with
 | some (.ret r,ρ)=>some (.ok r,ρ.take np)
 | some (.nx,ρ)=>some (.ok (.v .non),ρ.take np)
 | some (.exc x,ρ)=>some (.exc x,ρ.take np)
 | _=>none
def spOf(K:Fg9)(n:Nat)(f:Fd):Sp:=fun vs H Q _=>vs.length=n/\∃F as r ps,Good K (tgOf (vs.map some)) F H as (vs.map some)/\f as=some (.ok r,ps) /\
 ∀v H' F' O',Same F' H'->Ext (Own as (vs.map some)) O' F H F' H'->Fin K F' H' (vs.map some) ps O'->relR K r v H (Own as (vs.map some)) F' H' O'->Q v H'
section
variable{K:Fg9}
theorem awf{as:Ro}{τ:L2.St}{n:Nat}{a:Addr}(hl:as.length=τ.length)(h:Own (as++aG n .emp) (τ++aG n none) a):Own as τ a:=by
 obtain⟨i,⟨t,l,e⟩,q⟩:=h
 by_cases hi:i < as.length
 ·rw[cL hi] at e;rw[cL (by omega)] at q
  exact⟨i,⟨t,l,e⟩,q⟩
 ·rw[fV (by omega),fM] at e
  split at e <;> cases e
theorem ass{as:Ro}{τ:L2.St}{n:Nat}{a:Addr}(hl:as.length=τ.length)(h:Own as τ a):Own (as++aG n .emp) (τ++aG n none) a:=by
 obtain⟨i,⟨t,l,e⟩,q⟩:=h;have hi:=(aM.mp e).1;exact⟨i,⟨t,l,by rw[cL hi];exact e⟩,by rw[cL (by omega)];exact q⟩
theorem agp{as:Ro}{τ:L2.St}{n:Nat}(hl:as.length=τ.length):Own (as++aG n .emp) (τ++aG n none)=Own as τ:=funext fun a=>propext ⟨awf hl,ass hl⟩
theorem Good.app{tg:Nat->Addr}{F H:Hp}{as:Ro}{τ:L2.St}(G:Good K tg F H as τ)(n:Nat):Good K tg F H (as++aG n .emp) (τ++aG n none) where
 sub:=G.sub
 len:=by rw[cG,cG,G.len,cU,cU]
 sl:=fun i s o e q=>by
  have hl:=G.len
  by_cases hi:i < as.length
  ·rw[cL hi] at e;rw[cL (by omega)] at q
   exact G.sl i s o e q
  ·rw[fV (by omega),fM] at e
   split at e
   ·cases e;trivial
   ·cases e
 inj:=fun i j a w w'=>by
  have hl:=G.len;have f:∀k,Owns (as++aG n .emp) (τ++aG n none) k a->Owns as τ k a:=fun k ⟨⟨t,l,e⟩,q⟩=>by
   by_cases hi:k < as.length
   ·rw[cL hi] at e;rw[cL (by omega)] at q
    exact⟨⟨t,l,e⟩,q⟩
   ·rw[fV (by omega),fM] at e
    split at e <;> cases e
  exact G.inj i j a (f i w) (f j w')
theorem a5n{P:bI}{w:World}{mg:Str->Option Value}{base:Heap}{x qual:Str}{st:Stmt}{f:Addr}{fd:fO}{N ps:List Str}{k:Nat}{g:Sd}(F:Fun K x qual st f fd)(S:FnScope N ps (ak st))
  (body:∀(cdv:Value) (A:cM) (outer:List Env) (s:aJ) (H:Hp) (E:XK),Room k (A.deeper (nR qual (ak st) s.heap.objs.size f cdv))->SVs K (cxOf CX0 P w K mg base N qual (ak st) f cdv A outer s H E).nox (dj st) g) :
  FnOk P w K mg base CX0 (k+1) f fd ps (spOf K ps.length (fnD N.length ps.length g)):=by
 refine F.ok S (fun vs H Q E h=>h.1) (fun cdv A outer s H vs Q E hr h=>⟨_,body cdv A outer s H E hr rfl,?_⟩)
 obtain⟨hn,F,as,r,ps',G,em,q⟩:=h;have hl:as.length=(vs.map some).length:=G.len;have G1:=G.app (N.length - vs.length);have es:start N vs=vs.map some++aG (N.length - vs.length) none:=rfl;rw[es];unfold fnD at em;rw[<-hn] at em;have fin:∀{ρ':Ro} {σ':L2.St} {F' H':Hp},Good K (tgOf (vs.map some)) F' H' ρ' σ'->Fin K F' H' (vs.map some) (ρ'.take vs.length) (Own ρ' σ'):=fun{ρ' σ' F' H'} G'=>⟨fun i l e=>by
  have hi:=(aM.mp e).1;rw[gQ] at hi;rw[qX (by omega)] at e
  obtain⟨o,ho,a,ws,rfl,hf,hh,hl,ht⟩:=G'.at e;rw[ht i rfl];exact⟨⟨i,⟨_,_,e⟩,ho⟩,hf,ws,hh,hl⟩⟩
 split at em
 ·rename_i r' ρ' e;cases em;refine⟨_,F,_,.ret r,ρ',G1,e,fun v σ' H' F' G' x' rr =>?_⟩
  rw[agp hl] at x' rr;exact q v H' F' (Own ρ' σ') G'.sub x' (fin G') rr
 ·rename_i ρ' e;cases em;refine⟨_,F,_,.nx,ρ',G1,e,fun σ' H' F' G' x' =>?_⟩
  rw[agp hl] at x';exact q .non H' F' (Own ρ' σ') G'.sub x' (fin G') .non
 ·cases em
 ·cases em
end
section
variable{K:Fg9}{X:Cx}{e a b c tgt iter elt:Expr}{es:List Expr}{pos p p2:Pos}
inductive AR (K:Fg9) (F:Hp) (σ:L2.St):List (Option Nat)->List (Option D)->List V->Prop
 | nil:AR K F σ [] [] []
 | ex {d:D} {v:V} {js:List (Option Nat)} {ds:List (Option D)} {vs:List V} (h:Is K F d v) (t:AR K F σ js ds vs):AR K F σ (none::js) (some d::ds) (v::vs)
 | nm {j:Nat} {v:V} {js:List (Option Nat)} {ds:List (Option D)} {vs:List V} (h:σ[j]? = some (some v)) (t:AR K F σ js ds vs):AR K F σ (some j::js) (none::ds) (v::vs)
theorem AR.lent{F:Hp}{σ:L2.St}:∀{js:List (Option Nat)} {ds:List (Option D)} {vs:List V},AR K F σ js ds vs->Lent K F σ (vs.map some) js ds
 | _,_,_,.nil=>⟨rfl,rfl,fun i j o h=>by simp at h,fun i d h=>by simp at h⟩
 | _,_,_,.ex h t=>by
  have L:=t.lent;refine⟨by simp[by simpa using L.l1],by simp[L.l2],fun i j o h q =>?_,fun i d h q =>?_⟩
  ·cases i with
   | zero=>simp at h
   | succ i=>simpa using L.h1 i j o (by simpa using h) q
  ·cases i with
   | zero=>simp at q;subst q;exact⟨_,rfl,‹_›⟩
   | succ i=>simpa using L.h2 i d (by simpa using h) (by simpa using q)
 | _,_,_,.nm h t=>by
  have L:=t.lent;refine⟨by simp[by simpa using L.l1],by simp[L.l2],fun i j o h' q =>?_,fun i d h' q =>?_⟩
  ·cases i with
   | zero =>
    simp at h';subst h';rw[h] at q;cases q;rfl
   | succ i=>simpa using L.h1 i j o (by simpa using h') q
  ·cases i with
   | zero=>simp at h'
   | succ i=>simpa using L.h2 i d (by simpa using h') (by simpa using q)
theorem AR.length{F:Hp}{σ:L2.St}{js:List (Option Nat)}{ds:List (Option D)}{vs:List V}(h:AR K F σ js ds vs):vs.length=js.length:=by
 have:=h.lent.l1
 simpa using this
theorem AR.mono{F F':Hp}{σ:L2.St}(g:Same F F'):∀{js:List (Option Nat)} {ds:List (Option D)} {vs:List V},AR K F σ js ds vs->AR K F' σ js ds vs
 | _,_,_,.nil=>.nil
 | _,_,_,.ex h t=>.ex (h.mono g) (t.mono g)
 | _,_,_,.nm h t=>.nm h (t.mono g)
def TAg(K:Fg9)(js:List (Option Nat))(m:M (List (Option D))):TA:=fun σ H Q=>∃tg F ρ ds ρ',Good K tg F H ρ σ/\m ρ=some (.ok ds,ρ')/\∀vs H' F',Good K tg F' H' ρ' σ->Ext (Own ρ σ) (Own ρ' σ) F H F' H'->AR K F' σ js ds vs->Q vs H'
structure EG (K:Fg9) (X:Cx) (es:List Expr) (js:List (Option Nat)) (m:M (List (Option D))):Prop where
 go:X.K=K->PA X es (TAg K js m)
instance {K:Fg9} {X:Cx} {es:List Expr} {js:List (Option Nat)} {m:M (List (Option D))}:CoeFun (EG K X es js m) fun _=>X.K=K->PA X es (TAg K js m):=⟨EG.go⟩
def ik:M (List (Option D)):=ret []
def bj(m:M D)(ms:M (List (Option D))):M (List (Option D)):=m.bind fun d=>ms.bind fun ds=>ret (some d::ds)
def dh(j:Nat)(ms:M (List (Option D))):M (List (Option D)):=(fc j).bind fun _=>ms.bind fun ds=>ret (none::ds)
theorem dw:EG K X [] [] ik:=EG.mk fun _=>PA.imp aej fun σ H Q hq0=>by
 obtain⟨tg,F,ρ,ds,ρ',G,em,q⟩:=hq0;obtain⟨rfl,rfl⟩:=lq em;exact q [] H F G (Ext.refl _ _ _) .nil
theorem eg_v{m:M D}{js:List (Option Nat)}{ms:M (List (Option D))}(h:EV K X e m)(t:EG K X es js ms)(hs:aW (e::es) X.env=(false,eval e X.env)::aW es X.env:=by rfl):EG K X (e::es) (none::js) (bj m ms):=EG.mk fun hk=>PA.imp (ur (h hk) (t hk) hs) fun σ H Q hq0=>by
 obtain⟨tg,F,ρ,ds,ρ',G,em,q⟩:=hq0;obtain⟨d,ρ1,e1,em⟩:=bf em;obtain⟨r,ρ2,e2,em⟩:=bf em;obtain⟨rfl,rfl⟩:=lq em;exact⟨tg,F,ρ,d,ρ1,G,e1,fun v H1 F1 G1 x1 r1=>⟨tg,F1,ρ1,r,_,G1,e2,fun vs H2 F2 G2 x2 r2=>q _ H2 F2 G2 (x1.trans x2) (.ex (r1.mono x2.sub) r2)⟩⟩
theorem eg_n{j:Nat}{js:List (Option Nat)}{ms:M (List (Option D))}(h:PE X e (tVar j))(t:EG K X es js ms)(hs:aW (e::es) X.env=(false,eval e X.env)::aW es X.env:=by rfl):EG K X (e::es) (some j::js) (dh j ms):=EG.mk fun hk=>PA.imp (ur h (t hk) hs) fun σ H Q hq0=>by
 obtain⟨tg,F,ρ,ds,ρ',G,em,q⟩:=hq0;obtain⟨d0,ρ0,e0,em⟩:=bf em;obtain⟨r,ρ2,e2,em⟩:=bf em;obtain⟨rfl,rfl⟩:=lq em;obtain⟨rfl,v,hv,_⟩:=zr G e0;exact⟨v,hv,tg,F,ρ0,r,_,G,e2,fun vs H2 F2 G2 x2 r2=>q _ H2 F2 G2 x2 (.nm hv r2)⟩
noncomputable def mFn(f:Fd)(js:List (Option Nat))(ms:M (List (Option D))):M Rv:=ms.bind fun ds ρ=>if okJs ρ js=true then match f (lend ρ js ds) with
  | some (.ok r,ps)=>some (.ok r,putB ρ js ps)
  | some (.exc x,ps)=>some (.exc x,putB ρ js ps)
  | none=>none
 else none
theorem az4{f:Fd}{js:List (Option Nat)}{ms:M (List (Option D))}{ρ ρ':Ro}{r:Rv}(h:mFn f js ms ρ=some (.ok r,ρ')):∃ds ρ1 ps,ms ρ=some (.ok ds,ρ1)/\okJs ρ1 js=true/\f (lend ρ1 js ds)=some (.ok r,ps)/\ρ'=putB ρ1 js ps:=by
 obtain⟨ds,ρ1,e1,em⟩:=bf h;have em:(if okJs ρ1 js=true then match f (lend ρ1 js ds) with
  | some (.ok r,ps)=>some (Out.ok r,putB ρ1 js ps)
  | some (.exc x,ps)=>some (.exc x,putB ρ1 js ps)
  | none=>none
  else none)=some (.ok r,ρ'):=em
 split at em
 ·rename_i hk;split at em
  ·rename_i r' ps e2;cases em;exact⟨ds,ρ1,ps,e1,hk,e2,rfl⟩
  ·cases em
  ·cases em
 ·cases em
theorem jc{f:Fd}{n k:Nat}{x:Str}{pn:List Str}{js:List (Option Nat)}{ms:M (List (Option D))}(F:Dfn X.prog X.w X.K X.mg X.base x pn k (spOf K n f))(hr:Room k X.A)(hg:Gl X x)(ha:EG K X (e::es) js ms)(hn:js.length=n:=by rfl)(hdb:(x==("__debug__" : Str))=false:=by decide)
  (he:aW (e::es) X.env=(false,eval e X.env)::aW es X.env:=by rfl) (hpl:(jP pos (aW es X.env)).any (·.1)=false:=by rfl):ER K X (.Call (.Name x p) (e::es) [] pos) (mFn f js ms):=ER.mk fun hk=>PE.imp (a3w F hr hg (ha hk) hdb he hpl) fun σ H Q hq0=>by
 obtain⟨tg,F,ρ,r,ρ',G,em,q⟩:=hq0;obtain⟨ds,ρ1,ps,e1,hj,e2,rfl⟩:=az4 em;refine⟨tg,F,ρ,ds,ρ1,G,e1,fun vs H1 F1 G1 x1 ar =>?_⟩
 have L:=ar.lent;show spOf K n f (vs++[]) H1 Q E0;rw[jG];refine⟨by rw[ar.length];exact hn,F1,_,r,ps,ajg G1 hj L,e2,fun v H' F' O' s' x' fin rr =>?_⟩
 exact q v H' F' (aj5 G1 L x' s' fin) (x1.trans (ams G1 L x')) (nj x1 (auj G1 L fin rr))
structure EIf (K:Fg9) (X:Cx) (ifs:List Expr) (m:M Bool):Prop where
 go:X.K=K->PIf X ifs (TB K m)
instance {K:Fg9} {X:Cx} {ifs:List Expr} {m:M Bool}:CoeFun (EIf K X ifs m) fun _=>X.K=K->PIf X ifs (TB K m):=⟨EIf.go⟩
theorem qu:EIf K X [] (ret true):=EIf.mk fun _ zv s σ H Q I hq0=>by
 obtain⟨tg,F,ρ,k,ρ',G,em,q⟩:=hq0;obtain⟨rfl,rfl⟩:=lq em;exact av4 zv s σ H Q I (q H F G (Ext.refl _ _ _))
theorem af2{m:M Bool}(h:ET K X c m):EIf K X [c] m:=EIf.mk fun hk=>av3 (h hk)
noncomputable def compD(b:D->Ro->Option Ro)(mc:M Bool)(me:M D):List D->List D->M (List D)
 | [],ys=>ret ys
 | d::ds,ys=>fun ρ=>match b d ρ with
  | none=>none
  | some ρ1=>(mc.bind fun k=>if k=true then me.bind fun y=>compD b mc me ds (ys++[y]) else compD b mc me ds ys) ρ1
theorem af5{b:D->Ro->Option Ro}{mc:M Bool}{me:M D}:∀{l ys yf:List D} {ρ ρ':Ro},compD b mc me l ys ρ=some (.ok yf,ρ')->ys.length<=yf.length
 | [],ys,yf,ρ,ρ',h=>by
  obtain⟨rfl,_⟩:=lq (show ret ys ρ=_ from h)
  exact aL _
 | d::ds,ys,yf,ρ,ρ',h=>by
  unfold compD at h;split at h
  ·cases h
  ·obtain⟨k,ρ2,e2,h⟩:=bf h;split at h
   ·obtain⟨y,ρ3,e3,h⟩:=bf h;have:=af5 h;rw[cG] at this;omega
   ·exact af5 h
def v4(src:List (Option Nat))(mi:M (List D))(b:D->Ro->Option Ro)(mc:M Bool)(me:M D):M Rv:=mi.bind fun l ρ=>if okJs ρ src=true then match compD b mc me l [] (lend ρ src (src.map fun _=>none)) with
  | some (.ok ys,ps)=>if ys.length<=capS then some (.ok (.fr ys),putB ρ src ps) else none
  | some (.exc x,ps)=>some (.exc x,putB ρ src ps)
  | none=>none
 else none
theorem as7{src:List (Option Nat)}{mi:M (List D)}{b:D->Ro->Option Ro}{mc:M Bool}{me:M D}{ρ ρ':Ro}{r:Rv}(h:v4 src mi b mc me ρ=some (.ok r,ρ')):∃l ρ1 ys ps,mi ρ=some (.ok l,ρ1)/\okJs ρ1 src=true/\compD b mc me l [] (lend ρ1 src (src.map fun _=>none))=some (.ok ys,ps)/\ys.length<=capS/\r=.fr ys/\ρ'=putB ρ1 src ps:=by
 obtain⟨l,ρ1,e1,em⟩:=bf h;have em:(if okJs ρ1 src=true then match compD b mc me l [] (lend ρ1 src (src.map fun _=>none)) with
  | some (.ok ys,ps)=>if ys.length<=capS then some (Out.ok (Rv.fr ys),putB ρ1 src ps) else none
  | some (.exc x,ps)=>some (.exc x,putB ρ1 src ps)
  | none=>none
  else none)=some (.ok r,ρ'):=em
 split at em
 ·rename_i hk;split at em
  ·rename_i ys ps e2;split at em
   ·rename_i hz;cases em;exact⟨l,ρ1,ys,ps,e1,hk,e2,hz,rfl,rfl⟩
   ·cases em
  ·cases em
  ·cases em
 ·cases em
theorem apb{F:Hp}{σ:L2.St}(src:List (Option Nat)):Lent K F σ (pick src σ) src (src.map fun _=>none):=by
 refine⟨by simp[pick],by simp,fun i j o h q =>?_,fun i d h q =>?_⟩
 ·unfold pick;rw[aU,h];show some ((σ[j]?).bind id)=some o;rw[q];rfl
 ·rw[aU,h] at q;cases q
theorem Ext.upd{O O':Addr->Prop}{F H F' H':Hp}{d:Addr}{o:HO}(x:Ext O O' F H F' H')(h:H d=none):Ext O O' F H F' (upd H' d o) :=
 ⟨x.sub,x.new,fun a u e n=>by rw[fj (ji e h)];exact x.keep a u e n,x.own,fun a e=>by
  by_cases ha:a=d
  ·subst ha;exact h
  ·rw[fj ha] at e;exact x.there a e⟩
theorem Good.upd{tg:Nat->Addr}{F H:Hp}{ρ:Ro}{σ:L2.St}{d:Addr}(G:Good K tg F H ρ σ)(hf:F d=none)(hn:¬Own ρ σ d)(o:HO)(hi:∀C dx fs,H d≠some (.ins C dx fs)):Good K tg F (upd H d o) ρ σ :=
 G.grow (Same.refl F) (fun b u e=>by
  have hb:b≠d:=fun z=>by
   subst z;rw[hf] at e;cases e
  rw[fj hb];exact G.sub b u e) (fun a w=>⟨(G.ownAt w).1,by
  have hb:a≠d:=fun z=>hn (z▸w)
  rw[fj hb]⟩) fun a C dx fvs h1 h2=>⟨h1,by
  have hb:a≠d:=fun z=>hi C dx fvs (z▸h2)
  rw[fj hb]⟩
theorem aub{mi:M (List D)}{bb:D->Ro->Option Ro}{mc:M Bool}{me:M D}{src:List (Option Nat)}(σ:L2.St)(H:Hp)(Q:VK)(t:T K (relR K) (v4 src mi bb mc me) σ H Q):ayk (TIt K mi) (TGd K bb) (TB K mc) (T K (relD K) me) src σ H Q:=by
 obtain⟨tg,F,ρ,r,ρ',G,em,q⟩:=t;obtain⟨l,ρ1,yf,ps,e1,hj,e2,hz,rfl,rfl⟩:=as7 em;refine⟨tg,F,ρ,l,ρ1,G,e1,fun J H1 F1 G1 x1 Z dd hd =>?_⟩
 have L:Lent K F1 σ (pick src σ) src (src.map fun _=>none):=apb src
 have Gl:=ajg G1 hj L;have own0:¬Own (lend ρ1 src (src.map fun _=>none)) (pick src σ) dd:=fun z=>Gl.own_ne hd z rfl
 refine auc Z (fun i ys σc Hc=>∃Fc ρc yd,Good K (tgOf (pick src σ)) Fc Hc ρc σc/\Ext (Own (lend ρ1 src (src.map fun _=>none)) (pick src σ)) (Own ρc σc) F1 H1 Fc Hc/\Fc dd=none/\¬Own ρc σc dd/\Hc dd=some (.lst ys)/\IsL K Fc yd ys/\compD bb mc me (l.drop i) yd ρc=some (.ok yf,ps))
  ⟨F1,_,[],Gl.upd (G1.freeF hd) own0 _ (fun _ _ _ z=>by rw[hd] at z;cases z),(Ext.refl _ _ _).upd hd,G1.freeF hd,own0,jm,.nil,e2⟩ ?_ ?_ ?_
 ·rintro i ys σc Hc _ ⟨Fc,ρc,yd,Gc,xc,_,_,hdd,_,_⟩
  exact⟨xc.sub.trans Gc.sub,hdd⟩
 ·rintro i d x ys σc Hc0 Hc M hdl ⟨Fc0,ρc,yd,Gc0,xc0,fd0,od0,hdd0,iy0,ec⟩ al hM
  obtain⟨Fc,Gc,xc,_,idl,xa⟩:=amx Gc0 xc0 xc0.sub al;have iy:=iy0.mono xa.sub;have hlt:i < l.length:=(aM.mp hdl).1;have edl:l[i]=d:=(aM.mp hdl).2;rw[lD hlt,edl] at ec;unfold compD at ec;have step:∀{F2 H2:Hp} {ρ2 ρ3:Ro} {σ2 σ3:L2.St} {F3 H3:Hp},F2 dd=none->¬Own ρ2 σ2 dd->H2 dd=some (.lst ys)->Ext (Own ρ2 σ2) (Own ρ3 σ3) F2 H2 F3 H3->F3 dd=none/\¬Own ρ3 σ3 dd/\H3 dd=some (.lst ys):=fun{F2 H2 ρ2 ρ3 σ2 σ3 F3 H3} h1 h2 h3 x3=>by
   refine⟨?_,fun z =>?_,x3.keep _ _ h3 h2⟩
   ·cases z:F3 dd with
    | none=>rfl
    | some o =>
     rcases x3.new _ _ z with z | z | z
     ·rw[h1] at z;cases z
     ·rw[h3] at z;cases z
     ·exact absurd z h2
   ·rcases x3.own _ z with z | z
    ·exact h2 z
    ·rw[h3] at z;cases z
  obtain⟨fd,od,hdd⟩:=step fd0 od0 hdd0 xa;split at ec
  ·cases ec
  ·rename_i ρ2 eb;refine⟨_,Fc,ρc,d,ρ2,Gc,idl,eb,fun σ2 H2 F2 G2 x2 =>?_⟩
   obtain⟨k,ρ3,ek,ec⟩:=bf ec;obtain⟨fd2,od2,hdd2⟩:=step fd od hdd x2;refine⟨_,F2,ρ2,k,ρ3,G2,ek,fun H3 F3 G3 x3 =>?_⟩
   obtain⟨fd3,od3,hdd3⟩:=step fd2 od2 hdd2 x3;cases k with
   | false =>
    refine iteF (hM _ _ _ ⟨F3,ρ3,yd,G3,(xc.trans x2).trans x3,fd3,od3,hdd3,(iy.mono x2.sub).mono x3.sub,ec⟩)
   | true =>
    obtain⟨y,ρ4,ey,ec⟩:=bf ec;refine iteT ⟨_,F3,ρ3,y,ρ4,G3,ey,fun v H4 F4 G4 x4 iv =>?_⟩
    obtain⟨fd4,od4,hdd4⟩:=step fd3 od3 hdd3 x4;refine⟨hdd4,?_,hM _ _ _ ⟨F4,ρ4,yd++[y],G4.upd fd4 od4 _ (fun _ _ _ z=>by rw[hdd4] at z;cases z),(((xc.trans x2).trans x3).trans x4).upd hd,fd4,od4,jm,?_,ec⟩⟩
    ·have:=af5 ec;rw[cG,iy.length] at this;rw[gA];exact bY (by simpa using iU ys.length) (cC this hz)
    ·exact(((iy.mono x2.sub).mono x3.sub).mono x4.sub).append (.cons iv .nil)
 ·rintro ys σc Hc ⟨Fc,ρc,yd,Gc,xc,fd,od,hdd,iy,ec⟩
  rw[rO (aL _)] at ec;obtain⟨rfl,rfl⟩:=lq (show ret yd ρc=_ from ec)
  have fin:Fin K Fc Hc (pick src σ) ps (Own ps σc):=⟨fun i l' e=>by
   obtain⟨o,ho,a,ws,rfl,hf,hh,hl,ht⟩:=Gc.at e;rw[ht i rfl];exact⟨⟨i,⟨_,_,e⟩,ho⟩,hf,ws,hh,hl⟩⟩
  refine q _ Hc Fc (aj5 G1 L xc Gc.sub fin) (x1.trans (ams G1 L xc)) ⟨dd,ys,rfl,.inl (x1.there dd hd),fd,hdd,iy,fun⟨j,w⟩ =>?_⟩
  exact G1.own_ne hd ⟨j,adm w⟩ rfl
theorem mq{ifs:List Expr}{scope:Scope}{mi:M (List D)}{bb:D->Ro->Option Ro}{mc:M Bool}{me:M D}(fr N:List Str)(src:List (Option Nat))(hc:X.calm=true)(hi:IT K X tgt iter mi)
  (hg:∀fp s H,GV K (cxC X N scope fr fp s H) tgt bb) (ht:∀fp s H,EIf K (cxC X N scope fr fp s H) ifs mc) (he:∀fp s H,EV K (cxC X N scope fr fp s H) elt me)
  (hok:ami X.env X.N scope fr N src=true:=by rfl) (hkind:scope.kind=.function:=by rfl) (hclos:closureFor scope X.env=pure (abn X.env fr):=by rfl)
  (hs:∀x,foldedSetIterable iter X.env x=pure x:=by intro _;rfl):ER K X (.ListComp elt [⟨tgt,iter,ifs,0⟩] scope pos) (v4 src mi bb mc me):=ER.mk fun hk=>by
 have hkc:∀fp s H,(cxC X N scope fr fp s H).K=K:=fun _ _ _=>hk
 refine PE.imp (awa fr N src hc (hi hk) (fun fp s H=>(hg fp s H).go (hkc _ _ _)) (fun fp s H=>(ht fp s H).go (hkc _ _ _)) (fun fp s H=>(he fp s H).go (hkc _ _ _)) hok hkind hclos hs) aub
end
end Dn
namespace Mn
open L2
end Mn
namespace Dn
open L2 Mn
section
variable{K:Fg9}{X:Cx}{tgt iter elt:Expr}{pos p:Pos}
end
@[irreducible] def fuel:Nat:=1000000000
section
variable{K:Fg9}{X:Cx}{e a b c:Expr}{es:List Expr}{pos p p2:Pos}
def aqc(neg:Bool):D->List D->Option D
 | .int i,[.int x,.int y]=>some (.bl (if neg then !(decide (x<=i)&&decide (i < y)) else (decide (x<=i)&&decide (i < y))))
 | _,_=>none
def az1(neg:Bool)(m1:M D)(m2:M (List D)):M D:=m1.bind fun x=>m2.bind fun ds=>lift (aqc neg x ds)
def isN:D->Bool
 | .non=>true
 | _=>false
def mIsN(neg:Bool)(m:M D):M D:=m.bind fun d=>ret (.bl (if neg then !isN d else isN d))
end
def alg(f:Fd):Prop:=∀ns:List Int,ns.length<=63->∃ps,f [.val (.kst (ns.map D.int))]=some (.ok (.v (.bl true)),ps)
theorem ayn{K:Fg9}{f:Fd}(h:alg f)(H:Hp)(a:Addr)(ns:List Int)(hn:ns.length<=63)(hS:SqL K H a (ns.map V.int)):spOf K 1 f [.ref a] H (fun v _=>v=.bl true) fun _ _ _=>False:=by
 obtain⟨ps,e⟩:=h ns hn;refine⟨rfl,H,_,_,ps,⟨Same.refl H,rfl,fun i s o e1 e2 =>?_,fun i j b ⟨⟨t,l,e1⟩,_⟩ _=>by cases i <;> simp at e1⟩,e,fun v H' F' O' _ _ _ rr =>?_⟩
 ·cases i with
  | zero =>
   simp at e1 e2;subst e1 e2;exact⟨_,rfl,.kst hS (aeu ns)⟩
  | succ i=>simp at e1
 ·have rr:Is K F' (.bl true) v:=rr;cases rr;rfl
theorem walk{l:pO}{q:bI}{loose:List Str}{XP:(Str->Option Value)->Heap->Prop}{YP:World->Heap->Prop}{d:DefRec}{K:Params->Fg9}{f:Fd}{k:Nat}(ht:alg f)(hn:l.most=some 63)(hdf:d.params.defaults=[])(hr:Room k oJ)
  (hY:∀(w:World) (h:Heap),YP w h->(K w.params).In h)
  (F:∀(w:World) (mg:Str->Option Value) (fa:Addr) (h:Heap),(K w.params).In h->h.Ns aO mg->mg d.name=some (.ref fa) ->
   ∃fd:fO,(∀(s:aJ) (u:Value),oX s fd ⟨[u],[]⟩ [("script", u)])/\∀base:Heap,(K w.params).In base->base.Ns aO mg->FnOk l.prog w (K w.params) mg base CX0 k fa fd ["script"] (spOf (K w.params) 1 f)) :
  vK q loose XP YP l.row.toRowW d [] (fun f vs=>tO f vs) :=
 L2.avf (n:=63) (k:=k) (x := "script") (CX:=fun _=>CX0) (sp:=fun w=>spOf (K w.params) 1 f) hn (by decide) hdf hr hY F (fun _ H a ns hl _ hS=>ayn ht H a ns hl hS) fun _ _ _ _ _ z=>z
section
variable{α β:Type}(ρ:Ro)
@[simp] theorem a6n(a:α):ret a ρ=some (.ok a,ρ):=rfl
@[simp] theorem a4u(o:Option α):lift o ρ=match o with
 | some a=>some (.ok a,ρ)
 | none=>none:=rfl
@[simp] theorem a6d(m:M α)(k:α->M β):M.bind m k ρ=match m ρ with
 | some (.ok a,ρ1)=>k a ρ1
 | some (.exc x,ρ1)=>some (.exc x,ρ1)
 | none=>none:=rfl
@[simp] theorem v_ap(m:M D):M.v m ρ=(m.bind fun d=>ret (.v d)) ρ:=rfl
@[simp] theorem d_ap(m:M Rv):M.d m ρ=(m.bind fun r=>ret r.d) ρ:=rfl
@[simp] theorem a7b(d:D):(Rv.v d).d=d:=rfl
@[simp] theorem a6m(l:List D):(Rv.fr l).d=.lst l:=rfl
@[simp] theorem a6l(d:D)(l:List D):(Rv.tf d l).d=.tup [d,.lst l]:=rfl
@[simp] theorem a7a(d:D):(Rv.v d).sl=.val d:=rfl
@[simp] theorem a6k(l:List D):(Rv.fr l).sl=.own none l:=rfl
@[simp] theorem a4c(i:Nat):mVar i ρ=match ρ[i]? with
 | some (.val d)=>some (.ok d,ρ)
 | some (.own none l)=>some (.ok (.lst l),ρ.set i (.val (.lst l)))
 | _=>none:=rfl
@[simp] theorem a1h(i:Nat):fc i ρ=match ρ[i]? with
 | some (.val d)=>some (.ok d,ρ)
 | some (.own _ l)=>some (.ok (.lst l),ρ)
 | _=>none:=rfl
@[simp] theorem a1o(i:Nat):ajb i ρ=match ρ[i]? with
 | some (.val d)=>some (.ok (.v d),ρ)
 | some (.own none l)=>some (.ok (.fr l),ρ.set i .emp)
 | _=>none:=rfl
@[simp] theorem a4g(i:Nat):mOwn i ρ=match ρ[i]? with
 | some (.own _ l)=>some (.ok l,ρ)
 | _=>none:=rfl
@[simp] theorem azx(i:Nat)(l':List D):ada i l' ρ=match ρ[i]? with
 | some (.own t _)=>some (.ok (),bJ ρ i (.own t l'))
 | _=>none:=rfl
@[simp] theorem a1m(m1 m2:M D):fu m1 m2 ρ=(m1.bind fun x=>m2.bind fun y=>ret (x,y)) ρ:=rfl
@[simp] theorem azy(i:Nat)(m2:M D):bu i m2 ρ=((fc i).bind fun _=>m2.bind fun y=>(fc i).bind fun x=>ret (x,y)) ρ:=rfl
@[simp] theorem a6r(g:D->D->Option Rv)(m:M (D×D)):mOp g m ρ=(m.bind fun p=>lift (g p.1 p.2)) ρ:=rfl
@[simp] theorem a6p(g:D->Option D)(m:M D):mUn g m ρ=(m.bind fun d=>lift (g d)) ρ:=rfl
@[simp] theorem a4t(m1 m2:M D):mAnd m1 m2 ρ=(m1.bind fun d=>(lift (asB d)).bind fun k=>if k=true then m2 else ret (.bl false)) ρ:=rfl
@[simp] theorem a6q(m1 m2:M D):mOr m1 m2 ρ=(m1.bind fun d=>(lift (asB d)).bind fun k=>if k=true then ret (.bl true) else m2) ρ:=rfl
@[simp] theorem a1j(m:M D):vz m ρ=(m.bind fun d=>lift (asB d)) ρ:=rfl
@[simp] theorem azw(g:D->D->Option Rv)(m:M (D×D)):mz g m ρ=vz (mOp g m).d ρ:=rfl
@[simp] theorem a1n(m:M Bool):ab4 m ρ=(m.bind fun k=>ret (!k)) ρ:=rfl
@[simp] theorem a1x(m1 m2:M Bool):apt m1 m2 ρ=(m1.bind fun k=>if k=true then m2 else ret false) ρ:=rfl
@[simp] theorem a4h(m1 m2:M Bool):mOrB m1 m2 ρ=(m1.bind fun k=>if k=true then ret true else m2) ρ:=rfl
@[simp] theorem a6s(m:M Bool)(m1 m2:M α):mIf m m1 m2 ρ=(m.bind fun k=>if k=true then m1 else m2) ρ:=rfl
@[simp] theorem a6u(c:Prop)[Decidable c](m1 m2:M α):(if c then m1 else m2) ρ=if c then m1 ρ else m2 ρ:=by split <;> rfl
@[simp] theorem a4z(c:Prop)[Decidable c](m1 m2:Sd):(if c then m1 else m2) ρ=if c then m1 ρ else m2 ρ:=by split <;> rfl
@[simp] theorem a69(b:Bool):asB (.bl b)=some b:=rfl
@[simp] theorem a6i(b:Int):asI (.int b)=some b:=rfl
@[simp] theorem a5g(b:Bool):gNot (.bl b)=some (.bl (!b)):=rfl
@[simp] theorem a2a(b:Int):gNeg (.int b)=some (.int (-b)):=rfl
@[simp] theorem a2r(i j:Int):gAdd (.int i) (.int j)=some (.v (.int (i+j))):=rfl
@[simp] theorem a2p(l k:List D):gAdd (.tup l) (.tup k)=if l.length+k.length<=capS then some (.v (.tup (l++k))) else none:=rfl
@[simp] theorem a2q(l k:List D):gAdd (.lst l) (.lst k)=if l.length+k.length<=capS then some (.fr (l++k)) else none:=rfl
@[simp] theorem a2h(f:Int->Int->Option Int)(i j:Int):gInt f (.int i) (.int j)=(f i j).map fun k=>.v (.int k):=rfl
@[simp] theorem a5q(i j:Int):fSub i j=some (i - j):=rfl
@[simp] theorem a2e(i j:Int):gMul (.int i) (.int j)=(fMul i j).map fun k=>.v (.int k):=rfl
@[simp] theorem a2c(l:List D)(k:Int):gMul (.tup l) (.int k)=if k=1 then some (.v (.tup l)) else if l≠[]/\2<=k/\k < 9223372036854775808/\l.length*k.toNat<=capS then some (.v (.tup (aG k.toNat l).flatten)) else none:=rfl
@[simp] theorem a2d(l:List D)(k:Int):gMul (.lst l) (.int k)=if k.natAbs < 9223372036854775808/\l.length*k.toNat<=capS then some (.fr (aG k.toNat l).flatten) else none:=rfl
@[simp] theorem a2m(f:Int->Int->Bool)(i j:Int):gCmp f (.int i) (.int j)=some (.v (.bl (f i j))):=rfl
@[simp] theorem a4n(t:Ty)(m:M D):mIsi t m ρ=(m.bind fun d=>ret (.bl (isTy t d))) ρ:=rfl
@[simp] theorem az8(f g:Int->Int->Bool)(m1 m2 m3:M D):ajd f g m1 m2 m3 ρ=(m1.bind fun x=>m2.bind fun y=>match x,y with
 | .int i,.int j=>if f i j=true then m3.bind fun z=>match z with
  | .int k=>ret (.bl (g j k))
  | _=>lift none
  else ret (.bl false)
 | _,_=>lift none) ρ:=rfl
@[simp] theorem a4i:mNil ρ=some (.ok [],ρ):=rfl
@[simp] theorem a1u(m:M D)(ms:M (List D)):au m ms ρ=(m.bind fun d=>ms.bind fun ds=>ret (d::ds)) ρ:=rfl
@[simp] theorem az7(i:Nat)(ms:M (List D)):f9 i ms ρ=((fc i).bind fun _=>ms.bind fun ds=>(fc i).bind fun d=>ret (d::ds)) ρ:=rfl
@[simp] theorem a4d(m:M (List D)):mTup m ρ=(m.bind fun ds=>lift (gTup ds)) ρ:=rfl
@[simp] theorem a4k(m:M (List D)):mLst m ρ=(m.bind fun ds=>lift (gLst ds)) ρ:=rfl
@[simp] theorem a1w(g:List D->Option Rv)(m:M (List D)):gf g m ρ=(m.bind fun ds=>lift (g ds)) ρ:=rfl
@[simp] theorem a6x(f:D->Option Rv)(d:D):g1 f [d]=f d:=rfl
@[simp] theorem a6w(f:D->D->Option Rv)(d d':D):g2 f [d,d']=f d d':=rfl
@[simp] theorem a0k(l:List D):itemsD (.tup l)=some l:=rfl
@[simp] theorem a0l(l:List D):itemsD (.lst l)=some l:=rfl
@[simp] theorem a0m(l:List D):itemsD (.kst l)=some l:=rfl
@[simp] theorem a2o(l:List D):gAll (.lst l)=(rz l).map fun bs=>.v (.bl (bs.all id)):=rfl
@[simp] theorem a0u(i:Int):aqb (.int i)=some (.v (.int i)):=rfl
@[simp] theorem a2i(i:Bool):aqb (.bl i)=some (.v (.int (if i then 1 else 0))):=rfl
@[simp] theorem a5j(d:D)(k:Int):gIx d (.int k)=(itemsD d).bind fun l=>(atI l k).map fun x=>.v x:=rfl
@[simp] theorem a4s(m:M D)(ml mh:M (Option Int)):mCut m ml mh ρ=(m.bind fun d=>ml.bind fun lo=>mh.bind fun hi=>lift (gCut d lo hi)) ρ:=rfl
@[simp] theorem a1t(i:Nat)(ml mh:M (Option Int)):ajc i ml mh ρ=((fc i).bind fun _=>ml.bind fun lo=>mh.bind fun hi=>(fc i).bind fun d=>lift (gCut d lo hi)) ρ:=rfl
@[simp] theorem a1l(m:M D):afc m ρ=(m.bind fun d=>lift ((asI d).map some)) ρ:=rfl
@[simp] theorem a2j(l:List D)(lo hi:Option Int):gCut (.tup l) lo hi=some (.v (.tup (cutD l lo hi))):=rfl
@[simp] theorem a2k(l:List D)(lo hi:Option Int):gCut (.lst l) lo hi=some (.fr (cutD l lo hi)):=rfl
@[simp] theorem a2l(l:List D)(lo hi:Option Int):gCut (.kst l) lo hi=some (.fr (cutD l lo hi)):=rfl
@[simp] theorem az0(neg:Bool)(m1:M D)(m2:M (List D)):az1 neg m1 m2 ρ=(m1.bind fun x=>m2.bind fun ds=>lift (aqc neg x ds)) ρ:=rfl
@[simp] theorem ax9(neg:Bool)(i x y:Int):aqc neg (.int i) [.int x,.int y]=some (.bl (if neg then !(decide (x<=i)&&decide (i < y)) else (decide (x<=i)&&decide (i < y)))):=rfl
@[simp] theorem a4o(neg:Bool)(m:M D):mIsN neg m ρ=(m.bind fun d=>ret (.bl (if neg then !isN d else isN d))) ρ:=rfl
@[simp] theorem azz(m:M D):vp m ρ=(m.bind fun d=>lift (itemsD d)) ρ:=rfl
@[simp] theorem a4q(g:α->Option β)(m:M α):mGet g m ρ=(m.bind fun ds=>lift (g ds)) ρ:=rfl
@[simp] theorem ak1(j:Int):uw [.int j]=if j.natAbs < 4611686018427387904 then some (jg 0 j.toNat) else none:=rfl
@[simp] theorem aw4(i j:Int):aw5 [.int i,.int j]=if i.natAbs < 4611686018427387904/\j.natAbs < 4611686018427387904 then some (jg i (j - i).toNat) else none:=rfl
@[simp] theorem axd(i j:Int):ah3 (.int i) (.int j)=if 0 < j/\j < 1000000000000000000000000000000000000000000000000000000000000 then some (.v (.tup [.int (i / j),.int (i % j)])) else none:=rfl
@[simp] theorem a4j(i:Nat)(g:List D->List D->Option (D×List D))(ms:M (List D)):mMut i g ms ρ=((mOwn i).bind fun _=>ms.bind fun ds=>(mOwn i).bind fun l=>(lift (g l ds)).bind fun r=>(ada i r.2).bind fun _=>ret r.1) ρ:=rfl
@[simp] theorem axi(l:List D)(d:D):ad5 l [d]=if l.length < capS then some (.non,l++[d]) else none:=rfl
@[simp] theorem a1s:ik ρ=some (.ok [],ρ):=rfl
@[simp] theorem az3(m:M D)(ms:M (List (Option D))):bj m ms ρ=(m.bind fun d=>ms.bind fun ds=>ret (some d::ds)) ρ:=rfl
@[simp] theorem az2(j:Nat)(ms:M (List (Option D))):dh j ms ρ=((fc j).bind fun _=>ms.bind fun ds=>ret (none::ds)) ρ:=rfl
@[simp] theorem a6t(f:Fd)(js:List (Option Nat))(ms:M (List (Option D))):mFn f js ms ρ=(ms.bind fun ds ρ=>if okJs ρ js=true then match f (lend ρ js ds) with
  | some (.ok r,ps)=>some (.ok r,putB ρ js ps)
  | some (.exc x,ps)=>some (.exc x,putB ρ js ps)
  | none=>none
 else none) ρ:=rfl
@[simp] theorem a1v(src:List (Option Nat))(mi:M (List D))(b:D->Ro->Option Ro)(mc:M Bool)(me:M D):v4 src mi b mc me ρ=(mi.bind fun l ρ=>if okJs ρ src=true then match compD b mc me l [] (lend ρ src (src.map fun _=>none)) with
  | some (.ok ys,ps)=>if ys.length<=capS then some (.ok (.fr ys),putB ρ src ps) else none
  | some (.exc x,ps)=>some (.exc x,putB ρ src ps)
  | none=>none
 else none) ρ:=rfl
@[simp] theorem a1g:okJs ρ []=true:=rfl
@[simp] theorem azr(r:List (Option Nat)):okJs ρ (none::r)=okJs ρ r:=rfl
@[simp] theorem azq(j:Nat)(r:List (Option Nat)):okJs ρ (some j::r)=((match ρ[j]? with
  | some (.own _ _) => !r.contains (some j)
  | _=>true)&&okJs ρ r):=rfl
@[simp] theorem lend_eq(js:List (Option Nat))(ds:List (Option D)):lend ρ js ds=(rF js ds).mapIdx fun i p=>ajh ρ i p.1 p.2:=rfl
@[simp] theorem ax7(i j:Nat)(d:Option D):ajh ρ i (some j) d=match ρ[j]? with
  | some (.val d)=>.val d
  | some (.own _ l)=>.own (some i) l
  | _=>.emp:=rfl
@[simp] theorem a4v(i:Nat)(d:D):ajh ρ i none (some d)=.val d:=rfl
@[simp] theorem a4w(i:Nat):ajh ρ i none none=.emp:=rfl
@[simp] theorem a3q(js:List (Option Nat))(ps:Ro):putB ρ js ps=ρ.mapIdx fun j s=>putS js ps j s:=rfl
@[simp] theorem a3p(js:List (Option Nat))(ps:Ro)(j:Nat)(s:Sl):putS js ps j s=match js.findIdx? (fun o=>o==some j) with
 | none=>s
 | some i=>match s with
  | .own t _=>match ps[i]? with
   | some (.own (some i') l')=>if i'=i then .own t l' else .emp
   | _=>.emp
  | s=>s:=rfl
@[simp] theorem a6z(nl np:Nat)(g:Sd):fnD nl np g ρ=match g (ρ++aG (nl - np) .emp) with
 | some (.ret r,ρ)=>some (.ok r,ρ.take np)
 | some (.nx,ρ)=>some (.ok (.v .non),ρ.take np)
 | some (.exc x,ρ)=>some (.exc x,ρ.take np)
 | _=>none:=rfl
@[simp] theorem a67:dNx ρ=some (.nx,ρ):=rfl
@[simp] theorem a5y:dBrk ρ=some (.brk,ρ):=rfl
@[simp] theorem a2v:a5x ρ=some (.cont,ρ):=rfl
@[simp] theorem a5t(g k:Sd):dSeq g k ρ=match g ρ with
 | some (.nx,ρ1)=>k ρ1
 | r=>r:=rfl
@[simp] theorem a7c(m:M α)(k:α->Sd):dM m k ρ=match m ρ with
 | some (.ok x,ρ1)=>k x ρ1
 | some (.exc x,ρ1)=>some (.exc x,ρ1)
 | none=>none:=rfl
@[simp] theorem a5u(m:M Rv):dRet m ρ=dM m (fun r ρ=>some (.ret r,ρ)) ρ:=rfl
@[simp] theorem a68(m:M Bool)(g k:Sd):dIf m g k ρ=dM m (fun z=>if z=true then g else k) ρ:=rfl
@[simp] theorem a2u(m:M α):af3 m ρ=dM m (fun _ ρ=>some (.nx,ρ)) ρ:=rfl
@[simp] theorem a5s(i:Nat)(m:M Rv):dSet i m ρ=dM m (fun r ρ=>some (.nx,bJ ρ i r.sl)) ρ:=rfl
@[simp] theorem a6b(m:M D)(b:D->Ro->Option Ro):dAsg m b ρ=dM m (fun d ρ=>(b d ρ).map fun ρ'=>(.nx,ρ')) ρ:=rfl
@[simp] theorem a5v(i j:Nat)(m:M (List D)):dPar i j m ρ=dM m (fun ds ρ=>match ds with
 | [d,d']=>some (.nx,bJ (bJ ρ i (.val d)) j (.val d'))
 | _=>none) ρ:=rfl
@[simp] theorem a5r(i:Nat)(mi m:M D):dSub i mi m ρ=(dM m fun d=>dM (mOwn i) fun _=>dM mi fun k=>dM (mOwn i) fun l=>dM (lift ((asI k).bind (ixN l.length))) fun j=>dM (ada i (l.set j d)) fun _=>dNx) ρ:=rfl
@[simp] theorem a5z(f:Int->Int->Int)(i:Nat)(m:M D):dAug f i m ρ=(dM (mVar i) fun x=>dM m fun y=>dM (lift ((asI x).bind fun n=>(asI y).map fun k=>D.int (f n k))) fun z ρ=>some (.nx,bJ ρ i (.val z))) ρ:=rfl
@[simp] theorem a5w(m:M (List D))(b:D->Ro->Option Ro)(g:Sd):dFor m b g ρ=dM m (forD b g) ρ:=rfl
@[simp] theorem a2y(i:Nat)(d:D):cu i d ρ=some (bJ ρ i (.val d)):=rfl
@[simp] theorem a6g:bNil [] ρ=some ρ:=rfl
@[simp] theorem a2z(b:D->Ro->Option Ro)(bs:List D->Ro->Option Ro)(d:D)(r:List D):ir b bs (d::r) ρ=(b d ρ).bind (bs r):=rfl
@[simp] theorem a6f(n:Nat)(bs:List D->Ro->Option Ro)(l:List D):bTup n bs (.tup l) ρ=if l.length=n then bs l ρ else none:=rfl
end
section
variable(c:Prop)[Decidable c](b:Bool)(ρ:Ro)
@[simp] theorem a4y:(if c then some (Out.ok (D.bl b),ρ) else some (Out.ok (D.bl false),ρ))=some (.ok (.bl (decide c&&b)),ρ):=by by_cases h:c <;> simp[h]
end
@[simp] theorem bh{n:Nat}(h:n<=1000):n<=capS:=cC h (by decide)
@[simp] theorem a5f(ds:List D):gTup ds=if ds.length<=capS then some (.tup ds) else none:=rfl
@[simp] theorem a5h(ds:List D):gLst ds=if ds.length<=capS then some (.fr ds) else none:=rfl
@[simp] theorem alc{α:Type}(l:List α)(f:α->Bool):rz (l.map fun d=>D.bl (f d))=some (l.map f):=by
 have:=u5 (l.map f);rw[fG] at this;exact this
def aar(s:Sl):List D->Sl
 | []=>s
 | d::r=>aar (.val d) r
theorem vo{me:M D}{rest:Ro}{f:D->D}:∀{l:List D} {ys:List D} {s:Sl},(∀d∈l,me (.val d::rest)=some (.ok (f d),.val d::rest))->compD (cu 0) (ret true) me l ys (s::rest)=some (.ok (ys++l.map f),aar s l::rest)
 | [],ys,s,_=>by simp[compD,aar]
 | d::r,ys,s,h=>by
  have h1:=h d (aR ..);have ih:=vo (me:=me) (rest:=rest) (f:=f) (l:=r) (ys:=ys++[f d]) (s:=.val d) fun x hx=>h x (aQ _ hx)
  simp[compD,h1,ih,aar]
theorem rn{mc:M Bool}{me:M D}{rest:Ro}{p:D->Bool}{f:D->D}:∀{l:List D} {ys:List D} {s:Sl},(∀d∈l,mc (.val d::rest)=some (.ok (p d),.val d::rest))->(∀d∈l,p d=true->me (.val d::rest)=some (.ok (f d),.val d::rest)) ->
  compD (cu 0) mc me l ys (s::rest)=some (.ok (ys++(l.filter p).map f),aar s l::rest)
 | [],ys,s,_,_=>by simp[compD,aar]
 | d::r,ys,s,hc,h=>by
  have h0:=hc d (aR ..);cases hp:p d with
  | true =>
   have h1:=h d (aR ..) hp;have ih:=rn (mc:=mc) (me:=me) (rest:=rest) (p:=p) (f:=f) (l:=r) (ys:=ys++[f d]) (s:=.val d) (fun x hx=>hc x (aQ _ hx)) fun x hx=>h x (aQ _ hx)
   simp[compD,h0,h1,ih,aar,hp]
  | false =>
   have ih:=rn (mc:=mc) (me:=me) (rest:=rest) (p:=p) (f:=f) (l:=r) (ys:=ys) (s:=.val d) (fun x hx=>hc x (aQ _ hx)) fun x hx=>h x (aQ _ hx)
   simp[compD,h0,ih,aar,hp]
@[simp] theorem a2s(b:D->Ro->Option Ro)(g:Sd)(ρ:Ro):forD b g [] ρ=some (.nx,ρ):=rfl
theorem xq(b:D->Ro->Option Ro)(g:Sd)(d:D)(ds:List D)(ρ:Ro):forD b g (d::ds) ρ=match b d ρ with
  | none=>none
  | some ρ1=>match g ρ1 with
   | some (.nx,ρ2)=>forD b g ds ρ2
   | some (.cont,ρ2)=>forD b g ds ρ2
   | some (.brk,ρ2)=>some (.nx,ρ2)
   | some (.ret r,ρ2)=>some (.ret r,ρ2)
   | some (.exc x,ρ2)=>some (.exc x,ρ2)
   | none=>none:=rfl
@[simp] theorem a5p{α:Type}(p:α->Bool)(a:α)(l:List α):nW p (a::l)=if p a=true then some 0 else (nW p l).map (· + 1):=by
 rw[List.findIdx?_cons]
@[simp] theorem a65{α:Type}(p:α->Bool):nW p ([]:List α)=none:=rfl
theorem abm(ns:List Int)(lo hi:Option Int):∃ms:List Int,cutD (ns.map D.int) lo hi=ms.map D.int/\ms.length<=ns.length:=by
 refine⟨(ns.drop (HT.sIx ns.length 0 lo)).take (HT.sIx ns.length ns.length hi - HT.sIx ns.length 0 lo),?_,?_⟩
 ·unfold cutD;rw[aD,rG,vN]
 ·rw[gQ,iV];omega
theorem zc{b:D->Ro->Option Ro}{g:Sd}(Inv:Nat->Ro->Prop):∀{l:List D} {ρ:Ro} (k:Nat),Inv k ρ->(∀i d ρ,l[i]? = some d->Inv (k+i) ρ->∃ρ1 ρ2,b d ρ=some ρ1/\(g ρ1=some (.nx,ρ2)∨g ρ1=some (.cont,ρ2))/\Inv (k+i+1) ρ2) ->
  ∃ρ',forD b g l ρ=some (.nx,ρ')/\Inv (k+l.length) ρ'
 | [],ρ,k,h0,_=>⟨ρ,rfl,h0⟩
 | d::r,ρ,k,h0,hs=>by
  obtain⟨ρ1,ρ2,e1,e2,h1⟩:=hs 0 d ρ rfl h0;obtain⟨ρ',e3,h3⟩:=zc (b:=b) (g:=g) Inv (l:=r) (ρ:=ρ2) (k+1) h1 fun i x ρ hx hi=>by
   have:=hs (i+1) x ρ (by simpa using hx) ((show k+(i+1)=k+1+i by omega)▸hi)
   have e:k+(i+1)+1=k+1+i+1:=by omega
   rw[e] at this;exact this
  refine⟨ρ',?_,?_⟩
  ·rw[xq,e1];rcases e2 with e2 | e2 <;> simp only[e2] <;> exact e3
  ·have e:k+(d::r).length=k+1+r.length:=by simp;omega
   rw[e];exact h3
theorem ah5{b:D->Ro->Option Ro}{g:Sd}(Inv:Nat->Ro->Prop)(Ret:Rv->Ro->Prop):∀{l:List D} {ρ:Ro} (k:Nat),Inv k ρ->(∀i d ρ,l[i]? = some d->Inv (k+i) ρ->∃ρ1,b d ρ=some ρ1/\((∃ρ2,(g ρ1=some (.nx,ρ2)∨g ρ1=some (.cont,ρ2))/\Inv (k+i+1) ρ2)∨∃r ρ2,g ρ1=some (.ret r,ρ2)/\Ret r ρ2)) ->
  (∃ρ',forD b g l ρ=some (.nx,ρ')/\Inv (k+l.length) ρ')∨∃r ρ',forD b g l ρ=some (.ret r,ρ')/\Ret r ρ'
 | [],ρ,k,h0,_=>.inl ⟨ρ,rfl,h0⟩
 | d::t,ρ,k,h0,hs=>by
  obtain⟨ρ1,e1,⟨ρ2,e2,h1⟩ | ⟨r,ρ2,e2,h1⟩⟩:=hs 0 d ρ rfl h0
  ·have:=ah5 (b:=b) (g:=g) Inv Ret (l:=t) (ρ:=ρ2) (k+1) h1 fun i x ρ hx hi=>by
    have:=hs (i+1) x ρ (by simpa using hx) ((show k+(i+1)=k+1+i by omega)▸hi)
    have e:k+(i+1)+1=k+1+i+1:=by omega
    rw[e] at this;exact this
   have el:k+(d::t).length=k+1+t.length:=by simp;omega
   have ef:forD b g (d::t) ρ=forD b g t ρ2:=by
    rw[xq,e1];rcases e2 with e2 | e2 <;> simp only[e2]
   rw[ef,el];exact this
  ·exact .inr ⟨r,ρ2,by rw[xq,e1];simp only[e2],h1⟩
theorem p6{b:D->Ro->Option Ro}{mc:M Bool}{me:M D}(Inv:Nat->List D->Ro->Prop):∀{l:List D} {ys:List D} {ρ:Ro} (k:Nat),Inv k ys ρ ->
  (∀i d ys ρ,l[i]? = some d->Inv (k+i) ys ρ->∃ρ1 ρ2 z,b d ρ=some ρ1/\mc ρ1=some (.ok z,ρ2)/\((z=false/\Inv (k+i+1) ys ρ2)∨(z=true/\∃y ρ3,me ρ2=some (.ok y,ρ3)/\Inv (k+i+1) (ys++[y]) ρ3))) ->
  ∃ys' ρ',compD b mc me l ys ρ=some (.ok ys',ρ')/\Inv (k+l.length) ys' ρ'
 | [],ys,ρ,k,h0,_=>⟨ys,ρ,rfl,h0⟩
 | d::r,ys,ρ,k,h0,hs=>by
  obtain⟨ρ1,ρ2,z,e1,e2,h1⟩:=hs 0 d ys ρ rfl h0;have nxt:∀{ys':List D} {ρ':Ro},Inv (k+0+1) ys' ρ'->∃ys2 ρ2,compD b mc me r ys' ρ'=some (.ok ys2,ρ2)/\Inv (k+1+r.length) ys2 ρ2:=fun{ys' ρ'} hi =>
   p6 (b:=b) (mc:=mc) (me:=me) Inv (l:=r) (ys:=ys') (ρ:=ρ') (k+1) hi fun i x ys ρ hx hi=>by
    have:=hs (i+1) x ys ρ (by simpa using hx) ((show k+(i+1)=k+1+i by omega)▸hi)
    have e:k+(i+1)+1=k+1+i+1:=by omega
    rw[e] at this;exact this
  have el:k+(d::r).length=k+1+r.length:=by simp;omega
  rw[el];rcases h1 with⟨rfl,h1⟩ | ⟨rfl,y,ρ3,e3,h1⟩
  ·obtain⟨ys2,ρ4,e4,h4⟩:=nxt h1;exact⟨ys2,ρ4,by simp[compD,e1,e2,e4],h4⟩
  ·obtain⟨ys2,ρ4,e4,h4⟩:=nxt h1;exact⟨ys2,ρ4,by simp[compD,e1,e2,e3,e4],h4⟩
@[simp] theorem a5k(neg:Bool)(a b:Int):gEq neg (.int a) (.int b)=some (.v (.bl (if neg then !(a==b) else (a==b)))):=rfl
@[simp] theorem a6v(neg:Bool)(a b:Bool):gEq neg (.bl a) (.bl b)=some (.v (.bl (if neg then !(a==b) else (a==b)))):=rfl
section
variable{K:Fg9}{X:Cx}{e a b c:Expr}{es:List Expr}{pos p p2:Pos}
def xm:List D->Option (List Int)
 | []=>some []
 | .int i::r=>(xm r).map (i :: ·)
 | _::_=>none
theorem ah1:∀{l:List D} {ns:List Int},xm l=some ns->l=ns.map D.int
 | [],_,h=>by cases h;rfl
 | .int b::r,bs,h=>by
  have h':(xm r).map (b :: ·)=some bs:=h;cases e:xm r with
  | none=>rw[e] at h';cases h'
  | some t =>
   rw[e] at h';cases h';rw[ah1 e];rfl
 | .non::_,_,h=>by cases h
 | .bl _::_,_,h=>by cases h
 | .str _::_,_,h=>by cases h
 | .tup _::_,_,h=>by cases h
 | .lst _::_,_,h=>by cases h
 | .kst _::_,_,h=>by cases h
 | .dct _::_,_,h=>by cases h
@[simp] theorem afk(ns:List Int):xm (ns.map D.int)=some ns:=by
 induction ns with
 | nil=>rfl
 | cons b r ih=>show(xm (r.map D.int)).map (b :: ·)=_;rw[ih];rfl
def insI(x:Int):List Int->List Int
 | []=>[x]
 | y::r=>if x<=y then x::y::r else y::insI x r
def sortI:List Int->List Int
 | []=>[]
 | x::r=>insI x (sortI r)
theorem insI_perm(x:Int):∀l:List Int,(insI x l).Perm (x::l)
 | []=>.refl _
 | y::r=>by
  unfold insI;split
  ·exact .refl _
  ·exact((insI_perm x r).cons y).trans (.swap x y r)
theorem sortI_perm:∀l:List Int,(sortI l).Perm l
 | []=>.refl _
 | x::r=>(insI_perm x (sortI r)).trans ((sortI_perm r).cons x)
theorem afl(x:Int):∀{l:List Int},l.Pairwise (· <= ·)->(insI x l).Pairwise (· <= ·)
 | [],_=>by simp[insI]
 | y::r,h=>by
  unfold insI;rw[fC] at h;split
  ·rename_i hxy;rw[fC,fC];refine⟨fun z hz =>?_,h⟩
   rcases aV.mp hz with rfl | hz
   ·exact hxy
   ·exact Int.le_trans hxy (h.1 z hz)
  ·rename_i hxy;rw[fC];refine⟨fun z hz =>?_,afl x h.2⟩
   rcases aV.mp ((insI_perm x r).mem_iff.mp hz) with rfl | hz
   ·omega
   ·exact h.1 z hz
theorem aee:∀l:List Int,(sortI l).Pairwise (· <= ·)
 | []=>.nil
 | x::r=>afl x (aee r)
theorem agk:∀{l k:List Int},l.Perm k->l.Pairwise (· <= ·)->k.Pairwise (· <= ·)->l=k
 | [],k,h,_,_=>h.nil_eq
 | x::r,[],h,_,_=>absurd h.length_eq (by simp)
 | x::r,y::t,h,hl,hk=>by
  rw[fC] at hl hk;have e:x=y:=by
   have h1:x∈y::t:=h.mem_iff.mp (aR ..);have h2:y∈x::r:=h.mem_iff.mpr (aR ..);rcases aV.mp h1 with h1 | h1
   ·exact h1
   ·rcases aV.mp h2 with h2 | h2
    ·exact h2.symm
    ·have a:=hk.1 x h1;have b:=hl.1 y h2;omega
  subst e;rw[agk ((List.perm_cons x).mp h) hl.2 hk.2]
theorem ar9{l k:List Int}(h:l.Perm k)(hs:l.Pairwise (· <= ·)):l=sortI k:=agk (h.trans (sortI_perm k).symm) hs (aee k)
theorem aed:∀{ns:List Int} {us:List Value},lX us ns->Vals (ns.map V.int) us
 | _,_,.nil=>.nil
 | _,_,.cons n t h=>.cons ⟨t,rfl⟩ (aed h)
def ap9:D->Option Rv
 | .lst l=>(xm l).bind fun ns=>if ns.length < 64 then some (.fr ((sortI ns).map D.int)) else none
 | _=>none
def aqd(l ds:List D):Option (D×List D):=match ds with
 | [.lst k]=>if l.length+k.length<=capS then some (.non,l++k) else none
 | [.tup k]=>if l.length+k.length<=capS then some (.non,l++k) else none
 | _=>none
@[simp] theorem axc(l k:List D):aqd l [.lst k]=if l.length+k.length<=capS then some (.non,l++k) else none:=rfl
@[simp] theorem axb(l k:List D):aqd l [.tup k]=if l.length+k.length<=capS then some (.non,l++k) else none:=rfl
end
section
variable{K:Fg9}{X:Cx}{e a b c:Expr}{es:List Expr}{pos p p2:Pos}
def ab5(lt:Int->Int->Bool):List Int->Int
 | []=>0
 | x::r=>r.foldl (fun m y=>if lt y m=true then y else m) x
theorem ard(lt:Int->Int->Bool)(ns:List Int):∀k,k < ns.length->mH (fun i j=>lt (ns.getD i 0) (ns.getD j 0)) k<=k/\ns.getD (mH (fun i j=>lt (ns.getD i 0) (ns.getD j 0)) k) 0=ab5 lt (ns.take (k+1))
 | 0,h=>by
  cases ns with
  | nil=>simp at h
  | cons x r=>exact⟨Nat.le_refl _,rfl⟩
 | k+1,h=>by
  obtain⟨h1,h2⟩:=ard lt ns k (by omega)
  have ht:ns.take (k+1+1)=ns.take (k+1)++[ns.getD (k+1) 0]:=by
   rw[tX,aC h];simp[List.getD,aC h]
  have hb:ab5 lt (ns.take (k+1+1))=if lt (ns.getD (k+1) 0) (ab5 lt (ns.take (k+1)))=true then ns.getD (k+1) 0 else ab5 lt (ns.take (k+1)):=by
   rw[ht];cases ns with
   | nil=>simp at h
   | cons x r=>simp[ab5,uA]
  have ha:mH (fun i j=>lt (ns.getD i 0) (ns.getD j 0)) (k+1)=if lt (ns.getD (k+1) 0) (ns.getD (mH (fun i j=>lt (ns.getD i 0) (ns.getD j 0)) k) 0)=true then k+1 else mH (fun i j=>lt (ns.getD i 0) (ns.getD j 0)) k:=rfl
  rw[hb,<-h2,ha]
  by_cases hc:lt (ns.getD (k+1) 0) (ns.getD (mH (fun i j=>lt (ns.getD i 0) (ns.getD j 0)) k) 0)=true
  ·rw[if_pos hc,if_pos hc];exact⟨Nat.le_refl _,rfl⟩
  ·rw[if_neg hc,if_neg hc];exact⟨by omega,rfl⟩
theorem amr(lt:Int->Int->Bool)(ns:List Int)(h:ns≠[]):mH (fun i j=>lt (ns.getD i 0) (ns.getD j 0)) (ns.length - 1) < ns.length/\ns.getD (mH (fun i j=>lt (ns.getD i 0) (ns.getD j 0)) (ns.length - 1)) 0=ab5 lt ns:=by
 have hl:0 < ns.length:=iW.mpr h;obtain⟨h1,h2⟩:=ard lt ns (ns.length - 1) (by omega)
 refine⟨by omega,?_⟩
 rw[h2,show ns.length - 1+1=ns.length by omega,pD]
def axh(lt:Int->Int->Bool):D->Option Rv
 | .lst l=>(xm l).bind fun ns=>if ns=[] then none else some (.v (.int (ab5 lt ns)))
 | .tup l=>(xm l).bind fun ns=>if ns=[] then none else some (.v (.int (ab5 lt ns)))
 | _=>none
theorem afz{lt:Int->Int->Bool}{d:D}{r:Rv}(h:axh lt d=some r):∃ns:List Int,ns≠[]/\r=.v (.int (ab5 lt ns))/\(d=.lst (ns.map D.int)∨d=.tup (ns.map D.int)):=by
 have go:∀l,(xm l).bind (fun ns=>if ns=[] then none else some (Rv.v (.int (ab5 lt ns))))=some r->∃ns:List Int,ns≠[]/\r=.v (.int (ab5 lt ns))/\l=ns.map D.int:=fun l h=>by
  cases e:xm l with
  | none=>rw[e] at h;cases h
  | some ns =>
   rw[e] at h;have h:(if ns=[] then none else some (Rv.v (.int (ab5 lt ns))))=some r:=h
   split at h
   ·cases h
   ·rename_i hn;cases h;exact⟨ns,hn,rfl,ah1 e⟩
 cases d with
 | lst l=>obtain⟨ns,h1,h2,rfl⟩:=go l h;exact⟨ns,h1,h2,.inl rfl⟩
 | tup l=>obtain⟨ns,h1,h2,rfl⟩:=go l h;exact⟨ns,h1,h2,.inr rfl⟩
 | _=>cases h
theorem aaf{ns:List Int}{its:List Value}(rv:Vals (ns.map V.int) its)(i:Nat)(v:Value)(h:its.toArray[i]? = some v):∃t,v=.int (ns.getD i 0) t:=by
 have h:its[i]? = some v:=by simpa using h
 have hi:i < its.length:=(aM.mp h).1;have hl:=rv.length;rw[aD] at hl;have hi':i < ns.length:=by omega
 obtain⟨u,hu,t,rfl⟩:=rv.get (i:=i) (x:=V.int ns[i]) (by rw[aU,aC hi'];rfl)
 rw[h] at hu;cases hu;exact⟨t,by simp[List.getD,aC hi']⟩
def aw6:D->Option Rv:=axh fun i j=>decide (i < j)
def atx:D->Option Rv:=axh fun i j=>decide (i > j)
theorem axw(hc:X.calm=true):CallD K X (.builtin "min") (g1 aw6):=af7 fun hk zv s σ0 H x u Q tg F ρ σ d r I ru G bd eg q=>by
 subst hk;obtain⟨ns,hn,rfl,hd⟩:=afz eg;have q':=Res.same G q (.int _);obtain⟨hb1,hb2⟩:=amr (fun i j=>decide (i < j)) ns hn
 have fin:∀{its:List Value} (rv:Vals (ns.map V.int) its) {v:Value} {h':Heap} {tk:Nat},its.toArray[mH (fun i j=>decide (ns.getD i 0 < ns.getD j 0)) (its.toArray.size - 1)]? = some v->(∀b o,s.heap.get? b=some o->h'.get? b=some o)->EP X zv σ0 Q v { s with heap:=h',toks:=tk }:=fun{its} rv {v h' tk} hv hk=>by
  have hl:=rv.length;rw[aD] at hl;rw[aN,<-hl] at hv;obtain⟨t,rfl⟩:=aaf rv _ v hv;exact⟨.int (ab5 (fun i j=>decide (i < j)) ns),H,I.kept hk,⟨t,by rw[hb2]⟩,q'⟩
 rcases hd with rfl | rfl
 ·obtain⟨a,vs,rfl,ea,hl⟩:=bd.lst G.sub;rw[hl.int_inv] at ea;cases ru;obtain⟨its,rv,pl,_⟩:=I.list (SqL.of ea);have hl':=pl.isList;have hlt:a < s.heap.objs.size:=by obtain⟨_,e,_⟩:=hl';exact aP e
  have hlen:=rv.length;rw[aD] at hlen;refine call_min_walk (wpAny_pyIter_list hl' ⟨s.heap.objs.size,[s.heap.objs.size,a],[s.heap.objs.size],its.toArray.size,_,_,_,rfl,tK (A:=X.A.in1) (I.ok.hd hc) _ a (bC hlt) its.toArray,
   ⟨⟨_,aK _ rfl,rfl,rfl⟩,hl'.push _⟩,fun b hb =>?_,?_,vP (fun i=>ns.getD i 0) (fun i v=>aaf rv i v),fun v h' tk hP hk=>fin rv hP (lW hk)⟩)
  ·have hs:∀o:Obj,(s.heap.push o).objs.size=s.heap.objs.size+1:=fun o=>bD ..
   show b < (s.heap.push _).objs.size;rw[hs];rcases aV.mp hb with hb | hb
   ·exact hb▸Nat.lt_succ_self _
   ·have hb:b=a:=by simpa using hb
    exact hb▸Nat.lt_succ_of_lt hlt
  ·rw[aN,<-hlen];exact iW.mpr hn
 ·obtain⟨a,vs,rfl,ea,hl⟩:=bd.tup;rw[hl.int_inv] at ea;cases ru;obtain⟨its,rv,pl,_⟩:=I.tuple (SqT.of (G.sub _ _ ea));have hlt:a < s.heap.objs.size:=by obtain⟨_,e,_⟩:=pl;exact aP e
  have hlen:=rv.length;rw[aD] at hlen;refine call_min_walk (wpAny_pyIter_tuple pl ⟨s.heap.objs.size,[s.heap.objs.size,a],[s.heap.objs.size],its.toArray.size,_,_,_,rfl,sO (A:=X.A.in1) (I.ok.hd hc) _ a (bC hlt) its.toArray,
   ⟨⟨_,aK _ rfl,rfl,rfl⟩,pl.push _⟩,fun b hb =>?_,?_,vP (fun i=>ns.getD i 0) (fun i v=>aaf rv i v),fun v h' tk hP hk=>fin rv hP (lW hk)⟩)
  ·have hs:∀o:Obj,(s.heap.push o).objs.size=s.heap.objs.size+1:=fun o=>bD ..
   show b < (s.heap.push _).objs.size;rw[hs];rcases aV.mp hb with hb | hb
   ·exact hb▸Nat.lt_succ_self _
   ·have hb:b=a:=by simpa using hb
    exact hb▸Nat.lt_succ_of_lt hlt
  ·rw[aN,<-hlen];exact iW.mpr hn
theorem aq3(hc:X.calm=true):CallD K X (.builtin "max") (g1 atx):=af7 fun hk zv s σ0 H x u Q tg F ρ σ d r I ru G bd eg q=>by
 subst hk;obtain⟨ns,hn,rfl,hd⟩:=afz eg;have q':=Res.same G q (.int _);obtain⟨hb1,hb2⟩:=amr (fun i j=>decide (i > j)) ns hn
 have fin:∀{its:List Value} (rv:Vals (ns.map V.int) its) {v:Value} {h':Heap} {tk:Nat},its.toArray[mH (fun i j=>decide (ns.getD i 0 > ns.getD j 0)) (its.toArray.size - 1)]? = some v->(∀b o,s.heap.get? b=some o->h'.get? b=some o)->EP X zv σ0 Q v { s with heap:=h',toks:=tk }:=fun{its} rv {v h' tk} hv hk=>by
  have hl:=rv.length;rw[aD] at hl;rw[aN,<-hl] at hv;obtain⟨t,rfl⟩:=aaf rv _ v hv;exact⟨.int (ab5 (fun i j=>decide (i > j)) ns),H,I.kept hk,⟨t,by rw[hb2]⟩,q'⟩
 rcases hd with rfl | rfl
 ·obtain⟨a,vs,rfl,ea,hl⟩:=bd.lst G.sub;rw[hl.int_inv] at ea;cases ru;obtain⟨its,rv,pl,_⟩:=I.list (SqL.of ea);have hl':=pl.isList;have hlt:a < s.heap.objs.size:=by obtain⟨_,e,_⟩:=hl';exact aP e
  have hlen:=rv.length;rw[aD] at hlen;refine call_max_walk (wpAny_pyIter_list hl' ⟨s.heap.objs.size,[s.heap.objs.size,a],[s.heap.objs.size],its.toArray.size,_,_,_,rfl,tK (A:=X.A.in1) (I.ok.hd hc) _ a (bC hlt) its.toArray,
   ⟨⟨_,aK _ rfl,rfl,rfl⟩,hl'.push _⟩,fun b hb =>?_,?_,vQ (fun i=>ns.getD i 0) (fun i v=>aaf rv i v),fun v h' tk hP hk=>fin rv hP (lW hk)⟩)
  ·have hs:∀o:Obj,(s.heap.push o).objs.size=s.heap.objs.size+1:=fun o=>bD ..
   show b < (s.heap.push _).objs.size;rw[hs];rcases aV.mp hb with hb | hb
   ·exact hb▸Nat.lt_succ_self _
   ·have hb:b=a:=by simpa using hb
    exact hb▸Nat.lt_succ_of_lt hlt
  ·rw[aN,<-hlen];exact iW.mpr hn
 ·obtain⟨a,vs,rfl,ea,hl⟩:=bd.tup;rw[hl.int_inv] at ea;cases ru;obtain⟨its,rv,pl,_⟩:=I.tuple (SqT.of (G.sub _ _ ea));have hlt:a < s.heap.objs.size:=by obtain⟨_,e,_⟩:=pl;exact aP e
  have hlen:=rv.length;rw[aD] at hlen;refine call_max_walk (wpAny_pyIter_tuple pl ⟨s.heap.objs.size,[s.heap.objs.size,a],[s.heap.objs.size],its.toArray.size,_,_,_,rfl,sO (A:=X.A.in1) (I.ok.hd hc) _ a (bC hlt) its.toArray,
   ⟨⟨_,aK _ rfl,rfl,rfl⟩,pl.push _⟩,fun b hb =>?_,?_,vQ (fun i=>ns.getD i 0) (fun i v=>aaf rv i v),fun v h' tk hP hk=>fin rv hP (lW hk)⟩)
  ·have hs:∀o:Obj,(s.heap.push o).objs.size=s.heap.objs.size+1:=fun o=>bD ..
   show b < (s.heap.push _).objs.size;rw[hs];rcases aV.mp hb with hb | hb
   ·exact hb▸Nat.lt_succ_self _
   ·have hb:b=a:=by simpa using hb
    exact hb▸Nat.lt_succ_of_lt hlt
  ·rw[aN,<-hlen];exact iW.mpr hn
end
section
variable{K:Fg9}{X:Cx}{e a b c:Expr}{es:List Expr}{pos p p2:Pos}
def rmOf(K:Fg9)(g:D->List D->Option D):V->List V->Hp->VK->Prop:=fun x vs H Q=>∃F d ds r,Same F H/\Bor K F H d x/\IsL K F ds vs/\g d ds=some r/\∀v,Is K F r v->Q v H
def awv(i:Nat)(g:D->List D->Option D)(ms:M (List D)):M D:=(fc i).bind fun d0=>(lift (match d0 with
 | .lst _=>some ()
 | _=>none)).bind fun _=>ms.bind fun ds=>(fc i).bind fun d=>lift (g d ds)
theorem axo{i:Nat}{name:Str}{id:String}{g:D->List D->Option D}{ms:M (List D)}{apos cpos:Pos}(slot:Slot "list" name id)(hty:typeOf (.builtin id)=pure (.type "method_descriptor"))(hm:X.K=K->MtR X id (rmOf K g))(ho:PE X a (tVar i))(ha:ED K X (e::es) ms)
  (hbase:attributeBase a name X.env (eval a X.env)=eval a X.env:=by rfl)
  (hfew:((jP cpos (aW (e::es) X.env)).all (fun x => !x.1)&&(backToKw cpos (keywordEach [] X.env)).all (fun x=>x.1.isSome)
   && decide ((e::es).length+([]:List Keyword).length+(if ([]:List Keyword).isEmpty then 0 else 1) < 30))=true:=by rfl)
  (hline:(apos.endLine==cpos.line)=true:=by rfl) (hs:aW (e::es) X.env=(false,eval e X.env)::aW es X.env:=by rfl) (hplain:(jP cpos (aW es X.env)).any (·.1)=false:=by rfl) :
  EV K X (.Call (.Attribute a name apos) (e::es) [] cpos) (awv i g ms):=EV.mk fun hk=>PE.imp (azg rC slot hty (hm hk) ho (ha hk) hbase hfew hline hs hplain) fun σ H Q hq0=>by
 obtain⟨tg,F,ρ,d,ρ',G,em,q⟩:=hq0;obtain⟨d0,ρ0,e0,em1⟩:=bf em;obtain⟨u0,ρ9,e9,em2⟩:=bf em1;obtain⟨ds,ρ1,e1,em3⟩:=bf em2;obtain⟨d1,ρ2,e2,em4⟩:=bf em3;obtain⟨e3,rfl⟩:=gw em4;obtain⟨e9,rfl⟩:=gw e9;obtain⟨rfl,v,hv,bv⟩:=zr G e0;have ty:∃b,v=.ref b/\∃xs,SqL X.K H b xs:=by
  cases d0 with
  | lst l =>
   obtain⟨b,xs,rfl,hb,_⟩:=bv.lst G.sub;exact⟨b,rfl,xs,SqL.of hb⟩
  | _=>cases e9
 obtain⟨b,rfl,hty'⟩:=ty;refine⟨_,hv,.inl ⟨rfl,hty'⟩,tg,F,_,ds,ρ1,G,e1,fun vs H1 F1 G1 x1 r1 =>?_⟩
 obtain⟨rfl,v',hv',b'⟩:=zr G1 e2;rw[hv] at hv';cases hv';exact⟨F1,d1,ds,d,G1.sub,b',r1,e3,fun w iw=>q w H1 F1 G1 x1 iw⟩
def au3(d:D)(ds:List D):Option D:=match d,ds with
 | .lst l,[x]=>if okD 30 x&&l.all (okD 30) then some (.int (l.countP fun y=>eqD y x)) else none
 | _,_=>none
def axe(d:D)(ds:List D):Option D:=match d,ds with
 | .tup l,[x]=>if okD 30 x&&l.all (okD 30) then some (.int (l.countP fun y=>eqD y x)) else none
 | _,_=>none
def ah4(d:D)(ds:List D):Option D:=match d with
 | .lst _=>au3 d ds
 | .tup _=>axe d ds
 | _=>none
def az6(i:Nat)(ms:M (List D)):M D:=(fc i).bind fun d0=>ms.bind fun ds=>(fc i).bind fun d=>(lift (match d0,d with
 | .lst _,.lst _=>some ()
 | .tup _,.tup _=>some ()
 | _,_=>none)).bind fun _=>lift (ah4 d ds)
def ajo(d:D)(ds:List D):Option D:=match d,ds with
 | .lst l,[x]=>if okD 30 x&&l.all (okD 30) then (l.findIdx? fun y=>eqD y x).map fun i=>.int i else none
 | _,_=>none
theorem amt{zv:List (Addr×Obj)}{σ:L2.St}{F H:Hp}{s:aJ}(I:Inv X zv σ H s)(g:Same F H){a:D}{n:Nat}{ds:List D}{vs:List V}{us:List Value}(il:IsL X.K F ds vs)(k:ds.all (okD n)=true)(rv:Vals vs us)(i:Nat)(hi:i < us.length)(hd:i < ds.length) :
  aa3 s.heap (toPy a) us[i]=eqD ds[i] a:=by
 obtain⟨v,hv,iv⟩:=il.get (i:=i) (aC hd);obtain⟨u,hu,ru⟩:=rv.get hv;rw[aC hi] at hu;cases hu;have ko:okD n ds[i]=true:=fL.mp k _ (bO hd);obtain⟨as,ra⟩:=ac1 I g iv ko ru;rw[ah6 ra (aa9 _ _ ko).1];rfl
theorem as5(hu:X.A.units+64 < cLine):X.K=K->MtR X "list.index" (rmOf K ajo):=fun hk=>by
 subst hk;intro zv s σ H x vs v us Q I rx rv ⟨F,d,ds,r,g,bd,il,eg,q⟩
 match d,ds,eg with
 | .lst l,[y],eg =>
  have eg:(if okD 30 y&&l.all (okD 30) then (l.findIdx? fun z=>eqD z y).map (fun i=>D.int i) else none)=some r:=eg
  split at eg
  ·rename_i ho;rw[bA] at ho;cases ei:l.findIdx? (fun z=>eqD z y) with
   | none=>rw[ei] at eg;cases eg
   | some j =>
    rw[ei] at eg;cases eg;obtain⟨hj,hhit,hno⟩:=fZ.mp ei;cases il with
    | cons hy t =>
     cases t;obtain⟨u,rfl,ru⟩:=rv.one;obtain⟨p,ws,rfl,ea,hl⟩:=bd.lst g;cases rx;obtain⟨its,rw',pl,hz⟩:=I.list (SqL.of ea);have l1:=hl.length;have l2:=rw'.length;rw[gA] at hz;obtain⟨as,ra⟩:=ac1 I g hy ho.1 ru;obtain⟨_,z⟩:=aam I g (a:=y) hl ho.2 rw';obtain⟨⟨cls,dd,data,sl⟩,h1,hc,n,hd⟩:=pl.isList;simp only at hc hd;subst hc hd;have hj':j < its.toArray.size:=by rw[aN];omega
     refine iY rB ⟨_,h1,rfl⟩ PySem.F.entry_list_index (PySem.F.args_list_index_2 _ _) (SeqAt.list_indexAt p its.toArray n dd sl u (aa3 s.heap (toPy y)) j hj' (by omega) ?_ fun m hm hlt =>?_) ⟨h1,fun w hw =>?_,?_⟩
     ·have:=amt I g (a:=y) hl ho.2 rw' j (by omega) hj
      simpa[this] using hhit
     ·rw[aN] at hm;have:=amt I g (a:=y) hl ho.2 rw' m hm (by omega)
      have hn:=hno m hlt
      simpa[this] using hn
     ·exact aaj (A:=X.A) hu ra ho.1 z w (by simpa using hw)
     ·exact⟨.int j,H,I.tok _,⟨_,rfl⟩,q _ (.int _)⟩
  ·cases eg
def insD(l:List D)(k:Int)(d:D):List D:=let j:=if k < 0 then (k+(l.length:Int)).toNat else min k.toNat l.length;l.take j++d::l.drop j
def aw9(l ds:List D):Option (D×List D):=match ds with
 | [.int k,d]=>if -9223372036854775808<=k/\k < 9223372036854775808/\l.length < capS then some (.non,insD l k d) else none
 | _=>none
section
variable(ρ:Ro)
@[simp] theorem a1p(i:Nat)(g:D->List D->Option D)(ms:M (List D)):awv i g ms ρ=((fc i).bind fun d0=>(lift (match d0 with
 | .lst _=>some ()
 | _=>none)).bind fun _=>ms.bind fun ds=>(fc i).bind fun d=>lift (g d ds)) ρ:=rfl
@[simp] theorem aya(l:List D)(x:D):au3 (.lst l) [x]=if okD 30 x&&l.all (okD 30) then some (.int (l.countP fun y=>eqD y x)) else none:=rfl
@[simp] theorem ax8(l:List D)(x:D):ajo (.lst l) [x]=if okD 30 x&&l.all (okD 30) then (l.findIdx? fun y=>eqD y x).map (fun i=>D.int i) else none:=rfl
@[simp] theorem aw8(l:List D)(k:Int)(d:D):aw9 l [.int k,d]=if -9223372036854775808<=k/\k < 9223372036854775808/\l.length < capS then some (.non,insD l k d) else none:=rfl
end
end
end Dn
namespace En
open PySem PySem.Builtin
def It1(k:Bool)(h:Heap)(it l:Addr)(i:Nat):Prop:=cond k (h.IsTupleIter it l i) (h.IsListIter it l i)
def Sq1(k:Bool)(h:Heap)(l:Addr)(xs:Array Value):Prop:=cond k (h.IsTuple l xs) (h.IsList l xs)
section
variable{prog:bI}{w:World}{A:cM}{E:Value->aJ->Prop}{s:aJ}
theorem awm{it t:Addr}{i:Nat}{xs:Array Value}{x:Value}{Q:Value->aJ->Prop}(h1:s.heap.IsTupleIter it t i)(h2:s.heap.IsTuple t xs)(hx:xs[i]? = some x)
  (q:∀h',h'.IsTupleIter it t (i+1)->cH it s.heap h'->Q x { s with heap:=h' }):wpAny (model prog w) A (SmallTypes.nextOf (.ref it)) Q E s:=by
 obtain⟨o1,e1,c1,d1⟩:=id h1;obtain⟨o2,e2,_,k2,d2⟩:=h2;have nn:¬((fJ t==fQ)=true):=eF;unfold SmallTypes.nextOf;refine aA (cQ (name:=gJ "__next__") h1.typeIs iM (dC iM h1.typeIs qD ?_ (pK _)));refine aA (m:=field (.ref it) 0) (cJ e1 d1 (x:=.ref t) rfl ?_);show wpAny _ _ (if (fJ t==fQ)=true then _ else (field (.ref it) 1 >>= _)) _ _ s;rw[if_neg nn]
 refine aA (m:=field (.ref it) 1) (cJ e1 d1 (x:=.int i 0) rfl ?_);refine aA (m:=seqItems? (.ref t)) (dF e2 d2 ?_);simp only[aZ,hx];refine aA (gR e1 d1 (by simp) (aF ⟨x,rfl,aF (q _ ?_ (cA ..))⟩))
 refine⟨_,bQ _ e1 (iD (dB d1 _)),(lL ..).trans c1,?_⟩;rw[dB d1];simp[jT]
theorem axs{it t:Addr}{i:Nat}{xs:Array Value}{Q:Value->aJ->Prop}(hh:A.handled=none)(h1:s.heap.IsTupleIter it t i)(h2:s.heap.IsTuple t xs)(hx:xs[i]? = none)
  (q:∀h' e,sY it s.heap h'->(∃o,h'.get? e=some o/\o.cls=.type "StopIteration")->E (.ref e) { s with heap:=h' }):wpAny (model prog w) A (SmallTypes.nextOf (.ref it)) Q E s:=by
 obtain⟨o1,e1,c1,d1⟩:=id h1;obtain⟨o2,e2,_,k2,d2⟩:=h2;have nn:¬((fJ t==fQ)=true):=eF;unfold SmallTypes.nextOf;refine aA (cQ (name:=gJ "__next__") h1.typeIs iM (dC iM h1.typeIs qD ?_ (pK _)));refine aA (m:=field (.ref it) 0) (cJ e1 d1 (x:=.ref t) rfl ?_);show wpAny _ _ (if (fJ t==fQ)=true then _ else (field (.ref it) 1 >>= _)) _ _ s;rw[if_neg nn]
 refine aA (m:=field (.ref it) 1) (cJ e1 d1 (x:=.int i 0) rfl ?_);refine aA (m:=seqItems? (.ref t)) (dF e2 d2 ?_);simp only[aZ,hx];refine aA (gU (aA (gR e1 d1 (by simp) ?_)))
 refine aA (m:=newExc (.type "StopIteration") []) ?_;simp only[newExc,newTuple];refine aA (bF ?_ (by size_fits))
 refine aA (m:=firstArgMember _ _) (wpAny_of_eq (a:=fQ) (by first | rfl | (simp only[firstArgMember];rfl)) (bF ?_ (by size_fits)))
 simp only[raiseNew];refine aA (wpAny_handled ?_);first | rw[show A.in1.handled=none from hh] | rw[hh]
 refine aA (aF (wpAny_throw (q _ _ ?_ ⟨_,aK _ rfl,rfl⟩)));exact((cA ..).extBut.push _).push _
theorem src(hh:A.handled=none)(k:Bool)(it l:Addr)(ne:l≠it)(xs:Array Value):Draws prog w A it [it,l] xs.size (fun i v=>xs[i]? = some v) (fun i h=>It1 k h it l i/\Sq1 k h l xs):=by
 cases k with
 | false=>exact Draws.list hh it l ne xs
 | true=>exact{
   live:=fun _ _ z=>let ⟨o,e,_⟩:=z.1;⟨o,e⟩
   frame:=fun _ _ _ z kk=>⟨(let ⟨o,e,r⟩:=z.1;⟨o,kk it (by simp) o e,r⟩),(let ⟨o,e,r⟩:=z.2;⟨o,kk l (by simp) o e,r⟩)⟩
   item:=fun i s Q E hi z q=>awm z.1 z.2 (x:=xs[i]) (by simp[hi]) fun h' z' sb=>q _ h' s.toks (by simp[hi]) ⟨z',Heap.IsTuple.extBut z.2 sb.extBut ne⟩ sb
   done:=fun s Q E z q=>axs hh z.1 z.2 (by simp) q }
theorem It1.at{k:Bool}{h h':Heap}{it l:Addr}{i:Nat}(x:It1 k h it l i)(e:∀o,h.get? it=some o->h'.get? it=some o):It1 k h' it l i:=by
 cases k <;> exact(let ⟨o,z,r⟩:=x;⟨o,e _ z,r⟩)
theorem It1.got{k:Bool}{h:Heap}{it l:Addr}{i:Nat}(x:It1 k h it l i):∃o,h.get? it=some o/\∀v,o.data≠.cell v:=by
 cases k <;> exact(let ⟨o,z,_,r⟩:=x;⟨o,z,fun v e=>by rw[r] at e;cases e⟩)
theorem Sq1.at{k:Bool}{h h':Heap}{l:Addr}{xs:Array Value}(x:Sq1 k h l xs)(e:∀o,h.get? l=some o->h'.get? l=some o):Sq1 k h' l xs:=by
 cases k <;> exact(let ⟨o,z,r⟩:=x;⟨o,e _ z,r⟩)
theorem Sq1.got{k:Bool}{h:Heap}{l:Addr}{xs:Array Value}(x:Sq1 k h l xs):∃o,h.get? l=some o:=by
 cases k <;> exact(let ⟨o,z,_⟩:=x;⟨o,z⟩)
theorem aky{k:Bool}{l:Addr}{xs:Array Value}{Q:Value->aJ->Prop}(h:Sq1 k s.heap l xs)
  (q:Q (.ref s.heap.objs.size) { s with heap:=s.heap.push { cls:=.type (cond k "tuple_iterator" "list_iterator"),data:=.fields #[.ref l,.int 0 0] } }):wpAny (model prog w) A (pyIter (.ref l)) Q E s:=by
 cases k with
 | false=>exact wpAny_pyIter_list h q
 | true=>exact wpAny_pyIter_tuple h q
theorem ad0{k:Bool}{h:Heap}{l a:Addr}(e:h.get? a=some { cls:=.type (cond k "tuple_iterator" "list_iterator"),data:=.fields #[.ref l,.int 0 0] }):It1 k h a l 0:=by
 cases k <;> exact⟨_,e,rfl,rfl⟩
end
set_option maxRecDepth 100000
abbrev eh1(k:Bool)(h:Heap)(l:Addr):Heap:=h.push { cls:=.type (cond k "tuple_iterator" "list_iterator"),data:=.fields #[.ref l,.int 0 0] }
abbrev eh2(k:Bool)(h:Heap)(l:Addr):Heap:=(eh1 k h l).push { cls:=.type "enumerate", data:=.fields #[.none,.bool false,.ref h.objs.size,jT 0,.none,.none] }
theorem aws(k:Bool)(l:Addr)(o:Obj)(xs:Array Value) :
  Meets (gH.«enumerate.__new__» ⟨[.type "enumerate", .ref l],[]⟩) (fun _ R s=>s.heap.get? l=some o/\Sq1 k s.heap l xs/\R (.ok (.ret (.ref (eh1 k s.heap l).objs.size))) { s with heap:=eh2 k s.heap l }) :=
 .of_wp fun prog w A R s h=>by
  obtain⟨hp,g,d,tk,os⟩:=s;obtain⟨ho,r1,h⟩:=h;have sb:=sub_enumerate;have r1:Sq1 k (lQ ⟨hp,g,d,tk,os⟩) l xs:=r1;wp_walk using lN ho;refine wpAny_stack_any fun st=>aF ?_
  split
  ·rename_i c _ _ _ _ _;cases(c==iH "enumerate") <;> (wp_walk using lN ho,aky r1;exact⟨_,rfl,h⟩)
  ·wp_walk using lN ho,aky r1;exact⟨_,rfl,h⟩
theorem ara{prog:bI}{w:World}{A:cM}{E:Value->aJ->Prop}{s:aJ}{k:Bool}{l:Addr}{xs:Array Value}{Q:Value->aJ->Prop}(s1:Sq1 k s.heap l xs)
  (q:∀h',IsEnum h' (s.heap.objs.size+1) s.heap.objs.size 0 .none->It1 k h' s.heap.objs.size l 0->h'.objs.size=s.heap.objs.size+2->(∀b o,s.heap.get? b=some o->h'.get? b=some o)->Q (.ref (s.heap.objs.size+1)) { s with heap:=h' }) :
  wpAny (model prog w) A (call (.type "enumerate") [.ref l]) Q E s:=by
 obtain⟨o,ho⟩:=s1.got;refine callType_new F.called_enumerate (by decide) (F.typeCall_enumerate_1 _) (F.newCall_enumerate_1 _) (fun obj=>F.args_object_init_2 obj _) F.entry_enumerate_new (aws k l o xs) ⟨ho,s1,?_⟩
 have z1:(eh1 k s.heap l).objs.size=s.heap.objs.size+1:=bD ..
 have g2:(eh2 k s.heap l).get? (eh1 k s.heap l).objs.size=some _:=aK _ rfl;have g1:(eh2 k s.heap l).get? s.heap.objs.size=some _:=aB _ (aK _ rfl);rw[z1] at g2;show _/\_;rw[z1];exact⟨⟨_,g2,rfl⟩,q _ g2 (ad0 g1) (by rw[bD,z1]) fun b o x=>aB _ (aB _ x)⟩
end En
namespace En
open PySem PySem.Builtin
set_option maxRecDepth 100000
theorem avn(v1 v2:Value):checkTypeCall "zip" ⟨[v1,v2],[]⟩=pure ():=by kernel_rfl
theorem awp(v1 v2:Value):checkBuiltinCall "zip.__new__" ⟨[.type "zip", v1,v2],[]⟩=pure ():=by kernel_rfl
theorem ax5(o v1 v2:Value):qT "object.__init__" ⟨[o,v1,v2],[]⟩:=by
 unfold qT;rw[signature?_of (id := "object.__init__") (n:=['_','_','t','i','n','i','_','_']) (o:=['t','c','e','j','b','o']) (by kernel_rfl) vG];kernel_rfl
abbrev Row2(h:Heap)(T:Addr)(v1 v2:Value):Prop:=h.get? T=some { cls:=.type "tuple", data:=.seq #[v1,v2] }
structure Apart2 (z TI TO i1 i2 l1 l2:Addr):Prop where
 nTIz:TI≠z
 nTOz:TO≠z
 nTOTI:TO≠TI
 ni1z:i1≠z
 ni1TI:i1≠TI
 ni1TO:i1≠TO
 ni2z:i2≠z
 ni2TI:i2≠TI
 ni2TO:i2≠TO
 ni2i1:i2≠i1
 nl1z:l1≠z
 nl1TO:l1≠TO
 nl1i1:l1≠i1
 nl1i2:l1≠i2
 nl2z:l2≠z
 nl2TO:l2≠TO
 nl2i1:l2≠i1
 nl2i2:l2≠i2
section
variable{prog:bI}{w:World}{A:cM}{E:Value->aJ->Prop}{s:aJ}
theorem ayz{T:Addr}{v1 v2 x:Value}{Q:Unit->aJ->Prop}(h:Row2 s.heap T v1 v2)(q:∀h',Row2 h' T x v2->cH T s.heap h'->Q () { s with heap:=h' }):wpAny (model prog w) A (updateSeq T (·.setIfInBounds 0 x)) Q E s:=by
 refine wpAny_updateSeq h rfl (q _ (show pZ _ T=_ from ?_) (cA ..))
 rw[bQ _ h rfl];simp[fW]
theorem ayy{T:Addr}{v1 v2 x:Value}{Q:Unit->aJ->Prop}(h:Row2 s.heap T v1 v2)(q:∀h',Row2 h' T v1 x->cH T s.heap h'->Q () { s with heap:=h' }):wpAny (model prog w) A (updateSeq T (·.setIfInBounds 1 x)) Q E s:=by
 refine wpAny_updateSeq h rfl (q _ (show pZ _ T=_ from ?_) (cA ..))
 rw[bQ _ h rfl];simp[fW]
theorem aog{z TI TO i1 i2 l1 l2:Addr}{k1 k2:Bool}{i:Nat}{x1 x2:Array Value}{v1 v2:Value}{Q:Value->aJ->Prop}(hh:A.handled=none)(D:Apart2 z TI TO i1 i2 l1 l2)
  (hz:IsZip s.heap z TI TO .none) (hI:Row2 s.heap TI (.ref i1) (.ref i2)) (hO:Row2 s.heap TO v1 v2) (h1:It1 k1 s.heap i1 l1 i) (s1:Sq1 k1 s.heap l1 x1) (h2:It1 k2 s.heap i2 l2 i) (s2:Sq1 k2 s.heap l2 x2) (b1:i < x1.size) (b2:i < x2.size)
  (q:∀h' tk y1 y2,x1[i]? = some y1->x2[i]? = some y2->IsZip h' z TI TO (jT s.heap.objs.size)->Row2 h' TO y1 y2->It1 k1 h' i1 l1 (i+1)->It1 k2 h' i2 l2 (i+1)->Row2 h' s.heap.objs.size y1 y2->h'.objs.size=s.heap.objs.size+1 ->
   (∀c o,c≠z->c≠TO->c≠i1->c≠i2->s.heap.get? c=some o->h'.get? c=some o)->Q (.ref s.heap.objs.size) { s with heap:=h',toks:=tk }) :
  wpAny (model prog w) A (gH.«zip.__next__» ⟨[.ref z],[]⟩) (fun fin s'=>∃v,fin=.done (.ret v)/\Q v s') E s:=by
 refine aA (m:=field (.ref z) 2) (cJ hz rfl (x:=.bool false) rfl ?_);refine aA (m:=field (.ref z) 3) (cJ hz rfl (x:=.ref TI) rfl ?_);refine aA (dF hI rfl ?_);refine aA (m:=SmallTypes.ownedTupleIsFree (.ref z)) ?_;unfold SmallTypes.ownedTupleIsFree;refine aA (cJ hz rfl (x:=.none) rfl (aF ?_));simp only[if_true];refine aA (gU (aA (cJ hz rfl (x:=.ref TO) rfl ?_)));refine aA (eE hz (by simp) fun g0 z0 a0 =>?_)
 have z0:IsZip g0 z TI TO .ellipsis:=z0;refine aA ?_;simp only[mC,mO,jX,nG];refine aA (aA (wpAny_onRaise ?_));refine aA (m:=SmallTypes.nextOf (.ref i1)) ((src hh k1 i1 l1 D.nl1i1 x1).item i _ _ _ b1 ⟨(h1.at fun _ e=>(a0.extBut _ _ D.ni1z e)),(s1.at fun _ e=>(a0.extBut _ _ D.nl1z e))⟩ fun y1 f1 t1 p1 q1 c1=>aF ?_)
 have c1:cH i1 g0 f1:=c1;have P1:Row2 f1 TO v1 v2:=(c1.extBut _ _ D.ni1TO.symm (a0.extBut _ _ D.nTOz hO));refine aA (dF P1 rfl ?_);refine aA (ayz P1 fun g1 O1 a1 =>?_)
 have a1:cH TO f1 g1:=a1;refine aA (wpAny_letGo (aF ?_));refine aA (aA (wpAny_onRaise ?_));refine aA (m:=SmallTypes.nextOf (.ref i2)) ((src hh k2 i2 l2 D.nl2i2 x2).item i _ _ _ b2 ⟨(h2.at fun _ e=>(a1.extBut _ _ D.ni2TO (c1.extBut _ _ D.ni2i1 (a0.extBut _ _ D.ni2z e)))),(s2.at fun _ e=>(a1.extBut _ _ D.nl2TO (c1.extBut _ _ D.nl2i1 (a0.extBut _ _ D.nl2z e))))⟩ fun y2 f2 t2 p2 q2 c2=>aF ?_)
 have c2:cH i2 g1 f2:=c2;have P2:Row2 f2 TO y1 v2:=(c2.extBut _ _ D.ni2TO.symm O1);refine aA (dF P2 rfl ?_);refine aA (ayy P2 fun g2 O2 a2 =>?_)
 have a2:cH TO f2 g2:=a2;refine aA (wpAny_letGo (aF (aF ?_)));refine aA (dF O2 rfl (aA (wpAny_newTuple ?_)));have sz:g2.objs.size=s.heap.objs.size:=by rw[a2.1,c2.1,a1.1,c1.1,a0.1]
 have zn:IsZip g2 z TI TO .ellipsis:=(a2.extBut _ _ D.nTOz.symm (c2.extBut _ _ D.ni2z.symm (a1.extBut _ _ D.nTOz.symm (c1.extBut _ _ D.ni1z.symm z0))));have kn:∀c o,c≠z->c≠TO->c≠i1->c≠i2->s.heap.get? c=some o->g2.get? c=some o:=fun c o n0 n1 n2 n3 e=>(a2.extBut _ _ n1 (c2.extBut _ _ n3 (a1.extBut _ _ n1 (c1.extBut _ _ n2 (a0.extBut _ _ n0 e)))))
 have j1:It1 k1 g2 i1 l1 (i+1):=q1.1.at fun _ e=>(a2.extBut _ _ D.ni1TO (c2.extBut _ _ D.ni2i1.symm (a1.extBut _ _ D.ni1TO e)))
 have j2:It1 k2 g2 i2 l2 (i+1):=q2.1.at fun _ e=>(a2.extBut _ _ D.ni2TO e)
 have lz:z < g2.objs.size:=aP zn;refine aA (m:=SmallTypes.ownedTupleHandOut (.ref z) (.ref g2.objs.size)) ?_;unfold SmallTypes.ownedTupleHandOut;have zp:IsZip (g2.push { cls:=.type "tuple", data:=.seq #[y1,y2] }) z TI TO .ellipsis:=aB _ zn;refine aA (eE zp (by simp) fun e1 z1 b1' =>?_)
 have z1:IsZip e1 z TI TO (jT g2.objs.size):=z1;refine eE z1 (by simp) fun e2 z2 b2' =>?_
 have z2:IsZip e2 z TI TO (jT g2.objs.size):=z2;have up:∀c o,c≠z->g2.get? c=some o->e2.get? c=some o:=fun c o n1 e=>b2'.extBut _ _ n1 (b1'.extBut _ _ n1 (aB _ e))
 have t2:Row2 e2 g2.objs.size y1 y2:=b2'.extBut _ _ (fX lz) (b1'.extBut _ _ (fX lz) (aK _ rfl));have s2':e2.objs.size=g2.objs.size+1:=by rw[b2'.1,b1'.1,bD]
 rw[sz] at z2 t2 s2';refine aF ⟨_,rfl,?_⟩;show Q (.ref g2.objs.size) _;rw[sz];exact q e2 _ y1 y2 p1 p2 z2 (up _ _ D.nTOz O2) (j1.at fun _ e=>up _ _ D.ni1z e) (j2.at fun _ e=>up _ _ D.ni2z e) t2 s2' fun c o n0 n1 n2 n3 e=>up c o n0 (kn c o n0 n1 n2 n3 e)
theorem arp{z TI TO i1 i2 l1 l2:Addr}{k1:Bool}{x1:Array Value}{v1 v2:Value}{Q:Fin->aJ->Prop}(hh:A.handled=none)(D:Apart2 z TI TO i1 i2 l1 l2)
  (hz:IsZip s.heap z TI TO .none) (hI:Row2 s.heap TI (.ref i1) (.ref i2)) (hO:Row2 s.heap TO v1 v2) (h1:It1 k1 s.heap i1 l1 x1.size) (s1:Sq1 k1 s.heap l1 x1)
  (q:∀h' e,(∀c o,c≠z->c≠i1->s.heap.get? c=some o->h'.get? c=some o)->(∃o,h'.get? e=some o/\o.cls=.type "StopIteration")->E (.ref e) { s with heap:=h' }) :
  wpAny (model prog w) A (gH.«zip.__next__» ⟨[.ref z],[]⟩) Q E s:=by
 refine aA (m:=field (.ref z) 2) (cJ hz rfl (x:=.bool false) rfl ?_);refine aA (m:=field (.ref z) 3) (cJ hz rfl (x:=.ref TI) rfl ?_);refine aA (dF hI rfl ?_);refine aA (m:=SmallTypes.ownedTupleIsFree (.ref z)) ?_;unfold SmallTypes.ownedTupleIsFree;refine aA (cJ hz rfl (x:=.none) rfl (aF ?_));simp only[if_true];refine aA (gU (aA (cJ hz rfl (x:=.ref TO) rfl ?_)));refine aA (eE hz (by simp) fun g0 z0 a0 =>?_)
 have z0:IsZip g0 z TI TO .ellipsis:=z0;refine aA ?_;simp only[mC,mO,jX,nG];refine aA (aA (wpAny_onRaise ?_));refine aA (m:=SmallTypes.nextOf (.ref i1)) ((src hh k1 i1 l1 D.nl1i1 x1).done _ _ _ ⟨(h1.at fun _ e=>a0.extBut _ _ D.ni1z e),(s1.at fun _ e=>a0.extBut _ _ D.nl1z e)⟩ fun f1 e c1 ⟨oe,he,ce⟩ =>?_)
 have zf:IsZip f1 z TI TO .ellipsis:=c1 _ _ D.ni1z.symm z0;have ez:e≠z:=fun x=>by subst x;rw[zf] at he;cases he;simp at ce
 refine eE zf (by simp) fun f2 _ a1=>q f2 e (fun c o n1 n2 y=>a1.extBut _ _ n1 (c1 _ _ n2 (a0.extBut _ _ n1 y))) ⟨oe,a1.extBut _ _ ez he,ce⟩
abbrev aoj(h:Heap)(k1 k2:Bool)(l1 l2:Addr):Heap:=h.push { cls:=.type (cond k1 "tuple_iterator" "list_iterator"),data:=.fields #[.ref l1,.int 0 0] }
abbrev arx(h:Heap)(k1 k2:Bool)(l1 l2:Addr):Heap:=(aoj h k1 k2 l1 l2).push { cls:=.type (cond k2 "tuple_iterator" "list_iterator"),data:=.fields #[.ref l2,.int 0 0] }
abbrev aru(h:Heap)(k1 k2:Bool)(l1 l2:Addr):Heap:=(arx h k1 k2 l1 l2).push { cls:=.type "tuple", data:=.seq #[.ref h.objs.size,.ref (aoj h k1 k2 l1 l2).objs.size] }
abbrev ars(h:Heap)(k1 k2:Bool)(l1 l2:Addr):Heap:=(aru h k1 k2 l1 l2).push { cls:=.type "tuple", data:=.seq #[.none,.none] }
abbrev aj7(h:Heap)(k1 k2:Bool)(l1 l2:Addr):Heap:=(ars h k1 k2 l1 l2).push { cls:=.type "zip", data:=.fields #[.none,.bool false,.bool false,.ref (arx h k1 k2 l1 l2).objs.size,.ref (aru h k1 k2 l1 l2).objs.size] }
theorem awr(k1 k2:Bool)(l1 l2:Addr)(x1 x2:Array Value) :
  Meets (gH.«zip.__new__» ⟨[.type "zip", .ref l1,.ref l2],[]⟩) (fun _ R s=>Sq1 k1 s.heap l1 x1/\Sq1 k2 s.heap l2 x2/\R (.ok (.ret (.ref (ars s.heap k1 k2 l1 l2).objs.size))) { s with heap:=aj7 s.heap k1 k2 l1 l2 }) :=
 .of_wp fun prog w A R s h=>by
  obtain⟨hp,g,d,tk,os⟩:=s;obtain⟨s1,s2,h⟩:=h;have sb:=sub_zip;have r1:Sq1 k1 (lQ ⟨hp,g,d,tk,os⟩) l1 x1:=s1.at fun _ e=>e
  have r2:Sq1 k2 (lQ ⟨aoj hp k1 k2 l1 l2,g,d,tk,os⟩) l2 x2:=s2.at fun _ e=>aB _ (e)
  wp_walk using aky r1,aky r2;exact⟨_,rfl,h⟩
theorem aq6{k1 k2:Bool}{l1 l2:Addr}{x1 x2:Array Value}{Q:Value->aJ->Prop}(s1:Sq1 k1 s.heap l1 x1)(s2:Sq1 k2 s.heap l2 x2)
  (q:∀h',IsZip h' (s.heap.objs.size+4) (s.heap.objs.size+2) (s.heap.objs.size+3) .none->Row2 h' (s.heap.objs.size+2) (.ref s.heap.objs.size) (.ref (s.heap.objs.size+1))->Row2 h' (s.heap.objs.size+3) .none .none->It1 k1 h' s.heap.objs.size l1 0->It1 k2 h' (s.heap.objs.size+1) l2 0->h'.objs.size=s.heap.objs.size+5->(∀c o,s.heap.get? c=some o->h'.get? c=some o)->Q (.ref (s.heap.objs.size+4)) { s with heap:=h' }) :
  wpAny (model prog w) A (call (.type "zip") [.ref l1,.ref l2]) Q E s:=by
 refine callType_new F.called_zip (by decide) (avn _ _) (awp _ _) (fun obj=>ax5 obj _ _) uX (awr k1 k2 l1 l2 x1 x2) ⟨s1,s2,?_⟩
 have e1:(aoj s.heap k1 k2 l1 l2).objs.size=s.heap.objs.size+1:=by rw[bD]
 have e2:(arx s.heap k1 k2 l1 l2).objs.size=s.heap.objs.size+2:=by rw[bD,e1]
 have eI:(aru s.heap k1 k2 l1 l2).objs.size=s.heap.objs.size+3:=by rw[bD,e2]
 have eO:(ars s.heap k1 k2 l1 l2).objs.size=s.heap.objs.size+4:=by rw[bD,eI]
 have eZ:(aj7 s.heap k1 k2 l1 l2).objs.size=s.heap.objs.size+5:=by rw[bD,eO]
 have gZ:(aj7 s.heap k1 k2 l1 l2).get? (ars s.heap k1 k2 l1 l2).objs.size=some _:=aK _ rfl;have gO:(aj7 s.heap k1 k2 l1 l2).get? (aru s.heap k1 k2 l1 l2).objs.size=some _:=aB _ (aK _ rfl);have gI:(aj7 s.heap k1 k2 l1 l2).get? (arx s.heap k1 k2 l1 l2).objs.size=some _:=aB _ (aB _ (aK _ rfl));have j1:(aj7 s.heap k1 k2 l1 l2).get? s.heap.objs.size=some _:=aB _ (aB _ (aB _ (aB _ (aK _ rfl))));have j2:(aj7 s.heap k1 k2 l1 l2).get? (aoj s.heap k1 k2 l1 l2).objs.size=some _:=aB _ (aB _ (aB _ (aK _ rfl)));show _/\_;rw[e2,eI,eO] at gZ;rw[e1,e2] at gI;rw[eI] at gO;rw[e1] at j2;rw[eO];exact⟨⟨_,gZ,rfl⟩,q _ gZ gI gO (ad0 j1) (ad0 j2) eZ fun c o x=>aB _ (aB _ (aB _ (aB _ (aB _ (x)))))⟩
end
theorem avm(v1 v2 v3:Value):checkTypeCall "zip" ⟨[v1,v2,v3],[]⟩=pure ():=by kernel_rfl
theorem awo(v1 v2 v3:Value):checkBuiltinCall "zip.__new__" ⟨[.type "zip", v1,v2,v3],[]⟩=pure ():=by kernel_rfl
theorem ax4(o v1 v2 v3:Value):qT "object.__init__" ⟨[o,v1,v2,v3],[]⟩:=by
 unfold qT;rw[signature?_of (id := "object.__init__") (n:=['_','_','t','i','n','i','_','_']) (o:=['t','c','e','j','b','o']) (by kernel_rfl) vG];kernel_rfl
abbrev Row3(h:Heap)(T:Addr)(v1 v2 v3:Value):Prop:=h.get? T=some { cls:=.type "tuple", data:=.seq #[v1,v2,v3] }
structure Apart3 (z TI TO i1 i2 i3 l1 l2 l3:Addr):Prop where
 nTIz:TI≠z
 nTOz:TO≠z
 nTOTI:TO≠TI
 ni1z:i1≠z
 ni1TI:i1≠TI
 ni1TO:i1≠TO
 ni2z:i2≠z
 ni2TI:i2≠TI
 ni2TO:i2≠TO
 ni2i1:i2≠i1
 ni3z:i3≠z
 ni3TI:i3≠TI
 ni3TO:i3≠TO
 ni3i1:i3≠i1
 ni3i2:i3≠i2
 nl1z:l1≠z
 nl1TO:l1≠TO
 nl1i1:l1≠i1
 nl1i2:l1≠i2
 nl1i3:l1≠i3
 nl2z:l2≠z
 nl2TO:l2≠TO
 nl2i1:l2≠i1
 nl2i2:l2≠i2
 nl2i3:l2≠i3
 nl3z:l3≠z
 nl3TO:l3≠TO
 nl3i1:l3≠i1
 nl3i2:l3≠i2
 nl3i3:l3≠i3
section
variable{prog:bI}{w:World}{A:cM}{E:Value->aJ->Prop}{s:aJ}
theorem ayx{T:Addr}{v1 v2 v3 x:Value}{Q:Unit->aJ->Prop}(h:Row3 s.heap T v1 v2 v3)(q:∀h',Row3 h' T x v2 v3->cH T s.heap h'->Q () { s with heap:=h' }):wpAny (model prog w) A (updateSeq T (·.setIfInBounds 0 x)) Q E s:=by
 refine wpAny_updateSeq h rfl (q _ (show pZ _ T=_ from ?_) (cA ..))
 rw[bQ _ h rfl];simp[fW]
theorem ayw{T:Addr}{v1 v2 v3 x:Value}{Q:Unit->aJ->Prop}(h:Row3 s.heap T v1 v2 v3)(q:∀h',Row3 h' T v1 x v3->cH T s.heap h'->Q () { s with heap:=h' }):wpAny (model prog w) A (updateSeq T (·.setIfInBounds 1 x)) Q E s:=by
 refine wpAny_updateSeq h rfl (q _ (show pZ _ T=_ from ?_) (cA ..))
 rw[bQ _ h rfl];simp[fW]
theorem ayv{T:Addr}{v1 v2 v3 x:Value}{Q:Unit->aJ->Prop}(h:Row3 s.heap T v1 v2 v3)(q:∀h',Row3 h' T v1 v2 x->cH T s.heap h'->Q () { s with heap:=h' }):wpAny (model prog w) A (updateSeq T (·.setIfInBounds 2 x)) Q E s:=by
 refine wpAny_updateSeq h rfl (q _ (show pZ _ T=_ from ?_) (cA ..))
 rw[bQ _ h rfl];simp[fW]
theorem aof{z TI TO i1 i2 i3 l1 l2 l3:Addr}{k1 k2 k3:Bool}{i:Nat}{x1 x2 x3:Array Value}{v1 v2 v3:Value}{Q:Value->aJ->Prop}(hh:A.handled=none)(D:Apart3 z TI TO i1 i2 i3 l1 l2 l3)
  (hz:IsZip s.heap z TI TO .none) (hI:Row3 s.heap TI (.ref i1) (.ref i2) (.ref i3)) (hO:Row3 s.heap TO v1 v2 v3) (h1:It1 k1 s.heap i1 l1 i) (s1:Sq1 k1 s.heap l1 x1) (h2:It1 k2 s.heap i2 l2 i) (s2:Sq1 k2 s.heap l2 x2) (h3:It1 k3 s.heap i3 l3 i) (s3:Sq1 k3 s.heap l3 x3) (b1:i < x1.size) (b2:i < x2.size) (b3:i < x3.size)
  (q:∀h' tk y1 y2 y3,x1[i]? = some y1->x2[i]? = some y2->x3[i]? = some y3->IsZip h' z TI TO (jT s.heap.objs.size)->Row3 h' TO y1 y2 y3->It1 k1 h' i1 l1 (i+1)->It1 k2 h' i2 l2 (i+1)->It1 k3 h' i3 l3 (i+1)->Row3 h' s.heap.objs.size y1 y2 y3->h'.objs.size=s.heap.objs.size+1 ->
   (∀c o,c≠z->c≠TO->c≠i1->c≠i2->c≠i3->s.heap.get? c=some o->h'.get? c=some o)->Q (.ref s.heap.objs.size) { s with heap:=h',toks:=tk }) :
  wpAny (model prog w) A (gH.«zip.__next__» ⟨[.ref z],[]⟩) (fun fin s'=>∃v,fin=.done (.ret v)/\Q v s') E s:=by
 refine aA (m:=field (.ref z) 2) (cJ hz rfl (x:=.bool false) rfl ?_);refine aA (m:=field (.ref z) 3) (cJ hz rfl (x:=.ref TI) rfl ?_);refine aA (dF hI rfl ?_);refine aA (m:=SmallTypes.ownedTupleIsFree (.ref z)) ?_;unfold SmallTypes.ownedTupleIsFree;refine aA (cJ hz rfl (x:=.none) rfl (aF ?_));simp only[if_true];refine aA (gU (aA (cJ hz rfl (x:=.ref TO) rfl ?_)));refine aA (eE hz (by simp) fun g0 z0 a0 =>?_)
 have z0:IsZip g0 z TI TO .ellipsis:=z0;refine aA ?_;simp only[mC,mO,jX,nG];refine aA (aA (wpAny_onRaise ?_));refine aA (m:=SmallTypes.nextOf (.ref i1)) ((src hh k1 i1 l1 D.nl1i1 x1).item i _ _ _ b1 ⟨(h1.at fun _ e=>(a0.extBut _ _ D.ni1z e)),(s1.at fun _ e=>(a0.extBut _ _ D.nl1z e))⟩ fun y1 f1 t1 p1 q1 c1=>aF ?_)
 have c1:cH i1 g0 f1:=c1;have P1:Row3 f1 TO v1 v2 v3:=(c1.extBut _ _ D.ni1TO.symm (a0.extBut _ _ D.nTOz hO));refine aA (dF P1 rfl ?_);refine aA (ayx P1 fun g1 O1 a1 =>?_)
 have a1:cH TO f1 g1:=a1;refine aA (wpAny_letGo (aF ?_));refine aA (aA (wpAny_onRaise ?_));refine aA (m:=SmallTypes.nextOf (.ref i2)) ((src hh k2 i2 l2 D.nl2i2 x2).item i _ _ _ b2 ⟨(h2.at fun _ e=>(a1.extBut _ _ D.ni2TO (c1.extBut _ _ D.ni2i1 (a0.extBut _ _ D.ni2z e)))),(s2.at fun _ e=>(a1.extBut _ _ D.nl2TO (c1.extBut _ _ D.nl2i1 (a0.extBut _ _ D.nl2z e))))⟩ fun y2 f2 t2 p2 q2 c2=>aF ?_)
 have c2:cH i2 g1 f2:=c2;have P2:Row3 f2 TO y1 v2 v3:=(c2.extBut _ _ D.ni2TO.symm O1);refine aA (dF P2 rfl ?_);refine aA (ayw P2 fun g2 O2 a2 =>?_)
 have a2:cH TO f2 g2:=a2;refine aA (wpAny_letGo (aF ?_));refine aA (aA (wpAny_onRaise ?_));refine aA (m:=SmallTypes.nextOf (.ref i3)) ((src hh k3 i3 l3 D.nl3i3 x3).item i _ _ _ b3 ⟨(h3.at fun _ e=>(a2.extBut _ _ D.ni3TO (c2.extBut _ _ D.ni3i2 (a1.extBut _ _ D.ni3TO (c1.extBut _ _ D.ni3i1 (a0.extBut _ _ D.ni3z e)))))),(s3.at fun _ e=>(a2.extBut _ _ D.nl3TO (c2.extBut _ _ D.nl3i2 (a1.extBut _ _ D.nl3TO (c1.extBut _ _ D.nl3i1 (a0.extBut _ _ D.nl3z e))))))⟩ fun y3 f3 t3 p3 q3 c3=>aF ?_)
 have c3:cH i3 g2 f3:=c3;have P3:Row3 f3 TO y1 y2 v3:=(c3.extBut _ _ D.ni3TO.symm O2);refine aA (dF P3 rfl ?_);refine aA (ayv P3 fun g3 O3 a3 =>?_)
 have a3:cH TO f3 g3:=a3;refine aA (wpAny_letGo (aF (aF ?_)));refine aA (dF O3 rfl (aA (wpAny_newTuple ?_)));have sz:g3.objs.size=s.heap.objs.size:=by rw[a3.1,c3.1,a2.1,c2.1,a1.1,c1.1,a0.1]
 have zn:IsZip g3 z TI TO .ellipsis:=(a3.extBut _ _ D.nTOz.symm (c3.extBut _ _ D.ni3z.symm (a2.extBut _ _ D.nTOz.symm (c2.extBut _ _ D.ni2z.symm (a1.extBut _ _ D.nTOz.symm (c1.extBut _ _ D.ni1z.symm z0))))));have kn:∀c o,c≠z->c≠TO->c≠i1->c≠i2->c≠i3->s.heap.get? c=some o->g3.get? c=some o:=fun c o n0 n1 n2 n3 n4 e=>(a3.extBut _ _ n1 (c3.extBut _ _ n4 (a2.extBut _ _ n1 (c2.extBut _ _ n3 (a1.extBut _ _ n1 (c1.extBut _ _ n2 (a0.extBut _ _ n0 e)))))))
 have j1:It1 k1 g3 i1 l1 (i+1):=q1.1.at fun _ e=>(a3.extBut _ _ D.ni1TO (c3.extBut _ _ D.ni3i1.symm (a2.extBut _ _ D.ni1TO (c2.extBut _ _ D.ni2i1.symm (a1.extBut _ _ D.ni1TO e)))))
 have j2:It1 k2 g3 i2 l2 (i+1):=q2.1.at fun _ e=>(a3.extBut _ _ D.ni2TO (c3.extBut _ _ D.ni3i2.symm (a2.extBut _ _ D.ni2TO e)))
 have j3:It1 k3 g3 i3 l3 (i+1):=q3.1.at fun _ e=>(a3.extBut _ _ D.ni3TO e)
 have lz:z < g3.objs.size:=aP zn;refine aA (m:=SmallTypes.ownedTupleHandOut (.ref z) (.ref g3.objs.size)) ?_;unfold SmallTypes.ownedTupleHandOut;have zp:IsZip (g3.push { cls:=.type "tuple", data:=.seq #[y1,y2,y3] }) z TI TO .ellipsis:=aB _ zn;refine aA (eE zp (by simp) fun e1 z1 b1' =>?_)
 have z1:IsZip e1 z TI TO (jT g3.objs.size):=z1;refine eE z1 (by simp) fun e2 z2 b2' =>?_
 have z2:IsZip e2 z TI TO (jT g3.objs.size):=z2;have up:∀c o,c≠z->g3.get? c=some o->e2.get? c=some o:=fun c o n1 e=>b2'.extBut _ _ n1 (b1'.extBut _ _ n1 (aB _ e))
 have t2:Row3 e2 g3.objs.size y1 y2 y3:=b2'.extBut _ _ (fX lz) (b1'.extBut _ _ (fX lz) (aK _ rfl));have s2':e2.objs.size=g3.objs.size+1:=by rw[b2'.1,b1'.1,bD]
 rw[sz] at z2 t2 s2';refine aF ⟨_,rfl,?_⟩;show Q (.ref g3.objs.size) _;rw[sz];exact q e2 _ y1 y2 y3 p1 p2 p3 z2 (up _ _ D.nTOz O3) (j1.at fun _ e=>up _ _ D.ni1z e) (j2.at fun _ e=>up _ _ D.ni2z e) (j3.at fun _ e=>up _ _ D.ni3z e) t2 s2' fun c o n0 n1 n2 n3 n4 e=>up c o n0 (kn c o n0 n1 n2 n3 n4 e)
theorem aro{z TI TO i1 i2 i3 l1 l2 l3:Addr}{k1:Bool}{x1:Array Value}{v1 v2 v3:Value}{Q:Fin->aJ->Prop}(hh:A.handled=none)(D:Apart3 z TI TO i1 i2 i3 l1 l2 l3)
  (hz:IsZip s.heap z TI TO .none) (hI:Row3 s.heap TI (.ref i1) (.ref i2) (.ref i3)) (hO:Row3 s.heap TO v1 v2 v3) (h1:It1 k1 s.heap i1 l1 x1.size) (s1:Sq1 k1 s.heap l1 x1)
  (q:∀h' e,(∀c o,c≠z->c≠i1->s.heap.get? c=some o->h'.get? c=some o)->(∃o,h'.get? e=some o/\o.cls=.type "StopIteration")->E (.ref e) { s with heap:=h' }) :
  wpAny (model prog w) A (gH.«zip.__next__» ⟨[.ref z],[]⟩) Q E s:=by
 refine aA (m:=field (.ref z) 2) (cJ hz rfl (x:=.bool false) rfl ?_);refine aA (m:=field (.ref z) 3) (cJ hz rfl (x:=.ref TI) rfl ?_);refine aA (dF hI rfl ?_);refine aA (m:=SmallTypes.ownedTupleIsFree (.ref z)) ?_;unfold SmallTypes.ownedTupleIsFree;refine aA (cJ hz rfl (x:=.none) rfl (aF ?_));simp only[if_true];refine aA (gU (aA (cJ hz rfl (x:=.ref TO) rfl ?_)));refine aA (eE hz (by simp) fun g0 z0 a0 =>?_)
 have z0:IsZip g0 z TI TO .ellipsis:=z0;refine aA ?_;simp only[mC,mO,jX,nG];refine aA (aA (wpAny_onRaise ?_));refine aA (m:=SmallTypes.nextOf (.ref i1)) ((src hh k1 i1 l1 D.nl1i1 x1).done _ _ _ ⟨(h1.at fun _ e=>a0.extBut _ _ D.ni1z e),(s1.at fun _ e=>a0.extBut _ _ D.nl1z e)⟩ fun f1 e c1 ⟨oe,he,ce⟩ =>?_)
 have zf:IsZip f1 z TI TO .ellipsis:=c1 _ _ D.ni1z.symm z0;have ez:e≠z:=fun x=>by subst x;rw[zf] at he;cases he;simp at ce
 refine eE zf (by simp) fun f2 _ a1=>q f2 e (fun c o n1 n2 y=>a1.extBut _ _ n1 (c1 _ _ n2 (a0.extBut _ _ n1 y))) ⟨oe,a1.extBut _ _ ez he,ce⟩
abbrev aoi(h:Heap)(k1 k2 k3:Bool)(l1 l2 l3:Addr):Heap:=h.push { cls:=.type (cond k1 "tuple_iterator" "list_iterator"),data:=.fields #[.ref l1,.int 0 0] }
abbrev aoh(h:Heap)(k1 k2 k3:Bool)(l1 l2 l3:Addr):Heap:=(aoi h k1 k2 k3 l1 l2 l3).push { cls:=.type (cond k2 "tuple_iterator" "list_iterator"),data:=.fields #[.ref l2,.int 0 0] }
abbrev arw(h:Heap)(k1 k2 k3:Bool)(l1 l2 l3:Addr):Heap:=(aoh h k1 k2 k3 l1 l2 l3).push { cls:=.type (cond k3 "tuple_iterator" "list_iterator"),data:=.fields #[.ref l3,.int 0 0] }
abbrev art(h:Heap)(k1 k2 k3:Bool)(l1 l2 l3:Addr):Heap:=(arw h k1 k2 k3 l1 l2 l3).push { cls:=.type "tuple", data:=.seq #[.ref h.objs.size,.ref (aoi h k1 k2 k3 l1 l2 l3).objs.size,.ref (aoh h k1 k2 k3 l1 l2 l3).objs.size] }
abbrev arq(h:Heap)(k1 k2 k3:Bool)(l1 l2 l3:Addr):Heap:=(art h k1 k2 k3 l1 l2 l3).push { cls:=.type "tuple", data:=.seq #[.none,.none,.none] }
abbrev aic(h:Heap)(k1 k2 k3:Bool)(l1 l2 l3:Addr):Heap:=(arq h k1 k2 k3 l1 l2 l3).push { cls:=.type "zip", data:=.fields #[.none,.bool false,.bool false,.ref (arw h k1 k2 k3 l1 l2 l3).objs.size,.ref (art h k1 k2 k3 l1 l2 l3).objs.size] }
set_option maxHeartbeats 2000000 in
theorem awq(k1 k2 k3:Bool)(l1 l2 l3:Addr)(x1 x2 x3:Array Value) :
  Meets (gH.«zip.__new__» ⟨[.type "zip", .ref l1,.ref l2,.ref l3],[]⟩) (fun _ R s=>Sq1 k1 s.heap l1 x1/\Sq1 k2 s.heap l2 x2/\Sq1 k3 s.heap l3 x3/\R (.ok (.ret (.ref (arq s.heap k1 k2 k3 l1 l2 l3).objs.size))) { s with heap:=aic s.heap k1 k2 k3 l1 l2 l3 }) :=
 .of_wp fun prog w A R s h=>by
  obtain⟨hp,g,d,tk,os⟩:=s;obtain⟨s1,s2,s3,h⟩:=h;have sb:=sub_zip;have r1:Sq1 k1 (lQ ⟨hp,g,d,tk,os⟩) l1 x1:=s1.at fun _ e=>e
  have r2:Sq1 k2 (lQ ⟨aoi hp k1 k2 k3 l1 l2 l3,g,d,tk,os⟩) l2 x2:=s2.at fun _ e=>aB _ (e)
  have r3:Sq1 k3 (lQ ⟨aoh hp k1 k2 k3 l1 l2 l3,g,d,tk,os⟩) l3 x3:=s3.at fun _ e=>aB _ (aB _ (e))
  wp_walk using aky r1,aky r2,aky r3;exact⟨_,rfl,h⟩
theorem aq5{k1 k2 k3:Bool}{l1 l2 l3:Addr}{x1 x2 x3:Array Value}{Q:Value->aJ->Prop}(s1:Sq1 k1 s.heap l1 x1)(s2:Sq1 k2 s.heap l2 x2)(s3:Sq1 k3 s.heap l3 x3)
  (q:∀h',IsZip h' (s.heap.objs.size+5) (s.heap.objs.size+3) (s.heap.objs.size+4) .none->Row3 h' (s.heap.objs.size+3) (.ref s.heap.objs.size) (.ref (s.heap.objs.size+1)) (.ref (s.heap.objs.size+2))->Row3 h' (s.heap.objs.size+4) .none .none .none->It1 k1 h' s.heap.objs.size l1 0->It1 k2 h' (s.heap.objs.size+1) l2 0->It1 k3 h' (s.heap.objs.size+2) l3 0->h'.objs.size=s.heap.objs.size+6->(∀c o,s.heap.get? c=some o->h'.get? c=some o)->Q (.ref (s.heap.objs.size+5)) { s with heap:=h' }) :
  wpAny (model prog w) A (call (.type "zip") [.ref l1,.ref l2,.ref l3]) Q E s:=by
 refine callType_new F.called_zip (by decide) (avm _ _ _) (awo _ _ _) (fun obj=>ax4 obj _ _ _) uX (awq k1 k2 k3 l1 l2 l3 x1 x2 x3) ⟨s1,s2,s3,?_⟩
 have e1:(aoi s.heap k1 k2 k3 l1 l2 l3).objs.size=s.heap.objs.size+1:=by rw[bD]
 have e2:(aoh s.heap k1 k2 k3 l1 l2 l3).objs.size=s.heap.objs.size+2:=by rw[bD,e1]
 have e3:(arw s.heap k1 k2 k3 l1 l2 l3).objs.size=s.heap.objs.size+3:=by rw[bD,e2]
 have eI:(art s.heap k1 k2 k3 l1 l2 l3).objs.size=s.heap.objs.size+4:=by rw[bD,e3]
 have eO:(arq s.heap k1 k2 k3 l1 l2 l3).objs.size=s.heap.objs.size+5:=by rw[bD,eI]
 have eZ:(aic s.heap k1 k2 k3 l1 l2 l3).objs.size=s.heap.objs.size+6:=by rw[bD,eO]
 have gZ:(aic s.heap k1 k2 k3 l1 l2 l3).get? (arq s.heap k1 k2 k3 l1 l2 l3).objs.size=some _:=aK _ rfl;have gO:(aic s.heap k1 k2 k3 l1 l2 l3).get? (art s.heap k1 k2 k3 l1 l2 l3).objs.size=some _:=aB _ (aK _ rfl);have gI:(aic s.heap k1 k2 k3 l1 l2 l3).get? (arw s.heap k1 k2 k3 l1 l2 l3).objs.size=some _:=aB _ (aB _ (aK _ rfl));have j1:(aic s.heap k1 k2 k3 l1 l2 l3).get? s.heap.objs.size=some _:=aB _ (aB _ (aB _ (aB _ (aB _ (aK _ rfl)))));have j2:(aic s.heap k1 k2 k3 l1 l2 l3).get? (aoi s.heap k1 k2 k3 l1 l2 l3).objs.size=some _:=aB _ (aB _ (aB _ (aB _ (aK _ rfl))));have j3:(aic s.heap k1 k2 k3 l1 l2 l3).get? (aoh s.heap k1 k2 k3 l1 l2 l3).objs.size=some _:=aB _ (aB _ (aB _ (aK _ rfl)));show _/\_;rw[e3,eI,eO] at gZ;rw[e1,e2,e3] at gI;rw[eI] at gO;rw[e1] at j2;rw[e2] at j3;rw[eO];exact⟨⟨_,gZ,rfl⟩,q _ gZ gI gO (ad0 j1) (ad0 j2) (ad0 j3) eZ fun c o x=>aB _ (aB _ (aB _ (aB _ (aB _ (aB _ (x))))))⟩
end
end En
namespace Mn
open L2 En
def SqK(k:Bool)(K:Fg9)(H:Hp)(a:Addr)(xs:List V):Prop:=cond k (SqT K H a xs) (SqL K H a xs)
theorem z7{xs:List V}{us:List Value}(r:Vals xs us){i:Nat}{x:V}{u:Value}(h:xs[i]? = some x)(h':us.toArray[i]? = some u):RelV x u:=by
 obtain⟨u',e,z⟩:=r.get h;have:us[i]? = some u:=by simpa using h'
 rw[this] at e;cases e;exact z
section
variable{X:Cx}{zv:List (Addr×Obj)}{σ:L2.St}{H:Hp}{s:aJ}{h':Heap}{a:Addr}{xs ys:List V}{k:Bool}
theorem xj(I:Inv X zv σ H s)(h:SqK k X.K H a xs):∃its:List Value,Vals xs its/\Sq1 k s.heap a its.toArray:=by
 cases k with
 | false =>
  obtain⟨its,r,p,_⟩:=I.list h;exact⟨its,r,p.isList⟩
 | true =>
  obtain⟨its,r,p,_⟩:=I.tuple h;exact⟨its,r,p⟩
theorem ad1(I:Inv X zv σ H s)(h:SqK k X.K H a xs)(h2:SqK k X.K H a ys):xs=ys:=by
 cases k with
 | false=>exact I.list_inj h h2
 | true=>exact I.tuple_inj h h2
theorem abw{t':Nat}{fp:List Addr}(I:Inv X zv σ H s)(kk:∀b o,b∉fp->s.heap.get? b=some o->h'.get? b=some o)(hf:∀b∈fp,FpOk X zv H b):Inv X zv σ H { s with heap:=h',toks:=t' }:=by
 have nit:∀b u,H b=some u->b∉fp:=fun b u e z=>by rw[(hf b z).1] at e;cases e
 have nL:X.env.locals∉fp:=fun z=>(hf _ z).2.1 rfl
 refine I.step (g':=s.gens) (d':=s.drawn) (ch:=fp) (fun b hb=>⟨(hf b hb).2.2.2.1,(hf b hb).2.1,(hf b hb).2.2.2.2.1,(hf b hb).2.2.2.2.2⟩) (fun b o _ _ hc e _=>kk b o hc e) (fun b o _ _ hc e _=>⟨o.slots,kk b o hc e⟩) (fun _ _ _ _ n=>n)
  (fun b o hc e=>⟨o,kk b o hc e⟩) (fun _ _ e=>e) (fun _ _ _ e=>e) (fun b ps e=>⟨#[],by rw[e];simp⟩) (fun m hm =>?_) (fun b u e =>?_) I.bare
 ·obtain⟨o,es,ep,ho,r⟩:=hm;exact⟨o,es,ep,kk _ o nL ho,r⟩
 ·refine(I.hok b u e).stay (fun c v hc q=>kk c v ?_ q) (fun _ q=>q) fun _ _ q=>q
  rcases hc with z | z
  ·rw[z];exact nit b u e
  ·exact nit c _ z
theorem ak0{t':Nat}{fp:List Addr}{vs:List V}{us:List Value}(I:Inv X zv σ H s)(kk:∀b o,b∉fp->s.heap.get? b=some o->h'.get? b=some o)(hf:∀b∈fp,FpOk X zv H b)(hb:∀b∈fp,b < s.heap.objs.size)
  (r:Vals vs us) (hz:vs.length<=bV) (ht:h'.get? s.heap.objs.size=some { cls:=.type "tuple", data:=.seq us.toArray }):Inv X zv σ (upd H s.heap.objs.size (.tup vs)) { s with heap:=h',toks:=t' }:=by
 have I1:=I.laid (h':=s.heap.push { cls:=.type "tuple", data:=.seq us.toArray }) (t':=s.toks) (a:=s.heap.objs.size) (o:=.tup vs) (fun b u e=>aB _ e) (aL _) ⟨hz,us,r,⟨_,aK _ rfl,rfl,rfl,_,rfl⟩⟩
 have k2:∀b o,b∉fp->(s.heap.push { cls:=.type "tuple", data:=.seq us.toArray }).get? b=some o->h'.get? b=some o:=fun b o hn e=>by
  rcases Heap.get?_push_cases e with⟨rfl,rfl⟩ | e
  ·exact ht
  ·exact kk b o hn e
 have f2:∀b∈fp,FpOk X zv (upd H s.heap.objs.size (.tup vs)) b:=fun b hb'=>by
  obtain⟨f0,f⟩:=hf b hb';exact⟨by rw[fj (bC (hb b hb'))];exact f0,f⟩
 have R:=abw (t':=t') (h':=h') (fp:=fp) I1 k2 f2;exact R
end
theorem auz{k:Bool}{h:Heap}{it a l:Addr}{i:Nat}{xs:Array Value}(x:It1 k h it l i){k':Bool}(y:Sq1 k' h a xs):a≠it:=fun e=>by
 subst e;cases k <;> cases k' <;> exact(by
  obtain⟨o,e1,c1,_⟩:=x;obtain⟨o',e2,c2,_⟩:=y;rw[e1] at e2;cases e2;rw[c1] at c2;simp at c2)
theorem a3k{h:Heap}{a b:Addr}{o:Obj}{n:String}{k:Bool}{xs:Array Value}(e:h.get? b=some o)(c:o.cls=.type n)(hn:n ≠ "list" /\ n ≠ "tuple")(y:Sq1 k h a xs):a≠b:=fun z=>by
 subst z;cases k <;> exact(by
  obtain⟨o',e2,c2,_⟩:=y;rw[e] at e2;cases e2;rw[c] at c2;simp at c2
  first | exact hn.1 c2 | exact hn.2 c2)
def Ite(K:Fg9)(k:Bool)(a:Addr):It :=
 ⟨fun i H=>∃xs x,SqK k K H a xs/\xs[i]? = some x,fun i H x H'=>∃q v,H q=none/\x=.ref q/\H'=upd H q (.tup [.int i,v])/\∀xs,SqK k K H a xs->xs[i]? = some v,fun i H=>∃xs,SqK k K H a xs/\xs.length=i⟩
theorem aou{P:bI}{w:World}{K:Fg9}{elts:List Expr}{n:Nat}{pos:Pos}(k:Bool)(a e it:Addr)(ne:e≠it) :
  Turn P w K (.Tuple elts n pos) (Ite K k a) [e,it] e (fun i h=>(∃old,IsEnum h e it i old)/\It1 k h it a i) where
 mem:=by simp
 obj:=fun i h st b hb=>by
  have hb:b=e∨b=it:=by simpa using hb
  rcases hb with rfl | rfl
  ·obtain⟨old,z⟩:=st.1;exact⟨_,z,fun v z=>by cases z⟩
  ·exact st.2.got
 keep:=fun i h h' st kk=>by
  obtain⟨⟨old,z⟩,y⟩:=st;exact⟨⟨old,kk e (by simp) _ z⟩,y.at fun o z=>kk it (by simp) o z⟩
 item:=by
  intro X hP hw hK hc i zv s σ H E I hf st hg;subst hP hw hK;obtain⟨⟨old,he⟩,hi⟩:=st;obtain⟨xs,x,hq,hx⟩:=hg;obtain⟨its,rv,sq⟩:=xj I hq;obtain⟨u,hu,ru⟩:=rv.get hx;have hlt:i < its.toArray.size:=by simpa using (aM.mp hu).1
  have nai:=auz hi sq;have nae:a≠e:=a3k he rfl (by decide) sq
  have D:=En.src (prog:=X.prog) (w:=X.w) (A:=X.A.in1) (I.ok.hd hc) k it a nai its.toArray;refine wpAny_pyNext_enum_itemD D he ⟨hi,sq⟩ hlt ne (by simp[ne,nae.symm]) fun y g tk hy ho hs hT hz hk =>?_
  refine⟨_,rfl,wpAny_letOwnedTupleGo_enum ho fun g2 he2 sb =>?_⟩
  have ry:=z7 rv hx hy;have lte:e < s.heap.objs.size:=aP he;have lti:it < s.heap.objs.size:=by obtain⟨o,z,_⟩:=hi.got;exact aP z
  have fr:H s.heap.objs.size=none:=I.hok.fresh (aL _);refine⟨.ref s.heap.objs.size,upd H s.heap.objs.size (.tup [.int i,x]),?_,rfl,⟨_,x,fr,rfl,rfl,fun ys hy=>by rw[ad1 I hy hq];exact hx⟩,⟨⟨_,he2⟩,hs.1.at fun o z=>sb.extBut _ _ ne.symm z⟩,fun b hb =>?_⟩
  ·refine ak0 (fp:=[e,it]) (us:=[.int i tk,y]) I (fun b o hn z =>?_) hf (fun b hb =>?_) (.cons ⟨tk,rfl⟩ (.cons ry .nil)) (by rw[gA];simp) (sb.extBut _ _ (fX lte) hT)
   ·have h1:b≠e:=fun z=>hn (by simp[z])
    have h2:b≠it:=fun z=>hn (by simp[z])
    exact sb.extBut _ _ h1 (hk b o h1 h2 z)
   ·have hb:b=e∨b=it:=by simpa using hb
    rcases hb with rfl | rfl
    ·exact lte
    ·exact lti
  ·have hb':b=e∨b=it:=by simpa using hb
   rw[fj (by rcases hb' with rfl | rfl;exact bC lte;exact bC lti)]
   exact(hf b hb).1
 done:=by
  intro X hP hw hK hc i zv s σ H E I hf st hg;subst hP hw hK;obtain⟨⟨old,he⟩,hi⟩:=st;obtain⟨xs,hq,hx⟩:=hg;obtain⟨its,rv,sq⟩:=xj I hq;have hl:i=its.toArray.size:=by have:=rv.length;simp;omega
  subst hl;have D:=En.src (prog:=X.prog) (w:=X.w) (A:=X.A.in1) (I.ok.hd hc) k it a (auz hi sq) its.toArray;refine wpAny_pyNext_enum_endD D he ⟨hi,sq⟩ fun g eb=>⟨rfl,abw (t':=s.toks) (fp:=[e,it]) I (fun b o hn z=>eb b o (fun z=>hn (by simp[z])) z) hf⟩
 self:=fun _ _ _ _ _ st h=>let ⟨_,z⟩:=st.1;wpAny_pyIter_enum z h
theorem ava:bN "zip" = some (.type "zip"):=by decide +kernel
section
variable{X:Cx}
def a5e(K:Fg9)(ta:TA):TI:=fun σ H R=>ta σ H fun vs H1=>∃a k,vs=[.ref a]/\(∃xs,SqK k K H1 a xs)/\R (Ite K k a) H1
theorem av7{a:Expr}{ta:TA}{p pos:Pos}{elts:List Expr}{n:Nat}{tp:Pos}(hg:Gl X "enumerate")(hm:X.mg "enumerate" = none)(ha:PA X [a] ta)(hs:aW [a] X.env=[(false,eval a X.env)]:=by rfl) :
  PI X (.Tuple elts n tp) (.Call (.Name "enumerate" p) [a] [] pos) (a5e X.K ta):=by
 intro zv s σ H R I h;refine Call_ (afd I hg hm ajz (fU (thn (ha pos zv s σ H _ I h) fun us s1 ⟨vs,H1,I1,r1,q1⟩ =>?_) hs rfl))
 obtain⟨b,k,rfl,⟨xs,hq⟩,q⟩:=q1;obtain⟨u,rfl,ru⟩:=vals1 r1;cases ru;obtain⟨its,rv,sq⟩:=xj I1 hq;refine ara sq fun g he hi hz kk=>wpAny_pyIter_enum he ?_
 have I2:Inv X zv σ H1 { s1 with heap:=g }:=I1.kept (t':=s1.toks) kk
 refine⟨_,[s1.heap.objs.size+1,s1.heap.objs.size],_,_,H1,rfl,I2,aou k b _ _ (Nat.succ_ne_self _),⟨⟨_,he⟩,hi⟩,fun c hc =>?_,q⟩
 have hc:c=s1.heap.objs.size+1∨c=s1.heap.objs.size:=by simpa using hc
 rcases hc with rfl | rfl
 ·exact I1.fpOk (jV _) (I1.hok.fresh (jV _))
 ·exact I1.fpOk (aL _) (I1.hok.fresh (aL _))
end
end Mn
namespace En
open PySem PySem.Builtin
theorem alx{prog:bI}{w:World}{A:cM}{E:Value->aJ->Prop}{s:aJ}{z TI TO:Addr}{f0:Value}{Q:Option Value->aJ->Prop}(hz:IsZip s.heap z TI TO f0)
  (h:wpAny (model prog w) A.in1 (gH.«zip.__next__» ⟨[.ref z],[]⟩) (fun fin s'=>∃v,fin=.done (.ret v)/\Q (some v) s') (fun e s'=>∃a o,e=.ref a/\s'.heap.get? a=some o/\o.cls=.type "StopIteration" /\ Q none s') s) :
  wpAny (model prog w) A (lF (.ref z)) Q E s:=by
 have tz:s.TypeIs (.ref z) "zip" := ⟨_,hz,rfl⟩;unfold lF;refine aA (wpAny_attempt (cQ (name:=gJ "__next__") tz uU (dC uU tz F.entry_zip_next (dG h (fun fin s' ⟨v,e,q⟩=>⟨v,e,aF q⟩) fun e s' ⟨a,o,e1,e2,e3,q⟩ =>?_) (F.args_zip_next_1 _))))
 subst e1;exact aA (wpAny_isInstance (T := "StopIteration") (b:=true) ⟨o,e2,e3⟩ isSubtype_stop (aF q))
end En
namespace Mn
open L2 En
def Itz2(K:Fg9)(k1 k2:Bool)(a1 a2:Addr):It :=
 ⟨fun i H=>∃x1 x2 v1 v2,(SqK k1 K H a1 x1/\x1[i]? = some v1)/\(SqK k2 K H a2 x2/\x2[i]? = some v2),fun i H x H'=>∃q v1 v2,H q=none/\x=.ref q/\H'=upd H q (.tup [v1,v2])/\(∀xs,SqK k1 K H a1 xs->xs[i]? = some v1)/\(∀xs,SqK k2 K H a2 xs->xs[i]? = some v2),fun i H=>∃xs,SqK k1 K H a1 xs/\xs.length=i⟩
theorem aos{P:bI}{w:World}{K:Fg9}{elts:List Expr}{n:Nat}{pos:Pos}(k1 k2:Bool)(a1 a2 z TI TO i1 i2:Addr)(D:Apart2 z TI TO i1 i2 a1 a2) :
  Turn P w K (.Tuple elts n pos) (Itz2 K k1 k2 a1 a2) [z,TI,TO,i1,i2] z (fun i h=>IsZip h z TI TO .none/\Row2 h TI (.ref i1) (.ref i2)/\(∃v1 v2,Row2 h TO v1 v2)/\It1 k1 h i1 a1 i/\It1 k2 h i2 a2 i) where
 mem:=by simp
 obj:=fun i h ⟨hz,hI,⟨v1,v2,hO⟩,h1,h2⟩ b hb=>by
  have hb:b=z∨b=TI∨b=TO∨b=i1∨b=i2:=by simpa using hb
  rcases hb with rfl | rfl | rfl | rfl | rfl
  ·exact⟨_,hz,fun v z=>by cases z⟩
  ·exact⟨_,hI,fun v z=>by cases z⟩
  ·exact⟨_,hO,fun v z=>by cases z⟩
  ·exact h1.got
  ·exact h2.got
 keep:=fun i h h' ⟨hz,hI,⟨v1,v2,hO⟩,h1,h2⟩ kk=>⟨kk z (by simp) _ hz,kk TI (by simp) _ hI,⟨v1,v2,kk TO (by simp) _ hO⟩,h1.at fun o e=>kk i1 (by simp) o e,h2.at fun o e=>kk i2 (by simp) o e⟩
 item:=by
  intro X hP hw hK hc i zv s σ H E I hf st hg;subst hP hw hK;obtain⟨hz,hI,⟨o1,o2,hO⟩,h1,h2⟩:=st;obtain⟨x1,x2,v1,v2,⟨hq1,hx1⟩,⟨hq2,hx2⟩⟩:=hg;obtain⟨t1,r1,s1⟩:=xj I hq1;obtain⟨u1,hu1,_⟩:=r1.get hx1;have b1:i < t1.toArray.size:=by simpa using (aM.mp hu1).1
  obtain⟨t2,r2,s2⟩:=xj I hq2;obtain⟨u2,hu2,_⟩:=r2.get hx2;have b2:i < t2.toArray.size:=by simpa using (aM.mp hu2).1
  refine alx hz (aog (I.ok.hd hc) D hz hI hO h1 s1 h2 s2 b1 b2 fun g tk y1 y2 p1 p2 z2 O2 j1 j2 T2 hsz hk =>?_)
  refine⟨_,rfl,wpAny_letOwnedTupleGo_zip z2 fun g2 he2 sb =>?_⟩
  have fr:H s.heap.objs.size=none:=I.hok.fresh (aL _);have lt:∀b∈[z,TI,TO,i1,i2],b < s.heap.objs.size:=fun b hb=>by
   have hb:b=z∨b=TI∨b=TO∨b=i1∨b=i2:=by simpa using hb
   rcases hb with rfl | rfl | rfl | rfl | rfl
   ·exact aP hz
   ·exact aP hI
   ·exact aP hO
   ·obtain⟨o,e,_⟩:=h1.got;exact aP e
   ·obtain⟨o,e,_⟩:=h2.got;exact aP e
  have up:∀b o,b∉[z,TI,TO,i1,i2]->s.heap.get? b=some o->g2.get? b=some o:=fun b o hn e=>sb.extBut _ _ (fun x=>hn (by simp[x])) (hk b o (fun x=>hn (by simp[x])) (fun x=>hn (by simp[x])) (fun x=>hn (by simp[x])) (fun x=>hn (by simp[x])) e)
  have TI2:g2.get? TI=_:=sb.extBut _ _ D.nTIz (hk TI _ D.nTIz D.nTOTI.symm D.ni1TI.symm D.ni2TI.symm hI);refine⟨.ref s.heap.objs.size,upd H s.heap.objs.size (.tup [v1,v2]),?_,rfl,⟨_,v1,v2,fr,rfl,rfl,fun ys hy=>by rw[ad1 I hy hq1];exact hx1,fun ys hy=>by rw[ad1 I hy hq2];exact hx2⟩,⟨he2,TI2,⟨y1,y2,sb.extBut _ _ D.nTOz O2⟩,(j1.at fun o e=>sb.extBut _ _ D.ni1z e),(j2.at fun o e=>sb.extBut _ _ D.ni2z e)⟩,fun b hb =>?_⟩
  ·exact ak0 (fp:=[z,TI,TO,i1,i2]) (us:=[y1,y2]) I up hf lt (.cons (z7 r1 hx1 p1) (.cons (z7 r2 hx2 p2) .nil)) (by rw[gA];simp) (sb.extBut _ _ (fX (lt z (by simp))) T2)
  ·rw[fj (bC (lt b hb))];exact(hf b hb).1
 done:=by
  intro X hP hw hK hc i zv s σ H E I hf st hg;subst hP hw hK;obtain⟨hz,hI,⟨o1,o2,hO⟩,h1,h2⟩:=st;obtain⟨xs,hq,hx⟩:=hg;obtain⟨its,rv,sq⟩:=xj I hq;have hl:i=its.toArray.size:=by have:=rv.length;simp;omega
  subst hl;refine alx hz (arp (I.ok.hd hc) D hz hI hO h1 sq fun g e kk ⟨o,he,ce⟩=>⟨e,o,rfl,he,ce,rfl,abw (t':=s.toks) (fp:=[z,TI,TO,i1,i2]) I (fun b o hn z=>kk b o (fun z=>hn (by simp[z])) (fun z=>hn (by simp[z])) z) hf⟩)
 self:=fun _ _ _ _ _ st h=>wpAny_pyIter_zip st.1 h
theorem apart2{N l1 l2:Nat}(h1:l1 < N)(h2:l2 < N):Apart2 (N+4) (N+2) (N+3) N (N+1) l1 l2:=by
 constructor <;> (intro e;have e:(_:Nat)=_:=e;omega)
section
variable{X:Cx}
def a5b(K:Fg9)(ta:TA):TI:=fun σ H R=>ta σ H fun vs H1=>∃a1 a2 k1 k2,vs=[.ref a1,.ref a2]/\(∃xs,SqK k1 K H1 a1 xs)/\(∃xs,SqK k2 K H1 a2 xs)/\R (Itz2 K k1 k2 a1 a2) H1
theorem av6{e1 e2:Expr}{ta:TA}{p pos:Pos}{elts:List Expr}{n:Nat}{tp:Pos}(hg:Gl X "zip")(hm:X.mg "zip" = none)(ha:PA X [e1,e2] ta)(hs:aW [e1,e2] X.env=[(false,eval e1 X.env),(false,eval e2 X.env)]:=by rfl)(hs2:aW [e2] X.env=[(false,eval e2 X.env)]:=by rfl) :
  PI X (.Tuple elts n tp) (.Call (.Name "zip" p) [e1,e2] [] pos) (a5b X.K ta):=by
 intro zv s σ H R I h;refine Call_ (afd I hg hm ava (fU (thn (ha pos zv s σ H _ I h) fun us s1 ⟨vs,H1,I1,r1,q1⟩ =>?_) (by rw[hs,hs2]) (by rw[hs2];rfl)))
 obtain⟨a1,a2,k1,k2,rfl,⟨x1,hq1⟩,⟨x2,hq2⟩,q⟩:=q1;obtain⟨u1,u2,rfl,ru1,ru2⟩:=vals2 r1;cases ru1;cases ru2;obtain⟨t1,r1',sq1⟩:=xj I1 hq1;have b1:a1 < s1.heap.objs.size:=by obtain⟨o,e⟩:=sq1.got;exact aP e
 obtain⟨t2,r2',sq2⟩:=xj I1 hq2;have b2:a2 < s1.heap.objs.size:=by obtain⟨o,e⟩:=sq2.got;exact aP e
 refine aq6 sq1 sq2 fun g hz hI hO h1 h2 hsz kk=>wpAny_pyIter_zip hz ?_
 have I2:Inv X zv σ H1 { s1 with heap:=g }:=I1.kept (t':=s1.toks) kk
 refine⟨_,[s1.heap.objs.size+4,s1.heap.objs.size+2,s1.heap.objs.size+3,s1.heap.objs.size,s1.heap.objs.size+1],_,_,H1,rfl,I2,aos k1 k2 a1 a2 _ _ _ _ _ (apart2 b1 b2),⟨hz,hI,⟨_,_,hO⟩,h1,h2⟩,fun c hc =>?_,q⟩
 have hc:s1.heap.objs.size<=c:=by
  simp only[aV,dX,or_false] at hc;rcases hc with rfl | rfl | rfl | rfl | rfl <;> first | exact aL _ | exact uL _ _
 exact I1.fpOk hc (I1.hok.fresh hc)
end
def Itz3(K:Fg9)(k1 k2 k3:Bool)(a1 a2 a3:Addr):It :=
 ⟨fun i H=>∃x1 x2 x3 v1 v2 v3,(SqK k1 K H a1 x1/\x1[i]? = some v1)/\(SqK k2 K H a2 x2/\x2[i]? = some v2)/\(SqK k3 K H a3 x3/\x3[i]? = some v3),fun i H x H'=>∃q v1 v2 v3,H q=none/\x=.ref q/\H'=upd H q (.tup [v1,v2,v3])/\(∀xs,SqK k1 K H a1 xs->xs[i]? = some v1)/\(∀xs,SqK k2 K H a2 xs->xs[i]? = some v2)/\(∀xs,SqK k3 K H a3 xs->xs[i]? = some v3),fun i H=>∃xs,SqK k1 K H a1 xs/\xs.length=i⟩
theorem aor{P:bI}{w:World}{K:Fg9}{elts:List Expr}{n:Nat}{pos:Pos}(k1 k2 k3:Bool)(a1 a2 a3 z TI TO i1 i2 i3:Addr)(D:Apart3 z TI TO i1 i2 i3 a1 a2 a3) :
  Turn P w K (.Tuple elts n pos) (Itz3 K k1 k2 k3 a1 a2 a3) [z,TI,TO,i1,i2,i3] z (fun i h=>IsZip h z TI TO .none/\Row3 h TI (.ref i1) (.ref i2) (.ref i3)/\(∃v1 v2 v3,Row3 h TO v1 v2 v3)/\It1 k1 h i1 a1 i/\It1 k2 h i2 a2 i/\It1 k3 h i3 a3 i) where
 mem:=by simp
 obj:=fun i h ⟨hz,hI,⟨v1,v2,v3,hO⟩,h1,h2,h3⟩ b hb=>by
  have hb:b=z∨b=TI∨b=TO∨b=i1∨b=i2∨b=i3:=by simpa using hb
  rcases hb with rfl | rfl | rfl | rfl | rfl | rfl
  ·exact⟨_,hz,fun v z=>by cases z⟩
  ·exact⟨_,hI,fun v z=>by cases z⟩
  ·exact⟨_,hO,fun v z=>by cases z⟩
  ·exact h1.got
  ·exact h2.got
  ·exact h3.got
 keep:=fun i h h' ⟨hz,hI,⟨v1,v2,v3,hO⟩,h1,h2,h3⟩ kk=>⟨kk z (by simp) _ hz,kk TI (by simp) _ hI,⟨v1,v2,v3,kk TO (by simp) _ hO⟩,h1.at fun o e=>kk i1 (by simp) o e,h2.at fun o e=>kk i2 (by simp) o e,h3.at fun o e=>kk i3 (by simp) o e⟩
 item:=by
  intro X hP hw hK hc i zv s σ H E I hf st hg;subst hP hw hK;obtain⟨hz,hI,⟨o1,o2,o3,hO⟩,h1,h2,h3⟩:=st;obtain⟨x1,x2,x3,v1,v2,v3,⟨hq1,hx1⟩,⟨hq2,hx2⟩,⟨hq3,hx3⟩⟩:=hg;obtain⟨t1,r1,s1⟩:=xj I hq1;obtain⟨u1,hu1,_⟩:=r1.get hx1;have b1:i < t1.toArray.size:=by simpa using (aM.mp hu1).1
  obtain⟨t2,r2,s2⟩:=xj I hq2;obtain⟨u2,hu2,_⟩:=r2.get hx2;have b2:i < t2.toArray.size:=by simpa using (aM.mp hu2).1
  obtain⟨t3,r3,s3⟩:=xj I hq3;obtain⟨u3,hu3,_⟩:=r3.get hx3;have b3:i < t3.toArray.size:=by simpa using (aM.mp hu3).1
  refine alx hz (aof (I.ok.hd hc) D hz hI hO h1 s1 h2 s2 h3 s3 b1 b2 b3 fun g tk y1 y2 y3 p1 p2 p3 z2 O2 j1 j2 j3 T2 hsz hk =>?_)
  refine⟨_,rfl,wpAny_letOwnedTupleGo_zip z2 fun g2 he2 sb =>?_⟩
  have fr:H s.heap.objs.size=none:=I.hok.fresh (aL _);have lt:∀b∈[z,TI,TO,i1,i2,i3],b < s.heap.objs.size:=fun b hb=>by
   have hb:b=z∨b=TI∨b=TO∨b=i1∨b=i2∨b=i3:=by simpa using hb
   rcases hb with rfl | rfl | rfl | rfl | rfl | rfl
   ·exact aP hz
   ·exact aP hI
   ·exact aP hO
   ·obtain⟨o,e,_⟩:=h1.got;exact aP e
   ·obtain⟨o,e,_⟩:=h2.got;exact aP e
   ·obtain⟨o,e,_⟩:=h3.got;exact aP e
  have up:∀b o,b∉[z,TI,TO,i1,i2,i3]->s.heap.get? b=some o->g2.get? b=some o:=fun b o hn e=>sb.extBut _ _ (fun x=>hn (by simp[x])) (hk b o (fun x=>hn (by simp[x])) (fun x=>hn (by simp[x])) (fun x=>hn (by simp[x])) (fun x=>hn (by simp[x])) (fun x=>hn (by simp[x])) e)
  have TI2:g2.get? TI=_:=sb.extBut _ _ D.nTIz (hk TI _ D.nTIz D.nTOTI.symm D.ni1TI.symm D.ni2TI.symm D.ni3TI.symm hI);refine⟨.ref s.heap.objs.size,upd H s.heap.objs.size (.tup [v1,v2,v3]),?_,rfl,⟨_,v1,v2,v3,fr,rfl,rfl,fun ys hy=>by rw[ad1 I hy hq1];exact hx1,fun ys hy=>by rw[ad1 I hy hq2];exact hx2,fun ys hy=>by rw[ad1 I hy hq3];exact hx3⟩,⟨he2,TI2,⟨y1,y2,y3,sb.extBut _ _ D.nTOz O2⟩,(j1.at fun o e=>sb.extBut _ _ D.ni1z e),(j2.at fun o e=>sb.extBut _ _ D.ni2z e),(j3.at fun o e=>sb.extBut _ _ D.ni3z e)⟩,fun b hb =>?_⟩
  ·exact ak0 (fp:=[z,TI,TO,i1,i2,i3]) (us:=[y1,y2,y3]) I up hf lt (.cons (z7 r1 hx1 p1) (.cons (z7 r2 hx2 p2) (.cons (z7 r3 hx3 p3) .nil))) (by rw[gA];simp) (sb.extBut _ _ (fX (lt z (by simp))) T2)
  ·rw[fj (bC (lt b hb))];exact(hf b hb).1
 done:=by
  intro X hP hw hK hc i zv s σ H E I hf st hg;subst hP hw hK;obtain⟨hz,hI,⟨o1,o2,o3,hO⟩,h1,h2,h3⟩:=st;obtain⟨xs,hq,hx⟩:=hg;obtain⟨its,rv,sq⟩:=xj I hq;have hl:i=its.toArray.size:=by have:=rv.length;simp;omega
  subst hl;refine alx hz (aro (I.ok.hd hc) D hz hI hO h1 sq fun g e kk ⟨o,he,ce⟩=>⟨e,o,rfl,he,ce,rfl,abw (t':=s.toks) (fp:=[z,TI,TO,i1,i2,i3]) I (fun b o hn z=>kk b o (fun z=>hn (by simp[z])) (fun z=>hn (by simp[z])) z) hf⟩)
 self:=fun _ _ _ _ _ st h=>wpAny_pyIter_zip st.1 h
theorem a08{N l1 l2 l3:Nat}(h1:l1 < N)(h2:l2 < N)(h3:l3 < N):Apart3 (N+5) (N+3) (N+4) N (N+1) (N+2) l1 l2 l3:=by
 constructor <;> (intro e;have e:(_:Nat)=_:=e;omega)
section
variable{X:Cx}
def a5a(K:Fg9)(ta:TA):TI:=fun σ H R=>ta σ H fun vs H1=>∃a1 a2 a3 k1 k2 k3,vs=[.ref a1,.ref a2,.ref a3]/\(∃xs,SqK k1 K H1 a1 xs)/\(∃xs,SqK k2 K H1 a2 xs)/\(∃xs,SqK k3 K H1 a3 xs)/\R (Itz3 K k1 k2 k3 a1 a2 a3) H1
theorem av5{e1 e2 e3:Expr}{ta:TA}{p pos:Pos}{elts:List Expr}{n:Nat}{tp:Pos}(hg:Gl X "zip")(hm:X.mg "zip" = none)(ha:PA X [e1,e2,e3] ta)(hs:aW [e1,e2,e3] X.env=[(false,eval e1 X.env),(false,eval e2 X.env),(false,eval e3 X.env)]:=by rfl)(hs2:aW [e2,e3] X.env=[(false,eval e2 X.env),(false,eval e3 X.env)]:=by rfl) :
  PI X (.Tuple elts n tp) (.Call (.Name "zip" p) [e1,e2,e3] [] pos) (a5a X.K ta):=by
 intro zv s σ H R I h;refine Call_ (afd I hg hm ava (fU (thn (ha pos zv s σ H _ I h) fun us s1 ⟨vs,H1,I1,r1,q1⟩ =>?_) (by rw[hs,hs2]) (by rw[hs2];rfl)))
 obtain⟨a1,a2,a3,k1,k2,k3,rfl,⟨x1,hq1⟩,⟨x2,hq2⟩,⟨x3,hq3⟩,q⟩:=q1;cases r1 with
 | cons ru1 r1 =>
 obtain⟨u2,u3,rfl,ru2,ru3⟩:=vals2 r1;cases ru1;cases ru2;cases ru3;obtain⟨t1,r1',sq1⟩:=xj I1 hq1;have b1:a1 < s1.heap.objs.size:=by obtain⟨o,e⟩:=sq1.got;exact aP e
 obtain⟨t2,r2',sq2⟩:=xj I1 hq2;have b2:a2 < s1.heap.objs.size:=by obtain⟨o,e⟩:=sq2.got;exact aP e
 obtain⟨t3,r3',sq3⟩:=xj I1 hq3;have b3:a3 < s1.heap.objs.size:=by obtain⟨o,e⟩:=sq3.got;exact aP e
 refine aq5 sq1 sq2 sq3 fun g hz hI hO h1 h2 h3 hsz kk=>wpAny_pyIter_zip hz ?_
 have I2:Inv X zv σ H1 { s1 with heap:=g }:=I1.kept (t':=s1.toks) kk
 refine⟨_,[s1.heap.objs.size+5,s1.heap.objs.size+3,s1.heap.objs.size+4,s1.heap.objs.size,s1.heap.objs.size+1,s1.heap.objs.size+2],_,_,H1,rfl,I2,aor k1 k2 k3 a1 a2 a3 _ _ _ _ _ _ (a08 b1 b2 b3),⟨hz,hI,⟨_,_,_,hO⟩,h1,h2,h3⟩,fun c hc =>?_,q⟩
 have hc:s1.heap.objs.size<=c:=by
  simp only[aV,dX,or_false] at hc;rcases hc with rfl | rfl | rfl | rfl | rfl | rfl <;> first | exact aL _ | exact uL _ _
 exact I1.fpOk hc (I1.hok.fresh hc)
end
end Mn
namespace Dn
open L2 Mn
section
variable{K:Fg9}{X:Cx}{e a b c:Expr}{es elts:List Expr}{pos p tp:Pos}{n:Nat}
theorem agm{F:Hp}{d:D}{l:List D}{v:V}(e:itemsD d=some l)(h:Is K F d v):∃a k vs,v=.ref a/\IsL K F l vs/\∀H,Same F H->SqK k K H a vs:=by
 cases h with
 | tup e1 h1=>cases e;exact⟨_,true,_,rfl,h1,fun H g=>SqT.of (g _ _ e1)⟩
 | lst e1 h1=>cases e;exact⟨_,false,_,rfl,h1,fun H g=>SqL.of (g _ _ e1)⟩
 | kst e1 h1=>cases e;exact⟨_,false,_,rfl,h1,fun H g=>L2.Same.seq g e1⟩
 | _=>cases e
def adl(l:List D):List D:=l.mapIdx fun i d=>.tup [.int (i:Nat),d]
def anw:List D->Option (List D)
 | [d]=>(itemsD d).map adl
 | _=>none
theorem aak(l:List D):(adl l).length=l.length:=by unfold adl;simp
theorem abf{l:List D}{i:Nat}{d:D}(h:(adl l)[i]? = some d):∃d0,l[i]? = some d0/\d=.tup [.int (i:Nat),d0]:=by
 unfold adl at h;rw[mZ] at h;cases e:l[i]? with
 | none=>rw[e] at h;cases h
 | some d0=>rw[e] at h;cases h;exact⟨d0,rfl,rfl⟩
theorem atf{F:Hp}{k:Bool}{a:Addr}{l:List D}{vs:List V}(il:IsL K F l vs)(hs:∀H,Same F H->SqK k K H a vs):ItD K (Ite K k a) (adl l) F where
 go:=fun i H s hi=>by
  have hi:i < vs.length:=by rw[<-il.length,<-aak];exact hi
  exact⟨vs,_,hs H s,aC hi⟩
 yld:=fun i H x H' d s y hd=>by
  obtain⟨d0,h0,rfl⟩:=abf hd;obtain⟨q,v,hq,rfl,rfl,hv⟩:=y;obtain⟨v',e1,i1⟩:=il.get h0;have:=hv _ (hs H s);rw[e1] at this;cases this;exact .inr ⟨q,_,_,hq,rfl,rfl,rfl,.cons (.int _) (.cons i1 .nil)⟩
 stop:=fun H s=>⟨vs,hs H s,by rw[aak,il.length]⟩
theorem ahz{m:M (List D)}(hg:Gl X "enumerate")(hm:X.mg "enumerate" = none)(h:ED K X [a] m)(hs:aW [a] X.env=[(false,eval a X.env)]:=by rfl):IT K X (.Tuple elts n tp) (.Call (.Name "enumerate" p) [a] [] pos) (mGet anw m):=IT.mk fun hk=>by
 intro zv s σ H R I ⟨tg,F,ρ,l,ρ',G,em,q⟩;obtain⟨ds,ρ1,e1,em⟩:=bf em;obtain⟨e2,rfl⟩:=gw em;have h:=h hk;subst hk;refine av7 hg hm h hs zv s σ H R I ⟨tg,F,ρ,ds,_,G,e1,fun vs H' F' G' x r =>?_⟩
 match ds,e2 with
 | [d],e2 =>
  have e2:(itemsD d).map adl=some l:=e2;cases e3:itemsD d with
  | none=>rw[e3] at e2;cases e2
  | some l0 =>
   rw[e3] at e2;cases e2;cases r with
   | cons h1 t =>
    cases t;obtain⟨b,k,ws,rfl,il,hq⟩:=agm e3 h1;exact⟨b,k,rfl,⟨ws,hq _ G'.sub⟩,q _ H' F' G' x (atf il hq)⟩
def z6(l1 l2:List D):List D:=List.zipWith (fun x y=>.tup [x,y]) l1 l2
def acb(l1 l2 l3:List D):List D:=List.zipWith (fun x (p:D×D)=>.tup [x,p.1,p.2]) l1 (rF l2 l3)
def anv:List D->Option (List D)
 | [a,b]=>(itemsD a).bind fun l1=>(itemsD b).bind fun l2=>if l1.length<=l2.length then some (z6 l1 l2) else none
 | _=>none
def ap8:List D->Option (List D)
 | [a,b,c]=>(itemsD a).bind fun l1=>(itemsD b).bind fun l2=>(itemsD c).bind fun l3=>if l1.length<=l2.length/\l1.length<=l3.length then some (acb l1 l2 l3) else none
 | _=>none
theorem aew{l1 l2:List D}{i:Nat}{d:D}(h:(z6 l1 l2)[i]? = some d):∃d1 d2,l1[i]? = some d1/\l2[i]? = some d2/\d=.tup [d1,d2]:=by
 unfold z6 at h;rw[jM] at h;cases e1:l1[i]? with
 | none=>rw[e1] at h;cases h
 | some d1 =>
  cases e2:l2[i]? with
  | none=>rw[e1,e2] at h;cases h
  | some d2=>rw[e1,e2] at h;cases h;exact⟨_,_,rfl,rfl,rfl⟩
theorem acr{l1 l2 l3:List D}{i:Nat}{d:D}(h:(acb l1 l2 l3)[i]? = some d):∃d1 d2 d3,l1[i]? = some d1/\l2[i]? = some d2/\l3[i]? = some d3/\d=.tup [d1,d2,d3]:=by
 unfold acb at h;rw[jM] at h;cases e1:l1[i]? with
 | none=>rw[e1] at h;cases h
 | some d1 =>
  cases e2:(rF l2 l3)[i]? with
  | none=>rw[e1,e2] at h;cases h
  | some p =>
   rw[e1,e2] at h;cases h;rw[qN] at e2;exact⟨_,_,_,rfl,e2.1,e2.2,rfl⟩
theorem ate{F:Hp}{k1 k2:Bool}{a1 a2:Addr}{l1 l2:List D}{x1 x2:List V}(h:l1.length<=l2.length)(i1:IsL K F l1 x1)(i2:IsL K F l2 x2)(s1:∀H,Same F H->SqK k1 K H a1 x1)(s2:∀H,Same F H->SqK k2 K H a2 x2):ItD K (Itz2 K k1 k2 a1 a2) (z6 l1 l2) F where
 go:=fun i H s hi=>by
  have z1:=i1.length;have z2:=i2.length;have hi:i < l1.length:=by unfold z6 at hi;simp at hi;omega
  exact⟨x1,x2,_,_,⟨s1 H s,aC (by omega)⟩,s2 H s,aC (by omega)⟩
 yld:=fun i H x H' d s y hd=>by
  obtain⟨d1,d2,h1,h2,rfl⟩:=aew hd;obtain⟨q,v1,v2,hq,rfl,rfl,y1,y2⟩:=y;obtain⟨w1,e1,j1⟩:=i1.get h1;obtain⟨w2,e2,j2⟩:=i2.get h2;have z1:=y1 _ (s1 H s);have z2:=y2 _ (s2 H s);rw[e1] at z1;rw[e2] at z2;cases z1;cases z2;exact .inr ⟨q,_,_,hq,rfl,rfl,rfl,.cons j1 (.cons j2 .nil)⟩
 stop:=fun H s=>⟨x1,s1 H s,by unfold z6;rw[gP,<-i1.length];omega⟩
theorem atd{F:Hp}{k1 k2 k3:Bool}{a1 a2 a3:Addr}{l1 l2 l3:List D}{x1 x2 x3:List V}(h:l1.length<=l2.length/\l1.length<=l3.length)(i1:IsL K F l1 x1)(i2:IsL K F l2 x2)(i3:IsL K F l3 x3)
  (s1:∀H,Same F H->SqK k1 K H a1 x1) (s2:∀H,Same F H->SqK k2 K H a2 x2) (s3:∀H,Same F H->SqK k3 K H a3 x3):ItD K (Itz3 K k1 k2 k3 a1 a2 a3) (acb l1 l2 l3) F where
 go:=fun i H s hi=>by
  have z1:=i1.length;have z2:=i2.length;have z3:=i3.length;have hi:i < l1.length:=by unfold acb at hi;simp at hi;omega
  exact⟨x1,x2,x3,_,_,_,⟨s1 H s,aC (by omega)⟩,⟨s2 H s,aC (by omega)⟩,s3 H s,aC (by omega)⟩
 yld:=fun i H x H' d s y hd=>by
  obtain⟨d1,d2,d3,h1,h2,h3,rfl⟩:=acr hd;obtain⟨q,v1,v2,v3,hq,rfl,rfl,y1,y2,y3⟩:=y;obtain⟨w1,e1,j1⟩:=i1.get h1;obtain⟨w2,e2,j2⟩:=i2.get h2;obtain⟨w3,e3,j3⟩:=i3.get h3;have z1:=y1 _ (s1 H s);have z2:=y2 _ (s2 H s);have z3:=y3 _ (s3 H s);rw[e1] at z1;rw[e2] at z2;rw[e3] at z3;cases z1;cases z2;cases z3;exact .inr ⟨q,_,_,hq,rfl,rfl,rfl,.cons j1 (.cons j2 (.cons j3 .nil))⟩
 stop:=fun H s=>⟨x1,s1 H s,by unfold acb;rw[gP,pU,<-i1.length];omega⟩
theorem ahy{m:M (List D)}(hg:Gl X "zip")(hm:X.mg "zip" = none)(h:ED K X [a,b] m)(hs:aW [a,b] X.env=[(false,eval a X.env),(false,eval b X.env)]:=by rfl)(hs2:aW [b] X.env=[(false,eval b X.env)]:=by rfl) :
  IT K X (.Tuple elts n tp) (.Call (.Name "zip" p) [a,b] [] pos) (mGet anv m):=IT.mk fun hk=>by
 intro zv s σ H R I ⟨tg,F,ρ,l,ρ',G,em,q⟩;obtain⟨ds,ρ1,e1,em⟩:=bf em;obtain⟨e2,rfl⟩:=gw em;have h:=h hk;subst hk;refine av6 hg hm h hs hs2 zv s σ H R I ⟨tg,F,ρ,ds,_,G,e1,fun vs H' F' G' x r =>?_⟩
 match ds,e2 with
 | [d,d'],e2 =>
  have e2:((itemsD d).bind fun l1=>(itemsD d').bind fun l2=>if l1.length<=l2.length then some (z6 l1 l2) else none)=some l:=e2
  cases e3:itemsD d with
  | none=>rw[e3] at e2;cases e2
  | some l1 =>
   cases e4:itemsD d' with
   | none=>rw[e3,e4] at e2;cases e2
   | some l2 =>
    rw[e3,e4] at e2;have e2:(if l1.length<=l2.length then some (z6 l1 l2) else none)=some l:=e2
    split at e2
    ·rename_i hle;cases e2;cases r with
     | cons h1 t =>
      cases t with
      | cons h2 t =>
       cases t;obtain⟨b1,k1,w1,rfl,il1,hq1⟩:=agm e3 h1;obtain⟨b2,k2,w2,rfl,il2,hq2⟩:=agm e4 h2;exact⟨b1,b2,k1,k2,rfl,⟨w1,hq1 _ G'.sub⟩,⟨w2,hq2 _ G'.sub⟩,q _ H' F' G' x (ate hle il1 il2 hq1 hq2)⟩
    ·cases e2
theorem akz{m:M (List D)}(hg:Gl X "zip")(hm:X.mg "zip" = none)(h:ED K X [a,b,c] m)(hs:aW [a,b,c] X.env=[(false,eval a X.env),(false,eval b X.env),(false,eval c X.env)]:=by rfl)(hs2:aW [b,c] X.env=[(false,eval b X.env),(false,eval c X.env)]:=by rfl) :
  IT K X (.Tuple elts n tp) (.Call (.Name "zip" p) [a,b,c] [] pos) (mGet ap8 m):=IT.mk fun hk=>by
 intro zv s σ H R I ⟨tg,F,ρ,l,ρ',G,em,q⟩;obtain⟨ds,ρ1,e1,em⟩:=bf em;obtain⟨e2,rfl⟩:=gw em;have h:=h hk;subst hk;refine av5 hg hm h hs hs2 zv s σ H R I ⟨tg,F,ρ,ds,_,G,e1,fun vs H' F' G' x r =>?_⟩
 match ds,e2 with
 | [d,d',d''],e2 =>
  have e2:((itemsD d).bind fun l1=>(itemsD d').bind fun l2=>(itemsD d'').bind fun l3=>if l1.length<=l2.length/\l1.length<=l3.length then some (acb l1 l2 l3) else none)=some l:=e2
  cases e3:itemsD d with
  | none=>rw[e3] at e2;cases e2
  | some l1 =>
   cases e4:itemsD d' with
   | none=>rw[e3,e4] at e2;cases e2
   | some l2 =>
    cases e5:itemsD d'' with
    | none=>rw[e3,e4,e5] at e2;cases e2
    | some l3 =>
     rw[e3,e4,e5] at e2;have e2:(if l1.length<=l2.length/\l1.length<=l3.length then some (acb l1 l2 l3) else none)=some l:=e2
     split at e2
     ·rename_i hle;cases e2;cases r with
      | cons h1 t =>
       cases t with
       | cons h2 t =>
        cases t with
        | cons h3 t =>
         cases t;obtain⟨b1,k1,w1,rfl,il1,hq1⟩:=agm e3 h1;obtain⟨b2,k2,w2,rfl,il2,hq2⟩:=agm e4 h2;obtain⟨b3,k3,w3,rfl,il3,hq3⟩:=agm e5 h3;exact⟨b1,b2,b3,k1,k2,k3,rfl,⟨w1,hq1 _ G'.sub⟩,⟨w2,hq2 _ G'.sub⟩,⟨w3,hq3 _ G'.sub⟩,q _ H' F' G' x (atd hle il1 il2 il3 hq1 hq2 hq3)⟩
     ·cases e2
end
end Dn
namespace Mn
open L2
theorem atp{X:Cx}:PGet X (rIxL X.K):=by
 intro zv s σ H x y v u Q I rx ry h;obtain⟨p,xs,i,z,rfl,rfl,hq,he,q⟩:=h;cases rx;obtain⟨t,rfl⟩:=ry;obtain⟨its,r,pl,hz⟩:=I.list hq;obtain⟨j,h1,h2,h3,h4,h5⟩:=ale he;obtain⟨w,ew,rw'⟩:=r.get h2;have hl:=r.length;have hn:=ajf;have fin:EP X zv σ Q w s:=⟨z,H,I,rw',q⟩
 by_cases h0:0<=i
 ·have hj:i.toNat=j:=by
   rw[seqIndex_of h0 h5] at h1;exact bK h1
  exact wpAny_getItem_list pl.isList h0 (by omega) (by rw[hj];simpa using ew) fin
 ·have hj:(i+(its.toArray.size:Int)).toNat=j:=by
   rw[seqIndex_neg (by omega) h4] at h1
   have:=bK h1;rw[aN,<-hl];exact this
  exact wpAny_getItem_list_neg pl.isList (by omega) (by simp only[aN];omega) (by omega) (by rw[hj];simpa using ew) fin
end Mn
namespace Dn
open L2 Mn
section
variable{K:Fg9}{X:Cx}{e a b:Expr}{pos p:Pos}
def ak9(f:Int->Int->Int)(i:Nat)(mi m:M D):Sd:=dM (mOwn i) fun _=>dM mi fun k=>dM (mOwn i) fun l=>dM (lift ((asI k).bind (ixN l.length))) fun j=>dM (lift ((l[j]?).bind asI)) fun x=>dM m fun y=>dM (lift (asI y)) fun y=>dM (mOwn i) fun l2=>dM (lift (if l2.length=l.length then some () else none)) fun _=>dM (ada i (l2.set j (.int (f x y)))) fun _=>dNx
theorem a0j{n:Nat}{k:Int}{j:Nat}{α:Type}{l:List α}(hn:l.length=n)(h:ixN n k=some j):atI l k=l[j]? := by
 unfold atI;rw[hn,h];rfl
theorem aox{f:Int->Int->Int}{op:Operator}{i:Nat}{mi m:M D}(ho:PE X a (tVar i))(hi:EV K X b mi)(h:EV K X e m)(hp:PIp X op (ipI f))
  (ha:∀ov iv new,augStore b ov iv new=(do kY [new,ov,iv] (setItem ov iv new);release [new,ov,iv] [];pure .next):=by intros;rfl):SV K X (.AugAssign (.Subscript a b p) op e pos) (ak9 f i mi m):=SV.mk fun hk=>by
 subst hk;refine PS.imp (av0 ho (hi rfl) atp (h rfl) hp set_list ha) fun E σ H ⟨tg,F,ρ,fl,ρ',G,em,q⟩ =>
  uy em q fun l0 ρ0 e0 em=>uy em q fun k ρ1 e1 em=>uy em q fun l ρ2 e2 em=>uy em q fun j ρ3 e3 em=>uy em q fun x ρ4 e4 em=>uy em q fun y ρ5 e5 em=>uy em q fun y' ρ6 e6 em=>uy em q fun l2 ρ7 e7 em=>uy em q fun u ρ8 e8 em=>uy em q fun u2 ρ9 e9 em =>?_
 cases em;obtain⟨rfl,t0,a0,xs0,es0,hv,hh0,hl0⟩:=ae8 G e0;refine⟨_,hv,tg,F,_,k,ρ1,G,e1,fun w H1 F1 G1 x1 r1 =>?_⟩
 obtain⟨rfl,t1,a1,xs1,es1,hv1,hh1,hl1⟩:=ae8 G1 e2;rw[hv] at hv1;cases hv1;obtain⟨g3,rfl⟩:=gw e3;obtain⟨g4,rfl⟩:=gw e4;cases ek:asI k with
 | none=>rw[ek] at g3;cases g3
 | some n =>
  rw[ek] at g3;obtain rfl:=amv ek;cases r1;have e3:ixN l.length n=some j:=g3;cases ej:l[j]? with
  | none=>rw[ej] at g4;cases g4
  | some d =>
   rw[ej] at g4;have h4:asI d=some x:=g4;obtain rfl:=amv h4;obtain⟨v,ev,iv⟩:=hl1.get ej;cases iv;refine⟨_,xs1,n,.int x,rfl,rfl,SqL.of hh1,by rw[a0j hl1.length.symm e3];exact ev,?_⟩
   refine⟨tg,F1,_,y,ρ5,G1,e5,fun w2 H2 F2 G2 x2 r2 =>?_⟩
   obtain⟨g6,rfl⟩:=gw e6;obtain rfl:=amv g6;cases r2;refine⟨x,y',rfl,rfl,?_⟩;obtain⟨rfl,t2,a2,xs2,es2,hv2,hh2,hl2⟩:=ae8 G2 e7;rw[hv] at hv2;cases hv2;obtain⟨g8,rfl⟩:=gw e8;split at g8
   ·rename_i hlen;obtain⟨G3,x3⟩:=akr G2 e9 hv (hl2.set (Is.int (f x y')) j);exact⟨_,xs2,n,j,rfl,rfl,hh2,by rw[<-hl2.length,hlen];exact e3,q _ _ F2 G3 ((x1.trans x2).trans x3)⟩
   ·cases g8
end
section
variable{K:Fg9}{X:Cx}{a:Expr}{pos p p2 pos2:Pos}
theorem aq7:ab6 X (.type "range") (fun xs H Q=>∃b,xs=[.int b]/\∀q,H q=none->Q (.ref q) (upd H q (.rng 0 b))):=by
 intro zv s σ H xs us Q I r h;obtain⟨b,rfl,q⟩:=h;obtain⟨u,rfl,ru⟩:=vals1 r;obtain⟨t,rfl⟩:=ru;exact call_range_1 ⟨.ref s.heap.objs.size,_,I.laid (t':=s.toks+1+1) (o:=.rng 0 b) (fun b ob q=>aB _ q) (aL _) ⟨_,_,_,aK _ rfl⟩,rfl,q _ (I.hok.fresh (aL _))⟩
theorem ar4{acc:Array Value}{n:Nat}(h:ItemsOf (fun i v=>∃t,v=.int (0+i*1) t) acc n):Vals (ups 0 n) acc.toList:=by
 have key:∀(l:List Value) (k:Nat),(∀j v,l[j]? = some v->∃t,v=mJ ((k+j:Nat):Int) t)->Vals ((List.range' k l.length).map fun(i:Nat)=>V.int ((i:Nat):Int)) l:=by
  intro l
  induction l with
  | nil=>intro k _;exact .nil
  | cons x r ih =>
   intro k hk;rw[dY,List.range'_succ,aX];refine .cons ?_ (ih (k+1) fun j v hj =>?_)
   ·obtain⟨t,rfl⟩:=hk 0 x rfl;exact⟨t,by simp⟩
   ·obtain⟨t,rfl⟩:=hk (j+1) v (by simpa using hj)
    exact⟨t,by rw[show k+(j+1)=k+1+j by omega]⟩
 have e:=key acc.toList 0 fun j v hj=>by
  obtain⟨t,rfl⟩:=h.2 j v (by simpa using hj)
  exact⟨t,by simp⟩
 have hs:acc.toList.length=n:=by simpa using h.1
 rw[hs] at e;unfold ups;rw[List.range_eq_range']
 simpa using e
theorem aju(hc:X.calm=true):ab6 X (.type "list") (fun xs H Q=>∃p b,xs=[.ref p]/\H p=some (.rng 0 b)/\b.natAbs < 1000000/\∀q,H q=none->Q (.ref q) (upd H q (.lst (ups 0 b.toNat)))):=by
 intro zv s σ H xs us Q I r h;obtain⟨p,b,rfl,hp,hb,q⟩:=h;obtain⟨u,rfl,ru⟩:=vals1 r;cases ru;obtain⟨t,u,v,e⟩:=I.hok p _ hp;have e62:(2:Int) ^ 62=4611686018427387904:=by decide
 have e24:(2:Nat) ^ 24=16777216:=by decide
 refine call_list_range (I.ok.hd hc) e (small_one (by omega) (by omega) (by omega) (by omega)) (n:=b.toNat) (by rw[rangeSize_one];split <;> omega) (by omega) fun h' tk acc c' kk e' it =>?_
 refine⟨.ref s.heap.objs.size,_,?_,rfl,q _ (I.hok.fresh (aL _))⟩;exact I.laid kk (aL _) ⟨by rw[ag3,gA];omega,acc.toList,c',ar4 it,by simpa using e'⟩
def abx:List D->Option Rv
 | [.int j]=>if j.natAbs < 1000000 then some (.fr (jg 0 j.toNat)) else none
 | _=>none
def adx(m:M (List D)):M Rv:=m.bind fun ds=>lift (abx ds)
@[simp] theorem as6(ρ:Ro)(m:M (List D)):adx m ρ=(m.bind fun ds=>lift (abx ds)) ρ:=rfl
@[simp] theorem arn(j:Int):abx [.int j]=if j.natAbs < 1000000 then some (.fr (jg 0 j.toNat)) else none:=rfl
theorem ajt{m:M (List D)}(hc:X.calm=true)(hg1:Gl X "list")(hm1:X.mg "list" = none)(hg2:Gl X "range")(hm2:X.mg "range" = none)(h:ED K X [a] m)
  (he:aW [a] X.env=[(false,eval a X.env)]:=by rfl) (he2:aW [.Call (.Name "range" p2) [a] [] pos2] X.env=[(false,eval (.Call (.Name "range" p2) [a] [] pos2) X.env)]:=by rfl) :
  ER K X (.Call (.Name "list" p) [.Call (.Name "range" p2) [a] [] pos2] [] pos) (adx m):=ER.mk fun hk=>PE.imp (ac3 (aju hc) hg1 hm1 acq (ur (ac3 aq7 hg2 hm2 aui (h hk) (by decide) (by decide) he rfl) aej he2) (by decide) (by decide) he2 rfl) fun σ H Q hq0=>by
 obtain⟨tg,F,ρ,r,ρ',G,em,q⟩:=hq0;obtain⟨ds,ρ1,e1,em⟩:=bf em;obtain⟨e2,rfl⟩:=gw em;refine⟨tg,F,ρ,ds,_,G,e1,fun vs H1 F1 G1 x1 bl =>?_⟩
 unfold abx at e2;split at e2
 ·rename_i j;split at e2
  ·rename_i hb;cases e2;cases bl with
   | cons hd t =>
    cases t;cases hd;refine⟨j,rfl,fun a hna =>?_⟩
    refine⟨a,j,rfl,jm,hb,fun b hnb =>?_⟩
    have G2:=G1.fresh hna (.rng 0 j);have X2:=G1.freshX hna (.rng 0 j);exact Res.lst G2 (fun v H3 F3 G3 x3 rr=>q v H3 F3 G3 ((x1.trans X2).trans x3) (nj (x1.trans X2) rr)) (aln 0 _) hnb
  ·cases e2
 ·cases e2
end
end Dn
namespace Mn
open L2
set_option maxRecDepth 100000
section
variable{prog:bI}{w:World}{A:cM}{E:Value->aJ->Prop}{s:aJ}
end
end Mn
namespace Dn
open L2 Mn
section
variable{K:Fg9}{X:Cx}{a:Expr}{pos p p2 pos2:Pos}
def afx:List D->Option Rv
 | [.int j]=>if j.natAbs < 1000000 then some (.v (.tup (jg 0 j.toNat))) else none
 | _=>none
def aks(m:M (List D)):M Rv:=m.bind fun ds=>lift (afx ds)
@[simp] theorem arl(ρ:Ro)(m:M (List D)):aks m ρ=(m.bind fun ds=>lift (afx ds)) ρ:=rfl
@[simp] theorem atq(j:Int):afx [.int j]=if j.natAbs < 1000000 then some (.v (.tup (jg 0 j.toNat))) else none:=rfl
end
end Dn
namespace Mn
open L2
section
variable{prog:bI}{w:World}{A:cM}{E:Value->aJ->Prop}{s:aJ}
theorem aod(n:Nat):gB none none (-1) (n:Int)=((n:Int) - 1,-1):=rfl
theorem anc(n:Nat):dI ((n:Int) - 1) (-1) (-1)=n:=by
 unfold dI;have h1:¬((-1:Int) > 0):=by omega
 have h2:(- -1:Int)=1:=by decide
 simp only[h1,if_false,h2,rY];split <;> omega
theorem ama{α β:Type}{f g:α->Option β}:∀l:List α,(∀x∈l,f x=g x)->l.filterMap f=l.filterMap g
 | [],_=>rfl
 | x::r,h=>by rw[dW,dW,h x (aR ..),ama r fun y hy=>h y (aQ _ hy)]
theorem alo(xs:Array Value):((aY xs.size).filterMap fun(m:Nat)=>xs[(((xs.size:Int) - 1)+(m:Int)*(-1)).toNat]?).toArray=xs.toList.reverse.toArray:=by
 congr 1
 have e:(aY xs.size).filterMap (fun(m:Nat)=>xs[(((xs.size:Int) - 1)+(m:Int)*(-1)).toNat]?)=(aY xs.size).filterMap (fun m=>xs.toList.reverse[m]?):=by
  refine ama _ fun m hm =>?_
  have hm':m < xs.size:=cW.mp hm;have e2:(((xs.size:Int) - 1)+(m:Int)*(-1)).toNat=xs.size - 1 - m:=by omega
  rw[e2,List.getElem?_reverse (by simpa using hm')]
  simp
 rw[e];have key:∀l:List Value,(aY l.length).filterMap (fun m=>l[m]?)=l:=by
  intro l
  induction l with
  | nil=>rfl
  | cons x r ih =>
   rw[dY,List.range_succ_eq_map,dW];simp only[List.getElem?_cons_zero,nZ]
   congr 1
 have:=key xs.toList.reverse
 simpa using this
theorem ad2{t sl:Addr}{items:Array Value}{u:Tok}{Q:Value->aJ->Prop}(ht:IsTup s.heap t items)(hs:s.heap.IsSliceOf sl .none .none (.int (-1) u))
  (h:Q (.ref s.heap.objs.size) { s with heap:=s.heap.push { cls:=.type "tuple", data:=.seq items.toList.reverse.toArray } })
  (hsz:items.size<=bV):wpAny (model prog w) A (kZ (.ref t) (.ref sl)) Q E s:=by
 have htake:sizeOk (.seq items.toList.reverse.toArray):=by
  show items.toList.reverse.toArray.size<=bV
  simpa using hsz
 obtain⟨os,hos,hcs,hds⟩:=id hs;have hTs:s.TypeIs (.ref sl) "slice" := ⟨os,hos,hcs⟩;unfold kZ
 try with_reducible refine eQ ?_
 first | refine aA (aF ?_) | skip
 refine aA (wpAny_sequenceKey ht.typeIs (by decide) ?_)
 refine aA (cQ (name:=gJ "__getitem__") ht.typeIs bZ
  (dC bZ ht.typeIs entry_tuple_getitem ?_ (args_tuple_getitem _ _)))
 show wpAny _ _ (jY (.ref t) >>= _) _ _ s;refine aA (tupleItemsOf_ ht ?_);refine aA (wpAny_typeOf hTs ?_);rw[if_pos (by decide)]
 have happ:∀{Q:Int×Int×Nat->aJ->Prop} {E:Value->aJ->Prop} {A:cM},Q ((items.size:Int) - 1,-1,items.size) s->wpAny (model prog w) A (iQ (.ref sl) (pure (items.size:Int))) Q E s:=by
  intro Q E A h;unfold iQ qQ;refine aA (aA (cJ hos hds (x:=.none) rfl (aA (cJ hos hds (x:=.none) rfl (aA (cJ hos hds (x:=.int (-1) u) rfl (aF ?_)))))));refine aA (slicePart_int ?_);show wpAny _ _ (if ((-1:Int)==0)=true then _ else _) _ _ s
  rw[if_neg (by decide)]
  refine aA (slicePart_none (aA (slicePart_none (aA (aF ?_)))));show wpAny _ _ (match gB none none (-1) (items.size:Int) with | (lo,hi)=>pure (lo,(-1:Int),dI lo hi (-1))) _ _ s
  rw[aod];show wpAny _ _ (pure ((items.size:Int) - 1,(-1:Int),dI ((items.size:Int) - 1) (-1) (-1))) _ _ s;rw[anc];exact aF h
 refine aA (happ ?_);have hno:¬((((items.size:Int) - 1)==0&&(-1:Int)==1&&items.size==items.size)=true):=by
  intro q;rw[bA,bA] at q;exact absurd q.1.2 (by decide)
 show wpAny _ _ (if (((items.size:Int) - 1)==0&&(-1:Int)==1&&items.size==items.size)=true then _ else _) _ _ s
 rw[if_neg hno,alo]
 first
  | exact aA (m:=cZ _) (bF (aF ⟨_,rfl,aF h⟩) htake)
  | exact aA (m:=cZ _) (bF (aA (aF (aF ⟨_,rfl,aF h⟩))) htake)
  | exact aA (aA (m:=cZ _) (bF (aF (aF ⟨_,rfl,aF h⟩)) htake))
  | exact aA (aA (m:=cZ _) (bF (aF ⟨_,rfl,aF h⟩) htake))
end
section
variable{X:Cx}{e:Expr}{te:TE}{pos p2 p3:Pos}{st:Expr}{ts:TE}
def tRev(K:Fg9)(te ts:TE):TE:=fun σ H Q=>te σ H fun x H1=>ts σ H1 fun k H2=>k=.int (-1)/\∃a xs,x=.ref a/\SqT K H2 a xs/\∀p,H2 p=none->Q (.ref p) (upd H2 p (.tup xs.reverse))
theorem Vals.rev{xs:List V}{us:List Value}(h:Vals xs us):Vals xs.reverse us.reverse:=by
 induction h with
 | nil=>exact .nil
 | cons h1 h2 ih =>
  rw[iJ,iJ];exact ih.append (.cons h1 .nil)
theorem aza(he:PE X e te)(hs:PE X st ts):PE X (.Subscript e (.Slice none none (some st) p2) pos) (tRev X.K te ts):=by
 intro zv s σ H Q I h;refine Subscript_ (thn (he zv s σ H _ I h) fun v s1 ⟨x,H1,I1,r1,q1⟩ =>?_)
 refine wpAny_Slice ?_;rw[evalPart_none];refine aF (aF ?_);rw[evalPart_some];refine thn (hs zv s1 σ H1 _ I1 q1) fun k s2 ⟨y,H2,I2,r2,q2⟩ =>?_
 obtain⟨rfl,a,xs,rfl,hx,q⟩:=q2;obtain⟨t,rfl⟩:=r2;cases r1;have I4:Inv X zv σ H2 { s2 with heap:=s2.heap.push { cls:=.type "slice", data:=.fields #[.none,.none,.int (-1) t] } }:=I2.kept (t':=s2.toks) fun b ob q=>aB _ q
 obtain⟨its,r,ht,hz⟩:=I4.tuple hx;have hlen:its.toArray.size=xs.length:=by rw[aN];exact r.length.symm
 show wpAny (model X.prog X.w) X.A (subscriptTail e (.Slice none none (some st) p2) (.ref a) (.ref s2.heap.objs.size)) (EP X zv σ Q) X.xe { s2 with heap:=s2.heap.push { cls:=.type "slice", data:=.fields #[.none,.none,.int (-1) t] } }
 have hg:wpAny (model X.prog X.w) X.A (kZ (.ref a) (.ref s2.heap.objs.size)) (EP X zv σ Q) X.xe { s2 with heap:=s2.heap.push { cls:=.type "slice", data:=.fields #[.none,.none,.int (-1) t] } }:=by
  refine ad2 ht (oF ..) ?_ (by rw[hlen];exact hz)
  refine⟨.ref _,_,I4.laid (t':=s2.toks) (o:=.tup xs.reverse) (fun b ob q=>aB _ q) (aL _) ?_,rfl,q _ (I4.hok.fresh (aL _))⟩
  exact⟨by rw[sW];exact hz,_,Vals.rev r,IsTp.new _ _⟩
 exact tail_any (ops:=[.ref a,.ref s2.heap.objs.size]) ht.typeIs bZ.lookup hg (by with_unfolding_all rfl)
end
end Mn
namespace Dn
open L2 Mn
section
variable{K:Fg9}{X:Cx}{a st:Expr}{pos p p2 pos2:Pos}
def gRev:D->D->Option Rv
 | .tup l,.int k=>if k = -1 then some (.v (.tup l.reverse)) else none
 | _,_=>none
@[simp] theorem a1z(l:List D):gRev (.tup l) (.int (-1))=some (.v (.tup l.reverse)):=rfl
def mRev(m ms:M D):M Rv:=m.bind fun d=>ms.bind fun k=>lift (gRev d k)
@[simp] theorem a4f(ρ:Ro)(m ms:M D):mRev m ms ρ=(m.bind fun d=>ms.bind fun k=>lift (gRev d k)) ρ:=rfl
theorem IsL.rev{F:Hp}:∀{ds:List D} {vs:List V},IsL K F ds vs->IsL K F ds.reverse vs.reverse
 | _,_,.nil=>.nil
 | _,_,.cons h t=>by
  rw[iJ,iJ];exact(IsL.rev t).append (.cons h .nil)
end
section
variable{K:Fg9}{X:Cx}{e:Expr}{pos p:Pos}
def a6a(f:Int->Int->Option Int)(i:Nat)(m:M D):Sd:=dM (mVar i) fun x=>dM m fun y=>dM (lift ((asI x).bind fun n=>(asI y).bind fun k=>(f n k).map D.int)) fun z ρ=>some (.nx,bJ ρ i (.val z))
@[simp] theorem a2w(ρ:Ro)(f:Int->Int->Option Int)(i:Nat)(m:M D):a6a f i m ρ=(dM (mVar i) fun x=>dM m fun y=>dM (lift ((asI x).bind fun n=>(asI y).bind fun k=>(f n k).map D.int)) fun z ρ=>some (.nx,bJ ρ i (.val z))) ρ:=rfl
end
end Dn
namespace Mn
open L2
section
variable{prog:bI}{w:World}{A:cM}{E:Value->aJ->Prop}{s:aJ}
end
end Mn
namespace Dn
open L2 Mn
section
variable{K:Fg9}{X:Cx}
def atr:D->Option Rv
 | .tup l=>(xm l).bind fun ns=>if ns.length < 64 then some (.fr ((sortI ns).map D.int)) else none
 | d=>ap9 d
@[simp] theorem au1(l:List D):atr (.lst l)=ap9 (.lst l):=rfl
end
section
variable{K:Fg9}{X:Cx}
end
end Dn
namespace Mn
open L2
theorem ag9(its:List Value):slicePick its.toArray none none (some (-1))=its.reverse.toArray:=by
 have h1:jK none none (some (-1)) its.toArray.size=((its.toArray.size:Int) - 1,-1,-1):=rfl;unfold slicePick;rw[h1];dsimp only;have h2:sliceRange ((its.toArray.size:Int) - 1) (-1) (-1)=(aY its.toArray.size).map fun(k:Nat)=>((its.toArray.size:Int) - 1+(k:Int)*(-1)).toNat:=by
  unfold sliceRange;have hc:(if (-1:Int) > 0 then (if ((its.toArray.size:Int) - 1) < -1 then (-1 - ((its.toArray.size:Int) - 1) + -1 - 1) / -1 else 0) else (if ((its.toArray.size:Int) - 1) > -1 then (((its.toArray.size:Int) - 1) - -1 - -1 - 1) / (- -1) else 0)).toNat=its.toArray.size:=by
   have h0:¬((-1:Int) > 0):=by decide
   have e:(- -1:Int)=1:=by decide
   simp only[h0,if_false,e,rY];split <;> omega
  dsimp only;rw[hc];apply jW;intro k _
  congr 1
  omega
 rw[h2,nZ];have:=alo its.toArray
 simpa[iK] using this
section
variable{X:Cx}{e:Expr}{te:TE}{pos p2 p3:Pos}{st:Expr}{ts:TE}
def a3c(K:Fg9)(te ts:TE):TE:=fun σ H Q=>te σ H fun x H1=>ts σ H1 fun k H2=>k=.int (-1)/\∃a xs,x=.ref a/\SqL K H2 a xs/\∀p,H2 p=none->Q (.ref p) (upd H2 p (.lst xs.reverse))
theorem av8(he:PE X e te)(hs:PE X st ts):PE X (.Subscript e (.Slice none none (some st) p2) pos) (a3c X.K te ts):=by
 intro zv s σ H Q I h;refine Subscript_ (thn (he zv s σ H _ I h) fun v s1 ⟨x,H1,I1,r1,q1⟩ =>?_)
 refine wpAny_Slice ?_;rw[evalPart_none];refine aF (aF ?_);rw[evalPart_some];refine thn (hs zv s1 σ H1 _ I1 q1) fun k s2 ⟨y,H2,I2,r2,q2⟩ =>?_
 obtain⟨rfl,a,xs,rfl,hx,q⟩:=q2;obtain⟨t,rfl⟩:=r2;cases r1;have I4:Inv X zv σ H2 { s2 with heap:=s2.heap.push { cls:=.type "slice", data:=.fields #[.none,.none,.int (-1) t] } }:=I2.kept (t':=s2.toks) fun b ob q=>aB _ q
 obtain⟨its,r,ht,hz⟩:=I4.list hx;have hlen:=r.length;show wpAny (model X.prog X.w) X.A (subscriptTail e (.Slice none none (some st) p2) (.ref a) (.ref s2.heap.objs.size)) (EP X zv σ Q) X.xe { s2 with heap:=s2.heap.push { cls:=.type "slice", data:=.fields #[.none,.none,.int (-1) t] } }
 have hg:wpAny (model X.prog X.w) X.A (kZ (.ref a) (.ref s2.heap.objs.size)) (EP X zv σ Q) X.xe { s2 with heap:=s2.heap.push { cls:=.type "slice", data:=.fields #[.none,.none,.int (-1) t] } }:=by
  refine wpAny_getItem_list_slice ht.isList (oF ..) .none .none (.int (-1) t) (by simp) ?_ (by rw[aN] <;> omega)
  rw[ag9];refine⟨.ref _,_,I4.laid (t':=s2.toks) (o:=.lst xs.reverse) (fun b ob q=>aB _ q) (aL _) ?_,rfl,q _ (I4.hok.fresh (aL _))⟩
  exact⟨by rw[sW];exact hz,_,0,Mn.Vals.rev r,aK _ rfl⟩
 exact tail_any (ops:=[.ref a,.ref s2.heap.objs.size]) ht.isList.typeIs slot_list_getitem.lookup hg (by with_unfolding_all rfl)
end
end Mn
namespace Dn
open L2 Mn
section
variable{K:Fg9}{X:Cx}{a st:Expr}{pos p p2 pos2:Pos}
def atv:D->D->Option Rv
 | .lst l,.int k=>if k = -1 then some (.fr l.reverse) else none
 | d,k=>gRev d k
@[simp] theorem a0s(l:List D):atv (.lst l) (.int (-1))=some (.fr l.reverse):=rfl
@[simp] theorem a0r(l:List D):atv (.tup l) (.int (-1))=some (.v (.tup l.reverse)):=rfl
def awu(m ms:M D):M Rv:=m.bind fun d=>ms.bind fun k=>lift (atv d k)
@[simp] theorem a1k(ρ:Ro)(m ms:M D):awu m ms ρ=(m.bind fun d=>ms.bind fun k=>lift (atv d k)) ρ:=rfl
theorem axq{m ms:M D}(h:EV K X a m)(hs:EV K X st ms):ER K X (.Subscript a (.Slice none none (some st) p2) pos) (awu m ms):=ER.mk fun hk=>by
 subst hk;have p1:=aza (pos:=pos) (p2:=p2) (h rfl) (hs rfl);have p2':=av8 (pos:=pos) (p2:=p2) (h rfl) (hs rfl);intro zv s σ H Q I ⟨tg,F,ρ,r,ρ',G,em,q⟩;obtain⟨d,ρ1,e1,em⟩:=bf em;obtain⟨k,ρ2,e2,em⟩:=bf em;obtain⟨e4,rfl⟩:=gw em;cases d with
 | tup l =>
  refine p1 zv s σ H Q I ⟨tg,F,ρ,.tup l,ρ1,G,e1,fun v H1 F1 G1 x1 r1=>⟨tg,F1,ρ1,k,_,G1,e2,fun v2 H2 F2 G2 x2 r2 =>?_⟩⟩
  have e4:gRev (.tup l) k=some r:=e4;unfold gRev at e4;split at e4
  ·split at e4
   ·rename_i l' j ez _ hj;cases ez;subst hj;cases e4;cases r2;refine⟨rfl,?_⟩;cases r1.mono x2.sub with
    | tup ea hl =>
     exact⟨_,_,rfl,SqT.of (G2.sub _ _ ea),fun p hp=>Res.tup G2 (fun v' H4 F4 G4 x4 rr=>q v' H4 F4 G4 ((x1.trans x2).trans x4) (nj (x1.trans x2) rr)) hl.rev hp⟩
   ·cases e4
  ·cases e4
 | lst l =>
  refine p2' zv s σ H Q I ⟨tg,F,ρ,.lst l,ρ1,G,e1,fun v H1 F1 G1 x1 r1=>⟨tg,F1,ρ1,k,_,G1,e2,fun v2 H2 F2 G2 x2 r2 =>?_⟩⟩
  cases k with
  | int j =>
   have e4:(if j = -1 then some (Rv.fr l.reverse) else none)=some r:=e4
   split at e4
   ·rename_i hj;subst hj;cases e4;cases r2;refine⟨rfl,?_⟩;cases r1.mono x2.sub with
    | lst ea hl =>
     exact⟨_,_,rfl,SqL.of (G2.sub _ _ ea),fun p hp=>Res.lst G2 (fun v' H4 F4 G4 x4 rr=>q v' H4 F4 G4 ((x1.trans x2).trans x4) (nj (x1.trans x2) rr)) hl.rev hp⟩
   ·cases e4
  | _=>cases e4
 | _=>cases e4
end
end Dn
namespace Mn
open PySem
open PySem.Spec PyProof.Rows L2
section
variable{X:Cx}
end
end Mn
namespace Dn
open L2 Mn
section
variable{K:Fg9}{X:Cx}
def gAny:D->Option Rv
 | .lst l=>(rz l).map fun bs=>.v (.bl (bs.any id))
 | _=>none
@[simp] theorem a2n(l:List D):gAny (.lst l)=(rz l).map fun bs=>.v (.bl (bs.any id)):=rfl
end
end Dn
namespace Mn
open L2
def aqy(y:Str)(env:Env)(XN:List Str)(scope:Scope)(fr N:List Str)(src:List (Option Nat)):Bool :=
 scope.names.all (fun z=>(z.2 != .cell||z.1==y)&&(z.2 != .local||scope.names.lookup z.1==some .local)&&(z.2 != .free||fr.contains z.1)) &&
 fr.all (fun x=>x != y&&(scope.names.lookup x==some .free&&(env.kindOf x==some .cell||env.kindOf x==some .free)))&&adp XN fr N src
structure CompOkY (y:Str) (env:Env) (XN:List Str) (scope:Scope) (fr N:List Str) (src:List (Option Nat)):Prop where
 cell:∀z∈scope.names,z.2=.cell->z.1=y
 loc:∀z∈scope.names,z.2=.local->scope.names.lookup z.1=some .local
 free:∀z∈scope.names,z.2=.free->z.1∈fr
 ne:∀x∈fr,x≠y
 frk:∀x∈fr,scope.names.lookup x=some .free
 out:∀x∈fr,env.kindOf x=some .cell∨env.kindOf x=some .free
 src:adp XN fr N src=true
theorem CompOkY.of{y:Str}{env:Env}{XN:List Str}{scope:Scope}{fr N:List Str}{src:List (Option Nat)}(h:aqy y env XN scope fr N src=true):CompOkY y env XN scope fr N src:=by
 simp only[aqy,bA,fL] at h;obtain⟨⟨h1,h2⟩,h3⟩:=h;refine⟨fun z hz e =>?_,fun z hz e =>?_,fun z hz e =>?_,fun x hx =>?_,fun x hx =>?_,fun x hx =>?_,h3⟩
 ·have:=(h1 z hz).1.1;rw[e] at this
  simpa using this
 ·have:=(h1 z hz).1.2;rw[e] at this
  simpa using this
 ·have:=(h1 z hz).2;rw[e] at this
  simpa using this
 ·simpa using (h2 x hx).1
 ·simpa using (h2 x hx).2.1
 ·simpa using (h2 x hx).2.2
section
variable{y:Str}{X:Cx}{zv:List (Addr×Obj)}{σ:L2.St}{H:Hp}{s:aJ}{scope:Scope}{fr N:List Str}{src:List (Option Nat)}{fp:List Addr}
end
end Mn
namespace Dn
open L2 Mn
end Dn
namespace L2
section
variable{M:Model}{A:cM}{E:Value->aJ->Prop}{s:aJ}
structure KeptBut (fs ch:List Addr) (h h':Heap):Prop where
 keep:∀b o,b∉ch->b∉fs->h.get? b=some o->h'.get? b=some o
 slot:∀b o,b∉ch->h.get? b=some o->∃sl,h'.get? b=some { o with slots:=sl }
theorem KeptBut.trans{fs ch:List Addr}{h h1 h2:Heap}(a:KeptBut fs ch h h1)(b:KeptBut fs ch h1 h2):KeptBut fs ch h h2 :=
 ⟨fun c o n1 n2 e=>b.keep c o n1 n2 (a.keep c o n1 n2 e),fun c o n e=>let ⟨_,e1⟩:=a.slot c o n e;let ⟨sl,e2⟩:=b.slot c _ n e1;⟨sl,e2⟩⟩
theorem KeptBut.sub{fs ch ch':List Addr}{h h':Heap}(a:KeptBut fs ch h h')(q:∀b∈ch,b∈ch'):KeptBut fs ch' h h' :=
 ⟨fun c o n1 n2 e=>a.keep c o (fun z=>n1 (q c z)) n2 e,fun c o n e=>a.slot c o (fun z=>n (q c z)) e⟩
theorem KeptBut.upd{fs:List Addr}{h:Heap}{a:Addr}{f:Obj->Obj}:KeptBut fs [a] h (h.update a f) :=
 ⟨fun b o n _ e=>by rw[eG _ _ (fun z=>n (by simp[z]))];exact e,fun b o n e=>⟨o.slots,by rw[eG _ _ (fun z=>n (by simp[z]))];exact e⟩⟩
end
structure FlyAt (h:Heap) (a:Addr) (C:Addr) (dx:Option Addr) (ch:List Addr) (L:Addr):Prop where
 obj:∃oe vs,h.get? a=some oe/\oe.cls=.ref C/\oe.dict=dx/\oe.data=.fields vs/\1 < vs.size /\
  ((vs[1]? = some .none/\ch=[a])∨∃T oT ts fl,ch=[a,T]/\vs[1]? = some (.ref T)/\T≠a/\h.get? T=some oT/\oT.data=.fields ts/\ts[3]? = some fl/\(fl=.none∨fl=jT L))
theorem FlyAt.fresh{h:Heap}{a C L:Addr}{dx:Option Addr}{ch:List Addr}(x:FlyAt h a C dx ch L):a∈ch:=by
 obtain⟨oe,vs,_,_,_,_,_,⟨_,e⟩ | ⟨T,_,_,_,e,_⟩⟩:=x.obj <;> simp[e]
section
variable{M:Model}{A:cM}{E:Value->aJ->Prop}{s:aJ}
end
end L2
namespace Dn
open L2 Mn
def a6j(F:Hp)(dx:Option Addr)(fs:List (Str×Int)):Prop:=(dx=none/\fs=[])∨∃d,dx=some d/\F d=some (.xd (fs.map fun p=>(p.1,V.int p.2)))
structure ClsOk (K:Fg9) (c:Str) (C:Addr):Prop where
 ns:nsIn K aO c=some (some (.ref C))
 ok:ExcK K C
def FpX(X:Cx)(zv:List (Addr×Obj))(H:Hp)(b:Addr):Prop :=
 H b=none/\b≠X.env.locals/\b∉X.fs/\(b∈X.ex∨X.s₀.heap.get? b=none)/\(∀x c,X.env.cells.lookup x=some c->c≠b)/\∀p∈X.pn++zv,p.1≠b
section
variable{X:Cx}{zv:List (Addr×Obj)}{σ:L2.St}{H H':Hp}{s:aJ}
end
def FlyX(K:Fg9)(X:Cx)(zv:List (Addr×Obj))(x:Exn)(F H:Hp)(h:Heap)(e:Value):Prop :=
 ∃a C dx ch,e=.ref a/\ClsOk K x.cls C/\a6j F dx x.fs/\FlyAt h a C dx ch X.env.locals/\∀b∈ch,FpX X zv H b
def RX(K:Fg9)(X:Cx)(zv:List (Addr×Obj))(tg:Nat->Addr)(ρ:Ro)(σ:L2.St)(F H:Hp)(x:Exn)(ρ':Ro)(e:Value)(s':aJ):Prop :=
 ∃σ' H' F',Inv X zv σ' H' s'/\Good K tg F' H' ρ' σ'/\Ext (Own ρ σ) (Own ρ' σ') F H F' H'/\FlyX K X zv x F' H' s'.heap e
theorem RX.back{K:Fg9}{X:Cx}{zv:List (Addr×Obj)}{tg:Nat->Addr}{ρ ρ1 ρ':Ro}{σ σ1:L2.St}{F H F1 H1:Hp}{x:Exn}{e:Value}{s':aJ}(q:Ext (Own ρ σ) (Own ρ1 σ1) F H F1 H1)(h:RX K X zv tg ρ1 σ1 F1 H1 x ρ' e s'):RX K X zv tg ρ σ F H x ρ' e s' :=
 let ⟨σ',H',F',I,G,y,f⟩:=h;⟨σ',H',F',I,G,q.trans y,f⟩
abbrev XGo(K:Fg9)(X:Cx)(α:Type)(c:Sem α)(m:Ro->Option (Exn×Ro)):Prop :=
 X.K=K->X.xe=(fun _ _=>False)->∀zv s σ H tg F ρ x ρ',Inv X zv σ H s->Good K tg F H ρ σ->m ρ=some (x,ρ')->wpAny (model X.prog X.w) X.A c (fun _ _=>False) (RX K X zv tg ρ σ F H x ρ') s
def exE{α:Type}(m:M α):Ro->Option (Exn×Ro):=fun ρ=>match m ρ with
 | some (.exc x,ρ')=>some (x,ρ')
 | _=>none
def exS(g:Sd):Ro->Option (Exn×Ro):=fun ρ=>match g ρ with
 | some (.exc x,ρ')=>some (x,ρ')
 | _=>none
theorem ad6{α:Type}{m:M α}{ρ ρ':Ro}{x:Exn}:exE m ρ=some (x,ρ')↔m ρ=some (.exc x,ρ'):=by
 unfold exE;split
 ·rename_i y ρ1 e;rw[e];constructor
  ·intro h;cases h;rfl
  ·intro h;cases h;rfl
 ·rename_i hn;constructor
  ·intro h;cases h
  ·intro h;exact absurd h (hn x ρ')
theorem axn{g:Sd}{ρ ρ':Ro}{x:Exn}:exS g ρ=some (x,ρ')↔g ρ=some (.exc x,ρ'):=by
 unfold exS;split
 ·rename_i y ρ1 e;rw[e];constructor
  ·intro h;cases h;rfl
  ·intro h;cases h;rfl
 ·rename_i hn;constructor
  ·intro h;cases h
  ·intro h;exact absurd h (hn x ρ')
structure XE (K:Fg9) (X:Cx) (e:Expr) {α:Type} (m:M α):Prop where
 go:XGo K X Value (eval e X.env) (exE m)
structure XA (K:Fg9) (X:Cx) (es:List Expr) {α:Type} (m:M α):Prop where
 go:∀(pos:Pos),XGo K X (List Value) (spliced (jP pos (aW es X.env))) (exE m)
structure XS (K:Fg9) (X:Cx) (st:Stmt) (g:Sd):Prop where
 go:XGo K X Flow (exec st X.env) (exS g)
structure XSs (K:Fg9) (X:Cx) (ss:List Stmt) (g:Sd):Prop where
 go:XGo K X Flow (execs ss X.env) (exS g)
def NoX{α:Type}(m:M α):Prop:=∀ρ x ρ',m ρ≠some (.exc x,ρ')
def NoS(g:Sd):Prop:=∀ρ x ρ',g ρ≠some (.exc x,ρ')
section
variable{K:Fg9}{X:Cx}{e a b c:Expr}{es:List Expr}{pos p:Pos}{st:Stmt}{ss:List Stmt}
theorem XE.no{α:Type}{m:M α}(h:NoX m):XE K X e m:=⟨fun _ _ zv s σ H tg F ρ x ρ' I G em=>absurd (ad6.mp em) (h ρ x ρ')⟩
theorem XS.no{g:Sd}(h:NoS g):XS K X st g:=⟨fun _ _ zv s σ H tg F ρ x ρ' I G em=>absurd (axn.mp em) (h ρ x ρ')⟩
theorem amq{α β:Type}{m:M α}{k:α->M β}{ρ ρ':Ro}{x:Exn}(h:m.bind k ρ=some (.exc x,ρ')):m ρ=some (.exc x,ρ')∨∃a ρ1,m ρ=some (.ok a,ρ1)/\k a ρ1=some (.exc x,ρ'):=by
 unfold M.bind at h;split at h
 ·exact .inr ⟨_,_,by assumption,h⟩
 ·cases h;exact .inl (by assumption)
 ·cases h
theorem XA.no{α:Type}{m:M α}(h:NoX m):XA K X es m:=⟨fun _ _ _ zv s σ H tg F ρ x ρ' I G em=>absurd (ad6.mp em) (h ρ x ρ')⟩
end
abbrev bmV:List Value:=[.type "ValueError", .type "Exception", .type "BaseException", .type "object"]
def a0z(x:Exn):Sd:=fun ρ=>some (.exc x,ρ)
section
variable{K:Fg9}{X:Cx}{c:Str}{C:Addr}{np cpos pos:Pos}
end
end Dn
namespace L2
section
variable{X:Cx}{zv:List (Addr×Obj)}{σ:List (Option V)}{H:Hp}{s:aJ}
end
section
variable{M:Model}{A:cM}{E:Value->aJ->Prop}{s:aJ}
structure CatK (K:Fg9) (B:Addr):Prop where
 cls:(lU K B).isSome=true
 ty:vB K (.ref B)=some (.type "type")
 base:lR K (.ref B) (.type "BaseException")=some true
end
end L2
namespace Dn
open L2 Mn
def a0n(c0 c:Str):Bool:=c0==c||c == "ArrowError" || c == "ValueError"
def gIsC(ns:List Str)(c:Str):D->Option D
 | .exn c0 _=>if ns.contains c0 then some (.bl (a0n c0 c)) else none
 | _=>none
def mIsC(ns:List Str)(c:Str)(m:M D):M D:=m.bind fun d=>lift (gIsC ns c d)
section
variable{K:Fg9}{X:Cx}{e:Expr}{pos p:Pos}
end
@[simp] theorem a4p(ns:List Str)(c:Str)(m:M D)(ρ:Ro):mIsC ns c m ρ=(m.bind fun d=>lift (gIsC ns c d)) ρ:=rfl
@[simp] theorem a2g(ns:List Str)(c c0:Str)(fs:List (Str×Int)):gIsC ns c (.exn c0 fs)=if ns.contains c0 then some (.bl (a0n c0 c)) else none:=rfl
end Dn
namespace L2
structure RoomU (k:Nat) (A:cM):Prop where
 dp:A.depth+3*k+5 < recursionLimit
 un:A.units+16*k+200 < cLine
 gd:A.guards=some []
theorem RoomU.mono{j k:Nat}{A:cM}(r:RoomU k A)(h:j<=k):RoomU j A:=⟨by have:=r.dp;omega,by have:=r.un;omega,r.gd⟩
theorem RoomU.deeper{k:Nat}{A:cM}(r:RoomU (k+1) A)(env:Env):RoomU k (A.deeper env) :=
 ⟨by have:=r.dp;show A.depth+1+3*k+5 < _;omega,by have:=r.un;show A.units+3+16*k+200 < _;omega,r.gd⟩
theorem RoomU.depth{k:Nat}{A:cM}(r:RoomU k A):A.depth < recursionLimit:=by have:=r.dp;omega
theorem RoomU.units{k:Nat}{A:cM}(r:RoomU k A):A.units+64 < cLine:=by have:=r.un;omega
structure FnOkU (P:bI) (w:World) (K:Fg9) (mg:Str->Option Value) (base:Heap) (k:Nat) (f:Addr) (fd:fO) (ps:List Str) (sp:Sp):Prop where
 len:∀vs H Q E,sp vs H Q E->vs.length=ps.length
 run:∀(A:cM) (outer:List Env) (s:aJ) (H:Hp) (args:Args) (us:List Value) (vs:List V) (Q:VK),RoomU k A->Env0 P w K mg base A outer s H->oX s fd args (ps.zip us)->Vals vs us->sp vs H Q E0 ->
  nM (model P w) A (.call (.ref f) args) (CR CX0 outer P w H s Q E0) s
end L2
namespace Dn
open L2 Mn
section
variable{K:Fg9}{X:Cx}{zv:List (Addr×Obj)}{σ:L2.St}{H:Hp}{s:aJ}{tg:Nat->Addr}{F:Hp}{ρ:Ro}
end
structure CatN (K:Fg9) (B:Addr):Prop extends CatK K B where
 ns:nsIn K aO "ArrowError" = some (some (.ref B))
 self:lR K (.ref B) (.ref B)=some true
section
variable{K:Fg9}{X:Cx}{pos hpos bp:Pos}{n:Str}{B:Addr}{i:Nat}{b₀:Stmt}{body suite:List Stmt}{ns:List Str}{gb gh:Sd}
end
def okS{α:Type}(m:M α):M α:=fun ρ=>match m ρ with
 | some (.ok a,ρ1)=>some (.ok a,ρ1)
 | _=>none
def dOk(g:Sd):Sd:=fun ρ=>match g ρ with
 | some (.exc _,_)=>none
 | r=>r
@[simp] theorem a6o{α:Type}(m:M α)(ρ:Ro):okS m ρ=match m ρ with
 | some (.ok a,ρ1)=>some (.ok a,ρ1)
 | _=>none:=rfl
@[simp] theorem a66(g:Sd)(ρ:Ro):dOk g ρ=match g ρ with
 | some (.exc _,_)=>none
 | r=>r:=rfl
theorem alw{α:Type}{m:M α}{ρ ρ':Ro}{o:Out α}(h:okS m ρ=some (o,ρ')):m ρ=some (o,ρ')/\∃a,o=.ok a:=by
 unfold okS at h;split at h
 ·rename_i a ρ1 e;cases h;exact⟨e,a,rfl⟩
 ·cases h
theorem a00{g:Sd}{ρ ρ':Ro}{fl:Fl}(h:dOk g ρ=some (fl,ρ')):g ρ=some (fl,ρ')/\∀x,fl≠.exc x:=by
 unfold dOk at h;split at h
 ·cases h
 ·rename_i hn;exact⟨h,fun x e=>hn x ρ' (by rw[h,e])⟩
section
variable{K:Fg9}{X:Cx}{e a b c:Expr}{es:List Expr}{pos p:Pos}{st:Stmt}{ss:List Stmt}
theorem SV.s{g:Sd}(h:SV K X st g):SV K X st (dOk g):=SV.mk fun hk=>PS.imp (h.go hk) fun E σ H ⟨tg,F,ρ,fl,ρ',G,em,q⟩=>⟨tg,F,ρ,fl,ρ',G,(a00 em).1,q⟩
theorem EV.s{m:M D}(h:EV K X e m):EV K X e (okS m):=EV.mk fun hk=>PE.imp (h.go hk) fun σ H Q ⟨tg,F,ρ,d,ρ',G,em,q⟩=>⟨tg,F,ρ,d,ρ',G,(alw em).1,q⟩
theorem ER.s{m:M Rv}(h:ER K X e m):ER K X e (okS m):=ER.mk fun hk=>PE.imp (h.go hk) fun σ H Q ⟨tg,F,ρ,d,ρ',G,em,q⟩=>⟨tg,F,ρ,d,ρ',G,(alw em).1,q⟩
theorem ET.s{m:M Bool}(h:ET K X e m):ET K X e (okS m):=ET.mk fun hk=>fun zv s σ H Q I ⟨tg,F,ρ,d,ρ',G,em,q⟩=>h.go hk zv s σ H Q I ⟨tg,F,ρ,d,ρ',G,(alw em).1,q⟩
theorem EG.s{js:List (Option Nat)}{m:M (List (Option D))}(h:EG K X es js m):EG K X es js (okS m):=EG.mk fun hk=>PA.imp (h.go hk) fun σ H Q ⟨tg,F,ρ,d,ρ',G,em,q⟩=>⟨tg,F,ρ,d,ρ',G,(alw em).1,q⟩
theorem XE.d{m:M Rv}(h:XE K X e m):XE K X e m.d:=⟨fun hk hn zv s σ H tg F ρ x ρ' I G em=>by
 rcases amq (ad6.mp em) with em | ⟨_,_,_,em⟩
 ·exact h.go hk hn zv s σ H tg F ρ x ρ' I G (ad6.mpr em)
 ·cases em⟩
theorem XE.v{m:M D}(h:XE K X e m):XE K X e m.v:=⟨fun hk hn zv s σ H tg F ρ x ρ' I G em=>by
 rcases amq (ad6.mp em) with em | ⟨_,_,_,em⟩
 ·exact h.go hk hn zv s σ H tg F ρ x ρ' I G (ad6.mpr em)
 ·cases em⟩
end
def fnS(f:Fd):Fd:=fun as=>match f as with
 | some (.exc _,_)=>none
 | r=>r
@[simp] theorem a6y(f:Fd)(as:Ro):fnS f as=match f as with
 | some (.exc _,_)=>none
 | r=>r:=rfl
section
variable{K:Fg9}{X:Cx}{e:Expr}{es:List Expr}{pos p:Pos}
end
section
variable{K:Fg9}{X:Cx}{e:Expr}{pos p np cpos hpos bp:Pos}{c:Str}
end
@[simp] theorem a0y(x:Exn)(ρ:Ro):a0z x ρ=some (.exc x,ρ):=rfl
section
variable{K:Fg9}{h:Heap}{mg:Str->Option Value}{ns:List Str}{c:Str}
end
end Dn
namespace Mn
open L2
section
variable{X:Cx}
end
end Mn
namespace Dn
open L2 Mn
section
variable{K:Fg9}{X:Cx}{a b:Expr}{pos p p2:Pos}
def ak2(neg:Bool):D->List D->Option D
 | .int i,[.int y]=>some (.bl (if neg then !(decide (0<=i)&&decide (i < y)) else (decide (0<=i)&&decide (i < y))))
 | _,_=>none
@[simp] theorem axa(neg:Bool)(i y:Int):ak2 neg (.int i) [.int y]=some (.bl (if neg then !(decide (0<=i)&&decide (i < y)) else (decide (0<=i)&&decide (i < y)))):=rfl
def aww(neg:Bool)(m1:M D)(m2:M (List D)):M D:=m1.bind fun x=>m2.bind fun ds=>lift (ak2 neg x ds)
@[simp] theorem ax6(neg:Bool)(m1:M D)(m2:M (List D))(ρ:Ro):aww neg m1 m2 ρ=(m1.bind fun x=>m2.bind fun ds=>lift (ak2 neg x ds)) ρ:=rfl
end
section
variable{K:Fg9}{X:Cx}{a b e:Expr}{pos:Pos}{m1:M D}{m2 m:M Rv}
def a4e(m1:M D)(m2:M Rv):M Rv:=m1.bind fun d=>m2.bind fun r=>match r with
 | .v d2=>ret (.v (.tup [d,d2]))
 | .fr l=>ret (.tf d l)
 | .tf _ _=>lift none
@[simp] theorem a1i(ρ:Ro):a4e m1 m2 ρ=(m1.bind fun d=>m2.bind fun r=>match r with
 | .v d2=>ret (.v (.tup [d,d2]))
 | .fr l=>ret (.tf d l)
 | .tf _ _=>lift none) ρ:=rfl
def a6c(i j:Nat)(m:M Rv):Sd:=dM m fun r ρ=>match r with
 | .tf d l=>some (.nx,bJ (bJ ρ i (.val d)) j (.own none l))
 | .v (.tup [d,d2])=>some (.nx,bJ (bJ ρ i (.val d)) j (.val d2))
 | _=>none
end
@[simp] theorem a2x(i j:Nat)(m:M Rv)(ρ:Ro):a6c i j m ρ=dM m (fun r ρ=>match r with
 | .tf d l=>some (.nx,bJ (bJ ρ i (.val d)) j (.own none l))
 | .v (.tup [d,d2])=>some (.nx,bJ (bJ ρ i (.val d)) j (.val d2))
 | _=>none) ρ:=rfl
def axk:D->Bool
 | .non | .bl _ | .int _ | .str _=>true
 | _=>false
def apg:Sl->Bool
 | .own _ l=>l.all axk
 | _=>true
def a4l(i:Nat)(m:M Rv):M Rv:=fun ρ=>match ρ[i]?,m ρ with
 | some (.own none l),some (.ok (.fr ys),ρ')=>if ys.all axk=true/\ρ.all apg=true then some (.ok (.fr ys),ρ) else none
 | _,_=>none
@[simp] theorem a1q(i:Nat)(m:M Rv)(ρ:Ro):a4l i m ρ=match ρ[i]?,m ρ with
 | some (.own none l),some (.ok (.fr ys),ρ')=>if ys.all axk=true/\ρ.all apg=true then some (.ok (.fr ys),ρ) else none
 | _,_=>none:=rfl
end Dn
namespace Mn
open PySem PySem.SeqAt PySem.MeetsSeq
open PySem.AutoSeq1 (wpAny_loadPart')
end Mn
namespace Dn
open L2 Mn
end Dn
namespace Mn
open L2
section
variable{prog:bI}{w:World}{A:cM}{E:Value->aJ->Prop}{h:Heap}{g:Array GenState}{d:Drawn}{t:Nat}{os:OsState}
variable{nm q:Str}{C N:Addr}{bs bm bmB:List Value}{hdct:Bool}{sn:List Str}{sub:List Value}{ab:Bool}{col:Option Bool}{dd:Option Addr}{k0 k1 k2 k3 k5:Option Value}{B Bn newId nid initId inN:String}{bmN:List Value}
end
end Mn
namespace Dn
open L2 Mn
def refB:Value->Bool
 | .ref _=>true
 | _=>false
def axm(K:Fg9)(C:Addr):Bool:=(lU K C).any fun cd=>cd.mro.dropWhile refB==bmV
section
variable{prog:bI}{w:World}{A:cM}{E:Value->aJ->Prop}{s:aJ}{K:Fg9}{x C:Addr}{ox:Obj}{od:Option Obj}{name:Str}{v:Value}
end
section
variable{vs:Array Value}{X:Cx}{zv:List (Addr×Obj)}{σ:L2.St}{H:Hp}{s:aJ}{A:cM}{E:Value->aJ->Prop}{a C:Addr}{f:Str}
structure FldK (K:Fg9) (C:Addr) (f:Str):Prop where
 k:ExcK K C
 sa:oY K (.ref C) "__setattr__" = some (some (.builtin "object.__setattr__"))
 ov:axm K C=true
 tk:PySem.W.takerIn K C f=some none
end
end Dn
namespace Mn
open L2
section
variable{M:Model}{A:cM}{E:Value->aJ->Prop}{env:Env}
variable{nm q:Str}{C N:Addr}{bs bm:List Value}{hdct:Bool}{sn:List Str}{sub:List Value}{ab:Bool}{col:Option Bool}{dd:Option Addr}{k0 k1 k2 k3 k5:Option Value}{newId:String}
end
section
variable{prog:bI}{w:World}{A:cM}{E:Value->aJ->Prop}{s:aJ}{env:Env}
variable{nm q:Str}{C N:Addr}{bs bm bmB:List Value}{hdct:Bool}{sn:List Str}{sub:List Value}{ab:Bool}{col:Option Bool}{dd:Option Addr}{k0 k1 k2 k3 k5:Option Value}{B Bn newId nid initId inN:String}{bmN:List Value}
end
end Mn
namespace Dn
open L2 Mn
def a0x(K:Fg9)(C fI:Addr):Bool:=match K.lookup C with
 | some ⟨.type "type", _,.cls cd,sl⟩=>(match cd.mro,sl.toList with
  | .ref C'::bm,[_,_,_,_,some (.builtin n),_]=>C'==C&&n == "ValueError.__new__" && !cd.hasDel&&PySem.W.tailIn K bmV bm&&PySem.W.nsOkIn K cd.ns&&nsIn K cd.ns "__init__" == some (some (.ref fI))&&vB K (.ref fI)==some (.type "function")
  | _,_=>false)
 | _=>false
section
variable{K:Fg9}{X:Cx}{c f:Str}{C fI:Addr}{fd:fO}{kk:Nat}{e1:Expr}{m:M D}{np cpos pos:Pos}
end
def mFld(cs:List Str)(f:Str)(m:M D):M D:=m.bind fun d=>match d with
 | .exn c fs=>if cs.contains c=true then lift ((fs.lookup f).map D.int) else lift none
 | _=>lift none
@[simp] theorem a4r(cs:List Str)(f:Str)(m:M D)(ρ:Ro):mFld cs f m ρ=(m.bind fun d=>match d with
 | .exn c fs=>if cs.contains c=true then lift ((fs.lookup f).map D.int) else lift none
 | _=>lift none) ρ:=rfl
section
variable{K:Fg9}{X:Cx}{c f:Str}{st st':Stmt}{e1:Expr}{m:M D}{np cpos pos p1 p2 p3 p4:Pos}
structure IniT (K:Fg9) (mg:Str->Option Value) (c f q:Str) (st:Stmt):Prop where
 ex:∃C fI fd,mg c=some (.ref C)/\ClsOk K c C/\a0x K C fI=true/\FldK K C f/\Fun K "__init__" q st fI fd
end
end Dn
namespace Stt
open PySem
def Rise(t:cP):Prop:=t.place.toList.Pairwise (· < ·)
theorem Rise.lt{t:cP}(h:Rise t){i j:Nat}{x y:Nat}(hij:i < j)(hx:t.place[i]? = some x)(hy:t.place[j]? = some y):x < y:=by
 obtain⟨hi,rfl⟩:=jZ.mp hx;obtain⟨hj,rfl⟩:=jZ.mp hy;have:=List.pairwise_iff_getElem.mp h i j (by simpa using hi) (by simpa using hj) hij
 simpa using this
def Cut(xs:Array Nat)(j p:Nat):Prop:=p<=xs.size/\(∀i x,i < p->xs[i]? = some x->x < j)/\∀i x,p<=i->xs[i]? = some x->j<=x
theorem ah9{xs:Array Nat}(hs:xs.toList.Pairwise (· < ·))(j:Nat):∀(fuel lo hi:Nat),hi - lo<=fuel->lo<=hi->hi<=xs.size->(∀i x,i < lo->xs[i]? = some x->x < j)->(∀i x,hi<=i->xs[i]? = some x->j<=x) ->
  Cut xs j (tM xs j fuel lo hi)
 | 0,lo,hi,hf,hle,hsz,a,b=>by
  have:lo=hi:=by omega
  subst this;exact⟨hsz,a,b⟩
 | fuel+1,lo,hi,hf,hle,hsz,a,b=>by
  unfold tM;split
  ·rename_i hlt;dsimp only;have hm:(lo+hi) / 2 < xs.size:=by omega
   have hg:xs.getD ((lo+hi) / 2) j=xs[(lo+hi) / 2]:=by simp[uH,hm]
   have hx:xs[(lo+hi) / 2]? = some (xs[(lo+hi) / 2]):=by simp[hm]
   rw[hg]
   by_cases hc:xs[(lo+hi) / 2] < j
   ·rw[if_pos hc];refine ah9 hs j fuel ((lo+hi) / 2+1) hi (by omega) (by omega) hsz (fun i x hi' hx' =>?_) b
    rcases fY i ((lo+hi) / 2) with h | h
    ·exact jL (Rise.lt (t:={ mask:=0,place:=xs,dummies := #[],finger:=0,led:=true,moves:=0,plain:=true }) hs h hx' hx) hc
    ·have:i=(lo+hi) / 2:=by omega
     subst this;rw[hx] at hx';cases hx';exact hc
   ·rw[if_neg hc];refine ah9 hs j fuel lo ((lo+hi) / 2) (by omega) (by omega) (by omega) a (fun i x hi' hx' =>?_)
    rcases fY ((lo+hi) / 2) i with h | h
    ·exact cC (Nat.not_lt.mp hc) (kE (Rise.lt (t:={ mask:=0,place:=xs,dummies := #[],finger:=0,led:=true,moves:=0,plain:=true }) hs h hx hx'))
    ·have:i=(lo+hi) / 2:=by omega
     subst this;rw[hx] at hx';cases hx';omega
  ·have:lo=hi:=by omega
   subst this;exact⟨hsz,a,b⟩
theorem aga{xs:Array Nat}(hs:xs.toList.Pairwise (· < ·))(j:Nat):Cut xs j (eN xs j) :=
 ah9 hs j xs.size 0 xs.size (by omega) (dJ _) (aL _) (fun i x h _=>absurd h (mL _)) fun i x h hx=>by
  obtain⟨h',_⟩:=jZ.mp hx;omega
theorem aoa{t:cP}(h:Rise t):eN t.place 0=0:=by
 obtain⟨hp,a,b⟩:=aga h 0;rcases nU (eN t.place 0) with h0 | h0
 ·exact h0
 ·have h1:0 < t.place.size:=by omega
  exact absurd (a 0 t.place[0] h0 (by simp[h1])) (mL _)
theorem aob{t:cP}(h:Rise t){i x:Nat}(hx:t.place[i]? = some x):eN t.place (x+1)=i+1:=by
 obtain⟨hp,a,b⟩:=aga h (x+1);rcases Nat.lt_trichotomy (eN t.place (x+1)) (i+1) with h1 | h1 | h1
 ·have:=b i x (by omega) hx
  omega
 ·exact h1
 ·have h2:i+1 < t.place.size:=by omega
  have h3:t.place[i+1]? = some t.place[i+1]:=by simp[h2]
  have:=a (i+1) _ h1 h3;have:=h.lt (iU i) hx h3;omega
theorem akg{t:cP}(h:Rise t){j:Nat}(hj:t.place[eN t.place j]? ≠ some j):(SetTable.insertAt t.place (eN t.place j) j).toList.Pairwise (· < ·):=by
 obtain⟨hp,a,b⟩:=aga h j;rw[SetTable.toList_insertAt];generalize hq:eN t.place j=p at *;rw[List.pairwise_append];refine⟨List.Pairwise.sublist (tW _ _) h,?_,?_⟩
 ·rw[fC];refine⟨fun y hy =>?_,mV (List.drop_sublist _ _) h⟩
  obtain⟨i,hi,rfl⟩:=gC.mp hy;rw[iV,bB] at hi;rw[tZ,nA];have h1:t.place[p+i]? = some t.place[p+i]:=by simp
  have h2:=b (p+i) _ (by omega) h1
  rcases Nat.eq_or_lt_of_le h2 with e | e
  ·exfalso;rcases nU i with z | z
   ·subst z;exact hj (by rw[e];exact h1)
   ·have h3:t.place[p]? = some t.place[p]:=by simp
    have h4:=h.lt (show p < p+i by omega) h3 h1
    have h5:=b p _ (aL _) h3;omega
  ·exact e
 ·intro x hx y hy;have hxj:x < j:=by
   obtain⟨i,hi,rfl⟩:=gC.mp hx;rw[gQ,bB] at hi;rw[List.getElem_take,nA];exact a i _ (by omega) (by simp)
  rcases aV.mp hy with rfl | hy
  ·exact hxj
  ·obtain⟨i,hi,rfl⟩:=gC.mp hy;rw[iV,bB] at hi;rw[tZ,nA];have:=b (p+i) t.place[p+i] (by omega) (by simp)
   omega
def Away(t:cP)(j:Nat):Prop:=t.place[eN t.place j]? ≠ some j
theorem aij{t:cP}{j:Nat}(h:∀i,t.slot j≠.live i):Away t j:=fun e=>h (eN t.place j) (by
 unfold SetTable.slot;dsimp only;rw[if_pos (by rw[e];exact beq_self_eq_true _)])
theorem adu{t:cP}{f:Nat->Int}{h:Int}:∀(fuel:Nat) (p:vA) (j:Nat) (d:Option Nat),(∀x,p.dummy=some x->Away t x)->tL t f h fuel p=some (.empty j d)->Away t (d.getD j)
 | 0,p,j,d,_,e=>by cases e
 | fuel+1,p,j,d,hd,e=>by
  unfold tL at e;have adv:∀q:vA,(t.advance q).dummy=q.dummy:=fun q=>by unfold SetTable.advance;split <;> rfl
  split at e
  ·rename_i hs;cases e;cases hq:p.dummy with
   | none=>exact aij fun i z=>by rw[pC,hs] at z;cases z
   | some x=>exact hd x hq
  ·rename_i hs;refine adu fuel _ j d (fun x hx =>?_) e
   rw[adv] at hx;cases hx;exact aij fun i z=>by rw[hs] at z;cases z
  ·split at e
   ·cases e
   ·exact adu fuel _ j d (fun x hx=>by rw[adv] at hx;exact hd x hx) e
theorem aqe{t:cP}{h:Int}{j:Nat}{b:Bool}(e:t.freeSlot h=some (j,b)):Away t j:=by
 unfold SetTable.freeSlot at e;split at e
 ·rename_i j' d hp;cases e;exact adu _ _ j' d (fun x hx=>by cases hx) hp
 ·cases e
theorem anb(n:Nat):(Array.range n).toList.Pairwise (· < ·):=by
 rw[Array.toList_range];exact gY
def Kept(b:Bool)(t:cP):Prop:=Rise t/\t.led=b
theorem Kept.standIn{b:Bool}{t:cP}(h:Kept b t)(n:Nat):Kept b (t.standIn n):=⟨anb n,h.2⟩
theorem akx{b:Bool}{t:cP}(h:Kept b t)(es:Array (Int×Value))(k:Int)(x:Value):Kept b (layNew t es k x).2.1:=by
 unfold layNew;split
 ·rename_i slot wd e;dsimp only;have h':Kept b (t.put slot).1:=⟨akg h.1 (aqe e),h.2⟩;unfold SetTable.orStandIn;split
  ·exact h'
  ·exact h'.standIn _
 ·exact h.standIn _
theorem apy{m f mv:Nat}{b p:Bool}{hs:Array Int}{t:cP}{o:Array Nat}(e:vJ m f mv b p hs=some (t,o)):Kept b t:=by
 unfold vJ at e;cases e1:SetTable.layClean m hs with
 | none=>rw[e1] at e;cases e
 | some ow =>
  rw[e1] at e;cases e;refine⟨?_,rfl⟩;show List.Pairwise _ _;dsimp only;have h0:((aY (m+1)).filterMap fun j=>(ow.getD j none).map (j,·)).map (·.1)=(aY (m+1)).filter fun j=>(ow.getD j none).isSome:=by
   generalize aY (m+1)=l
   induction l with
   | nil=>rfl
   | cons a r ih =>
    cases h:ow.getD a none with
    | none=>simp only[dW,pF,h,Option.map_none,Option.isSome_none];simpa using ih
    | some z=>simp only[dW,pF,h,Option.map_some,Option.isSome_some,aX];simpa using ih
  rw[h0];exact mV sX gY
theorem am9{b:Bool}{t:cP}(h:Kept b t)(es:Array (Int×Value))(n:Nat):Kept b (relayAll t es n).2.1:=by
 unfold relayAll;split
 ·rename_i t' o e;dsimp only;split
  ·have:=apy e;rw[h.2] at this;exact this
  ·exact h.standIn _
 ·exact h.standIn _
theorem anx(b:Bool):Kept b (.fresh 0 0 b):=⟨List.Pairwise.nil,rfl⟩
open PySem.Spec PyProof.Rows
def keyE(e:Int×Value):Int:=match e.2 with
 | .int k _=>k
 | _=>0
def Ent(e:Int×Value):Prop:=∃k u,e=(nJ k,mJ k u)
structure SetG (w:World) (es:Array (Int×Value)) (t:cP) (ns:List Int):Prop where
 ent:∀e∈es.toList,Ent e
 nd:(es.toList.map keyE).Nodup
 mem:∀k,k∈es.toList.map keyE↔k∈ns
 fit:t.fits es.size=true
 kept:Kept (!w.params.followText "set-order") t
def setO(es:Array (Int×Value))(ep:Nat)(t:cP):Obj:={ cls:=.type "set", dict:=none,data:=.set es ep t }
theorem SetG.elems{prog:bI}{w:World}{es:Array (Int×Value)}{t:cP}{ns:List Int}(g:SetG w es t ns):ElemsOf (nH prog w) es.toList:=fun e he=>by
 obtain⟨k,u,rfl⟩:=g.ent e he;exact⟨⟨k,intKind_is _ _ _ _,rfl⟩,rfl⟩
theorem SetG.empty(w:World):SetG w #[] (.fresh 0 0 (!w.params.followText "set-order")) []:=⟨fun e he=>by simp at he,oV,fun k=>by simp,rfl,anx _⟩
theorem aqq{e:Int×Value}(h:Ent e)(k:Int):sU k e.2=true↔keyE e=k:=by
 obtain⟨j,u,rfl⟩:=h;simp[sU,keyE]
theorem SetG.push{w:World}{es es':Array (Int×Value)}{t t':cP}{ns:List Int}{k:Int}{u:Tok}(g:SetG w es t ns)(hn:k∉es.toList.map keyE)(hp:es'.toList.Perm (es.push (nJ k,.int k u)).toList)(hf:t'.fits es'.size=true)
  (hk:Kept (!w.params.followText "set-order") t'):SetG w es' t' (ns++[k]):=by
 rw[uG] at hp;have hm:=hp.map keyE;rw[bT] at hm;refine⟨fun e he =>?_,?_,fun j =>?_,hf,hk⟩
 ·rcases cN.mp (hp.mem_iff.mp he) with h | h
  ·exact g.ent e h
  ·rw[cR] at h;exact⟨k,u,h⟩
 ·rw[hm.nodup_iff,oU];refine⟨g.nd,by simp,fun a ha b hb e =>?_⟩
  simp only[aX,oZ,cR] at hb;subst hb;subst e;exact hn ha
 ·rw[hm.mem_iff,cN,cN,g.mem j];rfl
theorem SetG.perm{w:World}{es es':Array (Int×Value)}{t t':cP}{ns:List Int}(g:SetG w es t ns)(hp:es'.toList.Perm es.toList)(hf:t'.fits es'.size=true)(hk:Kept (!w.params.followText "set-order") t'):SetG w es' t' ns :=
 ⟨fun e he=>g.ent e (hp.mem_iff.mp he),(hp.map keyE).nodup_iff.mpr g.nd,fun k=>by rw[(hp.map keyE).mem_iff,g.mem k],hf,hk⟩
section
variable{prog:bI}{w:World}{A:cM}{E:Value->aJ->Prop}{s:aJ}
theorem alk{h:Heap}{a:Addr}{es es':Array (Int×Value)}{ep:Nat}{t t':cP}(ho:h.get? a=some (setO es ep t)):(h.update a (tV es' t')).get? a=some (setO es' (ep+1) t'):=by
 have:=bQ (tV es' t') ho (by rw[putSet_of es' t' (o:=setO es ep t) rfl];rfl)
 rw[putSet_of es' t' (o:=setO es ep t) rfl] at this;exact this
theorem avc{a:Addr}{es es1:Array (Int×Value)}{ep:Nat}{t t2:cP}{ns:List Int}(g:Bool->Sem Unit)(hg:∀(b:Bool) (s₁:aJ) (Q':Unit->aJ->Prop),Q' () s₁->wpAny (model prog w) A (g b) Q' E s₁)
  (ho:s.heap.get? a=some (setO es ep t)) (G:SetG w es1 t2 ns) (hb:es1.size < lE) {wasDummy:Bool} {R:Option Bool->aJ->Prop}
  (h:∀h' es' ep' t',cH a s.heap h'->h'.get? a=some (setO es' ep' t')->SetG w es' t' ns->es'.size=es1.size->R (some true) { s with heap:=h' }) :
  wpAny (model prog w) A (do
    storeSet a es1 t2
    if (!wasDummy&&t2.tooFull)=true then do
      g (relayAll t2 es1 (lA es1.size)).2.2
      storeSet a (relayAll t2 es1 (lA es1.size)).1 (relayAll t2 es1 (lA es1.size)).2.1
      pure (some true)
     else pure (some true)) R E s:=by
 refine aA (wpAny_storeSet_of ho rfl ?_ (fits_of_scanBound hb));have h1:=alk (es':=es1) (t':=t2) ho;have b1:=cA s.heap a (tV es1 t2);split
 ·have hp:=relayAll_perm t2 es1 (lA es1.size);have hsz:(relayAll t2 es1 (lA es1.size)).1.size=es1.size:=by rw[<-bB,hp.length_eq,bB]
  refine aA (hg _ _ _ ?_);refine aA (wpAny_storeSet_of h1 rfl ?_ (fits_of_scanBound (by rw[hsz];exact hb)))
  exact aF (h _ _ _ _ (b1.trans (cA _ a _)) (alk h1) (G.perm hp (relayAll_fits _ _ _) (am9 G.kept _ _)) hsz)
 ·exact aF (h _ _ _ _ b1 h1 G rfl)
theorem a1a{a:Addr}{es:Array (Int×Value)}{ep:Nat}{t:cP}{ns:List Int}{k:Int}{u:Tok}{Q:Bool->aJ->Prop}(ho:s.heap.get? a=some (setO es ep t))(G:SetG w es t ns)(hb:es.size+1 < lE)
  (h:∀h' es' ep' t' b,cH a s.heap h'->h'.get? a=some (setO es' ep' t')->SetG w es' t' (ns++[k])->es'.size<=es.size+1->Q b { s with heap:=h' }) :
  wpAny (model prog w) A (setAddHashed a (.int k u) (nJ k)) Q E s:=by
 have hel:ElemsOf (nH prog w) es.toList:=G.elems;have hkey:(nH prog w).is k (.int k u)=true:=intKind_is _ _ _ _;unfold setAddHashed setAddHashedIn;refine eQ (aA (wpAny_setState_of ho rfl G.fit ?_));dsimp only;rw[byScan_of (knd:=nH prog w) rfl (by omega) hel]
 simp only[↓reduceIte];unfold setAddByScan;refine aA ?_;refine aA (gU ?_);refine aA (wpAny_setScan_of (knd:=nH prog w) hkey ho rfl G.fit hel ?_);cases hr:nW (fun e=>(nH prog w).is k e.2) es.toList with
 | some j =>
  dsimp only;obtain⟨hj,hpj,_⟩:=fZ.mp hr;have hin:k∈es.toList.map keyE:=cO.mpr ⟨_,bO hj,(aqq (G.ent _ (bO hj)) k).mp hpj⟩;refine aF (aF ?_);refine h s.heap es ep t _ (Heap.SameBut.refl a s.heap) ho ⟨G.ent,G.nd,fun j' =>?_,G.fit,G.kept⟩ (by omega)
  rw[cN,cR,G.mem j'];exact⟨.inl,fun z=>z.elim id fun z=>z▸(G.mem k).mp hin⟩
 | none =>
  dsimp only;have hout:k∉es.toList.map keyE:=fun z=>by
   obtain⟨e,he,hk⟩:=cO.mp z;have h1:=lC.mp hr e he;have h2:(nH prog w).is k e.2=true:=(aqq (G.ent e he) k).mpr hk;rw[h2] at h1;cases h1
  have hgw:∀(b:Bool) {s₁:aJ} {Q':Unit->aJ->Prop},Q' () s₁->wpAny (model prog w) A (match b with | true=>rule "set.scan.the-table-gave-way" | false=>pure ()) Q' E s₁ :=
   fun b s₁ Q' hq=>by cases b <;> first | exact aF hq | exact gU hq
  have hperm:=layNew_perm t es (nJ k) (.int k u);have hfits:=layNew_fits t es (nJ k) (.int k u);have hkept:=akx G.kept es (nJ k) (.int k u);show wpAny (model prog w) A _ _ _ _
  change wpAny (model prog w) A (match layNew t es (nJ k) (.int k u) with | (es,t,wasDummy,gave)=>_) _ _ _
  generalize hL:layNew t es (nJ k) (.int k u)=L at hperm hfits hkept ⊢
  obtain⟨es1,t1,wasDummy,gave⟩:=L;dsimp only at hperm hfits hkept ⊢
  have G1:=G.push hout hperm hfits hkept;have hsz1:es1.size=es.size+1:=by rw[<-bB,hperm.length_eq,bB,Array.size_push]
  refine aA (hgw _ ?_);split
  ·refine aA ?_;rw[hashByValue_scannable 8 rfl];refine aF ?_;refine avc _ ?_ ho (ns:=ns++[k]) ?_ (by omega) ?_
   ·intro b s₁ Q' hq;cases b <;> first | exact aF hq | exact gU hq
   ·exact G1
   ·intro h' es' ep' t' hsb ho' G' hz;exact aF (h h' es' ep' t' _ hsb ho' G' (by omega))
  ·refine aA (aF ?_);simp only[↓reduceIte];refine avc _ ?_ ho (ns:=ns++[k]) G1 (by omega) ?_
   ·intro b s₁ Q' hq;cases b <;> first | exact aF hq | exact gU hq
   ·intro h' es' ep' t' hsb ho' G' hz;exact aF (h h' es' ep' t' _ hsb ho' G' (by omega))
end
section
variable{prog:bI}{w:World}{A:cM}{R:Result->aJ->Prop}{I:Addr}{fp wr:List Addr}{G:Array GenState->Array GenState->Prop}{n:Nat}{P:Nat->Value->Prop}{St:Nat->aJ->Prop}
theorem avj(W:WalksS prog w A.in1 I fp wr G n P St)(S:Addr)(hSf:S∉fp)(val:Nat->Int)(hval:∀i v,P i v->∃t,v=.int (val i) t)(hb:n+1 < lE) :
  ∀(k i:Nat) (s:aJ) (es:Array (Int×Value)) (ep:Nat) (t:cP),n - i=k->i<=n->St i s->s.heap.get? S=some (setO es ep t)->SetG w es t ((aY i).map val)->es.size<=i ->
   (∀s' es' ep' t',Moved (S::wr) G s s'->s'.heap.get? S=some (setO es' ep' t')->SetG w es' t' ((aY n).map val)->es'.size<=n->R (.ok (.ret .none)) s') ->
   nM (model prog w) A (.builtin "set.update.loop" ⟨[.ref S,.ref I],[]⟩) R s:=by
 have hSw:S∉wr:=fun h=>hSf (W.sub _ h)
 have hsub:∀b∈wr,b∈S::wr:=fun b hb=>aQ _ hb
 intro k
 induction k with
 | zero =>
  intro i s es ep t hk hi hst ho g hz hR;have hin:i=n:=by omega
  subst hin;refine codeAny_builtin rJ ?_;rw[iT lY _];show wpAny _ A.in1 (lF (.ref I) >>= _) _ _ s;refine aA (W.done s _ _ hst fun s' hm =>?_)
  show wpAny _ A.in1 (ret fQ) _ _ s';exact aF (hR s' es ep t (hm.mono hsub) (hm.heap S _ hSw ho) g hz)
 | succ k ih =>
  intro i s es ep t hk hi hst ho g hz hR;have hlt:i < n:=by omega
  refine codeAny_builtin rJ ?_;rw[iT lY _];show wpAny _ A.in1 (lF (.ref I) >>= _) _ _ s;refine aA (W.item i s _ _ hlt hst fun v s' hP hst' hm =>?_)
  obtain⟨u,rfl⟩:=hval i v hP;have ho':s'.heap.get? S=some (setO es ep t):=hm.heap S _ hSw ho;show wpAny _ A.in1 (kY [mJ (val i) u] (setAdd S (.int (val i) u)) >>= _) _ _ s';refine aA (eQ ?_);unfold setAdd;refine eQ ?_;refine aA ((nH prog w).pyHash (k:=val i) (intKind_is _ _ _ _) ?_);refine a1a (s:={ s' with toks:=s'.toks+1 }) (u:=u) (k:=val i) ho' g (by omega) fun h' es' ep' t' b hsb ho2 g2 hz2 =>?_
  have g3:SetG w es' t' ((aY (i+1)).map val):=by
   rw[fK,bT];exact g2
  refine aF ⟨plainId_quiet lY _,ih (i+1) _ es' ep' t' (by omega) hlt (W.frame _ s' _ _ hst' (jV _) fun b hb o e =>?_) ho2 g3 (by omega) fun s'' es'' ep'' t'' hm'' ho'' g'' hz'' =>?_⟩
  ·rw[hsb.2 b (fun h:b=S=>hSf (by rw[<-h];exact hb))];exact e
  ·refine hR s'' es'' ep'' t'' (Moved.trans W.gtrans ((hm.mono hsub).then_heap (jV _) fun b o hb e =>?_) hm'') ho'' g'' hz''
   rw[hsb.2 b (fun h:b=S=>hb (by rw[h];exact aR))];exact e
end
theorem sub_tuple_set:isSubtype (.type "tuple") (.type "set")=pure false:=by rw[isSubtype_type];kernel_rfl
theorem sub_tuple_frozenset:isSubtype (.type "tuple") (.type "frozenset")=pure false:=by rw[isSubtype_type];kernel_rfl
section
variable{prog:bI}{w:World}{A:cM}{E:Value->aJ->Prop}{s:aJ}
abbrev fresh0(w:World):Obj:=setO #[] 0 (.fresh 0 0 (!w.params.followText "set-order"))
theorem awn(a:Value){Q₁:Value->aJ->Prop}(h:Q₁ (.ref s.heap.objs.size) { s with heap:=s.heap.push (fresh0 w) }) :
  nM (model prog w) A (.call (.builtin "set.__new__") ⟨[.type "set", a],[]⟩) (wants Q₁ E) s:=by
 refine codeAny_of_tree ?_;show wpAny _ A.in1 (do checkBuiltinCall "set.__new__" ⟨[.type "set", a],[]⟩;again (.builtin "set.__new__" ⟨[.type "set", a],[]⟩)) _ _ s
 refine aA (wpAny_of_eq (F.newCall_set_1 a) (aF ⟨plainId_quiet uW _,codeAny_builtin F.entry_set_new ?_⟩));rw[iT uW _];unfold gH.«set.__new__» Builtin.Frozenset.newClass;have hsub:=sub_set_self;obtain⟨hp,g,d,tk,os⟩:=s;dsimp only;wp_walk;refine wpAny_askSetting (aF ?_);dsimp only;simp only[newObj];refine aA (wpAny_alloc (aF ?_));exact aF h
set_option maxRecDepth 100000 in
set_option maxHeartbeats 3200000 in
theorem ayp{l:Addr}{items:Array Value}{ns:List Int}{Q:Value->aJ->Prop}(hh:A.handled=none)(hl:s.heap.IsTuple l items)(hi:lX items.toList ns)(hb:items.size+1 < lE)
  (h:∀(h':Heap) (tk:Nat) es ep t,h'.get? s.heap.objs.size=some (setO es ep t)->SetG w es t ns->es.size<=items.size->(∀b o,s.heap.get? b=some o->h'.get? b=some o)->Q (.ref s.heap.objs.size) { s with heap:=h',toks:=tk }) :
  wpAny (model prog w) A (call (.type "set") [.ref l]) Q E s:=by
 obtain⟨c,tl,hmro⟩:=jC.mro;have hmade:=jC.made;have hsub:=jC.sub;refine wpAny_call (codeAny_of_tree ?_);show wpAny _ _ (callAny (.type "set") _) _ _ _;refine aF ⟨Code.quiet_builtin _ (by decide +kernel),codeAny_builtin F.entry_type_call ?_⟩
 rw[Around.under_plain (weight_type_call_type "set" [.ref l] []) rfl];have h1:=jC.notType;have h2:=jC.canCreate;have hct:=F.typeCall_set_1 (.ref l)
 repeat (any_goals (first | assumption | wp_step))
 refine codeAny_mono (awn (.ref l) (E:=E) (Q₁:=fun obj s₁=>obj=.ref s.heap.objs.size/\s₁={ s with heap:=s.heap.push (fresh0 w) }) ⟨rfl,rfl⟩) fun r s₁ hr =>?_
 cases r with
 | error e=>exact hr
 | ok fl =>
  cases fl with
  | ret obj =>
   obtain⟨rfl,rfl⟩:=hr;have hS:(s.heap.push (fresh0 w)).get? s.heap.objs.size=some (fresh0 w):=aK _ rfl;have hT:Shared.TypeIs { s with heap:=s.heap.push (fresh0 w) } (.ref s.heap.objs.size) "set" := ⟨_,hS,rfl⟩
   have hli:=jC.init.lookup;have hbi:=jC.init.bind (.ref s.heap.objs.size)
   repeat (any_goals (first | assumption | wp_step))
   refine codeAny_mono (codeAny_call_builtin (R:=wants (fun r s₂=>r=.none/\∃h' tk es ep t,s₂={ s with heap:=h',toks:=tk }/\h'.get? s.heap.objs.size=some (setO es ep t)/\SetG w es t ns/\es.size<=items.size /\
     (∀b o,s.heap.get? b=some o->h'.get? b=some o)) E) jC.init.plain F.entry_set_init (check_set_init_1 hT ?_)) fun r₂ s₂ hr₂ =>?_
   ·obtain⟨ol,hol,hcl,nl,hdl⟩:=hl;obtain⟨ocls,odict,odata,oslots⟩:=ol;simp only at hcl hdl;subst hcl;subst hdl;have hol':(s.heap.push (fresh0 w)).get? l=some { cls:=.type "tuple", dict:=odict,data:=.seq items nl,slots:=oslots }:=aB _ hol;have hsls:=sub_tuple_set;have hslf:=sub_tuple_frozenset;have hne:(iH "tuple" == iH "dict")=false:=by decide
    have hl1:(s.heap.push (fresh0 w)).IsTuple l items:=⟨_,hol',rfl,nl,rfl⟩;unfold gH.«set.__init__» noKeywords Builtin.Frozenset.updateFrom;generalize hPI:pyIter=PI;wp_walk;subst hPI;refine wpAny_pyIter_tuple hl1 ?_;refine aA (wpAny_runValue ?_);have hlS:l < s.heap.objs.size:=aP hol;have hh3:A.in1.in1.in1.handled=none:=by simp[hh]
    have hneI:l≠(s.heap.push (fresh0 w)).objs.size:=by
     rw[bD];exact bC (oO hlS)
    have hSf:s.heap.objs.size∉[(s.heap.push (fresh0 w)).objs.size,l]:=by
     rw[bD];simp only[aV,cR,dX,or_false,not_or];exact⟨Nat.ne_of_lt (iU _),fX hlS⟩
    have hval:∀(i:Nat) (v:Value),items[i]? = some v->∃t,v=.int ((fun i=>ns.getD i 0) i) t:=fun i v hv =>
     PyProof.Rows.IntsAre.int_at hi i v (by rw[mX];exact hv)
    have hlen:items.size=ns.length:=by rw[<-bB];exact hi.length
    have hns:(aY items.size).map (fun i=>ns.getD i 0)=ns:=by
     rw[hlen];apply pG
     ·simp
     ·intro i h1 h2;simp[aH,h2]
    refine avj ((sO hh3 _ l hneI items).toS) s.heap.objs.size hSf (fun i=>ns.getD i 0) hval hb (items.size - 0) 0 _ #[] 0 _ (by omega) (dJ _)
     ⟨⟨_,aK _ rfl,rfl,rfl⟩,(hl1.push _)⟩ (aB _ hS) (SetG.empty w) (dJ _) ?hR
    case hR =>
     intro s' es ep t hm ho' g' hz';rw[hns] at g';obtain⟨h',g₀,d',tk',os'⟩:=s';have eg:g₀=s.gens:=hm.gens;have ed:d'=s.drawn:=hm.drawn;have eo:os'=s.os:=hm.os;subst eg;subst ed;subst eo;show wpAny _ _ _ _ _ _;refine aF ?_;show wpAny _ _ (ret fQ) _ _ _;refine aF ⟨rfl,h',tk',es,ep,t,rfl,ho',g',hz',fun b o e =>?_⟩
     have hlt:=aP e;have hb1:b≠s.heap.objs.size:=bC hlt;have hb2:b≠(s.heap.push (fresh0 w)).objs.size:=by
      rw[bD];exact bC (oO hlt)
     exact hm.heap b o (by simp only[aV,cR,dX,or_false,not_or];exact⟨hb1,hb2⟩) (aB _ (aB _ e))
   ·cases r₂ with
    | error e=>exact hr₂
    | ok fl₂ =>
     cases fl₂ with
     | ret r =>
      obtain⟨rfl,h',tk,es,ep,t,rfl,hS',g',hz',hk'⟩:=hr₂
      repeat (any_goals (first | assumption | wp_step))
      exact h _ _ _ _ _ hS' g' hz' hk'
     | _=>exact hr₂.elim
  | _=>exact hr.elim
end
theorem agj:entryFor table "set.__iter__" = some gH.«frozenset.__iter__» :=
 entryFor_alias (id' := "frozenset.__iter__") (by kernel_rfl) rfl (by decide +kernel) (by kernel_rfl)
theorem jf:Slot "set_iterator" "__next__" "set_iterator.__next__" :=
 .of (owner := "set_iterator") (n := "__next__") (by rw[typeLookup_type,builtinLookup_eq_fast];kernel_rfl) (by decide +kernel) (by decide +kernel) (by decide +kernel)
  (by first | exact .inl (by decide +kernel) | exact .inr (by decide +kernel)) (by rw[isSubtype_type];kernel_rfl)
theorem v7:entryFor table "set_iterator.__next__" = some gH.«set_iterator.__next__» := entryFor_of_tree (by kernel_rfl)
theorem aef:Slot "set_iterator" "__iter__" "set_iterator.__iter__" :=
 .of (owner := "set_iterator") (n := "__iter__") (by rw[typeLookup_type,builtinLookup_eq_fast];kernel_rfl) (by decide +kernel) (by decide +kernel) (by decide +kernel)
  (by first | exact .inl (by decide +kernel) | exact .inr (by decide +kernel)) (by rw[isSubtype_type];kernel_rfl)
theorem ah7:entryFor table "set_iterator.__iter__" = some gH.«dict_keyiterator.__iter__» :=
 entryFor_alias (id' := "dict_keyiterator.__iter__") (by kernel_rfl) rfl (by decide +kernel) (by kernel_rfl)
theorem alq:Manifest.owners.lookup (String.ofList ['r','o','t','a','r','e','t','i','_','t','e','s'].reverse)=some Manifest.sig_set_iterator:=by kernel_rfl
theorem zm(a:Value):qT "set_iterator.__next__" ⟨[a],[]⟩:=by
 unfold qT;rw[signature?_of (id := "set_iterator.__next__") (n:=['_','_','t','x','e','n','_','_']) (o:=['r','o','t','a','r','e','t','i','_','t','e','s']) (by kernel_rfl) alq];kernel_rfl
theorem aj6(a:Value):qT "set_iterator.__iter__" ⟨[a],[]⟩:=by
 unfold qT;rw[signature?_of (id := "set_iterator.__iter__") (n:=['_','_','r','e','t','i','_','_']) (o:=['r','o','t','a','r','e','t','i','_','t','e','s']) (by kernel_rfl) alq];kernel_rfl
def IsSI(h:Heap)(I S:Addr)(first:Value)(i n ep:Nat):Prop:=∃o,h.get? I=some o/\o.cls=.type "set_iterator" /\ o.data=.fields #[first,.int i 0,.ref S,.int n 0,.int ep 0]
theorem IsSI.typeIs{s:aJ}{I S:Addr}{first:Value}{i n ep:Nat}(x:IsSI s.heap I S first i n ep):s.TypeIs (.ref I) "set_iterator" := let ⟨o,ho,hc,_⟩:=x;⟨o,ho,hc⟩
theorem IsSI.at{h h':Heap}{I S:Addr}{first:Value}{i n ep:Nat}(x:IsSI h I S first i n ep)(e:∀o,h.get? I=some o->h'.get? I=some o):IsSI h' I S first i n ep:=let ⟨o,ho,r⟩:=x;⟨o,e _ ho,r⟩
section
variable{prog:bI}{w:World}{A:cM}{E:Value->aJ->Prop}{s:aJ}
theorem akc{I S:Addr}{first:Value}{i n ep:Nat}{Q:Value->aJ->Prop}(hit:IsSI s.heap I S first i n ep)(h:Q (.ref I) s):wpAny (model prog w) A (pyIter (.ref I)) Q E s:=by
 refine wpAny_pyIter_slot hit.typeIs aef (dC aef hit.typeIs ah7 ?_ (aj6 _));show wpAny _ _ (ret (.ref I)) _ _ s;exact aF ⟨_,rfl, "set_iterator", _,hit.typeIs,jf.lookup,h⟩
theorem ao2{I S:Addr}{slot i:Nat}{es:Array (Int×Value)}{ep:Nat}{t:cP}{Q:Option Value->aJ->Prop}{x:Value}{slot':Nat}(hit:IsSI s.heap I S (.int slot 0) i es.size ep)(ho:s.heap.get? S=some (setO es ep t))(hf:t.fits es.size=true)
  (hn:∀(A':cM) (Q':Option (Value×Nat)->aJ->Prop) (E':Value->aJ->Prop),Q' (some (x,slot')) s->wpAny (model prog w) A' (oH S slot i ep) Q' E' s)
  (hQ:∀h',IsSI h' I S (.int slot' 0) (i+1) es.size ep->cH I s.heap h'->Q (some x) { s with heap:=h' }) :
  wpAny (model prog w) A (lF (.ref I)) Q E s:=by
 obtain⟨o,hI,hc,hd⟩:=id hit;unfold lF;refine aA (wpAny_attempt (cQ (name:=gJ "__next__") hit.typeIs jf
  (dC jf hit.typeIs v7 ?_ (zm _))))
 refine aA (aF ?_);refine aA (wpAny_fieldsOf hI hd ?_);dsimp only;refine aA (wpAny_setEntries_of ho rfl hf ?_);rw[if_neg (by simp)]
 simp only[aZ];refine aA (hn _ _ _ ?_);dsimp only;refine aA (gR hI hd (by simp) ?_)
 have h1:=bQ (vM (·.setIfInBounds 0 (jT (slot':Int)))) hI (iD (dB hd _));refine aA (gR h1 (dB hd _) (by simp) ?_)
 refine aF ⟨_,rfl,aF (hQ _ ?_ ((cA ..).trans (cA ..)))⟩;exact⟨_,bQ _ h1 (iD (dB (dB hd _) _)),(lL ..).trans ((lL ..).trans hc),by
  rw[dB (dB hd _)];simp[jT]⟩
theorem auo{I S:Addr}{slot i:Nat}{es:Array (Int×Value)}{ep:Nat}{t:cP}{Q:Option Value->aJ->Prop}(hh:A.handled=none)(hit:IsSI s.heap I S (.int slot 0) i es.size ep)(ho:s.heap.get? S=some (setO es ep t))(hf:t.fits es.size=true)
  (hn:∀(A':cM) (Q':Option (Value×Nat)->aJ->Prop) (E':Value->aJ->Prop),Q' none s->wpAny (model prog w) A' (oH S slot i ep) Q' E' s)
  (hQ:∀h',sY I s.heap h'->Q none { s with heap:=h' }):wpAny (model prog w) A (lF (.ref I)) Q E s:=by
 obtain⟨o,hI,hc,hd⟩:=id hit;unfold lF;refine aA (wpAny_attempt (cQ (name:=gJ "__next__") hit.typeIs jf
  (dC jf hit.typeIs v7 ?_ (zm _))))
 refine aA (aF ?_);refine aA (wpAny_fieldsOf hI hd ?_);dsimp only;refine aA (wpAny_setEntries_of ho rfl hf ?_);rw[if_neg (by simp)]
 simp only[aZ];refine aA (hn _ _ _ ?_);dsimp only;refine aA (gR hI hd (by simp) ?_)
 show wpAny _ _ (newExc (.type "StopIteration") [] >>= _) _ _ _;refine aA ?_;simp only[newExc,newTuple];refine aA (bF ?_ (by size_fits))
 refine aA (m:=firstArgMember _ _) (wpAny_of_eq (a:=fQ) (by first | rfl | (simp only[firstArgMember];rfl)) ?_)
 refine bF ?_ (by size_fits)
 simp only[raiseNew];refine aA (wpAny_handled ?_);rw[show A.in1.handled=none from hh]
 refine aA (aF (wpAny_throw ?_));refine aA (wpAny_isInstance (T := "StopIteration") (b:=true) ⟨_,aK _ rfl,rfl⟩ isSubtype_stop ?_);exact aF (hQ _ (((cA ..).extBut.push _).push _))
theorem asa{I S q:Addr}{i j m:Nat}{es:Array (Int×Value)}{ep:Nat}{t:cP}{Q:Option Value->aJ->Prop}{x:Int×Value}{ps:Array Value}(hit:IsSI s.heap I S (.ref q) i es.size ep)(ho:s.heap.get? S=some (setO es ep t))(hf:t.fits es.size=true)
  (hq:∃oq,s.heap.get? q=some oq/\oq.data=.seq ps m) (hp:ps[i]? = some (.int (j:Nat) 0)) (hx:es[j]? = some x)
  (hQ:∀h',IsSI h' I S (.ref q) (i+1) es.size ep->cH I s.heap h'->Q (some x.2) { s with heap:=h' }) :
  wpAny (model prog w) A (lF (.ref I)) Q E s:=by
 obtain⟨o,hI,hc,hd⟩:=id hit;obtain⟨oq,hoq,hdq⟩:=hq;unfold lF;refine aA (wpAny_attempt (cQ (name:=gJ "__next__") hit.typeIs jf
  (dC jf hit.typeIs v7 ?_ (zm _))))
 refine aA (aF ?_);refine aA (wpAny_fieldsOf hI hd ?_);dsimp only;refine aA (wpAny_setEntries_of ho rfl hf ?_);rw[if_neg (by simp)]
 refine aA (dF hoq hdq ?_);dsimp only;simp only[aZ,hp];unfold setNextDrawn;refine aA (aA (wpAny_setState_of ho rfl hf ?_));dsimp only;rw[if_neg (by simp)]
 rw[hx];refine aF ?_;refine aA (gR hI hd (by simp) ?_)
 refine aF ⟨_,rfl,aF (hQ _ ?_ (cA ..))⟩;exact⟨_,bQ _ hI (iD (dB hd _)),(lL ..).trans hc,by
  rw[dB hd];simp[jT]⟩
theorem ail{I S q:Addr}{i m:Nat}{es:Array (Int×Value)}{ep:Nat}{t:cP}{Q:Option Value->aJ->Prop}{ps:Array Value}(hh:A.handled=none)(hit:IsSI s.heap I S (.ref q) i es.size ep)(ho:s.heap.get? S=some (setO es ep t))(hf:t.fits es.size=true)
  (hq:∃oq,s.heap.get? q=some oq/\oq.data=.seq ps m) (hp:ps[i]? = none)
  (hQ:∀h',sY I s.heap h'->Q none { s with heap:=h' }):wpAny (model prog w) A (lF (.ref I)) Q E s:=by
 obtain⟨o,hI,hc,hd⟩:=id hit;obtain⟨oq,hoq,hdq⟩:=hq;unfold lF;refine aA (wpAny_attempt (cQ (name:=gJ "__next__") hit.typeIs jf
  (dC jf hit.typeIs v7 ?_ (zm _))))
 refine aA (aF ?_);refine aA (wpAny_fieldsOf hI hd ?_);dsimp only;refine aA (wpAny_setEntries_of ho rfl hf ?_);rw[if_neg (by simp)]
 refine aA (dF hoq hdq ?_);dsimp only;simp only[aZ,hp];refine aA (gR hI hd (by simp) ?_)
 have h1:=bQ (vM (·.setIfInBounds 0 (jT 0))) hI (iD (dB hd _));refine aA (gR h1 (dB hd _) (by simp) ?_)
 show wpAny _ _ (newExc (.type "StopIteration") [] >>= _) _ _ _;refine aA ?_;simp only[newExc,newTuple];refine aA (bF ?_ (by size_fits))
 refine aA (m:=firstArgMember _ _) (wpAny_of_eq (a:=fQ) (by first | rfl | (simp only[firstArgMember];rfl)) ?_)
 refine bF ?_ (by size_fits)
 simp only[raiseNew];refine aA (wpAny_handled ?_);rw[show A.in1.handled=none from hh]
 refine aA (aF (wpAny_throw ?_));refine aA (wpAny_isInstance (T := "StopIteration") (b:=true) ⟨_,aK _ rfl,rfl⟩ isSubtype_stop ?_);exact aF (hQ _ ((((cA ..).trans (cA ..)).extBut.push _).push _))
end
section
variable{prog:bI}{w:World}{A:cM}{E:Value->aJ->Prop}{s:aJ}
theorem af9{Q:Bool->aJ->Prop}(h:Q (w.params.followText "set-order") s):wpAny (model prog w) A setsByText Q E s:=by
 unfold setsByText;exact aA (wpAny_askSetting (aF h))
theorem anl{S:Addr}{slot g i j:Nat}{es:Array (Int×Value)}{ep:Nat}{t:cP}{e:Int×Value}{Q:Option (Value×Nat)->aJ->Prop}(ho:s.heap.get? S=some (setO es ep t))(hf:t.fits es.size=true)
  (hw:w.params.followText "set-order" = false) (hd:(!t.plain&&decide (es.size > 1))=false) (hl:t.led=true) (hb:eN t.place slot=i) (he:es[i]? = some e) (hp:t.place[i]? = some j)
  (h:Q (some (e.2,j+1)) s):wpAny (model prog w) A (oH S slot g ep) Q E s:=by
 unfold oH;refine aA (wpAny_setState_of ho rfl hf ?_);dsimp only;refine aA (af9 ?_);rw[hw,if_neg (by simp)]
 show wpAny _ _ (if (!t.plain&&decide (es.size > 1))=true then _ else _) _ _ _
 rw[hd,if_neg (by simp)]
 refine aA (m:=if (!t.led && !es.isEmpty)=true then _ else _) ?_
 rw[hl,if_neg (by simp)]
 refine aF ?_;rw[hb,he,hp];exact aF h
theorem apn{S:Addr}{slot g i:Nat}{es:Array (Int×Value)}{ep:Nat}{t:cP}{Q:Option (Value×Nat)->aJ->Prop}(ho:s.heap.get? S=some (setO es ep t))(hf:t.fits es.size=true)
  (hw:w.params.followText "set-order" = false) (hd:(!t.plain&&decide (es.size > 1))=false) (hl:t.led=true) (hb:eN t.place slot=i) (he:es[i]? = none)
  (h:Q none s):wpAny (model prog w) A (oH S slot g ep) Q E s:=by
 unfold oH;refine aA (wpAny_setState_of ho rfl hf ?_);dsimp only;refine aA (af9 ?_);rw[hw,if_neg (by simp)]
 show wpAny _ _ (if (!t.plain&&decide (es.size > 1))=true then _ else _) _ _ _
 rw[hd,if_neg (by simp)]
 refine aA (m:=if (!t.led && !es.isEmpty)=true then _ else _) ?_
 rw[hl,if_neg (by simp)]
 refine aF ?_;rw[hb,he];exact aF h
theorem ai9{S:Addr}{slot g:Nat}{es:Array (Int×Value)}{ep:Nat}{t:cP}{Q:Option (Value×Nat)->aJ->Prop}(ho:s.heap.get? S=some (setO es ep t))(hf:t.fits es.size=true)
  (hw:w.params.followText "set-order" = true) (h:Q (((jD (w.params.setOrder S ep) es)[g]?).map fun e=>(e.2,slot)) s):wpAny (model prog w) A (oH S slot g ep) Q E s:=by
 unfold oH;refine aA (wpAny_setState_of ho rfl hf ?_);dsimp only;refine aA (af9 ?_);rw[hw,if_pos rfl,if_neg (by simp)]
 unfold setWalk;refine aA (aA (wpAny_setState_of ho rfl hf ?_));dsimp only;refine aA (af9 ?_);rw[hw,if_pos rfl];exact aA (wpAny_askSetting (aF (aF h)))
theorem ad7{α:Type}:∀(l:List α) (i:Nat) (x:α),l[i]? = some x->(x::l.eraseIdx i).Perm l
 | [],i,x,h=>by simp at h
 | a::r,0,x,h=>by simp at h;subst h;exact .refl _
 | a::r,i+1,x,h=>by
  rw[List.getElem?_cons_succ] at h;exact(List.Perm.swap a x _).trans ((ad7 r i x h).cons a)
theorem apc{α:Type}(next:Nat->Nat):∀(fuel k:Nat) (left:List α) (out:Array α),left.length=fuel->(jD.go next fuel k left out).toList.Perm (out.toList++left)
 | 0,k,left,out,h=>by
  have:left=[]:=rH.mp h;subst this;show out.toList.Perm _;simp
 | fuel+1,k,left,out,h=>by
  have hlt:next k % left.length < left.length:=Nat.mod_lt _ (by omega)
  unfold jD.go;have hx:left[next k % left.length]? = some left[next k % left.length]:=aC hlt;rw[hx];dsimp only;have hlen:(left.eraseIdx (next k % left.length)).length=fuel:=by rw[qG hlt];omega
  refine(apc next fuel (k+1) _ _ hlen).trans ?_;rw[uG,lM];exact List.Perm.append_left _ (ad7 _ _ _ hx)
theorem ae7{α:Type}(next:Nat->Nat)(xs:Array α):(jD next xs).toList.Perm xs.toList:=by
 have:=apc next xs.size 0 xs.toList #[] (by simp)
 simpa[jD] using this
theorem agx:∀(n:Nat) {α:Type} (xs:List α) (s:aJ) (Q:List α->aJ->Prop),xs.length=n->(∀ys d,ys.Perm xs->Q ys { s with drawn:=d })->wpAny (model prog w) A (drawOrder n xs) Q E s
 | 0,α,xs,s,Q,h,q=>by
  have:xs=[]:=rH.mp h;subst this;exact aF (q [] s.drawn (.refl _))
 | n+1,α,[],s,Q,h,q=>by cases h
 | n+1,α,x::r,s,Q,h,q=>by
  unfold drawOrder;intro Γ p hΓ;show(x::r).length≠0/\_;refine⟨by simp,?_⟩
  revert Γ p hΓ
  show wpAny _ _ (match (x::r)[(model prog w).w.draws .order (s.drawn.get .order) % (x::r).length]? with | some y=>_ | none=>_) _ _ _
  have hlt:(model prog w).w.draws .order (s.drawn.get .order) % (x::r).length < (x::r).length:=Nat.mod_lt _ (by simp)
  have hx:=aC hlt;rw[hx];refine aA (agx n _ _ _ (by rw[qG hlt];simpa using h) fun ys d hp =>?_)
  exact aF (q _ _ ((hp.cons _).trans (ad7 _ _ _ hx)))
end
def PW(ord:Array (Int×Value))(i:Nat)(v:Value):Prop:=∃e,ord[i]? = some e/\v=e.2
theorem akd{h h':Heap}{I S:Addr}{o:Obj}(hne:S≠I)(ho:h.get? S=some o)(hs:cH I h h'):h'.get? S=some o:=(hs.2 S hne).trans ho
theorem aqi{t:cP}{n:Nat}(h:t.fits n=true):t.place.size=n:=by
 unfold SetTable.fits at h;rw[bA] at h;exact eq_of_beq h.1
section
variable{prog:bI}{w:World}{A:cM}
theorem ar3(hh:A.handled=none)(I S:Addr)(hne:S≠I){es:Array (Int×Value)}{ep:Nat}{t:cP}(hf:t.fits es.size=true)(hw:w.params.followText "set-order" = true) :
  Walks prog w A I [I,S] [I] es.size (PW (jD (w.params.setOrder S ep) es)) (fun i h=>IsSI h I S (.int (0:Nat) 0) i es.size ep/\h.get? S=some (setO es ep t)) where
 sub:=fun b hb=>by simp at hb;simp[hb]
 frame:=fun _ _ _ st hk=>⟨st.1.at fun o e=>hk I (by simp) o e,hk S (by simp) _ st.2⟩
 item:=fun i s Q E hi st hQ=>by
  have hsz:(jD (w.params.setOrder S ep) es).size=es.size:=by rw[<-bB,(ae7 _ _).length_eq,bB]
  have hx:(jD (w.params.setOrder S ep) es)[i]? = some (jD (w.params.setOrder S ep) es)[i]:=by simp[hsz,hi]
  refine ao2 (x:=((jD (w.params.setOrder S ep) es)[i]).2) (slot':=0) st.1 st.2 hf (fun A' Q' E' q=>ai9 st.2 hf hw (by rw[hx];exact q)) fun h' hit' hs' =>?_
  exact hQ _ h' s.toks ⟨_,hx,rfl⟩ ⟨hit',akd hne st.2 hs'⟩ fun b o hb e=>hs'.extBut b o (fun h=>hb (by simp[h])) e
 done:=fun s Q E st hQ=>by
  have hsz:(jD (w.params.setOrder S ep) es).size=es.size:=by rw[<-bB,(ae7 _ _).length_eq,bB]
  refine auo hh st.1 st.2 hf (fun A' Q' E' q=>ai9 st.2 hf hw (by rw[rP (by omega)];exact q)) fun h' he'=>hQ h' s.toks fun b o hb e=>he' b o (fun h=>hb (by simp[h])) e
 self:=fun _ _ _ _ st hQ=>akc st.1 hQ
theorem aol(hh:A.handled=none)(I S:Addr)(hne:S≠I){es:Array (Int×Value)}{ep:Nat}{t:cP}(hf:t.fits es.size=true)(hw:w.params.followText "set-order" = false)(hr:Rise t)(hd:(!t.plain&&decide (es.size > 1))=false)(hl:t.led=true) :
  Walks prog w A I [I,S] [I] es.size (PW es) (fun i h=>(∃slot:Nat,eN t.place slot=i/\IsSI h I S (.int slot 0) i es.size ep)/\h.get? S=some (setO es ep t)) where
 sub:=fun b hb=>by simp at hb;simp[hb]
 frame:=fun _ _ _ ⟨⟨slot,hb,st⟩,ho⟩ hk=>⟨⟨slot,hb,st.at fun o e=>hk I (by simp) o e⟩,hk S (by simp) _ ho⟩
 item:=fun i s Q E hi ⟨⟨slot,hb,st⟩,ho⟩ hQ=>by
  have hx:es[i]? = some es[i]:=by simp[hi]
  have hps:=aqi hf;have hp:t.place[i]? = some (t.place[i]):=by simp[hps,hi]
  refine ao2 (x:=(es[i]).2) (slot':=t.place[i]+1) st ho hf (fun A' Q' E' q=>anl ho hf hw hd hl hb hx hp q) fun h' hit' hs' =>?_
  exact hQ _ h' s.toks ⟨_,hx,rfl⟩ ⟨⟨_,aob hr hp,hit'⟩,akd hne ho hs'⟩ fun b o hb e=>hs'.extBut b o (fun h=>hb (by simp[h])) e
 done:=fun s Q E ⟨⟨slot,hb,st⟩,ho⟩ hQ=>by
  refine auo hh st ho hf (fun A' Q' E' q=>apn ho hf hw hd hl hb (rP (aL _)) q) fun h' he'=>hQ h' s.toks fun b o hb e=>he' b o (fun h=>hb (by simp[h])) e
 self:=fun _ _ _ _ ⟨⟨slot,hb,st⟩,ho⟩ hQ=>akc st hQ
theorem aom(hh:A.handled=none)(I S q:Addr)(hne:S≠I)(hq:q≠I){es:Array (Int×Value)}{ep:Nat}{t:cP}(hf:t.fits es.size=true)(js:List Nat)(hj:js.Perm (aY es.size)) :
  Walks prog w A I [I,S,q] [I] es.size (PW (js.map fun j=>es.getD j (0,.none)).toArray) (fun i h=>IsSI h I S (.ref q) i es.size ep/\h.get? S=some (setO es ep t)/\∃oq m,h.get? q=some oq/\oq.data=.seq (js.map fun(j:Nat)=>jT j).toArray m) where
 sub:=fun b hb=>by simp at hb;simp[hb]
 frame:=fun _ _ _ ⟨st,ho,oq,m,h1,h2⟩ hk=>⟨st.at fun o e=>hk I (by simp) o e,hk S (by simp) _ ho,oq,m,hk q (by simp) _ h1,h2⟩
 item:=fun i s Q E hi ⟨st,ho,oq,m,h1,h2⟩ hQ=>by
  have hlen:js.length=es.size:=by rw[hj.length_eq,cF]
  have hjlt:js[i] < es.size:=cW.mp (hj.mem_iff.mp (bO (by omega)))
  have hx:es[js[i]]? = some es[js[i]]:=by simp[hjlt]
  refine asa (j:=js[i]) (x:=es[js[i]]) st ho hf ⟨oq,h1,h2⟩ (by simp[hlen,hi,jT]) hx fun h' hit' hs' =>?_
  refine hQ _ h' s.toks ⟨es[js[i]],?_,rfl⟩ ⟨hit',akd hne ho hs',oq,m,(hs'.2 q hq).trans h1,h2⟩ fun b o hb e=>hs'.extBut b o (fun h=>hb (by simp[h])) e
  simp[hlen,hi,uH,hjlt]
 done:=fun s Q E ⟨st,ho,oq,m,h1,h2⟩ hQ=>by
  have hlen:js.length=es.size:=by rw[hj.length_eq,cF]
  refine ail hh st ho hf ⟨oq,h1,h2⟩ (by simp[hlen]) fun h' he'=>hQ h' s.toks fun b o hb e=>he' b o (fun h=>hb (by simp[h])) e
 self:=fun _ _ _ _ st hQ=>akc st.1 hQ
variable{E:Value->aJ->Prop}{s:aJ}
theorem ao3{S:Addr}{es:Array (Int×Value)}{ep:Nat}{t:cP}{Q:Bool->aJ->Prop}(ho:s.heap.get? S=some (setO es ep t))(hf:t.fits es.size=true)(h:Q (!w.params.followText "set-order" && (!t.plain&&decide (es.size > 1))) s) :
  wpAny (model prog w) A (setDrawn S) Q E s:=by
 unfold setDrawn;refine aA (wpAny_setState_of ho rfl hf ?_);dsimp only;refine aA (af9 ?_);exact aF h
theorem asd{S:Addr}{es:Array (Int×Value)}{ep:Nat}{t:cP}{ns:List Int}{Q:Value->aJ->Prop}(ho:s.heap.get? S=some (setO es ep t))(G:SetG w es t ns)(hb:es.size < lE)
  (h:∀(I:Addr) (fp:List Addr) (St:Nat->Heap->Prop) (ord:Array (Int×Value)) (s':aJ),(∀A':cM,A'.handled=none->Walks prog w A' I fp [I] es.size (PW ord) St)->St 0 s'.heap->ord.toList.Perm es.toList ->
   s.heap.objs.size<=I->(∀b∈fp,b=S∨s.heap.objs.size<=b)->(∀b o,s.heap.get? b=some o->s'.heap.get? b=some o)->s'.gens=s.gens->s'.os=s.os->s'.toks=s.toks->Q (.ref I) s') :
  wpAny (model prog w) A (pyIter (.ref S)) Q E s:=by
 have hT:s.TypeIs (.ref S) "set" := ⟨_,ho,rfl⟩;have hSlt:S < s.heap.objs.size:=aP ho;refine wpAny_pyIter_slot hT uV (dC uV hT agj ?_ (F.args_set_iter_1 _));show wpAny _ _ (pure S >>= _) _ _ s;refine aA (aF ?_);unfold Builtin.Frozenset.sizeOf;refine aA (aA (wpAny_setEntries_of ho rfl G.fit (aF ?_)));refine aA (ao3 ho G.fit ?_);cases hw:w.params.followText "set-order" with
 | true =>
  rw[Bool.not_true,qR,if_neg (by simp)]
  refine aA (aF ?_);refine aA (wpAny_setEpoch_of ho rfl G.fit ?_);refine aA (bF (aF ⟨_,rfl, "set_iterator", _,⟨_,aK _ rfl,rfl⟩,jf.lookup,?_⟩));refine h s.heap.objs.size [s.heap.objs.size,S] _ _ _ (fun A' hh=>ar3 hh _ S (bC hSlt) G.fit hw) ⟨⟨_,aK _ rfl,rfl,rfl⟩,aB _ ho⟩ (ae7 _ _) (aL _) (fun b hb =>?_) (fun b o e=>aB _ e) rfl rfl rfl
  simp only[aV,dX,or_false] at hb;rcases hb with rfl | rfl
  ·exact .inr (aL _)
  ·exact .inl rfl
 | false =>
  have hl:t.led=true:=by
   have:=G.kept.2;rw[hw] at this;exact this
  cases hd:(!t.plain&&decide (es.size > 1)) with
  | false =>
   rw[vH,if_neg (by simp)]
   refine aA (aF ?_);refine aA (wpAny_setEpoch_of ho rfl G.fit ?_);refine aA (bF (aF ⟨_,rfl, "set_iterator", _,⟨_,aK _ rfl,rfl⟩,jf.lookup,?_⟩));refine h s.heap.objs.size [s.heap.objs.size,S] _ _ _ (fun A' hh=>aol hh _ S (bC hSlt) G.fit hw G.kept.1 hd hl) ⟨⟨0,aoa G.kept.1,_,aK _ rfl,rfl,rfl⟩,aB _ ho⟩ (.refl _) (aL _) (fun b hb =>?_) (fun b o e=>aB _ e) rfl rfl rfl
   simp only[aV,dX,or_false] at hb;rcases hb with rfl | rfl
   ·exact .inr (aL _)
   ·exact .inl rfl
  | true =>
   rw[Bool.not_false,oG,if_pos rfl];refine aA (agx _ (aY es.size) _ _ cF fun js d hj =>?_)
   have hlen:js.length=es.size:=by rw[hj.length_eq,cF]
   simp only[newTuple];refine aA (bF ?_ (by show(js.map fun(i:Nat)=>jT i).toArray.size<=bV;rw[aN,aD,hlen];exact fits_of_scanBound hb))
   refine aA (wpAny_setEpoch_of (aB _ ho) rfl G.fit ?_);refine aA (bF (aF ⟨_,rfl, "set_iterator", _,⟨_,aK _ rfl,rfl⟩,jf.lookup,?_⟩));have hq:∀o:Obj,s.heap.objs.size≠(s.heap.push o).objs.size:=fun o=>by rw[bD];exact bC (iU _)
   have hS2:∀o:Obj,S≠(s.heap.push o).objs.size:=fun o=>by rw[bD];exact bC (oO hSlt)
   refine h _ _ _ _ _ (fun A' hh=>aom hh _ S s.heap.objs.size (hS2 _) (hq _) G.fit js hj) ⟨⟨_,aK _ rfl,rfl,rfl⟩,aB _ (aB _ ho),_,_,aB _ (aK _ rfl),rfl⟩ ?_ ?_ (fun b hb =>?_) (fun b o e=>aB _ (aB _ e)) rfl rfl rfl
   ·refine(hj.map _).trans ?_;have e:(aY es.size).map (fun j=>es.getD j (0,fQ))=es.toList:=by
     apply pG
     ·simp
     ·intro i h1 h2;have h3:i < es.size:=by simpa using h2
      simp[uH,h3]
    rw[e]
   ·rw[bD];exact jV _
   ·simp only[aV,dX,or_false] at hb;rcases hb with rfl | rfl | rfl
    ·right;rw[bD];exact jV _
    ·exact .inl rfl
    ·exact .inr (aL _)
end
theorem agb:typeLookup (.type "set") "__len__" = pure (some (.builtin "set.__len__")):=by rw[typeLookup_type,builtinLookup_eq_fast];kernel_rfl
theorem aek:∀{es:List (Int×Value)},(∀e∈es,Ent e)->lX (es.map (·.2)) (es.map keyE)
 | [],_=>.nil
 | e::r,h=>by
  obtain⟨k,u,he⟩:=h e (aR ..);subst he;exact .cons k u (aek fun e he=>h e (aQ _ he))
theorem ap3{ord:Array (Int×Value)}{acc:Array Value}{n:Nat}(h:ItemsOf (PW ord) acc n)(hn:ord.size=n):acc.toList=ord.toList.map (·.2):=by
 apply pG
 ·rw[aD,bB,bB,h.1,hn]
 ·intro i h1 h2;obtain⟨e,he,hv⟩:=h.2 i acc.toList[i] (by rw[<-mX];exact aC h1)
  rw[hv,List.getElem_map];rw[<-mX] at he;have h3:i < ord.toList.length:=by simpa using h2
  rw[aC h3] at he;cases he;rfl
theorem aoz{h:Heap}{a:Addr}{xs:Array Value}{n:Nat}(ho:h.get? a=some (seqObj "list" xs n))(vs:List Value)(out:Array Value):∃m,(sortedHeap h a vs out).get? a=some (seqObj "list" out m) :=
 ⟨_,get?_update_seq (aB _ (aB _ (get?_update_seq ho (fun _ => #[])))) (fun _=>out)⟩
theorem am7{h:Heap}{a b:Addr}{o:Obj}{vs:List Value}{out:Array Value}(e:h.get? b=some o)(hb:b≠a):(sortedHeap h a vs out).get? b=some o :=
 (eG _ _ (iR hb)).trans (aB _ (aB _ ((eG _ _ (iR hb)).trans e)))
section
variable{prog:bI}{w:World}{A:cM}{E:Value->aJ->Prop}{s:aJ}
theorem ala{S:Addr}{es:Array (Int×Value)}{ep:Nat}{t:cP}{ns:List Int}{Q:List Value->aJ->Prop}(hh:A.handled=none)(ho:s.heap.get? S=some (setO es ep t))(G:SetG w es t ns)(hb:es.size < lE)
  (hQ:∀(s':aJ) (acc:List Value) (ks:List Int),s.heap.objs.size < s'.heap.objs.size->(∀b o,s.heap.get? b=some o->s'.heap.get? b=some o)->s'.gens=s.gens->s'.os=s.os->lX acc ks->ks.Perm (es.toList.map keyE)->Q acc s') :
  wpAny (model prog w) A (collect (.ref S)) Q E s:=by
 have hSlt:S < s.heap.objs.size:=aP ho;unfold collect;refine aA (wpAny_runValue (codeAny_builtin F.entry_proto_collect ?_));rw[iT F.plain_proto_collect _];show wpAny _ A.in1 (newList [] >>= fun l=>again (.builtin "list.__iadd__" ⟨[l,.ref S],[]⟩)) _ _ s
 refine aA (bF ?_);refine aF ⟨plainId_quiet uE _,codeAny_builtin F.entry_list_iadd ?_⟩;rw[iT uE _];have ho1:(s.heap.push { cls:=.type "list", data:=.seq ([]:List Value).toArray }).get? S=some (setO es ep t):=aB _ ho;have hL:(s.heap.push { cls:=.type "list", data:=.seq ([]:List Value).toArray }).get? s.heap.objs.size=some { cls:=.type "list", data:=.seq ([]:List Value).toArray }:=aK _ rfl;have hold:∀b o,s.heap.get? b=some o->(s.heap.push { cls:=.type "list", data:=.seq ([]:List Value).toArray }).get? b=some o:=fun b o e=>aB _ e
 have hsz1:(s.heap.push { cls:=.type "list", data:=.seq ([]:List Value).toArray }).objs.size=s.heap.objs.size+1:=bD _ _;show wpAny _ A.in1 (qF (.ref s.heap.objs.size) (.ref S) (.ref s.heap.objs.size)) _ _ { s with heap:=s.heap.push { cls:=.type "list", data:=.seq ([]:List Value).toArray } }
 generalize s.heap.push { cls:=.type "list", data:=.seq ([]:List Value).toArray }=H1 at ho1 hL hold hsz1 ⊢
 unfold qF;refine aA (wpAny_typeOf (T := "set") ⟨_,ho1,rfl⟩ ?_);have h1:qZ (.ref s.heap.objs.size) (.ref S)=false:=by simp[qZ,fX hSlt]
 have h2:(iH "set" == iH "list")=false:=by decide
 have h3:(iH "set" == iH "tuple")=false:=by decide
 simp only[h1,h2,h3,vR,iB,if_false];refine aA (asd (s:={ s with heap:=H1 }) ho1 G hb fun I fp St ord s2 W hst hord hI hfp hk2 hg2 ho2 ht2 =>?_)
 have hSs:s2.heap.get? S=some (setO es ep t):=hk2 _ _ ho1;have hLs:s2.heap.get? s.heap.objs.size=some { cls:=.type "list", data:=.seq ([]:List Value).toArray }:=hk2 _ _ hL;refine aA (eQ ?_);unfold Builtin.List.listLengthHint;refine aA (wpAny_specialOf (T := "set") ⟨_,hSs,rfl⟩ agb ?_);generalize hid:("set.__len__" : String)=id0
 wp_delta
 rw[show splitId id0=some ("set","__len__") from by subst hid;decide +kernel]
 subst hid;refine aA (wpAny_isInstance (T := "set") (b:=true) ⟨_,hSs,rfl⟩ (by rw[isSubtype_type];kernel_rfl) ?_)
 show wpAny _ A.in1 (typeOf (fJ S) >>= _) _ _ _;refine aA (wpAny_typeOf (T := "set") ⟨_,hSs,rfl⟩ ?_);refine aF ?_;rw[if_pos (by decide)]
 refine aA (gU ?_);refine aA ?_;show wpAny _ A.in1 (updateSeq s.heap.objs.size (·.push .none) >>= fun _=>updateSeq s.heap.objs.size (·.pop)) _ _ _
 refine aA (wpAny_updateSeq hLs rfl ?_);have hS₂:=bQ (fW (·.push fQ)) hLs rfl;refine wpAny_updateSeq hS₂ rfl ?_;have hS₃:=bQ (fW (·.pop)) hS₂ rfl;have oth:∀b o,b≠s.heap.objs.size->s2.heap.get? b=some o ->
   ((s2.heap.update s.heap.objs.size (fW (·.push fQ))).update s.heap.objs.size (fW (·.pop))).get? b=some o :=
  fun b o hb e=>(eG _ _ (iR hb)).trans ((eG _ _ (iR hb)).trans e)
 have hSf:s.heap.objs.size∉fp:=fun hm=>by
  rcases hfp _ hm with e | e
  ·exact fX hSlt e
  ·have e':s.heap.objs.size+1<=s.heap.objs.size:=hsz1▸e;exact Nat.not_succ_le_self _ e'
 have hIne:s.heap.objs.size+1<=I:=hsz1▸hI;refine aF ⟨plainId_quiet F.plain_extend_loop _,codeAny_extend_loopS (W A.in1 hh).toS (fits_of_scanBound hb) _ hSf _ es.size 0 _ _ _ rfl (dJ _)
  ((W A.in1 hh).frame 0 s2.heap _ hst fun b hb o e=>oth b o (fun h=>hSf (h▸hb)) e) hS₃ (ItemsOf.nil _) fun s' acc' c' hm hS' hacc =>?_⟩
 show wpAny _ A (load s.heap.objs.size >>= _) _ _ s';refine aA (wpAny_load hS' ?_);have hosz:ord.size=es.size:=by rw[<-bB,hord.length_eq,bB]
 have hacc':=ap3 hacc hosz;refine aF (hQ s' acc'.toList (ord.toList.map keyE) (aP hS') (fun b o e =>?_) (hm.gens.trans hg2) (hm.os.trans ho2) ?_ (hord.map _))
 ·have hlt:=aP e;refine hm.heap b o (fun hb =>?_) (oth b o (bC hlt) (hk2 b o (hold b o e)))
  simp only[aV,dX,or_false] at hb;rcases hb with rfl | rfl
  ·exact jE _ hlt
  ·exact absurd hlt (Nat.not_lt.mpr (cC (jV _) hIne))
 ·rw[hacc'];exact aek fun e he=>G.ent e (hord.mem_iff.mp he)
set_option maxHeartbeats 1000000 in
theorem am6{S:Addr}{es:Array (Int×Value)}{ep:Nat}{t:cP}{ns:List Int}{Q:Value->aJ->Prop}(hh:A.handled=none)(ho:s.heap.get? S=some (setO es ep t))(G:SetG w es t ns)(h64:es.size < 64)
  (h:∀(s':aJ) (a:Addr) (out:Array Value) (m:Nat) (ns':List Int),s.heap.objs.size<=a->(∀b o,s.heap.get? b=some o->s'.heap.get? b=some o)->s'.gens=s.gens->s'.os=s.os->s'.heap.get? a=some (seqObj "list" out m) ->
   lX out.toList ns'->ns'.Perm (es.toList.map keyE)->ns'.Pairwise (· <= ·)->Q (.ref a) s') :
  wpAny (model prog w) A (call (.builtin "sorted") [.ref S]) Q E s:=by
 refine Calls.call_function_entry kind_sorted plain_sorted entry_sorted (args_sorted1 _) ?_;unfold gH.«sorted»
 refine aA (m:=checkCount "sorted" 1 1 _) (aF ?_);refine aA (ala hh ho G (by unfold lE;omega) fun s1 acc ks hlt1 hk hg hos hI hp =>?_)
 have hlen:acc.length=es.size:=by rw[hI.length,hp.length_eq,aD,bB]
 refine aA (wpAny_newList ?_);have hoL:(s1.heap.push (seqObj "list" acc.toArray 0)).get? s1.heap.objs.size=some (seqObj "list" acc.toArray 0):=aK _ rfl;show wpAny _ _ _ _ _ { s1 with heap:=s1.heap.push (seqObj "list" acc.toArray 0) }
 refine aA (eQ (dC slot_list_sort ⟨_,hoL,rfl⟩ entry_list_sort (list_sort_tree hoL hI (by omega) fun out ns' a1 a2 a3=>⟨_,rfl,?_⟩) (args_list_sort _)))
 obtain⟨m,hm⟩:=aoz hoL acc out;refine aF ⟨_,rfl,?_⟩;refine h _ s1.heap.objs.size out m ns' (kE hlt1) ?_ hg hos hm a1 (a2.trans hp) a3;intro b o e;exact am7 (aB _ (hk b o e)) (bC (jL (aP e) hlt1))
end
end Stt
namespace Dn
open L2 Mn
def dedI:List Int->List Int
 | []=>[]
 | x::r=>if r.contains x then dedI r else x::dedI r
theorem ac9:∀(l:List Int) (x:Int),x∈dedI l↔x∈l
 | [],x=>.rfl
 | y::r,x=>by
  unfold dedI;split
  ·rename_i h;rw[ac9 r x,aV];exact⟨.inr,fun z=>z.elim (fun e=>e▸List.contains_iff_mem.mp h) id⟩
  ·rw[aV,aV,ac9 r x]
theorem abr:∀l:List Int,(dedI l).Nodup
 | []=>oV
 | y::r=>by
  unfold dedI;split
  ·exact abr r
  ·rename_i h;exact oE (fun z hz e=>h (List.contains_iff_mem.mpr (e▸(ac9 r z).mp hz))) (abr r)
theorem ach:∀l:List Int,(dedI l).length<=l.length
 | []=>aL _
 | y::r=>by
  unfold dedI;have:=ach r;split
  ·simp only[dY];omega
  ·simp only[dY];omega
theorem ac2:∀{a b:List Int},a.Nodup->b.Nodup->(∀x,x∈a↔x∈b)->a.Perm b
 | [],b,_,_,h=>by
  cases b with
  | nil=>exact .refl _
  | cons y r=>exact absurd ((h y).mpr (aR ..)) (dX)
 | x::r,b,ha,hb,h=>by
  have hx:x∈b:=(h x).mp (aR ..);have hp:=List.perm_cons_erase hx;refine(List.Perm.cons x (ac2 (rW ha) (hb.erase x) fun y =>?_)).trans hp.symm
  rw[hb.mem_erase_iff];have hxr:x∉r:=fun z=>(fC.mp ha).1 x z rfl
  constructor
  ·intro hy;exact⟨fun e=>hxr (e▸hy),(h y).mp (aQ _ hy)⟩
  ·rintro⟨hne,hy⟩
   exact(aV.mp ((h y).mpr hy)).resolve_left hne
def setI(ns:List Int):List Int:=sortI (dedI ns)
section
variable{K:Fg9}{X:Cx}{e a b c:Expr}{es:List Expr}{pos p p2:Pos}
def SetH(w:World)(a:Addr)(ns:List Int):Heap->Prop:=fun h=>∃es ep t,h.get? a=some (Stt.setO es ep t)/\Stt.SetG w es t ns/\es.size<=ns.length
def a3l(w:World):List V->Hp->VK->Prop:=fun vs H Q=>∃p ns,vs=[.ref p]/\H p=some (.tup (ns.map V.int))/\ns.length < 4000/\∀a,H a=none->Q (.ref a) (upd H a (.ext (SetH w a ns)))
theorem aue(hc:X.calm=true):ab6 X (.type "set") (a3l X.w):=by
 intro zv s σ H xs us Q I r ⟨p,ns,hv,hp,hz,q⟩;subst hv;obtain⟨u,rfl,ru⟩:=vals1 r;cases ru;obtain⟨its,rv,pt,_⟩:=I.tuple (SqT.of hp);have hlen:=rv.length;rw[aD] at hlen;refine Stt.ayp (I.ok.hd hc) pt (intsAre_of rv) (by rw[aN];unfold lE;omega) fun h' tk es ep t ho g hsz hk =>?_
 have hn:H s.heap.objs.size=none:=I.hok.fresh (aL _);refine⟨.ref s.heap.objs.size,_,I.laid hk (aL _) ?_,rfl,q _ hn⟩;refine⟨⟨es,ep,t,ho,g,?_⟩,⟨_,ho⟩,fun h1 h2 ⟨es,ep,t,z,g,zz⟩ k=>⟨es,ep,t,k _ z,g,zz⟩⟩
 have hsz':es.size<=its.length:=by simpa using hsz
 omega
def rcSS(w:World):List V->Hp->VK->Prop:=fun vs H Q=>∃a ns,vs=[.ref a]/\H a=some (.ext (SetH w a ns))/\ns.length < 64/\∀b,H b=none->Q (.ref b) (upd H b (.lst ((setI ns).map V.int)))
theorem axy(hc:X.calm=true):ab6 X (.builtin "sorted") (rcSS X.w):=by
 intro zv s σ H xs us Q I r ⟨a,ns,hv,ha,hz,q⟩;subst hv;obtain⟨u,rfl,ru⟩:=vals1 r;cases ru;obtain⟨⟨es,ep,t,ho,g,hsz⟩,_⟩:=I.hok a _ ha;refine Stt.am6 (I.ok.hd hc) ho g (by omega) fun s' b out m ns' hb hk hg hos hob hI hp hs =>?_
 have hn:H b=none:=I.hok.fresh hb;have e':ns'=setI ns:=ar9 (hp.trans (ac2 g.nd (abr ns) fun k=>by rw[g.mem k,ac9])) hs
 subst e';obtain⟨h',g',d',tk',os'⟩:=s';subst hg;subst hos;have I1:Inv X zv σ (upd H b (.lst ((setI ns).map V.int))) { s with heap:=h',toks:=tk' }:=I.laid hk hb ⟨by
  rw[aD];have h1:(setI ns).length=(dedI ns).length:=(sortI_perm _).length_eq;have h2:=ach ns;exact kE (ao0 (by omega)),out.toList,m,aed hI,by simpa using hob⟩
 exact⟨.ref b,_,⟨I1.ok,I1.os,I1.bare,I1.base,I1.loc,I1.cell,I1.free,I1.freeC,I1.pin,I1.hok,I1.len⟩,rfl,q b hn⟩
def gSet:D->Option Rv
 | .tup l=>(xm l).bind fun ns=>if ns.length < 64 then some (.fr ((setI ns).map D.int)) else none
 | _=>none
theorem ajs{x y:Str}{m:M (List D)}{pp qq:Pos}{ppos:Pos}(hc:X.calm=true)(hg1:Gl X x)(hm1:X.mg x=none)(hv1:bN x=some (.builtin "sorted"))(hg2:Gl X y)(hm2:X.mg y=none)(hv2:bN y=some (.type "set"))
  (ha:EA K X [e] m) (hn1:x ≠ "__name__" := by decide) (hdb1:(x==("__debug__" : Str))=false:=by decide) (hn2:y ≠ "__name__" := by decide) (hdb2:(y==("__debug__" : Str))=false:=by decide)
  (he:aW [e] X.env=[(false,eval e X.env)]:=by rfl) (he2:aW [.Call (.Name y qq) [e] [] ppos] X.env=[(false,eval (.Call (.Name y qq) [e] [] ppos) X.env)]:=by rfl) :
  ER K X (.Call (.Name x pp) [.Call (.Name y qq) [e] [] ppos] [] pos) (gf (g1 gSet) m):=ER.mk fun hk=>PE.imp (ahi (axy hc) hg1 hm1 hv1 (ur (ac3 (aue hc) hg2 hm2 hv2 (ha hk) hn2 hdb2 he rfl) aej he2) hn1 hdb1 he2 rfl) fun σ H Q hq0=>by
 obtain⟨tg,F,ρ,r,ρ',G,em,q⟩:=hq0;obtain⟨ds,ρ1,e1,em⟩:=bf em;obtain⟨e2,rfl⟩:=gw em;refine⟨tg,F,ρ,ds,_,G,e1,fun vs H1 F1 G1 x1 bl =>?_⟩
 cases ds with
 | nil=>cases e2
 | cons d tl =>
  cases tl with
  | cons _ _=>cases e2
  | nil =>
   cases d with
   | tup l =>
    have e2:(xm l).bind (fun ns=>if ns.length < 64 then some (Rv.fr ((setI ns).map D.int)) else none)=some r:=e2
    cases ei:xm l with
    | none=>rw[ei] at e2;cases e2
    | some ns =>
     rw[ei] at e2;have e2:(if ns.length < 64 then some (Rv.fr ((setI ns).map D.int)) else none)=some r:=e2
     split at e2
     ·rename_i h64;cases e2;obtain⟨v,rfl,bv⟩:=bl.one;obtain⟨p,ws,rfl,ea,hl⟩:=bv.tup;rw[ah1 ei] at hl;rw[hl.int_inv] at ea;refine⟨p,ns,rfl,G1.sub _ _ ea,by omega,fun a hna =>?_⟩
      show rcSS X.w _ _ _;refine⟨a,ns,rfl,jm,h64,fun b hnb =>?_⟩
      have G2:=G1.fresh hna (.ext (SetH X.w a ns));have X2:=G1.freshX hna (.ext (SetH X.w a ns));exact Res.lst G2 (fun v H3 F3 G3 x3 rr=>q v H3 F3 G3 ((x1.trans X2).trans x3) (nj (x1.trans X2) rr)) (aeu _) hnb
     ·cases e2
   | _=>cases e2
@[simp] theorem a1y(l:List D):gSet (.tup l)=(xm l).bind fun ns=>if ns.length < 64 then some (.fr ((setI ns).map D.int)) else none:=rfl
end
theorem v8{c:M Bool}{g:Sd}(Inv:Nat->Ro->Prop)(Done:Ro->Prop)(hs:∀k ρ,Inv k ρ->(∃ρ',c ρ=some (.ok false,ρ')/\Done ρ')∨∃ρ1 ρ2 k',c ρ=some (.ok true,ρ1)/\g ρ1=some (.nx,ρ2)/\k' < k/\Inv k' ρ2) :
  ∀(n k:Nat) (ρ:Ro),k < n->Inv k ρ->∃ρ',whileD c g n ρ=some (.nx,ρ')/\Done ρ'
 | 0,k,ρ,h,_=>absurd h (mL _)
 | n+1,k,ρ,h,h0=>by
  unfold whileD;rcases hs k ρ h0 with⟨ρ',e,d⟩ | ⟨ρ1,ρ2,k',e1,e2,hk,h2⟩
  ·rw[e];exact⟨ρ',rfl,d⟩
  ·rw[e1];dsimp only;rw[e2];exact v8 Inv Done hs n k' ρ2 (by omega) h2
theorem adi:100000 < fuel:=by unfold fuel;decide
theorem ak5(a b:Int):eqD (.int a) (.int b)=decide (a=b):=by
 show(a==b)=_
 by_cases h:a=b <;> simp[h]
theorem ax2(ns:List Int)(a:Int):(ns.map D.int).any (fun y=>eqD y (.int a))=decide (a∈ns):=by
 induction ns with
 | nil=>simp
 | cons x r ih=>simp[ak5,aV,ih,eq_comm]
theorem aad(n:Nat)(ns:List Int):(ns.map D.int).all (okD n)=true:=by
 induction ns with
 | nil=>rfl
 | cons x r ih=>simp[okD]
theorem afy(neg:Bool)(a:Int)(ns:List Int):gIn neg (.int a) (.lst (ns.map D.int))=some (.v (.bl (if neg then !decide (a∈ns) else decide (a∈ns)))):=by
 have h:=aad 30 ns;have h2:=ax2 ns a;simp only[gIn,itemsD,h,h2];simp[okD]
theorem amf:∀(a b:List Int),eqDs (a.map D.int) (b.map D.int)=decide (a=b)
 | [],[]=>rfl
 | [],_::_=>rfl
 | _::_,[]=>rfl
 | x::r,y::t=>by
  show(eqD (.int x) (.int y)&&eqDs (r.map D.int) (t.map D.int))=_;rw[ak5,amf r t]
  by_cases h:x=y <;> simp[h]
theorem aqo(a b:List Int):eqD (.tup (a.map D.int)) (.tup (b.map D.int))=decide (a=b):=by
 rw[<-amf];exact aqn _ _
theorem ah2(neg:Bool)(a b:List Int):gEq neg (.tup (a.map D.int)) (.tup (b.map D.int))=some (.v (.bl (if neg then !decide (a=b) else decide (a=b)))):=by
 have h1:okD 30 (.tup (a.map D.int))=true:=aad 29 a;have h2:okD 30 (.tup (b.map D.int))=true:=aad 29 b;simp only[gEq,h1,h2,aqo];simp
theorem aqf(r:List Int):∀x:Int,(0<=r.foldl (fun m y=>if decide (y < m)=true then y else m) x)↔0<=x/\∀y∈r,0<=y:=by
 induction r with
 | nil=>intro x;simp
 | cons z t ih =>
  intro x;rw[iG,ih]
  by_cases h:z < x
  ·simp only[h,decide_true,if_true,aV,forall_eq_or_imp];constructor
   ·rintro⟨a,b⟩;exact⟨by omega,a,b⟩
   ·rintro⟨_,a,b⟩;exact⟨a,b⟩
  ·simp only[h,decide_false,iB,if_false,aV,forall_eq_or_imp];constructor
   ·rintro⟨a,b⟩;exact⟨a,by omega,b⟩
   ·rintro⟨a,_,b⟩;exact⟨a,b⟩
def minI(ns:List Int):Int:=ab5 (fun i j=>decide (i < j)) ns
theorem alz{ns:List Int}(h:ns≠[]):0<=minI ns↔∀y∈ns,0<=y:=by
 cases ns with
 | nil=>exact absurd rfl h
 | cons x r =>
  show 0<=r.foldl (fun m y=>if decide (y < m)=true then y else m) x↔_
  rw[aqf];simp
theorem atw{ns:List Int}(h:ns≠[]):aw6 (.lst (ns.map D.int))=some (.v (.int (minI ns))):=by
 show(xm (ns.map D.int)).bind _=_;rw[afk];simp[h,minI]
theorem aqa{ns:List Int}(h:ns.length < 64):gSet (.tup (ns.map D.int))=some (.fr ((setI ns).map D.int)):=by
 show(xm (ns.map D.int)).bind _=_;rw[afk];simp[h]
theorem al0(ns:List Int)(x:Int):x∈setI ns↔x∈ns:=by
 unfold setI;rw[(sortI_perm _).mem_iff,ac9]
theorem ank(ns:List Int):(setI ns).Nodup:=by
 unfold setI;rw[(sortI_perm _).nodup_iff];exact abr ns
@[simp] theorem a0v(d:D):anw [d]=(itemsD d).map adl:=rfl
@[simp] theorem a0q(a b:D):anv [a,b]=(itemsD a).bind fun l1=>(itemsD b).bind fun l2=>if l1.length<=l2.length then some (z6 l1 l2) else none:=rfl
@[simp] theorem aw3(a b c:D):ap8 [a,b,c]=(itemsD a).bind fun l1=>(itemsD b).bind fun l2=>(itemsD c).bind fun l3=>if l1.length<=l2.length/\l1.length<=l3.length then some (acb l1 l2 l3) else none:=rfl
@[simp] theorem ayb(ρ:Ro)(f:Int->Int->Int)(i:Nat)(mi m:M D):ak9 f i mi m ρ=(dM (mOwn i) fun _=>dM mi fun k=>dM (mOwn i) fun l=>dM (lift ((asI k).bind (ixN l.length))) fun j=>dM (lift ((l[j]?).bind asI)) fun x=>dM m fun y=>dM (lift (asI y)) fun y=>dM (mOwn i) fun l2=>dM (lift (if l2.length=l.length then some () else none)) fun _=>dM (ada i (l2.set j (.int (f x y)))) fun _=>dNx) ρ:=rfl
@[simp] theorem az5(ρ:Ro)(i:Nat)(ms:M (List D)):az6 i ms ρ=((fc i).bind fun d0=>ms.bind fun ds=>(fc i).bind fun d=>(lift (match d0,d with
 | .lst _,.lst _=>some ()
 | .tup _,.tup _=>some ()
 | _,_=>none)).bind fun _=>lift (ah4 d ds)) ρ:=rfl
@[simp] theorem axg(l:List D)(x:D):ah4 (.lst l) [x]=if okD 30 x&&l.all (okD 30) then some (.int (l.countP fun y=>eqD y x)) else none:=rfl
@[simp] theorem axf(l:List D)(x:D):ah4 (.tup l) [x]=if okD 30 x&&l.all (okD 30) then some (.int (l.countP fun y=>eqD y x)) else none:=rfl
theorem aib{l1 l2:List D}(h:l1.length<=l2.length):(z6 l1 l2).length=l1.length:=by unfold z6;rw[gP];omega
theorem aev{l1 l2 l3:List D}(h:l1.length<=l2.length/\l1.length<=l3.length):(acb l1 l2 l3).length=l1.length:=by unfold acb;rw[gP,pU];omega
theorem jt{ns:List Int}{k:Int}(h0:0<=k)(h1:k < (ns.length:Int)):atI (ns.map D.int) k=some (.int (ns.getD k.toNat 0)):=by
 have hk:k.toNat < ns.length:=by omega
 have q:atI (ns.map D.int) ((k.toNat:Nat):Int)=some (.int (ns.getD k.toNat 0)):=aia (by simp[aC hk])
 rw[show((k.toNat:Nat):Int)=k by omega] at q
 exact q
theorem aci{n:Nat}{k:Int}(h0:0<=k)(h1:k < (n:Int)):ixN n k=some k.toNat:=by
 unfold ixN;simp[h0,h1]
theorem jb{K:Fg9}{P:bI}{w:World}{mg:Str->Option Value}{base:Heap}{x qual:Str}{st:Stmt}{f:Addr}{fd:fO}{N ps:List Str}{k nl np:Nat}{g:Sd}(F:Fun K x qual st f fd)(S:FnScope N ps (ak st))(h1:N.length=nl)(h2:ps.length=np)
  (body:∀(cdv:Value) (A:cM) (outer:List Env) (s:aJ) (H:Hp) (E:XK),Room k (A.deeper (nR qual (ak st) s.heap.objs.size f cdv))->SVs K (cxOf CX0 P w K mg base N qual (ak st) f cdv A outer s H E).nox (dj st) g) :
  FnOk P w K mg base CX0 (k+1) f fd ps (spOf K np (fnD nl np g)):=by
 subst h1 h2;exact a5n F S body
section
variable{K:Fg9}{X:Cx}{e:Expr}{pos:Pos}
def gLS:D->Option Rv
 | .tup l=>(xm l).bind fun ns=>if ns.length < 64 then some (.v (.int ((dedI ns).length:Int))) else none
 | _=>none
@[simp] theorem a5i(l:List D):gLS (.tup l)=(xm l).bind fun ns=>if ns.length < 64 then some (.v (.int ((dedI ns).length:Int))) else none:=rfl
end
section
variable{K:Fg9}{X:Cx}
def rReverse:V->List V->Hp->VK->Prop:=fun x vs H Q=>∃l xs,x=.ref l/\vs=[]/\H l=some (.lst xs)/\xs.length < bV/\Q .non (upd H l (.lst xs.reverse))
def atu(l ds:List D):Option (D×List D):=match ds with
 | []=>if l.length < capS then some (.non,l.reverse) else none
 | _=>none
@[simp] theorem au2(l:List D):atu l []=if l.length < capS then some (.non,l.reverse) else none:=rfl
end
section
variable{K:Fg9}{X:Cx}{a:Expr}{pos p2:Pos}
def mIx1(m:M Rv):M Rv:=m.bind fun r=>match r with
 | .tf _ l=>ret (.fr l)
 | _=>lift none
@[simp] theorem a4m(m:M Rv)(ρ:Ro):mIx1 m ρ=(m.bind fun r=>match r with
 | .tf _ l=>ret (.fr l)
 | _=>lift none) ρ:=rfl
end
end Dn
namespace L2
section
variable{X:Cx}{tg:Expr}
end
end L2
namespace Dn
open L2 Mn
section
variable{K:Fg9}{X:Cx}{tgt a b c:Expr}{p pos:Pos}
end
end Dn
namespace Mn
open L2
section
variable{X:Cx}
end
end Mn
namespace Dn
open L2 Mn
section
variable{K:Fg9}{X:Cx}
end
theorem mkSc{N P:List Str}{sc:Scope}(a:sc.kind=.function)(b:sc.isCoroutine=false)(c:sc.isGenerator=false)(e:N.take P.length=P)(d:N.Nodup/\(∀x∈P,sc.names.lookup x=some .local∨sc.names.lookup x=some .cell)/\∀y∈sc.names,y.2≠.free):FnScope N P sc:=⟨a,b,c,d.1,e,d.2.1,d.2.2⟩
section
variable{K:Fg9}{X:Cx}{e a b o:Expr}{es:List Expr}{pos p p2:Pos}
end
theorem _root_.L2.Inv.gh{X:Cx}{zv:List (Addr×Obj)}{σ σ2:L2.St}{H:Hp}{s:aJ}(I:Inv X zv σ H s)(hl:σ2.length=σ.length)(h:∀(i:Nat) (x:Str) (v:V),X.N[i]? = some x->σ2[i]? = some (some v)->Vis X.env.scope x->σ[i]? = some (some v)):Inv X zv σ2 H s:=by
 obtain⟨m,hm,hx⟩:=I.loc;exact⟨I.ok,I.os,I.bare,I.base,⟨m,hm,fun i x v e q vis=>hx i x v e (h i x v e q vis) vis⟩,I.cell,I.free,I.freeC,I.pin,I.hok,hl.trans I.len⟩
section
variable{K:Fg9}{X:Cx}{tg:Nat->Addr}{F H:Hp}{ρ:Ro}{σ:L2.St}
end
structure DfnM (P:bI) (w:World) (K:Fg9) (mg:Str->Option Value) (base:Heap) (c m:Str) (ps:List Str) (k:Nat) (sp:Sp):Prop where
 ex:∃C f fd,nsIn K aO c=some (some (.ref C))/\Cls K C/\Meth K C m f/\FnOk P w K mg base CX0 k f fd ps sp/\Binds K fd ps []
def azu:Sl->Bool
 | .box _ _=>false
 | _=>true
section
variable{K:Fg9}{X:Cx}{tg:Nat->Addr}{F H F1 H1:Hp}{O O1:Addr->Prop}{ρ:Ro}{σ:L2.St}
inductive FdR (K:Fg9) (F H:Hp) (O:Addr->Prop):List (Str×Rv)->List (Str×V)->List Addr->Prop
 | nil:FdR K F H O [] [] []
 | v {f:Str} {d:D} {v:V} {rs:List (Str×Rv)} {fvs:List (Str×V)} {A:List Addr} (h:Is K F d v) (t:FdR K F H O rs fvs A):FdR K F H O ((f,.v d)::rs) ((f,v)::fvs) A
 | fr {f:Str} {l:List D} {e:Addr} {ws:List V} {rs:List (Str×Rv)} {fvs:List (Str×V)} {A:List Addr} (hf:F e=none) (hn:¬O e) (hh:H e=some (.lst ws)) (h:IsL K F l ws) (ne:e∉A) (t:FdR K F H O rs fvs A):FdR K F H O ((f,.fr l)::rs) ((f,.ref e)::fvs) (e::A)
theorem FdR.step{rs:List (Str×Rv)}{fvs:List (Str×V)}{A:List Addr}(h:FdR K F H O rs fvs A)(x:Ext O O1 F H F1 H1):FdR K F1 H1 O1 rs fvs A:=by
 induction h with
 | nil=>exact .nil
 | v h t ih=>exact .v (h.mono x.sub) ih
 | @fr f l e ws rs fvs A hf hn hh h ne t ih =>
  refine .fr ?_ (fun z =>?_) (x.keep e _ hh hn) (h.mono x.sub) ne ih
  ·cases z:F1 e with
   | none=>rfl
   | some o =>
    rcases x.new e o z with z | z | z
    ·rw[hf] at z;cases z
    ·rw[hh] at z;cases z
    ·exact absurd z hn
  ·rcases x.own e z with z | z
   ·exact hn z
   ·rw[hh] at z;cases z
theorem FdR.out{rs:List (Str×Rv)}{fvs:List (Str×V)}{A:List Addr}(h:FdR K F H O rs fvs A):∀e∈A,¬O e/\F e=none/\∃ws,H e=some (.lst ws)/\∃l,IsL K F l ws:=by
 induction h with
 | nil=>exact fun e he=>absurd he dX
 | v h t ih=>exact ih
 | @fr f l e ws rs fvs A hf hn hh h ne t ih =>
  intro e' he;rcases aV.mp he with rfl | he
  ·exact⟨hn,hf,ws,hh,l,h⟩
  ·exact ih e' he
theorem FdR.upd{rs:List (Str×Rv)}{fvs:List (Str×V)}{A:List Addr}{d:Addr}{o:HO}(h:FdR K F H O rs fvs A)(hd:d∉A):FdR K F (L2.upd H d o) O rs fvs A:=by
 induction h with
 | nil=>exact .nil
 | v h t ih=>exact .v h (ih hd)
 | @fr f l e ws rs fvs A hf hn hh h ne t ih =>
  have h1:d≠e/\d∉A:=⟨fun q=>hd (q▸List.mem_cons_self ..),fun q=>hd (aQ _ q)⟩
  exact .fr hf hn (by rw[fj (iR h1.1)];exact hh) h ne (ih h1.2)
def Oa(ρ:Ro)(σ:L2.St)(a:Addr)(A:List Addr):Addr->Prop:=fun z=>Own ρ σ z∨z=a∨z∈A
def iniD:List (Str×M Rv)->Ro->Option (List (Str×Rv)×Ro)
 | [],ρ=>some ([],ρ)
 | (f,m)::r,ρ=>match m ρ with
  | some (.ok (.v d),ρ1)=>if (ρ1:List Sl).all azu=true then (iniD r ρ1).map fun p=>((f,.v d)::p.1,p.2) else none
  | some (.ok (.fr l),ρ1)=>if (ρ1:List Sl).all azu=true then (iniD r ρ1).map fun p=>((f,.fr l)::p.1,p.2) else none
  | _=>none
def TSi(K:Fg9)(C:Addr)(fms:List (Str×M Rv)):TS:=fun D σ H=>∃tg F ρ a dx rs0 fvs0 A0 rs ρ',Good K tg F H ρ σ/\σ[0]? = some (some (.ref a))/\H a=some (.ins C dx fvs0)/\F a=none/\FdR K F H (Own ρ σ) rs0 fvs0 A0/\fvs0.length+fms.length < 1000 /\
 (∀f∈fms.map (·.1),fvs0.lookup f=none)/\(fms.map (·.1)).Nodup/\iniD fms ρ=some (rs,ρ') /\
 ∀H' F' fvs A,Good K tg F' H' ρ' σ->H' a=some (.ins C dx fvs)->F' a=none->FdR K F' H' (Own ρ' σ) (rs0++rs) fvs A->Ext (Oa ρ σ a A0) (Oa ρ' σ a A) F H F' H'->D.nx σ H'
structure SI (K:Fg9) (X:Cx) (C:Addr) (ss:List Stmt) (fms:List (Str×M Rv)):Prop where
 go:X.K=K->PSs X ss (TSi K C fms)
end
section
variable{K:Fg9}{X:Cx}{tg tg1:Nat->Addr}{F H F1 H1:Hp}{ρ:Ro}{σ:L2.St}
def offs(ρ:Ro):List Nat->Ro
 | []=>ρ
 | j::js=>offs (bJ ρ j .emp) js
theorem Good.offs(G:Good K tg F H ρ σ):∀{js:List Nat},Good K tg F H (Dn.offs ρ js) σ/\∀z,Own (Dn.offs ρ js) σ z->Own ρ σ z:=fun{js}=>by
 induction js generalizing ρ with
 | nil=>exact⟨G,fun _ h=>h⟩
 | cons j js ih =>
  obtain⟨g,h⟩:=ih (G.drop j);exact⟨g,fun z hz=>(ac4 (h z hz)).1⟩
end
structure DfnI (P:bI) (w:World) (K:Fg9) (mg:Str->Option Value) (base:Heap) (c:Str) (ps:List Str) (k:Nat) (sp:Addr->Sp):Prop where
 ex:∃C f fd,nsIn K aO c=some (some (.ref C))/\mg c=some (.ref C)/\Mk K C f/\FnOk P w K mg base CX0 k f fd ps (sp C)/\Binds K fd ps []
theorem Fin.mono{K:Fg9}{F' H':Hp}{τ:L2.St}{ps:Ro}{O O':Addr->Prop}(h:Fin K F' H' τ ps O)(w:∀z,O z->O' z):Fin K F' H' τ ps O':=⟨fun i l e=>let ⟨a,b,c⟩:=h.at' i l e;⟨w _ a,b,c⟩⟩
theorem Ext.imp{O O1 O2:Addr->Prop}{F H F1 H1:Hp}(x:Ext O O1 F H F1 H1)(w:∀z,O2 z->O1 z):Ext O O2 F H F1 H1:=⟨x.sub,x.new,x.keep,fun z h=>x.own z (w z h),x.there⟩
section
variable{K:Fg9}{C:Addr}{fs:List Str}{c f m:Str}
end
def noTf:Rv->Bool
 | .tf _ _=>false
 | _=>true
def aqt(i j:Nat)(m1 m2:M Rv):Sd:=dM m1 fun r1=>dM m2 fun r2 ρ=>if noTf r1=true/\noTf r2=true then some (.nx,bJ (bJ ρ i r1.sl) j r2.sl) else none
section
variable{K:Fg9}{X:Cx}{tg:Nat->Addr}{F H F1 H1 F2 H2:Hp}{ρ ρ1 ρ2:Ro}{σ:L2.St}{e a b:Expr}{pos:Pos}
theorem akh{O O1 O2:Addr->Prop}{r:Rv}{v:V}(ht:noTf r=true)(h:relR K r v H O F1 H1 O1)(x:Ext O1 O2 F1 H1 F2 H2):relR K r v H O F2 H2 O2:=by
 cases r with
 | v d=>exact Is.mono x.sub h
 | fr l =>
  obtain⟨c,vs,e,h1,h2,h3,h4,h5⟩:=h;refine⟨c,vs,e,h1,?_,x.keep c _ h3 h5,h4.mono x.sub,fun z =>?_⟩
  ·cases z:F2 c with
   | none=>rfl
   | some o =>
    rcases x.new c o z with z | z | z
    ·rw[h2] at z;cases z
    ·rw[h3] at z;cases z
    ·exact absurd z h5
  ·rcases x.own c z with z | z
   ·exact h5 z
   ·rw[h3] at z;cases z
 | tf d l=>cases ht
theorem Good.store2{F0 H0:Hp}{O:Addr->Prop}(G:Good K tg F H ρ σ)(x:Ext O (Own ρ σ) F0 H0 F H){r1 r2:Rv}{v1 v2:V}(i j:Nat)(h1:relR K r1 v1 H0 O F H (Own ρ σ))(h2:relR K r2 v2 H0 O F H (Own ρ σ))(ht1:noTf r1=true)(ht2:noTf r2=true)
  (hd:∀l1 l2 c,r1=.fr l1->r2=.fr l2->v1=.ref c->v2≠.ref c) :
  Good K tg F H (bJ (bJ ρ i r1.sl) j r2.sl) (bJ (bJ σ i (some v1)) j (some v2))/\Ext O (Own (bJ (bJ ρ i r1.sl) j r2.sl) (bJ (bJ σ i (some v1)) j (some v2))) F0 H0 F H:=by
 obtain⟨G1,x1⟩:=G.store x i h1;refine G1.store x1 j ?_;cases r2 with
 | v d=>exact h2
 | fr l =>
  obtain⟨c,vs,e,k1,k2,k3,k4,k5⟩:=h2;refine⟨c,vs,e,k1,k2,k3,k4,fun w =>?_⟩
  rcases ahj G.len w with w | ⟨⟨t,l',w1⟩,w2⟩
  ·exact k5 w
  ·cases r1 with
   | v d=>cases w1
   | fr l1=>exact hd l1 l c rfl rfl w2 e
   | tf d l1=>cases ht1
 | tf d l=>cases ht2
theorem two_rel{r1 r2:Rv}{v1 v2:V}(ht1:noTf r1=true)(x1:Ext (Own ρ σ) (Own ρ1 σ) F H F1 H1)(rr1:relR K r1 v1 H (Own ρ σ) F1 H1 (Own ρ1 σ))(x2:Ext (Own ρ1 σ) (Own ρ2 σ) F1 H1 F2 H2)(rr2:relR K r2 v2 H1 (Own ρ1 σ) F2 H2 (Own ρ2 σ)) :
  relR K r1 v1 H (Own ρ σ) F2 H2 (Own ρ2 σ)/\relR K r2 v2 H (Own ρ σ) F2 H2 (Own ρ2 σ)/\∀l1 l2 c,r1=.fr l1->r2=.fr l2->v1=.ref c->v2≠.ref c:=by
 refine⟨akh ht1 rr1 x2,nj x1 rr2,fun l1 l2 c e1 e2 e3 e4 =>?_⟩
 subst e1 e2;obtain⟨c1,vs1,q1,a1,a2,a3,a4,a5⟩:=rr1;obtain⟨c2,vs2,q2,b1,b2,b3,b4,b5⟩:=rr2;rw[q1] at e3;rw[q2] at e4;cases e3;cases e4;rcases b1 with z | z
 ·rw[a3] at z;cases z
 ·exact a5 z
theorem avr{i j:Nat}{x y:Str}{px py pt:Pos}{kt k2:Nat}{pt2:Pos}{m1 m2:M Rv}(hc:X.calm=true)(hN:X.N.Nodup)(hi:X.N[i]? = some x)(hj:X.N[j]? = some y)(hx:Loc X.env.scope x)(hy:Loc X.env.scope y)(h1:ER K X a m1)(h2:ER K X b m2)
  (hs1:aW [a,b] X.env=(false,eval a X.env)::aW [b] X.env:=by rfl) (hs2:aW [b] X.env=(false,eval b X.env)::aW [] X.env:=by rfl)
  (hfx:X.fn x=true∨X.env.scope.names.lookup x=some .local:=by first | exact .inl rfl | exact .inr rfl | assumption) (hfy:X.fn y=true∨X.env.scope.names.lookup y=some .local:=by first | exact .inl rfl | exact .inr rfl | assumption)
  (hs:swapsWithSole [.Tuple [.Name x px,.Name y py] kt pt] (.Tuple [a,b] k2 pt2) pos.line X.env=pure false:=by rfl) (hw:swappedStores [.Tuple [.Name x px,.Name y py] kt pt] (.Tuple [a,b] k2 pt2) X.env=pure none:=by rfl)
  (ha1:(eV [.Tuple [.Name x px,.Name y py] kt pt] X.env).map (·.2)=[nD (.Tuple [.Name x px,.Name y py] kt pt) X.env]:=by rfl)
  (hs3:(eV [.Name x px,.Name y py] X.env).map (·.2)=nD (.Name x px) X.env::(eV [.Name y py] X.env).map (·.2):=by rfl)
  (hs4:(eV [.Name y py] X.env).map (·.2)=nD (.Name y py) X.env::(eV [] X.env).map (·.2):=by rfl)
  (hn:(eV [.Name x px,.Name y py] X.env).length=2:=by rfl) (hst:(eV [.Name x px,.Name y py] X.env).findIdx? (·.1)=none:=by rfl) :
  SV K X (.Assign [.Tuple [.Name x px,.Name y py] kt pt] (.Tuple [a,b] k2 pt2) pos) (aqt i j m1 m2):=SV.mk fun hk=>PS.imp (ao9 (aur (ur (h1 hk) (ur (h2 hk) aej hs2) hs1)) (auq hc (ahh (aki hN hi hx hfx) (ahh (aki hN hj hy hfy) apf hs4) hs3) hn hst) hs hw ha1) fun E σ H ⟨tg,F,ρ,fl,ρ',G,em,q⟩=>uy em q fun r1 ρ1 e1 em=>uy em q fun r2 ρ2 e2 em=>by
 split at em
 ·rename_i hz;cases em;refine⟨tg,F,ρ,r1,ρ1,G,e1,fun v1 H1 F1 G1 x1 rr1=>⟨tg,F1,ρ1,r2,ρ2,G1,e2,fun v2 H2 F2 G2 x2 rr2=>⟨by rw[gA];show 2<=16777216;decide,fun p hp =>?_⟩⟩⟩
  obtain⟨k1,k2,k3⟩:=two_rel hz.1 x1 rr1 x2 rr2;have x3:=G2.freshX hp (.tup [v1,v2]);have G3:=G2.fresh hp (.tup [v1,v2]);obtain⟨G4,x4⟩:=G3.store2 ((x1.trans x2).trans x3) i j (akh hz.1 k1 x3) (akh hz.2 k2 x3) hz.1 hz.2 k3;exact⟨p,[v1,v2],rfl,SqT.of jm,rfl,v1,[v2],rfl,v2,[],rfl,rfl,q _ _ F2 G4 x4⟩
 ·cases em
theorem avq{i j:Nat}{x y:Str}{px py pt:Pos}{kt k2:Nat}{pt2:Pos}{m1 m2:M Rv}(hc:X.calm=true)(hN:X.N.Nodup)(hi:X.N[i]? = some x)(hj:X.N[j]? = some y)(hij:i≠j)(hx:X.env.scope.names.lookup x=some .local)(hy:X.env.scope.names.lookup y=some .local)(h1:ER K X a m1)(h2:ER K X b m2)
  (hs1:aW [a,b] X.env=(false,eval a X.env)::aW [b] X.env:=by rfl) (hs2:aW [b] X.env=(false,eval b X.env)::aW [] X.env:=by rfl)
  (hw:swappedStores [.Tuple [.Name x px,.Name y py] kt pt] (.Tuple [a,b] k2 pt2) X.env=pure (some [x,y]):=by rfl) (hs:swapsWithSole [.Tuple [.Name x px,.Name y py] kt pt] (.Tuple [a,b] k2 pt2) pos.line X.env=pure false:=by rfl) :
  SV K X (.Assign [.Tuple [.Name x px,.Name y py] kt pt] (.Tuple [a,b] k2 pt2) pos) (aqt i j m1 m2):=SV.mk fun hk=>PS.imp (aup hc hN hi hj hij hx hy (ur (h1 hk) (ur (h2 hk) aej hs2) hs1) hw hs) fun E σ H ⟨tg,F,ρ,fl,ρ',G,em,q⟩=>uy em q fun r1 ρ1 e1 em=>uy em q fun r2 ρ2 e2 em=>by
 split at em
 ·rename_i hz;cases em;refine⟨tg,F,ρ,r1,ρ1,G,e1,fun v1 H1 F1 G1 x1 rr1=>⟨tg,F1,ρ1,r2,ρ2,G1,e2,fun v2 H2 F2 G2 x2 rr2 =>?_⟩⟩
  obtain⟨k1,k2,k3⟩:=two_rel hz.1 x1 rr1 x2 rr2;obtain⟨G4,x4⟩:=G2.store2 (x1.trans x2) i j k1 k2 hz.1 hz.2 k3;exact⟨v1,v2,rfl,q _ H2 F2 G4 x4⟩
 ·cases em
end
@[simp] theorem a2t(i j:Nat)(m1 m2:M Rv)(ρ:Ro):aqt i j m1 m2 ρ=dM m1 (fun r1=>dM m2 fun r2 ρ=>if noTf r1=true/\noTf r2=true then some (.nx,bJ (bJ ρ i r1.sl) j r2.sl) else none) ρ:=rfl
end Dn
namespace Mn
open L2
section
variable{X:Cx}
end
end Mn
namespace Dn
open L2 Mn
section
variable{K:Fg9}{X:Cx}
def a5m:D->Option Rv
 | .lst l=>(xm l).map fun ns=>.v (.bl ((ns.map fun n=>n != 0).any id))
 | _=>none
@[simp] theorem a0w(l:List D):a5m (.lst l)=(xm l).map fun ns=>.v (.bl ((ns.map fun n=>n != 0).any id)):=rfl
end
section
variable{K:Fg9}{X:Cx}{a:Expr}{p p2:Pos}
def tIsB(neg c:Bool)(ta:TE):TE:=fun σ H Q=>ta σ H fun x H1=>∃b,x=.bl b/\Q (.bl (if neg then b != c else b==c)) H1
theorem awe{c:Bool}{j pos'}{ta:TE}(ha:PE X a ta):PC X .IsNot a (.Constant (.bool c) j pos') (tIsB true c ta):=by
 intro zv s σ H Q I h;refine thn (ha zv s σ H _ I h) fun v s1 ⟨x,H1,I1,r1,b,ex,q1⟩ =>?_
 subst ex;cases r1;exact Constant_bool (isnot_bool ⟨.bl _,H1,I1,rfl,q1⟩)
def aw7(neg c:Bool):D->Option D
 | .bl b=>some (.bl (if neg then b != c else b==c))
 | _=>none
def aps(neg c:Bool)(m:M D):M D:=m.bind fun d=>lift (aw7 neg c d)
@[simp] theorem a1r(neg c:Bool)(m:M D)(ρ:Ro):aps neg c m ρ=(m.bind fun d=>lift (aw7 neg c d)) ρ:=rfl
@[simp] theorem a2f(neg c b:Bool):aw7 neg c (.bl b)=some (.bl (if neg then b != c else b==c)):=rfl
theorem awz{neg c:Bool}{m:M D}(σ:L2.St)(H:Hp)(Q:VK)(h:T K (relD K) (aps neg c m) σ H Q):tIsB neg c (T K (relB K) m) σ H Q:=by
 obtain⟨tg,F,ρ,d,ρ',G,em,q⟩:=h;obtain⟨d1,ρ1,e1,em⟩:=bf em;obtain⟨e3,rfl⟩:=gw em;refine⟨tg,F,ρ,d1,_,G,e1,fun v H' F' G' x r =>?_⟩
 cases d1 with
 | bl b =>
  cases e3;have:v=.bl b:=by
   rcases r with h | ⟨a,vs,l',e,_⟩
   ·cases h;rfl
   ·cases e
  exact⟨b,this,q _ H' F' G' x (.bl _)⟩
 | _=>cases e3
theorem ati{neg c:Bool}{m:M D}(σ:L2.St)(H:Hp)(Q:Bool->Hp->Prop)(h:TB K (vz (aps neg c m)) σ H Q):tB (tIsB neg c (T K (relB K) m)) σ H Q:=by
 obtain⟨tg,F,ρ,k,ρ',G,em,q⟩:=h;obtain⟨d1,ρ1,e1,em⟩:=bf em;obtain⟨e3,rfl⟩:=gw em;obtain rfl:=amw e3;refine awz σ H _ ⟨tg,F,ρ,_,_,G,e1,fun v H' F' G' x r =>?_⟩
 cases r;exact⟨k,rfl,q H' F' G' x⟩
theorem axp{c:Bool}{j:Nat}{m:M D}(h:EB K X a m):ET K X (.Compare a [.IsNot] [.Constant (.bool c) j p] p2) (vz (aps true c m)):=ET.mk fun hk=>PT.imp (ay2 (awe (h hk))) ati
end
end Dn
namespace Mn
open PySem PySem.SeqAt PySem.MeetsSeq
open PySem.AutoSeq1 (wpAny_loadPart')
theorem aa4(l b:Addr)(es ep)(items2:Array Value)(n2:Nat)(dd2:Option Addr)(sl2:Array (Option Value)) :
  Meets (gH.«dict.__ne__» ⟨[.ref l,.ref b],[]⟩) (fun _ R s=>s.heap.get? l=some { cls:=.type "dict", dict:=none,data:=.dict es ep,slots := #[] }/\s.heap.get? b=some { cls:=.type "tuple", dict:=dd2,data:=.seq items2 n2,slots:=sl2 }/\R (.ok (.ret .notImplemented)) s) :=
 .of_wp fun prog w A R s h=>by obtain⟨hp,g,d,tk,os⟩:=s;obtain⟨hl,hb,h⟩:=h;have f1:=uM;wp_walk using wpAny_loadPart' hl,wpAny_loadPart' hb,wpAny_load hb;exact⟨_,rfl,h⟩
theorem aa2(l b:Addr)(items:Array Value)(n:Nat)(dd:Option Addr)(sl:Array (Option Value))(es ep) :
  Meets (gH.«tuple.__ne__» ⟨[.ref l,.ref b],[]⟩) (fun _ R s=>s.heap.get? l=some { cls:=.type "tuple", dict:=dd,data:=.seq items n,slots:=sl }/\s.heap.get? b=some { cls:=.type "dict", dict:=none,data:=.dict es ep,slots := #[] }/\R (.ok (.ret .notImplemented)) s) :=
 .of_wp fun prog w A R s h=>by obtain⟨hp,g,d,tk,os⟩:=s;obtain⟨hl,hb,h⟩:=h;have f1:=F.sub_dict_tuple;wp_walk using wpAny_loadPart' hl,wpAny_loadPart' hb,wpAny_load hb;exact⟨_,rfl,h⟩
theorem ahs{prog:bI}{w:World}{A:cM}{E:Value->aJ->Prop}{s:aJ}{Q:Value->aJ->Prop}{l b:Addr}{o:Obj}{es ep}{its:Array Value}(hl:s.heap.get? l=some o)(hx:o.ExactDict)(hd:o.data=.dict es ep)(hb:L2.IsTp s.heap b its)(hu:A.units < cLine)(h:Q (.bool true) s) :
  wpAny (model prog w) A (dZ .NotEq (.ref l) (.ref b)) Q E s:=by
 obtain⟨cls,dd,data,sl⟩:=o;obtain⟨hc,h2,h3⟩:=hx;simp only at hc hd h2 h3;subst hc hd h2 h3;obtain⟨⟨cls2,dd2,data2,sl2⟩,ho2,hc2,hz2,n2,hd2⟩:=hb;simp only at hc2 hd2 hz2;subst hc2 hd2 hz2;have hne:l≠b:=fun e=>by subst e;rw[hl] at ho2;exact absurd (show iH "dict" = .type "tuple" from congrArg Obj.cls (bK ho2)) (by decide)
 exact rc_ne_decline_or (k:=false) ⟨_,hl,rfl⟩ ⟨_,ho2,rfl⟩ (by decide) uM vD sI
  (fun _ hq=>iY vD ⟨_,hl,rfl⟩ F.entry_dict_ne (F.args_dict_ne_2 _ _) (aa4 l b _ _ _ _ _ _) ⟨hl,ho2,hq⟩)
  (fun _ hq=>iY sI ⟨_,ho2,rfl⟩ F.entry_tuple_ne (F.args_tuple_ne_2 _ _) (aa2 b l _ _ _ _ _ _) ⟨ho2,hl,hq⟩)
  (fun _ hq=>wpAny_isSame_ref_other hne hl ho2 (by simp) hq) (.inr hu) h
end Mn
namespace Dn
open L2 Mn
def gNeT(a b:D):Option Rv:=match a,b with
 | .dct _,.tup _=>some (.v (.bl true))
 | a,b=>gEq true a b
@[simp] theorem a2b(l:List (Key×D))(t:List D):gNeT (.dct l) (.tup t)=some (.v (.bl true)):=rfl
theorem awg{K:Fg9}{X:Cx}(hu:X.A.units+64 < cLine):OpD K X (dZ .NotEq) gNeT:=OpD.mk fun hk=>by
 intro zv s σ0 H x y v u Q I rx ry ⟨tg,F,ρ,σ,d1,d2,r,G,b1,b2,eg,q⟩;unfold gNeT at eg;split at eg
 ·rename_i kvs ts;cases eg;rcases b1 with b1 | ⟨_,_,_,z,_⟩
  ·rcases b2 with b2 | ⟨_,_,_,z,_⟩
   ·cases b1 with
    | dct e hk2 =>
     cases b2 with
     | tup e2 ht =>
      cases rx;cases ry;obtain⟨_,_,vs,_,o,es,ep,h1,h2,h3,_⟩:=I.hok _ _ (G.sub _ _ e);obtain⟨_,its,_,tp⟩:=I.hok _ _ (G.sub _ _ e2);refine ahs (A:=X.A) h1 h2 h3 tp (by omega) ?_
      exact⟨.bl _,H,I,rfl,Res.same G q (.bl _)⟩
   ·cases z
  ·cases z
 ·exact(alr hu).go hk zv s σ0 H x y v u Q I rx ry ⟨tg,F,ρ,σ,d1,d2,r,G,b1,b2,eg,q⟩
end Dn
end
namespace Dn
open PySem L2
@[simp] abbrev gL9(d:D):Option Rv:=(itemsD d).map fun l=>.v (.int l.length)
@[simp] abbrev gT9(d:D):Option Rv:=(itemsD d).map fun l=>.v (.tup l)
end Dn
namespace My
open PySem L2 Mn Dn
def ags:Sd :=
 (dRet (M.v (mAnd (mIsi .int (fc 0)) (mUn gNot (mIsi .bool (fc 0))))))
def wy:Fd:=fnD 1 1 ags
def aai:Sd :=
 (dRet (M.v (mAnd (M.d (mFn wy [some 0] (dh 0 ik))) (ajd (fun i j=>decide (i<=j)) (fun i j=>decide (i<=j)) (mVar 1) (mVar 0) (mVar 2)))))
def jz:Fd:=fnD 3 3 aai
def lu:Sd :=
 (dRet (M.v (mAnd (mIsi .tuple (fc 0)) (ajd (fun i j=>decide (i<=j)) (fun i j=>decide (i<=j)) (mVar 1) (M.d (gf (g1 gL9) (f9 0 mNil))) (mVar 2)))))
def di:Fd:=fnD 3 3 lu
def ak7:M D :=
 (M.d (mOp (gIn false) (bu 0 (fc 1))))
def ah8:M Bool :=
 (vz (M.d (gf (g1 gAll) (au (M.d (v4 [none,some 1] (vp (M.d (mOp gIx (bu 2 (fc 0))))) (cu 0) (ret true) ak7)) mNil))))
def ak6:M D :=
 (mVar 0)
def ag4:M Bool :=
 (mz (gCmp fun i j=>decide (i < j)) (fu (M.d (gf (g1 gL9) (f9 1 mNil))) (fc 2)))
def ag2:Sd :=
 (dSeq (dSet 2 (gf (g1 gL9) (f9 1 mNil))) (dSet 1 (v4 [none,some 1,some 0] (vp (mVar 1)) (cu 0) ah8 ak6)))
def au0:Sd :=
 (dSeq (dSet 1 (adx (au (M.d (gf (g1 gL9) (f9 0 mNil))) mNil))) (dSeq (dSet 2 (mOp gAdd (fu (M.d (gf (g1 gL9) (f9 1 mNil))) (ret (.int 1))))) (dSeq (whileD ag4 ag2 fuel) (dRet (gf (g1 gT9) (f9 1 mNil))))))
def ajr:Fd:=fnD 3 1 au0
def uv:Sd :=
 (dSeq (dSet 1 (mFn ajr [some 0] (dh 0 ik))) (dIf (mz (gEq true) (bu 1 (mTup mNil))) (fun _=>none) dNx))
def jj:Fd:=fnD 2 1 uv
def abj:M D :=
 (M.d (mFn jz [some 0,none,none] (dh 0 (bj (ret (.int 0)) (bj (M.d (mOp (gInt fSub) (fu (M.d (gf (g1 gL9) (f9 1 mNil))) (ret (.int 1))))) ik)))))
def afq:Sd :=
 (dSeq (dIf (ab4 (vz (M.d (mFn di [some 1,none,none] (dh 1 (bj (M.d (gf (g1 gL9) (f9 0 mNil))) (bj (M.d (gf (g1 gL9) (f9 0 mNil))) ik))))))) (dRet (M.v (ret (.bl false)))) dNx) (dRet (gf (g1 gAll) (au (M.d (v4 [none,none] (mGet anv (au (mVar 1) (au (mVar 0) mNil))) (bTup 2 (ir (cu 0) (ir (cu 1) bNil))) (ret true) abj)) mNil))))
def xx:Fd:=fnD 2 2 afq
def zb:Sd :=
 (dIf (ab4 (vz (M.d (mFn xx [none,none] (bj (mVar 0) (bj (mVar 1) ik)))))) (fun _=>none) dNx)
def j9:Fd:=fnD 2 2 zb
def abh:M D :=
 (M.d (mOp (gInt fMod) (fu (M.d (mOp gAdd (bu 0 (fc 1)))) (M.d (gf (g1 gL9) (f9 2 mNil))))))
def afo:Sd :=
 (dRet (gf (g1 gT9) (au (M.d (v4 [none,none,none] (mGet ap8 (au (mVar 1) (au (mVar 2) (au (mVar 0) mNil)))) (bTup 3 (ir (cu 0) (ir (cu 1) (ir (cu 2) bNil)))) (ret true) abh)) mNil)))
def xr:Fd:=fnD 3 3 afo
def abi:M D :=
 (M.d (mOp gIx (bu 1 (M.d (mOp (gInt fSub) (bu 0 (ret (.int 1))))))))
def afp:Sd :=
 (dRet (gf (g1 gT9) (au (M.d (v4 [none,none] (mGet anv (au (mVar 1) (au (mVar 0) mNil))) (bTup 2 (ir (cu 0) (ir (cu 1) bNil))) (ret true) abi)) mNil)))
def xu:Fd:=fnD 2 2 afp
def u9:M Bool :=
 (mz (gIn false) (fu (M.d (mOp gIx (bu 2 (fc 0)))) (fc 1)))
def zx:M D :=
 (mVar 0)
def u6:M Bool :=
 (mz (gCmp fun i j=>decide (i < j)) (fu (M.d (gf (g1 gL9) (f9 2 mNil))) (fc 3)))
def zq:Sd :=
 (dSeq (dSet 3 (gf (g1 gL9) (f9 2 mNil))) (dSet 2 (v4 [none,some 2,some 0] (vp (mVar 2)) (cu 0) u9 zx)))
def adh:Sd :=
 (dSeq (dSet 2 (gf (g1 fun d=>(itemsD d).map fun l=>.fr l) (f9 1 mNil))) (dSeq (dSet 3 (mOp gAdd (fu (M.d (gf (g1 gL9) (f9 2 mNil))) (ret (.int 1))))) (dSeq (whileD u6 zq fuel) (dRet (ajb 2)))))
def su:Fd:=fnD 4 2 adh
def aav:M D :=
 (M.d (mFn jz [some 0,none,some 1] (dh 0 (bj (ret (.int 0)) (dh 1 ik)))))
def aem:Sd :=
 (dSeq (dIf (ab4 (vz (M.d (mFn di [some 1,none,none] (dh 1 (bj (M.d (gf (g1 gL9) (f9 0 mNil))) (bj (M.d (gf (g1 gL9) (f9 0 mNil))) ik))))))) (dRet (M.v (ret (.bl false)))) dNx) (dRet (gf (g1 gAll) (au (M.d (v4 [none,some 2] (vp (mVar 1)) (cu 0) (ret true) aav)) mNil))))
def vh:Fd:=fnD 3 3 aem
def xn:Sd :=
 (dIf (ab4 (vz (M.d (mFn vh [some 0,none,none] (dh 0 (bj (mVar 1) (bj (ret (.int 100)) ik))))))) (fun _=>none) dNx)
def j6:Fd:=fnD 2 2 xn
def adz:Sd :=
 (dSeq (dSet 5 (mOp (gInt fMod) (fu (M.d (mOp (gInt fSub) (bu 4 (fc 1)))) (fc 0)))) (af3 (M.v (mMut 3 ad5 (au (M.d (mOp (gInt fDiv) (fu (M.d (mOp (gInt fSub) (fu (M.d (mOp (gInt fSub) (fu (M.d (mOp gAdd (bu 2 (fc 0)))) (ret (.int 1))))) (fc 5)))) (fc 0)))) mNil)))))
def ajm:Sd :=
 (dSeq (dSet 3 (mLst mNil)) (dSeq (dFor (mGet uw (au (mVar 0) mNil)) (cu 4) adz) (dRet (ajb 3))))
def abd:Fd:=fnD 6 3 ajm
def zu:Sd :=
 (af3 (M.v (mMut 3 ad5 (au (M.d (gf (g1 gT9) (au (M.d (mFn abd [none,some 5,some 6] (bj (M.d (gf (g1 gL9) (f9 4 mNil))) (dh 5 (dh 6 ik))))) mNil))) mNil))))
def adf:Sd :=
 (dSeq (dSet 3 (mLst mNil)) (dSeq (dFor (mGet ap8 (au (mVar 0) (au (mVar 1) (au (mVar 2) mNil)))) (bTup 3 (ir (cu 4) (ir (cu 5) (ir (cu 6) bNil)))) zu) (dRet (gf (g1 gT9) (f9 3 mNil)))))
def sr:Fd:=fnD 7 3 adf
def aah:Sd :=
 (dSeq (af3 (mFn j9 [none,none] (bj (mVar 0) (bj (mVar 1) ik)))) (af3 (mFn j6 [some 0,none] (dh 0 (bj (mVar 2) ik)))))
def mj:Fd:=fnD 3 3 aah
def qt:M D :=
 (mAnd (M.d (mFn wy [some 0] (dh 0 ik))) (M.d (mOp (gCmp fun i j=>decide (j<=i)) (bu 0 (ret (.int 0))))))
def v5:Sd :=
 (dSeq (dIf (ab4 (vz (M.d (mFn di [some 1,none,none] (dh 1 (bj (M.d (gf (g1 gL9) (f9 0 mNil))) (bj (M.d (gf (g1 gL9) (f9 0 mNil))) ik))))))) (dRet (M.v (ret (.bl false)))) dNx) (dRet (gf (g1 gAll) (au (M.d (v4 [none] (vp (mVar 1)) (cu 0) (ret true) qt)) mNil))))
def jr:Fd:=fnD 2 2 v5
def aae:Sd :=
 (dIf (mz (gCmp fun i j=>decide (j<=i)) (bu 5 (ret (.int 0)))) (ak9 (fun i j=>i+j) 2 (mVar 5) (mVar 6)) dNx)
def ady:Sd :=
 (dFor (mGet anv (au (mVar 3) (au (mVar 4) mNil))) (bTup 2 (ir (cu 5) (ir (cu 6) bNil))) aae)
def ajn:Sd :=
 (dSeq (dSet 2 (mOp gMul (fu (M.d (mLst (au (ret (.int 0)) mNil))) (M.d (gf (g1 gL9) (f9 0 mNil)))))) (dSeq (dFor (mGet anv (au (mVar 0) (au (mVar 1) mNil))) (bTup 2 (ir (cu 3) (ir (cu 4) bNil))) ady) (dRet (ajb 2))))
def abe:Fd:=fnD 7 2 ajn
def abz:M D :=
 (M.d (mOp (gEq false) (fu (M.d (mOp gAdd (bu 0 (fc 1)))) (fc 2))))
def aal:M Bool :=
 (mz (gCmp fun i j=>decide (j < i)) (bu 1 (ret (.int 0))))
def aby:M D :=
 (mVar 0)
def adg:Sd :=
 (dSeq (af3 (mFn mj [none,none,none] (bj (mVar 0) (bj (mVar 1) (bj (mVar 2) ik))))) (dSeq (af3 (mFn jj [some 0] (dh 0 ik))) (dSeq (dIf (ab4 (vz (M.d (mFn jr [some 0,none] (dh 0 (bj (mVar 3) ik)))))) (dRet (M.v (ret (.bl false)))) dNx) (dSeq (dSet 4 (mFn abe [none,none] (bj (mVar 0) (bj (M.d (mFn sr [none,none,none] (bj (mVar 0) (bj (mVar 1) (bj (mVar 3) ik))))) ik)))) (dSeq (dIf (ab4 (vz (M.d (gf (g1 gAll) (au (M.d (v4 [none,none,none] (mGet ap8 (au (mVar 2) (au (mVar 4) (au (mVar 3) mNil)))) (bTup 3 (ir (cu 0) (ir (cu 1) (ir (cu 2) bNil)))) (ret true) abz)) mNil))))) (dRet (M.v (ret (.bl false)))) dNx) (dSeq (dSet 5 (mFn xu [none,none] (bj (mVar 0) (bj (M.d (mFn xr [none,none,none] (bj (mVar 0) (bj (mVar 1) (bj (mVar 3) ik))))) ik)))) (dRet (mOp (gEq false) (fu (M.d (mFn su [some 5,none] (dh 5 (bj (M.d (v4 [none,none] (mGet anw (au (mVar 3) mNil)) (bTup 2 (ir (cu 0) (ir (cu 1) bNil))) aal aby)) ik)))) (M.d (mLst mNil)))))))))))
def pq:Fd:=fnD 6 4 adg
def acn:Sd :=
 (dSeq (dIf (mz (gCmp fun i j=>decide (i < j)) (bu 1 (M.d (gf (g1 gL9) (f9 0 mNil))))) (dRet (mOp gIx (bu 0 (fc 1)))) dNx) (dRet (M.v (ret (.int 0)))))
def f__law_cell:Fd:=fnD 2 2 acn
def agt:Sd :=
 (dSeq (dSet 1 (gf (g2 (gInt fun i j=>some (if j > i then j else i))) (f9 0 (au (M.d (mOp (gInt fSub) (fu (ret (.int 0)) (fc 0)))) mNil)))) (dRet (mLst (au (mVar 1) (au (M.d (gf (g1 aqb) (au (M.d (mOp (gCmp fun i j=>decide (j<=i)) (bu 1 (M.d (mOp (gInt fPow) (fu (ret (.int 10)) (ret (.int 18)))))))) mNil))) mNil)))))
def f__law_pen:Fd:=fnD 2 1 agt
def acl:Sd :=
 (dSeq (dIf (mz (gEq false) (fu (M.d (mOp gIx (bu 0 (ret (.int 1))))) (ret (.int 1)))) (dSeq (dAsg (M.d (gf (g2 ah3) (au (M.d (mOp gIx (bu 0 (ret (.int 0))))) (f9 1 mNil)))) (bTup 2 (ir (cu 2) (ir (cu 3) bNil)))) (dSeq (dSub 0 (ret (.int 0)) (mVar 2)) (dRet (ajb 3)))) dNx) (dSeq (dSet 4 (mOp (gInt fMod) (fu (M.d (mOp gMul (fu (M.d (mOp gAdd (fu (M.d (mOp (gInt fMod) (fu (M.d (mOp gIx (bu 0 (ret (.int 0))))) (ret (.int 2147483647))))) (ret (.int 40503))))) (ret (.int 69621))))) (ret (.int 2147483629))))) (dSeq (dSet 4 (mOp (gInt fMod) (fu (M.d (mOp gAdd (fu (M.d (mOp gMul (bu 4 (fc 4)))) (ret (.int 7817))))) (ret (.int 2147483587))))) (dSeq (dSub 0 (ret (.int 0)) (M.d (mOp (gInt fMod) (fu (M.d (mOp gAdd (fu (M.d (mOp gMul (bu 4 (ret (.int 48271))))) (ret (.int 11))))) (ret (.int 2147483629)))))) (dRet (mOp (gInt fMod) (fu (M.d (mOp (gInt fDiv) (fu (M.d (mOp gIx (bu 0 (ret (.int 0))))) (ret (.int 32))))) (fc 1))))))))
def f__law_draw:Fd:=fnD 5 2 acl
def aen:Sd :=
 (dRet (M.v (mAnd (mIsi .int (fc 0)) (mUn gNot (mIsi .bool (fc 0))))))
def vm:Fd:=fnD 1 1 aen
def agu:Sd :=
 (dSeq (dSet 1 (mLst (au (ret .non) (au (ret (.bl true)) (au (ret (.bl false)) (au (mUn gNeg (ret (.int 1))) (au (ret (.str "1")) (au (ret (.str "")) (au (mTup mNil) (au (M.d (mLst mNil)) (au (mTup (au (ret (.int 0)) mNil)) (au (M.d (mLst (au (ret (.int 0)) mNil))) (au (ret (.dct [(jU "a", .int 1)])) (au (mTup (au (ret (.int 0)) (au (ret (.int 1)) mNil))) (au (M.d (mOp (gInt fPow) (fu (ret (.int 10)) (ret (.int 30))))) (au (mTup (au (mTup (au (ret (.int 0)) mNil)) mNil)) (au (ret (.str "ab")) mNil))))))))))))))))) (dRet (mOp gIx (fu (M.d (mOp gAdd (bu 1 (M.d (mLst (au (mTup (au (mTup (au (mUn gNeg (ret (.int 1))) mNil)) (au (mTup (au (ret (.int 0)) (au (ret (.int 1)) mNil))) mNil))) mNil)))))) (M.d (mFn f__law_draw [some 0,none] (dh 0 (bj (ret (.int 16)) ik))))))))
def f__law_odd:Fd:=fnD 2 1 agu
def aaw:M D :=
 (M.d (mOp (gInt fSub) (fu (M.d (mFn f__law_draw [some 1,none] (dh 1 (bj (M.d (mOp gAdd (bu 2 (fc 3)))) ik)))) (fc 3))))
def aas:Sd :=
 (dSeq (dSet 7 (mOp gAdd (fu (ret (.int 1)) (M.d (mFn f__law_draw [some 0,some 2] (dh 0 (dh 2 ik))))))) (af3 (M.v (mMut 5 ad5 (au (M.d (gf (g1 gT9) (au (M.d (v4 [none,some 0,some 3,some 4] (mGet uw (au (mVar 7) mNil)) (cu 0) (ret true) aaw)) mNil))) mNil)))))
def aep:Sd :=
 (dSeq (dSet 3 (mOp gAdd (fu (ret (.int 1)) (M.d (mFn f__law_draw [some 0,some 1] (dh 0 (dh 1 ik))))))) (dSeq (dSet 4 (mOp gIx (fu (M.d (mLst (au (ret (.int 0)) (au (ret (.int 1)) (au (ret (.int 3)) (au (ret (.int 3)) mNil)))))) (M.d (mFn f__law_draw [some 0,none] (dh 0 (bj (ret (.int 4)) ik))))))) (dSeq (dSet 5 (mLst mNil)) (dSeq (dFor (mGet uw (au (mVar 3) mNil)) (cu 6) aas) (dRet (gf (g1 gT9) (f9 5 mNil)))))))
def f__law_house:Fd:=fnD 8 3 aep
def yl:M Bool :=
 (mz (gIn true) (bu 0 (fc 1)))
def yj:M D :=
 (mVar 0)
def oh:M Bool :=
 (mz (gCmp fun i j=>decide (i < j)) (bu 3 (M.d (gf (g1 gL9) (f9 2 mNil)))))
def j4:Sd :=
 (dSeq (dIf (mz (gCmp fun i j=>decide (j<=i)) (fu (M.d (mOp gIx (bu 2 (fc 3)))) (ret (.int 0)))) (dSet 2 (mOp gAdd (bu 2 (M.d (v4 [none,some 2] (vp (M.d (gf (g1 gSet) (au (M.d (mOp gIx (bu 0 (M.d (mOp gIx (bu 2 (fc 3))))))) mNil)))) (cu 0) yl yj))))) dNx) (dSet 3 (mOp gAdd (bu 3 (ret (.int 1))))))
def aca:Sd :=
 (dSeq (dSet 2 (mLst (au (mVar 1) mNil))) (dSeq (dSet 3 (M.v (ret (.int 0)))) (dSeq (whileD oh j4 fuel) (dRet (ajb 2)))))
def qm:Fd:=fnD 4 2 aca
def l1__law_open:Sd :=
 (dIf (mz (gCmp fun i j=>decide (j<=i)) (fu (M.d (gf (g1 aw6) (au (M.d (mFn qm [some 3,none] (dh 3 (bj (mVar 4) ik)))) mNil))) (ret (.int 0)))) (dSeq (dSet 5 (mFn f__law_draw [some 0,none] (dh 0 (bj (M.d (gf (g1 gL9) (au (M.d (mOp gIx (bu 3 (fc 4)))) mNil))) ik)))) (dSub 3 (mVar 4) (M.d (mOp gAdd (fu (M.d (mOp gAdd (fu (M.d (mCut (M.d (mOp gIx (bu 3 (fc 4)))) (ret none) (afc (mVar 5)))) (mTup (au (M.d (mOp (gInt fSub) (fu (mUn gNeg (ret (.int 1))) (M.d (mFn f__law_draw [some 0,none] (dh 0 (bj (ret (.int 3)) ik))))))) mNil))))) (M.d (mCut (M.d (mOp gIx (bu 3 (fc 4)))) (afc (M.d (mOp gAdd (bu 5 (ret (.int 1)))))) (ret none)))))))) dNx)
def aft:Sd :=
 (dSeq (dSet 3 (gf (g1 fun d=>(itemsD d).map fun l=>.fr l) (au (M.d (mFn f__law_house [some 0,some 1,some 2] (dh 0 (dh 1 (dh 2 ik))))) mNil))) (dSeq (dFor (mGet uw (au (M.d (gf (g1 gL9) (f9 3 mNil))) mNil)) (cu 4) l1__law_open) (dRet (gf (g1 gT9) (f9 3 mNil)))))
def f__law_open:Fd:=fnD 6 3 aft
def aax:M D :=
 (M.d (mFn f__law_draw [some 1,none] (dh 1 (bj (M.d (gf (g1 gL9) (f9 0 mNil))) ik))))
def aeq:Sd :=
 (dRet (gf (g1 gT9) (au (M.d (v4 [none,some 0] (vp (mVar 1)) (cu 0) (ret true) aax)) mNil)))
def f__law_drawn:Fd:=fnD 2 2 aeq
def yh:M D :=
 (M.d (gf (g2 (gInt fun i j=>some (if j > i then j else i))) (au (ret (.int 0)) (au (M.d (mOp (gInt fSub) (fu (M.d (mFn f__law_draw [some 1,none] (dh 1 (bj (M.d (mOp gAdd (bu 2 (ret (.int 3))))) ik)))) (ret (.int 2))))) mNil))))
def ab9:Sd :=
 (dRet (gf (g1 gT9) (au (M.d (v4 [none,some 0,some 2] (vp (mVar 1)) (cu 0) (ret true) yh)) mNil)))
def ql:Fd:=fnD 3 3 ab9
def ack:Sd :=
 (dSeq (dSet 5 (mOp gIx (fu (M.d (mOp gIx (bu 0 (fc 4)))) (M.d (mOp gIx (bu 1 (fc 4))))))) (dSeq (dSub 1 (mVar 4) (M.d (mOp (gInt fMod) (fu (M.d (mOp gAdd (fu (M.d (mOp gIx (bu 1 (fc 4)))) (ret (.int 1))))) (M.d (gf (g1 gL9) (au (M.d (mOp gIx (bu 0 (fc 4)))) mNil))))))) (dSeq (dSub 2 (mVar 4) (M.d (mOp (gInt fSub) (fu (M.d (mOp gIx (bu 2 (fc 4)))) (ret (.int 1)))))) (dIf (mz (gCmp fun i j=>decide (j<=i)) (bu 5 (ret (.int 0)))) (dSub 2 (mVar 5) (M.d (mOp gAdd (fu (M.d (mOp gIx (bu 2 (fc 5)))) (ret (.int 1)))))) (dSub 3 (M.d (mOp (gInt fSub) (fu (M.d (mOp (gInt fSub) (fu (ret (.int 0)) (fc 5)))) (ret (.int 1))))) (M.d (mOp gAdd (fu (M.d (mOp gIx (bu 3 (M.d (mOp (gInt fSub) (fu (M.d (mOp (gInt fSub) (fu (ret (.int 0)) (fc 5)))) (ret (.int 1)))))))) (ret (.int 1))))))))))
def ux:Fd:=fnD 6 5 ack
def abk:M D :=
 (ret (.int 0))
def abo:M Bool :=
 (mz (gCmp fun i j=>decide (j < i)) (fu (M.d (mOp gIx (bu 1 (fc 0)))) (ret (.int 0))))
def abg:M D :=
 (mVar 0)
def yq:M Bool :=
 (mz (gCmp fun i j=>decide (j < i)) (fu (M.d (gf (g1 atx) (f9 2 mNil))) (ret (.int 0))))
def yo:Sd :=
 (dSeq (dSet 5 (gf (g1 atx) (au (M.d (v4 [none,some 2] (mGet uw (au (M.d (gf (g1 gL9) (f9 0 mNil))) mNil)) (cu 0) abo abg)) mNil))) (dSeq (af3 (mFn ux [some 0,some 1,some 2,some 3,none] (dh 0 (dh 1 (dh 2 (dh 3 (bj (mVar 5) ik))))))) (dSub 4 (mVar 5) (M.d (mOp gAdd (fu (M.d (mOp gIx (bu 4 (fc 5)))) (ret (.int 1))))))))
def afs:Sd :=
 (dSeq (aqt 1 2 (gf (g1 fun d=>(itemsD d).map fun l=>.fr l) (f9 1 mNil)) (gf (g1 fun d=>(itemsD d).map fun l=>.fr l) (f9 2 mNil))) (dSeq (aqt 3 4 (mLst (au (ret (.int 0)) (au (ret (.int 0)) (au (ret (.int 0)) mNil)))) (v4 [none] (vp (mVar 0)) (cu 0) (ret true) abk)) (dSeq (whileD yq yo fuel) (dRet (M.v (mTup (au (M.d (gf (g1 gT9) (f9 3 mNil))) (au (M.d (gf (g1 gT9) (f9 1 mNil))) (au (M.d (gf (g1 gT9) (f9 4 mNil))) mNil)))))))))
def yc:Fd:=fnD 6 3 afs
def zy:M D :=
 (mAnd (M.d (mFn vm [some 0] (dh 0 ik))) (M.d (mOp (gCmp fun i j=>decide (j<=i)) (bu 0 (ret (.int 0))))))
def v6:Sd :=
 (dSeq (dIf (mOrB (ab4 (vz (mIsi .tuple (fc 0)))) (mz (gEq true) (fu (M.d (gf (g1 gL9) (f9 0 mNil))) (fc 1)))) (dRet (M.v (ret (.bl false)))) dNx) (dRet (gf (g1 gAll) (au (M.d (v4 [none] (vp (mVar 0)) (cu 0) (ret true) zy)) mNil))))
def m9:Fd:=fnD 2 2 v6
def afr:Sd :=
 (dSeq (dAsg (M.d (mOp gIx (fu (M.d (mLst (au (mTup (au (ret (.int 3)) (au (ret (.int 4)) mNil))) (au (mTup (au (ret (.int 4)) (au (ret (.int 3)) mNil))) (au (mTup (au (ret (.int 5)) (au (ret (.int 3)) mNil))) (au (mTup (au (ret (.int 5)) (au (ret (.int 2)) mNil))) (au (mTup (au (ret (.int 4)) (au (ret (.int 4)) mNil))) (au (mTup (au (ret (.int 3)) (au (ret (.int 6)) mNil))) (au (mTup (au (ret (.int 2)) (au (ret (.int 6)) mNil))) (au (mTup (au (ret (.int 8)) (au (ret (.int 2)) mNil))) mNil)))))))))) (M.d (mFn f__law_draw [some 0,none] (dh 0 (bj (ret (.int 8)) ik))))))) (bTup 2 (ir (cu 1) (ir (cu 2) bNil)))) (dRet (mFn f__law_open [some 0,some 1,some 2] (dh 0 (dh 1 (dh 2 ik))))))
def f__law_wide:Fd:=fnD 3 1 afr
def l1__law_fits:Sd :=
 (dIf (mz (gCmp fun i j=>decide (j<=i)) (bu 8 (ret (.int 0)))) (dSeq (dSet 9 (mOp (gInt fMod) (fu (M.d (mOp (gInt fSub) (bu 7 (M.d (mOp gIx (bu 1 (fc 5))))))) (M.d (gf (g1 gL9) (f9 6 mNil)))))) (dSub 4 (mVar 8) (M.d (mOp gAdd (fu (M.d (mOp gIx (bu 4 (fc 8)))) (M.d (mOp (gInt fDiv) (fu (M.d (mOp (gInt fSub) (fu (M.d (mOp (gInt fSub) (fu (M.d (mOp gAdd (fu (M.d (mOp gIx (bu 3 (fc 5)))) (M.d (gf (g1 gL9) (f9 6 mNil)))))) (ret (.int 1))))) (fc 9)))) (M.d (gf (g1 gL9) (f9 6 mNil))))))))))) dNx)
def l2__law_fits:Sd :=
 (dFor (mGet anw (au (mVar 6) mNil)) (bTup 2 (ir (cu 7) (ir (cu 8) bNil))) l1__law_fits)
def afv:Sd :=
 (dSeq (dSet 4 (gf (g1 fun d=>(itemsD d).map fun l=>.fr l) (f9 2 mNil))) (dSeq (dFor (mGet anw (au (mVar 0) mNil)) (bTup 2 (ir (cu 5) (ir (cu 6) bNil))) l2__law_fits) (dRet (mOp (gEq false) (fu (M.d (gf (g1 gT9) (f9 4 mNil))) (fc 3))))))
def yg:Fd:=fnD 10 4 afv
def l1__law_round_nowhere:Sd :=
 (dIf (apt (mz (gCmp fun i j=>decide (j<=i)) (bu 4 (ret (.int 0)))) (mz (gCmp fun i j=>decide (j < i)) (fu (M.d (mOp gIx (bu 2 (fc 4)))) (ret (.int 0))))) (dSeq (dSet 6 (mOp gIx (bu 0 (fc 4)))) (dSeq (dSet 4 (mOp gIx (bu 6 (M.d (mOp (gInt fMod) (fu (M.d (mOp (gInt fSub) (fu (M.d (mOp gAdd (fu (M.d (mOp gIx (bu 1 (fc 4)))) (M.d (mOp gIx (bu 2 (fc 4))))))) (ret (.int 1))))) (M.d (gf (g1 gL9) (f9 6 mNil))))))))) (dIf (mz (gEq false) (bu 4 (fc 3))) (dRet (M.v (ret (.bl false)))) dNx))) dNx)
def l2__law_round_nowhere:Sd :=
 (dSeq (dSet 4 (M.v (mVar 3))) (dFor (mGet uw (au (M.d (gf (g1 gL9) (f9 0 mNil))) mNil)) (cu 5) l1__law_round_nowhere))
def qg:Sd :=
 (dSeq (dFor (mGet uw (au (M.d (gf (g1 gL9) (f9 0 mNil))) mNil)) (cu 3) l2__law_round_nowhere) (dRet (M.v (ret (.bl true)))))
def je:Fd:=fnD 7 3 qg
def ad4:Sd :=
 (dSeq (dIf (mOrB (ab4 (vz (M.d (mFn m9 [none,none] (bj (mVar 3) (bj (M.d (gf (g1 gL9) (f9 0 mNil))) ik)))))) (ab4 (vz (M.d (mFn yg [none,some 1,some 2,some 3] (bj (mVar 0) (dh 1 (dh 2 (dh 3 ik))))))))) (dRet (M.v (ret (.bl false)))) dNx) (dRet (mFn je [some 0,some 1,some 3] (dh 0 (dh 1 (dh 3 ik))))))
def wz:Fd:=fnD 4 4 ad4
def vd:M Bool :=
 (apt (mz (gCmp fun i j=>decide (j<=i)) (fu (M.d (mOp gIx (bu 3 (mUn gNeg (ret (.int 1)))))) (ret (.int 0)))) (mz (gIn true) (fu (M.d (mOp gIx (bu 3 (mUn gNeg (ret (.int 1)))))) (M.d (ajc 3 (ret none) (afc (mUn gNeg (ret (.int 1)))))))))
def aa5:Sd :=
 (dSeq (dSet 4 (mOp gIx (bu 0 (M.d (mOp gIx (bu 3 (mUn gNeg (ret (.int 1))))))))) (af3 (M.v (mMut 3 ad5 (au (M.d (mOp gIx (bu 4 (M.d (mOp (gInt fMod) (fu (M.d (mOp gAdd (fu (M.d (mOp gIx (bu 1 (M.d (mOp gIx (bu 3 (mUn gNeg (ret (.int 1))))))))) (M.d (mOp gIx (bu 2 (M.d (mOp gIx (bu 3 (mUn gNeg (ret (.int 1)))))))))))) (M.d (gf (g1 gL9) (f9 4 mNil))))))))) mNil)))))
def abl:M D :=
 (M.d (mOp gAdd (bu 1 (M.d (gf (g1 aqb) (au (M.d (mOp (gIn false) (bu 0 (fc 2)))) mNil))))))
def afu:Sd :=
 (dSeq (dSet 3 (mLst (au (ret (.int 0)) mNil))) (dSeq (whileD vd aa5 fuel) (dSeq (dSet 5 (ajc 3 (afc (M.d (mOp gAdd (fu (awv 3 ajo (au (M.d (mOp gIx (bu 3 (mUn gNeg (ret (.int 1)))))) mNil)) (ret (.int 1)))))) (ret none))) (dRet (gf (g1 gT9) (au (M.d (v4 [none,none,some 5] (mGet anw (au (mVar 2) mNil)) (bTup 2 (ir (cu 0) (ir (cu 1) bNil))) (ret true) abl)) mNil))))))
def ye:Fd:=fnD 6 3 afu
def afw:Sd :=
 (dSeq (dSet 2 (mFn f__law_draw [some 0,none] (dh 0 (bj (M.d (gf (g1 gL9) (f9 1 mNil))) ik)))) (dSeq (dSet 3 (mOp gIx (fu (M.d (mLst (au (M.d (mOp gAdd (fu (M.d (mOp gIx (bu 1 (fc 2)))) (ret (.int 1))))) (au (M.d (mOp (gInt fSub) (fu (M.d (mOp gIx (bu 1 (fc 2)))) (ret (.int 1))))) (au (ret (.bl true)) (au (ret .non) (au (mUn gNeg (ret (.int 1))) (au (M.d (mOp gAdd (fu (M.d (mOp gIx (bu 1 (fc 2)))) (M.d (gf (g1 gL9) (f9 1 mNil)))))) (au (ret (.int 0)) (au (ret (.str "0")) mNil)))))))))) (M.d (mFn f__law_draw [some 0,none] (dh 0 (bj (ret (.int 8)) ik))))))) (dSeq (dSet 4 (mLst (au (M.d (mOp gAdd (fu (M.d (mOp gAdd (fu (M.d (ajc 1 (ret none) (afc (mVar 2)))) (mTup (au (mVar 3) mNil))))) (M.d (ajc 1 (afc (M.d (mOp gAdd (bu 2 (ret (.int 1)))))) (ret none)))))) (au (M.d (mOp gAdd (bu 1 (mTup (au (ret (.int 0)) mNil))))) (au (M.d (ajc 1 (afc (ret (.int 1))) (ret none))) (au (M.d (gf (g1 fun d=>(itemsD d).map fun l=>.fr l) (f9 1 mNil))) (au (M.d (awu (mVar 1) (mUn gNeg (ret (.int 1))))) (au (mTup (au (mVar 1) mNil)) mNil)))))))) (dRet (mOp gIx (bu 4 (M.d (mFn f__law_draw [some 0,none] (dh 0 (bj (ret (.int 6)) ik))))))))))
def f__law_bent:Fd:=fnD 5 2 afw
def aeo:Sd :=
 (dSeq (dSet 4 (mFn pq [none,none,none,none] (bj (mVar 0) (bj (mVar 1) (bj (mVar 2) (bj (mVar 3) ik)))))) (dSeq (dIf (mOrB (ab4 (vz (mIsi .bool (fc 4)))) (mz (gEq true) (bu 4 (M.d (mFn wz [none,some 1,some 2,none] (bj (mVar 0) (dh 1 (dh 2 (bj (mVar 3) ik))))))))) (dRet (M.v (ret (.bl false)))) dNx) (dRet (mOp (gEq false) (fu (M.d (mFn pq [none,none,none,none] (bj (mVar 0) (bj (mVar 1) (bj (mVar 2) (bj (mVar 3) ik)))))) (fc 4))))))
def m5:Fd:=fnD 5 4 aeo
def al4:Sd :=
 (dIf (mOrB (ab4 (vz (M.d (mFn m5 [none,none,none,none] (bj (mTup (au (mTup (au (mUn gNeg (ret (.int 1))) (au (ret (.int 0)) mNil))) mNil)) (bj (mTup (au (ret (.int 0)) mNil)) (bj (mTup (au (ret (.int 1)) mNil)) (bj (mVar 1) ik)))))))) (ab4 (vz (M.d (mFn m5 [none,none,none,none] (bj (mTup (au (mTup (au (mUn gNeg (ret (.int 1))) (au (ret (.int 0)) mNil))) mNil)) (bj (mTup (au (ret (.int 1)) mNil)) (bj (mTup (au (ret (.int 0)) mNil)) (bj (mVar 1) ik))))))))) (dRet (M.v (ret (.bl false)))) dNx)
def aqr:M D :=
 (ret (.int 0))
def amg:M D :=
 (M.d (mFn f__law_bent [some 1,some 2] (dh 1 (dh 2 ik))))
def ajj:Sd :=
 (dSeq (dIf (ab4 (vz (M.d (mFn m5 [none,none,none,none] (bj (mVar 4) (bj (mVar 5) (bj (mVar 6) (bj (mVar 1) ik)))))))) (dRet (M.v (ret (.bl false)))) dNx) (dIf (apt (mz gNeT (bu 1 (fc 7))) (vz (M.d (mFn pq [none,none,none,none] (bj (mVar 4) (bj (mVar 5) (bj (mVar 6) (bj (mVar 1) ik)))))))) (dRet (M.v (ret (.bl false)))) dNx))
def l3_law:Sd :=
 (dSeq (dSet 3 (mFn f__law_pen [some 2] (dh 2 ik))) (dSeq (dSet 4 (mFn f__law_wide [some 3] (dh 3 ik))) (dSeq (dPar 5 6 (au (M.d (mFn f__law_drawn [some 3,none] (dh 3 (bj (mVar 4) ik)))) (au (M.d (mFn ql [some 3,none,none] (dh 3 (bj (mVar 4) (bj (ret (.int 3)) ik))))) mNil))) (dSeq (dSet 7 (mOp gIx (fu (M.d (mFn yc [none,some 5,some 6] (bj (mVar 4) (dh 5 (dh 6 ik))))) (ret (.int 2))))) (dSeq (dIf (vz (aps true true (M.d (mFn pq [none,none,none,none] (bj (mVar 4) (bj (mVar 5) (bj (mVar 6) (bj (mVar 7) ik)))))))) (dRet (M.v (ret (.bl false)))) dNx) (dSeq (dSet 8 (mLst (au (M.d (mFn ye [some 4,some 5,none] (dh 4 (dh 5 (bj (mVar 7) ik))))) (au (M.d (gf (g1 gT9) (au (M.d (v4 [none] (vp (mVar 4)) (cu 0) (ret true) aqr)) mNil))) (au (mVar 6) (au (M.d (mFn f__law_odd [some 3] (dh 3 ik))) mNil)))))) (dFor (vp (M.d (mOp gAdd (bu 8 (M.d (v4 [none,some 3,some 7] (mGet uw (au (ret (.int 4)) mNil)) (cu 0) (ret true) amg)))))) (cu 1) ajj)))))))
def a0p:Sd :=
 (dSeq (dFor (vp (M.d (mLst (au (mTup (au (ret (.int 0)) mNil)) (au (mTup (au (ret (.int 1)) mNil)) (au (mTup (au (ret (.int 2)) mNil)) (au (mTup (au (ret (.bl false)) mNil)) (au (M.d (mLst (au (ret (.int 0)) mNil))) (au (ret .non) (au (mTup (au (ret (.int 0)) (au (ret (.int 0)) mNil))) mNil)))))))))) (cu 1) al4) (dSeq (dFor (vp (M.d (mOp gAdd (fu (M.d (mLst (au (M.d (mFn f__law_cell [some 0,none] (dh 0 (bj (ret (.int 0)) ik)))) mNil))) (M.d (ajc 0 (afc (ret (.int 1))) (afc (ret (.int 3))))))))) (cu 2) l3_law) (dRet (M.v (ret (.bl true))))))
def aqk:Fd:=fnD 9 1 a0p
def aec:D->Bool
 | .int _=>true
 | _=>false
def ag1(a b:Int):D->Bool
 | .int i=>decide (a<=i)&&decide (i<=b)
 | _=>false
@[simp] theorem aw0(d:D):wy [.val d]=some (.ok (.v (.bl (aec d))),[.val d]):=by
 cases d <;> simp[wy,ags,isTy,aec]
@[simp] theorem al7(d:D)(a b:Int):jz [.val d,.val (.int a),.val (.int b)]=some (.ok (.v (.bl (ag1 a b d))),[.val d,.val (.int a),.val (.int b)]):=by
 cases d <;> simp[jz,aai,aec,ag1]
theorem aq2(ns:List Int)(k:Int)(h:0<=k):∃n,f__law_cell [.val (.kst (ns.map D.int)),.val (.int k)]=some (.ok (.v (.int n)),[.val (.kst (ns.map D.int)),.val (.int k)]):=by
 by_cases hk:k < (ns.length:Int)
 ·have e:atI (ns.map D.int) k=some (.int (ns[k.toNat]'(by omega))):=by
   have h2:atI (ns.map D.int) ((k.toNat:Nat):Int)=some (.int (ns[k.toNat]'(by omega))):=aia (by simp[aU,aC (show k.toNat < ns.length by omega)])
   rw[show((k.toNat:Nat):Int)=k by omega] at h2
   exact h2
  exact⟨ns[k.toNat]'(by omega),by simp[f__law_cell,acn,hk,e]⟩
 ·exact⟨0,by simp[f__law_cell,acn,hk]⟩
def pen(P:Int×Int):List D:=[.int P.1,.int P.2]
theorem aso(n:Int):∃P,f__law_pen [.val (.int n)]=some (.ok (.fr (pen P)),[.val (.int n)]):=by
 refine⟨(if 0 - n > n then 0 - n else n,if 10 ^ 18<=(if 0 - n > n then 0 - n else n) then 1 else 0),?_⟩
 simp[f__law_pen,agt,pen,fPow]
theorem my(P:Int×Int)(m:Int)(h0:0 < m)(h1:m < 1000000000000000000000000000000000000000000000000000000000000):∃r P',f__law_draw [.own (some 0) (pen P),.val (.int m)]=some (.ok (.v (.int r)),[.own (some 0) (pen P'),.val (.int m)])/\0<=r/\r < m:=by
 obtain⟨a,b⟩:=P
 by_cases hb:b=1
 ·refine⟨a % m,(a / m,b),?_,fD _ (by omega),cV _ h0⟩
  simp[f__law_draw,acl,pen,hb,h0,h1,atI,ixN]
 ·have z0:0<=(a % 2147483647+40503)*69621 % 2147483629:=fD _ (by decide)
  have z1:(a % 2147483647+40503)*69621 % 2147483629 < 2147483629:=cV _ (by decide)
  generalize hz:(a % 2147483647+40503)*69621 % 2147483629=z at z0 z1;have hm:fMul z z=some (z*z):=by
   unfold fMul;rw[if_pos (.inl ⟨by omega,by omega⟩)]
  refine⟨((z*z+7817) % 2147483587*48271+11) % 2147483629 / 32 % m,(((z*z+7817) % 2147483587*48271+11) % 2147483629,b),?_,fD _ (by omega),cV _ h0⟩
  have h69:∀x:Int,fMul x 69621=some (x*69621):=fun x=>by unfold fMul;rw[if_pos (.inr (by decide))]
  have h48:∀x:Int,fMul x 48271=some (x*48271):=fun x=>by unfold fMul;rw[if_pos (.inr (by decide))]
  simp[f__law_draw,acl,pen,hb,h0,h1,atI,ixN,h69,h48,hm,fMod,fDiv,hz]
structure HouseOk (m w:Int) (qv:LL9):Prop where
 one:1<=qv.length
 most:(qv.length:Int)<=m
 room:∀r∈qv,1<=r.length/\(r.length:Int)<=w/\∀x∈r,-3<=x/\x < (qv.length:Int)
def hDs(qv:LL9):List D:=qv.map fun r=>D.tup (r.map D.int)
def hD(qv:LL9):D:=.tup (hDs qv)
theorem anr(P:Int×Int)(m w:Int)(m1:1<=m)(m2:m<=10)(w1:1<=w)(w2:w<=6):∃qv P',f__law_house [.own (some 0) (pen P),.val (.int m),.val (.int w)]=some (.ok (.v (hD qv)),[.own (some 0) (pen P'),.val (.int m),.val (.int w)])/\HouseOk m w qv:=by
 obtain⟨r1,P1,e1,r1a,r1b⟩:=my P m (by omega) (by omega)
 obtain⟨r2,P2,e2,r2a,r2b⟩:=my P1 4 (by decide) (by decide)
 have hg:∃g:Int,atI [D.int 0,D.int 1,D.int 3,D.int 3] r2=some (.int g)/\0<=g/\g<=3:=by
  have:r2=0∨r2=1∨r2=2∨r2=3:=by omega
  rcases this with rfl | rfl | rfl | rfl
  ·exact⟨0,rfl,by decide,by decide⟩
  ·exact⟨1,rfl,by decide,by decide⟩
  ·exact⟨3,rfl,by decide,by decide⟩
  ·exact⟨3,rfl,by decide,by decide⟩
 obtain⟨g,eg,g0,g3⟩:=hg;have loop:=zc (b:=cu 6) (g:=aas) (fun i ρ=>∃qv P o1 o2,ρ=[.own (some 0) (pen P),.val (.int m),.val (.int w),.val (.int (1+r1)),.val (.int g),.own none (hDs qv),o1,o2]/\qv.length=i/\∀r∈qv,1<=r.length/\(r.length:Int)<=w/\∀x∈r,-3<=x/\x < 1+r1)
  (l:=jg 0 (1+r1).toNat) (ρ:=[.own (some 0) (pen P2),.val (.int m),.val (.int w),.val (.int (1+r1)),.val (.int g),.own none [],.emp,.emp]) 0 ⟨[],P2,.emp,.emp,rfl,rfl,by simp⟩ ?_
 ·obtain⟨ρ',e3,qv,P3,o1,o2,rfl,hl,hr⟩:=loop;have hl:qv.length=(1+r1).toNat:=by simpa[jg] using hl
  refine⟨qv,P3,?_,by omega,by omega,fun r h =>?_⟩
  ·have hb:(1+r1).natAbs < 4611686018427387904:=by omega
   simp[f__law_house,aep,e1,e2,eg,hb,e3,hD]
  ·obtain⟨a,b,c⟩:=hr r h;exact⟨a,b,fun x hx=>by have:=c x hx;omega⟩
 ·rintro i d ρ hd ⟨qv,P4,o1,o2,rfl,hl,hr⟩
  obtain⟨r5,P5,e5,r5a,r5b⟩:=my P4 w (by omega) (by omega)
  have comp:=p6 (b:=cu 0) (mc:=ret true) (me:=aaw) (fun j ys ρ=>∃ns P o,ρ=[o,.own (some 1) (pen P),.val (.int (1+r1)),.val (.int g)]/\ys=ns.map D.int/\ns.length=j/\∀x∈ns,-3<=x/\x < 1+r1)
   (l:=jg 0 (1+r5).toNat) (ys:=[]) (ρ:=[.emp,.own (some 1) (pen P5),.val (.int (1+r1)),.val (.int g)]) 0 ⟨[],P5,.emp,rfl,rfl,rfl,by simp⟩ ?_
  ·obtain⟨ys,ρ',e6,ns,P6,o,rfl,rfl,hn,hx⟩:=comp;have hn:ns.length=(1+r5).toNat:=by simpa[jg] using hn
   have hb:(1+r5).natAbs < 4611686018427387904:=by omega
   have hc1:ns.length<=capS:=bh (by omega)
   have hi:i < (1+r1).toNat:=by
    have:=(aM.mp hd).1
    simpa[jg] using this
   have hc2:(hDs qv).length < capS:=by simp[hDs,capS];omega
   refine⟨_,[.own (some 0) (pen P6),.val (.int m),.val (.int w),.val (.int (1+r1)),.val (.int g),.own none (hDs (qv++[ns])),.val d,.val (.int (1+r5))],rfl,.inl (by simp[aas,e5,hb,e6,hc1,hc2];simp[hDs]),qv++[ns],P6,_,_,rfl,by simp[hl],fun r h =>?_⟩
   rcases cN.mp h with h | h
   ·exact hr r h
   ·obtain rfl:r=ns:=by simpa using h
    exact⟨by omega,by omega,hx⟩
  ·rintro j d ys ρ hd ⟨ns,P6,o,rfl,rfl,hn,hx⟩
   obtain⟨r7,P7,e7,r7a,r7b⟩:=my P6 (1+r1+g) (by omega) (by omega)
   refine⟨_,_,true,rfl,rfl,.inr ⟨rfl,.int (r7 - g),_,by simp[aaw,e7];rfl,ns++[r7 - g],P7,_,rfl,by simp,by simp[hn],fun x h =>?_⟩⟩
   rcases cN.mp h with h | h
   ·exact hx x h
   ·obtain rfl:x=r7 - g:=by simpa using h
    omega
@[simp] theorem auw(d:D):vm [.val d]=some (.ok (.v (.bl (aec d))),[.val d]):=by
 cases d <;> simp[vm,aen,isTy,aec]
structure Hs (qv:LL9):Prop where
 one:1<=qv.length
 most:qv.length<=10
 room:∀r∈qv,1<=r.length/\r.length<=6/\∀x∈r,-3<=x/\x < (qv.length:Int)
def dr(qv:LL9)(x:Int):List Int:=qv.getD x.toNat []
inductive Rch (qv:LL9) (a:Int):Int->Prop
 | base:Rch qv a a
 | step {x d:Int}:Rch qv a x->0<=x->d∈dr qv x->Rch qv a d
theorem aea{qv:LL9}{x:Int}(h0:0<=x)(h1:x < (qv.length:Int)):atI (hDs qv) x=some (.tup ((dr qv x).map D.int)):=by
 have hk:x.toNat < qv.length:=by omega
 have q:atI (hDs qv) ((x.toNat:Nat):Int)=some (.tup ((dr qv x).map D.int)):=aia (by simp[hDs,dr,aC hk])
 rw[show((x.toNat:Nat):Int)=x by omega] at q
 exact q
theorem Hs.dr{qv:LL9}(h:Hs qv){x:Int}(h0:0<=x)(h1:x < (qv.length:Int)):1<=(dr qv x).length/\(My.dr qv x).length<=6/\∀y∈My.dr qv x,-3<=y/\y < (qv.length:Int):=by
 have hk:x.toNat < qv.length:=by omega
 have e:My.dr qv x=qv[x.toNat]:=by simp[My.dr,hk]
 rw[e];exact h.room _ (bO hk)
theorem Rch.range{qv:LL9}(h:Hs qv){a x:Int}(ha:0<=a/\a < (qv.length:Int))(r:Rch qv a x) : -3<=x/\x < (qv.length:Int):=by
 induction r with
 | base=>omega
 | step r h0 hd ih=>exact(h.dr h0 ih.2).2.2 _ hd
theorem ai8:∀(m:Nat) (l:List Int),l.Nodup->(∀x∈l,-3<=x/\x < (m:Int) - 3)->l.length<=m
 | 0,l,_,h=>by
  cases l with
  | nil=>simp
  | cons x r=>have:=h x (aR ..);omega
 | m+1,l,hn,h=>by
  have h1:(l.erase ((m:Int) - 3)).length<=m:=ai8 m _ (hn.erase _) fun x hx=>by
   rw[hn.mem_erase_iff] at hx;have:=h x hx.2;have:=hx.1;omega
  have h2:l.length<=(l.erase ((m:Int) - 3)).length+1:=by
   rw[tY];split <;> omega
  omega
theorem avu{qv:LL9}(h:Hs qv){a:Int}(ha:0<=a/\a < (qv.length:Int)){ns:List Int}(hn:ns.Nodup)(hr:∀x∈ns,Rch qv a x):ns.length<=13:=by
 have:=ai8 (qv.length+3) ns hn fun x hx=>by have:=Rch.range h ha (hr x hx);omega
 have:=h.most;omega
theorem ana{qv:LL9}{a:Int}{ns:List Int}(h0:a∈ns)(hc:∀x∈ns,0<=x->∀d∈dr qv x,d∈ns){x:Int}(r:Rch qv a x):x∈ns:=by
 induction r with
 | base=>exact h0
 | step r h0 hd ih=>exact hc _ ih h0 _ hd
theorem a06{ns:List Int}{i:Nat}(h:i < ns.length):atI (ns.map D.int) (i:Int)=some (.int ns[i]):=aia (by simp[aC h])
def a1d(qv:LL9)(S:Sl):Prop:=S=.val (hD qv)∨S=.own (some 0) (hDs qv)
theorem ais{qv:LL9}(h:Hs qv){S:Sl}(hS:a1d qv S){a:Int}{ns:List Int}{i:Nat}(hi:i < ns.length)(hz:ns.length<=13)(hx:ns[i] < (qv.length:Int)) :
  j4 [S,.val (.int a),.own none (ns.map D.int),.val (.int (i:Nat))]=some (.nx,[S,.val (.int a),.own none ((if 0<=ns[i] then ns++(setI (dr qv ns[i])).filter (fun d => !decide (d∈ns)) else ns).map D.int),.val (.int ((i:Nat)+1))]):=by
 have ei:=a06 hi
 by_cases h0:0<=ns[i]
 ·obtain⟨k1,k2,k3⟩:=h.dr h0 hx;have er:=aea h0 hx;have es:=aqa (ns:=dr qv ns[i]) (by omega)
  have ef:compD (cu 0) yl yj ((setI (dr qv ns[i])).map D.int) [] [.emp,.own (some 1) (ns.map D.int)]=some (.ok (((setI (dr qv ns[i])).filter (fun d => !decide (d∈ns))).map D.int),aar .emp ((setI (dr qv ns[i])).map D.int)::[.own (some 1) (ns.map D.int)]):=by
   rw[rn (p:=fun d=>match d with | .int k => !decide (k∈ns) | _=>false) (f:=id)]
   ·simp[mR,iK]
   ·intro d hd;obtain⟨k,_,rfl⟩:=cO.mp hd;simp[yl,afy]
   ·intro d hd _;simp[yj]
  have hlen:(setI (dr qv ns[i])).length<=6:=by
   unfold setI;rw[(sortI_perm _).length_eq];exact cC (ach _) k2
  have hc1:((setI (dr qv ns[i])).filter (fun d => !decide (d∈ns))).length<=6:=cC (dU _ _) hlen
  have hc2:ns.length+((setI (dr qv ns[i])).filter (fun d => !decide (d∈ns))).length<=capS:=bh (by omega)
  have hc3:((setI (dr qv ns[i])).filter (fun d => !decide (d∈ns))).length<=capS:=bh (by omega)
  rcases hS with rfl | rfl
  ·simp[j4,hD,ei,h0,er,es,ef,hc1,hc2,hc3]
  ·simp[j4,ei,h0,er,es,ef,hc1,hc2,hc3]
 ·simp[j4,ei,h0]
theorem ait{qv:LL9}(h:Hs qv){S:Sl}(hS:a1d qv S){a:Int}(ha:0<=a/\a < (qv.length:Int)) :
  ∃ns:List Int,qm [S,.val (.int a)]=some (.ok (.fr (ns.map D.int)),[S,.val (.int a)])/\ns≠[]/\∀x,x∈ns↔Rch qv a x:=by
 have loop:=v8 (c:=oh) (g:=j4)
  (fun k ρ=>∃(ns:List Int) (i:Nat),ρ=[S,.val (.int a),.own none (ns.map D.int),.val (.int (i:Nat))]/\k=20 - i/\i<=ns.length/\ns.Nodup/\a∈ns/\(∀x∈ns,Rch qv a x)/\∀j (hj:j < ns.length),j < i->0<=ns[j]->∀d∈dr qv ns[j],d∈ns)
  (fun ρ=>∃(ns:List Int) (o:Sl),ρ=[S,.val (.int a),.own none (ns.map D.int),o]/\ns≠[]/\∀x,x∈ns↔Rch qv a x) ?_ fuel 20 [S,.val (.int a),.own none ([a].map D.int),.val (.int ((0:Nat):Int))] (jL (by decide) adi)
  ⟨[a],0,rfl,rfl,by simp,by simp,by simp,by simp;exact .base,fun j hj hlt=>absurd hlt (mL _)⟩
 ·obtain⟨ρ',e,ns,o,rfl,hne,hm⟩:=loop;have e:whileD oh j4 fuel [S,.val (.int a),.own none [.int a],.val (.int 0)]=some (.nx,[S,.val (.int a),.own none (ns.map D.int),o]):=e;refine⟨ns,?_,hne,hm⟩;rcases hS with rfl | rfl <;> simp[qm,aca,e]
 ·rintro k ρ ⟨ns,i,rfl,rfl,hi,hn,h0,hr,hc⟩
  have hz:=avu h ha hn hr
  by_cases hlt:i < ns.length
  ·refine .inr ⟨[S,.val (.int a),.own none (ns.map D.int),.val (.int (i:Nat))],_,20 - (i+1),?_,ais h hS hlt hz (Rch.range h ha (hr _ (bO hlt))).2,by omega,?_⟩
   ·have:(i:Int) < (ns.length:Int):=by omega
    rcases hS with rfl | rfl <;> simp[oh,this]
   ·by_cases hp:0<=ns[i]
    ·rw[if_pos hp];refine⟨_,i+1,rfl,rfl,by simp;omega,?_,gD _ h0,?_,?_⟩
     ·rw[oU];refine⟨hn,mV sX (ank _),fun x hx y hy e =>?_⟩
      have:=(bR.mp hy).2;subst e;simp[hx] at this
     ·intro x hx;rcases cN.mp hx with hx | hx
      ·exact hr x hx
      ·exact .step (hr _ (bO hlt)) hp ((al0 _ _).mp (bR.mp hx).1)
     ·intro j hj hji hjp d hd;have hjl:j < ns.length:=by omega
      rw[List.getElem_append_left hjl] at hjp hd;rcases fY j i with z | z
      ·exact gD _ (hc j hjl z hjp d hd)
      ·have:j=i:=by omega
       subst this
       by_cases hdn:d∈ns
       ·exact gD _ hdn
       ·exact cT _ (bR.mpr ⟨(al0 _ _).mpr hd,by simp[hdn]⟩)
    ·rw[if_neg hp];refine⟨_,i+1,rfl,rfl,hlt,hn,h0,hr,?_⟩;intro j hj hji hjp d hd;rcases fY j i with z | z
     ·exact hc j hj z hjp d hd
     ·have:j=i:=by omega
      subst this;exact absurd hjp hp
  ·refine .inl ⟨[S,.val (.int a),.own none (ns.map D.int),.val (.int (i:Nat))],?_,ns,_,rfl,List.ne_nil_of_mem h0,fun x=>⟨hr x,ana h0 fun y hy hp d hd =>?_⟩⟩
   ·have:¬(i:Int) < (ns.length:Int):=by omega
    rcases hS with rfl | rfl <;> simp[oh,this]
   ·obtain⟨j,hj,rfl⟩:=gC.mp hy;exact hc j hj (by omega) hp d hd
open Classical in
noncomputable def caught(qv:LL9)(a:Int):Bool:=decide (∀x,Rch qv a x->0<=x)
theorem w6(qv:LL9)(a:Int):caught qv a=true↔∀x,Rch qv a x->0<=x:=by
 unfold caught;exact @decide_eq_true_iff _ (Classical.propDecidable _)
def upto(n:Nat):List Int:=(aY n).map fun i=>((i:Nat):Int)
theorem acf(n:Nat):jg 0 n=(upto n).map D.int:=by
 unfold jg upto;rw[fG];apply jW;intro i _;simp
theorem j8{n:Nat}{x:Int}(h:x∈upto n):0<=x/\x < (n:Int):=by
 obtain⟨i,hi,rfl⟩:=cO.mp h;have:=cW.mp hi;omega
noncomputable def xf(qv:LL9):List Int:=(upto qv.length).filter (caught qv)
theorem ae1{qv:LL9}(h:Hs qv):(qv.length:Int).natAbs < 4611686018427387904:=by have:=h.most;omega
theorem ao7{qv:LL9}(h:Hs qv):uw [.int (qv.length:Int)]=some (jg 0 qv.length):=by
 rw[ak1,if_pos (ae1 h),aZ]
def keepI(qv:LL9)(S:List Int):List Int:=S.filter fun x=>(dr qv x).all fun d=>decide (d∈S)
theorem avl{qv:LL9}(h:Hs qv)(S:List Int){x:Int}(h0:0<=x)(h1:x < (qv.length:Int)) :
  ah8 [.val (.int x),.val (.lst (S.map D.int)),.val (hD qv)]=some (.ok ((dr qv x).all fun d=>decide (d∈S)),[.val (.int x),.val (.lst (S.map D.int)),.val (hD qv)]):=by
 have er:=aea h0 h1;obtain⟨k1,k2,k3⟩:=h.dr h0 h1;have ef:compD (cu 0) (ret true) ak7 ((dr qv x).map D.int) [] [.emp,.val (.lst (S.map D.int))]=some (.ok ((dr qv x).map fun d=>.bl (decide (d∈S))),aar .emp ((dr qv x).map D.int)::[.val (.lst (S.map D.int))]):=by
  rw[vo (f:=fun d=>match d with | .int k=>.bl (decide (k∈S)) | _=>.non)]
  ·simp
  ·intro d hd;obtain⟨k,_,rfl⟩:=cO.mp hd;simp[ak7,afy]
 have hc:(dr qv x).length<=capS:=bh (by omega)
 have hb:rz ((dr qv x).map fun d=>D.bl (decide (d∈S)))=some ((dr qv x).map fun d=>decide (d∈S)):=alc _ _
 simp[ah8,hD,er,ef,hc,hb,iK]
theorem aow{qv:LL9}(h:Hs qv)(S:List Int)(hS:∀x∈S,0<=x/\x < (qv.length:Int)) :
  compD (cu 0) ah8 ak6 (S.map D.int) [] [.emp,.val (.lst (S.map D.int)),.val (hD qv)]=some (.ok ((keepI qv S).map D.int),aar .emp (S.map D.int)::[.val (.lst (S.map D.int)),.val (hD qv)]):=by
 rw[rn (p:=fun d=>match d with | .int x=>(dr qv x).all fun d=>decide (d∈S) | _=>false) (f:=id)]
 ·simp only[keepI,mR,iK,sV,dD]
 ·intro d hd;obtain⟨k,hk,rfl⟩:=cO.mp hd;exact avl h S (hS k hk).1 (hS k hk).2
 ·intro d hd _;simp[ak6]
theorem ayg{qv:LL9}(h:Hs qv){S:List Int}(hS:∀x∈S,0<=x/\x < (qv.length:Int))(hl:S.length<=10)(o:Sl) :
  ag2 [.val (hD qv),.own none (S.map D.int),o]=some (.nx,[.val (hD qv),.own none ((keepI qv S).map D.int),.val (.int (S.length:Nat))]):=by
 have e:=aow h S hS;have hc:(keepI qv S).length<=capS:=bh (cC (dU _ _) (by omega))
 generalize keepI qv S=T at e hc;simp only[hD] at e ⊢
 simp[ag2,e,hc]
theorem ase{qv:LL9}{x d y:Int}(h0:0<=x)(hd:d∈dr qv x)(hy:Rch qv d y):Rch qv x y:=by
 induction hy with
 | base=>exact .step .base h0 hd
 | step r h1 hd1 ih=>exact .step ih h1 hd1
theorem aov{qv:LL9}(h:Hs qv):ajr [.val (hD qv)]=some (.ok (.v (.tup ((xf qv).map D.int))),[.val (hD qv)]):=by
 have hm:=h.most;have ul:(upto qv.length).length=qv.length:=by simp[upto]
 have e0:((upto qv.length).filter fun _=>true)=upto qv.length:=nO.mpr fun _ _=>rfl
 have loop:=v8 (c:=ag4) (g:=ag2)
  (fun k ρ=>∃(p:Int->Bool) (m:Nat),ρ=[.val (hD qv),.own none (((upto qv.length).filter p).map D.int),.val (.int (m:Nat))]/\k=m/\((upto qv.length).filter p).length<=m/\(m=((upto qv.length).filter p).length->keepI qv ((upto qv.length).filter p)=(upto qv.length).filter p)/\∀x∈xf qv,p x=true)
  (fun ρ=>∃o,ρ=[.val (hD qv),.own none ((xf qv).map D.int),o]) ?_ fuel (qv.length+1) [.val (hD qv),.own none (((upto qv.length).filter fun _=>true).map D.int),.val (.int ((qv.length+1:Nat):Int))] (jL (show qv.length+1 < 100000 by omega) adi)
  ⟨fun _=>true,qv.length+1,rfl,rfl,by rw[e0,ul];omega,fun z=>by rw[e0,ul] at z;omega,fun _ _=>rfl⟩
 ·obtain⟨ρ',e,o,rfl⟩:=loop;rw[e0] at e;have hb:uw [.int (qv.length:Int)]=some (jg 0 qv.length):=ao7 h;have hb':qv.length < 1000000:=by omega
  have hl:(hDs qv).length=qv.length:=by simp[hDs]
  have er:=acf qv.length;have hcast:((qv.length+1:Nat):Int)=(qv.length:Int)+1:=by omega
  rw[hcast] at e;simp only[hD] at e ⊢
  simp[ajr,au0,hl,hb',er,ul,e]
 ·rintro k ρ ⟨p,m,rfl,hkm,hle,hcl,hp⟩
  subst hkm;have hS:∀x∈(upto qv.length).filter p,0<=x/\x < (qv.length:Int):=fun x hx=>j8 (bR.mp hx).1
  have hl:((upto qv.length).filter p).length<=10:=cC (dU _ _) (by omega)
  by_cases hlt:((upto qv.length).filter p).length < k
  ·refine .inr ⟨_,_,((upto qv.length).filter p).length,?_,ayg h hS hl (.val (.int (k:Nat))),hlt,(fun x=>((dr qv x).all fun d=>decide (d∈(upto qv.length).filter p))&&p x),((upto qv.length).filter p).length,?_,rfl,?_,?_,?_⟩
   ·generalize (upto qv.length).filter p=S at hlt;have:(S.length:Int) < (k:Int):=by omega
    simp[ag4,this]
   ·unfold keepI;rw[nY]
   ·rw[<-nY];exact dU _ _
   ·rw[<-nY];intro z;have:keepI qv ((upto qv.length).filter p)=(upto qv.length).filter p:=nO.mpr fun a ha=>by
     by_cases q:((dr qv a).all fun d=>decide (d∈(upto qv.length).filter p))=true
     ·exact q
     ·exfalso;have:(((upto qv.length).filter p).filter fun x=>(dr qv x).all fun d=>decide (d∈(upto qv.length).filter p)).length < ((upto qv.length).filter p).length:=List.length_filter_lt_length_iff_exists.mpr ⟨a,ha,by simpa using q⟩
      omega
    show keepI qv (keepI qv ((upto qv.length).filter p))=keepI qv ((upto qv.length).filter p);rw[this,this]
   ·intro x hx;rw[bA];refine⟨List.all_eq_true.mpr fun d hd=>decide_eq_true ?_,hp x hx⟩
    obtain⟨x1,x2⟩:=bR.mp hx;have hx0:=j8 x1;have hd0:0<=d:=(w6 qv x).mp x2 d (.step .base hx0.1 hd);have hd1:=((h.dr hx0.1 hx0.2).2.2 d hd).2;have du:d∈upto qv.length:=by
     unfold upto;exact cO.mpr ⟨d.toNat,cW.mpr (by omega),by omega⟩
    have dt:d∈xf qv:=bR.mpr ⟨du,(w6 qv d).mpr fun y hy=>(w6 qv x).mp x2 y (ase hx0.1 hd hy)⟩
    exact bR.mpr ⟨du,hp d dt⟩
  ·refine .inl ⟨[.val (hD qv),.own none (((upto qv.length).filter p).map D.int),.val (.int (k:Nat))],?_,.val (.int (k:Nat)),?_⟩
   ·generalize (upto qv.length).filter p=S at hlt;have:¬(S.length:Int) < (k:Int):=by omega
    simp[ag4,this]
   ·have hk:=hcl (by omega)
    have:(upto qv.length).filter p=xf qv:=by
     unfold xf;refine List.filter_congr fun x hx =>?_
     by_cases c:caught qv x=true
     ·rw[c];exact hp x (bR.mpr ⟨hx,c⟩)
     ·have:p x=false:=by
       cases q:p x with
       | false=>rfl
       | true =>
        exfalso;refine c ((w6 qv x).mpr fun y hy =>?_)
        have:y∈(upto qv.length).filter p:=by
         induction hy with
         | base=>exact bR.mpr ⟨hx,q⟩
         | step r h0 hd ih =>
          rw[<-hk] at ih;have:=fL.mp (bR.mp ih).2 _ hd
          simpa using this
        exact(hS y this).1
      rw[this]
      simpa using c
    rw[this]
theorem HouseOk.hs{m w:Int}{qv:LL9}(h:HouseOk m w qv)(hm:m<=10)(hw:w<=6):Hs qv :=
 ⟨h.one,by have:=h.most;omega,fun r hr=>by obtain⟨a,b,c⟩:=h.room r hr;exact⟨a,by omega,c⟩⟩
theorem ao5{n d:Nat}{k:Int}(h0:0<=k):HT.sIx n d (some k)=min k.toNat n:=by
 show(if k < 0 then (k+(n:Int)).toNat else min k.toNat n)=_
 rw[if_neg (by omega)]
theorem a02{ns:List Int}{k:Int}(h0:0<=k)(h1:k < (ns.length:Int)):cutD (ns.map D.int) none (some k)=(ns.take k.toNat).map D.int:=by
 unfold cutD;rw[ao5 h0,aD,rG];have:HT.sIx ns.length 0 none=0:=rfl;rw[this,pP (by omega),rR,qO]
theorem aua{ns:List Int}{k:Int}(h0:0<=k)(h1:k<=(ns.length:Int)):cutD (ns.map D.int) (some k) none=(ns.drop k.toNat).map D.int:=by
 unfold cutD;rw[ao5 h0,aD,vN];have:HT.sIx ns.length ns.length none=ns.length:=rfl;rw[this,pP (by omega)]
 exact rM (by simp)
def bend(r:List Int)(k:Nat)(x:Int):List Int:=r.take k++[x]++r.drop (k+1)
theorem asb(qv:LL9)(j:Nat)(r:List Int):(hDs qv).set j (.tup (r.map D.int))=hDs (qv.set j r):=by
 simp[hDs,jB]
theorem Hs.set{qv:LL9}(h:Hs qv)(j:Nat){r:List Int}(hr:1<=r.length/\r.length<=6/\∀x∈r,-3<=x/\x < (qv.length:Int)):Hs (qv.set j r) :=
 ⟨by rw[bU];exact h.one,by rw[bU];exact h.most,fun q hq=>by
  rw[bU];rcases qM hq with z | rfl
  ·exact h.room q z
  ·exact hr⟩
def Opn(qv:LL9)(a:Int):Prop:=∃x,Rch qv a x/\x < 0
theorem ak8{qv:LL9}{k:Int}(h0:0<=k)(h1:k < (qv.length:Int))(r:List Int):dr (qv.set k.toNat r) k=r:=by
 have:k.toNat < qv.length:=by omega
 simp[dr,this]
theorem aqs{qv:LL9}{k y:Int}(h0:0<=k)(hy:0<=y)(hne:y≠k)(r:List Int):dr (qv.set k.toNat r) y=dr qv y:=by
 have:k.toNat≠y.toNat:=by omega
 simp[dr,bL,this]
theorem avt{qv:LL9}{k a y:Int}(h0:0<=k)(r:List Int)(h:Rch qv a y):Rch (qv.set k.toNat r) a y∨Rch qv k y:=by
 induction h with
 | base=>exact .inl .base
 | step p hp hd ih =>
  rename_i x d;rcases ih with ih | ih
  ·by_cases e:x=k
   ·subst e;exact .inr (.step .base hp hd)
   ·exact .inl (.step ih hp (by rw[aqs h0 hp e];exact hd))
  ·exact .inr (.step ih hp hd)
theorem aph{qv:LL9}(h:Hs qv){W:Nat}(hW:∀r∈qv,r.length<=W)(P:Int×Int){A B o:Sl}{k:Int}(h0:0<=k)(h1:k < (qv.length:Int)) :
  ∃rooms' P' o',l1__law_open [.own (some 0) (pen P),A,B,.own none (hDs qv),.val (.int k),o]=some (.nx,[.own (some 0) (pen P'),A,B,.own none (hDs rooms'),.val (.int k),o'])/\Hs rooms'/\(∀r∈rooms',r.length<=W)/\rooms'.length=qv.length/\Opn rooms' k/\∀a,Opn qv a->Opn rooms' a:=by
 obtain⟨ns,e,hne,hm⟩:=ait h (S:=.own (some 0) (hDs qv)) (.inr rfl) ⟨h0,h1⟩;have em:=atw hne
 by_cases z:0<=minI ns
 ·have hcaught:∀x,Rch qv k x->0<=x:=fun x hx=>(alz hne).mp z x ((hm x).mpr hx)
  obtain⟨a1,a2,a3⟩:=h.dr h0 h1;have er:=aea h0 h1;have aw:=hW (dr qv k) (by
   have hk:k.toNat < qv.length:=by omega
   unfold dr;rw[aH,aC hk];exact bO hk)
  generalize hrow:dr qv k=r at a1 a2 a3 er aw;obtain⟨r1,P1,e1,r1a,r1b⟩:=my P r.length (by omega) (by omega)
  obtain⟨r2,P2,e2,r2a,r2b⟩:=my P1 3 (by decide) (by decide)
  have c1:=a02 (ns:=r) r1a r1b;have c2:=aua (ns:=r) (k:=r1+1) (by omega) (by omega)
  have hk:(r1+1).toNat=r1.toNat+1:=by omega
  rw[hk] at c2;have ix:ixN (hDs qv).length k=some k.toNat:=by
   have hl:(hDs qv).length=qv.length:=by simp[hDs]
   rw[hl];unfold ixN;simp[h0,h1]
  have k1:(r.take r1.toNat).length<=6:=by rw[gQ];omega
  have k2:(r.drop (r1.toNat+1)).length<=6:=by rw[iV];omega
  have k3:(r.take r1.toNat).length+1<=capS:=bh (by omega)
  have k4:(r.take r1.toNat).length+1+(r.drop (r1.toNat+1)).length<=capS:=bh (by omega)
  have hin:(-1 - r2)∈bend r r1.toNat (-1 - r2):=by simp[bend]
  refine⟨qv.set k.toNat (bend r r1.toNat (-1 - r2)),P2,.val (.int r1),?_,h.set _ ?_,fun q hq =>?_,bU,⟨-1 - r2,.step .base h0 (by rw[ak8 h0 h1];exact hin),by omega⟩,fun a ⟨x,hx,hx0⟩ =>?_⟩
  ·rw[<-asb];unfold bend;generalize r.take r1.toNat=ta at c1 k3 k4;generalize r.drop (r1.toNat+1)=td at c2 k4;simp[l1__law_open,e,em,z,er,e1,e2,c1,c2,k3,k4,ix]
  ·refine⟨by simp[bend];omega,by simp[bend];omega,fun x hx =>?_⟩
   have:=h.one;unfold bend at hx;rcases cN.mp hx with hx | hx
   ·rcases cN.mp hx with hx | hx
    ·exact a3 x (sE hx)
    ·rw[cR] at hx;omega
   ·exact a3 x (List.mem_of_mem_drop hx)
  ·rcases qM hq with z | rfl
   ·exact hW q z
   ·simp[bend];omega
  ·rcases avt h0 (bend r r1.toNat (-1 - r2)) hx with q | q
   ·exact⟨x,q,hx0⟩
   ·have:=hcaught x q;omega
 ·refine⟨qv,P,o,by simp[l1__law_open,e,em,z],h,hW,rfl,?_,fun _ x=>x⟩
  have:¬ ∀y∈ns,0<=y:=fun w=>z ((alz hne).mpr w)
  apply cB;intro w;refine this fun y hy =>?_
  rcases kO y 0 with q | q
  ·exact absurd ⟨y,(hm y).mp hy,q⟩ w
  ·exact q
theorem ali{qv:LL9}(h:∀a,0<=a->a < (qv.length:Int)->Opn qv a):xf qv=[]:=by
 unfold xf;refine List.filter_eq_nil_iff.mpr fun a ha hc =>?_
 obtain⟨x,hx,hx0⟩:=h a (j8 ha).1 (j8 ha).2;have:=(w6 qv a).mp hc x hx;omega
theorem open_spec(P:Int×Int)(m w:Int)(m1:1<=m)(m2:m<=10)(w1:1<=w)(w2:w<=6):∃qv P',f__law_open [.own (some 0) (pen P),.val (.int m),.val (.int w)]=some (.ok (.v (hD qv)),[.own (some 0) (pen P'),.val (.int m),.val (.int w)])/\Hs qv/\xf qv=[]/\(qv.length:Int)<=m/\∀r∈qv,r.length<=w.toNat:=by
 obtain⟨qv,P1,e1,ho⟩:=anr P m w m1 m2 w1 w2;have h:=ho.hs m2 w2;have loop:=zc (b:=cu 4) (g:=l1__law_open) (fun i ρ=>∃rs P o1 o2,ρ=[.own (some 0) (pen P),.val (.int m),.val (.int w),.own none (hDs rs),o1,o2]/\Hs rs/\(∀r∈rs,r.length<=w.toNat)/\rs.length=qv.length/\∀a:Int,0<=a->a < (i:Int)->Opn rs a)
  (l:=jg 0 qv.length) (ρ:=[.own (some 0) (pen P1),.val (.int m),.val (.int w),.own none (hDs qv),.emp,.emp]) 0 ⟨qv,P1,.emp,.emp,rfl,h,fun r hr=>by have:=(ho.room r hr).2.1;omega,rfl,fun a x y=>by omega⟩ ?_
 ·obtain⟨ρ',e2,rs,P2,o1,o2,rfl,hs,hw,hl,hop⟩:=loop;refine⟨rs,P2,?_,hs,ali fun a x y=>hop a x (by simp[jg];omega),by rw[hl];exact ho.most,hw⟩
  have hl0:(hDs qv).length=qv.length:=by simp[hDs]
  have hb':qv.length < 4611686018427387904:=by simpa using ae1 h
  simp[f__law_open,aft,e1,hD,hl0,hb',e2]
 ·rintro i d ρ hd ⟨rs,P3,o1,o2,rfl,hs,hw,hl,hop⟩
  rw[acf,aU] at hd;obtain⟨k,hk,rfl⟩:=bM.mp hd;have hk':=j8 (cY hk);have hki:k=(i:Int):=by
   unfold upto at hk;rw[aU] at hk;obtain⟨j,hj,rfl⟩:=bM.mp hk;have hlt:i < qv.length:=by
    have:=(aM.mp hj).1
    simpa using this
   rw[cX hlt] at hj;cases hj;rfl
  obtain⟨rs',P4,o',e3,hs',hw',hl',h5,h6⟩:=aph hs hw P3 (A:=.val (.int m)) (B:=.val (.int w)) (o:=o2) hk'.1 (by rw[hl];exact hk'.2)
  refine⟨[.own (some 0) (pen P3),.val (.int m),.val (.int w),.own none (hDs rs),.val (.int k),o2],_,rfl,.inl e3,rs',P4,_,_,rfl,hs',hw',hl'.trans hl,fun a x y =>?_⟩
  by_cases q:a=k
  ·rw[q];exact h5
  ·exact h6 a (hop a x (by omega))
theorem kh(qv:LL9):(hDs qv).length=qv.length:=by simp[hDs]
theorem afm{qv:LL9}{i:Nat}{d:D}(h:(hDs qv)[i]? = some d):∃r,qv[i]? = some r/\d=.tup (r.map D.int):=by
 unfold hDs at h;rw[aU] at h;obtain⟨r,e,rfl⟩:=bM.mp h;exact⟨r,e,rfl⟩
structure Arr (qv:LL9) (as:List Int):Prop where
 len:as.length=qv.length
 ok:∀(i:Nat) (a:Int) (r:List Int),as[i]? = some a->qv[i]? = some r->0<=a/\a < (r.length:Int)
def ar(as:List Int)(x:Int):Int:=as.getD x.toNat 0
theorem Arr.at{qv:LL9}{as:List Int}(h:Arr qv as){x:Int}(h0:0<=x)(h1:x < (qv.length:Int)):0<=ar as x/\ar as x < ((dr qv x).length:Int):=by
 have hk:x.toNat < qv.length:=by omega
 have hk2:x.toNat < as.length:=by rw[h.len];exact hk
 have:=h.ok x.toNat as[x.toNat] qv[x.toNat] (aC hk2) (aC hk)
 simpa[ar,dr,hk,hk2] using this
theorem alf(P:Int×Int){qv:LL9}(h:Hs qv):∃as P',f__law_drawn [.own (some 0) (pen P),.val (hD qv)]=some (.ok (.v (.tup (as.map D.int))),[.own (some 0) (pen P'),.val (hD qv)])/\Arr qv as:=by
 have comp:=p6 (b:=cu 0) (mc:=ret true) (me:=aax) (fun j ys ρ=>∃ns P o,ρ=[o,.own (some 1) (pen P)]/\ys=ns.map D.int/\ns.length=j/\∀(i:Nat) (a:Int) (r:List Int),ns[i]? = some a->qv[i]? = some r->0<=a/\a < (r.length:Int))
  (l:=hDs qv) (ys:=[]) (ρ:=[.emp,.own (some 1) (pen P)]) 0 ⟨[],P,.emp,rfl,rfl,rfl,by simp⟩ ?_
 ·obtain⟨ys,ρ',e6,ns,P6,o,rfl,rfl,hn,hx⟩:=comp;rw[kh,bW] at hn;have hc:ns.length<=capS:=bh (by have:=h.most;omega)
  exact⟨ns,P6,by simp[f__law_drawn,aeq,hD,e6,hc],hn,hx⟩
 ·rintro j d ys ρ hd ⟨ns,P6,o,rfl,rfl,hn,hx⟩
  obtain⟨r,hr,rfl⟩:=afm hd;obtain⟨k1,k2,k3⟩:=h.room r (cY hr);obtain⟨r7,P7,e7,r7a,r7b⟩:=my P6 (r.length:Int) (by omega) (by omega)
  refine⟨_,_,true,rfl,rfl,.inr ⟨rfl,.int r7,[.val (.tup (r.map D.int)),.own (some 1) (pen P7)],by simp[aax,e7],ns++[r7],P7,_,rfl,by simp,by simp[hn],fun i a q ha hq =>?_⟩⟩
  rcases fY i ns.length with z | z
  ·rw[cL z] at ha;exact hx i a q ha hq
  ·have hi:i=ns.length:=by
    have:=(aM.mp ha).1;simp at this;omega
   subst hi;simp at ha;subst ha;have:ns.length=j:=by omega
   rw[this,hr] at hq;cases hq;exact⟨r7a,r7b⟩
def gone(qv:LL9)(as:List Int)(k:Int):List Int:=as.set k.toNat ((ar as k+1) % ((dr qv k).length:Int))
def led(qv:LL9)(as:List Int)(k:Int):Int:=(dr qv k).getD (ar as k).toNat 0
section
variable{qv:LL9}(h:Hs qv){as:List Int}(ha:Arr qv as){k:Int}(h0:0<=k)(h1:k < (qv.length:Int))
include h ha h0 h1
theorem amu:atI (as.map D.int) k=some (.int (ar as k)):=jt h0 (by rw[ha.len];exact h1)
theorem ax0:atI ((dr qv k).map D.int) (ar as k)=some (.int (led qv as k)):=jt (ha.at h0 h1).1 (ha.at h0 h1).2
theorem ajq(x:Int):fMod x ((dr qv k).length:Int)=some (x % ((dr qv k).length:Int)):=by
 have:=(h.dr h0 h1).1;unfold fMod;rw[if_pos (by omega)]
end
section
variable{qv:LL9}(h:Hs qv){as:List Int}(ha:Arr qv as){k:Int}(h0:0<=k)(h1:k < (qv.length:Int))
include h ha h0 h1
theorem ade:Arr qv (gone qv as k):=by
 have hd:=(h.dr h0 h1).1;refine⟨by unfold gone;rw[bU];exact ha.len,fun i a r g1 g2 =>?_⟩
 unfold gone at g1;rw[bL] at g1;split at g1
 ·rename_i hi;subst hi;split at g1
  ·cases g1;have:dr qv k=r:=by simp[dr,g2]
   rw[this] at hd ⊢
   exact⟨Int.emod_nonneg _ (by omega),cV _ (by omega)⟩
  ·cases g1
 ·exact ha.ok i a r g1 g2
end
theorem al3{qv:LL9}(h:Hs qv){as:List Int}(ha:Arr qv as){k:Int}(h0:0<=k)(h1:k < (qv.length:Int)) : -3<=led qv as k/\led qv as k < (qv.length:Int):=by
 obtain⟨a1,a2⟩:=ha.at h0 h1;have hk:(ar as k).toNat < (dr qv k).length:=by omega
 have:led qv as k∈dr qv k:=by
  unfold led;simp[hk]
 exact(h.dr h0 h1).2.2 _ this
theorem ajk{qv:LL9}(h:Hs qv){as:List Int}(ha:Arr qv as):xx [.val (hD qv),.val (.tup (as.map D.int))]=some (.ok (.v (.bl true)),[.val (hD qv),.val (.tup (as.map D.int))]):=by
 have hl:=ha.len;have hle:(as.map D.int).length<=(hDs qv).length:=by rw[kh,aD];omega
 have comp:=p6 (b:=bTup 2 (ir (cu 0) (ir (cu 1) bNil))) (mc:=ret true) (me:=abj) (fun j ys ρ=>∃o1 o2,ρ=[o1,o2]/\ys=(aG j true).map D.bl)
  (l:=z6 (as.map D.int) (hDs qv)) (ys:=[]) (ρ:=[.emp,.emp]) 0 ⟨.emp,.emp,rfl,rfl⟩ ?_
 ·obtain⟨ys,ρ',e6,o1,o2,rfl,rfl⟩:=comp;rw[aib hle,aD,bW] at e6;have hc:as.length<=capS:=bh (by have:=h.most;omega)
  have e1:di [.val (.tup (as.map D.int)),.val (.int (qv.length:Int)),.val (.int (qv.length:Int))]=some (.ok (.v (.bl true)),[.val (.tup (as.map D.int)),.val (.int (qv.length:Int)),.val (.int (qv.length:Int))]):=by
   have:(as.length:Int)=qv.length:=by omega
   simp[di,lu,isTy,this]
  have hle2:as.length<=(hDs qv).length:=by simpa using hle
  have hl3:=kh qv;have hl4:qv.length<=capS:=hl▸hc;have hbl:rz (aG qv.length (D.bl true))=some (aG qv.length true):=by
   have:=u5 (aG qv.length true);rwa[jF] at this
  simp only[hD];simp[xx,afq,hl3,e1,e6,hl,hl4,hbl]
 ·rintro j d ys ρ hd ⟨o1,o2,rfl,rfl⟩
  obtain⟨d1,d2,g1,g2,rfl⟩:=aew hd;obtain⟨r,hr,rfl⟩:=afm g2;rw[aU] at g1;obtain⟨a,ga,rfl⟩:=bM.mp g1;obtain⟨b0,b1⟩:=ha.ok j a r ga hr;have b2:a<=(r.length:Int) - 1:=by omega
  refine⟨[.val (.int a),.val (.tup (r.map D.int))],_,true,by simp,rfl,.inr ⟨rfl,.bl true,[.val (.int a),.val (.tup (r.map D.int))],by simp[abj,ag1,b0,b2],_,_,rfl,?_⟩⟩
  rw[List.replicate_succ',bT];rfl
theorem abp{qv:LL9}{bs:List Int}{p:Int}(hp:p.toNat < bs.length):ar (gone qv bs p) p=(ar bs p+1) % ((dr qv p).length:Int):=by
 unfold gone;generalize (ar bs p+1) % ((dr qv p).length:Int)=z;unfold ar;simp[hp]
theorem aeb{qv:LL9}{bs:List Int}{p x:Int}(hx:0<=x)(hp:0<=p)(hne:x≠p):ar (gone qv bs p) x=ar bs x:=by
 have:p.toNat≠x.toNat:=by omega
 unfold gone;generalize (ar bs p+1) % ((dr qv p).length:Int)=z;unfold ar;simp[aH,bL,this]
theorem adw:∀(m:Nat) (l:List Int),l.Nodup->(∀x∈l,0<=x/\x < (m:Int))->l.length<=m
 | 0,l,_,h=>by
  cases l with
  | nil=>simp
  | cons x r=>have:=h x (aR ..);omega
 | m+1,l,hn,h=>by
  have h1:(l.erase (m:Int)).length<=m:=adw m _ (hn.erase _) fun x hx=>by
   rw[hn.mem_erase_iff] at hx;have:=h x hx.2;have:=hx.1;omega
  have h2:l.length<=(l.erase (m:Int)).length+1:=by
   rw[tY];split <;> omega
  omega
theorem pig(f:Nat->Int)(n:Nat)(hf:∀i,i<=n->0<=f i/\f i < (n:Int)):∃i j,i < j/\j<=n/\f i=f j:=by
 apply cB;intro H;have hn:((aY (n+1)).map f).Nodup:=by
  rw[uC,oR];refine List.Pairwise.imp_of_mem (fun{a b} ha hb hlt e=>H ⟨a,b,hlt,?_,e⟩) gY
  have:=cW.mp hb;omega
 have:=adw n _ hn fun x hx=>by
  obtain⟨i,hi,rfl⟩:=cO.mp hx;have:=cW.mp hi;exact hf i (by omega)
 rw[aD,cF] at this;omega
theorem least{P:Nat->Prop}:∀n,P n->∃m,P m/\∀i < m,¬P i:=fun n=>by
 induction n using Nat.strongRecOn with
 | _ n ih =>
  intro hn
  by_cases q:∃i,i < n/\P i
  ·obtain⟨i,hi,hp⟩:=q;exact ih i hi hp
  ·exact⟨n,hn,fun i hi hp=>q ⟨i,hi,hp⟩⟩
theorem afb:∀{a b:List Int},a.Nodup->(∀x∈a,x∈b)->a.length<=b.length
 | [],b,_,_=>dJ _
 | x::r,b,hn,h=>by
  have hx:=h x (aR ..);have h1:r.length<=(b.erase x).length:=afb (rW hn) fun y hy=>by
   have hne:y≠x:=fun e=>(fC.mp hn).1 y hy e.symm
   exact(List.mem_erase_of_ne hne).mpr (h y (aQ _ hy))
  rw[List.length_erase_of_mem hx] at h1;have:=List.length_pos_of_mem hx;rw[dY];omega
def run(qv:LL9)(as:List Int)(k:Int):Nat->List Int×Int
 | 0=>(as,k)
 | n+1=>(gone qv (run qv as k n).1 (run qv as k n).2,led qv (run qv as k n).1 (run qv as k n).2)
def bump(l:List Int)(x:Int):List Int:=l.set x.toNat (l.getD x.toNat 0+1)
section
variable{qv:LL9}(h:Hs qv){as:List Int}(ha:Arr qv as){k:Int}(h0:0<=k)(h1:k < (qv.length:Int))
include h ha h0 h1
theorem ago:∀t:Nat,(∀i < t,0<=(run qv as k i).2)->Arr qv (run qv as k t).1 /\ -3<=(run qv as k t).2/\(run qv as k t).2 < (qv.length:Int)
 | 0,_=>⟨ha,by show -3<=k;omega,h1⟩
 | t+1,hp=>by
  obtain⟨a1,a2,a3⟩:=ago t fun i hi=>hp i (by omega)
  have a0:=hp t (by omega)
  exact⟨ade h a1 a0 a3,al3 h a1 a0 a3⟩
end
def gdB(R:List Int)(d:Int):Bool:=decide (d < 0)||decide (d∈R)
section
variable{qv:LL9}(h:Hs qv){R:List Int}
include h
theorem apm(hop:xf qv=[])(hl:R.length < qv.length):∃y,0<=y/\y < (qv.length:Int)/\y∉R/\∃d∈dr qv y,gdB R d=true:=by
 apply cB;intro H;have hy:∃y:Int,0<=y/\y < (qv.length:Int)/\y∉R:=by
  apply cB;intro H2;have:=afb (a:=(aY qv.length).map fun(i:Nat)=>(i:Int)) (b:=R) (by
   rw[uC,oR];exact uB (fun{a b} hab=>by omega) gY) fun x hx=>by
   obtain⟨i,hi,rfl⟩:=cO.mp hx;have:=cW.mp hi;apply cB;intro hn;exact H2 ⟨(i:Int),by omega,by omega,hn⟩
  rw[aD,cF] at this;omega
 obtain⟨y,y0,y1,yn⟩:=hy;have all:∀z,Rch qv y z->0<=z/\z < (qv.length:Int)/\z∉R:=fun z hz=>by
  induction hz with
  | base=>exact⟨y0,y1,yn⟩
  | @step x d r _ hd ih =>
   have hb:=(h.dr ih.1 ih.2.1).2.2 d hd;have hg:gdB R d≠true:=fun g=>H ⟨x,ih.1,ih.2.1,ih.2.2,d,hd,g⟩
   unfold gdB at hg;rw[Ne,uY,decide_eq_true_eq,decide_eq_true_eq] at hg;exact⟨by
    rcases kO d 0 with q | q
    ·exact absurd (.inl q) hg
    ·exact q,hb.2,fun q=>hg (.inr q)⟩
 have:y∈xf qv:=bR.mpr ⟨by
  unfold upto;exact cO.mpr ⟨y.toNat,cW.mpr (by omega),by omega⟩,(w6 qv y).mpr fun z hz=>(all z hz).1⟩
 rw[hop] at this;cases this
end
def cv(qv:LL9)(as:List Int)(k y:Int):Nat->Nat
 | 0=>0
 | t+1=>cv qv as k y t+if (run qv as k t).2=y then 1 else 0
def av(qv:LL9)(as:List Int)(k d:Int):Nat->Nat
 | 0=>0
 | t+1=>av qv as k d t+if (run qv as k (t+1)).2=d then 1 else 0
theorem a05(qv:LL9)(as:List Int)(k d:Int):∀t,av qv as k d t<=cv qv as k d (t+1)
 | 0=>dJ _
 | t+1=>by
  have ih:=a05 qv as k d t;show av qv as k d t+(if (run qv as k (t+1)).2=d then 1 else 0)<=cv qv as k d (t+1)+(if (run qv as k (t+1)).2=d then 1 else 0)
  omega
theorem a6h(qv:LL9)(as:List Int)(k d:Int)(t:Nat):av qv as k d t<=cv qv as k d t+1:=by
 have h:=a05 qv as k d t;have e:cv qv as k d (t+1)=cv qv as k d t+if (run qv as k t).2=d then 1 else 0:=rfl
 rw[e] at h;split at h <;> omega
theorem aqu{qv:LL9}{as:List Int}{k d:Int}(hd:d < 0):∀t,(∀i < t,0<=(run qv as k i).2)->cv qv as k d t=0
 | 0,_=>rfl
 | t+1,hp=>by
  have ih:=aqu hd t fun i hi=>hp i (by omega)
  have p0:=hp t (by omega)
  show cv qv as k d t+(if (run qv as k t).2=d then 1 else 0)=0
  rw[ih,if_neg (by omega)]
theorem akt{x w:Int}(h0 : -w<=x)(h1:x < 0):x % w=x+w:=by
 rw[<-kW x w];exact dH (by omega) (by omega)
theorem rot{a e w:Int}(a0:0<=a)(a1:a < w)(e0:0<=e)(e1:e < w)(ne:a≠e):((a+1) % w - e - 1) % w=(a - e - 1) % w+1:=by
 rcases kO (a+1) w with q | q
 ·rw[dH (by omega) q]
  rcases kO a e with z | z
  ·rw[akt (by omega) (by omega),akt (by omega) (by omega)]
   omega
  ·rw[dH (show 0<=a+1 - e - 1 by omega) (by omega),dH (show 0<=a - e - 1 by omega) (by omega)]
   omega
 ·have ew:a+1=w:=by omega
  rw[ew,Int.emod_self,akt (by omega) (by omega),dH (show 0<=a - e - 1 by omega) (by omega)]
  omega
section
variable{qv:LL9}(h:Hs qv){as:List Int}(ha:Arr qv as){k:Int}(h0:0<=k)(h1:k < (qv.length:Int))
include h ha h0 h1
theorem au6{y:Int}(y0:0<=y)(y1:y < (qv.length:Int)){e:Nat}(he:e < (dr qv y).length):∀t,(∀i < t,0<=(run qv as k i).2)->(cv qv as k y t:Int)<=((dr qv y).length:Int)*(av qv as k ((dr qv y).getD e 0) t:Int)+(ar (run qv as k t).1 y - (e:Int) - 1) % ((dr qv y).length:Int)
 | 0,_=>by
  have:0<=(ar (run qv as k 0).1 y - (e:Int) - 1) % ((dr qv y).length:Int):=fD _ (by omega)
  show((0:Nat):Int)<=((dr qv y).length:Int)*((0:Nat):Int)+_;simp;exact this
 | t+1,hp=>by
  have hp':∀i < t,0<=(run qv as k i).2:=fun i hi=>hp i (by omega)
  have ih:=au6 y0 y1 he t hp';obtain⟨a1,a2,a3⟩:=ago h ha h0 h1 t hp';have p0:=hp t (by omega)
  have ec:cv qv as k y (t+1)=cv qv as k y t+if (run qv as k t).2=y then 1 else 0:=rfl
  have ea:av qv as k ((dr qv y).getD e 0) (t+1)=av qv as k ((dr qv y).getD e 0) t+if (run qv as k (t+1)).2=(dr qv y).getD e 0 then 1 else 0:=rfl
  have er:(run qv as k (t+1)).1=gone qv (run qv as k t).1 (run qv as k t).2:=rfl;have el:(run qv as k (t+1)).2=led qv (run qv as k t).1 (run qv as k t).2:=rfl;have aa:=a1.at y0 y1;have al:=a1.len
  by_cases hy:(run qv as k t).2=y
  ·rw[ec,ea,er,el,hy,if_pos rfl];rw[abp (by omega)]
   generalize hA:ar (run qv as k t).1 y=a at *
   by_cases ne:a=(e:Int)
   ·have:led qv (run qv as k t).1 y=(dr qv y).getD e 0:=by
     unfold led;rw[hA,ne];rfl
    rw[if_pos this];have b1:=cV (a - (e:Int) - 1) (show(0:Int) < ((dr qv y).length:Int) by omega)
    have b2:=fD ((a+1) % ((dr qv y).length:Int) - (e:Int) - 1) (show((dr qv y).length:Int)≠0 by omega)
    have em:((dr qv y).length:Int)*((av qv as k ((dr qv y).getD e 0) t+1:Nat):Int)=((dr qv y).length:Int)*(av qv as k ((dr qv y).getD e 0) t:Int)+((dr qv y).length:Int):=by
     rw[jH,nP];simp
    rw[em];omega
   ·have b:=rot aa.1 aa.2 (show(0:Int)<=(e:Int) by omega) (by omega) ne
    have em:((dr qv y).length:Int)*(av qv as k ((dr qv y).getD e 0) t:Int)<=((dr qv y).length:Int)*((av qv as k ((dr qv y).getD e 0) t+(if led qv (run qv as k t).1 y=(dr qv y).getD e 0 then 1 else 0):Nat):Int):=jO (by omega) (by omega)
    rw[b];omega
  ·rw[ec,ea,er,if_neg hy,aeb y0 p0 (iR hy)];have em:((dr qv y).length:Int)*(av qv as k ((dr qv y).getD e 0) t:Int)<=((dr qv y).length:Int)*((av qv as k ((dr qv y).getD e 0) t+(if (run qv as k (t+1)).2=(dr qv y).getD e 0 then 1 else 0):Nat):Int):=jO (by omega) (by omega)
   omega
theorem axu{W:Nat}(hw:∀r∈qv,r.length<=W){y:Int}(y0:0<=y)(y1:y < (qv.length:Int)){d:Int}(hd:d∈dr qv y){t:Nat}(hp:∀i < t,0<=(run qv as k i).2):cv qv as k y t<=W*cv qv as k d t+2*W:=by
 obtain⟨e,he,ed⟩:=gC.mp hd;have i:=au6 h ha h0 h1 y0 y1 he t hp;have ed':(dr qv y).getD e 0=d:=by rw[aH,aC he];exact ed
 rw[ed'] at i;have b1:=cV (ar (run qv as k t).1 y - (e:Int) - 1) (show(0:Int) < ((dr qv y).length:Int) by omega)
 have w3:(dr qv y).length<=W:=hw _ (by
  have hk:y.toNat < qv.length:=by omega
  unfold dr;rw[aH,aC hk];exact bO hk)
 have al:=a6h qv as k d t;have em:((dr qv y).length:Int)*(av qv as k d t:Int)<=(W:Int)*(av qv as k d t:Int):=Int.mul_le_mul_of_nonneg_right (by omega) (by omega)
 have en:(W:Int)*(av qv as k d t:Int)<=(W:Int)*((cv qv as k d t:Int)+1):=jO (by omega) (by omega)
 rw[nP,pY] at en;have:(cv qv as k y t:Int)<=((W*cv qv as k d t+2*W:Nat):Int):=by
  rw[jH,pX,pX];omega
 omega
def mx(W:Nat):Nat->Nat
 | 0=>0
 | j+1=>W*mx W j+2*W
def sx(W:Nat):Nat->Nat
 | 0=>0
 | j+1=>sx W j+mx W (j+1)
omit h ha h0 h1 in
theorem ar6(f:Int->Nat)(p:Int):∀R:List Int,p∈R->(R.map f).sum+1<=(R.map fun x=>f x+if p=x then 1 else 0).sum:=fun R=>by
 have base:∀R:List Int,(R.map f).sum<=(R.map fun x=>f x+if p=x then 1 else 0).sum:=fun R=>by
  induction R with
  | nil=>exact aL _
  | cons x r ih =>
   rw[aX,aX,cD,cD];omega
 induction R with
 | nil=>intro hp;cases hp
 | cons x r ih =>
  intro hp;rw[aX,aX,cD,cD];rcases aV.mp hp with rfl | hp
  ·have:=base r;rw[if_pos rfl];omega
  ·have:=ih hp;omega
omit h ha h0 h1 in
theorem aii{R:List Int}:∀t,(∀i < t,(run qv as k i).2∈R)->t<=(R.map fun x=>cv qv as k x t).sum
 | 0,_=>dJ _
 | t+1,hp=>by
  have ih:=aii (R:=R) t fun i hi=>hp i (by omega)
  have:=ar6 (fun x=>cv qv as k x t) (run qv as k t).2 R (hp t (by omega))
  exact cC (lZ ih) this
theorem aie{W:Nat}(hW1:1<=W)(hop:xf qv=[])(hw:∀r∈qv,r.length<=W){t:Nat}(hp:∀i < t,0<=(run qv as k i).2):t<=sx W qv.length:=by
 have claim:∀j,j<=qv.length->∃R:List Int,R.Nodup/\R.length=j/\(∀x∈R,0<=x/\x < (qv.length:Int))/\(∀x∈R,cv qv as k x t<=mx W j)/\(R.map fun x=>cv qv as k x t).sum<=sx W j:=fun j=>by
  induction j with
  | zero=>exact fun _=>⟨[],oV,rfl,fun x hx=>absurd hx dX,fun x hx=>absurd hx dX,aL _⟩
  | succ j ih =>
   intro hj;obtain⟨R,nd,hl,hin,hm,hs⟩:=ih (by omega)
   obtain⟨y,y0,y1,yn,d,hd,hg⟩:=apm h (R:=R) hop (by omega)
   have cd:cv qv as k d t<=mx W j:=by
    unfold gdB at hg;rw[uY,decide_eq_true_eq,decide_eq_true_eq] at hg;rcases hg with q | q
    ·rw[aqu q t hp];exact dJ _
    ·exact hm d q
   have cy:=axu h ha h0 h1 hw y0 y1 hd hp;have em:mx W (j+1)=W*mx W j+2*W:=rfl;have em2:W*cv qv as k d t<=W*mx W j:=Nat.mul_le_mul_left _ cd;have em3:mx W j<=W*mx W j:=Nat.le_mul_of_pos_left _ hW1;refine⟨y::R,oE (fun a ha e=>yn (e▸ha)) nd,by rw[dY,hl],fun x hx =>?_,fun x hx =>?_,?_⟩
   ·rcases aV.mp hx with rfl | hx
    ·exact⟨y0,y1⟩
    ·exact hin x hx
   ·rcases aV.mp hx with rfl | hx
    ·omega
    ·have:=hm x hx;omega
   ·rw[aX,cD];show _<=sx W j+mx W (j+1);omega
 obtain⟨R,nd,hl,hin,hm,hs⟩:=claim qv.length (aL _);refine cC (aii t fun i hi =>?_) hs
 have p0:=hp i hi;have p1:=(ago h ha h0 h1 i fun j hj=>hp j (by omega)).2.2
 apply cB;intro hn;have:=adw qv.length ((run qv as k i).2::R) (oE (fun a ha e=>hn (e▸ha)) nd) fun a ha=>by
  rcases aV.mp ha with rfl | ha
  ·exact⟨p0,p1⟩
  ·exact hin a ha
 rw[dY] at this;omega
theorem ar0{W:Nat}(hW1:1<=W)(hop:xf qv=[])(hw:∀r∈qv,r.length<=W):∃T,1<=T/\T<=sx W qv.length/\(∀i < T,0<=(run qv as k i).2)/\(run qv as k T).2 < 0:=by
 have ex:∃t,(run qv as k t).2 < 0:=by
  apply cB;intro H;have:=aie h ha h0 h1 hW1 hop hw (t:=sx W qv.length+1) fun i _=>by
   rcases kO (run qv as k i).2 0 with q | q
   ·exact absurd ⟨i,q⟩ H
   ·exact q
  omega
 obtain⟨t,ht⟩:=ex;obtain⟨T,hT,hmin⟩:=least (P:=fun t=>(run qv as k t).2 < 0) t ht
 have hp:∀i < T,0<=(run qv as k i).2:=fun i hi=>by
  have:¬(run qv as k i).2 < 0:=hmin i hi;omega
 refine⟨T,?_,aie h ha h0 h1 hW1 hop hw hp,hp,hT⟩;rcases nU T with z | z
 ·subst z;have:(run qv as k 0).2=k:=rfl;have hT:(run qv as k 0).2 < 0:=hT;omega
 ·exact z
end
def vis(qv:LL9)(as:List Int)(k:Int)(T:Nat):List Int:=(aY T).map fun i=>(run qv as k i).2
def go(qv:LL9):List Int->List Int->List Int
 | as,[]=>as
 | as,x::s=>go qv (gone qv as x) s
def arv(qv:LL9)(d:Int):List Int->List Int->Nat
 | _,[]=>0
 | as,x::s=>(if led qv as x=d then 1 else 0)+arv qv d (gone qv as x) s
def us(qv:LL9)(as:List Int)(y d:Int):Nat->Nat
 | 0=>0
 | n+1=>us qv as y d n+if (dr qv y).getD ((ar as y+(n:Int)) % ((dr qv y).length:Int)).toNat 0=d then 1 else 0
def InR(qv:LL9)(s:List Int):Prop:=∀x∈s,0<=x/\x < (qv.length:Int)
theorem afn(qv:LL9):∀(s t as:List Int),go qv as (s++t)=go qv (go qv as s) t
 | [],t,as=>rfl
 | x::s,t,as=>afn qv s t (gone qv as x)
theorem n6(qv:LL9)(d:Int):∀(s t as:List Int),arv qv d as (s++t)=arv qv d as s+arv qv d (go qv as s) t
 | [],t,as=>by simp[arv,go]
 | x::s,t,as=>by
  show(if led qv as x=d then 1 else 0)+arv qv d (gone qv as x) (s++t)=(if led qv as x=d then 1 else 0)+arv qv d (gone qv as x) s+arv qv d (go qv (gone qv as x) s) t
  rw[n6 qv d s t];omega
theorem ig(x y:Int)(s:List Int):(x::s).count y=s.count y+if x=y then 1 else 0:=by
 rw[List.count_cons];simp
theorem aja{a c w:Int}(hw:0 < w):((a+1) % w+c) % w=(a+(c+1)) % w:=by
 rw[Int.emod_add_emod]
 congr 1
 omega
theorem aka(qv:LL9)(as:List Int)(y d:Int){m n:Nat}(h:m<=n):us qv as y d m<=us qv as y d n:=by
 induction n with
 | zero =>
  have:m=0:=by omega
  rw[this];exact aL _
 | succ n ih =>
  by_cases q:m=n+1
  ·rw[q];exact aL _
  ·have:=ih (by omega)
   have e:us qv as y d (n+1)=us qv as y d n+if (dr qv y).getD ((ar as y+(n:Int)) % ((dr qv y).length:Int)).toNat 0=d then 1 else 0:=rfl
   omega
theorem aes(f g:Int->Nat):∀l:List Int,(∀x∈l,f x<=g x)->(l.map f).sum<=(l.map g).sum
 | [],_=>aL _
 | x::l,h=>by
  rw[aX,aX,cD,cD];have:=h x (aR ..);have:=aes f g l fun y hy=>h y (aQ _ hy)
  omega
theorem aap(f g:Int->Nat):∀l:List Int,(∀x∈l,f x=g x)->(l.map f).sum=(l.map g).sum
 | [],_=>rfl
 | x::l,h=>by
  rw[aX,aX,cD,cD,h x (aR ..),aap f g l fun y hy=>h y (aQ _ hy)]
theorem ag6(f g:Int->Nat)(x:Int)(k:Nat)(hx:f x=k+g x):∀l:List Int,l.Nodup->x∈l->(∀y∈l,y≠x->f y=g y)->(l.map f).sum=k+(l.map g).sum
 | [],_,h,_=>by cases h
 | y::l,hn,h,hs=>by
  obtain⟨h1,h2⟩:=fC.mp hn;rw[aX,aX,cD,cD]
  by_cases e:y=x
  ·subst e;rw[hx,aap f g l fun z hz=>hs z (aQ _ hz) fun q=>h1 z hz q.symm]
   omega
  ·have hm:x∈l:=by
    rcases aV.mp h with q | q
    ·exact absurd q.symm e
    ·exact q
   rw[hs y (aR ..) e,ag6 f g x k hx l h2 hm fun z hz=>hs z (aQ _ hz)]
   omega
theorem adn(n:Nat):(upto n).Nodup:=by
 unfold upto;rw[uC,oR];exact uB (fun{a b} hab=>by omega) gY
theorem yp{n:Nat}{x:Int}(h0:0<=x)(h1:x < (n:Int)):x∈upto n:=by
 unfold upto;exact cO.mpr ⟨x.toNat,cW.mpr (by omega),by omega⟩
section
variable{qv:LL9}(h:Hs qv)
include h
theorem ael:∀(s:List Int) {as:List Int},Arr qv as->InR qv s->Arr qv (go qv as s)
 | [],_,ha,_=>ha
 | x::s,as,ha,hs=>ael s (ade h ha (hs x (aR ..)).1 (hs x (aR ..)).2) fun y hy=>hs y (aQ _ hy)
theorem aoc{y:Int}(y0:0<=y)(y1:y < (qv.length:Int)):∀(s:List Int) {as:List Int},Arr qv as->InR qv s->ar (go qv as s) y=(ar as y+(s.count y:Int)) % ((dr qv y).length:Int)
 | [],as,ha,_=>by
  have a:=ha.at y0 y1;show ar as y=(ar as y+0) % _;rw[jN,dH a.1 a.2]
 | x::s,as,ha,hs=>by
  have hx:=hs x (aR ..);have hd:=(h.dr y0 y1).1;have hal:=ha.len;have ih:=aoc y0 y1 s (ade h ha hx.1 hx.2) fun z hz=>hs z (aQ _ hz)
  show ar (go qv (gone qv as x) s) y=_;rw[ih,ig]
  by_cases e:x=y
  ·subst e;rw[abp (by omega),if_pos rfl,aja (by omega),jH]
   rfl
  ·rw[aeb y0 hx.1 (iR e),if_neg e];rfl
theorem ayd{as:List Int}{x y d:Int}(x0:0<=x)(y0:0<=y)(e:y≠x):∀n,us qv (gone qv as x) y d n=us qv as y d n
 | 0=>rfl
 | n+1=>by
  unfold us;rw[ayd x0 y0 e n,aeb y0 x0 e]
theorem aop{as:List Int}(ha:Arr qv as){x d:Int}(x0:0<=x)(x1:x < (qv.length:Int)):∀n,us qv as x d (n+1)=(if led qv as x=d then 1 else 0)+us qv (gone qv as x) x d n
 | 0=>by
  have a:=ha.at x0 x1;show 0+(if (dr qv x).getD ((ar as x+0) % ((dr qv x).length:Int)).toNat 0=d then 1 else 0)=_+0
  rw[jN,dH a.1 a.2];unfold led;omega
 | n+1=>by
  have ih:=aop ha (d:=d) x0 x1 n;have hd:=(h.dr x0 x1).1;have hal:=ha.len;have e1:us qv as x d (n+2)=us qv as x d (n+1)+if (dr qv x).getD ((ar as x+((n+1:Nat):Int)) % ((dr qv x).length:Int)).toNat 0=d then 1 else 0:=rfl
  have e2:us qv (gone qv as x) x d (n+1)=us qv (gone qv as x) x d n+if (dr qv x).getD ((ar (gone qv as x) x+(n:Int)) % ((dr qv x).length:Int)).toNat 0=d then 1 else 0:=rfl
  rw[e1,e2,ih,abp (by omega),aja (by omega),jH]
  show _+_+(if (dr qv x).getD ((ar as x+((n:Int)+1)) % ((dr qv x).length:Int)).toNat 0=d then 1 else 0)=_
  omega
theorem aer(d:Int):∀(s:List Int) {as:List Int},Arr qv as->InR qv s->arv qv d as s=((upto qv.length).map fun y=>us qv as y d (s.count y)).sum
 | [],as,_,_=>by
  show 0=_
  symm
  rw[aap (fun y=>us qv as y d (([]:List Int).count y)) (fun _=>0) _ fun x _=>rfl]
  generalize upto qv.length=l
  induction l with
  | nil=>rfl
  | cons x l ih=>rw[aX,cD,ih]
 | x::s,as,ha,hs=>by
  have hx:=hs x (aR ..);have ih:=aer d s (ade h ha hx.1 hx.2) fun z hz=>hs z (aQ _ hz)
  show(if led qv as x=d then 1 else 0)+arv qv d (gone qv as x) s=_
  rw[ih]
  symm
  refine ag6 _ _ x _ ?_ _ (adn _) (yp hx.1 hx.2) fun y hy e =>?_
  ·show us qv as x d ((x::s).count x)=_;rw[ig,if_pos rfl,aop h ha hx.1 hx.2]
  ·show us qv as y d ((x::s).count y)=us qv (gone qv as x) y d (s.count y);rw[ig,if_neg (iR e),ayd h hx.1 (j8 hy).1 e];rfl
theorem avb{as s t:List Int}(ha:Arr qv as)(hs:InR qv s)(ht:InR qv t)(hc:∀y,0<=y->y < (qv.length:Int)->s.count y<=t.count y)(d:Int):arv qv d as s<=arv qv d as t:=by
 rw[aer h d s ha hs,aer h d t ha ht];exact aes _ _ _ fun y hy=>aka _ _ _ _ (hc y (j8 hy).1 (j8 hy).2)
end
def Lg(qv:LL9)(as:List Int)(w:Int->Nat)(s:List Int):Prop:=∀p x q,s=p++x::q->(0<=x/\x < (qv.length:Int))/\p.count x < w x+arv qv x as p
def Stb(qv:LL9)(as:List Int)(w:Int->Nat)(s:List Int):Prop:=∀x,0<=x->x < (qv.length:Int)->s.count x=w x+arv qv x as s
theorem Lg.inR{qv:LL9}{as:List Int}{w:Int->Nat}{s:List Int}(l:Lg qv as w s):InR qv s:=fun x hx=>by
 obtain⟨p,q,e⟩:=List.append_of_mem hx;exact(l p x q e).1
theorem InR.count{qv:LL9}{s:List Int}(hs:InR qv s){x:Int}(hx:¬(0<=x/\x < (qv.length:Int))):s.count x=0:=oA.mpr fun q=>hx (hs x q)
theorem InR.append{qv:LL9}{s t:List Int}(hs:InR qv s)(ht:InR qv t):InR qv (s++t):=fun x hx=>(cN.mp hx).elim (hs x) (ht x)
section
variable{qv:LL9}(h:Hs qv){as:List Int}(ha:Arr qv as){w:Int->Nat}
include h ha
theorem adb{s t:List Int}(hs:Lg qv as w s)(ht:InR qv t)(hst:∀x,0<=x->x < (qv.length:Int)->w x+arv qv x as t<=t.count x)(x:Int):s.count x<=t.count x:=by
 have claim:∀k,k<=s.length->∀x,(s.take k).count x<=t.count x:=fun k=>by
  induction k with
  | zero=>intro _ x;simp
  | succ k ih =>
   intro hk x;have hk':k < s.length:=by omega
   have e:s.take (k+1)=s.take k++[s[k]]:=by rw[List.take_succ,aC hk'];rfl
   have es:s=s.take k++s[k]::s.drop (k+1):=by
    rw[<-lD hk',List.take_append_drop]
   obtain⟨b,l⟩:=hs _ _ _ es;have ih:=ih (by omega)
   rw[e,eY,ig]
   by_cases q:s[k]=x
   ·rw[if_pos q];have hin:InR qv (s.take k):=fun z hz=>hs.inR z (sE hz)
    have m:=avb h ha hin ht (fun y _ _=>ih y) s[k]
    have z:=hst _ b.1 b.2;rw[<-q];simp;omega
   ·rw[if_neg q];have:=ih x;simp;exact this
 have:=claim s.length (aL _) x;rwa[pD] at this
theorem abel{s t:List Int}(hs:Lg qv as w s)(ss:Stb qv as w s)(ht:Lg qv as w t)(st:Stb qv as w t)(x:Int):s.count x=t.count x :=
 Nat.le_antisymm (adb h ha hs ht.inR (fun x a b=>kI (st x a b).symm) x) (adb h ha ht hs.inR (fun x a b=>kI (ss x a b).symm) x)
theorem go_same{s t:List Int}(hs:InR qv s)(ht:InR qv t)(hc:∀x,s.count x=t.count x):go qv as s=go qv as t:=by
 have l1:=(ael h s ha hs).len;have l2:=(ael h t ha ht).len;apply eX;intro i
 by_cases hi:i < qv.length
 ·have e1:=aoc h (y:=(i:Int)) (by omega) (by omega) s ha hs
  have e2:=aoc h (y:=(i:Int)) (by omega) (by omega) t ha ht
  rw[hc,<-e2] at e1;unfold ar at e1;rw[show((i:Nat):Int).toNat=i by omega,aH,aH,aC (by omega),aC (by omega)] at e1
  rw[aC (by omega),aC (by omega)]
  exact congrArg some e1
 ·rw[bG (by omega),bG (by omega)]
theorem Lg.append{w2:Int->Nat}{s t:List Int}(hs:Lg qv as w s)(ss:Stb qv as w s)(ht:Lg qv (go qv as s) w2 t):Lg qv as (fun x=>w x+w2 x) (s++t):=fun p x q e=>by
 rcases qP.mp e with⟨r,e1,e2⟩ | ⟨r,e1,e2⟩
 ·-- the beginning is longer than s
  obtain⟨b,l⟩:=ht r x q e2;have z:=ss x b.1 b.2;refine⟨b,?_⟩;rw[e1,eY,n6];show s.count x+r.count x < w x+w2 x+_;omega
 ·cases r with
  | nil =>
   rw[dD] at e2;obtain⟨b,l⟩:=ht [] x q (by rw[dD];exact e2.symm)
   rw[jG] at e1;have z:=ss x b.1 b.2;refine⟨b,?_⟩;rw[<-e1];have l:([]:List Int).count x < w2 x+0:=l;simp at l;show s.count x < w x+w2 x+arv qv x as s;omega
  | cons y r =>
   rw[mD,mU] at e2;obtain⟨rfl,e2⟩:=e2;obtain⟨b,l⟩:=hs p x r e1;refine⟨b,?_⟩;show p.count x < w x+w2 x+_;omega
omit h ha in
theorem Stb.append{w2:Int->Nat}{s t:List Int}(ss:Stb qv as w s)(st:Stb qv (go qv as s) w2 t):Stb qv as (fun x=>w x+w2 x) (s++t):=fun x x0 x1=>by
 have a:=ss x x0 x1;have b:=st x x0 x1;rw[eY,n6];show _=w x+w2 x+_;omega
end
theorem alh(qv:LL9)(as:List Int)(k:Int)(t:Nat):vis qv as k (t+1)=vis qv as k t++[(run qv as k t).2]:=by
 unfold vis;rw[fK,bT];rfl
theorem ap7(qv:LL9)(as:List Int)(k:Int):∀t,go qv as (vis qv as k t)=(run qv as k t).1
 | 0=>rfl
 | t+1=>by
  rw[alh,afn,ap7 qv as k t];rfl
theorem aj8(qv:LL9)(as:List Int)(k d:Int):∀t,(vis qv as k t).count d+(if (run qv as k t).2=d then 1 else 0)=(if k=d then 1 else 0)+arv qv d as (vis qv as k t)
 | 0=>by
  show 0+(if k=d then 1 else 0)=(if k=d then 1 else 0)+0
  omega
 | t+1=>by
  have ih:=aj8 qv as k d t;rw[alh,eY,n6,ap7,ig];show(vis qv as k t).count d+(([]:List Int).count d+(if (run qv as k t).2=d then 1 else 0))+(if led qv (run qv as k t).1 (run qv as k t).2=d then 1 else 0)=(if k=d then 1 else 0)+(arv qv d as (vis qv as k t)+((if led qv (run qv as k t).1 (run qv as k t).2=d then 1 else 0)+0))
  have z:([]:List Int).count d=0:=rfl;omega
def at1(k:Int):Int->Nat:=fun x=>if k=x then 1 else 0
section
variable{qv:LL9}(h:Hs qv){as:List Int}(ha:Arr qv as){k:Int}(h0:0<=k)(h1:k < (qv.length:Int)){T:Nat}(hp:∀i < T,0<=(run qv as k i).2)
include h ha h0 h1 hp
theorem ayc:Lg qv as (at1 k) (vis qv as k T):=fun p x q e=>by
 have hl:(vis qv as k T).length=T:=by simp[vis]
 have hpl:p.length < T:=by
  rw[<-hl,e,cG,dY];omega
 have ep:p=vis qv as k p.length:=by
  have:(vis qv as k T).take p.length=p:=by rw[e];exact uR rfl
  have e2:(vis qv as k T).take p.length=vis qv as k p.length:=by
   unfold vis;rw[<-rG,List.take_range,pP (by omega)]
  rw[<-e2,this]
 have ex:x=(run qv as k p.length).2:=by
  have:(vis qv as k T)[p.length]? = some x:=by rw[e,fV (aL _),Nat.sub_self];rfl
  unfold vis at this;rw[aU,cX hpl] at this;exact(bK this).symm
 have p0:=hp _ hpl;have p1:=(ago h ha h0 h1 p.length fun j hj=>hp j (by omega)).2.2
 have b:=aj8 qv as k x p.length;rw[<-ep,<-ex,if_pos rfl] at b;refine⟨by rw[ex];exact⟨p0,p1⟩,?_⟩
 show p.count x < (if k=x then 1 else 0)+_
 omega
omit h ha h0 h1 hp in
theorem aoo(hn:(run qv as k T).2 < 0):Stb qv as (at1 k) (vis qv as k T):=fun x x0 x1=>by
 have b:=aj8 qv as k x T;rw[if_neg (by omega)] at b
 exact b
end
inductive Led (qv:LL9):List Int->List Int->List Int->Prop
 | nil (as:List Int):Led qv as [] []
 | cons {as:List Int} {k:Int} {T:Nat} {rs s:List Int} (h0:0<=k) (h1:k < (qv.length:Int)) (hp:∀i < T,0<=(run qv as k i).2) (hn:(run qv as k T).2 < 0) (t:Led qv (run qv as k T).1 rs s):Led qv as (k::rs) (vis qv as k T++s)
theorem Led.ok{qv:LL9}(h:Hs qv){as rs s:List Int}(l:Led qv as rs s):Arr qv as->Lg qv as (fun x=>rs.count x) s/\Stb qv as (fun x=>rs.count x) s:=by
 induction l with
 | nil as =>
  intro _;exact⟨fun p x q e=>by simp at e,fun x _ _=>rfl⟩
 | @cons as k T rs s h0 h1 hp hn t ih =>
  intro ha;obtain⟨l1,l2⟩:=ih (ago h ha h0 h1 T hp).1;rw[<-ap7] at l1 l2;have a1:=(ayc h ha h0 h1 hp).append h ha (aoo hn) l1;have a2:=(aoo hn).append l2;have e:(fun x=>at1 k x+rs.count x)=fun x=>(k::rs).count x:=by
   funext x
   rw[ig];unfold at1;omega
  rw[e] at a1 a2;exact⟨a1,a2⟩
theorem Led.same{qv:LL9}(h:Hs qv){as rs s rs' s':List Int}(l:Led qv as rs s)(l':Led qv as rs' s')(ha:Arr qv as)(hc:∀x,rs.count x=rs'.count x):(∀x,s.count x=s'.count x)/\go qv as s=go qv as s':=by
 obtain⟨a1,a2⟩:=l.ok h ha;obtain⟨b1,b2⟩:=l'.ok h ha;have e:(fun x=>rs.count x)=fun x=>rs'.count x:=funext hc
 rw[e] at a1 a2;have c:=abel h ha a1 a2 b1 b2;exact⟨c,go_same h ha a1.inR b1.inR c⟩
def tal(n:Nat)(s:List Int):List Int:=(aY n).map fun i=>((s.count ((i:Nat):Int):Nat):Int)
theorem aan(n:Nat)(s:List Int):(tal n s).length=n:=by simp[tal]
theorem avo(n:Nat):tal n []=aG n 0:=by
 apply eX;intro i
 by_cases hi:i < n
 ·simp[tal,hi]
 ·simp[tal,hi]
theorem aey{n:Nat}(s:List Int){i:Nat}(hi:i < n):(tal n s)[i]? = some ((s.count ((i:Nat):Int):Nat):Int):=by
 unfold tal;rw[aU,cX hi];rfl
theorem auh{n:Nat}{s:List Int}{x:Int}(x0:0<=x)(x1:x < (n:Int)):bump (tal n s) x=tal n (s++[x]):=by
 apply eX;intro i;unfold bump
 by_cases hi:i < n
 ·rw[aey _ hi,bL,aan,eY,ig]
  by_cases q:x.toNat=i
  ·rw[if_pos q,if_pos (by omega),aH,aey _ (by omega),if_pos (by omega)]
   have:((x.toNat:Nat):Int)=x:=by omega
   have e:x=((i:Nat):Int):=by omega
   subst e;simp
  ·rw[if_neg q,aey _ hi,if_neg (by omega)]
   simp
 ·rw[bG (by rw[bU,aan];omega),bG (by rw[aan];omega)]
theorem Lg.nil{qv:LL9}{as:List Int}{w:Int->Nat}:Lg qv as w []:=fun p x q e=>by simp at e
theorem Lg.snoc{qv:LL9}{as:List Int}{w:Int->Nat}{s:List Int}(l:Lg qv as w s){x:Int}(x0:0<=x)(x1:x < (qv.length:Int))(h:s.count x < w x+arv qv x as s):Lg qv as w (s++[x]):=fun p y q e=>by
 rcases qP.mp e with⟨r,e1,e2⟩ | ⟨r,e1,e2⟩
 ·cases r with
  | nil =>
   rw[dD,mU] at e2;rw[jG] at e1;subst e1;rw[<-e2.1];exact⟨⟨x0,x1⟩,h⟩
  | cons z r=>simp at e2
 ·cases r with
  | nil =>
   rw[dD] at e2;rw[jG] at e1;subst e1;have e3:=(mU ..).mp e2;rw[e3.1];exact⟨⟨x0,x1⟩,h⟩
  | cons z r =>
   rw[mD,mU] at e2;obtain⟨rfl,e2⟩:=e2;exact l p y r e1
def NN(qv:LL9)(as:List Int)(w:Int->Nat)(s:List Int):Prop:=∀x,0<=x->x < (qv.length:Int)->s.count x<=w x+arv qv x as s
theorem NN.nil{qv:LL9}{as:List Int}{w:Int->Nat}:NN qv as w []:=fun x _ _=>dJ _
theorem NN.snoc{qv:LL9}{as:List Int}{w:Int->Nat}{s:List Int}(l:NN qv as w s){x:Int}(h:s.count x < w x+arv qv x as s):NN qv as w (s++[x]):=fun y y0 y1=>by
 have:=l y y0 y1;rw[eY,ig,n6]
 by_cases e:x=y
 ·subst e;rw[if_pos rfl];have z:([]:List Int).count x=0:=rfl;omega
 ·rw[if_neg e];have z:([]:List Int).count y=0:=rfl;omega
theorem ahu{qv:LL9}:∀{s:List Int},InR qv s->s.length=((upto qv.length).map fun y=>s.count y).sum
 | [],_=>by
  symm
  rw[aap (fun y=>([]:List Int).count y) (fun _=>0) _ fun x _=>rfl]
  generalize upto qv.length=l
  induction l with
  | nil=>rfl
  | cons x l ih=>rw[aX,cD,ih];rfl
 | x::s,hs=>by
  have hx:=hs x (aR ..);have ih:=ahu (s:=s) fun z hz=>hs z (aQ _ hz)
  rw[dY,ih]
  symm
  rw[ag6 (fun y=>(x::s).count y) (fun y=>s.count y) x 1 (by rw[ig,if_pos rfl];omega) _ (adn _) (yp hx.1 hx.2) fun y hy e=>by rw[ig,if_neg (iR e)];rfl]
  omega
theorem a0c{qv:LL9}{s t:List Int}(hs:InR qv s)(ht:InR qv t)(h:∀x,s.count x<=t.count x):s.length<=t.length:=by
 rw[ahu hs,ahu ht];exact aes _ _ _ fun x _=>h x
section
variable{qv:LL9}(h:Hs qv)(hop:xf qv=[]){W:Nat}(hW1:1<=W)(hw:∀r∈qv,r.length<=W)
include h hop hW1 hw
theorem auv:∀(rs:List Int) {as:List Int},Arr qv as->InR qv rs->∃s,Led qv as rs s/\s.length<=rs.length*sx W qv.length
 | [],as,ha,_=>⟨[],.nil _,dJ _⟩
 | k::rs,as,ha,hr=>by
  have hk:=hr k (aR ..);obtain⟨T,t1,t2,hp,hn⟩:=ar0 h ha hk.1 hk.2 hW1 hop hw;obtain⟨s,l,hs⟩:=auv rs (ago h ha hk.1 hk.2 T hp).1 fun y hy=>hr y (aQ _ hy)
  refine⟨vis qv as k T++s,.cons hk.1 hk.2 hp hn l,?_⟩;have hv:(vis qv as k T).length=T:=by simp[vis]
  rw[cG,hv,dY,Nat.succ_mul];omega
end
def rowW(ws:List Int):Nat->List Int
 | 0=>[]
 | j+1=>rowW ws j++aG (ws.getD j 0).toNat ((j:Nat):Int)
theorem ace(ws:List Int):∀n,∀x∈rowW ws n,0<=x/\x < (n:Int)
 | 0,x,hx=>by cases hx
 | n+1,x,hx=>by
  rcases cN.mp hx with q | q
  ·have:=ace ws n x q;omega
  ·have:=(List.mem_replicate.mp q).2;omega
theorem adt(ws:List Int):∀(n:Nat) (i:Nat),(rowW ws n).count ((i:Nat):Int)=if i < n then (ws.getD i 0).toNat else 0
 | 0,i=>by simp[rowW]
 | n+1,i=>by
  show(rowW ws n++aG (ws.getD n 0).toNat ((n:Nat):Int)).count ((i:Nat):Int)=_;rw[eY,adt ws n i,List.count_replicate]
  by_cases e:i=n
  ·subst e;simp
  ·have e2:¬((n:Nat):Int)=((i:Nat):Int):=by omega
   have e3:(((n:Nat):Int)==((i:Nat):Int))=false:=beq_eq_false_iff_ne.mpr e2;rw[e3];simp only[iB,if_false,Nat.add_zero]
   by_cases q:i < n
   ·rw[if_pos q,if_pos (by omega)]
   ·rw[if_neg q,if_neg (by omega)]
theorem alm(ws:List Int)(b:Nat)(hw:∀w∈ws,w<=(b:Int)):∀n,(rowW ws n).length<=b*n
 | 0=>dJ _
 | n+1=>by
  have ih:=alm ws b hw n;have:(ws.getD n 0).toNat<=b:=by
   rw[aH];cases q:ws[n]? with
   | none=>exact dJ _
   | some w =>
    have:=hw w (cY q);show w.toNat<=b;omega
  show(rowW ws n++aG (ws.getD n 0).toNat ((n:Nat):Int)).length<=_;rw[cG,cU,Nat.mul_succ];omega
def wf(ws:List Int):Int->Nat:=fun x=>(ws.getD x.toNat 0).toNat
def stn(qv:LL9)(as ws s:List Int):List Int:=(aY qv.length).map fun i=>((wf ws ((i:Nat):Int)+arv qv ((i:Nat):Int) as s:Nat):Int) - ((s.count ((i:Nat):Int):Nat):Int)
def gts(qv:LL9)(as s:List Int):List Int:=[(arv qv (-1) as s:Int),(arv qv (-2) as s:Int),(arv qv (-3) as s:Int)]
theorem sy(qv:LL9)(as ws s:List Int):(stn qv as ws s).length=qv.length:=by simp[stn]
theorem ag8{qv:LL9}(as ws s:List Int){x:Int}(x0:0<=x)(x1:x < (qv.length:Int)):(stn qv as ws s).getD x.toNat 0=((wf ws x+arv qv x as s:Nat):Int) - ((s.count x:Nat):Int):=by
 have hk:x.toNat < qv.length:=by omega
 unfold stn;rw[aH,aU,cX hk];show((wf ws ((x.toNat:Nat):Int)+arv qv ((x.toNat:Nat):Int) as s:Nat):Int) - ((s.count ((x.toNat:Nat):Int):Nat):Int)=_;rw[show((x.toNat:Nat):Int)=x by omega]
theorem most{qv:LL9}(h:Hs qv)(hop:xf qv=[]){W:Nat}(hW1:1<=W)(hw:∀r∈qv,r.length<=W){as ws:List Int}(ha:Arr qv as){b:Nat}(hb:∀w∈ws,w<=(b:Int)) :
  ∃S,Lg qv as (wf ws) S/\Stb qv as (wf ws) S/\∀s,Lg qv as (wf ws) s->s.length<=b*qv.length*sx W qv.length:=by
 obtain⟨S,l,hl⟩:=auv h hop hW1 hw (rowW ws qv.length) ha (ace ws qv.length);obtain⟨a1,a2⟩:=l.ok h ha;have hc:∀x,0<=x->x < (qv.length:Int)->(rowW ws qv.length).count x=wf ws x:=fun x x0 x1=>by
  have:=adt ws qv.length x.toNat;rw[if_pos (by omega),show((x.toNat:Nat):Int)=x by omega] at this
  exact this
 have b1:Lg qv as (wf ws) S:=fun p x q e=>by
  obtain⟨c1,c2⟩:=a1 p x q e;exact⟨c1,by rw[<-hc x c1.1 c1.2];exact c2⟩
 have b2:Stb qv as (wf ws) S:=fun x x0 x1=>by rw[<-hc x x0 x1];exact a2 x x0 x1
 refine⟨S,b1,b2,fun s hs =>?_⟩
 have z:=a0c hs.inR b1.inR (adb h ha hs b1.inR fun x x0 x1=>kI (b2 x x0 x1).symm)
 have r:=alm ws b hb qv.length;exact cC z (cC hl (mY _ r))
def maxI(ns:List Int):Int:=ab5 (fun i j=>decide (i > j)) ns
theorem aqg(n:Int)(r:List Int):∀x:Int,(r.foldl (fun m y=>if decide (y > m)=true then y else m) x < n)↔x < n/\∀y∈r,y < n:=by
 induction r with
 | nil=>intro x;simp
 | cons z t ih =>
  intro x;rw[iG,ih]
  by_cases h:z > x
  ·simp only[h,decide_true,if_true,aV,forall_eq_or_imp];constructor
   ·rintro⟨a,b⟩;exact⟨by omega,a,b⟩
   ·rintro⟨_,a,b⟩;exact⟨a,b⟩
  ·simp only[h,decide_false,iB,if_false,aV,forall_eq_or_imp];constructor
   ·rintro⟨a,b⟩;exact⟨a,by omega,b⟩
   ·rintro⟨a,_,b⟩;exact⟨a,b⟩
theorem awt{ns:List Int}(h:ns≠[])(n:Int):maxI ns < n↔∀y∈ns,y < n:=by
 cases ns with
 | nil=>exact absurd rfl h
 | cons x r =>
  show r.foldl (fun m y=>if decide (y > m)=true then y else m) x < n↔_
  rw[aqg];simp
theorem ave{qv:LL9}:compD (cu 0) (ret true) abk (hDs qv) [] [.emp]=some (.ok ((aG qv.length (0:Int)).map D.int),aar .emp (hDs qv)::[]):=by
 rw[vo (f:=fun _=>.int 0)]
 ·unfold hDs;rw[dD,fG,jF]
  congr 3
  apply eX;intro i
  by_cases hi:i < qv.length
  ·simp[hi]
  ·simp[hi]
 ·intro d _;simp[abk]
theorem al1:∀{ns:List Int},ns≠[]->maxI ns∈ns:=fun{ns} hne=>by
 cases ns with
 | nil=>exact absurd rfl hne
 | cons x r =>
  show r.foldl (fun m y=>if decide (y > m)=true then y else m) x∈x::r
  have key:∀(r:List Int) (x:Int),r.foldl (fun m y=>if decide (y > m)=true then y else m) x=x∨r.foldl (fun m y=>if decide (y > m)=true then y else m) x∈r:=fun r=>by
   induction r with
   | nil=>exact fun x=>.inl rfl
   | cons y r ih =>
    intro x;rw[iG];rcases ih (if decide (y > x)=true then y else x) with q | q
    ·rw[q];split
     ·exact .inr (aR ..)
     ·exact .inl rfl
    ·exact .inr (aQ _ q)
  rcases key r x with q | q
  ·rw[q];exact aR ..
  ·exact aQ _ q
theorem al9{ns:List Int}(h:ns≠[]):atx (.lst (ns.map D.int))=some (.v (.int (maxI ns))):=by
 show(xm (ns.map D.int)).bind _=_;rw[afk];simp[h,maxI]
section
variable{qv:LL9}(h:Hs qv){as:List Int}(ha:Arr qv as){ws:List Int}
include h ha
theorem ar8{s:List Int}(hs:InR qv s){x:Int}(x0:0<=x)(x1:x < (qv.length:Int)) :
  stn qv as ws (s++[x])=(let l1:=(stn qv as ws s).set x.toNat ((stn qv as ws s).getD x.toNat 0 - 1)
   let d:=led qv (go qv as s) x
   if 0<=d then l1.set d.toNat (l1.getD d.toNat 0+1) else l1):=by
 have hl:=sy qv as ws s;have hga:=ael h s ha hs;have hd:=al3 h hga x0 x1;have key:∀i:Nat,i < qv.length->(stn qv as ws (s++[x]))[i]? = some ((stn qv as ws s).getD i 0 - (if x=(i:Int) then 1 else 0)+(if led qv (go qv as s) x=(i:Int) then 1 else 0)):=fun i hi=>by
  have e1:=ag8 (qv:=qv) as ws (s++[x]) (x:=(i:Int)) (by omega) (by omega)
  have e2:=ag8 (qv:=qv) as ws s (x:=(i:Int)) (by omega) (by omega)
  rw[aZ] at e1 e2;have hlt:i < (stn qv as ws (s++[x])).length:=by rw[sy];exact hi
  rw[aH,aC hlt] at e1;rw[aC hlt]
  congr 1
  have e1:(stn qv as ws (s++[x]))[i]=_:=e1;rw[e1,e2,eY,ig,n6];have z:([]:List Int).count (i:Int)=0:=rfl;show(((wf ws (i:Int))+(arv qv (i:Int) as s+((if led qv (go qv as s) x=(i:Int) then 1 else 0)+0)):Nat):Int) - ((s.count (i:Int)+(([]:List Int).count (i:Int)+(if x=(i:Int) then 1 else 0)):Nat):Int)=_
  rw[z];split <;> split <;> omega
 apply eX;intro i
 by_cases hi:i < qv.length
 ·rw[key i hi];show _=(if 0<=led qv (go qv as s) x then ((stn qv as ws s).set x.toNat ((stn qv as ws s).getD x.toNat 0 - 1)).set (led qv (go qv as s) x).toNat (((stn qv as ws s).set x.toNat ((stn qv as ws s).getD x.toNat 0 - 1)).getD (led qv (go qv as s) x).toNat 0+1) else (stn qv as ws s).set x.toNat ((stn qv as ws s).getD x.toNat 0 - 1))[i]?
  have base:((stn qv as ws s).set x.toNat ((stn qv as ws s).getD x.toNat 0 - 1))[i]? = some ((stn qv as ws s).getD i 0 - (if x=(i:Int) then 1 else 0)):=by
   rw[bL]
   by_cases q:x.toNat=i
   ·rw[if_pos q,if_pos (by omega),if_pos (by omega),q]
   ·rw[if_neg q,if_neg (by omega),aC (by omega),aH,aC (by omega)]
    simp
  by_cases hd0:0<=led qv (go qv as s) x
  ·rw[if_pos hd0,bL]
   by_cases q:(led qv (go qv as s) x).toNat=i
   ·have hlt:i < ((stn qv as ws s).set x.toNat ((stn qv as ws s).getD x.toNat 0 - 1)).length:=by rw[bU];omega
    have e9:((stn qv as ws s).set x.toNat ((stn qv as ws s).getD x.toNat 0 - 1)).getD i 0=(stn qv as ws s).getD i 0 - (if x=(i:Int) then 1 else 0):=by rw[aH,base];rfl
    rw[if_pos q,q,if_pos hlt,e9,if_pos (show led qv (go qv as s) x=(i:Int) by omega)]
   ·rw[if_neg q,base,if_neg (show ¬led qv (go qv as s) x=(i:Int) by omega),jN]
  ·rw[if_neg hd0,base,if_neg (show ¬led qv (go qv as s) x=(i:Int) by omega),jN]
 ·rw[bG (by rw[sy];omega)]
  symm
  apply bG;show(if 0<=led qv (go qv as s) x then ((stn qv as ws s).set x.toNat ((stn qv as ws s).getD x.toNat 0 - 1)).set (led qv (go qv as s) x).toNat (((stn qv as ws s).set x.toNat ((stn qv as ws s).getD x.toNat 0 - 1)).getD (led qv (go qv as s) x).toNat 0+1) else (stn qv as ws s).set x.toNat ((stn qv as ws s).getD x.toNat 0 - 1)).length<=i
  split
  ·rw[bU,bU];omega
  ·rw[bU];omega
omit h ha in
theorem atn(s:List Int)(x:Int)(hd : -3<=led qv (go qv as s) x):gts qv as (s++[x])=if 0<=led qv (go qv as s) x then gts qv as s else (gts qv as s).set (0 - led qv (go qv as s) x - 1).toNat ((gts qv as s).getD (0 - led qv (go qv as s) x - 1).toNat 0+1):=by
 unfold gts;rw[n6,n6,n6];have e:∀d,arv qv d (go qv as s) [x]=if led qv (go qv as s) x=d then 1 else 0:=fun d=>by
  show(if led qv (go qv as s) x=d then 1 else 0)+0=_
  omega
 rw[e,e,e];generalize led qv (go qv as s) x=d at *
 by_cases q:0<=d
 ·rw[if_pos q,if_neg (by omega),if_neg (by omega),if_neg (by omega)]
  simp
 ·have:d = -1∨d = -2∨d = -3:=by omega
  rcases this with rfl | rfl | rfl <;> simp
theorem apw{s:List Int}(hs:InR qv s){x:Int}(x0:0<=x)(x1:x < (qv.length:Int)):ux [.val (hD qv),.own (some 1) ((go qv as s).map D.int),.own (some 2) ((stn qv as ws s).map D.int),.own (some 3) ((gts qv as s).map D.int),.val (.int x)] =
  some (.ok (.v .non),[.val (hD qv),.own (some 1) ((go qv as (s++[x])).map D.int),.own (some 2) ((stn qv as ws (s++[x])).map D.int),.own (some 3) ((gts qv as (s++[x])).map D.int),.val (.int x)]):=by
 have hga:=ael h s ha hs;have e1:=aea x0 x1;have e2:=amu h hga x0 x1;have e3:=ax0 h hga x0 x1;have e4:=ajq h hga x0 x1 (ar (go qv as s) x+1);have e5:ixN (go qv as s).length x=some x.toNat:=aci x0 (by rw[hga.len];exact x1)
 have e6:ixN (stn qv as ws s).length x=some x.toNat:=aci x0 (by rw[sy];exact x1)
 have e7:=jt (ns:=stn qv as ws s) x0 (by rw[sy];exact x1)
 have hd:=al3 h hga x0 x1;have eg:go qv as (s++[x])=gone qv (go qv as s) x:=by rw[afn];rfl
 rw[eg,ar8 h ha hs x0 x1,atn s x hd.1];generalize hDd:led qv (go qv as s) x=d at *;show _=some (Out.ok (Rv.v .non),[Sl.val (hD qv),.own (some 1) ((gone qv (go qv as s) x).map D.int),.own (some 2) ((if 0<=d then ((stn qv as ws s).set x.toNat ((stn qv as ws s).getD x.toNat 0 - 1)).set d.toNat (((stn qv as ws s).set x.toNat ((stn qv as ws s).getD x.toNat 0 - 1)).getD d.toNat 0+1) else (stn qv as ws s).set x.toNat ((stn qv as ws s).getD x.toNat 0 - 1)).map D.int),.own (some 3) ((if 0<=d then gts qv as s else (gts qv as s).set (0 - d - 1).toNat ((gts qv as s).getD (0 - d - 1).toNat 0+1)).map D.int),.val (.int x)])
 have hgl:(gts qv as s).length=3:=rfl;have hsl:((stn qv as ws s).set x.toNat ((stn qv as ws s).getD x.toNat 0 - 1)).length=qv.length:=by rw[bU,sy]
 have m1:((stn qv as ws s).map D.int).set x.toNat (.int ((stn qv as ws s).getD x.toNat 0 - 1))=((stn qv as ws s).set x.toNat ((stn qv as ws s).getD x.toNat 0 - 1)).map D.int:=by rw[jB]
 have m2:((go qv as s).map D.int).set x.toNat (.int ((ar (go qv as s) x+1) % ((dr qv x).length:Int)))=(gone qv (go qv as s) x).map D.int:=by unfold gone;rw[jB]
 generalize (stn qv as ws s).set x.toNat ((stn qv as ws s).getD x.toNat 0 - 1)=l1 at *;generalize hgt:gts qv as s=gt at *
 by_cases q:0<=d
 ·have e8:=jt (ns:=l1) q (by rw[hsl];exact hd.2)
  have e9:ixN l1.length d=some d.toNat:=aci q (by rw[hsl];exact hd.2)
  rw[if_pos q,if_pos q];have m3:(l1.map D.int).set d.toNat (.int (l1.getD d.toNat 0+1))=(l1.set d.toNat (l1.getD d.toNat 0+1)).map D.int:=by rw[jB]
  have e9':ixN (l1.map D.int).length d=some d.toNat:=by rw[aD];exact e9
  have e5':ixN ((go qv as s).map D.int).length x=some x.toNat:=by rw[aD];exact e5
  have e6':ixN ((stn qv as ws s).map D.int).length x=some x.toNat:=by rw[aD];exact e6
  rw[<-m3,<-m2];rw[<-m1] at e8 e9' m3 ⊢
  generalize (stn qv as ws s).getD x.toNat 0=sv at *;generalize l1.getD d.toNat 0=lv at *;generalize (stn qv as ws s).map D.int=sm at *;generalize (go qv as s).map D.int=gm at *;have hdm:((dr qv x).map D.int).length=(dr qv x).length:=aD ..
  generalize (dr qv x).map D.int=dm at *;simp only[hD] at *;simp[ux,ack,e1,e2,e3,e4,e5',e6',e7,q,hdm,e8,e9',-bU,-aD]
 ·have hd':d = -1∨d = -2∨d = -3:=by omega
  have k0:0<=0 - d - 1:=by omega
  have k1:0 - d - 1 < (gt.length:Int):=by rw[hgl];omega
  have e8:=jt (ns:=gt) k0 k1;have e9:ixN gt.length (0 - d - 1)=some (0 - d - 1).toNat:=aci k0 k1;rw[if_neg q,if_neg q];have m3:(gt.map D.int).set (0 - d - 1).toNat (.int (gt.getD (0 - d - 1).toNat 0+1))=(gt.set (0 - d - 1).toNat (gt.getD (0 - d - 1).toNat 0+1)).map D.int:=by rw[jB]
  have e9':ixN (gt.map D.int).length (0 - d - 1)=some (0 - d - 1).toNat:=by rw[aD];exact e9
  have e5':ixN ((go qv as s).map D.int).length x=some x.toNat:=by rw[aD];exact e5
  have e6':ixN ((stn qv as ws s).map D.int).length x=some x.toNat:=by rw[aD];exact e6
  have s1:fSub 0 d=some (0 - d):=by simp
  rw[<-m3,<-m2,<-m1];generalize (stn qv as ws s).getD x.toNat 0=sv at *;generalize gt.getD (0 - d - 1).toNat 0=lv at *;generalize hkk:0 - d - 1=kk at *;generalize gt.map D.int=gg at *;generalize (stn qv as ws s).map D.int=sm at *;generalize (go qv as s).map D.int=gm at *;have hkk' : -d - 1=kk:=by omega
  have hdm:((dr qv x).map D.int).length=(dr qv x).length:=aD ..
  generalize (dr qv x).map D.int=dm at *;simp only[hD] at *;simp[ux,ack,e1,e2,e3,e4,e5',e6',e7,q,hkk',hdm,e8,e9',-bU,-aD]
end
theorem avs{qv:LL9}{as ws:List Int}(hl:ws.length=qv.length)(h0:∀w∈ws,0<=w):stn qv as ws []=ws:=by
 apply eX;intro i
 by_cases hi:i < qv.length
 ·have hk:i < ws.length:=by omega
  unfold stn;rw[aU,cX hi,aC hk];show some ((((ws.getD ((i:Nat):Int).toNat 0).toNat+0:Nat):Int) - ((0:Nat):Int))=some ws[i];rw[aZ,aH,aC hk];have:=h0 ws[i] (bO hk);show some (((ws[i].toNat+0:Nat):Int) - ((0:Nat):Int))=_
  congr 1
  omega
 ·rw[bG (by rw[sy];omega),bG (by omega)]
section
variable{qv:LL9}(h:Hs qv){as:List Int}(ha:Arr qv as){ws:List Int}
include h ha
theorem a3a(s:List Int):compD (cu 0) abo abg (jg 0 qv.length) [] [.emp,.own (some 1) ((stn qv as ws s).map D.int)]=some (.ok (((upto qv.length).filter fun x=>decide (0 < (stn qv as ws s).getD x.toNat 0)).map D.int),aar .emp (jg 0 qv.length)::[.own (some 1) ((stn qv as ws s).map D.int)]):=by
 rw[acf,rn (p:=fun d=>match d with | .int k=>decide (0 < (stn qv as ws s).getD k.toNat 0) | _=>false) (f:=id)]
 ·simp only[mR,iK,sV,dD]
 ·intro d hd;obtain⟨k,hk,rfl⟩:=cO.mp hd;have hk':=j8 hk;have e:=jt (ns:=stn qv as ws s) hk'.1 (by rw[sy];exact hk'.2)
  generalize (stn qv as ws s).map D.int=sm at *;simp[abo,e]
 ·intro d hd _;simp[abg]
omit ha in
theorem apr(s:List Int):(0 < maxI (stn qv as ws s))↔∃x:Int,0<=x/\x < (qv.length:Int)/\0 < (stn qv as ws s).getD x.toNat 0:=by
 have h1:=h.one;have hne:stn qv as ws s≠[]:=fun z=>by have:=sy qv as ws s;rw[z] at this;simp at this;omega
 constructor
 ·intro hp;obtain⟨i,hi,e⟩:=gC.mp (al1 hne);rw[sy] at hi;refine⟨(i:Int),by omega,by omega,?_⟩
  rw[aZ,aH,aC (by rw[sy];exact hi)]
  show 0 < (stn qv as ws s)[i];rw[e];exact hp
 ·rintro⟨x,x0,x1,hx⟩
  rcases kO 0 (maxI (stn qv as ws s)) with q | q
  ·exact q
  ·exfalso;have:=(awt hne 1).mp (by omega) ((stn qv as ws s).getD x.toNat 0) (by
    have hk:x.toNat < (stn qv as ws s).length:=by rw[sy];omega
    rw[aH,aC hk];exact bO hk)
   omega
theorem ao6{s:List Int}(hl:Lg qv as (wf ws) s)(hn:NN qv as (wf ws) s)(hp:0 < maxI (stn qv as ws s))(o5:Sl):∃r:Int,Lg qv as (wf ws) (s++[r])/\NN qv as (wf ws) (s++[r])/\∃q5,
  yo [.val (hD qv),.own none ((go qv as s).map D.int),.own none ((stn qv as ws s).map D.int),.own none ((gts qv as s).map D.int),.own none ((tal qv.length s).map D.int),o5] =
  some (.nx,[.val (hD qv),.own none ((go qv as (s++[r])).map D.int),.own none ((stn qv as ws (s++[r])).map D.int),.own none ((gts qv as (s++[r])).map D.int),.own none ((tal qv.length (s++[r])).map D.int),q5]):=by
 obtain⟨x,x0,x1,hx⟩:=(apr h s).mp hp;have hne:((upto qv.length).filter fun x=>decide (0 < (stn qv as ws s).getD x.toNat 0))≠[]:=fun z=>by
  have:x∈((upto qv.length).filter fun x=>decide (0 < (stn qv as ws s).getD x.toNat 0)):=bR.mpr ⟨yp x0 x1,decide_eq_true hx⟩
  rw[z] at this;cases this
 have hr:=al1 hne;have eM:=al9 hne;have hc2:(((upto qv.length).filter fun x=>decide (0 < (stn qv as ws s).getD x.toNat 0)).map D.int).length<=capS:=by
  rw[aD];refine bh (cC (dU _ _) ?_);have:=h.most;unfold upto;rw[aD,cF];omega
 have eC:=a3a (ws:=ws) h ha s;obtain⟨hr1,hr2⟩:=bR.mp hr;have hr2:=of_decide_eq_true hr2;generalize ((upto qv.length).filter fun x=>decide (0 < (stn qv as ws s).getD x.toNat 0))=R at *
 generalize maxI R=r at *;obtain⟨r0,r1⟩:=j8 hr1;rw[ag8 as ws s r0 r1] at hr2;have hlt:s.count r < wf ws r+arv qv r as s:=by omega
 refine⟨r,hl.snoc r0 r1 hlt,hn.snoc hlt,.val (.int r),?_⟩;have e1:=apw (ws:=ws) h ha hl.inR r0 r1;have e2:=auh (n:=qv.length) (s:=s) r0 r1;have tl:=aan qv.length s;have e3:=jt (ns:=tal qv.length s) r0 (by rw[tl];exact r1)
 have e4:ixN ((tal qv.length s).map D.int).length r=some r.toNat:=by rw[aD,tl];exact aci r0 r1
 have e5:((tal qv.length s).map D.int).set r.toNat (.int ((tal qv.length s).getD r.toNat 0+1))=(tal qv.length (s++[r])).map D.int:=by
  rw[<-e2];unfold bump;rw[jB]
 have hm:=h.most;have hdl:=kh qv;have hb':qv.length < 4611686018427387904:=by omega
 rw[<-e5];generalize (tal qv.length s).getD r.toNat 0=tv at *;generalize (tal qv.length s).map D.int=tm at *;generalize (stn qv as ws (s++[r])).map D.int=sm2 at *;generalize (stn qv as ws s).map D.int=sm at *;generalize (gts qv as (s++[r])).map D.int=gm2 at *;generalize (gts qv as s).map D.int=gm at *;generalize (go qv as (s++[r])).map D.int=am2 at *;generalize (go qv as s).map D.int=am at *;generalize R.map D.int=RR at *;simp only[hD] at *;simp[yo,hdl,hb',eC,hc2,eM,e1,e3,e4,-aD]
theorem afe(hop:xf qv=[]){W b:Nat}(hW1:1<=W)(hw:∀r∈qv,r.length<=W)(hwl:ws.length=qv.length)(hw0:∀w∈ws,0<=w/\w<=(b:Int))(hB:b*qv.length*sx W qv.length < 100000) :
  ∃S X Y,Lg qv as (wf ws) S/\Stb qv as (wf ws) S/\yc [.val (hD qv),.val (.tup (as.map D.int)),.val (.tup (ws.map D.int))]=some (.ok (.v (.tup [.tup ((gts qv as S).map D.int),.tup ((go qv as S).map D.int),.tup ((tal qv.length S).map D.int)])),[.val (hD qv),X,Y]):=by
 obtain⟨_,_,_,hmost⟩:=most h hop hW1 hw ha (ws:=ws) (b:=b) fun w hw'=>(hw0 w hw').2
 have hm:=h.most;have h1:=h.one;have hne:∀s,stn qv as ws s≠[]:=fun s z=>by have:=sy qv as ws s;rw[z] at this;simp at this;omega
 have loop:=v8 (c:=yq) (g:=yo)
  (fun n ρ=>∃(s:List Int) (o5:Sl),n=b*qv.length*sx W qv.length - s.length/\Lg qv as (wf ws) s/\NN qv as (wf ws) s/\ρ=[.val (hD qv),.own none ((go qv as s).map D.int),.own none ((stn qv as ws s).map D.int),.own none ((gts qv as s).map D.int),.own none ((tal qv.length s).map D.int),o5])
  (fun ρ=>∃(s:List Int) (o5:Sl),Lg qv as (wf ws) s/\Stb qv as (wf ws) s/\ρ=[.val (hD qv),.own none ((go qv as s).map D.int),.own none ((stn qv as ws s).map D.int),.own none ((gts qv as s).map D.int),.own none ((tal qv.length s).map D.int),o5])
  ?_ fuel (b*qv.length*sx W qv.length) [.val (hD qv),.own none (as.map D.int),.own none (ws.map D.int),.own none [.int 0,.int 0,.int 0],.own none ((aG qv.length (0:Int)).map D.int),.emp] (jL hB adi) ⟨[],.emp,by simp,.nil,.nil,by rw[avs hwl fun w hw'=>(hw0 w hw').1,avo];rfl⟩
 ·obtain⟨ρ',e,S,o5,l,st,rfl⟩:=loop;refine⟨S,.own none ((go qv as S).map D.int),.own none ((stn qv as ws S).map D.int),l,st,?_⟩;have hal:=ha.len;have c1:(as.map D.int).length<=capS:=by rw[aD];exact bh (by omega)
  have c2:(ws.map D.int).length<=capS:=by rw[aD];exact bh (by omega)
  have z:=ave (qv:=qv);have c3:((aG qv.length (0:Int)).map D.int).length<=capS:=by rw[aD,cU];exact bh (by omega)
  have c4:((gts qv as S).map D.int).length<=capS:=bh (show 3<=1000 by decide)
  have c5:((tal qv.length S).map D.int).length<=capS:=by rw[aD,aan];exact bh (by omega)
  have c6:((go qv as S).map D.int).length<=capS:=by rw[aD,(ael h S ha l.inR).len];exact bh (by omega)
  generalize (aG qv.length (0:Int)).map D.int=zz at *;generalize (tal qv.length S).map D.int=tm at *;generalize (stn qv as ws S).map D.int=sm at *;generalize (gts qv as S).map D.int=gm at *;generalize (go qv as S).map D.int=am at *;generalize as.map D.int=la at *;generalize ws.map D.int=lw at *;simp only[hD] at *;generalize hDs qv=hh at *;simp[yc,afs,noTf,Rv.sl,c1,c2,c3,c4,c5,c6,z,e]
 ·rintro n ρ ⟨s,o5,rfl,l,nn,rfl⟩
  have eM:=al9 (hne s)
  by_cases hp:0 < maxI (stn qv as ws s)
  ·obtain⟨r,l2,n2,q5,e⟩:=ao6 h ha l nn hp o5;have z:=hmost _ l2;rw[cG] at z;refine .inr ⟨_,_,b*qv.length*sx W qv.length - (s++[r]).length,?_,e,by rw[cG];simp at z ⊢;omega,s++[r],q5,rfl,l2,n2,rfl⟩
   generalize (stn qv as ws s).map D.int=sm at *;generalize hD qv=hh at *;simp[yq,eM,hp]
  ·refine .inl ⟨_,?_,s,o5,l,fun x x0 x1 =>?_,rfl⟩
   ·generalize (stn qv as ws s).map D.int=sm at *;generalize hD qv=hh at *;simp[yq,eM,hp]
   ·have q1:=nn x x0 x1;have q2:¬0 < (stn qv as ws s).getD x.toNat 0:=fun q=>hp ((apr h s).mpr ⟨x,x0,x1,q⟩)
    rw[ag8 as ws s x0 x1] at q2;omega
end
def U(n a L d:Int):Int:=(L+n - 1 - (d - a) % n) / n
theorem at8{x n:Int}(hn:0 < n):(x+1) / n=x / n+if x % n=n - 1 then 1 else 0:=by
 have h1:=fD x (by omega:n≠0)
 have h2:=cV x hn;have h3:=mW x n;split
 ·rename_i h;exact((sH hn (r:=0) (q:=x / n+1)).mpr ⟨by rw[nP,pY];omega,by omega,hn⟩).1
 ·rename_i h;rw[jN];exact((sH hn (r:=x % n+1) (q:=x / n)).mpr ⟨by omega,by omega,by omega⟩).1
theorem apq{n a L d:Int}(hn:0 < n)(d0:0<=d)(d1:d < n):(L+n - 1 - (d - a) % n) % n=n - 1↔d=(a+L) % n:=by
 have s0:=fD (a+L) (by omega:n≠0)
 have s1:=cV (a+L) hn;have e1:=mW (a+L) n;have e2:=mW (d - a) n;have ex:L+n - 1 - (d - a) % n=((a+L) % n - d - 1)+n*((a+L) / n+(d - a) / n+1):=by
  rw[nP,nP,pY];omega
 rw[ex,Int.add_mul_emod_self_left];generalize (a+L) % n=s at s0 s1;constructor
 ·intro h;rcases Int.lt_trichotomy s d with q | q | q
  ·have:(s - d - 1) % n=s - d - 1+n:=by
    rw[<-kW];exact dH (by omega) (by omega)
   omega
  ·exact q.symm
  ·have:(s - d - 1) % n=s - d - 1:=dH (by omega) (by omega)
   omega
 ·intro h;subst h;have:(d - d - 1) % n=d - d - 1+n:=by
   rw[<-kW];exact dH (by omega) (by omega)
  omega
theorem a1c{n a L d:Int}(hn:0 < n)(d0:0<=d)(d1:d < n):U n a (L+1) d=U n a L d+if d=(a+L) % n then 1 else 0:=by
 unfold U;rw[show L+1+n - 1 - (d - a) % n=(L+n - 1 - (d - a) % n)+1 by omega,at8 hn]
 by_cases h:d=(a+L) % n
 ·rw[if_pos ((apq hn d0 d1).mpr h),if_pos h]
 ·rw[if_neg (fun z=>h ((apq hn d0 d1).mp z)),if_neg h]
def ab1(n:Nat)(a L:Int):List Int:=(aY n).map fun d=>U n a L (d:Nat)
theorem aig(n:Nat)(a L:Int):(ab1 n a L).length=n:=by simp[ab1]
theorem am0{n:Nat}{a L:Int}(h1:1<=n)(h6:n<=6):abd [.val (.int (n:Nat)),.val (.int a),.val (.int L)]=some (.ok (.fr ((ab1 n a L).map D.int)),[.val (.int (n:Nat)),.val (.int a),.val (.int L)]):=by
 have hb:n < 4611686018427387904:=by omega
 have loop:=zc (b:=cu 4) (g:=adz) (fun i ρ=>∃o1 o2,ρ=[.val (.int (n:Nat)),.val (.int a),.val (.int L),.own none (((aY i).map fun d=>U n a L (d:Nat)).map D.int),o1,o2])
  (l:=jg 0 n) (ρ:=[.val (.int (n:Nat)),.val (.int a),.val (.int L),.own none [],.emp,.emp]) 0 ⟨.emp,.emp,rfl⟩ ?_
 ·obtain⟨ρ',e,o1,o2,rfl⟩:=loop;have hl:(jg 0 n).length=n:=by simp[jg]
  rw[hl,bW] at e;simp[-fG,abd,ajm,hb,e,ab1]
 ·rintro i d ρ hd ⟨o1,o2,rfl⟩
  rw[bW] at *;unfold jg at hd;rw[aU] at hd;have hi:i < n:=by
   rcases fY i n with q | q
   ·exact q
   ·rw[bG (by simpa using q)] at hd
    cases hd
  rw[cX hi] at hd;cases hd;have hn':(0:Int) < (n:Nat):=by omega
  have f1:∀x:Int,fMod x (n:Nat)=some (x % (n:Nat)):=fun x=>by unfold fMod;rw[if_pos hn']
  have f2:∀x:Int,fDiv x (n:Nat)=some (x / (n:Nat)):=fun x=>by unfold fDiv;rw[if_pos ⟨hn',by omega⟩]
  have hc:((aY i).map fun d=>U n a L (d:Nat)).length < capS:=by rw[aD,cF];unfold capS;omega
  have es:((aY (i+1)).map fun d=>U n a L (d:Nat))=((aY i).map fun d=>U n a L (d:Nat))++[U n a L (i:Nat)]:=by rw[fK,bT];rfl
  have e0:(0:Int)+(i:Nat)=(i:Nat):=by omega
  refine⟨_,[.val (.int (n:Nat)),.val (.int a),.val (.int L),.own none (((aY (i+1)).map fun d=>U n a L (d:Nat)).map D.int),.val (.int (0+(i:Nat))),.val (.int ((((i:Nat):Int) - a) % (n:Nat)))],rfl,.inl ?_,_,_,rfl⟩
  rw[es,e0];generalize ((aY i).map fun d=>U n a L (d:Nat))=Z at hc
  have hc':Z.length < capS:=hc;simp[adz,f1,f2,hc',U]
def prs(r:List Int)(a L:Int):List (Int×Int):=(aY r.length).map fun k=>(r.getD k 0,U r.length a L (k:Nat))
theorem ar7(f g:Nat->Int)(k0:Nat)(c:Int):∀n,(∀k,k < n->f k=g k+if k=k0 then c else 0)->k0 < n->((aY n).map f).sum=((aY n).map g).sum+c:=fun n=>by
 have aux:∀n,(∀k,k < n->f k=g k+if k=k0 then c else 0)->((aY n).map f).sum=((aY n).map g).sum+if k0 < n then c else 0:=fun n=>by
  induction n with
  | zero=>intro _;rfl
  | succ n ih =>
   intro hk;rw[fK,bT,bT,pQ,pQ,ih fun k hk'=>hk k (by omega)]
   have:=hk n (by omega)
   simp only[aX,oZ,cD,List.sum_nil];rw[this]
   by_cases q:n=k0
   ·subst q;rw[if_pos rfl,if_neg (by omega),if_pos (by omega)]
    omega
   ·rw[if_neg q]
    by_cases q2:k0 < n
    ·rw[if_pos q2,if_pos (by omega)];omega
    ·rw[if_neg q2,if_neg (by omega)];omega
 intro hk h0;rw[aux n hk,if_pos h0]
theorem auk{qv:LL9}(h:Hs qv){as:List Int}(ha:Arr qv as){x:Int}(x0:0<=x)(x1:x < (qv.length:Int))(d:Int):∀m:Nat,((us qv as x d m:Nat):Int)=((prs (dr qv x) (ar as x) (m:Int)).map fun p=>if p.1=d then p.2 else 0).sum
 | 0=>by
  have hw:=(h.dr x0 x1).1;show(0:Int)=_;unfold prs;rw[fG]
  symm
  have z:∀k∈List.range (dr qv x).length,((fun p:Int×Int=>if p.1=d then p.2 else 0)∘fun k:Nat=>((dr qv x).getD k 0,U (dr qv x).length (ar as x) ((0:Nat):Int) (k:Nat))) k=0:=fun k hk=>by
   have hk:=cW.mp hk;show(if (dr qv x).getD k 0=d then U (dr qv x).length (ar as x) 0 (k:Nat) else 0)=0
   have b0:=fD ((k:Int) - ar as x) (show((dr qv x).length:Int)≠0 by omega)
   have b1:=cV ((k:Int) - ar as x) (show(0:Int) < ((dr qv x).length:Int) by omega)
   have:U (dr qv x).length (ar as x) 0 (k:Nat)=0:=Int.ediv_eq_zero_of_lt (by omega) (by omega)
   rw[this];split <;> rfl
  rw[jW z];generalize aY (dr qv x).length=l
  induction l with
  | nil=>rfl
  | cons y l ih=>rw[aX,cD,ih];rfl
 | m+1=>by
  have ih:=auk h ha x0 x1 d m;have hw:=(h.dr x0 x1).1;have b0:=fD (ar as x+(m:Int)) (show((dr qv x).length:Int)≠0 by omega)
  have b1:=cV (ar as x+(m:Int)) (show(0:Int) < ((dr qv x).length:Int) by omega)
  show((us qv as x d m+(if (dr qv x).getD ((ar as x+(m:Int)) % ((dr qv x).length:Int)).toNat 0=d then 1 else 0):Nat):Int)=_
  rw[jH,ih];unfold prs;rw[fG,fG]
  symm
  rw[ar7 _ ((fun p:Int×Int=>if p.1=d then p.2 else 0)∘fun k:Nat=>((dr qv x).getD k 0,U (dr qv x).length (ar as x) ((m:Nat):Int) (k:Nat))) ((ar as x+(m:Int)) % ((dr qv x).length:Int)).toNat (if (dr qv x).getD ((ar as x+(m:Int)) % ((dr qv x).length:Int)).toNat 0=d then 1 else 0)]
  ·split <;> rfl
  ·intro k hk;show(if (dr qv x).getD k 0=d then U (dr qv x).length (ar as x) ((m+1:Nat):Int) (k:Nat) else 0)=(if (dr qv x).getD k 0=d then U (dr qv x).length (ar as x) ((m:Nat):Int) (k:Nat) else 0)+_
   have us:=a1c (n:=((dr qv x).length:Int)) (a:=ar as x) (L:=(m:Int)) (d:=(k:Int)) (by omega) (by omega) (by omega)
   rw[jH];show(if (dr qv x).getD k 0=d then U (dr qv x).length (ar as x) ((m:Int)+1) (k:Nat) else 0)=_
   rw[us]
   by_cases q:k=((ar as x+(m:Int)) % ((dr qv x).length:Int)).toNat
   ·have q':(k:Int)=(ar as x+(m:Int)) % ((dr qv x).length:Int):=by omega
    rw[if_pos q,if_pos q',<-q];split <;> omega
   ·have q':¬(k:Int)=(ar as x+(m:Int)) % ((dr qv x).length:Int):=by omega
    rw[if_neg q,if_neg q'];split <;> omega
  ·omega
theorem anu(l:List Int)(i j:Nat)(v:Int)(hi:i < l.length):(l.set i v).getD j 0=if i=j then v else l.getD j 0:=by
 rw[aH,bL]
 by_cases e:i=j
 ·subst e;rw[if_pos rfl,if_pos hi,if_pos rfl];rfl
 ·rw[if_neg e,if_neg e,<-aH]
theorem at3{a b:List Int}(hl:a.length=b.length)(h:∀i,i < a.length->a.getD i 0=b.getD i 0):a=b:=by
 apply eX;intro i
 by_cases hi:i < a.length
 ·have:=h i hi;rw[aH,aH,aC hi,aC (by omega)] at this
  rw[aC hi,aC (by omega)]
  exact congrArg some this
 ·rw[bG (by omega),bG (by omega)]
section
variable{qv:LL9}(h:Hs qv){as:List Int}(ha:Arr qv as){ws s:List Int}(hs:InR qv s){x:Int}(x0:0<=x)(x1:x < (qv.length:Int))(m:Nat)
include h ha hs x0 x1
end
theorem avd(r:List Int)(a L:Int):z6 (r.map D.int) ((ab1 r.length a L).map D.int)=(prs r a L).map fun p=>.tup [.int p.1,.int p.2]:=by
 unfold z6 prs ab1;apply eX;intro i;rw[jM]
 by_cases hi:i < r.length
 ·simp[hi]
 ·simp[hi]
theorem amz(n:Nat):(aG n [D.int 0]).flatten=(aG n (0:Int)).map D.int:=by
 rw[jF]
 induction n with
 | zero=>rfl
 | succ n ih=>rw[eU,gG,ih,eU];rfl
structure Wk (n:Nat) (ws:List Int):Prop where
 len:ws.length=n
 ok:∀w∈ws,0<=w/\w<=100
theorem ah0{qv:LL9}(h:Hs qv){ws:List Int}(hw:Wk qv.length ws):vh [.val (hD qv),.val (.tup (ws.map D.int)),.val (.int 100)]=some (.ok (.v (.bl true)),[.val (hD qv),.val (.tup (ws.map D.int)),.val (.int 100)]):=by
 have hm:=h.most;have hl:=hw.len;have hl3:=kh qv;have e1:di [.val (.tup (ws.map D.int)),.val (.int (qv.length:Int)),.val (.int (qv.length:Int))]=some (.ok (.v (.bl true)),[.val (.tup (ws.map D.int)),.val (.int (qv.length:Int)),.val (.int (qv.length:Int))]):=by
  have:(ws.length:Int)=qv.length:=by omega
  simp[di,lu,isTy,this]
 have e2:compD (cu 0) (ret true) aav (ws.map D.int) [] [.emp,.val (.int 100)]=some (.ok (ws.map fun _=>.bl true),aar .emp (ws.map D.int)::[.val (.int 100)]):=by
  rw[vo (f:=fun _=>.bl true)]
  ·simp
  ·intro d hd;obtain⟨w,hwm,rfl⟩:=cO.mp hd;have:=hw.ok w hwm;simp[aav,ag1,this.1,this.2]
 have e3:rz (ws.map fun _=>D.bl true)=some (ws.map fun _=>true):=by
  have:=u5 (ws.map fun _=>true)
  rwa[fG] at this
 have e4:(ws.map fun _=>true).all id=true:=by
  rw[kJ,fL];intro x _;rfl
 have hc:ws.length<=capS:=bh (by omega)
 generalize hB:(ws.map fun _=>true)=bs at *
 have hc2:(ws.map fun _=>D.bl true).length<=capS:=by rw[aD];exact hc
 generalize (ws.map fun _=>D.bl true)=BB at *
 generalize ws.map D.int=ww at *;simp only[hD] at *;simp[vh,aem,hl3,e1,e2,e3,e4,hc2]
theorem amh{qv:LL9}(h:Hs qv){as:List Int}(ha:Arr qv as){ws:List Int}(hw:Wk qv.length ws):mj [.val (hD qv),.val (.tup (as.map D.int)),.val (.tup (ws.map D.int))]=some (.ok (.v .non),[.val (hD qv),.val (.tup (as.map D.int)),.val (.tup (ws.map D.int))]):=by
 have e1:=ajk h ha;have e2:=ah0 h hw;generalize as.map D.int=aa at *;generalize ws.map D.int=ww at *;generalize hD qv=hh at *;have e3:j9 [.val hh,.val (.tup aa)]=some (.ok (.v .non),[.val hh,.val (.tup aa)]):=by simp[j9,zb,e1]
 have e4:j6 [.val hh,.val (.tup ww)]=some (.ok (.v .non),[.val hh,.val (.tup ww)]):=by simp[j6,xn,e2]
 simp[mj,aah,e3,e4]
def ldo(qv:LL9)(as:List Int)(x:Int)(m:Nat):Int:=(dr qv x).getD ((ar as x+((m:Int) - 1)) % ((dr qv x).length:Int)).toNat 0
theorem avh(qv:LL9)(as:List Int)(x:Int){m n:Nat}(hm:m < n):us qv as x (ldo qv as x n) m < us qv as x (ldo qv as x n) n:=by
 obtain⟨n,rfl⟩:∃k,n=k+1:=⟨n - 1,by omega⟩
 have e:us qv as x (ldo qv as x (n+1)) (n+1)=us qv as x (ldo qv as x (n+1)) n+1:=by
  show us qv as x (ldo qv as x (n+1)) n+(if (dr qv x).getD ((ar as x+(n:Int)) % ((dr qv x).length:Int)).toNat 0=ldo qv as x (n+1) then 1 else 0)=_
  rw[if_pos];unfold ldo;rw[show(((n+1:Nat):Int) - 1)=(n:Int) by omega]
 have:=aka qv as x (ldo qv as x (n+1)) (show m<=n by omega)
 omega
theorem alj(f g:Int->Nat)(x:Int)(hx:f x < g x):∀l:List Int,x∈l->(∀y∈l,f y<=g y)->(l.map f).sum < (l.map g).sum
 | [],h,_=>by cases h
 | y::l,h,hs=>by
  rw[aX,aX,cD,cD];have h1:=aes f g l fun z hz=>hs z (aQ _ hz)
  have h2:=hs y (aR ..);rcases aV.mp h with rfl | h
  ·omega
  ·have:=alj f g x hx l h fun z hz=>hs z (aQ _ hz)
   omega
section
variable{qv:LL9}(h:Hs qv)
include h
theorem amy:∀(s:List Int) {as:List Int},Arr qv as->InR qv s->s.length=((upto qv.length).map fun d=>arv qv d as s).sum+(arv qv (-1) as s+arv qv (-2) as s+arv qv (-3) as s)
 | [],as,_,_=>by
  have:((upto qv.length).map fun d=>arv qv d as []).sum=0:=by
   generalize upto qv.length=l
   induction l with
   | nil=>rfl
   | cons x l ih=>rw[aX,cD,ih];rfl
  rw[this];rfl
 | x::s,as,ha,hs=>by
  have hx:=hs x (aR ..);have ih:=amy s (ade h ha hx.1 hx.2) fun y hy=>hs y (aQ _ hy)
  have hd:=al3 h ha hx.1 hx.2;have ea:∀d,arv qv d as (x::s)=(if led qv as x=d then 1 else 0)+arv qv d (gone qv as x) s:=fun d=>rfl
  rw[dY,ih,ea (-1),ea (-2),ea (-3)]
  by_cases q:0<=led qv as x
  ·rw[if_neg (by omega),if_neg (by omega),if_neg (by omega)]
   have e:=ag6 (fun d=>arv qv d as (x::s)) (fun d=>arv qv d (gone qv as x) s) (led qv as x) 1 (by rw[ea,if_pos rfl]) (upto qv.length) (adn _) (yp q hd.2) fun y _ hy=>by rw[ea,if_neg (iR hy)];omega
   rw[e];omega
  ·have e:=aap (fun d=>arv qv d as (x::s)) (fun d=>arv qv d (gone qv as x) s) (upto qv.length) fun y hy=>by
    have:=j8 hy;rw[ea,if_neg (by omega)]
    omega
   rw[e];have:led qv as x = -1∨led qv as x = -2∨led qv as x = -3:=by omega
   rcases this with z | z | z <;> rw[z] <;> simp <;> omega
variable{as:List Int}(ha:Arr qv as){w:Int->Nat}
include ha
theorem ari{t:List Int}(ht:InR qv t)(st:Stb qv as w t):((upto qv.length).map w).sum=arv qv (-1) as t+arv qv (-2) as t+arv qv (-3) as t:=by
 have e1:=amy h t ha ht;have e2:=ahu (qv:=qv) ht;have e3:=aap (fun y=>t.count y) (fun y=>w y+arv qv y as t) (upto qv.length) fun y hy=>st y (j8 hy).1 (j8 hy).2
 have e4:∀l:List Int,(l.map fun y=>w y+arv qv y as t).sum=(l.map w).sum+(l.map fun y=>arv qv y as t).sum:=fun l=>by
  induction l with
  | nil=>rfl
  | cons x l ih=>rw[aX,aX,aX,cD,cD,cD,ih];omega
 rw[e3,e4] at e2;omega
theorem anm{S t:List Int}(lS:Lg qv as w S)(sS:Stb qv as w S)(ht:InR qv t)(st:Stb qv as w t):(∀x,S.count x<=t.count x)/\∀x,S.count x < t.count x->0<=ldo qv as x (t.count x)/\S.count (ldo qv as x (t.count x)) < t.count (ldo qv as x (t.count x)):=by
 have le:=fun x=>adb h ha lS ht (fun x a b=>kI (st x a b).symm) x
 refine⟨le,fun x hx =>?_⟩
 have hxr:0<=x/\x < (qv.length:Int):=cB fun q=>by
  rw[ht.count q] at hx;omega
 have ul:=avh qv as x hx;have hd : -3<=ldo qv as x (t.count x)/\ldo qv as x (t.count x) < (qv.length:Int):=by
  obtain⟨w1,w2,w3⟩:=h.dr hxr.1 hxr.2;apply w3;unfold ldo;have hk:((ar as x+((t.count x:Int) - 1)) % ((dr qv x).length:Int)).toNat < (dr qv x).length:=by
   have a:=cV (ar as x+((t.count x:Int) - 1)) (show(0:Int) < ((dr qv x).length:Int) by omega)
   have b:=fD (ar as x+((t.count x:Int) - 1)) (show((dr qv x).length:Int)≠0 by omega)
   omega
  rw[aH,aC hk];exact bO hk
 generalize ldo qv as x (t.count x)=d at *;have ar:arv qv d as S < arv qv d as t:=by
  rw[aer h d S ha lS.inR,aer h d t ha ht];exact alj _ _ x ul _ (yp hxr.1 hxr.2) fun y _=>aka qv as y d (le y)
 by_cases q:0<=d
 ·refine⟨q,?_⟩;have a:=sS d q hd.2;have b:=st d q hd.2;omega
 ·exfalso;have a:=ari h ha lS.inR sS;have b:=ari h ha ht st;have al:=fun d=>avb h ha lS.inR ht (fun y _ _=>le y) d
  have a1:=al (-1);have a2:=al (-2);have a3:=al (-3);have:d = -1∨d = -2∨d = -3:=by omega
  rcases this with rfl | rfl | rfl <;> omega
omit ha in
theorem Lg.nn{S:List Int}(l:Lg qv as w S):∀p q,S=p++q->NN qv as w p:=fun p=>by
 induction hk:p.length generalizing p with
 | zero =>
  intro q _;rw[pH hk];exact .nil
 | succ k ih =>
  intro q e;rcases List.eq_nil_or_concat p with rfl | ⟨p',x,rfl⟩
  ·cases hk
  ·rw[List.concat_eq_append] at *;have hl:p'.length=k:=by simp at hk;exact hk
   have e2:S=p'++x::q:=by rw[e,lM];rfl
   exact(ih p' hl (x::q) e2).snoc (l p' x q e2).2
theorem am8{S:List Int}(lS:Lg qv as w S)(sS:Stb qv as w S)(D:Int->Prop)(hD:∀x,D x->0<=x/\x < (qv.length:Int)/\0 < S.count x/\D (ldo qv as x (S.count x)))(x:Int)(hx:D x):False:=by
 classical
 have ex:∀S':List Int,(∃y∈S',D y)->∃p y q,S'=p++y::q/\D y/\∀z∈q,¬D z:=fun S'=>by
  induction S' with
  | nil=>rintro⟨y,hy,_⟩;cases hy
  | cons a S' ih =>
   rintro⟨y,hy,hd⟩
   by_cases q:∃y∈S',D y
   ·obtain⟨p,y,r,e,a1,a2⟩:=ih q;exact⟨a::p,y,r,by rw[e];rfl,a1,a2⟩
   ·rcases aV.mp hy with rfl | hy
    ·exact⟨[],y,S',rfl,hd,fun z hz hz'=>q ⟨z,hz,hz'⟩⟩
    ·exact absurd ⟨y,hy,hd⟩ q
 obtain⟨p,y,q,e,hy,hq⟩:=ex S ⟨x,List.count_pos_iff.mp (hD x hx).2.2.1,hx⟩;obtain⟨y0,y1,y2,y3⟩:=hD y hy;obtain⟨_,hleg⟩:=lS p y q e;have hpin:InR qv p:=fun z hz=>lS.inR z (by rw[e];exact gD _ hz)
 have cq:q.count y=0:=oA.mpr fun z=>hq y z hy
 have cS:S.count y=p.count y+1:=by rw[e,eY,ig,if_pos rfl,cq]
 have eled:led qv (go qv as p) y=ldo qv as y (S.count y):=by
  unfold led ldo;rw[aoc h y0 y1 p ha hpin,cS];rw[show(((p.count y+1:Nat):Int) - 1)=(p.count y:Int) by omega]
 rw[<-eled] at y3;obtain⟨d0,d1,d2,_⟩:=hD _ y3;obtain⟨d,hd⟩:∃d,led qv (go qv as p) y=d:=⟨_,rfl⟩
 rw[hd] at y3 d0 d1;have nn:=lS.nn h p (y::q) e d d0 d1;have c2:q.count d=0:=oA.mpr fun z=>hq d z y3
 have e3:arv qv d as S=arv qv d as p+(1+arv qv d (gone qv (go qv as p) y) q):=by
  rw[e,n6];show arv qv d as p+((if led qv (go qv as p) y=d then 1 else 0)+_)=_
  rw[if_pos hd]
 have e4:S.count d=p.count d+(0+if y=d then 1 else 0):=by rw[e,eY,ig,c2]
 have s:=sS d d0 d1;rw[e3,e4] at s
 by_cases z:y=d
 ·subst z;rw[if_pos rfl] at s;omega
 ·rw[if_neg z] at s;omega
end
def uAll(qv:LL9)(as gs:List Int)(i:Nat):List D:=(aY i).map fun j=>D.tup ((ab1 (qv.getD j []).length (as.getD j 0) (gs.getD j 0)).map D.int)
theorem aoq(qv:LL9)(as gs:List Int)(i:Nat):uAll qv as gs (i+1)=uAll qv as gs i++[D.tup ((ab1 (qv.getD i []).length (as.getD i 0) (gs.getD i 0)).map D.int)]:=by
 simp[uAll,fK]
theorem aj9{qv:LL9}(h:Hs qv){as gs:List Int}(ha:as.length=qv.length)(hg:gs.length=qv.length) :
  sr [.val (hD qv),.val (.tup (as.map D.int)),.val (.tup (gs.map D.int))]=some (.ok (.v (.tup (uAll qv as gs qv.length))),[.val (hD qv),.val (.tup (as.map D.int)),.val (.tup (gs.map D.int))]):=by
 have hm:=h.most;have hle:(hDs qv).length<=(as.map D.int).length/\(hDs qv).length<=(gs.map D.int).length:=by rw[kh,aD,aD];omega
 have loop:=zc (b:=bTup 3 (ir (cu 4) (ir (cu 5) (ir (cu 6) bNil)))) (g:=zu) (fun i ρ=>∃o1 o2 o3,ρ=[.val (hD qv),.val (.tup (as.map D.int)),.val (.tup (gs.map D.int)),.own none (uAll qv as gs i),o1,o2,o3])
  (l:=acb (hDs qv) (as.map D.int) (gs.map D.int)) (ρ:=[.val (hD qv),.val (.tup (as.map D.int)),.val (.tup (gs.map D.int)),.own none [],.emp,.emp,.emp]) 0 ⟨.emp,.emp,.emp,rfl⟩ ?_
 ·obtain⟨ρ',e,o1,o2,o3,rfl⟩:=loop;rw[aev hle,kh,bW] at e;have hl:=kh qv;simp only[hD] at e ⊢
  simp[sr,adf,hl,ha,hg,e]
 ·rintro i d ρ hd ⟨o1,o2,o3,rfl⟩
  rw[bW] at *;obtain⟨d1,d2,d3,g1,g2,g3,rfl⟩:=acr hd;obtain⟨r,hr,rfl⟩:=afm g1;rw[aU] at g2 g3;obtain⟨a,ea,rfl⟩:=bM.mp g2;obtain⟨b,eb,rfl⟩:=bM.mp g3;obtain⟨k1,k2,_⟩:=h.room r (cY hr);have hi:i < qv.length:=(aM.mp hr).1;have e1:=am0 (n:=r.length) (a:=a) (L:=b) k1 k2;have x1:qv.getD i []=r:=by simp[hr]
  have x2:as.getD i 0=a:=by simp[ea]
  have x3:gs.getD i 0=b:=by simp[eb]
  have hc:(uAll qv as gs i).length < capS:=by simp[uAll];unfold capS;omega
  refine⟨[.val (hD qv),.val (.tup (as.map D.int)),.val (.tup (gs.map D.int)),.own none (uAll qv as gs i),.val (.tup (r.map D.int)),.val (.int a),.val (.int b)],[.val (hD qv),.val (.tup (as.map D.int)),.val (.tup (gs.map D.int)),.own none (uAll qv as gs (i+1)),.val (.tup (r.map D.int)),.val (.int a),.val (.int b)],by simp,.inl ?_,_,_,_,rfl⟩
  rw[aoq,x1,x2,x3];generalize uAll qv as gs i=Z at hc;have hc2:(ab1 r.length a b).length<=capS:=by rw[aig];exact bh (by omega)
  simp[zu,e1,hc,hc2]
def afh(L:List Int)(S:List Int):List Int:=S.filter fun x=>decide (L.getD x.toNat 0∈S)
theorem ato{L:List Int}(S:List Int){x:Int}(h0:0<=x)(h1:x < (L.length:Int)) :
  u9 [.val (.int x),.val (.lst (S.map D.int)),.val (.tup (L.map D.int))]=some (.ok (decide (L.getD x.toNat 0∈S)),[.val (.int x),.val (.lst (S.map D.int)),.val (.tup (L.map D.int))]):=by
 have er:=jt (ns:=L) h0 h1;have e2:=afy false (L.getD x.toNat 0) S;generalize L.getD x.toNat 0=y at *;generalize L.map D.int=LL at *;generalize decide (y∈S)=b at *;generalize S.map D.int=SS at *;simp[u9,er,e2]
theorem ant{L:List Int}(S:List Int)(hS:∀x∈S,0<=x/\x < (L.length:Int)) :
  compD (cu 0) u9 zx (S.map D.int) [] [.emp,.val (.lst (S.map D.int)),.val (.tup (L.map D.int))]=some (.ok ((afh L S).map D.int),aar .emp (S.map D.int)::[.val (.lst (S.map D.int)),.val (.tup (L.map D.int))]):=by
 rw[rn (p:=fun d=>match d with | .int x=>decide (L.getD x.toNat 0∈S) | _=>false) (f:=id)]
 ·simp only[afh,mR,iK,sV,dD]
 ·intro d hd;obtain⟨k,hk,rfl⟩:=cO.mp hd;exact ato S (hS k hk).1 (hS k hk).2
 ·intro d hd _;simp[zx]
theorem ahx{L S:List Int}{x:Int}:x∈afh L S↔x∈S/\L.getD x.toNat 0∈S:=by
 unfold afh;rw[bR];simp
theorem ajl{L:List Int}{S0:List Int}(hS:∀x∈S0,0<=x/\x < (L.length:Int))(hl:S0.length<=100):∃R:List Int,su [.val (.tup (L.map D.int)),.val (.lst (S0.map D.int))]=some (.ok (.fr (R.map D.int)),[.val (.tup (L.map D.int)),.val (.lst (S0.map D.int))]) /\
  (∀Q:Int->Prop,(∀x,Q x->x∈S0/\Q (L.getD x.toNat 0))->∀x,Q x->x∈R)/\∀x∈R,x∈S0/\L.getD x.toNat 0∈R:=by
 have loop:=v8 (c:=u6) (g:=zq)
  (fun k ρ=>∃(S:List Int) (m:Nat),ρ=[.val (.tup (L.map D.int)),.val (.lst (S0.map D.int)),.own none (S.map D.int),.val (.int (m:Nat))]/\k=m/\S.length<=m/\S.length<=100/\(S.length=m->∀x∈S,L.getD x.toNat 0∈S)/\(∀x∈S,x∈S0)/\∀Q:Int->Prop,(∀x,Q x->x∈S0/\Q (L.getD x.toNat 0))->∀x,Q x->x∈S)
  (fun ρ=>∃(S:List Int) (o:Sl),ρ=[.val (.tup (L.map D.int)),.val (.lst (S0.map D.int)),.own none (S.map D.int),o]/\(∀x∈S,L.getD x.toNat 0∈S)/\(∀x∈S,x∈S0)/\∀Q:Int->Prop,(∀x,Q x->x∈S0/\Q (L.getD x.toNat 0))->∀x,Q x->x∈S)
  ?_ fuel (S0.length+1) [.val (.tup (L.map D.int)),.val (.lst (S0.map D.int)),.own none (S0.map D.int),.val (.int ((S0.length+1:Nat):Int))] (nT (by omega) adi)
  ⟨S0,S0.length+1,rfl,rfl,by omega,hl,fun z=>by omega,fun x hx=>hx,fun Q hQ x hx=>(hQ x hx).1⟩
 ·obtain⟨ρ',e,R,o,rfl,r1,r2,r3⟩:=loop;refine⟨R,?_,r3,fun x hx=>⟨r2 x hx,r1 x hx⟩⟩
  have hcast:((S0.length+1:Nat):Int)=(S0.length:Int)+1:=by omega
  rw[hcast] at e;have ul:(S0.map D.int).length=S0.length:=aD ..
  have hc:(S0.map D.int).length<=capS:=by rw[ul];exact bh (by omega)
  generalize S0.map D.int=U at *;generalize R.map D.int=T at *;generalize L.map D.int=LL at *;simp[su,adh,ul,hc,e]
 ·rintro k ρ ⟨S,m,rfl,rfl,h1,h2,h3,h4,h5⟩
  have ul:(S.map D.int).length=S.length:=aD ..
  rcases fY S.length k with q | q
  ·have e:=ant (L:=L) S fun x hx=>hS x (h4 x hx)
   have hkl:(afh L S).length<=S.length:=dU _ _;have hc:((afh L S).map D.int).length<=capS:=by rw[aD];exact bh (by omega)
   refine .inr ⟨[.val (.tup (L.map D.int)),.val (.lst (S0.map D.int)),.own none (S.map D.int),.val (.int (k:Int))],[.val (.tup (L.map D.int)),.val (.lst (S0.map D.int)),.own none ((afh L S).map D.int),.val (.int (S.length:Int))],S.length,?_,?_,q,afh L S,S.length,rfl,rfl,hkl,by omega,fun z x hx =>?_,fun x hx=>h4 x (ahx.mp hx).1,fun Q hQ x hx=>ahx.mpr ⟨h5 Q hQ x hx,h5 Q hQ _ (hQ x hx).2⟩⟩
   ·have q':(S.length:Int) < (k:Int):=by omega
    generalize S.map D.int=SS at *;simp[u6,ul,q']
   ·generalize (afh L S).map D.int=kk at *;generalize S.map D.int=SS at *;generalize L.map D.int=LL at *;simp[zq,ul,e,hc]
   ·have es:afh L S=S:=by
     unfold afh at z ⊢
     exact nO.mpr (List.length_filter_eq_length_iff.mp z)
    rw[es] at hx ⊢
    rw[<-es] at hx;exact(ahx.mp hx).2
  ·refine .inl ⟨_,?_,S,.val (.int (k:Int)),rfl,h3 (by omega),h4,h5⟩
   have q':¬(S.length:Int) < (k:Int):=by omega
   generalize S.map D.int=SS at *;simp[u6,ul,q']
def stq(st:List Int)(q:Int×Int):List Int:=if 0<=q.1 then st.set q.1.toNat (st.getD q.1.toNat 0+q.2) else st
theorem ag7(ps:List (Int×Int)):∀st:List Int,(ps.foldl stq st).length=st.length:=by
 induction ps with
 | nil=>intro st;rfl
 | cons p ps ih =>
  intro st;rw[iG,ih];unfold stq;split
  ·exact bU ..
  ·rfl
theorem aun{n:Nat}:∀(ps:List (Int×Int)) (st:List Int),(∀p∈ps,p.1 < (n:Int))->st.length=n->∀i:Nat,i < n->(ps.foldl stq st).getD i 0=st.getD i 0+(ps.map fun p=>if p.1=(i:Int) then p.2 else 0).sum
 | [],st,_,_,i,_=>by simp
 | (d,t)::ps,st,hp,hl,i,hi=>by
  have hd:d < (n:Int):=hp (d,t) (aR ..);have hl2:(stq st (d,t)).length=n:=by
   have:=ag7 [(d,t)] st;rw[<-hl];exact this
  rw[iG,aun ps (stq st (d,t)) (fun p hp'=>hp p (aQ _ hp')) hl2 i hi,aX,cD]
  have e:(stq st (d,t)).getD i 0=st.getD i 0+if d=(i:Int) then t else 0:=by
   unfold stq
   by_cases q:0<=d
   ·rw[if_pos q];show(st.set d.toNat (st.getD d.toNat 0+t)).getD i 0=_;rw[anu _ _ _ _ (by omega)]
    by_cases z:d.toNat=i
    ·rw[if_pos z,if_pos (by omega),z]
    ·rw[if_neg z,if_neg (by omega),jN]
   ·rw[if_neg q,if_neg (by omega),jN]
  rw[e];show st.getD i 0+(if d=(i:Int) then t else 0)+_=st.getD i 0+((if d=(i:Int) then t else 0)+_)
  omega
def cmb(qv:LL9)(as gs:List Int)(st:List Int):Nat->List Int
 | 0=>st
 | j+1=>(prs (qv.getD j []) (as.getD j 0) (gs.getD j 0)).foldl stq (cmb qv as gs st j)
theorem aay(qv:LL9)(as gs st:List Int):∀j,(cmb qv as gs st j).length=st.length
 | 0=>rfl
 | j+1=>by
  show((prs _ _ _).foldl stq (cmb qv as gs st j)).length=_;rw[ag7,aay]
theorem amk{qv:LL9}(h:Hs qv){as:List Int}(ha:Arr qv as){gs st:List Int}(hg:∀g∈gs,0<=g)(hgl:gs.length=qv.length)(hl:st.length=qv.length){i:Nat}(hi:i < qv.length):∀j,j<=qv.length->(cmb qv as gs st j).getD i 0=st.getD i 0+(((aY j).map fun(y:Nat)=>us qv as ((y:Nat):Int) (i:Int) (gs.getD y 0).toNat).sum:Nat)
 | 0,_=>by
  show st.getD i 0=st.getD i 0+((0:Nat):Int);omega
 | j+1,hj=>by
  have hdr:dr qv ((j:Nat):Int)=qv.getD j []:=by unfold dr;rw[aZ]
  have har:ar as ((j:Nat):Int)=as.getD j 0:=by unfold ar;rw[aZ]
  have hk:j < gs.length:=by omega
  have g0:0<=gs.getD j 0:=by
   rw[aH,aC hk];exact hg _ (bO hk)
  have u:=auk h ha (x:=((j:Nat):Int)) (by omega) (by omega) (i:Int) (gs.getD j 0).toNat
  rw[show(((gs.getD j 0).toNat:Nat):Int)=gs.getD j 0 by omega,hdr,har] at u
  have hb:∀p∈prs (qv.getD j []) (as.getD j 0) (gs.getD j 0),p.1 < (qv.length:Int):=fun p hp=>by
   obtain⟨k,hk,rfl⟩:=cO.mp hp;have hk:=cW.mp hk;obtain⟨w1,w2,w3⟩:=h.dr (x:=((j:Nat):Int)) (by omega) (by omega)
   rw[hdr] at w3;refine(w3 _ ?_).2;generalize qv.getD j []=r at *;show r.getD k 0∈r;rw[aH,aC hk];exact bO hk
  show((prs (qv.getD j []) (as.getD j 0) (gs.getD j 0)).foldl stq (cmb qv as gs st j)).getD i 0=_;rw[aun _ _ hb (by rw[aay];exact hl) i hi,amk h ha hg hgl hl hi j (by omega),<-u,fK,bT,pQ]
  simp;omega
theorem aqz{n:Nat}{d t:Int}(hd2:d < (n:Int)){st:List Int}(h1:st.length=n)(a b c e:Sl) :
  aae [a,b,.own none (st.map D.int),c,e,.val (.int d),.val (.int t)]=some (.nx,[a,b,.own none ((stq st (d,t)).map D.int),c,e,.val (.int d),.val (.int t)]):=by
 by_cases q:0<=d
 ·have e0:stq st (d,t)=st.set d.toNat (st.getD d.toNat 0+t):=if_pos q;rw[e0];have ix:ixN (st.map D.int).length d=some d.toNat:=by rw[aD];exact aci q (by omega)
  have hlt:d.toNat < st.length:=by omega
  have hg:(st.map D.int)[d.toNat]? = some (.int (st.getD d.toNat 0)):=by rw[aU,aH,aC hlt];rfl
  have m3:(st.set d.toNat (st.getD d.toNat 0+t)).map D.int=(st.map D.int).set d.toNat (.int (st.getD d.toNat 0+t)):=by rw[jB]
  rw[m3];generalize st.getD d.toNat 0=v at *;generalize st.map D.int=sm at *;simp[aae,q,ix,hg]
 ·have e0:stq st (d,t)=st:=if_neg q;rw[e0];simp[aae,q]
theorem amj{n:Nat}(a b c e:Sl):∀(ps:List (Int×Int)) (st:List Int) (o1 o2:Sl),(∀p∈ps,p.1 < (n:Int))->st.length=n ->
  ∃q1 q2,forD (bTup 2 (ir (cu 5) (ir (cu 6) bNil))) aae (ps.map fun p=>.tup [.int p.1,.int p.2]) [a,b,.own none (st.map D.int),c,e,o1,o2]=some (.nx,[a,b,.own none ((ps.foldl stq st).map D.int),c,e,q1,q2])
 | [],st,o1,o2,_,_=>⟨o1,o2,rfl⟩
 | (d,t)::ps,st,o1,o2,hp,h1=>by
  have e0:=aqz (n:=n) (d:=d) (t:=t) (hp (d,t) (aR ..)) h1 a b c e;have l1:(stq st (d,t)).length=n:=by
   have:=ag7 [(d,t)] st;rw[<-h1];exact this
  obtain⟨q1,q2,e2⟩:=amj (n:=n) a b c e ps (stq st (d,t)) (.val (.int d)) (.val (.int t)) (fun p hp'=>hp p (aQ _ hp')) l1
  refine⟨q1,q2,?_⟩;rw[iG,aX,xq];generalize stq st (d,t)=Z at *;generalize (ps.foldl stq Z).map D.int=F1 at *;generalize Z.map D.int=z1 at *;generalize st.map D.int=sm at *;simp[e0,e2]
theorem anz{qv:LL9}(h:Hs qv){as gs:List Int}:abe [.val (hD qv),.val (.tup (uAll qv as gs qv.length))]=some (.ok (.fr ((cmb qv as gs (aG qv.length 0) qv.length).map D.int)),[.val (hD qv),.val (.tup (uAll qv as gs qv.length))]):=by
 have hm:=h.most;have hul:∀j,(uAll qv as gs j).length=j:=fun j=>by simp[uAll]
 have loop:=zc (b:=bTup 2 (ir (cu 3) (ir (cu 4) bNil))) (g:=ady) (fun j ρ=>∃o3 o4 o5 o6,ρ=[.val (hD qv),.val (.tup (uAll qv as gs qv.length)),.own none ((cmb qv as gs (aG qv.length 0) j).map D.int),o3,o4,o5,o6])
  (l:=z6 (hDs qv) (uAll qv as gs qv.length)) (ρ:=[.val (hD qv),.val (.tup (uAll qv as gs qv.length)),.own none ((aG qv.length (0:Int)).map D.int),.emp,.emp,.emp,.emp]) 0 ⟨.emp,.emp,.emp,.emp,rfl⟩ ?_
 ·obtain⟨ρ',e,o3,o4,o5,o6,rfl⟩:=loop;have hl:=kh qv;have hz:(z6 (hDs qv) (uAll qv as gs qv.length)).length=qv.length:=by unfold z6;rw[gP,hl,hul];omega
  rw[hz,bW] at e;have hr:=amz qv.length;have hb1:qv.length < 9223372036854775808:=by omega
  have hb3:qv.length<=capS:=bh (by omega)
  have hle:qv.length<=(uAll qv as gs qv.length).length:=by rw[hul];exact aL _
  generalize (cmb qv as gs (aG qv.length 0) qv.length).map D.int=cc at *;generalize uAll qv as gs qv.length=uu at *;simp only[hD] at e ⊢
  simp[abe,ajn,hl,hb1,hb3,hr,hle,-jF,e]
 ·rintro j d ρ hd ⟨o3,o4,o5,o6,rfl⟩
  rw[bW];have hj:j < qv.length:=by
   rcases fY j qv.length with q | q
   ·exact q
   ·rw[bG (by unfold z6;rw[gP,kh];omega)] at hd
    cases hd
  have hrj:qv[j]? = some (qv.getD j []):=by rw[aH,aC hj];rfl
  have ed:d=.tup [.tup ((qv.getD j []).map D.int),.tup ((ab1 (qv.getD j []).length (as.getD j 0) (gs.getD j 0)).map D.int)]:=by
   unfold z6 at hd;rw[jM] at hd;have e1:(hDs qv)[j]? = some (.tup ((qv.getD j []).map D.int)):=by unfold hDs;rw[aU,hrj];rfl
   have e2:(uAll qv as gs qv.length)[j]? = some (.tup ((ab1 (qv.getD j []).length (as.getD j 0) (gs.getD j 0)).map D.int)):=by unfold uAll;rw[aU,cX hj];rfl
   rw[e1,e2] at hd;exact(bK hd).symm
  subst ed;have hb:∀p∈prs (qv.getD j []) (as.getD j 0) (gs.getD j 0),p.1 < (qv.length:Int):=fun p hp=>by
   obtain⟨k,hk,rfl⟩:=cO.mp hp;have hk:=cW.mp hk;obtain⟨_,_,w3⟩:=h.room _ (cY hrj);refine(w3 _ ?_).2;generalize qv.getD j []=r at *;show r.getD k 0∈r;rw[aH,aC hk];exact bO hk
  obtain⟨q5,q6,e⟩:=amj (n:=qv.length) (.val (hD qv)) (.val (.tup (uAll qv as gs qv.length))) (.val (.tup ((qv.getD j []).map D.int))) (.val (.tup ((ab1 (qv.getD j []).length (as.getD j 0) (gs.getD j 0)).map D.int))) (prs (qv.getD j []) (as.getD j 0) (gs.getD j 0)) (cmb qv as gs (aG qv.length 0) j) o5 o6 hb (by rw[aay,cU])
  rw[<-avd] at e;refine⟨[.val (hD qv),.val (.tup (uAll qv as gs qv.length)),.own none ((cmb qv as gs (aG qv.length 0) j).map D.int),.val (.tup ((qv.getD j []).map D.int)),.val (.tup ((ab1 (qv.getD j []).length (as.getD j 0) (gs.getD j 0)).map D.int)),o5,o6],[.val (hD qv),.val (.tup (uAll qv as gs qv.length)),.own none ((cmb qv as gs (aG qv.length 0) (j+1)).map D.int),.val (.tup ((qv.getD j []).map D.int)),.val (.tup ((ab1 (qv.getD j []).length (as.getD j 0) (gs.getD j 0)).map D.int)),q5,q6],rfl,.inl ?_,_,_,_,_,rfl⟩;have hle:((qv.getD j []).map D.int).length<=((ab1 (qv.getD j []).length (as.getD j 0) (gs.getD j 0)).map D.int).length:=by rw[aD,aD,aig];exact aL _
  have ecm:cmb qv as gs (aG qv.length 0) (j+1)=(prs (qv.getD j []) (as.getD j 0) (gs.getD j 0)).foldl stq (cmb qv as gs (aG qv.length 0) j):=rfl;rw[ecm];generalize ((prs (qv.getD j []) (as.getD j 0) (gs.getD j 0)).foldl stq (cmb qv as gs (aG qv.length 0) j)).map D.int=c2 at *;generalize (cmb qv as gs (aG qv.length 0) j).map D.int=c1 at *;generalize uAll qv as gs qv.length=uu at *;generalize (ab1 (qv.getD j []).length (as.getD j 0) (gs.getD j 0)).map D.int=ul at *;generalize (qv.getD j []).map D.int=rl at *;generalize hD qv=hh at *;simp[ady,hle,e]
def wd(qv:LL9)(k:Int):Int:=((dr qv k).length:Int)
def ahw(qv:LL9)(as:List Int)(k:Int):Int:=(dr qv k).getD ((ar as k - 1) % wd qv k).toNat 0
theorem axz{r:List Int}{a:Int}(h0:0<=a)(h1:a < (r.length:Int)):atI (r.map D.int) (a - 1)=some (.int (r.getD ((a - 1) % (r.length:Int)).toNat 0)):=by
 by_cases z:1<=a
 ·rw[dH (by omega) (by omega)]
  exact jt (by omega) (by omega)
 ·have:a=0:=by omega
  subst this;have e:((0:Int) - 1) % (r.length:Int)=(r.length:Int) - 1:=by
   have:=kW ((0:Int) - 1) (r.length:Int);rw[<-this,dH (by omega) (by omega)]
   omega
  rw[e];have hn:((r.length:Int) - 1).toNat=r.length - 1:=by omega
  rw[hn];have hl:r.length - 1 < r.length:=by omega
  have h3:ixN (r.map D.int).length (0 - 1)=some (r.length - 1):=by
   unfold ixN;rw[aD];have a1:¬(0<=(0:Int) - 1):=by omega
   have a2 : -(r.length:Int)<=(0:Int) - 1:=by omega
   simp[a2];omega
  unfold atI;rw[h3];simp[aC hl]
def lasts(qv:LL9)(as:List Int):List Int:=(aY qv.length).map fun(i:Nat)=>ahw qv as (i:Int)
theorem afg(qv:LL9)(as:List Int):(lasts qv as).length=qv.length:=by unfold lasts;rw[aD,cF]
theorem anp(qv:LL9)(as:List Int)(j:Nat):((aY (j+1)).map fun(i:Nat)=>ahw qv as (i:Int))=((aY j).map fun(i:Nat)=>ahw qv as (i:Int))++[ahw qv as (j:Int)]:=by
 rw[fK,bT];rfl
section
variable{qv:LL9}(h:Hs qv){as:List Int}(ha:Arr qv as)
include h ha
theorem aji:xu [.val (hD qv),.val (.tup (as.map D.int))]=some (.ok (.v (.tup ((lasts qv as).map D.int))),[.val (hD qv),.val (.tup (as.map D.int))]):=by
 have hl:=ha.len;have hm:=h.most;have hle:(as.map D.int).length<=(hDs qv).length:=by rw[kh,aD];omega
 have comp:=p6 (b:=bTup 2 (ir (cu 0) (ir (cu 1) bNil))) (mc:=ret true) (me:=abi) (fun j ys ρ=>∃(o1 o2:Sl),ρ=[o1,o2]/\ys=((aY j).map fun(i:Nat)=>ahw qv as (i:Int)).map D.int)
  (l:=z6 (as.map D.int) (hDs qv)) (ys:=[]) (ρ:=[.emp,.emp]) 0 ⟨.emp,.emp,rfl,rfl⟩ ?_
 ·obtain⟨ys,ρ',e6,o1,o2,rfl,rfl⟩:=comp;rw[aib hle,aD,bW,hl] at e6;have hc:((lasts qv as).map D.int).length<=capS:=by rw[aD,afg];exact bh (by omega)
  have hle2:as.length<=(hDs qv).length:=by simpa using hle
  change compD _ _ _ _ _ _=some (.ok ((lasts qv as).map D.int),_) at e6
  generalize (lasts qv as).map D.int=ld at *;simp only[hD];simp[xu,afp,hle2,e6,hc]
 ·rintro j d ys ρ hd ⟨o1,o2,rfl,rfl⟩
  obtain⟨d1,d2,g1,g2,rfl⟩:=aew hd;obtain⟨r,hr,rfl⟩:=afm g2;rw[aU] at g1;obtain⟨a,ea,rfl⟩:=bM.mp g1;obtain⟨b0,b1⟩:=ha.ok j a r ea hr;have er:dr qv (j:Int)=r:=by unfold dr;rw[aH,aZ,hr];rfl
  have e3:ar as (j:Int)=a:=by unfold ar;rw[aH,aZ,ea];rfl
  have e4:=axz b0 b1;have e5:ahw qv as ((0+j:Nat):Int)=r.getD ((a - 1) % (r.length:Int)).toNat 0:=by rw[bW];unfold ahw wd;rw[er,e3]
  refine⟨[.val (.int a),.val (.tup (r.map D.int))],_,true,by simp,rfl,.inr ⟨rfl,.int (r.getD ((a - 1) % (r.length:Int)).toNat 0),[.val (.int a),.val (.tup (r.map D.int))],by simp[abi,e4],_,_,rfl,?_⟩⟩
  rw[anp,bT,e5];rfl
end
theorem akv{qv:LL9}(h:Hs qv){vs:List Int}(hl:vs.length=qv.length)(h0:∀x∈vs,0<=x):jr [.val (hD qv),.val (.tup (vs.map D.int))]=some (.ok (.v (.bl true)),[.val (hD qv),.val (.tup (vs.map D.int))]):=by
 have hm:=h.most;have hl3:=kh qv;have e1:di [.val (.tup (vs.map D.int)),.val (.int (qv.length:Int)),.val (.int (qv.length:Int))]=some (.ok (.v (.bl true)),[.val (.tup (vs.map D.int)),.val (.int (qv.length:Int)),.val (.int (qv.length:Int))]):=by
  have:(vs.length:Int)=qv.length:=by omega
  simp[di,lu,isTy,this]
 have e2:compD (cu 0) (ret true) qt (vs.map D.int) [] [.emp]=some (.ok (vs.map fun _=>.bl true),aar .emp (vs.map D.int)::[]):=by
  rw[vo (f:=fun _=>.bl true)]
  ·simp
  ·intro d hd;obtain⟨w,hwm,rfl⟩:=cO.mp hd;have:=h0 w hwm;simp[qt,aec,this]
 have e3:rz (vs.map fun _=>D.bl true)=some (vs.map fun _=>true):=by
  have:=u5 (vs.map fun _=>true)
  rwa[fG] at this
 have e4:(vs.map fun _=>true).all id=true:=by
  rw[kJ,fL];intro x _;rfl
 have hc:vs.length<=capS:=bh (by omega)
 generalize hB:(vs.map fun _=>true)=bs at *
 have hc2:(vs.map fun _=>D.bl true).length<=capS:=by rw[aD];exact hc
 generalize (vs.map fun _=>D.bl true)=BB at *
 generalize vs.map D.int=ww at *;simp only[hD] at *;simp[jr,v5,hl3,e1,e2,e3,e4,hc2]
def aex(qv:LL9)(as vs:List Int)(j:Nat):List Int:=(aY j).map fun i=>(as.getD i 0+vs.getD i 0) % ((qv.getD i []).length:Int)
theorem aih{qv:LL9}(h:Hs qv){as vs:List Int}(hal:as.length=qv.length)(hl:vs.length=qv.length):xr [.val (hD qv),.val (.tup (as.map D.int)),.val (.tup (vs.map D.int))]=some (.ok (.v (.tup ((aex qv as vs qv.length).map D.int))),[.val (hD qv),.val (.tup (as.map D.int)),.val (.tup (vs.map D.int))]):=by
 have hm:=h.most;have hdl:=kh qv;have comp:=p6 (b:=bTup 3 (ir (cu 0) (ir (cu 1) (ir (cu 2) bNil)))) (mc:=ret true) (me:=abh) (fun j ys ρ=>∃(o1 o2 o3:Sl),ρ=[o1,o2,o3]/\ys=(aex qv as vs j).map D.int)
  (l:=acb (as.map D.int) (vs.map D.int) (hDs qv)) (ys:=[]) (ρ:=[.emp,.emp,.emp]) 0 ⟨.emp,.emp,.emp,rfl,rfl⟩ ?_
 ·obtain⟨ys,ρ',e,o1,o2,o3,rfl,rfl⟩:=comp;have hle:(as.map D.int).length<=(vs.map D.int).length/\(as.map D.int).length<=(hDs qv).length:=by rw[aD,aD,hdl];omega
  rw[aev hle,aD,hal,bW] at e;have hc:((aex qv as vs qv.length).map D.int).length<=capS:=by rw[aD];unfold aex;rw[aD,cF];exact bh (by omega)
  generalize (aex qv as vs qv.length).map D.int=tt at *;generalize as.map D.int=la at *;generalize vs.map D.int=lv at *;simp only[hD] at *;simp[xr,afo,hle.1,hle.2,e,hc]
 ·rintro j d ys ρ hd ⟨o1,o2,o3,rfl,rfl⟩
  obtain⟨d1,d2,d3,g1,g2,g3,rfl⟩:=acr hd;obtain⟨r,hr,rfl⟩:=afm g3;rw[aU] at g1 g2;obtain⟨a,ea,rfl⟩:=bM.mp g1;obtain⟨b,eb,rfl⟩:=bM.mp g2;obtain⟨k1,k2,_⟩:=h.room r (cY hr);rw[bW];have x1:qv.getD j []=r:=by simp[hr]
  have x2:as.getD j 0=a:=by simp[ea]
  have x3:vs.getD j 0=b:=by simp[eb]
  have es:aex qv as vs (j+1)=aex qv as vs j++[(a+b) % (r.length:Int)]:=by
   unfold aex;rw[fK,bT,<-x1,<-x2,<-x3];rfl
  have f1:fMod (a+b) (r.length:Int)=some ((a+b) % (r.length:Int)):=by
   have hn':(0:Int) < (r.length:Int):=by omega
   unfold fMod;rw[if_pos hn']
  refine⟨[.val (.int a),.val (.int b),.val (.tup (r.map D.int))],_,true,rfl,rfl,.inr ⟨rfl,.int ((a+b) % (r.length:Int)),[.val (.int a),.val (.int b),.val (.tup (r.map D.int))],by simp[abh,f1],_,_,_,rfl,?_⟩⟩
  rw[es,bT];rfl
theorem yz{vs:List Int}{n:Nat}(x0:0<=x)(x1:x < (n:Int)):(rowW vs n).count x=(vs.getD x.toNat 0).toNat:=by
 have:=adt vs n x.toNat;rw[if_pos (by omega),show((x.toNat:Nat):Int)=x by omega] at this
 exact this
section
variable{qv:LL9}(h:Hs qv){as:List Int}(ha:Arr qv as){vs:List Int}(hl:vs.length=qv.length)(hv:∀x∈vs,0<=x)
include h ha hl hv
omit h ha in
theorem aon{i:Nat}(hi:i < qv.length):0<=vs.getD i 0:=by
 have hk:i < vs.length:=by omega
 rw[aH,aC hk];exact hv _ (bO hk)
theorem avk:aex qv as vs qv.length=go qv as (rowW vs qv.length):=by
 have hin:=ace vs qv.length;have hg:=ael h _ ha hin;apply eX;intro i
 by_cases hi:i < qv.length
 ·have hlt:i < (go qv as (rowW vs qv.length)).length:=by rw[hg.len];exact hi
  have e:=aoc h (y:=(i:Int)) (by omega) (by omega) (rowW vs qv.length) ha hin
  rw[yz (by omega) (by omega),aZ,show(((vs.getD i 0).toNat:Nat):Int)=vs.getD i 0 by have:=aon hl hv hi;omega] at e
  unfold ar dr at e;rw[aZ,aH,aC hlt] at e;rw[aC hlt];unfold aex;rw[aU,cX hi];exact congrArg some e.symm
 ·rw[bG (by unfold aex;rw[aD,cF];omega),bG (by rw[hg.len];omega)]
theorem axv{i:Nat}(hi:i < qv.length):(cmb qv as vs (aG qv.length 0) qv.length).getD i 0=(arv qv (i:Int) as (rowW vs qv.length):Int):=by
 rw[amk h ha hv hl (by rw[cU]) hi _ (aL _),aer h (i:Int) _ ha (ace vs qv.length)]
 have e0:(aG qv.length (0:Int)).getD i 0=0:=by rw[aH,fM,if_pos hi];rfl
 rw[e0,Int.zero_add]
 congr 1
 unfold upto;rw[fG]
 congr 1
 apply jW;intro y hy;have hy:=cW.mp hy;show _=us qv as ((y:Nat):Int) (i:Int) ((rowW vs qv.length).count ((y:Nat):Int));rw[yz (by omega) (by omega),aZ]
theorem ahv{x:Int}(x0:0<=x)(x1:x < (qv.length:Int)):(lasts qv (go qv as (rowW vs qv.length))).getD x.toNat 0=ldo qv as x ((rowW vs qv.length).count x):=by
 have hin:=ace vs qv.length;have hk:x.toNat < qv.length:=by omega
 unfold lasts;rw[aH,aU,cX hk];show ahw qv (go qv as (rowW vs qv.length)) ((x.toNat:Nat):Int)=_;rw[show((x.toNat:Nat):Int)=x by omega]
 unfold ahw ldo wd;rw[aoc h x0 x1 _ ha hin]
 congr 2
 rw[show ar as x+(((rowW vs qv.length).count x:Int) - 1)=ar as x+((rowW vs qv.length).count x:Int) - 1 by omega]
 exact Int.emod_sub_emod _ _ _
end
theorem afi{qv:LL9}(h:Hs qv){as:List Int}(ha:Arr qv as){ws vs:List Int}(hl:vs.length=qv.length)(hv:∀x∈vs,0<=x){S:List Int}(lS:Lg qv as (wf ws) S)(sS:Stb qv as (wf ws) S)
  {R:List Int} (r1:∀Q:Int->Prop,(∀x,Q x->x∈(upto qv.length).filter (fun x=>decide (0 < vs.getD x.toNat 0))/\Q ((lasts qv (go qv as (rowW vs qv.length))).getD x.toNat 0))->∀x,Q x->x∈R)
  (r2:∀x∈R,x∈(upto qv.length).filter (fun x=>decide (0 < vs.getD x.toNat 0))/\(lasts qv (go qv as (rowW vs qv.length))).getD x.toNat 0∈R) :
  (Stb qv as (wf ws) (rowW vs qv.length)/\R=[])↔vs=tal qv.length S:=by
 have hin:=ace vs qv.length;constructor
 ·rintro⟨st,rfl⟩
  obtain⟨le,more⟩:=anm h ha lS sS hin st;have same:∀x,S.count x=(rowW vs qv.length).count x:=fun x=>cB fun q=>by
   have hx:S.count x < (rowW vs qv.length).count x:=by have:=le x;omega
   have:=r1 (fun x=>S.count x < (rowW vs qv.length).count x) (fun y hy=>by
    have hyr:0<=y/\y < (qv.length:Int):=cB fun q=>by
     rw[InR.count hin q] at hy;omega
    refine⟨List.mem_filter.mpr ⟨yp hyr.1 hyr.2,decide_eq_true ?_⟩,?_⟩
    ·rw[yz hyr.1 hyr.2] at hy;omega
    ·rw[ahv h ha hl hv hyr.1 hyr.2];exact(more y hy).2) x hx
   cases this
  apply eX;intro i
  by_cases hi:i < qv.length
  ·have e:=same (i:Int);rw[yz (by omega) (by omega),aZ] at e
   have hk:i < vs.length:=by omega
   have h0:=aon hl hv hi;rw[aey S hi,e];rw[aH,aC hk] at h0 ⊢
   have h0:0<=vs[i]:=h0;have e9:vs[i]=((vs[i].toNat:Nat):Int):=by omega
   exact congrArg some e9
  ·rw[bG (by omega),bG (by rw[aan];omega)]
 ·intro e;have same:∀x,(rowW vs qv.length).count x=S.count x:=fun x=>by
   by_cases q:0<=x/\x < (qv.length:Int)
   ·rw[yz q.1 q.2,e,aH,aey S (by omega)]
    show((S.count ((x.toNat:Nat):Int):Nat):Int).toNat=_;rw[show((x.toNat:Nat):Int)=x by omega]
    omega
   ·rw[InR.count hin q,lS.inR.count q]
  have st:Stb qv as (wf ws) (rowW vs qv.length):=fun x x0 x1=>by
   rw[same x,sS x x0 x1,aer h x S ha lS.inR,aer h x _ ha hin]
   congr 1
   exact aap _ _ _ fun y _=>by rw[same y]
  refine⟨st,?_⟩;cases R with
  | nil=>rfl
  | cons y R =>
   exfalso;refine am8 h ha lS sS (fun x=>x∈y::R) (fun x hx =>?_) y (aR ..)
   obtain⟨a,b⟩:=r2 x hx;obtain⟨a1,a2⟩:=bR.mp a;have hxr:=j8 a1;rw[ahv h ha hl hv hxr.1 hxr.2,same x] at b;refine⟨hxr.1,hxr.2,?_,b⟩;have:=of_decide_eq_true a2;rw[<-same x,yz hxr.1 hxr.2];omega
def eqB(ws cs vs:List Int)(j:Nat):List Bool:=(aY j).map fun i=>decide (ws.getD i 0+cs.getD i 0=vs.getD i 0)
theorem axr{ws cs vs:List Int}{n:Nat}(h1:ws.length=n)(h2:cs.length=n)(h3:vs.length=n):∃ρ,compD (bTup 3 (ir (cu 0) (ir (cu 1) (ir (cu 2) bNil)))) (ret true) abz (acb (ws.map D.int) (cs.map D.int) (vs.map D.int)) [] [.emp,.emp,.emp]=some (.ok ((eqB ws cs vs n).map D.bl),ρ):=by
 have comp:=p6 (b:=bTup 3 (ir (cu 0) (ir (cu 1) (ir (cu 2) bNil)))) (mc:=ret true) (me:=abz) (fun j ys ρ=>∃(o1 o2 o3:Sl),ρ=[o1,o2,o3]/\ys=(eqB ws cs vs j).map D.bl)
  (l:=acb (ws.map D.int) (cs.map D.int) (vs.map D.int)) (ys:=[]) (ρ:=[.emp,.emp,.emp]) 0 ⟨.emp,.emp,.emp,rfl,rfl⟩ ?_
 ·obtain⟨ys,ρ',e,o1,o2,o3,rfl,rfl⟩:=comp;have hle:(ws.map D.int).length<=(cs.map D.int).length/\(ws.map D.int).length<=(vs.map D.int).length:=by rw[aD,aD,aD];omega
  rw[aev hle,aD,h1,bW] at e;exact⟨_,e⟩
 ·rintro j d ys ρ hd ⟨o1,o2,o3,rfl,rfl⟩
  obtain⟨d1,d2,d3,g1,g2,g3,rfl⟩:=acr hd;rw[aU] at g1 g2 g3;obtain⟨a,ea,rfl⟩:=bM.mp g1;obtain⟨b,eb,rfl⟩:=bM.mp g2;obtain⟨c,ec,rfl⟩:=bM.mp g3;rw[bW];have x1:ws.getD j 0=a:=by simp[ea]
  have x2:cs.getD j 0=b:=by simp[eb]
  have x3:vs.getD j 0=c:=by simp[ec]
  have es:eqB ws cs vs (j+1)=eqB ws cs vs j++[decide (a+b=c)]:=by
   unfold eqB;rw[fK,bT,<-x1,<-x2,<-x3];rfl
  refine⟨[.val (.int a),.val (.int b),.val (.int c)],_,true,rfl,rfl,.inr ⟨rfl,.bl (decide (a+b=c)),[.val (.int a),.val (.int b),.val (.int c)],by simp[abz];rfl,_,_,_,rfl,?_⟩⟩
  rw[es,bT];rfl
def posL(vs:List Int)(n:Nat):List Int:=(upto n).filter fun x=>decide (0 < vs.getD x.toNat 0)
theorem asl{vs:List Int}{n:Nat}(h3:vs.length=n):∃ρ,compD (bTup 2 (ir (cu 0) (ir (cu 1) bNil))) aal aby (adl (vs.map D.int)) [] [.emp,.emp]=some (.ok ((posL vs n).map D.int),ρ):=by
 have comp:=p6 (b:=bTup 2 (ir (cu 0) (ir (cu 1) bNil))) (mc:=aal) (me:=aby) (fun j ys ρ=>∃(o1 o2:Sl),ρ=[o1,o2]/\ys=(posL vs j).map D.int)
  (l:=adl (vs.map D.int)) (ys:=[]) (ρ:=[.emp,.emp]) 0 ⟨.emp,.emp,rfl,rfl⟩ ?_
 ·obtain⟨ys,ρ',e,o1,o2,rfl,rfl⟩:=comp;rw[aak,aD,h3,bW] at e;exact⟨_,e⟩
 ·rintro j d ys ρ hd ⟨o1,o2,rfl,rfl⟩
  obtain⟨d0,g,rfl⟩:=abf hd;rw[aU] at g;obtain⟨a,ea,rfl⟩:=bM.mp g;rw[bW];have x1:vs.getD j 0=a:=by simp[ea]
  have es:posL vs (j+1)=posL vs j++if 0 < a then [(j:Int)] else []:=by
   unfold posL upto;rw[fK,bT,List.filter_append]
   congr 1
   show List.filter _ [((j:Nat):Int)]=_;rw[pF,aZ,x1]
   by_cases q:0 < a <;> simp[q]
  by_cases q:0 < a
  ·refine⟨[.val (.int (j:Int)),.val (.int a)],_,true,rfl,by simp[aal,q];rfl,.inr ⟨rfl,.int (j:Int),[.val (.int (j:Int)),.val (.int a)],by simp[aby],_,_,rfl,?_⟩⟩
   rw[es,if_pos q,bT];rfl
  ·refine⟨[.val (.int (j:Int)),.val (.int a)],[.val (.int (j:Int)),.val (.int a)],false,rfl,by simp[aal,q],.inl ⟨rfl,_,_,rfl,?_⟩⟩
   rw[es,if_neg q,jG]
theorem aqp{qv:LL9}(h:Hs qv){as:List Int}(ha:Arr qv as){ws vs:List Int}(hwl:ws.length=qv.length)(hw0:∀w∈ws,0<=w)(hl:vs.length=qv.length)(hv:∀x∈vs,0<=x):(eqB ws (cmb qv as vs (aG qv.length 0) qv.length) vs qv.length).all id=true↔Stb qv as (wf ws) (rowW vs qv.length):=by
 unfold eqB;rw[kJ,fL];have key:∀i:Nat,i < qv.length->(ws.getD i 0+(cmb qv as vs (aG qv.length 0) qv.length).getD i 0=vs.getD i 0↔(rowW vs qv.length).count (i:Int)=wf ws (i:Int)+arv qv (i:Int) as (rowW vs qv.length)):=fun i hi=>by
  rw[axv h ha hl hv hi,yz (by omega) (by omega),aZ]
  unfold wf;rw[aZ];have a:=aon hwl hw0 hi;have b:=aon hl hv hi;omega
 constructor
 ·intro q x x0 x1;have:=q x.toNat (cW.mpr (by omega))
  have:=(key x.toNat (by omega)).mp (of_decide_eq_true this)
  rw[show((x.toNat:Nat):Int)=x by omega] at this
  exact this
 ·intro st i hi;have hi:=cW.mp hi;exact decide_eq_true ((key i hi).mpr (st (i:Int) (by omega) (by omega)))
theorem anq{qv:LL9}(h:Hs qv){as:List Int}(ha:Arr qv as){ws vs:List Int}(hop:xf qv=[])(hW:Wk qv.length ws)(hl:vs.length=qv.length)(hv:∀x∈vs,0<=x){S:List Int}(lS:Lg qv as (wf ws) S)(sS:Stb qv as (wf ws) S) :
  pq [.val (hD qv),.val (.tup (as.map D.int)),.val (.tup (ws.map D.int)),.val (.tup (vs.map D.int))]=some (.ok (.v (.bl (decide (vs=tal qv.length S)))),[.val (hD qv),.val (.tup (as.map D.int)),.val (.tup (ws.map D.int)),.val (.tup (vs.map D.int))]):=by
 have hm:=h.most;have s0:=amh h ha hW;have q:=aov h;rw[hop] at q;have e3:gEq true (.tup []) (.tup [])=some (.v (.bl false)):=ah2 true [] [];have s1:jj [.val (hD qv)]=some (.ok (.v .non),[.val (hD qv)]):=by simp[jj,uv,q,e3]
 have s2:=akv h hl hv;have s3:=aj9 h ha.len hl;have s4:=anz (as:=as) (gs:=vs) h;obtain⟨ρ1,s5⟩:=axr (ws:=ws) (cs:=cmb qv as vs (aG qv.length 0) qv.length) (vs:=vs) hW.len (by rw[aay,cU]) hl
 have s6:=aih h ha.len hl;rw[avk h ha hl hv] at s6;have hg:=ael h _ ha (ace vs qv.length);have s7:=aji h hg;obtain⟨ρ2,s8⟩:=asl (n:=qv.length) hl;obtain⟨R,s9,r1,r2⟩:=ajl (L:=lasts qv (go qv as (rowW vs qv.length))) (S0:=posL vs qv.length) (fun x hx=>by
  rw[afg];exact j8 (bR.mp hx).1) (cC (dU _ _) (by unfold upto;rw[aD,cF];omega))
 have iff:=afi h ha hl hv lS sS r1 r2;have al:=aqp h ha hW.len (fun w hw'=>(hW.ok w hw').1) hl hv
 have s10:rz ((eqB ws (cmb qv as vs (aG qv.length 0) qv.length) vs qv.length).map D.bl)=some (eqB ws (cmb qv as vs (aG qv.length 0) qv.length) vs qv.length):=u5 _;have s11:gEq false (.lst (R.map D.int)) (.lst [])=some (.v (.bl (decide (R=[])))):=by
  have h1:okD 30 (.lst (R.map D.int))=true:=aad 29 R;have h2:okD 30 (.lst [])=true:=rfl;have h3:eqD (.lst (R.map D.int)) (.lst [])=decide (R=[]):=by
   cases R with
   | nil=>rfl
   | cons y R=>rfl
  unfold gEq;rw[h1,h2,h3];simp
 have c1:((eqB ws (cmb qv as vs (aG qv.length 0) qv.length) vs qv.length).map D.bl).length<=capS:=by rw[aD];unfold eqB;rw[aD,cF];exact bh (by omega)
 have c2:((posL vs qv.length).map D.int).length<=capS:=by rw[aD];exact bh (cC (dU _ _) (by unfold upto;rw[aD,cF];omega))
 have l1:(ws.map D.int).length<=((cmb qv as vs (aG qv.length 0) qv.length).map D.int).length:=by rw[aD,aD,aay,cU,hW.len];exact aL _
 have l2:(ws.map D.int).length<=(vs.map D.int).length:=by rw[aD,aD,hW.len,hl];exact aL _
 generalize uAll qv as vs qv.length=uu at *;generalize (cmb qv as vs (aG qv.length 0) qv.length).map D.int=cm at *;generalize (posL vs qv.length).map D.int=pp at *;generalize (lasts qv (go qv as (rowW vs qv.length))).map D.int=ll at *;generalize (go qv as (rowW vs qv.length)).map D.int=gg at *;generalize (eqB ws (cmb qv as vs (aG qv.length 0) qv.length) vs qv.length).map D.bl=EB at *;generalize eqB ws (cmb qv as vs (aG qv.length 0) qv.length) vs qv.length=eb at *;generalize R.map D.int=RR at *;generalize as.map D.int=la at *;generalize ws.map D.int=lw at *;generalize hb1:eb.all id=b1 at *;have hb:decide (vs=tal qv.length S)=(b1&&decide (R=[])):=by
  rw[uZ,bA,decide_eq_true_iff,decide_eq_true_iff,al];exact iff.symm
 rw[hb];generalize decide (R=[])=b2 at *;generalize vs.map D.int=lv at *;generalize hD qv=hh at *;cases b1 with
 | false=>simp[pq,adg,s0,s1,s2,s3,s4,l1,l2,s5,s10,c1,hb1]
 | true=>simp[pq,adg,s0,s1,s2,s3,s4,l1,l2,s5,s10,c1,hb1,s6,s7,s8,c2,s9,s11]
def tupB(a b:Int):D->Bool
 | .tup l=>decide (a<=(l.length:Int))&&decide ((l.length:Int)<=b)
 | _=>false
theorem adc(d:D)(a b:Int):di [.val d,.val (.int a),.val (.int b)]=some (.ok (.v (.bl (tupB a b d))),[.val d,.val (.int a),.val (.int b)]):=by
 cases d <;> simp[di,lu,isTy,tupB]
def posD:D->Bool
 | .int i=>decide (0<=i)
 | _=>false
def lvB(n:Nat):D->Bool
 | .tup l=>decide (l.length=n)&&l.all posD
 | _=>false
theorem aje{n:Nat}{l:List D}(hl:l.length≠n):lvB n (.tup l)=false:=by
 show(decide (l.length=n)&&_)=false;rw[decide_eq_false hl];rfl
theorem apu{n:Nat}{d:D}(h:lvB n d=true):∃vs:List Int,d=.tup (vs.map D.int)/\vs.length=n/\∀x∈vs,0<=x:=by
 cases d with
 | tup l =>
  have h:(decide (l.length=n)&&l.all posD)=true:=h;rw[bA,decide_eq_true_eq] at h;obtain⟨hl,h⟩:=h;have key:∀l:List D,l.all posD=true->∃vs:List Int,l=vs.map D.int/\∀x∈vs,0<=x:=fun l=>by
   induction l with
   | nil=>intro _;exact⟨[],rfl,by simp⟩
   | cons d l ih =>
    intro h;rw[jQ,bA] at h;obtain⟨vs,rfl,hv⟩:=ih h.2;cases d with
    | int i =>
     have hi:0<=i:=of_decide_eq_true h.1;exact⟨i::vs,rfl,fun x hx=>by
      rcases aV.mp hx with rfl | hx
      ·exact hi
      ·exact hv x hx⟩
    | _=>cases h.1
  obtain⟨vs,rfl,hv⟩:=key l h;exact⟨vs,rfl,by rw[<-hl,aD],hv⟩
 | _=>cases h
theorem auu{n:Nat}{vs:List Int}(hl:vs.length=n)(hv:∀x∈vs,0<=x):lvB n (.tup (vs.map D.int))=true:=by
 show(decide ((vs.map D.int).length=n)&&(vs.map D.int).all posD)=true;rw[aD,decide_eq_true hl,oG,fL];intro d hd;obtain⟨w,hwm,rfl⟩:=cO.mp hd;exact decide_eq_true (hv w hwm)
theorem al8{a b:List Int}(h:a.map D.int=b.map D.int):a=b:=by
 induction a generalizing b with
 | nil=>cases b with
  | nil=>rfl
  | cons x b=>cases h
 | cons y a ih=>cases b with
  | nil=>cases h
  | cons x b =>
   rw[aX,aX] at h
   injection h with h1 h2
   injection h1 with h1
   rw[h1,ih h2]
section
variable{qv:LL9}(h:Hs qv)
include h
theorem agi(d:D):jr [.val (hD qv),.val d]=some (.ok (.v (.bl (lvB qv.length d))),[.val (hD qv),.val d]):=by
 have e1:=adc d (qv.length:Int) (qv.length:Int);have hl3:=kh qv;have hm:=h.most;have no:tupB (qv.length:Int) (qv.length:Int) d=false->lvB qv.length d=false->jr [.val (hD qv),.val d]=some (.ok (.v (.bl (lvB qv.length d))),[.val (hD qv),.val d]):=fun q1 q2=>by
  rw[q1] at e1;rw[q2];simp only[hD] at *;simp[jr,v5,hl3,e1]
 cases d with
 | tup l =>
  by_cases hl:l.length=qv.length
  ·have e2:compD (cu 0) (ret true) qt l [] [.emp]=some (.ok (l.map fun d=>.bl (posD d)),aar .emp l::[]):=by
    rw[vo (f:=fun d=>.bl (posD d))]
    ·simp
    ·intro d _;cases d <;> simp[qt,aec,posD]
   have e3:rz (l.map fun d=>D.bl (posD d))=some (l.map posD):=by
    have:=u5 (l.map posD);rwa[fG] at this
   have ha:lvB qv.length (.tup l)=(l.map posD).all id:=by
    rw[kJ];simp only[lvB,hl,decide_true,oG];rfl
   have q1:tupB (qv.length:Int) (qv.length:Int) (.tup l)=true:=by simp[tupB,hl]
   rw[q1] at e1;rw[ha];have hc2:(l.map fun d=>D.bl (posD d)).length<=capS:=by rw[aD];exact bh (by omega)
   generalize (l.map fun d=>D.bl (posD d))=BB at *
   generalize l.map posD=bs at *;simp only[hD] at *;simp[jr,v5,hl3,e1,e2,e3,hc2]
  ·refine no ?_ (aje hl);show(decide ((qv.length:Int)<=(l.length:Int))&&decide ((l.length:Int)<=(qv.length:Int)))=false;rw[Bool.and_eq_false_iff,decide_eq_false_iff_not,decide_eq_false_iff_not];omega
 | _=>exact no rfl rfl
theorem aqw(d:D):m9 [.val d,.val (.int (qv.length:Int))]=some (.ok (.v (.bl (lvB qv.length d))),[.val d,.val (.int (qv.length:Int))]):=by
 have hm:=h.most;cases d with
 | tup l =>
  by_cases hl:l.length=qv.length
  ·have e2:compD (cu 0) (ret true) zy l [] [.emp]=some (.ok (l.map fun d=>.bl (posD d)),aar .emp l::[]):=by
    rw[vo (f:=fun d=>.bl (posD d))]
    ·simp
    ·intro d _;cases d <;> simp[zy,aec,posD]
   have e3:rz (l.map fun d=>D.bl (posD d))=some (l.map posD):=by
    have:=u5 (l.map posD);rwa[fG] at this
   have ha:lvB qv.length (.tup l)=(l.map posD).all id:=by
    rw[kJ];simp only[lvB,hl,decide_true,oG];rfl
   rw[ha];have hc2:(l.map fun d=>D.bl (posD d)).length<=capS:=by rw[aD];exact bh (by omega)
   generalize (l.map fun d=>D.bl (posD d))=BB at *
   generalize l.map posD=bs at *;simp[m9,v6,isTy,hl,e2,e3,hc2]
  ·rw[aje hl];have hl':¬(l.length:Int)=(qv.length:Int):=by omega
   simp[m9,v6,isTy,hl']
 | _=>simp[m9,v6,isTy,lvB]
end
section
variable{qv:LL9}(h:Hs qv){as:List Int}(ha:Arr qv as){ws:List Int}(hop:xf qv=[])(hW:Wk qv.length ws){S:List Int}(lS:Lg qv as (wf ws) S)(sS:Stb qv as (wf ws) S)
include h ha hop hW lS sS
theorem ahf(d:D):∃b:Bool,pq [.val (hD qv),.val (.tup (as.map D.int)),.val (.tup (ws.map D.int)),.val d]=some (.ok (.v (.bl b)),[.val (hD qv),.val (.tup (as.map D.int)),.val (.tup (ws.map D.int)),.val d])/\(b=true↔d=.tup ((tal qv.length S).map D.int)):=by
 cases hd:lvB qv.length d with
 | true =>
  obtain⟨vs,rfl,hl,hv⟩:=apu hd;refine⟨_,anq h ha hop hW hl hv lS sS,?_⟩;rw[decide_eq_true_iff];exact⟨fun e=>by rw[e],fun e=>al8 (by injection e)⟩
 | false =>
  refine⟨false,?_,fun z=>(by cases z),fun e =>?_⟩
  ·have s0:=amh h ha hW;have q:=aov h;rw[hop] at q;have e3:gEq true (.tup []) (.tup [])=some (.v (.bl false)):=ah2 true [] [];have s1:jj [.val (hD qv)]=some (.ok (.v .non),[.val (hD qv)]):=by simp[jj,uv,q,e3]
   have s2:=agi h d;rw[hd] at s2;generalize as.map D.int=la at *;generalize ws.map D.int=lw at *;generalize hD qv=hh at *;simp[pq,adg,s0,s1,s2]
  ·rw[e,auu (aan _ _) fun x hx=>by
    unfold tal at hx;obtain⟨i,_,rfl⟩:=cO.mp hx;omega] at hd
   cases hd
end
theorem aqh{n:Nat}{r:List Int}{a L:Int}{k:Nat}(hk:k < r.length)(h6:r.length<=6)(hr:r.getD k 0 < (n:Int)){st as vs:List Int}(h1:st.length=n){i:Nat}(ea:atI (as.map D.int) (i:Int)=some (.int a))(ev:atI (vs.map D.int) (i:Int)=some (.int L))(a0 a2 o9:Sl) :
  ∃q9,l1__law_fits [a0,.val (.tup (as.map D.int)),a2,.val (.tup (vs.map D.int)),.own none (st.map D.int),.val (.int (i:Int)),.val (.tup (r.map D.int)),.val (.int (k:Int)),.val (.int (r.getD k 0)),o9]=some (.nx,[a0,.val (.tup (as.map D.int)),a2,.val (.tup (vs.map D.int)),.own none ((stq st (r.getD k 0,U r.length a L (k:Nat))).map D.int),.val (.int (i:Int)),.val (.tup (r.map D.int)),.val (.int (k:Int)),.val (.int (r.getD k 0)),q9]):=by
 have lr:(r.map D.int).length=r.length:=aD ..
 generalize r.getD k 0=d at *
 by_cases q:0<=d
 ·have e0:stq st (d,U r.length a L (k:Nat))=st.set d.toNat (st.getD d.toNat 0+U r.length a L (k:Nat)):=if_pos q;rw[e0];have ix:ixN (st.map D.int).length d=some d.toNat:=by rw[aD];exact aci q (by omega)
  have hg:atI (st.map D.int) d=some (.int (st.getD d.toNat 0)):=jt q (by omega)
  have m3:(st.set d.toNat (st.getD d.toNat 0+U r.length a L (k:Nat))).map D.int=(st.map D.int).set d.toNat (.int (st.getD d.toNat 0+U r.length a L (k:Nat))):=by rw[jB]
  rw[m3];have fm:fMod ((k:Int) - a) (r.length:Int)=some (((k:Int) - a) % (r.length:Int)):=by unfold fMod;rw[if_pos (by omega)]
  have fd:∀x,fDiv x (r.length:Int)=some (x / (r.length:Int)):=fun x=>by unfold fDiv;rw[if_pos ⟨by omega,by omega⟩]
  unfold U;generalize st.getD d.toNat 0=v at *;generalize st.map D.int=sm at *;generalize as.map D.int=la at *;generalize vs.map D.int=lv at *;generalize r.map D.int=lr' at *;generalize r.length=m at *;exact⟨.val (.int (((k:Int) - a) % (m:Int))),by simp[l1__law_fits,q,lr,ea,ev,fm,fd,hg,ix]⟩
 ·have e0:stq st (d,U r.length a L (k:Nat))=st:=if_neg q;rw[e0];exact⟨o9,by simp[l1__law_fits,q]⟩
section
variable{qv:LL9}(h:Hs qv){as:List Int}(ha:Arr qv as){ws vs:List Int}(hwl:ws.length=qv.length)(hl:vs.length=qv.length)
include h ha hwl hl
theorem aqj{i:Nat}(hi:i < qv.length){st:List Int}(h1:st.length=qv.length)(a0 a2 o7 o8 o9:Sl):∃q7 q8 q9,l2__law_fits [a0,.val (.tup (as.map D.int)),a2,.val (.tup (vs.map D.int)),.own none (st.map D.int),.val (.int (i:Int)),.val (.tup ((dr qv (i:Int)).map D.int)),o7,o8,o9] =
  some (.nx,[a0,.val (.tup (as.map D.int)),a2,.val (.tup (vs.map D.int)),.own none (((prs (qv.getD i []) (as.getD i 0) (vs.getD i 0)).foldl stq st).map D.int),.val (.int (i:Int)),.val (.tup ((dr qv (i:Int)).map D.int)),q7,q8,q9]):=by
 obtain⟨l1,l6,hb⟩:=h.dr (x:=(i:Int)) (by omega) (by omega)
 have hdr:qv.getD i []=dr qv (i:Int):=by unfold dr;rw[aZ]
 rw[hdr];have hal:=ha.len;have ea:atI (as.map D.int) (i:Int)=some (.int (as.getD i 0)):=by rw[jt (by omega) (by omega),aZ]
 have ev:atI (vs.map D.int) (i:Int)=some (.int (vs.getD i 0)):=by rw[jt (by omega) (by omega),aZ]
 generalize dr qv (i:Int)=r at *;have loop:=zc (b:=bTup 2 (ir (cu 7) (ir (cu 8) bNil))) (g:=l1__law_fits) (fun k ρ=>∃o7 o8 o9,ρ=[a0,.val (.tup (as.map D.int)),a2,.val (.tup (vs.map D.int)),.own none ((((prs r (as.getD i 0) (vs.getD i 0)).take k).foldl stq st).map D.int),.val (.int (i:Int)),.val (.tup (r.map D.int)),o7,o8,o9])
  (l:=adl (r.map D.int)) (ρ:=[a0,.val (.tup (as.map D.int)),a2,.val (.tup (vs.map D.int)),.own none (st.map D.int),.val (.int (i:Int)),.val (.tup (r.map D.int)),o7,o8,o9]) 0 ⟨o7,o8,o9,rfl⟩ (by
   rintro k z ρ hd ⟨o7,o8,o9,rfl⟩
   rw[bW];obtain⟨d0,g1,rfl⟩:=abf hd;have hk:k < r.length:=by
    have:=(aM.mp g1).1;rwa[aD] at this
   have ed:d0=.int (r.getD k 0):=by
    rw[aU,aC hk] at g1;rw[aH,aC hk];exact(bK g1).symm
   subst ed;have hr:r.getD k 0 < (qv.length:Int):=by
    rw[aH,aC hk];exact(hb _ (bO hk)).2
   obtain⟨q9,e⟩:=aqh hk l6 hr (st:=((prs r (as.getD i 0) (vs.getD i 0)).take k).foldl stq st) (by rw[ag7];exact h1) ea ev a0 a2 o9
   have et:(prs r (as.getD i 0) (vs.getD i 0)).take (k+1)=(prs r (as.getD i 0) (vs.getD i 0)).take k++[(r.getD k 0,U r.length (as.getD i 0) (vs.getD i 0) (k:Nat))]:=by
    rw[tX]
    congr 1
    unfold prs;rw[aU,cX hk];rfl
   rw[et,uA];exact⟨_,_,rfl,.inl e,_,_,_,rfl⟩)
 obtain⟨_,k1,q7,q8,q9,rfl⟩:=loop;have lp:(prs r (as.getD i 0) (vs.getD i 0)).take (0+(adl (r.map D.int)).length)=prs r (as.getD i 0) (vs.getD i 0):=by
  rw[aak,aD,bW];exact rM (by unfold prs;rw[aD,cF];exact aL _)
 rw[lp] at k1;refine⟨q7,q8,q9,?_⟩;generalize ((prs r (as.getD i 0) (vs.getD i 0)).foldl stq st).map D.int=F1 at *;generalize st.map D.int=sm at *;generalize as.map D.int=la at *;generalize vs.map D.int=lv at *;generalize r.map D.int=lr at *;simp[l2__law_fits,k1]
theorem axl:yg [.val (hD qv),.val (.tup (as.map D.int)),.val (.tup (ws.map D.int)),.val (.tup (vs.map D.int))]=some (.ok (.v (.bl (decide (cmb qv as vs ws qv.length=vs)))),[.val (hD qv),.val (.tup (as.map D.int)),.val (.tup (ws.map D.int)),.val (.tup (vs.map D.int))]):=by
 have hm:=h.most;have loop:=zc (b:=bTup 2 (ir (cu 5) (ir (cu 6) bNil))) (g:=l2__law_fits) (fun i ρ=>∃o5 o6 o7 o8 o9,ρ=[.val (hD qv),.val (.tup (as.map D.int)),.val (.tup (ws.map D.int)),.val (.tup (vs.map D.int)),.own none ((cmb qv as vs ws i).map D.int),o5,o6,o7,o8,o9])
  (l:=adl (hDs qv)) (ρ:=[.val (hD qv),.val (.tup (as.map D.int)),.val (.tup (ws.map D.int)),.val (.tup (vs.map D.int)),.own none (ws.map D.int),.emp,.emp,.emp,.emp,.emp]) 0 ⟨.emp,.emp,.emp,.emp,.emp,rfl⟩ (by
   rintro i z ρ hd ⟨o5,o6,o7,o8,o9,rfl⟩
   rw[bW];obtain⟨d0,g1,rfl⟩:=abf hd;have hi:i < qv.length:=by
    have:=(aM.mp g1).1;rwa[kh] at this
   have ed:d0=.tup ((dr qv (i:Int)).map D.int):=by
    unfold hDs at g1;rw[aU,aC hi] at g1;unfold dr;rw[aZ,aH,aC hi];exact(bK g1).symm
   subst ed;obtain⟨q7,q8,q9,e⟩:=aqj h ha hwl hl hi (st:=cmb qv as vs ws i) (by rw[aay];exact hwl) (.val (hD qv)) (.val (.tup (ws.map D.int))) o7 o8 o9
   exact⟨_,_,rfl,.inl e,_,_,_,_,_,rfl⟩)
 obtain⟨_,k1,o5,o6,o7,o8,o9,rfl⟩:=loop;rw[aak,kh,bW] at k1;have q:=ah2 false (cmb qv as vs ws qv.length) vs;have hc:((cmb qv as vs ws qv.length).map D.int).length<=capS:=by rw[aD,aay];exact bh (by omega)
 have hc2:(ws.map D.int).length<=capS:=by rw[aD];exact bh (by omega)
 have q:gEq false (.tup ((cmb qv as vs ws qv.length).map D.int)) (.tup (vs.map D.int))=some (.v (.bl (decide (cmb qv as vs ws qv.length=vs)))):=q;generalize decide (cmb qv as vs ws qv.length=vs)=bb at *;generalize (cmb qv as vs ws qv.length).map D.int=cm at *;generalize as.map D.int=la at *;generalize ws.map D.int=lw at *;generalize vs.map D.int=lv at *;simp only[hD] at *;simp[yg,afv,k1,hc,hc2,q]
theorem atz(hw0:∀w∈ws,0<=w)(hv:∀x∈vs,0<=x):cmb qv as vs ws qv.length=vs↔Stb qv as (wf ws) (rowW vs qv.length):=by
 rw[<-aqp h ha hwl hw0 hl hv];unfold eqB;rw[kJ,fL];have key:∀i:Nat,i < qv.length->(cmb qv as vs ws qv.length).getD i 0=ws.getD i 0+(cmb qv as vs (aG qv.length 0) qv.length).getD i 0:=fun i hi=>by
  rw[amk h ha hv hl hwl hi _ (aL _),amk h ha hv hl (cU) hi _ (aL _)];have:(aG qv.length (0:Int)).getD i 0=0:=by
   rw[aH,fM,if_pos hi];rfl
  rw[this];omega
 constructor
 ·intro e i hi;have hi:=cW.mp hi;have:=key i hi;rw[e] at this;exact decide_eq_true this.symm
 ·intro q;refine at3 (by rw[aay,hwl,hl]) fun i hi =>?_
  rw[aay,hwl] at hi;have:=of_decide_eq_true (q i (cW.mpr hi));rw[key i hi];exact this
end
def nxt(qv:LL9)(as vs:List Int)(x:Int):Int:=(dr qv x).getD ((as.getD x.toNat 0+vs.getD x.toNat 0 - 1) % ((dr qv x).length:Int)).toNat 0
def act(vs:List Int)(x:Int):Prop:=0<=x/\0 < vs.getD x.toNat 0
instance (vs:List Int) (x:Int):Decidable (act vs x):=inferInstanceAs (Decidable (_/\_))
def itn(qv:LL9)(as vs:List Int)(s:Int):Nat->Int
 | 0=>s
 | t+1=>if act vs (itn qv as vs s t) then nxt qv as vs (itn qv as vs s t) else itn qv as vs s t
def Lop(qv:LL9)(as vs:List Int)(s:Int):Prop:=∃u < qv.length,act vs (itn qv as vs s u)/\nxt qv as vs (itn qv as vs s u)=s
section
variable{qv:LL9}(h:Hs qv){as:List Int}(ha:Arr qv as){vs:List Int}(hl:vs.length=qv.length)(hv:∀x∈vs,0<=x)
include h ha hl hv
theorem aus{x:Int}(x0:0<=x)(x1:x < (qv.length:Int)):0<=(as.getD x.toNat 0+vs.getD x.toNat 0 - 1) % ((dr qv x).length:Int)/\(as.getD x.toNat 0+vs.getD x.toNat 0 - 1) % ((dr qv x).length:Int) < ((dr qv x).length:Int):=by
 obtain⟨l1,_,_⟩:=h.dr x0 x1;exact⟨Int.emod_nonneg _ (by omega),cV _ (by omega)⟩
theorem azs{x:Int}(x0:0<=x)(x1:x < (qv.length:Int)):nxt qv as vs x < (qv.length:Int):=by
 obtain⟨a,b⟩:=aus h ha hl hv x0 x1;obtain⟨_,_,hb⟩:=h.dr x0 x1;unfold nxt;rw[aH,aC (by omega)]
 exact(hb _ (bO _)).2
theorem aut{x:Int}(x0:0<=x)(x1:x < (qv.length:Int)):(lasts qv (go qv as (rowW vs qv.length))).getD x.toNat 0=nxt qv as vs x:=by
 have v0:=aon hl hv (i:=x.toNat) (by omega)
 rw[ahv h ha hl hv x0 x1,yz x0 x1];unfold ldo nxt ar;rw[show((vs.getD x.toNat 0).toNat:Int)=vs.getD x.toNat 0 by omega,show as.getD x.toNat 0+(vs.getD x.toNat 0 - 1)=as.getD x.toNat 0+vs.getD x.toNat 0 - 1 by omega]
theorem ap1{s:Int}(s0:0<=s)(s1:s < (qv.length:Int)):∀t,itn qv as vs s t < (qv.length:Int)
 | 0=>s1
 | t+1=>by
  have ih:=ap1 s0 s1 t;show(if act vs (itn qv as vs s t) then nxt qv as vs (itn qv as vs s t) else itn qv as vs s t) < _
  by_cases q:act vs (itn qv as vs s t)
  ·rw[if_pos q];exact azs h ha hl hv q.1 ih
  ·rw[if_neg q];exact ih
omit h ha hl hv in
theorem ap2(s:Int)(i:Nat):∀k,itn qv as vs s (i+k)=itn qv as vs (itn qv as vs s i) k
 | 0=>rfl
 | k+1=>by
  show(if act vs (itn qv as vs s (i+k)) then nxt qv as vs (itn qv as vs s (i+k)) else itn qv as vs s (i+k))=_
  rw[ap2 s i k];rfl
omit h ha hl hv in
theorem al5{s:Int}{k:Nat}(hk:¬act vs (itn qv as vs s k)):∀m,itn qv as vs s (k+m)=itn qv as vs s k
 | 0=>rfl
 | m+1=>by
  show(if act vs (itn qv as vs s (k+m)) then nxt qv as vs (itn qv as vs s (k+m)) else itn qv as vs s (k+m))=_
  rw[al5 hk m,if_neg hk]
theorem asy{s:Int}(s0:0<=s)(s1:s < (qv.length:Int))(t:Nat)(o5 o6:Sl) :
  (act vs (itn qv as vs s t)/\nxt qv as vs (itn qv as vs s t)=s/\∃q4 q6,l1__law_round_nowhere [.val (hD qv),.val (.tup (as.map D.int)),.val (.tup (vs.map D.int)),.val (.int s),.val (.int (itn qv as vs s t)),o5,o6]=some (.ret (.v (.bl false)),[.val (hD qv),.val (.tup (as.map D.int)),.val (.tup (vs.map D.int)),.val (.int s),q4,o5,q6])) ∨
  (¬(act vs (itn qv as vs s t)/\nxt qv as vs (itn qv as vs s t)=s)/\∃q6,l1__law_round_nowhere [.val (hD qv),.val (.tup (as.map D.int)),.val (.tup (vs.map D.int)),.val (.int s),.val (.int (itn qv as vs s t)),o5,o6]=some (.nx,[.val (hD qv),.val (.tup (as.map D.int)),.val (.tup (vs.map D.int)),.val (.int s),.val (.int (itn qv as vs s (t+1))),o5,q6])):=by
 have hin:=ap1 h ha hl hv s0 s1 t;have es:itn qv as vs s (t+1)=if act vs (itn qv as vs s t) then nxt qv as vs (itn qv as vs s t) else itn qv as vs s t:=rfl
 rw[es];generalize itn qv as vs s t=p at *;have hal:=ha.len
 by_cases q:act vs p
 ·obtain⟨p0,pv⟩:=q;have ea:atI (as.map D.int) p=some (.int (as.getD p.toNat 0)):=jt p0 (by omega)
  have ev:atI (vs.map D.int) p=some (.int (vs.getD p.toNat 0)):=jt p0 (by omega)
  have eh:atI (hDs qv) p=some (.tup ((dr qv p).map D.int)):=aea p0 hin;obtain⟨i0,i1⟩:=aus h ha hl hv p0 hin;have er:atI ((dr qv p).map D.int) ((as.getD p.toNat 0+vs.getD p.toNat 0 - 1) % ((dr qv p).length:Int))=some (.int (nxt qv as vs p)):=jt i0 i1;have lr:((dr qv p).map D.int).length=(dr qv p).length:=aD ..
  have fm:fMod (as.getD p.toNat 0+vs.getD p.toNat 0 - 1) ((dr qv p).length:Int)=some ((as.getD p.toNat 0+vs.getD p.toNat 0 - 1) % ((dr qv p).length:Int)):=by unfold fMod;rw[if_pos (by omega)]
  rw[if_pos ⟨p0,pv⟩];have ac:act vs p:=⟨p0,pv⟩;generalize nxt qv as vs p=z at *;generalize (dr qv p).map D.int=dd at *;generalize (dr qv p).length=m at *;generalize as.getD p.toNat 0=a1 at *;generalize vs.getD p.toNat 0=v1 at *;generalize as.map D.int=la at *;generalize vs.map D.int=lv at *;simp only[hD] at *
  by_cases e:z=s
  ·exact .inl ⟨ac,e,.val (.int z),.val (.tup dd),by simp[l1__law_round_nowhere,p0,ev,pv,eh,ea,lr,fm,er,e]⟩
  ·exact .inr ⟨fun x=>e x.2,.val (.tup dd),by simp[l1__law_round_nowhere,p0,ev,pv,eh,ea,lr,fm,er,e]⟩
 ·refine .inr ⟨fun x=>q x.1,o6,?_⟩
  rw[if_neg q]
  by_cases p0:0<=p
  ·have pv:¬0 < vs.getD p.toNat 0:=fun z=>q ⟨p0,z⟩
   have ev:atI (vs.map D.int) p=some (.int (vs.getD p.toNat 0)):=jt p0 (by omega)
   generalize vs.getD p.toNat 0=v1 at *;generalize vs.map D.int=lv at *;simp[l1__law_round_nowhere,p0,ev,pv]
  ·simp[l1__law_round_nowhere,p0]
end
section
variable{qv:LL9}(h:Hs qv){as:List Int}(ha:Arr qv as){vs:List Int}(hl:vs.length=qv.length)(hv:∀x∈vs,0<=x)
include h ha hl hv
theorem asz{s:Nat}(hs:s < qv.length)(o4 o5 o6:Sl) :
  (¬Lop qv as vs (s:Int)/\∃q4 q5 q6,l2__law_round_nowhere [.val (hD qv),.val (.tup (as.map D.int)),.val (.tup (vs.map D.int)),.val (.int (s:Int)),o4,o5,o6]=some (.nx,[.val (hD qv),.val (.tup (as.map D.int)),.val (.tup (vs.map D.int)),.val (.int (s:Int)),q4,q5,q6])) ∨
  (Lop qv as vs (s:Int)/\∃q4 q5 q6,l2__law_round_nowhere [.val (hD qv),.val (.tup (as.map D.int)),.val (.tup (vs.map D.int)),.val (.int (s:Int)),o4,o5,o6]=some (.ret (.v (.bl false)),[.val (hD qv),.val (.tup (as.map D.int)),.val (.tup (vs.map D.int)),.val (.int (s:Int)),q4,q5,q6])):=by
 have hm:=h.most;have hl3:=kh qv;have hb:qv.length < 4611686018427387904:=by omega
 have rl:(jg 0 qv.length).length=qv.length:=by simp[jg]
 have loop:=ah5 (b:=cu 5) (g:=l1__law_round_nowhere) (fun t ρ=>∃o5 o6,ρ=[.val (hD qv),.val (.tup (as.map D.int)),.val (.tup (vs.map D.int)),.val (.int (s:Int)),.val (.int (itn qv as vs (s:Int) t)),o5,o6]/\∀u < t,¬(act vs (itn qv as vs (s:Int) u)/\nxt qv as vs (itn qv as vs (s:Int) u)=(s:Int)))
  (fun r ρ=>r=.v (.bl false)/\Lop qv as vs (s:Int)/\∃q4 q5 q6,ρ=[.val (hD qv),.val (.tup (as.map D.int)),.val (.tup (vs.map D.int)),.val (.int (s:Int)),q4,q5,q6])
  (l:=jg 0 qv.length) (ρ:=[.val (hD qv),.val (.tup (as.map D.int)),.val (.tup (vs.map D.int)),.val (.int (s:Int)),.val (.int (s:Int)),o5,o6]) 0 ⟨o5,o6,rfl,fun u hu=>by omega⟩ (by
   rintro t z ρ hd ⟨o5,o6,rfl,hu⟩
   rw[bW] at hu ⊢
   have ht:t < qv.length:=by
    have:=(aM.mp hd).1;rwa[rl] at this
   refine⟨_,rfl,?_⟩;rcases asy h ha hl hv (s:=(s:Int)) (by omega) (by omega) t (.val z) o6 with⟨a,b,q4,q6,e⟩ | ⟨a,q6,e⟩
   ·exact .inr ⟨_,_,e,rfl,⟨t,ht,a,b⟩,_,_,_,rfl⟩
   ·refine .inl ⟨_,.inl e,_,_,rfl,fun u hu' =>?_⟩
    rcases fY u t with q | q
    ·exact hu u q
    ·have:u=t:=by omega
     rw[this];exact a)
 rcases loop with⟨ρ',e,q5,q6,rfl,hu⟩ | ⟨r,ρ',e,rfl,lo,q4,q5,q6,rfl⟩
 ·rw[rl,bW] at hu e;refine .inl ⟨fun⟨u,h1,h2,h3⟩=>hu u h1 ⟨h2,h3⟩,.val (.int (itn qv as vs (s:Int) qv.length)),q5,q6,?_⟩
  generalize itn qv as vs (s:Int) qv.length=pl at *;generalize as.map D.int=la at *;generalize vs.map D.int=lv at *;simp only[hD] at *;simp[l2__law_round_nowhere,hl3,hb,e]
 ·refine .inr ⟨lo,q4,q5,q6,?_⟩;generalize as.map D.int=la at *;generalize vs.map D.int=lv at *;simp only[hD] at *;simp[l2__law_round_nowhere,hl3,hb,e]
theorem anj:∃c:Bool,je [.val (hD qv),.val (.tup (as.map D.int)),.val (.tup (vs.map D.int))]=some (.ok (.v (.bl c)),[.val (hD qv),.val (.tup (as.map D.int)),.val (.tup (vs.map D.int))])/\(c=true↔∀s:Nat,s < qv.length->¬Lop qv as vs (s:Int)):=by
 have hm:=h.most;have hl3:=kh qv;have hb:qv.length < 4611686018427387904:=by omega
 have rl:(jg 0 qv.length).length=qv.length:=by simp[jg]
 have loop:=ah5 (b:=cu 3) (g:=l2__law_round_nowhere) (fun t ρ=>∃o3 o4 o5 o6,ρ=[.val (hD qv),.val (.tup (as.map D.int)),.val (.tup (vs.map D.int)),o3,o4,o5,o6]/\∀s < t,¬Lop qv as vs (s:Int))
  (fun r ρ=>r=.v (.bl false)/\(∃s:Nat,s < qv.length/\Lop qv as vs (s:Int))/\∃q3 q4 q5 q6,ρ=[.val (hD qv),.val (.tup (as.map D.int)),.val (.tup (vs.map D.int)),q3,q4,q5,q6])
  (l:=jg 0 qv.length) (ρ:=[.val (hD qv),.val (.tup (as.map D.int)),.val (.tup (vs.map D.int)),.emp,.emp,.emp,.emp]) 0 ⟨.emp,.emp,.emp,.emp,rfl,fun s hs=>by omega⟩ (by
   rintro s z ρ hd ⟨o3,o4,o5,o6,rfl,hu⟩
   rw[bW] at hu ⊢
   have hs:s < qv.length:=by
    have:=(aM.mp hd).1;rwa[rl] at this
   have ez:z=.int (s:Int):=by
    unfold jg at hd;rw[aU,cX hs] at hd;have:=(bK hd).symm
    simpa using this
   subst ez;refine⟨_,rfl,?_⟩;rcases asz h ha hl hv hs o4 o5 o6 with⟨a,q4,q5,q6,e⟩ | ⟨a,q4,q5,q6,e⟩
   ·refine .inl ⟨_,.inl e,_,_,_,_,rfl,fun u hu' =>?_⟩
    rcases fY u s with q | q
    ·exact hu u q
    ·have:u=s:=by omega
     rw[this];exact a
   ·exact .inr ⟨_,_,e,rfl,⟨s,hs,a⟩,_,_,_,_,rfl⟩)
 rcases loop with⟨ρ',e,o3,o4,o5,o6,rfl,hu⟩ | ⟨r,ρ',e,rfl,⟨s,hs,lo⟩,q3,q4,q5,q6,rfl⟩
 ·rw[rl,bW] at hu;refine⟨true,?_,fun _=>hu,fun _=>rfl⟩
  generalize as.map D.int=la at *;generalize vs.map D.int=lv at *;simp only[hD] at *;simp[je,qg,hl3,hb,e]
 ·refine⟨false,?_,fun z=>(by cases z),fun z=>absurd lo (z s hs)⟩
  generalize as.map D.int=la at *;generalize vs.map D.int=lv at *;simp only[hD] at *;simp[je,qg,hl3,hb,e]
theorem awx{R:List Int}(r1:∀Q:Int->Prop,(∀x,Q x->x∈(upto qv.length).filter (fun x=>decide (0 < vs.getD x.toNat 0))/\Q ((lasts qv (go qv as (rowW vs qv.length))).getD x.toNat 0))->∀x,Q x->x∈R)
  (r2:∀x∈R,x∈(upto qv.length).filter (fun x=>decide (0 < vs.getD x.toNat 0))/\(lasts qv (go qv as (rowW vs qv.length))).getD x.toNat 0∈R):(∀s:Nat,s < qv.length->¬Lop qv as vs (s:Int))↔R=[]:=by
 have inP:∀x,x∈(upto qv.length).filter (fun x=>decide (0 < vs.getD x.toNat 0))↔(x < (qv.length:Int)/\act vs x):=fun x=>by
  rw[bR,decide_eq_true_iff];constructor
  ·rintro⟨a,b⟩
   have:=j8 a;exact⟨this.2,this.1,b⟩
  ·rintro⟨a,b,c⟩
   exact⟨yp b a,c⟩
 constructor
 ·intro no;cases R with
  | nil=>rfl
  | cons y R =>
   exfalso;have all:∀t,itn qv as vs y t∈y::R:=fun t=>by
    induction t with
    | zero=>exact aR ..
    | succ t ih =>
     obtain⟨a,b⟩:=r2 _ ih;obtain⟨c,d⟩:=(inP _).mp a;rw[aut h ha hl hv d.1 c] at b;show(if act vs (itn qv as vs y t) then nxt qv as vs (itn qv as vs y t) else itn qv as vs y t)∈y::R
     rw[if_pos d];exact b
   have bd:∀t,0<=itn qv as vs y t/\itn qv as vs y t < (qv.length:Int):=fun t=>by
    obtain⟨c,d⟩:=(inP _).mp (r2 _ (all t)).1;exact⟨d.1,c⟩
   obtain⟨i,j,hij,hj,e⟩:=pig (itn qv as vs y) qv.length fun i _=>bd i
   have b1:=bd i;refine no (itn qv as vs y i).toNat (by omega) ?_
   rw[show(((itn qv as vs y i).toNat:Nat):Int)=itn qv as vs y i by omega]
   refine⟨j - i - 1,by omega,?_⟩
   have e1:=ap2 (qv:=qv) (as:=as) (vs:=vs) y i (j - i - 1);rw[<-e1];have ac:=((inP _).mp (r2 _ (all (i+(j - i - 1)))).1).2;refine⟨ac,?_⟩;have e2:itn qv as vs y (i+(j - i - 1)+1)=nxt qv as vs (itn qv as vs y (i+(j - i - 1))):=if_pos ac;rw[<-e2,show i+(j - i - 1)+1=j by omega,e]
 ·rintro rfl s hs ⟨u,hu,ac,e⟩
  have acs:∀k,k<=u->act vs (itn qv as vs (s:Int) k):=fun k hk=>cB fun z=>by
   have:=al5 z (u - k);rw[show k+(u - k)=u by omega] at this
   rw[this] at ac;exact z ac
  have:=r1 (fun x=>∃k,k<=u/\x=itn qv as vs (s:Int) k) (fun x hq0=>by
   obtain⟨k,hk,ex⟩:=hq0;subst ex;have a:=acs k hk;have b:=ap1 h ha hl hv (s:=(s:Int)) (by omega) (by omega) k
   refine⟨(inP _).mpr ⟨b,a⟩,?_⟩;rw[aut h ha hl hv a.1 b];rcases fY k u with q | q
   ·exact⟨k+1,q,(if_pos a).symm⟩
   ·have:k=u:=by omega
    subst this;exact⟨0,by omega,e⟩) (s:Int) ⟨0,by omega,rfl⟩
  cases this
end
section
variable{qv:LL9}(h:Hs qv){as:List Int}(ha:Arr qv as){ws:List Int}(hop:xf qv=[])(hW:Wk qv.length ws){S:List Int}(lS:Lg qv as (wf ws) S)(sS:Stb qv as (wf ws) S)
include h ha hop hW lS sS
theorem axt(d:D):∃b:Bool,wz [.val (hD qv),.val (.tup (as.map D.int)),.val (.tup (ws.map D.int)),.val d]=some (.ok (.v (.bl b)),[.val (hD qv),.val (.tup (as.map D.int)),.val (.tup (ws.map D.int)),.val d])/\(b=true↔d=.tup ((tal qv.length S).map D.int)):=by
 have s1:=aqw h d;have hl3:=kh qv;cases hd:lvB qv.length d with
 | false =>
  rw[hd] at s1;refine⟨false,?_,fun z=>(by cases z),fun e =>?_⟩
  ·generalize as.map D.int=la at *;generalize ws.map D.int=lw at *;simp only[hD] at *;simp[wz,ad4,hl3,s1]
  ·rw[e,auu (aan _ _) fun x hx=>by
    unfold tal at hx;obtain⟨i,_,rfl⟩:=cO.mp hx;omega] at hd
   cases hd
 | true =>
  rw[hd] at s1;obtain⟨vs,rfl,hl,hv⟩:=apu hd;have s2:=axl h ha hW.len hl;obtain⟨c,s3,hc⟩:=anj h ha hl hv;obtain⟨R,_,r1,r2⟩:=ajl (L:=lasts qv (go qv as (rowW vs qv.length))) (S0:=posL vs qv.length) (fun x hx=>by
   rw[afg];exact j8 (bR.mp hx).1) (cC (dU _ _) (by have:=h.most;unfold upto;rw[aD,cF];omega))
  have iff:=afi h ha hl hv lS sS r1 r2;have st:=atz h ha hW.len hl (fun w hw'=>(hW.ok w hw').1) hv
  have lo:=awx h ha hl hv r1 r2;have fin:(decide (cmb qv as vs ws qv.length=vs)&&c)=true↔D.tup (vs.map D.int)=.tup ((tal qv.length S).map D.int):=by
   rw[bA,decide_eq_true_iff,st,hc,lo,iff];exact⟨fun e=>by rw[e],fun e=>al8 (by injection e)⟩
  refine⟨_,?_,fin⟩
  clear fin iff st lo hc
  generalize decide (cmb qv as vs ws qv.length=vs)=b1 at *;generalize as.map D.int=la at *;generalize ws.map D.int=lw at *;generalize vs.map D.int=lv at *;simp only[hD] at *;cases b1 <;> simp[wz,ad4,hl3,s1,s2,s3]
theorem air(d:D):m5 [.val (hD qv),.val (.tup (as.map D.int)),.val (.tup (ws.map D.int)),.val d]=some (.ok (.v (.bl true)),[.val (hD qv),.val (.tup (as.map D.int)),.val (.tup (ws.map D.int)),.val d]):=by
 obtain⟨b,e1,h1⟩:=ahf h ha hop hW lS sS d;obtain⟨c,e2,h2⟩:=axt h ha hop hW lS sS d;have:b=c:=by rw[uZ,h1,h2]
 subst this;have q1:gEq true (.bl b) (.bl b)=some (.v (.bl false)):=by cases b <;> rfl
 have q2:gEq false (.bl b) (.bl b)=some (.v (.bl true)):=by cases b <;> rfl
 generalize as.map D.int=la at *;generalize ws.map D.int=lw at *;generalize hD qv=hh at *;simp[m5,aeo,isTy,e1,e2,q1,q2]
end
theorem atI_last(l:List D)(d:D):atI (l++[d]) (-1)=some d:=by
 unfold atI;have:ixN (l++[d]).length (-1)=some l.length:=by
  unfold ixN;simp;omega
 rw[this];show(l++[d])[l.length]? = _;simp
theorem aty{d:D}(hd:okD 30 d=true)(neg:Bool):gEq neg d d=some (.v (.bl (!neg))):=by
 have e:eqD d d=true:=PySem.SeqAt.eqv_refl _ (aa9 _ _ hd).1;unfold gEq;rw[hd,e];cases neg <;> rfl
theorem at9{ns:List D}(h:1<=ns.length):cutD ns none (some (-1))=ns.take (ns.length - 1):=by
 unfold cutD;have e1:HT.sIx ns.length ns.length (some (-1))=ns.length - 1:=by
  show(if (-1:Int) < 0 then ((-1:Int)+(ns.length:Int)).toNat else min (-1:Int).toNat ns.length)=_
  rw[if_pos (by decide)]
  omega
 have e0:HT.sIx ns.length 0 none=0:=rfl;rw[e1,e0,rR,qO]
theorem atl{ns:List Int}{x:Int}(hx:x∈ns):∃i:Nat,i < ns.length/\ajo (.lst (ns.map D.int)) [.int x]=some (.int (i:Int)):=by
 have h1:=aad 30 ns;cases e:(ns.map D.int).findIdx? fun y=>eqD y (.int x) with
 | none =>
  rw[lC] at e;have:=e (.int x) (cO.mpr ⟨_,hx,rfl⟩);rw[ak5] at this;simp at this
 | some i =>
  have hi:=(fZ.mp e).1;rw[aD] at hi;refine⟨i,hi,?_⟩;have ho:okD 30 (D.int x)=true:=rfl;simp only[ajo,ho,h1,Bool.and_self,if_true,e];rfl
theorem apo{qv:LL9}(h:Hs qv){as:List Int}(ha:Arr qv as){vs:List Int}(hl:vs.length=qv.length)(hv:∀x∈vs,0<=x) :
  ∃us:List Int,ye [.val (hD qv),.val (.tup (as.map D.int)),.val (.tup (vs.map D.int))]=some (.ok (.v (.tup (us.map D.int))),[.val (hD qv),.val (.tup (as.map D.int)),.val (.tup (vs.map D.int))])/\us.length=qv.length/\∀x∈us,0<=x:=by
 have hm:=h.most;have hal:=ha.len;have plen:∀p:List Int,p.Nodup->(∀x∈p,0<=x/\x < (qv.length:Int))->p.length<=qv.length:=fun p hp hx=>by
  have:=afb (b:=upto qv.length) hp fun x hx'=>yp (hx x hx').1 (hx x hx').2
  have e:(upto qv.length).length=qv.length:=by simp[upto]
  omega
 have loop:=v8 (c:=vd) (g:=aa5)
  (fun k ρ=>∃(p:List Int) (y:Int) (o5 o6:Sl),k=11 - p.length/\p.Nodup/\(∀x∈p,0<=x/\x < (qv.length:Int))/\y < (qv.length:Int)/\ρ=[.val (hD qv),.val (.tup (as.map D.int)),.val (.tup (vs.map D.int)),.own none ((p++[y]).map D.int),o5,o6])
  (fun ρ=>∃(p:List Int) (y:Int) (o5 o6:Sl),p.length<=10/\ρ=[.val (hD qv),.val (.tup (as.map D.int)),.val (.tup (vs.map D.int)),.own none ((p++[y]).map D.int),o5,o6])
  ?_ fuel 11 [.val (hD qv),.val (.tup (as.map D.int)),.val (.tup (vs.map D.int)),.own none [.int 0],.emp,.emp] (jL (by decide) adi) ⟨[],0,.emp,.emp,rfl,List.nodup_nil,by simp,by have:=h.one;omega,rfl⟩
 ·obtain⟨ρ',e,p,y,o5,o6,hp,rfl⟩:=loop;obtain⟨i,hi,ei⟩:=atl (ns:=p++[y]) (x:=y) (by simp)
  obtain⟨ring,er,erl⟩:=abm (p++[y]) (some ((i:Int)+1)) none;have ea:atI ((p++[y]).map D.int) (-1)=some (.int y):=by
   rw[bT];exact atI_last _ _
  have hgi:∀x:Int,gIn false (.int x) (.lst (ring.map D.int))=some (.v (.bl (decide (x∈ring)))):=fun x=>by rw[afy];simp
  have comp:=p6 (b:=bTup 2 (ir (cu 0) (ir (cu 1) bNil))) (mc:=ret true) (me:=abl) (fun j ys ρ=>∃(us:List Int) (o1 o2:Sl),ρ=[o1,o2,.own (some 2) (ring.map D.int)]/\ys=us.map D.int/\us.length=j/\∀x∈us,0<=x)
   (l:=adl (vs.map D.int)) (ys:=[]) (ρ:=[.emp,.emp,.own (some 2) (ring.map D.int)]) 0 ⟨[],.emp,.emp,rfl,rfl,rfl,by simp⟩ ?_
  ·obtain⟨ys,ρ2,ec,us,o1,o2,rfl,rfl,ul,uo⟩:=comp;rw[aak,aD,hl,bW] at ul;refine⟨us,?_,ul,uo⟩;have c1:(us.map D.int).length<=capS:=by rw[aD,ul];exact bh (by omega)
   generalize us.map D.int=uu at *;generalize ring.map D.int=rr at *;generalize (p++[y]).map D.int=pp at *;generalize as.map D.int=la at *;generalize vs.map D.int=lv at *;generalize hD qv=hh at *;simp[ye,afu,e,ea,ei,er,ec,c1]
  ·rintro j d ys ρ hd ⟨us,o1,o2,rfl,rfl,ul,uo⟩
   obtain⟨d0,g,rfl⟩:=abf hd;rw[aU] at g;obtain⟨a,ea2,rfl⟩:=bM.mp g;have a0:=hv a (cY ea2);have hg:=hgi (j:Int);generalize ring.map D.int=rr at *;generalize decide ((j:Int)∈ring)=bb at *;refine⟨[.val (.int (j:Int)),.val (.int a),.own (some 2) rr],_,true,rfl,rfl,.inr ⟨rfl,.int (a+if bb then 1 else 0),[.val (.int (j:Int)),.val (.int a),.own (some 2) rr],by simp[abl,hg],us++[a+if bb then 1 else 0],_,_,rfl,by simp,by simp[ul],fun x hx =>?_⟩⟩
   rcases cN.mp hx with q | q
   ·exact uo x q
   ·rw[cR] at q;rw[q];cases bb <;> simp <;> omega
 ·rintro k ρ ⟨p,y,o5,o6,rfl,hp,hx,hy,rfl⟩
  have pl:=plen p hp hx;have ea:atI ((p++[y]).map D.int) (-1)=some (.int y):=by
   rw[bT];exact atI_last _ _
  have ec:cutD ((p++[y]).map D.int) none (some (-1))=p.map D.int:=by
   rw[at9 (by simp),bT]
   exact uR (by simp)
  have gi:gIn true (.int y) (.lst (p.map D.int))=some (.v (.bl (!decide (y∈p)))):=by rw[afy];simp
  have hpl:((p++[y]).map D.int).length=p.length+1:=by simp
  by_cases q:0<=y
  ·by_cases z:y∈p
   ·refine .inl ⟨[.val (hD qv),.val (.tup (as.map D.int)),.val (.tup (vs.map D.int)),.own none ((p++[y]).map D.int),o5,o6],?_,p,y,o5,o6,by omega,rfl⟩
    rw[decide_eq_true z] at gi;generalize (p++[y]).map D.int=pp at *;generalize p.map D.int=p1 at *;generalize hD qv=hh at *;simp[vd,ea,q,ec,gi]
   ·have np:(p++[y]).Nodup:=oU.mpr ⟨hp,by simp,fun a ha b hb=>by rw[cR] at hb;rintro rfl;exact z (hb▸ha)⟩
    have nx:∀x∈p++[y],0<=x/\x < (qv.length:Int):=fun x hx'=>by
     rcases cN.mp hx' with r | r
     ·exact hx x r
     ·rw[cR] at r;omega
    have pl2:=plen _ np nx;rw[cG] at pl2;have pl2:p.length+1<=qv.length:=pl2;obtain⟨w1,w2,w3⟩:=h.dr q hy;have e1:=aea q hy;have e2:=amu h ha q hy;have e3:=jt (ns:=vs) q (by rw[hl];exact hy)
    have e4:=ajq h ha q hy (ar as y+vs.getD y.toNat 0);have j0:=fD (ar as y+vs.getD y.toNat 0) (show((dr qv y).length:Int)≠0 by omega)
    have j1:=cV (ar as y+vs.getD y.toNat 0) (show(0:Int) < ((dr qv y).length:Int) by omega)
    have e5:=jt (ns:=dr qv y) j0 j1;have hmem:(dr qv y).getD ((ar as y+vs.getD y.toNat 0) % ((dr qv y).length:Int)).toNat 0 < (qv.length:Int):=by
     refine(w3 _ ?_).2;have hk:((ar as y+vs.getD y.toNat 0) % ((dr qv y).length:Int)).toNat < (dr qv y).length:=by omega
     rw[aH,aC hk];exact bO hk
    refine .inr ⟨[.val (hD qv),.val (.tup (as.map D.int)),.val (.tup (vs.map D.int)),.own none ((p++[y]).map D.int),o5,o6],[.val (hD qv),.val (.tup (as.map D.int)),.val (.tup (vs.map D.int)),.own none ((p++[y]++[(dr qv y).getD ((ar as y+vs.getD y.toNat 0) % ((dr qv y).length:Int)).toNat 0]).map D.int),.val (.tup ((dr qv y).map D.int)),o6],11 - (p.length+1),?_,?_,by omega,p++[y],_,_,_,by simp,np,nx,hmem,rfl⟩
    ·rw[decide_eq_false z] at gi;generalize (p++[y]).map D.int=pp at *;generalize p.map D.int=p1 at *;generalize hD qv=hh at *;simp[vd,ea,q,ec,gi]
    ·rw[bT (l₁:=p++[y])];have hcap:p.length+1 < capS:=by unfold capS;omega
     have hdm:((dr qv y).map D.int).length=(dr qv y).length:=aD ..
     generalize (dr qv y).getD ((ar as y+vs.getD y.toNat 0) % ((dr qv y).length:Int)).toNat 0=dd at *;generalize (p++[y]).map D.int=pp at *;generalize (dr qv y).map D.int=dm at *;generalize vs.getD y.toNat 0=vv at *;generalize as.map D.int=la at *;generalize vs.map D.int=lv at *;simp only[hD] at *;simp[aa5,ea,e1,e2,e3,hdm,e4,e5,hpl,hcap]
  ·refine .inl ⟨[.val (hD qv),.val (.tup (as.map D.int)),.val (.tup (vs.map D.int)),.own none ((p++[y]).map D.int),o5,o6],?_,p,y,o5,o6,by omega,rfl⟩
   generalize (p++[y]).map D.int=pp at *;generalize hD qv=hh at *;simp[vd,ea,q]
theorem aok(P:Int×Int):∃qv P' W,f__law_wide [.own (some 0) (pen P)]=some (.ok (.v (hD qv)),[.own (some 0) (pen P')])/\Hs qv/\xf qv=[]/\1<=W/\(∀r∈qv,r.length<=W)/\6*qv.length*sx W qv.length < 100000:=by
 obtain⟨r,P1,e1,r0,r1⟩:=my P 8 (by decide) (by decide)
 have hm:∃m W:Nat,atI [D.tup [.int 3,.int 4],.tup [.int 4,.int 3],.tup [.int 5,.int 3],.tup [.int 5,.int 2],.tup [.int 4,.int 4],.tup [.int 3,.int 6],.tup [.int 2,.int 6],.tup [.int 8,.int 2]] r=some (.tup [.int (m:Int),.int (W:Int)])/\1<=m/\m<=8/\1<=W/\W<=6/\∀k,k<=m->6*k*sx W k < 100000:=by
  have:r=0∨r=1∨r=2∨r=3∨r=4∨r=5∨r=6∨r=7:=by omega
  rcases this with rfl | rfl | rfl | rfl | rfl | rfl | rfl | rfl
  ·exact⟨3,4,rfl,by decide,by decide,by decide,by decide,by decide +kernel⟩
  ·exact⟨4,3,rfl,by decide,by decide,by decide,by decide,by decide +kernel⟩
  ·exact⟨5,3,rfl,by decide,by decide,by decide,by decide,by decide +kernel⟩
  ·exact⟨5,2,rfl,by decide,by decide,by decide,by decide,by decide +kernel⟩
  ·exact⟨4,4,rfl,by decide,by decide,by decide,by decide,by decide +kernel⟩
  ·exact⟨3,6,rfl,by decide,by decide,by decide,by decide,by decide +kernel⟩
  ·exact⟨2,6,rfl,by decide,by decide,by decide,by decide,by decide +kernel⟩
  ·exact⟨8,2,rfl,by decide,by decide,by decide,by decide,by decide +kernel⟩
 obtain⟨m,W,em,m1,m2,w1,w2,hk⟩:=hm;obtain⟨qv,P2,e2,h,hop,hle,hw⟩:=open_spec P1 (m:Int) (W:Int) (by omega) (by omega) (by omega) (by omega)
 refine⟨qv,P2,W,?_,h,hop,w1,fun r hr=>by have:=hw r hr;omega,hk _ (by omega)⟩
 simp[f__law_wide,afr,e1,em,e2]
theorem aid(P:Int×Int){qv:LL9}(h:Hs qv):∃(ws:List Int) (P':Int×Int),ql [.own (some 0) (pen P),.val (hD qv),.val (.int 3)]=some (.ok (.v (.tup (ws.map D.int))),[.own (some 0) (pen P'),.val (hD qv),.val (.int 3)])/\ws.length=qv.length/\∀w∈ws,0<=w/\w<=3:=by
 have comp:=p6 (b:=cu 0) (mc:=ret true) (me:=yh) (fun j ys ρ=>∃ns P o,ρ=[o,.own (some 1) (pen P),.val (.int 3)]/\ys=ns.map D.int/\ns.length=j/\∀w∈ns,0<=w/\w<=3)
  (l:=hDs qv) (ys:=[]) (ρ:=[.emp,.own (some 1) (pen P),.val (.int 3)]) 0 ⟨[],P,.emp,rfl,rfl,rfl,by simp⟩ ?_
 ·obtain⟨ys,ρ',e6,ns,P6,o,rfl,rfl,hn,hx⟩:=comp;rw[kh,bW] at hn;have hm:=h.most;have hc:(ns.map D.int).length<=capS:=by rw[aD,hn];exact bh (by omega)
  refine⟨ns,P6,?_,hn,hx⟩;generalize ns.map D.int=nn at *;simp only[hD] at *;simp[ql,ab9,e6,hc]
 ·rintro j d ys ρ hd ⟨ns,P6,o,rfl,rfl,hn,hx⟩
  obtain⟨r7,P7,e7,r7a,r7b⟩:=my P6 6 (by decide) (by decide)
  have hv:∃v:Int,(if r7 - 2 > 0 then r7 - 2 else 0)=v/\0<=v/\v<=3:=⟨_,rfl,by split <;> omega,by split <;> omega⟩
  obtain⟨v,hv,v0,v1⟩:=hv;refine⟨[.val d,.own (some 1) (pen P6),.val (.int 3)],_,true,by simp,rfl,.inr ⟨rfl,.int v,[.val d,.own (some 1) (pen P7),.val (.int 3)],by rw[<-hv];simp[yh,e7],ns++[v],P7,_,rfl,by simp,by simp[hn],fun w hw =>?_⟩⟩
  rcases cN.mp hw with q | q
  ·exact hx w q
  ·rw[cR] at q;omega
theorem arz(me:M D)(hme:∀ρ,me ρ=some (.ok (.int 0),ρ))(l:List D):compD (cu 0) (ret true) me l [] [.emp]=some (.ok ((aG l.length (0:Int)).map D.int),aar .emp l::[]):=by
 rw[vo (f:=fun _=>.int 0)]
 ·rw[dD,jF,List.map_const']
 ·intro d _;exact hme _
theorem ax1{r:List Int}{a:Int}(h0:0<=a)(h1:a < (r.length:Int)):Arr [r] [a]:=⟨rfl,fun i x q g1 g2=>by
 cases i with
 | zero =>
  simp at g1 g2;subst g1 g2;exact⟨h0,h1⟩
 | succ i=>simp at g1⟩
theorem asx{r:List Int}{x:Int}(hx:x∈r)(h0:x < 0):xf [r]=[]:=ali fun a a0 a1=>by
 have:a=0:=by simp at a1;omega
 subst this;exact⟨x,.step .base (by decide) hx,h0⟩
def Thi(d:D):Prop:=okD 30 d=true∨∃l,d=.dct l
theorem azv{d:D}(hd:Thi d)(gs:List Int):∃b:Bool,gNeT d (.tup (gs.map D.int))=some (.v (.bl b))/\(b=true->d≠.tup (gs.map D.int)):=by
 rcases hd with hd | ⟨l,rfl⟩
 ·have hg:okD 30 (.tup (gs.map D.int))=true:=aad 29 gs
  by_cases e:d=.tup (gs.map D.int)
  ·subst e;exact⟨false,aty hg true,fun z=>by cases z⟩
  ·cases hdd:d with
   | dct l=>exact⟨true,rfl,fun _=>by intro z;cases z⟩
   | _ =>
    refine⟨!eqD d (.tup (gs.map D.int)),?_,fun _=>by rw[<-hdd];exact e⟩
    have e1:gEq true d (.tup (gs.map D.int))=some (.v (.bl (!eqD d (.tup (gs.map D.int))))):=by
     unfold gEq;rw[hd,hg];rfl
    rw[hdd] at e1 ⊢
    exact e1
 ·exact⟨true,rfl,fun _=>by intro z;cases z⟩
theorem awl(P:Int×Int):∃d P',f__law_odd [.own (some 0) (pen P)]=some (.ok (.v d),[.own (some 0) (pen P')])/\Thi d:=by
 obtain⟨r,P',e,h0,h1⟩:=my P 16 (by decide) (by decide)
 have big:fPow 10 30=some 1000000000000000000000000000000:=by decide +kernel
 have hT:∃d,atI [.non,.bl true,.bl false,.int (-1),.str "1", .str "", .tup [],.lst [],.tup [.int 0],.lst [.int 0],.dct [(jU "a", .int 1)],.tup [.int 0,.int 1],.int 1000000000000000000000000000000,.tup [.tup [.int 0]],.str "ab", .tup [.tup [.int (-1)],.tup [.int 0,.int 1]]] r=some d/\Thi d:=by
  have:r=0∨r=1∨r=2∨r=3∨r=4∨r=5∨r=6∨r=7∨r=8∨r=9∨r=10∨r=11∨r=12∨r=13∨r=14∨r=15:=by omega
  rcases this with rfl | rfl | rfl | rfl | rfl | rfl | rfl | rfl | rfl | rfl | rfl | rfl | rfl | rfl | rfl | rfl
  ·exact⟨_,rfl,.inl rfl⟩
  ·exact⟨_,rfl,.inl rfl⟩
  ·exact⟨_,rfl,.inl rfl⟩
  ·exact⟨_,rfl,.inl rfl⟩
  ·exact⟨_,rfl,.inl (by kernel_rfl)⟩
  ·exact⟨_,rfl,.inl (by kernel_rfl)⟩
  ·exact⟨_,rfl,.inl rfl⟩
  ·exact⟨_,rfl,.inl rfl⟩
  ·exact⟨_,rfl,.inl rfl⟩
  ·exact⟨_,rfl,.inl rfl⟩
  ·exact⟨_,rfl,.inr ⟨_,rfl⟩⟩
  ·exact⟨_,rfl,.inl rfl⟩
  ·exact⟨_,rfl,.inl rfl⟩
  ·exact⟨_,rfl,.inl rfl⟩
  ·exact⟨_,rfl,.inl (by kernel_rfl)⟩
  ·exact⟨_,rfl,.inl rfl⟩
 obtain⟨T,eT,t⟩:=hT;have hc:(16:Nat)<=capS:=by decide
 exact⟨T,P',by simp[f__law_odd,agu,e,big,eT,hc],t⟩
theorem arf(P:Int×Int){gs:List Int}(g1:1<=gs.length)(g2:gs.length<=10):∃d P',f__law_bent [.own (some 0) (pen P),.val (.tup (gs.map D.int))]=some (.ok (.v d),[.own (some 0) (pen P'),.val (.tup (gs.map D.int))])/\Thi d:=by
 obtain⟨a,P1,e1,a0,a1⟩:=my P (gs.length:Int) (by omega) (by omega)
 obtain⟨r,P2,e2,r0,r1⟩:=my P1 8 (by decide) (by decide)
 obtain⟨q,P3,e3,q0,q1⟩:=my P2 6 (by decide) (by decide)
 have ea:=jt (ns:=gs) a0 a1;generalize gs.getD a.toNat 0=v at *;have hT:∃o,atI [.int (v+1),.int (v - 1),.bl true,.non,.int (-1),.int (v+(gs.length:Int)),.int 0,.str "0"] r=some o/\okD 29 o=true:=by
  have:r=0∨r=1∨r=2∨r=3∨r=4∨r=5∨r=6∨r=7:=by omega
  rcases this with rfl | rfl | rfl | rfl | rfl | rfl | rfl | rfl
  ·exact⟨_,rfl,rfl⟩
  ·exact⟨_,rfl,rfl⟩
  ·exact⟨_,rfl,rfl⟩
  ·exact⟨_,rfl,rfl⟩
  ·exact⟨_,rfl,rfl⟩
  ·exact⟨_,rfl,rfl⟩
  ·exact⟨_,rfl,rfl⟩
  ·exact⟨_,rfl,by kernel_rfl⟩
 obtain⟨o,eo,ho⟩:=hT;obtain⟨m1,c1,l1⟩:=abm gs none (some a);obtain⟨m2,c2,l2⟩:=abm gs (some (a+1)) none;obtain⟨m3,c3,l3⟩:=abm gs (some 1) none;have k1:(m1.map D.int).length+1<=capS:=by rw[aD];exact bh (by omega)
 have k2:(m1.map D.int).length+1+(m2.map D.int).length<=capS:=by rw[aD,aD];exact bh (by omega)
 have k3:gs.length+1<=capS:=bh (by omega)
 have k4:gs.length<=capS:=bh (by omega)
 have hQ:∃d,atI [.tup (m1.map D.int++[o]++m2.map D.int),.tup (gs.map D.int++[.int 0]),.tup (m3.map D.int),.lst (gs.map D.int),.tup (gs.map D.int).reverse,.tup [.tup (gs.map D.int)]] q=some d/\Thi d:=by
  have al:∀ms:List Int,(ms.map D.int).all (okD 29)=true:=fun ms=>aad 29 ms
  have:q=0∨q=1∨q=2∨q=3∨q=4∨q=5:=by omega
  rcases this with rfl | rfl | rfl | rfl | rfl | rfl
  ·refine⟨_,rfl,.inl ?_⟩;show(m1.map D.int++[o]++m2.map D.int).all (okD 29)=true;rw[pW,pW,al,al,jQ,ho];rfl
  ·refine⟨_,rfl,.inl ?_⟩;show(gs.map D.int++[D.int 0]).all (okD 29)=true;rw[pW,al];rfl
  ·exact⟨_,rfl,.inl (aad 29 m3)⟩
  ·exact⟨_,rfl,.inl (aad 29 gs)⟩
  ·refine⟨_,rfl,.inl ?_⟩;show(gs.map D.int).reverse.all (okD 29)=true;rw[List.all_reverse,al]
  ·refine⟨_,rfl,.inl ?_⟩;show(D.tup (gs.map D.int)::[]).all (okD 29)=true;rw[jQ,show okD 29 (.tup (gs.map D.int))=true from aad 28 gs]
   rfl
 obtain⟨d,ed,hd⟩:=hQ;refine⟨d,P3,?_,hd⟩;have c8:8<=capS:=bh (by decide)
 have c6:6<=capS:=bh (by decide)
 have lg:(gs.map D.int).length=gs.length:=aD ..
 generalize m1.map D.int=n1 at *;generalize m2.map D.int=n2 at *;generalize m3.map D.int=n3 at *;generalize gs.map D.int=G at *;simp only[lM,mD,dD] at ed;simp[f__law_bent,afw,lg,e1,ea,c8,e2,eo,c1,c2,c3,k1,k2,k3,k4,c6,e3,ed]
section
variable{qv:LL9}(h:Hs qv){as:List Int}(ha:Arr qv as){ws:List Int}(hop:xf qv=[])(hW:Wk qv.length ws){S:List Int}(lS:Lg qv as (wf ws) S)(sS:Stb qv as (wf ws) S)
include h ha hop hW lS sS
theorem apk{d:D}(hd:Thi d)(a0 a2 a3 a8:Sl):ajj [a0,.val d,a2,a3,.val (hD qv),.val (.tup (as.map D.int)),.val (.tup (ws.map D.int)),.val (.tup ((tal qv.length S).map D.int)),a8]=some (.nx,[a0,.val d,a2,a3,.val (hD qv),.val (.tup (as.map D.int)),.val (.tup (ws.map D.int)),.val (.tup ((tal qv.length S).map D.int)),a8]):=by
 have e1:=air h ha hop hW lS sS d;obtain⟨b,e2,h2⟩:=ahf h ha hop hW lS sS d;obtain⟨c,e3,h3⟩:=azv hd (tal qv.length S);generalize (tal qv.length S).map D.int=G at *;generalize as.map D.int=la at *;generalize ws.map D.int=lw at *;generalize hD qv=hh at *;cases c with
 | false=>simp[ajj,e1,e3]
 | true =>
  have:b=false:=by
   cases b with
   | false=>rfl
   | true=>exact absurd (h2.mp rfl) (h3 rfl)
  rw[this] at e2;simp[ajj,e1,e3,e2]
theorem ag0(a0 a2 a3 a8:Sl):∀(ds:List D) (o:Sl),(∀d∈ds,Thi d)->∃o',forD (cu 1) ajj ds [a0,o,a2,a3,.val (hD qv),.val (.tup (as.map D.int)),.val (.tup (ws.map D.int)),.val (.tup ((tal qv.length S).map D.int)),a8]=some (.nx,[a0,o',a2,a3,.val (hD qv),.val (.tup (as.map D.int)),.val (.tup (ws.map D.int)),.val (.tup ((tal qv.length S).map D.int)),a8])
 | [],o,_=>⟨o,rfl⟩
 | d::ds,o,hd=>by
  have e:=apk h ha hop hW lS sS (hd d (aR ..)) a0 a2 a3 a8;obtain⟨o',e2⟩:=ag0 a0 a2 a3 a8 ds (.val d) fun x hx=>hd x (aQ _ hx)
  exact⟨o',by rw[xq];simp[e,e2]⟩
end
theorem a6e(P:Int×Int){gs:List Int}(g1:1<=gs.length)(g2:gs.length<=10):∃(ds:List D) (P':Int×Int) (o:Sl),compD (cu 0) (ret true) amg (jg 0 4) [] [.emp,.own (some 1) (pen P),.val (.tup (gs.map D.int))]=some (.ok ds,[o,.own (some 1) (pen P'),.val (.tup (gs.map D.int))])/\ds.length=4/\∀d∈ds,Thi d:=by
 have comp:=p6 (b:=cu 0) (mc:=ret true) (me:=amg) (fun j ys ρ=>∃P o,ρ=[o,.own (some 1) (pen P),.val (.tup (gs.map D.int))]/\ys.length=j/\∀d∈ys,Thi d)
  (l:=jg 0 4) (ys:=[]) (ρ:=[.emp,.own (some 1) (pen P),.val (.tup (gs.map D.int))]) 0 ⟨P,.emp,rfl,rfl,by simp⟩ ?_
 ·obtain⟨ys,ρ',e6,P6,o,rfl,hn,hd⟩:=comp;exact⟨ys,P6,o,e6,hn,hd⟩
 ·rintro j d ys ρ hd ⟨P6,o,rfl,hn,hy⟩
  obtain⟨b,P7,e7,hb⟩:=arf P6 g1 g2;generalize gs.map D.int=G at *;refine⟨_,_,true,rfl,rfl,.inr ⟨rfl,b,[.val d,.own (some 1) (pen P7),.val (.tup G)],by simp[amg,e7],P7,_,rfl,by simp[hn],fun x hx =>?_⟩⟩
  rcases cN.mp hx with z | z
  ·exact hy x z
  ·rw[cR] at z;rw[z];exact hb
theorem a4x(S0:D)(n:Int)(a1 a3 a4 a5 a6 a7 a8:Sl):∃b1 b3 b4 b5 b6 b7 b8,l3_law [.val S0,a1,.val (.int n),a3,a4,a5,a6,a7,a8]=some (.nx,[.val S0,b1,.val (.int n),b3,b4,b5,b6,b7,b8]):=by
 obtain⟨P,e0⟩:=aso n;obtain⟨qv,P1,W,e1,h,hop,hW1,hw,hB⟩:=aok P;have hm:=h.most;have h1:=h.one;obtain⟨as,P2,e2,ha⟩:=alf P1 h;obtain⟨ws,P3,e3,hwl,hw0⟩:=aid P2 h;have hWk:Wk qv.length ws:=⟨hwl,fun w hw'=>by have:=hw0 w hw';omega⟩
 obtain⟨S,X,Y,lS,sS,e4⟩:=afe h ha (ws:=ws) hop hW1 hw hwl hw0 (nT (mY _ (mY _ (by decide))) hB)
 obtain⟨b,e5,h5⟩:=ahf h ha hop hWk lS sS (.tup ((tal qv.length S).map D.int));have:b=true:=h5.mpr rfl;subst this;have tl:=aan qv.length S;obtain⟨ms,e6,ml,_⟩:=apo h ha (vs:=tal qv.length S) tl fun x hx=>by
  unfold tal at hx;obtain⟨i,_,rfl⟩:=cO.mp hx;omega
 have e7:=arz aqr (fun ρ=>by simp[aqr]) (hDs qv)
 rw[kh] at e7;obtain⟨d,P4,e8,hd⟩:=awl P3;obtain⟨ds,P5,o,e9,dl,hds⟩:=a6e P4 (gs:=tal qv.length S) (by omega) (by omega)
 obtain⟨o',e10⟩:=ag0 h ha hop hWk lS sS (.val S0) (.val (.int n)) (.own none (pen P5)) (.own none [.tup (ms.map D.int),.tup ((aG qv.length (0:Int)).map D.int),.tup (ws.map D.int),d]) (.tup (ms.map D.int)::.tup ((aG qv.length (0:Int)).map D.int)::.tup (ws.map D.int)::d::ds) a1 (fun x hx=>by
  simp only[aV] at hx;rcases hx with rfl | rfl | rfl | rfl | hx
  ·exact .inl (aad 29 _)
  ·exact .inl (aad 29 _)
  ·exact .inl (aad 29 _)
  ·exact hd
  ·exact hds x hx)
 have c4:4<=capS:=bh (by decide)
 have c8:4+ds.length<=capS:=by rw[dl];exact bh (by decide)
 have cd:ds.length<=capS:=by omega
 have cz:((aG qv.length (0:Int)).map D.int).length<=capS:=by rw[aD,cU];exact bh (by omega)
 have i2:∀x y z:D,atI [x,y,z] 2=some z:=fun _ _ _=>rfl
 refine⟨o',.own none (pen P5),.val (hD qv),.val (.tup (as.map D.int)),.val (.tup (ws.map D.int)),.val (.tup ((tal qv.length S).map D.int)),.own none [.tup (ms.map D.int),.tup ((aG qv.length (0:Int)).map D.int),.tup (ws.map D.int),d],?_⟩
 clear hds h5 lS sS
 generalize (aG qv.length (0:Int)).map D.int=zz at *;generalize (tal qv.length S).map D.int=G at *;generalize (gts qv as S).map D.int=g1 at *;generalize (go qv as S).map D.int=g2 at *;generalize ms.map D.int=mm at *;generalize as.map D.int=la at *;generalize ws.map D.int=lw at *;simp only[hD] at *;generalize hDs qv=hh at *;simp[l3_law,e0,e1,e2,e3,e4,i2,e5,e6,e7,cz,e8,c4,e9,cd,c8,e10]
theorem az9(S0:D):∀(ns:List Int) (q a1 a3 a4 a5 a6 a7 a8:Sl),∃ρ,forD (cu 2) l3_law (ns.map D.int) [.val S0,a1,q,a3,a4,a5,a6,a7,a8]=some (.nx,.val S0::ρ)
 | [],q,a1,a3,a4,a5,a6,a7,a8=>⟨_,rfl⟩
 | n::r,q,a1,a3,a4,a5,a6,a7,a8=>by
  obtain⟨b1,b3,b4,b5,b6,b7,b8,z⟩:=a4x S0 n a1 a3 a4 a5 a6 a7 a8;obtain⟨ρ,z2⟩:=az9 S0 r (.val (.int n)) b1 b3 b4 b5 b6 b7 b8;exact⟨ρ,by rw[aX,xq];simp[z,z2]⟩
theorem aiq{a w:Int}(a0:0<=a)(a1:a < 2)(w0:0<=w)(w1:w<=1)(d:D):m5 [.val (.tup [.tup [.int (-1),.int 0]]),.val (.tup [.int a]),.val (.tup [.int w]),.val d]=some (.ok (.v (.bl true)),[.val (.tup [.tup [.int (-1),.int 0]]),.val (.tup [.int a]),.val (.tup [.int w]),.val d]):=by
 have h:Hs [[-1,0]]:=⟨by decide,by decide,by decide⟩
 have hop:xf [[-1,0]]=[]:=asx (x := -1) (by decide) (by decide)
 have ha:Arr [[-1,0]] [a]:=ax1 a0 a1;have hW:Wk [[-1,0]].length [w]:=⟨rfl,fun x hx=>by rw[cR] at hx;omega⟩
 obtain⟨S,X,Y,lS,sS,_⟩:=afe h ha (ws:=[w]) (W:=2) (b:=1) hop (by decide) (by decide) rfl (fun x hx=>by rw[cR] at hx;omega) (by decide)
 exact air h ha hop hW lS sS d
theorem a0d(d:D)(a0 a2 a3 a4 a5 a6 a7 a8:Sl):al4 [a0,.val d,a2,a3,a4,a5,a6,a7,a8]=some (.nx,[a0,.val d,a2,a3,a4,a5,a6,a7,a8]):=by
 have e1:=aiq (a:=0) (w:=1) (by decide) (by decide) (by decide) (by decide) d
 have e2:=aiq (a:=1) (w:=0) (by decide) (by decide) (by decide) (by decide) d
 simp[al4,e1,e2]
theorem a0a(a0 a2 a3 a4 a5 a6 a7 a8:Sl):∀(ds:List D) (o:Sl),∃o',forD (cu 1) al4 ds [a0,o,a2,a3,a4,a5,a6,a7,a8]=some (.nx,[a0,o',a2,a3,a4,a5,a6,a7,a8])
 | [],o=>⟨o,rfl⟩
 | d::ds,o=>by
  have e:=a0d d a0 a2 a3 a4 a5 a6 a7 a8;obtain⟨o',e2⟩:=a0a a0 a2 a3 a4 a5 a6 a7 a8 ds (.val d);exact⟨o',by rw[xq];simp[e,e2]⟩
theorem as9:alg aqk:=fun ns hn=>by
 obtain⟨n0,e0⟩:=aq2 ns 0 (by decide)
 obtain⟨ms,em,hm⟩:=abm ns (some 1) (some 3);have hc:1+ms.length<=capS:=bh (by omega)
 have c7:7<=capS:=bh (by decide)
 have c1:1<=capS:=bh (by decide)
 obtain⟨o',e1⟩:=a0a (.val (.kst (ns.map D.int))) .emp .emp .emp .emp .emp .emp .emp [.tup [.int 0],.tup [.int 1],.tup [.int 2],.tup [.bl false],.lst [.int 0],.non,.tup [.int 0,.int 0]] .emp;obtain⟨ρ,q⟩:=az9 (.kst (ns.map D.int)) (n0::ms) .emp o' .emp .emp .emp .emp .emp .emp;simp only[aX] at q;simp[aqk,a0p,c7,c1,e1,e0,em,hc,q]
end My
set_option maxHeartbeats 0
namespace My
open PySem L2 Mn Dn
def top(i:Nat):Stmt:=PySem.Challenge.pw_turnarrows_k20_leavings_by_anybody.main.body.getD i (.Pass ⟨0,0,0,0⟩)
abbrev wg:Stmt:=top 6
theorem ake:FnScope ["thing"] ["thing"] (ak wg):=mkSc rfl rfl rfl rfl (by decide +kernel)
abbrev jx:Stmt:=top 7
theorem acy:FnScope ["thing","least","most"] ["thing","least","most"] (ak jx):=mkSc rfl rfl rfl rfl (by decide +kernel)
abbrev jy:Stmt:=top 8
theorem acz:FnScope ["thing","least","most"] ["thing","least","most"] (ak jy):=mkSc rfl rfl rfl rfl (by decide +kernel)
abbrev agn:Stmt:=top 10
theorem ae3:FnScope ["house","staying","many"] ["house"] (ak agn):=mkSc rfl rfl rfl rfl (by decide +kernel)
abbrev ju:Stmt:=top 11
theorem yr:FnScope ["house","rooms"] ["house"] (ak ju):=mkSc rfl rfl rfl rfl (by decide +kernel)
abbrev t7:Stmt:=top 13
theorem aio:FnScope ["house","thing"] ["house","thing"] (ak t7):=mkSc rfl rfl rfl rfl (by decide +kernel)
abbrev jo:Stmt:=top 14
theorem acd:FnScope ["house","thing"] ["house","thing"] (ak jo):=mkSc rfl rfl rfl rfl (by decide +kernel)
abbrev tu:Stmt:=top 15
theorem aim:FnScope ["house","arrows","turns"] ["house","arrows","turns"] (ak tu):=mkSc rfl rfl rfl rfl (by decide +kernel)
abbrev t6:Stmt:=top 16
theorem ain:FnScope ["house","arrows"] ["house","arrows"] (ak t6):=mkSc rfl rfl rfl rfl (by decide +kernel)
abbrev qd:Stmt:=top 17
theorem qj:FnScope ["last","rooms","staying","many"] ["last","rooms"] (ak qd):=mkSc rfl rfl rfl rfl (by decide +kernel)
abbrev qw:Stmt:=top 20
theorem ahb:FnScope ["house","thing","most"] ["house","thing","most"] (ak qw):=mkSc rfl rfl rfl rfl (by decide +kernel)
abbrev jh:Stmt:=top 21
theorem ab2:FnScope ["house","thing"] ["house","thing"] (ak jh):=mkSc rfl rfl rfl rfl (by decide +kernel)
abbrev z9:Stmt:=top 22
theorem abq:FnScope ["doors_many","arrow","leavings","uses","door","behind"] ["doors_many","arrow","leavings"] (ak z9):=mkSc rfl rfl rfl rfl (by decide +kernel)
abbrev p8:Stmt:=top 23
theorem qi:FnScope ["house","arrows","leavings","told","doors","arrow","many"] ["house","arrows","leavings"] (ak p8):=mkSc rfl rfl rfl rfl (by decide +kernel)
abbrev jw:Stmt:=top 24
theorem acw:FnScope ["house","arrows","walkers"] ["house","arrows","walkers"] (ak jw):=mkSc rfl rfl rfl rfl (by decide +kernel)
abbrev qb:Stmt:=top 25
theorem agc:FnScope ["house","thing"] ["house","thing"] (ak qb):=mkSc rfl rfl rfl rfl (by decide +kernel)
abbrev aab:Stmt:=top 26
theorem v9:FnScope ["house","uses","come","doors","times","door","many"] ["house","uses"] (ak aab):=mkSc rfl rfl rfl rfl (by decide +kernel)
abbrev aaa:Stmt:=top 27
theorem adq:FnScope ["house","arrows","walkers","thing","come","last"] ["house","arrows","walkers","thing"] (ak aaa):=mkSc rfl rfl rfl rfl (by decide +kernel)
abbrev um:Stmt:=top 29
theorem aip:FnScope ["script","k"] ["script","k"] (ak um):=mkSc rfl rfl rfl rfl (by decide +kernel)
abbrev wj:Stmt:=top 30
theorem ae5:FnScope ["cell","left"] ["cell"] (ak wj):=mkSc rfl rfl rfl rfl (by decide +kernel)
abbrev uh:Stmt:=top 31
theorem vf:FnScope ["pen","many","left","found","stir"] ["pen","many"] (ak uh):=mkSc rfl rfl rfl rfl (by decide +kernel)
abbrev qx:Stmt:=top 32
theorem ahc:FnScope ["thing"] ["thing"] (ak qx):=mkSc rfl rfl rfl rfl (by decide +kernel)
abbrev wk:Stmt:=top 33
theorem ae6:FnScope ["pen","some"] ["pen"] (ak wk):=mkSc rfl rfl rfl rfl (by decide +kernel)
abbrev qz:Stmt:=top 34
theorem p7:FnScope ["pen","most","doors","many","gates","house","room","wide"] ["pen","most","doors"] (ak qz):=mkSc rfl rfl rfl rfl (by decide +kernel)
abbrev nu:Stmt:=top 35
theorem ou:FnScope ["house","room","found","at"] ["house","room"] (ak nu):=mkSc rfl rfl rfl rfl (by decide +kernel)
abbrev ud:Stmt:=top 36
theorem yu:FnScope ["pen","most","doors","house","room","at"] ["pen","most","doors"] (ak ud):=mkSc rfl rfl rfl rfl (by decide +kernel)
abbrev rm:Stmt:=top 37
theorem ahd:FnScope ["pen","house"] ["pen","house"] (ak rm):=mkSc rfl rfl rfl rfl (by decide +kernel)
abbrev nq:Stmt:=top 38
theorem ae4:FnScope ["pen","house","most"] ["pen","house","most"] (ak nq):=mkSc rfl rfl rfl rfl (by decide +kernel)
abbrev uf:Stmt:=top 39
theorem aeg:FnScope ["house","some","there","gates","room","door"] ["house","some","there","gates","room"] (ak uf):=mkSc rfl rfl rfl rfl (by decide +kernel)
abbrev uc:Stmt:=top 40
theorem yt:FnScope ["house","some","there","gates","gone","room"] ["house","some","there"] (ak uc):=mkSc rfl rfl rfl rfl (by decide +kernel)
abbrev qe:Stmt:=top 41
theorem agd:FnScope ["thing","many"] ["thing","many"] (ak qe):=mkSc rfl rfl rfl rfl (by decide +kernel)
abbrev t8:Stmt:=top 42
theorem aa6:FnScope ["pen","most","doors"] ["pen"] (ak t8):=mkSc rfl rfl rfl rfl (by decide +kernel)
abbrev ug:Stmt:=top 43
theorem ph:FnScope ["house","some","there","gone","left","at","room","k","door","ahead"] ["house","some","there","gone"] (ak ug):=mkSc rfl rfl rfl rfl (by decide +kernel)
abbrev jd:Stmt:=top 44
theorem ie:FnScope ["house","some","gone","start","place","pace","room"] ["house","some","gone"] (ak jd):=mkSc rfl rfl rfl rfl (by decide +kernel)
abbrev wu:Stmt:=top 45
theorem akf:FnScope ["house","some","there","thing"] ["house","some","there","thing"] (ak wu):=mkSc rfl rfl rfl rfl (by decide +kernel)
abbrev ue:Stmt:=top 46
theorem yw:FnScope ["house","some","gone","way","room","ring"] ["house","some","gone"] (ak ue):=mkSc rfl rfl rfl rfl (by decide +kernel)
abbrev uq:Stmt:=top 47
theorem yx:FnScope ["pen","gone","at","odd","rows"] ["pen","gone"] (ak uq):=mkSc rfl rfl rfl rfl (by decide +kernel)
abbrev qy:Stmt:=top 48
theorem ac0:FnScope ["house","some","there","thing","found"] ["house","some","there","thing"] (ak qy):=mkSc rfl rfl rfl rfl (by decide +kernel)
abbrev ahe:Stmt:=top 49
theorem acx:FnScope ["script","thing","cell","pen","house","some","there","gone","things"] ["script"] (ak ahe):=mkSc rfl rfl rfl rfl (by decide +kernel)
theorem lnS{k:Nat}{us:List Value}(h:us.length=k+1):∃a r,us=a::r/\r.length=k:=by
 cases us with
 | nil=>cases h
 | cons a r=>exact⟨a,r,rfl,Nat.succ.inj h⟩
theorem ln1{us:List Value}(h:us.length=1):∃a0,us=[a0]:=by
 obtain⟨a,r,rfl,h'⟩:=lnS h;cases pH h';exact⟨a,rfl⟩
theorem ln2{us:List Value}(h:us.length=2):∃a0 a1,us=[a0,a1]:=by
 obtain⟨a,r,rfl,h'⟩:=lnS h;obtain⟨_,rfl⟩:=ln1 h';exact⟨_,_,rfl⟩
theorem ln3{us:List Value}(h:us.length=3):∃a0 a1 a2,us=[a0,a1,a2]:=by
 obtain⟨a,r,rfl,h'⟩:=lnS h;obtain⟨_,_,rfl⟩:=ln2 h';exact⟨_,_,_,rfl⟩
theorem ln4{us:List Value}(h:us.length=4):∃a0 a1 a2 a3,us=[a0,a1,a2,a3]:=by
 obtain⟨a,r,rfl,h'⟩:=lnS h;obtain⟨_,_,_,rfl⟩:=ln3 h';exact⟨_,_,_,_,rfl⟩
theorem ln5{us:List Value}(h:us.length=5):∃a0 a1 a2 a3 a4,us=[a0,a1,a2,a3,a4]:=by
 obtain⟨a,r,rfl,h'⟩:=lnS h;obtain⟨_,_,_,_,rfl⟩:=ln4 h';exact⟨_,_,_,_,_,rfl⟩
structure Txt (K:Fg9) (mg:Str->Option Value):Prop where
 c_MOST_WALKERS:∃t,mg "MOST_WALKERS" = some (.int 100 t)
 z_all:mg "all" = none
 z_bool:mg "bool" = none
 z_divmod:mg "divmod" = none
 z_enumerate:mg "enumerate" = none
 z_int:mg "int" = none
 z_isinstance:mg "isinstance" = none
 z_len:mg "len" = none
 z_list:mg "list" = none
 z_max:mg "max" = none
 z_min:mg "min" = none
 z_range:mg "range" = none
 z_set:mg "set" = none
 z_sorted:mg "sorted" = none
 z_tuple:mg "tuple" = none
 z_zip:mg "zip" = none
section
variable(P:bI)(w:World)(K:Fg9)(mg:Str->Option Value)(base:Heap)
abbrev Dd0:Prop:=Dfn P w K mg base "is_whole" ["thing"] 1 (spOf K 1 wy)
abbrev Dd3:Prop:=Dfn P w K mg base "trap" ["house"] 1 (spOf K 1 ajr)
abbrev Dd2:Prop:=Dfn P w K mg base "is_tuple_within" ["thing","least","most"] 1 (spOf K 3 di)
abbrev Dd1:Prop:=Dfn P w K mg base "is_whole_within" ["thing","least","most"] 2 (spOf K 3 jz)
abbrev Dd5:Prop:=Dfn P w K mg base "is_arrows" ["house","thing"] 3 (spOf K 2 xx)
abbrev Dd10:Prop:=Dfn P w K mg base "is_walkers" ["house","thing","most"] 3 (spOf K 3 vh)
abbrev Dd12:Prop:=Dfn P w K mg base "uses_of" ["doors_many","arrow","leavings"] 1 (spOf K 3 abd)
abbrev Dd6:Prop:=Dfn P w K mg base "refuse_no_arrows" ["house","thing"] 4 (spOf K 2 j9)
abbrev Dd11:Prop:=Dfn P w K mg base "refuse_no_walkers" ["house","thing"] 4 (spOf K 2 j6)
abbrev Dd14:Prop:=Dfn P w K mg base "refuse_no_crowd" ["house","arrows","walkers"] 5 (spOf K 3 mj)
abbrev Dd4:Prop:=Dfn P w K mg base "refuse_not_open" ["house"] 2 (spOf K 1 jj)
abbrev Dd15:Prop:=Dfn P w K mg base "is_leavings" ["house","thing"] 2 (spOf K 2 jr)
abbrev Dd13:Prop:=Dfn P w K mg base "uses_of_all" ["house","arrows","leavings"] 2 (spOf K 3 sr)
abbrev Dd16:Prop:=Dfn P w K mg base "come_by" ["house","uses"] 1 (spOf K 2 abe)
abbrev Dd7:Prop:=Dfn P w K mg base "turned_by" ["house","arrows","turns"] 1 (spOf K 3 xr)
abbrev Dd8:Prop:=Dfn P w K mg base "last_ways" ["house","arrows"] 1 (spOf K 2 xu)
abbrev Dd9:Prop:=Dfn P w K mg base "going_round" ["last","rooms"] 1 (spOf K 2 su)
abbrev Dd20:Prop:=Dfn P w K mg base "_law_draw" ["pen","many"] 1 (spOf K 2 f__law_draw)
abbrev Dd23:Prop:=Dfn P w K mg base "_law_house" ["pen","most","doors"] 2 (spOf K 3 f__law_house)
abbrev Dd24:Prop:=Dfn P w K mg base "_law_reached" ["house","room"] 1 (spOf K 2 qm)
abbrev Dd28:Prop:=Dfn P w K mg base "_law_left" ["house","some","there","gates","room"] 1 (spOf K 5 ux)
abbrev Dd21:Prop:=Dfn P w K mg base "_law_whole" ["thing"] 1 (spOf K 1 vm)
abbrev Dd25:Prop:=Dfn P w K mg base "_law_open" ["pen","most","doors"] 3 (spOf K 3 f__law_open)
abbrev Dd30:Prop:=Dfn P w K mg base "_law_counts" ["thing","many"] 2 (spOf K 2 m9)
abbrev Dd32:Prop:=Dfn P w K mg base "_law_fits" ["house","some","there","gone"] 1 (spOf K 4 yg)
abbrev Dd33:Prop:=Dfn P w K mg base "_law_round_nowhere" ["house","some","gone"] 1 (spOf K 3 je)
abbrev Dd17:Prop:=Dfn P w K mg base "is_rest" ["house","arrows","walkers","thing"] 6 (spOf K 4 pq)
abbrev Dd34:Prop:=Dfn P w K mg base "_law_due" ["house","some","there","thing"] 3 (spOf K 4 wz)
abbrev Dd37:Prop:=Dfn P w K mg base "_law_right" ["house","some","there","thing"] 7 (spOf K 4 m5)
abbrev Dd18:Prop:=Dfn P w K mg base "_law_cell" ["script","k"] 1 (spOf K 2 f__law_cell)
abbrev Dd19:Prop:=Dfn P w K mg base "_law_pen" ["cell"] 1 (spOf K 1 f__law_pen)
abbrev Dd31:Prop:=Dfn P w K mg base "_law_wide" ["pen"] 4 (spOf K 1 f__law_wide)
abbrev Dd26:Prop:=Dfn P w K mg base "_law_drawn" ["pen","house"] 2 (spOf K 2 f__law_drawn)
abbrev Dd27:Prop:=Dfn P w K mg base "_law_walkers" ["pen","house","most"] 2 (spOf K 3 ql)
abbrev Dd29:Prop:=Dfn P w K mg base "_law_rest" ["house","some","there"] 2 (spOf K 3 yc)
abbrev Dd35:Prop:=Dfn P w K mg base "_law_more" ["house","some","gone"] 1 (spOf K 3 ye)
abbrev Dd22:Prop:=Dfn P w K mg base "_law_odd" ["pen"] 2 (spOf K 1 f__law_odd)
abbrev Dd36:Prop:=Dfn P w K mg base "_law_bent" ["pen","gone"] 2 (spOf K 2 f__law_bent)
end
section
variable{P:bI}{w:World}{K:Fg9}{mg:Str->Option Value}{base:Heap}{f:Addr}{fd:fO}
theorem akn(F:Fun K "is_whole" "is_whole" wg f fd)(T:Txt K mg):FnOk P w K mg base CX0 1 f fd ["thing"] (spOf K 1 wy) :=
 jb F ake rfl rfl fun cdv A outer s H E hr =>
  (bc (gj (EV.toR (agw (af0 (t:=.int) (akj (by rfl) T.z_int amo) (by rfl) T.z_isinstance ni (dq (pv 0))) (agv (au4 (af0 (t:=.bool) (akj (by rfl) T.z_bool alb) (by rfl) T.z_isinstance ni (dq (pv 0)))))))))
theorem ac7(F:Fun K "is_whole_within" "is_whole_within" jx f fd)(T:Txt K mg)(d0:Dd0 P w K mg base):FnOk P w K mg base CX0 2 f fd ["thing","least","most"] (spOf K 3 jz) :=
 jb F acy rfl rfl fun cdv A outer s H E hr =>
  (bc (gj (EV.toR (agw (ER.toD (jc d0 (hr.mono (by decide)) (by rfl) (eg_n (pv 0) dw))) (agv (ame asv asv (az (pv 1)) (az (pv 0)) (az (pv 2))))))))
theorem ac8(F:Fun K "is_tuple_within" "is_tuple_within" jy f fd)(T:Txt K mg):FnOk P w K mg base CX0 1 f fd ["thing","least","most"] (spOf K 3 di) :=
 jb F acz rfl rfl fun cdv A outer s H E hr =>
  (bc (gj (EV.toR (agw (af0 (t:=.tuple) (akj (by rfl) T.z_tuple j7) (by rfl) T.z_isinstance ni (dq (pv 0))) (agv (ame asv asv (az (pv 1)) (ER.toD (bz jk (by rfl) T.z_len jl (ea_n (pv 0) cj))) (az (pv 2))))))))
theorem awj(F:Fun K "trap" "trap" agn f fd)(T:Txt K mg):FnOk P w K mg base CX0 1 f fd ["house"] (spOf K 1 ajr) :=
 jb F ae3 rfl rfl fun cdv A outer s H E hr =>
  (aq (gr (i:=1) ae3.nd rfl (lK rfl) (ajt rfl (by rfl) T.z_list (by rfl) T.z_range (aj (ER.toD (bz jk (by rfl) T.z_len jl (ea_n (pv 0) cj))) bw))) (aq (gr (i:=2) ae3.nd rfl (bH rfl) (cg gq (e2_v (ER.toD (bz jk (by rfl) T.z_len jl (ea_n (pv 1) cj))) (EV.toB ao)))) (aq (acu fuel cI (n8 als (e2_v (ER.toD (bz jk (by rfl) T.z_len jl (ea_n (pv 1) cj))) (dq (pv 2))) (kj _)) (aq (gr (i:=2) ae3.nd rfl (bH rfl) (bz jk (by rfl) T.z_len jl (ea_n (pv 1) cj))) (bc (gr (i:=1) ae3.nd rfl (lK rfl) (mq ["staying","house"] ["room","staying","house"] [none,some 1,some 0] rfl (za (az (pv 1))) (fun _ _ _=>(dg (i:=0) (show(["room","staying","house"]:List Str).Nodup by decide +kernel) rfl (bH rfl))) (fun _ _ _=>(af2 (vq (ER.toD (bz (agy rfl) (by rfl) T.z_all agz (ea_v (ER.toD (mq ["staying"] ["door","staying"] [none,some 1] rfl (za (ER.toD (jq (e2_n (pv 2) (dq (pv 0))) (fun _ _=>by rfl)))) (fun _ _ _=>(dg (i:=0) (show(["door","staying"]:List Str).Nodup by decide +kernel) rfl (bH rfl))) (fun _ _ _=>qu) (fun _ _ _=>(ER.toD (adk (apj hr.units) (e2_n (pv 0) (dq (pv 1))) (by with_unfolding_all rfl)))))) cj)))))) (fun _ _ _=>(az (pv 0)))))))) (bc (gj (gn km (by rfl) T.z_tuple j7 (ea_n (pv 1) cj)))))))
theorem ac5(F:Fun K "refuse_not_open" "refuse_not_open" ju f fd)(T:Txt K mg)(d3:Dd3 P w K mg base):FnOk P w K mg base CX0 2 f fd ["house"] (spOf K 1 jj) :=
 jb F yr rfl rfl fun cdv A outer s H E hr =>
  (aq (gr (i:=1) yr.nd rfl (bH rfl) (jc d3 (hr.mono (by decide)) (by rfl) (eg_n (pv 0) dw))) (bc (vy (n8 (alr hr.units) (e2_n (pv 1) (EV.toB (jn bw))) (kj _)) (bc ag5) j5)))
theorem aiy(F:Fun K "is_arrows" "is_arrows" t7 f fd)(T:Txt K mg)(d2:Dd2 P w K mg base)(d1:Dd1 P w K mg base):FnOk P w K mg base CX0 3 f fd ["house","thing"] (spOf K 2 xx) :=
 jb F aio rfl rfl fun cdv A outer s H E hr =>
  (aq (vy (zj (vq (ER.toD (jc d2 (hr.mono (by decide)) (by rfl) (eg_n (pv 1) (eg_v (ER.toD (bz jk (by rfl) T.z_len jl (ea_n (pv 0) cj))) (eg_v (ER.toD (bz jk (by rfl) T.z_len jl (ea_n (pv 0) cj))) dw))))))) (bc (gj (EV.toR aat))) j5) (bc (gj (bz (agy rfl) (by rfl) T.z_all agz (ea_v (ER.toD (mq [] ["arrow","doors"] [none,none] rfl (ahy (by rfl) T.z_zip (aj (az (pv 1)) (aj (az (pv 0)) bw))) (fun _ _ _=>(aag rfl (gk (dg (i:=0) (show(["arrow","doors"]:List Str).Nodup by decide +kernel) rfl (bH rfl)) (gk (dg (i:=1) (show(["arrow","doors"]:List Str).Nodup by decide +kernel) rfl (bH rfl)) ut)))) (fun _ _ _=>qu) (fun _ _ _=>(ER.toD (jc d1 (hr.mono (by decide)) (by rfl) (eg_n (pv 0) (eg_v ao (eg_v (ER.toD (cg m7 (e2_v (ER.toD (bz jk (by rfl) T.z_len jl (ea_n (pv 1) cj))) (EV.toB ao)))) dw)))))))) cj)))))
theorem acg(F:Fun K "refuse_no_arrows" "refuse_no_arrows" jo f fd)(T:Txt K mg)(d5:Dd5 P w K mg base):FnOk P w K mg base CX0 4 f fd ["house","thing"] (spOf K 2 j9) :=
 jb F acd rfl rfl fun cdv A outer s H E hr =>
  (bc (vy (zj (vq (ER.toD (jc d5 (hr.mono (by decide)) (by rfl) (eg_v (az (pv 0)) (eg_v (az (pv 1)) dw)))))) (bc ag5) j5))
theorem aiw(F:Fun K "turned_by" "turned_by" tu f fd)(T:Txt K mg):FnOk P w K mg base CX0 1 f fd ["house","arrows","turns"] (spOf K 3 xr) :=
 jb F aim rfl rfl fun cdv A outer s H E hr =>
  (bc (gj (gn km (by rfl) T.z_tuple j7 (ea_v (ER.toD (mq [] ["arrow","turn","doors"] [none,none,none] rfl (akz (by rfl) T.z_zip (aj (az (pv 1)) (aj (az (pv 2)) (aj (az (pv 0)) bw)))) (fun _ _ _=>(aag rfl (gk (dg (i:=0) (show(["arrow","turn","doors"]:List Str).Nodup by decide +kernel) rfl (bH rfl)) (gk (dg (i:=1) (show(["arrow","turn","doors"]:List Str).Nodup by decide +kernel) rfl (bH rfl)) (gk (dg (i:=2) (show(["arrow","turn","doors"]:List Str).Nodup by decide +kernel) rfl (bH rfl)) ut))))) (fun _ _ _=>qu) (fun _ _ _=>(ER.toD (cg xg (e2_v (ER.toD (cg gq (e2_n (pv 0) (dq (pv 1))))) (EV.toB (ER.toD (bz jk (by rfl) T.z_len jl (ea_n (pv 2) cj)))))))))) cj))))
theorem aix(F:Fun K "last_ways" "last_ways" t6 f fd)(T:Txt K mg):FnOk P w K mg base CX0 1 f fd ["house","arrows"] (spOf K 2 xu) :=
 jb F ain rfl rfl fun cdv A outer s H E hr =>
  (bc (gj (gn km (by rfl) T.z_tuple j7 (ea_v (ER.toD (mq [] ["arrow","doors"] [none,none] rfl (ahy (by rfl) T.z_zip (aj (az (pv 1)) (aj (az (pv 0)) bw))) (fun _ _ _=>(aag rfl (gk (dg (i:=0) (show(["arrow","doors"]:List Str).Nodup by decide +kernel) rfl (bH rfl)) (gk (dg (i:=1) (show(["arrow","doors"]:List Str).Nodup by decide +kernel) rfl (bH rfl)) ut)))) (fun _ _ _=>qu) (fun _ _ _=>(ER.toD (jq (e2_n (pv 1) (EV.toB (ER.toD (cg m7 (e2_n (pv 0) (EV.toB ao)))))) (fun _ _=>by rfl)))))) cj))))
theorem agg(F:Fun K "going_round" "going_round" qd f fd)(T:Txt K mg):FnOk P w K mg base CX0 1 f fd ["last","rooms"] (spOf K 2 su) :=
 jb F qj rfl rfl fun cdv A outer s H E hr =>
  (aq (gr (i:=2) qj.nd rfl (lK rfl) (gn ad9 (by rfl) T.z_list acq (ea_n (pv 1) cj))) (aq (gr (i:=3) qj.nd rfl (bH rfl) (cg gq (e2_v (ER.toD (bz jk (by rfl) T.z_len jl (ea_n (pv 2) cj))) (EV.toB ao)))) (aq (acu fuel cI (n8 als (e2_v (ER.toD (bz jk (by rfl) T.z_len jl (ea_n (pv 2) cj))) (dq (pv 3))) (kj _)) (aq (gr (i:=3) qj.nd rfl (bH rfl) (bz jk (by rfl) T.z_len jl (ea_n (pv 2) cj))) (bc (gr (i:=2) qj.nd rfl (lK rfl) (mq ["staying","last"] ["room","staying","last"] [none,some 2,some 0] rfl (za (az (pv 2))) (fun _ _ _=>(dg (i:=0) (show(["room","staying","last"]:List Str).Nodup by decide +kernel) rfl (bH rfl))) (fun _ _ _=>(af2 (n8 (apj hr.units) (e2_v (ER.toD (jq (e2_n (pv 2) (dq (pv 0))) (fun _ _=>by rfl))) (dq (pv 1))) (by with_unfolding_all rfl)))) (fun _ _ _=>(az (pv 0)))))))) (bc (gj (af1 (pv 2)))))))
theorem ahl(F:Fun K "is_walkers" "is_walkers" qw f fd)(T:Txt K mg)(d2:Dd2 P w K mg base)(d1:Dd1 P w K mg base):FnOk P w K mg base CX0 3 f fd ["house","thing","most"] (spOf K 3 vh) :=
 jb F ahb rfl rfl fun cdv A outer s H E hr =>
  (aq (vy (zj (vq (ER.toD (jc d2 (hr.mono (by decide)) (by rfl) (eg_n (pv 1) (eg_v (ER.toD (bz jk (by rfl) T.z_len jl (ea_n (pv 0) cj))) (eg_v (ER.toD (bz jk (by rfl) T.z_len jl (ea_n (pv 0) cj))) dw))))))) (bc (gj (EV.toR aat))) j5) (bc (gj (bz (agy rfl) (by rfl) T.z_all agz (ea_v (ER.toD (mq ["most"] ["many","most"] [none,some 2] rfl (za (az (pv 1))) (fun _ _ _=>(dg (i:=0) (show(["many","most"]:List Str).Nodup by decide +kernel) rfl (bH rfl))) (fun _ _ _=>qu) (fun _ _ _=>(ER.toD (jc d1 (hr.mono (by decide)) (by rfl) (eg_n (pv 0) (eg_v ao (eg_n (pv 1) dw)))))))) cj)))))
theorem ab3(F:Fun K "refuse_no_walkers" "refuse_no_walkers" jh f fd)(T:Txt K mg)(d10:Dd10 P w K mg base):FnOk P w K mg base CX0 4 f fd ["house","thing"] (spOf K 2 j6) :=
 jb F ab2 rfl rfl fun cdv A outer s H E hr =>
  (bc (vy (zj (vq (ER.toD (jc d10 (hr.mono (by decide)) (by rfl) (eg_n (pv 0) (eg_v (az (pv 1)) (eg_v (ev_c (a3v (by rfl) T.c_MOST_WALKERS) fun _=>.int _) dw))))))) (bc ag5) j5))
theorem ang(F:Fun K "uses_of" "uses_of" z9 f fd)(T:Txt K mg):FnOk P w K mg base CX0 1 f fd ["doors_many","arrow","leavings"] (spOf K 3 abd) :=
 jb F abq rfl rfl fun cdv A outer s H E hr =>
  (aq (gr (i:=3) abq.nd rfl (bH rfl) (qp bw)) (aq (z8 cI rfl (vg (by rfl) T.z_range (aj (az (pv 0)) bw)) (dg (i:=4) abq.nd rfl (bH rfl)) (aq (gr (i:=5) abq.nd rfl (bH rfl) (cg xg (e2_v (ER.toD (cg m7 (e2_n (pv 4) (dq (pv 1))))) (dq (pv 0))))) (bc (aao (EV.toR (amd abt jA PySem.F.type_list_append abb (pv 3) (aj (ER.toD (cg akl (e2_v (ER.toD (cg m7 (e2_v (ER.toD (cg m7 (e2_v (ER.toD (cg gq (e2_n (pv 2) (dq (pv 0))))) (EV.toB ao)))) (dq (pv 5))))) (dq (pv 0))))) bw))))))) (bc (gj (af1 (pv 3))))))
theorem age(F:Fun K "uses_of_all" "uses_of_all" p8 f fd)(T:Txt K mg)(d12:Dd12 P w K mg base):FnOk P w K mg base CX0 2 f fd ["house","arrows","leavings"] (spOf K 3 sr) :=
 jb F qi rfl rfl fun cdv A outer s H E hr =>
  (aq (gr (i:=3) qi.nd rfl (bH rfl) (qp bw)) (aq (z8 cI rfl (akz (by rfl) T.z_zip (aj (az (pv 0)) (aj (az (pv 1)) (aj (az (pv 2)) bw)))) (aag rfl (gk (dg (i:=4) qi.nd rfl (bH rfl)) (gk (dg (i:=5) qi.nd rfl (bH rfl)) (gk (dg (i:=6) qi.nd rfl (bH rfl)) ut)))) (bc (aao (EV.toR (amd abt jA PySem.F.type_list_append abb (pv 3) (aj (ER.toD (gn km (by rfl) T.z_tuple j7 (ea_v (ER.toD (jc d12 (hr.mono (by decide)) (by rfl) (eg_v (ER.toD (bz jk (by rfl) T.z_len jl (ea_n (pv 4) cj))) (eg_n (pv 5) (eg_n (pv 6) dw))))) cj))) bw)))))) (bc (gj (gn km (by rfl) T.z_tuple j7 (ea_n (pv 3) cj))))))
theorem ac6(F:Fun K "refuse_no_crowd" "refuse_no_crowd" jw f fd)(T:Txt K mg)(d6:Dd6 P w K mg base)(d11:Dd11 P w K mg base):FnOk P w K mg base CX0 5 f fd ["house","arrows","walkers"] (spOf K 3 mj) :=
 jb F acw rfl rfl fun cdv A outer s H E hr =>
  (aq (aao (jc d6 (hr.mono (by decide)) (by rfl) (eg_v (az (pv 0)) (eg_v (az (pv 1)) dw)))) (bc (aao (jc d11 (hr.mono (by decide)) (by rfl) (eg_n (pv 0) (eg_v (az (pv 2)) dw))))))
theorem agf(F:Fun K "is_leavings" "is_leavings" qb f fd)(T:Txt K mg)(d2:Dd2 P w K mg base)(d0:Dd0 P w K mg base):FnOk P w K mg base CX0 2 f fd ["house","thing"] (spOf K 2 jr) :=
 jb F agc rfl rfl fun cdv A outer s H E hr =>
  (aq (vy (zj (vq (ER.toD (jc d2 (hr.mono (by decide)) (by rfl) (eg_n (pv 1) (eg_v (ER.toD (bz jk (by rfl) T.z_len jl (ea_n (pv 0) cj))) (eg_v (ER.toD (bz jk (by rfl) T.z_len jl (ea_n (pv 0) cj))) dw))))))) (bc (gj (EV.toR aat))) j5) (bc (gj (bz (agy rfl) (by rfl) T.z_all agz (ea_v (ER.toD (mq [] ["many"] [none] rfl (za (az (pv 1))) (fun _ _ _=>(dg (i:=0) (show(["many"]:List Str).Nodup by decide +kernel) rfl (bH rfl))) (fun _ _ _=>qu) (fun _ _ _=>(agw (ER.toD (jc d0 (hr.mono (by decide)) (by rfl) (eg_n (pv 0) dw))) (agv (ER.toD (adk ab7 (e2_n (pv 0) (EV.toB ao)) (kj _)))))))) cj)))))
theorem ani(F:Fun K "come_by" "come_by" aab f fd)(T:Txt K mg):FnOk P w K mg base CX0 1 f fd ["house","uses"] (spOf K 2 abe) :=
 jb F v9 rfl rfl fun cdv A outer s H E hr =>
  (aq (gr (i:=2) v9.nd rfl (bH rfl) (cg ahk (e2_v (ER.toD (qp (aj ao bw))) (EV.toB (ER.toD (bz jk (by rfl) T.z_len jl (ea_n (pv 0) cj))))))) (aq (z8 cI rfl (ahy (by rfl) T.z_zip (aj (az (pv 0)) (aj (az (pv 1)) bw))) (aag rfl (gk (dg (i:=3) v9.nd rfl (bH rfl)) (gk (dg (i:=4) v9.nd rfl (bH rfl)) ut))) (bc (z8 cI rfl (ahy (by rfl) T.z_zip (aj (az (pv 3)) (aj (az (pv 4)) bw))) (aag rfl (gk (dg (i:=5) v9.nd rfl (bH rfl)) (gk (dg (i:=6) v9.nd rfl (bH rfl)) ut))) (bc (vy (n8 ab7 (e2_n (pv 5) (EV.toB ao)) (kj _)) (bc (aox (pv 2) (az (pv 5)) (az (pv 6)) a0o)) j5))))) (bc (gj (af1 (pv 2))))))
theorem anh(F:Fun K "is_rest" "is_rest" aaa f fd)(T:Txt K mg)(d14:Dd14 P w K mg base)(d4:Dd4 P w K mg base)(d15:Dd15 P w K mg base)(d13:Dd13 P w K mg base)(d16:Dd16 P w K mg base)(d7:Dd7 P w K mg base)(d8:Dd8 P w K mg base)(d9:Dd9 P w K mg base):FnOk P w K mg base CX0 6 f fd ["house","arrows","walkers","thing"] (spOf K 4 pq) :=
 jb F adq rfl rfl fun cdv A outer s H E hr =>
  (aq (aao (jc d14 (hr.mono (by decide)) (by rfl) (eg_v (az (pv 0)) (eg_v (az (pv 1)) (eg_v (az (pv 2)) dw))))) (aq (aao (jc d4 (hr.mono (by decide)) (by rfl) (eg_n (pv 0) dw))) (aq (vy (zj (vq (ER.toD (jc d15 (hr.mono (by decide)) (by rfl) (eg_n (pv 0) (eg_v (az (pv 3)) dw)))))) (bc (gj (EV.toR aat))) j5) (aq (gr (i:=4) adq.nd rfl (bH rfl) (jc d16 (hr.mono (by decide)) (by rfl) (eg_v (az (pv 0)) (eg_v (ER.toD (jc d13 (hr.mono (by decide)) (by rfl) (eg_v (az (pv 0)) (eg_v (az (pv 1)) (eg_v (az (pv 3)) dw))))) dw)))) (aq (vy (zj (vq (ER.toD (bz (agy rfl) (by rfl) T.z_all agz (ea_v (ER.toD (mq [] ["stood","by","many"] [none,none,none] rfl (akz (by rfl) T.z_zip (aj (az (pv 2)) (aj (az (pv 4)) (aj (az (pv 3)) bw)))) (fun _ _ _=>(aag rfl (gk (dg (i:=0) (show(["stood","by","many"]:List Str).Nodup by decide +kernel) rfl (bH rfl)) (gk (dg (i:=1) (show(["stood","by","many"]:List Str).Nodup by decide +kernel) rfl (bH rfl)) (gk (dg (i:=2) (show(["stood","by","many"]:List Str).Nodup by decide +kernel) rfl (bH rfl)) ut))))) (fun _ _ _=>qu) (fun _ _ _=>(ER.toD (adk (agq hr.units) (e2_v (ER.toD (cg gq (e2_n (pv 0) (dq (pv 1))))) (dq (pv 2))) (kj _)))))) cj))))) (bc (gj (EV.toR aat))) j5) (aq (gr (i:=5) adq.nd rfl (bH rfl) (jc d8 (hr.mono (by decide)) (by rfl) (eg_v (az (pv 0)) (eg_v (ER.toD (jc d7 (hr.mono (by decide)) (by rfl) (eg_v (az (pv 0)) (eg_v (az (pv 1)) (eg_v (az (pv 3)) dw))))) dw)))) (bc (gj (adk (agq hr.units) (e2_v (ER.toD (jc d9 (hr.mono (by decide)) (by rfl) (eg_n (pv 5) (eg_v (ER.toD (mq [] ["room","many"] [none,none] rfl (ahz (by rfl) T.z_enumerate (aj (az (pv 3)) bw)) (fun _ _ _=>(aag rfl (gk (dg (i:=0) (show(["room","many"]:List Str).Nodup by decide +kernel) rfl (bH rfl)) (gk (dg (i:=1) (show(["room","many"]:List Str).Nodup by decide +kernel) rfl (bH rfl)) ut)))) (fun _ _ _=>(af2 (n8 alu (e2_n (pv 1) (EV.toB ao)) (kj _)))) (fun _ _ _=>(az (pv 0))))) dw)))) (EV.toB (ER.toD (qp bw)))) (kj _))))))))))
theorem ai6(F:Fun K "_law_cell" "_law_cell" um f fd)(T:Txt K mg):FnOk P w K mg base CX0 1 f fd ["script","k"] (spOf K 2 f__law_cell) :=
 jb F aip rfl rfl fun cdv A outer s H E hr =>
  (aq (vy (n8 als (e2_n (pv 1) (EV.toB (ER.toD (bz jk (by rfl) T.z_len jl (ea_n (pv 0) cj))))) (kj _)) (bc (gj (jq (e2_n (pv 0) (dq (pv 1))) (fun _ _=>by rfl)))) j5) (bc (gj (EV.toR ao))))
theorem ako(F:Fun K "_law_pen" "_law_pen" wj f fd)(T:Txt K mg):FnOk P w K mg base CX0 1 f fd ["cell"] (spOf K 1 f__law_pen) :=
 jb F ae5 rfl rfl fun cdv A outer s H E hr =>
  (aq (gr (i:=1) ae5.nd rfl (bH rfl) (bz (au8 rfl) (by rfl) T.z_max amn (ea_n (pv 0) (ea_v (ER.toD (cg m7 (e2_v ao (dq (pv 0))))) cj)))) (bc (gj (qp (aj (az (pv 1)) (aj (ER.toD (gn au9 (by rfl) T.z_int amo (ea_v (ER.toD (adk ab7 (e2_n (pv 1) (EV.toB (ER.toD (cg api (e2_v ao (EV.toB ao)))))) (kj _))) cj))) bw))))))
theorem ai5(F:Fun K "_law_draw" "_law_draw" uh f fd)(T:Txt K mg):FnOk P w K mg base CX0 1 f fd ["pen","many"] (spOf K 2 f__law_draw) :=
 jb F vf rfl rfl fun cdv A outer s H E hr =>
  (aq (vy (n8 (agq hr.units) (e2_v (ER.toD (jq (e2_n (pv 0) (EV.toB ao)) (fun _ _=>by rfl))) (EV.toB ao)) (kj _)) (aq (aum (ER.toD (bz aq4 (by rfl) T.z_divmod arc (ea_v (ER.toD (jq (e2_n (pv 0) (EV.toB ao)) (fun _ _=>by rfl))) (ea_n (pv 1) cj)))) (aag rfl (gk (dg (i:=2) vf.nd rfl (bH rfl)) (gk (dg (i:=3) vf.nd rfl (bH rfl)) ut)))) (aq (acv (az (pv 2)) (pv 0) ao) (bc (gj (af1 (pv 3)))))) j5) (aq (gr (i:=4) vf.nd rfl (bH rfl) (cg xg (e2_v (ER.toD (cg ahk (e2_v (ER.toD (cg gq (e2_v (ER.toD (cg xg (e2_v (ER.toD (jq (e2_n (pv 0) (EV.toB ao)) (fun _ _=>by rfl))) (EV.toB ao)))) (EV.toB ao)))) (EV.toB ao)))) (EV.toB ao)))) (aq (gr (i:=4) vf.nd rfl (bH rfl) (cg xg (e2_v (ER.toD (cg gq (e2_v (ER.toD (cg ahk (e2_n (pv 4) (dq (pv 4))))) (EV.toB ao)))) (EV.toB ao)))) (aq (acv (ER.toD (cg xg (e2_v (ER.toD (cg gq (e2_v (ER.toD (cg ahk (e2_n (pv 4) (EV.toB ao)))) (EV.toB ao)))) (EV.toB ao)))) (pv 0) ao) (bc (gj (cg xg (e2_v (ER.toD (cg akl (e2_v (ER.toD (jq (e2_n (pv 0) (EV.toB ao)) (fun _ _=>by rfl))) (EV.toB ao)))) (dq (pv 1))))))))))
theorem ahm(F:Fun K "_law_whole" "_law_whole" qx f fd)(T:Txt K mg):FnOk P w K mg base CX0 1 f fd ["thing"] (spOf K 1 vm) :=
 jb F ahc rfl rfl fun cdv A outer s H E hr =>
  (bc (gj (EV.toR (agw (af0 (t:=.int) (akj (by rfl) T.z_int amo) (by rfl) T.z_isinstance ni (dq (pv 0))) (agv (au4 (af0 (t:=.bool) (akj (by rfl) T.z_bool alb) (by rfl) T.z_isinstance ni (dq (pv 0)))))))))
theorem akp(F:Fun K "_law_odd" "_law_odd" wk f fd)(T:Txt K mg)(d20:Dd20 P w K mg base):FnOk P w K mg base CX0 2 f fd ["pen"] (spOf K 1 f__law_odd) :=
 jb F ae6 rfl rfl fun cdv A outer s H E hr =>
  (aq (gr (i:=1) ae6.nd rfl (bH rfl) (qp (aj aqm (aj aat (aj aat (aj (zg ao) (aj amc (aj amc (aj (jn bw) (aj (ER.toD (qp bw)) (aj (jn (aj ao bw)) (aj (ER.toD (qp (aj ao bw))) (aj at7 (aj (jn (aj ao (aj ao bw))) (aj (ER.toD (cg api (e2_v ao (EV.toB ao)))) (aj (jn (aj (jn (aj ao bw)) bw)) (aj amc bw))))))))))))))))) (bc (gj (jq (e2_v (ER.toD (cg gq (e2_n (pv 1) (EV.toB (ER.toD (qp (aj (jn (aj (jn (aj (zg ao) bw)) (aj (jn (aj ao (aj ao bw))) bw))) bw))))))) (EV.toB (ER.toD (jc d20 (hr.mono (by decide)) (by rfl) (eg_n (pv 0) (eg_v ao dw)))))) (fun _ _=>by rfl)))))
theorem aho(F:Fun K "_law_house" "_law_house" qz f fd)(T:Txt K mg)(d20:Dd20 P w K mg base):FnOk P w K mg base CX0 2 f fd ["pen","most","doors"] (spOf K 3 f__law_house) :=
 jb F p7 rfl rfl fun cdv A outer s H E hr =>
  (aq (gr (i:=3) p7.nd rfl (lK rfl) (cg gq (e2_v ao (EV.toB (ER.toD (jc d20 (hr.mono (by decide)) (by rfl) (eg_n (pv 0) (eg_n (pv 1) dw)))))))) (aq (gr (i:=4) p7.nd rfl (lK rfl) (jq (e2_v (ER.toD (qp (aj ao (aj ao (aj ao (aj ao bw)))))) (EV.toB (ER.toD (jc d20 (hr.mono (by decide)) (by rfl) (eg_n (pv 0) (eg_v ao dw)))))) (fun _ _=>by rfl))) (aq (gr (i:=5) p7.nd rfl (bH rfl) (qp bw)) (aq (z8 cI rfl (vg (by rfl) T.z_range (aj (az (pv 3)) bw)) (dg (i:=6) p7.nd rfl (bH rfl)) (aq (gr (i:=7) p7.nd rfl (bH rfl) (cg gq (e2_v ao (EV.toB (ER.toD (jc d20 (hr.mono (by decide)) (by rfl) (eg_n (pv 0) (eg_n (pv 2) dw)))))))) (bc (aao (EV.toR (amd abt jA PySem.F.type_list_append abb (pv 5) (aj (ER.toD (gn km (by rfl) T.z_tuple j7 (ea_v (ER.toD (mq ["pen","many","gates"] ["door","pen","many","gates"] [none,some 0,some 3,some 4] rfl (vg (by rfl) T.z_range (aj (az (pv 7)) bw)) (fun _ _ _=>(dg (i:=0) (show(["door","pen","many","gates"]:List Str).Nodup by decide +kernel) rfl (bH rfl))) (fun _ _ _=>qu) (fun _ _ _=>(ER.toD (cg m7 (e2_v (ER.toD (jc d20 (hr.mono (by decide)) (by rfl) (eg_n (pv 1) (eg_v (ER.toD (cg gq (e2_n (pv 2) (dq (pv 3))))) dw)))) (dq (pv 3)))))))) cj))) bw))))))) (bc (gj (gn km (by rfl) T.z_tuple j7 (ea_n (pv 5) cj))))))))
theorem afa(F:Fun K "_law_reached" "_law_reached" nu f fd)(T:Txt K mg):FnOk P w K mg base CX0 1 f fd ["house","room"] (spOf K 2 qm) :=
 jb F ou rfl rfl fun cdv A outer s H E hr =>
  (aq (gr (i:=2) ou.nd rfl (lK rfl) (qp (aj (az (pv 1)) bw))) (aq (gr (i:=3) ou.nd rfl (bH rfl) (EV.toR ao)) (aq (acu fuel cI (n8 als (e2_n (pv 3) (EV.toB (ER.toD (bz jk (by rfl) T.z_len jl (ea_n (pv 2) cj))))) (kj _)) (aq (vy (n8 ab7 (e2_v (ER.toD (jq (e2_n (pv 2) (dq (pv 3))) (fun _ _=>by rfl))) (EV.toB ao)) (kj _)) (bc (gr (i:=2) ou.nd rfl (lK rfl) (cg gq (e2_n (pv 2) (EV.toB (ER.toD (mq ["found"] ["door","found"] [none,some 2] rfl (za (ER.toD (ajs rfl (by rfl) T.z_sorted arb (by rfl) T.z_set a03 (ea_v (ER.toD (jq (e2_n (pv 0) (EV.toB (ER.toD (jq (e2_n (pv 2) (dq (pv 3))) (fun _ _=>by rfl))))) (fun _ _=>by rfl))) cj)))) (fun _ _ _=>(dg (i:=0) (show(["door","found"]:List Str).Nodup by decide +kernel) rfl (bH rfl))) (fun _ _ _=>(af2 (n8 (aiv hr.units) (e2_n (pv 0) (dq (pv 1))) (by with_unfolding_all rfl)))) (fun _ _ _=>(az (pv 0)))))))))) j5) (bc (gr (i:=3) ou.nd rfl (bH rfl) (cg gq (e2_n (pv 3) (EV.toB ao))))))) (bc (gj (af1 (pv 2)))))))
theorem ai1(F:Fun K "_law_open" "_law_open" ud f fd)(T:Txt K mg)(d23:Dd23 P w K mg base)(d24:Dd24 P w K mg base)(d20:Dd20 P w K mg base):FnOk P w K mg base CX0 3 f fd ["pen","most","doors"] (spOf K 3 f__law_open) :=
 jb F yu rfl rfl fun cdv A outer s H E hr =>
  (aq (gr (i:=3) yu.nd rfl (bH rfl) (gn ad9 (by rfl) T.z_list acq (ea_v (ER.toD (jc d23 (hr.mono (by decide)) (by rfl) (eg_n (pv 0) (eg_n (pv 1) (eg_n (pv 2) dw))))) cj))) (aq (z8 cI rfl (vg (by rfl) T.z_range (aj (ER.toD (bz jk (by rfl) T.z_len jl (ea_n (pv 3) cj))) bw)) (dg (i:=4) yu.nd rfl (bH rfl)) (bc (vy (n8 ab7 (e2_v (ER.toD (bz (axw rfl) (by rfl) T.z_min a04 (ea_v (ER.toD (jc d24 (hr.mono (by decide)) (by rfl) (eg_n (pv 3) (eg_v (az (pv 4)) dw)))) cj))) (EV.toB ao)) (kj _)) (aq (gr (i:=5) yu.nd rfl (bH rfl) (jc d20 (hr.mono (by decide)) (by rfl) (eg_n (pv 0) (eg_v (ER.toD (bz jk (by rfl) T.z_len jl (ea_v (ER.toD (jq (e2_n (pv 3) (dq (pv 4))) (fun _ _=>by rfl))) cj))) dw)))) (bc (acv (ER.toD (cg gq (e2_v (ER.toD (cg gq (e2_v (ER.toD (au5 (ER.toD (jq (e2_n (pv 3) (dq (pv 4))) (fun _ _=>by rfl))) aco (aau (az (pv 5))))) (EV.toB (jn (aj (ER.toD (cg m7 (e2_v (zg ao) (EV.toB (ER.toD (jc d20 (hr.mono (by decide)) (by rfl) (eg_n (pv 0) (eg_v ao dw)))))))) bw)))))) (EV.toB (ER.toD (au5 (ER.toD (jq (e2_n (pv 3) (dq (pv 4))) (fun _ _=>by rfl))) (aau (ER.toD (cg gq (e2_n (pv 5) (EV.toB ao))))) aco)))))) (pv 3) (az (pv 4))))) j5))) (bc (gj (gn km (by rfl) T.z_tuple j7 (ea_n (pv 3) cj))))))
theorem ahp(F:Fun K "_law_drawn" "_law_drawn" rm f fd)(T:Txt K mg)(d20:Dd20 P w K mg base):FnOk P w K mg base CX0 2 f fd ["pen","house"] (spOf K 2 f__law_drawn) :=
 jb F ahd rfl rfl fun cdv A outer s H E hr =>
  (bc (gj (gn km (by rfl) T.z_tuple j7 (ea_v (ER.toD (mq ["pen"] ["room","pen"] [none,some 0] rfl (za (az (pv 1))) (fun _ _ _=>(dg (i:=0) (show(["room","pen"]:List Str).Nodup by decide +kernel) rfl (bH rfl))) (fun _ _ _=>qu) (fun _ _ _=>(ER.toD (jc d20 (hr.mono (by decide)) (by rfl) (eg_n (pv 1) (eg_v (ER.toD (bz jk (by rfl) T.z_len jl (ea_n (pv 0) cj))) dw))))))) cj))))
theorem ae9(F:Fun K "_law_walkers" "_law_walkers" nq f fd)(T:Txt K mg)(d20:Dd20 P w K mg base):FnOk P w K mg base CX0 2 f fd ["pen","house","most"] (spOf K 3 ql) :=
 jb F ae4 rfl rfl fun cdv A outer s H E hr =>
  (bc (gj (gn km (by rfl) T.z_tuple j7 (ea_v (ER.toD (mq ["pen","most"] ["room","pen","most"] [none,some 0,some 2] rfl (za (az (pv 1))) (fun _ _ _=>(dg (i:=0) (show(["room","pen","most"]:List Str).Nodup by decide +kernel) rfl (bH rfl))) (fun _ _ _=>qu) (fun _ _ _=>(ER.toD (bz (au8 rfl) (by rfl) T.z_max amn (ea_v ao (ea_v (ER.toD (cg m7 (e2_v (ER.toD (jc d20 (hr.mono (by decide)) (by rfl) (eg_n (pv 1) (eg_v (ER.toD (cg gq (e2_n (pv 2) (EV.toB ao)))) dw)))) (EV.toB ao)))) cj))))))) cj))))
theorem ai3(F:Fun K "_law_left" "_law_left" uf f fd)(T:Txt K mg):FnOk P w K mg base CX0 1 f fd ["house","some","there","gates","room"] (spOf K 5 ux) :=
 jb F aeg rfl rfl fun cdv A outer s H E hr =>
  (aq (gr (i:=5) aeg.nd rfl (bH rfl) (jq (e2_v (ER.toD (jq (e2_n (pv 0) (dq (pv 4))) (fun _ _=>by rfl))) (EV.toB (ER.toD (jq (e2_n (pv 1) (dq (pv 4))) (fun _ _=>by rfl))))) (fun _ _=>by rfl))) (aq (acv (ER.toD (cg xg (e2_v (ER.toD (cg gq (e2_v (ER.toD (jq (e2_n (pv 1) (dq (pv 4))) (fun _ _=>by rfl))) (EV.toB ao)))) (EV.toB (ER.toD (bz jk (by rfl) T.z_len jl (ea_v (ER.toD (jq (e2_n (pv 0) (dq (pv 4))) (fun _ _=>by rfl))) cj))))))) (pv 1) (az (pv 4))) (aq (acv (ER.toD (cg m7 (e2_v (ER.toD (jq (e2_n (pv 2) (dq (pv 4))) (fun _ _=>by rfl))) (EV.toB ao)))) (pv 2) (az (pv 4))) (bc (vy (n8 ab7 (e2_n (pv 5) (EV.toB ao)) (kj _)) (bc (acv (ER.toD (cg gq (e2_v (ER.toD (jq (e2_n (pv 2) (dq (pv 5))) (fun _ _=>by rfl))) (EV.toB ao)))) (pv 2) (az (pv 5)))) (bc (acv (ER.toD (cg gq (e2_v (ER.toD (jq (e2_n (pv 3) (EV.toB (ER.toD (cg m7 (e2_v (ER.toD (cg m7 (e2_v ao (dq (pv 5))))) (EV.toB ao)))))) (fun _ _=>by rfl))) (EV.toB ao)))) (pv 3) (ER.toD (cg m7 (e2_v (ER.toD (cg m7 (e2_v ao (dq (pv 5))))) (EV.toB ao)))))))))))
theorem ai0(F:Fun K "_law_rest" "_law_rest" uc f fd)(T:Txt K mg)(d28:Dd28 P w K mg base):FnOk P w K mg base CX0 2 f fd ["house","some","there"] (spOf K 3 yc) :=
 jb F yt rfl rfl fun cdv A outer s H E hr =>
  (aq (avr (i:=1) (j:=2) rfl yt.nd rfl rfl (bH rfl) (lK rfl) (gn ad9 (by rfl) T.z_list acq (ea_n (pv 1) cj)) (gn ad9 (by rfl) T.z_list acq (ea_n (pv 2) cj))) (aq (avq (i:=3) (j:=4) rfl yt.nd rfl rfl (by decide) rfl rfl (qp (aj ao (aj ao (aj ao bw)))) (mq [] ["room"] [none] rfl (za (az (pv 0))) (fun _ _ _=>(dg (i:=0) (show(["room"]:List Str).Nodup by decide +kernel) rfl (bH rfl))) (fun _ _ _=>qu) (fun _ _ _=>ao))) (aq (acu fuel cI (n8 alu (e2_v (ER.toD (bz (aq3 rfl) (by rfl) T.z_max amn (ea_n (pv 2) cj))) (EV.toB ao)) (kj _)) (aq (gr (i:=5) yt.nd rfl (bH rfl) (bz (aq3 rfl) (by rfl) T.z_max amn (ea_v (ER.toD (mq ["there"] ["at","there"] [none,some 2] rfl (vg (by rfl) T.z_range (aj (ER.toD (bz jk (by rfl) T.z_len jl (ea_n (pv 0) cj))) bw)) (fun _ _ _=>(dg (i:=0) (show(["at","there"]:List Str).Nodup by decide +kernel) rfl (bH rfl))) (fun _ _ _=>(af2 (n8 alu (e2_v (ER.toD (jq (e2_n (pv 1) (dq (pv 0))) (fun _ _=>by rfl))) (EV.toB ao)) (kj _)))) (fun _ _ _=>(az (pv 0))))) cj))) (aq (aao (jc d28 (hr.mono (by decide)) (by rfl) (eg_n (pv 0) (eg_n (pv 1) (eg_n (pv 2) (eg_n (pv 3) (eg_v (az (pv 5)) dw))))))) (bc (acv (ER.toD (cg gq (e2_v (ER.toD (jq (e2_n (pv 4) (dq (pv 5))) (fun _ _=>by rfl))) (EV.toB ao)))) (pv 4) (az (pv 5))))))) (bc (gj (EV.toR (jn (aj (ER.toD (gn km (by rfl) T.z_tuple j7 (ea_n (pv 3) cj))) (aj (ER.toD (gn km (by rfl) T.z_tuple j7 (ea_n (pv 1) cj))) (aj (ER.toD (gn km (by rfl) T.z_tuple j7 (ea_n (pv 4) cj))) bw))))))))))
theorem agh(F:Fun K "_law_counts" "_law_counts" qe f fd)(T:Txt K mg)(d21:Dd21 P w K mg base):FnOk P w K mg base CX0 2 f fd ["thing","many"] (spOf K 2 m9) :=
 jb F agd rfl rfl fun cdv A outer s H E hr =>
  (aq (vy (EW.pt (at6 (zj (vq (af0 (t:=.tuple) (akj (by rfl) T.z_tuple j7) (by rfl) T.z_isinstance ni (dq (pv 0))))) (amb (n8 (alr hr.units) (e2_v (ER.toD (bz jk (by rfl) T.z_len jl (ea_n (pv 0) cj))) (dq (pv 1))) (kj _))))) (bc (gj (EV.toR aat))) j5) (bc (gj (bz (agy rfl) (by rfl) T.z_all agz (ea_v (ER.toD (mq [] ["one"] [none] rfl (za (az (pv 0))) (fun _ _ _=>(dg (i:=0) (show(["one"]:List Str).Nodup by decide +kernel) rfl (bH rfl))) (fun _ _ _=>qu) (fun _ _ _=>(agw (ER.toD (jc d21 (hr.mono (by decide)) (by rfl) (eg_n (pv 0) dw))) (agv (ER.toD (adk ab7 (e2_n (pv 0) (EV.toB ao)) (kj _)))))))) cj)))))
theorem aiz(F:Fun K "_law_wide" "_law_wide" t8 f fd)(T:Txt K mg)(d20:Dd20 P w K mg base)(d25:Dd25 P w K mg base):FnOk P w K mg base CX0 4 f fd ["pen"] (spOf K 1 f__law_wide) :=
 jb F aa6 rfl rfl fun cdv A outer s H E hr =>
  (aq (aum (ER.toD (jq (e2_v (ER.toD (qp (aj (jn (aj ao (aj ao bw))) (aj (jn (aj ao (aj ao bw))) (aj (jn (aj ao (aj ao bw))) (aj (jn (aj ao (aj ao bw))) (aj (jn (aj ao (aj ao bw))) (aj (jn (aj ao (aj ao bw))) (aj (jn (aj ao (aj ao bw))) (aj (jn (aj ao (aj ao bw))) bw)))))))))) (EV.toB (ER.toD (jc d20 (hr.mono (by decide)) (by rfl) (eg_n (pv 0) (eg_v ao dw)))))) (fun _ _=>by rfl))) (aag rfl (gk (dg (i:=1) aa6.nd rfl (bH rfl)) (gk (dg (i:=2) aa6.nd rfl (bH rfl)) ut)))) (bc (gj (jc d25 (hr.mono (by decide)) (by rfl) (eg_n (pv 0) (eg_n (pv 1) (eg_n (pv 2) dw)))))))
theorem ai4(F:Fun K "_law_fits" "_law_fits" ug f fd)(T:Txt K mg):FnOk P w K mg base CX0 1 f fd ["house","some","there","gone"] (spOf K 4 yg) :=
 jb F ph rfl rfl fun cdv A outer s H E hr =>
  (aq (gr (i:=4) ph.nd rfl (bH rfl) (gn ad9 (by rfl) T.z_list acq (ea_n (pv 2) cj))) (aq (z8 cI rfl (ahz (by rfl) T.z_enumerate (aj (az (pv 0)) bw)) (aag rfl (gk (dg (i:=5) ph.nd rfl (bH rfl)) (gk (dg (i:=6) ph.nd rfl (bH rfl)) ut))) (bc (z8 cI rfl (ahz (by rfl) T.z_enumerate (aj (az (pv 6)) bw)) (aag rfl (gk (dg (i:=7) ph.nd rfl (bH rfl)) (gk (dg (i:=8) ph.nd rfl (bH rfl)) ut))) (bc (vy (n8 ab7 (e2_n (pv 8) (EV.toB ao)) (kj _)) (aq (gr (i:=9) ph.nd rfl (bH rfl) (cg xg (e2_v (ER.toD (cg m7 (e2_n (pv 7) (EV.toB (ER.toD (jq (e2_n (pv 1) (dq (pv 5))) (fun _ _=>by rfl))))))) (EV.toB (ER.toD (bz jk (by rfl) T.z_len jl (ea_n (pv 6) cj))))))) (bc (acv (ER.toD (cg gq (e2_v (ER.toD (jq (e2_n (pv 4) (dq (pv 8))) (fun _ _=>by rfl))) (EV.toB (ER.toD (cg akl (e2_v (ER.toD (cg m7 (e2_v (ER.toD (cg m7 (e2_v (ER.toD (cg gq (e2_v (ER.toD (jq (e2_n (pv 3) (dq (pv 5))) (fun _ _=>by rfl))) (EV.toB (ER.toD (bz jk (by rfl) T.z_len jl (ea_n (pv 6) cj))))))) (EV.toB ao)))) (dq (pv 9))))) (EV.toB (ER.toD (bz jk (by rfl) T.z_len jl (ea_n (pv 6) cj))))))))))) (pv 4) (az (pv 8))))) j5))))) (bc (gj (adk (agq hr.units) (e2_v (ER.toD (gn km (by rfl) T.z_tuple j7 (ea_n (pv 4) cj))) (dq (pv 3))) (kj _))))))
theorem aba(F:Fun K "_law_round_nowhere" "_law_round_nowhere" jd f fd)(T:Txt K mg):FnOk P w K mg base CX0 1 f fd ["house","some","gone"] (spOf K 3 je) :=
 jb F ie rfl rfl fun cdv A outer s H E hr =>
  (aq (z8 cI rfl (vg (by rfl) T.z_range (aj (ER.toD (bz jk (by rfl) T.z_len jl (ea_n (pv 0) cj))) bw)) (dg (i:=3) ie.nd rfl (bH rfl)) (aq (gr (i:=4) ie.nd rfl (bH rfl) (EV.toR (az (pv 3)))) (bc (z8 cI rfl (vg (by rfl) T.z_range (aj (ER.toD (bz jk (by rfl) T.z_len jl (ea_n (pv 0) cj))) bw)) (dg (i:=5) ie.nd rfl (bH rfl)) (bc (vy (EW.pt (aql (n8 ab7 (e2_n (pv 4) (EV.toB ao)) (kj _)) (ak4 (n8 alu (e2_v (ER.toD (jq (e2_n (pv 2) (dq (pv 4))) (fun _ _=>by rfl))) (EV.toB ao)) (kj _))))) (aq (gr (i:=6) ie.nd rfl (bH rfl) (jq (e2_n (pv 0) (dq (pv 4))) (fun _ _=>by rfl))) (aq (gr (i:=4) ie.nd rfl (bH rfl) (jq (e2_n (pv 6) (EV.toB (ER.toD (cg xg (e2_v (ER.toD (cg m7 (e2_v (ER.toD (cg gq (e2_v (ER.toD (jq (e2_n (pv 1) (dq (pv 4))) (fun _ _=>by rfl))) (EV.toB (ER.toD (jq (e2_n (pv 2) (dq (pv 4))) (fun _ _=>by rfl))))))) (EV.toB ao)))) (EV.toB (ER.toD (bz jk (by rfl) T.z_len jl (ea_n (pv 6) cj))))))))) (fun _ _=>by rfl))) (bc (vy (n8 (agq hr.units) (e2_n (pv 4) (dq (pv 3))) (kj _)) (bc (gj (EV.toR aat))) j5)))) j5)))))) (bc (gj (EV.toR aat))))
theorem akq(F:Fun K "_law_due" "_law_due" wu f fd)(T:Txt K mg)(d30:Dd30 P w K mg base)(d32:Dd32 P w K mg base)(d33:Dd33 P w K mg base):FnOk P w K mg base CX0 3 f fd ["house","some","there","thing"] (spOf K 4 wz) :=
 jb F akf rfl rfl fun cdv A outer s H E hr =>
  (aq (vy (EW.pt (at6 (zj (vq (ER.toD (jc d30 (hr.mono (by decide)) (by rfl) (eg_v (az (pv 3)) (eg_v (ER.toD (bz jk (by rfl) T.z_len jl (ea_n (pv 0) cj))) dw)))))) (amb (zj (vq (ER.toD (jc d32 (hr.mono (by decide)) (by rfl) (eg_v (az (pv 0)) (eg_n (pv 1) (eg_n (pv 2) (eg_n (pv 3) dw))))))))))) (bc (gj (EV.toR aat))) j5) (bc (gj (jc d33 (hr.mono (by decide)) (by rfl) (eg_n (pv 0) (eg_n (pv 1) (eg_n (pv 3) dw)))))))
theorem ai2(F:Fun K "_law_more" "_law_more" ue f fd)(T:Txt K mg):FnOk P w K mg base CX0 1 f fd ["house","some","gone"] (spOf K 3 ye) :=
 jb F yw rfl rfl fun cdv A outer s H E hr =>
  (aq (gr (i:=3) yw.nd rfl (bH rfl) (qp (aj ao bw))) (aq (acu fuel cI (EW.pt (aql (n8 ab7 (e2_v (ER.toD (jq (e2_n (pv 3) (EV.toB (zg ao))) (fun _ _=>by rfl))) (EV.toB ao)) (kj _)) (ak4 (n8 (aiv hr.units) (e2_v (ER.toD (jq (e2_n (pv 3) (EV.toB (zg ao))) (fun _ _=>by rfl))) (EV.toB (ER.toD (ad8 (pv 3) aco (aau (zg ao)))))) (by with_unfolding_all rfl))))) (aq (gr (i:=4) yw.nd rfl (bH rfl) (jq (e2_n (pv 0) (EV.toB (ER.toD (jq (e2_n (pv 3) (EV.toB (zg ao))) (fun _ _=>by rfl))))) (fun _ _=>by rfl))) (bc (aao (EV.toR (amd abt jA PySem.F.type_list_append abb (pv 3) (aj (ER.toD (jq (e2_n (pv 4) (EV.toB (ER.toD (cg xg (e2_v (ER.toD (cg gq (e2_v (ER.toD (jq (e2_n (pv 1) (EV.toB (ER.toD (jq (e2_n (pv 3) (EV.toB (zg ao))) (fun _ _=>by rfl))))) (fun _ _=>by rfl))) (EV.toB (ER.toD (jq (e2_n (pv 2) (EV.toB (ER.toD (jq (e2_n (pv 3) (EV.toB (zg ao))) (fun _ _=>by rfl))))) (fun _ _=>by rfl))))))) (EV.toB (ER.toD (bz jk (by rfl) T.z_len jl (ea_n (pv 4) cj))))))))) (fun _ _=>by rfl))) bw))))))) (aq (gr (i:=5) yw.nd rfl (lK rfl) (ad8 (pv 3) (aau (ER.toD (cg gq (e2_v (axo rB PySem.F.type_list_index (as5 hr.units) (pv 3) (aj (ER.toD (jq (e2_n (pv 3) (EV.toB (zg ao))) (fun _ _=>by rfl))) bw)) (EV.toB ao))))) aco)) (bc (gj (gn km (by rfl) T.z_tuple j7 (ea_v (ER.toD (mq ["ring"] ["at","one","ring"] [none,none,some 5] rfl (ahz (by rfl) T.z_enumerate (aj (az (pv 2)) bw)) (fun _ _ _=>(aag rfl (gk (dg (i:=0) (show(["at","one","ring"]:List Str).Nodup by decide +kernel) rfl (bH rfl)) (gk (dg (i:=1) (show(["at","one","ring"]:List Str).Nodup by decide +kernel) rfl (bH rfl)) ut)))) (fun _ _ _=>qu) (fun _ _ _=>(ER.toD (cg gq (e2_n (pv 1) (EV.toB (ER.toD (gn au9 (by rfl) T.z_int amo (ea_v (ER.toD (adk (apj hr.units) (e2_n (pv 0) (dq (pv 2))) (by with_unfolding_all rfl))) cj)))))))))) cj)))))))
theorem ai7(F:Fun K "_law_bent" "_law_bent" uq f fd)(T:Txt K mg)(d20:Dd20 P w K mg base):FnOk P w K mg base CX0 2 f fd ["pen","gone"] (spOf K 2 f__law_bent) :=
 jb F yx rfl rfl fun cdv A outer s H E hr =>
  (aq (gr (i:=2) yx.nd rfl (bH rfl) (jc d20 (hr.mono (by decide)) (by rfl) (eg_n (pv 0) (eg_v (ER.toD (bz jk (by rfl) T.z_len jl (ea_n (pv 1) cj))) dw)))) (aq (gr (i:=3) yx.nd rfl (bH rfl) (jq (e2_v (ER.toD (qp (aj (ER.toD (cg gq (e2_v (ER.toD (jq (e2_n (pv 1) (dq (pv 2))) (fun _ _=>by rfl))) (EV.toB ao)))) (aj (ER.toD (cg m7 (e2_v (ER.toD (jq (e2_n (pv 1) (dq (pv 2))) (fun _ _=>by rfl))) (EV.toB ao)))) (aj aat (aj aqm (aj (zg ao) (aj (ER.toD (cg gq (e2_v (ER.toD (jq (e2_n (pv 1) (dq (pv 2))) (fun _ _=>by rfl))) (EV.toB (ER.toD (bz jk (by rfl) T.z_len jl (ea_n (pv 1) cj))))))) (aj ao (aj amc bw)))))))))) (EV.toB (ER.toD (jc d20 (hr.mono (by decide)) (by rfl) (eg_n (pv 0) (eg_v ao dw)))))) (fun _ _=>by rfl))) (aq (gr (i:=4) yx.nd rfl (bH rfl) (qp (aj (ER.toD (cg gq (e2_v (ER.toD (cg gq (e2_v (ER.toD (ad8 (pv 1) aco (aau (az (pv 2))))) (EV.toB (jn (aj (az (pv 3)) bw)))))) (EV.toB (ER.toD (ad8 (pv 1) (aau (ER.toD (cg gq (e2_n (pv 2) (EV.toB ao))))) aco)))))) (aj (ER.toD (cg gq (e2_n (pv 1) (EV.toB (jn (aj ao bw)))))) (aj (ER.toD (ad8 (pv 1) (aau ao) aco)) (aj (ER.toD (gn ad9 (by rfl) T.z_list acq (ea_n (pv 1) cj))) (aj (ER.toD (axq (az (pv 1)) (zg ao))) (aj (jn (aj (az (pv 1)) bw)) bw)))))))) (bc (gj (jq (e2_n (pv 4) (EV.toB (ER.toD (jc d20 (hr.mono (by decide)) (by rfl) (eg_n (pv 0) (eg_v ao dw)))))) (fun _ _=>by rfl)))))))
theorem ahn(F:Fun K "_law_right" "_law_right" qy f fd)(T:Txt K mg)(d17:Dd17 P w K mg base)(d34:Dd34 P w K mg base):FnOk P w K mg base CX0 7 f fd ["house","some","there","thing"] (spOf K 4 m5) :=
 jb F ac0 rfl rfl fun cdv A outer s H E hr =>
  (aq (gr (i:=4) ac0.nd rfl (bH rfl) (jc d17 (hr.mono (by decide)) (by rfl) (eg_v (az (pv 0)) (eg_v (az (pv 1)) (eg_v (az (pv 2)) (eg_v (az (pv 3)) dw)))))) (aq (vy (EW.pt (at6 (zj (vq (af0 (t:=.bool) (akj (by rfl) T.z_bool alb) (by rfl) T.z_isinstance ni (dq (pv 4))))) (amb (n8 (alr hr.units) (e2_n (pv 4) (EV.toB (ER.toD (jc d34 (hr.mono (by decide)) (by rfl) (eg_v (az (pv 0)) (eg_n (pv 1) (eg_n (pv 2) (eg_v (az (pv 3)) dw)))))))) (kj _))))) (bc (gj (EV.toR aat))) j5) (bc (gj (adk (agq hr.units) (e2_v (ER.toD (jc d17 (hr.mono (by decide)) (by rfl) (eg_v (az (pv 0)) (eg_v (az (pv 1)) (eg_v (az (pv 2)) (eg_v (az (pv 3)) dw)))))) (dq (pv 4))) (kj _))))))
theorem azp(F:Fun K "law" "law" ahe f fd)(T:Txt K mg)(d37:Dd37 P w K mg base)(d18:Dd18 P w K mg base)(d19:Dd19 P w K mg base)(d31:Dd31 P w K mg base)(d26:Dd26 P w K mg base)(d27:Dd27 P w K mg base)(d29:Dd29 P w K mg base)(d17:Dd17 P w K mg base)(d35:Dd35 P w K mg base)(d22:Dd22 P w K mg base)(d36:Dd36 P w K mg base):FnOk P w K mg base CX0 8 f fd ["script"] (spOf K 1 aqk) :=
 jb F acx rfl rfl fun cdv A outer s H E hr =>
  (aq (z8 cI rfl (za (ER.toD (qp (aj (jn (aj ao bw)) (aj (jn (aj ao bw)) (aj (jn (aj ao bw)) (aj (jn (aj aat bw)) (aj (ER.toD (qp (aj ao bw))) (aj aqm (aj (jn (aj ao (aj ao bw))) bw)))))))))) (dg (i:=1) acx.nd rfl (bH rfl)) (bc (vy (EW.pt (at6 (zj (vq (ER.toD (jc d37 (hr.mono (by decide)) (by rfl) (eg_v (jn (aj (jn (aj (zg ao) (aj ao bw))) bw)) (eg_v (jn (aj ao bw)) (eg_v (jn (aj ao bw)) (eg_v (az (pv 1)) dw)))))))) (amb (zj (vq (ER.toD (jc d37 (hr.mono (by decide)) (by rfl) (eg_v (jn (aj (jn (aj (zg ao) (aj ao bw))) bw)) (eg_v (jn (aj ao bw)) (eg_v (jn (aj ao bw)) (eg_v (az (pv 1)) dw))))))))))) (bc (gj (EV.toR aat))) j5))) (aq (z8 cI rfl (za (ER.toD (cg gq (e2_v (ER.toD (qp (aj (ER.toD (jc d18 (hr.mono (by decide)) (by rfl) (eg_n (pv 0) (eg_v ao dw)))) bw))) (EV.toB (ER.toD (ad8 (pv 0) (aau ao) (aau ao)))))))) (dg (i:=2) acx.nd rfl (bH rfl)) (aq (gr (i:=3) acx.nd rfl (lK rfl) (jc d19 (hr.mono (by decide)) (by rfl) (eg_n (pv 2) dw))) (aq (gr (i:=4) acx.nd rfl (bH rfl) (jc d31 (hr.mono (by decide)) (by rfl) (eg_n (pv 3) dw))) (aq (aym (i:=5) (j:=6) rfl acx.nd rfl rfl (by decide) rfl rfl (aj (ER.toD (jc d26 (hr.mono (by decide)) (by rfl) (eg_n (pv 3) (eg_v (az (pv 4)) dw)))) (aj (ER.toD (jc d27 (hr.mono (by decide)) (by rfl) (eg_n (pv 3) (eg_v (az (pv 4)) (eg_v ao dw))))) bw))) (aq (gr (i:=7) acx.nd rfl (lK rfl) (jq (e2_v (ER.toD (jc d29 (hr.mono (by decide)) (by rfl) (eg_v (az (pv 4)) (eg_n (pv 5) (eg_n (pv 6) dw))))) (EV.toB ao)) (fun _ _=>by rfl))) (aq (vy (axp (EV.toB (ER.toD (jc d17 (hr.mono (by decide)) (by rfl) (eg_v (az (pv 4)) (eg_v (az (pv 5)) (eg_v (az (pv 6)) (eg_v (az (pv 7)) dw)))))))) (bc (gj (EV.toR aat))) j5) (aq (gr (i:=8) acx.nd rfl (bH rfl) (qp (aj (ER.toD (jc d35 (hr.mono (by decide)) (by rfl) (eg_n (pv 4) (eg_n (pv 5) (eg_v (az (pv 7)) dw))))) (aj (ER.toD (gn km (by rfl) T.z_tuple j7 (ea_v (ER.toD (mq [] ["room"] [none] rfl (za (az (pv 4))) (fun _ _ _=>(dg (i:=0) (show(["room"]:List Str).Nodup by decide +kernel) rfl (bH rfl))) (fun _ _ _=>qu) (fun _ _ _=>ao))) cj))) (aj (az (pv 6)) (aj (ER.toD (jc d22 (hr.mono (by decide)) (by rfl) (eg_n (pv 3) dw))) bw)))))) (bc (z8 cI rfl (za (ER.toD (cg gq (e2_n (pv 8) (EV.toB (ER.toD (mq ["pen","gone"] ["turn","pen","gone"] [none,some 3,some 7] rfl (vg (by rfl) T.z_range (aj ao bw)) (fun _ _ _=>(dg (i:=0) (show(["turn","pen","gone"]:List Str).Nodup by decide +kernel) rfl (bH rfl))) (fun _ _ _=>qu) (fun _ _ _=>(ER.toD (jc d36 (hr.mono (by decide)) (by rfl) (eg_n (pv 1) (eg_n (pv 2) dw)))))))))))) (dg (i:=1) acx.nd rfl (bH rfl)) (aq (vy (zj (vq (ER.toD (jc d37 (hr.mono (by decide)) (by rfl) (eg_v (az (pv 4)) (eg_v (az (pv 5)) (eg_v (az (pv 6)) (eg_v (az (pv 1)) dw)))))))) (bc (gj (EV.toR aat))) j5) (bc (vy (EW.pt (aql (n8 (awg hr.units) (e2_n (pv 1) (dq (pv 7))) (kj _)) (ak4 (vq (ER.toD (jc d17 (hr.mono (by decide)) (by rfl) (eg_v (az (pv 4)) (eg_v (az (pv 5)) (eg_v (az (pv 6)) (eg_v (az (pv 1)) dw)))))))))) (bc (gj (EV.toR aat))) j5)))))))))))) (bc (gj (EV.toR aat)))))
end
theorem a09{l:pO}{w:World}{K:Fg9}{h:Heap}{mg:Str->Option Value}{fa f0' f1' f2' f3' f4' f5' f6' f7' f8' f9' f10' f11' f12' f13' f14' f15' f16' f17' f18' f19' f20' f21' f22' f23' f24' f25' f26' f27' f28' f29' f30' f31' f32' f33' f34' f35' f36' f37' f38':Addr}(X:K.In h)(G:h.Ns aO mg)(hfa:mg "law" = some (.ref fa))
  {od0 an0 od1 an1 od2 an2 od3 an3 od4 an4 od5 an5 od6 an6 od7 an7 od8 an8 od9 an9 od10 an10 od11 an11 od12 an12 od13 an13 od14 an14 od15 an15 od16 an16 od17 an17 od18 an18 od19 an19 od20 an20 od21 an21 od22 an22 od23 an23 od24 an24 od25 an25 od26 an26 od27 an27 od28 an28 od29 an29 od30 an30 od31 an31 od32 an32 od33 an33 od34 an34 od35 an35 od36 an36 od37 an37 od38 an38:Option Addr} {sl0 sl1 sl2 sl3 sl4 sl5 sl6 sl7 sl8 sl9 sl10 sl11 sl12 sl13 sl14 sl15 sl16 sl17 sl18 sl19 sl20 sl21 sl22 sl23 sl24 sl25 sl26 sl27 sl28 sl29 sl30 sl31 sl32 sl33 sl34 sl35 sl36 sl37 sl38:Array (Option Value)} {oc0 kV0 dc0 pm0 cd0 ct0 oc1 kV1 dc1 pm1 cd1 ct1 oc2 kV2 dc2 pm2 cd2 ct2 oc3 kV3 dc3 pm3 cd3 ct3 oc4 kV4 dc4 pm4 cd4 ct4 oc5 kV5 dc5 pm5 cd5 ct5 oc6 kV6 dc6 pm6 cd6 ct6 oc7 kV7 dc7 pm7 cd7 ct7 oc8 kV8 dc8 pm8 cd8 ct8 oc9 kV9 dc9 pm9 cd9 ct9 oc10 kV10 dc10 pm10 cd10 ct10 oc11 kV11 dc11 pm11 cd11 ct11 oc12 kV12 dc12 pm12 cd12 ct12 oc13 kV13 dc13 pm13 cd13 ct13 oc14 kV14 dc14 pm14 cd14 ct14 oc15 kV15 dc15 pm15 cd15 ct15 oc16 kV16 dc16 pm16 cd16 ct16 oc17 kV17 dc17 pm17 cd17 ct17 oc18 kV18 dc18 pm18 cd18 ct18 oc19 kV19 dc19 pm19 cd19 ct19 oc20 kV20 dc20 pm20 cd20 ct20 oc21 kV21 dc21 pm21 cd21 ct21 oc22 kV22 dc22 pm22 cd22 ct22 oc23 kV23 dc23 pm23 cd23 ct23 oc24 kV24 dc24 pm24 cd24 ct24 oc25 kV25 dc25 pm25 cd25 ct25 oc26 kV26 dc26 pm26 cd26 ct26 oc27 kV27 dc27 pm27 cd27 ct27 oc28 kV28 dc28 pm28 cd28 ct28 oc29 kV29 dc29 pm29 cd29 ct29 oc30 kV30 dc30 pm30 cd30 ct30 oc31 kV31 dc31 pm31 cd31 ct31 oc32 kV32 dc32 pm32 cd32 ct32 oc33 kV33 dc33 pm33 cd33 ct33 oc34 kV34 dc34 pm34 cd34 ct34 oc35 kV35 dc35 pm35 cd35 ct35 oc36 kV36 dc36 pm36 cd36 ct36 oc37 kV37 dc37 pm37 cd37 ct37 oc38 kV38 dc38 pm38 cd38 ct38:Value}
  {tk_MOST_WALKERS:Tok}
  (a0:nsIn K aO "is_whole" = some (some (.ref f0'))) (l0:K.lookup f0'=some ⟨oc0,od0,.func (fnOf "is_whole" "is_whole" (dz wg) (dj wg) (ak wg) .none kV0 dc0 pm0 an0 cd0 ct0),sl0⟩) (c0:fB K cd0 "is_whole" = true) (k0:eH K (.ref f0')=true)
  (a1:nsIn K aO "is_whole_within" = some (some (.ref f1'))) (l1:K.lookup f1'=some ⟨oc1,od1,.func (fnOf "is_whole_within" "is_whole_within" (dz jx) (dj jx) (ak jx) .none kV1 dc1 pm1 an1 cd1 ct1),sl1⟩) (c1:fB K cd1 "is_whole_within" = true) (k1:eH K (.ref f1')=true)
  (a2:nsIn K aO "is_tuple_within" = some (some (.ref f2'))) (l2:K.lookup f2'=some ⟨oc2,od2,.func (fnOf "is_tuple_within" "is_tuple_within" (dz jy) (dj jy) (ak jy) .none kV2 dc2 pm2 an2 cd2 ct2),sl2⟩) (c2:fB K cd2 "is_tuple_within" = true) (k2:eH K (.ref f2')=true)
  (a3:nsIn K aO "trap" = some (some (.ref f3'))) (l3:K.lookup f3'=some ⟨oc3,od3,.func (fnOf "trap" "trap" (dz agn) (dj agn) (ak agn) .none kV3 dc3 pm3 an3 cd3 ct3),sl3⟩) (c3:fB K cd3 "trap" = true) (k3:eH K (.ref f3')=true)
  (a4:nsIn K aO "refuse_not_open" = some (some (.ref f4'))) (l4:K.lookup f4'=some ⟨oc4,od4,.func (fnOf "refuse_not_open" "refuse_not_open" (dz ju) (dj ju) (ak ju) .none kV4 dc4 pm4 an4 cd4 ct4),sl4⟩) (c4:fB K cd4 "refuse_not_open" = true) (k4:eH K (.ref f4')=true)
  (a5:nsIn K aO "is_arrows" = some (some (.ref f5'))) (l5:K.lookup f5'=some ⟨oc5,od5,.func (fnOf "is_arrows" "is_arrows" (dz t7) (dj t7) (ak t7) .none kV5 dc5 pm5 an5 cd5 ct5),sl5⟩) (c5:fB K cd5 "is_arrows" = true) (k5:eH K (.ref f5')=true)
  (a6:nsIn K aO "refuse_no_arrows" = some (some (.ref f6'))) (l6:K.lookup f6'=some ⟨oc6,od6,.func (fnOf "refuse_no_arrows" "refuse_no_arrows" (dz jo) (dj jo) (ak jo) .none kV6 dc6 pm6 an6 cd6 ct6),sl6⟩) (c6:fB K cd6 "refuse_no_arrows" = true) (k6:eH K (.ref f6')=true)
  (a7:nsIn K aO "turned_by" = some (some (.ref f7'))) (l7:K.lookup f7'=some ⟨oc7,od7,.func (fnOf "turned_by" "turned_by" (dz tu) (dj tu) (ak tu) .none kV7 dc7 pm7 an7 cd7 ct7),sl7⟩) (c7:fB K cd7 "turned_by" = true) (k7:eH K (.ref f7')=true)
  (a8:nsIn K aO "last_ways" = some (some (.ref f8'))) (l8:K.lookup f8'=some ⟨oc8,od8,.func (fnOf "last_ways" "last_ways" (dz t6) (dj t6) (ak t6) .none kV8 dc8 pm8 an8 cd8 ct8),sl8⟩) (c8:fB K cd8 "last_ways" = true) (k8:eH K (.ref f8')=true)
  (a9:nsIn K aO "going_round" = some (some (.ref f9'))) (l9:K.lookup f9'=some ⟨oc9,od9,.func (fnOf "going_round" "going_round" (dz qd) (dj qd) (ak qd) .none kV9 dc9 pm9 an9 cd9 ct9),sl9⟩) (c9:fB K cd9 "going_round" = true) (k9:eH K (.ref f9')=true)
  (a10:nsIn K aO "is_walkers" = some (some (.ref f10'))) (l10:K.lookup f10'=some ⟨oc10,od10,.func (fnOf "is_walkers" "is_walkers" (dz qw) (dj qw) (ak qw) .none kV10 dc10 pm10 an10 cd10 ct10),sl10⟩) (c10:fB K cd10 "is_walkers" = true) (k10:eH K (.ref f10')=true)
  (a11:nsIn K aO "refuse_no_walkers" = some (some (.ref f11'))) (l11:K.lookup f11'=some ⟨oc11,od11,.func (fnOf "refuse_no_walkers" "refuse_no_walkers" (dz jh) (dj jh) (ak jh) .none kV11 dc11 pm11 an11 cd11 ct11),sl11⟩) (c11:fB K cd11 "refuse_no_walkers" = true) (k11:eH K (.ref f11')=true)
  (a12:nsIn K aO "uses_of" = some (some (.ref f12'))) (l12:K.lookup f12'=some ⟨oc12,od12,.func (fnOf "uses_of" "uses_of" (dz z9) (dj z9) (ak z9) .none kV12 dc12 pm12 an12 cd12 ct12),sl12⟩) (c12:fB K cd12 "uses_of" = true) (k12:eH K (.ref f12')=true)
  (a13:nsIn K aO "uses_of_all" = some (some (.ref f13'))) (l13:K.lookup f13'=some ⟨oc13,od13,.func (fnOf "uses_of_all" "uses_of_all" (dz p8) (dj p8) (ak p8) .none kV13 dc13 pm13 an13 cd13 ct13),sl13⟩) (c13:fB K cd13 "uses_of_all" = true) (k13:eH K (.ref f13')=true)
  (a14:nsIn K aO "refuse_no_crowd" = some (some (.ref f14'))) (l14:K.lookup f14'=some ⟨oc14,od14,.func (fnOf "refuse_no_crowd" "refuse_no_crowd" (dz jw) (dj jw) (ak jw) .none kV14 dc14 pm14 an14 cd14 ct14),sl14⟩) (c14:fB K cd14 "refuse_no_crowd" = true) (k14:eH K (.ref f14')=true)
  (a15:nsIn K aO "is_leavings" = some (some (.ref f15'))) (l15:K.lookup f15'=some ⟨oc15,od15,.func (fnOf "is_leavings" "is_leavings" (dz qb) (dj qb) (ak qb) .none kV15 dc15 pm15 an15 cd15 ct15),sl15⟩) (c15:fB K cd15 "is_leavings" = true) (k15:eH K (.ref f15')=true)
  (a16:nsIn K aO "come_by" = some (some (.ref f16'))) (l16:K.lookup f16'=some ⟨oc16,od16,.func (fnOf "come_by" "come_by" (dz aab) (dj aab) (ak aab) .none kV16 dc16 pm16 an16 cd16 ct16),sl16⟩) (c16:fB K cd16 "come_by" = true) (k16:eH K (.ref f16')=true)
  (a17:nsIn K aO "is_rest" = some (some (.ref f17'))) (l17:K.lookup f17'=some ⟨oc17,od17,.func (fnOf "is_rest" "is_rest" (dz aaa) (dj aaa) (ak aaa) .none kV17 dc17 pm17 an17 cd17 ct17),sl17⟩) (c17:fB K cd17 "is_rest" = true) (k17:eH K (.ref f17')=true)
  (a18:nsIn K aO "_law_cell" = some (some (.ref f18'))) (l18:K.lookup f18'=some ⟨oc18,od18,.func (fnOf "_law_cell" "_law_cell" (dz um) (dj um) (ak um) .none kV18 dc18 pm18 an18 cd18 ct18),sl18⟩) (c18:fB K cd18 "_law_cell" = true) (k18:eH K (.ref f18')=true)
  (a19:nsIn K aO "_law_pen" = some (some (.ref f19'))) (l19:K.lookup f19'=some ⟨oc19,od19,.func (fnOf "_law_pen" "_law_pen" (dz wj) (dj wj) (ak wj) .none kV19 dc19 pm19 an19 cd19 ct19),sl19⟩) (c19:fB K cd19 "_law_pen" = true) (k19:eH K (.ref f19')=true)
  (a20:nsIn K aO "_law_draw" = some (some (.ref f20'))) (l20:K.lookup f20'=some ⟨oc20,od20,.func (fnOf "_law_draw" "_law_draw" (dz uh) (dj uh) (ak uh) .none kV20 dc20 pm20 an20 cd20 ct20),sl20⟩) (c20:fB K cd20 "_law_draw" = true) (k20:eH K (.ref f20')=true)
  (a21:nsIn K aO "_law_whole" = some (some (.ref f21'))) (l21:K.lookup f21'=some ⟨oc21,od21,.func (fnOf "_law_whole" "_law_whole" (dz qx) (dj qx) (ak qx) .none kV21 dc21 pm21 an21 cd21 ct21),sl21⟩) (c21:fB K cd21 "_law_whole" = true) (k21:eH K (.ref f21')=true)
  (a22:nsIn K aO "_law_odd" = some (some (.ref f22'))) (l22:K.lookup f22'=some ⟨oc22,od22,.func (fnOf "_law_odd" "_law_odd" (dz wk) (dj wk) (ak wk) .none kV22 dc22 pm22 an22 cd22 ct22),sl22⟩) (c22:fB K cd22 "_law_odd" = true) (k22:eH K (.ref f22')=true)
  (a23:nsIn K aO "_law_house" = some (some (.ref f23'))) (l23:K.lookup f23'=some ⟨oc23,od23,.func (fnOf "_law_house" "_law_house" (dz qz) (dj qz) (ak qz) .none kV23 dc23 pm23 an23 cd23 ct23),sl23⟩) (c23:fB K cd23 "_law_house" = true) (k23:eH K (.ref f23')=true)
  (a24:nsIn K aO "_law_reached" = some (some (.ref f24'))) (l24:K.lookup f24'=some ⟨oc24,od24,.func (fnOf "_law_reached" "_law_reached" (dz nu) (dj nu) (ak nu) .none kV24 dc24 pm24 an24 cd24 ct24),sl24⟩) (c24:fB K cd24 "_law_reached" = true) (k24:eH K (.ref f24')=true)
  (a25:nsIn K aO "_law_open" = some (some (.ref f25'))) (l25:K.lookup f25'=some ⟨oc25,od25,.func (fnOf "_law_open" "_law_open" (dz ud) (dj ud) (ak ud) .none kV25 dc25 pm25 an25 cd25 ct25),sl25⟩) (c25:fB K cd25 "_law_open" = true) (k25:eH K (.ref f25')=true)
  (a26:nsIn K aO "_law_drawn" = some (some (.ref f26'))) (l26:K.lookup f26'=some ⟨oc26,od26,.func (fnOf "_law_drawn" "_law_drawn" (dz rm) (dj rm) (ak rm) .none kV26 dc26 pm26 an26 cd26 ct26),sl26⟩) (c26:fB K cd26 "_law_drawn" = true) (k26:eH K (.ref f26')=true)
  (a27:nsIn K aO "_law_walkers" = some (some (.ref f27'))) (l27:K.lookup f27'=some ⟨oc27,od27,.func (fnOf "_law_walkers" "_law_walkers" (dz nq) (dj nq) (ak nq) .none kV27 dc27 pm27 an27 cd27 ct27),sl27⟩) (c27:fB K cd27 "_law_walkers" = true) (k27:eH K (.ref f27')=true)
  (a28:nsIn K aO "_law_left" = some (some (.ref f28'))) (l28:K.lookup f28'=some ⟨oc28,od28,.func (fnOf "_law_left" "_law_left" (dz uf) (dj uf) (ak uf) .none kV28 dc28 pm28 an28 cd28 ct28),sl28⟩) (c28:fB K cd28 "_law_left" = true) (k28:eH K (.ref f28')=true)
  (a29:nsIn K aO "_law_rest" = some (some (.ref f29'))) (l29:K.lookup f29'=some ⟨oc29,od29,.func (fnOf "_law_rest" "_law_rest" (dz uc) (dj uc) (ak uc) .none kV29 dc29 pm29 an29 cd29 ct29),sl29⟩) (c29:fB K cd29 "_law_rest" = true) (k29:eH K (.ref f29')=true)
  (a30:nsIn K aO "_law_counts" = some (some (.ref f30'))) (l30:K.lookup f30'=some ⟨oc30,od30,.func (fnOf "_law_counts" "_law_counts" (dz qe) (dj qe) (ak qe) .none kV30 dc30 pm30 an30 cd30 ct30),sl30⟩) (c30:fB K cd30 "_law_counts" = true) (k30:eH K (.ref f30')=true)
  (a31:nsIn K aO "_law_wide" = some (some (.ref f31'))) (l31:K.lookup f31'=some ⟨oc31,od31,.func (fnOf "_law_wide" "_law_wide" (dz t8) (dj t8) (ak t8) .none kV31 dc31 pm31 an31 cd31 ct31),sl31⟩) (c31:fB K cd31 "_law_wide" = true) (k31:eH K (.ref f31')=true)
  (a32:nsIn K aO "_law_fits" = some (some (.ref f32'))) (l32:K.lookup f32'=some ⟨oc32,od32,.func (fnOf "_law_fits" "_law_fits" (dz ug) (dj ug) (ak ug) .none kV32 dc32 pm32 an32 cd32 ct32),sl32⟩) (c32:fB K cd32 "_law_fits" = true) (k32:eH K (.ref f32')=true)
  (a33:nsIn K aO "_law_round_nowhere" = some (some (.ref f33'))) (l33:K.lookup f33'=some ⟨oc33,od33,.func (fnOf "_law_round_nowhere" "_law_round_nowhere" (dz jd) (dj jd) (ak jd) .none kV33 dc33 pm33 an33 cd33 ct33),sl33⟩) (c33:fB K cd33 "_law_round_nowhere" = true) (k33:eH K (.ref f33')=true)
  (a34:nsIn K aO "_law_due" = some (some (.ref f34'))) (l34:K.lookup f34'=some ⟨oc34,od34,.func (fnOf "_law_due" "_law_due" (dz wu) (dj wu) (ak wu) .none kV34 dc34 pm34 an34 cd34 ct34),sl34⟩) (c34:fB K cd34 "_law_due" = true) (k34:eH K (.ref f34')=true)
  (a35:nsIn K aO "_law_more" = some (some (.ref f35'))) (l35:K.lookup f35'=some ⟨oc35,od35,.func (fnOf "_law_more" "_law_more" (dz ue) (dj ue) (ak ue) .none kV35 dc35 pm35 an35 cd35 ct35),sl35⟩) (c35:fB K cd35 "_law_more" = true) (k35:eH K (.ref f35')=true)
  (a36:nsIn K aO "_law_bent" = some (some (.ref f36'))) (l36:K.lookup f36'=some ⟨oc36,od36,.func (fnOf "_law_bent" "_law_bent" (dz uq) (dj uq) (ak uq) .none kV36 dc36 pm36 an36 cd36 ct36),sl36⟩) (c36:fB K cd36 "_law_bent" = true) (k36:eH K (.ref f36')=true)
  (a37:nsIn K aO "_law_right" = some (some (.ref f37'))) (l37:K.lookup f37'=some ⟨oc37,od37,.func (fnOf "_law_right" "_law_right" (dz qy) (dj qy) (ak qy) .none kV37 dc37 pm37 an37 cd37 ct37),sl37⟩) (c37:fB K cd37 "_law_right" = true) (k37:eH K (.ref f37')=true)
  (a38:nsIn K aO "law" = some (some (.ref f38'))) (l38:K.lookup f38'=some ⟨oc38,od38,.func (fnOf "law" "law" (dz ahe) (dj ahe) (ak ahe) .none kV38 dc38 pm38 an38 cd38 ct38),sl38⟩) (c38:fB K cd38 "law" = true) (k38:eH K (.ref f38')=true)
  (g_MOST_WALKERS:nsIn K aO "MOST_WALKERS" = some (some (.int 100 tk_MOST_WALKERS)))
  (y_all:nsIn K aO "all" = some none)
  (y_bool:nsIn K aO "bool" = some none)
  (y_divmod:nsIn K aO "divmod" = some none)
  (y_enumerate:nsIn K aO "enumerate" = some none)
  (y_int:nsIn K aO "int" = some none)
  (y_isinstance:nsIn K aO "isinstance" = some none)
  (y_len:nsIn K aO "len" = some none)
  (y_list:nsIn K aO "list" = some none)
  (y_max:nsIn K aO "max" = some none)
  (y_min:nsIn K aO "min" = some none)
  (y_range:nsIn K aO "range" = some none)
  (y_set:nsIn K aO "set" = some none)
  (y_sorted:nsIn K aO "sorted" = some none)
  (y_tuple:nsIn K aO "tuple" = some none)
  (y_zip:nsIn K aO "zip" = some none)
  : ∃fd:fO,(∀(s:aJ) (v:Value),oX s fd ⟨[v],[]⟩ [("script", v)])/\∀base:Heap,K.In base->base.Ns aO mg->FnOk l.prog w K mg base CX0 8 fa fd ["script"] (spOf K 1 aqk):=by
 have e:=hfa.symm.trans (mg_of X G a38);cases e;have T:Txt K mg:=⟨⟨_,mg_of X G g_MOST_WALKERS⟩,fP X G y_all,fP X G y_bool,fP X G y_divmod,fP X G y_enumerate,fP X G y_int,fP X G y_isinstance,fP X G y_len,fP X G y_list,fP X G y_max,fP X G y_min,fP X G y_range,fP X G y_set,fP X G y_sorted,fP X G y_tuple,fP X G y_zip⟩;have F0:=iu (st:=wg) l0 c0 k0;have b0:=F0.binds (ps:=["thing"]) fun _ _ _ _ _ _ us hl=>by obtain⟨_,rfl⟩:=ln1 hl;rfl
 have F1:=iu (st:=jx) l1 c1 k1;have b1:=F1.binds (ps:=["thing","least","most"]) fun _ _ _ _ _ _ us hl=>by obtain⟨_,_,_,rfl⟩:=ln3 hl;rfl
 have F2:=iu (st:=jy) l2 c2 k2;have b2:=F2.binds (ps:=["thing","least","most"]) fun _ _ _ _ _ _ us hl=>by obtain⟨_,_,_,rfl⟩:=ln3 hl;rfl
 have F3:=iu (st:=agn) l3 c3 k3;have b3:=F3.binds (ps:=["house"]) fun _ _ _ _ _ _ us hl=>by obtain⟨_,rfl⟩:=ln1 hl;rfl
 have F4:=iu (st:=ju) l4 c4 k4;have b4:=F4.binds (ps:=["house"]) fun _ _ _ _ _ _ us hl=>by obtain⟨_,rfl⟩:=ln1 hl;rfl
 have F5:=iu (st:=t7) l5 c5 k5;have b5:=F5.binds (ps:=["house","thing"]) fun _ _ _ _ _ _ us hl=>by obtain⟨_,_,rfl⟩:=ln2 hl;rfl
 have F6:=iu (st:=jo) l6 c6 k6;have b6:=F6.binds (ps:=["house","thing"]) fun _ _ _ _ _ _ us hl=>by obtain⟨_,_,rfl⟩:=ln2 hl;rfl
 have F7:=iu (st:=tu) l7 c7 k7;have b7:=F7.binds (ps:=["house","arrows","turns"]) fun _ _ _ _ _ _ us hl=>by obtain⟨_,_,_,rfl⟩:=ln3 hl;rfl
 have F8:=iu (st:=t6) l8 c8 k8;have b8:=F8.binds (ps:=["house","arrows"]) fun _ _ _ _ _ _ us hl=>by obtain⟨_,_,rfl⟩:=ln2 hl;rfl
 have F9:=iu (st:=qd) l9 c9 k9;have b9:=F9.binds (ps:=["last","rooms"]) fun _ _ _ _ _ _ us hl=>by obtain⟨_,_,rfl⟩:=ln2 hl;rfl
 have F10:=iu (st:=qw) l10 c10 k10;have b10:=F10.binds (ps:=["house","thing","most"]) fun _ _ _ _ _ _ us hl=>by obtain⟨_,_,_,rfl⟩:=ln3 hl;rfl
 have F11:=iu (st:=jh) l11 c11 k11;have b11:=F11.binds (ps:=["house","thing"]) fun _ _ _ _ _ _ us hl=>by obtain⟨_,_,rfl⟩:=ln2 hl;rfl
 have F12:=iu (st:=z9) l12 c12 k12;have b12:=F12.binds (ps:=["doors_many","arrow","leavings"]) fun _ _ _ _ _ _ us hl=>by obtain⟨_,_,_,rfl⟩:=ln3 hl;rfl
 have F13:=iu (st:=p8) l13 c13 k13;have b13:=F13.binds (ps:=["house","arrows","leavings"]) fun _ _ _ _ _ _ us hl=>by obtain⟨_,_,_,rfl⟩:=ln3 hl;rfl
 have F14:=iu (st:=jw) l14 c14 k14;have b14:=F14.binds (ps:=["house","arrows","walkers"]) fun _ _ _ _ _ _ us hl=>by obtain⟨_,_,_,rfl⟩:=ln3 hl;rfl
 have F15:=iu (st:=qb) l15 c15 k15;have b15:=F15.binds (ps:=["house","thing"]) fun _ _ _ _ _ _ us hl=>by obtain⟨_,_,rfl⟩:=ln2 hl;rfl
 have F16:=iu (st:=aab) l16 c16 k16;have b16:=F16.binds (ps:=["house","uses"]) fun _ _ _ _ _ _ us hl=>by obtain⟨_,_,rfl⟩:=ln2 hl;rfl
 have F17:=iu (st:=aaa) l17 c17 k17;have b17:=F17.binds (ps:=["house","arrows","walkers","thing"]) fun _ _ _ _ _ _ us hl=>by obtain⟨_,_,_,_,rfl⟩:=ln4 hl;rfl
 have F18:=iu (st:=um) l18 c18 k18;have b18:=F18.binds (ps:=["script","k"]) fun _ _ _ _ _ _ us hl=>by obtain⟨_,_,rfl⟩:=ln2 hl;rfl
 have F19:=iu (st:=wj) l19 c19 k19;have b19:=F19.binds (ps:=["cell"]) fun _ _ _ _ _ _ us hl=>by obtain⟨_,rfl⟩:=ln1 hl;rfl
 have F20:=iu (st:=uh) l20 c20 k20;have b20:=F20.binds (ps:=["pen","many"]) fun _ _ _ _ _ _ us hl=>by obtain⟨_,_,rfl⟩:=ln2 hl;rfl
 have F21:=iu (st:=qx) l21 c21 k21;have b21:=F21.binds (ps:=["thing"]) fun _ _ _ _ _ _ us hl=>by obtain⟨_,rfl⟩:=ln1 hl;rfl
 have F22:=iu (st:=wk) l22 c22 k22;have b22:=F22.binds (ps:=["pen"]) fun _ _ _ _ _ _ us hl=>by obtain⟨_,rfl⟩:=ln1 hl;rfl
 have F23:=iu (st:=qz) l23 c23 k23;have b23:=F23.binds (ps:=["pen","most","doors"]) fun _ _ _ _ _ _ us hl=>by obtain⟨_,_,_,rfl⟩:=ln3 hl;rfl
 have F24:=iu (st:=nu) l24 c24 k24;have b24:=F24.binds (ps:=["house","room"]) fun _ _ _ _ _ _ us hl=>by obtain⟨_,_,rfl⟩:=ln2 hl;rfl
 have F25:=iu (st:=ud) l25 c25 k25;have b25:=F25.binds (ps:=["pen","most","doors"]) fun _ _ _ _ _ _ us hl=>by obtain⟨_,_,_,rfl⟩:=ln3 hl;rfl
 have F26:=iu (st:=rm) l26 c26 k26;have b26:=F26.binds (ps:=["pen","house"]) fun _ _ _ _ _ _ us hl=>by obtain⟨_,_,rfl⟩:=ln2 hl;rfl
 have F27:=iu (st:=nq) l27 c27 k27;have b27:=F27.binds (ps:=["pen","house","most"]) fun _ _ _ _ _ _ us hl=>by obtain⟨_,_,_,rfl⟩:=ln3 hl;rfl
 have F28:=iu (st:=uf) l28 c28 k28;have b28:=F28.binds (ps:=["house","some","there","gates","room"]) fun _ _ _ _ _ _ us hl=>by obtain⟨_,_,_,_,_,rfl⟩:=ln5 hl;rfl
 have F29:=iu (st:=uc) l29 c29 k29;have b29:=F29.binds (ps:=["house","some","there"]) fun _ _ _ _ _ _ us hl=>by obtain⟨_,_,_,rfl⟩:=ln3 hl;rfl
 have F30:=iu (st:=qe) l30 c30 k30;have b30:=F30.binds (ps:=["thing","many"]) fun _ _ _ _ _ _ us hl=>by obtain⟨_,_,rfl⟩:=ln2 hl;rfl
 have F31:=iu (st:=t8) l31 c31 k31;have b31:=F31.binds (ps:=["pen"]) fun _ _ _ _ _ _ us hl=>by obtain⟨_,rfl⟩:=ln1 hl;rfl
 have F32:=iu (st:=ug) l32 c32 k32;have b32:=F32.binds (ps:=["house","some","there","gone"]) fun _ _ _ _ _ _ us hl=>by obtain⟨_,_,_,_,rfl⟩:=ln4 hl;rfl
 have F33:=iu (st:=jd) l33 c33 k33;have b33:=F33.binds (ps:=["house","some","gone"]) fun _ _ _ _ _ _ us hl=>by obtain⟨_,_,_,rfl⟩:=ln3 hl;rfl
 have F34:=iu (st:=wu) l34 c34 k34;have b34:=F34.binds (ps:=["house","some","there","thing"]) fun _ _ _ _ _ _ us hl=>by obtain⟨_,_,_,_,rfl⟩:=ln4 hl;rfl
 have F35:=iu (st:=ue) l35 c35 k35;have b35:=F35.binds (ps:=["house","some","gone"]) fun _ _ _ _ _ _ us hl=>by obtain⟨_,_,_,rfl⟩:=ln3 hl;rfl
 have F36:=iu (st:=uq) l36 c36 k36;have b36:=F36.binds (ps:=["pen","gone"]) fun _ _ _ _ _ _ us hl=>by obtain⟨_,_,rfl⟩:=ln2 hl;rfl
 have F37:=iu (st:=qy) l37 c37 k37;have b37:=F37.binds (ps:=["house","some","there","thing"]) fun _ _ _ _ _ _ us hl=>by obtain⟨_,_,_,_,rfl⟩:=ln4 hl;rfl
 have F38:=iu (st:=ahe) l38 c38 k38;refine⟨fnOf "law" "law" (dz ahe) (dj ahe) (ak ahe) .none kV38 dc38 pm38 an38 cd38 ct38,fun s v=>.of_eq rfl,fun base _ _ =>?_⟩
 have d0:Dd0 l.prog w K mg base:=⟨f0',_,akn F0 T,mg_of X G a0,k0,b0⟩;have d1:Dd1 l.prog w K mg base:=⟨f1',_,ac7 F1 T d0,mg_of X G a1,k1,b1⟩;have d2:Dd2 l.prog w K mg base:=⟨f2',_,ac8 F2 T,mg_of X G a2,k2,b2⟩;have d3:Dd3 l.prog w K mg base:=⟨f3',_,awj F3 T,mg_of X G a3,k3,b3⟩;have d4:Dd4 l.prog w K mg base:=⟨f4',_,ac5 F4 T d3,mg_of X G a4,k4,b4⟩;have d5:Dd5 l.prog w K mg base:=⟨f5',_,aiy F5 T d2 d1,mg_of X G a5,k5,b5⟩;have d6:Dd6 l.prog w K mg base:=⟨f6',_,acg F6 T d5,mg_of X G a6,k6,b6⟩;have d7:Dd7 l.prog w K mg base:=⟨f7',_,aiw F7 T,mg_of X G a7,k7,b7⟩;have d8:Dd8 l.prog w K mg base:=⟨f8',_,aix F8 T,mg_of X G a8,k8,b8⟩;have d9:Dd9 l.prog w K mg base:=⟨f9',_,agg F9 T,mg_of X G a9,k9,b9⟩;have d10:Dd10 l.prog w K mg base:=⟨f10',_,ahl F10 T d2 d1,mg_of X G a10,k10,b10⟩;have d11:Dd11 l.prog w K mg base:=⟨f11',_,ab3 F11 T d10,mg_of X G a11,k11,b11⟩;have d12:Dd12 l.prog w K mg base:=⟨f12',_,ang F12 T,mg_of X G a12,k12,b12⟩;have d13:Dd13 l.prog w K mg base:=⟨f13',_,age F13 T d12,mg_of X G a13,k13,b13⟩;have d14:Dd14 l.prog w K mg base:=⟨f14',_,ac6 F14 T d6 d11,mg_of X G a14,k14,b14⟩;have d15:Dd15 l.prog w K mg base:=⟨f15',_,agf F15 T d2 d0,mg_of X G a15,k15,b15⟩;have d16:Dd16 l.prog w K mg base:=⟨f16',_,ani F16 T,mg_of X G a16,k16,b16⟩;have d17:Dd17 l.prog w K mg base:=⟨f17',_,anh F17 T d14 d4 d15 d13 d16 d7 d8 d9,mg_of X G a17,k17,b17⟩;have d18:Dd18 l.prog w K mg base:=⟨f18',_,ai6 F18 T,mg_of X G a18,k18,b18⟩;have d19:Dd19 l.prog w K mg base:=⟨f19',_,ako F19 T,mg_of X G a19,k19,b19⟩;have d20:Dd20 l.prog w K mg base:=⟨f20',_,ai5 F20 T,mg_of X G a20,k20,b20⟩;have d21:Dd21 l.prog w K mg base:=⟨f21',_,ahm F21 T,mg_of X G a21,k21,b21⟩;have d22:Dd22 l.prog w K mg base:=⟨f22',_,akp F22 T d20,mg_of X G a22,k22,b22⟩;have d23:Dd23 l.prog w K mg base:=⟨f23',_,aho F23 T d20,mg_of X G a23,k23,b23⟩;have d24:Dd24 l.prog w K mg base:=⟨f24',_,afa F24 T,mg_of X G a24,k24,b24⟩;have d25:Dd25 l.prog w K mg base:=⟨f25',_,ai1 F25 T d23 d24 d20,mg_of X G a25,k25,b25⟩;have d26:Dd26 l.prog w K mg base:=⟨f26',_,ahp F26 T d20,mg_of X G a26,k26,b26⟩;have d27:Dd27 l.prog w K mg base:=⟨f27',_,ae9 F27 T d20,mg_of X G a27,k27,b27⟩;have d28:Dd28 l.prog w K mg base:=⟨f28',_,ai3 F28 T,mg_of X G a28,k28,b28⟩;have d29:Dd29 l.prog w K mg base:=⟨f29',_,ai0 F29 T d28,mg_of X G a29,k29,b29⟩;have d30:Dd30 l.prog w K mg base:=⟨f30',_,agh F30 T d21,mg_of X G a30,k30,b30⟩;have d31:Dd31 l.prog w K mg base:=⟨f31',_,aiz F31 T d20 d25,mg_of X G a31,k31,b31⟩;have d32:Dd32 l.prog w K mg base:=⟨f32',_,ai4 F32 T,mg_of X G a32,k32,b32⟩;have d33:Dd33 l.prog w K mg base:=⟨f33',_,aba F33 T,mg_of X G a33,k33,b33⟩;have d34:Dd34 l.prog w K mg base:=⟨f34',_,akq F34 T d30 d32 d33,mg_of X G a34,k34,b34⟩;have d35:Dd35 l.prog w K mg base:=⟨f35',_,ai2 F35 T,mg_of X G a35,k35,b35⟩;have d36:Dd36 l.prog w K mg base:=⟨f36',_,ai7 F36 T d20,mg_of X G a36,k36,b36⟩;have d37:Dd37 l.prog w K mg base:=⟨f37',_,ahn F37 T d17 d34,mg_of X G a37,k37,b37⟩;exact azp F38 T d37 d18 d19 d31 d26 d27 d29 d17 d35 d22 d36
end My
namespace PySem.W.Fast
def tw13796890510544780321:Unit:=()
def tw12464240580301138338:Unit:=()
def tw2935290989182933538:Unit:=()
def tw5038340774726227683:Unit:=()
def tw8811490108060774243:Unit:=()
def tw5806092420963019651:Unit:=()
def tw16115884675613263270:Unit:=()
def tw17791562516791052838:Unit:=()
def tw13126717718589624006:Unit:=()
def tw5529303964114304039:Unit:=()
def tw10577310701859447848:Unit:=()
def tw877980298812603401:Unit:=()
def tw1821535360046268841:Unit:=()
def tw4936150171700510697:Unit:=()
def tw12326366854077409994:Unit:=()
def tw8372113982247939818:Unit:=()
def tw6466668113720461098:Unit:=()
def tw4637534911940972426:Unit:=()
def tw12018476018879230379:Unit:=()
def tw12081189242605611980:Unit:=()
def tw13473848260537200269:Unit:=()
def tw6572162535340845741:Unit:=()
def tw9752538531076402125:Unit:=()
def tw2067293183103190126:Unit:=()
def tw15262317029809820494:Unit:=()
def tw10972876235986778319:Unit:=()
def tw17264530455562934608:Unit:=()
def tw18029936422920474000:Unit:=()
def tw17914233050661052976:Unit:=()
def tw10906822842678531664:Unit:=()
def tw6365981480321304240:Unit:=()
def tw15594562926344908624:Unit:=()
def tw1883805366705941649:Unit:=()
def tw9090423874652044754:Unit:=()
def tw14401483171196912659:Unit:=()
def tw2796547559908764468:Unit:=()
def tw6795197319331406165:Unit:=()
def tw7444083156336692181:Unit:=()
def tw11717695533366835189:Unit:=()
def tw13120229076673823865:Unit:=()
def tw5691204366193132473:Unit:=()
def tw16548873642360520828:Unit:=()
def tw6048291569919957789:Unit:=()
def tw6772807219153046461:Unit:=()
def tw880941720634376189:Unit:=()
def tw246093231765032190:Unit:=()
def tw4297154314952498110:Unit:=()
def tw16968423269589611967:Unit:=()
def tw12537620139958708799:Unit:=()
def tw208019063719677262:Unit:=()
end PySem.W.Fast
open PySem PySem.W PyProof.Rows
set_option maxRecDepth 100000 in
set_option maxHeartbeats 0 in
theorem PySem.Challenge.cw_turnarrows_k20_leavings_by_anybody_holds : PySem.Challenge.rw_turnarrows_k20_leavings_by_anybody.Holds := by
 w_on;o_law;k_head;(case hw=>w_witness2)
 k_fill
 refine Dn.walk (l:=PySem.Challenge.rw_turnarrows_k20_leavings_by_anybody) (f:=My.aqk) (k:=8) My.as9 rfl rfl ⟨rfl,by decide,by decide,rfl⟩ (fun w h Y=>PySem.W.kIn_of Y) ?F
 case F =>
  intro w mg fa h KX G hmg;refine' My.a09 KX G hmg ?_ ?_ ?_ ?_ ?_ ?_ ?_ ?_ ?_ ?_ ?_ ?_ ?_ ?_ ?_ ?_ ?_ ?_ ?_ ?_ ?_ ?_ ?_ ?_ ?_ ?_ ?_ ?_ ?_ ?_ ?_ ?_ ?_ ?_ ?_ ?_ ?_ ?_ ?_ ?_ ?_ ?_ ?_ ?_ ?_ ?_ ?_ ?_ ?_ ?_ ?_ ?_ ?_ ?_ ?_ ?_ ?_ ?_ ?_ ?_ ?_ ?_ ?_ ?_ ?_ ?_ ?_ ?_ ?_ ?_ ?_ ?_ ?_ ?_ ?_ ?_ ?_ ?_ ?_ ?_ ?_ ?_ ?_ ?_ ?_ ?_ ?_ ?_ ?_ ?_ ?_ ?_ ?_ ?_ ?_ ?_ ?_ ?_ ?_ ?_ ?_ ?_ ?_ ?_ ?_ ?_ ?_ ?_ ?_ ?_ ?_ ?_ ?_ ?_ ?_ ?_ ?_ ?_ ?_ ?_ ?_ ?_ ?_ ?_ ?_ ?_ ?_ ?_ ?_ ?_ ?_ ?_ ?_ ?_ ?_ ?_ ?_ ?_ ?_ ?_ ?_ ?_ ?_ ?_ ?_ ?_ ?_ ?_ ?_ ?_ ?_ ?_ ?_ ?_ ?_ ?_ ?_ ?_ ?_ ?_ ?_ ?_ ?_ ?_ ?_ ?_ ?_ ?_ ?_ ?_ ?_ ?_
  any_goals k_is
  all_goals kernel_rfl
