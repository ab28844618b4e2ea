import PyProof.Rows.All
import Wide.All
import OpenK.AllK
import Wide.FinOn
import Lean
import PyProof.EqAt
import PyProof.EqKinds
import PyProof.TupleCall
import PySem.Challenge.RW_turnarrows_k30_rounds_refused
set_option Elab.async false
set_option linter.all false
set_option maxRecDepth 100000
open Option renaming some->ZY,none->ZX
open Bool renaming true->ZW,false->ZV
open Array renaming length_toList->iG,getElem?_eq_some_iff->iY,perm_iff_toList_perm->lZ,getElem?_toList->tO,getD->vD,toList_inj->vK
open Bool renaming and_eq_true->bD,false_ne_true->cY,false_eq_true->jV,and_eq_false_iff->kZ,and_self->pI,or_eq_false_iff->tR,and_eq_true_iff->tU,false_and->wJ,true_and->wW
open Classical renaming byContradiction->eH
open False renaming elim->dI
open ForInStep renaming yield->wC
open Function renaming comp_def->pY
open Int renaming toNat_natCast->cM,eq_of_mul_eq_mul_left->fK,mul_left_comm->fZ,mul_comm->gK,emod_lt_of_pos->gM,emod_eq_of_lt->gW,mul_zero->iQ,mul_add->jG,zero_mul->jM,mul_assoc->jT,add_zero->kY,mul_sub->nD,mul_neg->nF,pow_succ->oG,lt_or_le->oH,one_mul->pA,add_emod_right->pG,mul_le_mul_of_nonneg_right->qH,le_trans->qI,neg_mul->rC,natCast_add->rD,emod_nonneg->rE,fmod_eq_emod_of_nonneg->rJ,fdiv_eq_ediv_of_nonneg->rK,pow_ne_zero->vY,natCast_mul->vZ,mul_eq_zero->wA
open List renaming length_map->aC,getElem?_eq_getElem->aF,getElem?_eq_some_iff->aH,replicate->aJ,mem_cons_of_mem->aK,getElem?_map->aL,size_toArray->aP,mem_cons_self->aQ,range->aV,getElem?_set->aY,getD_eq_getElem?_getD->aZ,getElem?_append_left->bA,map_cons->bB,set->bC,mem_cons->bF,length_cons->bG,lookup->bJ,all_eq_true->bK,nil_append->bO,mem_map->bQ,getElem?_range->bV,getElem?_eq_none->bW,length_append->cC,mem_of_getElem?->cD,lookup_cons_self->cG,map_append->cI,length_set->cJ,mem_append_right->cL,getElem?_append_right->cR,append_assoc->cU,mem_append->cX,foldl_cons->dF,cons_append->dG,pairwise_cons->dN,mem_singleton->dO,contains_iff_mem->dY,getElem_mem->dZ,append_nil->eG,map_map->eV,length_take->eX,mem_filter->fL,getElem?_take_of_lt->fM,getElem?_replicate->fU,replicate_succ->gD,mem_range->gP,ext_getElem?->gU,map_congr_left->iC,length_zipWith->iD,length_replicate->iM,sum_cons->iT,flatten_cons->iU,getElem?_zip_eq_some->jA,length_drop->jE,filterMap_cons->jF,range_succ->jN,nodup_cons->jO,getElem?_cons_succ->jP,findIdx?_eq_some_iff_getElem->jQ,all_cons->jR,getElem?_set_self->jX,length_filter_le->kW,mem_iff_getElem->lE,mem_append_left->lF,getElem?_set_ne->lG,foldl->lL,length_pos_iff->lU,set_cons_zero->mD,set_cons_succ->mF,idxOf_lt_length_iff->mO,range'->nA,not_mem_nil->nH,take_of_length_le->nP,of_mem_zip->nZ,getElem?_zipWith->oA,forIn_cons->oE,count_cons->oF,getElem?_mapIdx->oN,forIn_nil->oV,append_of_mem->pF,nodup_append->pX,toArray->qD,map_id'->qF,take_length->qM,countP_cons->qN,length_zip->qY,length_nil->qZ,filter_map->rA,mem_of_find?_eq_some->rT,findIdx?_eq_none_iff->rW,drop_eq_getElem_cons->rY,findIdx?->sW,any_cons->sX,drop_eq_nil_of_le->tD,getD->tL,length->uC,mem_filterMap->uJ,length_mapIdx->uK,getElem_idxOf->uL,pairwise_map->uT,length_range->uU,length_erase->uV,getElem?_inj->uW,Pairwise.nil->uX,zipIdx_cons->vJ,zipIdx_nil->vU,find?_some->vW,find?_cons->vX,perm_cons->wH,drop_zero->wI,zip->wO,map_take->wQ,map_drop->wR
open Nat renaming le_refl->aM,ne_of_lt->bH,lt_of_lt_of_le->bN,zero_add->cP,le_trans->cW,zero_le->fJ,le_succ->gC,lt_or_ge->gH,lt_irrefl->iR,lt_succ_self->jD,ne_of_gt->jJ,mul_comm->jK,lt_trans->jL,not_lt->jZ,le_of_lt->kO,pow_le_pow_right->lD,succ_mul->nW,gcd->nY,lt_of_le_of_lt->pC,add_sub_cancel->pD,lt_succ_of_lt->pW,succ_le_succ->qL,le_mul_of_pos_right->sU,le_of_eq->tK,mul_le_mul_left->uA,gcd_zero_right->uI,le_succ_of_le->uR,not_lt_zero->vP,min_eq_left->vQ,div_add_mod->vR
open Ne renaming symm->fO
open Option renaming some.inj->bL,map_eq_some_iff->cN,bind_some->jC,isNone_iff_eq_none->rR,isSome_iff_exists->sH,map_eq_none_iff->sZ,getD_none->vI
open Or renaming inl->bM,inr->nG
open PyProof renaming Rows.slot_tuple_getitem->eE,Rows.callWith_type1->gB,Rows.seqObj->iJ,Rows.envOfC->lO,Rows.IntsAre->lW,Rows.AllBare->oK,Rows.IntsAre.allInts->qQ,Rows.sortedAll_old->rH,Rows.sortedAll_at->rQ,Rows.LSm.kept_iter->sY,Rows.IsTup->uD
open PySem renaming wpAny_bind->aA,Heap.get?_push_of_some->aB,Value->aD,Shared->aG,Heap.lt_size->aN,starEach->aO,wpAny_pure->aR,Addr->aU,Heap.get?_push_size->aW,mainGlobals->aX,wpAny_mono->bI,Heap.get?_update_other->bR,wpAny->bU,bootBuiltins->bY,model->bZ,Program->cA,PassesOwn.never->cB,sizeLine->cF,Value.ref->cH,Value.none->cO,Heap.size_push->cQ,Around->cT,Expr->cZ,wpAny_field->dB,NameKind.free->dC,W.kia_one->dD,wpAny_newObj_type->dH,Obj.data_mapFields->dJ,FuncData->dR,World->dU,F.type_list_append->dW,F.slot_list_append->dX,Heap->eF,sizeLine_eq->eN,foldedSetIterable->eQ,Heap.get?_update_self->eU,binaryOp->eY,compareOp->fB,Stmt->fD,W.mg_none_of->fG,Obj.mapSeq->fH,wpAny_holding->fP,W.subIn->fQ,backTo->fV,W.kitOne->fW,Heap.SameBut->fX,W.emptyDict->fY,mem_of_lookup->gA,swapsWith->gF,behindInMarks->gG,NameKind.cell->gJ,W.instObj->gQ,W.hasDictIn->gR,Builtin.Tuple.tupleExact->gY,attributeBase->iB,assignEach->iH,W.callWith_K->iI,Obj.isFreed_of_fields->iK,W.findIn->iV,F.slot_tuple_iterator_next->iW,Scope->iZ,Builtin.Slice.slicePlaces->jB,call_meets->jH,F.slot_int_rmul->jU,W.keepIn->jW,W.specialIn->jY,intItems->kE,W.InstAt->kI,W.isFn->kJ,W.plainGet->lA,W.any_some->lB,Builtin->lC,W.clsIn->lH,closureFor->lJ,rawInt->lM,holding->lN,cellsFrom->lQ,W.KasT.kasWp_bind->lV,Heap.SameBut.update->lX,F.excBase_ValueError->lY,Operator->mC,Builtin.Slice.sliceAdjust->mG,assign->mH,Value.type->mJ,Value.int->mK,F.args_tuple_add_2->mL,AutoSeq1.wpAny_loadPart'->mQ,Value.builtin->mR,W.mroIn->mU,W.excIn->mV,W.Looks->mW,F.slot_list_index->mX,F.plainAttrs_list->mY,F.entry_tuple_add->mZ,F.slot_tuple_mul->nJ,W.cellsFrom_some->nM,F.slot_tuple_add->nO,Str.ofString->nQ,W.takesIn->nR,W.makesIn->nT,W.findObj->nU,W.looks_findIn->oM,W.typeIn->oO,W.notCls->oR,W.lookIn->oU,codeAny->oW,argBest->oX,W.plainGet_of->oY,Keyword->oZ,Obj.mapFields->pB,Calls.spliced_cons->pH,getItem->pJ,callerA->pK,Value.bool->pL,W.plainOver->pN,W.methodObj->pP,W.kitx_list->pQ,PyData.eqv->pR,Obj.cls_mapFields->pU,F.args_int_rmul_2->pZ,BindsTo->qC,IsPart->qG,Code.isFrame->qJ,Around.under->qK,F.slot_int_index->qO,F.entry_int_rmul->qP,F.args_tuple_iterator_next_1->qR,Builtin.divisionGoesByPylong->qT,W.takerIn->qU,W.OpenLaw->qW,PassesOwn->qX,IsZip->rB,F.fills_int_mul->rF,F.entry_tuple_iterator_next->rG,Calls.Name_function_global->rM,Builtin.Tuple.tupleTooMany->rN,Builtin.Tuple.tupleItemsOf->rO,Builtin.Slice.sliceApplied->rP,CmpOp->rZ,Calls.call_function_entry->sE,F.slot_tuple_count->sG,Builtin.List.listTooLong->sI,F.type_list_index->sJ,F.slot_list_count->sO,F.attr_ValueError->sS,NameKind->sV,Value.str->tE,Within->tG,W.Looks.of_pure->tH,Flow.next->tM,Heap.get?_none_of_le->tQ,Around.frames_deeper->tV,Value.float->tW,Shared.heap->tX,nums_intItems->tY,W.looks_subIn->tZ,Model->uB,Heap.get?_update_ne->uE,EntryCells.newEntry->uF,Code.frames->uG,W.codeRec_of->uH,F.args_tuple_mul_2->uM,Calls.Constant_str->uN,call->uO,W.kitx_dict->uP,PyData.canLayAll0->uQ,Heap.get?_push_ne->uY,Heap.SameBut.refl->uZ,F.slot_tuple_rmul->vA,F.entry_tuple_mul->vC,seqSlot_of->vG,W.handedIn->vH,preSum_eq->vL,W.kitMeta->vM,PyData.depthAll->vN,Paired->vO,Heap.DictOf.new->wB,F.slot_zip_next->wD,Code.isCreation->wF,W.kitCls->wG,Value.ref.inj->wK,Value.isStrOf->wL,W.WalkO->wM,PyData.eqvAll->wN,Code.isCaller->wU,CmpOf.ints_lt->wV
open Sum renaming inr->lR,inl->pM
open True renaming intro->lK
noncomputable section
open PySem.W (nsIn mg_of keepIn fnOf codeIn findIn mg_none_of)
abbrev Fg9:=PySem.W.Frag
abbrev LL9:=List (List Int)
section
open PySem PySem.Spec PyProof.Rows
namespace L2
abbrev Key:=Sum Int Str
def ayn:Key->aD->Bool
 |.inl k,v=>Value.isInt k v
 |.inr x,v=>wL x v
def keyH(w:dU):Key->Int
 |.inl k=>hashInt k
 |.inr x=>hashStr w x
theorem mq:∀{k:Key} {v:aD},ayn k v=ZW->(∃i t,k=pM i/\v=mK i t)∨(∃x t,k=lR x/\v=tE x t)
 |.inl i,v,h=>by
  obtain⟨t,e⟩:=Value.isInt_shape (k:=i) (v:=v) h;exact .inl ⟨i,t,rfl,e⟩
 |.inr x,v,h=>by
  obtain⟨t,e⟩:=Value.isStrOf_shape (x:=x) (v:=v) h;exact .inr ⟨x,t,rfl,e⟩
def au7(x:Str)(t:Tok):ayn (.inr x) (.str x t)=ZW:=by simp[ayn,wL]
def a7x(a b:Int):decide ((pM a:Key)=pM b)=(a==b):=by
 by_cases e:a=b
 ·subst e;simp
 ·have h:¬(pM a:Key)=pM b:=λq=>e (Sum.inl.inj q)
  rw[decide_eq_false h];exact(beq_eq_false_iff_ne.mpr e).symm
def a7u(a b:Str):decide ((lR a:Key)=lR b)=decide (a=b):=by
 by_cases e:a=b
 ·subst e;simp
 ·have h:¬(lR a:Key)=lR b:=λq=>e (Sum.inr.inj q)
  rw[decide_eq_false h,decide_eq_false e]
def a7w(a:Int)(b:Str):decide ((pM a:Key)=lR b)=ZV:=decide_eq_false (λq=>nomatch q)
def a7v(a:Str)(b:Int):decide ((lR a:Key)=pM b)=ZV:=decide_eq_false (λq=>nomatch q)
def alg(prog:cA)(w:dU):PySem.KeyKind prog w Key where
 is:=ayn
 hash:=keyH w
 inj:=λv a b ha hb=>by
  rcases mq ha with⟨i,t,rfl,rfl⟩ |⟨x,t,rfl,rfl⟩
  ·rcases mq hb with⟨j,u,rfl,e⟩ |⟨y,u,rfl,e⟩
   ·injection e with e1 _;rw[e1]
   ·exact nomatch e
  ·rcases mq hb with⟨j,u,rfl,e⟩ |⟨y,u,rfl,e⟩
   ·exact nomatch e
   ·injection e with e1 _;rw[e1]
 byValue:=λk v h=>by
  rcases mq h with⟨i,t,rfl,rfl⟩ |⟨x,t,rfl,rfl⟩ <;> rfl
 pyHash:=λhv h=>by
  rcases mq hv with⟨i,t,rfl,rfl⟩ |⟨x,t,rfl,rfl⟩
  ·exact wpAny_pyHash_int h
  ·exact wpAny_pyHash_str h
 eqBool:=λhu hv h=>by
  rcases mq hu with⟨i,t,rfl,rfl⟩ |⟨x,t,rfl,rfl⟩
  ·rcases mq hv with⟨j,u,rfl,rfl⟩ |⟨y,u,rfl,rfl⟩
   ·rw[a7x] at h;exact wpAny_eqBool_int h
   ·rw[a7w] at h;exact SeqAt.EqAt.int_str i t y u _ _ _ _ h
  ·rcases mq hv with⟨j,u,rfl,rfl⟩ |⟨y,u,rfl,rfl⟩
   ·rw[a7v] at h;exact SeqAt.EqAt.str_int x t j u _ _ _ _ h
   ·rw[a7u] at h;exact wpAny_eqBool_str h
 «strs» := λk x t v h=>by
  rcases mq h with⟨i,u,rfl,e⟩ |⟨y,u,rfl,e⟩
  ·exact nomatch e
  ·injection e with e1 _
   subst e1;cases v <;> rfl
def ao2(prog:cA)(w:dU)(x:Str)(t:Tok):(alg prog w).is (.inr x) (.str x t)=ZW:=au7 x t
def IsTp(h:eF)(a:aU)(items:Array aD):Prop:=∃o,h.get? a=ZY o/\o.cls=.type "tuple" /\ o.dict=ZX/\∃n,o.data=.seq items n
def IsTp.tup{h:eF}{a:aU}{items:Array aD}(x:IsTp h a items):uD h a items:=let ⟨o,e,c,_,n,d⟩:=x;⟨o,e,c,n,d⟩
def IsTp.new(h:eF)(items:Array aD):IsTp (h.push { cls:=.type "tuple", data:=.seq items }) h.objs.size items:=⟨_,aW _ rfl,rfl,rfl,_,rfl⟩
inductive V where
 |non |bl (b:Bool) |int (i:Int) |str (x:Str) |byt (b:Array UInt8) |flt (b:UInt64) |ref (a:aU) |ty (n:String)
 deriving DecidableEq
def RelV:V->aD->Prop
 |.non,u=>u=cO
 |.bl b,u=>u=pL b
 |.int i,u=>∃t,u=mK i t
 |.str x,u=>∃t,u=tE x t
 |.byt b,u=>∃t,u=Value.bytes b t
 |.flt b,u=>∃t,u=tW b t
 |.ref a,u=>u=cH a
 |.ty n,u=>u=mJ n
abbrev Vals:List V->List aD->Prop:=vO RelV
def Vals.length{xs:List V}{us:List aD}(r:Vals xs us):xs.length=us.length:=Paired.length r
theorem Vals.get:∀{xs:List V} {us:List aD} {i:Nat} {x:V},Vals xs us->xs[i]? = ZY x->∃u,us[i]? = ZY u/\RelV x u
 |_,_,_,_,.nil,e=>by simp at e
 |_,_,0,_,.cons r _,e=>by simp at e;subst e;exact⟨_,rfl,r⟩
 |_,_,i+1,x,.cons _ t,e=>by
  obtain⟨u,h1,h2⟩:=Vals.get (i:=i) (x:=x) t (by simpa using e)
  exact⟨u,by simpa using h1,h2⟩
theorem Vals.set{x:V}{u:aD}(r:RelV x u):∀{xs:List V} {us:List aD} (i:Nat),Vals xs us->Vals (xs.set i x) (us.set i u)
 |_,_,_,.nil=>.nil
 |_,_,0,.cons _ t=>.cons r t
 |_,_,i+1,.cons q t=>.cons q (Vals.set r i t)
theorem Vals.append:∀{xs ys:List V} {us ws:List aD},Vals xs us->Vals ys ws->Vals (xs++ys) (us++ws)
 |_,_,_,_,.nil,s=>s
 |_,_,_,_,.cons r t,s=>.cons r (Vals.append t s)
theorem Vals.take:∀{xs:List V} {us:List aD} (n:Nat),Vals xs us->Vals (xs.take n) (us.take n)
 |_,_,0,_=>.nil
 |_,_,_+1,.nil=>.nil
 |_,_,n+1,.cons r t=>.cons r (Vals.take n t)
theorem Vals.drop:∀{xs:List V} {us:List aD} (n:Nat),Vals xs us->Vals (xs.drop n) (us.drop n)
 |_,_,0,r=>r
 |_,_,_+1,.nil=>.nil
 |_,_,n+1,.cons _ t=>Vals.drop n t
def RelO:Option V->Option aD->Prop
 |some v,ZY u=>RelV v u
 |none,ZX=>True
 |_,_=>False
def KV{κ:Type}:List (κ×V)->List (κ×Value)->Prop:=vO λ(p:κ×V) (q:κ×Value)=>p.1=q.1/\RelV p.2 q.2
def kV:Key->V
 |.inl i=>.int i
 |.inr x=>.str x
inductive HO where
 |lst (xs:List V)
 |tup (xs:List V)
 |dK (kvs:List (Key×V)) |dT (kvs:List (List Key×V))
 |set (S:Int->Bool) (n:Nat)
 |ins (C dx:aU) (fs:List (Str×V))
 |own (x:aU)
 |xd (fs:List (Str×V))
 |met (f x:aU)
 |rng (lo hi:Int)
 |frz (o:Obj) (u:HO)
 |tbl (ps:Array aD)
 |ext (φ:eF->Prop)
abbrev Hp:=aU->Option HO
def upd(H:Hp)(a:aU)(o:HO):Hp:=λb=>if b=a then ZY o else H b
def f9{H:Hp}{a:aU}{o:HO}:upd H a o a=ZY o:=by unfold upd;rw[if_pos rfl]
def cg{H:Hp}{a b:aU}{o:HO}(h:b≠a):upd H a o b=H b:=by unfold upd;rw[if_neg h]
def jf{H:Hp}{a b:aU}{o:HO}(h:H a=ZY o)(h':H b=ZX):a≠b:=by
 intro e;subst e;rw[h] at h';cases h'
section
variable(P:cA)(w:dU)
def yt(H:Hp)(h:eF)(a:aU):HO->Prop
 |.lst xs=>xs.length<=cF/\∃(its:List aD) (n:Nat),Vals xs its/\h.get? a=ZY { cls:=.type "list", data:=.seq its.toArray n }
 |.tup xs=>xs.length<=cF/\∃its:List aD,Vals xs its/\IsTp h a its.toArray
 |.dK kvs=>kvs.length<=cF/\(a==sysModules)=ZV/\∃vs,KV kvs vs/\h.DictOf (alg P w) a vs
 |.dT kvs=>kvs.length<=cF/\(a==sysModules)=ZV/\∃xs:List (List Key×Addr×Value),
   vO (λ(p:List Key×V) (q:List Key×Addr×Value)=>p.1=q.1/\H q.2.1=ZY (.tup (p.1.map kV))/\RelV p.2 q.2.2) kvs xs /\
   ∃o es ep,h.get? a=ZY o/\o.ExactDict/\o.data=.dict es ep/\es.toList=xs.map (entryOfKey (tupleKind (alg P w)))/\(xs.map (·.1)).Nodup
 |.set S n=>h.SetOf (intKind P w) a S n
 |.ins C dx fs=>H dx=ZY (.own a)/\fs.length<=1000/\dx≠a/\h.get? a=ZY (gQ C dx) /\
   ∃mA,h.Ns1 dx mA/\(∀f,RelO (fs.lookup f) (mA f))/\tG mA (fs.map (·.1))
 |.own _=>∃o,h.get? a=ZY o
 |.xd fs=>∃mA,h.Ns1 a mA/\∀f,RelO (fs.lookup f) (mA f)
 |.rng lo hi=>∃t u v,h.get? a=ZY { cls:=.type "range", data:=.fields #[.int lo t,.int hi u,.int 1 v] }
 |.frz o u=>h.get? a=ZY o/\yt H h a u
 |.tbl ps=>h.get? a=ZY { cls:=.none,data:=.fields ps }
 |.met f x=>h.get? a=ZY (pP (.ref f) (.ref x))
 |.ext φ=>φ h/\(∃o,h.get? a=ZY o)/\∀h1 h2:eF,φ h1->(∀o,h1.get? a=ZY o->h2.get? a=ZY o)->φ h2
def HOk(H:Hp)(h:eF):Prop:=∀a o,H a=ZY o->yt P w H h a o
end
section
variable{P:cA}{w:dU}{H H':Hp}{h h':eF}{a:aU}{o:HO}
theorem yt.lt(x:yt P w H h a o):a<h.objs.size:=by
 cases o with
 |lst xs=>obtain⟨_,_,_,_,e⟩:=x;exact aN e
 |tup xs=>obtain⟨_,_,_,p⟩:=x;exact p.tup.lt
 |dK kvs=>obtain⟨_,_,_,_,o,_,_,e,_⟩:=x;exact aN e
 |dT kvs=>obtain⟨_,_,_,_,o,_,_,e,_⟩:=x;exact aN e
 |set S n=>obtain⟨o,_,_,_,e,_⟩:=x;exact aN e
 |ins C dx fs=>obtain⟨_,_,_,e,_⟩:=x;exact aN e
 |own y=>obtain⟨_,e⟩:=x;exact aN e
 |xd fs=>obtain⟨_,⟨_,_,_,e,_⟩,_⟩:=x;exact aN e
 |rng lo hi=>obtain⟨_,_,_,e⟩:=x;exact aN e
 |frz ob u=>obtain⟨e,_⟩:=x;exact aN e
 |tbl ps=>exact aN (show h.get? a=ZY _ from x)
 |met f y=>exact aN (show h.get? a=ZY _ from x)
 |ext φ=>obtain⟨_,⟨_,e⟩,_⟩:=x;exact aN e
theorem Paired.mapP{α β:Type}{F G:α->β->Prop}:∀{l₁:List α} {l₂:List β},vO F l₁ l₂->(∀a b,F a b->G a b)->vO G l₁ l₂
 |_,_,.nil,_=>.nil
 |_,_,.cons r t,f=>.cons (f _ _ r) (Paired.mapP t f)
theorem yt.stay(x:yt P w H h a o)(k:∀b u,(b=a∨H b=ZY (.own a))->h.get? b=ZY u->h'.get? b=ZY u)
  (ho:∀b,H b=ZY (.own a)->H' b=ZY (.own a)) (ht:∀b xs,H b=ZY (.tup xs)->H' b=ZY (.tup xs)):yt P w H' h' a o:=by
 induction o with
 |lst xs=>obtain⟨z,its,n,r,e⟩:=x;exact⟨z,its,n,r,k _ _ (.inl rfl) e⟩
 |tup xs=>obtain⟨z,its,r,ob,e,c⟩:=x;exact⟨z,its,r,ob,k _ _ (.inl rfl) e,c⟩
 |dK kvs=>obtain⟨z,y,vs,r,ob,es,ep,e,c⟩:=x;exact⟨z,y,vs,r,ob,es,ep,k _ _ (.inl rfl) e,c⟩
 |dT kvs=>
  obtain⟨z,y,xs,r,ob,es,ep,e,c⟩:=x;exact⟨z,y,xs,Paired.mapP r λp q z=>⟨z.1,ht _ _ z.2.1,z.2.2⟩,ob,es,ep,k _ _ (.inl rfl) e,c⟩
 |set S n=>obtain⟨ob,es,ep,t,e,c⟩:=x;exact⟨ob,es,ep,t,k _ _ (.inl rfl) e,c⟩
 |ins C dx fs=>
  obtain⟨d,z,ne,e,mA,⟨od,es,ep,e2,c⟩,r⟩:=x;exact⟨ho _ d,z,ne,k _ _ (.inl rfl) e,mA,⟨od,es,ep,k _ _ (.inr d) e2,c⟩,r⟩
 |own y=>obtain⟨ob,e⟩:=x;exact⟨ob,k _ _ (.inl rfl) e⟩
 |xd fs=>obtain⟨mA,⟨od,es,ep,e,c⟩,r⟩:=x;exact⟨mA,⟨od,es,ep,k _ _ (.inl rfl) e,c⟩,r⟩
 |rng lo hi=>obtain⟨t,u,v,e⟩:=x;exact⟨t,u,v,k _ _ (.inl rfl) e⟩
 |frz ob u ih=>obtain⟨e,q⟩:=x;exact⟨k _ _ (.inl rfl) e,ih q⟩
 |tbl ps=>
  have e:h.get? a=ZY { cls:=.none,data:=.fields ps }:=x;show h'.get? a=ZY { cls:=.none,data:=.fields ps };exact k a _ (.inl rfl) e
 |met f y=>
  have e:h.get? a=ZY (pP (.ref f) (.ref y)):=x;show h'.get? a=ZY (pP (.ref f) (.ref y));exact k a _ (.inl rfl) e
 |ext φ=>obtain⟨p,⟨o,e⟩,st⟩:=x;exact⟨st _ _ p λo q=>k _ _ (.inl rfl) q,⟨o,k _ _ (.inl rfl) e⟩,st⟩
def HOk.lt(x:HOk P w H h)(e:H a=ZY o):a<h.objs.size:=(x a o e).lt
theorem HOk.fresh(x:HOk P w H h)(e:h.objs.size<=a):H a=ZX:=by
 cases q:H a with
 |none=>rfl
 |some u=>exact absurd (bN (x.lt q) e) (iR _)
def HOk.kept(x:HOk P w H h)(k:∀b u,h.get? b=ZY u->h'.get? b=ZY u):HOk P w H h':=λa o e=>
 (x a o e).stay (λb u _ q=>k b u q) (λ_ q=>q) λ_ _ q=>q
def HOk.laid(x:HOk P w H h)(k:∀b u,h.get? b=ZY u->h'.get? b=ZY u)(hp:h.objs.size<=a)(new:yt P w (upd H a o) h' a o):HOk P w (upd H a o) h':=λb u e=>by
 have hn:=x.fresh hp
 by_cases hb:b=a
 ·subst hb;rw[f9] at e;cases e;exact new
 ·rw[cg hb] at e;exact(x b u e).stay (λc v _ q=>k c v q) (λc q=>by rw[cg (jf q hn)];exact q) λc xs q=>by rw[cg (jf q hn)];exact q
end
def Rd(H:Hp)(a:aU)(u:HO):Prop:=H a=ZY u∨∃o,H a=ZY (.frz o u)
def Rd.ok{P:cA}{w:dU}{H:Hp}{h:eF}{a:aU}{u:HO}(r:Rd H a u)(x:HOk P w H h):yt P w H h a u:=by
 rcases r with r |⟨o,r⟩
 ·exact x a u r
 ·obtain⟨_,q⟩:=x a _ r;exact q
def Mut:Option HO->Prop
 |some (.lst _)=>True
 |some (.dK _)=>True
 |some (.dT _)=>True
 |some (.set _ _)=>True
 |some (.ins _ _ _)=>True
 |some (.ext _)=>True
 |_=>False
section
variable{P:cA}{w:dU}{H:Hp}{h h':eF}{x e:aU}{o':HO}
def HOk.write(ok:HOk P w H h)(mu:Mut (H x))(he:e=x∨H e=ZY (.own x))(k:∀b u,b≠e->h.get? b=ZY u->h'.get? b=ZY u)(heo:∃u,h'.get? e=ZY u)
  (new:yt P w (upd H x o') h' x o'):HOk P w (upd H x o') h':=λb u q=>by
 have nown:∀c y,H c=ZY (.own y)->c≠x:=λc y r z=>by subst z;rw[r] at mu;exact mu
 have ntup:∀c xs,H c=ZY (.tup xs)->c≠x:=λc xs r z=>by subst z;rw[r] at mu;exact mu
 by_cases hb:b=x
 ·subst hb;rw[f9] at q;cases q;exact new
 ·rw[cg hb] at q
  by_cases hbe:b=e
  ·have q':H b=ZY (.own x):=by
    rcases he with z |z
    ·exact absurd (hbe.trans z) hb
    ·rw[hbe];exact z
   rw[q] at q';cases q';obtain⟨v,hv⟩:=heo;exact⟨v,by rw[hbe];exact hv⟩
  ·refine(ok b u q).stay (λc v hc r=>k c v ?_ r) (λc r=>by rw[cg (nown c b r)];exact r) λc xs r=>by rw[cg (ntup c xs r)];exact r
   rcases hc with rfl |hc
   ·exact hbe
   ·rintro rfl
    rcases he with z |z
    ·exact nown c b hc z
    ·rw[hc] at z;cases z;exact hb rfl
end
structure Un (fs ex:List aU) (H H':Hp) (h h':eF):Prop where
 keep:∀b o,h.get? b=ZY o->H b=ZX->b∉fs->b∉ex->h'.get? b=ZY o
 slot:∀b o,h.get? b=ZY o->H b=ZX->b∈fs->b∉ex->∃sl,h'.get? b=ZY { o with slots:=sl }
 free:∀b o,h.get? b=ZY o->H b=ZX->b∉ex->H' b=ZX
 there:∀b o,h.get? b=ZY o->b∉ex->∃o',h'.get? b=ZY o'
 tups:∀b xs,H b=ZY (.tup xs)->H' b=ZY (.tup xs)
 frzs:∀b o u,H b=ZY (.frz o u)->H' b=ZY (.frz o u)
 tbls:∀b ps,H b=ZY (.tbl ps)->∃more,H' b=ZY (.tbl (ps++more))
section
variable{fs fs' ex ex':List aU}{H H1 H2:Hp}{h h1 h2 h':eF}{a x e:aU}{o:HO}
def Un.any(u:Un fs ex H H1 h h1){b:aU}{ob:Obj}(q:h.get? b=ZY ob)(n:H b=ZX)(hx:b∉ex):∃sl,h1.get? b=ZY { ob with slots:=sl }:=by
 by_cases hb:b∈fs
 ·exact u.slot b ob q n hb hx
 ·exact⟨ob.slots,u.keep b ob q n hb hx⟩
def Un.kept(k:∀b u,h.get? b=ZY u->h'.get? b=ZY u):Un fs ex H H h h' :=
 ⟨λb ob q _ _ _=>k b ob q,λb ob q _ _ _=>⟨ob.slots,k b ob q⟩,λ_ _ _ n _=>n,λb ob q _=>⟨ob,k b ob q⟩,λ_ _ q=>q,λ_ _ _ q=>q,λ_ ps q=>⟨#[],by rw[q];simp⟩⟩
def Un.refl:Un fs ex H H h h:=Un.kept λ_ _ q=>q
def Un.laid(k:∀b u,h.get? b=ZY u->h'.get? b=ZY u)(hp:h.objs.size<=a)(hn:H a=ZX):Un fs ex H (upd H a o) h h' where
 keep:=λb u q _ _ _=>k b u q
 slot:=λb u q _ _ _=>⟨u.slots,k b u q⟩
 free:=λb u q n _=>by rw[cg (bH (bN (aN q) hp))];exact n
 there:=λb u q _=>⟨u,k b u q⟩
 tups:=λb xs q=>by rw[cg (jf q hn)];exact q
 frzs:=λb u xs q=>by rw[cg (jf q hn)];exact q
 tbls:=λb ps q=>⟨#[],by rw[cg (jf q hn),q];simp⟩
def Un.write(mu:Mut (H x))(he:e=x∨H e=ZY (.own x))(k:∀b u,b≠e->h.get? b=ZY u->h'.get? b=ZY u)(heo:∃u,h'.get? e=ZY u):Un fs ex H (upd H x o) h h':=by
 have hx:∀b,H b=ZX->b≠x:=λb n z=>by subst z;rw[n] at mu;exact mu
 have hb:∀b,H b=ZX->b≠e:=λb n z=>by
  subst z;rcases he with r |r
  ·exact hx b n r
  ·rw[n] at r;cases r
 have hm:∀b u,H b=ZY u->¬Mut (ZY u)->b≠x:=λb u q nm z=>by subst z;rw[q] at mu;exact nm mu
 refine⟨λb u q n _ _=>k b u (hb b n) q,λb u q n _ _=>⟨u.slots,k b u (hb b n) q⟩,λb u q n _=>by rw[cg (hx b n)];exact n,λb u q _=>?_,
  λb xs q=>by rw[cg (hm b _ q λz=>z)];exact q,λb u xs q=>by rw[cg (hm b _ q λz=>z)];exact q,λb ps q=>⟨#[],by rw[cg (hm b _ q λz=>z),q];simp⟩⟩
 by_cases hbe:b=e
 ·subst hbe;exact heo
 ·exact⟨u,k b u hbe q⟩
end
def trk(h:eF)(H:Hp):List aU:=(aV h.objs.size).filter λa=>(H a).isSome
def hidT(h:eF)(H:Hp):eF:=PySem.W.hideAll h (trk h H)
def avl(h:eF)(H:Hp):(hidT h H).objs.size=h.objs.size:=PySem.W.hideAll_size _ _
def ayt{h:eF}{H:Hp}{b:aU}{o:Obj}(e:h.get? b=ZY o)(n:H b=ZX):(hidT h H).get? b=ZY o :=
 PySem.W.hideAll_get _ e λhm=>by
  have q:(H b).isSome=ZW:=(fL.mp hm).2;rw[n] at q;simp at q
theorem a2k{h:eF}{H:Hp}{b:aU}{o:Obj}(e:(hidT h H).get? b=ZY o):h.get? b=ZY o/\H b=ZX:=by
 have e':h.get? b=ZY o:=PySem.W.of_hideAll (trk h H) e;refine⟨e',?_⟩;cases q:H b with
 |none=>rfl
 |some x=>
  have hm:b∈trk h H:=fL.mpr ⟨List.mem_range.mpr (aN e'),by simp[q]⟩
  have z:(hidT h H).get? b=ZX:=PySem.W.hideAll_none (trk h H) hm;rw[z] at e;cases e
def a4l(g h:eF)(L:aU):List (aU×Obj):=(aV h.objs.size).filterMap λa=>if a=L∨(g.get? a).isSome=ZW then ZX else (h.get? a).map λo=>(a,o)
def rest(g h:eF)(L d:aU):List (aU×Obj):=(a4l g h L).filter λp=>decide (p.1≠d)
structure Mod (K:Fg9) (mg:Str->Option aD) (base:eF):Prop where
 kin:K.In base
 glob:base.Ns aX mg
 blt:∃mb,base.Ns builtinsNs mb/\∀x:Str,x ≠ "__name__" -> mb x=bY x
 nolimit:base.NoLimit
structure Cx where
 prog:cA
 w:dU
 K:Fg9
 mg:Str->Option aD
 base:eF
 A:cT
 N:List Str
 s₀:aG
 H₀:Hp
 env:Env
 outer:List Env
 stack:List Env
 ex:List aU
 fn:Str->Bool
 calm:Bool
 pn:List (aU×Obj)
 xe:aD->aG->Prop
def frs(l:List Env):List aU:=l.filterMap (·.frame)
abbrev Cx.fs(X:Cx):List aU:=frs X.outer
def Vis(sc:iZ)(x:Str):Prop:=sc.names.lookup x=ZY .local∨sc.names.lookup x=ZY .cell∨sc.names.lookup x=ZY .free
def Loc(sc:iZ)(x:Str):Prop:=sc.names.lookup x=ZY .local∨sc.names.lookup x=ZY .cell
def Look(env:Env)(h:eF)(m:Str->Option aD)(x:Str)(u:aD):Prop :=
 (env.kindOf x=ZY .local/\m x=ZY u)∨((env.kindOf x=ZY .cell∨env.kindOf x=ZY .free)/\∃c,env.cells.lookup x=ZY c/\h.IsCell c (ZY u))
structure Cx.Ok (X:Cx):Prop where
 mod:Mod X.K X.mg X.base
 kind:X.env.scope.kind=.function
 glob:X.env.globals=aX
 blt:X.env.builtins=builtinsNs
 above:X.s₀.heap.objs.size<=X.env.locals
 inj:∀x y c,X.env.cells.lookup x=ZY c->X.env.cells.lookup y=ZY c->x=y
 has:∀x,(X.env.kindOf x=ZY .cell∨X.env.kindOf x=ZY .free)->∃c,X.env.cells.lookup x=ZY c
 cab:∀x c,X.fn x=ZW->X.env.cells.lookup x=ZY c->X.s₀.heap.objs.size<=c
 hd:X.calm=ZW->X.A.handled=ZX
 frames:X.A.frames=ZY X.stack
 stk:X.stack=X.outer∨(X.stack=X.env::X.outer/\X.env.frame=ZY X.env.locals)
 exf:∀b∈X.ex,b≠X.env.locals/\∀x c,X.env.cells.lookup x=ZY c->c≠b
 bs:∀b o,X.base.get? b=ZY o->X.s₀.heap.get? b=ZY o/\X.H₀ b=ZX
 bsz:X.base.objs.size<=X.s₀.heap.objs.size
 noex:∀b o,X.base.get? b=ZY o->b∉X.ex
 exfs:∀b∈X.ex,b∉X.fs
 funs:X.s₀.heap.FunFrames X.base X.outer
 frf:∀b∈X.fs,X.H₀ b=ZX
structure Inv (X:Cx) (qv:List (aU×Obj)) (σ:List (Option V)) (H:Hp) (s:aG):Prop where
 ok:X.Ok
 os:s.os=X.s₀.os
 bare:oK s.gens
 base:Un X.fs X.ex X.H₀ H X.s₀.heap s.heap
 loc:∃m,s.heap.Ns X.env.locals m/\∀(i:Nat) (x:Str) (v:V),X.N[i]? = ZY x->σ[i]? = ZY (ZY v)->Vis X.env.scope x->∃u,RelV v u/\Look X.env s.heap m x u
 cell:∀x c,X.env.cells.lookup x=ZY c->∃v,s.heap.IsCell c v
 free:H X.env.locals=ZX
 freeC:∀x c,X.env.cells.lookup x=ZY c->H c=ZX
 pin:∀p∈X.pn++qv,s.heap.get? p.1=ZY p.2/\H p.1=ZX/\p.1≠X.env.locals/\p.1∉X.fs/\∀v,p.2.data≠.cell v
 hok:HOk X.prog X.w H s.heap
 len:σ.length=X.N.length
section
variable{X:Cx}{qv:List (aU×Obj)}{σ:List (Option V)}{H H':Hp}{s:aG}{h':eF}
def Cx.Ok.nofr(ok:X.Ok){b:aU}{o:Obj}(e:X.base.get? b=ZY o):b∉X.fs:=λhb=>by
 have:=(ok.funs.mem hb).1;rw[e] at this;cases this
def Inv.bs(I:Inv X qv σ H s):∀b o,X.base.get? b=ZY o->s.heap.get? b=ZY o/\H b=ZX:=λb o e=>
 ⟨I.base.keep b o (I.ok.bs b o e).1 (I.ok.bs b o e).2 (I.ok.nofr e) (I.ok.noex b o e),I.base.free b o (I.ok.bs b o e).1 (I.ok.bs b o e).2 (I.ok.noex b o e)⟩
def Inv.bk(I:Inv X qv σ H s):∀b o,X.base.get? b=ZY o->s.heap.get? b=ZY o:=λb o e=>(I.bs b o e).1
def Inv.mod(I:Inv X qv σ H s):Mod X.K X.mg X.base:=I.ok.mod
def Inv.kIn(I:Inv X qv σ H s):X.K.In s.heap:=I.ok.mod.kin.keeps I.bk
def Inv.lt(I:Inv X qv σ H s):X.env.locals<s.heap.objs.size:=let ⟨_,hn,_⟩:=I.loc;hn.lt
def Inv.sz(I:Inv X qv σ H s):X.s₀.heap.objs.size<=s.heap.objs.size:=cW I.ok.above (kO I.lt)
def Inv.nofs(I:Inv X qv σ H s){a:aU}(h:s.heap.objs.size<=a):a∉X.fs:=λhb=>by
 obtain⟨_,o,ho,_⟩:=I.ok.funs.mem hb;exact absurd (bN (aN ho) (cW I.sz h)) (iR _)
def Inv.cne(I:Inv X qv σ H s):∀x c,X.env.cells.lookup x=ZY c->c≠X.env.locals:=λx c e z=>by
 obtain⟨v,o,ho,hd⟩:=I.cell x c e;obtain⟨m,⟨o',es,ep,ho',hd',_⟩,_⟩:=I.loc;rw[z,ho'] at ho;cases ho;rw[hd'] at hd;cases hd
def Inv.funs(I:Inv X qv σ H s):s.heap.FunFrames X.base X.outer:=by
 have all:∀(l:List Env),(∀b∈frs l,b∈X.fs)->X.s₀.heap.FunFrames X.base l->s.heap.FunFrames X.base l:=by
  intro l
  induction l with
  |nil=>intro _ _;trivial
  |cons env r ih=>
   intro hs hl;obtain⟨hk,⟨L,o,hf,hn,ho,hd⟩,hr⟩:=hl;have hL:L∈X.fs:=hs L (by unfold frs;rw[jF,hf];exact aQ)
   obtain⟨sl,e⟩:=I.base.slot L o ho (I.ok.frf L hL) hL λz=>I.ok.exfs L z hL
   exact⟨hk,⟨L,_,hf,hn,e,hd⟩,ih (λb hb=>hs b (by unfold frs;rw[jF,hf];exact aK _ hb)) hr⟩
 exact all X.outer (λ_ hb=>hb) I.ok.funs
def Inv.stack(I:Inv X qv σ H s):s.heap.FunFrames X.base X.stack:=by
 rcases I.ok.stk with e |⟨e,hf⟩
 ·rw[e];exact I.funs
 ·rw[e];obtain⟨m,hn,_⟩:=I.loc;refine .cons (by rw[I.ok.kind];decide) hf hn ?_ I.funs
  exact tQ (cW I.ok.bsz I.ok.above)
def Inv.stkSub(I:Inv X qv σ H s):∀b∈frs X.stack,b∈X.env.locals::X.fs:=λb hb=>by
 rcases I.ok.stk with e |⟨e,hf⟩
 ·rw[e] at hb;exact aK _ hb
 ·rw[e] at hb;unfold frs at hb;rw[jF,hf] at hb;exact hb
def Inv.stkFree(I:Inv X qv σ H s):∀b∈frs X.stack,H b=ZX:=λb hb=>by
 rcases bF.mp (I.stkSub b hb) with e |hb
 ·rw[e];exact I.free
 ·obtain⟨_,o,ho,_⟩:=I.ok.funs.mem hb;exact I.base.free b o ho (I.ok.frf b hb) λz=>I.ok.exfs b z hb
def Inv.step{g':Array GenState}{t':Nat}{d':Drawn}{ch:List aU}(I:Inv X qv σ H s)
  (hch:∀b∈ch,(b∈X.ex∨X.s₀.heap.objs.size<=b)/\b≠X.env.locals/\(∀x c,X.env.cells.lookup x=ZY c->c≠b)/\∀p∈X.pn++qv,p.1≠b)
  (keep:∀b o,b≠X.env.locals->b∉X.fs->b∉ch->s.heap.get? b=ZY o->H b=ZX->h'.get? b=ZY o)
  (slot:∀b o,b≠X.env.locals->b∈X.fs->b∉ch->s.heap.get? b=ZY o->H b=ZX->∃sl,h'.get? b=ZY { o with slots:=sl }) (free:∀b o,b∉ch->s.heap.get? b=ZY o->H b=ZX->H' b=ZX)
  (there:∀b o,b∉ch->s.heap.get? b=ZY o->∃o',h'.get? b=ZY o')
  (tups:∀b xs,H b=ZY (.tup xs)->H' b=ZY (.tup xs)) (frzs:∀b o u,H b=ZY (.frz o u)->H' b=ZY (.frz o u)) (tbls:∀b ps,H b=ZY (.tbl ps)->∃more,H' b=ZY (.tbl (ps++more)))
  (ns:∀m,s.heap.Ns X.env.locals m->h'.Ns X.env.locals m) (hok:HOk X.prog X.w H' h') (hg:oK g') :
  Inv X qv σ H' { s with heap:=h',gens:=g',drawn:=d',toks:=t' }:=by
 have neL:∀b o,X.s₀.heap.get? b=ZY o->b≠X.env.locals:=λb o e=>bH (bN (aN e) I.ok.above)
 have neC:∀b o,X.s₀.heap.get? b=ZY o->b∉X.ex->b∉ch:=λb o e hx hb=>by
  rcases(hch b hb).1 with z |z
  ·exact hx z
  ·exact absurd (bN (aN e) z) (iR _)
 have cellK:∀x c,X.env.cells.lookup x=ZY c->∀v,s.heap.IsCell c v->h'.IsCell c v:=λx c e v hq0=>by
  obtain⟨o,ho,hd⟩:=hq0;have nch:c∉ch:=λz=>(hch c z).2.2.1 x c e rfl
  by_cases hc:c∈X.fs
  ·obtain⟨sl,q⟩:=slot c o (I.cne x c e) hc nch ho (I.freeC x c e);exact⟨_,q,hd⟩
  ·exact⟨o,keep c o (I.cne x c e) hc nch ho (I.freeC x c e),hd⟩
 refine⟨I.ok,I.os,hg,⟨λb o e n hb hx=>?_,λb o e n hb hx=>?_,λb o e n hx=>?_,λb o e hx=>?_,λb xs e=>tups b xs (I.base.tups b xs e),λb o xs e=>frzs b o xs (I.base.frzs b o xs e),λb ps e=>?_⟩,?_,λx c e=>?_,?_,λx c e=>?_,λp hp=>?_,hok,I.len⟩
 ·exact keep b o (neL b o e) hb (neC b o e hx) (I.base.keep b o e n hb hx) (I.base.free b o e n hx)
 ·obtain⟨sl,e1⟩:=I.base.slot b o e n hb hx;obtain⟨sl',e2⟩:=slot b _ (neL b o e) hb (neC b o e hx) e1 (I.base.free b o e n hx);exact⟨sl',e2⟩
 ·obtain⟨o',e1⟩:=I.base.there b o e hx;exact free b o' (neC b o e hx) e1 (I.base.free b o e n hx)
 ·obtain⟨o',e1⟩:=I.base.there b o e hx;exact there b o' (neC b o e hx) e1
 ·obtain⟨m1,e1⟩:=I.base.tbls b ps e;obtain⟨m2,e2⟩:=tbls b _ e1;exact⟨m1++m2,by rw[e2,Array.append_assoc]⟩
 ·obtain⟨m,hn,hl⟩:=I.loc;refine⟨m,ns m hn,λi x v e1 e2 e3=>?_⟩
  obtain⟨u,r,l⟩:=hl i x v e1 e2 e3;refine⟨u,r,?_⟩;rcases l with l |⟨k,c,e,z⟩
  ·exact .inl l
  ·exact .inr ⟨k,c,e,cellK x c e _ z⟩
 ·obtain⟨v,z⟩:=I.cell x c e;exact⟨v,cellK x c e v z⟩
 ·obtain⟨m,⟨o,_,_,ho,_⟩,_⟩:=I.loc;exact free _ o (λz=>(hch _ z).2.1 rfl) ho I.free
 ·obtain⟨v,o,ho,hd⟩:=I.cell x c e;exact free c o (λz=>(hch c z).2.2.1 x c e rfl) ho (I.freeC x c e)
 ·obtain⟨e,n,ne,nf,d⟩:=I.pin p hp;have nch:p.1∉ch:=λz=>(hch p.1 z).2.2.2 p hp rfl
  exact⟨keep p.1 p.2 ne nf nch e n,free p.1 p.2 nch e n,ne,nf,d⟩
def Inv.un{t':Nat}(I:Inv X qv σ H s)(u:Un X.fs [] H H' s.heap h')(hok:HOk X.prog X.w H' h'):Inv X qv σ H' { s with heap:=h',toks:=t' }:=by
 obtain⟨m,⟨o,es,ep,ho,r⟩,_⟩:=id I.loc;obtain⟨sl,hL⟩:=u.any ho I.free (by simp)
 exact I.step (g':=s.gens) (d':=s.drawn) (ch:=[]) (λ_ z=>nomatch z) (λb o _ hb _ e n=>u.keep b o e n hb (by simp)) (λb o _ hb _ e n=>u.slot b o e n hb (by simp)) (λb o _ e n=>u.free b o e n (by simp)) (λb o _ e=>u.there b o e (by simp)) u.tups u.frzs u.tbls (λm' hm=>by
  obtain⟨o',es',ep',ho',r'⟩:=hm;rw[ho] at ho';cases ho';exact⟨_,es',ep',hL,r'⟩) hok I.bare
def Inv.call{g':Array GenState}{t':Nat}{d':Drawn}{ch:List aU}(I:Inv X qv σ H s)(u:Un (frs X.stack) ch H H' s.heap h')(hok:HOk X.prog X.w H' h')(hg:oK g')
  (hch:∀b∈ch,(b∈X.ex∨X.s₀.heap.objs.size<=b)/\b≠X.env.locals/\(∀x c,X.env.cells.lookup x=ZY c->c≠b)/\∀p∈X.pn++qv,p.1≠b) :
  Inv X qv σ H' { s with heap:=h',gens:=g',drawn:=d',toks:=t' }:=by
 obtain⟨m,⟨o,es,ep,ho,r⟩,_⟩:=id I.loc;obtain⟨sl,hL⟩:=u.any ho I.free λz=>(hch _ z).2.1 rfl
 exact I.step (ch:=ch) hch (λb o hL hb hc e n=>u.keep b o e n (λz=>(bF.mp (I.stkSub b z)).elim hL hb) hc) (λb o _ _ hc e n=>u.any e n hc) (λb o hc e n=>u.free b o e n hc) (λb o hc e=>u.there b o e hc) u.tups u.frzs u.tbls (λm' hm=>by
  obtain⟨o',es',ep',ho',r'⟩:=hm;rw[ho] at ho';cases ho';exact⟨_,es',ep',hL,r'⟩) hok hg
def Inv.turned{t':Nat}{it:aU}(I:Inv X qv σ H s)(k:∀b o,b≠it->s.heap.get? b=ZY o->h'.get? b=ZY o)(hn:H it=ZX)(hL:it≠X.env.locals)
  (h1:it∈X.ex∨X.s₀.heap.objs.size<=it) (h2:∀x c,X.env.cells.lookup x=ZY c->c≠it) (h3:∀p∈X.pn++qv,p.1≠it):Inv X qv σ H { s with heap:=h',toks:=t' }:=by
 have nit:∀b u,H b=ZY u->b≠it:=λb u e z=>by rw[z,hn] at e;cases e
 refine I.step (g':=s.gens) (d':=s.drawn) (ch:=[it]) (λb hb=>?_) (λb o _ _ hc e _=>k b o (λz=>hc (by simp[z])) e) (λb o _ _ hc e _=>⟨o.slots,k b o (λz=>hc (by simp[z])) e⟩) (λ_ _ _ _ n=>n)
  (λb o hc e=>⟨o,k b o (λz=>hc (by simp[z])) e⟩) (λ_ _ e=>e) (λ_ _ _ e=>e) (λb ps e=>⟨#[],by rw[e];simp⟩) (λm hm=>?_) (λb u e=>?_) I.bare
 ·have e:b=it:=by simpa using hb
  subst e;exact⟨h1,hL,h2,h3⟩
 ·obtain⟨o,es,ep,ho,r⟩:=hm;exact⟨o,es,ep,k _ o (fO hL) ho,r⟩
 ·refine(I.hok b u e).stay (λc v hc q=>k c v ?_ q) (λ_ q=>q) λ_ _ q=>q
  rcases hc with z |z
  ·rw[z];exact nit b u e
  ·exact nit c _ z
def Inv.tok(I:Inv X qv σ H s)(t:Nat):Inv X qv σ H { s with toks:=t }:=I.un (h':=s.heap) (t':=t) Un.refl I.hok
def Inv.kept{t':Nat}(I:Inv X qv σ H s)(k:∀b u,s.heap.get? b=ZY u->h'.get? b=ZY u):Inv X qv σ H { s with heap:=h',toks:=t' }:=I.un (Un.kept k) (I.hok.kept k)
def Inv.laid{a:aU}{o:HO}{t':Nat}(I:Inv X qv σ H s)(k:∀b u,s.heap.get? b=ZY u->h'.get? b=ZY u)(hp:s.heap.objs.size<=a)(new:yt X.prog X.w (upd H a o) h' a o) :
  Inv X qv σ (upd H a o) { s with heap:=h',toks:=t' }:=I.un (Un.laid k hp (I.hok.fresh hp)) (I.hok.laid k hp new)
def Inv.write{x e:aU}{o:HO}{t':Nat}(I:Inv X qv σ H s)(mu:Mut (H x))(he:e=x∨H e=ZY (.own x))(k:∀b u,b≠e->s.heap.get? b=ZY u->h'.get? b=ZY u)(heo:∃u,h'.get? e=ZY u)
  (new:yt X.prog X.w (upd H x o) h' x o):Inv X qv σ (upd H x o) { s with heap:=h',toks:=t' }:=I.un (Un.write mu he k heo) (I.hok.write mu he k heo new)
def Inv.pins_of{pins':List (aU×Obj)}(I:Inv X qv σ H s)(h:∀p∈pins',s.heap.get? p.1=ZY p.2/\H p.1=ZX/\p.1≠X.env.locals/\p.1∉X.fs/\∀v,p.2.data≠.cell v):Inv X pins' σ H s :=
 ⟨I.ok,I.os,I.bare,I.base,I.loc,I.cell,I.free,I.freeC,λp hp=>(cX.mp hp).elim (λz=>I.pin p (lF _ z)) (h p),I.hok,I.len⟩
def ale{N:List Str}(hN:N.Nodup){i j:Nat}{x:Str}(a:N[i]? = ZY x)(b:N[j]? = ZY x):i=j:=by
 obtain⟨h1,e1⟩:=aH.mp a;obtain⟨h2,e2⟩:=aH.mp b;exact(List.getElem_inj hN).mp (e1.trans e2.symm)
def ahe{M:uB}{A:cT}{E:aD->aG->Prop}{i:Nat}{x:Str}{v:V}{u:aD}{Q:Unit->aG->Prop}(I:Inv X qv σ H s)(hN:X.N.Nodup)(hi:X.N[i]? = ZY x)(hx:Loc X.env.scope x)(r:RelV v u)
  (h:∀s',Inv X qv (σ.set i (ZY v)) H s'->(∃a,fX a s.heap s'.heap/\(a=X.env.locals∨X.env.cells.lookup x=ZY a))->Q () s') (hf:X.fn x=ZW∨X.env.scope.names.lookup x=ZY .local:=by first |exact .inl rfl |exact .inr rfl |assumption):bU M A (storeName X.env x u) Q E s:=by
 obtain⟨m,hn,hl⟩:=id I.loc;have hcls:(X.env.scope.kind==.class||(X.env.scope.kind==.module&&X.env.locals != X.env.globals))=ZV:=by rw[I.ok.kind];rfl
 have hiσ:i < σ.length:=by rw[I.len];exact(aH.mp hi).1
 have cne:=I.cne;have tracked:∀{a:aU} {h':eF},(∃o,s.heap.get? a=ZY o/\H a=ZX)->fX a s.heap h'->HOk X.prog X.w H h':=λ{a h'} ha hs b ob e=>by
  obtain⟨_,_,hfree⟩:=ha;refine(I.hok b ob e).stay (λc w' hc q=>(hs.2 c ?_).trans q) (λ_ q=>q) λ_ _ q=>q
  rintro rfl
  rcases hc with rfl |hc
  ·rw[hfree] at e;cases e
  ·rw[hfree] at hc;cases hc
 rcases hx with hk |hk
 ·refine wpAny_storeName_local hk hn (λh' hn' hs=>?_) hcls
  obtain⟨oL,_,_,hoL,_⟩:=id hn;refine h _ ⟨I.ok,I.os,I.bare,⟨λb o e n hb hx=>?_,λb o e n hb hx=>?_,I.base.free,λb o e hx=>?_,I.base.tups,I.base.frzs,I.base.tbls⟩,⟨_,hn',λj y v' e1 e2 e3=>?_⟩,λy c e=>?_,I.free,I.freeC,λp hp=>?_,tracked ⟨oL,hoL,I.free⟩ hs,by simpa using I.len⟩ ⟨_,hs,.inl rfl⟩
  ·exact(hs.2 b (bH (bN (aN e) I.ok.above))).trans (I.base.keep b o e n hb hx)
  ·obtain⟨sl,e1⟩:=I.base.slot b o e n hb hx;exact⟨sl,(hs.2 b (bH (bN (aN e) I.ok.above))).trans e1⟩
  ·obtain⟨o',e1⟩:=I.base.there b o e hx;exact⟨o',(hs.2 b (bH (bN (aN e) I.ok.above))).trans e1⟩
  ·by_cases hj:j=i
   ·subst hj;rw[hi] at e1;cases e1;rw[jX hiσ] at e2;cases e2;exact⟨u,r,.inl ⟨hk,by simp⟩⟩
   ·rw[lG (fO hj)] at e2;obtain⟨u',r',q⟩:=hl j y v' e1 e2 e3;refine⟨u',r',?_⟩;rcases q with⟨k,e⟩ |⟨k,c,e,z⟩
    ·refine .inl ⟨k,?_⟩;have:y≠x:=λe=>hj (ale hN e1 (e▸hi))
     simp[this,e]
    ·exact .inr ⟨k,c,e,z.sameBut hs (cne y c e)⟩
  ·obtain⟨w',z⟩:=I.cell y c e;exact⟨w',z.sameBut hs (cne y c e)⟩
  ·obtain⟨e,n,ne,nf,d⟩:=I.pin p hp;exact⟨(hs.2 p.1 ne).trans e,n,ne,nf,d⟩
 ·have hfn:X.fn x=ZW:=by
   rcases hf with z |z
   ·exact z
   ·rw[z] at hk;cases hk
  obtain⟨c,hc⟩:=I.ok.has x (.inl hk);obtain⟨w',z⟩:=I.cell x c hc;refine wpAny_storeName_cell I.ok.kind hk hc z (λh' hc' hs=>?_)
  obtain⟨oc,hoc,hocd⟩:=id z;refine h { s with heap:=h' } ⟨I.ok,I.os,I.bare,⟨λb o e n hb hx=>?_,λb o e n hb hx=>?_,I.base.free,λb o e hx=>?_,I.base.tups,I.base.frzs,I.base.tbls⟩,⟨m,hn.sameBut hs (fO (cne x c hc)),λj y v' e1 e2 e3=>?_⟩,λy c' e=>?_,I.free,I.freeC,λp hp=>?_,tracked ⟨oc,hoc,I.freeC x c hc⟩ hs,by simpa using I.len⟩ ⟨c,hs,.inr hc⟩
  ·exact(hs.2 b (bH (bN (aN e) (I.ok.cab x c hfn hc)))).trans (I.base.keep b o e n hb hx)
  ·obtain⟨sl,e1⟩:=I.base.slot b o e n hb hx;exact⟨sl,(hs.2 b (bH (bN (aN e) (I.ok.cab x c hfn hc)))).trans e1⟩
  ·obtain⟨o',e1⟩:=I.base.there b o e hx;exact⟨o',(hs.2 b (bH (bN (aN e) (I.ok.cab x c hfn hc)))).trans e1⟩
  ·by_cases hj:j=i
   ·subst hj;rw[hi] at e1;cases e1;rw[jX hiσ] at e2;cases e2;exact⟨u,r,.inr ⟨.inl hk,c,hc,hc'⟩⟩
   ·rw[lG (fO hj)] at e2;obtain⟨u',r',q⟩:=hl j y v' e1 e2 e3;refine⟨u',r',?_⟩;rcases q with q |⟨k,c',e,z'⟩
    ·exact .inl q
    ·refine .inr ⟨k,c',e,z'.sameBut hs ?_⟩
     rintro rfl
     exact hj (ale hN e1 (I.ok.inj _ _ _ e hc▸hi))
  ·by_cases hcc:c'=c
   ·subst hcc;exact⟨_,hc'⟩
   ·obtain⟨w2,z2⟩:=I.cell y c' e;exact⟨w2,z2.sameBut hs hcc⟩
  ·obtain⟨e,n,ne,nf,d⟩:=I.pin p hp;refine⟨(hs.2 p.1 ?_).trans e,n,ne,nf,d⟩;intro q;rw[q,hoc] at e;have q':oc=p.2:=bL e;exact d w' (by rw[<-q'];exact hocd)
def aeo{M:uB}{A:cT}{E:aD->aG->Prop}{i:Nat}{x:Str}{v:V}{u:aD}{Q:Unit->aG->Prop}(I:Inv X qv σ H s)(hN:X.N.Nodup)(hi:X.N[i]? = ZY x)(hx:Loc X.env.scope x)(r:RelV v u)
  (h:∀s',Inv X qv (σ.set i (ZY v)) H s'->Q () s') (hf:X.fn x=ZW∨X.env.scope.names.lookup x=ZY .local:=by first |exact .inl rfl |exact .inr rfl |assumption):bU M A (storeName X.env x u) Q E s :=
 ahe I hN hi hx r (λs' I' _=>h s' I') hf
def Inv.call'{s':aG}{ch:List aU}(I:Inv X qv σ H s)(ho:s'.os=s.os)(u:Un (frs X.stack) ch H H' s.heap s'.heap)(hok:HOk X.prog X.w H' s'.heap)(hg:oK s'.gens)
  (hch:∀b∈ch,(b∈X.ex∨X.s₀.heap.objs.size<=b)/\b≠X.env.locals/\(∀x c,X.env.cells.lookup x=ZY c->c≠b)/\∀p∈X.pn++qv,p.1≠b):Inv X qv σ H' s':=by
 obtain⟨h',g',d',t',o'⟩:=s';have e:o'=s.os:=ho;subst e;exact I.call (g':=g') (t':=t') (d':=d') u hok hg hch
end
abbrev XK:=aD->Option aU->Hp->Prop
abbrev St:=List (Option V)
abbrev VK:=V->Hp->Prop
abbrev TE:=St->Hp->VK->Prop
abbrev TT:=St->Hp->(Bool->Hp->Prop)->Prop
abbrev TA:=St->Hp->(List V->Hp->Prop)->Prop
structure Ends where
 nx:St->Hp->Prop
 rt:VK
 bk:St->Hp->Prop:=λ_ _=>False
 ct:St->Hp->Prop:=λ_ _=>False
abbrev TS:=Ends->St->Hp->Prop
def EP(X:Cx)(qv:List (aU×Obj))(σ:St)(Q:VK)(u:aD)(s':aG):Prop:=∃v H',Inv X qv σ H' s'/\RelV v u/\Q v H'
def TP(X:Cx)(qv:List (aU×Obj))(σ:St)(Q:Bool->Hp->Prop)(b:Bool)(s':aG):Prop:=∃H',Inv X qv σ H' s'/\Q b H'
def AP(X:Cx)(qv:List (aU×Obj))(σ:St)(Q:List V->Hp->Prop)(us:List aD)(s':aG):Prop:=∃vs H',Inv X qv σ H' s'/\Vals vs us/\Q vs H'
def SP(X:Cx)(qv:List (aU×Obj))(D:Ends)(f:Flow)(s':aG):Prop :=
 match f with
 |.next=>∃σ' H',Inv X qv σ' H' s'/\D.nx σ' H'
 |.brk=>∃σ' H',Inv X qv σ' H' s'/\D.bk σ' H'
 |.cont=>∃σ' H',Inv X qv σ' H' s'/\D.ct σ' H'
 |.ret u=>∃v σ' H',Inv X qv σ' H' s'/\RelV v u/\D.rt v H'
def PE(X:Cx)(e:cZ)(t:TE):Prop :=
 ∀(qv:List (aU×Obj)) (s:aG) (σ:St) (H:Hp) (Q:VK),Inv X qv σ H s->t σ H Q->bU (bZ X.prog X.w) X.A (eval e X.env) (EP X qv σ Q) X.xe s
def PT(X:Cx)(e:cZ)(t:TT):Prop :=
 ∀(qv:List (aU×Obj)) (s:aG) (σ:St) (H:Hp) (Q:Bool->Hp->Prop),Inv X qv σ H s->t σ H Q->bU (bZ X.prog X.w) X.A (isTrue e X.env (eval e X.env)) (TP X qv σ Q) X.xe s
def PW(X:Cx)(e:cZ)(t:TT):Prop :=
 ∀(whole:Sem aD) (qv:List (aU×Obj)) (s:aG) (σ:St) (H:Hp) (Q:Bool->Hp->Prop),Inv X qv σ H s->t σ H Q->bU (bZ X.prog X.w) X.A (isTrue e X.env whole) (TP X qv σ Q) X.xe s
def PW.pt{X:Cx}{e:cZ}{t:TT}(h:PW X e t):PT X e t:=h _
def PA(X:Cx)(es:List cZ)(t:TA):Prop :=
 ∀(pos:Pos) (qv:List (aU×Obj)) (s:aG) (σ:St) (H:Hp) (Q:List V->Hp->Prop),Inv X qv σ H s->t σ H Q->bU (bZ X.prog X.w) X.A (spliced (fV pos (aO es X.env))) (AP X qv σ Q) X.xe s
def PS(X:Cx)(st:fD)(t:TS):Prop :=
 ∀(qv:List (aU×Obj)) (s:aG) (σ:St) (H:Hp) (D:Ends),Inv X qv σ H s->t D σ H->bU (bZ X.prog X.w) X.A (exec st X.env) (SP X qv D) X.xe s
def PSs(X:Cx)(st:List fD)(t:TS):Prop :=
 ∀(qv:List (aU×Obj)) (s:aG) (σ:St) (H:Hp) (D:Ends),Inv X qv σ H s->t D σ H->bU (bZ X.prog X.w) X.A (execs st X.env) (SP X qv D) X.xe s
def thn{α:Type}{t:Sem α}{Q Q':α->aG->Prop}{M:uB}{A:cT}{E:aD->aG->Prop}{s:aG}(h:bU M A t Q E s)(hQ:∀a s,Q a s->Q' a s):bU M A t Q' E s:=bI h hQ λ_ _ x=>x
section
variable{X:Cx}
def tVar(i:Nat):TE:=λσ H Q=>∃v,σ[i]? = ZY (ZY v)/\Q v H
def tC(v:V):TE:=λ_ H Q=>Q v H
def a6d{i:Nat}{x:Str}{pos:Pos}(hN:X.N[i]? = ZY x)(hv:Vis X.env.scope x)(hd:(x==("__debug__" : Str))=ZV:=by decide)(hcd:(x==("__classdict__" : Str))=ZV:=by decide):PE X (.Name x pos) (tVar i):=by
 intro qv s σ H Q I h;obtain⟨v,e,h⟩:=h;obtain⟨m,hn,hl⟩:=I.loc;obtain⟨u,r,l⟩:=hl i x v hN e hv;have fin:EP X qv σ Q u s:=⟨v,H,I,r,h⟩;rcases l with⟨hk,hm⟩ |⟨hk,c,hc,hcell⟩
 ·exact wpAny_Name (wpAny_loadName_local I.ok.kind hk hn hm fin) hd
 ·rcases hk with hk |hk
  ·exact wpAny_Name (wpAny_loadName_cell I.ok.kind hk hc hcell fin) hd
  ·exact wpAny_Name (wpAny_loadName_free I.ok.kind hk hc hcell fin hcd) hd
def a6k{i j pos}:PE X (.Constant (.int i) j pos) (tC (.int i)):=λ_ _ _ H _ I h=>wpAny_Constant_int ⟨.int i,H,I.tok _,⟨_,rfl⟩,h⟩
def ba4{b j pos}:PE X (.Constant (.bool b) j pos) (tC (.bl b)):=λ_ _ _ H _ I h=>Constant_bool ⟨.bl b,H,I,rfl,h⟩
def a6i{j pos}:PE X (.Constant .none j pos) (tC .non):=λ_ _ _ H _ I h=>Constant_none ⟨.non,H,I,rfl,h⟩
def a6f{x j pos}:PE X (.Constant (.str x) j pos) (tC (.str x)):=λ_ _ _ H _ I h=>uN ⟨.str x,H,I.tok _,⟨_,rfl⟩,h⟩
def Gl(X:Cx)(x:Str):Prop:=X.env.kindOf x=ZY .globalImplicit
def aec{E:aD->aG->Prop}{qv:List (aU×Obj)}{s:aG}{σ:St}{H:Hp}{x:Str}{u:aD}{pos:Pos}{Q:aD->aG->Prop}(I:Inv X qv σ H s)(hg:Gl X x)(hm:X.mg x=ZY u)(h:Q u s)
  (hd:(x==("__debug__" : Str))=ZV:=by decide):bU (bZ X.prog X.w) X.A (eval (.Name x pos) X.env) Q E s :=
 rM I.ok.kind hg (Calls.loadGlobal_global (by rw[I.ok.glob];exact I.mod.glob.keeps I.bk) hm h) hd
def ah5{E:aD->aG->Prop}{qv:List (aU×Obj)}{s:aG}{σ:St}{H:Hp}{x:Str}{u:aD}{pos:Pos}{Q:aD->aG->Prop}(I:Inv X qv σ H s)(hg:Gl X x)(hm:X.mg x=ZX)(hv:bY x=ZY u)(h:Q u s)
  (hn:x ≠ "__name__" := by decide) (hd:(x==("__debug__" : Str))=ZV:=by decide):bU (bZ X.prog X.w) X.A (eval (.Name x pos) X.env) Q E s:=by
 obtain⟨mb,h1,h2⟩:=I.mod.blt;exact rM I.ok.kind hg (Calls.loadGlobal_builtin (by rw[I.ok.glob];exact I.mod.glob.keeps I.bk) hm (by rw[I.ok.blt];exact h1.keeps I.bk) ((h2 x hn).trans hv) h) hd
def a1z{x:Str}{v:V}{u:aD}{pos:Pos}(hg:Gl X x)(hm:X.mg x=ZY u)(r:RelV v u)(hd:(x==("__debug__" : Str))=ZV:=by decide):PE X (.Name x pos) (tC v) :=
 λ_ _ _ H _ I h=>aec I hg hm ⟨v,H,I,r,h⟩ hd
def a2e{x:Str}{v:V}{u:aD}{pos:Pos}(hg:Gl X x)(hm:X.mg x=ZX)(hv:bY x=ZY u)(r:RelV v u)(hn:x ≠ "__name__" := by decide)(hd:(x==("__debug__" : Str))=ZV:=by decide):PE X (.Name x pos) (tC v) :=
 λ_ _ _ H _ I h=>ah5 I hg hm hv ⟨v,H,I,r,h⟩ hn hd
variable{a b:cZ}{ta tb:TE}{pos:Pos}
def PC(X:Cx)(op:rZ)(a b:cZ)(t:TE):Prop :=
 ∀(qv:List (aU×Obj)) (s:aG) (σ:St) (H:Hp) (Q:VK),Inv X qv σ H s->t σ H Q ->
  bU (bZ X.prog X.w) X.A (eval a X.env) (λv s₁=>bU (bZ X.prog X.w) X.A (eval b X.env) (λu s₂=>bU (bZ X.prog X.w) X.A (fB op v u) (EP X qv σ Q) X.xe s₂) X.xe s₁) X.xe s
def aqe(b:cZ){op:rZ}(h:op≠.In)(h2:op≠.NotIn):gG op b=ZV:=by
 have e1:(op==CmpOp.In)=ZV:=by cases op <;> first |rfl |exact absurd rfl h
 have e2:(op==CmpOp.NotIn)=ZV:=by cases op <;> first |rfl |exact absurd rfl h2
 cases b <;> simp[gG,e1,e2]
def tIsN(ta:TE):TE:=λσ H Q=>ta σ H λx H1=>Q (.bl (decide (x=.non))) H1
def a4y(ta:TE):TE:=λσ H Q=>ta σ H λx H1=>Q (.bl (!decide (x=.non))) H1
theorem RelV.none_iff{x:V}{v:aD}(r:RelV x v):(v==cO)=decide (x=.non):=by
 cases x with
 |non=>cases r;rfl
 |bl _=>cases r;rfl
 |int _=>obtain⟨t,rfl⟩:=r;rfl
 |str _=>obtain⟨t,rfl⟩:=r;rfl
 |byt _=>obtain⟨t,rfl⟩:=r;rfl
 |flt _=>obtain⟨t,rfl⟩:=r;rfl
 |ref _=>cases r;rfl
 |ty _=>cases r;rfl
def az5{j pos'}(ha:PE X a ta):PC X .Is a (.Constant .none j pos') (tIsN ta):=by
 intro qv s σ H Q I h;refine thn (ha qv s σ H _ I h) λv s1 ⟨x,H1,I1,r1,q1⟩=>?_
 exact Constant_none (is_none_gen ⟨.bl _,H1,I1,by rw[r1.none_iff];rfl,q1⟩)
def a2f{j pos'}(ha:PE X a ta):PC X .IsNot a (.Constant .none j pos') (a4y ta):=by
 intro qv s σ H Q I h;refine thn (ha qv s σ H _ I h) λv s1 ⟨x,H1,I1,r1,q1⟩=>?_
 exact Constant_none (isnot_none_gen ⟨.bl _,H1,I1,by rw[r1.none_iff];rfl,q1⟩)
def tB(t:TE):TT:=λσ H Q=>t σ H λx H1=>∃c,x=.bl c/\Q c H1
def a6n{op:rZ}{t:TE}(h:PC X op a b t)(h1:gG op b=ZV:=by first |exact aqe _ (by decide) (by decide) |rfl):PE X (.Compare a [op] [b] pos) t:=λqv s σ H Q I hw=>wpAny_Compare1 (h qv s σ H Q I hw) h1
def az0{op:rZ}{t:TE}(h:PC X op a b t)(h1:gG op b=ZV:=by first |exact aqe _ (by decide) (by decide) |rfl):PT X (.Compare a [op] [b] pos) (tB t):=by
 intro qv s σ H Q I hw;refine wpAny_isTrue_Compare1 (thn (h qv s σ H _ I hw) λv s1 h1=>thn h1 λu s2 h2=>thn h2 λc s3 ⟨x,H1,I1,r1,q1⟩=>?_) h1
 obtain⟨d,rfl,q⟩:=q1;cases r1;exact wpAny_truthy_bool ⟨H1,I1,q⟩
def a5w{e:cZ}{t:TE}(h:PE X e t)(he:∀whole,isTrue e X.env whole=(do let v <-whole;standAt e.pos;lN [v] (truthy v)):=by intro _;rfl):PT X e (tB t):=by
 intro qv s σ H Q I hw;refine isTrue_plain (thn (h qv s σ H _ I hw) λv s1 ⟨x,H1,I1,r1,q1⟩=>?_) (he _)
 obtain⟨d,rfl,q⟩:=q1;cases r1;exact wpAny_truthy_bool ⟨H1,I1,q⟩
variable{tA tB':TT}{rest:List cZ}
def tAnd(t u:TT):TT:=λσ H Q=>t σ H λc H1=>if c=ZW then u σ H1 Q else Q ZV H1
def tOr(t u:TT):TT:=λσ H Q=>t σ H λc H1=>if c=ZW then Q ZW H1 else u σ H1 Q
def tNot(t:TT):TT:=λσ H Q=>t σ H λc H1=>Q (!c) H1
theorem a1k(ha:PT X a tA):PW X (.BoolOp .And [a] pos) tA:=by
 intro wh qv s σ H Q I h;refine isTrue_and (thn (ha qv s σ H Q I h) λc s1 e=>?_)
 cases c with
 |true=>exact isTrue_and_nil e
 |false=>exact e
theorem a5q(ha:PT X a tA):PW X (.BoolOp .Or [a] pos) tA:=by
 intro wh qv s σ H Q I h;refine isTrue_or (thn (ha qv s σ H Q I h) λc s1 e=>?_)
 cases c with
 |false=>exact isTrue_or_nil e
 |true=>exact e
theorem a5r(ha:PT X a tA)(hb:PW X (.BoolOp .And (b::rest) pos) tB'):PW X (.BoolOp .And (a::b::rest) pos) (tAnd tA tB'):=by
 intro wh qv s σ H Q I h;refine isTrue_and (thn (ha qv s σ H _ I h) λc s1 ⟨H1,I1,q1⟩=>?_)
 cases c with
 |true=>exact hb wh qv s1 σ H1 Q I1 q1
 |false=>exact⟨H1,I1,q1⟩
theorem bax(ha:PT X a tA)(hb:PW X (.BoolOp .Or (b::rest) pos) tB'):PW X (.BoolOp .Or (a::b::rest) pos) (tOr tA tB'):=by
 intro wh qv s σ H Q I h;refine isTrue_or (thn (ha qv s σ H _ I h) λc s1 ⟨H1,I1,q1⟩=>?_)
 cases c with
 |true=>exact⟨H1,I1,q1⟩
 |false=>exact hb wh qv s1 σ H1 Q I1 q1
def a5x(ha:PT X a tA):PT X (.UnaryOp .Not a pos) (tNot tA):=by
 intro qv s σ H Q I h;exact isTrue_not (ha qv s σ H (λc H1=>Q (!c) H1) I h)
def ban(ta tb:TE):TE:=λσ H Q=>ta σ H λx H1=>∃c,x=.bl c/\if c=ZW then tb σ H1 Q else Q (.bl ZV) H1
def bag(ta:TE):TE:=λσ H Q=>ta σ H λx H1=>∃c,x=.bl c/\Q (.bl (!c)) H1
def a6g{op}{t:TE}(h:PE X a t):PE X (.BoolOp op [a] pos) t:=λqv s σ H Q I hw=>BoolOp_one (h qv s σ H Q I hw)
theorem a6p(ha:PE X a ta)(hb:PE X (.BoolOp .And (b::rest) pos) tb):PE X (.BoolOp .And (a::b::rest) pos) (ban ta tb):=by
 intro qv s σ H Q I h;refine BoolOp_and (thn (ha qv s σ H _ I h) λv s1 ⟨x,H1,I1,r1,q1⟩=>?_)
 obtain⟨c,rfl,q1⟩:=q1;cases r1;refine wpAny_truthy_bool ?_;cases c with
 |true=>exact hb qv s1 σ H1 Q I1 q1
 |false=>exact⟨.bl ZV,H1,I1,rfl,q1⟩
def a6h(ha:PE X a ta):PE X (.UnaryOp .Not a pos) (bag ta):=by
 intro qv s σ H Q I h;refine UnaryOp_ (thn (ha qv s σ H _ I h) λv s1 ⟨x,H1,I1,r1,q1⟩=>?_)
 obtain⟨c,rfl,q1⟩:=q1;cases r1;exact not_of (wpAny_truthy_bool ⟨.bl (!c),H1,I1,rfl,q1⟩)
def tIf(t:TT)(ta tb:TE):TE:=λσ H Q=>t σ H λc H1=>if c=ZW then ta σ H1 Q else tb σ H1 Q
theorem axs{c:cZ}(hc:PT X c tA)(ha:PE X a ta)(hb:PE X b tb):PE X (.IfExp c a b pos) (tIf tA ta tb):=by
 intro qv s σ H Q I h;refine wpAny_IfExp (thn (hc qv s σ H _ I h) λd s1 ⟨H1,I1,q1⟩=>?_)
 cases d with
 |true=>exact ha qv s1 σ H1 Q I1 q1
 |false=>exact hb qv s1 σ H1 Q I1 q1
end
def SqL(K:Fg9)(H:Hp)(a:aU)(xs:List V):Prop :=
 Rd H a (.lst xs) ∨
  ∃(o:Obj) (its:Array aD) (n:Nat),K.lookup a=ZY o/\o.cls=.type "list" /\ o.dict=ZX/\o.data=.seq its n/\its.size<=cF/\Vals xs its.toList
def SqT(K:Fg9)(H:Hp)(a:aU)(xs:List V):Prop :=
 Rd H a (.tup xs) ∨
  ∃(o:Obj) (its:Array aD) (n:Nat),K.lookup a=ZY o/\o.cls=.type "tuple" /\ o.data=.seq its n/\its.size<=cF/\Vals xs its.toList
def absV:aD->Option V
 |.none=>ZY .non
 |.bool b=>ZY (.bl b)
 |.int i _=>ZY (.int i)
 |.str x _=>ZY (.str x)
 |.bytes b _=>ZY (.byt b)
 |.float b _=>ZY (.flt b)
 |.ref a=>ZY (.ref a)
 |.type n=>ZY (.ty n)
 |_=>ZX
theorem RelV.abs{x:V}{u:aD}(r:RelV x u):absV u=ZY x:=by
 cases x with
 |non=>cases r;rfl
 |bl _=>cases r;rfl
 |int _=>obtain⟨t,rfl⟩:=r;rfl
 |str _=>obtain⟨t,rfl⟩:=r;rfl
 |byt _=>obtain⟨t,rfl⟩:=r;rfl
 |flt _=>obtain⟨t,rfl⟩:=r;rfl
 |ref _=>cases r;rfl
 |ty _=>cases r;rfl
def RelV.inj{x y:V}{u:aD}(r:RelV x u)(q:RelV y u):x=y:=bL (r.abs.symm.trans q.abs)
theorem Vals.inj:∀{xs ys:List V} {us:List aD},Vals xs us->Vals ys us->xs=ys
 |_,_,_,.nil,.nil=>rfl
 |_,_,_,.cons r t,.cons r' t'=>by rw[r.inj r',Vals.inj t t']
section
variable{X:Cx}{qv:List (aU×Obj)}{σ:St}{H:Hp}{s:aG}{a:aU}{xs ys:List V}
def SqL.of{K:Fg9}(h:H a=ZY (.lst xs)):SqL K H a xs:=.inl (.inl h)
def SqT.of{K:Fg9}(h:H a=ZY (.tup xs)):SqT K H a xs:=.inl (.inl h)
def Inv.list(I:Inv X qv σ H s)(h:SqL X.K H a xs):∃its:List aD,Vals xs its/\PlainL s.heap a its.toArray/\xs.length<=cF:=by
 rcases h with h |⟨o,its,n,hk,hc,hd,hs,hz,r⟩
 ·obtain⟨z,its,n,r,e⟩:=h.ok I.hok;exact⟨its,r,⟨_,n,e,rfl,rfl,rfl⟩,z⟩
 ·refine⟨its.toList,r,⟨o,n,I.kIn a o hk,hc,hd,by simpa using hs⟩,?_⟩
  have e:=r.length;simp only[iG] at e;omega
def Inv.tuple(I:Inv X qv σ H s)(h:SqT X.K H a xs):∃its:List aD,Vals xs its/\uD s.heap a its.toArray/\xs.length<=cF:=by
 rcases h with h |⟨o,its,n,hk,hc,hs,hz,r⟩
 ·obtain⟨z,its,r,p⟩:=h.ok I.hok;exact⟨its,r,p.tup,z⟩
 ·refine⟨its.toList,r,⟨o,I.kIn a o hk,hc,n,by simpa using hs⟩,?_⟩
  have e:=r.length;simp only[iG] at e;omega
def Inv.list_inj(I:Inv X qv σ H s)(h:SqL X.K H a xs)(h':SqL X.K H a ys):xs=ys:=by
 obtain⟨its,r,⟨o,n,e,_,_,d⟩,_⟩:=I.list h;obtain⟨its',r',⟨o',n',e',_,_,d'⟩,_⟩:=I.list h';rw[e] at e';cases e';rw[d] at d'
 injection d' with d1 _
 have:its=its':=by simpa using congrArg Array.toList d1
 subst this;exact r.inj r'
def Inv.tuple_inj(I:Inv X qv σ H s)(h:SqT X.K H a xs)(h':SqT X.K H a ys):xs=ys:=by
 obtain⟨its,r,⟨o,e,_,n,d⟩,_⟩:=I.tuple h;obtain⟨its',r',⟨o',e',_,n',d'⟩,_⟩:=I.tuple h';rw[e] at e';cases e';rw[d] at d'
 injection d' with d1 _
 have:its=its':=by simpa using congrArg Array.toList d1
 subst this;exact r.inj r'
end
abbrev Cx.wish(X:Cx)(E:aD->aG->Prop):Cx:={ X with xe:=E }
abbrev Cx.nox(X:Cx):Cx:=X.wish λ_ _=>False
def Cx.Ok.wish{X:Cx}(ok:X.Ok)(E:aD->aG->Prop):(X.wish E).Ok :=
 ⟨ok.mod,ok.kind,ok.glob,ok.blt,ok.above,ok.inj,ok.has,ok.cab,ok.hd,ok.frames,ok.stk,ok.exf,ok.bs,ok.bsz,ok.noex,ok.exfs,ok.funs,ok.frf⟩
def Cx.Ok.unwish{X:Cx}{E:aD->aG->Prop}(ok:(X.wish E).Ok):X.Ok :=
 ⟨ok.mod,ok.kind,ok.glob,ok.blt,ok.above,ok.inj,ok.has,ok.cab,ok.hd,ok.frames,ok.stk,ok.exf,ok.bs,ok.bsz,ok.noex,ok.exfs,ok.funs,ok.frf⟩
section
variable{X:Cx}{qv:List (aU×Obj)}{σ:St}{H:Hp}{s:aG}{E:aD->aG->Prop}
def Inv.wish(I:Inv X qv σ H s)(E:aD->aG->Prop):Inv (X.wish E) qv σ H s:=⟨I.ok.wish E,I.os,I.bare,I.base,I.loc,I.cell,I.free,I.freeC,I.pin,I.hok,I.len⟩
def Inv.unwish(I:Inv (X.wish E) qv σ H s):Inv X qv σ H s:=⟨I.ok.unwish,I.os,I.bare,I.base,I.loc,I.cell,I.free,I.freeC,I.pin,I.hok,I.len⟩
theorem SP.unwish{D:Ends}{f:Flow}{s':aG}(h:SP (X.wish E) qv D f s'):SP X qv D f s':=by
 cases f with
 |next=>obtain⟨σ',H',I,q⟩:=h;exact⟨σ',H',I.unwish,q⟩
 |brk=>obtain⟨σ',H',I,q⟩:=h;exact⟨σ',H',I.unwish,q⟩
 |cont=>obtain⟨σ',H',I,q⟩:=h;exact⟨σ',H',I.unwish,q⟩
 |ret u=>obtain⟨v,σ',H',I,r,q⟩:=h;exact⟨v,σ',H',I.unwish,r,q⟩
def PSs.nox{st:List fD}{t:TS}(h:PSs X.nox st t):PSs X st t:=λqv s σ H D I hw=>
 bI (h qv s σ H D (I.wish _) hw) (λ_ _ q=>q.unwish) λ_ _ z=>dI z
end
section
variable{X:Cx}{st:fD}{rest:List fD}{t u:TS}{e:cZ}{te:TE}{pos:Pos}
def bah:TS:=λD σ H=>D.nx σ H
def tSeq(t u:TS):TS:=λD σ H=>t { D with nx:=u D } σ H
def at5:PSs X [] bah:=λ_ _ σ H _ I h=>wpAny_execs_nil ⟨σ,H,I,h⟩
theorem ada(h1:PS X st t)(h2:PSs X rest u):PSs X (st::rest) (tSeq t u):=by
 intro qv s σ H D I h;refine wpAny_execs_cons (thn (h1 qv s σ H { D with nx:=u D } I h) λf s1 q=>?_)
 cases f with
 |next=>
  obtain⟨σ',H',I',q⟩:=q;exact h2 qv s1 σ' H' D I' q
 |ret v=>exact q
 |brk=>exact q
 |cont=>exact q
theorem aoo(h1:PS X st t):PSs X [st] t:=by
 intro qv s σ H D I h;refine wpAny_execs_cons (thn (h1 qv s σ H D I h) λf s1 q=>?_)
 cases f with
 |next=>exact wpAny_execs_nil q
 |ret v=>exact q
 |brk=>exact q
 |cont=>exact q
def Inv.quiet{qv:List (aU×Obj)}{σ:St}{H:Hp}{s:aG}(I:Inv X qv σ H s):interactive X.env=ZV:=by simp[interactive,I.ok.kind]
def bak(te:TE):TS:=λD σ H=>te σ H λ_ H1=>D.nx σ H1
def at8(he:PE X e te)(hs:gF e ZX pos.line X.env=pure ZV:=by rfl):PS X (.Expr e pos) (bak te):=by
 intro qv s σ H D I h;exact wpAny_Expr_any (thn (he qv s σ H _ I h) λv s1 ⟨x,H1,I1,r1,q1⟩=>⟨σ,H1,I1,q1⟩) I.quiet hs
def tRet(te:TE):TS:=λD σ H=>te σ H D.rt
def az1(he:PE X e te):PS X (.Return (ZY e) pos) (tRet te):=by
 intro qv s σ H D I h;exact wpAny_Return_some (thn (he qv s σ H _ I h) λv s1 ⟨x,H1,I1,r1,q1⟩=>⟨x,σ,H1,I1,r1,q1⟩)
def tIfS(c:TT)(t u:TS):TS:=λD σ H=>c σ H λb H1=>if b=ZW then t D σ H1 else u D σ H1
theorem baz{c:cZ}{a b:List fD}{tc:TT}(hc:PT X c tc)(ha:PSs X a t)(hb:PSs X b u):PS X (.If c a b pos) (tIfS tc t u):=by
 intro qv s σ H D I h;refine wpAny_If (thn (hc qv s σ H _ I h) λd s1 ⟨H1,I1,q1⟩=>?_)
 cases d with
 |true=>exact ha qv s1 σ H1 D I1 q1
 |false=>exact hb qv s1 σ H1 D I1 q1
def a4z:TS:=λ_ _ _=>False
def axl:PS X st a4z:=λ_ _ _ _ _ _ h=>h.elim
end
abbrev TG:=V->St->Hp->(St->Hp->Prop)->Prop
abbrev TGs:=List V->St->Hp->(St->Hp->Prop)->Prop
def PG(X:Cx)(target:cZ)(t:TG):Prop :=
 ∀(qv:List (aU×Obj)) (s:aG) (σ:St) (H:Hp) (v:V) (u:aD) (Q:St->Hp->Prop),Inv X qv σ H s->RelV v u->t v σ H Q ->
  bU (bZ X.prog X.w) X.A (mH target X.env u) (λ_ s'=>∃σ' H',Inv X qv σ' H' s'/\Q σ' H') X.xe s
def PGs(X:Cx)(ts:List cZ)(t:TGs):Prop :=
 ∀(qv:List (aU×Obj)) (s:aG) (σ:St) (H:Hp) (vs:List V) (us:List aD) (Q:St->Hp->Prop),Inv X qv σ H s->Vals vs us->t vs σ H Q ->
  bU (bZ X.prog X.w) X.A (assignInOrder ((iH ts X.env).map (·.2)) us) (λ_ s'=>∃σ' H',Inv X qv σ' H' s'/\Q σ' H') X.xe s
abbrev TSet:=V->V->V->Hp->(Hp->Prop)->Prop
def PSet(X:Cx)(t:TSet):Prop :=
 ∀(qv:List (aU×Obj)) (s:aG) (σ:St) (H:Hp) (o i v:V) (ov iv u:aD) (Q:Hp->Prop),Inv X qv σ H s->RelV o ov->RelV i iv->RelV v u->t o i v H Q ->
  bU (bZ X.prog X.w) X.A (setItem ov iv u) (λ_ s'=>∃H',Inv X qv σ H' s'/\Q H') X.xe s
abbrev TIp:=V->V->Hp->VK->Prop
def PIp(X:Cx)(op:mC)(t:TIp):Prop :=
 ∀(qv:List (aU×Obj)) (s:aG) (σ:St) (H:Hp) (x y:V) (v u:aD) (Q:VK),Inv X qv σ H s->RelV x v->RelV y u->t x y H Q ->
  bU (bZ X.prog X.w) X.A (inplaceOp op v u) (EP X qv σ Q) X.xe s
section
variable{X:Cx}{pos:Pos}
def ayx(i:Nat):TG:=λv σ H Q=>Q (σ.set i (ZY v)) H
def a1w{i:Nat}{x:Str}(hN:X.N.Nodup)(hi:X.N[i]? = ZY x)(hx:Loc X.env.scope x)(hf:X.fn x=ZW∨X.env.scope.names.lookup x=ZY .local:=by first |exact .inl rfl |exact .inr rfl |assumption):PG X (.Name x pos) (ayx i):=by
 intro qv s σ H v u Q I r h;exact wpAny_assign_Name (aeo I hN hi hx r (λs' I'=>⟨_,H,I',h⟩) hf)
def gNil:TGs:=λvs σ H Q=>vs=[]/\Q σ H
def bb7(t:TG)(u:TGs):TGs:=λvs σ H Q=>∃v r,vs=v::r/\t v σ H λσ' H'=>u r σ' H' Q
def a1v:PGs X [] gNil:=by
 intro qv s σ H vs us Q I r h;obtain⟨e,h⟩:=h;subst e;cases r;exact assignInOrder_nil ⟨σ,H,I,h⟩
theorem axn{e:cZ}{es:List cZ}{t:TG}{u:TGs}(h1:PG X e t)(h2:PGs X es u)
  (hs:(iH (e::es) X.env).map (·.2)=mH e X.env::(iH es X.env).map (·.2):=by rfl):PGs X (e::es) (bb7 t u):=by
 intro qv s σ H vs us Q I r h;obtain⟨v,vr,e1,h⟩:=h;subst e1;cases r with
 |cons r rr=>
  rw[hs];refine assignInOrder_cons (thn (h1 qv s σ H _ _ _ I r h) λ_ s1 ⟨σ1,H1,I1,q1⟩=>?_)
  exact h2 qv s1 σ1 H1 _ _ Q I1 rr q1
def gTup(K:Fg9)(n:Nat)(t:TGs):TG:=λv σ H Q=>∃a xs,v=.ref a/\SqT K H a xs/\xs.length=n/\t xs σ H Q
def a6b{es:List cZ}{k:Nat}{t:TGs}{n:Nat}(hc:X.calm=ZW)(h:PGs X es t)
  (hn:(iH es X.env).length=n:=by rfl) (hst:(iH es X.env).findIdx? (·.1)=ZX:=by rfl):PG X (.Tuple es k pos) (gTup X.K n t):=by
 intro qv s σ H v u Q I r hw;obtain⟨a,xs,e1,hq,hl,hw⟩:=hw;subst e1;cases r;obtain⟨its,rv,ht,hz⟩:=I.tuple hq;refine assign_Tuple_tuple (I.ok.hd hc) ht (by simp[hn,<-hl,rv.length]) hst λh' hx=>?_
 have I1:Inv X qv σ H { s with heap:=h' }:=I.kept (t':=s.toks) λb o e=>hx b o (bH (aN e)) e
 exact h qv _ σ H xs _ Q I1 (by simpa using rv) hw
def gSub(to ti:TE)(t:TSet):TG:=λv σ H Q=>to σ H λo H1=>ti σ H1 λi H2=>t o i v H2 λH3=>Q σ H3
def a6c{o i:cZ}{to ti:TE}{t:TSet}(ho:PE X o to)(hi:PE X i ti)(hs:PSet X t)
  (ha:∀v,mH (.Subscript o i pos) X.env v=(do
   let ov <-lN [v] (eval o X.env)
   let iv <-lN [v,ov] (eval i X.env)
   standAt pos
   lN [v,ov,iv] (setItem ov iv v)
   release [v,ov,iv] []):=by intro _;rfl):PG X (.Subscript o i pos) (gSub to ti t):=by
 intro qv s σ H v u Q I r h;rw[ha];refine aA (fP (thn (ho qv s σ H _ I h) λov s1 ⟨x,H1,I1,r1,q1⟩=>?_))
 refine aA (fP (thn (hi qv s1 σ H1 _ I1 q1) λiv s2 ⟨y,H2,I2,r2,q2⟩=>?_))
 refine aA (wpAny_standAt (aA (fP (thn (hs qv s2 σ H2 x y v ov iv u _ I2 r1 r2 r q2) λ_ s3 ⟨H3,I3,q3⟩=>?_))))
 exact wpAny_release ⟨σ,H3,I3,q3⟩
def tAsg(te:TE)(g:TG):TS:=λD σ H=>te σ H λx H1=>g x σ H1 D.nx
def az3{tg e:cZ}{te:TE}{g:TG}(he:PE X e te)(hg:PG X tg g)(hs:swapsWithSole [tg] e pos.line X.env=pure ZV:=by rfl)(hw:swappedStores [tg] e X.env=pure ZX:=by rfl)
  (h1:(iH [tg] X.env).map (·.2)=[mH tg X.env]:=by rfl):PS X (.Assign [tg] e pos) (tAsg te g):=by
 intro qv s σ H D I h;refine wpAny_Assign_stores (thn (he qv s σ H _ I h) λv s1 ⟨x,H1,I1,r1,q1⟩=>?_) hs hw
 rw[h1];exact thn (hg qv s1 σ H1 x v _ I1 r1 q1) λ_ s2 q=>q
def aqa{i:Nat}{x:Str}{e:cZ}{te:TE}{pos':Pos}(hN:X.N.Nodup)(hi:X.N[i]? = ZY x)(hx:Loc X.env.scope x)(he:PE X e te)(hs:gF e (ZY (.Name x pos')) pos.line X.env=pure ZV:=by rfl)(hf:X.fn x=ZW∨X.env.scope.names.lookup x=ZY .local:=by first |exact .inl rfl |exact .inr rfl |assumption) :
  PS X (.Assign [.Name x pos'] e pos) (tAsg te (ayx i)):=by
 intro qv s σ H D I h;refine wpAny_Assign_Name (thn (he qv s σ H _ I h) λv s1 ⟨y,H1,I1,r1,q1⟩=>?_) hs
 exact aeo I1 hN hi hx r1 (λs2 I2=>⟨_,H1,I2,q1⟩) hf
def tAug(i:Nat)(te:TE)(ti:TIp):TS:=λD σ H=>∃x,σ[i]? = ZY (ZY x)/\te σ H λy H1=>ti x y H1 λz H2=>D.nx (σ.set i (ZY z)) H2
def a5z{i:Nat}{x:Str}{e:cZ}{te:TE}{op:mC}{ti:TIp}{pos':Pos}(hN:X.N.Nodup)(hi:X.N[i]? = ZY x)(hx:Loc X.env.scope x)(he:PE X e te)(ho:PIp X op ti)(hf:X.fn x=ZW∨X.env.scope.names.lookup x=ZY .local:=by first |exact .inl rfl |exact .inr rfl |assumption) :
  PS X (.AugAssign (.Name x pos') op e pos) (tAug i te ti):=by
 intro qv s σ H D I h;obtain⟨v,e1,h⟩:=h;obtain⟨m,hn,hl⟩:=I.loc;have vis:Vis X.env.scope x:=by rcases hx with k |k;exact .inl k;exact .inr (.inl k)
 obtain⟨u,r,l⟩:=hl i x v hi e1 vis;refine wpAny_AugAssign_Name ?_;have go:bU (bZ X.prog X.w) X.A (eval e X.env) (λw s₂=>bU (bZ X.prog X.w) X.A (inplaceOp op u w) (λr s₃=>bU (bZ X.prog X.w) X.A (storeName X.env x r) (λ_=>SP X qv D .next) X.xe s₃) X.xe s₂) X.xe s:=by
  refine thn (he qv s σ H _ I h) λw s1 ⟨y,H1,I1,r1,q1⟩=>?_
  refine thn (ho qv s1 σ H1 v y u w _ I1 r r1 q1) λz s2 ⟨zv,H2,I2,r2,q2⟩=>?_
  exact aeo I2 hN hi hx r2 (λs3 I3=>⟨_,H2,I3,q2⟩) hf
 rcases l with⟨hk,hm⟩ |⟨hk,c,hc,hcell⟩
 ·exact wpAny_loadName_local I.ok.kind hk hn hm go
 ·rcases hk with hk |hk
  ·exact wpAny_loadName_cell I.ok.kind hk hc hcell go
  ·rcases hx with k |k
   ·have:X.env.scope.names.lookup x=ZY .free:=hk;rw[k] at this;cases this
   ·have:X.env.scope.names.lookup x=ZY .free:=hk;rw[k] at this;cases this
def bam(to ti te:TE)(tget:V->V->Hp->VK->Prop)(tip:TIp)(tset:TSet):TS:=λD σ H=>to σ H λo H1=>ti σ H1 λi H2=>tget o i H2 λx H3=>te σ H3 λy H4=>tip x y H4 λz H5=>tset o i z H5 λH6=>D.nx σ H6
def PGet(X:Cx)(t:V->V->Hp->VK->Prop):Prop :=
 ∀(qv:List (aU×Obj)) (s:aG) (σ:St) (H:Hp) (o i:V) (ov iv:aD) (Q:VK),Inv X qv σ H s->RelV o ov->RelV i iv->t o i H Q ->
  bU (bZ X.prog X.w) X.A (pJ ov iv) (EP X qv σ Q) X.xe s
def a1o{o i e:cZ}{to ti te:TE}{tget:V->V->Hp->VK->Prop}{tip:TIp}{tset:TSet}{op:mC}{tpos:Pos}(ho:PE X o to)(hi:PE X i ti)(hg:PGet X tget)(he:PE X e te)(hp:PIp X op tip)(hs:PSet X tset)
  (ha:∀ov iv new,augStore i ov iv new=(do lN [new,ov,iv] (setItem ov iv new);release [new,ov,iv] [];pure .next):=by intros;rfl):PS X (.AugAssign (.Subscript o i tpos) op e pos) (bam to ti te tget tip tset):=by
 intro qv s σ H D I h;refine wpAny_AugAssign_SubscriptAny (thn (ho qv s σ H _ I h) λov s1 ⟨x1,H1,I1,r1,q1⟩=>?_) ha
 refine thn (hi qv s1 σ H1 _ I1 q1) λiv s2 ⟨x2,H2,I2,r2,q2⟩=>?_
 refine thn (hg qv s2 σ H2 x1 x2 ov iv _ I2 r1 r2 q2) λold s3 ⟨x3,H3,I3,r3,q3⟩=>?_
 refine thn (he qv s3 σ H3 _ I3 q3) λv s4 ⟨x4,H4,I4,r4,q4⟩=>?_
 refine thn (hp qv s4 σ H4 x3 x4 old v _ I4 r3 r4 q4) λnew s5 ⟨x5,H5,I5,r5,q5⟩=>?_
 exact thn (hs qv s5 σ H5 x1 x2 x5 ov iv new _ I5 r1 r2 r5 q5) λ_ s6 ⟨H6,I6,q6⟩=>⟨σ,H6,I6,q6⟩
def ipI(f:Int->Int->Int):TIp:=λx y H Q=>∃i j,x=.int i/\y=.int j/\Q (.int (f i j)) H
def a0e:PIp X .Add (ipI λi j=>i+j):=by
 intro qv s σ H x y v u Q I r1 r2 h;obtain⟨i,j,e1,e2,q⟩:=h;subst e1;subst e2;obtain⟨t,rfl⟩:=r1;obtain⟨t',rfl⟩:=r2;exact iadd_int ⟨.int _,H,I.tok _,⟨_,rfl⟩,q⟩
end
section
variable{X:Cx}{pos:Pos}
def a4x(c:TT)(tb:TS):TS:=λD σ H=>∃W:Nat->St->Hp->Prop,(∃m,W m σ H)/\∀m σ H,W m σ H ->
 c σ H λb H1=>if b=ZW then ∃N:St->Hp->Prop,(∀σ' H',N σ' H'->∃m',m'<m/\W m' σ' H')/\tb { D with nx:=N,ct:=N,bk:=D.nx } σ H1 else D.nx σ H1
theorem ap9{c:cZ}{body:List fD}{tc:TT}{tb:TS}(hp:qX (bZ X.prog X.w) X.A X.env X.xe)(hc:PT X c tc)(hb:PSs X body tb):PS X (.While c body [] pos) (a4x tc tb):=by
 intro qv s σ H D I h;obtain⟨W,⟨m0,w0⟩,turn⟩:=h;refine wpAny_While (codeAny_whileLoop (λn s'=>∃σ' H',Inv X qv σ' H' s'/\W n σ' H') ?_ m0 ⟨σ,H,I,w0⟩)
 rintro n s1 ⟨σ1,H1,I1,w1⟩
 refine wpAny_passesOwn hp (thn (hc qv s1 σ1 H1 _ I1 (turn n σ1 H1 w1)) λb s2 ⟨H2,I2,q2⟩=>?_)
 cases b with
 |true=>
  obtain⟨N,hN,q2⟩:=q2;rw[if_pos rfl];refine wpAny_passesOwn hp (thn (hb qv s2 σ1 H2 _ I2 q2) λf s3 q3=>?_)
  cases f with
  |next=>
   obtain⟨σ3,H3,I3,n3⟩:=q3;obtain⟨m',hm,w3⟩:=hN σ3 H3 n3;exact⟨m',hm,σ3,H3,I3,w3⟩
  |cont=>
   obtain⟨σ3,H3,I3,n3⟩:=q3;obtain⟨m',hm,w3⟩:=hN σ3 H3 n3;exact⟨m',hm,σ3,H3,I3,w3⟩
  |brk=>exact q3
  |ret v=>exact q3
 |false=>
  rw[if_neg cY];exact wpAny_execs_nil ⟨σ1,H2,I2,q2⟩
end
structure It where
 go:Nat->Hp->Prop
 yld:Nat->Hp->V->Hp->Prop
 stop:Nat->Hp->Prop
def FpOk(X:Cx)(qv:List (aU×Obj))(H:Hp)(b:aU):Prop :=
 H b=ZX/\b≠X.env.locals/\b∉X.fs/\(b∈X.ex∨X.s₀.heap.objs.size<=b)/\(∀x c,X.env.cells.lookup x=ZY c->c≠b)/\∀p∈X.pn++qv,p.1≠b
def Inv.fpOk{X:Cx}{qv:List (aU×Obj)}{σ:St}{H H':Hp}{s:aG}{b:aU}(I:Inv X qv σ H s)(hb:s.heap.objs.size<=b)(hn:H' b=ZX):FpOk X qv H' b:=by
 refine⟨hn,jJ (bN I.lt hb),I.nofs hb,.inr (cW I.sz hb),λx c e z=>?_,λp hp z=>?_⟩
 ·obtain⟨v,q⟩:=I.cell x c e;exact absurd (bN q.lt (by rw[z];exact hb)) (iR _)
 ·exact absurd (bN (aN (I.pin p hp).1) (by rw[z];exact hb)) (iR _)
structure Turn (P:cA) (w:dU) (K:Fg9) (tg:cZ) (J:It) (fp:List aU) (it:aU) (tn:Nat->eF->Prop):Prop where
 mem:it∈fp
 obj:∀i h,tn i h->∀b∈fp,∃o,h.get? b=ZY o/\∀v,o.data≠.cell v
 keep:∀i h h',tn i h->(∀b∈fp,∀o,h.get? b=ZY o->h'.get? b=ZY o)->tn i h'
 item:∀(X:Cx),X.prog=P->X.w=w->X.K=K->X.calm=ZW->∀(i:Nat) (qv:List (aU×Obj)) (s:aG) (σ:St) (H:Hp) (E:aD->aG->Prop),Inv X qv σ H s->(∀b∈fp,FpOk X qv H b)->tn i s.heap->J.go i H ->
  bU (bZ P w) X.A (pyNext (.ref it)) (λr s1=>∃u,r=ZY u /\
   bU (bZ P w) X.A (letOwnedTupleGo tg (.ref it) u) (λ_ s2=>∃x H',Inv X qv σ H' s2/\RelV x u/\J.yld i H x H'/\tn (i+1) s2.heap/\∀b∈fp,H' b=ZX) E s1) E s
 done:∀(X:Cx),X.prog=P->X.w=w->X.K=K->X.calm=ZW->∀(i:Nat) (qv:List (aU×Obj)) (s:aG) (σ:St) (H:Hp) (E:aD->aG->Prop),Inv X qv σ H s->(∀b∈fp,FpOk X qv H b)->tn i s.heap->J.stop i H ->
  bU (bZ P w) X.A (pyNext (.ref it)) (λr s1=>r=ZX/\Inv X qv σ H s1) E s
 self:∀(A:cT) (i:Nat) (s:aG) (Q:aD->aG->Prop) (E:aD->aG->Prop),tn i s.heap->Q (.ref it) s->bU (bZ P w) A (pyIter (.ref it)) Q E s
abbrev TI:=St->Hp->(It->Hp->Prop)->Prop
def PIE(X:Cx)(qv:List (aU×Obj))(σ:St)(tg:cZ)(R:It->Hp->Prop)(itv:aD)(s2:aG):Prop :=
 ∃(it:aU) (fp:List aU) (tn:Nat->eF->Prop) (J:It) (H':Hp),itv=.ref it/\Inv X qv σ H' s2/\Turn X.prog X.w X.K tg J fp it tn/\tn 0 s2.heap/\(∀b∈fp,FpOk X qv H' b)/\R J H'
def PI(X:Cx)(tg iter:cZ)(wi:TI):Prop :=
 ∀(qv:List (aU×Obj)) (s:aG) (σ:St) (H:Hp) (R:It->Hp->Prop),Inv X qv σ H s->wi σ H R ->
  bU (bZ X.prog X.w) X.A (eval iter X.env) (λv s1=>bU (bZ X.prog X.w) X.A (pyIter v) (PIE X qv σ tg R) X.xe s1) X.xe s
def a3e{M:uB}{A:cT}{E:aD->aG->Prop}{s:aG}{tg:cZ}{it:aU}{u:aD}{o:Obj}{n:String}{vs:Array aD}{Q:Unit->aG->Prop}(ho:s.heap.get? it=ZY o)(hc:o.cls=.type n)(hd:o.data=.fields vs)
  (hn:["enumerate","zip","dict_itemiterator","dict_reverseitemiterator","odict_iterator","itertools.zip_longest","itertools.pairwise"].contains n=ZV) (hQ:Q () s):bU M A (letOwnedTupleGo tg (.ref it) u) Q E s:=by
 unfold letOwnedTupleGo;cases tg <;> first
  |exact aR hQ
  | (cases u <;> first
    |exact aR hQ
    | (refine aA (wpAny_load ho ?_)
       rw[hc,hd];show bU M A (if (["enumerate","zip","dict_itemiterator","dict_reverseitemiterator","odict_iterator","itertools.zip_longest","itertools.pairwise"].contains n&&vs[0]? == ZY (lM _))=ZW then _ else _) Q E s
       rw[if_neg (by intro h;rw[hn,wJ] at h;cases h)]
       exact aR hQ))
def Itl(K:Fg9)(a:aU):It :=
 ⟨λi H=>∃xs x,SqL K H a xs/\xs[i]? = ZY x,λi H x H'=>H'=H/\∀xs,SqL K H a xs->xs[i]? = ZY x,λi H=>∃xs,SqL K H a xs/\xs.length<=i⟩
def Itt(K:Fg9)(a:aU):It :=
 ⟨λi H=>∃xs x,SqT K H a xs/\xs[i]? = ZY x,λi H x H'=>H'=H/\∀xs,SqT K H a xs->xs[i]? = ZY x,λi H=>∃xs,SqT K H a xs/\xs.length<=i⟩
def Itr(lo:Int)(n:Nat):It:=⟨λi _=>i<n,λi H x H'=>H'=H/\x=.int (lo+i),λi _=>n<=i⟩
def as7{P:cA}{w:dU}{K:Fg9}{tg:cZ}(a it:aU):Turn P w K tg (Itl K a) [it] it (λi h=>h.IsListIter it a i) where
 mem:=by simp
 obj:=λi h st b hb=>by
  have e:b=it:=by simpa using hb
  subst e;obtain⟨o,e,c,d⟩:=st;exact⟨o,e,λv z=>by rw[d] at z;cases z⟩
 keep:=λi h h' st k=>st.at λo e=>k it (by simp) o e
 item:=by
  intro X hP hw hK hc i qv s σ H E I hf st hg;subst hP hw hK;obtain⟨xs,x,hq,hx⟩:=hg;obtain⟨its,rv,p,hz⟩:=I.list hq;obtain⟨u,hu,ru⟩:=rv.get hx;obtain⟨f0,f1,f2,f3,f4,f5⟩:=hf it (by simp)
  refine wpAny_pyNext_list_item st p.isList (x:=u) (by simpa using hu) λh' st' sb=>?_
  have I1:Inv X qv σ H { s with heap:=h' }:=I.turned (t':=s.toks) (λb o hb e=>(sb.2 b hb).trans e) f0 f1 f3 f4 f5
  obtain⟨o,e,c,d⟩:=id st';exact⟨u,rfl,a3e (s:={ s with heap:=h' }) e c d (by decide) ⟨x,H,I1,ru,⟨rfl,λys hy=>by rw[I.list_inj hy hq];exact hx⟩,st',λb hb=>(hf b hb).1⟩⟩
 done:=by
  intro X hP hw hK hc i qv s σ H E I hf st hg;subst hP hw hK;obtain⟨xs,hq,hx⟩:=hg;obtain⟨its,rv,p,hz⟩:=I.list hq;obtain⟨f0,f1,f2,f3,f4,f5⟩:=hf it (by simp)
  have hl:=rv.length;exact wpAny_pyNext_list_end (I.ok.hd hc) st p.isList (by simp;omega) λh' eb=>⟨rfl,I.turned (t':=s.toks) (λb o hb e=>eb b o hb e) f0 f1 f3 f4 f5⟩
 self:=λ_ _ _ _ _ st h=>wpAny_pyIter_listiter st h
def arh{P:cA}{w:dU}{K:Fg9}{tg:cZ}(a it:aU):Turn P w K tg (Itt K a) [it] it (λi h=>h.IsTupleIter it a i) where
 mem:=by simp
 obj:=λi h st b hb=>by
  have e:b=it:=by simpa using hb
  subst e;obtain⟨o,e,c,d⟩:=st;exact⟨o,e,λv z=>by rw[d] at z;cases z⟩
 keep:=λi h h' st k=>st.at λo e=>k it (by simp) o e
 item:=by
  intro X hP hw hK hc i qv s σ H E I hf st hg;subst hP hw hK;obtain⟨xs,x,hq,hx⟩:=hg;obtain⟨its,rv,p,hz⟩:=I.tuple hq;obtain⟨u,hu,ru⟩:=rv.get hx;obtain⟨f0,f1,f2,f3,f4,f5⟩:=hf it (by simp)
  refine wpAny_pyNext_tuple_item st (show s.heap.IsTuple a its.toArray from p) (x:=u) (by simpa using hu) λh' st' sb=>?_
  have I1:Inv X qv σ H { s with heap:=h' }:=I.turned (t':=s.toks) (λb o hb e=>(sb.2 b hb).trans e) f0 f1 f3 f4 f5
  obtain⟨o,e,c,d⟩:=id st';exact⟨u,rfl,a3e (s:={ s with heap:=h' }) e c d (by decide) ⟨x,H,I1,ru,⟨rfl,λys hy=>by rw[I.tuple_inj hy hq];exact hx⟩,st',λb hb=>(hf b hb).1⟩⟩
 done:=by
  intro X hP hw hK hc i qv s σ H E I hf st hg;subst hP hw hK;obtain⟨xs,hq,hx⟩:=hg;obtain⟨its,rv,p,hz⟩:=I.tuple hq;obtain⟨f0,f1,f2,f3,f4,f5⟩:=hf it (by simp)
  have hl:=rv.length;exact wpAny_pyNext_tuple_end (I.ok.hd hc) st (show s.heap.IsTuple a its.toArray from p) (by simp;omega) λh' eb=>⟨rfl,I.turned (t':=s.toks) (λb o hb e=>eb b o hb e) f0 f1 f3 f4 f5⟩
 self:=λ_ _ _ _ _ st h=>wpAny_pyIter_tupleiter st h
def ari{P:cA}{w:dU}{K:Fg9}{tg:cZ}(it:aU)(lo:Int)(n:Nat):Turn P w K tg (Itr lo n) [it] it (λi h=>IsRangeIter h it (lo+(i:Nat)*1) ((n:Int)-(i:Nat)) 1) where
 mem:=by simp
 obj:=λi h st b hb=>by
  have e:b=it:=by simpa using hb
  subst e;exact⟨_,st,λv z=>by
   have z':Data.fields _=Data.cell v:=z;cases z'⟩
 keep:=λi h h' st k=>k it (by simp) _ st
 item:=by
  intro X hP hw hK hc i qv s σ H E I hf st hg;subst hP hw hK;obtain⟨f0,f1,f2,f3,f4,f5⟩:=hf it (by simp)
  have W:=Walks.range (prog:=X.prog) (w:=X.w) (I.ok.hd hc) it lo 1 n;refine W.item i s _ _ hg st λv h' tk hv st' kk=>?_
  obtain⟨t,rfl⟩:=hv;have I1:Inv X qv σ H { s with heap:=h',toks:=tk }:=I.turned (λb o hb e=>kk b o (by simpa using hb) e) f0 f1 f3 f4 f5
  refine⟨_,rfl,a3e (s:={ s with heap:=h',toks:=tk }) (n := "range_iterator") st' rfl rfl (by decide) ⟨.int (lo+i),H,I1,⟨t,?_⟩,⟨rfl,rfl⟩,st',λb hb=>(hf b hb).1⟩⟩
  rw[Int.mul_one]
 done:=by
  intro X hP hw hK hc i qv s σ H E I hf st hg;subst hP hw hK;obtain⟨f0,f1,f2,f3,f4,f5⟩:=hf it (by simp)
  exact wpAny_pyNext_range_end (I.ok.hd hc) st (by have:n<=i:=hg;omega) λh' eb=>⟨rfl,I.turned (t':=s.toks) (λb o hb e=>eb b o hb e) f0 f1 f3 f4 f5⟩
 self:=λ_ _ _ _ _ st h=>wpAny_pyIter_rangeiter st h
section
variable{X:Cx}{tg:cZ}
def bbz(K:Fg9)(tl:TE):TI:=λσ H R=>tl σ H λx H1=>∃a,x=.ref a/\(∃xs,SqL K H1 a xs)/\R (Itl K a) H1
def iTup(K:Fg9)(tl:TE):TI:=λσ H R=>tl σ H λx H1=>∃a,x=.ref a/\(∃xs,SqT K H1 a xs)/\R (Itt K a) H1
def aud{l:cZ}{tl:TE}(hl:PE X l tl):PI X tg l (bbz X.K tl):=by
 intro qv s σ H R I h;refine thn (hl qv s σ H _ I h) λv s1 ⟨x,H1,I1,r1,q1⟩=>?_
 obtain⟨a,e,⟨xs,hq⟩,q⟩:=q1;subst e;cases r1;obtain⟨its,rv,p,hz⟩:=I1.list hq;refine wpAny_pyIter_list p.isList ?_;refine⟨s1.heap.objs.size,[s1.heap.objs.size],_,_,H1,rfl,I1.kept (t':=s1.toks) λb o e=>aB _ e,as7 a _,⟨_,aW _ rfl,rfl,rfl⟩,λb hb=>?_,q⟩
 have e:b=s1.heap.objs.size:=by simpa using hb
 subst e;exact I1.fpOk (aM _) (I1.hok.fresh (aM _))
def a6a{l:cZ}{tl:TE}(hl:PE X l tl):PI X tg l (iTup X.K tl):=by
 intro qv s σ H R I h;refine thn (hl qv s σ H _ I h) λv s1 ⟨x,H1,I1,r1,q1⟩=>?_
 obtain⟨a,e,⟨xs,hq⟩,q⟩:=q1;subst e;cases r1;obtain⟨its,rv,p,hz⟩:=I1.tuple hq;refine wpAny_pyIter_tuple (show s1.heap.IsTuple a its.toArray from p) ?_
 refine⟨s1.heap.objs.size,[s1.heap.objs.size],_,_,H1,rfl,I1.kept (t':=s1.toks) λb o e=>aB _ e,arh a _,⟨_,aW _ rfl,rfl,rfl⟩,λb hb=>?_,q⟩
 have e:b=s1.heap.objs.size:=by simpa using hb
 subst e;exact I1.fpOk (aM _) (I1.hok.fresh (aM _))
def ap7{qv:List (aU×Obj)}{σ:St}{H:Hp}{s:aG}{R:It->Hp->Prop}{E:aD->aG->Prop}{lo hi:Int}{t u v:Tok}{tk:Nat}(I:Inv X qv σ H s)(h1 : -(2 ^ 62)<=lo)(h2:lo<2 ^ 62)(h3 : -(2 ^ 62)<=hi)(h4:hi<2 ^ 62)
  (q:R (Itr lo (hi-lo).toNat) H):bU (bZ X.prog X.w) X.A (pyIter (.ref s.heap.objs.size)) (PIE X qv σ tg R) E { s with heap:=s.heap.push { cls:=.type "range", data:=.fields #[.int lo t,.int hi u,.int 1 v] },toks:=tk }:=by
 refine wpAny_pyIter_range (IsRange.new ..) (small_one h1 h2 h3 h4) ?_;have I1:Inv X qv σ H { s with heap:=s.heap.push { cls:=.type "range", data:=.fields #[.int lo t,.int hi u,.int 1 v] },toks:=tk }:=I.kept λb o e=>aB _ e
 refine⟨(s.heap.push { cls:=.type "range", data:=.fields #[.int lo t,.int hi u,.int 1 v] }).objs.size,[(s.heap.push { cls:=.type "range", data:=.fields #[.int lo t,.int hi u,.int 1 v] }).objs.size],_,_,H,rfl,
  I1.kept (t':=tk) λb o e=>aB _ e,ari _ lo (hi-lo).toNat,?_,λb hb=>?_,q⟩
 ·have e1:lo+((0:Nat):Int)*1=lo:=by simp
  have e2:(((hi-lo).toNat:Nat):Int)-((0:Nat):Int)=Builtin.Range.rangeSize lo hi 1:=by rw[rangeSize_one];split <;> omega
  show IsRangeIter _ _ (lo+((0:Nat):Int)*1) ((((hi-lo).toNat:Nat):Int)-((0:Nat):Int)) 1;rw[e1,e2];exact aW _ rfl
 ·have e:b=(s.heap.push { cls:=.type "range", data:=.fields #[.int lo t,.int hi u,.int 1 v] }).objs.size:=by simpa using hb
  subst e;exact I1.fpOk (aM _) (I1.hok.fresh (aM _))
def bby(ta:TA):TI:=λσ H R=>ta σ H λvs H1=>∃j:Int,vs=[.int j] /\ -(2 ^ 62)<=j/\j<2 ^ 62/\R (Itr 0 j.toNat) H1
def bbx(ta:TA):TI:=λσ H R=>ta σ H λvs H1=>∃i j:Int,vs=[.int i,.int j]/\(-(2 ^ 62)<=i/\i<2 ^ 62 /\ -(2 ^ 62)<=j/\j<2 ^ 62)/\R (Itr i (j-i).toNat) H1
theorem auc{a:cZ}{ta:TA}{p pos:Pos}(hg:Gl X "range")(hm:X.mg "range"=ZX)(ha:PA X [a] ta)(hs:aO [a] X.env=[(ZV,eval a X.env)]:=by rfl):PI X tg (.Call (.Name "range" p) [a] [] pos) (bby ta):=by
 intro qv s σ H R I h;refine Call_ (ah5 I hg hm boot_range (gB (thn (ha pos qv s σ H _ I h) λus s1 ⟨vs,H1,I1,r1,q1⟩=>?_) hs rfl))
 obtain⟨j,e,q1,q2,q⟩:=q1;subst e;cases r1 with
 |cons r rr=>
  cases rr;obtain⟨t,rfl⟩:=r;exact call_range_1 (ap7 I1 (by omega) (by omega) q1 q2 (by simpa using q))
theorem aub{a b:cZ}{ta:TA}{p pos:Pos}(hg:Gl X "range")(hm:X.mg "range"=ZX)(ha:PA X [a,b] ta)(hs:aO [a,b] X.env=[(ZV,eval a X.env),(ZV,eval b X.env)]:=by rfl)(hs2:aO [b] X.env=[(ZV,eval b X.env)]:=by rfl) :
  PI X tg (.Call (.Name "range" p) [a,b] [] pos) (bbx ta):=by
 intro qv s σ H R I h;refine Call_ (ah5 I hg hm boot_range (gB (thn (ha pos qv s σ H _ I h) λus s1 ⟨vs,H1,I1,r1,q1⟩=>?_) (by rw[hs,hs2]) (by rw[hs2];rfl)))
 obtain⟨i,j,e,⟨q1,q2,q3,q4⟩,q⟩:=q1;subst e;cases r1 with
 |cons r rr=>
  cases rr with
  |cons r' rr=>
   cases rr;obtain⟨t,rfl⟩:=r;obtain⟨t',rfl⟩:=r';exact call_range_2 (ap7 I1 q1 q2 q3 q4 q)
def tFor(wi:TI)(g:TG)(tb:TS):TS:=λD σ H=>wi σ H λJ H1=>∃W:Nat->Nat->St->Hp->Prop,(∃m,W 0 m σ H1)/\∀i m σ H,W i m σ H ->
 (J.stop i H/\D.nx σ H)∨(J.go i H/\∃N:St->Hp->Prop,(∀σ' H',N σ' H'->∃m',m'<m/\W (i+1) m' σ' H')/\∀x H',J.yld i H x H'->g x σ H' λσ2 H2=>tb { D with nx:=N,ct:=N,bk:=D.nx } σ2 H2)
def amj(fp:List aU)(h:eF):List (aU×Obj):=fp.filterMap λb=>(h.get? b).map λo=>(b,o)
def adb{fp:List aU}{h:eF}{b:aU}{o:Obj}(hb:b∈fp)(e:h.get? b=ZY o):(b,o)∈amj fp h:=uJ.mpr ⟨b,hb,by rw[e];rfl⟩
theorem aul{fp:List aU}{h:eF}{p:aU×Obj}(hp:p∈amj fp h):p.1∈fp/\h.get? p.1=ZY p.2:=by
 obtain⟨b,hb,e⟩:=uJ.mp hp;cases q:h.get? b with
 |none=>rw[q] at e;cases e
 |some o=>
  rw[q] at e;have e':(b,o)=p:=bL e;subst e';exact⟨hb,q⟩
def Inv.pinned{qv:List (aU×Obj)}{σ:St}{H:Hp}{s:aG}{fp:List aU}(I:Inv X qv σ H s)(hf:∀b∈fp,FpOk X qv H b)(ho:∀b∈fp,∃o,s.heap.get? b=ZY o/\∀v,o.data≠.cell v):Inv X (qv++amj fp s.heap) σ H s :=
 I.pins_of λp hp=>(cX.mp hp).elim (λz=>I.pin p (cL _ z)) λz=>by
  obtain⟨hb,e⟩:=aul z;obtain⟨f0,f1,f2,_⟩:=hf p.1 hb;obtain⟨o,e',d⟩:=ho p.1 hb;rw[e] at e';cases e';exact⟨e,f0,f1,f2,d⟩
def Inv.unpinned{qv pl:List (aU×Obj)}{σ:St}{H:Hp}{s:aG}(I:Inv X (qv++pl) σ H s):Inv X qv σ H s:=I.pins_of λp hp=>I.pin p (cL _ (lF _ hp))
def a5y{iter:cZ}{body:List fD}{wi:TI}{g:TG}{tb:TS}{pos:Pos}(hp:qX (bZ X.prog X.w) X.A X.env X.xe)(hc:X.calm=ZW)(hi:PI X tg iter wi)(hg:PG X tg g)(hb:PSs X body tb)
  (hs:∀x,eQ iter X.env x=pure x:=by intro _;rfl):PS X (.For tg iter body [] pos) (tFor wi g tb):=by
 intro qv s σ H D I h;refine wpAny_For (thn (hi qv s σ H _ I h) λv s1 h1=>thn h1 λitv s2 h2=>?_) hs
 obtain⟨it,fp,tn,J,H2,e,I2,T,st2,f2,W,⟨m0,w0⟩,turn⟩:=h2;subst e;have stat:∀{H':Hp},(∀b∈fp,H' b=ZX)->∀b∈fp,FpOk X qv H' b:=λhn b hb=>⟨hn b hb,(f2 b hb).2⟩
 refine codeAny_forLoop_any (λn s'=>∃i σ' H',Inv X qv σ' H' s'/\tn i s'.heap/\(∀b∈fp,H' b=ZX)/\W i n σ' H') ?_ m0 ⟨0,σ,H2,I2,st2,λb hb=>(f2 b hb).1,w0⟩
 rintro n s3 ⟨i,σ3,H3,I3,st3,fr3,w3⟩
 rcases turn i n σ3 H3 w3 with⟨stop,qn⟩ |⟨go,N,hN,step⟩
 ·refine wpAny_passesOwn hp (thn (T.done X rfl rfl rfl hc i qv s3 σ3 H3 X.xe I3 (stat fr3) st3 stop) λr s4 ⟨hr,I4⟩=>?_)
  subst hr;exact wpAny_execs_nil ⟨σ3,H3,I4,qn⟩
 ·refine wpAny_passesOwn hp (thn (T.item X rfl rfl rfl hc i qv s3 σ3 H3 X.xe I3 (stat fr3) st3 go) λr s4 ⟨u,hr,h4⟩=>?_)
  subst hr;refine wpAny_passesOwn hp (thn h4 λ_ s5 ⟨x,H5,I5,r5,y5,st5,fr5⟩=>?_)
  have I5':=I5.pinned (stat fr5) (T.obj _ _ st5);refine wpAny_passesOwn hp (thn (hg _ s5 σ3 H5 x u _ I5' r5 (step x H5 y5)) λ_ s6 ⟨σ6,H6,I6,q6⟩=>?_)
  refine wpAny_passesOwn hp (thn (hb _ s6 σ6 H6 _ I6 q6) λf s7 q7=>?_)
  have again:∀{σ7:St} {H7:Hp},Inv X (qv++amj fp s5.heap) σ7 H7 s7->N σ7 H7->∃m,m<n/\∃i σ' H',Inv X qv σ' H' s7/\tn i s7.heap/\(∀b∈fp,H' b=ZX)/\W i m σ' H':=λ{σ7 H7} I7 n7=>by
   obtain⟨m',hm,w7⟩:=hN σ7 H7 n7;refine⟨m',hm,i+1,σ7,H7,I7.unpinned,T.keep _ _ _ st5 λb hb o e=>(I7.pin (b,o) (cL _ (cL _ (adb hb e)))).1,λb hb=>?_,w7⟩
   obtain⟨o,e,d⟩:=T.obj _ _ st5 b hb;exact(I7.pin (b,o) (cL _ (cL _ (adb hb e)))).2.1
  cases f with
  |next=>obtain⟨σ7,H7,I7,n7⟩:=q7;exact again I7 n7
  |cont=>obtain⟨σ7,H7,I7,n7⟩:=q7;exact again I7 n7
  |brk=>obtain⟨σ7,H7,I7,q7⟩:=q7;exact⟨σ7,H7,I7.unpinned,q7⟩
  |ret v=>obtain⟨x7,σ7,H7,I7,r7,q7⟩:=q7;exact⟨x7,σ7,H7,I7.unpinned,r7,q7⟩
end
abbrev R2:=V->V->Hp->VK->Prop
def OpR(X:Cx)(f:aD->aD->Sem aD)(r:R2):Prop :=
 ∀(qv:List (aU×Obj)) (s:aG) (σ:St) (H:Hp) (x y:V) (v u:aD) (Q:VK),Inv X qv σ H s->RelV x v->RelV y u->r x y H Q ->
  bU (bZ X.prog X.w) X.A (f v u) (EP X qv σ Q) X.xe s
def UnR(X:Cx)(f:aD->Sem aD)(r:V->Hp->VK->Prop):Prop :=
 ∀(qv:List (aU×Obj)) (s:aG) (σ:St) (H:Hp) (x:V) (v:aD) (Q:VK),Inv X qv σ H s->RelV x v->r x H Q ->
  bU (bZ X.prog X.w) X.A (f v) (EP X qv σ Q) X.xe s
def afp(X:Cx)(f:aD)(r:List V->Hp->VK->Prop):Prop :=
 ∀(qv:List (aU×Obj)) (s:aG) (σ:St) (H:Hp) (xs:List V) (us:List aD) (Q:VK),Inv X qv σ H s->Vals xs us->r xs H Q ->
  bU (bZ X.prog X.w) X.A (call f us) (EP X qv σ Q) X.xe s
def tOp(r:R2)(ta tb:TE):TE:=λσ H Q=>ta σ H λx H1=>tb σ H1 λy H2=>r x y H2 Q
def tUn(r:V->Hp->VK->Prop)(ta:TE):TE:=λσ H Q=>ta σ H λx H1=>r x H1 Q
def rI(C:Int->Int->Prop)(g:Int->Int->V):R2:=λx y H Q=>∃i j,x=.int i/\y=.int j/\C i j/\Q (g i j) H
def rI0(g:Int->Int->V):R2:=λx y H Q=>∃i j,x=.int i/\y=.int j/\Q (g i j) H
def rU(g:Int->V):V->Hp->VK->Prop:=λx H Q=>∃i,x=.int i/\Q (g i) H
section
variable{X:Cx}{a b c:cZ}{ta tb tc:TE}{pos:Pos}
def binT(ha:PE X a ta)(hb:PE X b tb){qv:List (aU×Obj)}{s:aG}{σ:St}{H:Hp}{R:V->V->Hp->Prop}(I:Inv X qv σ H s)
  (h:ta σ H λx H1=>tb σ H1 λy H2=>R x y H2) {Q:aD->aG->Prop} {f:aD->aD->Sem aD}
  (hf:∀v u s2 x y H2,Inv X qv σ H2 s2->RelV x v->RelV y u->R x y H2->bU (bZ X.prog X.w) X.A (f v u) Q X.xe s2) :
  bU (bZ X.prog X.w) X.A (eval a X.env) (λv s₁=>bU (bZ X.prog X.w) X.A (eval b X.env) (λu s₂=>bU (bZ X.prog X.w) X.A (f v u) Q X.xe s₂) X.xe s₁) X.xe s:=by
 refine thn (ha qv s σ H _ I h) λv s1 ⟨x,H1,I1,r1,q1⟩=>?_
 refine thn (hb qv s1 σ H1 _ I1 q1) λu s2 ⟨y,H2,I2,r2,q2⟩=>?_
 exact hf v u s2 x y H2 I2 r1 r2 q2
def ba2{op:mC}{r:R2}(ho:OpR X (eY op) r)(ha:PE X a ta)(hb:PE X b tb):PE X (.BinOp a op b pos) (tOp r ta tb):=by
 intro qv s σ H Q I h;exact wpAny_BinOp (binT ha hb I h λv u s2 x y H2 I2 rx ry q=>ho qv s2 σ H2 x y v u Q I2 rx ry q)
def ba1{op:UnaryOp}{r:V->Hp->VK->Prop}(ho:UnR X (unaryOp op) r)(ha:PE X a ta):PE X (.UnaryOp op a pos) (tUn r ta):=by
 intro qv s σ H Q I h;exact UnaryOp_ (thn (ha qv s σ H _ I h) λv s1 ⟨x,H1,I1,r1,q1⟩=>ho qv s1 σ H1 x v Q I1 r1 q1)
def opI{f:aD->aD->Sem aD}{C:Int->Int->Prop}{g:Int->Int->Int}
  (rule:∀(i j:Int) (t u:Tok) (s:aG) (Q:aD->aG->Prop) (E:aD->aG->Prop),C i j->Q (.int (g i j) s.toks) { s with toks:=s.toks+1 }->bU (bZ X.prog X.w) X.A (f (.int i t) (.int j u)) Q E s) :
  OpR X f (rI C λi j=>.int (g i j)):=by
 intro qv s σ H x y v u Q I rx ry h;obtain⟨i,j,rfl,rfl,hc,q⟩:=h;obtain⟨t,rfl⟩:=rx;obtain⟨t',rfl⟩:=ry;exact rule i j t t' s _ _ hc ⟨.int (g i j),H,I.tok _,⟨_,rfl⟩,q⟩
def opI0{f:aD->aD->Sem aD}{g:Int->Int->Int}
  (rule:∀(i j:Int) (t u:Tok) (s:aG) (Q:aD->aG->Prop) (E:aD->aG->Prop),Q (.int (g i j) s.toks) { s with toks:=s.toks+1 }->bU (bZ X.prog X.w) X.A (f (.int i t) (.int j u)) Q E s) :
  OpR X f (rI0 λi j=>.int (g i j)):=by
 intro qv s σ H x y v u Q I rx ry h;obtain⟨i,j,rfl,rfl,q⟩:=h;obtain⟨t,rfl⟩:=rx;obtain⟨t',rfl⟩:=ry;exact rule i j t t' s _ _ ⟨.int (g i j),H,I.tok _,⟨_,rfl⟩,q⟩
def opB0{f:aD->aD->Sem aD}{g:Int->Int->Bool}
  (rule:∀(i j:Int) (t u:Tok) (s:aG) (Q:aD->aG->Prop) (E:aD->aG->Prop),Q (.bool (g i j)) s->bU (bZ X.prog X.w) X.A (f (.int i t) (.int j u)) Q E s) :
  OpR X f (rI0 λi j=>.bl (g i j)):=by
 intro qv s σ H x y v u Q I rx ry h;obtain⟨i,j,rfl,rfl,q⟩:=h;obtain⟨t,rfl⟩:=rx;obtain⟨t',rfl⟩:=ry;exact rule i j t t' s _ _ ⟨.bl (g i j),H,I,rfl,q⟩
def CPow(i j:Int):Prop:=0<=j/\j<=1000000/\i.natAbs<2 ^ 64
def CMul(i j:Int):Prop:=(-(2 ^ 64)<i/\i<2 ^ 64)∨(-(2 ^ 64)<j/\j<2 ^ 64)
def CMul.ok{i j:Int}(h:CMul i j):IntMulOk i j:=by
 rcases h with⟨h1,h2⟩ |⟨h1,h2⟩
 ·exact .of_left (intBits_le_64 h1 h2)
 ·exact .of_right (intBits_le_64 h1 h2)
def a6w:OpR X (eY .Add) (rI0 λi j=>.int (i+j)):=opI0 λ_ _ _ _ _ _ _ q=>add_int q
def a6q:OpR X (eY .Sub) (rI0 λi j=>.int (i-j)):=opI0 λ_ _ _ _ _ _ _ q=>sub_int q
def a6t:OpR X (eY .Mult) (rI CMul λi j=>.int (i*j)):=opI λ_ _ _ _ _ _ _ hc q=>mul_int q hc.ok
def a6u:OpR X (eY .Mod) (rI (λ_ j=>0<j) λi j=>.int (i % j)):=opI λi j _ _ _ _ _ hc q=>by
 have h1:(0:Int)<j:=hc;exact mod_int' (by omega) (by rw[rJ i (by omega)];exact q)
def a6s:OpR X (eY .Pow) (rI CPow λi j=>.int (i ^ j.toNat)):=opI λ_ _ _ _ _ _ _ hc q=>pow_int_small hc.1 hc.2.1 hc.2.2 q
def unI{f:aD->Sem aD}{g:Int->Int}
  (rule:∀(i:Int) (t:Tok) (s:aG) (Q:aD->aG->Prop) (E:aD->aG->Prop),Q (.int (g i) s.toks) { s with toks:=s.toks+1 }->bU (bZ X.prog X.w) X.A (f (.int i t)) Q E s) :
  UnR X f (rU λi=>.int (g i)):=by
 intro qv s σ H x v Q I rx h;obtain⟨i,rfl,q⟩:=h;obtain⟨t,rfl⟩:=rx;exact rule i t s _ _ ⟨.int (g i),H,I.tok _,⟨_,rfl⟩,q⟩
def a4u:UnR X (unaryOp .USub) (rU λi=>.int (-i)):=unI λ_ _ _ _ _ q=>neg_int q
end
section
variable{X:Cx}{a b c:cZ}{ta tb tc:TE}{pos:Pos}
def ba5:OpR X (fB .Lt) (rI0 λi j=>.bl (decide (i<j))):=opB0 λ_ _ _ _ _ _ _ q=>lt_int q
def ax2:OpR X (fB .LtE) (rI0 λi j=>.bl (decide (i<=j))):=opB0 λ_ _ _ _ _ _ _ q=>le_int q
def ba6:OpR X (fB .GtE) (rI0 λi j=>.bl (decide (j<=i))):=opB0 λ_ _ _ _ _ _ _ q=>ge_int q
noncomputable def jn(b:cZ){op:rZ}(h:op≠.In:=by decide)(h2:op≠.NotIn:=by decide):gG op b=ZV:=by
 have e1:(op==CmpOp.In)=ZV:=by cases op <;> first |rfl |exact absurd rfl h
 have e2:(op==CmpOp.NotIn)=ZV:=by cases op <;> first |rfl |exact absurd rfl h2
 cases b <;> simp[gG,e1,e2]
def a2c{op:rZ}{r:R2}(ho:OpR X (fB op) r)(ha:PE X a ta)(hb:PE X b tb)(hm:gG op b=ZV):PE X (.Compare a [op] [b] pos) (tOp r ta tb):=by
 intro qv s σ H Q I h;exact wpAny_Compare1 (binT ha hb I h λv u s2 x y H2 I2 rx ry q=>ho qv s2 σ H2 x y v u Q I2 rx ry q) hm
def bae(t:TE):TT:=λσ H Q=>t σ H λx H'=>∃k,x=.bl k/\Q k H'
def a1m{op:rZ}{r:R2}(ho:OpR X (fB op) r)(ha:PE X a ta)(hb:PE X b tb)(hm:gG op b=ZV):PT X (.Compare a [op] [b] pos) (bae (tOp r ta tb)):=by
 intro qv s σ H Q I h;refine wpAny_isTrue_Compare1 (thn (ha qv s σ H _ I h) λv s1 ⟨x,H1,I1,r1,q1⟩=>thn (hb qv s1 σ H1 _ I1 q1) λu s2 ⟨y,H2,I2,r2,q2⟩=>
  thn (ho qv s2 σ H2 x y v u _ I2 r1 r2 q2) λc s3 ⟨z,H3,I3,r3,k,e,q3⟩=>?_) hm
 subst e;cases r3;exact wpAny_truthy_bool ⟨H3,I3,q3⟩
def azq(r r':R2)(ta tb tc:TE):TE:=λσ H Q=>ta σ H λx H1=>tb σ H1 λy H2=>r x y H2 λz H3=>∃k,z=.bl k /\
 (if k=ZW then tc σ H3 λw' H4=>r' y w' H4 Q else Q (.bl ZV) H3)
theorem axw{op op':rZ}{r r':R2}(ho:OpR X (fB op) r)(ho':OpR X (fB op') r')(ha:PE X a ta)(hb:PE X b tb)(hc:PE X c tc)
  (hm:lastMarks [op,op'] [b,c]=ZV:=by with_unfolding_all rfl):PE X (.Compare a [op,op'] [b,c] pos) (azq r r' ta tb tc):=by
 intro qv s σ H Q I h;refine Compare_chain (thn (ha qv s σ H _ I h) λv s1 ⟨x,H1,I1,r1,q1⟩=>chain_link (thn (hb qv s1 σ H1 _ I1 q1) λu s2 ⟨y,H2,I2,r2,q2⟩=>
  thn (ho qv s2 σ H2 x y v u _ I2 r1 r2 q2) λd s3 ⟨z,H3,I3,r3,k,e,q3⟩=>?_)) hm
 subst e;cases r3;refine wpAny_truthy_bool ?_;cases k with
 |false=>exact ite_ff ⟨.bl ZV,H3,I3,rfl,q3⟩
 |true=>exact ite_tt (chain_last (thn (hc qv s3 σ H3 _ I3 q3) λw' s4 ⟨z',H4,I4,r4,q4⟩=>ho' qv s4 σ H4 y z' u w' Q I4 r2 r4 q4))
def am3:(cF:Nat)<2 ^ 63:=by rw[eN];decide
def ar3:OpR X (eY .Add) (λx y H Q=>∃i j,x=.str i/\y=.str j/\i.length+j.length<=cF/\Q (.str (i++j)) H):=by
 intro qv s σ H x y v u Q I rx ry h;obtain⟨i,j,rfl,rfl,hz,q⟩:=h;obtain⟨t,rfl⟩:=rx;obtain⟨t',rfl⟩:=ry;exact add_str (λt' tk=>⟨.str (i++j),H,I.tok _,⟨_,rfl⟩,q⟩) hz
theorem vals1{x:V}{us:List aD}(r:Vals [x] us):∃u,us=[u]/\RelV x u:=by
 cases r with
 |cons r1 r2=>cases r2;exact⟨_,rfl,r1⟩
theorem vals2{x y:V}{us:List aD}(r:Vals [x,y] us):∃u w',us=[u,w']/\RelV x u/\RelV y w':=by
 cases r with
 |cons r1 r2=>
  cases r2 with
  |cons r3 r4=>cases r4;exact⟨_,_,rfl,r1,r3⟩
def azd:afp X (.builtin "abs") (λxs H Q=>∃i,xs=[.int i]/\Q (.int (if i<0 then -i else i)) H):=by
 intro qv s σ H xs us Q I r h;obtain⟨i,rfl,q⟩:=h;obtain⟨u,rfl,t,rfl⟩:=vals1 r;exact call_abs_int λu tk=>⟨.int (if i<0 then -i else i),H,I.tok _,⟨_,rfl⟩,q⟩
def awl(hc:X.calm=ZW):afp X (.builtin "max") (λxs H Q=>∃i j,xs=[.int i,.int j]/\Q (.int (if j > i then j else i)) H):=by
 intro qv s σ H xs us Q I r h;obtain⟨i,j,rfl,q⟩:=h;obtain⟨u,w',rfl,⟨t,rfl⟩,⟨t',rfl⟩⟩:=vals2 r;refine max_two_ints (I.ok.hd hc) λh' tk k=>⟨_,H,I.kept k,?_,q⟩
 by_cases hj:j > i
 ·rw[if_pos hj,if_pos hj];exact⟨_,rfl⟩
 ·rw[if_neg hj,if_neg hj];exact⟨_,rfl⟩
def anu:afp X (.type "int") (λxs H Q=>(∃i,xs=[.int i]/\Q (.int i) H)∨∃k,xs=[.bl k]/\Q (.int (if k then 1 else 0)) H):=by
 intro qv s σ H xs us Q I r h;rcases h with⟨i,rfl,q⟩ |⟨k,rfl,q⟩
 ·obtain⟨u,rfl,t,rfl⟩:=vals1 r;exact call_int_int ⟨.int i,H,I,⟨_,rfl⟩,q⟩
 ·obtain⟨u,rfl,r1⟩:=vals1 r;cases r1;exact call_int_bool ⟨.int (if k then 1 else 0),H,I.tok _,⟨_,rfl⟩,q⟩
end
structure ObjM (h:eF) (x dx C:aU) (mA:Str->Option aD):Prop where
 obj:h.get? x=ZY (gQ C dx)
 ns:h.Ns1 dx mA
 ne:dx≠x
def auz{h:eF}{dx:aU}{mA:Str->Option aD}(n:h.Ns1 dx mA):∃od,h.get? dx=ZY od/\∀name,oU name od=ZY (mA name):=by
 obtain⟨o,es,ep,ho,hd,hk,_,hm⟩:=n;refine⟨o,ho,λname=>?_⟩
 have e:=hm name;unfold nsFind findBy at e;rw[<-Array.find?_toList] at e;unfold oU;rw[hd];dsimp only;split
 ·rename_i y q;rw[q] at e;exact congrArg ZY e
 ·rename_i q;rw[q] at e;have a:es.toList.any (·.refKey)=ZV:=by
   rw[List.any_eq_false];intro y hy;obtain⟨z,t,hkey⟩:=hk y (Array.mem_toList_iff.mp hy);simp[DictEntry.refKey,hkey]
  have a':¬es.toList.any (·.refKey)=ZW:=by rw[a];exact cY
  rw[if_neg a'];exact congrArg ZY e
def ObjM.look{h:eF}{x dx C:aU}{mA:Str->Option aD}(I:ObjM h x dx C mA):∃od,kI h x (gQ C dx) C (ZY od)/\∀name,oU name od=ZY (mA name) :=
 let ⟨od,ho,hl⟩:=auz I.ns
 ⟨od,⟨I.obj,rfl,rfl,ho⟩,hl⟩
section
variable{prog:cA}{w:dU}{A:cT}{E:aD->aG->Prop}{s:aG}{K:Fg9}{x dx C f:aU}{mA:Str->Option aD}{name:Str}{v:aD}
def a3f{expr:Bool}{Q:aD->aG->Prop}(X:K.In s.heap)(I:ObjM s.heap x dx C mA)(hg:lA K C name=ZW)(hh:gR K C=ZW)
  (ha:iV K (.ref C) name=ZY ZX) (hv:mA name=ZY v) (hv':vH v=ZW) (h:Q v { s with toks:=s.toks+1 }) :
  bU (bZ prog w) A (getAttr (.ref x) name expr) Q E s:=by
 obtain⟨od,J,hl⟩:=I.look;exact PySem.W.get_value X J (oY hg).1 (PySem.W.findObj_own hh ha rfl (by rw[hl,hv])) hv' h
def ayv{pl:Sem Bool}{Q:aD×List aD->aG->Prop}(X:K.In s.heap)(I:ObjM s.heap x dx C mA)(hg:lA K C name=ZW)
  (hf:iV K (.ref C) name=ZY (ZY (.ref f))) (ht:kJ K (.ref f)=ZW) (hv:mA name=ZX) (h:Q (.ref f,[.ref x]) s) :
  bU (bZ prog w) A (getMethod (.ref x) name pl) Q E s:=by
 obtain⟨od,J,hl⟩:=I.look;exact PySem.W.method_fn X J (oY hg).1 (oY hg).2 hf (beq_iff_eq.mp ht) (by show(oU name od).map (·.isSome)=ZY ZV;rw[hl,hv];rfl) h
def a1e{ns:List Str}{Q:Unit->aG->Prop}(X:K.In s.heap)(I:ObjM s.heap x dx C mA)
  (hs:iV K (.ref C) "__setattr__"=ZY (ZY (.builtin "object.__setattr__"))) (hp:pN K C=ZW) (ht:qU K C name=ZY ZX) (hh:gR K C=ZW)
  (hw:tG mA ns) (hsz:ns.length<=cF)
  (h:∀h',ObjM h' x dx C (λy=>if y=name then ZY v else mA y)->fX dx s.heap h'->Q () { s with heap:=h',toks:=s.toks+2 }) :
  bU (bZ prog w) A (setAttr (.ref x) name v) Q E s:=by
 obtain⟨od,J,hl⟩:=I.look;refine PySem.W.set_plain X J hs (PySem.W.osa_open (s:={ s with toks:=s.toks+1 }) (r:=ZX) X J hp ht λb=>?_)
 obtain⟨cd,hc,hd'⟩:=lB hh;have hx:s.heap.get? x=ZY ⟨.ref C,ZY dx,.plain,#[]⟩:=I.obj;refine aA (aR (aA (aA (wpAny_loadPart hx (aA (PySem.W.Looks.here (s:={ s with toks:=s.toks+1 }) (PySem.W.looks_clsIn X hc) ?_))))))
 rw[hd'];refine aR (a:=ZY dx) (aA (aR (aA ?_)));refine wpAny_nsSet1 (s:={ s with toks:=s.toks+1 }) I.ns λh' hn2 hs2=>?_
 obtain⟨oD,esD,epD,hoD,hdD,hcD⟩:=hn2.count (PySem.Within.cons name v hw);refine aA (wpAny_lookBehind hoD (by rw[hdD];exact pastItsLine_dict (cW hcD (by rw[bG];omega))) ?_)
 exact aR (h _ ⟨(hs2.2 _ (fO I.ne)).trans I.obj,hn2,I.ne⟩ hs2)
def aye{R:Result->aG->Prop}{vs:List aD}{kw:List (Str×Value)}(X:K.In s.heap)(hm:nT K C=ZW)
  (hi:iV K (.ref C) "__init__"=ZY (ZY (.ref f))) (hf:oO K (.ref f)=ZY (.type "function"))
  (h:oW (bZ prog w) (A.under (.builtin "type.__call__" ⟨.ref C::vs,kw⟩)) (.call (.ref f) ⟨.ref (s.heap.objs.size+1)::vs,kw⟩) (PySem.W.InitBack (s.heap.objs.size+1) R)
   { s with heap:=(s.heap.push fY).push (gQ C s.heap.objs.size) }) :
  oW (bZ prog w) A (.call (.ref C) ⟨vs,kw⟩) R s:=by
 obtain⟨hh,g,d,t,os⟩:=s;exact PySem.W.make_core (PySem.W.makes_of X hm) (oM X hi) (λself=>PySem.W.bind_fn X self hf) (.inl rfl) h
end
def putF(f:Str)(v:V):List (Str×V)->List (Str×V)
 | []=>[(f,v)]
 | (g,x)::r=>if g=f then (g,v)::r else (g,x)::putF f v r
theorem aeb(f g:Str)(v:V):∀fs:List (Str×V),(putF f v fs).lookup g=if g=f then ZY v else fs.lookup g
 | []=>by
  show bJ g [(f,v)]=_
  by_cases h:g=f
  ·have hb:(g==f)=ZW:=beq_iff_eq.mpr h;simp only[bJ,hb,if_pos h]
  ·have hb:(g==f)=ZV:=beq_eq_false_iff_ne.mpr h;simp only[bJ,hb,if_neg h]
 | (k,x)::r=>by
  have ih:=aeb f g v r;rw[show putF f v ((k,x)::r)=(if k=f then (k,v)::r else (k,x)::putF f v r) from rfl]
  by_cases hk:k=f
  ·rw[if_pos hk]
   by_cases h:g=k
   ·have hb:(g==k)=ZW:=beq_iff_eq.mpr h;simp only[bJ,hb,if_pos (h.trans hk)]
   ·have hb:(g==k)=ZV:=beq_eq_false_iff_ne.mpr h;simp only[bJ,hb,if_neg (λe:g=f=>h (e.trans hk.symm))]
  ·rw[if_neg hk]
   by_cases h:g=k
   ·have hb:(g==k)=ZW:=beq_iff_eq.mpr h;simp only[bJ,hb,if_neg (λe:g=f=>hk (h.symm.trans e))]
   ·have hb:(g==k)=ZV:=beq_eq_false_iff_ne.mpr h;simp only[bJ,hb];exact ih
theorem ah7(f:Str)(v:V):∀fs:List (Str×V),f∈(putF f v fs).map (·.1)/\∀g,g∈fs.map (·.1)->g∈(putF f v fs).map (·.1)
 | []=>⟨by simp[putF],λg h=>by simp at h⟩
 | (k,x)::r=>by
  obtain⟨i1,i2⟩:=ah7 f v r;rw[show putF f v ((k,x)::r)=(if k=f then (k,v)::r else (k,x)::putF f v r) from rfl]
  by_cases hk:k=f
  ·rw[if_pos hk];subst hk;exact⟨by simp,λg h=>by simpa using h⟩
  ·rw[if_neg hk];refine⟨?_,λg h=>?_⟩
   ·rw[bB];exact aK _ i1
   ·rw[bB] at h ⊢
    rcases bF.mp h with e |e
    ·exact bF.mpr (.inl e)
    ·exact aK _ (i2 g e)
theorem ah4(f:Str)(v:V):∀fs:List (Str×V),(putF f v fs).length<=fs.length+1
 | []=>by simp[putF]
 | (k,x)::r=>by
  have ih:=ah4 f v r;rw[show putF f v ((k,x)::r)=(if k=f then (k,v)::r else (k,x)::putF f v r) from rfl]
  by_cases hk:k=f
  ·rw[if_pos hk,bG,bG];omega
  ·rw[if_neg hk,bG,bG];omega
theorem RelO.some_of{v:V}{o:Option aD}(r:RelO (ZY v) o):∃u,o=ZY u/\RelV v u:=by
 cases o with
 |none=>exact(show False from r).elim
 |some u=>exact⟨u,rfl,r⟩
theorem RelO.none_of{o:Option aD}(r:RelO ZX o):o=ZX:=by
 cases o with
 |none=>rfl
 |some u=>exact(show False from r).elim
theorem avm{v:V}{u:aD}(r:RelV v u):vH u=ZW:=by
 cases v with
 |non=>cases(show u=cO from r);rfl
 |bl b=>cases(show u=pL b from r);rfl
 |int i=>obtain⟨t,e⟩:=(show ∃t,u=mK i t from r);cases e;rfl
 |str x=>obtain⟨t,e⟩:=(show ∃t,u=tE x t from r);cases e;rfl
 |byt b=>obtain⟨t,e⟩:=(show ∃t,u=Value.bytes b t from r);cases e;rfl
 |flt b=>obtain⟨t,e⟩:=(show ∃t,u=tW b t from r);cases e;rfl
 |ref a=>cases(show u=cH a from r);rfl
 |ty n=>cases(show u=mJ n from r);rfl
section
variable{P:cA}{w:dU}{H H':Hp}{h h':eF}{a C dx:aU}{fs fs':List (Str×V)}
def alk(hok:HOk P w H h)(e:H a=ZY (.ins C dx fs)):∃mA,ObjM h a dx C mA/\(∀f,RelO (fs.lookup f) (mA f))/\tG mA (fs.map (·.1))/\fs.length<=1000/\H dx=ZY (.own a):=by
 obtain⟨d,z,ne,ob,mA,n,r,q⟩:=(show yt P w H h a (.ins C dx fs) from hok a _ e)
 exact⟨mA,⟨ob,n,ne⟩,r,q,z,d⟩
end
structure Cls (K:Fg9) (C:aU):Prop where
 pg:lA K C Str.empty=ZW
 hd:gR K C=ZW
 po:pN K C=ZW
 sa:iV K (.ref C) "__setattr__"=ZY (ZY (.builtin "object.__setattr__"))
def Cls.get{K:Fg9}{C:aU}(c:Cls K C)(f:Str):lA K C f=ZW:=c.pg
def ac4(K:Fg9)(C:aU)(f:Str):Prop:=iV K (.ref C) f=ZY ZX
def ac4.taker{K:Fg9}{C:aU}{f:Str}(n:ac4 K C f):qU K C f=ZY ZX:=by
 unfold qU;rw[show iV K (.ref C) f=ZY ZX from n]
 rfl
structure Con (K:Fg9) (C:aU) (f:Str) (v:V) (u:aD):Prop where
 at_:iV K (.ref C) f=ZY (ZY u)
 rel:RelV v u
 get:jY K u "__get__"=ZY ZX
 cp:PySem.W.copiedNames.contains f=ZV
structure Meth (K:Fg9) (C:aU) (m:Str) (f:aU):Prop where
 at_:iV K (.ref C) m=ZY (ZY (.ref f))
 fn:kJ K (.ref f)=ZW
 kp:jW K (.ref f)=ZW
section
variable{X:Cx}{qv:List (aU×Obj)}{σ:St}{H:Hp}{s:aG}{a C dx:aU}{fs:List (Str×V)}{f:Str}{v:V}{A:cT}{E:aD->aG->Prop}
def aj6{b:Bool}{Q:aD->aG->Prop}(I:Inv X qv σ H s)(e:H a=ZY (.ins C dx fs))(c:Cls X.K C)(n:ac4 X.K C f)(l:fs.lookup f=ZY v)
  (h:∀u s',Inv X qv σ H s'->RelV v u->Q u s'):bU (bZ X.prog X.w) A (getAttr (.ref a) f b) Q E s:=by
 obtain⟨mA,O,r,_,_,_⟩:=alk I.hok e;obtain⟨u,hu,ru⟩:=RelO.some_of (v:=v) (o:=mA f) (by rw[<-l];exact r f)
 exact a3f I.kIn O (c.get f) c.hd n hu (avm ru) (h u _ (I.tok _) ru)
def asm{m:Str}{g:aU}{pl:Sem Bool}{Q:aD×List aD->aG->Prop}(I:Inv X qv σ H s)(e:H a=ZY (.ins C dx fs))(c:Cls X.K C)(k:Meth X.K C m g)(l:fs.lookup m=ZX)
  (h:Q (.ref g,[.ref a]) s):bU (bZ X.prog X.w) A (getMethod (.ref a) m pl) Q E s:=by
 obtain⟨mA,O,r,_,_,_⟩:=alk I.hok e;have hn:mA m=ZX:=RelO.none_of (by rw[<-l];exact r m)
 exact ayv I.kIn O (c.get m) k.at_ k.fn hn h
def aju{y:V}{u:aD}{Q:Unit->aG->Prop}(I:Inv X qv σ H s)(e:H a=ZY (.ins C dx fs))(c:Cls X.K C)(n:ac4 X.K C f)(hl:fs.length<1000)(ry:RelV y u)
  (h:∀s',Inv X qv σ (upd H a (.ins C dx (putF f y fs))) s'->Q () s'):bU (bZ X.prog X.w) A (setAttr (.ref a) f u) Q E s:=by
 obtain⟨mA,O,r,wi,_,ho⟩:=alk I.hok e;have hz:(fs.map (·.1)).length<=cF:=by rw[aC,eN];omega
 refine a1e I.kIn O c.sa c.po n.taker c.hd wi hz λh' O' sb=>h _ ?_
 have hd:∃o,h'.get? dx=ZY o:=let ⟨o,_,_,e',_⟩:=O'.ns;⟨o,e'⟩
 refine I.write (x:=a) (e:=dx) (by rw[e];exact lK) (.inr ho) (λb q hb z=>(sb.2 b hb).trans z) hd ?_
 refine⟨by rw[cg O.ne];exact ho,?_,O.ne,O'.obj,_,O'.ns,λg=>?_,λg hg=>?_⟩
 ·have:=ah4 f y fs;omega
 ·show RelO ((putF f y fs).lookup g) (if g=f then ZY u else mA g)
  rw[aeb]
  by_cases q:g=f
  ·rw[if_pos q,if_pos q];exact ry
  ·rw[if_neg q,if_neg q];exact r g
 ·by_cases q:g=f
  ·rw[q];exact(ah7 f y fs).1
  ·refine(ah7 f y fs).2 g (wi g λz=>hg ?_)
   show(if g=f then ZY u else mA g)=ZX
   rw[if_neg q];exact z
def Inv.made(I:Inv X qv σ H s):Inv X qv σ (upd (upd H s.heap.objs.size (.own (s.heap.objs.size+1))) (s.heap.objs.size+1) (.ins C s.heap.objs.size []))
  { s with heap:=(s.heap.push fY).push (gQ C s.heap.objs.size) }:=by
 have e1:(s.heap.push fY).get? s.heap.objs.size=ZY fY:=aW s.heap rfl;have e2:((s.heap.push fY).push (gQ C s.heap.objs.size)).get? (s.heap.objs.size+1)=ZY (gQ C s.heap.objs.size):=by
  have:=aW (s.heap.push fY) (o:=gQ C s.heap.objs.size) rfl;rwa[cQ] at this
 have e3:(s.heap.push fY).Ns s.heap.objs.size (λ_=>ZX):=⟨PySem.W.emptyDict,#[],_,e1,rfl,(λe he=>absurd he (by simp)),λ_=>rfl⟩
 have I1:=I.laid (a:=s.heap.objs.size) (o:=.own (s.heap.objs.size+1)) (h':=s.heap.push fY) (t':=s.toks) (λb u q=>aB _ q) (aM _) ⟨_,e1⟩
 refine I1.laid (a:=s.heap.objs.size+1) (o:=.ins C s.heap.objs.size []) (t':=s.toks) (λb u q=>aB _ q) (tK (cQ _ _)) ?_
 have ne:s.heap.objs.size≠s.heap.objs.size+1:=bH (jD _);refine⟨by rw[cg ne,f9],fJ _,ne,e2,λ_=>ZX,(Heap.Ns1.of_empty e3).at λo q=>aB _ q,λ_=>lK,λy hy=>absurd rfl hy⟩
def a4h{prog:cA}{w:dU}{env:Env}{e:cZ}{f:Str}{pos:Pos}{s:aG}{Q:aD->aG->Prop}(hb:iB e f env (eval e env)=eval e env)
  (h:bU (bZ prog w) A (eval e env) (λo s₁=>bU (bZ prog w) A (getAttr o f ZW) Q E s₁) E s):bU (bZ prog w) A (eval (.Attribute e f pos) env) Q E s :=
 Attribute_any_ h (by rw[arm_eval_Attribute,hb])
end
def tFld(K:Fg9)(ta:TE)(f:Str):TE:=λσ H Q=>ta σ H λx H1=>∃a C dx fs v,x=.ref a/\H1 a=ZY (.ins C dx fs)/\Cls K C/\ac4 K C f/\fs.lookup f=ZY v/\Q v H1
def sFld(K:Fg9)(ta tv:TE)(f:Str):TS:=λD σ H=>tv σ H λy H1=>ta σ H1 λx H2=>∃a C dx fs,x=.ref a/\H2 a=ZY (.ins C dx fs)/\Cls K C/\ac4 K C f/\fs.length<1000 /\
 D.nx σ (upd H2 a (.ins C dx (putF f y fs)))
def InOp(X:Cx)(op:mC)(rd:V->V->Hp->VK->Prop):Prop :=
 ∀(qv:List (aU×Obj)) (s:aG) (σ:St) (H:Hp) (x y:V) (u v:aD) (Q:VK),Inv X qv σ H s->RelV x u->RelV y v->rd x y H Q->bU (bZ X.prog X.w) X.A (inplaceOp op u v) (EP X qv σ Q) X.xe s
def a1f(K:Fg9)(ta tv:TE)(rd:V->V->Hp->VK->Prop)(f:Str):TS:=λD σ H=>ta σ H λx H1=>∃a C dx fs v,x=.ref a/\H1 a=ZY (.ins C dx fs)/\Cls K C/\ac4 K C f/\fs.lookup f=ZY v /\
 tv σ H1 λy H2=>rd v y H2 λz H3=>∃dx' fs',H3 a=ZY (.ins C dx' fs')/\fs'.length<1000/\D.nx σ (upd H3 a (.ins C dx' (putF f z fs')))
section
variable{X:Cx}{o e value:cZ}{f:Str}{pos pos' tpos:Pos}{ta tv:TE}
def a6m(he:PE X e ta)(hb:iB e f X.env (eval e X.env)=eval e X.env):PE X (.Attribute e f pos) (tFld X.K ta f):=by
 intro qv s σ H Q I h;refine a4h hb (thn (he qv s σ H _ I h) λu s1 ⟨x,H1,I1,rx,a,C,dx,fs,v,ex,ea,c,n,l,q⟩=>?_)
 subst ex;obtain rfl:u=cH a:=rx;exact aj6 I1 ea c n l λu' s2 I2 ru=>⟨v,H1,I2,ru,q⟩
def az2(ha:PE X o ta)(hv:PE X value tv)(hs:gF value (ZY (.Attribute o f pos')) pos.line X.env=pure ZV):PS X (.Assign [.Attribute o f pos'] value pos) (sFld X.K ta tv f):=by
 intro qv s σ H D I h;refine plainObj_wpAny_Assign_Attribute (thn (hv qv s σ H _ I h) λu s1 ⟨y,H1,I1,ry,q⟩=>thn (ha qv s1 σ H1 _ I1 q) λov s2 ⟨x,H2,I2,rx,a,C,dx,fs,ex,ea,c,n,l,q2⟩=>?_) hs
 subst ex;obtain rfl:ov=cH a:=rx;exact aju I2 ea c n l ry λs3 I3=>⟨σ,_,I3,q2⟩
def at7{op:mC}{rd:V->V->Hp->VK->Prop}(ha:PE X o ta)(hv:PE X value tv)(hop:InOp X op rd):PS X (.AugAssign (.Attribute o f tpos) op value pos) (a1f X.K ta tv rd f):=by
 intro qv s σ H D I h;refine wpAny_AugAssign_AttributeAny (thn (ha qv s σ H _ I h) λov s1 ⟨x,H1,I1,rx,a,C,dx,fs,v,ex,ea,c,n,l,q⟩=>?_)
 subst ex;obtain rfl:ov=cH a:=rx;refine aj6 I1 ea c n l λu s2 I2 ru=>thn (hv qv s2 σ H1 _ I2 q) λw3 s3 ⟨y,H2,I3,ry,q3⟩=>thn (hop qv s3 σ H2 v y u w3 _ I3 ru ry q3) λw4 s4 ⟨z,H3,I4,rz,dx',fs',ea',l',q4⟩=>?_
 exact aju I4 ea' c n l' rz λs5 I5=>⟨σ,_,I5,q4⟩
def rAdd:V->V->Hp->VK->Prop:=λx y H Q=>∃i j,x=.int i/\y=.int j/\Q (.int (i+j)) H
def a74:InOp X .Add rAdd:=by
 rintro qv s σ H x y u v Q I rx ry ⟨i,j,rfl,rfl,q⟩
 obtain⟨t,rfl⟩:=(show ∃t,u=mK i t from rx)
 obtain⟨t',rfl⟩:=(show ∃t',v=mK j t' from ry)
 exact PyProof.Rows.iadd_int ⟨.int (i+j),H,I.tok _,⟨_,rfl⟩,q⟩
end
section
variable{X:Cx}{qv:List (aU×Obj)}{σ:St}{H:Hp}{s:aG}{A:cT}{E:aD->aG->Prop}{Q:aD->aG->Prop}{c:aD}{b:Bool}
inductive TyOf (K:Fg9) (H:Hp):V->aD->Prop where
 |non:TyOf K H .non (.type "NoneType")
 |bl (x:Bool):TyOf K H (.bl x) (.type "bool")
 |int (i:Int):TyOf K H (.int i) (.type "int")
 |str (x:Str):TyOf K H (.str x) (.type "str")
 |flt (x:UInt64):TyOf K H (.flt x) (.type "float")
 |lst {a:aU} {xs:List V} (e:H a=ZY (.lst xs)):TyOf K H (.ref a) (.type "list")
 |frz {a:aU} {o:Obj} {xs:List V} (e:H a=ZY (.frz o (.lst xs))):TyOf K H (.ref a) (.type "list")
 |tup {a:aU} {xs:List V} (e:H a=ZY (.tup xs)):TyOf K H (.ref a) (.type "tuple")
 |dK {a:aU} {kvs:List (Key×V)} (e:H a=ZY (.dK kvs)):TyOf K H (.ref a) (.type "dict")
 |dT {a:aU} {kvs:List (List Key×V)} (e:H a=ZY (.dT kvs)):TyOf K H (.ref a) (.type "dict")
 |ins {a C dx:aU} {fs:List (Str×V)} (e:H a=ZY (.ins C dx fs)) (cl:Cls K C) (ha:iV K (.ref C) "__class__"=ZY (ZY (.builtin "object.__class__")))
   (hn:jY K (.builtin "object.__class__") "__get__"=ZY (ZY (.builtin "getset_descriptor.__get__"))) (htk:nR K (.builtin "object.__class__")=ZY ZW)
   (hm:mU K C (.type "object")=ZY ZW):TyOf K H (.ref a) (.ref C)
theorem avf{x:V}{u t:aD}(I:Inv X qv σ H s)(rx:RelV x u)(ty:TyOf X.K H x t)(e:fW X.K t c=ZY b)(h:∀tk,Q (.bool b) { s with toks:=tk }) :
  bU (bZ X.prog X.w) A (call (.builtin "isinstance") [u,c]) Q E s:=by
 cases ty with
 |non=>cases(show u=cO from rx);exact dD PySem.W.kitx_none I.kIn lK e (λz=>nomatch z) h
 |bl y=>cases(show u=pL y from rx);exact dD PySem.W.kitx_bool I.kIn lK e (λz=>nomatch z) h
 |int i=>obtain⟨t,q⟩:=(show ∃t,u=mK i t from rx);cases q;exact dD PySem.W.kitx_int I.kIn lK e (λz=>nomatch z) h
 |str y=>obtain⟨t,q⟩:=(show ∃t,u=tE y t from rx);cases q;exact dD PySem.W.kitx_str I.kIn lK e (λz=>nomatch z) h
 |flt y=>obtain⟨t,q⟩:=(show ∃t,u=tW y t from rx);cases q;exact dD PySem.W.kitx_float I.kIn lK e (λz=>nomatch z) h
 | @lst a xs ea=>
  cases(show u=cH a from rx)
  obtain⟨_,_,n,_,h1⟩:=(show yt X.prog X.w H s.heap a (.lst xs) from I.hok a _ ea)
  exact dD pQ I.kIn ⟨_,h1,rfl⟩ e (λz=>nomatch z) h
 | @frz a ob xs ea=>
  cases(show u=cH a from rx)
  obtain⟨_,_,_,n,_,h1⟩:=(show yt X.prog X.w H s.heap a (.frz ob (.lst xs)) from I.hok a _ ea)
  exact dD pQ I.kIn ⟨_,h1,rfl⟩ e (λz=>nomatch z) h
 | @tup a xs ea=>
  cases(show u=cH a from rx)
  obtain⟨_,_,_,p⟩:=(show yt X.prog X.w H s.heap a (.tup xs) from I.hok a _ ea)
  obtain⟨o,h1,h2,_⟩:=p;exact dD PySem.W.kitx_tuple I.kIn ⟨o,h1,h2⟩ e (λz=>nomatch z) h
 | @dK a kvs ea=>
  cases(show u=cH a from rx)
  obtain⟨_,_,vs,_,p⟩:=(show yt X.prog X.w H s.heap a (.dK kvs) from I.hok a _ ea)
  obtain⟨o,es,ep,h1,h2,_⟩:=p;exact dD uP I.kIn ⟨o,h1,h2.1⟩ e (λz=>nomatch z) h
 | @dT a kvs ea=>
  cases(show u=cH a from rx)
  obtain⟨_,_,xs,_,o,es,ep,h1,h2,_⟩:=(show yt X.prog X.w H s.heap a (.dT kvs) from I.hok a _ ea)
  exact dD uP I.kIn ⟨o,h1,h2.1⟩ e (λz=>nomatch z) h
 | @ins a C dx fs ea cl ha hn htk hm=>
  cases(show u=cH a from rx)
  obtain⟨mA,O,_⟩:=alk I.hok ea;obtain⟨od,J,_⟩:=O.look;exact dD (PySem.W.kitx_own (cl.get _) cl.hd ha hn htk hm) I.kIn J e (λz=>nomatch z) h
end
structure Room (k:Nat) (A:cT):Prop where
 hd:A.handled=ZX
 dp:A.depth+3*k+5<recursionLimit
 un:A.units+16*k+200<cLine
 gd:A.guards=ZY []
def Room.mono{j k:Nat}{A:cT}(r:Room k A)(h:j<=k):Room j A:=⟨r.hd,by have:=r.dp;omega,by have:=r.un;omega,r.gd⟩
def Room.deeper{k:Nat}{A:cT}(r:Room (k+1) A)(env:Env):Room k (A.deeper env) :=
 ⟨r.hd,by have:=r.dp;show A.depth+1+3*k+5<_;omega,by have:=r.un;show A.units+3+16*k+200<_;omega,r.gd⟩
def asd{A:cT}{C:aU}{us:List aD}{kw:List (Str×Value)}:(A.under (.builtin "type.__call__" ⟨.ref C::us,kw⟩)).depth=A.depth+1:=by
 first |rfl |simp[qK,Code.weight,wF,Code.isGuard,wU,uG,qJ,guardIds]
def asb{A:cT}{C:aU}{us:List aD}{kw:List (Str×Value)}:(A.under (.builtin "type.__call__" ⟨.ref C::us,kw⟩)).units=A.units+1:=by
 first |rfl |simp[qK,Code.cUnits,uG,qJ]
def ao3{A:cT}{C:aU}{us:List aD}{kw:List (Str×Value)}:(A.under (.builtin "type.__call__" ⟨.ref C::us,kw⟩)).guards=A.guards:=by first |rfl |simp[qK,Code.weight,wF,Code.isGuard,wU,uG,qJ,guardIds]
def Room.make{k:Nat}{A:cT}(r:Room (k+1) A)(C:aU)(us:List aD)(kw:List (Str×Value)):Room k (A.under (.builtin "type.__call__" ⟨.ref C::us,kw⟩)) :=
 ⟨r.hd,by have:=r.dp;rw[asd];omega,by have:=r.un;rw[asb];omega,by rw[ao3];exact r.gd⟩
def Room.depth{k:Nat}{A:cT}(r:Room k A):A.depth<recursionLimit:=by have:=r.dp;omega
def Room.units{k:Nat}{A:cT}(r:Room k A):A.units+64<cLine:=by have:=r.un;omega
def tNil:TA:=λ_ H Q=>Q [] H
def bal(ta:TE)(tr:TA):TA:=λσ H Q=>ta σ H λx H1=>tr σ H1 λxs H2=>Q (x::xs) H2
abbrev Zb(x:Str):Prop:=(x==("__debug__" : Str))=ZV
abbrev Zc(X:Cx)(e:cZ)(es:List cZ):Prop:=aO (e::es) X.env=(ZV,eval e X.env)::aO es X.env
section
variable{X:Cx}{e:cZ}{es:List cZ}{te:TE}{t:TA}{pos:Pos}
def aht:PA X [] tNil:=λ_ _ _ _ H Q I h=>Calls.spliced_nil ⟨[],H,I,.nil,h⟩
def wk(ha:PE X e te)(hr:PA X es t)(hs:Zc X e es:=by rfl):PA X (e::es) (bal te t):=by
 intro pos qv s σ H Q I h;rw[hs];show bU _ _ (spliced ((ZV,eval e X.env)::fV pos (aO es X.env))) _ _ s;refine pH (thn (ha qv s σ H _ I h) λu s1 ⟨x,H1,I1,r1,q1⟩=>?_)
 exact thn (hr pos qv s1 σ H1 _ I1 q1) λus s2 ⟨xs,H2,I2,r2,q2⟩=>⟨x::xs,H2,I2,.cons r1 r2,q2⟩
def tTup(t:TA):TE:=λσ H Q=>t σ H λxs H1=>xs.length<=cF/\∀p,H1 p=ZX->Q (.ref p) (upd H1 p (.tup xs))
def tLst(t:TA):TE:=λσ H Q=>t σ H λxs H1=>xs.length<=cF/\∀p,H1 p=ZX->Q (.ref p) (upd H1 p (.lst xs))
def a6e{x1}(h:PA X es t):PE X (.Tuple es x1 pos) (tTup t):=by
 intro qv s σ H Q I hq;refine wpAny_Tuple_spliced (thn (h pos qv s σ H _ I hq) λus s1 ⟨xs,H1,I1,r,z,q⟩=>⟨by rw[<-r.length];exact z,?_⟩)
 have hf:H1 s1.heap.objs.size=ZX:=I1.hok.fresh (aM _);refine⟨.ref s1.heap.objs.size,upd H1 s1.heap.objs.size (.tup xs),I1.laid (t':=s1.toks) (λb u e=>aB _ e) (aM _) ?_,rfl,q _ hf⟩
 exact⟨z,us,r,⟨_,aW _ rfl,rfl,rfl,_,rfl⟩⟩
def a6j(h:PA X es t):PE X (.List es pos) (tLst t):=by
 intro qv s σ H Q I hq;refine wpAny_List_spliced (thn (h pos qv s σ H _ I hq) λus s1 ⟨xs,H1,I1,r,z,q⟩=>⟨by rw[<-r.length];exact z,?_⟩)
 have hf:H1 s1.heap.objs.size=ZX:=I1.hok.fresh (aM _);refine⟨.ref s1.heap.objs.size,upd H1 s1.heap.objs.size (.lst xs),I1.laid (t':=s1.toks) (λb u e=>aB _ e) (aM _) ?_,rfl,q _ hf⟩
 exact⟨z,us,0,r,aW _ rfl⟩
end
abbrev Sp:=List V->Hp->VK->XK->Prop
abbrev CXT:=List Env->Hp->aG->XK->aD->aG->Prop
structure Env0 (P:cA) (w:dU) (K:Fg9) (mg:Str->Option aD) (base:eF) (A:cT) (outer:List Env) (s:aG) (H:Hp):Prop where
 frames:A.frames=ZY outer
 mod:Mod K mg base
 bs:∀b o,base.get? b=ZY o->s.heap.get? b=ZY o/\H b=ZX
 bsz:base.objs.size<=s.heap.objs.size
 funs:s.heap.FunFrames base outer
 frf:∀b∈frs outer,H b=ZX
 hok:HOk P w H s.heap
 bare:oK s.gens
def CE(outer:List Env)(P:cA)(w:dU)(H:Hp)(s:aG)(Q:VK)(u:aD)(s':aG):Prop :=
 ∃v H',s'.os=s.os/\oK s'.gens/\Un (frs outer) [] H H' s.heap s'.heap/\HOk P w H' s'.heap/\RelV v u/\Q v H'
def CR(CX:CXT)(outer:List Env)(P:cA)(w:dU)(H:Hp)(s:aG)(Q:VK)(E:XK)(r:Result)(s':aG):Prop :=
 match r with
 |.ok (.ret u)=>CE outer P w H s Q u s'
 |.ok _=>False
 |.error e=>CX outer H s E e s'
structure FnOk (P:cA) (w:dU) (K:Fg9) (mg:Str->Option aD) (base:eF) (CX:CXT) (k:Nat) (f:aU) (fd:dR) (ps:List Str) (sp:Sp):Prop where
 len:∀vs H Q E,sp vs H Q E->vs.length=ps.length
 run:∀(A:cT) (outer:List Env) (s:aG) (H:Hp) (args:Args) (us:List aD) (vs:List V) (Q:VK) (E:XK),Room k A->Env0 P w K mg base A outer s H->qC s fd args (ps.zip us)->Vals vs us->sp vs H Q E ->
  oW (bZ P w) A (.call (.ref f) args) (CR CX outer P w H s Q E) s
def Env0.make{P:cA}{w:dU}{K:Fg9}{mg:Str->Option aD}{base:eF}{A:cT}{outer:List Env}{s:aG}{H:Hp}(e:Env0 P w K mg base A outer s H)(C:aU)(us:List aD)(kw:List (Str×Value)) :
  Env0 P w K mg base (A.under (.builtin "type.__call__" ⟨.ref C::us,kw⟩)) outer s H:=⟨by first |exact e.frames | (simpa[qK,Code.envs,qJ,pushEnvs] using e.frames),e.mod,e.bs,e.bsz,e.funs,e.frf,e.hok,e.bare⟩
section
variable{X:Cx}{qv:List (aU×Obj)}{σ:St}{H:Hp}{s s':aG}
def Inv.env0(I:Inv X qv σ H s):Env0 X.prog X.w X.K X.mg X.base X.A X.stack s H :=
 ⟨I.ok.frames,I.ok.mod,I.bs,cW I.ok.bsz I.sz,I.stack,I.stkFree,I.hok,I.bare⟩
def Inv.after{Q:VK}{u:aD}(I:Inv X qv σ H s)(h:CE X.stack X.prog X.w H s Q u s'):EP X qv σ Q u s':=by
 obtain⟨v,H',os,bare,un,hok,r,q⟩:=h;obtain⟨hh,g,d,t,os'⟩:=s';obtain rfl:os'=s.os:=os;exact⟨v,H',I.call (h':=hh) (g':=g) (d':=d) (t':=t) (ch:=[]) un hok bare (λb z=>absurd z (by simp)),r,q⟩
end
def a05(sp:Sp)(dvs:List V)(E:XK)(t:TA):TE:=λσ H Q=>t σ H λvs H1=>sp (vs++dvs) H1 Q E
def bai(C:aU)(m:Str)(sp:Sp)(dvs:List V)(E:XK)(ta:TE)(t:TA):TE:=λσ H Q=>ta σ H λx H1=>∃a dx fs,x=.ref a/\H1 a=ZY (.ins C dx fs)/\fs.lookup m=ZX /\
 t σ H1 λvs H2=>sp (x::(vs++dvs)) H2 Q E
def baj(C:aU)(sp:Sp)(dvs:List V)(E:XK)(t:TA):TE:=λσ H Q=>t σ H λvs H1=>∀x dx,H1 x=ZX->H1 dx=ZX->dx≠x ->
 sp (.ref x::(vs++dvs)) (upd (upd H1 dx (.own x)) x (.ins C dx [])) (λv H2=>v=.non/\Q (.ref x) H2) E
def Binds(K:Fg9)(fd:dR)(ps:List Str)(ds:List aD):Prop :=
 ∀(s:aG) (us:List aD),K.In s.heap->(us++ds).length=ps.length->qC s fd ⟨us,[]⟩ (ps.zip (us++ds))
def Binds.all{K:Fg9}{fd:dR}{ps:List Str}(h:∀us:List aD,us.length=ps.length->bindArgs fd ⟨us,[]⟩=pure (ps.zip us)):Binds K fd ps []:=λs us _ hl=>by
 rw[eG] at hl ⊢
 exact .of_eq (h us hl)
def akm(CX:CXT)(X:Cx)(E:XK):Prop:=∀(qv:List (aU×Obj)) (σ:St) (H:Hp) (s:aG) (e:aD) (s':aG),Inv X qv σ H s->CX X.stack H s E e s'->X.xe e s'
section
variable{X:Cx}{CX:CXT}{k:Nat}{f C:aU}{fd:dR}{ps:List Str}{sp:Sp}{dvs:List V}{ds:List aD}{E:XK}{x m:Str}{p pos apos:Pos}{e o:cZ}{es:List cZ}{ta:TE}{t:TA}
theorem azv{qv:List (aU×Obj)}{σ:St}{H:Hp}{s:aG}{Q:VK}{us:List aD}{vs:List V}(F:FnOk X.prog X.w X.K X.mg X.base CX k f fd ps sp)(hr:Room k X.A)(hb:Binds X.K fd ps ds)(hd:Vals dvs ds)(hx:akm CX X E)
  (I:Inv X qv σ H s) (r:Vals vs us) (h:sp (vs++dvs) H Q E):bU (bZ X.prog X.w) X.A (call (.ref f) us) (EP X qv σ Q) X.xe s:=by
 have r2:Vals (vs++dvs) (us++ds):=r.append hd;have hl:(us++ds).length=ps.length:=by rw[<-r2.length];exact F.len _ _ _ _ h
 refine wpAny_call (codeAny_mono (F.run X.A X.stack s H ⟨us,[]⟩ (us++ds) (vs++dvs) Q E hr I.env0 (hb s us I.kIn hl) r2 h) λr s' hq=>?_)
 cases r with
 |error e=>exact hx qv σ H s e s' I hq
 |ok fl=>
  cases fl with
  |ret u=>exact I.after hq
  |next=>exact dI hq
  |brk=>exact dI hq
  |cont=>exact dI hq
def a2d(F:FnOk X.prog X.w X.K X.mg X.base CX k f fd ps sp)(hr:Room k X.A)(hg:Gl X x)(hm:X.mg x=ZY (.ref f))(hk:jW X.K (.ref f)=ZW)(hb:Binds X.K fd ps ds)(hd:Vals dvs ds)(hx:akm CX X E)
  (ha:PA X (e::es) t) (hdb:Zb x:=by decide) (he:Zc X e es:=by rfl) (hpl:(fV pos (aO es X.env)).any (·.1)=ZV:=by rfl) :
  PE X (.Call (.Name x p) (e::es) [] pos) (a05 sp dvs E t):=by
 intro qv s σ H Q I h;refine wpAny_Call_Name_kw (aec I hg hm ?_ hdb);refine iI (h₀:=X.base) I.ok.mod.kin hk (thn (ha pos qv s σ H _ I h) λus s1 ⟨vs,H1,I1,r,q⟩=>⟨I1.kIn,?_⟩) he hpl
 exact azv F hr hb hd hx I1 r q
def a1x{pl:Sem Bool}(he:PE X o ta)(c:Cls X.K C)(hm:Meth X.K C m f)(F:FnOk X.prog X.w X.K X.mg X.base CX k f fd ps sp)(hr:Room k X.A)(hb:Binds X.K fd ps ds)(hd:Vals dvs ds)(hx:akm CX X E)(ha:PA X (e::es) t)
  (hst:aO (e::es) X.env=(ZV,eval e X.env)::aO es X.env:=by rfl) (hpl:(fV pos (aO es X.env)).any (·.1)=ZV:=by rfl)
  (ht:eval (.Call (.Attribute o m apos) (e::es) [] pos) X.env=(do
   let ov <-eval o X.env
   standAt apos.atName
   let (f,first) <-lN [ov] (getMethod ov m pl)
   callWith pos f first (fV pos (aO (e::es) X.env)) (backToKw pos (keywordEach [] X.env))):=by rfl) :
  PE X (.Call (.Attribute o m apos) (e::es) [] pos) (bai C m sp dvs E ta t):=by
 intro qv s σ H Q I h;refine PySem.W.methodCall_KW (pl:=pl) (thn (he qv s σ H _ I h) λu s1 ⟨x,H1,I1,rx,a,dx,fs,ex,ea,l,q⟩=>?_) ht
 subst ex;obtain rfl:u=cH a:=rx;refine asm I1 ea c hm l ?_;refine iI (first:=[.ref a]) (h₀:=X.base) I.ok.mod.kin hm.kp (thn (ha pos qv s1 σ H1 _ I1 q) λus s2 ⟨vs,H2,I2,r,q2⟩=>⟨I2.kIn,?_⟩) hst hpl
 exact azv (us:=.ref a::us) (vs:=.ref a::vs) F hr hb hd hx I2 (.cons rfl r) q2
structure Mk (K:Fg9) (C f:aU):Prop where
 makes:nT K C=ZW
 init:iV K (.ref C) "__init__"=ZY (ZY (.ref f))
 fn:kJ K (.ref f)=ZW
 kp:jW K (.ref C)=ZW
theorem axh{qv:List (aU×Obj)}{σ:St}{H:Hp}{s:aG}{Q:VK}{us:List aD}{vs:List V}(M:Mk X.K C f)(F:FnOk X.prog X.w X.K X.mg X.base CX k f fd ps sp)(hr:Room (k+1) X.A)(hb:Binds X.K fd ps ds)(hd:Vals dvs ds)
  (hx:akm CX X E) (I:Inv X qv σ H s) (r:Vals vs us)
  (h:∀x dx,H x=ZX->H dx=ZX->dx≠x->sp (.ref x::(vs++dvs)) (upd (upd H dx (.own x)) x (.ins C dx [])) (λv H2=>v=.non/\Q (.ref x) H2) E) :
  bU (bZ X.prog X.w) X.A (call (.ref C) us) (EP X qv σ Q) X.xe s:=by
 have hq:=h (s.heap.objs.size+1) s.heap.objs.size (I.hok.fresh (gC _)) (I.hok.fresh (aM _)) (bH (jD _));have I2:=Inv.made (C:=C) I;have r2:Vals (V.ref (s.heap.objs.size+1)::(vs++dvs)) (cH (s.heap.objs.size+1)::(us++ds)):=.cons rfl (r.append hd);have hl:(cH (s.heap.objs.size+1)::us++ds).length=ps.length:=by
  have e:=r2.length;rw[F.len _ _ _ _ hq] at e;exact e.symm
 refine wpAny_call (aye (f:=f) I.kIn M.makes M.init (beq_iff_eq.mp M.fn) (codeAny_mono (F.run _ X.stack _ _ ⟨Value.ref (s.heap.objs.size+1)::us,[]⟩ (cH (s.heap.objs.size+1)::(us++ds)) _ _ E (hr.make C us [])
  (I2.env0.make C us []) (hb _ (cH (s.heap.objs.size+1)::us) I2.kIn hl) r2 hq) λr s' hq'=>?_))
 cases r with
 |error e=>exact hx qv σ _ _ e s' I2 hq'
 |ok fl=>
  cases fl with
  |ret u=>
   obtain⟨v,H',I3,rv,ev,q3⟩:=I2.after hq';subst ev;exact⟨rv,⟨V.ref (s.heap.objs.size+1),H',I3,rfl,q3⟩⟩
  |next=>exact dI hq'
  |brk=>exact dI hq'
  |cont=>exact dI hq'
def a1y(M:Mk X.K C f)(F:FnOk X.prog X.w X.K X.mg X.base CX k f fd ps sp)(hr:Room (k+1) X.A)(hg:Gl X x)(hm:X.mg x=ZY (.ref C))(hb:Binds X.K fd ps ds)(hd:Vals dvs ds)(hx:akm CX X E)
  (ha:PA X (e::es) t) (hdb:Zb x:=by decide) (he:Zc X e es:=by rfl) (hpl:(fV pos (aO es X.env)).any (·.1)=ZV:=by rfl) :
  PE X (.Call (.Name x p) (e::es) [] pos) (baj C sp dvs E t):=by
 intro qv s σ H Q I h;refine wpAny_Call_Name_kw (aec I hg hm ?_ hdb);refine iI (h₀:=X.base) I.ok.mod.kin M.kp (thn (ha pos qv s σ H _ I h) λus s1 ⟨vs,H1,I1,r,q⟩=>⟨I1.kIn,?_⟩) he hpl
 exact axh M F hr hb hd hx I1 r q
end
section
variable{X:Cx}{CX:CXT}{k:Nat}{f C:aU}{fd:dR}{ps ks:List Str}{sp:Sp}{E:XK}{x m:Str}{p pos apos kpos:Pos}{e o:cZ}{es:List cZ}{kws:List oZ}{te ta:TE}{t tk:TA}{nm:Option Str}
structure KBinds (K:Fg9) (fd:dR) (ps ks:List Str) (g:List aD->List aD->List aD) (gV:List V->List V->List V):Prop where
 to:∀(s:aG) (us ws:List aD),K.In s.heap->(g us ws).length=ps.length->qC s fd ⟨us,ks.zip ws⟩ (ps.zip (g us ws))
 rel:∀{vs:List V} {us:List aD} {zs:List V} {ws:List aD},Vals vs us->Vals zs ws->Vals (gV vs zs) (g us ws)
variable{g:List aD->List aD->List aD}{gV:List V->List V->List V}
end
structure FnScope (N P:List Str) (sc:iZ):Prop where
 kind:sc.kind=.function
 co:sc.isCoroutine=ZV
 gen:sc.isGenerator=ZV
 nd:N.Nodup
 pre:N.take P.length=P
 par:∀x∈P,sc.names.lookup x=ZY .local∨sc.names.lookup x=ZY .cell
 nofree:∀y∈sc.names,y.2≠.free
theorem an0{kindOf:Str->Option sV}{x:Str}:∀{binds:List (Str×Value)} {m:Str->Option aD},(∀v,(x,v)∉binds)->bindL kindOf binds m x=m x
 | [],_,_=>rfl
 | (n,v)::r,m,h=>by
  unfold bindL;rw[an0 λw hw=>h w (aK _ hw)]
  split
  ·have:x≠n:=by rintro rfl;exact h v aQ
   simp[this]
  ·rfl
theorem an2{kindOf:Str->Option sV}{x:Str}:∀{binds:List (Str×Value)} {m:Str->Option aD},(∀v,(x,v)∉binds)->bindC kindOf binds m x=m x
 | [],_,_=>rfl
 | (n,v)::r,m,h=>by
  unfold bindC;rw[an2 λw hw=>h w (aK _ hw)]
  split
  ·rfl
  ·have:x≠n:=by rintro rfl;exact h v aQ
   simp[this]
theorem an1{kindOf:Str->Option sV}{x:Str}{v:aD}:∀{P:List Str} {vs:List aD} {i:Nat} {m:Str->Option aD},P.Nodup->P[i]? = ZY x->vs[i]? = ZY v->kindOf x=ZY .local ->
  bindL kindOf (P.zip vs) m x=ZY v
 | [],_,_,_,_,h,_,_=>by simp at h
 |_::_,[],_,_,_,_,h,_=>by simp at h
 |p::P,w::vs,0,m,nd,h1,h2,hk=>by
  simp at h1 h2;subst h1;subst h2;show bindL kindOf ((p,w)::P.zip vs) m p=_;unfold bindL;rw[an0 λv hv=>(jO.mp nd).1 (nZ hv).1,if_pos hk]
  simp
 |p::P,w::vs,i+1,m,nd,h1,h2,hk=>by
  show bindL kindOf ((p,w)::P.zip vs) m x=_;unfold bindL;exact an1 (i:=i) (jO.mp nd).2 (by simpa using h1) (by simpa using h2) hk
theorem an3{kindOf:Str->Option sV}{x:Str}{v:aD}:∀{P:List Str} {vs:List aD} {i:Nat} {m:Str->Option aD},P.Nodup->P[i]? = ZY x->vs[i]? = ZY v->kindOf x≠ZY .local ->
  bindC kindOf (P.zip vs) m x=ZY v
 | [],_,_,_,_,h,_,_=>by simp at h
 |_::_,[],_,_,_,_,h,_=>by simp at h
 |p::P,w::vs,0,m,nd,h1,h2,hk=>by
  simp at h1 h2;subst h1;subst h2;show bindC kindOf ((p,w)::P.zip vs) m p=_;unfold bindC;rw[an2 λv hv=>(jO.mp nd).1 (nZ hv).1,if_neg hk]
  simp
 |p::P,w::vs,i+1,m,nd,h1,h2,hk=>by
  show bindC kindOf ((p,w)::P.zip vs) m x=_;unfold bindC;exact an3 (i:=i) (jO.mp nd).2 (by simpa using h1) (by simpa using h2) hk
def start(N:List Str)(vs:List V):St:=vs.map ZY++aJ (N.length-vs.length) ZX
def cxOf(CX:CXT)(P:cA)(w:dU)(K:Fg9)(mg:Str->Option aD)(base:eF)(N:List Str)(qual:Str)(scope:iZ)(f:aU)(cd:aD)(A:cT)(outer:List Env)(s:aG)(H:Hp)(E:XK):Cx where
 prog:=P
 w:=w
 K:=K
 mg:=mg
 base:=base
 A:=A.deeper (lO qual scope s.heap.objs.size f cd)
 N:=N
 s₀:=s
 H₀:=H
 env:=lO qual scope s.heap.objs.size f cd
 outer:=outer
 stack:=lO qual scope s.heap.objs.size f cd::outer
 ex:=[]
 calm:=ZW
 fn:=λ_=>ZW
 pn:=[]
 xe:=λe s'=>bU (bZ P w) (A.deeper (lO qual scope s.heap.objs.size f cd)) (leaving (lO qual scope s.heap.objs.size f cd) e) (λ_ s''=>CX outer H s E e s'') (λe' s''=>CX outer H s E e' s'') s'
def aq6{sc:iZ}{n:Nat}{x:Str}(h:sc.names.lookup x=ZY .cell):∃c,(lQ n sc.names []).lookup x=ZY c:=by
 have q:=nM sc.names n [] (.inl h);exact sH.mp q
def am6{CX:CXT}{P:cA}{w:dU}{K:Fg9}{mg:Str->Option aD}{base:eF}{N ps:List Str}{qual:Str}{scope:iZ}{f:aU}{cd:aD}{A:cT}{outer:List Env}{s s1:aG}{H:Hp}{E:XK}{us:List aD}{vs:List V}
  (S:FnScope N ps scope) (hd:A.handled=ZX) (e0:Env0 P w K mg base A outer s H) (hl:vs.length=ps.length) (r:Vals vs us)
  (x:InCallC s s.heap.objs.size (bindL (lO qual scope s.heap.objs.size f cd).kindOf (ps.zip us) λ_=>ZX) (lQ (s.heap.objs.size+1) scope.names []) (bindC (lO qual scope s.heap.objs.size f cd).kindOf (ps.zip us) λ_=>ZX) s1) :
  Inv (cxOf CX P w K mg base N qual scope f cd A outer s H E) [] (start N vs) H s1:=by
 have hpl:ps.length<=N.length:=by have:=congrArg uC S.pre;rw[eX] at this;omega
 obtain⟨h1,tk,rfl,hk⟩:=x.done;have noA:∀b:aU,b∉(cxOf CX P w K mg base N qual scope f cd A outer s H E).ex:=λb z=>absurd (show b∈([]:List aU) from z) (by simp)
 refine⟨⟨e0.mod,S.kind,rfl,rfl,aM _,λy z c h1 h2=>?_,λy hy=>?_,λy c _ h=>?_,λ_=>hd,tV e0.frames,.inr ⟨rfl,rfl⟩,λb z=>absurd z (noA b),e0.bs,e0.bsz,λb _ _=>noA b,λb z=>absurd z (noA b),e0.funs,e0.frf⟩,
  rfl,e0.bare,Un.kept hk,⟨_,x.toInCall.ns,λi y v h1 h2 h3=>?_⟩,λy c h=>⟨_,x.cell y c h⟩,e0.hok.fresh (aM _),λy c h=>?_,λp hp=>absurd (show p∈([]:List (aU×Obj)) from hp) (by simp),e0.hok.kept hk,?_⟩
 ·exact name_of_addr x.apart (gA h1) (gA h2)
 ·have hy:scope.names.lookup y=ZY .cell∨scope.names.lookup y=ZY .free:=hy;rcases hy with hy |hy
  ·exact aq6 hy
  ·exact absurd rfl (S.nofree _ (gA hy))
 ·exact kO (x.above y c (gA h))
 ·have hi:i<vs.length:=by
   unfold start at h2
   by_cases hi:i<vs.length
   ·exact hi
   ·rw[cR (by simpa using hi)] at h2
    rw[fU] at h2;split at h2 <;> cases h2
  have ha:vs[i]? = ZY v:=by
   unfold start at h2;rw[bA (by simpa using hi),aL] at h2
   cases e:vs[i]? with
   |none=>rw[e] at h2;cases h2
   |some a=>rw[e] at h2;cases h2;rfl
  obtain⟨u,hu,rv⟩:=r.get ha;have hp:ps[i]? = ZY y:=by
   rw[<-S.pre,fM (by omega)];exact h1
  have ndP:ps.Nodup:=by rw[<-S.pre];exact S.nd.sublist (List.take_sublist _ _)
  refine⟨u,rv,?_⟩;rcases S.par y (cD hp) with k |k
  ·exact .inl ⟨k,an1 ndP hp hu k⟩
  ·obtain⟨c,e⟩:=aq6 (n:=s.heap.objs.size+1) k;refine .inr ⟨.inl k,c,e,?_⟩;have q:=x.cell y c e;rw[an3 ndP hp hu (by show scope.names.lookup y≠_;rw[k];decide)] at q
   exact q
 ·exact e0.hok.fresh (kO (x.above y c (gA h)))
 ·unfold start;show _=N.length;rw[cC,aC,iM];omega
theorem a8c{CX:CXT}{P:cA}{w:dU}{K:Fg9}{mg:Str->Option aD}{base:eF}{k:Nat}{f:aU}{name qual:Str}{params:Arguments}{body:List fD}{scope:iZ}{dV kV doc pm cdv ct oc:aD}{an od:Option aU}
  {osl:Array (Option aD)} {N ps:List Str} {sp:Sp} (lk:K.lookup f=ZY ⟨oc,od,.func (fnOf name qual params body scope dV kV doc pm an cdv ct),osl⟩) (hcd:codeIn K cdv qual=ZW) (S:FnScope N ps scope)
  (len:∀vs H Q E,sp vs H Q E->vs.length=ps.length)
  (hbody:∀(A:cT) (outer:List Env) (s:aG) (H:Hp) (vs:List V) (Q:VK) (E:XK),Room k (A.deeper (lO qual scope s.heap.objs.size f cdv))->sp vs H Q E ->
   ∃t,PSs (cxOf CX P w K mg base N qual scope f cdv A outer s H E) body t/\t { nx:=λ_ H'=>Q .non H',rt:=Q } (start N vs) H) :
  FnOk P w K mg base CX (k+1) f (fnOf name qual params body scope dV kV doc pm an cdv ct) ps sp:=by
 refine⟨len,λA outer s H args us vs Q E hr e0 hb r hsp=>?_⟩
 have hl:=len _ _ _ _ hsp;have KX:K.In s.heap:=e0.mod.kin.keeps λb o e=>(e0.bs b o e).1
 have lim:s.heap.NoLimit:=e0.mod.nolimit.keeps λb o e=>(e0.bs b o e).1
 have hkind:∀y∈ps.zip us,scope.names.lookup y.1=ZY .local∨(scope.names.lookup y.1=ZY .cell/\((lQ (s.heap.objs.size+1) scope.names []).lookup y.1).isSome=ZW):=λ⟨n,v⟩ hy=>by
  rcases S.par n (nZ hy).1 with q |q
  ·exact .inl q
  ·exact .inr ⟨q,nM _ _ _ (.inl q)⟩
 refine codeAny_call_function hr.depth (KX _ _ lk) rfl S.co S.gen rfl (uH KX hcd) (hb _ _ _ _ ?_);refine wpAny_newFunctionEnv_cells S.kind hkind λenv he s1 x=>?_
 subst he;refine⟨lim.keeps x.toInCall.keep,codeAny_func ?_⟩;obtain⟨t,ht,hq⟩:=hbody A outer s H vs Q E (hr.deeper _) hsp;have I:Inv (cxOf CX P w K mg base N qual scope f cdv A outer s H E) [] (start N vs) H s1:=am6 S hr.hd e0 hl r x;refine bI (ht [] s1 (start N vs) H _ I hq) (λfl s' hs=>?_) λe s' hs=>hs
 have fin:∀{σ':St} {H':Hp} {v:V} {u:aD},Inv (cxOf CX P w K mg base N qual scope f cdv A outer s H E) [] σ' H' s'->RelV v u->Q v H'->CE outer P w H s Q u s' :=
  λ{σ' H' v u} J rv q=>⟨v,H',J.os,J.bare,J.base,J.hok,rv,q⟩
 cases fl with
 |ret u=>
  obtain⟨v,σ',H',J,rv,q⟩:=hs;exact fin J rv q
 |next=>
  obtain⟨σ',H',J,q⟩:=hs;exact fin (v:=V.non) (u:=cO) J rfl q
 |brk=>
  obtain⟨_,_,_,q⟩:=hs;exact dI q
 |cont=>
  obtain⟨_,_,_,q⟩:=hs;exact dI q
section
variable{X:Cx}{x:Str}{p pos:Pos}{e:cZ}{es:List cZ}{t:TA}{id T:String}{r:List V->Hp->VK->Prop}
def tCB(r:List V->Hp->VK->Prop)(t:TA):TE:=λσ H Q=>t σ H λvs H1=>r vs H1 Q
def agx(hc:afp X (.builtin id) r)(hg:Gl X x)(hm:X.mg x=ZX)(hv:bY x=ZY (.builtin id))(ha:PA X (e::es) t)(hn:x ≠ "__name__" := by decide)(hdb:Zb x:=by decide)
  (he:Zc X e es:=by rfl) (hpl:(fV pos (aO es X.env)).any (·.1)=ZV:=by rfl):PE X (.Call (.Name x p) (e::es) [] pos) (tCB r t):=by
 intro qv s σ H Q I h;refine wpAny_Call_Name_kw (ah5 I hg hm hv ?_ hn hdb);exact PyProof.Rows.callWith_builtin1 (thn (ha pos qv s σ H _ I h) λus s1 ⟨vs,H1,I1,r1,q1⟩=>hc qv s1 σ H1 vs us Q I1 r1 q1) he hpl
def aue(hc:afp X (.type T) r)(hg:Gl X x)(hm:X.mg x=ZX)(hv:bY x=ZY (.type T))(ha:PA X (e::es) t)(hn:x ≠ "__name__" := by decide)(hdb:Zb x:=by decide)
  (he:Zc X e es:=by rfl) (hpl:(fV pos (aO es X.env)).any (·.1)=ZV:=by rfl):PE X (.Call (.Name x p) (e::es) [] pos) (tCB r t):=by
 intro qv s σ H Q I h;refine wpAny_Call_Name_kw (ah5 I hg hm hv ?_ hn hdb);exact gB (thn (ha pos qv s σ H _ I h) λus s1 ⟨vs,H1,I1,r1,q1⟩=>hc qv s1 σ H1 vs us Q I1 r1 q1) he hpl
end
end L2
namespace HT
open PySem PyProof.Rows
section
open PySem.SeqAt
open PySem.AutoSeq1 (wpAny_loadPart')
open PySem.MeetsSeq PySem.MeetsSeq2 PySem.MeetsSeq3
end
section
variable{prog:cA}{w:dU}{A:cT}{E:aD->aG->Prop}{s:aG}
def a3z{t b:aU}{vs ws:List aD}{Q:aD->aG->Prop}(ht:uD s.heap t vs.toArray)(hb:uD s.heap b ws.toArray)(hv:vs≠[])
  (h1:ws=[]->Q (.ref t) s) (h2:ws≠[]->Q (.ref s.heap.objs.size) { s with heap:=s.heap.push { cls:=.type "tuple", data:=.seq (vs++ws).toArray } })
  (hsz:vs.length+ws.length<=cF):bU (bZ prog w) A (eY .Add (.ref t) (.ref b)) Q E s:=by
 obtain⟨⟨cls,dd,data,sl⟩,ho,hc,n,hd⟩:=id ht;obtain⟨⟨cls2,dd2,data2,sl2⟩,ho2,hc2,n2,hd2⟩:=id hb;simp only at hc hd hc2 hd2;subst hc hd hc2 hd2;have e:vs.toArray++ws.toArray=(vs++ws).toArray:=by simp
 by_cases hw:ws=[]
 ·exact concat_meets ⟨_,ho,rfl⟩ ⟨_,ho2,rfl⟩ noFill_tuple_add seq_tuple_add nO mZ (mL _ _)
   (tuple_addW1 t b vs.toArray ws.toArray n n2 dd dd2 sl sl2 (by simpa using hv) (by simp[hw])) ⟨ho,ho2,h1 hw⟩
 ·refine concat_meets ⟨_,ho,rfl⟩ ⟨_,ho2,rfl⟩ noFill_tuple_add seq_tuple_add nO mZ (mL _ _)
   (tuple_addW2 t b vs.toArray ws.toArray n n2 dd dd2 sl sl2 (by simpa using hv) (by simpa using hw) (by rw[aP,aP];exact hsz)) ⟨ho,ho2,?_⟩
  rw[e];exact h2 hw
def sIx(n d:Nat):Option Int->Nat
 |none=>d
 |some v=>if v<0 then (v+(n:Int)).toNat else min v.toNat n
theorem a5n(n d:Nat)(hd:d<=n)(o:Option Int):sIx n d o<=n:=by
 cases o with
 |none=>exact hd
 |some v=>
  show(if v<0 then (v+(n:Int)).toNat else min v.toNat n)<=n
  by_cases hv:v<0
  ·rw[if_pos hv];omega
  ·rw[if_neg hv];exact Nat.min_le_right _ _
def awe(v:Int)(n d:Nat):(if v<0 then max (v+(n:Int)) 0 else min v (n:Int))=((sIx n d (ZY v):Nat):Int):=by
 show(if v<0 then max (v+(n:Int)) 0 else min v (n:Int))=(((if v<0 then (v+(n:Int)).toNat else min v.toNat n):Nat):Int)
 by_cases hv:v<0
 ·simp only[if_pos hv];omega
 ·simp only[if_neg hv];omega
def ass(lo hi:Option Int)(n:Nat):mG lo hi 1 (n:Int)=(((sIx n 0 lo:Nat):Int),((sIx n n hi:Nat):Int)):=by
 have h1:¬((1:Int)<0):=by omega
 unfold mG;simp only[h1,if_false];refine Prod.ext ?_ ?_
 ·cases lo with
  |none=>rfl
  |some v=>exact awe v n 0
 ·cases hi with
  |none=>rfl
  |some v=>exact awe v n n
def arz(i j:Nat):jB (i:Int) (j:Int) 1=j-i:=by
 unfold jB;have h1:(1:Int) > 0:=by omega
 simp only[h1,if_true,Int.ediv_one];split <;> omega
theorem ajt{v:aD}{o:Option Int}{Q:Option Int->aG->Prop}(p:qG v o)(h:Q o s):bU (bZ prog w) A (Builtin.Slice.slicePartIndex v) Q E s:=by
 cases p with
 |none=>exact slicePart_none h
 |int i t=>exact slicePart_int h
def abw{sl:aU}{vl vu:aD}{lo hi:Option Int}{n:Nat}{Q:Int×Int×Nat->aG->Prop}(hs:s.heap.IsSliceOf sl vl vu .none)(pl:qG vl lo)(pu:qG vu hi)
  (h:Q (((sIx n 0 lo:Nat):Int),1,sIx n n hi-sIx n 0 lo) s):bU (bZ prog w) A (rP (.ref sl) (pure (n:Int))) Q E s:=by
 obtain⟨os,hos,hcs,hds⟩:=id hs;unfold rP Builtin.Slice.sliceFields;refine aA (aA (dB hos hds (x:=vl) rfl (aA (dB hos hds (x:=vu) rfl (aA (dB hos hds (x:=.none) rfl (aR ?_)))))));refine aA (slicePart_none ?_);show bU _ _ (if ((1:Int)==0)=ZW then _ else _) _ _ s
 rw[if_neg (by decide)]
 refine aA (ajt pl (aA (ajt pu (aA (aR ?_)))));show bU _ _ (match mG lo hi 1 (n:Int) with | (lo,hi)=>pure (lo,(1:Int),jB lo hi 1)) _ _ s
 rw[ass lo hi n];show bU _ _ (pure (((sIx n 0 lo:Nat):Int),(1:Int),jB ((sIx n 0 lo:Nat):Int) ((sIx n n hi:Nat):Int) 1)) _ _ s;rw[arz];exact aR h
def axm(xs:Array aD)(i k:Nat):((aV k).filterMap λ(m:Nat)=>xs[((i:Int)+(m:Int)*1).toNat]?).toArray=((xs.toList.drop i).take k).toArray:=by
 have e:(λ(m:Nat)=>xs[((i:Int)+(m:Int)*1).toNat]?)=λm=>xs[i+m]? := by
  funext m
  have:((i:Int)+(m:Int)*1).toNat=i+m:=by omega
  rw[this]
 rw[e];have:=pick_run xs i k;rw[List.filterMap_map] at this;have e2:((λx=>xs[x]?)∘λx=>i+x)=λm=>xs[i+m]? := rfl
 rw[e2] at this;rw[this]
def af6{t sl:aU}{items:Array aD}{vl vu:aD}{lo hi:Option Int}{Q:aD->aG->Prop}(ht:uD s.heap t items)(hs:s.heap.IsSliceOf sl vl vu .none)(pl:qG vl lo)(pu:qG vu hi)
  (hw:¬(sIx items.size 0 lo=0/\sIx items.size items.size hi=items.size))
  (h:Q (.ref s.heap.objs.size) { s with heap:=s.heap.push { cls:=.type "tuple", data:=.seq ((items.toList.drop (sIx items.size 0 lo)).take (sIx items.size items.size hi-sIx items.size 0 lo)).toArray } })
  (hsz:items.size<=cF):bU (bZ prog w) A (pJ (.ref t) (.ref sl)) Q E s:=by
 have htake:sizeOk (.seq ((items.toList.drop (sIx items.size 0 lo)).take (sIx items.size items.size hi-sIx items.size 0 lo)).toArray):=by
  show((items.toList.drop (sIx items.size 0 lo)).take (sIx items.size items.size hi-sIx items.size 0 lo)).toArray.size<=cF;rw[aP,eX,jE,iG];omega
 have hj:sIx items.size items.size hi<=items.size:=a5n _ _ (aM _) hi;obtain⟨os,hos,hcs,hds⟩:=id hs;have hTs:s.TypeIs (.ref sl) "slice" := ⟨os,hos,hcs⟩;unfold pJ
 try with_reducible refine fP ?_
 first |refine aA (aR ?_) |skip
 refine aA (wpAny_sequenceKey ht.typeIs (by decide) ?_)
 refine aA (wpAny_callSpecial?_slot (name:=nQ "__getitem__") ht.typeIs eE
  (wpAny_call_entry eE ht.typeIs entry_tuple_getitem ?_ (args_tuple_getitem _ _)))
 show bU _ _ (rO (.ref t) >>= _) _ _ s;refine aA (tupleItemsOf_ ht ?_);refine aA (wpAny_typeOf hTs ?_);rw[if_pos (by decide)]
 refine aA (abw hs pl pu ?_);have hno:¬((((sIx items.size 0 lo:Nat):Int)==0&&(1:Int)==1&&(sIx items.size items.size hi-sIx items.size 0 lo)==items.size)=ZW):=by
  intro q;rw[bD,bD] at q;have q1:((sIx items.size 0 lo:Nat):Int)=0:=eq_of_beq q.1.1;have q2:sIx items.size items.size hi-sIx items.size 0 lo=items.size:=eq_of_beq q.2;exact hw ⟨by omega,by omega⟩
 show bU _ _ (if (((sIx items.size 0 lo:Nat):Int)==0&&(1:Int)==1&&(sIx items.size items.size hi-sIx items.size 0 lo)==items.size)=ZW then _ else _) _ _ s
 rw[if_neg hno,axm]
 first
  |exact aA (m:=gY _) (dH (aR ⟨_,rfl,aR h⟩) htake)
  |exact aA (m:=gY _) (dH (aA (aR (aR ⟨_,rfl,aR h⟩))) htake)
  |exact aA (aA (m:=gY _) (dH (aR (aR ⟨_,rfl,aR h⟩)) htake))
  |exact aA (aA (m:=gY _) (dH (aR ⟨_,rfl,aR h⟩) htake))
end
end HT
namespace L2
abbrev TO:=St->Hp->(Option Int->Hp->Prop)->Prop
def PO(X:Cx)(e:Option cZ)(t:TO):Prop :=
 ∀(qv:List (aU×Obj)) (s:aG) (σ:St) (H:Hp) (Q:Option Int->Hp->Prop),Inv X qv σ H s->t σ H Q ->
  bU (bZ X.prog X.w) X.A (evalPart e X.env) (λu s'=>∃o H',Inv X qv σ H' s'/\qG u o/\Q o H') X.xe s
def a04:TO:=λ_ H Q=>Q ZX H
def baf(t:TE):TO:=λσ H Q=>t σ H λx H1=>∃i,x=.int i/\Q (ZY i) H1
theorem intsAre_of{ns:List Int}:∀{us:List aD},Vals (ns.map V.int) us->lW us ns:=by
 induction ns with
 |nil=>intro us r;rw[List.map_nil] at r;cases r;exact .nil
 |cons n ns ih=>
  intro us r;rw[bB] at r;cases r with
  |cons r1 r2=>
   obtain⟨t,e⟩:=r1;subst e;exact .cons n t (ih r2)
section
variable{X:Cx}{e:cZ}{te:TE}{lo hi:Option cZ}{tl th:TO}{pos p2:Pos}
def a1q:PO X ZX a04:=by
 intro qv s σ H Q I h;rw[evalPart_none];exact aR ⟨ZX,H,I,.none,h⟩
def a1p(h:PE X e te):PO X (ZY e) (baf te):=by
 intro qv s σ H Q I hw;rw[evalPart_some];refine thn (h qv s σ H _ I hw) λu s1 ⟨x,H1,I1,r1,q1⟩=>?_
 obtain⟨i,rfl,q⟩:=q1;obtain⟨t,rfl⟩:=r1;exact⟨ZY i,H1,I1,.int i t,q⟩
def SlR(X:Cx)(r:V->Option Int->Option Int->Hp->VK->Prop):Prop :=
 ∀(qv:List (aU×Obj)) (s:aG) (σ:St) (H:Hp) (x:V) (v vl vu:aD) (lo hi:Option Int) (sl:aU) (Q:VK),Inv X qv σ H s->RelV x v->s.heap.IsSliceOf sl vl vu .none->qG vl lo->qG vu hi->r x lo hi H Q ->
  ∃T id,typeLookup (.type T) "__getitem__"=pure (ZY (.builtin id))/\s.TypeIs v T/\bU (bZ X.prog X.w) X.A (pJ v (.ref sl)) (EP X qv σ Q) X.xe s
def tSl(r:V->Option Int->Option Int->Hp->VK->Prop)(te:TE)(tl th:TO):TE:=λσ H Q=>te σ H λx H1=>tl σ H1 λl H2=>th σ H2 λu H3=>r x l u H3 Q
def axr{r:V->Option Int->Option Int->Hp->VK->Prop}(hr:SlR X r)(he:PE X e te)(hl:PO X lo tl)(hu:PO X hi th):PE X (.Subscript e (.Slice lo hi ZX p2) pos) (tSl r te tl th):=by
 intro qv s σ H Q I h;refine Subscript_ (thn (he qv s σ H _ I h) λv s1 ⟨x,H1,I1,r1,q1⟩=>?_)
 refine wpAny_Slice (thn (hl qv s1 σ H1 _ I1 q1) λvl s2 ⟨l,H2,I2,pl,q2⟩=>thn (hu qv s2 σ H2 _ I2 q2) λvu s3 ⟨u,H3,I3,pu,q3⟩=>?_)
 rw[evalPart_none];refine aR ?_;have I4:Inv X qv σ H3 { s3 with heap:=s3.heap.push { cls:=.type "slice", data:=.fields #[vl,vu,.none] } }:=I3.kept (t':=s3.toks) λb ob q=>aB _ q
 obtain⟨T,id,hT,ht,hg⟩:=hr qv { s3 with heap:=s3.heap.push { cls:=.type "slice", data:=.fields #[vl,vu,.none] } } σ H3 x v vl vu l u s3.heap.objs.size Q I4 r1 (Heap.IsSliceOf.new ..) pl pu q3
 show bU (bZ X.prog X.w) X.A (subscriptTail e (.Slice lo hi ZX p2) v (.ref s3.heap.objs.size)) (EP X qv σ Q) X.xe { s3 with heap:=s3.heap.push { cls:=.type "slice", data:=.fields #[vl,vu,.none] } }
 exact tail_any (ops:=[.ref s3.heap.objs.size,v]) ht hT hg (by with_unfolding_all rfl)
def cutV(xs:List V)(lo hi:Option Int):List V:=(xs.drop (HT.sIx xs.length 0 lo)).take (HT.sIx xs.length xs.length hi-HT.sIx xs.length 0 lo)
def ai0(xs:List V)(lo hi:Option Int):(cutV xs lo hi).length<=xs.length:=by
 unfold cutV;rw[eX,jE];omega
def rSlT(K:Fg9):V->Option Int->Option Int->Hp->VK->Prop:=λx lo hi H Q=>∃a xs,x=.ref a/\SqT K H a xs /\
 ¬(HT.sIx xs.length 0 lo=0/\HT.sIx xs.length xs.length hi=xs.length)/\∀p,H p=ZX->Q (.ref p) (upd H p (.tup (cutV xs lo hi)))
def a5k:SlR X (rSlT X.K):=by
 intro qv s σ H x v vl vu lo hi sl Q I rx hs pl pu h;obtain⟨a,xs,rfl,hx,hw,q⟩:=h;cases rx;obtain⟨its,r,ht,hz⟩:=I.tuple hx;have hlen:its.toArray.size=xs.length:=by rw[aP];exact r.length.symm
 refine⟨"tuple", _,eE.lookup,ht.typeIs,?_⟩;refine HT.af6 ht hs pl pu (by rw[hlen];exact hw) ?_ (by rw[hlen];exact hz)
 rw[hlen];refine⟨.ref s.heap.objs.size,_,I.laid (t':=s.toks) (o:=.tup (cutV xs lo hi)) (λb ob q=>aB _ q) (aM _) ?_,rfl,q _ (I.hok.fresh (aM _))⟩
 exact⟨Nat.le_trans (ai0 xs lo hi) hz,_,(r.drop (HT.sIx xs.length 0 lo)).take (HT.sIx xs.length xs.length hi-HT.sIx xs.length 0 lo),IsTp.new _ _⟩
def baw(K:Fg9):R2:=λx y H Q=>∃a b xs ys,x=.ref a/\y=.ref b/\SqT K H a xs/\SqT K H b ys/\xs≠[]/\xs.length+ys.length<=cF /\
 (ys=[]->Q (.ref a) H)/\(ys≠[]->∀p,H p=ZX->Q (.ref p) (upd H p (.tup (xs++ys))))
theorem Vals.nil_iff{xs:List V}{us:List aD}(r:Vals xs us):us=[]↔xs=[]:=by
 cases r with
 |nil=>simp
 |cons _ _=>simp
def a2j:OpR X (eY .Add) (baw X.K):=by
 intro qv s σ H x y v u Q I rx ry h;obtain⟨a,b,xs,ys,rfl,rfl,ha,hb,hx,hz,q1,q2⟩:=h;cases rx;cases ry;obtain⟨its,r1,p1,_⟩:=I.tuple ha;obtain⟨its2,r2,p2,_⟩:=I.tuple hb;refine HT.a3z p1 p2 (λz=>hx (r1.nil_iff.mp z)) (λz=>⟨.ref a,H,I,rfl,q1 (r2.nil_iff.mp z)⟩) (λz=>?_) (by rw[<-r1.length,<-r2.length];exact hz)
 refine⟨.ref s.heap.objs.size,_,I.laid (t':=s.toks) (o:=.tup (xs++ys)) (λb ob q=>aB _ q) (aM _) ?_,rfl,q2 (λw=>z (r2.nil_iff.mpr w)) _ (I.hok.fresh (aM _))⟩
 exact⟨by rw[cC];exact hz,_,r1.append r2,IsTp.new _ _⟩
end
noncomputable def ixN(n:Nat)(i:Int):Option Nat:=if 0<=i then (if i<n then ZY i.toNat else ZX) else if -(n:Int)<=i then ZY (i+n).toNat else ZX
def atI{α:Type}(xs:List α)(i:Int):Option α:=(ixN xs.length i).bind λj=>xs[j]?
def au8{n:Nat}{i:Int}{j:Nat}(h:ixN n i=ZY j):seqIndex? i n=ZY j/\j<n /\ -(n:Int)<=i/\i<n:=by
 unfold ixN at h
 by_cases h0:0<=i
 ·rw[if_pos h0] at h
  by_cases h1:i<n
  ·rw[if_pos h1] at h;have e:i.toNat=j:=bL h;exact⟨by rw[seqIndex_of h0 h1,e],by omega,by omega,h1⟩
  ·rw[if_neg h1] at h;cases h
 ·rw[if_neg h0] at h
  by_cases h1 : -(n:Int)<=i
  ·rw[if_pos h1] at h;have e:(i+n).toNat=j:=bL h;exact⟨by rw[seqIndex_neg (by omega) h1,e],by omega,h1,by omega⟩
  ·rw[if_neg h1] at h;cases h
theorem apr{α:Type}{xs:List α}{i:Int}{v:α}(h:atI xs i=ZY v):∃j,seqIndex? i xs.length=ZY j/\xs[j]? = ZY v/\j<xs.length /\ -(xs.length:Int)<=i/\i<xs.length:=by
 unfold atI at h;cases e:ixN xs.length i with
 |none=>rw[e] at h;cases h
 |some j=>
  rw[e] at h;obtain⟨h1,h2,h3,h4⟩:=au8 e;exact⟨j,h1,h,h2,h3,h4⟩
def ai6{α:Type}{xs:List α}{j:Nat}{v:α}(h:xs[j]? = ZY v):atI xs (j:Int)=ZY v:=by
 have hj:j<xs.length:=(aH.mp h).1;have e:ixN xs.length (j:Int)=ZY j:=by
  unfold ixN;rw[if_pos (by omega),if_pos (by omega)];simp
 unfold atI;rw[e];exact h
def awz(b:cZ):Prop:=∀o i,subscripted b ZV o i=operate [o,i] (pJ o i)
def IxR(X:Cx)(r:R2):Prop :=
 ∀(value slice:cZ) (qv:List (aU×Obj)) (s:aG) (σ:St) (H:Hp) (x y:V) (v u:aD) (Q:VK),Inv X qv σ H s->RelV x v->RelV y u->r x y H Q ->
  subscripted slice ZV v u=operate [v,u] (pJ v u)->bU (bZ X.prog X.w) X.A (subscriptTail value slice v u) (EP X qv σ Q) X.xe s
def MtR(X:Cx)(id:String)(r:V->List V->Hp->VK->Prop):Prop :=
 ∀(qv:List (aU×Obj)) (s:aG) (σ:St) (H:Hp) (x:V) (xs:List V) (v:aD) (us:List aD) (Q:VK),Inv X qv σ H s->RelV x v->Vals xs us->r x xs H Q ->
  bU (bZ X.prog X.w) X.A (call (.builtin id) (v::us)) (EP X qv σ Q) X.xe s
section
variable{X:Cx}{a b:cZ}{ta tb:TE}{pos:Pos}
def ba3{r:R2}(hr:IxR X r)(ha:PE X a ta)(hb:PE X b tb)(hs:awz b):PE X (.Subscript a b pos) (tOp r ta tb):=by
 intro qv s σ H Q I h;exact Subscript_ (binT ha hb I h λv u s2 x y H2 I2 rx ry q=>hr a b qv s2 σ H2 x y v u Q I2 rx ry q (hs _ _))
def rIxL(K:Fg9):R2:=λx y H Q=>∃p xs i v,x=.ref p/\y=.int i/\SqL K H p xs/\atI xs i=ZY v/\Q v H
def rIxT(K:Fg9):R2:=λx y H Q=>∃p xs i v,x=.ref p/\y=.int i/\SqT K H p xs/\atI xs i=ZY v/\Q v H
def a3c:IxR X (rIxL X.K):=by
 intro value slice qv s σ H x y v u Q I rx ry h hs;obtain⟨p,xs,i,z,rfl,rfl,hq,he,q⟩:=h;cases rx;obtain⟨t,rfl⟩:=ry;obtain⟨its,r,pl,hz⟩:=I.list hq;obtain⟨j,h1,h2,h3,h4,h5⟩:=apr he;obtain⟨w,ew,rw'⟩:=r.get h2;have hl:=r.length;have hn:=am3;have fin:EP X qv σ Q w s:=⟨z,H,I,rw',q⟩
 by_cases h0:0<=i
 ·have hj:i.toNat=j:=by
   rw[seqIndex_of h0 h5] at h1;exact bL h1
  exact item_listR pl.isList h0 (by omega) (by rw[hj];simpa using ew) fin hs
 ·have hj:(i+(its.toArray.size:Int)).toNat=j:=by
   rw[seqIndex_neg (by omega) h4] at h1
   rw[aP,<-hl];exact bL h1
  exact subscriptTail_builtinR (x:=w) pl.isList.typeIs slot_list_getitem.lookup
   (wpAny_getItem_list_neg (Q:=λr s'=>r=w/\EP X qv σ Q r s') pl.isList (by omega) (by rw[aP] <;> omega) (by omega) (by rw[hj];simpa using ew) ⟨rfl,fin⟩) hs
def a7y:IxR X (rIxT X.K):=by
 intro value slice qv s σ H x y v u Q I rx ry h hs;obtain⟨p,xs,i,z,rfl,rfl,hq,he,q⟩:=h;cases rx;obtain⟨t,rfl⟩:=ry;obtain⟨its,r,pl,hz⟩:=I.tuple hq;obtain⟨j,h1,h2,h3,h4,h5⟩:=apr he;obtain⟨w,ew,rw'⟩:=r.get h2;have hl:=r.length;have hn:=am3;have fin:EP X qv σ Q w s:=⟨z,H,I,rw',q⟩;exact subscriptTail_builtinR (x:=w) pl.typeIs slot_tuple_getitem.lookup
  (getItem_tuple (j:=j) (Q:=λr s'=>r=w/\EP X qv σ Q r s') pl (by omega) (by omega) (by rw[aP,<-hl];exact h1) (by simpa using ew) ⟨rfl,fin⟩) hs
def asa(its:List aD)(n j:Nat)(u:aD):fH (·.setIfInBounds j u) { cls:=.type "list", data:=.seq its.toArray n }={ cls:=.type "list", data:=.seq (its.set j u).toArray n }:=by
 simp[fH]
def Inv.lst{qv:List (aU×Obj)}{σ:St}{H:Hp}{s:aG}{p:aU}{xs:List V}(I:Inv X qv σ H s)(h:H p=ZY (.lst xs)) :
  ∃(its:List aD) (n:Nat),Vals xs its/\s.heap.get? p=ZY { cls:=.type "list", data:=.seq its.toArray n }/\xs.length<=cF:=by
 obtain⟨z,its,n,r,e⟩:=I.hok p _ h;exact⟨its,n,r,e,z⟩
def Inv.lstUpd{qv:List (aU×Obj)}{σ:St}{H:Hp}{s:aG}{p:aU}{xs ys:List V}{its its':List aD}{n n':Nat}{f:Obj->Obj}(I:Inv X qv σ H s)(h:H p=ZY (.lst xs))
  (ho:s.heap.get? p=ZY { cls:=.type "list", data:=.seq its.toArray n }) (hf:f { cls:=.type "list", data:=.seq its.toArray n }={ cls:=.type "list", data:=.seq its'.toArray n' }) (r:Vals ys its') (hz:ys.length<=cF) (t:Nat) :
  Inv X qv σ (upd H p (.lst ys)) { s with heap:=s.heap.update p f,toks:=t }:=by
 have e:(s.heap.update p f).get? p=ZY { cls:=.type "list", data:=.seq its'.toArray n' }:=by
  rw[eU f ho (by rw[hf] <;> rfl),hf]
 refine I.write (x:=p) (e:=p) (by rw[h];trivial) (.inl rfl) (λb u hb q=>(bR _ _ (fO hb)).trans q) ⟨_,e⟩ ?_
 exact⟨hz,its',n',r,e⟩
def bav:V->V->V->Hp->(Hp->Prop)->Prop:=λo i v H Q=>∃p xs k j,o=.ref p/\i=.int k/\H p=ZY (.lst xs)/\ixN xs.length k=ZY j/\Q (upd H p (.lst (xs.set j v)))
def set_list:PSet X bav:=by
 intro qv s σ H o i v ov iv u Q I ro ri rv h;obtain⟨p,xs,k,j,rfl,rfl,hp,hj,q⟩:=h;cases ro;obtain⟨t,rfl⟩:=ri;obtain⟨its,n,r,ho,hz⟩:=I.lst hp;obtain⟨h1,h2,h3,h4⟩:=au8 hj;have hl:=r.length;have hn:=am3;have I':Inv X qv σ (upd H p (.lst (xs.set j v))) { s with heap:=s.heap.update p (fH (·.setIfInBounds j u)) } :=
  I.lstUpd hp ho (asa its n j u) (r.set rv j) (by rw[cJ];exact hz) s.toks
 by_cases h0:0<=k
 ·have hk:k.toNat=j:=by
   rw[seqIndex_of h0 h4] at h1;exact bL h1
  exact PySem.W.ki_setAt ho h0 (by omega) (by rw[aP,<-hl];exact h4) (by rw[hk];exact⟨_,I',q⟩)
 ·have hk:(k+(its.toArray.size:Int)).toNat=j:=by
   rw[seqIndex_neg (by omega) h3] at h1
   rw[aP,<-hl];exact bL h1
  exact PySem.W.ki_setBack ho (by omega) (by rw[aP,<-hl];exact h3) (by omega) (by rw[hk];exact⟨_,I',q⟩)
def amb(lo hi:Option Int)(n:Nat):(sliceBounds lo hi ZX n).1=((HT.sIx n 0 lo:Nat):Int)/\(sliceBounds lo hi ZX n).2.1=((HT.sIx n n hi:Nat):Int)/\(sliceBounds lo hi ZX n).2.2=1:=by
 refine⟨?_,?_,rfl⟩
 ·cases lo with
  |none=>simp[sliceBounds,HT.sIx]
  |some i=>
   simp only[sliceBounds,HT.sIx,vI,show(1:Int) > 0 by decide,if_true]
   by_cases h:i<0
   ·simp only[h,if_true] <;> omega
   ·simp only[h,if_false] <;> omega
 ·cases hi with
  |none=>simp[sliceBounds,HT.sIx]
  |some i=>
   simp only[sliceBounds,HT.sIx,vI,show(1:Int) > 0 by decide,if_true]
   by_cases h:i<0
   ·simp only[h,if_true] <;> omega
   ·simp only[h,if_false] <;> omega
def akt(its:List aD)(lo hi:Option Int):slicePick its.toArray lo hi ZX=((its.drop (HT.sIx its.length 0 lo)).take (HT.sIx its.length its.length hi-HT.sIx its.length 0 lo)).toArray:=by
 obtain⟨h1,h2,h3⟩:=amb lo hi its.toArray.size;unfold slicePick;rw[h1,h2,h3];simp only[sliceRange_one,pick_run,aP] <;> rfl
def rSlL(K:Fg9):V->Option Int->Option Int->Hp->VK->Prop:=λx lo hi H Q=>∃a xs,x=.ref a/\SqL K H a xs/\∀p,H p=ZX->Q (.ref p) (upd H p (.lst (cutV xs lo hi)))
def atk:SlR X (rSlL X.K):=by
 intro qv s σ H x v vl vu lo hi sl Q I rx hs pl pu h;obtain⟨a,xs,rfl,hx,q⟩:=h;cases rx;obtain⟨its,r,ht,hz⟩:=I.list hx;have hlen:=r.length;refine⟨"list", _,slot_list_getitem.lookup,ht.isList.typeIs,?_⟩;refine wpAny_getItem_list_slice ht.isList hs pl pu .none (by simp) ?_ (by rw[aP] <;> omega)
 rw[akt,<-hlen];refine⟨.ref s.heap.objs.size,_,I.laid (t':=s.toks) (o:=.lst (cutV xs lo hi)) (λb ob q=>aB _ q) (aM _) ?_,rfl,q _ (I.hok.fresh (aM _))⟩
 exact⟨Nat.le_trans (ai0 xs lo hi) hz,_,0,(r.drop (HT.sIx xs.length 0 lo)).take (HT.sIx xs.length xs.length hi-HT.sIx xs.length 0 lo),aW _ rfl⟩
def flatV:V->Bool
 |.non=>ZW
 |.bl _=>ZW
 |.int _=>ZW
 |.str _=>ZW
 |_=>ZV
def anr:afp X (.builtin "len") (λxs H Q=>∃p ys,xs=[.ref p]/\(SqL X.K H p ys∨SqT X.K H p ys)/\Q (.int ys.length) H):=by
 intro qv s σ H xs us Q I r h;obtain⟨p,ys,rfl,hq,q⟩:=h;obtain⟨u,rfl,rx⟩:=vals1 r;cases rx;have hn:=am3;rcases hq with hq |hq
 ·obtain⟨its,r',pl,hz⟩:=I.list hq;have hlen:=r'.length;exact Calls.call_len_list pl.isList (by simp only[aP] <;> omega) ⟨.int ys.length,H,I.tok _,⟨s.toks+1,by rw[aP,hlen]⟩,q⟩
 ·obtain⟨its,r',pl,hz⟩:=I.tuple hq;have hlen:=r'.length;exact len_tuple pl (by simp only[aP] <;> omega) ⟨.int ys.length,H,I.tok _,⟨s.toks+1,by rw[aP,hlen]⟩,q⟩
def anq:afp X (.type "list") (λxs H Q=>∃p ys,xs=[.ref p]/\(SqL X.K H p ys∨SqT X.K H p ys)/\∀l,H l=ZX->Q (.ref l) (upd H l (.lst ys))):=by
 intro qv s σ H xs us Q I r h;obtain⟨p,ys,rfl,hq,q⟩:=h;obtain⟨u,rfl,rx⟩:=vals1 r;cases rx;have fin:∀(its:List aD),Vals ys its->ys.length<=cF->∀(h':eF) (c':Nat),(∀b o',s.heap.get? b=ZY o'->h'.get? b=ZY o') ->
   h'.get? s.heap.objs.size=ZY { cls:=.type "list", dict:=ZX,data:=.seq its.toArray c',slots := #[] }->EP X qv σ Q (.ref s.heap.objs.size) { s with heap:=h' }:=λits r' hz h' c' kp e=>
  ⟨.ref s.heap.objs.size,_,I.laid (t':=s.toks) kp (aM _) (show yt X.prog X.w _ h' _ (.lst ys) from⟨hz,its,c',r',e⟩),rfl,q _ (I.hok.fresh (aM _))⟩
 rcases hq with hq |hq
 ·obtain⟨its,r',pl,hz⟩:=I.list hq;have hlen:=r'.length;obtain⟨o,ho,hc,n,hd⟩:=pl.isList;exact call_list_seq p (.inl rfl) ho hc hd (λh' c' kp e=>fin its r' hz h' c' kp e) (by simp only[aP] <;> omega)
 ·obtain⟨its,r',pl,hz⟩:=I.tuple hq;have hlen:=r'.length;obtain⟨o,ho,hc,n,hd⟩:=pl;exact call_list_seq p (.inr rfl) ho hc hd (λh' c' kp e=>fin its r' hz h' c' kp e) (by simp only[aP] <;> omega)
def abu:afp X (.type "tuple") (λxs H Q=>∃p ys,xs=[.ref p]/\((SqL X.K H p ys/\∀l,H l=ZX->Q (.ref l) (upd H l (.tup ys)))∨(SqT X.K H p ys/\Q (.ref p) H))):=by
 intro qv s σ H xs us Q I r h;obtain⟨p,ys,rfl,h⟩:=h;obtain⟨u,rfl,rx⟩:=vals1 r;cases rx;rcases h with⟨hq,q⟩ |⟨hq,q⟩
 ·obtain⟨its,r',pl,hz⟩:=I.list hq;have hlen:=r'.length;refine call_tuple_list pl.isList (λh' kp=>?_) (by simp only[aP] <;> omega)
  have I1:Inv X qv σ H { s with heap:=h' }:=I.kept (t':=s.toks) kp
  have I2:Inv X qv σ (upd H h'.objs.size (.tup ys)) { s with heap:=h'.push { cls:=.type "tuple", data:=.seq its.toArray } } :=
   I1.laid (t':=s.toks) (λb o e=>aB _ e) (aM _) (show yt X.prog X.w _ _ _ (.tup ys) from⟨hz,its,r',IsTp.new _ _⟩)
  exact⟨.ref h'.objs.size,_,I2,rfl,q _ (I1.hok.fresh (aM _))⟩
 ·obtain⟨its,r',pl,hz⟩:=I.tuple hq;exact call_tuple_same pl ⟨.ref p,H,I,rfl,q⟩
def tyV(K:Fg9)(T:String)(x:V)(H:Hp):Prop:=match x with
 |.str _=>T = "str"
 |.int _=>T = "int"
 |.ref p=>(T = "list" /\ ∃xs,SqL K H p xs)∨(T = "tuple" /\ ((∃o,K.lookup p=ZY o/\o.cls=.type "tuple" /\ o.dict=ZX)∨∃xs,H p=ZY (.tup xs))) ∨
   (T = "dict" /\ ((∃kvs,H p=ZY (.dK kvs))∨∃kvs,H p=ZY (.dT kvs)))∨(T = "set" /\ ∃S n,H p=ZY (.set S n))
 |_=>False
theorem a4v{qv:List (aU×Obj)}{σ:St}{H:Hp}{s:aG}{T:String}{x:V}{v:aD}(I:Inv X qv σ H s)(r:RelV x v)(ty:tyV X.K T x H) :
  s.TypeIs v T/\∀a,v=.ref a->∃ob,s.heap.get? a=ZY ob/\ob.dict=ZX:=by
 cases x with
 |str z=>
  obtain⟨t,rfl⟩:=r;cases(show T = "str" from ty)
  exact⟨typeIs_str s z t,λ_ e=>nomatch e⟩
 |int i=>
  obtain⟨t,rfl⟩:=r;cases(show T = "int" from ty)
  exact⟨typeIs_int s i t,λ_ e=>nomatch e⟩
 |ref p=>
  cases r;rcases ty with⟨rfl,xs,hq⟩ |⟨rfl,⟨o,hk,hc,hd⟩ |⟨xs,hk⟩⟩ |⟨rfl,hk⟩ |⟨rfl,S,n,hk⟩
  ·obtain⟨its,_,pl,_⟩:=I.list hq;refine⟨pl.isList.typeIs,λa e=>?_⟩
   cases e;obtain⟨o,n,e,c,hd,_⟩:=pl;exact⟨o,e,hd⟩
  ·refine⟨⟨o,I.kIn p o hk,hc⟩,λa e=>?_⟩
   cases e;exact⟨o,I.kIn _ o hk,hd⟩
  ·obtain⟨_,_,_,o,e,hc,hd,_⟩:=I.hok p _ hk;refine⟨⟨o,e,hc⟩,λa e2=>?_⟩
   cases e2;exact⟨o,e,hd⟩
  ·have z:∃o,s.heap.get? p=ZY o/\o.ExactDict:=by
    rcases hk with⟨kvs,hk⟩ |⟨kvs,hk⟩
    ·obtain⟨_,_,_,_,o,_,_,e,ex,_⟩:=I.hok p _ hk;exact⟨o,e,ex⟩
    ·obtain⟨_,_,_,_,o,_,_,e,ex,_⟩:=I.hok p _ hk;exact⟨o,e,ex⟩
   obtain⟨o,e,ex⟩:=z;refine⟨⟨o,e,ex.1⟩,λa e2=>?_⟩
   cases e2;exact⟨o,e,ex.2.1⟩
  ·obtain⟨o,_,_,_,e,ex,_⟩:=I.hok p _ hk;refine⟨⟨o,e,ex.1⟩,λa e2=>?_⟩
   cases e2;exact⟨o,e,ex.2.1⟩
 |_=>exact dI ty
def tBM(K:Fg9)(T:String)(r:V->List V->Hp->VK->Prop)(to:TE)(t:TA):TE:=λσ H Q=>to σ H λx H1=>tyV K T x H1/\t σ H1 λxs H2=>r x xs H2 Q
variable{o e:cZ}{es:List cZ}{to:TE}{t:TA}{name:Str}{apos cpos:Pos}{T id:String}{r:V->List V->Hp->VK->Prop}
def axx(pa:PlainAttrs T)(slot:Slot T name id)(hty:typeOf (.builtin id)=pure (.type "method_descriptor"))(hm:MtR X id r)(ho:PE X o to)(ha:PA X (e::es) t)
  (hbase:iB o name X.env (eval o X.env)=eval o X.env:=by rfl)
  (hfew:((fV cpos (aO (e::es) X.env)).all (λx => !x.1)&&(backToKw cpos (keywordEach [] X.env)).all (λx=>x.1.isSome)
   && decide ((e::es).length+([]:List oZ).length+(if ([]:List oZ).isEmpty then 0 else 1)<30))=ZW:=by rfl)
  (hline:(apos.endLine==cpos.line)=ZW:=by rfl) (hs:Zc X e es:=by rfl) (hplain:(fV cpos (aO es X.env)).any (·.1)=ZV:=by rfl) :
  PE X (.Call (.Attribute o name apos) (e::es) [] cpos) (tBM X.K T r to t):=by
 intro qv s σ H Q I h;refine wpAny_Call_method_late hbase hfew hline rfl (thn (ho qv s σ H _ I h) λv s1 ⟨x,H1,I1,r1,ty,q1⟩=>?_)
 obtain⟨h1,h2⟩:=a4v I1 r1 ty;refine⟨T,id,pa,slot,hty,h1,h2,?_⟩;have hA:=ha cpos qv s1 σ H1 _ I1 q1;rw[hs] at hA ⊢
 refine Calls.callWith_builtin (by show(ZV||(fV cpos (aO es X.env)).any (·.1))=ZV;rw[hplain] <;> rfl) (Calls.evalArgs_plain ?_)
 exact thn hA λus s2 ⟨vs,H2,I2,r2,q2⟩=>hm qv s2 σ H2 x vs v us Q I2 r1 r2 q2
end
def MtM(X:Cx)(id:String)(r:V->List V->Hp->VK->Prop):Prop :=
 ∀(qv:List (aU×Obj)) (s:aG) (σ:St) (H:Hp) (x:V) (xs:List V) (v:aD) (us:List aD) (Q:VK),Inv X qv σ H s->RelV x v->Vals xs us->r x xs H Q ->
  bU (bZ X.prog X.w) X.A (call (.builtin id) (v::us)) (EP X qv σ Q) X.xe s
theorem Vals.one:∀{x:V} {us:List aD},Vals [x] us->∃u,us=[u]/\RelV x u
 |_,_,.cons r .nil=>⟨_,rfl,r⟩
theorem Vals.rep{xs:List V}{us:List aD}(h:Vals xs us):∀k:Nat,Vals (aJ k xs).flatten (aJ k us).flatten
 | 0=>.nil
 |k+1=>by
  rw[gD,gD,iU,iU];exact Vals.append h (Vals.rep h k)
theorem foldl_rep(its:List aD):∀(k:Nat) (acc:List aD),
  lL (λx1 x2=>x1++x2) acc.toArray (aJ k its.toArray)=(acc++(aJ k its).flatten).toArray
 | 0,acc=>by simp
 |k+1,acc=>by
  have e:acc.toArray++its.toArray=(acc++its).toArray:=by simp
  have e2:(acc++its)++(aJ k its).flatten=acc++(aJ (k+1) its).flatten:=by
   rw[gD,iU,cU]
  rw[<-e2,<-foldl_rep its k (acc++its),<-e,gD,dF]
section
variable{X:Cx}{qv:List (aU×Obj)}{σ:St}{H:Hp}{s:aG}{l b:aU}{xs ys zs:List V}
def Inv.lset{its its':List aD}{n:Nat}{f:Array aD->Array aD}{t':Nat}(I:Inv X qv σ H s)(hH:H l=ZY (.lst xs))
  (e:s.heap.get? l=ZY { cls:=.type "list", data:=.seq its.toArray n }) (hf:f its.toArray=its'.toArray) (hv:Vals ys its') (hz:ys.length<=cF) :
  Inv X qv σ (upd H l (.lst ys)) { s with heap:=s.heap.update l (fH f),toks:=t' }:=by
 have q:=PySem.IsL.update e f;rw[hf] at q;refine I.write (x:=l) (e:=l) (by rw[hH];exact trivial) (.inl rfl) (λb' u hb hu=>(bR s.heap (fH f) (fO hb)).trans hu) ⟨_,q⟩ ?_
 exact⟨hz,its',_,hv,q⟩
def Inv.lnew{its:List aD}{t':Nat}(I:Inv X qv σ H s)(hv:Vals ys its)(hz:ys.length<=cF) :
  Inv X qv σ (upd H s.heap.objs.size (.lst ys)) { s with heap:=s.heap.push { cls:=.type "list", data:=.seq its.toArray },toks:=t' } :=
 I.laid (λ_ _ q=>aB _ q) (aM _) ⟨hz,its,0,hv,aW _ rfl⟩
def Inv.fresh(I:Inv X qv σ H s):H s.heap.objs.size=ZX:=I.hok.fresh (aM _)
def Inv.lstM(I:Inv X qv σ H s)(hH:H l=ZY (.lst xs)):xs.length<=cF/\∃(its:List aD) (n:Nat),Vals xs its/\xs.length=its.length/\s.heap.get? l=ZY { cls:=.type "list", data:=.seq its.toArray n }:=by
 obtain⟨z,its,n,r,e⟩:=I.hok l _ hH;exact⟨z,its,n,r,r.length,e⟩
def ax6{n:Nat}(h:n<=cF):sI n=ZV:=by
 unfold sI;exact decide_eq_false (by omega)
end
section
variable{X:Cx}
def at4:V->List V->Hp->VK->Prop:=λx vs H Q=>∃l xs y,x=.ref l/\vs=[y]/\H l=ZY (.lst xs)/\xs.length<cF/\Q .non (upd H l (.lst (xs++[y])))
def u5:MtM X "list.append" at4:=by
 intro qv s σ H x vs v us Q I rx rv h;obtain⟨l,xs,y,rfl,rfl,hH,hz,q⟩:=h;cases rx;obtain⟨u,rfl,ru⟩:=rv.one;obtain⟨z,its,n,r,hl,e⟩:=I.lstM hH;refine jH F.slot_list_append ⟨_,e,rfl⟩ F.entry_list_append (F.args_list_append_2 _ _) (PySem.list_append l its.toArray n u (by rw[aP];omega)) ⟨e,?_⟩
 refine⟨.non,_,I.lset (its':=its++[u]) hH e (by simp) (r.append (.cons ru .nil)) ?_,rfl,q⟩
 rw[cC,List.length_singleton];omega
def rCat:R2:=λx y H Q=>∃l b xs zs,x=.ref l/\y=.ref b/\H l=ZY (.lst xs)/\H b=ZY (.lst zs)/\xs.length+zs.length<=cF/\∀p,H p=ZX->Q (.ref p) (upd H p (.lst (xs++zs)))
def a6v:OpR X (eY .Add) rCat:=by
 intro qv s σ H x y v u Q I rx ry h;obtain⟨l,b,xs,zs,rfl,rfl,hH,hB,hz,q⟩:=h;cases rx;cases ry;obtain⟨z,its,n,r,hl,e⟩:=I.lstM hH;obtain⟨z2,its2,n2,r2,hl2,e2⟩:=I.lstM hB;refine PySem.P.add_list e e2 ?_ (by rw[aP,aP];omega)
 have ea:its.toArray++its2.toArray=(its++its2).toArray:=by simp
 rw[ea];exact⟨.ref _,_,I.lnew (t':=s.toks) (r.append r2) (by rw[cC];omega),rfl,q _ I.fresh⟩
def rRep:R2:=λx y H Q=>∃l k xs,x=.ref l/\y=.int k/\H l=ZY (.lst xs) /\ -(2 ^ 63)<=k/\k<2 ^ 63/\xs.length*k.toNat<=cF /\
 ∀p,H p=ZX->Q (.ref p) (upd H p (.lst (aJ k.toNat xs).flatten))
theorem len_rep{α:Type}(xs:List α)(k:Nat):(aJ k xs).flatten.length=k*xs.length:=by
 induction k with
 |zero=>simp
 |succ k ih=>rw[gD,iU,cC,ih,nW,Nat.add_comm]
def a6r:OpR X (eY .Mult) rRep:=by
 intro qv s σ H x y v u Q I rx ry h;obtain⟨l,k,xs,rfl,rfl,hH,h1,h2,hz,q⟩:=h;cases rx;obtain⟨t,rfl⟩:=ry;obtain⟨z,its,n,r,hl,e⟩:=I.lstM hH;have hlen:its.toArray.size*k.toNat<=cF:=by rw[aP,<-hl];exact hz
 have hcap:¬its.toArray.size*k.toNat > (2 ^ 63-1) / 8:=by
  have:(cF:Nat)<=(2 ^ 63-1) / 8:=by decide
  omega
 have hfit:¬(!Builtin.List.listFitsIndex k)=ZW:=by
  rw[fitsIndex_both h1 h2];exact cY
 have hlong:¬Builtin.List.listTooLong (its.toArray.size*k.toNat)=ZW:=by
  rw[ax6 hlen];exact cY
 have hnew:lL (λx1 x2=>x1++x2) #[] (aJ (if its.toArray.isEmpty=ZW then 0 else k.toNat) its.toArray)=(aJ k.toNat its).flatten.toArray:=by
  have f0:∀m:Nat,lL (λx1 x2=>x1++x2) #[] (aJ m its.toArray)=(aJ m its).flatten.toArray:=λm=>by
   have:=foldl_rep its m [];rw[bO] at this;exact this
  rw[f0];cases its with
  |nil=>simp
  |cons a r'=>rw[if_neg (by simp)]
 refine wpAny_binaryOp_repeat_ref (T := "list") (U := "int") (by decide) ⟨_,e,rfl⟩ (λs'=>typeIs_int s' k t) noFill_list_mul rF jU repeat_list qO.lookup
  (jH jU (typeIs_int s k t) qP (pZ _ _) (int___rmul___int_list k t l its.toArray n)
   ⟨e,rfl,⟨_,e,rfl⟩,jH F.slot_list_mul ⟨_,e,rfl⟩ F.entry_list_mul (F.args_list_mul_2 _ _) (AutoListH.list___mul___list_int_3 l its.toArray n k t hfit hcap hlong) ⟨e,?_⟩⟩)
 rw[hnew];exact⟨.ref _,_,I.lnew (t':=s.toks) (r.rep k.toNat) (by rw[len_rep,jK];exact hz),rfl,q _ I.fresh⟩
end
section
variable{prog:cA}{w:dU}{A:cT}{E:aD->aG->Prop}{s:aG}
end
section
variable{X:Cx}
end
end L2
namespace Att
open PySem PySem.W PySem.Calls PyProof.Rows
theorem aia{P:Params}{h:eF}:∀(ns:List Int) (vs:List aD),WellAll P h vs (ns.map WData.int)->lW vs ns:=by
 intro ns
 induction ns with
 |nil=>
  intro vs w;rw[List.map_nil] at w;cases w;exact .nil
 |cons n ns ih=>
  intro vs w;rw[bB] at w;cases w with
  |cons a b=>
   cases a;exact .cons _ _ (ih _ b)
theorem ato{l:OpenLaw}{n:Nat}(hn:l.most=ZY n){P:Params}{h:eF}{args:List WData}{vals:List aD}
  (hpre:l.row.toRowW.claim.pre args=ZW) (hwl:WellAll P h vals args) :
  ∃a vs ns,vals=[cH a]/\args=[WData.list (ns.map WData.int)]/\h.get? a=ZY { cls:=.type "list", data:=.seq vs.toArray }/\lW vs ns/\ns.length<=n:=by
 have hsh:WShape.hasAll [] args [.list .int]=ZW:=(pre_splitW hpre).1;have hc:l.pre.holds [] { args:=args }=ZW:=(pre_splitW hpre).2;obtain⟨d,r,rfl,h1,h2⟩:=hasAllW_cons hsh;obtain rfl:=hasAllW_nil h2;obtain⟨xs,rfl,h3⟩:=hasW_list h1;obtain⟨ns,rfl⟩:=items_int h3;have hlen:ns.length<=n:=by
  unfold OpenLaw.pre at hc;have h4:(WTm.not (.lt (.lit (.int (n:Int))) (.len (.arg 0)))).holds [] { args:=[.list (ns.map .int)] }=ZW:=by
   have h4:=(holds_andW hc).1;rw[hn] at h4;exact h4
  have h5:=condW_of h4 (w_not (w_lt w_lit (w_len_list (w_arg rfl))));rw[aC] at h5;refine Nat.le_of_not_lt λq=>?_
  have q':(n:Int)<((ns.length:Nat):Int):=by omega
  first
   | (rw[decide_eq_true q'] at h5;exact absurd h5 (by decide))
   | (simp at h5;omega)
 cases hwl with
 |cons w1 w2=>
  cases w2;cases w1 with
  |list ho hall=>exact⟨_,_,ns,rfl,rfl,ho,aia ns _ hall,hlen⟩
def at9(l:OpenLaw)(args:List WData):l.row.toRowW.claim.post args (.bool ZW) args=ZW :=
 postW_of (r:=l.row.toRowW) (X:=(ZW==ZW))
  (show WShape.has [] (.bool ZW) .bool=ZW by first |rfl |decide |simp[WShape.has,WShape.arms,WShape.armsAll])
  (show(WTm.eq .res (.lit (.bool ZW))).value [] { args:=args,res:=ZY (.bool ZW),after:=args }=ZY (.bool (ZW==ZW)) from w_eq_bool (w_res rfl) w_lit) rfl
def apo{l:OpenLaw}{n:Nat}{q:cA}{loose:List Str}{XP:(Str->Option aD)->eF->Prop}{YP:dU->eF->Prop}{d:DefRec}
  (hn:l.most=ZY n) (hdf:d.params.defaults=[])
  (call:∀(w:dU) (s₀ s₁:aG) (mg mb:Str->Option aD) (fa:aU) (o:Obj) (pm cd doc:aD) (a:aU) (vs:List aD) (ns:List Int),
   Ground q loose [] XP w s₀ mg mb s₁.heap->YP w s₁.heap ->
   s₁.heap.get? fa=ZY o->o.data=.func (docDef d.name d.params d.body d.scope pm cd doc)->s₁.heap.CodeRec cd d.name->mg d.name=ZY (.ref fa) ->
   s₁.heap.get? a=ZY { cls:=.type "list", data:=.seq vs.toArray }->lW vs ns->ns.length<=n->s₁.gens = #[] ->
   oW (bZ l.prog w) pK (.call (.ref fa) ⟨[.ref a],[]⟩) (λr s'=>r=.ok (.ret (.bool ZW))/\OldK s₁.heap s'.heap/\s'.os=s₁.os/\oK s'.gens) s₁) :
  WalkO q loose XP YP l.row.toRowW d [] (λf vs=>uO f vs):=by
 intro w s₀ s₁ mg mb G Y fa o pm cd doc dV kV ho hd hcd hD hmg hg args vals as hpre hlay hrd hwl hlo;obtain rfl:dV=.none:=Dflts.none hD hdf;obtain rfl:kV=.none:=Dflts.noKw hD;obtain⟨a,vs,ns,rfl,rfl,hobj,hints,hlen⟩:=ato hn hpre hwl;refine enter_call (codeAny_mono (call w s₀ s₁ mg mb fa o pm cd doc a vs ns G Y ho (fd_plain hd) hcd hmg hobj hints hlen hg) λr s' hq=>?_)
 obtain⟨rfl,h2,h3,h4⟩:=hq;exact⟨.inl ⟨.bool ZW,.bool ZW,[],rfl,λ_=>rfl,.bool ZW,at9 l _,λ_=>⟨List.Pairwise.nil,λ_ hm=>(nomatch hm)⟩⟩,h2,h3,h4⟩
section
variable{prog:cA}{w:dU}{A:cT}{E:aD->aG->Prop}{s:aG}{K:Frag}
end
end Att
namespace L2
theorem al7:∀{vs:List aD} {ns:List Int},lW vs ns->Vals (ns.map V.int) vs
 |_,_,.nil=>.nil
 |_,_,.cons n t h=>.cons ⟨t,rfl⟩ (al7 h)
def Only(H:Hp):Prop:=∀b,H b=ZX∨∃o xs,H b=ZY (.frz o (.lst xs))
theorem aym{P:cA}{w:dU}{K:Fg9}{mg mb:Str->Option aD}{CX:CXT}{k:Nat}{fa a:aU}{fd:dR}{x:Str}{sp:Sp}{s₁:aG}{vs:List aD}{ns:List Int}
  (KX:K.In s₁.heap) (hns:s₁.heap.Ns aX mg) (hb:s₁.heap.Ns builtinsNs mb) (hbb:∀x:Str,x ≠ "__name__" -> mb x=bY x) (hlim:s₁.heap.NoLimit) (hg:s₁.gens = #[])
  (ha:s₁.heap.get? a=ZY { cls:=.type "list", data:=.seq vs.toArray }) (hi:lW vs ns) (hl:ns.length<=cF) (hr:Room k pK)
  (F:∀base:eF,K.In base->base.Ns aX mg->FnOk P w K mg base CX k fa fd [x] sp) (hbind:∀(s:aG) (u:aD),qC s fd ⟨[u],[]⟩ [(x,u)])
  (hsp:∀H:Hp,Only H->SqL K H a (ns.map V.int)->sp [.ref a] H (λv _=>v=.bl ZW) λ_ _ _=>False)
  (hCX:∀H e s',CX [] H s₁ (λ_ _ _=>False) e s'->False) :
  oW (bZ P w) pK (.call (.ref fa) ⟨[.ref a],[]⟩) (λr s'=>r=.ok (.ret (.bool ZW))/\OldK s₁.heap s'.heap/\s'.os=s₁.os/\oK s'.gens) s₁:=by
 have rv:=al7 hi;have lenV:=hi.length;have core:∀H:Hp,Only H->SqL K H a (ns.map V.int)->HOk P w H s₁.heap->(∀b,H b≠ZX->b=a)->(H a≠ZX->K.lookup a=ZX) ->
   oW (bZ P w) pK (.call (.ref fa) ⟨[.ref a],[]⟩) (λr s'=>r=.ok (.ret (.bool ZW))/\OldK s₁.heap s'.heap/\s'.os=s₁.os/\oK s'.gens) s₁:=by
  intro H hO hS hok hA hK;have base_of:∀{b:aU} {o:Obj},s₁.heap.get? b=ZY o->H b=ZX->(hidT s₁.heap H).get? b=ZY o:=λe n=>ayt e n
  have noA:∀{b:aU} {o:Obj} {es:Array DictEntry} {ep:Nat},s₁.heap.get? b=ZY o->o.data=.dict es ep->H b=ZX:=λ{b o es ep} e d=>by
   cases q:H b with
   |none=>rfl
   |some u=>
    have e':b=a:=hA b (by rw[q];simp)
    subst e';rw[ha] at e;cases e;have d':Data.seq vs.toArray _=Data.dict es ep:=d;cases d'
  have nsK:∀{b:aU} {m:Str->Option aD},s₁.heap.Ns b m->(hidT s₁.heap H).Ns b m:=λ{b m} ⟨o,es,ep,e,d,r⟩=>⟨o,es,ep,base_of e (noA e d),d,r⟩
  have hKb:K.In (hidT s₁.heap H):=λb o e=>base_of (KX b o e) (by
   cases q:H b with
   |none=>rfl
   |some u=>
    have e':b=a:=hA b (by rw[q];simp)
    subst e';rw[hK (by rw[q];simp)] at e;cases e)
  have hM:Mod K mg (hidT s₁.heap H):=⟨hKb,nsK hns,⟨mb,nsK hb,hbb⟩,let ⟨mc,h1,h2⟩:=hlim;⟨mc,nsK h1,h2⟩⟩
  have e0:Env0 P w K mg (hidT s₁.heap H) pK [] s₁ H:=⟨rfl,hM,λb o e=>a2k e,tK (avl _ _),trivial,λb hb=>absurd (show b∈([]:List aU) from hb) (by simp),hok,.of_eq hg⟩
  refine codeAny_mono ((F _ hKb (nsK hns)).run pK [] s₁ H ⟨[.ref a],[]⟩ [.ref a] [.ref a] _ _ hr e0 (hbind s₁ (.ref a)) (.cons rfl .nil) (hsp H hO hS)) λr s' h=>?_
  cases r with
  |error e=>exact(hCX H e s' h).elim
  |ok fl=>
   cases fl with
   |next=>exact dI h
   |brk=>exact dI h
   |cont=>exact dI h
   |ret u=>
    obtain⟨v,H',os,bare,un,hok',r',q⟩:=h;have q':v=.bl ZW:=q;subst q';obtain rfl:u=pL ZW:=r';refine⟨rfl,OldK.of_keep λb o e=>?_,os,bare⟩
    cases q:H b with
    |none=>exact un.keep b o e q (by intro z;exact absurd (show b∈([]:List aU) from z) (by simp)) (by simp)
    |some u=>
     rcases hO b with z |⟨ob,xs,z⟩
     ·rw[q] at z;cases z
     ·have z2:=un.frzs b ob _ z;obtain⟨e1,_⟩:=hok b _ z;obtain⟨e2,_⟩:=hok' b _ z2;rw[e] at e1;cases e1;exact e2
 cases hk:K.lookup a with
 |some o=>
  have e:=KX a o hk;rw[ha] at e;cases e;refine core (λ_=>ZX) (λ_=>.inl rfl) (.inr ⟨_,vs.toArray,_,hk,rfl,rfl,rfl,by rw[aP,lenV];exact hl,by simpa using rv⟩) (λb u z=>by have z':(ZX:Option HO)=ZY u:=z;cases z') (λb z=>absurd rfl z) λz=>absurd rfl z
 |none=>
  refine core (λb=>if b=a then ZY (.frz { cls:=.type "list", data:=.seq vs.toArray } (.lst (ns.map V.int))) else ZX) (λb=>?_) (.inl (.inr ⟨{ cls:=.type "list", data:=.seq vs.toArray },if_pos rfl⟩)) (λb u z=>?_) (λb z=>?_) λ_=>hk
  ·by_cases hb:b=a
   ·exact .inr ⟨_,_,if_pos hb⟩
   ·exact .inl (if_neg hb)
  ·by_cases hb:b=a
   ·have z':=(if_pos hb).symm.trans z;cases z';subst hb;exact⟨ha,by rw[aC];exact hl,vs,_,rv,ha⟩
   ·have z':=(if_neg hb).symm.trans z;cases z'
  ·by_cases hb:b=a
   ·exact hb
   ·exact absurd (if_neg hb) z
def a0w{l:qW}{n k:Nat}{q:cA}{loose:List Str}{XP:(Str->Option aD)->eF->Prop}{YP:dU->eF->Prop}{d:DefRec}{K:Params->Fg9}{CX:dU->CXT}{sp:dU->Sp}{x:Str}
  (hn:l.most=ZY n) (hn2:n<=cF) (hdf:d.params.defaults=[]) (hr:Room k pK)
  (hY:∀(w:dU) (h:eF),YP w h->(K w.params).In h)
  (F:∀(w:dU) (mg:Str->Option aD) (fa:aU) (h:eF),(K w.params).In h->h.Ns aX mg->mg d.name=ZY (.ref fa) ->
   ∃fd:dR,(∀(s:aG) (u:aD),qC s fd ⟨[u],[]⟩ [(x,u)]) /\
    ∀base:eF,(K w.params).In base->base.Ns aX mg->FnOk l.prog w (K w.params) mg base (CX w) k fa fd [x] (sp w))
  (hsp:∀(w:dU) (H:Hp) (a:aU) (ns:List Int),ns.length<=n->Only H->SqL (K w.params) H a (ns.map V.int)->sp w [.ref a] H (λv _=>v=.bl ZW) λ_ _ _=>False)
  (hCX:∀(w:dU) (H:Hp) (s:aG) (e:aD) (s':aG),CX w [] H s (λ_ _ _=>False) e s'->False) :
  wM q loose XP YP l.row.toRowW d [] (λf vs=>uO f vs):=by
 refine Att.apo hn hdf λw s₀ s₁ mg mb fa o pm cd doc a vs ns G Y ho hd hcd hmg hobj hints hlen hg=>?_
 have KX:=hY w _ Y;obtain⟨fd,hb,hF⟩:=F w mg fa _ KX G.T.g hmg;exact aym KX G.T.g G.T.b G.T.builtins G.T.nolimit hg hobj hints (cW hlen hn2) hr hF hb (λH hO hS=>hsp w H a ns hlen hO hS) λH e s'=>hCX w H s₁ e s'
def lw(s:fD):Arguments:=match s with
 |.FunctionDef _ a _ _ _ _ _ _ _ _=>a
 |_=>{ posonlyargs:=[],args:=[],vararg:=ZX,kwonlyargs:=[],kw_defaults:=[],kwarg:=ZX,defaults:=[] }
def je(s:fD):List fD:=match s with
 |.FunctionDef _ _ b _ _ _ _ _ _ _=>b
 |_=>[]
def ao(s:fD):iZ:=match s with
 |.FunctionDef _ _ _ _ _ _ sc _ _ _=>sc
 |_=>{ kind:=.function,names:=[],isGenerator:=ZV,isCoroutine:=ZV }
abbrev CX0:CXT:=λ_ _ _ _ _ _=>False
abbrev E0:XK:=λ_ _ _=>False
def a2g{X:Cx}:akm CX0 X E0:=λ_ _ _ _ _ _ _ h=>h.elim
structure Fun (K:Fg9) (x qual:Str) (st:fD) (f:aU) (fd:dR):Prop where
 ex:∃(oc:aD) (od:Option aU) (kV doc pm:aD) (an:Option aU) (cdv ct:aD) (osl:Array (Option aD)),
  fd=fnOf x qual (lw st) (je st) (ao st) .none kV doc pm an cdv ct/\K.lookup f=ZY ⟨oc,od,.func fd,osl⟩/\codeIn K cdv qual=ZW
 kp:jW K (.ref f)=ZW
section
variable{P:cA}{w:dU}{K:Fg9}{mg:Str->Option aD}{base:eF}
def Fun.ok{x qual:Str}{st:fD}{f:aU}{fd:dR}{N ps:List Str}{k:Nat}{sp:Sp}(F:Fun K x qual st f fd)(S:FnScope N ps (ao st))(len:∀vs H Q E,sp vs H Q E->vs.length=ps.length)
  (hbody:∀(cdv:aD) (A:cT) (outer:List Env) (s:aG) (H:Hp) (vs:List V) (Q:VK) (E:XK),Room k (A.deeper (lO qual (ao st) s.heap.objs.size f cdv))->sp vs H Q E ->
   ∃t,PSs (cxOf CX0 P w K mg base N qual (ao st) f cdv A outer s H E).nox (je st) t/\t { nx:=λ_ H'=>Q .non H',rt:=Q } (start N vs) H):FnOk P w K mg base CX0 (k+1) f fd ps sp:=by
 obtain⟨oc,od,kV,doc,pm,an,cdv,ct,osl,rfl,lk,hcd⟩:=F.ex;refine a8c lk hcd S len λA outer s H vs Q E hr hsp=>?_
 obtain⟨t,h,q⟩:=hbody cdv A outer s H vs Q E hr hsp;exact⟨t,h.nox,q⟩
def Fun.binds{x qual:Str}{st:fD}{f:aU}{fd:dR}{ps:List Str}(F:Fun K x qual st f fd)
  (h:∀(kV doc pm:aD) (an:Option aU) (cdv ct:aD) (us:List aD),us.length=ps.length->bindArgs (fnOf x qual (lw st) (je st) (ao st) .none kV doc pm an cdv ct) ⟨us,[]⟩=pure (ps.zip us)):Binds K fd ps []:=by
 obtain⟨oc,od,kV,doc,pm,an,cdv,ct,osl,rfl,lk,hcd⟩:=F.ex;exact .all (h kV doc pm an cdv ct)
def aqz{x qual:Str}{st:fD}{f:aU}{oc:aD}{od an:Option aU}{osl:Array (Option aD)}{kV doc pm cdv ct:aD}(l:K.lookup f=ZY ⟨oc,od,.func (fnOf x qual (lw st) (je st) (ao st) .none kV doc pm an cdv ct),osl⟩)
  (c:codeIn K cdv qual=ZW) (k:jW K (.ref f)=ZW):Fun K x qual st f (fnOf x qual (lw st) (je st) (ao st) .none kV doc pm an cdv ct):=⟨⟨oc,od,kV,doc,pm,an,cdv,ct,osl,rfl,l,c⟩,k⟩
end
def ahf{n:Nat}(h:n<=1000):n<cF:=pC h (by decide)
section
variable{X:Cx}
def pv(i:Nat){x:Str}{pos:Pos}(hN:X.N[i]? = ZY x:=by rfl)(hv:Vis X.env.scope x:=by first |exact bM rfl |exact nG (bM rfl) |exact nG (nG rfl))(hd:Zb x:=by decide)
  (hcd:(x==("__classdict__" : Str))=ZV:=by decide):PE X (.Name x pos) (tVar i):=a6d hN hv hd hcd
end
def iteF{A B:Prop}(h:B):if ZV=ZW then A else B:=by
 rw[if_neg cY];exact h
def iteT{A B:Prop}(h:A):if ZW=ZW then A else B:=by
 rw[if_pos rfl];exact h
def Same(H H':Hp):Prop:=∀b o,H b=ZY o->H' b=ZY o
def Same.refl(H:Hp):Same H H:=λ_ _ h=>h
def Same.trans{H H1 H2:Hp}(a:Same H H1)(b:Same H1 H2):Same H H2:=λc o h=>b c o (a c o h)
theorem Same.free{H H':Hp}(e:Same H H'){l:aU}(h:H' l=Option.none):H l=Option.none:=by
 cases q:H l with
 |none=>rfl
 |some o=>
  rw[e l o q] at h;cases h
def Same.seq{K:Fg9}{H H':Hp}{a:aU}{xs:List V}(e:Same H H')(h:SqL K H a xs):SqL K H' a xs:=by
 rcases h with(h |⟨o,h⟩) |h
 ·exact .inl (.inl (e _ _ h))
 ·exact .inl (.inr ⟨o,e _ _ h⟩)
 ·exact .inr h
end L2
namespace Mn
open L2
noncomputable def ut(env:Env)(fr:List Str):List (Str×Addr):=fr.filterMap λn=>(env.cells.lookup n).map λc=>(n,c)
def ai3{env:Env}{n:Str}{r:List Str}(e:env.cells.lookup n=ZX):ut env (n::r)=ut env r:=by
 unfold ut;rw[jF,e];rfl
def aek{env:Env}{n:Str}{r:List Str}{c:aU}(e:env.cells.lookup n=ZY c):ut env (n::r)=(n,c)::ut env r:=by
 unfold ut;rw[jF,e];rfl
def look_same{x:Str}{c:aU}{l:List (Str×Addr)}:bJ x ((x,c)::l)=ZY c:=by
 have hb:(x==x)=ZW:=beq_iff_eq.mpr rfl;simp only[bJ,hb]
def aa8{x n:Str}{c:aU}{l:List (Str×Addr)}(h:x≠n):bJ x ((n,c)::l)=l.lookup x:=by
 have hb:(x==n)=ZV:=beq_eq_false_iff_ne.mpr h;simp only[bJ,hb]
theorem ju{env:Env}:∀{fr:List Str} {x:Str} {c:aU},(ut env fr).lookup x=ZY c->env.cells.lookup x=ZY c
 | [],x,c,h=>by
  have h':(ZX:Option aU)=ZY c:=h;cases h'
 |n::r,x,c,h=>by
  cases e:env.cells.lookup n with
  |none=>
   rw[ai3 e] at h;exact ju h
  |some d=>
   rw[aek e] at h
   by_cases hx:x=n
   ·subst hx;rw[look_same] at h;rw[e];exact h
   ·rw[aa8 hx] at h;exact ju h
theorem aaa{env:Env}:∀{fr:List Str} {x:Str} {c:aU},x∈fr->env.cells.lookup x=ZY c->(ut env fr).lookup x=ZY c
 | [],x,c,hm,h=>absurd hm (by simp)
 |n::r,x,c,hm,h=>by
  by_cases hx:x=n
  ·subst hx;rw[aek h,look_same]
  ·have hm':x∈r:=(bF.mp hm).elim (λe=>absurd e hx) id
   cases e:env.cells.lookup n with
   |none=>
    rw[ai3 e];exact aaa hm' h
   |some d=>
    rw[aek e,aa8 hx];exact aaa hm' h
def afr(XN fr:List Str):List Str->List (Option Nat)->Bool
 | [],[]=>ZW
 |_::N,ZX::r=>afr XN fr N r
 |x::N,ZY j::r=>XN[j]? == ZY x&&fr.contains x&&afr XN fr N r
 |_,_=>ZV
theorem aeq{XN fr:List Str}:∀{N:List Str} {src:List (Option Nat)} {i j:Nat} {x:Str},afr XN fr N src=ZW->N[i]? = ZY x->src[i]? = ZY (ZY j)->XN[j]? = ZY x/\x∈fr
 | [],[],i,j,x,_,h,_=>by simp at h
 | [],_::_,i,j,x,_,h,_=>by simp at h
 |_::_,[],i,j,x,_,_,h=>by simp at h
 |y::N,ZX::r,0,j,x,_,_,h=>by simp at h
 |y::N,ZX::r,i+1,j,x,hk,h1,h2=>aeq (N:=N) (src:=r) (i:=i) hk (by simpa using h1) (by simpa using h2)
 |y::N,ZY k::r,0,j,x,hk,h1,h2=>by
  simp only[afr,bD] at hk;obtain⟨⟨a,b⟩,_⟩:=hk;simp at h1 h2;subst h1 h2;exact⟨by simpa using a,by simpa using b⟩
 |y::N,ZY k::r,i+1,j,x,hk,h1,h2=>by
  simp only[afr,bD] at hk;exact aeq (N:=N) (src:=r) (i:=i) hk.2 (by simpa using h1) (by simpa using h2)
theorem aep{XN fr:List Str}:∀{N:List Str} {src:List (Option Nat)},afr XN fr N src=ZW->src.length=N.length
 | [],[],_=>rfl
 | [],_::_,h=>by simp[afr] at h
 |_::_,[],h=>by simp[afr] at h
 |_::N,ZX::r,h=>by
  have:=aep (N:=N) (src:=r) h;simp[this]
 |_::N,ZY k::r,h=>by
  simp only[afr,bD] at h;have:=aep (N:=N) (src:=r) h.2;simp[this]
def pick(src:List (Option Nat))(σ:L2.St):L2.St:=src.map λo=>o.bind λj=>(σ[j]?).bind id
theorem aqb{src:List (Option Nat)}{σ:L2.St}{i:Nat}{v:V}(h:(pick src σ)[i]? = ZY (ZY v)):∃j,src[i]? = ZY (ZY j)/\σ[j]? = ZY (ZY v):=by
 unfold pick at h;rw[aL] at h;cases e:src[i]? with
 |none=>rw[e] at h;cases h
 |some o=>
  rw[e] at h;have h':(o.bind λj=>(σ[j]?).bind id)=ZY v:=bL h
  cases o with
  |none=>cases h'
  |some j=>
   refine⟨j,rfl,?_⟩;have h2:(σ[j]?).bind id=ZY v:=h';cases q:σ[j]? with
   |none=>rw[q] at h2;cases h2
   |some z=>
    rw[q] at h2;have h3:z=ZY v:=h2;rw[h3]
def akf(env:Env)(XN:List Str)(scope:iZ)(fr N:List Str)(src:List (Option Nat)):Bool :=
 scope.names.all (λy=>y.2 != .cell&&(y.2 != .local||scope.names.lookup y.1==ZY .local)&&(y.2 != .free||fr.contains y.1)) &&
 fr.all (λx=>scope.names.lookup x==ZY .free&&(env.kindOf x==ZY .cell||env.kindOf x==ZY .free))&&afr XN fr N src
structure CompOk (env:Env) (XN:List Str) (scope:iZ) (fr N:List Str) (src:List (Option Nat)):Prop where
 cell:∀y∈scope.names,y.2≠.cell
 loc:∀y∈scope.names,y.2=.local->scope.names.lookup y.1=ZY .local
 free:∀y∈scope.names,y.2=.free->y.1∈fr
 frk:∀x∈fr,scope.names.lookup x=ZY .free
 out:∀x∈fr,env.kindOf x=ZY .cell∨env.kindOf x=ZY .free
 src:afr XN fr N src=ZW
def CompOk.of{env:Env}{XN:List Str}{scope:iZ}{fr N:List Str}{src:List (Option Nat)}(h:akf env XN scope fr N src=ZW):CompOk env XN scope fr N src:=by
 simp only[akf,bD,bK] at h;obtain⟨⟨h1,h2⟩,h3⟩:=h;refine⟨λy hy=>?_,λy hy e=>?_,λy hy e=>?_,λx hx=>?_,λx hx=>?_,h3⟩
 ·have:=(h1 y hy).1.1
  simpa using this
 ·have:=(h1 y hy).1.2;rw[e] at this
  simpa using this
 ·have:=(h1 y hy).2;rw[e] at this
  simpa using this
 ·have:=(h2 x hx).1
  simpa using this
 ·have:=(h2 x hx).2
  simpa using this
theorem ab9{env:Env}:∀{names:List (Str×NameKind)} {x:Str} {k:sV},
  (names.map λ(n,k)=>if (k==dC&&env.scope.kind==.function&&env.kindOf n==ZY .cell) then (n,gJ) else (n,k)).lookup x=ZY k ->
  ∃k0,names.lookup x=ZY k0/\(k=k0∨(k0=.free/\k=.cell))
 | [],x,k,h=>by simp at h
 | (n,q)::r,x,k,h=>by
  by_cases hx:x=n
  ·subst hx;have hb:(x==x)=ZW:=beq_iff_eq.mpr rfl;refine⟨q,by simp only[bJ,hb],?_⟩
   by_cases hc:(q==dC&&env.scope.kind==.function&&env.kindOf x==ZY .cell)=ZW
   ·rw[bB] at h;simp only[hc,if_true,bJ,hb] at h;simp only[bD] at hc;exact .inr ⟨by simpa using hc.1.1,(bL h).symm⟩
   ·rw[bB] at h;simp only[hc,bJ,hb] at h;exact .inl (by simpa using h.symm)
  ·have hb:(x==n)=ZV:=beq_eq_false_iff_ne.mpr hx;have h':(r.map λ(n,k)=>if (k==dC&&env.scope.kind==.function&&env.kindOf n==ZY .cell) then (n,gJ) else (n,k)).lookup x=ZY k:=by
    rw[bB] at h
    by_cases hc:(q==dC&&env.scope.kind==.function&&env.kindOf n==ZY .cell)=ZW
    ·simp only[hc,if_true,bJ,hb] at h;exact h
    ·have h2:bJ x ((if (q==dC&&env.scope.kind==.function&&env.kindOf n==ZY .cell)=ZW then (n,gJ) else (n,q))::(r.map λ(n,k)=>if (k==dC&&env.scope.kind==.function&&env.kindOf n==ZY .cell) then (n,gJ) else (n,k)))=ZY k:=h
     rw[if_neg hc] at h2;simp only[bJ,hb] at h2;exact h2
   obtain⟨k0,e,d⟩:=ab9 h';exact⟨k0,by simp only[bJ,hb];exact e,d⟩
theorem aam{env:Env}:∀{names:List (Str×NameKind)} {x:Str},names.lookup x=ZY .free ->
  (names.map λ(n,k)=>if (k==dC&&env.scope.kind==.function&&env.kindOf n==ZY .cell) then (n,gJ) else (n,k)).lookup x=ZY .free ∨
  (names.map λ(n,k)=>if (k==dC&&env.scope.kind==.function&&env.kindOf n==ZY .cell) then (n,gJ) else (n,k)).lookup x=ZY .cell
 | [],x,h=>by simp at h
 | (n,q)::r,x,h=>by
  by_cases hx:x=n
  ·subst hx;have hb:(x==x)=ZW:=beq_iff_eq.mpr rfl;simp only[bJ,hb] at h;have hq:q=.free:=bL h;subst hq
   by_cases hc:(dC==dC&&env.scope.kind==.function&&env.kindOf x==ZY .cell)=ZW
   ·right
    rw[bB];simp only[hc,if_true,bJ,hb]
   ·left
    show bJ x ((if (dC==dC&&env.scope.kind==.function&&env.kindOf x==ZY .cell)=ZW then (x,gJ) else (x,dC))::_)=ZY dC
    rw[if_neg hc];simp only[bJ,hb]
  ·have hb:(x==n)=ZV:=beq_eq_false_iff_ne.mpr hx;simp only[bJ,hb] at h;rw[bB]
   by_cases hc:(q==dC&&env.scope.kind==.function&&env.kindOf n==ZY .cell)=ZW
   ·simp only[hc,if_true,bJ,hb];exact aam h
   ·simp only[hc,bJ,hb]
    simpa[bJ,hb] using aam (env:=env) h
def cxC(X:Cx)(N:List Str)(scope:iZ)(fr:List Str)(fp:List aU)(s:aG)(H:Hp):Cx where
 prog:=X.prog
 w:=X.w
 K:=X.K
 mg:=X.mg
 base:=X.base
 A:=X.A
 N:=N
 s₀:=s
 H₀:=H
 env:=compEnvC scope (ut X.env fr) s.heap.objs.size X.env
 outer:=X.stack
 stack:=X.stack
 ex:=fp
 fn:=λ_=>ZV
 calm:=X.calm
 pn:=[]
 xe:=λ_ _=>False
section
variable{X:Cx}{qv:List (aU×Obj)}{σ:L2.St}{H:Hp}{s:aG}{scope:iZ}{fr N:List Str}{src:List (Option Nat)}{fp:List aU}
def a8u(I:Inv X qv σ H s)(C:CompOk X.env X.N scope fr N src)(hkind:scope.kind=.function)(hf:∀b∈fp,FpOk X qv H b)(hl:∀b∈fp,b<s.heap.objs.size):(cxC X N scope fr fp s H).Ok where
 mod:=I.ok.mod
 kind:=hkind
 glob:=I.ok.glob
 blt:=I.ok.blt
 above:=aM _
 inj:=λx y c h1 h2=>I.ok.inj x y c (ju h1) (ju h2)
 has:=λx hx=>by
  have mem:∀k,(k=gJ∨k=dC)->(cxC X N scope fr fp s H).env.kindOf x=ZY k->x∈fr:=λk hk e=>by
   obtain⟨k0,e0,d⟩:=ab9 (env:=X.env) (names:=scope.names) e;have hm:=gA e0;rcases d with rfl |⟨rfl,_⟩
   ·rcases hk with rfl |rfl
    ·exact absurd rfl (C.cell _ hm)
    ·exact C.free _ hm rfl
   ·exact C.free _ hm rfl
  have hm:x∈fr:=by
   rcases hx with e |e
   ·exact mem _ (.inl rfl) e
   ·exact mem _ (.inr rfl) e
  obtain⟨c,hc⟩:=I.ok.has x (C.out x hm);exact⟨c,aaa hm hc⟩
 cab:=λ_ _ h _=>absurd h cY
 hd:=I.ok.hd
 frames:=I.ok.frames
 stk:=.inl rfl
 exf:=λb hb=>⟨Nat.ne_of_lt (hl b hb),λx c e=>(hf b hb).2.2.2.2.1 x c (ju e)⟩
 bs:=I.bs
 bsz:=cW I.ok.bsz I.sz
 noex:=λb o e hb=>by
  rcases(hf b hb).2.2.2.1 with z |z
  ·exact I.ok.noex b o e z
  ·exact absurd (bN (aN e) (cW I.ok.bsz z)) (iR _)
 exfs:=λb hb z=>by
  rcases bF.mp (I.stkSub b z) with e |e
  ·exact(hf b hb).2.1 e
  ·exact(hf b hb).2.2.1 e
 funs:=I.stack
 frf:=I.stkFree
def aqr(I:Inv X qv σ H s)(C:CompOk X.env X.N scope fr N src)(hkind:scope.kind=.function)(hf:∀b∈fp,FpOk X qv H b)(hl:∀b∈fp,b<s.heap.objs.size){h':eF}{tk:Nat}{m:Str->Option aD}
  (hns:h'.Ns s.heap.objs.size m) (hk:∀b o,s.heap.get? b=ZY o->h'.get? b=ZY o):Inv (cxC X N scope fr fp s H) [] (pick src σ) H { s with heap:=h',toks:=tk } where
 ok:=a8u I C hkind hf hl
 os:=rfl
 bare:=I.bare
 base:=Un.kept hk
 loc:=by
  refine⟨m,hns,λi x v h1 h2 h3=>?_⟩
  obtain⟨j,hj,hv⟩:=aqb h2;obtain⟨hN,hm⟩:=aeq C.src h1 hj;obtain⟨mo,_,hlo⟩:=I.loc;have vis:Vis X.env.scope x:=by
   rcases C.out x hm with e |e
   ·exact .inr (.inl e)
   ·exact .inr (.inr e)
  obtain⟨u,r,l⟩:=hlo j x v hN hv vis;refine⟨u,r,.inr ⟨?_,?_⟩⟩
  ·rcases aam (env:=X.env) (C.frk x hm) with e |e
   ·exact .inr e
   ·exact .inl e
  ·rcases l with⟨e,_⟩ |⟨_,c,hc,z⟩
   ·rcases C.out x hm with q |q
    ·rw[q] at e;cases e
    ·rw[q] at e;cases e
   ·obtain⟨o,ho,hd⟩:=z;exact⟨c,aaa hm hc,o,hk c o ho,hd⟩
 cell:=λx c e=>by
  obtain⟨v,o,ho,hd⟩:=I.cell x c (ju e);exact⟨v,o,hk c o ho,hd⟩
 free:=I.hok.fresh (aM _)
 freeC:=λx c e=>I.freeC x c (ju e)
 pin:=λp hp=>absurd (show p∈([]:List (aU×Obj)) from hp) (by simp)
 hok:=I.hok.kept hk
 len:=by
  unfold pick;rw[aC];exact aep C.src
def aqs{pins':List (aU×Obj)}{σ':L2.St}{H':Hp}{s':aG}{h'':eF}(I:Inv X qv σ H s)(hf:∀b∈fp,FpOk X qv H b)(J:Inv (cxC X N scope fr fp s H) pins' σ' H' s')
  (hs:fX s.heap.objs.size s'.heap h''):Inv X qv σ H' { s' with heap:=h'' }:=by
 have k:∀b o,b≠s.heap.objs.size->s'.heap.get? b=ZY o->h''.get? b=ZY o:=λb o hb e=>(hs.2 b hb).trans e
 have old:∀b o,s.heap.get? b=ZY o->b≠s.heap.objs.size:=λb o e=>bH (aN e)
 have un:Un (frs X.stack) fp H H' s.heap h'':=by
  have u:Un (frs X.stack) fp H H' s.heap s'.heap:=J.base;refine⟨λb o e n hb hx=>k b o (old b o e) (u.keep b o e n hb hx),λb o e n hb hx=>?_,u.free,λb o e hx=>?_,u.tups,u.frzs,u.tbls⟩
  ·obtain⟨sl,q⟩:=u.slot b o e n hb hx;exact⟨sl,k b _ (old b o e) q⟩
  ·obtain⟨o',q⟩:=u.there b o e hx;exact⟨o',k b _ (old b o e) q⟩
 have hok:HOk X.prog X.w H' h'':=λb u e=>by
  have nC:∀c z,H' c=ZY z->c≠s.heap.objs.size:=λc z q w=>by
   have f:H' s.heap.objs.size=ZX:=J.free;rw[w,f] at q;cases q
  refine(J.hok b u e).stay (λc v hc q=>k c v ?_ q) (λ_ q=>q) λ_ _ q=>q
  rcases hc with z |z
  ·rw[z];exact nC b u e
  ·exact nC c _ z
 have os:s'.os=s.os:=J.os;refine Inv.call' (s':={ s' with heap:=h'' }) I os un hok J.bare λb hb=>?_
 obtain⟨_,f1,_,f3,f4,f5⟩:=hf b hb;exact⟨f3,f1,f4,f5⟩
end
def an8(ifs:List cZ)(env:Env):Sem Bool:=forIn ifs ZW λc r=>if r=ZW then do let ok <-isTrue c env (eval c env);pure (wC ok) else pure (wC r)
def PIf(X:Cx)(ifs:List cZ)(t:TT):Prop :=
 ∀(qv:List (aU×Obj)) (s:aG) (σ:L2.St) (H:Hp) (Q:Bool->Hp->Prop),Inv X qv σ H s->t σ H Q->bU (bZ X.prog X.w) X.A (an8 ifs X.env) (TP X qv σ Q) X.xe s
def tYes:TT:=λ_ H Q=>Q ZW H
def a1s{X:Cx}:PIf X [] tYes:=λqv s σ H Q I h=>by
 show bU _ _ (pure ZW) _ _ s;exact aR ⟨H,I,h⟩
def a1r{X:Cx}{c:cZ}{t:TT}(hc:PT X c t):PIf X [c] t:=λqv s σ H Q I h=>by
 unfold an8;rw[oE];rw[if_pos rfl];refine aA (aA (thn (hc qv s σ H _ I h) λb s1 q=>aR ?_))
 show bU _ _ (forIn [] b _) _ _ s1;exact aR q
section
variable{prog:cA}{w:dU}{A:cT}{R:Result->aG->Prop}{s:aG}
theorem compLoop{elt target iter:cZ}{ifs:List cZ}{scope:iZ}{pos:Pos}{it acc:aD}{env:Env}(I:Nat->aG->Prop)
  (turn:∀n s,I n s->bU (bZ prog w) A (pyNext it) (λr s₁=>match r with
   |none=>R (.ok .next) s₁
   |some v=>bU (bZ prog w) A (letOwnedTupleGo target it v) (λ_ s₁'=>bU (bZ prog w) A (mH target env v) (λ_ s₂=>
     bU (bZ prog w) A (an8 ifs env) (λok s₃=>
      if ok=ZW then bU (bZ prog w) A (eval elt env) (λx s₄=>
       bU (bZ prog w) A (call (.builtin "list.append") [acc,x]) (λ_ s₅=>∃m,m<n/\I m s₅) (λ_ _=>False) s₄) (λ_ _=>False) s₃
      else ∃m,m<n/\I m s₃) (λ_ _=>False) s₂) (λ_ _=>False) s₁') (λ_ _=>False) s₁) (λ_ _=>False) s)
  (n:Nat) (h:I n s) :
  oW (bZ prog w) A (.compLoop (.ListComp elt [⟨target,iter,ifs,0⟩] scope pos) 0 it acc env) R s:=by
 refine codeAny_loop rfl I (λn s hI=>?_) n h
 show bU _ A ((compTurn (.ListComp elt [⟨target,iter,ifs,0⟩] scope pos) 0 it acc env).onRaise (λx=>do noteFrame x env;theTreesLotGoes x)) _ _ s
 refine wpAny_noted ?_;rw[compTurn_list];refine aA (wpAny_standAt (aA (bI (turn n s hI) (λr s₁ h₁=>?_) λ_ _ h'=>h'.elim)))
 cases r with
 |none=>exact aR h₁
 |some v=>
  refine aA (bI h₁ (λ_ s₁' h₁'=>?_) λ_ _ h'=>h'.elim)
  refine aA (bI h₁' (λ_ s₂ h₂=>aA (bI h₂ (λok s₃ h₃=>?_) λ_ _ h'=>h'.elim)) λ_ _ h'=>h'.elim)
  cases ok with
  |false=>exact aR ⟨rfl,h₃⟩
  |true=>
   exact aA (aA (bI h₃ (λx s₄ h₄=>aA (bI h₄ (λ_ s₅ h₅=>aR (aR ⟨rfl,h₅⟩)) λ_ _ h'=>h'.elim)) λ_ _ h'=>h'.elim))
end
def a9c(J:It)(g:TG)(ti:TT)(te:TE)(Q:VK)(d:aU)(σ0:L2.St)(H1:Hp):Prop :=
 ∃W:Nat->Nat->List V->L2.St->Hp->Prop,(∃m,W 0 m [] σ0 (upd H1 d (.lst [])))/\∀i m ys σ H2,W i m ys σ H2->H2 d=ZY (.lst ys) /\
  ((J.stop i H2/\Q (.ref d) H2)∨(J.go i H2/\∀x H3,J.yld i H2 x H3->g x σ H3 λσ4 H4=>ti σ4 H4 λb H5=>
   if b=ZW then te σ4 H5 λy H6=>H6 d=ZY (.lst ys)/\ys.length<cF/\∃m',m'<m/\W (i+1) m' (ys++[y]) σ4 (upd H6 d (.lst (ys++[y]))) else ∃m',m'<m/\W (i+1) m' ys σ4 H5))
def atb(wi:TI)(g:TG)(ti:TT)(te:TE)(src:List (Option Nat)):TE:=λσ H Q=>wi σ H λJ H1=>∀d,H1 d=ZX->a9c J g ti te Q d (pick src σ) H1
def afj{X:Cx}{tg iter elt:cZ}{ifs:List cZ}{scope:iZ}{pos:Pos}{J:It}{fp:List aU}{it d:aU}{tn:Nat->eF->Prop}{g:TG}{ti:TT}{te:TE}{Q:VK}{R:Result->aG->Prop}
  {W:Nat->Nat->List V->L2.St->Hp->Prop} {m0:Nat} {σ0:L2.St} {H0:Hp} {s:aG} (hc:X.calm=ZW) (hE:X.xe=λ_ _=>False) (T:Turn X.prog X.w X.K tg J fp it tn)
  (hf:∀H':Hp,(∀b∈fp,H' b=ZX)->∀b∈fp,FpOk X [] H' b) (hg:PG X tg g) (ht:PIf X ifs ti) (he:PE X elt te)
  (turn:∀i m ys σ H2,W i m ys σ H2->H2 d=ZY (.lst ys) /\
   ((J.stop i H2/\Q (.ref d) H2)∨(J.go i H2/\∀x H3,J.yld i H2 x H3->g x σ H3 λσ4 H4=>ti σ4 H4 λb H5=>
    if b=ZW then te σ4 H5 λy H6=>H6 d=ZY (.lst ys)/\ys.length<cF/\∃m',m'<m/\W (i+1) m' (ys++[y]) σ4 (upd H6 d (.lst (ys++[y]))) else ∃m',m'<m/\W (i+1) m' ys σ4 H5)))
  (w0:W 0 m0 [] σ0 H0) (I0:Inv X [] σ0 H0 s) (st0:tn 0 s.heap) (fr0:∀b∈fp,H0 b=ZX)
  (hR:∀σ' H' s',Inv X [] σ' H' s'->Q (.ref d) H'->R (.ok .next) s') :
  oW (bZ X.prog X.w) X.A (.compLoop (.ListComp elt [⟨tg,iter,ifs,0⟩] scope pos) 0 (.ref it) (.ref d) X.env) R s:=by
 have hE':∀e s',X.xe e s'->False:=λe s' h=>by rw[hE] at h;exact h
 refine compLoop (λn s'=>∃i ys σ' H',Inv X [] σ' H' s'/\tn i s'.heap/\(∀b∈fp,H' b=ZX)/\W i n ys σ' H') ?_ m0 ⟨0,[],σ0,H0,I0,st0,fr0,w0⟩
 rintro n s5 ⟨i,ys,σ5,H5,I5,st5,fr5,w5⟩
 obtain⟨hD,alt⟩:=turn i n ys σ5 H5 w5;rcases alt with⟨stop,qn⟩ |⟨go,step⟩
 ·refine bI (T.done X rfl rfl rfl hc i [] s5 σ5 H5 (λ_ _=>False) I5 (hf _ fr5) st5 stop) (λr s6 ⟨hr,I6⟩=>?_) λ_ _ e=>e
  subst hr;exact hR σ5 H5 s6 I6 qn
 ·refine bI (T.item X rfl rfl rfl hc i [] s5 σ5 H5 (λ_ _=>False) I5 (hf _ fr5) st5 go) (λr s6 ⟨u,hr,h6⟩=>?_) λ_ _ e=>e
  subst hr;refine bI h6 (λ_ s7 ⟨x,H7,I7,r7,y7,st7,fr7⟩=>?_) λ_ _ e=>e
  have I7':=I7.pinned (hf _ fr7) (T.obj _ _ st7);have again:∀{σ':L2.St} {H':Hp} {s':aG} {ys':List V} {m':Nat},Inv X ([]++amj fp s7.heap) σ' H' s'->W (i+1) m' ys' σ' H'->∃i ys σ' H',Inv X [] σ' H' s'/\tn i s'.heap/\(∀b∈fp,H' b=ZX)/\W i m' ys σ' H':=λ{σ' H' s' ys' m'} Ia wa=>by
   refine⟨i+1,ys',σ',H',Ia.unpinned,T.keep _ _ _ st7 λb hb o e=>(Ia.pin (b,o) (cL _ (cL _ (adb hb e)))).1,λb hb=>?_,wa⟩
   obtain⟨o,e,d⟩:=T.obj _ _ st7 b hb;exact(Ia.pin (b,o) (cL _ (cL _ (adb hb e)))).2.1
  refine bI (hg _ s7 σ5 H7 x u _ I7' r7 (step x H7 y7)) (λ_ s8 ⟨σ8,H8,I8,q8⟩=>?_) hE'
  refine bI (ht _ s8 σ8 H8 _ I8 q8) (λok s9 ⟨H9,I9,q9⟩=>?_) hE'
  cases ok with
  |false=>
   rw[if_neg cY] at q9 ⊢
   obtain⟨m',hm,wa⟩:=q9;exact⟨m',hm,again I9 wa⟩
  |true=>
   rw[if_pos rfl] at q9 ⊢
   refine bI (he _ s9 σ8 H9 _ I9 q9) (λz s10 ⟨y,H10,I10,r10,hd10,hz,m',hm,wa⟩=>?_) hE'
   refine bI (u5 _ s10 σ8 H10 (.ref d) [y] (.ref d) [z] (λ_ H'=>H'=upd H10 d (.lst (ys++[y]))) I10 rfl (.cons r10 .nil) ⟨d,ys,y,rfl,rfl,hd10,hz,rfl⟩) (λ_ s11 ⟨_,H11,I11,_,e11⟩=>?_) hE'
   subst e11;exact⟨m',hm,again I11 wa⟩
def a2b{X:Cx}{tg iter elt:cZ}{ifs:List cZ}{scope:iZ}{pos:Pos}{wi:TI}{g:TG}{ti:TT}{te:TE}(fr N:List Str)(src:List (Option Nat))(hc:X.calm=ZW)(hi:PI X tg iter wi)
  (hg:∀fp s H,PG (cxC X N scope fr fp s H) tg g) (ht:∀fp s H,PIf (cxC X N scope fr fp s H) ifs ti) (he:∀fp s H,PE (cxC X N scope fr fp s H) elt te)
  (hok:akf X.env X.N scope fr N src=ZW:=by rfl) (hkind:scope.kind=.function:=by rfl) (hclos:lJ scope X.env=pure (ut X.env fr):=by rfl)
  (hs:∀x,eQ iter X.env x=pure x:=by intro _;rfl):PE X (.ListComp elt [⟨tg,iter,ifs,0⟩] scope pos) (atb wi g ti te src):=by
 have C:=CompOk.of hok;intro qv s σ H Q I h;rw[eval_ListComp];refine wpAny_comprehension_free (use:=ZX) rfl hs hclos hkind C.loc (bI (hi qv s σ H _ I h) (λv s1 h1=>bI h1 (λitv s2 h2=>?_) λ_ _ e=>e) λ_ _ e=>e)
 obtain⟨it,fp,tn,J,H2,e,I2,T,st2,f2,q2⟩:=h2;subst e;have hd0:H2 s2.heap.objs.size=ZX:=I2.hok.fresh (aM _);obtain⟨W,⟨m0,w0⟩,turn⟩:=q2 s2.heap.objs.size hd0;refine dH ?_;generalize hs3:({ s2 with heap:=s2.heap.push { cls:=.type "list", dict:=ZX,data:=.seq ([]:List aD).toArray } }:aG)=s3
 have keep2:∀b o,s2.heap.get? b=ZY o->s3.heap.get? b=ZY o:=λb o e=>by rw[<-hs3];exact aB _ e
 have I3:Inv X qv σ (upd H2 s2.heap.objs.size (.lst [])) s3:=by
  rw[<-hs3];exact I2.laid (t':=s2.toks) (λb u q=>aB _ q) (aM _) ⟨Nat.zero_le _,[],0,.nil,aW _ rfl⟩
 have ne0:∀b∈fp,b≠s2.heap.objs.size:=λb hb=>by
  obtain⟨o,e,_⟩:=T.obj _ _ st2 b hb;exact bH (aN e)
 have f3:∀b∈fp,FpOk X qv (upd H2 s2.heap.objs.size (.lst [])) b:=λb hb=>⟨by rw[cg (ne0 b hb)];exact(f2 b hb).1,(f2 b hb).2⟩
 have lt3:∀b∈fp,b<s3.heap.objs.size:=λb hb=>by
  obtain⟨o,e,_⟩:=T.obj _ _ st2 b hb;exact aN (keep2 b o e)
 refine wpAny_newFunctionEnv C.cell (by intro y hy;simp at hy) (λh₁ hns₁ hsb₁=>?_) hkind
 have keep3:∀b o,s3.heap.get? b=ZY o->h₁.get? b=ZY o:=λb o e=>hsb₁.extBut b o (bH (aN e)) (aB _ e)
 have st4:tn 0 h₁:=T.keep _ _ _ st2 λb hb o e=>keep3 b o (keep2 b o e)
 have I4:=aqr (tk:=s3.toks+([]:List (Str×Value)).length) I3 C hkind f3 lt3 hns₁ keep3;have loop:=afj (X:=cxC X N scope fr fp s3 (upd H2 s2.heap.objs.size (.lst []))) (iter:=iter) (scope:=scope) (pos:=pos) (d:=s2.heap.objs.size)
  (R:=compPost (bZ X.prog X.w) X.A X.xe ZX (EP X qv σ Q) (.ref s2.heap.objs.size) s3.heap.objs.size) hc rfl T
  (λH' hn b hb=>⟨hn b hb,bH (lt3 b hb),I4.ok.exfs b hb,.inl hb,(I4.ok.exf b hb).2,λp hp=>absurd (show p∈([]:List (aU×Obj)) from hp) (by simp)⟩)
  (hg fp s3 _) (ht fp s3 _) (he fp s3 _) turn w0 I4 st4 (λb hb=>(f3 b hb).1) (λσ' H' s' I6 qn=>by
   obtain⟨m6,hn6,_⟩:=I6.loc;exact⟨m6,hn6,λh'' hs''=>⟨.ref s2.heap.objs.size,H',aqs I3 f3 I6 hs'',rfl,qn⟩⟩)
 exact codeAny_compStart_list loop (T.self _ 0 _ _ _ st4 loop)
def Same.new{H:Hp}{p:aU}(h:H p=ZX)(o:HO):Same H (upd H p o):=λb u q=>by rw[cg (jf q h)];exact q
structure ItOf (J:It) (xs:List V) (S:Hp->Prop):Prop where
 go:∀i H,S H->i<xs.length->J.go i H
 yld:∀i H x H',S H->J.yld i H x H'->H'=H/\(i<xs.length->xs[i]? = ZY x)
 stop:∀i H,S H->xs.length<=i->J.stop i H
def ays{K:Fg9}{a:aU}{xs:List V}:ItOf (Itt K a) xs λH=>SqT K H a xs :=
 ⟨λi H h hi=>⟨xs,xs[i],h,by simp[hi]⟩,λi H x H' h y=>⟨y.1,λ_=>y.2 xs h⟩,λi H h hi=>⟨xs,h,hi⟩⟩
def aqn{K:Fg9}{a:aU}{xs:List V}:ItOf (Itl K a) xs λH=>SqL K H a xs :=
 ⟨λi H h hi=>⟨xs,xs[i],h,by simp[hi]⟩,λi H x H' h y=>⟨y.1,λ_=>y.2 xs h⟩,λi H h hi=>⟨xs,h,hi⟩⟩
def ups(lo:Int)(n:Nat):List V:=(aV n).map λi=>V.int (lo+(i:Nat))
def an6(lo:Int)(n:Nat):(ups lo n).length=n:=by simp[ups]
def a0x{lo:Int}{n i:Nat}(h:i<n):(ups lo n)[i]? = ZY (.int (lo+(i:Nat))):=by
 unfold ups;rw[aL,bV h];rfl
def aqm{lo:Int}{n:Nat}:ItOf (Itr lo n) (ups lo n) λ_=>True :=
 ⟨λi H _ hi=>by rw[an6] at hi;exact hi,λi H x H' _ y=>⟨y.1,λhi=>by rw[an6] at hi;rw[a0x hi,y.2]⟩,λi H _ hi=>by rw[an6] at hi;exact hi⟩
section
variable{X:Cx}
def rAll(K:Fg9):List V->Hp->VK->Prop:=λxs H Q=>∃(p:aU) (bs:List Bool),xs=[.ref p]/\SqL K H p (bs.map V.bl)/\Q (.bl (bs.all id)) H
def azc(hc:X.calm=ZW):afp X (.builtin "all") (rAll X.K):=by
 intro qv s σ H xs us Q I r h;obtain⟨p,bs,rfl,hq,q⟩:=h;obtain⟨u,rfl,ru⟩:=vals1 r;cases ru;obtain⟨its,rv,pl,hz⟩:=I.list hq;have hl:=pl.isList;have hlen:=rv.length;rw[aC] at hlen;have hlt:p<s.heap.objs.size:=by obtain⟨_,e,_⟩:=hl;exact aN e
 refine call_all_walk (wpAny_pyIter_list hl ?_);refine⟨s.heap.objs.size,[s.heap.objs.size,p],[s.heap.objs.size],its.toArray.size,_,_,λi=>(bs[i]?).getD ZW,rfl,Walks.list (A:=X.A.in1) (I.ok.hd hc) _ p (bH hlt) its.toArray,
  ⟨⟨_,aW _ rfl,rfl,rfl⟩,hl.push _⟩,λi v s' Q' E' hP hQ=>?_,λh' tk hk=>?_⟩
 ·have hi:its[i]? = ZY v:=by simpa using hP
  cases e:bs[i]? with
  |none=>
   have h1:bs.length<=i:=List.getElem?_eq_none_iff.mp e;have h2:i<its.length:=(aH.mp hi).1;omega
  |some b=>
   obtain⟨u,hu,ru⟩:=rv.get (i:=i) (x:=V.bl b) (by rw[aL,e];rfl)
   rw[hi] at hu;cases hu;obtain rfl:v=pL b:=ru;simp only[e,Option.getD_some] at hQ;exact wpAny_truthy_bool hQ
 ·have e:((aV its.toArray.size).all λi=>(bs[i]?).getD ZW)=bs.all id:=by
   rw[aP,<-hlen];exact LSm.range_all bs
  rw[e];exact⟨.bl (bs.all id),H,I.kept (t':=tk) (sY hk),rfl,q⟩
end
def Dfn(P:cA)(w:dU)(K:Fg9)(mg:Str->Option aD)(base:eF)(x:Str)(ps:List Str)(k:Nat)(sp:Sp):Prop :=
 ∃(f:aU) (fd:dR),FnOk P w K mg base CX0 k f fd ps sp/\mg x=ZY (.ref f)/\jW K (.ref f)=ZW/\Binds K fd ps []
section
variable{X:Cx}{x:Str}{ps:List Str}{k:Nat}{sp:Sp}{e:cZ}{es:List cZ}{t:TA}{p pos:Pos}
def a2a(F:Dfn X.prog X.w X.K X.mg X.base x ps k sp)(hr:Room k X.A)(hg:Gl X x)(ha:PA X (e::es) t)(hdb:Zb x:=by decide)
  (he:Zc X e es:=by rfl) (hpl:(fV pos (aO es X.env)).any (·.1)=ZV:=by rfl):PE X (.Call (.Name x p) (e::es) [] pos) (a05 sp [] E0 t):=by
 obtain⟨f,fd,F,hm,hk,hb⟩:=F;exact a2d F hr hg hm hk hb .nil a2g ha hdb he hpl
def axq{T:String}(hg:Gl X x)(hm:X.mg x=ZX)(hv:bY x=ZY (.type T))(hn:x ≠ "__name__" := by decide)(hd:Zb x:=by decide):PE X (.Name x pos) (tC (.ty T)) :=
 a2e hg hm hv rfl hn hd
end
section
variable{X:Cx}
end
section
variable{prog:cA}{w:dU}{A:cT}{E:aD->aG->Prop}{s:aG}
def azb{t b:aU}{vs ws:List aD}{Q:aD->aG->Prop}(ht:uD s.heap t vs.toArray)(hb:uD s.heap b ws.toArray)(hv:vs=[])(h:Q (.ref b) s):bU (bZ prog w) A (eY .Add (.ref t) (.ref b)) Q E s:=by
 obtain⟨⟨cls,dd,data,sl⟩,ho,hc,n,hd⟩:=id ht;obtain⟨⟨cls2,dd2,data2,sl2⟩,ho2,hc2,n2,hd2⟩:=id hb;simp only at hc hd hc2 hd2;subst hc hd hc2 hd2;exact concat_meets ⟨_,ho,rfl⟩ ⟨_,ho2,rfl⟩ noFill_tuple_add seq_tuple_add nO mZ (mL _ _)
  (tuple_addW0 t b vs.toArray ws.toArray n n2 dd dd2 sl sl2 (by simp[hv])) ⟨ho,ho2,h⟩
end
section
variable{X:Cx}
end
section
variable{X:Cx}
def a5a(x:Str)(n:Int):TE:=λ_ H Q=>∀p,H p=ZX->Q (.ref p) (upd H p (.dK [(lR x,.int n)]))
def axt{x:Str}{n:Int}{j1 j2:Nat}{p1 p2 pos:Pos}:PE X (.Dict [ZY (.Constant (.str x) j1 p1)] [.Constant (.int n) j2 p2] pos) (a5a x n):=by
 intro qv s σ H Q I q;have big:sysModules<s.heap.objs.size:=by
  have h:aX<s.heap.objs.size:=(I.mod.glob.keeps I.bk).lt;exact jL (by decide) h
 have hn:=I.hok.fresh (aM s.heap.objs.size);refine wpAny_Dict_walk (knd:=alg X.prog X.w) rfl rfl (by simp) (by show 1<=15;decide) ?_
 refine pairTrees_cons_walk (uN (wpAny_Constant_int (pairTrees_nil_walk ?_)));refine⟨[((lR x:Key),mK n (s.toks+1))],⟨ao2 X.prog X.w x s.toks,rfl,lK⟩,wB s.heap,λh' dd hs=>?_⟩
 refine⟨.ref s.heap.objs.size,upd H s.heap.objs.size (.dK [(lR x,.int n)]),?_,rfl,q _ hn⟩;refine I.laid (λb u e=>hs.extBut b u (bH (aN e)) (aB _ e)) (aM _) ?_
 exact⟨by show 1<=cF;decide,beq_eq_false_iff_ne.mpr (fO (bH big)),_,.cons ⟨rfl,_,rfl⟩ .nil,dd⟩
end
def abx:fillsNumberSlot (.type "tuple") "mul"=pure ZV :=
 PySem.fillsNumberSlot_seq (id := "tuple.__mul__") (r:=ZY (.builtin "tuple.__rmul__")) nJ.lookup (by decide +kernel) vA.lookup (by decide +kernel)
def agl:seqRepeat? (.type "tuple")=pure (ZY (.builtin "tuple.__mul__")):=by
 unfold seqRepeat?;rw[vG (T := "tuple") (name := "__mul__") (id := "tuple.__mul__") nJ.lookup (by decide +kernel),vG (T := "tuple") (name := "__rmul__") (id := "tuple.__rmul__") vA.lookup (by decide +kernel)]
 rfl
def adp(a:Int)(t:Tok)(l:aU)(items:Array aD)(n:Nat)(dd:Option aU)(sl:Array (Option aD)) :
  Meets (lC.«int.__rmul__» ⟨[.int a t,.ref l],[]⟩) (λ_ R s=>s.heap.get? l=ZY { cls:=.type "tuple", dict:=dd,data:=.seq items n,slots:=sl }/\R (.ok (.ret Value.notImplemented)) s) :=
 .of_wp λprog w A R s h=>by obtain⟨hp,g,d,tk,os⟩:=s;obtain⟨hl,h⟩:=h;wp_walk;exact⟨_,rfl,h⟩
def arj(l:aU)(items:Array aD)(n:Nat)(dd:Option aU)(sl:Array (Option aD))(x:Int)(u:Tok)(h0:items.isEmpty=ZV)(h2:2<=x)(h63:x<2 ^ 63)(hsz:items.size*x.toNat<=cF) :
  Meets (lC.«tuple.__mul__» ⟨[.ref l,.int x u],[]⟩) (λ_ R s=>s.heap.get? l=ZY { cls:=.type "tuple", dict:=dd,data:=.seq items n,slots:=sl } /\
   R (.ok (.ret (cH s.heap.objs.size))) { s with heap:=s.heap.push { cls:=mJ "tuple", data:=Data.seq (lL (λx1 x2=>x1++x2) #[] (aJ x.toNat items)) },toks:=s.toks }) :=
 .of_wp λprog w A R s h=>by
  obtain⟨hp,g,d,tk,os⟩:=s;obtain⟨hl,h⟩:=h;have c1:(decide (x < -2 ^ 63)||decide (x≥2 ^ 63))=ZV:=by
   rw[tR];exact⟨decide_eq_false (by omega),decide_eq_false (by omega)⟩
  have c2:(items.isEmpty||x==1)=ZV:=by
   rw[h0,Bool.false_or,beq_eq_false_iff_ne];omega
  have c3:(decide (x<=0)||items.isEmpty)=ZV:=by
   rw[h0,Bool.or_false];exact decide_eq_false (by omega)
  have e4:((items.size:Int)*x)=((items.size*x.toNat:Nat):Int):=by
   have:x=(x.toNat:Int):=by omega
   rw[vZ,<-this]
  have h4:(cF:Int)<=(2 ^ 63-1) / 8:=by decide
  have c4:¬((items.size:Int)*x > (2 ^ 63-1) / 8):=by rw[e4];omega
  have c5:rN ((items.size:Int)*x)=ZV:=by
   unfold rN;rw[e4];exact decide_eq_false (by omega)
  wp_walk;refine wpAny_ite_false (by rw[c1];rfl) ?_
  wp_walk;refine wpAny_ite_false (by rw[c2];rfl) ?_
  try dsimp only
  refine wpAny_ite_false (by rw[c3];rfl) ?_
  try dsimp only
  refine wpAny_ite_false (decide_eq_false c4) ?_
  try dsimp only
  refine wpAny_ite_false (by rw[c5];rfl) ?_
  have hso:sizeOk (.seq (lL (λx1 x2=>x1++x2) #[] (aJ x.toNat items))):=by
   show(lL (λx1 x2=>x1++x2) #[] (aJ x.toNat items)).size<=cF
   have hn:=foldl_rep items.toList x.toNat [];rw[bO] at hn;have hn':lL (λx1 x2=>x1++x2) #[] (aJ x.toNat items)=(aJ x.toNat items.toList).flatten.toArray:=hn
   rw[hn',aP,len_rep,iG,jK];exact hsz
  refine aA (m:=gY _) (dH (aR ⟨_,rfl,h⟩) hso)
def ark(l:aU)(items:Array aD)(n:Nat)(dd:Option aU)(sl:Array (Option aD))(x:Int)(u:Tok)(hx:x=1) :
  Meets (lC.«tuple.__mul__» ⟨[.ref l,.int x u],[]⟩) (λ_ R s=>s.heap.get? l=ZY { cls:=.type "tuple", dict:=dd,data:=.seq items n,slots:=sl }/\R (.ok (.ret (cH l))) s) :=
 .of_wp λprog w A R s h=>by
  obtain⟨hp,g,d,tk,os⟩:=s;obtain⟨hl,h⟩:=h;have c1:(decide (x < -2 ^ 63)||decide (x≥2 ^ 63))=ZV:=by
   rw[tR];exact⟨decide_eq_false (by omega),decide_eq_false (by omega)⟩
  have c2:(items.isEmpty||x==1)=ZW:=by rw[hx];simp
  wp_walk;exact⟨_,rfl,h⟩
section
variable{X:Cx}
def a2i:OpR X (eY .Mult) (λx y H Q=>∃a xs,x=.ref a/\y=.int 1/\H a=ZY (.tup xs)/\Q (.ref a) H):=by
 intro qv s σ H x y v u Q I rx ry h;obtain⟨a,xs,rfl,rfl,ha,q⟩:=h;cases rx;obtain⟨t,rfl⟩:=ry;obtain⟨its,r1,p1,_⟩:=I.tuple (SqT.of ha);obtain⟨⟨cls,dd,data,sl⟩,ho,hc,n,hd⟩:=id p1;simp only at hc hd;subst hc hd;exact wpAny_binaryOp_repeat_ref (T := "tuple") (U := "int") (by decide) ⟨_,ho,rfl⟩ (λs'=>typeIs_int s' 1 t) abx rF jU agl qO.lookup
  (jH jU (typeIs_int s 1 t) qP (pZ _ _) (adp 1 t a its.toArray n dd sl)
   ⟨ho,rfl,⟨_,ho,rfl⟩,jH nJ ⟨_,ho,rfl⟩ vC (uM _ _) (ark a its.toArray n dd sl 1 t rfl) ⟨ho,⟨.ref a,H,I,rfl,q⟩⟩⟩)
def a5p:R2:=λx y H Q=>∃a xs k,x=.ref a/\y=.int k/\H a=ZY (.tup xs)/\xs≠[]/\2<=k/\k<2 ^ 63/\xs.length*k.toNat<=cF/\∀p,H p=ZX->Q (.ref p) (upd H p (.tup (aJ k.toNat xs).flatten))
def ax1:OpR X (eY .Mult) a5p:=by
 intro qv s σ H x y v u Q I rx ry h;obtain⟨a,xs,k,rfl,rfl,ha,hx,h2,h63,hz,q⟩:=h;cases rx;obtain⟨t,rfl⟩:=ry;obtain⟨its,r1,p1,_⟩:=I.tuple (SqT.of ha);obtain⟨⟨cls,dd,data,sl⟩,ho,hc,n,hd⟩:=id p1;simp only at hc hd;subst hc hd;have hnew:lL (λx1 x2=>x1++x2) #[] (aJ k.toNat its.toArray)=(aJ k.toNat its).flatten.toArray:=by
  have:=foldl_rep its k.toNat [];rw[bO] at this;exact this
 refine wpAny_binaryOp_repeat_ref (T := "tuple") (U := "int") (by decide) ⟨_,ho,rfl⟩ (λs'=>typeIs_int s' k t) abx rF jU agl qO.lookup
  (jH jU (typeIs_int s k t) qP (pZ _ _) (adp k t a its.toArray n dd sl)
   ⟨ho,rfl,⟨_,ho,rfl⟩,jH nJ ⟨_,ho,rfl⟩ vC (uM _ _) (arj a its.toArray n dd sl k t ?_ h2 h63 ?_) ⟨ho,?_⟩⟩)
 ·cases its with
  |nil=>exact absurd (r1.nil_iff.mp rfl) hx
  |cons _ _=>rfl
 ·rw[aP,<-r1.length];exact hz
 ·rw[hnew];refine⟨.ref s.heap.objs.size,_,I.laid (t':=s.toks) (o:=.tup (aJ k.toNat xs).flatten) (λb ob q=>aB _ q) (aM _) ?_,rfl,q _ (I.hok.fresh (aM _))⟩
  exact⟨by rw[len_rep,jK];exact hz,_,r1.rep k.toNat,IsTp.new _ _⟩
end
section
variable{prog:cA}{w:dU}{A:cT}{E:aD->aG->Prop}{s:aG}
def aee{t sl:aU}{items:Array aD}{vl vu:aD}{lo hi:Option Int}{Q:aD->aG->Prop}(ht:uD s.heap t items)(hs:s.heap.IsSliceOf sl vl vu .none)(pl:qG vl lo)(pu:qG vu hi)
  (h1:HT.sIx items.size 0 lo=0) (h2:HT.sIx items.size items.size hi=items.size) (h:Q (.ref t) s):bU (bZ prog w) A (pJ (.ref t) (.ref sl)) Q E s:=by
 obtain⟨os,hos,hcs,hds⟩:=id hs;have hTs:s.TypeIs (.ref sl) "slice" := ⟨os,hos,hcs⟩;unfold pJ
 try with_reducible refine fP ?_
 first |refine aA (aR ?_) |skip
 refine aA (wpAny_sequenceKey ht.typeIs (by decide) ?_)
 refine aA (wpAny_callSpecial?_slot (name:=nQ "__getitem__") ht.typeIs eE
  (wpAny_call_entry eE ht.typeIs entry_tuple_getitem ?_ (args_tuple_getitem _ _)))
 show bU _ _ (rO (.ref t) >>= _) _ _ s;refine aA (tupleItemsOf_ ht ?_);refine aA (wpAny_typeOf hTs ?_);rw[if_pos (by decide)]
 refine aA (HT.abw hs pl pu ?_);have hyes:(((HT.sIx items.size 0 lo:Nat):Int)==0&&(1:Int)==1&&(HT.sIx items.size items.size hi-HT.sIx items.size 0 lo)==items.size)=ZW:=by
  rw[h1,h2];simp
 show bU _ _ (if (((HT.sIx items.size 0 lo:Nat):Int)==0&&(1:Int)==1&&(HT.sIx items.size items.size hi-HT.sIx items.size 0 lo)==items.size)=ZW then _ else _) _ _ s
 rw[if_pos hyes];refine aA (aA (wpAny_typeOf ht.typeIs (aR ?_)));rw[if_pos (by decide)]
 exact aA (wpAny_rule (aR ⟨_,rfl,aR h⟩))
end
section
variable{X:Cx}
end
section
variable{X:Cx}(K:Fg9)(hK:X.K=K)
include hK
variable{tg:cZ}
end
def kh:bY "len"=ZY (.builtin "len"):=by decide +kernel
def a0r:bY "all"=ZY (.builtin "all"):=by decide +kernel
def gf:bY "isinstance"=ZY (.builtin "isinstance"):=by decide +kernel
def a83:bY "max"=ZY (.builtin "max"):=by decide +kernel
def aq8:bY "min"=ZY (.builtin "min"):=by decide +kernel
def a82:bY "sum"=ZY (.builtin "sum"):=by decide +kernel
def anw:bY "sorted"=ZY (.builtin "sorted"):=by decide +kernel
def awq:bY "divmod"=ZY (.builtin "divmod"):=by decide +kernel
def a84:bY "abs"=ZY (.builtin "abs"):=by decide +kernel
def awp:bY "int"=ZY (.type "int"):=by decide +kernel
def a4c:bY "bool"=ZY (.type "bool"):=by decide +kernel
def yg:bY "tuple"=ZY (.type "tuple"):=by decide +kernel
def agf:bY "list"=ZY (.type "list"):=by decide +kernel
def anx:bY "enumerate"=ZY (.type "enumerate"):=by decide +kernel
structure ExcK (K:Fg9) (C:aU):Prop where
 ga:iV K (.ref C) "__getattribute__"=ZY (ZY (.builtin "BaseException.__getattribute__"))
 gh:iV K (.ref C) "__getattr__"=ZY ZX
 be:mU K C (.type "BaseException")=ZY ZW
 hd:gR K C=ZW
 cl:iV K (.ref C) "__class__"=ZY (ZY (.builtin "object.__class__"))
 sp:jY K (.builtin "object.__class__") "__get__"=ZY (ZY (.builtin "getset_descriptor.__get__"))
 tk:nR K (.builtin "object.__class__")=ZY ZW
 ob:mU K C (.type "object")=ZY ZW
 no:∀T∈["int","bool","tuple","list","str","dict"],fQ K (.ref C) (.type T)=ZY ZV
def apg{K:Fg9}{C:aU}{od:Option Obj}{name:Str}{a g:aD}(hc:(lH K C).isSome=ZW)(ha:iV K (.ref C) name=ZY (ZY a))(hg:jY K a "__get__"=ZY (ZY g))(ht:nR K a=ZY ZW):nU K C od name=ZY (.bind g a):=by
 obtain⟨cd,hc⟩:=sH.mp hc;unfold nU;rw[hc,jC,ha,jC];simp[hg,ht]
section
variable{prog:cA}{w:dU}{A:cT}{E:aD->aG->Prop}{s:aG}{K:Fg9}{x D:aU}{ox:Obj}{od:Option Obj}{name:Str}
def ay0{fill expr:Bool}{tk:Tok}{Q:aD->aG->Prop}(X:K.In s.heap)(I:kI s.heap x ox D od)(k:ExcK K D)
  (h:bU (bZ prog w) A.in1 (lC.«object.__getattribute__» ⟨[.ref x,.str name tk],[]⟩)
   (λfin s'=>match fin with |.done (.ret v)=>bU (bZ prog w) A (handedOut v) Q E s' |_=>False) (λ_ _=>False) s) :
  bU (bZ prog w) A (getAttrBy (.ref x) (.str name tk) fill expr) Q E s:=by
 obtain⟨hh,g,d,t,os⟩:=s;have L0:=I.type (M:=bZ prog w);have L1:=oM (M:=bZ prog w) X k.ga;have L2:=oM (M:=bZ prog w) X k.gh;have L3:mW (bZ prog w) hh (isInstance (.ref x) (.type "BaseException")) ZW:=L0.andThen (PySem.W.looks_mroIn X k.be);unfold getAttrBy;refine fP (aA (L0.at (aA (L1.at ?_))));have hx2:(mR "BaseException.__getattribute__" == mR "object.__getattribute__")=ZV:=by decide +kernel
 have hx1:(onTheHeap (cH D)&&mR "BaseException.__getattribute__" == mR "object.__getattribute__")=ZV:=by rw[hx2,Bool.and_false]
 simp only[hx1,jV,if_false];unfold getAttrByItsOwn hookBefore;rw[if_pos (show onTheHeap (cH D)=ZW from rfl)]
 refine aA ?_;refine L2.at (aA (wpAny_attempt (fP ?_)));have hx0:(expr&&onTheHeap (mR "BaseException.__getattribute__"))=ZV:=by cases expr <;> rfl
 unfold callGetattribute;rw[if_neg (by rw[hx0];exact cY)]
 unfold boundAndCalled;refine aA (wpAny_of_eq (sS.ga.bind (.ref x)) ?_);have hk1:builtinKind "BaseException.__getattribute__"=ZY .slot:=by decide +kernel
 have hs1:splitId "BaseException.__getattribute__"=ZY ("BaseException","__getattribute__"):=by decide +kernel
 have ha1:=PySem.F.args_bexc_ga (.ref x) (.str name tk);dsimp only[dG,bO];refine wpAny_call (codeAny_call_builtin (id := "BaseException.__getattribute__") (args:=⟨[.ref x,.str name tk],[]⟩) sS.ga.plain PySem.F.entry_bexc_ga ?_);refine PySem.W.check_slot (i := "BaseException.__getattribute__") (owner := "BaseException") (n := "__getattribute__") (self:=.ref x) (rest:=[.str name tk]) (kw:=[]) hk1 hs1 L3 ha1 ?_;refine bI h (λfin s' z=>?_) λ_ _ z=>z.elim
 rcases fin with(_ |_ |_ |_) |_ <;> first |exact z |exact z.elim
def ay1{g a:aD}{tk:Tok}{P:aD->aG->Prop}(X:K.In s.heap)(I:kI s.heap x ox D od)(hf:nU K D od name=ZY (.bind g a))
  (h:bU (bZ prog w) A (call g [a,.ref x,.ref D]) P E s) :
  bU (bZ prog w) A (lC.«object.__getattribute__» ⟨[.ref x,.str name tk],[]⟩) (λfin s'=>match fin with |.done (.ret v)=>P v s' |_=>False) E s:=by
 obtain⟨hh,gg,d,t,os⟩:=s;have L0:=I.type (M:=bZ prog w);have L1:=PySem.W.looks_find (M:=bZ prog w) X I hf;unfold lC.«object.__getattribute__»
 refine aA (aR (aA (aR (aA (L0.at (aA (L1.at ?_)))))));show bU _ _ (Builtin.ObjectAttr.bindTo g a (.ref x) (.ref D)) _ _ _;show bU _ _ (lN [a] (call g [a,.ref x,.ref D]) >>= ret) _ _ _;exact aA (fP (bI h (λv s' z=>aR z) λ_ _ z=>z))
end
def aql{K:Fg9}{x D:aU}(k:ExcK K D):PySem.W.KitX K (.ref x) (.ref D) (λh=>∃ox od,kI h x ox D od) where
 ty:=λ_ _ _ ⟨_,_,I⟩=>I.type
 it:=λ_ _ X _=>by
  obtain⟨cdD,hcD,_⟩:=lB k.hd;unfold lH at hcD;split at hcD
  ·rename_i c' d' cd' sl' ho;intro A' Q' E' s' k q;unfold isType loadHead;exact aA (wpAny_loadPart (k _ _ (X _ _ ho)) (aR q))
  ·cases hcD
 ne:=λh tp dd its n sl X htp=>by
  obtain⟨cdD,hcD,_⟩:=lB k.hd;refine Bool.eq_false_iff.mpr λq=>?_
  have e:D=tp:=wK (beq_iff_eq.mp q);subst e;unfold lH at hcD;split at hcD
  ·rename_i c' d' cd' sl' ho;have z:=(X _ _ ho).symm.trans htp;cases z
  ·cases hcD
 ca:=λ{prog w A E Q s} X ⟨ox,od,I⟩ q=>by
  have hf:nU K D od "__class__"=ZY (.bind (.builtin "getset_descriptor.__get__") (.builtin "object.__class__")):=apg (by obtain⟨cd,hc,_⟩:=lB k.hd;rw[hc];rfl) k.cl k.sp k.tk
  unfold getAttr? getAttrBy?;refine aA (wpAny_mkText (aA (wpAny_attempt (ay0 (s:={ s with toks:=s.toks+1 }) X I k (ay1 (s:={ s with toks:=s.toks+1 }) X I hf
   (wpAny_call (PySem.W.class_get (s:={ s with toks:=s.toks+1 }) (ox:=ox) (od:=od) X I k.ob (PySem.W.handed_on rfl (aR q)))))))))
end Mn
namespace Dn
open L2 Mn
inductive D where
 |non |bl (b:Bool) |int (i:Int) |str (x:Str) |tup (l:List D) |lst (l:List D) |kst (l:List D) |dct (kvs:List (Key×D)) |exn (c:Str) (fs:List (Str×Int)) |dtt (kvs:List (List Int×Int))
def exO(a C:aU)(dx:Option aU):eF->Prop:=λh=>∃oe vs,h.get? a=ZY oe/\oe.cls=.ref C/\oe.dict=dx/\oe.data=.fields vs
section
variable(K:Fg9)(F:Hp)
mutual
inductive Is:D->V->Prop
 |non:Is .non .non
 |bl (b:Bool):Is (.bl b) (.bl b)
 |int (i:Int):Is (.int i) (.int i)
 |str (x:Str):Is (.str x) (.str x)
 |tup {a:aU} {vs:List V} {ds:List D} (e:F a=ZY (.tup vs)) (h:IsL ds vs):Is (.tup ds) (.ref a)
 |lst {a:aU} {vs:List V} {ds:List D} (e:F a=ZY (.lst vs)) (h:IsL ds vs):Is (.lst ds) (.ref a)
 |kst {a:aU} {vs:List V} {ds:List D} (e:SqL K F a vs) (h:IsL ds vs):Is (.kst ds) (.ref a)
 |dct {a:aU} {kvs:List (Key×V)} {ds:List (Key×D)} (e:F a=ZY (.dK kvs)) (h:IsK ds kvs):Is (.dct ds) (.ref a)
 |exn {a C:aU} {c:Str} {dx:Option aU} {fs:List (Str×Int)} (e:F a=ZY (.ext (exO a C dx))) (hc:nsIn K aX c=ZY (ZY (.ref C))) (hk:ExcK K C)
   (hf:(dx=ZX/\fs=[])∨∃d,dx=ZY d/\F d=ZY (.xd (fs.map λp=>(p.1,V.int p.2)))):Is (.exn c fs) (.ref a)
 |dtt {a:aU} {ds:List (List Int×Int)} (e:F a=ZY (.dT (ds.map λp=>(p.1.map pM,V.int p.2)))):Is (.dtt ds) (.ref a)
inductive IsL:List D->List V->Prop
 |nil:IsL [] []
 |cons {d:D} {v:V} {ds:List D} {vs:List V} (h:Is d v) (t:IsL ds vs):IsL (d::ds) (v::vs)
inductive IsK:List (Key×D)->List (Key×V)->Prop
 |nil:IsK [] []
 |cons {k:Key} {d:D} {v:V} {ds:List (Key×D)} {vs:List (Key×V)} (h:Is d v) (t:IsK ds vs):IsK ((k,d)::ds) ((k,v)::vs)
end
end
section
variable{K:Fg9}{F F':Hp}
mutual
theorem Is.mono(g:Same F F'):∀{d:D} {v:V},Is K F d v->Is K F' d v
 |_,_,.non=>.non
 |_,_,.bl b=>.bl b
 |_,_,.int i=>.int i
 |_,_,.str x=>.str x
 |_,_,.tup e h=>.tup (g _ _ e) (IsL.mono g h)
 |_,_,.lst e h=>.lst (g _ _ e) (IsL.mono g h)
 |_,_,.kst e h=>.kst (L2.Same.seq g e) (IsL.mono g h)
 |_,_,.dct e h=>.dct (g _ _ e) (IsK.mono g h)
 |_,_,.exn e hc hk hf=>.exn (g _ _ e) hc hk (hf.imp id λ⟨d,h1,h2⟩=>⟨d,h1,g _ _ h2⟩)
 |_,_,.dtt e=>.dtt (g _ _ e)
theorem IsL.mono(g:Same F F'):∀{ds:List D} {vs:List V},IsL K F ds vs->IsL K F' ds vs
 |_,_,.nil=>.nil
 |_,_,.cons h t=>.cons (Is.mono g h) (IsL.mono g t)
theorem IsK.mono(g:Same F F'):∀{ds:List (Key×D)} {vs:List (Key×V)},IsK K F ds vs->IsK K F' ds vs
 |_,_,.nil=>.nil
 |_,_,.cons h t=>.cons (Is.mono g h) (IsK.mono g t)
end
theorem IsL.length:∀{ds:List D} {vs:List V},IsL K F ds vs->ds.length=vs.length
 |_,_,.nil=>rfl
 |_,_,.cons _ t=>by simp[IsL.length t]
theorem IsL.append:∀{ds es:List D} {vs ws:List V},IsL K F ds vs->IsL K F es ws->IsL K F (ds++es) (vs++ws)
 |_,_,_,_,.nil,h=>h
 |_,_,_,_,.cons h t,k=>.cons h (IsL.append t k)
theorem IsL.take:∀{ds:List D} {vs:List V} (n:Nat),IsL K F ds vs->IsL K F (ds.take n) (vs.take n)
 |_,_,0,_=>by simpa using IsL.nil
 |_,_,_+1,.nil=>.nil
 |_,_,n+1,.cons h t=>.cons h (IsL.take n t)
theorem IsL.drop:∀{ds:List D} {vs:List V} (n:Nat),IsL K F ds vs->IsL K F (ds.drop n) (vs.drop n)
 |_,_,0,h=>h
 |_,_,_+1,.nil=>.nil
 |_,_,n+1,.cons _ t=>IsL.drop n t
theorem IsL.get:∀{ds:List D} {vs:List V} {i:Nat} {d:D},IsL K F ds vs->ds[i]? = ZY d->∃v,vs[i]? = ZY v/\Is K F d v
 |_,_,_,_,.nil,e=>by simp at e
 |_,_,0,_,.cons h _,e=>by simp at e;subst e;exact⟨_,rfl,h⟩
 |_,_,i+1,v,.cons _ t,e=>by
  obtain⟨d,h1,h2⟩:=IsL.get (i:=i) (d:=v) t (by simpa using e)
  exact⟨d,by simpa using h1,h2⟩
theorem IsL.set{d:D}{v:V}(h:Is K F d v):∀{ds:List D} {vs:List V} (i:Nat),IsL K F ds vs->IsL K F (ds.set i d) (vs.set i v)
 |_,_,_,.nil=>.nil
 |_,_,0,.cons _ t=>.cons h t
 |_,_,i+1,.cons q t=>.cons q (IsL.set h i t)
theorem IsL.rep{ds:List D}{vs:List V}(h:IsL K F ds vs):∀k:Nat,IsL K F (aJ k ds).flatten (aJ k vs).flatten
 | 0=>by simpa using IsL.nil
 |k+1=>by
  rw[gD,gD,iU,iU];exact h.append (IsL.rep h k)
theorem IsL.int_inv{ns:List Int}:∀{vs:List V},IsL K F (ns.map D.int) vs->vs=ns.map V.int:=by
 induction ns with
 |nil=>
  intro _ h;cases h;rfl
 |cons n r ih=>
  intro _ h;cases h with
  |cons h t=>
   cases h;rw[ih t];rfl
theorem IsL.bl_inv{ns:List Bool}:∀{vs:List V},IsL K F (ns.map D.bl) vs->vs=ns.map V.bl:=by
 induction ns with
 |nil=>
  intro _ h;cases h;rfl
 |cons n r ih=>
  intro _ h;cases h with
  |cons h t=>
   cases h;rw[ih t];rfl
theorem ae5:∀ns:List Int,IsL K F (ns.map D.int) (ns.map V.int)
 | []=>.nil
 |n::r=>.cons (.int n) (ae5 r)
end
inductive Sl where
 |emp |val (d:D) |own (t:Option Nat) (l:List D) |box (c:Str) (fs:List (Str×(Nat ⊕ D))) |lol (ts:List Nat) |lnk (k:Nat)
abbrev Ro:=List Sl
def Owns(ρ:Ro)(σ:L2.St)(i:Nat)(a:aU):Prop:=(∃t l,ρ[i]? = ZY (.own t l))/\σ[i]? = ZY (ZY (.ref a))
def Own(ρ:Ro)(σ:L2.St)(a:aU):Prop:=∃i,Owns ρ σ i a
def SlOk(K:Fg9)(tg:Nat->aU)(F H:Hp):Sl->Option V->Prop
 |.emp,_=>True
 |.val d,o=>∃v,o=ZY v/\Is K F d v
 |.own t l,o=>∃a vs,o=ZY (.ref a)/\F a=ZX/\H a=ZY (.lst vs)/\IsL K F l vs/\∀k,t=ZY k->tg k=a
 |.box c fs,o=>∃a C dx fvs,o=ZY (.ref a)/\F a=ZX/\H a=ZY (.ins C dx fvs)/\nsIn K aX c=ZY (ZY (.ref C))/\(∀f,fs.lookup f=ZX->fvs.lookup f=ZX)/\(∀f k,fs.lookup f=ZY (.inl k)->fvs.lookup f=ZY (.ref (tg k)))/\∀f d,fs.lookup f=ZY (.inr d)->∃v,fvs.lookup f=ZY v/\Is K F d v
 |.lol ts,o=>∃a,o=ZY (.ref a)/\F a=ZY (.lst (ts.map λk=>V.ref (tg k)))
 |.lnk k,o=>o=ZY (.ref (tg k))
structure Good (K:Fg9) (tg:Nat->aU) (F H:Hp) (ρ:Ro) (σ:L2.St):Prop where
 sub:Same F H
 len:ρ.length=σ.length
 sl:∀(i:Nat) (s:Sl) (o:Option V),ρ[i]? = ZY s->σ[i]? = ZY o->SlOk K tg F H s o
 inj:∀(i j:Nat) (a:aU),Owns ρ σ i a->Owns ρ σ j a->i=j
structure Ext (O O':aU->Prop) (F H F' H':Hp):Prop where
 sub:Same F F'
 new:∀a o,F' a=ZY o->F a=ZY o∨H a=ZX∨O a
 keep:∀a o,H a=ZY o->¬O a->H' a=ZY o
 own:∀a,O' a->O a∨H a=ZX
 there:∀a,H' a=ZX->H a=ZX
def Ext.refl(O:aU->Prop)(F H:Hp):Ext O O F H F H:=⟨λ_ _ e=>e,λ_ _ e=>.inl e,λ_ _ e _=>e,λ_ h=>.inl h,λ_ h=>h⟩
def Ext.trans{O O1 O2:aU->Prop}{F H F1 H1 F2 H2:Hp}(a:Ext O O1 F H F1 H1)(b:Ext O1 O2 F1 H1 F2 H2):Ext O O2 F H F2 H2 where
 sub:=a.sub.trans b.sub
 new:=λc o e=>by
  rcases b.new c o e with q |q |q
  ·exact a.new c o q
  ·exact .inr (.inl (a.there c q))
  ·rcases a.own c q with z |z
   ·exact .inr (.inr z)
   ·exact .inr (.inl z)
 keep:=λc o e n=>b.keep c o (a.keep c o e n) λz=>by
  rcases a.own c z with q |q
  ·exact n q
  ·rw[e] at q;cases q
 own:=λc z=>by
  rcases b.own c z with q |q
  ·exact a.own c q
  ·exact .inr (a.there c q)
 there:=λc z=>a.there c (b.there c z)
section
variable{K:Fg9}{tg:Nat->aU}{F H F' H':Hp}{ρ ρ':Ro}{σ:L2.St}
def Good.ownAt(G:Good K tg F H ρ σ){a:aU}(h:Own ρ σ a):F a=ZX/\∃vs,H a=ZY (.lst vs):=by
 obtain⟨i,⟨t,l,e⟩,q⟩:=h;obtain⟨b,vs,e1,f,e2,_⟩:=G.sl i _ _ e q;cases e1;exact⟨f,vs,e2⟩
def Good.grow(G:Good K tg F H ρ σ)(s:Same F F')(s':Same F' H')(k:∀a,Own ρ σ a->F' a=ZX/\H' a=H a)(kb:∀a C dx fvs,F a=ZX->H a=ZY (.ins C dx fvs)->F' a=ZX/\H' a=H a):Good K tg F' H' ρ σ where
 sub:=s'
 len:=G.len
 inj:=G.inj
 sl:=λi sl o e q=>by
  have z:=G.sl i sl o e q;cases sl with
  |emp=>trivial
  |val d=>
   obtain⟨v,e1,h⟩:=z;exact⟨v,e1,h.mono s⟩
  |lol ts=>
   obtain⟨a,e1,e2⟩:=z;exact⟨a,e1,s _ _ e2⟩
  |lnk k=>exact z
  |box c fs=>
   obtain⟨a,C,dx,fvs,e1,e2,e3,e4,e7,e5,e6⟩:=z;obtain⟨f1,f2⟩:=kb a C dx fvs e2 e3;exact⟨a,C,dx,fvs,e1,f1,f2.trans e3,e4,e7,e5,λf d h=>(e6 f d h).imp λv h=>⟨h.1,h.2.mono s⟩⟩
  |own t l=>
   obtain⟨a,vs,e1,f,e2,h,ht⟩:=z;have w:=k a ⟨i,⟨t,l,e⟩,by rw[q,e1]⟩
   exact⟨a,vs,e1,w.1,by rw[w.2];exact e2,h.mono s,ht⟩
def Same.put{p:aU}(s:Same F H)(h:H p=ZX)(o:HO):Same (upd F p o) (upd H p o):=λb u e=>by
 by_cases hb:b=p
 ·subst hb;rw[f9] at e ⊢
  exact e
 ·rw[cg hb] at e ⊢
  exact s b u e
theorem Good.freeF(G:Good K tg F H ρ σ){p:aU}(h:H p=ZX):F p=ZX:=by
 cases e:F p with
 |none=>rfl
 |some o=>rw[G.sub p o e] at h;cases h
def Good.own_ne(G:Good K tg F H ρ σ){p a:aU}(h:H p=ZX)(w:Own ρ σ a):a≠p:=by
 obtain⟨_,vs,e⟩:=G.ownAt w;exact jf e h
def Good.new(G:Good K tg F H ρ σ){p:aU}(h:H p=ZX)(o:HO):Good K tg (upd F p o) (upd H p o) ρ σ :=
 G.grow (Same.new (G.freeF h) o) (Same.put G.sub h o) (λa w=>by
  rw[cg (G.own_ne h w),cg (G.own_ne h w)];exact⟨(G.ownAt w).1,rfl⟩) λa C dx fvs h1 h2=>by
  rw[cg (jf h2 h),cg (jf h2 h)];exact⟨h1,rfl⟩
def Good.newX(G:Good K tg F H ρ σ){p:aU}(h:H p=ZX)(o:HO):Ext (Own ρ σ) (Own ρ σ) F H (upd F p o) (upd H p o) where
 sub:=Same.new (G.freeF h) o
 new:=λa u e=>by
  by_cases ha:a=p
  ·subst ha;exact .inr (.inl h)
  ·rw[cg ha] at e;exact .inl e
 keep:=λa u e _=>by rw[cg (jf e h)];exact e
 own:=λa w=>.inl w
 there:=λa e=>by
  by_cases ha:a=p
  ·subst ha;exact h
  ·rw[cg ha] at e;exact e
def Good.fresh(G:Good K tg F H ρ σ){p:aU}(h:H p=ZX)(o:HO):Good K tg F (upd H p o) ρ σ :=
 G.grow (Same.refl F) (λb u e=>by rw[cg (jf (G.sub b u e) h)];exact G.sub b u e) (λa w=>by
  rw[cg (G.own_ne h w)];exact⟨(G.ownAt w).1,rfl⟩) λa C dx fvs h1 h2=>⟨h1,cg (jf h2 h)⟩
def Good.freshX(G:Good K tg F H ρ σ){p:aU}(h:H p=ZX)(o:HO):Ext (Own ρ σ) (Own ρ σ) F H F (upd H p o) where
 sub:=Same.refl F
 new:=λa u e=>.inl e
 keep:=λa u e _=>by rw[cg (jf e h)];exact e
 own:=λa w=>.inl w
 there:=λa e=>by
  by_cases ha:a=p
  ·subst ha;exact h
  ·rw[cg ha] at e;exact e
def Good.freeze(G:Good K tg F H ρ σ){p:aU}{o:HO}(h:H p=ZY o)(n:¬Own ρ σ p)(hf:F p=ZX)(hi:∀C dx fs,o≠.ins C dx fs:=by intro _ _ _ z;cases z):Good K tg (upd F p o) H ρ σ :=
 G.grow (Same.new hf o) (λb u e=>by
  by_cases hb:b=p
  ·subst hb;rw[f9] at e;cases e;exact h
  ·rw[cg hb] at e;exact G.sub b u e) (λa w=>by
  have:a≠p:=λz=>n (z▸w)
  rw[cg this];exact⟨(G.ownAt w).1,rfl⟩) λa C dx fvs h1 h2=>by
  have:a≠p:=λz=>by
   subst z;rw[h] at h2;exact hi _ _ _ (bL h2)
  rw[cg this];exact⟨h1,rfl⟩
end
end Dn
namespace Dn
open L2 Mn
structure Exn where
 cls:Str
 fs:List (Str×Int)
inductive Out (α:Type) where
 |ok (a:α) |exc (x:Exn)
abbrev M(α:Type):=Ro->Option (Out α×Ro)
noncomputable def M.bind{α β:Type}(m:M α)(k:α->M β):M β:=λρ=>match m ρ with
 |some (.ok a,ρ1)=>k a ρ1
 |some (.exc x,ρ1)=>ZY (.exc x,ρ1)
 |none=>ZX
noncomputable def ret{α:Type}(a:α):M α:=λρ=>ZY (.ok a,ρ)
noncomputable def lift{α:Type}(o:Option α):M α:=λρ=>match o with
 |some a=>ZY (.ok a,ρ)
 |none=>ZX
section
variable{α β:Type}
def bw{m:M α}{k:α->M β}{ρ ρ2:Ro}{b:β}(h:m.bind k ρ=ZY (.ok b,ρ2)):∃a ρ1,m ρ=ZY (.ok a,ρ1)/\k a ρ1=ZY (.ok b,ρ2):=by
 unfold M.bind at h;split at h
 ·exact⟨_,_,by assumption,h⟩
 ·cases h
 ·cases h
def jb{o:Option α}{ρ ρ2:Ro}{b:α}(h:lift o ρ=ZY (.ok b,ρ2)):o=ZY b/\ρ2=ρ:=by
 unfold lift at h;split at h
 ·cases h;exact⟨rfl,rfl⟩
 ·cases h
def j0{a b:α}{ρ ρ2:Ro}(h:ret a ρ=ZY (.ok b,ρ2)):a=b/\ρ2=ρ:=by
 unfold ret at h;cases h;exact⟨rfl,rfl⟩
@[simp] theorem a9e(a:α)(k:α->M β):(ret a).bind k=k a:=rfl
@[simp] theorem a7o(a:α):lift (ZY a)=ret a:=rfl
end
inductive Rv where
 |v (d:D) |fr (l:List D)
 |tf (d:D) (l:List D)
abbrev Rel(α:Type):=α->V->(H:Hp)->(O:aU->Prop)->(F' H':Hp)->(O':aU->Prop)->Prop
def relD(K:Fg9):Rel D:=λd v _ _ F' _ _=>Is K F' d v
def Bor(K:Fg9)(F H:Hp)(d:D)(v:V):Prop:=Is K F d v∨∃a vs l,d=.lst l/\v=.ref a/\H a=ZY (.lst vs)/\IsL K F l vs
def relB(K:Fg9):Rel D:=λd v _ _ F' H' _=>Bor K F' H' d v
def relR(K:Fg9):Rel Rv:=λr v H O F' H' O'=>match r with
 |.v d=>Is K F' d v
 |.fr l=>∃a vs,v=.ref a/\(H a=ZX∨O a)/\F' a=ZX/\H' a=ZY (.lst vs)/\IsL K F' l vs/\¬O' a
 |.tf d l=>∃t u a vs,v=.ref t/\F' t=ZY (.tup [u,.ref a])/\Is K F' d u/\(H a=ZX∨O a)/\F' a=ZX/\H' a=ZY (.lst vs)/\IsL K F' l vs/\¬O' a
def T{α:Type}(K:Fg9)(rel:Rel α)(m:M α):TE:=λσ H Q=>∃tg F ρ a ρ',Good K tg F H ρ σ/\m ρ=ZY (.ok a,ρ') /\
 ∀v H' F',Good K tg F' H' ρ' σ->Ext (Own ρ σ) (Own ρ' σ) F H F' H'->rel a v H (Own ρ σ) F' H' (Own ρ' σ)->Q v H'
structure EV (K:Fg9) (X:Cx) (e:cZ) (m:M D):Prop where
 go:X.K=K->PE X e (T K (relD K) m)
instance {K:Fg9} {X:Cx} {e:cZ} {m:M D}:CoeFun (EV K X e m) λ_=>X.K=K->PE X e (T K (relD K) m):=⟨EV.go⟩
structure EB (K:Fg9) (X:Cx) (e:cZ) (m:M D):Prop where
 go:X.K=K->PE X e (T K (relB K) m)
instance {K:Fg9} {X:Cx} {e:cZ} {m:M D}:CoeFun (EB K X e m) λ_=>X.K=K->PE X e (T K (relB K) m):=⟨EB.go⟩
structure ER (K:Fg9) (X:Cx) (e:cZ) (m:M Rv):Prop where
 go:X.K=K->PE X e (T K (relR K) m)
instance {K:Fg9} {X:Cx} {e:cZ} {m:M Rv}:CoeFun (ER K X e m) λ_=>X.K=K->PE X e (T K (relR K) m):=⟨ER.go⟩
def PE.imp{X:Cx}{e:cZ}{t t':TE}(h:PE X e t)(w:∀σ H Q,t' σ H Q->t σ H Q):PE X e t':=λqv s σ H Q I q=>h qv s σ H Q I (w σ H Q q)
section
variable{K:Fg9}{X:Cx}{e a b:cZ}{pos:Pos}
def EV.toB{m:M D}(h:EV K X e m):EB K X e m:=EB.mk λhk=>PE.imp (h hk) λσ H Q ⟨tg,F,ρ,d,ρ',G,em,q⟩=>⟨tg,F,ρ,d,ρ',G,em,λv H' F' G' x r=>q v H' F' G' x (.inl r)⟩
def M.v(m:M D):M Rv:=m.bind λd=>ret (.v d)
def EV.toR{m:M D}(h:EV K X e m):ER K X e m.v:=ER.mk λhk=>PE.imp (h hk) λσ H Q z9=>by
 obtain⟨tg,F,ρ,r,ρ',G,em,q⟩:=z9;obtain⟨d,ρ1,e1,e2⟩:=bw em;obtain⟨rfl,rfl⟩:=j0 e2;exact⟨tg,F,ρ,d,_,G,e1,λv H' F' G' x r=>q v H' F' G' x r⟩
def Rv.d:Rv->D
 |.v d=>d
 |.fr l=>.lst l
 |.tf d l=>.tup [d,.lst l]
def M.d(m:M Rv):M D:=m.bind λr=>ret r.d
theorem frz{tg:Nat->aU}{O:aU->Prop}{F H F' H':Hp}{ρ':Ro}{σ':L2.St}{r:Rv}{v:V}(G:Good K tg F' H' ρ' σ')(x:Ext O (Own ρ' σ') F H F' H')(h:relR K r v H O F' H' (Own ρ' σ')) :
  ∃F2,Good K tg F2 H' ρ' σ'/\Ext O (Own ρ' σ') F H F2 H'/\Is K F2 r.d v:=by
 cases r with
 |v d=>exact⟨F',G,x,h⟩
 |fr l=>
  obtain⟨a,vs,rfl,ha,hf,hh,hl,hn⟩:=h;refine⟨upd F' a (.lst vs),G.freeze hh hn hf,⟨x.sub.trans (Same.new hf _),λb o e=>?_,x.keep,x.own,x.there⟩,.lst f9 (hl.mono (Same.new hf _))⟩
  by_cases hb:b=a
  ·subst hb;exact .inr ha
  ·rw[cg hb] at e;exact x.new b o e
 |tf d l=>
  obtain⟨t,u,a,vs,rfl,ht,hd,ha,hf,hh,hl,hn⟩:=h;have hta:t≠a:=λz=>by rw[z,hf] at ht;cases ht
  refine⟨upd F' a (.lst vs),G.freeze hh hn hf,⟨x.sub.trans (Same.new hf _),λb o e=>?_,x.keep,x.own,x.there⟩,.tup (by rw[cg hta];exact ht) (.cons (hd.mono (Same.new hf _)) (.cons (.lst f9 (hl.mono (Same.new hf _))) .nil))⟩
  by_cases hb:b=a
  ·subst hb;exact .inr ha
  ·rw[cg hb] at e;exact x.new b o e
def ER.toD{m:M Rv}(h:ER K X e m):EV K X e m.d:=EV.mk λhk=>PE.imp (h hk) λσ H Q z9=>by
 obtain⟨tg,F,ρ,d,ρ',G,em,q⟩:=z9;obtain⟨r,ρ1,e1,e2⟩:=bw em;obtain⟨rfl,rfl⟩:=j0 e2;refine⟨tg,F,ρ,r,_,G,e1,λv H' F' G' x w=>?_⟩
 obtain⟨F2,G2,x2,i2⟩:=frz G' x w;exact q v H' F2 G2 x2 i2
noncomputable def dz(i:Nat):M D:=λρ=>match ρ[i]? with
 |some (.val d)=>ZY (.ok d,ρ)
 |some (.own _ l)=>ZY (.ok (.lst l),ρ)
 |_=>ZX
def Good.at{tg:Nat->aU}{F H:Hp}{ρ:Ro}{σ:L2.St}(G:Good K tg F H ρ σ){i:Nat}{s:Sl}(e:ρ[i]? = ZY s):∃o,σ[i]? = ZY o/\SlOk K tg F H s o:=by
 have hi:i < σ.length:=by rw[<-G.len];exact(aH.mp e).1
 exact⟨σ[i],aF hi,G.sl i s _ e (aF hi)⟩
def tu{tg:Nat->aU}{F H:Hp}{ρ ρ':Ro}{σ:L2.St}(G:Good K tg F H ρ σ){i:Nat}{d:D}(em:dz i ρ=ZY (.ok d,ρ')):ρ'=ρ/\∃v,σ[i]? = ZY (ZY v)/\Bor K F H d v:=by
 unfold dz at em;split at em
 ·rename_i d' e';cases em;obtain⟨o,ho,v,rfl,hv⟩:=G.at e';exact⟨rfl,v,ho,.inl hv⟩
 ·rename_i t l e';cases em;obtain⟨o,ho,a,vs,rfl,hf,hh,hl,_⟩:=G.at e';exact⟨rfl,_,ho,.inr ⟨a,vs,l,rfl,rfl,hh,hl⟩⟩
 ·cases em
def du{i:Nat}(h:PE X e (tVar i)):EB K X e (dz i):=EB.mk λ_=>PE.imp h λσ H Q z9=>by
 obtain⟨tg,F,ρ,d,ρ',G,em,q⟩:=z9;obtain⟨rfl,v,ho,hv⟩:=tu G em;exact⟨v,ho,q v H F G (Ext.refl _ _ _) hv⟩
def ah2(i:Nat):M Rv:=λρ=>match ρ[i]? with
 |some (.val d)=>ZY (.ok (.v d),ρ)
 |some (.own ZX l)=>ZY (.ok (.fr l),ρ.set i .emp)
 |_=>ZX
def Good.drop{tg:Nat->aU}{F H:Hp}{ρ:Ro}{σ:L2.St}(G:Good K tg F H ρ σ)(i:Nat):Good K tg F H (ρ.set i .emp) σ:=by
 have sub:∀j t l,(bC ρ i Sl.emp)[j]? = ZY (Sl.own t l)->(ρ:List Sl)[j]? = ZY (Sl.own t l):=λj t l e=>by
  rw[aY] at e;split at e
  ·split at e <;> cases e
  ·exact e
 refine⟨G.sub,by rw[cJ];exact G.len,λj s o e q=>?_,λj k a ⟨⟨t,l,e⟩,q⟩ ⟨⟨t',l',e'⟩,q'⟩=>G.inj j k a ⟨⟨t,l,sub _ _ _ e⟩,q⟩ ⟨⟨t',l',sub _ _ _ e'⟩,q'⟩⟩
 rw[aY] at e;split at e
 ·split at e
  ·cases e;trivial
  ·cases e
 ·exact G.sl j s o e q
def aex{ρ:Ro}{σ:L2.St}{i:Nat}{a:aU}(h:Own (ρ.set i .emp) σ a):Own ρ σ a/\∀t l,ρ[i]? = ZY (.own t l)->∀(inj:∀i j a,Owns ρ σ i a->Owns ρ σ j a->i=j),¬Owns ρ σ i a:=by
 obtain⟨j,⟨t,l,e⟩,q⟩:=h;rw[aY] at e;split at e
 ·split at e <;> cases e
 ·rename_i hne;have w:Owns ρ σ j a:=⟨⟨t,l,e⟩,q⟩;exact⟨⟨j,w⟩,λt' l' _ inj z=>hne (inj _ _ _ z w)⟩
def acu{i:Nat}(h:PE X e (tVar i)):ER K X e (ah2 i):=ER.mk λ_=>PE.imp h λσ H Q z9=>by
 obtain⟨tg,F,ρ,d,ρ',G,em,q⟩:=z9;unfold ah2 at em;split at em
 ·rename_i d' e';cases em;obtain⟨o,ho,v,rfl,hv⟩:=G.at e';exact⟨v,ho,q v H F G (Ext.refl _ _ _) hv⟩
 ·rename_i l e';cases em;obtain⟨o,ho,a,vs,rfl,hf,hh,hl,_⟩:=G.at e';have w:Owns ρ σ i a:=⟨⟨_,_,e'⟩,ho⟩;refine⟨_,ho,q _ H F (G.drop i) ⟨Same.refl _,λ_ _ e=>.inl e,λ_ _ e _=>e,λb z=>.inl (aex z).1,λ_ z=>z⟩ ⟨a,vs,rfl,.inr ⟨i,w⟩,hf,hh,hl,λz=>(aex z).2 _ _ e' G.inj w⟩⟩
 ·cases em
noncomputable def mVar(i:Nat):M D:=λρ=>match ρ[i]? with
 |some (.val d)=>ZY (.ok d,ρ)
 |some (.own ZX l)=>ZY (.ok (.lst l),ρ.set i (.val (.lst l)))
 |_=>ZX
def axy{ρ:Ro}{σ:L2.St}{i:Nat}{d:D}{a:aU}(h:Own (ρ.set i (.val d)) σ a):Own (ρ.set i .emp) σ a:=by
 obtain⟨j,⟨t,l,e⟩,q⟩:=h;refine⟨j,⟨t,l,?_⟩,q⟩;rw[aY] at e ⊢
 split at e
 ·split at e <;> cases e
 ·rename_i hne;rw[if_neg hne];exact e
def Good.setv{tg:Nat->aU}{F H:Hp}{ρ:Ro}{σ:L2.St}{i:Nat}{d:D}{v:V}(G:Good K tg F H (ρ.set i .emp) σ)(e:σ[i]? = ZY (ZY v))(h:Is K F d v):Good K tg F H (ρ.set i (.val d)) σ:=by
 have sub:∀j t l,(bC ρ i (Sl.val d))[j]? = ZY (Sl.own t l)->(bC ρ i Sl.emp)[j]? = ZY (Sl.own t l):=λj t l z=>by
  rw[aY] at z ⊢
  split at z
  ·split at z <;> cases z
  ·rename_i hne;rw[if_neg hne];exact z
 refine⟨G.sub,by have:=G.len;rw[cJ] at this ⊢;exact this,λj s o z q=>?_,λj k a ⟨⟨t,l,z⟩,q⟩ ⟨⟨t',l',z'⟩,q'⟩=>G.inj j k a ⟨⟨t,l,sub _ _ _ z⟩,q⟩ ⟨⟨t',l',sub _ _ _ z'⟩,q'⟩⟩
 by_cases hij:i=j
 ·subst hij;rw[aY,if_pos rfl] at z;split at z
  ·cases z;rw[e] at q;cases q;exact⟨v,rfl,h⟩
  ·cases z
 ·refine G.sl j s o ?_ q;rw[aY,if_neg hij] at z ⊢
  exact z
def aa{i:Nat}(h:PE X e (tVar i)):EV K X e (mVar i):=EV.mk λ_=>PE.imp h λσ H Q z9=>by
 obtain⟨tg,F,ρ,d,ρ',G,em,q⟩:=z9;unfold mVar at em;split at em
 ·rename_i d' e';cases em;obtain⟨o,ho,v,rfl,hv⟩:=G.at e';exact⟨v,ho,q v H F G (Ext.refl _ _ _) hv⟩
 ·rename_i l e';cases em;obtain⟨o,ho,a,vs,rfl,hf,hh,hl,_⟩:=G.at e';have w:Owns ρ σ i a:=⟨⟨_,_,e'⟩,ho⟩;have nown:¬Own (ρ.set i .emp) σ a:=λz=>(aex z).2 _ _ e' G.inj w
  have G2:=(G.drop i).freeze hh nown hf;have i2:Is K (upd F a (.lst vs)) (.lst l) (.ref a):=.lst f9 (hl.mono (Same.new hf _));refine⟨_,ho,q _ H _ (G2.setv ho i2) ⟨Same.new hf _,λb o z=>?_,λ_ _ z _=>z,λb z=>.inl (aex (axy z)).1,λ_ z=>z⟩ i2⟩
  by_cases hb:b=a
  ·subst hb;exact .inr (.inr ⟨i,w⟩)
  ·rw[cg hb] at z;exact .inl z
 ·cases em
def ev_c{d:D}{v:V}(h:PE X e (tC v))(hi:∀F,Is K F d v):EV K X e (ret d):=EV.mk λ_=>PE.imp h λσ H Q z9=>by
 obtain⟨tg,F,ρ,d',ρ',G,em,q⟩:=z9;obtain⟨rfl,rfl⟩:=j0 em;exact q v H F G (Ext.refl _ _ _) (hi F)
def bc{i:Int}{j:Nat}:EV K X (.Constant (.int i) j pos) (ret (.int i)):=ev_c a6k λ_=>.int i
def agu{i:Bool}{j:Nat}:EV K X (.Constant (.bool i) j pos) (ret (.bl i)):=ev_c ba4 λ_=>.bl i
def aiq{j:Nat}:EV K X (.Constant .none j pos) (ret .non):=ev_c a6i λ_=>.non
def jo{i:Str}{j:Nat}:EV K X (.Constant (.str i) j pos) (ret (.str i)):=ev_c a6f λ_=>.str i
def T2(K:Fg9)(m:M (D×D))(σ:L2.St)(H:Hp)(R:V->V->Hp->Prop):Prop:=∃tg F ρ p ρ',Good K tg F H ρ σ/\m ρ=ZY (.ok p,ρ') /\
 ∀x y H' F',Good K tg F' H' ρ' σ->Ext (Own ρ σ) (Own ρ' σ) F H F' H'->Bor K F' H' p.1 x->Bor K F' H' p.2 y->R x y H'
structure E2 (K:Fg9) (X:Cx) (a b:cZ) (m:M (D×D)):Prop where
 go:X.K=K->∃ta tb,PE X a ta/\PE X b tb/\∀σ H R,T2 K m σ H R->ta σ H λx H1=>tb σ H1 λy H2=>R x y H2
instance {K:Fg9} {X:Cx} {a b:cZ} {m:M (D×D)}:CoeFun (E2 K X a b m) λ_=>X.K=K->∃ta tb,PE X a ta/\PE X b tb/\∀σ H R,T2 K m σ H R->ta σ H λx H1=>tb σ H1 λy H2=>R x y H2:=⟨E2.go⟩
def gw(m1 m2:M D):M (D×D):=m1.bind λx=>m2.bind λy=>ret (x,y)
def cu(i:Nat)(m2:M D):M (D×D):=(dz i).bind λ_=>m2.bind λy=>(dz i).bind λx=>ret (x,y)
def e2_v{m1 m2:M D}(ha:EV K X a m1)(hb:EB K X b m2):E2 K X a b (gw m1 m2):=E2.mk λhk=>⟨_,_,ha hk,hb hk,λσ H R z9=>by
 obtain⟨tg,F,ρ,p,ρ',G,em,q⟩:=z9;obtain⟨d1,ρ1,e1,em⟩:=bw em;obtain⟨d2,ρ2,e2,em⟩:=bw em;obtain⟨rfl,rfl⟩:=j0 em;exact⟨tg,F,ρ,d1,ρ1,G,e1,λx H1 F1 G1 x1 r1=>⟨tg,F1,ρ1,d2,_,G1,e2,λy H2 F2 G2 x2 r2=>q x y H2 F2 G2 (x1.trans x2) (.inl (r1.mono x2.sub)) r2⟩⟩⟩
def e2_n{i:Nat}{m2:M D}(ha:PE X a (tVar i))(hb:EB K X b m2):E2 K X a b (cu i m2):=E2.mk λhk=>⟨_,_,ha,hb hk,λσ H R z9=>by
 obtain⟨tg,F,ρ,p,ρ',G,em,q⟩:=z9;obtain⟨d0,ρ0,e0,em⟩:=bw em;obtain⟨d2,ρ2,e2,em⟩:=bw em;obtain⟨d1,ρ1,e1,em⟩:=bw em;obtain⟨rfl,rfl⟩:=j0 em;obtain⟨rfl,v,hv,_⟩:=tu G e0;exact⟨v,hv,tg,F,ρ0,d2,ρ2,G,e2,λy H2 F2 G2 x2 r2=>by
  obtain⟨rfl,v',hv',b'⟩:=tu G2 e1;rw[hv] at hv';cases hv';exact q v y H2 F2 G2 x2 b' r2⟩⟩
end
section
variable{K:Fg9}{X:Cx}{e a b c:cZ}{es:List cZ}{pos p:Pos}
section
variable{F H:Hp}{x:V}
def Bor.lst{l:List D}(g:Same F H)(h:Bor K F H (.lst l) x):∃a vs,x=.ref a/\H a=ZY (.lst vs)/\IsL K F l vs:=by
 rcases h with h |⟨a,vs,l',e1,e2,e3,h⟩
 ·cases h with
  |lst e h=>exact⟨_,_,rfl,g _ _ e,h⟩
 ·cases e1;exact⟨a,vs,e2,e3,h⟩
def Bor.tup{l:List D}(h:Bor K F H (.tup l) x):∃a vs,x=.ref a/\F a=ZY (.tup vs)/\IsL K F l vs:=by
 rcases h with h |⟨a,vs,l',e1,_⟩
 ·cases h with
  |tup e h=>exact⟨_,_,rfl,e,h⟩
 ·cases e1
def Bor.kst{l:List D}(h:Bor K F H (.kst l) x):∃a vs,x=.ref a/\SqL K F a vs/\IsL K F l vs:=by
 rcases h with h |⟨a,vs,l',e1,_⟩
 ·cases h with
  |kst e h=>exact⟨_,_,rfl,e,h⟩
 ·cases e1
def Bor.int{i:Int}(h:Bor K F H (.int i) x):x=.int i:=by
 rcases h with h |⟨a,vs,l',e1,_⟩
 ·cases h;rfl
 ·cases e1
def Bor.bl{i:Bool}(h:Bor K F H (.bl i) x):x=.bl i:=by
 rcases h with h |⟨a,vs,l',e1,_⟩
 ·cases h;rfl
 ·cases e1
def Bor.str{i:Str}(h:Bor K F H (.str i) x):x=.str i:=by
 rcases h with h |⟨a,vs,l',e1,_⟩
 ·cases h;rfl
 ·cases e1
def Bor.non(h:Bor K F H .non x):x=.non:=by
 rcases h with h |⟨a,vs,l',e1,_⟩
 ·cases h;rfl
 ·cases e1
end
def Res(K:Fg9)(tg:Nat->aU)(F H:Hp)(ρ:Ro)(σ:L2.St)(r:Rv)(Q:VK):Prop :=
 ∀v H' F',Good K tg F' H' ρ σ->Ext (Own ρ σ) (Own ρ σ) F H F' H'->relR K r v H (Own ρ σ) F' H' (Own ρ σ)->Q v H'
section
variable{tg:Nat->aU}{F H:Hp}{ρ:Ro}{σ:L2.St}{Q:VK}
def Res.same{d:D}{v:V}(G:Good K tg F H ρ σ)(q:Res K tg F H ρ σ (.v d) Q)(h:Is K F d v):Q v H:=q v H F G (Ext.refl _ _ _) h
def Res.tup{l:List D}{vs:List V}(G:Good K tg F H ρ σ)(q:Res K tg F H ρ σ (.v (.tup l)) Q)(h:IsL K F l vs){p:aU}(hp:H p=ZX):Q (.ref p) (upd H p (.tup vs)) :=
 q _ _ _ (G.new hp _) (G.newX hp _) (.tup f9 (h.mono (Same.new (G.freeF hp) _)))
def Res.lst{l:List D}{vs:List V}(G:Good K tg F H ρ σ)(q:Res K tg F H ρ σ (.fr l) Q)(h:IsL K F l vs){p:aU}(hp:H p=ZX):Q (.ref p) (upd H p (.lst vs)) :=
 q _ _ _ (G.fresh hp _) (G.freshX hp _) ⟨p,vs,rfl,.inl hp,G.freeF hp,f9,h,λz=>G.own_ne hp z rfl⟩
end
def rOf(K:Fg9)(g:D->D->Option Rv):R2:=λx y H Q=>∃tg F ρ σ d1 d2 r,Good K tg F H ρ σ/\Bor K F H d1 x/\Bor K F H d2 y/\g d1 d2=ZY r/\Res K tg F H ρ σ r Q
structure OpD (K:Fg9) (X:Cx) (f:aD->aD->Sem aD) (g:D->D->Option Rv):Prop where
 go:X.K=K->OpR X f (rOf K g)
instance {K:Fg9} {X:Cx} {f:aD->aD->Sem aD} {g:D->D->Option Rv}:CoeFun (OpD K X f g) λ_=>X.K=K->OpR X f (rOf K g):=⟨OpD.go⟩
def mOp(g:D->D->Option Rv)(m:M (D×D)):M Rv:=m.bind λp=>lift (g p.1 p.2)
theorem aqd{g:D->D->Option Rv}{m:M (D×D)}{ta tb:TE}(h:∀σ H R,T2 K m σ H R->ta σ H λx H1=>tb σ H1 λy H2=>R x y H2)(σ:L2.St)(H:Hp)(Q:VK)(t:T K (relR K) (mOp g m) σ H Q):tOp (rOf K g) ta tb σ H Q:=by
 obtain⟨tg,F,ρ,r,ρ',G,em,q⟩:=t;obtain⟨p,ρ1,e1,em⟩:=bw em;obtain⟨e2,rfl⟩:=jb em;refine h σ H _ ⟨tg,F,ρ,p,_,G,e1,λx y H' F' G' x' bx by'=>⟨tg,F',_,σ,p.1,p.2,r,G',bx,by',e2,λv H2 F2 G2 x2 rr=>q v H2 F2 G2 (x'.trans x2) ?_⟩⟩
 cases r with
 |v d=>exact rr
 |fr l=>
  obtain⟨a,vs,ev,ha,w⟩:=rr;refine⟨a,vs,ev,?_,w⟩;rcases ha with ha |ha
  ·exact .inl (x'.there a ha)
  ·exact(x'.own a ha).symm
 |tf d l=>
  obtain⟨t,u,a,vs,ev,ht,hd,ha,w⟩:=rr;refine⟨t,u,a,vs,ev,ht,hd,?_,w⟩;rcases ha with ha |ha
  ·exact .inl (x'.there a ha)
  ·exact(x'.own a ha).symm
def gm{op:mC}{g:D->D->Option Rv}{m:M (D×D)}(ho:OpD K X (eY op) g)(h:E2 K X a b m):ER K X (.BinOp a op b pos) (mOp g m):=ER.mk λhk=>by
 obtain⟨ta,tb,ha,hb,h⟩:=h hk;exact PE.imp (ba2 (ho hk) ha hb) (aqd h)
def anl{op:rZ}{g:D->D->Option Rv}{m:M (D×D)}(ho:OpD K X (fB op) g)(h:E2 K X a b m)(hm:gG op b=ZV):ER K X (.Compare a [op] [b] pos) (mOp g m):=ER.mk λhk=>by
 obtain⟨ta,tb,ha,hb,h⟩:=h hk;exact PE.imp (a2c (ho hk) ha hb hm) (aqd h)
noncomputable def capS:Nat:=16777216
def ai4{n:Nat}(h:n<=capS):n<=cF:=by rw[eN];exact h
def gAdd:D->D->Option Rv
 |.int i,.int j=>ZY (.v (.int (i+j)))
 |.tup l,.tup k=>if l.length+k.length<=capS then ZY (.v (.tup (l++k))) else ZX
 |.lst l,.lst k=>if l.length+k.length<=capS then ZY (.fr (l++k)) else ZX
 |.str i,.str j=>if i.length+j.length<=capS then ZY (.v (.str (i++j))) else ZX
 |_,_=>ZX
def jt:OpD K X (eY .Add) gAdd:=OpD.mk λhk=>by
 intro qv s σ0 H x y v u Q I rx ry z9;obtain⟨tg,F,ρ,σ,d1,d2,r,G,b1,b2,eg,q⟩:=z9;subst hk;unfold gAdd at eg;split at eg
 ·cases eg;obtain rfl:=b1.int;obtain rfl:=b2.int;exact a6w qv s σ0 H _ _ v u Q I rx ry ⟨_,_,rfl,rfl,Res.same G q (.int _)⟩
 ·split at eg
  ·rename_i hz;cases eg;obtain⟨a1,vs1,rfl,s1,i1⟩:=b1.tup;obtain⟨a2,vs2,rfl,s2,i2⟩:=b2.tup;have l1:=i1.length;have l2:=i2.length
   by_cases hx:vs1=[]
   ·subst hx;cases i1;cases rx;cases ry;obtain⟨its,r1,p1,_⟩:=I.tuple (SqT.of (G.sub _ _ s1));obtain⟨its2,r2,p2,_⟩:=I.tuple (SqT.of (G.sub _ _ s2));exact azb p1 p2 (r1.nil_iff.mpr rfl) ⟨.ref a2,H,I,rfl,Res.same G q (.tup s2 i2)⟩
   ·refine a2j qv s σ0 H _ _ v u Q I rx ry ⟨a1,a2,vs1,vs2,rfl,rfl,SqT.of (G.sub _ _ s1),SqT.of (G.sub _ _ s2),hx,by rw[<-l1,<-l2];exact ai4 hz,λe=>?_,λ_ p hp=>Res.tup G q (i1.append i2) hp⟩
    subst e;cases i2;exact Res.same G q (.tup s1 (by simpa using i1))
  ·cases eg
 ·split at eg
  ·rename_i hz;cases eg;obtain⟨a1,vs1,rfl,s1,i1⟩:=b1.lst G.sub;obtain⟨a2,vs2,rfl,s2,i2⟩:=b2.lst G.sub;have l1:=i1.length;have l2:=i2.length;exact a6v qv s σ0 H _ _ v u Q I rx ry ⟨a1,a2,vs1,vs2,rfl,rfl,s1,s2,by rw[<-l1,<-l2];exact ai4 hz,λp hp=>Res.lst G q (i1.append i2) hp⟩
  ·cases eg
 ·split at eg
  ·rename_i hz;cases eg;obtain rfl:=b1.str;obtain rfl:=b2.str;exact ar3 qv s σ0 H _ _ v u Q I rx ry ⟨_,_,rfl,rfl,ai4 hz,Res.same G q (.str _)⟩
  ·cases eg
 ·cases eg
def gInt(f:Int->Int->Option Int):D->D->Option Rv
 |.int i,.int j=>(f i j).map λk=>.v (.int k)
 |_,_=>ZX
def aoq{op:mC}{f:Int->Int->Option Int}{C:Int->Int->Prop}{g:Int->Int->Int}(h:OpR X (eY op) (rI C λi j=>.int (g i j)))(hf:∀i j k,f i j=ZY k->C i j/\k=g i j):OpD K X (eY op) (gInt f):=OpD.mk λhk=>by
 intro qv s σ0 H x y v u Q I rx ry z9;obtain⟨tg,F,ρ,σ,d1,d2,r,G,b1,b2,eg,q⟩:=z9;unfold gInt at eg;split at eg
 ·rename_i i j;obtain rfl:=b1.int;obtain rfl:=b2.int;cases z:f i j with
  |none=>rw[z] at eg;cases eg
  |some k=>
   rw[z] at eg;cases eg;obtain⟨h1,rfl⟩:=hf i j k z;exact h qv s σ0 H _ _ v u Q I rx ry ⟨_,_,rfl,rfl,h1,Res.same G q (.int _)⟩
 ·cases eg
noncomputable def fSub(i j:Int):Option Int:=ZY (i-j)
noncomputable def fMul(i j:Int):Option Int:=if (-18446744073709551616<i/\i<18446744073709551616)∨(-18446744073709551616<j/\j<18446744073709551616) then ZY (i*j) else ZX
def a69{i j:Int}(h0:0<j)(h:j<1000000000000000000000000000000000000000000000000000000000000):qT i j=ZV:=by
 have e2:(2:Nat) ^ 200=1606938044258990275541962092341162602522202993782792835301376:=by decide +kernel
 have hl:j.natAbs.log2<200:=(Nat.log2_lt (by omega)).2 (by rw[e2];omega)
 have hd:¬(j.natAbs.log2 / 30+1 > 300):=by omega
 have hj:(j==0)=ZV:=by
  rw[beq_eq_false_iff_ne];omega
 unfold qT;simp only[hj,jV,if_false,hd,decide_false,wJ]
def ax3:OpR X (eY .FloorDiv) (rI (λ_ j=>0<j/\j<1000000000000000000000000000000000000000000000000000000000000) λi j=>.int (i / j)):=opI λi j _ _ _ _ _ hc q=>by
 have h1:(0:Int)<j:=hc.1;exact floordiv_int (by omega) (by rw[rK i (by omega)];exact q) (.inl (a69 hc.1 hc.2))
noncomputable def fDiv(i j:Int):Option Int:=if 0<j/\j<1000000000000000000000000000000000000000000000000000000000000 then ZY (i / j) else ZX
noncomputable def fMod(i j:Int):Option Int:=if 0<j then ZY (i % j) else ZX
noncomputable def fPow(i j:Int):Option Int:=if 0<=j/\j<=1000000/\i.natAbs<18446744073709551616 then ZY (i ^ j.toNat) else ZX
def ad7:OpD K X (eY .Sub) (gInt fSub):=OpD.mk λhk=>by
 intro qv s σ0 H x y v u Q I rx ry z9;obtain⟨tg,F,ρ,σ,d1,d2,r,G,b1,b2,eg,q⟩:=z9;unfold gInt at eg;split at eg
 ·obtain rfl:=b1.int;obtain rfl:=b2.int;cases eg;exact a6q qv s σ0 H _ _ v u Q I rx ry ⟨_,_,rfl,rfl,Res.same G q (.int _)⟩
 ·cases eg
end
mutual
def toPy:D->PyData
 |.non=>.none
 |.bl b=>.bool b
 |.int i=>.int i
 |.str x=>.str x
 |.tup l=>.tuple (afq l)
 |.lst l=>.list (afq l)
 |.kst l=>.list (afq l)
 |.dct _=>.dict []
 |.exn _ _=>.dict []
 |.dtt _=>.dict []
def afq:List D->List PyData
 | []=>[]
 |d::r=>toPy d::afq r
end
def okD:Nat->D->Bool
 |_,.non=>ZW
 |_,.bl _=>ZW
 |_,.int _=>ZW
 |_,.str x=>PyData.strOk x
 |n+1,.tup l=>l.all (okD n)
 |n+1,.lst l=>l.all (okD n)
 |n+1,.kst l=>l.all (okD n)
 |_,_=>ZV
theorem alb{n:Nat}(ih:∀d,okD n d=ZW->(toPy d).canLay0=ZW/\(toPy d).depth<=n):∀l:List D,l.all (okD n)=ZW->uQ (afq l)=ZW/\vN (afq l)<=n
 | [],_=>⟨rfl,fJ _⟩
 |d::r,h=>by
  rw[jR,bD] at h;obtain⟨h1,h2⟩:=ih d h.1;obtain⟨h3,h4⟩:=alb ih r h.2;refine⟨?_,?_⟩
  ·show(PyData.canLay0 (toPy d)&&uQ (afq r))=ZW;rw[h1,h3];rfl
  ·show max (PyData.depth (toPy d)) (vN (afq r))<=n;omega
theorem acg:∀(n:Nat) (d:D),okD n d=ZW->(toPy d).canLay0=ZW/\(toPy d).depth<=n
 |n,.non,_=>⟨rfl,fJ _⟩
 |n,.bl _,_=>⟨rfl,fJ _⟩
 |n,.int _,_=>⟨rfl,fJ _⟩
 |n,.str x,h=>by
  refine⟨?_,fJ _⟩;cases n <;> exact h
 |n+1,.tup l,h=>by
  obtain⟨h1,h2⟩:=alb (acg n) l h;exact⟨h1,qL h2⟩
 |n+1,.lst l,h=>by
  obtain⟨h1,h2⟩:=alb (acg n) l h;exact⟨h1,qL h2⟩
 |n+1,.kst l,h=>by
  obtain⟨h1,h2⟩:=alb (acg n) l h;exact⟨h1,qL h2⟩
 | 0,.tup l,h=>by cases h
 | 0,.lst l,h=>by cases h
 | 0,.kst l,h=>by cases h
 | 0,.dct l,h=>by cases h
 |n+1,.dct l,h=>by cases h
 | 0,.exn _ _,h=>by cases h
 |n+1,.exn _ _,h=>by cases h
 | 0,.dtt _,h=>by cases h
 |n+1,.dtt _,h=>by cases h
def eqD(a b:D):Bool:=pR (toPy a) (toPy b)
def eqDs:List D->List D->Bool
 | [],[]=>ZW
 |a::r,b::t=>eqD a b&&eqDs r t
 |_,_=>ZV
theorem av1:∀a b:List D,wN (afq a) (afq b)=eqDs a b
 | [],[]=>rfl
 |a::r,b::t=>by
  show(pR (toPy a) (toPy b)&&wN (afq r) (afq t))=_;rw[av1 r t];rfl
 | [],_::_=>rfl
 |_::_,[]=>rfl
section
variable{K:Fg9}{X:Cx}
section
variable{qv:List (aU×Obj)}{σ:L2.St}{F H:Hp}{s:aG}
mutual
theorem aan(I:Inv X qv σ H s)(g:Same F H):∀{n:Nat} {d:D} {v:V} {u:aD},Is X.K F d v->okD n d=ZW->RelV v u->∃as,Reads s.heap u (toPy d) as
 |_,_,_,_,.non,_,r=>by cases r;exact⟨_,.none⟩
 |_,_,_,_,.bl b,_,r=>by cases r;exact⟨_,.bool b⟩
 |_,_,_,_,.int i,_,r=>by obtain⟨t,rfl⟩:=r;exact⟨_,.int i t⟩
 |_,_,_,_,.str i,_,r=>by obtain⟨t,rfl⟩:=r;exact⟨_,.str i t⟩
 | 0,_,_,_,.tup e h,k,r=>by cases k
 |n+1,_,_,_,.tup e h,k,r=>by
  cases r;obtain⟨its,rv,p1,_⟩:=I.tuple (SqT.of (g _ _ e));obtain⟨o,ho,hc,m,hd⟩:=p1;obtain⟨as,ra⟩:=aca I g h k rv;exact⟨_,.tuple ho hc hd (by simpa using ra)⟩
 | 0,_,_,_,.lst e h,k,r=>by cases k
 |n+1,_,_,_,.lst e h,k,r=>by
  cases r;obtain⟨its,rv,p1,_⟩:=I.list (SqL.of (g _ _ e));obtain⟨o,ho,hc,m,hd⟩:=p1.isList;obtain⟨as,ra⟩:=aca I g h k rv;exact⟨_,.list ho hc hd (by simpa using ra)⟩
 | 0,_,_,_,.kst e h,k,r=>by cases k
 |n+1,_,_,_,.kst e h,k,r=>by
  cases r;obtain⟨its,rv,p1,_⟩:=I.list (L2.Same.seq g e);obtain⟨o,ho,hc,m,hd⟩:=p1.isList;obtain⟨as,ra⟩:=aca I g h k rv;exact⟨_,.list ho hc hd (by simpa using ra)⟩
 | 0,_,_,_,.dct e h,k,r=>by cases k
 |n+1,_,_,_,.dct e h,k,r=>by cases k
 | 0,_,_,_,.exn ..,k,r=>by cases k
 |n+1,_,_,_,.exn ..,k,r=>by cases k
 | 0,_,_,_,.dtt ..,k,r=>by cases k
 |n+1,_,_,_,.dtt ..,k,r=>by cases k
theorem aca(I:Inv X qv σ H s)(g:Same F H):∀{n:Nat} {ds:List D} {vs:List V} {us:List aD},IsL X.K F ds vs->ds.all (okD n)=ZW->Vals vs us->∃as,ReadsAll s.heap us (afq ds) as
 |_,_,_,_,.nil,_,r=>by cases r;exact⟨_,.nil⟩
 |n,_,_,_,.cons h t,k,r=>by
  rw[jR,bD] at k;cases r with
  |cons r1 r2=>
   obtain⟨as,ra⟩:=aan I g h k.1 r1;obtain⟨bs,rb⟩:=aca I g t k.2 r2;exact⟨_,.cons ra rb⟩
end
def aa5(I:Inv X qv σ H s)(g:Same F H){n:Nat}{d:D}{v:V}{u:aD}(h:Bor X.K F H d v)(k:okD n d=ZW)(r:RelV v u):∃as,Reads s.heap u (toPy d) as:=by
 rcases h with h |⟨a,vs,l,rfl,rfl,e,h⟩
 ·exact aan I g h k r
 ·cases r;cases n with
  |zero=>cases k
  |succ n=>
   obtain⟨its,rv,p1,_⟩:=I.list (SqL.of e);obtain⟨o,ho,hc,m,hd⟩:=p1.isList;obtain⟨as,ra⟩:=aca I g h k rv;exact⟨_,.list ho hc hd (by simpa using ra)⟩
end
def gEq(neg:Bool)(a b:D):Option Rv:=if okD 30 a&&okD 30 b then ZY (.v (.bl (if neg then !eqD a b else eqD a b))) else ZX
def zm(hu:X.A.units+64<cLine):OpD K X (fB .Eq) (gEq ZV):=OpD.mk λhk=>by
 intro qv s σ0 H x y v u Q I rx ry z9;obtain⟨tg,F,ρ,σ,d1,d2,r,G,b1,b2,eg,q⟩:=z9;subst hk;unfold gEq at eg;split at eg
 ·rename_i ho;rw[bD] at ho;cases eg;obtain⟨as,ra⟩:=aa5 I G.sub b1 ho.1 rx;obtain⟨bs,rb⟩:=aa5 I G.sub b2 ho.2 ry;obtain⟨c1,p1⟩:=acg _ _ ho.1;obtain⟨c2,p2⟩:=acg _ _ ho.2;exact PySem.SeqAt.compareEq_reads ra rb c1 c2 (by omega) ⟨.bl _,H,I,rfl,Res.same G q (.bl _)⟩
 ·cases eg
def aa6(hu:X.A.units+64<cLine):OpD K X (fB .NotEq) (gEq ZW):=OpD.mk λhk=>by
 intro qv s σ0 H x y v u Q I rx ry z9;obtain⟨tg,F,ρ,σ,d1,d2,r,G,b1,b2,eg,q⟩:=z9;subst hk;unfold gEq at eg;split at eg
 ·rename_i ho;rw[bD] at ho;cases eg;obtain⟨as,ra⟩:=aa5 I G.sub b1 ho.1 rx;obtain⟨bs,rb⟩:=aa5 I G.sub b2 ho.2 ry;obtain⟨c1,p1⟩:=acg _ _ ho.1;obtain⟨c2,p2⟩:=acg _ _ ho.2;exact PySem.SeqAt.compareNe_reads ra rb c1 c2 (by omega) ⟨.bl _,H,I,rfl,Res.same G q (.bl _)⟩
 ·cases eg
def itemsD:D->Option (List D)
 |.tup l=>ZY l
 |.lst l=>ZY l
 |.kst l=>ZY l
 |_=>ZX
def gIn(neg:Bool)(a b:D):Option Rv:=match itemsD b with
 |some l=>if okD 30 a&&l.all (okD 30) then ZY (.v (.bl (if neg then !l.any (λy=>eqD y a) else l.any (λy=>eqD y a)))) else ZX
 |none=>ZX
open Classical in
noncomputable def aaw(h:eF)(dx:PyData)(u:aD):Bool:=decide (∃d as,Reads h u d as/\d.canLay0=ZW/\pR d dx=ZW)
open Classical in
theorem ag2{h:eF}{dx d:PyData}{u:aD}{as:List aU}(r:Reads h u d as)(c:d.canLay0=ZW):aaw h dx u=pR d dx:=by
 unfold aaw;cases e:pR d dx with
 |true=>exact decide_eq_true ⟨d,as,r,c,e⟩
 |false=>
  refine decide_eq_false ?_
  rintro⟨d',as',r',c',e'⟩
  rw[<-PySem.SeqAt.Reads.unique d d' u as as' c r r'] at e';rw[e] at e';cases e'
theorem yq{qv:List (aU×Obj)}{σ:L2.St}{F H:Hp}{s:aG}(I:Inv X qv σ H s)(g:Same F H){a:D}{n:Nat}:∀{ds:List D} {vs:List V} {us:List aD},IsL X.K F ds vs->ds.all (okD n)=ZW->Vals vs us ->
  us.any (aaw s.heap (toPy a))=ds.any (λy=>eqD y a)/\∀u∈us,∃d as,Reads s.heap u d as/\d.canLay0=ZW/\d.depth<=n
 |_,_,_,.nil,_,r=>by cases r;exact⟨rfl,λu hu=>by cases hu⟩
 |_,_,_,.cons h t,k,r=>by
  rw[jR,bD] at k;cases r with
  |cons r1 r2=>
   obtain⟨as,ra⟩:=aan I g h k.1 r1;obtain⟨c,p⟩:=acg _ _ k.1;obtain⟨e,z⟩:=yq I g (a:=a) t k.2 r2;refine⟨?_,λu hu=>?_⟩
   ·rw[sX,sX,e,ag2 ra c];rfl
   ·rcases bF.mp hu with rfl |hu
    ·exact⟨_,as,ra,c,p⟩
    ·exact z u hu
def xn{s:aG}{A:cT}(hu:A.units+64<cLine){us:List aD}{a:D}{v:aD}{as:List aU}(ra:Reads s.heap v (toPy a) as)(ka:okD 30 a=ZW)(z:∀u∈us,∃d as,Reads s.heap u d as/\d.canLay0=ZW/\d.depth<=30) :
  ∀u∈us,SeqAt.EqAt A.in1 s u v (aaw s.heap (toPy a) u):=λu hm=>by
 obtain⟨d,bs,rb,c,p⟩:=z u hm;obtain⟨c2,p2⟩:=acg _ _ ka;rw[ag2 rb c];refine PySem.SeqAt.eqAt_reads d (toPy a) A.in1 s u v bs as rb ra c c2 ?_;show A.units+1+_<_;omega
def anh{a b:D}{neg:Bool}{r:Rv}(h:gIn neg a b=ZY r):∃l,itemsD b=ZY l/\okD 30 a=ZW/\l.all (okD 30)=ZW/\r=.v (.bl (if neg then !l.any (λy=>eqD y a) else l.any (λy=>eqD y a))):=by
 unfold gIn at h;split at h
 ·rename_i l e;split at h
  ·rename_i ho;rw[bD] at ho;cases h;exact⟨l,e,ho.1,ho.2,rfl⟩
  ·cases h
 ·cases h
theorem ahg{F H:Hp}{d:D}{l:List D}{x:V}(g:Same F H)(e:itemsD d=ZY l)(h:Bor K F H d x):∃a vs,x=.ref a/\IsL K F l vs/\(SqL K H a vs∨SqT K H a vs):=by
 cases d with
 |tup k=>
  cases e;obtain⟨a,vs,rfl,e,h⟩:=h.tup;exact⟨a,vs,rfl,h,.inr (SqT.of (g _ _ e))⟩
 |lst k=>
  cases e;obtain⟨a,vs,rfl,e,h⟩:=h.lst g;exact⟨a,vs,rfl,h,.inl (SqL.of e)⟩
 |kst k=>
  cases e;obtain⟨a,vs,rfl,e,h⟩:=h.kst;exact⟨a,vs,rfl,h,.inl (L2.Same.seq g e)⟩
 |_=>cases e
def az6(hu:X.A.units+64<cLine):OpD K X (fB .In) (gIn ZV):=OpD.mk λhk=>by
 intro qv s σ0 H x y v u Q I rx ry z9;obtain⟨tg,F,ρ,σ,d1,d2,r,G,b1,b2,eg,q⟩:=z9;subst hk;obtain⟨l,e,k1,k2,rfl⟩:=anh eg;obtain⟨as,ra⟩:=aa5 I G.sub b1 k1 rx;obtain⟨p,vs,rfl,hl,hs⟩:=ahg G.sub e b2;cases ry;rcases hs with hs |hs
 ·obtain⟨its,rv,pl,_⟩:=I.list hs;obtain⟨ea,z⟩:=yq I G.sub (a:=d1) hl k2 rv;refine SeqAt.in_listAt (aaw s.heap (toPy d1)) pl.isList (λw hw=>xn hu ra k1 z w (by simpa using hw)) ⟨.bl _,H,I,rfl,?_⟩
  rw[show its.toArray.any (aaw s.heap (toPy d1))=its.any (aaw s.heap (toPy d1)) by simp,ea]
  exact Res.same G q (.bl _)
 ·obtain⟨its,rv,pl,_⟩:=I.tuple hs;obtain⟨ea,z⟩:=yq I G.sub (a:=d1) hl k2 rv;refine SeqAt.in_tupleAt (aaw s.heap (toPy d1)) pl (λw hw=>xn hu ra k1 z w (by simpa using hw)) ⟨.bl _,H,I,rfl,?_⟩
  rw[show its.toArray.any (aaw s.heap (toPy d1))=its.any (aaw s.heap (toPy d1)) by simp,ea]
  exact Res.same G q (.bl _)
def acd(hu:X.A.units+64<cLine):OpD K X (fB .NotIn) (gIn ZW):=OpD.mk λhk=>by
 intro qv s σ0 H x y v u Q I rx ry z9;obtain⟨tg,F,ρ,σ,d1,d2,r,G,b1,b2,eg,q⟩:=z9;subst hk;obtain⟨l,e,k1,k2,rfl⟩:=anh eg;obtain⟨as,ra⟩:=aa5 I G.sub b1 k1 rx;obtain⟨p,vs,rfl,hl,hs⟩:=ahg G.sub e b2;cases ry;rcases hs with hs |hs
 ·obtain⟨its,rv,pl,_⟩:=I.list hs;obtain⟨ea,z⟩:=yq I G.sub (a:=d1) hl k2 rv;refine SeqAt.notIn_listAt (aaw s.heap (toPy d1)) pl.isList (λw hw=>xn hu ra k1 z w (by simpa using hw)) ⟨.bl _,H,I,rfl,?_⟩
  rw[show its.toArray.any (aaw s.heap (toPy d1))=its.any (aaw s.heap (toPy d1)) by simp,ea]
  exact Res.same G q (.bl _)
 ·obtain⟨its,rv,pl,_⟩:=I.tuple hs;obtain⟨ea,z⟩:=yq I G.sub (a:=d1) hl k2 rv;refine SeqAt.notIn_tupleAt (aaw s.heap (toPy d1)) pl (λw hw=>xn hu ra k1 z w (by simpa using hw)) ⟨.bl _,H,I,rfl,?_⟩
  rw[show its.toArray.any (aaw s.heap (toPy d1))=its.any (aaw s.heap (toPy d1)) by simp,ea]
  exact Res.same G q (.bl _)
end
end Dn
namespace Dn
open L2 Mn
section
variable{K:Fg9}{X:Cx}{e a b c:cZ}{es:List cZ}{pos p:Pos}
def aor:OpD K X (eY .FloorDiv) (gInt fDiv):=aoq ax3 λi j k h=>by
 unfold fDiv at h;split at h
 ·cases h;exact⟨by assumption,rfl⟩
 ·cases h
def acf:OpD K X (eY .Mod) (gInt fMod):=aoq a6u λi j k h=>by
 unfold fMod at h;split at h
 ·cases h;exact⟨by assumption,rfl⟩
 ·cases h
def ak8:OpD K X (eY .Pow) (gInt fPow):=aoq a6s λi j k h=>by
 unfold fPow at h;split at h
 ·rename_i hc;cases h;exact⟨⟨hc.1,hc.2.1,hc.2.2⟩,rfl⟩
 ·cases h
def gMul:D->D->Option Rv
 |.int i,.int j=>(fMul i j).map λk=>.v (.int k)
 |.tup l,.int k=>if k=1 then ZY (.v (.tup l)) else if l≠[]/\2<=k/\k<9223372036854775808/\l.length*k.toNat<=capS then ZY (.v (.tup (aJ k.toNat l).flatten)) else ZX
 |.lst l,.int k=>if k.natAbs<9223372036854775808/\l.length*k.toNat<=capS then ZY (.fr (aJ k.toNat l).flatten) else ZX
 |_,_=>ZX
def ace:OpD K X (eY .Mult) gMul:=OpD.mk λhk=>by
 intro qv s σ0 H x y v u Q I rx ry z9;obtain⟨tg,F,ρ,σ,d1,d2,r,G,b1,b2,eg,q⟩:=z9;subst hk;unfold gMul at eg;split at eg
 ·rename_i i j;obtain rfl:=b1.int;obtain rfl:=b2.int;unfold fMul at eg;split at eg
  ·rename_i hc;cases eg;exact a6t qv s σ0 H _ _ v u Q I rx ry ⟨_,_,rfl,rfl,hc,Res.same G q (.int _)⟩
  ·cases eg
 ·rename_i l k;split at eg
  ·rename_i hk1;subst hk1;cases eg;obtain⟨a1,vs1,rfl,s1,i1⟩:=b1.tup;obtain rfl:=b2.int;exact a2i qv s σ0 H _ _ v u Q I rx ry ⟨a1,vs1,rfl,rfl,G.sub _ _ s1,Res.same G q (.tup s1 i1)⟩
  split at eg
  ·rename_i hc;obtain⟨h0,h2,h3,hz⟩:=hc;cases eg;obtain⟨a1,vs1,rfl,s1,i1⟩:=b1.tup;obtain rfl:=b2.int;have l1:=i1.length;refine ax1 qv s σ0 H _ _ v u Q I rx ry ⟨a1,vs1,k,rfl,rfl,G.sub _ _ s1,?_,h2,h3,by rw[<-l1];exact ai4 hz,λp hp=>Res.tup G q (i1.rep _) hp⟩
   intro z;subst z;cases i1;exact h0 rfl
  ·cases eg
 ·rename_i l k;split at eg
  ·rename_i hc;obtain⟨hab,hz⟩:=hc;have h0 : -9223372036854775808<=k:=by omega
   have h2:k<9223372036854775808:=by omega
   cases eg;obtain⟨a1,vs1,rfl,s1,i1⟩:=b1.lst G.sub;obtain rfl:=b2.int;have l1:=i1.length;exact a6r qv s σ0 H _ _ v u Q I rx ry ⟨a1,k,vs1,rfl,rfl,s1,h0,h2,by rw[<-l1];exact ai4 hz,λp hp=>Res.lst G q (i1.rep _) hp⟩
  ·cases eg
 ·cases eg
def gCmp(f:Int->Int->Bool):D->D->Option Rv
 |.int i,.int j=>ZY (.v (.bl (f i j)))
 |_,_=>ZX
def auh{op:rZ}{f:Int->Int->Bool}(h:OpR X (fB op) (rI0 λi j=>.bl (f i j))):OpD K X (fB op) (gCmp f):=OpD.mk λhk=>by
 intro qv s σ0 H x y v u Q I rx ry z9;obtain⟨tg,F,ρ,σ,d1,d2,r,G,b1,b2,eg,q⟩:=z9;unfold gCmp at eg;split at eg
 ·cases eg;obtain rfl:=b1.int;obtain rfl:=b2.int;exact h qv s σ0 H _ _ v u Q I rx ry ⟨_,_,rfl,rfl,Res.same G q (.bl _)⟩
 ·cases eg
def aqc:OpD K X (fB .Lt) (gCmp λi j=>decide (i<j)):=auh ba5
def auf:OpD K X (fB .GtE) (gCmp λi j=>decide (j<=i)):=auh ba6
def gNeg:D->Option D
 |.int i=>ZY (.int (-i))
 |_=>ZX
def mUn(g:D->Option D)(m:M D):M D:=m.bind λd=>lift (g d)
theorem adv{m:M D}(h:EV K X a m):EV K X (.UnaryOp .USub a pos) (mUn gNeg m):=EV.mk λhk=>PE.imp (ba1 a4u (h hk)) λσ H Q z9=>by
 obtain⟨tg,F,ρ,d,ρ',G,em,q⟩:=z9;obtain⟨d1,ρ1,e1,em⟩:=bw em;obtain⟨e2,rfl⟩:=jb em;refine⟨tg,F,ρ,d1,_,G,e1,λv H' F' G' x r=>?_⟩
 cases d1 with
 |int i=>
  cases e2;cases r;exact⟨i,rfl,q _ H' F' G' x (.int _)⟩
 |_=>cases e2
def asB:D->Option Bool
 |.bl b=>ZY b
 |_=>ZX
def gNot(d:D):Option D:=(asB d).map λk=>.bl (!k)
theorem arb{d:D}{k:Bool}(h:asB d=ZY k):d=.bl k:=by
 cases d with
 |bl b=>cases h;rfl
 |_=>cases h
theorem a8i{m:M D}(h:EV K X a m):EV K X (.UnaryOp .Not a pos) (mUn gNot m):=EV.mk λhk=>PE.imp (a6h (h hk)) λσ H Q z9=>by
 obtain⟨tg,F,ρ,d,ρ',G,em,q⟩:=z9;obtain⟨d1,ρ1,e1,em⟩:=bw em;obtain⟨e2,rfl⟩:=jb em;refine⟨tg,F,ρ,d1,_,G,e1,λv H' F' G' x r=>?_⟩
 cases d1 with
 |bl i=>
  cases e2;cases r;exact⟨i,rfl,q _ H' F' G' x (.bl _)⟩
 |_=>cases e2
def mAnd(m1 m2:M D):M D:=m1.bind λd=>(lift (asB d)).bind λk=>if k=ZW then m2 else ret (.bl ZV)
def ani{op}{m:M D}(h:EV K X a m):EV K X (.BoolOp op [a] pos) m:=EV.mk λhk=>a6g (h hk)
theorem ank{m1 m2:M D}{rest:List cZ}(h1:EV K X a m1)(h2:EV K X (.BoolOp .And (b::rest) pos) m2):EV K X (.BoolOp .And (a::b::rest) pos) (mAnd m1 m2):=EV.mk λhk=>PE.imp (a6p (h1 hk) (h2 hk)) λσ H Q z9=>by
 obtain⟨tg,F,ρ,d,ρ',G,em,q⟩:=z9;obtain⟨d1,ρ1,e1,em⟩:=bw em;obtain⟨k,ρ2,e2,em⟩:=bw em;obtain⟨e3,rfl⟩:=jb e2;obtain rfl:=arb e3;refine⟨tg,F,ρ,_,_,G,e1,λv H' F' G' x r=>?_⟩
 cases r;refine⟨k,rfl,?_⟩;cases k with
 |true=>exact iteT ⟨tg,F',_,d,ρ',G',em,λv2 H2 F2 G2 x2 r2=>q v2 H2 F2 G2 (x.trans x2) r2⟩
 |false=>
  obtain⟨rfl,rfl⟩:=j0 (show ret (D.bl ZV) _=_ from em)
  exact iteF (q _ H' F' G' x (.bl _))
def TB(K:Fg9)(m:M Bool):TT:=λσ H Q=>∃tg F ρ k ρ',Good K tg F H ρ σ/\m ρ=ZY (.ok k,ρ')/\∀H' F',Good K tg F' H' ρ' σ->Ext (Own ρ σ) (Own ρ' σ) F H F' H'->Q k H'
structure ET (K:Fg9) (X:Cx) (e:cZ) (m:M Bool):Prop where
 go:X.K=K->PT X e (TB K m)
instance {K:Fg9} {X:Cx} {e:cZ} {m:M Bool}:CoeFun (ET K X e m) λ_=>X.K=K->PT X e (TB K m):=⟨ET.go⟩
structure EW (K:Fg9) (X:Cx) (e:cZ) (m:M Bool):Prop where
 go:X.K=K->PW X e (TB K m)
instance {K:Fg9} {X:Cx} {e:cZ} {m:M Bool}:CoeFun (EW K X e m) λ_=>X.K=K->PW X e (TB K m):=⟨EW.go⟩
def PT.imp{t t':TT}(h:PT X e t)(w:∀σ H Q,t' σ H Q->t σ H Q):PT X e t':=λqv s σ H Q I q=>h qv s σ H Q I (w σ H Q q)
def PW.imp{t t':TT}(h:PW X e t)(w:∀σ H Q,t' σ H Q->t σ H Q):PW X e t':=λwh qv s σ H Q I q=>h wh qv s σ H Q I (w σ H Q q)
def EW.pt{m:M Bool}(h:EW K X e m):ET K X e m:=ET.mk λhk=>(h hk).pt
def ab1(m:M D):M Bool:=m.bind λd=>lift (asB d)
def axa{m:M D}(σ:L2.St)(H:Hp)(Q:Bool->Hp->Prop)(t:TB K (ab1 m) σ H Q):tB (T K (relD K) m) σ H Q:=by
 obtain⟨tg,F,ρ,k,ρ',G,em,q⟩:=t;obtain⟨d1,ρ1,e1,em⟩:=bw em;obtain⟨e3,rfl⟩:=jb em;obtain rfl:=arb e3;refine⟨tg,F,ρ,_,_,G,e1,λv H' F' G' x r=>?_⟩
 cases r;exact⟨k,rfl,q H' F' G' x⟩
def acr{m:M D}(h:EV K X e m)(he:∀whole,isTrue e X.env whole=(do let v <-whole;standAt e.pos;lN [v] (truthy v)):=by intro _;rfl):ET K X e (ab1 m):=ET.mk λhk=>PT.imp (a5w (h hk) he) axa
def jr(g:D->D->Option Rv)(m:M (D×D)):M Bool:=ab1 (mOp g m).d
theorem jg{op:rZ}{g:D->D->Option Rv}{m:M (D×D)}(ho:OpD K X (fB op) g)(h:E2 K X a b m)(hm:gG op b=ZV):ET K X (.Compare a [op] [b] pos) (jr g m):=ET.mk λhk=>by
 obtain⟨ta,tb,ha,hb,h⟩:=h hk;refine PT.imp (a1m (ho hk) ha hb hm) λσ H Q t=>?_
 obtain⟨tg,F,ρ,k,ρ',G,em,q⟩:=t;obtain⟨d1,ρ1,e1,em⟩:=bw em;obtain⟨e3,rfl⟩:=jb em;obtain rfl:=arb e3;obtain⟨r,ρ2,e1,em⟩:=bw e1;obtain⟨er,rfl⟩:=j0 em;refine aqd h σ H _ ⟨tg,F,ρ,r,_,G,e1,λv H' F' G' x w=>?_⟩
 cases r with
 |v d=>
  have er:d=.bl k:=er;subst er;have w:Is K F' (.bl k) v:=w;cases w;exact⟨k,rfl,q H' F' G' x⟩
 |fr l=>cases er
 |tf d l=>cases er
def am0(m:M Bool):M Bool:=m.bind λk=>ret (!k)
def acs{m:M Bool}(h:ET K X a m):ET K X (.UnaryOp .Not a pos) (am0 m):=ET.mk λhk=>PT.imp (a5x (h hk)) λσ H Q z9=>by
 obtain⟨tg,F,ρ,k,ρ',G,em,q⟩:=z9;obtain⟨d1,ρ1,e1,em⟩:=bw em;obtain⟨rfl,rfl⟩:=j0 em;exact⟨tg,F,ρ,d1,_,G,e1,λH' F' G' x=>q H' F' G' x⟩
def a2y(m1 m2:M Bool):M Bool:=m1.bind λk=>if k=ZW then m2 else ret ZV
def mOrB(m1 m2:M Bool):M Bool:=m1.bind λk=>if k=ZW then ret ZW else m2
def a3q{m:M Bool}(h:ET K X a m):EW K X (.BoolOp .And [a] pos) m:=EW.mk λhk=>a1k (h hk)
def aq0{m:M Bool}(h:ET K X a m):EW K X (.BoolOp .Or [a] pos) m:=EW.mk λhk=>a5q (h hk)
theorem a8h{m1 m2:M Bool}{rest:List cZ}(h1:ET K X a m1)(h2:EW K X (.BoolOp .And (b::rest) pos) m2):EW K X (.BoolOp .And (a::b::rest) pos) (a2y m1 m2):=EW.mk λhk=>PW.imp (a5r (h1 hk) (h2 hk)) λσ H Q z9=>by
 obtain⟨tg,F,ρ,d,ρ',G,em,q⟩:=z9;obtain⟨k,ρ1,e1,em⟩:=bw em;refine⟨tg,F,ρ,k,_,G,e1,λH' F' G' x=>?_⟩
 cases k with
 |true=>exact iteT ⟨tg,F',_,d,ρ',G',em,λH2 F2 G2 x2=>q H2 F2 G2 (x.trans x2)⟩
 |false=>
  obtain⟨rfl,rfl⟩:=j0 (show ret ZV _=_ from em)
  exact iteF (q H' F' G' x)
theorem ay3{m1 m2:M Bool}{rest:List cZ}(h1:ET K X a m1)(h2:EW K X (.BoolOp .Or (b::rest) pos) m2):EW K X (.BoolOp .Or (a::b::rest) pos) (mOrB m1 m2):=EW.mk λhk=>PW.imp (bax (h1 hk) (h2 hk)) λσ H Q z9=>by
 obtain⟨tg,F,ρ,d,ρ',G,em,q⟩:=z9;obtain⟨k,ρ1,e1,em⟩:=bw em;refine⟨tg,F,ρ,k,_,G,e1,λH' F' G' x=>?_⟩
 cases k with
 |false=>exact iteF ⟨tg,F',_,d,ρ',G',em,λH2 F2 G2 x2=>q H2 F2 G2 (x.trans x2)⟩
 |true=>
  obtain⟨rfl,rfl⟩:=j0 (show ret ZW _=_ from em)
  exact iteT (q H' F' G' x)
def am2(f g:Int->Int->Bool)(m1 m2 m3:M D):M D:=m1.bind λx=>m2.bind λy=>match x,y with
 |.int i,.int j=>if f i j=ZW then m3.bind λz=>match z with
  |.int k=>ret (.bl (g j k))
  |_=>lift ZX
  else ret (.bl ZV)
 |_,_=>lift ZX
theorem awf{f g:Int->Int->Bool}{m1 m2 m3:M D}(σ:L2.St)(H:Hp)(Q:VK)(t:T K (relD K) (am2 f g m1 m2 m3) σ H Q) :
  azq (rI0 λi j=>.bl (f i j)) (rI0 λi j=>.bl (g i j)) (T K (relD K) m1) (T K (relD K) m2) (T K (relD K) m3) σ H Q:=by
 obtain⟨tg,F,ρ,d,ρ',G,em,q⟩:=t;obtain⟨d1,ρ1,e1,em⟩:=bw em;obtain⟨d2,ρ2,e2,em⟩:=bw em;have bad:∀{ρ:Ro},(lift (ZX:Option D)) ρ=ZY (.ok d,ρ')->False:=λz=>by
  obtain⟨z,_⟩:=jb z;cases z
 cases d1 with
 |int i=>
  cases d2 with
  |int j=>
   refine⟨tg,F,ρ,_,ρ1,G,e1,λv H1 F1 G1 x1 r1=>⟨tg,F1,ρ1,_,ρ2,G1,e2,λv2 H2 F2 G2 x2 r2=>?_⟩⟩
   cases r1;cases r2;refine⟨i,j,rfl,rfl,f i j,rfl,?_⟩;have em:(if f i j=ZW then m3.bind λz=>match z with
    |.int k=>ret (.bl (g j k))
    |_=>lift ZX
    else ret (.bl ZV)) ρ2=ZY (.ok d,ρ'):=em
   by_cases hf:f i j=ZW
   ·rw[if_pos hf] at em ⊢
    obtain⟨d3,ρ3,e3,em⟩:=bw em;refine⟨tg,F2,ρ2,d3,ρ3,G2,e3,λv3 H3 F3 G3 x3 r3=>?_⟩
    cases d3 with
    |int k=>
     obtain⟨rfl,rfl⟩:=j0 (show ret (D.bl (g j k)) _=_ from em)
     cases r3;exact⟨j,k,rfl,rfl,q _ H3 F3 G3 ((x1.trans x2).trans x3) (.bl _)⟩
    |_=>exact(bad em).elim
   ·rw[if_neg hf] at em ⊢
    obtain⟨rfl,rfl⟩:=j0 em;exact q _ H2 F2 G2 (x1.trans x2) (.bl _)
  |_=>exact(bad em).elim
 |_=>cases d2 <;> exact(bad em).elim
def aq2{op op':rZ}{f g:Int->Int->Bool}{m1 m2 m3:M D}(ho:OpR X (fB op) (rI0 λi j=>.bl (f i j)))(ho':OpR X (fB op') (rI0 λi j=>.bl (g i j)))(h1:EV K X a m1)(h2:EV K X b m2)(h3:EV K X c m3)
  (hm:lastMarks [op,op'] [b,c]=ZV:=by with_unfolding_all rfl):EV K X (.Compare a [op,op'] [b,c] pos) (am2 f g m1 m2 m3):=EV.mk λhk=>PE.imp (axw ho ho' (h1 hk) (h2 hk) (h3 hk) hm) awf
def mIf{α:Type}(m:M Bool)(m1 m2:M α):M α:=m.bind λk=>if k=ZW then m1 else m2
theorem a8k{m:M Bool}{m1 m2:M Rv}(h:ET K X c m)(h1:ER K X a m1)(h2:ER K X b m2):ER K X (.IfExp c a b pos) (mIf m m1 m2):=ER.mk λhk=>PE.imp (axs (h hk) (h1 hk) (h2 hk)) λσ H Q z9=>by
 obtain⟨tg,F,ρ,d,ρ',G,em,q⟩:=z9;obtain⟨k,ρ1,e1,em⟩:=bw em;refine⟨tg,F,ρ,k,_,G,e1,λH' F' G' x=>?_⟩
 have fin:∀{m':M Rv},m' ρ1=ZY (.ok d,ρ')->T K (relR K) m' σ H' Q:=λ{m'} e'=>⟨tg,F',ρ1,d,ρ',G',e',λv H2 F2 G2 x2 r2=>q v H2 F2 G2 (x.trans x2) (by
  cases d with
  |v d=>exact r2
  |fr l=>
   obtain⟨a,vs,ev,ha,w⟩:=r2;refine⟨a,vs,ev,?_,w⟩;rcases ha with ha |ha
   ·exact .inl (x.there a ha)
   ·exact(x.own a ha).symm
  |tf d l=>
   obtain⟨t,u,a,vs,ev,ht,hd,ha,w⟩:=r2;refine⟨t,u,a,vs,ev,ht,hd,?_,w⟩;rcases ha with ha |ha
   ·exact .inl (x.there a ha)
   ·exact(x.own a ha).symm)⟩
 cases k with
 |true=>exact iteT (fin em)
 |false=>exact iteF (fin em)
end
section
variable{K:Fg9}{X:Cx}{e a b c:cZ}{es:List cZ}{pos p p2:Pos}
def TL(K:Fg9)(m:M (List D)):TA:=λσ H Q=>∃tg F ρ ds ρ',Good K tg F H ρ σ/\m ρ=ZY (.ok ds,ρ')/\∀vs H' F',Good K tg F' H' ρ' σ->Ext (Own ρ σ) (Own ρ' σ) F H F' H'->IsL K F' ds vs->Q vs H'
structure ED (K:Fg9) (X:Cx) (es:List cZ) (m:M (List D)):Prop where
 go:X.K=K->PA X es (TL K m)
instance {K:Fg9} {X:Cx} {es:List cZ} {m:M (List D)}:CoeFun (ED K X es m) λ_=>X.K=K->PA X es (TL K m):=⟨ED.go⟩
def PA.imp{t t':TA}(h:PA X es t)(w:∀σ H Q,t' σ H Q->t σ H Q):PA X es t':=λps qv s σ H Q I q=>h ps qv s σ H Q I (w σ H Q q)
def mNil:M (List D):=ret []
def bh(m:M D)(ms:M (List D)):M (List D):=m.bind λd=>ms.bind λds=>ret (d::ds)
def bz:ED K X [] mNil:=ED.mk λ_=>PA.imp aht λσ H Q z9=>by
 obtain⟨tg,F,ρ,ds,ρ',G,em,q⟩:=z9;obtain⟨rfl,rfl⟩:=j0 em;exact q [] H F G (Ext.refl _ _ _) .nil
def ak{m:M D}{ms:M (List D)}(h:EV K X e m)(t:ED K X es ms)(hs:Zc X e es:=by rfl):ED K X (e::es) (bh m ms):=ED.mk λhk=>PA.imp (wk (h hk) (t hk) hs) λσ H Q z9=>by
 obtain⟨tg,F,ρ,ds,ρ',G,em,q⟩:=z9;obtain⟨d,ρ1,e1,em⟩:=bw em;obtain⟨r,ρ2,e2,em⟩:=bw em;obtain⟨rfl,rfl⟩:=j0 em;exact⟨tg,F,ρ,d,ρ1,G,e1,λv H1 F1 G1 x1 r1=>⟨tg,F1,ρ1,r,_,G1,e2,λvs H2 F2 G2 x2 r2=>q _ H2 F2 G2 (x1.trans x2) (.cons (r1.mono x2.sub) r2)⟩⟩
def gTup(ds:List D):Option D:=if ds.length<=capS then ZY (.tup ds) else ZX
def gLst(ds:List D):Option Rv:=if ds.length<=capS then ZY (.fr ds) else ZX
def mTup(m:M (List D)):M D:=m.bind λds=>lift (gTup ds)
def mLst(m:M (List D)):M Rv:=m.bind λds=>lift (gLst ds)
def nj{k}{m:M (List D)}(h:ED K X es m):EV K X (.Tuple es k pos) (mTup m):=EV.mk λhk=>PE.imp (a6e (h hk)) λσ H Q z9=>by
 obtain⟨tg,F,ρ,d,ρ',G,em,q⟩:=z9;obtain⟨ds,ρ1,e1,em⟩:=bw em;obtain⟨e2,rfl⟩:=jb em;unfold gTup at e2;split at e2
 ·rename_i hz;cases e2;refine⟨tg,F,ρ,ds,_,G,e1,λvs H1 F1 G1 x1 r1=>⟨by rw[<-r1.length];exact ai4 hz,λp hp=>q _ _ _ (G1.new hp _) (x1.trans (G1.newX hp _)) (.tup f9 (r1.mono (Same.new (G1.freeF hp) _)))⟩⟩
 ·cases e2
def j7{m:M (List D)}(h:ED K X es m):ER K X (.List es pos) (mLst m):=ER.mk λhk=>PE.imp (a6j (h hk)) λσ H Q z9=>by
 obtain⟨tg,F,ρ,d,ρ',G,em,q⟩:=z9;obtain⟨ds,ρ1,e1,em⟩:=bw em;obtain⟨e2,rfl⟩:=jb em;unfold gLst at e2;split at e2
 ·rename_i hz;cases e2;refine⟨tg,F,ρ,ds,_,G,e1,λvs H1 F1 G1 x1 r1=>⟨by rw[<-r1.length];exact ai4 hz,λp hp=>q _ _ _ (G1.fresh hp _) (x1.trans (G1.freshX hp _)) ⟨p,vs,rfl,.inl (x1.there p hp),G1.freeF hp,f9,r1,λz=>G1.own_ne hp z rfl⟩⟩⟩
 ·cases e2
def ay4{x:Str}{n:Int}{j1 j2:Nat}{p1 p2:Pos}:EV K X (.Dict [ZY (.Constant (.str x) j1 p1)] [.Constant (.int n) j2 p2] pos) (ret (.dct [(lR x,.int n)])):=EV.mk λ_=>PE.imp axt λσ H Q z9=>by
 obtain⟨tg,F,ρ,d,ρ',G,em,q⟩:=z9;obtain⟨rfl,rfl⟩:=j0 em;exact λp hp=>q _ _ _ (G.new hp _) (G.newX hp _) (.dct f9 (.cons (.int n) .nil))
inductive BorL (K:Fg9) (F H:Hp):List D->List V->Prop
 |nil:BorL K F H [] []
 |cons {d:D} {v:V} {ds:List D} {vs:List V} (h:Bor K F H d v) (t:BorL K F H ds vs):BorL K F H (d::ds) (v::vs)
def TA'(K:Fg9)(m:M (List D)):TA:=λσ H Q=>∃tg F ρ ds ρ',Good K tg F H ρ σ/\m ρ=ZY (.ok ds,ρ')/\∀vs H' F',Good K tg F' H' ρ' σ->Ext (Own ρ σ) (Own ρ' σ) F H F' H'->BorL K F' H' ds vs->Q vs H'
structure EA (K:Fg9) (X:Cx) (es:List cZ) (m:M (List D)):Prop where
 go:X.K=K->PA X es (TA' K m)
instance {K:Fg9} {X:Cx} {es:List cZ} {m:M (List D)}:CoeFun (EA K X es m) λ_=>X.K=K->PA X es (TA' K m):=⟨EA.go⟩
def ig(i:Nat)(ms:M (List D)):M (List D):=(dz i).bind λ_=>ms.bind λds=>(dz i).bind λd=>ret (d::ds)
def fu:EA K X [] mNil:=EA.mk λ_=>PA.imp aht λσ H Q z9=>by
 obtain⟨tg,F,ρ,ds,ρ',G,em,q⟩:=z9;obtain⟨rfl,rfl⟩:=j0 em;exact q [] H F G (Ext.refl _ _ _) .nil
def ea_v{m:M D}{ms:M (List D)}(h:EV K X e m)(t:EA K X es ms)(hs:Zc X e es:=by rfl):EA K X (e::es) (bh m ms):=EA.mk λhk=>PA.imp (wk (h hk) (t hk) hs) λσ H Q z9=>by
 obtain⟨tg,F,ρ,ds,ρ',G,em,q⟩:=z9;obtain⟨d,ρ1,e1,em⟩:=bw em;obtain⟨r,ρ2,e2,em⟩:=bw em;obtain⟨rfl,rfl⟩:=j0 em;exact⟨tg,F,ρ,d,ρ1,G,e1,λv H1 F1 G1 x1 r1=>⟨tg,F1,ρ1,r,_,G1,e2,λvs H2 F2 G2 x2 r2=>q _ H2 F2 G2 (x1.trans x2) (.cons (.inl (r1.mono x2.sub)) r2)⟩⟩
def ea_n{i:Nat}{ms:M (List D)}(h:PE X e (tVar i))(t:EA K X es ms)(hs:Zc X e es:=by rfl):EA K X (e::es) (ig i ms):=EA.mk λhk=>PA.imp (wk h (t hk) hs) λσ H Q z9=>by
 obtain⟨tg,F,ρ,ds,ρ',G,em,q⟩:=z9;obtain⟨d0,ρ0,e0,em⟩:=bw em;obtain⟨r,ρ2,e2,em⟩:=bw em;obtain⟨d,ρ1,e1,em⟩:=bw em;obtain⟨rfl,rfl⟩:=j0 em;obtain⟨rfl,v,hv,_⟩:=tu G e0;exact⟨v,hv,tg,F,ρ0,r,_,G,e2,λvs H2 F2 G2 x2 r2=>by
  obtain⟨rfl,v',hv',b'⟩:=tu G2 e1;rw[hv] at hv';cases hv';exact q _ H2 F2 G2 x2 (.cons b' r2)⟩
def rcOf(K:Fg9)(g:List D->Option Rv):List V->Hp->VK->Prop:=λvs H Q=>∃tg F ρ σ ds r,Good K tg F H ρ σ/\BorL K F H ds vs/\g ds=ZY r/\Res K tg F H ρ σ r Q
structure CallD (K:Fg9) (X:Cx) (f:aD) (g:List D->Option Rv):Prop where
 go:X.K=K->afp X f (rcOf K g)
instance {K:Fg9} {X:Cx} {f:aD} {g:List D->Option Rv}:CoeFun (CallD K X f g) λ_=>X.K=K->afp X f (rcOf K g):=⟨CallD.go⟩
def iu(g:List D->Option Rv)(m:M (List D)):M Rv:=m.bind λds=>lift (g ds)
theorem ym{O O1 O2:aU->Prop}{F H F1 H1 F2 H2:Hp}{r:Rv}{v:V}(x:Ext O O1 F H F1 H1)(h:relR K r v H1 O1 F2 H2 O2):relR K r v H O F2 H2 O2:=by
 cases r with
 |v d=>exact h
 |fr l=>
  obtain⟨a,vs,ev,ha,w⟩:=h;refine⟨a,vs,ev,?_,w⟩;rcases ha with ha |ha
  ·exact .inl (x.there a ha)
  ·exact(x.own a ha).symm
 |tf d l=>
  obtain⟨t,u,a,vs,ev,ht,hd,ha,w⟩:=h;refine⟨t,u,a,vs,ev,ht,hd,?_,w⟩;rcases ha with ha |ha
  ·exact .inl (x.there a ha)
  ·exact(x.own a ha).symm
def aq7{g:List D->Option Rv}{m:M (List D)}(σ:L2.St)(H:Hp)(Q:VK)(t:T K (relR K) (iu g m) σ H Q):tCB (rcOf K g) (TA' K m) σ H Q:=by
 obtain⟨tg,F,ρ,r,ρ',G,em,q⟩:=t;obtain⟨ds,ρ1,e1,em⟩:=bw em;obtain⟨e2,rfl⟩:=jb em;exact⟨tg,F,ρ,ds,_,G,e1,λvs H' F' G' x' bl=>⟨tg,F',_,σ,ds,r,G',bl,e2,λv H2 F2 G2 x2 rr=>q v H2 F2 G2 (x'.trans x2) (ym x' rr)⟩⟩
section
variable{x:Str}{id Ty:String}{g:List D->Option Rv}{m:M (List D)}
def dg(hc:CallD K X (.builtin id) g)(hg:Gl X x)(hm:X.mg x=ZX)(hv:bY x=ZY (.builtin id))(ha:EA K X (e::es) m)(hn:x ≠ "__name__" := by decide)(hdb:Zb x:=by decide)
  (he:Zc X e es:=by rfl) (hpl:(fV pos (aO es X.env)).any (·.1)=ZV:=by rfl):ER K X (.Call (.Name x p) (e::es) [] pos) (iu g m):=ER.mk λhk=>PE.imp (agx (hc hk) hg hm hv (ha hk) hn hdb he hpl) aq7
def jq(hc:CallD K X (.type Ty) g)(hg:Gl X x)(hm:X.mg x=ZX)(hv:bY x=ZY (.type Ty))(ha:EA K X (e::es) m)(hn:x ≠ "__name__" := by decide)(hdb:Zb x:=by decide)
  (he:Zc X e es:=by rfl) (hpl:(fV pos (aO es X.env)).any (·.1)=ZV:=by rfl):ER K X (.Call (.Name x p) (e::es) [] pos) (iu g m):=ER.mk λhk=>PE.imp (aue (hc hk) hg hm hv (ha hk) hn hdb he hpl) aq7
end
theorem BorL.one{F H:Hp}{d:D}{vs:List V}(h:BorL K F H [d] vs):∃v,vs=[v]/\Bor K F H d v:=by
 cases h with
 |cons h t=>cases t;exact⟨_,rfl,h⟩
theorem BorL.two{F H:Hp}{d d':D}{vs:List V}(h:BorL K F H [d,d'] vs):∃v v',vs=[v,v']/\Bor K F H d v/\Bor K F H d' v':=by
 cases h with
 |cons h t=>
  obtain⟨v',rfl,h'⟩:=t.one;exact⟨_,_,rfl,h,h'⟩
def g1(f:D->Option Rv):List D->Option Rv
 | [d]=>f d
 |_=>ZX
def g2(f:D->D->Option Rv):List D->Option Rv
 | [d,d']=>f d d'
 |_=>ZX
theorem cd_one{f:D->Option Rv}{w:aD} (h:X.K=K->∀(qv:List (aU×Obj)) (s:aG) (σ0:L2.St) (H:Hp) (x:V) (u:aD) (Q:VK) (tg:Nat->aU) (F:Hp) (ρ:Ro) (σ:L2.St) (d:D) (r:Rv),Inv X qv σ0 H s->RelV x u->Good K tg F H ρ σ->Bor K F H d x->f d=ZY r->Res K tg F H ρ σ r Q ->
  bU (bZ X.prog X.w) X.A (call w [u]) (EP X qv σ0 Q) X.xe s):CallD K X w (g1 f):=CallD.mk λhk=>by
 intro qv s σ0 H xs us Q I r z9;obtain⟨tg,F,ρ,σ,ds,rv,G,bl,eg,q⟩:=z9
 match ds,eg with
 | [d],eg=>
  obtain⟨v,rfl,bv⟩:=bl.one;obtain⟨u,rfl,ru⟩:=vals1 r;exact h hk qv s σ0 H v u Q tg F ρ σ d rv I ru G bv eg q
theorem j9:CallD K X (.builtin "len") (g1 λd=>(itemsD d).map λl=>.v (.int l.length)):=cd_one λhk qv s σ0 H x u Q tg F ρ σ d r I ru G bd eg q=>by
 subst hk;cases e:itemsD d with
 |none=>rw[e] at eg;cases eg
 |some l=>
  rw[e] at eg;cases eg;obtain⟨a,vs,rfl,hl,hs⟩:=ahg G.sub e bd;have q':=Res.same G q (.int _);rw[hl.length] at q';exact anr qv s σ0 H [.ref a] [u] Q I (.cons ru .nil) ⟨a,vs,rfl,hs,q'⟩
def ac2:List D->Option (List Bool)
 | []=>ZY []
 |.bl b::r=>(ac2 r).map (b :: ·)
 |_::_=>ZX
theorem anz:∀{l:List D} {bs:List Bool},ac2 l=ZY bs->l=bs.map D.bl
 | [],_,h=>by cases h;rfl
 |.bl b::r,bs,h=>by
  have h':(ac2 r).map (b :: ·)=ZY bs:=h;cases e:ac2 r with
  |none=>rw[e] at h';cases h'
  |some t=>
   rw[e] at h';cases h';rw[anz e];rfl
 |.non::_,_,h=>by cases h
 |.int _::_,_,h=>by cases h
 |.str _::_,_,h=>by cases h
 |.tup _::_,_,h=>by cases h
 |.lst _::_,_,h=>by cases h
 |.kst _::_,_,h=>by cases h
 |.dct _::_,_,h=>by cases h
@[simp] theorem aki(bs:List Bool):ac2 (bs.map D.bl)=ZY bs:=by
 induction bs with
 |nil=>rfl
 |cons b r ih=>show(ac2 (r.map D.bl)).map (b :: ·)=_;rw[ih];rfl
def gAll:D->Option Rv
 |.lst l=>(ac2 l).map λbs=>.v (.bl (bs.all id))
 |_=>ZX
theorem a0q(hc:X.calm=ZW):CallD K X (.builtin "all") (g1 gAll):=cd_one λhk qv s σ0 H x u Q tg F ρ σ d r I ru G bd eg q=>by
 subst hk;cases d with
 |lst l=>
  have eg:(ac2 l).map (λbs=>Rv.v (.bl (bs.all id)))=ZY r:=eg
  cases e:ac2 l with
  |none=>rw[e] at eg;cases eg
  |some bs=>
   rw[e] at eg;cases eg;obtain⟨a,vs,rfl,ea,hl⟩:=bd.lst G.sub;rw[anz e] at hl;rw[hl.bl_inv] at ea;exact azc hc qv s σ0 H [.ref a] [u] Q I (.cons ru .nil) ⟨a,bs,rfl,SqL.of ea,Res.same G q (.bl _)⟩
 |_=>cases eg
def ang:D->Option Rv
 |.int i=>ZY (.v (.int i))
 |.bl k=>ZY (.v (.int (if k then 1 else 0)))
 |_=>ZX
theorem a0p:CallD K X (.type "int") (g1 ang):=cd_one λhk qv s σ0 H x u Q tg F ρ σ d r I ru G bd eg q=>by
 cases d with
 |int i=>
  cases eg;obtain rfl:=bd.int;exact anu qv s σ0 H [_] [u] Q I (.cons ru .nil) (.inl ⟨i,rfl,Res.same G q (.int _)⟩)
 |bl k=>
  cases eg;obtain rfl:=bd.bl;exact anu qv s σ0 H [_] [u] Q I (.cons ru .nil) (.inr ⟨k,rfl,Res.same G q (.int _)⟩)
 |_=>cases eg
theorem zx:CallD K X (.type "tuple") (g1 λd=>(itemsD d).map λl=>.v (.tup l)):=cd_one λhk qv s σ0 H x u Q tg F ρ σ d r I ru G bd eg q=>by
 subst hk;cases d with
 |tup l=>
  cases eg;obtain⟨a,vs,rfl,ea,hl⟩:=bd.tup;exact abu qv s σ0 H [_] [u] Q I (.cons ru .nil) ⟨a,vs,rfl,.inr ⟨SqT.of (G.sub _ _ ea),Res.same G q (.tup ea hl)⟩⟩
 |lst l=>
  cases eg;obtain⟨a,vs,rfl,ea,hl⟩:=bd.lst G.sub;exact abu qv s σ0 H [_] [u] Q I (.cons ru .nil) ⟨a,vs,rfl,.inl ⟨SqL.of ea,λp hp=>Res.tup G q hl hp⟩⟩
 |kst l=>
  cases eg;obtain⟨a,vs,rfl,ea,hl⟩:=bd.kst;exact abu qv s σ0 H [_] [u] Q I (.cons ru .nil) ⟨a,vs,rfl,.inl ⟨L2.Same.seq G.sub ea,λp hp=>Res.tup G q hl hp⟩⟩
 |_=>cases eg
theorem age:CallD K X (.type "list") (g1 λd=>(itemsD d).map λl=>.fr l):=cd_one λhk qv s σ0 H x u Q tg F ρ σ d r I ru G bd eg q=>by
 subst hk;cases e:itemsD d with
 |none=>rw[e] at eg;cases eg
 |some l=>
  rw[e] at eg;cases eg;obtain⟨a,vs,rfl,hl,hs⟩:=ahg G.sub e bd;exact anq qv s σ0 H [_] [u] Q I (.cons ru .nil) ⟨a,vs,rfl,hs,λp hp=>Res.lst G q hl hp⟩
theorem a0o{f:D->D->Option Rv}{w:aD} (h:X.K=K->∀(qv:List (aU×Obj)) (s:aG) (σ0:L2.St) (H:Hp) (x y:V) (u v:aD) (Q:VK) (tg:Nat->aU) (F:Hp) (ρ:Ro) (σ:L2.St) (d d':D) (r:Rv),Inv X qv σ0 H s->RelV x u->RelV y v->Good K tg F H ρ σ->Bor K F H d x->Bor K F H d' y->f d d'=ZY r->Res K tg F H ρ σ r Q ->
  bU (bZ X.prog X.w) X.A (call w [u,v]) (EP X qv σ0 Q) X.xe s):CallD K X w (g2 f):=CallD.mk λhk=>by
 intro qv s σ0 H xs us Q I r z9;obtain⟨tg,F,ρ,σ,ds,rv,G,bl,eg,q⟩:=z9
 match ds,eg with
 | [d,d'],eg=>
  obtain⟨v,v',rfl,bv,bv'⟩:=bl.two;obtain⟨u,w,rfl,ru,rw'⟩:=vals2 r;exact h hk qv s σ0 H v v' u w Q tg F ρ σ d d' rv I ru rw' G bv bv' eg q
def a8z(hc:X.calm=ZW):CallD K X (.builtin "max") (g2 (gInt λi j=>ZY (if j > i then j else i))):=a0o λhk qv s σ0 H x y u v Q tg F ρ σ d d' r I ru rv G bd bd' eg q=>by
 unfold gInt at eg;split at eg
 ·cases eg;obtain rfl:=bd.int;obtain rfl:=bd'.int;exact awl hc qv s σ0 H [_,_] [u,v] Q I (.cons ru (.cons rv .nil)) ⟨_,_,rfl,Res.same G q (.int _)⟩
 ·cases eg
def anv:afp X (.builtin "divmod") (λxs H Q=>∃i j,xs=[.int i,.int j]/\(0<j/\j<1000000000000000000000000000000000000000000000000000000000000)/\∀p,H p=ZX->Q (.ref p) (upd H p (.tup [.int (i / j),.int (i % j)]))):=by
 intro qv s σ H xs us Q I r h;obtain⟨i,j,rfl,hj,q⟩:=h;obtain⟨u,w',rfl,⟨t,rfl⟩,⟨t',rfl⟩⟩:=vals2 r;have h1:=hj.1;refine divmod_int (by omega) ?_ (.inl (a69 hj.1 hj.2))
 rw[rK i (by omega),rJ i (by omega)]
 refine⟨.ref s.heap.objs.size,_,?_,rfl,q _ (I.hok.fresh (aM _))⟩;exact I.laid (λb o e=>aB _ e) (aM _) ⟨by simp only[bG,qZ];rw[eN];decide,[.int (i / j) s.toks,.int (i % j) (s.toks+1)],.cons ⟨_,rfl⟩ (.cons ⟨_,rfl⟩ .nil),⟨_,aW s.heap rfl,rfl,rfl,0,rfl⟩⟩
def alr:D->D->Option Rv
 |.int i,.int j=>if 0<j/\j<1000000000000000000000000000000000000000000000000000000000000 then ZY (.v (.tup [.int (i / j),.int (i % j)])) else ZX
 |_,_=>ZX
def awj:CallD K X (.builtin "divmod") (g2 alr):=a0o λhk qv s σ0 H x y u v Q tg F ρ σ d d' r I ru rv G bd bd' eg q=>by
 unfold alr at eg;split at eg
 ·split at eg
  ·rename_i hc;cases eg;obtain rfl:=bd.int;obtain rfl:=bd'.int;exact anv qv s σ0 H [_,_] [u,v] Q I (.cons ru (.cons rv .nil)) ⟨_,_,rfl,hc,λp hp=>Res.tup G q (.cons (.int _) (.cons (.int _) .nil)) hp⟩
  ·cases eg
 ·cases eg
inductive Ty where
 |int |bool |tuple |list |str |dict
def Ty.nm:Ty->String
 |.int => "int" |.bool => "bool" |.tuple => "tuple" |.list => "list" |.str => "str" |.dict => "dict"
def tyD:D->aD
 |.non=>.type "NoneType"
 |.bl _=>.type "bool"
 |.int _=>.type "int"
 |.str _=>.type "str"
 |.tup _=>.type "tuple"
 |.lst _=>.type "list"
 |.kst _=>.type "list"
 |.dct _=>.type "dict"
 |.exn _ _=>.type "NoneType"
 |.dtt _=>.type "dict"
def isTy:Ty->D->Bool
 |.int,.int _=>ZW
 |.int,.bl _=>ZW
 |.bool,.bl _=>ZW
 |.tuple,.tup _=>ZW
 |.list,.lst _=>ZW
 |.list,.kst _=>ZW
 |.str,.str _=>ZW
 |.dict,.dct _=>ZW
 |.dict,.dtt _=>ZW
 |_,_=>ZV
def a0c(t:Ty)(d:D):fW K (tyD d) (.type t.nm)=ZY (isTy t d):=by
 cases d <;> cases t <;> kernel_rfl
theorem awm{X:Cx}:afp X (.builtin "isinstance") (λxs H Q=>∃F d x t,xs=[x,.ty (Ty.nm t)]/\Same F H/\Bor X.K F H d x/\Q (.bl (isTy t d)) H):=by
 intro qv s σ H xs us Q I r z9;obtain⟨F,d,x,t,e,g,h,q⟩:=z9;subst e;obtain⟨u,w',rfl,r1,r2⟩:=vals2 r;obtain rfl:w'=mJ t.nm:=r2;have fin:∀tk,EP X qv σ Q (.bool (isTy t d)) { s with toks:=tk }:=λtk=>⟨.bl _,H,I.tok tk,rfl,q⟩
 have go:TyOf X.K H x (tyD d)->bU (bZ X.prog X.w) X.A (call (.builtin "isinstance") [u,.type t.nm]) (EP X qv σ Q) X.xe s:=λty=>avf I r1 ty (a0c t d) fin
 cases d with
 |non=>obtain rfl:=h.non;exact go .non
 |bl b=>obtain rfl:=h.bl;exact go (.bl b)
 |int b=>obtain rfl:=h.int;exact go (.int b)
 |str b=>obtain rfl:=h.str;exact go (.str b)
 |tup b=>obtain⟨a,vs,rfl,e,_⟩:=h.tup;exact go (.tup (g _ _ e))
 |lst b=>obtain⟨a,vs,rfl,e,_⟩:=h.lst g;exact go (.lst e)
 |kst b=>
  obtain⟨a,vs,rfl,e,_⟩:=h.kst;cases(show u=cH a from r1)
  obtain⟨its,_,pl,_⟩:=I.list (L2.Same.seq g e);obtain⟨o,ho,hc,n,hd⟩:=pl.isList;exact dD pQ I.kIn ⟨o,ho,hc⟩ (a0c t (.kst b)) (λz=>nomatch z) fin
 |dct b=>
  rcases h with h |⟨a,vs,l',e1,_⟩
  ·cases h with
   |dct e h=>exact go (.dK (g _ _ e))
  ·cases e1
 |dtt b=>
  rcases h with h |⟨a,vs,l',e1,_⟩
  ·cases h with
   |dtt e=>exact go (.dT (g _ _ e))
  ·cases e1
 |exn c fs=>
  rcases h with h |⟨a,vs,l',e1,_⟩
  ·cases h with
   | @exn a C c dx fs e hc hk hf=>
    cases(show u=cH a from r1)
    obtain⟨⟨oe,ws,h1,h2,h3,h4⟩,_⟩:=(show yt X.prog X.w H s.heap a (.ext (exO a C dx)) from I.hok a _ (g _ _ e))
    have hno:oR oe=ZW:=by unfold oR;rw[h4]
    have ia:∃ox od,kI s.heap a ox C od:=by
     rcases hf with⟨rfl,_⟩ |⟨d,rfl,hd⟩
     ·exact⟨oe,ZX,h1,h2,hno,by rw[h3];trivial⟩
     ·obtain⟨mA,⟨od,_,_,e1,_⟩,_⟩:=(show yt X.prog X.w H s.heap d (.xd _) from I.hok d _ (g _ _ hd))
      exact⟨oe,ZY od,h1,h2,hno,by rw[h3];exact e1⟩
    have kq:fW X.K (.ref C) (.type t.nm)=ZY ZV:=by
     have h5:fQ X.K (.ref C) (.type t.nm)=ZY ZV:=hk.no _ (by cases t <;> simp[Ty.nm])
     have h6:vM t.nm=ZW:=by cases t <;> kernel_rfl
     unfold fW wG;rw[if_neg (by simp)]
     show(if vM t.nm=ZW then fQ X.K (.ref C) (.type t.nm) else ZX)=ZY ZV
     rw[if_pos h6];exact h5
    have e7:isTy t (.exn c fs)=ZV:=by cases t <;> rfl
    exact dD (aql hk) I.kIn ia kq (λz=>nomatch z) λtk=>e7▸fin tk
  ·cases e1
def mIsi(t:Ty)(m:M D):M D:=m.bind λd=>ret (.bl (isTy t d))
def avz{t:Ty}{tn:cZ}{m:M D}{x:Str}(ht:PE X tn (tC (.ty t.nm)))(hg:Gl X x)(hm:X.mg x=ZX)(hv:bY x=ZY (.builtin "isinstance"))(h:EB K X e m)(hn:x ≠ "__name__" := by decide)(hdb:Zb x:=by decide)
  (h1:aO [tn] X.env=(ZV,eval tn X.env)::aO [] X.env:=by rfl) (he:aO [e,tn] X.env=(ZV,eval e X.env)::aO [tn] X.env:=by rfl) (hpl:(fV pos (aO [tn] X.env)).any (·.1)=ZV:=by rfl) :
  EV K X (.Call (.Name x p) [e,tn] [] pos) (mIsi t m):=EV.mk λhk=>by
 refine PE.imp (agx awm hg hm hv (wk (h hk) (wk ht aht h1) he) hn hdb he hpl) λσ H Q z9=>?_
 obtain⟨tg,F,ρ,d,ρ',G,em,q⟩:=z9;obtain⟨d1,ρ1,e1,em⟩:=bw em;obtain⟨rfl,rfl⟩:=j0 em;subst hk;exact⟨tg,F,ρ,d1,_,G,e1,λv H' F' G' x bv=>⟨F',d1,v,t,rfl,G'.sub,bv,q _ H' F' G' x (.bl _)⟩⟩
def gIx(d i:D):Option Rv:=match i with
 |.int k=>(itemsD d).bind λl=>(atI l k).map λx=>.v x
 |_=>ZX
theorem a86{F:Hp}{l:List D}{vs:List V}{k:Int}{d:D}(h:IsL K F l vs)(e:atI l k=ZY d):∃v,atI vs k=ZY v/\Is K F d v:=by
 unfold atI at e ⊢
 rw[h.length] at e;cases q:ixN vs.length k with
 |none=>rw[q] at e;cases e
 |some j=>
  rw[q] at e;obtain⟨v,e1,e2⟩:=h.get (i:=j) e;exact⟨v,e1,e2⟩
theorem ixd:X.K=K->IxR X (rOf K gIx):=λhk=>by
 intro value slice qv s σ0 H x y v u Q I rx ry z9 hs;obtain⟨tg,F,ρ,σ,d1,d2,r,G,b1,b2,eg,q⟩:=z9;subst hk;cases d2 with
 |int k=>
  have eg:(itemsD d1).bind (λl=>(atI l k).map λx=>Rv.v x)=ZY r:=eg
  cases e:itemsD d1 with
  |none=>rw[e] at eg;cases eg
  |some l=>
   rw[e] at eg;have eg:(atI l k).map (λx=>Rv.v x)=ZY r:=eg
   cases e2:atI l k with
   |none=>rw[e2] at eg;cases eg
   |some d=>
    rw[e2] at eg;cases eg;obtain⟨a,vs,rfl,hl,hq⟩:=ahg G.sub e b1;obtain rfl:=b2.int;obtain⟨z,hz,iz⟩:=a86 hl e2;rcases hq with hq |hq
    ·exact a3c value slice qv s σ0 H _ _ v u Q I rx ry ⟨a,vs,k,z,rfl,rfl,hq,hz,Res.same G q iz⟩ hs
    ·exact a7y value slice qv s σ0 H _ _ v u Q I rx ry ⟨a,vs,k,z,rfl,rfl,hq,hz,Res.same G q iz⟩ hs
 |_=>cases eg
def jx{m:M (D×D)}(h:E2 K X a b m)(hs:awz b):ER K X (.Subscript a b pos) (mOp gIx m):=ER.mk λhk=>by
 obtain⟨ta,tb,ha,hb,h⟩:=h hk;exact PE.imp (ba3 (ixd hk) ha hb hs) (aqd h)
def TOp(K:Fg9)(m:M (Option Int)):TO:=λσ H Q=>∃tg F ρ o ρ',Good K tg F H ρ σ/\m ρ=ZY (.ok o,ρ')/\∀H' F',Good K tg F' H' ρ' σ->Ext (Own ρ σ) (Own ρ' σ) F H F' H'->Q o H'
structure EO (K:Fg9) (X:Cx) (e:Option cZ) (m:M (Option Int)):Prop where
 go:X.K=K->PO X e (TOp K m)
instance {K:Fg9} {X:Cx} {e:Option cZ} {m:M (Option Int)}:CoeFun (EO K X e m) λ_=>X.K=K->PO X e (TOp K m):=⟨EO.go⟩
def PO.imp{eo:Option cZ}{t t':TO}(h:PO X eo t)(w:∀σ H Q,t' σ H Q->t σ H Q):PO X eo t':=λqv s σ H Q I q=>h qv s σ H Q I (w σ H Q q)
def ais:EO K X ZX (ret ZX):=EO.mk λ_=>PO.imp a1q λσ H Q z9=>by
 obtain⟨tg,F,ρ,o,ρ',G,em,q⟩:=z9;obtain⟨rfl,rfl⟩:=j0 em;exact q H F G (Ext.refl _ _ _)
def asI:D->Option Int
 |.int i=>ZY i
 |_=>ZX
theorem agr{d:D}{k:Int}(h:asI d=ZY k):d=.int k:=by
 cases d with
 |int b=>cases h;rfl
 |_=>cases h
def alh(m:M D):M (Option Int):=m.bind λd=>lift ((asI d).map ZY)
theorem aej{m:M D}(h:EV K X e m):EO K X (ZY e) (alh m):=EO.mk λhk=>PO.imp (a1p (h hk)) λσ H Q z9=>by
 obtain⟨tg,F,ρ,o,ρ',G,em,q⟩:=z9;obtain⟨d,ρ1,e1,em⟩:=bw em;obtain⟨e2,rfl⟩:=jb em;refine⟨tg,F,ρ,d,_,G,e1,λv H' F' G' x r=>?_⟩
 cases d with
 |int i=>
  cases e2;cases r;exact⟨i,rfl,q H' F' G' x⟩
 |_=>cases e2
def cutD(l:List D)(lo hi:Option Int):List D:=(l.drop (HT.sIx l.length 0 lo)).take (HT.sIx l.length l.length hi-HT.sIx l.length 0 lo)
def av7{F:Hp}{l:List D}{vs:List V}(h:IsL K F l vs)(lo hi:Option Int):IsL K F (cutD l lo hi) (cutV vs lo hi):=by
 unfold cutD cutV;rw[h.length];exact(h.drop _).take _
def gCut(d:D)(lo hi:Option Int):Option Rv:=match d with
 |.tup l=>ZY (.v (.tup (cutD l lo hi)))
 |.lst l=>ZY (.fr (cutD l lo hi))
 |.kst l=>ZY (.fr (cutD l lo hi))
 |_=>ZX
def rsOf(K:Fg9):V->Option Int->Option Int->Hp->VK->Prop:=λx lo hi H Q=>∃tg F ρ σ d r,Good K tg F H ρ σ/\Bor K F H d x/\gCut d lo hi=ZY r/\Res K tg F H ρ σ r Q
theorem sld(hk:X.K=K):SlR X (rsOf K):=by
 intro qv s σ0 H x v vl vu lo hi sl Q I rx hs pl pu z9;obtain⟨tg,F,ρ,σ,d,r,G,bd,eg,q⟩:=z9;subst hk;cases d with
 |tup l=>
  cases eg;obtain⟨a,vs,rfl,ea,hl⟩:=bd.tup
  by_cases hw:HT.sIx vs.length 0 lo=0/\HT.sIx vs.length vs.length hi=vs.length
  ·have ec:cutD l lo hi=l:=by
    unfold cutD;rw[hl.length,hw.1,hw.2,wI,Nat.sub_zero,<-hl.length,qM]
   rw[ec] at q;cases rx;obtain⟨its,r,ht,hz⟩:=I.tuple (SqT.of (G.sub _ _ ea));have hlen:its.toArray.size=vs.length:=by rw[aP];exact r.length.symm
   refine⟨"tuple", _,eE.lookup,ht.typeIs,?_⟩;exact aee ht hs pl pu (by rw[hlen];exact hw.1) (by rw[hlen];exact hw.2) ⟨.ref a,H,I,rfl,Res.same G q (.tup ea hl)⟩
  ·exact a5k qv s σ0 H _ v vl vu lo hi sl Q I rx hs pl pu ⟨a,vs,rfl,SqT.of (G.sub _ _ ea),hw,λp hp=>Res.tup G q (av7 hl lo hi) hp⟩
 |lst l=>
  cases eg;obtain⟨a,vs,rfl,ea,hl⟩:=bd.lst G.sub;exact atk qv s σ0 H _ v vl vu lo hi sl Q I rx hs pl pu ⟨a,vs,rfl,SqL.of ea,λp hp=>Res.lst G q (av7 hl lo hi) hp⟩
 |kst l=>
  cases eg;obtain⟨a,vs,rfl,ea,hl⟩:=bd.kst;exact atk qv s σ0 H _ v vl vu lo hi sl Q I rx hs pl pu ⟨a,vs,rfl,L2.Same.seq G.sub ea,λp hp=>Res.lst G q (av7 hl lo hi) hp⟩
 |_=>cases eg
def am1(i:Nat)(ml mh:M (Option Int)):M Rv:=(dz i).bind λ_=>ml.bind λlo=>mh.bind λhi=>(dz i).bind λd=>lift (gCut d lo hi)
def agb{i:Nat}{ml mh:M (Option Int)}{lo hi:Option cZ}(h:PE X a (tVar i))(hl:EO K X lo ml)(hh:EO K X hi mh):ER K X (.Subscript a (.Slice lo hi ZX p2) pos) (am1 i ml mh):=ER.mk λhk=>PE.imp (axr (sld hk) h (hl hk) (hh hk)) λσ H Q z9=>by
 obtain⟨tg,F,ρ,r,ρ',G,em,q⟩:=z9;obtain⟨d0,ρ0,e0,em⟩:=bw em;obtain⟨o1,ρ2,e2,em⟩:=bw em;obtain⟨o2,ρ3,e3,em⟩:=bw em;obtain⟨d,ρ4,e1,em⟩:=bw em;obtain⟨e4,rfl⟩:=jb em;obtain⟨rfl,v,hv,_⟩:=tu G e0;refine⟨v,hv,tg,F,ρ0,o1,ρ2,G,e2,λH2 F2 G2 x2=>⟨tg,F2,ρ2,o2,_,G2,e3,λH3 F3 G3 x3=>?_⟩⟩
 obtain⟨rfl,v',hv',b'⟩:=tu G3 e1;rw[hv] at hv';cases hv';exact⟨tg,F3,_,σ,d,r,G3,b',e4,λv' H4 F4 G4 x4 rr=>q v' H4 F4 G4 ((x2.trans x3).trans x4) (ym (x2.trans x3) rr)⟩
end
inductive Fl where
 |nx |ret (r:Rv) |brk |cont |exc (x:Exn)
abbrev Sd:=Ro->Option (Fl×Ro)
section
variable{K:Fg9}{X:Cx}{e a b c tgt:cZ}{es:List cZ}{pos p p2:Pos}{st:fD}{ss:List fD}
def FlOk(K:Fg9)(tg:Nat->aU)(ρ:Ro)(σ:L2.St)(F H:Hp)(E:Ends)(fl:Fl)(ρ':Ro):Prop:=match fl with
 |.nx=>∀σ' H' F',Good K tg F' H' ρ' σ'->Ext (Own ρ σ) (Own ρ' σ') F H F' H'->E.nx σ' H'
 |.brk=>∀σ' H' F',Good K tg F' H' ρ' σ'->Ext (Own ρ σ) (Own ρ' σ') F H F' H'->E.bk σ' H'
 |.cont=>∀σ' H' F',Good K tg F' H' ρ' σ'->Ext (Own ρ σ) (Own ρ' σ') F H F' H'->E.ct σ' H'
 |.ret r=>∀v σ' H' F',Good K tg F' H' ρ' σ'->Ext (Own ρ σ) (Own ρ' σ') F H F' H'->relR K r v H (Own ρ σ) F' H' (Own ρ' σ')->E.rt v H'
 |.exc _=>False
def TSd(K:Fg9)(g:Sd):TS:=λE σ H=>∃tg F ρ fl ρ',Good K tg F H ρ σ/\g ρ=ZY (fl,ρ')/\FlOk K tg ρ σ F H E fl ρ'
structure SV (K:Fg9) (X:Cx) (st:fD) (g:Sd):Prop where
 go:X.K=K->PS X st (TSd K g)
instance {K:Fg9} {X:Cx} {st:fD} {g:Sd}:CoeFun (SV K X st g) λ_=>X.K=K->PS X st (TSd K g):=⟨SV.go⟩
structure SVs (K:Fg9) (X:Cx) (ss:List fD) (g:Sd):Prop where
 go:X.K=K->PSs X ss (TSd K g)
instance {K:Fg9} {X:Cx} {ss:List fD} {g:Sd}:CoeFun (SVs K X ss g) λ_=>X.K=K->PSs X ss (TSd K g):=⟨SVs.go⟩
def PS.imp{t t':TS}(h:PS X st t)(w:∀E σ H,t' E σ H->t E σ H):PS X st t':=λqv s σ H E I q=>h qv s σ H E I (w E σ H q)
def PSs.imp{t t':TS}(h:PSs X ss t)(w:∀E σ H,t' E σ H->t E σ H):PSs X ss t':=λqv s σ H E I q=>h qv s σ H E I (w E σ H q)
theorem FlOk.back{tg:Nat->aU}{ρ ρ1 ρ':Ro}{σ σ1:L2.St}{F H F1 H1:Hp}{E:Ends}{fl:Fl}(x:Ext (Own ρ σ) (Own ρ1 σ1) F H F1 H1)(h:FlOk K tg ρ σ F H E fl ρ'):FlOk K tg ρ1 σ1 F1 H1 E fl ρ':=by
 cases fl with
 |nx=>exact λσ' H' F' G' x'=>h σ' H' F' G' (x.trans x')
 |brk=>exact λσ' H' F' G' x'=>h σ' H' F' G' (x.trans x')
 |cont=>exact λσ' H' F' G' x'=>h σ' H' F' G' (x.trans x')
 |ret r=>exact λv σ' H' F' G' x' rr=>h v σ' H' F' G' (x.trans x') (ym x rr)
 |exc _=>exact h
noncomputable def dNx:Sd:=λρ=>ZY (.nx,ρ)
noncomputable def dSeq(g k:Sd):Sd:=λρ=>match g ρ with
 |some (.nx,ρ1)=>k ρ1
 |r=>r
def j5:SVs K X [] dNx:=SVs.mk λ_=>PSs.imp at5 λE σ H z9=>by
 obtain⟨tg,F,ρ,fl,ρ',G,em,q⟩:=z9;cases em;exact q σ H F G (Ext.refl _ _ _)
def az{g:Sd}(h:SV K X st g):SVs K X [st] g:=SVs.mk λhk=>aoo (h hk)
def aq{g k:Sd}(h:SV K X st g)(t:SVs K X ss k):SVs K X (st::ss) (dSeq g k):=SVs.mk λhk=>PSs.imp (ada (h hk) (t hk)) λE σ H z9=>by
 obtain⟨tg,F,ρ,fl,ρ',G,em,q⟩:=z9;unfold dSeq at em;split at em
 ·rename_i ρ1 e1;exact⟨tg,F,ρ,.nx,ρ1,G,e1,λσ' H' F' G' x=>⟨tg,F',ρ1,fl,ρ',G',em,q.back x⟩⟩
 ·rename_i hn;refine⟨tg,F,ρ,fl,ρ',G,em,?_⟩;cases fl with
  |nx=>exact absurd em (hn ρ')
  |brk=>exact q
  |cont=>exact q
  |ret r=>exact q
  |exc _=>exact q
noncomputable def dM{α:Type}(m:M α)(k:α->Sd):Sd:=λρ=>match m ρ with
 |some (.ok x,ρ1)=>k x ρ1
 |some (.exc x,ρ1)=>ZY (.exc x,ρ1)
 |none=>ZX
def xq{α:Type}{m:M α}{k:α->Sd}{ρ ρ':Ro}{fl:Fl}{P:Prop}(h:dM m k ρ=ZY (fl,ρ'))(hx:FlOk K tg ρ0 σ0 F0 H0 E0' fl ρ')(go:∀x ρ1,m ρ=ZY (.ok x,ρ1)->k x ρ1=ZY (fl,ρ')->P):P:=by
 unfold dM at h;split at h
 ·exact go _ _ (by assumption) h
 ·cases h;exact(show False from hx).elim
 ·cases h
noncomputable def dRet(m:M Rv):Sd:=dM m λr ρ=>ZY (.ret r,ρ)
def fj{m:M Rv}(h:ER K X e m):SV K X (.Return (ZY e) pos) (dRet m):=SV.mk λhk=>PS.imp (az1 (h hk)) λE σ H ⟨tg,F,ρ,fl,ρ',G,em,q⟩=>xq em q λr ρ1 e1 em=>by
 cases em;exact⟨tg,F,ρ,r,_,G,e1,λv H' F' G' x rr=>q v σ H' F' G' x rr⟩
noncomputable def dIf(m:M Bool)(g k:Sd):Sd:=dM m λz=>if z=ZW then g else k
theorem vz{m:M Bool}{g k:Sd}{ss':List fD}(h:ET K X c m)(h1:SVs K X ss g)(h2:SVs K X ss' k):SV K X (.If c ss ss' pos) (dIf m g k):=SV.mk λhk=>PS.imp (baz (h hk) (h1 hk) (h2 hk)) λE σ H ⟨tg,F,ρ,fl,ρ',G,em,q⟩=>xq em q λz ρ1 e1 em=>by
 refine⟨tg,F,ρ,z,ρ1,G,e1,λH' F' G' x=>?_⟩
 cases z with
 |true=>exact iteT ⟨tg,F',ρ1,fl,ρ',G',em,q.back x⟩
 |false=>exact iteF ⟨tg,F',ρ1,fl,ρ',G',em,q.back x⟩
def yp{α:Type}(m:M α):Sd:=dM m λ_ ρ=>ZY (.nx,ρ)
def jd{m:M Rv}(h:ER K X e m)(hs:gF e ZX pos.line X.env=pure ZV:=by rfl):SV K X (.Expr e pos) (yp m):=SV.mk λhk=>PS.imp (at8 (h hk) hs) λE σ H ⟨tg,F,ρ,fl,ρ',G,em,q⟩=>xq em q λr ρ1 e1 em=>by
 cases em;exact⟨tg,F,ρ,r,_,G,e1,λv H' F' G' x rr=>q σ H' F' G' x⟩
section
variable{tg:Nat->aU}{F H:Hp}{ρ:Ro}{σ:L2.St}
def ahu{i:Nat}{s:Sl}{v:V}{b:aU}(hl:ρ.length=σ.length)(h:Own (bC ρ i s) (bC σ i (ZY v)) b):Own ρ σ b∨((∃t l,s=.own t l)/\v=.ref b):=by
 obtain⟨j,⟨t,l,e⟩,q⟩:=h;rw[aY] at e q
 by_cases hj:i=j
 ·subst hj;rw[if_pos rfl] at e q;split at e
  ·rename_i hi;rw[if_pos (by rw[<-hl];exact hi)] at q
   cases e;cases q;exact .inr ⟨⟨t,l,rfl⟩,rfl⟩
  ·cases e
 ·rw[if_neg hj] at e q;exact .inl ⟨j,⟨t,l,e⟩,q⟩
def Good.put(G:Good K tg F H ρ σ){s:Sl}{v:V}(i:Nat)(h:SlOk K tg F H s (ZY v))(n:∀t l a,s=.own t l->v=.ref a->¬Own ρ σ a):Good K tg F H (bC ρ i s) (bC σ i (ZY v)) where
 sub:=G.sub
 len:=by rw[cJ,cJ];exact G.len
 sl:=λj s' o e q=>by
  rw[aY] at e q
  by_cases hj:i=j
  ·subst hj;rw[if_pos rfl] at e q;split at e
   ·rename_i hi;rw[if_pos (by rw[<-G.len];exact hi)] at q
    cases e;cases q;exact h
   ·cases e
  ·rw[if_neg hj] at e q;exact G.sl j s' o e q
 inj:=λj k a ⟨⟨t,l,e⟩,q⟩ ⟨⟨t',l',e'⟩,q'⟩=>by
  rw[aY] at e q e' q'
  by_cases hj:i=j
  ·subst hj;rw[if_pos rfl] at e q
   by_cases hk:i=k
   ·exact hk
   ·rw[if_neg hk] at e' q';split at e
    ·rename_i hi;rw[if_pos (by rw[<-G.len];exact hi)] at q
     cases e;cases q;exact absurd ⟨k,⟨t',l',e'⟩,q'⟩ (n t l a rfl rfl)
    ·cases e
  ·rw[if_neg hj] at e q
   by_cases hk:i=k
   ·subst hk;rw[if_pos rfl] at e' q';split at e'
    ·rename_i hi;rw[if_pos (by rw[<-G.len];exact hi)] at q'
     cases e';cases q';exact absurd ⟨j,⟨t,l,e⟩,q⟩ (n t' l' a rfl rfl)
    ·cases e'
   ·rw[if_neg hk] at e' q';exact G.inj j k a ⟨⟨t,l,e⟩,q⟩ ⟨⟨t',l',e'⟩,q'⟩
def Rv.sl:Rv->Sl
 |.v d=>.val d
 |.fr l=>.own ZX l
 |.tf _ _=>.emp
theorem Good.store{F0 H0:Hp}{O:aU->Prop}(G:Good K tg F H ρ σ)(x:Ext O (Own ρ σ) F0 H0 F H){r:Rv}{v:V}(i:Nat)(h:relR K r v H0 O F H (Own ρ σ)) :
  Good K tg F H (bC ρ i r.sl) (bC σ i (ZY v))/\Ext O (Own (bC ρ i r.sl) (bC σ i (ZY v))) F0 H0 F H:=by
 cases r with
 |v d=>
  refine⟨G.put i ⟨v,rfl,h⟩ (λt l a e=>by cases e),x.sub,x.new,x.keep,λb w=>?_,x.there⟩
  rcases ahu G.len w with w |⟨⟨t,l,e⟩,_⟩
  ·exact x.own b w
  ·cases e
 |fr l=>
  obtain⟨a,vs,rfl,ha,hf,hh,hl,hn⟩:=h;refine⟨G.put i ⟨a,vs,rfl,hf,hh,hl,λk e=>by cases e⟩ (λt l' b _ e2=>by cases e2;exact hn),x.sub,x.new,x.keep,λb w=>?_,x.there⟩
  rcases ahu G.len w with w |⟨_,e⟩
  ·exact x.own b w
  ·cases e;exact ha.symm
 |tf d l=>
  refine⟨G.put i trivial (λt l a e=>by cases e),x.sub,x.new,x.keep,λb w=>?_,x.there⟩
  rcases ahu G.len w with w |⟨⟨t,l,e⟩,_⟩
  ·exact x.own b w
  ·cases e
end
def dSet(i:Nat)(m:M Rv):Sd:=dM m λr ρ=>ZY (.nx,bC ρ i r.sl)
def fc{i:Nat}{x:Str}{m:M Rv}(hN:X.N.Nodup)(hi:X.N[i]? = ZY x)(hx:Loc X.env.scope x)(h:ER K X e m)(hs:gF e (ZY (.Name x p)) pos.line X.env=pure ZV:=by rfl)(hf:X.fn x=ZW∨X.env.scope.names.lookup x=ZY .local:=by first |exact .inl rfl |exact .inr rfl |assumption) :
  SV K X (.Assign [.Name x p] e pos) (dSet i m):=SV.mk λhk=>PS.imp (aqa hN hi hx (h hk) hs hf) λE σ H ⟨tg,F,ρ,fl,ρ',G,em,q⟩=>xq em q λr ρ1 e1 em=>by
 cases em;refine⟨tg,F,ρ,r,ρ1,G,e1,λv H' F' G' x rr=>?_⟩
 obtain⟨G2,x2⟩:=G'.store x i rr;exact q _ H' F' G2 x2
def TGd(K:Fg9)(b:D->Ro->Option Ro):TG:=λv σ H Q=>∃tg F ρ d ρ',Good K tg F H ρ σ/\Is K F d v/\b d ρ=ZY ρ'/\∀σ' H' F',Good K tg F' H' ρ' σ'->Ext (Own ρ σ) (Own ρ' σ') F H F' H'->Q σ' H'
structure GV (K:Fg9) (X:Cx) (e:cZ) (b:D->Ro->Option Ro):Prop where
 go:X.K=K->PG X e (TGd K b)
instance {K:Fg9} {X:Cx} {e:cZ} {b:D->Ro->Option Ro}:CoeFun (GV K X e b) λ_=>X.K=K->PG X e (TGd K b):=⟨GV.go⟩
def PG.imp{t t':TG}(h:PG X e t)(w:∀v σ H Q,t' v σ H Q->t v σ H Q):PG X e t':=λqv s σ H v u Q I r q=>h qv s σ H v u Q I r (w v σ H Q q)
def cz(i:Nat):D->Ro->Option Ro:=λd ρ=>ZY (bC ρ i (.val d))
def Good.storeV{tg:Nat->aU}{F H:Hp}{ρ:Ro}{σ:L2.St}(G:Good K tg F H ρ σ){d:D}{v:V}(i:Nat)(h:Is K F d v):Good K tg F H (bC ρ i (.val d)) (bC σ i (ZY v))/\Ext (Own ρ σ) (Own (bC ρ i (.val d)) (bC σ i (ZY v))) F H F H :=
 G.store (r:=.v d) (Ext.refl _ _ _) i h
def dw{i:Nat}{x:Str}(hN:X.N.Nodup)(hi:X.N[i]? = ZY x)(hx:Loc X.env.scope x)(hf:X.fn x=ZW∨X.env.scope.names.lookup x=ZY .local:=by first |exact .inl rfl |exact .inr rfl |assumption):GV K X (.Name x pos) (cz i):=GV.mk λ_=>PG.imp (a1w hN hi hx hf) λv σ H Q z9=>by
 obtain⟨tg,F,ρ,d,ρ',G,h,em,q⟩:=z9;cases em;obtain⟨G2,x2⟩:=G.storeV i h;exact q _ H F G2 x2
def TGsd(K:Fg9)(b:List D->Ro->Option Ro):TGs:=λvs σ H Q=>∃tg F ρ ds ρ',Good K tg F H ρ σ/\IsL K F ds vs/\b ds ρ=ZY ρ'/\∀σ' H' F',Good K tg F' H' ρ' σ'->Ext (Own ρ σ) (Own ρ' σ') F H F' H'->Q σ' H'
structure GVs (K:Fg9) (X:Cx) (es:List cZ) (b:List D->Ro->Option Ro):Prop where
 go:X.K=K->PGs X es (TGsd K b)
instance {K:Fg9} {X:Cx} {es:List cZ} {b:List D->Ro->Option Ro}:CoeFun (GVs K X es b) λ_=>X.K=K->PGs X es (TGsd K b):=⟨GVs.go⟩
def PGs.imp{t t':TGs}(h:PGs X es t)(w:∀v σ H Q,t' v σ H Q->t v σ H Q):PGs X es t':=λqv s σ H v u Q I r q=>h qv s σ H v u Q I r (w v σ H Q q)
noncomputable def bNil:List D->Ro->Option Ro:=λds ρ=>match ds with
 | []=>ZY ρ
 |_=>ZX
def kj(b:D->Ro->Option Ro)(bs:List D->Ro->Option Ro):List D->Ro->Option Ro:=λds ρ=>match ds with
 |d::r=>(b d ρ).bind (bs r)
 |_=>ZX
theorem abq:GVs K X [] bNil:=GVs.mk λ_=>PGs.imp a1v λvs σ H Q z9=>by
 obtain⟨tg,F,ρ,ds,ρ',G,h,em,q⟩:=z9;cases ds with
 |nil=>cases em;cases h;exact⟨rfl,q σ H F G (Ext.refl _ _ _)⟩
 |cons _ _=>cases em
theorem jz{b:D->Ro->Option Ro}{bs:List D->Ro->Option Ro}(h1:GV K X e b)(h2:GVs K X es bs)(hs:(iH (e::es) X.env).map (·.2)=mH e X.env::(iH es X.env).map (·.2):=by rfl):GVs K X (e::es) (kj b bs):=GVs.mk λhk=>PGs.imp (axn (h1 hk) (h2 hk) hs) λvs σ H Q z9=>by
 obtain⟨tg,F,ρ,ds,ρ',G,h,em,q⟩:=z9;cases h with
 |nil=>cases em
 | @cons d v ds vs hd ht=>
  have em:(b d ρ).bind (bs ds)=ZY ρ':=em;cases e1:b d ρ with
  |none=>rw[e1] at em;cases em
  |some ρ1=>
   rw[e1] at em;exact⟨v,vs,rfl,tg,F,ρ,d,ρ1,G,hd,e1,λσ' H' F' G' x=>⟨tg,F',ρ1,ds,ρ',G',ht.mono x.sub,em,λσ2 H2 F2 G2 x2=>q σ2 H2 F2 G2 (x.trans x2)⟩⟩
def bTup(n:Nat)(bs:List D->Ro->Option Ro):D->Ro->Option Ro:=λd ρ=>match d with
 |.tup l=>if l.length=n then bs l ρ else ZX
 |_=>ZX
theorem ae7{k n:Nat}{bs:List D->Ro->Option Ro}(hc:X.calm=ZW)(h:GVs K X es bs)(hn:(iH es X.env).length=n:=by rfl)(hst:(iH es X.env).findIdx? (·.1)=ZX:=by rfl):GV K X (.Tuple es k pos) (bTup n bs):=GV.mk λhk=>PG.imp (a6b hc (h hk) hn hst) λv σ H Q z9=>by
 obtain⟨tg,F,ρ,d,ρ',G,hd,em,q⟩:=z9;cases hd with
 | @tup a vs ds e hl=>
  have em:(if ds.length=n then bs ds ρ else ZX)=ZY ρ':=em
  split at em
  ·rename_i hz;exact⟨a,vs,rfl,SqT.of (G.sub _ _ e),by rw[<-hl.length];exact hz,tg,F,ρ,ds,ρ',G,hl,em,q⟩
  ·cases em
 |_=>cases em
def dAsg(m:M D)(b:D->Ro->Option Ro):Sd:=dM m λd ρ=>(b d ρ).map λρ'=>(.nx,ρ')
theorem a5f{m:M D}{b:D->Ro->Option Ro}(h:EV K X e m)(hg:GV K X tgt b)(hs:swapsWithSole [tgt] e pos.line X.env=pure ZV:=by rfl)(hw:swappedStores [tgt] e X.env=pure ZX:=by rfl)
  (h1:(iH [tgt] X.env).map (·.2)=[mH tgt X.env]:=by rfl):SV K X (.Assign [tgt] e pos) (dAsg m b):=SV.mk λhk=>PS.imp (az3 (h hk) (hg hk) hs hw h1) λE σ H ⟨tg,F,ρ,fl,ρ',G,em,q⟩=>xq em q λd ρ1 e1 em=>by
 refine⟨tg,F,ρ,d,ρ1,G,e1,λv H' F' G' x r=>?_⟩
 cases e2:b d ρ1 with
 |none=>rw[e2] at em;cases em
 |some ρ2=>
  rw[e2] at em;cases em;exact⟨tg,F',ρ1,d,_,G',r,e2,λσ2 H2 F2 G2 x2=>q σ2 H2 F2 G2 (x.trans x2)⟩
def Good.mut{tg:Nat->aU}{F H:Hp}{ρ:Ro}{σ:L2.St}(G:Good K tg F H ρ σ){i:Nat}{t:Option Nat}{l l':List D}{a:aU}{ys:List V}(e:(ρ:List Sl)[i]? = ZY (.own t l))(q:σ[i]? = ZY (ZY (.ref a)))(h:IsL K F l' ys) :
  Good K tg F (upd H a (.lst ys)) (bC ρ i (.own t l')) σ/\Ext (Own ρ σ) (Own (bC ρ i (.own t l')) σ) F H F (upd H a (.lst ys)):=by
 obtain⟨a',vs,e1,hf,hh,hl,ht⟩:=G.sl i _ _ e q;cases e1;have ow:∀j b,Owns (bC ρ i (.own t l')) σ j b->Owns ρ σ j b:=λj b ⟨⟨t2,l2,e2⟩,q2⟩=>by
  rw[aY] at e2
  by_cases hj:i=j
  ·subst hj;exact⟨⟨t,l,e⟩,q2⟩
  ·rw[if_neg hj] at e2;exact⟨⟨t2,l2,e2⟩,q2⟩
 have me:Own ρ σ a:=⟨i,⟨t,l,e⟩,q⟩;refine⟨⟨λb o z=>?_,by rw[cJ];exact G.len,λj s o e2 q2=>?_,λj k b w1 w2=>G.inj j k b (ow _ _ w1) (ow _ _ w2)⟩,Same.refl F,λ_ _ z=>.inl z,λb o z n=>?_,λb ⟨j,w⟩=>.inl ⟨j,ow j b w⟩,λb z=>?_⟩
 ·have hb:b≠a:=λz2=>by
   subst z2;rw[hf] at z;cases z
  rw[cg hb];exact G.sub b o z
 ·rw[aY] at e2
  by_cases hj:i=j
  ·subst hj;rw[if_pos rfl] at e2;split at e2
   ·cases e2;rw[q] at q2;cases q2;exact⟨a,ys,rfl,hf,f9,h,ht⟩
   ·cases e2
  ·rw[if_neg hj] at e2;have z:=G.sl j s o e2 q2;cases s with
   |emp=>trivial
   |val d=>exact z
   |lol ts=>exact z
   |lnk k=>exact z
   |box c fs=>
    obtain⟨b,C,dx,fvs,e1,e2,e3,e4⟩:=z;have hb:b≠a:=λz2=>by
     subst z2;rw[e3] at hh;cases hh
    exact⟨b,C,dx,fvs,e1,e2,by rw[cg hb];exact e3,e4⟩
   |own t2 l2=>
    obtain⟨b,ws,e3,hf3,hh3,hl3,ht3⟩:=z;have hb:b≠a:=λz2=>by
     subst z2;exact hj (G.inj i j b ⟨⟨t,l,e⟩,q⟩ ⟨⟨t2,l2,e2⟩,by rw[q2,e3]⟩)
    exact⟨b,ws,e3,hf3,by rw[cg hb];exact hh3,hl3,ht3⟩
 ·have hb:b≠a:=λz2=>n (z2▸me)
  rw[cg hb];exact z
 ·by_cases hb:b=a
  ·subst hb;rw[f9] at z;cases z
  ·rw[cg hb] at z;exact z
def mOwn(i:Nat):M (List D):=λρ=>match ρ[i]? with
 |some (.own _ l)=>ZY (.ok l,ρ)
 |_=>ZX
def ahv{tg:Nat->aU}{F H:Hp}{ρ ρ':Ro}{σ:L2.St}(G:Good K tg F H ρ σ){i:Nat}{l:List D}(em:mOwn i ρ=ZY (.ok l,ρ')):ρ'=ρ/\∃t a xs,(ρ:List Sl)[i]? = ZY (.own t l)/\σ[i]? = ZY (ZY (.ref a))/\H a=ZY (.lst xs)/\IsL K F l xs:=by
 unfold mOwn at em;split at em
 ·rename_i t l' e';cases em;obtain⟨o,ho,a,vs,rfl,hf,hh,hl,_⟩:=G.at e';exact⟨rfl,t,a,vs,e',ho,hh,hl⟩
 ·cases em
def ae3(i:Nat)(l':List D):M Unit:=λρ=>match ρ[i]? with
 |some (.own t _)=>ZY (.ok (),bC ρ i (.own t l'))
 |_=>ZX
def mMut(i:Nat)(g:List D->List D->Option (D×List D))(ms:M (List D)):M D:=(mOwn i).bind λ_=>ms.bind λds=>(mOwn i).bind λl=>(lift (g l ds)).bind λr=>(ae3 i r.2).bind λ_=>ret r.1
def MutD(K:Fg9)(r:V->List V->Hp->VK->Prop)(g:List D->List D->Option (D×List D)):Prop :=
 ∀(F H:Hp) (a:aU) (xs vs:List V) (l ds:List D) (d:D) (l':List D) (Q:VK),Same F H->H a=ZY (.lst xs)->xs.length<=capS->IsL K F l xs->IsL K F ds vs->g l ds=ZY (d,l')->(∀v ys,Is K F d v->IsL K F l' ys->Q v (upd H a (.lst ys)))->r (.ref a) vs H Q
def ao1{tg:Nat->aU}{F H:Hp}{ρ ρ2:Ro}{σ:L2.St}(G:Good K tg F H ρ σ){i:Nat}{l':List D}{u:Unit}{a:aU}{ys:List V}(e:ae3 i l' ρ=ZY (.ok u,ρ2))(q:σ[i]? = ZY (ZY (.ref a)))(h:IsL K F l' ys) :
  Good K tg F (upd H a (.lst ys)) ρ2 σ/\Ext (Own ρ σ) (Own ρ2 σ) F H F (upd H a (.lst ys)):=by
 unfold ae3 at e;split at e
 ·rename_i t l e';cases e;exact G.mut e' q h
 ·cases e
def agp{i:Nat}{name:Str}{id:String}{r:V->List V->Hp->VK->Prop}{g:List D->List D->Option (D×List D)}{ms:M (List D)}{apos cpos:Pos}(hr:MutD K r g)(slot:Slot "list" name id)(hty:typeOf (.builtin id)=pure (.type "method_descriptor"))(hm:MtR X id r)(ho:PE X a (tVar i))(ha:ED K X (e::es) ms)
  (hbase:iB a name X.env (eval a X.env)=eval a X.env:=by rfl)
  (hfew:((fV cpos (aO (e::es) X.env)).all (λx => !x.1)&&(backToKw cpos (keywordEach [] X.env)).all (λx=>x.1.isSome)
   && decide ((e::es).length+([]:List oZ).length+(if ([]:List oZ).isEmpty then 0 else 1)<30))=ZW:=by rfl)
  (hline:(apos.endLine==cpos.line)=ZW:=by rfl) (hs:Zc X e es:=by rfl) (hplain:(fV cpos (aO es X.env)).any (·.1)=ZV:=by rfl) :
  EV K X (.Call (.Attribute a name apos) (e::es) [] cpos) (mMut i g ms):=EV.mk λhk=>by
 intro qv s σ H Q I z9;obtain⟨tg,F,ρ,d,ρ',G,em,q⟩:=z9;obtain⟨l0,ρ0,e0,em1⟩:=bw em;obtain⟨ds,ρ1,e1,em2⟩:=bw em1;obtain⟨l,ρ2,e2,em3⟩:=bw em2;obtain⟨x,ρ3,e3,em4⟩:=bw em3;obtain⟨u,ρ4,e4,em5⟩:=bw em4;obtain⟨rfl,rfl⟩:=j0 em5;obtain⟨eg,rfl⟩:=jb e3;obtain⟨rfl,t0,b,xs0,es0,hv,hh0,hl0⟩:=ahv G e0;refine axx (r:=λx vs H Q=>(∀b xs,x=.ref b->H b=ZY (.lst xs)->xs.length<=capS)->r x vs H Q) mY slot hty (λqv s σ H x xs v us Q I rx rv h=>hm qv s σ H x xs v us Q I rx rv (h λb xs _ hb=>?_)) ho (ha hk) hbase hfew hline hs hplain qv s σ H Q I ?_
 ·obtain⟨z,_⟩:=I.lstM hb;rw[eN] at z;exact z
 refine⟨_,hv,.inl ⟨rfl,_,SqL.of hh0⟩,tg,F,ρ0,ds,ρ1,G,e1,λvs H1 F1 G1 x1 r1 cap=>?_⟩
 obtain⟨rfl,t,a',xs,es',hv',hh,hl⟩:=ahv G1 e2;rw[hv] at hv';cases hv';refine hr F1 H1 _ xs vs l ds x.1 x.2 Q G1.sub hh (cap _ _ rfl hh) hl r1 eg λw ys iw il=>?_
 obtain⟨G2,x2⟩:=ao1 G1 e4 hv il;exact q w _ F1 G2 (x1.trans x2) iw
def aav(l ds:List D):Option (D×List D):=match ds with
 | [d]=>if l.length<capS then ZY (.non,l++[d]) else ZX
 |_=>ZX
theorem um:MutD K at4 aav:=by
 intro F H a xs vs l ds d l' Q g hh hc hl hd eg q
 match ds,eg with
 | [d1],eg=>
  have eg:(if l.length<capS then ZY (D.non,l++[d1]) else ZX)=ZY (d,l'):=eg
  split at eg
  ·rename_i hz;cases eg;cases hd with
   |cons h t=>
    cases t;exact⟨a,xs,_,rfl,rfl,hh,by rw[eN,<-hl.length];exact hz,q _ _ .non (hl.append (.cons h .nil))⟩
  ·cases eg
def dSub(i:Nat)(mi m:M D):Sd:=dM m λd=>dM (mOwn i) λ_=>dM mi λk=>dM (mOwn i) λl=>dM (lift ((asI k).bind (ixN l.length))) λj=>dM (ae3 i (l.set j d)) λ_=>dNx
theorem al8{i:Nat}{mi m:M D}(h:EV K X e m)(ho:PE X a (tVar i))(hi:EV K X b mi)(hs:swapsWithSole [.Subscript a b p] e pos.line X.env=pure ZV:=by rfl)(hw:swappedStores [.Subscript a b p] e X.env=pure ZX:=by rfl)
  (h1:(iH [.Subscript a b p] X.env).map (·.2)=[mH (.Subscript a b p) X.env]:=by rfl)
  (ha:∀v,mH (.Subscript a b p) X.env v=(do
   let ov <-lN [v] (eval a X.env)
   let iv <-lN [v,ov] (eval b X.env)
   standAt p
   lN [v,ov,iv] (setItem ov iv v)
   release [v,ov,iv] []):=by intro _;rfl):SV K X (.Assign [.Subscript a b p] e pos) (dSub i mi m):=SV.mk λhk=>PS.imp (az3 (h hk) (a6c ho (hi hk) set_list ha) hs hw h1) λE σ H ⟨tg,F,ρ,fl,ρ',G,em,q⟩=>
 xq em q λd ρ1 e1 em=>xq em q λl0 ρ0 e0 em=>xq em q λk ρ2 e2 em=>xq em q λl ρ3 e3 em=>xq em q λj ρ4 e4 em=>xq em q λu ρ5 e5 em=>by
 cases em;obtain⟨e6,rfl⟩:=jb e4;refine⟨tg,F,ρ,d,ρ1,G,e1,λv H1 F1 G1 x1 r1=>?_⟩
 obtain⟨rfl,t0,a0,xs0,es0,hv,hh0,hl0⟩:=ahv G1 e0;refine⟨_,hv,tg,F1,_,k,ρ2,G1,e2,λw H2 F2 G2 x2 r2=>?_⟩
 obtain⟨rfl,t,a1,xs,es1,hv',hh,hl⟩:=ahv G2 e3;rw[hv] at hv';cases hv';cases ek:asI k with
 |none=>rw[ek] at e6;cases e6
 |some n=>
  rw[ek] at e6;obtain rfl:=agr ek;cases r2;obtain⟨G3,x3⟩:=ao1 G2 e5 hv (hl.set (r1.mono x2.sub) j);exact⟨_,xs,n,j,rfl,rfl,hh,by rw[<-hl.length];exact e6,q _ _ F2 G3 ((x1.trans x2).trans x3)⟩
def dAug(f:Int->Int->Int)(i:Nat)(m:M D):Sd:=dM (mVar i) λx=>dM m λy=>dM (lift ((asI x).bind λn=>(asI y).map λk=>D.int (f n k))) λz ρ=>ZY (.nx,bC ρ i (.val z))
theorem a5e{f:Int->Int->Int}{op:mC}{i:Nat}{x:Str}{m:M D}(hN:X.N.Nodup)(hi:X.N[i]? = ZY x)(hx:Loc X.env.scope x)(h:EV K X e m)(ho:PIp X op (ipI f))(hf:X.fn x=ZW∨X.env.scope.names.lookup x=ZY .local:=by first |exact .inl rfl |exact .inr rfl |assumption) :
  SV K X (.AugAssign (.Name x p) op e pos) (dAug f i m):=SV.mk λhk=>PS.imp (a5z hN hi hx (h hk) ho hf) λE σ H ⟨tg,F,ρ,fl,ρ',G,em,q⟩=>xq em q λd ρ1 e1 em=>xq em q λd2 ρ2 e2 em=>xq em q λz ρ3 e3 em=>by
 cases em;obtain⟨e4,rfl⟩:=jb e3;cases ed:asI d with
 |none=>rw[ed] at e4;cases e4
 |some n=>
  rw[ed] at e4;obtain rfl:=agr ed;cases ed2:asI d2 with
  |none=>rw[ed2] at e4;cases e4
  |some k=>
   rw[ed2] at e4;obtain rfl:=agr ed2;cases e4;unfold mVar at e1;split at e1
   ·rename_i d' es';cases e1;obtain⟨o,ho',v,rfl,hv⟩:=G.at es';cases hv;refine⟨_,ho',tg,F,ρ,_,_,G,e2,λy H1 F1 G1 x1 r1=>?_⟩
    cases r1;obtain⟨G2,x2⟩:=G1.storeV i (Is.int (f n k));exact⟨n,k,rfl,rfl,q _ H1 F1 G2 (x1.trans x2)⟩
   ·cases e1
   ·cases e1
end
section
variable{K:Fg9}{X:Cx}{e a b c tgt iter elt:cZ}{es:List cZ}{pos p p2:Pos}{st:fD}{ss:List fD}
def _root_.Mn.ItOf.imp{J:It}{xs:List V}{S S':Hp->Prop}(Z:ItOf J xs S)(h:∀H,S' H->S H):ItOf J xs S':=⟨λi H q=>Z.go i H (h H q),λi H x H' q=>Z.yld i H x H' (h H q),λi H q=>Z.stop i H (h H q)⟩
def Alt(K:Fg9)(F:Hp)(d:D)(x:V)(H H':Hp):Prop:=(H'=H/\Is K F d x)∨∃q vs ds,H q=ZX/\x=.ref q/\H'=upd H q (.tup vs)/\d=.tup ds/\IsL K F ds vs
structure ItD (K:Fg9) (J:It) (l:List D) (F:Hp):Prop where
 go:∀i H,Same F H->i<l.length->J.go i H
 yld:∀i H x H' d,Same F H->J.yld i H x H'->l[i]? = ZY d->Alt K F d x H H'
 stop:∀H,Same F H->J.stop l.length H
def ItD.of{J:It}{l:List D}{vs:List V}{F:Hp}(il:IsL K F l vs)(Z:ItOf J vs λH2=>Same F H2):ItD K J l F where
 go:=λi H s hi=>Z.go i H s (by rw[<-il.length];exact hi)
 yld:=λi H x H' d s y hd=>by
  obtain⟨v,hv,iv⟩:=il.get hd;obtain⟨e,z⟩:=Z.yld i H x H' s y;have:=z (aH.mp hv).1;rw[hv] at this;cases this;exact .inl ⟨e,iv⟩
 stop:=λH s=>Z.stop _ H s (by rw[<-il.length];exact aM _)
def arc{tg:Nat->aU}{O:aU->Prop}{F H F1 F2 H2 H3:Hp}{ρ2:Ro}{σ2:L2.St}{d:D}{x:V}(G2:Good K tg F2 H2 ρ2 σ2)(x2:Ext O (Own ρ2 σ2) F H F2 H2)(s2:Same F1 F2)(a:Alt K F1 d x H2 H3) :
  ∃F3,Good K tg F3 H3 ρ2 σ2/\Ext O (Own ρ2 σ2) F H F3 H3/\Same F1 F3/\Is K F3 d x/\Ext (Own ρ2 σ2) (Own ρ2 σ2) F2 H2 F3 H3:=by
 rcases a with⟨rfl,id⟩ |⟨q,vs,ds,hq,rfl,rfl,rfl,il⟩
 ·exact⟨F2,G2,x2,s2,id.mono s2,Ext.refl _ _ _⟩
 ·have z:=G2.newX hq (.tup vs);exact⟨_,G2.new hq _,x2.trans z,s2.trans z.sub,.tup f9 (il.mono (s2.trans z.sub)),z⟩
def a3m{J:It}{l:List D}{F:Hp}(Z:ItD K J l F){g:TG}{tb:TS}{D':Ends}{σ:L2.St}{H:Hp}(Pv:Nat->L2.St->Hp->Prop)(h0:Pv 0 σ H)(hl:∀i σ H,i<=l.length->Pv i σ H->Same F H)
  (hs:∀i d x σ H H',l[i]? = ZY d->Pv i σ H->Alt K F d x H H'->g x σ H' λσ2 H2=>tb { D' with nx:=Pv (i+1),ct:=Pv (i+1),bk:=D'.nx } σ2 H2) (hd:∀σ H,Pv l.length σ H->D'.nx σ H) :
  ∃W:Nat->Nat->L2.St->Hp->Prop,(∃m,W 0 m σ H)/\∀i m σ H,W i m σ H ->
   (J.stop i H/\D'.nx σ H)∨(J.go i H/\∃N:L2.St->Hp->Prop,(∀σ' H',N σ' H'->∃m',m'<m/\W (i+1) m' σ' H')/\∀x H',J.yld i H x H'->g x σ H' λσ2 H2=>tb { D' with nx:=N,ct:=N,bk:=D'.nx } σ2 H2):=by
 refine⟨λi m σ H=>m=l.length-i/\i<=l.length/\Pv i σ H,⟨l.length,by simp,fJ _,h0⟩,?_⟩
 rintro i m σ H ⟨rfl,hi,p⟩
 have q:=hl i σ H hi p
 by_cases hlt:i<l.length
 ·exact .inr ⟨Z.go i H q hlt,Pv (i+1),λσ' H' p'=>⟨l.length-(i+1),by omega,rfl,hlt,p'⟩,λx H' y=>hs i _ x σ H H' (aF hlt) p (Z.yld i H x H' _ q y (aF hlt))⟩
 ·have e:i=l.length:=by omega
  subst e;exact .inl ⟨Z.stop H q,hd σ H p⟩
def ay8{J:It}{l:List D}{F:Hp}(Z:ItD K J l F){d:aU}{g:TG}{ti:TT}{te:TE}{Q:VK}{σ0:L2.St}{H1:Hp}(Pv:Nat->List V->L2.St->Hp->Prop)(h0:Pv 0 [] σ0 (upd H1 d (.lst [])))
  (hl:∀i ys σ H,i<=l.length->Pv i ys σ H->Same F H/\H d=ZY (.lst ys))
  (hs:∀i e x ys σ H H' (M:List V->L2.St->Hp->Prop),l[i]? = ZY e->Pv i ys σ H->Alt K F e x H H'->(∀ys' σ' H',Pv (i+1) ys' σ' H'->M ys' σ' H') ->
   g x σ H' λσ4 H4=>ti σ4 H4 λb H5=>if b=ZW then te σ4 H5 λy H6=>H6 d=ZY (.lst ys)/\ys.length<cF/\M (ys++[y]) σ4 (upd H6 d (.lst (ys++[y]))) else M ys σ4 H5)
  (hd:∀ys σ H,Pv l.length ys σ H->Q (.ref d) H):a9c J g ti te Q d σ0 H1:=by
 refine⟨λi m ys σ H=>m=l.length-i/\i<=l.length/\Pv i ys σ H,⟨l.length,by simp,fJ _,h0⟩,?_⟩
 rintro i m ys σ H ⟨rfl,hi,p⟩
 obtain⟨q,e⟩:=hl i ys σ H hi p;refine⟨e,?_⟩
 by_cases hlt:i<l.length
 ·exact .inr ⟨Z.go i H q hlt,λx H' y=>hs i _ x ys σ H H' (λys' σ' H'=>∃m',m'<l.length-i/\(m'=l.length-(i+1)/\i+1<=l.length/\Pv (i+1) ys' σ' H')) (aF hlt) p (Z.yld i H x H' _ q y (aF hlt)) λys' σ' H' p'=>⟨l.length-(i+1),by omega,rfl,hlt,p'⟩⟩
 ·have e:i=l.length:=by omega
  subst e;exact .inl ⟨Z.stop H q,hd ys σ H p⟩
def TIt(K:Fg9)(m:M (List D)):TI:=λσ H R=>∃tg F ρ l ρ',Good K tg F H ρ σ/\m ρ=ZY (.ok l,ρ')/\∀J H' F',Good K tg F' H' ρ' σ->Ext (Own ρ σ) (Own ρ' σ) F H F' H'->ItD K J l F'->R J H'
structure IT (K:Fg9) (X:Cx) (tgt iter:cZ) (m:M (List D)):Prop where
 go:X.K=K->PI X tgt iter (TIt K m)
instance {K:Fg9} {X:Cx} {tgt iter:cZ} {m:M (List D)}:CoeFun (IT K X tgt iter m) λ_=>X.K=K->PI X tgt iter (TIt K m):=⟨IT.go⟩
def qm(m:M D):M (List D):=m.bind λd=>lift (itemsD d)
theorem yo{m:M D}(h:EV K X iter m):IT K X tgt iter (qm m):=IT.mk λhk=>by
 intro qv s σ H R I z9;obtain⟨tg,F,ρ,l,ρ',G,em,q⟩:=z9;obtain⟨d,ρ1,e1,em⟩:=bw em;obtain⟨e2,rfl⟩:=jb em;have h:=h hk;subst hk;cases d with
 |tup k=>
  cases e2;refine a6a h qv s σ H R I ⟨tg,F,ρ,_,_,G,e1,λv H' F' G' x r=>?_⟩
  cases r with
  | @tup a vs _ e hl=>exact⟨a,rfl,⟨vs,SqT.of (G'.sub _ _ e)⟩,q _ H' F' G' x (.of hl (ays.imp λH2 g=>SqT.of (g _ _ e)))⟩
 |lst k=>
  cases e2;refine aud h qv s σ H R I ⟨tg,F,ρ,_,_,G,e1,λv H' F' G' x r=>?_⟩
  cases r with
  | @lst a vs _ e hl=>exact⟨a,rfl,⟨vs,SqL.of (G'.sub _ _ e)⟩,q _ H' F' G' x (.of hl (aqn.imp λH2 g=>SqL.of (g _ _ e)))⟩
 |kst k=>
  cases e2;refine aud h qv s σ H R I ⟨tg,F,ρ,_,_,G,e1,λv H' F' G' x r=>?_⟩
  cases r with
  | @kst a vs _ e hl=>exact⟨a,rfl,⟨vs,L2.Same.seq G'.sub e⟩,q _ H' F' G' x (.of hl (aqn.imp λH2 g=>L2.Same.seq g e))⟩
 |_=>cases e2
def rangeD(lo:Int)(n:Nat):List D:=(aV n).map λi=>D.int (lo+(i:Nat))
def ap8{F:Hp}(lo:Int)(n:Nat):IsL K F (rangeD lo n) (ups lo n):=by
 have e1:rangeD lo n=((aV n).map λi=>lo+((i:Nat):Int)).map D.int:=by unfold rangeD;rw[eV];rfl
 have e2:ups lo n=((aV n).map λi=>lo+((i:Nat):Int)).map V.int:=by unfold ups;rw[eV];rfl
 rw[e1,e2];exact ae5 _
def asv{j:Int}(h:j.natAbs<4611686018427387904) : -2 ^ 62<=j/\j<2 ^ 62:=by
 have e:(2:Int) ^ 62=4611686018427387904:=by decide
 rw[e];omega
def qt:List D->Option (List D)
 | [.int j]=>if j.natAbs<4611686018427387904 then ZY (rangeD 0 j.toNat) else ZX
 |_=>ZX
def alq:List D->Option (List D)
 | [.int i,.int j]=>if i.natAbs<4611686018427387904/\j.natAbs<4611686018427387904 then ZY (rangeD i (j-i).toNat) else ZX
 |_=>ZX
def mGet{α β:Type}(g:α->Option β)(m:M α):M β:=m.bind λds=>lift (g ds)
def qz{m:M (List D)}(hg:Gl X "range")(hm:X.mg "range"=ZX)(h:ED K X [a] m)(hs:aO [a] X.env=[(ZV,eval a X.env)]:=by rfl):IT K X tgt (.Call (.Name "range" p) [a] [] pos) (mGet qt m):=IT.mk λhk=>by
 intro qv s σ H R I z9;obtain⟨tg,F,ρ,l,ρ',G,em,q⟩:=z9;obtain⟨ds,ρ1,e1,em⟩:=bw em;obtain⟨e2,rfl⟩:=jb em;refine auc hg hm (h hk) hs qv s σ H R I ⟨tg,F,ρ,ds,_,G,e1,λvs H' F' G' x r=>?_⟩
 unfold qt at e2;split at e2
 ·split at e2
  ·rename_i j hc;cases e2;cases r with
   |cons h t=>
    cases t;cases h;exact⟨_,rfl,(asv hc).1,(asv hc).2,q _ H' F' G' x (.of (ap8 0 _) (aqm.imp λ_ _=>trivial))⟩
  ·cases e2
 ·cases e2
def avc{m:M (List D)}(hg:Gl X "range")(hm:X.mg "range"=ZX)(h:ED K X [a,b] m)(hs:aO [a,b] X.env=[(ZV,eval a X.env),(ZV,eval b X.env)]:=by rfl)(hs2:aO [b] X.env=[(ZV,eval b X.env)]:=by rfl):IT K X tgt (.Call (.Name "range" p) [a,b] [] pos) (mGet alq m):=IT.mk λhk=>by
 intro qv s σ H R I z9;obtain⟨tg,F,ρ,l,ρ',G,em,q⟩:=z9;obtain⟨ds,ρ1,e1,em⟩:=bw em;obtain⟨e2,rfl⟩:=jb em;refine aub hg hm (h hk) hs hs2 qv s σ H R I ⟨tg,F,ρ,ds,_,G,e1,λvs H' F' G' x r=>?_⟩
 unfold alq at e2;split at e2
 ·split at e2
  ·rename_i i j hc;cases e2;cases r with
   |cons h t=>
    cases t with
    |cons h2 t=>
     cases t;cases h;cases h2;exact⟨_,_,rfl,⟨(asv hc.1).1,(asv hc.1).2,(asv hc.2).1,(asv hc.2).2⟩,q _ H' F' G' x (.of (ap8 _ _) (aqm.imp λ_ _=>trivial))⟩
  ·cases e2
 ·cases e2
noncomputable def forD(b:D->Ro->Option Ro)(g:Sd):List D->Sd
 | [],ρ=>ZY (.nx,ρ)
 |d::ds,ρ=>match b d ρ with
  |none=>ZX
  |some ρ1=>match g ρ1 with
   |some (.nx,ρ2)=>forD b g ds ρ2
   |some (.cont,ρ2)=>forD b g ds ρ2
   |some (.brk,ρ2)=>ZY (.nx,ρ2)
   |some (.ret r,ρ2)=>ZY (.ret r,ρ2)
   |some (.exc x,ρ2)=>ZY (.exc x,ρ2)
   |none=>ZX
def dFor(m:M (List D))(b:D->Ro->Option Ro)(g:Sd):Sd:=dM m (forD b g)
def zg{m:M (List D)}{b:D->Ro->Option Ro}{g:Sd}(hp:qX (bZ X.prog X.w) X.A X.env X.xe)(hc:X.calm=ZW)(hi:IT K X tgt iter m)(hg:GV K X tgt b)(hb:SVs K X ss g)
  (hs:∀x,eQ iter X.env x=pure x:=by intro _;rfl):SV K X (.For tgt iter ss [] pos) (dFor m b g):=SV.mk λhk=>PS.imp (a5y hp hc (hi hk) (hg hk) (hb hk) hs) λE σ H ⟨tg,F,ρ,fl,ρ',G,em,q⟩=>xq em q λl ρ1 e1 em=>by
 refine⟨tg,F,ρ,l,ρ1,G,e1,λJ H1 F1 G1 x1 Z=>?_⟩
 refine a3m Z (λi σ2 H2=>∃F2 ρ2,Good K tg F2 H2 ρ2 σ2/\Ext (Own ρ σ) (Own ρ2 σ2) F H F2 H2/\Same F1 F2/\forD b g (l.drop i) ρ2=ZY (fl,ρ')) ⟨F1,ρ1,G1,x1,Same.refl _,em⟩ (λi σ2 H2 _ ⟨F2,ρ2,G2,_,s2,_⟩=>s2.trans G2.sub) ?_ ?_
 ·rintro i d x σ2 H2' H2 hd ⟨F2',ρ2,G2',x2',s2',em2⟩ al
  obtain⟨F2,G2,x2,s2,id,_⟩:=arc G2' x2' s2' al;have hlt:i<l.length:=(aH.mp hd).1;have ed:l[i]=d:=(aH.mp hd).2;rw[rY hlt,ed] at em2;unfold forD at em2;split at em2
  ·cases em2
  ·rename_i ρ3 e3;refine⟨tg,F2,ρ2,d,ρ3,G2,id,e3,λσ3 H3 F3 G3 x3=>?_⟩
   have again:∀{ρ4:Ro},forD b g (l.drop (i+1)) ρ4=ZY (fl,ρ')->∀σ' H' F',Good K tg F' H' ρ4 σ'->Ext (Own ρ3 σ3) (Own ρ4 σ') F3 H3 F' H' ->
     ∃F2 ρ2,Good K tg F2 H' ρ2 σ'/\Ext (Own ρ σ) (Own ρ2 σ') F H F2 H'/\Same F1 F2/\forD b g (l.drop (i+1)) ρ2=ZY (fl,ρ') :=
    λ{ρ4} e4 σ' H' F' G' x'=>⟨F',ρ4,G',(x2.trans x3).trans x',(s2.trans x3.sub).trans x'.sub,e4⟩
   split at em2
   ·rename_i ρ4 e4;exact⟨tg,F3,ρ3,.nx,ρ4,G3,e4,again em2⟩
   ·rename_i ρ4 e4;exact⟨tg,F3,ρ3,.cont,ρ4,G3,e4,again em2⟩
   ·rename_i ρ4 e4;cases em2;exact⟨tg,F3,ρ3,.brk,_,G3,e4,λσ' H' F' G' x'=>q σ' H' F' G' ((x2.trans x3).trans x')⟩
   ·rename_i r ρ4 e4;cases em2;exact⟨tg,F3,ρ3,.ret r,_,G3,e4,λv σ' H' F' G' x' rr=>q v σ' H' F' G' ((x2.trans x3).trans x') (ym (x2.trans x3) rr)⟩
   ·cases em2;exact(show False from q).elim
   ·cases em2
 ·rintro σ2 H2 ⟨F2,ρ2,G2,x2,s2,em2⟩
  rw[tD (aM _)] at em2;cases em2;exact q σ2 H2 F2 G2 x2
noncomputable def whileD(c:M Bool)(g:Sd):Nat->Sd
 | 0,_=>ZX
 |n+1,ρ=>match c ρ with
  |some (.ok ZW,ρ1)=>match g ρ1 with
   |some (.nx,ρ2)=>whileD c g n ρ2
   |some (.cont,ρ2)=>whileD c g n ρ2
   |some (.brk,ρ2)=>ZY (.nx,ρ2)
   |some (.ret r,ρ2)=>ZY (.ret r,ρ2)
   |some (.exc x,ρ2)=>ZY (.exc x,ρ2)
   |none=>ZX
  |some (.ok ZV,ρ1)=>ZY (.nx,ρ1)
  |some (.exc x,ρ1)=>ZY (.exc x,ρ1)
  |none=>ZX
theorem agw{m:M Bool}{g:Sd}(n:Nat)(hp:qX (bZ X.prog X.w) X.A X.env X.xe)(hc:ET K X c m)(hb:SVs K X ss g):SV K X (.While c ss [] pos) (whileD m g n):=SV.mk λhk=>PS.imp (ap9 hp (hc hk) (hb hk)) λE σ H z9=>by
 obtain⟨tg,F,ρ,fl,ρ',G,em,q⟩:=z9;refine⟨λk σ2 H2=>∃F2 ρ2,Good K tg F2 H2 ρ2 σ2/\Ext (Own ρ σ) (Own ρ2 σ2) F H F2 H2/\whileD m g k ρ2=ZY (fl,ρ'),⟨n,F,ρ,G,Ext.refl _ _ _,em⟩,?_⟩
 rintro k σ2 H2 ⟨F2,ρ2,G2,x2,em2⟩
 cases k with
 |zero=>cases em2
 |succ k=>
  unfold whileD at em2;split at em2
  ·rename_i ρ3 e3;refine⟨tg,F2,ρ2,ZW,ρ3,G2,e3,λH3 F3 G3 x3=>iteT ?_⟩
   refine⟨λσ' H'=>∃F2 ρ2,Good K tg F2 H' ρ2 σ'/\Ext (Own ρ σ) (Own ρ2 σ') F H F2 H'/\whileD m g k ρ2=ZY (fl,ρ'),λσ' H' h=>⟨k,jD k,h⟩,?_⟩
   split at em2
   ·rename_i ρ4 e4;exact⟨tg,F3,ρ3,.nx,ρ4,G3,e4,λσ' H' F' G' x'=>⟨F',ρ4,G',(x2.trans x3).trans x',em2⟩⟩
   ·rename_i ρ4 e4;exact⟨tg,F3,ρ3,.cont,ρ4,G3,e4,λσ' H' F' G' x'=>⟨F',ρ4,G',(x2.trans x3).trans x',em2⟩⟩
   ·rename_i ρ4 e4;cases em2;exact⟨tg,F3,ρ3,.brk,_,G3,e4,λσ' H' F' G' x'=>q σ' H' F' G' ((x2.trans x3).trans x')⟩
   ·rename_i r ρ4 e4;cases em2;exact⟨tg,F3,ρ3,.ret r,_,G3,e4,λv σ' H' F' G' x' rr=>q v σ' H' F' G' ((x2.trans x3).trans x') (ym (x2.trans x3) rr)⟩
   ·cases em2;exact(show False from q).elim
   ·cases em2
  ·rename_i ρ3 e3;cases em2;exact⟨tg,F2,ρ2,ZV,_,G2,e3,λH3 F3 G3 x3=>iteF (q σ2 H3 F3 G3 (x2.trans x3))⟩
  ·cases em2;exact(show False from q).elim
  ·cases em2
end
def ali(ρ:Ro)(i:Nat)(o:Option Nat)(d:Option D):Sl:=match o with
 |some j=>match ρ[j]? with
  |some (.val d)=>.val d
  |some (.own _ l)=>.own (ZY i) l
  |_=>.emp
 |none=>match d with
  |some d=>.val d
  |none=>.emp
def lend(ρ:Ro)(js:List (Option Nat))(ds:List (Option D)):Ro:=(wO js ds).mapIdx λi p=>ali ρ i p.1 p.2
noncomputable def okJs(ρ:Ro):List (Option Nat)->Bool
 | []=>ZW
 |none::r=>okJs ρ r
 |some j::r=>(match ρ[j]? with
  |some (.own _ _) => !r.contains (ZY j)
  |_=>ZW)&&okJs ρ r
theorem alc{ρ:Ro}:∀{js:List (Option Nat)} {i i' j:Nat} {t:Option Nat} {l:List D},okJs ρ js=ZW->js[i]? = ZY (ZY j)->js[i']? = ZY (ZY j)->ρ[j]? = ZY (.own t l)->i=i'
 | [],_,_,_,_,_,_,h,_,_=>by simp at h
 |o::r,0,0,_,_,_,_,_,_,_=>rfl
 |o::r,0,i'+1,j,t,l,hk,h,h',e=>by
  simp at h h';subst h;unfold okJs at hk;rw[e,bD] at hk;have:=cD h';simp[this] at hk
 |o::r,i+1,0,j,t,l,hk,h,h',e=>by
  simp at h h';subst h';unfold okJs at hk;rw[e,bD] at hk;have:=cD h;simp[this] at hk
 |none::r,i+1,i'+1,j,t,l,hk,h,h',e=>by
  rw[alc (js:=r) (i:=i) (i':=i') (j:=j) (by unfold okJs at hk;exact hk) (by simpa using h) (by simpa using h') e]
 |some k::r,i+1,i'+1,j,t,l,hk,h,h',e=>by
  unfold okJs at hk;rw[bD] at hk;rw[alc (js:=r) (i:=i) (i':=i') (j:=j) hk.2 (by simpa using h) (by simpa using h') e]
def putS(js:List (Option Nat))(ps:Ro)(j:Nat)(s:Sl):Sl:=match js.findIdx? (λo=>o==ZY j) with
 |none=>s
 |some i=>match s with
  |.own t _=>match ps[i]? with
   |some (.own (ZY i') l')=>if i'=i then .own t l' else .emp
   |_=>.emp
  |s=>s
def putB(ρ:Ro)(js:List (Option Nat))(ps:Ro):Ro:=ρ.mapIdx λj s=>putS js ps j s
noncomputable def tgOf(τ:L2.St)(i:Nat):aU:=match τ[i]? with
 |some (ZY (.ref a))=>a
 |_=>0
section
variable{K:Fg9}{tg:Nat->aU}{F H F' H':Hp}{ρ ps:Ro}{σ τ:L2.St}{js:List (Option Nat)}{ds:List (Option D)}{O':aU->Prop}
theorem aqj{i:Nat}{s:Sl}(h:(lend ρ js ds:List Sl)[i]? = ZY s):∃o d,js[i]? = ZY o/\ds[i]? = ZY d/\s=ali ρ i o d:=by
 unfold lend at h;rw[oN] at h;cases e:(wO js ds)[i]? with
 |none=>rw[e] at h;cases h
 |some p=>
  rw[e] at h;cases h;rw[jA] at e;exact⟨p.1,p.2,e.1,e.2,rfl⟩
theorem ayj{i:Nat}{t:Option Nat}{l:List D}(h:(lend ρ js ds:List Sl)[i]? = ZY (.own t l)):∃j t',js[i]? = ZY (ZY j)/\ρ[j]? = ZY (.own t' l)/\t=ZY i:=by
 obtain⟨o,d,e1,e2,e3⟩:=aqj h;unfold ali at e3;cases o with
 |none=>cases d <;> cases e3
 |some j=>
  simp only at e3;cases e:ρ[j]? with
  |none=>rw[e] at e3;cases e3
  |some s=>
   rw[e] at e3;cases s with
   |emp=>cases e3
   |val _=>cases e3
   |box _ _=>cases e3
   |lol _=>cases e3
   |lnk _=>cases e3
   |own t' l'=>cases e3;exact⟨j,t',e1,e,rfl⟩
structure Lent (K:Fg9) (F:Hp) (σ τ:L2.St) (js:List (Option Nat)) (ds:List (Option D)):Prop where
 l1:τ.length=js.length
 l2:ds.length=js.length
 h1:∀(i j:Nat) (o:Option V),js[i]? = ZY (ZY j)->σ[j]? = ZY o->τ[i]? = ZY o
 h2:∀(i:Nat) (d:D),js[i]? = ZY ZX->ds[i]? = ZY (ZY d)->∃v,τ[i]? = ZY (ZY v)/\Is K F d v
def Good.σ_at(G:Good K tg F H ρ σ){j:Nat}{s:Sl}(e:(ρ:List Sl)[j]? = ZY s):∃o,σ[j]? = ZY o:=by
 obtain⟨o,h,_⟩:=G.at e;exact⟨o,h⟩
def adc(G:Good K tg F H ρ σ)(L:Lent K F σ τ js ds){i:Nat}{a:aU}(h:Owns (lend ρ js ds) τ i a):∃j,js[i]? = ZY (ZY j)/\Owns ρ σ j a:=by
 obtain⟨⟨t,l,e⟩,q⟩:=h;obtain⟨j,t',e1,e2,_⟩:=ayj e;obtain⟨o,ho⟩:=G.σ_at e2;have:=L.h1 i j o e1 ho;rw[q] at this;cases this;exact⟨j,e1,⟨t',l,e2⟩,ho⟩
def aad(G:Good K tg F H ρ σ)(hk:okJs ρ js=ZW)(L:Lent K F σ τ js ds):Good K (tgOf τ) F H (lend ρ js ds) τ where
 sub:=G.sub
 len:=by
  unfold lend;rw[uK,qY,L.l2,L.l1];omega
 sl:=λi s o e q=>by
  obtain⟨oj,d,e1,e2,rfl⟩:=aqj e;unfold ali;cases oj with
  |none=>
   cases d with
   |none=>trivial
   |some d=>
    obtain⟨v,h1,h2⟩:=L.h2 i d e1 e2;rw[q] at h1;cases h1;exact⟨v,rfl,h2⟩
  |some j=>
   simp only;cases e3:ρ[j]? with
   |none=>trivial
   |some s=>
    obtain⟨o',ho,w⟩:=G.at e3;have:=L.h1 i j o' e1 ho;rw[q] at this;cases this;cases s with
    |emp=>trivial
    |val d=>exact w
    |box _ _=>trivial
    |lol _=>trivial
    |lnk _=>trivial
    |own t l=>
     obtain⟨a,vs,rfl,hf,hh,hl,_⟩:=w;refine⟨a,vs,rfl,hf,hh,hl,λk e=>?_⟩
     cases e;unfold tgOf;rw[q]
 inj:=λi i' a w w'=>by
  obtain⟨j,e,v⟩:=adc G L w;obtain⟨j',e',v'⟩:=adc G L w';have:=G.inj j j' a v v';subst this;obtain⟨⟨t,l,z⟩,_⟩:=v;exact alc hk e e' z
structure Fin (K:Fg9) (F' H':Hp) (τ:L2.St) (ps:Ro) (O':aU->Prop):Prop where
 at':∀(i:Nat) (l:List D),(ps:List Sl)[i]? = ZY (.own (ZY i) l)->O' (tgOf τ i)/\F' (tgOf τ i)=ZX/\∃vs,H' (tgOf τ i)=ZY (.lst vs)/\IsL K F' l vs
theorem ak5{j:Nat}{s:Sl}(h:(putB ρ js ps:List Sl)[j]? = ZY s):∃s0:Sl,(ρ:List Sl)[j]? = ZY s0/\((∃t l,s0=Sl.own t l/\∃i:Nat,js[i]? = ZY (ZY j)/\((∃l',(ps:List Sl)[i]? = ZY (Sl.own (ZY i) l')/\s=Sl.own t l')∨s=Sl.emp)) ∨
  (s=s0/\∀t l,s0=Sl.own t l->∀i:Nat,js[i]? ≠ ZY (ZY j))):=by
 unfold putB at h;rw[oN] at h;cases e:(ρ:List Sl)[j]? with
 |none=>rw[e] at h;cases h
 |some s0=>
  rw[e] at h;refine⟨s0,rfl,?_⟩;have h:putS js ps j s0=s:=bL h;unfold putS at h;cases ei:js.findIdx? (λo=>o==ZY j) with
  |none=>
   rw[ei] at h;have h:s0=s:=h;refine .inr ⟨h.symm,λ_ _ _ i z=>?_⟩
   rw[rW] at ei;have:=ei _ (cD z);simp at this
  |some i=>
   rw[ei] at h;cases s0 with
   |emp=>exact .inr ⟨(show Sl.emp=s from h).symm,λt l z=>by cases z⟩
   |val d=>exact .inr ⟨(show Sl.val d=s from h).symm,λt l z=>by cases z⟩
   |box c fs=>exact .inr ⟨(show Sl.box c fs=s from h).symm,λt l z=>by cases z⟩
   |lol ts=>exact .inr ⟨(show Sl.lol ts=s from h).symm,λt l z=>by cases z⟩
   |lnk k=>exact .inr ⟨(show Sl.lnk k=s from h).symm,λt l z=>by cases z⟩
   |own t l=>
    refine .inl ⟨t,l,rfl,i,?_,?_⟩
    ·obtain⟨hi,hb,_⟩:=jQ.mp ei;rw[aF hi];exact congrArg ZY (eq_of_beq hb)
    ·have h:(match (ps:List Sl)[i]? with
      |some (.own (ZY i') l')=>if i'=i then Sl.own t l' else .emp
      |_=>.emp)=s:=h
     cases ep:(ps:List Sl)[i]? with
     |none=>rw[ep] at h;exact .inr h.symm
     |some sp=>
      rw[ep] at h;cases sp with
      |emp=>exact .inr h.symm
      |val _=>exact .inr h.symm
      |box _ _=>exact .inr h.symm
      |lol _=>exact .inr h.symm
      |lnk _=>exact .inr h.symm
      |own t' l'=>
       cases t' with
       |none=>exact .inr h.symm
       |some i'=>
        have h2:(if i'=i then Sl.own t l' else .emp)=s:=h
        by_cases z:i'=i
        ·subst z;rw[if_pos rfl] at h2;exact .inl ⟨l',rfl,h2.symm⟩
        ·rw[if_neg z] at h2;exact .inr h2.symm
def afm{j:Nat}{a:aU}(h:Owns (putB ρ js ps) σ j a):Owns ρ σ j a:=by
 obtain⟨⟨t,l,e⟩,q⟩:=h;obtain⟨s0,e0,h |⟨rfl,_⟩⟩:=ak5 e
 ·obtain⟨t',l',rfl,i,_,⟨l2,_,z⟩ |z⟩:=h
  ·exact⟨⟨t',l',e0⟩,q⟩
  ·cases z
 ·exact⟨⟨t,l,e0⟩,q⟩
def ac3(G:Good K tg F H ρ σ)(L:Lent K F σ τ js ds)(x:Ext (Own (lend ρ js ds) τ) O' F H F' H')(s':Same F' H')(fin:Fin K F' H' τ ps O'):Good K tg F' H' (putB ρ js ps) σ where
 sub:=s'
 len:=by
  unfold putB;rw[uK];exact G.len
 sl:=λj s o e q=>by
  obtain⟨s0,e0,h |⟨rfl,hn⟩⟩:=ak5 e
  ·obtain⟨t,l,rfl,i,ei,⟨l',ep,rfl⟩ |rfl⟩:=h
   ·obtain⟨a,vs,rfl,hf,hh,hl,ht⟩:=G.sl j _ _ e0 q;obtain⟨_,hf',ws,hh',hl'⟩:=fin.at' i l' ep;have:=L.h1 i j _ ei q;have et:tgOf τ i=a:=by
     unfold tgOf;rw[this]
    rw[et] at hf' hh';exact⟨a,ws,rfl,hf',hh',hl',ht⟩
   ·trivial
  ·have w:=G.sl j _ _ e0 q;cases s with
   |emp=>trivial
   |val d=>
    obtain⟨v,h1,h2⟩:=w;exact⟨v,h1,h2.mono x.sub⟩
   |lol ts=>
    obtain⟨a,h1,h2⟩:=w;exact⟨a,h1,x.sub _ _ h2⟩
   |lnk k=>exact w
   |box c fs=>
    obtain⟨a,C,dx,fvs,e1,e2,e3,e4,e7,e5,e6⟩:=w;have no:¬Own (lend ρ js ds) τ a:=λ⟨i,z⟩=>by
     obtain⟨j',_,v⟩:=adc G L z;obtain⟨_,vs,hv⟩:=G.ownAt ⟨j',v⟩;rw[e3] at hv;cases hv
    have hf:F' a=ZX:=by
     cases z:F' a with
     |none=>rfl
     |some o=>
      rcases x.new a o z with z |z |z
      ·rw[e2] at z;cases z
      ·rw[e3] at z;cases z
      ·exact absurd z no
    exact⟨a,C,dx,fvs,e1,hf,x.keep a _ e3 no,e4,e7,e5,λf d h=>(e6 f d h).imp λv h=>⟨h.1,h.2.mono x.sub⟩⟩
   |own t l=>
    obtain⟨a,vs,rfl,hf,hh,hl,ht⟩:=w;have no:¬Own (lend ρ js ds) τ a:=λ⟨i,z⟩=>by
     obtain⟨j',e1,v⟩:=adc G L z;have:=G.inj j' j a v ⟨⟨t,l,e0⟩,q⟩;subst this;exact hn t l rfl i e1
    refine⟨a,vs,rfl,?_,x.keep a _ hh no,hl.mono x.sub,ht⟩;cases z:F' a with
    |none=>rfl
    |some o=>
     rcases x.new a o z with z |z |z
     ·rw[hf] at z;cases z
     ·rw[hh] at z;cases z
     ·exact absurd z no
 inj:=λi j a w w'=>G.inj i j a (afm w) (afm w')
def abn(G:Good K tg F H ρ σ)(L:Lent K F σ τ js ds){a:aU}(h:Own (lend ρ js ds) τ a):Own ρ σ a:=by
 obtain⟨i,h⟩:=h;obtain⟨j,_,h⟩:=adc G L h;exact⟨j,h⟩
def afn(G:Good K tg F H ρ σ)(L:Lent K F σ τ js ds)(x:Ext (Own (lend ρ js ds) τ) O' F H F' H'):Ext (Own ρ σ) (Own (putB ρ js ps) σ) F H F' H' where
 sub:=x.sub
 new:=λa o e=>by
  rcases x.new a o e with z |z |z
  ·exact .inl z
  ·exact .inr (.inl z)
  ·exact .inr (.inr (abn G L z))
 keep:=λa o e n=>x.keep a o e λz=>n (abn G L z)
 own:=λa ⟨j,w⟩=>.inl ⟨j,afm w⟩
 there:=x.there
def aws(G:Good K tg F H ρ σ)(L:Lent K F σ τ js ds)(fin:Fin K F' H' τ ps O'){a:aU}(ha:H a=ZX∨Own (lend ρ js ds) τ a)(hn:¬O' a):¬Own (putB ρ js ps) σ a:=λ⟨j,w⟩=>by
 have v:=afm w;obtain⟨⟨t,l2,e⟩,q⟩:=w;obtain⟨s0,e0,z |⟨rfl,hno⟩⟩:=ak5 e
 ·obtain⟨t',l',rfl,i,ei,⟨l3,ep,z⟩ |z⟩:=z
  ·have et:tgOf τ i=a:=by
    unfold tgOf;rw[L.h1 i j _ ei q]
   have:=(fin.at' i l3 ep).1;rw[et] at this;exact hn this
  ·cases z
 ·rcases ha with ha |⟨i,z⟩
  ·obtain⟨a',vs',ea,_,e2,_⟩:=G.sl j _ _ e0 q;cases ea;rw[ha] at e2;cases e2
  ·obtain⟨j',e1,v'⟩:=adc G L z;have:=G.inj j' j a v' v;subst this;exact hno t l2 rfl i e1
theorem al4(G:Good K tg F H ρ σ)(L:Lent K F σ τ js ds)(fin:Fin K F' H' τ ps O'){r:Rv}{v:V}(h:relR K r v H (Own (lend ρ js ds) τ) F' H' O'):relR K r v H (Own ρ σ) F' H' (Own (putB ρ js ps) σ):=by
 cases r with
 |v d=>exact h
 |fr l=>
  obtain⟨a,vs,rfl,ha,hf,hh,hl,hn⟩:=h;exact⟨a,vs,rfl,ha.imp id (abn G L),hf,hh,hl,aws G L fin ha hn⟩
 |tf d l=>
  obtain⟨t,u,a,vs,rfl,ht,hd,ha,hf,hh,hl,hn⟩:=h;exact⟨t,u,a,vs,rfl,ht,hd,ha.imp id (abn G L),hf,hh,hl,aws G L fin ha hn⟩
end
abbrev Fd:=Ro->Option (Out Rv×Ro)
noncomputable def fnD(nl np:Nat)(g:Sd):Fd:=λas=>match g (as++aJ (nl-np) .emp) with
 |some (.ret r,ρ)=>ZY (.ok r,ρ.take np)
 |some (.nx,ρ)=>ZY (.ok (.v .non),ρ.take np)
 |some (.exc x,ρ)=>ZY (.exc x,ρ.take np)
 |_=>ZX
def spOf(K:Fg9)(n:Nat)(f:Fd):Sp:=λvs H Q _=>vs.length=n/\∃F as r ps,Good K (tgOf (vs.map ZY)) F H as (vs.map ZY)/\f as=ZY (.ok r,ps) /\
 ∀v H' F' O',Same F' H'->Ext (Own as (vs.map ZY)) O' F H F' H'->Fin K F' H' (vs.map ZY) ps O'->relR K r v H (Own as (vs.map ZY)) F' H' O'->Q v H'
section
variable{K:Fg9}
def a2h{as:Ro}{τ:L2.St}{n:Nat}{a:aU}(hl:as.length=τ.length)(h:Own (as++aJ n .emp) (τ++aJ n ZX) a):Own as τ a:=by
 obtain⟨i,⟨t,l,e⟩,q⟩:=h
 by_cases hi:i<as.length
 ·rw[bA hi] at e;rw[bA (by omega)] at q
  exact⟨i,⟨t,l,e⟩,q⟩
 ·rw[cR (by omega),fU] at e
  split at e <;> cases e
def axz{as:Ro}{τ:L2.St}{n:Nat}{a:aU}(hl:as.length=τ.length)(h:Own as τ a):Own (as++aJ n .emp) (τ++aJ n ZX) a:=by
 obtain⟨i,⟨t,l,e⟩,q⟩:=h;have hi:=(aH.mp e).1;exact⟨i,⟨t,l,by rw[bA hi];exact e⟩,by rw[bA (by omega)];exact q⟩
def ul{as:Ro}{τ:L2.St}{n:Nat}(hl:as.length=τ.length):Own (as++aJ n .emp) (τ++aJ n ZX)=Own as τ:=funext λa=>propext ⟨a2h hl,axz hl⟩
def Good.app{tg:Nat->aU}{F H:Hp}{as:Ro}{τ:L2.St}(G:Good K tg F H as τ)(n:Nat):Good K tg F H (as++aJ n .emp) (τ++aJ n ZX) where
 sub:=G.sub
 len:=by rw[cC,cC,G.len,iM,iM]
 sl:=λi s o e q=>by
  have hl:=G.len
  by_cases hi:i<as.length
  ·rw[bA hi] at e;rw[bA (by omega)] at q
   exact G.sl i s o e q
  ·rw[cR (by omega),fU] at e
   split at e
   ·cases e;trivial
   ·cases e
 inj:=λi j a w w'=>by
  have hl:=G.len;have f:∀k,Owns (as++aJ n .emp) (τ++aJ n ZX) k a->Owns as τ k a:=λk ⟨⟨t,l,e⟩,q⟩=>by
   by_cases hi:k<as.length
   ·rw[bA hi] at e;rw[bA (by omega)] at q
    exact⟨⟨t,l,e⟩,q⟩
   ·rw[cR (by omega),fU] at e
    split at e <;> cases e
  exact G.inj i j a (f i w) (f j w')
def bb9{P:cA}{w:dU}{mg:Str->Option aD}{base:eF}{x qual:Str}{st:fD}{f:aU}{fd:dR}{N ps:List Str}{k:Nat}{g:Sd}(F:Fun K x qual st f fd)(S:FnScope N ps (ao st))
  (body:∀(cdv:aD) (A:cT) (outer:List Env) (s:aG) (H:Hp) (E:XK),Room k (A.deeper (lO qual (ao st) s.heap.objs.size f cdv))->SVs K (cxOf CX0 P w K mg base N qual (ao st) f cdv A outer s H E).nox (je st) g) :
  FnOk P w K mg base CX0 (k+1) f fd ps (spOf K ps.length (fnD N.length ps.length g)):=by
 refine F.ok S (λvs H Q E h=>h.1) (λcdv A outer s H vs Q E hr h=>⟨_,body cdv A outer s H E hr rfl,?_⟩)
 obtain⟨hn,F,as,r,ps',G,em,q⟩:=h;have hl:as.length=(vs.map ZY).length:=G.len;have G1:=G.app (N.length-vs.length);have es:start N vs=vs.map ZY++aJ (N.length-vs.length) ZX:=rfl;rw[es];unfold fnD at em;rw[<-hn] at em;have fin:∀{ρ':Ro} {σ':L2.St} {F' H':Hp},Good K (tgOf (vs.map ZY)) F' H' ρ' σ'->Fin K F' H' (vs.map ZY) (ρ'.take vs.length) (Own ρ' σ'):=λ{ρ' σ' F' H'} G'=>⟨λi l e=>by
  have hi:=(aH.mp e).1;rw[eX] at hi;rw[fM (by omega)] at e
  obtain⟨o,ho,a,ws,rfl,hf,hh,hl,ht⟩:=G'.at e;rw[ht i rfl];exact⟨⟨i,⟨_,_,e⟩,ho⟩,hf,ws,hh,hl⟩⟩
 split at em
 ·rename_i r' ρ' e;cases em;refine⟨_,F,_,.ret r,ρ',G1,e,λv σ' H' F' G' x' rr=>?_⟩
  rw[ul hl] at x' rr;exact q v H' F' (Own ρ' σ') G'.sub x' (fin G') rr
 ·rename_i ρ' e;cases em;refine⟨_,F,_,.nx,ρ',G1,e,λσ' H' F' G' x'=>?_⟩
  rw[ul hl] at x';exact q .non H' F' (Own ρ' σ') G'.sub x' (fin G') .non
 ·cases em
 ·cases em
end
section
variable{K:Fg9}{X:Cx}{e a b c tgt iter elt:cZ}{es:List cZ}{pos p p2:Pos}
inductive AR (K:Fg9) (F:Hp) (σ:L2.St):List (Option Nat)->List (Option D)->List V->Prop
 |nil:AR K F σ [] [] []
 |ex {d:D} {v:V} {js:List (Option Nat)} {ds:List (Option D)} {vs:List V} (h:Is K F d v) (t:AR K F σ js ds vs):AR K F σ (ZX::js) (ZY d::ds) (v::vs)
 |nm {j:Nat} {v:V} {js:List (Option Nat)} {ds:List (Option D)} {vs:List V} (h:σ[j]? = ZY (ZY v)) (t:AR K F σ js ds vs):AR K F σ (ZY j::js) (ZX::ds) (v::vs)
theorem AR.lent{F:Hp}{σ:L2.St}:∀{js:List (Option Nat)} {ds:List (Option D)} {vs:List V},AR K F σ js ds vs->Lent K F σ (vs.map ZY) js ds
 |_,_,_,.nil=>⟨rfl,rfl,λi j o h=>by simp at h,λi d h=>by simp at h⟩
 |_,_,_,.ex h t=>by
  have L:=t.lent;refine⟨by simp[by simpa using L.l1],by simp[L.l2],λi j o h q=>?_,λi d h q=>?_⟩
  ·cases i with
   |zero=>simp at h
   |succ i=>simpa using L.h1 i j o (by simpa using h) q
  ·cases i with
   |zero=>simp at q;subst q;exact⟨_,rfl,‹_›⟩
   |succ i=>simpa using L.h2 i d (by simpa using h) (by simpa using q)
 |_,_,_,.nm h t=>by
  have L:=t.lent;refine⟨by simp[by simpa using L.l1],by simp[L.l2],λi j o h' q=>?_,λi d h' q=>?_⟩
  ·cases i with
   |zero=>
    simp at h';subst h';rw[h] at q;cases q;rfl
   |succ i=>simpa using L.h1 i j o (by simpa using h') q
  ·cases i with
   |zero=>simp at h'
   |succ i=>simpa using L.h2 i d (by simpa using h') (by simpa using q)
def AR.length{F:Hp}{σ:L2.St}{js:List (Option Nat)}{ds:List (Option D)}{vs:List V}(h:AR K F σ js ds vs):vs.length=js.length:=by
 have:=h.lent.l1
 simpa using this
def TAg(K:Fg9)(js:List (Option Nat))(m:M (List (Option D))):TA:=λσ H Q=>∃tg F ρ ds ρ',Good K tg F H ρ σ/\m ρ=ZY (.ok ds,ρ')/\∀vs H' F',Good K tg F' H' ρ' σ->Ext (Own ρ σ) (Own ρ' σ) F H F' H'->AR K F' σ js ds vs->Q vs H'
structure EG (K:Fg9) (X:Cx) (es:List cZ) (js:List (Option Nat)) (m:M (List (Option D))):Prop where
 go:X.K=K->PA X es (TAg K js m)
instance {K:Fg9} {X:Cx} {es:List cZ} {js:List (Option Nat)} {m:M (List (Option D))}:CoeFun (EG K X es js m) λ_=>X.K=K->PA X es (TAg K js m):=⟨EG.go⟩
def dh:M (List (Option D)):=ret []
def au(m:M D)(ms:M (List (Option D))):M (List (Option D)):=m.bind λd=>ms.bind λds=>ret (ZY d::ds)
def bu(j:Nat)(ms:M (List (Option D))):M (List (Option D)):=(dz j).bind λ_=>ms.bind λds=>ret (ZX::ds)
def bf:EG K X [] [] dh:=EG.mk λ_=>PA.imp aht λσ H Q z9=>by
 obtain⟨tg,F,ρ,ds,ρ',G,em,q⟩:=z9;obtain⟨rfl,rfl⟩:=j0 em;exact q [] H F G (Ext.refl _ _ _) .nil
def eg_v{m:M D}{js:List (Option Nat)}{ms:M (List (Option D))}(h:EV K X e m)(t:EG K X es js ms)(hs:Zc X e es:=by rfl):EG K X (e::es) (ZX::js) (au m ms):=EG.mk λhk=>PA.imp (wk (h hk) (t hk) hs) λσ H Q z9=>by
 obtain⟨tg,F,ρ,ds,ρ',G,em,q⟩:=z9;obtain⟨d,ρ1,e1,em⟩:=bw em;obtain⟨r,ρ2,e2,em⟩:=bw em;obtain⟨rfl,rfl⟩:=j0 em;exact⟨tg,F,ρ,d,ρ1,G,e1,λv H1 F1 G1 x1 r1=>⟨tg,F1,ρ1,r,_,G1,e2,λvs H2 F2 G2 x2 r2=>q _ H2 F2 G2 (x1.trans x2) (.ex (r1.mono x2.sub) r2)⟩⟩
def eg_n{j:Nat}{js:List (Option Nat)}{ms:M (List (Option D))}(h:PE X e (tVar j))(t:EG K X es js ms)(hs:Zc X e es:=by rfl):EG K X (e::es) (ZY j::js) (bu j ms):=EG.mk λhk=>PA.imp (wk h (t hk) hs) λσ H Q z9=>by
 obtain⟨tg,F,ρ,ds,ρ',G,em,q⟩:=z9;obtain⟨d0,ρ0,e0,em⟩:=bw em;obtain⟨r,ρ2,e2,em⟩:=bw em;obtain⟨rfl,rfl⟩:=j0 em;obtain⟨rfl,v,hv,_⟩:=tu G e0;exact⟨v,hv,tg,F,ρ0,r,_,G,e2,λvs H2 F2 G2 x2 r2=>q _ H2 F2 G2 x2 (.nm hv r2)⟩
noncomputable def mFn(f:Fd)(js:List (Option Nat))(ms:M (List (Option D))):M Rv:=ms.bind λds ρ=>if okJs ρ js=ZW then match f (lend ρ js ds) with
  |some (.ok r,ps)=>ZY (.ok r,putB ρ js ps)
  |some (.exc x,ps)=>ZY (.exc x,putB ρ js ps)
  |none=>ZX
 else ZX
def az8{f:Fd}{js:List (Option Nat)}{ms:M (List (Option D))}{ρ ρ':Ro}{r:Rv}(h:mFn f js ms ρ=ZY (.ok r,ρ')):∃ds ρ1 ps,ms ρ=ZY (.ok ds,ρ1)/\okJs ρ1 js=ZW/\f (lend ρ1 js ds)=ZY (.ok r,ps)/\ρ'=putB ρ1 js ps:=by
 obtain⟨ds,ρ1,e1,em⟩:=bw h;have em:(if okJs ρ1 js=ZW then match f (lend ρ1 js ds) with
  |some (.ok r,ps)=>ZY (Out.ok r,putB ρ1 js ps)
  |some (.exc x,ps)=>ZY (.exc x,putB ρ1 js ps)
  |none=>ZX
  else ZX)=ZY (.ok r,ρ'):=em
 split at em
 ·rename_i hk;split at em
  ·rename_i r' ps e2;cases em;exact⟨ds,ρ1,ps,e1,hk,e2,rfl⟩
  ·cases em
  ·cases em
 ·cases em
def dj{f:Fd}{n k:Nat}{x:Str}{pn:List Str}{js:List (Option Nat)}{ms:M (List (Option D))}(F:Dfn X.prog X.w X.K X.mg X.base x pn k (spOf K n f))(hr:Room k X.A)(hg:Gl X x)(ha:EG K X (e::es) js ms)(hn:js.length=n:=by rfl)(hdb:Zb x:=by decide)
  (he:Zc X e es:=by rfl) (hpl:(fV pos (aO es X.env)).any (·.1)=ZV:=by rfl):ER K X (.Call (.Name x p) (e::es) [] pos) (mFn f js ms):=ER.mk λhk=>PE.imp (a2a F hr hg (ha hk) hdb he hpl) λσ H Q z9=>by
 obtain⟨tg,F,ρ,r,ρ',G,em,q⟩:=z9;obtain⟨ds,ρ1,ps,e1,hj,e2,rfl⟩:=az8 em;refine⟨tg,F,ρ,ds,ρ1,G,e1,λvs H1 F1 G1 x1 ar=>?_⟩
 have L:=ar.lent;show spOf K n f (vs++[]) H1 Q E0;rw[eG];refine⟨by rw[ar.length];exact hn,F1,_,r,ps,aad G1 hj L,e2,λv H' F' O' s' x' fin rr=>?_⟩
 exact q v H' F' (ac3 G1 L x' s' fin) (x1.trans (afn G1 L x')) (ym x1 (al4 G1 L fin rr))
def Za{f:Fd}{n k k':Nat}{x:Str}{pn:List Str}{js:List (Option Nat)}{ms:M (List (Option D))}(F:Dfn X.prog X.w X.K X.mg X.base x pn k (spOf K n f))(hr:Room k' X.A)(ha:EG K X (e::es) js ms)(hk:k<=k':=by decide)(hg:Gl X x:=by rfl)(hn:js.length=n:=by rfl)(hdb:Zb x:=by decide)(he:Zc X e es:=by rfl) (hpl:(fV pos (aO es X.env)).any (·.1)=ZV:=by rfl):ER K X (.Call (.Name x p) (e::es) [] pos) (mFn f js ms):=dj F (hr.mono hk) hg ha hn hdb he hpl
structure EIf (K:Fg9) (X:Cx) (ifs:List cZ) (m:M Bool):Prop where
 go:X.K=K->PIf X ifs (TB K m)
instance {K:Fg9} {X:Cx} {ifs:List cZ} {m:M Bool}:CoeFun (EIf K X ifs m) λ_=>X.K=K->PIf X ifs (TB K m):=⟨EIf.go⟩
def qu:EIf K X [] (ret ZW):=EIf.mk λ_ qv s σ H Q I z9=>by
 obtain⟨tg,F,ρ,k,ρ',G,em,q⟩:=z9;obtain⟨rfl,rfl⟩:=j0 em;exact a1s qv s σ H Q I (q H F G (Ext.refl _ _ _))
def alx{m:M Bool}(h:ET K X c m):EIf K X [c] m:=EIf.mk λhk=>a1r (h hk)
noncomputable def compD(b:D->Ro->Option Ro)(mc:M Bool)(me:M D):List D->List D->M (List D)
 | [],ys=>ret ys
 |d::ds,ys=>λρ=>match b d ρ with
  |none=>ZX
  |some ρ1=>(mc.bind λk=>if k=ZW then me.bind λy=>compD b mc me ds (ys++[y]) else compD b mc me ds ys) ρ1
theorem ai2{b:D->Ro->Option Ro}{mc:M Bool}{me:M D}:∀{l ys yf:List D} {ρ ρ':Ro},compD b mc me l ys ρ=ZY (.ok yf,ρ')->ys.length<=yf.length
 | [],ys,yf,ρ,ρ',h=>by
  obtain⟨rfl,_⟩:=j0 (show ret ys ρ=_ from h)
  exact aM _
 |d::ds,ys,yf,ρ,ρ',h=>by
  unfold compD at h;split at h
  ·cases h
  ·obtain⟨k,ρ2,e2,h⟩:=bw h;split at h
   ·obtain⟨y,ρ3,e3,h⟩:=bw h;have:=ai2 h;rw[cC] at this;omega
   ·exact ai2 h
def qy(src:List (Option Nat))(mi:M (List D))(b:D->Ro->Option Ro)(mc:M Bool)(me:M D):M Rv:=mi.bind λl ρ=>if okJs ρ src=ZW then match compD b mc me l [] (lend ρ src (src.map λ_=>ZX)) with
  |some (.ok ys,ps)=>if ys.length<=capS then ZY (.ok (.fr ys),putB ρ src ps) else ZX
  |some (.exc x,ps)=>ZY (.exc x,putB ρ src ps)
  |none=>ZX
 else ZX
def ayg{src:List (Option Nat)}{mi:M (List D)}{b:D->Ro->Option Ro}{mc:M Bool}{me:M D}{ρ ρ':Ro}{r:Rv}(h:qy src mi b mc me ρ=ZY (.ok r,ρ')):∃l ρ1 ys ps,mi ρ=ZY (.ok l,ρ1)/\okJs ρ1 src=ZW/\compD b mc me l [] (lend ρ1 src (src.map λ_=>ZX))=ZY (.ok ys,ps)/\ys.length<=capS/\r=.fr ys/\ρ'=putB ρ1 src ps:=by
 obtain⟨l,ρ1,e1,em⟩:=bw h;have em:(if okJs ρ1 src=ZW then match compD b mc me l [] (lend ρ1 src (src.map λ_=>ZX)) with
  |some (.ok ys,ps)=>if ys.length<=capS then ZY (Out.ok (Rv.fr ys),putB ρ1 src ps) else ZX
  |some (.exc x,ps)=>ZY (.exc x,putB ρ1 src ps)
  |none=>ZX
  else ZX)=ZY (.ok r,ρ'):=em
 split at em
 ·rename_i hk;split at em
  ·rename_i ys ps e2;split at em
   ·rename_i hz;cases em;exact⟨l,ρ1,ys,ps,e1,hk,e2,hz,rfl,rfl⟩
   ·cases em
  ·cases em
  ·cases em
 ·cases em
def aua{F:Hp}{σ:L2.St}(src:List (Option Nat)):Lent K F σ (pick src σ) src (src.map λ_=>ZX):=by
 refine⟨by simp[pick],by simp,λi j o h q=>?_,λi d h q=>?_⟩
 ·unfold pick;rw[aL,h];show ZY ((σ[j]?).bind id)=ZY o;rw[q];rfl
 ·rw[aL,h] at q;cases q
def Ext.upd{O O':aU->Prop}{F H F' H':Hp}{d:aU}{o:HO}(x:Ext O O' F H F' H')(h:H d=ZX):Ext O O' F H F' (upd H' d o) :=
 ⟨x.sub,x.new,λa u e n=>by rw[cg (jf e h)];exact x.keep a u e n,x.own,λa e=>by
  by_cases ha:a=d
  ·subst ha;exact h
  ·rw[cg ha] at e;exact x.there a e⟩
def Good.upd{tg:Nat->aU}{F H:Hp}{ρ:Ro}{σ:L2.St}{d:aU}(G:Good K tg F H ρ σ)(hf:F d=ZX)(hn:¬Own ρ σ d)(o:HO)(hi:∀C dx fs,H d≠ZY (.ins C dx fs)):Good K tg F (upd H d o) ρ σ :=
 G.grow (Same.refl F) (λb u e=>by
  have hb:b≠d:=λz=>by
   subst z;rw[hf] at e;cases e
  rw[cg hb];exact G.sub b u e) (λa w=>⟨(G.ownAt w).1,by
  have hb:a≠d:=λz=>hn (z▸w)
  rw[cg hb]⟩) λa C dx fvs h1 h2=>⟨h1,by
  have hb:a≠d:=λz=>hi C dx fvs (z▸h2)
  rw[cg hb]⟩
def ag4{mi:M (List D)}{bb:D->Ro->Option Ro}{mc:M Bool}{me:M D}{src:List (Option Nat)}(σ:L2.St)(H:Hp)(Q:VK)(t:T K (relR K) (qy src mi bb mc me) σ H Q):atb (TIt K mi) (TGd K bb) (TB K mc) (T K (relD K) me) src σ H Q:=by
 obtain⟨tg,F,ρ,r,ρ',G,em,q⟩:=t;obtain⟨l,ρ1,yf,ps,e1,hj,e2,hz,rfl,rfl⟩:=ayg em;refine⟨tg,F,ρ,l,ρ1,G,e1,λJ H1 F1 G1 x1 Z dd hd=>?_⟩
 have L:Lent K F1 σ (pick src σ) src (src.map λ_=>ZX):=aua src
 have Gl:=aad G1 hj L;have own0:¬Own (lend ρ1 src (src.map λ_=>ZX)) (pick src σ) dd:=λz=>Gl.own_ne hd z rfl
 refine ay8 Z (λi ys σc Hc=>∃Fc ρc yd,Good K (tgOf (pick src σ)) Fc Hc ρc σc/\Ext (Own (lend ρ1 src (src.map λ_=>ZX)) (pick src σ)) (Own ρc σc) F1 H1 Fc Hc/\Fc dd=ZX/\¬Own ρc σc dd/\Hc dd=ZY (.lst ys)/\IsL K Fc yd ys/\compD bb mc me (l.drop i) yd ρc=ZY (.ok yf,ps))
  ⟨F1,_,[],Gl.upd (G1.freeF hd) own0 _ (λ_ _ _ z=>by rw[hd] at z;cases z),(Ext.refl _ _ _).upd hd,G1.freeF hd,own0,f9,.nil,e2⟩ ?_ ?_ ?_
 ·rintro i ys σc Hc _ ⟨Fc,ρc,yd,Gc,xc,_,_,hdd,_,_⟩
  exact⟨xc.sub.trans Gc.sub,hdd⟩
 ·rintro i d x ys σc Hc0 Hc M hdl ⟨Fc0,ρc,yd,Gc0,xc0,fd0,od0,hdd0,iy0,ec⟩ al hM
  obtain⟨Fc,Gc,xc,_,idl,xa⟩:=arc Gc0 xc0 xc0.sub al;have iy:=iy0.mono xa.sub;have hlt:i<l.length:=(aH.mp hdl).1;have edl:l[i]=d:=(aH.mp hdl).2;rw[rY hlt,edl] at ec;unfold compD at ec;have step:∀{F2 H2:Hp} {ρ2 ρ3:Ro} {σ2 σ3:L2.St} {F3 H3:Hp},F2 dd=ZX->¬Own ρ2 σ2 dd->H2 dd=ZY (.lst ys)->Ext (Own ρ2 σ2) (Own ρ3 σ3) F2 H2 F3 H3->F3 dd=ZX/\¬Own ρ3 σ3 dd/\H3 dd=ZY (.lst ys):=λ{F2 H2 ρ2 ρ3 σ2 σ3 F3 H3} h1 h2 h3 x3=>by
   refine⟨?_,λz=>?_,x3.keep _ _ h3 h2⟩
   ·cases z:F3 dd with
    |none=>rfl
    |some o=>
     rcases x3.new _ _ z with z |z |z
     ·rw[h1] at z;cases z
     ·rw[h3] at z;cases z
     ·exact absurd z h2
   ·rcases x3.own _ z with z |z
    ·exact h2 z
    ·rw[h3] at z;cases z
  obtain⟨fd,od,hdd⟩:=step fd0 od0 hdd0 xa;split at ec
  ·cases ec
  ·rename_i ρ2 eb;refine⟨_,Fc,ρc,d,ρ2,Gc,idl,eb,λσ2 H2 F2 G2 x2=>?_⟩
   obtain⟨k,ρ3,ek,ec⟩:=bw ec;obtain⟨fd2,od2,hdd2⟩:=step fd od hdd x2;refine⟨_,F2,ρ2,k,ρ3,G2,ek,λH3 F3 G3 x3=>?_⟩
   obtain⟨fd3,od3,hdd3⟩:=step fd2 od2 hdd2 x3;cases k with
   |false=>
    refine iteF (hM _ _ _ ⟨F3,ρ3,yd,G3,(xc.trans x2).trans x3,fd3,od3,hdd3,(iy.mono x2.sub).mono x3.sub,ec⟩)
   |true=>
    obtain⟨y,ρ4,ey,ec⟩:=bw ec;refine iteT ⟨_,F3,ρ3,y,ρ4,G3,ey,λv H4 F4 G4 x4 iv=>?_⟩
    obtain⟨fd4,od4,hdd4⟩:=step fd3 od3 hdd3 x4;refine⟨hdd4,?_,hM _ _ _ ⟨F4,ρ4,yd++[y],G4.upd fd4 od4 _ (λ_ _ _ z=>by rw[hdd4] at z;cases z),(((xc.trans x2).trans x3).trans x4).upd hd,fd4,od4,f9,?_,ec⟩⟩
    ·have:=ai2 ec;rw[cC,iy.length] at this;rw[eN];exact bN (by simpa using jD ys.length) (cW this hz)
    ·exact(((iy.mono x2.sub).mono x3.sub).mono x4.sub).append (.cons iv .nil)
 ·rintro ys σc Hc ⟨Fc,ρc,yd,Gc,xc,fd,od,hdd,iy,ec⟩
  rw[tD (aM _)] at ec;obtain⟨rfl,rfl⟩:=j0 (show ret yd ρc=_ from ec)
  have fin:Fin K Fc Hc (pick src σ) ps (Own ps σc):=⟨λi l' e=>by
   obtain⟨o,ho,a,ws,rfl,hf,hh,hl,ht⟩:=Gc.at e;rw[ht i rfl];exact⟨⟨i,⟨_,_,e⟩,ho⟩,hf,ws,hh,hl⟩⟩
  refine q _ Hc Fc (ac3 G1 L xc Gc.sub fin) (x1.trans (afn G1 L xc)) ⟨dd,ys,rfl,.inl (x1.there dd hd),fd,hdd,iy,λ⟨j,w⟩=>?_⟩
  exact G1.own_ne hd ⟨j,afm w⟩ rfl
def vg{ifs:List cZ}{scope:iZ}{mi:M (List D)}{bb:D->Ro->Option Ro}{mc:M Bool}{me:M D}(fr N:List Str)(src:List (Option Nat))(hc:X.calm=ZW)(hi:IT K X tgt iter mi)
  (hg:∀fp s H,GV K (cxC X N scope fr fp s H) tgt bb) (ht:∀fp s H,EIf K (cxC X N scope fr fp s H) ifs mc) (he:∀fp s H,EV K (cxC X N scope fr fp s H) elt me)
  (hok:akf X.env X.N scope fr N src=ZW:=by rfl) (hkind:scope.kind=.function:=by rfl) (hclos:lJ scope X.env=pure (ut X.env fr):=by rfl)
  (hs:∀x,eQ iter X.env x=pure x:=by intro _;rfl):ER K X (.ListComp elt [⟨tgt,iter,ifs,0⟩] scope pos) (qy src mi bb mc me):=ER.mk λhk=>by
 have hkc:∀fp s H,(cxC X N scope fr fp s H).K=K:=λ_ _ _=>hk
 refine PE.imp (a2b fr N src hc (hi hk) (λfp s H=>(hg fp s H).go (hkc _ _ _)) (λfp s H=>(ht fp s H).go (hkc _ _ _)) (λfp s H=>(he fp s H).go (hkc _ _ _)) hok hkind hclos hs) ag4
end
end Dn
namespace Mn
open L2
def a1n{X:Cx}{tg iter elt:cZ}{ifs:List cZ}{scope:iZ}{cpos pos px:Pos}{wi:TI}{g:TG}{ti:TT}{te:TE}{i:Nat}{x:Str}(fr N:List Str)(src:List (Option Nat))(hN:X.N.Nodup)(hxi:X.N[i]? = ZY x)(hx:Loc X.env.scope x)(hc:X.calm=ZW)(hi:PI X tg iter wi)
  (hg:∀fp s H,PG (cxC X N scope fr fp s H) tg g) (ht:∀fp s H,PIf (cxC X N scope fr fp s H) ifs ti) (he:∀fp s H,PE (cxC X N scope fr fp s H) elt te)
  (hsw:gF (.ListComp elt [⟨tg,iter,ifs,0⟩] scope cpos) (ZY (.Name x px)) pos.line X.env=pure ZW:=by rfl)
  (hok:akf X.env X.N scope fr N src=ZW:=by rfl) (hkind:scope.kind=.function:=by rfl) (hclos:lJ scope X.env=pure (ut X.env fr):=by rfl)
  (hs:∀x,eQ iter X.env x=pure x:=by intro _;rfl) (hf:X.fn x=ZW∨X.env.scope.names.lookup x=ZY .local:=by first |exact .inl rfl |exact .inr rfl |assumption) :
  PS X (.Assign [.Name x px] (.ListComp elt [⟨tg,iter,ifs,0⟩] scope cpos) pos) (tAsg (atb wi g ti te src) (ayx i)):=by
 have C:=CompOk.of hok;intro qv s σ H D I h;rw[exec_Assign_Name_used _ _ _ _ hsw];refine aA (wpAny_standAt (aA ?_));show bU _ _ (comprehension (.ListComp elt [⟨tg,iter,ifs,0⟩] scope cpos) scope X.env (firstIterPos [⟨tg,iter,ifs,0⟩] cpos) (newList []) (firstAsync [⟨tg,iter,ifs,0⟩]) (firstIter [⟨tg,iter,ifs,0⟩] X.env) (ZY (mH (.Name x px) X.env)) >>= λ_=>pure ()) _ _ _
 refine aA (wpAny_comprehension_free (use:=ZY (mH (.Name x px) X.env)) (Q:=λ_ s'=>bU (bZ X.prog X.w) X.A (pure ()) (λ_ s''=>bU (bZ X.prog X.w) X.A (pure tM) (SP X qv D) X.xe s'') X.xe s') rfl hs hclos hkind C.loc (bI (hi qv s σ H _ I h) (λv s1 h1=>bI h1 (λitv s2 h2=>?_) λ_ _ e=>e) λ_ _ e=>e))
 obtain⟨it,fp,tn,J,H2,e,I2,T,st2,f2,q2⟩:=h2;subst e;have hd0:H2 s2.heap.objs.size=ZX:=I2.hok.fresh (aM _);obtain⟨W,⟨m0,w0⟩,turn⟩:=q2 s2.heap.objs.size hd0;refine dH ?_;generalize hs3:({ s2 with heap:=s2.heap.push { cls:=.type "list", dict:=ZX,data:=.seq ([]:List aD).toArray } }:aG)=s3
 have keep2:∀b o,s2.heap.get? b=ZY o->s3.heap.get? b=ZY o:=λb o e=>by rw[<-hs3];exact aB _ e
 have I3:Inv X qv σ (upd H2 s2.heap.objs.size (.lst [])) s3:=by
  rw[<-hs3];exact I2.laid (t':=s2.toks) (λb u q=>aB _ q) (aM _) ⟨Nat.zero_le _,[],0,.nil,aW _ rfl⟩
 have ne0:∀b∈fp,b≠s2.heap.objs.size:=λb hb=>by
  obtain⟨o,e,_⟩:=T.obj _ _ st2 b hb;exact bH (aN e)
 have f3:∀b∈fp,FpOk X qv (upd H2 s2.heap.objs.size (.lst [])) b:=λb hb=>⟨by rw[cg (ne0 b hb)];exact(f2 b hb).1,(f2 b hb).2⟩
 have lt3:∀b∈fp,b<s3.heap.objs.size:=λb hb=>by
  obtain⟨o,e,_⟩:=T.obj _ _ st2 b hb;exact aN (keep2 b o e)
 refine wpAny_newFunctionEnv C.cell (by intro y hy;simp at hy) (λh₁ hns₁ hsb₁=>?_) hkind
 have keep3:∀b o,s3.heap.get? b=ZY o->h₁.get? b=ZY o:=λb o e=>hsb₁.extBut b o (bH (aN e)) (aB _ e)
 have st4:tn 0 h₁:=T.keep _ _ _ st2 λb hb o e=>keep3 b o (keep2 b o e)
 have I4:=aqr (tk:=s3.toks+([]:List (Str×Value)).length) I3 C hkind f3 lt3 hns₁ keep3;have loop:=afj (X:=cxC X N scope fr fp s3 (upd H2 s2.heap.objs.size (.lst []))) (iter:=iter) (scope:=scope) (pos:=cpos) (d:=s2.heap.objs.size) (Q:=λv H1=>D.nx (σ.set i (ZY v)) H1)
  (R:=compPost (bZ X.prog X.w) X.A X.xe (ZY (mH (.Name x px) X.env)) (λ_ s'=>bU (bZ X.prog X.w) X.A (pure ()) (λ_ s''=>bU (bZ X.prog X.w) X.A (pure tM) (SP X qv D) X.xe s'') X.xe s') (.ref s2.heap.objs.size) s3.heap.objs.size) hc rfl T
  (λH' hn b hb=>⟨hn b hb,bH (lt3 b hb),I4.ok.exfs b hb,.inl hb,(I4.ok.exf b hb).2,λp hp=>absurd (show p∈([]:List (aU×Obj)) from hp) (by simp)⟩)
  (hg fp s3 _) (ht fp s3 _) (he fp s3 _) turn w0 I4 st4 (λb hb=>(f3 b hb).1) (λσ' H' s' I6 qn=>by
   obtain⟨m6,hn6,_⟩:=I6.loc;have fC:FpOk X qv H' s3.heap.objs.size:=I3.fpOk (aM _) I6.free;have I7:Inv X qv σ H' s':=aqs I3 f3 I6 (uZ ..);refine wpAny_assign_Name (ahe I7 hN hxi hx (v:=.ref s2.heap.objs.size) rfl (λs8 I8 ⟨a,sb,ha⟩=>?_) hf)
   have hne:s3.heap.objs.size≠a:=by
    rcases ha with rfl |ha
    ·exact fC.2.1
    ·exact(fC.2.2.2.2.1 x a ha).symm
   obtain⟨o6,es6,ep6,g6,r6⟩:=hn6;refine⟨m6,⟨o6,es6,ep6,(sb.2 _ hne).trans g6,r6⟩,λh9 sb9=>aR (aR ⟨_,H',?_,qn⟩)⟩
   exact I8.turned (t':=s8.toks) (it:=s3.heap.objs.size) (λb o hb e=>(sb9.2 b hb).trans e) fC.1 fC.2.1 fC.2.2.2.1 fC.2.2.2.2.1 fC.2.2.2.2.2)
 exact codeAny_compStart_list loop (T.self _ 0 _ _ _ st4 loop)
end Mn
namespace Dn
open L2 Mn
section
variable{K:Fg9}{X:Cx}{tgt iter elt:cZ}{pos p:Pos}
def akp{i:Nat}{x:Str}{ifs:List cZ}{scope:iZ}{cpos:Pos}{mi:M (List D)}{bb:D->Ro->Option Ro}{mc:M Bool}{me:M D}(fr N:List Str)(src:List (Option Nat))(hN:X.N.Nodup)(hxi:X.N[i]? = ZY x)(hx:Loc X.env.scope x)(hc:X.calm=ZW)(hi:IT K X tgt iter mi)
  (hg:∀fp s H,GV K (cxC X N scope fr fp s H) tgt bb) (ht:∀fp s H,EIf K (cxC X N scope fr fp s H) ifs mc) (he:∀fp s H,EV K (cxC X N scope fr fp s H) elt me)
  (hsw:gF (.ListComp elt [⟨tgt,iter,ifs,0⟩] scope cpos) (ZY (.Name x p)) pos.line X.env=pure ZW:=by rfl)
  (hok:akf X.env X.N scope fr N src=ZW:=by rfl) (hkind:scope.kind=.function:=by rfl) (hclos:lJ scope X.env=pure (ut X.env fr):=by rfl)
  (hs:∀x,eQ iter X.env x=pure x:=by intro _;rfl) (hf:X.fn x=ZW∨X.env.scope.names.lookup x=ZY .local:=by first |exact .inl rfl |exact .inr rfl |assumption) :
  SV K X (.Assign [.Name x p] (.ListComp elt [⟨tgt,iter,ifs,0⟩] scope cpos) pos) (dSet i (qy src mi bb mc me)):=SV.mk λhk=>by
 have hkc:∀fp s H,(cxC X N scope fr fp s H).K=K:=λ_ _ _=>hk
 refine PS.imp (a1n fr N src hN hxi hx hc (hi hk) (λfp s H=>(hg fp s H).go (hkc _ _ _)) (λfp s H=>(ht fp s H).go (hkc _ _ _)) (λfp s H=>(he fp s H).go (hkc _ _ _)) hsw hok hkind hclos hs hf) λE σ H ⟨tg,F,ρ,fl,ρ',G,em,q⟩=>xq em q λr ρ1 e1 em=>?_
 cases em;refine ag4 σ H _ ⟨tg,F,ρ,r,ρ1,G,e1,λv H' F' G' x rr=>?_⟩
 obtain⟨G2,x2⟩:=G'.store x i rr;exact q _ H' F' G2 x2
end
@[irreducible] noncomputable def fuel:Nat:=1000000000
section
variable{K:Fg9}{X:Cx}{e a b c:cZ}{es:List cZ}{pos p p2:Pos}
def isN:D->Bool
 |.non=>ZW
 |_=>ZV
def mIsN(neg:Bool)(m:M D):M D:=m.bind λd=>ret (.bl (if neg then !isN d else isN d))
def a4e{F H:Hp}{d:D}{x:V}(h:Bor K F H d x):decide (x=.non)=isN d:=by
 rcases h with h |⟨a,vs,l',rfl,rfl,_⟩
 ·cases h <;> first |rfl | (simp[isN])
 ·simp[isN]
def ave{neg:Bool}{m:M D}{t:TE->TE}(ht:∀te σ H Q,t te σ H Q=te σ H λx H1=>Q (.bl (if neg then !decide (x=.non) else decide (x=.non))) H1)(σ:L2.St)(H:Hp)(Q:VK)(h:T K (relD K) (mIsN neg m) σ H Q):t (T K (relB K) m) σ H Q:=by
 rw[ht];obtain⟨tg,F,ρ,d,ρ',G,em,q⟩:=h;obtain⟨d1,ρ1,e1,em⟩:=bw em;obtain⟨rfl,rfl⟩:=j0 em;refine⟨tg,F,ρ,d1,_,G,e1,λv H' F' G' x r=>?_⟩
 show Q (.bl (if neg then !decide (v=.non) else decide (v=.non))) H'
 rw[a4e r];exact q _ H' F' G' x (.bl _)
def avy{j:Nat}{m:M D}(h:EB K X a m):EV K X (.Compare a [.Is] [.Constant .none j p] p2) (mIsN ZV m):=EV.mk λhk=>PE.imp (a6n (az5 (h hk))) (ave (t:=tIsN) λ_ _ _ _=>rfl)
def aqo{neg:Bool}{m:M D}{t:TE->TE}(ht:∀te σ H Q,t te σ H Q=te σ H λx H1=>Q (.bl (if neg then !decide (x=.non) else decide (x=.non))) H1)(σ:L2.St)(H:Hp)(Q:Bool->Hp->Prop)(h:TB K (ab1 (mIsN neg m)) σ H Q):tB (t (T K (relB K) m)) σ H Q:=by
 obtain⟨tg,F,ρ,k,ρ',G,em,q⟩:=h;obtain⟨d1,ρ1,e1,em⟩:=bw em;obtain⟨e3,rfl⟩:=jb em;obtain rfl:=arb e3;refine ave ht σ H _ ⟨tg,F,ρ,_,_,G,e1,λv H' F' G' x r=>?_⟩
 cases r;exact⟨k,rfl,q H' F' G' x⟩
def air{j:Nat}{m:M D}(h:EB K X a m):ET K X (.Compare a [.Is] [.Constant .none j p] p2) (ab1 (mIsN ZV m)):=ET.mk λhk=>PT.imp (az0 (az5 (h hk))) (aqo (t:=tIsN) λ_ _ _ _=>rfl)
def asn{j:Nat}{m:M D}(h:EB K X a m):ET K X (.Compare a [.IsNot] [.Constant .none j p] p2) (ab1 (mIsN ZW m)):=ET.mk λhk=>PT.imp (az0 (a2f (h hk))) (aqo (t:=a4y) λ_ _ _ _=>rfl)
end
def apv(f:Fd):Prop:=∀ns:List Int,ns.length<=63->∃ps,f [.val (.kst (ns.map D.int))]=ZY (.ok (.v (.bl ZW)),ps)
def a5i{K:Fg9}{f:Fd}(h:apv f)(H:Hp)(a:aU)(ns:List Int)(hn:ns.length<=63)(hS:SqL K H a (ns.map V.int)):spOf K 1 f [.ref a] H (λv _=>v=.bl ZW) λ_ _ _=>False:=by
 obtain⟨ps,e⟩:=h ns hn;refine⟨rfl,H,_,_,ps,⟨Same.refl H,rfl,λi s o e1 e2=>?_,λi j b ⟨⟨t,l,e1⟩,_⟩ _=>by cases i <;> simp at e1⟩,e,λv H' F' O' _ _ _ rr=>?_⟩
 ·cases i with
  |zero=>
   simp at e1 e2;subst e1 e2;exact⟨_,rfl,.kst hS (ae5 ns)⟩
  |succ i=>simp at e1
 ·have rr:Is K F' (.bl ZW) v:=rr;cases rr;rfl
def walk{l:qW}{q:cA}{loose:List Str}{XP:(Str->Option aD)->eF->Prop}{YP:dU->eF->Prop}{d:DefRec}{K:Params->Fg9}{f:Fd}{k:Nat}(ht:apv f)(hn:l.most=ZY 63)(hdf:d.params.defaults=[])(hr:Room k pK)
  (hY:∀(w:dU) (h:eF),YP w h->(K w.params).In h)
  (F:∀(w:dU) (mg:Str->Option aD) (fa:aU) (h:eF),(K w.params).In h->h.Ns aX mg->mg d.name=ZY (.ref fa) ->
   ∃fd:dR,(∀(s:aG) (u:aD),qC s fd ⟨[u],[]⟩ [("script", u)])/\∀base:eF,(K w.params).In base->base.Ns aX mg->FnOk l.prog w (K w.params) mg base CX0 k fa fd ["script"] (spOf (K w.params) 1 f)) :
  wM q loose XP YP l.row.toRowW d [] (λf vs=>uO f vs) :=
 L2.a0w (n:=63) (k:=k) (x := "script") (CX:=λ_=>CX0) (sp:=λw=>spOf (K w.params) 1 f) hn (by decide) hdf hr hY F (λ_ H a ns hl _ hS=>a5i ht H a ns hl hS) λ_ _ _ _ _ z=>z
section
variable{α β:Type}(ρ:Ro)
@[simp] theorem bcy(a:α):ret a ρ=ZY (.ok a,ρ):=rfl
@[simp] theorem bbo(o:Option α):lift o ρ=match o with
 |some a=>ZY (.ok a,ρ)
 |none=>ZX:=rfl
@[simp] theorem a4g(m:M α)(k:α->M β):M.bind m k ρ=match m ρ with
 |some (.ok a,ρ1)=>k a ρ1
 |some (.exc x,ρ1)=>ZY (.exc x,ρ1)
 |none=>ZX:=rfl
@[simp] theorem v_ap(m:M D):M.v m ρ=(m.bind λd=>ret (.v d)) ρ:=rfl
@[simp] theorem d_ap(m:M Rv):M.d m ρ=(m.bind λr=>ret r.d) ρ:=rfl
@[simp] theorem bdr(d:D):(Rv.v d).d=d:=rfl
@[simp] theorem bcx(l:List D):(Rv.fr l).d=.lst l:=rfl
@[simp] theorem bcw(d:D)(l:List D):(Rv.tf d l).d=.tup [d,.lst l]:=rfl
@[simp] theorem bdq(d:D):(Rv.v d).sl=.val d:=rfl
@[simp] theorem bcv(l:List D):(Rv.fr l).sl=.own ZX l:=rfl
@[simp] theorem bbb(i:Nat):mVar i ρ=match ρ[i]? with
 |some (.val d)=>ZY (.ok d,ρ)
 |some (.own ZX l)=>ZY (.ok (.lst l),ρ.set i (.val (.lst l)))
 |_=>ZX:=rfl
@[simp] theorem a9h(i:Nat):dz i ρ=match ρ[i]? with
 |some (.val d)=>ZY (.ok d,ρ)
 |some (.own _ l)=>ZY (.ok (.lst l),ρ)
 |_=>ZX:=rfl
@[simp] theorem a9m(i:Nat):ah2 i ρ=match ρ[i]? with
 |some (.val d)=>ZY (.ok (.v d),ρ)
 |some (.own ZX l)=>ZY (.ok (.fr l),ρ.set i .emp)
 |_=>ZX:=rfl
@[simp] theorem bbd(i:Nat):mOwn i ρ=match ρ[i]? with
 |some (.own _ l)=>ZY (.ok l,ρ)
 |_=>ZX:=rfl
@[simp] theorem a7d(i:Nat)(l':List D):ae3 i l' ρ=match ρ[i]? with
 |some (.own t _)=>ZY (.ok (),bC ρ i (.own t l'))
 |_=>ZX:=rfl
@[simp] theorem a9k(m1 m2:M D):gw m1 m2 ρ=(m1.bind λx=>m2.bind λy=>ret (x,y)) ρ:=rfl
@[simp] theorem a7e(i:Nat)(m2:M D):cu i m2 ρ=((dz i).bind λ_=>m2.bind λy=>(dz i).bind λx=>ret (x,y)) ρ:=rfl
@[simp] theorem bc4(g:D->D->Option Rv)(m:M (D×D)):mOp g m ρ=(m.bind λp=>lift (g p.1 p.2)) ρ:=rfl
@[simp] theorem bc3(g:D->Option D)(m:M D):mUn g m ρ=(m.bind λd=>lift (g d)) ρ:=rfl
@[simp] theorem bbn(m1 m2:M D):mAnd m1 m2 ρ=(m1.bind λd=>(lift (asB d)).bind λk=>if k=ZW then m2 else ret (.bl ZV)) ρ:=rfl
@[simp] theorem a9i(m:M D):ab1 m ρ=(m.bind λd=>lift (asB d)) ρ:=rfl
@[simp] theorem a7c(g:D->D->Option Rv)(m:M (D×D)):jr g m ρ=ab1 (mOp g m).d ρ:=rfl
@[simp] theorem a9l(m:M Bool):am0 m ρ=(m.bind λk=>ret (!k)) ρ:=rfl
@[simp] theorem a9s(m1 m2:M Bool):a2y m1 m2 ρ=(m1.bind λk=>if k=ZW then m2 else ret ZV) ρ:=rfl
@[simp] theorem bbe(m1 m2:M Bool):mOrB m1 m2 ρ=(m1.bind λk=>if k=ZW then ret ZW else m2) ρ:=rfl
@[simp] theorem bc5(m:M Bool)(m1 m2:M α):mIf m m1 m2 ρ=(m.bind λk=>if k=ZW then m1 else m2) ρ:=rfl
@[simp] theorem bc7(c:Prop)[Decidable c](m1 m2:M α):(if c then m1 else m2) ρ=if c then m1 ρ else m2 ρ:=by split <;> rfl
@[simp] theorem bbu(c:Prop)[Decidable c](m1 m2:Sd):(if c then m1 else m2) ρ=if c then m1 ρ else m2 ρ:=by split <;> rfl
@[simp] theorem bdp(b:Bool):asB (.bl b)=ZY b:=rfl
@[simp] theorem bcp(b:Int):asI (.int b)=ZY b:=rfl
@[simp] theorem bb3(b:Bool):gNot (.bl b)=ZY (.bl (!b)):=rfl
@[simp] theorem a9u(b:Int):gNeg (.int b)=ZY (.int (-b)):=rfl
@[simp] theorem a98(i j:Int):gAdd (.int i) (.int j)=ZY (.v (.int (i+j))):=rfl
@[simp] theorem a96(l k:List D):gAdd (.tup l) (.tup k)=if l.length+k.length<=capS then ZY (.v (.tup (l++k))) else ZX:=rfl
@[simp] theorem a97(l k:List D):gAdd (.lst l) (.lst k)=if l.length+k.length<=capS then ZY (.fr (l++k)) else ZX:=rfl
@[simp] theorem a9z(f:Int->Int->Option Int)(i j:Int):gInt f (.int i) (.int j)=(f i j).map λk=>.v (.int k):=rfl
@[simp] theorem bcb(i j:Int):fSub i j=ZY (i-j):=rfl
@[simp] theorem a9x(i j:Int):gMul (.int i) (.int j)=(fMul i j).map λk=>.v (.int k):=rfl
@[simp] theorem a9v(l:List D)(k:Int):gMul (.tup l) (.int k)=if k=1 then ZY (.v (.tup l)) else if l≠[]/\2<=k/\k<9223372036854775808/\l.length*k.toNat<=capS then ZY (.v (.tup (aJ k.toNat l).flatten)) else ZX:=rfl
@[simp] theorem a9w(l:List D)(k:Int):gMul (.lst l) (.int k)=if k.natAbs<9223372036854775808/\l.length*k.toNat<=capS then ZY (.fr (aJ k.toNat l).flatten) else ZX:=rfl
@[simp] theorem a94(f:Int->Int->Bool)(i j:Int):gCmp f (.int i) (.int j)=ZY (.v (.bl (f i j))):=rfl
@[simp] theorem bbi(t:Ty)(m:M D):mIsi t m ρ=(m.bind λd=>ret (.bl (isTy t d))) ρ:=rfl
@[simp] theorem a7l(f g:Int->Int->Bool)(m1 m2 m3:M D):am2 f g m1 m2 m3 ρ=(m1.bind λx=>m2.bind λy=>match x,y with
 |.int i,.int j=>if f i j=ZW then m3.bind λz=>match z with
  |.int k=>ret (.bl (g j k))
  |_=>lift ZX
  else ret (.bl ZV)
 |_,_=>lift ZX) ρ:=rfl
@[simp] theorem bbf:mNil ρ=ZY (.ok [],ρ):=rfl
@[simp] theorem a9q(m:M D)(ms:M (List D)):bh m ms ρ=(m.bind λd=>ms.bind λds=>ret (d::ds)) ρ:=rfl
@[simp] theorem a7j(i:Nat)(ms:M (List D)):ig i ms ρ=((dz i).bind λ_=>ms.bind λds=>(dz i).bind λd=>ret (d::ds)) ρ:=rfl
@[simp] theorem bbc(m:M (List D)):mTup m ρ=(m.bind λds=>lift (gTup ds)) ρ:=rfl
@[simp] theorem bbh(m:M (List D)):mLst m ρ=(m.bind λds=>lift (gLst ds)) ρ:=rfl
@[simp] theorem a9r(g:List D->Option Rv)(m:M (List D)):iu g m ρ=(m.bind λds=>lift (g ds)) ρ:=rfl
@[simp] theorem bde(f:D->Option Rv)(d:D):g1 f [d]=f d:=rfl
@[simp] theorem bdd(f:D->D->Option Rv)(d d':D):g2 f [d,d']=f d d':=rfl
@[simp] theorem a70(l:List D):itemsD (.tup l)=ZY l:=rfl
@[simp] theorem a71(l:List D):itemsD (.lst l)=ZY l:=rfl
@[simp] theorem a72(l:List D):itemsD (.kst l)=ZY l:=rfl
@[simp] theorem a95(l:List D):gAll (.lst l)=(ac2 l).map λbs=>.v (.bl (bs.all id)):=rfl
@[simp] theorem a79(i:Int):ang (.int i)=ZY (.v (.int i)):=rfl
@[simp] theorem a90(i:Bool):ang (.bl i)=ZY (.v (.int (if i then 1 else 0))):=rfl
@[simp] theorem bb5(d:D)(k:Int):gIx d (.int k)=(itemsD d).bind λl=>(atI l k).map λx=>.v x:=rfl
@[simp] theorem a9p(i:Nat)(ml mh:M (Option Int)):am1 i ml mh ρ=((dz i).bind λ_=>ml.bind λlo=>mh.bind λhi=>(dz i).bind λd=>lift (gCut d lo hi)) ρ:=rfl
@[simp] theorem a9j(m:M D):alh m ρ=(m.bind λd=>lift ((asI d).map ZY)) ρ:=rfl
@[simp] theorem a91(l:List D)(lo hi:Option Int):gCut (.tup l) lo hi=ZY (.v (.tup (cutD l lo hi))):=rfl
@[simp] theorem a92(l:List D)(lo hi:Option Int):gCut (.lst l) lo hi=ZY (.fr (cutD l lo hi)):=rfl
@[simp] theorem a93(l:List D)(lo hi:Option Int):gCut (.kst l) lo hi=ZY (.fr (cutD l lo hi)):=rfl
@[simp] theorem bbj(neg:Bool)(m:M D):mIsN neg m ρ=(m.bind λd=>ret (.bl (if neg then !isN d else isN d))) ρ:=rfl
@[simp] theorem a7f(m:M D):qm m ρ=(m.bind λd=>lift (itemsD d)) ρ:=rfl
@[simp] theorem bbl(g:α->Option β)(m:M α):mGet g m ρ=(m.bind λds=>lift (g ds)) ρ:=rfl
@[simp] theorem apd(j:Int):qt [.int j]=if j.natAbs<4611686018427387904 then ZY (rangeD 0 j.toNat) else ZX:=rfl
@[simp] theorem a3g(i j:Int):alq [.int i,.int j]=if i.natAbs<4611686018427387904/\j.natAbs<4611686018427387904 then ZY (rangeD i (j-i).toNat) else ZX:=rfl
@[simp] theorem a3i(i j:Int):alr (.int i) (.int j)=if 0<j/\j<1000000000000000000000000000000000000000000000000000000000000 then ZY (.v (.tup [.int (i / j),.int (i % j)])) else ZX:=rfl
@[simp] theorem bbg(i:Nat)(g:List D->List D->Option (D×List D))(ms:M (List D)):mMut i g ms ρ=((mOwn i).bind λ_=>ms.bind λds=>(mOwn i).bind λl=>(lift (g l ds)).bind λr=>(ae3 i r.2).bind λ_=>ret r.1) ρ:=rfl
@[simp] theorem a3l(l:List D)(d:D):aav l [d]=if l.length<capS then ZY (.non,l++[d]) else ZX:=rfl
@[simp] theorem a9o:dh ρ=ZY (.ok [],ρ):=rfl
@[simp] theorem a7h(m:M D)(ms:M (List (Option D))):au m ms ρ=(m.bind λd=>ms.bind λds=>ret (ZY d::ds)) ρ:=rfl
@[simp] theorem a7g(j:Nat)(ms:M (List (Option D))):bu j ms ρ=((dz j).bind λ_=>ms.bind λds=>ret (ZX::ds)) ρ:=rfl
@[simp] theorem bc6(f:Fd)(js:List (Option Nat))(ms:M (List (Option D))):mFn f js ms ρ=(ms.bind λds ρ=>if okJs ρ js=ZW then match f (lend ρ js ds) with
  |some (.ok r,ps)=>ZY (.ok r,putB ρ js ps)
  |some (.exc x,ps)=>ZY (.exc x,putB ρ js ps)
  |none=>ZX
 else ZX) ρ:=rfl
@[simp] theorem ayi(src:List (Option Nat))(mi:M (List D))(b:D->Ro->Option Ro)(mc:M Bool)(me:M D):qy src mi b mc me ρ=(mi.bind λl ρ=>if okJs ρ src=ZW then match compD b mc me l [] (lend ρ src (src.map λ_=>ZX)) with
  |some (.ok ys,ps)=>if ys.length<=capS then ZY (.ok (.fr ys),putB ρ src ps) else ZX
  |some (.exc x,ps)=>ZY (.exc x,putB ρ src ps)
  |none=>ZX
 else ZX) ρ:=rfl
@[simp] theorem a9f:okJs ρ []=ZW:=rfl
@[simp] theorem a6z(r:List (Option Nat)):okJs ρ (ZX::r)=okJs ρ r:=rfl
@[simp] theorem auk(j:Nat)(r:List (Option Nat)):okJs ρ (ZY j::r)=((match ρ[j]? with
  |some (.own _ _) => !r.contains (ZY j)
  |_=>ZW)&&okJs ρ r):=rfl
@[simp] theorem lend_eq(js:List (Option Nat))(ds:List (Option D)):lend ρ js ds=(wO js ds).mapIdx λi p=>ali ρ i p.1 p.2:=rfl
@[simp] theorem a4p(i j:Nat)(d:Option D):ali ρ i (ZY j) d=match ρ[j]? with
  |some (.val d)=>.val d
  |some (.own _ l)=>.own (ZY i) l
  |_=>.emp:=rfl
@[simp] theorem bbp(i:Nat)(d:D):ali ρ i ZX (ZY d)=.val d:=rfl
@[simp] theorem bbq(i:Nat):ali ρ i ZX ZX=.emp:=rfl
@[simp] theorem a1l(js:List (Option Nat))(ps:Ro):putB ρ js ps=ρ.mapIdx λj s=>putS js ps j s:=rfl
@[simp] theorem bay(js:List (Option Nat))(ps:Ro)(j:Nat)(s:Sl):putS js ps j s=match js.findIdx? (λo=>o==ZY j) with
 |none=>s
 |some i=>match s with
  |.own t _=>match ps[i]? with
   |some (.own (ZY i') l')=>if i'=i then .own t l' else .emp
   |_=>.emp
  |s=>s:=rfl
@[simp] theorem bdg(nl np:Nat)(g:Sd):fnD nl np g ρ=match g (ρ++aJ (nl-np) .emp) with
 |some (.ret r,ρ)=>ZY (.ok r,ρ.take np)
 |some (.nx,ρ)=>ZY (.ok (.v .non),ρ.take np)
 |some (.exc x,ρ)=>ZY (.exc x,ρ.take np)
 |_=>ZX:=rfl
@[simp] theorem bdm:dNx ρ=ZY (.nx,ρ):=rfl
@[simp] theorem bch(g k:Sd):dSeq g k ρ=match g ρ with
 |some (.nx,ρ1)=>k ρ1
 |r=>r:=rfl
@[simp] theorem bdw(m:M α)(k:α->Sd):dM m k ρ=match m ρ with
 |some (.ok x,ρ1)=>k x ρ1
 |some (.exc x,ρ1)=>ZY (.exc x,ρ1)
 |none=>ZX:=rfl
@[simp] theorem bci(m:M Rv):dRet m ρ=dM m (λr ρ=>ZY (.ret r,ρ)) ρ:=rfl
@[simp] theorem bdn(m:M Bool)(g k:Sd):dIf m g k ρ=dM m (λz=>if z=ZW then g else k) ρ:=rfl
@[simp] theorem bab(m:M α):yp m ρ=dM m (λ_ ρ=>ZY (.nx,ρ)) ρ:=rfl
@[simp] theorem bcg(i:Nat)(m:M Rv):dSet i m ρ=dM m (λr ρ=>ZY (.nx,bC ρ i r.sl)) ρ:=rfl
@[simp] theorem bcm(m:M D)(b:D->Ro->Option Ro):dAsg m b ρ=dM m (λd ρ=>(b d ρ).map λρ'=>(.nx,ρ')) ρ:=rfl
@[simp] theorem bcf(i:Nat)(mi m:M D):dSub i mi m ρ=(dM m λd=>dM (mOwn i) λ_=>dM mi λk=>dM (mOwn i) λl=>dM (lift ((asI k).bind (ixN l.length))) λj=>dM (ae3 i (l.set j d)) λ_=>dNx) ρ:=rfl
@[simp] theorem bcl(f:Int->Int->Int)(i:Nat)(m:M D):dAug f i m ρ=(dM (mVar i) λx=>dM m λy=>dM (lift ((asI x).bind λn=>(asI y).map λk=>D.int (f n k))) λz ρ=>ZY (.nx,bC ρ i (.val z))) ρ:=rfl
@[simp] theorem bck(m:M (List D))(b:D->Ro->Option Ro)(g:Sd):dFor m b g ρ=dM m (forD b g) ρ:=rfl
@[simp] theorem ag7(i:Nat)(d:D):cz i d ρ=ZY (bC ρ i (.val d)):=rfl
@[simp] theorem bco:bNil [] ρ=ZY ρ:=rfl
@[simp] theorem bac(b:D->Ro->Option Ro)(bs:List D->Ro->Option Ro)(d:D)(r:List D):kj b bs (d::r) ρ=(b d ρ).bind (bs r):=rfl
@[simp] theorem bcn(n:Nat)(bs:List D->Ro->Option Ro)(l:List D):bTup n bs (.tup l) ρ=if l.length=n then bs l ρ else ZX:=rfl
end
section
variable(c:Prop)[Decidable c](b:Bool)(ρ:Ro)
@[simp] theorem bbt:(if c then ZY (Out.ok (D.bl b),ρ) else ZY (Out.ok (D.bl ZV),ρ))=ZY (.ok (.bl (decide c&&b)),ρ):=by by_cases h:c <;> simp[h]
end
@[simp] theorem di{n:Nat}(h:n<=1000):n<=capS:=cW h (by decide)
theorem a4b:capS=16777216:=rfl
@[simp] theorem bb2(ds:List D):gTup ds=if ds.length<=capS then ZY (.tup ds) else ZX:=rfl
@[simp] theorem bb4(ds:List D):gLst ds=if ds.length<=capS then ZY (.fr ds) else ZX:=rfl
@[simp] theorem a4f{α:Type}(l:List α)(f:α->Bool):ac2 (l.map λd=>D.bl (f d))=ZY (l.map f):=by
 have:=aki (l.map f);rw[eV] at this;exact this
def aa9(s:Sl):List D->Sl
 | []=>s
 |d::r=>aa9 (.val d) r
theorem vh{me:M D}{rest:Ro}{f:D->D}:∀{l:List D} {ys:List D} {s:Sl},(∀d∈l,me (.val d::rest)=ZY (.ok (f d),.val d::rest))->compD (cz 0) (ret ZW) me l ys (s::rest)=ZY (.ok (ys++l.map f),aa9 s l::rest)
 | [],ys,s,_=>by simp[compD,aa9]
 |d::r,ys,s,h=>by
  have h1:=h d (aQ ..);have ih:=vh (me:=me) (rest:=rest) (f:=f) (l:=r) (ys:=ys++[f d]) (s:=.val d) λx hx=>h x (aK _ hx)
  simp[compD,h1,ih,aa9]
theorem uq{mc:M Bool}{me:M D}{rest:Ro}{p:D->Bool}{f:D->D}:∀{l:List D} {ys:List D} {s:Sl},(∀d∈l,mc (.val d::rest)=ZY (.ok (p d),.val d::rest))->(∀d∈l,p d=ZW->me (.val d::rest)=ZY (.ok (f d),.val d::rest)) ->
  compD (cz 0) mc me l ys (s::rest)=ZY (.ok (ys++(l.filter p).map f),aa9 s l::rest)
 | [],ys,s,_,_=>by simp[compD,aa9]
 |d::r,ys,s,hc,h=>by
  have h0:=hc d (aQ ..);cases hp:p d with
  |true=>
   have h1:=h d (aQ ..) hp;have ih:=uq (mc:=mc) (me:=me) (rest:=rest) (p:=p) (f:=f) (l:=r) (ys:=ys++[f d]) (s:=.val d) (λx hx=>hc x (aK _ hx)) λx hx=>h x (aK _ hx)
   simp[compD,h0,h1,ih,aa9,hp]
  |false=>
   have ih:=uq (mc:=mc) (me:=me) (rest:=rest) (p:=p) (f:=f) (l:=r) (ys:=ys) (s:=.val d) (λx hx=>hc x (aK _ hx)) λx hx=>h x (aK _ hx)
   simp[compD,h0,ih,aa9,hp]
@[simp] theorem baa(b:D->Ro->Option Ro)(g:Sd)(ρ:Ro):forD b g [] ρ=ZY (.nx,ρ):=rfl
theorem ph(b:D->Ro->Option Ro)(g:Sd)(d:D)(ds:List D)(ρ:Ro):forD b g (d::ds) ρ=match b d ρ with
  |none=>ZX
  |some ρ1=>match g ρ1 with
   |some (.nx,ρ2)=>forD b g ds ρ2
   |some (.cont,ρ2)=>forD b g ds ρ2
   |some (.brk,ρ2)=>ZY (.nx,ρ2)
   |some (.ret r,ρ2)=>ZY (.ret r,ρ2)
   |some (.exc x,ρ2)=>ZY (.exc x,ρ2)
   |none=>ZX:=rfl
@[simp] theorem aph{α:Type}(p:α->Bool)(a:α)(l:List α):sW p (a::l)=if p a=ZW then ZY 0 else (sW p l).map (· + 1):=by
 rw[List.findIdx?_cons]
@[simp] theorem bdh{α:Type}(p:α->Bool):sW p ([]:List α)=ZX:=rfl
theorem azg{l:List D}{k:Int}(h0:0<=k)(h1:k<(l.length:Int)):atI l k=ZY (l.getD k.toNat .non):=by
 have hk:k.toNat<l.length:=by omega
 have q:atI l ((k.toNat:Nat):Int)=ZY l[k.toNat]:=ai6 (aF hk);rw[show((k.toNat:Nat):Int)=k by omega] at q
 rw[q];simp[tL,aF hk]
def getD_mem{l:List D}{n:Nat}(h:n<l.length):l.getD n .non∈l:=by
 simp[tL,aF h]
def av8(ns:List Int)(lo hi:Option Int):∃ms:List Int,cutD (ns.map D.int) lo hi=ms.map D.int/\ms.length<=ns.length:=by
 refine⟨(ns.drop (HT.sIx ns.length 0 lo)).take (HT.sIx ns.length ns.length hi-HT.sIx ns.length 0 lo),?_,?_⟩
 ·unfold cutD;rw[aC,wQ,wR]
 ·rw[eX,jE];omega
theorem abr{b:D->Ro->Option Ro}{g:Sd}(Inv:Nat->Ro->Prop):∀{l:List D} {ρ:Ro} (k:Nat),Inv k ρ->(∀i d ρ,l[i]? = ZY d->Inv (k+i) ρ->∃ρ1 ρ2,b d ρ=ZY ρ1/\(g ρ1=ZY (.nx,ρ2)∨g ρ1=ZY (.cont,ρ2))/\Inv (k+i+1) ρ2) ->
  ∃ρ',forD b g l ρ=ZY (.nx,ρ')/\Inv (k+l.length) ρ'
 | [],ρ,k,h0,_=>⟨ρ,rfl,h0⟩
 |d::r,ρ,k,h0,hs=>by
  obtain⟨ρ1,ρ2,e1,e2,h1⟩:=hs 0 d ρ rfl h0;obtain⟨ρ',e3,h3⟩:=abr (b:=b) (g:=g) Inv (l:=r) (ρ:=ρ2) (k+1) h1 λi x ρ hx hi=>by
   have:=hs (i+1) x ρ (by simpa using hx) ((show k+(i+1)=k+1+i by omega)▸hi)
   have e:k+(i+1)+1=k+1+i+1:=by omega
   rw[e] at this;exact this
  refine⟨ρ',?_,?_⟩
  ·rw[ph,e1];rcases e2 with e2 |e2 <;> simp only[e2] <;> exact e3
  ·have e:k+(d::r).length=k+1+r.length:=by simp;omega
   rw[e];exact h3
theorem vm{b:D->Ro->Option Ro}{mc:M Bool}{me:M D}(Inv:Nat->List D->Ro->Prop):∀{l:List D} {ys:List D} {ρ:Ro} (k:Nat),Inv k ys ρ ->
  (∀i d ys ρ,l[i]? = ZY d->Inv (k+i) ys ρ->∃ρ1 ρ2 z,b d ρ=ZY ρ1/\mc ρ1=ZY (.ok z,ρ2)/\((z=ZV/\Inv (k+i+1) ys ρ2)∨(z=ZW/\∃y ρ3,me ρ2=ZY (.ok y,ρ3)/\Inv (k+i+1) (ys++[y]) ρ3))) ->
  ∃ys' ρ',compD b mc me l ys ρ=ZY (.ok ys',ρ')/\Inv (k+l.length) ys' ρ'
 | [],ys,ρ,k,h0,_=>⟨ys,ρ,rfl,h0⟩
 |d::r,ys,ρ,k,h0,hs=>by
  obtain⟨ρ1,ρ2,z,e1,e2,h1⟩:=hs 0 d ys ρ rfl h0;have nxt:∀{ys':List D} {ρ':Ro},Inv (k+0+1) ys' ρ'->∃ys2 ρ2,compD b mc me r ys' ρ'=ZY (.ok ys2,ρ2)/\Inv (k+1+r.length) ys2 ρ2:=λ{ys' ρ'} hi=>
   vm (b:=b) (mc:=mc) (me:=me) Inv (l:=r) (ys:=ys') (ρ:=ρ') (k+1) hi λi x ys ρ hx hi=>by
    have:=hs (i+1) x ys ρ (by simpa using hx) ((show k+(i+1)=k+1+i by omega)▸hi)
    have e:k+(i+1)+1=k+1+i+1:=by omega
    rw[e] at this;exact this
  have el:k+(d::r).length=k+1+r.length:=by simp;omega
  rw[el];rcases h1 with⟨rfl,h1⟩ |⟨rfl,y,ρ3,e3,h1⟩
  ·obtain⟨ys2,ρ4,e4,h4⟩:=nxt h1;exact⟨ys2,ρ4,by simp[compD,e1,e2,e4],h4⟩
  ·obtain⟨ys2,ρ4,e4,h4⟩:=nxt h1;exact⟨ys2,ρ4,by simp[compD,e1,e2,e3,e4],h4⟩
@[simp] theorem bb6(neg:Bool)(a b:Int):gEq neg (.int a) (.int b)=ZY (.v (.bl (if neg then !(a==b) else (a==b)))):=rfl
@[simp] theorem bdc(neg:Bool)(a b:Bool):gEq neg (.bl a) (.bl b)=ZY (.v (.bl (if neg then !(a==b) else (a==b)))):=rfl
section
variable{K:Fg9}{X:Cx}{e a b c:cZ}{es:List cZ}{pos p p2:Pos}
def qp:List D->Option (List Int)
 | []=>ZY []
 |.int i::r=>(qp r).map (i :: ·)
 |_::_=>ZX
theorem abp:∀{l:List D} {ns:List Int},qp l=ZY ns->l=ns.map D.int
 | [],_,h=>by cases h;rfl
 |.int b::r,bs,h=>by
  have h':(qp r).map (b :: ·)=ZY bs:=h;cases e:qp r with
  |none=>rw[e] at h';cases h'
  |some t=>
   rw[e] at h';cases h';rw[abp e];rfl
 |.non::_,_,h=>by cases h
 |.bl _::_,_,h=>by cases h
 |.str _::_,_,h=>by cases h
 |.tup _::_,_,h=>by cases h
 |.lst _::_,_,h=>by cases h
 |.kst _::_,_,h=>by cases h
 |.dct _::_,_,h=>by cases h
@[simp] theorem acl(ns:List Int):qp (ns.map D.int)=ZY ns:=by
 induction ns with
 |nil=>rfl
 |cons b r ih=>show(qp (r.map D.int)).map (b :: ·)=_;rw[ih];rfl
def a07{prog:cA}{w:dU}{A:cT}{E:aD->aG->Prop}{s:aG}{l:aU}{xs:Array (Int×Tok)}{Q:aD->aG->Prop}(hh:A.handled=ZX)(ht:s.heap.IsTuple l (kE xs))
  (h:∀h' tk t',(∀b o,s.heap.get? b=ZY o->h'.get? b=ZY o)->Q (.int (PySem.preSum (PySem.numAt xs) xs.size) t') { s with heap:=h',toks:=tk }):bU (bZ prog w) A (call (.builtin "sum") [.ref l]) Q E s:=by
 have hlt:l<s.heap.objs.size:=by obtain⟨_,e,_⟩:=ht;exact aN e
 refine PySem.call_sum_walkG (wpAny_pyIter_tuple ht ?_);refine⟨s.heap.objs.size,[s.heap.objs.size,l],[s.heap.objs.size],(kE xs).size,_,_,PySem.numAt xs,rfl,Walks.tuple (A:=A.in1) hh _ l (bH hlt) (kE xs),⟨⟨_,aW _ rfl,rfl,rfl⟩,Heap.IsTuple.push ht _⟩,λb hb=>?_,λ_ _ z=>PySem.intItems_at z,λh' tk t' hk=>?_⟩
 ·have hb:b=s.heap.objs.size∨b=l:=by simpa using hb
  rw[cQ];rcases hb with rfl |rfl
  ·exact jD _
  ·exact pW hlt
 ·have:=h h' tk t' λb o e=>hk b o (λz=>by rw[dO] at z;exact absurd (aN e) (by rw[z];exact iR _)) (aB _ e)
  simpa[kE] using this
def gSum:D->Option Rv
 |.lst l=>(qp l).map λns=>.v (.int ns.sum)
 |.tup l=>(qp l).map λns=>.v (.int ns.sum)
 |_=>ZX
theorem a8y(hc:X.calm=ZW):CallD K X (.builtin "sum") (g1 gSum):=cd_one λhk qv s σ0 H x u Q tg F ρ σ d r I ru G bd eg q=>by
 subst hk;cases d with
 |lst l=>
  have eg:(qp l).map (λns=>Rv.v (.int ns.sum))=ZY r:=eg
  cases e:qp l with
  |none=>rw[e] at eg;cases eg
  |some ns=>
   rw[e] at eg;cases eg;obtain⟨a,vs,rfl,ea,hl⟩:=bd.lst G.sub;rw[abp e] at hl;rw[hl.int_inv] at ea;cases ru;obtain⟨its,rv,pl,_⟩:=I.list (SqL.of ea);obtain⟨xs,hxs⟩:∃xs:Array (Int×Tok),its.toArray=kE xs:=(qQ (intsAre_of rv)).items
   have hl':=pl.isList;rw[hxs] at hl';refine PySem.sum_intListG (I.ok.hd hc) hl' λh' tk t' hk=>⟨.int ns.sum,H,I.kept hk,⟨t',?_⟩,Res.same G q (.int _)⟩
   have h1:numsOf its=ns:=(intsAre_of rv).numsOf;have h2:=tY xs;rw[<-hxs] at h2;have h3:xs.toList.map (·.1)=ns:=by
    rw[<-h2];exact h1
   rw[vL,nP (by simp),h3]
 |tup l=>
  have eg:(qp l).map (λns=>Rv.v (.int ns.sum))=ZY r:=eg
  cases e:qp l with
  |none=>rw[e] at eg;cases eg
  |some ns=>
   rw[e] at eg;cases eg;obtain⟨a,vs,rfl,ea,hl⟩:=bd.tup;rw[abp e] at hl;rw[hl.int_inv] at ea;cases ru;obtain⟨its,rv,pl,_⟩:=I.tuple (SqT.of (G.sub _ _ ea));obtain⟨xs,hxs⟩:∃xs:Array (Int×Tok),its.toArray=kE xs:=(qQ (intsAre_of rv)).items
   have hl':s.heap.IsTuple a its.toArray:=pl;rw[hxs] at hl';refine a07 (I.ok.hd hc) hl' λh' tk t' hk=>⟨.int ns.sum,H,I.kept hk,⟨t',?_⟩,Res.same G q (.int _)⟩
   have h1:numsOf its=ns:=(intsAre_of rv).numsOf;have h2:=tY xs;rw[<-hxs] at h2;have h3:xs.toList.map (·.1)=ns:=by
    rw[<-h2];exact h1
   rw[vL,nP (by simp),h3]
 |_=>cases eg
def insI(x:Int):List Int->List Int
 | []=>[x]
 |y::r=>if x<=y then x::y::r else y::insI x r
def sortI:List Int->List Int
 | []=>[]
 |x::r=>insI x (sortI r)
theorem insI_perm(x:Int):∀l:List Int,(insI x l).Perm (x::l)
 | []=>.refl _
 |y::r=>by
  unfold insI;split
  ·exact .refl _
  ·exact((insI_perm x r).cons y).trans (.swap x y r)
theorem sortI_perm:∀l:List Int,(sortI l).Perm l
 | []=>.refl _
 |x::r=>(insI_perm x (sortI r)).trans ((sortI_perm r).cons x)
theorem aie(x:Int):∀{l:List Int},l.Pairwise (· <= ·)->(insI x l).Pairwise (· <= ·)
 | [],_=>by simp[insI]
 |y::r,h=>by
  unfold insI;rw[dN] at h;split
  ·rename_i hxy;rw[dN,dN];refine⟨λz hz=>?_,h⟩
   rcases bF.mp hz with rfl |hz
   ·exact hxy
   ·exact qI hxy (h.1 z hz)
  ·rename_i hxy;rw[dN];refine⟨λz hz=>?_,aie x h.2⟩
   rcases bF.mp ((insI_perm x r).mem_iff.mp hz) with rfl |hz
   ·omega
   ·exact h.1 z hz
theorem ab4:∀l:List Int,(sortI l).Pairwise (· <= ·)
 | []=>.nil
 |x::r=>aie x (ab4 r)
theorem ajs:∀{l k:List Int},l.Perm k->l.Pairwise (· <= ·)->k.Pairwise (· <= ·)->l=k
 | [],k,h,_,_=>h.nil_eq
 |x::r,[],h,_,_=>absurd h.length_eq (by simp)
 |x::r,y::t,h,hl,hk=>by
  rw[dN] at hl hk;have e:x=y:=by
   have h1:x∈y::t:=h.mem_iff.mp (aQ ..);have h2:y∈x::r:=h.mem_iff.mpr (aQ ..);rcases bF.mp h1 with h1 |h1
   ·exact h1
   ·rcases bF.mp h2 with h2 |h2
    ·exact h2.symm
    ·have a:=hk.1 x h1;have b:=hl.1 y h2;omega
  subst e;rw[ajs ((wH x).mp h) hl.2 hk.2]
def apz{l k:List Int}(h:l.Perm k)(hs:l.Pairwise (· <= ·)):l=sortI k:=ajs (h.trans (sortI_perm k).symm) hs (ab4 k)
theorem ab3:∀{ns:List Int} {us:List aD},lW us ns->Vals (ns.map V.int) us
 |_,_,.nil=>.nil
 |_,_,.cons n t h=>.cons ⟨t,rfl⟩ (ab3 h)
def alp:D->Option Rv
 |.lst l=>(qp l).bind λns=>if ns.length<64 then ZY (.fr ((sortI ns).map D.int)) else ZX
 |_=>ZX
theorem awh:CallD K X (.builtin "sorted") (g1 alp):=cd_one λhk qv s σ0 H x u Q tg F ρ σ d r I ru G bd eg q=>by
 subst hk;cases d with
 |lst l=>
  have eg:(qp l).bind (λns=>if ns.length<64 then ZY (Rv.fr ((sortI ns).map D.int)) else ZX)=ZY r:=eg
  cases e:qp l with
  |none=>rw[e] at eg;cases eg
  |some ns=>
   rw[e] at eg;have eg:(if ns.length<64 then ZY (Rv.fr ((sortI ns).map D.int)) else ZX)=ZY r:=eg
   split at eg
   ·rename_i h64;cases eg;obtain⟨a,vs,rfl,ea,hl⟩:=bd.lst G.sub;rw[abp e] at hl;rw[hl.int_inv] at ea;cases ru;obtain⟨its,rv,pl,_⟩:=I.list (SqL.of ea);have hlen:=rv.length;rw[aC] at hlen;refine PyProof.Rows.sorted_ints pl.isList (intsAre_of rv) (by omega) λout ns' i1 hp hs=>?_
    have e':=apz hp hs;subst e';obtain⟨ep,eo⟩:=rQ s.heap its out;have hn:H (s.heap.objs.size+1)=ZX:=I.hok.fresh (gC _);refine⟨.ref (s.heap.objs.size+1),upd H (s.heap.objs.size+1) (.lst ((sortI ns).map V.int)),?_,rfl,Res.lst G q (ae5 _) hn⟩;refine I.laid (t':=s.toks) (λb u e=>rH e) (gC _) ?_
    refine⟨?_,out.toList,ep,ab3 i1,by simpa using eo⟩
    rw[aC,(sortI_perm ns).length_eq];exact kO (ahf (by omega))
   ·cases eg
 |_=>cases eg
end
section
variable{K:Fg9}{X:Cx}{e a b c:cZ}{es:List cZ}{pos p p2:Pos}
def afl(lt:Int->Int->Bool):List Int->Int
 | []=>0
 |x::r=>r.foldl (λm y=>if lt y m=ZW then y else m) x
theorem awr(lt:Int->Int->Bool)(ns:List Int):∀k,k<ns.length->oX (λi j=>lt (ns.getD i 0) (ns.getD j 0)) k<=k/\ns.getD (oX (λi j=>lt (ns.getD i 0) (ns.getD j 0)) k) 0=afl lt (ns.take (k+1))
 | 0,h=>by
  cases ns with
  |nil=>simp at h
  |cons x r=>exact⟨Nat.le_refl _,rfl⟩
 |k+1,h=>by
  obtain⟨h1,h2⟩:=awr lt ns k (by omega)
  have ht:ns.take (k+1+1)=ns.take (k+1)++[ns.getD (k+1) 0]:=by
   rw[List.take_add_one,aF h];simp[tL,aF h]
  have hb:afl lt (ns.take (k+1+1))=if lt (ns.getD (k+1) 0) (afl lt (ns.take (k+1)))=ZW then ns.getD (k+1) 0 else afl lt (ns.take (k+1)):=by
   rw[ht];cases ns with
   |nil=>simp at h
   |cons x r=>simp[afl,List.foldl_append]
  have ha:oX (λi j=>lt (ns.getD i 0) (ns.getD j 0)) (k+1)=if lt (ns.getD (k+1) 0) (ns.getD (oX (λi j=>lt (ns.getD i 0) (ns.getD j 0)) k) 0)=ZW then k+1 else oX (λi j=>lt (ns.getD i 0) (ns.getD j 0)) k:=rfl
  rw[hb,<-h2,ha]
  by_cases hc:lt (ns.getD (k+1) 0) (ns.getD (oX (λi j=>lt (ns.getD i 0) (ns.getD j 0)) k) 0)=ZW
  ·rw[if_pos hc,if_pos hc];exact⟨Nat.le_refl _,rfl⟩
  ·rw[if_neg hc,if_neg hc];exact⟨by omega,rfl⟩
def aze(lt:Int->Int->Bool)(ns:List Int)(h:ns≠[]):oX (λi j=>lt (ns.getD i 0) (ns.getD j 0)) (ns.length-1)<ns.length/\ns.getD (oX (λi j=>lt (ns.getD i 0) (ns.getD j 0)) (ns.length-1)) 0=afl lt ns:=by
 have hl:0<ns.length:=lU.mpr h;obtain⟨h1,h2⟩:=awr lt ns (ns.length-1) (by omega)
 refine⟨by omega,?_⟩
 rw[h2,show ns.length-1+1=ns.length by omega,qM]
def a8b(lt:Int->Int->Bool):D->Option Rv
 |.lst l=>(qp l).bind λns=>if ns=[] then ZX else ZY (.v (.int (afl lt ns)))
 |.tup l=>(qp l).bind λns=>if ns=[] then ZX else ZY (.v (.int (afl lt ns)))
 |_=>ZX
theorem apf{lt:Int->Int->Bool}{d:D}{r:Rv}(h:a8b lt d=ZY r):∃ns:List Int,ns≠[]/\r=.v (.int (afl lt ns))/\(d=.lst (ns.map D.int)∨d=.tup (ns.map D.int)):=by
 have go:∀l,(qp l).bind (λns=>if ns=[] then ZX else ZY (Rv.v (.int (afl lt ns))))=ZY r->∃ns:List Int,ns≠[]/\r=.v (.int (afl lt ns))/\l=ns.map D.int:=λl h=>by
  cases e:qp l with
  |none=>rw[e] at h;cases h
  |some ns=>
   rw[e] at h;have h:(if ns=[] then ZX else ZY (Rv.v (.int (afl lt ns))))=ZY r:=h
   split at h
   ·cases h
   ·rename_i hn;cases h;exact⟨ns,hn,rfl,abp e⟩
 cases d with
 |lst l=>obtain⟨ns,h1,h2,rfl⟩:=go l h;exact⟨ns,h1,h2,.inl rfl⟩
 |tup l=>obtain⟨ns,h1,h2,rfl⟩:=go l h;exact⟨ns,h1,h2,.inr rfl⟩
 |_=>cases h
def aib{ns:List Int}{its:List aD}(rv:Vals (ns.map V.int) its)(i:Nat)(v:aD)(h:its.toArray[i]? = ZY v):∃t,v=.int (ns.getD i 0) t:=by
 have h:its[i]? = ZY v:=by simpa using h
 have hi:i<its.length:=(aH.mp h).1;have hl:=rv.length;rw[aC] at hl;have hi':i<ns.length:=by omega
 obtain⟨u,hu,t,rfl⟩:=rv.get (i:=i) (x:=V.int ns[i]) (by rw[aL,aF hi'];rfl)
 rw[h] at hu;cases hu;exact⟨t,by simp[tL,aF hi']⟩
def ajj:D->Option Rv:=a8b λi j=>decide (i<j)
def al1(hc:X.calm=ZW):CallD K X (.builtin "min") (g1 ajj):=cd_one λhk qv s σ0 H x u Q tg F ρ σ d r I ru G bd eg q=>by
 subst hk;obtain⟨ns,hn,rfl,hd⟩:=apf eg;have q':=Res.same G q (.int _);obtain⟨hb1,hb2⟩:=aze (λi j=>decide (i<j)) ns hn
 have fin:∀{its:List aD} (rv:Vals (ns.map V.int) its) {v:aD} {h':eF} {tk:Nat},its.toArray[oX (λi j=>decide (ns.getD i 0<ns.getD j 0)) (its.toArray.size-1)]? = ZY v->(∀b o,s.heap.get? b=ZY o->h'.get? b=ZY o)->EP X qv σ0 Q v { s with heap:=h',toks:=tk }:=λ{its} rv {v h' tk} hv hk=>by
  have hl:=rv.length;rw[aC] at hl;rw[aP,<-hl] at hv;obtain⟨t,rfl⟩:=aib rv _ v hv;exact⟨.int (afl (λi j=>decide (i<j)) ns),H,I.kept hk,⟨t,by rw[hb2]⟩,q'⟩
 rcases hd with rfl |rfl
 ·obtain⟨a,vs,rfl,ea,hl⟩:=bd.lst G.sub;rw[hl.int_inv] at ea;cases ru;obtain⟨its,rv,pl,_⟩:=I.list (SqL.of ea);have hl':=pl.isList;have hlt:a<s.heap.objs.size:=by obtain⟨_,e,_⟩:=hl';exact aN e
  have hlen:=rv.length;rw[aC] at hlen;refine call_min_walk (wpAny_pyIter_list hl' ⟨s.heap.objs.size,[s.heap.objs.size,a],[s.heap.objs.size],its.toArray.size,_,_,_,rfl,Walks.list (A:=X.A.in1) (I.ok.hd hc) _ a (bH hlt) its.toArray,
   ⟨⟨_,aW _ rfl,rfl,rfl⟩,hl'.push _⟩,λb hb=>?_,?_,wV (λi=>ns.getD i 0) (λi v=>aib rv i v),λv h' tk hP hk=>fin rv hP (sY hk)⟩)
  ·have hs:∀o:Obj,(s.heap.push o).objs.size=s.heap.objs.size+1:=λo=>cQ ..
   show b<(s.heap.push _).objs.size;rw[hs];rcases bF.mp hb with hb |hb
   ·exact hb▸Nat.lt_succ_self _
   ·have hb:b=a:=by simpa using hb
    exact hb▸Nat.lt_succ_of_lt hlt
  ·rw[aP,<-hlen];exact lU.mpr hn
 ·obtain⟨a,vs,rfl,ea,hl⟩:=bd.tup;rw[hl.int_inv] at ea;cases ru;obtain⟨its,rv,pl,_⟩:=I.tuple (SqT.of (G.sub _ _ ea));have hlt:a<s.heap.objs.size:=by obtain⟨_,e,_⟩:=pl;exact aN e
  have hlen:=rv.length;rw[aC] at hlen;refine call_min_walk (wpAny_pyIter_tuple pl ⟨s.heap.objs.size,[s.heap.objs.size,a],[s.heap.objs.size],its.toArray.size,_,_,_,rfl,Walks.tuple (A:=X.A.in1) (I.ok.hd hc) _ a (bH hlt) its.toArray,
   ⟨⟨_,aW _ rfl,rfl,rfl⟩,pl.push _⟩,λb hb=>?_,?_,wV (λi=>ns.getD i 0) (λi v=>aib rv i v),λv h' tk hP hk=>fin rv hP (sY hk)⟩)
  ·have hs:∀o:Obj,(s.heap.push o).objs.size=s.heap.objs.size+1:=λo=>cQ ..
   show b<(s.heap.push _).objs.size;rw[hs];rcases bF.mp hb with hb |hb
   ·exact hb▸Nat.lt_succ_self _
   ·have hb:b=a:=by simpa using hb
    exact hb▸Nat.lt_succ_of_lt hlt
  ·rw[aP,<-hlen];exact lU.mpr hn
end
section
variable{K:Fg9}{X:Cx}{e a b c:cZ}{es:List cZ}{pos p p2:Pos}
def rmOf(K:Fg9)(g:D->List D->Option D):V->List V->Hp->VK->Prop:=λx vs H Q=>∃F d ds r,Same F H/\Bor K F H d x/\IsL K F ds vs/\g d ds=ZY r/\∀v,Is K F r v->Q v H
def ayf(i:Nat)(g:D->List D->Option D)(ms:M (List D)):M D:=(dz i).bind λd0=>(lift (match d0 with
 |.lst _=>ZY ()
 |_=>ZX)).bind λ_=>ms.bind λds=>(dz i).bind λd=>lift (g d ds)
def avx{i:Nat}{name:Str}{id:String}{g:D->List D->Option D}{ms:M (List D)}{apos cpos:Pos}(slot:Slot "list" name id)(hty:typeOf (.builtin id)=pure (.type "method_descriptor"))(hm:X.K=K->MtR X id (rmOf K g))(ho:PE X a (tVar i))(ha:ED K X (e::es) ms)
  (hbase:iB a name X.env (eval a X.env)=eval a X.env:=by rfl)
  (hfew:((fV cpos (aO (e::es) X.env)).all (λx => !x.1)&&(backToKw cpos (keywordEach [] X.env)).all (λx=>x.1.isSome)
   && decide ((e::es).length+([]:List oZ).length+(if ([]:List oZ).isEmpty then 0 else 1)<30))=ZW:=by rfl)
  (hline:(apos.endLine==cpos.line)=ZW:=by rfl) (hs:Zc X e es:=by rfl) (hplain:(fV cpos (aO es X.env)).any (·.1)=ZV:=by rfl) :
  EV K X (.Call (.Attribute a name apos) (e::es) [] cpos) (ayf i g ms):=EV.mk λhk=>PE.imp (axx mY slot hty (hm hk) ho (ha hk) hbase hfew hline hs hplain) λσ H Q z9=>by
 obtain⟨tg,F,ρ,d,ρ',G,em,q⟩:=z9;obtain⟨d0,ρ0,e0,em1⟩:=bw em;obtain⟨u0,ρ9,e9,em2⟩:=bw em1;obtain⟨ds,ρ1,e1,em3⟩:=bw em2;obtain⟨d1,ρ2,e2,em4⟩:=bw em3;obtain⟨e3,rfl⟩:=jb em4;obtain⟨e9,rfl⟩:=jb e9;obtain⟨rfl,v,hv,bv⟩:=tu G e0;have ty:∃b,v=.ref b/\∃xs,SqL X.K H b xs:=by
  cases d0 with
  |lst l=>
   obtain⟨b,xs,rfl,hb,_⟩:=bv.lst G.sub;exact⟨b,rfl,xs,SqL.of hb⟩
  |_=>cases e9
 obtain⟨b,rfl,hty'⟩:=ty;refine⟨_,hv,.inl ⟨rfl,hty'⟩,tg,F,_,ds,ρ1,G,e1,λvs H1 F1 G1 x1 r1=>?_⟩
 obtain⟨rfl,v',hv',b'⟩:=tu G1 e2;rw[hv] at hv';cases hv';exact⟨F1,d1,ds,d,G1.sub,b',r1,e3,λw iw=>q w H1 F1 G1 x1 iw⟩
def avs(d:D)(ds:List D):Option D:=match d,ds with
 |.lst l,[x]=>if okD 30 x&&l.all (okD 30) then ZY (.int (l.countP λy=>eqD y x)) else ZX
 |_,_=>ZX
theorem ac0{qv:List (aU×Obj)}{σ:L2.St}{F H:Hp}{s:aG}(I:Inv X qv σ H s)(g:Same F H){a:D}{n:Nat}:∀{ds:List D} {vs:List V} {us:List aD},IsL X.K F ds vs->ds.all (okD n)=ZW->Vals vs us ->
  us.countP (aaw s.heap (toPy a))=ds.countP (λy=>eqD y a)
 |_,_,_,.nil,_,r=>by cases r;rfl
 |_,_,_,.cons h t,k,r=>by
  rw[jR,bD] at k;cases r with
  |cons r1 r2=>
   obtain⟨as,ra⟩:=aan I g h k.1 r1;obtain⟨c,p⟩:=acg _ _ k.1;rw[qN,qN,ac0 I g t k.2 r2,ag2 ra c];rfl
theorem ax8(hu:X.A.units+64<cLine):X.K=K->MtR X "list.count" (rmOf K avs):=λhk=>by
 subst hk;intro qv s σ H x vs v us Q I rx rv z9;obtain⟨F,d,ds,r,g,bd,il,eg,q⟩:=z9
 match d,ds,eg with
 |.lst l,[y],eg=>
  have eg:(if okD 30 y&&l.all (okD 30) then ZY (D.int (l.countP λz=>eqD z y)) else ZX)=ZY r:=eg
  split at eg
  ·rename_i ho;rw[bD] at ho;cases eg;cases il with
   |cons hy t=>
    cases t;obtain⟨u,rfl,ru⟩:=rv.one;obtain⟨p,ws,rfl,ea,hl⟩:=bd.lst g;cases rx;obtain⟨its,rw',pl,_⟩:=I.list (SqL.of ea);obtain⟨as,ra⟩:=aan I g hy ho.1 ru;obtain⟨_,z⟩:=yq I g (a:=y) hl ho.2 rw';obtain⟨⟨cls,dd,data,sl⟩,h1,hc,n,hd⟩:=pl.isList;simp only at hc hd;subst hc hd;refine jH sO ⟨_,h1,rfl⟩ PySem.F.entry_list_count (PySem.F.args_list_count_2 _ _) (SeqAt.list_countAt p its.toArray n dd sl u (aaw s.heap (toPy y))) ⟨h1,λw hw=>?_,?_⟩
    ·exact xn (A:=X.A) hu ra ho.1 z w (by simpa using hw)
    ·refine⟨.int (l.countP λz=>eqD z y),H,I.tok _,⟨s.toks,?_⟩,q _ (.int _)⟩
     rw[ac0 I g (a:=y) hl ho.2 rw']
  ·cases eg
def avr(d:D)(ds:List D):Option D:=match d,ds with
 |.tup l,[x]=>if okD 30 x&&l.all (okD 30) then ZY (.int (l.countP λy=>eqD y x)) else ZX
 |_,_=>ZX
theorem aur(hu:X.A.units+64<cLine):X.K=K->MtR X "tuple.count" (rmOf K avr):=λhk=>by
 subst hk;intro qv s σ H x vs v us Q I rx rv z9;obtain⟨F,d,ds,r,g,bd,il,eg,q⟩:=z9
 match d,ds,eg with
 |.tup l,[y],eg=>
  have eg:(if okD 30 y&&l.all (okD 30) then ZY (D.int (l.countP λz=>eqD z y)) else ZX)=ZY r:=eg
  split at eg
  ·rename_i ho;rw[bD] at ho;cases eg;cases il with
   |cons hy t=>
    cases t;obtain⟨u,rfl,ru⟩:=rv.one;obtain⟨p,ws,rfl,ea,hl⟩:=bd.tup;cases rx;obtain⟨its,rw',pl,_⟩:=I.tuple (SqT.of (g _ _ ea));obtain⟨as,ra⟩:=aan I g hy ho.1 ru;obtain⟨_,z⟩:=yq I g (a:=y) hl ho.2 rw';obtain⟨⟨cls,dd,data,sl⟩,h1,hc,n,hd⟩:=pl;simp only at hc hd;subst hc hd;refine jH sG ⟨_,h1,rfl⟩ PySem.F.entry_tuple_count (PySem.F.args_tuple_count_2 _ _) (SeqAt.tuple_countAt p its.toArray n dd sl u (aaw s.heap (toPy y))) ⟨h1,λw hw=>?_,?_⟩
    ·exact xn (A:=X.A) hu ra ho.1 z w (by simpa using hw)
    ·refine⟨.int (l.countP λz=>eqD z y),H,I.tok _,⟨s.toks,?_⟩,q _ (.int _)⟩
     rw[ac0 I g (a:=y) hl ho.2 rw']
  ·cases eg
def PE.or{t1 t2:TE}(h1:PE X e t1)(h2:PE X e t2):PE X e λσ H Q=>t1 σ H Q∨t2 σ H Q:=λqv s σ H Q I h=>h.elim (h1 qv s σ H Q I) (h2 qv s σ H Q I)
def als(d:D)(ds:List D):Option D:=match d with
 |.lst _=>avs d ds
 |.tup _=>avr d ds
 |_=>ZX
def aqi(i:Nat)(ms:M (List D)):M D:=(dz i).bind λd0=>ms.bind λds=>(dz i).bind λd=>(lift (match d0,d with
 |.lst _,.lst _=>ZY ()
 |.tup _,.tup _=>ZY ()
 |_,_=>ZX)).bind λ_=>lift (als d ds)
theorem ay9{d0 d:D}{u:Unit} (h:(match d0,d with
 |.lst _,.lst _=>ZY ()
 |.tup _,.tup _=>ZY ()
 |_,_=>ZX)=ZY u):(∃l l1,d0=.lst l/\d=.lst l1)∨∃l l1,d0=.tup l/\d=.tup l1:=by
 split at h
 ·exact .inl ⟨_,_,rfl,rfl⟩
 ·exact .inr ⟨_,_,rfl,rfl⟩
 ·cases h
def aq1{i:Nat}{ms:M (List D)}{apos cpos:Pos}(hu:X.A.units+64<cLine)(ho:PE X a (tVar i))(ha:ED K X (e::es) ms)
  (hbase:iB a "count" X.env (eval a X.env)=eval a X.env:=by rfl)
  (hfew:((fV cpos (aO (e::es) X.env)).all (λx => !x.1)&&(backToKw cpos (keywordEach [] X.env)).all (λx=>x.1.isSome)
   && decide ((e::es).length+([]:List oZ).length+(if ([]:List oZ).isEmpty then 0 else 1)<30))=ZW:=by rfl)
  (hline:(apos.endLine==cpos.line)=ZW:=by rfl) (hs:Zc X e es:=by rfl) (hplain:(fV cpos (aO es X.env)).any (·.1)=ZV:=by rfl) :
  EV K X (.Call (.Attribute a "count" apos) (e::es) [] cpos) (aqi i ms):=EV.mk λhk=>PE.imp (PE.or (axx mY sO PySem.F.type_list_count (ax8 hu hk) ho (ha hk) hbase hfew hline hs hplain) (axx PySem.F.plainAttrs_tuple sG PySem.F.type_tuple_count (aur hu hk) ho (ha hk) hbase hfew hline hs hplain)) λσ H Q z9=>by
 obtain⟨tg,F,ρ,d,ρ',G,em,q⟩:=z9;obtain⟨d0,ρ0,e0,em1⟩:=bw em;obtain⟨ds,ρ1,e1,em3⟩:=bw em1;obtain⟨d1,ρ2,e2,em4⟩:=bw em3;obtain⟨u0,ρ9,e9,em5⟩:=bw em4;obtain⟨e3,rfl⟩:=jb em5;obtain⟨g9,rfl⟩:=jb e9;obtain⟨rfl,v,hv,bv⟩:=tu G e0;rcases ay9 g9 with⟨l,l1,rfl,rfl⟩ |⟨l,l1,rfl,rfl⟩
 ·obtain⟨b,xs,rfl,hb,_⟩:=bv.lst G.sub;refine .inl ⟨_,hv,.inl ⟨rfl,xs,SqL.of hb⟩,tg,F,_,ds,ρ1,G,e1,λvs H1 F1 G1 x1 r1=>?_⟩
  obtain⟨rfl,v',hv',b'⟩:=tu G1 e2;rw[hv] at hv';cases hv';exact⟨F1,.lst l1,ds,d,G1.sub,b',r1,e3,λw iw=>q w H1 F1 G1 x1 iw⟩
 ·obtain⟨b,xs,rfl,hb,_⟩:=bv.tup;refine .inr ⟨_,hv,.inr (.inl ⟨rfl,.inr ⟨xs,G.sub _ _ hb⟩⟩),tg,F,_,ds,ρ1,G,e1,λvs H1 F1 G1 x1 r1=>?_⟩
  obtain⟨rfl,v',hv',b'⟩:=tu G1 e2;rw[hv] at hv';cases hv';exact⟨F1,.tup l1,ds,d,G1.sub,b',r1,e3,λw iw=>q w H1 F1 G1 x1 iw⟩
def akc(d:D)(ds:List D):Option D:=match d,ds with
 |.lst l,[x]=>if okD 30 x&&l.all (okD 30) then (l.findIdx? λy=>eqD y x).map λi=>.int i else ZX
 |_,_=>ZX
def aq9{qv:List (aU×Obj)}{σ:L2.St}{F H:Hp}{s:aG}(I:Inv X qv σ H s)(g:Same F H){a:D}{n:Nat}{ds:List D}{vs:List V}{us:List aD}(il:IsL X.K F ds vs)(k:ds.all (okD n)=ZW)(rv:Vals vs us)(i:Nat)(hi:i<us.length)(hd:i<ds.length) :
  aaw s.heap (toPy a) us[i]=eqD ds[i] a:=by
 obtain⟨v,hv,iv⟩:=il.get (i:=i) (aF hd);obtain⟨u,hu,ru⟩:=rv.get hv;rw[aF hi] at hu;cases hu;have ko:okD n ds[i]=ZW:=bK.mp k _ (dZ hd);obtain⟨as,ra⟩:=aan I g iv ko ru;rw[ag2 ra (acg _ _ ko).1];rfl
theorem aqf(hu:X.A.units+64<cLine):X.K=K->MtR X "list.index" (rmOf K akc):=λhk=>by
 subst hk;intro qv s σ H x vs v us Q I rx rv z9;obtain⟨F,d,ds,r,g,bd,il,eg,q⟩:=z9
 match d,ds,eg with
 |.lst l,[y],eg=>
  have eg:(if okD 30 y&&l.all (okD 30) then (l.findIdx? λz=>eqD z y).map (λi=>D.int i) else ZX)=ZY r:=eg
  split at eg
  ·rename_i ho;rw[bD] at ho;cases ei:l.findIdx? (λz=>eqD z y) with
   |none=>rw[ei] at eg;cases eg
   |some j=>
    rw[ei] at eg;cases eg;obtain⟨hj,hhit,hno⟩:=jQ.mp ei;cases il with
    |cons hy t=>
     cases t;obtain⟨u,rfl,ru⟩:=rv.one;obtain⟨p,ws,rfl,ea,hl⟩:=bd.lst g;cases rx;obtain⟨its,rw',pl,hz⟩:=I.list (SqL.of ea);have l1:=hl.length;have l2:=rw'.length;rw[eN] at hz;obtain⟨as,ra⟩:=aan I g hy ho.1 ru;obtain⟨_,z⟩:=yq I g (a:=y) hl ho.2 rw';obtain⟨⟨cls,dd,data,sl⟩,h1,hc,n,hd⟩:=pl.isList;simp only at hc hd;subst hc hd;have hj':j<its.toArray.size:=by rw[aP];omega
     refine jH mX ⟨_,h1,rfl⟩ PySem.F.entry_list_index (PySem.F.args_list_index_2 _ _) (SeqAt.list_indexAt p its.toArray n dd sl u (aaw s.heap (toPy y)) j hj' (by omega) ?_ λm hm hlt=>?_) ⟨h1,λw hw=>?_,?_⟩
     ·have:=aq9 I g (a:=y) hl ho.2 rw' j (by omega) hj
      simpa[this] using hhit
     ·rw[aP] at hm;have:=aq9 I g (a:=y) hl ho.2 rw' m hm (by omega)
      have hn:=hno m hlt
      simpa[this] using hn
     ·exact xn (A:=X.A) hu ra ho.1 z w (by simpa using hw)
     ·exact⟨.int j,H,I.tok _,⟨_,rfl⟩,q _ (.int _)⟩
  ·cases eg
section
variable(ρ:Ro)
@[simp] theorem a9n(i:Nat)(g:D->List D->Option D)(ms:M (List D)):ayf i g ms ρ=((dz i).bind λd0=>(lift (match d0 with
 |.lst _=>ZY ()
 |_=>ZX)).bind λ_=>ms.bind λds=>(dz i).bind λd=>lift (g d ds)) ρ:=rfl
@[simp] theorem a4r(l:List D)(x:D):avs (.lst l) [x]=if okD 30 x&&l.all (okD 30) then ZY (.int (l.countP λy=>eqD y x)) else ZX:=rfl
@[simp] theorem a4q(l:List D)(x:D):akc (.lst l) [x]=if okD 30 x&&l.all (okD 30) then (l.findIdx? λy=>eqD y x).map (λi=>D.int i) else ZX:=rfl
end
end
end Dn
namespace En
open PySem PySem.Builtin
def It1(k:Bool)(h:eF)(it l:aU)(i:Nat):Prop:=cond k (h.IsTupleIter it l i) (h.IsListIter it l i)
def Sq1(k:Bool)(h:eF)(l:aU)(xs:Array aD):Prop:=cond k (h.IsTuple l xs) (h.IsList l xs)
section
variable{prog:cA}{w:dU}{A:cT}{E:aD->aG->Prop}{s:aG}
def a2m{it t:aU}{i:Nat}{xs:Array aD}{x:aD}{Q:aD->aG->Prop}(h1:s.heap.IsTupleIter it t i)(h2:s.heap.IsTuple t xs)(hx:xs[i]? = ZY x)
  (q:∀h',h'.IsTupleIter it t (i+1)->fX it s.heap h'->Q x { s with heap:=h' }):bU (bZ prog w) A (SmallTypes.nextOf (.ref it)) Q E s:=by
 obtain⟨o1,e1,c1,d1⟩:=id h1;obtain⟨o2,e2,_,k2,d2⟩:=h2;have nn:¬((cH t==cO)=ZW):=cY;unfold SmallTypes.nextOf;refine aA (wpAny_callSpecial?_slot (name:=nQ "__next__") h1.typeIs iW (wpAny_call_entry iW h1.typeIs rG ?_ (qR _)));refine aA (m:=field (.ref it) 0) (dB e1 d1 (x:=.ref t) rfl ?_);show bU _ _ (if (cH t==cO)=ZW then _ else (field (.ref it) 1 >>= _)) _ _ s;rw[if_neg nn]
 refine aA (m:=field (.ref it) 1) (dB e1 d1 (x:=.int i 0) rfl ?_);refine aA (m:=seqItems? (.ref t)) (wpAny_seqItems e2 d2 ?_);simp only[cM,hx];refine aA (wpAny_setField e1 d1 (by simp) (aR ⟨x,rfl,aR (q _ ?_ (lX ..))⟩))
 refine⟨_,eU _ e1 (iK (dJ d1 _)),(pU ..).trans c1,?_⟩;rw[dJ d1];simp[lM]
def a3u{it t:aU}{i:Nat}{xs:Array aD}{Q:aD->aG->Prop}(hh:A.handled=ZX)(h1:s.heap.IsTupleIter it t i)(h2:s.heap.IsTuple t xs)(hx:xs[i]? = ZX)
  (q:∀h' e,Heap.ExtBut it s.heap h'->(∃o,h'.get? e=ZY o/\o.cls=.type "StopIteration")->E (.ref e) { s with heap:=h' }):bU (bZ prog w) A (SmallTypes.nextOf (.ref it)) Q E s:=by
 obtain⟨o1,e1,c1,d1⟩:=id h1;obtain⟨o2,e2,_,k2,d2⟩:=h2;have nn:¬((cH t==cO)=ZW):=cY;unfold SmallTypes.nextOf;refine aA (wpAny_callSpecial?_slot (name:=nQ "__next__") h1.typeIs iW (wpAny_call_entry iW h1.typeIs rG ?_ (qR _)));refine aA (m:=field (.ref it) 0) (dB e1 d1 (x:=.ref t) rfl ?_);show bU _ _ (if (cH t==cO)=ZW then _ else (field (.ref it) 1 >>= _)) _ _ s;rw[if_neg nn]
 refine aA (m:=field (.ref it) 1) (dB e1 d1 (x:=.int i 0) rfl ?_);refine aA (m:=seqItems? (.ref t)) (wpAny_seqItems e2 d2 ?_);simp only[cM,hx];refine aA (wpAny_rule (aA (wpAny_setField e1 d1 (by simp) ?_)))
 refine aA (m:=newExc (.type "StopIteration") []) ?_;simp only[newExc,newTuple];refine aA (dH ?_ (by size_fits))
 refine aA (m:=firstArgMember _ _) (wpAny_of_eq (a:=cO) (by first |rfl | (simp only[firstArgMember];rfl)) (dH ?_ (by size_fits)))
 simp only[raiseNew];refine aA (wpAny_handled ?_);first |rw[show A.in1.handled=ZX from hh] |rw[hh]
 refine aA (aR (wpAny_throw (q _ _ ?_ ⟨_,aW _ rfl,rfl⟩)));exact((lX ..).extBut.push _).push _
theorem src(hh:A.handled=ZX)(k:Bool)(it l:aU)(ne:l≠it)(xs:Array aD):Draws prog w A it [it,l] xs.size (λi v=>xs[i]? = ZY v) (λi h=>It1 k h it l i/\Sq1 k h l xs):=by
 cases k with
 |false=>exact Draws.list hh it l ne xs
 |true=>exact{
   live:=λ_ _ z=>let ⟨o,e,_⟩:=z.1;⟨o,e⟩
   frame:=λ_ _ _ z kk=>⟨(let ⟨o,e,r⟩:=z.1;⟨o,kk it (by simp) o e,r⟩),(let ⟨o,e,r⟩:=z.2;⟨o,kk l (by simp) o e,r⟩)⟩
   item:=λi s Q E hi z q=>a2m z.1 z.2 (x:=xs[i]) (by simp[hi]) λh' z' sb=>q _ h' s.toks (by simp[hi]) ⟨z',Heap.IsTuple.extBut z.2 sb.extBut ne⟩ sb
   done:=λs Q E z q=>a3u hh z.1 z.2 (by simp) q }
def It1.at{k:Bool}{h h':eF}{it l:aU}{i:Nat}(x:It1 k h it l i)(e:∀o,h.get? it=ZY o->h'.get? it=ZY o):It1 k h' it l i:=by
 cases k <;> exact(let ⟨o,z,r⟩:=x;⟨o,e _ z,r⟩)
def It1.got{k:Bool}{h:eF}{it l:aU}{i:Nat}(x:It1 k h it l i):∃o,h.get? it=ZY o/\∀v,o.data≠.cell v:=by
 cases k <;> exact(let ⟨o,z,_,r⟩:=x;⟨o,z,λv e=>by rw[r] at e;cases e⟩)
def Sq1.at{k:Bool}{h h':eF}{l:aU}{xs:Array aD}(x:Sq1 k h l xs)(e:∀o,h.get? l=ZY o->h'.get? l=ZY o):Sq1 k h' l xs:=by
 cases k <;> exact(let ⟨o,z,r⟩:=x;⟨o,e _ z,r⟩)
def Sq1.got{k:Bool}{h:eF}{l:aU}{xs:Array aD}(x:Sq1 k h l xs):∃o,h.get? l=ZY o:=by
 cases k <;> exact(let ⟨o,z,_⟩:=x;⟨o,z⟩)
theorem ayp{k:Bool}{l:aU}{xs:Array aD}{Q:aD->aG->Prop}(h:Sq1 k s.heap l xs)
  (q:Q (.ref s.heap.objs.size) { s with heap:=s.heap.push { cls:=.type (cond k "tuple_iterator" "list_iterator"),data:=.fields #[.ref l,.int 0 0] } }):bU (bZ prog w) A (pyIter (.ref l)) Q E s:=by
 cases k with
 |false=>exact wpAny_pyIter_list h q
 |true=>exact wpAny_pyIter_tuple h q
def ao8{k:Bool}{h:eF}{l a:aU}(e:h.get? a=ZY { cls:=.type (cond k "tuple_iterator" "list_iterator"),data:=.fields #[.ref l,.int 0 0] }):It1 k h a l 0:=by
 cases k <;> exact⟨_,e,rfl,rfl⟩
end
set_option maxRecDepth 100000
abbrev eh1(k:Bool)(h:eF)(l:aU):eF:=h.push { cls:=.type (cond k "tuple_iterator" "list_iterator"),data:=.fields #[.ref l,.int 0 0] }
abbrev eh2(k:Bool)(h:eF)(l:aU):eF:=(eh1 k h l).push { cls:=.type "enumerate", data:=.fields #[.none,.bool ZV,.ref h.objs.size,lM 0,.none,.none] }
def a2t(k:Bool)(l:aU)(o:Obj)(xs:Array aD) :
  Meets (lC.«enumerate.__new__» ⟨[.type "enumerate", .ref l],[]⟩) (λ_ R s=>s.heap.get? l=ZY o/\Sq1 k s.heap l xs/\R (.ok (.ret (.ref (eh1 k s.heap l).objs.size))) { s with heap:=eh2 k s.heap l }) :=
 .of_wp λprog w A R s h=>by
  obtain⟨hp,g,d,tk,os⟩:=s;obtain⟨ho,r1,h⟩:=h;have sb:=sub_enumerate;have r1:Sq1 k (tX ⟨hp,g,d,tk,os⟩) l xs:=r1;wp_walk using mQ ho;refine wpAny_stack_any λst=>aR ?_
  split
  ·rename_i c _ _ _ _ _;cases(c==mJ "enumerate") <;> (wp_walk using mQ ho,ayp r1;exact⟨_,rfl,h⟩)
  ·wp_walk using mQ ho,ayp r1;exact⟨_,rfl,h⟩
def awn{prog:cA}{w:dU}{A:cT}{E:aD->aG->Prop}{s:aG}{k:Bool}{l:aU}{xs:Array aD}{Q:aD->aG->Prop}(s1:Sq1 k s.heap l xs)
  (q:∀h',IsEnum h' (s.heap.objs.size+1) s.heap.objs.size 0 .none->It1 k h' s.heap.objs.size l 0->h'.objs.size=s.heap.objs.size+2->(∀b o,s.heap.get? b=ZY o->h'.get? b=ZY o)->Q (.ref (s.heap.objs.size+1)) { s with heap:=h' }) :
  bU (bZ prog w) A (call (.type "enumerate") [.ref l]) Q E s:=by
 obtain⟨o,ho⟩:=s1.got;refine callType_new F.called_enumerate (by decide) (F.typeCall_enumerate_1 _) (F.newCall_enumerate_1 _) (λobj=>F.args_object_init_2 obj _) F.entry_enumerate_new (a2t k l o xs) ⟨ho,s1,?_⟩
 have z1:(eh1 k s.heap l).objs.size=s.heap.objs.size+1:=cQ ..
 have g2:(eh2 k s.heap l).get? (eh1 k s.heap l).objs.size=ZY _:=aW _ rfl;have g1:(eh2 k s.heap l).get? s.heap.objs.size=ZY _:=aB _ (aW _ rfl);rw[z1] at g2;show _/\_;rw[z1];exact⟨⟨_,g2,rfl⟩,q _ g2 (ao8 g1) (by rw[cQ,z1]) λb o x=>aB _ (aB _ x)⟩
end En
namespace En
open PySem PySem.Builtin
set_option maxRecDepth 100000
def a02(v1 v2:aD):checkTypeCall "zip" ⟨[v1,v2],[]⟩=pure ():=by kernel_rfl
def a2q(v1 v2:aD):checkBuiltinCall "zip.__new__" ⟨[.type "zip", v1,v2],[]⟩=pure ():=by kernel_rfl
def a4m(o v1 v2:aD):argsOk "object.__init__" ⟨[o,v1,v2],[]⟩:=by
 unfold argsOk;rw[signature?_of (id := "object.__init__") (n:=['_','_','t','i','n','i','_','_']) (o:=['t','c','e','j','b','o']) (by kernel_rfl) F.owner_object];kernel_rfl
abbrev Row2(h:eF)(T:aU)(v1 v2:aD):Prop:=h.get? T=ZY { cls:=.type "tuple", data:=.seq #[v1,v2] }
structure Apart2 (z TI TO i1 i2 l1 l2:aU):Prop where
 nTIz:TI≠z
 nTOz:TO≠z
 nTOTI:TO≠TI
 ni1z:i1≠z
 ni1TI:i1≠TI
 ni1TO:i1≠TO
 ni2z:i2≠z
 ni2TI:i2≠TI
 ni2TO:i2≠TO
 ni2i1:i2≠i1
 nl1z:l1≠z
 nl1TO:l1≠TO
 nl1i1:l1≠i1
 nl1i2:l1≠i2
 nl2z:l2≠z
 nl2TO:l2≠TO
 nl2i1:l2≠i1
 nl2i2:l2≠i2
section
variable{prog:cA}{w:dU}{A:cT}{E:aD->aG->Prop}{s:aG}
def a5v{T:aU}{v1 v2 x:aD}{Q:Unit->aG->Prop}(h:Row2 s.heap T v1 v2)(q:∀h',Row2 h' T x v2->fX T s.heap h'->Q () { s with heap:=h' }):bU (bZ prog w) A (updateSeq T (·.setIfInBounds 0 x)) Q E s:=by
 refine wpAny_updateSeq h rfl (q _ (show Heap.get? _ T=_ from ?_) (lX ..))
 rw[eU _ h rfl];simp[fH]
def a5u{T:aU}{v1 v2 x:aD}{Q:Unit->aG->Prop}(h:Row2 s.heap T v1 v2)(q:∀h',Row2 h' T v1 x->fX T s.heap h'->Q () { s with heap:=h' }):bU (bZ prog w) A (updateSeq T (·.setIfInBounds 1 x)) Q E s:=by
 refine wpAny_updateSeq h rfl (q _ (show Heap.get? _ T=_ from ?_) (lX ..))
 rw[eU _ h rfl];simp[fH]
def asx{z TI TO i1 i2 l1 l2:aU}{k1 k2:Bool}{i:Nat}{x1 x2:Array aD}{v1 v2:aD}{Q:aD->aG->Prop}(hh:A.handled=ZX)(D:Apart2 z TI TO i1 i2 l1 l2)
  (hz:rB s.heap z TI TO .none) (hI:Row2 s.heap TI (.ref i1) (.ref i2)) (hO:Row2 s.heap TO v1 v2) (h1:It1 k1 s.heap i1 l1 i) (s1:Sq1 k1 s.heap l1 x1) (h2:It1 k2 s.heap i2 l2 i) (s2:Sq1 k2 s.heap l2 x2) (b1:i<x1.size) (b2:i<x2.size)
  (q:∀h' tk y1 y2,x1[i]? = ZY y1->x2[i]? = ZY y2->rB h' z TI TO (lM s.heap.objs.size)->Row2 h' TO y1 y2->It1 k1 h' i1 l1 (i+1)->It1 k2 h' i2 l2 (i+1)->Row2 h' s.heap.objs.size y1 y2->h'.objs.size=s.heap.objs.size+1 ->
   (∀c o,c≠z->c≠TO->c≠i1->c≠i2->s.heap.get? c=ZY o->h'.get? c=ZY o)->Q (.ref s.heap.objs.size) { s with heap:=h',toks:=tk }) :
  bU (bZ prog w) A (lC.«zip.__next__» ⟨[.ref z],[]⟩) (λfin s'=>∃v,fin=.done (.ret v)/\Q v s') E s:=by
 refine aA (m:=field (.ref z) 2) (dB hz rfl (x:=.bool ZV) rfl ?_);refine aA (m:=field (.ref z) 3) (dB hz rfl (x:=.ref TI) rfl ?_);refine aA (wpAny_seqItems hI rfl ?_);refine aA (m:=SmallTypes.ownedTupleIsFree (.ref z)) ?_;unfold SmallTypes.ownedTupleIsFree;refine aA (dB hz rfl (x:=.none) rfl (aR ?_));simp only[if_true];refine aA (wpAny_rule (aA (dB hz rfl (x:=.ref TO) rfl ?_)));refine aA (wpAny_setField_rec hz (by simp) λg0 z0 a0=>?_)
 have z0:rB g0 z TI TO .ellipsis:=z0;refine aA ?_;simp only[vJ,vU,oE,oV];refine aA (aA (wpAny_onRaise ?_));refine aA (m:=SmallTypes.nextOf (.ref i1)) ((src hh k1 i1 l1 D.nl1i1 x1).item i _ _ _ b1 ⟨(h1.at λ_ e=>(a0.extBut _ _ D.ni1z e)),(s1.at λ_ e=>(a0.extBut _ _ D.nl1z e))⟩ λy1 f1 t1 p1 q1 c1=>aR ?_)
 have c1:fX i1 g0 f1:=c1;have P1:Row2 f1 TO v1 v2:=(c1.extBut _ _ D.ni1TO.symm (a0.extBut _ _ D.nTOz hO));refine aA (wpAny_seqItems P1 rfl ?_);refine aA (a5v P1 λg1 O1 a1=>?_)
 have a1:fX TO f1 g1:=a1;refine aA (wpAny_letGo (aR ?_));refine aA (aA (wpAny_onRaise ?_));refine aA (m:=SmallTypes.nextOf (.ref i2)) ((src hh k2 i2 l2 D.nl2i2 x2).item i _ _ _ b2 ⟨(h2.at λ_ e=>(a1.extBut _ _ D.ni2TO (c1.extBut _ _ D.ni2i1 (a0.extBut _ _ D.ni2z e)))),(s2.at λ_ e=>(a1.extBut _ _ D.nl2TO (c1.extBut _ _ D.nl2i1 (a0.extBut _ _ D.nl2z e))))⟩ λy2 f2 t2 p2 q2 c2=>aR ?_)
 have c2:fX i2 g1 f2:=c2;have P2:Row2 f2 TO y1 v2:=(c2.extBut _ _ D.ni2TO.symm O1);refine aA (wpAny_seqItems P2 rfl ?_);refine aA (a5u P2 λg2 O2 a2=>?_)
 have a2:fX TO f2 g2:=a2;refine aA (wpAny_letGo (aR (aR ?_)));refine aA (wpAny_seqItems O2 rfl (aA (wpAny_newTuple ?_)));have sz:g2.objs.size=s.heap.objs.size:=by rw[a2.1,c2.1,a1.1,c1.1,a0.1]
 have zn:rB g2 z TI TO .ellipsis:=(a2.extBut _ _ D.nTOz.symm (c2.extBut _ _ D.ni2z.symm (a1.extBut _ _ D.nTOz.symm (c1.extBut _ _ D.ni1z.symm z0))));have kn:∀c o,c≠z->c≠TO->c≠i1->c≠i2->s.heap.get? c=ZY o->g2.get? c=ZY o:=λc o n0 n1 n2 n3 e=>(a2.extBut _ _ n1 (c2.extBut _ _ n3 (a1.extBut _ _ n1 (c1.extBut _ _ n2 (a0.extBut _ _ n0 e)))))
 have j1:It1 k1 g2 i1 l1 (i+1):=q1.1.at λ_ e=>(a2.extBut _ _ D.ni1TO (c2.extBut _ _ D.ni2i1.symm (a1.extBut _ _ D.ni1TO e)))
 have j2:It1 k2 g2 i2 l2 (i+1):=q2.1.at λ_ e=>(a2.extBut _ _ D.ni2TO e)
 have lz:z<g2.objs.size:=aN zn;refine aA (m:=SmallTypes.ownedTupleHandOut (.ref z) (.ref g2.objs.size)) ?_;unfold SmallTypes.ownedTupleHandOut;have zp:rB (g2.push { cls:=.type "tuple", data:=.seq #[y1,y2] }) z TI TO .ellipsis:=aB _ zn;refine aA (wpAny_setField_rec zp (by simp) λe1 z1 b1'=>?_)
 have z1:rB e1 z TI TO (lM g2.objs.size):=z1;refine wpAny_setField_rec z1 (by simp) λe2 z2 b2'=>?_
 have z2:rB e2 z TI TO (lM g2.objs.size):=z2;have up:∀c o,c≠z->g2.get? c=ZY o->e2.get? c=ZY o:=λc o n1 e=>b2'.extBut _ _ n1 (b1'.extBut _ _ n1 (aB _ e))
 have t2:Row2 e2 g2.objs.size y1 y2:=b2'.extBut _ _ (jJ lz) (b1'.extBut _ _ (jJ lz) (aW _ rfl));have s2':e2.objs.size=g2.objs.size+1:=by rw[b2'.1,b1'.1,cQ]
 rw[sz] at z2 t2 s2';refine aR ⟨_,rfl,?_⟩;show Q (.ref g2.objs.size) _;rw[sz];exact q e2 _ y1 y2 p1 p2 z2 (up _ _ D.nTOz O2) (j1.at λ_ e=>up _ _ D.ni1z e) (j2.at λ_ e=>up _ _ D.ni2z e) t2 s2' λc o n0 n1 n2 n3 e=>up c o n0 (kn c o n0 n1 n2 n3 e)
def aw1{z TI TO i1 i2 l1 l2:aU}{k1:Bool}{x1:Array aD}{v1 v2:aD}{Q:Fin->aG->Prop}(hh:A.handled=ZX)(D:Apart2 z TI TO i1 i2 l1 l2)
  (hz:rB s.heap z TI TO .none) (hI:Row2 s.heap TI (.ref i1) (.ref i2)) (hO:Row2 s.heap TO v1 v2) (h1:It1 k1 s.heap i1 l1 x1.size) (s1:Sq1 k1 s.heap l1 x1)
  (q:∀h' e,(∀c o,c≠z->c≠i1->s.heap.get? c=ZY o->h'.get? c=ZY o)->(∃o,h'.get? e=ZY o/\o.cls=.type "StopIteration")->E (.ref e) { s with heap:=h' }) :
  bU (bZ prog w) A (lC.«zip.__next__» ⟨[.ref z],[]⟩) Q E s:=by
 refine aA (m:=field (.ref z) 2) (dB hz rfl (x:=.bool ZV) rfl ?_);refine aA (m:=field (.ref z) 3) (dB hz rfl (x:=.ref TI) rfl ?_);refine aA (wpAny_seqItems hI rfl ?_);refine aA (m:=SmallTypes.ownedTupleIsFree (.ref z)) ?_;unfold SmallTypes.ownedTupleIsFree;refine aA (dB hz rfl (x:=.none) rfl (aR ?_));simp only[if_true];refine aA (wpAny_rule (aA (dB hz rfl (x:=.ref TO) rfl ?_)));refine aA (wpAny_setField_rec hz (by simp) λg0 z0 a0=>?_)
 have z0:rB g0 z TI TO .ellipsis:=z0;refine aA ?_;simp only[vJ,vU,oE,oV];refine aA (aA (wpAny_onRaise ?_));refine aA (m:=SmallTypes.nextOf (.ref i1)) ((src hh k1 i1 l1 D.nl1i1 x1).done _ _ _ ⟨(h1.at λ_ e=>a0.extBut _ _ D.ni1z e),(s1.at λ_ e=>a0.extBut _ _ D.nl1z e)⟩ λf1 e c1 ⟨oe,he,ce⟩=>?_)
 have zf:rB f1 z TI TO .ellipsis:=c1 _ _ D.ni1z.symm z0;have ez:e≠z:=λx=>by subst x;rw[zf] at he;cases he;simp at ce
 refine wpAny_setField_rec zf (by simp) λf2 _ a1=>q f2 e (λc o n1 n2 y=>a1.extBut _ _ n1 (c1 _ _ n2 (a0.extBut _ _ n1 y))) ⟨oe,a1.extBut _ _ ez he,ce⟩
abbrev asy(h:eF)(k1 k2:Bool)(l1 l2:aU):eF:=h.push { cls:=.type (cond k1 "tuple_iterator" "list_iterator"),data:=.fields #[.ref l1,.int 0 0] }
abbrev aw4(h:eF)(k1 k2:Bool)(l1 l2:aU):eF:=(asy h k1 k2 l1 l2).push { cls:=.type (cond k2 "tuple_iterator" "list_iterator"),data:=.fields #[.ref l2,.int 0 0] }
abbrev aw3(h:eF)(k1 k2:Bool)(l1 l2:aU):eF:=(aw4 h k1 k2 l1 l2).push { cls:=.type "tuple", data:=.seq #[.ref h.objs.size,.ref (asy h k1 k2 l1 l2).objs.size] }
abbrev aw2(h:eF)(k1 k2:Bool)(l1 l2:aU):eF:=(aw3 h k1 k2 l1 l2).push { cls:=.type "tuple", data:=.seq #[.none,.none] }
abbrev an5(h:eF)(k1 k2:Bool)(l1 l2:aU):eF:=(aw2 h k1 k2 l1 l2).push { cls:=.type "zip", data:=.fields #[.none,.bool ZV,.bool ZV,.ref (aw4 h k1 k2 l1 l2).objs.size,.ref (aw3 h k1 k2 l1 l2).objs.size] }
def a2s(k1 k2:Bool)(l1 l2:aU)(x1 x2:Array aD) :
  Meets (lC.«zip.__new__» ⟨[.type "zip", .ref l1,.ref l2],[]⟩) (λ_ R s=>Sq1 k1 s.heap l1 x1/\Sq1 k2 s.heap l2 x2/\R (.ok (.ret (.ref (aw2 s.heap k1 k2 l1 l2).objs.size))) { s with heap:=an5 s.heap k1 k2 l1 l2 }) :=
 .of_wp λprog w A R s h=>by
  obtain⟨hp,g,d,tk,os⟩:=s;obtain⟨s1,s2,h⟩:=h;have sb:=sub_zip;have r1:Sq1 k1 (tX ⟨hp,g,d,tk,os⟩) l1 x1:=s1.at λ_ e=>e
  have r2:Sq1 k2 (tX ⟨asy hp k1 k2 l1 l2,g,d,tk,os⟩) l2 x2:=s2.at λ_ e=>aB _ (e)
  wp_walk using ayp r1,ayp r2;exact⟨_,rfl,h⟩
def awk{k1 k2:Bool}{l1 l2:aU}{x1 x2:Array aD}{Q:aD->aG->Prop}(s1:Sq1 k1 s.heap l1 x1)(s2:Sq1 k2 s.heap l2 x2)
  (q:∀h',rB h' (s.heap.objs.size+4) (s.heap.objs.size+2) (s.heap.objs.size+3) .none->Row2 h' (s.heap.objs.size+2) (.ref s.heap.objs.size) (.ref (s.heap.objs.size+1))->Row2 h' (s.heap.objs.size+3) .none .none->It1 k1 h' s.heap.objs.size l1 0->It1 k2 h' (s.heap.objs.size+1) l2 0->h'.objs.size=s.heap.objs.size+5->(∀c o,s.heap.get? c=ZY o->h'.get? c=ZY o)->Q (.ref (s.heap.objs.size+4)) { s with heap:=h' }) :
  bU (bZ prog w) A (call (.type "zip") [.ref l1,.ref l2]) Q E s:=by
 refine callType_new F.called_zip (by decide) (a02 _ _) (a2q _ _) (λobj=>a4m obj _ _) F.entry_zip_new (a2s k1 k2 l1 l2 x1 x2) ⟨s1,s2,?_⟩
 have e1:(asy s.heap k1 k2 l1 l2).objs.size=s.heap.objs.size+1:=by rw[cQ]
 have e2:(aw4 s.heap k1 k2 l1 l2).objs.size=s.heap.objs.size+2:=by rw[cQ,e1]
 have eI:(aw3 s.heap k1 k2 l1 l2).objs.size=s.heap.objs.size+3:=by rw[cQ,e2]
 have eO:(aw2 s.heap k1 k2 l1 l2).objs.size=s.heap.objs.size+4:=by rw[cQ,eI]
 have eZ:(an5 s.heap k1 k2 l1 l2).objs.size=s.heap.objs.size+5:=by rw[cQ,eO]
 have gZ:(an5 s.heap k1 k2 l1 l2).get? (aw2 s.heap k1 k2 l1 l2).objs.size=ZY _:=aW _ rfl;have gO:(an5 s.heap k1 k2 l1 l2).get? (aw3 s.heap k1 k2 l1 l2).objs.size=ZY _:=aB _ (aW _ rfl);have gI:(an5 s.heap k1 k2 l1 l2).get? (aw4 s.heap k1 k2 l1 l2).objs.size=ZY _:=aB _ (aB _ (aW _ rfl));have j1:(an5 s.heap k1 k2 l1 l2).get? s.heap.objs.size=ZY _:=aB _ (aB _ (aB _ (aB _ (aW _ rfl))));have j2:(an5 s.heap k1 k2 l1 l2).get? (asy s.heap k1 k2 l1 l2).objs.size=ZY _:=aB _ (aB _ (aB _ (aW _ rfl)));show _/\_;rw[e2,eI,eO] at gZ;rw[e1,e2] at gI;rw[eI] at gO;rw[e1] at j2;rw[eO];exact⟨⟨_,gZ,rfl⟩,q _ gZ gI gO (ao8 j1) (ao8 j2) eZ λc o x=>aB _ (aB _ (aB _ (aB _ (aB _ (x)))))⟩
end
structure Apart3 (z TI TO i1 i2 i3 l1 l2 l3:aU):Prop where
 nTIz:TI≠z
 nTOz:TO≠z
 nTOTI:TO≠TI
 ni1z:i1≠z
 ni1TI:i1≠TI
 ni1TO:i1≠TO
 ni2z:i2≠z
 ni2TI:i2≠TI
 ni2TO:i2≠TO
 ni2i1:i2≠i1
 ni3z:i3≠z
 ni3TI:i3≠TI
 ni3TO:i3≠TO
 ni3i1:i3≠i1
 ni3i2:i3≠i2
 nl1z:l1≠z
 nl1TO:l1≠TO
 nl1i1:l1≠i1
 nl1i2:l1≠i2
 nl1i3:l1≠i3
 nl2z:l2≠z
 nl2TO:l2≠TO
 nl2i1:l2≠i1
 nl2i2:l2≠i2
 nl2i3:l2≠i3
 nl3z:l3≠z
 nl3TO:l3≠TO
 nl3i1:l3≠i1
 nl3i2:l3≠i2
 nl3i3:l3≠i3
section
variable{prog:cA}{w:dU}{A:cT}{E:aD->aG->Prop}{s:aG}
end
end En
namespace Mn
open L2 En
def SqK(k:Bool)(K:Fg9)(H:Hp)(a:aU)(xs:List V):Prop:=cond k (SqT K H a xs) (SqL K H a xs)
def ahc{xs:List V}{us:List aD}(r:Vals xs us){i:Nat}{x:V}{u:aD}(h:xs[i]? = ZY x)(h':us.toArray[i]? = ZY u):RelV x u:=by
 obtain⟨u',e,z⟩:=r.get h;have:us[i]? = ZY u:=by simpa using h'
 rw[this] at e;cases e;exact z
section
variable{X:Cx}{qv:List (aU×Obj)}{σ:L2.St}{H:Hp}{s:aG}{h':eF}{a:aU}{xs ys:List V}{k:Bool}
theorem agn(I:Inv X qv σ H s)(h:SqK k X.K H a xs):∃its:List aD,Vals xs its/\Sq1 k s.heap a its.toArray:=by
 cases k with
 |false=>
  obtain⟨its,r,p,_⟩:=I.list h;exact⟨its,r,p.isList⟩
 |true=>
  obtain⟨its,r,p,_⟩:=I.tuple h;exact⟨its,r,p⟩
theorem apa(I:Inv X qv σ H s)(h:SqK k X.K H a xs)(h2:SqK k X.K H a ys):xs=ys:=by
 cases k with
 |false=>exact I.list_inj h h2
 |true=>exact I.tuple_inj h h2
def af5{t':Nat}{fp:List aU}(I:Inv X qv σ H s)(kk:∀b o,b∉fp->s.heap.get? b=ZY o->h'.get? b=ZY o)(hf:∀b∈fp,FpOk X qv H b):Inv X qv σ H { s with heap:=h',toks:=t' }:=by
 have nit:∀b u,H b=ZY u->b∉fp:=λb u e z=>by rw[(hf b z).1] at e;cases e
 have nL:X.env.locals∉fp:=λz=>(hf _ z).2.1 rfl
 refine I.step (g':=s.gens) (d':=s.drawn) (ch:=fp) (λb hb=>⟨(hf b hb).2.2.2.1,(hf b hb).2.1,(hf b hb).2.2.2.2.1,(hf b hb).2.2.2.2.2⟩) (λb o _ _ hc e _=>kk b o hc e) (λb o _ _ hc e _=>⟨o.slots,kk b o hc e⟩) (λ_ _ _ _ n=>n)
  (λb o hc e=>⟨o,kk b o hc e⟩) (λ_ _ e=>e) (λ_ _ _ e=>e) (λb ps e=>⟨#[],by rw[e];simp⟩) (λm hm=>?_) (λb u e=>?_) I.bare
 ·obtain⟨o,es,ep,ho,r⟩:=hm;exact⟨o,es,ep,kk _ o nL ho,r⟩
 ·refine(I.hok b u e).stay (λc v hc q=>kk c v ?_ q) (λ_ q=>q) λ_ _ q=>q
  rcases hc with z |z
  ·rw[z];exact nit b u e
  ·exact nit c _ z
def avi{t':Nat}{fp:List aU}{vs:List V}{us:List aD}(I:Inv X qv σ H s)(kk:∀b o,b∉fp->s.heap.get? b=ZY o->h'.get? b=ZY o)(hf:∀b∈fp,FpOk X qv H b)(hb:∀b∈fp,b<s.heap.objs.size)
  (r:Vals vs us) (hz:vs.length<=cF) (ht:h'.get? s.heap.objs.size=ZY { cls:=.type "tuple", data:=.seq us.toArray }):Inv X qv σ (upd H s.heap.objs.size (.tup vs)) { s with heap:=h',toks:=t' }:=by
 have I1:=I.laid (h':=s.heap.push { cls:=.type "tuple", data:=.seq us.toArray }) (t':=s.toks) (a:=s.heap.objs.size) (o:=.tup vs) (λb u e=>aB _ e) (aM _) ⟨hz,us,r,⟨_,aW _ rfl,rfl,rfl,_,rfl⟩⟩
 have k2:∀b o,b∉fp->(s.heap.push { cls:=.type "tuple", data:=.seq us.toArray }).get? b=ZY o->h'.get? b=ZY o:=λb o hn e=>by
  rcases Heap.get?_push_cases e with⟨rfl,rfl⟩ |e
  ·exact ht
  ·exact kk b o hn e
 have f2:∀b∈fp,FpOk X qv (upd H s.heap.objs.size (.tup vs)) b:=λb hb'=>by
  obtain⟨f0,f⟩:=hf b hb';exact⟨by rw[cg (bH (hb b hb'))];exact f0,f⟩
 have R:=af5 (t':=t') (h':=h') (fp:=fp) I1 k2 f2;exact R
end
def a0d{k:Bool}{h:eF}{it a l:aU}{i:Nat}{xs:Array aD}(x:It1 k h it l i){k':Bool}(y:Sq1 k' h a xs):a≠it:=λe=>by
 subst e;cases k <;> cases k' <;> exact(by
  obtain⟨o,e1,c1,_⟩:=x;obtain⟨o',e2,c2,_⟩:=y;rw[e1] at e2;cases e2;rw[c1] at c2;simp at c2)
def bao{h:eF}{a b:aU}{o:Obj}{n:String}{k:Bool}{xs:Array aD}(e:h.get? b=ZY o)(c:o.cls=.type n)(hn:n ≠ "list" /\ n ≠ "tuple")(y:Sq1 k h a xs):a≠b:=λz=>by
 subst z;cases k <;> exact(by
  obtain⟨o',e2,c2,_⟩:=y;rw[e] at e2;cases e2;rw[c] at c2;simp at c2
  first |exact hn.1 c2 |exact hn.2 c2)
def Ite(K:Fg9)(k:Bool)(a:aU):It :=
 ⟨λi H=>∃xs x,SqK k K H a xs/\xs[i]? = ZY x,λi H x H'=>∃q v,H q=ZX/\x=.ref q/\H'=upd H q (.tup [.int i,v])/\∀xs,SqK k K H a xs->xs[i]? = ZY v,λi H=>∃xs,SqK k K H a xs/\xs.length=i⟩
def as8{P:cA}{w:dU}{K:Fg9}{elts:List cZ}{n:Nat}{pos:Pos}(k:Bool)(a e it:aU)(ne:e≠it) :
  Turn P w K (.Tuple elts n pos) (Ite K k a) [e,it] e (λi h=>(∃old,IsEnum h e it i old)/\It1 k h it a i) where
 mem:=by simp
 obj:=λi h st b hb=>by
  have hb:b=e∨b=it:=by simpa using hb
  rcases hb with rfl |rfl
  ·obtain⟨old,z⟩:=st.1;exact⟨_,z,λv z=>by cases z⟩
  ·exact st.2.got
 keep:=λi h h' st kk=>by
  obtain⟨⟨old,z⟩,y⟩:=st;exact⟨⟨old,kk e (by simp) _ z⟩,y.at λo z=>kk it (by simp) o z⟩
 item:=by
  intro X hP hw hK hc i qv s σ H E I hf st hg;subst hP hw hK;obtain⟨⟨old,he⟩,hi⟩:=st;obtain⟨xs,x,hq,hx⟩:=hg;obtain⟨its,rv,sq⟩:=agn I hq;obtain⟨u,hu,ru⟩:=rv.get hx;have hlt:i<its.toArray.size:=by simpa using (aH.mp hu).1
  have nai:=a0d hi sq;have nae:a≠e:=bao he rfl (by decide) sq
  have D:=En.src (prog:=X.prog) (w:=X.w) (A:=X.A.in1) (I.ok.hd hc) k it a nai its.toArray;refine wpAny_pyNext_enum_itemD D he ⟨hi,sq⟩ hlt ne (by simp[ne,nae.symm]) λy g tk hy ho hs hT hz hk=>?_
  refine⟨_,rfl,wpAny_letOwnedTupleGo_enum ho λg2 he2 sb=>?_⟩
  have ry:=ahc rv hx hy;have lte:e<s.heap.objs.size:=aN he;have lti:it<s.heap.objs.size:=by obtain⟨o,z,_⟩:=hi.got;exact aN z
  have fr:H s.heap.objs.size=ZX:=I.hok.fresh (aM _);refine⟨.ref s.heap.objs.size,upd H s.heap.objs.size (.tup [.int i,x]),?_,rfl,⟨_,x,fr,rfl,rfl,λys hy=>by rw[apa I hy hq];exact hx⟩,⟨⟨_,he2⟩,hs.1.at λo z=>sb.extBut _ _ ne.symm z⟩,λb hb=>?_⟩
  ·refine avi (fp:=[e,it]) (us:=[.int i tk,y]) I (λb o hn z=>?_) hf (λb hb=>?_) (.cons ⟨tk,rfl⟩ (.cons ry .nil)) (by rw[eN];simp) (sb.extBut _ _ (jJ lte) hT)
   ·have h1:b≠e:=λz=>hn (by simp[z])
    have h2:b≠it:=λz=>hn (by simp[z])
    exact sb.extBut _ _ h1 (hk b o h1 h2 z)
   ·have hb:b=e∨b=it:=by simpa using hb
    rcases hb with rfl |rfl
    ·exact lte
    ·exact lti
  ·have hb':b=e∨b=it:=by simpa using hb
   rw[cg (by rcases hb' with rfl |rfl;exact bH lte;exact bH lti)]
   exact(hf b hb).1
 done:=by
  intro X hP hw hK hc i qv s σ H E I hf st hg;subst hP hw hK;obtain⟨⟨old,he⟩,hi⟩:=st;obtain⟨xs,hq,hx⟩:=hg;obtain⟨its,rv,sq⟩:=agn I hq;have hl:i=its.toArray.size:=by have:=rv.length;simp;omega
  subst hl;have D:=En.src (prog:=X.prog) (w:=X.w) (A:=X.A.in1) (I.ok.hd hc) k it a (a0d hi sq) its.toArray;refine wpAny_pyNext_enum_endD D he ⟨hi,sq⟩ λg eb=>⟨rfl,af5 (t':=s.toks) (fp:=[e,it]) I (λb o hn z=>eb b o (λz=>hn (by simp[z])) z) hf⟩
 self:=λ_ _ _ _ _ st h=>let ⟨_,z⟩:=st.1;wpAny_pyIter_enum z h
def a81:bY "zip"=ZY (.type "zip"):=by decide +kernel
section
variable{X:Cx}
def bb0(K:Fg9)(ta:TA):TI:=λσ H R=>ta σ H λvs H1=>∃a k,vs=[.ref a]/\(∃xs,SqK k K H1 a xs)/\R (Ite K k a) H1
def a1u{a:cZ}{ta:TA}{p pos:Pos}{elts:List cZ}{n:Nat}{tp:Pos}(hg:Gl X "enumerate")(hm:X.mg "enumerate"=ZX)(ha:PA X [a] ta)(hs:aO [a] X.env=[(ZV,eval a X.env)]:=by rfl) :
  PI X (.Tuple elts n tp) (.Call (.Name "enumerate" p) [a] [] pos) (bb0 X.K ta):=by
 intro qv s σ H R I h;refine Call_ (ah5 I hg hm anx (gB (thn (ha pos qv s σ H _ I h) λus s1 ⟨vs,H1,I1,r1,q1⟩=>?_) hs rfl))
 obtain⟨b,k,rfl,⟨xs,hq⟩,q⟩:=q1;obtain⟨u,rfl,ru⟩:=vals1 r1;cases ru;obtain⟨its,rv,sq⟩:=agn I1 hq;refine awn sq λg he hi hz kk=>wpAny_pyIter_enum he ?_
 have I2:Inv X qv σ H1 { s1 with heap:=g }:=I1.kept (t':=s1.toks) kk
 refine⟨_,[s1.heap.objs.size+1,s1.heap.objs.size],_,_,H1,rfl,I2,as8 k b _ _ (Nat.succ_ne_self _),⟨⟨_,he⟩,hi⟩,λc hc=>?_,q⟩
 have hc:c=s1.heap.objs.size+1∨c=s1.heap.objs.size:=by simpa using hc
 rcases hc with rfl |rfl
 ·exact I1.fpOk (gC _) (I1.hok.fresh (gC _))
 ·exact I1.fpOk (aM _) (I1.hok.fresh (aM _))
end
end Mn
namespace En
open PySem PySem.Builtin
def az7{prog:cA}{w:dU}{A:cT}{E:aD->aG->Prop}{s:aG}{z TI TO:aU}{f0:aD}{Q:Option aD->aG->Prop}(hz:rB s.heap z TI TO f0)
  (h:bU (bZ prog w) A.in1 (lC.«zip.__next__» ⟨[.ref z],[]⟩) (λfin s'=>∃v,fin=.done (.ret v)/\Q (ZY v) s') (λe s'=>∃a o,e=.ref a/\s'.heap.get? a=ZY o/\o.cls=.type "StopIteration" /\ Q ZX s') s) :
  bU (bZ prog w) A (pyNext (.ref z)) Q E s:=by
 have tz:s.TypeIs (.ref z) "zip" := ⟨_,hz,rfl⟩;unfold pyNext;refine aA (wpAny_attempt (wpAny_callSpecial?_slot (name:=nQ "__next__") tz wD (wpAny_call_entry wD tz F.entry_zip_next (bI h (λfin s' ⟨v,e,q⟩=>⟨v,e,aR q⟩) λe s' ⟨a,o,e1,e2,e3,q⟩=>?_) (F.args_zip_next_1 _))))
 subst e1;exact aA (wpAny_isInstance (T := "StopIteration") (b:=ZW) ⟨o,e2,e3⟩ isSubtype_stop (aR q))
end En
namespace Mn
open L2 En
def Itz2(K:Fg9)(k1 k2:Bool)(a1 a2:aU):It :=
 ⟨λi H=>∃x1 x2 v1 v2,(SqK k1 K H a1 x1/\x1[i]? = ZY v1)/\(SqK k2 K H a2 x2/\x2[i]? = ZY v2),λi H x H'=>∃q v1 v2,H q=ZX/\x=.ref q/\H'=upd H q (.tup [v1,v2])/\(∀xs,SqK k1 K H a1 xs->xs[i]? = ZY v1)/\(∀xs,SqK k2 K H a2 xs->xs[i]? = ZY v2),λi H=>∃xs,SqK k1 K H a1 xs/\xs.length=i⟩
def as5{P:cA}{w:dU}{K:Fg9}{elts:List cZ}{n:Nat}{pos:Pos}(k1 k2:Bool)(a1 a2 z TI TO i1 i2:aU)(D:Apart2 z TI TO i1 i2 a1 a2) :
  Turn P w K (.Tuple elts n pos) (Itz2 K k1 k2 a1 a2) [z,TI,TO,i1,i2] z (λi h=>rB h z TI TO .none/\Row2 h TI (.ref i1) (.ref i2)/\(∃v1 v2,Row2 h TO v1 v2)/\It1 k1 h i1 a1 i/\It1 k2 h i2 a2 i) where
 mem:=by simp
 obj:=λi h ⟨hz,hI,⟨v1,v2,hO⟩,h1,h2⟩ b hb=>by
  have hb:b=z∨b=TI∨b=TO∨b=i1∨b=i2:=by simpa using hb
  rcases hb with rfl |rfl |rfl |rfl |rfl
  ·exact⟨_,hz,λv z=>by cases z⟩
  ·exact⟨_,hI,λv z=>by cases z⟩
  ·exact⟨_,hO,λv z=>by cases z⟩
  ·exact h1.got
  ·exact h2.got
 keep:=λi h h' ⟨hz,hI,⟨v1,v2,hO⟩,h1,h2⟩ kk=>⟨kk z (by simp) _ hz,kk TI (by simp) _ hI,⟨v1,v2,kk TO (by simp) _ hO⟩,h1.at λo e=>kk i1 (by simp) o e,h2.at λo e=>kk i2 (by simp) o e⟩
 item:=by
  intro X hP hw hK hc i qv s σ H E I hf st hg;subst hP hw hK;obtain⟨hz,hI,⟨o1,o2,hO⟩,h1,h2⟩:=st;obtain⟨x1,x2,v1,v2,⟨hq1,hx1⟩,⟨hq2,hx2⟩⟩:=hg;obtain⟨t1,r1,s1⟩:=agn I hq1;obtain⟨u1,hu1,_⟩:=r1.get hx1;have b1:i<t1.toArray.size:=by simpa using (aH.mp hu1).1
  obtain⟨t2,r2,s2⟩:=agn I hq2;obtain⟨u2,hu2,_⟩:=r2.get hx2;have b2:i<t2.toArray.size:=by simpa using (aH.mp hu2).1
  refine az7 hz (asx (I.ok.hd hc) D hz hI hO h1 s1 h2 s2 b1 b2 λg tk y1 y2 p1 p2 z2 O2 j1 j2 T2 hsz hk=>?_)
  refine⟨_,rfl,wpAny_letOwnedTupleGo_zip z2 λg2 he2 sb=>?_⟩
  have fr:H s.heap.objs.size=ZX:=I.hok.fresh (aM _);have lt:∀b∈[z,TI,TO,i1,i2],b<s.heap.objs.size:=λb hb=>by
   have hb:b=z∨b=TI∨b=TO∨b=i1∨b=i2:=by simpa using hb
   rcases hb with rfl |rfl |rfl |rfl |rfl
   ·exact aN hz
   ·exact aN hI
   ·exact aN hO
   ·obtain⟨o,e,_⟩:=h1.got;exact aN e
   ·obtain⟨o,e,_⟩:=h2.got;exact aN e
  have up:∀b o,b∉[z,TI,TO,i1,i2]->s.heap.get? b=ZY o->g2.get? b=ZY o:=λb o hn e=>sb.extBut _ _ (λx=>hn (by simp[x])) (hk b o (λx=>hn (by simp[x])) (λx=>hn (by simp[x])) (λx=>hn (by simp[x])) (λx=>hn (by simp[x])) e)
  have TI2:g2.get? TI=_:=sb.extBut _ _ D.nTIz (hk TI _ D.nTIz D.nTOTI.symm D.ni1TI.symm D.ni2TI.symm hI);refine⟨.ref s.heap.objs.size,upd H s.heap.objs.size (.tup [v1,v2]),?_,rfl,⟨_,v1,v2,fr,rfl,rfl,λys hy=>by rw[apa I hy hq1];exact hx1,λys hy=>by rw[apa I hy hq2];exact hx2⟩,⟨he2,TI2,⟨y1,y2,sb.extBut _ _ D.nTOz O2⟩,(j1.at λo e=>sb.extBut _ _ D.ni1z e),(j2.at λo e=>sb.extBut _ _ D.ni2z e)⟩,λb hb=>?_⟩
  ·exact avi (fp:=[z,TI,TO,i1,i2]) (us:=[y1,y2]) I up hf lt (.cons (ahc r1 hx1 p1) (.cons (ahc r2 hx2 p2) .nil)) (by rw[eN];simp) (sb.extBut _ _ (jJ (lt z (by simp))) T2)
  ·rw[cg (bH (lt b hb))];exact(hf b hb).1
 done:=by
  intro X hP hw hK hc i qv s σ H E I hf st hg;subst hP hw hK;obtain⟨hz,hI,⟨o1,o2,hO⟩,h1,h2⟩:=st;obtain⟨xs,hq,hx⟩:=hg;obtain⟨its,rv,sq⟩:=agn I hq;have hl:i=its.toArray.size:=by have:=rv.length;simp;omega
  subst hl;refine az7 hz (aw1 (I.ok.hd hc) D hz hI hO h1 sq λg e kk ⟨o,he,ce⟩=>⟨e,o,rfl,he,ce,rfl,af5 (t':=s.toks) (fp:=[z,TI,TO,i1,i2]) I (λb o hn z=>kk b o (λz=>hn (by simp[z])) (λz=>hn (by simp[z])) z) hf⟩)
 self:=λ_ _ _ _ _ st h=>wpAny_pyIter_zip st.1 h
def apart2{N l1 l2:Nat}(h1:l1<N)(h2:l2<N):Apart2 (N+4) (N+2) (N+3) N (N+1) l1 l2:=by
 constructor <;> (intro e;have e:(_:Nat)=_:=e;omega)
section
variable{X:Cx}
def bbw(K:Fg9)(ta:TA):TI:=λσ H R=>ta σ H λvs H1=>∃a1 a2 k1 k2,vs=[.ref a1,.ref a2]/\(∃xs,SqK k1 K H1 a1 xs)/\(∃xs,SqK k2 K H1 a2 xs)/\R (Itz2 K k1 k2 a1 a2) H1
def a1t{e1 e2:cZ}{ta:TA}{p pos:Pos}{elts:List cZ}{n:Nat}{tp:Pos}(hg:Gl X "zip")(hm:X.mg "zip"=ZX)(ha:PA X [e1,e2] ta)(hs:aO [e1,e2] X.env=[(ZV,eval e1 X.env),(ZV,eval e2 X.env)]:=by rfl)(hs2:aO [e2] X.env=[(ZV,eval e2 X.env)]:=by rfl) :
  PI X (.Tuple elts n tp) (.Call (.Name "zip" p) [e1,e2] [] pos) (bbw X.K ta):=by
 intro qv s σ H R I h;refine Call_ (ah5 I hg hm a81 (gB (thn (ha pos qv s σ H _ I h) λus s1 ⟨vs,H1,I1,r1,q1⟩=>?_) (by rw[hs,hs2]) (by rw[hs2];rfl)))
 obtain⟨a1,a2,k1,k2,rfl,⟨x1,hq1⟩,⟨x2,hq2⟩,q⟩:=q1;obtain⟨u1,u2,rfl,ru1,ru2⟩:=vals2 r1;cases ru1;cases ru2;obtain⟨t1,r1',sq1⟩:=agn I1 hq1;have b1:a1<s1.heap.objs.size:=by obtain⟨o,e⟩:=sq1.got;exact aN e
 obtain⟨t2,r2',sq2⟩:=agn I1 hq2;have b2:a2<s1.heap.objs.size:=by obtain⟨o,e⟩:=sq2.got;exact aN e
 refine awk sq1 sq2 λg hz hI hO h1 h2 hsz kk=>wpAny_pyIter_zip hz ?_
 have I2:Inv X qv σ H1 { s1 with heap:=g }:=I1.kept (t':=s1.toks) kk
 refine⟨_,[s1.heap.objs.size+4,s1.heap.objs.size+2,s1.heap.objs.size+3,s1.heap.objs.size,s1.heap.objs.size+1],_,_,H1,rfl,I2,as5 k1 k2 a1 a2 _ _ _ _ _ (apart2 b1 b2),⟨hz,hI,⟨_,_,hO⟩,h1,h2⟩,λc hc=>?_,q⟩
 have hc:s1.heap.objs.size<=c:=by
  simp only[bF,nH,or_false] at hc;rcases hc with rfl |rfl |rfl |rfl |rfl <;> first |exact aM _ |exact Nat.le_add_right _ _
 exact I1.fpOk hc (I1.hok.fresh hc)
end
section
variable{X:Cx}
end
end Mn
namespace Dn
open L2 Mn
section
variable{K:Fg9}{X:Cx}{e a b c:cZ}{es elts:List cZ}{pos p tp:Pos}{n:Nat}
theorem atn{F:Hp}{d:D}{l:List D}{v:V}(e:itemsD d=ZY l)(h:Is K F d v):∃a k vs,v=.ref a/\IsL K F l vs/\∀H,Same F H->SqK k K H a vs:=by
 cases h with
 |tup e1 h1=>cases e;exact⟨_,ZW,_,rfl,h1,λH g=>SqT.of (g _ _ e1)⟩
 |lst e1 h1=>cases e;exact⟨_,ZV,_,rfl,h1,λH g=>SqL.of (g _ _ e1)⟩
 |kst e1 h1=>cases e;exact⟨_,ZV,_,rfl,h1,λH g=>L2.Same.seq g e1⟩
 |_=>cases e
def ajk(l:List D):List D:=l.mapIdx λi d=>.tup [.int (i:Nat),d]
def ayz:List D->Option (List D)
 | [d]=>(itemsD d).map ajk
 |_=>ZX
def afg(l:List D):(ajk l).length=l.length:=by unfold ajk;simp
theorem ait{l:List D}{i:Nat}{d:D}(h:(ajk l)[i]? = ZY d):∃d0,l[i]? = ZY d0/\d=.tup [.int (i:Nat),d0]:=by
 unfold ajk at h;rw[oN] at h;cases e:l[i]? with
 |none=>rw[e] at h;cases h
 |some d0=>rw[e] at h;cases h;exact⟨d0,rfl,rfl⟩
def ayr{F:Hp}{k:Bool}{a:aU}{l:List D}{vs:List V}(il:IsL K F l vs)(hs:∀H,Same F H->SqK k K H a vs):ItD K (Ite K k a) (ajk l) F where
 go:=λi H s hi=>by
  have hi:i<vs.length:=by rw[<-il.length,<-afg];exact hi
  exact⟨vs,_,hs H s,aF hi⟩
 yld:=λi H x H' d s y hd=>by
  obtain⟨d0,h0,rfl⟩:=ait hd;obtain⟨q,v,hq,rfl,rfl,hv⟩:=y;obtain⟨v',e1,i1⟩:=il.get h0;have:=hv _ (hs H s);rw[e1] at this;cases this;exact .inr ⟨q,_,_,hq,rfl,rfl,rfl,.cons (.int _) (.cons i1 .nil)⟩
 stop:=λH s=>⟨vs,hs H s,by rw[afg,il.length]⟩
theorem avd{m:M (List D)}(hg:Gl X "enumerate")(hm:X.mg "enumerate"=ZX)(h:ED K X [a] m)(hs:aO [a] X.env=[(ZV,eval a X.env)]:=by rfl):IT K X (.Tuple elts n tp) (.Call (.Name "enumerate" p) [a] [] pos) (mGet ayz m):=IT.mk λhk=>by
 intro qv s σ H R I z9;obtain⟨tg,F,ρ,l,ρ',G,em,q⟩:=z9;obtain⟨ds,ρ1,e1,em⟩:=bw em;obtain⟨e2,rfl⟩:=jb em;have h:=h hk;subst hk;refine a1u hg hm h hs qv s σ H R I ⟨tg,F,ρ,ds,_,G,e1,λvs H' F' G' x r=>?_⟩
 match ds,e2 with
 | [d],e2=>
  have e2:(itemsD d).map ajk=ZY l:=e2;cases e3:itemsD d with
  |none=>rw[e3] at e2;cases e2
  |some l0=>
   rw[e3] at e2;cases e2;cases r with
   |cons h1 t=>
    cases t;obtain⟨b,k,ws,rfl,il,hq⟩:=atn e3 h1;exact⟨b,k,rfl,⟨ws,hq _ G'.sub⟩,q _ H' F' G' x (ayr il hq)⟩
def sy(l1 l2:List D):List D:=List.zipWith (λx y=>.tup [x,y]) l1 l2
def ane:List D->Option (List D)
 | [a,b]=>(itemsD a).bind λl1=>(itemsD b).bind λl2=>if l1.length<=l2.length then ZY (sy l1 l2) else ZX
 |_=>ZX
theorem ael{l1 l2:List D}{i:Nat}{d:D}(h:(sy l1 l2)[i]? = ZY d):∃d1 d2,l1[i]? = ZY d1/\l2[i]? = ZY d2/\d=.tup [d1,d2]:=by
 unfold sy at h;rw[oA] at h;cases e1:l1[i]? with
 |none=>rw[e1] at h;cases h
 |some d1=>
  cases e2:l2[i]? with
  |none=>rw[e1,e2] at h;cases h
  |some d2=>rw[e1,e2] at h;cases h;exact⟨_,_,rfl,rfl,rfl⟩
def ayq{F:Hp}{k1 k2:Bool}{a1 a2:aU}{l1 l2:List D}{x1 x2:List V}(h:l1.length<=l2.length)(i1:IsL K F l1 x1)(i2:IsL K F l2 x2)(s1:∀H,Same F H->SqK k1 K H a1 x1)(s2:∀H,Same F H->SqK k2 K H a2 x2):ItD K (Itz2 K k1 k2 a1 a2) (sy l1 l2) F where
 go:=λi H s hi=>by
  have z1:=i1.length;have z2:=i2.length;have hi:i<l1.length:=by unfold sy at hi;simp at hi;omega
  exact⟨x1,x2,_,_,⟨s1 H s,aF (by omega)⟩,s2 H s,aF (by omega)⟩
 yld:=λi H x H' d s y hd=>by
  obtain⟨d1,d2,h1,h2,rfl⟩:=ael hd;obtain⟨q,v1,v2,hq,rfl,rfl,y1,y2⟩:=y;obtain⟨w1,e1,j1⟩:=i1.get h1;obtain⟨w2,e2,j2⟩:=i2.get h2;have z1:=y1 _ (s1 H s);have z2:=y2 _ (s2 H s);rw[e1] at z1;rw[e2] at z2;cases z1;cases z2;exact .inr ⟨q,_,_,hq,rfl,rfl,rfl,.cons j1 (.cons j2 .nil)⟩
 stop:=λH s=>⟨x1,s1 H s,by unfold sy;rw[iD,<-i1.length];omega⟩
theorem af4{m:M (List D)}(hg:Gl X "zip")(hm:X.mg "zip"=ZX)(h:ED K X [a,b] m)(hs:aO [a,b] X.env=[(ZV,eval a X.env),(ZV,eval b X.env)]:=by rfl)(hs2:aO [b] X.env=[(ZV,eval b X.env)]:=by rfl) :
  IT K X (.Tuple elts n tp) (.Call (.Name "zip" p) [a,b] [] pos) (mGet ane m):=IT.mk λhk=>by
 intro qv s σ H R I z9;obtain⟨tg,F,ρ,l,ρ',G,em,q⟩:=z9;obtain⟨ds,ρ1,e1,em⟩:=bw em;obtain⟨e2,rfl⟩:=jb em;have h:=h hk;subst hk;refine a1t hg hm h hs hs2 qv s σ H R I ⟨tg,F,ρ,ds,_,G,e1,λvs H' F' G' x r=>?_⟩
 match ds,e2 with
 | [d,d'],e2=>
  have e2:((itemsD d).bind λl1=>(itemsD d').bind λl2=>if l1.length<=l2.length then ZY (sy l1 l2) else ZX)=ZY l:=e2
  cases e3:itemsD d with
  |none=>rw[e3] at e2;cases e2
  |some l1=>
   cases e4:itemsD d' with
   |none=>rw[e3,e4] at e2;cases e2
   |some l2=>
    rw[e3,e4] at e2;have e2:(if l1.length<=l2.length then ZY (sy l1 l2) else ZX)=ZY l:=e2
    split at e2
    ·rename_i hle;cases e2;cases r with
     |cons h1 t=>
      cases t with
      |cons h2 t=>
       cases t;obtain⟨b1,k1,w1,rfl,il1,hq1⟩:=atn e3 h1;obtain⟨b2,k2,w2,rfl,il2,hq2⟩:=atn e4 h2;exact⟨b1,b2,k1,k2,rfl,⟨w1,hq1 _ G'.sub⟩,⟨w2,hq2 _ G'.sub⟩,q _ H' F' G' x (ayq hle il1 il2 hq1 hq2)⟩
    ·cases e2
end
end Dn
namespace Mn
open L2
def ayw{X:Cx}:PGet X (rIxL X.K):=by
 intro qv s σ H x y v u Q I rx ry h;obtain⟨p,xs,i,z,rfl,rfl,hq,he,q⟩:=h;cases rx;obtain⟨t,rfl⟩:=ry;obtain⟨its,r,pl,hz⟩:=I.list hq;obtain⟨j,h1,h2,h3,h4,h5⟩:=apr he;obtain⟨w,ew,rw'⟩:=r.get h2;have hl:=r.length;have hn:=am3;have fin:EP X qv σ Q w s:=⟨z,H,I,rw',q⟩
 by_cases h0:0<=i
 ·have hj:i.toNat=j:=by
   rw[seqIndex_of h0 h5] at h1;exact bL h1
  exact wpAny_getItem_list pl.isList h0 (by omega) (by rw[hj];simpa using ew) fin
 ·have hj:(i+(its.toArray.size:Int)).toNat=j:=by
   rw[seqIndex_neg (by omega) h4] at h1
   have:=bL h1;rw[aP,<-hl];exact this
  exact wpAny_getItem_list_neg pl.isList (by omega) (by simp only[aP];omega) (by omega) (by rw[hj];simpa using ew) fin
end Mn
namespace Dn
open L2 Mn
section
variable{K:Fg9}{X:Cx}{e a b:cZ}{pos p:Pos}
def apj(f:Int->Int->Int)(i:Nat)(mi m:M D):Sd:=dM (mOwn i) λ_=>dM mi λk=>dM (mOwn i) λl=>dM (lift ((asI k).bind (ixN l.length))) λj=>dM (lift ((l[j]?).bind asI)) λx=>dM m λy=>dM (lift (asI y)) λy=>dM (mOwn i) λl2=>dM (lift (if l2.length=l.length then ZY () else ZX)) λ_=>dM (ae3 i (l2.set j (.int (f x y)))) λ_=>dNx
def a7z{n:Nat}{k:Int}{j:Nat}{α:Type}{l:List α}(hn:l.length=n)(h:ixN n k=ZY j):atI l k=l[j]? := by
 unfold atI;rw[hn,h];rfl
theorem atd{f:Int->Int->Int}{op:mC}{i:Nat}{mi m:M D}(ho:PE X a (tVar i))(hi:EV K X b mi)(h:EV K X e m)(hp:PIp X op (ipI f))
  (ha:∀ov iv new,augStore b ov iv new=(do lN [new,ov,iv] (setItem ov iv new);release [new,ov,iv] [];pure .next):=by intros;rfl):SV K X (.AugAssign (.Subscript a b p) op e pos) (apj f i mi m):=SV.mk λhk=>by
 subst hk;refine PS.imp (a1o ho (hi rfl) ayw (h rfl) hp set_list ha) λE σ H z9=>?_
 obtain⟨tg,F,ρ,fl,ρ',G,em,q⟩:=z9;refine xq em q λl0 ρ0 e0 em=>xq em q λk ρ1 e1 em=>xq em q λl ρ2 e2 em=>xq em q λj ρ3 e3 em=>xq em q λx ρ4 e4 em=>xq em q λy ρ5 e5 em=>xq em q λy' ρ6 e6 em=>xq em q λl2 ρ7 e7 em=>xq em q λu ρ8 e8 em=>xq em q λu2 ρ9 e9 em=>?_
 cases em;obtain⟨rfl,t0,a0,xs0,es0,hv,hh0,hl0⟩:=ahv G e0;refine⟨_,hv,tg,F,_,k,ρ1,G,e1,λw H1 F1 G1 x1 r1=>?_⟩
 obtain⟨rfl,t1,a1,xs1,es1,hv1,hh1,hl1⟩:=ahv G1 e2;rw[hv] at hv1;cases hv1;obtain⟨g3,rfl⟩:=jb e3;obtain⟨g4,rfl⟩:=jb e4;cases ek:asI k with
 |none=>rw[ek] at g3;cases g3
 |some n=>
  rw[ek] at g3;obtain rfl:=agr ek;cases r1;have e3:ixN l.length n=ZY j:=g3;cases ej:l[j]? with
  |none=>rw[ej] at g4;cases g4
  |some d=>
   rw[ej] at g4;have h4:asI d=ZY x:=g4;obtain rfl:=agr h4;obtain⟨v,ev,iv⟩:=hl1.get ej;cases iv;refine⟨_,xs1,n,.int x,rfl,rfl,SqL.of hh1,by rw[a7z hl1.length.symm e3];exact ev,?_⟩
   refine⟨tg,F1,_,y,ρ5,G1,e5,λw2 H2 F2 G2 x2 r2=>?_⟩
   obtain⟨g6,rfl⟩:=jb e6;obtain rfl:=agr g6;cases r2;refine⟨x,y',rfl,rfl,?_⟩;obtain⟨rfl,t2,a2,xs2,es2,hv2,hh2,hl2⟩:=ahv G2 e7;rw[hv] at hv2;cases hv2;obtain⟨g8,rfl⟩:=jb e8;split at g8
   ·rename_i hlen;obtain⟨G3,x3⟩:=ao1 G2 e9 hv (hl2.set (Is.int (f x y')) j);exact⟨_,xs2,n,j,rfl,rfl,hh2,by rw[<-hl2.length,hlen];exact e3,q _ _ F2 G3 ((x1.trans x2).trans x3)⟩
   ·cases g8
end
end Dn
namespace Mn
open L2
section
variable{prog:cA}{w:dU}{A:cT}{E:aD->aG->Prop}{s:aG}
def ars{l:aU}{vs:List aD}{ns:List Int}{Q:aD->aG->Prop}(hl:uD s.heap l vs.toArray)(hI:lW vs ns)(h64:vs.length<64)
  (h:∀(h1 h':eF) (out:Array aD) (ns':List Int) (e:Nat),(∀b o,s.heap.get? b=ZY o->h1.get? b=ZY o)->(∀b o,h1.get? b=ZY o->h'.get? b=ZY o)->h'.get? h1.objs.size=ZY (iJ "list" out e)->lW out.toList ns'->ns'.Perm ns->ns'.Pairwise (· <= ·)->Q (.ref h1.objs.size) { s with heap:=h' }) :
  bU (bZ prog w) A (call (.builtin "sorted") [.ref l]) Q E s:=by
 obtain⟨o,ho,hc,n,hd⟩:=id hl;refine sE kind_sorted plain_sorted entry_sorted (args_sorted1 _) ?_;unfold lC.«sorted»
 refine aA (m:=checkCount "sorted" 1 1 _) (aR ?_);refine aA (wpAny_collect_seq l (.inr rfl) ho hc hd (λh1 k1=>?_) (by rw[aP,eN];omega))
 refine aA (wpAny_newList ?_);have hoL:(h1.push (iJ "list" vs.toArray 0)).get? h1.objs.size=ZY (iJ "list" vs.toArray 0):=aW _ rfl;show bU _ _ _ _ _ { s with heap:=h1.push (iJ "list" vs.toArray 0) }
 refine aA (fP (wpAny_call_entry slot_list_sort ⟨_,hoL,rfl⟩ entry_list_sort (list_sort_tree hoL hI h64 λout ns' a1 a2 a3=>⟨_,rfl,?_⟩) (args_list_sort _)))
 obtain⟨e,he⟩:=sortedHeap_at (out:=out) hoL;exact aR ⟨_,rfl,h h1 _ out ns' e k1 (λb ob q=>by
  have hlt:b<h1.objs.size:=aN q;rw[sortedHeap_old (bH hlt) (by rw[size_push'];exact pW hlt)]
  exact aB _ q) he a1 a2 a3⟩
end
end Mn
namespace Dn
open L2 Mn
section
variable{K:Fg9}{X:Cx}
def adf:D->Option Rv
 |.tup l=>(qp l).bind λns=>if ns.length<64 then ZY (.fr ((sortI ns).map D.int)) else ZX
 |d=>alp d
@[simp] theorem a0h(l:List D):adf (.lst l)=alp (.lst l):=rfl
theorem asq:CallD K X (.builtin "sorted") (g1 λd=>match d with |.tup l=>(qp l).bind λns=>if ns.length<64 then ZY (.fr ((sortI ns).map D.int)) else ZX |_=>ZX):=cd_one λhk qv s σ0 H x u Q tg F ρ σ d r I ru G bd eg q=>by
 subst hk;cases d with
 |tup l=>
  have eg:(qp l).bind (λns=>if ns.length<64 then ZY (Rv.fr ((sortI ns).map D.int)) else ZX)=ZY r:=eg
  cases e:qp l with
  |none=>rw[e] at eg;cases eg
  |some ns=>
   rw[e] at eg;have eg:(if ns.length<64 then ZY (Rv.fr ((sortI ns).map D.int)) else ZX)=ZY r:=eg
   split at eg
   ·rename_i h64;cases eg;obtain⟨a,vs,rfl,ea,hl⟩:=bd.tup;rw[abp e] at hl;rw[hl.int_inv] at ea;cases ru;obtain⟨its,rv,pl,_⟩:=I.tuple (SqT.of (G.sub _ _ ea));have hlen:=rv.length;rw[aC] at hlen;refine ars pl (intsAre_of rv) (by omega) λh1 h' out ns' ep k1 k2 eo i1 hp hs=>?_
    have e':=apz hp hs;subst e';have I1:=I.kept (h':=h1) (t':=s.toks) k1;have hn:H h1.objs.size=ZX:=I1.hok.fresh (aM _);refine⟨.ref h1.objs.size,upd H h1.objs.size (.lst ((sortI ns).map V.int)),?_,rfl,Res.lst G q (ae5 _) hn⟩;refine I1.laid (t':=s.toks) k2 (aM _) ?_;refine⟨?_,out.toList,ep,ab3 i1,by simpa using eo⟩
    rw[aC,(sortI_perm ns).length_eq];exact kO (ahf (by omega))
   ·cases eg
 |_=>cases eg
theorem akh:CallD K X (.builtin "sorted") (g1 adf):=cd_one λhk qv s σ0 H x u Q tg F ρ σ d r I ru G bd eg q=>by
 cases d with
 |tup l=>exact asq.go hk qv s σ0 H [x] [u] Q I (.cons ru .nil) ⟨tg,F,ρ,σ,[.tup l],r,G,.cons bd .nil,eg,q⟩
 |lst l=>exact awh.go hk qv s σ0 H [x] [u] Q I (.cons ru .nil) ⟨tg,F,ρ,σ,[.lst l],r,G,.cons bd .nil,eg,q⟩
 |_=>cases eg
end
end Dn
namespace Mn
open L2
def agd(y:Str)(env:Env)(XN:List Str)(scope:iZ)(fr N:List Str)(src:List (Option Nat)):Bool :=
 scope.names.all (λz=>(z.2 != .cell||z.1==y)&&(z.2 != .local||scope.names.lookup z.1==ZY .local)&&(z.2 != .free||fr.contains z.1)) &&
 fr.all (λx=>x != y&&(scope.names.lookup x==ZY .free&&(env.kindOf x==ZY .cell||env.kindOf x==ZY .free)))&&afr XN fr N src
structure CompOkY (y:Str) (env:Env) (XN:List Str) (scope:iZ) (fr N:List Str) (src:List (Option Nat)):Prop where
 cell:∀z∈scope.names,z.2=.cell->z.1=y
 loc:∀z∈scope.names,z.2=.local->scope.names.lookup z.1=ZY .local
 free:∀z∈scope.names,z.2=.free->z.1∈fr
 ne:∀x∈fr,x≠y
 frk:∀x∈fr,scope.names.lookup x=ZY .free
 out:∀x∈fr,env.kindOf x=ZY .cell∨env.kindOf x=ZY .free
 src:afr XN fr N src=ZW
def CompOkY.of{y:Str}{env:Env}{XN:List Str}{scope:iZ}{fr N:List Str}{src:List (Option Nat)}(h:agd y env XN scope fr N src=ZW):CompOkY y env XN scope fr N src:=by
 simp only[agd,bD,bK] at h;obtain⟨⟨h1,h2⟩,h3⟩:=h;refine⟨λz hz e=>?_,λz hz e=>?_,λz hz e=>?_,λx hx=>?_,λx hx=>?_,λx hx=>?_,h3⟩
 ·have:=(h1 z hz).1.1;rw[e] at this
  simpa using this
 ·have:=(h1 z hz).1.2;rw[e] at this
  simpa using this
 ·have:=(h1 z hz).2;rw[e] at this
  simpa using this
 ·simpa using (h2 x hx).1
 ·simpa using (h2 x hx).2.1
 ·simpa using (h2 x hx).2.2
def cxY(y:Str)(X:Cx)(N:List Str)(scope:iZ)(fr:List Str)(fp:List aU)(s:aG)(H:Hp):Cx :=
 { cxC X N scope fr fp s H with env:=compEnvC scope ((y,s.heap.objs.size+1)::ut X.env fr) s.heap.objs.size X.env,fn:=λx=>x==y }
def ql{M:uB}{A:cT}{E:aD->aG->Prop}{s:aG}{scope:iZ}{globals:aU}{cl:List (Str×Addr)}{qual:Str}{func:Option aU}{code:aD}{ar:Env}{builtins:aU}{Q:Env->aG->Prop}
  (hQ:Q (newEnv scope s.heap.objs.size globals (lQ (s.heap.objs.size+1) scope.names cl) qual func code (ZY ar) builtins)
   { s with heap:=pushCells (s.heap.push { cls:=.type "dict", data:=.dict #[] }) scope.names }) :
  bU M A (newFunctionEnv scope globals cl [] qual func code (ZY ar) builtins) Q E s:=by
 simp only[newFunctionEnv,Option.isSome_some,if_true];refine aA (wpAny_alloc ?_);refine aA (wpAny_layCells _ (λname kind cells=>by cases hkc:kind==gJ <;> simp[hkc]) _ _ _ _ ?_)
 rw[show({ s with heap:=s.heap.push { cls:=.type "dict", data:=.dict #[] } }:aG).heap.objs.size=s.heap.objs.size+1 from cQ ..]
 refine aA ?_;rw[oV];exact aR (aR hQ)
section
variable{y:Str}{X:Cx}{qv:List (aU×Obj)}{σ:L2.St}{H:Hp}{s:aG}{scope:iZ}{fr N:List Str}{src:List (Option Nat)}{fp:List aU}
def auy{a c:aU}{x:Str}{l:List (Str×Addr)}(h:bJ x ((y,a)::l)=ZY c):(x=y/\c=a)∨(x≠y/\l.lookup x=ZY c):=by
 by_cases e:x=y
 ·subst e;rw[look_same] at h;exact .inl ⟨rfl,(bL h).symm⟩
 ·rw[aa8 e] at h;exact .inr ⟨e,h⟩
def a8t(I:Inv X qv σ H s)(C:CompOkY y X.env X.N scope fr N src)(hkind:scope.kind=.function)(hf:∀b∈fp,FpOk X qv H b)(hl:∀b∈fp,b<s.heap.objs.size):(cxY y X N scope fr fp s H).Ok where
 mod:=I.ok.mod
 kind:=hkind
 glob:=I.ok.glob
 blt:=I.ok.blt
 above:=aM _
 inj:=λx z c h1 h2=>by
  have lt:∀{x c},(ut X.env fr).lookup x=ZY c->c<s.heap.objs.size:=λh=>by
   obtain⟨v,q⟩:=I.cell _ _ (ju h);exact q.lt
  rcases auy h1 with⟨e1,a1⟩ |⟨e1,l1⟩ <;> rcases auy h2 with⟨e2,a2⟩ |⟨e2,l2⟩
  ·rw[e1,e2]
  ·exact absurd (lt l2) (by rw[a1];exact λh=>absurd h (jZ.mpr (gC _)))
  ·exact absurd (lt l1) (by rw[a2];exact λh=>absurd h (jZ.mpr (gC _)))
  ·exact I.ok.inj x z c (ju l1) (ju l2)
 has:=λx hx=>by
  by_cases e:x=y
  ·subst e;exact⟨_,look_same⟩
  have mem:∀k,(k=gJ∨k=dC)->(cxY y X N scope fr fp s H).env.kindOf x=ZY k->x∈fr:=λk hk e'=>by
   obtain⟨k0,e0,d⟩:=ab9 (env:=X.env) (names:=scope.names) e';have hm:=gA e0;rcases d with rfl |⟨rfl,_⟩
   ·rcases hk with rfl |rfl
    ·exact absurd (C.cell _ hm rfl) e
    ·exact C.free _ hm rfl
   ·exact C.free _ hm rfl
  have hm:x∈fr:=by
   rcases hx with e |e
   ·exact mem _ (.inl rfl) e
   ·exact mem _ (.inr rfl) e
  obtain⟨c,hc⟩:=I.ok.has x (C.out x hm);exact⟨c,(aa8 e).trans (aaa hm hc)⟩
 cab:=λx c h e=>by
  have hx:x=y:=by simpa[cxY] using h
  subst hx;rw[show(cxY x X N scope fr fp s H).env.cells=(x,s.heap.objs.size+1)::ut X.env fr from rfl,look_same] at e
  cases e;exact gC _
 hd:=I.ok.hd
 frames:=I.ok.frames
 stk:=.inl rfl
 exf:=λb hb=>⟨Nat.ne_of_lt (hl b hb),λx c e=>by
  rcases auy e with⟨_,a1⟩ |⟨_,l1⟩
  ·rw[a1];exact λh=>absurd (hl b hb) (by rw[<-h];exact jZ.mpr (gC _))
  ·exact(hf b hb).2.2.2.2.1 x c (ju l1)⟩
 bs:=I.bs
 bsz:=cW I.ok.bsz I.sz
 noex:=λb o e hb=>by
  rcases(hf b hb).2.2.2.1 with z |z
  ·exact I.ok.noex b o e z
  ·exact absurd (bN (aN e) (cW I.ok.bsz z)) (iR _)
 exfs:=λb hb z=>by
  rcases bF.mp (I.stkSub b z) with e |e
  ·exact(hf b hb).2.1 e
  ·exact(hf b hb).2.2.1 e
 funs:=I.stack
 frf:=I.stkFree
def am7(I:Inv X qv σ H s)(C:CompOkY y X.env X.N scope fr N src)(hkind:scope.kind=.function)(hf:∀b∈fp,FpOk X qv H b)(hl:∀b∈fp,b<s.heap.objs.size){h':eF}{tk:Nat}{m:Str->Option aD}
  (hns:h'.Ns s.heap.objs.size m) (hk:∀b o,s.heap.get? b=ZY o->h'.get? b=ZY o) (hc:h'.IsCell (s.heap.objs.size+1) ZX):Inv (cxY y X N scope fr fp s H) [] (pick src σ) H { s with heap:=h',toks:=tk } where
 ok:=a8t I C hkind hf hl
 os:=rfl
 bare:=I.bare
 base:=Un.kept hk
 loc:=by
  refine⟨m,hns,λi x v h1 h2 h3=>?_⟩
  obtain⟨j,hj,hv⟩:=aqb h2;obtain⟨hN,hm⟩:=aeq C.src h1 hj;obtain⟨mo,_,hlo⟩:=I.loc;have vis:Vis X.env.scope x:=by
   rcases C.out x hm with e |e
   ·exact .inr (.inl e)
   ·exact .inr (.inr e)
  obtain⟨u,r,l⟩:=hlo j x v hN hv vis;refine⟨u,r,.inr ⟨?_,?_⟩⟩
  ·rcases aam (env:=X.env) (C.frk x hm) with e |e
   ·exact .inr e
   ·exact .inl e
  ·rcases l with⟨e,_⟩ |⟨_,c,hc,z⟩
   ·rcases C.out x hm with q |q
    ·rw[q] at e;cases e
    ·rw[q] at e;cases e
   ·obtain⟨o,ho,hd⟩:=z;exact⟨c,(aa8 (C.ne x hm)).trans (aaa hm hc),o,hk c o ho,hd⟩
 cell:=λx c e=>by
  rcases auy e with⟨_,a1⟩ |⟨_,l1⟩
  ·rw[a1];exact⟨_,hc⟩
  ·obtain⟨v,o,ho,hd⟩:=I.cell x c (ju l1);exact⟨v,o,hk c o ho,hd⟩
 free:=I.hok.fresh (aM _)
 freeC:=λx c e=>by
  rcases auy e with⟨_,a1⟩ |⟨_,l1⟩
  ·rw[a1];exact I.hok.fresh (gC _)
  ·exact I.freeC x c (ju l1)
 pin:=λp hp=>absurd (show p∈([]:List (aU×Obj)) from hp) (by simp)
 hok:=I.hok.kept hk
 len:=by
  unfold pick;rw[aC];exact aep C.src
def am8{pins':List (aU×Obj)}{σ':L2.St}{H':Hp}{s':aG}{h'':eF}(I:Inv X qv σ H s)(hf:∀b∈fp,FpOk X qv H b)(J:Inv (cxY y X N scope fr fp s H) pins' σ' H' s')
  (hs:fX s.heap.objs.size s'.heap h''):Inv X qv σ H' { s' with heap:=h'' }:=by
 have k:∀b o,b≠s.heap.objs.size->s'.heap.get? b=ZY o->h''.get? b=ZY o:=λb o hb e=>(hs.2 b hb).trans e
 have old:∀b o,s.heap.get? b=ZY o->b≠s.heap.objs.size:=λb o e=>bH (aN e)
 have un:Un (frs X.stack) fp H H' s.heap h'':=by
  have u:Un (frs X.stack) fp H H' s.heap s'.heap:=J.base;refine⟨λb o e n hb hx=>k b o (old b o e) (u.keep b o e n hb hx),λb o e n hb hx=>?_,u.free,λb o e hx=>?_,u.tups,u.frzs,u.tbls⟩
  ·obtain⟨sl,q⟩:=u.slot b o e n hb hx;exact⟨sl,k b _ (old b o e) q⟩
  ·obtain⟨o',q⟩:=u.there b o e hx;exact⟨o',k b _ (old b o e) q⟩
 have hok:HOk X.prog X.w H' h'':=λb u e=>by
  have nC:∀c z,H' c=ZY z->c≠s.heap.objs.size:=λc z q w=>by
   have f:H' s.heap.objs.size=ZX:=J.free;rw[w,f] at q;cases q
  refine(J.hok b u e).stay (λc v hc q=>k c v ?_ q) (λ_ q=>q) λ_ _ q=>q
  rcases hc with z |z
  ·rw[z];exact nC b u e
  ·exact nC c _ z
 have os:s'.os=s.os:=J.os;refine Inv.call' (s':={ s' with heap:=h'' }) I os un hok J.bare λb hb=>?_
 obtain⟨_,f1,_,f3,f4,f5⟩:=hf b hb;exact⟨f3,f1,f4,f5⟩
end
def axv{X:Cx}{tg iter elt:cZ}{ifs:List cZ}{scope:iZ}{pos:Pos}{wi:TI}{g:TG}{ti:TT}{te:TE}(y:Str)(fr N:List Str)(src:List (Option Nat))(hc:X.calm=ZW)(hi:PI X tg iter wi)
  (hg:∀fp s H,PG (cxY y X N scope fr fp s H) tg g) (ht:∀fp s H,PIf (cxY y X N scope fr fp s H) ifs ti) (he:∀fp s H,PE (cxY y X N scope fr fp s H) elt te)
  (hok:agd y X.env X.N scope fr N src=ZW) (hcf:∀a l,lQ a scope.names l=(y,a)::l) (hkind:scope.kind=.function) (hclos:lJ scope X.env=pure (ut X.env fr))
  (hs:∀x,eQ iter X.env x=pure x):PE X (.ListComp elt [⟨tg,iter,ifs,0⟩] scope pos) (atb wi g ti te src):=by
 have C:=CompOkY.of hok;intro qv s σ H Q I h;rw[eval_ListComp];refine wpAny_comprehension_free (use:=ZX) rfl hs hclos hkind C.loc (bI (hi qv s σ H _ I h) (λv s1 h1=>bI h1 (λitv s2 h2=>?_) λ_ _ e=>e) λ_ _ e=>e)
 obtain⟨it,fp,tn,J,H2,e,I2,T,st2,f2,q2⟩:=h2;subst e;have hd0:H2 s2.heap.objs.size=ZX:=I2.hok.fresh (aM _);obtain⟨W,⟨m0,w0⟩,turn⟩:=q2 s2.heap.objs.size hd0;refine dH ?_;generalize hs3:({ s2 with heap:=s2.heap.push { cls:=.type "list", dict:=ZX,data:=.seq ([]:List aD).toArray } }:aG)=s3
 have keep2:∀b o,s2.heap.get? b=ZY o->s3.heap.get? b=ZY o:=λb o e=>by rw[<-hs3];exact aB _ e
 have I3:Inv X qv σ (upd H2 s2.heap.objs.size (.lst [])) s3:=by
  rw[<-hs3];exact I2.laid (t':=s2.toks) (λb u q=>aB _ q) (aM _) ⟨Nat.zero_le _,[],0,.nil,aW _ rfl⟩
 have ne0:∀b∈fp,b≠s2.heap.objs.size:=λb hb=>by
  obtain⟨o,e,_⟩:=T.obj _ _ st2 b hb;exact bH (aN e)
 have f3:∀b∈fp,FpOk X qv (upd H2 s2.heap.objs.size (.lst [])) b:=λb hb=>⟨by rw[cg (ne0 b hb)];exact(f2 b hb).1,(f2 b hb).2⟩
 have lt3:∀b∈fp,b<s3.heap.objs.size:=λb hb=>by
  obtain⟨o,e,_⟩:=T.obj _ _ st2 b hb;exact aN (keep2 b o e)
 refine ql ?_;rw[hcf];have ok:=cellsFrom_ok scope.names (s3.heap.push { cls:=.type "dict", data:=.dict #[] }) (s3.heap.objs.size+1) [] ⟨λ_ _ hm=>(nomatch hm),uX⟩ (by rw[cQ];exact aM _)
 rw[cQ,hcf] at ok;have hns₁:=(Heap.Ns.new s3.heap (.type "dict")).keeps (pushCells_keeps scope.names _);have keep3:∀b o,s3.heap.get? b=ZY o->(pushCells (s3.heap.push { cls:=.type "dict", data:=.dict #[] }) scope.names).get? b=ZY o:=λb o e=>pushCells_keeps _ _ b o (aB _ e)
 have hcl:=(ok.empty y (s3.heap.objs.size+1) aQ).1;generalize pushCells (s3.heap.push { cls:=.type "dict", data:=.dict #[] }) scope.names=h₁ at hns₁ keep3 hcl ⊢
 have st4:tn 0 h₁:=T.keep _ _ _ st2 λb hb o e=>keep3 b o (keep2 b o e)
 have I4:=am7 (tk:=s3.toks) I3 C hkind f3 lt3 hns₁ keep3 hcl;have loop:=afj (X:=cxY y X N scope fr fp s3 (upd H2 s2.heap.objs.size (.lst []))) (iter:=iter) (scope:=scope) (pos:=pos) (d:=s2.heap.objs.size)
  (R:=compPost (bZ X.prog X.w) X.A X.xe ZX (EP X qv σ Q) (.ref s2.heap.objs.size) s3.heap.objs.size) hc rfl T
  (λH' hn b hb=>⟨hn b hb,bH (lt3 b hb),I4.ok.exfs b hb,.inl hb,(I4.ok.exf b hb).2,λp hp=>absurd (show p∈([]:List (aU×Obj)) from hp) (by simp)⟩)
  (hg fp s3 _) (ht fp s3 _) (he fp s3 _) turn w0 I4 st4 (λb hb=>(f3 b hb).1) (λσ' H' s' I6 qn=>by
   obtain⟨m6,hn6,_⟩:=I6.loc;exact⟨m6,hn6,λh'' hs''=>⟨.ref s2.heap.objs.size,H',am8 I3 f3 I6 hs'',rfl,qn⟩⟩)
 exact codeAny_compStart_list loop (T.self _ 0 _ _ _ st4 loop)
end Mn
namespace Dn
open L2 Mn
def ay6{K:Fg9}{X:Cx}{tgt iter elt:cZ}{pos:Pos}{ifs:List cZ}{scope:iZ}{mi:M (List D)}{bb:D->Ro->Option Ro}{mc:M Bool}{me:M D}(y:Str)(fr N:List Str)(src:List (Option Nat))(hc:X.calm=ZW)(hi:IT K X tgt iter mi)
  (hg:∀fp s H,GV K (cxY y X N scope fr fp s H) tgt bb) (ht:∀fp s H,EIf K (cxY y X N scope fr fp s H) ifs mc) (he:∀fp s H,EV K (cxY y X N scope fr fp s H) elt me)
  (hok:agd y X.env X.N scope fr N src=ZW:=by rfl) (hcf:∀a l,lQ a scope.names l=(y,a)::l:=by intro _ _;rfl) (hkind:scope.kind=.function:=by rfl) (hclos:lJ scope X.env=pure (ut X.env fr):=by rfl)
  (hs:∀x,eQ iter X.env x=pure x:=by intro _;rfl):ER K X (.ListComp elt [⟨tgt,iter,ifs,0⟩] scope pos) (qy src mi bb mc me):=ER.mk λhk=>by
 have hkc:∀fp s H,(cxY y X N scope fr fp s H).K=K:=λ_ _ _=>hk
 refine PE.imp (axv y fr N src hc (hi hk) (λfp s H=>(hg fp s H).go (hkc _ _ _)) (λfp s H=>(ht fp s H).go (hkc _ _ _)) (λfp s H=>(he fp s H).go (hkc _ _ _)) hok hcf hkind hclos hs) ag4
end Dn
namespace L2
section
variable{M:uB}{A:cT}{E:aD->aG->Prop}{s:aG}
structure KeptBut (fs ch:List aU) (h h':eF):Prop where
 keep:∀b o,b∉ch->b∉fs->h.get? b=ZY o->h'.get? b=ZY o
 slot:∀b o,b∉ch->h.get? b=ZY o->∃sl,h'.get? b=ZY { o with slots:=sl }
def KeptBut.trans{fs ch:List aU}{h h1 h2:eF}(a:KeptBut fs ch h h1)(b:KeptBut fs ch h1 h2):KeptBut fs ch h h2 :=
 ⟨λc o n1 n2 e=>b.keep c o n1 n2 (a.keep c o n1 n2 e),λc o n e=>let ⟨_,e1⟩:=a.slot c o n e;let ⟨sl,e2⟩:=b.slot c _ n e1;⟨sl,e2⟩⟩
def KeptBut.sub{fs ch ch':List aU}{h h':eF}(a:KeptBut fs ch h h')(q:∀b∈ch,b∈ch'):KeptBut fs ch' h h' :=
 ⟨λc o n1 n2 e=>a.keep c o (λz=>n1 (q c z)) n2 e,λc o n e=>a.slot c o (λz=>n (q c z)) e⟩
def KeptBut.upd{fs:List aU}{h:eF}{a:aU}{f:Obj->Obj}:KeptBut fs [a] h (h.update a f) :=
 ⟨λb o n _ e=>by rw[bR _ _ (λz=>n (by simp[z]))];exact e,λb o n e=>⟨o.slots,by rw[bR _ _ (λz=>n (by simp[z]))];exact e⟩⟩
def amz{base:eF}{env:Env}{outer:List Env}{L e:aU}{oe:Obj}{vs:Array aD}{head:aD}{hadNext:Bool}{Q:Unit->aG->Prop}
  (hfr:A.frames=ZY (env::outer)) (hl:s.heap.FunFrames base (env::outer)) (hf:env.frame=ZY L) (he:s.heap.get? e=ZY oe) (hd:oe.data=.fields vs) (hsz:1<vs.size)
  (h:∀h' T ts,s.heap.objs.size<=T->KeptBut (frs (env::outer)) [e] s.heap h'->h'.get? e=ZY (oe.mapFields (·.setIfInBounds 1 (.ref T)))->h'.get? T=ZY { cls:=.type "traceback", dict:=ZX,data:=.fields ts }->ts[3]? = ZY (lM L)->Q () { s with heap:=h' }) :
  bU M A (do let a <-frameOf env;let pl <-entryPlaceOf L hadNext;let b <-uF head a .none (lM L) .none pl;setField (.ref e) 1 b) Q E s:=by
 have hene:e∉frs (env::outer):=λhm=>by
  obtain⟨_,o,ho,hnf⟩:=hl.mem hm;rw[he] at ho;injection ho with ho;subst ho;exact hnf vs hd
 refine aA (wpAny_frameOf_fun hfr hl hf λh₁ hs₁=>?_)
 refine aA (wpAny_entryPlaceOf λpl hpl=>?_)
 unfold uF newFields;refine aA (dH ?_ (hpl.sizeOk5 _ _ _ _ _));have he₁:h₁.get? e=ZY oe:=(hs₁.2.1 e hene).trans he;have he₂:=aB (h:=h₁) { cls:=.type "traceback", dict:=ZX,data:=.fields ([head,.ref L,.none,lM L,.none]++(if pl.isEmpty then aJ 6 cO else pl)).toArray } he₁
 refine wpAny_setField he₂ hd hsz (h _ h₁.objs.size ([head,.ref L,.none,lM L,.none]++(if pl.isEmpty then aJ 6 cO else pl)).toArray ?_ ?_ ?_ ?_ ?_)
 ·exact tK hs₁.1.symm
 ·have keep:∀b o,b≠e->h₁.get? b=ZY o->((h₁.push { cls:=.type "traceback", dict:=ZX,data:=.fields ([head,.ref L,.none,lM L,.none]++(if pl.isEmpty then aJ 6 cO else pl)).toArray }).update e (pB (·.setIfInBounds 1 (cH h₁.objs.size)))).get? b=ZY o:=λb o hbe hb=>by
   rw[bR _ _ (fO hbe)];exact aB _ hb
  refine⟨λb o n1 n2 hb=>keep b o (λz=>n1 (by simp[z])) ((hs₁.2.1 b n2).trans hb),λb o n hb=>?_⟩
  obtain⟨sl,q⟩:=hs₁.2.2 b o hb;exact⟨sl,keep b _ (λz=>n (by simp[z])) q⟩
 ·exact eU _ he₂ (iK (dJ hd _))
 ·rw[bR _ _ (fO (jJ (aN he₁)))];exact aW h₁ rfl
 ·rcases hpl with rfl |⟨_,_,_,_,_,_,_,rfl⟩ <;> simp
end
structure FlyAt (h:eF) (a:aU) (C:aU) (dx:Option aU) (ch:List aU) (L:aU):Prop where
 obj:∃oe vs,h.get? a=ZY oe/\oe.cls=.ref C/\oe.dict=dx/\oe.data=.fields vs/\1<vs.size /\
  ((vs[1]? = ZY .none/\ch=[a])∨∃T oT ts fl,ch=[a,T]/\vs[1]? = ZY (.ref T)/\T≠a/\h.get? T=ZY oT/\oT.data=.fields ts/\ts[3]? = ZY fl/\(fl=.none∨fl=lM L))
def FlyAt.fresh{h:eF}{a C L:aU}{dx:Option aU}{ch:List aU}(x:FlyAt h a C dx ch L):a∈ch:=by
 obtain⟨oe,vs,_,_,_,_,_,⟨_,e⟩ |⟨T,_,_,_,e,_⟩⟩:=x.obj <;> simp[e]
section
variable{M:uB}{A:cT}{E:aD->aG->Prop}{s:aG}
def adw(o:Obj)(f):(o.mapFields f).dict=o.dict:=by
 obtain⟨c,d,dt,sl⟩:=o;cases dt <;> rfl
def a67{base:eF}{env:Env}{outer:List Env}{L a C:aU}{dx:Option aU}{ch:List aU}{Q:Unit->aG->Prop}
  (hfr:A.frames=ZY (env::outer)) (hl:s.heap.FunFrames base (env::outer)) (hf:env.frame=ZY L) (x:FlyAt s.heap a C dx ch L)
  (h:∀h' T oT ts oe vs,(T∈ch∨s.heap.objs.size<=T)->KeptBut (frs (env::outer)) ch s.heap h'->h'.get? a=ZY oe->oe.cls=.ref C->oe.dict=dx->oe.data=.fields vs->1<vs.size->vs[1]? = ZY (.ref T)->T≠a->h'.get? T=ZY oT->oT.data=.fields ts->ts[3]? = ZY (lM L)->Q () { s with heap:=h' }) :
  bU M A (noteFrame (.ref a) env) Q E s:=by
 obtain⟨oe,vs,he,hc,hdx,hd,hsz,alt⟩:=x.obj;unfold noteFrame;simp only[hf];rcases alt with⟨h1,rfl⟩ |⟨T,oT,ts,fl,rfl,h1,hTa,hT,hdT,h3,hfl⟩
 ·refine aA (dB he hd h1 ?_);rw[if_neg (by decide)]
  refine amz hfr hl hf he hd hsz λh' T ts hT k e1 e2 e3=>?_
  refine h h' T _ ts _ _ (.inr hT) k e1 (by rw[pU];exact hc) (by rw[adw];exact hdx) (dJ hd _) (by simpa using hsz) (by simp[hsz]) ?_ e2 rfl e3
  exact jJ (bN (aN he) hT)
 ·refine aA (dB he hd h1 ?_);rw[if_pos (show(cH T != cO)=ZW from by simp)]
  refine aA (dB hT hdT h3 ?_);rcases hfl with rfl |rfl
  ·rw[if_neg (show ¬((cO==lM L)=ZW) from by simp[lM])]
   refine aA (wpAny_setField hT hdT (iY.mp h3).1 ?_);have k0:KeptBut (frs (env::outer)) [T] s.heap (s.heap.update T (pB (·.setIfInBounds 3 cO))):=KeptBut.upd;have he':=(bR s.heap (pB (·.setIfInBounds 3 cO)) hTa).trans he;refine amz hfr (hl.of_keeps λb o hb hnf=>?_) hf he' hd hsz λh' T' ts' hT' k e1 e2 e3=>?_
   ·exact⟨o,(bR _ _ λz=>by rw[<-z,hT] at hb;cases hb;exact hnf _ hdT).trans hb,rfl⟩
   ·have hsz':s.heap.objs.size<=T':=by
     have:(s.heap.update T (pB (·.setIfInBounds 3 cO))).objs.size=s.heap.objs.size:=Heap.size_after_update ..
     exact this▸hT'
    refine h h' T' _ ts' _ _ (.inr hsz') ((k0.sub (by simp)).trans (k.sub (by simp))) e1 (by rw[pU];exact hc) (by rw[adw];exact hdx) (dJ hd _) (by simpa using hsz) (by simp[hsz]) ?_ e2 rfl e3
    exact jJ (bN (aN he) hsz')
  ·rw[if_pos (show(lM L==lM L)=ZW from by simp)]
   refine aR (h s.heap T oT ts oe vs (.inl (by simp)) ⟨λ_ _ _ _ e=>e,λ_ o _ e=>⟨o.slots,e⟩⟩ he hc hdx hd hsz h1 hTa hT hdT h3)
def a7s{base:eF}{env:Env}{outer:List Env}{L a C:aU}{dx:Option aU}{ch:List aU}{Q:Unit->aG->Prop}
  (hfr:A.frames=ZY (env::outer)) (hl:s.heap.FunFrames base (env::outer)) (hf:env.frame=ZY L) (x:FlyAt s.heap a C dx ch L)
  (h:∀h' ch',(∀b∈ch',b∈ch∨s.heap.objs.size<=b)->KeptBut (frs (env::outer)) ch s.heap h'->(∀L',FlyAt h' a C dx ch' L')->Q () { s with heap:=h' }) :
  bU M A (leaving env (.ref a)) Q E s:=by
 unfold leaving;refine aA (a67 hfr hl hf x λh' T oT ts oe vs hT k e1 e2 e3 e4 e5 e6 e7 e8 e9 e10=>?_)
 unfold setFlight;refine aA (dB e1 e4 e6 ?_);rw[if_pos (show(cH T != cO)=ZW from by simp)]
 have hsz3:3<ts.size:=(iY.mp e10).1;refine wpAny_setField e8 e9 hsz3 (h _ [a,T] (λb hb=>?_) ?_ λL'=>⟨oe,vs,(bR _ _ e7).trans e1,e2,e3,e4,e5,.inr ⟨T,_,_,.none,rfl,e6,e7,eU _ e8 (iK (dJ e9 _)),dJ e9 _,by simp[hsz3],.inl rfl⟩⟩)
 ·have:b=a∨b=T:=by simpa using hb
  rcases this with rfl |rfl
  ·exact .inl x.fresh
  ·exact hT
 ·rcases hT with hT |hT
  ·exact k.trans (KeptBut.upd.sub (by simp[hT]))
  ·refine⟨λb o n1 n2 e=>?_,λb o n e=>?_⟩
   ·rw[bR _ _ λz=>absurd (aN e) (by rw[<-z];exact jZ.mpr hT)]
    exact k.keep b o n1 n2 e
   ·obtain⟨sl,q⟩:=k.slot b o n e;exact⟨sl,by rw[bR _ _ λz=>absurd (aN e) (by rw[<-z];exact jZ.mpr hT)];exact q⟩
end
end L2
namespace Dn
open L2 Mn
def a4o(F:Hp)(dx:Option aU)(fs:List (Str×Int)):Prop:=(dx=ZX/\fs=[])∨∃d,dx=ZY d/\F d=ZY (.xd (fs.map λp=>(p.1,V.int p.2)))
structure ClsOk (K:Fg9) (c:Str) (C:aU):Prop where
 ns:nsIn K aX c=ZY (ZY (.ref C))
 ok:ExcK K C
def FpX(X:Cx)(qv:List (aU×Obj))(H:Hp)(b:aU):Prop :=
 H b=ZX/\b≠X.env.locals/\b∉X.fs/\(b∈X.ex∨X.s₀.heap.get? b=ZX)/\(∀x c,X.env.cells.lookup x=ZY c->c≠b)/\∀p∈X.pn++qv,p.1≠b
section
variable{X:Cx}{qv:List (aU×Obj)}{σ:L2.St}{H H':Hp}{s:aG}
def Inv.fpX{b:aU}(I:Inv X qv σ H s)(hb:s.heap.get? b=ZX)(hn:H' b=ZX):FpX X qv H' b:=by
 have no:∀{o},s.heap.get? b=ZY o->False:=λe=>by rw[hb] at e;cases e
 refine⟨hn,λz=>?_,λz=>?_,?_,λx c e z=>?_,λp hp z=>?_⟩
 ·obtain⟨m,⟨o,_,_,ho,_⟩,_⟩:=I.loc;rw[<-z] at ho;exact no ho
 ·obtain⟨_,o,ho,_⟩:=I.funs.mem z;exact no ho
 ·by_cases hx:b∈X.ex
  ·exact .inl hx
  ·refine .inr ?_;cases e:X.s₀.heap.get? b with
   |none=>rfl
   |some o=>
    obtain⟨o',e'⟩:=I.base.there b o e hx;exact(no e').elim
 ·obtain⟨v,o,ho,_⟩:=I.cell x c e;rw[z] at ho;exact no ho
 ·have:=(I.pin p hp).1;rw[z] at this;exact no this
def Inv.records{h':eF}{ch:List aU}(I:Inv X qv σ H s)(k:KeptBut (frs X.stack) ch s.heap h')(hch:∀b∈ch,FpX X qv H b):Inv X qv σ H { s with heap:=h' }:=by
 have nt:∀c z,H c=ZY z->c∉ch/\c∉frs X.stack:=λc z q=>⟨(λm=>by have:=(hch c m).1;rw[q] at this;cases this),(λm=>by have:=I.stkFree c m;rw[q] at this;cases this)⟩
 have nb:∀b o,X.s₀.heap.get? b=ZY o->b∉X.ex->b∉ch:=λb o e hx m=>by
  rcases(hch b m).2.2.2.1 with z |z
  ·exact hx z
  ·rw[z] at e;cases e
 have nl:∀b o,X.s₀.heap.get? b=ZY o->b∉X.fs->b∉frs X.stack:=λb o e hf m=>by
  rcases bF.mp (I.stkSub b m) with z |z
  ·exact absurd (aN e) (by rw[z];exact jZ.mpr I.ok.above)
  ·exact hf z
 have cellK:∀x c,X.env.cells.lookup x=ZY c->∀v,s.heap.IsCell c v->h'.IsCell c v:=λx c e v hq0=>by
  obtain⟨o,ho,hd⟩:=hq0;obtain⟨sl,q⟩:=k.slot c o (λm=>(hch c m).2.2.2.2.1 x c e rfl) ho
  exact⟨_,q,hd⟩
 refine⟨I.ok,I.os,I.bare,⟨λb o e n hb hx=>k.keep b o (nb b o e hx) (nl b o e hb) (I.base.keep b o e n hb hx),λb o e n hb hx=>?_,I.base.free,λb o e hx=>?_,I.base.tups,I.base.frzs,I.base.tbls⟩,?_,λx c e=>?_,I.free,I.freeC,λp hp=>?_,λb u e=>?_,I.len⟩
 ·obtain⟨sl,e1⟩:=I.base.slot b o e n hb hx;obtain⟨sl',e2⟩:=k.slot b _ (nb b o e hx) e1;exact⟨sl',e2⟩
 ·obtain⟨o',e1⟩:=I.base.there b o e hx;obtain⟨sl,e2⟩:=k.slot b o' (nb b o e hx) e1;exact⟨_,e2⟩
 ·obtain⟨m,⟨o,es,ep,ho,r⟩,hl⟩:=I.loc;obtain⟨sl,q⟩:=k.slot _ o (λm=>(hch _ m).2.1 rfl) ho
  refine⟨m,⟨_,es,ep,q,r⟩,λi x v e1 e2 e3=>?_⟩
  obtain⟨u,rv,l⟩:=hl i x v e1 e2 e3;refine⟨u,rv,?_⟩;rcases l with l |⟨kk,c,e,z⟩
  ·exact .inl l
  ·exact .inr ⟨kk,c,e,cellK x c e _ z⟩
 ·obtain⟨v,z⟩:=I.cell x c e;exact⟨v,cellK x c e v z⟩
 ·obtain⟨e,n,ne,nf,d⟩:=I.pin p hp;refine⟨k.keep p.1 p.2 (λm=>(hch _ m).2.2.2.2.2 p hp rfl) (λm=>?_) e,n,ne,nf,d⟩
  rcases bF.mp (I.stkSub _ m) with z |z
  ·exact ne z
  ·exact nf z
 ·refine(I.hok b u e).stay (λc v hc q=>?_) (λ_ q=>q) λ_ _ q=>q
  rcases hc with z |z
  ·rw[z] at q ⊢;exact k.keep _ _ (nt b u e).1 (nt b u e).2 q
  ·exact k.keep _ _ (nt c _ z).1 (nt c _ z).2 q
end
def FlyX(K:Fg9)(X:Cx)(qv:List (aU×Obj))(x:Exn)(F H:Hp)(h:eF)(e:aD):Prop :=
 ∃a C dx ch,e=.ref a/\ClsOk K x.cls C/\a4o F dx x.fs/\FlyAt h a C dx ch X.env.locals/\∀b∈ch,FpX X qv H b
def RX(K:Fg9)(X:Cx)(qv:List (aU×Obj))(tg:Nat->aU)(ρ:Ro)(σ:L2.St)(F H:Hp)(x:Exn)(ρ':Ro)(e:aD)(s':aG):Prop :=
 ∃σ' H' F',Inv X qv σ' H' s'/\Good K tg F' H' ρ' σ'/\Ext (Own ρ σ) (Own ρ' σ') F H F' H'/\FlyX K X qv x F' H' s'.heap e
def RX.back{K:Fg9}{X:Cx}{qv:List (aU×Obj)}{tg:Nat->aU}{ρ ρ1 ρ':Ro}{σ σ1:L2.St}{F H F1 H1:Hp}{x:Exn}{e:aD}{s':aG}(q:Ext (Own ρ σ) (Own ρ1 σ1) F H F1 H1)(h:RX K X qv tg ρ1 σ1 F1 H1 x ρ' e s'):RX K X qv tg ρ σ F H x ρ' e s' :=
 let ⟨σ',H',F',I,G,y,f⟩:=h;⟨σ',H',F',I,G,q.trans y,f⟩
abbrev XGo(K:Fg9)(X:Cx)(α:Type)(c:Sem α)(m:Ro->Option (Exn×Ro)):Prop :=
 X.K=K->X.xe=(λ_ _=>False)->∀qv s σ H tg F ρ x ρ',Inv X qv σ H s->Good K tg F H ρ σ->m ρ=ZY (x,ρ')->bU (bZ X.prog X.w) X.A c (λ_ _=>False) (RX K X qv tg ρ σ F H x ρ') s
def exE{α:Type}(m:M α):Ro->Option (Exn×Ro):=λρ=>match m ρ with
 |some (.exc x,ρ')=>ZY (x,ρ')
 |_=>ZX
def exS(g:Sd):Ro->Option (Exn×Ro):=λρ=>match g ρ with
 |some (.exc x,ρ')=>ZY (x,ρ')
 |_=>ZX
def vf{α:Type}{m:M α}{ρ ρ':Ro}{x:Exn}:exE m ρ=ZY (x,ρ')↔m ρ=ZY (.exc x,ρ'):=by
 unfold exE;split
 ·rename_i y ρ1 e;rw[e];constructor
  ·intro h;cases h;rfl
  ·intro h;cases h;rfl
 ·rename_i hn;constructor
  ·intro h;cases h
  ·intro h;exact absurd h (hn x ρ')
def zb{g:Sd}{ρ ρ':Ro}{x:Exn}:exS g ρ=ZY (x,ρ')↔g ρ=ZY (.exc x,ρ'):=by
 unfold exS;split
 ·rename_i y ρ1 e;rw[e];constructor
  ·intro h;cases h;rfl
  ·intro h;cases h;rfl
 ·rename_i hn;constructor
  ·intro h;cases h
  ·intro h;exact absurd h (hn x ρ')
structure XE (K:Fg9) (X:Cx) (e:cZ) {α:Type} (m:M α):Prop where
 go:XGo K X aD (eval e X.env) (exE m)
structure XA (K:Fg9) (X:Cx) (es:List cZ) {α:Type} (m:M α):Prop where
 go:∀(pos:Pos),XGo K X (List aD) (spliced (fV pos (aO es X.env))) (exE m)
structure XS (K:Fg9) (X:Cx) (st:fD) (g:Sd):Prop where
 go:XGo K X Flow (exec st X.env) (exS g)
structure XSs (K:Fg9) (X:Cx) (ss:List fD) (g:Sd):Prop where
 go:XGo K X Flow (execs ss X.env) (exS g)
def NoX{α:Type}(m:M α):Prop:=∀ρ x ρ',m ρ≠ZY (.exc x,ρ')
def NoS(g:Sd):Prop:=∀ρ x ρ',g ρ≠ZY (.exc x,ρ')
section
variable{K:Fg9}{X:Cx}{e a b c:cZ}{es:List cZ}{pos p:Pos}{st:fD}{ss:List fD}
def XE.no{α:Type}{m:M α}(h:NoX m):XE K X e m:=⟨λ_ _ qv s σ H tg F ρ x ρ' I G em=>absurd (vf.mp em) (h ρ x ρ')⟩
def XS.no{g:Sd}(h:NoS g):XS K X st g:=⟨λ_ _ qv s σ H tg F ρ x ρ' I G em=>absurd (zb.mp em) (h ρ x ρ')⟩
def a0m{α:Type}{m:M α}{k:α->Sd}{ρ ρ':Ro}{x:Exn}(h:dM m k ρ=ZY (.exc x,ρ')):m ρ=ZY (.exc x,ρ')∨∃a ρ1,m ρ=ZY (.ok a,ρ1)/\k a ρ1=ZY (.exc x,ρ'):=by
 unfold dM at h;split at h
 ·exact .inr ⟨_,_,by assumption,h⟩
 ·cases h;exact .inl (by assumption)
 ·cases h
def abv{α β:Type}{m:M α}{k:α->M β}{ρ ρ':Ro}{x:Exn}(h:m.bind k ρ=ZY (.exc x,ρ')):m ρ=ZY (.exc x,ρ')∨∃a ρ1,m ρ=ZY (.ok a,ρ1)/\k a ρ1=ZY (.exc x,ρ'):=by
 unfold M.bind at h;split at h
 ·exact .inr ⟨_,_,by assumption,h⟩
 ·cases h;exact .inl (by assumption)
 ·cases h
def XA.no{α:Type}{m:M α}(h:NoX m):XA K X es m:=⟨λ_ _ _ qv s σ H tg F ρ x ρ' I G em=>absurd (vf.mp em) (h ρ x ρ')⟩
def ag9:XSs K X [] dNx:=⟨λ_ _ qv s σ H tg F ρ x ρ' I G em=>by cases em⟩
def j4{g:Sd}(h:XS K X st g):XSs K X [st] g:=⟨λhk hn qv s σ H tg F ρ x ρ' I G em=>wpAny_execs_cons (bI (h.go hk hn qv s σ H tg F ρ x ρ' I G em) (λ_ _ z=>z.elim) λ_ _ z=>z)⟩
def zq{g k:Sd}(h:SV K X st g)(hx:XS K X st g)(t:XSs K X ss k):XSs K X (st::ss) (dSeq g k):=⟨λhk hn qv s σ H tg F ρ x ρ' I G em=>by
 have em:=zb.mp em;unfold dSeq at em;split at em
 ·rename_i ρ1 e1;refine wpAny_execs_cons (bI (h.go hk qv s σ H { nx:=λσ1 H1=>∃F1,Good K tg F1 H1 ρ1 σ1/\Ext (Own ρ σ) (Own ρ1 σ1) F H F1 H1,rt:=λ_ _=>False } I ⟨tg,F,ρ,.nx,ρ1,G,e1,λσ' H' F' G' x=>⟨F',G',x⟩⟩) (λf s1 q=>?_) λe s1 q=>by rw[hn] at q;exact q.elim)
  cases f with
  |next=>
   obtain⟨σ1,H1,I1,F1,G1,x1⟩:=q;exact bI (t.go hk hn qv s1 σ1 H1 tg F1 ρ1 x ρ' I1 G1 (zb.mpr em)) (λ_ _ z=>z.elim) λ_ _ z=>z.back x1
  |ret v=>obtain⟨_,_,_,_,_,z⟩:=q;exact z.elim
  |brk=>obtain⟨_,_,_,z⟩:=q;exact z.elim
  |cont=>obtain⟨_,_,_,z⟩:=q;exact z.elim
 ·exact wpAny_execs_cons (bI (hx.go hk hn qv s σ H tg F ρ x ρ' I G (zb.mpr em)) (λ_ _ z=>z.elim) λ_ _ z=>z)⟩
def uv{α:Type}{m:M α}(h:XE K X e m)(hs:gF e ZX pos.line X.env=pure ZV:=by rfl):XS K X (.Expr e pos) (yp m):=⟨λhk hn qv s σ H tg F ρ x ρ' I G em=>by
 rcases a0m (zb.mp em) with em |⟨_,_,_,em⟩
 ·exact wpAny_Expr_any (bI (h.go hk hn qv s σ H tg F ρ x ρ' I G (vf.mpr em)) (λ_ _ z=>z.elim) λ_ _ z=>z) I.quiet hs
 ·cases em⟩
def akn{m:M Bool}{g k:Sd}{ss':List fD}(h:ET K X c m)(hm:NoX m)(h1:XSs K X ss g)(h2:XSs K X ss' k):XS K X (.If c ss ss' pos) (dIf m g k):=⟨λhk hn qv s σ H tg F ρ x ρ' I G em=>by
 rcases a0m (zb.mp em) with em |⟨z,ρ1,e1,em⟩
 ·exact absurd em (hm _ _ _)
 ·refine wpAny_If (bI (h.go hk qv s σ H (λb H1=>b=z/\∃F1,Good K tg F1 H1 ρ1 σ/\Ext (Own ρ σ) (Own ρ1 σ) F H F1 H1) I ⟨tg,F,ρ,z,ρ1,G,e1,λH' F' G' x=>⟨rfl,F',G',x⟩⟩) (λd s1 ⟨H1,I1,hz,F1,G1,x1⟩=>?_) λe s1 q=>by rw[hn] at q;exact q.elim)
  subst hz;cases d with
  |true=>exact bI (h1.go hk hn qv s1 σ H1 tg F1 ρ1 x ρ' I1 G1 (zb.mpr em)) (λ_ _ z=>z.elim) λ_ _ z=>z.back x1
  |false=>exact bI (h2.go hk hn qv s1 σ H1 tg F1 ρ1 x ρ' I1 G1 (zb.mpr em)) (λ_ _ z=>z.elim) λ_ _ z=>z.back x1⟩
def CX1(P:cA)(w:dU):CXT:=λouter H s E e s'=>∃H' a C dx ch,e=.ref a/\s'.os=s.os/\oK s'.gens/\Un (frs outer) [] H H' s.heap s'.heap/\HOk P w H' s'.heap /\
 (∀L',FlyAt s'.heap a C dx ch L')/\(∀b∈ch,s.heap.get? b=ZX/\H' b=ZX)/\E (.ref C) dx H'
def spX(K:Fg9)(n:Nat)(f:Fd):Sp:=λvs H _ E=>vs.length=n/\∃F as x ps,Good K (tgOf (vs.map ZY)) F H as (vs.map ZY)/\f as=ZY (.exc x,ps) /\
 ∀C dx H' F' O',Same F' H'->Ext (Own as (vs.map ZY)) O' F H F' H'->Fin K F' H' (vs.map ZY) ps O'->ClsOk K x.cls C->a4o F' dx x.fs->E (.ref C) dx H'
def DfnX(P:cA)(w:dU)(K:Fg9)(mg:Str->Option aD)(base:eF)(x:Str)(ps:List Str)(k:Nat)(sp:Sp):Prop :=
 ∃(f:aU) (fd:dR),FnOk P w K mg base (CX1 P w) k f fd ps sp/\mg x=ZY (.ref f)/\jW K (.ref f)=ZW/\Binds K fd ps []
def a2x{f:Fd}{js:List (Option Nat)}{ms:M (List (Option D))}{ρ ρ':Ro}{x:Exn}(h:mFn f js ms ρ=ZY (.exc x,ρ')) :
  ms ρ=ZY (.exc x,ρ')∨∃ds ρ1 ps,ms ρ=ZY (.ok ds,ρ1)/\okJs ρ1 js=ZW/\f (lend ρ1 js ds)=ZY (.exc x,ps)/\ρ'=putB ρ1 js ps:=by
 rcases abv h with h |⟨ds,ρ1,e1,em⟩
 ·exact .inl h
 ·split at em
  ·rename_i hj;split at em
   ·cases em
   ·rename_i y ps e2;cases em;exact .inr ⟨ds,ρ1,ps,e1,hj,e2,rfl⟩
   ·cases em
  ·cases em
def aem{f:Fd}{n k:Nat}{x:Str}{pn:List Str}{js:List (Option Nat)}{ms:M (List (Option D))}(F:DfnX X.prog X.w X.K X.mg X.base x pn k (spX K n f))(hr:Room k X.A)(hg:Gl X x)(ha:EG K X (e::es) js ms)(hxa:XA K X (e::es) ms)(hn:js.length=n:=by rfl)(hdb:Zb x:=by decide)
  (he:Zc X e es:=by rfl) (hpl:(fV pos (aO es X.env)).any (·.1)=ZV:=by rfl):XE K X (.Call (.Name x p) (e::es) [] pos) (mFn f js ms):=⟨λhk hno qv s σ H tg F0 ρ y ρ' I G em=>by
 obtain⟨fa,fd,Fo,hm,hkp,hb⟩:=F;refine wpAny_Call_Name_kw (aec I hg hm ?_ hdb);rcases a2x (vf.mp em) with em |⟨ds,ρ1,ps,e1,hj,e2,rfl⟩
 ·exact iI (h₀:=X.base) I.ok.mod.kin hkp (bI (hxa.go pos hk hno qv s σ H tg F0 ρ y ρ' I G (vf.mpr em)) (λ_ _ z=>z.elim) λ_ _ z=>z) he hpl
 ·refine iI (h₀:=X.base) I.ok.mod.kin hkp (bI (ha.go hk pos qv s σ H (λvs H1=>∃F1,Good K tg F1 H1 ρ1 σ/\Ext (Own ρ σ) (Own ρ1 σ) F0 H F1 H1/\AR K F1 σ js ds vs) I ⟨tg,F0,ρ,ds,ρ1,G,e1,λvs H1 F1 G1 x1 ar=>⟨F1,G1,x1,ar⟩⟩) (λus s1 ⟨vs,H1,I1,r,F1,G1,x1,ar⟩=>⟨I1.kIn,?_⟩) λe s1 q=>by rw[hno] at q;exact q.elim) he hpl
  have L:=ar.lent;have hl:(us++[]).length=pn.length:=by
   rw[eG,<-r.length];exact Fo.len vs H1 (λ_ _=>True) (λ_ _ _=>True) ⟨by rw[ar.length];exact hn,F1,_,y,ps,aad G1 hj L,e2,λ_ _ _ _ _ _ _ _ _ _=>trivial⟩
  have hbn:=hb s1 us I1.kIn hl;rw[eG] at hbn;refine wpAny_call (codeAny_mono (Fo.run X.A X.stack s1 H1 ⟨[]++us,[]⟩ us vs (λ_ _=>False) (λcv dx H2=>∃C F2,cv=.ref C/\Good K tg F2 H2 (putB ρ1 js ps) σ/\Ext (Own ρ σ) (Own (putB ρ1 js ps) σ) F0 H F2 H2/\ClsOk K y.cls C/\a4o F2 dx y.fs) hr I1.env0 hbn r
   ⟨by rw[ar.length];exact hn,F1,_,y,ps,aad G1 hj L,e2,λC dx H2 F2 O2 s2 x2 fin hc hf=>⟨C,F2,rfl,ac3 G1 L x2 s2 fin,x1.trans (afn G1 L x2),hc,hf⟩⟩) λr s' hq=>?_)
  cases r with
  |ok fl=>
   cases fl with
   |ret u=>obtain⟨_,_,_,_,_,_,_,z⟩:=hq;exact z.elim
   |next=>exact dI hq
   |brk=>exact dI hq
   |cont=>exact dI hq
  |error er=>
   obtain⟨H',a,C,dx,ch,rfl,os,bare,un,hok,fl,hch,C',F2,ce,G2,x2,hc,hf⟩:=hq;cases ce;exact⟨σ,H',F2,I1.call' os un hok bare (λb z=>absurd z (by simp)),G2,x2,a,C,dx,ch,rfl,hc,hf,fl _,λb hb=>Inv.fpX I1 (hch b hb).1 (hch b hb).2⟩⟩
end
def fn_x{K:Fg9}{P:cA}{w:dU}{mg:Str->Option aD}{base:eF}{x qual:Str}{st:fD}{f:aU}{fd:dR}{N ps:List Str}{k nl np:Nat}{g:Sd}(F:Fun K x qual st f fd)(S:FnScope N ps (ao st))(h1:N.length=nl)(h2:ps.length=np)
  (body:∀(cdv:aD) (A:cT) (outer:List Env) (s:aG) (H:Hp) (E:XK),Room k (A.deeper (lO qual (ao st) s.heap.objs.size f cdv))->XSs K (cxOf CX0 P w K mg base N qual (ao st) f cdv A outer s H E).nox (je st) g) :
  FnOk P w K mg base (CX1 P w) (k+1) f fd ps (spX K np (fnD nl np g)):=by
 subst h1 h2;obtain⟨oc,od,kV,doc,pm,an,cdv,ct,osl,rfl,lk,hcd⟩:=F.ex;refine a8c lk hcd S (λvs H Q E h=>h.1) λA outer s H vs Q E hr hsp=>?_
 obtain⟨hn,F0,as,y,ps',G,em,q⟩:=hsp;have hl:as.length=(vs.map ZY).length:=G.len;have G1:=G.app (N.length-vs.length);have es:start N vs=vs.map ZY++aJ (N.length-vs.length) ZX:=rfl;unfold fnD at em;rw[<-hn] at em;have fin:∀{ρ':Ro} {σ':L2.St} {F' H':Hp},Good K (tgOf (vs.map ZY)) F' H' ρ' σ'->Fin K F' H' (vs.map ZY) (ρ'.take vs.length) (Own ρ' σ'):=λ{ρ' σ' F' H'} G'=>⟨λi l e=>by
  have hi:=(aH.mp e).1;rw[eX] at hi;rw[fM (by omega)] at e
  obtain⟨o,ho,a,ws,rfl,hf,hh,hl,ht⟩:=G'.at e;rw[ht i rfl];exact⟨⟨i,⟨_,_,e⟩,ho⟩,hf,ws,hh,hl⟩⟩
 refine⟨λ_ σ0 H0=>σ0=start N vs/\H0=H,λqv s1 σ0 H0 D I hs=>?_,rfl,rfl⟩
 obtain⟨hs1,hs2⟩:=hs;subst hs2;rw[hs1,es] at I;split at em
 ·cases em
 ·cases em
 ·rename_i y' ρ' e;cases em;have run:=(body cdv A outer s H0 E hr).go rfl rfl qv s1 _ H0 (tgOf (vs.map ZY)) F0 _ y ρ' (I.wish _) G1 (zb.mpr e);refine bI run (λ_ _ z=>z.elim) λer s' z9=>?_
  obtain⟨σ',H',F',J,G',x',a,C,dx,ch,e1,hc,hf,fl,hch⟩:=z9;subst e1;rw[ul hl] at x';show bU _ _ (leaving _ (.ref a)) _ _ s';refine a7s J.ok.frames J.stack rfl fl λh' ch' hc' kb fl'=>?_
  have J2:=Inv.records J kb hch;have hsz:s.heap.objs.size<=s'.heap.objs.size:=J.sz;refine⟨H',a,C,dx,ch',rfl,J.os,J.bare,J2.base,J2.hok,fl',λb hb=>?_,q C dx H' F' (Own ρ' σ') G'.sub x' (fin G') hc hf⟩
  rcases hc' b hb with z |z
  ·obtain⟨f1,_,_,f3,_⟩:=hch b z;rcases f3 with f3 |f3
   ·exact absurd (show b∈([]:List aU) from f3) (by simp)
   ·exact⟨f3,f1⟩
  ·exact⟨Heap.get?_none_of_le (cW hsz z),J.hok.fresh z⟩
 ·cases em
theorem aum{P:cA}{w:dU}{H:Hp}{h:eF}{a:aU}{o:HO}(x:yt P w H h a o):∃ob,h.get? a=ZY ob:=by
 cases o with
 |lst xs=>obtain⟨_,_,_,_,e⟩:=x;exact⟨_,e⟩
 |tup xs=>obtain⟨_,_,_,ob,e,_⟩:=x;exact⟨_,e⟩
 |dK kvs=>obtain⟨_,_,_,_,o,_,_,e,_⟩:=x;exact⟨_,e⟩
 |dT kvs=>obtain⟨_,_,_,_,o,_,_,e,_⟩:=x;exact⟨_,e⟩
 |set S n=>obtain⟨o,_,_,_,e,_⟩:=x;exact⟨_,e⟩
 |ins C dx fs=>obtain⟨_,_,_,e,_⟩:=x;exact⟨_,e⟩
 |own y=>exact x
 |xd fs=>obtain⟨_,⟨_,_,_,e,_⟩,_⟩:=x;exact⟨_,e⟩
 |rng lo hi=>obtain⟨_,_,_,e⟩:=x;exact⟨_,e⟩
 |frz ob u=>exact⟨_,x.1⟩
 |tbl ps=>exact⟨_,x⟩
 |met f y=>exact⟨_,x⟩
 |ext φ=>exact x.2.1
abbrev bmV:List aD:=[.type "ValueError", .type "Exception", .type "BaseException", .type "object"]
def a3o{K:Fg9}{h:eF}{C:aU}{bmB:List aD}{newId:String}(X:K.In h)(q:mV K C bmB newId=ZW) :
  ∃bm N nm qn bs hdct sn sub ab col dd k0 k1 k2 k3 k5 mN,h.get? C=ZY (excClassObj nm qn C N bs bm hdct sn sub ab col dd k0 k1 k2 k3 k5 newId)/\h.Ns N mN/\mN "__init__"=ZX/\OwnTail h bmB bm:=by
 unfold mV at q;split at q
 ·rename_i dd cd sl ho;split at q
  ·rename_i C' bm k0 k1 k2 k3 n k5 hm hs;simp only[bD,beq_iff_eq,Bool.not_eq_true'] at q;obtain⟨⟨⟨⟨⟨e1,e2⟩,e3⟩,e4⟩,e5⟩,e6⟩:=q;subst e1 e2;obtain⟨nm,bs,mro,ns,qn,hd,sn,sub,ab,col,del⟩:=cd;have hm:mro=_:=hm;have e3:del=ZV:=e3;subst hm e3;have z:sl = #[k0,k1,k2,k3,ZY (.builtin n),k5]:=vK.mp hs;subst z;exact⟨bm,ns,nm,qn,bs,hd,sn,sub,ab,col,dd,k0,k1,k2,k3,k5,h.nsMap ns,X _ _ ho,.of_isNs (PySem.W.isNs_of_in X e5),PySem.W.nsMap_none_of_in X e5 e6,PySem.W.tail_of_in X e4⟩
  ·cases q
 ·cases q
def aiz(x:Exn):Sd:=λρ=>ZY (.exc x,ρ)
section
variable{K:Fg9}{X:Cx}{c:Str}{C:aU}{np cpos pos:Pos}
def as3(hcalm:X.calm=ZW)(hg:Gl X c)(hm:X.mg c=ZY (.ref C))(k:ClsOk X.K c C)(q:mV X.K C bmV "ValueError.__new__"=ZW)(hd:(c==("__debug__" : Str))=ZV:=by decide) :
  XS K X (.Raise (ZY (.Call (.Name c np) [] [] cpos)) ZX pos) (aiz ⟨c,[]⟩):=⟨λhk hn qv s σ H tg F ρ x ρ' I G em=>by
 have em:=zb.mp em;cases em;subst hk;obtain⟨tl,N,nm,qn,bs,hdct,sn,sub,ab,col,dd,k0,k1,k2,k3,k5,mN,hC,hN,hni,T⟩:=a3o I.kIn q;refine wpAny_Raise_call_subU (C:=C) (nm:=nm) (q:=qn) (N:=N) (bs:=bs) (bm:=tl) (hdct:=hdct) (sn:=sn) (sub:=sub) (ab:=ab) (col:=col) (dd:=dd) (k0:=k0) (k1:=k1) (k2:=k2) (k3:=k3) (k5:=k5)
  lY (by decide +kernel) lY (mN:=mN) (T.hasType lY.hasBase) (I.ok.hd hcalm) rfl hni ?_
 refine aec I hg hm ⟨rfl,?_⟩ hd;refine evalArgs_empty ⟨rfl,fJ _,hC,hN,T,λh' e hme=>?_⟩
 obtain⟨t,he,_,_⟩:=hme.there;have J:Inv X qv σ H { s with heap:=h' }:=I.kept (t':=s.toks) hme.keeps
 have hnH:H e=ZX:=by
  cases z:H e with
  |none=>rfl
  |some o=>
   obtain⟨ob,h1⟩:=aum (I.hok e o z);have h2:s.heap.get? e=ZX:=hme.new;rw[h2] at h1;cases h1
 exact⟨σ,H,F,J,G,Ext.refl _ _ _,e,C,ZX,[e],rfl,k,.inl ⟨rfl,rfl⟩,⟨_,_,he,rfl,rfl,rfl,by simp,.inl ⟨rfl,rfl⟩⟩,λb hb=>by
  obtain rfl:=dO.mp hb;exact Inv.fpX I hme.new hnH⟩⟩
end
end Dn
namespace L2
section
variable{X:Cx}{qv:List (aU×Obj)}{σ:List (Option V)}{H:Hp}{s:aG}
def a8r{M:uB}{A:cT}{E:aD->aG->Prop}{i:Nat}{x:Str}{v:V}{Q:Unit->aG->Prop}(I:Inv X qv σ H s)(hN:X.N.Nodup)(hi:X.N[i]? = ZY x)(hk:X.env.scope.names.lookup x=ZY .local)(hv:σ[i]? = ZY (ZY v))
  (h:∀s',Inv X qv (σ.set i ZX) H s'->Q () s'):bU M A (unbindName X.env x) Q E s:=by
 obtain⟨m,hn,hl⟩:=id I.loc;have hcls:(X.env.scope.kind==.class||(X.env.scope.kind==.module&&X.env.locals != X.env.globals))=ZV:=by rw[I.ok.kind];rfl
 have hiσ:i < σ.length:=(aH.mp hv).1;obtain⟨u,_,lk⟩:=hl i x v hi hv (.inl hk);have hmx:∃u,m x=ZY u:=by
  rcases lk with⟨_,e⟩ |⟨k,_⟩
  ·exact⟨u,e⟩
  ·rcases k with k |k
   ·exact absurd (hk.symm.trans k) (by simp)
   ·exact absurd (hk.symm.trans k) (by simp)
 obtain⟨u0,hmx⟩:=hmx;refine wpAny_unbindName_local hk hn hmx hcls λh' u' hn' hs=>h _ ?_
 have ne0:∀b o,X.s₀.heap.get? b=ZY o->b≠X.env.locals:=λb o e=>bH (bN (aN e) I.ok.above)
 refine⟨I.ok,I.os,I.bare,⟨λb o e n hb hx=>(hs.2 b (ne0 b o e)).trans (I.base.keep b o e n hb hx),λb o e n hb hx=>?_,I.base.free,λb o e hx=>?_,I.base.tups,I.base.frzs,I.base.tbls⟩,⟨_,hn',λj y v' e1 e2 e3=>?_⟩,λy c e=>?_,I.free,I.freeC,λp hp=>?_,λb ob e=>?_,by simpa using I.len⟩
 ·obtain⟨sl,e1⟩:=I.base.slot b o e n hb hx;exact⟨sl,(hs.2 b (ne0 b o e)).trans e1⟩
 ·obtain⟨o',e1⟩:=I.base.there b o e hx;exact⟨o',(hs.2 b (ne0 b o e)).trans e1⟩
 ·by_cases hj:j=i
  ·subst hj;rw[jX hiσ] at e2;cases e2
  ·rw[lG (fO hj)] at e2;obtain⟨u',r',q⟩:=hl j y v' e1 e2 e3;refine⟨u',r',?_⟩;rcases q with⟨k,e⟩ |⟨k,c,e,z⟩
   ·refine .inl ⟨k,?_⟩;have:y≠x:=λe=>hj (ale hN e1 (e▸hi))
    simp[this,e]
   ·exact .inr ⟨k,c,e,z.sameBut hs (I.cne y c e)⟩
 ·obtain⟨w',z⟩:=I.cell y c e;exact⟨w',z.sameBut hs (I.cne y c e)⟩
 ·obtain⟨e,n,ne,nf,d⟩:=I.pin p hp;exact⟨(hs.2 p.1 ne).trans e,n,ne,nf,d⟩
 ·have nL:∀c z,H c=ZY z->c≠X.env.locals:=λc z q w=>by
   have:=I.free;rw[<-w,q] at this;cases this
  refine(I.hok b ob e).stay (λc w' hc q=>(hs.2 c ?_).trans q) (λ_ q=>q) λ_ _ q=>q
  rcases hc with z |z
  ·rw[z];exact nL b ob e
  ·exact nL c _ z
end
section
variable{M:uB}{A:cT}{E:aD->aG->Prop}{s:aG}
def a0y{fs:List aU}{a C:aU}{dx:Option aU}{ch:List aU}{L:aU}{Q:Unit->aG->Prop}(x:FlyAt s.heap a C dx ch L)(hT:ch≠[a])
  (h:∀h',KeptBut fs ch s.heap h'->(∀L',FlyAt h' a C dx ch L')->h'.get? a=s.heap.get? a->Q () { s with heap:=h' }):bU M A (setFlight (.ref a) ZX) Q E s:=by
 obtain⟨oe,vs,he,hc,hdx,hd,hsz,⟨_,e⟩ |⟨T,oT,ts,fl,rfl,h1,hTa,hT,hdT,h3,hfl⟩⟩:=x.obj
 ·exact absurd e hT
 ·unfold setFlight;refine aA (dB he hd h1 ?_);rw[if_pos (show(cH T != cO)=ZW from by simp)]
  have hsz3:3<ts.size:=(iY.mp h3).1;refine wpAny_setField hT hdT hsz3 (h _ (KeptBut.upd.sub (by simp)) (λL'=>⟨oe,vs,(bR _ _ hTa).trans he,hc,hdx,hd,hsz,.inr ⟨T,_,_,.none,rfl,h1,hTa,eU _ hT (iK (dJ hdT _)),dJ hdT _,by simp[hsz3],.inl rfl⟩⟩) (bR _ _ hTa))
def aup{base:eF}{env:Env}{outer:List Env}{L a C:aU}{dx:Option aU}{ch:List aU}{Q:Unit->aG->Prop}
  (hfr:A.frames=ZY (env::outer)) (hl:s.heap.FunFrames base (env::outer)) (hf:env.frame=ZY L) (x:FlyAt s.heap a C dx ch L)
  (h:∀h' ch',ch'≠[a]->(∀b∈ch',b∈ch∨s.heap.objs.size<=b)->KeptBut (frs (env::outer)) ch s.heap h'->(∀L',FlyAt h' a C dx ch' L')->Q () { s with heap:=h' }) :
  bU M A (noteFrame (.ref a) env) (λ_ s'=>bU M A (setFlight (.ref a) ZX) Q E s') E s:=by
 refine a67 hfr hl hf x λh' T oT ts oe vs hT k e1 e2 e3 e4 e5 e6 e7 e8 e9 e10=>?_
 unfold setFlight;refine aA (dB e1 e4 e6 ?_);rw[if_pos (show(cH T != cO)=ZW from by simp)]
 have hsz3:3<ts.size:=(iY.mp e10).1;refine wpAny_setField e8 e9 hsz3 (h _ [a,T] (by simp) (λb hb=>?_) ?_ λL'=>⟨oe,vs,(bR _ _ e7).trans e1,e2,e3,e4,e5,.inr ⟨T,_,_,.none,rfl,e6,e7,eU _ e8 (iK (dJ e9 _)),dJ e9 _,by simp[hsz3],.inl rfl⟩⟩)
 ·have:b=a∨b=T:=by simpa using hb
  rcases this with rfl |rfl
  ·exact .inl x.fresh
  ·exact hT
 ·rcases hT with hT |hT
  ·exact k.trans (KeptBut.upd.sub (by simp[hT]))
  ·refine⟨λb o n1 n2 e=>?_,λb o n e=>?_⟩
   ·rw[bR _ _ λz=>absurd (aN e) (by rw[<-z];exact jZ.mpr hT)]
    exact k.keep b o n1 n2 e
   ·obtain⟨sl,q⟩:=k.slot b o n e;exact⟨sl,by rw[bR _ _ λz=>absurd (aN e) (by rw[<-z];exact jZ.mpr hT)];exact q⟩
structure CatK (K:Fg9) (B:aU):Prop where
 cls:(lH K B).isSome=ZW
 ty:oO K (.ref B)=ZY (.type "type")
 base:fQ K (.ref B) (.type "BaseException")=ZY ZW
theorem ayd{K:Fg9}{a C B:aU}{oe:Obj}{b:Bool}{Q:Bool->aG->Prop}(X:K.In s.heap)(k:CatK K B)(he:s.heap.get? a=ZY oe)(hc:oe.cls=.ref C)(hs:fQ K (.ref C) (.ref B)=ZY b)(h:Q b s):bU M A (excMatches (.ref a) (.ref B)) Q E s:=by
 obtain⟨hp,g,d,tk,os⟩:=s;have L0:mW M hp (isInstance (.ref B) (.type "tuple")) ZV:=(PySem.W.looks_typeIn X k.ty).andThen (tH (by rw[isSubtype_type];kernel_rfl))
 have L1:mW M hp (isType (.ref B)) ZW:=by
  have z:=k.cls;unfold lH at z;split at z
  ·rename_i c' d' cd' sl' ho;intro A' Q' E' s' kk q;unfold isType loadHead;exact aA (wpAny_loadPart (kk _ _ (X _ _ ho)) (aR q))
  ·cases z
 have L2:=tZ (M:=M) X k.base;have L3:=tZ (M:=M) X hs;have L4:mW M hp (isExcClass (.ref B)) ZW:=L1.andThen (by rw[if_pos rfl];exact L2)
 have L5:mW M hp (typeOf (.ref a)) (.ref C):=(PySem.W.Looks.ld he).andThen (tH (by rw[hc]))
 unfold excMatches;refine aA (L0.at ?_);simp only[jV,if_false];refine aA (aR ?_);simp only[oE,oV];refine aA (aA (aA (L4.at ?_)));rw[if_neg (by simp)]
 refine aR (aR (aA (L5.at (aA (aA (aA (L3.at ?_)))))));cases b with
 |true=>
  rw[if_pos rfl];exact aR (aR (aR h))
 |false=>
  rw[if_neg cY];exact aR (aR (aR h))
end
end L2
namespace Dn
open L2 Mn
noncomputable def alj(c0 c:Str):Bool:=c0==c||c == "ArrowError" || c == "ValueError"
noncomputable def clsAt(K:Fg9)(c:Str):Option aU:=match nsIn K aX c with
 |some (ZY (.ref C))=>ZY C
 |_=>ZX
def akr(K:Fg9)(ns:List Str):Bool:=ns.all λc0=>match clsAt K c0 with
 |some C0=>(ns.all λc=>match clsAt K c with
  |some C=>fW K (.ref C0) (.ref C)==ZY (alj c0 c)
  |none=>ZV)&&fW K (.ref C0) (.type "ValueError")==ZY ZW
 |none=>ZV
def ag5{K:Fg9}{c:Str}{C:aU}(h:nsIn K aX c=ZY (ZY (.ref C))):clsAt K c=ZY C:=by
 unfold clsAt;rw[h]
def apw{K:Fg9}{ns:List Str}{c0 c:Str}{C0 C:aU}(h:akr K ns=ZW)(h0:ns.contains c0=ZW)(h1:ns.contains c=ZW)(e0:nsIn K aX c0=ZY (ZY (.ref C0)))(e1:nsIn K aX c=ZY (ZY (.ref C))) :
  fW K (.ref C0) (.ref C)=ZY (alj c0 c):=by
 have z:=bK.mp h c0 (dY.mp h0);rw[ag5 e0] at z;have z1:=bK.mp (tU.mp z).1 c (dY.mp h1);rw[ag5 e1] at z1;exact beq_iff_eq.mp z1
def a08{K:Fg9}{ns:List Str}{c0:Str}{C0:aU}(h:akr K ns=ZW)(h0:ns.contains c0=ZW)(e0:nsIn K aX c0=ZY (ZY (.ref C0))):fW K (.ref C0) (.type "ValueError")=ZY ZW:=by
 have z:=bK.mp h c0 (dY.mp h0);rw[ag5 e0] at z;exact beq_iff_eq.mp (tU.mp z).2
def gIsC(ns:List Str)(c:Str):D->Option D
 |.exn c0 _=>if ns.contains c0 then ZY (.bl (alj c0 c)) else ZX
 |_=>ZX
def mIsC(ns:List Str)(c:Str)(m:M D):M D:=m.bind λd=>lift (gIsC ns c d)
section
variable{K:Fg9}{X:Cx}{e:cZ}{pos p:Pos}
theorem ant{X:Cx}{cv:aD}{cV:V}(rc:∀u,RelV cV u->u=cv):afp X (.builtin "isinstance") (λxs H Q=>∃F c0 fs x b,xs=[x,cV]/\Same F H/\Is X.K F (.exn c0 fs) x/\(∀C0,nsIn X.K aX c0=ZY (ZY (.ref C0))->fW X.K (.ref C0) cv=ZY b)/\Q (.bl b) H):=by
 intro qv s σ H xs us Q I r z9;obtain⟨F,c0,fs,x,b,e,g,h,hk1,q⟩:=z9;subst e;obtain⟨u,w',rfl,r1,r2⟩:=vals2 r;obtain rfl:=rc w' r2;have fin:∀tk,EP X qv σ Q (.bool b) { s with toks:=tk }:=λtk=>⟨.bl _,H,I.tok tk,rfl,q⟩
 cases h with
 | @exn a C c dx fs e hc hk hf=>
  cases(show u=cH a from r1)
  obtain⟨⟨oe,ws,h1,h2,h3,h4⟩,_⟩:=(show yt X.prog X.w H s.heap a (.ext (exO a C dx)) from I.hok a _ (g _ _ e))
  have hno:oR oe=ZW:=by unfold oR;rw[h4]
  have ia:∃ox od,kI s.heap a ox C od:=by
   rcases hf with⟨rfl,_⟩ |⟨d,rfl,hd⟩
   ·exact⟨oe,ZX,h1,h2,hno,by rw[h3];trivial⟩
   ·obtain⟨mA,⟨od,_,_,e1,_⟩,_⟩:=(show yt X.prog X.w H s.heap d (.xd _) from I.hok d _ (g _ _ hd))
    exact⟨oe,ZY od,h1,h2,hno,by rw[h3];exact e1⟩
  exact dD (aql hk) I.kIn ia (hk1 C hc) (λz=>nomatch z) fin
theorem a0j{F H:Hp}{d:D}{v:V}{ns:List Str}{c:Str}{r:D}(b:Bor K F H d v)(e:gIsC ns c d=ZY r):∃c0 fs,d=.exn c0 fs/\Is K F (.exn c0 fs) v/\ns.contains c0=ZW/\r=.bl (alj c0 c):=by
 cases d with
 |exn c0 fs=>
  have e:(if ns.contains c0 then ZY (D.bl (alj c0 c)) else ZX)=ZY r:=e
  split at e
  ·rename_i hn;cases e;refine⟨c0,fs,rfl,?_,hn,rfl⟩;rcases b with b |⟨_,_,_,z,_⟩
   ·exact b
   ·cases z
  ·cases e
 |_=>cases e
def a3s{ns:List Str}{c:Str}{C:aU}{m:M D}{x:Str}{pc:Pos}(sub:akr K ns=ZW)(h1:ns.contains c=ZW)(hgC:Gl X c)(hmC:X.mg c=ZY (.ref C))(hnC:nsIn K aX c=ZY (ZY (.ref C)))
  (hg:Gl X x) (hm:X.mg x=ZX) (hv:bY x=ZY (.builtin "isinstance")) (h:EB K X e m) (hdC:(c==("__debug__" : Str))=ZV:=by decide) (hn:x ≠ "__name__" := by decide) (hdb:Zb x:=by decide)
  (h1':aO [.Name c pc] X.env=(ZV,eval (.Name c pc) X.env)::aO [] X.env:=by rfl) (he:aO [e,.Name c pc] X.env=(ZV,eval e X.env)::aO [.Name c pc] X.env:=by rfl) (hpl:(fV pos (aO [.Name c pc] X.env)).any (·.1)=ZV:=by rfl) :
  EV K X (.Call (.Name x p) [e,.Name c pc] [] pos) (mIsC ns c m):=EV.mk λhk=>by
 refine PE.imp (agx (ant (cv:=.ref C) (cV:=.ref C) λu r=>r) hg hm hv (wk (h hk) (wk (a1z (v:=.ref C) hgC hmC rfl hdC) aht h1') he) hn hdb he hpl) λσ H Q z9=>?_
 obtain⟨tg,F,ρ,d,ρ',G,em,q⟩:=z9;obtain⟨d1,ρ1,e1,em⟩:=bw em;obtain⟨e2,rfl⟩:=jb em;subst hk;refine⟨tg,F,ρ,d1,_,G,e1,λv H' F' G' x bv=>?_⟩
 obtain⟨c0,fs,rfl,hi,h0,rfl⟩:=a0j bv e2;exact⟨F',c0,fs,v,_,rfl,G'.sub,hi,λC0 e0=>apw sub h0 h1 e0 hnC,q _ H' F' G' x (.bl _)⟩
def a3r{ns:List Str}{m:M D}{x:Str}{pc:Pos}(sub:akr K ns=ZW)(hgC:Gl X "ValueError")(hmC:X.mg "ValueError"=ZX)(hvC:bY "ValueError"=ZY (.type "ValueError"))
  (hg:Gl X x) (hm:X.mg x=ZX) (hv:bY x=ZY (.builtin "isinstance")) (h:EB K X e m) (hn:x ≠ "__name__" := by decide) (hdb:Zb x:=by decide)
  (h1':aO [.Name "ValueError" pc] X.env=(ZV,eval (.Name "ValueError" pc) X.env)::aO [] X.env:=by rfl) (he:aO [e,.Name "ValueError" pc] X.env=(ZV,eval e X.env)::aO [.Name "ValueError" pc] X.env:=by rfl) (hpl:(fV pos (aO [.Name "ValueError" pc] X.env)).any (·.1)=ZV:=by rfl) :
  EV K X (.Call (.Name x p) [e,.Name "ValueError" pc] [] pos) (mIsC ns "ValueError" m):=EV.mk λhk=>by
 refine PE.imp (agx (ant (cv:=.type "ValueError") (cV:=.ty "ValueError") λu r=>r) hg hm hv (wk (h hk) (wk (axq hgC hmC hvC) aht h1') he) hn hdb he hpl) λσ H Q z9=>?_
 obtain⟨tg,F,ρ,d,ρ',G,em,q⟩:=z9;obtain⟨d1,ρ1,e1,em⟩:=bw em;obtain⟨e2,rfl⟩:=jb em;subst hk;refine⟨tg,F,ρ,d1,_,G,e1,λv H' F' G' x bv=>?_⟩
 obtain⟨c0,fs,rfl,hi,h0,rfl⟩:=a0j bv e2;refine⟨F',c0,fs,v,alj c0 "ValueError", rfl,G'.sub,hi,λC0 e0=>?_,q _ H' F' G' x (.bl _)⟩
 rw[a08 sub h0 e0];simp[alj]
end
def al2:bY "ValueError"=ZY (.type "ValueError"):=by decide +kernel
@[simp] theorem bbk(ns:List Str)(c:Str)(m:M D)(ρ:Ro):mIsC ns c m ρ=(m.bind λd=>lift (gIsC ns c d)) ρ:=rfl
@[simp] theorem a9y(ns:List Str)(c c0:Str)(fs:List (Str×Int)):gIsC ns c (.exn c0 fs)=if ns.contains c0 then ZY (.bl (alj c0 c)) else ZX:=rfl
end Dn
namespace L2
structure RoomU (k:Nat) (A:cT):Prop where
 dp:A.depth+3*k+5<recursionLimit
 un:A.units+16*k+200<cLine
 gd:A.guards=ZY []
def RoomU.mono{j k:Nat}{A:cT}(r:RoomU k A)(h:j<=k):RoomU j A:=⟨by have:=r.dp;omega,by have:=r.un;omega,r.gd⟩
def RoomU.deeper{k:Nat}{A:cT}(r:RoomU (k+1) A)(env:Env):RoomU k (A.deeper env) :=
 ⟨by have:=r.dp;show A.depth+1+3*k+5<_;omega,by have:=r.un;show A.units+3+16*k+200<_;omega,r.gd⟩
def RoomU.depth{k:Nat}{A:cT}(r:RoomU k A):A.depth<recursionLimit:=by have:=r.dp;omega
def RoomU.units{k:Nat}{A:cT}(r:RoomU k A):A.units+64<cLine:=by have:=r.un;omega
def Room.mark{k:Nat}{A:cT}(r:Room k A)(e:aD):RoomU k (A.mark (ZY e)):=⟨r.dp,r.un,r.gd⟩
def cxU(P:cA)(w:dU)(K:Fg9)(mg:Str->Option aD)(base:eF)(N:List Str)(qual:Str)(scope:iZ)(f:aU)(cd:aD)(A:cT)(outer:List Env)(s:aG)(H:Hp):Cx :=
 { (cxOf CX0 P w K mg base N qual scope f cd A outer s H E0).nox with calm:=ZV }
structure FnOkU (P:cA) (w:dU) (K:Fg9) (mg:Str->Option aD) (base:eF) (k:Nat) (f:aU) (fd:dR) (ps:List Str) (sp:Sp):Prop where
 len:∀vs H Q E,sp vs H Q E->vs.length=ps.length
 run:∀(A:cT) (outer:List Env) (s:aG) (H:Hp) (args:Args) (us:List aD) (vs:List V) (Q:VK),RoomU k A->Env0 P w K mg base A outer s H->qC s fd args (ps.zip us)->Vals vs us->sp vs H Q E0 ->
  oW (bZ P w) A (.call (.ref f) args) (CR CX0 outer P w H s Q E0) s
theorem Fun.okU{P:cA}{w:dU}{K:Fg9}{mg:Str->Option aD}{base:eF}{x qual:Str}{st:fD}{f:aU}{fd:dR}{N ps:List Str}{k:Nat}{sp:Sp}(F:Fun K x qual st f fd)(S:FnScope N ps (ao st))(len:∀vs H Q E,sp vs H Q E->vs.length=ps.length)
  (hbody:∀(cdv:aD) (A:cT) (outer:List Env) (s:aG) (H:Hp) (vs:List V) (Q:VK),RoomU k (A.deeper (lO qual (ao st) s.heap.objs.size f cdv))->sp vs H Q E0 ->
   ∃t,PSs (cxU P w K mg base N qual (ao st) f cdv A outer s H) (je st) t/\t { nx:=λ_ H'=>Q .non H',rt:=Q } (start N vs) H):FnOkU P w K mg base (k+1) f fd ps sp:=by
 obtain⟨oc,od,kV,doc,pm,an,cdv,ct,osl,rfl,lk,hcd⟩:=F.ex;refine⟨len,λA outer s H args us vs Q hr e0 hb r hsp=>?_⟩
 have hl:=len _ _ _ _ hsp;have KX:K.In s.heap:=e0.mod.kin.keeps λb o e=>(e0.bs b o e).1
 have lim:s.heap.NoLimit:=e0.mod.nolimit.keeps λb o e=>(e0.bs b o e).1
 have hkind:∀y∈ps.zip us,(ao st).names.lookup y.1=ZY .local∨((ao st).names.lookup y.1=ZY .cell/\((lQ (s.heap.objs.size+1) (ao st).names []).lookup y.1).isSome=ZW):=λy hy=>by
  rcases S.par y.1 (nZ hy).1 with q |q
  ·exact .inl q
  ·exact .inr ⟨q,nM _ _ _ (.inl q)⟩
 refine codeAny_call_function hr.depth (KX _ _ lk) rfl S.co S.gen rfl (uH KX hcd) (hb _ _ _ _ ?_);refine wpAny_newFunctionEnv_cells S.kind hkind λenv he s1 x=>?_
 subst he;refine⟨lim.keeps x.toInCall.keep,codeAny_func ?_⟩;obtain⟨t,ht,hq⟩:=hbody cdv A outer s H vs Q (hr.deeper _) hsp;have e1:Env0 P w K mg base { A with handled:=ZX } outer s H:=⟨e0.frames,e0.mod,e0.bs,e0.bsz,e0.funs,e0.frf,e0.hok,e0.bare⟩
 have J:Inv (cxOf CX0 P w K mg base N qual (ao st) f cdv { A with handled:=ZX } outer s H E0) [] (start N vs) H s1:=am6 S rfl e1 hl r x
 have I:Inv (cxU P w K mg base N qual (ao st) f cdv A outer s H) [] (start N vs) H s1 :=
  ⟨⟨J.ok.mod,J.ok.kind,J.ok.glob,J.ok.blt,J.ok.above,J.ok.inj,J.ok.has,J.ok.cab,(λz=>absurd z cY),tV e0.frames,J.ok.stk,J.ok.exf,J.ok.bs,J.ok.bsz,J.ok.noex,J.ok.exfs,J.ok.funs,J.ok.frf⟩,J.os,J.bare,J.base,J.loc,J.cell,J.free,J.freeC,J.pin,J.hok,J.len⟩
 refine bI (ht [] s1 (start N vs) H _ I hq) (λfl s' hs=>?_) λe s' hs=>dI hs
 have fin:∀{σ':St} {H':Hp} {v:V} {u:aD},Inv (cxU P w K mg base N qual (ao st) f cdv A outer s H) [] σ' H' s'->RelV v u->Q v H'->CE outer P w H s Q u s' :=
  λ{σ' H' v u} J rv q=>⟨v,H',J.os,J.bare,J.base,J.hok,rv,q⟩
 cases fl with
 |ret u=>
  obtain⟨v,σ',H',J,rv,q⟩:=hs;exact fin J rv q
 |next=>
  obtain⟨σ',H',J,q⟩:=hs;exact fin (v:=V.non) (u:=cO) J rfl q
 |brk=>
  obtain⟨_,_,_,q⟩:=hs;exact dI q
 |cont=>
  obtain⟨_,_,_,q⟩:=hs;exact dI q
def DfnU(P:cA)(w:dU)(K:Fg9)(mg:Str->Option aD)(base:eF)(x:Str)(ps:List Str)(k:Nat)(sp:Sp):Prop :=
 ∃(f:aU) (fd:dR),FnOkU P w K mg base k f fd ps sp/\mg x=ZY (.ref f)/\jW K (.ref f)=ZW/\Binds K fd ps []
theorem a6l{X:Cx}{x:Str}{ps:List Str}{k:Nat}{sp:Sp}{e:cZ}{es:List cZ}{t:TA}{p pos:Pos}(F:DfnU X.prog X.w X.K X.mg X.base x ps k sp)(hr:RoomU k X.A)(hg:Gl X x)(ha:PA X (e::es) t)(hdb:Zb x:=by decide)
  (he:Zc X e es:=by rfl) (hpl:(fV pos (aO es X.env)).any (·.1)=ZV:=by rfl):PE X (.Call (.Name x p) (e::es) [] pos) (a05 sp [] E0 t):=by
 obtain⟨f,fd,F,hm,hk,hb⟩:=F;intro qv s σ H Q I h;refine wpAny_Call_Name_kw (aec I hg hm ?_ hdb);refine iI (h₀:=X.base) I.ok.mod.kin hk (thn (ha pos qv s σ H _ I h) λus s1 ⟨vs,H1,I1,r,q⟩=>⟨I1.kIn,?_⟩) he hpl
 have q:sp (vs++[]) H1 Q E0:=q;rw[eG] at q;have hl:(us++[]).length=ps.length:=by rw[eG,<-r.length];exact F.len _ _ _ _ q
 have hbn:=hb s1 us I1.kIn hl;rw[eG] at hbn;refine wpAny_call (codeAny_mono (F.run X.A X.stack s1 H1 ⟨[]++us,[]⟩ us vs Q hr I1.env0 hbn r q) λr s' hq=>?_)
 cases r with
 |error e=>exact dI hq
 |ok fl=>
  cases fl with
  |ret u=>exact I1.after hq
  |next=>exact dI hq
  |brk=>exact dI hq
  |cont=>exact dI hq
end L2
namespace Dn
open L2 Mn
def a8l{K:Fg9}{X:Cx}{e:cZ}{es:List cZ}{pos p:Pos}{f:Fd}{n k:Nat}{x:Str}{pn:List Str}{js:List (Option Nat)}{ms:M (List (Option D))}(F:DfnU X.prog X.w X.K X.mg X.base x pn k (spOf K n f))(hr:RoomU k X.A)(hg:Gl X x)(ha:EG K X (e::es) js ms)(hn:js.length=n:=by rfl)(hdb:Zb x:=by decide)
  (he:Zc X e es:=by rfl) (hpl:(fV pos (aO es X.env)).any (·.1)=ZV:=by rfl):ER K X (.Call (.Name x p) (e::es) [] pos) (mFn f js ms):=ER.mk λhk=>PE.imp (a6l F hr hg (ha hk) hdb he hpl) λσ H Q z9=>by
 obtain⟨tg,F,ρ,r,ρ',G,em,q⟩:=z9;obtain⟨ds,ρ1,ps,e1,hj,e2,rfl⟩:=az8 em;refine⟨tg,F,ρ,ds,ρ1,G,e1,λvs H1 F1 G1 x1 ar=>?_⟩
 have L:=ar.lent;show spOf K n f (vs++[]) H1 Q E0;rw[eG];refine⟨by rw[ar.length];exact hn,F1,_,r,ps,aad G1 hj L,e2,λv H' F' O' s' x' fin rr=>?_⟩
 exact q v H' F' (ac3 G1 L x' s' fin) (x1.trans (afn G1 L x')) (ym x1 (al4 G1 L fin rr))
def a3n{K:Fg9}{P:cA}{w:dU}{mg:Str->Option aD}{base:eF}{x qual:Str}{st:fD}{f:aU}{fd:dR}{N ps:List Str}{k nl np:Nat}{g:Sd}(F:Fun K x qual st f fd)(S:FnScope N ps (ao st))(h1:N.length=nl)(h2:ps.length=np)
  (body:∀(cdv:aD) (A:cT) (outer:List Env) (s:aG) (H:Hp),RoomU k (A.deeper (lO qual (ao st) s.heap.objs.size f cdv))->SVs K (cxU P w K mg base N qual (ao st) f cdv A outer s H) (je st) g) :
  FnOkU P w K mg base (k+1) f fd ps (spOf K np (fnD nl np g)):=by
 subst h1 h2;refine F.okU S (λvs H Q E h=>h.1) λcdv A outer s H vs Q hr h=>⟨_,body cdv A outer s H hr rfl,?_⟩
 obtain⟨hn,F,as,r,ps',G,em,q⟩:=h;have hl:as.length=(vs.map ZY).length:=G.len;have G1:=G.app (N.length-vs.length);have es:start N vs=vs.map ZY++aJ (N.length-vs.length) ZX:=rfl;rw[es];unfold fnD at em;rw[<-hn] at em;have fin:∀{ρ':Ro} {σ':L2.St} {F' H':Hp},Good K (tgOf (vs.map ZY)) F' H' ρ' σ'->Fin K F' H' (vs.map ZY) (ρ'.take vs.length) (Own ρ' σ'):=λ{ρ' σ' F' H'} G'=>⟨λi l e=>by
  have hi:=(aH.mp e).1;rw[eX] at hi;rw[fM (by omega)] at e
  obtain⟨o,ho,a,ws,rfl,hf,hh,hl,ht⟩:=G'.at e;rw[ht i rfl];exact⟨⟨i,⟨_,_,e⟩,ho⟩,hf,ws,hh,hl⟩⟩
 split at em
 ·rename_i r' ρ' e;cases em;refine⟨_,F,_,.ret r,ρ',G1,e,λv σ' H' F' G' x' rr=>?_⟩
  rw[ul hl] at x' rr;exact q v H' F' (Own ρ' σ') G'.sub x' (fin G') rr
 ·rename_i ρ' e;cases em;refine⟨_,F,_,.nx,ρ',G1,e,λσ' H' F' G' x'=>?_⟩
  rw[ul hl] at x';exact q .non H' F' (Own ρ' σ') G'.sub x' (fin G') .non
 ·cases em
 ·cases em
def cxH(X:Cx)(ev:aD):Cx:={ X with A:=X.A.mark (ZY ev),calm:=ZV }
section
variable{K:Fg9}{X:Cx}{qv:List (aU×Obj)}{σ:L2.St}{H:Hp}{s:aG}{tg:Nat->aU}{F:Hp}{ρ:Ro}
def Inv.hnd(I:Inv X qv σ H s)(ev:aD):Inv (cxH X ev) qv σ H s :=
 ⟨⟨I.ok.mod,I.ok.kind,I.ok.glob,I.ok.blt,I.ok.above,I.ok.inj,I.ok.has,I.ok.cab,(λz=>absurd z cY),I.ok.frames,I.ok.stk,I.ok.exf,I.ok.bs,I.ok.bsz,I.ok.noex,I.ok.exfs,I.ok.funs,I.ok.frf⟩,I.os,I.bare,I.base,I.loc,I.cell,I.free,I.freeC,I.pin,I.hok,I.len⟩
def Inv.unhnd{ev:aD}(hd:X.calm=ZW->X.A.handled=ZX)(I:Inv (cxH X ev) qv σ H s):Inv X qv σ H s :=
 ⟨⟨I.ok.mod,I.ok.kind,I.ok.glob,I.ok.blt,I.ok.above,I.ok.inj,I.ok.has,I.ok.cab,hd,I.ok.frames,I.ok.stk,I.ok.exf,I.ok.bs,I.ok.bsz,I.ok.noex,I.ok.exfs,I.ok.funs,I.ok.frf⟩,I.os,I.bare,I.base,I.loc,I.cell,I.free,I.freeC,I.pin,I.hok,I.len⟩
def Inv.track{a:aU}{o:HO}(I:Inv X qv σ H s)(f:FpX X qv H a)(new:yt X.prog X.w (upd H a o) s.heap a o):Inv X qv σ (upd H a o) s:=by
 have ne:∀b z,H b=ZY z->b≠a:=λb z q w=>by rw[w,f.1] at q;cases q
 refine⟨I.ok,I.os,I.bare,⟨I.base.keep,I.base.slot,λb o' e n hx=>?_,I.base.there,λb xs q=>?_,λb ob u q=>?_,λb ps q=>?_⟩,I.loc,I.cell,?_,λx c e=>?_,λp hp=>?_,λb u e=>?_,I.len⟩
 ·rw[cg (λw=>by
   rcases f.2.2.2.1 with z |z
   ·exact hx (w▸z)
   ·rw[w,z] at e;cases e)]
  exact I.base.free b o' e n hx
 ·have:=I.base.tups b xs q;rw[cg (ne _ _ this)];exact this
 ·have:=I.base.frzs b ob u q;rw[cg (ne _ _ this)];exact this
 ·obtain⟨more,h1⟩:=I.base.tbls b ps q;exact⟨more,by rw[cg (ne _ _ h1)];exact h1⟩
 ·rw[cg (fO f.2.1)];exact I.free
 ·rw[cg (f.2.2.2.2.1 x c e)];exact I.freeC x c e
 ·obtain⟨h1,h2,h3,h4,h5⟩:=I.pin p hp;exact⟨h1,by rw[cg (f.2.2.2.2.2 p hp)];exact h2,h3,h4,h5⟩
 ·by_cases hb:b=a
  ·subst hb;rw[f9] at e;cases e;exact new
  ·rw[cg hb] at e;refine(I.hok b u e).stay (λc v _ q=>q) (λc q=>?_) λc xs q=>?_
   ·rw[cg (ne _ _ q)];exact q
   ·rw[cg (ne _ _ q)];exact q
def ar0{i:Nat}{a:aU}{σ':L2.St}(hs:∀j,j≠i->σ'[j]? = σ[j]?)(h:Own (bC ρ i .emp) σ' a):Own ρ σ a:=by
 obtain⟨j,⟨t,l,e⟩,q⟩:=h;rw[aY] at e
 by_cases hj:i=j
 ·subst hj;rw[if_pos rfl] at e;split at e <;> cases e
 ·rw[if_neg hj] at e;exact⟨j,⟨t,l,e⟩,by rw[<-hs j (fO hj)];exact q⟩
def Good.forget(G:Good K tg F H ρ σ)(i:Nat):Good K tg F H (bC ρ i .emp) (bC σ i ZX) where
 sub:=G.sub
 len:=by rw[cJ,cJ];exact G.len
 sl:=λj s o e q=>by
  rw[aY] at e q
  by_cases hj:i=j
  ·subst hj;rw[if_pos rfl] at e;split at e
   ·cases e;trivial
   ·cases e
  ·rw[if_neg hj] at e q;exact G.sl j s o e q
 inj:=λj k a ⟨⟨t,l,e⟩,q⟩ ⟨⟨t',l',e'⟩,q'⟩=>by
  have f:∀{j t l},(bC ρ i Sl.emp)[j]? = ZY (Sl.own t l)->i≠j:=λ{j t l} e z=>by
   subst z;rw[aY,if_pos rfl] at e;split at e <;> cases e
  have n1:=f e;have n2:=f e';rw[aY,if_neg n1] at e q;rw[aY,if_neg n2] at e' q';exact G.inj j k a ⟨⟨t,l,e⟩,q⟩ ⟨⟨t',l',e'⟩,q'⟩
def Ext.less{O O' O2:aU->Prop}{F H F' H':Hp}(x:Ext O O' F H F' H')(h:∀a,O2 a->O' a):Ext O O2 F H F' H':=⟨x.sub,x.new,x.keep,λa z=>x.own a (h a z),x.there⟩
theorem aty{O O' O2:aU->Prop}{F' H H':Hp}{r:Rv}{v:V}(x:relR K r v H O F' H' O')(h:∀a,O2 a->O' a):relR K r v H O F' H' O2:=by
 cases r with
 |v d=>exact x
 |fr l=>
  obtain⟨a,vs,e1,e2,e3,e4,e5,e6⟩:=x;exact⟨a,vs,e1,e2,e3,e4,e5,λz=>e6 (h a z)⟩
 |tf d l=>
  obtain⟨t,u,a,vs,e0,e1,e2,e3,e4,e5,e6,e7⟩:=x;exact⟨t,u,a,vs,e0,e1,e2,e3,e4,e5,e6,λz=>e7 (h a z)⟩
end
def dTry(ns:List Str)(gb:Sd)(i:Nat)(gh:Sd):Sd:=λρ=>match gb ρ with
 |some (.exc x,ρ1)=>if ns.contains x.cls then match gh (bC ρ1 i (.val (.exn x.cls x.fs))) with
   |some (.exc _,_)=>ZX
   |some (fl,ρ2)=>ZY (fl,bC ρ2 i .emp)
   |none=>ZX
  else ZX
 |r=>r
structure CatN (K:Fg9) (B:aU):Prop extends CatK K B where
 ns:nsIn K aX "ArrowError"=ZY (ZY (.ref B))
 self:fQ K (.ref B) (.ref B)=ZY ZW
def arp{K:Fg9}{C B:aU}(k:CatN K B)(h:fW K (.ref C) (.ref B)=ZY ZW):fQ K (.ref C) (.ref B)=ZY ZW:=by
 by_cases e:C=B
 ·rw[e];exact k.self
 ·have h1:(if (cH C==cH B)=ZW then ZY ZW else wG K (.ref C) (.ref B))=ZY ZW:=h
  rw[if_neg (λz=>e (wK (beq_iff_eq.mp z)))] at h1
  have h2:(if ((lH K B).isSome&&oO K (.ref B)==ZY (.type "type"))=ZW then fQ K (.ref C) (.ref B) else ZX)=ZY ZW:=h1
  split at h2
  ·exact h2
  ·cases h2
def bcs(K:Fg9)(tg:Nat->aU)(ρ:Ro)(σ:L2.St)(F H:Hp)(ρ2:Ro)(fl:Fl):Ends where
 nx:=λσ6 H6=>fl=.nx/\∃F6,Good K tg F6 H6 ρ2 σ6/\Ext (Own ρ σ) (Own ρ2 σ6) F H F6 H6
 bk:=λσ6 H6=>fl=.brk/\∃F6,Good K tg F6 H6 ρ2 σ6/\Ext (Own ρ σ) (Own ρ2 σ6) F H F6 H6
 ct:=λσ6 H6=>fl=.cont/\∃F6,Good K tg F6 H6 ρ2 σ6/\Ext (Own ρ σ) (Own ρ2 σ6) F H F6 H6
 rt:=λv H6=>∃r σ6 F6,fl=.ret r/\Good K tg F6 H6 ρ2 σ6/\Ext (Own ρ σ) (Own ρ2 σ6) F H F6 H6/\relR K r v H (Own ρ σ) F6 H6 (Own ρ2 σ6)
section
variable{K:Fg9}{X:Cx}{pos hpos bp:Pos}{n:Str}{B:aU}{i:Nat}{b₀:fD}{body suite:List fD}{ns:List Str}{gb gh:Sd}
def a5d(hcalm:X.calm=ZW)(hno:X.xe=λ_ _=>False)(hfr:X.env.frame=ZY X.env.locals)(hst:X.stack=X.env::X.outer)(hN:X.N.Nodup)(hi:X.N[i]? = ZY n)(hk0:X.env.scope.names.lookup n=ZY .local)
  (hgB:Gl X "ArrowError") (hmB:X.mg "ArrowError"=ZY (.ref B)) (cat:CatN K B) (sub:akr K ns=ZW) (hB:ns.contains "ArrowError"=ZW) (hb:SVs K X body gb) (hx:XSs K X body gb) (hh:∀ev,SVs K (cxH X ev) (b₀::suite) gh) :
  SV K X (.Try body [.ExceptHandler (ZY (.Name "ArrowError" bp)) (ZY n) (b₀::suite) hpos] [] [] pos) (dTry ns gb i gh):=SV.mk λhk qv s σ H E I z9=>by
 obtain⟨tg,F,ρ,fl,ρ',G,em,q⟩:=z9;refine wpAny_Try_except ?_;unfold dTry at em;split at em
 ·rename_i x ρ1 e1;split at em
  ·rename_i hc0;split at em
   ·cases em
   ·rename_i fl' ρ2 hne e2;cases em;refine bI (hx.go hk hno qv s σ H tg F ρ x ρ1 I G (zb.mpr e1)) (λ_ _ z=>z.elim) λer s1 z9=>?_
    obtain⟨σ1,H1,F1,I1,G1,x1,a,C,dx,ch,ea,hc,hf,fly,hch⟩:=z9;subst ea;have hl1:=I1.stack;rw[hst] at hl1;refine aup (by rw[<-hst];exact I1.ok.frames) hl1 hfr fly λh2 ch2 hne2 hch2 kb2 fly2=>?_
    rw[<-hst] at kb2;have I2:=Inv.records I1 kb2 hch;have fp2:∀b∈ch2,FpX X qv H1 b:=λb hb=>by
     rcases hch2 b hb with z |z
     ·exact hch b z
     ·exact Inv.fpX I1 (tQ z) (I1.hok.fresh z)
    obtain⟨oe,vs,he,hcl,_⟩:=(fly2 X.env.locals).obj;have hsub:=arp cat (by have z:=apw sub hc0 hB hc.ns cat.ns;rw[z];simp[alj])
    refine wpAny_handleBy_cons (codeAny_handlers_test (aec (X:=cxH X (.ref a)) (Inv.hnd I2 _) hgB hmB ?_ (by decide))) (by intro z;cases z)
    refine ayd (hk▸I2.kIn) cat.toCatK he hcl hsub ?_;refine codeAny_handlers_suite_as ?_;refine a0y (fs:=frs X.stack) (fly2 X.env.locals) hne2 λh3 kb3 fly3 ha3=>?_
    have I3:=Inv.records I2 kb3 fp2;obtain⟨oe3,vs3,he3,hcl3,hdx3,hd3,_⟩:=(fly3 X.env.locals).obj;have fa:FpX X qv H1 a:=fp2 a (fly2 X.env.locals).fresh;have I4:=Inv.track (o:=.ext (exO a C dx)) I3 fa ⟨⟨oe3,vs3,he3,hcl3,hdx3,hd3⟩,⟨oe3,he3⟩,λg1 g2 ⟨o,vs',h1,h2,h3,h4⟩ kp=>⟨o,vs',kp o h1,h2,h3,h4⟩⟩
    have G4:=G1.new fa.1 (.ext (exO a C dx));have x4:=G1.newX fa.1 (.ext (exO a C dx));have isE:Is K (upd F1 a (.ext (exO a C dx))) (.exn x.cls x.fs) (.ref a):=.exn f9 hc.ns hc.ok (hf.imp id λ⟨d,h1,h2⟩=>⟨d,h1,x4.sub _ _ h2⟩)
    obtain⟨G5,x5⟩:=G4.storeV i isE;refine aeo I4 hN hi (.inl hk0) (v:=.ref a) rfl (λs5 I5=>?_) (.inr hk0)
    have hx5:=(x1.trans x4).trans x5;have back:∀{f:Flow} {s6:aG} {σ6:L2.St} {H6:Hp},Inv (cxH X (.ref a)) qv σ6 H6 s6->(∀s7,Inv X qv (bC σ6 i ZX) H6 s7->SP X qv E f s7) ->
      bU (bZ X.prog X.w) X.A (do bindName X.env n .none;unbindBehindTheSuite X.env n hpos) (λ_ s7=>SP X qv E f s7) X.xe s6:=λ{f s6 σ6 H6} I6 fin=>by
     have I6:=Inv.unhnd I.ok.hd I6;refine aA (wpAny_bindName (aeo I6 hN hi (.inl hk0) (v:=.non) rfl (λs7 I7=>?_) (.inr hk0)))
     unfold unbindBehindTheSuite;refine wpAny_onRaise (a8r I7 hN hi hk0 (v:=.non) (jX (by rw[I6.len];exact(aH.mp hi).1)) λs8 I8=>fin s8 ?_)
     rw[List.set_set] at I8;exact I8
    refine bI ((hh (.ref a)).go hk qv s5 _ _ (bcs K tg ρ σ F H ρ2 fl) (Inv.hnd I5 (.ref a))
      ⟨tg,_,_,fl,ρ2,G5,e2,?_⟩) (λf s6 hs=>?_) λ_ _ z=>by
       have z:X.xe _ _:=z;rw[hno] at z;exact z.elim
    ·cases fl with
     |nx=>exact λσ6 H6 F6 G6 x6=>⟨rfl,F6,G6,hx5.trans x6⟩
     |brk=>exact λσ6 H6 F6 G6 x6=>⟨rfl,F6,G6,hx5.trans x6⟩
     |cont=>exact λσ6 H6 F6 G6 x6=>⟨rfl,F6,G6,hx5.trans x6⟩
     |ret r=>exact λv σ6 H6 F6 G6 x6 rr=>⟨r,σ6,F6,rfl,G6,hx5.trans x6,ym hx5 rr⟩
     |exc y=>exact(hne y rfl).elim
    ·have sub6:∀(σ6:L2.St) (a:aU),Own (bC ρ2 i .emp) (bC σ6 i ZX) a->Own ρ2 σ6 a:=λσ6 a z=>ar0 (λj hj=>lG (fO hj)) z
     cases f with
     |next=>
      obtain⟨σ6,H6,I6,rfl,F6,G6,x6⟩:=hs;exact back I6 λs7 I7=>⟨_,H6,I7,q _ H6 F6 (G6.forget i) (x6.less (sub6 σ6))⟩
     |brk=>
      obtain⟨σ6,H6,I6,rfl,F6,G6,x6⟩:=hs;exact back I6 λs7 I7=>⟨_,H6,I7,q _ H6 F6 (G6.forget i) (x6.less (sub6 σ6))⟩
     |cont=>
      obtain⟨σ6,H6,I6,rfl,F6,G6,x6⟩:=hs;exact back I6 λs7 I7=>⟨_,H6,I7,q _ H6 F6 (G6.forget i) (x6.less (sub6 σ6))⟩
     |ret u=>
      obtain⟨v,σ6,H6,I6,rv,r,σ6',F6,rfl,G6,x6,rr⟩:=hs;exact back I6 λs7 I7=>⟨v,_,H6,I7,rv,q v _ H6 F6 (G6.forget i) (x6.less (sub6 σ6')) (aty rr (sub6 σ6'))⟩
   ·cases em
  ·cases em
 ·rename_i hn;refine bI (hb.go hk qv s σ H E I ⟨tg,F,ρ,fl,ρ',G,em,q⟩) (λf s1 z=>?_) λer s1 z=>by rw[hno] at z;exact z.elim
  cases f with
  |next=>exact wpAny_execs_nil z
  |ret v=>exact z
  |brk=>exact z
  |cont=>exact z
end
def okS{α:Type}(m:M α):M α:=λρ=>match m ρ with
 |some (.ok a,ρ1)=>ZY (.ok a,ρ1)
 |_=>ZX
noncomputable def dOk(g:Sd):Sd:=λρ=>match g ρ with
 |some (.exc _,_)=>ZX
 |r=>r
@[simp] theorem bc1{α:Type}(m:M α)(ρ:Ro):okS m ρ=match m ρ with
 |some (.ok a,ρ1)=>ZY (.ok a,ρ1)
 |_=>ZX:=rfl
@[simp] theorem bdl(g:Sd)(ρ:Ro):dOk g ρ=match g ρ with
 |some (.exc _,_)=>ZX
 |r=>r:=rfl
def amx{α:Type}{m:M α}{ρ ρ':Ro}{o:Out α}(h:okS m ρ=ZY (o,ρ')):m ρ=ZY (o,ρ')/\∃a,o=.ok a:=by
 unfold okS at h;split at h
 ·rename_i a ρ1 e;cases h;exact⟨e,a,rfl⟩
 ·cases h
def av6{g:Sd}{ρ ρ':Ro}{fl:Fl}(h:dOk g ρ=ZY (fl,ρ')):g ρ=ZY (fl,ρ')/\∀x,fl≠.exc x:=by
 unfold dOk at h;split at h
 ·cases h
 ·rename_i hn;exact⟨h,λx e=>hn x ρ' (by rw[h,e])⟩
def dq{α:Type}{m:M α}:NoX (okS m):=λρ x ρ' h=>by
 obtain⟨_,a,e⟩:=amx h;cases e
def auq{g:Sd}:NoS (dOk g):=λρ x ρ' h=>(av6 h).2 x rfl
section
variable{K:Fg9}{X:Cx}{e a b c:cZ}{es:List cZ}{pos p:Pos}{st:fD}{ss:List fD}
def SV.s{g:Sd}(h:SV K X st g):SV K X st (dOk g):=SV.mk λhk=>PS.imp (h.go hk) λE σ H ⟨tg,F,ρ,fl,ρ',G,em,q⟩=>⟨tg,F,ρ,fl,ρ',G,(av6 em).1,q⟩
def EV.s{m:M D}(h:EV K X e m):EV K X e (okS m):=EV.mk λhk=>PE.imp (h.go hk) λσ H Q ⟨tg,F,ρ,d,ρ',G,em,q⟩=>⟨tg,F,ρ,d,ρ',G,(amx em).1,q⟩
def ER.s{m:M Rv}(h:ER K X e m):ER K X e (okS m):=ER.mk λhk=>PE.imp (h.go hk) λσ H Q ⟨tg,F,ρ,d,ρ',G,em,q⟩=>⟨tg,F,ρ,d,ρ',G,(amx em).1,q⟩
def ET.s{m:M Bool}(h:ET K X e m):ET K X e (okS m):=ET.mk λhk=>λqv s σ H Q I ⟨tg,F,ρ,d,ρ',G,em,q⟩=>h.go hk qv s σ H Q I ⟨tg,F,ρ,d,ρ',G,(amx em).1,q⟩
def EG.s{js:List (Option Nat)}{m:M (List (Option D))}(h:EG K X es js m):EG K X es js (okS m):=EG.mk λhk=>PA.imp (h.go hk) λσ H Q ⟨tg,F,ρ,d,ρ',G,em,q⟩=>⟨tg,F,ρ,d,ρ',G,(amx em).1,q⟩
def akq{x:Exn}:SV K X st (aiz x):=SV.mk λ_=>PS.imp axl λE σ H z9=>by
 obtain⟨tg,F,ρ,fl,ρ',G,em,q⟩:=z9;cases em;exact(show False from q).elim
def al5{g:Sd}:XS K X st (dOk g):=XS.no auq
def XE.d{m:M Rv}(h:XE K X e m):XE K X e m.d:=⟨λhk hn qv s σ H tg F ρ x ρ' I G em=>by
 rcases abv (vf.mp em) with em |⟨_,_,_,em⟩
 ·exact h.go hk hn qv s σ H tg F ρ x ρ' I G (vf.mpr em)
 ·cases em⟩
def XE.v{m:M D}(h:XE K X e m):XE K X e m.v:=⟨λhk hn qv s σ H tg F ρ x ρ' I G em=>by
 rcases abv (vf.mp em) with em |⟨_,_,_,em⟩
 ·exact h.go hk hn qv s σ H tg F ρ x ρ' I G (vf.mpr em)
 ·cases em⟩
def aai{α:Type}{l:α}:XA K X [] (ret l):=XA.no λρ x ρ' h=>by cases h
def xa_v{m:M D}{js:List (Option Nat)}{ms:M (List (Option D))}(h:EV K X e m)(hx:XE K X e m)(t:XA K X es ms)(hs:Zc X e es:=by rfl):XA K X (e::es) (au m ms):=⟨λpos hk hn qv s σ H tg F ρ x ρ' I G em=>by
 rw[hs];refine pH ?_;rcases abv (vf.mp em) with em |⟨d,ρ1,e1,em⟩
 ·exact bI (hx.go hk hn qv s σ H tg F ρ x ρ' I G (vf.mpr em)) (λ_ _ z=>z.elim) λ_ _ z=>z
 ·rcases abv em with em |⟨_,_,_,em⟩
  ·refine bI (h.go hk qv s σ H (λ_ H1=>∃F1,Good K tg F1 H1 ρ1 σ/\Ext (Own ρ σ) (Own ρ1 σ) F H F1 H1) I ⟨tg,F,ρ,d,ρ1,G,e1,λv H1 F1 G1 x1 _=>⟨F1,G1,x1⟩⟩) (λu s1 ⟨v,H1,I1,_,F1,G1,x1⟩=>?_) λe s1 q=>by rw[hn] at q;exact q.elim
   exact bI (t.go pos hk hn qv s1 σ H1 tg F1 ρ1 x ρ' I1 G1 (vf.mpr em)) (λ_ _ z=>z.elim) λ_ _ z=>z.back x1
  ·cases em⟩
def xa_n{j:Nat}{ms:M (List (Option D))}(h:PE X e (tVar j))(t:XA K X es ms)(hs:Zc X e es:=by rfl):XA K X (e::es) (bu j ms):=⟨λpos hk hn qv s σ H tg F ρ x ρ' I G em=>by
 rw[hs];refine pH ?_;rcases abv (vf.mp em) with em1 |⟨d,ρ1,e1,em2⟩
 ·exfalso;unfold dz at em1;split at em1 <;> cases em1
 ·obtain⟨hρ,v,hv,_⟩:=tu G e1;rw[hρ] at em2;rcases abv em2 with em3 |⟨_,_,_,em3⟩
  ·refine bI (h qv s σ H (λ_ H1=>H1=H) I ⟨v,hv,rfl⟩) (λu s1 ⟨_,H1,I1,_,e⟩=>?_) λe s1 q=>by rw[hn] at q;exact q.elim
   subst e;exact bI (t.go pos hk hn qv s1 σ H1 tg F ρ x ρ' I1 G (vf.mpr em3)) (λ_ _ z=>z.elim) λ_ _ z=>z
  ·cases em3⟩
end
section
variable{K:Fg9}{X:Cx}{e:cZ}{es:List cZ}{pos p:Pos}
end
def ClsT(K:Fg9)(mg:Str->Option aD)(c:Str):Prop:=∃C,mg c=ZY (.ref C)/\ClsOk K c C
def RaiT(K:Fg9)(mg:Str->Option aD)(c:Str):Prop:=∃C,mg c=ZY (.ref C)/\ClsOk K c C/\mV K C bmV "ValueError.__new__"=ZW
def CatT(K:Fg9)(mg:Str->Option aD):Prop:=∃B,mg "ArrowError"=ZY (.ref B)/\CatN K B
section
variable{K:Fg9}{X:Cx}{e:cZ}{pos p np cpos hpos bp:Pos}{c:Str}
def aha(hk:X.K=K)(hcalm:X.calm=ZW)(hg:Gl X c)(h:RaiT K X.mg c)(hd:(c==("__debug__" : Str))=ZV:=by decide):XS K X (.Raise (ZY (.Call (.Name c np) [] [] cpos)) ZX pos) (aiz ⟨c,[]⟩):=by
 obtain⟨C,hm,k,q⟩:=h;subst hk;exact as3 hcalm hg hm k q hd
def zc{ns:List Str}{m:M D}{x:Str}{pc:Pos}(sub:akr K ns=ZW)(h1:ns.contains c=ZW)(hgC:Gl X c)(hC:ClsT K X.mg c)(hg:Gl X x)(hm:X.mg x=ZX)(hv:bY x=ZY (.builtin "isinstance"))(h:EB K X e m)
  (hdC:(c==("__debug__" : Str))=ZV:=by decide) (hn:x ≠ "__name__" := by decide) (hdb:Zb x:=by decide)
  (h1':aO [.Name c pc] X.env=(ZV,eval (.Name c pc) X.env)::aO [] X.env:=by rfl) (he:aO [e,.Name c pc] X.env=(ZV,eval e X.env)::aO [.Name c pc] X.env:=by rfl) (hpl:(fV pos (aO [.Name c pc] X.env)).any (·.1)=ZV:=by rfl) :
  EV K X (.Call (.Name x p) [e,.Name c pc] [] pos) (mIsC ns c m):=by
 obtain⟨C,hmC,k⟩:=hC;exact a3s sub h1 hgC hmC k.ns hg hm hv h hdC hn hdb h1' he hpl
def a06{n:Str}{i:Nat}{b₀:fD}{body suite:List fD}{ns:List Str}{gb gh:Sd}(hcalm:X.calm=ZW)(hno:X.xe=λ_ _=>False)(hfr:X.env.frame=ZY X.env.locals)(hst:X.stack=X.env::X.outer)(hN:X.N.Nodup)(hi:X.N[i]? = ZY n)(hk0:X.env.scope.names.lookup n=ZY .local)
  (hgB:Gl X "ArrowError") (hB:CatT K X.mg) (sub:akr K ns=ZW) (hB2:ns.contains "ArrowError"=ZW) (hb:SVs K X body gb) (hx:XSs K X body gb) (hh:∀ev,SVs K (cxH X ev) (b₀::suite) gh) :
  SV K X (.Try body [.ExceptHandler (ZY (.Name "ArrowError" bp)) (ZY n) (b₀::suite) hpos] [] [] pos) (dTry ns gb i gh):=by
 obtain⟨B,hm,cat⟩:=hB;exact a5d hcalm hno hfr hst hN hi hk0 hgB hm cat sub hB2 hb hx hh
end
@[simp] theorem a8s(x:Exn)(ρ:Ro):aiz x ρ=ZY (.exc x,ρ):=rfl
def a3p(K:Fg9)(C:aU):Bool:=(iV K (.ref C) "__getattribute__" == ZY (ZY (.builtin "BaseException.__getattribute__")))&&(iV K (.ref C) "__getattr__" == ZY ZX)&&(mU K C (.type "BaseException")==ZY ZW)&&gR K C&&(iV K (.ref C) "__class__" == ZY (ZY (.builtin "object.__class__")))&&(jY K (.builtin "object.__class__") "__get__" == ZY (ZY (.builtin "getset_descriptor.__get__"))) &&
 (nR K (.builtin "object.__class__")==ZY ZW)&&(mU K C (.type "object")==ZY ZW)&&["int","bool","tuple","list","str","dict"].all λT=>fQ K (.ref C) (.type T)==ZY ZV
def ay2{K:Fg9}{C:aU}(h:a3p K C=ZW):ExcK K C:=by
 unfold a3p at h;simp only[bD,beq_iff_eq] at h;obtain⟨⟨⟨⟨⟨⟨⟨⟨h0,h1⟩,h8⟩,h2⟩,h3⟩,h4⟩,h5⟩,h6⟩,h7⟩:=h;exact⟨h0,h1,h8,h2,h3,h4,h5,h6,λT hT=>beq_iff_eq.mp (bK.mp h7 T hT)⟩
def awd(K:Fg9)(ns:List Str):Bool:=ns.all λc=>match clsAt K c with
 |some C=>a3p K C
 |none=>ZV
def azx(K:Fg9)(ns:List Str):Bool:=ns.all λc=>match clsAt K c with
 |some C=>mV K C bmV "ValueError.__new__"
 |none=>ZV
def catB(K:Fg9):Bool:=match clsAt K "ArrowError" with
 |some B=>gR K B&&(oO K (.ref B)==ZY (.type "type"))&&(fQ K (.ref B) (.type "BaseException")==ZY ZW)&&(fQ K (.ref B) (.ref B)==ZY ZW)
 |none=>ZV
def ag6{K:Fg9}{c:Str}{C:aU}(h:clsAt K c=ZY C):nsIn K aX c=ZY (ZY (.ref C)):=by
 unfold clsAt at h;split at h
 ·rename_i C' e;cases h;exact e
 ·cases h
section
variable{K:Fg9}{h:eF}{mg:Str->Option aD}{ns:List Str}{c:Str}
def vo(X:K.In h)(G:h.Ns aX mg)(e:awd K ns=ZW)(hc:ns.contains c=ZW):ClsT K mg c:=by
 have z:=bK.mp e c (dY.mp hc);split at z
 ·rename_i C q;exact⟨C,mg_of X G (ag6 q),ag6 q,ay2 z⟩
 ·cases z
def acb{rs:List Str}(X:K.In h)(G:h.Ns aX mg)(e:awd K ns=ZW)(hc:ns.contains c=ZW)(e2:azx K rs=ZW)(hr:rs.contains c=ZW):RaiT K mg c:=by
 obtain⟨C,h1,h2⟩:=vo X G e hc;have z:=bK.mp e2 c (dY.mp hr);rw[ag5 h2.ns] at z;exact⟨C,h1,h2,z⟩
def a4a(X:K.In h)(G:h.Ns aX mg)(e:catB K=ZW):CatT K mg:=by
 unfold catB at e;split at e
 ·rename_i B q;simp only[bD,beq_iff_eq] at e;obtain⟨⟨⟨h1,h2⟩,h3⟩,h4⟩:=e;obtain⟨cd,hc,_⟩:=lB h1;exact⟨B,mg_of X G (ag6 q),⟨by rw[hc];rfl,h2,h3⟩,ag6 q,h4⟩
 ·cases e
end
end Dn
namespace Mn
open L2
section
variable{X:Cx}
def a5b:TE:=λ_ H Q=>∀p,H p=ZX->Q (.ref p) (upd H p (.dK []))
def axu{pos:Pos}:PE X (.Dict [] [] pos) a5b:=by
 intro qv s σ H Q I q;have big:sysModules<s.heap.objs.size:=by
  have h:aX<s.heap.objs.size:=(I.mod.glob.keeps I.bk).lt;exact jL (by decide) h
 have hn:=I.hok.fresh (aM s.heap.objs.size);refine wpAny_Dict_empty ⟨.ref s.heap.objs.size,upd H s.heap.objs.size (.dK []),?_,rfl,q _ hn⟩;refine I.laid (t':=s.toks) (λb u e=>aB _ e) (aM _) ?_
 exact⟨Nat.zero_le _,beq_eq_false_iff_ne.mpr (fO (bH big)),[],.nil,wB s.heap⟩
end
end Mn
namespace Dn
open L2 Mn
section
variable{K:Fg9}{X:Cx}{a b:cZ}{pos p p2:Pos}
def ay5:EV K X (.Dict [] [] pos) (ret (.dct [])):=EV.mk λ_=>PE.imp axu λσ H Q z9=>by
 obtain⟨tg,F,ρ,d,ρ',G,em,q⟩:=z9;obtain⟨rfl,rfl⟩:=j0 em;exact λp hp=>q _ _ _ (G.new hp _) (G.newX hp _) (.dct f9 .nil)
end
theorem vp{c:M Bool}{g:Sd}(Inv:Nat->Ro->Prop)(Done:Ro->Prop)(hs:∀k ρ,Inv k ρ->(∃ρ',c ρ=ZY (.ok ZV,ρ')/\Done ρ')∨∃ρ1 ρ2 k',c ρ=ZY (.ok ZW,ρ1)/\g ρ1=ZY (.nx,ρ2)/\k'<k/\Inv k' ρ2) :
  ∀(n k:Nat) (ρ:Ro),k<n->Inv k ρ->∃ρ',whileD c g n ρ=ZY (.nx,ρ')/\Done ρ'
 | 0,k,ρ,h,_=>absurd h (vP _)
 |n+1,k,ρ,h,h0=>by
  unfold whileD;rcases hs k ρ h0 with⟨ρ',e,d⟩ |⟨ρ1,ρ2,k',e1,e2,hk,h2⟩
  ·rw[e];exact⟨ρ',rfl,d⟩
  ·rw[e1];dsimp only;rw[e2];exact vp Inv Done hs n k' ρ2 (by omega) h2
def ag1:100000<fuel:=by unfold fuel;decide
def alw(a b:Int):eqD (.int a) (.int b)=decide (a=b):=by
 show(a==b)=_
 by_cases h:a=b <;> simp[h]
theorem a4k(ns:List Int)(a:Int):(ns.map D.int).any (λy=>eqD y (.int a))=decide (a∈ns):=by
 induction ns with
 |nil=>simp
 |cons x r ih=>simp[alw,bF,ih,eq_comm]
theorem ajz(n:Nat)(ns:List Int):(ns.map D.int).all (okD n)=ZW:=by
 induction ns with
 |nil=>rfl
 |cons x r ih=>simp[okD]
def ail(neg:Bool)(a:Int)(ns:List Int):gIn neg (.int a) (.lst (ns.map D.int))=ZY (.v (.bl (if neg then !decide (a∈ns) else decide (a∈ns)))):=by
 have h:=ajz 30 ns;have h2:=a4k ns a;simp only[gIn,itemsD,h,h2];simp[okD]
theorem aq3:∀(a b:List Int),eqDs (a.map D.int) (b.map D.int)=decide (a=b)
 | [],[]=>rfl
 | [],_::_=>rfl
 |_::_,[]=>rfl
 |x::r,y::t=>by
  show(eqD (.int x) (.int y)&&eqDs (r.map D.int) (t.map D.int))=_;rw[alw,aq3 r t]
  by_cases h:x=y <;> simp[h]
def av2(a b:List Int):eqD (.tup (a.map D.int)) (.tup (b.map D.int))=decide (a=b):=by
 rw[<-aq3];exact av1 _ _
def minI(ns:List Int):Int:=afl (λi j=>decide (i<j)) ns
def aqy{ns:List Int}(h:ns≠[]):ajj (.lst (ns.map D.int))=ZY (.v (.int (minI ns))):=by
 show(qp (ns.map D.int)).bind _=_;rw[acl];simp[h,minI]
def aqx{ns:List Int}(h:ns≠[]):ajj (.tup (ns.map D.int))=ZY (.v (.int (minI ns))):=by
 show(qp (ns.map D.int)).bind _=_;rw[acl];simp[h,minI]
def anf{ns:List Int}(h:ns.length<64):alp (.lst (ns.map D.int))=ZY (.fr ((sortI ns).map D.int)):=by
 show(qp (ns.map D.int)).bind _=_;rw[acl];simp[h]
@[simp] theorem a8a(d:D):ayz [d]=(itemsD d).map ajk:=rfl
@[simp] theorem a78(a b:D):ane [a,b]=(itemsD a).bind λl1=>(itemsD b).bind λl2=>if l1.length<=l2.length then ZY (sy l1 l2) else ZX:=rfl
@[simp] theorem a4s(ρ:Ro)(f:Int->Int->Int)(i:Nat)(mi m:M D):apj f i mi m ρ=(dM (mOwn i) λ_=>dM mi λk=>dM (mOwn i) λl=>dM (lift ((asI k).bind (ixN l.length))) λj=>dM (lift ((l[j]?).bind asI)) λx=>dM m λy=>dM (lift (asI y)) λy=>dM (mOwn i) λl2=>dM (lift (if l2.length=l.length then ZY () else ZX)) λ_=>dM (ae3 i (l2.set j (.int (f x y)))) λ_=>dNx) ρ:=rfl
@[simp] theorem a7i(ρ:Ro)(i:Nat)(ms:M (List D)):aqi i ms ρ=((dz i).bind λd0=>ms.bind λds=>(dz i).bind λd=>(lift (match d0,d with
 |.lst _,.lst _=>ZY ()
 |.tup _,.tup _=>ZY ()
 |_,_=>ZX)).bind λ_=>lift (als d ds)) ρ:=rfl
@[simp] theorem a3k(l:List D)(x:D):als (.lst l) [x]=if okD 30 x&&l.all (okD 30) then ZY (.int (l.countP λy=>eqD y x)) else ZX:=rfl
@[simp] theorem a3j(l:List D)(x:D):als (.tup l) [x]=if okD 30 x&&l.all (okD 30) then ZY (.int (l.countP λy=>eqD y x)) else ZX:=rfl
theorem ag8{l1 l2:List D}(h:l1.length<=l2.length):(sy l1 l2).length=l1.length:=by unfold sy;rw[iD];omega
def afo{ns:List Int}{k:Int}(h0:0<=k)(h1:k<(ns.length:Int)):atI (ns.map D.int) k=ZY (.int (ns.getD k.toNat 0)):=by
 have hk:k.toNat<ns.length:=by omega
 have q:atI (ns.map D.int) ((k.toNat:Nat):Int)=ZY (.int (ns.getD k.toNat 0)):=ai6 (by simp[aF hk])
 rw[show((k.toNat:Nat):Int)=k by omega] at q
 exact q
def ah8{n:Nat}{k:Int}(h0:0<=k)(h1:k<(n:Int)):ixN n k=ZY k.toNat:=by
 unfold ixN;simp[h0,h1]
def azu{n d:Nat}{k:Int}(h0:0<=k):HT.sIx n d (ZY k)=min k.toNat n:=by
 show(if k<0 then (k+(n:Int)).toNat else min k.toNat n)=_
 rw[if_neg (by omega)]
def a8v{ns:List D}{k:Int}(h0:0<=k)(h1:k<=(ns.length:Int)):cutD ns ZX (ZY k)=ns.take k.toNat:=by
 unfold cutD;rw[azu h0];have:HT.sIx ns.length 0 ZX=0:=rfl;rw[this,vQ (by omega),Nat.sub_zero,wI]
def apm{ns:List D}{k:Int}(h0:0<=k)(h1:k<=(ns.length:Int)):cutD ns (ZY k) ZX=ns.drop k.toNat:=by
 unfold cutD;rw[azu h0];have:HT.sIx ns.length ns.length ZX=ns.length:=rfl;rw[this,vQ (by omega)]
 exact nP (by simp)
def ik{K:Fg9}{P:cA}{w:dU}{mg:Str->Option aD}{base:eF}{x qual:Str}{st:fD}{f:aU}{fd:dR}{N ps:List Str}{k nl np:Nat}{g:Sd}(F:Fun K x qual st f fd)(S:FnScope N ps (ao st))(h1:N.length=nl)(h2:ps.length=np)
  (body:∀(cdv:aD) (A:cT) (outer:List Env) (s:aG) (H:Hp) (E:XK),Room k (A.deeper (lO qual (ao st) s.heap.objs.size f cdv))->SVs K (cxOf CX0 P w K mg base N qual (ao st) f cdv A outer s H E).nox (je st) g) :
  FnOk P w K mg base CX0 (k+1) f fd ps (spOf K np (fnD nl np g)):=by
 subst h1 h2;exact bb9 F S body
end Dn
namespace Mn
open L2
section
variable{X:Cx}
end
end Mn
namespace Dn
open L2 Mn
section
variable{K:Fg9}{X:Cx}
end
def mkSc{N P:List Str}{sc:iZ}(a:sc.kind=.function:=by rfl)(b:sc.isCoroutine=ZV:=by rfl)(c:sc.isGenerator=ZV:=by rfl)(e:N.take P.length=P:=by rfl)(d:N.Nodup/\(∀x∈P,sc.names.lookup x=ZY .local∨sc.names.lookup x=ZY .cell)/\∀y∈sc.names,y.2≠.free:=by decide +kernel):FnScope N P sc:=⟨a,b,c,d.1,e,d.2.1,d.2.2⟩
section
variable{K:Fg9}{X:Cx}{e a b o:cZ}{es:List cZ}{pos p p2:Pos}
def FldT(K:Fg9)(c f:Str):Prop:=∀C,nsIn K aX c=ZY (ZY (.ref C))->Cls K C/\ac4 K C f
def mLnk(c:Str)(i:Nat)(f:Str)(j:Nat):M Unit:=λρ=>match ρ[i]?,ρ[j]? with
 |some (.box c' fs),ZY (.own (ZY k) _)=>match fs.lookup f with
  |some (.inl k')=>if c'=c/\k'=k then ZY (.ok (),ρ) else ZX
  |_=>ZX
 |_,_=>ZX
def a7n{tg:Nat->aU}{F H:Hp}{ρ ρ':Ro}{σ:L2.St}(G:Good K tg F H ρ σ){c f:Str}{i j:Nat}{u:Unit}(hc:FldT K c f)(em:mLnk c i f j ρ=ZY (.ok u,ρ')) :
  ρ'=ρ/\∃a C dx fvs v,σ[i]? = ZY (ZY (.ref a))/\H a=ZY (.ins C dx fvs)/\Cls K C/\ac4 K C f/\fvs.lookup f=ZY v/\σ[j]? = ZY (ZY v):=by
 unfold mLnk at em;split at em
 ·rename_i c' fs k l ei ej;split at em
  ·rename_i k' hk;split at em
   ·rename_i hz;obtain⟨rfl,rfl⟩:=hz;cases em;obtain⟨oi,hoi,a,C,dx,fvs,rfl,hf,hh,hn,_,h1,_⟩:=G.at ei;obtain⟨oj,hoj,b,vs,rfl,_,_,_,ht⟩:=G.at ej;obtain⟨k1,k2⟩:=hc C hn;refine⟨rfl,a,C,dx,fvs,.ref b,hoi,hh,k1,k2,?_,hoj⟩;rw[h1 f _ hk,ht _ rfl]
   ·cases em
  ·cases em
 ·cases em
abbrev tAt(K:Fg9)(i:Nat)(f:Str):TE:=tFld K (tVar i) f
def a6o{i:Nat}{f:Str}(h:PE X o (tVar i))(hb:iB o f X.env (eval o X.env)=eval o X.env:=by rfl):PE X (.Attribute o f pos) (tAt X.K i f):=a6m h hb
def mFV(c:Str)(i:Nat)(f:Str):M D:=λρ=>match ρ[i]? with
 |some (.box c' fs)=>if c'=c then match fs.lookup f with
  |some (.inr d)=>ZY (.ok d,ρ)
  |_=>ZX
  else ZX
 |_=>ZX
def anj{c f:Str}{i:Nat}(hc:FldT K c f)(h:PE X o (tVar i))(hb:iB o f X.env (eval o X.env)=eval o X.env:=by rfl):EV K X (.Attribute o f pos) (mFV c i f):=EV.mk λhk=>by
 subst hk;refine PE.imp (a6o h hb) λσ H Q z9=>?_
 obtain⟨tg,F,ρ,d,ρ',G,em,q⟩:=z9;unfold mFV at em;split at em
 ·rename_i c' fs ei;split at em
  ·rename_i hz;subst hz;split at em
   ·rename_i d' hd;cases em;obtain⟨oi,hoi,a,C,dx,fvs,rfl,hf,hh,hn,_,_,h2⟩:=G.at ei;obtain⟨k1,k2⟩:=hc C hn;obtain⟨v,hv,iv⟩:=h2 f _ hd;exact⟨_,hoi,a,C,dx,fvs,v,rfl,hh,k1,k2,hv,q v H F G (Ext.refl _ _ _) iv⟩
   ·cases em
  ·cases em
 ·cases em
end
def _root_.L2.Inv.gh{X:Cx}{qv:List (aU×Obj)}{σ σ2:L2.St}{H:Hp}{s:aG}(I:Inv X qv σ H s)(hl:σ2.length=σ.length)(h:∀(i:Nat) (x:Str) (v:V),X.N[i]? = ZY x->σ2[i]? = ZY (ZY v)->Vis X.env.scope x->σ[i]? = ZY (ZY v)):Inv X qv σ2 H s:=by
 obtain⟨m,hm,hx⟩:=I.loc;exact⟨I.ok,I.os,I.bare,I.base,⟨m,hm,λi x v e q vis=>hx i x v e (h i x v e q vis) vis⟩,I.cell,I.free,I.freeC,I.pin,I.hok,hl.trans I.len⟩
def GH(X:Cx)(σ σ2:L2.St):Prop:=σ2.length=σ.length/\∀(i:Nat) (x:Str) (v:V),X.N[i]? = ZY x->σ2[i]? = ZY (ZY v)->Vis X.env.scope x->σ[i]? = ZY (ZY v)
def at6{X:Cx}{ss:List fD}{t:TS}(h:PSs X ss t):PSs X ss (λD σ H=>∃σ2,GH X σ σ2/\t D σ2 H):=λqv s σ H D I ⟨σ2,g,q⟩=>h qv s σ2 H D (I.gh g.1 g.2) q
theorem aj2{α β:Type}[BEq α]{f:α}:∀{a b:List (α×β)},(a++b).lookup f=(a.lookup f).or (b.lookup f)
 | [],b=>rfl
 | (g,x)::a,b=>by
  rw[dG];simp only[bJ];split
  ·rfl
  ·exact aj2
section
variable{K:Fg9}{X:Cx}{tg:Nat->aU}{F H:Hp}{ρ:Ro}{σ:L2.St}
def a2z{js:List (Option Nat)}{ds:List (Option D)}{vs gv:List V}{gs:List Nat}{a:aU}(ar:AR K F σ js ds vs)(hg:gv.length=gs.length)(hgv:∀(n j:Nat) (v:V),gs[n]? = ZY j->gv[n]? = ZY v->σ[j]? = ZY (ZY v)) :
  Lent K F σ ((V.ref a::(vs++gv)).map ZY) (ZX::(js++gs.map ZY)) (ZX::(ds++gs.map λ_=>ZX)):=by
 have L:=ar.lent;have l0:=ar.length;have l2:=L.l2;refine⟨by simp[hg,l0],by simp[l2],λi j o h q=>?_,λi d h q=>?_⟩
 ·cases i with
  |zero=>cases h
  |succ i=>
   rw[jP] at h;rw[bB,jP,aL]
   by_cases hi:i<js.length
   ·rw[bA hi] at h;have z:=L.h1 i j o h q;rw[aL] at z;rw[bA (by omega)]
    exact z
   ·rw[cR (by omega),aL] at h
    obtain⟨j',hj,e⟩:=cN.mp h;cases e;rw[cR (by omega),l0]
    have hlt:i-js.length<gv.length:=by rw[hg];exact(aH.mp hj).1
    have z:=hgv _ _ _ hj (aF hlt);rw[q] at z;rw[aF hlt];exact z.symm▸rfl
 ·cases i with
  |zero=>cases q
  |succ i=>
   rw[jP] at h q;rw[bB,jP,aL]
   by_cases hi:i<js.length
   ·rw[bA hi] at h;rw[bA (by omega)] at q
    obtain⟨v,hv,iv⟩:=L.h2 i d h q;rw[aL] at hv;rw[bA (by omega)]
    exact⟨v,hv,iv⟩
   ·rw[cR (by omega),aL] at h
    obtain⟨j',_,e⟩:=cN.mp h;cases e
end
structure DfnM (P:cA) (w:dU) (K:Fg9) (mg:Str->Option aD) (base:eF) (c m:Str) (ps:List Str) (k:Nat) (sp:Sp):Prop where
 ex:∃C f fd,nsIn K aX c=ZY (ZY (.ref C))/\Cls K C/\Meth K C m f/\FnOk P w K mg base CX0 k f fd ps sp/\Binds K fd ps []
def mIsB(c:Str)(i:Nat)(m:Str):M (List (Str×(Nat ⊕ D))):=λρ=>match ρ[i]? with
 |some (.box c' fs)=>if c'=c/\(fs.lookup m).isNone=ZW then ZY (.ok fs,ρ) else ZX
 |_=>ZX
def a73{K:Fg9}{tg:Nat->aU}{F H:Hp}{ρ ρ':Ro}{σ:L2.St}(G:Good K tg F H ρ σ){c m:Str}{i:Nat}{fs:List (Str×(Nat ⊕ D))}(em:mIsB c i m ρ=ZY (.ok fs,ρ')) :
  ρ'=ρ/\(ρ:List Sl)[i]? = ZY (.box c fs)/\∃a C dx fvs,σ[i]? = ZY (ZY (.ref a))/\F a=ZX/\H a=ZY (.ins C dx fvs)/\nsIn K aX c=ZY (ZY (.ref C))/\(∀f,fs.lookup f=ZX->fvs.lookup f=ZX)/\fvs.lookup m=ZX/\(∀f k,fs.lookup f=ZY (.inl k)->fvs.lookup f=ZY (.ref (tg k)))/\∀f d,fs.lookup f=ZY (.inr d)->∃v,fvs.lookup f=ZY v/\Is K F d v:=by
 unfold mIsB at em;split at em
 ·rename_i c' fs' ei;split at em
  ·rename_i hz;obtain⟨rfl,hm⟩:=hz;cases em;obtain⟨oi,hoi,a,C,dx,fvs,rfl,hf,hh,hn,h0,h1,h2⟩:=G.at ei;exact⟨rfl,ei,a,C,dx,fvs,hoi,hf,hh,hn,h0,h0 m (rR.mp hm),h1,h2⟩
  ·cases em
 ·cases em
noncomputable def ach:Sl->Bool
 |.box _ _=>ZV
 |_=>ZW
section
variable{K:Fg9}{X:Cx}{tg:Nat->aU}{F H F1 H1:Hp}{O O1:aU->Prop}{ρ:Ro}{σ:L2.St}
def Good.updN(G:Good K tg F H ρ σ)(hb:(ρ:List Sl).all ach=ZW){d:aU}(hf:F d=ZX)(hn:¬Own ρ σ d)(o:HO):Good K tg F (L2.upd H d o) ρ σ where
 sub:=λb u e=>by
  have hb:b≠d:=λz=>by subst z;rw[hf] at e;cases e
  rw[cg hb];exact G.sub b u e
 len:=G.len
 inj:=G.inj
 sl:=λi s o' e q=>by
  have z:=G.sl i s o' e q;cases s with
  |emp=>trivial
  |val _=>exact z
  |lol _=>exact z
  |lnk _=>exact z
  |box c fs=>exact absurd (bK.mp hb _ (cD e)) (by simp[ach])
  |own t l=>
   obtain⟨a,vs,e1,f,e2,h,ht⟩:=z;have ha:a≠d:=λz=>hn (z▸⟨i,⟨t,l,e⟩,by rw[q,e1]⟩)
   exact⟨a,vs,e1,f,by rw[cg ha];exact e2,h,ht⟩
inductive FdR (K:Fg9) (F H:Hp) (O:aU->Prop):List (Str×Rv)->List (Str×V)->List aU->Prop
 |nil:FdR K F H O [] [] []
 |v {f:Str} {d:D} {v:V} {rs:List (Str×Rv)} {fvs:List (Str×V)} {A:List aU} (h:Is K F d v) (t:FdR K F H O rs fvs A):FdR K F H O ((f,.v d)::rs) ((f,v)::fvs) A
 |fr {f:Str} {l:List D} {e:aU} {ws:List V} {rs:List (Str×Rv)} {fvs:List (Str×V)} {A:List aU} (hf:F e=ZX) (hn:¬O e) (hh:H e=ZY (.lst ws)) (h:IsL K F l ws) (ne:e∉A) (t:FdR K F H O rs fvs A):FdR K F H O ((f,.fr l)::rs) ((f,.ref e)::fvs) (e::A)
theorem FdR.step{rs:List (Str×Rv)}{fvs:List (Str×V)}{A:List aU}(h:FdR K F H O rs fvs A)(x:Ext O O1 F H F1 H1):FdR K F1 H1 O1 rs fvs A:=by
 induction h with
 |nil=>exact .nil
 |v h t ih=>exact .v (h.mono x.sub) ih
 | @fr f l e ws rs fvs A hf hn hh h ne t ih=>
  refine .fr ?_ (λz=>?_) (x.keep e _ hh hn) (h.mono x.sub) ne ih
  ·cases z:F1 e with
   |none=>rfl
   |some o=>
    rcases x.new e o z with z |z |z
    ·rw[hf] at z;cases z
    ·rw[hh] at z;cases z
    ·exact absurd z hn
  ·rcases x.own e z with z |z
   ·exact hn z
   ·rw[hh] at z;cases z
theorem FdR.out{rs:List (Str×Rv)}{fvs:List (Str×V)}{A:List aU}(h:FdR K F H O rs fvs A):∀e∈A,¬O e/\F e=ZX/\∃ws,H e=ZY (.lst ws)/\∃l,IsL K F l ws:=by
 induction h with
 |nil=>exact λe he=>absurd he nH
 |v h t ih=>exact ih
 | @fr f l e ws rs fvs A hf hn hh h ne t ih=>
  intro e' he;rcases bF.mp he with rfl |he
  ·exact⟨hn,hf,ws,hh,l,h⟩
  ·exact ih e' he
theorem FdR.upd{rs:List (Str×Rv)}{fvs:List (Str×V)}{A:List aU}{d:aU}{o:HO}(h:FdR K F H O rs fvs A)(hd:d∉A):FdR K F (L2.upd H d o) O rs fvs A:=by
 induction h with
 |nil=>exact .nil
 |v h t ih=>exact .v h (ih hd)
 | @fr f l e ws rs fvs A hf hn hh h ne t ih=>
  have h1:d≠e/\d∉A:=⟨λq=>hd (q▸List.mem_cons_self ..),λq=>hd (aK _ q)⟩
  exact .fr hf hn (by rw[cg (fO h1.1)];exact hh) h ne (ih h1.2)
theorem FdR.snocV{rs:List (Str×Rv)}{fvs:List (Str×V)}{A:List aU}(h:FdR K F H O rs fvs A){f:Str}{d:D}{v:V}(hd:Is K F d v):FdR K F H O (rs++[(f,.v d)]) (fvs++[(f,v)]) A:=by
 induction h with
 |nil=>exact .v hd .nil
 |v h t ih=>exact .v h ih
 |fr hf hn hh h ne t ih=>exact .fr hf hn hh h ne ih
theorem FdR.snocF{rs:List (Str×Rv)}{fvs:List (Str×V)}{A:List aU}(h:FdR K F H O rs fvs A){f:Str}{l:List D}{e:aU}{ws:List V}(h1:F e=ZX)(h2:¬O e)(h3:H e=ZY (.lst ws))(h4:IsL K F l ws)(h5:e∉A):FdR K F H O (rs++[(f,.fr l)]) (fvs++[(f,.ref e)]) (A++[e]):=by
 induction h with
 |nil=>exact .fr h1 h2 h3 h4 nH .nil
 |v h t ih=>exact .v h (ih h5)
 | @fr f' l' e' ws' rs fvs A hf hn hh h ne t ih=>
  have z:e≠e'/\e∉A:=⟨λq=>h5 (q▸List.mem_cons_self ..),λq=>h5 (aK _ q)⟩
  refine .fr hf hn hh h (λq=>?_) (ih z.2)
  rcases cX.mp q with q |q
  ·exact ne q
  ·rw[dO] at q;exact z.1 q.symm
theorem ak3{f:Str}{y:V}:∀{fs:List (Str×V)},fs.lookup f=ZX->putF f y fs=fs++[(f,y)]
 | [],_=>rfl
 | (g,x)::r,h=>by
  by_cases e:f=g
  ·subst e;rw[cG] at h;cases h
  ·have hb:(f==g)=ZV:=beq_eq_false_iff_ne.mpr e;simp only[bJ,hb] at h;show(if g=f then (g,y)::r else (g,x)::putF f y r)=_
   rw[if_neg (fO e),ak3 h];rfl
def Oa(ρ:Ro)(σ:L2.St)(a:aU)(A:List aU):aU->Prop:=λz=>Own ρ σ z∨z=a∨z∈A
def iniD:List (Str×M Rv)->Ro->Option (List (Str×Rv)×Ro)
 | [],ρ=>ZY ([],ρ)
 | (f,m)::r,ρ=>match m ρ with
  |some (.ok (.v d),ρ1)=>if (ρ1:List Sl).all ach=ZW then (iniD r ρ1).map λp=>((f,.v d)::p.1,p.2) else ZX
  |some (.ok (.fr l),ρ1)=>if (ρ1:List Sl).all ach=ZW then (iniD r ρ1).map λp=>((f,.fr l)::p.1,p.2) else ZX
  |_=>ZX
def TSi(K:Fg9)(C:aU)(fms:List (Str×M Rv)):TS:=λD σ H=>∃tg F ρ a dx rs0 fvs0 A0 rs ρ',Good K tg F H ρ σ/\σ[0]? = ZY (ZY (.ref a))/\H a=ZY (.ins C dx fvs0)/\F a=ZX/\FdR K F H (Own ρ σ) rs0 fvs0 A0/\fvs0.length+fms.length<1000 /\
 (∀f∈fms.map (·.1),fvs0.lookup f=ZX)/\(fms.map (·.1)).Nodup/\iniD fms ρ=ZY (rs,ρ') /\
 ∀H' F' fvs A,Good K tg F' H' ρ' σ->H' a=ZY (.ins C dx fvs)->F' a=ZX->FdR K F' H' (Own ρ' σ) (rs0++rs) fvs A->Ext (Oa ρ σ a A0) (Oa ρ' σ a A) F H F' H'->D.nx σ H'
structure SI (K:Fg9) (X:Cx) (C:aU) (ss:List fD) (fms:List (Str×M Rv)):Prop where
 go:X.K=K->PSs X ss (TSi K C fms)
def a5l{C:aU}:SI K X C [] []:=SI.mk λ_=>PSs.imp at5 λD σ H z9=>by
 obtain⟨tg,F,ρ,a,dx,rs0,fvs0,A0,rs,ρ',G,h0,h1,h2,h3,h4,h5,h6,em,q⟩:=z9;cases em;exact q H F fvs0 A0 G h1 h2 (by rw[eG];exact h3) (Ext.refl _ _ _)
def Ext.oa{ρ1:Ro}{a:aU}{A A1:List aU}{o:HO}(x:Ext (Own ρ σ) (Own ρ1 σ) F H F1 H1)(hA:∀z∈A1,z∈A∨Own ρ σ z∨H z=ZX):Ext (Oa ρ σ a A) (Oa ρ1 σ a A1) F H F1 (L2.upd H1 a o) where
 sub:=x.sub
 new:=λz u e=>(x.new z u e).imp id λh=>h.imp id .inl
 keep:=λz u e n=>by
  have hz:z≠a:=λq=>n (.inr (.inl q))
  rw[cg hz];exact x.keep z u e λq=>n (.inl q)
 own:=λz h=>by
  rcases h with h |h |h
  ·exact(x.own z h).imp .inl id
  ·exact .inl (.inr (.inl h))
  ·rcases hA z h with q |q |q
   ·exact .inl (.inr (.inr q))
   ·exact .inl (.inl q)
   ·exact .inr q
 there:=λz h=>by
  by_cases hz:z=a
  ·subst hz;rw[f9] at h;cases h
  ·rw[cg hz] at h;exact x.there z h
def aku{C:aU}{o e:cZ}{f:Str}{p2 pos:Pos}{m:M Rv}{ss:List fD}{fms:List (Str×M Rv)}(hcl:Cls K C)(hna:ac4 K C f)(hv:ER K X e m)(ho:PE X o (tVar 0))(t:SI K X C ss fms)(hs:gF e (ZY (.Attribute o f p2)) pos.line X.env=pure ZV:=by rfl) :
  SI K X C (.Assign [.Attribute o f p2] e pos::ss) ((f,m)::fms):=SI.mk λhk=>by
 subst hk;refine PSs.imp (ada (az2 ho (hv.go rfl) hs) (t.go rfl)) λD σ H z9=>?_
 obtain⟨tg,F,ρ,a,dx,rs0,fvs0,A0,rs,ρ',G,h0,h1,h2,h3,h4,h5,h6,em,q⟩:=z9;have hlk:fvs0.lookup f=ZX:=h5 f (aQ ..);rw[bB,jO] at h6;have h5':∀(y:V),∀g∈fms.map (·.1),(fvs0++[(f,y)]).lookup g=ZX:=λy g hg=>by
  rw[aj2,h5 g (aK _ hg)];have e:g≠f:=λz=>h6.1 (z▸hg)
  have hb:(g==f)=ZV:=beq_eq_false_iff_ne.mpr e;simp[bJ,hb]
 have h4':∀y:V,(fvs0++[(f,y)]).length+fms.length<1000:=λy=>by
  rw[cC];rw[bG] at h4;simp;omega
 have stay:∀{ρ1:Ro} {F1 H1:Hp},Ext (Own ρ σ) (Own ρ1 σ) F H F1 H1->H1 a=ZY (.ins C dx fvs0)/\F1 a=ZX/\¬Own ρ1 σ a:=λ{ρ1 F1 H1} x=>by
  have no:¬Own ρ σ a:=λz=>by
   obtain⟨_,vs,hv⟩:=G.ownAt z;rw[h1] at hv;cases hv
  refine⟨x.keep a _ h1 no,?_,λz=>?_⟩
  ·cases z:F1 a with
   |none=>rfl
   |some u=>
    rcases x.new a u z with z |z |z
    ·rw[h2] at z;cases z
    ·rw[h1] at z;cases z
    ·exact absurd z no
  ·rcases x.own a z with z |z
   ·exact no z
   ·rw[h1] at z;cases z
 have hA0:a∉A0:=λz=>by
  obtain⟨_,_,ws,hw,_⟩:=h3.out a z;rw[h1] at hw;cases hw
 unfold iniD at em;split at em
 ·rename_i d ρ1 e1;split at em
  ·rename_i hb;obtain⟨⟨rs1,ρ2⟩,e2,e3⟩:=cN.mp em;cases e3;refine⟨tg,F,ρ,.v d,ρ1,G,e1,λy H1 F1 G1 x1 rr=>⟨_,h0,a,C,dx,fvs0,rfl,(stay x1).1,hcl,hna,by omega,?_⟩⟩
   obtain⟨s1,s2,s3⟩:=stay x1;have rr:Is X.K F1 d y:=rr;rw[ak3 hlk];refine⟨tg,F1,ρ1,a,dx,rs0++[(f,.v d)],fvs0++[(f,y)],A0,rs1,ρ2,G1.updN hb s2 s3 _,h0,f9,s2,((h3.step x1).snocV rr).upd hA0,h4' y,h5' y,h6.2,e2,λH' F' fvs A G' g1 g2 g3 g4=>q H' F' fvs A G' g1 g2 (by rw[cU] at g3;exact g3) ((Ext.oa (o:=.ins C dx (fvs0++[(f,y)])) x1 λz hz=>.inl hz).trans g4)⟩
  ·cases em
 ·rename_i l ρ1 e1;split at em
  ·rename_i hb;obtain⟨⟨rs1,ρ2⟩,e2,e3⟩:=cN.mp em;cases e3;refine⟨tg,F,ρ,.fr l,ρ1,G,e1,λy H1 F1 G1 x1 rr=>⟨_,h0,a,C,dx,fvs0,rfl,(stay x1).1,hcl,hna,by omega,?_⟩⟩
   obtain⟨s1,s2,s3⟩:=stay x1;obtain⟨b,ws,rfl,hb1,hb2,hb3,hb4,hb5⟩:=rr;have hbA:b∉A0:=λz=>by
    obtain⟨o1,_,ws',hw,_⟩:=h3.out b z;rcases hb1 with q |q
    ·rw[hw] at q;cases q
    ·exact o1 q
   have hba:a≠b:=λz=>by
    subst z;rw[s1] at hb3;cases hb3
   rw[ak3 hlk];refine⟨tg,F1,ρ1,a,dx,rs0++[(f,.fr l)],fvs0++[(f,.ref b)],A0++[b],rs1,ρ2,G1.updN hb s2 s3 _,h0,f9,s2,((h3.step x1).snocF hb2 hb5 hb3 hb4 hbA).upd (λz=>by
    rcases cX.mp z with z |z
    ·exact hA0 z
    ·rw[dO] at z;exact hba z),h4' _,h5' _,h6.2,e2,λH' F' fvs A G' g1 g2 g3 g4=>q H' F' fvs A G' g1 g2 (by rw[cU] at g3;exact g3) ((Ext.oa (o:=.ins C dx (fvs0++[(f,.ref b)])) x1 λz hz=>?_).trans g4)⟩
   rcases cX.mp hz with q |q
   ·exact .inl q
   ·rw[dO] at q;subst q;exact .inr hb1.symm
  ·cases em
 ·cases em
end
def atg(K:Fg9)(n nl:Nat)(fms:List (Str×M Rv))(C:aU):Sp:=λvs H Q _=>vs.length=n/\∃a dx F as rs ρ',vs[0]? = ZY (.ref a)/\H a=ZY (.ins C dx [])/\F a=ZX/\Good K (tgOf (vs.map ZY)) F H as (vs.map ZY)/\iniD fms (as++aJ (nl-n) .emp)=ZY (rs,ρ') /\
 ∀H' F' fvs A O',Same F' H'->H' a=ZY (.ins C dx fvs)->F' a=ZX->FdR K F' H' O' rs fvs A->Ext (λz=>Own as (vs.map ZY) z∨z=a) (λz=>O' z∨z=a∨z∈A) F H F' H'->Fin K F' H' (vs.map ZY) (ρ'.take n) O'->Q .non H'
def a8e{K:Fg9}{P:cA}{w:dU}{mg:Str->Option aD}{base:eF}{x qual:Str}{st:fD}{f:aU}{fd:dR}{N ps:List Str}{k nl np:Nat}{fms:List (Str×M Rv)}{C:aU}(F:Fun K x qual st f fd)(S:FnScope N ps (ao st))(h1:N.length=nl)(h2:ps.length=np)
  (hnd:(fms.map (·.1)).Nodup) (hsz:fms.length<1000)
  (body:∀(cdv:aD) (A:cT) (outer:List Env) (s:aG) (H:Hp) (E:XK),Room k (A.deeper (lO qual (ao st) s.heap.objs.size f cdv))->SI K (cxOf CX0 P w K mg base N qual (ao st) f cdv A outer s H E).nox C (je st) fms) :
  FnOk P w K mg base CX0 (k+1) f fd ps (atg K np nl fms C):=by
 subst h1 h2;refine F.ok S (λvs H Q E h=>h.1) (λcdv A outer s H vs Q E hr h=>⟨_,(body cdv A outer s H E hr).go rfl,?_⟩)
 obtain⟨hn,a,dx,F,as,rs,ρ',h0,hH,hF,G,em,q⟩:=h;have hl:as.length=(vs.map ZY).length:=G.len;have G1:=G.app (N.length-vs.length);rw[<-hn] at em;have hs0:(L2.start N vs)[0]? = ZY (ZY (.ref a)):=by
  unfold L2.start;have hlt:0<vs.length:=(aH.mp h0).1;rw[bA (by rw[aC];exact hlt),aL,h0]
  rfl
 refine⟨_,F,_,a,dx,[],[],[],rs,ρ',G1,hs0,hH,hF,.nil,by simpa using hsz,λ_ _=>rfl,hnd,em,λH' F' fvs A' G' g1 g2 g3 g4=>?_⟩
 refine q H' F' fvs A' (Own ρ' (L2.start N vs)) G'.sub g1 g2 g3 ?_ ⟨λi l e=>?_⟩
 ·have e:Oa (as++aJ (N.length-vs.length) .emp) (L2.start N vs) a []=λz=>Own as (vs.map ZY) z∨z=a:=by
   funext z
   unfold Oa L2.start;rw[ul hl];simp
  rw[e] at g4;exact g4
 ·have hi:=(aH.mp e).1;rw[eX] at hi;rw[fM (by omega)] at e
  obtain⟨o,ho,b,ws,rfl,hf,hh,hl,ht⟩:=G'.at e;rw[ht i rfl];exact⟨⟨i,⟨_,_,e⟩,ho⟩,hf,ws,hh,hl⟩
noncomputable def tagB:Sl->Bool
 |.own (ZY k) _=>decide (k<1000)
 |.box _ _=>ZV
 |.lol _=>ZV
 |.lnk _=>ZV
 |_=>ZW
section
variable{K:Fg9}{X:Cx}{tg tg1:Nat->aU}{F H F1 H1:Hp}{ρ:Ro}{σ:L2.St}
def Good.retag(G:Good K tg F H ρ σ)(hb:(ρ:List Sl).all tagB=ZW)(h:∀k,k<1000->tg k=tg1 k):Good K tg1 F H ρ σ where
 sub:=G.sub
 len:=G.len
 inj:=G.inj
 sl:=λi s o e q=>by
  have z:=G.sl i s o e q;have t:=bK.mp hb _ (cD e);cases s with
  |emp=>trivial
  |val _=>exact z
  |box c fs=>cases t
  |lol _=>cases t
  |lnk _=>cases t
  |own t' l=>
   obtain⟨a,vs,e1,f,e2,h',ht⟩:=z;refine⟨a,vs,e1,f,e2,h',λk ek=>?_⟩
   subst ek;have t:decide (k<1000)=ZW:=t;rw[<-h k (of_decide_eq_true t)];exact ht k rfl
noncomputable def offs(ρ:Ro):List Nat->Ro
 | []=>ρ
 |j::js=>offs (bC ρ j .emp) js
theorem Good.offs(G:Good K tg F H ρ σ):∀{js:List Nat},Good K tg F H (Dn.offs ρ js) σ/\∀z,Own (Dn.offs ρ js) σ z->Own ρ σ z:=λ{js}=>by
 induction js generalizing ρ with
 |nil=>exact⟨G,λ_ h=>h⟩
 |cons j js ih=>
  obtain⟨g,h⟩:=ih (G.drop j);exact⟨g,λz hz=>(aex (h z hz)).1⟩
def mkFs:List (Str×Rv)->Nat->List (Str×(Nat ⊕ D))
 | [],_=>[]
 | (f,.v d)::r,n=>(f,.inr d)::mkFs r n
 | (f,.fr _)::r,n=>(f,.inl (1000+n))::mkFs r (n+1)
 | (f,.tf _ _)::r,n=>(f,.inl 0)::mkFs r n
theorem a2u{O:aU->Prop}{rs:List (Str×Rv)}{fvs:List (Str×V)}{A:List aU}(h:FdR K F H O rs fvs A):∀{n:Nat},(∀(m:Nat) (e:aU),A[m]? = ZY e->tg1 (1000+(n+m))=e) ->
  (∀f,(mkFs rs n).lookup f=ZX->fvs.lookup f=ZX)/\(∀f k,(mkFs rs n).lookup f=ZY (.inl k)->fvs.lookup f=ZY (.ref (tg1 k)))/\∀f d,(mkFs rs n).lookup f=ZY (.inr d)->∃v,fvs.lookup f=ZY v/\Is K F d v:=by
 induction h with
 |nil=>
  intro n _;refine⟨λ_ _=>rfl,λ_ _ h=>?_,λ_ _ h=>?_⟩
  ·cases h
  ·cases h
 | @v g d v rs fvs A h t ih=>
  intro n ht;obtain⟨i1,i2,i3⟩:=ih (n:=n) ht;refine⟨λf hf=>?_,λf k hf=>?_,λf d' hf=>?_⟩
  all_goals (unfold mkFs at hf;by_cases e:f=g)
  ·subst e;rw[cG] at hf;cases hf
  ·have hb:(f==g)=ZV:=beq_eq_false_iff_ne.mpr e;simp only[bJ,hb] at hf ⊢
   exact i1 f hf
  ·subst e;rw[cG] at hf;cases hf
  ·have hb:(f==g)=ZV:=beq_eq_false_iff_ne.mpr e;simp only[bJ,hb] at hf ⊢
   exact i2 f k hf
  ·subst e;rw[cG] at hf ⊢
   cases hf;exact⟨v,rfl,h⟩
  ·have hb:(f==g)=ZV:=beq_eq_false_iff_ne.mpr e;simp only[bJ,hb] at hf ⊢
   exact i3 f d' hf
 | @fr g l e0 ws rs fvs A hf0 hn hh h ne t ih=>
  intro n ht;have hte:tg1 (1000+n)=e0:=ht 0 e0 rfl;obtain⟨i1,i2,i3⟩:=ih (n:=n+1) (λm e' he'=>by
   have:=ht (m+1) e' (by simpa using he')
   rw[show n+1+m=n+(m+1) by omega]
   exact this)
  refine⟨λf hf=>?_,λf k hf=>?_,λf d' hf=>?_⟩
  all_goals (unfold mkFs at hf;by_cases e:f=g)
  ·subst e;rw[cG] at hf;cases hf
  ·have hb:(f==g)=ZV:=beq_eq_false_iff_ne.mpr e;simp only[bJ,hb] at hf ⊢
   exact i1 f hf
  ·subst e;rw[cG] at hf ⊢
   cases hf;rw[hte]
  ·have hb:(f==g)=ZV:=beq_eq_false_iff_ne.mpr e;simp only[bJ,hb] at hf ⊢
   exact i2 f k hf
  ·subst e;rw[cG] at hf;cases hf
  ·have hb:(f==g)=ZV:=beq_eq_false_iff_ne.mpr e;simp only[bJ,hb] at hf ⊢
   exact i3 f d' hf
end
structure DfnI (P:cA) (w:dU) (K:Fg9) (mg:Str->Option aD) (base:eF) (c:Str) (ps:List Str) (k:Nat) (sp:aU->Sp):Prop where
 ex:∃C f fd,nsIn K aX c=ZY (ZY (.ref C))/\mg c=ZY (.ref C)/\Mk K C f/\FnOk P w K mg base CX0 k f fd ps (sp C)/\Binds K fd ps []
def Fin.mono{K:Fg9}{F' H':Hp}{τ:L2.St}{ps:Ro}{O O':aU->Prop}(h:Fin K F' H' τ ps O)(w:∀z,O z->O' z):Fin K F' H' τ ps O':=⟨λi l e=>let ⟨a,b,c⟩:=h.at' i l e;⟨w _ a,b,c⟩⟩
def Ext.imp{O O1 O2:aU->Prop}{F H F1 H1:Hp}(x:Ext O O1 F H F1 H1)(w:∀z,O2 z->O1 z):Ext O O2 F H F1 H1:=⟨x.sub,x.new,x.keep,λz h=>x.own z (w z h),x.there⟩
theorem axj{K:Fg9}{r:Rv}{v:V}{H:Hp}{O:aU->Prop}{F' H':Hp}{O1 O2:aU->Prop}(w:∀z,O2 z->O1 z)(h:relR K r v H O F' H' O1):relR K r v H O F' H' O2:=by
 cases r with
 |v d=>exact h
 |fr l=>
  obtain⟨a,vs,e,h1,h2,h3,h4,h5⟩:=h;exact⟨a,vs,e,h1,h2,h3,h4,λz=>h5 (w _ z)⟩
 |tf d l=>
  obtain⟨t,u,a,vs,e,h1,h2,h3,h4,h5,h6,h7⟩:=h;exact⟨t,u,a,vs,e,h1,h2,h3,h4,h5,h6,λz=>h7 (w _ z)⟩
theorem FlOk.off{K:Fg9}{tg tg1:Nat->aU}{ρ ρ4:Ro}{σ:L2.St}{F H:Hp}{E:Ends}{fl:Fl}{js:List Nat}(ht:∀k,k<1000->tg1 k=tg k)(hb:(offs ρ4 js:List Sl).all tagB=ZW)(q:FlOk K tg ρ σ F H E fl (offs ρ4 js)):FlOk K tg1 ρ σ F H E fl ρ4:=by
 have go:∀{σ':L2.St} {H' F':Hp},Good K tg1 F' H' ρ4 σ'->Good K tg F' H' (offs ρ4 js) σ'/\∀z,Own (offs ρ4 js) σ' z->Own ρ4 σ' z:=λG=>by
  obtain⟨g,h⟩:=G.offs (js:=js);exact⟨g.retag hb ht,h⟩
 cases fl with
 |nx=>exact λσ' H' F' G' x'=>let ⟨g,h⟩:=go G';q σ' H' F' g (x'.imp h)
 |brk=>exact λσ' H' F' G' x'=>let ⟨g,h⟩:=go G';q σ' H' F' g (x'.imp h)
 |cont=>exact λσ' H' F' G' x'=>let ⟨g,h⟩:=go G';q σ' H' F' g (x'.imp h)
 |ret r=>exact λv σ' H' F' G' x' rr=>let ⟨g,h⟩:=go G';q v σ' H' F' g (x'.imp h) (axj h rr)
 |exc _=>exact q
def a0n(s:fD)(n:Nat):fD:=match s with
 |.ClassDef _ _ _ b _ _ _ _ _ _ _=>b.getD n s
 |_=>s
def boxB(K:Fg9)(C:aU)(fs:List Str):Bool:=lA K C Str.empty&&gR K C&&pN K C&&(iV K (.ref C) "__setattr__" == ZY (ZY (.builtin "object.__setattr__")))&&nT K C&&jW K (.ref C)&&fs.all λf=>iV K (.ref C) f==ZY ZX
section
variable{K:Fg9}{C:aU}{fs:List Str}{c f m:Str}
def al3(e:boxB K C fs=ZW):Cls K C/\nT K C=ZW/\jW K (.ref C)=ZW/\∀f∈fs,ac4 K C f:=by
 unfold boxB at e;simp only[bD,beq_iff_eq,bK] at e;obtain⟨⟨⟨⟨⟨⟨a,b⟩,c⟩,d⟩,g⟩,h⟩,i⟩:=e;exact⟨⟨a,b,c,d⟩,g,h,λf hf=>i f hf⟩
def alv(a:nsIn K aX c=ZY (ZY (.ref C)))(e:boxB K C fs=ZW)(h:fs.contains f=ZW):FldT K c f:=λC' h'=>by
 rw[a] at h';cases h';obtain⟨x,_,_,y⟩:=al3 e;exact⟨x,y f (dY.mp h)⟩
def a3w{P:cA}{w:dU}{mg:Str->Option aD}{base:eF}{fa:aU}{fd:dR}{ps:List Str}{k:Nat}{sp:Sp}(a:nsIn K aX c=ZY (ZY (.ref C)))(e:boxB K C fs=ZW)(b:iV K (.ref C) m=ZY (ZY (.ref fa)))(h1:kJ K (.ref fa)=ZW)(h2:jW K (.ref fa)=ZW)
  (F:FnOk P w K mg base CX0 k fa fd ps sp) (B:Binds K fd ps []):DfnM P w K mg base c m ps k sp:=⟨C,fa,fd,a,(al3 e).1,⟨b,h1,h2⟩,F,B⟩
def a3x{P:cA}{w:dU}{mg:Str->Option aD}{base:eF}{fa:aU}{fd:dR}{ps:List Str}{k:Nat}{sp:aU->Sp}(a:nsIn K aX c=ZY (ZY (.ref C)))(g:mg c=ZY (.ref C))(e:boxB K C fs=ZW)(b:iV K (.ref C) "__init__"=ZY (ZY (.ref fa)))(h1:kJ K (.ref fa)=ZW)
  (F:FnOk P w K mg base CX0 k fa fd ps (sp C)) (B:Binds K fd ps []):DfnI P w K mg base c ps k sp:=⟨C,fa,fd,a,g,⟨(al3 e).2.1,b,h1,(al3 e).2.2.1⟩,F,B⟩
end
def ghB(N:List Str)(gs:List Nat)(sc:iZ):Bool:=gs.all λj=>match N[j]? with
 |some y=>(sc.names.lookup y).isNone
 |none=>ZW
def bb1{N:List Str}{gs:List Nat}{sc:iZ}(h:ghB N gs sc=ZW):∀j∈gs,∀y,N[j]? = ZY y->¬Vis sc y:=λj hj y hy v=>by
 have z:=bK.mp h j hj;rw[hy] at z;have z:sc.names.lookup y=ZX:=rR.mp z;rcases v with v |v |v <;> (rw[z] at v;cases v)
section
variable{K:Fg9}{X:Cx}
def gAbs:D->Option Rv
 |.int i=>ZY (.v (.int (if i<0 then -i else i)))
 |_=>ZX
@[simp] theorem a99(i:Int):gAbs (.int i)=ZY (.v (.int (if i<0 then -i else i))):=rfl
theorem a80:CallD K X (.builtin "abs") (g1 gAbs):=cd_one λhk qv s σ0 H x u Q tg F ρ σ d r I ru G bd eg q=>by
 subst hk;cases d with
 |int i=>
  cases eg;obtain rfl:=bd.int;exact azd qv s σ0 H [_] [u] Q I (.cons ru .nil) ⟨i,rfl,Res.same G q (.int _)⟩
 |_=>cases eg
end
def aoe:Option Sl->Sl
 |some (.val d)=>.val d
 |some (.own _ l)=>.val (.lst l)
 |_=>.emp
def seen(ρ:Ro):List (Option Nat)->List (Option D)->Ro
 |none::js,ZY d::ds=>.val d::seen ρ js ds
 |some j::js,ZX::ds=>aoe ((ρ:List Sl)[j]?)::seen ρ js ds
 |_,_=>[]
def isI:D->Bool
 |.int _=>ZW
 |_=>ZV
theorem a8g{K:Fg9}{F F':Hp}:∀{l:List D} {ws:List V},l.all isI=ZW->IsL K F l ws->IsL K F' l ws
 |_,_,_,.nil=>.nil
 |d::l,_,h,.cons a t=>by
  rw[jR,bD] at h;refine .cons ?_ (a8g h.2 t);cases d with
  |int i=>cases a;exact .int i
  |_=>cases h.1
section
variable{K:Fg9}{tg:Nat->aU}{F H:Hp}{ρ:Ro}{σ:L2.St}
open Classical in
noncomputable def Fc(ρ:Ro)(σ:L2.St)(F H:Hp):Hp:=λb=>if Own ρ σ b then H b else F b
def arf(G:Good K tg F H ρ σ):Same F (Fc ρ σ F H):=λb o e=>by
 unfold Fc
 by_cases w:Own ρ σ b
 ·rw[(G.ownAt w).1] at e;cases e
 ·rw[if_neg w];exact e
def bcr(G:Good K tg F H ρ σ):Same (Fc ρ σ F H) H:=λb o e=>by
 unfold Fc at e
 by_cases w:Own ρ σ b
 ·rw[if_pos w] at e;exact e
 ·rw[if_neg w] at e;exact G.sub b o e
theorem akv:∀{js:List (Option Nat)} {ds:List (Option D)} {vs:List V},AR K F σ js ds vs->(seen ρ js ds).length=vs.length
 |_,_,_,.nil=>rfl
 |_,_,_,.ex _ t=>by
  show(seen ρ _ _).length+1=_;rw[akv t];rfl
 |_,_,_,.nm _ t=>by
  show(seen ρ _ _).length+1=_;rw[akv t];rfl
theorem seen_own:∀{js:List (Option Nat)} {ds:List (Option D)} {vs:List V},AR K F σ js ds vs->∀(i:Nat) (t:Option Nat) (l:List D),(seen ρ js ds:List Sl)[i]? ≠ ZY (.own t l)
 |_,_,_,.nil,i,t,l=>by simp[seen]
 |_,_,_,.ex _ r,i,t,l=>by
  cases i with
  |zero=>intro e;cases e
  |succ i=>exact seen_own r i t l
 |_,_,_,.nm (j:=j) _ r,i,t,l=>by
  cases i with
  |zero=>
   intro e;have e:ZY (aoe ((ρ:List Sl)[j]?))=ZY (.own t l):=e;unfold aoe at e;split at e <;> cases e
  |succ i=>exact seen_own r i t l
theorem aod(G:Good K tg F H ρ σ){tg':Nat->aU}{H':Hp}:∀{js:List (Option Nat)} {ds:List (Option D)} {vs:List V},AR K F σ js ds vs->∀(i:Nat) (s:Sl) (o:Option V),(seen ρ js ds:List Sl)[i]? = ZY s->(vs.map ZY)[i]? = ZY o->SlOk K tg' (Fc ρ σ F H) H' s o
 |_,_,_,.nil,i,s,o,e,_=>by simp[seen] at e
 |_,_,_,.ex h r,i,s,o,e,q=>by
  cases i with
  |zero=>
   cases e;cases q;exact⟨_,rfl,h.mono (arf G)⟩
  |succ i=>exact aod G r i s o e q
 |_,_,_,.nm (j:=j) (v:=v) h r,i,s,o,e,q=>by
  cases i with
  |zero=>
   have e:ZY (aoe ((ρ:List Sl)[j]?))=ZY s:=e;cases q;cases es:(ρ:List Sl)[j]? with
   |none=>rw[es] at e;cases e;trivial
   |some s0=>
    rw[es] at e;have z:=G.sl j s0 _ es h;cases s0 with
    |emp=>cases e;trivial
    |val d=>
     cases e;obtain⟨v',e1,hi⟩:=z;cases e1;exact⟨_,rfl,hi.mono (arf G)⟩
    |own t l=>
     cases e;obtain⟨a,ws,e1,hf,hh,hl,_⟩:=z;cases e1;refine⟨_,rfl,.lst (vs:=ws) ?_ (hl.mono (arf G))⟩;unfold Fc;rw[if_pos ⟨j,⟨t,l,es⟩,h⟩];exact hh
    |box c fs=>cases e;trivial
    |lol _=>cases e;trivial
    |lnk _=>cases e;trivial
  |succ i=>exact aod G r i s o e q
end
section
variable{K:Fg9}{X:Cx}{e:cZ}{es:List cZ}{pos p:Pos}
end
@[simp] theorem a9d(ρ:Ro):seen ρ [] []=[]:=rfl
@[simp] theorem bct(ρ:Ro)(js:List (Option Nat))(d:D)(ds:List (Option D)):seen ρ (ZX::js) (ZY d::ds)=.val d::seen ρ js ds:=rfl
@[simp] theorem bcu(ρ:Ro)(j:Nat)(js:List (Option Nat))(ds:List (Option D)):seen ρ (ZY j::js) (ZX::ds)=aoe ((ρ:List Sl)[j]?)::seen ρ js ds:=rfl
@[simp] theorem bas(d:D):aoe (ZY (.val d))=.val d:=rfl
@[simp] theorem bau(t:Option Nat)(l:List D):aoe (ZY (.own t l))=.val (.lst l):=rfl
end Dn
namespace Kst
open PySem PySem.W PyProof.Rows
structure Od (n:Nat) (c:Nat->Nat->Bool):Prop where
 tr:∀i j k,c i j=ZW->c j k=ZW->c i k=ZW
 to:∀i j,i<n->j<n->i≠j->c i j=ZV->c j i=ZW
def Asks(n:Nat)(c:Nat->Nat->Bool)(cmp:Nat->Nat->(Bool->aG->Prop)->aG->Prop)(s:aG):Prop:=∀i j,i<n->j<n->∀C:Bool->aG->Prop,C (c i j) s->cmp i j C s
structure Pm (n:Nat) (p:Array Nat):Prop where
 pm:p.toList.Perm (aV n)
section
variable{n:Nat}{c:Nat->Nat->Bool}{cmp:Nat->Nat->(Bool->aG->Prop)->aG->Prop}{s:aG}{p:Array Nat}
def Pm.size(h:Pm n p):p.size=n:=by have:=h.pm.length_eq;simpa using this
def Pm.get(h:Pm n p){k:Nat}(hk:k<n):p[k]? = ZY (p.getD k 0):=by
 have:=h.size;have h':k<p.size:=by omega
 simp[vD,h']
def Pm.lt(h:Pm n p){k:Nat}(hk:k<n):p.getD k 0<n:=by
 have e:=h.get hk;have m:p.getD k 0∈p.toList:=by
  rw[<-tO] at e;exact cD e
 have:=h.pm.mem_iff.mp m
 simpa using this
def Pm.inj(h:Pm n p){i j:Nat}(hi:i<n)(hj:j<n)(e:p.getD i 0=p.getD j 0):i=j:=by
 have nd:p.toList.Nodup:=h.pm.nodup_iff.mpr List.nodup_range;have e1:=h.get hi;have e2:=h.get hj;rw[<-tO] at e1 e2;have s1:=h.size;exact(uW (by simpa[s1] using hi) nd).mp (by rw[e1,e2,e])
def Srt(c:Nat->Nat->Bool)(p:Array Nat)(m:Nat):Prop:=∀i j,i<j->j<m->c (p.getD i 0) (p.getD j 0)=ZW
theorem azr(O:Od n c){m:Nat}(h:∀k,1<=k->k<m->c (p.getD (k-1) 0) (p.getD k 0)=ZW):Srt c p m:=by
 intro i j hij hj
 induction j with
 |zero=>omega
 |succ j ih=>
  have a:=h (j+1) (by omega) hj
  rw[pD] at a
  by_cases e:i=j
  ·subst e;exact a
  ·exact O.tr _ _ _ (ih (by omega) (by omega)) a
theorem awu(A:Asks n c cmp s)(hp:Pm n p){Q:Nat->aG->Prop}:∀f a,1<=a->a+f<=n->(∀m,a<=m->m<=a+f->(∀k,a<=k->k<m->c (p.getD k 0) (p.getD (k-1) 0)=ZV)->(m<a+f->c (p.getD m 0) (p.getD (m-1) 0)=ZW)->Q m s)->(kas_asc p f a).kasWp cmp Q s
 | 0,a,_,_,h=>h a (aM _) (aM _) (λk _ _=>by omega) (λ_=>by omega)
 |f+1,a,h1,h2,h=>A _ _ (hp.lt (by omega)) (hp.lt (by omega)) _ (by
   cases e:c (p.getD a 0) (p.getD (a-1) 0) with
   |true=>
    dsimp only;rw[if_pos rfl];exact h a (aM _) (by omega) (λk _ _=>by omega) λ_=>e
   |false=>
    dsimp only;rw[if_neg (by simp)]
    exact awu A hp f (a+1) (by omega) (by omega) λm x1 x2 x3 x4=>h m (by omega) (by omega) (λk k1 k2=>by
     by_cases q:k=a
     ·subst q;exact e
     ·exact x3 k (by omega) k2) λq=>x4 (by omega))
theorem av5(A:Asks n c cmp s)(O:Od n c)(hp:Pm n p){Q:Array Nat×Nat×Nat->aG->Prop}:∀f a,1<=a->a+f<=n->(∀k,1<=k->k<a->c (p.getD k 0) (p.getD (k-1) 0)=ZW)->(∀m,a<=m->m<=a+f->(∀k,1<=k->k<m->c (p.getD k 0) (p.getD (k-1) 0)=ZW)->Q (p,m,0) s)->(kas_desc f p a 0).kasWp cmp Q s
 | 0,a,_,_,hs,h=>h a (aM _) (aM _) hs
 |f+1,a,h1,h2,hs,h=>A _ _ (hp.lt (by omega)) (hp.lt (by omega)) _ (by
   cases e:c (p.getD a 0) (p.getD (a-1) 0) with
   |true=>
    dsimp only;rw[if_pos rfl,if_neg (by omega)]
    exact av5 A O hp f (a+1) (by omega) (by omega) (λk k1 k2=>by
     by_cases q:k=a
     ·subst q;exact e
     ·exact hs k k1 (by omega)) λm x1 x2 x3=>h m (by omega) (by omega) x3
   |false=>
    dsimp only;rw[if_neg (by simp)]
    refine A _ _ (hp.lt (by omega)) (hp.lt (by omega)) _ ?_
    rw[O.to _ _ (hp.lt (by omega)) (hp.lt (by omega)) (λq=>by have:=hp.inj (by omega) (by omega) q;omega) e]
    dsimp only;rw[if_pos rfl];exact h a (aM _) (by omega) hs)
def azw(hp:Pm n p)(i j:Nat):Pm n (kas_rev p i j):=⟨(lZ.mp (mirror_perm p i j _)).trans hp.pm⟩
def atw(hp:Pm n p){m:Nat}(hm:m<=n){k:Nat}(hk:k<m):(kas_rev p 0 m).getD k 0=p.getD (m-1-k) 0:=by
 have e:=getElem?_mirror_all (xs:=p) (i:=0) (j:=m) (by rw[hp.size];exact hm) k
 rw[if_pos ⟨Nat.zero_le _,hk⟩,hp.get (by omega)] at e
 have e2:=(azw hp 0 m).get (k:=k) (by omega)
 unfold kas_rev at e2 ⊢
 rw[e2] at e;have:=bL e;rw[this]
 congr 1
 omega
def flip(O:Od n c)(hp:Pm n p){i j:Nat}(hi:i<n)(hj:j<n)(h:i≠j)(e:c (p.getD i 0) (p.getD j 0)=ZV):c (p.getD j 0) (p.getD i 0)=ZW :=
 O.to _ _ (hp.lt hi) (hp.lt hj) (λq=>h (hp.inj hi hj q)) e
def a03(A:Asks n c cmp s)(O:Od n c)(hp:Pm n p){m:Nat}(h1:1<=m)(hm:m<=n)(hd:∀k,1<=k->k<m->c (p.getD k 0) (p.getD (k-1) 0)=ZW){Q:Nat×Array Nat->aG->Prop}
  (h:∀m' p',1<=m'->m'<=n->Pm n p'->Srt c p' m'->Q (m',p') s):(kas_tail3 m n p).kasWp cmp Q s:=by
 unfold kas_tail3;rw[lV];have hr:=azw hp 0 m;refine awu A hr _ _ h1 (by omega) λm' x1 x2 x3 _=>?_
 refine h m' _ (by omega) (by omega) hr (azr O λk k1 k2=>?_)
 by_cases q:k<m
 ·rw[atw hp hm q,atw hp hm (k:=k-1) (by omega)]
  have:=hd (m-1-(k-1)) (by omega) (by omega)
  rwa[show m-1-(k-1)-1=m-1-k by omega] at this
 ·exact flip O hr (by omega) (by omega) (by omega) (x3 k (by omega) k2)
def ay7(A:Asks n c cmp s)(O:Od n c)(hp:Pm n p)(h2:2<=n){Q:Nat×Array Nat->aG->Prop}
  (h:∀m' p',1<=m'->m'<=n->Pm n p'->Srt c p' m'->Q (m',p') s):(kas_count n p).kasWp cmp Q s:=by
 unfold kas_count;rw[lV];refine awu A hp _ _ (aM _) (by omega) λm x1 x2 x3 x4=>?_
 have hs:Srt c p m:=azr O λk k1 k2=>flip O hp (by omega) (by omega) (by omega) (x3 k k1 k2)
 by_cases q:m=n
 ·rw[if_pos (by simp[q])]
  exact h m p x1 (by omega) hp hs
 ·rw[if_neg (by simp[q])]
  by_cases q1:m > 1
  ·rw[if_pos q1];refine A _ _ (hp.lt (by omega)) (hp.lt (by omega)) _ ?_
   rw[hs 0 (m-1) (by omega) (by omega)]
   dsimp only;rw[if_pos rfl];exact h m p x1 (by omega) hp hs
  ·rw[if_neg q1];have e1:m=1:=by omega
   subst e1;have y:=x4 (by omega)
   unfold kas_descPart;rw[lV];refine av5 A O hp _ _ (by omega) (by omega) (λk k1 k2=>?_) λm y1 y2 y3=>?_
   ·have:k=1:=by omega
    subst this;exact y
   ·dsimp only;rw[if_neg (by omega)]
    exact a03 A O hp (by omega) (by omega) y3 h
theorem ak6(A:Asks n c cmp s)(O:Od n c)(hp:Pm n p){k:Nat}(hk:k<n)(hs:Srt c p k){Q:Nat->aG->Prop}:∀f l r,l<=r->r<=k->r-l<=f->(∀i,i<l->c (p.getD i 0) (p.getD k 0)=ZW)->(∀i,r<=i->i<k->c (p.getD k 0) (p.getD i 0)=ZW) ->
  (∀l',l'<=k->(∀i,i<l'->c (p.getD i 0) (p.getD k 0)=ZW)->(∀i,l'<=i->i<k->c (p.getD k 0) (p.getD i 0)=ZW)->Q l' s)->(kas_place p k f l r).kasWp cmp Q s
 | 0,l,r,h1,h2,h3,a,b,h=>h l (by omega) a λi i1 i2=>b i (by omega) i2
 |f+1,l,r,h1,h2,h3,a,b,h=>by
  show KasT.kasWp cmp (if l≥r then .ret l else _) Q s
  by_cases q:l≥r
  ·rw[if_pos q];exact h l (by omega) a λi i1 i2=>b i (by omega) i2
  ·rw[if_neg q];refine A _ _ (hp.lt hk) (hp.lt (by omega)) _ ?_
   cases e:c (p.getD k 0) (p.getD ((l+r) / 2) 0) with
   |true=>
    dsimp only;rw[if_pos rfl];refine ak6 A O hp hk hs f l ((l+r) / 2) (by omega) (by omega) (by omega) a (λi i1 i2=>?_) h
    by_cases z:i=(l+r) / 2
    ·subst z;exact e
    ·exact O.tr _ _ _ e (hs _ i (by omega) i2)
   |false=>
    dsimp only;rw[if_neg (by simp)]
    have e':=flip O hp hk (by omega) (by omega) e
    refine ak6 A O hp hk hs f ((l+r) / 2+1) r (by omega) h2 (by omega) (λi i1=>?_) b h
    by_cases z:i=(l+r) / 2
    ·subst z;exact e'
    ·exact O.tr _ _ _ (hs i ((l+r) / 2) (by omega) (by omega)) e'
def awo(hp:Pm n p){k l:Nat}(hk:k<n)(hl:l<=k){j:Nat}(hj:j<n):(bubble p k (k-l)).getD j 0=if j=l then p.getD k 0 else if l<j/\j<=k then p.getD (j-1) 0 else p.getD j 0:=by
 have e:=getElem?_bubble (xs:=p) (src:=k) (by rw[hp.size];exact hk) (k-l) (by omega) j
 rw[show k-(k-l)=l by omega,hp.get hk,hp.get hj] at e
 have hb:Pm n (bubble p k (k-l)):=⟨(lZ.mp (bubble_perm p k _)).trans hp.pm⟩;rw[hb.get hj] at e
 by_cases h1:j=l
 ·rw[if_pos h1] at e ⊢
  exact bL e
 ·rw[if_neg h1] at e ⊢
  by_cases h2:l<j/\j<=k
  ·rw[if_pos h2,hp.get (by omega)] at e
   rw[if_pos h2];exact bL e
  ·rw[if_neg h2] at e ⊢
   exact bL e
theorem a0s(A:Asks n c cmp s)(O:Od n c){Q:Array Nat->aG->Prop}(h:∀p',Pm n p'->Srt c p' n->Q p' s):∀f p k,k+f=n->Pm n p->Srt c p k->(kas_bin f p k).kasWp cmp Q s
 | 0,p,k,e,hp,hs=>h p hp (by rw[<-e];exact hs)
 |f+1,p,k,e,hp,hs=>by
  show KasT.kasWp cmp (KasT.bind _ _) Q s;rw[lV];refine ak6 A O hp (by omega) hs k 0 k (by omega) (aM _) (by omega) (λi hi=>by omega) (λi i1 i2=>by omega) λl hl a b=>?_
  refine a0s A O h f _ (k+1) (by omega) ⟨(lZ.mp (bubble_perm p k _)).trans hp.pm⟩ λi j hij hj=>?_
  rw[awo hp (by omega) hl (by omega),awo hp (by omega) hl (by omega)]
  by_cases i1:i=l
  ·rw[if_pos i1,if_neg (by omega),if_pos (by omega)]
   exact b (j-1) (by omega) (by omega)
  ·rw[if_neg i1]
   by_cases j1:j=l
   ·rw[if_pos j1,if_neg (by omega)]
    exact a i (by omega)
   ·rw[if_neg j1]
    by_cases i2:l<i
    ·rw[if_pos (by omega),if_pos (by omega)]
     exact hs _ _ (by omega) (by omega)
    ·rw[if_neg (by omega)]
     by_cases j2:l<j
     ·rw[if_pos (by omega)]
      by_cases z:i=j-1
      ·omega
      ·exact hs _ _ (by omega) (by omega)
     ·rw[if_neg (by omega)]
      exact hs _ _ hij (by omega)
def a1d(A:Asks n c cmp s)(O:Od n c)(h2:2<=n){Q:Array Nat->aG->Prop}(h:∀p',Pm n p'->Srt c p' n->Q p' s):(kas_sort n).kasWp cmp Q s:=by
 unfold kas_sort;rw[lV];refine ay7 A O ⟨by simp⟩ h2 λm p m1 m2 hp hs=>?_
 dsimp only
 by_cases q:m<n
 ·rw[if_pos q];rw[show max m 1=m by omega]
  exact a0s A O h _ _ _ (by omega) hp hs
 ·rw[if_neg q];exact h p hp (by rw[show n=m by omega];exact hs)
end
section
variable{prog:cA}{w:dU}{A:cT}{E:aD->aG->Prop}{s:aG}
def amk(vs:List aD)(p:Array Nat):Array aD:=(p.toList.map λi=>vs.getD i cO).toArray
def atz(vs:List aD):((aV vs.length).map λi=>vs.getD i cO)=vs:=by
 apply gU;intro i;rw[aL]
 by_cases h:i<vs.length
 ·rw[bV h];simp[h]
 ·rw[bW (by simpa using h),bW (by omega)]
  rfl
def art{a:aU}{vs:List aD}{n:Nat}{P:PySem.Fin->aG->Prop}{κ:SortKind}{c:Nat->Nat->Bool}(ho:s.heap.get? a=ZY (iJ "list" vs.toArray n))(h64:vs.length<64)(O:Od vs.length c)
  (hk:2<=vs.length->∀h':eF,(∀b o,b≠a->s.heap.get? b=ZY o->h'.get? b=ZY o)->(∀Q:SortKind->aG->Prop,Q κ { s with heap:=h' }->bU (bZ prog w) A (keyKind' vs.toArray) Q (λ_ _=>False) { s with heap:=h' })/\Asks vs.length c (kas_ask prog w A κ vs) { s with heap:=h' })
  (h:∀p,Pm vs.length p->Srt c p vs.length->P (.done (.ret .none)) { s with heap:=sortedHeap s.heap a vs (amk vs p) }) :
  bU (bZ prog w) A (lC.«list.sort» ⟨[.ref a],[]⟩) P E s:=by
 have ha:a<s.heap.objs.size:=aN ho;obtain⟨e1,ho1⟩:∃e1,(s.heap.update a (fH λ_=>(#[]:Array aD))).get? a=ZY (iJ "list" #[] e1):=⟨_,get?_update_seq ho λ_ => #[]⟩
 have ho6:(((s.heap.update a (fH λ_=>(#[]:Array aD))).push (iJ "tuple" vs.toArray 0)).push (iJ "list" #[] 0)).get? a=ZY (iJ "list" #[] e1):=aB _ (aB _ ho1)
 have kp:∀b o,b≠a->s.heap.get? b=ZY o->(((s.heap.update a (fH λ_=>(#[]:Array aD))).push (iJ "tuple" vs.toArray 0)).push (iJ "list" #[] 0)).get? b=ZY o:=λb o hb e=>
  aB _ (aB _ (by rw[uE _ _ _ _ hb];exact e))
 rw[list_sort_plain];refine aA (listItems_at ho rfl ?_);refine aA (listUpdate_at ho rfl ?_ (by rw[aP,eN];omega) (fJ _))
 refine aA (seqEpoch_at ho1 rfl ?_);refine aA (wpAny_newTuple ?_ (by show vs.length<=_;rw[eN];omega))
 refine aA (wpAny_newList ?_ (fJ _));refine fP ?_;show bU (bZ prog w) A _ P E { s with heap:=((s.heap.update a (fH λ_=>(#[]:Array aD))).push (iJ "tuple" vs.toArray 0)).push (iJ "list" #[] 0) }
 dsimp only
 by_cases h2:vs.length<2
 ·rw[if_pos (by rw[aP];exact h2),if_pos (by rw[aP];exact h2)]
  refine aA (aR ?_);rw[StateT.run_pure];refine aA (aR ?_);dsimp only;refine aA (seqEpoch_at ho6 rfl ?_);have e0:(vs.toArray.zip vs.toArray).map (·.2)=amk vs (qD (aV vs.length)):=by
   unfold amk;rw[show(qD (aV vs.length)).toList=aV vs.length from rfl,atz]
   apply vK.mp;simp[List.map_snd_zip]
  have hz:((vs.toArray.zip vs.toArray).map (·.2)).size<=cF:=by
   rw[Array.size_map,Array.size_zip,aP,eN];omega
  refine aA (listUpdate_at ho6 rfl ?_ (fJ _) (uR hz));simp only[bne_self_eq_false,jV,if_false];have z:=h (qD (aV vs.length)) ⟨List.Perm.refl _⟩ (λi j hij hj=>by omega)
  rw[<-e0] at z;exact aR z
 ·have hn2:¬vs.toArray.size<2:=by rw[aP];exact h2
  rw[if_neg hn2,if_neg hn2];obtain⟨k1,k2⟩:=hk (by omega) _ kp
  refine aA (bI (k1 _ ?_) (λκ' s' q=>q) λ_ _ x=>x.elim)
  refine aA (bI (kat_run (Q:=λst' s'=>s'={ s with heap:=((s.heap.update a (fH λ_=>(#[]:Array aD))).push (iJ "tuple" vs.toArray 0)).push (iJ "list" #[] 0) }/\∃p:Array Nat,Pm vs.length p/\Srt c p vs.length/\arrOf st'=p.map (kas_item (vs.toArray.zip vs.toArray))/\failedOf st'=ZX)
   (G:=λp s'=>s'={ s with heap:=((s.heap.update a (fH λ_=>(#[]:Array aD))).push (iJ "tuple" vs.toArray 0)).push (iJ "list" #[] 0) }/\Pm vs.length p/\Srt c p vs.length)
   rfl (by omega) h64 (λp st' s' a1 a2 a3 a4=>⟨a4.1,p,a4.2.1,a4.2.2,a2,a3⟩) (a1d k2 O (by omega) λp hp hs=>⟨rfl,hp,hs⟩)) ?_ λ_ _ e=>e)
  intro r s' hr;obtain⟨u,st'⟩:=r;obtain⟨e,p,hp,hs,har,hf⟩:=hr;subst e;dsimp only at har hf ⊢
  have hout:(arrOf st').map (·.2)=amk vs p:=kat_snds rfl har;rw[hout];have hz:(amk vs p).size<=cF:=by
   unfold amk;rw[aP,aC,iG,hp.size,eN];omega
  refine aA (seqEpoch_at ho6 rfl ?_);refine aA (listUpdate_at ho6 rfl ?_ (fJ _) (uR hz));rw[hf];simp only[bne_self_eq_false,jV,if_false];exact aR (h p hp hs)
def ama{l:aU}{vs:List aD}{Q:aD->aG->Prop}{κ:SortKind}{c:Nat->Nat->Bool}(hl:s.heap.IsList l vs.toArray)(h64:vs.length<64)(O:Od vs.length c)
  (hk:2<=vs.length->∀h':eF,(∀b o,s.heap.get? b=ZY o->h'.get? b=ZY o)->(∀Q:SortKind->aG->Prop,Q κ { s with heap:=h' }->bU (bZ prog w) A.in1.in1 (keyKind' vs.toArray) Q (λ_ _=>False) { s with heap:=h' })/\Asks vs.length c (kas_ask prog w A.in1.in1 κ vs) { s with heap:=h' })
  (h:∀p,Pm vs.length p->Srt c p vs.length->Q (.ref (s.heap.objs.size+1)) { s with heap:=sortedAll s.heap vs (amk vs p) }) :
  bU (bZ prog w) A (call (.builtin "sorted") [.ref l]) Q E s:=by
 refine sE kind_sorted plain_sorted entry_sorted (args_sorted1 _) ?_;unfold lC.«sorted»
 refine aA (m:=checkCount "sorted" 1 1 _) (aR ?_);refine aA (collect_list hl ?_ (by rw[eN];omega))
 refine aA (wpAny_newList ?_ (by rw[eN];omega))
 have hsz:((s.heap.push (iJ "list" #[] 0)).update s.heap.objs.size (fH (· ++ vs.toArray))).objs.size=s.heap.objs.size+1:=by
  rw[Heap.size_update,size_push']
 have hoL:(((s.heap.push (iJ "list" #[] 0)).update s.heap.objs.size (fH (· ++ vs.toArray))).push (iJ "list" vs.toArray 0)).get? (s.heap.objs.size+1)=ZY (iJ "list" vs.toArray 0):=by
  rw[<-hsz];exact aW _ rfl
 have keep:∀b o,s.heap.get? b=ZY o->(((s.heap.push (iJ "list" #[] 0)).update s.heap.objs.size (fH (· ++ vs.toArray))).push (iJ "list" vs.toArray 0)).get? b=ZY o:=λb o q=>by
  have hlt:b<s.heap.objs.size:=aN q;rw[uY _ _ _ (by rw[hsz];exact bH (pW hlt)),uE _ _ _ _ (bH hlt),uY _ _ _ (bH hlt)]
  exact q
 show bU _ _ _ _ _ { s with heap:=((s.heap.push (iJ "list" #[] 0)).update s.heap.objs.size (fH (· ++ vs.toArray))).push (iJ "list" vs.toArray 0) }
 rw[hsz];refine aA (fP (wpAny_call_entry slot_list_sort ⟨_,hoL,rfl⟩ entry_list_sort (art (κ:=κ) hoL h64 O (λh2 h' k'=>hk h2 h' λb o e=>k' b o (λq=>absurd (aN e) (by rw[q];exact jZ.mpr (gC _))) (keep b o e)) λp hp hs=>⟨_,rfl,?_⟩) (args_list_sort _)))
 exact aR ⟨_,rfl,h p hp hs⟩
def lexB:List Int->List Int->Bool
 | [],[]=>ZV
 | [],_::_=>ZW
 |_::_,[]=>ZV
 |a::x,b::y=>if a=b then lexB x y else decide (a<b)
theorem ao4:∀x y z:List Int,lexB x y=ZW->lexB y z=ZW->lexB x z=ZW
 | [],[],_,h,_=>by simp[lexB] at h
 | [],_::_,[],_,h=>by simp[lexB] at h
 | [],_::_,_::_,_,_=>by simp[lexB]
 |_::_,[],_,h,_=>by simp[lexB] at h
 |_::_,_::_,[],_,h=>by simp[lexB] at h
 |a::x,b::y,c::z,h,k=>by
  unfold lexB at h k ⊢
  by_cases e1:a=b
  ·subst e1;rw[if_pos rfl] at h
   by_cases e2:a=c
   ·rw[if_pos e2] at k ⊢
    exact ao4 x y z h k
   ·rw[if_neg e2] at k ⊢
    exact k
  ·rw[if_neg e1,decide_eq_true_eq] at h
   by_cases e2:b=c
   ·subst e2;rw[if_neg e1,decide_eq_true_eq];exact h
   ·rw[if_neg e2,decide_eq_true_eq] at k;rw[if_neg (by omega),decide_eq_true_eq]
    omega
theorem ao5:∀x y:List Int,x≠y->lexB x y=ZV->lexB y x=ZW
 | [],[],h,_=>absurd rfl h
 | [],_::_,_,h=>by simp[lexB] at h
 |_::_,[],_,_=>by simp[lexB]
 |a::x,b::y,h,k=>by
  unfold lexB at k ⊢
  by_cases e:a=b
  ·subst e;rw[if_pos rfl] at k ⊢
   exact ao5 x y (λq=>h (by rw[q])) k
  ·rw[if_neg e,decide_eq_false_iff_not] at k;rw[if_neg (λq=>e q.symm),decide_eq_true_eq]
   omega
theorem au0:∀x y:List Int,lexB x y=ZW->lexB y x=ZV
 | [],[],h=>by simp[lexB] at h
 | [],_::_,_=>by simp[lexB]
 |_::_,[],h=>by simp[lexB] at h
 |a::x,b::y,h=>by
  unfold lexB at h ⊢
  by_cases e:a=b
  ·subst e;rw[if_pos rfl] at h ⊢
   exact au0 x y h
  ·rw[if_neg e,decide_eq_true_eq] at h;rw[if_neg (λq=>e q.symm),decide_eq_false_iff_not]
   omega
theorem az9{b:Bool}{Q:Bool->aG->Prop}:∀{xs ys:List aD} {as bs:List Int} (i:Nat),lW xs as->lW ys bs->Q (lexB as bs) s->KatLex prog w A b (decide (as.length<bs.length)) Q (xs.zip ys) i s
 | [],[],_,_,i,.nil,.nil,h=>kat_nil h
 | [],_::_,_,_,i,.nil,.cons n t r,h=>kat_nil (by simpa[lexB] using h)
 |_::_,[],_,_,i,.cons n t r,.nil,h=>kat_nil (by simpa[lexB] using h)
 |_::_,_::_,_,_,i,.cons n t r,.cons m u r',h=>by
  rw[List.zip_cons_cons];refine kat_cons (wpAny_eqBool_int ?_);unfold lexB at h
  by_cases e:n=m
  ·rw[if_pos e] at h;rw[show(n==m)=ZW by simpa using e]
   refine kat_yes ?_;have:=az9 (b:=b) (i+1) r r' h
   simpa using this
  ·rw[if_neg e] at h;rw[show(n==m)=ZV by simpa using e]
   refine kat_no ?_;cases b&&i==0 with
   |true=>exact oneLt_int h
   |false=>exact kat_one _ _ (lt_int h)
end
end Kst
namespace Dn
open PySem PySem.Spec PySem.W PyProof.Rows L2 Mn Kst
def rowT(r:List Int):D:=.tup (r.map D.int)
def ak1:List D->Option (LL9)
 | []=>ZY []
 |.tup l::r=>(qp l).bind λa=>(ak1 r).map (a :: ·)
 |_::_=>ZX
theorem amh:∀rows:LL9,ak1 (rows.map rowT)=ZY rows
 | []=>rfl
 |r::rows=>by
  show(qp (r.map D.int)).bind _=_;rw[acl,jC,amh rows];rfl
theorem ap6:∀{l:List D} {rows:LL9},ak1 l=ZY rows->l=rows.map rowT
 | [],_,h=>by cases h;rfl
 |.tup t::l,rows,h=>by
  have h:(qp t).bind (λa=>(ak1 l).map (a :: ·))=ZY rows:=h
  cases e:qp t with
  |none=>rw[e] at h;cases h
  |some a=>
   rw[e,jC] at h;cases e2:ak1 l with
   |none=>rw[e2] at h;cases h
   |some rs=>
    rw[e2] at h;cases h;rw[bB,<-ap6 e2,rowT,<-abp e]
def insL(x:List Int):LL9->LL9
 | []=>[x]
 |y::r=>if lexB x y then x::y::r else y::insL x r
def ai8:LL9->LL9
 | []=>[]
 |x::r=>insL x (ai8 r)
theorem aid(x:List Int):∀l,(insL x l).Perm (x::l)
 | []=>.refl _
 |y::r=>by
  unfold insL;split
  ·exact .refl _
  ·exact((aid x r).cons y).trans (.swap x y r)
theorem ac6:∀l,(ai8 l).Perm l
 | []=>.refl _
 |x::r=>(aid x (ai8 r)).trans ((ac6 r).cons x)
abbrev LxS(l:LL9):Prop:=l.Pairwise λa b=>lexB a b=ZW
theorem aic(x:List Int):∀{l},x∉l->LxS l->LxS (insL x l)
 | [],_,_=>by simp[insL,LxS]
 |y::r,hx,h=>by
  unfold insL;have h:=dN.mp h;split
  ·rename_i hxy;refine dN.mpr ⟨λz hz=>?_,dN.mpr h⟩
   rcases bF.mp hz with rfl |hz
   ·exact hxy
   ·exact ao4 _ _ _ hxy (h.1 z hz)
  ·rename_i hxy;refine dN.mpr ⟨λz hz=>?_,aic x (λq=>hx (aK _ q)) h.2⟩
   rcases bF.mp ((aid x r).mem_iff.mp hz) with rfl |hz
   ·exact ao5 _ _ (λq=>hx (by rw[q];exact aQ ..)) (by simpa using hxy)
   ·exact h.1 z hz
theorem agi:∀{l:LL9},l.Nodup->LxS (ai8 l)
 | [],_=>.nil
 |x::r,h=>by
  have h:=jO.mp h;exact aic x (λq=>h.1 ((ac6 r).mem_iff.mp q)) (agi h.2)
theorem auw:∀{l k:LL9},l.Perm k->LxS l->LxS k->l=k
 | [],k,h,_,_=>h.nil_eq
 |x::r,[],h,_,_=>absurd h.length_eq (by simp)
 |x::r,y::t,h,hl,hk=>by
  have hl:=dN.mp hl;have hk:=dN.mp hk;have e:x=y:=by
   have h1:x∈y::t:=h.mem_iff.mp (aQ ..);have h2:y∈x::r:=h.mem_iff.mpr (aQ ..);rcases bF.mp h1 with h1 |h1
   ·exact h1
   ·rcases bF.mp h2 with h2 |h2
    ·exact h2.symm
    ·have a:=hk.1 x h1;have b:=hl.1 y h2;rw[au0 _ _ a] at b;cases b
  subst e;rw[auw ((wH x).mp h) hl.2 hk.2]
inductive TupsAre (h:eF):List aD->LL9->Prop
 |nil:TupsAre h [] []
 |cons {a:aU} {o:Obj} {xs:List aD} {n:Nat} {r:List Int} {us:List aD} {rs:LL9} (e:h.get? a=ZY o) (c:o.cls=.type "tuple") (d:o.data=.seq xs.toArray n) (i:lW xs r) (t:TupsAre h us rs):TupsAre h (.ref a::us) (r::rs)
theorem TupsAre.len{h:eF}:∀{us:List aD} {rs:LL9},TupsAre h us rs->us.length=rs.length
 |_,_,.nil=>rfl
 |_,_,.cons _ _ _ _ t=>by rw[bG,bG,t.len]
theorem TupsAre.mono{h h':eF}(k:∀b o,h.get? b=ZY o->h'.get? b=ZY o):∀{us:List aD} {rs:LL9},TupsAre h us rs->TupsAre h' us rs
 |_,_,.nil=>.nil
 |_,_,.cons e c d i t=>.cons (k _ _ e) c d i (t.mono k)
theorem TupsAre.at{h:eF}:∀{us:List aD} {rs:LL9},TupsAre h us rs->∀i,i<rs.length->∃a o xs n,us.getD i cO=.ref a/\h.get? a=ZY o/\o.data=.seq (qD xs) n/\lW xs (rs.getD i [])
 |_,_,.cons e c d i t,0,_=>⟨_,_,_,_,rfl,e,d,i⟩
 |_,_,.cons e c d i t,k+1,hk=>by
  obtain⟨a,o,xs,n,e1,e2,e3,e4⟩:=t.at k (by simpa using hk)
  exact⟨a,o,xs,n,by simpa using e1,e2,e3,by simpa using e4⟩
theorem TupsAre.kat{h:eF}:∀{us:List aD} {rs:LL9},TupsAre h us rs->(∀r∈rs,r≠[])->∃fs:List aD,KatTups h us fs/\fs.length=rs.length/\∀f∈fs,∃i t,f=mK i t
 |_,_,.nil,_=>⟨[],.nil,rfl,λ_ h=>by cases h⟩
 |_,_,.cons (r:=r) e c d i t,hn=>by
  obtain⟨fs,k,l,z⟩:=t.kat λr hr=>hn r (aK _ hr)
  cases i with
  |nil=>exact absurd rfl (hn _ (aQ ..))
  |cons m u q=>
   refine⟨.int m u::fs,KatTups.cons e c d (by simp) k,by simp[l],λf hf=>?_⟩
   rcases bF.mp hf with rfl |hf
   ·exact⟨m,u,rfl⟩
   ·exact z f hf
section
variable{K:Fg9}{X:Cx}
theorem ajq{qv:List (aU×Obj)}{σ:L2.St}{F H:Hp}{s:aG}(I:Inv X qv σ H s)(g:Same F H):∀{rs:LL9} {vs:List V} {us:List aD},IsL X.K F (rs.map rowT) vs->Vals vs us->TupsAre s.heap us rs
 | [],_,_,h,r=>by cases h;cases r;exact .nil
 |a::rs,_,_,.cons h t,r=>by
  cases r with
  |cons r1 r2=>
   have z:=ajq I g t r2;have h:Is X.K F (.tup (a.map D.int)) _:=h;cases h with
   |tup e hl=>
    rw[hl.int_inv] at e;cases r1;obtain⟨its,rv,⟨o,e1,e2,n,e3⟩,_⟩:=I.tuple (SqT.of (g _ _ e));exact .cons e1 e2 e3 (intsAre_of rv) z
def avq:D->Option Rv
 |.lst l=>(ak1 l).bind λrows=>if (decide (rows.length<64)&&rows.all (λr => !r.isEmpty)&&decide rows.Nodup)=ZW then ZY (.fr ((ai8 rows).map rowT)) else ZX
 |_=>ZX
def apc{rows:LL9}(h:rows.length<64)(hn:∀r∈rows,r≠[])(nd:rows.Nodup):avq (.lst (rows.map rowT))=ZY (.fr ((ai8 rows).map rowT)):=by
 show(ak1 (rows.map rowT)).bind _=_;rw[amh,jC,if_pos];simp only[bD,decide_eq_true_eq,bK];exact⟨⟨h,λr hr=>by cases r with
  |nil=>exact absurd rfl (hn _ hr)
  |cons=>rfl⟩,nd⟩
def ak7{α:Type}(d:α){l:List α}{p:Array Nat}(hp:Pm l.length p):(p.toList.map λi=>l.getD i d).Perm l:=by
 refine(hp.pm.map _).trans ?_;have e:((aV l.length).map λi=>l.getD i d)=l:=by
  apply gU;intro i;rw[aL]
  by_cases h:i<l.length
  ·rw[bV h];simp[h]
  ·rw[bW (by simpa using h),bW (by omega)]
   rfl
 rw[e]
def a1b{rows:LL9}{p:Array Nat}(hp:Pm rows.length p)(hs:Srt (λi j=>lexB (rows.getD i []) (rows.getD j [])) p rows.length):LxS (p.toList.map λi=>rows.getD i []):=by
 rw[LxS,uT,List.pairwise_iff_getElem];intro i j hi hj hij;have h:=hs i j hij (by rw[<-hp.size];simpa using hj)
 have e1:=hp.get (k:=i) (by rw[<-hp.size];simpa using hi)
 have e2:=hp.get (k:=j) (by rw[<-hp.size];simpa using hj)
 have f1:p.toList[i]=p.getD i 0:=by
  have hi':i<p.size:=by simpa using hi
  simp[vD,hi']
 have f2:p.toList[j]=p.getD j 0:=by
  have hj':j<p.size:=by simpa using hj
  simp[vD,hj']
 rw[f1,f2];exact h
theorem aqq{F:Hp}{rows:LL9}{vs:List V}(h:IsL K F (rows.map rowT) vs):∀{p:List Nat},(∀i∈p,i<rows.length)->IsL K F ((p.map λi=>rows.getD i []).map rowT) (p.map λi=>vs.getD i .non)
 | [],_=>.nil
 |i::p,hp=>by
  have hi:=hp i (aQ ..);obtain⟨v,e,hv⟩:=h.get (i:=i) (d:=rowT (rows.getD i [])) (by simp[hi])
  have e':vs.getD i .non=v:=by simp[e]
  refine .cons ?_ (aqq h λj hj=>hp j (aK _ hj))
  dsimp only;rw[e'];exact hv
theorem al6{vs:List V}{us:List aD}(h:Vals vs us):∀{p:List Nat},(∀i∈p,i<vs.length)->Vals (p.map λi=>vs.getD i .non) (p.map λi=>us.getD i cO)
 | [],_=>.nil
 |i::p,hp=>by
  have hi:=hp i (aQ ..);refine .cons ?_ (al6 h λj hj=>hp j (aK _ hj))
  have:∀{vs:List V} {us:List aD} {i:Nat},Vals vs us->i<vs.length->RelV (vs.getD i .non) (us.getD i cO):=by
   intro vs us i h
   induction h generalizing i with
   |nil=>intro h;simp at h
   |cons a b ih=>
    intro hi;cases i with
    |zero=>exact a
    |succ i=>simpa using ih (by simpa using hi)
  exact this h hi
theorem aza:CallD K X (.builtin "sorted") (g1 avq):=cd_one λhk qv s σ0 H x u Q tg F ρ σ d r I ru G bd eg q=>by
 subst hk;cases d with
 |lst l=>
  have eg:(ak1 l).bind (λrows=>if (decide (rows.length<64)&&rows.all (λr => !r.isEmpty)&&decide rows.Nodup)=ZW then ZY (Rv.fr ((ai8 rows).map rowT)) else ZX)=ZY r:=eg
  cases e:ak1 l with
  |none=>rw[e] at eg;cases eg
  |some rows=>
   rw[e,jC] at eg;split at eg
   ·rename_i hc;simp only[bD,decide_eq_true_eq,bK] at hc;obtain⟨⟨h64,hne⟩,nd⟩:=hc;have hne:∀r∈rows,r≠[]:=λr hr q=>by have:=hne r hr;rw[q] at this;cases this
    cases eg;obtain⟨a,vs,rfl,ea,hl⟩:=bd.lst G.sub;rw[ap6 e] at hl;cases ru;obtain⟨its,rv,pl,_⟩:=I.list (SqL.of ea);have hlen:vs.length=its.length:=rv.length;have T:=ajq I G.sub hl rv;have tl:=T.len;have O:Od its.length λi j=>lexB (rows.getD i []) (rows.getD j []):=⟨λi j k=>ao4 _ _ _,λi j hi hj hij=>ao5 _ _ λq=>hij (by
     have hi':i<rows.length:=by omega
     have hj':j<rows.length:=by omega
     exact(uW hi' nd).mp (by
      have e1:rows[i]? = ZY (rows.getD i []):=by simp[hi']
      have e2:rows[j]? = ZY (rows.getD j []):=by simp[hj']
      rw[e1,e2,q]))⟩
    refine ama (κ:=tuples' (mJ "int" != mJ "tuple")) pl.isList (by omega) O (λh2 h' k'=>⟨λQ q=>?_,λi j hi hj C hC=>?_⟩) λp hp hs=>?_
    ·obtain⟨fs,kt,fl,fz⟩:=(T.mono k').kat hne;refine kat_kind kt (by omega) (λv hv=>?_) (by decide) q
     obtain⟨i,t,rfl⟩:=fz v hv;exact Looks.of_pure rfl
    ·obtain⟨a1,o1,xs1,n1,f1,g1,d1,i1⟩:=(T.mono k').at i (by omega)
     obtain⟨a2,o2,xs2,n2,f2,g2,d2,i2⟩:=(T.mono k').at j (by omega)
     unfold kas_ask;rw[f1,f2];refine kat_lt g1 d1 g2 d2 ?_;have l1:xs1.toArray.size=(rows.getD i []).length:=i1.length;have l2:xs2.toArray.size=(rows.getD j []).length:=i2.length;rw[l1,l2];exact az9 0 i1 i2 hC
    ·have hp':Pm rows.length p:=tl▸hp;have hs':Srt (λi j=>lexB (rows.getD i []) (rows.getD j [])) p rows.length:=tl▸hs
     have e':(p.toList.map λi=>rows.getD i [])=ai8 rows:=auw ((ak7 [] hp').trans (ac6 rows).symm) (a1b hp' hs') (agi nd)
     have hm:∀i∈p.toList,i<rows.length:=λi hi=>by simpa using hp'.pm.mem_iff.mp hi
     obtain⟨ep,eo⟩:=rQ s.heap its (amk its p);have hn:H (s.heap.objs.size+1)=ZX:=I.hok.fresh (gC _);have il:=aqq hl hm;rw[e'] at il;refine⟨.ref (s.heap.objs.size+1),upd H (s.heap.objs.size+1) (.lst (p.toList.map λi=>vs.getD i .non)),?_,rfl,Res.lst G q il hn⟩
     refine I.laid (t':=s.toks) (λb u e=>rH e) (gC _) ?_
     refine⟨?_,(p.toList.map λi=>its.getD i cO),ep,al6 rv λi hi=>by have:=hm i hi;omega,eo⟩
     rw[aC,iG,hp'.size];exact kO (ahf (by omega))
   ·cases eg
 |_=>cases eg
def afc(d:D):Option Rv:=match adf d with
 |some r=>ZY r
 |none=>avq d
theorem asr:CallD K X (.builtin "sorted") (g1 afc):=cd_one λhk qv s σ0 H x u Q tg F ρ σ d r I ru G bd eg q=>by
 unfold afc at eg;cases e:adf d with
 |some r'=>
  rw[e] at eg;cases eg;exact akh.go hk qv s σ0 H [x] [u] Q I (.cons ru .nil) ⟨tg,F,ρ,σ,[d],_,G,.cons bd .nil,e,q⟩
 |none=>
  rw[e] at eg;exact aza.go hk qv s σ0 H [x] [u] Q I (.cons ru .nil) ⟨tg,F,ρ,σ,[d],_,G,.cons bd .nil,eg,q⟩
theorem alo{rows:LL9}(h:rows.length<64)(hn:∀r∈rows,r≠[])(nd:rows.Nodup):afc (.lst (rows.map rowT))=ZY (.fr ((ai8 rows).map rowT)):=by
 cases rows with
 |nil=>rfl
 |cons r rows=>
  unfold afc;rw[show adf (.lst ((r::rows).map rowT))=ZX from rfl]
  exact apc h hn nd
end
section
variable{K:Fg9}{X:Cx}{ss:List fD}
def SVs.s{g:Sd}(h:SVs K X ss g):SVs K X ss (dOk g):=SVs.mk λhk=>PSs.imp (h.go hk) λE σ H z9=>by
 obtain⟨tg,F,ρ,fl,ρ',G,em,q⟩:=z9;exact⟨tg,F,ρ,fl,ρ',G,(av6 em).1,q⟩
def asz{g:Sd}:XSs K X ss (dOk g):=⟨λ_ _ qv s σ H tg F ρ x ρ' I G em=>absurd (zb.mp em) (auq ρ x ρ')⟩
end
def Oi(ρ:Ro)(σ:L2.St)(a:aU):aU->Prop:=λz=>Own ρ σ z∨z=a
def Bnd(H:Hp)(a:aU):Prop:=∃C dx fvs,H a=ZY (.ins C dx fvs)/\fvs.length<1000
def putA(f:Str)(x:D):List (Str×(Nat ⊕ D))->List (Str×(Nat ⊕ D))
 | []=>[]
 | (g,y)::r=>if g=f then (g,.inr x)::r else (g,y)::putA f x r
theorem ah3{f g:Str}{x:D}:∀{fs:List (Str×(Nat ⊕ D))},(fs.lookup f).isSome=ZW->(putA f x fs).lookup g=if g=f then ZY (.inr x) else fs.lookup g
 | [],h=>by cases h
 | (k,y)::r,h=>by
  unfold putA
  by_cases e:k=f
  ·subst e;rw[if_pos rfl]
   by_cases e2:g=k
   ·subst e2;rw[if_pos rfl,cG]
   ·have hb:(g==k)=ZV:=beq_eq_false_iff_ne.mpr e2;rw[if_neg e2];simp only[bJ,hb]
  ·rw[if_neg e];have hb:(f==k)=ZV:=beq_eq_false_iff_ne.mpr (fO e);simp only[bJ,hb] at h;have ih:=ah3 (g:=g) (x:=x) h
   by_cases e2:g=k
   ·subst e2;rw[cG,cG,if_neg e]
   ·have hb2:(g==k)=ZV:=beq_eq_false_iff_ne.mpr e2;simp only[bJ,hb2];exact ih
theorem ak4{f:Str}{y v:V}:∀{fs:List (Str×V)},fs.lookup f=ZY v->(putF f y fs).length=fs.length
 | [],h=>by cases h
 | (k,x)::r,h=>by
  rw[show putF f y ((k,x)::r)=(if k=f then (k,y)::r else (k,x)::putF f y r) from rfl]
  by_cases e:k=f
  ·rw[if_pos e];rfl
  ·rw[if_neg e];have hb:(f==k)=ZV:=beq_eq_false_iff_ne.mpr (fO e);simp only[bJ,hb] at h;rw[bG,bG,ak4 h]
section
variable{K:Fg9}{X:Cx}{tg:Nat->aU}{F H F1 H1:Hp}{ρ ρ1:Ro}{σ σ1:L2.St}{a:aU}
def Ext.oi(x:Ext (Own ρ σ) (Own ρ1 σ1) F H F1 H1):Ext (Oi ρ σ a) (Oi ρ1 σ1 a) F H F1 H1 :=
 ⟨x.sub,λz o e=>(x.new z o e).imp id λh=>h.imp id .inl,λz o e n=>x.keep z o e λw=>n (.inl w),λz w=>w.elim (λw=>(x.own z w).imp .inl id) λw=>.inl (.inr w),x.there⟩
def Good.noI(G:Good K tg F H ρ σ)(h:Bnd H a):¬Own ρ σ a:=λz=>by
 obtain⟨_,vs,hv⟩:=G.ownAt z;obtain⟨C,dx,fvs,e,_⟩:=h;rw[e] at hv;cases hv
def Bnd.step(h:Bnd H a)(G:Good K tg F H ρ σ)(x:Ext (Own ρ σ) (Own ρ1 σ1) F H F1 H1):Bnd H1 a:=by
 have n:=G.noI h;obtain⟨C,dx,fvs,e,l⟩:=h;exact⟨C,dx,fvs,x.keep a _ e n,l⟩
def Good.setBx(G:Good K tg F H ρ σ){i:Nat}{c f:Str}{fs:List (Str×(Nat ⊕ D))}{C dx:aU}{fvs:List (Str×V)}{d:D}{v:V}(ei:(ρ:List Sl)[i]? = ZY (.box c fs))(hb:(bC ρ i .emp).all ach=ZW)(ea:σ[i]? = ZY (ZY (.ref a)))(hh:H a=ZY (.ins C dx fvs))(hf:(fs.lookup f).isSome=ZW)(hd:Is K F d v) :
  Good K tg F (L2.upd H a (.ins C dx (putF f v fvs))) (bC ρ i (.box c (putA f d fs))) σ/\∀z,Own (bC ρ i (.box c (putA f d fs))) σ z->Own ρ σ z:=by
 obtain⟨oi,hoi,a',C',dx',fvs',e',hF,hH,hn,h0,h1,h2⟩:=G.at ei;rw[ea] at hoi;cases hoi;cases e';rw[hh] at hH;cases hH;have hi:i < ρ.length:=(aH.mp ei).1;have ow:∀j z,Owns (bC ρ i (.box c (putA f d fs))) σ j z->Owns ρ σ j z:=λj z ⟨⟨t,l,e⟩,q⟩=>by
  rw[aY] at e
  by_cases hj:i=j
  ·subst hj;rw[if_pos rfl,if_pos hi] at e;cases e
  ·rw[if_neg hj] at e;exact⟨⟨t,l,e⟩,q⟩
 refine⟨⟨λb u e=>?_,by rw[cJ];exact G.len,λj s o e q=>?_,λj k z w w'=>G.inj j k z (ow j z w) (ow k z w')⟩,λz ⟨j,w⟩=>⟨j,ow j z w⟩⟩
 ·have hb:b≠a:=λz=>by subst z;rw[hF] at e;cases e
  rw[cg hb];exact G.sub b u e
 ·rw[aY] at e
  by_cases hj:i=j
  ·subst hj;rw[if_pos rfl,if_pos hi] at e;cases e;rw[ea] at q;cases q;refine⟨a,C,dx,_,rfl,hF,f9,hn,λg hg=>?_,λg k hg=>?_,λg x hg=>?_⟩
   all_goals rw[ah3 hf] at hg;rw[aeb];by_cases eg:g=f
   ·rw[if_pos eg] at hg;cases hg
   ·rw[if_neg eg] at hg ⊢;exact h0 g hg
   ·rw[if_pos eg] at hg;cases hg
   ·rw[if_neg eg] at hg ⊢;exact h1 g k hg
   ·rw[if_pos eg] at hg ⊢;cases hg;exact⟨v,rfl,hd⟩
   ·rw[if_neg eg] at hg ⊢;exact h2 g x hg
  ·rw[if_neg hj] at e;have z:=G.sl j s o e q;cases s with
   |emp=>trivial
   |val _=>exact z
   |lol _=>exact z
   |lnk _=>exact z
   |box c' fs'=>
    have hm:(bC ρ i .emp)[j]? = ZY (.box c' fs'):=by rw[aY,if_neg hj];exact e
    exact absurd (bK.mp hb _ (cD hm)) (by simp[ach])
   |own t l=>
    obtain⟨b,vs,e1,f1,e2,h3,ht⟩:=z;have hba:b≠a:=λz=>by subst z;rw[hh] at e2;cases e2
    exact⟨b,vs,e1,f1,by rw[cg hba];exact e2,h3,ht⟩
def avw{o:HO}(hw:∀z,Own ρ1 σ z->Own ρ σ z):Ext (Oi ρ σ a) (Oi ρ1 σ a) F H F (L2.upd H a o) where
 sub:=Same.refl F
 new:=λz u e=>.inl e
 keep:=λz u e n=>by rw[cg (λq=>n (.inr q))];exact e
 own:=λz w=>.inl (w.imp (hw z) id)
 there:=λz e=>by
  by_cases hz:z=a
  ·subst hz;rw[f9] at e;cases e
  ·rw[cg hz] at e;exact e
def TSm(K:Fg9)(i:Nat)(g:Sd):TS:=λD σ H=>∃tg F ρ ρ' a,Good K tg F H ρ σ/\σ[i]? = ZY (ZY (.ref a))/\Bnd H a/\g ρ=ZY (.nx,ρ') /\
 ∀σ' H' F',Good K tg F' H' ρ' σ'->σ'[i]? = ZY (ZY (.ref a))->Bnd H' a->Ext (Oi ρ σ a) (Oi ρ' σ' a) F H F' H'->D.nx σ' H'
structure SM (K:Fg9) (X:Cx) (i:Nat) (st:fD) (g:Sd):Prop where
 go:X.K=K->PS X st (TSm K i g)
structure SMs (K:Fg9) (X:Cx) (i:Nat) (ss:List fD) (g:Sd):Prop where
 go:X.K=K->PSs X ss (TSm K i g)
end
section
variable{K:Fg9}{X:Cx}{e o c:cZ}{st:fD}{ss:List fD}{pos p p2:Pos}{i j:Nat}{f cn x:Str}{g k:Sd}
def apl{α:Type}{m:M α}{k:α->Sd}{ρ ρ':Ro}(h:dM m k ρ=ZY (.nx,ρ')):∃x ρ1,m ρ=ZY (.ok x,ρ1)/\k x ρ1=ZY (.nx,ρ'):=by
 unfold dM at h;split at h
 ·exact⟨_,_,by assumption,h⟩
 ·cases h
 ·cases h
def azt{ρ ρ':Ro}(h:dSeq g k ρ=ZY (.nx,ρ')):∃ρ1,g ρ=ZY (.nx,ρ1)/\k ρ1=ZY (.nx,ρ'):=by
 unfold dSeq at h;split at h
 ·exact⟨_,by assumption,h⟩
 ·rename_i hn;exact absurd h (hn ρ')
def ap0(h:SM K X i st g)(t:SMs K X i ss k):SMs K X i (st::ss) (dSeq g k):=SMs.mk λhk=>PSs.imp (ada (h.go hk) (t.go hk)) λE σ H z9=>by
 obtain⟨tg,F,ρ,ρ',a,G,ea,hB,em,q⟩:=z9;obtain⟨ρ1,e1,e2⟩:=azt em;exact⟨tg,F,ρ,ρ1,a,G,ea,hB,e1,λσ' H' F' G' ea' hB' x=>⟨tg,F',ρ1,ρ',a,G',ea',hB',e2,λσ2 H2 F2 G2 ea2 hB2 x2=>q σ2 H2 F2 G2 ea2 hB2 (x.trans x2)⟩⟩
def aob(h:SM K X i st g):SMs K X i [st] g:=SMs.mk λhk=>aoo (h.go hk)
def dFld(c:Str)(i:Nat)(f:Str)(m:M D):Sd:=dM m λd ρ=>match ρ[i]? with
 |some (.box c' fs)=>if c'=c/\(fs.lookup f).isSome=ZW/\(bC ρ i .emp).all ach=ZW then ZY (.nx,bC ρ i (.box c (putA f d fs))) else ZX
 |_=>ZX
def a5j{m:M D}(hc:FldT K cn f)(h:EV K X e m)(ho:PE X o (tVar i))(hs:gF e (ZY (.Attribute o f p2)) pos.line X.env=pure ZV:=by rfl):SM K X i (.Assign [.Attribute o f p2] e pos) (dFld cn i f m):=SM.mk λhk=>by
 subst hk;refine PS.imp (az2 ho (h rfl) hs) λE σ H z9=>?_
 obtain⟨tg,F,ρ,ρ',a,G,ea,hB,em,q⟩:=z9;obtain⟨d,ρ1,e1,em⟩:=apl em;split at em
 ·rename_i c' fs ei;split at em
  ·rename_i hz;obtain⟨rfl,hf,hb⟩:=hz;cases em;refine⟨tg,F,ρ,d,ρ1,G,e1,λv H1 F1 G1 x1 r1=>?_⟩
   obtain⟨C,dx,fvs,hh,hlen⟩:=hB.step G x1;obtain⟨oi,hoi,a',C',dx',fvs',e',hF,hH,hn,h0,h1,h2⟩:=G1.at ei;rw[ea] at hoi;cases hoi;cases e';rw[hh] at hH;cases hH;obtain⟨k1,k2⟩:=hc C hn;obtain⟨G2,ow⟩:=G1.setBx ei hb ea hh hf r1;refine⟨_,ea,a,C,dx,fvs,rfl,hh,k1,k2,hlen,q _ _ _ G2 ea ⟨C,dx,_,f9,?_⟩ (x1.oi.trans (avw ow))⟩;have hv:∃w,fvs.lookup f=ZY w:=by
    cases hl:fs.lookup f with
    |none=>rw[hl] at hf;cases hf
    |some y=>
     cases y with
     |inl k=>exact⟨_,h1 f k hl⟩
     |inr d'=>obtain⟨w,hw,_⟩:=h2 f d' hl;exact⟨w,hw⟩
   obtain⟨w,hw⟩:=hv;rw[ak4 hw];exact hlen
  ·cases em
 ·cases em
def al0(c:Str)(i:Nat)(f:Str)(m:M D):Sd:=dM (mFV c i f) λx=>dM m λy=>dM (lift ((asI x).bind λn=>(asI y).map λk=>D.int (n+k))) λz ρ=>match ρ[i]? with
 |some (.box c' fs)=>if c'=c/\(fs.lookup f).isSome=ZW/\(bC ρ i .emp).all ach=ZW then ZY (.nx,bC ρ i (.box c (putA f z fs))) else ZX
 |_=>ZX
def bb8{tg:Nat->aU}{F H:Hp}{ρ ρ':Ro}{σ:L2.St}{a:aU}(G:Good K tg F H ρ σ){d:D}(ea:σ[i]? = ZY (ZY (.ref a)))(em:mFV cn i f ρ=ZY (.ok d,ρ')):ρ'=ρ/\∃C dx fvs v,H a=ZY (.ins C dx fvs)/\nsIn K aX cn=ZY (ZY (.ref C))/\fvs.lookup f=ZY v/\Is K F d v:=by
 unfold mFV at em;split at em
 ·rename_i c' fs ei;split at em
  ·rename_i hz;subst hz;split at em
   ·rename_i d' hd;cases em;obtain⟨oi,hoi,a',C,dx,fvs,rfl,hf,hh,hn,_,_,h2⟩:=G.at ei;rw[ea] at hoi;cases hoi;obtain⟨v,hv,iv⟩:=h2 f _ hd;exact⟨rfl,C,dx,fvs,v,hh,hn,hv,iv⟩
   ·cases em
  ·cases em
 ·cases em
def atj{m:M D}(hc:FldT K cn f)(h:EV K X e m)(ho:PE X o (tVar i)):SM K X i (.AugAssign (.Attribute o f p2) .Add e pos) (al0 cn i f m):=SM.mk λhk=>by
 subst hk;refine PS.imp (at7 ho (h rfl) a74) λE σ H z9=>?_
 obtain⟨tg,F,ρ,ρ',a,G,ea,hB,em,q⟩:=z9;obtain⟨x,ρ1,e1,em1⟩:=apl em;obtain⟨y,ρ2,e2,em2⟩:=apl em1;obtain⟨z,ρ3,e3,em3⟩:=apl em2
 clear em em1 em2
 obtain⟨e4,rfl⟩:=jb e3;obtain⟨rfl,C,dx,fvs,v,hh,hn,hv,iv⟩:=bb8 G ea e1;obtain⟨k1,k2⟩:=hc C hn;split at em3
 ·rename_i c' fs ei;split at em3
  ·rename_i hz;obtain⟨rfl,hf,hb⟩:=hz;cases em3;cases ed:asI x with
   |none=>rw[ed] at e4;cases e4
   |some n=>
    rw[ed] at e4;obtain rfl:=agr ed;cases iv;cases ed2:asI y with
    |none=>rw[ed2] at e4;cases e4
    |some k=>
     rw[ed2] at e4;obtain rfl:=agr ed2;cases e4;refine⟨_,ea,a,C,dx,fvs,_,rfl,hh,k1,k2,hv,tg,F,_,_,_,G,e2,λw H1 F1 G1 x1 r1=>?_⟩
     cases r1;refine⟨n,k,rfl,rfl,?_⟩;have hB1:=hB.step G x1;have hkeep:=x1.keep a _ hh (G.noI hB);obtain⟨C9,dx9,fvs9,hh9,hlen⟩:=hB1;rw[hkeep] at hh9;cases hh9;obtain⟨G2,ow⟩:=G1.setBx ei hb ea hkeep hf (Is.int (n+k));refine⟨dx,fvs,hkeep,hlen,q _ _ _ G2 ea ⟨C,dx,_,f9,?_⟩ (x1.oi.trans (avw ow))⟩;rw[ak4 hv];exact hlen
  ·cases em3
 ·cases em3
def azs{m:M Rv}(hij:j≠i)(hN:X.N.Nodup)(hj:X.N[j]? = ZY x)(hx:Loc X.env.scope x)(h:ER K X e m)(hs:gF e (ZY (.Name x p)) pos.line X.env=pure ZV:=by rfl)(hf:X.fn x=ZW∨X.env.scope.names.lookup x=ZY .local:=by first |exact .inl rfl |exact .inr rfl |assumption) :
  SM K X i (.Assign [.Name x p] e pos) (dSet j m):=SM.mk λhk=>PS.imp (aqa hN hj hx (h hk) hs hf) λE σ H z9=>by
 obtain⟨tg,F,ρ,ρ',a,G,ea,hB,em,q⟩:=z9;obtain⟨r,ρ1,e1,em⟩:=apl em;cases em;refine⟨tg,F,ρ,r,ρ1,G,e1,λv H' F' G' x rr=>?_⟩
 obtain⟨G2,x2⟩:=G'.store x j rr;exact q _ H' F' G2 (by rw[aY,if_neg hij];exact ea) (hB.step G x) x2.oi
noncomputable def agv(g:Sd):Sd:=λρ=>match g ρ with
 |some (.nx,ρ')=>ZY (.nx,ρ')
 |_=>ZX
def alz{ρ ρ':Ro}{fl:Fl}(h:agv g ρ=ZY (fl,ρ')):fl=.nx/\g ρ=ZY (.nx,ρ'):=by
 unfold agv at h;split at h
 ·rename_i ρ1 e;cases h;exact⟨rfl,e⟩
 ·cases h
theorem ap1{m:M Bool}(n:Nat)(hp:qX (bZ X.prog X.w) X.A X.env X.xe)(hc:ET K X c m)(hb:SMs K X i ss g):SM K X i (.While c ss [] pos) (whileD m (agv g) n):=SM.mk λhk=>PS.imp (ap9 hp (hc hk) (hb.go hk)) λE σ H z9=>by
 obtain⟨tg,F,ρ,ρ',a,G,ea,hB,em,q⟩:=z9;refine⟨λk σ2 H2=>∃F2 ρ2,Good K tg F2 H2 ρ2 σ2/\σ2[i]? = ZY (ZY (.ref a))/\Bnd H2 a/\Ext (Oi ρ σ a) (Oi ρ2 σ2 a) F H F2 H2/\whileD m (agv g) k ρ2=ZY (.nx,ρ'),⟨n,F,ρ,G,ea,hB,Ext.refl _ _ _,em⟩,?_⟩
 rintro k σ2 H2 ⟨F2,ρ2,G2,ea2,hB2,x2,em2⟩
 cases k with
 |zero=>cases em2
 |succ k=>
  unfold whileD at em2;split at em2
  ·rename_i ρ3 e3;refine⟨tg,F2,ρ2,ZW,ρ3,G2,e3,λH3 F3 G3 x3=>iteT ?_⟩
   refine⟨λσ' H'=>∃F2 ρ2,Good K tg F2 H' ρ2 σ'/\σ'[i]? = ZY (ZY (.ref a))/\Bnd H' a/\Ext (Oi ρ σ a) (Oi ρ2 σ' a) F H F2 H'/\whileD m (agv g) k ρ2=ZY (.nx,ρ'),λσ' H' h=>⟨k,jD k,h⟩,?_⟩
   have hB3:=hB2.step G2 x3;split at em2
   ·rename_i ρ4 e4;exact⟨tg,F3,ρ3,ρ4,a,G3,ea2,hB3,(alz e4).2,λσ' H' F' G' ea' hB' x'=>⟨F',ρ4,G',ea',hB',(x2.trans x3.oi).trans x',em2⟩⟩
   ·rename_i ρ4 e4;cases(alz e4).1
   ·rename_i ρ4 e4;cases(alz e4).1
   ·cases em2
   ·cases em2
   ·cases em2
  ·rename_i ρ3 e3;cases em2;exact⟨tg,F2,ρ2,ZV,_,G2,e3,λH3 F3 G3 x3=>iteF (q σ2 H3 F3 G3 ea2 (hB2.step G2 x3) (x2.trans x3.oi))⟩
  ·cases em2
  ·cases em2
end
def axd(K:Fg9)(n nl:Nat)(g:Sd):Sp:=λvs H Q _=>vs.length=n/\∃b a F as ρ',vs[0]? = ZY (.ref a)/\Bnd H a/\Good K (tgOf ((vs++[V.ref b]).map ZY)) F H as ((vs++[V.ref b]).map ZY)/\g (as++aJ (nl-(n+1)) .emp)=ZY (.nx,ρ') /\
 ∀σ' H' F',Good K (tgOf ((vs++[V.ref b]).map ZY)) F' H' ρ' σ'->σ'[0]? = ZY (ZY (.ref a))->Bnd H' a->Ext (Oi as ((vs++[V.ref b]).map ZY) a) (Oi ρ' σ' a) F H F' H'->Q .non H'
def a8d{K:Fg9}{P:cA}{w:dU}{mg:Str->Option aD}{base:eF}{x qual:Str}{st:fD}{f:aU}{fd:dR}{N ps:List Str}{k nl np:Nat}{g:Sd}(F:Fun K x qual st f fd)(S:FnScope N ps (ao st))(h1:N.length=nl)(h2:ps.length=np)(hN:np+1<=nl)(h0:0<np)
  (hgh:∀y∈(N.drop np).take 1,(ao st).names.lookup y=ZX)
  (body:∀(cdv:aD) (A:cT) (outer:List Env) (s:aG) (H:Hp) (E:XK),Room k (A.deeper (lO qual (ao st) s.heap.objs.size f cdv))->SMs K (cxOf CX0 P w K mg base N qual (ao st) f cdv A outer s H E).nox 0 (je st) g) :
  FnOk P w K mg base CX0 (k+1) f fd ps (axd K np nl g):=by
 subst h1 h2;refine F.ok S (λvs H Q E h=>h.1) (λcdv A outer s H vs Q E hr h=>⟨_,at6 ((body cdv A outer s H E hr).go rfl),?_⟩)
 obtain⟨hn,b,a,F,as,ρ',hv0,hB,G,em,q⟩:=h;have hl:as.length=((vs++[V.ref b]).map ZY).length:=G.len;have hlen:(vs++[V.ref b]).length=ps.length+1:=by rw[cC,hn];rfl
 have G1:=G.app (N.length-(ps.length+1));refine⟨(vs++[V.ref b]).map ZY++aJ (N.length-(ps.length+1)) ZX,⟨?_,?_⟩,?_⟩
 ·show _=(vs.map ZY++aJ (N.length-vs.length) ZX).length;rw[cC,cC,aC,aC,iM,iM,hlen];omega
 ·intro i y v ei ev vis;show(vs.map ZY++aJ (N.length-vs.length) ZX)[i]? = ZY (ZY v)
  by_cases q1:i<vs.length
  ·rw[bA (by rw[aC];exact q1)]
   rw[bA (by rw[aC,hlen];omega),aL,bA q1] at ev
   rw[aL];exact ev
  ·exfalso
   by_cases q2:i<ps.length+1
   ·have hm:y∈(N.drop ps.length).take 1:=by
     refine cD (i:=i-ps.length) ?_;rw[fM (by omega),List.getElem?_drop,show ps.length+(i-ps.length)=i by omega]
     exact ei
    have z:=hgh y hm;rcases vis with v |v |v
    ·rw[show((cxOf CX0 P w K mg base N qual (ao st) f cdv A outer s H E).nox).env.scope=ao st from rfl,z] at v;cases v
    ·rw[show((cxOf CX0 P w K mg base N qual (ao st) f cdv A outer s H E).nox).env.scope=ao st from rfl,z] at v;cases v
    ·rw[show((cxOf CX0 P w K mg base N qual (ao st) f cdv A outer s H E).nox).env.scope=ao st from rfl,z] at v;cases v
   ·rw[cR (by rw[aC,hlen];omega),fU] at ev
    split at ev <;> cases ev
 have oe:∀z,Oi (as++aJ (N.length-(ps.length+1)) .emp) ((vs++[V.ref b]).map ZY++aJ (N.length-(ps.length+1)) ZX) z=Oi as ((vs++[V.ref b]).map ZY) z:=λz=>by
  unfold Oi;rw[ul hl]
 refine⟨_,F,_,ρ',a,G1,?_,hB,em,λσ' H' F' G' ea hB' x'=>?_⟩
 ·have hlt:0<vs.length:=(aH.mp hv0).1;rw[bA (by rw[aC,hlen];omega),aL,bA hlt,hv0]
  rfl
 ·rw[oe] at x';exact q σ' H' F' G' ea hB' x'
def rt1(k:Nat):Nat ⊕ D->Nat ⊕ D
 |.inl _=>.inl k
 |.inr d=>.inr d
def rtg(k:Nat)(fs:List (Str×(Nat ⊕ D))):List (Str×(Nat ⊕ D)):=fs.map λp=>(p.1,rt1 k p.2)
theorem af2{k:Nat}{f:Str}:∀{fs:List (Str×(Nat ⊕ D))},(rtg k fs).lookup f=(fs.lookup f).map (rt1 k)
 | []=>rfl
 | (g,y)::r=>by
  unfold rtg;rw[bB]
  by_cases e:f=g
  ·subst e;rw[cG,cG];rfl
  ·have hb:(f==g)=ZV:=beq_eq_false_iff_ne.mpr e;simp only[bJ,hb];exact af2
def inlB(k:Nat)(fs:List (Str×(Nat ⊕ D))):Bool:=fs.all λp=>match p.2 with
 |.inl k'=>k'==k
 |.inr _=>ZW
theorem avj{k k':Nat}{f:Str}:∀{fs:List (Str×(Nat ⊕ D))},inlB k fs=ZW->fs.lookup f=ZY (.inl k')->k'=k
 | [],_,h=>by cases h
 | (g,y)::r,hb,h=>by
  unfold inlB at hb;rw[jR,bD] at hb
  by_cases e:f=g
  ·subst e;rw[cG] at h;cases h;exact beq_iff_eq.mp hb.1
  ·have he:(f==g)=ZV:=beq_eq_false_iff_ne.mpr e;simp only[bJ,he] at h;exact avj hb.2 h
section
variable{K:Fg9}{tg tg1:Nat->aU}{F H:Hp}{c:Str}{fs:List (Str×(Nat ⊕ D))}{k k1:Nat}{o:Option V}
def SlOk.rtg(h:SlOk K tg F H (.box c fs) o)(hk:inlB k fs=ZW)(ht:tg1 k1=tg k):SlOk K tg1 F H (.box c (rtg k1 fs)) o:=by
 obtain⟨a,C,dx,fvs,e1,e2,e3,e4,e7,e5,e6⟩:=h;refine⟨a,C,dx,fvs,e1,e2,e3,e4,λf hf=>?_,λf k' hf=>?_,λf d hf=>?_⟩
 all_goals rw[af2] at hf
 ·exact e7 f (sZ.mp hf)
 ·obtain⟨y,hy,hz⟩:=cN.mp hf;cases y with
  |inl k2=>
   cases hz;rw[e5 f k2 hy,avj hk hy,ht]
  |inr d=>cases hz
 ·obtain⟨y,hy,hz⟩:=cN.mp hf;cases y with
  |inl k2=>cases hz
  |inr d'=>
   cases hz;exact e6 f _ hy
end
def apk(c m:Str)(i j nl:Nat)(g:Sd)(me:M D):Sd:=dM (mIsB c i m) λ_=>dM me λd ρ=>match (ρ:List Sl)[i]?,(ρ:List Sl)[j]? with
 |some (.box c' fs),ZY (.own (ZY k) l)=>if c'=c/\inlB k fs=ZW/\(bC ρ i .emp).all ach=ZW/\i≠j then
   match g ([.box c (rtg 2 fs),.val d,.own (ZY 2) l]++aJ (nl-3) .emp) with
   |some (.nx,ρ2)=>match (ρ2:List Sl)[(0:Nat)]?,(ρ2:List Sl)[(2:Nat)]? with
    |some (Sl.box c2 fs2),ZY (Sl.own (ZY 2) l2)=>if c2=c/\inlB 2 fs2=ZW then ZY (.nx,bC (bC ρ i (.box c (rtg k fs2))) j (.own (ZY k) l2)) else ZX
    |_,_=>ZX
   |_=>ZX
  else ZX
 |_,_=>ZX
section
variable{K:Fg9}{X:Cx}{e o:cZ}{pos p2 apos:Pos}{i j:Nat}{cn m:Str}{g:Sd}
theorem ata{τ:L2.St}{c:Str}{fs:List (Str×(Nat ⊕ D))}{d:D}{l:List D}{b z:aU}{t:Option Nat}(hτ:τ[2]? = ZY (ZY (V.ref b)))(h:Own [.box c fs,.val d,.own t l] τ z):z=b:=by
 obtain⟨n,⟨t,l,e⟩,q⟩:=h
 match n,e,q with
 | 0,e,_=>cases e
 | 1,e,_=>cases e
 | 2,_,q=>rw[hτ] at q;cases q;rfl
 |n+3,e,_=>simp at e
theorem arn{tg:Nat->aU}{F H:Hp}{c:Str}{fs:List (Str×(Nat ⊕ D))}{d:D}{l:List D}{a b:aU}{v:V}{ws:List V}(g:Same F H)(h0:SlOk K tg F H (.box c fs) (ZY (.ref a)))(h1:Is K F d v)(hf:F b=ZX)(hh:H b=ZY (.lst ws))(hl:IsL K F l ws)(ht:tg 2=b) :
  Good K tg F H [.box c fs,.val d,.own (ZY 2) l] [ZY (V.ref a),ZY v,ZY (V.ref b)]:=⟨g,rfl,λn s o e q=>by
 match n,e,q with
 | 0,e,q=>cases e;cases q;exact h0
 | 1,e,q=>cases e;cases q;exact⟨v,rfl,h1⟩
 | 2,e,q=>
  cases e;cases q;exact⟨b,ws,rfl,hf,hh,hl,λk ek=>by cases ek;exact ht⟩
 |n+3,e,_=>simp at e,λn n' z ⟨⟨t,l1,e⟩,q⟩ ⟨⟨t',l2,e'⟩,q'⟩=>by
 match n,n',e,e' with
 | 0,_,e,_=>cases e
 | 1,_,e,_=>cases e
 | 2,0,_,e'=>cases e'
 | 2,1,_,e'=>cases e'
 | 2,2,_,_=>rfl
 | 2,n'+3,_,e'=>simp at e'
 |n+3,_,e,_=>simp at e⟩
def aut{tg:Nat->aU}{F H F' H':Hp}{ρ:Ro}{σ:L2.St}{c:Str}{fs fs2:List (Str×(Nat ⊕ D))}{k:Nat}{l l2:List D}{a b:aU}{ws:List V}{O O':aU->Prop}(G:Good K tg F H ρ σ)(hB:Bnd H a)(ea:σ[i]? = ZY (ZY (.ref a)))(ei:(ρ:List Sl)[i]? = ZY (.box c fs))(ej:(ρ:List Sl)[j]? = ZY (.own (ZY k) l))(hij:i≠j)(hb:(bC ρ i .emp).all ach=ZW)(eb:σ[j]? = ZY (ZY (.ref b)))
  (hO:∀z,O z->z=b∨z=a) (x:Ext O O' F H F' H') (s':Same F' H') (hbx:SlOk K tg F' H' (.box c fs2) (ZY (.ref a))) (hf:F' b=ZX) (hh:H' b=ZY (.lst ws)) (hl:IsL K F' l2 ws) :
  Good K tg F' H' (bC (bC ρ i (.box c fs2)) j (.own (ZY k) l2)) σ/\Ext (Oi ρ σ a) (Oi (bC (bC ρ i (.box c fs2)) j (.own (ZY k) l2)) σ a) F H F' H':=by
 have hi:i < ρ.length:=(aH.mp ei).1;have hj:j < ρ.length:=(aH.mp ej).1;obtain⟨oj,hoj,b',ws0,rfl,hf0,hh0,hl0,ht0⟩:=G.at ej;rw[eb] at hoj;cases hoj;have gs:∀n,(bC (bC ρ i (.box c fs2)) j (.own (ZY k) l2))[n]? = if j=n then ZY (.own (ZY k) l2) else if i=n then ZY (.box c fs2) else (ρ:List Sl)[n]? := λn=>by
  rw[aY,cJ,aY]
  by_cases q1:j=n
  ·subst q1;rw[if_pos rfl,if_pos rfl,if_pos hj]
  ·rw[if_neg q1,if_neg q1]
   by_cases q2:i=n
   ·subst q2;rw[if_pos rfl,if_pos rfl,if_pos hi]
   ·rw[if_neg q2,if_neg q2]
 have ow:∀n z,Owns (bC (bC ρ i (.box c fs2)) j (.own (ZY k) l2)) σ n z->Owns ρ σ n z:=λn z ⟨⟨t,l',e⟩,q⟩=>by
  rw[gs] at e
  by_cases q1:j=n
  ·subst q1;exact⟨⟨_,_,ej⟩,q⟩
  ·rw[if_neg q1] at e
   by_cases q2:i=n
   ·subst q2;rw[if_pos rfl] at e;cases e
   ·rw[if_neg q2] at e;exact⟨⟨t,l',e⟩,q⟩
 refine⟨⟨s',by rw[cJ,cJ];exact G.len,λn s o e q=>?_,λn n' z w w'=>G.inj n n' z (ow n z w) (ow n' z w')⟩,x.sub,λz o e=>?_,λz o e n=>x.keep z o e λw=>?_,λz w=>.inl (w.imp (λ⟨n,w⟩=>⟨n,ow n z w⟩) id),x.there⟩
 ·rw[gs] at e
  by_cases q1:j=n
  ·subst q1;rw[if_pos rfl] at e;cases e;rw[eb] at q;cases q;exact⟨b,ws,rfl,hf,hh,hl,λk' ek=>by cases ek;exact ht0 k rfl⟩
  ·rw[if_neg q1] at e
   by_cases q2:i=n
   ·subst q2;rw[if_pos rfl] at e;cases e;rw[ea] at q;cases q;exact hbx
   ·rw[if_neg q2] at e;have z:=G.sl n s o e q;cases s with
    |emp=>trivial
    |val d=>
     obtain⟨v,h1,h2⟩:=z;exact⟨v,h1,h2.mono x.sub⟩
    |lol ts=>
     obtain⟨a2,h1,h2⟩:=z;exact⟨a2,h1,x.sub _ _ h2⟩
    |lnk k2=>exact z
    |box c' fs'=>
     have hm:(bC ρ i .emp)[n]? = ZY (.box c' fs'):=by rw[aY,if_neg q2];exact e
     exact absurd (bK.mp hb _ (cD hm)) (by simp[ach])
    |own t l'=>
     obtain⟨a2,vs,rfl,hf2,hh2,hl2,ht2⟩:=z;have no:¬O a2:=λw=>by
      rcases hO a2 w with w |w
      ·subst w;exact q1 (G.inj j n _ ⟨⟨_,_,ej⟩,eb⟩ ⟨⟨_,_,e⟩,q⟩)
      ·subst w;obtain⟨C,dx,fvs,hc,_⟩:=hB;rw[hc] at hh2;cases hh2
     refine⟨a2,vs,rfl,?_,x.keep a2 _ hh2 no,hl2.mono x.sub,ht2⟩;cases z:F' a2 with
     |none=>rfl
     |some u=>
      rcases x.new a2 u z with z |z |z
      ·rw[hf2] at z;cases z
      ·rw[hh2] at z;cases z
      ·exact absurd z no
 ·rcases x.new z o e with w |w |w
  ·exact .inl w
  ·exact .inr (.inl w)
  ·rcases hO z w with w |w
   ·subst w;exact .inr (.inr (.inl ⟨j,⟨_,_,ej⟩,eb⟩))
   ·exact .inr (.inr (.inr w))
 ·rcases hO z w with w |w
  ·subst w;exact n (.inl ⟨j,⟨_,_,ej⟩,eb⟩)
  ·exact n (.inr w)
def ati{me:M D}{ps:List Str}{kk nl:Nat}(Dm:DfnM X.prog X.w X.K X.mg X.base cn m ps kk (axd K 2 nl g))(hr:Room kk X.A)(ho:PE X o (tVar i))(h:EV K X e me){pl:Sem Bool}
  (hst:aO [e] X.env=(ZV,eval e X.env)::aO [] X.env:=by rfl) (hpl:(fV pos (aO [] X.env)).any (·.1)=ZV:=by rfl)
  (ht:eval (.Call (.Attribute o m apos) [e] [] pos) X.env=(do
   let ov <-eval o X.env
   standAt apos.atName
   let (f,first) <-lN [ov] (getMethod ov m pl)
   callWith pos f first (fV pos (aO [e] X.env)) (backToKw pos (keywordEach [] X.env))):=by rfl)
  (hs:gF (.Call (.Attribute o m apos) [e] [] pos) ZX p2.line X.env=pure ZV:=by rfl) :
  SM K X i (.Expr (.Call (.Attribute o m apos) [e] [] pos) p2) (apk cn m i j nl g me):=SM.mk λhk=>by
 obtain⟨C,fa,fd,hC,hcl,hme,hF,hB⟩:=Dm.ex;refine PS.imp (at8 (a1x (pl:=pl) ho hcl hme hF hr hB .nil a2g (wk (h hk) aht hst) hst hpl ht) hs) λE σ H z9=>?_
 obtain⟨tg,F,ρ,ρ',a,G,ea,hBn,em,q⟩:=z9;obtain⟨fs0,ρ0,e0,em0⟩:=apl em;obtain⟨d,ρ1,e1,em1⟩:=apl em0
 clear em em0
 subst hk;obtain⟨rfl,_,a0,C0,dx0,fvs0,z1,z2,z3,z4,z5,z6,z7,z8⟩:=a73 G e0;rw[ea] at z1;cases z1;rw[hC] at z4;cases z4;split at em1
 ·rename_i c' fs k l ei ej;split at em1
  ·rename_i hz;obtain⟨rfl,hik,hb,hij⟩:=hz;split at em1
   ·rename_i ρ2 e2;split at em1
    ·rename_i c2 fs2 l2 e3 e4;split at em1
     ·rename_i hz2;obtain⟨rfl,hik2⟩:=hz2;cases em1;refine⟨_,ea,a,dx0,fvs0,rfl,z3,z6,tg,F,ρ0,d,ρ1,G,e1,λv H1 F1 G1 x1 r1=>?_⟩
      obtain⟨oi,hoi,hbx⟩:=G1.at ei;rw[ea] at hoi;cases hoi;obtain⟨oj,hoj,b,ws,rfl,hfb,hhb,hlb,htb⟩:=G1.at ej;have hB1:=hBn.step G x1;refine⟨rfl,b,a,F1,_,ρ2,rfl,hB1,arn G1.sub (SlOk.rtg (k1:=2) hbx hik (htb k rfl).symm) r1 hfb hhb hlb rfl,e2,λσ' H' F' G' ea' hB' x'=>?_⟩
      obtain⟨o0,ho0,hbx'⟩:=G'.at e3;rw[ea'] at ho0;cases ho0;obtain⟨o2,ho2,b2,ws2,rfl,hf2,hh2,hl2,ht2⟩:=G'.at e4;have hb2:b=b2:=ht2 2 rfl;subst hb2;obtain⟨G3,x3⟩:=aut (fs2:=rtg k fs2) (O:=Oi _ _ a) G1 hB1 ea ei ej hij hb hoj (λz w=>w.imp (λw=>ata rfl w) id) x' G'.sub (hbx'.rtg hik2 (htb k rfl)) hf2 hh2 hl2
      exact q σ H' F' G3 ea hB' (x1.oi.trans x3)
     ·cases em1
    ·cases em1
   ·cases em1
  ·cases em1
 ·cases em1
end
abbrev BF:=List (Str×(Nat ⊕ D))
def azn(K:Fg9)(F H:Hp)(c:Str)(fs:BF)(l:List D)(a b:aU):Prop:=SlOk K (λ_=>b) F H (.box c fs) (ZY (.ref a))/\Bnd H a/\F b=ZX/\∃vs,H b=ZY (.lst vs)/\IsL K F l vs
abbrev MS:=Ro->Option ((BF×List D)×Ro)
def TEs(K:Fg9)(c:Str)(m:MS):TE:=λσ H Q=>∃tg F ρ fs l ρ1,Good K tg F H ρ σ/\m ρ=ZY ((fs,l),ρ1) /\
 ∀a b H' F',Good K tg F' H' ρ1 σ->Ext (Own ρ σ) (Own ρ1 σ) F H F' H'->H a=ZX->(Own ρ σ b∨H b=ZX)->¬Own ρ1 σ b->azn K F' H' c fs l a b->Q (.ref a) H'
structure ES (K:Fg9) (X:Cx) (c:Str) (e:cZ) (m:MS):Prop where
 go:X.K=K->PE X e (TEs K c m)
noncomputable def frs:List (Str×Rv)->List (List D)
 | []=>[]
 | (_,.fr l)::r=>l::frs r
 | (_,.v _)::r=>frs r
 | (_,.tf _ _)::r=>frs r
section
variable{K:Fg9}{X:Cx}{tg tg1:Nat->aU}{F H F1 H1:Hp}{O:aU->Prop}{ρ ρ1:Ro}{σ:L2.St}
theorem FdR.lens{rs:List (Str×Rv)}{fvs:List (Str×V)}{A:List aU}(h:FdR K F H O rs fvs A):fvs.length=rs.length:=by
 induction h with
 |nil=>rfl
 |v h t ih=>rw[bG,bG,ih]
 |fr hf hn hh h ne t ih=>rw[bG,bG,ih]
theorem FdR.zero{rs:List (Str×Rv)}{fvs:List (Str×V)}{A:List aU}(h:FdR K F H O rs fvs A):frs rs=[]->A=[]:=by
 induction h with
 |nil=>exact λ_=>rfl
 |v h t ih=>exact ih
 |fr hf hn hh h ne t ih=>exact λz=>by cases z
theorem FdR.one{rs:List (Str×Rv)}{fvs:List (Str×V)}{A:List aU}{l:List D}(h:FdR K F H O rs fvs A):frs rs=[l]->∃b,A=[b]/\F b=ZX/\∃ws,H b=ZY (.lst ws)/\IsL K F l ws:=by
 induction h with
 |nil=>exact λz=>by cases z
 |v h t ih=>exact ih
 | @fr f l' e ws rs fvs A hf hn hh h ne t ih=>
  intro z;have z:l'::frs rs=[l]:=z;obtain⟨rfl,z2⟩:=List.cons.inj z;obtain rfl:=t.zero z2;exact⟨e,rfl,hf,ws,hh,h⟩
def SlOk.rtgC{c:Str}{fs:BF}{o:Option V}{k1:Nat}{b:aU}(h:SlOk K (λ_=>b) F H (.box c fs) o)(ht:tg1 k1=b):SlOk K tg1 F H (.box c (Dn.rtg k1 fs)) o:=by
 obtain⟨a,C,dx,fvs,e1,e2,e3,e4,e7,e5,e6⟩:=h;refine⟨a,C,dx,fvs,e1,e2,e3,e4,λf hf=>?_,λf k' hf=>?_,λf d hf=>?_⟩
 all_goals rw[af2] at hf
 ·exact e7 f (sZ.mp hf)
 ·obtain⟨y,hy,hz⟩:=cN.mp hf;cases y with
  |inl k2=>
   cases hz;rw[e5 f k2 hy,ht]
  |inr d=>cases hz
 ·obtain⟨y,hy,hz⟩:=cN.mp hf;cases y with
  |inl k2=>cases hz
  |inr d'=>
   cases hz;exact e6 f _ hy
def SlOk.cst{c:Str}{fs:BF}{o:Option V}{k:Nat}{b:aU}(h:SlOk K tg F H (.box c fs) o)(hk:inlB k fs=ZW)(ht:tg k=b):SlOk K (λ_=>b) F H (.box c fs) o:=by
 obtain⟨a,C,dx,fvs,e1,e2,e3,e4,e7,e5,e6⟩:=h;refine⟨a,C,dx,fvs,e1,e2,e3,e4,e7,λf k' hf=>?_,e6⟩
 rw[e5 f k' hf,avj hk hf,ht]
end
def auv(n nl:Nat)(fms:List (Str×M Rv))(js:List (Option Nat))(ms:M (List (Option D))):MS:=λρ=>match ms ρ with
 |some (.ok ds,ρ1)=>if okJs ρ1 (ZX::js)=ZW then match iniD fms (lend ρ1 (ZX::js) (ZX::ds)++aJ (nl-n) .emp) with
  |some (rs,ρc)=>match frs rs with
   | [l]=>if rs.length<1000 then ZY ((mkFs rs 0,l),putB ρ1 (ZX::js) (ρc.take n)) else ZX
   |_=>ZX
  |none=>ZX
  else ZX
 |_=>ZX
section
variable{K:Fg9}{X:Cx}{e:cZ}{es:List cZ}{p p2 pos pos2:Pos}{x c:Str}{i j kk n nl:Nat}{fms:List (Str×M Rv)}{ps:List Str}{js:List (Option Nat)}{ms:M (List (Option D))}
def a8j(D:DfnI X.prog X.w X.K X.mg X.base c ps kk (atg K n nl fms))(hr:Room (kk+1) X.A)(hgl:Gl X c)(ha:EG K X (e::es) js ms)(hn:1+js.length=n:=by rfl)
  (hdb:(c==("__debug__" : Str))=ZV:=by decide) (he:Zc X e es:=by rfl) (hpl:(fV pos (aO es X.env)).any (·.1)=ZV:=by rfl) :
  ES K X c (.Call (.Name c p2) (e::es) [] pos) (auv n nl fms js ms):=ES.mk λhk=>by
 obtain⟨C,fa,fd,hC,hmg,hM,hF,hB⟩:=D.ex;subst hk;refine PE.imp (a1y hM hF hr hgl hmg hB .nil a2g (ha rfl) hdb he hpl) λσ H Q z9=>?_
 obtain⟨tg,F,ρ,fs,l,ρ9,G,em,q⟩:=z9;unfold auv at em;split at em
 ·rename_i ds ρ1 e1;split at em
  ·rename_i hj;split at em
   ·rename_i rs ρc e2;split at em
    ·rename_i l' hfr;split at em
     ·rename_i hlen;cases em;refine⟨tg,F,ρ,ds,ρ1,G,e1,λvs H1 F1 G1 x1 ar x0 dx hx0 hdx hne=>?_⟩
      have vl:=ar.length;have L:Lent X.K F1 σ ((V.ref x0::vs).map ZY) (ZX::js) (ZX::ds):=by
       have:=a2z (a:=x0) (gs:=[]) (gv:=[]) ar rfl (λn j v h=>by simp at h)
       simpa using this
      have hx1:(upd H1 dx (.own x0)) x0=ZX:=by rw[cg (fO hne)];exact hx0
      have G2:=(G1.fresh hdx (.own x0)).fresh hx1 (.ins C dx []);have Gl:=aad G2 hj L;show atg X.K n nl fms C (V.ref x0::(vs++[])) _ _ E0;rw[eG];refine⟨by rw[bG,vl];omega,x0,dx,F1,_,rs,ρc,rfl,f9,G1.freeF hx0,Gl,e2,λH' F' fvs A O' s' g1 g2 g3 g4 fin=>⟨rfl,?_⟩⟩
      have y:Ext (Own (lend ρ1 (ZX::js) (ZX::ds)) ((V.ref x0::vs).map ZY)) (λz=>O' z∨z=x0∨z∈A) F1 H1 F' H':=by
       have up:∀z o,H1 z=ZY o->(upd (upd H1 dx (.own x0)) x0 (.ins C dx [])) z=ZY o:=λz o hz=>by
        rw[cg (jf hz hx0),cg (jf hz hdx)];exact hz
       have dn:∀z,(upd (upd H1 dx (.own x0)) x0 (.ins C dx [])) z=ZX->H1 z=ZX:=λz hz=>by
        cases q:H1 z with
        |none=>rfl
        |some o=>rw[up z o q] at hz;cases hz
       refine⟨g4.sub,λz o hz=>?_,λz o hz nz=>?_,λz hz=>?_,λz hz=>dn z (g4.there z hz)⟩
       ·rcases g4.new z o hz with w |w |w |w
        ·exact .inl w
        ·exact .inr (.inl (dn z w))
        ·exact .inr (.inr w)
        ·subst w;rw[g2] at hz;cases hz
       ·exact g4.keep z o (up z o hz) λw=>w.elim nz λw=>by subst w;rw[hx0] at hz;cases hz
       ·rcases g4.own z hz with(w |w) |w
        ·exact .inl w
        ·subst w;exact .inr hx0
        ·exact .inr (dn z w)
      have fin':=fin.mono (O':=λz=>O' z∨z=x0∨z∈A) λz hz=>.inl hz
      have Gb:=ac3 G1 L y s' fin';have xb:=afn (ps:=ρc.take n) G1 L y;obtain⟨b,rfl,hfb,ws,hhb,hlb⟩:=g3.one hfr;have hA:¬Own (putB ρ1 (ZX::js) (ρc.take n)) σ b/\(Own ρ1 σ b∨H1 b=ZX):=by
       obtain⟨o1,o2,ws',o3,l3,o4⟩:=g3.out b (aQ ..);have w:=y.own b (.inr (.inr (aQ ..)));have rr:relR X.K (.fr l3) (.ref b) H1 (Own (lend ρ1 (ZX::js) (ZX::ds)) ((V.ref x0::vs).map ZY)) F' H' O':=⟨b,ws',rfl,w.symm,o2,o3,o4,o1⟩;obtain⟨a,vs',e',h1,h2,h3,h4,h5⟩:=al4 (ps:=ρc.take n) G1 L fin rr;cases e';exact⟨h5,h1.symm⟩
      obtain⟨k1,k2,k3⟩:=a2u (tg1:=λ_=>b) (n:=0) g3 (λm e' he'=>by
       cases m with
       |zero=>cases he';rfl
       |succ m=>simp at he')
      refine q x0 b H' F' Gb (x1.trans xb) (x1.there x0 hx0) ?_ hA.1 ⟨⟨x0,C,dx,fvs,rfl,g2,g1,hC,k1,k2,k3⟩,⟨C,dx,fvs,g1,by rw[g3.lens];exact hlen⟩,hfb,ws,hhb,hlb⟩
      rcases hA.2 with w |w
      ·exact x1.own b w
      ·exact .inr (x1.there b w)
     ·cases em
    ·cases em
   ·cases em
  ·cases em
 ·cases em
noncomputable def avh:Sl->Bool
 |.val _=>ZW
 |_=>ZV
def aoa(K:Fg9)(n:Nat)(c:Str)(f:Ro->Option (BF×List D)):Sp:=λvs H Q _=>vs.length=n/\∃F as fs l,Good K (tgOf (vs.map ZY)) F H as (vs.map ZY)/\(as:List Sl).all avh=ZW/\f as=ZY (fs,l) /\
 ∀a b H' F',Same F' H'->Same F F'->(∀z o,F' z=ZY o->F z=ZY o∨H z=ZX)->Same H H'->H a=ZX->H b=ZX->azn K F' H' c fs l a b->Q (.ref a) H'
def aci(f:Ro->Option (BF×List D))(js:List (Option Nat))(ms:M (List (Option D))):MS:=λρ=>match ms ρ with
 |some (.ok ds,ρ1)=>if okJs ρ1 js=ZW/\(lend ρ1 js ds:List Sl).all avh=ZW then match f (lend ρ1 js ds) with
  |some (fs,l)=>ZY ((fs,l),ρ1)
  |none=>ZX
  else ZX
 |_=>ZX
def a3t{f:Ro->Option (BF×List D)}{k:Nat}{pn:List Str}(F:Dfn X.prog X.w X.K X.mg X.base x pn k (aoa K n c f))(hr:Room k X.A)(hg:Gl X x)(ha:EG K X (e::es) js ms)(hn:js.length=n:=by rfl)(hdb:Zb x:=by decide)
  (he:Zc X e es:=by rfl) (hpl:(fV pos (aO es X.env)).any (·.1)=ZV:=by rfl):ES K X c (.Call (.Name x p) (e::es) [] pos) (aci f js ms):=ES.mk λhk=>PE.imp (a2a F hr hg (ha hk) hdb he hpl) λσ H Q z9=>by
 obtain⟨tg,F,ρ,fs,l,ρ9,G,em,q⟩:=z9;unfold aci at em;split at em
 ·rename_i ds ρ1 e1;split at em
  ·rename_i hz;obtain⟨hj,hv⟩:=hz;split at em
   ·rename_i fs' l' e2;cases em;refine⟨tg,F,ρ,ds,ρ9,G,e1,λvs H1 F1 G1 x1 ar=>?_⟩
    have L:=ar.lent;show aoa K n c f (vs++[]) H1 Q E0;rw[eG];refine⟨by rw[ar.length];exact hn,F1,_,fs,l,aad G1 hj L,hv,e2,λa b H' F' s1 s2 s3 s4 h1 h2 bx=>?_⟩
    have no:∀z,H1 z≠ZX->F1 z=ZX->F' z=ZX:=λz hz hf=>by
     cases w:F' z with
     |none=>rfl
     |some o=>
      rcases s3 z o w with w |w
      ·rw[hf] at w;cases w
      ·exact absurd w hz
    have G2:Good K tg F' H' ρ9 σ:=G1.grow s2 s1 (λz w=>by
     obtain⟨w1,ws,w2⟩:=G1.ownAt w;exact⟨no z (by rw[w2];simp) w1,by rw[w2,s4 z _ w2]⟩) λz C dx fvs w1 w2=>⟨no z (by rw[w2];simp) w1,by rw[w2,s4 z _ w2]⟩
    have x2:Ext (Own ρ9 σ) (Own ρ9 σ) F1 H1 F' H':=⟨s2,λz o w=>(s3 z o w).imp id .inl,λz o w _=>s4 z o w,λz w=>.inl w,λz w=>Same.free s4 w⟩
    exact q a b H' F' G2 (x1.trans x2) (x1.there a h1) (.inr (x1.there b h2)) (λw=>G1.own_ne h2 w rfl) bx
   ·cases em
  ·cases em
 ·cases em
end
def TSr(K:Fg9)(i:Nat)(g:Sd):TS:=λD σ H=>∃tg F ρ ρ' a,Good K tg F H ρ σ/\σ[i]? = ZY (ZY (.ref a))/\Bnd H a/\g ρ=ZY (.nx,ρ') /\
 ∀σ' H' F',Good K tg F' H' ρ' σ'->σ'[i]? = ZY (ZY (.ref a))->Bnd H' a->Ext (Oi ρ σ a) (Oi ρ' σ' a) F H F' H'->D.rt (.ref a) H'
structure SRs (K:Fg9) (X:Cx) (i:Nat) (ss:List fD) (g:Sd):Prop where
 go:X.K=K->PSs X ss (TSr K i g)
noncomputable def strD(nl np:Nat)(g:Ro->Option (BF×List D)):Ro->Option (BF×List D):=λas=>g (as++aJ (nl-np) .emp)
def TSf(K:Fg9)(c:Str)(g:Ro->Option (BF×List D)):TS:=λD σ H=>∃tg F ρ fs l,Good K tg F H ρ σ/\(∀z,¬Own ρ σ z)/\g ρ=ZY (fs,l) /\
 ∀a b H' F',Same F' H'->Same F F'->(∀z o,F' z=ZY o->F z=ZY o∨H z=ZX)->Same H H'->H a=ZX->H b=ZX->azn K F' H' c fs l a b->D.rt (.ref a) H'
structure SF (K:Fg9) (X:Cx) (c:Str) (ss:List fD) (g:Ro->Option (BF×List D)):Prop where
 go:X.K=K->PSs X ss (TSf K c g)
def ake(c:Str)(i j:Nat)(m:MS)(k:Sd):Ro->Option (BF×List D):=λρ=>match m ρ with
 |some ((fs,l),ρ1)=>if (ρ1:List Sl).all tagB=ZW/\i≠j/\i<(ρ1:List Sl).length then match k (bC (bC ρ1 i (.box c (rtg 1000 fs))) j (.own (ZY 1000) l)) with
  |some (.nx,ρ')=>match (ρ':List Sl)[i]?,(ρ':List Sl)[j]? with
   |some (Sl.box c2 fs2),ZY (Sl.own (ZY 1000) l2)=>if c2=c/\inlB 1000 fs2=ZW then ZY (fs2,l2) else ZX
   |_,_=>ZX
  |_=>ZX
  else ZX
 |none=>ZX
def dGot(c:Str)(i j:Nat)(m:MS)(k:Sd):Sd:=λρ=>match m ρ with
 |some ((fs,l),ρ1)=>if (ρ1:List Sl).all tagB=ZW/\i≠j then match k (bC (bC ρ1 i (.box c (rtg 1000 fs))) j (.own (ZY 1000) l)) with
  |some (fl,ρ4)=>if (offs ρ4 [i,j]:List Sl).all tagB=ZW then ZY (fl,offs ρ4 [i,j]) else ZX
  |none=>ZX
  else ZX
 |none=>ZX
section
variable{K:Fg9}{X:Cx}{e o:cZ}{es:List cZ}{st:fD}{ss:List fD}{p p2 pos pos2:Pos}{x c:Str}{i j:Nat}{m:MS}{g k:Sd}
def atf(ho:PE X o (tVar i)):SRs K X i [.Return (ZY o) pos] dNx:=SRs.mk λ_=>PSs.imp (aoo (az1 ho)) λE σ H z9=>by
 obtain⟨tg,F,ρ,ρ',a,G,ea,hB,em,q⟩:=z9;cases em;exact⟨_,ea,q σ H F G ea hB (Ext.refl _ _ _)⟩
def aks(h:SM K X i st g)(t:SRs K X i ss k):SRs K X i (st::ss) (dSeq g k):=SRs.mk λhk=>PSs.imp (ada (h.go hk) (t.go hk)) λE σ H z9=>by
 obtain⟨tg,F,ρ,ρ',a,G,ea,hB,em,q⟩:=z9;obtain⟨ρ1,e1,e2⟩:=azt em;exact⟨tg,F,ρ,ρ1,a,G,ea,hB,e1,λσ' H' F' G' ea' hB' x=>⟨tg,F',ρ1,ρ',a,G',ea',hB',e2,λσ2 H2 F2 G2 ea2 hB2 x2=>q σ2 H2 F2 G2 ea2 hB2 (x.trans x2)⟩⟩
def azy{tg:Nat->aU}{F H:Hp}{ρ:Ro}{σ:L2.St}{fs:BF}{l:List D}{a b:aU}(G:Good K tg F H ρ σ)(hb:(ρ:List Sl).all tagB=ZW)(hn:¬Own ρ σ b)(bx:azn K F H c fs l a b) :
  ∃tg1,(∀m,m<1000->tg1 m=tg m)/\tg1 1000=b/\Good K tg1 F H (bC (bC ρ i (.box c (rtg 1000 fs))) j (.own (ZY 1000) l)) (bC (bC σ i (ZY (V.ref a))) j (ZY (V.ref b))) /\
   ∀z,Own (bC (bC ρ i (.box c (rtg 1000 fs))) j (.own (ZY 1000) l)) (bC (bC σ i (ZY (V.ref a))) j (ZY (V.ref b))) z->Own ρ σ z∨z=b:=by
 obtain⟨b1,b2,b3,ws,b4,b5⟩:=bx;refine⟨λm=>if m<1000 then tg m else b,λm hm=>by simp[hm],by simp,?_⟩
 have Gt:=G.retag (tg1:=λm=>if m<1000 then tg m else b) hb (λm hm=>by simp[hm])
 have Gi:=Gt.put (s:=.box c (rtg 1000 fs)) (v:=.ref a) i (SlOk.rtgC b1 (by simp)) (λt l a z=>by cases z)
 have ob:∀z,Own (bC ρ i (.box c (rtg 1000 fs))) (bC σ i (ZY (V.ref a))) z->Own ρ σ z:=λz hz=>by
  rcases ahu G.len hz with w |⟨⟨t,l,w⟩,_⟩
  ·exact w
  ·cases w
 refine⟨Gi.put (s:=.own (ZY 1000) l) (v:=.ref b) j ⟨b,ws,rfl,b3,b4,b5,λk' ek=>by cases ek;simp⟩ (λt l' a' _ ea w=>by cases ea;exact hn (ob _ w)),λz hz=>?_⟩
 rcases ahu Gi.len hz with w |⟨_,w⟩
 ·exact .inl (ob z w)
 ·cases w;exact .inr rfl
def a0f{σ:L2.St}{a b:aU}(hgh:∀y,X.N[j]? = ZY y->¬Vis X.env.scope y):GH X (bC σ i (ZY (V.ref a))) (bC (bC σ i (ZY (V.ref a))) j (ZY (V.ref b))):=⟨by rw[cJ],λn y v hn hv vis=>by
 rw[aY] at hv
 by_cases q:j=n
 ·subst q;exact absurd vis (hgh y hn)
 ·rw[if_neg q] at hv;exact hv⟩
def ap2(hN:X.N.Nodup)(hi:X.N[i]? = ZY x)(hx:Loc X.env.scope x)(h:ES K X c e m)(t:SRs K X i ss k)(hgh:∀y,X.N[j]? = ZY y->¬Vis X.env.scope y)
  (hs:gF e (ZY (.Name x p)) pos.line X.env=pure ZV:=by rfl) (hf:X.fn x=ZW∨X.env.scope.names.lookup x=ZY .local:=by first |exact .inl rfl |exact .inr rfl |assumption) :
  SF K X c (.Assign [.Name x p] e pos::ss) (ake c i j m k):=SF.mk λhk=>PSs.imp (ada (aqa hN hi hx (h.go hk) hs hf) (at6 (t.go hk))) λE σ H z9=>by
 obtain⟨tg,F,ρ,fs2,l2,G,hno,em,q⟩:=z9;unfold ake at em;split at em
 ·rename_i fs l ρ1 e1;split at em
  ·rename_i hz;obtain⟨hb,hij,hlt⟩:=hz;split at em
   ·rename_i ρ' e2;split at em
    ·rename_i c2 fs3 l3 e3 e4;split at em
     ·rename_i hz2;obtain⟨rfl,hik⟩:=hz2;cases em;refine⟨tg,F,ρ,fs,l,ρ1,G,e1,λa b H1 F1 G1 x1 ha hbb hnb bx=>?_⟩
      obtain⟨tg1,ht,ht1,Gj,ow⟩:=azy (i:=i) (j:=j) G1 hb hnb bx;have hBn:Bnd H1 a:=bx.2.1;have hlt2:i < σ.length:=by rw[<-G1.len];exact hlt
      refine⟨_,a0f (b:=b) hgh,tg1,F1,_,ρ',a,Gj,?_,hBn,e2,λσ' H' F' G' ea' hB' x'=>?_⟩
      ·rw[aY,if_neg (fO hij),aY,if_pos rfl,if_pos hlt2]
      obtain⟨oi,hoi,hbx'⟩:=G'.at e3;rw[ea'] at hoi;cases hoi;obtain⟨oj,hoj,b2,ws2,rfl,hf2,hh2,hl2,ht2⟩:=G'.at e4;have hb2:b=b2:=ht1.symm.trans (ht2 1000 rfl);subst hb2;have hb0:H b=ZX:=hbb.elim (λw=>absurd w (hno b)) id
      have hO:∀z,Oi (bC (bC ρ1 i (.box c2 (rtg 1000 fs))) j (.own (ZY 1000) l)) (bC (bC σ i (ZY (V.ref a))) j (ZY (V.ref b))) a z->H z=ZX:=λz w=>by
       rcases w with w |w
       ·rcases ow z w with w |w
        ·exact(x1.own z w).elim (λw=>absurd w (hno z)) id
        ·subst w;exact hb0
       ·subst w;exact ha
      refine q a b H' F' G'.sub (x1.sub.trans x'.sub) (λz o w=>?_) (λz o w=>?_) ha hb0 ⟨SlOk.cst hbx' hik ht1,hB',hf2,ws2,hh2,hl2⟩
      ·rcases x'.new z o w with w |w |w
       ·rcases x1.new z o w with w |w |w
        ·exact .inl w
        ·exact .inr w
        ·exact absurd w (hno z)
       ·exact .inr (x1.there z w)
       ·exact .inr (hO z w)
      ·refine x'.keep z o (x1.keep z o w (hno z)) λw2=>?_
       rw[hO z w2] at w;cases w
     ·cases em
    ·cases em
   ·cases em
  ·cases em
 ·cases em
def a0i{P:cA}{w:dU}{mg:Str->Option aD}{base:eF}{qual:Str}{st:fD}{f:aU}{fd:dR}{N ps:List Str}{kk nl np:Nat}{g:Ro->Option (BF×List D)}(F:Fun K x qual st f fd)(S:FnScope N ps (ao st))(h1:N.length=nl)(h2:ps.length=np)
  (body:∀(cdv:aD) (A:cT) (outer:List Env) (s:aG) (H:Hp) (E:XK),Room kk (A.deeper (lO qual (ao st) s.heap.objs.size f cdv))->SF K (cxOf CX0 P w K mg base N qual (ao st) f cdv A outer s H E).nox c (je st) g) :
  FnOk P w K mg base CX0 (kk+1) f fd ps (aoa K np c (strD nl np g)):=by
 subst h1 h2;refine F.ok S (λvs H Q E h=>h.1) (λcdv A outer s H vs Q E hr h=>⟨_,(body cdv A outer s H E hr).go rfl,?_⟩)
 obtain⟨hn,F,as,fs,l,G,hv,em,q⟩:=h;have hl:as.length=(vs.map ZY).length:=G.len;have G1:=G.app (N.length-vs.length);unfold strD at em;rw[<-hn] at em;refine⟨_,F,_,fs,l,G1,λz w=>?_,em,q⟩
 have w:Own (as++aJ (N.length-vs.length) .emp) (vs.map ZY++aJ (N.length-vs.length) ZX) z:=w;rw[ul hl] at w;obtain⟨n,⟨t,l',e⟩,_⟩:=w;have:=bK.mp hv _ (cD e);cases this
def atc(hN:X.N.Nodup)(hi:X.N[i]? = ZY x)(hx:Loc X.env.scope x)(h:ES K X c e m)(t:SVs K X ss k)(hgh:∀y,X.N[j]? = ZY y->¬Vis X.env.scope y)
  (hs:gF e (ZY (.Name x p)) pos.line X.env=pure ZV:=by rfl) (hf:X.fn x=ZW∨X.env.scope.names.lookup x=ZY .local:=by first |exact .inl rfl |exact .inr rfl |assumption) :
  SVs K X (.Assign [.Name x p] e pos::ss) (dGot c i j m k):=SVs.mk λhk=>PSs.imp (ada (aqa hN hi hx (h.go hk) hs hf) (at6 (t.go hk))) λE σ H z9=>by
 obtain⟨tg,F,ρ,fl,ρ',G,em,q⟩:=z9;unfold dGot at em;split at em
 ·rename_i fs l ρ1 e1;split at em
  ·rename_i hz;obtain⟨hb,hij⟩:=hz;split at em
   ·rename_i fl' ρ4 e4;split at em
    ·rename_i hb4;cases em;refine⟨tg,F,ρ,fs,l,ρ1,G,e1,λa b H1 F1 G1 x1 ha hbb hnb bx=>?_⟩
     obtain⟨tg1,ht,ht1,Gj,ow⟩:=azy (i:=i) (j:=j) G1 hb hnb bx;refine⟨_,a0f (b:=b) hgh,tg1,F1,_,_,ρ4,Gj,e4,FlOk.off ht hb4 (FlOk.back ⟨x1.sub,x1.new,x1.keep,λz w=>?_,x1.there⟩ q)⟩
     rcases ow z w with w |w
     ·exact x1.own z w
     ·subst w;exact hbb
    ·cases em
   ·cases em
  ·cases em
 ·cases em
def eg_f{c f:Str}{js:List (Option Nat)}{ms:M (List (Option D))}(hc:FldT K c f)(h:PE X o (tVar i))(t:EG K X es js ms)(hb:iB o f X.env (eval o X.env)=eval o X.env:=by rfl)(hs:aO (.Attribute o f pos::es) X.env=(ZV,eval (.Attribute o f pos) X.env)::aO es X.env:=by rfl) :
  EG K X (.Attribute o f pos::es) (ZY j::js) ((mLnk c i f j).bind λ_=>bu j ms):=EG.mk λhk=>by
 subst hk;refine PA.imp (wk (a6o h hb) (t rfl) hs) λσ H Q z9=>?_
 obtain⟨tg,F,ρ,ds,ρ',G,em,q⟩:=z9;obtain⟨u,ρ9,e9,em1⟩:=bw em;obtain⟨rfl,a,C,dx,fvs,v,h1,h2,h3,h4,h5,h6⟩:=a7n G hc e9;obtain⟨d0,ρ0,e0,em2⟩:=bw em1;obtain⟨r,ρ2,e2,em3⟩:=bw em2;obtain⟨rfl,rfl⟩:=j0 em3;obtain⟨rfl,v',hv',_⟩:=tu G e0;rw[h6] at hv';cases hv';exact⟨_,h1,a,C,dx,fvs,v,rfl,h2,h3,h4,h5,tg,F,ρ0,r,_,G,e2,λvs H2 F2 G2 x2 r2=>q _ H2 F2 G2 x2 (.nm h6 r2)⟩
end
def aqu{N:List Str}{j:Nat}{sc:iZ}(h:ghB N [j] sc=ZW):∀y,N[j]? = ZY y->¬Vis sc y:=bb1 h j (aQ ..)
end Dn
namespace Mn
open L2
def axk{X:Cx}{tg iter elt:cZ}{ifs:List cZ}{scope:iZ}{cpos pos px:Pos}{wi:TI}{g:TG}{ti:TT}{te:TE}{i:Nat}{x:Str}(y:Str)(fr N:List Str)(src:List (Option Nat))(hN:X.N.Nodup)(hxi:X.N[i]? = ZY x)(hx:Loc X.env.scope x)(hc:X.calm=ZW)(hi:PI X tg iter wi)
  (hg:∀fp s H,PG (cxY y X N scope fr fp s H) tg g) (ht:∀fp s H,PIf (cxY y X N scope fr fp s H) ifs ti) (he:∀fp s H,PE (cxY y X N scope fr fp s H) elt te)
  (hsw:gF (.ListComp elt [⟨tg,iter,ifs,0⟩] scope cpos) (ZY (.Name x px)) pos.line X.env=pure ZW:=by rfl)
  (hok:agd y X.env X.N scope fr N src=ZW:=by rfl) (hcf:∀a l,lQ a scope.names l=(y,a)::l:=by intro _ _;rfl) (hkind:scope.kind=.function:=by rfl) (hclos:lJ scope X.env=pure (ut X.env fr):=by rfl)
  (hs:∀x,eQ iter X.env x=pure x:=by intro _;rfl) (hf:X.fn x=ZW∨X.env.scope.names.lookup x=ZY .local:=by first |exact .inl rfl |exact .inr rfl |assumption) :
  PS X (.Assign [.Name x px] (.ListComp elt [⟨tg,iter,ifs,0⟩] scope cpos) pos) (tAsg (atb wi g ti te src) (ayx i)):=by
 have C:=CompOkY.of hok;intro qv s σ H D I h;rw[exec_Assign_Name_used _ _ _ _ hsw];refine aA (wpAny_standAt (aA ?_));show bU _ _ (comprehension (.ListComp elt [⟨tg,iter,ifs,0⟩] scope cpos) scope X.env (firstIterPos [⟨tg,iter,ifs,0⟩] cpos) (newList []) (firstAsync [⟨tg,iter,ifs,0⟩]) (firstIter [⟨tg,iter,ifs,0⟩] X.env) (ZY (mH (.Name x px) X.env)) >>= λ_=>pure ()) _ _ _
 refine aA (wpAny_comprehension_free (use:=ZY (mH (.Name x px) X.env)) (Q:=λ_ s'=>bU (bZ X.prog X.w) X.A (pure ()) (λ_ s''=>bU (bZ X.prog X.w) X.A (pure tM) (SP X qv D) X.xe s'') X.xe s') rfl hs hclos hkind C.loc (bI (hi qv s σ H _ I h) (λv s1 h1=>bI h1 (λitv s2 h2=>?_) λ_ _ e=>e) λ_ _ e=>e))
 obtain⟨it,fp,tn,J,H2,e,I2,T,st2,f2,q2⟩:=h2;subst e;have hd0:H2 s2.heap.objs.size=ZX:=I2.hok.fresh (aM _);obtain⟨W,⟨m0,w0⟩,turn⟩:=q2 s2.heap.objs.size hd0;refine dH ?_;generalize hs3:({ s2 with heap:=s2.heap.push { cls:=.type "list", dict:=ZX,data:=.seq ([]:List aD).toArray } }:aG)=s3
 have keep2:∀b o,s2.heap.get? b=ZY o->s3.heap.get? b=ZY o:=λb o e=>by rw[<-hs3];exact aB _ e
 have I3:Inv X qv σ (upd H2 s2.heap.objs.size (.lst [])) s3:=by
  rw[<-hs3];exact I2.laid (t':=s2.toks) (λb u q=>aB _ q) (aM _) ⟨Nat.zero_le _,[],0,.nil,aW _ rfl⟩
 have ne0:∀b∈fp,b≠s2.heap.objs.size:=λb hb=>by
  obtain⟨o,e,_⟩:=T.obj _ _ st2 b hb;exact bH (aN e)
 have f3:∀b∈fp,FpOk X qv (upd H2 s2.heap.objs.size (.lst [])) b:=λb hb=>⟨by rw[cg (ne0 b hb)];exact(f2 b hb).1,(f2 b hb).2⟩
 have lt3:∀b∈fp,b<s3.heap.objs.size:=λb hb=>by
  obtain⟨o,e,_⟩:=T.obj _ _ st2 b hb;exact aN (keep2 b o e)
 refine ql ?_;rw[hcf];have ok:=cellsFrom_ok scope.names (s3.heap.push { cls:=.type "dict", data:=.dict #[] }) (s3.heap.objs.size+1) [] ⟨λ_ _ hm=>(nomatch hm),uX⟩ (by rw[cQ];exact aM _)
 rw[cQ,hcf] at ok;have hns₁:=(Heap.Ns.new s3.heap (.type "dict")).keeps (pushCells_keeps scope.names _);have keep3:∀b o,s3.heap.get? b=ZY o->(pushCells (s3.heap.push { cls:=.type "dict", data:=.dict #[] }) scope.names).get? b=ZY o:=λb o e=>pushCells_keeps _ _ b o (aB _ e)
 have hcl:=(ok.empty y (s3.heap.objs.size+1) aQ).1;generalize pushCells (s3.heap.push { cls:=.type "dict", data:=.dict #[] }) scope.names=h₁ at hns₁ keep3 hcl ⊢
 have st4:tn 0 h₁:=T.keep _ _ _ st2 λb hb o e=>keep3 b o (keep2 b o e)
 have I4:=am7 (tk:=s3.toks) I3 C hkind f3 lt3 hns₁ keep3 hcl;have loop:=afj (X:=cxY y X N scope fr fp s3 (upd H2 s2.heap.objs.size (.lst []))) (iter:=iter) (scope:=scope) (pos:=cpos) (d:=s2.heap.objs.size) (Q:=λv H1=>D.nx (σ.set i (ZY v)) H1)
  (R:=compPost (bZ X.prog X.w) X.A X.xe (ZY (mH (.Name x px) X.env)) (λ_ s'=>bU (bZ X.prog X.w) X.A (pure ()) (λ_ s''=>bU (bZ X.prog X.w) X.A (pure tM) (SP X qv D) X.xe s'') X.xe s') (.ref s2.heap.objs.size) s3.heap.objs.size) hc rfl T
  (λH' hn b hb=>⟨hn b hb,bH (lt3 b hb),I4.ok.exfs b hb,.inl hb,(I4.ok.exf b hb).2,λp hp=>absurd (show p∈([]:List (aU×Obj)) from hp) (by simp)⟩)
  (hg fp s3 _) (ht fp s3 _) (he fp s3 _) turn w0 I4 st4 (λb hb=>(f3 b hb).1) (λσ' H' s' I6 qn=>by
   obtain⟨m6,hn6,_⟩:=I6.loc;have fC:FpOk X qv H' s3.heap.objs.size:=I3.fpOk (aM _) I6.free;have I7:Inv X qv σ H' s':=am8 I3 f3 I6 (uZ ..);refine wpAny_assign_Name (ahe I7 hN hxi hx (v:=.ref s2.heap.objs.size) rfl (λs8 I8 ⟨a,sb,ha⟩=>?_) hf)
   have hne:s3.heap.objs.size≠a:=by
    rcases ha with rfl |ha
    ·exact fC.2.1
    ·exact(fC.2.2.2.2.1 x a ha).symm
   obtain⟨o6,es6,ep6,g6,r6⟩:=hn6;refine⟨m6,⟨o6,es6,ep6,(sb.2 _ hne).trans g6,r6⟩,λh9 sb9=>aR (aR ⟨_,H',?_,qn⟩)⟩
   exact I8.turned (t':=s8.toks) (it:=s3.heap.objs.size) (λb o hb e=>(sb9.2 b hb).trans e) fC.1 fC.2.1 fC.2.2.2.1 fC.2.2.2.2.1 fC.2.2.2.2.2)
 exact codeAny_compStart_list loop (T.self _ 0 _ _ _ st4 loop)
end Mn
namespace Dn
open L2 Mn
def axb{K:Fg9}{X:Cx}{tgt iter elt:cZ}{pos p:Pos}{i:Nat}{x:Str}{ifs:List cZ}{scope:iZ}{cpos:Pos}{mi:M (List D)}{bb:D->Ro->Option Ro}{mc:M Bool}{me:M D}(y:Str)(fr N:List Str)(src:List (Option Nat))(hN:X.N.Nodup)(hxi:X.N[i]? = ZY x)(hx:Loc X.env.scope x)(hc:X.calm=ZW)(hi:IT K X tgt iter mi)
  (hg:∀fp s H,GV K (cxY y X N scope fr fp s H) tgt bb) (ht:∀fp s H,EIf K (cxY y X N scope fr fp s H) ifs mc) (he:∀fp s H,EV K (cxY y X N scope fr fp s H) elt me)
  (hsw:gF (.ListComp elt [⟨tgt,iter,ifs,0⟩] scope cpos) (ZY (.Name x p)) pos.line X.env=pure ZW:=by rfl)
  (hok:agd y X.env X.N scope fr N src=ZW:=by rfl) (hcf:∀a l,lQ a scope.names l=(y,a)::l:=by intro _ _;rfl) (hkind:scope.kind=.function:=by rfl) (hclos:lJ scope X.env=pure (ut X.env fr):=by rfl)
  (hs:∀x,eQ iter X.env x=pure x:=by intro _;rfl) (hf:X.fn x=ZW∨X.env.scope.names.lookup x=ZY .local:=by first |exact .inl rfl |exact .inr rfl |assumption) :
  SV K X (.Assign [.Name x p] (.ListComp elt [⟨tgt,iter,ifs,0⟩] scope cpos) pos) (dSet i (qy src mi bb mc me)):=SV.mk λhk=>by
 have hkc:∀fp s H,(cxY y X N scope fr fp s H).K=K:=λ_ _ _=>hk
 refine PS.imp (axk y fr N src hN hxi hx hc (hi hk) (λfp s H=>(hg fp s H).go (hkc _ _ _)) (λfp s H=>(ht fp s H).go (hkc _ _ _)) (λfp s H=>(he fp s H).go (hkc _ _ _)) hsw hok hcf hkind hclos hs hf) λE σ H z9=>?_
 obtain⟨tg,F,ρ,fl,ρ',G,em,q⟩:=z9;refine xq em q λr ρ1 e1 em=>?_
 cases em;refine ag4 σ H _ ⟨tg,F,ρ,r,ρ1,G,e1,λv H' F' G' x rr=>?_⟩
 obtain⟨G2,x2⟩:=G'.store x i rr;exact q _ H' F' G2 x2
def flatV:D->Bool
 |.non |.bl _ |.int _ |.str _=>ZW
 |.tup l=>l.all isI
 |_=>ZV
def mFnW(f:Fd)(js:List (Option Nat))(ms:M (List (Option D))):M Rv:=ms.bind λds ρ=>match f (seen ρ js ds) with
 |some (.ok (.v d),_)=>if flatV d=ZW then ZY (.ok (.v d),ρ) else ZX
 |_=>ZX
section
variable{K:Fg9}{X:Cx}{e:cZ}{es:List cZ}{pos p:Pos}
def a0k{f:Fd}{n k:Nat}{x:Str}{pn:List Str}{js:List (Option Nat)}{ms:M (List (Option D))}(F:Dfn X.prog X.w X.K X.mg X.base x pn k (spOf K n f))(hr:Room k X.A)(hg:Gl X x)(ha:EG K X (e::es) js ms)(hn:js.length=n:=by rfl)(hdb:Zb x:=by decide)
  (he:Zc X e es:=by rfl) (hpl:(fV pos (aO es X.env)).any (·.1)=ZV:=by rfl):ER K X (.Call (.Name x p) (e::es) [] pos) (mFnW f js ms):=ER.mk λhk=>PE.imp (a2a F hr hg (ha hk) hdb he hpl) λσ H Q z9=>by
 obtain⟨tg,F,ρ,r,ρ',G,em,q⟩:=z9;obtain⟨ds,ρ1,e1,em⟩:=bw em;have em:(match f (seen ρ1 js ds) with
  |some (.ok (.v d),_)=>if flatV d=ZW then ZY (Out.ok (Rv.v d),ρ1) else ZX
  |_=>ZX)=ZY (.ok r,ρ'):=em
 split at em
 ·rename_i d ps e2;split at em
  ·rename_i hl;obtain⟨rfl,rfl⟩:r=.v d/\ρ'=ρ1:=by cases em;exact⟨rfl,rfl⟩
   refine⟨tg,F,ρ,ds,ρ',G,e1,λvs H1 F1 G1 x1 ar=>?_⟩
   have no:∀a,¬Own (seen ρ' js ds) (vs.map ZY) a:=λa ⟨i,⟨t,l,e⟩,_⟩=>seen_own ar i t l e
   have Gc:Good K (tgOf (vs.map ZY)) (Fc ρ' σ F1 H1) H1 (seen ρ' js ds) (vs.map ZY):=⟨bcr G1,by rw[akv ar,aC],λi s o e q=>aod G1 ar i s o e q,λi j a w _=>absurd ⟨i,w⟩ (no a)⟩
   show spOf K n f (vs++[]) H1 Q E0;rw[eG];refine⟨by rw[ar.length];exact hn,_,_,.v d,ps,Gc,e2,λv H' F' O' s' x' fin rr=>?_⟩
   have kp:∀b o,H1 b=ZY o->H' b=ZY o:=λb o e=>x'.keep b o e (no b)
   have rr:Is K F' d v:=rr;have plain:Is K F1 d v->Q v H':=λhv=>by
    have G2:Good K tg F1 H' ρ' σ:=G1.grow (Same.refl F1) (λb o e=>kp b o (G1.sub b o e)) (λa w=>⟨(G1.ownAt w).1,by
     obtain⟨_,ws,z⟩:=G1.ownAt w;rw[z,kp a _ z]⟩) λa C dx fvs h1 h2=>⟨h1,by rw[h2,kp a _ h2]⟩
    have x2:Ext (Own ρ' σ) (Own ρ' σ) F1 H1 F1 H':=⟨Same.refl F1,λa o e=>.inl e,λa o e _=>kp a o e,λa w=>.inl w,λa e=>x'.there a e⟩
    exact q v H' F1 G2 (x1.trans x2) hv
   cases rr with
   |non=>exact plain .non
   |bl b=>exact plain (.bl b)
   |int i=>exact plain (.int i)
   |str y=>exact plain (.str y)
   | @tup t us l ht hi=>
    have ht':H' t=ZY (.tup us):=s' _ _ ht;have sm:Same F1 (upd F1 t (.tup us)):=λb o e=>by
     by_cases z:b=t
     ·subst z;rw[f9];have:=x'.sub _ _ (arf G1 _ _ e);rw[ht] at this;exact this
     ·rw[cg z];exact e
    have ne:∀a,(∀ws,H1 a≠ZY (.tup ws))->H1 a≠ZX->a≠t:=λa h h0 z=>by
     subst z;cases w:H1 a with
     |none=>exact h0 w
     |some o=>
      rw[kp a o w] at ht';cases ht';exact h us w
    have G2:Good K tg (upd F1 t (.tup us)) H' ρ' σ:=G1.grow sm (λb o e=>by
     by_cases z:b=t
     ·subst z;rw[f9] at e;cases e;exact ht'
     ·rw[cg z] at e;exact kp b o (G1.sub b o e)) (λa w=>by
     obtain⟨w1,ws,w2⟩:=G1.ownAt w;rw[cg (ne a (λws' h=>by rw[w2] at h;cases h) (by rw[w2];simp))]
     exact⟨w1,by rw[w2,kp a _ w2]⟩) λa C dx fvs h1 h2=>by
     rw[cg (ne a (λws' h=>by rw[h2] at h;cases h) (by rw[h2];simp))]
     exact⟨h1,by rw[h2,kp a _ h2]⟩
    have x2:Ext (Own ρ' σ) (Own ρ' σ) F1 H1 (upd F1 t (.tup us)) H':=⟨sm,λa o e=>by
     by_cases z:a=t
     ·subst z;rw[f9] at e;cases e;rcases x'.new a _ ht with w |w |w
      ·unfold Fc at w;split at w
       ·rename_i wo;obtain⟨_,ws,w2⟩:=G1.ownAt wo;rw[w2] at w;cases w
       ·exact .inl w
      ·exact .inr (.inl w)
      ·exact absurd w (no a)
     ·rw[cg z] at e;exact .inl e,λa o e _=>kp a o e,λa w=>.inl w,λa e=>x'.there a e⟩
    exact q _ H' _ G2 (x1.trans x2) (.tup f9 (a8g hl hi))
   |lst _ _=>cases hl
   |kst _ _=>cases hl
   |dct _ _=>cases hl
   |exn _ _ _ _=>cases hl
   |dtt _=>cases hl
  ·cases em
 ·cases em
end
noncomputable def mNo:M Rv:=λ_=>ZX
noncomputable def dNo:Sd:=λ_=>ZX
section
variable{K:Fg9}{X:Cx}{e:cZ}{ss:List fD}
def bcc:ER K X e mNo:=ER.mk λ_ _ _ _ _ _ _ q=>by
 obtain⟨_,_,_,_,_,_,em,_⟩:=q;cases em
def a5c:SVs K X ss dNo:=SVs.mk λ_ _ _ _ _ _ _ q=>by
 obtain⟨_,_,_,_,_,_,em,_⟩:=q;cases em
end
section
variable{ρ:Ro}
def fnO(x:Option (Out Rv×Ro))(ρ:Ro)(js:List (Option Nat)):Option (Out Rv×Ro):=match x with
 |some (.ok r,ps)=>ZY (.ok r,putB ρ js ps)
 |some (.exc x,ps)=>ZY (.exc x,putB ρ js ps)
 |none=>ZX
@[simp] theorem bdf(r:Rv)(ps:Ro)(js:List (Option Nat)):fnO (ZY (.ok r,ps)) ρ js=ZY (.ok r,putB ρ js ps):=rfl
@[simp] theorem bca(x:Exn)(ps:Ro)(js:List (Option Nat)):fnO (ZY (.exc x,ps)) ρ js=ZY (.exc x,putB ρ js ps):=rfl
def okI(b:Bool)(x:Option (Out Rv×Ro)):Option (Out Rv×Ro):=if b=ZW then x else ZX
@[simp] theorem bdt(x:Option (Out Rv×Ro)):okI ZW x=x:=rfl
@[simp high] theorem bbm (f:Fd) (js:List (Option Nat)) (ms:M (List (Option D))):mFn f js ms ρ=(ms.bind λds ρ=>okI (okJs ρ js) (fnO (f (lend ρ js ds)) ρ js)) ρ:=rfl
def cpO(x:Option (Out (List D)×Ro))(ρ:Ro)(js:List (Option Nat)):Option (Out Rv×Ro):=match x with
 |some (.ok ys,ps)=>if ys.length<=capS then ZY (.ok (.fr ys),putB ρ js ps) else ZX
 |some (.exc x,ps)=>ZY (.exc x,putB ρ js ps)
 |none=>ZX
@[simp] theorem bdo(ys:List D)(ps:Ro)(js:List (Option Nat)):cpO (ZY (.ok ys,ps)) ρ js=if ys.length<=capS then ZY (.ok (.fr ys),putB ρ js ps) else ZX:=rfl
@[simp high] theorem a7k (src:List (Option Nat)) (mi:M (List D)) (b:D->Ro->Option Ro) (mc:M Bool) (me:M D):qy src mi b mc me ρ=(mi.bind λl ρ=>okI (okJs ρ src) (cpO (compD b mc me l [] (lend ρ src (src.map λ_=>ZX))) ρ src)) ρ:=rfl
def gt:Ro->Nat->Option Sl
 | [],_=>ZX
 |s::_,0=>ZY s
 |_::ρ,i+1=>gt ρ i
@[simp] theorem gt_0(s:Sl):gt (s::ρ) 0=ZY s:=rfl
@[simp] theorem gt_s(s:Sl)(i:Nat):gt (s::ρ) (i+1)=gt ρ i:=rfl
theorem asl:∀(ρ:Ro) (i:Nat),gt ρ i=ρ[i]?
 | [],_=>rfl
 |_::_,0=>rfl
 |_::ρ,i+1=>asl ρ i
def vB(x:Option Sl)(ρ:Ro):Option (Out D×Ro):=match x with
 |some (.val d)=>ZY (.ok d,ρ)
 |some (.own _ l)=>ZY (.ok (.lst l),ρ)
 |_=>ZX
@[simp] theorem vB_v(d:D):vB (ZY (.val d)) ρ=ZY (.ok d,ρ):=rfl
@[simp] theorem vB_o(t:Option Nat)(l:List D):vB (ZY (.own t l)) ρ=ZY (.ok (.lst l),ρ):=rfl
@[simp high] theorem a9g (i:Nat):dz i ρ=vB (gt ρ i) ρ:=by rw[asl];rfl
def vV(x:Option Sl)(i:Nat)(ρ:Ro):Option (Out D×Ro):=match x with
 |some (.val d)=>ZY (.ok d,ρ)
 |some (.own ZX l)=>ZY (.ok (.lst l),ρ.set i (.val (.lst l)))
 |_=>ZX
@[simp] theorem vV_v(i:Nat)(d:D):vV (ZY (.val d)) i ρ=ZY (.ok d,ρ):=rfl
@[simp] theorem vV_o(i:Nat)(l:List D):vV (ZY (.own ZX l)) i ρ=ZY (.ok (.lst l),ρ.set i (.val (.lst l))):=rfl
@[simp high] theorem bba (i:Nat):mVar i ρ=vV (gt ρ i) i ρ:=by rw[asl];rfl
def ldS(i:Nat):Option Sl->Sl
 |some (.val d)=>.val d
 |some (.own _ l)=>.own (ZY i) l
 |_=>.emp
@[simp] theorem bdu(i:Nat)(d:D):ldS i (ZY (.val d))=.val d:=rfl
@[simp] theorem bdv(i:Nat)(t:Option Nat)(l:List D):ldS i (ZY (.own t l))=.own (ZY i) l:=rfl
@[simp high] theorem a9t (i j:Nat) (d:Option D):ali ρ i (ZY j) d=ldS i (gt ρ j):=by rw[asl];rfl
noncomputable def eqb:Nat->Nat->Bool
 | 0,0=>ZW
 |n+1,m+1=>eqb n m
 |_,_=>ZV
@[simp] theorem bdk:eqb 0 0=ZW:=rfl
@[simp] theorem bdj(n:Nat):eqb 0 (n+1)=ZV:=rfl
@[simp] theorem bdi(n:Nat):eqb (n+1) 0=ZV:=rfl
@[simp] theorem a8m(n m:Nat):eqb (n+1) (m+1)=eqb n m:=rfl
theorem av0:∀n m:Nat,eqb n m=(n==m)
 | 0,0 | 0,_+1 |_+1,0=>rfl
 |n+1,m+1=>by rw[a8m,av0 n m];simp
def idxJ:List (Option Nat)->Nat->List Nat->Option Nat
 | [],_,_=>ZX
 |js,j,[]=>(js.findIdx? λo=>o==ZY j).map (· + 10)
 |none::js,j,_::is=>idxJ js j is
 |some k::js,j,i::is=>bif eqb k j then ZY i else idxJ js j is
@[simp] theorem bc8(j i:Nat)(is:List Nat):idxJ [] j (i::is)=ZX:=rfl
@[simp] theorem bda(js:List (Option Nat))(j i:Nat)(is:List Nat):idxJ (ZX::js) j (i::is)=idxJ js j is:=rfl
@[simp] theorem bc9(k:Nat)(js:List (Option Nat))(j i:Nat)(is:List Nat):idxJ (ZY k::js) j (i::is)=bif eqb k j then ZY i else idxJ js j is:=rfl
theorem alm(j:Nat):∀(n i:Nat),i+n=10->∀js:List (Option Nat),idxJ js j (nA i n)=(js.findIdx? λo=>o==ZY j).map (· + i)
 | 0,_,_,[] |_+1,_,_,[]=>rfl
 | 0,i,h,o::js=>by
  obtain rfl:i=10:=h;cases o <;> rfl
 |n+1,i,h,o::js=>by
  have e:∀x:Option Nat,(x.map (· + (i+1)):Option Nat)=(x.map (· + 1)).map (· + i):=λx=>by cases x <;> simp;omega
  cases o with
  |none=>exact(alm j n (i+1) (by omega) js).trans ((e _).trans (by rw[aph];rfl))
  |some k=>
   show(bif eqb k j then ZY i else idxJ js j (nA (i+1) n))=_
   rw[alm j n (i+1) (by omega) js,aph,av0,e]
   show _=Option.map _ (if (k==j)=ZW then _ else _)
   cases k==j <;> simp
noncomputable def oJ(b:Bool):Option Sl->Option Nat->Bool
 |some (.own _ _),ZY _=>ZV
 |_,_=>b
@[simp] theorem oJ_v(b:Bool)(d:D)(o:Option Nat):oJ b (ZY (.val d)) o=b:=rfl
@[simp] theorem oJ_o(b:Bool)(t:Option Nat)(l:List D):oJ b (ZY (.own t l)) ZX=b:=rfl
theorem awc(j:Nat):∀r:List (Option Nat),r.contains (ZY j)=(r.findIdx? λo=>o==ZY j).isSome
 | []=>rfl
 |o::r=>by
  rw[List.contains_cons,aph,awc j r,BEq.comm];cases o==ZY j <;> cases r.findIdx? λo=>o==ZY j <;> rfl
@[simp high] theorem bc2 (j:Nat) (r:List (Option Nat)):okJs ρ (ZY j::r)=oJ (okJs ρ r) (gt ρ j) (idxJ r j [0,1,2,3,4,5,6,7,8,9]):=by
 rw[auk,show([0,1,2,3,4,5,6,7,8,9]:List Nat)=nA 0 10 from rfl,alm j 10 0 rfl,asl,awc]
 cases ρ[j]? with
 |none=>rfl
 |some s=>cases s <;> cases r.findIdx? λo=>o==ZY j <;> rfl
def pO(t:Option Nat)(i:Nat):Option Sl->Sl
 |some (.own (ZY i') l')=>bif eqb i' i then .own t l' else .emp
 |_=>.emp
@[simp] theorem pO_o(t:Option Nat)(i i':Nat)(l':List D):pO t i (ZY (.own (ZY i') l'))=bif eqb i' i then .own t l' else .emp:=rfl
def pS(ps:Ro):Sl->Option Nat->Sl
 |.own t _,ZY i=>pO t i (gt ps i)
 |s,_=>s
@[simp] theorem pS_v(ps:Ro)(d:D)(o:Option Nat):pS ps (.val d) o=.val d:=rfl
@[simp] theorem pS_e(ps:Ro)(o:Option Nat):pS ps .emp o=.emp:=rfl
@[simp] theorem pS_o(ps:Ro)(t:Option Nat)(l:List D)(i:Nat):pS ps (.own t l) (ZY i)=pO t i (gt ps i):=rfl
@[simp] theorem bds(ps:Ro)(t:Option Nat)(l:List D):pS ps (.own t l) ZX=.own t l:=rfl
@[simp] theorem pS_n(ps:Ro)(s:Sl):pS ps s ZX=s:=by cases s <;> rfl
theorem a5s(js:List (Option Nat))(ps:Ro)(j:Nat)(s:Sl):putS js ps j s=pS ps s (idxJ js j [0,1,2,3,4,5,6,7,8,9]):=by
 rw[show([0,1,2,3,4,5,6,7,8,9]:List Nat)=nA 0 10 from rfl,alm j 10 0 rfl]
 unfold putS;cases js.findIdx? λo=>o==ZY j with
 |none=>exact(pS_n ps s).symm
 |some k=>
  cases s with
  |own t l=>
   show _=pO t k (gt ps k);rw[asl];dsimp only;split
   ·rename_i i' l' e;rw[e,pO_o,av0]
    by_cases q:i'=k
    ·simp[q]
    ·rw[if_neg q,beq_eq_false_iff_ne.mpr q];rfl
   ·rename_i h;unfold pO;split
    ·rename_i i' l' e;exact absurd e (h i' l')
    ·rfl
  |_=>rfl
def putR(js:List (Option Nat))(ps:Ro):List Nat->Ro->Ro
 |_,[]=>[]
 | [],ρ=>ρ.mapIdx λj s=>putS js ps (16+j) s
 |k::ks,s::ρ=>pS ps s (idxJ js k [0,1,2,3,4,5,6,7,8,9])::putR js ps ks ρ
@[simp] theorem bcz(js:List (Option Nat))(ps:Ro)(k:Nat)(ks:List Nat):putR js ps (k::ks) []=[]:=rfl
@[simp] theorem a5t(js:List (Option Nat))(ps:Ro)(k:Nat)(ks:List Nat)(s:Sl):putR js ps (k::ks) (s::ρ)=pS ps s (idxJ js k [0,1,2,3,4,5,6,7,8,9])::putR js ps ks ρ:=rfl
theorem azz(js:List (Option Nat))(ps:Ro):∀(n k:Nat),k+n=16->∀ρ:Ro,ρ.mapIdx (λj s=>putS js ps (k+j) s)=putR js ps (nA k n) ρ
 | 0,_,_,[] |_+1,_,_,[]=>rfl
 | 0,k,h,s::ρ=>by
  obtain rfl:k=16:=h;rfl
 |n+1,k,h,s::ρ=>by
  rw[List.mapIdx_cons,List.range'_succ,a5t,<-a5s,<-azz js ps n (k+1) (by omega) ρ]
  show putS js ps (k+0) s::_=_
  congr 2
  funext j s
  rw[show k+(j+1)=k+1+j by omega]
@[simp high] theorem bc0 (js:List (Option Nat)) (ps:Ro):putB ρ js ps=putR js ps [0,1,2,3,4,5,6,7,8,9,10,11,12,13,14,15] ρ:=by
 rw[show([0,1,2,3,4,5,6,7,8,9,10,11,12,13,14,15]:List Nat)=nA 0 16 from rfl,<-azz js ps 16 0 rfl,a1l]
 simp
end
end Dn
end
namespace Dn
open PySem L2
@[simp] abbrev gL9(d:D):Option Rv:=(itemsD d).map λl=>.v (.int l.length)
@[simp] abbrev gT9(d:D):Option Rv:=(itemsD d).map λl=>.v (.tup l)
end Dn
namespace My
open PySem L2 Mn Dn
noncomputable def NS:List Str:=["ArrowError","NoArrows","NoRoom","NoWalkers","NotShut","NeverBack","NoTour","NoRow","NoHouse","NotOpen","Nobody","NoText","TooGreat"]
def aj9:Sd :=
 (dRet (M.v (mAnd (mIsi .int (dz 0)) (mUn gNot (mIsi .bool (dz 0))))))
def abf:Fd:=fnD 1 1 aj9
def xg:Sd :=
 (dRet (M.v (mAnd (M.d (mFn abf [ZY 0] (bu 0 dh))) (am2 (λi j=>decide (i<=j)) (λi j=>decide (i<=j)) (mVar 1) (mVar 0) (mVar 2)))))
def jl:Fd:=fnD 3 3 xg
def xj:Sd :=
 (dRet (M.v (mAnd (mIsi .tuple (dz 0)) (am2 (λi j=>decide (i<=j)) (λi j=>decide (i<=j)) (mVar 1) (M.d (iu (g1 gL9) (ig 0 mNil))) (mVar 2)))))
def jm:Fd:=fnD 3 3 xj
def aby:Sd :=
 (dRet (mFn jl [ZX,ZX,ZX] (au (mVar 1) (au (ret (.int 0)) (au (M.d (mOp (gInt fSub) (gw (M.d (iu (g1 gL9) (ig 0 mNil))) (ret (.int 1))))) dh)))))
def j6:Fd:=fnD 2 2 aby
def su:Sd :=
 (dIf (okS (am0 (ab1 (M.d (mFn j6 [ZY 0,ZX] (bu 0 (au (mVar 1) dh))))))) (aiz ⟨"NoRoom", []⟩) dNx)
def gj:Fd:=fnD 2 2 su
def zz:Sd :=
 (dIf (a2y (jr (gCmp λi j=>decide (j<=i)) (cu 5 (ret (.int 0)))) (jr (gIn ZW) (cu 5 (dz 2)))) (yp (M.v (mMut 2 aav (bh (mVar 5) mNil)))) dNx)
def aa2:M Bool :=
 (jr (gCmp λi j=>decide (i<j)) (cu 3 (M.d (iu (g1 gL9) (ig 2 mNil)))))
def ac5:Sd :=
 (dSeq (dSet 4 (mOp gIx (cu 0 (M.d (mOp gIx (cu 2 (dz 3))))))) (dSeq (dFor (qm (mVar 4)) (cz 5) zz) (dAug (λi j=>i+j) 3 (ret (.int 1)))))
def anb:Sd :=
 (dSeq (yp (mFn gj [ZY 0,ZX] (bu 0 (au (mVar 1) dh)))) (dSeq (dSet 2 (mLst (bh (mVar 1) mNil))) (dSeq (dSet 3 (M.v (ret (.int 0)))) (dSeq (whileD aa2 ac5 fuel) (dRet (iu (g1 gT9) (bh (M.d (iu (g1 adf) (ig 2 mNil))) mNil)))))))
def rn:Fd:=fnD 6 2 anb
def adg:M D :=
 (M.d (mOp (gCmp λi j=>decide (j<=i)) (gw (M.d (iu (g1 ajj) (ig 0 mNil))) (ret (.int 0)))))
def ana:Sd :=
 (dRet (iu (g1 gAll) (bh (M.d (qy [ZX] (qm (mVar 0)) (cz 0) (ret ZW) adg)) mNil)))
def acp:Fd:=fnD 1 1 ana
def xf:Sd :=
 (dIf (okS (am0 (ab1 (M.d (mFn acp [ZX] (au (mVar 0) dh)))))) (aiz ⟨"NotShut", []⟩) dNx)
def ir:Fd:=fnD 1 1 xf
def acw:M D :=
 (M.d (mFn jl [ZY 0,ZX,ZX] (bu 0 (au (ret (.int 0)) (au (M.d (mOp (gInt fSub) (gw (M.d (iu (g1 gL9) (ig 1 mNil))) (ret (.int 1))))) dh)))))
def aef:Sd :=
 (dSeq (dIf (am0 (ab1 (M.d (mFn jm [ZY 1,ZX,ZX] (bu 1 (au (M.d (iu (g1 gL9) (ig 0 mNil))) (au (M.d (iu (g1 gL9) (ig 0 mNil))) dh))))))) (dRet (M.v (ret (.bl ZV)))) dNx) (dRet (iu (g1 gAll) (bh (M.d (qy [ZX,ZX] (mGet ane (bh (mVar 1) (bh (mVar 0) mNil))) (bTup 2 (kj (cz 0) (kj (cz 1) bNil))) (ret ZW) acw)) mNil))))
def ud:Fd:=fnD 2 2 aef
def u9:Sd :=
 (dIf (okS (am0 (ab1 (M.d (mFn ud [ZX,ZX] (au (mVar 0) (au (mVar 1) dh))))))) (aiz ⟨"NoArrows", []⟩) dNx)
def gr:Fd:=fnD 2 2 u9
def acv:M D :=
 (M.d (mOp gIx (cu 1 (M.d (mOp (gInt fSub) (cu 0 (ret (.int 1))))))))
def aih:Sd :=
 (dRet (iu (g1 gT9) (bh (M.d (qy [ZX,ZX] (mGet ane (bh (mVar 1) (bh (mVar 0) mNil))) (bTup 2 (kj (cz 0) (kj (cz 1) bNil))) (ret ZW) acv)) mNil)))
def aaf:Fd:=fnD 2 2 aih
def aa1:M Bool :=
 (jr (gIn ZV) (gw (M.d (mOp gIx (cu 2 (dz 0)))) (dz 1)))
def aay:M D :=
 (mVar 0)
def qw:M Bool :=
 (jr (gCmp λi j=>decide (i<j)) (gw (M.d (iu (g1 gL9) (ig 2 mNil))) (dz 3)))
def xr:Sd :=
 (dSeq (dSet 3 (iu (g1 gL9) (ig 2 mNil))) (dSet 2 (qy [ZX,ZY 2,ZY 0] (qm (mVar 2)) (cz 0) aa1 aay)))
def ae9:Sd :=
 (dSeq (dSet 2 (iu (g1 λd=>(itemsD d).map λl=>.fr l) (ig 1 mNil))) (dSeq (dSet 3 (mOp gAdd (gw (M.d (iu (g1 gL9) (ig 2 mNil))) (ret (.int 1))))) (dSeq (whileD qw xr fuel) (dRet (ah2 2)))))
def vd:Fd:=fnD 4 2 ae9
def aly:M D :=
 (M.d (mOp gIx (gw (M.d (mOp gIx (cu 1 (dz 2)))) (dz 0))))
def ag3:M D :=
 (M.d (qy [ZX,ZY 1,ZY 0] (qm (mVar 2)) (cz 0) (ret ZW) aly))
def avo:Sd :=
 (dRet (qy [ZX,ZY 0,ZY 1] (qm (mVar 1)) (cz 0) (ret ZW) ag3))
def aip:Fd:=fnD 2 2 avo
def aed:Sd :=
 (dIf (jr (gEq ZW) (gw (M.d (mOp gIx (gw (M.d (mOp gIx (cu 0 (dz 2)))) (dz 1)))) (ret (.int 0)))) (dRet (ah2 2)) dNx)
def aj7:Sd :=
 (dSeq (dFor (mGet alq (bh (mVar 1) (bh (M.d (iu (g1 gL9) (ig 0 mNil))) mNil))) (cz 2) aed) (dRet (M.v (ret .non))))
def abd:Fd:=fnD 3 2 aj7
def agc:M D :=
 (M.d (iu (g1 λd=>(itemsD d).map λl=>.fr l) (ig 0 mNil)))
def am9:Sd :=
 (dSeq (dSet 3 (qy [ZX] (qm (mVar 0)) (cz 0) (ret ZW) agc)) (dSeq (dIf (jr (gEq ZW) (cu 1 (dz 2))) dNo dNx) (dRet (ah2 3))))
def aco:Fd:=fnD 4 3 am9
def adh:M D :=
 (M.d (mOp (gInt fDiv) (gw (M.d (mOp (gInt fSub) (gw (M.d (mOp gMul (gw (M.d (mOp gIx (cu 3 (dz 5)))) (dz 0)))) (M.d (mOp gMul (gw (M.d (mOp gIx (cu 2 (dz 5)))) (dz 1))))))) (dz 4))))
def ade:Sd :=
 (dIf (jr (gEq ZV) (cu 5 (dz 1))) (yp (M.v (mMut 4 aav (bh (M.d (iu (g1 λd=>(itemsD d).map λl=>.fr l) (ig 3 mNil))) mNil)))) (yp (M.v (mMut 4 aav (bh (M.d (qy [ZX,ZX,ZY 6,ZY 3,ZY 2,ZY 1] (mGet ane (bh (mVar 6) (bh (mVar 3) mNil))) (bTup 2 (kj (cz 0) (kj (cz 1) bNil))) (ret ZW) adh)) mNil)))))
def anc:Sd :=
 (dSeq (dSet 3 (mOp gIx (cu 0 (dz 1)))) (dSeq (dSet 4 (mLst mNil)) (dSeq (dFor (mGet ayz (bh (mVar 0) mNil)) (bTup 2 (kj (cz 5) (kj (cz 6) bNil))) ade) (dRet (ah2 4)))))
def acq:Fd:=fnD 7 3 anc
def afh:M D :=
 (M.d (mOp gAdd (gw (M.d (iu (g1 λd=>(itemsD d).map λl=>.fr l) (ig 0 mNil))) (M.d (mLst (bh (mVar 1) mNil))))))
def ae4:Sd :=
 (dSeq (dSet 5 (mFn abd [ZY 2,ZX] (bu 2 (au (mVar 4) dh)))) (dSeq (dIf (ab1 (mIsN ZV (dz 5))) (dRet (M.v (ret .non))) dNx) (dSeq (dSet 2 (mFn aco [ZX,ZY 4,ZY 5] (au (mVar 2) (bu 4 (bu 5 dh))))) (dSeq (dSet 2 (mFn acq [ZX,ZY 4,ZY 3] (au (mVar 2) (bu 4 (bu 3 dh))))) (dSet 3 (mOp gIx (gw (M.d (mOp gIx (cu 2 (dz 4)))) (dz 4))))))))
def aiu:M D :=
 (M.d (mOp gIx (cu 0 (M.d (iu (g1 gL9) (ig 1 mNil))))))
def aqw:Sd :=
 (dSeq (dSet 2 (qy [ZX,ZX] (mGet ane (bh (mVar 0) (bh (mVar 1) mNil))) (bTup 2 (kj (cz 0) (kj (cz 1) bNil))) (ret ZW) afh)) (dSeq (dSet 3 (M.v (ret (.int 1)))) (dSeq (dFor (mGet qt (bh (M.d (iu (g1 gL9) (ig 0 mNil))) mNil)) (cz 4) ae4) (dRet (M.v (mTup (bh (M.d (qy [ZX,ZY 0] (qm (mVar 2)) (cz 0) (ret ZW) aiu)) (bh (mVar 3) mNil))))))))
def afe:Fd:=fnD 6 2 aqw
def afa:Sd :=
 (dSeq (dSet 1 (mFn afe [ZX,ZX] (au (mVar 0) (au (M.d (mOp gMul (gw (M.d (mLst (bh (ret (.int 0)) mNil))) (M.d (iu (g1 gL9) (ig 0 mNil)))))) dh)))) (dRet (mIf (ab1 (mIsN ZV (dz 1))) (M.v (ret (.int 0))) (mOp gIx (cu 1 (ret (.int 1)))))))
def mz:Fd:=fnD 2 1 afa
def vy:M Bool :=
 (jr (gEq ZW) (cu 3 (ret (.int 0))))
def vq:Sd :=
 (dSeq (dSet 4 (mOp (gInt fMod) (cu 1 (dz 3)))) (dSeq (dSet 1 (M.v (mVar 3))) (dSet 3 (M.v (mVar 4)))))
def l1_common_divisor:Sd :=
 (dSeq (dSet 3 (iu (g1 gAbs) (ig 2 mNil))) (whileD vy vq fuel))
def abz:Sd :=
 (dSeq (dSet 1 (M.v (ret (.int 0)))) (dSeq (dFor (qm (mVar 0)) (cz 2) l1_common_divisor) (dRet (ah2 1))))
def ni:Fd:=fnD 5 1 abz
def aah:M D :=
 (mUn gNeg (aqi 1 (bh (mVar 0) mNil)))
def l1_doors_square:Sd :=
 (dSeq (dSet 4 (qy [ZX,ZY 3] (mGet qt (bh (M.d (iu (g1 gL9) (ig 0 mNil))) mNil)) (cz 0) (ret ZW) aah)) (dSeq (apj (λi j=>i+j) 4 (mVar 2) (M.d (iu (g1 gL9) (ig 3 mNil)))) (yp (M.v (mMut 1 aav (bh (mVar 4) mNil))))))
def adt:Sd :=
 (dSeq (dSet 1 (mLst mNil)) (dSeq (dFor (mGet ayz (bh (mVar 0) mNil)) (bTup 2 (kj (cz 2) (kj (cz 3) bNil))) l1_doors_square) (dRet (ah2 1))))
def rm:Fd:=fnD 5 1 adt
def ack:Sd :=
 (dSet 2 (mOp gIx (cu 0 (dz 2))))
def aaj:M Bool :=
 (jr (gEq ZW) (gw (M.d (mOp gIx (cu 0 (M.d (mOp gIx (cu 4 (mUn gNeg (ret (.int 1))))))))) (dz 2)))
def ab2:Sd :=
 (yp (M.v (mMut 4 aav (bh (M.d (mOp gIx (cu 0 (M.d (mOp gIx (cu 4 (mUn gNeg (ret (.int 1))))))))) mNil))))
def aig:Sd :=
 (dSeq (dSet 2 (M.v (mVar 1))) (dSeq (dFor (mGet qt (bh (M.d (iu (g1 gL9) (ig 0 mNil))) mNil)) (cz 3) ack) (dSeq (dSet 4 (mLst (bh (mVar 2) mNil))) (dSeq (whileD aaj ab2 fuel) (dSeq (dSet 5 (M.v (ayf 4 akc (bh (M.d (iu (g1 ajj) (ig 4 mNil))) mNil)))) (dRet (iu (g1 gT9) (bh (M.d (mOp gAdd (gw (M.d (am1 4 (alh (mVar 5)) (ret ZX))) (M.d (am1 4 (ret ZX) (alh (mVar 5))))))) mNil))))))))
def xm:Fd:=fnD 6 2 aig
def wy:Sd :=
 (dSeq (dSet 4 (mFn xm [ZY 0,ZX] (bu 0 (au (mVar 3) dh)))) (dIf (jr (gIn ZW) (cu 4 (dz 2))) (yp (M.v (mMut 2 aav (bh (mVar 4) mNil)))) dNx))
def aj8:Sd :=
 (dSeq (dSet 2 (mLst mNil)) (dSeq (dFor (qm (M.d (mFn vd [ZY 0,ZY 1] (bu 0 (bu 1 dh))))) (cz 3) wy) (dRet (iu (g1 afc) (ig 2 mNil)))))
def abe:Fd:=fnD 5 2 aj8
def qi:Sd :=
 (dSeq (yp (mFn gr [ZX,ZX] (au (okS (mVar 0)) (au (okS (mVar 1)) dh)))) (yp (mFn gj [ZY 0,ZX] (bu 0 (au (okS (mVar 2)) dh)))))
def gk:Fd:=fnD 3 3 qi
def avp:Sd :=
 (dSeq (dSet 3 (mOp gIx (cu 1 (dz 2)))) (dSeq (dSub 1 (mVar 2) (M.d (mOp (gInt fMod) (gw (M.d (mOp gAdd (cu 3 (ret (.int 1))))) (M.d (iu (g1 gL9) (bh (M.d (mOp gIx (cu 0 (dz 2)))) mNil))))))) (dRet (mOp gIx (gw (M.d (mOp gIx (cu 0 (dz 2)))) (dz 3))))))
def aei:Fd:=fnD 4 3 avp
def jh:Sd :=
 (dSeq (yp (mFn gk [ZX,ZX,ZX] (au (okS (mVar 0)) (au (okS (mVar 1)) (au (okS (mVar 2)) dh))))) (yp (mFn ir [ZX] (au (okS (mVar 0)) dh))))
def bj:Fd:=fnD 3 3 jh
def ac1:M Bool :=
 (jr (gIn ZW) (cu 1 (M.d (mFn rn [ZY 2,ZY 0] (bu 2 (bu 0 dh))))))
def acx:M D :=
 (mVar 0)
def aij:Sd :=
 (dRet (qy [ZX,ZY 1,ZY 0] (qm (M.d (mFn rn [ZY 0,ZX] (bu 0 (au (mVar 1) dh))))) (cz 0) ac1 acx))
def ue:Fd:=fnD 2 2 aij
def lu:Sd :=
 (dIf (jr (gIn ZW) (cu 2 (dz 3))) (dRet (ah2 3)) dNx)
def aau:Sd :=
 (dSeq (dFor (qm (M.d (mFn abe [ZX,ZX] (au (M.d (mFn aaf [ZX,ZX] (au (mVar 0) (au (mVar 1) dh)))) (au (M.d (mFn rn [ZY 0,ZX] (bu 0 (au (mVar 2) dh)))) dh))))) (cz 3) lu) (dRet (M.v (ret .non))))
def jc:Fd:=fnD 4 3 aau
def ag0:Sd :=
 (dSeq (dSet 3 (mFn ue [ZY 0,ZX] (bu 0 (au (mVar 2) dh)))) (dSeq (dIf (jr (gEq ZW) (cu 3 (M.d (mLst mNil)))) (dRet (M.v (mTup (bh (ret (.str "gone")) (bh (M.d (mOp gIx (cu 3 (ret (.int 0))))) mNil))))) dNx) (dSeq (dSet 4 (mFn jc [ZX,ZX,ZX] (au (mVar 0) (au (mVar 1) (au (mVar 2) dh))))) (dRet (mIf (ab1 (mIsN ZV (dz 4))) (M.v (ret .non)) (M.v (mTup (bh (ret (.str "ring")) (bh (mVar 4) mNil)))))))))
def aap:Fd:=fnD 5 3 ag0
def lg:M Bool :=
 (jr (gIn ZW) (gw (mFV "Stroll" 0 "place") (dz 1)))
def km:Sd :=
 (dSeq (dFld "Stroll" 0 "place" (M.d (mFn aei [ZX,ZY 2,ZX] (au (mFV "Stroll" 0 "house") ((mLnk "Stroll" 0 "turning" 2).bind λ_=>bu 2 (au (mFV "Stroll" 0 "place") dh)))))) (al0 "Stroll" 0 "steps" (ret (.int 1))))
def gq:Sd :=
 (whileD lg (agv km) fuel)
def ae6:List (Str×M Rv) :=
 [("house", (M.v (mVar 1))),("turning", (iu (g1 λd=>(itemsD d).map λl=>.fr l) (ig 2 mNil))),("place", (M.v (mVar 3))),("steps", (M.v (ret (.int 0))))]
def lr:M Bool :=
 (jr (gEq ZV) (gw (M.d (mFn ue [ZY 1,ZY 0] (bu 1 (bu 0 dh)))) (M.d (mLst mNil))))
def lq:M D :=
 (mVar 0)
def aae:Ro->Option (BF×List D) :=
 (ake "Stroll" 3 4 (auv 4 4 ae6 [ZY 0,ZY 1,ZY 2] (bu 0 (bu 1 (bu 2 dh)))) (dSeq (apk "Stroll" "go_till_in" 3 4 3 gq (M.d (qy [ZX,ZY 0] (mGet qt (bh (M.d (iu (g1 gL9) (ig 0 mNil))) mNil)) (cz 0) lr lq))) dNx))
def ie:Ro->Option (BF×List D):=strD 5 3 aae
def ux:M Bool :=
 (ab1 (mIsN ZW (dz 4)))
def uw:Sd :=
 (dSeq (apk "Stroll" "go_till_in" 3 5 3 gq (mVar 4)) (dSet 4 (mFnW jc [ZX,ZY 5,ZX] (au (mVar 0) ((mLnk "Stroll" 3 "turning" 5).bind λ_=>bu 5 (au (mFV "Stroll" 3 "place") dh))))))
def adq:Ro->Option (BF×List D) :=
 (ake "Stroll" 3 5 (aci ie [ZY 0,ZY 1,ZY 2] (bu 0 (bu 1 (bu 2 dh)))) (dSeq (dSet 4 (mFnW jc [ZX,ZY 5,ZX] (au (mVar 0) ((mLnk "Stroll" 3 "turning" 5).bind λ_=>bu 5 (au (mFV "Stroll" 3 "place") dh))))) (dSeq (whileD ux (agv uw) fuel) dNx)))
def nq:Ro->Option (BF×List D):=strD 6 3 adq
def aa0:M Bool :=
 (jr (gEq ZW) (cu 0 (dz 1)))
def aax:M D :=
 (mVar 0)
def ye:M D :=
 (M.d (mFn mz [ZX] (au (M.d (mFn aip [ZY 1,ZX] (bu 1 (au (M.d (qy [ZX,ZY 0] (qm (mVar 2)) (cz 0) aa0 aax)) dh)))) dh)))
def xu:Sd :=
 (dSub 5 (mVar 6) (M.d (mOp (gInt fDiv) (cu 7 (dz 4)))))
def ae8:Sd :=
 (dSeq (dSet 2 (mFn rm [ZX] (au (mVar 0) dh))) (dSeq (dSet 3 (qy [ZX,ZY 2,ZY 1] (qm (mVar 1)) (cz 0) (ret ZW) ye)) (dSeq (dSet 4 (mFn ni [ZX] (au (mVar 3) dh))) (dSeq (dSet 5 (mOp gMul (gw (M.d (mLst (bh (ret (.int 0)) mNil))) (M.d (iu (g1 gL9) (ig 0 mNil)))))) (dSeq (dFor (mGet ane (bh (mVar 1) (bh (mVar 3) mNil))) (bTup 2 (kj (cz 6) (kj (cz 7) bNil))) xu) (dRet (iu (g1 gT9) (ig 5 mNil))))))))
def my:Fd:=fnD 8 2 ae8
def aag:M D :=
 (M.d (mOp gMul (cu 0 (M.d (iu (g1 gL9) (ig 1 mNil))))))
def af8:Sd :=
 (dSeq (yp (mFn bj [ZX,ZX,ZX] (au (okS (mVar 0)) (au (okS (mVar 1)) (au (okS (mVar 2)) dh))))) (dOk (dGot "Stroll" 3 5 (aci nq [ZX,ZY 1,ZY 2] (au (mVar 0) (bu 1 (bu 2 dh)))) (dSeq (dSet 4 (mFn my [ZX,ZX] (au (mVar 0) (au (M.d (mFn rn [ZY 0,ZX] (bu 0 (au (mFV "Stroll" 3 "place") dh)))) dh)))) (dRet (M.v (mTup (bh (mFV "Stroll" 3 "steps") (bh (M.d (iu (g1 gSum) (bh (M.d (qy [ZX,ZX] (mGet ane (bh (mVar 4) (bh (mVar 0) mNil))) (bTup 2 (kj (cz 0) (kj (cz 1) bNil))) (ret ZW) aag)) mNil))) mNil)))))))))
def f_round_of:Fd:=fnD 6 3 af8
def af7:Sd :=
 (dSeq (yp (mFn bj [ZX,ZX,ZX] (au (okS (mVar 0)) (au (okS (mVar 1)) (au (okS (mVar 2)) dh))))) (dOk (dGot "Stroll" 3 4 (aci ie [ZY 0,ZY 1,ZY 2] (bu 0 (bu 1 (bu 2 dh)))) (dRet (mFn my [ZX,ZX] (au (mVar 0) (au (M.d (mFn rn [ZY 0,ZX] (bu 0 (au (mFV "Stroll" 3 "place") dh)))) dh)))))))
def f_turns_of:Fd:=fnD 5 3 af7
def af9:Sd :=
 (dSeq (yp (mFn bj [ZX,ZX,ZX] (au (okS (mVar 0)) (au (okS (mVar 1)) (au (okS (mVar 2)) dh))))) (dOk (dRet (M.v (mIsN ZV (M.d (mFn aap [ZX,ZX,ZX] (au (mVar 0) (au (mVar 1) (au (mVar 2) dh))))))))))
def f_in_round:Fd:=fnD 3 3 af9
def aif:Sd :=
 (dSeq (yp (mFn bj [ZX,ZX,ZX] (au (okS (mVar 0)) (au (okS (mVar 1)) (au (okS (mVar 2)) dh))))) (dOk (dRet (mFn aap [ZX,ZX,ZX] (au (mVar 0) (au (mVar 1) (au (mVar 2) dh)))))))
def f_why_not:Fd:=fnD 3 3 aif
def aii:Sd :=
 (dRet (M.v (mAnd (M.d (mFn j6 [ZY 0,ZX] (bu 0 (au (mVar 2) dh)))) (M.d (mOp (gIn ZV) (cu 2 (M.d (mFn ue [ZY 0,ZX] (bu 0 (au (mVar 1) dh))))))))))
def f_is_gone:Fd:=fnD 3 3 aii
def g_why_not_holds:Sd :=
 (dSeq (yp (mFn bj [ZX,ZX,ZX] (au (okS (mVar 0)) (au (okS (mVar 1)) (au (okS (mVar 2)) dh))))) (dSeq (dIf (okS (am0 (ab1 (M.d (mFn jm [ZY 3,ZX,ZX] (bu 3 (au (ret (.int 2)) (au (ret (.int 2)) dh)))))))) (dOk (dRet (M.v (ret (.bl ZV))))) dNx) (dSeq (dIf (okS (jr (gEq ZV) (gw (M.d (mOp gIx (cu 3 (ret (.int 0))))) (ret (.str "gone"))))) (dOk (dRet (mFn f_is_gone [ZY 0,ZX,ZX] (bu 0 (au (mVar 2) (au (M.d (mOp gIx (cu 3 (ret (.int 1))))) dh)))))) dNx) (dOk (dRet (M.v (mAnd (M.d (mOp (gEq ZV) (gw (M.d (mOp gIx (cu 3 (ret (.int 0))))) (ret (.str "ring"))))) (M.d mNo))))))))
def f_why_not_holds:Fd:=fnD 4 4 g_why_not_holds
def aeh:Sd :=
 (dSeq (dIf (jr (gCmp λi j=>decide (i<j)) (cu 1 (M.d (iu (g1 gL9) (ig 0 mNil))))) (dRet (mOp gIx (cu 0 (dz 1)))) dNx) (dRet (M.v (ret (.int 0)))))
def f__law_cell:Fd:=fnD 2 2 aeh
def aka:Sd :=
 (dSeq (dSet 1 (iu (g2 (gInt λi j=>ZY (if j > i then j else i))) (ig 0 (bh (M.d (mOp (gInt fSub) (gw (ret (.int 0)) (dz 0)))) mNil)))) (dRet (mLst (bh (mVar 1) (bh (M.d (iu (g1 ang) (bh (M.d (mOp (gCmp λi j=>decide (j<=i)) (cu 1 (M.d (mOp (gInt fPow) (gw (ret (.int 10)) (ret (.int 18)))))))) mNil))) mNil)))))
def f__law_pen:Fd:=fnD 2 1 aka
def aeg:Sd :=
 (dSeq (dIf (jr (gEq ZV) (gw (M.d (mOp gIx (cu 0 (ret (.int 1))))) (ret (.int 1)))) (dSeq (dAsg (M.d (iu (g2 alr) (bh (M.d (mOp gIx (cu 0 (ret (.int 0))))) (ig 1 mNil)))) (bTup 2 (kj (cz 2) (kj (cz 3) bNil)))) (dSeq (dSub 0 (ret (.int 0)) (mVar 2)) (dRet (ah2 3)))) dNx) (dSeq (dSet 4 (mOp (gInt fMod) (gw (M.d (mOp gMul (gw (M.d (mOp gAdd (gw (M.d (mOp (gInt fMod) (gw (M.d (mOp gIx (cu 0 (ret (.int 0))))) (ret (.int 2147483647))))) (ret (.int 40503))))) (ret (.int 69621))))) (ret (.int 2147483629))))) (dSeq (dSet 4 (mOp (gInt fMod) (gw (M.d (mOp gAdd (gw (M.d (mOp gMul (cu 4 (dz 4)))) (ret (.int 7817))))) (ret (.int 2147483587))))) (dSeq (dSub 0 (ret (.int 0)) (M.d (mOp (gInt fMod) (gw (M.d (mOp gAdd (gw (M.d (mOp gMul (cu 4 (ret (.int 48271))))) (ret (.int 11))))) (ret (.int 2147483629)))))) (dRet (mOp (gInt fMod) (gw (M.d (mOp (gInt fDiv) (gw (M.d (mOp gIx (cu 0 (ret (.int 0))))) (ret (.int 32))))) (dz 1))))))))
def f__law_draw:Fd:=fnD 5 2 aeg
def akb:Sd :=
 (dSeq (dSet 1 (mLst (bh (ret .non) (bh (ret (.bl ZW)) (bh (ret (.bl ZV)) (bh (mUn gNeg (ret (.int 1))) (bh (ret (.str "1")) (bh (ret (.str "")) (bh (mTup mNil) (bh (M.d (mLst mNil)) (bh (mTup (bh (ret (.int 0)) mNil)) (bh (M.d (mLst (bh (ret (.int 0)) mNil))) (bh (ret (.dct [(lR "a", .int 1)])) (bh (mTup (bh (ret (.int 0)) (bh (ret (.int 1)) mNil))) (bh (M.d (mOp (gInt fPow) (gw (ret (.int 10)) (ret (.int 30))))) (bh (mTup (bh (mTup (bh (ret (.int 0)) mNil)) mNil)) (bh (ret (.str "ab")) mNil))))))))))))))))) (dRet (mOp gIx (gw (M.d (mOp gAdd (cu 1 (M.d (mLst (bh (mTup (bh (mTup (bh (mUn gNeg (ret (.int 1))) mNil)) (bh (mTup (bh (ret (.int 0)) (bh (ret (.int 1)) mNil))) mNil))) mNil)))))) (M.d (mFn f__law_draw [ZY 0,ZX] (bu 0 (au (ret (.int 16)) dh))))))))
def f__law_odd:Fd:=fnD 2 1 akb
def abt:M D :=
 (M.d (mOp (gInt fSub) (gw (M.d (mFn f__law_draw [ZY 1,ZX] (bu 1 (au (M.d (mOp gAdd (cu 2 (dz 3)))) dh)))) (dz 3))))
def abo:Sd :=
 (dSeq (dSet 7 (mOp gAdd (gw (ret (.int 1)) (M.d (mFn f__law_draw [ZY 0,ZY 2] (bu 0 (bu 2 dh))))))) (yp (M.v (mMut 5 aav (bh (M.d (iu (g1 gT9) (bh (M.d (qy [ZX,ZY 0,ZY 3,ZY 4] (mGet qt (bh (mVar 7) mNil)) (cz 0) (ret ZW) abt)) mNil))) mNil)))))
def ago:Sd :=
 (dSeq (dSet 3 (mOp gAdd (gw (ret (.int 1)) (M.d (mFn f__law_draw [ZY 0,ZY 1] (bu 0 (bu 1 dh))))))) (dSeq (dSet 4 (mOp gIx (gw (M.d (mLst (bh (ret (.int 0)) (bh (ret (.int 1)) (bh (ret (.int 3)) (bh (ret (.int 3)) mNil)))))) (M.d (mFn f__law_draw [ZY 0,ZX] (bu 0 (au (ret (.int 4)) dh))))))) (dSeq (dSet 5 (mLst mNil)) (dSeq (dFor (mGet qt (bh (mVar 3) mNil)) (cz 6) abo) (dRet (iu (g1 gT9) (ig 5 mNil)))))))
def f__law_house:Fd:=fnD 8 3 ago
def acy:M D :=
 (M.d (mFn f__law_draw [ZY 1,ZY 2] (bu 1 (bu 2 dh))))
def l1__law_shut:Sd :=
 (dSeq (dSet 6 (mOp gAdd (gw (ret (.int 1)) (M.d (mFn f__law_draw [ZY 0,ZY 2] (bu 0 (bu 2 dh))))))) (dSeq (dSet 7 (qy [ZX,ZY 0,ZY 3] (mGet qt (bh (mVar 6) mNil)) (cz 0) (ret ZW) acy)) (dSeq (dIf (jr (gEq ZV) (gw (M.d (mFn f__law_draw [ZY 0,ZX] (bu 0 (au (ret (.int 2)) dh)))) (ret (.int 1)))) (dSub 7 (ret (.int 0)) (M.d (mOp (gInt fMod) (gw (M.d (mOp gAdd (cu 5 (ret (.int 1))))) (dz 3))))) dNx) (yp (M.v (mMut 4 aav (bh (M.d (iu (g1 gT9) (ig 7 mNil))) mNil)))))))
def aik:Sd :=
 (dSeq (dSet 3 (mOp gAdd (gw (ret (.int 1)) (M.d (mFn f__law_draw [ZY 0,ZY 1] (bu 0 (bu 1 dh))))))) (dSeq (dSet 4 (mLst mNil)) (dSeq (dFor (mGet qt (bh (mVar 3) mNil)) (cz 5) l1__law_shut) (dRet (iu (g1 gT9) (ig 4 mNil))))))
def f__law_shut:Fd:=fnD 8 3 aik
def aaz:M D :=
 (M.d (mFn f__law_draw [ZY 1,ZX] (bu 1 (au (M.d (iu (g1 gL9) (ig 0 mNil))) dh))))
def afb:Sd :=
 (dRet (iu (g1 gT9) (bh (M.d (qy [ZX,ZY 0] (qm (mVar 1)) (cz 0) (ret ZW) aaz)) mNil)))
def f__law_arrows:Fd:=fnD 2 2 afb
def apb:Sd :=
 (dSeq (dSet 1 (mLst (bh (mIsC NS "NoArrows" (dz 0)) (bh (mIsC NS "NoRoom" (dz 0)) (bh (mIsC NS "NoWalkers" (dz 0)) (bh (mIsC NS "NotShut" (dz 0)) mNil)))))) (dSeq (dSet 1 (mOp gAdd (cu 1 (M.d (mLst (bh (mIsC NS "NeverBack" (dz 0)) (bh (mIsC NS "NoTour" (dz 0)) (bh (mIsC NS "NoRow" (dz 0)) (bh (mIsC NS "NoHouse" (dz 0)) mNil))))))))) (dSeq (dSet 1 (mOp gAdd (cu 1 (M.d (mLst (bh (mIsC NS "NotOpen" (dz 0)) (bh (mIsC NS "Nobody" (dz 0)) (bh (mIsC NS "NoText" (dz 0)) (bh (mIsC NS "TooGreat" (dz 0)) mNil))))))))) (dSeq (dIf (mOrB (am0 (ab1 (mIsC NS "ValueError" (dz 0)))) (jr (gEq ZW) (gw (aqi 1 (bh (ret (.bl ZW)) mNil)) (ret (.int 1))))) (dRet (M.v (ret (.str "other")))) dNx) (dSeq (dSet 2 (mLst (bh (ret (.str "arrows")) (bh (ret (.str "room")) (bh (ret (.str "walkers")) (bh (ret (.str "shut")) (bh (ret (.str "never")) (bh (ret (.str "tour")) (bh (ret (.str "row")) (bh (ret (.str "house")) (bh (ret (.str "open")) (bh (ret (.str "nobody")) (bh (ret (.str "text")) (bh (ret (.str "great")) mNil)))))))))))))) (dRet (mOp gIx (cu 2 (ayf 1 akc (bh (ret (.bl ZW)) mNil))))))))))
def uf:Fd:=fnD 3 1 apb
def ab0:Sd :=
 (dSeq (dSet 3 (mFn f__law_draw [ZY 0,ZX] (bu 0 (au (M.d (iu (g1 gL9) (ig 1 mNil))) dh)))) (dSeq (dSet 4 (mOp gIx (gw (M.d (mLst (bh (M.d (iu (g1 gL9) (bh (M.d (mOp gIx (cu 1 (dz 3)))) mNil))) (bh (mUn gNeg (ret (.int 1))) (bh (ret (.bl ZW)) (bh (ret .non) (bh (ret (.str "0")) (bh (mTup (bh (M.d (mOp gIx (cu 2 (dz 3)))) mNil)) (bh (M.d (mOp gAdd (gw (M.d (iu (g1 gL9) (bh (M.d (mOp gIx (cu 1 (dz 3)))) mNil))) (ret (.int 7))))) mNil))))))))) (M.d (mFn f__law_draw [ZY 0,ZX] (bu 0 (au (ret (.int 7)) dh))))))) (dSeq (dSet 5 (mLst (bh (M.d (mOp gAdd (cu 2 (mTup (bh (ret (.int 0)) mNil))))) (bh (M.d (am1 2 (alh (ret (.int 1))) (ret ZX))) (bh (M.d (iu (g1 λd=>(itemsD d).map λl=>.fr l) (ig 2 mNil))) (bh (mTup (bh (mVar 2) mNil)) (bh (ret .non) (bh (M.d (mOp gAdd (gw (M.d (mOp gAdd (gw (M.d (am1 2 (ret ZX) (alh (mVar 3)))) (mTup (bh (mVar 4) mNil))))) (M.d (am1 2 (alh (M.d (mOp gAdd (cu 3 (ret (.int 1)))))) (ret ZX)))))) (bh (ret (.str "")) (bh (ret (.dct [])) mNil)))))))))) (dRet (mOp gIx (cu 5 (M.d (mFn f__law_draw [ZY 0,ZX] (bu 0 (au (ret (.int 8)) dh))))))))))
def f__law_no_arrows:Fd:=fnD 6 3 ab0
def adu:Sd :=
 (dSeq (dSet 2 (mLst (bh (M.d (iu (g1 gL9) (ig 1 mNil))) (bh (M.d (mOp gAdd (gw (M.d (mOp gAdd (gw (M.d (iu (g1 gL9) (ig 1 mNil))) (ret (.int 1))))) (M.d (mFn f__law_draw [ZY 0,ZX] (bu 0 (au (M.d (mOp (gInt fPow) (gw (ret (.int 10)) (ret (.int 6))))) dh))))))) (bh (mUn gNeg (ret (.int 1))) (bh (mUn gNeg (ret (.int 2))) (bh (M.d (mOp (gInt fPow) (gw (ret (.int 10)) (ret (.int 59))))) (bh (M.d (mOp (gInt fSub) (gw (mUn gNeg (ret (.int 1))) (M.d (mFn f__law_draw [ZY 0,ZX] (bu 0 (au (ret (.int 99)) dh))))))) mNil)))))))) (dRet (mOp gIx (gw (M.d (mLst (bh (M.d (mFn f__law_odd [ZY 0] (bu 0 dh))) (bh (M.d (mOp gIx (cu 2 (M.d (mFn f__law_draw [ZY 0,ZX] (bu 0 (au (ret (.int 6)) dh))))))) mNil)))) (M.d (mFn f__law_draw [ZY 0,ZX] (bu 0 (au (ret (.int 2)) dh))))))))
def f__law_no_room:Fd:=fnD 3 2 adu
def uo:Sd :=
 (dRet (mFn uf [ZY 4] (bu 4 dh)))
def jw:Sd :=
 (dSeq (dTry NS (dIf (okS (jr (gEq ZV) (cu 0 (ret (.int 0))))) (yp (mFn f_round_of [ZX,ZX,ZX] (au (okS (mVar 1)) (au (okS (mVar 2)) (au (okS (mVar 3)) dh))))) (dIf (okS (jr (gEq ZV) (cu 0 (ret (.int 1))))) (yp (mFn f_turns_of [ZX,ZX,ZX] (au (okS (mVar 1)) (au (okS (mVar 2)) (au (okS (mVar 3)) dh))))) (dIf (okS (jr (gEq ZV) (cu 0 (ret (.int 2))))) (yp (mFn f_in_round [ZX,ZX,ZX] (au (okS (mVar 1)) (au (okS (mVar 2)) (au (okS (mVar 3)) dh))))) (dIf (okS (jr (gEq ZV) (cu 0 (ret (.int 3))))) (yp (mFn f_why_not [ZX,ZX,ZX] (au (okS (mVar 1)) (au (okS (mVar 2)) (au (okS (mVar 3)) dh))))) (yp (mFn f_why_not_holds [ZX,ZX,ZX,ZX] (au (okS (mVar 1)) (au (okS (mVar 2)) (au (okS (mVar 3)) (au (okS (mTup (bh (ret (.str "gone")) (bh (ret (.int 0)) mNil)))) dh)))))))))) 4 uo) (dRet (M.v (ret (.str "told")))))
def cj:Fd:=fnD 5 4 jw
def au4:Sd :=
 (dIf (mOrB (jr (gEq ZW) (gw (M.d (mFn cj [ZY 1,ZX,ZX,ZX] (bu 1 (au (mTup (bh (mTup (bh (ret (.int 0)) (bh (mUn gNeg (ret (.int 1))) mNil))) mNil)) (au (mTup (bh (ret (.int 0)) mNil)) (au (ret (.int 0)) dh)))))) (ret (.str "shut")))) (jr (gEq ZW) (gw (M.d (mFn cj [ZY 1,ZX,ZX,ZX] (bu 1 (au (mTup (bh (mTup (bh (ret (.int 0)) mNil)) mNil)) (au (mTup (bh (ret (.int 0)) mNil)) (au (ret (.int 0)) dh)))))) (ret (.str "told"))))) (dRet (M.v (ret (.bl ZV)))) dNx)
def anm:M D :=
 (M.d (iu (g1 ajj) (ig 0 mNil)))
def l2_law:Sd :=
 (dSeq (dSet 8 (mFn f__law_no_arrows [ZY 3,ZY 4,ZX] (bu 3 (bu 4 (au (mVar 5) dh))))) (dSeq (dSet 9 (mFn f__law_no_room [ZY 3,ZY 4] (bu 3 (bu 4 dh)))) (dSeq (dIf (mOrB (jr (gEq ZW) (gw (M.d (mFn cj [ZY 1,ZX,ZX,ZX] (bu 1 (au (mVar 4) (au (mVar 8) (au (mVar 9) dh)))))) (ret (.str "arrows")))) (jr (gEq ZW) (gw (M.d (mFn cj [ZY 1,ZX,ZX,ZX] (bu 1 (au (mVar 4) (au (mVar 8) (au (mVar 6) dh)))))) (ret (.str "arrows"))))) (dRet (M.v (ret (.bl ZV)))) dNx) (dIf (mOrB (jr (gEq ZW) (gw (M.d (mFn cj [ZY 1,ZX,ZX,ZX] (bu 1 (au (mVar 4) (au (mVar 5) (au (mVar 9) dh)))))) (ret (.str "room")))) (jr (gEq ZW) (gw (M.d (mFn cj [ZY 1,ZX,ZX,ZX] (bu 1 (au (mVar 4) (au (mVar 5) (au (mVar 6) dh)))))) (dz 7)))) (dRet (M.v (ret (.bl ZV)))) dNx))))
def l3_law:Sd :=
 (dSeq (dSet 5 (mFn f__law_arrows [ZY 3,ZX] (bu 3 (au (mVar 4) dh)))) (dSeq (dSet 6 (mFn f__law_draw [ZY 3,ZX] (bu 3 (au (M.d (iu (g1 gL9) (ig 4 mNil))) dh)))) (dSeq (dSet 7 (mOp gIx (gw (M.d (mLst (bh (ret (.str "told")) (bh (ret (.str "shut")) mNil)))) (M.d (iu (g1 ang) (bh (M.d (mOp (gCmp λi j=>decide (i<j)) (gw (M.d (iu (g1 ajj) (bh (M.d (qy [ZX] (qm (mVar 4)) (cz 0) (ret ZW) anm)) mNil))) (ret (.int 0))))) mNil)))))) (dFor (mGet qt (bh (ret (.int 5)) mNil)) (cz 1) l2_law))))
def l4_law:Sd :=
 (dSeq (dSet 3 (mFn f__law_pen [ZY 2] (bu 2 dh))) (dFor (qm (M.d (mLst (bh (M.d (mFn f__law_house [ZY 3,ZX,ZX] (bu 3 (au (ret (.int 6)) (au (ret (.int 3)) dh))))) (bh (M.d (mFn f__law_shut [ZY 3,ZX,ZX] (bu 3 (au (ret (.int 5)) (au (ret (.int 3)) dh))))) mNil))))) (cz 4) l3_law))
def a77:Sd :=
 (dSeq (dFor (mGet qt (bh (ret (.int 5)) mNil)) (cz 1) au4) (dSeq (dFor (qm (M.d (mOp gAdd (gw (M.d (mLst (bh (M.d (mFn f__law_cell [ZY 0,ZX] (bu 0 (au (ret (.int 0)) dh)))) mNil))) (M.d (am1 0 (alh (ret (.int 1))) (alh (ret (.int 5))))))))) (cz 2) l4_law) (dRet (M.v (ret (.bl ZW))))))
def avv:Fd:=fnD 10 1 a77
def fn0{p:D->Prop}:∀d∈([]:List D),p d:=λ_ h=>by cases h
def fm1{p:D->Prop}{a:D}{l:List D}(h:p a)(t:∀d∈l,p d):∀d∈a::l,p d:=λd hd=>by
 rcases bF.mp hd with rfl |hd
 ·exact h
 ·exact t d hd
def akj{p:D->Prop}{R:List D}(hR:∀d∈R,p d){r:Int}(h0:0<=r)(h1:r<(R.length:Int)):∃d,atI R r=ZY d/\p d:=⟨_,azg h0 h1,hR _ (getD_mem (by omega))⟩
def ahb:D->Bool
 |.int _=>ZW
 |_=>ZV
def withinD(a b:Int):D->Bool
 |.int i=>decide (a<=i)&&decide (i<=b)
 |_=>ZV
def aw6(d:D):(isTy .int d && !isTy .bool d)=ahb d:=by cases d <;> rfl
theorem aw5{d:D}(h:ahb d=ZW):∃i,d=.int i:=by
 cases d with
 |int i=>exact⟨i,rfl⟩
 |_=>cases h
theorem ajm{d:D}(h:ahb d=ZV)(a b:Int):withinD a b d=ZV:=by
 cases d with
 |int i=>cases h
 |_=>rfl
@[simp] theorem ao9(d:D):abf [.val d]=ZY (.ok (.v (.bl (ahb d))),[.val d]):=by
 have e:=aw6 d;generalize ahb d=w at *;subst e;cases p:isTy .int d <;> simp[abf,aj9,p]
@[simp] theorem aqp(d:D)(a b:Int):jl [.val d,.val (.int a),.val (.int b)]=ZY (.ok (.v (.bl (withinD a b d))),[.val d,.val (.int a),.val (.int b)]):=by
 have e:=ao9 d;cases hw:ahb d with
 |false=>
  rw[hw] at e;rw[ajm hw];simp[jl,xg,e]
 |true=>
  obtain⟨i,rfl⟩:=aw5 hw;rw[hw] at e;simp[jl,xg,e,withinD]
def awg(ns:List Int)(k:Int)(h:0<=k):∃n,f__law_cell [.val (.kst (ns.map D.int)),.val (.int k)]=ZY (.ok (.v (.int n)),[.val (.kst (ns.map D.int)),.val (.int k)]):=by
 by_cases hk:k<(ns.length:Int)
 ·have e:atI (ns.map D.int) k=ZY (.int (ns[k.toNat]'(by omega))):=by
   have h2:atI (ns.map D.int) ((k.toNat:Nat):Int)=ZY (.int (ns[k.toNat]'(by omega))):=ai6 (by simp[aL,aF (show k.toNat<ns.length by omega)])
   rw[show((k.toNat:Nat):Int)=k by omega] at h2
   exact h2
  exact⟨ns[k.toNat]'(by omega),by simp[f__law_cell,aeh,hk,e]⟩
 ·exact⟨0,by simp[f__law_cell,aeh,hk]⟩
def pen(P:Int×Int):List D:=[.int P.1,.int P.2]
def axp(n:Int):∃P,f__law_pen [.val (.int n)]=ZY (.ok (.fr (pen P)),[.val (.int n)]):=by
 refine⟨(if 0-n > n then 0-n else n,if 10 ^ 18<=(if 0-n > n then 0-n else n) then 1 else 0),?_⟩
 simp[f__law_pen,aka,pen,fPow]
def ji(P:Int×Int)(m:Int)(h0:0<m)(h1:m<1000000000000000000000000000000000000000000000000000000000000):∃r P',f__law_draw [.own (ZY 0) (pen P),.val (.int m)]=ZY (.ok (.v (.int r)),[.own (ZY 0) (pen P'),.val (.int m)])/\0<=r/\r<m:=by
 obtain⟨a,b⟩:=P
 by_cases hb:b=1
 ·refine⟨a % m,(a / m,b),?_,rE _ (by omega),gM _ h0⟩
  simp[f__law_draw,aeg,pen,hb,h0,h1,atI,ixN]
 ·have z0:0<=(a % 2147483647+40503)*69621 % 2147483629:=rE _ (by decide)
  have z1:(a % 2147483647+40503)*69621 % 2147483629<2147483629:=gM _ (by decide)
  generalize hz:(a % 2147483647+40503)*69621 % 2147483629=z at z0 z1;have hm:fMul z z=ZY (z*z):=by
   unfold fMul;rw[if_pos (.inl ⟨by omega,by omega⟩)]
  refine⟨((z*z+7817) % 2147483587*48271+11) % 2147483629 / 32 % m,(((z*z+7817) % 2147483587*48271+11) % 2147483629,b),?_,rE _ (by omega),gM _ h0⟩
  have h69:∀x:Int,fMul x 69621=ZY (x*69621):=λx=>by unfold fMul;rw[if_pos (.inr (by decide))]
  have h48:∀x:Int,fMul x 48271=ZY (x*48271):=λx=>by unfold fMul;rw[if_pos (.inr (by decide))]
  simp[f__law_draw,aeg,pen,hb,h0,h1,atI,ixN,h69,h48,hm,fMod,fDiv,hz]
structure HouseOk (m w:Int) (qq:LL9):Prop where
 one:1<=qq.length
 most:(qq.length:Int)<=m
 room:∀r∈qq,1<=r.length/\(r.length:Int)<=w/\∀x∈r,-3<=x/\x<(qq.length:Int)
def hDs(qq:LL9):List D:=qq.map λr=>D.tup (r.map D.int)
def hD(qq:LL9):D:=.tup (hDs qq)
def asj(P:Int×Int)(m w:Int)(m1:1<=m)(m2:m<=10)(w1:1<=w)(w2:w<=6):∃qq P',f__law_house [.own (ZY 0) (pen P),.val (.int m),.val (.int w)]=ZY (.ok (.v (hD qq)),[.own (ZY 0) (pen P'),.val (.int m),.val (.int w)])/\HouseOk m w qq:=by
 obtain⟨r1,P1,e1,r1a,r1b⟩:=ji P m (by omega) (by omega)
 obtain⟨r2,P2,e2,r2a,r2b⟩:=ji P1 4 (by decide) (by decide)
 have hg:∃g:Int,atI [D.int 0,D.int 1,D.int 3,D.int 3] r2=ZY (.int g)/\0<=g/\g<=3:=by
  obtain⟨d,e,g,rfl,h⟩:=akj (p:=λd=>∃g:Int,d=.int g/\0<=g/\g<=3) (fm1 ⟨0,rfl,by decide⟩ (fm1 ⟨1,rfl,by decide⟩ (fm1 ⟨3,rfl,by decide⟩ (fm1 ⟨3,rfl,by decide⟩ fn0)))) r2a r2b
  exact⟨g,e,h⟩
 obtain⟨g,eg,g0,g3⟩:=hg;have loop:=abr (b:=cz 6) (g:=abo) (λi ρ=>∃qq P o1 o2,ρ=[.own (ZY 0) (pen P),.val (.int m),.val (.int w),.val (.int (1+r1)),.val (.int g),.own ZX (hDs qq),o1,o2]/\qq.length=i/\∀r∈qq,1<=r.length/\(r.length:Int)<=w/\∀x∈r,-3<=x/\x<1+r1)
  (l:=rangeD 0 (1+r1).toNat) (ρ:=[.own (ZY 0) (pen P2),.val (.int m),.val (.int w),.val (.int (1+r1)),.val (.int g),.own ZX [],.emp,.emp]) 0 ⟨[],P2,.emp,.emp,rfl,rfl,by simp⟩ ?_
 ·obtain⟨ρ',e3,qq,P3,o1,o2,rfl,hl,hr⟩:=loop;have hl:qq.length=(1+r1).toNat:=by simpa[rangeD] using hl
  refine⟨qq,P3,?_,by omega,by omega,λr h=>?_⟩
  ·have hb:(1+r1).natAbs<4611686018427387904:=by omega
   simp[f__law_house,ago,e1,e2,eg,hb,e3,hD]
  ·obtain⟨a,b,c⟩:=hr r h;exact⟨a,b,λx hx=>by have:=c x hx;omega⟩
 ·rintro i d ρ hd ⟨qq,P4,o1,o2,rfl,hl,hr⟩
  obtain⟨r5,P5,e5,r5a,r5b⟩:=ji P4 w (by omega) (by omega)
  have comp:=vm (b:=cz 0) (mc:=ret ZW) (me:=abt) (λj ys ρ=>∃ns P o,ρ=[o,.own (ZY 1) (pen P),.val (.int (1+r1)),.val (.int g)]/\ys=ns.map D.int/\ns.length=j/\∀x∈ns,-3<=x/\x<1+r1)
   (l:=rangeD 0 (1+r5).toNat) (ys:=[]) (ρ:=[.emp,.own (ZY 1) (pen P5),.val (.int (1+r1)),.val (.int g)]) 0 ⟨[],P5,.emp,rfl,rfl,rfl,by simp⟩ ?_
  ·obtain⟨ys,ρ',e6,ns,P6,o,rfl,rfl,hn,hx⟩:=comp;have hn:ns.length=(1+r5).toNat:=by simpa[rangeD] using hn
   have hb:(1+r5).natAbs<4611686018427387904:=by omega
   have hc1:ns.length<=capS:=di (by omega)
   have hi:i<(1+r1).toNat:=by
    have:=(aH.mp hd).1
    simpa[rangeD] using this
   have hc2:(hDs qq).length<capS:=by simp[hDs,capS];omega
   refine⟨_,[.own (ZY 0) (pen P6),.val (.int m),.val (.int w),.val (.int (1+r1)),.val (.int g),.own ZX (hDs (qq++[ns])),.val d,.val (.int (1+r5))],rfl,.inl (by simp[abo,e5,hb,e6,hc1,hc2];simp[hDs]),qq++[ns],P6,_,_,rfl,by simp[hl],λr h=>?_⟩
   rcases cX.mp h with h |h
   ·exact hr r h
   ·obtain rfl:r=ns:=by simpa using h
    exact⟨by omega,by omega,hx⟩
  ·rintro j d ys ρ hd ⟨ns,P6,o,rfl,rfl,hn,hx⟩
   obtain⟨r7,P7,e7,r7a,r7b⟩:=ji P6 (1+r1+g) (by omega) (by omega)
   refine⟨_,_,ZW,rfl,rfl,.inr ⟨rfl,.int (r7-g),_,by simp[abt,e7];rfl,ns++[r7-g],P7,_,rfl,by simp,by simp[hn],λx h=>?_⟩⟩
   rcases cX.mp h with h |h
   ·exact hx x h
   ·obtain rfl:x=r7-g:=by simpa using h
    omega
structure HouseS (m w:Int) (qq:LL9):Prop where
 one:1<=qq.length
 most:(qq.length:Int)<=m
 room:∀r∈qq,1<=r.length/\(r.length:Int)<=w/\∀x∈r,0<=x/\x<(qq.length:Int)
def atl(P:Int×Int)(m w:Int)(w1:1<=w)(w2:w<=6){n:Int}(n1:1<=n)(n2:n<=10)(i:Nat)(hi:(i:Int)<n)(qq:LL9)(hl:qq.length<=10)(o1 o2:Sl):∃ns P' q1 q2,l1__law_shut [.own (ZY 0) (pen P),.val (.int m),.val (.int w),.val (.int n),.own ZX (hDs qq),.val (.int (i:Int)),o1,o2]=ZY (.nx,[.own (ZY 0) (pen P'),.val (.int m),.val (.int w),.val (.int n),.own ZX (hDs (qq++[ns])),.val (.int (i:Int)),q1,q2])
  /\ 1<=ns.length/\(ns.length:Int)<=w/\∀x∈ns,0<=x/\x<n:=by
 obtain⟨r5,P5,e5,r5a,r5b⟩:=ji P w (by omega) (by omega)
 have comp:=vm (b:=cz 0) (mc:=ret ZW) (me:=acy) (λj ys ρ=>∃ns P o,ρ=[o,.own (ZY 1) (pen P),.val (.int n)]/\ys=ns.map D.int/\ns.length=j/\∀x∈ns,0<=x/\x<n)
  (l:=rangeD 0 (1+r5).toNat) (ys:=[]) (ρ:=[.emp,.own (ZY 1) (pen P5),.val (.int n)]) 0 ⟨[],P5,.emp,rfl,rfl,rfl,by simp⟩ ?_
 ·obtain⟨ys,ρ',e6,ns,P6,o,rfl,rfl,hn,hx⟩:=comp;have hn:ns.length=(1+r5).toNat:=by simpa[rangeD] using hn
  have hb:(1+r5).natAbs<4611686018427387904:=by omega
  have hc1:ns.length<=capS:=di (by omega)
  have hc2:(hDs qq).length<capS:=by simp[hDs,capS];omega
  obtain⟨r7,P7,e7,r7a,r7b⟩:=ji P6 2 (by decide) (by decide)
  have hm:fMod ((i:Int)+1) n=ZY (((i:Int)+1) % n):=by
   unfold fMod;rw[if_pos (by omega)]
  cases ns with
  |nil=>simp at hn;omega
  |cons x r=>
   have hc1:r.length+1<=capS:=by simpa using hc1
   by_cases q:r7=1
   ·refine⟨((i:Int)+1) % n::r,P7,.val (.int (1+r5)),.own ZX ((((i:Int)+1) % n::r).map D.int),?_,by simp,by simp at hn ⊢;omega,λy hy=>?_⟩
    ·have e8:ixN (r.length+1) 0=ZY 0:=by simp[ixN]
     simp[l1__law_shut,e5,hb,e6,hc1,e7,q,hm,hc2,e8];simp[hDs]
    ·rcases bF.mp hy with rfl |hy
     ·exact⟨Int.emod_nonneg _ (by omega),gM _ (by omega)⟩
     ·exact hx y (aK _ hy)
   ·refine⟨x::r,P7,.val (.int (1+r5)),.own ZX ((x::r).map D.int),?_,by simp,by simp at hn ⊢;omega,hx⟩
    simp[l1__law_shut,e5,hb,e6,hc1,e7,q,hc2];simp[hDs]
 ·rintro j d ys ρ hd ⟨ns,P6,o,rfl,rfl,hn,hx⟩
  obtain⟨r7,P7,e7,r7a,r7b⟩:=ji P6 n (by omega) (by omega)
  refine⟨_,_,ZW,rfl,rfl,.inr ⟨rfl,.int r7,_,by simp[acy,e7];rfl,ns++[r7],P7,_,rfl,by simp,by simp[hn],λx h=>?_⟩⟩
  rcases cX.mp h with h |h
  ·exact hx x h
  ·obtain rfl:x=r7:=by simpa using h
   omega
def atm(P:Int×Int)(m w:Int)(m1:1<=m)(m2:m<=10)(w1:1<=w)(w2:w<=6):∃qq P',f__law_shut [.own (ZY 0) (pen P),.val (.int m),.val (.int w)]=ZY (.ok (.v (hD qq)),[.own (ZY 0) (pen P'),.val (.int m),.val (.int w)])/\HouseS m w qq:=by
 obtain⟨r1,P1,e1,r1a,r1b⟩:=ji P m (by omega) (by omega)
 have loop:=abr (b:=cz 5) (g:=l1__law_shut) (λi ρ=>∃qq P o o1 o2,ρ=[.own (ZY 0) (pen P),.val (.int m),.val (.int w),.val (.int (1+r1)),.own ZX (hDs qq),o,o1,o2]/\qq.length=i/\∀r∈qq,1<=r.length/\(r.length:Int)<=w/\∀x∈r,0<=x/\x<1+r1)
  (l:=rangeD 0 (1+r1).toNat) (ρ:=[.own (ZY 0) (pen P1),.val (.int m),.val (.int w),.val (.int (1+r1)),.own ZX [],.emp,.emp,.emp]) 0 ⟨[],P1,.emp,.emp,.emp,rfl,rfl,by simp⟩ ?_
 ·obtain⟨ρ',e3,qq,P3,o,o1,o2,rfl,hl,hr⟩:=loop;have hl:qq.length=(1+r1).toNat:=by simpa[rangeD] using hl
  refine⟨qq,P3,?_,by omega,by omega,λr h=>?_⟩
  ·have hb:(1+r1).natAbs<4611686018427387904:=by omega
   simp[f__law_shut,aik,e1,hb,e3,hD]
  ·obtain⟨a,b,c⟩:=hr r h;exact⟨a,b,λx hx=>by have:=c x hx;omega⟩
 ·rintro i d ρ hd ⟨qq,P4,o,o1,o2,rfl,hl,hr⟩
  have hi:i<(1+r1).toNat:=by
   have:=(aH.mp hd).1
   simpa[rangeD] using this
  have ed:d=.int (i:Int):=by
   unfold rangeD at hd;rw[aL,bV hi] at hd;have:=bL hd
   simpa using this.symm
  subst ed;obtain⟨ns,P5,q1,q2,e,z1,z2,z3⟩:=atl P4 m w w1 w2 (n:=1+r1) (by omega) (by omega) i (by omega) qq (by omega) o1 o2
  refine⟨_,_,rfl,.inl e,qq++[ns],P5,_,_,_,rfl,by simp[hl],λr h=>?_⟩
  rcases cX.mp h with h |h
  ·exact hr r h
  ·obtain rfl:r=ns:=by simpa using h
   exact⟨z1,z2,z3⟩
structure Hs (qq:LL9):Prop where
 one:1<=qq.length
 most:qq.length<=10
 room:∀r∈qq,1<=r.length/\r.length<=6/\∀x∈r,-3<=x/\x<(qq.length:Int)
def dr(qq:LL9)(x:Int):List Int:=qq.getD x.toNat []
inductive Rch (qq:LL9) (a:Int):Int->Prop
 |base:Rch qq a a
 |step {x d:Int}:Rch qq a x->0<=x->d∈dr qq x->Rch qq a d
def apq{qq:LL9}{x:Int}(h0:0<=x)(h1:x<(qq.length:Int)):atI (hDs qq) x=ZY (.tup ((dr qq x).map D.int)):=by
 have hk:x.toNat<qq.length:=by omega
 have q:atI (hDs qq) ((x.toNat:Nat):Int)=ZY (.tup ((dr qq x).map D.int)):=ai6 (by simp[hDs,dr,aF hk])
 rw[show((x.toNat:Nat):Int)=x by omega] at q
 exact q
def Hs.dr{qq:LL9}(h:Hs qq){x:Int}(h0:0<=x)(h1:x<(qq.length:Int)):1<=(dr qq x).length/\(My.dr qq x).length<=6/\∀y∈My.dr qq x,-3<=y/\y<(qq.length:Int):=by
 have hk:x.toNat<qq.length:=by omega
 have e:My.dr qq x=qq[x.toNat]:=by simp[My.dr,hk]
 rw[e];exact h.room _ (dZ hk)
theorem Rch.range{qq:LL9}(h:Hs qq){a x:Int}(ha:0<=a/\a<(qq.length:Int))(r:Rch qq a x) : -3<=x/\x<(qq.length:Int):=by
 induction r with
 |base=>omega
 |step r h0 hd ih=>exact(h.dr h0 ih.2).2.2 _ hd
theorem ah0:∀(m:Nat) (l:List Int),l.Nodup->(∀x∈l,-3<=x/\x<(m:Int)-3)->l.length<=m
 | 0,l,_,h=>by
  cases l with
  |nil=>simp
  |cons x r=>have:=h x (aQ ..);omega
 |m+1,l,hn,h=>by
  have h1:(l.erase ((m:Int)-3)).length<=m:=ah0 m _ (hn.erase _) λx hx=>by
   rw[hn.mem_erase_iff] at hx;have:=h x hx.2;omega
  have h2:l.length<=(l.erase ((m:Int)-3)).length+1:=by
   rw[uV];split <;> omega
  omega
def a1j{qq:LL9}(h:Hs qq){a:Int}(ha:0<=a/\a<(qq.length:Int)){ns:List Int}(hn:ns.Nodup)(hr:∀x∈ns,Rch qq a x):ns.length<=13:=by
 have:=ah0 (qq.length+3) ns hn λx hx=>by have:=Rch.range h ha (hr x hx);omega
 have:=h.most;omega
theorem aom{qq:LL9}{a:Int}{ns:List Int}(h0:a∈ns)(hc:∀x∈ns,∀d∈dr qq x,0<=d->d∈ns){x:Int}(r:Rch qq a x)(hx:0<=x):x∈ns:=by
 induction r with
 |base=>exact h0
 |step r h0 hd ih=>exact hc _ (ih h0) _ hd hx
def a85{ns:List Int}{i:Nat}(h:i<ns.length):atI (ns.map D.int) (i:Int)=ZY (.int ns[i]):=ai6 (by simp[aF h])
def Sh(qq:LL9):Prop:=∀r∈qq,∀x∈r,0<=x
def HouseOk.hs{m w:Int}{qq:LL9}(h:HouseOk m w qq)(hm:m<=10)(hw:w<=6):Hs qq :=
 ⟨h.one,by have:=h.most;omega,λr hr=>by obtain⟨a,b,c⟩:=h.room r hr;exact⟨a,by omega,c⟩⟩
def HouseS.hs{m w:Int}{qq:LL9}(h:HouseS m w qq)(hm:m<=10)(hw:w<=6):Hs qq :=
 ⟨h.one,by have:=h.most;omega,λr hr=>by obtain⟨a,b,c⟩:=h.room r hr;exact⟨a,by omega,λx hx=>by have:=c x hx;omega⟩⟩
def HouseS.sh{m w:Int}{qq:LL9}(h:HouseS m w qq):Sh qq:=λr hr x hx=>((h.room r hr).2.2 x hx).1
open Classical in
noncomputable def caught(qq:LL9)(a:Int):Bool:=decide (∀x,Rch qq a x->0<=x)
def adi(qq:LL9)(a:Int):caught qq a=ZW↔∀x,Rch qq a x->0<=x:=by
 unfold caught;exact @decide_eq_true_iff _ (Classical.propDecidable _)
noncomputable def upto(n:Nat):List Int:=(aV n).map λi=>((i:Nat):Int)
def aon(n:Nat):rangeD 0 n=(upto n).map D.int:=by
 unfold rangeD upto;rw[eV];apply iC;intro i _;simp
def agy{n:Nat}{x:Int}(h:x∈upto n):0<=x/\x<(n:Int):=by
 obtain⟨i,hi,rfl⟩:=bQ.mp h;have:=gP.mp hi;omega
noncomputable def zr(qq:LL9):List Int:=(upto qq.length).filter (caught qq)
def aoc{qq:LL9}(h:Hs qq):(qq.length:Int).natAbs<4611686018427387904:=by have:=h.most;omega
def at3{qq:LL9}(h:Hs qq):qt [.int (qq.length:Int)]=ZY (rangeD 0 qq.length):=by
 rw[apd,if_pos (aoc h),cM]
def a7p{qq:LL9}(h:Hs qq):∃L:Int,((hDs qq).length:Int)=L/\qt [.int L]=ZY (rangeD 0 qq.length) :=
 ⟨_,rfl,by rw[show(hDs qq).length=qq.length by simp[hDs]];exact at3 h⟩
def ayh{src:List (Option Nat)}{mi:M (List D)}{b:D->Ro->Option Ro}{mc:M Bool}{me:M D}{ρ ρ1 ps:Ro}{l ys:List D}(e:mi ρ=ZY (.ok l,ρ1))(hj:okJs ρ1 src=ZW)(ec:compD b mc me l [] (lend ρ1 src (src.map λ_=>ZX))=ZY (.ok ys,ps))(hc:ys.length<=capS) :
  qy src mi b mc me ρ=ZY (.ok (.fr ys),putB ρ1 src ps):=by
 rw[ayi,a4g,e];dsimp only;rw[if_pos hj,ec];dsimp only;rw[if_pos hc]
def w6(qq:LL9):(hDs qq).length=qq.length:=by simp[hDs]
def aln{qq:LL9}{i:Nat}{d:D}(h:(hDs qq)[i]? = ZY d):∃r,qq[i]? = ZY r/\d=.tup (r.map D.int):=by
 unfold hDs at h;rw[aL] at h;obtain⟨r,e,rfl⟩:=cN.mp h;exact⟨r,e,rfl⟩
structure Arr (qq:LL9) (as:List Int):Prop where
 len:as.length=qq.length
 ok:∀(i:Nat) (a:Int) (r:List Int),as[i]? = ZY a->qq[i]? = ZY r->0<=a/\a<(r.length:Int)
def ar(as:List Int)(x:Int):Int:=as.getD x.toNat 0
def Arr.at{qq:LL9}{as:List Int}(h:Arr qq as){x:Int}(h0:0<=x)(h1:x<(qq.length:Int)):0<=ar as x/\ar as x<((dr qq x).length:Int):=by
 have hk:x.toNat<qq.length:=by omega
 have hk2:x.toNat<as.length:=by rw[h.len];exact hk
 have:=h.ok x.toNat as[x.toNat] qq[x.toNat] (aF hk2) (aF hk)
 simpa[ar,dr,hk,hk2] using this
def aps(P:Int×Int){qq:LL9}(h:Hs qq):∃as P',f__law_arrows [.own (ZY 0) (pen P),.val (hD qq)]=ZY (.ok (.v (.tup (as.map D.int))),[.own (ZY 0) (pen P'),.val (hD qq)])/\Arr qq as:=by
 have comp:=vm (b:=cz 0) (mc:=ret ZW) (me:=aaz) (λj ys ρ=>∃ns P o,ρ=[o,.own (ZY 1) (pen P)]/\ys=ns.map D.int/\ns.length=j/\∀(i:Nat) (a:Int) (r:List Int),ns[i]? = ZY a->qq[i]? = ZY r->0<=a/\a<(r.length:Int))
  (l:=hDs qq) (ys:=[]) (ρ:=[.emp,.own (ZY 1) (pen P)]) 0 ⟨[],P,.emp,rfl,rfl,rfl,by simp⟩ ?_
 ·obtain⟨ys,ρ',e6,ns,P6,o,rfl,rfl,hn,hx⟩:=comp;rw[w6,cP] at hn;have hc:ns.length<=capS:=di (by have:=h.most;omega)
  exact⟨ns,P6,by simp[f__law_arrows,afb,hD,e6,hc],hn,hx⟩
 ·rintro j d ys ρ hd ⟨ns,P6,o,rfl,rfl,hn,hx⟩
  obtain⟨r,hr,rfl⟩:=aln hd;obtain⟨k1,k2,k3⟩:=h.room r (cD hr);obtain⟨r7,P7,e7,r7a,r7b⟩:=ji P6 (r.length:Int) (by omega) (by omega)
  refine⟨_,_,ZW,rfl,rfl,.inr ⟨rfl,.int r7,[.val (.tup (r.map D.int)),.own (ZY 1) (pen P7)],by simp[aaz,e7],ns++[r7],P7,_,rfl,by simp,by simp[hn],λi a q ha hq=>?_⟩⟩
  rcases gH i ns.length with z |z
  ·rw[bA z] at ha;exact hx i a q ha hq
  ·have hi:i=ns.length:=by
    have:=(aH.mp ha).1;simp at this;omega
   subst hi;simp at ha;subst ha;have:ns.length=j:=by omega
   rw[this,hr] at hq;cases hq;exact⟨r7a,r7b⟩
def gone(qq:LL9)(as:List Int)(k:Int):List Int:=as.set k.toNat ((ar as k+1) % ((dr qq k).length:Int))
def led(qq:LL9)(as:List Int)(k:Int):Int:=(dr qq k).getD (ar as k).toNat 0
section
variable{qq:LL9}(h:Hs qq){as:List Int}(ha:Arr qq as){k:Int}(h0:0<=k)(h1:k<(qq.length:Int))
include h ha h0 h1
theorem ara:atI (as.map D.int) k=ZY (.int (ar as k)):=afo h0 (by rw[ha.len];exact h1)
theorem a4j:atI ((dr qq k).map D.int) (ar as k)=ZY (.int (led qq as k)):=afo (ha.at h0 h1).1 (ha.at h0 h1).2
theorem avu(x:Int):fMod x ((dr qq k).length:Int)=ZY (x % ((dr qq k).length:Int)):=by
 have:=(h.dr h0 h1).1;unfold fMod;rw[if_pos (by omega)]
theorem ayu:Arr qq (gone qq as k):=by
 have hd:=(h.dr h0 h1).1;refine⟨by unfold gone;rw[cJ];exact ha.len,λi a r g1 g2=>?_⟩
 unfold gone at g1;rw[aY] at g1;split at g1
 ·rename_i hi;subst hi;split at g1
  ·cases g1;have:dr qq k=r:=by simp[dr,g2]
   rw[this] at hd ⊢
   exact⟨Int.emod_nonneg _ (by omega),gM _ (by omega)⟩
  ·cases g1
 ·exact ha.ok i a r g1 g2
end
def a7r{qq:LL9}(h:Hs qq){as:List Int}(ha:Arr qq as){k:Int}(h0:0<=k)(h1:k<(qq.length:Int)) : -3<=led qq as k/\led qq as k<(qq.length:Int):=by
 obtain⟨a1,a2⟩:=ha.at h0 h1;have hk:(ar as k).toNat<(dr qq k).length:=by omega
 have:led qq as k∈dr qq k:=by
  unfold led;simp[hk]
 exact(h.dr h0 h1).2.2 _ this
@[simp] theorem aba(qq:LL9)(d:D):j6 [.val (hD qq),.val d]=ZY (.ok (.v (.bl (withinD 0 ((qq.length:Int)-1) d))),[.val (hD qq),.val d]):=by
 simp[j6,aby,hD,hDs]
def ajc{qq:LL9}{a:Int}(h0:0<=a)(h1:a<(qq.length:Int)):gj [.val (hD qq),.val (.int a)]=ZY (.ok (.v .non),[.val (hD qq),.val (.int a)]):=by
 have h1:a<=(qq.length:Int)-1:=by omega
 simp[gj,su,withinD,h0,h1]
def au6:uf [.val (.exn "NoRoom" [])]=ZY (.ok (.v (.str "room")),[.val (.exn "NoRoom" [])]):=by kernel_rfl
def ao7:uf [.val (.exn "NoArrows" [])]=ZY (.ok (.v (.str "arrows")),[.val (.exn "NoArrows" [])]):=by kernel_rfl
def a2o:("NoRoom" : Str)∈NS:=dY.mp (by decide +kernel)
def auo:("NoArrows" : Str)∈NS:=dY.mp (by decide +kernel)
def tupB(a b:Int):D->Bool
 |.tup l=>decide (a<=(l.length:Int))&&decide ((l.length:Int)<=b)
 |_=>ZV
theorem aao(d:D)(a b:Int):jm [.val d,.val (.int a),.val (.int b)]=ZY (.ok (.v (.bl (tupB a b d))),[.val d,.val (.int a),.val (.int b)]):=by
 cases p:isTy .tuple d with
 |false=>
  rw[show tupB a b d=ZV by cases d with
   |tup l=>cases p
   |_=>rfl]
  simp[jm,xj,p]
 |true=>
  obtain⟨l,rfl⟩:∃l,d=.tup l:=by cases d with
   |tup l=>exact⟨l,rfl⟩
   |_=>cases p
  simp[jm,xj,p,tupB]
def arrB(qq:LL9):D->Bool
 |.tup l=>decide (l.length=qq.length)&&(l.zip qq).all λp=>withinD 0 ((p.2.length:Int)-1) p.1
 |_=>ZV
theorem agm{qq:LL9}(h:Hs qq)(d:D):ud [.val (hD qq),.val d]=ZY (.ok (.v (.bl (arrB qq d))),[.val (hD qq),.val d]):=by
 have e1:=aao d (qq.length:Int) (qq.length:Int);have hl3:=w6 qq;have hm:=h.most;have no:tupB (qq.length:Int) (qq.length:Int) d=ZV->arrB qq d=ZV->ud [.val (hD qq),.val d]=ZY (.ok (.v (.bl (arrB qq d))),[.val (hD qq),.val d]):=λq1 q2=>by
  rw[q1] at e1;rw[q2];simp only[hD] at *;simp[ud,aef,hl3,e1]
 cases d with
 |tup l=>
  by_cases hl:l.length=qq.length
  ·have hle:l.length<=(hDs qq).length:=by rw[w6];omega
   have comp:=vm (b:=bTup 2 (kj (cz 0) (kj (cz 1) bNil))) (mc:=ret ZW) (me:=acw) (λj ys ρ=>∃o1 o2,ρ=[o1,o2]/\ys=(((l.zip qq).take j).map λp=>withinD 0 ((p.2.length:Int)-1) p.1).map D.bl)
    (l:=sy l (hDs qq)) (ys:=[]) (ρ:=[.emp,.emp]) 0 ⟨.emp,.emp,rfl,rfl⟩ ?_
   ·obtain⟨ys,ρ',e6,o1,o2,rfl,rfl⟩:=comp;have hz:(sy l (hDs qq)).length=(l.zip qq).length:=by rw[ag8 hle,qY];omega
    rw[hz,cP,qM] at e6;have hc:((l.zip qq).map λp=>withinD 0 ((p.2.length:Int)-1) p.1).length<=capS:=di (by rw[aC,qY];omega)
    have hb:=aki ((l.zip qq).map λp=>withinD 0 ((p.2.length:Int)-1) p.1)
    have hall:((l.zip qq).map λp=>withinD 0 ((p.2.length:Int)-1) p.1).all id=(l.zip qq).all λp=>withinD 0 ((p.2.length:Int)-1) p.1:=by rw[List.all_map];rfl
    have ha:arrB qq (.tup l)=((l.zip qq).map λp=>withinD 0 ((p.2.length:Int)-1) p.1).all id:=by
     rw[hall];simp only[arrB,hl,decide_true,wW]
    rw[ha];have q1:tupB (qq.length:Int) (qq.length:Int) (.tup l)=ZW:=by simp[tupB,hl]
    rw[q1] at e1;generalize ((l.zip qq).map λp=>withinD 0 ((p.2.length:Int)-1) p.1)=bs at *
    simp only[hD] at *;simp[ud,aef,hl3,e1,hl,e6,hc,hb]
   ·rintro j d ys ρ hd ⟨o1,o2,rfl,rfl⟩
    obtain⟨d1,d2,g1,g2,rfl⟩:=ael hd;obtain⟨r,hr,rfl⟩:=aln g2;refine⟨[.val d1,.val (.tup (r.map D.int))],_,ZW,by simp,rfl,.inr ⟨rfl,.bl (withinD 0 ((r.length:Int)-1) d1),[.val d1,.val (.tup (r.map D.int))],by simp[acw],_,_,rfl,?_⟩⟩
    have hz:(l.zip qq)[0+j]? = ZY (d1,r):=by rw[cP,jA];exact⟨g1,hr⟩
    rw[List.take_succ,hz];simp
  ·refine no ?_ ?_
   ·show(decide ((qq.length:Int)<=(l.length:Int))&&decide ((l.length:Int)<=(qq.length:Int)))=ZV;rw[kZ,decide_eq_false_iff_not,decide_eq_false_iff_not];omega
   ·show(decide (l.length=qq.length)&&_)=ZV;rw[decide_eq_false hl];rfl
 |_=>exact no rfl rfl
def azi{qq:LL9}{as:List Int}(ha:Arr qq as):arrB qq (.tup (as.map D.int))=ZW:=by
 show(decide ((as.map D.int).length=qq.length)&&_)=ZW;rw[aC,decide_eq_true ha.len,wW,bK]
 rintro⟨d,r⟩ hp
 obtain⟨i,hi,e⟩:=lE.mp hp;have e2:((as.map D.int).zip qq)[i]? = ZY (d,r):=by rw[aF hi,e]
 rw[jA,aL] at e2;obtain⟨e3,e4⟩:=e2;obtain⟨a,ea,rfl⟩:=cN.mp e3;obtain⟨h0,h1⟩:=ha.ok i a r ea e4;show(decide (0<=a)&&decide (a<=(r.length:Int)-1))=ZW;rw[bD,decide_eq_true_eq,decide_eq_true_eq];omega
section
variable{qq:LL9}(h:Hs qq){bad:D}(hb:arrB qq bad=ZV)
include h hb
theorem awv:gr [.val (hD qq),.val bad]=ZY (.exc ⟨"NoArrows", []⟩,[.val (hD qq),.val bad]):=by
 have e:=agm h bad;rw[hb] at e;simp[gr,u9,e]
end
section
variable{qq:LL9}(h:Hs qq){as:List Int}(ha:Arr qq as)
include h ha
theorem akk:gr [.val (hD qq),.val (.tup (as.map D.int))]=ZY (.ok (.v .non),[.val (hD qq),.val (.tup (as.map D.int))]):=by
 have e:=agm h (.tup (as.map D.int));rw[azi ha] at e;simp[gr,u9,e]
end
def a1h{qq:LL9}{d:D}(hd:withinD 0 ((qq.length:Int)-1) d=ZV):gj [.val (hD qq),.val d]=ZY (.exc ⟨"NoRoom", []⟩,[.val (hD qq),.val d]):=by
 have e:=aba qq d;rw[hd] at e;simp[gj,su,e]
def a2l(P:Int×Int):∃d P',f__law_odd [.own (ZY 0) (pen P)]=ZY (.ok (.v d),[.own (ZY 0) (pen P')])/\∀n:Nat,n<=10->withinD 0 ((n:Int)-1) d=ZV:=by
 obtain⟨r,P',e,h0,h1⟩:=ji P 16 (by decide) (by decide)
 have hn:∀i:Int,i<0∨10<=i->∀n:Nat,n<=10->withinD 0 ((n:Int)-1) (.int i)=ZV:=λi hi n hn=>by
  show(decide (0<=i)&&decide (i<=(n:Int)-1))=ZV;rw[kZ,decide_eq_false_iff_not,decide_eq_false_iff_not];omega
 have no:∀{d:D},ahb d=ZV->∀n:Nat,n<=10->withinD 0 ((n:Int)-1) d=ZV:=λh n _=>ajm h _ _
 have hT:∃d,atI [.non,.bl ZW,.bl ZV,.int (-1),.str "1", .str "", .tup [],.lst [],.tup [.int 0],.lst [.int 0],.dct [(lR "a", .int 1)],.tup [.int 0,.int 1],.int 1000000000000000000000000000000,.tup [.tup [.int 0]],.str "ab", .tup [.tup [.int (-1)],.tup [.int 0,.int 1]]] r=ZY d/\∀n:Nat,n<=10->withinD 0 ((n:Int)-1) d=ZV :=
  akj (fm1 (no rfl) (fm1 (no rfl) (fm1 (no rfl) (fm1 (hn _ (by decide)) (fm1 (no rfl) (fm1 (no rfl) (fm1 (no rfl) (fm1 (no rfl) (fm1 (no rfl) (fm1 (no rfl) (fm1 (no rfl) (fm1 (no rfl) (fm1 (hn _ (by decide)) (fm1 (no rfl) (fm1 (no rfl) (fm1 (no rfl) fn0)))))))))))))))) h0 h1
 obtain⟨T,eT,t⟩:=hT;have big:fPow 10 30=ZY 1000000000000000000000000000000:=by decide +kernel
 have hc:(16:Nat)<=capS:=by decide
 exact⟨T,P',by simp[f__law_odd,akb,e,big,eT,hc],t⟩
def aen{n:Int}{i:Int}(hi:i<0∨n<=i):withinD 0 (n-1) (.int i)=ZV:=by
 show(decide (0<=i)&&decide (i<=n-1))=ZV;rw[kZ,decide_eq_false_iff_not,decide_eq_false_iff_not];omega
def agg{qq:LL9}{l:List D}(hl:l.length≠qq.length):arrB qq (.tup l)=ZV:=by
 show(decide (l.length=qq.length)&&_)=ZV;rw[decide_eq_false hl];rfl
def an4{qq:LL9}{l:List D}{k:Int}(h0:0<=k)(h1:k<(qq.length:Int)){d:D}(hk:l[k.toNat]? = ZY d)(hd:withinD 0 (((dr qq k).length:Int)-1) d=ZV):arrB qq (.tup l)=ZV:=by
 show(decide (l.length=qq.length)&&_)=ZV;rw[kZ]
 right
 rw[<-Bool.not_eq_true,bK];intro hall;have hr:qq[k.toNat]? = ZY (dr qq k):=by
  unfold dr;rw[aZ,aF (by omega)]
  rfl
 have hz:(l.zip qq)[k.toNat]? = ZY (d,dr qq k):=by rw[jA];exact⟨hk,hr⟩
 have:=hall _ (cD hz);simp only at this;rw[hd] at this;exact Bool.noConfusion this
section
variable{qq:LL9}(h:Hs qq){as:List Int}(ha:Arr qq as)
include h ha
theorem aji(P:Int×Int):∃bad P',f__law_no_arrows [.own (ZY 0) (pen P),.val (hD qq),.val (.tup (as.map D.int))]=ZY (.ok (.v bad),[.own (ZY 0) (pen P'),.val (hD qq),.val (.tup (as.map D.int))])/\arrB qq bad=ZV:=by
 have hm:=h.most;have h1':=h.one;have hl:=ha.len;obtain⟨k,P1,e1,k0,k1⟩:=ji P (qq.length:Int) (by omega) (by omega)
 obtain⟨r2,P2,e2,r2a,r2b⟩:=ji P1 7 (by decide) (by decide)
 obtain⟨r3,P3,e3,r3a,r3b⟩:=ji P2 8 (by decide) (by decide)
 have a1:=apq k0 k1;have a2:=ara h ha k0 k1;obtain⟨w1,w2,w3⟩:=h.dr k0 k1;have ho:∃odd,atI [.int ((dr qq k).length:Int),.int (-1),.bl ZW,.non,.str "0", .tup [.int (ar as k)],.int (((dr qq k).length:Int)+7)] r2=ZY odd/\withinD 0 (((dr qq k).length:Int)-1) odd=ZV:=by
  refine akj (p:=λd=>withinD 0 (((dr qq k).length:Int)-1) d=ZV) ?_ r2a r2b
  exact(fm1 (aen (by omega)) (fm1 (aen (by omega)) (fm1 rfl (fm1 rfl (fm1 rfl (fm1 rfl (fm1 (aen (by omega)) fn0)))))))
 obtain⟨odd,eo,hodd⟩:=ho;have c1:=a8v (ns:=as.map D.int) k0 (by rw[aC];omega)
 have c2:=apm (ns:=as.map D.int) (k:=k+1) (by omega) (by rw[aC];omega)
 have c3:=apm (ns:=as.map D.int) (k:=1) (by omega) (by rw[aC];omega)
 have l1:((as.map D.int).take k.toNat).length=k.toNat:=by rw[eX,aC];omega
 have l2:((as.map D.int).drop (k+1).toNat).length<=10:=by rw[jE,aC];omega
 have l3:((as.map D.int).drop (1:Int).toNat).length=qq.length-1:=by rw[jE,aC];omega
 have l0:(as.map D.int).length=qq.length:=by rw[aC];omega
 generalize (as.map D.int).take k.toNat=ta at c1 l1;generalize (as.map D.int).drop (k+1).toNat=td at c2 l2;generalize (as.map D.int).drop (1:Int).toNat=tf at c3 l3;have hT:∃bad,atI [.tup (as.map D.int++[.int 0]),.tup tf,.lst (as.map D.int),.tup [.tup (as.map D.int)],.non,.tup (ta++odd::td),.str "", .dct []] r3=ZY bad/\arrB qq bad=ZV:=by
  refine akj (p:=λd=>arrB qq d=ZV) ?_ r3a r3b
  refine(fm1 (agg (by rw[cC];simp only[bG,qZ];omega)) (fm1 (agg (by omega)) (fm1 rfl (fm1 ?_ (fm1 rfl (fm1 (an4 k0 k1 (d:=odd) (by rw[cR (by omega),l1,Nat.sub_self];rfl) hodd) (fm1 rfl (fm1 rfl fn0))))))))
  by_cases z:qq.length=1
  ·exact an4 (k:=0) (by decide) (by omega) (d:=.tup (as.map D.int)) rfl rfl
  ·exact agg (by simp only[bG,qZ];omega)
 obtain⟨bad,eb,hb⟩:=hT;have q1:ta.length+1<=capS:=di (by omega)
 have q2:ta.length+1+td.length<=capS:=di (by omega)
 have q3:(as.map D.int).length+1<=capS:=di (by omega)
 have q4:(as.map D.int).length<=capS:=di (by omega)
 have hl3:=w6 qq;refine⟨bad,P3,?_,hb⟩;generalize as.map D.int=la at *;simp only[hD] at *;generalize hDs qq=hh at *;have e1':f__law_draw [.own (ZY 0) (pen P),.val (.int (hh.length:Int))]=ZY (.ok (.v (.int k)),[.own (ZY 0) (pen P1),.val (.int (hh.length:Int))]):=by rw[hl3];exact e1
 simp[f__law_no_arrows,ab0,e1',a1,a2,e2,eo,e3,c1,c2,c3,q1,q2,q3,q4,eb]
end
def amy(P:Int×Int){qq:LL9}(h:Hs qq):∃d P',f__law_no_room [.own (ZY 0) (pen P),.val (hD qq)]=ZY (.ok (.v d),[.own (ZY 0) (pen P'),.val (hD qq)])/\withinD 0 ((qq.length:Int)-1) d=ZV:=by
 have hm:=h.most;obtain⟨r1,P1,e1,r1a,r1b⟩:=ji P 1000000 (by decide) (by decide)
 obtain⟨r2,P2,e2,r2a,r2b⟩:=ji P1 99 (by decide) (by decide)
 obtain⟨d3,P3,e3,h3⟩:=a2l P2;obtain⟨r4,P4,e4,r4a,r4b⟩:=ji P3 6 (by decide) (by decide)
 obtain⟨r5,P5,e5,r5a,r5b⟩:=ji P4 2 (by decide) (by decide)
 have p1:fPow 10 6=ZY 1000000:=by decide +kernel
 have p2:fPow 10 59=ZY 100000000000000000000000000000000000000000000000000000000000:=by decide +kernel
 have hf:∃far,atI [.int (qq.length:Int),.int ((qq.length:Int)+1+r1),.int (-1),.int (-2),.int 100000000000000000000000000000000000000000000000000000000000,.int (-1-r2)] r4=ZY far/\withinD 0 ((qq.length:Int)-1) far=ZV:=by
  have n:=λi hi=>aen (n:=(qq.length:Int)) (i:=i) hi
  refine akj (p:=λd=>withinD 0 ((qq.length:Int)-1) d=ZV) ?_ r4a r4b
  exact(fm1 (n _ (by omega)) (fm1 (n _ (by omega)) (fm1 (n _ (by omega)) (fm1 (n _ (by omega)) (fm1 (n _ (by omega)) (fm1 (n _ (by omega)) fn0))))))
 obtain⟨far,ef,hf⟩:=hf;have hT:∃d,atI [d3,far] r5=ZY d/\withinD 0 ((qq.length:Int)-1) d=ZV:=by
  exact akj (p:=λd=>withinD 0 ((qq.length:Int)-1) d=ZV) (fm1 (h3 _ hm) (fm1 hf fn0)) r5a r5b
 obtain⟨d,ed,hd⟩:=hT;have hl3:=w6 qq;have hw:qq.length<4611686018427387904:=by omega
 refine⟨d,P5,?_,hd⟩;rw[<-hl3] at ef hw;simp only[hD] at *;have s1:fSub (-1) r2=ZY (-1-r2):=by simp
 simp[f__law_no_room,adu,p1,p2,e1,e2,e3,e4,e5,ef,ed,hw,s1]
section
variable{qq:LL9}(h:Hs qq)
include h
theorem a1a{bad:D}(hb:arrB qq bad=ZV)(d:D):gk [.val (hD qq),.val bad,.val d]=ZY (.exc ⟨"NoArrows", []⟩,[.val (hD qq),.val bad,.val d]):=by
 have e:=awv h hb;simp[gk,qi,e]
theorem a09{as:List Int}(ha:Arr qq as){d:D}(hd:withinD 0 ((qq.length:Int)-1) d=ZV):gk [.val (hD qq),.val (.tup (as.map D.int)),.val d]=ZY (.exc ⟨"NoRoom", []⟩,[.val (hD qq),.val (.tup (as.map D.int)),.val d]):=by
 have e1:=akk h ha;have e2:=a1h hd;simp[gk,qi,e1,e2]
end
section
variable{qq:LL9}(h:Hs qq){as:List Int}(ha:Arr qq as){k:Int}(h0:0<=k)(h1:k<(qq.length:Int))
include h ha h0 h1
theorem apx:gk [.val (hD qq),.val (.tup (as.map D.int)),.val (.int k)]=ZY (.ok (.v .non),[.val (hD qq),.val (.tup (as.map D.int)),.val (.int k)]):=by
 have r1:=akk h ha;have r2:=ajc h0 h1;simp[gk,qi,r1,r2]
end
def wd(qq:LL9)(k:Int):Int:=((dr qq k).length:Int)
def acj(qq:LL9)(as:List Int)(k:Int):Int:=(dr qq k).getD ((ar as k-1) % wd qq k).toNat 0
def a4i{r:List Int}{a:Int}(h0:0<=a)(h1:a<(r.length:Int)):atI (r.map D.int) (a-1)=ZY (.int (r.getD ((a-1) % (r.length:Int)).toNat 0)):=by
 by_cases z:1<=a
 ·rw[gW (by omega) (by omega)]
  exact afo (by omega) (by omega)
 ·have:a=0:=by omega
  subst this;have e:((0:Int)-1) % (r.length:Int)=(r.length:Int)-1:=by
   have:=pG ((0:Int)-1) (r.length:Int);rw[<-this,gW (by omega) (by omega)]
   omega
  rw[e];have hn:((r.length:Int)-1).toNat=r.length-1:=by omega
  rw[hn];have hl:r.length-1<r.length:=by omega
  have h3:ixN (r.map D.int).length (0-1)=ZY (r.length-1):=by
   unfold ixN;rw[aC];have a2 : -(r.length:Int)<=(0:Int)-1:=by omega
   simp[a2];omega
  unfold atI;rw[h3];simp[aF hl]
def lasts(qq:LL9)(as:List Int):List Int:=(aV qq.length).map λ(i:Nat)=>acj qq as (i:Int)
def ou(qq:LL9)(as:List Int):(lasts qq as).length=qq.length:=by unfold lasts;rw[aC,uU]
def ase(qq:LL9)(as:List Int)(j:Nat):((aV (j+1)).map λ(i:Nat)=>acj qq as (i:Int))=((aV j).map λ(i:Nat)=>acj qq as (i:Int))++[acj qq as (j:Int)]:=by
 rw[jN,cI];rfl
section
variable{qq:LL9}(h:Hs qq){as:List Int}(ha:Arr qq as)
include h ha
theorem asf{A:D}(hA:itemsD A=ZY (as.map D.int)):aaf [.val (hD qq),.val A]=ZY (.ok (.v (.tup ((lasts qq as).map D.int))),[.val (hD qq),.val A]):=by
 have hl:=ha.len;have hm:=h.most;have hle:(as.map D.int).length<=(hDs qq).length:=by rw[w6,aC];omega
 have comp:=vm (b:=bTup 2 (kj (cz 0) (kj (cz 1) bNil))) (mc:=ret ZW) (me:=acv) (λj ys ρ=>∃(o1 o2:Sl),ρ=[o1,o2]/\ys=((aV j).map λ(i:Nat)=>acj qq as (i:Int)).map D.int)
  (l:=sy (as.map D.int) (hDs qq)) (ys:=[]) (ρ:=[.emp,.emp]) 0 ⟨.emp,.emp,rfl,rfl⟩ ?_
 ·obtain⟨ys,ρ',e6,o1,o2,rfl,rfl⟩:=comp;rw[ag8 hle,aC,cP,hl] at e6;have hc:((lasts qq as).map D.int).length<=capS:=by rw[aC,ou];exact di (by omega)
  have hle2:as.length<=(hDs qq).length:=by simpa using hle
  change compD _ _ _ _ _ _=ZY (.ok ((lasts qq as).map D.int),_) at e6
  generalize (lasts qq as).map D.int=ld at *;simp only[hD];simp[aaf,aih,hA,hle2,e6,hc]
 ·rintro j d ys ρ hd ⟨o1,o2,rfl,rfl⟩
  obtain⟨d1,d2,g1,g2,rfl⟩:=ael hd;obtain⟨r,hr,rfl⟩:=aln g2;rw[aL] at g1;obtain⟨a,ea,rfl⟩:=cN.mp g1;obtain⟨b0,b1⟩:=ha.ok j a r ea hr;have er:dr qq (j:Int)=r:=by unfold dr;rw[aZ,cM,hr];rfl
  have e3:ar as (j:Int)=a:=by unfold ar;rw[aZ,cM,ea];rfl
  have e4:=a4i b0 b1;have e5:acj qq as ((0+j:Nat):Int)=r.getD ((a-1) % (r.length:Int)).toNat 0:=by rw[cP];unfold acj wd;rw[er,e3]
  refine⟨[.val (.int a),.val (.tup (r.map D.int))],_,ZW,by simp,rfl,.inr ⟨rfl,.int (r.getD ((a-1) % (r.length:Int)).toNat 0),[.val (.int a),.val (.tup (r.map D.int))],by simp[acv,e4],_,_,rfl,?_⟩⟩
  rw[ase,cI,e5];rfl
end
noncomputable def lp(L:List Int):LL9:=L.map λy=>[y]
def aj1(L:List Int):(lp L).length=L.length:=aC ..
def a8q{L:List Int}{x:Int}(h0:0<=x)(h1:x<(L.length:Int)):dr (lp L) x=[L.getD x.toNat 0]:=by
 have hk:x.toNat<L.length:=by omega
 simp[dr,lp,hk]
structure Ways (L:List Int):Prop where
 one:1<=L.length
 most:L.length<=10
 ok:∀y∈L,-3<=y/\y<(L.length:Int)
def Ways.hs{L:List Int}(w:Ways L):Hs (lp L):=⟨by rw[aj1];exact w.one,by rw[aj1];exact w.most,λr hr=>by
 obtain⟨y,hy,rfl⟩:=bQ.mp hr;rw[aj1];exact⟨by simp,by simp,λx hx=>by rw[dO] at hx;rw[hx];exact w.ok _ hy⟩⟩
def af3{qq:LL9}(h:Hs qq){as:List Int}(ha:Arr qq as):Ways (lasts qq as):=⟨by rw[ou];exact h.one,by rw[ou];exact h.most,λy hy=>by
 rw[ou];unfold lasts at hy;obtain⟨i,hi,rfl⟩:=bQ.mp hy;have hi:=gP.mp hi;obtain⟨a1,a2,a3⟩:=h.dr (x:=(i:Int)) (by omega) (by omega)
 refine a3 _ ?_;unfold acj;have w0:0<wd qq (i:Int):=by unfold wd;omega
 have b1:=gM (ar as (i:Int)-1) w0;have hk:((ar as (i:Int)-1) % wd qq (i:Int)).toNat<(dr qq (i:Int)).length:=by unfold wd at *;omega
 rw[aZ,aF hk];exact dZ hk⟩
theorem aj0:∀(m:Nat) (l:List Int),l.Nodup->(∀x∈l,0<=x/\x<(m:Int))->l.length<=m
 | 0,l,_,h=>by
  cases l with
  |nil=>simp
  |cons x r=>have:=h x (aQ ..);omega
 |m+1,l,hn,h=>by
  have h1:(l.erase (m:Int)).length<=m:=aj0 m _ (hn.erase _) λx hx=>by
   rw[hn.mem_erase_iff] at hx;have:=h x hx.2;omega
  have h2:l.length<=(l.erase (m:Int)).length+1:=by
   rw[uV];split <;> omega
  omega
def pig(f:Nat->Int)(n:Nat)(hf:∀i,i<=n->0<=f i/\f i<(n:Int)):∃i j,i<j/\j<=n/\f i=f j:=by
 apply eH;intro H;have hn:((aV (n+1)).map f).Nodup:=by
  rw[List.Nodup,uT];refine List.Pairwise.imp_of_mem (λ{a b} ha hb hlt e=>H ⟨a,b,hlt,?_,e⟩) List.pairwise_lt_range
  have:=gP.mp hb;omega
 have:=aj0 n _ hn λx hx=>by
  obtain⟨i,hi,rfl⟩:=bQ.mp hx;have:=gP.mp hi;exact hf i (by omega)
 rw[aC,uU] at this;omega
theorem least{P:Nat->Prop}:∀n,P n->∃m,P m/\∀i<m,¬P i:=λn=>by
 induction n using Nat.strongRecOn with
 |_ n ih=>
  intro hn
  by_cases q:∃i,i<n/\P i
  ·obtain⟨i,hi,hp⟩:=q;exact ih i hi hp
  ·exact⟨n,hn,λi hi hp=>q ⟨i,hi,hp⟩⟩
def nxt(L:List Int)(p:Int):Int:=if 0<=p then L.getD p.toNat 0 else p
def itr(L:List Int)(p:Int):Nat->Int
 | 0=>p
 |t+1=>itr L (nxt L p) t
theorem wz(L:List Int):∀(s t:Nat) (p:Int),itr L p (s+t)=itr L (itr L p s) t
 | 0,t,p=>by rw[cP];rfl
 |s+1,t,p=>by
  rw[show s+1+t=(s+t)+1 by omega]
  exact wz L s t (nxt L p)
def a66{L:List Int}(w:Ways L){p:Int}(hp:p<(L.length:Int)):nxt L p<(L.length:Int):=by
 unfold nxt;split
 ·rename_i h0;have hk:p.toNat<L.length:=by omega
  rw[aZ,aF hk];exact(w.ok _ (dZ hk)).2
 ·exact hp
theorem avb{L:List Int}(w:Ways L):∀(t:Nat) {p:Int},p<(L.length:Int)->itr L p t<(L.length:Int)
 | 0,_,h=>h
 |t+1,_,h=>avb w t (a66 w h)
def ags{qq:LL9}{bs:List Int}{p:Int}(hp:p.toNat<bs.length):ar (gone qq bs p) p=(ar bs p+1) % ((dr qq p).length:Int):=by
 unfold gone;generalize (ar bs p+1) % ((dr qq p).length:Int)=z;unfold ar;simp[hp]
def akl{qq:LL9}{bs:List Int}{p x:Int}(hx:0<=x)(hp:0<=p)(hne:x≠p):ar (gone qq bs p) x=ar bs x:=by
 have:p.toNat≠x.toNat:=by omega
 unfold gone;generalize (ar bs p+1) % ((dr qq p).length:Int)=z;unfold ar;simp[aZ,aY,this]
def run(qq:LL9)(as:List Int)(k:Int):Nat->List Int×Int
 | 0=>(as,k)
 |n+1=>(gone qq (run qq as k n).1 (run qq as k n).2,led qq (run qq as k n).1 (run qq as k n).2)
section
variable{qq:LL9}(h:Hs qq){as:List Int}(ha:Arr qq as){k:Int}(h0:0<=k)(h1:k<(qq.length:Int))
include h ha h0 h1
end
def ax9{a w:Int}(h0:0<=a)(h1:a<w):((a+1) % w-1) % w=a:=by
 rcases oH (a+1) w with q |q
 ·rw[gW (by omega) q,show a+1-1=a by omega,gW h0 h1]
 ·have e0:a+1=w:=by omega
  have e:=pG (-1) w;rw[e0,Int.emod_self,show(0:Int)-1 = -1 by omega,<-e,gW (by omega) (by omega)]
  omega
def ah6{qq:LL9}{as:List Int}{i:Nat}(hi:i<qq.length):(lasts qq as)[i]? = ZY (acj qq as (i:Int)):=by
 unfold lasts;rw[aL,bV hi];rfl
section
variable{qq:LL9}(h:Hs qq){bs:List Int}(hb:Arr qq bs){p:Int}(p0:0<=p)(p1:p<(qq.length:Int))
include h hb p0 p1
theorem ash:acj qq (gone qq bs p) p=led qq bs p:=by
 have a:=hb.at p0 p1;have hl:=hb.len;unfold acj wd led;rw[ags (by omega),ax9 a.1 a.2]
theorem aj4:lasts qq (gone qq bs p)=(lasts qq bs).set p.toNat (led qq bs p):=by
 apply gU;intro i
 by_cases hi:i<qq.length
 ·rw[ah6 hi,aY]
  by_cases q:p.toNat=i
  ·rw[if_pos q,if_pos (by rw[ou];omega)]
   have:((i:Nat):Int)=p:=by omega
   rw[this,ash h hb p0 p1]
  ·rw[if_neg q,ah6 hi];unfold acj;rw[akl (by omega) p0 (by omega)]
 ·rw[bW (by rw[ou];omega),bW (by rw[cJ,ou];omega)]
end
noncomputable def code:List Int->Int
 | []=>0
 |a::r=>a+6*code r
theorem awb:∀{l:List Int},(∀a∈l,0<=a/\a<6)->0<=code l/\code l<((6 ^ l.length:Nat):Int)
 | [],_=>⟨Int.le_refl 0,by show(0:Int)<((6 ^ 0:Nat):Int);decide⟩
 |a::r,h=>by
  obtain⟨h1,h2⟩:=awb (l:=r) λx hx=>h x (aK _ hx)
  have h3:=h a (aQ ..);have e:6 ^ (a::r).length=6*6 ^ r.length:=by rw[bG,Nat.pow_succ,jK]
  rw[e];show 0<=a+6*code r/\a+6*code r<_;constructor <;> omega
theorem code_inj:∀{l m:List Int},l.length=m.length->(∀a∈l,0<=a/\a<6)->(∀a∈m,0<=a/\a<6)->code l=code m->l=m
 | [],[],_,_,_,_=>rfl
 | [],_::_,h,_,_,_=>by simp at h
 |_::_,[],h,_,_,_=>by simp at h
 |a::r,b::t,h,h1,h2,e=>by
  have a1:=h1 a (aQ ..);have b1:=h2 b (aQ ..);have e:a+6*code r=b+6*code t:=e;have hab:a=b:=by omega
  have hr:code r=code t:=by omega
  rw[hab,code_inj (by simpa using h) (λx hx=>h1 x (aK _ hx)) (λx hx=>h2 x (aK _ hx)) hr]
def apt{qq:LL9}(h:Hs qq){bs:List Int}(hb:Arr qq bs):∀a∈bs,0<=a/\a<6:=λa ha=>by
 obtain⟨i,hi,rfl⟩:=lE.mp ha;have hr:i<qq.length:=by rw[<-hb.len];exact hi
 have h1:=hb.ok i bs[i] qq[i] (aF hi) (aF hr);have h2:=(h.room qq[i] (dZ hr)).2.1;omega
theorem ahr(qq:LL9)(as:List Int)(k:Int){i j:Nat}(e:run qq as k i=run qq as k j):∀m,run qq as k (i+m)=run qq as k (j+m)
 | 0=>e
 |m+1=>by
  have ih:=ahr qq as k e m;show(gone qq (run qq as k (i+m)).1 (run qq as k (i+m)).2,led qq (run qq as k (i+m)).1 (run qq as k (i+m)).2)=(gone qq (run qq as k (j+m)).1 (run qq as k (j+m)).2,led qq (run qq as k (j+m)).1 (run qq as k (j+m)).2);rw[ih]
def arw{qq:LL9}(h:Hs qq)(f:Nat->List Int×Int)(hf:∀i,i<=10*6 ^ qq.length->Arr qq (f i).1/\0<=(f i).2/\(f i).2<(qq.length:Int)):∃i j,i<j/\j<=10*6 ^ qq.length/\f i=f j:=by
 have hm:=h.most;have cd:∀i,i<=10*6 ^ qq.length->0<=code (f i).1/\code (f i).1<((6 ^ qq.length:Nat):Int):=λi hi=>by
  have a:=(hf i hi).1;have:=awb (apt h a);rw[a.len] at this;exact this
 obtain⟨i,j,hij,hj,e⟩:=pig (λi=>10*code (f i).1+(f i).2) (10*6 ^ qq.length) λi hi=>by
  have a:=hf i hi;have b:=cd i hi;constructor <;> omega
 have ai:=hf i (by omega)
 have aj:=hf j hj;have e1:(f i).2=(f j).2:=by omega
 have e2:(f i).1=(f j).1:=code_inj (by rw[ai.1.len,aj.1.len]) (apt h ai.1) (apt h aj.1) (by omega)
 exact⟨i,j,hij,hj,Prod.ext e2 e1⟩
theorem Sh.dr{qq:LL9}(s:Sh qq){x:Int}{d:Int}(hd:d∈dr qq x):0<=d:=by
 unfold My.dr at hd;rw[aZ] at hd;cases e:qq[x.toNat]? with
 |none=>rw[e] at hd;cases hd
 |some r=>
  rw[e] at hd;exact s r (cD e) d hd
def aun{L:List Int}{p d:Int}(p0:0<=p)(p1:p<(L.length:Int))(x:Int):nxt (L.set p.toNat d) x=if x=p then d else nxt L x:=by
 unfold nxt
 by_cases hx:x=p
 ·subst hx;have hk:x.toNat<L.length:=by omega
  rw[if_pos p0,if_pos rfl,aZ,aY];simp[hk]
 ·rw[if_neg hx]
  by_cases h0:0<=x
  ·have:p.toNat≠x.toNat:=by omega
   rw[if_pos h0,if_pos h0,aZ,aY,if_neg this,<-aZ]
  ·rw[if_neg h0,if_neg h0]
def ah9(L:List Int)(x:Int)(m:Nat):itr L x (m+1)=nxt L (itr L x m):=wz L m 1 x
theorem au9{L:List Int}{p d:Int}(p0:0<=p)(p1:p<(L.length:Int)):∀(m:Nat) {x:Int},(∀i,i<m->itr L x i≠p)->itr (L.set p.toNat d) x m=itr L x m
 | 0,_,_=>rfl
 |m+1,x,h=>by
  have h0:x≠p:=h 0 (by omega)
  show itr (L.set p.toNat d) (nxt (L.set p.toNat d) x) m=itr L (nxt L x) m;rw[aun p0 p1,if_neg h0];exact au9 p0 p1 m λi hi=>h (i+1) (by omega)
def am4{L:List Int}{p d x:Int}(p0:0<=p)(p1:p<(L.length:Int))(h:∃m,itr L x m=p):∃m,itr (L.set p.toNat d) x m=d:=by
 obtain⟨m0,e0⟩:=h;obtain⟨m,e,hmin⟩:=least (P:=λm=>itr L x m=p) m0 e0
 refine⟨m+1,?_⟩;rw[ah9,au9 p0 p1 m hmin,e,aun p0 p1,if_pos rfl]
theorem aac{qq:LL9}{a b c:Int}(h1:Rch qq a b)(h2:Rch qq b c):Rch qq a c:=by
 induction h2 with
 |base=>exact h1
 |step r h0 hd ih=>exact .step ih h0 hd
def ao6{qq:LL9}{as:List Int}(ha:Arr qq as){k:Int}(h0:0<=k)(h1:k<(qq.length:Int)):led qq as k∈dr qq k:=by
 have a:=ha.at h0 h1;unfold led;have hk:(ar as k).toNat<(dr qq k).length:=by omega
 rw[aZ,aF hk];exact dZ hk
structure InG (qq:LL9) (as:List Int) (k:Int):Prop where
 back:∀x,Rch qq k x->Rch qq x k
 lead:∀x,Rch qq k x->∃m,itr (lasts qq as) x m=k
section
variable{qq:LL9}(h:Hs qq)(sh:Sh qq)
include h sh
theorem a7q{as:List Int}(ha:Arr qq as){k:Int}(h0:0<=k)(h1:k<(qq.length:Int)):0<=led qq as k/\led qq as k<(qq.length:Int) :=
 ⟨sh.dr (ao6 ha h0 h1),(a7r h ha h0 h1).2⟩
theorem InG.step{as:List Int}(ha:Arr qq as){k:Int}(h0:0<=k)(h1:k<(qq.length:Int))(g:InG qq as k):InG qq (gone qq as k) (led qq as k):=by
 have rk:Rch qq k (led qq as k):=.step .base h0 (ao6 ha h0 h1);refine⟨λx hx=>aac (g.back x (aac rk hx)) rk,λx hx=>?_⟩
 rw[aj4 h ha h0 h1];exact am4 h0 (by rw[ou];exact h1) (g.lead x (aac rk hx))
variable{as:List Int}(ha:Arr qq as){k:Int}(h0:0<=k)(h1:k<(qq.length:Int))
include ha h0 h1
theorem srun:∀t:Nat,Arr qq (run qq as k t).1/\0<=(run qq as k t).2/\(run qq as k t).2<(qq.length:Int)
 | 0=>⟨ha,h0,h1⟩
 |t+1=>by
  obtain⟨a1,a2,a3⟩:=srun t;exact⟨ayu h a1 a2 a3,a7q h sh a1 a2 a3⟩
theorem ak0(i:Nat):∀m:Nat,Rch qq (run qq as k i).2 (run qq as k (i+m)).2
 | 0=>.base
 |m+1=>by
  obtain⟨a1,a2,a3⟩:=srun h sh ha h0 h1 (i+m);exact .step (ak0 i m) a2 (ao6 a1 a2 a3)
theorem awy{x:Int}(hx:0<=x)(t:Nat):ar (run qq as k (t+1)).1 x=if x=(run qq as k t).2 then (ar (run qq as k t).1 x+1) % ((dr qq x).length:Int) else ar (run qq as k t).1 x:=by
 obtain⟨a1,a2,a3⟩:=srun h sh ha h0 h1 t;show ar (gone qq (run qq as k t).1 (run qq as k t).2) x=_
 by_cases e:x=(run qq as k t).2
 ·rw[if_pos e,e];exact ags (by have:=a1.len;omega)
 ·rw[if_neg e];exact akl hx a2 e
theorem apu{x:Int}(hx:0<=x)(i:Nat):∀d:Nat,(∀j,i<=j->j<i+d->(run qq as k j).2≠x)->ar (run qq as k (i+d)).1 x=ar (run qq as k i).1 x
 | 0,_=>rfl
 |d+1,q=>by
  have e:=awy h sh ha h0 h1 hx (i+d);rw[if_neg (λz=>q (i+d) (by omega) (by omega) z.symm)] at e
  rw[show i+(d+1)=i+d+1 by omega,e]
  exact apu hx i d λj j1 j2=>q j j1 (by omega)
variable{T:Nat}(hT:1<=T)(eT:run qq as k T=(as,k))
include hT eT
theorem per(i:Nat):run qq as k (i+T)=run qq as k i:=by
 have:=ahr qq as k (i:=T) (j:=0) eT i;rw[cP,Nat.add_comm] at this;exact this
theorem aop:∀n:Nat,run qq as k (n*T)=(as,k)
 | 0=>by rw[Nat.zero_mul];rfl
 |n+1=>by rw[nW,per h sh ha h0 h1 hT eT];exact aop n
theorem turns{x:Int}(hx:0<=x){i:Nat}(hi:(run qq as k i).2=x):∀n:Nat,∃i',(run qq as k i').2=x/\ar (run qq as k i').1 x=(ar (run qq as k i).1 x+n) % ((dr qq x).length:Int)
 | 0=>by
  obtain⟨a1,a2,a3⟩:=srun h sh ha h0 h1 i;rw[hi] at a2 a3;have b:=a1.at a2 a3;exact⟨i,hi,by rw[show((0:Nat):Int)=0 from rfl,kY,gW b.1 b.2]⟩
 |n+1=>by
  obtain⟨i',e1,e2⟩:=turns hx hi n;obtain⟨d,⟨d1,d2⟩,dm⟩:=least (P:=λd=>1<=d/\(run qq as k (i'+d)).2=x) T ⟨hT,by rw[per h sh ha h0 h1 hT eT];exact e1⟩
  refine⟨i'+d,d2,?_⟩;have s1:=awy h sh ha h0 h1 hx i';rw[if_pos e1.symm,e2] at s1;have s2:=apu h sh ha h0 h1 hx (i'+1) (d-1) λj j1 j2 z=>dm (j-i') (by omega) ⟨by omega,by rw[show i'+(j-i')=j by omega];exact z⟩
  rw[show i'+1+(d-1)=i'+d by omega,s1] at s2
  rw[s2,show((n+1:Nat):Int)=(n:Int)+1 by omega,Int.emod_add_emod]
  congr 1
  omega
theorem ard{x:Int}(r:Rch qq k x):∃i,(run qq as k i).2=x:=by
 induction r with
 |base=>exact⟨0,rfl⟩
 | @step x d r q hd ih=>
  obtain⟨i,hi⟩:=ih;obtain⟨a1,a2,a3⟩:=srun h sh ha h0 h1 i;rw[hi] at a2 a3;have b:=a1.at a2 a3;obtain⟨j,hj,ej⟩:=lE.mp hd;obtain⟨i',e1,e2⟩:=turns h sh ha h0 h1 hT eT q hi (j+(dr qq x).length-(ar (run qq as k i).1 x).toNat);have e3:ar (run qq as k i').1 x=(j:Int):=by
   rw[e2,show ar (run qq as k i).1 x+((j+(dr qq x).length-(ar (run qq as k i).1 x).toNat:Nat):Int)=(j:Int)+((dr qq x).length:Int) by omega,pG]
   exact gW (by omega) (by omega)
  refine⟨i'+1,?_⟩;show led qq (run qq as k i').1 (run qq as k i').2=d;rw[e1];unfold led;rw[e3,cM,aZ,aF (by omega)]
  exact ej
theorem asw:InG qq as k:=by
 have led:∀t j:Nat,j<=t->∃m,itr (lasts qq (run qq as k t).1) (run qq as k j).2 m=(run qq as k t).2:=by
  intro t
  induction t with
  |zero=>intro j hj;exact⟨0,by rw[show j=0 by omega];rfl⟩
  |succ t ih=>
   intro j hj;obtain⟨a1,a2,a3⟩:=srun h sh ha h0 h1 t
   by_cases e:j=t+1
   ·exact⟨0,by rw[e];rfl⟩
   ·have z:=am4 (d:=(run qq as k (t+1)).2) a2 (by rw[ou];exact a3) (ih j (by omega))
    have l:=aj4 h a1 a2 a3;show ∃m,itr (lasts qq (gone qq (run qq as k t).1 (run qq as k t).2)) (run qq as k j).2 m=_
    rw[l];exact z
 refine⟨λx hx=>?_,λx hx=>?_⟩
 ·obtain⟨i,rfl⟩:=ard h sh ha h0 h1 hT eT hx;have:=ak0 h sh ha h0 h1 i (i*T+T-i);have e:i+(i*T+T-i)=(i+1)*T:=by
   have:i<=i*T:=sU i (by omega)
   rw[nW];omega
  rw[e,aop h sh ha h0 h1 hT eT] at this;exact this
 ·obtain⟨i,rfl⟩:=ard h sh ha h0 h1 hT eT hx;have:=led ((i+1)*T) i (by
   have:i<=i*T:=sU i (by omega)
   rw[nW];omega)
  rw[aop h sh ha h0 h1 hT eT] at this;exact this
end
def agt(qq:LL9):Bool:=qq.all λr=>decide (0<=minI r)
def a87{C:M Rv}{s:Sl}{f:List Int->Bool}{qq:LL9}(e:C [s]=ZY (.ok (.fr (qq.map λr=>D.bl (f r))),[s])):fnD 1 1 (dRet (iu (g1 gAll) (bh (M.d C) mNil))) [s]=ZY (.ok (.v (.bl (qq.all f))),[s]):=by
 simp[e,pY]
def aj5{qq:LL9}(h:Hs qq):acp [.val (hD qq)]=ZY (.ok (.v (.bl (agt qq))),[.val (hD qq)]):=by
 have ef:compD (cz 0) (ret ZW) adg (hDs qq) [] [.emp]=ZY (.ok (qq.map λr=>.bl (decide (0<=minI r))),aa9 .emp (hDs qq)::[]):=by
  rw[vh (f:=λd=>match d with |.tup l=>.bl (decide (0<=minI ((qp l).getD []))) |_=>.non)]
  ·simp[hDs,pY]
  ·intro d hd;obtain⟨r,hr,rfl⟩:=bQ.mp hd;have hne:r≠[]:=λz=>by have:=(h.room r hr).1;rw[z] at this;simp at this
   simp[adg,aqx hne]
 have hc:(qq.map λr=>D.bl (decide (0<=minI r))).length<=capS:=by rw[aC];exact di (cW h.most (by decide))
 have e1:=ayh (src:=[ZX]) (mi:=qm (mVar 0)) (ρ:=[.val (hD qq)]) (ρ1:=[.val (hD qq)]) (b:=cz 0) (mc:=ret ZW) (me:=adg) (l:=hDs qq) rfl rfl ef hc;unfold acp ana;exact a87 e1
theorem aus:∀{r:List Int},r≠[]->minI r∈r
 | [],h=>absurd rfl h
 |x::r,_=>by
  have:∀(r:List Int) (x:Int),r.foldl (λm y=>if decide (y<m)=ZW then y else m) x∈x::r:=by
   intro r
   induction r with
   |nil=>intro x;simp
   |cons z t ih=>
    intro x;rw[dF];have:=ih (if decide (z<x)=ZW then z else x)
    rcases bF.mp this with e |e
    ·rw[e];split <;> simp
    ·exact aK _ (aK _ e)
  exact this r x
def axf{qq:LL9}(h:Hs qq)(s:Sh qq):agt qq=ZW:=by
 unfold agt;rw[bK];intro r hr;have hne:r≠[]:=λz=>by have:=(h.room r hr).1;rw[z] at this;simp at this
 exact decide_eq_true (s r hr _ (aus hne))
def ajb{qq:LL9}(h:Hs qq)(s:Sh qq):ir [.val (hD qq)]=ZY (.ok (.v .non),[.val (hD qq)]):=by
 have e:=aj5 h;rw[axf h s] at e;simp[ir,xf,e]
def addD(ms:List Int)(d:Int):List Int:=if 0<=d/\d∉ms then ms++[d] else ms
def azl(ms:List Int)(d x:Int):x∈addD ms d↔x∈ms∨(x=d/\0<=d):=by
 unfold addD;split
 ·rename_i h;simp only[cX,dO];constructor
  ·rintro(q |q)
   ·exact .inl q
   ·exact .inr ⟨q,h.1⟩
  ·rintro(q |⟨q,_⟩)
   ·exact .inl q
   ·exact .inr q
 ·rename_i h;constructor
  ·exact .inl
  ·rintro(q |⟨rfl,q⟩)
   ·exact q
   ·exact eH λz=>h ⟨q,z⟩
def asu{ms:List Int}(h:ms.Nodup)(d:Int):(addD ms d).Nodup:=by
 unfold addD;split
 ·rename_i q;rw[pX];refine⟨h,by simp,λx hx y hy e=>?_⟩
  rw[dO] at hy;subst hy;subst e;exact q.2 hx
 ·exact h
def azk(ms:List Int)(d:Int):∃t,addD ms d=ms++t:=by
 unfold addD;split
 ·exact⟨_,rfl⟩
 ·exact⟨[],by simp⟩
def azm(ms:List Int)(d:Int):(addD ms d).length<=ms.length+1:=by
 unfold addD;split <;> simp
theorem afd:∀(ds ms:List Int) (x:Int),x∈ds.foldl addD ms↔x∈ms∨(x∈ds/\0<=x)
 | [],ms,x=>by simp
 |d::r,ms,x=>by
  rw[dF,afd r,azl];simp only[bF];constructor
  ·rintro((q |⟨rfl,q⟩) |⟨q,w⟩)
   ·exact .inl q
   ·exact .inr ⟨.inl rfl,q⟩
   ·exact .inr ⟨.inr q,w⟩
  ·rintro(q |⟨rfl |q,w⟩)
   ·exact .inl (.inl q)
   ·exact .inl (.inr ⟨rfl,w⟩)
   ·exact .inr ⟨q,w⟩
theorem akd:∀(ds:List Int) {ms:List Int},ms.Nodup->(ds.foldl addD ms).Nodup
 | [],_,h=>h
 |d::r,_,h=>akd r (asu h d)
theorem alu:∀(ds ms:List Int),∃t,ds.foldl addD ms=ms++t
 | [],ms=>⟨[],by simp⟩
 |d::r,ms=>by
  obtain⟨t,e⟩:=azk ms d;obtain⟨u,e2⟩:=alu r (addD ms d);exact⟨t++u,by rw[dF,e2,e,cU]⟩
theorem akg(a b c e:Sl):∀(ds ms:List Int) (o:Sl),ms.length+ds.length<=100->∃o',forD (cz 5) zz (ds.map D.int) [a,b,.own ZX (ms.map D.int),c,e,o]=ZY (.nx,[a,b,.own ZX ((ds.foldl addD ms).map D.int),c,e,o'])
 | [],ms,o,_=>⟨o,rfl⟩
 |d::r,ms,o,hl=>by
  rw[bG] at hl;have hal:=azm ms d;obtain⟨o',q⟩:=akg a b c e r (addD ms d) (.val (.int d)) (by omega)
  refine⟨o',?_⟩;have hc:ms.length<capS:=by rw[a4b];omega
  have es:zz [a,b,.own ZX (ms.map D.int),c,e,.val (.int d)]=ZY (.nx,[a,b,.own ZX ((addD ms d).map D.int),c,e,.val (.int d)]):=by
   have ei:=ail ZW d ms
   by_cases h0:0<=d
   ·by_cases h1:d∈ms
    ·have:addD ms d=ms:=if_neg λz=>z.2 h1
     rw[this];simp[zz,h0,ei,h1]
    ·have:addD ms d=ms++[d]:=if_pos ⟨h0,h1⟩;rw[this,cI];simp[zz,h0,ei,h1,hc]
   ·have:addD ms d=ms:=if_neg λz=>h0 z.1
    rw[this];simp[zz,h0]
  rw[bB,ph,dF];simp only[ag7,mF,mD];rw[es];exact q
def axe{l:List Int}(h:l.Nodup):(sortI l).Pairwise (· < ·):=by
 have h1:=ab4 l;have h2:(sortI l).Nodup:=(sortI_perm l).nodup_iff.mpr h;have:=h1.and h2;exact this.imp λ⟨a,b⟩=>by omega
structure Come (qq:LL9) (a:Int) (cs:List Int):Prop where
 lt:cs.Pairwise (· < ·)
 mem:∀x,x∈cs↔Rch qq a x/\0<=x
 len:cs.length<=10
def agq{qq:LL9}(h:Hs qq){a:Int}(ha:0<=a/\a<(qq.length:Int)) :
  ∃cs:List Int,rn [.val (hD qq),.val (.int a)]=ZY (.ok (.v (.tup (cs.map D.int))),[.val (hD qq),.val (.int a)])/\Come qq a cs:=by
 have hm:=h.most;have loop:=vp (c:=aa2) (g:=ac5)
  (λk ρ=>∃(ms:List Int) (i:Nat) (o4 o5:Sl),ρ=[.val (hD qq),.val (.int a),.own ZX (ms.map D.int),.val (.int (i:Nat)),o4,o5]/\k=20-i/\i<=ms.length/\ms.Nodup/\a∈ms/\(∀x∈ms,Rch qq a x/\0<=x)/\∀j (hj:j<ms.length),j<i->∀d∈dr qq ms[j],0<=d->d∈ms)
  (λρ=>∃(ms:List Int) (o3 o4 o5:Sl),ρ=[.val (hD qq),.val (.int a),.own ZX (ms.map D.int),o3,o4,o5]/\ms.Nodup/\∀x,x∈ms↔Rch qq a x/\0<=x) ?_ fuel 20 [.val (hD qq),.val (.int a),.own ZX ([a].map D.int),.val (.int ((0:Nat):Int)),.emp,.emp] (jL (by decide) ag1)
  ⟨[a],0,.emp,.emp,rfl,rfl,by simp,by simp,by simp,by simp;exact⟨.base,ha.1⟩,λj hj hlt=>absurd hlt (vP _)⟩
 ·obtain⟨ρ',e,ms,o3,o4,o5,rfl,hn,hm'⟩:=loop;have e:whileD aa2 ac5 fuel [.val (hD qq),.val (.int a),.own ZX [.int a],.val (.int 0),.emp,.emp]=ZY (.nx,[.val (hD qq),.val (.int a),.own ZX (ms.map D.int),o3,o4,o5]):=e;have hlen:ms.length<=10:=by
   have:=ah0 (qq.length+3) ([-3,-2,-1]++ms) (by
    rw[pX];refine⟨by decide,hn,λx hx y hy e=>?_⟩
    subst e;have:=((hm' x).mp hy).2;simp at hx;omega) (λx hx=>by
    rcases cX.mp hx with hx |hx
    ·simp at hx;omega
    ·have:=(hm' x).mp hx;have:=Rch.range h ha this.1;omega)
   simp at this;omega
  have es:=anf (ns:=ms) (by omega)
  have hp:=sortI_perm ms;refine⟨sortI ms,?_,axe hn,λx=>by rw[hp.mem_iff];exact hm' x,by rw[hp.length_eq];exact hlen⟩
  have er:gj [.val (hD qq),.val (.int a)]=ZY (.ok (.v .non),[.val (hD qq),.val (.int a)]):=by
   have h1:a<=(qq.length:Int)-1:=by omega
   simp[gj,su,withinD,ha.1,h1]
  simp only[hD] at e er ⊢
  simp[rn,anb,er,e,es]
 ·rintro k ρ ⟨ms,i,o4,o5,rfl,rfl,hi,hn,h0,hr,hc⟩
  have hz:=a1j h ha hn λx hx=>(hr x hx).1
  by_cases hlt:i<ms.length
  ·obtain⟨q1,q2⟩:=hr _ (dZ hlt);have q3:=(Rch.range h ha q1).2;obtain⟨d1,d2,d3⟩:=h.dr q2 q3;have er:=apq q2 q3;have ei:=a85 hlt;obtain⟨o5',el⟩:=akg (.val (hD qq)) (.val (.int a)) (.val (.int (i:Nat))) (.val (.tup ((dr qq ms[i]).map D.int))) (dr qq ms[i]) ms o5 (by omega)
   refine .inr ⟨[.val (hD qq),.val (.int a),.own ZX (ms.map D.int),.val (.int (i:Nat)),o4,o5],[.val (hD qq),.val (.int a),.own ZX (((dr qq ms[i]).foldl addD ms).map D.int),.val (.int ((i+1:Nat):Int)),.val (.tup ((dr qq ms[i]).map D.int)),o5'],20-(i+1),?_,?_,by omega,(dr qq ms[i]).foldl addD ms,i+1,_,_,rfl,rfl,?_,akd _ hn,(afd _ _ _).mpr (.inl h0),λx hx=>?_,λj hj hji d hd hd0=>?_⟩
   ·have:(i:Int)<(ms.length:Int):=by omega
    simp[aa2,this]
   ·have hcast:((i+1:Nat):Int)=(i:Int)+1:=by omega
    rw[hcast];simp only[hD] at el ⊢
    generalize (dr qq ms[i]).map D.int=dd at er el;simp[ac5,ei,er,el]
   ·obtain⟨t,et⟩:=alu (dr qq ms[i]) ms;rw[et,cC];omega
   ·rcases(afd _ _ _).mp hx with hx |⟨hx,hx0⟩
    ·exact hr x hx
    ·exact⟨.step q1 q2 hx,hx0⟩
   ·obtain⟨t,et⟩:=alu (dr qq ms[i]) ms;have hjl:j<ms.length:=by omega
    have ej:((dr qq ms[i]).foldl addD ms)[j]=ms[j]:=by
     simp only[et];exact List.getElem_append_left hjl
    rw[ej] at hd;rcases gH j i with z |z
    ·exact(afd _ _ _).mpr (.inl (hc j hjl z d hd hd0))
    ·have:j=i:=by omega
     subst this;exact(afd _ _ _).mpr (.inr ⟨hd,hd0⟩)
  ·refine .inl ⟨[.val (hD qq),.val (.int a),.own ZX (ms.map D.int),.val (.int (i:Nat)),o4,o5],?_,ms,_,_,_,rfl,hn,λx=>⟨λhx=>hr x hx,λ⟨hx,hx0⟩=>?_⟩⟩
   ·have:¬(i:Int)<(ms.length:Int):=by omega
    simp[aa2,this]
   ·exact aom h0 (λy hy d hd hd0=>by
     obtain⟨j,hj,rfl⟩:=lE.mp hy;exact hc j hj (by omega) d hd hd0) hx hx0
open Classical in
noncomputable def mj(qq:LL9)(a:Int):List Int:=if q:Hs qq/\0<=a/\a<(qq.length:Int) then (agq q.1 q.2).choose else []
section
variable{qq:LL9}(h:Hs qq){a:Int}(ha:0<=a/\a<(qq.length:Int))
include h ha
theorem qj:rn [.val (hD qq),.val (.int a)]=ZY (.ok (.v (.tup ((mj qq a).map D.int))),[.val (hD qq),.val (.int a)])/\Come qq a (mj qq a):=by
 unfold mj;rw[dif_pos ⟨h,ha⟩];exact(agq h ha).choose_spec
theorem ur:∀x∈mj qq a,0<=x/\x<(qq.length:Int):=λx hx=>by
 obtain⟨q,q0⟩:=((qj h ha).2.mem x).mp hx;exact⟨q0,(Rch.range h ha q).2⟩
end
def ape(neg:Bool)(a:Int)(ns:List Int):gIn neg (.int a) (.tup (ns.map D.int))=ZY (.v (.bl (if neg then !decide (a∈ns) else decide (a∈ns)))):=ail neg a ns
noncomputable def abb(qq:LL9)(k:Int):List Int:=(mj qq k).filter λx => !decide (k∈mj qq x)
section
variable{qq:LL9}(h:Hs qq){k:Int}(hk:0<=k/\k<(qq.length:Int))
include h hk
theorem acn:ue [.val (hD qq),.val (.int k)]=ZY (.ok (.fr ((abb qq k).map D.int)),[.val (hD qq),.val (.int k)]):=by
 obtain⟨e1,C⟩:=qj h hk;have ef:compD (cz 0) ac1 acx ((mj qq k).map D.int) [] [.emp,.val (.int k),.val (hD qq)]=ZY (.ok ((abb qq k).map D.int),aa9 .emp ((mj qq k).map D.int)::[.val (.int k),.val (hD qq)]):=by
  rw[uq (p:=λd=>match d with |.int x => !decide (k∈mj qq x) |_=>ZV) (f:=λd=>d)]
  ·rw[bO,qF,rA];rfl
  ·intro d hd;obtain⟨x,hx,rfl⟩:=bQ.mp hd;have hr:=ur h hk x hx;obtain⟨e2,_⟩:=qj h hr;have e3:=ape ZW k (mj qq x);simp[ac1,e2,e3]
  ·intro d hd _;obtain⟨x,hx,rfl⟩:=bQ.mp hd;simp[acx]
 have hc:((abb qq k).map D.int).length<=capS:=by
  rw[aC];exact di (cW (kW _ _) (cW C.len (by decide)))
 generalize (abb qq k).map D.int=gg at *;simp[ue,aij,e1,ef,hc]
theorem u6(sh:Sh qq){x:Int}:x∈mj qq k↔Rch qq k x:=by
 obtain⟨_,C⟩:=qj h hk;rw[C.mem];refine⟨λq=>q.1,λq=>⟨q,?_⟩⟩
 cases q with
 |base=>exact hk.1
 |step r h0 hd=>exact sh.dr hd
theorem zu(sh:Sh qq):abb qq k=[]↔∀x,Rch qq k x->Rch qq x k:=by
 unfold abb;rw[List.filter_eq_nil_iff];constructor
 ·intro q x hx;have hm:=(u6 h hk sh).mpr hx;have:=q x hm;have hr:=ur h hk x hm;exact(u6 h hr sh).mp (by simpa using this)
 ·intro q x hx;have hr:=ur h hk x hx;have:=(u6 h hr sh).mpr (q x ((u6 h hk sh).mp hx));simp[this]
end
def a3b(l:List Int)(x:Int):atI ((l++[x]).map D.int) (-1)=ZY (.int x):=by
 unfold atI;have:ixN ((l++[x]).map D.int).length (-1)=ZY l.length:=by
  unfold ixN;rw[aC,cC];simp;omega
 rw[this];simp
theorem avt(r:List Int):∀x:Int,r.foldl (λm y=>if decide (y<m)=ZW then y else m) x∈x::r:=by
 induction r with
 |nil=>intro x;simp
 |cons z t ih=>
  intro x;rw[dF];have:=ih (if decide (z<x)=ZW then z else x)
  rcases bF.mp this with e |e
  ·rw[e];split <;> simp
  ·exact aK _ (aK _ e)
theorem ayb{ns:List Int}(h:ns≠[]):minI ns∈ns:=by
 cases ns with
 |nil=>exact absurd rfl h
 |cons x r=>exact avt r x
def ixm(ns:List Int):Nat:=((ns.map D.int).findIdx? λy=>eqD y (.int (minI ns))).getD 0
def rotm(ns:List Int):List Int:=ns.drop (ixm ns)++ns.take (ixm ns)
theorem avk{ns:List Int}(h:ns≠[]):akc (.lst (ns.map D.int)) [.int (minI ns)]=ZY (.int (ixm ns:Int))/\ixm ns<=ns.length:=by
 have hm:=ayb h;have h1:=ajz 30 ns;cases e:(ns.map D.int).findIdx? λy=>eqD y (.int (minI ns)) with
 |none=>
  rw[rW] at e;have:=e (.int (minI ns)) (bQ.mpr ⟨_,hm,rfl⟩);rw[alw] at this;simp at this
 |some i=>
  have hi:=(jQ.mp e).1;rw[aC] at hi;have ei:ixm ns=i:=by unfold ixm;rw[e];rfl
  rw[ei];refine⟨?_,by omega⟩
  have ho:okD 30 (D.int (minI ns))=ZW:=rfl;simp only[akc,ho,h1,pI,if_true,e];rfl
def ava{L:List Int}(w:Ways L){s:Int}(hs:s∈zr (lp L))(m:Nat):0<=itr L s m/\itr L s m<(L.length:Int):=by
 have tI:zr (lp L)=(upto L.length).filter (caught (lp L)):=by unfold zr;rw[aj1]
 rw[tI] at hs;obtain⟨a1,a2⟩:=fL.mp hs;have a0:=agy a1;have hc:=(adi _ _).mp a2;have hr:∀m:Nat,Rch (lp L) s (itr L s m):=λm=>by
  induction m with
  |zero=>exact .base
  |succ m ih=>
   have h0:=hc _ ih;have hl:=avb w m a0.2;rw[wz];refine .step ih h0 ?_;rw[a8q h0 hl,dO];show nxt L (itr L s m)=_;exact if_pos h0
 exact⟨hc _ (hr m),avb w m a0.2⟩
def ayo(L:List Int)(s:Int)(m:Nat)(h:0<=itr L s m):itr L s (m+1)=L.getD (itr L s m).toNat 0:=by
 rw[wz];show nxt L (itr L s m)=_;exact if_pos h
def a5o{L:List Int}(w:Ways L){s:Int}(hs:s∈zr (lp L)):∃T,T<L.length/\itr L (itr L s L.length) (T+1)=itr L s L.length/\∀i,1<=i->i<=T->itr L (itr L s L.length) i≠itr L s L.length:=by
 obtain⟨i,j,hij,hj,e⟩:=pig (λm=>itr L s m) L.length λm _=>ava w hs m
 have ed:itr L (itr L s L.length) (j-i)=itr L s L.length:=by
  rw[<-wz,show L.length+(j-i)=j+(L.length-i) by omega,wz,<-e,<-wz,show i+(L.length-i)=L.length by omega]
 obtain⟨T,hT,hl⟩:=least (P:=λT=>itr L (itr L s L.length) (T+1)=itr L s L.length) (j-i-1) (by
  show itr L (itr L s L.length) (j-i-1+1)=_;rw[show j-i-1+1=j-i by omega]
  exact ed)
 refine⟨T,?_,hT,λm m1 m2 z=>?_⟩
 ·rcases gH (j-i-1) T with q |q
  ·have:=hl (j-i-1) q;rw[show j-i-1+1=j-i by omega] at this
   exact absurd ed this
  ·omega
 ·have:=hl (m-1) (by omega)
  rw[show m-1+1=m by omega] at this
  exact this z
def rg(L:List Int)(p:Int)(t:Nat):List Int:=(aV (t+1)).map λi=>itr L p i
def atu(L:List Int)(p:Int)(t:Nat):rg L p (t+1)=rg L p t++[itr L p (t+1)]:=by
 unfold rg;rw[jN,cI];rfl
def atv(L:List Int)(p:Int)(t:Nat):(rg L p t).length=t+1:=by unfold rg;simp
theorem axi(L:List Int)(p:Int):∀t:Nat,∃l,rg L p t=l++[itr L p t]
 | 0=>⟨[],rfl⟩
 |t+1=>⟨rg L p t,atu L p t⟩
section
variable{L:List Int}(w:Ways L)
include w
variable{s:Int}(hs:s∈zr (lp L)){T:Nat}(hT:T<L.length)(eT:itr L (itr L s L.length) (T+1)=itr L s L.length)(hl:∀i,1<=i->i<=T->itr L (itr L s L.length) i≠itr L s L.length)
include hs
theorem a0t(m:Nat):atI (L.map D.int) (itr L s m)=ZY (.int (itr L s (m+1))):=by
 have h:=ava w hs m;rw[ayo L s m h.1];exact afo h.1 h.2
include hT eT hl
theorem ami:xm [.val (.tup (L.map D.int)),.val (.int s)]=ZY (.ok (.v (.tup ((rotm (rg L (itr L s L.length) T)).map D.int))),[.val (.tup (L.map D.int)),.val (.int s)]):=by
 have hm:=w.most;have loop:=abr (b:=cz 3) (g:=ack) (λi ρ=>∃o3:Sl,ρ=[.val (.tup (L.map D.int)),.val (.int s),.val (.int (itr L s i)),o3,.emp,.emp])
  (l:=rangeD 0 L.length) (ρ:=[.val (.tup (L.map D.int)),.val (.int s),.val (.int s),.emp,.emp,.emp]) 0 ⟨.emp,rfl⟩ ?_
 ·have rl:(rangeD 0 L.length).length=L.length:=by simp[rangeD]
  rw[rl,cP] at loop;obtain⟨ρ',e,o3,rfl⟩:=loop;generalize hp:itr L s L.length=p at *;have at2:∀m,atI (L.map D.int) (itr L p m)=ZY (.int (itr L p (m+1))):=λm=>by
   have:=a0t w hs (L.length+m);rw[wz,hp,show L.length+m+1=L.length+(m+1) by omega,wz,hp] at this
   exact this
  have loop2:=vp (c:=aaj) (g:=ab2)
   (λn ρ=>∃t:Nat,t<=T/\n=T-t/\ρ=[.val (.tup (L.map D.int)),.val (.int s),.val (.int p),o3,.own ZX ((rg L p t).map D.int),.emp])
   (λρ=>ρ=[.val (.tup (L.map D.int)),.val (.int s),.val (.int p),o3,.own ZX ((rg L p T).map D.int),.emp])
   ?_ fuel T [.val (.tup (L.map D.int)),.val (.int s),.val (.int p),o3,.own ZX [.int p],.emp] (jL (show T<100000 by omega) ag1) ⟨0,by omega,rfl,rfl⟩
  ·obtain⟨ρ',e2,rfl⟩:=loop2;have hne:rg L p T≠[]:=λz=>by have:=atv L p T;rw[z] at this;simp at this
   have e3:=aqy hne;obtain⟨e4,hle⟩:=avk hne;have hrl:=atv L p T;have c1:=apm (ns:=(rg L p T).map D.int) (k:=(ixm (rg L p T):Int)) (by omega) (by rw[aC];omega)
   have c2:=a8v (ns:=(rg L p T).map D.int) (k:=(ixm (rg L p T):Int)) (by omega) (by rw[aC];omega)
   rw[cM] at c1 c2;have e5:(rotm (rg L p T)).map D.int=((rg L p T).map D.int).drop (ixm (rg L p T))++((rg L p T).map D.int).take (ixm (rg L p T)):=by
    unfold rotm;rw[cI,wR,wQ]
   have hc:(((rg L p T).map D.int).drop (ixm (rg L p T))).length+(((rg L p T).map D.int).take (ixm (rg L p T))).length<=capS:=by
    rw[jE,eX,aC];exact di (by omega)
   have hl2:(L.map D.int).length=L.length:=aC ..
   have hb:L.length<4611686018427387904:=by omega
   rw[e5];generalize ((rg L p T).map D.int).drop (ixm (rg L p T))=X1 at *;generalize ((rg L p T).map D.int).take (ixm (rg L p T))=X2 at *;simp[xm,aig,hl2,hb,e,e2,e3,e4,c1,c2,hc]
  ·rintro n ρ ⟨t,t2,rfl,rfl⟩
   obtain⟨l,el⟩:=axi L p t;have e1:atI ((rg L p t).map D.int) (-1)=ZY (.int (itr L p t)):=by rw[el];exact a3b l _
   have e2:=at2 t;rcases gH t T with q |q
   ·have hne:=hl (t+1) (by omega) (by omega)
    have hcap:((rg L p t).map D.int).length<capS:=by rw[aC,atv];unfold capS;omega
    refine .inr ⟨[.val (.tup (L.map D.int)),.val (.int s),.val (.int p),o3,.own ZX ((rg L p t).map D.int),.emp],[.val (.tup (L.map D.int)),.val (.int s),.val (.int p),o3,.own ZX ((rg L p (t+1)).map D.int),.emp],T-(t+1),?_,?_,by omega,t+1,by omega,rfl,rfl⟩
    ·generalize (rg L p t).map D.int=RR at *;simp[aaj,e1,e2,hne]
    ·rw[atu,cI];generalize (rg L p t).map D.int=RR at *;simp[ab2,e1,e2,hcap]
   ·have:t=T:=by omega
    subst this;refine .inl ⟨[.val (.tup (L.map D.int)),.val (.int s),.val (.int p),o3,.own ZX ((rg L p t).map D.int),.emp],?_,rfl⟩;rw[eT] at e2;simp[aaj,e1,e2]
 ·rintro i d ρ hd ⟨o3,rfl⟩
  rw[cP];have e:=a0t w hs i;refine⟨_,[.val (.tup (L.map D.int)),.val (.int s),.val (.int (itr L s (i+1))),.val d,.emp,.emp],rfl,.inl ?_,_,rfl⟩;simp[ack,e]
end
def a6y(n:Nat)(r:List Int):okD (n+1) (rowT r)=ZW:=by
 show(r.map D.int).all (okD n)=ZW;exact ajz n r
def ayy(neg:Bool)(r:List Int)(rows:LL9):gIn neg (rowT r) (.lst (rows.map rowT))=ZY (.v (.bl (if neg then !decide (r∈rows) else decide (r∈rows)))):=by
 have h1:(rows.map rowT).all (okD 30)=ZW:=by
  rw[List.all_map,bK];exact λx _=>a6y 29 x
 have h2:(rows.map rowT).any (λy=>eqD y (rowT r))=decide (r∈rows):=by
  rw[List.any_map]
  induction rows with
  |nil=>rfl
  |cons a l ih=>
   have ih:=ih (by rw[bB,jR,bD] at h1;exact h1.2)
   rw[sX,ih];have:eqD (rowT a) (rowT r)=decide (a=r):=av2 a r;show(eqD (rowT a) (rowT r)||_)=_;rw[this]
   by_cases q:a=r
   ·simp[q]
   ·have q':¬r=a:=λz=>q z.symm
    simp[q,q']
 have h3:okD 30 (rowT r)=ZW:=a6y 29 r;simp only[gIn,itemsD,h1,h2,h3,pI,if_true]
open Classical in
noncomputable def ak2(L:List Int)(s:Int):Nat:=if q:∃T,T<L.length/\itr L (itr L s L.length) (T+1)=itr L s L.length/\∀i,1<=i->i<=T->itr L (itr L s L.length) i≠itr L s L.length then q.choose else 0
noncomputable def za(L:List Int)(s:Int):List Int:=rotm (rg L (itr L s L.length) (ak2 L s))
section
variable{L:List Int}(w:Ways L){s:Int}(hs:s∈zr (lp L))
include w hs
theorem ajy:ak2 L s<L.length/\itr L (itr L s L.length) (ak2 L s+1)=itr L s L.length/\∀i,1<=i->i<=ak2 L s->itr L (itr L s L.length) i≠itr L s L.length:=by
 have q:=a5o w hs;unfold ak2;rw[dif_pos q];exact q.choose_spec
theorem aol:xm [.val (.tup (L.map D.int)),.val (.int s)]=ZY (.ok (.v (rowT (za L s))),[.val (.tup (L.map D.int)),.val (.int s)]):=by
 obtain⟨a,b,c⟩:=ajy w hs;exact ami w hs a b c
omit w hs in
theorem ayc{ns:List Int}{x:Int}:x∈rotm ns↔x∈ns:=by
 unfold rotm;rw[cX,Or.comm,<-cX,List.take_append_drop]
theorem agz{x:Int}:x∈za L s↔∃m,x=itr L (itr L s L.length) m:=by
 obtain⟨a,b,c⟩:=ajy w hs;unfold za;rw[ayc];unfold rg;constructor
 ·intro q;obtain⟨i,_,rfl⟩:=bQ.mp q;exact⟨i,rfl⟩
 ·rintro⟨m,rfl⟩
  have em:∀n:Nat,itr L (itr L s L.length) (n*(ak2 L s+1))=itr L s L.length:=λn=>by
   induction n with
   |zero=>rw[Nat.zero_mul];rfl
   |succ n ih=>rw[nW,wz,ih,b]
  refine bQ.mpr ⟨m % (ak2 L s+1),gP.mpr (Nat.mod_lt _ (by omega)),?_⟩
  have e:=vR m (ak2 L s+1);have:itr L (itr L s L.length) m=itr L (itr L s L.length) (m % (ak2 L s+1)):=by
   rw[<-e,jK,wz,em,jK,e]
  exact this.symm
theorem a1i:za L s≠[]:=λz=>by
 have:itr L s L.length∈za L s:=(agz w hs).mpr ⟨0,rfl⟩;rw[z] at this;cases this
end
noncomputable def addR(L:List Int)(rs:LL9)(x:Int):LL9:=if za L x∈rs then rs else rs++[za L x]
theorem aga(L:List Int):∀(C:List Int) (rs:LL9) (r:List Int),r∈C.foldl (addR L) rs↔r∈rs∨∃x∈C,r=za L x
 | [],rs,r=>by simp
 |x::C,rs,r=>by
  rw[dF,aga L C];unfold addR;split
  ·rename_i q;constructor
   ·rintro(z |⟨y,hy,e⟩)
    ·exact .inl z
    ·exact .inr ⟨y,aK _ hy,e⟩
   ·rintro(z |⟨y,hy,e⟩)
    ·exact .inl z
    ·rcases bF.mp hy with rfl |hy
     ·exact .inl (e▸q)
     ·exact .inr ⟨y,hy,e⟩
  ·constructor
   ·rintro(z |⟨y,hy,e⟩)
    ·rcases cX.mp z with z |z
     ·exact .inl z
     ·exact .inr ⟨x,aQ ..,by simpa using z⟩
    ·exact .inr ⟨y,aK _ hy,e⟩
   ·rintro(z |⟨y,hy,e⟩)
    ·exact .inl (lF _ z)
    ·rcases bF.mp hy with rfl |hy
     ·exact .inl (cL _ (by simp[e]))
     ·exact .inr ⟨y,hy,e⟩
theorem aio(L:List Int):∀(C:List Int) {rs:LL9},rs.Nodup->(C.foldl (addR L) rs).Nodup
 | [],_,h=>h
 |x::C,rs,h=>by
  rw[dF];refine aio L C ?_;unfold addR;split
  ·exact h
  ·rename_i q;exact pX.mpr ⟨h,(by simp),λa ha b hb z=>q (by rw[dO] at hb;rw[<-hb,<-z];exact ha)⟩
theorem ain(L:List Int):∀(C:List Int) (rs:LL9),(C.foldl (addR L) rs).length<=rs.length+C.length
 | [],_=>by simp
 |x::C,rs=>by
  rw[dF];have:=ain L C (addR L rs x);have:(addR L rs x).length<=rs.length+1:=by unfold addR;split <;> simp
  rw[bG];omega
noncomputable def agk(L C:List Int):LL9:=ai8 (C.foldl (addR L) [])
def ah1{L C:List Int}{r:List Int}:r∈agk L C↔∃x∈C,r=za L x:=by
 unfold agk;rw[(ac6 _).mem_iff,aga];simp
section
variable{L:List Int}(w:Ways L){C:List Int}(hC:∀x∈C,x∈zr (lp L))(hz:C.length<=10)(cl:∀x∈C,nxt L x∈C)
include w hC hz cl
theorem aw7{x:Int}(hx:x∈zr (lp L)):0<=x/\x<(L.length:Int):=by
 have tI:zr (lp L)=(upto L.length).filter (caught (lp L)):=by unfold zr;rw[aj1]
 rw[tI] at hx;exact agy (fL.mp hx).1
theorem avn:vd [.val (.tup (L.map D.int)),.val (.tup (C.map D.int))]=ZY (.ok (.fr (C.map D.int)),[.val (.tup (L.map D.int)),.val (.tup (C.map D.int))]):=by
 have ef:compD (cz 0) aa1 aay (C.map D.int) [] [.emp,.val (.lst (C.map D.int)),.val (.tup (L.map D.int))]=ZY (.ok (C.map D.int),aa9 .emp (C.map D.int)::[.val (.lst (C.map D.int)),.val (.tup (L.map D.int))]):=by
  rw[uq (p:=λ_=>ZW) (f:=λd=>d)]
  ·rw[bO,qF,List.filter_eq_self.mpr λ_ _=>rfl]
  ·intro d hd;obtain⟨x,hx,rfl⟩:=bQ.mp hd;have hr:=aw7 w hC hz cl (hC x hx);have er:=afo (ns:=L) hr.1 hr.2;have hn:=cl x hx;have:nxt L x=L.getD x.toNat 0:=if_pos hr.1;rw[this] at hn;have e2:=ail ZV (L.getD x.toNat 0) C;rw[decide_eq_true hn] at e2;generalize L.getD x.toNat 0=y at *;simp[aa1,er,e2]
  ·intro d hd _;obtain⟨x,hx,rfl⟩:=bQ.mp hd;simp[aay]
 have hc:(C.map D.int).length<=capS:=by rw[aC];exact di (by omega)
 have loop:=vp (c:=qw) (g:=xr)
  (λn ρ=>ρ=[.val (.tup (L.map D.int)),.val (.tup (C.map D.int)),.own ZX (C.map D.int),.val (.int ((C.length:Int)+n))]/\n<=1)
  (λρ=>∃o,ρ=[.val (.tup (L.map D.int)),.val (.tup (C.map D.int)),.own ZX (C.map D.int),o])
  ?_ fuel 1 [.val (.tup (L.map D.int)),.val (.tup (C.map D.int)),.own ZX (C.map D.int),.val (.int ((C.length:Int)+(1:Nat)))] (jL (by decide) ag1) ⟨rfl,aM _⟩
 ·obtain⟨ρ',e,o,rfl⟩:=loop;have hl:(C.map D.int).length=C.length:=aC ..
  have e:whileD qw xr fuel [.val (.tup (L.map D.int)),.val (.tup (C.map D.int)),.own ZX (C.map D.int),.val (.int ((C.length:Int)+1))]=ZY (.nx,[.val (.tup (L.map D.int)),.val (.tup (C.map D.int)),.own ZX (C.map D.int),o]):=e;simp[vd,ae9,hl,e]
 ·rintro n ρ ⟨rfl,hn⟩
  have hl:(C.map D.int).length=C.length:=aC ..
  by_cases q:n=0
  ·subst q;refine .inl ⟨[.val (.tup (L.map D.int)),.val (.tup (C.map D.int)),.own ZX (C.map D.int),.val (.int ((C.length:Int)+(0:Nat)))],?_,_,rfl⟩;simp[qw,hl]
  ·have:n=1:=by omega
   subst this;refine .inr ⟨[.val (.tup (L.map D.int)),.val (.tup (C.map D.int)),.own ZX (C.map D.int),.val (.int ((C.length:Int)+(1:Nat)))],[.val (.tup (L.map D.int)),.val (.tup (C.map D.int)),.own ZX (C.map D.int),.val (.int ((C.length:Int)+(0:Nat)))],0,?_,?_,by omega,rfl,by omega⟩
   ·generalize L.map D.int=LL at *;have:(C.length:Int)<(C.length:Int)+1:=by omega
    simp[qw,hl,this]
   ·generalize L.map D.int=LL at *;rw[hl] at hc;simp[xr,hl,ef,hc]
theorem aok:abe [.val (.tup (L.map D.int)),.val (.tup (C.map D.int))]=ZY (.ok (.fr ((agk L C).map rowT)),[.val (.tup (L.map D.int)),.val (.tup (C.map D.int))]):=by
 have eg:=avn w hC hz cl;have loop:∀(xs:List Int) (rs:LL9) (o3 o4:Sl),(∀x∈xs,x∈zr (lp L))->rs.length+xs.length<=10->∃q3 q4,forD (cz 3) wy (xs.map D.int) [.val (.tup (L.map D.int)),.val (.tup (C.map D.int)),.own ZX (rs.map rowT),o3,o4]=ZY (.nx,[.val (.tup (L.map D.int)),.val (.tup (C.map D.int)),.own ZX ((xs.foldl (addR L) rs).map rowT),q3,q4]):=by
  intro xs
  induction xs with
  |nil=>intro rs o3 o4 _ _;exact⟨o3,o4,rfl⟩
  |cons x xs ih=>
   intro rs o3 o4 hx hn;have e1:=aol w (hx x (aQ ..));have e2:=ayy ZW (za L x) rs;have es:wy [.val (.tup (L.map D.int)),.val (.tup (C.map D.int)),.own ZX (rs.map rowT),.val (.int x),o4]=ZY (.nx,[.val (.tup (L.map D.int)),.val (.tup (C.map D.int)),.own ZX ((addR L rs x).map rowT),.val (.int x),.val (rowT (za L x))]):=by
    have hcap:(rs.map rowT).length<capS:=by rw[aC];unfold capS;rw[bG] at hn;omega
    by_cases q:za L x∈rs
    ·rw[decide_eq_true q] at e2;have:addR L rs x=rs:=if_pos q;rw[this];simp[wy,e1,e2]
    ·rw[decide_eq_false q] at e2;have:addR L rs x=rs++[za L x]:=if_neg q;rw[this,cI];generalize hrr:rowT (za L x)=rr at *;generalize rs.map rowT=RR at *;simp[wy,e1,e2,hcap,hrr]
   have hz2:(addR L rs x).length<=rs.length+1:=by unfold addR;split <;> simp
   obtain⟨q3,q4,e3⟩:=ih (addR L rs x) (.val (.int x)) (.val (rowT (za L x))) (λy hy=>hx y (aK _ hy)) (by rw[bG] at hn;omega)
   refine⟨q3,q4,?_⟩;rw[bB,ph,dF];simp only[ag7,mF,mD];rw[es];exact e3
 obtain⟨q3,q4,e⟩:=loop C [] .emp .emp hC (by simpa using hz)
 have hz3:=ain L C [];have es:=alo (rows:=C.foldl (addR L) []) (by simp at hz3;omega) (λr hr=>by
  rcases(aga L C [] r).mp hr with z |⟨x,hx,rfl⟩
  ·cases z
  ·exact a1i w (hC x hx)) (aio L C List.nodup_nil)
 have e:forD (cz 3) wy (C.map D.int) [.val (.tup (L.map D.int)),.val (.tup (C.map D.int)),.own ZX [],.emp,.emp]=ZY (.nx,[.val (.tup (L.map D.int)),.val (.tup (C.map D.int)),.own ZX ((C.foldl (addR L) []).map rowT),q3,q4]):=e;unfold agk;simp[abe,aj8,eg,e,es]
end
section
variable{qq:LL9}(h:Hs qq)(sh:Sh qq){as:List Int}(ha:Arr qq as)
include h sh ha
theorem lasts_get0{x:Int}(h0:0<=x)(h1:x<(qq.length:Int)):(lasts qq as).getD x.toNat 0=acj qq as x:=by
 have hx:x.toNat<qq.length:=by omega
 rw[aZ,ah6 hx,show((x.toNat:Nat):Int)=x by omega]
 rfl
theorem am5{x:Int}(h0:0<=x)(h1:x<(qq.length:Int)):acj qq as x∈dr qq x:=by
 have a:=(h.dr h0 h1).1;unfold acj;have w0:0<wd qq x:=by unfold wd;omega
 have b1:=gM (ar as x-1) w0;have hk:((ar as x-1) % wd qq x).toNat<(dr qq x).length:=by unfold wd at *;omega
 rw[aZ,aF hk];exact dZ hk
theorem ald{x:Int}(h0:0<=x)(h1:x<(qq.length:Int)):nxt (lasts qq as) x=acj qq as x:=by
 unfold nxt;rw[if_pos h0];exact lasts_get0 h sh ha h0 h1
theorem azj{x:Int}(h0:0<=x)(h1:x<(qq.length:Int)):x∈zr (lp (lasts qq as)):=by
 have tI:zr (lp (lasts qq as))=(upto qq.length).filter (caught (lp (lasts qq as))):=by unfold zr;rw[aj1,ou]
 rw[tI];refine fL.mpr ⟨List.mem_map.mpr ⟨x.toNat,gP.mpr (by omega),by omega⟩,(adi _ _).mpr λy r=>?_⟩
 have key:0<=y/\y<(qq.length:Int):=by
  induction r with
  |base=>exact⟨h0,h1⟩
  |step r q hd ih=>
   obtain⟨i0,i1⟩:=ih;rw[a8q i0 (by rw[ou];exact i1),dO,lasts_get0 h sh ha i0 i1] at hd
   have m:=am5 h sh ha i0 i1;rw[hd];exact⟨sh.dr m,((h.dr i0 i1).2.2 _ m).2⟩
 exact key.1
variable{k:Int}(hk:0<=k/\k<(qq.length:Int))
include hk
theorem apn:∀x∈mj qq k,nxt (lasts qq as) x∈mj qq k:=λx hx=>by
 have hr:=ur h hk x hx;rw[ald h sh ha hr.1 hr.2];exact(u6 h hk sh).mpr (.step ((u6 h hk sh).mp hx) hr.1 (am5 h sh ha hr.1 hr.2))
omit hk in
theorem afk(hk:0<=k/\k<(qq.length:Int)):∀x∈mj qq k,x∈zr (lp (lasts qq as)):=λx hx=>by
 have hr:=ur h hk x hx;exact azj h sh ha hr.1 hr.2
theorem aj3:(∀r∈agk (lasts qq as) (mj qq k),k∈r)↔∀x,Rch qq k x->∃m,itr (lasts qq as) x m=k:=by
 have w:=af3 h ha;constructor
 ·intro q x hx;have hm:=(u6 h hk sh).mpr hx;have:=q _ (ah1.mpr ⟨x,hm,rfl⟩);obtain⟨m,e⟩:=(agz w (afk h sh ha hk x hm)).mp this;exact⟨(lasts qq as).length+m,by rw[wz];exact e.symm⟩
 ·intro q r hr;obtain⟨x,hx,rfl⟩:=ah1.mp hr;have cl:∀m:Nat,itr (lasts qq as) x m∈mj qq k:=λm=>by
   induction m with
   |zero=>exact hx
   |succ m ih=>rw[ah9];exact apn h sh ha hk _ ih
  obtain⟨m,e⟩:=q _ ((u6 h hk sh).mp (cl (lasts qq as).length));exact(agz w (afk h sh ha hk x hx)).mpr ⟨m,e.symm⟩
noncomputable def outR(qq:LL9)(as:List Int)(k:Int):Option (List Int):=(agk (lasts qq as) (mj qq k)).find? λr => !decide (k∈r)
theorem aev{A:D}(hA:itemsD A=ZY (as.map D.int)):jc [.val (hD qq),.val A,.val (.int k)]=ZY (.ok (.v (match outR qq as k with |some r=>rowT r |none=>.non)),[.val (hD qq),.val A,.val (.int k)]):=by
 have e1:=asf h ha hA;obtain⟨e2,C⟩:=qj h hk;have w:=af3 h ha;have e3:=aok w (afk h sh ha hk) C.len (apn h sh ha hk);have loop:∀(rs:LL9) (o:Sl),∃q,forD (cz 3) lu (rs.map rowT) [.val (hD qq),.val A,.val (.int k),o]=ZY (match rs.find? λr => !decide (k∈r) with |some r=>.ret (.v (rowT r)) |none=>.nx,[.val (hD qq),.val A,.val (.int k),q]):=by
  intro rs
  induction rs with
  |nil=>intro o;exact⟨o,rfl⟩
  |cons r rs ih=>
   intro o;have e4:gIn ZW (.int k) (rowT r)=ZY (.v (.bl (!decide (k∈r)))):=ape ZW k r;obtain⟨q,eq⟩:=ih (.val (rowT r));rw[bB,ph];simp only[ag7,mF,mD]
   by_cases z:k∈r
   ·rw[decide_eq_true z] at e4;have es:lu [.val (hD qq),.val A,.val (.int k),.val (rowT r)]=ZY (.nx,[.val (hD qq),.val A,.val (.int k),.val (rowT r)]):=by
     simp[lu,e4]
    rw[es,vX,decide_eq_true z];exact⟨q,eq⟩
   ·rw[decide_eq_false z] at e4;have es:lu [.val (hD qq),.val A,.val (.int k),.val (rowT r)]=ZY (.ret (.v (rowT r)),[.val (hD qq),.val A,.val (.int k),.val (rowT r)]):=by
     simp[lu,e4]
    rw[es,vX,decide_eq_false z];exact⟨_,rfl⟩
 obtain⟨q,e5⟩:=loop (agk (lasts qq as) (mj qq k)) .emp;unfold outR;generalize ((agk (lasts qq as) (mj qq k)).find? λr => !decide (k∈r))=ff at *
 cases ff with
 |none=>
  simp only at e5;simp[jc,aau,e1,e2,e3,e5]
 |some r=>
  dsimp only at e5 ⊢
  simp[jc,aau,e1,e2,e3,e5]
theorem ax0(hg:abb qq k=[]):outR qq as k=ZX↔InG qq as k:=by
 have b:=(zu h hk sh).mp hg;constructor
 ·intro ho;refine⟨b,(aj3 h sh ha hk).mp λr hr=>?_⟩
  have:=List.find?_eq_none.mp ho r hr
  simpa using this
 ·intro g;cases ho:outR qq as k with
  |none=>rfl
  |some r=>
   have h1:=vW ho;have h2:=rT ho;have:=(aj3 h sh ha hk).mpr g.lead r h2;simp[this] at h1
end
section
variable{qq:LL9}(h:Hs qq)(sh:Sh qq){as:List Int}(ha:Arr qq as){k:Int}(hk:0<=k/\k<(qq.length:Int))
include h sh ha hk
theorem ahs:jc [.val (hD qq),.val (.tup (as.map D.int)),.val (.int k)]=ZY (.ok (.v (match outR qq as k with |some r=>rowT r |none=>.non)),[.val (hD qq),.val (.tup (as.map D.int)),.val (.int k)]):=aev h sh ha hk rfl
noncomputable def whyD(qq:LL9)(as:List Int)(k:Int):D:=match abb qq k with
 |x::_=>.tup [.str "gone", .int x]
 | []=>match outR qq as k with
  |some r=>.tup [.str "ring", rowT r]
  |none=>.non
theorem as4:aap [.val (hD qq),.val (.tup (as.map D.int)),.val (.int k)]=ZY (.ok (.v (whyD qq as k)),[.val (hD qq),.val (.tup (as.map D.int)),.val (.int k)]):=by
 have e1:=acn h hk;have e2:=ahs h sh ha hk;unfold whyD;cases hg:abb qq k with
 |nil=>
  rw[hg] at e1;have e3:gEq ZW (.lst []) (.lst [])=ZY (.v (.bl ZV)):=by kernel_rfl
  generalize outR qq as k=oo at *;cases oo with
  |none=>
   dsimp only at e2 ⊢
   simp[aap,ag0,e1,e2,e3,isN]
  |some r=>
   dsimp only at e2 ⊢
   have e4:rowT r=.tup (r.map D.int):=rfl;simp only[e4] at e2;simp only[e4];simp[aap,ag0,e1,e2,e3,isN]
 |cons x r=>
  rw[hg] at e1;have e3:gEq ZW (.lst ((x::r).map D.int)) (.lst [])=ZY (.v (.bl ZW)):=by
   have h1:okD 30 (.lst ((x::r).map D.int))=ZW:=ajz 29 (x::r);have h2:eqD (.lst ((x::r).map D.int)) (.lst [])=ZV:=rfl;have h3:okD 30 (.lst [])=ZW:=rfl;simp only[gEq,h1,h2,h3,pI,if_true];rfl
  have e4:atI ((x::r).map D.int) 0=ZY (.int x):=by simp[atI,ixN]
  generalize (x::r).map D.int=GG at *;simp[aap,ag0,e1,e3,e4]
end
theorem atp(qq:LL9)(as:List Int)(k:Int)(t:Nat):∀m:Nat,run qq (run qq as k t).1 (run qq as k t).2 m=run qq as k (t+m)
 | 0=>rfl
 |m+1=>by
  show(gone qq (run qq (run qq as k t).1 (run qq as k t).2 m).1 (run qq (run qq as k t).1 (run qq as k t).2 m).2,led qq (run qq (run qq as k t).1 (run qq as k t).2 m).1 (run qq (run qq as k t).1 (run qq as k t).2 m).2)=_;rw[atp qq as k t m];rfl
section
variable{qq:LL9}{as:List Int}{k:Int}{a m:Nat}(hm:1<=m)(e:run qq as k (a+m)=run qq as k a)
include hm e
theorem axo(y:Nat):run qq as k (a+y+m)=run qq as k (a+y):=by
 have:=ahr qq as k e y;rw[show a+y+m=a+m+y by omega]
 exact this
theorem a3a(h:Hs qq)(sh:Sh qq)(ha:Arr qq as)(h0:0<=k)(h1:k<(qq.length:Int)){t:Nat}(ht:a<=t):InG qq (run qq as k t).1 (run qq as k t).2:=by
 obtain⟨a1,a2,a3⟩:=srun h sh ha h0 h1 t;refine asw h sh a1 a2 a3 (T:=m) hm ?_;rw[atp];have:=axo hm e (t-a);rw[show a+(t-a)+m=t+m by omega,show a+(t-a)=t by omega] at this
 exact this
end
section
variable{qq:LL9}(h:Hs qq)(sh:Sh qq){as:List Int}(ha:Arr qq as){k:Int}(h0:0<=k)(h1:k<(qq.length:Int))
include h sh ha h0 h1
end
def aim{n:Nat}(h:n<=1000000):n<fuel:=pC h (by unfold fuel;decide)
def bxS(t:Nat)(hh:D)(k n:Int):List (Str×(Nat ⊕ D)):=[("house", .inr hh),("turning", .inl t),("place", .inr (.int k)),("steps", .inr (.int n))]
section
variable(t:Nat)(hh:D)(k n x:Int)(a:Sl)(l:List D)(r:Ro)
theorem sp_h:mFV "Stroll" 0 "house" (.box "Stroll" (bxS t hh k n)::r)=ZY (.ok hh,.box "Stroll" (bxS t hh k n)::r):=by rfl
theorem sp_p:mFV "Stroll" 0 "place" (.box "Stroll" (bxS t hh k n)::r)=ZY (.ok (.int k),.box "Stroll" (bxS t hh k n)::r):=by rfl
theorem sp_s:mFV "Stroll" 0 "steps" (.box "Stroll" (bxS t hh k n)::r)=ZY (.ok (.int n),.box "Stroll" (bxS t hh k n)::r):=by rfl
theorem sp_t:mLnk "Stroll" 0 "turning" 2 (.box "Stroll" (bxS 2 hh k n)::a::.own (ZY 2) l::r)=ZY (.ok (),.box "Stroll" (bxS 2 hh k n)::a::.own (ZY 2) l::r):=by rfl
theorem baq:putA "place" (.int x) (bxS t hh k n)=bxS t hh x n:=by rfl
theorem bap:putA "steps" (.int x) (bxS t hh k n)=bxS t hh k x:=by rfl
theorem is_p:((bxS t hh k n).lookup ("place" : Str)).isSome=ZW:=by rfl
theorem is_s:((bxS t hh k n).lookup ("steps" : Str)).isSome=ZW:=by rfl
end
def ayk{qq:LL9}(h:Hs qq){bs:List Int}(hb:Arr qq bs){p:Int}(p0:0<=p)(p1:p<(qq.length:Int)):aei [.val (hD qq),.own (ZY 1) (bs.map D.int),.val (.int p)]=ZY (.ok (.v (.int (led qq bs p))),[.val (hD qq),.own (ZY 1) ((gone qq bs p).map D.int),.val (.int p)]):=by
 have e1:=apq p0 p1;have e2:=ara h hb p0 p1;have e3:=a4j h hb p0 p1;have e4:=avu h hb p0 p1 (ar bs p+1);have e5:ixN bs.length p=ZY p.toNat:=ah8 p0 (by rw[hb.len];exact p1)
 simp[aei,avp,hD,e1,e2,e3,e4,e5,gone]
abbrev stF(hh R:D)(as:List D)(k n:Int):Ro:=[.box "Stroll" (bxS 2 hh k n),.val R,.own (ZY 2) as]
def a5h(hh R:D)(as bs:List D)(k n k':Int)(el:aei [.val hh,.own (ZY 1) as,.val (.int k)]=ZY (.ok (.v (.int k')),[.val hh,.own (ZY 1) bs,.val (.int k)])) :
  dFld "Stroll" 0 "place" (M.d (mFn aei [ZX,ZY 2,ZX] (au (mFV "Stroll" 0 "house") ((mLnk "Stroll" 0 "turning" 2).bind λ_=>bu 2 (au (mFV "Stroll" 0 "place") dh))))) (stF hh R as k n)=ZY (.nx,stF hh R bs k' n):=by
 simp[dFld,stF,sp_h,sp_t,sp_p,el,baq,is_p,ach]
def a5g(hh R:D)(as:List D)(k n:Int):al0 "Stroll" 0 "steps" (ret (.int 1)) (stF hh R as k n)=ZY (.nx,stF hh R as k (n+1)):=by
 simp[al0,stF,sp_s,bap,is_s,ach]
section
variable{qq:LL9}(h:Hs qq)(sh:Sh qq){as:List Int}(ha:Arr qq as){k:Int}(h0:0<=k)(h1:k<(qq.length:Int))
include h sh ha h0 h1
theorem a3d(R:D)(t:Nat)(n:Int):km (stF (hD qq) R ((run qq as k t).1.map D.int) (run qq as k t).2 n)=ZY (.nx,stF (hD qq) R ((run qq as k (t+1)).1.map D.int) (run qq as k (t+1)).2 (n+1)):=by
 obtain⟨a1,a2,a3⟩:=srun h sh ha h0 h1 t;have e1:=a5h (hD qq) R _ _ _ n _ (ayk h a1 a2 a3);have e2:=a5g (hD qq) R ((run qq as k (t+1)).1.map D.int) (run qq as k (t+1)).2 n;unfold km dSeq;rw[e1];exact e2
theorem a75{R:D}{rs:List Int}(hR:∀x:Int,gIn ZW (.int x) R=ZY (.v (.bl (!decide (x∈rs))))){s T:Nat}(hn:∀t,s<=t->t<T->(run qq as k t).2∉rs)(hT:(run qq as k T).2∈rs)(hs:s<=T)(hf:T<1000000)(n:Int) :
  gq (stF (hD qq) R ((run qq as k s).1.map D.int) (run qq as k s).2 n)=ZY (.nx,stF (hD qq) R ((run qq as k T).1.map D.int) (run qq as k T).2 (n+((T-s:Nat):Int))):=by
 have test:∀(AA:List D) (p:Int) (n:Int),lg (stF (hD qq) R AA p n)=ZY (.ok (!decide (p∈rs)),stF (hD qq) R AA p n):=λAA p n=>by
  have e:=hR p;simp[lg,stF,sp_p,e]
 obtain⟨ρ',e,rfl⟩:=vp (c:=lg) (g:=agv km) (λj ρ=>∃t,s<=t/\t+j=T/\ρ=stF (hD qq) R ((run qq as k t).1.map D.int) (run qq as k t).2 (n+((t-s:Nat):Int)))
  (λρ=>ρ=stF (hD qq) R ((run qq as k T).1.map D.int) (run qq as k T).2 (n+((T-s:Nat):Int))) (λj ρ z9=>by
   obtain⟨t,ht,hj,rfl⟩:=z9
   by_cases q:t=T
   ·subst q;refine .inl ⟨_,?_,rfl⟩;rw[test,decide_eq_true hT];rfl
   ·refine .inr ⟨stF (hD qq) R ((run qq as k t).1.map D.int) (run qq as k t).2 (n+((t-s:Nat):Int)),stF (hD qq) R ((run qq as k (t+1)).1.map D.int) (run qq as k (t+1)).2 (n+((t+1-s:Nat):Int)),j-1,?_,?_,by omega,t+1,by omega,by omega,rfl⟩
    ·rw[test,decide_eq_false (hn t ht (by omega))]
     rfl
    ·unfold agv;rw[a3d h sh ha h0 h1 R t,show n+((t-s:Nat):Int)+1=n+((t+1-s:Nat):Int) by omega]) fuel (T-s) (stF (hD qq) R ((run qq as k s).1.map D.int) (run qq as k s).2 n) (aim (by omega)) ⟨s,aM _,by omega,by rw[Nat.sub_self];simp⟩
 exact e
end
def amg(t t':Nat)(hh:D)(k n:Int):rtg t' (bxS t hh k n)=bxS t' hh k n:=by rfl
def a68(t:Nat)(hh:D)(k n:Int):(bxS t hh k n).lookup ("go_till_in" : Str)=ZX:=by rfl
def asi(t:Nat)(hh:D)(k n:Int):inlB t (bxS t hh k n)=ZW:=by simp[inlB,bxS]
abbrev fr4(a b c:D)(hh:D)(as:List D)(k n:Int):Ro:=[.val a,.val b,.val c,.box "Stroll" (bxS 1000 hh k n),.own (ZY 1000) as]
def ba9(a b c hh R:D)(as bs:List D)(k n k' n':Int)(me:M D)(e1:me (fr4 a b c hh as k n)=ZY (.ok R,fr4 a b c hh as k n))(e2:gq (stF hh R as k n)=ZY (.nx,stF hh R bs k' n')) :
  apk "Stroll" "go_till_in" 3 4 3 gq me (fr4 a b c hh as k n)=ZY (.nx,fr4 a b c hh bs k' n'):=by
 have e0:mIsB "Stroll" 3 "go_till_in" (fr4 a b c hh as k n)=ZY (.ok (bxS 1000 hh k n),fr4 a b c hh as k n):=by
  simp[mIsB,fr4,a68]
 unfold apk dM;rw[e0];dsimp only;rw[e1];simp[fr4,asi,ach,amg];rw[show[Sl.box "Stroll" (bxS 2 hh k n),.val R,.own (ZY 2) as]=stF hh R as k n from rfl,e2]
 simp[stF,asi,amg]
noncomputable def agh(qq:LL9):List Int:=(upto qq.length).filter λx=>decide (abb qq x=[])
theorem a3h(l:List Int):gEq ZV (.lst (l.map D.int)) (.lst [])=ZY (.v (.bl (decide (l=[])))):=by
 cases l with
 |nil=>kernel_rfl
 |cons x r=>
  have h1:okD 30 (.lst ((x::r).map D.int))=ZW:=ajz 29 (x::r);have h2:eqD (.lst ((x::r).map D.int)) (.lst [])=ZV:=rfl;have h3:okD 30 (.lst [])=ZW:=rfl;simp only[gEq,h1,h2,h3,pI,if_true];rfl
def arq{qq:LL9}(h:Hs qq):compD (cz 0) lr lq (rangeD 0 qq.length) [] [.emp,.val (hD qq)]=ZY (.ok ((agh qq).map D.int),aa9 .emp (rangeD 0 qq.length)::[.val (hD qq)]):=by
 rw[aon,uq (p:=λd=>match d with |.int x=>decide (abb qq x=[]) |_=>ZV) (f:=λd=>d)]
 ·rw[bO,qF,rA];rfl
 ·intro d hd;obtain⟨x,hx,rfl⟩:=bQ.mp hd;have e2:=acn h (agy hx);have e3:=a3h (abb qq x);simp[lr,e2,e3]
 ·intro d hd _;obtain⟨x,hx,rfl⟩:=bQ.mp hd;simp[lq]
def al9{qq:LL9}{x:Int}(h0:0<=x)(h1:x<(qq.length:Int)):x∈agh qq↔abb qq x=[]:=by
 unfold agh;rw[fL,decide_eq_true_iff];exact⟨λq=>q.2,λq=>⟨by unfold upto;exact bQ.mpr ⟨x.toNat,gP.mpr (by omega),by omega⟩,q⟩⟩
def a7a(hh A:D)(as:List D)(k:Int)(hA:itemsD A=ZY as):auv 4 4 ae6 [ZY 0,ZY 1,ZY 2] (bu 0 (bu 1 (bu 2 dh))) [.val hh,.val A,.val (.int k),.emp,.emp]=ZY ((bxS 1000 hh k 0,as),[.val hh,.val A,.val (.int k),.emp,.emp]):=by
 simp[auv,ae6,iniD,hA,ach,Dn.frs,mkFs,bxS]
section
variable{qq:LL9}(h:Hs qq)(sh:Sh qq){as:List Int}(ha:Arr qq as){k:Int}(h0:0<=k)(h1:k<(qq.length:Int))
include h sh ha h0 h1
theorem ahd{T:Nat}(hn:∀t,t<T->abb qq (run qq as k t).2≠[])(hT:abb qq (run qq as k T).2=[])(hf:T<1000000) :
  ie [.val (hD qq),.val (.tup (as.map D.int)),.val (.int k)]=ZY (bxS 1000 (hD qq) (run qq as k T).2 (T:Int),(run qq as k T).1.map D.int):=by
 have e1:=a7a (hD qq) (.tup (as.map D.int)) (as.map D.int) k rfl;have eg:=a75 h sh ha h0 h1 (R:=.lst ((agh qq).map D.int)) (rs:=agh qq) (λx=>ail ZW x _) (s:=0) (T:=T) (λt _ ht z=>by
  obtain⟨_,b0,b1⟩:=srun h sh ha h0 h1 t;exact hn t ht ((al9 b0 b1).mp z)) (by
  obtain⟨_,b0,b1⟩:=srun h sh ha h0 h1 T;exact(al9 b0 b1).mpr hT) (fJ _) hf 0
 rw[show(0:Int)+((T-0:Nat):Int)=(T:Int) by omega] at eg
 have ec:=arq h;have hc:((agh qq).map D.int).length<=capS:=by
  rw[aC];have:=h.most;exact di (cW (kW _ _) (by simp[upto];omega))
 obtain⟨L,hL,eL⟩:=a7p h;have em:(M.d (qy [ZX,ZY 0] (mGet qt (bh (M.d (iu (g1 gL9) (ig 0 mNil))) mNil)) (cz 0) lr lq)) (fr4 (hD qq) (.tup (as.map D.int)) (.int k) (hD qq) (as.map D.int) k 0)=ZY (.ok (.lst ((agh qq).map D.int)),fr4 (hD qq) (.tup (as.map D.int)) (.int k) (hD qq) (as.map D.int) k 0):=by
  generalize (agh qq).map D.int=ss at *;simp only[hD] at *;simp[fr4,hL,eL,ec,hc]
 have e3:=ba9 (hD qq) (.tup (as.map D.int)) (.int k) (hD qq) _ _ _ _ _ _ _ _ em eg;unfold ie strD aae ake;rw[show[Sl.val (hD qq),.val (.tup (as.map D.int)),.val (.int k)]++aJ (5-3) Sl.emp=[.val (hD qq),.val (.tup (as.map D.int)),.val (.int k),.emp,.emp] from rfl,e1]
 dsimp only;rw[amg];have hq:(([Sl.val (hD qq),.val (.tup (as.map D.int)),.val (.int k),.emp,.emp]:List Sl).all tagB=ZW/\3≠4/\3<([Sl.val (hD qq),.val (.tup (as.map D.int)),.val (.int k),.emp,.emp]:List Sl).length):=⟨by simp[tagB],by decide,by simp⟩
 rw[if_pos hq];rw[show bC (bC [Sl.val (hD qq),.val (.tup (as.map D.int)),.val (.int k),.emp,.emp] 3 (.box "Stroll" (bxS 1000 (hD qq) k 0))) 4 (.own (ZY 1000) (as.map D.int))=fr4 (hD qq) (.tup (as.map D.int)) (.int k) (hD qq) (as.map D.int) k 0 from rfl]
 unfold dSeq;rw[e3];simp[dNx,fr4,asi]
end
section
variable{qq:LL9}(h:Hs qq)(sh:Sh qq){as:List Int}(ha:Arr qq as){k:Int}(h0:0<=k)(h1:k<(qq.length:Int))
include h sh ha h0 h1
theorem atq{t a:Nat}(hg:abb qq (run qq as k t).2=[])(hta:t<=a)(ga:InG qq (run qq as k a).1 (run qq as k a).2){r:List Int}(ho:outR qq (run qq as k t).1 (run qq as k t).2=ZY r) :
  ∃T',t<T'/\T'<=a/\(run qq as k T').2∈r/\∀s,t<=s->s<T'->(run qq as k s).2∉r:=by
 obtain⟨b1,b2,b3⟩:=srun h sh ha h0 h1 t;have hk:=And.intro b2 b3;have w:=af3 h b1;have q1:=vW ho;have q2:=rT ho;have q1:(run qq as k t).2∉r:=by simpa using q1
 obtain⟨x,hx,rfl⟩:=ah1.mp q2;have hxt:=afk h sh b1 hk x hx;have mr:∀{y:Int},y∈za (lasts qq (run qq as k t).1) x↔∃m,y=itr (lasts qq (run qq as k t).1) (itr (lasts qq (run qq as k t).1) x (lasts qq (run qq as k t).1).length) m:=agz w hxt
 have cl:∀m:Nat,itr (lasts qq (run qq as k t).1) x m∈mj qq (run qq as k t).2:=λm=>by
  induction m with
  |zero=>exact hx
  |succ m ih=>rw[ah9];exact apn h sh b1 hk _ ih
 have inC:∀y,y∈za (lasts qq (run qq as k t).1) x->y∈mj qq (run qq as k t).2:=λy hy=>by
  obtain⟨m,rfl⟩:=mr.mp hy;rw[<-wz];exact cl _
 have nx:∀y,y∈za (lasts qq (run qq as k t).1) x->nxt (lasts qq (run qq as k t).1) y∈za (lasts qq (run qq as k t).1) x:=λy hy=>by
  obtain⟨m,rfl⟩:=mr.mp hy;exact mr.mpr ⟨m+1,(ah9 _ _ _).symm⟩
 have ex:∃s,t<=s/\s<=a/\(run qq as k s).2∈za (lasts qq (run qq as k t).1) x:=by
  refine eH λno=>?_
  have no:∀s,t<=s->s<=a->(run qq as k s).2∉za (lasts qq (run qq as k t).1) x:=λs s1 s2 z=>no ⟨s,s1,s2,z⟩
  obtain⟨c1,c2,c3⟩:=srun h sh ha h0 h1 a;have same:∀y,y∈za (lasts qq (run qq as k t).1) x->nxt (lasts qq (run qq as k a).1) y=nxt (lasts qq (run qq as k t).1) y:=λy hy=>by
   have hr:=ur h hk y (inC y hy);have e:=apu h sh ha h0 h1 hr.1 t (a-t) λj j1 j2 z=>no j j1 (by omega) (z▸hy)
   rw[show t+(a-t)=a by omega] at e
   rw[ald h sh c1 hr.1 hr.2,ald h sh b1 hr.1 hr.2];unfold acj;rw[e]
  have y0:itr (lasts qq (run qq as k t).1) x (lasts qq (run qq as k t).1).length∈za (lasts qq (run qq as k t).1) x:=mr.mpr ⟨0,rfl⟩;have stay:∀m,itr (lasts qq (run qq as k a).1) (itr (lasts qq (run qq as k t).1) x (lasts qq (run qq as k t).1).length) m∈za (lasts qq (run qq as k t).1) x:=λm=>by
   induction m with
   |zero=>exact y0
   |succ m ih=>rw[ah9,same _ ih];exact nx _ ih
  have b:=(zu h hk sh).mp hg;have r1:=ak0 h sh ha h0 h1 t (a-t);rw[show t+(a-t)=a by omega] at r1
  obtain⟨m,e⟩:=ga.lead _ (aac (b _ r1) ((u6 h hk sh).mp (inC _ y0)));have:=stay m;rw[e] at this;exact no a hta (aM _) this
 obtain⟨s,s1,s2,s3⟩:=ex;obtain⟨T',⟨t1,t2⟩,tm⟩:=least (P:=λs=>t<=s/\(run qq as k s).2∈za (lasts qq (run qq as k t).1) x) s ⟨s1,s3⟩
 refine⟨T',?_,?_,t2,λs s1 s2 z=>tm s s2 ⟨s1,z⟩⟩
 ·rcases Nat.lt_or_eq_of_le t1 with q |q
  ·exact q
  ·subst q;exact absurd t2 q1
 ·rcases gH s T' with q |q
  ·exact absurd ⟨s1,s3⟩ (tm s q)
  ·omega
end
noncomputable def aew(qq:LL9)(as:List Int)(k:Int):D:=match outR qq as k with |some r=>rowT r |none=>.non
theorem atr(qq:LL9)(as:List Int)(k:Int):flatV (aew qq as k)=ZW:=by
 unfold aew;cases outR qq as k with
 |none=>rfl
 |some r=>
  show(r.map D.int).all isI=ZW;rw[bK];intro d hd;obtain⟨x,_,rfl⟩:=bQ.mp hd;rfl
abbrev fr5(a b c:D)(s4:Sl)(hh:D)(as:List D)(k n:Int):Ro:=[.val a,.val b,.val c,.box "Stroll" (bxS 1000 hh k n),s4,.own (ZY 1000) as]
def sq_p(a b c:Sl)(hh:D)(k n:Int)(t:Nat)(r:Ro):mFV "Stroll" 3 "place" (a::b::c::.box "Stroll" (bxS t hh k n)::r)=ZY (.ok (.int k),a::b::c::.box "Stroll" (bxS t hh k n)::r):=by rfl
def sq_s(a b c:Sl)(hh:D)(k n:Int)(t:Nat)(r:Ro):mFV "Stroll" 3 "steps" (a::b::c::.box "Stroll" (bxS t hh k n)::r)=ZY (.ok (.int n),a::b::c::.box "Stroll" (bxS t hh k n)::r):=by rfl
def sq_t(a b c d:Sl)(hh:D)(k n:Int)(l:List D)(r:Ro):mLnk "Stroll" 3 "turning" 5 (a::b::c::.box "Stroll" (bxS 1000 hh k n)::d::.own (ZY 1000) l::r)=ZY (.ok (),a::b::c::.box "Stroll" (bxS 1000 hh k n)::d::.own (ZY 1000) l::r):=by rfl
def ba8(a b c hh R:D)(s4:Sl)(h4:ach s4=ZW)(as bs:List D)(k n k' n':Int)(me:M D)(e1:me (fr5 a b c s4 hh as k n)=ZY (.ok R,fr5 a b c s4 hh as k n))(e2:gq (stF hh R as k n)=ZY (.nx,stF hh R bs k' n')) :
  apk "Stroll" "go_till_in" 3 5 3 gq me (fr5 a b c s4 hh as k n)=ZY (.nx,fr5 a b c s4 hh bs k' n'):=by
 have e0:mIsB "Stroll" 3 "go_till_in" (fr5 a b c s4 hh as k n)=ZY (.ok (bxS 1000 hh k n),fr5 a b c s4 hh as k n):=by
  simp[mIsB,fr5,a68]
 unfold apk dM;rw[e0];dsimp only;rw[e1];simp[fr5,asi,ach,h4,amg];rw[show[Sl.box "Stroll" (bxS 2 hh k n),.val R,.own (ZY 2) as]=stF hh R as k n from rfl,e2]
 simp[stF,asi,amg];exact h4
abbrev a2w:M Rv:=mFnW jc [ZX,ZY 5,ZX] (au (mVar 0) ((mLnk "Stroll" 3 "turning" 5).bind λ_=>bu 5 (au (mFV "Stroll" 3 "place") dh)))
def azh(a b c R hh:D)(s4:Sl)(as:List D)(k n:Int){ps:Ro}(hR:flatV R=ZW)(e:jc [.val a,.val (.lst as),.val (.int k)]=ZY (.ok (.v R),ps)):dSet 4 a2w (fr5 a b c s4 hh as k n)=ZY (.nx,fr5 a b c (.val R) hh as k n):=by
 simp[dSet,a2w,mFnW,fr5,sq_t,sq_p,e,hR]
section
variable{qq:LL9}(h:Hs qq)(sh:Sh qq){as:List Int}(ha:Arr qq as){k:Int}(h0:0<=k)(h1:k<(qq.length:Int))
include h sh ha h0 h1
theorem a0u(a b c:D)(s4:Sl)(hh:D)(ea:a=hD qq)(t:Nat)(n:Int):dSet 4 a2w (fr5 a b c s4 hh ((run qq as k t).1.map D.int) (run qq as k t).2 n)=ZY (.nx,fr5 a b c (.val (aew qq (run qq as k t).1 (run qq as k t).2)) hh ((run qq as k t).1.map D.int) (run qq as k t).2 n):=by
 subst ea;obtain⟨b1,b2,b3⟩:=srun h sh ha h0 h1 t;exact azh _ _ _ _ _ _ _ _ _ (atr _ _ _) (aev h sh b1 ⟨b2,b3⟩ (A:=.lst ((run qq as k t).1.map D.int)) rfl)
theorem as6(b c:D){t T':Nat}{r:List Int}(ho:outR qq (run qq as k t).1 (run qq as k t).2=ZY r)(g1:t<T')(g3:(run qq as k T').2∈r)(g4:∀s,t<=s->s<T'->(run qq as k s).2∉r)(hf:T'<1000000) :
  agv uw (fr5 (hD qq) b c (.val (aew qq (run qq as k t).1 (run qq as k t).2)) (hD qq) ((run qq as k t).1.map D.int) (run qq as k t).2 (t:Int))=ZY (.nx,fr5 (hD qq) b c (.val (aew qq (run qq as k T').1 (run qq as k T').2)) (hD qq) ((run qq as k T').1.map D.int) (run qq as k T').2 (T':Int)):=by
 have er:aew qq (run qq as k t).1 (run qq as k t).2=.tup (r.map D.int):=by
  unfold aew;rw[ho];rfl
 rw[er];have eg:=a75 h sh ha h0 h1 (R:=.tup (r.map D.int)) (rs:=r) (λx=>ape ZW x _) g4 g3 (kO g1) hf (t:Int)
 rw[show(t:Int)+((T' - t:Nat):Int)=(T':Int) by omega] at eg
 have e3:=ba8 (hD qq) b c (hD qq) _ (.val (.tup (r.map D.int))) rfl _ _ _ _ _ _ (mVar 4) (by simp[fr5]) eg
 have e4:=a0u h sh ha h0 h1 (hD qq) b c (.val (.tup (r.map D.int))) (hD qq) rfl T' (T':Int);unfold agv uw dSeq;rw[e3];dsimp only;rw[e4]
theorem an7{a:Nat}(ga:InG qq (run qq as k a).1 (run qq as k a).2)(ne:∀t,t<a->¬InG qq (run qq as k t).1 (run qq as k t).2)(hf:a<1000000) :
  nq [.val (hD qq),.val (.tup (as.map D.int)),.val (.int k)]=ZY (bxS 1000 (hD qq) (run qq as k a).2 (a:Int),(run qq as k a).1.map D.int):=by
 have pl:∀t,0<=(run qq as k t).2/\(run qq as k t).2<(qq.length:Int):=λt=>(srun h sh ha h0 h1 t).2
 obtain⟨T,hT,hm⟩:=least (P:=λt=>abb qq (run qq as k t).2=[]) a ((zu h (pl a) sh).mpr ga.back)
 have hTa:T<=a:=by
  rcases gH a T with q |q
  ·exact absurd ((zu h (pl a) sh).mpr ga.back) (hm a q)
  ·exact q
 have gn:∀t,T<=t->abb qq (run qq as k t).2=[]:=λt ht=>by
  refine(zu h (pl t) sh).mpr λx hx=>?_
  have b:=(zu h (pl T) sh).mp hT;have r1:=ak0 h sh ha h0 h1 T (t-T);rw[show T+(t-T)=t by omega] at r1
  exact aac (b x (aac r1 hx)) r1
 have e1:=ahd h sh ha h0 h1 hm hT (by omega)
 have e2:=a0u h sh ha h0 h1 (hD qq) (.tup (as.map D.int)) (.int k) .emp (hD qq) rfl T (T:Int);have test:∀(R:D) (AA:List D) (p n:Int),ux (fr5 (hD qq) (.tup (as.map D.int)) (.int k) (.val R) (hD qq) AA p n)=ZY (.ok (!isN R),fr5 (hD qq) (.tup (as.map D.int)) (.int k) (.val R) (hD qq) AA p n):=λR AA p n=>by
  simp[ux,fr5]
 obtain⟨ρ',e3,rfl⟩:=vp (c:=ux) (g:=agv uw) (λj ρ=>∃t,T<=t/\t<=a/\j=a-t/\ρ=fr5 (hD qq) (.tup (as.map D.int)) (.int k) (.val (aew qq (run qq as k t).1 (run qq as k t).2)) (hD qq) ((run qq as k t).1.map D.int) (run qq as k t).2 (t:Int))
  (λρ=>ρ=fr5 (hD qq) (.tup (as.map D.int)) (.int k) (.val (aew qq (run qq as k a).1 (run qq as k a).2)) (hD qq) ((run qq as k a).1.map D.int) (run qq as k a).2 (a:Int)) (λj ρ z9=>by
   obtain⟨t,ht,hta,rfl,rfl⟩:=z9;obtain⟨b1,b2,b3⟩:=srun h sh ha h0 h1 t;cases ho:outR qq (run qq as k t).1 (run qq as k t).2 with
   |none=>
    have g:=(ax0 h sh b1 ⟨b2,b3⟩ (gn t ht)).mp ho;have:t=a:=by
     rcases gH t a with q |q
     ·exact absurd g (ne t q)
     ·omega
    subst this;refine .inl ⟨_,?_,rfl⟩;rw[test];unfold aew;rw[ho];rfl
   |some r=>
    obtain⟨T',g1,g2,g3,g4⟩:=atq h sh ha h0 h1 (gn t ht) hta ga ho;refine .inr ⟨fr5 (hD qq) (.tup (as.map D.int)) (.int k) (.val (aew qq (run qq as k t).1 (run qq as k t).2)) (hD qq) ((run qq as k t).1.map D.int) (run qq as k t).2 (t:Int),fr5 (hD qq) (.tup (as.map D.int)) (.int k) (.val (aew qq (run qq as k T').1 (run qq as k T').2)) (hD qq) ((run qq as k T').1.map D.int) (run qq as k T').2 (T':Int),a-T',?_,as6 h sh ha h0 h1 _ _ ho g1 g3 g4 (by omega),by omega,T',by omega,g2,rfl,rfl⟩
    rw[test];unfold aew;rw[ho];rfl) fuel (a-T) (fr5 (hD qq) (.tup (as.map D.int)) (.int k) (.val (aew qq (run qq as k T).1 (run qq as k T).2)) (hD qq) ((run qq as k T).1.map D.int) (run qq as k T).2 (T:Int)) (aim (by omega)) ⟨T,aM _,hTa,rfl,rfl⟩
 have em:aci ie [ZY 0,ZY 1,ZY 2] (bu 0 (bu 1 (bu 2 dh))) [.val (hD qq),.val (.tup (as.map D.int)),.val (.int k),.emp,.emp,.emp]=ZY ((bxS 1000 (hD qq) (run qq as k T).2 (T:Int),(run qq as k T).1.map D.int),[.val (hD qq),.val (.tup (as.map D.int)),.val (.int k),.emp,.emp,.emp]):=by
  simp[aci,avh,e1]
 unfold nq strD adq ake;rw[show[Sl.val (hD qq),.val (.tup (as.map D.int)),.val (.int k)]++aJ (6-3) Sl.emp=[.val (hD qq),.val (.tup (as.map D.int)),.val (.int k),.emp,.emp,.emp] from rfl,em]
 dsimp only;rw[amg];have hq:(([Sl.val (hD qq),.val (.tup (as.map D.int)),.val (.int k),.emp,.emp,.emp]:List Sl).all tagB=ZW/\3≠5/\3<([Sl.val (hD qq),.val (.tup (as.map D.int)),.val (.int k),.emp,.emp,.emp]:List Sl).length):=⟨by simp[tagB],by decide,by simp⟩
 rw[if_pos hq];rw[show bC (bC [Sl.val (hD qq),.val (.tup (as.map D.int)),.val (.int k),.emp,.emp,.emp] 3 (.box "Stroll" (bxS 1000 (hD qq) (run qq as k T).2 (T:Int)))) 5 (.own (ZY 1000) ((run qq as k T).1.map D.int))=fr5 (hD qq) (.tup (as.map D.int)) (.int k) .emp (hD qq) ((run qq as k T).1.map D.int) (run qq as k T).2 (T:Int) from rfl]
 unfold dSeq;rw[e2];dsimp only;rw[e3];simp[dNx,fr5,asi]
end
def a0z{qq:LL9}{y:Int}(y0:0<=y)(y1:y<(qq.length:Int))(h:∀z,Rch qq y z->0<=z):y∈zr qq:=fL.mpr ⟨by
 unfold upto;exact bQ.mpr ⟨y.toNat,gP.mpr (by omega),by omega⟩,(adi qq y).mpr h⟩
abbrev Rw:=Nat->Int
def lap(c:Nat)(F:List Rw->Int):List Rw->List Rw->Int
 |_,[]=>0
 |pre,r::rs=>r c*F (pre++rs)-lap c F (pre++[r]) rs
def det:List Nat->List Rw->Int
 | [],[]=>1
 | [],_::_=>0
 |c::cs,rows=>lap c (det cs) [] rows
def SW(F:List Rw->Int):Prop:=∀p a b q,F (p++a::b::q) = - F (p++b::a::q)
theorem au1{c:Nat}{F:List Rw->Int}(hF:SW F)(a b:Rw):∀(q p1 p2:List Rw),lap c F (p1++a::b::p2) q = - lap c F (p1++b::a::p2) q
 | [],_,_=>by simp[lap]
 |r::q,p1,p2=>by
  have ih:=au1 (c:=c) hF a b q p1 (p2++[r]);have e:=hF p1 a b (p2++q);simp only[lap,cU,dG] at ih e ⊢
  rw[ih,e,nF];omega
theorem a0a{c:Nat}{F:List Rw->Int}(hF:SW F)(a b:Rw)(q:List Rw):∀(p pre:List Rw),lap c F pre (p++a::b::q) = - lap c F pre (p++b::a::q)
 | [],pre=>by
  have h:=au1 (c:=c) hF a b q pre [];simp only[lap,bO,cU,dG] at h ⊢
  rw[h];omega
 |r::p,pre=>by
  have ih:=a0a (c:=c) hF a b q p (pre++[r]);have e:=hF (pre++p) a b q;simp only[lap,cU,dG] at ih e ⊢
  rw[ih,e,nF];omega
theorem aq4:∀cs,SW (det cs)
 | []=>λp a b q=>by
  have e:∀x:List Rw,x≠[]->det [] x=0:=λx hx=>by
   cases x with
   |nil=>exact absurd rfl hx
   |cons=>rfl
  rw[e _ (by simp),e _ (by simp)]
  rfl
 |c::cs=>λp a b q=>a0a (aq4 cs) a b q p []
def LN(F:List Rw->Int):Prop:=∀p (x y:Int) (a b:Rw) q,F (p++(λj=>x*a j+y*b j)::q)=x*F (p++a::q)+y*F (p++b::q)
theorem au2{c:Nat}{F:List Rw->Int}(hF:LN F)(x y:Int)(a b:Rw):∀(q p1 p2:List Rw),lap c F (p1++(λj=>x*a j+y*b j)::p2) q=x*lap c F (p1++a::p2) q+y*lap c F (p1++b::p2) q
 | [],_,_=>by simp[lap]
 |r::q,p1,p2=>by
  have ih:=au2 (c:=c) hF x y a b q p1 (p2++[r]);have e:=hF p1 x y a b (p2++q);simp only[lap,cU,dG] at ih e ⊢
  rw[ih,e,jG,nD,nD,fZ,fZ (r c)];omega
theorem a0b{c:Nat}{F:List Rw->Int}(hF:LN F)(x y:Int)(a b:Rw)(q:List Rw):∀(p pre:List Rw),lap c F pre (p++(λj=>x*a j+y*b j)::q)=x*lap c F pre (p++a::q)+y*lap c F pre (p++b::q)
 | [],pre=>by
  have h:=au2 (c:=c) hF x y a b q pre [];simp only[lap,bO] at h ⊢
  rw[h,Int.add_mul,nD,nD,jT,jT];omega
 |r::p,pre=>by
  have ih:=a0b (c:=c) hF x y a b q p (pre++[r]);have e:=hF (pre++p) x y a b q;simp only[lap,cU,dG] at ih e ⊢
  rw[ih,e,jG,nD,nD,fZ,fZ (r c)];omega
theorem av4:∀cs,LN (det cs)
 | []=>λp x y a b q=>by
  have e:∀z:List Rw,z≠[]->det [] z=0:=λz hx=>by
   cases z with
   |nil=>exact absurd rfl hx
   |cons=>rfl
  rw[e _ (by simp),e _ (by simp),e _ (by simp)]
  simp
 |c::cs=>λp x y a b q=>a0b (av4 cs) x y a b q p []
theorem aq5(cs:List Nat)(a:Rw):∀(q p r:List Rw),det cs (p++a::(q++a::r))=0
 | [],p,r=>by
  have:=aq4 cs p a a r;simp only[bO];omega
 |x::q,p,r=>by
  have h:=aq4 cs p a x (q++a::r);have ih:=aq5 cs a q (p++[x]) r;simp only[cU,dG,bO] at h ih ⊢
  rw[h,ih];rfl
theorem a0l(cs:List Nat)(a:Rw):∀(q p r:List Rw),det cs (p++(q++a::r))=det cs (p++a::(q++r))∨det cs (p++(q++a::r)) = - det cs (p++a::(q++r))
 | [],p,r=>.inl rfl
 |x::q,p,r=>by
  have h:=aq4 cs p x a (q++r);have ih:=a0l cs a q (p++[x]) r;simp only[cU,dG,bO] at h ih ⊢
  rcases ih with e |e
  ·right;rw[e,h]
  ·left;rw[e,h];omega
def clr(x u:Int)(r k:Rw):Rw:=λj=>x*r j+(-u)*k j
theorem api(C:List Nat)(k:Rw)(x:Int)(u:Rw->Int):∀(rs pre:List Rw),det C (k::(pre++rs.map λr=>clr x (u r) r k))=x ^ rs.length*det C (k::(pre++rs))
 | [],pre=>by simp
 |r::rs,pre=>by
  have e:=av4 C (k::pre) x (-(u r)) r k (rs.map λr=>clr x (u r) r k)
  have z:=aq5 C k pre [] (rs.map λr=>clr x (u r) r k)
  have ih:=api C k x u rs (pre++[r]);simp only[cU,dG,bO,bB,bG] at e z ih ⊢
  show det C (k::(pre++(λj=>x*r j+(-(u r))*k j)::_))=_
  rw[e,z,ih,iQ,kY,oG,gK (x ^ rs.length) x,jT]
theorem aqk{c:Nat}{F:List Rw->Int}:∀(rs pre:List Rw),(∀r∈rs,r c=0)->lap c F pre rs=0
 | [],_,_=>rfl
 |r::rs,pre,h=>by
  show r c*F (pre++rs)-lap c F (pre++[r]) rs=0;rw[h r (aQ ..),aqk rs _ λx hx=>h x (aK _ hx)]
  simp
def chio(c:Nat)(cs:List Nat)(k:Rw)(rs:List Rw):k c*det cs (rs.map λr=>clr (k c) (r c) r k)=k c ^ rs.length*det (c::cs) (k::rs):=by
 have e:=api (c::cs) k (k c) (λr=>r c) rs []
 rw[bO,bO] at e;rw[<-e];show _=lap c (det cs) [] (k::_);show _=k c*det cs ([]++_)-lap c (det cs) ([]++[k]) _;rw[aqk]
 ·simp
 ·intro r hr;obtain⟨r0,_,rfl⟩:=bQ.mp hr;show k c*r0 c+(-(r0 c))*k c=0;rw[rC,gK];omega
theorem aiy(cs:List Nat)(x:Int):∀(rs pre:List Rw),det cs (pre++rs.map λr j=>x*r j)=x ^ rs.length*det cs (pre++rs)
 | [],pre=>by simp
 |r::rs,pre=>by
  have e:=av4 cs pre x 0 r r (rs.map λr j=>x*r j)
  have ih:=aiy cs x rs (pre++[r]);have z:(λj=>x*r j+0*r j)=λj=>x*r j:=by funext j;simp
  rw[z] at e;simp only[cU,dG,bO,bB,bG] at e ih ⊢
  rw[e,ih,jM,kY,oG,gK (x ^ rs.length) x,jT]
def Dvd(d:Int)(n:Nat)(M:Nat->Rw):Prop:=∀(is cs:List Nat),(∀i∈is,i<n)->is≠[]->d ^ (is.length-1) ∣ det cs (is.map M)
def Dvd.one(n:Nat)(M:Nat->Rw):Dvd 1 n M:=λis cs _ _=>by rw[Int.one_pow];exact Int.one_dvd _
def Dvd.two{d:Int}{n:Nat}{M:Nat->Rw}(h:Dvd d n M){i k:Nat}(hi:i<n)(hk:k<n)(c j:Nat):d ∣ M k c*M i j-M i c*M k j:=by
 have:=h [k,i] [c,j] (λx hx=>by simp at hx;omega) (by simp)
 simp[det,lap] at this;have e:d ^ 1=d:=by rw[oG,Int.pow_zero,pA]
 rwa[e] at this
def stM(d:Int)(k:Nat)(M:Nat->Rw):Nat->Rw:=λi j=>if i=k then M k j else (M k k*M i j-M i k*M k j) / d
section
variable{d:Int}{n:Nat}{M:Nat->Rw}(h:Dvd d n M){k:Nat}(hk:k<n)(hd:d≠0)
include h hk hd
omit hd in
theorem ate{i:Nat}(hi:i<n)(hne:i≠k)(j:Nat):d*stM d k M i j=M k k*M i j-M i k*M k j:=by
 unfold stM;rw[if_neg hne];exact Int.mul_ediv_cancel' (h.two hi hk k j)
theorem apy(is:List Nat)(hi:∀i∈is,i<n)(hn:k∉is):(is.map (stM d k M)).map (λr j=>d*r j)=(is.map M).map λr=>clr (M k k) (r k) r (M k):=by
 rw[eV,eV];apply iC;intro i hm
 funext j
 have:=ate h hk (hi i hm) (λe=>hn (e▸hm)) j
 show d*stM d k M i j=M k k*M i j+(-(M i k))*M k j;rw[this,rC];omega
theorem Dvd.step(hp:M k k≠0):Dvd (M k k) n (stM d k M):=λis cs hi hne=>by
 by_cases hm:k∈is
 ·obtain⟨a,b,rfl⟩:=pF hm
  by_cases ha:k∈a++b
  ·-- twice
   have z:det cs ((a++k::b).map (stM d k M))=0:=by
    rw[cI,bB];rcases cX.mp ha with q |q
    ·obtain⟨a1,a2,rfl⟩:=pF q;rw[cI,bB,cU,dG];exact aq5 cs _ _ _ _
    ·obtain⟨b1,b2,rfl⟩:=pF q;rw[cI,bB];exact aq5 cs _ _ _ _
   rw[z];exact Int.dvd_zero _
  ·have hab:∀i∈a++b,i<n:=λi q=>hi i (by
    rcases cX.mp q with q |q
    ·exact lF _ q
    ·exact cL _ (aK _ q))
   have e1:=apy h hk hd (a++b) hab ha;have ek:stM d k M k=M k:=by funext j;unfold stM;rw[if_pos rfl]
   have e2:=aiy cs d ((a++b).map (stM d k M)) [M k];have e3:=api cs (M k) (M k k) (λr=>r k) ((a++b).map M) []
   obtain⟨q,e4⟩:=h (k::(a++b)) cs (λi hi'=>by
    rcases bF.mp hi' with rfl |z
    ·exact hk
    ·exact hab i z) (by simp)
   rw[e1] at e2;simp only[bO,dG,aC,bB,bG,pD] at e2 e3 e4;rw[e3,e4] at e2;have e5:det cs (M k::(a++b).map (stM d k M))=M k k ^ (a++b).length*q:=by
    refine fK (vY hd) ((e2.symm).trans ?_);rw[fZ]
   have e6:=a0l cs (M k) (a.map (stM d k M)) [] (b.map (stM d k M));rw[bO,bO,<-cI,e5] at e6;rw[cI,bB,ek,show(a++k::b).length-1=(a++b).length by simp]
   rcases e6 with z |z
   ·exact⟨q,z⟩
   ·exact⟨-q,by rw[z,nF]⟩
 ·have e1:=apy h hk hd is hi hm;have e2:=aiy cs d (is.map (stM d k M)) [];have e3:=chio k cs (M k) (is.map M);obtain⟨q,e4⟩:=h (k::is) (k::cs) (λi hi'=>by
   rcases bF.mp hi' with rfl |z
   ·exact hk
   ·exact hi i z) (by simp)
  rw[e1] at e2;simp only[bO,aC,bB,bG,pD] at e2 e3 e4;rw[e2,e4] at e3;have e5:M k k*det cs (is.map (stM d k M))=M k k ^ is.length*q:=by
   refine fK (show d ^ is.length≠0 from vY hd) ?_
   rw[fZ,e3,fZ]
  have hl:is.length=is.length-1+1:=by have:=lU.mpr hne;omega
  rw[hl,oG,gK (M k k ^ (is.length-1)) (M k k),jT] at e5;exact⟨q,fK hp e5⟩
end
theorem an9{f:Int->Int}{m:Int}:∀{l:List Int},(∀d∈l,f d<=m)->(l.map f).sum<=m*(l.length:Int)
 | [],_=>by simp
 |d::l,h=>by
  have a:=h d (aQ ..);have b:=an9 (l:=l) λx hx=>h x (aK _ hx)
  rw[bB,iT,bG,rD,jG];simp;omega
theorem ajr{f:Int->Int}{m:Int}:∀{l:List Int},(∀d∈l,f d<=m)->m*(l.length:Int)<=(l.map f).sum->∀d∈l,f d=m
 |d::l,h,hs,x,hx=>by
  have a:=h d (aQ ..);have b:=an9 (l:=l) λx hx=>h x (aK _ hx)
  rw[bB,iT,bG,rD,jG] at hs;simp at hs;rcases bF.mp hx with rfl |q
  ·omega
  ·exact ajr (λx hx=>h x (aK _ hx)) (by omega) x q
theorem awx(X:Int->Int):∀n:Nat,0<n->∃i:Int,0<=i/\i<(n:Int)/\∀j:Int,0<=j->j<(n:Int)->X j<=X i
 | 1,_=>⟨0,by omega,by omega,λj a b=>by
  have:j=0:=by omega
  rw[this];exact Int.le_refl _⟩
 |n+2,_=>by
  obtain⟨i,i0,i1,h⟩:=awx X (n+1) (by omega)
  by_cases q:X i<=X ((n+1:Nat):Int)
  ·refine⟨((n+1:Nat):Int),by omega,by omega,λj a b=>?_⟩
   by_cases e:j=((n+1:Nat):Int)
   ·rw[e];exact Int.le_refl _
   ·exact qI (h j a (by omega)) q
  ·refine⟨i,i0,by omega,λj a b=>?_⟩
   by_cases e:j=((n+1:Nat):Int)
   ·rw[e];omega
   ·exact h j a (by omega)
section
variable{qq:LL9}(h:Hs qq)(hop:zr qq=[])
include h hop
theorem auu{X:Int->Int}(hg:∀d,d<0->X d=0)(hX:∀i,0<=i->i<(qq.length:Int)->0<X i->((dr qq i).length:Int)*X i<=((dr qq i).map X).sum)(i:Int)(i0:0<=i)(i1:i<(qq.length:Int)):X i<=0:=by
 apply eH;intro hi;obtain⟨t,t0,t1,ht⟩:=awx X qq.length h.one;have hpos:0<X t:=by have:=ht i i0 i1;omega
 have le:∀y,0<=y->y<(qq.length:Int)->∀d∈dr qq y,X d<=X t:=λy y0 y1 d hd=>by
  have b:=(h.dr y0 y1).2.2 d hd;rcases oH d 0 with q |q
  ·rw[hg d q];omega
  ·exact ht d q b.2
 have all:∀z,Rch qq t z->(0<=z/\z<(qq.length:Int))/\X z=X t:=λz hz=>by
  induction hz with
  |base=>exact⟨⟨t0,t1⟩,rfl⟩
  | @step x d r _ hd ih=>
   obtain⟨⟨x0,x1⟩,e⟩:=ih;have a:=hX x x0 x1 (by omega)
   rw[e,gK] at a;have q:=ajr (le x x0 x1) a d hd;have b:=(h.dr x0 x1).2.2 d hd;refine⟨⟨?_,b.2⟩,q⟩;rcases oH d 0 with z |z
   ·rw[hg d z] at q;omega
   ·exact z
 have:=a0z t0 t1 λz hz=>(all z hz).1.1
 rw[hop] at this;cases this
end
noncomputable def dot:Nat->Rw->Rw->Int
 | 0,_,_=>0
 |m+1,r,y=>dot m r y+r m*y m
theorem aiw(x z:Int)(a b y:Rw):∀m,dot m (λj=>x*a j+z*b j) y=x*dot m a y+z*dot m b y
 | 0=>by simp[dot]
 |m+1=>by
  show dot m _ y+(x*a m+z*b m)*y m=x*(dot m a y+a m*y m)+z*(dot m b y+b m*y m);rw[aiw x z a b y m,Int.add_mul,jG,jG,jT,jT];omega
theorem acz{a b y z:Rw}:∀m,(∀j<m,a j=b j)->(∀j<m,y j=z j)->dot m a y=dot m b z
 | 0,_,_=>rfl
 |m+1,h,g=>by
  show dot m a y+_=dot m b z+_;rw[acz m (λj hj=>h j (by omega)) (λj hj=>g j (by omega)),h m (by omega),g m (by omega)]
theorem afi{a y:Rw}:∀m,(∀j<m,a j*y j=0)->dot m a y=0
 | 0,_=>rfl
 |m+1,h=>by
  show dot m a y+_=0;rw[afi m λj hj=>h j (by omega),h m (by omega)]
  rfl
theorem aiv{a y:Rw}{i:Nat}:∀m,i<m->(∀j<m,j≠i->a j*y j=0)->dot m a y=a i*y i
 |m+1,hi,h=>by
  show dot m a y+a m*y m=_
  by_cases e:i=m
  ·subst e;rw[afi i λj hj=>h j (by omega) (by omega)]
   omega
  ·rw[aiv m (by omega) λj hj=>h j (by omega),h m (by omega) (fO e)]
   omega
theorem av3{a y z:Rw}:∀m,dot m a (λj=>y j+z j)=dot m a y+dot m a z
 | 0=>rfl
 |m+1=>by
  show dot m a _+a m*(y m+z m)=dot m a y+a m*y m+(dot m a z+a m*z m);rw[av3 m,jG];omega
def BS(M0:Nat->Rw):Nat->Int×(Nat->Rw)
 | 0=>(1,M0)
 |k+1=>((BS M0 k).2 k k,stM (BS M0 k).1 k (BS M0 k).2)
structure BJ (n m:Nat) (M0:Nat->Rw) (P:Nat->Prop) (d:Int) (M:Nat->Rw):Prop where
 pos:0<d
 dvd:Dvd d n M
 pin:∀j,P j->j<n
 shape:∀i<n,∀j,P j->M i j=if i=j then d else 0
 back:∀y,(∀j,P j->dot m (M j) y=0)->(∀j,P j->dot m (M0 j) y=0)/\∀i,i<n->¬P i->dot m (M i) y=d*dot m (M0 i) y
def BJ.zero(n m:Nat)(M0:Nat->Rw):BJ n m M0 (λ_=>False) 1 M0:=⟨by decide,Dvd.one n M0,λ_ h=>h.elim,λ_ _ _ h=>h.elim,λy _=>⟨λj hj=>hj.elim,λi _ _=>by rw[pA]⟩⟩
def BJ.to{n m:Nat}{M0:Nat->Rw}{P Q:Nat->Prop}{d:Int}{M:Nat->Rw}(b:BJ n m M0 P d M)(h:∀j,P j↔Q j):BJ n m M0 Q d M:=by
 have:P=Q:=funext λj=>propext (h j)
 rwa[<-this]
def BJ.step{n m:Nat}{M0:Nat->Rw}{P:Nat->Prop}{d:Int}{M:Nat->Rw}(b:BJ n m M0 P d M){k:Nat}(hk:k<n)(hnk:¬P k)(hp:0<M k k):BJ n m M0 (λj=>P j∨j=k) (M k k) (stM d k M):=by
 obtain⟨p1,p2,pin,p3,p4⟩:=b;have mul:=λ{i:Nat} (hi:i<n) (hne:i≠k) j=>ate p2 hk hi hne j
 have hd:d≠0:=by omega
 have st:=p2.step hk hd (by omega)
 have ek:stM d k M k=M k:=by funext j;unfold stM;rw[if_pos rfl]
 have dm:∀i,i<n->i≠k->∀y,d*dot m (stM d k M i) y=M k k*dot m (M i) y-M i k*dot m (M k) y:=λi hi hne y=>by
  have a:=aiw d 0 (stM d k M i) (stM d k M i) y m;have c:=aiw (M k k) (-(M i k)) (M i) (M k) y m;rw[jM,kY] at a;rw[<-a,Int.sub_eq_add_neg,<-rC,<-c];refine acz m (λj _=>?_) λ_ _=>rfl
  rw[jM,kY,mul hi hne j,rC];omega
 refine⟨hp,st,λj hj=>?_,λi hi j hj=>?_,λy hy=>?_⟩
 ·rcases hj with z |z
  ·exact pin j z
  ·omega
 ·by_cases hik:i=k
  ·subst hik;rw[ek]
   by_cases hjk:j=i
   ·subst hjk;rw[if_pos rfl]
   ·have hPj:P j:=hj.elim id λz=>absurd z hjk
    rw[if_neg (fO hjk),p3 i hi j hPj,if_neg (fO hjk)]
  ·refine fK hd ?_;rw[mul hi hik j]
   by_cases hjk:j=k
   ·subst hjk;rw[if_neg hik,gK];omega
   ·have hPj:P j:=hj.elim id λz=>absurd z hjk
    rw[p3 i hi j hPj,p3 k hk j hPj,if_neg (show ¬k=j from fO hjk)]
    by_cases hij:i=j
    ·rw[if_pos hij,if_pos hij,gK];omega
    ·rw[if_neg hij,if_neg hij];simp
 ·have hkk:dot m (M k) y=0:=by have:=hy k (.inr rfl);rwa[ek] at this
  have hj:∀j,P j->dot m (M j) y=0:=λj hj=>by
   have hjk:j≠k:=λe=>hnk (e▸hj)
   have a:=dm j (pin j hj) hjk y;rw[hy j (.inl hj),hkk,iQ,iQ,Int.sub_zero] at a;rcases wA.mp a.symm with z |z
   ·omega
   ·exact z
  obtain⟨b1,b2⟩:=p4 y hj;refine⟨λj hj'=>?_,λi hi hki=>?_⟩
  ·rcases hj' with z |z
   ·exact b1 j z
   ·subst z;have:=b2 j hk hnk;rw[hkk] at this;rcases wA.mp this.symm with z |z
    ·omega
    ·exact z
  ·have hik:i≠k:=λe=>hki (.inr e)
   have a:=dm i hi hik y;rw[hkk,iQ,Int.sub_zero,b2 i hi (λz=>hki (.inl z)),fZ] at a
   exact fK hd a
def dsq(qq:LL9):Nat->Rw:=λi j=>(if i=j then ((dr qq (i:Int)).length:Int) else 0)-((dr qq (i:Int)).count (j:Int):Int)
def xt(y:Rw)(d:Int):Int:=if d<0 then 0 else y d.toNat
theorem ano(y:Rw){n:Nat}:∀l:List Int,(∀d∈l,d<(n:Int))->dot n (λj=>(l.count (j:Int):Int)) y=(l.map (xt y)).sum
 | [],_=>afi n λj _=>by simp
 |d::l,h=>by
  have ih:=ano y l λx hx=>h x (aK _ hx)
  have hd:=h d (aQ ..);have e:=aiw 1 1 (λj=>(l.count (j:Int):Int)) (λj=>if d=(j:Int) then 1 else 0) y n
  rw[ih,pA,pA] at e;rw[bB,iT];have e1:dot n (λj=>(((d::l).count (j:Int):Nat):Int)) y=dot n (λj=>1*(l.count (j:Int):Int)+1*(if d=(j:Int) then 1 else 0)) y:=by
   refine acz n (λj _=>?_) λ_ _=>rfl
   rw[oF]
   by_cases q:d=(j:Int)
   ·simp[q]
   ·simp[q]
  have e2:dot n (λj=>if d=(j:Int) then 1 else 0) y=xt y d:=by
   unfold xt
   by_cases q:d<0
   ·rw[if_pos q];exact afi n λj _=>by rw[if_neg (by omega),jM]
   ·rw[if_neg q,aiv (i:=d.toNat) n (by omega) λj _ hj=>by rw[if_neg (by omega),jM],if_pos (by omega),pA]
  rw[e1,e,e2];omega
section
variable{qq:LL9}(h:Hs qq)
include h
theorem a3v(y:Rw){i:Nat}(hi:i<qq.length):dot qq.length (dsq qq i) y=((dr qq (i:Int)).length:Int)*y i-((dr qq (i:Int)).map (xt y)).sum:=by
 have e:=aiw 1 (-1) (λj=>if i=j then ((dr qq (i:Int)).length:Int) else 0) (λj=>((dr qq (i:Int)).count (j:Int):Int)) y qq.length
 rw[ano y _ λd hd=>((h.dr (x:=(i:Int)) (by omega) (by omega)).2.2 d hd).2] at e
 have e1:dot qq.length (dsq qq i) y=dot qq.length (λj=>1*(if i=j then ((dr qq (i:Int)).length:Int) else 0)+(-1)*((dr qq (i:Int)).count (j:Int):Int)) y:=by
  refine acz _ (λj _=>?_) λ_ _=>rfl
  unfold dsq;omega
 have e2:dot qq.length (λj=>if i=j then ((dr qq (i:Int)).length:Int) else 0) y=((dr qq (i:Int)).length:Int)*y i:=by
  rw[aiv (i:=i) _ hi λj _ hj=>by rw[if_neg (fO hj),jM],if_pos rfl]
 rw[e1,e,e2];omega
variable(hop:zr qq=[])
include hop
theorem a2p(y:Rw)(l:List Int):(l.map λd => - xt y d).sum = - (l.map (xt y)).sum:=by
 induction l with
 |nil=>rfl
 |cons x l ih=>rw[bB,bB,iT,iT,ih];omega
open Classical in
theorem colY{M0:Nat->Rw}(hM:∀i<qq.length,∀j<qq.length,M0 i j=dsq qq i j){P:Nat->Prop}{d:Int}{M:Nat->Rw}(b:BJ qq.length (qq.length+1) M0 P d M){k:Nat}(hk:k<qq.length)(hnk:¬P k):∃Y:Rw,Y k=d/\(∀j,¬P j->j≠k->Y j=0)/\(∀i,P i->M i k = - Y i)/\(∀i,P i->((dr qq (i:Int)).length:Int)*Y i-((dr qq (i:Int)).map (xt Y)).sum=0)/\∀i<qq.length,¬P i->((dr qq (i:Int)).length:Int)*Y i-((dr qq (i:Int)).map (xt Y)).sum=M i k:=by
 obtain⟨p1,p2,pin,p3,p4⟩:=b;have ds:∀i,dot (qq.length+1) (M i) (λj=>(if P j then-M j k else 0)+(if j=k then d else 0))=dot (qq.length+1) (M i) (λj=>if P j then-M j k else 0)+M i k*d:=λi=>by
  rw[av3,aiv (i:=k) (y:=λj=>if j=k then d else 0) _ (by omega) λj _ hj=>by rw[if_neg hj,iQ]]
  rw[if_pos rfl]
 obtain⟨q1,q2⟩:=p4 (λj=>(if P j then-M j k else 0)+(if j=k then d else 0)) λj hj=>by
  have hjn:=pin j hj;rw[ds j,aiv (i:=j) _ (by omega) λj' hj' hne=>by
   by_cases q:P j'
   ·rw[p3 j hjn j' q,if_neg (fO hne),jM]
   ·rw[if_neg q,iQ],p3 j hjn j hj,if_pos rfl,if_pos hj,nF,gK]
  omega
 have q2:∀i,i<qq.length->¬P i->dot (qq.length+1) (M0 i) (λj=>(if P j then-M j k else 0)+(if j=k then d else 0))=M i k:=λi hi hki=>by
  have q2:=q2 i hi hki;rw[ds i,afi _ λj' hj'=>by
   by_cases q:P j'
   ·rw[p3 i hi j' q,if_neg (λe:i=j'=>hki (by rw[e];exact q)),jM]
   ·rw[if_neg q,iQ],Int.zero_add,gK] at q2
  exact(fK (by omega) q2).symm
 have hPn:¬P qq.length:=λz=>by have:=pin _ z;omega
 have lo:∀i,i<qq.length->dot (qq.length+1) (M0 i) (λj=>(if P j then-M j k else 0)+(if j=k then d else 0))=((dr qq (i:Int)).length:Int)*((if P i then-M i k else 0)+(if i=k then d else 0))-((dr qq (i:Int)).map (xt λj=>(if P j then-M j k else 0)+(if j=k then d else 0))).sum:=λi hi=>by
  rw[<-a3v h (λj=>(if P j then-M j k else 0)+(if j=k then d else 0)) hi]
  show dot qq.length _ _+M0 i qq.length*((if P qq.length then-M qq.length k else 0)+(if qq.length=k then d else 0))=_
  rw[if_neg hPn,if_neg (by omega),kY,iQ,kY]
  exact acz _ (λj hj=>hM i hi j hj) λ_ _=>rfl
 refine⟨λj=>(if P j then-M j k else 0)+(if j=k then d else 0),?_,λj hj hjk=>?_,λi hi=>?_,λi hi=>?_,λi hi hki=>?_⟩
 ·show(if P k then _ else _)+(if k=k then d else 0)=d
  rw[if_neg hnk,if_pos rfl,Int.zero_add]
 ·show(if P j then _ else _)+(if j=k then d else 0)=0
  rw[if_neg hj,if_neg hjk];rfl
 ·show M i k = - ((if P i then-M i k else 0)+(if i=k then d else 0))
  rw[if_pos hi,if_neg (λe:i=k=>hnk (by rw[<-e];exact hi))]
  omega
 ·rw[<-lo i (pin i hi),q1 i hi]
 ·rw[<-lo i hi,q2 i hi hki]
theorem az4{M0:Nat->Rw}(hM:∀i<qq.length,∀j<qq.length,M0 i j=dsq qq i j){P:Nat->Prop}{d:Int}{M:Nat->Rw}(b:BJ qq.length (qq.length+1) M0 P d M){k:Nat}(hk:k<qq.length)(hnk:¬P k):0<M k k/\M k k<=6*d/\∀i<qq.length,-(6*d)<=M i k/\M i k<=6*d:=by
 have p1:=b.pos;obtain⟨Y,Yk,Yb,m1,q1,q2⟩:=colY h hop hM b hk hnk;have hx0:∀d,d<0->xt Y d=0:=λd hd=>by unfold xt;rw[if_pos hd]
 have xi:∀i:Int,0<=i->xt Y i=Y i.toNat:=λi hi=>by unfold xt;rw[if_neg (by omega)]
 have nn:∀i:Int,0<=i->i<(qq.length:Int)->0<=xt Y i:=λi i0 i1=>by
  have:=auu h hop (X:=λd => - xt Y d) (λd hd=>by show-xt Y d=0;rw[hx0 d hd];rfl) (λi i0 i1 hi=>by
   have hik:P i.toNat:=by
    apply eH;intro z
    by_cases e:i.toNat=k
    ·rw[xi i i0,e,Yk] at hi;omega
    ·rw[xi i i0,Yb _ z e] at hi;omega
   have a:=q1 _ hik;rw[show((i.toNat:Nat):Int)=i by omega] at a
   rw[a2p h hop,xi i i0,nF];omega) i i0 i1
  omega
 have up:∀i:Int,0<=i->i<(qq.length:Int)->xt Y i<=d:=λi i0 i1=>by
  have:=auu h hop (X:=xt λj=>Y j+(-d)) (λd hd=>by unfold xt;rw[if_pos hd]) (λi i0 i1 hi=>by
   have e:xt (λj=>Y j+(-d)) i=Y i.toNat+(-d):=by unfold xt;rw[if_neg (by omega)]
   rw[e] at hi ⊢
   have hik:P i.toNat:=by
    apply eH;intro z
    by_cases e:i.toNat=k
    ·rw[e,Yk] at hi;omega
    ·rw[Yb _ z e] at hi;omega
   have a:=q1 _ hik;rw[show((i.toNat:Nat):Int)=i by omega] at a
   have s:∀l:List Int,(l.map (xt Y)).sum-d*(l.length:Int)<=(l.map (xt λj=>Y j+(-d))).sum:=λl=>by
    induction l with
    |nil=>simp
    |cons x l ih=>
     rw[bB,bB,iT,iT,bG,rD,jG];have:xt Y x-d<=xt (λj=>Y j+(-d)) x:=by
      unfold xt;split
      ·omega
      ·show Y x.toNat-d<=Y x.toNat+(-d);omega
     simp;omega
   have:=s (dr qq i);rw[jG,nF,gK _ d];omega) i i0 i1
  have e:xt (λj=>Y j+(-d)) i=xt Y i+(-d):=by unfold xt;rw[if_neg (by omega),if_neg (by omega)]
  rw[e] at this;omega
 have sb:∀i:Nat,i<qq.length->0<=((dr qq (i:Int)).map (xt Y)).sum/\((dr qq (i:Int)).map (xt Y)).sum<=6*d:=λi hi=>by
  obtain⟨_,l6,hb⟩:=h.dr (x:=(i:Int)) (by omega) (by omega)
  have s1:∀x∈dr qq (i:Int),0<=xt Y x/\xt Y x<=d:=λx hx=>by
   rcases oH x 0 with z |z
   ·rw[hx0 x z];omega
   ·exact⟨nn x z (hb x hx).2,up x z (hb x hx).2⟩
  have s2:=an9 (f:=xt Y) (m:=d) λx hx=>(s1 x hx).2
  have s3:d*((dr qq (i:Int)).length:Int)<=d*6:=Int.mul_le_mul_of_nonneg_left (by omega) (by omega)
  refine⟨?_,by omega⟩
  have s4:∀l:List Int,(∀x∈l,0<=xt Y x)->0<=(l.map (xt Y)).sum:=λl=>by
   induction l with
   |nil=>intro _;simp
   |cons x l ih=>
    intro hl;rw[bB,iT];have:=ih λy hy=>hl y (aK _ hy)
    have:=hl x (aQ ..);omega
  exact s4 _ λx hx=>(s1 x hx).1
 have dk:=h.dr (x:=(k:Int)) (by omega) (by omega)
 have a:=q2 k hk hnk;rw[Yk] at a;have kd:((dr qq (k:Int)).length:Int)*d<=6*d:=qH (by omega) (by omega)
 have pos:0<M k k:=by
  apply eH;intro hneg;have:=auu h hop (X:=xt Y) hx0 (λi i0 i1 hi=>by
   rw[xi i i0] at hi ⊢
   by_cases z:P i.toNat
   ·have c:=q1 _ z;rw[show((i.toNat:Nat):Int)=i by omega] at c
    omega
   ·by_cases e:i.toNat=k
    ·have c:=q2 i.toNat (by omega) z
     rw[show((i.toNat:Nat):Int)=i by omega,e] at c
     rw[e];omega
    ·rw[Yb _ z e] at hi;omega) (k:Int) (by omega) (by omega)
  rw[xi _ (by omega),cM,Yk] at this
  omega
 have sk:=sb k hk;refine⟨pos,by omega,λi hi=>?_⟩
 by_cases z:P i
 ·rw[m1 i z];have u:=up (i:Int) (by omega) (by omega)
  have l:=nn (i:Int) (by omega) (by omega)
  rw[xi _ (by omega),cM] at u l
  omega
 ·by_cases e:i=k
  ·subst e;omega
  ·have c:=q2 i hi z;rw[Yb i z e,iQ] at c;have:=sb i hi;omega
theorem aw0{M0:Nat->Rw}(hM:∀i<qq.length,∀j<qq.length,M0 i j=dsq qq i j):∀k,k<=qq.length->BJ qq.length (qq.length+1) M0 (λj=>j<k) (BS M0 k).1 (BS M0 k).2/\(BS M0 k).1<=6 ^ k
 | 0,_=>⟨(BJ.zero ..).to λj=>⟨λz=>z.elim,λz=>by omega⟩,by show(1:Int)<=1;omega⟩
 |k+1,hk=>by
  obtain⟨a,c⟩:=aw0 hM k (by omega)
  obtain⟨p1,p2,_⟩:=az4 h hop hM a (k:=k) (by omega) (by omega)
  refine⟨(a.step (by omega) (by omega) p1).to λj=>by omega,?_⟩
  show(BS M0 k).2 k k<=6 ^ (k+1);rw[oG,gK];omega
theorem ba0{M0:Nat->Rw}(hM:∀i<qq.length,∀j<qq.length,M0 i j=dsq qq i j){k:Nat}(b:BJ qq.length (qq.length+1) M0 (λj=>j<k) (BS M0 k).1 (BS M0 k).2)(hk:k<qq.length):0<(BS M0 k).2 k k/\(BS M0 k).2 k k<=6*(BS M0 k).1/\∀i<qq.length,-(6*(BS M0 k).1)<=(BS M0 k).2 i k/\(BS M0 k).2 i k<=6*(BS M0 k).1:=az4 h hop hM b hk (by omega)
end
section
variable{qq:LL9}(h:Hs qq)(hop:zr qq=[])
include h hop
end
def rwD(m:Nat)(r:Rw):D:=.lst ((aV m).map λj=>.int (r j))
def mtD(n m:Nat)(M:Nat->Rw):List D:=(aV n).map λi=>rwD m (M i)
def wu(n m:Nat)(M:Nat->Rw):(mtD n m M).length=n:=by simp[mtD]
def alf(n m:Nat)(M:Nat->Rw):mtD (n+1) m M=mtD n m M++[rwD m (M n)]:=by unfold mtD;rw[jN,cI];rfl
def aqg{n m:Nat}{M:Nat->Rw}{k:Nat}(hk:k<n):atI (mtD n m M) (k:Int)=ZY (rwD m (M k)):=by
 unfold atI;rw[ah8 (by omega) (by rw[wu];omega),cM]
 show(mtD n m M)[k]? = _;unfold mtD;rw[aL,bV hk];rfl
def ajx{m:Nat}{r:Rw}{k:Nat}(hk:k<m):atI ((aV m).map λj=>D.int (r j)) (k:Int)=ZY (.int (r k)):=by
 unfold atI;rw[ah8 (by omega) (by simp;omega),cM]
 show((aV m).map λj=>D.int (r j))[k]? = _
 rw[aL,bV hk];rfl
def yz(m:Nat)(r:Rw):((aV m).map λj=>D.int (r j)).length=m:=by simp
def arx{k n:Nat}(hk:k<n):∃rest,rangeD (k:Int) (n-k)=.int (k:Int)::rest:=by
 obtain⟨c,hc⟩:∃c,n-k=c+1:=⟨n-k-1,by omega⟩
 rw[hc];refine⟨(aV c).map λi=>.int ((k:Int)+((i+1:Nat):Int)),?_⟩
 unfold rangeD;rw[List.range_succ_eq_map,bB,eV];show D.int ((k:Int)+((0:Nat):Int))::_=_;rw[show(k:Int)+((0:Nat):Int)=k by omega]
 rfl
def aoi{n m:Nat}{M:Nat->Rw}{k:Nat}(hk:k<n)(hm:k<m)(hn:n<1000)(h0:M k k≠0):abd [.own (ZY 0) (mtD n m M),.val (.int (k:Int))]=ZY (.ok (.v (.int (k:Int))),[.own (ZY 0) (mtD n m M),.val (.int (k:Int))]):=by
 have e1:=aqg (m:=m) (M:=M) hk;have e2:=ajx (r:=M k) hm;have hl:=wu n m M;obtain⟨rest,er⟩:=arx hk;unfold rwD at e1;generalize mtD n m M=mm at *;have e3:aed [.own (ZY 0) mm,.val (.int (k:Int)),.val (.int (k:Int))]=ZY (.ret (.v (.int (k:Int))),[.own (ZY 0) mm,.val (.int (k:Int)),.val (.int (k:Int))]):=by
  simp[aed,e1,e2,h0]
 have hb:((n:Int)-(k:Int)).toNat=n-k:=by omega
 have hb1:k<4611686018427387904:=by omega
 have hb2:n<4611686018427387904:=by omega
 simp[abd,aj7,hl,hb,hb1,hb2,er,ph,e3]
def av9(n m:Nat)(M:Nat->Rw)(hm:m<=1000):compD (cz 0) (ret ZW) agc (mtD n m M) [] [.emp]=ZY (.ok (mtD n m M),aa9 .emp (mtD n m M)::[]):=by
 rw[vh (f:=id)]
 ·simp
 ·intro d hd;unfold mtD at hd;obtain⟨i,_,rfl⟩:=bQ.mp hd;have hl:=yz m (M i);unfold rwD;have hc:((aV m).map λj=>D.int (M i j)).length<=capS:=by rw[hl];exact di hm
  simp[agc,hc]
def aro{n m:Nat}{M:Nat->Rw}(k:Int)(hn:n<=1000)(hm:m<=1000):aco [.val (.lst (mtD n m M)),.val (.int k),.val (.int k)]=ZY (.ok (.fr (mtD n m M)),[.val (.lst (mtD n m M)),.val (.int k),.val (.int k)]):=by
 have e:=av9 n m M hm;have hl:=wu n m M;have hc:(mtD n m M).length<=capS:=by rw[hl];exact di hn
 simp[aco,am9,e,hc]
def asp{m:Nat}{k i:Nat}{M:Nat->Rw}{d:Int}(hk:k<m)(hd0:0<d)(hd1:d<1000000000000000000000000000000000000000000000000000000000000)(hik:i≠k)(hkk : -18446744073709551616<M k k/\M k k<18446744073709551616)(hic : -18446744073709551616<M i k/\M i k<18446744073709551616):∃q1 q2,compD (bTup 2 (kj (cz 0) (kj (cz 1) bNil))) (ret ZW) adh (sy ((aV m).map λj=>D.int (M i j)) ((aV m).map λj=>D.int (M k j))) [] [.emp,.emp,.val (rwD m (M i)),.val (rwD m (M k)),.val (.int d),.val (.int (k:Int))] =
  ZY (.ok ((aV m).map λj=>D.int (stM d k M i j)),[q1,q2,.val (rwD m (M i)),.val (rwD m (M k)),.val (.int d),.val (.int (k:Int))]):=by
 have ek:=ajx (r:=M k) hk;have ei:=ajx (r:=M i) hk;have comp:=vm (b:=bTup 2 (kj (cz 0) (kj (cz 1) bNil))) (mc:=ret ZW) (me:=adh) (λj ys ρ=>∃o1 o2:Sl,ρ=[o1,o2,.val (rwD m (M i)),.val (rwD m (M k)),.val (.int d),.val (.int (k:Int))]/\ys=(aV j).map λj=>D.int (stM d k M i j))
  (l:=sy ((aV m).map λj=>D.int (M i j)) ((aV m).map λj=>D.int (M k j))) (ys:=[]) (ρ:=[.emp,.emp,.val (rwD m (M i)),.val (rwD m (M k)),.val (.int d),.val (.int (k:Int))]) 0 ⟨.emp,.emp,rfl,rfl⟩ ?_
 ·obtain⟨ys,ρ',e6,o1,o2,rfl,rfl⟩:=comp;have hz:(sy ((aV m).map λj=>D.int (M i j)) ((aV m).map λj=>D.int (M k j))).length=m:=by unfold sy;rw[iD,yz,yz];omega
  rw[hz,cP] at e6;exact⟨o1,o2,e6⟩
 ·rintro j z ys ρ hd ⟨o1,o2,rfl,rfl⟩
  have hj:j<m:=by
   rcases gH j m with q |q
   ·exact q
   ·rw[bW (by unfold sy;rw[iD,yz];omega)] at hd
    cases hd
  have ed:z=.tup [.int (M i j),.int (M k j)]:=by
   unfold sy at hd;rw[oA,aL,aL,bV hj] at hd;exact(bL hd).symm
  subst ed;have es:stM d k M i j=(M k k*M i j-M i k*M k j) / d:=by unfold stM;rw[if_neg hik]
  have fd:fDiv (M k k*M i j-M i k*M k j) d=ZY ((M k k*M i j-M i k*M k j) / d):=by unfold fDiv;rw[if_pos ⟨hd0,hd1⟩]
  refine⟨[.val (.int (M i j)),.val (.int (M k j)),.val (rwD m (M i)),.val (rwD m (M k)),.val (.int d),.val (.int (k:Int))],_,ZW,by simp,rfl,.inr ⟨rfl,.int (stM d k M i j),[.val (.int (M i j)),.val (.int (M k j)),.val (rwD m (M i)),.val (rwD m (M k)),.val (.int d),.val (.int (k:Int))],?_,_,_,rfl,?_⟩⟩
  ·rw[es];unfold rwD;generalize M k k=a1 at *;generalize M i j=a2 at *;generalize M i k=a3 at *;generalize M k j=a4 at *;have m1:fMul a1 a2=ZY (a1*a2):=by unfold fMul;rw[if_pos (.inl hkk)]
   have m2:fMul a3 a4=ZY (a3*a4):=by unfold fMul;rw[if_pos (.inl hic)]
   simp[adh,ek,ei,m1,m2,fd]
  ·rw[cP,jN,cI];rfl
def aso{n m:Nat}{k:Nat}{M:Nat->Rw}{d:Int}(hkn:k<n)(hk:k<m)(hn:n<=1000)(hm:m<=1000)(hd0:0<d)(hd1:d<1000000000000000000000000000000000000000000000000000000000000)(hcol:∀i<n,-18446744073709551616<M i k/\M i k<18446744073709551616):acq [.val (.lst (mtD n m M)),.val (.int (k:Int)),.val (.int d)]=ZY (.ok (.fr (mtD n m (stM d k M))),[.val (.lst (mtD n m M)),.val (.int (k:Int)),.val (.int d)]):=by
 have loop:=abr (b:=bTup 2 (kj (cz 5) (kj (cz 6) bNil))) (g:=ade) (λi ρ=>∃o5 o6,ρ=[.val (.lst (mtD n m M)),.val (.int (k:Int)),.val (.int d),.val (rwD m (M k)),.own ZX (mtD i m (stM d k M)),o5,o6])
  (l:=ajk (mtD n m M)) (ρ:=[.val (.lst (mtD n m M)),.val (.int (k:Int)),.val (.int d),.val (rwD m (M k)),.own ZX [],.emp,.emp]) 0 ⟨.emp,.emp,rfl⟩ ?_
 ·obtain⟨ρ',e,o5,o6,rfl⟩:=loop;rw[afg,wu,cP] at e;have e1:=aqg (m:=m) (M:=M) hkn;simp[acq,anc,e1,e]
 ·rintro i z ρ hd ⟨o5,o6,rfl⟩
  rw[cP];obtain⟨d0,g1,rfl⟩:=ait hd;have hi:i<n:=by
   have:=(aH.mp g1).1;rwa[wu] at this
  have ed:d0=rwD m (M i):=by
   unfold mtD at g1;rw[aL,bV hi] at g1;exact(bL g1).symm
  subst ed;refine⟨[.val (.lst (mtD n m M)),.val (.int (k:Int)),.val (.int d),.val (rwD m (M k)),.own ZX (mtD i m (stM d k M)),.val (.int (i:Int)),.val (rwD m (M i))],[.val (.lst (mtD n m M)),.val (.int (k:Int)),.val (.int d),.val (rwD m (M k)),.own ZX (mtD (i+1) m (stM d k M)),.val (.int (i:Int)),.val (rwD m (M i))],rfl,.inl ?_,_,_,rfl⟩;have hcap:(mtD i m (stM d k M)).length<capS:=by rw[wu];unfold capS;omega
  rw[alf]
  by_cases hik:i=k
  ·subst hik;have ek:stM d i M i=M i:=by funext j;unfold stM;rw[if_pos rfl]
   rw[ek];have hl:=yz m (M i);have hc:((aV m).map λj=>D.int (M i j)).length<=capS:=by rw[hl];exact di hm
   unfold rwD;simp[ade,hc,hcap]
  ·obtain⟨q1,q2,e⟩:=asp (M:=M) hk hd0 hd1 hik (hcol k hkn) (hcol i hi);have l1:=yz m (M i);have l2:=yz m (M k);have l3:=yz m (stM d k M i);have hle:((aV m).map λj=>D.int (M i j)).length<=((aV m).map λj=>D.int (M k j)).length:=by rw[l1,l2];exact aM _
   have hc:((aV m).map λj=>D.int (stM d k M i j)).length<=capS:=by rw[l3];exact di hm
   have hne:¬((i:Int)=(k:Int)):=by omega
   unfold rwD at e ⊢
   generalize (aV m).map (λj=>D.int (stM d k M i j))=rs at *
   generalize (aV m).map (λj=>D.int (M i j))=ri at *
   generalize (aV m).map (λj=>D.int (M k j))=rk at *
   simp[ade,hne,hle,e,hc,hcap]
noncomputable def aug(A:Nat->Rw)(n:Nat)(c:Rw):Nat->Rw:=λi j=>if j<n then A i j else c i
def a1g(A:Nat->Rw)(n:Nat)(c:Rw)(i:Nat):rwD (n+1) (aug A n c i)=.lst (((aV n).map λj=>.int (A i j))++[.int (c i)]):=by
 unfold rwD;rw[jN,cI]
 congr 2
 ·apply iC;intro j hj;have:=gP.mp hj;unfold aug;rw[if_pos this]
 ·show[D.int (aug A n c i n)]=_;unfold aug;rw[if_neg (by omega)]
def azf{A:Nat->Rw}{n:Nat}{c:Rw}(hn:n<=100):∃q1 q2,compD (bTup 2 (kj (cz 0) (kj (cz 1) bNil))) (ret ZW) afh (sy (mtD n n A) ((aV n).map λi=>.int (c i))) [] [.emp,.emp]=ZY (.ok (mtD n (n+1) (aug A n c)),[q1,q2]):=by
 have comp:=vm (b:=bTup 2 (kj (cz 0) (kj (cz 1) bNil))) (mc:=ret ZW) (me:=afh) (λj ys ρ=>∃o1 o2:Sl,ρ=[o1,o2]/\ys=mtD j (n+1) (aug A n c))
  (l:=sy (mtD n n A) ((aV n).map λi=>D.int (c i))) (ys:=[]) (ρ:=[.emp,.emp]) 0 ⟨.emp,.emp,rfl,rfl⟩ ?_
 ·obtain⟨ys,ρ',e6,o1,o2,rfl,rfl⟩:=comp;have hz:(sy (mtD n n A) ((aV n).map λi=>D.int (c i))).length=n:=by unfold sy;rw[iD,wu,yz];omega
  rw[hz,cP] at e6;exact⟨o1,o2,e6⟩
 ·rintro j z ys ρ hd ⟨o1,o2,rfl,rfl⟩
  have hj:j<n:=by
   rcases gH j n with q |q
   ·exact q
   ·rw[bW (by unfold sy;rw[iD,wu];omega)] at hd
    cases hd
  have ed:z=.tup [rwD n (A j),.int (c j)]:=by
   unfold sy mtD at hd;rw[oA,aL,aL,bV hj] at hd;exact(bL hd).symm
  subst ed;have hl:=yz n (A j);have hc:((aV n).map λi=>D.int (A j i)).length<=capS:=by rw[hl];exact di (by omega)
  have hc2:((aV n).map λi=>D.int (A j i)).length+1<=capS:=by rw[hl];exact di (by omega)
  refine⟨[.val (rwD n (A j)),.val (.int (c j))],_,ZW,by simp,rfl,.inr ⟨rfl,rwD (n+1) (aug A n c j),[.val (rwD n (A j)),.val (.int (c j))],?_,_,_,rfl,?_⟩⟩
  ·rw[a1g];unfold rwD;generalize (aV n).map (λi=>D.int (A j i))=rr at *
   simp[afh,hc,hc2]
  ·rw[cP,alf]
def tops(qq:LL9)(c:Rw):Nat->Int:=λi=>(BS (aug (dsq qq) qq.length c) qq.length).2 i qq.length
def botm(qq:LL9)(c:Rw):Int:=(BS (aug (dsq qq) qq.length c) qq.length).1
section
variable{qq:LL9}(h:Hs qq)(hop:zr qq=[])(c:Rw)
include h hop
theorem awt:∀i<qq.length,∀j<qq.length,aug (dsq qq) qq.length c i j=dsq qq i j:=λi _ j hj=>by unfold aug;rw[if_pos hj]
theorem a4d:0<botm qq c/\botm qq c<=60466176:=by
 obtain⟨a,b⟩:=aw0 h hop (awt h hop c) qq.length (aM _);refine⟨a.pos,qI b ?_⟩;have:(6:Int) ^ qq.length<=6 ^ 10:=by
  have:=lD (show 0<6 by decide) h.most
  exact_mod_cast this
 exact this
theorem ath:afe [.val (.lst (mtD qq.length qq.length (dsq qq))),.val (.lst ((aV qq.length).map λi=>.int (c i)))]=ZY (.ok (.v (.tup [.lst ((aV qq.length).map λi=>.int (tops qq c i)),.int (botm qq c)])),[.val (.lst (mtD qq.length qq.length (dsq qq))),.val (.lst ((aV qq.length).map λi=>.int (c i)))]):=by
 have hm:=h.most;generalize hM:aug (dsq qq) qq.length c=M0;have hM0:=awt h hop c;rw[hM] at hM0;have all:=aw0 h hop hM0;have loop:=abr (b:=cz 4) (g:=ae4) (λk ρ=>k<=qq.length->∃o4 o5,ρ=[.val (.lst (mtD qq.length qq.length (dsq qq))),.val (.lst ((aV qq.length).map λi=>D.int (c i))),.own ZX (mtD qq.length (qq.length+1) (BS M0 k).2),.val (.int (BS M0 k).1),o4,o5])
  (l:=rangeD 0 qq.length) (ρ:=[.val (.lst (mtD qq.length qq.length (dsq qq))),.val (.lst ((aV qq.length).map λi=>D.int (c i))),.own ZX (mtD qq.length (qq.length+1) M0),.val (.int 1),.emp,.emp]) 0 (λ_=>⟨.emp,.emp,rfl⟩) ?_
 ·obtain⟨ρ',e,hρ⟩:=loop;have rl:(rangeD 0 qq.length).length=qq.length:=by simp[rangeD]
  rw[rl,cP] at hρ;obtain⟨o4,o5,rfl⟩:=hρ (aM _);obtain⟨q1,q2,e1⟩:=azf (A:=dsq qq) (n:=qq.length) (c:=c) (by omega)
  rw[hM] at e1;have ec:compD (cz 0) (ret ZW) aiu (mtD qq.length (qq.length+1) (BS M0 qq.length).2) [] [.emp,.val (.lst (mtD qq.length qq.length (dsq qq)))]=ZY (.ok ((aV qq.length).map λi=>.int (tops qq c i)),aa9 .emp (mtD qq.length (qq.length+1) (BS M0 qq.length).2)::[.val (.lst (mtD qq.length qq.length (dsq qq)))]):=by
   have hl:=wu qq.length qq.length (dsq qq);have et:=λi=>ajx (r:=(BS M0 qq.length).2 i) (m:=qq.length+1) (k:=qq.length) (by omega)
   have eg:∀i,((aV (qq.length+1)).map λj=>D.int ((BS M0 qq.length).2 i j))[qq.length]? = ZY (.int ((BS M0 qq.length).2 i qq.length)):=λi=>by
    rw[aL,bV (by omega)]
    rfl
   rw[vh (f:=λd=>match d with |.lst l=>(l[qq.length]?).getD .non |d=>d)]
   ·congr 3
    unfold mtD;rw[bO,eV];apply iC;intro i _;show(((aV (qq.length+1)).map λj=>D.int ((BS M0 qq.length).2 i j))[qq.length]?).getD .non=.int (tops qq c i)
    rw[eg i];unfold tops;rw[hM];rfl
   ·intro d hd;unfold mtD at hd;obtain⟨i,_,rfl⟩:=bQ.mp hd;have k1:=et i;have k2:=eg i;unfold rwD;simp[aiu,hl,k1,k2]
  have hl1:=wu qq.length qq.length (dsq qq);have hl2:=yz qq.length c;have hc1:(mtD qq.length (qq.length+1) M0).length<=capS:=by rw[wu];exact di (by omega)
  have hc2:((aV qq.length).map λi=>D.int (tops qq c i)).length<=capS:=by rw[yz qq.length (tops qq c)];exact di (by omega)
  have hb:qq.length<4611686018427387904:=by omega
  have ed:botm qq c=(BS M0 qq.length).1:=by unfold botm;rw[hM]
  rw[ed];generalize (aV qq.length).map (λi=>D.int (tops qq c i))=tt at *
  simp[afe,aqw,e1,hc1,hl1,hl2,hb,e,ec,hc2]
 ·rintro k z ρ hd hρ
  rw[cP];have hk:k<qq.length:=by
   have:=(aH.mp hd).1
   simpa[rangeD] using this
  rw[cP] at hρ;obtain⟨o4,o5,rfl⟩:=hρ (by omega)
  have ez:z=.int (k:Int):=by
   unfold rangeD at hd;rw[aL,bV hk] at hd;have:=(bL hd).symm
   simpa using this
  subst ez;obtain⟨b1,b2⟩:=all k (by omega)
  obtain⟨p1,p2,p3⟩:=ba0 h hop hM0 b1 hk;have d0:=b1.pos;have d2:(BS M0 k).1<=60466176:=by
   have:(6:Int) ^ k<=6 ^ 10:=by
    have:=lD (show 0<6 by decide) (show k<=10 by omega)
    exact_mod_cast this
   omega
  have d1:(BS M0 k).1<1000000000000000000000000000000000000000000000000000000000000:=by omega
  have e1:=aoi (M:=(BS M0 k).2) hk (show k<qq.length+1 by omega) (by omega) (by omega)
  have e2:=aro (n:=qq.length) (m:=qq.length+1) (M:=(BS M0 k).2) (k:Int) (by omega) (by omega)
  have e3:=aso (M:=(BS M0 k).2) hk (show k<qq.length+1 by omega) (by omega) (by omega) d0 d1 (λi hi=>by have:=p3 i hi;omega)
  have e4:=aqg (m:=qq.length+1) (M:=stM (BS M0 k).1 k (BS M0 k).2) hk;have e5:=ajx (r:=stM (BS M0 k).1 k (BS M0 k).2 k) (show k<qq.length+1 by omega)
  have e6:stM (BS M0 k).1 k (BS M0 k).2 k k=(BS M0 k).2 k k:=by unfold stM;rw[if_pos rfl]
  rw[e6] at e5;refine⟨_,[.val (.lst (mtD qq.length qq.length (dsq qq))),.val (.lst ((aV qq.length).map λi=>D.int (c i))),.own ZX (mtD qq.length (qq.length+1) (BS M0 (k+1)).2),.val (.int (BS M0 (k+1)).1),.val (.int (k:Int)),.val (.int (k:Int))],rfl,.inl ?_,λ_=>⟨_,_,rfl⟩⟩
  show ae4 [.val (.lst (mtD qq.length qq.length (dsq qq))),.val (.lst ((aV qq.length).map λi=>D.int (c i))),.own ZX (mtD qq.length (qq.length+1) (BS M0 k).2),.val (.int (BS M0 k).1),.val (.int (k:Int)),o5]=ZY (Fl.nx,[.val (.lst (mtD qq.length qq.length (dsq qq))),.val (.lst ((aV qq.length).map λi=>D.int (c i))),.own ZX (mtD qq.length (qq.length+1) (stM (BS M0 k).1 k (BS M0 k).2)),.val (.int ((BS M0 k).2 k k)),.val (.int (k:Int)),.val (.int (k:Int))])
  unfold rwD at e4;simp[ae4,e1,isN,e2,e3,e4,e5]
end
theorem ai1(x:Int):∀V:List Int,(V.map D.int).countP (λy=>eqD y (.int x))=V.count x
 | []=>rfl
 |a::V=>by
  have e:=alw a x;rw[bB,qN,ai1 x V,oF,e]
  by_cases q:a=x <;> simp[q]
def ax7(n:Nat)(r:List Int):compD (cz 0) (ret ZW) aah (rangeD 0 n) [] [.emp,.val (.tup (r.map D.int))]=ZY (.ok ((aV n).map λ(j:Nat)=>.int (-((r.count (j:Int):Nat):Int))),aa9 .emp (rangeD 0 n)::[.val (.tup (r.map D.int))]):=by
 have ok:=ajz 30 r;have hc:=λx=>ai1 x r
 rw[vh (f:=λd=>match d with |.int k=>.int (-((r.count k:Nat):Int)) |d=>d)]
 ·unfold rangeD;rw[bO,eV]
  congr 3
  apply iC;intro i _;simp
 ·intro d hd;unfold rangeD at hd;obtain⟨k,_,rfl⟩:=bQ.mp hd;have hk:=hc (k:Int);simp[aah,ok,hk,okD]
section
variable{qq:LL9}(h:Hs qq)
include h
theorem a1c{i:Nat}(hi:i<qq.length)(o4:Sl):∃q4,l1_doors_square [.val (hD qq),.own ZX (mtD i qq.length (dsq qq)),.val (.int (i:Int)),.val (.tup ((dr qq (i:Int)).map D.int)),o4]=ZY (.nx,[.val (hD qq),.own ZX (mtD (i+1) qq.length (dsq qq)),.val (.int (i:Int)),.val (.tup ((dr qq (i:Int)).map D.int)),q4]):=by
 have hm:=h.most;have hl:=w6 qq;have e1:=ax7 qq.length (dr qq (i:Int));have hb:qq.length<4611686018427387904:=by omega
 have rl:((aV qq.length).map λ(j:Nat)=>D.int (-(((dr qq (i:Int)).count (j:Int):Nat):Int))).length=qq.length:=by simp
 have ix:ixN ((aV qq.length).map λ(j:Nat)=>D.int (-(((dr qq (i:Int)).count (j:Int):Nat):Int))).length (i:Int)=ZY i:=by
  rw[rl,ah8 (by omega) (by omega),cM]
 have ia:((aV qq.length).map λ(j:Nat)=>D.int (-(((dr qq (i:Int)).count (j:Int):Nat):Int)))[i]? = ZY (.int (-(((dr qq (i:Int)).count (i:Int):Nat):Int))):=by
  rw[aL,bV hi];rfl
 have es:((aV qq.length).map λ(j:Nat)=>D.int (-(((dr qq (i:Int)).count (j:Int):Nat):Int))).set i (.int (-(((dr qq (i:Int)).count (i:Int):Nat):Int)+((dr qq (i:Int)).length:Int)))=(aV qq.length).map λj=>D.int (dsq qq i j):=by
  apply gU;intro j;rw[aY,rl]
  by_cases hj:j<qq.length
  ·rw[aL,aL,bV hj]
   by_cases e:i=j
   ·subst e;rw[if_pos rfl,if_pos hj];show _=ZY (D.int (dsq qq i i));unfold dsq;rw[if_pos rfl]
    congr 2
    omega
   ·rw[if_neg e];show ZY (D.int _)=ZY (D.int (dsq qq i j));unfold dsq;rw[if_neg e]
    congr 2
    omega
  ·rw[if_neg (by omega),bW (by simp;omega),bW (by simp;omega)]
 have dl:((dr qq (i:Int)).map D.int).length=(dr qq (i:Int)).length:=aC ..
 have hcap:(mtD i qq.length (dsq qq)).length<capS:=by rw[wu];unfold capS;omega
 rw[alf];unfold rwD;rw[<-es];generalize ((aV qq.length).map λ(j:Nat)=>D.int (-(((dr qq (i:Int)).count (j:Int):Nat):Int)))=rr at *
 generalize (-(((dr qq (i:Int)).count (i:Int):Nat):Int))=v at *;generalize (dr qq (i:Int)).length=ln at *;refine⟨.val (.lst (rr.set i (.int (v+(ln:Int))))),?_⟩;have hc':qq.length<=capS:=di (by omega)
 have ix':ixN qq.length (i:Int)=ZY i:=by rw[<-rl];exact ix
 simp only[hD] at *;simp[l1_doors_square,hl,hb,e1,hc',rl,dl,ix',ia,hcap]
theorem aix:rm [.val (hD qq)]=ZY (.ok (.fr (mtD qq.length qq.length (dsq qq))),[.val (hD qq)]):=by
 have loop:=abr (b:=bTup 2 (kj (cz 2) (kj (cz 3) bNil))) (g:=l1_doors_square) (λi ρ=>∃o2 o3 o4,ρ=[.val (hD qq),.own ZX (mtD i qq.length (dsq qq)),o2,o3,o4])
  (l:=ajk (hDs qq)) (ρ:=[.val (hD qq),.own ZX [],.emp,.emp,.emp]) 0 ⟨.emp,.emp,.emp,rfl⟩ ?_
 ·obtain⟨ρ',e,o2,o3,o4,rfl⟩:=loop;rw[afg,w6,cP] at e;simp only[hD] at *;simp[rm,adt,e]
 ·rintro i z ρ hd ⟨o2,o3,o4,rfl⟩
  rw[cP];obtain⟨d0,g1,rfl⟩:=ait hd;have hi:i<qq.length:=by
   have:=(aH.mp g1).1;rwa[w6] at this
  have ed:d0=.tup ((dr qq (i:Int)).map D.int):=by
   unfold hDs at g1;rw[aL,aF hi] at g1;unfold dr;rw[cM,aZ,aF hi];exact(bL g1).symm
  subst ed;obtain⟨q4,e⟩:=a1c h hi o4;exact⟨_,_,rfl,.inl e,_,_,_,rfl⟩
end
def mu(x y:Nat):Nat:=if y=0 then 0 else (x*y).log2+(if x<y then 2 else 1)
def a2r{x y:Nat}(hy:y≠0):mu y (x % y)<mu x y:=by
 unfold mu;rw[if_neg hy]
 by_cases hr:x % y=0
 ·rw[if_pos hr];split <;> omega
 ·rw[if_neg hr];have hlt:x % y<y:=Nat.mod_lt _ (by omega)
  rw[if_neg (show ¬y<x % y by omega)]
  by_cases hxy:x<y
  ·rw[if_pos hxy,Nat.mod_eq_of_lt hxy,jK];omega
  ·rw[if_neg hxy];have h2:2*(x % y)<=x:=by
    have:=vR x y;have h1:1<=x / y:=(Nat.one_le_div_iff (by omega)).mpr (by omega)
    have:y*1<=y*(x / y):=uA _ h1;omega
   have h3:2*(y*(x % y))<=x*y:=by
    rw[Nat.mul_left_comm,jK x y];exact uA _ h2
   have h4:y*(x % y)≠0:=Nat.mul_ne_zero hy hr;have h5:(y*(x % y)).log2<(x*y).log2:=by
    have a:=Nat.log2_self_le h4;have b:2 ^ ((y*(x % y)).log2+1)<=x*y:=by rw[Nat.pow_succ];omega
    have:=(Nat.le_log2 (by omega)).mpr b
    omega
   omega
def ba7{x y:Nat}(h:x*y<2 ^ 1000):mu x y<2000:=by
 unfold mu;split
 ·decide
 ·by_cases z:x*y=0
  ·rw[z];split <;> decide
  ·have:=(Nat.log2_lt z).mpr h;split <;> omega
def euclid{c:M Bool}{g:Sd}(fr:Int->Int->Sl->Ro)(hc:∀x y o,c (fr x y o)=ZY (.ok (decide (y≠0)),fr x y o))(hg:∀x y o,0<y->∃o',g (fr x y o)=ZY (.nx,fr y (x % y) o'))(x y:Nat)(hb:x*y<2 ^ 1000)(o:Sl):∃o',whileD c g fuel (fr x y o)=ZY (.nx,fr ((nY x y:Nat):Int) 0 o'):=by
 have loop:=vp (c:=c) (g:=g)
  (λn ρ=>∃(a b:Nat) (o:Sl),n=mu a b/\nY a b=nY x y/\ρ=fr a b o)
  (λρ=>∃o:Sl,ρ=fr ((nY x y:Nat):Int) 0 o)
  ?_ fuel (mu x y) (fr x y o) (jL (ba7 hb) (jL (by decide) ag1)) ⟨x,y,o,rfl,rfl,rfl⟩
 ·obtain⟨ρ',e,o',rfl⟩:=loop;exact⟨o',e⟩
 ·rintro n ρ ⟨a,b,o,rfl,hab,rfl⟩
  by_cases hz:b=0
  ·subst hz;refine .inl ⟨fr a (0:Nat) o,?_,o,?_⟩
   ·have:=hc a (0:Nat) o;rw[this];rfl
   ·rw[<-hab,uI];rfl
  ·obtain⟨o',e⟩:=hg a b o (by omega)
   refine .inr ⟨fr a b o,fr b ((a:Int) % (b:Int)) o',mu b (a % b),?_,e,a2r hz,b,a % b,o',rfl,?_,?_⟩
   ·rw[hc a b o,decide_eq_true (by omega)]
   ·rw[<-hab,Nat.gcd_comm b,<-Nat.gcd_rec,Nat.gcd_comm]
   ·rw[Int.natCast_emod]
def a89(t:Int):gAbs (.int t)=ZY (.v (.int (t.natAbs:Int))):=by
 show ZY (Rv.v (.int _))=_
 congr 3
 try omega
def cd_one(t:Int)(x:Nat)(hb:x*t.natAbs<2 ^ 1000)(a0 a3 a4:Sl):∃b3 b4,l1_common_divisor [a0,.val (.int (x:Int)),.val (.int t),a3,a4]=ZY (.nx,[a0,.val (.int ((nY x t.natAbs:Nat):Int)),.val (.int t),b3,b4]):=by
 obtain⟨o',e⟩:=euclid (c:=vy) (g:=vq) (λx y o=>[a0,.val (.int x),.val (.int t),.val (.int y),o])
  (λx y o=>by by_cases z:y=0 <;> simp[vy,z]) (λx y o hy=>⟨.val (.int (x % y)),by
   have e:fMod x y=ZY (x % y):=by unfold fMod;rw[if_pos hy]
   simp[vq,e]⟩) x t.natAbs hb a4
 have e2:=a89 t;refine⟨.val (.int 0),o',?_⟩;simp[l1_common_divisor,e2,e]
def gcdL:Nat->List Int->Nat
 |x,[]=>x
 |x,t::l=>gcdL (nY x t.natAbs) l
theorem aqv:∀(l:List Int) (x:Nat),gcdL x l ∣ x/\∀t∈l,gcdL x l ∣ t.natAbs
 | [],x=>⟨Nat.dvd_refl _,λt ht=>by cases ht⟩
 |t::l,x=>by
  obtain⟨a,b⟩:=aqv l (nY x t.natAbs);refine⟨Nat.dvd_trans a (Nat.gcd_dvd_left ..),λu hu=>?_⟩
  rcases bF.mp hu with z |z
  ·rw[z];exact Nat.dvd_trans a (Nat.gcd_dvd_right ..)
  ·exact b u z
def a76{x t B:Nat}(hx:x<B)(ht:t<B):nY x t<B:=by
 by_cases z:t=0
 ·subst z;rw[uI];exact hx
 ·exact pC (Nat.gcd_le_right _ (by omega)) ht
theorem awi(a0:Sl):∀(l:List Int) (x:Nat) (o2 o3 o4:Sl),x<2 ^ 400->(∀t∈l,t.natAbs<2 ^ 400)->∃q2 q3 q4,forD (cz 2) l1_common_divisor (l.map D.int) [a0,.val (.int (x:Int)),o2,o3,o4]=ZY (.nx,[a0,.val (.int ((gcdL x l:Nat):Int)),q2,q3,q4])
 | [],x,o2,o3,o4,_,_=>⟨o2,o3,o4,rfl⟩
 |t::l,x,o2,o3,o4,hx,hl=>by
  have ht:=hl t (aQ ..);have hb:x*t.natAbs<2 ^ 1000:=by
   have:=Nat.mul_lt_mul_of_lt_of_lt hx ht;rw[<-Nat.pow_add] at this;exact jL this (Nat.pow_lt_pow_right (by decide) (by decide))
  obtain⟨b3,b4,e1⟩:=cd_one t x hb a0 o3 o4;obtain⟨q2,q3,q4,e2⟩:=awi a0 l (nY x t.natAbs) (.val (.int t)) b3 b4 (a76 hx ht) λu hu=>hl u (aK _ hu)
  refine⟨q2,q3,q4,?_⟩;rw[bB,ph];show _=ZY (Fl.nx,[a0,.val (.int ((gcdL (nY x t.natAbs) l:Nat):Int)),q2,q3,q4]);simp[e1,e2]
def a8x{l:List Int}(hl:∀t∈l,t.natAbs<2 ^ 400):ni [.val (.lst (l.map D.int))]=ZY (.ok (.v (.int ((gcdL 0 l:Nat):Int))),[.val (.lst (l.map D.int))]):=by
 obtain⟨q2,q3,q4,e⟩:=awi (.val (.lst (l.map D.int))) l 0 .emp .emp .emp (Nat.two_pow_pos _) hl;have e:forD (cz 2) l1_common_divisor (l.map D.int) [.val (.lst (l.map D.int)),.val (.int 0),.emp,.emp,.emp]=_:=e;simp[ni,abz,e]
section
variable{qq:LL9}(h:Hs qq)
include h
theorem ajl(hop:zr qq=[]):mz [.val (.lst (mtD qq.length qq.length (dsq qq)))]=ZY (.ok (.v (.int (botm qq λ_=>0))),[.val (.lst (mtD qq.length qq.length (dsq qq)))]):=by
 have hm:=h.most;have e:=ath h hop λ_=>0
 have er:((aV qq.length).map λ_=>D.int 0)=aJ qq.length (D.int 0):=by
  rw[List.map_const'];simp
 rw[er] at e;have ml:=wu qq.length qq.length (dsq qq);have hc:qq.length<=capS:=di (by omega)
 have hb:qq.length<9223372036854775808:=by omega
 have a1:∀x y:D,atI [x,y] 1=ZY y:=λx y=>by simp[atI,ixN]
 simp[mz,afa,ml,hc,hb,e,a1,isN]
end
structure Cl (qq:LL9) (C:List Int):Prop where
 rng:∀x∈C,0<=x/\x<(qq.length:Int)
 cls:∀x∈C,∀d∈dr qq x,d∈C
 all:∀x∈C,∀y∈C,Rch qq x y
def aya{n:Nat}{M:Nat->Rw}{R:List Int}(hR:∀x∈R,0<=x/\x<(n:Int))(hl:R.length<=100):aip [.own (ZY 0) (mtD n n M),.val (.lst (R.map D.int))]=ZY (.ok (.fr (R.map λi=>D.lst (R.map λj=>.int (M i.toNat j.toNat)))),[.own (ZY 0) (mtD n n M),.val (.lst (R.map D.int))]):=by
 have inner:∀i∈R,compD (cz 0) (ret ZW) aly (R.map D.int) [] [.emp,.own (ZY 1) (mtD n n M),.val (.int i)]=ZY (.ok (R.map λj=>.int (M i.toNat j.toNat)),aa9 .emp (R.map D.int)::[.own (ZY 1) (mtD n n M),.val (.int i)]):=λi hi=>by
  rw[vh (f:=λd=>match d with |.int j=>.int (M i.toNat j.toNat) |d=>d)]
  ·rw[bO,eV];rfl
  ·intro d hd;obtain⟨j,hj,rfl⟩:=bQ.mp hd;have hir:=hR i hi;have hjr:=hR j hj;have k1:=aqg (n:=n) (m:=n) (M:=M) (k:=i.toNat) (by omega)
   rw[show((i.toNat:Nat):Int)=i by omega] at k1
   have k2:=ajx (m:=n) (r:=M i.toNat) (k:=j.toNat) (by omega)
   rw[show((j.toNat:Nat):Int)=j by omega] at k2
   unfold rwD at k1;simp[aly,k1,k2]
 have outer:compD (cz 0) (ret ZW) ag3 (R.map D.int) [] [.emp,.own (ZY 1) (mtD n n M),.val (.lst (R.map D.int))]=ZY (.ok (R.map λi=>D.lst (R.map λj=>.int (M i.toNat j.toNat))),aa9 .emp (R.map D.int)::[.own (ZY 1) (mtD n n M),.val (.lst (R.map D.int))]):=by
  rw[vh (f:=λd=>match d with |.int i=>.lst (R.map λj=>.int (M i.toNat j.toNat)) |d=>d)]
  ·rw[bO,eV];rfl
  ·intro d hd;obtain⟨i,hi,rfl⟩:=bQ.mp hd;have e:=inner i hi;have hc:(R.map λj=>D.int (M i.toNat j.toNat)).length<=capS:=by rw[aC];exact di (by omega)
   show ag3 [.val (.int i),.own (ZY 1) (mtD n n M),.val (.lst (R.map D.int))]=ZY (.ok (.lst (R.map λj=>D.int (M i.toNat j.toNat))),[.val (.int i),.own (ZY 1) (mtD n n M),.val (.lst (R.map D.int))])
   generalize (R.map λj=>D.int (M i.toNat j.toNat))=rr at *
   simp[ag3,e,hc]
 have hc:(R.map λi=>D.lst (R.map λj=>.int (M i.toNat j.toNat))).length<=capS:=by rw[aC];exact di (by omega)
 generalize (R.map λi=>D.lst (R.map λj=>.int (M i.toNat j.toNat)))=r2 at *
 simp[aip,avo,outer,hc]
noncomputable def ren(R:List Int)(y:Int):Int:=if y∈R then (R.idxOf y:Int) else -1
def Hn(qq:LL9)(R:List Int):LL9:=R.map λi=>(dr qq i).map (ren R)
def aqt{R:List Int}(hn:R.Nodup){j:Nat}(hj:j<R.length):R.idxOf R[j]=j:=hn.idxOf_getElem j hj
def atx{R:List Int}(hn:R.Nodup){j:Nat}(hj:j<R.length)(y:Int):ren R y=(j:Int)↔y=R[j]:=by
 unfold ren;constructor
 ·intro e;split at e
  ·rename_i hy;have e:R.idxOf y=j:=by omega
   have hlt:=mO.mpr hy;have:=uL hlt;rw[<-this]
   congr 1
  ·omega
 ·intro e;subst e;rw[if_pos (dZ hj),aqt hn hj]
theorem anp{R:List Int}(hn:R.Nodup){j:Nat}(hj:j<R.length):∀l:List Int,(l.map (ren R)).count (j:Int)=l.count R[j]
 | []=>rfl
 |y::l=>by
  rw[bB,oF,oF,anp hn hj l]
  by_cases e:y=R[j]
  ·rw[(atx hn hj y).mpr e,e];simp
  ·have:ren R y≠(j:Int):=λz=>e ((atx hn hj y).mp z)
   simp[e,this]
section
variable{qq:LL9}(h:Hs qq){C:List Int}(c:Cl qq C){r:Int}(hr:r∈C)(hlt:C.Pairwise (· < ·))(h10:C.length<=10)
include h c hr hlt
theorem a9b{R:List Int}{i:Nat}(hi:i<R.length):dr (Hn qq R) (i:Int)=(dr qq R[i]).map (ren R):=by
 unfold Hn;show((R.map λi=>(dr qq i).map (ren R)).getD ((i:Nat):Int).toNat [])=_
 rw[aZ,cM,aL,aF hi];rfl
theorem a9a{R:List Int}(hn:R.Nodup)(hR:∀x∈R,0<=x/\x<(qq.length:Int)){i j:Nat}(hi:i<R.length)(hj:j<R.length):dsq (Hn qq R) i j=dsq qq R[i].toNat R[j].toNat:=by
 have a:=hR _ (dZ hi);have b:=hR _ (dZ hj);unfold dsq;rw[a9b h c hr hlt hi,aC,anp hn hj,show((R[i].toNat:Nat):Int)=R[i] by omega,show((R[j].toNat:Nat):Int)=R[j] by omega]
 by_cases e:i=j
 ·subst e;rw[if_pos rfl,if_pos rfl]
 ·have:R[i].toNat≠R[j].toNat:=λz=>e (by
   have q:R[i]=R[j]:=by omega
   have q1:=aqt hn hi;rw[q,aqt hn hj] at q1;exact q1.symm)
  rw[if_neg e,if_neg this]
end
def a3y:mz [.val (.lst [])]=ZY (.ok (.v (.int 1)),[.val (.lst [])]):=by kernel_rfl
section
variable{qq:LL9}(h:Hs qq){C:List Int}(c:Cl qq C){r:Int}(hr:r∈C)(hlt:C.Pairwise (· < ·))(h10:C.length<=10)
include h c hr hlt
theorem bcq{R:List Int}(h1:1<=R.length)(hR:∀x∈R,x∈C)(h10:R.length<=10):Hs (Hn qq R):=by
 have hl:(Hn qq R).length=R.length:=by unfold Hn;rw[aC]
 refine⟨by rw[hl];exact h1,by rw[hl];exact h10,λl hl2=>?_⟩
 obtain⟨i,hi,rfl⟩:=bQ.mp hl2;have hir:=c.rng i (hR i hi);have d:=h.dr hir.1 hir.2;rw[hl,aC];refine⟨d.1,d.2.1,λy hy=>?_⟩
 obtain⟨z,hz,rfl⟩:=bQ.mp hy;unfold ren;split
 ·rename_i hm;have:=mO.mpr hm;omega
 ·omega
theorem a4n{R:List Int}(hn:R.Nodup)(hR:∀x,x∈R↔x∈C/\x≠r):zr (Hn qq R)=[]:=by
 have hl:(Hn qq R).length=R.length:=by unfold Hn;rw[aC]
 have all:∀i:Nat,(hi:i<R.length)->Rch (Hn qq R) (i:Int) (-1):=λi hi=>by
  have mem:=(hR _).mp (dZ hi);have go:∀y,Rch qq R[i] y->y∈C/\((y∈R/\Rch (Hn qq R) (i:Int) (R.idxOf y:Int))∨Rch (Hn qq R) (i:Int) (-1)):=λy hy=>by
   induction hy with
   |base=>exact⟨mem.1,.inl ⟨List.getElem_mem hi,by rw[aqt hn hi];exact .base⟩⟩
   | @step y d _ y0 hd ih=>
    obtain⟨yc,ih⟩:=ih;refine⟨c.cls y yc d hd,?_⟩;rcases ih with⟨yr,ih⟩ |ih
    ·have hlt2:=mO.mpr yr;have e:=a9b h c hr hlt (R:=R) hlt2;rw[uL hlt2] at e;have st:Rch (Hn qq R) (i:Int) (ren R d):=.step ih (by omega) (by rw[e];exact bQ.mpr ⟨d,hd,rfl⟩)
     unfold ren at st
     by_cases z:d∈R
     ·rw[if_pos z] at st;exact .inl ⟨z,st⟩
     ·rw[if_neg z] at st;exact .inr st
    ·exact .inr ih
  rcases(go r (c.all _ mem.1 r hr)).2 with z |z
  ·exact absurd rfl ((hR r).mp z.1).2
  ·exact z
 cases ht:zr (Hn qq R) with
 |nil=>rfl
 |cons s l=>
  exfalso;have hs:s∈zr (Hn qq R):=by rw[ht];exact aQ ..
  have hs2:=fL.mp hs;have b:=agy hs2.1;rw[hl] at b;have:=(adi _ _).mp hs2.2 _ (by
   have:=all s.toNat (by omega)
   rw[show((s.toNat:Nat):Int)=s by omega] at this
   exact this)
  omega
include h10
noncomputable def bX(qq:LL9)(C:List Int)(r:Int):Int:=if (C.filter λx=>decide (x≠r))=[] then 1 else botm (Hn qq (C.filter λx=>decide (x≠r))) λ_=>0
theorem ai5{R:List Int}(hRe:R=C.filter λx=>decide (x≠r)):(0<bX qq C r/\bX qq C r<=60466176)/\mz [.val (.lst (R.map λi=>D.lst (R.map λj=>.int (dsq qq i.toNat j.toNat))))]=ZY (.ok (.v (.int (bX qq C r))),[.val (.lst (R.map λi=>D.lst (R.map λj=>.int (dsq qq i.toNat j.toNat))))]):=by
 have hR:∀x,x∈R↔x∈C/\x≠r:=λx=>by rw[hRe,fL,decide_eq_true_iff]
 have hRl:R.Pairwise (· < ·):=by rw[hRe];exact hlt.sublist List.filter_sublist
 have hn:R.Nodup:=hRl.imp λq z=>by omega
 have hR10:R.length<=10:=by rw[hRe];exact cW (kW _ _) h10
 have hrng:∀x∈R,0<=x/\x<(qq.length:Int):=λx hx=>c.rng x ((hR x).mp hx).1
 unfold bX;rw[<-hRe];cases hz:R with
 |nil=>
  rw[if_pos rfl];exact⟨by decide,a3y⟩
 |cons y R'=>
  rw[<-hz,if_neg (by rw[hz];simp)]
  have h1:1<=R.length:=by rw[hz];simp
  have H:=bcq h c hr hlt h1 (λx hx=>((hR x).mp hx).1) hR10
  have hop:=a4n h c hr hlt hn hR;have hl:(Hn qq R).length=R.length:=by unfold Hn;rw[aC]
  have e:=ajl H hop;rw[hl] at e;have em:mtD R.length R.length (dsq (Hn qq R))=R.map λi=>D.lst (R.map λj=>.int (dsq qq i.toNat j.toNat)):=by
   unfold mtD rwD;apply gU;intro i;rw[aL,aL]
   by_cases hi:i<R.length
   ·rw[bV hi,aF hi];show ZY (D.lst ((aV R.length).map λj=>D.int (dsq (Hn qq R) i j)))=ZY (D.lst (R.map λj=>D.int (dsq qq R[i].toNat j.toNat)))
    congr 2
    apply gU;intro j;rw[aL,aL]
    by_cases hj:j<R.length
    ·rw[bV hj,aF hj];show ZY (D.int (dsq (Hn qq R) i j))=ZY (D.int (dsq qq R[i].toNat R[j].toNat));rw[a9a h c hr hlt hn hrng hi hj]
    ·rw[bW (by simp;omega),bW (by omega)]
     rfl
   ·rw[bW (by simp;omega),bW (by omega)]
    rfl
  rw[em] at e;exact⟨a4d H hop _,e⟩
end
noncomputable def gdC(qq:LL9)(C:List Int):Nat:=gcdL 0 (C.map (bX qq C))
noncomputable def zC(qq:LL9)(C:List Int)(x:Int):Int:=if x∈C then bX qq C x / (gdC qq C:Int) else 0
noncomputable def ajp(qq:LL9)(C:List Int):List Int:=(upto qq.length).map (zC qq C)
section
variable{qq:LL9}(h:Hs qq){C:List Int}(c:Cl qq C)(hlt:C.Pairwise (· < ·))(h10:C.length<=10){r:Int}(hr:r∈C)
include h c hlt h10
theorem arl:compD (cz 0) (ret ZW) ye (C.map D.int) [] [.emp,.own (ZY 1) (mtD qq.length qq.length (dsq qq)),.val (.tup (C.map D.int))]=ZY (.ok ((C.map (bX qq C)).map D.int),aa9 .emp (C.map D.int)::[.own (ZY 1) (mtD qq.length qq.length (dsq qq)),.val (.tup (C.map D.int))]):=by
 rw[vh (f:=λd=>match d with |.int r=>.int (bX qq C r) |d=>d)]
 ·rw[bO,eV,eV];rfl
 ·intro d hd;obtain⟨r,hr,rfl⟩:=bQ.mp hd;have e1:compD (cz 0) aa0 aax (C.map D.int) [] [.emp,.val (.int r)]=ZY (.ok ((C.filter λx=>decide (x≠r)).map D.int),aa9 .emp (C.map D.int)::[.val (.int r)]):=by
   rw[uq (p:=λd=>match d with |.int x=>decide (x≠r) |_=>ZV) (f:=λd=>d)]
   ·rw[bO,qF,rA];rfl
   ·intro d hd;obtain⟨x,hx,rfl⟩:=bQ.mp hd
    by_cases e:x=r <;> simp[aa0,e]
   ·intro d hd _;obtain⟨x,hx,rfl⟩:=bQ.mp hd;simp[aax]
  have hl2:(C.filter λx=>decide (x≠r)).length<=10:=cW (kW _ _) h10
  have e2:=aya (n:=qq.length) (M:=dsq qq) (R:=C.filter λx=>decide (x≠r)) (λx hx=>c.rng x (fL.mp hx).1) (by omega)
  have e3:=(ai5 h c hr hlt h10 (R:=C.filter λx=>decide (x≠r)) rfl).2
  have hc:((C.filter λx=>decide (x≠r)).map D.int).length<=capS:=by rw[aC];exact di (by omega)
  show ye [.val (.int r),.own (ZY 1) (mtD qq.length qq.length (dsq qq)),.val (.tup (C.map D.int))]=ZY (.ok (.int (bX qq C r)),[.val (.int r),.own (ZY 1) (mtD qq.length qq.length (dsq qq)),.val (.tup (C.map D.int))]);generalize ((C.filter λx=>decide (x≠r)).map λi=>D.lst ((C.filter λx=>decide (x≠r)).map λj=>.int (dsq qq i.toNat j.toNat)))=MN at *
  generalize (C.filter λx=>decide (x≠r)).map D.int=RR at *
  simp[ye,e1,hc,e2,e3]
theorem a0g(hr:r∈C):0<gdC qq C/\gdC qq C<=60466176/\∀x∈C,((gdC qq C:Nat):Int) ∣ bX qq C x:=by
 have d:=aqv (C.map (bX qq C)) 0;have x:=(ai5 h c hr hlt h10 rfl).1;have dv:∀x∈C,gdC qq C ∣ (bX qq C x).natAbs:=λx hx=>d.2 _ (bQ.mpr ⟨x,hx,rfl⟩)
 have d1:=dv r hr;have hp:0<(bX qq C r).natAbs:=by omega
 refine⟨Nat.pos_of_dvd_of_pos d1 hp,cW (Nat.le_of_dvd hp d1) (by omega),λx hx=>?_⟩
 have:=Int.natCast_dvd_natCast.mpr (dv x hx);have hx:=(ai5 h c hx hlt h10 rfl).1;rwa[show(((bX qq C x).natAbs:Nat):Int)=bX qq C x by omega] at this
end
def setT(f:Int->Int)(T:List Int)(r:Int):List Int:=T.set r.toNat (f r)
theorem ap3(f:Int->Int):∀(cs T:List Int),(cs.foldl (setT f) T).length=T.length
 | [],_=>rfl
 |r::cs,T=>by
  rw[dF,ap3 f cs];unfold setT;rw[cJ]
theorem ap4(f:Int->Int):∀(cs T:List Int),(∀x∈cs,0<=x)->∀i,i<T.length->(cs.foldl (setT f) T)[i]? = ZY (if (i:Int)∈cs then f (i:Int) else T.getD i 0)
 | [],T,_,i,hi=>by
  rw[if_neg nH,aZ];show T[i]? = _;rw[aF hi];rfl
 |r::cs,T,h,i,hi=>by
  have r0:=h r (aQ ..);rw[dF,ap4 f cs _ (λx hx=>h x (aK _ hx)) i (by unfold setT;rw[cJ];exact hi)]
  congr 1
  by_cases q:(i:Int)∈cs
  ·rw[if_pos q,if_pos (aK _ q)]
  ·rw[if_neg q];unfold setT;rw[aZ,aY]
   by_cases z:r.toNat=i
   ·have:(i:Int)=r:=by omega
    rw[if_pos z,if_pos (by omega),if_pos (by rw[this];exact aQ ..),this]
    rfl
   ·rw[if_neg z,if_neg λw=>by
     rcases bF.mp w with w |w
     ·exact z (by omega)
     ·exact q w,aZ]
theorem ajo(hh CC RW TT:Sl){g:Nat}(g0:0<g)(g1:g<=60466176)(X:Int->Int)(n:Nat):∀(cs T:List Int) (o6 o7:Sl),T.length=n->(∀x∈cs,0<=x/\x<(n:Int)) ->
  ∃q6 q7,forD (bTup 2 (kj (cz 6) (kj (cz 7) bNil))) xu (sy (cs.map D.int) ((cs.map X).map D.int)) [hh,CC,RW,TT,.val (.int (g:Int)),.own ZX (T.map D.int),o6,o7]=ZY (.nx,[hh,CC,RW,TT,.val (.int (g:Int)),.own ZX ((cs.foldl (setT λr=>X r / (g:Int)) T).map D.int),q6,q7])
 | [],T,o6,o7,_,_=>⟨o6,o7,rfl⟩
 |r::cs,T,o6,o7,hT,hc=>by
  have hr:=hc r (aQ ..);have e1:fDiv (X r) (g:Int)=ZY (X r / (g:Int)):=by
   unfold fDiv;rw[if_pos ⟨by omega,by omega⟩]
  have ix:ixN (T.map D.int).length r=ZY r.toNat:=ah8 hr.1 (by rw[aC];omega)
  have m3:(T.map D.int).set r.toNat (.int (X r / (g:Int)))=(setT (λr=>X r / (g:Int)) T r).map D.int:=by unfold setT;rw[List.map_set]
  obtain⟨q6,q7,e2⟩:=ajo hh CC RW TT g0 g1 X n cs (setT (λr=>X r / (g:Int)) T r) (.val (.int r)) (.val (.int (X r))) (by unfold setT;rw[cJ];exact hT) λx hx=>hc x (aK _ hx)
  refine⟨q6,q7,?_⟩;rw[dF];rw[<-m3] at e2;generalize T.map D.int=TM at *;rw[bB,bB,bB];show forD _ _ (.tup [.int r,.int (X r)]::sy (cs.map D.int) ((cs.map X).map D.int)) _=_;generalize sy (cs.map D.int) ((cs.map X).map D.int)=ZZ at *;generalize X r / (g:Int)=xx at *;have step:xu [hh,CC,RW,TT,.val (.int (g:Int)),.own ZX TM,.val (.int r),.val (.int (X r))]=ZY (.nx,[hh,CC,RW,TT,.val (.int (g:Int)),.own ZX (TM.set r.toNat (.int xx)),.val (.int r),.val (.int (X r))]):=by
   simp[xu,e1,ix]
  rw[ph];simp[step,e2]
section
variable{qq:LL9}(h:Hs qq){C:List Int}(c:Cl qq C)(hlt:C.Pairwise (· < ·))(h10:C.length<=10){r:Int}(hr:r∈C)
include h c hlt h10 hr
theorem ai7:my [.val (hD qq),.val (.tup (C.map D.int))]=ZY (.ok (.v (.tup ((ajp qq C).map D.int))),[.val (hD qq),.val (.tup (C.map D.int))]):=by
 have hm:=h.most;have e1:=aix h;have e2:=arl h c hlt h10;have hx:∀t∈C.map (bX qq C),t.natAbs<2 ^ 400:=λt ht=>by
  obtain⟨x,hx,rfl⟩:=bQ.mp ht;have b:=(ai5 h c hx hlt h10 rfl).1;refine bN (m:=2 ^ 30) (by omega) (lD (by decide) (by decide))
 have e3:=a8x hx;obtain⟨g0,g1,_⟩:=a0g h c hlt h10 hr;have hc:((C.map (bX qq C)).map D.int).length<=capS:=by rw[aC,aC];exact di (by omega)
 obtain⟨q6,q7,e4⟩:=ajo (.val (hD qq)) (.val (.tup (C.map D.int))) (.own ZX (mtD qq.length qq.length (dsq qq))) (.val (.lst ((C.map (bX qq C)).map D.int))) g0 g1 (bX qq C) qq.length C (aJ qq.length 0) .emp .emp (by simp) c.rng
 have e5:C.foldl (setT λr=>bX qq C r / (gdC qq C:Int)) (aJ qq.length 0)=ajp qq C:=by
  apply gU;intro i
  by_cases hi:i<qq.length
  ·rw[ap4 _ C _ (λx hx=>(c.rng x hx).1) i (by simpa using hi)]
   unfold ajp upto zC;rw[eV,aL,bV hi];show ZY _=ZY (if (i:Int)∈C then bX qq C (i:Int) / (gdC qq C:Int) else 0)
   congr 1
   split
   ·rfl
   ·rw[aZ,fU,if_pos hi];rfl
  ·rw[bW (by rw[ap3];simpa using hi),bW (by unfold ajp upto;simpa using hi)]
 rw[e5] at e4;have e6:(aJ qq.length (0:Int)).map D.int=aJ qq.length (D.int 0):=by simp
 rw[e6] at e4;have hl:=w6 qq;have hlc:qq.length<=capS:=di (by omega)
 have hb:qq.length<9223372036854775808:=by omega
 have hz:(C.map D.int).length<=((C.map (bX qq C)).map D.int).length:=by simp
 unfold gdC at e4;generalize (C.map (bX qq C)).map D.int=XX at *;generalize C.map D.int=CC at *;simp only[hD] at *;simp[my,ae8,e1,e2,e3,hc,hl,hlc,hb,hz,e4]
end
section
variable{qq:LL9}(h:Hs qq)(sh:Sh qq){as:List Int}(ha:Arr qq as){k:Int}(h0:0<=k)(h1:k<(qq.length:Int))(b:∀x,Rch qq k x->Rch qq x k)
include h sh h0 h1 b
theorem awa:Cl qq (mj qq k):=by
 have mem:∀x,x∈mj qq k↔Rch qq k x:=λx=>u6 h ⟨h0,h1⟩ sh
 refine⟨ur h ⟨h0,h1⟩,λx hx d hd=>(mem d).mpr (.step ((mem x).mp hx) (ur h ⟨h0,h1⟩ x hx).1 hd),λx hx y hy=>aac (b x ((mem x).mp hx)) ((mem y).mp hy)⟩
noncomputable def zN(qq:LL9)(k x:Int):Nat:=(zC qq (mj qq k) x).toNat
theorem a4t(x:Int)(hx:x∈mj qq k):0<zC qq (mj qq k) x/\zC qq (mj qq k) x<=60466176/\bX qq (mj qq k) x=(gdC qq (mj qq k):Int)*zC qq (mj qq k) x:=by
 have c:=awa h sh h0 h1 b;obtain⟨_,K⟩:=qj h ⟨h0,h1⟩;obtain⟨g0,g1,gd⟩:=a0g h c K.lt K.len hx;have hp:=(ai5 h c hx K.lt K.len rfl).1;obtain⟨q,hq⟩:=gd x hx;have e:zC qq (mj qq k) x=q:=by
  unfold zC;rw[if_pos hx,hq];exact Int.mul_ediv_cancel_left _ (by omega)
 rw[e];have q0:0<q:=by
  rcases oH 0 q with z |z
  ·exact z
  ·have:(gdC qq (mj qq k):Int)*q<=0:=Int.mul_nonpos_of_nonneg_of_nonpos (by omega) z
   omega
 refine⟨q0,?_,hq⟩;have:1*q<=(gdC qq (mj qq k):Int)*q:=qH (by omega) (by omega)
 omega
theorem zN_c(x:Int):((zN qq k x:Nat):Int)=zC qq (mj qq k) x:=by
 unfold zN
 by_cases q:x∈mj qq k
 ·have:=(a4t h sh h0 h1 b x q).1;omega
 ·have:zC qq (mj qq k) x=0:=if_neg q;rw[this];rfl
theorem ajn:my [.val (hD qq),.val (.tup ((mj qq k).map D.int))]=ZY (.ok (.v (.tup (((upto qq.length).map λx=>((zN qq k x:Nat):Int)).map D.int))),[.val (hD qq),.val (.tup ((mj qq k).map D.int))]):=by
 have c:=awa h sh h0 h1 b;obtain⟨_,K⟩:=qj h ⟨h0,h1⟩;have e:=ai7 h c K.lt K.len ((u6 h ⟨h0,h1⟩ sh).mpr .base);have:ajp qq (mj qq k)=(upto qq.length).map λx=>((zN qq k x:Nat):Int):=by
  unfold ajp;exact iC λx _=>(zN_c h sh h0 h1 b x).symm
 rw[this] at e;exact e
end
def five{w:Int}(h0:0<=w)(h1:w<5):w=0∨w=1∨w=2∨w=3∨w=4:=by omega
section
variable{hh A K:D}{c word:Str}
def ako{w:Int}(h0:0<=w)(h1:w<5)(e:bj [.val hh,.val A,.val K]=ZY (.exc ⟨c,[]⟩,[.val hh,.val A,.val K]))(hc:c∈NS)(hk:uf [.val (.exn c [])]=ZY (.ok (.v (.str word)),[.val (.exn c [])])) :
  cj [.val (.int w),.val hh,.val A,.val K]=ZY (.ok (.v (.str word)),[.val (.int w),.val hh,.val A,.val K]):=by
 have f0:f_round_of [.val hh,.val A,.val K]=ZY (.exc ⟨c,[]⟩,[.val hh,.val A,.val K]):=by simp[f_round_of,af8,e]
 have f1:f_turns_of [.val hh,.val A,.val K]=ZY (.exc ⟨c,[]⟩,[.val hh,.val A,.val K]):=by simp[f_turns_of,af7,e]
 have f2:f_in_round [.val hh,.val A,.val K]=ZY (.exc ⟨c,[]⟩,[.val hh,.val A,.val K]):=by simp[f_in_round,af9,e]
 have f3:f_why_not [.val hh,.val A,.val K]=ZY (.exc ⟨c,[]⟩,[.val hh,.val A,.val K]):=by simp[f_why_not,aif,e]
 have f4:f_why_not_holds [.val hh,.val A,.val K,.val (.tup [.str "gone", .int 0])]=ZY (.exc ⟨c,[]⟩,[.val hh,.val A,.val K,.val (.tup [.str "gone", .int 0])]):=by simp[f_why_not_holds,g_why_not_holds,e]
 rcases five h0 h1 with rfl |rfl |rfl |rfl |rfl
 ·simp[cj,jw,dTry,f0,hc,uo,hk]
 ·simp[cj,jw,dTry,f1,hc,uo,hk]
 ·simp[cj,jw,dTry,f2,hc,uo,hk]
 ·simp[cj,jw,dTry,f3,hc,uo,hk]
 ·simp[cj,jw,dTry,f4,hc,uo,hk]
def aw9{w:Int}(h0:0<=w)(h1:w<5){r0 r1 r2 r3 r4:D}(f0:f_round_of [.val hh,.val A,.val K]=ZY (.ok (.v r0),[.val hh,.val A,.val K]))(f1:f_turns_of [.val hh,.val A,.val K]=ZY (.ok (.v r1),[.val hh,.val A,.val K]))(f2:f_in_round [.val hh,.val A,.val K]=ZY (.ok (.v r2),[.val hh,.val A,.val K]))
  (f3:f_why_not [.val hh,.val A,.val K]=ZY (.ok (.v r3),[.val hh,.val A,.val K])) (f4:f_why_not_holds [.val hh,.val A,.val K,.val (.tup [.str "gone", .int 0])]=ZY (.ok (.v r4),[.val hh,.val A,.val K,.val (.tup [.str "gone", .int 0])])) :
  cj [.val (.int w),.val hh,.val A,.val K]=ZY (.ok (.v (.str "told")),[.val (.int w),.val hh,.val A,.val K]):=by
 rcases five h0 h1 with rfl |rfl |rfl |rfl |rfl
 ·simp[cj,jw,dTry,f0]
 ·simp[cj,jw,dTry,f1]
 ·simp[cj,jw,dTry,f2]
 ·simp[cj,jw,dTry,f3]
 ·simp[cj,jw,dTry,f4]
end
def au5:uf [.val (.exn "NotShut" [])]=ZY (.ok (.v (.str "shut")),[.val (.exn "NotShut" [])]):=by kernel_rfl
def a2n:("NotShut" : Str)∈NS:=dY.mp (by decide +kernel)
section
variable{qq:LL9}(h:Hs qq)
include h
theorem azp{w:Int}(w0:0<=w)(w1:w<5){bad:D}(hb:arrB qq bad=ZV)(d:D):cj [.val (.int w),.val (hD qq),.val bad,.val d]=ZY (.ok (.v (.str "arrows")),[.val (.int w),.val (hD qq),.val bad,.val d]):=by
 have e:=a1a h hb d;refine ako w0 w1 ?_ auo ao7;simp[bj,jh,e]
variable{as:List Int}(ha:Arr qq as)
include ha
theorem a4w{w:Int}(w0:0<=w)(w1:w<5){d:D}(hd:withinD 0 ((qq.length:Int)-1) d=ZV):cj [.val (.int w),.val (hD qq),.val (.tup (as.map D.int)),.val d]=ZY (.ok (.v (.str "room")),[.val (.int w),.val (hD qq),.val (.tup (as.map D.int)),.val d]):=by
 have e:=a09 h ha hd;refine ako w0 w1 ?_ a2o au6;simp[bj,jh,e]
variable{k:Int}(hk:0<=k/\k<(qq.length:Int))
include hk
theorem azo{w:Int}(w0:0<=w)(w1:w<5)(hs:agt qq=ZV):cj [.val (.int w),.val (hD qq),.val (.tup (as.map D.int)),.val (.int k)]=ZY (.ok (.v (.str "shut")),[.val (.int w),.val (hD qq),.val (.tup (as.map D.int)),.val (.int k)]):=by
 have e:=apx h ha hk.1 hk.2;have es:=aj5 h;rw[hs] at es;refine ako w0 w1 ?_ a2n au5;have e1:ir [.val (hD qq)]=ZY (.exc ⟨"NotShut", []⟩,[.val (hD qq)]):=by
  simp[ir,xf,es]
 simp[bj,jh,e,e1]
variable(sh:Sh qq)
include sh
theorem aer:bj [.val (hD qq),.val (.tup (as.map D.int)),.val (.int k)]=ZY (.ok (.v .non),[.val (hD qq),.val (.tup (as.map D.int)),.val (.int k)]):=by
 have e:=apx h ha hk.1 hk.2;have e1:=ajb h sh;simp[bj,jh,e,e1]
theorem bbv:∃a,a<=10*6 ^ qq.length/\InG qq (run qq as k a).1 (run qq as k a).2/\∀t,t<a->¬InG qq (run qq as k t).1 (run qq as k t).2:=by
 obtain⟨i,j,hij,hj,e⟩:=arw h (run qq as k) λi _=>srun h sh ha hk.1 hk.2 i
 have g:=a3a (a:=i) (m:=j-i) (by omega) (by rw[show i+(j-i)=j by omega];exact e.symm) h sh ha hk.1 hk.2 (aM i)
 obtain⟨a,ga,hm⟩:=least (P:=λt=>InG qq (run qq as k t).1 (run qq as k t).2) i g
 refine⟨a,?_,ga,hm⟩;rcases gH i a with q |q
 ·exact absurd g (hm i q)
 ·omega
theorem a0v:(∃r,f_in_round [.val (hD qq),.val (.tup (as.map D.int)),.val (.int k)]=ZY (.ok (.v r),[.val (hD qq),.val (.tup (as.map D.int)),.val (.int k)]))/\(∃r,f_why_not [.val (hD qq),.val (.tup (as.map D.int)),.val (.int k)]=ZY (.ok (.v r),[.val (hD qq),.val (.tup (as.map D.int)),.val (.int k)]))/\∃r,f_why_not_holds [.val (hD qq),.val (.tup (as.map D.int)),.val (.int k),.val (.tup [.str "gone", .int 0])]=ZY (.ok (.v r),[.val (hD qq),.val (.tup (as.map D.int)),.val (.int k),.val (.tup [.str "gone", .int 0])]):=by
 have e0:=aer h ha hk sh;have e1:=as4 h sh ha hk;have e2:=acn h hk;have e3:=aba qq (.int 0);have e4:=ail ZV 0 (abb qq k);have e5:=aao (.tup [.str "gone", .int 0]) 2 2;have e6:tupB 2 2 (.tup [.str "gone", .int 0])=ZW:=by kernel_rfl
 rw[e6] at e5;have e7:gEq ZV (.str "gone") (.str "gone")=ZY (.v (.bl ZW)):=by kernel_rfl
 have a0:atI [D.str "gone", .int 0] 0=ZY (.str "gone"):=by kernel_rfl
 have a1:atI [D.str "gone", .int 0] 1=ZY (.int 0):=by kernel_rfl
 have hw:∃b,withinD 0 ((qq.length:Int)-1) (.int 0)=b:=⟨_,rfl⟩
 obtain⟨b,hb⟩:=hw;rw[hb] at e3;generalize whyD qq as k=ww at *;generalize hD qq=hh at *;refine⟨⟨.bl (isN ww),by simp[f_in_round,af9,e0,e1]⟩,⟨ww,by simp[f_why_not,aif,e0,e1]⟩,?_⟩
 have eg:∃r,f_is_gone [.val hh,.val (.int k),.val (.int 0)]=ZY (.ok (.v r),[.val hh,.val (.int k),.val (.int 0)]):=by
  cases b with
  |true=>
   simp only[if_neg (show ¬(ZV=ZW) by decide)] at e4
   exact⟨_,by simp[f_is_gone,aii,e3,e2,e4];rfl⟩
  |false=>exact⟨.bl ZV,by simp[f_is_gone,aii,e3]⟩
 obtain⟨r,eg⟩:=eg;exact⟨r,by simp[f_why_not_holds,g_why_not_holds,e0,e5,a0,a1,e7,eg]⟩
end
def a7b{z n:Nat}(hz:z<=60466176):fMul (z:Int) (n:Int)=ZY ((z*n:Nat):Int):=by
 unfold fMul;rw[if_pos (.inl ⟨by omega,by omega⟩),vZ]
def a8p(x p:Int)(rr:List D)(em:fMul x (rr.length:Int)=ZY p):aag [.val (.int x),.val (.tup rr)]=ZY (.ok (.int p),[.val (.int x),.val (.tup rr)]):=by
 simp[aag,em]
section
variable{qq:LL9}(h:Hs qq)(sh:Sh qq){as:List Int}(ha:Arr qq as){k:Int}(h0:0<=k)(h1:k<(qq.length:Int))
include h
theorem axc(z:Int->Nat)(hz:∀x,z x<=60466176):∃q1 q2,compD (bTup 2 (kj (cz 0) (kj (cz 1) bNil))) (ret ZW) aag (sy (((upto qq.length).map λx=>((z x:Nat):Int)).map D.int) (hDs qq)) [] [.emp,.emp]=ZY (.ok (((upto qq.length).map λx=>((z x*(dr qq x).length:Nat):Int)).map D.int),[q1,q2]):=by
 have hlz:(((upto qq.length).map λx=>((z x:Nat):Int)).map D.int).length=qq.length:=by simp[upto]
 have comp:=vm (b:=bTup 2 (kj (cz 0) (kj (cz 1) bNil))) (mc:=ret ZW) (me:=aag) (λj ys ρ=>∃(o1 o2:Sl),ρ=[o1,o2]/\ys=((upto j).map λx=>((z x*(dr qq x).length:Nat):Int)).map D.int)
  (l:=sy (((upto qq.length).map λx=>((z x:Nat):Int)).map D.int) (hDs qq)) (ys:=[]) (ρ:=[.emp,.emp]) 0 ⟨.emp,.emp,rfl,rfl⟩ ?_
 ·obtain⟨ys,ρ',e6,o1,o2,rfl,rfl⟩:=comp;rw[ag8 (by rw[hlz,w6];exact aM _),hlz,cP] at e6
  exact⟨o1,o2,e6⟩
 ·rintro j d ys ρ hd ⟨o1,o2,rfl,rfl⟩
  obtain⟨d1,d2,g1,g2,rfl⟩:=ael hd;obtain⟨r,hr,rfl⟩:=aln g2;have hj:j<qq.length:=(aH.mp hr).1;have er:dr qq (j:Int)=r:=by unfold dr;rw[aZ,cM,hr];rfl
  have e1:d1=.int ((z (j:Int):Nat):Int):=by
   rw[aL,aL] at g1;unfold upto at g1;rw[aL,bV hj] at g1;exact(bL g1).symm
  subst e1;have hb:=hz (j:Int);have em:fMul ((z (j:Int):Nat):Int) ((r.map D.int).length:Int)=ZY ((z (j:Int)*r.length:Nat):Int):=by
   rw[aC];exact a7b hb
  refine⟨[.val (.int ((z (j:Int):Nat):Int)),.val (.tup (r.map D.int))],_,ZW,by simp,rfl,.inr ⟨rfl,.int ((z (j:Int)*r.length:Nat):Int),[.val (.int ((z (j:Int):Nat):Int)),.val (.tup (r.map D.int))],?_,_,_,rfl,?_⟩⟩
  ·exact a8p _ _ _ em
  ·rw[cP];unfold upto;rw[jN,cI,cI,cI];show _=_++[D.int ((z (j:Int)*(dr qq (j:Int)).length:Nat):Int)];rw[er]
include sh ha h0 h1
theorem aoj(h6:qq.length<=6):(∃r,f_round_of [.val (hD qq),.val (.tup (as.map D.int)),.val (.int k)]=ZY (.ok (.v r),[.val (hD qq),.val (.tup (as.map D.int)),.val (.int k)]))/\∃r,f_turns_of [.val (hD qq),.val (.tup (as.map D.int)),.val (.int k)]=ZY (.ok (.v r),[.val (hD qq),.val (.tup (as.map D.int)),.val (.int k)]):=by
 obtain⟨a,ha6,ga,ne⟩:=bbv h ha ⟨h0,h1⟩ sh;have h46:6 ^ qq.length<=6 ^ 6:=lD (by decide) h6
 obtain⟨b1,b2,b3⟩:=srun h sh ha h0 h1 a;have pl:∀t,0<=(run qq as k t).2/\(run qq as k t).2<(qq.length:Int):=λt=>(srun h sh ha h0 h1 t).2
 have e0:=aer h ha ⟨h0,h1⟩ sh;have e1:=an7 h sh ha h0 h1 ga ne (by omega)
 obtain⟨T,hT,hmi⟩:=least (P:=λt=>abb qq (run qq as k t).2=[]) a ((zu h (pl a) sh).mpr ga.back)
 have hTa:T<=a:=by
  rcases gH a T with q |q
  ·exact absurd ((zu h (pl a) sh).mpr ga.back) (hmi a q)
  ·exact q
 have bT:=(zu h (pl T) sh).mp hT;have t1:=ahd h sh ha h0 h1 hmi hT (by omega)
 obtain⟨t2,_⟩:=qj h (pl T);have t3:=ajn h sh (pl T).1 (pl T).2 bT;obtain⟨e2,_⟩:=qj h ⟨b2,b3⟩;have e3:=ajn h sh b2 b3 ga.back;have hz:∀x,zN qq (run qq as k a).2 x<=60466176:=λx=>by
  by_cases q:x∈mj qq (run qq as k a).2
  ·have:=(a4t h sh b2 b3 ga.back x q).2.1;unfold zN;omega
  ·have e0:zC qq (mj qq (run qq as k a).2) x=0:=if_neg q;unfold zN;rw[e0];exact fJ _
 obtain⟨q1,q2,e4⟩:=axc h (zN qq (run qq as k a).2) hz;have e5:∃S:Int,gSum (.lst (((upto qq.length).map λx=>((zN qq (run qq as k a).2 x*(dr qq x).length:Nat):Int)).map D.int))=ZY (.v (.int S)):=⟨_,by
  show(qp _).map _=_;rw[acl];rfl⟩
 obtain⟨S,e5⟩:=e5;have hc:(((upto qq.length).map λx=>((zN qq (run qq as k a).2 x*(dr qq x).length:Nat):Int)).map D.int).length<=capS:=by rw[aC,aC];exact di (by simp[upto];omega)
 have hlz:(((upto qq.length).map λx=>((zN qq (run qq as k a).2 x:Nat):Int)).map D.int).length<=(hDs qq).length:=by rw[w6];simp[upto]
 generalize (((upto qq.length).map λx=>((zN qq (run qq as k a).2 x*(dr qq x).length:Nat):Int)).map D.int)=SS at *
 generalize (((upto qq.length).map λx=>((zN qq (run qq as k a).2 x:Nat):Int)).map D.int)=TT at *
 generalize (((upto qq.length).map λx=>((zN qq (run qq as k T).2 x:Nat):Int)).map D.int)=TU at *
 generalize as.map D.int=AA at *;generalize (run qq as k a).1.map D.int=BB at *;generalize (run qq as k T).1.map D.int=BT at *;generalize (run qq as k a).2=pp at *;generalize (run qq as k T).2=pt at *;simp only[hD] at *;generalize hDs qq=hh at *;have eg:aci nq [ZX,ZY 1,ZY 2] (au (mVar 0) (bu 1 (bu 2 dh))) [.val (.tup hh),.val (.tup AA),.val (.int k),.emp,.emp,.emp]=ZY ((bxS 1000 (.tup hh) pp (a:Int),BB),[.val (.tup hh),.val (.tup AA),.val (.int k),.emp,.emp,.emp]):=by
  simp[aci,avh,e1]
 have eh:aci ie [ZY 0,ZY 1,ZY 2] (bu 0 (bu 1 (bu 2 dh))) [.val (.tup hh),.val (.tup AA),.val (.int k),.emp,.emp]=ZY ((bxS 1000 (.tup hh) pt (T:Int),BT),[.val (.tup hh),.val (.tup AA),.val (.int k),.emp,.emp]):=by
  simp[aci,avh,t1]
 refine⟨⟨.tup [.int (a:Int),.int S],?_⟩,⟨.tup TU,?_⟩⟩
 ·simp[f_round_of,af8,e0,dOk,dGot,eg,tagB,amg,sq_p,sq_s,e2,e3,e4,e5,hc,hlz,offs]
 ·simp[f_turns_of,af7,e0,dOk,dGot,eh,tagB,amg,sq_p,t2,t3,offs]
theorem as9{w:Int}(w0:0<=w)(w1:w<5)(h6:qq.length<=6):cj [.val (.int w),.val (hD qq),.val (.tup (as.map D.int)),.val (.int k)]=ZY (.ok (.v (.str "told")),[.val (.int w),.val (hD qq),.val (.tup (as.map D.int)),.val (.int k)]):=by
 obtain⟨⟨r0,f0⟩,⟨r1,f1⟩⟩:=aoj h sh ha h0 h1 h6;obtain⟨⟨r2,f2⟩,⟨r3,f3⟩,⟨r4,f4⟩⟩:=a0v h ha ⟨h0,h1⟩ sh;exact aw9 w0 w1 f0 f1 f2 f3 f4
end
def bce:gEq ZW (.str "arrows") (.str "arrows")=ZY (.v (.bl ZV)):=by kernel_rfl
def bcd:gEq ZW (.str "room") (.str "room")=ZY (.v (.bl ZV)):=by kernel_rfl
def a8o:gEq ZW (.str "shut") (.str "shut")=ZY (.v (.bl ZV)):=by kernel_rfl
def a8n:gEq ZW (.str "told") (.str "told")=ZY (.v (.bl ZV)):=by kernel_rfl
theorem aww{r:List Int}{a:Int}(h0:0<=a)(h1:a<(r.length:Int)):Arr [r] [a]:=⟨rfl,λi x q g1 g2=>by
 cases i with
 |zero=>simp at g1 g2;subst g1 g2;exact⟨h0,h1⟩
 |succ i=>simp at g1⟩
def a01{d e:D}(qq:LL9)(as:List Int)(e1:hD qq=d)(e2:D.tup (as.map D.int)=e)(h:Hs qq)(ha:Arr qq as){w k:Int}(hk:0<=k/\k<(qq.length:Int))(w0:0<=w)(w1:w<5)(hs:agt qq=ZV):cj [.val (.int w),.val d,.val e,.val (.int k)]=ZY (.ok (.v (.str "shut")),[.val (.int w),.val d,.val e,.val (.int k)]):=by
 subst e1 e2;exact azo h ha hk w0 w1 hs
def a00{d e:D}(qq:LL9)(as:List Int)(e1:hD qq=d)(e2:D.tup (as.map D.int)=e)(h:Hs qq)(sh:Sh qq)(ha:Arr qq as){w k:Int}(hk:0<=k/\k<(qq.length:Int))(w0:0<=w)(w1:w<5)(h6:qq.length<=6):cj [.val (.int w),.val d,.val e,.val (.int k)]=ZY (.ok (.v (.str "told")),[.val (.int w),.val d,.val e,.val (.int k)]):=by
 subst e1 e2;exact as9 h sh ha hk.1 hk.2 w0 w1 h6
def a5m:agt [[0,-1]]=ZV:=by
 unfold agt
 decide
def au3(S:D)(w:Int)(w0:0<=w)(w1:w<5)(a2 a3 a4 a5 a6 a7 a8 a9:Sl):au4 [.val S,.val (.int w),a2,a3,a4,a5,a6,a7,a8,a9]=ZY (.nx,[.val S,.val (.int w),a2,a3,a4,a5,a6,a7,a8,a9]):=by
 have t1:=a01 (d:=.tup [.tup [.int 0,.int (-1)]]) (e:=.tup [.int 0]) (k:=0) [[0,-1]] [0] rfl rfl ⟨by decide,by decide,by decide⟩ (aww (by decide) (by decide)) (by decide) w0 w1 a5m
 have t2:=a00 (d:=.tup [.tup [.int 0]]) (e:=.tup [.int 0]) (k:=0) [[0]] [0] rfl rfl ⟨by decide,by decide,by decide⟩ (by unfold Sh;decide) (aww (by decide) (by decide)) (by decide) w0 w1 (by decide)
 simp[au4,t1,t2,a8o,a8n]
def rN5:rangeD 0 5=[.int 0,.int 1,.int 2,.int 3,.int 4]:=by kernel_rfl
theorem aqh:∀{r:List Int} {x:Int},x∈r->minI r<=x
 | [],_,h=>by cases h
 |y::r,x,h=>by
  have key:∀(r:List Int) (y:Int),r.foldl (λm z=>if decide (z<m)=ZW then z else m) y<=y/\∀x∈r,r.foldl (λm z=>if decide (z<m)=ZW then z else m) y<=x:=by
   intro r
   induction r with
   |nil=>intro y;exact⟨Int.le_refl _,λx hx=>by cases hx⟩
   |cons z t ih=>
    intro y;rw[dF];obtain⟨a,b⟩:=ih (if decide (z<y)=ZW then z else y)
    by_cases q:z<y
    ·rw[decide_eq_true q,if_pos rfl] at a b ⊢
     exact⟨by omega,λx hx=>by
      rcases bF.mp hx with rfl |hx
      ·exact a
      ·exact b x hx⟩
    ·rw[decide_eq_false q,if_neg (by simp)] at a b ⊢
     exact⟨a,λx hx=>by
      rcases bF.mp hx with rfl |hx
      ·omega
      ·exact b x hx⟩
  obtain⟨a,b⟩:=key r y;rcases bF.mp h with rfl |h
  ·exact a
  ·exact b x h
def dueS(qq:LL9):Str:=if agt qq=ZW then "told" else "shut"
section
variable{qq:LL9}(h:Hs qq){as:List Int}(ha:Arr qq as){k:Int}(hk:0<=k/\k<(qq.length:Int))(h6:qq.length<=6)
include h ha hk h6
theorem aw8{w:Int}(w0:0<=w)(w1:w<5):cj [.val (.int w),.val (hD qq),.val (.tup (as.map D.int)),.val (.int k)]=ZY (.ok (.v (.str (dueS qq))),[.val (.int w),.val (hD qq),.val (.tup (as.map D.int)),.val (.int k)]):=by
 unfold dueS;cases hs:agt qq with
 |false=>exact azo h ha hk w0 w1 hs
 |true=>
  have sh:Sh qq:=λr hr x hx=>by
   have e:=bK.mp hs r hr;have e:0<=minI r:=of_decide_eq_true e;exact qI e (aqh hx)
  exact as9 h sh ha hk.1 hk.2 w0 w1 h6
theorem bbs(S:D)(C:Sl)(P:Int×Int)(w:Int)(w0:0<=w)(w1:w<5)(o8 o9:Sl):∃P' q8 q9,l2_law [.val S,.val (.int w),C,.own ZX (pen P),.val (hD qq),.val (.tup (as.map D.int)),.val (.int k),.val (.str (dueS qq)),o8,o9]=ZY (.nx,[.val S,.val (.int w),C,.own ZX (pen P'),.val (hD qq),.val (.tup (as.map D.int)),.val (.int k),.val (.str (dueS qq)),q8,q9]):=by
 obtain⟨bad,P4,e5,hb⟩:=aji h ha P;obtain⟨worse,P5,e6,hw⟩:=amy P4 h;have t1:=azp h w0 w1 hb worse;have t2:=azp h w0 w1 hb (.int k);have t3:=a4w h ha w0 w1 hw;have t4:=aw8 h ha hk h6 w0 w1;have eq4:gEq ZW (.str (dueS qq)) (.str (dueS qq))=ZY (.v (.bl ZV)):=by
  unfold dueS;split
  ·exact a8n
  ·exact a8o
 refine⟨P5,.val bad,.val worse,?_⟩;generalize dueS qq=ds at *;generalize as.map D.int=AA at *;generalize hD qq=hh at *;simp[l2_law,e5,e6,t1,t2,t3,t4,bce,bcd,eq4]
theorem loop2(S:D)(C:Sl):∀(ws:List Int) (P:Int×Int) (o1 o8 o9:Sl),(∀w∈ws,0<=w/\w<5)->∃P' q1 q8 q9,forD (cz 1) l2_law (ws.map D.int) [.val S,o1,C,.own ZX (pen P),.val (hD qq),.val (.tup (as.map D.int)),.val (.int k),.val (.str (dueS qq)),o8,o9]=ZY (.nx,[.val S,q1,C,.own ZX (pen P'),.val (hD qq),.val (.tup (as.map D.int)),.val (.int k),.val (.str (dueS qq)),q8,q9])
 | [],P,o1,o8,o9,_=>⟨P,o1,o8,o9,rfl⟩
 |w::ws,P,o1,o8,o9,hw=>by
  obtain⟨w0,w1⟩:=hw w (aQ ..);obtain⟨P1,p8,p9,e1⟩:=bbs h ha hk h6 S C P w w0 w1 o8 o9;obtain⟨P2,q1,q8,q9,e2⟩:=loop2 S C ws P1 (.val (.int w)) p8 p9 λx hx=>hw x (aK _ hx)
  refine⟨P2,q1,q8,q9,?_⟩;rw[bB,ph];simp only[ag7,mF,mD];rw[e1];exact e2
end
def a2v{qq:LL9}(h:Hs qq):∃i:Int,(M.d (iu (g1 ang) (bh (M.d (mOp (gCmp λi j=>decide (i<j)) (gw (M.d (iu (g1 ajj) (bh (M.d (qy [ZX] (qm (mVar 4)) (cz 0) (ret ZW) anm)) mNil))) (ret (.int 0))))) mNil)))=(M.d (iu (g1 ang) (bh (M.d (mOp (gCmp λi j=>decide (i<j)) (gw (M.d (iu (g1 ajj) (bh (M.d (qy [ZX] (qm (mVar 4)) (cz 0) (ret ZW) anm)) mNil))) (ret (.int 0))))) mNil)))/\atI [D.str "told", .str "shut"] i=ZY (.str (dueS qq))/\i=if minI (qq.map minI)<0 then 1 else 0:=by
 refine⟨_,rfl,?_,rfl⟩;have hne:∀r∈qq,r≠[]:=λr hr z=>by have:=(h.room r hr).1;rw[z] at this;simp at this
 have hne2:qq.map minI≠[]:=λz=>by have:=congrArg uC z;simp at this;have:=h.one;simp[‹qq=[]›] at this
 unfold dueS
 by_cases q:minI (qq.map minI)<0
 ·rw[if_pos q];have:agt qq=ZV:=by
   cases hs:agt qq with
   |false=>rfl
   |true=>
    obtain⟨r,hr,e⟩:=bQ.mp (aus hne2);have:=of_decide_eq_true (bK.mp hs r hr);omega
  rw[this];rfl
 ·rw[if_neg q];have:agt qq=ZW:=bK.mpr λr hr=>decide_eq_true (by
   have:=aqh (bQ.mpr ⟨r,hr,rfl⟩:minI r∈qq.map minI);omega)
  rw[this];rfl
def a7t(S:D)(w C:Sl)(P:Int×Int){qq:LL9}(h:Hs qq)(h6:qq.length<=6)(o5 o6 o7 o8 o9:Sl):∃P' q1 q5 q6 q7 q8 q9,l3_law [.val S,w,C,.own ZX (pen P),.val (hD qq),o5,o6,o7,o8,o9]=ZY (.nx,[.val S,q1,C,.own ZX (pen P'),.val (hD qq),q5,q6,q7,q8,q9]):=by
 obtain⟨as,P1,e1,ha⟩:=aps P h;have hmo:=h.most;have hon:=h.one;obtain⟨r,P2,e2,r0,r1⟩:=ji P1 (qq.length:Int) (by omega) (by omega)
 obtain⟨P3,q1,q8,q9,e3⟩:=loop2 h ha ⟨r0,r1⟩ h6 S C [0,1,2,3,4] P2 w o8 o9 (by decide)
 have e3:forD (cz 1) l2_law [.int 0,.int 1,.int 2,.int 3,.int 4] [.val S,w,C,.own ZX (pen P2),.val (hD qq),.val (.tup (as.map D.int)),.val (.int r),.val (.str (dueS qq)),o8,o9]=_:=e3;obtain⟨i,_,ei,hi⟩:=a2v h;have ec:compD (cz 0) (ret ZW) anm (hDs qq) [] [.emp]=ZY (.ok ((qq.map minI).map D.int),aa9 .emp (hDs qq)::[]):=by
  rw[vh (f:=λd=>match d with |.tup l=>.int (minI ((qp l).getD [])) |_=>.non)]
  ·simp[hDs,pY]
  ·intro d hd;obtain⟨r,hr,rfl⟩:=bQ.mp hd;have hne:r≠[]:=λz=>by have:=(h.room r hr).1;rw[z] at this;simp at this
   simp[anm,aqx hne]
 have hc:((qq.map minI).map D.int).length<=capS:=by rw[aC,aC];exact di (by omega)
 have hne2:qq.map minI≠[]:=λz=>by have:=congrArg uC z;simp at this;simp[this] at hon
 have em:ajj (.lst ((qq.map minI).map D.int))=ZY (.v (.int (minI (qq.map minI)))):=aqy hne2;have ed:ang (.bl (decide (minI (qq.map minI)<0)))=ZY (.v (.int i)):=by
  rw[hi]
  by_cases q:minI (qq.map minI)<0
  ·rw[if_pos q,decide_eq_true q];rfl
  ·rw[if_neg q,decide_eq_false q];rfl
 have hl:=w6 qq;refine⟨P3,q1,.val (.tup (as.map D.int)),.val (.int r),.val (.str (dueS qq)),q8,q9,?_⟩
 clear hi
 generalize minI (qq.map minI)=mm at *;generalize (qq.map minI).map D.int=MM at *;generalize dueS qq=ds at *;generalize as.map D.int=AA at *;simp only[hD] at *;generalize hDs qq=hh at *;simp[l3_law,e1,hl,e2,ec,hc,em,ed,ei,rN5,e3]
def bbr(S:D)(n:Int)(w a3 a4 a5 a6 a7 a8 a9:Sl):∃q1 q3 q4 q5 q6 q7 q8 q9,l4_law [.val S,w,.val (.int n),a3,a4,a5,a6,a7,a8,a9]=ZY (.nx,[.val S,q1,.val (.int n),q3,q4,q5,q6,q7,q8,q9]):=by
 obtain⟨P,e0⟩:=axp n;obtain⟨r1,P1,e1,k1⟩:=asj P 6 3 (by decide) (by decide) (by decide) (by decide)
 obtain⟨r2,P2,e2,k2⟩:=atm P1 5 3 (by decide) (by decide) (by decide) (by decide)
 have h1:Hs r1:=k1.hs (by decide) (by decide)
 have h2:Hs r2:=k2.hs (by decide) (by decide)
 obtain⟨P3,q1,q5,q6,q7,q8,q9,e3⟩:=a7t S w (.val (.int n)) P2 h1 (by have:=k1.most;omega) a5 a6 a7 a8 a9
 obtain⟨P4,p1,p5,p6,p7,p8,p9,e4⟩:=a7t S q1 (.val (.int n)) P3 h2 (by have:=k2.most;omega) q5 q6 q7 q8 q9
 refine⟨p1,.own ZX (pen P4),.val (hD r2),p5,p6,p7,p8,p9,?_⟩;generalize hD r1=x1 at *;generalize hD r2=x2 at *;simp[l4_law,e0,e1,e2,ph,e3,e4]
theorem a7m(S:D):∀(ns:List Int) (q a1 a3 a4 a5 a6 a7 a8 a9:Sl),∃ρ,forD (cz 2) l4_law (ns.map D.int) [.val S,a1,q,a3,a4,a5,a6,a7,a8,a9]=ZY (.nx,.val S::ρ)
 | [],q,a1,a3,a4,a5,a6,a7,a8,a9=>⟨_,rfl⟩
 |n::r,q,a1,a3,a4,a5,a6,a7,a8,a9=>by
  obtain⟨b1,b3,b4,b5,b6,b7,b8,b9,z⟩:=bbr S n a1 a3 a4 a5 a6 a7 a8 a9;obtain⟨ρ,z2⟩:=a7m S r (.val (.int n)) b1 b3 b4 b5 b6 b7 b8 b9;exact⟨ρ,by rw[bB,ph];simp[z,z2]⟩
def ayl:apv avv:=λns hn=>by
 obtain⟨n0,e0⟩:=awg ns 0 (by decide)
 obtain⟨ms,em,hm⟩:=av8 ns (ZY 1) (ZY 5);have hc:1+ms.length<=capS:=di (by omega)
 have z0:=au3 (.kst (ns.map D.int)) 0 (by decide) (by decide) .emp .emp .emp .emp .emp .emp .emp .emp
 have z1:=au3 (.kst (ns.map D.int)) 1 (by decide) (by decide) .emp .emp .emp .emp .emp .emp .emp .emp
 have z2:=au3 (.kst (ns.map D.int)) 2 (by decide) (by decide) .emp .emp .emp .emp .emp .emp .emp .emp
 have z3:=au3 (.kst (ns.map D.int)) 3 (by decide) (by decide) .emp .emp .emp .emp .emp .emp .emp .emp
 have z4:=au3 (.kst (ns.map D.int)) 4 (by decide) (by decide) .emp .emp .emp .emp .emp .emp .emp .emp
 obtain⟨ρ,q⟩:=a7m (.kst (ns.map D.int)) (n0::ms) .emp (.val (.int 4)) .emp .emp .emp .emp .emp .emp .emp;simp only[bB] at q;simp[avv,a77,rN5,ph,z0,z1,z2,z3,z4,e0,em,hc,q]
end My
set_option maxHeartbeats 0
namespace My
open PySem L2 Mn Dn
noncomputable def nD(l:List Str)(h:l.Nodup:=by decide +kernel):l.Nodup:=h
noncomputable def top(i:Nat):fD:=PySem.Challenge.pw_turnarrows_k30_rounds_refused.main.body.getD i (.Pass ⟨0,0,0,0⟩)
abbrev afv:fD:=top 15
def aof:FnScope ["thing"] ["thing"] (ao afv):=mkSc
abbrev wg:fD:=top 16
def aes:FnScope ["thing","least","most"] ["thing","least","most"] (ao wg):=mkSc
abbrev wj:fD:=top 17
def aet:FnScope ["thing","least","most"] ["thing","least","most"] (ao wj):=mkSc
abbrev yu:fD:=top 19
def afs:FnScope ["house","thing"] ["house","thing"] (ao yu):=mkSc
abbrev sr:fD:=top 20
def aa3:FnScope ["house","thing"] ["house","thing"] (ao sr):=mkSc
abbrev ahp:fD:=top 21
def zy:FnScope ["house","room","met","looked_at","doors","door"] ["house","room"] (ao ahp):=mkSc
abbrev ahn:fD:=top 22
def aru:FnScope ["house"] ["house"] (ao ahn):=mkSc
abbrev qd:fD:=top 23
def aak:FnScope ["house"] ["house"] (ao qd):=mkSc
abbrev ad0:fD:=top 25
def amd:FnScope ["house","thing"] ["house","thing"] (ao ad0):=mkSc
abbrev nu:fD:=top 26
def aab:FnScope ["house","thing"] ["house","thing"] (ao nu):=mkSc
abbrev adz:fD:=top 27
def amc:FnScope ["house","arrows"] ["house","arrows"] (ao adz):=mkSc
abbrev abj:fD:=top 28
def qx:FnScope ["last","rooms","staying","many"] ["last","rooms"] (ao abj):=mkSc
abbrev aog:fD:=top 30
def axg:FnScope ["rows","chosen"] ["rows","chosen"] (ao aog):=mkSc
abbrev aft:fD:=top 31
def ahi:FnScope ["rows","at","number"] ["rows","at"] (ao aft):=mkSc
abbrev ahm:fD:=top 32
def ajw:FnScope ["rows","one","other","told"] ["rows","one","other"] (ao ahm):=mkSc
abbrev ahq:fD:=top 33
def aa4:FnScope ["rows","at","bottom","head","told","number","row"] ["rows","at","bottom"] (ao ahq):=mkSc
abbrev aky:fD:=top 34
def yh:FnScope ["rows","right","work","bottom","at","found"] ["rows","right"] (ao aky):=mkSc
abbrev abk:fD:=top 35
def ado:FnScope ["rows","told"] ["rows"] (ao abk):=mkSc
abbrev yw:fD:=top 36
def jj:FnScope ["numbers","told","number","other","over"] ["numbers"] (ao yw):=mkSc
abbrev aas:fD:=top 37
def oh:FnScope ["house","rows","room","doors","row"] ["house"] (ao aas):=mkSc
abbrev ady:fD:=top 39
def ug:FnScope ["last","room","place","turn","ring","least"] ["last","room"] (ao ady):=mkSc
abbrev afu:fD:=top 40
def abh:FnScope ["last","rooms","rings","room","ring"] ["last","rooms"] (ao afu):=mkSc
abbrev qe:fD:=top 43
def aal:FnScope ["house","arrows","room"] ["house","arrows","room"] (ao qe):=mkSc
abbrev aoh:fD:=top 44
def ap5:FnScope ["house","turning","room","door"] ["house","turning","room"] (ao aoh):=mkSc
abbrev jy:fD:=top 46
def uz:FnScope ["house","arrows","room"] ["house","arrows","room"] (ao jy):=mkSc
abbrev ad1:fD:=top 48
def ame:FnScope ["house","room"] ["house","room"] (ao ad1):=mkSc
abbrev aar:fD:=top 49
def ab5:FnScope ["house","arrows","room","ring"] ["house","arrows","room"] (ao aar):=mkSc
abbrev akx:fD:=top 50
def ahh:FnScope ["house","arrows","room","gone","ring"] ["house","arrows","room"] (ao akx):=mkSc
abbrev uc:fD:=top 51
def zj:FnScope ["house","arrows","room","stroll","stroll.turning"] ["house","arrows","room"] (ao uc):=mkSc
abbrev aaq:fD:=top 52
def uy:FnScope ["house","arrows","room","stroll","ring","stroll.turning"] ["house","arrows","room"] (ao aaq):=mkSc
abbrev abi:fD:=top 53
def j8:FnScope ["house","rooms","rows","trees","divisor","turns","room","many"] ["house","rooms"] (ao abi):=mkSc
abbrev ac8:fD:=top 54
def abg:FnScope ["house","arrows","room","stroll","turns","stroll.turning"] ["house","arrows","room"] (ao ac8):=mkSc
abbrev ac7:fD:=top 55
def adx:FnScope ["house","arrows","room","stroll","stroll.turning"] ["house","arrows","room"] (ao ac7):=mkSc
abbrev ac9:fD:=top 56
def ahj:FnScope ["house","arrows","room"] ["house","arrows","room"] (ao ac9):=mkSc
abbrev aeu:fD:=top 57
def ajv:FnScope ["house","arrows","room"] ["house","arrows","room"] (ao aeu):=mkSc
abbrev aho:fD:=top 58
def arv:FnScope ["house","room","thing"] ["house","room","thing"] (ao aho):=mkSc
abbrev s_why_not_holds:fD:=top 60
def sc_why_not_holds:FnScope ["house","arrows","room","thing"] ["house","arrows","room","thing"] (ao s_why_not_holds):=mkSc
abbrev ad6:fD:=top 62
def amf:FnScope ["script","k"] ["script","k"] (ao ad6):=mkSc
abbrev afw:fD:=top 63
def ahk:FnScope ["cell","left"] ["cell"] (ao afw):=mkSc
abbrev ad5:fD:=top 64
def yl:FnScope ["pen","many","left","found","stir"] ["pen","many"] (ao ad5):=mkSc
abbrev afx:fD:=top 65
def ahl:FnScope ["pen","some"] ["pen"] (ao afx):=mkSc
abbrev ab8:fD:=top 66
def qb:FnScope ["pen","most","doors","many","gates","house","room","wide"] ["pen","most","doors"] (ao ab8):=mkSc
abbrev ad3:fD:=top 67
def uh:FnScope ["pen","most","doors","many","house","room","wide","some"] ["pen","most","doors"] (ao ad3):=mkSc
abbrev abl:fD:=top 68
def ai9:FnScope ["pen","house"] ["pen","house"] (ao abl):=mkSc
abbrev ad4:fD:=top 69
def yj:FnScope ["e","marks","words"] ["e"] (ao ad4):=mkSc
abbrev yx:fD:=top 70
def pq:FnScope ["pen","house","arrows","at","odd","some"] ["pen","house","arrows"] (ao yx):=mkSc
abbrev aat:fD:=top 71
def ab7:FnScope ["pen","house","far"] ["pen","house"] (ao aat):=mkSc
abbrev ad2:fD:=top 72
def agj:FnScope ["way","house","arrows","room","e"] ["way","house","arrows","room"] (ao ad2):=mkSc
abbrev akz:fD:=top 73
def ab6:FnScope ["script","way","cell","pen","house","arrows","room","due","bad","worse"] ["script"] (ao akz):=mkSc
abbrev qg:fD:=a0n (top 47) 0
def aja:FnScope ["self","house","arrows","room"] ["self","house","arrows","room"] (ao qg):=mkSc
abbrev jk:fD:=a0n (top 47) 1
def adk:FnScope ["self","rooms","self.turning"] ["self","rooms"] (ao jk):=mkSc
theorem lnS{k:Nat}{us:List aD}(h:us.length=k+1):∃a r,us=a::r/\r.length=k:=by
 cases us with
 |nil=>cases h
 |cons a r=>exact⟨a,r,rfl,Nat.succ.inj h⟩
def ln1{us:List aD}(h:us.length=1):∃a0,us=[a0]:=by
 obtain⟨a,r,rfl,h'⟩:=lnS h;cases List.eq_nil_of_length_eq_zero h';exact⟨a,rfl⟩
def ln2{us:List aD}(h:us.length=2):∃a0 a1,us=[a0,a1]:=by
 obtain⟨a,r,rfl,h'⟩:=lnS h;obtain⟨_,rfl⟩:=ln1 h';exact⟨_,_,rfl⟩
def ln3{us:List aD}(h:us.length=3):∃a0 a1 a2,us=[a0,a1,a2]:=by
 obtain⟨a,r,rfl,h'⟩:=lnS h;obtain⟨_,_,rfl⟩:=ln2 h';exact⟨_,_,_,rfl⟩
def ln4{us:List aD}(h:us.length=4):∃a0 a1 a2 a3,us=[a0,a1,a2,a3]:=by
 obtain⟨a,r,rfl,h'⟩:=lnS h;obtain⟨_,_,_,rfl⟩:=ln3 h';exact⟨_,_,_,_,rfl⟩
structure Txt (K:Fg9) (mg:Str->Option aD):Prop where
 z_ValueError:mg "ValueError"=ZX
 z_abs:mg "abs"=ZX
 z_all:mg "all"=ZX
 z_bool:mg "bool"=ZX
 z_divmod:mg "divmod"=ZX
 z_enumerate:mg "enumerate"=ZX
 z_int:mg "int"=ZX
 z_isinstance:mg "isinstance"=ZX
 z_len:mg "len"=ZX
 z_list:mg "list"=ZX
 z_max:mg "max"=ZX
 z_min:mg "min"=ZX
 z_range:mg "range"=ZX
 z_set:mg "set"=ZX
 z_sorted:mg "sorted"=ZX
 z_sum:mg "sum"=ZX
 z_tuple:mg "tuple"=ZX
 z_zip:mg "zip"=ZX
 f_Stroll_house:FldT K "Stroll" "house"
 f_Stroll_turning:FldT K "Stroll" "turning"
 f_Stroll_place:FldT K "Stroll" "place"
 f_Stroll_steps:FldT K "Stroll" "steps"
 sub:akr K NS=ZW
 cat:CatT K mg
 k_ArrowError:ClsT K mg "ArrowError"
 k_NoArrows:ClsT K mg "NoArrows"
 k_NoRoom:ClsT K mg "NoRoom"
 k_NoWalkers:ClsT K mg "NoWalkers"
 k_NotShut:ClsT K mg "NotShut"
 k_NeverBack:ClsT K mg "NeverBack"
 k_NoTour:ClsT K mg "NoTour"
 k_NoRow:ClsT K mg "NoRow"
 k_NoHouse:ClsT K mg "NoHouse"
 k_NotOpen:ClsT K mg "NotOpen"
 k_Nobody:ClsT K mg "Nobody"
 k_NoText:ClsT K mg "NoText"
 k_TooGreat:ClsT K mg "TooGreat"
 r_ArrowError:RaiT K mg "ArrowError"
 r_NoArrows:RaiT K mg "NoArrows"
 r_NoRoom:RaiT K mg "NoRoom"
 r_NoWalkers:RaiT K mg "NoWalkers"
 r_NotShut:RaiT K mg "NotShut"
 r_NeverBack:RaiT K mg "NeverBack"
 r_NoTour:RaiT K mg "NoTour"
 r_NoRow:RaiT K mg "NoRow"
structure Cz where
 P:cA
 w:dU
 K:Fg9
 mg:Str->Option aD
 base:eF
abbrev Cz.d(z:Cz)(x:Str)(ps:List Str)(k n:Nat)(F:Fd):Prop:=Dfn z.P z.w z.K z.mg z.base x ps k (spOf z.K n F)
abbrev Cz.x(z:Cz)(x:Str)(ps:List Str)(k n:Nat)(F:Fd):Prop:=DfnX z.P z.w z.K z.mg z.base x ps k (spX z.K n F)
abbrev Cz.F(z:Cz)(x:Str)(st:fD)(f:aU)(fd:dR):Prop:=Fun z.K x x st f fd
abbrev Cz.o(z:Cz)(k:Nat)(f:aU)(fd:dR)(ps:List Str)(n:Nat)(F:Fd):Prop:=FnOk z.P z.w z.K z.mg z.base CX0 k f fd ps (spOf z.K n F)
abbrev Cz.p(z:Cz)(k:Nat)(f:aU)(fd:dR)(ps:List Str)(n:Nat)(F:Fd):Prop:=FnOk z.P z.w z.K z.mg z.base (CX1 z.P z.w) k f fd ps (spX z.K n F)
abbrev Dd0(z:Cz):=z.d "is_whole" ["thing"] 1 1 abf
abbrev Dd1(z:Cz):=z.d "is_whole_within" ["thing","least","most"] 2 3 jl
abbrev Dd3(z:Cz):=z.d "is_room_number" ["house","thing"] 3 2 j6
abbrev Dd4(z:Cz):=z.d "refuse_no_room" ["house","thing"] 4 2 gj
abbrev Dd6(z:Cz):=z.d "is_shut" ["house"] 1 1 acp
abbrev Dd2(z:Cz):=z.d "is_tuple_within" ["thing","least","most"] 1 3 jm
abbrev Dd8(z:Cz):=z.d "is_arrows" ["house","thing"] 3 2 ud
abbrev Dd13(z:Cz):=z.d "row_with" ["rows","at"] 1 2 abd
abbrev Dd14(z:Cz):=z.d "swapped" ["rows","one","other"] 1 3 aco
abbrev Dd15(z:Cz):=z.d "cleared" ["rows","at","bottom"] 1 3 acq
abbrev Dd16(z:Cz):=z.d "solved" ["rows","right"] 2 2 afe
abbrev Dd11(z:Cz):=z.d "going_round" ["last","rooms"] 1 2 vd
abbrev Dd20(z:Cz):=z.d "ring_from" ["last","room"] 1 2 xm
abbrev Dd9(z:Cz):=z.d "refuse_no_arrows" ["house","thing"] 4 2 gr
abbrev Dx9(z:Cz):=z.x "refuse_no_arrows" ["house","thing"] 4 2 gr
abbrev Dx4(z:Cz):=z.x "refuse_no_room" ["house","thing"] 4 2 gj
abbrev Dd22(z:Cz):=z.d "refuse_no_state" ["house","arrows","room"] 5 3 gk
abbrev Dd7(z:Cz):=z.d "refuse_not_shut" ["house"] 2 1 ir
abbrev Dx22(z:Cz):=z.x "refuse_no_state" ["house","arrows","room"] 5 3 gk
abbrev Dx7(z:Cz):=z.x "refuse_not_shut" ["house"] 2 1 ir
abbrev Dd5(z:Cz):=z.d "come_to" ["house","room"] 5 2 rn
abbrev Dd10(z:Cz):=z.d "last_ways" ["house","arrows"] 1 2 aaf
abbrev Dd21(z:Cz):=z.d "rings_of" ["last","rooms"] 2 2 abe
abbrev Dd25(z:Cz):=z.d "gone_from" ["house","room"] 6 2 ue
abbrev Dd26(z:Cz):=z.d "ring_without" ["house","arrows","room"] 6 3 jc
abbrev Dd23(z:Cz):=z.d "leave" ["house","turning","room"] 1 3 aei
abbrev Dd19(z:Cz):=z.d "doors_square" ["house"] 1 1 rm
abbrev Dd12(z:Cz):=z.d "minor" ["rows","chosen"] 1 2 aip
abbrev Dd17(z:Cz):=z.d "determinant" ["rows"] 3 1 mz
abbrev Dd18(z:Cz):=z.d "common_divisor" ["numbers"] 1 1 ni
abbrev Dd24(z:Cz):=z.d "refuse_no_shut_state" ["house","arrows","room"] 6 3 bj
abbrev Dd30(z:Cz):=z.d "turns_among" ["house","rooms"] 4 2 my
abbrev Dx24(z:Cz):=z.x "refuse_no_shut_state" ["house","arrows","room"] 6 3 bj
abbrev Dd27(z:Cz):=z.d "why_of" ["house","arrows","room"] 7 3 aap
abbrev Dd35(z:Cz):=z.d "is_gone" ["house","room","thing"] 7 3 f_is_gone
abbrev Dd39(z:Cz):=z.d "_law_draw" ["pen","many"] 1 2 f__law_draw
abbrev Dd40(z:Cz):=z.d "_law_odd" ["pen"] 2 1 f__law_odd
abbrev Dd31(z:Cz):=z.d "round_of" ["house","arrows","room"] 9 3 f_round_of
abbrev Dd32(z:Cz):=z.d "turns_of" ["house","arrows","room"] 8 3 f_turns_of
abbrev Dd33(z:Cz):=z.d "in_round" ["house","arrows","room"] 8 3 f_in_round
abbrev Dd34(z:Cz):=z.d "why_not" ["house","arrows","room"] 8 3 f_why_not
abbrev Dd36(z:Cz):=z.d "why_not_holds" ["house","arrows","room","thing"] 8 4 f_why_not_holds
abbrev Dx31(z:Cz):=z.x "round_of" ["house","arrows","room"] 9 3 f_round_of
abbrev Dx32(z:Cz):=z.x "turns_of" ["house","arrows","room"] 8 3 f_turns_of
abbrev Dx33(z:Cz):=z.x "in_round" ["house","arrows","room"] 8 3 f_in_round
abbrev Dx34(z:Cz):=z.x "why_not" ["house","arrows","room"] 8 3 f_why_not
abbrev Dx36(z:Cz):=z.x "why_not_holds" ["house","arrows","room","thing"] 8 4 f_why_not_holds
abbrev Du44(z:Cz):Prop:=DfnU z.P z.w z.K z.mg z.base "_law_kind" ["e"] 1 (spOf z.K 1 uf)
abbrev Dd47(z:Cz):=z.d "_law_told" ["way","house","arrows","room"] 10 4 cj
abbrev Dd37(z:Cz):=z.d "_law_cell" ["script","k"] 1 2 f__law_cell
abbrev Dd38(z:Cz):=z.d "_law_pen" ["cell"] 1 1 f__law_pen
abbrev Dd41(z:Cz):=z.d "_law_house" ["pen","most","doors"] 2 3 f__law_house
abbrev Dd42(z:Cz):=z.d "_law_shut" ["pen","most","doors"] 2 3 f__law_shut
abbrev Dd43(z:Cz):=z.d "_law_arrows" ["pen","house"] 2 2 f__law_arrows
abbrev Dd45(z:Cz):=z.d "_law_no_arrows" ["pen","house","arrows"] 2 3 f__law_no_arrows
abbrev Dd46(z:Cz):=z.d "_law_no_room" ["pen","house"] 3 2 f__law_no_room
abbrev Dz0(z:Cz):=DfnM z.P z.w z.K z.mg z.base "Stroll" "go_till_in" ["self","rooms"] 2 (axd z.K 2 3 gq)
abbrev Dz1(z:Cz):=DfnI z.P z.w z.K z.mg z.base "Stroll" ["self","house","arrows","room"] 1 (atg z.K 4 4 ae6)
abbrev Dz2(z:Cz):=Dfn z.P z.w z.K z.mg z.base "to_where_it_stays" ["house","arrows","room"] 7 (aoa z.K 3 "Stroll" ie)
abbrev Dz3(z:Cz):=Dfn z.P z.w z.K z.mg z.base "to_its_round" ["house","arrows","room"] 8 (aoa z.K 3 "Stroll" nq)
section
variable(z:Cz){f:aU}{fd:dR}(T:Txt z.K z.mg)
include T
theorem aox(F:z.F "is_whole" afv f fd):z.o 1 f fd ["thing"] 1 abf :=
 ik F aof rfl rfl λ_ _ _ _ _ _ hr=>
  (az (fj (EV.toR (ank (avz (t:=.int) (axq (by rfl) T.z_int awp) (by rfl) T.z_isinstance gf (du (pv 0))) (ani (a8i (avz (t:=.bool) (axq (by rfl) T.z_bool a4c) (by rfl) T.z_isinstance gf (du (pv 0)))))))))
theorem ae1(F:z.F "is_whole_within" wg f fd)(d0:Dd0 z):z.o 2 f fd ["thing","least","most"] 3 jl :=
 ik F aes rfl rfl λ_ _ _ _ _ _ hr=>
  (az (fj (EV.toR (ank (ER.toD (Za d0 hr (eg_n (pv 0) bf))) (ani (aq2 ax2 ax2 (aa (pv 1)) (aa (pv 0)) (aa (pv 2))))))))
theorem ae2(F:z.F "is_tuple_within" wj f fd):z.o 1 f fd ["thing","least","most"] 3 jm :=
 ik F aet rfl rfl λ_ _ _ _ _ _ hr=>
  (az (fj (EV.toR (ank (avz (t:=.tuple) (axq (by rfl) T.z_tuple yg) (by rfl) T.z_isinstance gf (du (pv 0))) (ani (aq2 ax2 ax2 (aa (pv 1)) (ER.toD (dg j9 (by rfl) T.z_len kh (ea_n (pv 0) fu))) (aa (pv 2))))))))
theorem afz(F:z.F "is_room_number" yu f fd)(d1:Dd1 z):z.o 3 f fd ["house","thing"] 2 j6 :=
 ik F afs rfl rfl λ_ _ _ _ _ _ hr=>
  (az (fj (Za d1 hr (eg_v (aa (pv 1)) (eg_v bc (eg_v (ER.toD (gm ad7 (e2_v (ER.toD (dg j9 (by rfl) T.z_len kh (ea_n (pv 0) fu))) (EV.toB bc)))) bf))))))
theorem afy(F:z.F "refuse_no_room" sr f fd)(d3:Dd3 z):z.o 4 f fd ["house","thing"] 2 gj :=
 ik F aa3 rfl rfl λ_ _ _ _ _ _ hr=>
  (az (vz (ET.s (acs (acr (ER.toD (Za d3 hr (eg_n (pv 0) (eg_v (aa (pv 1)) bf))))))) (az akq) j5))
theorem aey(F:z.F "refuse_no_room" sr f fd)(d3:Dd3 z):z.p 4 f fd ["house","thing"] 2 gj :=
 fn_x F aa3 rfl rfl λ_ _ _ _ _ _ hr=>
  (j4 (akn (ET.s (acs (acr (ER.toD (Za d3 hr (eg_n (pv 0) (eg_v (aa (pv 1)) bf))))))) dq (j4 (aha rfl rfl (by rfl) T.r_NoRoom)) ag9))
theorem ar8(F:z.F "come_to" ahp f fd)(d4:Dd4 z):z.o 5 f fd ["house","room"] 2 rn :=
 ik F zy rfl rfl λ_ _ _ _ _ _ hr=>
  (aq (jd (Za d4 hr (eg_n (pv 0) (eg_v (aa (pv 1)) bf)))) (aq (fc (i:=2) zy.nd rfl (bM rfl) (j7 (ak (aa (pv 1)) bz))) (aq (fc (i:=3) zy.nd rfl (bM rfl) (EV.toR bc)) (aq (agw fuel cB (jg aqc (e2_n (pv 3) (EV.toB (ER.toD (dg j9 (by rfl) T.z_len kh (ea_n (pv 2) fu))))) (jn _)) (aq (fc (i:=4) zy.nd rfl (bM rfl) (jx (e2_n (pv 0) (EV.toB (ER.toD (jx (e2_n (pv 2) (du (pv 3))) (λ_ _=>by rfl))))) (λ_ _=>by rfl))) (aq (zg cB rfl (yo (aa (pv 4))) (dw (i:=5) zy.nd rfl (bM rfl)) (az (vz (EW.pt (a8h (jg auf (e2_n (pv 5) (EV.toB bc)) (jn _)) (a3q (jg (acd hr.units) (e2_n (pv 5) (du (pv 2))) (by with_unfolding_all rfl))))) (az (jd (EV.toR (agp um dX PySem.F.type_list_append u5 (pv 2) (ak (aa (pv 5)) bz))))) j5))) (az (a5e (i:=3) zy.nd rfl (bM rfl) bc a0e))))) (az (fj (jq zx (by rfl) T.z_tuple yg (ea_v (ER.toD (dg akh (by rfl) T.z_sorted anw (ea_n (pv 2) fu))) fu))))))))
theorem ar6(F:z.F "is_shut" ahn f fd):z.o 1 f fd ["house"] 1 acp :=
 ik F aru rfl rfl λ_ _ _ _ _ _ hr=>
  (az (fj (dg (a0q rfl) (by rfl) T.z_all a0r (ea_v (ER.toD (vg [] ["doors"] [ZX] rfl (yo (aa (pv 0))) (λ_ _ _=>(dw (i:=0) (nD ["doors"]) rfl (bM rfl))) (λ_ _ _=>qu) (λ_ _ _=>(ER.toD (anl auf (e2_v (ER.toD (dg (al1 rfl) (by rfl) T.z_min aq8 (ea_n (pv 0) fu))) (EV.toB bc)) (jn _)))))) fu))))
theorem aez(F:z.F "refuse_not_shut" qd f fd)(d6:Dd6 z):z.o 2 f fd ["house"] 1 ir :=
 ik F aak rfl rfl λ_ _ _ _ _ _ hr=>
  (az (vz (ET.s (acs (acr (ER.toD (Za d6 hr (eg_v (aa (pv 0)) bf)))))) (az akq) j5))
theorem ad8(F:z.F "refuse_not_shut" qd f fd)(d6:Dd6 z):z.p 2 f fd ["house"] 1 ir :=
 fn_x F aak rfl rfl λ_ _ _ _ _ _ hr=>
  (j4 (akn (ET.s (acs (acr (ER.toD (Za d6 hr (eg_v (aa (pv 0)) bf)))))) dq (j4 (aha rfl rfl (by rfl) T.r_NotShut)) ag9))
theorem amr(F:z.F "is_arrows" ad0 f fd)(d2:Dd2 z)(d1:Dd1 z):z.o 3 f fd ["house","thing"] 2 ud :=
 ik F amd rfl rfl λ_ _ _ _ _ _ hr=>
  (aq (vz (acs (acr (ER.toD (Za d2 hr (eg_n (pv 1) (eg_v (ER.toD (dg j9 (by rfl) T.z_len kh (ea_n (pv 0) fu))) (eg_v (ER.toD (dg j9 (by rfl) T.z_len kh (ea_n (pv 0) fu))) bf))))))) (az (fj (EV.toR agu))) j5) (az (fj (dg (a0q rfl) (by rfl) T.z_all a0r (ea_v (ER.toD (vg [] ["arrow","doors"] [ZX,ZX] rfl (af4 (by rfl) T.z_zip (ak (aa (pv 1)) (ak (aa (pv 0)) bz))) (λ_ _ _=>(ae7 rfl (jz (dw (i:=0) (nD ["arrow","doors"]) rfl (bM rfl)) (jz (dw (i:=1) (nD ["arrow","doors"]) rfl (bM rfl)) abq)))) (λ_ _ _=>qu) (λ_ _ _=>(ER.toD (Za d1 hr (eg_n (pv 0) (eg_v bc (eg_v (ER.toD (gm ad7 (e2_v (ER.toD (dg j9 (by rfl) T.z_len kh (ea_n (pv 1) fu))) (EV.toB bc)))) bf)))))))) fu)))))
theorem aea(F:z.F "refuse_no_arrows" nu f fd)(d8:Dd8 z):z.o 4 f fd ["house","thing"] 2 gr :=
 ik F aab rfl rfl λ_ _ _ _ _ _ hr=>
  (az (vz (ET.s (acs (acr (ER.toD (Za d8 hr (eg_v (aa (pv 0)) (eg_v (aa (pv 1)) bf))))))) (az akq) j5))
theorem adl(F:z.F "refuse_no_arrows" nu f fd)(d8:Dd8 z):z.p 4 f fd ["house","thing"] 2 gr :=
 fn_x F aab rfl rfl λ_ _ _ _ _ _ hr=>
  (j4 (akn (ET.s (acs (acr (ER.toD (Za d8 hr (eg_v (aa (pv 0)) (eg_v (aa (pv 1)) bf))))))) dq (j4 (aha rfl rfl (by rfl) T.r_NoArrows)) ag9))
theorem amq(F:z.F "last_ways" adz f fd):z.o 1 f fd ["house","arrows"] 2 aaf :=
 ik F amc rfl rfl λ_ _ _ _ _ _ hr=>
  (az (fj (jq zx (by rfl) T.z_tuple yg (ea_v (ER.toD (vg [] ["arrow","doors"] [ZX,ZX] rfl (af4 (by rfl) T.z_zip (ak (aa (pv 1)) (ak (aa (pv 0)) bz))) (λ_ _ _=>(ae7 rfl (jz (dw (i:=0) (nD ["arrow","doors"]) rfl (bM rfl)) (jz (dw (i:=1) (nD ["arrow","doors"]) rfl (bM rfl)) abq)))) (λ_ _ _=>qu) (λ_ _ _=>(ER.toD (jx (e2_n (pv 1) (EV.toB (ER.toD (gm ad7 (e2_n (pv 0) (EV.toB bc)))))) (λ_ _=>by rfl)))))) fu))))
theorem aje(F:z.F "going_round" abj f fd):z.o 1 f fd ["last","rooms"] 2 vd :=
 ik F qx rfl rfl λ_ _ _ _ _ _ hr=>
  (aq (fc (i:=2) qx.nd rfl (nG rfl) (jq age (by rfl) T.z_list agf (ea_n (pv 1) fu))) (aq (fc (i:=3) qx.nd rfl (bM rfl) (gm jt (e2_v (ER.toD (dg j9 (by rfl) T.z_len kh (ea_n (pv 2) fu))) (EV.toB bc)))) (aq (agw fuel cB (jg aqc (e2_v (ER.toD (dg j9 (by rfl) T.z_len kh (ea_n (pv 2) fu))) (du (pv 3))) (jn _)) (aq (fc (i:=3) qx.nd rfl (bM rfl) (dg j9 (by rfl) T.z_len kh (ea_n (pv 2) fu))) (az (fc (i:=2) qx.nd rfl (nG rfl) (vg ["staying","last"] ["room","staying","last"] [ZX,ZY 2,ZY 0] rfl (yo (aa (pv 2))) (λ_ _ _=>(dw (i:=0) (nD ["room","staying","last"]) rfl (bM rfl))) (λ_ _ _=>(alx (jg (az6 hr.units) (e2_v (ER.toD (jx (e2_n (pv 2) (du (pv 0))) (λ_ _=>by rfl))) (du (pv 1))) (by with_unfolding_all rfl)))) (λ_ _ _=>(aa (pv 0)))))))) (az (fj (acu (pv 2)))))))
theorem ax4(F:z.F "minor" aog f fd):z.o 1 f fd ["rows","chosen"] 2 aip :=
 ik F axg rfl rfl λ_ _ _ _ _ _ hr=>
  (az (fj (ay6 "row" ["rows","chosen"] ["row","rows","chosen"] [ZX,ZY 0,ZY 1] rfl (yo (aa (pv 1))) (λ_ _ _=>(dw (i:=0) (nD ["row","rows","chosen"]) rfl (nG rfl))) (λ_ _ _=>qu) (λ_ _ _=>(ER.toD (vg ["rows","row"] ["column","rows","row"] [ZX,ZY 1,ZY 0] rfl (yo (aa (pv 2))) (λ_ _ _=>(dw (i:=0) (nD ["column","rows","row"]) rfl (bM rfl))) (λ_ _ _=>qu) (λ_ _ _=>(ER.toD (jx (e2_v (ER.toD (jx (e2_n (pv 1) (du (pv 2))) (λ_ _=>by rfl))) (du (pv 0))) (λ_ _=>by rfl))))))))))
theorem aou(F:z.F "row_with" aft f fd):z.o 1 f fd ["rows","at"] 2 abd :=
 ik F ahi rfl rfl λ_ _ _ _ _ _ hr=>
  (aq (zg cB rfl (avc (by rfl) T.z_range (ak (aa (pv 1)) (ak (ER.toD (dg j9 (by rfl) T.z_len kh (ea_n (pv 0) fu))) bz))) (dw (i:=2) ahi.nd rfl (bM rfl)) (az (vz (jg (aa6 hr.units) (e2_v (ER.toD (jx (e2_v (ER.toD (jx (e2_n (pv 0) (du (pv 2))) (λ_ _=>by rfl))) (du (pv 1))) (λ_ _=>by rfl))) (EV.toB bc)) (jn _)) (az (fj (acu (pv 2)))) j5))) (az (fj (EV.toR aiq))))
theorem ar5(F:z.F "swapped" ahm f fd):z.o 1 f fd ["rows","one","other"] 3 aco :=
 ik F ajw rfl rfl λ_ _ _ _ _ _ hr=>
  (aq (akp (i:=3) [] ["row"] [ZX] ajw.nd rfl (bM rfl) rfl (yo (aa (pv 0))) (λ_ _ _=>(dw (i:=0) (nD ["row"]) rfl (bM rfl))) (λ_ _ _=>qu) (λ_ _ _=>(ER.toD (jq age (by rfl) T.z_list agf (ea_n (pv 0) fu))))) (aq (vz (jg (aa6 hr.units) (e2_n (pv 1) (du (pv 2))) (jn _)) a5c j5) (az (fj (acu (pv 3))))))
theorem ar9(F:z.F "cleared" ahq f fd):z.o 1 f fd ["rows","at","bottom"] 3 acq :=
 ik F aa4 rfl rfl λ_ _ _ _ _ _ hr=>
  (aq (fc (i:=3) aa4.nd rfl (nG rfl) (jx (e2_n (pv 0) (du (pv 1))) (λ_ _=>by rfl))) (aq (fc (i:=4) aa4.nd rfl (bM rfl) (j7 bz)) (aq (zg cB rfl (avd (by rfl) T.z_enumerate (ak (aa (pv 0)) bz)) (ae7 rfl (jz (dw (i:=5) aa4.nd rfl (bM rfl)) (jz (dw (i:=6) aa4.nd rfl (nG rfl)) abq))) (az (vz (jg (zm hr.units) (e2_n (pv 5) (du (pv 1))) (jn _)) (az (jd (EV.toR (agp um dX PySem.F.type_list_append u5 (pv 4) (ak (ER.toD (jq age (by rfl) T.z_list agf (ea_n (pv 3) fu))) bz))))) (az (jd (EV.toR (agp um dX PySem.F.type_list_append u5 (pv 4) (ak (ER.toD (vg ["row","head","bottom","at"] ["own","over","row","head","bottom","at"] [ZX,ZX,ZY 6,ZY 3,ZY 2,ZY 1] rfl (af4 (by rfl) T.z_zip (ak (aa (pv 6)) (ak (aa (pv 3)) bz))) (λ_ _ _=>(ae7 rfl (jz (dw (i:=0) (nD ["own","over","row","head","bottom","at"]) rfl (bM rfl)) (jz (dw (i:=1) (nD ["own","over","row","head","bottom","at"]) rfl (bM rfl)) abq)))) (λ_ _ _=>qu) (λ_ _ _=>(ER.toD (gm aor (e2_v (ER.toD (gm ad7 (e2_v (ER.toD (gm ace (e2_v (ER.toD (jx (e2_n (pv 3) (du (pv 5))) (λ_ _=>by rfl))) (du (pv 0))))) (EV.toB (ER.toD (gm ace (e2_v (ER.toD (jx (e2_n (pv 2) (du (pv 5))) (λ_ _=>by rfl))) (du (pv 1))))))))) (du (pv 4)))))))) bz)))))))) (az (fj (acu (pv 4)))))))
theorem auj(F:z.F "solved" aky f fd)(d13:Dd13 z)(d14:Dd14 z)(d15:Dd15 z):z.o 2 f fd ["rows","right"] 2 afe :=
 ik F yh rfl rfl λ_ _ _ _ _ _ hr=>
  (aq (akp (i:=2) [] ["row","number"] [ZX,ZX] yh.nd rfl (bM rfl) rfl (af4 (by rfl) T.z_zip (ak (aa (pv 0)) (ak (aa (pv 1)) bz))) (λ_ _ _=>(ae7 rfl (jz (dw (i:=0) (nD ["row","number"]) rfl (bM rfl)) (jz (dw (i:=1) (nD ["row","number"]) rfl (bM rfl)) abq)))) (λ_ _ _=>qu) (λ_ _ _=>(ER.toD (gm jt (e2_v (ER.toD (jq age (by rfl) T.z_list agf (ea_n (pv 0) fu))) (EV.toB (ER.toD (j7 (ak (aa (pv 1)) bz))))))))) (aq (fc (i:=3) yh.nd rfl (bM rfl) (EV.toR bc)) (aq (zg cB rfl (qz (by rfl) T.z_range (ak (ER.toD (dg j9 (by rfl) T.z_len kh (ea_n (pv 0) fu))) bz)) (dw (i:=4) yh.nd rfl (bM rfl)) (aq (fc (i:=5) yh.nd rfl (bM rfl) (Za d13 hr (eg_n (pv 2) (eg_v (aa (pv 4)) bf)))) (aq (vz (air (du (pv 5))) (az (fj (EV.toR aiq))) j5) (aq (fc (i:=2) yh.nd rfl (bM rfl) (Za d14 hr (eg_v (aa (pv 2)) (eg_n (pv 4) (eg_n (pv 5) bf))))) (aq (fc (i:=2) yh.nd rfl (bM rfl) (Za d15 hr (eg_v (aa (pv 2)) (eg_n (pv 4) (eg_n (pv 3) bf))))) (az (fc (i:=3) yh.nd rfl (bM rfl) (jx (e2_v (ER.toD (jx (e2_n (pv 2) (du (pv 4))) (λ_ _=>by rfl))) (du (pv 4))) (λ_ _=>by rfl))))))))) (az (fj (EV.toR (nj (ak (ER.toD (vg ["rows"] ["row","rows"] [ZX,ZY 0] rfl (yo (aa (pv 2))) (λ_ _ _=>(dw (i:=0) (nD ["row","rows"]) rfl (bM rfl))) (λ_ _ _=>qu) (λ_ _ _=>(ER.toD (jx (e2_n (pv 0) (EV.toB (ER.toD (dg j9 (by rfl) T.z_len kh (ea_n (pv 1) fu))))) (λ_ _=>by rfl)))))) (ak (aa (pv 3)) bz)))))))))
theorem ajf(F:z.F "determinant" abk f fd)(d16:Dd16 z):z.o 3 f fd ["rows"] 1 mz :=
 ik F ado rfl rfl λ_ _ _ _ _ _ hr=>
  (aq (fc (i:=1) ado.nd rfl (bM rfl) (Za d16 hr (eg_v (aa (pv 0)) (eg_v (ER.toD (gm ace (e2_v (ER.toD (j7 (ak bc bz))) (EV.toB (ER.toD (dg j9 (by rfl) T.z_len kh (ea_n (pv 0) fu))))))) bf)))) (az (fj (a8k (air (du (pv 1))) (EV.toR bc) (jx (e2_n (pv 1) (EV.toB bc)) (λ_ _=>by rfl))))))
theorem af0(F:z.F "common_divisor" yw f fd):z.o 1 f fd ["numbers"] 1 ni :=
 ik F jj rfl rfl λ_ _ _ _ _ _ hr=>
  (aq (fc (i:=1) jj.nd rfl (bM rfl) (EV.toR bc)) (aq (zg cB rfl (yo (aa (pv 0))) (dw (i:=2) jj.nd rfl (bM rfl)) (aq (fc (i:=3) jj.nd rfl (bM rfl) (dg a80 (by rfl) T.z_abs a84 (ea_n (pv 2) fu))) (az (agw fuel cB (jg (aa6 hr.units) (e2_n (pv 3) (EV.toB bc)) (jn _)) (aq (fc (i:=4) jj.nd rfl (bM rfl) (gm acf (e2_n (pv 1) (du (pv 3))))) (aq (fc (i:=1) jj.nd rfl (bM rfl) (EV.toR (aa (pv 3)))) (az (fc (i:=3) jj.nd rfl (bM rfl) (EV.toR (aa (pv 4))))))))))) (az (fj (acu (pv 1))))))
theorem ahy(F:z.F "doors_square" aas f fd):z.o 1 f fd ["house"] 1 rm :=
 ik F oh rfl rfl λ_ _ _ _ _ _ hr=>
  (aq (fc (i:=1) oh.nd rfl (bM rfl) (j7 bz)) (aq (zg cB rfl (avd (by rfl) T.z_enumerate (ak (aa (pv 0)) bz)) (ae7 rfl (jz (dw (i:=2) oh.nd rfl (bM rfl)) (jz (dw (i:=3) oh.nd rfl (nG rfl)) abq))) (aq (akp (i:=4) ["doors"] ["other","doors"] [ZX,ZY 3] oh.nd rfl (bM rfl) rfl (qz (by rfl) T.z_range (ak (ER.toD (dg j9 (by rfl) T.z_len kh (ea_n (pv 0) fu))) bz)) (λ_ _ _=>(dw (i:=0) (nD ["other","doors"]) rfl (bM rfl))) (λ_ _ _=>qu) (λ_ _ _=>(adv (aq1 hr.units (pv 1) (ak (aa (pv 0)) bz))))) (aq (atd (pv 4) (aa (pv 2)) (ER.toD (dg j9 (by rfl) T.z_len kh (ea_n (pv 3) fu))) a0e) (az (jd (EV.toR (agp um dX PySem.F.type_list_append u5 (pv 1) (ak (aa (pv 4)) bz)))))))) (az (fj (acu (pv 1))))))
theorem amo(F:z.F "ring_from" ady f fd):z.o 1 f fd ["last","room"] 2 xm :=
 ik F ug rfl rfl λ_ _ _ _ _ _ hr=>
  (aq (fc (i:=2) ug.nd rfl (bM rfl) (EV.toR (aa (pv 1)))) (aq (zg cB rfl (qz (by rfl) T.z_range (ak (ER.toD (dg j9 (by rfl) T.z_len kh (ea_n (pv 0) fu))) bz)) (dw (i:=3) ug.nd rfl (bM rfl)) (az (fc (i:=2) ug.nd rfl (bM rfl) (jx (e2_n (pv 0) (du (pv 2))) (λ_ _=>by rfl))))) (aq (fc (i:=4) ug.nd rfl (bM rfl) (j7 (ak (aa (pv 2)) bz))) (aq (agw fuel cB (jg (aa6 hr.units) (e2_v (ER.toD (jx (e2_n (pv 0) (EV.toB (ER.toD (jx (e2_n (pv 4) (EV.toB (adv bc))) (λ_ _=>by rfl))))) (λ_ _=>by rfl))) (du (pv 2))) (jn _)) (az (jd (EV.toR (agp um dX PySem.F.type_list_append u5 (pv 4) (ak (ER.toD (jx (e2_n (pv 0) (EV.toB (ER.toD (jx (e2_n (pv 4) (EV.toB (adv bc))) (λ_ _=>by rfl))))) (λ_ _=>by rfl))) bz)))))) (aq (fc (i:=5) ug.nd rfl (bM rfl) (EV.toR (avx mX sJ (aqf hr.units) (pv 4) (ak (ER.toD (dg (al1 rfl) (by rfl) T.z_min aq8 (ea_n (pv 4) fu))) bz)))) (az (fj (jq zx (by rfl) T.z_tuple yg (ea_v (ER.toD (gm jt (e2_v (ER.toD (agb (pv 4) (aej (aa (pv 5))) ais)) (EV.toB (ER.toD (agb (pv 4) ais (aej (aa (pv 5))))))))) fu)))))))))
theorem aow(F:z.F "rings_of" afu f fd)(d11:Dd11 z)(d20:Dd20 z):z.o 2 f fd ["last","rooms"] 2 abe :=
 ik F abh rfl rfl λ_ _ _ _ _ _ hr=>
  (aq (fc (i:=2) abh.nd rfl (bM rfl) (j7 bz)) (aq (zg cB rfl (yo (ER.toD (Za d11 hr (eg_n (pv 0) (eg_n (pv 1) bf))))) (dw (i:=3) abh.nd rfl (bM rfl)) (aq (fc (i:=4) abh.nd rfl (bM rfl) (Za d20 hr (eg_n (pv 0) (eg_v (aa (pv 3)) bf)))) (az (vz (jg (acd hr.units) (e2_n (pv 4) (du (pv 2))) (by with_unfolding_all rfl)) (az (jd (EV.toR (agp um dX PySem.F.type_list_append u5 (pv 2) (ak (aa (pv 4)) bz))))) j5)))) (az (fj (dg asr (by rfl) T.z_sorted anw (ea_n (pv 2) fu))))))
theorem ae0(F:z.F "refuse_no_state" qe f fd)(d9:Dd9 z)(d4:Dd4 z)(x9:Dx9 z)(x4:Dx4 z):z.o 5 f fd ["house","arrows","room"] 3 gk :=
 ik F aal rfl rfl λ_ _ _ _ _ _ hr=>
  (aq (jd (Za d9 hr (eg_v (EV.s (aa (pv 0))) (eg_v (EV.s (aa (pv 1))) bf)))) (az (jd (Za d4 hr (eg_n (pv 0) (eg_v (EV.s (aa (pv 2))) bf))))))
theorem ad9(F:z.F "refuse_no_state" qe f fd)(d9:Dd9 z)(d4:Dd4 z)(x9:Dx9 z)(x4:Dx4 z):z.p 5 f fd ["house","arrows","room"] 3 gk :=
 fn_x F aal rfl rfl λ_ _ _ _ _ _ hr=>
  (zq (jd (Za d9 hr (eg_v (EV.s (aa (pv 0))) (eg_v (EV.s (aa (pv 1))) bf)))) (uv (aem x9 (hr.mono (by decide)) (by rfl) (eg_v (EV.s (aa (pv 0))) (eg_v (EV.s (aa (pv 1))) bf)) (xa_v (js:=[]) (EV.s (aa (pv 0))) (XE.no dq) (xa_v (js:=[]) (EV.s (aa (pv 1))) (XE.no dq) aai)))) (j4 (uv (aem x4 (hr.mono (by decide)) (by rfl) (eg_n (pv 0) (eg_v (EV.s (aa (pv 2))) bf)) (xa_n (pv 0) (xa_v (js:=[]) (EV.s (aa (pv 2))) (XE.no dq) aai))))))
theorem ax5(F:z.F "leave" aoh f fd):z.o 1 f fd ["house","turning","room"] 3 aei :=
 ik F ap5 rfl rfl λ_ _ _ _ _ _ hr=>
  (aq (fc (i:=3) ap5.nd rfl (bM rfl) (jx (e2_n (pv 1) (du (pv 2))) (λ_ _=>by rfl))) (aq (al8 (ER.toD (gm acf (e2_v (ER.toD (gm jt (e2_n (pv 3) (EV.toB bc)))) (EV.toB (ER.toD (dg j9 (by rfl) T.z_len kh (ea_v (ER.toD (jx (e2_n (pv 0) (du (pv 2))) (λ_ _=>by rfl))) fu))))))) (pv 1) (aa (pv 2))) (az (fj (jx (e2_v (ER.toD (jx (e2_n (pv 0) (du (pv 2))) (λ_ _=>by rfl))) (du (pv 3))) (λ_ _=>by rfl))))))
theorem abm(F:z.F "refuse_no_shut_state" jy f fd)(d22:Dd22 z)(d7:Dd7 z)(x22:Dx22 z)(x7:Dx7 z):z.o 6 f fd ["house","arrows","room"] 3 bj :=
 ik F uz rfl rfl λ_ _ _ _ _ _ hr=>
  (aq (jd (Za d22 hr (eg_v (EV.s (aa (pv 0))) (eg_v (EV.s (aa (pv 1))) (eg_v (EV.s (aa (pv 2))) bf))))) (az (jd (Za d7 hr (eg_v (EV.s (aa (pv 0))) bf)))))
theorem aa7(F:z.F "refuse_no_shut_state" jy f fd)(d22:Dd22 z)(d7:Dd7 z)(x22:Dx22 z)(x7:Dx7 z):z.p 6 f fd ["house","arrows","room"] 3 bj :=
 fn_x F uz rfl rfl λ_ _ _ _ _ _ hr=>
  (zq (jd (Za d22 hr (eg_v (EV.s (aa (pv 0))) (eg_v (EV.s (aa (pv 1))) (eg_v (EV.s (aa (pv 2))) bf))))) (uv (aem x22 (hr.mono (by decide)) (by rfl) (eg_v (EV.s (aa (pv 0))) (eg_v (EV.s (aa (pv 1))) (eg_v (EV.s (aa (pv 2))) bf))) (xa_v (js:=[]) (EV.s (aa (pv 0))) (XE.no dq) (xa_v (js:=[]) (EV.s (aa (pv 1))) (XE.no dq) (xa_v (js:=[]) (EV.s (aa (pv 2))) (XE.no dq) aai))))) (j4 (uv (aem x7 (hr.mono (by decide)) (by rfl) (eg_v (EV.s (aa (pv 0))) bf) (xa_v (js:=[]) (EV.s (aa (pv 0))) (XE.no dq) aai)))))
theorem ams(F:z.F "gone_from" ad1 f fd)(d5:Dd5 z):z.o 6 f fd ["house","room"] 2 ue :=
 ik F ame rfl rfl λ_ _ _ _ _ _ hr=>
  (az (fj (vg ["room","house"] ["there","room","house"] [ZX,ZY 1,ZY 0] rfl (yo (ER.toD (Za d5 hr (eg_n (pv 0) (eg_v (aa (pv 1)) bf))))) (λ_ _ _=>(dw (i:=0) (nD ["there","room","house"]) rfl (bM rfl))) (λ_ _ _=>(alx (jg (acd hr.units) (e2_n (pv 1) (EV.toB (ER.toD (Za d5 hr (eg_n (pv 2) (eg_n (pv 0) bf)))))) (by with_unfolding_all rfl)))) (λ_ _ _=>(aa (pv 0))))))
theorem ahx(F:z.F "ring_without" aar f fd)(d10:Dd10 z)(d5:Dd5 z)(d21:Dd21 z):z.o 6 f fd ["house","arrows","room"] 3 jc :=
 ik F ab5 rfl rfl λ_ _ _ _ _ _ hr=>
  (aq (zg cB rfl (yo (ER.toD (Za d21 hr (eg_v (ER.toD (Za d10 hr (eg_v (aa (pv 0)) (eg_v (aa (pv 1)) bf)))) (eg_v (ER.toD (Za d5 hr (eg_n (pv 0) (eg_v (aa (pv 2)) bf)))) bf))))) (dw (i:=3) ab5.nd rfl (bM rfl)) (az (vz (jg (acd hr.units) (e2_n (pv 2) (du (pv 3))) (by with_unfolding_all rfl)) (az (fj (acu (pv 3)))) j5))) (az (fj (EV.toR aiq))))
theorem aui(F:z.F "why_of" akx f fd)(d25:Dd25 z)(d26:Dd26 z):z.o 7 f fd ["house","arrows","room"] 3 aap :=
 ik F ahh rfl rfl λ_ _ _ _ _ _ hr=>
  (aq (fc (i:=3) ahh.nd rfl (bM rfl) (Za d25 hr (eg_n (pv 0) (eg_v (aa (pv 2)) bf)))) (aq (vz (jg (aa6 hr.units) (e2_n (pv 3) (EV.toB (ER.toD (j7 bz)))) (jn _)) (az (fj (EV.toR (nj (ak jo (ak (ER.toD (jx (e2_n (pv 3) (EV.toB bc)) (λ_ _=>by rfl))) bz)))))) j5) (aq (fc (i:=4) ahh.nd rfl (bM rfl) (Za d26 hr (eg_v (aa (pv 0)) (eg_v (aa (pv 1)) (eg_v (aa (pv 2)) bf))))) (az (fj (a8k (air (du (pv 4))) (EV.toR aiq) (EV.toR (nj (ak jo (ak (aa (pv 4)) bz))))))))))
theorem adn(F:Fun z.K "go_till_in" "Stroll.go_till_in" jk f fd)(d23:Dd23 z):FnOk z.P z.w z.K z.mg z.base CX0 2 f fd ["self","rooms"] (axd z.K 2 3 gq) :=
 a8d F adk rfl rfl (by decide) (by decide) (by decide +kernel) λ_ _ _ _ _ _ hr=>
  (aob (ap1 fuel cB (jg (acd hr.units) (e2_v (anj T.f_Stroll_place (pv 0)) (du (pv 1))) (by with_unfolding_all rfl)) (ap0 (a5j T.f_Stroll_place (ER.toD (Za d23 hr (eg_v (anj T.f_Stroll_house (pv 0)) (eg_f T.f_Stroll_turning (pv 0) (eg_v (anj T.f_Stroll_place (pv 0)) bf))))) (pv 0)) (aob (atj T.f_Stroll_steps bc (pv 0))))))
theorem ajh{C:aU}(F:Fun z.K "__init__" "Stroll.__init__" qg f fd)(hC:nsIn z.K aX "Stroll"=ZY (ZY (.ref C))):FnOk z.P z.w z.K z.mg z.base CX0 1 f fd ["self","house","arrows","room"] (atg z.K 4 4 ae6 C) :=
 a8e F aja rfl rfl (by decide) (by decide) λ_ _ _ _ _ _ hr=>
  (aku (T.f_Stroll_house C hC).1 (T.f_Stroll_house C hC).2 (EV.toR (aa (pv 1))) (pv 0) (aku (T.f_Stroll_turning C hC).1 (T.f_Stroll_turning C hC).2 (jq age (by rfl) T.z_list agf (ea_n (pv 2) fu)) (pv 0) (aku (T.f_Stroll_place C hC).1 (T.f_Stroll_place C hC).2 (EV.toR (aa (pv 3))) (pv 0) (aku (T.f_Stroll_steps C hC).1 (T.f_Stroll_steps C hC).2 (EV.toR bc) (pv 0) a5l))))
theorem adm(F:z.F "to_where_it_stays" uc f fd)(d25:Dd25 z)(m_Stroll_go_till_in:Dz0 z)(n_Stroll:Dz1 z):FnOk z.P z.w z.K z.mg z.base CX0 7 f fd ["house","arrows","room"] (aoa z.K 3 "Stroll" ie) :=
 a0i F zj rfl rfl λ_ _ _ _ _ _ hr=>
  (ap2 (i:=3) (j:=4) zj.nd rfl (bM rfl) (a8j n_Stroll (hr.mono (by decide)) (by rfl) (eg_n (pv 0) (eg_n (pv 1) (eg_n (pv 2) bf)))) (aks (ati (j:=4) m_Stroll_go_till_in (hr.mono (by decide)) (pv 3) (ER.toD (vg ["house"] ["place","house"] [ZX,ZY 0] rfl (qz (by rfl) T.z_range (ak (ER.toD (dg j9 (by rfl) T.z_len kh (ea_n (pv 0) fu))) bz)) (λ_ _ _=>(dw (i:=0) (nD ["place","house"]) rfl (bM rfl))) (λ_ _ _=>(alx (jg (zm hr.units) (e2_v (ER.toD (Za d25 hr (eg_n (pv 1) (eg_n (pv 0) bf)))) (EV.toB (ER.toD (j7 bz)))) (jn _)))) (λ_ _ _=>(aa (pv 0)))))) (atf (pv 3))) (aqu (by rfl)))
theorem ahw(F:z.F "to_its_round" aaq f fd)(d28:Dz2 z)(d26:Dd26 z)(m_Stroll_go_till_in:Dz0 z):FnOk z.P z.w z.K z.mg z.base CX0 8 f fd ["house","arrows","room"] (aoa z.K 3 "Stroll" nq) :=
 a0i F uy rfl rfl λ_ _ _ _ _ _ hr=>
  (ap2 (i:=3) (j:=5) uy.nd rfl (bM rfl) (a3t d28 (hr.mono (by decide)) (by rfl) (eg_n (pv 0) (eg_n (pv 1) (eg_n (pv 2) bf)))) (aks (azs (j:=4) (by decide) uy.nd rfl (bM rfl) (a0k d26 (hr.mono (by decide)) (by rfl) (eg_v (aa (pv 0)) (eg_f T.f_Stroll_turning (pv 3) (eg_v (anj T.f_Stroll_place (pv 3)) bf))))) (aks (ap1 fuel cB (asn (du (pv 4))) (ap0 (ati (j:=5) m_Stroll_go_till_in (hr.mono (by decide)) (pv 3) (aa (pv 4))) (aob (azs (j:=4) (by decide) uy.nd rfl (bM rfl) (a0k d26 (hr.mono (by decide)) (by rfl) (eg_v (aa (pv 0)) (eg_f T.f_Stroll_turning (pv 3) (eg_v (anj T.f_Stroll_place (pv 3)) bf)))))))) (atf (pv 3)))) (aqu (by rfl)))
theorem ajd(F:z.F "turns_among" abi f fd)(d19:Dd19 z)(d12:Dd12 z)(d17:Dd17 z)(d18:Dd18 z):z.o 4 f fd ["house","rooms"] 2 my :=
 ik F j8 rfl rfl λ_ _ _ _ _ _ hr=>
  (aq (fc (i:=2) j8.nd rfl (nG rfl) (Za d19 hr (eg_v (aa (pv 0)) bf))) (aq (axb (i:=3) "room" ["rows","rooms"] ["room","rows","rooms"] [ZX,ZY 2,ZY 1] j8.nd rfl (bM rfl) rfl (yo (aa (pv 1))) (λ_ _ _=>(dw (i:=0) (nD ["room","rows","rooms"]) rfl (nG rfl))) (λ_ _ _=>qu) (λ_ _ _=>(ER.toD (Za d17 hr (eg_v (ER.toD (Za d12 hr (eg_n (pv 1) (eg_v (ER.toD (vg ["room"] ["other","room"] [ZX,ZY 0] rfl (yo (aa (pv 2))) (λ_ _ _=>(dw (i:=0) (nD ["other","room"]) rfl (bM rfl))) (λ_ _ _=>(alx (jg (aa6 hr.units) (e2_n (pv 0) (du (pv 1))) (jn _)))) (λ_ _ _=>(aa (pv 0))))) bf)))) bf))))) (aq (fc (i:=4) j8.nd rfl (bM rfl) (Za d18 hr (eg_v (aa (pv 3)) bf))) (aq (fc (i:=5) j8.nd rfl (bM rfl) (gm ace (e2_v (ER.toD (j7 (ak bc bz))) (EV.toB (ER.toD (dg j9 (by rfl) T.z_len kh (ea_n (pv 0) fu))))))) (aq (zg cB rfl (af4 (by rfl) T.z_zip (ak (aa (pv 1)) (ak (aa (pv 3)) bz))) (ae7 rfl (jz (dw (i:=6) j8.nd rfl (bM rfl)) (jz (dw (i:=7) j8.nd rfl (bM rfl)) abq))) (az (al8 (ER.toD (gm aor (e2_n (pv 7) (du (pv 4))))) (pv 5) (aa (pv 6))))) (az (fj (jq zx (by rfl) T.z_tuple yg (ea_n (pv 5) fu)))))))))
theorem aov(F:z.F "round_of" ac8 f fd)(d24:Dd24 z)(d29:Dz3 z)(d5:Dd5 z)(d30:Dd30 z)(x24:Dx24 z):z.o 9 f fd ["house","arrows","room"] 3 f_round_of :=
 ik F abg rfl rfl λ_ _ _ _ _ _ hr=>
  (aq (jd (Za d24 hr (eg_v (EV.s (aa (pv 0))) (eg_v (EV.s (aa (pv 1))) (eg_v (EV.s (aa (pv 2))) bf))))) (SVs.s (atc (i:=3) (j:=5) abg.nd rfl (bM rfl) (a3t d29 (hr.mono (by decide)) (by rfl) (eg_v (aa (pv 0)) (eg_n (pv 1) (eg_n (pv 2) bf)))) (aq (fc (i:=4) abg.nd rfl (bM rfl) (Za d30 hr (eg_v (aa (pv 0)) (eg_v (ER.toD (Za d5 hr (eg_n (pv 0) (eg_v (anj T.f_Stroll_place (pv 3)) bf)))) bf)))) (az (fj (EV.toR (nj (ak (anj T.f_Stroll_steps (pv 3)) (ak (ER.toD (dg (a8y rfl) (by rfl) T.z_sum a82 (ea_v (ER.toD (vg [] ["many","doors"] [ZX,ZX] rfl (af4 (by rfl) T.z_zip (ak (aa (pv 4)) (ak (aa (pv 0)) bz))) (λ_ _ _=>(ae7 rfl (jz (dw (i:=0) (nD ["many","doors"]) rfl (bM rfl)) (jz (dw (i:=1) (nD ["many","doors"]) rfl (bM rfl)) abq)))) (λ_ _ _=>qu) (λ_ _ _=>(ER.toD (gm ace (e2_n (pv 0) (EV.toB (ER.toD (dg j9 (by rfl) T.z_len kh (ea_n (pv 1) fu)))))))))) fu))) bz))))))) (aqu (by rfl)))))
theorem amm(F:z.F "round_of" ac8 f fd)(d24:Dd24 z)(d29:Dz3 z)(d5:Dd5 z)(d30:Dd30 z)(x24:Dx24 z):z.p 9 f fd ["house","arrows","room"] 3 f_round_of :=
 fn_x F abg rfl rfl λ_ _ _ _ _ _ hr=>
  (zq (jd (Za d24 hr (eg_v (EV.s (aa (pv 0))) (eg_v (EV.s (aa (pv 1))) (eg_v (EV.s (aa (pv 2))) bf))))) (uv (aem x24 (hr.mono (by decide)) (by rfl) (eg_v (EV.s (aa (pv 0))) (eg_v (EV.s (aa (pv 1))) (eg_v (EV.s (aa (pv 2))) bf))) (xa_v (js:=[]) (EV.s (aa (pv 0))) (XE.no dq) (xa_v (js:=[]) (EV.s (aa (pv 1))) (XE.no dq) (xa_v (js:=[]) (EV.s (aa (pv 2))) (XE.no dq) aai))))) asz)
theorem aot(F:z.F "turns_of" ac7 f fd)(d24:Dd24 z)(d28:Dz2 z)(d5:Dd5 z)(d30:Dd30 z)(x24:Dx24 z):z.o 8 f fd ["house","arrows","room"] 3 f_turns_of :=
 ik F adx rfl rfl λ_ _ _ _ _ _ hr=>
  (aq (jd (Za d24 hr (eg_v (EV.s (aa (pv 0))) (eg_v (EV.s (aa (pv 1))) (eg_v (EV.s (aa (pv 2))) bf))))) (SVs.s (atc (i:=3) (j:=4) adx.nd rfl (bM rfl) (a3t d28 (hr.mono (by decide)) (by rfl) (eg_n (pv 0) (eg_n (pv 1) (eg_n (pv 2) bf)))) (az (fj (Za d30 hr (eg_v (aa (pv 0)) (eg_v (ER.toD (Za d5 hr (eg_n (pv 0) (eg_v (anj T.f_Stroll_place (pv 3)) bf)))) bf))))) (aqu (by rfl)))))
theorem aml(F:z.F "turns_of" ac7 f fd)(d24:Dd24 z)(d28:Dz2 z)(d5:Dd5 z)(d30:Dd30 z)(x24:Dx24 z):z.p 8 f fd ["house","arrows","room"] 3 f_turns_of :=
 fn_x F adx rfl rfl λ_ _ _ _ _ _ hr=>
  (zq (jd (Za d24 hr (eg_v (EV.s (aa (pv 0))) (eg_v (EV.s (aa (pv 1))) (eg_v (EV.s (aa (pv 2))) bf))))) (uv (aem x24 (hr.mono (by decide)) (by rfl) (eg_v (EV.s (aa (pv 0))) (eg_v (EV.s (aa (pv 1))) (eg_v (EV.s (aa (pv 2))) bf))) (xa_v (js:=[]) (EV.s (aa (pv 0))) (XE.no dq) (xa_v (js:=[]) (EV.s (aa (pv 1))) (XE.no dq) (xa_v (js:=[]) (EV.s (aa (pv 2))) (XE.no dq) aai))))) asz)
theorem aoy(F:z.F "in_round" ac9 f fd)(d24:Dd24 z)(d27:Dd27 z)(x24:Dx24 z):z.o 8 f fd ["house","arrows","room"] 3 f_in_round :=
 ik F ahj rfl rfl λ_ _ _ _ _ _ hr=>
  (aq (jd (Za d24 hr (eg_v (EV.s (aa (pv 0))) (eg_v (EV.s (aa (pv 1))) (eg_v (EV.s (aa (pv 2))) bf))))) (az (SV.s (fj (EV.toR (avy (EV.toB (ER.toD (Za d27 hr (eg_v (aa (pv 0)) (eg_v (aa (pv 1)) (eg_v (aa (pv 2)) bf))))))))))))
theorem amn(F:z.F "in_round" ac9 f fd)(d24:Dd24 z)(d27:Dd27 z)(x24:Dx24 z):z.p 8 f fd ["house","arrows","room"] 3 f_in_round :=
 fn_x F ahj rfl rfl λ_ _ _ _ _ _ hr=>
  (zq (jd (Za d24 hr (eg_v (EV.s (aa (pv 0))) (eg_v (EV.s (aa (pv 1))) (eg_v (EV.s (aa (pv 2))) bf))))) (uv (aem x24 (hr.mono (by decide)) (by rfl) (eg_v (EV.s (aa (pv 0))) (eg_v (EV.s (aa (pv 1))) (eg_v (EV.s (aa (pv 2))) bf))) (xa_v (js:=[]) (EV.s (aa (pv 0))) (XE.no dq) (xa_v (js:=[]) (EV.s (aa (pv 1))) (XE.no dq) (xa_v (js:=[]) (EV.s (aa (pv 2))) (XE.no dq) aai))))) (j4 al5))
theorem ar4(F:z.F "why_not" aeu f fd)(d24:Dd24 z)(d27:Dd27 z)(x24:Dx24 z):z.o 8 f fd ["house","arrows","room"] 3 f_why_not :=
 ik F ajv rfl rfl λ_ _ _ _ _ _ hr=>
  (aq (jd (Za d24 hr (eg_v (EV.s (aa (pv 0))) (eg_v (EV.s (aa (pv 1))) (eg_v (EV.s (aa (pv 2))) bf))))) (az (SV.s (fj (Za d27 hr (eg_v (aa (pv 0)) (eg_v (aa (pv 1)) (eg_v (aa (pv 2)) bf))))))))
theorem aos(F:z.F "why_not" aeu f fd)(d24:Dd24 z)(d27:Dd27 z)(x24:Dx24 z):z.p 8 f fd ["house","arrows","room"] 3 f_why_not :=
 fn_x F ajv rfl rfl λ_ _ _ _ _ _ hr=>
  (zq (jd (Za d24 hr (eg_v (EV.s (aa (pv 0))) (eg_v (EV.s (aa (pv 1))) (eg_v (EV.s (aa (pv 2))) bf))))) (uv (aem x24 (hr.mono (by decide)) (by rfl) (eg_v (EV.s (aa (pv 0))) (eg_v (EV.s (aa (pv 1))) (eg_v (EV.s (aa (pv 2))) bf))) (xa_v (js:=[]) (EV.s (aa (pv 0))) (XE.no dq) (xa_v (js:=[]) (EV.s (aa (pv 1))) (XE.no dq) (xa_v (js:=[]) (EV.s (aa (pv 2))) (XE.no dq) aai))))) (j4 al5))
theorem ar7(F:z.F "is_gone" aho f fd)(d3:Dd3 z)(d25:Dd25 z):z.o 7 f fd ["house","room","thing"] 3 f_is_gone :=
 ik F arv rfl rfl λ_ _ _ _ _ _ hr=>
  (az (fj (EV.toR (ank (ER.toD (Za d3 hr (eg_n (pv 0) (eg_v (aa (pv 2)) bf)))) (ani (ER.toD (anl (az6 hr.units) (e2_n (pv 2) (EV.toB (ER.toD (Za d25 hr (eg_n (pv 0) (eg_v (aa (pv 1)) bf)))))) (by with_unfolding_all rfl))))))))
theorem ok_why_not_holds(F:z.F "why_not_holds" s_why_not_holds f fd)(d24:Dd24 z)(d2:Dd2 z)(d35:Dd35 z)(x24:Dx24 z):z.o 8 f fd ["house","arrows","room","thing"] 4 f_why_not_holds :=
 ik F sc_why_not_holds rfl rfl λ_ _ _ _ _ _ hr=>
  (aq (jd (Za d24 hr (eg_v (EV.s (aa (pv 0))) (eg_v (EV.s (aa (pv 1))) (eg_v (EV.s (aa (pv 2))) bf))))) (aq (vz (ET.s (acs (acr (ER.toD (Za d2 hr (eg_n (pv 3) (eg_v bc (eg_v bc bf)))))))) (az (SV.s (fj (EV.toR agu)))) j5) (aq (vz (ET.s (jg (zm hr.units) (e2_v (ER.toD (jx (e2_n (pv 3) (EV.toB bc)) (λ_ _=>by rfl))) (EV.toB jo)) (jn _))) (az (SV.s (fj (Za d35 hr (eg_n (pv 0) (eg_v (aa (pv 2)) (eg_v (ER.toD (jx (e2_n (pv 3) (EV.toB bc)) (λ_ _=>by rfl))) bf))))))) j5) (az (SV.s (fj (EV.toR (ank (ER.toD (anl (zm hr.units) (e2_v (ER.toD (jx (e2_n (pv 3) (EV.toB bc)) (λ_ _=>by rfl))) (EV.toB jo)) (jn _))) (ani (ER.toD bcc))))))))))
theorem okx_why_not_holds(F:z.F "why_not_holds" s_why_not_holds f fd)(d24:Dd24 z)(d2:Dd2 z)(d35:Dd35 z)(x24:Dx24 z):z.p 8 f fd ["house","arrows","room","thing"] 4 f_why_not_holds :=
 fn_x F sc_why_not_holds rfl rfl λ_ _ _ _ _ _ hr=>
  (zq (jd (Za d24 hr (eg_v (EV.s (aa (pv 0))) (eg_v (EV.s (aa (pv 1))) (eg_v (EV.s (aa (pv 2))) bf))))) (uv (aem x24 (hr.mono (by decide)) (by rfl) (eg_v (EV.s (aa (pv 0))) (eg_v (EV.s (aa (pv 1))) (eg_v (EV.s (aa (pv 2))) bf))) (xa_v (js:=[]) (EV.s (aa (pv 0))) (XE.no dq) (xa_v (js:=[]) (EV.s (aa (pv 1))) (XE.no dq) (xa_v (js:=[]) (EV.s (aa (pv 2))) (XE.no dq) aai))))) (zq (vz (ET.s (acs (acr (ER.toD (Za d2 hr (eg_n (pv 3) (eg_v bc (eg_v bc bf)))))))) (az (SV.s (fj (EV.toR agu)))) j5) (akn (ET.s (acs (acr (ER.toD (Za d2 hr (eg_n (pv 3) (eg_v bc (eg_v bc bf)))))))) dq (j4 al5) ag9) (zq (vz (ET.s (jg (zm hr.units) (e2_v (ER.toD (jx (e2_n (pv 3) (EV.toB bc)) (λ_ _=>by rfl))) (EV.toB jo)) (jn _))) (az (SV.s (fj (Za d35 hr (eg_n (pv 0) (eg_v (aa (pv 2)) (eg_v (ER.toD (jx (e2_n (pv 3) (EV.toB bc)) (λ_ _=>by rfl))) bf))))))) j5) (akn (ET.s (jg (zm hr.units) (e2_v (ER.toD (jx (e2_n (pv 3) (EV.toB bc)) (λ_ _=>by rfl))) (EV.toB jo)) (jn _))) dq (j4 al5) ag9) (j4 al5))))
theorem amw(F:z.F "_law_cell" ad6 f fd):z.o 1 f fd ["script","k"] 2 f__law_cell :=
 ik F amf rfl rfl λ_ _ _ _ _ _ hr=>
  (aq (vz (jg aqc (e2_n (pv 1) (EV.toB (ER.toD (dg j9 (by rfl) T.z_len kh (ea_n (pv 0) fu))))) (jn _)) (az (fj (jx (e2_n (pv 0) (du (pv 1))) (λ_ _=>by rfl)))) j5) (az (fj (EV.toR bc))))
theorem aoz(F:z.F "_law_pen" afw f fd):z.o 1 f fd ["cell"] 1 f__law_pen :=
 ik F ahk rfl rfl λ_ _ _ _ _ _ hr=>
  (aq (fc (i:=1) ahk.nd rfl (bM rfl) (dg (a8z rfl) (by rfl) T.z_max a83 (ea_n (pv 0) (ea_v (ER.toD (gm ad7 (e2_v bc (du (pv 0))))) fu)))) (az (fj (j7 (ak (aa (pv 1)) (ak (ER.toD (jq a0p (by rfl) T.z_int awp (ea_v (ER.toD (anl auf (e2_n (pv 1) (EV.toB (ER.toD (gm ak8 (e2_v bc (EV.toB bc)))))) (jn _))) fu))) bz))))))
theorem amv(F:z.F "_law_draw" ad5 f fd):z.o 1 f fd ["pen","many"] 2 f__law_draw :=
 ik F yl rfl rfl λ_ _ _ _ _ _ hr=>
  (aq (vz (jg (zm hr.units) (e2_v (ER.toD (jx (e2_n (pv 0) (EV.toB bc)) (λ_ _=>by rfl))) (EV.toB bc)) (jn _)) (aq (a5f (ER.toD (dg awj (by rfl) T.z_divmod awq (ea_v (ER.toD (jx (e2_n (pv 0) (EV.toB bc)) (λ_ _=>by rfl))) (ea_n (pv 1) fu)))) (ae7 rfl (jz (dw (i:=2) yl.nd rfl (bM rfl)) (jz (dw (i:=3) yl.nd rfl (bM rfl)) abq)))) (aq (al8 (aa (pv 2)) (pv 0) bc) (az (fj (acu (pv 3)))))) j5) (aq (fc (i:=4) yl.nd rfl (bM rfl) (gm acf (e2_v (ER.toD (gm ace (e2_v (ER.toD (gm jt (e2_v (ER.toD (gm acf (e2_v (ER.toD (jx (e2_n (pv 0) (EV.toB bc)) (λ_ _=>by rfl))) (EV.toB bc)))) (EV.toB bc)))) (EV.toB bc)))) (EV.toB bc)))) (aq (fc (i:=4) yl.nd rfl (bM rfl) (gm acf (e2_v (ER.toD (gm jt (e2_v (ER.toD (gm ace (e2_n (pv 4) (du (pv 4))))) (EV.toB bc)))) (EV.toB bc)))) (aq (al8 (ER.toD (gm acf (e2_v (ER.toD (gm jt (e2_v (ER.toD (gm ace (e2_n (pv 4) (EV.toB bc)))) (EV.toB bc)))) (EV.toB bc)))) (pv 0) bc) (az (fj (gm acf (e2_v (ER.toD (gm aor (e2_v (ER.toD (jx (e2_n (pv 0) (EV.toB bc)) (λ_ _=>by rfl))) (EV.toB bc)))) (du (pv 1))))))))))
theorem ao0(F:z.F "_law_odd" afx f fd)(d39:Dd39 z):z.o 2 f fd ["pen"] 1 f__law_odd :=
 ik F ahl rfl rfl λ_ _ _ _ _ _ hr=>
  (aq (fc (i:=1) ahl.nd rfl (bM rfl) (j7 (ak aiq (ak agu (ak agu (ak (adv bc) (ak jo (ak jo (ak (nj bz) (ak (ER.toD (j7 bz)) (ak (nj (ak bc bz)) (ak (ER.toD (j7 (ak bc bz))) (ak ay4 (ak (nj (ak bc (ak bc bz))) (ak (ER.toD (gm ak8 (e2_v bc (EV.toB bc)))) (ak (nj (ak (nj (ak bc bz)) bz)) (ak jo bz))))))))))))))))) (az (fj (jx (e2_v (ER.toD (gm jt (e2_n (pv 1) (EV.toB (ER.toD (j7 (ak (nj (ak (nj (ak (adv bc) bz)) (ak (nj (ak bc (ak bc bz))) bz))) bz))))))) (EV.toB (ER.toD (Za d39 hr (eg_n (pv 0) (eg_v bc bf)))))) (λ_ _=>by rfl)))))
theorem ala(F:z.F "_law_house" ab8 f fd)(d39:Dd39 z):z.o 2 f fd ["pen","most","doors"] 3 f__law_house :=
 ik F qb rfl rfl λ_ _ _ _ _ _ hr=>
  (aq (fc (i:=3) qb.nd rfl (nG rfl) (gm jt (e2_v bc (EV.toB (ER.toD (Za d39 hr (eg_n (pv 0) (eg_n (pv 1) bf)))))))) (aq (fc (i:=4) qb.nd rfl (nG rfl) (jx (e2_v (ER.toD (j7 (ak bc (ak bc (ak bc (ak bc bz)))))) (EV.toB (ER.toD (Za d39 hr (eg_n (pv 0) (eg_v bc bf)))))) (λ_ _=>by rfl))) (aq (fc (i:=5) qb.nd rfl (bM rfl) (j7 bz)) (aq (zg cB rfl (qz (by rfl) T.z_range (ak (aa (pv 3)) bz)) (dw (i:=6) qb.nd rfl (bM rfl)) (aq (fc (i:=7) qb.nd rfl (bM rfl) (gm jt (e2_v bc (EV.toB (ER.toD (Za d39 hr (eg_n (pv 0) (eg_n (pv 2) bf)))))))) (az (jd (EV.toR (agp um dX PySem.F.type_list_append u5 (pv 5) (ak (ER.toD (jq zx (by rfl) T.z_tuple yg (ea_v (ER.toD (vg ["pen","many","gates"] ["door","pen","many","gates"] [ZX,ZY 0,ZY 3,ZY 4] rfl (qz (by rfl) T.z_range (ak (aa (pv 7)) bz)) (λ_ _ _=>(dw (i:=0) (nD ["door","pen","many","gates"]) rfl (bM rfl))) (λ_ _ _=>qu) (λ_ _ _=>(ER.toD (gm ad7 (e2_v (ER.toD (Za d39 hr (eg_n (pv 1) (eg_v (ER.toD (gm jt (e2_n (pv 2) (du (pv 3))))) bf)))) (du (pv 3)))))))) fu))) bz))))))) (az (fj (jq zx (by rfl) T.z_tuple yg (ea_n (pv 5) fu))))))))
theorem amu(F:z.F "_law_shut" ad3 f fd)(d39:Dd39 z):z.o 2 f fd ["pen","most","doors"] 3 f__law_shut :=
 ik F uh rfl rfl λ_ _ _ _ _ _ hr=>
  (aq (fc (i:=3) uh.nd rfl (nG rfl) (gm jt (e2_v bc (EV.toB (ER.toD (Za d39 hr (eg_n (pv 0) (eg_n (pv 1) bf)))))))) (aq (fc (i:=4) uh.nd rfl (bM rfl) (j7 bz)) (aq (zg cB rfl (qz (by rfl) T.z_range (ak (aa (pv 3)) bz)) (dw (i:=5) uh.nd rfl (bM rfl)) (aq (fc (i:=6) uh.nd rfl (bM rfl) (gm jt (e2_v bc (EV.toB (ER.toD (Za d39 hr (eg_n (pv 0) (eg_n (pv 2) bf)))))))) (aq (akp (i:=7) ["pen","many"] ["door","pen","many"] [ZX,ZY 0,ZY 3] uh.nd rfl (bM rfl) rfl (qz (by rfl) T.z_range (ak (aa (pv 6)) bz)) (λ_ _ _=>(dw (i:=0) (nD ["door","pen","many"]) rfl (bM rfl))) (λ_ _ _=>qu) (λ_ _ _=>(ER.toD (Za d39 hr (eg_n (pv 1) (eg_n (pv 2) bf)))))) (aq (vz (jg (zm hr.units) (e2_v (ER.toD (Za d39 hr (eg_n (pv 0) (eg_v bc bf)))) (EV.toB bc)) (jn _)) (az (al8 (ER.toD (gm acf (e2_v (ER.toD (gm jt (e2_n (pv 5) (EV.toB bc)))) (du (pv 3))))) (pv 7) bc)) j5) (az (jd (EV.toR (agp um dX PySem.F.type_list_append u5 (pv 4) (ak (ER.toD (jq zx (by rfl) T.z_tuple yg (ea_n (pv 7) fu))) bz))))))))) (az (fj (jq zx (by rfl) T.z_tuple yg (ea_n (pv 4) fu)))))))
theorem ajg(F:z.F "_law_arrows" abl f fd)(d39:Dd39 z):z.o 2 f fd ["pen","house"] 2 f__law_arrows :=
 ik F ai9 rfl rfl λ_ _ _ _ _ _ hr=>
  (az (fj (jq zx (by rfl) T.z_tuple yg (ea_v (ER.toD (vg ["pen"] ["doors","pen"] [ZX,ZY 0] rfl (yo (aa (pv 1))) (λ_ _ _=>(dw (i:=0) (nD ["doors","pen"]) rfl (bM rfl))) (λ_ _ _=>qu) (λ_ _ _=>(ER.toD (Za d39 hr (eg_n (pv 1) (eg_v (ER.toD (dg j9 (by rfl) T.z_len kh (ea_n (pv 0) fu))) bf))))))) fu))))
theorem ak9(F:z.F "_law_kind" ad4 f fd):FnOkU z.P z.w z.K z.mg z.base 1 f fd ["e"] (spOf z.K 1 uf) :=
 a3n F yj rfl rfl λ_ _ _ _ _ hr=>
  (aq (fc (i:=1) yj.nd rfl (bM rfl) (j7 (ak (zc T.sub (by decide +kernel) (by rfl) T.k_NoArrows (by rfl) T.z_isinstance gf (du (pv 0))) (ak (zc T.sub (by decide +kernel) (by rfl) T.k_NoRoom (by rfl) T.z_isinstance gf (du (pv 0))) (ak (zc T.sub (by decide +kernel) (by rfl) T.k_NoWalkers (by rfl) T.z_isinstance gf (du (pv 0))) (ak (zc T.sub (by decide +kernel) (by rfl) T.k_NotShut (by rfl) T.z_isinstance gf (du (pv 0))) bz)))))) (aq (fc (i:=1) yj.nd rfl (bM rfl) (gm jt (e2_n (pv 1) (EV.toB (ER.toD (j7 (ak (zc T.sub (by decide +kernel) (by rfl) T.k_NeverBack (by rfl) T.z_isinstance gf (du (pv 0))) (ak (zc T.sub (by decide +kernel) (by rfl) T.k_NoTour (by rfl) T.z_isinstance gf (du (pv 0))) (ak (zc T.sub (by decide +kernel) (by rfl) T.k_NoRow (by rfl) T.z_isinstance gf (du (pv 0))) (ak (zc T.sub (by decide +kernel) (by rfl) T.k_NoHouse (by rfl) T.z_isinstance gf (du (pv 0))) bz)))))))))) (aq (fc (i:=1) yj.nd rfl (bM rfl) (gm jt (e2_n (pv 1) (EV.toB (ER.toD (j7 (ak (zc T.sub (by decide +kernel) (by rfl) T.k_NotOpen (by rfl) T.z_isinstance gf (du (pv 0))) (ak (zc T.sub (by decide +kernel) (by rfl) T.k_Nobody (by rfl) T.z_isinstance gf (du (pv 0))) (ak (zc T.sub (by decide +kernel) (by rfl) T.k_NoText (by rfl) T.z_isinstance gf (du (pv 0))) (ak (zc T.sub (by decide +kernel) (by rfl) T.k_TooGreat (by rfl) T.z_isinstance gf (du (pv 0))) bz)))))))))) (aq (vz (EW.pt (ay3 (acs (acr (a3r T.sub (by rfl) T.z_ValueError al2 (by rfl) T.z_isinstance gf (du (pv 0))))) (aq0 (jg (aa6 hr.units) (e2_v (aq1 hr.units (pv 1) (ak agu bz)) (EV.toB bc)) (jn _))))) (az (fj (EV.toR jo))) j5) (aq (fc (i:=2) yj.nd rfl (bM rfl) (j7 (ak jo (ak jo (ak jo (ak jo (ak jo (ak jo (ak jo (ak jo (ak jo (ak jo (ak jo (ak jo bz)))))))))))))) (az (fj (jx (e2_n (pv 2) (EV.toB (avx mX sJ (aqf hr.units) (pv 1) (ak agu bz)))) (λ_ _=>by rfl)))))))))
theorem af1(F:z.F "_law_no_arrows" yx f fd)(d39:Dd39 z):z.o 2 f fd ["pen","house","arrows"] 3 f__law_no_arrows :=
 ik F pq rfl rfl λ_ _ _ _ _ _ hr=>
  (aq (fc (i:=3) pq.nd rfl (bM rfl) (Za d39 hr (eg_n (pv 0) (eg_v (ER.toD (dg j9 (by rfl) T.z_len kh (ea_n (pv 1) fu))) bf)))) (aq (fc (i:=4) pq.nd rfl (bM rfl) (jx (e2_v (ER.toD (j7 (ak (ER.toD (dg j9 (by rfl) T.z_len kh (ea_v (ER.toD (jx (e2_n (pv 1) (du (pv 3))) (λ_ _=>by rfl))) fu))) (ak (adv bc) (ak agu (ak aiq (ak jo (ak (nj (ak (ER.toD (jx (e2_n (pv 2) (du (pv 3))) (λ_ _=>by rfl))) bz)) (ak (ER.toD (gm jt (e2_v (ER.toD (dg j9 (by rfl) T.z_len kh (ea_v (ER.toD (jx (e2_n (pv 1) (du (pv 3))) (λ_ _=>by rfl))) fu))) (EV.toB bc)))) bz))))))))) (EV.toB (ER.toD (Za d39 hr (eg_n (pv 0) (eg_v bc bf)))))) (λ_ _=>by rfl))) (aq (fc (i:=5) pq.nd rfl (bM rfl) (j7 (ak (ER.toD (gm jt (e2_n (pv 2) (EV.toB (nj (ak bc bz)))))) (ak (ER.toD (agb (pv 2) (aej bc) ais)) (ak (ER.toD (jq age (by rfl) T.z_list agf (ea_n (pv 2) fu))) (ak (nj (ak (aa (pv 2)) bz)) (ak aiq (ak (ER.toD (gm jt (e2_v (ER.toD (gm jt (e2_v (ER.toD (agb (pv 2) ais (aej (aa (pv 3))))) (EV.toB (nj (ak (aa (pv 4)) bz)))))) (EV.toB (ER.toD (agb (pv 2) (aej (ER.toD (gm jt (e2_n (pv 3) (EV.toB bc))))) ais)))))) (ak jo (ak ay5 bz)))))))))) (az (fj (jx (e2_n (pv 5) (EV.toB (ER.toD (Za d39 hr (eg_n (pv 0) (eg_v bc bf)))))) (λ_ _=>by rfl)))))))
theorem ahz(F:z.F "_law_no_room" aat f fd)(d39:Dd39 z)(d40:Dd40 z):z.o 3 f fd ["pen","house"] 2 f__law_no_room :=
 ik F ab7 rfl rfl λ_ _ _ _ _ _ hr=>
  (aq (fc (i:=2) ab7.nd rfl (bM rfl) (j7 (ak (ER.toD (dg j9 (by rfl) T.z_len kh (ea_n (pv 1) fu))) (ak (ER.toD (gm jt (e2_v (ER.toD (gm jt (e2_v (ER.toD (dg j9 (by rfl) T.z_len kh (ea_n (pv 1) fu))) (EV.toB bc)))) (EV.toB (ER.toD (Za d39 hr (eg_n (pv 0) (eg_v (ER.toD (gm ak8 (e2_v bc (EV.toB bc)))) bf)))))))) (ak (adv bc) (ak (adv bc) (ak (ER.toD (gm ak8 (e2_v bc (EV.toB bc)))) (ak (ER.toD (gm ad7 (e2_v (adv bc) (EV.toB (ER.toD (Za d39 hr (eg_n (pv 0) (eg_v bc bf)))))))) bz)))))))) (az (fj (jx (e2_v (ER.toD (j7 (ak (ER.toD (Za d40 hr (eg_n (pv 0) bf))) (ak (ER.toD (jx (e2_n (pv 2) (EV.toB (ER.toD (Za d39 hr (eg_n (pv 0) (eg_v bc bf)))))) (λ_ _=>by rfl))) bz)))) (EV.toB (ER.toD (Za d39 hr (eg_n (pv 0) (eg_v bc bf)))))) (λ_ _=>by rfl)))))
theorem amt(F:z.F "_law_told" ad2 f fd)(d31:Dd31 z)(d32:Dd32 z)(d33:Dd33 z)(d34:Dd34 z)(d36:Dd36 z)(x31:Dx31 z)(x32:Dx32 z)(x33:Dx33 z)(x34:Dx34 z)(x36:Dx36 z)(u44:Du44 z):z.o 10 f fd ["way","house","arrows","room"] 4 cj :=
 ik F agj rfl rfl λ_ _ _ _ _ _ hr=>
  (aq (a06 rfl rfl rfl rfl agj.nd rfl rfl (by rfl) T.cat T.sub (by decide +kernel) (az (vz (ET.s (jg (zm hr.units) (e2_n (pv 0) (EV.toB bc)) (jn _))) (az (jd (Za d31 hr (eg_v (EV.s (aa (pv 1))) (eg_v (EV.s (aa (pv 2))) (eg_v (EV.s (aa (pv 3))) bf)))))) (az (vz (ET.s (jg (zm hr.units) (e2_n (pv 0) (EV.toB bc)) (jn _))) (az (jd (Za d32 hr (eg_v (EV.s (aa (pv 1))) (eg_v (EV.s (aa (pv 2))) (eg_v (EV.s (aa (pv 3))) bf)))))) (az (vz (ET.s (jg (zm hr.units) (e2_n (pv 0) (EV.toB bc)) (jn _))) (az (jd (Za d33 hr (eg_v (EV.s (aa (pv 1))) (eg_v (EV.s (aa (pv 2))) (eg_v (EV.s (aa (pv 3))) bf)))))) (az (vz (ET.s (jg (zm hr.units) (e2_n (pv 0) (EV.toB bc)) (jn _))) (az (jd (Za d34 hr (eg_v (EV.s (aa (pv 1))) (eg_v (EV.s (aa (pv 2))) (eg_v (EV.s (aa (pv 3))) bf)))))) (az (jd (Za d36 hr (eg_v (EV.s (aa (pv 1))) (eg_v (EV.s (aa (pv 2))) (eg_v (EV.s (aa (pv 3))) (eg_v (EV.s (nj (ak jo (ak bc bz)))) bf))))))))))))))) (j4 (akn (ET.s (jg (zm hr.units) (e2_n (pv 0) (EV.toB bc)) (jn _))) dq (j4 (uv (aem x31 (hr.mono (by decide)) (by rfl) (eg_v (EV.s (aa (pv 1))) (eg_v (EV.s (aa (pv 2))) (eg_v (EV.s (aa (pv 3))) bf))) (xa_v (js:=[]) (EV.s (aa (pv 1))) (XE.no dq) (xa_v (js:=[]) (EV.s (aa (pv 2))) (XE.no dq) (xa_v (js:=[]) (EV.s (aa (pv 3))) (XE.no dq) aai)))))) (j4 (akn (ET.s (jg (zm hr.units) (e2_n (pv 0) (EV.toB bc)) (jn _))) dq (j4 (uv (aem x32 (hr.mono (by decide)) (by rfl) (eg_v (EV.s (aa (pv 1))) (eg_v (EV.s (aa (pv 2))) (eg_v (EV.s (aa (pv 3))) bf))) (xa_v (js:=[]) (EV.s (aa (pv 1))) (XE.no dq) (xa_v (js:=[]) (EV.s (aa (pv 2))) (XE.no dq) (xa_v (js:=[]) (EV.s (aa (pv 3))) (XE.no dq) aai)))))) (j4 (akn (ET.s (jg (zm hr.units) (e2_n (pv 0) (EV.toB bc)) (jn _))) dq (j4 (uv (aem x33 (hr.mono (by decide)) (by rfl) (eg_v (EV.s (aa (pv 1))) (eg_v (EV.s (aa (pv 2))) (eg_v (EV.s (aa (pv 3))) bf))) (xa_v (js:=[]) (EV.s (aa (pv 1))) (XE.no dq) (xa_v (js:=[]) (EV.s (aa (pv 2))) (XE.no dq) (xa_v (js:=[]) (EV.s (aa (pv 3))) (XE.no dq) aai)))))) (j4 (akn (ET.s (jg (zm hr.units) (e2_n (pv 0) (EV.toB bc)) (jn _))) dq (j4 (uv (aem x34 (hr.mono (by decide)) (by rfl) (eg_v (EV.s (aa (pv 1))) (eg_v (EV.s (aa (pv 2))) (eg_v (EV.s (aa (pv 3))) bf))) (xa_v (js:=[]) (EV.s (aa (pv 1))) (XE.no dq) (xa_v (js:=[]) (EV.s (aa (pv 2))) (XE.no dq) (xa_v (js:=[]) (EV.s (aa (pv 3))) (XE.no dq) aai)))))) (j4 (uv (aem x36 (hr.mono (by decide)) (by rfl) (eg_v (EV.s (aa (pv 1))) (eg_v (EV.s (aa (pv 2))) (eg_v (EV.s (aa (pv 3))) (eg_v (EV.s (nj (ak jo (ak bc bz)))) bf)))) (xa_v (js:=[]) (EV.s (aa (pv 1))) (XE.no dq) (xa_v (js:=[]) (EV.s (aa (pv 2))) (XE.no dq) (xa_v (js:=[]) (EV.s (aa (pv 3))) (XE.no dq) (xa_v (js:=[]) (EV.s (nj (ak jo (ak bc bz)))) (XE.no dq) aai))))))))))))))) (λev=>(az (fj (a8l u44 ((hr.mark ev).mono (by decide)) (by rfl) (eg_n (pv 4) bf)))))) (az (fj (EV.toR jo))))
theorem a6x(F:z.F "law" akz f fd)(d47:Dd47 z)(d37:Dd37 z)(d38:Dd38 z)(d41:Dd41 z)(d42:Dd42 z)(d43:Dd43 z)(d39:Dd39 z)(d45:Dd45 z)(d46:Dd46 z):z.o 11 f fd ["script"] 1 avv :=
 ik F ab6 rfl rfl λ_ _ _ _ _ _ hr=>
  (aq (zg cB rfl (qz (by rfl) T.z_range (ak bc bz)) (dw (i:=1) ab6.nd rfl (bM rfl)) (az (vz (EW.pt (ay3 (jg (aa6 hr.units) (e2_v (ER.toD (Za d47 hr (eg_n (pv 1) (eg_v (nj (ak (nj (ak bc (ak (adv bc) bz))) bz)) (eg_v (nj (ak bc bz)) (eg_v bc bf)))))) (EV.toB jo)) (jn _)) (aq0 (jg (aa6 hr.units) (e2_v (ER.toD (Za d47 hr (eg_n (pv 1) (eg_v (nj (ak (nj (ak bc bz)) bz)) (eg_v (nj (ak bc bz)) (eg_v bc bf)))))) (EV.toB jo)) (jn _))))) (az (fj (EV.toR agu))) j5))) (aq (zg cB rfl (yo (ER.toD (gm jt (e2_v (ER.toD (j7 (ak (ER.toD (Za d37 hr (eg_n (pv 0) (eg_v bc bf)))) bz))) (EV.toB (ER.toD (agb (pv 0) (aej bc) (aej bc)))))))) (dw (i:=2) ab6.nd rfl (bM rfl)) (aq (fc (i:=3) ab6.nd rfl (bM rfl) (Za d38 hr (eg_n (pv 2) bf))) (az (zg cB rfl (yo (ER.toD (j7 (ak (ER.toD (Za d41 hr (eg_n (pv 3) (eg_v bc (eg_v bc bf))))) (ak (ER.toD (Za d42 hr (eg_n (pv 3) (eg_v bc (eg_v bc bf))))) bz))))) (dw (i:=4) ab6.nd rfl (bM rfl)) (aq (fc (i:=5) ab6.nd rfl (bM rfl) (Za d43 hr (eg_n (pv 3) (eg_v (aa (pv 4)) bf)))) (aq (fc (i:=6) ab6.nd rfl (bM rfl) (Za d39 hr (eg_n (pv 3) (eg_v (ER.toD (dg j9 (by rfl) T.z_len kh (ea_n (pv 4) fu))) bf)))) (aq (fc (i:=7) ab6.nd rfl (bM rfl) (jx (e2_v (ER.toD (j7 (ak jo (ak jo bz)))) (EV.toB (ER.toD (jq a0p (by rfl) T.z_int awp (ea_v (ER.toD (anl aqc (e2_v (ER.toD (dg (al1 rfl) (by rfl) T.z_min aq8 (ea_v (ER.toD (vg [] ["doors"] [ZX] rfl (yo (aa (pv 4))) (λ_ _ _=>(dw (i:=0) (nD ["doors"]) rfl (bM rfl))) (λ_ _ _=>qu) (λ_ _ _=>(ER.toD (dg (al1 rfl) (by rfl) T.z_min aq8 (ea_n (pv 0) fu)))))) fu))) (EV.toB bc)) (jn _))) fu))))) (λ_ _=>by rfl))) (az (zg cB rfl (qz (by rfl) T.z_range (ak bc bz)) (dw (i:=1) ab6.nd rfl (bM rfl)) (aq (fc (i:=8) ab6.nd rfl (bM rfl) (Za d45 hr (eg_n (pv 3) (eg_n (pv 4) (eg_v (aa (pv 5)) bf))))) (aq (fc (i:=9) ab6.nd rfl (bM rfl) (Za d46 hr (eg_n (pv 3) (eg_n (pv 4) bf)))) (aq (vz (EW.pt (ay3 (jg (aa6 hr.units) (e2_v (ER.toD (Za d47 hr (eg_n (pv 1) (eg_v (aa (pv 4)) (eg_v (aa (pv 8)) (eg_v (aa (pv 9)) bf)))))) (EV.toB jo)) (jn _)) (aq0 (jg (aa6 hr.units) (e2_v (ER.toD (Za d47 hr (eg_n (pv 1) (eg_v (aa (pv 4)) (eg_v (aa (pv 8)) (eg_v (aa (pv 6)) bf)))))) (EV.toB jo)) (jn _))))) (az (fj (EV.toR agu))) j5) (az (vz (EW.pt (ay3 (jg (aa6 hr.units) (e2_v (ER.toD (Za d47 hr (eg_n (pv 1) (eg_v (aa (pv 4)) (eg_v (aa (pv 5)) (eg_v (aa (pv 9)) bf)))))) (EV.toB jo)) (jn _)) (aq0 (jg (aa6 hr.units) (e2_v (ER.toD (Za d47 hr (eg_n (pv 1) (eg_v (aa (pv 4)) (eg_v (aa (pv 5)) (eg_v (aa (pv 6)) bf)))))) (du (pv 7))) (jn _))))) (az (fj (EV.toR agu))) j5)))))))))))))) (az (fj (EV.toR agu)))))
end
abbrev Q(K:Fg9)(x:Str)(st:fD)(f:aU)(oc:aD)(od:Option aU)(kV dc pm:aD)(an:Option aU)(cd ct:aD)(sl:Array (Option aD)):Prop:=nsIn K aX x=ZY (ZY (.ref f))/\K.lookup f=ZY ⟨oc,od,.func (fnOf x x (lw st) (je st) (ao st) .none kV dc pm an cd ct),sl⟩/\codeIn K cd x=ZW/\jW K (.ref f)=ZW
section
variable{K:Fg9}{x:Str}{st:fD}{f:aU}{oc:aD}{od:Option aU}{kV dc pm:aD}{an:Option aU}{cd ct:aD}{sl:Array (Option aD)}(q:Q K x st f oc od kV dc pm an cd ct sl){h:eF}{mg:Str->Option aD}
include q
theorem Q.F:Fun K x x st f (fnOf x x (lw st) (je st) (ao st) .none kV dc pm an cd ct):=aqz q.2.1 q.2.2.1 q.2.2.2
theorem Q.E{ps:List Str}(X:K.In h)(G:h.Ns aX mg)(b:∀(kV doc pm:aD) (an:Option aU) (cdv ct:aD) (us:List aD),us.length=ps.length->bindArgs (fnOf x x (lw st) (je st) (ao st) .none kV doc pm an cdv ct) ⟨us,[]⟩=pure (ps.zip us)):mg x=ZY (.ref f)/\jW K (.ref f)=ZW/\Binds K (fnOf x x (lw st) (je st) (ao st) .none kV dc pm an cd ct) ps []:=⟨mg_of X G q.1,q.2.2.2,(Q.F q).binds b⟩
theorem Q.E1{p0:Str}(X:K.In h)(G:h.Ns aX mg)(b:∀(kV doc pm:aD) (an:Option aU) (cdv ct u0:aD),bindArgs (fnOf x x (lw st) (je st) (ao st) .none kV doc pm an cdv ct) ⟨[u0],[]⟩=pure ([p0].zip [u0]):=by intros;rfl):mg x=ZY (.ref f)/\jW K (.ref f)=ZW/\Binds K (fnOf x x (lw st) (je st) (ao st) .none kV dc pm an cd ct) [p0] []:=q.E X G λ_ _ _ _ _ _ us hl=>by obtain⟨_,rfl⟩:=ln1 hl;apply b
theorem Q.E2{p0 p1:Str}(X:K.In h)(G:h.Ns aX mg)(b:∀(kV doc pm:aD) (an:Option aU) (cdv ct u0 u1:aD),bindArgs (fnOf x x (lw st) (je st) (ao st) .none kV doc pm an cdv ct) ⟨[u0,u1],[]⟩=pure ([p0,p1].zip [u0,u1]):=by intros;rfl):mg x=ZY (.ref f)/\jW K (.ref f)=ZW/\Binds K (fnOf x x (lw st) (je st) (ao st) .none kV dc pm an cd ct) [p0,p1] []:=q.E X G λ_ _ _ _ _ _ us hl=>by obtain⟨_,_,rfl⟩:=ln2 hl;apply b
theorem Q.E3{p0 p1 p2:Str}(X:K.In h)(G:h.Ns aX mg)(b:∀(kV doc pm:aD) (an:Option aU) (cdv ct u0 u1 u2:aD),bindArgs (fnOf x x (lw st) (je st) (ao st) .none kV doc pm an cdv ct) ⟨[u0,u1,u2],[]⟩=pure ([p0,p1,p2].zip [u0,u1,u2]):=by intros;rfl):mg x=ZY (.ref f)/\jW K (.ref f)=ZW/\Binds K (fnOf x x (lw st) (je st) (ao st) .none kV dc pm an cd ct) [p0,p1,p2] []:=q.E X G λ_ _ _ _ _ _ us hl=>by obtain⟨_,_,_,rfl⟩:=ln3 hl;apply b
theorem Q.E4{p0 p1 p2 p3:Str}(X:K.In h)(G:h.Ns aX mg)(b:∀(kV doc pm:aD) (an:Option aU) (cdv ct u0 u1 u2 u3:aD),bindArgs (fnOf x x (lw st) (je st) (ao st) .none kV doc pm an cdv ct) ⟨[u0,u1,u2,u3],[]⟩=pure ([p0,p1,p2,p3].zip [u0,u1,u2,u3]):=by intros;rfl):mg x=ZY (.ref f)/\jW K (.ref f)=ZW/\Binds K (fnOf x x (lw st) (je st) (ao st) .none kV dc pm an cd ct) [p0,p1,p2,p3] []:=q.E X G λ_ _ _ _ _ _ us hl=>by obtain⟨_,_,_,_,rfl⟩:=ln4 hl;apply b
end
def a88{l:qW}{w:dU}{K:Fg9}{h:eF}{mg:Str->Option aD}(X:K.In h)(G:h.Ns aX mg)(hfa:mg "law"=ZY (.ref fa))
  {B_Stroll:aU} (aB_Stroll:nsIn K aX "Stroll"=ZY (ZY (.ref B_Stroll))) (e_B_Stroll:boxB K B_Stroll ["house","turning","place","steps"]=ZW)
  (q0:Q K "is_whole" afv f0' o0 p0 v0 t0 m0 n0 c0 r0 z0)
  (q1:Q K "is_whole_within" wg f1' o1 p1 v1 t1 m1 n1 c1 r1 z1)
  (q2:Q K "is_tuple_within" wj f2' o2 p2 v2 t2 m2 n2 c2 r2 z2)
  (q3:Q K "is_room_number" yu f3' o3 p3 v3 t3 m3 n3 c3 r3 z3)
  (q4:Q K "refuse_no_room" sr f4' o4 p4 v4 t4 m4 n4 c4 r4 z4)
  (q5:Q K "come_to" ahp f5' o5 p5 v5 t5 m5 n5 c5 r5 z5)
  (q6:Q K "is_shut" ahn f6' o6 p6 v6 t6 m6 n6 c6 r6 z6)
  (q7:Q K "refuse_not_shut" qd f7' o7 p7 v7 t7 m7 n7 c7 r7 z7)
  (q8:Q K "is_arrows" ad0 f8' o8 p8 v8 t8 m8 n8 c8 r8 z8)
  (q9:Q K "refuse_no_arrows" nu f9' o9 p9 v9 t9 m9 n9 c9 r9 z9)
  (q10:Q K "last_ways" adz f10' o10 p10 v10 t10 m10 n10 c10 r10 z10)
  (q11:Q K "going_round" abj f11' o11 p11 v11 t11 m11 n11 c11 r11 z11)
  (q12:Q K "minor" aog f12' o12 p12 v12 t12 m12 n12 c12 r12 z12)
  (q13:Q K "row_with" aft f13' o13 p13 v13 t13 m13 n13 c13 r13 z13)
  (q14:Q K "swapped" ahm f14' o14 p14 v14 t14 m14 n14 c14 r14 z14)
  (q15:Q K "cleared" ahq f15' o15 p15 v15 t15 m15 n15 c15 r15 z15)
  (q16:Q K "solved" aky f16' o16 p16 v16 t16 m16 n16 c16 r16 z16)
  (q17:Q K "determinant" abk f17' o17 p17 v17 t17 m17 n17 c17 r17 z17)
  (q18:Q K "common_divisor" yw f18' o18 p18 v18 t18 m18 n18 c18 r18 z18)
  (q19:Q K "doors_square" aas f19' o19 p19 v19 t19 m19 n19 c19 r19 z19)
  (q20:Q K "ring_from" ady f20' o20 p20 v20 t20 m20 n20 c20 r20 z20)
  (q21:Q K "rings_of" afu f21' o21 p21 v21 t21 m21 n21 c21 r21 z21)
  (q22:Q K "refuse_no_state" qe f22' o22 p22 v22 t22 m22 n22 c22 r22 z22)
  (q23:Q K "leave" aoh f23' o23 p23 v23 t23 m23 n23 c23 r23 z23)
  (q24:Q K "refuse_no_shut_state" jy f24' o24 p24 v24 t24 m24 n24 c24 r24 z24)
  (q25:Q K "gone_from" ad1 f25' o25 p25 v25 t25 m25 n25 c25 r25 z25)
  (q26:Q K "ring_without" aar f26' o26 p26 v26 t26 m26 n26 c26 r26 z26)
  (q27:Q K "why_of" akx f27' o27 p27 v27 t27 m27 n27 c27 r27 z27)
  (q28:Q K "to_where_it_stays" uc f28' o28 p28 v28 t28 m28 n28 c28 r28 z28)
  (q29:Q K "to_its_round" aaq f29' o29 p29 v29 t29 m29 n29 c29 r29 z29)
  (q30:Q K "turns_among" abi f30' o30 p30 v30 t30 m30 n30 c30 r30 z30)
  (q31:Q K "round_of" ac8 f31' o31 p31 v31 t31 m31 n31 c31 r31 z31)
  (q32:Q K "turns_of" ac7 f32' o32 p32 v32 t32 m32 n32 c32 r32 z32)
  (q33:Q K "in_round" ac9 f33' o33 p33 v33 t33 m33 n33 c33 r33 z33)
  (q34:Q K "why_not" aeu f34' o34 p34 v34 t34 m34 n34 c34 r34 z34)
  (q35:Q K "is_gone" aho f35' o35 p35 v35 t35 m35 n35 c35 r35 z35)
  (q36:Q K "why_not_holds" s_why_not_holds f36' o36 p36 v36 t36 m36 n36 c36 r36 z36)
  (q37:Q K "_law_cell" ad6 f37' o37 p37 v37 t37 m37 n37 c37 r37 z37)
  (q38:Q K "_law_pen" afw f38' o38 p38 v38 t38 m38 n38 c38 r38 z38)
  (q39:Q K "_law_draw" ad5 f39' o39 p39 v39 t39 m39 n39 c39 r39 z39)
  (q40:Q K "_law_odd" afx f40' o40 p40 v40 t40 m40 n40 c40 r40 z40)
  (q41:Q K "_law_house" ab8 f41' o41 p41 v41 t41 m41 n41 c41 r41 z41)
  (q42:Q K "_law_shut" ad3 f42' o42 p42 v42 t42 m42 n42 c42 r42 z42)
  (q43:Q K "_law_arrows" abl f43' o43 p43 v43 t43 m43 n43 c43 r43 z43)
  (q44:Q K "_law_kind" ad4 f44' o44 p44 v44 t44 m44 n44 c44 r44 z44)
  (q45:Q K "_law_no_arrows" yx f45' o45 p45 v45 t45 m45 n45 c45 r45 z45)
  (q46:Q K "_law_no_room" aat f46' o46 p46 v46 t46 m46 n46 c46 r46 z46)
  (q47:Q K "_law_told" ad2 f47' o47 p47 v47 t47 m47 n47 c47 r47 z47)
  (a48:nsIn K aX "law"=ZY (ZY (.ref f48'))) (l48:K.lookup f48'=ZY ⟨oc48,od48,.func (fnOf "law" "law" (lw akz) (je akz) (ao akz) .none kV48 dc48 pm48 an48 cd48 ct48),sl48⟩) (c48:codeIn K cd48 "law"=ZW) (k48:jW K (.ref f48')=ZW)
  (a49:iV K (.ref B_Stroll) "__init__"=ZY (ZY (.ref f49'))) (l49:K.lookup f49'=ZY ⟨oc49,od49,.func (fnOf "__init__" "Stroll.__init__" (lw qg) (je qg) (ao qg) .none kV49 dc49 pm49 an49 cd49 ct49),sl49⟩) (c49:codeIn K cd49 "Stroll.__init__"=ZW) (k49:jW K (.ref f49')=ZW) (e_F_Stroll_init:kJ K (.ref f49')=ZW)
  (a50:iV K (.ref B_Stroll) "go_till_in"=ZY (ZY (.ref f50'))) (l50:K.lookup f50'=ZY ⟨oc50,od50,.func (fnOf "go_till_in" "Stroll.go_till_in" (lw jk) (je jk) (ao jk) .none kV50 dc50 pm50 an50 cd50 ct50),sl50⟩) (c50:codeIn K cd50 "Stroll.go_till_in"=ZW) (k50:jW K (.ref f50')=ZW) (e_F_Stroll_go_till_in:kJ K (.ref f50')=ZW)
  (e_cls:awd K NS=ZW) (e_sub:akr K NS=ZW) (e_rai:azx K ["ArrowError","NoArrows","NoRoom","NoWalkers","NotShut","NeverBack","NoTour","NoRow"]=ZW) (e_cat:catB K=ZW)
  (y_ValueError:nsIn K aX "ValueError"=ZY ZX)
  (y_abs:nsIn K aX "abs"=ZY ZX)
  (y_all:nsIn K aX "all"=ZY ZX)
  (y_bool:nsIn K aX "bool"=ZY ZX)
  (y_divmod:nsIn K aX "divmod"=ZY ZX)
  (y_enumerate:nsIn K aX "enumerate"=ZY ZX)
  (y_int:nsIn K aX "int"=ZY ZX)
  (y_isinstance:nsIn K aX "isinstance"=ZY ZX)
  (y_len:nsIn K aX "len"=ZY ZX)
  (y_list:nsIn K aX "list"=ZY ZX)
  (y_max:nsIn K aX "max"=ZY ZX)
  (y_min:nsIn K aX "min"=ZY ZX)
  (y_range:nsIn K aX "range"=ZY ZX)
  (y_set:nsIn K aX "set"=ZY ZX)
  (y_sorted:nsIn K aX "sorted"=ZY ZX)
  (y_sum:nsIn K aX "sum"=ZY ZX)
  (y_tuple:nsIn K aX "tuple"=ZY ZX)
  (y_zip:nsIn K aX "zip"=ZY ZX)
  : ∃fd:dR,(∀(s:aG) (v:aD),qC s fd ⟨[v],[]⟩ [("script", v)])/\∀base:eF,K.In base->base.Ns aX mg->FnOk l.prog w K mg base CX0 11 fa fd ["script"] (spOf K 1 avv):=by
 have e:=hfa.symm.trans (mg_of X G a48);cases e;have T:Txt K mg:=by refine⟨mg_none_of X G y_ValueError,fG X G y_abs,fG X G y_all,fG X G y_bool,fG X G y_divmod,fG X G y_enumerate,fG X G y_int,fG X G y_isinstance,fG X G y_len,fG X G y_list,fG X G y_max,fG X G y_min,fG X G y_range,fG X G y_set,fG X G y_sorted,fG X G y_sum,fG X G y_tuple,fG X G y_zip,?_,?_,?_,?_,e_sub,a4a X G e_cat,?_,?_,?_,?_,?_,?_,?_,?_,?_,?_,?_,?_,?_,?_,?_,?_,?_,?_,?_,?_,?_⟩<;>first|exact alv aB_Stroll e_B_Stroll (by decide +kernel)|exact vo X G e_cls (by decide +kernel)|exact acb X G e_cls (by decide +kernel) e_rai (by decide +kernel)
 have F48:=aqz (st:=akz) l48 c48 k48;have F49:=aqz (st:=qg) l49 c49 k49;have b49:=F49.binds (ps:=["self","house","arrows","room"]) λ_ _ _ _ _ _ us hl=>by obtain⟨_,_,_,_,rfl⟩:=ln4 hl;rfl
 have F50:=aqz (st:=jk) l50 c50 k50;have b50:=F50.binds (ps:=["self","rooms"]) λ_ _ _ _ _ _ us hl=>by obtain⟨_,_,rfl⟩:=ln2 hl;rfl
 refine⟨fnOf "law" "law" (lw akz) (je akz) (ao akz) .none kV48 dc48 pm48 an48 cd48 ct48,λs v=>.of_eq rfl,λbase _ _=>?_⟩
 let z:Cz:=⟨l.prog,w,K,mg,base⟩
 have d0:Dd0 z:=⟨_,_,aox z T q0.F,q0.E1 X G⟩;have d1:Dd1 z:=⟨_,_,ae1 z T q1.F d0,q1.E3 X G⟩;have d2:Dd2 z:=⟨_,_,ae2 z T q2.F,q2.E3 X G⟩;have d3:Dd3 z:=⟨_,_,afz z T q3.F d1,q3.E2 X G⟩;have d4:Dd4 z:=⟨_,_,afy z T q4.F d3,q4.E2 X G⟩;have x4:Dx4 z:=⟨_,_,aey z T q4.F d3,q4.E2 X G⟩;have d5:Dd5 z:=⟨_,_,ar8 z T q5.F d4,q5.E2 X G⟩;have d6:Dd6 z:=⟨_,_,ar6 z T q6.F,q6.E1 X G⟩;have d7:Dd7 z:=⟨_,_,aez z T q7.F d6,q7.E1 X G⟩;have x7:Dx7 z:=⟨_,_,ad8 z T q7.F d6,q7.E1 X G⟩;have d8:Dd8 z:=⟨_,_,amr z T q8.F d2 d1,q8.E2 X G⟩;have d9:Dd9 z:=⟨_,_,aea z T q9.F d8,q9.E2 X G⟩;have x9:Dx9 z:=⟨_,_,adl z T q9.F d8,q9.E2 X G⟩;have d10:Dd10 z:=⟨_,_,amq z T q10.F,q10.E2 X G⟩;have d11:Dd11 z:=⟨_,_,aje z T q11.F,q11.E2 X G⟩;have d12:Dd12 z:=⟨_,_,ax4 z T q12.F,q12.E2 X G⟩;have d13:Dd13 z:=⟨_,_,aou z T q13.F,q13.E2 X G⟩;have d14:Dd14 z:=⟨_,_,ar5 z T q14.F,q14.E3 X G⟩;have d15:Dd15 z:=⟨_,_,ar9 z T q15.F,q15.E3 X G⟩;have d16:Dd16 z:=⟨_,_,auj z T q16.F d13 d14 d15,q16.E2 X G⟩;have d17:Dd17 z:=⟨_,_,ajf z T q17.F d16,q17.E1 X G⟩;have d18:Dd18 z:=⟨_,_,af0 z T q18.F,q18.E1 X G⟩;have d19:Dd19 z:=⟨_,_,ahy z T q19.F,q19.E1 X G⟩;have d20:Dd20 z:=⟨_,_,amo z T q20.F,q20.E2 X G⟩;have d21:Dd21 z:=⟨_,_,aow z T q21.F d11 d20,q21.E2 X G⟩;have d22:Dd22 z:=⟨_,_,ae0 z T q22.F d9 d4 x9 x4,q22.E3 X G⟩;have x22:Dx22 z:=⟨_,_,ad9 z T q22.F d9 d4 x9 x4,q22.E3 X G⟩;have d23:Dd23 z:=⟨_,_,ax5 z T q23.F,q23.E3 X G⟩;have d24:Dd24 z:=⟨_,_,abm z T q24.F d22 d7 x22 x7,q24.E3 X G⟩;have x24:Dx24 z:=⟨_,_,aa7 z T q24.F d22 d7 x22 x7,q24.E3 X G⟩;have d25:Dd25 z:=⟨_,_,ams z T q25.F d5,q25.E2 X G⟩;have d26:Dd26 z:=⟨_,_,ahx z T q26.F d10 d5 d21,q26.E3 X G⟩;have d27:Dd27 z:=⟨_,_,aui z T q27.F d25 d26,q27.E3 X G⟩;have m_Stroll_go_till_in:Dz0 z:=a3w aB_Stroll e_B_Stroll a50 e_F_Stroll_go_till_in k50 (adn z T F50 d23) b50;have n_Stroll:Dz1 z:=a3x aB_Stroll (mg_of X G aB_Stroll) e_B_Stroll a49 e_F_Stroll_init (ajh z T F49 aB_Stroll) b49;have d28:Dz2 z:=⟨_,_,adm z T q28.F d25 m_Stroll_go_till_in n_Stroll,q28.E3 X G⟩;have d29:Dz3 z:=⟨_,_,ahw z T q29.F d28 d26 m_Stroll_go_till_in,q29.E3 X G⟩;have d30:Dd30 z:=⟨_,_,ajd z T q30.F d19 d12 d17 d18,q30.E2 X G⟩;have d31:Dd31 z:=⟨_,_,aov z T q31.F d24 d29 d5 d30 x24,q31.E3 X G⟩;have x31:Dx31 z:=⟨_,_,amm z T q31.F d24 d29 d5 d30 x24,q31.E3 X G⟩;have d32:Dd32 z:=⟨_,_,aot z T q32.F d24 d28 d5 d30 x24,q32.E3 X G⟩;have x32:Dx32 z:=⟨_,_,aml z T q32.F d24 d28 d5 d30 x24,q32.E3 X G⟩;have d33:Dd33 z:=⟨_,_,aoy z T q33.F d24 d27 x24,q33.E3 X G⟩;have x33:Dx33 z:=⟨_,_,amn z T q33.F d24 d27 x24,q33.E3 X G⟩;have d34:Dd34 z:=⟨_,_,ar4 z T q34.F d24 d27 x24,q34.E3 X G⟩;have x34:Dx34 z:=⟨_,_,aos z T q34.F d24 d27 x24,q34.E3 X G⟩;have d35:Dd35 z:=⟨_,_,ar7 z T q35.F d3 d25,q35.E3 X G⟩;have d36:Dd36 z:=⟨_,_,ok_why_not_holds z T q36.F d24 d2 d35 x24,q36.E4 X G⟩;have x36:Dx36 z:=⟨_,_,okx_why_not_holds z T q36.F d24 d2 d35 x24,q36.E4 X G⟩;have d37:Dd37 z:=⟨_,_,amw z T q37.F,q37.E2 X G⟩;have d38:Dd38 z:=⟨_,_,aoz z T q38.F,q38.E1 X G⟩;have d39:Dd39 z:=⟨_,_,amv z T q39.F,q39.E2 X G⟩;have d40:Dd40 z:=⟨_,_,ao0 z T q40.F d39,q40.E1 X G⟩;have d41:Dd41 z:=⟨_,_,ala z T q41.F d39,q41.E3 X G⟩;have d42:Dd42 z:=⟨_,_,amu z T q42.F d39,q42.E3 X G⟩;have d43:Dd43 z:=⟨_,_,ajg z T q43.F d39,q43.E2 X G⟩;have u44:Du44 z:=⟨_,_,ak9 z T q44.F,q44.E1 X G⟩;have d45:Dd45 z:=⟨_,_,af1 z T q45.F d39,q45.E3 X G⟩;have d46:Dd46 z:=⟨_,_,ahz z T q46.F d39 d40,q46.E2 X G⟩;have d47:Dd47 z:=⟨_,_,amt z T q47.F d31 d32 d33 d34 d36 x31 x32 x33 x34 x36 u44,q47.E4 X G⟩;exact a6x z T F48 d47 d37 d38 d41 d42 d43 d39 d45 d46
end My
set_option genInjectivity false in
structure PySem.W.Fast where(tw13683154778605141025 tw5457862846690908097 tw988813963295774818 tw12294229926338417890 tw6715367778659988547 tw18365513718976257251 tw12263379359050618467 tw6719806222813786468 tw6080832222601951972 tw2900544928224534436 tw6404940723489683653 tw6342275345970244997 tw3168232800128918245 tw10430876526784054021 tw13801101314689357605 tw17238958499453381573 tw1203908627256299461 tw7251278274274496806 tw11874863016150351366 tw4264919414450976199 tw9575440223258035719 tw11095465069338843144 tw17123517012924088040 tw5401177124372710152 tw5631726971218025609 tw12617844298378753225 tw391029529625692745 tw15163090041051820746 tw10255925039961325771 tw4986401551260947947 tw5166902626096762316 tw11872856587260758221 tw1010717250312511982 tw2771293691358304014 tw14946827592690764686 tw17806101575062344590 tw6289781192110164175 tw10793452379126543215 tw9918388860739480688 tw833997225487075504 tw2084602298376374864 tw14591634582581981777 tw10607951762346068625 tw13857996837800800882 tw1629652548902850258 tw5280694710911263666 tw12041257861027070259 tw3166917011322123316 tw8405123456386456148 tw17847391476781822580 tw7873392083285139989 tw3978624586297829846 tw16377492760452410038 tw9172874795568971670 tw11953926803442380471 tw1046122135087133495 tw1591709611332060568 tw11869230558592552185 tw12968126974384565561 tw2538578354676542841 tw12282375772856454553 tw8525032762867821049 tw2548328098767248057 tw14234117923606207770 tw7772601724676675130 tw453132841877532442 tw6989611017130634106 tw15642896655568300379 tw3771598271541090171 tw8942467916725189020 tw515895008625262268 tw7235541586837676796 tw12923806347739811740 tw5997997160198187293 tw10534572446485261757 tw6435729587969712125 tw3454527228390053086 tw993601566560835806 tw2394697858803125343 tw9811711723386855519 tw12893119776739299519 tw12454629296262556927 tw11937088575304866079 tw72164476040747903 tw4827447586945748240 tw11638869733258550390 tw7164737286282946582 tw13176141573633077841 tw5696449330020618289 tw2797461456337713353 tw7036477079868072443 tw14256504819318708097 tw12921900272306026193 tw13690817793003505353 tw3418794218800149192 tw15185857584503649927 tw10772954422617759812 tw10008394337473396043 tw14438334858866513057 tw10418522478254268718 tw1243342146759708345 tw17635348560396426383 tw4919955819553880045 tw331907868832677695 tw245875508922665921 tw12356009553137732164 tw16347095230892949695 tw11541662454622636160 tw11823446238110406124 tw13724336547465718039 tw4536933047076906967 tw8982824883747470630 tw5972743974797499753 tw5007044185384352319 tw7922534061234198645 tw1532161108732200778 tw12601689997864948015 tw3955369843203323166 tw4568832203212512394 tw2207308519518549505 tw10553901902112502724 tw18267989509790434133 tw1140964283101951860 tw2316672543918225088 tw15382113462586982688 tw2989046246799339850 tw3018438395677282514 tw16493641707377913440 tw18020162930617750009 tw814848835188444314 tw5860373692534747945 tw2400875215933157631 tw10766381095593781062 tw8584647045210679046 tw4111302391275257956 tw17618684378279417045 tw7239290663045816958 tw12792213574993430733 tw1071787518202168319 tw3671976474423468048 tw4294611517234195791 tw4323198916909876163 tw17678338574019890015 tw417790908136912933 tw15228842806807963954 tw10742664536680398086 tw13283094041685122855 tw4382458867323781297 tw9210794886532794820 tw11868456202295740604 tw17162035306425948440 tw1291061621764726055 tw11216017258644911350 tw96104222145057708 tw12658470144397050349 tw2421595313695404308 tw5506817492814592460 tw18326750855740275200 tw5412557551668712829 tw16907605357784914570 tw12790745093697256941 tw8195864315308339967 tw2266551794676394303 tw1798755699790931199 tw2819248597342311810 tw13973103019437125636 tw10464811786563050924 tw3033115573765628047 tw11158866516204409786 tw1694471079424232920 tw4755315263090603604 tw3821439154882660074 tw15056851982520397295 tw11076196980639103240 tw7890151385707559386 tw6810476923384023176 tw10486383187235850098 tw8611101091429847302 tw3904904852342426633 tw6970896869400042643 tw17541203906202557466 tw15452582463665467723 tw4310447553572419785 tw11808163985141435145 tw9168852410305274497 tw8653256579884288981 tw18104433378562990124 tw1220453143186400473 tw7778221112530406676 tw8035382497776593088 tw17155601466848350891 tw3978860273448054041 tw4259695988513109112 tw8676125333052843347 tw18253367269486378840 tw12950757371341786048 tw6737585664538420577 tw15140293667800325882 tw13991332065352063973 tw15128187369126504986 tw7172034580924103936 tw7149415879986488388 tw16510087934226896218 tw17915178588538361435 tw12492228056463694001 tw13028999586011936736 tw9155252396581813236 tw13776821427313575634 tw9565949908604294394 tw16023058777362177552 tw12772170519028142453 tw1048741152862262931 tw1912391753305226398 tw10974864755950568383 tw1256763831315307191 tw9839691019541693334 tw16203521801442496230 tw2243679415706466637 tw15989342751757301461 tw4659306721033093903 tw5187295205076304497 tw10501464873040782042 tw17676766297119350735 tw15861429528683345725 tw8606969542774605503 tw10361048921920682793 tw8127869757776167897 tw11081255275153707640 tw14187184571672006072 tw16737564507239444830 tw7573703342698232116 tw16390602316830040447 tw13852543271543915090 tw14766223832808166659 tw10349941631318720209 tw7330914059323822012 tw10560420309096522657 tw5540096937048837733:Unit)
open PySem PySem.W PyProof.Rows
set_option maxRecDepth 100000 in
set_option maxHeartbeats 0 in
theorem PySem.Challenge.cw_turnarrows_k30_rounds_refused_holds : PySem.Challenge.rw_turnarrows_k30_rounds_refused.Holds := by
 w_on;o_law;k_head;(case hw=>w_witness2)
 k_fill
 refine Dn.walk (l:=PySem.Challenge.rw_turnarrows_k30_rounds_refused) (f:=My.avv) (k:=11) My.ayl rfl rfl ⟨rfl,by decide,by decide,rfl⟩ (fun w h Y=>PySem.W.kIn_of Y) ?F
 case F=>
  intro w mg fa h KX G hmg;refine' My.a88 KX G hmg ?_ ?_ ?_ ?_ ?_ ?_ ?_ ?_ ?_ ?_ ?_ ?_ ?_ ?_ ?_ ?_ ?_ ?_ ?_ ?_ ?_ ?_ ?_ ?_ ?_ ?_ ?_ ?_ ?_ ?_ ?_ ?_ ?_ ?_ ?_ ?_ ?_ ?_ ?_ ?_ ?_ ?_ ?_ ?_ ?_ ?_ ?_ ?_ ?_ ?_ ?_ ?_ ?_ ?_ ?_ ?_ ?_ ?_ ?_ ?_ ?_ ?_ ?_ ?_ ?_ ?_ ?_ ?_ ?_ ?_ ?_ ?_ ?_ ?_ ?_ ?_ ?_ ?_ ?_ ?_ ?_ ?_ ?_ ?_ ?_ ?_
  all_goals try refine' And.intro ?_ (And.intro ?_ (And.intro ?_ ?_))
  any_goals k_is
  all_goals kernel_rfl
