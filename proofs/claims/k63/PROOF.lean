import PyProof.Rows.All
import Wide.All
import OpenK.AllK
import Wide.FinOn
import Lean
import PyProof.EqAt
import PyProof.EqKinds
import PyProof.TupleCall
import PyProof.TupleOfStr
import PyProof.ListStr
import PyProof.ListRange
import KE.KSortTup
import PyProof.Rows.SortShellK
import PyProof.MeetsSeq2
import PyProof.FactsAll.list_4
import PyProof.AutoSeq1
import PyProof.ConsumeWalk
import PyProof.SetKind
import PyProof.Rows.SetFrom
import PyProof.ZipIter
import PyProof.TupleIter
import PyProof.AutoListH
import PyProof.ListNew
import PyProof.FactsAll.list_2
import PyProof.CollectWalk
import PyProof.FactsAll.tuple_2
import PyProof.WalksMore
import PyProof.ListMulRoad
import PyProof.Rows.SeqMore
import KE.KTryMore
import OpenK.KOwn
import PyProof.Rows.CatchBare
import KE.KIsAll
import PyProof.ExcArgsOwn
import PyProof.ExcAttrAll.ValueError
import KE.RegKTryMore
import KE.RegKIsAll
import PyProof.StrCalls2
import PyProof.StrLawsChain
import PyProof.StrLawsTight
import PyProof.Rows.StrNews
import KE.KIntText
import PyProof.Rows.StrNews2
import PyProof.Rows.StrLast
import PyProof.EnumMake
import PyProof.AttrMissHeap
import PyProof.MeetsDictList
import PyProof.Rows.SortStr
import PyProof.Rows.StrItems
import PyProof.StrLawsFrom
import PySem.Challenge.RW_askwithin_k63_questions_written
open PySem renaming PyData->aA,Str->aB,Addr->aD,Value->aE,Shared->aG,wpAny_bind->aI,wpAny->aN,wpAny_pure->aR,model->aT,Heap->aW,Expr->aX,Obj->aY,World->bB,starEach->bM,Stmt->bP,Program->bQ,eval->cD,Pos->cE,Around->cF,mainGlobals->cJ,SetTable->dY,rawInt->eE,Paired->eP,Env->eU,backTo->eX,FuncData->fX,boot_len->gP,compareOp->iH,Scope->iI,wpAny_newObj_type->jE,wpAny_holding->jF,sysModules->jS,wpAny_call_entry->kB,pyNext->kC,Spec->kG,wpAny_mono->lB,binaryOp->lC,Reads->lD,Keyword->lG,bootBuiltins->lU,assignEach->lV,NameKind->mB,sizeLine_eq->mX,ReadsAll->mZ,pyIter->nU,codeAny_builtin->nV,codeAny->nW,wpAny_setState_of->pE,wpAny_ite_split->pF,assign->pG,DictEntry->pP,swapsWith->qL,holding->qM,IsPart->qX,wpAny_typeOf->sG,wpAny_truthy_bool->sH,plainId_quiet->sI,getItem->sJ,foldedSetIterable->sL,wpAny_updateSeq->vI,wpAny_specialOf->vJ,wpAny_passesOwn->vK,wpAny_callSpecial?_slot->vL,valueAt->vM,updateSeq->vN,typeIs_str->vO,sliceBounds->vP,relabel->vQ,keywordEach->vR,codeAny_mono->vT,callerA->vU,bindArgs->vV,backToKw->vW,attributeBase->vX,GenState->wI,wpAny_setField_rec->zC,wpAny_setEntries_of->zD,wpAny_seqItems->zE,wpAny_isInstance->zF,wpAny_fieldsOf->zG,wpAny_attempt->zH,wpAny_askSetting->zI,behindInMarks->zJ,PassesOwn->zP,wpAny_pyIter_slot->DX,wpAny_forIn_list->DY,scanBound->DZ,ofAClassStatement->EA,hashByValue->ED,call_meets->EE,mem_of_lookup->EI,intText?->EJ,wpAny_typeNameOf_keyiter->JO,wpAny_typeNameOfWhole_keyiter->JP,wpAny_runValue->JQ,wpAny_pyIter_list->JR,wpAny_of_eq->JS,wpAny_execs_nil->JT,wpAny_Call_Name_kw->JU,subscripted->JV,letOwnedTupleGo->JW,wpAny_dictEntries->XU,noFill_tuple_add->XW,codeAny_extend_loopS->XX,builtinLookup_eq_fast->XY,SetTable->YH,Builtin->YL
open PySem.W renaming Frag->aK,nsIn->dD,mg_none_of->hJ,fnOf->kF,mg_of->lE,kia_one->lW,keepIn->qO,codeIn->zL,hideAll_get->JZ,excIn->KA,of_hideAll->XZ,methodObj->YA,lookIn->YB,kitx_list->YC,kitx_dict->YD,kitOne->YE,instObj->YF,OpenLaw->YG
open Or renaming inl->aU,inr->bA
open PySem.PyData renaming str->bO,canLay0->cA,eqv->cP,int->dA,depthAll->dI,bool->fD,tuple->fU,depth->fV,strOk->sN,list->zM,eqvAll->zN,canLayAll0->zO
open List renaming mem_cons_self->bR,mem_map->bW,mem_cons_of_mem->bZ,mem_cons->cQ,range->cU,length_map->dJ,mem_singleton->dP,size_toArray->eG,all_eq_true->eK,map_cons->fE,length_cons->fF,getElem?_map->fK,getElem?_eq_some_iff->fL,getElem?_eq_getElem->fS,mem_of_getElem?->gQ,length_append->hV,mem_append->iK,mem_range->iS,map_map->iT,toArray->kJ,length_take->kK,foldl_cons->lF,replicate->mC,map_append->mD,lookup_cons->nA,nodup_cons->nY,mem_append_right->nZ,find?_cons->oA,eq_nil_of_length_eq_zero->oB,append_nil->oD,getElem?_cons_succ->pK,filter_eq_self->pL,mem_flatten->qQ,length_singleton->qR,length->qS,getElem?_set_self->qU,getElem?_set_ne->qV,getElem?_append_left->qW,flatten_cons->sR,pairwise_map->wD,mem_filterMap->wF,getElem?_cons_zero->wG,getElem?_append_right->wH,take_add_one->zS,mem_flatMap->zT,getElem_mem->zU,cons_lt_cons_iff->zV,any_cons->zW,take_length->EO,mem_filter->ER,map_congr_left->ES,mem_of_mem_take->KL,mem_append_left->KM,length_nil->KN,foldl_append->KO,append_assoc->KP,zip_cons_cons->YW,take_append->YX,of_mem_zip->YY,nodup_range->YZ,nodup_append->ZA,mem_or_eq_of_mem_set->ZC,mem_iff_getElem->ZD,getElem?_take_of_lt->ZE,getElem?_eq_none->ZF,filterMap_cons->ZG,ext_getElem?->ZH,drop_eq_getElem_cons->ZI,drop_append->ZJ,cons_append->ZK,all_toArray->ZM,pairwise_iff_getElem->Xc,length_filterMap_le->Xd,length_eraseIdx_of_lt->Xe,length_eq_zero_iff->Xf,exists_cons_of_ne_nil->Xg
open Nat renaming le_refl->bY,ne_of_lt->cT,zero_le->eY,lt_of_lt_of_le->hU,le_trans->iR,ne_of_gt->lX,lt_succ_of_lt->lY,lt_irrefl->lZ,lt_or_ge->pJ,mod_lt->qP,lt_succ_self->sP,le_of_lt->sQ,pow_succ->wA,mul_le_mul_right->wC,mul_assoc->EL,mul_add->EM,lt_trichotomy->EN,toDigits->KD,succ_mul->KF,mul_mul_mul_comm->KG,mul_comm->KH,add_zero->KI,add_assoc->KJ,mul_left_comm->YS,mod_eq_of_lt->YT,min_eq_left->YU,lt_of_le_of_lt->YV,toDigits_of_lt_base->Xb
open PySem.Heap renaming lt_size->cI,get?_push_of_some->cL,get?_push_size->eL,SameBut->oG,get?_update_self->pM,get?_update_other->qY,size_push->zX
open Option renaming bind_some->cK,map_eq_some_iff->kH,map_some->sO,join_some->zQ,isSome_iff_exists->YR
open PySem.Str renaming join->dN,ofString->kE,length->EG
open PySem.Value renaming ref->fR,none->fT,type->hE
open PySem.NameKind renaming free->fW
open PySem.Obj renaming mapSeq->gJ,putSet->zR
open Array renaming length_toList->gR,getElem?_eq_getElem->jV,getElem?_toList->mG,getElem?_eq_some_iff->sS,toList_inj->EW,toList_filterMap->LG,getElem?_eq_none->LH,getD_eq_getD_getElem?->LI,forIn_toList->LJ,all_eq_true'->ZW,all_append->ZX
open Option.some renaming inj->iJ,injEq->EK
open Bool renaming false_eq_true->iL,and_eq_true->mF,false_ne_true->oH,and_eq_true_iff->oI,not_true->AC,eq_iff_iff->AD,and_self->ZV
open PyProof.Rows renaming envOfC->iQ,seqObj->mY,AllBare->pQ,boot_tuple->sM,boot_str->vZ,listUpdate_at->EB,boot_list->KC,slot_tuple_getitem->YM,boot_int->YN,boot_bool->YO,callWith_type1->Xa
open PySem.PassesOwn renaming never->jB
open Sum renaming inr->jG,inl->vY
open PySem.F renaming called_set->jT,slot_tuple_hash->ET,slot_dict_keyiterator_next->EU,plainAttrs_str->KB,slot_set_iter->KU,plain_list_iadd->KW,slot_tuple_add->YI,entry_tuple_add->YJ,args_tuple_add_2->YK,slot_str_split->ZN,plain_extend_loop->ZO,entry_str_split->ZP,args_str_split_2->ZQ,plainAttrs_list->Wy,excBase_ValueError->Wz,entry_dict_keyiterator_next->Xh,args_dict_keyiterator_next_1->Xi
open PySem.Builtin.Str renaming occurrences->jU,strSub->qZ,strSliceIndices->wJ,strKind->LB,partsBetween->ZR
open Ne renaming symm->kI
open Int renaming toNat_natCast->mE,ofNat->oE,eq_ofNat_of_zero_le->oF
open PySem.Txt renaming split->nX,partition->pH,startswith->JX
open PySem.Paired renaming length->pI
open False renaming elim->pO
open True renaming intro->qN
open PySem.Builtin.List renaming listExtendWith->rA,listSameRef->wK,listLengthHint->LD,listTooLong->ZU
open PySem.Around renaming under_plainId->rB
open PySem.StrLaws renaming At->zK
open ForInStep renaming yield->zY
open PyProof.Rows.F renaming plain_set_update_loop->zZ,entry_set_update_loop->KY
open PySem.Builtin.Tuple renaming tupleHashOf->AA,tupleExact->LA
open PySem.SetTable renaming fresh->EH,fill->JY
open Classical renaming choose_spec->EV,byContradiction->KZ
open Array.Perm renaming refl->EX
open List.Pairwise renaming imp_of_mem->KQ
open List.Nodup renaming length_le_of_subset->KR
open PySem.Heap.SameBut renaming update->KS
open PySem.Builtin.Slice renaming slicePlaces->LC,sliceAdjust->ZT
open PySem.Builtin.Frozenset renaming sizeOf->LF
open PySem.PyData.tuple renaming inj->YQ
open List.cons renaming inj->ZL
theorem XBs {α β:Type}{x:Option α}{f:α->Option β}{b:β}(h:x.bind f=some b) : ∃ a,x=some a/\f a=some b:=Option.bind_eq_some_iff.mp h
set_option Elab.async false
set_option bootstrap.genMatcherCode false
set_option genSizeOfSpec false
set_option linter.all false
set_option maxRecDepth 100000
set_option exponentiation.threshold 2000
namespace L2
open PySem PySem.Spec PyProof.Rows
noncomputable instance decEqData:DecidableEq aA:=fun a b=>Classical.propDecidable (a=b)
mutual
noncomputable def bD:aA->Bool
 | .int _=>true
 | .str x=>cA (.str x)
 | .tuple ds=>cC ds
 | _=>false
noncomputable def cC:List aA->Bool
 | []=>true
 | d::r=>bD d&&cC r
end
mutual
theorem GX : ∀ d:aA,bD d=true->d.canLay0=true
 | .int _,_=>by simp[cA]
 | .str x,h=>by simpa [bD] using h
 | .tuple ds,h=>by
  simp only[cA]
  exact QK ds (by simpa [bD] using h)
 | .none,h=>by simp[bD] at h
 | .bool _,h=>by simp[bD] at h
 | .list _,h=>by simp[bD] at h
 | .dict _,h=>by simp[bD] at h
theorem QK : ∀ ds:List aA,cC ds=true->zO ds=true
 | [],_=>by simp[zO]
 | d::r,h=>by
  have h':bD d=true/\cC r=true:=by simpa [cC] using h
  simp only[zO,GX d h'.1,QK r h'.2,ZV]
end
mutual
theorem NQ : ∀ x y:aA,bD x=true->bD y=true->cP x y=decide (x=y)
 | .int i,.int j,_,_=>by
  by_cases e:i=j
  ·subst e; simp[cP]
  ·have : ¬ dA i = .int j:=fun q=>e (PyData.int.inj q)
   simp[cP,e]
 | .str i,.str j,_,_=>by
  by_cases e:i=j
  ·subst e; simp[cP]
  ·simp[cP,e]
 | .tuple xs,.tuple ys,h1,h2=>by
  have e:=CC xs ys (by simpa [bD] using h1) (by simpa [bD] using h2)
  simp only[cP,e]
  by_cases q:xs=ys
  ·subst q; simp
  ·have : ¬ fU xs = .tuple ys:=fun z=>q (YQ z)
   rw[decide_eq_false q,decide_eq_false this]
 | .int _,.str _,_,_=>by simp[cP]
 | .int _,.tuple _,_,_=>by simp[cP]
 | .str _,.int _,_,_=>by simp[cP]
 | .str _,.tuple _,_,_=>by simp[cP]
 | .tuple _,.int _,_,_=>by simp[cP]
 | .tuple _,.str _,_,_=>by simp[cP]
 | .none,_,h,_=>by simp[bD] at h
 | .bool _,_,h,_=>by simp[bD] at h
 | .list _,_,h,_=>by simp[bD] at h
 | .dict _,_,h,_=>by simp[bD] at h
 | .int _,.none,_,h=>by simp[bD] at h
 | .int _,.bool _,_,h=>by simp[bD] at h
 | .int _,.list _,_,h=>by simp[bD] at h
 | .int _,.dict _,_,h=>by simp[bD] at h
 | .str _,.none,_,h=>by simp[bD] at h
 | .str _,.bool _,_,h=>by simp[bD] at h
 | .str _,.list _,_,h=>by simp[bD] at h
 | .str _,.dict _,_,h=>by simp[bD] at h
 | .tuple _,.none,_,h=>by simp[bD] at h
 | .tuple _,.bool _,_,h=>by simp[bD] at h
 | .tuple _,.list _,_,h=>by simp[bD] at h
 | .tuple _,.dict _,_,h=>by simp[bD] at h
theorem CC : ∀ xs ys:List aA,cC xs=true->cC ys=true->zN xs ys=decide (xs=ys)
 | [],[],_,_=>by simp[zN]
 | [],_::_,_,_=>by simp[zN]
 | _::_,[],_,_=>by simp[zN]
 | x::xs,y::ys,h1,h2=>by
  have h1':bD x=true/\cC xs=true:=by simpa [cC] using h1
  have h2':bD y=true/\cC ys=true:=by simpa [cC] using h2
  simp only[zN,NQ x y h1'.1 h2'.1,CC xs ys h1'.2 h2'.2]
  by_cases e:x=y
  ·subst e
   by_cases q:xs=ys
   ·subst q; simp
   ·simp[q]
  ·simp[e]
end
mutual
noncomputable def dB (w:bB):aA->Int
 | .int i=>hashInt i
 | .str x=>hashStr w x
 | .tuple ds=>reduceHash (AA (kX w ds))
 | _=>0
noncomputable def kX (w:bB):List aA->List Int
 | []=>[]
 | d::r=>dB w d::kX w r
end
mutual
noncomputable def pR:aA->Nat
 | .tuple ds=>nD ds+1
 | _=>1
noncomputable def nD:List aA->Nat
 | []=>0
 | d::r=>pR d+nD r
end
theorem UJ (a b:List aA):nD (a++b)=nD a+nD b:=by
 induction a with
 | nil=>simp[nD]
 | cons x r ih=>simp only[ZK,nD,ih]; omega
theorem UG (w:bB)(a b:List aA):kX w (a++b)=kX w a++kX w b:=by
 induction a with
 | nil=>rfl
 | cons x r ih=>simp only[ZK,kX,ih]
section
variable {prog:bQ}{w:bB}
theorem qC {h:aW}{v:aE}{ks:List aA}{as:List aD}(r:lD h v (.tuple ks) as) : ∃ a o vs n,v = .ref a/\h.get? a=some o/\o.cls = .type "tuple" /\ o.data = .seq vs n/\mZ h vs.toList ks as:=by
 cases r with
 | tuple h1 h2 h3 h4=>exact⟨_,_,_,_,rfl,h1,h2,h3,h4⟩
mutual
theorem TU : ∀ (d:aA) {A:cF} {E:aE->aG->Prop} {s:aG} {v:aE} {as:List aD} {Q:Int->aG->Prop},A.units+d.depth<cLine->bD d=true->lD s.heap v d as ->
  Q (dB w d) { s with toks:=s.toks+pR d }->aN (aT prog w) A (pyHash v) Q E s
 | .int i,A,E,s,v,as,Q,hu,hk,r,h=>by
  cases r with
  | int _ t=>exact wpAny_pyHash_int (by simpa [dB,pR] using h)
 | .str x,A,E,s,v,as,Q,hu,hk,r,h=>by
  cases r with
  | str _ t=>exact wpAny_pyHash_str (by simpa [dB,pR] using h)
 | .tuple ks,A,E,s,v,as,Q,hu,hk,r,h=>by
  obtain⟨a,o,items,n,rfl,ho,hc,hd,hi⟩:=qC r
  have hT:s.TypeIs (.ref a) "tuple":=⟨o,ho,hc⟩
  have hdep:A.units+(dI ks+1)<cLine:=by simpa [fV] using hu
  unfold pyHash
  first | unfold pyHashByItsType | skip
  first | refine aI (wpAny_cRoomFor_or (.inr (by omega)) ?_) | skip
  refine aI (vJ hT ET.lookup ?_)
  rw[if_neg (by rw[beq_builtin_none]; exact oH)]
  refine aI (vJ hT ET.lookup ?_)
  refine aI (wpAny_callSpecialIfBoundUnlessNone?_slot hT ET (kB ET hT F.entry_tuple_hash ?_ (F.args_tuple_hash_1 _)))
  show aN _ _ (Builtin.Tuple.tupleItemsOf (.ref a) >>= _) _ _ s
  refine aI (wpAny_tupleItemsOf ho hd ?_)
  refine aI ?_
  rw[← LJ]
  refine DY _
   (fun rest (b:Array Int) s'=>∃ done left bs,ks=done++left/\mZ s.heap rest left bs/\b.toList=kX w done/\s' = { s with toks:=s.toks+nD done })
   _ ?_ ?_ _ _ ⟨[],ks,as,rfl,hi,rfl,rfl⟩
  ·rintro x rest b s' ⟨done,left,bs,e,hl,hb,rfl⟩
   cases hl with
   | @cons _ _ d ds as1 bs1 h1 hl'=>
    have hm:d∈ks:=by rw[e]; exact nZ _ bR
    have hk':cC ks=true:=by simpa [bD] using hk
    refine aI (TQ ks hm (by
     have:A.in1.units=A.units+1:=rfl
     omega) hk' h1 ?_)
    first
     | exact aR ⟨done++[d],ds,bs1,by simp[e],hl',by simp[hb,UG,kX],by simp[UJ,nD,KJ]⟩
     | exact aI (aR (aR ⟨done++[d],ds,bs1,by simp[e],hl',by simp[hb,UG,kX],by simp[UJ,nD,KJ]⟩))
  ·rintro b s' ⟨done,left,bs,e,hl,hb,rfl⟩
   cases hl
   rw[oD] at e
   subst e
   show aN _ _ (retInt (AA b.toList)) _ _ _
   rw[hb]
   refine wpAny_ret_mkInt ?_
   show aN _ _ (if (decide (-(2:Int) ^ 63≤AA (kX w ks))&&decide (AA (kX w ks)<2 ^ 63))=true then _ else _) Q E _
   simp only[dB,pR] at h
   unfold reduceHash at h
   by_cases hr:(decide (-(2:Int) ^ 63≤AA (kX w ks))&&decide (AA (kX w ks)<2 ^ 63))=true
   ·rw[if_pos hr]
    rw[if_pos hr] at h
    exact aR (by simpa [KJ] using h)
   ·rw[if_neg hr]
    rw[if_neg hr] at h
    exact aI (wpAny_rule (aR (by simpa [KJ] using h)))
 | .none,A,E,s,v,as,Q,hu,hk,r,h=>by simp[bD] at hk
 | .bool _,A,E,s,v,as,Q,hu,hk,r,h=>by simp[bD] at hk
 | .list _,A,E,s,v,as,Q,hu,hk,r,h=>by simp[bD] at hk
 | .dict _,A,E,s,v,as,Q,hu,hk,r,h=>by simp[bD] at hk
theorem TQ : ∀ (ks:List aA) {d:aA},d∈ks -> ∀ {A:cF} {E:aE->aG->Prop} {s:aG} {v:aE} {as:List aD} {Q:Int->aG->Prop},A.units+dI ks<cLine->cC ks=true->lD s.heap v d as ->
  Q (dB w d) { s with toks:=s.toks+pR d }->aN (aT prog w) A (pyHash v) Q E s
 | [],_,hm,_,_,_,_,_,_,_,_,_,_=>by simp at hm
 | k::ks,d,hm,A,E,s,v,as,Q,hu,hk,r,h=>by
  have hk':bD k=true/\cC ks=true:=by simpa [cC] using hk
  have hdep:A.units+max k.depth (dI ks)<cLine:=by simpa [dI] using hu
  by_cases e:d=k
  ·exact TU k (by omega) hk'.1 (e ▸ r) (by rw[← e]; exact h)
  ·have hm':d∈ks:=by
    rcases cQ.mp hm with q | q
    ·exact absurd q e
    ·exact q
   exact TQ ks hm' (by omega) hk'.2 r h
end
end
section
variable {prog:bQ}{w:bB}
mutual
theorem CA : ∀ (d:aA) (n:Nat) {A:cF} {E:aE->aG->Prop} {s:aG} {v:aE} {as:List aD} {Q:Bool->aG->Prop},d.depth≤n->bD d=true->lD s.heap v d as ->
  Q true s->aN (aT prog w) A (eqIsQuiet n v) Q E s
 | .int i,n,A,E,s,v,as,Q,hu,hk,r,h=>by
  cases r with
  | int _ t=>
   rw[eqIsQuiet_byValue n (by rfl)]
   exact aR h
 | .str x,n,A,E,s,v,as,Q,hu,hk,r,h=>by
  cases r with
  | str _ t=>
   rw[eqIsQuiet_byValue n (by rfl)]
   exact aR h
 | .tuple ks,n,A,E,s,v,as,Q,hu,hk,r,h=>by
  obtain⟨a,o,items,m,rfl,ho,hc,hd,hi⟩:=qC r
  have hT:s.TypeIs (.ref a) "tuple":=⟨o,ho,hc⟩
  have hdep:dI ks+1≤n:=by simpa [fV] using hu
  obtain⟨n,rfl⟩ : ∃ m,n=m+1:=⟨n - 1,by omega⟩
  have hk':cC ks=true:=by simpa [bD] using hk
  unfold eqIsQuiet
  refine aI (vJ hT F.slot_tuple_eq.lookup ?_)
  refine aI (zF hT isSubtype_tuple_tuple ?_)
  simp only[AC,iL,if_false]
  refine aI (zE ho hd ?_)
  refine aI ?_
  rw[← LJ]
  refine DY _ (fun rest r s'=>r.1=none/\s'=s /\ ∃ ds bs,mZ s.heap rest ds bs /\ ∀ d∈ds,d∈ks) _ ?_ ?_ _ _ ⟨rfl,rfl,ks,as,hi,fun _ h=>h⟩
  ·rintro v rest r s' ⟨hr,rfl,ds,bs,hl,hall⟩
   cases hl with
   | @cons _ _ d ds as1 bs1 h1 hl'=>
    refine aI (SK ks (hall d bR) n (by omega) hk' h1 ?_)
    simp only[AC,iL,if_false]
    exact aR ⟨rfl,rfl,ds,bs1,hl',fun u hu'=>hall u (bZ _ hu')⟩
  ·rintro⟨r1,r2⟩ s' ⟨hr,rfl,_⟩
   simp only at hr
   subst hr
   exact aR h
 | .none,n,A,E,s,v,as,Q,hu,hk,r,h=>by simp[bD] at hk
 | .bool _,n,A,E,s,v,as,Q,hu,hk,r,h=>by simp[bD] at hk
 | .list _,n,A,E,s,v,as,Q,hu,hk,r,h=>by simp[bD] at hk
 | .dict _,n,A,E,s,v,as,Q,hu,hk,r,h=>by simp[bD] at hk
theorem SK : ∀ (ks:List aA) {d:aA},d∈ks -> ∀ (n:Nat) {A:cF} {E:aE->aG->Prop} {s:aG} {v:aE} {as:List aD} {Q:Bool->aG->Prop},dI ks≤n->cC ks=true->lD s.heap v d as ->
  Q true s->aN (aT prog w) A (eqIsQuiet n v) Q E s
 | [],_,hm,_,_,_,_,_,_,_,_,_,_,_=>by simp at hm
 | k::ks,d,hm,n,A,E,s,v,as,Q,hu,hk,r,h=>by
  have hk':bD k=true/\cC ks=true:=by simpa [cC] using hk
  have hdep:max k.depth (dI ks)≤n:=by simpa [dI] using hu
  by_cases e:d=k
  ·exact CA k n (by omega) hk'.1 (e ▸ r) h
  ·have hm':d∈ks:=by
    rcases cQ.mp hm with q | q
    ·exact absurd q e
    ·exact q
   exact SK ks hm' n (by omega) hk'.2 r h
end
mutual
theorem SX {h h':aW}(kp : ∀ b o vs n,h.get? b=some o->o.cls = .type "tuple" -> o.data = .seq vs n->h'.get? b=some o) : ∀ (d:aA) {v:aE} {as:List aD},bD d=true->lD h v d as->lD h' v d as
 | .int i,v,as,hk,r=>by
  cases r with
  | int _ t=>exact .int i t
 | .str x,v,as,hk,r=>by
  cases r with
  | str _ t=>exact .str x t
 | .tuple ks,v,as,hk,r=>by
  obtain⟨a,o,items,m,rfl,ho,hc,hd,hi⟩:=qC r
  exact .tuple (kp _ _ _ _ ho hc hd) hc hd (UN kp ks (by simpa [bD] using hk) hi)
 | .none,v,as,hk,r=>by simp[bD] at hk
 | .bool _,v,as,hk,r=>by simp[bD] at hk
 | .list _,v,as,hk,r=>by simp[bD] at hk
 | .dict _,v,as,hk,r=>by simp[bD] at hk
theorem UN {h h':aW}(kp : ∀ b o vs n,h.get? b=some o->o.cls = .type "tuple" -> o.data = .seq vs n->h'.get? b=some o) : ∀ (ds:List aA) {vs:List aE} {as:List aD},cC ds=true->mZ h vs ds as->mZ h' vs ds as
 | [],vs,as,hk,r=>by
  cases r with
  | nil=>exact .nil
 | d::ds,vs,as,hk,r=>by
  have hk':bD d=true/\cC ds=true:=by simpa [cC] using hk
  cases r with
  | cons r1 r2=>exact .cons (SX kp d hk'.1 r1) (UN kp ds hk'.2 r2)
end
def Adq (h:aW)(ks:List aA)(a:aD):Prop:=cC ks=true/\dI ks≤6 /\ ∃ as,lD h (.ref a) (.tuple ks) as
theorem Adq.keep {h h':aW}{ks:List aA}{a:aD}(kp : ∀ b o vs n,h.get? b=some o->o.cls = .type "tuple" -> o.data = .seq vs n->h'.get? b=some o)(k:Adq h ks a):Adq h' ks a:=
 ⟨k.1,k.2.1,k.2.2.choose,SX kp (.tuple ks) (by simpa [bD] using k.1) k.2.2.choose_spec⟩
noncomputable def qA (prog:bQ)(w:bB):HeapKind prog w (List aA) where
 is:=Adq
 hash:=fun ks=>dB w (.tuple ks)
 draws:=fun ks=>pR (.tuple ks)
 room:=fun A=>A.units+20<cLine
 inj:=fun {h a x y} hx hy=>by
  obtain⟨k1,_,as,r1⟩:=hx
  obtain⟨k2,_,bs,r2⟩:=hy
  exact YQ (reads_det (fun _ _ e _=>e) r2 r1).1
 keeps:=fun {h h' k a d o es ep} x ho hd hs=>x.keep fun b ob vs n hb _ hd'=>by
  have hne:b≠d:=by
   rintro rfl
   rw[ho] at hb
   cases hb
   rw[hd] at hd'
   cases hd'
  exact(hs.2 b hne).trans hb
 pyHash:=fun {A E s k a Q} hu hk h=>by
  obtain⟨k1,k2,as,r⟩:=hk
  exact TU (.tuple k) (by simp only[fV]; omega) (by simpa [bD] using k1) r h
 eqBool:=fun {A E s x y a b Q} hu hx hy h=>by
  obtain⟨k1,d1,as,r1⟩:=hx
  obtain⟨k2,d2,bs,r2⟩:=hy
  have e:=NQ (.tuple x) (.tuple y) (by simpa [bD] using k1) (by simpa [bD] using k2)
  have e2:decide ((fU x) = .tuple y)=decide (x=y):=by
   by_cases q:x=y
   ·subst q; simp
   ·rw[decide_eq_false q,decide_eq_false (fun z=>q (YQ z))]
  have:=SeqAt.eqAt_reads (.tuple x) (.tuple y) A s (.ref a) (.ref b) as bs r1 r2 (GX _ (by simpa [bD] using k1)) (GX _ (by simpa [bD] using k2)) (by simp only[fV]; omega)
  rw[e,e2] at this
  exact this prog w E Q h
 quiet:=fun {A E s k a Q} hk h=>by
  obtain⟨k1,k2,as,r⟩:=hk
  exact CA (.tuple k) 8 (by simp only[fV]; omega) (by simpa [bD] using k1) r h
end
abbrev aO:=Sum Int aB
noncomputable def tL:aO->aE->Bool
 | .inl k,v=>Value.isInt k v
 | .inr x,v=>Value.isStrOf x v
noncomputable def Aq (w:bB):aO->Int
 | .inl k=>hashInt k
 | .inr x=>hashStr w x
theorem nM : ∀ {k:aO} {v:aE},tL k v=true->(∃ i t,k=vY i/\v=Value.int i t) \/ (∃ x t,k=jG x/\v=Value.str x t)
 | .inl i,v,h=>by
  obtain⟨t,e⟩:=Value.isInt_shape (k:=i) (v:=v) h
  exact .inl ⟨i,t,rfl,e⟩
 | .inr x,v,h=>by
  obtain⟨t,e⟩:=Value.isStrOf_shape (x:=x) (v:=v) h
  exact .inr ⟨x,t,rfl,e⟩
theorem Kg (i:Int)(t:Tok):tL (.inl i) (.int i t)=true:=by simp[tL,Value.isInt]
theorem Vu (x:aB)(t:Tok):tL (.inr x) (.str x t)=true:=by simp[tL,Value.isStrOf]
theorem Dx (a b:Int):decide ((vY a:aO)=vY b)=(a == b):=by
 by_cases e:a=b
 ·subst e; simp
 ·have h : ¬ (vY a:aO)=vY b:=fun q=>e (Sum.inl.inj q)
  rw[decide_eq_false h]
  exact(beq_eq_false_iff_ne.mpr e).symm
theorem Fp (a b:aB):decide ((jG a:aO)=jG b)=decide (a=b):=by
 by_cases e:a=b
 ·subst e; simp
 ·have h : ¬ (jG a:aO)=jG b:=fun q=>e (Sum.inr.inj q)
  rw[decide_eq_false h,decide_eq_false e]
theorem Eb (a:Int)(b:aB):decide ((vY a:aO)=jG b)=false:=decide_eq_false (fun q=>nomatch q)
theorem Em (a:aB)(b:Int):decide ((jG a:aO)=vY b)=false:=decide_eq_false (fun q=>nomatch q)
noncomputable def iO (prog:bQ)(w:bB):PySem.KeyKind prog w aO where
 is:=tL
 hash:=Aq w
 inj:=fun v a b ha hb=>by
  rcases nM ha with⟨i,t,rfl,rfl⟩ | ⟨x,t,rfl,rfl⟩
  ·rcases nM hb with⟨j,u,rfl,e⟩ | ⟨y,u,rfl,e⟩
   ·injection e with e1 _; rw[e1]
   ·exact nomatch e
  ·rcases nM hb with⟨j,u,rfl,e⟩ | ⟨y,u,rfl,e⟩
   ·exact nomatch e
   ·injection e with e1 _; rw[e1]
 byValue:=fun k v h=>by
  rcases nM h with⟨i,t,rfl,rfl⟩ | ⟨x,t,rfl,rfl⟩ <;> rfl
 pyHash:=fun hv h=>by
  rcases nM hv with⟨i,t,rfl,rfl⟩ | ⟨x,t,rfl,rfl⟩
  ·exact wpAny_pyHash_int h
  ·exact wpAny_pyHash_str h
 eqBool:=fun hu hv h=>by
  rcases nM hu with⟨i,t,rfl,rfl⟩ | ⟨x,t,rfl,rfl⟩
  ·rcases nM hv with⟨j,u,rfl,rfl⟩ | ⟨y,u,rfl,rfl⟩
   ·rw[Dx] at h; exact wpAny_eqBool_int h
   ·rw[Eb] at h; exact SeqAt.EqAt.int_str i t y u _ _ _ _ h
  ·rcases nM hv with⟨j,u,rfl,rfl⟩ | ⟨y,u,rfl,rfl⟩
   ·rw[Em] at h; exact SeqAt.EqAt.str_int x t j u _ _ _ _ h
   ·rw[Fp] at h; exact wpAny_eqBool_str h
 «strs»:=fun k x t v h=>by
  rcases nM h with⟨i,u,rfl,e⟩ | ⟨y,u,rfl,e⟩
  ·exact nomatch e
  ·injection e with e1 _
   subst e1
   cases v <;> rfl
theorem IK (prog:bQ)(w:bB)(i:Int)(t:Tok):(iO prog w).is (.inl i) (.int i t)=true:=Kg i t
theorem IQ (prog:bQ)(w:bB)(x:aB)(t:Tok):(iO prog w).is (.inr x) (.str x t)=true:=Vu x t
inductive V where
 | non | bl (b:Bool) | int (i:Int) | str (x:aB) | byt (b:Array UInt8) | flt (b:UInt64) | ref (a:aD) | ty (n:String)
 deriving DecidableEq
def RelV:V->aE->Prop
 | .non,u=>u=fT
 | .bl b,u=>u=Value.bool b
 | .int i,u=>∃ t,u=Value.int i t
 | .str x,u=>∃ t,u=Value.str x t
 | .byt b,u=>∃ t,u=Value.bytes b t
 | .flt b,u=>∃ t,u=Value.float b t
 | .ref a,u=>u=fR a
 | .ty n,u=>u=hE n
abbrev Vals:List V->List aE->Prop:=eP RelV
theorem Vals.length {xs:List V}{us:List aE}(r:Vals xs us):xs.length=us.length:=pI r
theorem Vals.get : ∀ {xs:List V} {us:List aE} {i:Nat} {x:V},Vals xs us->xs[i]?=some x -> ∃ u,us[i]?=some u/\RelV x u
 | _,_,_,_,.nil,e=>by simp at e
 | _,_,0,_,.cons r _,e=>by simp at e; subst e; exact⟨_,rfl,r⟩
 | _,_,i+1,x,.cons _ t,e=>by
  obtain⟨u,h1,h2⟩:=Vals.get (i:=i) (x:=x) t (by simpa using e)
  exact⟨u,by simpa using h1,h2⟩
theorem Vals.set {x:V}{u:aE}(r:RelV x u) : ∀ {xs:List V} {us:List aE} (i:Nat),Vals xs us->Vals (xs.set i x) (us.set i u)
 | _,_,_,.nil=>.nil
 | _,_,0,.cons _ t=>.cons r t
 | _,_,i+1,.cons q t=>.cons q (Vals.set r i t)
theorem Vals.append : ∀ {xs ys:List V} {us ws:List aE},Vals xs us->Vals ys ws->Vals (xs++ys) (us++ws)
 | _,_,_,_,.nil,s=>s
 | _,_,_,_,.cons r t,s=>.cons r (Vals.append t s)
theorem Vals.take : ∀ {xs:List V} {us:List aE} (n:Nat),Vals xs us->Vals (xs.take n) (us.take n)
 | _,_,0,_=>.nil
 | _,_,_+1,.nil=>.nil
 | _,_,n+1,.cons r t=>.cons r (Vals.take n t)
theorem Vals.drop : ∀ {xs:List V} {us:List aE} (n:Nat),Vals xs us->Vals (xs.drop n) (us.drop n)
 | _,_,0,r=>r
 | _,_,_+1,.nil=>.nil
 | _,_,n+1,.cons _ t=>Vals.drop n t
def A0y:Option V->Option aE->Prop
 | some v,some u=>RelV v u
 | none,none=>True
 | _,_=>False
def KV {κ:Type}:List (κ×V)->List (κ×aE)->Prop:=eP fun(p:κ×V) (q:κ×aE)=>p.1=q.1/\RelV p.2 q.2
noncomputable def kV:aO->V
 | .inl i=>.int i
 | .inr x=>.str x
inductive HO where
 | lst (xs:List V)
 | tup (xs:List V)
 | dK (ep:Nat) (kvs:List (aO×V)) | dT (ep:Nat) (kvs:List (List aA×V))
 | set (S:Int->Bool) (n:Nat)
 | ins (C dx:aD) (fs:List (aB×V))
 | own (x:aD)
 | xd (fs:List (aB×V))
 | met (f x:aD)
 | rng (lo hi:Int)
 | frz (o:aY) (u:HO)
 | tbl (ps:Array aE)
 | ext (φ:aW->Prop)
abbrev Hp:=aD->Option HO
noncomputable def upd (H:Hp)(a:aD)(o:HO):Hp:=fun b=>if b=a then some o else H b
theorem jR {H:Hp}{a:aD}{o:HO}:upd H a o a=some o:=by unfold upd; rw[if_pos rfl]
theorem fJ {H:Hp}{a b:aD}{o:HO}(h:b≠a):upd H a o b=H b:=by unfold upd; rw[if_neg h]
theorem Bp {H:Hp}{a b:aD}{o u:HO}(h:H a=some o)(h':H b=some u)(d:o≠u):a≠b:=by
 intro e; subst e; rw[h] at h'; exact d (iJ h')
theorem mU {H:Hp}{a b:aD}{o:HO}(h:H a=some o)(h':H b=none):a≠b:=by
 intro e; subst e; rw[h] at h'; cases h'
mutual
def Als (H:Hp):aA->V->Prop
 | .int i,v=>v = .int i
 | .str x,v=>v = .str x
 | .tuple ds,v=>∃ a xs,v = .ref a/\H a=some (.tup xs)/\Aik H ds xs
 | _,_=>False
def Aik (H:Hp):List aA->List V->Prop
 | [],vs=>vs=[]
 | d::r,vs=>∃ x rr,vs=x::rr/\Als H d x/\Aik H r rr
end
mutual
theorem Als.keep {H H':Hp}(ht : ∀ b xs,H b=some (.tup xs)->H' b=some (.tup xs)) : ∀ {d:aA} {v:V},Als H d v->Als H' d v
 | .int _,_,k=>by simpa [Als] using k
 | .str _,_,k=>by simpa [Als] using k
 | .tuple ds,_,k=>by
  simp only[Als] at k ⊢
  obtain⟨a,xs,e,h,ks⟩:=k
  exact⟨a,xs,e,ht _ _ h,Aik.keep ht ks⟩
 | .none,_,k=>by simp[Als] at k
 | .bool _,_,k=>by simp[Als] at k
 | .list _,_,k=>by simp[Als] at k
 | .dict _,_,k=>by simp[Als] at k
theorem Aik.keep {H H':Hp}(ht : ∀ b xs,H b=some (.tup xs)->H' b=some (.tup xs)) : ∀ {ds:List aA} {vs:List V},Aik H ds vs->Aik H' ds vs
 | [],_,k=>by simpa [Aik] using k
 | d::ds,_,k=>by
  simp only[Aik] at k ⊢
  obtain⟨x,r,e,k1,k2⟩:=k
  exact⟨x,r,e,Als.keep ht k1,Aik.keep ht k2⟩
end
def Ay6 (H:Hp)(ks:List aA)(a:aD):Prop:=cC ks=true/\dI ks≤6 /\ ∃ xs,H a=some (.tup xs)/\Aik H ks xs
theorem Ay6.keep {H H':Hp}{ks:List aA}{a:aD}(k:Ay6 H ks a)(ht : ∀ b xs,H b=some (.tup xs)->H' b=some (.tup xs)):Ay6 H' ks a:=
 ⟨k.1,k.2.1,k.2.2.choose,ht _ _ k.2.2.choose_spec.1,k.2.2.choose_spec.2.keep ht⟩
def A9s (h:aW)(a:aD)(its:Array aE):Prop:=IsTup h a its /\ ∃ o,h.get? a=some o/\o.dict=none
theorem A9s.new (h:aW)(its:Array aE):A9s (h.push { cls:=.type "tuple",data:=.seq its }) h.objs.size its:=⟨IsTup.new _ _,_,eL _ rfl,rfl⟩
section
variable (P:bQ)(w:bB)
def Acv (H:Hp)(h:aW)(a:aD):HO->Prop
 | .lst xs=>xs.length≤sizeLine /\ ∃ (its:List aE) (n:Nat),Vals xs its/\h.get? a=some { cls:=.type "list",data:=.seq its.toArray n }
 | .tup xs=>xs.length≤sizeLine /\ ∃ its:List aE,Vals xs its/\A9s h a its.toArray
 | .dK ep kvs=>kvs.length≤sizeLine/\(a == jS)=false /\ ∃ vs,KV kvs vs/\h.DictAt (iO P w) a vs ep
 | .dT ep kvs=>kvs.length≤sizeLine/\(a == jS)=false /\ ∃ xs:List (List aA×aD×aE),
   eP (fun(p:List aA×V) (q:List aA×aD×aE)=>p.1=q.1/\Ay6 H p.1 q.2.1/\RelV p.2 q.2.2) kvs xs /\
   ∃ o es,h.get? a=some o/\o.ExactDict/\o.data = .dict es ep/\es.toList=xs.map (entryOfKey (qA P w))/\(xs.map (·.1)).Nodup
 | .set S n=>h.SetOf (intKind P w) a S n
 | .ins C dx fs=>H dx=some (.own a)/\fs.length≤1000/\dx≠a/\h.get? a=some (YF C dx) /\
   ∃ mA,h.Ns1 dx mA/\(∀ f,A0y (fs.lookup f) (mA f))/\PySem.Within mA (fs.map (·.1))
 | .own _=>∃ o,h.get? a=some o
 | .xd fs=>∃ mA,h.Ns1 a mA /\ ∀ f,A0y (fs.lookup f) (mA f)
 | .rng lo hi=>∃ t u v,h.get? a=some { cls:=.type "range",data:=.fields #[.int lo t,.int hi u,.int 1 v] }
 | .frz o u=>h.get? a=some o/\Acv H h a u
 | .tbl ps=>h.get? a=some { cls:=.none,data:=.fields ps }
 | .met f x=>h.get? a=some (YA (.ref f) (.ref x))
 | .ext φ=>φ h/\(∃ o,h.get? a=some o) /\ ∀ h1 h2:aW,φ h1->(∀ o,h1.get? a=some o->h2.get? a=some o)->φ h2
def HOk (H:Hp)(h:aW):Prop:=∀ a o,H a=some o->Acv P w H h a o
end
section
variable {P:bQ}{w:bB}{H H':Hp}{h h':aW}{a:aD}{o:HO}
theorem Acv.lt (x:Acv P w H h a o):a<h.objs.size:=by
 cases o with
 | lst xs=>obtain⟨_,_,_,_,e⟩:=x; exact cI e
 | tup xs=>obtain⟨_,_,_,p⟩:=x; exact p.1.lt
 | dK ep kvs=>obtain⟨_,_,_,_,o,_,e,_⟩:=x; exact cI e
 | dT ep kvs=>obtain⟨_,_,_,_,o,_,e,_⟩:=x; exact cI e
 | set S n=>obtain⟨o,_,_,_,e,_⟩:=x; exact cI e
 | ins C dx fs=>obtain⟨_,_,_,e,_⟩:=x; exact cI e
 | own y=>obtain⟨_,e⟩:=x; exact cI e
 | xd fs=>obtain⟨_,⟨_,_,_,e,_⟩,_⟩:=x; exact cI e
 | rng lo hi=>obtain⟨_,_,_,e⟩:=x; exact cI e
 | frz ob u=>obtain⟨e,_⟩:=x; exact cI e
 | tbl ps=>exact cI (show h.get? a=some _ from x)
 | met f y=>exact cI (show h.get? a=some _ from x)
 | ext φ=>obtain⟨_,⟨_,e⟩,_⟩:=x; exact cI e
theorem Paired.mapP {α β:Type}{F G:α->β->Prop} : ∀ {l₁:List α} {l₂:List β},eP F l₁ l₂->(∀ a b,F a b->G a b)->eP G l₁ l₂:=by
 intro l₁ l₂ h
 induction h with
 | nil=>exact fun _=>.nil
 | cons r _ ih=>exact fun f=>.cons (f _ _ r) (ih f)
theorem Acv.stay (x:Acv P w H h a o)(k : ∀ b u,(b=a \/ H b=some (.own a))->h.get? b=some u->h'.get? b=some u)
  (ho : ∀ b,H b=some (.own a)->H' b=some (.own a)) (ht : ∀ b xs,H b=some (.tup xs)->H' b=some (.tup xs)):Acv P w H' h' a o:=by
 induction o with
 | lst xs=>obtain⟨z,its,n,r,e⟩:=x; exact⟨z,its,n,r,k _ _ (.inl rfl) e⟩
 | tup xs=>obtain⟨z,its,r,⟨ob,e,c⟩,ob2,e2,c2⟩:=x; exact⟨z,its,r,⟨ob,k _ _ (.inl rfl) e,c⟩,ob2,k _ _ (.inl rfl) e2,c2⟩
 | dK ep kvs=>obtain⟨z,y,vs,r,ob,es,e,c⟩:=x; exact⟨z,y,vs,r,ob,es,k _ _ (.inl rfl) e,c⟩
 | dT ep kvs=>
  obtain⟨z,y,xs,r,ob,es,e,c⟩:=x
  exact⟨z,y,xs,Paired.mapP r fun p q z=>⟨z.1,z.2.1.keep ht,z.2.2⟩,ob,es,k _ _ (.inl rfl) e,c⟩
 | set S n=>obtain⟨ob,es,ep,t,e,c⟩:=x; exact⟨ob,es,ep,t,k _ _ (.inl rfl) e,c⟩
 | ins C dx fs=>
  obtain⟨d,z,ne,e,mA,⟨od,es,ep,e2,c⟩,r⟩:=x
  exact⟨ho _ d,z,ne,k _ _ (.inl rfl) e,mA,⟨od,es,ep,k _ _ (.inr d) e2,c⟩,r⟩
 | own y=>obtain⟨ob,e⟩:=x; exact⟨ob,k _ _ (.inl rfl) e⟩
 | xd fs=>obtain⟨mA,⟨od,es,ep,e,c⟩,r⟩:=x; exact⟨mA,⟨od,es,ep,k _ _ (.inl rfl) e,c⟩,r⟩
 | rng lo hi=>obtain⟨t,u,v,e⟩:=x; exact⟨t,u,v,k _ _ (.inl rfl) e⟩
 | frz ob u ih=>obtain⟨e,q⟩:=x; exact⟨k _ _ (.inl rfl) e,ih q⟩
 | tbl ps=>
  have e:h.get? a=some { cls:=.none,data:=.fields ps }:=x
  show h'.get? a=some { cls:=.none,data:=.fields ps }
  exact k a _ (.inl rfl) e
 | met f y=>
  have e:h.get? a=some (YA (.ref f) (.ref y)):=x
  show h'.get? a=some (YA (.ref f) (.ref y))
  exact k a _ (.inl rfl) e
 | ext φ=>obtain⟨p,⟨o,e⟩,st⟩:=x; exact⟨st _ _ p fun o q=>k _ _ (.inl rfl) q,⟨o,k _ _ (.inl rfl) e⟩,st⟩
theorem HOk.lt (x:HOk P w H h)(e:H a=some o):a<h.objs.size:=(x a o e).lt
theorem HOk.fresh (x:HOk P w H h)(e:h.objs.size≤a):H a=none:=by
 cases q:H a with
 | none=>rfl
 | some u=>exact absurd (hU (x.lt q) e) (lZ _)
theorem HOk.kept (x:HOk P w H h)(k : ∀ b u,h.get? b=some u->h'.get? b=some u):HOk P w H h':=fun a o e=>
 (x a o e).stay (fun b u _ q=>k b u q) (fun _ q=>q) fun _ _ q=>q
theorem HOk.laid (x:HOk P w H h)(k : ∀ b u,h.get? b=some u->h'.get? b=some u)(hp:h.objs.size≤a)(new:Acv P w (upd H a o) h' a o):HOk P w (upd H a o) h':=fun b u e=>by
 have hn:=x.fresh hp
 by_cases hb:b=a
 ·subst hb; rw[jR] at e; cases e; exact new
 ·rw[fJ hb] at e
  exact(x b u e).stay (fun c v _ q=>k c v q) (fun c q=>by rw[fJ (mU q hn)]; exact q) fun c xs q=>by rw[fJ (mU q hn)]; exact q
end
def Rd (H:Hp)(a:aD)(u:HO):Prop:=H a=some u \/ ∃ o,H a=some (.frz o u)
theorem Rd.ok {P:bQ}{w:bB}{H:Hp}{h:aW}{a:aD}{u:HO}(r:Rd H a u)(x:HOk P w H h):Acv P w H h a u:=by
 rcases r with r | ⟨o,r⟩
 ·exact x a u r
 ·obtain⟨_,q⟩:=x a _ r
  exact q
def wL:Option HO->Prop
 | some (.lst _)=>True
 | some (.dK _ _)=>True
 | some (.dT _ _)=>True
 | some (.set _ _)=>True
 | some (.ins _ _ _)=>True
 | some (.ext _)=>True
 | _=>False
section
variable {P:bQ}{w:bB}{H:Hp}{h h':aW}{x e:aD}{o':HO}
theorem HOk.write (ok:HOk P w H h)(mu:wL (H x))(he:e=x \/ H e=some (.own x))(k : ∀ b u,b≠e->h.get? b=some u->h'.get? b=some u)(heo : ∃ u,h'.get? e=some u)
  (new:Acv P w (upd H x o') h' x o'):HOk P w (upd H x o') h':=fun b u q=>by
 have nown : ∀ c y,H c=some (.own y)->c≠x:=fun c y r z=>by subst z; rw[r] at mu; exact mu
 have ntup : ∀ c xs,H c=some (.tup xs)->c≠x:=fun c xs r z=>by subst z; rw[r] at mu; exact mu
 by_cases hb:b=x
 ·subst hb; rw[jR] at q; cases q; exact new
 ·rw[fJ hb] at q
  by_cases hbe:b=e
  ·have q':H b=some (.own x):=by
    rcases he with z | z
    ·exact absurd (hbe.trans z) hb
    ·rw[hbe]; exact z
   rw[q] at q'; cases q'
   obtain⟨v,hv⟩:=heo
   exact⟨v,by rw[hbe]; exact hv⟩
  ·refine(ok b u q).stay (fun c v hc r=>k c v ?_ r) (fun c r=>by rw[fJ (nown c b r)]; exact r) fun c xs r=>by rw[fJ (ntup c xs r)]; exact r
   rcases hc with rfl | hc
   ·exact hbe
   ·rintro rfl
    rcases he with z | z
    ·exact nown c b hc z
    ·rw[hc] at z; cases z; exact hb rfl
end
structure Un (fs ex:List aD)(H H':Hp)(h h':aW):Prop where
 keep : ∀ b o,h.get? b=some o->H b=none->b∉fs->b∉ex->h'.get? b=some o
 slot : ∀ b o,h.get? b=some o->H b=none->b∈fs->b∉ex -> ∃ sl,h'.get? b=some { o with slots:=sl }
 free : ∀ b o,h.get? b=some o->H b=none->b∉ex->H' b=none
 there : ∀ b o,h.get? b=some o->b∉ex -> ∃ o',h'.get? b=some o'
 tups : ∀ b xs,H b=some (.tup xs)->H' b=some (.tup xs)
 frzs : ∀ b o u,H b=some (.frz o u)->H' b=some (.frz o u)
 tbls : ∀ b ps,H b=some (.tbl ps) -> ∃ more,H' b=some (.tbl (ps++more))
section
variable {fs fs' ex ex':List aD}{H H1 H2:Hp}{h h1 h2 h':aW}{a x e:aD}{o:HO}
theorem Un.any (u:Un fs ex H H1 h h1){b:aD}{ob:aY}(q:h.get? b=some ob)(n:H b=none)(hx:b∉ex) : ∃ sl,h1.get? b=some { ob with slots:=sl }:=by
 by_cases hb:b∈fs
 ·exact u.slot b ob q n hb hx
 ·exact⟨ob.slots,u.keep b ob q n hb hx⟩
theorem Un.kept (k : ∀ b u,h.get? b=some u->h'.get? b=some u):Un fs ex H H h h':=
 ⟨fun b ob q _ _ _=>k b ob q,fun b ob q _ _ _=>⟨ob.slots,k b ob q⟩,fun _ _ _ n _=>n,fun b ob q _=>⟨ob,k b ob q⟩,fun _ _ q=>q,fun _ _ _ q=>q,fun _ ps q=>⟨#[],by rw[q]; simp⟩⟩
theorem Un.refl:Un fs ex H H h h:=Un.kept fun _ _ q=>q
theorem Un.laid (k : ∀ b u,h.get? b=some u->h'.get? b=some u)(hp:h.objs.size≤a)(hn:H a=none):Un fs ex H (upd H a o) h h' where
 keep:=fun b u q _ _ _=>k b u q
 slot:=fun b u q _ _ _=>⟨u.slots,k b u q⟩
 free:=fun b u q n _=>by rw[fJ (cT (hU (cI q) hp))]; exact n
 there:=fun b u q _=>⟨u,k b u q⟩
 tups:=fun b xs q=>by rw[fJ (mU q hn)]; exact q
 frzs:=fun b u xs q=>by rw[fJ (mU q hn)]; exact q
 tbls:=fun b ps q=>⟨#[],by rw[fJ (mU q hn),q]; simp⟩
theorem Un.write (mu:wL (H x))(he:e=x \/ H e=some (.own x))(k : ∀ b u,b≠e->h.get? b=some u->h'.get? b=some u)(heo : ∃ u,h'.get? e=some u):Un fs ex H (upd H x o) h h':=by
 have hx : ∀ b,H b=none->b≠x:=fun b n z=>by subst z; rw[n] at mu; exact mu
 have hb : ∀ b,H b=none->b≠e:=fun b n z=>by
  subst z
  rcases he with r | r
  ·exact hx b n r
  ·rw[n] at r; cases r
 have hm : ∀ b u,H b=some u -> ¬ wL (some u)->b≠x:=fun b u q nm z=>by subst z; rw[q] at mu; exact nm mu
 refine⟨fun b u q n _ _=>k b u (hb b n) q,fun b u q n _ _=>⟨u.slots,k b u (hb b n) q⟩,fun b u q n _=>by rw[fJ (hx b n)]; exact n,fun b u q _=>?_,
  fun b xs q=>by rw[fJ (hm b _ q fun z=>z)]; exact q,fun b u xs q=>by rw[fJ (hm b _ q fun z=>z)]; exact q,fun b ps q=>⟨#[],by rw[fJ (hm b _ q fun z=>z),q]; simp⟩⟩
 by_cases hbe:b=e
 ·subst hbe; exact heo
 ·exact⟨u,k b u hbe q⟩
end
noncomputable def trk (h:aW)(H:Hp):List aD:=(cU h.objs.size).filter fun a=>(H a).isSome
noncomputable def pA (h:aW)(H:Hp):aW:=PySem.W.hideAll h (trk h H)
theorem Vy (h:aW)(H:Hp):(pA h H).objs.size=h.objs.size:=PySem.W.hideAll_size _ _
theorem Rz {h:aW}{H:Hp}{b:aD}{o:aY}(e:h.get? b=some o)(n:H b=none):(pA h H).get? b=some o:=
 JZ _ e fun hm=>by
  have q:(H b).isSome=true:=(ER.mp hm).2
  rw[n] at q; simp at q
theorem Hf {h:aW}{H:Hp}{b:aD}{o:aY}(e:(pA h H).get? b=some o):h.get? b=some o/\H b=none:=by
 have e':h.get? b=some o:=XZ (trk h H) e
 refine⟨e',?_⟩
 cases q:H b with
 | none=>rfl
 | some x=>
  have hm:b∈trk h H:=ER.mpr ⟨iS.mpr (cI e'),by simp[q]⟩
  have z:(pA h H).get? b=none:=PySem.W.hideAll_none (trk h H) hm
  rw[z] at e; cases e
noncomputable def Jz (g h:aW)(L:aD):List (aD×aY):=(cU h.objs.size).filterMap fun a=>if a=L \/ (g.get? a).isSome=true then none else(h.get? a).map fun o=>(a,o)
noncomputable def rest (g h:aW)(L d:aD):List (aD×aY):=(Jz g h L).filter fun p=>decide (p.1≠d)
structure Mod (K:aK)(mg:aB->Option aE)(base:aW):Prop where
 kin:K.In base
 glob:base.Ns cJ mg
 blt : ∃ mb,base.Ns builtinsNs mb /\ ∀ x:aB,x ≠ "__name__" -> mb x=lU x
 nolimit:base.NoLimit
structure Cx where
 prog:bQ
 w:bB
 K:aK
 mg:aB->Option aE
 base:aW
 A:cF
 N:List aB
 s₀:aG
 H₀:Hp
 env:eU
 outer:List eU
 stack:List eU
 ex:List aD
 fn:aB->Bool
 calm:Bool
 pn:List (aD×aY)
 xe:aE->aG->Prop
noncomputable def frs (l:List eU):List aD:=l.filterMap (·.frame)
noncomputable abbrev Cx.fs (X:Cx):List aD:=frs X.outer
def nB (sc:iI)(x:aB):Prop:=sc.names.lookup x=some .local \/ sc.names.lookup x=some .cell \/ sc.names.lookup x=some .free
def mH (sc:iI)(x:aB):Prop:=sc.names.lookup x=some .local \/ sc.names.lookup x=some .cell
def Look (env:eU)(h:aW)(m:aB->Option aE)(x:aB)(u:aE):Prop:=
 (env.kindOf x=some .local/\m x=some u) \/ ((env.kindOf x=some .cell \/ env.kindOf x=some .free) /\ ∃ c,env.cells.lookup x=some c/\h.IsCell c (some u))
structure Cx.Ok (X:Cx):Prop where
 mod:Mod X.K X.mg X.base
 kind:X.env.scope.kind = .function
 glob:X.env.globals=cJ
 blt:X.env.builtins=builtinsNs
 above:X.s₀.heap.objs.size≤X.env.locals
 inj : ∀ x y c,X.env.cells.lookup x=some c->X.env.cells.lookup y=some c->x=y
 has : ∀ x,(X.env.kindOf x=some .cell \/ X.env.kindOf x=some .free) -> ∃ c,X.env.cells.lookup x=some c
 cab : ∀ x c,X.fn x=true->X.env.cells.lookup x=some c->X.s₀.heap.objs.size≤c
 hd:X.calm=true->X.A.handled=none
 frames:X.A.frames=some X.stack
 stk:X.stack=X.outer \/ (X.stack=X.env::X.outer/\X.env.frame=some X.env.locals)
 exf : ∀ b∈X.ex,b≠X.env.locals /\ ∀ x c,X.env.cells.lookup x=some c->c≠b
 bs : ∀ b o,X.base.get? b=some o->X.s₀.heap.get? b=some o/\X.H₀ b=none
 bsz:X.base.objs.size≤X.s₀.heap.objs.size
 noex : ∀ b o,X.base.get? b=some o->b∉X.ex
 exfs : ∀ b∈X.ex,b∉X.fs
 funs:X.s₀.heap.FunFrames X.base X.outer
 frf : ∀ b∈X.fs,X.H₀ b=none
structure Inv (X:Cx)(pins:List (aD×aY))(σ:List (Option V))(H:Hp)(s:aG):Prop where
 ok:X.Ok
 os:s.os=X.s₀.os
 bare:pQ s.gens
 base:Un X.fs X.ex X.H₀ H X.s₀.heap s.heap
 loc : ∃ m,s.heap.Ns X.env.locals m /\ ∀ (i:Nat) (x:aB) (v:V),X.N[i]?=some x->σ[i]?=some (some v)->nB X.env.scope x -> ∃ u,RelV v u/\Look X.env s.heap m x u
 cell : ∀ x c,X.env.cells.lookup x=some c -> ∃ v,s.heap.IsCell c v
 free:H X.env.locals=none
 freeC : ∀ x c,X.env.cells.lookup x=some c->H c=none
 pin : ∀ p∈X.pn++pins,s.heap.get? p.1=some p.2/\H p.1=none/\p.1≠X.env.locals/\p.1∉X.fs /\ ∀ v,p.2.data ≠ .cell v
 hok:HOk X.prog X.w H s.heap
 len:σ.length=X.N.length
section
variable {X:Cx}{pins:List (aD×aY)}{σ:List (Option V)}{H H':Hp}{s:aG}{h':aW}
theorem Cx.Ok.nofr (ok:X.Ok){b:aD}{o:aY}(e:X.base.get? b=some o):b∉X.fs:=fun hb=>by
 have:=(ok.funs.mem hb).1
 rw[e] at this; cases this
theorem Inv.bs (I:Inv X pins σ H s) : ∀ b o,X.base.get? b=some o->s.heap.get? b=some o/\H b=none:=fun b o e=>
 ⟨I.base.keep b o (I.ok.bs b o e).1 (I.ok.bs b o e).2 (I.ok.nofr e) (I.ok.noex b o e),I.base.free b o (I.ok.bs b o e).1 (I.ok.bs b o e).2 (I.ok.noex b o e)⟩
theorem Inv.bk (I:Inv X pins σ H s) : ∀ b o,X.base.get? b=some o->s.heap.get? b=some o:=fun b o e=>(I.bs b o e).1
theorem Inv.mod (I:Inv X pins σ H s):Mod X.K X.mg X.base:=I.ok.mod
theorem Inv.kIn (I:Inv X pins σ H s):X.K.In s.heap:=I.ok.mod.kin.keeps I.bk
theorem Inv.lt (I:Inv X pins σ H s):X.env.locals<s.heap.objs.size:=let ⟨_,hn,_⟩:=I.loc; hn.lt
theorem Inv.sz (I:Inv X pins σ H s):X.s₀.heap.objs.size≤s.heap.objs.size:=iR I.ok.above (sQ I.lt)
theorem Inv.nofs (I:Inv X pins σ H s){a:aD}(h:s.heap.objs.size≤a):a∉X.fs:=fun hb=>by
 obtain⟨_,o,ho,_⟩:=I.ok.funs.mem hb
 exact absurd (hU (cI ho) (iR I.sz h)) (lZ _)
theorem Inv.cne (I:Inv X pins σ H s) : ∀ x c,X.env.cells.lookup x=some c->c≠X.env.locals:=fun x c e z=>by
 obtain⟨v,o,ho,hd⟩:=I.cell x c e
 obtain⟨m,⟨o',es,ep,ho',hd',_⟩,_⟩:=I.loc
 rw[z,ho'] at ho; cases ho; rw[hd'] at hd; cases hd
theorem Inv.funs (I:Inv X pins σ H s):s.heap.FunFrames X.base X.outer:=by
 have all : ∀ (l:List eU),(∀ b∈frs l,b∈X.fs)->X.s₀.heap.FunFrames X.base l->s.heap.FunFrames X.base l:=by
  intro l
  induction l with
  | nil=>intro _ _; trivial
  | cons env r ih=>
   intro hs hl
   obtain⟨hk,⟨L,o,hf,hn,ho,hd⟩,hr⟩:=hl
   have hL:L∈X.fs:=hs L (by unfold frs; rw[ZG,hf]; exact bR)
   obtain⟨sl,e⟩:=I.base.slot L o ho (I.ok.frf L hL) hL fun z=>I.ok.exfs L z hL
   exact⟨hk,⟨L,_,hf,hn,e,hd⟩,ih (fun b hb=>hs b (by unfold frs; rw[ZG,hf]; exact bZ _ hb)) hr⟩
 exact all X.outer (fun _ hb=>hb) I.ok.funs
theorem Inv.stack (I:Inv X pins σ H s):s.heap.FunFrames X.base X.stack:=by
 rcases I.ok.stk with e | ⟨e,hf⟩
 ·rw[e]; exact I.funs
 ·rw[e]
  obtain⟨m,hn,_⟩:=I.loc
  refine .cons (by rw[I.ok.kind]; decide) hf hn ?_ I.funs
  exact Heap.get?_none_of_le (iR I.ok.bsz I.ok.above)
theorem Inv.stkSub (I:Inv X pins σ H s) : ∀ b∈frs X.stack,b∈X.env.locals::X.fs:=fun b hb=>by
 rcases I.ok.stk with e | ⟨e,hf⟩
 ·rw[e] at hb; exact bZ _ hb
 ·rw[e] at hb
  unfold frs at hb
  rw[ZG,hf] at hb
  exact hb
theorem Inv.stkFree (I:Inv X pins σ H s) : ∀ b∈frs X.stack,H b=none:=fun b hb=>by
 rcases cQ.mp (I.stkSub b hb) with e | hb
 ·rw[e]; exact I.free
 ·obtain⟨_,o,ho,_⟩:=I.ok.funs.mem hb
  exact I.base.free b o ho (I.ok.frf b hb) fun z=>I.ok.exfs b z hb
theorem Inv.step {g':Array wI}{t':Nat}{d':Drawn}{ch:List aD}(I:Inv X pins σ H s)
  (hch : ∀ b∈ch,(b∈X.ex \/ X.s₀.heap.objs.size≤b)/\b≠X.env.locals/\(∀ x c,X.env.cells.lookup x=some c->c≠b) /\ ∀ p∈X.pn++pins,p.1≠b)
  (keep : ∀ b o,b≠X.env.locals->b∉X.fs->b∉ch->s.heap.get? b=some o->H b=none->h'.get? b=some o)
  (slot : ∀ b o,b≠X.env.locals->b∈X.fs->b∉ch->s.heap.get? b=some o->H b=none -> ∃ sl,h'.get? b=some { o with slots:=sl }) (free : ∀ b o,b∉ch->s.heap.get? b=some o->H b=none->H' b=none)
  (there : ∀ b o,b∉ch->s.heap.get? b=some o -> ∃ o',h'.get? b=some o')
  (tups : ∀ b xs,H b=some (.tup xs)->H' b=some (.tup xs)) (frzs : ∀ b o u,H b=some (.frz o u)->H' b=some (.frz o u)) (tbls : ∀ b ps,H b=some (.tbl ps) -> ∃ more,H' b=some (.tbl (ps++more)))
  (ns : ∀ m,s.heap.Ns X.env.locals m->h'.Ns X.env.locals m) (hok:HOk X.prog X.w H' h') (hg:pQ g') :
  Inv X pins σ H' { s with heap:=h',gens:=g',drawn:=d',toks:=t' }:=by
 have neL : ∀ b o,X.s₀.heap.get? b=some o->b≠X.env.locals:=fun b o e=>cT (hU (cI e) I.ok.above)
 have neC : ∀ b o,X.s₀.heap.get? b=some o->b∉X.ex->b∉ch:=fun b o e hx hb=>by
  rcases(hch b hb).1 with z | z
  ·exact hx z
  ·exact absurd (hU (cI e) z) (lZ _)
 have cellK : ∀ x c,X.env.cells.lookup x=some c -> ∀ v,s.heap.IsCell c v->h'.IsCell c v:=fun x c e v gh=>by
  obtain⟨o,ho,hd⟩:=gh
  have nch:c∉ch:=fun z=>(hch c z).2.2.1 x c e rfl
  by_cases hc:c∈X.fs
  ·obtain⟨sl,q⟩:=slot c o (I.cne x c e) hc nch ho (I.freeC x c e)
   exact⟨_,q,hd⟩
  ·exact⟨o,keep c o (I.cne x c e) hc nch ho (I.freeC x c e),hd⟩
 refine⟨I.ok,I.os,hg,⟨fun b o e n hb hx=>?_,fun b o e n hb hx=>?_,fun b o e n hx=>?_,fun b o e hx=>?_,fun b xs e=>tups b xs (I.base.tups b xs e),fun b o xs e=>frzs b o xs (I.base.frzs b o xs e),fun b ps e=>?_⟩,?_,fun x c e=>?_,?_,fun x c e=>?_,fun p hp=>?_,hok,I.len⟩
 ·exact keep b o (neL b o e) hb (neC b o e hx) (I.base.keep b o e n hb hx) (I.base.free b o e n hx)
 ·obtain⟨sl,e1⟩:=I.base.slot b o e n hb hx
  obtain⟨sl',e2⟩:=slot b _ (neL b o e) hb (neC b o e hx) e1 (I.base.free b o e n hx)
  exact⟨sl',e2⟩
 ·obtain⟨o',e1⟩:=I.base.there b o e hx
  exact free b o' (neC b o e hx) e1 (I.base.free b o e n hx)
 ·obtain⟨o',e1⟩:=I.base.there b o e hx
  exact there b o' (neC b o e hx) e1
 ·obtain⟨m1,e1⟩:=I.base.tbls b ps e
  obtain⟨m2,e2⟩:=tbls b _ e1
  exact⟨m1++m2,by rw[e2,Array.append_assoc]⟩
 ·obtain⟨m,hn,hl⟩:=I.loc
  refine⟨m,ns m hn,fun i x v e1 e2 e3=>?_⟩
  obtain⟨u,r,l⟩:=hl i x v e1 e2 e3
  refine⟨u,r,?_⟩
  rcases l with l | ⟨k,c,e,z⟩
  ·exact .inl l
  ·exact .inr ⟨k,c,e,cellK x c e _ z⟩
 ·obtain⟨v,z⟩:=I.cell x c e
  exact⟨v,cellK x c e v z⟩
 ·obtain⟨m,⟨o,_,_,ho,_⟩,_⟩:=I.loc
  exact free _ o (fun z=>(hch _ z).2.1 rfl) ho I.free
 ·obtain⟨v,o,ho,hd⟩:=I.cell x c e
  exact free c o (fun z=>(hch c z).2.2.1 x c e rfl) ho (I.freeC x c e)
 ·obtain⟨e,n,ne,nf,d⟩:=I.pin p hp
  have nch:p.1∉ch:=fun z=>(hch p.1 z).2.2.2 p hp rfl
  exact⟨keep p.1 p.2 ne nf nch e n,free p.1 p.2 nch e n,ne,nf,d⟩
theorem Inv.un {t':Nat}(I:Inv X pins σ H s)(u:Un X.fs [] H H' s.heap h')(hok:HOk X.prog X.w H' h'):Inv X pins σ H' { s with heap:=h',toks:=t' }:=by
 obtain⟨m,⟨o,es,ep,ho,r⟩,_⟩:=id I.loc
 obtain⟨sl,hL⟩:=u.any ho I.free (by simp)
 exact I.step (g':=s.gens) (d':=s.drawn) (ch:=[]) (fun _ z=>nomatch z) (fun b o _ hb _ e n=>u.keep b o e n hb (by simp)) (fun b o _ hb _ e n=>u.slot b o e n hb (by simp)) (fun b o _ e n=>u.free b o e n (by simp)) (fun b o _ e=>u.there b o e (by simp)) u.tups u.frzs u.tbls (fun m' hm=>by
  obtain⟨o',es',ep',ho',r'⟩:=hm
  rw[ho] at ho'; cases ho'
  exact⟨_,es',ep',hL,r'⟩) hok I.bare
theorem Inv.call {g':Array wI}{t':Nat}{d':Drawn}{ch:List aD}(I:Inv X pins σ H s)(u:Un (frs X.stack) ch H H' s.heap h')(hok:HOk X.prog X.w H' h')(hg:pQ g')
  (hch : ∀ b∈ch,(b∈X.ex \/ X.s₀.heap.objs.size≤b)/\b≠X.env.locals/\(∀ x c,X.env.cells.lookup x=some c->c≠b) /\ ∀ p∈X.pn++pins,p.1≠b) :
  Inv X pins σ H' { s with heap:=h',gens:=g',drawn:=d',toks:=t' }:=by
 obtain⟨m,⟨o,es,ep,ho,r⟩,_⟩:=id I.loc
 obtain⟨sl,hL⟩:=u.any ho I.free fun z=>(hch _ z).2.1 rfl
 exact I.step (ch:=ch) hch (fun b o hL hb hc e n=>u.keep b o e n (fun z=>(cQ.mp (I.stkSub b z)).elim hL hb) hc) (fun b o _ _ hc e n=>u.any e n hc) (fun b o hc e n=>u.free b o e n hc) (fun b o hc e=>u.there b o e hc) u.tups u.frzs u.tbls (fun m' hm=>by
  obtain⟨o',es',ep',ho',r'⟩:=hm
  rw[ho] at ho'; cases ho'
  exact⟨_,es',ep',hL,r'⟩) hok hg
theorem Inv.turned {t':Nat}{it:aD}(I:Inv X pins σ H s)(k : ∀ b o,b≠it->s.heap.get? b=some o->h'.get? b=some o)(hn:H it=none)(hL:it≠X.env.locals)
  (h1:it∈X.ex \/ X.s₀.heap.objs.size≤it) (h2 : ∀ x c,X.env.cells.lookup x=some c->c≠it) (h3 : ∀ p∈X.pn++pins,p.1≠it):Inv X pins σ H { s with heap:=h',toks:=t' }:=by
 have nit : ∀ b u,H b=some u->b≠it:=fun b u e z=>by rw[z,hn] at e; cases e
 refine I.step (g':=s.gens) (d':=s.drawn) (ch:=[it]) (fun b hb=>?_) (fun b o _ _ hc e _=>k b o (fun z=>hc (by simp[z])) e) (fun b o _ _ hc e _=>⟨o.slots,k b o (fun z=>hc (by simp[z])) e⟩) (fun _ _ _ _ n=>n)
  (fun b o hc e=>⟨o,k b o (fun z=>hc (by simp[z])) e⟩) (fun _ _ e=>e) (fun _ _ _ e=>e) (fun b ps e=>⟨#[],by rw[e]; simp⟩) (fun m hm=>?_) (fun b u e=>?_) I.bare
 ·have e:b=it:=by simpa using hb
  subst e
  exact⟨h1,hL,h2,h3⟩
 ·obtain⟨o,es,ep,ho,r⟩:=hm
  exact⟨o,es,ep,k _ o (kI hL) ho,r⟩
 ·refine(I.hok b u e).stay (fun c v hc q=>k c v ?_ q) (fun _ q=>q) fun _ _ q=>q
  rcases hc with z | z
  ·rw[z]; exact nit b u e
  ·exact nit c _ z
theorem Inv.tok (I:Inv X pins σ H s)(t:Nat):Inv X pins σ H { s with toks:=t }:=I.un (h':=s.heap) (t':=t) Un.refl I.hok
theorem Inv.kept {t':Nat}(I:Inv X pins σ H s)(k : ∀ b u,s.heap.get? b=some u->h'.get? b=some u):Inv X pins σ H { s with heap:=h',toks:=t' }:=I.un (Un.kept k) (I.hok.kept k)
theorem Inv.laid {a:aD}{o:HO}{t':Nat}(I:Inv X pins σ H s)(k : ∀ b u,s.heap.get? b=some u->h'.get? b=some u)(hp:s.heap.objs.size≤a)(new:Acv X.prog X.w (upd H a o) h' a o) :
  Inv X pins σ (upd H a o) { s with heap:=h',toks:=t' }:=I.un (Un.laid k hp (I.hok.fresh hp)) (I.hok.laid k hp new)
theorem Inv.write {x e:aD}{o:HO}{t':Nat}(I:Inv X pins σ H s)(mu:wL (H x))(he:e=x \/ H e=some (.own x))(k : ∀ b u,b≠e->s.heap.get? b=some u->h'.get? b=some u)(heo : ∃ u,h'.get? e=some u)
  (new:Acv X.prog X.w (upd H x o) h' x o):Inv X pins σ (upd H x o) { s with heap:=h',toks:=t' }:=I.un (Un.write mu he k heo) (I.hok.write mu he k heo new)
theorem Inv.pins_of {pins':List (aD×aY)}(I:Inv X pins σ H s)(h : ∀ p∈pins',s.heap.get? p.1=some p.2/\H p.1=none/\p.1≠X.env.locals/\p.1∉X.fs /\ ∀ v,p.2.data ≠ .cell v):Inv X pins' σ H s:=
 ⟨I.ok,I.os,I.bare,I.base,I.loc,I.cell,I.free,I.freeC,fun p hp=>(iK.mp hp).elim (fun z=>I.pin p (KM _ z)) (h p),I.hok,I.len⟩
theorem NR {N:List aB}(hN:N.Nodup){i j:Nat}{x:aB}(a:N[i]?=some x)(b:N[j]?=some x):i=j:=by
 obtain⟨h1,e1⟩:=fL.mp a
 obtain⟨h2,e2⟩:=fL.mp b
 exact(List.getElem_inj hN).mp (e1.trans e2.symm)
theorem RP {M:Model}{A:cF}{E:aE->aG->Prop}{i:Nat}{x:aB}{v:V}{u:aE}{Q:Unit->aG->Prop}(I:Inv X pins σ H s)(hN:X.N.Nodup)(hi:X.N[i]?=some x)(hx:mH X.env.scope x)(r:RelV v u)
  (h : ∀ s',Inv X pins (σ.set i (some v)) H s'->(∃ a,oG a s.heap s'.heap/\(a=X.env.locals \/ X.env.cells.lookup x=some a))->Q () s') (hf:X.fn x=true \/ X.env.scope.names.lookup x=some .local:=by first | exact .inl rfl | exact .inr rfl | assumption):aN M A (storeName X.env x u) Q E s:=by
 obtain⟨m,hn,hl⟩:=id I.loc
 have hcls:(X.env.scope.kind == .class||(X.env.scope.kind == .module&&X.env.locals != X.env.globals))=false:=by rw[I.ok.kind]; rfl
 have hiσ:i<σ.length:=by rw[I.len]; exact(fL.mp hi).1
 have cne:=I.cne
 have tracked : ∀ {a:aD} {h':aW},(∃ o,s.heap.get? a=some o/\H a=none)->oG a s.heap h'->HOk X.prog X.w H h':=fun {a h'} ha hs b ob e=>by
  obtain⟨_,_,hfree⟩:=ha
  refine(I.hok b ob e).stay (fun c w' hc q=>(hs.2 c ?_).trans q) (fun _ q=>q) fun _ _ q=>q
  rintro rfl
  rcases hc with rfl | hc
  ·rw[hfree] at e; cases e
  ·rw[hfree] at hc; cases hc
 rcases hx with hk | hk
 ·refine wpAny_storeName_local hk hn (fun h' hn' hs=>?_) hcls
  obtain⟨oL,_,_,hoL,_⟩:=id hn
  refine h _ ⟨I.ok,I.os,I.bare,⟨fun b o e n hb hx=>?_,fun b o e n hb hx=>?_,I.base.free,fun b o e hx=>?_,I.base.tups,I.base.frzs,I.base.tbls⟩,⟨_,hn',fun j y v' e1 e2 e3=>?_⟩,fun y c e=>?_,I.free,I.freeC,fun p hp=>?_,tracked ⟨oL,hoL,I.free⟩ hs,by simpa using I.len⟩ ⟨_,hs,.inl rfl⟩
  ·exact(hs.2 b (cT (hU (cI e) I.ok.above))).trans (I.base.keep b o e n hb hx)
  ·obtain⟨sl,e1⟩:=I.base.slot b o e n hb hx
   exact⟨sl,(hs.2 b (cT (hU (cI e) I.ok.above))).trans e1⟩
  ·obtain⟨o',e1⟩:=I.base.there b o e hx
   exact⟨o',(hs.2 b (cT (hU (cI e) I.ok.above))).trans e1⟩
  ·by_cases hj:j=i
   ·subst hj
    rw[hi] at e1; cases e1
    rw[qU hiσ] at e2
    cases e2
    exact⟨u,r,.inl ⟨hk,by simp⟩⟩
   ·rw[qV (kI hj)] at e2
    obtain⟨u',r',q⟩:=hl j y v' e1 e2 e3
    refine⟨u',r',?_⟩
    rcases q with⟨k,e⟩ | ⟨k,c,e,z⟩
    ·refine .inl ⟨k,?_⟩
     have:y≠x:=fun e=>hj (NR hN e1 (e ▸ hi))
     simp[this,e]
    ·exact .inr ⟨k,c,e,z.sameBut hs (cne y c e)⟩
  ·obtain⟨w',z⟩:=I.cell y c e
   exact⟨w',z.sameBut hs (cne y c e)⟩
  ·obtain⟨e,n,ne,nf,d⟩:=I.pin p hp
   exact⟨(hs.2 p.1 ne).trans e,n,ne,nf,d⟩
 ·have hfn:X.fn x=true:=by
   rcases hf with z | z
   ·exact z
   ·rw[z] at hk; cases hk
  obtain⟨c,hc⟩:=I.ok.has x (.inl hk)
  obtain⟨w',z⟩:=I.cell x c hc
  refine wpAny_storeName_cell I.ok.kind hk hc z (fun h' hc' hs=>?_)
  obtain⟨oc,hoc,hocd⟩:=id z
  refine h { s with heap:=h' } ⟨I.ok,I.os,I.bare,⟨fun b o e n hb hx=>?_,fun b o e n hb hx=>?_,I.base.free,fun b o e hx=>?_,I.base.tups,I.base.frzs,I.base.tbls⟩,⟨m,hn.sameBut hs (kI (cne x c hc)),fun j y v' e1 e2 e3=>?_⟩,fun y c' e=>?_,I.free,I.freeC,fun p hp=>?_,tracked ⟨oc,hoc,I.freeC x c hc⟩ hs,by simpa using I.len⟩ ⟨c,hs,.inr hc⟩
  ·exact(hs.2 b (cT (hU (cI e) (I.ok.cab x c hfn hc)))).trans (I.base.keep b o e n hb hx)
  ·obtain⟨sl,e1⟩:=I.base.slot b o e n hb hx
   exact⟨sl,(hs.2 b (cT (hU (cI e) (I.ok.cab x c hfn hc)))).trans e1⟩
  ·obtain⟨o',e1⟩:=I.base.there b o e hx
   exact⟨o',(hs.2 b (cT (hU (cI e) (I.ok.cab x c hfn hc)))).trans e1⟩
  ·by_cases hj:j=i
   ·subst hj
    rw[hi] at e1; cases e1
    rw[qU hiσ] at e2
    cases e2
    exact⟨u,r,.inr ⟨.inl hk,c,hc,hc'⟩⟩
   ·rw[qV (kI hj)] at e2
    obtain⟨u',r',q⟩:=hl j y v' e1 e2 e3
    refine⟨u',r',?_⟩
    rcases q with q | ⟨k,c',e,z'⟩
    ·exact .inl q
    ·refine .inr ⟨k,c',e,z'.sameBut hs ?_⟩
     rintro rfl
     exact hj (NR hN e1 (I.ok.inj _ _ _ e hc ▸ hi))
  ·by_cases hcc:c'=c
   ·subst hcc; exact⟨_,hc'⟩
   ·obtain⟨w2,z2⟩:=I.cell y c' e
    exact⟨w2,z2.sameBut hs hcc⟩
  ·obtain⟨e,n,ne,nf,d⟩:=I.pin p hp
   refine⟨(hs.2 p.1 ?_).trans e,n,ne,nf,d⟩
   intro q
   rw[q,hoc] at e
   have q':oc=p.2:=iJ e
   exact d w' (by rw[← q']; exact hocd)
theorem PR {M:Model}{A:cF}{E:aE->aG->Prop}{i:Nat}{x:aB}{v:V}{u:aE}{Q:Unit->aG->Prop}(I:Inv X pins σ H s)(hN:X.N.Nodup)(hi:X.N[i]?=some x)(hx:mH X.env.scope x)(r:RelV v u)
  (h : ∀ s',Inv X pins (σ.set i (some v)) H s'->Q () s') (hf:X.fn x=true \/ X.env.scope.names.lookup x=some .local:=by first | exact .inl rfl | exact .inr rfl | assumption):aN M A (storeName X.env x u) Q E s:=
 RP I hN hi hx r (fun s' I' _=>h s' I') hf
theorem Inv.call' {s':aG}{ch:List aD}(I:Inv X pins σ H s)(ho:s'.os=s.os)(u:Un (frs X.stack) ch H H' s.heap s'.heap)(hok:HOk X.prog X.w H' s'.heap)(hg:pQ s'.gens)
  (hch : ∀ b∈ch,(b∈X.ex \/ X.s₀.heap.objs.size≤b)/\b≠X.env.locals/\(∀ x c,X.env.cells.lookup x=some c->c≠b) /\ ∀ p∈X.pn++pins,p.1≠b):Inv X pins σ H' s':=by
 obtain⟨h',g',d',t',o'⟩:=s'
 have e:o'=s.os:=ho
 subst e
 exact I.call (g':=g') (t':=t') (d':=d') u hok hg hch
end
abbrev XK:=aE->Option aD->Hp->Prop
abbrev St:=List (Option V)
abbrev VK:=V->Hp->Prop
abbrev TE:=St->Hp->VK->Prop
abbrev TT:=St->Hp->(Bool->Hp->Prop)->Prop
abbrev TA:=St->Hp->(List V->Hp->Prop)->Prop
structure Ends where
 nx:St->Hp->Prop
 rt:VK
 bk:St->Hp->Prop:=fun _ _=>False
 ct:St->Hp->Prop:=fun _ _=>False
abbrev TS:=Ends->St->Hp->Prop
def EP (X:Cx)(pins:List (aD×aY))(σ:St)(Q:VK)(u:aE)(s':aG):Prop:=∃ v H',Inv X pins σ H' s'/\RelV v u/\Q v H'
def TP (X:Cx)(pins:List (aD×aY))(σ:St)(Q:Bool->Hp->Prop)(b:Bool)(s':aG):Prop:=∃ H',Inv X pins σ H' s'/\Q b H'
def AP (X:Cx)(pins:List (aD×aY))(σ:St)(Q:List V->Hp->Prop)(us:List aE)(s':aG):Prop:=∃ vs H',Inv X pins σ H' s'/\Vals vs us/\Q vs H'
def SP (X:Cx)(pins:List (aD×aY))(D:Ends)(f:Flow)(s':aG):Prop:=
 match f with
 | .next=>∃ σ' H',Inv X pins σ' H' s'/\D.nx σ' H'
 | .brk=>∃ σ' H',Inv X pins σ' H' s'/\D.bk σ' H'
 | .cont=>∃ σ' H',Inv X pins σ' H' s'/\D.ct σ' H'
 | .ret u=>∃ v σ' H',Inv X pins σ' H' s'/\RelV v u/\D.rt v H'
def PE (X:Cx)(e:aX)(t:TE):Prop:=
 ∀ (pins:List (aD×aY)) (s:aG) (σ:St) (H:Hp) (Q:VK),Inv X pins σ H s->t σ H Q->aN (aT X.prog X.w) X.A (cD e X.env) (EP X pins σ Q) X.xe s
def PT (X:Cx)(e:aX)(t:TT):Prop:=
 ∀ (pins:List (aD×aY)) (s:aG) (σ:St) (H:Hp) (Q:Bool->Hp->Prop),Inv X pins σ H s->t σ H Q->aN (aT X.prog X.w) X.A (isTrue e X.env (cD e X.env)) (TP X pins σ Q) X.xe s
def PW (X:Cx)(e:aX)(t:TT):Prop:=
 ∀ (whole:Sem aE) (pins:List (aD×aY)) (s:aG) (σ:St) (H:Hp) (Q:Bool->Hp->Prop),Inv X pins σ H s->t σ H Q->aN (aT X.prog X.w) X.A (isTrue e X.env whole) (TP X pins σ Q) X.xe s
theorem PW.pt {X:Cx}{e:aX}{t:TT}(h:PW X e t):PT X e t:=h _
def PA (X:Cx)(es:List aX)(t:TA):Prop:=
 ∀ (pos:cE) (pins:List (aD×aY)) (s:aG) (σ:St) (H:Hp) (Q:List V->Hp->Prop),Inv X pins σ H s->t σ H Q->aN (aT X.prog X.w) X.A (spliced (eX pos (bM es X.env))) (AP X pins σ Q) X.xe s
def PS (X:Cx)(st:bP)(t:TS):Prop:=
 ∀ (pins:List (aD×aY)) (s:aG) (σ:St) (H:Hp) (D:Ends),Inv X pins σ H s->t D σ H->aN (aT X.prog X.w) X.A (exec st X.env) (SP X pins D) X.xe s
def PSs (X:Cx)(st:List bP)(t:TS):Prop:=
 ∀ (pins:List (aD×aY)) (s:aG) (σ:St) (H:Hp) (D:Ends),Inv X pins σ H s->t D σ H->aN (aT X.prog X.w) X.A (execs st X.env) (SP X pins D) X.xe s
theorem thn {α:Type}{t:Sem α}{Q Q':α->aG->Prop}{M:Model}{A:cF}{E:aE->aG->Prop}{s:aG}(h:aN M A t Q E s)(hQ : ∀ a s,Q a s->Q' a s):aN M A t Q' E s:=lB h hQ fun _ _ x=>x
section
variable {X:Cx}
noncomputable abbrev Ax (i:Nat):TE:=fun σ H Q=>∃ v,σ[i]?=some (some v)/\Q v H
noncomputable abbrev tC (v:V):TE:=fun _ H Q=>Q v H
theorem rN {i:Nat}{x:aB}{pos:cE}(hN:X.N[i]?=some x)(hv:nB X.env.scope x)(hd:(x == ("__debug__" : aB))=false:=by decide)(hcd:(x == ("__classdict__" : aB))=false:=by decide):PE X (.Name x pos) (Ax i):=by
 intro pins s σ H Q I h
 obtain⟨v,e,h⟩:=h
 obtain⟨m,hn,hl⟩:=I.loc
 obtain⟨u,r,l⟩:=hl i x v hN e hv
 have fin:EP X pins σ Q u s:=⟨v,H,I,r,h⟩
 rcases l with⟨hk,hm⟩ | ⟨hk,c,hc,hcell⟩
 ·exact wpAny_Name (wpAny_loadName_local I.ok.kind hk hn hm fin) hd
 ·rcases hk with hk | hk
  ·exact wpAny_Name (wpAny_loadName_cell I.ok.kind hk hc hcell fin) hd
  ·exact wpAny_Name (wpAny_loadName_free I.ok.kind hk hc hcell fin hcd) hd
theorem Ge {i j pos}:PE X (.Constant (.int i) j pos) (tC (.int i)):=fun _ _ _ H _ I h=>wpAny_Constant_int ⟨.int i,H,I.tok _,⟨_,rfl⟩,h⟩
theorem Bl {b j pos}:PE X (.Constant (.bool b) j pos) (tC (.bl b)):=fun _ _ _ H _ I h=>Constant_bool ⟨.bl b,H,I,rfl,h⟩
theorem Ft {j pos}:PE X (.Constant .none j pos) (tC .non):=fun _ _ _ H _ I h=>Constant_none ⟨.non,H,I,rfl,h⟩
theorem UY {x j pos}:PE X (.Constant (.str x) j pos) (tC (.str x)):=fun _ _ _ H _ I h=>Calls.Constant_str ⟨.str x,H,I.tok _,⟨_,rfl⟩,h⟩
def Gl (X:Cx)(x:aB):Prop:=X.env.kindOf x=some .globalImplicit
theorem AW {E:aE->aG->Prop}{pins:List (aD×aY)}{s:aG}{σ:St}{H:Hp}{x:aB}{u:aE}{pos:cE}{Q:aE->aG->Prop}(I:Inv X pins σ H s)(hg:Gl X x)(hm:X.mg x=some u)(h:Q u s)
  (hd:(x == ("__debug__" : aB))=false:=by decide):aN (aT X.prog X.w) X.A (cD (.Name x pos) X.env) Q E s:=
 Calls.Name_function_global I.ok.kind hg (Calls.loadGlobal_global (by rw[I.ok.glob]; exact I.mod.glob.keeps I.bk) hm h) hd
theorem AO {E:aE->aG->Prop}{pins:List (aD×aY)}{s:aG}{σ:St}{H:Hp}{x:aB}{u:aE}{pos:cE}{Q:aE->aG->Prop}(I:Inv X pins σ H s)(hg:Gl X x)(hm:X.mg x=none)(hv:lU x=some u)(h:Q u s)
  (hn:x ≠ "__name__":=by decide) (hd:(x == ("__debug__" : aB))=false:=by decide):aN (aT X.prog X.w) X.A (cD (.Name x pos) X.env) Q E s:=by
 obtain⟨mb,h1,h2⟩:=I.mod.blt
 exact Calls.Name_function_global I.ok.kind hg (Calls.loadGlobal_builtin (by rw[I.ok.glob]; exact I.mod.glob.keeps I.bk) hm (by rw[I.ok.blt]; exact h1.keeps I.bk) ((h2 x hn).trans hv) h) hd
theorem WK {x:aB}{v:V}{u:aE}{pos:cE}(hg:Gl X x)(hm:X.mg x=some u)(r:RelV v u)(hd:(x == ("__debug__" : aB))=false:=by decide):PE X (.Name x pos) (tC v):=
 fun _ _ _ H _ I h=>AW I hg hm ⟨v,H,I,r,h⟩ hd
theorem Ri {x:aB}{v:V}{u:aE}{pos:cE}(hg:Gl X x)(hm:X.mg x=none)(hv:lU x=some u)(r:RelV v u)(hn:x ≠ "__name__":=by decide)(hd:(x == ("__debug__" : aB))=false:=by decide):PE X (.Name x pos) (tC v):=
 fun _ _ _ H _ I h=>AO I hg hm hv ⟨v,H,I,r,h⟩ hn hd
variable {a b:aX}{ta tb:TE}{pos:cE}
noncomputable def tB (t:TE):TT:=fun σ H Q=>t σ H fun x H1=>∃ c,x = .bl c/\Q c H1
theorem Df {e:aX}{t:TE}(h:PE X e t)(he : ∀ whole,isTrue e X.env whole=(do let v ← whole; standAt e.pos; qM [v] (truthy v)):=by intro _; rfl):PT X e (tB t):=by
 intro pins s σ H Q I hw
 refine isTrue_plain (thn (h pins s σ H _ I hw) fun v s1 ⟨x,H1,I1,r1,q1⟩=>?_) (he _)
 obtain⟨d,rfl,q⟩:=q1
 cases r1
 exact sH ⟨H1,I1,q⟩
variable {tA tB':TT}{rest:List aX}
noncomputable def Ac (t u:TT):TT:=fun σ H Q=>t σ H fun c H1=>if c=true then u σ H1 Q else Q false H1
noncomputable def tOr (t u:TT):TT:=fun σ H Q=>t σ H fun c H1=>if c=true then Q true H1 else u σ H1 Q
noncomputable def Au (t:TT):TT:=fun σ H Q=>t σ H fun c H1=>Q (!c) H1
theorem Ia (ha:PT X a tA):PW X (.BoolOp .And [a] pos) tA:=by
 intro wh pins s σ H Q I h
 refine isTrue_and (thn (ha pins s σ H Q I h) fun c s1 e=>?_)
 cases c with
 | true=>exact isTrue_and_nil e
 | false=>exact e
theorem Fl (ha:PT X a tA):PW X (.BoolOp .Or [a] pos) tA:=by
 intro wh pins s σ H Q I h
 refine isTrue_or (thn (ha pins s σ H Q I h) fun c s1 e=>?_)
 cases c with
 | false=>exact isTrue_or_nil e
 | true=>exact e
theorem Fx (ha:PT X a tA)(hb:PW X (.BoolOp .And (b::rest) pos) tB'):PW X (.BoolOp .And (a::b::rest) pos) (Ac tA tB'):=by
 intro wh pins s σ H Q I h
 refine isTrue_and (thn (ha pins s σ H _ I h) fun c s1 gh=>?_)
 obtain⟨H1,I1,q1⟩:=gh
 cases c with
 | true=>exact hb wh pins s1 σ H1 Q I1 q1
 | false=>exact⟨H1,I1,q1⟩
theorem Cg (ha:PT X a tA)(hb:PW X (.BoolOp .Or (b::rest) pos) tB'):PW X (.BoolOp .Or (a::b::rest) pos) (tOr tA tB'):=by
 intro wh pins s σ H Q I h
 refine isTrue_or (thn (ha pins s σ H _ I h) fun c s1 gh=>?_)
 obtain⟨H1,I1,q1⟩:=gh
 cases c with
 | true=>exact⟨H1,I1,q1⟩
 | false=>exact hb wh pins s1 σ H1 Q I1 q1
theorem Dg (ha:PT X a tA):PT X (.UnaryOp .Not a pos) (Au tA):=by
 intro pins s σ H Q I h
 exact isTrue_not (ha pins s σ H (fun c H1=>Q (!c) H1) I h)
noncomputable def Cw (ta tb:TE):TE:=fun σ H Q=>ta σ H fun x H1=>∃ c,x = .bl c/\if c=true then tb σ H1 Q else Q (.bl false) H1
noncomputable def Ay (ta tb:TE):TE:=fun σ H Q=>ta σ H fun x H1=>∃ c,x = .bl c/\if c=true then Q (.bl true) H1 else tb σ H1 Q
noncomputable def Cm (ta:TE):TE:=fun σ H Q=>ta σ H fun x H1=>∃ c,x = .bl c/\Q (.bl (!c)) H1
theorem Fn {op}{t:TE}(h:PE X a t):PE X (.BoolOp op [a] pos) t:=fun pins s σ H Q I hw=>BoolOp_one (h pins s σ H Q I hw)
theorem Fm (ha:PE X a ta)(hb:PE X (.BoolOp .And (b::rest) pos) tb):PE X (.BoolOp .And (a::b::rest) pos) (Cw ta tb):=by
 intro pins s σ H Q I h
 refine BoolOp_and (thn (ha pins s σ H _ I h) fun v s1 gh=>?_)
 obtain⟨x,H1,I1,r1,q1⟩:=gh
 obtain⟨c,rfl,q1⟩:=q1
 cases r1
 refine sH ?_
 cases c with
 | true=>exact hb pins s1 σ H1 Q I1 q1
 | false=>exact⟨.bl false,H1,I1,rfl,q1⟩
theorem Bw (ha:PE X a ta)(hb:PE X (.BoolOp .Or (b::rest) pos) tb):PE X (.BoolOp .Or (a::b::rest) pos) (Ay ta tb):=by
 intro pins s σ H Q I h
 refine BoolOp_or (thn (ha pins s σ H _ I h) fun v s1 gh=>?_)
 obtain⟨x,H1,I1,r1,q1⟩:=gh
 obtain⟨c,rfl,q1⟩:=q1
 cases r1
 refine sH ?_
 cases c with
 | false=>exact hb pins s1 σ H1 Q I1 q1
 | true=>exact⟨.bl true,H1,I1,rfl,q1⟩
theorem Dw (ha:PE X a ta):PE X (.UnaryOp .Not a pos) (Cm ta):=by
 intro pins s σ H Q I h
 refine UnaryOp_ (thn (ha pins s σ H _ I h) fun v s1 gh=>?_)
 obtain⟨x,H1,I1,r1,q1⟩:=gh
 obtain⟨c,rfl,q1⟩:=q1
 cases r1
 exact not_of (sH ⟨.bl (!c),H1,I1,rfl,q1⟩)
noncomputable def tIf (t:TT)(ta tb:TE):TE:=fun σ H Q=>t σ H fun c H1=>if c=true then ta σ H1 Q else tb σ H1 Q
theorem Ru {c:aX}(hc:PT X c tA)(ha:PE X a ta)(hb:PE X b tb):PE X (.IfExp c a b pos) (tIf tA ta tb):=by
 intro pins s σ H Q I h
 refine wpAny_IfExp (thn (hc pins s σ H _ I h) fun d s1 gh=>?_)
 obtain⟨H1,I1,q1⟩:=gh
 cases d with
 | true=>exact ha pins s1 σ H1 Q I1 q1
 | false=>exact hb pins s1 σ H1 Q I1 q1
end
def SqL (K:aK)(H:Hp)(a:aD)(xs:List V):Prop:=
 Rd H a (.lst xs) \/
  ∃ (o:aY) (its:Array aE) (n:Nat),K.lookup a=some o/\o.cls = .type "list" /\ o.dict=none/\o.data = .seq its n/\its.size≤sizeLine/\Vals xs its.toList
def SqT (K:aK)(H:Hp)(a:aD)(xs:List V):Prop:=
 Rd H a (.tup xs) \/
  ∃ (o:aY) (its:Array aE) (n:Nat),K.lookup a=some o/\o.cls = .type "tuple" /\ o.data = .seq its n/\its.size≤sizeLine/\Vals xs its.toList
noncomputable def Bs:aE->Option V
 | .none=>some .non
 | .bool b=>some (.bl b)
 | .int i _=>some (.int i)
 | .str x _=>some (.str x)
 | .bytes b _=>some (.byt b)
 | .float b _=>some (.flt b)
 | .ref a=>some (.ref a)
 | .type n=>some (.ty n)
 | _=>none
theorem RelV.abs {x:V}{u:aE}(r:RelV x u):Bs u=some x:=by
 cases x with
 | non=>cases r; rfl
 | bl _=>cases r; rfl
 | int _=>obtain⟨t,rfl⟩:=r; rfl
 | str _=>obtain⟨t,rfl⟩:=r; rfl
 | byt _=>obtain⟨t,rfl⟩:=r; rfl
 | flt _=>obtain⟨t,rfl⟩:=r; rfl
 | ref _=>cases r; rfl
 | ty _=>cases r; rfl
theorem RelV.inj {x y:V}{u:aE}(r:RelV x u)(q:RelV y u):x=y:=iJ (r.abs.symm.trans q.abs)
theorem Vals.inj : ∀ {xs ys:List V} {us:List aE},Vals xs us->Vals ys us->xs=ys:=by
 intro xs ys us h
 induction h generalizing ys with
 | nil=>intro h; cases h; rfl
 | cons r _ ih=>
  intro h
  cases h with
  | cons r' t'=>rw[r.inj r',ih t']
section
variable {X:Cx}{pins:List (aD×aY)}{σ:St}{H:Hp}{s:aG}{a:aD}{xs ys:List V}
theorem SqL.of {K:aK}(h:H a=some (.lst xs)):SqL K H a xs:=.inl (.inl h)
theorem SqT.of {K:aK}(h:H a=some (.tup xs)):SqT K H a xs:=.inl (.inl h)
theorem Inv.list (I:Inv X pins σ H s)(h:SqL X.K H a xs) : ∃ its:List aE,Vals xs its/\PlainL s.heap a its.toArray/\xs.length≤sizeLine:=by
 rcases h with h | ⟨o,its,n,hk,hc,hd,hs,hz,r⟩
 ·obtain⟨z,its,n,r,e⟩:=h.ok I.hok
  exact⟨its,r,⟨_,n,e,rfl,rfl,rfl⟩,z⟩
 ·refine⟨its.toList,r,⟨o,n,I.kIn a o hk,hc,hd,by simpa using hs⟩,?_⟩
  have e:=r.length
  simp only[gR] at e
  omega
theorem Inv.tuple (I:Inv X pins σ H s)(h:SqT X.K H a xs) : ∃ its:List aE,Vals xs its/\IsTup s.heap a its.toArray/\xs.length≤sizeLine:=by
 rcases h with h | ⟨o,its,n,hk,hc,hs,hz,r⟩
 ·obtain⟨z,its,r,p⟩:=h.ok I.hok
  exact⟨its,r,p.1,z⟩
 ·refine⟨its.toList,r,⟨o,I.kIn a o hk,hc,n,by simpa using hs⟩,?_⟩
  have e:=r.length
  simp only[gR] at e
  omega
theorem Inv.list_inj (I:Inv X pins σ H s)(h:SqL X.K H a xs)(h':SqL X.K H a ys):xs=ys:=by
 obtain⟨its,r,⟨o,n,e,_,_,d⟩,_⟩:=I.list h
 obtain⟨its',r',⟨o',n',e',_,_,d'⟩,_⟩:=I.list h'
 rw[e] at e'; cases e'
 rw[d] at d'
 injection d' with d1 _
 have:its=its':=by simpa using congrArg Array.toList d1
 subst this
 exact r.inj r'
theorem Inv.tuple_inj (I:Inv X pins σ H s)(h:SqT X.K H a xs)(h':SqT X.K H a ys):xs=ys:=by
 obtain⟨its,r,⟨o,e,_,n,d⟩,_⟩:=I.tuple h
 obtain⟨its',r',⟨o',e',_,n',d'⟩,_⟩:=I.tuple h'
 rw[e] at e'; cases e'
 rw[d] at d'
 injection d' with d1 _
 have:its=its':=by simpa using congrArg Array.toList d1
 subst this
 exact r.inj r'
end
noncomputable abbrev Cx.wish (X:Cx)(E:aE->aG->Prop):Cx:={ X with xe:=E }
noncomputable abbrev Cx.nox (X:Cx):Cx:=X.wish fun _ _=>False
theorem Cx.Ok.wish {X:Cx}(ok:X.Ok)(E:aE->aG->Prop):(X.wish E).Ok:=
 ⟨ok.mod,ok.kind,ok.glob,ok.blt,ok.above,ok.inj,ok.has,ok.cab,ok.hd,ok.frames,ok.stk,ok.exf,ok.bs,ok.bsz,ok.noex,ok.exfs,ok.funs,ok.frf⟩
theorem Cx.Ok.unwish {X:Cx}{E:aE->aG->Prop}(ok:(X.wish E).Ok):X.Ok:=
 ⟨ok.mod,ok.kind,ok.glob,ok.blt,ok.above,ok.inj,ok.has,ok.cab,ok.hd,ok.frames,ok.stk,ok.exf,ok.bs,ok.bsz,ok.noex,ok.exfs,ok.funs,ok.frf⟩
section
variable {X:Cx}{pins:List (aD×aY)}{σ:St}{H:Hp}{s:aG}{E:aE->aG->Prop}
theorem Inv.wish (I:Inv X pins σ H s)(E:aE->aG->Prop):Inv (X.wish E) pins σ H s:=⟨I.ok.wish E,I.os,I.bare,I.base,I.loc,I.cell,I.free,I.freeC,I.pin,I.hok,I.len⟩
theorem Inv.unwish (I:Inv (X.wish E) pins σ H s):Inv X pins σ H s:=⟨I.ok.unwish,I.os,I.bare,I.base,I.loc,I.cell,I.free,I.freeC,I.pin,I.hok,I.len⟩
theorem SP.unwish {D:Ends}{f:Flow}{s':aG}(h:SP (X.wish E) pins D f s'):SP X pins D f s':=by
 cases f with
 | next=>obtain⟨σ',H',I,q⟩:=h; exact⟨σ',H',I.unwish,q⟩
 | brk=>obtain⟨σ',H',I,q⟩:=h; exact⟨σ',H',I.unwish,q⟩
 | cont=>obtain⟨σ',H',I,q⟩:=h; exact⟨σ',H',I.unwish,q⟩
 | ret u=>obtain⟨v,σ',H',I,r,q⟩:=h; exact⟨v,σ',H',I.unwish,r,q⟩
theorem PSs.nox {st:List bP}{t:TS}(h:PSs X.nox st t):PSs X st t:=fun pins s σ H D I hw=>
 lB (h pins s σ H D (I.wish _) hw) (fun _ _ q=>q.unwish) fun _ _ z=>pO z
end
section
variable {X:Cx}{st:bP}{rest:List bP}{t u:TS}{e:aX}{te:TE}{pos:cE}
noncomputable def Bu:TS:=fun D σ H=>D.nx σ H
noncomputable def Bb (t u:TS):TS:=fun D σ H=>t { D with nx:=u D } σ H
theorem Ik:PSs X [] Bu:=fun _ _ σ H _ I h=>JT ⟨σ,H,I,h⟩
theorem Sk (h1:PS X st t)(h2:PSs X rest u):PSs X (st::rest) (Bb t u):=by
 intro pins s σ H D I h
 refine wpAny_execs_cons (thn (h1 pins s σ H { D with nx:=u D } I h) fun f s1 q=>?_)
 cases f with
 | next=>
  obtain⟨σ',H',I',q⟩:=q
  exact h2 pins s1 σ' H' D I' q
 | ret v=>exact q
 | brk=>exact q
 | cont=>exact q
theorem Iw (h1:PS X st t):PSs X [st] t:=by
 intro pins s σ H D I h
 refine wpAny_execs_cons (thn (h1 pins s σ H D I h) fun f s1 q=>?_)
 cases f with
 | next=>exact JT q
 | ret v=>exact q
 | brk=>exact q
 | cont=>exact q
theorem Inv.quiet {pins:List (aD×aY)}{σ:St}{H:Hp}{s:aG}(I:Inv X pins σ H s):interactive X.env=false:=by simp[interactive,I.ok.kind]
noncomputable def Cj (te:TE):TS:=fun D σ H=>te σ H fun _ H1=>D.nx σ H1
theorem WY (he:PE X e te)(hs:qL e none pos.line X.env=pure false:=by rfl):PS X (.Expr e pos) (Cj te):=by
 intro pins s σ H D I h
 exact wpAny_Expr_any (thn (he pins s σ H _ I h) fun v s1 ⟨x,H1,I1,r1,q1⟩=>⟨σ,H1,I1,q1⟩) I.quiet hs
noncomputable def As (te:TE):TS:=fun D σ H=>te σ H D.rt
theorem JI (he:PE X e te):PS X (.Return (some e) pos) (As te):=by
 intro pins s σ H D I h
 exact wpAny_Return_some (thn (he pins s σ H _ I h) fun v s1 ⟨x,H1,I1,r1,q1⟩=>⟨x,σ,H1,I1,r1,q1⟩)
noncomputable def Bd (c:TT)(t u:TS):TS:=fun D σ H=>c σ H fun b H1=>if b=true then t D σ H1 else u D σ H1
theorem Bn {c:aX}{a b:List bP}{tc:TT}(hc:PT X c tc)(ha:PSs X a t)(hb:PSs X b u):PS X (.If c a b pos) (Bd tc t u):=by
 intro pins s σ H D I h
 refine wpAny_If (thn (hc pins s σ H _ I h) fun d s1 gh=>?_)
 obtain⟨H1,I1,q1⟩:=gh
 cases d with
 | true=>exact ha pins s1 σ H1 D I1 q1
 | false=>exact hb pins s1 σ H1 D I1 q1
end
abbrev TG:=V->St->Hp->(St->Hp->Prop)->Prop
abbrev TGs:=List V->St->Hp->(St->Hp->Prop)->Prop
def PG (X:Cx)(target:aX)(t:TG):Prop:=
 ∀ (pins:List (aD×aY)) (s:aG) (σ:St) (H:Hp) (v:V) (u:aE) (Q:St->Hp->Prop),Inv X pins σ H s->RelV v u->t v σ H Q ->
  aN (aT X.prog X.w) X.A (pG target X.env u) (fun _ s'=>∃ σ' H',Inv X pins σ' H' s'/\Q σ' H') X.xe s
def PGs (X:Cx)(ts:List aX)(t:TGs):Prop:=
 ∀ (pins:List (aD×aY)) (s:aG) (σ:St) (H:Hp) (vs:List V) (us:List aE) (Q:St->Hp->Prop),Inv X pins σ H s->Vals vs us->t vs σ H Q ->
  aN (aT X.prog X.w) X.A (assignInOrder ((lV ts X.env).map (·.2)) us) (fun _ s'=>∃ σ' H',Inv X pins σ' H' s'/\Q σ' H') X.xe s
abbrev FA:=V->V->V->Hp->(Hp->Prop)->Prop
def LO (X:Cx)(t:FA):Prop:=
 ∀ (pins:List (aD×aY)) (s:aG) (σ:St) (H:Hp) (o i v:V) (ov iv u:aE) (Q:Hp->Prop),Inv X pins σ H s->RelV o ov->RelV i iv->RelV v u->t o i v H Q ->
  aN (aT X.prog X.w) X.A (setItem ov iv u) (fun _ s'=>∃ H',Inv X pins σ H' s'/\Q H') X.xe s
section
variable {X:Cx}{pos:cE}
noncomputable def JC (i:Nat):TG:=fun v σ H Q=>Q (σ.set i (some v)) H
theorem BB {i:Nat}{x:aB}(hN:X.N.Nodup)(hi:X.N[i]?=some x)(hx:mH X.env.scope x)(hf:X.fn x=true \/ X.env.scope.names.lookup x=some .local:=by first | exact .inl rfl | exact .inr rfl | assumption):PG X (.Name x pos) (JC i):=by
 intro pins s σ H v u Q I r h
 exact wpAny_assign_Name (PR I hN hi hx r (fun s' I'=>⟨_,H,I',h⟩) hf)
noncomputable def Av:TGs:=fun vs σ H Q=>vs=[]/\Q σ H
noncomputable def Bz (t:TG)(u:TGs):TGs:=fun vs σ H Q=>∃ v r,vs=v::r/\t v σ H fun σ' H'=>u r σ' H' Q
theorem Iz:PGs X [] Av:=by
 intro pins s σ H vs us Q I r h
 obtain⟨e,h⟩:=h
 subst e
 cases r
 exact assignInOrder_nil ⟨σ,H,I,h⟩
theorem OP {e:aX}{es:List aX}{t:TG}{u:TGs}(h1:PG X e t)(h2:PGs X es u)
  (hs:(lV (e::es) X.env).map (·.2)=pG e X.env::(lV es X.env).map (·.2):=by rfl):PGs X (e::es) (Bz t u):=by
 intro pins s σ H vs us Q I r h
 obtain⟨v,vr,e1,h⟩:=h
 subst e1
 cases r with
 | cons r rr=>
  rw[hs]
  refine assignInOrder_cons (thn (h1 pins s σ H _ _ _ I r h) fun _ s1 gh=>?_)
  obtain⟨σ1,H1,I1,q1⟩:=gh
  exact h2 pins s1 σ1 H1 _ _ Q I1 rr q1
noncomputable def Ak (K:aK)(n:Nat)(t:TGs):TG:=fun v σ H Q=>∃ a xs,v = .ref a/\SqT K H a xs/\xs.length=n/\t xs σ H Q
theorem Ee {es:List aX}{k:Nat}{t:TGs}{n:Nat}(hc:X.calm=true)(h:PGs X es t)
  (hn:(lV es X.env).length=n:=by rfl) (hst:(lV es X.env).findIdx? (·.1)=none:=by rfl):PG X (.Tuple es k pos) (Ak X.K n t):=by
 intro pins s σ H v u Q I r hw
 obtain⟨a,xs,e1,hq,hl,hw⟩:=hw
 subst e1
 cases r
 obtain⟨its,rv,ht,hz⟩:=I.tuple hq
 refine assign_Tuple_tuple (I.ok.hd hc) ht (by simp[hn,← hl,rv.length]) hst fun h' hx=>?_
 have I1:Inv X pins σ H { s with heap:=h' }:=I.kept (t':=s.toks) fun b o e=>hx b o (cT (cI e)) e
 exact h pins _ σ H xs _ Q I1 (by simpa using rv) hw
noncomputable def ZZ (to ti:TE)(t:FA):TG:=fun v σ H Q=>to σ H fun o H1=>ti σ H1 fun i H2=>t o i v H2 fun H3=>Q σ H3
theorem Fd {o i:aX}{to ti:TE}{t:FA}(ho:PE X o to)(hi:PE X i ti)(hs:LO X t)
  (ha : ∀ v,pG (.Subscript o i pos) X.env v=(do
   let ov ← qM [v] (cD o X.env)
   let iv ← qM [v,ov] (cD i X.env)
   standAt pos
   qM [v,ov,iv] (setItem ov iv v)
   release [v,ov,iv] []):=by intro _; rfl):PG X (.Subscript o i pos) (ZZ to ti t):=by
 intro pins s σ H v u Q I r h
 rw[ha]
 refine aI (jF (thn (ho pins s σ H _ I h) fun ov s1 gh=>?_))
 obtain⟨x,H1,I1,r1,q1⟩:=gh
 refine aI (jF (thn (hi pins s1 σ H1 _ I1 q1) fun iv s2 gh=>?_))
 obtain⟨y,H2,I2,r2,q2⟩:=gh
 refine aI (wpAny_standAt (aI (jF (thn (hs pins s2 σ H2 x y v ov iv u _ I2 r1 r2 r q2) fun _ s3 gh=>?_))))
 obtain⟨H3,I3,q3⟩:=gh
 exact wpAny_release ⟨σ,H3,I3,q3⟩
noncomputable def FE (te:TE)(g:TG):TS:=fun D σ H=>te σ H fun x H1=>g x σ H1 D.nx
theorem Di {tg e:aX}{te:TE}{g:TG}(he:PE X e te)(hg:PG X tg g)(hs:swapsWithSole [tg] e pos.line X.env=pure false:=by rfl)(hw:swappedStores [tg] e X.env=pure none:=by rfl)
  (h1:(lV [tg] X.env).map (·.2)=[pG tg X.env]:=by rfl):PS X (.Assign [tg] e pos) (FE te g):=by
 intro pins s σ H D I h
 refine wpAny_Assign_stores (thn (he pins s σ H _ I h) fun v s1 ⟨x,H1,I1,r1,q1⟩=>?_) hs hw
 rw[h1]
 exact thn (hg pins s1 σ H1 x v _ I1 r1 q1) fun _ s2 q=>q
theorem Fy {i:Nat}{x:aB}{e:aX}{te:TE}{pos':cE}(hN:X.N.Nodup)(hi:X.N[i]?=some x)(hx:mH X.env.scope x)(he:PE X e te)(hs:qL e (some (.Name x pos')) pos.line X.env=pure false:=by rfl)(hf:X.fn x=true \/ X.env.scope.names.lookup x=some .local:=by first | exact .inl rfl | exact .inr rfl | assumption) :
  PS X (.Assign [.Name x pos'] e pos) (FE te (JC i)):=by
 intro pins s σ H D I h
 refine wpAny_Assign_Name (thn (he pins s σ H _ I h) fun v s1 ⟨y,H1,I1,r1,q1⟩=>?_) hs
 exact PR I1 hN hi hx r1 (fun s2 I2=>⟨_,H1,I2,q1⟩) hf
end
section
variable {X:Cx}{pos:cE}
noncomputable def Dq (c:TT)(tb:TS):TS:=fun D σ H=>∃ W:Nat->St->Hp->Prop,(∃ m,W m σ H) /\ ∀ m σ H,W m σ H ->
 c σ H fun b H1=>if b=true then ∃ N:St->Hp->Prop,(∀ σ' H',N σ' H' -> ∃ m',m'<m/\W m' σ' H')/\tb { D with nx:=N,ct:=N,bk:=D.nx } σ H1 else D.nx σ H1
theorem Um {c:aX}{body:List bP}{tc:TT}{tb:TS}(hp:zP (aT X.prog X.w) X.A X.env X.xe)(hc:PT X c tc)(hb:PSs X body tb):PS X (.While c body [] pos) (Dq tc tb):=by
 intro pins s σ H D I h
 obtain⟨W,⟨m0,w0⟩,turn⟩:=h
 refine wpAny_While (codeAny_whileLoop (fun n s'=>∃ σ' H',Inv X pins σ' H' s'/\W n σ' H') ?_ m0 ⟨σ,H,I,w0⟩)
 rintro n s1 ⟨σ1,H1,I1,w1⟩
 refine vK hp (thn (hc pins s1 σ1 H1 _ I1 (turn n σ1 H1 w1)) fun b s2 gh=>?_)
 obtain⟨H2,I2,q2⟩:=gh
 cases b with
 | true=>
  obtain⟨N,hN,q2⟩:=q2
  rw[if_pos rfl]
  refine vK hp (thn (hb pins s2 σ1 H2 _ I2 q2) fun f s3 q3=>?_)
  cases f with
  | next=>
   obtain⟨σ3,H3,I3,n3⟩:=q3
   obtain⟨m',hm,w3⟩:=hN σ3 H3 n3
   exact⟨m',hm,σ3,H3,I3,w3⟩
  | cont=>
   obtain⟨σ3,H3,I3,n3⟩:=q3
   obtain⟨m',hm,w3⟩:=hN σ3 H3 n3
   exact⟨m',hm,σ3,H3,I3,w3⟩
  | brk=>exact q3
  | ret v=>exact q3
 | false=>
  rw[if_neg oH]
  exact JT ⟨σ1,H2,I2,q2⟩
end
structure It where
 go:Nat->Hp->Prop
 yld:Nat->Hp->V->Hp->Prop
 stop:Nat->Hp->Prop
def kN (X:Cx)(pins:List (aD×aY))(H:Hp)(b:aD):Prop:=
 H b=none/\b≠X.env.locals/\b∉X.fs/\(b∈X.ex \/ X.s₀.heap.objs.size≤b)/\(∀ x c,X.env.cells.lookup x=some c->c≠b) /\ ∀ p∈X.pn++pins,p.1≠b
theorem Inv.fpOk {X:Cx}{pins:List (aD×aY)}{σ:St}{H H':Hp}{s:aG}{b:aD}(I:Inv X pins σ H s)(hb:s.heap.objs.size≤b)(hn:H' b=none):kN X pins H' b:=by
 refine⟨hn,lX (hU I.lt hb),I.nofs hb,.inr (iR I.sz hb),fun x c e z=>?_,fun p hp z=>?_⟩
 ·obtain⟨v,q⟩:=I.cell x c e
  exact absurd (hU q.lt (by rw[z]; exact hb)) (lZ _)
 ·exact absurd (hU (cI (I.pin p hp).1) (by rw[z]; exact hb)) (lZ _)
structure Turn (P:bQ)(w:bB)(K:aK)(tg:aX)(J:It)(fp:List aD)(it:aD)(tn:Nat->aW->Prop):Prop where
 mem:it∈fp
 obj : ∀ i h,tn i h -> ∀ b∈fp,∃ o,h.get? b=some o /\ ∀ v,o.data ≠ .cell v
 keep : ∀ i h h',tn i h->(∀ b∈fp,∀ o,h.get? b=some o->h'.get? b=some o)->tn i h'
 item : ∀ (X:Cx),X.prog=P->X.w=w->X.K=K->X.calm=true -> ∀ (i:Nat) (pins:List (aD×aY)) (s:aG) (σ:St) (H:Hp) (E:aE->aG->Prop),Inv X pins σ H s->(∀ b∈fp,kN X pins H b)->tn i s.heap->J.go i H ->
  aN (aT P w) X.A (kC (.ref it)) (fun r s1=>∃ u,r=some u /\
   aN (aT P w) X.A (JW tg (.ref it) u) (fun _ s2=>∃ x H',Inv X pins σ H' s2/\RelV x u/\J.yld i H x H'/\tn (i+1) s2.heap /\ ∀ b∈fp,H' b=none) E s1) E s
 done : ∀ (X:Cx),X.prog=P->X.w=w->X.K=K->X.calm=true -> ∀ (i:Nat) (pins:List (aD×aY)) (s:aG) (σ:St) (H:Hp) (E:aE->aG->Prop),Inv X pins σ H s->(∀ b∈fp,kN X pins H b)->tn i s.heap->J.stop i H ->
  aN (aT P w) X.A (kC (.ref it)) (fun r s1=>r=none/\Inv X pins σ H s1) E s
 self : ∀ (A:cF) (i:Nat) (s:aG) (Q:aE->aG->Prop) (E:aE->aG->Prop),tn i s.heap->Q (.ref it) s->aN (aT P w) A (nU (.ref it)) Q E s
abbrev TI:=St->Hp->(It->Hp->Prop)->Prop
def PIE (X:Cx)(pins:List (aD×aY))(σ:St)(tg:aX)(R:It->Hp->Prop)(itv:aE)(s2:aG):Prop:=
 ∃ (it:aD) (fp:List aD) (tn:Nat->aW->Prop) (J:It) (H':Hp),itv = .ref it/\Inv X pins σ H' s2/\Turn X.prog X.w X.K tg J fp it tn/\tn 0 s2.heap/\(∀ b∈fp,kN X pins H' b)/\R J H'
def PI (X:Cx)(tg iter:aX)(wi:TI):Prop:=
 ∀ (pins:List (aD×aY)) (s:aG) (σ:St) (H:Hp) (R:It->Hp->Prop),Inv X pins σ H s->wi σ H R ->
  aN (aT X.prog X.w) X.A (cD iter X.env) (fun v s1=>aN (aT X.prog X.w) X.A (nU v) (PIE X pins σ tg R) X.xe s1) X.xe s
theorem DJ {M:Model}{A:cF}{E:aE->aG->Prop}{s:aG}{tg:aX}{it:aD}{u:aE}{o:aY}{n:String}{vs:Array aE}{Q:Unit->aG->Prop}(ho:s.heap.get? it=some o)(hc:o.cls = .type n)(hd:o.data = .fields vs)
    (hn:["enumerate","zip","dict_itemiterator","dict_reverseitemiterator","odict_iterator","itertools.zip_longest","itertools.pairwise"].contains n=false) (hQ:Q () s):aN M A (JW tg (.ref it) u) Q E s:=by
  unfold JW
  cases tg <;> first
    | exact aR hQ
    | (cases u <;> first
        | exact aR hQ
        | (refine aI (wpAny_load ho ?_)
           rw[hc,hd]
           show aN M A (if (["enumerate","zip","dict_itemiterator","dict_reverseitemiterator","odict_iterator","itertools.zip_longest","itertools.pairwise"].contains n&&vs[0]? == some (eE _))=true then _ else _) Q E s
           rw[if_neg (by intro h; rw[hn,Bool.false_and] at h; cases h)]
           exact aR hQ))
noncomputable def EZ (K:aK)(a:aD):It:=
 ⟨fun i H=>∃ xs x,SqL K H a xs/\xs[i]?=some x,fun i H x H'=>H'=H /\ ∀ xs,SqL K H a xs->xs[i]?=some x,fun i H=>∃ xs,SqL K H a xs/\xs.length≤i⟩
noncomputable def EY (K:aK)(a:aD):It:=
 ⟨fun i H=>∃ xs x,SqT K H a xs/\xs[i]?=some x,fun i H x H'=>H'=H /\ ∀ xs,SqT K H a xs->xs[i]?=some x,fun i H=>∃ xs,SqT K H a xs/\xs.length≤i⟩
noncomputable def AG (lo:Int)(n:Nat):It:=⟨fun i _=>i<n,fun i H x H'=>H'=H/\x = .int (lo+i),fun i _=>n≤i⟩
theorem Wu {P:bQ}{w:bB}{K:aK}{tg:aX}(a it:aD):Turn P w K tg (EZ K a) [it] it (fun i h=>h.IsListIter it a i) where
 mem:=by simp
 obj:=fun i h st b hb=>by
  have e:b=it:=by simpa using hb
  subst e
  obtain⟨o,e,c,d⟩:=st
  exact⟨o,e,fun v z=>by rw[d] at z; cases z⟩
 keep:=fun i h h' st k=>st.at fun o e=>k it (by simp) o e
 item:=by
  intro X hP hw hK hc i pins s σ H E I hf st hg
  subst hP hw hK
  obtain⟨xs,x,hq,hx⟩:=hg
  obtain⟨its,rv,p,hz⟩:=I.list hq
  obtain⟨u,hu,ru⟩:=rv.get hx
  obtain⟨f0,f1,f2,f3,f4,f5⟩:=hf it (by simp)
  refine wpAny_pyNext_list_item st p.isList (x:=u) (by simpa using hu) fun h' st' sb=>?_
  have I1:Inv X pins σ H { s with heap:=h' }:=I.turned (t':=s.toks) (fun b o hb e=>(sb.2 b hb).trans e) f0 f1 f3 f4 f5
  obtain⟨o,e,c,d⟩:=id st'
  exact⟨u,rfl,DJ (s:={ s with heap:=h' }) e c d (by decide) ⟨x,H,I1,ru,⟨rfl,fun ys hy=>by rw[I.list_inj hy hq]; exact hx⟩,st',fun b hb=>(hf b hb).1⟩⟩
 done:=by
  intro X hP hw hK hc i pins s σ H E I hf st hg
  subst hP hw hK
  obtain⟨xs,hq,hx⟩:=hg
  obtain⟨its,rv,p,hz⟩:=I.list hq
  obtain⟨f0,f1,f2,f3,f4,f5⟩:=hf it (by simp)
  have hl:=rv.length
  exact wpAny_pyNext_list_end (I.ok.hd hc) st p.isList (by simp; omega) fun h' eb=>⟨rfl,I.turned (t':=s.toks) (fun b o hb e=>eb b o hb e) f0 f1 f3 f4 f5⟩
 self:=fun _ _ _ _ _ st h=>wpAny_pyIter_listiter st h
theorem Lk {P:bQ}{w:bB}{K:aK}{tg:aX}(a it:aD):Turn P w K tg (EY K a) [it] it (fun i h=>h.IsTupleIter it a i) where
 mem:=by simp
 obj:=fun i h st b hb=>by
  have e:b=it:=by simpa using hb
  subst e
  obtain⟨o,e,c,d⟩:=st
  exact⟨o,e,fun v z=>by rw[d] at z; cases z⟩
 keep:=fun i h h' st k=>st.at fun o e=>k it (by simp) o e
 item:=by
  intro X hP hw hK hc i pins s σ H E I hf st hg
  subst hP hw hK
  obtain⟨xs,x,hq,hx⟩:=hg
  obtain⟨its,rv,p,hz⟩:=I.tuple hq
  obtain⟨u,hu,ru⟩:=rv.get hx
  obtain⟨f0,f1,f2,f3,f4,f5⟩:=hf it (by simp)
  refine wpAny_pyNext_tuple_item st (show s.heap.IsTuple a its.toArray from p) (x:=u) (by simpa using hu) fun h' st' sb=>?_
  have I1:Inv X pins σ H { s with heap:=h' }:=I.turned (t':=s.toks) (fun b o hb e=>(sb.2 b hb).trans e) f0 f1 f3 f4 f5
  obtain⟨o,e,c,d⟩:=id st'
  exact⟨u,rfl,DJ (s:={ s with heap:=h' }) e c d (by decide) ⟨x,H,I1,ru,⟨rfl,fun ys hy=>by rw[I.tuple_inj hy hq]; exact hx⟩,st',fun b hb=>(hf b hb).1⟩⟩
 done:=by
  intro X hP hw hK hc i pins s σ H E I hf st hg
  subst hP hw hK
  obtain⟨xs,hq,hx⟩:=hg
  obtain⟨its,rv,p,hz⟩:=I.tuple hq
  obtain⟨f0,f1,f2,f3,f4,f5⟩:=hf it (by simp)
  have hl:=rv.length
  exact wpAny_pyNext_tuple_end (I.ok.hd hc) st (show s.heap.IsTuple a its.toArray from p) (by simp; omega) fun h' eb=>⟨rfl,I.turned (t':=s.toks) (fun b o hb e=>eb b o hb e) f0 f1 f3 f4 f5⟩
 self:=fun _ _ _ _ _ st h=>wpAny_pyIter_tupleiter st h
theorem Lq {P:bQ}{w:bB}{K:aK}{tg:aX}(it:aD)(lo:Int)(n:Nat):Turn P w K tg (AG lo n) [it] it (fun i h=>IsRangeIter h it (lo+(i:Nat)*1) ((n:Int) - (i:Nat)) 1) where
 mem:=by simp
 obj:=fun i h st b hb=>by
  have e:b=it:=by simpa using hb
  subst e
  exact⟨_,st,fun v z=>by
   have z':Data.fields _=Data.cell v:=z
   cases z'⟩
 keep:=fun i h h' st k=>k it (by simp) _ st
 item:=by
  intro X hP hw hK hc i pins s σ H E I hf st hg
  subst hP hw hK
  obtain⟨f0,f1,f2,f3,f4,f5⟩:=hf it (by simp)
  have W:=Walks.range (prog:=X.prog) (w:=X.w) (I.ok.hd hc) it lo 1 n
  refine W.item i s _ _ hg st fun v h' tk hv st' kk=>?_
  obtain⟨t,rfl⟩:=hv
  have I1:Inv X pins σ H { s with heap:=h',toks:=tk }:=I.turned (fun b o hb e=>kk b o (by simpa using hb) e) f0 f1 f3 f4 f5
  refine⟨_,rfl,DJ (s:={ s with heap:=h',toks:=tk }) (n:="range_iterator") st' rfl rfl (by decide) ⟨.int (lo+i),H,I1,⟨t,?_⟩,⟨rfl,rfl⟩,st',fun b hb=>(hf b hb).1⟩⟩
  rw[Int.mul_one]
 done:=by
  intro X hP hw hK hc i pins s σ H E I hf st hg
  subst hP hw hK
  obtain⟨f0,f1,f2,f3,f4,f5⟩:=hf it (by simp)
  exact wpAny_pyNext_range_end (I.ok.hd hc) st (by have:n≤i:=hg; omega) fun h' eb=>⟨rfl,I.turned (t':=s.toks) (fun b o hb e=>eb b o hb e) f0 f1 f3 f4 f5⟩
 self:=fun _ _ _ _ _ st h=>wpAny_pyIter_rangeiter st h
section
variable {X:Cx}{tg:aX}
noncomputable def Bt (K:aK)(tl:TE):TI:=fun σ H R=>tl σ H fun x H1=>∃ a,x = .ref a/\(∃ xs,SqL K H1 a xs)/\R (EZ K a) H1
noncomputable def Bf (K:aK)(tl:TE):TI:=fun σ H R=>tl σ H fun x H1=>∃ a,x = .ref a/\(∃ xs,SqT K H1 a xs)/\R (EY K a) H1
theorem Jw {l:aX}{tl:TE}(hl:PE X l tl):PI X tg l (Bt X.K tl):=by
 intro pins s σ H R I h
 refine thn (hl pins s σ H _ I h) fun v s1 gh=>?_
 obtain⟨x,H1,I1,r1,q1⟩:=gh
 obtain⟨a,e,⟨xs,hq⟩,q⟩:=q1
 subst e
 cases r1
 obtain⟨its,rv,p,hz⟩:=I1.list hq
 refine JR p.isList ?_
 refine⟨s1.heap.objs.size,[s1.heap.objs.size],_,_,H1,rfl,I1.kept (t':=s1.toks) fun b o e=>cL _ e,Wu a _,⟨_,eL _ rfl,rfl,rfl⟩,fun b hb=>?_,q⟩
 have e:b=s1.heap.objs.size:=by simpa using hb
 subst e
 exact I1.fpOk (bY _) (I1.hok.fresh (bY _))
theorem Fv {l:aX}{tl:TE}(hl:PE X l tl):PI X tg l (Bf X.K tl):=by
 intro pins s σ H R I h
 refine thn (hl pins s σ H _ I h) fun v s1 gh=>?_
 obtain⟨x,H1,I1,r1,q1⟩:=gh
 obtain⟨a,e,⟨xs,hq⟩,q⟩:=q1
 subst e
 cases r1
 obtain⟨its,rv,p,hz⟩:=I1.tuple hq
 refine wpAny_pyIter_tuple (show s1.heap.IsTuple a its.toArray from p) ?_
 refine⟨s1.heap.objs.size,[s1.heap.objs.size],_,_,H1,rfl,I1.kept (t':=s1.toks) fun b o e=>cL _ e,Lk a _,⟨_,eL _ rfl,rfl,rfl⟩,fun b hb=>?_,q⟩
 have e:b=s1.heap.objs.size:=by simpa using hb
 subst e
 exact I1.fpOk (bY _) (I1.hok.fresh (bY _))
theorem Rw {pins:List (aD×aY)}{σ:St}{H:Hp}{s:aG}{R:It->Hp->Prop}{E:aE->aG->Prop}{lo hi:Int}{t u v:Tok}{tk:Nat}(I:Inv X pins σ H s)(h1 : -(2 ^ 62)≤lo)(h2:lo<2 ^ 62)(h3 : -(2 ^ 62)≤hi)(h4:hi<2 ^ 62)
  (q:R (AG lo (hi - lo).toNat) H):aN (aT X.prog X.w) X.A (nU (.ref s.heap.objs.size)) (PIE X pins σ tg R) E { s with heap:=s.heap.push { cls:=.type "range",data:=.fields #[.int lo t,.int hi u,.int 1 v] },toks:=tk }:=by
 refine wpAny_pyIter_range (IsRange.new ..) (small_one h1 h2 h3 h4) ?_
 have I1:Inv X pins σ H { s with heap:=s.heap.push { cls:=.type "range",data:=.fields #[.int lo t,.int hi u,.int 1 v] },toks:=tk }:=I.kept fun b o e=>cL _ e
 refine⟨(s.heap.push { cls:=.type "range",data:=.fields #[.int lo t,.int hi u,.int 1 v] }).objs.size,[(s.heap.push { cls:=.type "range",data:=.fields #[.int lo t,.int hi u,.int 1 v] }).objs.size],_,_,H,rfl,
  I1.kept (t':=tk) fun b o e=>cL _ e,Lq _ lo (hi - lo).toNat,?_,fun b hb=>?_,q⟩
 ·have e1:lo+((0:Nat):Int)*1=lo:=by simp
  have e2:(((hi - lo).toNat:Nat):Int) - ((0:Nat):Int)=Builtin.Range.rangeSize lo hi 1:=by rw[rangeSize_one]; split <;> omega
  show IsRangeIter _ _ (lo+((0:Nat):Int)*1) ((((hi - lo).toNat:Nat):Int) - ((0:Nat):Int)) 1
  rw[e1,e2]
  exact eL _ rfl
 ·have e:b=(s.heap.push { cls:=.type "range",data:=.fields #[.int lo t,.int hi u,.int 1 v] }).objs.size:=by simpa using hb
  subst e
  exact I1.fpOk (bY _) (I1.hok.fresh (bY _))
noncomputable def Bq (ta:TA):TI:=fun σ H R=>ta σ H fun vs H1=>∃ j:Int,vs=[.int j] /\ -(2 ^ 62)≤j/\j<2 ^ 62/\R (AG 0 j.toNat) H1
theorem Ky {a:aX}{ta:TA}{p pos:cE}(hg:Gl X "range")(hm:X.mg "range" = none)(ha:PA X [a] ta)(hs:bM [a] X.env=[(false,cD a X.env)]:=by rfl):PI X tg (.Call (.Name "range" p) [a] [] pos) (Bq ta):=by
 intro pins s σ H R I h
 refine Call_ (AO I hg hm boot_range (Xa (thn (ha pos pins s σ H _ I h) fun us s1 ⟨vs,H1,I1,r1,q1⟩=>?_) hs rfl))
 obtain⟨j,e,q1,q2,q⟩:=q1
 subst e
 cases r1 with
 | cons r rr=>
  cases rr
  obtain⟨t,rfl⟩:=r
  exact call_range_1 (Rw I1 (by omega) (by omega) q1 q2 (by simpa using q))
noncomputable def Ad (wi:TI)(g:TG)(tb:TS):TS:=fun D σ H=>wi σ H fun J H1=>∃ W:Nat->Nat->St->Hp->Prop,(∃ m,W 0 m σ H1) /\ ∀ i m σ H,W i m σ H ->
 (J.stop i H/\D.nx σ H) \/ (J.go i H /\ ∃ N:St->Hp->Prop,(∀ σ' H',N σ' H' -> ∃ m',m'<m/\W (i+1) m' σ' H') /\ ∀ x H',J.yld i H x H'->g x σ H' fun σ2 H2=>tb { D with nx:=N,ct:=N,bk:=D.nx } σ2 H2)
noncomputable def xC (fp:List aD)(h:aW):List (aD×aY):=fp.filterMap fun b=>(h.get? b).map fun o=>(b,o)
theorem CI {fp:List aD}{h:aW}{b:aD}{o:aY}(hb:b∈fp)(e:h.get? b=some o):(b,o)∈xC fp h:=wF.mpr ⟨b,hb,by rw[e]; rfl⟩
theorem Vt {fp:List aD}{h:aW}{p:aD×aY}(hp:p∈xC fp h):p.1∈fp/\h.get? p.1=some p.2:=by
 obtain⟨b,hb,e⟩:=wF.mp hp
 cases q:h.get? b with
 | none=>rw[q] at e; cases e
 | some o=>
  rw[q] at e
  have e':(b,o)=p:=iJ e
  subst e'
  exact⟨hb,q⟩
theorem Inv.pinned {pins:List (aD×aY)}{σ:St}{H:Hp}{s:aG}{fp:List aD}(I:Inv X pins σ H s)(hf : ∀ b∈fp,kN X pins H b)(ho : ∀ b∈fp,∃ o,s.heap.get? b=some o /\ ∀ v,o.data ≠ .cell v):Inv X (pins++xC fp s.heap) σ H s:=
 I.pins_of fun p hp=>(iK.mp hp).elim (fun z=>I.pin p (nZ _ z)) fun z=>by
  obtain⟨hb,e⟩:=Vt z
  obtain⟨f0,f1,f2,_⟩:=hf p.1 hb
  obtain⟨o,e',d⟩:=ho p.1 hb
  rw[e] at e'; cases e'
  exact⟨e,f0,f1,f2,d⟩
theorem Inv.unpinned {pins pl:List (aD×aY)}{σ:St}{H:Hp}{s:aG}(I:Inv X (pins++pl) σ H s):Inv X pins σ H s:=I.pins_of fun p hp=>I.pin p (nZ _ (KM _ hp))
theorem Dj {iter:aX}{body:List bP}{wi:TI}{g:TG}{tb:TS}{pos:cE}(hp:zP (aT X.prog X.w) X.A X.env X.xe)(hc:X.calm=true)(hi:PI X tg iter wi)(hg:PG X tg g)(hb:PSs X body tb)
  (hs : ∀ x,sL iter X.env x=pure x:=by intro _; rfl):PS X (.For tg iter body [] pos) (Ad wi g tb):=by
 intro pins s σ H D I h
 refine wpAny_For (thn (hi pins s σ H _ I h) fun v s1 h1=>thn h1 fun itv s2 h2=>?_) hs
 obtain⟨it,fp,tn,J,H2,e,I2,T,st2,f2,W,⟨m0,w0⟩,turn⟩:=h2
 subst e
 have stat : ∀ {H':Hp},(∀ b∈fp,H' b=none) -> ∀ b∈fp,kN X pins H' b:=fun hn b hb=>⟨hn b hb,(f2 b hb).2⟩
 refine codeAny_forLoop_any (fun n s'=>∃ i σ' H',Inv X pins σ' H' s'/\tn i s'.heap/\(∀ b∈fp,H' b=none)/\W i n σ' H') ?_ m0 ⟨0,σ,H2,I2,st2,fun b hb=>(f2 b hb).1,w0⟩
 rintro n s3 ⟨i,σ3,H3,I3,st3,fr3,w3⟩
 rcases turn i n σ3 H3 w3 with⟨stop,qn⟩ | ⟨go,N,hN,step⟩
 ·refine vK hp (thn (T.done X rfl rfl rfl hc i pins s3 σ3 H3 X.xe I3 (stat fr3) st3 stop) fun r s4 gh=>?_)
  obtain⟨hr,I4⟩:=gh
  subst hr
  exact JT ⟨σ3,H3,I4,qn⟩
 ·refine vK hp (thn (T.item X rfl rfl rfl hc i pins s3 σ3 H3 X.xe I3 (stat fr3) st3 go) fun r s4 gh=>?_)
  obtain⟨u,hr,h4⟩:=gh
  subst hr
  refine vK hp (thn h4 fun _ s5 gh=>?_)
  obtain⟨x,H5,I5,r5,y5,st5,fr5⟩:=gh
  have I5':=I5.pinned (stat fr5) (T.obj _ _ st5)
  refine vK hp (thn (hg _ s5 σ3 H5 x u _ I5' r5 (step x H5 y5)) fun _ s6 gh=>?_)
  obtain⟨σ6,H6,I6,q6⟩:=gh
  refine vK hp (thn (hb _ s6 σ6 H6 _ I6 q6) fun f s7 q7=>?_)
  have again : ∀ {σ7:St} {H7:Hp},Inv X (pins++xC fp s5.heap) σ7 H7 s7->N σ7 H7 -> ∃ m,m<n /\ ∃ i σ' H',Inv X pins σ' H' s7/\tn i s7.heap/\(∀ b∈fp,H' b=none)/\W i m σ' H':=fun {σ7 H7} I7 n7=>by
   obtain⟨m',hm,w7⟩:=hN σ7 H7 n7
   refine⟨m',hm,i+1,σ7,H7,I7.unpinned,T.keep _ _ _ st5 fun b hb o e=>(I7.pin (b,o) (nZ _ (nZ _ (CI hb e)))).1,fun b hb=>?_,w7⟩
   obtain⟨o,e,d⟩:=T.obj _ _ st5 b hb
   exact(I7.pin (b,o) (nZ _ (nZ _ (CI hb e)))).2.1
  cases f with
  | next=>obtain⟨σ7,H7,I7,n7⟩:=q7; exact again I7 n7
  | cont=>obtain⟨σ7,H7,I7,n7⟩:=q7; exact again I7 n7
  | brk=>obtain⟨σ7,H7,I7,q7⟩:=q7; exact⟨σ7,H7,I7.unpinned,q7⟩
  | ret v=>obtain⟨x7,σ7,H7,I7,r7,q7⟩:=q7; exact⟨x7,σ7,H7,I7.unpinned,r7,q7⟩
end
abbrev R2:=V->V->Hp->VK->Prop
def OpR (X:Cx)(f:aE->aE->Sem aE)(r:R2):Prop:=
 ∀ (pins:List (aD×aY)) (s:aG) (σ:St) (H:Hp) (x y:V) (v u:aE) (Q:VK),Inv X pins σ H s->RelV x v->RelV y u->r x y H Q ->
  aN (aT X.prog X.w) X.A (f v u) (EP X pins σ Q) X.xe s
def UnR (X:Cx)(f:aE->Sem aE)(r:V->Hp->VK->Prop):Prop:=
 ∀ (pins:List (aD×aY)) (s:aG) (σ:St) (H:Hp) (x:V) (v:aE) (Q:VK),Inv X pins σ H s->RelV x v->r x H Q ->
  aN (aT X.prog X.w) X.A (f v) (EP X pins σ Q) X.xe s
def Aeh (X:Cx)(f:aE)(r:List V->Hp->VK->Prop):Prop:=
 ∀ (pins:List (aD×aY)) (s:aG) (σ:St) (H:Hp) (xs:List V) (us:List aE) (Q:VK),Inv X pins σ H s->Vals xs us->r xs H Q ->
  aN (aT X.prog X.w) X.A (call f us) (EP X pins σ Q) X.xe s
noncomputable def tOp (r:R2)(ta tb:TE):TE:=fun σ H Q=>ta σ H fun x H1=>tb σ H1 fun y H2=>r x y H2 Q
noncomputable def tUn (r:V->Hp->VK->Prop)(ta:TE):TE:=fun σ H Q=>ta σ H fun x H1=>r x H1 Q
noncomputable def rI (C:Int->Int->Prop)(g:Int->Int->V):R2:=fun x y H Q=>∃ i j,x = .int i/\y = .int j/\C i j/\Q (g i j) H
noncomputable def rI0 (g:Int->Int->V):R2:=fun x y H Q=>∃ i j,x = .int i/\y = .int j/\Q (g i j) H
def rU (g:Int->V):V->Hp->VK->Prop:=fun x H Q=>∃ i,x = .int i/\Q (g i) H
section
variable {X:Cx}{a b c:aX}{ta tb tc:TE}{pos:cE}
theorem FK (ha:PE X a ta)(hb:PE X b tb){pins:List (aD×aY)}{s:aG}{σ:St}{H:Hp}{R:V->V->Hp->Prop}(I:Inv X pins σ H s)
  (h:ta σ H fun x H1=>tb σ H1 fun y H2=>R x y H2) {Q:aE->aG->Prop} {f:aE->aE->Sem aE}
  (hf : ∀ v u s2 x y H2,Inv X pins σ H2 s2->RelV x v->RelV y u->R x y H2->aN (aT X.prog X.w) X.A (f v u) Q X.xe s2) :
  aN (aT X.prog X.w) X.A (cD a X.env) (fun v s₁=>aN (aT X.prog X.w) X.A (cD b X.env) (fun u s₂=>aN (aT X.prog X.w) X.A (f v u) Q X.xe s₂) X.xe s₁) X.xe s:=by
 refine thn (ha pins s σ H _ I h) fun v s1 gh=>?_
 obtain⟨x,H1,I1,r1,q1⟩:=gh
 refine thn (hb pins s1 σ H1 _ I1 q1) fun u s2 gh=>?_
 obtain⟨y,H2,I2,r2,q2⟩:=gh
 exact hf v u s2 x y H2 I2 r1 r2 q2
theorem Ce {op:Operator}{r:R2}(ho:OpR X (lC op) r)(ha:PE X a ta)(hb:PE X b tb):PE X (.BinOp a op b pos) (tOp r ta tb):=by
 intro pins s σ H Q I h
 exact wpAny_BinOp (FK ha hb I h fun v u s2 x y H2 I2 rx ry q=>ho pins s2 σ H2 x y v u Q I2 rx ry q)
theorem Dv {op:UnaryOp}{r:V->Hp->VK->Prop}(ho:UnR X (unaryOp op) r)(ha:PE X a ta):PE X (.UnaryOp op a pos) (tUn r ta):=by
 intro pins s σ H Q I h
 exact UnaryOp_ (thn (ha pins s σ H _ I h) fun v s1 ⟨x,H1,I1,r1,q1⟩=>ho pins s1 σ H1 x v Q I1 r1 q1)
theorem opI {f:aE->aE->Sem aE}{C:Int->Int->Prop}{g:Int->Int->Int}
  (rule : ∀ (i j:Int) (t u:Tok) (s:aG) (Q:aE->aG->Prop) (E:aE->aG->Prop),C i j->Q (.int (g i j) s.toks) { s with toks:=s.toks+1 }->aN (aT X.prog X.w) X.A (f (.int i t) (.int j u)) Q E s) :
  OpR X f (rI C fun i j=>.int (g i j)):=by
 intro pins s σ H x y v u Q I rx ry h
 obtain⟨i,j,rfl,rfl,hc,q⟩:=h
 obtain⟨t,rfl⟩:=rx
 obtain⟨t',rfl⟩:=ry
 exact rule i j t t' s _ _ hc ⟨.int (g i j),H,I.tok _,⟨_,rfl⟩,q⟩
theorem LX {f:aE->aE->Sem aE}{g:Int->Int->Int}
  (rule : ∀ (i j:Int) (t u:Tok) (s:aG) (Q:aE->aG->Prop) (E:aE->aG->Prop),Q (.int (g i j) s.toks) { s with toks:=s.toks+1 }->aN (aT X.prog X.w) X.A (f (.int i t) (.int j u)) Q E s) :
  OpR X f (rI0 fun i j=>.int (g i j)):=by
 intro pins s σ H x y v u Q I rx ry h
 obtain⟨i,j,rfl,rfl,q⟩:=h
 obtain⟨t,rfl⟩:=rx
 obtain⟨t',rfl⟩:=ry
 exact rule i j t t' s _ _ ⟨.int (g i j),H,I.tok _,⟨_,rfl⟩,q⟩
theorem FM {f:aE->aE->Sem aE}{g:Int->Int->Bool}
  (rule : ∀ (i j:Int) (t u:Tok) (s:aG) (Q:aE->aG->Prop) (E:aE->aG->Prop),Q (.bool (g i j)) s->aN (aT X.prog X.w) X.A (f (.int i t) (.int j u)) Q E s) :
  OpR X f (rI0 fun i j=>.bl (g i j)):=by
 intro pins s σ H x y v u Q I rx ry h
 obtain⟨i,j,rfl,rfl,q⟩:=h
 obtain⟨t,rfl⟩:=rx
 obtain⟨t',rfl⟩:=ry
 exact rule i j t t' s _ _ ⟨.bl (g i j),H,I,rfl,q⟩
def Az (i j:Int):Prop:=0<j/\j<1073741824
def Ab (i j:Int):Prop:=0≤j/\j≤1000000/\i.natAbs<2 ^ 64
def Bgw (i j:Int):Prop:=(-(2 ^ 64)<i/\i<2 ^ 64) \/ (-(2 ^ 64)<j/\j<2 ^ 64)
theorem Bgw.ok {i j:Int}(h:Bgw i j):IntMulOk i j:=by
 rcases h with⟨h1,h2⟩ | ⟨h1,h2⟩
 ·exact .of_left (intBits_le_64 h1 h2)
 ·exact .of_right (intBits_le_64 h1 h2)
theorem Bc8:OpR X (lC .Add) (rI0 fun i j=>.int (i+j)):=LX fun _ _ _ _ _ _ _ q=>add_int q
theorem Eh:OpR X (lC .Sub) (rI0 fun i j=>.int (i - j)):=LX fun _ _ _ _ _ _ _ q=>sub_int q
theorem En:OpR X (lC .Mult) (rI Bgw fun i j=>.int (i*j)):=opI fun _ _ _ _ _ _ _ hc q=>mul_int q hc.ok
theorem Gx:OpR X (lC .FloorDiv) (rI Az fun i j=>.int (i / j)):=opI fun i j _ _ _ _ _ hc q=>by
 have h1:(0:Int)<j:=hc.1
 have h2:j<1073741824:=hc.2
 exact floordiv_int (by omega) (by rw[Int.fdiv_eq_ediv_of_nonneg i (by omega)]; exact q) (.inl (PyProof.noPylong_small (by omega)))
theorem Dn:OpR X (lC .Mod) (rI (fun _ j=>0<j) fun i j=>.int (i%j)):=opI fun i j _ _ _ _ _ hc q=>by
 have h1:(0:Int)<j:=hc
 exact mod_int' (by omega) (by rw[Int.fmod_eq_emod_of_nonneg i (by omega)]; exact q)
theorem Fg:OpR X (lC .Pow) (rI Ab fun i j=>.int (i ^ j.toNat)):=opI fun _ _ _ _ _ _ _ hc q=>pow_int_small hc.1 hc.2.1 hc.2.2 q
theorem unI {f:aE->Sem aE}{g:Int->Int}
  (rule : ∀ (i:Int) (t:Tok) (s:aG) (Q:aE->aG->Prop) (E:aE->aG->Prop),Q (.int (g i) s.toks) { s with toks:=s.toks+1 }->aN (aT X.prog X.w) X.A (f (.int i t)) Q E s) :
  UnR X f (rU fun i=>.int (g i)):=by
 intro pins s σ H x v Q I rx h
 obtain⟨i,rfl,q⟩:=h
 obtain⟨t,rfl⟩:=rx
 exact rule i t s _ _ ⟨.int (g i),H,I.tok _,⟨_,rfl⟩,q⟩
theorem Gf:UnR X (unaryOp .USub) (rU fun i=>.int (-i)):=unI fun _ _ _ _ _ q=>neg_int q
end
section
variable {X:Cx}{a b c:aX}{ta tb tc:TE}{pos:cE}
theorem JJ {pins:List (aD×aY)}{σ:St}{H:Hp}{s:aG}{Q:VK}{k k':Bool}(I:Inv X pins σ H s)(q:Q (.bl k) H)(e:k=k'):EP X pins σ Q (.bool k') s:=by
 subst e
 exact⟨.bl k,H,I,rfl,q⟩
theorem A4f:OpR X (iH .Lt) (rI0 fun i j=>.bl (decide (i<j))):=FM fun _ _ _ _ _ _ _ q=>lt_int q
theorem Ath:OpR X (iH .LtE) (rI0 fun i j=>.bl (decide (i≤j))):=FM fun _ _ _ _ _ _ _ q=>le_int q
theorem nC:OpR X (iH .Gt) (rI0 fun i j=>.bl (decide (j<i))):=FM fun _ _ _ _ _ _ _ q=>gt_int q
theorem BZ:OpR X (iH .Lt) (fun x y H Q=>∃ i j,x = .str i/\y = .str j/\Q (.bl (decide (i.cps.toList<j.cps.toList))) H):=by
 intro pins s σ H x y v u Q I rx ry h
 obtain⟨i,j,rfl,rfl,q⟩:=h
 obtain⟨t,rfl⟩:=rx
 obtain⟨t',rfl⟩:=ry
 exact lt_str (JJ I q rfl)
theorem Ve:OpR X (iH .In) (fun x y H Q=>∃ i j,x = .str i/\y = .str j/\Q (.bl (!(jU j i 0 j.length 1).isEmpty)) H):=by
 intro pins s σ H x y v u Q I rx ry h
 obtain⟨i,j,rfl,rfl,q⟩:=h
 obtain⟨t,rfl⟩:=rx
 obtain⟨t',rfl⟩:=ry
 exact in_str (JJ I q rfl)
theorem Fj:OpR X (iH .Is) (fun x y H Q=>y = .non/\Q (.bl (decide (x = .non))) H):=by
 intro pins s σ H x y v u Q I rx ry h
 obtain⟨rfl,q⟩:=h
 cases ry
 refine is_none_gen (JJ I q ?_)
 cases x <;> first
  | (cases rx; rfl)
  | (obtain⟨t,rfl⟩:=rx; rfl)
theorem OpR.or {f:aE->aE->Sem aE}{r r':R2}(h:OpR X f r)(h':OpR X f r'):OpR X f (fun x y H Q=>r x y H Q \/ r' x y H Q):=by
 intro pins s σ H x y v u Q I rx ry q
 rcases q with q | q
 ·exact h pins s σ H x y v u Q I rx ry q
 ·exact h' pins s σ H x y v u Q I rx ry q
theorem dX (b:aX){op:CmpOp}(h:op ≠ .In:=by decide)(h2:op ≠ .NotIn:=by decide):zJ op b=false:=by
 have e1:(op == CmpOp.In)=false:=by cases op <;> first | rfl | exact absurd rfl h
 have e2:(op == CmpOp.NotIn)=false:=by cases op <;> first | rfl | exact absurd rfl h2
 cases b <;> simp[zJ,e1,e2]
theorem Jc {op:CmpOp}{r:R2}(ho:OpR X (iH op) r)(ha:PE X a ta)(hb:PE X b tb)(hm:zJ op b=false):PE X (.Compare a [op] [b] pos) (tOp r ta tb):=by
 intro pins s σ H Q I h
 exact wpAny_Compare1 (FK ha hb I h fun v u s2 x y H2 I2 rx ry q=>ho pins s2 σ H2 x y v u Q I2 rx ry q) hm
noncomputable def MW (t:TE):TT:=fun σ H Q=>t σ H fun x H'=>∃ k,x = .bl k/\Q k H'
theorem Gu {op:CmpOp}{r:R2}(ho:OpR X (iH op) r)(ha:PE X a ta)(hb:PE X b tb)(hm:zJ op b=false):PT X (.Compare a [op] [b] pos) (MW (tOp r ta tb)):=by
 intro pins s σ H Q I h
 refine wpAny_isTrue_Compare1 (thn (ha pins s σ H _ I h) fun v s1 ⟨x,H1,I1,r1,q1⟩=>thn (hb pins s1 σ H1 _ I1 q1) fun u s2 ⟨y,H2,I2,r2,q2⟩=>
  thn (ho pins s2 σ H2 x y v u _ I2 r1 r2 q2) fun c s3 ⟨z,H3,I3,r3,k,e,q3⟩=>?_) hm
 subst e
 cases r3
 exact sH ⟨H3,I3,q3⟩
noncomputable def VZ (r r':R2)(ta tb tc:TE):TE:=fun σ H Q=>ta σ H fun x H1=>tb σ H1 fun y H2=>r x y H2 fun z H3=>∃ k,z = .bl k /\
 (if k=true then tc σ H3 fun w' H4=>r' y w' H4 Q else Q (.bl false) H3)
theorem Tu {op op':CmpOp}{r r':R2}(ho:OpR X (iH op) r)(ho':OpR X (iH op') r')(ha:PE X a ta)(hb:PE X b tb)(hc:PE X c tc)
  (hm:lastMarks [op,op'] [b,c]=false:=by with_unfolding_all rfl):PT X (.Compare a [op,op'] [b,c] pos) (MW (VZ r r' ta tb tc)):=by
 intro pins s σ H Q I h
 refine isTrue_chain (thn (ha pins s σ H _ I h) fun v s1 ⟨x,H1,I1,r1,q1⟩=>test_link (thn (hb pins s1 σ H1 _ I1 q1) fun u s2 ⟨y,H2,I2,r2,q2⟩=>
  thn (ho pins s2 σ H2 x y v u _ I2 r1 r2 q2) fun d s3 ⟨z,H3,I3,r3,k,e,q3⟩=>?_)) hm
 subst e
 cases r3
 refine sH ?_
 cases k with
 | false=>
  obtain⟨k',e',q'⟩:=q3
  cases e'
  exact ite_ff ⟨H3,I3,q'⟩
 | true=>
  refine ite_tt (test_last (thn (hc pins s3 σ H3 _ I3 q3) fun w' s4 ⟨z',H4,I4,r4,q4⟩=>thn (ho' pins s4 σ H4 y z' u w' _ I4 r2 r4 q4) fun d' s5 gh=>?_))
  obtain⟨z2,H5,I5,r5,k2,e2,q5⟩:=gh
  subst e2
  cases r5
  exact sH ⟨H5,I5,q5⟩
theorem tP:(sizeLine:Nat)<2 ^ 63:=by rw[mX]; decide
theorem Aw5:OpR X (lC .Add) (fun x y H Q=>∃ i j,x = .str i/\y = .str j/\i.length+j.length≤sizeLine/\Q (.str (i++j)) H):=by
 intro pins s σ H x y v u Q I rx ry h
 obtain⟨i,j,rfl,rfl,hz,q⟩:=h
 obtain⟨t,rfl⟩:=rx
 obtain⟨t',rfl⟩:=ry
 exact add_str (fun t' tk=>⟨.str (i++j),H,I.tok _,⟨_,rfl⟩,q⟩) hz
theorem vals1 {x:V}{us:List aE}(r:Vals [x] us) : ∃ u,us=[u]/\RelV x u:=by
 cases r with
 | cons r1 r2=>cases r2; exact⟨_,rfl,r1⟩
theorem vals2 {x y:V}{us:List aE}(r:Vals [x,y] us) : ∃ u w',us=[u,w']/\RelV x u/\RelV y w':=by
 cases r with
 | cons r1 r2=>
  cases r2 with
  | cons r3 r4=>cases r4; exact⟨_,_,rfl,r1,r3⟩
theorem OH:Aeh X (.builtin "abs") (fun xs H Q=>∃ i,xs=[.int i]/\Q (.int (if i<0 then -i else i)) H):=by
 intro pins s σ H xs us Q I r h
 obtain⟨i,rfl,q⟩:=h
 obtain⟨u,rfl,t,rfl⟩:=vals1 r
 exact call_abs_int fun u tk=>⟨.int (if i<0 then -i else i),H,I.tok _,⟨_,rfl⟩,q⟩
theorem Wf:Aeh X (.type "int") (fun xs H Q=>(∃ i,xs=[.int i]/\Q (.int i) H) \/ ∃ k,xs=[.bl k]/\Q (.int (if k then 1 else 0)) H):=by
 intro pins s σ H xs us Q I r h
 rcases h with⟨i,rfl,q⟩ | ⟨k,rfl,q⟩
 ·obtain⟨u,rfl,t,rfl⟩:=vals1 r
  exact call_int_int ⟨.int i,H,I,⟨_,rfl⟩,q⟩
 ·obtain⟨u,rfl,r1⟩:=vals1 r
  cases r1
  exact call_int_bool ⟨.int (if k then 1 else 0),H,I.tok _,⟨_,rfl⟩,q⟩
theorem Ow:Aeh X (.type "str") (fun xs H Q=>∃ i,xs=[.int i]/\i.natAbs.log2<1920/\Q (.str (toString i)) H):=by
 intro pins s σ H xs us Q I r h
 obtain⟨i,rfl,hz,q⟩:=h
 obtain⟨u,rfl,t,rfl⟩:=vals1 r
 exact PySem.P.str_of_int hz ⟨.str _,H,I.tok _,⟨_,rfl⟩,q⟩
end
structure ObjM (h:aW)(x dx C:aD)(mA:aB->Option aE):Prop where
 obj:h.get? x=some (YF C dx)
 ns:h.Ns1 dx mA
 ne:dx≠x
theorem Vz {h:aW}{dx:aD}{mA:aB->Option aE}(n:h.Ns1 dx mA) : ∃ od,h.get? dx=some od /\ ∀ name,YB name od=some (mA name):=by
 obtain⟨o,es,ep,ho,hd,hk,_,hm⟩:=n
 refine⟨o,ho,fun name=>?_⟩
 have e:=hm name
 unfold nsFind findBy at e
 rw[← Array.find?_toList] at e
 unfold YB
 rw[hd]
 dsimp only
 split
 ·rename_i y q
  rw[q] at e
  exact congrArg some e
 ·rename_i q
  rw[q] at e
  have a:es.toList.any (·.refKey)=false:=by
   rw[List.any_eq_false]
   intro y hy
   obtain⟨z,t,hkey⟩:=hk y (Array.mem_toList_iff.mp hy)
   simp[DictEntry.refKey,hkey]
  have a' : ¬ es.toList.any (·.refKey)=true:=by rw[a]; exact oH
  rw[if_neg a']
  exact congrArg some e
theorem ObjM.look {h:aW}{x dx C:aD}{mA:aB->Option aE}(I:ObjM h x dx C mA) : ∃ od,PySem.W.InstAt h x (YF C dx) C (some od) /\ ∀ name,YB name od=some (mA name):=
 let ⟨od,ho,hl⟩:=Vz I.ns
 ⟨od,⟨I.obj,rfl,rfl,ho⟩,hl⟩
theorem A0y.some_of {v:V}{o:Option aE}(r:A0y (some v) o) : ∃ u,o=some u/\RelV v u:=by
 cases o with
 | none=>exact(show False from r).elim
 | some u=>exact⟨u,rfl,r⟩
section
variable {P:bQ}{w:bB}{H H':Hp}{h h':aW}{a C dx:aD}{fs fs':List (aB×V)}
theorem Js (hok:HOk P w H h)(e:H a=some (.ins C dx fs)) : ∃ mA,ObjM h a dx C mA/\(∀ f,A0y (fs.lookup f) (mA f))/\PySem.Within mA (fs.map (·.1))/\fs.length≤1000/\H dx=some (.own a):=by
 obtain⟨d,z,ne,ob,mA,n,r,q⟩:=(show Acv P w H h a (.ins C dx fs) from hok a _ e)
 exact⟨mA,⟨ob,n,ne⟩,r,q,z,d⟩
end
structure Cls (K:aK)(C:aD):Prop where
 pg:PySem.W.plainGet K C Str.empty=true
 hd:PySem.W.hasDictIn K C=true
 po:PySem.W.plainOver K C=true
 sa:PySem.W.findIn K (.ref C) "__setattr__" = some (some (.builtin "object.__setattr__"))
theorem Cls.get {K:aK}{C:aD}(c:Cls K C)(f:aB):PySem.W.plainGet K C f=true:=c.pg
section
variable {X:Cx}{pins:List (aD×aY)}{σ:St}{H:Hp}{s:aG}{A:cF}{E:aE->aG->Prop}{Q:aE->aG->Prop}{c:aE}{b:Bool}
inductive TyOf (K:aK)(H:Hp):V->aE->Prop where
 | non:TyOf K H .non (.type "NoneType")
 | bl (x:Bool):TyOf K H (.bl x) (.type "bool")
 | int (i:Int):TyOf K H (.int i) (.type "int")
 | str (x:aB):TyOf K H (.str x) (.type "str")
 | flt (x:UInt64):TyOf K H (.flt x) (.type "float")
 | lst {a:aD} {xs:List V} (e:H a=some (.lst xs)):TyOf K H (.ref a) (.type "list")
 | frz {a:aD} {o:aY} {xs:List V} (e:H a=some (.frz o (.lst xs))):TyOf K H (.ref a) (.type "list")
 | tup {a:aD} {xs:List V} (e:H a=some (.tup xs)):TyOf K H (.ref a) (.type "tuple")
 | dK {a:aD} {ep:Nat} {kvs:List (aO×V)} (e:H a=some (.dK ep kvs)):TyOf K H (.ref a) (.type "dict")
 | dT {a:aD} {ep:Nat} {kvs:List (List aA×V)} (e:H a=some (.dT ep kvs)):TyOf K H (.ref a) (.type "dict")
 | ins {a C dx:aD} {fs:List (aB×V)} (e:H a=some (.ins C dx fs)) (cl:Cls K C) (ha:PySem.W.findIn K (.ref C) "__class__" = some (some (.builtin "object.__class__")))
   (hn:PySem.W.specialIn K (.builtin "object.__class__") "__get__" = some (some (.builtin "getset_descriptor.__get__"))) (htk:PySem.W.takesIn K (.builtin "object.__class__")=some true)
   (hm:PySem.W.mroIn K C (.type "object")=some true):TyOf K H (.ref a) (.ref C)
theorem Km {x:V}{u t:aE}(I:Inv X pins σ H s)(rx:RelV x u)(ty:TyOf X.K H x t)(e:YE X.K t c=some b)(h : ∀ tk,Q (.bool b) { s with toks:=tk }) :
  aN (aT X.prog X.w) A (call (.builtin "isinstance") [u,c]) Q E s:=by
 cases ty with
 | non=>cases(show u=fT from rx); exact lW PySem.W.kitx_none I.kIn qN e (fun z=>nomatch z) h
 | bl y=>cases(show u=Value.bool y from rx); exact lW PySem.W.kitx_bool I.kIn qN e (fun z=>nomatch z) h
 | int i=>obtain⟨t,q⟩:=(show ∃ t,u=Value.int i t from rx); cases q; exact lW PySem.W.kitx_int I.kIn qN e (fun z=>nomatch z) h
 | str y=>obtain⟨t,q⟩:=(show ∃ t,u=Value.str y t from rx); cases q; exact lW PySem.W.kitx_str I.kIn qN e (fun z=>nomatch z) h
 | flt y=>obtain⟨t,q⟩:=(show ∃ t,u=Value.float y t from rx); cases q; exact lW PySem.W.kitx_float I.kIn qN e (fun z=>nomatch z) h
 | @lst a xs ea=>
  cases(show u=fR a from rx)
  obtain⟨_,_,n,_,h1⟩:=(show Acv X.prog X.w H s.heap a (.lst xs) from I.hok a _ ea)
  exact lW YC I.kIn ⟨_,h1,rfl⟩ e (fun z=>nomatch z) h
 | @frz a ob xs ea=>
  cases(show u=fR a from rx)
  obtain⟨_,_,_,n,_,h1⟩:=(show Acv X.prog X.w H s.heap a (.frz ob (.lst xs)) from I.hok a _ ea)
  exact lW YC I.kIn ⟨_,h1,rfl⟩ e (fun z=>nomatch z) h
 | @tup a xs ea=>
  cases(show u=fR a from rx)
  obtain⟨_,_,_,p⟩:=(show Acv X.prog X.w H s.heap a (.tup xs) from I.hok a _ ea)
  obtain⟨o,h1,h2,_⟩:=p.1
  exact lW PySem.W.kitx_tuple I.kIn ⟨o,h1,h2⟩ e (fun z=>nomatch z) h
 | @dK a ep kvs ea=>
  cases(show u=fR a from rx)
  obtain⟨_,_,vs,_,p⟩:=(show Acv X.prog X.w H s.heap a (.dK ep kvs) from I.hok a _ ea)
  obtain⟨o,es,h1,h2,_⟩:=p
  exact lW YD I.kIn ⟨o,h1,h2.1⟩ e (fun z=>nomatch z) h
 | @dT a ep kvs ea=>
  cases(show u=fR a from rx)
  obtain⟨_,_,xs,_,o,es,h1,h2,_⟩:=(show Acv X.prog X.w H s.heap a (.dT ep kvs) from I.hok a _ ea)
  exact lW YD I.kIn ⟨o,h1,h2.1⟩ e (fun z=>nomatch z) h
 | @ins a C dx fs ea cl ha hn htk hm=>
  cases(show u=fR a from rx)
  obtain⟨mA,O,_⟩:=Js I.hok ea
  obtain⟨od,J,_⟩:=O.look
  exact lW (PySem.W.kitx_own (cl.get _) cl.hd ha hn htk hm) I.kIn J e (fun z=>nomatch z) h
end
structure Room (k:Nat)(A:cF):Prop where
 hd:A.handled=none
 dp:A.depth+3*k+5<recursionLimit
 un:A.units+16*k+200<cLine
theorem Room.mono {j k:Nat}{A:cF}(r:Room k A)(h:j≤k):Room j A:=⟨r.hd,by have:=r.dp; omega,by have:=r.un; omega⟩
theorem Room.deeper {k:Nat}{A:cF}(r:Room (k+1) A)(env:eU):Room k (A.deeper env):=
 ⟨r.hd,by have:=r.dp; show A.depth+1+3*k+5<_; omega,by have:=r.un; show A.units+3+16*k+200<_; omega⟩
theorem Room.depth {k:Nat}{A:cF}(r:Room k A):A.depth<recursionLimit:=by have:=r.dp; omega
theorem Room.units {k:Nat}{A:cF}(r:Room k A):A.units+64<cLine:=by have:=r.un; omega
noncomputable abbrev Ah:TA:=fun _ H Q=>Q [] H
noncomputable abbrev Ca (ta:TE)(tr:TA):TA:=fun σ H Q=>ta σ H fun x H1=>tr σ H1 fun xs H2=>Q (x::xs) H2
section
variable {X:Cx}{e:aX}{es:List aX}{te:TE}{t:TA}{pos:cE}
theorem kT:PA X [] Ah:=fun _ _ _ _ H Q I h=>Calls.spliced_nil ⟨[],H,I,.nil,h⟩
theorem jZ (ha:PE X e te)(hr:PA X es t)(hs:bM (e::es) X.env=(false,cD e X.env)::bM es X.env:=by rfl):PA X (e::es) (Ca te t):=by
 intro pos pins s σ H Q I h
 rw[hs]
 show aN _ _ (spliced ((false,cD e X.env)::eX pos (bM es X.env))) _ _ s
 refine Calls.spliced_cons (thn (ha pins s σ H _ I h) fun u s1 gh=>?_)
 obtain⟨x,H1,I1,r1,q1⟩:=gh
 exact thn (hr pos pins s1 σ H1 _ I1 q1) fun us s2 ⟨xs,H2,I2,r2,q2⟩=>⟨x::xs,H2,I2,.cons r1 r2,q2⟩
noncomputable def Ao (t:TA):TE:=fun σ H Q=>t σ H fun xs H1=>xs.length≤sizeLine /\ ∀ p,H1 p=none->Q (.ref p) (upd H1 p (.tup xs))
noncomputable def Bc (t:TA):TE:=fun σ H Q=>t σ H fun xs H1=>xs.length≤sizeLine /\ ∀ p,H1 p=none->Q (.ref p) (upd H1 p (.lst xs))
theorem Eg {x1}(h:PA X es t):PE X (.Tuple es x1 pos) (Ao t):=by
 intro pins s σ H Q I hq
 refine wpAny_Tuple_spliced (thn (h pos pins s σ H _ I hq) fun us s1 ⟨xs,H1,I1,r,z,q⟩=>⟨by rw[← r.length]; exact z,?_⟩)
 have hf:H1 s1.heap.objs.size=none:=I1.hok.fresh (bY _)
 refine⟨.ref s1.heap.objs.size,upd H1 s1.heap.objs.size (.tup xs),I1.laid (t':=s1.toks) (fun b u e=>cL _ e) (bY _) ?_,rfl,q _ hf⟩
 exact⟨z,us,r,⟨_,eL _ rfl,rfl,_,rfl⟩,_,eL _ rfl,rfl⟩
theorem Fo (h:PA X es t):PE X (.List es pos) (Bc t):=by
 intro pins s σ H Q I hq
 refine wpAny_List_spliced (thn (h pos pins s σ H _ I hq) fun us s1 ⟨xs,H1,I1,r,z,q⟩=>⟨by rw[← r.length]; exact z,?_⟩)
 have hf:H1 s1.heap.objs.size=none:=I1.hok.fresh (bY _)
 refine⟨.ref s1.heap.objs.size,upd H1 s1.heap.objs.size (.lst xs),I1.laid (t':=s1.toks) (fun b u e=>cL _ e) (bY _) ?_,rfl,q _ hf⟩
 exact⟨z,us,0,r,eL _ rfl⟩
end
abbrev Sp:=List V->Hp->VK->XK->Prop
abbrev CXT:=List eU->Hp->aG->XK->aE->aG->Prop
structure Env0 (P:bQ)(w:bB)(K:aK)(mg:aB->Option aE)(base:aW)(A:cF)(outer:List eU)(s:aG)(H:Hp):Prop where
 frames:A.frames=some outer
 mod:Mod K mg base
 bs : ∀ b o,base.get? b=some o->s.heap.get? b=some o/\H b=none
 bsz:base.objs.size≤s.heap.objs.size
 funs:s.heap.FunFrames base outer
 frf : ∀ b∈frs outer,H b=none
 hok:HOk P w H s.heap
 bare:pQ s.gens
def CE (outer:List eU)(P:bQ)(w:bB)(H:Hp)(s:aG)(Q:VK)(u:aE)(s':aG):Prop:=
 ∃ v H',s'.os=s.os/\pQ s'.gens/\Un (frs outer) [] H H' s.heap s'.heap/\HOk P w H' s'.heap/\RelV v u/\Q v H'
def CR (CX:CXT)(outer:List eU)(P:bQ)(w:bB)(H:Hp)(s:aG)(Q:VK)(E:XK)(r:Result)(s':aG):Prop:=
 match r with
 | .ok (.ret u)=>CE outer P w H s Q u s'
 | .ok _=>False
 | .error e=>CX outer H s E e s'
structure FnOk (P:bQ)(w:bB)(K:aK)(mg:aB->Option aE)(base:aW)(CX:CXT)(k:Nat)(f:aD)(fd:fX)(ps:List aB)(sp:Sp):Prop where
 len : ∀ vs H Q E,sp vs H Q E->vs.length=ps.length
 run : ∀ (A:cF) (outer:List eU) (s:aG) (H:Hp) (args:Args) (us:List aE) (vs:List V) (Q:VK) (E:XK),Room k A->Env0 P w K mg base A outer s H->BindsTo s fd args (ps.zip us)->Vals vs us->sp vs H Q E ->
  nW (aT P w) A (.call (.ref f) args) (CR CX outer P w H s Q E) s
theorem FnOk.imp {P:bQ}{w:bB}{K:aK}{mg:aB->Option aE}{base:aW}{CX:CXT}{k:Nat}{f:aD}{fd:fX}{ps:List aB}{sp sp':Sp}(F:FnOk P w K mg base CX k f fd ps sp)
  (h : ∀ vs H Q E,sp' vs H Q E->sp vs H Q E):FnOk P w K mg base CX k f fd ps sp':=
 ⟨fun vs H Q E q=>F.len vs H Q E (h _ _ _ _ q),fun A outer s H args us vs Q E hr he hb hv hs=>F.run A outer s H args us vs Q E hr he hb hv (h _ _ _ _ hs)⟩
section
variable {X:Cx}{pins:List (aD×aY)}{σ:St}{H:Hp}{s s':aG}
theorem Inv.env0 (I:Inv X pins σ H s):Env0 X.prog X.w X.K X.mg X.base X.A X.stack s H:=
 ⟨I.ok.frames,I.ok.mod,I.bs,iR I.ok.bsz I.sz,I.stack,I.stkFree,I.hok,I.bare⟩
theorem Inv.after {Q:VK}{u:aE}(I:Inv X pins σ H s)(h:CE X.stack X.prog X.w H s Q u s'):EP X pins σ Q u s':=by
 obtain⟨v,H',os,bare,un,hok,r,q⟩:=h
 obtain⟨hh,g,d,t,os'⟩:=s'
 obtain rfl:os'=s.os:=os
 exact⟨v,H',I.call (h':=hh) (g':=g) (d':=d) (t':=t) (ch:=[]) un hok bare (fun b z=>absurd z (by simp)),r,q⟩
end
noncomputable def FP (sp:Sp)(dvs:List V)(E:XK)(t:TA):TE:=fun σ H Q=>t σ H fun vs H1=>sp (vs++dvs) H1 Q E
def Binds (K:aK)(fd:fX)(ps:List aB)(ds:List aE):Prop:=
 ∀ (s:aG) (us:List aE),K.In s.heap->(us++ds).length=ps.length->BindsTo s fd ⟨us,[]⟩ (ps.zip (us++ds))
theorem Binds.all {K:aK}{fd:fX}{ps:List aB}(h : ∀ us:List aE,us.length=ps.length->vV fd ⟨us,[]⟩=pure (ps.zip us)):Binds K fd ps []:=fun s us _ hl=>by
 rw[oD] at hl ⊢
 exact .of_eq (h us hl)
def Passes (CX:CXT)(X:Cx)(E:XK):Prop:=∀ (pins:List (aD×aY)) (σ:St) (H:Hp) (s:aG) (e:aE) (s':aG),Inv X pins σ H s->CX X.stack H s E e s'->X.xe e s'
section
variable {X:Cx}{CX:CXT}{k:Nat}{f C:aD}{fd:fX}{ps:List aB}{sp:Sp}{dvs:List V}{ds:List aE}{E:XK}{x m:aB}{p pos apos:cE}{e o:aX}{es:List aX}{ta:TE}{t:TA}
theorem VA {pins:List (aD×aY)}{σ:St}{H:Hp}{s:aG}{Q:VK}{us:List aE}{vs:List V}(F:FnOk X.prog X.w X.K X.mg X.base CX k f fd ps sp)(hr:Room k X.A)(hb:Binds X.K fd ps ds)(hd:Vals dvs ds)(hx:Passes CX X E)
  (I:Inv X pins σ H s) (r:Vals vs us) (h:sp (vs++dvs) H Q E):aN (aT X.prog X.w) X.A (call (.ref f) us) (EP X pins σ Q) X.xe s:=by
 have r2:Vals (vs++dvs) (us++ds):=r.append hd
 have hl:(us++ds).length=ps.length:=by rw[← r2.length]; exact F.len _ _ _ _ h
 refine wpAny_call (vT (F.run X.A X.stack s H ⟨us,[]⟩ (us++ds) (vs++dvs) Q E hr I.env0 (hb s us I.kIn hl) r2 h) fun r s' hq=>?_)
 cases r with
 | error e=>exact hx pins σ H s e s' I hq
 | ok fl=>
  cases fl with
  | ret u=>exact I.after hq
  | next=>exact pO hq
  | brk=>exact pO hq
  | cont=>exact pO hq
theorem XB (F:FnOk X.prog X.w X.K X.mg X.base CX k f fd ps sp)(hr:Room k X.A)(hg:Gl X x)(hm:X.mg x=some (.ref f))(hk:qO X.K (.ref f)=true)(hb:Binds X.K fd ps ds)(hd:Vals dvs ds)(hx:Passes CX X E)
  (ha:PA X (e::es) t) (hdb:(x == ("__debug__" : aB))=false:=by decide) (he:bM (e::es) X.env=(false,cD e X.env)::bM es X.env:=by rfl) (hpl:(eX pos (bM es X.env)).any (·.1)=false:=by rfl) :
  PE X (.Call (.Name x p) (e::es) [] pos) (FP sp dvs E t):=by
 intro pins s σ H Q I h
 refine JU (AW I hg hm ?_ hdb)
 refine PySem.W.callWith_K (h₀:=X.base) I.ok.mod.kin hk (thn (ha pos pins s σ H _ I h) fun us s1 ⟨vs,H1,I1,r,q⟩=>⟨I1.kIn,?_⟩) he hpl
 exact VA F hr hb hd hx I1 r q
end
structure FnScope (N P:List aB)(sc:iI):Prop where
 kind:sc.kind = .function
 co:sc.isCoroutine=false
 gen:sc.isGenerator=false
 nd:N.Nodup
 pre:N.take P.length=P
 par : ∀ x∈P,sc.names.lookup x=some .local \/ sc.names.lookup x=some .cell
 nofree : ∀ y∈sc.names,y.2 ≠ .free
theorem RV {kindOf:aB->Option mB}{x:aB} : ∀ {binds:List (aB×aE)} {m:aB->Option aE},(∀ v,(x,v)∉binds)->bindL kindOf binds m x=m x
 | [],_,_=>rfl
 | (n,v)::r,m,h=>by
  unfold bindL
  rw[RV fun w hw=>h w (bZ _ hw)]
  split
  ·have:x≠n:=by rintro rfl; exact h v bR
   simp[this]
  ·rfl
theorem QX {kindOf:aB->Option mB}{x:aB} : ∀ {binds:List (aB×aE)} {m:aB->Option aE},(∀ v,(x,v)∉binds)->bindC kindOf binds m x=m x
 | [],_,_=>rfl
 | (n,v)::r,m,h=>by
  unfold bindC
  rw[QX fun w hw=>h w (bZ _ hw)]
  split
  ·rfl
  ·have:x≠n:=by rintro rfl; exact h v bR
   simp[this]
theorem RL {kindOf:aB->Option mB}{x:aB}{v:aE} : ∀ {P:List aB} {vs:List aE} {i:Nat} {m:aB->Option aE},P.Nodup->P[i]?=some x->vs[i]?=some v->kindOf x=some .local ->
  bindL kindOf (P.zip vs) m x=some v
 | [],_,_,_,_,h,_,_=>by simp at h
 | _::_,[],_,_,_,_,h,_=>by simp at h
 | p::P,w::vs,0,m,nd,h1,h2,hk=>by
  simp at h1 h2; subst h1; subst h2
  show bindL kindOf ((p,w)::P.zip vs) m p=_
  unfold bindL
  rw[RV fun v hv=>(nY.mp nd).1 (YY hv).1,if_pos hk]
  simp
 | p::P,w::vs,i+1,m,nd,h1,h2,hk=>by
  show bindL kindOf ((p,w)::P.zip vs) m x=_
  unfold bindL
  exact RL (i:=i) (nY.mp nd).2 (by simpa using h1) (by simpa using h2) hk
theorem RD {kindOf:aB->Option mB}{x:aB}{v:aE} : ∀ {P:List aB} {vs:List aE} {i:Nat} {m:aB->Option aE},P.Nodup->P[i]?=some x->vs[i]?=some v->kindOf x≠some .local ->
  bindC kindOf (P.zip vs) m x=some v
 | [],_,_,_,_,h,_,_=>by simp at h
 | _::_,[],_,_,_,_,h,_=>by simp at h
 | p::P,w::vs,0,m,nd,h1,h2,hk=>by
  simp at h1 h2; subst h1; subst h2
  show bindC kindOf ((p,w)::P.zip vs) m p=_
  unfold bindC
  rw[QX fun v hv=>(nY.mp nd).1 (YY hv).1,if_neg hk]
  simp
 | p::P,w::vs,i+1,m,nd,h1,h2,hk=>by
  show bindC kindOf ((p,w)::P.zip vs) m x=_
  unfold bindC
  exact RD (i:=i) (nY.mp nd).2 (by simpa using h1) (by simpa using h2) hk
noncomputable def start (N:List aB)(vs:List V):St:=vs.map some++mC (N.length - vs.length) none
noncomputable def jJ (CX:CXT)(P:bQ)(w:bB)(K:aK)(mg:aB->Option aE)(base:aW)(N:List aB)(qual:aB)(scope:iI)(f:aD)(cd:aE)(A:cF)(outer:List eU)(s:aG)(H:Hp)(E:XK):Cx where
 prog:=P
 w:=w
 K:=K
 mg:=mg
 base:=base
 A:=A.deeper (iQ qual scope s.heap.objs.size f cd)
 N:=N
 s₀:=s
 H₀:=H
 env:=iQ qual scope s.heap.objs.size f cd
 outer:=outer
 stack:=iQ qual scope s.heap.objs.size f cd::outer
 ex:=[]
 calm:=true
 fn:=fun _=>true
 pn:=[]
 xe:=fun e s'=>aN (aT P w) (A.deeper (iQ qual scope s.heap.objs.size f cd)) (leaving (iQ qual scope s.heap.objs.size f cd) e) (fun _ s''=>CX outer H s E e s'') (fun e' s''=>CX outer H s E e' s'') s'
theorem NP {sc:iI}{n:Nat}{x:aB}(h:sc.names.lookup x=some .cell) : ∃ c,(cellsFrom n sc.names []).lookup x=some c:=by
 have q:=PySem.W.cellsFrom_some sc.names n [] (.inl h)
 exact YR.mp q
theorem Lp {CX:CXT}{P:bQ}{w:bB}{K:aK}{mg:aB->Option aE}{base:aW}{N ps:List aB}{qual:aB}{scope:iI}{f:aD}{cd:aE}{A:cF}{outer:List eU}{s s1:aG}{H:Hp}{E:XK}{us:List aE}{vs:List V}
  (S:FnScope N ps scope) (hd:A.handled=none) (e0:Env0 P w K mg base A outer s H) (hl:vs.length=ps.length) (r:Vals vs us)
  (x:InCallC s s.heap.objs.size (bindL (iQ qual scope s.heap.objs.size f cd).kindOf (ps.zip us) fun _=>none) (cellsFrom (s.heap.objs.size+1) scope.names []) (bindC (iQ qual scope s.heap.objs.size f cd).kindOf (ps.zip us) fun _=>none) s1) :
  Inv (jJ CX P w K mg base N qual scope f cd A outer s H E) [] (start N vs) H s1:=by
 have hpl:ps.length≤N.length:=by have:=congrArg qS S.pre; rw[kK] at this; omega
 obtain⟨h1,tk,rfl,hk⟩:=x.done
 have noA : ∀ b:aD,b∉(jJ CX P w K mg base N qual scope f cd A outer s H E).ex:=fun b z=>absurd (show b∈([]:List aD) from z) (by simp)
 refine⟨⟨e0.mod,S.kind,rfl,rfl,bY _,fun y z c h1 h2=>?_,fun y hy=>?_,fun y c _ h=>?_,fun _=>hd,Around.frames_deeper e0.frames,.inr ⟨rfl,rfl⟩,fun b z=>absurd z (noA b),e0.bs,e0.bsz,fun b _ _=>noA b,fun b z=>absurd z (noA b),e0.funs,e0.frf⟩,
  rfl,e0.bare,Un.kept hk,⟨_,x.toInCall.ns,fun i y v h1 h2 h3=>?_⟩,fun y c h=>⟨_,x.cell y c h⟩,e0.hok.fresh (bY _),fun y c h=>?_,fun p hp=>absurd (show p∈([]:List (aD×aY)) from hp) (by simp),e0.hok.kept hk,?_⟩
 ·exact name_of_addr x.apart (EI h1) (EI h2)
 ·have hy:scope.names.lookup y=some .cell \/ scope.names.lookup y=some .free:=hy
  rcases hy with hy | hy
  ·exact NP hy
  ·exact absurd rfl (S.nofree _ (EI hy))
 ·exact sQ (x.above y c (EI h))
 ·have hi:i<vs.length:=by
   unfold start at h2
   by_cases hi:i<vs.length
   ·exact hi
   ·rw[wH (by simpa using hi)] at h2
    rw[List.getElem?_replicate] at h2
    split at h2 <;> cases h2
  have ha:vs[i]?=some v:=by
   unfold start at h2
   rw[qW (by simpa using hi),fK] at h2
   cases e:vs[i]? with
   | none=>rw[e] at h2; cases h2
   | some a=>rw[e] at h2; cases h2; rfl
  obtain⟨u,hu,rv⟩:=r.get ha
  have hp:ps[i]?=some y:=by
   rw[← S.pre,ZE (by omega)]; exact h1
  have ndP:ps.Nodup:=by rw[← S.pre]; exact S.nd.sublist (List.take_sublist _ _)
  refine⟨u,rv,?_⟩
  rcases S.par y (gQ hp) with k | k
  ·exact .inl ⟨k,RL ndP hp hu k⟩
  ·obtain⟨c,e⟩:=NP (n:=s.heap.objs.size+1) k
   refine .inr ⟨.inl k,c,e,?_⟩
   have q:=x.cell y c e
   rw[RD ndP hp hu (by show scope.names.lookup y≠_; rw[k]; decide)] at q
   exact q
 ·exact e0.hok.fresh (sQ (x.above y c (EI h)))
 ·unfold start
  show _=N.length
  rw[hV,dJ,List.length_replicate]
  omega
theorem MI {CX:CXT}{P:bQ}{w:bB}{K:aK}{mg:aB->Option aE}{base:aW}{k:Nat}{f:aD}{name qual:aB}{params:Arguments}{body:List bP}{scope:iI}{dV kV doc pm cdv ct oc:aE}{an od:Option aD}
  {osl:Array (Option aE)} {N ps:List aB} {sp:Sp} (lk:K.lookup f=some ⟨oc,od,.func (kF name qual params body scope dV kV doc pm an cdv ct),osl⟩) (hcd:zL K cdv qual=true) (S:FnScope N ps scope)
  (len : ∀ vs H Q E,sp vs H Q E->vs.length=ps.length)
  (hbody : ∀ (A:cF) (outer:List eU) (s:aG) (H:Hp) (vs:List V) (Q:VK) (E:XK),Room k (A.deeper (iQ qual scope s.heap.objs.size f cdv))->sp vs H Q E ->
   ∃ t,PSs (jJ CX P w K mg base N qual scope f cdv A outer s H E) body t/\t { nx:=fun _ H'=>Q .non H',rt:=Q } (start N vs) H) :
  FnOk P w K mg base CX (k+1) f (kF name qual params body scope dV kV doc pm an cdv ct) ps sp:=by
 refine⟨len,fun A outer s H args us vs Q E hr e0 hb r hsp=>?_⟩
 have hl:=len _ _ _ _ hsp
 have KX:K.In s.heap:=e0.mod.kin.keeps fun b o e=>(e0.bs b o e).1
 have lim:s.heap.NoLimit:=e0.mod.nolimit.keeps fun b o e=>(e0.bs b o e).1
 have hkind : ∀ y∈ps.zip us,scope.names.lookup y.1=some .local \/ (scope.names.lookup y.1=some .cell/\((cellsFrom (s.heap.objs.size+1) scope.names []).lookup y.1).isSome=true):=fun⟨n,v⟩ hy=>by
  rcases S.par n (YY hy).1 with q | q
  ·exact .inl q
  ·exact .inr ⟨q,PySem.W.cellsFrom_some _ _ _ (.inl q)⟩
 refine codeAny_call_function hr.depth (KX _ _ lk) rfl S.co S.gen rfl (PySem.W.codeRec_of KX hcd) (hb _ _ _ _ ?_)
 refine wpAny_newFunctionEnv_cells S.kind hkind fun env he s1 x=>?_
 subst he
 refine⟨lim.keeps x.toInCall.keep,codeAny_func ?_⟩
 obtain⟨t,ht,hq⟩:=hbody A outer s H vs Q E (hr.deeper _) hsp
 have I:Inv (jJ CX P w K mg base N qual scope f cdv A outer s H E) [] (start N vs) H s1:=Lp S hr.hd e0 hl r x
 refine lB (ht [] s1 (start N vs) H _ I hq) (fun fl s' hs=>?_) fun e s' hs=>hs
 have fin : ∀ {σ':St} {H':Hp} {v:V} {u:aE},Inv (jJ CX P w K mg base N qual scope f cdv A outer s H E) [] σ' H' s'->RelV v u->Q v H'->CE outer P w H s Q u s':=
  fun {σ' H' v u} J rv q=>⟨v,H',J.os,J.bare,J.base,J.hok,rv,q⟩
 cases fl with
 | ret u=>
  obtain⟨v,σ',H',J,rv,q⟩:=hs
  exact fin J rv q
 | next=>
  obtain⟨σ',H',J,q⟩:=hs
  exact fin (v:=V.non) (u:=fT) J rfl q
 | brk=>
  obtain⟨_,_,_,q⟩:=hs
  exact pO q
 | cont=>
  obtain⟨_,_,_,q⟩:=hs
  exact pO q
section
variable {X:Cx}{x:aB}{p pos:cE}{e:aX}{es:List aX}{t:TA}{id T:String}{r:List V->Hp->VK->Prop}
noncomputable def tCB (r:List V->Hp->VK->Prop)(t:TA):TE:=fun σ H Q=>t σ H fun vs H1=>r vs H1 Q
theorem BM (hc:Aeh X (.builtin id) r)(hg:Gl X x)(hm:X.mg x=none)(hv:lU x=some (.builtin id))(ha:PA X (e::es) t)(hn:x ≠ "__name__":=by decide)(hdb:(x == ("__debug__" : aB))=false:=by decide)
  (he:bM (e::es) X.env=(false,cD e X.env)::bM es X.env:=by rfl) (hpl:(eX pos (bM es X.env)).any (·.1)=false:=by rfl):PE X (.Call (.Name x p) (e::es) [] pos) (tCB r t):=by
 intro pins s σ H Q I h
 refine JU (AO I hg hm hv ?_ hn hdb)
 exact PyProof.Rows.callWith_builtin1 (thn (ha pos pins s σ H _ I h) fun us s1 ⟨vs,H1,I1,r1,q1⟩=>hc pins s1 σ H1 vs us Q I1 r1 q1) he hpl
theorem HN (hc:Aeh X (.type T) r)(hg:Gl X x)(hm:X.mg x=none)(hv:lU x=some (.type T))(ha:PA X (e::es) t)(hn:x ≠ "__name__":=by decide)(hdb:(x == ("__debug__" : aB))=false:=by decide)
  (he:bM (e::es) X.env=(false,cD e X.env)::bM es X.env:=by rfl) (hpl:(eX pos (bM es X.env)).any (·.1)=false:=by rfl):PE X (.Call (.Name x p) (e::es) [] pos) (tCB r t):=by
 intro pins s σ H Q I h
 refine JU (AO I hg hm hv ?_ hn hdb)
 exact Xa (thn (ha pos pins s σ H _ I h) fun us s1 ⟨vs,H1,I1,r1,q1⟩=>hc pins s1 σ H1 vs us Q I1 r1 q1) he hpl
end
section
variable {κ:Type}[DecidableEq κ]
noncomputable def jC (kvs:List (κ×V))(k:κ):Option V:=(kvs.find? fun kv=>decide (kv.1=k)).map (·.2)
noncomputable def putK (kvs:List (κ×V))(k:κ)(v:V):List (κ×V):=
 if (kvs.any fun kv=>decide (kv.1=k))=true then kvs.map (fun kv=>if kv.1=k then(kv.1,v) else kv) else kvs++[(k,v)]
theorem xN {p:κ×V}{r:List (κ×V)}{k:κ}(e:p.1=k):jC (p::r) k=some p.2:=by simp[jC,oA,e]
theorem xP {p:κ×V}{r:List (κ×V)}{k:κ}(e : ¬ p.1=k):jC (p::r) k=jC r k:=by simp[jC,oA,e]
theorem PK (k:κ) : ∀ kvs:List (κ×V),(kvs.any fun kv=>decide (kv.1=k))=(jC kvs k).isSome
 | []=>rfl
 | p::r=>by
  rw[zW]
  by_cases e:p.1=k
  ·simp only[xN e,decide_eq_true e,Bool.true_or,Option.isSome_some]
  ·rw[xP e,decide_eq_false e,Bool.false_or]; exact PK k r
theorem TM (kvs:List (κ×V))(k:κ)(v:V):(putK kvs k v).length≤kvs.length+1:=by
 unfold putK
 split
 ·rw[dJ]; omega
 ·rw[hV,fF,KN]; omega
theorem A0y.isSome_eq {o:Option V}{u:Option aE}(r:A0y o u):o.isSome=u.isSome:=by
 cases o with
 | none=>cases u with
  | none=>rfl
  | some _=>exact(show False from r).elim
 | some _=>cases u with
  | none=>exact(show False from r).elim
  | some _=>rfl
theorem KV.val {kvs:List (κ×V)}{vs:List (κ×aE)}(r:KV kvs vs)(k:κ):A0y (jC kvs k) (vM vs k):=by
 unfold KV at r
 induction r with
 | nil=>exact qN
 | @cons p q ps qs h t ih=>
  obtain⟨h1,h2⟩:=h
  by_cases e:p.1=k
  ·have e':q.1=k:=h1.symm.trans e
   have b:vM (q::qs) k=some q.2:=by simp[vM,oA,e']
   rw[xN e,b]; exact h2
  ·have e' : ¬ q.1=k:=fun z=>e (h1.trans z)
   have b:vM (q::qs) k=vM qs k:=by simp[vM,oA,e']
   rw[xP e,b]; exact ih
theorem KV.any {kvs:List (κ×V)}{vs:List (κ×aE)}(r:KV kvs vs)(k:κ):(kvs.any fun kv=>decide (kv.1=k))=vs.any fun kv=>decide (kv.1=k):=by
 unfold KV at r
 induction r with
 | nil=>rfl
 | cons h t ih=>rw[zW,zW,ih,h.1]
theorem KV.repl {kvs:List (κ×V)}{vs:List (κ×aE)}(r:KV kvs vs)(k:κ){y:V}{u:aE}(ry:RelV y u) :
  KV (kvs.map fun kv=>if kv.1=k then(kv.1,y) else kv) (vs.map fun kv=>if kv.1=k then(kv.1,u) else kv):=by
 unfold KV at r ⊢
 induction r with
 | nil=>exact .nil
 | @cons p q ps qs h t ih=>
  rw[fE,fE]
  refine .cons ?_ ih
  obtain⟨h1,h2⟩:=h
  by_cases e:p.1=k
  ·rw[if_pos e,if_pos (h1.symm.trans e)]; exact⟨h1,ry⟩
  ·rw[if_neg e,if_neg (fun z=>e (h1.trans z))]; exact⟨h1,h2⟩
theorem KV.put {kvs:List (κ×V)}{vs:List (κ×aE)}(r:KV kvs vs)(k:κ){y:V}{u:aE}(ry:RelV y u):KV (putK kvs k y) (stored vs k u):=by
 unfold putK stored
 rw[r.any k]
 by_cases e:(vs.any fun kv=>decide (kv.1=k))=true
 ·rw[if_pos e,if_pos e]; exact r.repl k ry
 ·rw[if_neg e,if_neg e]; exact Paired.snoc r ⟨rfl,ry⟩
theorem KV.length {kvs:List (κ×V)}{vs:List (κ×aE)}(r:KV kvs vs):kvs.length=vs.length:=pI r
end
theorem DP {P:bQ}{w:bB}{k:aO}{u:aE}(r:RelV (kV k) u):(iO P w).is k u=true:=by
 cases k with
 | inl i=>obtain⟨t,e⟩:=(show ∃ t,u=Value.int i t from r); subst e; exact IK P w i t
 | inr x=>obtain⟨t,e⟩:=(show ∃ t,u=Value.str x t from r); subst e; exact IQ P w x t
abbrev KT (H:Hp):List (List aA×V)->List (List aA×aD×aE)->Prop:=eP fun p q=>p.1=q.1/\Ay6 H p.1 q.2.1/\RelV p.2 q.2.2
theorem KT.val {H:Hp}{kvs:List (List aA×V)}{xs:List (List aA×aD×aE)}(r:KT H kvs xs)(k:List aA):A0y (jC kvs k) ((atKey xs k).map (·.2)):=by
 induction r with
 | nil=>exact qN
 | @cons p q ps qs h t ih=>
  obtain⟨h1,_,h2⟩:=h
  by_cases e:p.1=k
  ·have e':q.1=k:=h1.symm.trans e
   have b:atKey (q::qs) k=some q.2:=by simp[atKey,oA,e']
   rw[xN e,b]; exact h2
  ·have e' : ¬ q.1=k:=fun z=>e (h1.trans z)
   have b:atKey (q::qs) k=atKey qs k:=by simp[atKey,oA,e']
   rw[xP e,b]; exact ih
theorem KT.repl {H:Hp}{kvs:List (List aA×V)}{xs:List (List aA×aD×aE)}(r:KT H kvs xs)(k:List aA){y:V}{u:aE}(ry:RelV y u) :
  KT H (kvs.map fun kv=>if kv.1=k then(kv.1,y) else kv) (xs.map (putAt k u)):=by
 induction r with
 | nil=>exact .nil
 | @cons p q ps qs h t ih=>
  rw[fE,fE]
  refine .cons ?_ ih
  obtain⟨h1,h2,h3⟩:=h
  unfold putAt
  by_cases e:p.1=k
  ·rw[if_pos e,if_pos (h1.symm.trans e)]; exact⟨h1,h2,ry⟩
  ·rw[if_neg e,if_neg (fun z=>e (h1.trans z))]; exact⟨h1,h2,h3⟩
theorem KT.put {H:Hp}{kvs:List (List aA×V)}{xs:List (List aA×aD×aE)}(r:KT H kvs xs)(k:List aA){b:aD}{y:V}{u:aE}(hb:Ay6 H k b)(ry:RelV y u) :
  KT H (putK kvs k y) (storedH xs k b u):=by
 have e:(kvs.any fun kv=>decide (kv.1=k))=(atKey xs k).isSome:=by
  rw[PK,(r.val k).isSome_eq,Option.isSome_map]
 unfold putK storedH
 rw[e]
 by_cases q:(atKey xs k).isSome=true
 ·rw[if_pos q,if_pos q]; exact r.repl k ry
 ·rw[if_neg q,if_neg q]; exact Paired.snoc r ⟨rfl,hb,ry⟩
theorem KT.keeps {H H':Hp}{kvs:List (List aA×V)}{xs:List (List aA×aD×aE)}(r:KT H kvs xs)(ht : ∀ b ys,H b=some (.tup ys)->H' b=some (.tup ys)):KT H' kvs xs:=
 Paired.mapP r fun _ _ z=>⟨z.1,z.2.1.keep ht,z.2.2⟩
section
variable {P:bQ}{w:bB}{H:Hp}{h:aW}{a:aD}
theorem ME {u:HO}(ok:HOk P w H h)(e:Rd H a u):Acv P w H h a u:=e.ok ok
theorem By {ep:Nat}{kvs:List (aO×V)}(ok:HOk P w H h)(e:Rd H a (.dK ep kvs)):kvs.length≤sizeLine/\(a == jS)=false /\ ∃ vs,KV kvs vs/\h.DictAt (iO P w) a vs ep:=
 show Acv P w H h a (.dK ep kvs) from ME ok e
theorem wW {ep:Nat}{kvs:List (aO×V)}(ok:HOk P w H h)(e:Rd H a (.dK ep kvs)):kvs.length≤sizeLine/\(a == jS)=false /\ ∃ vs,KV kvs vs/\h.DictOf (iO P w) a vs:=
 let ⟨z,y,vs,r,d⟩:=By ok e; ⟨z,y,vs,r,d.dictOf⟩
theorem MH {ep:Nat}{kvs:List (aO×V)}(ok:HOk P w H h)(e:H a=some (.dK ep kvs)):kvs.length≤sizeLine/\(a == jS)=false /\ ∃ vs,KV kvs vs/\h.DictOf (iO P w) a vs:=wW ok (.inl e)
theorem IV {P:bQ}{w:bB}{A:cF}(hu:A.units+40<cLine):(qA P w).room A.in1:=by
 show A.in1.units+20<cLine
 have:A.in1.units=A.units+1:=rfl
 omega
mutual
theorem RC (ok:HOk P w H h) : ∀ (d:aA) {v:V} {u:aE},Als H d v->RelV v u -> ∃ as,lD h u d as
 | .int i,v,u,k,r=>by
  have e:v = .int i:=by simpa [Als] using k
  subst e
  obtain⟨t,rfl⟩:=r
  exact⟨_,.int i t⟩
 | .str x,v,u,k,r=>by
  have e:v = .str x:=by simpa [Als] using k
  subst e
  obtain⟨t,rfl⟩:=r
  exact⟨_,.str x t⟩
 | .tuple ds,v,u,k,r=>by
  simp only[Als] at k
  obtain⟨a,xs,rfl,e,ks⟩:=k
  cases r
  obtain⟨_,its,rv,⟨o,h1,h2,n,h3⟩,_⟩:=(show Acv P w H h a (.tup xs) from ok a _ e)
  obtain⟨as,ra⟩:=QO ok ds ks rv
  exact⟨as,.tuple h1 h2 h3 (by simpa using ra)⟩
 | .none,v,u,k,r=>by simp[Als] at k
 | .bool _,v,u,k,r=>by simp[Als] at k
 | .list _,v,u,k,r=>by simp[Als] at k
 | .dict _,v,u,k,r=>by simp[Als] at k
theorem QO (ok:HOk P w H h) : ∀ (ds:List aA) {vs:List V} {us:List aE},Aik H ds vs->Vals vs us -> ∃ as,mZ h us ds as
 | [],vs,us,k,r=>by
  have e:vs=[]:=by simpa [Aik] using k
  subst e
  cases r
  exact⟨_,.nil⟩
 | d::ds,vs,us,k,r=>by
  simp only[Aik] at k
  obtain⟨x,rr,rfl,k1,k2⟩:=k
  cases r with
  | cons r1 r2=>
   obtain⟨as,ra⟩:=RC ok d k1 r1
   obtain⟨bs,rb⟩:=QO ok ds k2 r2
   exact⟨_,.cons ra rb⟩
end
theorem tV {ks:List aA}(ok:HOk P w H h)(e:Ay6 H ks a):(qA P w).is h ks a:=by
 obtain⟨k1,k2,xs,e,ks'⟩:=e
 refine⟨k1,k2,?_⟩
 exact RC ok (.tuple ks) (v:=.ref a) (u:=.ref a) (by simp only[Als]; exact⟨a,xs,rfl,e,ks'⟩) rfl
theorem DN {kvs:List (List aA×V)}(ok:HOk P w H h)(e : ∃ ep,Rd H a (.dT ep kvs)):kvs.length≤sizeLine/\(a == jS)=false /\
  ∃ xs,KT H kvs xs/\h.DictOfH (qA P w) a xs:=by
 obtain⟨ep,e⟩:=e
 obtain⟨z,y,xs,r,o,es,h1,h2,h3,h4,h5⟩:=(show Acv P w H h a (.dT ep kvs) from ME ok e)
 refine⟨z,y,xs,r,o,es,ep,h1,h2,h3,h4,fun x hx=>?_,h5⟩
 have all : ∀ {l:List (List aA×V)} {m:List (List aA×aD×aE)},KT H l m -> ∀ x∈m,(qA P w).is h x.1 x.2.1:=by
  intro l m q
  induction q with
  | nil=>intro x hx; exact nomatch hx
  | @cons p q ps qs hq t ih=>
   intro x hx
   rcases cQ.mp hx with e | hx
   ·subst e
    exact tV ok (by rw[← hq.1]; exact hq.2.1)
   ·exact ih x hx
 exact all r x hx
theorem Bi {ep:Nat}{kvs:List (List aA×V)}(ok:HOk P w H h)(e:H a=some (.dT ep kvs)):kvs.length≤sizeLine/\(a == jS)=false /\
  ∃ xs,KT H kvs xs/\h.DictOfH (qA P w) a xs:=DN ok ⟨ep,.inl e⟩
end
def wO (H:Hp)(a:aD)(y:V)(r:Option V):Prop:=
 (∃ ep kvs k,Rd H a (.dK ep kvs)/\y=kV k/\r=jC kvs k) \/ ∃ kvs k b,(∃ ep,Rd H a (.dT ep kvs))/\y = .ref b/\Ay6 H k b/\r=jC kvs k
def MA (H:Hp)(a:aD)(y v:V)(H':Nat->Hp):Prop:=
 (∃ ep kvs k,H a=some (.dK ep kvs)/\y=kV k/\kvs.length<sizeLine/\H'=fun n=>upd H a (.dK n (putK kvs k v))) \/
 ∃ kvs k b,(∃ ep,H a=some (.dT ep kvs))/\y = .ref b/\Ay6 H k b/\kvs.length<sizeLine/\H'=fun n=>upd H a (.dT n (putK kvs k v))
section
variable {X:Cx}{pins:List (aD×aY)}{σ:St}{H:Hp}{s:aG}{a:aD}{y v:V}{u r:aE}{o:Option V}{A:cF}{E:aE->aG->Prop}
theorem Inv.big (I:Inv X pins σ H s):jS<s.heap.objs.size:=by
 have h:cJ<s.heap.objs.size:=(I.mod.glob.keeps I.bk).lt
 exact Nat.lt_trans (by decide) h
theorem Kv {Q:aE->aG->Prop}(hu:A.units+40<cLine)(I:Inv X pins σ H s)(g:wO H a y (some v))(ry:RelV y u)(h : ∀ w' s',Inv X pins σ H s'->RelV v w'->Q w' s') :
  aN (aT X.prog X.w) A (sJ (.ref a) u) Q E s:=by
 rcases g with⟨ep,kvs,k,e,ey,l⟩ | ⟨kvs,k,b,e,ey,eb,l⟩
 ·subst ey
  obtain⟨z,hd,vs,rel,dd⟩:=wW I.hok e
  obtain⟨w',hw,rw'⟩:=A0y.some_of (v:=v) (o:=vM vs k) (by rw[l]; exact rel.val k)
  exact wpAny_getItem_of (DP ry) dd.mapOf hw (h w' _ (I.tok _) rw')
 ·subst ey
  cases(show u=fR b from ry)
  obtain⟨z,hd,xs,rel,dd⟩:=DN I.hok e
  obtain⟨w',hw,rw'⟩:=A0y.some_of (v:=v) (o:=(atKey xs k).map (·.2)) (by rw[l]; exact rel.val k)
  obtain⟨p,hp,hp2⟩:=kH.mp hw
  refine wpAny_getItem_heap (IV hu) (tV I.hok eb) dd hp ?_
  rw[hp2]
  exact h w' _ (I.tok _) rw'
theorem Ar {Q:aE->aG->Prop}(hu:A.units+40<cLine)(I:Inv X pins σ H s)(g:wO H a y o)(ry:RelV y u)(h : ∀ s',Inv X pins σ H s'->Q (.bool o.isSome) s') :
  aN (aT X.prog X.w) A (iH .In u (.ref a)) Q E s:=by
 rcases g with⟨ep,kvs,k,e,ey,l⟩ | ⟨kvs,k,b,e,ey,eb,l⟩
 ·subst ey
  obtain⟨z,hd,vs,rel,dd⟩:=wW I.hok e
  refine wpAny_in_of (DP ry) hd dd.mapOf ?_
  rw[← (rel.val k).isSome_eq,← l]
  exact h _ (I.tok _)
 ·subst ey
  cases(show u=fR b from ry)
  obtain⟨z,hd,xs,rel,dd⟩:=DN I.hok e
  refine wpAny_in_heap (IV hu) (tV I.hok eb) hd dd ?_
  have q:=(rel.val k).isSome_eq
  rw[Option.isSome_map] at q
  rw[← q,← l]
  exact h _ (I.tok _)
theorem WW {h':aW}{t':Nat}{ob:HO}(I:Inv X pins σ H s)(mu:wL (H a))(hs:oG a s.heap h')(he : ∃ q,h'.get? a=some q)(new:Acv X.prog X.w (upd H a ob) h' a ob) :
  Inv X pins σ (upd H a ob) { s with heap:=h',toks:=t' }:=
 I.write (x:=a) (e:=a) mu (.inl rfl) (fun b q hb z=>(hs.2 b hb).trans z) he new
theorem Fb {P:bQ}{w:bB}{H':Hp}{h':aW}{kvs:List (aO×V)}{vs:List (aO×aE)}(z:kvs.length≤sizeLine)(hd:(a == jS)=false)(rel:KV kvs vs){ep:Nat}(dd:h'.DictAt (iO P w) a vs ep) :
  Acv P w H' h' a (.dK ep kvs):=⟨z,hd,vs,rel,dd⟩
theorem Vr {H':Nat->Hp}{Q:Unit->aG->Prop}(hu:A.units+40<cLine)(I:Inv X pins σ H s)(g:MA H a y v H')(ry:RelV y u)(rv:RelV v r)(h : ∀ n s',Inv X pins σ (H' n) s'->Q () s') :
  aN (aT X.prog X.w) A (setItem (.ref a) u r) Q E s:=by
 rcases g with⟨ep,kvs,k,e,ey,l,eH⟩ | ⟨kvs,k,b,e,ey,eb,l,eH⟩
 ·subst ey eH
  obtain⟨z,hd,vs,rel,dd⟩:=MH I.hok e
  have hz:vs.length≤sizeLine:=by rw[← rel.length]; exact z
  have hl:(putK kvs k v).length≤sizeLine:=by have:=TM kvs k v; omega
  refine wpAny_setItem_pairs (hsz:=hz) (DP ry) dd fun h' dd' hs=>?_
  have he : ∃ q,h'.get? a=some q:=let ⟨q,_,_,hq,_⟩:=dd'; ⟨q,hq⟩
  obtain⟨n,da⟩:=dd'.dictAt
  exact h n _ (WW I (by rw[e]; exact qN) hs he (Fb hl hd (rel.put k rv) da))
 ·subst ey eH
  cases(show u=fR b from ry)
  obtain⟨ep0,e⟩:=e
  obtain⟨z,hd,xs,rel,dd⟩:=Bi I.hok e
  have hz:xs.length≤sizeLine:=by rw[← pI rel]; exact z
  have hl:(putK kvs k v).length≤sizeLine:=by have:=TM kvs k v; omega
  refine wpAny_setItem_heap (hsz:=hz) (IV hu) (tV I.hok eb) dd fun h' dd' hs=>?_
  obtain⟨q,es,ep,hq,h2,h3,h4,_,h5⟩:=dd'
  refine h ep _ ?_
  refine WW I (by rw[e]; exact qN) hs ⟨q,hq⟩ ⟨hl,hd,_,(rel.put k eb rv).keeps fun c ys ec=>?_,q,es,hq,h2,h3,h4,h5⟩
  rw[fJ (Bp ec e (fun z=>nomatch z))]
  exact ec
end
section
variable {X:Cx}{pins:List (aD×aY)}{σ:St}{H:Hp}{s:aG}{a:aD}{kvs:List (aO×V)}{k:aO}{u:aE}{A:cF}{E:aE->aG->Prop}
theorem Cf {ep:Nat}{Q:aE->aG->Prop}(I:Inv X pins σ H s)(e:Rd H a (.dK ep kvs))(h : ∀ t s',Inv X pins σ H s'->Q (.int kvs.length t) s'):aN (aT X.prog X.w) A (call (.builtin "len") [.ref a]) Q E s:=by
 obtain⟨z,hd,vs,rel,dd⟩:=wW I.hok e
 refine call_len_dict hd dd (by rw[← rel.length]; rw[mX] at z; omega) ?_
 rw[← rel.length]
 exact h _ _ (I.tok _)
end
def LY (i:aX):Prop:=∀ ov iv,JV i false ov iv=operate [ov,iv] (sJ ov iv)
theorem Ii {prog:bQ}{w:bB}{A:cF}{E:aE->aG->Prop}{s:aG}{env:eU}{value slice:aX}{pos:cE}{T id:String}{Q:aE->aG->Prop}
  (hl:typeLookup (.type T) "__getitem__" = pure (some (.builtin id))) (hs:LY slice)
  (h:aN (aT prog w) A (cD value env) (fun o s₁=>aN (aT prog w) A (cD slice env) (fun i s₂=>s₂.TypeIs o T/\aN (aT prog w) A (sJ o i) Q E s₂) E s₁) E s) :
  aN (aT prog w) A (cD (.Subscript value slice pos) env) Q E s:=by
 refine Subscript_ (lB h (fun o s₁ h₁=>lB h₁ (fun i s₂ h₂=>?_) fun _ _ x=>x) fun _ _ x=>x)
 obtain⟨hT,h₂⟩:=h₂
 unfold subscriptTail
 refine aI ?_
 rw[getitemInPython_of_ne hT.not_modules]
 refine aI (vJ hT hl ?_)
 have fin:aN (aT prog w) A (JV slice false o i) (fun r s₃=>aN (aT prog w) A (letTemporaryGo value o r >>= fun _=>pure r) Q E s₃) E s₂:=by
  rw[hs o i]
  exact wpAny_operating (lB h₂ (fun r s₃ h₃=>aI (wpAny_letTemporaryGo (aR h₃))) fun _ _ x=>x)
 first
  | exact aR (aI fin)
  | exact aI (aR (aI fin))
  | exact aI fin
theorem Nn {X:Cx}{pins:List (aD×aY)}{σ:St}{H:Hp}{s:aG}{a:aD}{y:V}{o:Option V}(I:Inv X pins σ H s)(g:wO H a y o):s.TypeIs (.ref a) "dict":=by
 rcases g with⟨ep,kvs,k,e,_,_⟩ | ⟨kvs,k,b,e,_,_,_⟩
 ·obtain⟨_,_,vs,_,dd⟩:=wW I.hok e
  exact dd.typeIs
 ·obtain⟨_,_,xs,_,dd⟩:=DN I.hok e
  exact dd.typeIs
noncomputable def Cs (td ty:TE):TE:=fun σ H Q=>td σ H fun x H1=>ty σ H1 fun y H2=>∃ a v,x = .ref a/\wO H2 a y (some v)/\Q v H2
noncomputable def Cr (td ty tv:TE):TS:=fun D σ H=>tv σ H fun v H1=>td σ H1 fun x H2=>ty σ H2 fun y H3=>∃ a H4,x = .ref a/\MA H3 a y v H4 /\ ∀ n,D.nx σ (H4 n)
section
variable {X:Cx}{o i e value:aX}{pos pos' tpos:cE}{td ty tv:TE}
theorem Jp (hu:X.A.units+40<cLine)(ho:PE X o td)(hi:PE X i ty)(hs:LY i):PE X (.Subscript o i pos) (Cs td ty):=by
 intro pins s σ H Q I h
 refine Ii PySem.F.slot_dict_getitem.lookup hs (thn (ho pins s σ H _ I h) fun u s1 ⟨x,H1,I1,rx,q1⟩=>thn (hi pins s1 σ H1 _ I1 q1) fun iv s2 gh=>?_)
 obtain⟨y,H2,I2,ry,a,v,ex,g,q2⟩:=gh
 subst ex
 obtain rfl:u=fR a:=rx
 exact⟨Nn I2 g,Kv hu I2 g ry fun w' s3 I3 rw'=>⟨v,H2,I3,rw',q2⟩⟩
theorem Hi (hu:X.A.units+40<cLine)(ho:PE X o td)(hi:PE X i ty)(hv:PE X value tv)(hs:qL value (some (.Subscript o i pos')) pos.line X.env=pure false) :
  PS X (.Assign [.Subscript o i pos'] value pos) (Cr td ty tv):=by
 intro pins s σ H D I h
 refine wpAny_Assign_Subscript (thn (hv pins s σ H _ I h) fun r s1 ⟨v,H1,I1,rv,q1⟩=>thn (ho pins s1 σ H1 _ I1 q1) fun u s2 ⟨x,H2,I2,rx,q2⟩=>thn (hi pins s2 σ H2 _ I2 q2) fun iv s3 ⟨y,H3,I3,ry,a,H4,ex,g,q3⟩=>?_) hs
 subst ex
 obtain rfl:u=fR a:=rx
 exact Vr hu I3 g ry rv fun n s4 I4=>⟨σ,H4 n,I4,q3 n⟩
end
theorem Uo {P:bQ}{w:bB}{H:Hp}(h:aW)(hb:jS<h.objs.size):Acv P w H (h.push { cls:=.type "dict",data:=.dict #[] }) h.objs.size (.dK 0 []):=
 ⟨eY _,beq_eq_false_iff_ne.mpr (kI (cT hb)),[],.nil,_,#[],eL _ rfl,⟨rfl,rfl,rfl⟩,rfl,fun _ he=>by simp at he,Pairs.nil,List.nodup_nil⟩
noncomputable def Dl:TE:=fun _ H Q=>∀ p,H p=none->Q (.ref p) (upd H p (.dK 0 []))
section
variable {X:Cx}{pos:cE}
theorem Tq:PE X (.Dict [] [] pos) Dl:=fun pins s σ H Q I h=>
 wpAny_Dict_empty ⟨.ref s.heap.objs.size,_,I.laid (a:=s.heap.objs.size) (o:=.dK 0 []) (t':=s.toks) (fun _ _ q=>cL _ q) (bY _) (Uo s.heap I.big),rfl,h _ (I.hok.fresh (bY _))⟩
end
end L2
namespace HT
open PySem PyProof.Rows
section
variable {prog:bQ}{w:bB}{A:cF}{E:aE->aG->Prop}{s:aG}
theorem Ba0 {t b:aD}{vs ws:List aE}{Q:aE->aG->Prop}(ht:IsTup s.heap t vs.toArray)(hb:IsTup s.heap b ws.toArray)(hv:vs≠[])
  (h1:ws=[]->Q (.ref t) s) (h2:ws≠[]->Q (.ref s.heap.objs.size) { s with heap:=s.heap.push { cls:=.type "tuple",data:=.seq (vs++ws).toArray } })
  (hsz:vs.length+ws.length≤sizeLine):aN (aT prog w) A (lC .Add (.ref t) (.ref b)) Q E s:=by
 obtain⟨⟨cls,dd,data,sl⟩,ho,hc,n,hd⟩:=id ht
 obtain⟨⟨cls2,dd2,data2,sl2⟩,ho2,hc2,n2,hd2⟩:=id hb
 simp only at hc hd hc2 hd2
 subst hc hd hc2 hd2
 have e:vs.toArray++ws.toArray=(vs++ws).toArray:=by simp
 by_cases hw:ws=[]
 ·exact concat_meets ⟨_,ho,rfl⟩ ⟨_,ho2,rfl⟩ XW seq_tuple_add YI YJ (YK _ _)
   (tuple_addW1 t b vs.toArray ws.toArray n n2 dd dd2 sl sl2 (by simpa using hv) (by simp[hw])) ⟨ho,ho2,h1 hw⟩
 ·refine concat_meets ⟨_,ho,rfl⟩ ⟨_,ho2,rfl⟩ XW seq_tuple_add YI YJ (YK _ _)
   (tuple_addW2 t b vs.toArray ws.toArray n n2 dd dd2 sl sl2 (by simpa using hv) (by simpa using hw) (by rw[eG,eG]; exact hsz)) ⟨ho,ho2,?_⟩
  rw[e]
  exact h2 hw
noncomputable def sIx (n d:Nat):Option Int->Nat
 | none=>d
 | some v=>if v<0 then(v+(n:Int)).toNat else min v.toNat n
theorem Apv (n d:Nat):sIx n d none=d:=rfl
theorem A0x (n d k:Nat):sIx n d (some (k:Int))=min k n:=by
 show(if (k:Int)<0 then((k:Int)+(n:Int)).toNat else min (k:Int).toNat n)=min k n
 rw[if_neg (by omega),mE]
theorem Dt (n d:Nat)(hd:d≤n)(o:Option Int):sIx n d o≤n:=by
 cases o with
 | none=>exact hd
 | some v=>
  show(if v<0 then(v+(n:Int)).toNat else min v.toNat n)≤n
  by_cases hv:v<0
  ·rw[if_pos hv]; omega
  ·rw[if_neg hv]; exact Nat.min_le_right _ _
theorem NI (v:Int)(n d:Nat):(if v<0 then max (v+(n:Int)) 0 else min v (n:Int))=((sIx n d (some v):Nat):Int):=by
 show(if v<0 then max (v+(n:Int)) 0 else min v (n:Int))=(((if v<0 then(v+(n:Int)).toNat else min v.toNat n):Nat):Int)
 by_cases hv:v<0
 ·simp only[if_pos hv]; omega
 ·simp only[if_neg hv]; omega
theorem Ll (lo hi:Option Int)(n:Nat):ZT lo hi 1 (n:Int)=(((sIx n 0 lo:Nat):Int),((sIx n n hi:Nat):Int)):=by
 have h1 : ¬ ((1:Int)<0):=by omega
 unfold ZT
 simp only[h1,if_false]
 refine Prod.ext ?_ ?_
 ·cases lo with
  | none=>rfl
  | some v=>exact NI v n 0
 ·cases hi with
  | none=>rfl
  | some v=>exact NI v n n
theorem Me (i j:Nat):LC (i:Int) (j:Int) 1=j - i:=by
 unfold LC
 have h1:(1:Int) > 0:=by omega
 simp only[h1,if_true,Int.ediv_one]
 split <;> omega
theorem TC {v:aE}{o:Option Int}{Q:Option Int->aG->Prop}(p:qX v o)(h:Q o s):aN (aT prog w) A (Builtin.Slice.slicePartIndex v) Q E s:=by
 cases p with
 | none=>exact slicePart_none h
 | int i t=>exact slicePart_int h
theorem Qo {sl:aD}{vl vu:aE}{lo hi:Option Int}{n:Nat}{Q:Int×Int×Nat->aG->Prop}(hs:s.heap.IsSliceOf sl vl vu .none)(pl:qX vl lo)(pu:qX vu hi)
  (h:Q (((sIx n 0 lo:Nat):Int),1,sIx n n hi - sIx n 0 lo) s):aN (aT prog w) A (Builtin.Slice.sliceApplied (.ref sl) (pure (n:Int))) Q E s:=by
 obtain⟨os,hos,hcs,hds⟩:=id hs
 unfold Builtin.Slice.sliceApplied Builtin.Slice.sliceFields
 refine aI (aI (wpAny_field hos hds (x:=vl) rfl (aI (wpAny_field hos hds (x:=vu) rfl (aI (wpAny_field hos hds (x:=.none) rfl (aR ?_)))))))
 refine aI (slicePart_none ?_)
 show aN _ _ (if ((1:Int) == 0)=true then _ else _) _ _ s
 rw[if_neg (by decide)]
 refine aI (TC pl (aI (TC pu (aI (aR ?_)))))
 show aN _ _ (match ZT lo hi 1 (n:Int) with | (lo,hi)=>pure (lo,(1:Int),LC lo hi 1)) _ _ s
 rw[Ll lo hi n]
 show aN _ _ (pure (((sIx n 0 lo:Nat):Int),(1:Int),LC ((sIx n 0 lo:Nat):Int) ((sIx n n hi:Nat):Int) 1)) _ _ s
 rw[Me]
 exact aR h
theorem Sq (xs:Array aE)(i k:Nat):((cU k).filterMap fun(m:Nat)=>xs[((i:Int)+(m:Int)*1).toNat]?).toArray=((xs.toList.drop i).take k).toArray:=by
 have e:(fun(m:Nat)=>xs[((i:Int)+(m:Int)*1).toNat]?)=fun m=>xs[i+m]?:=by
  funext m
  have:((i:Int)+(m:Int)*1).toNat=i+m:=by omega
  rw[this]
 rw[e]
 have:=pick_run xs i k
 rw[List.filterMap_map] at this
 have e2:((fun x=>xs[x]?)∘fun x=>i+x)=fun m=>xs[i+m]?:=rfl
 rw[e2] at this
 rw[this]
theorem Aki {t sl:aD}{items:Array aE}{vl vu:aE}{lo hi:Option Int}{Q:aE->aG->Prop}(ht:IsTup s.heap t items)(hs:s.heap.IsSliceOf sl vl vu .none)(pl:qX vl lo)(pu:qX vu hi)
  (hw : ¬ (sIx items.size 0 lo=0/\sIx items.size items.size hi=items.size))
  (h:Q (.ref s.heap.objs.size) { s with heap:=s.heap.push { cls:=.type "tuple",data:=.seq ((items.toList.drop (sIx items.size 0 lo)).take (sIx items.size items.size hi - sIx items.size 0 lo)).toArray } })
  (hsz:items.size≤sizeLine):aN (aT prog w) A (sJ (.ref t) (.ref sl)) Q E s:=by
 have htake:sizeOk (.seq ((items.toList.drop (sIx items.size 0 lo)).take (sIx items.size items.size hi - sIx items.size 0 lo)).toArray):=by
  show((items.toList.drop (sIx items.size 0 lo)).take (sIx items.size items.size hi - sIx items.size 0 lo)).toArray.size≤sizeLine
  rw[eG,kK,List.length_drop,gR]
  omega
 have hj:sIx items.size items.size hi≤items.size:=Dt _ _ (bY _) hi
 obtain⟨os,hos,hcs,hds⟩:=id hs
 have hTs:s.TypeIs (.ref sl) "slice":=⟨os,hos,hcs⟩
 unfold sJ
 try with_reducible refine jF ?_
 first | refine aI (aR ?_) | skip
 refine aI (wpAny_sequenceKey ht.typeIs (by decide) ?_)
 refine aI (vL (name:=kE "__getitem__") ht.typeIs YM
  (kB YM ht.typeIs entry_tuple_getitem ?_ (args_tuple_getitem _ _)))
 show aN _ _ (Builtin.Tuple.tupleItemsOf (.ref t) >>= _) _ _ s
 refine aI (tupleItemsOf_ ht ?_)
 refine aI (sG hTs ?_)
 rw[if_pos (by decide)]
 refine aI (Qo hs pl pu ?_)
 have hno : ¬ ((((sIx items.size 0 lo:Nat):Int) == 0&&(1:Int) == 1&&(sIx items.size items.size hi - sIx items.size 0 lo) == items.size)=true):=by
  intro q
  rw[mF,mF] at q
  have q1:((sIx items.size 0 lo:Nat):Int)=0:=eq_of_beq q.1.1
  have q2:sIx items.size items.size hi - sIx items.size 0 lo=items.size:=eq_of_beq q.2
  exact hw ⟨by omega,by omega⟩
 show aN _ _ (if (((sIx items.size 0 lo:Nat):Int) == 0&&(1:Int) == 1&&(sIx items.size items.size hi - sIx items.size 0 lo) == items.size)=true then _ else _) _ _ s
 rw[if_neg hno,Sq]
 first
  | exact aI (m:=LA _) (jE (aR ⟨_,rfl,aR h⟩) htake)
  | exact aI (m:=LA _) (jE (aI (aR (aR ⟨_,rfl,aR h⟩))) htake)
  | exact aI (aI (m:=LA _) (jE (aR (aR ⟨_,rfl,aR h⟩)) htake))
  | exact aI (aI (m:=LA _) (jE (aR ⟨_,rfl,aR h⟩) htake))
end
end HT
namespace L2
open PySem PySem.Spec PyProof.Rows
abbrev TO:=St->Hp->(Option Int->Hp->Prop)->Prop
def PO (X:Cx)(e:Option aX)(t:TO):Prop:=
 ∀ (pins:List (aD×aY)) (s:aG) (σ:St) (H:Hp) (Q:Option Int->Hp->Prop),Inv X pins σ H s->t σ H Q ->
  aN (aT X.prog X.w) X.A (evalPart e X.env) (fun u s'=>∃ o H',Inv X pins σ H' s'/\qX u o/\Q o H') X.xe s
noncomputable def Rb:TO:=fun _ H Q=>Q none H
noncomputable def Bj (t:TE):TO:=fun σ H Q=>t σ H fun x H1=>∃ i,x = .int i/\Q (some i) H1
section
variable {X:Cx}{e:aX}{te:TE}{lo hi:Option aX}{tl th:TO}{pos p2:cE}
theorem Ih:PO X none Rb:=by
 intro pins s σ H Q I h
 rw[evalPart_none]
 exact aR ⟨none,H,I,.none,h⟩
theorem Il (h:PE X e te):PO X (some e) (Bj te):=by
 intro pins s σ H Q I hw
 rw[evalPart_some]
 refine thn (h pins s σ H _ I hw) fun u s1 gh=>?_
 obtain⟨x,H1,I1,r1,q1⟩:=gh
 obtain⟨i,rfl,q⟩:=q1
 obtain⟨t,rfl⟩:=r1
 exact⟨some i,H1,I1,.int i t,q⟩
def SlR (X:Cx)(r:V->Option Int->Option Int->Hp->VK->Prop):Prop:=
 ∀ (pins:List (aD×aY)) (s:aG) (σ:St) (H:Hp) (x:V) (v vl vu:aE) (lo hi:Option Int) (sl:aD) (Q:VK),Inv X pins σ H s->RelV x v->s.heap.IsSliceOf sl vl vu .none->qX vl lo->qX vu hi->r x lo hi H Q ->
  ∃ T id,typeLookup (.type T) "__getitem__" = pure (some (.builtin id))/\s.TypeIs v T/\aN (aT X.prog X.w) X.A (sJ v (.ref sl)) (EP X pins σ Q) X.xe s
theorem SlR.or {r r':V->Option Int->Option Int->Hp->VK->Prop}(h:SlR X r)(h':SlR X r'):SlR X (fun x lo hi H Q=>r x lo hi H Q \/ r' x lo hi H Q):=by
 intro pins s σ H x v vl vu lo hi sl Q I rx hs pl pu q
 rcases q with q | q
 ·exact h pins s σ H x v vl vu lo hi sl Q I rx hs pl pu q
 ·exact h' pins s σ H x v vl vu lo hi sl Q I rx hs pl pu q
noncomputable def tSl (r:V->Option Int->Option Int->Hp->VK->Prop)(te:TE)(tl th:TO):TE:=fun σ H Q=>te σ H fun x H1=>tl σ H1 fun l H2=>th σ H2 fun u H3=>r x l u H3 Q
theorem OR {r:V->Option Int->Option Int->Hp->VK->Prop}(hr:SlR X r)(he:PE X e te)(hl:PO X lo tl)(hu:PO X hi th):PE X (.Subscript e (.Slice lo hi none p2) pos) (tSl r te tl th):=by
 intro pins s σ H Q I h
 refine Subscript_ (thn (he pins s σ H _ I h) fun v s1 gh=>?_)
 obtain⟨x,H1,I1,r1,q1⟩:=gh
 refine wpAny_Slice (thn (hl pins s1 σ H1 _ I1 q1) fun vl s2 ⟨l,H2,I2,pl,q2⟩=>thn (hu pins s2 σ H2 _ I2 q2) fun vu s3 gh=>?_)
 obtain⟨u,H3,I3,pu,q3⟩:=gh
 rw[evalPart_none]
 refine aR ?_
 have I4:Inv X pins σ H3 { s3 with heap:=s3.heap.push { cls:=.type "slice",data:=.fields #[vl,vu,.none] } }:=I3.kept (t':=s3.toks) fun b ob q=>cL _ q
 obtain⟨T,id,hT,ht,hg⟩:=hr pins { s3 with heap:=s3.heap.push { cls:=.type "slice",data:=.fields #[vl,vu,.none] } } σ H3 x v vl vu l u s3.heap.objs.size Q I4 r1 (Heap.IsSliceOf.new ..) pl pu q3
 show aN (aT X.prog X.w) X.A (subscriptTail e (.Slice lo hi none p2) v (.ref s3.heap.objs.size)) (EP X pins σ Q) X.xe { s3 with heap:=s3.heap.push { cls:=.type "slice",data:=.fields #[vl,vu,.none] } }
 exact tail_any (ops:=[.ref s3.heap.objs.size,v]) ht hT hg (by with_unfolding_all rfl)
noncomputable def qJ (xs:List V)(lo hi:Option Int):List V:=(xs.drop (HT.sIx xs.length 0 lo)).take (HT.sIx xs.length xs.length hi - HT.sIx xs.length 0 lo)
theorem UA (xs:List V)(lo hi:Option Int):(qJ xs lo hi).length≤xs.length:=by
 unfold qJ
 rw[kK,List.length_drop]
 omega
def Aa (K:aK):V->Option Int->Option Int->Hp->VK->Prop:=fun x lo hi H Q=>∃ a xs,x = .ref a/\SqT K H a xs /\
 ¬ (HT.sIx xs.length 0 lo=0/\HT.sIx xs.length xs.length hi=xs.length) /\ ∀ p,H p=none->Q (.ref p) (upd H p (.tup (qJ xs lo hi)))
theorem Ew:SlR X (Aa X.K):=by
 intro pins s σ H x v vl vu lo hi sl Q I rx hs pl pu h
 obtain⟨a,xs,rfl,hx,hw,q⟩:=h
 cases rx
 obtain⟨its,r,ht,hz⟩:=I.tuple hx
 have hlen:its.toArray.size=xs.length:=by rw[eG]; exact r.length.symm
 refine⟨"tuple",_,YM.lookup,ht.typeIs,?_⟩
 refine HT.Aki ht hs pl pu (by rw[hlen]; exact hw) ?_ (by rw[hlen]; exact hz)
 rw[hlen]
 refine⟨.ref s.heap.objs.size,_,I.laid (t':=s.toks) (o:=.tup (qJ xs lo hi)) (fun b ob q=>cL _ q) (bY _) ?_,rfl,q _ (I.hok.fresh (bY _))⟩
 exact⟨iR (UA xs lo hi) hz,_,(r.drop (HT.sIx xs.length 0 lo)).take (HT.sIx xs.length xs.length hi - HT.sIx xs.length 0 lo),A9s.new _ _⟩
noncomputable def JB (K:aK):R2:=fun x y H Q=>∃ a b xs ys,x = .ref a/\y = .ref b/\SqT K H a xs/\SqT K H b ys/\xs≠[]/\xs.length+ys.length≤sizeLine /\
 (ys=[]->Q (.ref a) H)/\(ys≠[] -> ∀ p,H p=none->Q (.ref p) (upd H p (.tup (xs++ys))))
theorem Vals.nil_iff {xs:List V}{us:List aE}(r:Vals xs us):us=[]↔xs=[]:=by
 cases r with
 | nil=>simp
 | cons _ _=>simp
theorem A2b:OpR X (lC .Add) (JB X.K):=by
 intro pins s σ H x y v u Q I rx ry h
 obtain⟨a,b,xs,ys,rfl,rfl,ha,hb,hx,hz,q1,q2⟩:=h
 cases rx
 cases ry
 obtain⟨its,r1,p1,_⟩:=I.tuple ha
 obtain⟨its2,r2,p2,_⟩:=I.tuple hb
 refine HT.Ba0 p1 p2 (fun z=>hx (r1.nil_iff.mp z)) (fun z=>⟨.ref a,H,I,rfl,q1 (r2.nil_iff.mp z)⟩) (fun z=>?_) (by rw[← r1.length,← r2.length]; exact hz)
 refine⟨.ref s.heap.objs.size,_,I.laid (t':=s.toks) (o:=.tup (xs++ys)) (fun b ob q=>cL _ q) (bY _) ?_,rfl,q2 (fun w=>z (r2.nil_iff.mpr w)) _ (I.hok.fresh (bY _))⟩
 exact⟨by rw[hV]; exact hz,_,r1.append r2,A9s.new _ _⟩
end
noncomputable def ixN (n:Nat)(i:Int):Option Nat:=if 0≤i then(if i<n then some i.toNat else none) else if -(n:Int)≤i then some (i+n).toNat else none
noncomputable def atI {α:Type}(xs:List α)(i:Int):Option α:=(ixN xs.length i).bind fun j=>xs[j]?
theorem NM {n:Nat}{i:Int}{j:Nat}(h:ixN n i=some j):seqIndex? i n=some j/\j<n /\ -(n:Int)≤i/\i<n:=by
 unfold ixN at h
 by_cases h0:0≤i
 ·rw[if_pos h0] at h
  by_cases h1:i<n
  ·rw[if_pos h1] at h
   have e:i.toNat=j:=iJ h
   exact⟨by rw[seqIndex_of h0 h1,e],by omega,by omega,h1⟩
  ·rw[if_neg h1] at h; cases h
 ·rw[if_neg h0] at h
  by_cases h1 : -(n:Int)≤i
  ·rw[if_pos h1] at h
   have e:(i+n).toNat=j:=iJ h
   exact⟨by rw[seqIndex_neg (by omega) h1,e],by omega,h1,by omega⟩
  ·rw[if_neg h1] at h; cases h
theorem GF {α:Type}{xs:List α}{i:Int}{v:α}(h:atI xs i=some v) : ∃ j,seqIndex? i xs.length=some j/\xs[j]?=some v/\j<xs.length /\ -(xs.length:Int)≤i/\i<xs.length:=by
 unfold atI at h
 cases e:ixN xs.length i with
 | none=>rw[e] at h; cases h
 | some j=>
  rw[e] at h
  obtain⟨h1,h2,h3,h4⟩:=NM e
  exact⟨j,h1,h,h2,h3,h4⟩
theorem oU {α:Type}{xs:List α}{j:Nat}{v:α}(h:xs[j]?=some v):atI xs (j:Int)=some v:=by
 have hj:j<xs.length:=(fL.mp h).1
 have e:ixN xs.length (j:Int)=some j:=by
  unfold ixN
  rw[if_pos (by omega),if_pos (by omega)]; simp
 unfold atI; rw[e]; exact h
def WL (b:aX):Prop:=∀ o i,JV b false o i=operate [o,i] (sJ o i)
def IxR (X:Cx)(r:R2):Prop:=
 ∀ (value slice:aX) (pins:List (aD×aY)) (s:aG) (σ:St) (H:Hp) (x y:V) (v u:aE) (Q:VK),Inv X pins σ H s->RelV x v->RelV y u->r x y H Q ->
  JV slice false v u=operate [v,u] (sJ v u)->aN (aT X.prog X.w) X.A (subscriptTail value slice v u) (EP X pins σ Q) X.xe s
def MtR (X:Cx)(id:String)(r:V->List V->Hp->VK->Prop):Prop:=
 ∀ (pins:List (aD×aY)) (s:aG) (σ:St) (H:Hp) (x:V) (xs:List V) (v:aE) (us:List aE) (Q:VK),Inv X pins σ H s->RelV x v->Vals xs us->r x xs H Q ->
  aN (aT X.prog X.w) X.A (call (.builtin id) (v::us)) (EP X pins σ Q) X.xe s
section
variable {X:Cx}{a b:aX}{ta tb:TE}{pos:cE}
theorem IxR.or {r r':R2}(h:IxR X r)(h':IxR X r'):IxR X (fun x y H Q=>r x y H Q \/ r' x y H Q):=by
 intro value slice pins s σ H x y v u Q I rx ry q hs
 rcases q with q | q
 ·exact h value slice pins s σ H x y v u Q I rx ry q hs
 ·exact h' value slice pins s σ H x y v u Q I rx ry q hs
theorem Cz {r:R2}(hr:IxR X r)(ha:PE X a ta)(hb:PE X b tb)(hs:WL b):PE X (.Subscript a b pos) (tOp r ta tb):=by
 intro pins s σ H Q I h
 exact Subscript_ (FK ha hb I h fun v u s2 x y H2 I2 rx ry q=>hr a b pins s2 σ H2 x y v u Q I2 rx ry q (hs _ _))
noncomputable def LV (K:aK):R2:=fun x y H Q=>∃ p xs i v,x = .ref p/\y = .int i/\SqL K H p xs/\atI xs i=some v/\Q v H
noncomputable def LZ (K:aK):R2:=fun x y H Q=>∃ p xs i v,x = .ref p/\y = .int i/\SqT K H p xs/\atI xs i=some v/\Q v H
noncomputable def LP:R2:=fun x y H Q=>∃ z i c,x = .str z/\y = .int i/\z.length≤sizeLine/\atI z.cps.toList i=some c/\Q (.str ⟨#[c]⟩) H
theorem Bb4:IxR X (LV X.K):=by
 intro value slice pins s σ H x y v u Q I rx ry h hs
 obtain⟨p,xs,i,z,rfl,rfl,hq,he,q⟩:=h
 cases rx
 obtain⟨t,rfl⟩:=ry
 obtain⟨its,r,pl,hz⟩:=I.list hq
 obtain⟨j,h1,h2,h3,h4,h5⟩:=GF he
 obtain⟨w,ew,rw'⟩:=r.get h2
 have hl:=r.length
 have hn:=tP
 have fin:EP X pins σ Q w s:=⟨z,H,I,rw',q⟩
 by_cases h0:0≤i
 ·have hj:i.toNat=j:=by
   rw[seqIndex_of h0 h5] at h1
   exact iJ h1
  exact item_listR pl.isList h0 (by omega) (by rw[hj]; simpa using ew) fin hs
 ·have hj:(i+(its.toArray.size:Int)).toNat=j:=by
   rw[seqIndex_neg (by omega) h4] at h1
   rw[eG,← hl]
   exact iJ h1
  exact subscriptTail_builtinR (x:=w) pl.isList.typeIs slot_list_getitem.lookup
   (wpAny_getItem_list_neg (Q:=fun r s'=>r=w/\EP X pins σ Q r s') pl.isList (by omega) (by rw[eG] <;> omega) (by omega) (by rw[hj]; simpa using ew) ⟨rfl,fin⟩) hs
theorem Bfi:IxR X (LZ X.K):=by
 intro value slice pins s σ H x y v u Q I rx ry h hs
 obtain⟨p,xs,i,z,rfl,rfl,hq,he,q⟩:=h
 cases rx
 obtain⟨t,rfl⟩:=ry
 obtain⟨its,r,pl,hz⟩:=I.tuple hq
 obtain⟨j,h1,h2,h3,h4,h5⟩:=GF he
 obtain⟨w,ew,rw'⟩:=r.get h2
 have hl:=r.length
 have hn:=tP
 have fin:EP X pins σ Q w s:=⟨z,H,I,rw',q⟩
 exact subscriptTail_builtinR (x:=w) pl.typeIs slot_tuple_getitem.lookup
  (getItem_tuple (j:=j) (Q:=fun r s'=>r=w/\EP X pins σ Q r s') pl (by omega) (by omega) (by rw[eG,← hl]; exact h1) (by simpa using ew) ⟨rfl,fin⟩) hs
theorem Ei:IxR X LP:=by
 intro value slice pins s σ H x y v u Q I rx ry h hs
 obtain⟨z,i,c,rfl,rfl,hz,he,q⟩:=h
 obtain⟨t,rfl⟩:=rx
 obtain⟨t',rfl⟩:=ry
 obtain⟨j,h1,h2,h3,h4,h5⟩:=GF he
 have hl:z.cps.toList.length=z.length:=by simp[EG]
 rw[hl] at h1 h4 h5
 have hn:=tP
 exact tail_any (vO s z t) slot_str_getitem.lookup (getItem_str (c:=c) (by
  have e1:decide (i < -(2 ^ 63:Int))=false:=decide_eq_false (by omega)
  have e2:decide (i ≥ 2 ^ 63)=false:=decide_eq_false (by omega)
  rw[e1,e2,Bool.or_false]) (by rw[h1]; simpa using h2) ⟨.str ⟨#[c]⟩,H,I.tok _,⟨_,rfl⟩,q⟩) hs
noncomputable def rIx (K:aK):R2:=fun x y H Q=>LV K x y H Q \/ LZ K x y H Q \/ LP x y H Q
theorem Hk:IxR X (rIx X.K):=Bb4.or (Bfi.or Ei)
theorem Mp (its:List aE)(n j:Nat)(u:aE):gJ (·.setIfInBounds j u) { cls:=.type "list",data:=.seq its.toArray n } = { cls:=.type "list",data:=.seq (its.set j u).toArray n }:=by
 simp[gJ]
theorem Inv.lst {pins:List (aD×aY)}{σ:St}{H:Hp}{s:aG}{p:aD}{xs:List V}(I:Inv X pins σ H s)(h:H p=some (.lst xs)) :
  ∃ (its:List aE) (n:Nat),Vals xs its/\s.heap.get? p=some { cls:=.type "list",data:=.seq its.toArray n }/\xs.length≤sizeLine:=by
 obtain⟨z,its,n,r,e⟩:=I.hok p _ h
 exact⟨its,n,r,e,z⟩
theorem Inv.lstUpd {pins:List (aD×aY)}{σ:St}{H:Hp}{s:aG}{p:aD}{xs ys:List V}{its its':List aE}{n n':Nat}{f:aY->aY}(I:Inv X pins σ H s)(h:H p=some (.lst xs))
  (ho:s.heap.get? p=some { cls:=.type "list",data:=.seq its.toArray n }) (hf:f { cls:=.type "list",data:=.seq its.toArray n } = { cls:=.type "list",data:=.seq its'.toArray n' }) (r:Vals ys its') (hz:ys.length≤sizeLine) (t:Nat) :
  Inv X pins σ (upd H p (.lst ys)) { s with heap:=s.heap.update p f,toks:=t }:=by
 have e:(s.heap.update p f).get? p=some { cls:=.type "list",data:=.seq its'.toArray n' }:=by
  rw[pM f ho (by rw[hf] <;> rfl),hf]
 refine I.write (x:=p) (e:=p) (by rw[h]; trivial) (.inl rfl) (fun b u hb q=>(qY _ _ (kI hb)).trans q) ⟨_,e⟩ ?_
 exact⟨hz,its',n',r,e⟩
def Bv:V->V->V->Hp->(Hp->Prop)->Prop:=fun o i v H Q=>∃ p xs k j,o = .ref p/\i = .int k/\H p=some (.lst xs)/\ixN xs.length k=some j/\Q (upd H p (.lst (xs.set j v)))
theorem set_list:LO X Bv:=by
 intro pins s σ H o i v ov iv u Q I ro ri rv h
 obtain⟨p,xs,k,j,rfl,rfl,hp,hj,q⟩:=h
 cases ro
 obtain⟨t,rfl⟩:=ri
 obtain⟨its,n,r,ho,hz⟩:=I.lst hp
 obtain⟨h1,h2,h3,h4⟩:=NM hj
 have hl:=r.length
 have hn:=tP
 have I':Inv X pins σ (upd H p (.lst (xs.set j v))) { s with heap:=s.heap.update p (gJ (·.setIfInBounds j u)) }:=
  I.lstUpd hp ho (Mp its n j u) (r.set rv j) (by rw[List.length_set]; exact hz) s.toks
 by_cases h0:0≤k
 ·have hk:k.toNat=j:=by
   rw[seqIndex_of h0 h4] at h1
   exact iJ h1
  exact PySem.W.ki_setAt ho h0 (by omega) (by rw[eG,← hl]; exact h4) (by rw[hk]; exact⟨_,I',q⟩)
 ·have hk:(k+(its.toArray.size:Int)).toNat=j:=by
   rw[seqIndex_neg (by omega) h3] at h1
   rw[eG,← hl]
   exact iJ h1
  exact PySem.W.ki_setBack ho (by omega) (by rw[eG,← hl]; exact h3) (by omega) (by rw[hk]; exact⟨_,I',q⟩)
theorem Pn (lo hi:Option Int)(n:Nat):(vP lo hi none n).1=((HT.sIx n 0 lo:Nat):Int)/\(vP lo hi none n).2.1=((HT.sIx n n hi:Nat):Int)/\(vP lo hi none n).2.2=1:=by
 refine⟨?_,?_,rfl⟩
 ·cases lo with
  | none=>simp[vP,HT.sIx]
  | some i=>
   simp only[vP,HT.sIx,Option.getD_none,show(1:Int) > 0 by decide,if_true]
   by_cases h:i<0
   ·simp only[h,if_true] <;> omega
   ·simp only[h,if_false] <;> omega
 ·cases hi with
  | none=>simp[vP,HT.sIx]
  | some i=>
   simp only[vP,HT.sIx,Option.getD_none,show(1:Int) > 0 by decide,if_true]
   by_cases h:i<0
   ·simp only[h,if_true] <;> omega
   ·simp only[h,if_false] <;> omega
theorem Py (its:List aE)(lo hi:Option Int):slicePick its.toArray lo hi none=((its.drop (HT.sIx its.length 0 lo)).take (HT.sIx its.length its.length hi - HT.sIx its.length 0 lo)).toArray:=by
 obtain⟨h1,h2,h3⟩:=Pn lo hi its.toArray.size
 unfold slicePick
 rw[h1,h2,h3]
 simp only[sliceRange_one,pick_run,eG] <;> rfl
def Ag (K:aK):V->Option Int->Option Int->Hp->VK->Prop:=fun x lo hi H Q=>∃ a xs,x = .ref a/\SqL K H a xs /\ ∀ p,H p=none->Q (.ref p) (upd H p (.lst (qJ xs lo hi)))
theorem Ho:SlR X (Ag X.K):=by
 intro pins s σ H x v vl vu lo hi sl Q I rx hs pl pu h
 obtain⟨a,xs,rfl,hx,q⟩:=h
 cases rx
 obtain⟨its,r,ht,hz⟩:=I.list hx
 have hlen:=r.length
 refine⟨"list",_,slot_list_getitem.lookup,ht.isList.typeIs,?_⟩
 refine wpAny_getItem_list_slice ht.isList hs pl pu .none (by simp) ?_ (by rw[eG] <;> omega)
 rw[Py,← hlen]
 refine⟨.ref s.heap.objs.size,_,I.laid (t':=s.toks) (o:=.lst (qJ xs lo hi)) (fun b ob q=>cL _ q) (bY _) ?_,rfl,q _ (I.hok.fresh (bY _))⟩
 exact⟨iR (UA xs lo hi) hz,_,0,(r.drop (HT.sIx xs.length 0 lo)).take (HT.sIx xs.length xs.length hi - HT.sIx xs.length 0 lo),eL _ rfl⟩
theorem Aq9:Aeh X (.builtin "len") (fun xs H Q=>∃ p ys,xs=[.ref p]/\(SqL X.K H p ys \/ SqT X.K H p ys)/\Q (.int ys.length) H):=by
 intro pins s σ H xs us Q I r h
 obtain⟨p,ys,rfl,hq,q⟩:=h
 obtain⟨u,rfl,rx⟩:=vals1 r
 cases rx
 have hn:=tP
 rcases hq with hq | hq
 ·obtain⟨its,r',pl,hz⟩:=I.list hq
  have hlen:=r'.length
  exact Calls.call_len_list pl.isList (by simp only[eG] <;> omega) ⟨.int ys.length,H,I.tok _,⟨s.toks+1,by rw[eG,hlen]⟩,q⟩
 ·obtain⟨its,r',pl,hz⟩:=I.tuple hq
  have hlen:=r'.length
  exact len_tuple pl (by simp only[eG] <;> omega) ⟨.int ys.length,H,I.tok _,⟨s.toks+1,by rw[eG,hlen]⟩,q⟩
theorem Aqr:Aeh X (.builtin "len") (fun xs H Q=>∃ z,xs=[.str z]/\z.length≤sizeLine/\Q (.int z.length) H):=by
 intro pins s σ H xs us Q I r h
 obtain⟨z,rfl,hz,q⟩:=h
 obtain⟨u,rfl,t,rfl⟩:=vals1 r
 have hn:=tP
 exact len_str (by omega) ⟨.int z.length,H,I.tok _,⟨_,rfl⟩,q⟩
theorem Aeh.or {f:aE}{r r':List V->Hp->VK->Prop}(h:Aeh X f r)(h':Aeh X f r'):Aeh X f (fun xs H Q=>r xs H Q \/ r' xs H Q):=by
 intro pins s σ H xs us Q I rs q
 rcases q with q | q
 ·exact h pins s σ H xs us Q I rs q
 ·exact h' pins s σ H xs us Q I rs q
theorem Aqu:Aeh X (.type "list") (fun xs H Q=>∃ p ys,xs=[.ref p]/\(SqL X.K H p ys \/ SqT X.K H p ys) /\ ∀ l,H l=none->Q (.ref l) (upd H l (.lst ys))):=by
 intro pins s σ H xs us Q I r h
 obtain⟨p,ys,rfl,hq,q⟩:=h
 obtain⟨u,rfl,rx⟩:=vals1 r
 cases rx
 have fin : ∀ (its:List aE),Vals ys its->ys.length≤sizeLine -> ∀ (h':aW) (c':Nat),(∀ b o',s.heap.get? b=some o'->h'.get? b=some o') ->
   h'.get? s.heap.objs.size=some { cls:=.type "list",dict:=none,data:=.seq its.toArray c',slots:=#[] }->EP X pins σ Q (.ref s.heap.objs.size) { s with heap:=h' }:=fun its r' hz h' c' kp e=>
  ⟨.ref s.heap.objs.size,_,I.laid (t':=s.toks) kp (bY _) (show Acv X.prog X.w _ h' _ (.lst ys) from⟨hz,its,c',r',e⟩),rfl,q _ (I.hok.fresh (bY _))⟩
 rcases hq with hq | hq
 ·obtain⟨its,r',pl,hz⟩:=I.list hq
  have hlen:=r'.length
  obtain⟨o,ho,hc,n,hd⟩:=pl.isList
  exact call_list_seq p (.inl rfl) ho hc hd (fun h' c' kp e=>fin its r' hz h' c' kp e) (by simp only[eG] <;> omega)
 ·obtain⟨its,r',pl,hz⟩:=I.tuple hq
  have hlen:=r'.length
  obtain⟨o,ho,hc,n,hd⟩:=pl
  exact call_list_seq p (.inr rfl) ho hc hd (fun h' c' kp e=>fin its r' hz h' c' kp e) (by simp only[eG] <;> omega)
theorem yN:Aeh X (.type "tuple") (fun xs H Q=>∃ p ys,xs=[.ref p]/\((SqL X.K H p ys /\ ∀ l,H l=none->Q (.ref l) (upd H l (.tup ys))) \/ (SqT X.K H p ys/\Q (.ref p) H))):=by
 intro pins s σ H xs us Q I r h
 obtain⟨p,ys,rfl,h⟩:=h
 obtain⟨u,rfl,rx⟩:=vals1 r
 cases rx
 rcases h with⟨hq,q⟩ | ⟨hq,q⟩
 ·obtain⟨its,r',pl,hz⟩:=I.list hq
  have hlen:=r'.length
  refine call_tuple_list pl.isList (fun h' kp=>?_) (by simp only[eG] <;> omega)
  have I1:Inv X pins σ H { s with heap:=h' }:=I.kept (t':=s.toks) kp
  have I2:Inv X pins σ (upd H h'.objs.size (.tup ys)) { s with heap:=h'.push { cls:=.type "tuple",data:=.seq its.toArray } }:=
   I1.laid (t':=s.toks) (fun b o e=>cL _ e) (bY _) (show Acv X.prog X.w _ _ _ (.tup ys) from⟨hz,its,r',A9s.new _ _⟩)
  exact⟨.ref h'.objs.size,_,I2,rfl,q _ (I1.hok.fresh (bY _))⟩
 ·obtain⟨its,r',pl,hz⟩:=I.tuple hq
  exact call_tuple_same pl ⟨.ref p,H,I,rfl,q⟩
def tyV (K:aK)(T:String)(x:V)(H:Hp):Prop:=match x with
 | .str _=>T = "str"
 | .int _=>T = "int"
 | .ref p=>(T = "list" /\ ∃ xs,SqL K H p xs) \/ (T = "tuple" /\ ((∃ o,K.lookup p=some o/\o.cls = .type "tuple" /\ o.dict=none) \/ ∃ xs,H p=some (.tup xs))) \/
   (T = "dict" /\ ((∃ ep kvs,H p=some (.dK ep kvs)) \/ ∃ kvs,∃ ep,H p=some (.dT ep kvs))) \/ (T = "set" /\ ∃ S n,H p=some (.set S n))
 | _=>False
theorem Fh {pins:List (aD×aY)}{σ:St}{H:Hp}{s:aG}{T:String}{x:V}{v:aE}(I:Inv X pins σ H s)(r:RelV x v)(ty:tyV X.K T x H) :
  s.TypeIs v T /\ ∀ a,v = .ref a -> ∃ ob,s.heap.get? a=some ob/\ob.dict=none:=by
 cases x with
 | str z=>
  obtain⟨t,rfl⟩:=r
  cases(show T = "str" from ty)
  exact⟨vO s z t,fun _ e=>nomatch e⟩
 | int i=>
  obtain⟨t,rfl⟩:=r
  cases(show T = "int" from ty)
  exact⟨typeIs_int s i t,fun _ e=>nomatch e⟩
 | ref p=>
  cases r
  rcases ty with⟨rfl,xs,hq⟩ | ⟨rfl,⟨o,hk,hc,hd⟩ | ⟨xs,hx⟩⟩ | ⟨rfl,hk⟩ | ⟨rfl,S,n,hk⟩
  ·obtain⟨its,_,pl,_⟩:=I.list hq
   refine⟨pl.isList.typeIs,fun a e=>?_⟩
   cases e
   obtain⟨o,n,e,c,hd,_⟩:=pl
   exact⟨o,e,hd⟩
  ·refine⟨⟨o,I.kIn p o hk,hc⟩,fun a e=>?_⟩
   cases e
   exact⟨o,I.kIn _ o hk,hd⟩
  ·obtain⟨_,_,_,⟨o,e,c,_⟩,n⟩:=(show Acv X.prog X.w H s.heap p (.tup xs) from I.hok p _ hx)
   refine⟨⟨o,e,c⟩,fun a e=>?_⟩
   cases e
   exact n
  ·have z : ∃ o,s.heap.get? p=some o/\o.ExactDict:=by
    rcases hk with⟨ep,kvs,hk⟩ | ⟨kvs,ep,hk⟩
    ·obtain⟨_,_,_,_,o,_,e,ex,_⟩:=I.hok p _ hk
     exact⟨o,e,ex⟩
    ·obtain⟨_,_,_,_,o,_,e,ex,_⟩:=I.hok p _ hk
     exact⟨o,e,ex⟩
   obtain⟨o,e,ex⟩:=z
   refine⟨⟨o,e,ex.1⟩,fun a e2=>?_⟩
   cases e2
   exact⟨o,e,ex.2.1⟩
  ·obtain⟨o,_,_,_,e,ex,_⟩:=I.hok p _ hk
   refine⟨⟨o,e,ex.1⟩,fun a e2=>?_⟩
   cases e2
   exact⟨o,e,ex.2.1⟩
 | _=>exact pO ty
noncomputable def tBM (K:aK)(T:String)(r:V->List V->Hp->VK->Prop)(to:TE)(t:TA):TE:=fun σ H Q=>to σ H fun x H1=>tyV K T x H1/\t σ H1 fun xs H2=>r x xs H2 Q
variable {o e:aX}{es:List aX}{to:TE}{t:TA}{name:aB}{apos cpos:cE}{T id:String}{r:V->List V->Hp->VK->Prop}
theorem tJ (pa:PlainAttrs T)(slot:Slot T name id)(hty:typeOf (.builtin id)=pure (.type "method_descriptor"))(hm:MtR X id r)(ho:PE X o to)(ha:PA X (e::es) t)
  (hbase:vX o name X.env (cD o X.env)=cD o X.env:=by rfl)
  (hfew:((eX cpos (bM (e::es) X.env)).all (fun x=>!x.1)&&(vW cpos (vR [] X.env)).all (fun x=>x.1.isSome)
   && decide ((e::es).length+([]:List lG).length+(if ([]:List lG).isEmpty then 0 else 1)<30))=true:=by rfl)
  (hline:(apos.endLine == cpos.line)=true:=by rfl) (hs:bM (e::es) X.env=(false,cD e X.env)::bM es X.env:=by rfl) (hplain:(eX cpos (bM es X.env)).any (·.1)=false:=by rfl) :
  PE X (.Call (.Attribute o name apos) (e::es) [] cpos) (tBM X.K T r to t):=by
 intro pins s σ H Q I h
 refine wpAny_Call_method_late hbase hfew hline rfl (thn (ho pins s σ H _ I h) fun v s1 gh=>?_)
 obtain⟨x,H1,I1,r1,ty,q1⟩:=gh
 obtain⟨h1,h2⟩:=Fh I1 r1 ty
 refine⟨T,id,pa,slot,hty,h1,h2,?_⟩
 have hA:=ha cpos pins s1 σ H1 _ I1 q1
 rw[hs] at hA ⊢
 refine Calls.callWith_builtin (by show(false||(eX cpos (bM es X.env)).any (·.1))=false; rw[hplain] <;> rfl) (Calls.evalArgs_plain ?_)
 exact thn hA fun us s2 ⟨vs,H2,I2,r2,q2⟩=>hm pins s2 σ H2 x vs v us Q I2 r1 r2 q2
end
def MtM (X:Cx)(id:String)(r:V->List V->Hp->VK->Prop):Prop:=
 ∀ (pins:List (aD×aY)) (s:aG) (σ:St) (H:Hp) (x:V) (xs:List V) (v:aE) (us:List aE) (Q:VK),Inv X pins σ H s->RelV x v->Vals xs us->r x xs H Q ->
  aN (aT X.prog X.w) X.A (call (.builtin id) (v::us)) (EP X pins σ Q) X.xe s
theorem Vals.one : ∀ {x:V} {us:List aE},Vals [x] us -> ∃ u,us=[u]/\RelV x u:=by
 intro x us h
 cases h with
 | cons r t=>cases t; exact⟨_,rfl,r⟩
section
variable {X:Cx}{pins:List (aD×aY)}{σ:St}{H:Hp}{s:aG}{l b:aD}{xs ys zs:List V}
theorem Inv.lset {its its':List aE}{n:Nat}{f:Array aE->Array aE}{t':Nat}(I:Inv X pins σ H s)(hH:H l=some (.lst xs))
  (e:s.heap.get? l=some { cls:=.type "list",data:=.seq its.toArray n }) (hf:f its.toArray=its'.toArray) (hv:Vals ys its') (hz:ys.length≤sizeLine) :
  Inv X pins σ (upd H l (.lst ys)) { s with heap:=s.heap.update l (gJ f),toks:=t' }:=by
 have q:=PySem.IsL.update e f
 rw[hf] at q
 refine I.write (x:=l) (e:=l) (by rw[hH]; exact trivial) (.inl rfl) (fun b' u hb hu=>(qY s.heap (gJ f) (kI hb)).trans hu) ⟨_,q⟩ ?_
 exact⟨hz,its',_,hv,q⟩
theorem Inv.lnew {its:List aE}{t':Nat}(I:Inv X pins σ H s)(hv:Vals ys its)(hz:ys.length≤sizeLine) :
  Inv X pins σ (upd H s.heap.objs.size (.lst ys)) { s with heap:=s.heap.push { cls:=.type "list",data:=.seq its.toArray },toks:=t' }:=
 I.laid (fun _ _ q=>cL _ q) (bY _) ⟨hz,its,0,hv,eL _ rfl⟩
theorem Inv.fresh (I:Inv X pins σ H s):H s.heap.objs.size=none:=I.hok.fresh (bY _)
theorem Inv.lstM (I:Inv X pins σ H s)(hH:H l=some (.lst xs)):xs.length≤sizeLine /\ ∃ (its:List aE) (n:Nat),Vals xs its/\xs.length=its.length/\s.heap.get? l=some { cls:=.type "list",data:=.seq its.toArray n }:=by
 obtain⟨z,its,n,r,e⟩:=I.hok l _ hH
 exact⟨z,its,n,r,r.length,e⟩
theorem Su {n:Nat}(h:n≤sizeLine):ZU n=false:=by
 unfold ZU
 exact decide_eq_false (by omega)
end
section
variable {X:Cx}
def Jb:V->List V->Hp->VK->Prop:=fun x vs H Q=>∃ l xs y,x = .ref l/\vs=[y]/\H l=some (.lst xs)/\xs.length<sizeLine/\Q .non (upd H l (.lst (xs++[y])))
theorem QU:MtM X "list.append" Jb:=by
 intro pins s σ H x vs v us Q I rx rv h
 obtain⟨l,xs,y,rfl,rfl,hH,hz,q⟩:=h
 cases rx
 obtain⟨u,rfl,ru⟩:=rv.one
 obtain⟨z,its,n,r,hl,e⟩:=I.lstM hH
 refine EE F.slot_list_append ⟨_,e,rfl⟩ F.entry_list_append (F.args_list_append_2 _ _) (PySem.list_append l its.toArray n u (by rw[eG]; omega)) ⟨e,?_⟩
 refine⟨.non,_,I.lset (its':=its++[u]) hH e (by simp) (r.append (.cons ru .nil)) ?_,rfl,q⟩
 rw[hV,qR]
 omega
end
end L2
namespace Att
open PySem PySem.W PySem.Calls PyProof.Rows
theorem Qf {P:Params}{h:aW} : ∀ (ns:List Int) (vs:List aE),WellAll P h vs (ns.map WData.int)->IntsAre vs ns:=by
 intro ns
 induction ns with
 | nil=>
  intro vs w
  rw[List.map_nil] at w
  cases w
  exact .nil
 | cons n ns ih=>
  intro vs w
  rw[fE] at w
  cases w with
  | cons a b=>
   cases a
   exact .cons _ _ (ih _ b)
theorem Wr {l:OpenLaw}{n:Nat}(hn:l.most=some n){P:Params}{h:aW}{args:List WData}{vals:List aE}
  (hpre:l.row.toRowW.claim.pre args=true) (hwl:WellAll P h vals args) :
  ∃ a vs ns,vals=[fR a]/\args=[WData.list (ns.map WData.int)]/\h.get? a=some { cls:=.type "list",data:=.seq vs.toArray }/\IntsAre vs ns/\ns.length≤n:=by
 have hsh:WShape.hasAll [] args [.list .int]=true:=(pre_splitW hpre).1
 have hc:l.pre.holds [] { args:=args }=true:=(pre_splitW hpre).2
 obtain⟨d,r,rfl,h1,h2⟩:=hasAllW_cons hsh
 obtain rfl:=hasAllW_nil h2
 obtain⟨xs,rfl,h3⟩:=hasW_list h1
 obtain⟨ns,rfl⟩:=items_int h3
 have hlen:ns.length≤n:=by
  unfold OpenLaw.pre at hc
  have h4:(WTm.not (.lt (.lit (.int (n:Int))) (.len (.arg 0)))).holds [] { args:=[.list (ns.map .int)] }=true:=by
   have h4:=(holds_andW hc).1
   rw[hn] at h4
   exact h4
  have h5:=condW_of h4 (w_not (w_lt w_lit (w_len_list (w_arg rfl))))
  rw[dJ] at h5
  refine Nat.le_of_not_lt fun q=>?_
  have q':(n:Int)<((ns.length:Nat):Int):=by omega
  first
   | (rw[decide_eq_true q'] at h5; exact absurd h5 (by decide))
   | (simp at h5; omega)
 cases hwl with
 | cons w1 w2=>
  cases w2
  cases w1 with
  | list ho hall=>exact⟨_,_,ns,rfl,rfl,ho,Qf ns _ hall,hlen⟩
theorem Kd (l:OpenLaw)(args:List WData):l.row.toRowW.claim.post args (.bool true) args=true:=
 postW_of (r:=l.row.toRowW) (X:=(true == true))
  (show WShape.has [] (.bool true) .bool=true by first | rfl | decide | simp[WShape.has,WShape.arms,WShape.armsAll])
  (show(WTm.eq .res (.lit (.bool true))).value [] { args:=args,res:=some (.bool true),after:=args }=some (.bool (true == true)) from w_eq_bool (w_res rfl) w_lit) rfl
theorem Aus {l:OpenLaw}{n:Nat}{q:bQ}{loose:List aB}{XP:(aB->Option aE)->aW->Prop}{YP:bB->aW->Prop}{d:DefRec}
  (hn:l.most=some n) (hdf:d.params.defaults=[])
  (call : ∀ (w:bB) (s₀ s₁:aG) (mg mb:aB->Option aE) (fa:aD) (o:aY) (pm cd doc:aE) (a:aD) (vs:List aE) (ns:List Int),
   Ground q loose [] XP w s₀ mg mb s₁.heap->YP w s₁.heap ->
   s₁.heap.get? fa=some o->o.data = .func (docDef d.name d.params d.body d.scope pm cd doc)->s₁.heap.CodeRec cd d.name->mg d.name=some (.ref fa) ->
   s₁.heap.get? a=some { cls:=.type "list",data:=.seq vs.toArray }->IntsAre vs ns->ns.length≤n->s₁.gens = #[] ->
   nW (aT l.prog w) vU (.call (.ref fa) ⟨[.ref a],[]⟩) (fun r s'=>r = .ok (.ret (.bool true))/\OldK s₁.heap s'.heap/\s'.os=s₁.os/\pQ s'.gens) s₁) :
  WalkO q loose XP YP l.row.toRowW d [] (fun f vs=>PySem.call f vs):=by
 intro w s₀ s₁ mg mb G Y fa o pm cd doc dV kV ho hd hcd hD hmg hg args vals as hpre hlay hrd hwl hlo
 obtain rfl:dV = .none:=Dflts.none hD hdf
 obtain rfl:kV = .none:=Dflts.noKw hD
 obtain⟨a,vs,ns,rfl,rfl,hobj,hints,hlen⟩:=Wr hn hpre hwl
 refine enter_call (vT (call w s₀ s₁ mg mb fa o pm cd doc a vs ns G Y ho (fd_plain hd) hcd hmg hobj hints hlen hg) fun r s' hq=>?_)
 obtain⟨rfl,h2,h3,h4⟩:=hq
 exact⟨.inl ⟨.bool true,.bool true,[],rfl,fun _=>rfl,.bool true,Kd l _,fun _=>⟨List.Pairwise.nil,fun _ hm=>(nomatch hm)⟩⟩,h2,h3,h4⟩
end Att
namespace L2
open PySem PySem.Spec PyProof.Rows
theorem RX : ∀ {vs:List aE} {ns:List Int},IntsAre vs ns->Vals (ns.map V.int) vs
 | _,_,.nil=>.nil
 | _,_,.cons n t h=>.cons ⟨t,rfl⟩ (RX h)
def Only (H:Hp):Prop:=∀ b,H b=none \/ ∃ o xs,H b=some (.frz o (.lst xs))
theorem Tb {P:bQ}{w:bB}{K:aK}{mg mb:aB->Option aE}{CX:CXT}{k:Nat}{fa a:aD}{fd:fX}{x:aB}{sp:Sp}{s₁:aG}{vs:List aE}{ns:List Int}
  (KX:K.In s₁.heap) (hns:s₁.heap.Ns cJ mg) (hb:s₁.heap.Ns builtinsNs mb) (hbb : ∀ x:aB,x ≠ "__name__" -> mb x=lU x) (hlim:s₁.heap.NoLimit) (hg:s₁.gens = #[])
  (ha:s₁.heap.get? a=some { cls:=.type "list",data:=.seq vs.toArray }) (hi:IntsAre vs ns) (hl:ns.length≤sizeLine) (hr:Room k vU)
  (F : ∀ base:aW,K.In base->base.Ns cJ mg->FnOk P w K mg base CX k fa fd [x] sp) (hbind : ∀ (s:aG) (u:aE),BindsTo s fd ⟨[u],[]⟩ [(x,u)])
  (hsp : ∀ H:Hp,Only H->SqL K H a (ns.map V.int)->sp [.ref a] H (fun v _=>v = .bl true) fun _ _ _=>False)
  (hCX : ∀ H e s',CX [] H s₁ (fun _ _ _=>False) e s'->False) :
  nW (aT P w) vU (.call (.ref fa) ⟨[.ref a],[]⟩) (fun r s'=>r = .ok (.ret (.bool true))/\OldK s₁.heap s'.heap/\s'.os=s₁.os/\pQ s'.gens) s₁:=by
 have rv:=RX hi
 have lenV:=hi.length
 have core : ∀ H:Hp,Only H->SqL K H a (ns.map V.int)->HOk P w H s₁.heap->(∀ b,H b≠none->b=a)->(H a≠none->K.lookup a=none) ->
   nW (aT P w) vU (.call (.ref fa) ⟨[.ref a],[]⟩) (fun r s'=>r = .ok (.ret (.bool true))/\OldK s₁.heap s'.heap/\s'.os=s₁.os/\pQ s'.gens) s₁:=by
  intro H hO hS hok hA hK
  have base_of : ∀ {b:aD} {o:aY},s₁.heap.get? b=some o->H b=none->(pA s₁.heap H).get? b=some o:=fun e n=>Rz e n
  have noA : ∀ {b:aD} {o:aY} {es:Array pP} {ep:Nat},s₁.heap.get? b=some o->o.data = .dict es ep->H b=none:=fun {b o es ep} e d=>by
   cases q:H b with
   | none=>rfl
   | some u=>
    have e':b=a:=hA b (by rw[q]; simp)
    subst e'
    rw[ha] at e; cases e
    have d':Data.seq vs.toArray _=Data.dict es ep:=d
    cases d'
  have nsK : ∀ {b:aD} {m:aB->Option aE},s₁.heap.Ns b m->(pA s₁.heap H).Ns b m:=fun {b m} ⟨o,es,ep,e,d,r⟩=>⟨o,es,ep,base_of e (noA e d),d,r⟩
  have hKb:K.In (pA s₁.heap H):=fun b o e=>base_of (KX b o e) (by
   cases q:H b with
   | none=>rfl
   | some u=>
    have e':b=a:=hA b (by rw[q]; simp)
    subst e'
    rw[hK (by rw[q]; simp)] at e; cases e)
  have hM:Mod K mg (pA s₁.heap H):=⟨hKb,nsK hns,⟨mb,nsK hb,hbb⟩,let ⟨mc,h1,h2⟩:=hlim; ⟨mc,nsK h1,h2⟩⟩
  have e0:Env0 P w K mg (pA s₁.heap H) vU [] s₁ H:=⟨rfl,hM,fun b o e=>Hf e,Nat.le_of_eq (Vy _ _),trivial,fun b hb=>absurd (show b∈([]:List aD) from hb) (by simp),hok,.of_eq hg⟩
  refine vT ((F _ hKb (nsK hns)).run vU [] s₁ H ⟨[.ref a],[]⟩ [.ref a] [.ref a] _ _ hr e0 (hbind s₁ (.ref a)) (.cons rfl .nil) (hsp H hO hS)) fun r s' h=>?_
  cases r with
  | error e=>exact(hCX H e s' h).elim
  | ok fl=>
   cases fl with
   | next=>exact pO h
   | brk=>exact pO h
   | cont=>exact pO h
   | ret u=>
    obtain⟨v,H',os,bare,un,hok',r',q⟩:=h
    have q':v = .bl true:=q
    subst q'
    obtain rfl:u=Value.bool true:=r'
    refine⟨rfl,OldK.of_keep fun b o e=>?_,os,bare⟩
    cases q:H b with
    | none=>exact un.keep b o e q (by intro z; exact absurd (show b∈([]:List aD) from z) (by simp)) (by simp)
    | some u=>
     rcases hO b with z | ⟨ob,xs,z⟩
     ·rw[q] at z; cases z
     ·have z2:=un.frzs b ob _ z
      obtain⟨e1,_⟩:=hok b _ z
      obtain⟨e2,_⟩:=hok' b _ z2
      rw[e] at e1; cases e1
      exact e2
 cases hk:K.lookup a with
 | some o=>
  have e:=KX a o hk
  rw[ha] at e
  cases e
  refine core (fun _=>none) (fun _=>.inl rfl) (.inr ⟨_,vs.toArray,_,hk,rfl,rfl,rfl,by rw[eG,lenV]; exact hl,by simpa using rv⟩) (fun b u z=>by have z':(none:Option HO)=some u:=z; cases z') (fun b z=>absurd rfl z) fun z=>absurd rfl z
 | none=>
  refine core (fun b=>if b=a then some (.frz { cls:=.type "list",data:=.seq vs.toArray } (.lst (ns.map V.int))) else none) (fun b=>?_) (.inl (.inr ⟨{ cls:=.type "list",data:=.seq vs.toArray },if_pos rfl⟩)) (fun b u z=>?_) (fun b z=>?_) fun _=>hk
  ·by_cases hb:b=a
   ·exact .inr ⟨_,_,if_pos hb⟩
   ·exact .inl (if_neg hb)
  ·by_cases hb:b=a
   ·have z':=(if_pos hb).symm.trans z
    cases z'
    subst hb
    exact⟨ha,by rw[dJ]; exact hl,vs,_,rv,ha⟩
   ·have z':=(if_neg hb).symm.trans z
    cases z'
  ·by_cases hb:b=a
   ·exact hb
   ·exact absurd (if_neg hb) z
theorem Ba2 {l:YG}{n k:Nat}{q:bQ}{loose:List aB}{XP:(aB->Option aE)->aW->Prop}{YP:bB->aW->Prop}{d:DefRec}{K:Params->aK}{CX:bB->CXT}{sp:bB->Sp}{x:aB}
  (hn:l.most=some n) (hn2:n≤sizeLine) (hdf:d.params.defaults=[]) (hr:Room k vU)
  (hY : ∀ (w:bB) (h:aW),YP w h->(K w.params).In h)
  (F : ∀ (w:bB) (mg:aB->Option aE) (fa:aD) (h:aW),(K w.params).In h->h.Ns cJ mg->mg d.name=some (.ref fa) ->
   ∃ fd:fX,(∀ (s:aG) (u:aE),BindsTo s fd ⟨[u],[]⟩ [(x,u)]) /\
    ∀ base:aW,(K w.params).In base->base.Ns cJ mg->FnOk l.prog w (K w.params) mg base (CX w) k fa fd [x] (sp w))
  (hsp : ∀ (w:bB) (H:Hp) (a:aD) (ns:List Int),ns.length≤n->Only H->SqL (K w.params) H a (ns.map V.int)->sp w [.ref a] H (fun v _=>v = .bl true) fun _ _ _=>False)
  (hCX : ∀ (w:bB) (H:Hp) (s:aG) (e:aE) (s':aG),CX w [] H s (fun _ _ _=>False) e s'->False) :
  PySem.W.WalkO q loose XP YP l.row.toRowW d [] (fun f vs=>PySem.call f vs):=by
 refine Att.Aus hn hdf fun w s₀ s₁ mg mb fa o pm cd doc a vs ns G Y ho hd hcd hmg hobj hints hlen hg=>?_
 have KX:=hY w _ Y
 obtain⟨fd,hb,hF⟩:=F w mg fa _ KX G.T.g hmg
 exact Tb KX G.T.g G.T.b G.T.builtins G.T.nolimit hg hobj hints (iR hlen hn2) hr hF hb (fun H hO hS=>hsp w H a ns hlen hO hS) fun H e s'=>hCX w H s₁ e s'
noncomputable def kZ (s:bP):Arguments:=match s with
 | .FunctionDef _ a _ _ _ _ _ _ _ _=>a
 | _=>{ posonlyargs:=[],args:=[],vararg:=none,kwonlyargs:=[],kw_defaults:=[],kwarg:=none,defaults:=[] }
noncomputable def iZ (s:bP):List bP:=match s with
 | .FunctionDef _ _ b _ _ _ _ _ _ _=>b
 | _=>[]
noncomputable def bJ (s:bP):iI:=match s with
 | .FunctionDef _ _ _ _ _ _ sc _ _ _=>sc
 | _=>{ kind:=.function,names:=[],isGenerator:=false,isCoroutine:=false }
noncomputable abbrev CX0:CXT:=fun _ _ _ _ _ _=>False
noncomputable abbrev E0:XK:=fun _ _ _=>False
theorem MR {X:Cx}:Passes CX0 X E0:=fun _ _ _ _ _ _ _ h=>h.elim
structure Fun (K:aK)(x qual:aB)(st:bP)(f:aD)(fd:fX):Prop where
 ex : ∃ (oc:aE) (od:Option aD) (kV doc pm:aE) (an:Option aD) (cdv ct:aE) (osl:Array (Option aE)),
  fd=kF x qual (kZ st) (iZ st) (bJ st) .none kV doc pm an cdv ct/\K.lookup f=some ⟨oc,od,.func fd,osl⟩/\zL K cdv qual=true
 kp:qO K (.ref f)=true
section
variable {P:bQ}{w:bB}{K:aK}{mg:aB->Option aE}{base:aW}
theorem Fun.ok {x qual:aB}{st:bP}{f:aD}{fd:fX}{N ps:List aB}{k:Nat}{sp:Sp}(F:Fun K x qual st f fd)(S:FnScope N ps (bJ st))(len : ∀ vs H Q E,sp vs H Q E->vs.length=ps.length)
  (hbody : ∀ (cdv:aE) (A:cF) (outer:List eU) (s:aG) (H:Hp) (vs:List V) (Q:VK) (E:XK),Room k (A.deeper (iQ qual (bJ st) s.heap.objs.size f cdv))->sp vs H Q E ->
   ∃ t,PSs (jJ CX0 P w K mg base N qual (bJ st) f cdv A outer s H E).nox (iZ st) t/\t { nx:=fun _ H'=>Q .non H',rt:=Q } (start N vs) H):FnOk P w K mg base CX0 (k+1) f fd ps sp:=by
 obtain⟨oc,od,kV,doc,pm,an,cdv,ct,osl,rfl,lk,hcd⟩:=F.ex
 refine MI lk hcd S len fun A outer s H vs Q E hr hsp=>?_
 obtain⟨t,h,q⟩:=hbody cdv A outer s H vs Q E hr hsp
 exact⟨t,h.nox,q⟩
theorem Fun.binds {x qual:aB}{st:bP}{f:aD}{fd:fX}{ps:List aB}(F:Fun K x qual st f fd)
  (h : ∀ (kV doc pm:aE) (an:Option aD) (cdv ct:aE) (us:List aE),us.length=ps.length->vV (kF x qual (kZ st) (iZ st) (bJ st) .none kV doc pm an cdv ct) ⟨us,[]⟩=pure (ps.zip us)):Binds K fd ps []:=by
 obtain⟨oc,od,kV,doc,pm,an,cdv,ct,osl,rfl,lk,hcd⟩:=F.ex
 exact .all (h kV doc pm an cdv ct)
theorem WH {x qual:aB}{st:bP}{f:aD}{oc:aE}{od an:Option aD}{osl:Array (Option aE)}{kV doc pm cdv ct:aE}(l:K.lookup f=some ⟨oc,od,.func (kF x qual (kZ st) (iZ st) (bJ st) .none kV doc pm an cdv ct),osl⟩)
  (c:zL K cdv qual=true) (k:qO K (.ref f)=true):Fun K x qual st f (kF x qual (kZ st) (iZ st) (bJ st) .none kV doc pm an cdv ct):=⟨⟨oc,od,kV,doc,pm,an,cdv,ct,osl,rfl,l,c⟩,k⟩
end
theorem dG {A:cF}{k:Nat}(hr:Room k A):A.units+40<cLine:=YV (Nat.add_le_add_left (by decide:40≤64) _) hr.units
section
variable {X:Cx}
theorem Kq:Aeh X (.builtin "len") (fun xs H Q=>∃ a ep kvs,xs=[V.ref a]/\H a=some (.dK ep kvs)/\Q (.int kvs.length) H):=by
 intro pins s σ H xs us Q I r h
 obtain⟨a,ep,kvs,rfl,ha,q⟩:=h
 obtain⟨u,rfl,ru⟩:=vals1 r
 cases ru
 exact Cf I (.inl ha) fun t s' I'=>⟨.int kvs.length,H,I',⟨t,rfl⟩,q⟩
end
theorem pD {A B:Prop}(h:B):if false=true then A else B:=by
 rw[if_neg oH]
 exact h
theorem pC {A B:Prop}(h:A):if true=true then A else B:=by
 rw[if_pos rfl]
 exact h
section
variable {prog:bQ}{w:bB}{A:cF}{R:Result->aG->Prop}{s:aG}
theorem Os {elt target iter:aX}{ifs:List aX}{scope:iI}{pos:cE}{it acc:aE}{env:eU}(I:Nat->aG->Prop)
  (turn : ∀ n s,I n s->aN (aT prog w) A (kC it) (fun r s₁=>match r with
   | none=>R (.ok .next) s₁
   | some v=>aN (aT prog w) A (JW target it v) (fun _ s₂=>aN (aT prog w) A (pG target env v) (fun _ s₃=>
     aN (aT prog w) A (forIn ifs true fun c r=>if r=true then do let ok ← isTrue c env (cD c env); pure (zY ok) else pure (zY r)) (fun ok s₄=>
      if ok=true then aN (aT prog w) A (cD elt env) (fun x s₅=>
       aN (aT prog w) A (call (.builtin "list.append") [acc,x]) (fun _ s₆=>∃ m,m<n/\I m s₆) (fun _ _=>False) s₅) (fun _ _=>False) s₄
      else ∃ m,m<n/\I m s₄) (fun _ _=>False) s₃) (fun _ _=>False) s₂) (fun _ _=>False) s₁) (fun _ _=>False) s)
  (n:Nat) (h:I n s):nW (aT prog w) A (.compLoop (.ListComp elt [⟨target,iter,ifs,0⟩] scope pos) 0 it acc env) R s:=by
 refine codeAny_loop rfl I (fun n s hI=>?_) n h
 refine wpAny_noted ?_
 rw[compTurn_list]
 refine aI (wpAny_standAt (aI (lB (turn n s hI) (fun r s₁ h₁=>?_) fun _ _ h'=>h'.elim)))
 cases r with
 | none=>exact aR h₁
 | some v=>
  refine aI (lB h₁ (fun _ s₂ h₂=>?_) fun _ _ h'=>h'.elim)
  refine aI (lB h₂ (fun _ s₃ h₃=>aI (lB h₃ (fun ok s₄ h₄=>?_) fun _ _ h'=>h'.elim)) fun _ _ h'=>h'.elim)
  cases ok with
  | false=>exact aR ⟨rfl,h₄⟩
  | true=>
   exact aI (aI (lB h₄ (fun x s₅ h₅=>aI (lB h₅ (fun _ s₆ h₆=>aR (aR ⟨rfl,h₆⟩)) fun _ _ h'=>h'.elim)) fun _ _ h'=>h'.elim))
end
theorem cellOf_eq {env:eU}{n:aB}{c:aD}(h:env.cells.lookup n=some c):cellOf env n=pure c:=by
 unfold cellOf
 rw[h]
noncomputable def eZ (env:eU):List (aB×mB)->List (aB×aD)->List (aB×aD)
 | [],cs=>cs
 | (n,k)::r,cs=>eZ env r (if (k == fW)=true then(match env.cells.lookup n with | some c=>(n,c)::cs | none=>cs) else cs)
theorem UL {sc:iI}{env:eU}(h : ∀ n,(n,fW)∈sc.names -> ∃ c,env.cells.lookup n=some c):closureFor sc env=pure (eZ env sc.names []):=by
 unfold closureFor
 generalize sc.names=l at h
 have go : ∀ (l:List (aB×mB)) (cs:List (aB×aD)),(∀ n,(n,fW)∈l -> ∃ c,env.cells.lookup n=some c) ->
   (forIn l cs (fun(x:aB×mB) (r:List (aB×aD))=>if (x.2 == fW)=true then(do let c ← cellOf env x.1; pure (zY ((x.1,c)::r))) else pure (zY r)):Sem (List (aB×aD)))=pure (eZ env l cs):=by
  intro l
  induction l with
  | nil=>intro cs _; rfl
  | cons p r ih=>
   intro cs hl
   obtain⟨n,k⟩:=p
   rw[List.forIn_cons]
   have hr : ∀ n,(n,fW)∈r -> ∃ c,env.cells.lookup n=some c:=fun n hn=>hl n (bZ _ hn)
   cases hk:(k == fW) with
   | true=>
    have ek:k=fW:=by simpa using hk
    subst ek
    obtain⟨c,hc⟩:=hl n bR
    have e1:eZ env ((n,fW)::r) cs=eZ env r ((n,c)::cs):=by
     show eZ env r (if (fW == fW)=true then(match env.cells.lookup n with | some c=>(n,c)::cs | none=>cs) else cs)=_
     rw[hc]; rfl
    rw[e1]
    simp only[cellOf_eq hc,hk,if_true]
    exact ih ((n,c)::cs) hr
   | false=>
    have e1:eZ env ((n,k)::r) cs=eZ env r cs:=by
     show eZ env r (if (k == fW)=true then(match env.cells.lookup n with | some c=>(n,c)::cs | none=>cs) else cs)=_
     rw[hk]; rfl
    rw[e1]
    simp only[hk,iL,if_false]
    exact ih cs hr
 have e:=go l [] h
 simp only[e]
 rfl
theorem ID {env:eU} : ∀ (l:List (aB×mB)) (cs:List (aB×aD)),(∀ x c,cs.lookup x=some c->env.cells.lookup x=some c) -> ∀ x c,(eZ env l cs).lookup x=some c->env.cells.lookup x=some c
 | [],cs,h,x,c,e=>h x c e
 | (n,k)::r,cs,h,x,c,e=>by
  refine ID r _ ?_ x c e
  intro y d q
  by_cases hk:(k == fW)=true
  ·rw[if_pos hk] at q
   cases hc:env.cells.lookup n with
   | none=>rw[hc] at q; exact h y d q
   | some a=>
    rw[hc] at q
    by_cases hy:(y == n)=true
    ·simp only[nA,hy] at q
     have:y=n:=by simpa using hy
     rw[this,hc]; exact q
    ·have hy':(y == n)=false:=by simpa using hy
     simp only[nA,hy'] at q
     exact h y d q
  ·rw[if_neg hk] at q; exact h y d q
theorem TY {env:eU}{x:aB}{c:aD}(hx:env.cells.lookup x=some c) : ∀ (l:List (aB×mB)) (cs:List (aB×aD)),cs.lookup x=some c->(eZ env l cs).lookup x=some c
 | [],cs,h=>h
 | (n,k)::r,cs,h=>by
  refine TY hx r _ ?_
  by_cases hk:(k == fW)=true
  ·rw[if_pos hk]
   cases hc:env.cells.lookup n with
   | none=>exact h
   | some a=>
    by_cases hy:(x == n)=true
    ·have:x=n:=by simpa using hy
     subst this
     rw[hx] at hc; cases hc
     simp[nA]
    ·have hy':(x == n)=false:=by simpa using hy
     simp only[nA,hy']; exact h
  ·rw[if_neg hk]; exact h
theorem IC {env:eU}{x:aB}{c:aD}(hx:env.cells.lookup x=some c) : ∀ (l:List (aB×mB)) (cs:List (aB×aD)),(x,fW)∈l->(eZ env l cs).lookup x=some c
 | [],cs,h=>by simp at h
 | (n,k)::r,cs,h=>by
  rcases cQ.mp h with e | h
  ·cases e
   refine TY hx r _ ?_
   rw[if_pos (by rfl),hx]
   simp[nA]
  ·exact IC hx r _ h
theorem UE {sc:iI}{env:eU}(x:aB):(vQ sc env).names.lookup x=(sc.names.lookup x).map fun k=>if (k == fW&&env.scope.kind == .function&&env.kindOf x == some .cell)=true then NameKind.cell else k:=by
 unfold vQ
 induction sc.names with
 | nil=>rfl
 | cons p r ih=>
  obtain⟨n,k⟩:=p
  show List.lookup x ((if (k == fW&&env.scope.kind == .function&&env.kindOf n == some .cell)=true then(n,NameKind.cell) else(n,k))::List.map _ r)=_
  by_cases hy:(x == n)=true
  ·have:x=n:=by simpa using hy
   subst this
   by_cases hc:(k == fW&&env.scope.kind == .function&&env.kindOf x == some .cell)=true
   ·rw[if_pos hc]
    simp only[nA,hy,sO]
    rw[if_pos hc]
   ·rw[if_neg hc]
    simp only[nA,hy,sO]
    rw[if_neg hc]
  ·have hy':(x == n)=false:=by simpa using hy
   have e2:List.lookup x ((n,k)::r)=List.lookup x r:=by simp only[nA,hy']
   rw[e2]
   by_cases hc:(k == fW&&env.scope.kind == .function&&env.kindOf n == some .cell)=true
   ·rw[if_pos hc]
    simp only[nA,hy']
    exact ih
   ·rw[if_neg hc]
    simp only[nA,hy']
    exact ih
theorem lookup_mem {α:Type}{x:aB}{v:α} : ∀ {l:List (aB×α)},l.lookup x=some v->(x,v)∈l
 | [],h=>by simp at h
 | (n,k)::r,h=>by
  by_cases hy:(x == n)=true
  ·have:x=n:=by simpa using hy
   subst this
   simp[nA] at h
   subst h
   exact bR
  ·have hy':(x == n)=false:=by simpa using hy
   simp only[nA,hy'] at h
   exact bZ _ (lookup_mem h)
noncomputable def iE (X:Cx)(N:List aB)(sc:iI)(cl:List (aB×aD))(C:aD)(s₀:aG)(H₀:Hp)(ex:List aD):Cx:=
 { X with N:=N,s₀:=s₀,H₀:=H₀,env:=compEnvC sc cl C X.env,outer:=X.stack,ex:=ex,fn:=fun _=>false,pn:=[],xe:=fun _ _=>False }
structure CompScope (X:Cx)(N:List aB)(cap:List (Option Nat))(sc:iI):Prop where
 kind:sc.kind = .function
 nocell : ∀ y∈sc.names,y.2 ≠ .cell
 nm : ∀ y∈sc.names,y.2 = .local->sc.names.lookup y.1=some .local
 fre : ∀ y∈sc.names,y.2 = .free->X.env.scope.names.lookup y.1=some .cell \/ X.env.scope.names.lookup y.1=some .free
 len:cap.length=N.length
 cap : ∀ (i j:Nat),cap[i]?=some (some j) -> ∃ x,N[i]?=some x/\X.N[j]?=some x/\sc.names.lookup x=some .free
noncomputable def sX (cap:List (Option Nat))(σ:St):St:=cap.map fun o=>o.bind fun j=>(σ[j]?).join
def sT (X:Cx)(ifs:List aX)(t:TT):Prop:=
 ∀ (pins:List (aD×aY)) (s:aG) (σ:St) (H:Hp) (Q:Bool->Hp->Prop),Inv X pins σ H s->t σ H Q ->
  aN (aT X.prog X.w) X.A (forIn ifs true fun c r=>if r=true then do let ok ← isTrue c X.env (cD c X.env); pure (zY ok) else pure (zY r)) (TP X pins σ Q) X.xe s
noncomputable def Bm:TT:=fun _ H Q=>Q true H
theorem Ha {X:Cx}:sT X [] Bm:=fun _ _ _ H _ I h=>wpAny_tests_nil ⟨H,I,h⟩
theorem Rl {X:Cx}{c:aX}{t:TT}(h:PT X c t):sT X [c] t:=fun pins s σ H Q I hw=>wpAny_tests_one (h pins s σ H Q I hw)
def LW (cap:List (Option Nat))(J:It)(g:TG)(tc:TT)(te:TE)(σ:St)(H1:Hp)(Q:VK):Prop:=∀ D,H1 D=none ->
 ∃ W:Nat->Nat->List V->St->Hp->Prop,(∃ m,W 0 m [] (sX cap σ) (upd H1 D (.lst []))) /\
  ∀ i m ys σ' H',W i m ys σ' H'->H' D=some (.lst ys)/\((J.stop i H'/\Q (.ref D) H') \/
   (J.go i H'/\ys.length<sizeLine /\ ∃ M:List V->St->Hp->Prop,(∀ zs σ2 H2,M zs σ2 H2 -> ∃ m',m'<m/\W (i+1) m' zs σ2 H2) /\ ∀ x H2,J.yld i H' x H2->g x σ' H2 fun σ3 H3=>tc σ3 H3 fun b H4=>
    if b=true then te σ3 H4 fun y H5=>H5 D=some (.lst ys)/\M (ys++[y]) σ3 (upd H5 D (.lst (ys++[y]))) else M ys σ3 H4))
noncomputable def tLC (cap:List (Option Nat))(wi:TI)(g:TG)(tc:TT)(te:TE):TE:=fun σ H Q=>wi σ H fun J H1=>LW cap J g tc te σ H1 Q
section
variable {X:Cx}{N:List aB}{cap:List (Option Nat)}{sc:iI}{pins:List (aD×aY)}{σ:St}{H:Hp}{s:aG}
theorem CompScope.cells (S:CompScope X N cap sc)(ok:X.Ok) : ∀ n,(n,fW)∈sc.names -> ∃ c,X.env.cells.lookup n=some c:=fun n hn=>ok.has n (S.fre _ hn rfl)
theorem Vm (S:CompScope X N cap sc){fp:List aD}(I:Inv X pins σ H s)(hf : ∀ b∈fp,kN X pins H b)(hl : ∀ b∈fp,b<s.heap.objs.size) :
  (iE X N sc (eZ X.env sc.names []) s.heap.objs.size s H fp).Ok:=by
 have sub : ∀ x c,(eZ X.env sc.names []).lookup x=some c->X.env.cells.lookup x=some c:=ID sc.names [] (fun x c e=>by simp at e)
 refine⟨I.ok.mod,?_,I.ok.glob,I.ok.blt,bY _,?_,?_,?_,I.ok.hd,I.ok.frames,.inl rfl,?_,I.bs,iR I.ok.bsz I.sz,?_,?_,I.stack,I.stkFree⟩
 ·exact S.kind
 ·intro x y c h1 h2
  exact I.ok.inj x y c (sub x c h1) (sub y c h2)
 ·intro x hx
  have hk:(vQ sc X.env).names.lookup x=some .cell \/ (vQ sc X.env).names.lookup x=some .free:=hx
  have hfree:sc.names.lookup x=some .free:=by
   rw[UE] at hk
   cases e:sc.names.lookup x with
   | none=>rw[e] at hk; simp at hk
   | some k=>
    rw[e] at hk
    have hm:=lookup_mem e
    have nc:=S.nocell _ hm
    simp only[sO,EK] at hk
    by_cases hc:(k == fW&&X.env.scope.kind == .function&&X.env.kindOf x == some .cell)=true
    ·have:(k == fW)=true:=by
      simp only[mF] at hc; exact hc.1.1
     rw[show k=fW by simpa using this]
    ·rw[if_neg hc] at hk
     rcases hk with q | q
     ·exact absurd q nc
     ·rw[q]
  obtain⟨c,hc⟩:=S.cells I.ok x (lookup_mem hfree)
  exact⟨c,IC hc _ _ (lookup_mem hfree)⟩
 ·intro x c h1 _
  exact absurd (show false=true from h1) oH
 ·intro b hb
  refine⟨cT (hl b hb),fun x c e=>(hf b hb).2.2.2.2.1 x c (sub x c e)⟩
 ·intro b o e hb
  rcases(hf b hb).2.2.2.1 with z | z
  ·exact I.ok.noex b o e z
  ·exact absurd (hU (cI e) (iR I.ok.bsz z)) (lZ _)
 ·intro b hb hz
  obtain⟨_,h1,h2,_⟩:=hf b hb
  rcases cQ.mp (I.stkSub b hz) with e | e
  ·exact h1 e
  ·exact h2 e
theorem Ry (S:CompScope X N cap sc){fp:List aD}{h':aW}{tk:Nat}(I:Inv X pins σ H s)(hf : ∀ b∈fp,kN X pins H b)(hl : ∀ b∈fp,b<s.heap.objs.size)
  (hn:h'.Ns s.heap.objs.size fun _=>none) (hk : ∀ b o,s.heap.get? b=some o->h'.get? b=some o) :
  Inv (iE X N sc (eZ X.env sc.names []) s.heap.objs.size s H fp) [] (sX cap σ) H { s with heap:=h',toks:=tk }:=by
 have sub : ∀ x c,(eZ X.env sc.names []).lookup x=some c->X.env.cells.lookup x=some c:=ID sc.names [] (fun x c e=>by simp at e)
 have fr:H s.heap.objs.size=none:=I.hok.fresh (bY _)
 refine⟨Vm S I hf hl,rfl,I.bare,Un.kept hk,⟨_,hn,fun i x v e1 e2 e3=>?_⟩,fun x c e=>?_,fr,fun x c e=>I.freeC x c (sub x c e),fun p hp=>by simp[iE] at hp,I.hok.kept hk,?_⟩
 ·have e2':(cap.map fun o=>o.bind fun j=>(σ[j]?).join)[i]?=some (some v):=e2
  rw[fK] at e2'
  cases hc:cap[i]? with
  | none=>rw[hc] at e2'; simp at e2'
  | some o=>
   rw[hc] at e2'
   simp only[sO,EK] at e2'
   cases o with
   | none=>simp at e2'
   | some j=>
    have e2':(σ[j]?).join=some v:=e2'
    have ej:σ[j]?=some (some v):=by
     cases q:σ[j]? with
     | none=>rw[q] at e2'; simp at e2'
     | some z=>rw[q] at e2'; simp at e2'; rw[e2']
    obtain⟨y,n1,n2,fr1⟩:=S.cap i j hc
    have exy:x=y:=iJ (e1.symm.trans n1)
    subst exy
    have hmem:=lookup_mem fr1
    have hkind:=S.fre _ hmem rfl
    obtain⟨m,_,hlk⟩:=I.loc
    obtain⟨u,r,l⟩:=hlk j x v n2 ej (.inr hkind)
    refine⟨u,r,.inr ⟨?_,?_⟩⟩
    ·show(vQ sc X.env).names.lookup x=some .cell \/ (vQ sc X.env).names.lookup x=some .free
     rw[UE,fr1]
     simp only[sO,EK]
     by_cases hc:(fW == fW&&X.env.scope.kind == .function&&X.env.kindOf x == some .cell)=true
     ·exact .inl (if_pos hc)
     ·exact .inr (if_neg hc)
    ·rcases l with⟨k1,_⟩ | ⟨_,c,hc1,hcell⟩
     ·exfalso
      have k1':X.env.scope.names.lookup x=some .local:=k1
      rcases hkind with q | q
      ·rw[k1'] at q; cases q
      ·rw[k1'] at q; cases q
     ·obtain⟨oc,h1,h2⟩:=hcell
      exact⟨c,IC hc1 _ _ hmem,oc,hk _ _ h1,h2⟩
 ·obtain⟨v,oc,h1,h2⟩:=I.cell x c (sub x c e)
  exact⟨v,oc,hk _ _ h1,h2⟩
 ·show(cap.map _).length=N.length
  rw[dJ,S.len]
theorem comp_back {fp:List aD}{cl:List (aB×aD)}{σ':St}{H':Hp}{s':aG}{pl:List (aD×aY)}(I:Inv X pins σ H s)(hf : ∀ b∈fp,kN X pins H b)
  (I':Inv (iE X N sc cl s.heap.objs.size s H fp) pl σ' H' s'):Inv X pins σ H' s':=
 I.call' I'.os (show Un (frs X.stack) fp H H' s.heap s'.heap from I'.base) I'.hok I'.bare fun b hb=>⟨(hf b hb).2.2.2.1,(hf b hb).2.1,(hf b hb).2.2.2.2.1,(hf b hb).2.2.2.2.2⟩
end
section
variable {X:Cx}{N:List aB}{cap:List (Option Nat)}{sc:iI}{elt iter tg:aX}{ifs:List aX}{pos:cE}{wi:TI}{g:TG}{tc:TT}{te:TE}
def Block (X:Cx)(N:List aB)(sc:iI)(tg elt:aX)(ifs:List aX)(g:TG)(tc:TT)(te:TE):Prop:=
 ∀ (cl:List (aB×aD)) (C:aD) (s₀:aG) (H₀:Hp) (ex:List aD),PG (iE X N sc cl C s₀ H₀ ex) tg g/\sT (iE X N sc cl C s₀ H₀ ex) ifs tc/\PE (iE X N sc cl C s₀ H₀ ex) elt te
theorem MY {pins:List (aD×aY)}{σ:St}{H:Hp}{s:aG}{RR:aE->aD->Result->aG->Prop}{E:aE->aG->Prop}(hc:X.calm=true)(S:CompScope X N cap sc)(hb:Block X N sc tg elt ifs g tc te)
  {it:aD} {fp:List aD} {tn:Nat->aW->Prop} {J:It} {Q:VK} (I:Inv X pins σ H s) (T:Turn X.prog X.w X.K tg J fp it tn) (st:tn 0 s.heap) (hf : ∀ b∈fp,kN X pins H b)
  (q:LW cap J g tc te σ H Q)
  (hRR : ∀ (D:aD) (s₀:aG) (H₀:Hp) (σ':St) (H':Hp) (s':aG),Inv X pins σ H₀ s₀->(∀ b∈fp,kN X pins H₀ b)->Inv (iE X N sc (eZ X.env sc.names []) s₀.heap.objs.size s₀ H₀ fp) [] σ' H' s'->Q (.ref D) H' ->
   RR (.ref D) s₀.heap.objs.size (.ok .next) s') :
  aN (aT X.prog X.w) X.A (newList []) (fun acc s₃=>aN (aT X.prog X.w) X.A (newFunctionEnv sc X.env.globals (eZ X.env sc.names []) [] X.env.qual none .none (some X.env)) (fun cenv s₄=>
   nW (aT X.prog X.w) X.A (.compStart (.ListComp elt [⟨tg,iter,ifs,0⟩] sc pos) 0 (.ref it) acc { cenv with scope:=vQ sc X.env }) (RR acc cenv.locals) s₄) E s₃) E s:=by
 have hl : ∀ b∈fp,b<s.heap.objs.size:=fun b hb=>by
  obtain⟨o,e,_⟩:=T.obj 0 _ st b hb
  exact cI e
 refine jE (wpAny_newFunctionEnv S.nocell (by intro y hy; simp at hy) (fun h₁ hns₁ hsb₁=>?_) S.kind)
 dsimp only at hns₁ hsb₁ ⊢
 have I0:Inv X pins σ (upd H s.heap.objs.size (.lst [])) { s with heap:=s.heap.push { cls:=.type "list",data:=.seq ([]:List aE).toArray },toks:=s.toks }:=I.lnew (ys:=[]) .nil (by simp)
 obtain⟨W,⟨m0,w0⟩,turn⟩:=q s.heap.objs.size I.fresh
 generalize hs0:({ s with heap:=s.heap.push { cls:=.type "list",data:=.seq ([]:List aE).toArray },toks:=s.toks }:aG)=s0 at I0
 have hh:s.heap.push { cls:=.type "list",dict:=none,data:=.seq ([]:List aE).toArray }=s0.heap:=by rw[← hs0]
 have ht0:s0.toks=s.toks:=by rw[← hs0]
 have hg0:s0.gens=s.gens/\s0.drawn=s.drawn/\s0.os=s.os:=by rw[← hs0]; exact⟨rfl,rfl,rfl⟩
 rw[hh] at hns₁ hsb₁ ⊢
 have old0 : ∀ b o,s.heap.get? b=some o->s0.heap.get? b=some o:=fun b o e=>by rw[← hh]; exact cL _ e
 have old1 : ∀ b o,s0.heap.get? b=some o->h₁.get? b=some o:=fun b o e=>hsb₁.extBut b o (cT (cI e)) (cL _ e)
 have hl0 : ∀ b∈fp,b<s0.heap.objs.size:=fun b hb=>by
  obtain⟨o,e,_⟩:=T.obj 0 _ st b hb
  exact cI (old0 b o e)
 have hf0 : ∀ b∈fp,kN X pins (upd H s.heap.objs.size (.lst [])) b:=fun b hb=>by
  refine⟨?_,(hf b hb).2⟩
  rw[fJ (cT (hl b hb))]
  exact(hf b hb).1
 have I1:Inv (iE X N sc (eZ X.env sc.names []) s0.heap.objs.size s0 (upd H s.heap.objs.size (.lst [])) fp) [] (sX cap σ) (upd H s.heap.objs.size (.lst [])) { s0 with heap:=h₁,toks:=s.toks+0 }:=
  Ry S I0 hf0 hl0 hns₁ old1
 obtain⟨pg,pf,pe⟩:=hb (eZ X.env sc.names []) s0.heap.objs.size s0 (upd H s.heap.objs.size (.lst [])) fp
 have st1:tn 0 h₁:=T.keep _ _ _ st fun b hb o e=>old1 b o (old0 b o e)
 have stat : ∀ {H':Hp},(∀ b∈fp,H' b=none) -> ∀ b∈fp,kN (iE X N sc (eZ X.env sc.names []) s0.heap.objs.size s0 (upd H s.heap.objs.size (.lst [])) fp) [] H' b:=fun hn b hb=>
  ⟨hn b hb,(I1.ok.exf b hb).1,I1.ok.exfs b hb,.inl hb,(I1.ok.exf b hb).2,fun p hp=>by simp[iE] at hp⟩
 have loop : ∀ s3:aG,s3 = { s0 with heap:=h₁,toks:=s.toks+0 } ->
   nW (aT X.prog X.w) X.A (.compLoop (.ListComp elt [⟨tg,iter,ifs,0⟩] sc pos) 0 (.ref it) (.ref s.heap.objs.size) (compEnvC sc (eZ X.env sc.names []) s0.heap.objs.size X.env)) (RR (.ref s.heap.objs.size) s0.heap.objs.size) s3:=by
  rintro s3 rfl
  refine Os (fun n s'=>∃ i ys σ' H',Inv (iE X N sc (eZ X.env sc.names []) s0.heap.objs.size s0 (upd H s.heap.objs.size (.lst [])) fp) [] σ' H' s'/\tn i s'.heap/\(∀ b∈fp,H' b=none)/\W i n ys σ' H') ?_ m0
   ⟨0,[],sX cap σ,_,I1,st1,fun b hb=>(hf0 b hb).1,w0⟩
  rintro n s3 ⟨i,ys,σ3,H3,I3,st3,fr3,w3⟩
  obtain⟨hD,h3⟩:=turn i n ys σ3 H3 w3
  rcases h3 with⟨stop,qn⟩ | ⟨go,hlen,M,hM,step⟩
  ·refine thn (T.done (iE X N sc (eZ X.env sc.names []) s0.heap.objs.size s0 (upd H s.heap.objs.size (.lst [])) fp) rfl rfl rfl hc i [] s3 σ3 H3 (fun _ _=>False) I3 (stat fr3) st3 stop) fun r s4 gh=>?_
   obtain⟨hr,I4⟩:=gh
   subst hr
   exact hRR _ s0 _ σ3 H3 s4 I0 hf0 I4 qn
  ·refine thn (T.item (iE X N sc (eZ X.env sc.names []) s0.heap.objs.size s0 (upd H s.heap.objs.size (.lst [])) fp) rfl rfl rfl hc i [] s3 σ3 H3 (fun _ _=>False) I3 (stat fr3) st3 go) fun r s4 gh=>?_
   obtain⟨u,hr,h4⟩:=gh
   subst hr
   refine thn h4 fun _ s5 gh=>?_
   obtain⟨x,H5,I5,r5,y5,st5,fr5⟩:=gh
   have I5':=I5.pinned (stat fr5) (T.obj _ _ st5)
   refine thn (pg _ s5 σ3 H5 x u _ I5' r5 (step x H5 y5)) fun _ s6 gh=>?_
   obtain⟨σ6,H6,I6,q6⟩:=gh
   refine thn (pf _ s6 σ6 H6 _ I6 q6) fun b s7 gh=>?_
   obtain⟨H7,I7,q7⟩:=gh
   have again : ∀ {s8:aG} {H8:Hp} {zs:List V},Inv (iE X N sc (eZ X.env sc.names []) s0.heap.objs.size s0 (upd H s.heap.objs.size (.lst [])) fp) ([]++xC fp s5.heap) σ6 H8 s8->M zs σ6 H8 ->
     ∃ m,m<n /\ ∃ i ys σ' H',Inv (iE X N sc (eZ X.env sc.names []) s0.heap.objs.size s0 (upd H s.heap.objs.size (.lst [])) fp) [] σ' H' s8/\tn i s8.heap/\(∀ b∈fp,H' b=none)/\W i m ys σ' H':=fun {s8 H8 zs} I8 w8=>by
    obtain⟨m',hm,w8⟩:=hM _ _ _ w8
    refine⟨m',hm,i+1,zs,σ6,H8,I8.unpinned,T.keep _ _ _ st5 fun b hb o e=>(I8.pin (b,o) (nZ _ (nZ _ (CI hb e)))).1,fun b hb=>?_,w8⟩
    obtain⟨o,e,d⟩:=T.obj _ _ st5 b hb
    exact(I8.pin (b,o) (nZ _ (nZ _ (CI hb e)))).2.1
   cases b with
   | false=>
    rw[if_neg oH] at q7 ⊢
    exact again I7 q7
   | true=>
    rw[if_pos rfl] at q7 ⊢
    refine thn (pe _ s7 σ6 H7 _ I7 q7) fun v s8 gh=>?_
    obtain⟨y,H8,I8,r8,hD8,w8⟩:=gh
    refine thn (QU _ s8 σ6 H8 (.ref s.heap.objs.size) [y] (.ref s.heap.objs.size) [v] (fun _ H9=>H9=upd H8 s.heap.objs.size (.lst (ys++[y]))) I8 rfl (.cons r8 .nil) ⟨_,ys,y,rfl,rfl,hD8,hlen,rfl⟩) fun _ s9 gh=>?_
    obtain⟨_,H9,I9,_,e9⟩:=gh
    subst e9
    exact again I9 w8
 have e3:({ s with heap:=h₁,toks:=s.toks+([]:List (aB×aE)).length }:aG) = { s0 with heap:=h₁,toks:=s.toks+0 }:=by
  rw[← hs0]; rfl
 have fin:=codeAny_compStart_list (loop _ rfl) (T.self X.A 0 _ _ _ st1 (loop _ rfl))
 rw[← e3] at fin
 exact fin
theorem Bx (hc:X.calm=true)(S:CompScope X N cap sc)(hi:PI X tg iter wi)(hb:Block X N sc tg elt ifs g tc te)(hs : ∀ x,sL iter X.env x=pure x:=by intro _; rfl) :
  PE X (.ListComp elt [⟨tg,iter,ifs,0⟩] sc pos) (tLC cap wi g tc te):=by
 intro pins s σ H Q I h
 rw[eval_ListComp]
 refine wpAny_comprehension_free rfl hs (UL (S.cells I.ok)) S.kind S.nm (thn (hi pins s σ H _ I h) fun v s1 h1=>thn h1 fun itv s2 h2=>?_)
 obtain⟨it,fp,tn,J,H2,e,I2,T,st2,f2,q2⟩:=h2
 subst e
 refine MY hc S hb I2 T st2 f2 q2 ?_
 intro D s₀ H₀ σ' H' s' I0 f0 I' qD
 obtain⟨m,hn,_⟩:=id I'.loc
 have IX:=comp_back I0 f0 I'
 refine⟨m,hn,fun h' hs'=>⟨.ref D,H',?_,rfl,qD⟩⟩
 exact IX.turned (fun b o hb e=>(hs'.2 b hb).trans e) I'.free (lX I0.lt) (.inr I0.sz) (fun x c e z=>by
  obtain⟨v,oc,h1,_⟩:=I0.cell x c e
  exact absurd (cI h1) (by rw[z]; exact lZ _)) fun p hp z=>by
   have h1:=(I0.pin p hp).1
   exact absurd (cI h1) (by rw[z]; exact lZ _)
theorem Tv {i:Nat}{x:aB}{px spos:cE}(hc:X.calm=true)(hN:X.N.Nodup)(hi':X.N[i]?=some x)(hx:mH X.env.scope x)(S:CompScope X N cap sc)(hi:PI X tg iter wi)(hb:Block X N sc tg elt ifs g tc te)
  (hsw:qL (.ListComp elt [⟨tg,iter,ifs,0⟩] sc pos) (some (.Name x px)) spos.line X.env=pure true:=by rfl)
  (hs : ∀ x,sL iter X.env x=pure x:=by intro _; rfl) (hf:X.fn x=true \/ X.env.scope.names.lookup x=some .local:=by first | exact .inl rfl | exact .inr rfl | assumption) :
  PS X (.Assign [.Name x px] (.ListComp elt [⟨tg,iter,ifs,0⟩] sc pos) spos) (FE (tLC cap wi g tc te) (JC i)):=by
 intro pins s σ H D I h
 rw[exec_Assign_Name_used _ _ _ _ hsw]
 refine aI (wpAny_standAt (aI ?_))
 refine aI (lB (wpAny_comprehension_free rfl hs (UL (S.cells I.ok)) S.kind S.nm
  (thn (hi pins s σ H _ I h) fun v s1 h1=>thn h1 fun itv s2 h2=>?_)) (fun _ s' hq=>aR (aR hq)) fun _ _ e=>e)
 obtain⟨it,fp,tn,J,H2,e,I2,T,st2,f2,q2⟩:=h2
 subst e
 refine MY hc S hb I2 T st2 f2 q2 ?_
 intro D' s₀ H₀ σ' H' s' I0 f0 I' qD
 obtain⟨m,hn,_⟩:=id I'.loc
 have IX:=comp_back I0 f0 I'
 have cellNe : ∀ x c,X.env.cells.lookup x=some c->c≠s₀.heap.objs.size:=fun x c e z=>by
  obtain⟨v,oc,h1,_⟩:=I0.cell x c e
  exact absurd (cI h1) (by rw[z]; exact lZ _)
 refine wpAny_assign_Name (RP IX hN hi' hx (show RelV (.ref D') (.ref D') from rfl) (fun s3 I3 ch=>?_) hf)
 obtain⟨a,sb,ha⟩:=ch
 have hne:s₀.heap.objs.size≠a:=by
  rcases ha with z | z
  ·rw[z]; exact lX I0.lt
  ·exact fun q=>cellNe x a z q.symm
 refine⟨m,Heap.Ns.sameBut hn sb hne,fun h' hs'=>⟨_,H',?_,qD⟩⟩
 exact I3.turned (fun b o hb e=>(hs'.2 b hb).trans e) I'.free (lX I0.lt) (.inr I0.sz) cellNe fun p hp z=>by
  have h1:=(I0.pin p hp).1
  exact absurd (cI h1) (by rw[z]; exact lZ _)
end
noncomputable def XE (out:List (aB×mB))(XN N:List aB)(cap:List (Option Nat))(ns:List (aB×mB)):Bool:=
 ns.all (fun y=>y.2 != .cell)&&ns.all (fun y=>y.2 != .local||ns.lookup y.1 == some .local)&&ns.all (fun y=>y.2 != .free||out.lookup y.1 == some .cell||out.lookup y.1 == some .free) &&
 cap.length == N.length&&(cap.zip N).all (fun p=>match p.1 with | none=>true | some j=>XN[j]? == some p.2&&ns.lookup p.2 == some .free)
theorem gO {X:Cx}{N:List aB}{cap:List (Option Nat)}{sc:iI}{out:List (aB×mB)}{XN:List aB}(h1:X.env.scope.names=out)(h2:X.N=XN)(chk:XE out XN N cap sc.names=true)(hk:sc.kind = .function):CompScope X N cap sc:=by
 unfold XE at chk
 simp only[mF,eK,bne_iff_ne,ne_eq,Bool.or_eq_true,beq_iff_eq] at chk
 obtain⟨⟨⟨⟨c1,c2⟩,c3⟩,c4⟩,c5⟩:=chk
 refine⟨hk,c1,fun y hy e=>?_,fun y hy e=>?_,c4,fun i j e=>?_⟩
 ·rcases c2 y hy with q | q
  ·exact absurd e q
  ·exact q
 ·rw[h1]
  rcases c3 y hy with(q | q) | q
  ·exact absurd e q
  ·exact .inl q
  ·exact .inr q
 ·have hi:=(fL.mp e).1
  have hi':i<N.length:=by omega
  have hm:(cap[i],N[i])∈cap.zip N:=by
   have:(cap.zip N)[i]?=some (cap[i],N[i]):=by
    rw[List.getElem?_zip_eq_some]
    exact⟨fS hi,fS hi'⟩
   exact gQ this
  have q:=c5 _ hm
  have ec:cap[i]=some j:=by
   rw[fS hi] at e
   exact iJ e
  rw[ec] at q
  simp only[mF,beq_iff_eq] at q
  exact⟨N[i],fS hi',by rw[h2]; exact q.1,q.2⟩
abbrev Ext (H H':Hp):Prop:=∀ b o,H b=some o->H' b=some o
theorem Ext.refl {H:Hp}:Ext H H:=fun _ _ e=>e
theorem Ext.trans {H H1 H2:Hp}(a:Ext H H1)(b:Ext H1 H2):Ext H H2:=fun x o e=>b x o (a x o e)
theorem Ext.new {H:Hp}{p:aD}{o:HO}(n:H p=none):Ext H (upd H p o):=fun b u e=>by
 rw[fJ (mU e n)]; exact e
theorem Ext.rd {H H':Hp}(x:Ext H H'){a:aD}{u:HO}(r:Rd H a u):Rd H' a u:=by
 rcases r with r | ⟨o,r⟩
 ·exact .inl (x _ _ r)
 ·exact .inr ⟨o,x _ _ r⟩
theorem Ext.sqL {K:aK}{H H':Hp}(x:Ext H H'){a:aD}{xs:List V}(h:SqL K H a xs):SqL K H' a xs:=h.imp x.rd id
theorem Ext.none {H H':Hp}(x:Ext H H'){a:aD}(h:H' a=Option.none):H a=Option.none:=by
 cases e:H a with
 | none=>rfl
 | some o=>rw[x a o e] at h; cases h
open Classical in
noncomputable def hid (H:Hp)(P:aD->Prop):Hp:=fun a=>if P a then none else H a
theorem Afc {H:Hp}{P:aD->Prop}{a:aD}{o:HO}:hid H P a=some o ↔ ¬ P a/\H a=some o:=by
 unfold hid
 by_cases h:P a <;> simp[h]
theorem jY {H:Hp}{P:aD->Prop}{a:aD}{o:HO}(n : ¬ P a)(e:H a=some o):hid H P a=some o:=Afc.mpr ⟨n,e⟩
theorem Aa9 {H:Hp}{P:aD->Prop}:Ext (hid H P) H:=fun _ _ e=>(Afc.mp e).2
theorem cS {H H':Hp}{P:aD->Prop}(x:Ext H H'):Ext (hid H P) (hid H' P):=fun b o e=>by
 obtain⟨n,e⟩:=Afc.mp e
 exact jY n (x b o e)
theorem jP {H:Hp}{P P':aD->Prop}(s : ∀ a,P' a->P a):Ext (hid H P) (hid H P'):=fun b o e=>by
 obtain⟨n,e⟩:=Afc.mp e
 exact jY (fun q=>n (s b q)) e
abbrev DQ:=(Nat×List (aO×V)) ⊕ (Nat×List (List aA×V))
noncomputable def dO:DQ->HO
 | .inl kvs=>.dK kvs.1 kvs.2
 | .inr ts=>.dT ts.1 ts.2
def Hid (P:aD->Prop)(H:Hp):Prop:=∀ a,P a->(∃ xs,H a=some (.lst xs)) \/ ∃ q:DQ,H a=some (dO q)
theorem Hid.ext {P:aD->Prop}{H H':Hp}(h:Hid P H)(x:Ext H H'):Hid P H':=fun a p=>(h a p).imp (fun⟨xs,e⟩=>⟨xs,x _ _ e⟩) fun⟨xs,e⟩=>⟨xs,x _ _ e⟩
theorem Hid.new {P:aD->Prop}{H:Hp}(h:Hid P H){a:aD}(n:H a=none) : ¬ P a:=fun p=>by
 rcases h a p with⟨xs,e⟩ | ⟨xs,e⟩ <;> rw[n] at e <;> cases e
abbrev orL (P:aD->Prop)(F:List aD):aD->Prop:=fun a=>P a \/ a∈F
theorem WO {P:aD->Prop}:orL P []=P:=by
 funext a
 simp[orL]
noncomputable def kD:aO->aA
 | .inl i=>.int i
 | .inr x=>.str x
noncomputable def MB (a:aD)(kvs:Nat×List (V×V)):HO:=.ext fun h=>kvs.2.length≤sizeLine/\(a == jS)=false /\ ∃ o es,h.get? a=some o/\o.ExactDict/\o.data = .dict es kvs.1/\eP (fun(p:V×V) (e:pP)=>RelV p.1 e.key/\RelV p.2 e.val) kvs.2 es.toList
noncomputable def kM (K:aK)(c:aB):Option aE:=(dD K cJ c).join
def An (x:aD)(cls:aE)(h:aW):Prop:=∃ o,h.get? x=some o/\o.cls=cls /\ ∃ vs,o.data = .fields vs
noncomputable def exO (cls:aE)(a:aD):HO:=.ext (An a cls)
def Bah (K:aK)(H:Hp)(kds:List (aA×aA))(a:aD):Prop:=(∃ c cls,kds=[(.none,.str c),(.none,.none)]/\kM K c=some cls/\H a=some (exO cls a)) \/ ∃ c,kds=[(.none,.str c),(.none,.bool false)]/\kM K c=some (.ref a)
theorem Bah.mark {K:aK}{H:Hp}{kds:List (aA×aA)}{a:aD}(h:Bah K H kds a) : ∃ c m,kds=[(.none,.str c),(.none,m)]:=by
 rcases h with⟨c,_,e,_⟩ | ⟨c,e,_⟩
 ·exact⟨c,_,e⟩
 ·exact⟨c,_,e⟩
theorem Bah.ext {K:aK}{H H':Hp}(x:Ext H H'){kds:List (aA×aA)}{a:aD}(h:Bah K H kds a):Bah K H' kds a:=h.imp (fun⟨c,cls,e,h1,h2⟩=>⟨c,cls,e,h1,x _ _ h2⟩) id
mutual
def Aby (K:aK)(H:Hp):aA->V->Prop
 | .none,v=>v = .non
 | .bool b,v=>v = .bl b
 | .int i,v=>v = .int i
 | .str x,v=>v = .str x/\cA (.str x)=true
 | .list ds,v=>∃ a xs,v = .ref a/\SqL K H a xs/\Aau K H ds xs
 | .tuple ds,v=>∃ a xs,v = .ref a/\H a=some (.tup xs)/\Aau K H ds xs
 | .dict kds,v=>∃ a,v = .ref a/\((∃ kvs:Nat×List (aO×V),H a=some (.dK kvs.1 kvs.2)/\Acq K H kds kvs.2) \/ (∃ ts:Nat×List (List aA×V),H a=some (.dT ts.1 ts.2)/\Ayo K H kds ts.2) \/ (∃ xs,H a=some (MB a xs)/\A2r K H kds xs.2) \/ Bah K H kds a)
def Aau (K:aK)(H:Hp):List aA->List V->Prop
 | [],xs=>xs=[]
 | d::ds,xs=>∃ x r,xs=x::r/\Aby K H d x/\Aau K H ds r
def Acq (K:aK)(H:Hp):List (aA×aA)->List (aO×V)->Prop
 | [],xs=>xs=[]
 | (k,d)::ds,xs=>∃ k' x r,xs=(k',x)::r/\k=kD k'/\Aby K H d x/\Acq K H ds r
def Ad1 (K:aK)(H:Hp):List (aA×aA)->List (List aA×V)->Prop
 | [],xs=>xs=[]
 | (k,d)::ds,xs=>∃ k' x r,xs=(k',x)::r/\(k = .tuple k'/\cC k'=true)/\Aby K H d x/\Ad1 K H ds r
def Ayo (K:aK)(H:Hp):List (aA×aA)->List (List aA×V)->Prop
 | [],_=>False
 | (k,_)::ds,xs=>k = .none/\Ad1 K H ds xs
def A2r (K:aK)(H:Hp):List (aA×aA)->List (V×V)->Prop
 | [],_=>False
 | (k,m)::ds,xs=>k = .none/\ds=[(.none,.none)]/\As5 K H m xs
def As5 (K:aK)(H:Hp):aA->List (V×V)->Prop
 | .list es,xs=>Ajs K H es xs
 | _,_=>False
def Ajs (K:aK)(H:Hp):List aA->List (V×V)->Prop
 | [],xs=>xs=[]
 | d::ds,xs=>∃ x r,xs=x::r/\Awq K H d x/\Ajs K H ds r
def Awq (K:aK)(H:Hp):aA->V×V->Prop
 | .tuple ds,x=>Aau K H ds [x.1,x.2]
 | _,_=>False
end
noncomputable def plK:List (aA×aA)->Bool
 | (.none,_)::_=>false
 | _=>true
section
variable {K:aK}{H H':Hp}
theorem Abq {v:V}:Aby K H .none v↔v = .non:=by simp[Aby]
theorem Aar {b:Bool}{v:V}:Aby K H (.bool b) v↔v = .bl b:=by simp[Aby]
theorem Aaq {b:Int}{v:V}:Aby K H (.int b) v↔v = .int b:=by simp[Aby]
theorem Aan {b:aB}{v:V}:Aby K H (.str b) v↔v = .str b/\cA (.str b)=true:=by simp only[Aby]
theorem Abn {ds:List aA}{v:V}:Aby K H (.list ds) v ↔ ∃ a xs,v = .ref a/\SqL K H a xs/\Aau K H ds xs:=by simp only[Aby]
theorem Aa0 {ds:List aA}{v:V}:Aby K H (.tuple ds) v ↔ ∃ a xs,v = .ref a/\H a=some (.tup xs)/\Aau K H ds xs:=by simp only[Aby]
theorem Ab9 {ds:List (aA×aA)}{v:V}:Aby K H (.dict ds) v ↔ ∃ a,v = .ref a/\((∃ kvs:Nat×List (aO×V),H a=some (.dK kvs.1 kvs.2)/\Acq K H ds kvs.2) \/ (∃ ts:Nat×List (List aA×V),H a=some (.dT ts.1 ts.2)/\Ayo K H ds ts.2) \/ (∃ xs,H a=some (MB a xs)/\A2r K H ds xs.2) \/ Bah K H ds a):=by simp only[Aby]
theorem Aic {k m:aA}{ds:List (aA×aA)}{xs:List (V×V)}:A2r K H ((k,m)::ds) xs↔k = .none/\ds=[(.none,.none)]/\As5 K H m xs:=by simp only[A2r]
theorem Kj {m:aA}{xs:List (V×V)}(h:As5 K H m xs) : ∃ es,m = .list es/\Ajs K H es xs:=by
 cases m with
 | list es=>exact⟨es,rfl,by simpa only[As5] using h⟩
 | _=>simp[As5] at h
theorem Awk {xs:List (V×V)}:Ajs K H [] xs↔xs=[]:=by simp[Ajs]
theorem Ass {d:aA}{ds:List aA}{xs:List (V×V)}:Ajs K H (d::ds) xs ↔ ∃ x r,xs=x::r/\Awq K H d x/\Ajs K H ds r:=by simp only[Ajs]
theorem BY {ds:List (aA×aA)}{xs:List (V×V)}(h:A2r K H ds xs) : ∃ es,ds=[(.none,.list es),(.none,.none)]/\Ajs K H es xs:=by
 cases ds with
 | nil=>simp[A2r] at h
 | cons p r=>
  obtain⟨k,m⟩:=p
  obtain⟨rfl,rfl,h1⟩:=Aic.mp h
  obtain⟨es,rfl,h2⟩:=Kj h1
  exact⟨es,rfl,h2⟩
theorem Afj {xs:List (List aA×V)}:Ad1 K H [] xs↔xs=[]:=by simp[Ad1]
theorem Ade {k d:aA}{ds:List (aA×aA)}{xs:List (List aA×V)}:Ad1 K H ((k,d)::ds) xs ↔ ∃ k' x r,xs=(k',x)::r/\(k = .tuple k'/\cC k'=true)/\Aby K H d x/\Ad1 K H ds r:=by simp only[Ad1]
theorem Ae6 {k m:aA}{ds:List (aA×aA)}{xs:List (List aA×V)}:Ayo K H ((k,m)::ds) xs↔k = .none/\Ad1 K H ds xs:=by simp only[Ayo]
theorem Ro {ds:List (aA×aA)}{xs:List (List aA×V)}(hk:plK ds=true) : ¬ Ayo K H ds xs:=by
 cases ds with
 | nil=>simp[Ayo]
 | cons p r=>
  obtain⟨k,d⟩:=p
  intro h
  rw[(Ae6.mp h).1] at hk
  simp[plK] at hk
theorem GL {ds:List (aA×aA)}{v:V}(hk:plK ds=true):Aby K H (.dict ds) v ↔ ∃ a,∃ kvs:Nat×List (aO×V),v = .ref a/\H a=some (.dK kvs.1 kvs.2)/\Acq K H ds kvs.2:=by
 rw[Ab9]
 constructor
 ·rintro⟨a,e,⟨kvs,h,r⟩ | ⟨ts,h,r⟩ | ⟨xs,h,r⟩ | r⟩
  case inr.inr.inr=>
   obtain⟨_,_,rfl⟩:=r.mark
   simp[plK] at hk
  ·exact⟨a,kvs,e,h,r⟩
  ·exact absurd r (Ro hk)
  ·obtain⟨es,rfl,_⟩:=BY r
   simp[plK] at hk
 ·rintro⟨a,kvs,e,h,r⟩
  exact⟨a,e,.inl ⟨kvs,h,r⟩⟩
theorem Wc {ds:List (aA×aA)}{v:V}{a:aD}{kvs:Nat×List (aO×V)}(e:v = .ref a)(h:H a=some (.dK kvs.1 kvs.2))(r:Acq K H ds kvs.2):Aby K H (.dict ds) v:=Ab9.mpr ⟨a,e,.inl ⟨kvs,h,r⟩⟩
theorem Aat {xs:List V}:Aau K H [] xs↔xs=[]:=by simp[Aau]
theorem Aal {d:aA}{ds:List aA}{xs:List V}:Aau K H (d::ds) xs ↔ ∃ x r,xs=x::r/\Aby K H d x/\Aau K H ds r:=by simp only[Aau]
theorem Acp {xs:List (aO×V)}:Acq K H [] xs↔xs=[]:=by simp[Acq]
theorem Abh {k d:aA}{ds:List (aA×aA)}{xs:List (aO×V)}:Acq K H ((k,d)::ds) xs ↔ ∃ k' x r,xs=(k',x)::r/\k=kD k'/\Aby K H d x/\Acq K H ds r:=by simp only[Acq]
theorem uM {m:aA}{ds:List (aA×aA)}{v:V}(hm : ∀ es,m ≠ .list es:=by intro _ z; cases z)(hm2 : ∀ c,m ≠ .str c:=by intro _ z; cases z):Aby K H (.dict ((.none,m)::ds)) v ↔ ∃ a,∃ ts:Nat×List (List aA×V),v = .ref a/\H a=some (.dT ts.1 ts.2)/\Ad1 K H ds ts.2:=by
 rw[Ab9]
 constructor
 ·rintro⟨a,e,⟨kvs,h,r⟩ | ⟨ts,h,r⟩ | ⟨xs,h,r⟩ | r⟩
  case inr.inr.inr=>
   obtain⟨_,_,z⟩:=r.mark
   cases z
   exact absurd rfl (hm2 _)
  ·obtain⟨k',_,_,_,ek,_⟩:=Abh.mp r
   cases k' <;> simp[kD] at ek
  ·exact⟨a,ts,e,h,(Ae6.mp r).2⟩
  ·obtain⟨es,z,_⟩:=BY r
   cases z
   exact absurd rfl (hm es)
 ·rintro⟨a,ts,e,h,r⟩
  exact⟨a,e,.inr (.inl ⟨ts,h,Ae6.mpr ⟨rfl,r⟩⟩)⟩
end
mutual
theorem Aby.ext {K:aK}{H H':Hp}(x:Ext H H') : ∀ {d:aA} {v:V},Aby K H d v->Aby K H' d v
 | .none,_,h=>Abq.mpr (Abq.mp h)
 | .bool _,_,h=>Aar.mpr (Aar.mp h)
 | .int _,_,h=>Aaq.mpr (Aaq.mp h)
 | .str _,_,h=>Aan.mpr (Aan.mp h)
 | .list ds,_,h=>by
  obtain⟨a,xs,e,s,r⟩:=Abn.mp h
  exact Abn.mpr ⟨a,xs,e,x.sqL s,Aau.ext x r⟩
 | .tuple ds,_,h=>by
  obtain⟨a,xs,e,s,r⟩:=Aa0.mp h
  exact Aa0.mpr ⟨a,xs,e,x _ _ s,Aau.ext x r⟩
 | .dict ds,_,h=>by
  obtain⟨a,e,⟨kvs,r,q⟩ | ⟨ts,r,q⟩ | ⟨xs,r,q⟩ | r⟩:=Ab9.mp h
  ·exact Ab9.mpr ⟨a,e,.inl ⟨kvs,x _ _ r,Acq.ext x q⟩⟩
  ·exact Ab9.mpr ⟨a,e,.inr (.inl ⟨ts,x _ _ r,Ayo.ext x q⟩)⟩
  ·exact Ab9.mpr ⟨a,e,.inr (.inr (.inl ⟨xs,x _ _ r,A2r.ext x q⟩))⟩
  ·exact Ab9.mpr ⟨a,e,.inr (.inr (.inr (r.ext x)))⟩
theorem Aau.ext {K:aK}{H H':Hp}(x:Ext H H') : ∀ {ds:List aA} {vs:List V},Aau K H ds vs->Aau K H' ds vs
 | [],_,h=>Aat.mpr (Aat.mp h)
 | d::ds,_,h=>by
  obtain⟨y,r,e,h1,h2⟩:=Aal.mp h
  exact Aal.mpr ⟨y,r,e,Aby.ext x h1,Aau.ext x h2⟩
theorem Acq.ext {K:aK}{H H':Hp}(x:Ext H H') : ∀ {ds:List (aA×aA)} {vs:List (aO×V)},Acq K H ds vs->Acq K H' ds vs
 | [],_,h=>Acp.mpr (Acp.mp h)
 | (k,d)::ds,_,h=>by
  obtain⟨k',y,r,e,ek,h1,h2⟩:=Abh.mp h
  exact Abh.mpr ⟨k',y,r,e,ek,Aby.ext x h1,Acq.ext x h2⟩
theorem Ad1.ext {K:aK}{H H':Hp}(x:Ext H H') : ∀ {ds:List (aA×aA)} {vs:List (List aA×V)},Ad1 K H ds vs->Ad1 K H' ds vs
 | [],_,h=>Afj.mpr (Afj.mp h)
 | (k,d)::ds,_,h=>by
  obtain⟨k',y,r,e,ek,h1,h2⟩:=Ade.mp h
  exact Ade.mpr ⟨k',y,r,e,ek,Aby.ext x h1,Ad1.ext x h2⟩
theorem Ayo.ext {K:aK}{H H':Hp}(x:Ext H H') : ∀ {ds:List (aA×aA)} {vs:List (List aA×V)},Ayo K H ds vs->Ayo K H' ds vs
 | [],_,h=>absurd h (by simp[Ayo])
 | (k,d)::ds,_,h=>Ae6.mpr ⟨(Ae6.mp h).1,Ad1.ext x (Ae6.mp h).2⟩
theorem A2r.ext {K:aK}{H H':Hp}(x:Ext H H') : ∀ {ds:List (aA×aA)} {vs:List (V×V)},A2r K H ds vs->A2r K H' ds vs
 | [],_,h=>absurd h (by simp[A2r])
 | (k,d)::ds,_,h=>Aic.mpr ⟨(Aic.mp h).1,(Aic.mp h).2.1,As5.ext x (Aic.mp h).2.2⟩
theorem As5.ext {K:aK}{H H':Hp}(x:Ext H H') : ∀ {d:aA} {vs:List (V×V)},As5 K H d vs->As5 K H' d vs
 | .list es,_,h=>by
  rw[As5] at h ⊢
  exact Ajs.ext x h
 | .none,_,h=>absurd h (by simp[As5])
 | .bool _,_,h=>absurd h (by simp[As5])
 | .int _,_,h=>absurd h (by simp[As5])
 | .str _,_,h=>absurd h (by simp[As5])
 | .tuple _,_,h=>absurd h (by simp[As5])
 | .dict _,_,h=>absurd h (by simp[As5])
theorem Ajs.ext {K:aK}{H H':Hp}(x:Ext H H') : ∀ {ds:List aA} {vs:List (V×V)},Ajs K H ds vs->Ajs K H' ds vs
 | [],_,h=>Awk.mpr (Awk.mp h)
 | d::ds,_,h=>by
  obtain⟨y,r,e,h1,h2⟩:=Ass.mp h
  exact Ass.mpr ⟨y,r,e,Awq.ext x h1,Ajs.ext x h2⟩
theorem Awq.ext {K:aK}{H H':Hp}(x:Ext H H') : ∀ {d:aA} {y:V×V},Awq K H d y->Awq K H' d y
 | .tuple ds,_,h=>by
  rw[Awq] at h ⊢
  exact Aau.ext x h
 | .none,_,h=>absurd h (by simp[Awq])
 | .bool _,_,h=>absurd h (by simp[Awq])
 | .int _,_,h=>absurd h (by simp[Awq])
 | .str _,_,h=>absurd h (by simp[Awq])
 | .list _,_,h=>absurd h (by simp[Awq])
 | .dict _,_,h=>absurd h (by simp[Awq])
end
section
variable {K:aK}{H H':Hp}
theorem Aau.length : ∀ {ds:List aA} {vs:List V},Aau K H ds vs->vs.length=ds.length
 | [],_,h=>by rw[Aat.mp h]; rfl
 | d::ds,_,h=>by
  obtain⟨y,r,e,h1,h2⟩:=Aal.mp h
  rw[e,fF,fF,Aau.length h2]
theorem Aau.get : ∀ {ds:List aA} {vs:List V} {i:Nat} {d:aA},Aau K H ds vs->ds[i]?=some d -> ∃ v,vs[i]?=some v/\Aby K H d v
 | [],_,_,_,h,e=>by simp at e
 | d::ds,_,0,d',h,e=>by
  obtain⟨y,r,rfl,h1,h2⟩:=Aal.mp h
  have:d=d':=by simpa using e
  subst this
  exact⟨y,rfl,h1⟩
 | d::ds,_,i+1,d',h,e=>by
  obtain⟨y,r,rfl,h1,h2⟩:=Aal.mp h
  obtain⟨v,h3,h4⟩:=Aau.get h2 (by simpa using e)
  exact⟨v,by simpa using h3,h4⟩
theorem Aau.append : ∀ {ds es:List aA} {vs ws:List V},Aau K H ds vs->Aau K H es ws->Aau K H (ds++es) (vs++ws)
 | [],es,_,_,h,g=>by rw[Aat.mp h]; exact g
 | d::ds,es,_,_,h,g=>by
  obtain⟨y,r,rfl,h1,h2⟩:=Aal.mp h
  exact Aal.mpr ⟨y,_,rfl,h1,Aau.append h2 g⟩
theorem Aau.snoc {ds:List aA}{vs:List V}{d:aA}{v:V}(h:Aau K H ds vs)(g:Aby K H d v):Aau K H (ds++[d]) (vs++[v]):=
 h.append (Aal.mpr ⟨v,[],rfl,g,Aat.mpr rfl⟩)
theorem Aau.drop : ∀ {ds:List aA} {vs:List V} (n:Nat),Aau K H ds vs->Aau K H (ds.drop n) (vs.drop n)
 | _,_,0,h=>h
 | [],_,n+1,h=>by rw[Aat.mp h]; exact Aat.mpr rfl
 | d::ds,_,n+1,h=>by
  obtain⟨y,r,rfl,h1,h2⟩:=Aal.mp h
  exact Aau.drop n h2
theorem Aau.take : ∀ {ds:List aA} {vs:List V} (n:Nat),Aau K H ds vs->Aau K H (ds.take n) (vs.take n)
 | _,_,0,h=>Aat.mpr rfl
 | [],_,n+1,h=>by rw[Aat.mp h]; exact Aat.mpr rfl
 | d::ds,_,n+1,h=>by
  obtain⟨y,r,rfl,h1,h2⟩:=Aal.mp h
  exact Aal.mpr ⟨y,_,rfl,h1,Aau.take n h2⟩
theorem Aau.set {d:aA}{v:V}(g:Aby K H d v) : ∀ {ds:List aA} {vs:List V} (n:Nat),Aau K H ds vs->Aau K H (ds.set n d) (vs.set n v)
 | [],_,n,h=>by rw[Aat.mp h]; exact Aat.mpr rfl
 | e::ds,_,0,h=>by
  obtain⟨y,r,rfl,h1,h2⟩:=Aal.mp h
  exact Aal.mpr ⟨v,r,rfl,g,h2⟩
 | e::ds,_,n+1,h=>by
  obtain⟨y,r,rfl,h1,h2⟩:=Aal.mp h
  exact Aal.mpr ⟨y,_,rfl,h1,Aau.set g n h2⟩
theorem RF : ∀ ns:List Int,Aau K H (ns.map dA) (ns.map V.int)
 | []=>Aat.mpr rfl
 | n::r=>Aal.mpr ⟨_,_,rfl,Aaq.mpr rfl,RF r⟩
theorem Oj {k:aO}{v:V}(h:Aby K H (kD k) v):v=kV k:=by
 cases k with
 | inl i=>exact Aaq.mp h
 | inr x=>exact(Aan.mp h).1
mutual
theorem Aby.key {K:aK}{H:Hp} : ∀ (d:aA) {v:V},bD d=true->Aby K H d v->Als H d v
 | .int i,v,_,h=>by simpa [Als] using Aaq.mp h
 | .str i,v,_,h=>by simpa [Als] using(Aan.mp h).1
 | .tuple ds,v,k,h=>by
  obtain⟨a,xs,e,s,r⟩:=Aa0.mp h
  simp only[Als]
  exact⟨a,xs,e,s,Aau.keys ds (by simpa [bD] using k) r⟩
 | .none,v,k,_=>by simp[bD] at k
 | .bool _,v,k,_=>by simp[bD] at k
 | .list _,v,k,_=>by simp[bD] at k
 | .dict _,v,k,_=>by simp[bD] at k
theorem Aau.keys {K:aK}{H:Hp} : ∀ (ds:List aA) {vs:List V},cC ds=true->Aau K H ds vs->Aik H ds vs
 | [],vs,_,h=>by simpa [Aik] using Aat.mp h
 | d::ds,vs,k,h=>by
  have k':bD d=true/\cC ds=true:=by simpa [cC] using k
  obtain⟨y,r,e,h1,h2⟩:=Aal.mp h
  simp only[Aik]
  exact⟨y,r,e,Aby.key d k'.1 h1,Aau.keys ds k'.2 h2⟩
end
end
mutual
noncomputable def fZ:aA->Bool
 | .list _=>false
 | .dict _=>false
 | .tuple ds=>nG ds
 | _=>true
noncomputable def nG:List aA->Bool
 | []=>true
 | d::r=>fZ d&&nG r
end
mutual
theorem Aby.flat {K:aK}{H H':Hp}(x : ∀ a xs,H a=some (.tup xs)->H' a=some (.tup xs)) : ∀ (d:aA) {v:V},fZ d=true->Aby K H d v->Aby K H' d v
 | .none,_,_,h=>Abq.mpr (Abq.mp h)
 | .bool _,_,_,h=>Aar.mpr (Aar.mp h)
 | .int _,_,_,h=>Aaq.mpr (Aaq.mp h)
 | .str _,_,_,h=>Aan.mpr (Aan.mp h)
 | .tuple ds,_,f,h=>by
  obtain⟨a,xs,e,s,r⟩:=Aa0.mp h
  exact Aa0.mpr ⟨a,xs,e,x _ _ s,Aau.flat x ds (by simpa [fZ] using f) r⟩
 | .list _,_,f,_=>by simp[fZ] at f
 | .dict _,_,f,_=>by simp[fZ] at f
theorem Aau.flat {K:aK}{H H':Hp}(x : ∀ a xs,H a=some (.tup xs)->H' a=some (.tup xs)) : ∀ (ds:List aA) {vs:List V},nG ds=true->Aau K H ds vs->Aau K H' ds vs
 | [],_,_,h=>Aat.mpr (Aat.mp h)
 | d::ds,_,f,h=>by
  have f':fZ d=true/\nG ds=true:=by simpa [nG] using f
  obtain⟨y,r,e,h1,h2⟩:=Aal.mp h
  exact Aal.mpr ⟨y,r,e,Aby.flat x d f'.1 h1,Aau.flat x ds f'.2 h2⟩
end
inductive All3 {α β γ:Type}(R:α->β->γ->Prop):List α->List β->List γ->Prop
 | nil:All3 R [] [] []
 | cons {a b c as bs cs}:R a b c->All3 R as bs cs->All3 R (a::as) (b::bs) (c::cs)
theorem All3.imp {α β γ:Type}{R S:α->β->γ->Prop} : ∀ {as:List α} {bs:List β} {cs:List γ},All3 R as bs cs->(∀ a b c,c∈cs->R a b c->S a b c)->All3 S as bs cs:=by
 intro as bs cs h
 induction h with
 | nil=>exact fun _=>.nil
 | cons h _ ih=>exact fun f=>.cons (f _ _ _ bR h) (ih fun a b c m=>f a b c (bZ _ m))
def Agd (K:aK)(B H:Hp):Nat->aA->V->List aD->Prop
 | 0,d,v,F=>F=[]/\Aby K B d v
 | n+1,d,v,F=>match d with
  | .list ds=>∃ p xs Fs,v = .ref p/\H p=some (.lst xs)/\F=p::Fs.flatten/\All3 (Agd K B H n) ds xs Fs
  | .dict kds=>∃ p,∃ kvs:Nat×List (aO×V),∃ Fs,v = .ref p/\H p=some (.dK kvs.1 kvs.2)/\F=p::Fs.flatten/\All3 (fun(kd:aA×aA) (kv:aO×V) f=>kd.1=kD kv.1/\Agd K B H n kd.2 kv.2 f) kds kvs.2 Fs
  | .tuple ds=>(n=0/\F=[]/\Aby K B (.tuple ds) v) \/ (n≠0 /\ ∃ p xs Fs,v = .ref p/\B p=some (.tup xs)/\F=Fs.flatten/\All3 (Agd K B H n) ds xs Fs)
  | d=>F=[]/\Aby K B d v
theorem Agd.keep {K:aK}{B B' H H':Hp}(xb:Ext B B') : ∀ {n:Nat} {d:aA} {v:V} {F:List aD},(∀ a∈F,H' a=H a)->Agd K B H n d v F->Agd K B' H' n d v F
 | 0,d,v,F,_,h=>⟨h.1,h.2.ext xb⟩
 | n+1,.list ds,v,F,kp,h=>by
  obtain⟨p,xs,Fs,e,hp,rfl,q⟩:=h
  refine⟨p,xs,Fs,e,(kp p bR).trans hp,rfl,q.imp fun a b c m r=>Agd.keep xb (fun z hz=>kp z (bZ _ (qQ.mpr ⟨c,m,hz⟩))) r⟩
 | n+1,.dict kds,v,F,kp,h=>by
  obtain⟨p,xs,Fs,e,hp,rfl,q⟩:=h
  refine⟨p,xs,Fs,e,(kp p bR).trans hp,rfl,q.imp fun a b c m r=>⟨r.1,Agd.keep xb (fun z hz=>kp z (bZ _ (qQ.mpr ⟨c,m,hz⟩))) r.2⟩⟩
 | n+1,.none,v,F,_,h=>⟨h.1,h.2.ext xb⟩
 | n+1,.bool _,v,F,_,h=>⟨h.1,h.2.ext xb⟩
 | n+1,.int _,v,F,_,h=>⟨h.1,h.2.ext xb⟩
 | n+1,.str _,v,F,_,h=>⟨h.1,h.2.ext xb⟩
 | n+1,.tuple ds,v,F,kp,h=>by
  rcases h with⟨h0,h1,h2⟩ | ⟨h0,p,xs,Fs,e,hp,rfl,q⟩
  ·exact .inl ⟨h0,h1,h2.ext xb⟩
  ·exact .inr ⟨h0,p,xs,Fs,e,xb _ _ hp,rfl,q.imp fun a b c m r=>Agd.keep xb (fun z hz=>kp z (qQ.mpr ⟨c,m,hz⟩)) r⟩
theorem QY {K:aK}{B:Hp}{R:aA->V->List aD->Prop}(f : ∀ d v F,R d v F->Aby K B d v) : ∀ {ds:List aA} {xs:List V} {Fs:List (List aD)},All3 R ds xs Fs->Aau K B ds xs:=by
 intro ds xs Fs h
 induction h with
 | nil=>exact Aat.mpr rfl
 | cons h _ ih=>exact Aal.mpr ⟨_,_,rfl,f _ _ _ h,ih⟩
theorem Wb {K:aK}{B:Hp}{R:aA×aA->aO×V->List aD->Prop}(f : ∀ d v F,R d v F->d.1=kD v.1/\Aby K B d.2 v.2) : ∀ {ds:List (aA×aA)} {xs:List (aO×V)} {Fs:List (List aD)},All3 R ds xs Fs->Acq K B ds xs:=by
 intro ds xs Fs h
 induction h with
 | nil=>exact Acp.mpr rfl
 | @cons p q F ds xs Fs h _ ih=>
  obtain⟨k,d⟩:=p
  obtain⟨k',v⟩:=q
  exact Abh.mpr ⟨_,_,_,rfl,(f _ _ _ h).1,(f _ _ _ h).2,ih⟩
theorem Agd.share {K:aK}{B B' H:Hp}(xb:Ext B B') : ∀ {n:Nat} {d:aA} {v:V} {F:List aD},(∀ a∈F,∀ o,H a=some o->B' a=some o)->Agd K B H n d v F->Aby K B' d v
 | 0,d,v,F,_,h=>h.2.ext xb
 | n+1,.list ds,v,F,kp,h=>by
  obtain⟨p,xs,Fs,e,hp,rfl,q⟩:=h
  refine Abn.mpr ⟨p,xs,e,SqL.of (kp p bR _ hp),?_⟩
  exact QY (fun d v F r=>r) (q.imp fun a b c m r=>Agd.share xb (fun z hz=>kp z (bZ _ (qQ.mpr ⟨c,m,hz⟩))) r)
 | n+1,.dict kds,v,F,kp,h=>by
  obtain⟨p,xs,Fs,e,hp,rfl,q⟩:=h
  refine Wc e (kp p bR _ hp) ?_
  exact Wb (fun d v F r=>r) (q.imp fun a b c m r=>⟨r.1,Agd.share xb (fun z hz=>kp z (bZ _ (qQ.mpr ⟨c,m,hz⟩))) r.2⟩)
 | n+1,.none,v,F,_,h=>h.2.ext xb
 | n+1,.bool _,v,F,_,h=>h.2.ext xb
 | n+1,.int _,v,F,_,h=>h.2.ext xb
 | n+1,.str _,v,F,_,h=>h.2.ext xb
 | n+1,.tuple ds,v,F,kp,h=>by
  rcases h with⟨h0,h1,h2⟩ | ⟨h0,p,xs,Fs,e,hp,rfl,q⟩
  ·exact h2.ext xb
  ·refine Aa0.mpr ⟨p,xs,e,xb _ _ hp,?_⟩
   exact QY (fun d v F r=>r) (q.imp fun a b c m r=>Agd.share xb (fun z hz=>kp z (qQ.mpr ⟨c,m,hz⟩)) r)
noncomputable def iG:Nat->aA->Bool
 | 0,d=>fZ d
 | n+1,.list ds=>ds.all (iG n)
 | n+1,.dict kds=>kds.all fun kd=>iG n kd.2
 | n+2,.tuple ds=>ds.all (iG (n+1))
 | n+1,d=>fZ d
theorem Agd.flat {K:aK}{B B' H:Hp}(xb : ∀ a xs,B a=some (.tup xs)->B' a=some (.tup xs)) : ∀ {n:Nat} {d:aA} {v:V} {F:List aD},iG n d=true->Agd K B H n d v F->Agd K B' H n d v F
 | 0,d,v,F,f,h=>⟨h.1,h.2.flat xb d f⟩
 | n+1,.list ds,v,F,f,h=>by
  obtain⟨p,xs,Fs,e,hp,rfl,q⟩:=h
  refine⟨p,xs,Fs,e,hp,rfl,?_⟩
  have f' : ∀ d∈ds,iG n d=true:=by simpa [iG] using f
  clear hp f e
  induction q with
  | nil=>exact .nil
  | cons h t ih=>exact .cons (Agd.flat xb (f' _ bR) h) (ih fun d m=>f' d (bZ _ m))
 | n+1,.dict kds,v,F,f,h=>by
  obtain⟨p,xs,Fs,e,hp,rfl,q⟩:=h
  refine⟨p,xs,Fs,e,hp,rfl,?_⟩
  have f' : ∀ d∈kds,iG n d.2=true:=fun d m=>by
   have:kds.all (fun kd=>iG n kd.2)=true:=by simpa [iG] using f
   exact eK.mp this d m
  clear hp f e
  obtain⟨xe,xs⟩:=xs
  replace q:All3 _ kds xs Fs:=q
  induction q with
  | nil=>exact .nil
  | cons h t ih=>exact .cons ⟨h.1,Agd.flat xb (f' _ bR) h.2⟩ (ih fun d m=>f' d (bZ _ m))
 | n+1,.none,v,F,f,h=>⟨h.1,h.2.flat xb _ f⟩
 | n+1,.bool _,v,F,f,h=>⟨h.1,h.2.flat xb _ f⟩
 | n+1,.int _,v,F,f,h=>⟨h.1,h.2.flat xb _ f⟩
 | n+1,.str _,v,F,f,h=>⟨h.1,h.2.flat xb _ f⟩
 | 1,.tuple ds,v,F,f,h=>by
  rcases h with⟨h0,h1,h2⟩ | ⟨h0,_⟩
  ·exact .inl ⟨h0,h1,h2.flat xb _ f⟩
  ·exact absurd rfl h0
 | n+2,.tuple ds,v,F,f,h=>by
  rcases h with⟨h0,_⟩ | ⟨h0,p,xs,Fs,e,hp,rfl,q⟩
  ·exact absurd h0 (by omega)
  ·refine .inr ⟨h0,p,xs,Fs,e,xb _ _ hp,rfl,?_⟩
   have f' : ∀ d∈ds,iG (n+1) d=true:=by simpa [iG] using f
   clear hp f e
   induction q with
   | nil=>exact .nil
   | cons h t ih=>exact .cons (Agd.flat xb (f' _ bR) h) (ih fun d m=>f' d (bZ _ m))
theorem All3.of {α β γ:Type}{R:α->β->γ->Prop} : ∀ {as:List α} {bs:List β} {cs:List γ},All3 R as bs cs -> ∀ c∈cs,∃ a b,R a b c:=by
 intro as bs cs h
 induction h with
 | nil=>exact fun c m=>by simp at m
 | cons h _ ih=>
  intro c m
  rcases cQ.mp m with rfl | m
  ·exact⟨_,_,h⟩
  ·exact ih c m
mutual
noncomputable def ndD:aA->Bool
 | .dict kds=>ndM kds
 | .list ds=>sU ds
 | .tuple ds=>sU ds
 | _=>true
noncomputable def sU:List aA->Bool
 | []=>true
 | d::r=>ndD d&&sU r
noncomputable def ndM:List (aA×aA)->Bool
 | (.none,.none)::r=>wM r
 | _=>false
noncomputable def wM:List (aA×aA)->Bool
 | []=>true
 | (_,d)::r=>ndD d&&wM r
end
noncomputable def jI:Nat->aA->Bool
 | 0,d=>ndD d
 | n+1,.list ds=>ds.all (jI n)
 | n+1,.dict kds=>kds.all fun kd=>jI n kd.2
 | _,_=>false
theorem Gc (xs:List V) : ∀ q,HO.lst xs≠dO q:=fun q z=>by cases q <;> cases z
theorem Dy (xs:List V) : ∀ q,HO.tup xs≠dO q:=fun q z=>by cases q <;> cases z
theorem Ea (o:aY)(u:HO) : ∀ q,HO.frz o u≠dO q:=fun q z=>by cases q <;> cases z
def NdX (H H':Hp):Prop:=∀ a o,H a=some o->(∀ q,o≠dO (.inl q))->H' a=some o
mutual
theorem Aby.nd {K:aK}{H H':Hp}(x:NdX H H') : ∀ (d:aA) {v:V},ndD d=true->Aby K H d v->Aby K H' d v
 | .none,_,_,h=>Abq.mpr (Abq.mp h)
 | .bool _,_,_,h=>Aar.mpr (Aar.mp h)
 | .int _,_,_,h=>Aaq.mpr (Aaq.mp h)
 | .str _,_,_,h=>Aan.mpr (Aan.mp h)
 | .tuple ds,_,f,h=>by
  obtain⟨a,xs,e,s,r⟩:=Aa0.mp h
  exact Aa0.mpr ⟨a,xs,e,x _ _ s (fun q=>Dy _ _),Aau.nd x ds (by simpa [ndD] using f) r⟩
 | .list ds,_,f,h=>by
  obtain⟨a,xs,e,s,r⟩:=Abn.mp h
  refine Abn.mpr ⟨a,xs,e,s.imp (fun s=>?_) id,Aau.nd x ds (by simpa [ndD] using f) r⟩
  rcases s with s | ⟨o,s⟩
  ·exact .inl (x _ _ s (fun q=>Gc _ _))
  ·exact .inr ⟨o,x _ _ s (fun q=>Ea _ _ _)⟩
 | .dict [],_,f,_=>by simp[ndD,ndM] at f
 | .dict ((k,m)::kds),_,f,h=>by
  have f:ndM ((k,m)::kds)=true:=by simpa only[ndD] using f
  cases k <;> cases m <;> first | (simp[ndM] at f; done) | skip
  obtain⟨a,ts,e,s,r⟩:=(uM).mp h
  exact(uM).mpr ⟨a,ts,e,x _ _ s (fun q z=>by cases z),Ad1.nd x kds (by simpa only[ndM] using f) r⟩
theorem Ad1.nd {K:aK}{H H':Hp}(x:NdX H H') : ∀ (kds:List (aA×aA)) {ts:List (List aA×V)},wM kds=true->Ad1 K H kds ts->Ad1 K H' kds ts
 | [],_,_,h=>Afj.mpr (Afj.mp h)
 | (k,d)::r,_,f,h=>by
  have f':ndD d=true/\wM r=true:=by simpa [wM] using f
  obtain⟨k',y,rr,e,ek,h1,h2⟩:=Ade.mp h
  exact Ade.mpr ⟨k',y,rr,e,ek,Aby.nd x d f'.1 h1,Ad1.nd x r f'.2 h2⟩
theorem Aau.nd {K:aK}{H H':Hp}(x:NdX H H') : ∀ (ds:List aA) {vs:List V},sU ds=true->Aau K H ds vs->Aau K H' ds vs
 | [],_,_,h=>Aat.mpr (Aat.mp h)
 | d::ds,_,f,h=>by
  have f':ndD d=true/\sU ds=true:=by simpa [sU] using f
  obtain⟨y,r,e,h1,h2⟩:=Aal.mp h
  exact Aal.mpr ⟨y,r,e,Aby.nd x d f'.1 h1,Aau.nd x ds f'.2 h2⟩
end
theorem Agd.mut1 {K:aK}{B H:Hp} : ∀ {n:Nat} {d:aA} {v:V} {F:List aD},Agd K B H n d v F -> ∀ a∈F,(∃ xs,H a=some (.lst xs)) \/ ∃ q,H a=some (dO (.inl q))
 | 0,d,v,F,h,a,m=>by rw[h.1] at m; simp at m
 | n+1,.list ds,v,F,h,a,m=>by
  obtain⟨p,xs,Fs,e,hp,rfl,q⟩:=h
  rcases cQ.mp m with e1 | m2
  ·rw[e1]; exact .inl ⟨xs,hp⟩
  ·obtain⟨f,hf,ha⟩:=qQ.mp m2
   obtain⟨_,_,r⟩:=q.of f hf
   exact Agd.mut1 r a ha
 | n+1,.dict kds,v,F,h,a,m=>by
  obtain⟨p,xs,Fs,e,hp,rfl,q⟩:=h
  rcases cQ.mp m with e1 | m2
  ·rw[e1]; exact .inr ⟨xs,hp⟩
  ·obtain⟨f,hf,ha⟩:=qQ.mp m2
   obtain⟨_,_,r⟩:=q.of f hf
   exact Agd.mut1 r.2 a ha
 | n+1,.none,v,F,h,a,m=>by rw[h.1] at m; simp at m
 | n+1,.bool _,v,F,h,a,m=>by rw[h.1] at m; simp at m
 | n+1,.int _,v,F,h,a,m=>by rw[h.1] at m; simp at m
 | n+1,.str _,v,F,h,a,m=>by rw[h.1] at m; simp at m
 | n+1,.tuple ds,v,F,h,a,m=>by
  rcases h with⟨_,h1,_⟩ | ⟨h0,p,xs,Fs,e,hp,rfl,q⟩
  ·rw[h1] at m; simp at m
  ·obtain⟨f,hf,ha⟩:=qQ.mp m
   obtain⟨_,_,r⟩:=q.of f hf
   exact Agd.mut1 r a ha
theorem Agd.mut {K:aK}{B H:Hp}{n:Nat}{d:aA}{v:V}{F:List aD}(h:Agd K B H n d v F) : ∀ a∈F,(∃ xs,H a=some (.lst xs)) \/ ∃ q:DQ,H a=some (dO q):=fun a m=>(h.mut1 a m).imp id fun⟨q,e⟩=>⟨.inl q,e⟩
mutual
noncomputable def ftD:aA->Bool
 | .dict kds=>ftM kds
 | .list _=>false
 | .tuple ds=>wQ ds
 | _=>true
noncomputable def wQ:List aA->Bool
 | []=>true
 | d::r=>ftD d&&wQ r
noncomputable def ftM:List (aA×aA)->Bool
 | (.none,.none)::r=>wU r
 | _=>false
noncomputable def wU:List (aA×aA)->Bool
 | []=>true
 | (_,d)::r=>ftD d&&wU r
end
def FtX (H H':Hp):Prop:=∀ a o,H a=some o->((∃ xs,o = .tup xs) \/ ∃ q,o=dO (.inr q))->H' a=some o
mutual
theorem Aby.ft {K:aK}{H H':Hp}(x:FtX H H') : ∀ (d:aA) {v:V},ftD d=true->Aby K H d v->Aby K H' d v
 | .none,_,_,h=>Abq.mpr (Abq.mp h)
 | .bool _,_,_,h=>Aar.mpr (Aar.mp h)
 | .int _,_,_,h=>Aaq.mpr (Aaq.mp h)
 | .str _,_,_,h=>Aan.mpr (Aan.mp h)
 | .tuple ds,_,f,h=>by
  obtain⟨a,xs,e,s,r⟩:=Aa0.mp h
  exact Aa0.mpr ⟨a,xs,e,x _ _ s (.inl ⟨xs,rfl⟩),Aau.ft x ds (by simpa [ftD] using f) r⟩
 | .list ds,_,f,h=>by simp[ftD] at f
 | .dict [],_,f,_=>by simp[ftD,ftM] at f
 | .dict ((k,m)::kds),_,f,h=>by
  have f:ftM ((k,m)::kds)=true:=by simpa only[ftD] using f
  cases k <;> cases m <;> first | (simp[ftM] at f; done) | skip
  obtain⟨a,ts,e,s,r⟩:=(uM).mp h
  exact(uM).mpr ⟨a,ts,e,x _ _ s (.inr ⟨ts,rfl⟩),Ad1.ft x kds (by simpa only[ftM] using f) r⟩
theorem Ad1.ft {K:aK}{H H':Hp}(x:FtX H H') : ∀ (kds:List (aA×aA)) {ts:List (List aA×V)},wU kds=true->Ad1 K H kds ts->Ad1 K H' kds ts
 | [],_,_,h=>Afj.mpr (Afj.mp h)
 | (k,d)::r,_,f,h=>by
  have f':ftD d=true/\wU r=true:=by simpa [wU] using f
  obtain⟨k',y,rr,e,ek,h1,h2⟩:=Ade.mp h
  exact Ade.mpr ⟨k',y,rr,e,ek,Aby.ft x d f'.1 h1,Ad1.ft x r f'.2 h2⟩
theorem Aau.ft {K:aK}{H H':Hp}(x:FtX H H') : ∀ (ds:List aA) {vs:List V},wQ ds=true->Aau K H ds vs->Aau K H' ds vs
 | [],_,_,h=>Aat.mpr (Aat.mp h)
 | d::ds,_,f,h=>by
  have f':ftD d=true/\wQ ds=true:=by simpa [wQ] using f
  obtain⟨y,r,e,h1,h2⟩:=Aal.mp h
  exact Aal.mpr ⟨y,r,e,Aby.ft x d f'.1 h1,Aau.ft x ds f'.2 h2⟩
end
theorem Agd.nd {K:aK}{B B' H:Hp}(xb:NdX B B') : ∀ {n:Nat} {d:aA} {v:V} {F:List aD},jI n d=true->Agd K B H n d v F->Agd K B' H n d v F
 | 0,d,v,F,f,h=>⟨h.1,h.2.nd xb d f⟩
 | n+1,.list ds,v,F,f,h=>by
  obtain⟨p,xs,Fs,e,hp,rfl,q⟩:=h
  refine⟨p,xs,Fs,e,hp,rfl,?_⟩
  have f' : ∀ d∈ds,jI n d=true:=by simpa [jI] using f
  clear hp f e
  induction q with
  | nil=>exact .nil
  | cons h t ih=>exact .cons (Agd.nd xb (f' _ bR) h) (ih fun d m=>f' d (bZ _ m))
 | n+1,.dict kds,v,F,f,h=>by
  obtain⟨p,xs,Fs,e,hp,rfl,q⟩:=h
  refine⟨p,xs,Fs,e,hp,rfl,?_⟩
  have f' : ∀ d∈kds,jI n d.2=true:=fun d m=>by
   have:kds.all (fun kd=>jI n kd.2)=true:=by simpa [jI] using f
   exact eK.mp this d m
  clear hp f e
  obtain⟨xe,xs⟩:=xs
  replace q:All3 _ kds xs Fs:=q
  induction q with
  | nil=>exact .nil
  | cons h t ih=>exact .cons ⟨h.1,Agd.nd xb (f' _ bR) h.2⟩ (ih fun d m=>f' d (bZ _ m))
 | n+1,.none,v,F,f,h=>by simp[jI] at f
 | n+1,.bool _,v,F,f,h=>by simp[jI] at f
 | n+1,.int _,v,F,f,h=>by simp[jI] at f
 | n+1,.str _,v,F,f,h=>by simp[jI] at f
 | n+1,.tuple ds,v,F,f,h=>by simp[jI] at f
def Cv (K:aK)(B H:Hp)(d:aA)(v:V)(F:List aD):Prop:=∃ kds p,∃ ts:Nat×List (List aA×V),d = .dict ((.none,.none)::kds)/\v = .ref p/\H p=some (.dT ts.1 ts.2)/\F=[p]/\(∀ kd∈kds,fZ kd.2=true)/\Ad1 K B kds ts.2
def Akd (K:aK)(B H:Hp)(n:Nat)(d:aA)(v:V)(F:List aD):Prop:=if n=9 then(d = .none/\v = .non/\F=[]) \/ Cv K B H d v F else Agd K B H n d v F
theorem Ad1.flat {K:aK}{B B':Hp}(xb : ∀ a xs,B a=some (.tup xs)->B' a=some (.tup xs)) : ∀ {kds:List (aA×aA)} {ts:List (List aA×V)},(∀ kd∈kds,fZ kd.2=true)->Ad1 K B kds ts->Ad1 K B' kds ts
 | [],ts,_,h=>Afj.mpr (Afj.mp h)
 | (k,d)::r,ts,f,h=>by
  obtain⟨k',x,rr,e,ek,h1,h2⟩:=Ade.mp h
  exact Ade.mpr ⟨k',x,rr,e,ek,h1.flat xb _ (f (k,d) bR),Ad1.flat xb (fun kd m=>f kd (bZ _ m)) h2⟩
section
variable {K:aK}{B B' H H':Hp}{n:Nat}{d:aA}{v:V}{F:List aD}
theorem Akd.keep (xb:Ext B B')(kp : ∀ a∈F,H' a=H a)(h:Akd K B H n d v F):Akd K B' H' n d v F:=by
 unfold Akd at h ⊢
 split at h
 ·rw[if_pos ‹_›]
  refine h.imp id fun h=>?_
  obtain⟨kds,p,ts,e1,e2,hp,rfl,f,r⟩:=h
  exact⟨kds,p,ts,e1,e2,(kp p bR).trans hp,rfl,f,r.ext xb⟩
 ·rw[if_neg ‹_›]
  exact Agd.keep xb kp h
theorem Akd.share (xb:Ext B B')(kp : ∀ a∈F,∀ o,H a=some o->B' a=some o)(h:Akd K B H n d v F):Aby K B' d v:=by
 unfold Akd at h
 split at h
 ·rcases h with⟨rfl,rfl,_⟩ | ⟨kds,p,ts,rfl,e2,hp,rfl,f,r⟩
  ·exact Abq.mpr rfl
  exact(uM).mpr ⟨p,ts,e2,kp p bR _ hp,r.ext xb⟩
 ·exact Agd.share xb kp h
theorem Akd.flat (xb : ∀ a xs,B a=some (.tup xs)->B' a=some (.tup xs))(f:iG n d=true)(h:Akd K B H n d v F):Akd K B' H n d v F:=by
 unfold Akd at h ⊢
 split at h
 ·rw[if_pos ‹_›]
  refine h.imp id fun h=>?_
  obtain⟨kds,p,ts,e1,e2,hp,rfl,f,r⟩:=h
  exact⟨kds,p,ts,e1,e2,hp,rfl,f,r.flat xb f⟩
 ·rw[if_neg ‹_›]
  exact Agd.flat xb f h
theorem Akd.nd (xb:NdX B B')(hn:n<9)(f:jI n d=true)(h:Akd K B H n d v F):Akd K B' H n d v F:=by
 unfold Akd at h ⊢
 rw[if_neg (by omega)] at h ⊢
 exact Agd.nd xb f h
theorem Akd.mut (h:Akd K B H n d v F) : ∀ a∈F,(∃ xs,H a=some (.lst xs)) \/ ∃ q:DQ,H a=some (dO q):=by
 unfold Akd at h
 split at h
 ·rcases h with⟨_,_,rfl⟩ | ⟨kds,p,ts,e1,e2,hp,rfl,f,r⟩
  ·exact fun a m=>by simp at m
  intro a m
  rw[dP.mp m]
  exact .inr ⟨.inr ts,hp⟩
 ·exact Agd.mut h
end
abbrev EF:=List (Option aA)->Option aA
abbrev BF:=List (Option aA)->Option Bool
abbrev AF:=List (Option aA)->Option (List aA)
def Anw (K:aK)(B:Hp)(ρ:List (Option aA))(σ:St):Prop:=∀ (i:Nat) d,ρ[i]?=some (some d) -> ∃ v,σ[i]?=some (some v)/\Aby K B d v
theorem Anw.ext {K:aK}{B B':Hp}{ρ:List (Option aA)}{σ:St}(h:Anw K B ρ σ)(x:Ext B B'):Anw K B' ρ σ:=fun i d e=>let ⟨v,h1,h2⟩:=h i d e; ⟨v,h1,h2.ext x⟩
def Res (K:aK)(P:aD->Prop)(n:Nat)(d:aA)(H:Hp)(Q:VK):Prop:=
 ∀ v H' Fr,Ext H H'->Fr.Nodup->(∀ a∈Fr,H a=none /\ ∃ o,H' a=some o)->Akd K (hid H' (orL P Fr)) H' n d v Fr->Q v H'
section
variable {K:aK}{P:aD->Prop}{n:Nat}{d:aA}{H H':Hp}{Q:VK}{v:V}
theorem Res.zero (h:Res K P 0 d H Q)(x:Ext H H')(r:Aby K (hid H' P) d v):Q v H':=
 h v H' [] x .nil (fun a m=>by simp at m) ⟨rfl,by rw[WO]; exact r⟩
theorem cY (h : ∀ v H',Ext H H'->Aby K (hid H' P) d v->Q v H'):Res K P 0 d H Q:=fun v H' Fr x _ _ r=>by
 obtain⟨rfl,r⟩:=r
 rw[WO] at r
 exact h v H' x r
theorem Res.mono (h:Res K P n d H Q)(x:Ext H H'):Res K P n d H' Q:=fun v H2 Fr x2 nd fr r=>
 h v H2 Fr (x.trans x2) nd (fun a m=>⟨x.none (fr a m).1,(fr a m).2⟩) r
theorem Res.of (hP:Hid P H)(h:Res K P 0 d H Q):Res K P n d H Q:=fun v H2 Fr x2 nd fr r=>
 h.zero x2 (r.share (jP fun a p=>.inl p) fun a m o e=>jY (hP.new (fr a m).1) e)
theorem Res.lst {ds:List aA}{xs:List V}{p:aD}(hP:Hid P H)(h:Res K P 1 (.list ds) H Q)(n:H p=none)(r:Aau K (hid H P) ds xs):Q (.ref p) (upd H p (.lst xs)):=by
 refine h (.ref p) _ [p] (Ext.new n) (nY.mpr ⟨by simp,.nil⟩) (fun a m=>?_) ⟨p,xs,xs.map fun _=>[],rfl,jR,?_,?_⟩
 ·have:a=p:=by simpa using m
  subst this
  exact⟨n,_,jR⟩
 ·have : ∀ l:List V,(l.map fun _=>([]:List aD)).flatten=[]:=fun l=>by
   induction l with
   | nil=>rfl
   | cons a l ih=>rw[fE,sR,ih]; rfl
  rw[this]
 ·have xe:Ext (hid H P) (hid (upd H p (.lst xs)) (orL P [p])):=fun b o e=>by
   obtain⟨nb,e⟩:=Afc.mp e
   have hb:=mU e n
   exact jY (fun q=>q.elim nb fun m=>hb (by simpa using m)) (by rw[fJ hb]; exact e)
  generalize hid (upd H p (.lst xs)) (orL P [p])=B at xe
  generalize upd H p (.lst xs)=H1
  clear h
  have go : ∀ (ds:List aA) (xs:List V),Aau K (hid H P) ds xs->All3 (Agd K B H1 0) ds xs (xs.map fun _=>[]):=by
   intro ds
   induction ds with
   | nil=>intro xs r; rw[Aat.mp r]; exact .nil
   | cons d ds ih=>
    intro xs r
    obtain⟨y,t,rfl,h1,h2⟩:=Aal.mp r
    exact .cons ⟨rfl,h1.ext xe⟩ (ih t h2)
  exact go ds xs r
theorem Res.tup {ds:List aA}{xs:List V}{p:aD}(hP:Hid P H)(h:Res K P 0 (.tuple ds) H Q)(n:H p=none)(r:Aau K (hid H P) ds xs):Q (.ref p) (upd H p (.tup xs)):=by
 refine h.zero (Ext.new n) (Aa0.mpr ⟨p,xs,rfl,jY (hP.new n) jR,r.ext fun b o e=>?_⟩)
 obtain⟨nb,e⟩:=Afc.mp e
 exact jY nb (Ext.new n _ _ e)
end
noncomputable def tF (K:aK)(n:Nat)(f:EF):TE:=fun σ H Q=>∃ P ρ d,Hid P H/\Anw K (hid H P) ρ σ/\f ρ=some d/\Res K P n d H Q
noncomputable def tTF (K:aK)(f:BF):TT:=fun σ H Q=>∃ P ρ b,Hid P H/\Anw K (hid H P) ρ σ/\f ρ=some b /\ ∀ H',Ext H H'->Q b H'
noncomputable def tAF (K:aK)(f:AF):TA:=fun σ H Q=>∃ P ρ ds,Hid P H/\Anw K (hid H P) ρ σ/\f ρ=some ds /\ ∀ vs H',Ext H H'->Aau K (hid H' P) ds vs->Q vs H'
abbrev DF (n:Nat)(X:Cx)(e:aX)(f:EF):Prop:=PE X e (tF X.K n f)
abbrev DE (X:Cx)(e:aX)(f:EF):Prop:=PE X e (tF X.K 0 f)
abbrev DT (X:Cx)(e:aX)(f:BF):Prop:=PT X e (tTF X.K f)
abbrev DW (X:Cx)(e:aX)(f:BF):Prop:=PW X e (tTF X.K f)
abbrev DA (X:Cx)(es:List aX)(f:AF):Prop:=PA X es (tAF X.K f)
section
variable {X:Cx}{e a b:aX}{es:List aX}{pos:cE}{n:Nat}
theorem PE.imp {t t':TE}(h:PE X e t)(w : ∀ σ H Q,t' σ H Q->t σ H Q):PE X e t':=fun pins s σ H Q I q=>h pins s σ H Q I (w _ _ _ q)
theorem PT.imp {t t':TT}(h:PT X e t)(w : ∀ σ H Q,t' σ H Q->t σ H Q):PT X e t':=fun pins s σ H Q I q=>h pins s σ H Q I (w _ _ _ q)
theorem PW.imp {t t':TT}(h:PW X e t)(w : ∀ σ H Q,t' σ H Q->t σ H Q):PW X e t':=fun whole pins s σ H Q I q=>h whole pins s σ H Q I (w _ _ _ q)
theorem PA.imp {t t':TA}(h:PA X es t)(w : ∀ σ H Q,t' σ H Q->t σ H Q):PA X es t':=fun pos pins s σ H Q I q=>h pos pins s σ H Q I (w _ _ _ q)
theorem eM {f:EF}(h:DF n X e f):DE X e f:=PE.imp h fun σ H Q ⟨P,ρ,d,hP,rs,ef,k⟩=>⟨P,ρ,d,hP,rs,ef,Res.of hP k⟩
noncomputable def aC (i:Nat):EF:=fun ρ=>(ρ[i]?).join
theorem HE {i:Nat}{ρ:List (Option aA)}{d:aA}(h:aC i ρ=some d):ρ[i]?=some (some d):=by
 unfold aC at h
 cases e:ρ[i]? with
 | none=>rw[e] at h; simp at h
 | some o=>rw[e] at h; simp at h; rw[h]
theorem aH (i:Nat){x:aB}(hN:X.N[i]?=some x:=by rfl)(hv:nB X.env.scope x:=by first | exact aU rfl | exact bA (aU rfl) | exact bA (bA rfl))(hd:(x == ("__debug__" : aB))=false:=by decide)
  (hcd:(x == ("__classdict__" : aB))=false:=by decide):DE X (.Name x pos) (aC i):=PE.imp (rN hN hv hd hcd) fun σ H Q gh=>by
 obtain⟨P,ρ,d,hP,rs,ef,k⟩:=gh
 obtain⟨v,h1,h2⟩:=rs i d (HE ef)
 exact⟨v,h1,k.zero Ext.refl h2⟩
noncomputable def eC (d:aA):EF:=fun _=>some d
theorem sV {d:aA}{v:V}(h:PE X e (tC v))(hr : ∀ H,Aby X.K H d v):DE X e (eC d):=PE.imp h fun σ H Q gh=>by
 obtain⟨P,ρ,d',hP,rs,ef,k⟩:=gh
 cases ef
 exact k.zero Ext.refl (hr _)
theorem aP {i j}:DE X (.Constant (.int i) j pos) (eC (.int i)):=sV Ge fun _=>Aaq.mpr rfl
theorem kS {i j}:DE X (.Constant (.bool i) j pos) (eC (.bool i)):=sV Bl fun _=>Aar.mpr rfl
theorem VV {j}:DE X (.Constant .none j pos) (eC .none):=sV Ft fun _=>Abq.mpr rfl
theorem eT {i j}(h:cA (.str i)=true:=by decide +kernel):DE X (.Constant (.str i) j pos) (eC (.str i)):=sV UY fun _=>Aan.mpr ⟨rfl,h⟩
theorem uE {x:aB}{i:Int}{u:aE}(hg:Gl X x)(hm:X.mg x=some u)(r:RelV (.int i) u)(hd:(x == ("__debug__" : aB))=false:=by decide):DE X (.Name x pos) (eC (.int i)):=sV (WK hg hm r hd) fun _=>Aaq.mpr rfl
theorem BL {x:aB}{i:aB}{u:aE}(hg:Gl X x)(hm:X.mg x=some u)(r:RelV (.str i) u)(hl:cA (.str i)=true:=by decide +kernel)(hd:(x == ("__debug__" : aB))=false:=by decide):DE X (.Name x pos) (eC (.str i)):=sV (WK hg hm r hd) fun _=>Aan.mpr ⟨rfl,hl⟩
noncomputable def aJ:AF:=fun _=>some []
noncomputable def aF (f:EF)(g:AF):AF:=fun ρ=>(f ρ).bind fun d=>(g ρ).bind fun ds=>some (d::ds)
theorem aQ:DA X [] aJ:=PA.imp kT fun σ H Q gh=>by
 obtain⟨P,ρ,d,hP,rs,ef,k⟩:=gh
 cases ef
 exact k [] H Ext.refl (Aat.mpr rfl)
theorem aM {f:EF}{g:AF}(h1:DE X e f)(h2:DA X es g)(hs:bM (e::es) X.env=(false,cD e X.env)::bM es X.env:=by rfl):DA X (e::es) (aF f g):=
 PA.imp (jZ h1 h2 hs) fun σ H Q gh=>by
  obtain⟨P,ρ,ds,hP,rs,ef,k⟩:=gh
  obtain⟨d,e1,ef⟩:=XBs ef
  obtain⟨r,e2,ef⟩:=XBs ef
  cases ef
  exact⟨P,ρ,d,hP,rs,e1,cY fun v H1 x1 r1=>⟨P,ρ,r,hP.ext x1,rs.ext (cS x1),e2,fun vs H2 x2 r2=>
   k _ _ (x1.trans x2) (Aal.mpr ⟨v,vs,rfl,r1.ext (cS x2),r2⟩)⟩⟩
noncomputable def gV (g:AF):EF:=fun ρ=>(g ρ).bind fun ds=>if ds.length≤sizeLine then some (.tuple ds) else none
noncomputable def oZ (g:AF):EF:=fun ρ=>(g ρ).bind fun ds=>if ds.length≤sizeLine then some (.list ds) else none
theorem dU {α:Type}{c:Prop}[Decidable c]{x y:α}(h:(if c then some x else none)=some y):c/\x=y:=by
 by_cases q:c
 ·rw[if_pos q] at h; exact⟨q,iJ h⟩
 ·rw[if_neg q] at h; cases h
theorem kW {g:AF}{x1}(h:DA X es g):DE X (.Tuple es x1 pos) (gV g):=PE.imp (Eg h) fun σ H Q gh=>by
 obtain⟨P,ρ,d,hP,rs,ef,k⟩:=gh
 obtain⟨ds,e1,ef⟩:=XBs ef
 obtain⟨hl,rfl⟩:=dU ef
 exact⟨P,ρ,ds,hP,rs,e1,fun vs H1 x1 r1=>⟨by rw[r1.length]; exact hl,fun p hp=>(k.mono x1).tup (hP.ext x1) hp r1⟩⟩
theorem pV {g:AF}(h:DA X es g):DF 1 X (.List es pos) (oZ g):=PE.imp (Fo h) fun σ H Q gh=>by
 obtain⟨P,ρ,d,hP,rs,ef,k⟩:=gh
 obtain⟨ds,e1,ef⟩:=XBs ef
 obtain⟨hl,rfl⟩:=dU ef
 exact⟨P,ρ,ds,hP,rs,e1,fun vs H1 x1 r1=>⟨by rw[r1.length]; exact hl,fun p hp=>(k.mono x1).lst (hP.ext x1) hp r1⟩⟩
def OpD (K:aK)(n:Nat)(r:R2)(g:aA->aA->Option aA):Prop:=
 ∀ (P:aD->Prop) (H:Hp) (x y:V) (a b d:aA) (Q:VK),Hid P H->Aby K (hid H P) a x->Aby K (hid H P) b y->g a b=some d->Res K P n d H Q->r x y H Q
noncomputable def eOp (g:aA->aA->Option aA)(fa fb:EF):EF:=fun ρ=>(fa ρ).bind fun a=>(fb ρ).bind fun b=>g a b
theorem JA {r:R2}{g:aA->aA->Option aA}{fa fb:EF}{K:aK}(hg:OpD K n r g) : ∀ σ H Q,tF K n (eOp g fa fb) σ H Q->tOp r (tF K 0 fa) (tF K 0 fb) σ H Q:=fun σ H Q gh=>by
 obtain⟨P,ρ,d,hP,rs,ef,k⟩:=gh
 obtain⟨d1,e1,ef⟩:=XBs ef
 obtain⟨d2,e2,ef⟩:=XBs ef
 exact⟨P,ρ,d1,hP,rs,e1,cY fun v H1 x1 r1=>⟨P,ρ,d2,hP.ext x1,rs.ext (cS x1),e2,cY fun u H2 x2 r2=>
  hg P H2 v u d1 d2 d Q (hP.ext (x1.trans x2)) (r1.ext (cS x2)) r2 ef (k.mono (x1.trans x2))⟩⟩
theorem rE {op:Operator}{r:R2}{g:aA->aA->Option aA}{fa fb:EF}(ho:OpR X (lC op) r)(hg:OpD X.K n r g)(ha:DE X a fa)(hb:DE X b fb):DF n X (.BinOp a op b pos) (eOp g fa fb):=PE.imp (Ce ho ha hb) (JA hg)
theorem nF {op:CmpOp}{r:R2}{g:aA->aA->Option aA}{fa fb:EF}(ho:OpR X (iH op) r)(hg:OpD X.K 0 r g)(ha:DE X a fa)(hb:DE X b fb)(hm:zJ op b=false):DE X (.Compare a [op] [b] pos) (eOp g fa fb):=PE.imp (Jc ho ha hb hm) (JA hg)
def UnD (K:aK)(n:Nat)(r:V->Hp->VK->Prop)(g:aA->Option aA):Prop:=
 ∀ (P:aD->Prop) (H:Hp) (x:V) (a d:aA) (Q:VK),Hid P H->Aby K (hid H P) a x->g a=some d->Res K P n d H Q->r x H Q
noncomputable def eUn (g:aA->Option aA)(fa:EF):EF:=fun ρ=>(fa ρ).bind g
theorem Bo {op:UnaryOp}{r:V->Hp->VK->Prop}{g:aA->Option aA}{fa:EF}(ho:UnR X (unaryOp op) r)(hg:UnD X.K n r g)(ha:DE X a fa):DF n X (.UnaryOp op a pos) (eUn g fa):=
 PE.imp (Dv ho ha) fun σ H Q gh=>by
  obtain⟨P,ρ,d,hP,rs,ef,k⟩:=gh
  obtain⟨d1,e1,ef⟩:=XBs ef
  exact⟨P,ρ,d1,hP,rs,e1,cY fun v H1 x1 r1=>hg P H1 v d1 d Q (hP.ext x1) r1 ef (k.mono x1)⟩
def CallD (K:aK)(n:Nat)(r:List V->Hp->VK->Prop)(g:List aA->Option aA):Prop:=
 ∀ (P:aD->Prop) (H:Hp) (xs:List V) (ds:List aA) (d:aA) (Q:VK),Hid P H->Aau K (hid H P) ds xs->g ds=some d->Res K P n d H Q->r xs H Q
noncomputable def aL (g:List aA->Option aA)(fa:AF):EF:=fun ρ=>(fa ρ).bind g
variable {r:List V->Hp->VK->Prop}{g:List aA->Option aA}{fa:AF}{x:aB}{p:cE}{id T:String}
theorem eO (hc:Aeh X (.builtin id) r)(hg:CallD X.K n r g)(hgl:Gl X x)(hm:X.mg x=none)(hv:lU x=some (.builtin id))(ha:DA X (e::es) fa)(hn:x ≠ "__name__":=by decide)(hdb:(x == ("__debug__" : aB))=false:=by decide)
  (he:bM (e::es) X.env=(false,cD e X.env)::bM es X.env:=by rfl) (hpl:(eX pos (bM es X.env)).any (·.1)=false:=by rfl):DF n X (.Call (.Name x p) (e::es) [] pos) (aL g fa):=
 PE.imp (BM hc hgl hm hv ha hn hdb he hpl) fun σ H Q gh=>by
  obtain⟨P,ρ,d,hP,rs,ef,k⟩:=gh
  obtain⟨d1,e1,ef⟩:=XBs ef
  exact⟨P,ρ,d1,hP,rs,e1,fun vs H1 x1 r1=>hg P H1 vs d1 d Q (hP.ext x1) r1 ef (k.mono x1)⟩
theorem nK (hc:Aeh X (.type T) r)(hg:CallD X.K n r g)(hgl:Gl X x)(hm:X.mg x=none)(hv:lU x=some (.type T))(ha:DA X (e::es) fa)(hn:x ≠ "__name__":=by decide)(hdb:(x == ("__debug__" : aB))=false:=by decide)
  (he:bM (e::es) X.env=(false,cD e X.env)::bM es X.env:=by rfl) (hpl:(eX pos (bM es X.env)).any (·.1)=false:=by rfl):DF n X (.Call (.Name x p) (e::es) [] pos) (aL g fa):=
 PE.imp (HN hc hgl hm hv ha hn hdb he hpl) fun σ H Q gh=>by
  obtain⟨P,ρ,d,hP,rs,ef,k⟩:=gh
  obtain⟨d1,e1,ef⟩:=XBs ef
  exact⟨P,ρ,d1,hP,rs,e1,fun vs H1 x1 r1=>hg P H1 vs d1 d Q (hP.ext x1) r1 ef (k.mono x1)⟩
noncomputable def asB:aA->Option Bool
 | .bool b=>some b
 | _=>none
theorem rT {d:aA}{b:Bool}(h:asB d=some b):d = .bool b:=by
 cases d <;> simp[asB] at h
 rw[h]
noncomputable def bOf (f:EF):BF:=fun ρ=>(f ρ).bind asB
theorem gY {f:EF}(h:DE X e f)(he : ∀ whole,isTrue e X.env whole=(do let v ← whole; standAt e.pos; qM [v] (truthy v)):=by intro _; rfl):DT X e (bOf f):=PT.imp (Df h he) fun σ H Q gh=>by
 obtain⟨P,ρ,b,hP,rs,ef,k⟩:=gh
 obtain⟨d,e1,ef⟩:=XBs ef
 cases rT ef
 exact⟨P,ρ,_,hP,rs,e1,cY fun v H1 x1 r1=>⟨b,Aar.mp r1,k H1 x1⟩⟩
theorem eW {op:CmpOp}{r:R2}{g:aA->aA->Option aA}{fa fb:EF}(ho:OpR X (iH op) r)(hg:OpD X.K 0 r g)(ha:DE X a fa)(hb:DE X b fb)(hm:zJ op b=false):DT X (.Compare a [op] [b] pos) (bOf (eOp g fa fb)):=
 PT.imp (Gu ho ha hb hm) fun σ H Q gh=>by
  obtain⟨P,ρ,c,hP,rs,ef,k⟩:=gh
  obtain⟨d,e1,ef⟩:=XBs ef
  cases rT ef
  exact JA hg σ H _ ⟨P,ρ,_,hP,rs,e1,cY fun v H1 x1 r1=>⟨c,Aar.mp r1,k H1 x1⟩⟩
noncomputable def eA (f:BF):BF:=fun ρ=>(f ρ).bind fun b=>some (!b)
noncomputable def lN (f g:BF):BF:=fun ρ=>(f ρ).bind fun b=>if b=true then g ρ else some false
noncomputable def bOr (f g:BF):BF:=fun ρ=>(f ρ).bind fun b=>if b=true then some true else g ρ
variable {fB gB:BF}{rest:List aX}
theorem jL (h:DT X a fB):DT X (.UnaryOp .Not a pos) (eA fB):=PT.imp (Dg h) fun σ H Q gh=>by
 obtain⟨P,ρ,c,hP,rs,ef,k⟩:=gh
 obtain⟨b,e1,ef⟩:=XBs ef
 cases ef
 exact⟨P,ρ,b,hP,rs,e1,fun H1 x1=>k H1 x1⟩
theorem GA (h:DT X a fB):DW X (.BoolOp .And [a] pos) fB:=Ia h
theorem oP (h:DT X a fB):DW X (.BoolOp .Or [a] pos) fB:=Fl h
theorem JG (h:DT X a fB)(h2:DW X (.BoolOp .And (b::rest) pos) gB):DW X (.BoolOp .And (a::b::rest) pos) (lN fB gB):=PW.imp (Fx h h2) fun σ H Q gh=>by
 obtain⟨P,ρ,c,hP,rs,ef,k⟩:=gh
 obtain⟨b,e1,ef⟩:=XBs ef
 refine⟨P,ρ,b,hP,rs,e1,fun H1 x1=>?_⟩
 cases b with
 | true=>exact pC ⟨P,ρ,c,hP.ext x1,rs.ext (cS x1),by simpa using ef,fun H2 x2=>k H2 (x1.trans x2)⟩
 | false=>
  have:false=c:=by simpa using ef
  subst this
  exact pD (k H1 x1)
theorem mK (h:DT X a fB)(h2:DW X (.BoolOp .Or (b::rest) pos) gB):DW X (.BoolOp .Or (a::b::rest) pos) (bOr fB gB):=PW.imp (Cg h h2) fun σ H Q gh=>by
 obtain⟨P,ρ,c,hP,rs,ef,k⟩:=gh
 obtain⟨b,e1,ef⟩:=XBs ef
 refine⟨P,ρ,b,hP,rs,e1,fun H1 x1=>?_⟩
 cases b with
 | true=>
  have:true=c:=by simpa using ef
  subst this
  exact pC (k H1 x1)
 | false=>exact pD ⟨P,ρ,c,hP.ext x1,rs.ext (cS x1),by simpa using ef,fun H2 x2=>k H2 (x1.trans x2)⟩
theorem lL (h:DW X a fB):DT X a fB:=h.pt
noncomputable def LR (f:EF):EF:=fun ρ=>(f ρ).bind fun d=>(asB d).bind fun b=>some (.bool (!b))
noncomputable def lM (f g:EF):EF:=fun ρ=>(f ρ).bind fun d=>(asB d).bind fun b=>if b=true then g ρ else some (.bool false)
noncomputable def eOr (f g:EF):EF:=fun ρ=>(f ρ).bind fun d=>(asB d).bind fun b=>if b=true then some (.bool true) else g ρ
variable {f1 f2:EF}
theorem oQ {op}(h:DE X a f1):DE X (.BoolOp op [a] pos) f1:=Fn h
theorem Eu (h:DE X a f1):DE X (.UnaryOp .Not a pos) (LR f1):=PE.imp (Dw h) fun σ H Q gh=>by
 obtain⟨P,ρ,c,hP,rs,ef,k⟩:=gh
 obtain⟨d,e1,ef⟩:=XBs ef
 obtain⟨b,e2,ef2⟩:=XBs ef
 clear ef
 have ef:=ef2
 clear ef2
 cases ef
 cases rT e2
 exact⟨P,ρ,_,hP,rs,e1,cY fun v H1 x1 r1=>⟨b,Aar.mp r1,k.zero x1 (Aar.mpr rfl)⟩⟩
theorem oK (h:DE X a f1)(h2:DE X (.BoolOp .And (b::rest) pos) f2):DE X (.BoolOp .And (a::b::rest) pos) (lM f1 f2):=PE.imp (Fm h h2) fun σ H Q gh=>by
 obtain⟨P,ρ,c,hP,rs,ef,k⟩:=gh
 obtain⟨d,e1,ef⟩:=XBs ef
 obtain⟨b,e2,ef2⟩:=XBs ef
 clear ef
 have ef:=ef2
 clear ef2
 cases rT e2
 refine⟨P,ρ,_,hP,rs,e1,cY fun v H1 x1 r1=>⟨b,Aar.mp r1,?_⟩⟩
 cases b with
 | true=>exact pC ⟨P,ρ,c,hP.ext x1,rs.ext (cS x1),by simpa using ef,k.mono x1⟩
 | false=>
  have:fD false=c:=by simpa using ef
  subst this
  exact pD (k.zero x1 (Aar.mpr rfl))
theorem Bg (h:DE X a f1)(h2:DE X (.BoolOp .Or (b::rest) pos) f2):DE X (.BoolOp .Or (a::b::rest) pos) (eOr f1 f2):=PE.imp (Bw h h2) fun σ H Q gh=>by
 obtain⟨P,ρ,c,hP,rs,ef,k⟩:=gh
 obtain⟨d,e1,ef⟩:=XBs ef
 obtain⟨b,e2,ef2⟩:=XBs ef
 clear ef
 have ef:=ef2
 clear ef2
 cases rT e2
 refine⟨P,ρ,_,hP,rs,e1,cY fun v H1 x1 r1=>⟨b,Aar.mp r1,?_⟩⟩
 cases b with
 | true=>
  have:fD true=c:=by simpa using ef
  subst this
  exact pC (k.zero x1 (Aar.mpr rfl))
 | false=>exact pD ⟨P,ρ,c,hP.ext x1,rs.ext (cS x1),by simpa using ef,k.mono x1⟩
noncomputable def eIf (t:BF)(f g:EF):EF:=fun ρ=>(t ρ).bind fun b=>if b=true then f ρ else g ρ
theorem OW {c:aX}{t:BF}(hc:DT X c t)(ha:DF n X a f1)(hb:DF n X b f2):DF n X (.IfExp c a b pos) (eIf t f1 f2):=PE.imp (Ru hc ha hb) fun σ H Q gh=>by
 obtain⟨P,ρ,d,hP,rs,ef,k⟩:=gh
 obtain⟨b,e1,ef⟩:=XBs ef
 refine⟨P,ρ,b,hP,rs,e1,fun H1 x1=>?_⟩
 cases b with
 | true=>exact pC ⟨P,ρ,d,hP.ext x1,rs.ext (cS x1),by simpa using ef,k.mono x1⟩
 | false=>exact pD ⟨P,ρ,d,hP.ext x1,rs.ext (cS x1),by simpa using ef,k.mono x1⟩
noncomputable def jX (g g':aA->aA->Option aA)(fa fb fc:EF):EF:=fun ρ=>(fa ρ).bind fun a=>(fb ρ).bind fun b=>(g a b).bind fun z=>(asB z).bind fun t=>if t=true then(fc ρ).bind fun c=>g' b c else some (.bool false)
theorem Ta {r r':R2}{g g':aA->aA->Option aA}{fa fb fc:EF}{K:aK}(hg:OpD K 0 r g)(hg':OpD K 0 r' g') : ∀ σ H Q,tF K 0 (jX g g' fa fb fc) σ H Q->VZ r r' (tF K 0 fa) (tF K 0 fb) (tF K 0 fc) σ H Q:=fun σ H Q gh=>by
 obtain⟨P,ρ,d,hP,rs,ef,k⟩:=gh
 obtain⟨d1,e1,ef⟩:=XBs ef
 obtain⟨d2,e2,ef⟩:=XBs ef
 obtain⟨z,e3,ef⟩:=XBs ef
 obtain⟨t,e4,ef2⟩:=XBs ef
 clear ef
 have ef:=ef2
 clear ef2
 cases rT e4
 refine⟨P,ρ,d1,hP,rs,e1,cY fun v H1 x1 r1=>⟨P,ρ,d2,hP.ext x1,rs.ext (cS x1),e2,cY fun u H2 x2 r2=>?_⟩⟩
 refine hg P H2 v u d1 d2 _ _ (hP.ext (x1.trans x2)) (r1.ext (cS x2)) r2 e3 (cY fun q H3 x3 r3=>⟨t,Aar.mp r3,?_⟩)
 cases t with
 | true=>
  obtain⟨d3,e5,ef⟩:=XBs (show((fc ρ).bind fun c=>g' d2 c)=some d by simpa using ef)
  exact pC ⟨P,ρ,d3,hP.ext ((x1.trans x2).trans x3),rs.ext (cS ((x1.trans x2).trans x3)),e5,cY fun w H4 x4 r4=>
   hg' P H4 u w d2 d3 d Q (hP.ext (((x1.trans x2).trans x3).trans x4)) (r2.ext (cS (x3.trans x4))) r4 ef (k.mono (((x1.trans x2).trans x3).trans x4))⟩
 | false=>
  have:fD false=d:=by simpa using ef
  subst this
  exact pD (k.zero ((x1.trans x2).trans x3) (Aar.mpr rfl))
end
abbrev Slot:=Option (Nat×aA)
abbrev bC:=List Slot
noncomputable def vS (ρ:bC):List (Option aA):=ρ.map fun s=>match s with | some (0,d)=>some d | _=>none
noncomputable def vA (ρ:bC):List (Option aA):=ρ.map fun s=>s.map (·.2)
theorem Dz {ρ:bC}{i:Nat}{d:aA}(h:(vS ρ)[i]?=some (some d)):ρ[i]?=some (some (0,d)):=by
 unfold vS at h
 rw[fK] at h
 cases e:ρ[i]? with
 | none=>rw[e] at h; simp at h
 | some s=>
  rw[e] at h
  simp only[sO,EK] at h
  cases s with
  | none=>simp at h
  | some q=>
   obtain⟨n,d'⟩:=q
   cases n with
   | zero=>simp at h; rw[h]
   | succ n=>simp at h
theorem Fe {ρ:bC}{i:Nat}{d:aA}(h:(vA ρ)[i]?=some (some d)) : ∃ n,ρ[i]?=some (some (n,d)):=by
 unfold vA at h
 rw[fK] at h
 cases e:ρ[i]? with
 | none=>rw[e] at h; simp at h
 | some s=>
  rw[e] at h
  cases s with
  | none=>simp at h
  | some q=>
   obtain⟨n,d'⟩:=q
   simp at h
   exact⟨n,by rw[h]⟩
abbrev Hd (P0:aD->Prop)(fp:Nat->List aD):aD->Prop:=fun a=>P0 a \/ ∃ i,a∈fp i
structure Sta (K:aK)(H0:Hp)(P0:aD->Prop)(B0:Hp)(ρ:bC)(σ:St)(H:Hp)(fp:Nat->List aD):Prop where
 len:σ.length=ρ.length
 nd : ∀ i,(fp i).Nodup
 dj : ∀ i j a,a∈fp i->a∈fp j->i=j
 own : ∀ i a,a∈fp i->H0 a=none/\((∃ xs,H a=some (.lst xs)) \/ ∃ q:DQ,H a=some (dO q))
 ext:Ext H0 H
 hd:Hid P0 H0
 base:Ext B0 (hid H (Hd P0 fp))
 slot : ∀ (i:Nat) n d,ρ[i]?=some (some (n,d)) -> ∃ v,σ[i]?=some (some v)/\Akd K (hid H (Hd P0 fp)) H n d v (fp i)
section
variable {K:aK}{H0 H H' B0:Hp}{P0:aD->Prop}{ρ:bC}{σ:St}{fp:Nat->List aD}
theorem Sta.hid (S:Sta K H0 P0 B0 ρ σ H fp):Hid (Hd P0 fp) H:=fun a h=>by
 rcases h with h | ⟨i,h⟩
 ·exact S.hd.ext S.ext a h
 ·exact(S.own i a h).2
theorem Sta.np (S:Sta K H0 P0 B0 ρ σ H fp){i:Nat}{a:aD}(m:a∈fp i) : ¬ P0 a:=S.hd.new (S.own i a m).1
theorem Sta.grow (S:Sta K H0 P0 B0 ρ σ H fp)(x:Ext H H'):Sta K H0 P0 B0 ρ σ H' fp:=by
 refine⟨S.len,S.nd,S.dj,fun i a m=>⟨(S.own i a m).1,(S.own i a m).2.imp (fun⟨xs,e⟩=>⟨xs,x _ _ e⟩) fun⟨xs,e⟩=>⟨xs,x _ _ e⟩⟩,S.ext.trans x,S.hd,S.base.trans (cS x),fun i n d e=>?_⟩
 obtain⟨v,h1,h2⟩:=S.slot i n d e
 refine⟨v,h1,h2.keep (cS x) fun a m=>?_⟩
 rcases(S.own i a m).2 with⟨xs,e⟩ | ⟨xs,e⟩
 ·rw[e,x _ _ e]
 ·rw[e,x _ _ e]
theorem Sta.viewS (S:Sta K H0 P0 B0 ρ σ H fp):Anw K (L2.hid H (Hd P0 fp)) (vS ρ) σ:=fun i d e=>by
 obtain⟨v,h1,h2⟩:=S.slot i 0 d (Dz e)
 exact⟨v,h1,h2.2⟩
theorem Sta.viewA (S:Sta K H0 P0 B0 ρ σ H fp):Anw K (L2.hid H P0) (vA ρ) σ:=fun i d e=>by
 obtain⟨n,e⟩:=Fe e
 obtain⟨v,h1,h2⟩:=S.slot i n d e
 exact⟨v,h1,h2.share (jP fun a p=>.inl p) fun a m o e=>jY (S.np m) e⟩
def Tmp (K:aK)(H0:Hp)(P0:aD->Prop)(B0:Hp)(ρ:bC)(σ:St)(n:Nat)(d:aA)(v:V)(H:Hp):Prop:=
 ∃ fp,Sta K H0 P0 B0 ρ σ H fp/\Akd K (L2.hid H (Hd P0 fp)) H n d v (fp ρ.length)
inductive Md | s | a
noncomputable def FH (ρ:bC):Bool:=ρ.all fun s=>match s with
 | some (0,_)=>true
 | some (1,.dict _)=>true
 | none=>true
 | _=>false
noncomputable def FI (ρ:bC):Bool:=ρ.all fun s=>match s with
 | some (9,_)=>false
 | _=>true
noncomputable def eV (n:Nat)(m:Md)(f:EF)(ρ:bC):Option aA:=match m with
 | .s=>f (vS ρ)
 | .a=>(f (vA ρ)).bind fun d=>if (iG n d||(FH ρ&&decide (n<9)&&jI n d)||(FI ρ&&decide (n=0)&&ftD d))=true then some d else none
noncomputable def bV (m:Md)(f:BF)(ρ:bC):Option Bool:=match m with
 | .s=>f (vS ρ)
 | .a=>f (vA ρ)
noncomputable def aV (m:Md)(f:AF)(ρ:bC):Option (List aA):=match m with
 | .s=>f (vS ρ)
 | .a=>f (vA ρ)
noncomputable def tE (K:aK)(H0:Hp)(P0:aD->Prop)(n:Nat)(m:Md)(f:EF):TE:=fun σ H Q=>∃ B0 ρ fp d,Sta K H0 P0 B0 ρ σ H fp/\eV n m f ρ=some d /\ ∀ v H',Tmp K H0 P0 B0 ρ σ n d v H'->Q v H'
end
section
variable {X:Cx}{H0:Hp}{P0:aD->Prop}{e:aX}{n:Nat}
theorem Sta.trim {K:aK}{B0:Hp}{ρ:bC}{σ:St}{H:Hp}{fp:Nat->List aD}(S:Sta K H0 P0 B0 ρ σ H fp) : ∃ fp',Sta K H0 P0 B0 ρ σ H fp' /\ ∀ i a,a∈fp' i->a∈fp i /\ ∃ n d,ρ[i]?=some (some (n,d)):=by
 let fp':Nat->List aD:=fun i=>match ρ[i]? with
  | some (some _)=>fp i
  | _=>[]
 have sub : ∀ i a,a∈fp' i->a∈fp i /\ ∃ n d,ρ[i]?=some (some (n,d)):=fun i a m=>by
  have m:a∈(match ρ[i]? with | some (some _)=>fp i | _=>[]):=m
  split at m
  ·rename_i x e
   exact⟨m,x.1,x.2,e⟩
  ·simp at m
 have same : ∀ i n d,ρ[i]?=some (some (n,d))->fp' i=fp i:=fun i n d e=>by
  show(match ρ[i]? with | some (some _)=>fp i | _=>[])=fp i
  rw[e]
 have xb:Ext (L2.hid H (Hd P0 fp)) (L2.hid H (Hd P0 fp')):=jP fun a h=>h.imp id fun⟨i,m⟩=>⟨i,(sub i a m).1⟩
 refine⟨fp',⟨S.len,fun i=>?_,fun i j a h1 h2=>S.dj i j a (sub i a h1).1 (sub j a h2).1,fun i a m=>S.own i a (sub i a m).1,S.ext,S.hd,S.base.trans xb,fun i n d e=>?_⟩,sub⟩
 ·show(match ρ[i]? with | some (some _)=>fp i | _=>[]).Nodup
  split
  ·exact S.nd i
  ·exact List.nodup_nil
 ·obtain⟨v,h1,h2⟩:=S.slot i n d e
  rw[same i n d e]
  exact⟨v,h1,h2.keep xb fun a m=>rfl⟩
theorem Sta.dicts {K:aK}{B0:Hp}{ρ:bC}{σ:St}{H:Hp}{fp:Nat->List aD}(S:Sta K H0 P0 B0 ρ σ H fp)(ho:FH ρ=true){i:Nat}{a:aD}{n:Nat}{d:aA}(m:a∈fp i)(e:ρ[i]?=some (some (n,d))) : ∃ q,H a=some (dO (.inl q)):=by
 have:=eK.mp ho _ (gQ e)
 obtain⟨v,h1,h2⟩:=S.slot i n d e
 split at this
 ·rename_i z
  cases z
  rw[h2.1] at m
  simp at m
 ·rename_i kds z
  cases z
  obtain⟨p,xs,Fs,_,hp,hF,h3⟩:=h2
  have hn : ∀ {ds:List (aA×aA)} {ys:List (aO×V)} {Gs:List (List aD)},All3 (fun(kd:aA×aA) (kv:aO×V) f=>kd.1=kD kv.1/\Agd K (L2.hid H (Hd P0 fp)) H 0 kd.2 kv.2 f) ds ys Gs->Gs.flatten=[]:=fun q=>by
   induction q with
   | nil=>rfl
   | cons h _ ih=>rw[sR,h.2.1,ih]; rfl
  rw[hF,hn h3] at m
  rw[dP.mp m]
  exact⟨xs,hp⟩
 ·rename_i z
  cases z
 ·cases this
theorem Sta.no9 {K:aK}{B0:Hp}{ρ:bC}{σ:St}{H:Hp}{fp:Nat->List aD}(S:Sta K H0 P0 B0 ρ σ H fp)(ho:FI ρ=true){i:Nat}{a:aD}{n:Nat}{d:aA}(m:a∈fp i)(e:ρ[i]?=some (some (n,d))) : ∀ q,H a≠some (dO (.inr q)):=fun q z=>by
 have:=eK.mp ho _ (gQ e)
 have n9:n≠9:=fun w=>by subst w; simp at this
 obtain⟨v,h1,h2⟩:=S.slot i n d e
 unfold Akd at h2
 rw[if_neg n9] at h2
 rcases h2.mut1 a m with⟨xs,w⟩ | ⟨p,w⟩ <;> rw[z] at w <;> cases w
theorem FJ {K:aK}{f:EF}(m:Md) : ∀ σ H Q,tE K H0 P0 n m f σ H Q->tF K n f σ H Q:=fun σ H Q gh=>by
 obtain⟨B0,ρ,fp,d,S,ef,k⟩:=gh
 cases m with
 | s=>
  refine⟨Hd P0 fp,vS ρ,d,S.hid,S.viewS,ef,fun v H' Fr x nd fr r=>k v H' ?_⟩
  have S':=S.grow x
  have hsub : ∀ a,Hd P0 (fun i=>if i=ρ.length then Fr else fp i) a->orL (Hd P0 fp) Fr a:=fun a h=>by
   rcases h with h | ⟨i,h⟩
   ·exact .inl (.inl h)
   ·by_cases hi:i=ρ.length
    ·simp only[hi,if_true] at h; exact .inr h
    ·simp only[hi,if_false] at h; exact .inl (.inr ⟨i,h⟩)
  have nfr : ∀ i a,a∈fp i->a∉Fr:=fun i a h1 h2=>by
   have:=(fr a h2).1
   rcases(S.own i a h1).2 with⟨xs,e⟩ | ⟨xs,e⟩ <;> rw[this] at e <;> first | cases e | (cases xs <;> simp[dO] at e)
  have xb:Ext (L2.hid H (Hd P0 fp)) (L2.hid H' (Hd P0 fun i=>if i=ρ.length then Fr else fp i)):=fun b o e=>by
   obtain⟨nb,e⟩:=Afc.mp e
   refine jY (fun q=>?_) (x _ _ e)
   rcases q with q | ⟨j,q⟩
   ·exact nb (.inl q)
   ·by_cases hj:j=ρ.length
    ·simp only[hj,if_true] at q; rw[(fr b q).1] at e; cases e
    ·simp only[hj,if_false] at q; exact nb (.inr ⟨j,q⟩)
  refine⟨fun i=>if i=ρ.length then Fr else fp i,⟨S.len,fun i=>?_,fun i j a hi hj=>?_,fun i a hi=>?_,S'.ext,S.hd,S.base.trans xb,fun i n' d' e'=>?_⟩,?_⟩
  ·by_cases hi:i=ρ.length
   ·simp only[hi,if_true]; exact nd
   ·simp only[hi,if_false]; exact S.nd i
  ·by_cases h1:i=ρ.length <;> by_cases h2:j=ρ.length
   ·rw[h1,h2]
   ·simp only[h1,if_true] at hi; simp only[h2,if_false] at hj; exact absurd hi (nfr _ _ hj)
   ·simp only[h1,if_false] at hi; simp only[h2,if_true] at hj; exact absurd hj (nfr _ _ hi)
   ·simp only[h1,if_false] at hi; simp only[h2,if_false] at hj; exact S.dj i j a hi hj
  ·by_cases h1:i=ρ.length
   ·simp only[h1,if_true] at hi
    exact⟨S.ext.none (fr a hi).1,r.mut a hi⟩
   ·simp only[h1,if_false] at hi
    exact S'.own i a hi
  ·have hlt:=(fL.mp e').1
   have h1:i≠ρ.length:=by omega
   obtain⟨v',q1,q2⟩:=S'.slot i n' d' e'
   refine⟨v',q1,?_⟩
   simp only[h1,if_false]
   obtain⟨v2,p1,p2⟩:=S.slot i n' d' e'
   have ev:=iJ (iJ (p1.symm.trans q1))
   subst ev
   refine p2.keep xb fun a m=>?_
   rcases(S.own i a m).2 with⟨xs,e⟩ | ⟨xs,e⟩
   ·rw[e,x _ _ e]
   ·rw[e,x _ _ e]
  ·simp only[if_true]
   exact r.keep (jP hsub) fun a m=>rfl
 | a=>
  obtain⟨d',ed,ef⟩:=XBs ef
  obtain⟨fl,rfl⟩:=dU ef
  obtain⟨fp,S,trm⟩:=S.trim
  refine⟨P0,vA ρ,d',S.hd.ext S.ext,S.viewA,ed,fun v H' Fr x nd fr r=>k v H' ?_⟩
  have S':=S.grow x
  have nfr : ∀ i a,a∈fp i->a∉Fr:=fun i a h1 h2=>by
   have:=(fr a h2).1
   rcases(S.own i a h1).2 with⟨xs,e⟩ | ⟨xs,e⟩ <;> rw[this] at e <;> first | cases e | (cases xs <;> simp[dO] at e)
  have xb:Ext (L2.hid H (Hd P0 fp)) (L2.hid H' (Hd P0 fun i=>if i=ρ.length then Fr else fp i)):=fun b o e=>by
   obtain⟨nb,e⟩:=Afc.mp e
   refine jY (fun q=>?_) (x _ _ e)
   rcases q with q | ⟨j,q⟩
   ·exact nb (.inl q)
   ·by_cases hj:j=ρ.length
    ·simp only[hj,if_true] at q; rw[(fr b q).1] at e; cases e
    ·simp only[hj,if_false] at q; exact nb (.inr ⟨j,q⟩)
  refine⟨fun i=>if i=ρ.length then Fr else fp i,⟨S.len,fun i=>?_,fun i j a hi hj=>?_,fun i a hi=>?_,S'.ext,S.hd,S.base.trans xb,fun i n' d' e'=>?_⟩,?_⟩
  ·by_cases hi:i=ρ.length
   ·simp only[hi,if_true]; exact nd
   ·simp only[hi,if_false]; exact S.nd i
  ·by_cases h1:i=ρ.length <;> by_cases h2:j=ρ.length
   ·rw[h1,h2]
   ·simp only[h1,if_true] at hi; simp only[h2,if_false] at hj; exact absurd hi (nfr _ _ hj)
   ·simp only[h1,if_false] at hi; simp only[h2,if_true] at hj; exact absurd hj (nfr _ _ hi)
   ·simp only[h1,if_false] at hi; simp only[h2,if_false] at hj; exact S.dj i j a hi hj
  ·by_cases h1:i=ρ.length
   ·simp only[h1,if_true] at hi
    exact⟨S.ext.none (fr a hi).1,r.mut a hi⟩
   ·simp only[h1,if_false] at hi
    exact S'.own i a hi
  ·have hlt:=(fL.mp e').1
   have h1:i≠ρ.length:=by omega
   obtain⟨v2,p1,p2⟩:=S.slot i n' d' e'
   refine⟨v2,p1,?_⟩
   simp only[h1,if_false]
   refine p2.keep xb fun a m=>?_
   rcases(S.own i a m).2 with⟨xs,e⟩ | ⟨xs,e⟩
   ·rw[e,x _ _ e]
   ·rw[e,x _ _ e]
  ·simp only[if_true]
   have up : ∀ a o,(L2.hid H' (orL P0 Fr)) a=some o->((∃ xs,o = .tup xs) \/ (FH ρ=true /\ ∀ q,o≠dO (.inl q)) \/ (FI ρ=true /\ ∃ q,o=dO (.inr q)))->(L2.hid H' (Hd P0 fun i=>if i=ρ.length then Fr else fp i)) a=some o:=fun a o e ho=>by
    obtain⟨na,e⟩:=Afc.mp e
    refine jY (fun q=>?_) e
    rcases q with q | ⟨j,q⟩
    ·exact na (.inl q)
    ·by_cases hj:j=ρ.length
     ·simp only[hj,if_true] at q; exact na (.inr q)
     ·simp only[hj,if_false] at q
      rcases ho with⟨xs,rfl⟩ | ⟨ho,hq⟩ | ⟨ho,qq,rfl⟩
      ·rcases(S'.own j a q).2 with⟨ys,e2⟩ | ⟨ys,e2⟩ <;> rw[e] at e2 <;> first | cases e2 | (cases ys <;> simp[dO] at e2)
      ·obtain⟨_,n',d',e'⟩:=trm j a q
       obtain⟨z,ez⟩:=S'.dicts ho q e'
       rw[e] at ez
       injection ez with ez
       exact hq z ez
      ·obtain⟨_,n',d',e'⟩:=trm j a q
       exact absurd e (S'.no9 ho q e' qq)
   rcases Bool.or_eq_true_iff.mp fl with fl | fl3
   rcases Bool.or_eq_true_iff.mp fl with fl | fl
   ·exact r.flat (fun a xs e=>up a _ e (.inl ⟨xs,rfl⟩)) fl
   ·have fl:=oI.mp fl
    have fl1:=oI.mp fl.1
    exact r.nd (fun a o e hq=>up a o e (.inr (.inl ⟨fl1.1,hq⟩))) (of_decide_eq_true fl1.2) fl.2
   ·have fl:=oI.mp fl3
    have fl1:=oI.mp fl.1
    have z:=of_decide_eq_true fl1.2
    subst z
    exact⟨r.1,r.2.ft (fun a o e hq=>up a o e (hq.imp id fun hq=>.inr ⟨fl1.1,hq⟩)) _ fl.2⟩
theorem ev {f:EF}(m:Md)(h:DF n X e f):PE X e (tE X.K H0 P0 n m f):=PE.imp h (FJ m)
noncomputable def tB' (K:aK)(H0:Hp)(P0:aD->Prop)(m:Md)(f:BF):TT:=fun σ H Q=>∃ B0 ρ fp b,Sta K H0 P0 B0 ρ σ H fp/\bV m f ρ=some b /\ ∀ H',Sta K H0 P0 B0 ρ σ H' fp->Q b H'
theorem evB {f:BF}(m:Md)(h:DT X e f):PT X e (tB' X.K H0 P0 m f):=PT.imp h fun σ H Q gh=>by
 obtain⟨B0,ρ,fp,b,S,ef,k⟩:=gh
 cases m with
 | s=>exact⟨Hd P0 fp,vS ρ,b,S.hid,S.viewS,ef,fun H' x=>k H' (S.grow x)⟩
 | a=>exact⟨P0,vA ρ,b,S.hd.ext S.ext,S.viewA,ef,fun H' x=>k H' (S.grow x)⟩
end
inductive Out where
 | nx (ρ:bC) | rt (d:aA) | bk (ρ:bC) | ct (ρ:bC)
abbrev SF:=bC->Option Out
def LK (K:aK)(H0:Hp)(P0:aD->Prop)(n0:Nat)(d:aA)(v:V)(H':Hp):Prop:=
 ∃ Fr,Ext H0 H'/\Fr.Nodup/\(∀ a∈Fr,H0 a=none /\ ∃ o,H' a=some o)/\Akd K (hid H' (orL P0 Fr)) H' n0 d v Fr
def Co (K:aK)(H0:Hp)(P0:aD->Prop)(B0:Hp)(n0:Nat)(D:Ends):Out->Prop
 | .nx ρ=>∀ σ H fp,Sta K H0 P0 B0 ρ σ H fp->D.nx σ H
 | .bk ρ=>∀ σ H fp,Sta K H0 P0 B0 ρ σ H fp->D.bk σ H
 | .ct ρ=>∀ σ H fp,Sta K H0 P0 B0 ρ σ H fp->D.ct σ H
 | .rt d=>∀ v H',LK K H0 P0 n0 d v H'->D.rt v H'
noncomputable def tS (K:aK)(H0:Hp)(P0:aD->Prop)(n0:Nat)(F:SF):TS:=fun D σ H=>∃ B0 ρ fp o,Sta K H0 P0 B0 ρ σ H fp/\F ρ=some o/\Co K H0 P0 B0 n0 D o
abbrev DS (X:Cx)(H0:Hp)(P0:aD->Prop)(n0:Nat)(s:bP)(F:SF):Prop:=PS X s (tS X.K H0 P0 n0 F)
abbrev DSs (X:Cx)(H0:Hp)(P0:aD->Prop)(n0:Nat)(s:List bP)(F:SF):Prop:=PSs X s (tS X.K H0 P0 n0 F)
section
variable {X:Cx}{H0:Hp}{P0:aD->Prop}{n0 n:Nat}{s:bP}{ss:List bP}{F G:SF}{e:aX}{f:EF}{pos:cE}
theorem PS.imp {t t':TS}(h:PS X s t)(w : ∀ D σ H,t' D σ H->t D σ H):PS X s t':=fun pins st σ H D I q=>h pins st σ H D I (w _ _ _ q)
theorem PSs.imp {t t':TS}(h:PSs X ss t)(w : ∀ D σ H,t' D σ H->t D σ H):PSs X ss t':=fun pins st σ H D I q=>h pins st σ H D I (w _ _ _ q)
noncomputable def cZ:SF:=fun ρ=>some (.nx ρ)
noncomputable def aZ (F G:SF):SF:=fun ρ=>(F ρ).bind fun o=>match o with
 | .nx ρ'=>G ρ'
 | o=>some o
theorem eD:DSs X H0 P0 n0 [] cZ:=PSs.imp Ik fun D σ H gh=>by
 obtain⟨B0,ρ,fp,o,S,ef,k⟩:=gh
 cases ef
 exact k σ H fp S
theorem bF (h:DS X H0 P0 n0 s F):DSs X H0 P0 n0 [s] F:=Iw h
theorem bG (h:DS X H0 P0 n0 s F)(h2:DSs X H0 P0 n0 ss G):DSs X H0 P0 n0 (s::ss) (aZ F G):=PSs.imp (Sk h h2) fun D σ H gh=>by
 obtain⟨B0,ρ,fp,o,S,ef,k⟩:=gh
 obtain⟨o1,e1,ef⟩:=XBs ef
 refine⟨B0,ρ,fp,o1,S,e1,?_⟩
 cases o1 with
 | nx ρ1=>exact fun σ1 H1 fp1 S1=>⟨B0,ρ1,fp1,o,S1,ef,k⟩
 | rt d=>cases ef; exact k
 | bk ρ1=>cases ef; exact k
 | ct ρ1=>cases ef; exact k
noncomputable def sIf (m:Md)(t:BF)(F G:SF):SF:=fun ρ=>(bV m t ρ).bind fun b=>if b=true then F ρ else G ρ
theorem dZ {c:aX}{a b:List bP}{t:BF}(m:Md)(hc:DT X c t)(ha:DSs X H0 P0 n0 a F)(hb:DSs X H0 P0 n0 b G):DS X H0 P0 n0 (.If c a b pos) (sIf m t F G):=
 PS.imp (Bn (evB m hc) ha hb) fun D σ H gh=>by
  obtain⟨B0,ρ,fp,o,S,ef,k⟩:=gh
  obtain⟨b,e1,ef⟩:=XBs ef
  refine⟨B0,ρ,fp,b,S,e1,fun H1 S1=>?_⟩
  cases b with
  | true=>exact pC ⟨B0,ρ,fp,o,S1,by simpa using ef,k⟩
  | false=>exact pD ⟨B0,ρ,fp,o,S1,by simpa using ef,k⟩
noncomputable def frz (i:Nat)(ρ:bC):bC:=match ρ[i]? with
 | some (some (_,d))=>ρ.set i (some (0,d))
 | _=>ρ
theorem Sta.frz {K:aK}{H B0:Hp}{ρ:bC}{σ:St}{fp:Nat->List aD}(S:Sta K H0 P0 B0 ρ σ H fp)(i:Nat) : ∃ fp',Sta K H0 P0 B0 (L2.frz i ρ) σ H fp':=by
 unfold L2.frz
 cases e:ρ[i]? with
 | none=>exact⟨fp,S⟩
 | some s=>
  cases s with
  | none=>exact⟨fp,S⟩
  | some q=>
   obtain⟨n,d⟩:=q
   have hi:=(fL.mp e).1
   have hsub : ∀ a,Hd P0 (fun j=>if j=i then [] else fp j) a->Hd P0 fp a:=fun a h=>by
    rcases h with h | ⟨j,h⟩
    ·exact .inl h
    ·by_cases hj:j=i
     ·simp only[hj,if_true] at h; simp at h
     ·simp only[hj,if_false] at h; exact .inr ⟨j,h⟩
   refine⟨fun j=>if j=i then [] else fp j,⟨by simp[S.len],fun j=>?_,fun j k a h1 h2=>?_,fun j a h1=>?_,S.ext,S.hd,S.base.trans (jP hsub),fun j n' d' e'=>?_⟩⟩
   ·by_cases hj:j=i
    ·simp only[hj,if_true]; exact .nil
    ·simp only[hj,if_false]; exact S.nd j
   ·by_cases hj:j=i
    ·simp only[hj,if_true] at h1; simp at h1
    ·by_cases hk:k=i
     ·simp only[hk,if_true] at h2; simp at h2
     ·simp only[hj,if_false] at h1; simp only[hk,if_false] at h2; exact S.dj j k a h1 h2
   ·by_cases hj:j=i
    ·simp only[hj,if_true] at h1; simp at h1
    ·simp only[hj,if_false] at h1; exact S.own j a h1
   ·by_cases hj:j=i
    ·subst hj
     rw[qU hi] at e'
     cases e'
     obtain⟨v,h1,h2⟩:=S.slot j n d e
     refine⟨v,h1,?_⟩
     simp only[if_true]
     refine⟨rfl,h2.share (jP hsub) fun a m o q=>jY (fun z=>?_) q⟩
     rcases z with z | ⟨k,z⟩
     ·exact S.np m z
     ·by_cases hk:k=j
      ·simp only[hk,if_true] at z; simp at z
      ·simp only[hk,if_false] at z; exact hk (S.dj k j a z m)
    ·rw[qV (fun z=>hj z.symm)] at e'
     obtain⟨v,h1,h2⟩:=S.slot j n' d' e'
     refine⟨v,h1,?_⟩
     simp only[hj,if_false]
     exact h2.keep (jP hsub) fun a m=>rfl
noncomputable def nQ (i:Nat)(F:SF):SF:=fun ρ=>F (frz i ρ)
theorem pX (i:Nat)(h:DSs X H0 P0 n0 ss F):DSs X H0 P0 n0 ss (nQ i F):=PSs.imp h fun D σ H ⟨B0,ρ,fp,o,S,ef,k⟩=>let ⟨fp',S'⟩:=S.frz i; ⟨B0,_,fp',o,S',ef,k⟩
theorem Tmp.set {K:aK}{H B0:Hp}{ρ:bC}{σ:St}{d:aA}{v:V}{i:Nat}(t:Tmp K H0 P0 B0 ρ σ n d v H)(hi:i<ρ.length) : ∃ fp,Sta K H0 P0 B0 (ρ.set i (some (n,d))) (σ.set i (some v)) H fp:=by
 obtain⟨fp,S,r⟩:=t
 have hne:ρ.length≠i:=by omega
 have hsub : ∀ a,Hd P0 (fun j=>if j=i then fp ρ.length else if j=ρ.length then [] else fp j) a->Hd P0 fp a:=fun a h=>by
  rcases h with h | ⟨j,h⟩
  ·exact .inl h
  ·by_cases hj:j=i
   ·simp only[hj,if_true] at h; exact .inr ⟨_,h⟩
   ·by_cases hk:j=ρ.length
    ·simp only[hj,if_false,hk,if_true] at h
     rw[if_neg hne] at h
     simp at h
    ·simp only[hj,if_false,hk] at h; exact .inr ⟨j,h⟩
 have src : ∀ j a,a∈(if j=i then fp ρ.length else if j=ρ.length then [] else fp j)->(j=i/\a∈fp ρ.length) \/ (j≠i/\j≠ρ.length/\a∈fp j):=fun j a h=>by
  by_cases hj:j=i
  ·simp only[hj,if_true] at h; exact .inl ⟨hj,h⟩
  ·by_cases hk:j=ρ.length
   ·rw[if_neg hj,if_pos hk] at h; simp at h
   ·rw[if_neg hj,if_neg hk] at h; exact .inr ⟨hj,hk,h⟩
 refine⟨fun j=>if j=i then fp ρ.length else if j=ρ.length then [] else fp j,⟨by simp[S.len],fun j=>?_,fun j k a h1 h2=>?_,fun j a h1=>?_,S.ext,S.hd,S.base.trans (jP hsub),fun j n' d' e'=>?_⟩⟩
 ·by_cases hj:j=i
  ·rw[if_pos hj]; exact S.nd _
  ·by_cases hk:j=ρ.length
   ·rw[if_neg hj,if_pos hk]; exact .nil
   ·rw[if_neg hj,if_neg hk]; exact S.nd _
 ·rcases src j a h1 with⟨e1,m1⟩ | ⟨e1,l1,m1⟩ <;> rcases src k a h2 with⟨e2,m2⟩ | ⟨e2,l2,m2⟩
  ·rw[e1,e2]
  ·exact absurd (S.dj _ _ a m2 m1) l2
  ·exact absurd (S.dj _ _ a m1 m2) l1
  ·exact S.dj j k a m1 m2
 ·rcases src j a h1 with⟨e1,m1⟩ | ⟨e1,l1,m1⟩
  ·exact S.own _ a m1
  ·exact S.own _ a m1
 ·by_cases hj:j=i
  ·subst hj
   rw[qU hi] at e'
   cases e'
   refine⟨v,?_,?_⟩
   ·rw[qU (by rw[S.len]; exact hi)]
   ·rw[if_pos rfl]
    exact r.keep (jP hsub) fun a m=>rfl
  ·rw[qV (fun z=>hj z.symm)] at e'
   have hlt:=(fL.mp e').1
   have hk:j≠ρ.length:=by omega
   obtain⟨v',h1,h2⟩:=S.slot j n' d' e'
   refine⟨v',?_,?_⟩
   ·rw[qV (fun z=>hj z.symm)]; exact h1
   ·rw[if_neg hj,if_neg hk]
    exact h2.keep (jP hsub) fun a m=>rfl
noncomputable def bL (i n:Nat)(m:Md)(f:EF):SF:=fun ρ=>(eV n m f ρ).bind fun d=>if i<ρ.length then some (.nx (ρ.set i (some (n,d)))) else none
theorem cH {i:Nat}{x:aB}{pos':cE}(n:Nat)(m:Md)(hN:X.N.Nodup)(hi:X.N[i]?=some x)(hx:mH X.env.scope x)(he:DF n X e f)(hs:qL e (some (.Name x pos')) pos.line X.env=pure false:=by rfl)(hf:X.fn x=true \/ X.env.scope.names.lookup x=some .local:=by first | exact .inl rfl | exact .inr rfl | assumption) :
  DS X H0 P0 n0 (.Assign [.Name x pos'] e pos) (bL i n m f):=PS.imp (Fy hN hi hx (ev m he) hs hf) fun D σ H gh=>by
 obtain⟨B0,ρ,fp,o,S,ef,k⟩:=gh
 obtain⟨d,e1,ef⟩:=XBs ef
 obtain⟨hl,rfl⟩:=dU ef
 refine⟨B0,ρ,fp,d,S,e1,fun v H' t=>?_⟩
 obtain⟨fp',S'⟩:=t.set hl
 exact k _ _ fp' S'
theorem Tmp.ret {K:aK}{H B0:Hp}{ρ:bC}{σ:St}{d:aA}{v:V}(t:Tmp K H0 P0 B0 ρ σ n d v H):LK K H0 P0 n d v H:=by
 obtain⟨fp,S,r⟩:=t
 refine⟨fp ρ.length,S.ext,S.nd _,fun a m=>⟨(S.own _ a m).1,?_⟩,r.keep (jP fun a h=>?_) fun a m=>rfl⟩
 ·rcases(S.own _ a m).2 with⟨xs,e⟩ | ⟨xs,e⟩
  ·exact⟨_,e⟩
  ·exact⟨_,e⟩
 ·rcases h with h | h
  ·exact .inl h
  ·exact .inr ⟨_,h⟩
noncomputable def bX (n:Nat)(m:Md)(f:EF):SF:=fun ρ=>(eV n m f ρ).bind fun d=>some (.rt d)
theorem cG (m:Md)(he:DF n0 X e f):DS X H0 P0 n0 (.Return (some e) pos) (bX n0 m f):=PS.imp (JI (ev m he)) fun D σ H gh=>by
 obtain⟨B0,ρ,fp,o,S,ef,k⟩:=gh
 obtain⟨d,e1,ef⟩:=XBs ef
 cases ef
 exact⟨B0,ρ,fp,d,S,e1,fun v H' t=>k v H' t.ret⟩
noncomputable def sZ (i n0:Nat):SF:=fun ρ=>match ρ[i]? with
 | some (some (n,d))=>if n=n0 then some (.rt d) else none
 | _=>none
theorem AY (i:Nat){x:aB}{p:cE}(hN:X.N[i]?=some x:=by rfl)(hv:nB X.env.scope x:=by first | exact aU rfl | exact bA (aU rfl) | exact bA (bA rfl))(hd:(x == ("__debug__" : aB))=false:=by decide)
  (hcd:(x == ("__classdict__" : aB))=false:=by decide):DS X H0 P0 n0 (.Return (some (.Name x p)) pos) (sZ i n0):=PS.imp (JI (rN hN hv hd hcd)) fun D σ H gh=>by
 obtain⟨B0,ρ,fp,o,S,ef,k⟩:=gh
 unfold sZ at ef
 cases e:ρ[i]? with
 | none=>rw[e] at ef; simp at ef
 | some q=>
  cases q with
  | none=>rw[e] at ef; simp at ef
  | some q=>
   obtain⟨n,d⟩:=q
   rw[e] at ef
   obtain⟨rfl,rfl⟩:=dU ef
   obtain⟨v,h1,h2⟩:=S.slot i n d e
   refine⟨v,h1,k v H ⟨fp i,S.ext,S.nd i,fun a m=>⟨(S.own i a m).1,?_⟩,h2.keep (jP fun a h=>?_) fun a m=>rfl⟩⟩
   ·rcases(S.own i a m).2 with⟨xs,e⟩ | ⟨xs,e⟩
    ·exact⟨_,e⟩
    ·exact⟨_,e⟩
   ·rcases h with h | h
    ·exact .inl h
    ·exact .inr ⟨_,h⟩
end
section
variable {X:Cx}
theorem Nk:Aeh X (.builtin "isinstance") (fun xs H Q=>∃ x T t b,xs=[x,.ty T]/\TyOf X.K H x t/\YE X.K t (.type T)=some b/\Q (.bl b) H):=by
 intro pins s σ H xs us Q I r h
 obtain⟨x,T,t,b,rfl,ty,e,q⟩:=h
 obtain⟨u,w',rfl,ru,rw'⟩:=vals2 r
 cases rw'
 exact Km I ru ty e fun tk=>⟨.bl b,H,I.tok tk,rfl,q⟩
end
section
variable {X:Cx}
noncomputable def AE (x:aB):It:=⟨fun i _=>i<x.cps.size,fun i H v H'=>H'=H /\ ∃ c,x.cps[i]?=some c/\v = .str ⟨#[c]⟩,fun i _=>x.cps.size≤i⟩
theorem RK {P:bQ}{w:bB}{K:aK}{tg:aX}{it:aD}{x:aB}{tk0:Tok}{ty:String}
  (W : ∀ A':cF,A'.handled=none->Walks P w A' it [it] [it] x.cps.size (SignAt x) (fun i h=>h.IsStrIter it ty x tk0 i))
  (sf : ∀ (A:cF) (i:Nat) (s:aG) (Q:aE->aG->Prop) (E:aE->aG->Prop),s.heap.IsStrIter it ty x tk0 i->Q (.ref it) s->aN (aT P w) A (nU (.ref it)) Q E s)
  (hno:["enumerate","zip","dict_itemiterator","dict_reverseitemiterator","odict_iterator","itertools.zip_longest","itertools.pairwise"].contains ty=false) :
  Turn P w K tg (AE x) [it] it (fun i h=>h.IsStrIter it ty x tk0 i/\i≤x.cps.size) where
 mem:=by simp
 obj:=fun i h st b hb=>by
  have e:b=it:=by simpa using hb
  subst e
  obtain⟨o,e,_,d⟩:=st.1
  exact⟨o,e,fun v z=>by rw[d] at z; cases z⟩
 keep:=fun i h h' st k=>⟨let ⟨o,e,r⟩:=st.1; ⟨o,k it (by simp) o e,r⟩,st.2⟩
 item:=by
  intro X hP hw hK hc i pins s σ H E I hf st hg
  subst hP hw hK
  obtain⟨f0,f1,f2,f3,f4,f5⟩:=hf it (by simp)
  refine(W X.A (I.ok.hd hc)).item i s _ _ hg st.1 fun v h' tk hv st' kk=>?_
  obtain⟨c,u,hcx,rfl⟩:=hv
  have I1:Inv X pins σ H { s with heap:=h',toks:=tk }:=I.turned (fun b o hb e=>kk b o (by simpa using hb) e) f0 f1 f3 f4 f5
  obtain⟨o,e,hcl,d⟩:=id st'
  exact⟨_,rfl,DJ (s:={ s with heap:=h',toks:=tk }) e hcl d hno ⟨.str ⟨#[c]⟩,H,I1,⟨u,rfl⟩,⟨rfl,c,hcx,rfl⟩,⟨st',hg⟩,fun b hb=>(hf b hb).1⟩⟩
 done:=by
  intro X hP hw hK hc i pins s σ H E I hf st hg
  subst hP hw hK
  obtain⟨f0,f1,f2,f3,f4,f5⟩:=hf it (by simp)
  have hi:i=x.cps.size:=Nat.le_antisymm st.2 hg
  subst hi
  exact(W X.A (I.ok.hd hc)).done s _ _ st.1 fun h' tk kk=>⟨rfl,I.turned (fun b o hb e=>kk b o (by simpa using hb) e) f0 f1 f3 f4 f5⟩
 self:=fun A i s Q E st h=>sf A i s Q E st.1 h
noncomputable def Aj (tl:TE):TI:=fun σ H R=>tl σ H fun v H1=>∃ x,v = .str x/\R (AE x) H1
theorem Ey {X:Cx}{tg l:aX}{tl:TE}(hl:PE X l tl):PI X tg l (Aj tl):=by
 intro pins s σ H R I h
 refine thn (hl pins s σ H _ I h) fun v s1 gh=>?_
 obtain⟨y,H1,I1,r1,q1⟩:=gh
 obtain⟨x,rfl,q⟩:=q1
 obtain⟨t,rfl⟩:=r1
 have fin : ∀ (o:aY) (ty:String),Turn X.prog X.w X.K tg (AE x) [s1.heap.objs.size] s1.heap.objs.size (fun i h=>h.IsStrIter s1.heap.objs.size ty x t i/\i≤x.cps.size)->(s1.heap.push o).IsStrIter s1.heap.objs.size ty x t 0 ->
   PIE X pins σ tg R (.ref s1.heap.objs.size) { s1 with heap:=s1.heap.push o }:=fun o ty T st=>by
  refine⟨s1.heap.objs.size,[s1.heap.objs.size],_,_,H1,rfl,I1.kept fun b o e=>cL _ e,T,⟨st,eY _⟩,fun b hb=>?_,q⟩
  have e:b=s1.heap.objs.size:=by simpa using hb
  subst e
  exact I1.fpOk (bY _) (I1.hok.fresh (bY _))
 cases ha:x.cps.all (· < 128)
 ·exact wpAny_pyIter_wide ha (fin _ "str_iterator" (RK (fun A' hA=>Walks.strWide hA _ x t) (fun A i s Q E st h=>wpAny_pyIter_striter_wide st h) (by decide)) ⟨_,eL _ rfl,rfl,rfl⟩)
 ·exact wpAny_pyIter_ascii ha (fin _ "str_ascii_iterator" (RK (fun A' hA=>Walks.strAscii hA _ x t) (fun A i s Q E st h=>wpAny_pyIter_striter_ascii st h) (by decide)) ⟨_,eL _ rfl,rfl,rfl⟩)
noncomputable def allB (xs:List V):Bool:=xs.all fun v=>decide (v = .bl true)
theorem uL (hc:X.calm=true):Aeh X (.builtin "all") (fun xs H Q=>∃ p ys,xs=[.ref p]/\SqL X.K H p ys/\(∀ y∈ys,∃ b,y = .bl b)/\Q (.bl (allB ys)) H):=by
 intro pins s σ H xs us Q I r h
 obtain⟨p,ys,rfl,hs,hb,q⟩:=h
 obtain⟨u,rfl,ru⟩:=vals1 r
 cases ru
 obtain⟨its,rv,pl,hz⟩:=I.list hs
 have hl:=pl.isList
 have hlt:p<s.heap.objs.size:=by obtain⟨o,n,e,_⟩:=pl; exact cI e
 have hh:=I.ok.hd hc
 have len:=rv.length
 refine call_all_walk (JR hl ⟨s.heap.objs.size,_,_,_,_,_,fun i=>decide (ys[i]?=some (.bl true)),rfl,Walks.list (A:=X.A.in1) hh s.heap.objs.size p (cT hlt) its.toArray,
  ⟨⟨_,eL _ rfl,rfl,rfl⟩,hl.at fun o e=>cL _ e⟩,?_,?_⟩)
 ·intro i v s' Q' E' hv hq
  have hv':its[i]?=some v:=by simpa using hv
  have hi:i<ys.length:=by rw[len]; exact(fL.mp hv').1
  obtain⟨b,hy⟩:=hb ys[i] (zU hi)
  have hy':ys[i]?=some (.bl b):=by rw[fS hi,hy]
  obtain⟨u',h1,h2⟩:=rv.get hy'
  rw[hv'] at h1; cases h1
  cases h2
  refine sH ?_
  have:decide (ys[i]?=some (V.bl true))=b:=by rw[hy']; cases b <;> simp
  have hq:Q' (decide (ys[i]?=some (V.bl true))) s':=hq
  rw[this] at hq
  exact hq
 ·intro h' tk hk
  have e:((cU its.toArray.size).all fun i=>decide (ys[i]?=some (V.bl true)))=allB ys:=by
   have hn:its.toArray.size=ys.length:=by simp[len]
   rw[hn]
   unfold allB
   rw[AD]
   simp only[eK,iS,decide_eq_true_eq]
   constructor
   ·intro h v hv
    obtain⟨i,hi,rfl⟩:=List.getElem_of_mem hv
    have:=h i hi
    rw[fS hi] at this
    exact iJ this
   ·intro h i hi
    rw[fS hi,h _ (zU hi)]
  rw[e]
  refine⟨.bl (allB ys),H,?_,rfl,q⟩
  exact I.kept fun b o eb=>hk b o (by simp; exact cT (cI eb)) (cL _ eb)
end
structure Def (P:bQ)(w:bB)(K:aK)(mg:aB->Option aE)(base:aW)(x:aB)(k:Nat)(ps:List aB)(sp:Sp):Prop where
 ex : ∃ f fd,FnOk P w K mg base CX0 k f fd ps sp/\mg x=some (.ref f)/\qO K (.ref f)=true/\Binds K fd ps []
section
variable {X:Cx}{x:aB}{k:Nat}{ps:List aB}{sp:Sp}{e:aX}{es:List aX}{t:TA}{p pos:cE}
theorem Fw (D:Def X.prog X.w X.K X.mg X.base x k ps sp)(hr:Room k X.A)(hg:Gl X x)(ha:PA X (e::es) t)(hdb:(x == ("__debug__" : aB))=false:=by decide)(he:bM (e::es) X.env=(false,cD e X.env)::bM es X.env:=by rfl)
  (hpl:(eX pos (bM es X.env)).any (·.1)=false:=by rfl):PE X (.Call (.Name x p) (e::es) [] pos) (FP sp [] E0 t):=by
 obtain⟨f,fd,F,hm,hk,hb⟩:=D.ex
 exact XB F hr hg hm hk hb .nil MR ha hdb he hpl
end
noncomputable def FD (a b:String):Option Bool:=if (hE a == hE b)=true then some true else if PySem.W.kitMeta b=true then(fastBuiltinMro a).map (·.contains (.type b)) else none
theorem Aml {K:aK}{a b:String}:YE K (.type a) (.type b)=FD a b:=rfl
noncomputable def kinds:List String:=["NoneType","bool","int","str","list","tuple","dict"]
noncomputable def isK (t T:String):Bool:=t == T||(t == "bool" && T == "int")
theorem Sr:(kinds.all fun t=>["int","bool","str","list","tuple","dict"].all fun T=>decide (FD t T=some (isK t T)))=true:=by decide +kernel
theorem Io {t T:String}(ht:t∈kinds)(hT:T∈["int","bool","str","list","tuple","dict"]):FD t T=some (isK t T):=by
 have h:=eK.mp Sr t ht
 have h:=eK.mp h T hT
 exact of_decide_eq_true h
section
variable {X:Cx}
theorem Cd {x:aB}{T:String}{pos:cE}(hg:Gl X x)(hm:X.mg x=none)(hv:lU x=some (.type T))(hn:x ≠ "__name__":=by decide)(hd:(x == ("__debug__" : aB))=false:=by decide):PE X (.Name x pos) (tC (.ty T)):=
 Ri hg hm hv rfl hn hd
end
theorem boot_isinstance:lU "isinstance" = some (.builtin "isinstance"):=by decide +kernel
theorem boot_abs:lU "abs" = some (.builtin "abs"):=by decide +kernel
theorem boot_all:lU "all" = some (.builtin "all"):=by decide +kernel
theorem bits_le {i:Int}{n:Nat}(h:i.natAbs<2 ^ n):Builtin.Int.intBits i≤n:=by
 unfold Builtin.Int.intBits
 split
 ·exact eY _
 ·rename_i hne
  have h0:i.natAbs≠0:=by
   intro z; apply hne; simp[Int.natAbs_eq_zero.mp z]
  have:=(Nat.log2_lt h0).mpr h
  omega
theorem Jf {X:Cx}:OpR X (lC .Mult) (rI (fun i j=>i.natAbs<2 ^ 1000/\j.natAbs<2 ^ 1000) fun i j=>.int (i*j)):=opI fun i j _ _ _ _ _ hc q=>
 mul_int q (PyProof.Rows.mulOk_of_bits (bits_le hc.1) (bits_le hc.2) (by decide))
theorem dF {A:cF}{k:Nat}(hr:Room k A):A.units+100<cLine:=by
 have:=hr.un
 omega
theorem TV : ∀ {xs:List V} {us:List aE},xs.length=us.length->(∀ (j:Nat) x u,xs[j]?=some x->us[j]?=some u->RelV x u)->Vals xs us
 | [],[],_,_=>.nil
 | [],_::_,h,_=>by simp at h
 | _::_,[],h,_=>by simp at h
 | x::xs,u::us,h,r=>.cons (r 0 x u rfl rfl) (TV (by simpa using h) fun j y w h1 h2=>r (j+1) y w (by simpa using h1) (by simpa using h2))
noncomputable def LS:R2:=fun x y H Q=>∃ i j,x = .str i/\y = .str j/\Q (.bl (!(decide (j.cps.toList<i.cps.toList)))) H
noncomputable def rL (c:Nat):V:=.str ⟨#[c]⟩
section
variable {X:Cx}
theorem Li (hc:X.calm=true):Aeh X (.type "list") (fun xs H Q=>∃ z:aB,xs=[.str z]/\z.length≤sizeLine /\ ∀ l,H l=none->Q (.ref l) (upd H l (.lst (z.cps.toList.map rL)))):=by
 intro pins s σ H xs us Q I r h
 obtain⟨z,rfl,hz,q⟩:=h
 obtain⟨u,rfl,t,rfl⟩:=vals1 r
 refine call_list_str (I.ok.hd hc) z t (fun h' tk acc' c' hk hS hacc=>?_) hz
 have hv:Vals (z.cps.toList.map rL) acc'.toList:=by
  refine TV (by simp[hacc.1]) fun j x u h1 h2=>?_
  obtain⟨c,t',hc1,rfl⟩:=hacc.2 j u (by simpa using h2)
  have:(z.cps.toList.map rL)[j]?=some (rL c):=by simp[hc1]
  rw[this] at h1
  cases h1
  exact⟨t',rfl⟩
 exact⟨.ref s.heap.objs.size,_,I.laid hk (bY _) (show Acv X.prog X.w _ h' _ (.lst (z.cps.toList.map rL)) from⟨by rw[dJ,gR]; exact hz,acc'.toList,c',hv,by simpa using hS⟩),rfl,q _ I.fresh⟩
theorem rV:OpR X (iH .LtE) LS:=by
 intro pins s σ H x y v u Q I rx ry h
 obtain⟨i,j,rfl,rfl,q⟩:=h
 obtain⟨t,rfl⟩:=rx
 obtain⟨t',rfl⟩:=ry
 exact PySem.P.le_str ⟨.bl _,H,I,rfl,q⟩
theorem Mb {ys:List aB} : ∀ {us:List aE},Vals (ys.map V.str) us->StrsAre us ys:=by
 induction ys with
 | nil=>intro us r; cases r; exact .nil
 | cons y r ih=>
  intro us h
  cases h with
  | cons h1 h2=>
   obtain⟨t,rfl⟩:=h1
   exact .cons y t (ih h2)
theorem Iy:MtR X "str.join" (fun x vs H Q=>∃ sep l ys,x = .str sep/\vs=[.ref l]/\SqL X.K H l (ys.map V.str)/\(ys.map (·.length)).sum+ys.length*sep.length≤16777216/\Q (.str (dN sep ys)) H):=by
 intro pins s σ H x xs v us Q I rx rv h
 obtain⟨sep,l,ys,rfl,rfl,hs,hok,q⟩:=h
 obtain⟨t,rfl⟩:=rx
 obtain⟨u,rfl,ru⟩:=vals1 rv
 cases ru
 obtain⟨its,r,pl,hz⟩:=I.list hs
 refine join_list pl.isList (by simpa using Mb r) hok fun t' k=>?_
 have e:Txt.join sep ys=dN sep ys:=StrLaws.glued_eq_join sep ys
 rw[e]
 exact⟨.str _,H,I.tok k,⟨t',rfl⟩,q⟩
theorem SD : ∀ cs:List Nat,dN ⟨#[]⟩ (cs.map fun c=>(⟨#[c]⟩:aB))=⟨cs.toArray⟩
 | []=>rfl
 | c::r=>by
  rw[fE,join_nil_cons,SD r]
  show(⟨#[c]++r.toArray⟩:aB)=⟨(c::r).toArray⟩
  simp
end
def ItD (K:aK)(B:Hp)(J:It)(ds:List aA):Prop:=∀ (i:Nat) (H2:Hp),Ext B H2 ->
 (∀ d,ds[i]?=some d->J.go i H2 /\ ∀ x H3,J.yld i H2 x H3->Ext H2 H3 /\ ∀ P2,Hid P2 H2->Ext B (hid H2 P2)->Aby K (hid H3 P2) d x)/\(ds.length=i->J.stop i H2)
noncomputable def tI (K:aK)(f:AF):TI:=fun σ H R=>∃ P ρ ds,Hid P H/\Anw K (hid H P) ρ σ/\f ρ=some ds /\ ∀ J H',Ext H H'->ItD K (hid H' P) J ds->R J H'
noncomputable def tI0 (K:aK)(f:AF):TI:=fun σ H R=>∃ P ρ ds,Hid P H/\Anw K (hid H P) ρ σ/\f ρ=some ds /\ ∀ J H',Ext H H'->ItD K (fun _=>none) J ds->R J H'
abbrev DI (X:Cx)(tg e:aX)(f:AF):Prop:=PI X tg e (tI X.K f)
abbrev DI0 (X:Cx)(tg e:aX)(f:AF):Prop:=PI X tg e (tI0 X.K f)
noncomputable def itemsOf:aA->Option (List aA)
 | .list ds=>some ds
 | .tuple ds=>some ds
 | .str x=>some (x.cps.toList.map fun c=>.str ⟨#[c]⟩)
 | _=>none
noncomputable def iIt (f:EF):AF:=fun ρ=>(f ρ).bind itemsOf
section
variable {X:Cx}{tg e a b:aX}{p pos:cE}
theorem PI.imp {t t':TI}(h:PI X tg e t)(w : ∀ σ H R,t' σ H R->t σ H R):PI X tg e t':=fun pins s σ H R I q=>h pins s σ H R I (w _ _ _ q)
theorem PI.or {t t':TI}(h:PI X tg e t)(h':PI X tg e t'):PI X tg e (fun σ H R=>t σ H R \/ t' σ H R):=fun pins s σ H R I q=>q.elim (h pins s σ H R I) (h' pins s σ H R I)
theorem Tw {K:aK}{B:Hp}{a:aD}{xs:List V}{ds:List aA}(h:SqL K B a xs)(r:Aau K B ds xs):ItD K B (EZ K a) ds:=fun i H2 x2=>by
 have h2:=x2.sqL h
 refine⟨fun d hd=>?_,fun e=>⟨xs,h2,by rw[r.length]; omega⟩⟩
 obtain⟨v,h3,h4⟩:=r.get hd
 refine⟨⟨xs,v,h2,h3⟩,?_⟩
 rintro x H3 ⟨rfl,hx⟩
 have:=h3.symm.trans (hx xs h2)
 cases this
 exact⟨Ext.refl,fun P2 _ xb=>h4.ext xb⟩
theorem Rc {K:aK}{B:Hp}{a:aD}{xs:List V}{ds:List aA}(h:B a=some (.tup xs))(r:Aau K B ds xs):ItD K B (EY K a) ds:=fun i H2 x2=>by
 have h2:SqT K H2 a xs:=SqT.of (x2 _ _ h)
 refine⟨fun d hd=>?_,fun e=>⟨xs,h2,by rw[r.length]; omega⟩⟩
 obtain⟨v,h3,h4⟩:=r.get hd
 refine⟨⟨xs,v,h2,h3⟩,?_⟩
 rintro x H3 ⟨rfl,hx⟩
 have:some v=some x:=h3.symm.trans (hx xs h2)
 cases this
 exact⟨Ext.refl,fun P2 _ xb=>h4.ext xb⟩
theorem GZ {z:aB}{i c:Nat}(h:cA (.str z)=true)(hc:z.cps.toList[i]?=some c):cA (.str ⟨#[c]⟩)=true:=by
 have hz : ∀ d∈z.cps,d<0x110000:=by
  have h':z.cps.all (· < 0x110000)=true:=by simpa only[cA,sN] using h
  intro d hd
  exact of_decide_eq_true (ZW.mp h' d hd)
 have:=hz c (by simpa using gQ hc)
 simp[cA,sN,this]
theorem Jq {K:aK}{B:Hp}{z:aB}(hl:cA (.str z)=true):ItD K B (AE z) (z.cps.toList.map fun c=>.str ⟨#[c]⟩):=fun i H2 x2=>by
 refine⟨fun d hd=>?_,fun e=>?_⟩
 ·rw[fK] at hd
  cases hc:z.cps.toList[i]? with
  | none=>rw[hc] at hd; simp at hd
  | some c=>
   rw[hc] at hd
   have hd:bO ⟨#[c]⟩=d:=by simpa using hd
   subst hd
   have hlt:i<z.cps.size:=by simpa using(fL.mp hc).1
   refine⟨hlt,?_⟩
   rintro x H3 ⟨rfl,c',hc',rfl⟩
   have:z.cps.toList[i]?=some c':=by simpa using hc'
   rw[hc] at this
   cases this
   exact⟨Ext.refl,fun P2 _ _=>Aan.mpr ⟨rfl,GZ hl hc⟩⟩
 ·have:z.cps.size=i:=by simpa using e
  exact Nat.le_of_eq this
theorem Vs {K:aK}{lo:Int}{n:Nat}{B:Hp}:ItD K B (AG lo n) ((cU n).map fun(k:Nat)=>dA (lo+k)):=fun i H2 x2=>by
 refine⟨fun d hd=>?_,fun e=>?_⟩
 ·have hlt:i<n:=by
   have:=(fL.mp hd).1
   simpa using this
  have hd':dA (lo+i)=d:=by
   rw[fK,List.getElem?_range hlt] at hd
   simpa using hd
  subst hd'
  refine⟨hlt,?_⟩
  rintro x H3 ⟨rfl,rfl⟩
  exact⟨Ext.refl,fun P2 _ _=>Aaq.mpr rfl⟩
 ·have:n=i:=by simpa using e
  exact Nat.le_of_eq this
theorem fC {f:EF}(h:DE X e f):DI X tg e (iIt f):=PI.imp (PI.or (Jw h) (PI.or (Fv h) (Ey h))) fun σ H R gh=>by
 obtain⟨P,ρ,ds,hP,rs,ef,k⟩:=gh
 obtain⟨d,e1,ef⟩:=XBs ef
 cases d with
 | list ds'=>
  have:ds'=ds:=by simpa [itemsOf] using ef
  subst this
  refine .inl ⟨P,ρ,_,hP,rs,e1,cY fun v H1 x1 r1=>?_⟩
  obtain⟨a,xs,rfl,hr,rr⟩:=Abn.mp r1
  exact⟨a,rfl,⟨xs,Aa9.sqL hr⟩,k _ H1 x1 (Tw hr rr)⟩
 | tuple ds'=>
  have:ds'=ds:=by simpa [itemsOf] using ef
  subst this
  refine .inr (.inl ⟨P,ρ,_,hP,rs,e1,cY fun v H1 x1 r1=>?_⟩)
  obtain⟨a,xs,rfl,hr,rr⟩:=Aa0.mp r1
  exact⟨a,rfl,⟨xs,SqT.of (Aa9 _ _ hr)⟩,k _ H1 x1 (Rc hr rr)⟩
 | str z=>
  have:z.cps.toList.map (fun c=>bO ⟨#[c]⟩)=ds:=by simpa [itemsOf] using ef
  subst this
  refine .inr (.inr ⟨P,ρ,_,hP,rs,e1,cY fun v H1 x1 r1=>?_⟩)
  exact⟨z,(Aan.mp r1).1,k _ H1 x1 (Jq (Aan.mp r1).2)⟩
 | _=>simp[itemsOf] at ef
noncomputable def FC (lo hi:Int):Option (List aA):=if -(2 ^ 62)≤lo/\lo<2 ^ 62 /\ -(2 ^ 62)≤hi/\hi<2 ^ 62 then some ((cU (hi - lo).toNat).map fun(k:Nat)=>dA (lo+k)) else none
noncomputable def iR1 (fa:AF):AF:=fun ρ=>(fa ρ).bind fun ds=>match ds with
 | [.int j]=>FC 0 j
 | _=>none
theorem mT {fa:AF}(hg:Gl X "range")(hm:X.mg "range" = none)(ha:DA X [a] fa)(hs:bM [a] X.env=[(false,cD a X.env)]:=by rfl):DI0 X tg (.Call (.Name "range" p) [a] [] pos) (iR1 fa):=PI.imp (Ky hg hm ha hs) fun σ H R gh=>by
 obtain⟨P,ρ,ds,hP,rs,ef,k⟩:=gh
 obtain⟨as,e1,ef⟩:=XBs ef
 refine⟨P,ρ,as,hP,rs,e1,fun vs H1 x1 r1=>?_⟩
 split at ef
 ·rename_i j
  obtain⟨hb,rfl⟩:=dU ef
  obtain⟨v,t,rfl,h1,h2⟩:=Aal.mp r1
  obtain rfl:=Aat.mp h2
  obtain rfl:=Aaq.mp h1
  have e0:(j - 0).toNat=j.toNat:=by simp
  refine⟨j,rfl,hb.2.2.1,hb.2.2.2,k _ H1 x1 ?_⟩
  rw[e0]
  exact Vs
 ·cases ef
theorem xB {f:AF}(h:DI0 X tg e f):DI X tg e f:=PI.imp h fun σ H R ⟨P,ρ,ds,hP,rs,ef,k⟩=>⟨P,ρ,ds,hP,rs,ef,fun J H' x it=>k J H' x fun i H2 x2=>by
 obtain⟨h1,h2⟩:=it i H2 (fun _ _ e=>by cases e)
 exact⟨fun d hd=>⟨(h1 d hd).1,fun v H3 y=>⟨((h1 d hd).2 v H3 y).1,fun P2 hp _=>((h1 d hd).2 v H3 y).2 P2 hp fun _ _ e=>by cases e⟩⟩,h2⟩⟩
noncomputable def tI' (K:aK)(H0:Hp)(P0:aD->Prop)(m:Md)(f:AF):TI:=fun σ H R=>∃ B0 ρ fp ds,Sta K H0 P0 B0 ρ σ H fp/\aV m f ρ=some ds /\ ∀ J B1 H',Sta K H0 P0 B1 ρ σ H' fp->Ext B0 B1->ItD K B1 J ds->R J H'
theorem Sta.rebase {K:aK}{H0 H B0 B1:Hp}{P0:aD->Prop}{ρ:bC}{σ:St}{fp:Nat->List aD}(S:Sta K H0 P0 B0 ρ σ H fp)(b:Ext B1 (L2.hid H (Hd P0 fp))):Sta K H0 P0 B1 ρ σ H fp:=⟨S.len,S.nd,S.dj,S.own,S.ext,S.hd,b,S.slot⟩
variable {H0:Hp}{P0:aD->Prop}
theorem evI {f:AF}(h:DI X tg e f):PI X tg e (tI' X.K H0 P0 .s f):=PI.imp h fun σ H R ⟨B0,ρ,fp,ds,S,ef,k⟩=>
 ⟨Hd P0 fp,vS ρ,ds,S.hid,S.viewS,ef,fun J H' x it=>k J _ H' ((S.grow x).rebase Ext.refl) (S.grow x).base it⟩
theorem Ba {f:AF}(m:Md)(h:DI0 X tg e f):PI X tg e (tI' X.K H0 P0 m f):=PI.imp h fun σ H R gh=>by
 obtain⟨B0,ρ,fp,ds,S,ef,k⟩:=gh
 have up : ∀ {J:It} {B:Hp},ItD X.K (fun _=>none) J ds->ItD X.K B J ds:=fun {J B} it i H2 x2=>by
  obtain⟨h1,h2⟩:=it i H2 (fun _ _ e=>by cases e)
  exact⟨fun d hd=>⟨(h1 d hd).1,fun v H3 y=>⟨((h1 d hd).2 v H3 y).1,fun P2 hp _=>((h1 d hd).2 v H3 y).2 P2 hp fun _ _ e=>by cases e⟩⟩,h2⟩
 cases m with
 | s=>exact⟨Hd P0 fp,vS ρ,ds,S.hid,S.viewS,ef,fun J H' x it=>k J _ H' (S.grow x) Ext.refl (up it)⟩
 | a=>exact⟨P0,vA ρ,ds,S.hd.ext S.ext,S.viewA,ef,fun J H' x it=>k J _ H' (S.grow x) Ext.refl (up it)⟩
end
noncomputable def tG (K:aK)(H0:Hp)(P0:aD->Prop)(T:aA->bC->Option bC):TG:=fun v σ H Q=>∃ B0 ρ fp d ρ',Sta K H0 P0 B0 ρ σ H fp/\Aby K (hid H (Hd P0 fp)) d v/\T d ρ=some ρ' /\ ∀ σ' fp',Sta K H0 P0 B0 ρ' σ' H fp'->Q σ' H
abbrev DG (X:Cx)(H0:Hp)(P0:aD->Prop)(tg:aX)(T:aA->bC->Option bC):Prop:=PG X tg (tG X.K H0 P0 T)
section
variable {X:Cx}{H0:Hp}{P0:aD->Prop}{n0:Nat}{pos:cE}
theorem PG.imp {tg:aX}{t t':TG}(h:PG X tg t)(w : ∀ v σ H Q,t' v σ H Q->t v σ H Q):PG X tg t':=fun pins s σ H v u Q I r q=>h pins s σ H v u Q I r (w _ _ _ _ q)
theorem Sta.Ajb {K:aK}{H B0:Hp}{ρ:bC}{σ:St}{fp:Nat->List aD}{d:aA}{v:V}{i:Nat}(S:Sta K H0 P0 B0 ρ σ H fp)(r:Aby K (L2.hid H (Hd P0 fp)) d v)(hi:i<ρ.length) : ∃ fp',Sta K H0 P0 B0 (ρ.set i (some (0,d))) (σ.set i (some v)) H fp':=by
 have hsub : ∀ a,Hd P0 (fun j=>if j=ρ.length then [] else fp j) a->Hd P0 fp a:=fun a h=>by
  rcases h with h | ⟨j,h⟩
  ·exact .inl h
  ·by_cases hj:j=ρ.length
   ·simp only[hj,if_true] at h; simp at h
   ·simp only[hj,if_false] at h; exact .inr ⟨j,h⟩
 have S2:Sta K H0 P0 B0 ρ σ H (fun j=>if j=ρ.length then [] else fp j):=by
  refine⟨S.len,fun j=>?_,fun j k a h1 h2=>?_,fun j a h1=>?_,S.ext,S.hd,S.base.trans (jP hsub),fun j n d e=>?_⟩
  ·by_cases hj:j=ρ.length
   ·simp only[hj,if_true]; exact .nil
   ·simp only[hj,if_false]; exact S.nd j
  ·by_cases hj:j=ρ.length
   ·simp only[hj,if_true] at h1; simp at h1
   ·by_cases hk:k=ρ.length
    ·simp only[hk,if_true] at h2; simp at h2
    ·simp only[hj,if_false] at h1; simp only[hk,if_false] at h2; exact S.dj j k a h1 h2
  ·by_cases hj:j=ρ.length
   ·simp only[hj,if_true] at h1; simp at h1
   ·simp only[hj,if_false] at h1; exact S.own j a h1
  ·have hlt:=(fL.mp e).1
   have hj:j≠ρ.length:=by omega
   obtain⟨v',h1,h2⟩:=S.slot j n d e
   refine⟨v',h1,?_⟩
   simp only[hj,if_false]
   exact h2.keep (jP hsub) fun a m=>rfl
 refine Tmp.set ⟨_,S2,?_⟩ hi
 simp only[if_true]
 exact⟨rfl,r.ext (jP hsub)⟩
noncomputable def gNm (i:Nat):aA->bC->Option bC:=fun d ρ=>if i<ρ.length then some (ρ.set i (some (0,d))) else none
theorem jD {i:Nat}{x:aB}(hN:X.N.Nodup)(hi:X.N[i]?=some x)(hx:mH X.env.scope x)(hf:X.fn x=true \/ X.env.scope.names.lookup x=some .local:=by first | exact .inl rfl | exact .inr rfl | assumption):DG X H0 P0 (.Name x pos) (gNm i):=
 PG.imp (BB hN hi hx hf) fun v σ H Q gh=>by
  obtain⟨B0,ρ,fp,d,ρ',S,r,ef,k⟩:=gh
  obtain⟨hl,rfl⟩:=dU ef
  obtain⟨fp',S'⟩:=S.Ajb r hl
  exact k _ fp' S'
noncomputable def FT (i j:Nat):aA->bC->Option bC:=fun d ρ=>match d with
 | .tuple [a,b]=>(gNm i a ρ).bind fun ρ'=>gNm j b ρ'
 | _=>none
theorem Gp {i j:Nat}{x y:aB}{p1 p2:cE}{k}(hc:X.calm=true)(hN:X.N.Nodup)(hi:X.N[i]?=some x)(hj:X.N[j]?=some y)(hx:mH X.env.scope x)(hy:mH X.env.scope y)
  (hf:X.fn x=true \/ X.env.scope.names.lookup x=some .local:=by first | exact .inl rfl | exact .inr rfl | assumption) (hf2:X.fn y=true \/ X.env.scope.names.lookup y=some .local:=by first | exact .inl rfl | exact .inr rfl | assumption)
  (hn:(lV [.Name x p1,.Name y p2] X.env).length=2:=by rfl) (hst:(lV [.Name x p1,.Name y p2] X.env).findIdx? (·.1)=none:=by rfl)
  (h1:(lV [.Name x p1,.Name y p2] X.env).map (·.2)=pG (.Name x p1) X.env::(lV [.Name y p2] X.env).map (·.2):=by rfl) (h2:(lV [.Name y p2] X.env).map (·.2)=pG (.Name y p2) X.env::(lV [] X.env).map (·.2):=by rfl):DG X H0 P0 (.Tuple [.Name x p1,.Name y p2] k pos) (FT i j):=
 PG.imp (Ee hc (OP (BB hN hi hx hf) (OP (BB hN hj hy hf2) Iz h2) h1) hn hst) fun v σ H Q gh=>by
  obtain⟨B0,ρ,fp,d,ρ',S,r,ef,k⟩:=gh
  unfold FT at ef
  split at ef
  ·rename_i a b
   obtain⟨ρ1,e1,e2⟩:=XBs ef
   obtain⟨l1,rfl⟩:=dU e1
   obtain⟨l2,rfl⟩:=dU e2
   obtain⟨p,xs,rfl,hp,rr⟩:=Aa0.mp r
   obtain⟨v1,t1,rfl,r1,rr⟩:=Aal.mp rr
   obtain⟨v2,t2,rfl,r2,rr⟩:=Aal.mp rr
   obtain rfl:=Aat.mp rr
   refine⟨p,_,rfl,SqT.of (Aa9 _ _ hp),rfl,v1,_,rfl,v2,_,rfl,rfl,?_⟩
   have Sb:=S.rebase Ext.refl
   obtain⟨fp1,S1⟩:=Sb.Ajb r1 l1
   obtain⟨fp2,S2⟩:=S1.Ajb (r2.ext S1.base) l2
   exact k _ fp2 (S2.rebase (S.base.trans S2.base))
  ·cases ef
end
noncomputable def nP (F:SF)(T:aA->bC->Option bC):List aA->SF
 | [],ρ=>some (.nx ρ)
 | d::r,ρ=>(T d ρ).bind fun ρ1=>(F ρ1).bind fun o=>match o with
  | .nx ρ'=>nP F T r ρ'
  | .ct ρ'=>nP F T r ρ'
  | .bk ρ'=>some (.nx ρ')
  | .rt d=>some (.rt d)
noncomputable def eR (m:Md)(fi:AF)(T:aA->bC->Option bC)(F:SF):SF:=fun ρ=>(aV m fi ρ).bind fun ds=>nP F T ds ρ
section
variable {X:Cx}{H0:Hp}{P0:aD->Prop}{n0:Nat}{pos:cE}{tg iter:aX}{body:List bP}{F:SF}{T:aA->bC->Option bC}{fi:AF}{m:Md}
theorem OO (hp:zP (aT X.prog X.w) X.A X.env X.xe)(hc:X.calm=true)(hi:PI X tg iter (tI' X.K H0 P0 m fi))(hg:DG X H0 P0 tg T)(hb:DSs X H0 P0 n0 body F)
  (hs : ∀ x,sL iter X.env x=pure x:=by intro _; rfl):DS X H0 P0 n0 (.For tg iter body [] pos) (eR m fi T F):=PS.imp (Dj hp hc hi hg hb hs) fun D σ H gh=>by
 obtain⟨B0,ρ,fp,o,S,ef,k⟩:=gh
 obtain⟨ds,e1,ef⟩:=XBs ef
 refine⟨B0,ρ,fp,ds,S,e1,fun J B1 H' S1 xb it=>?_⟩
 refine⟨fun i m σ H=>m=ds.length - i/\i≤ds.length /\ ∃ ρ fp,Sta X.K H0 P0 B1 ρ σ H fp/\nP F T (ds.drop i) ρ=some o,⟨ds.length,by simp,eY _,ρ,fp,S1,by simpa using ef⟩,?_⟩
 rintro i m σ2 H2 ⟨rfl,hi,ρ2,fp2,S2,e2⟩
 have x2:=S2.base.trans Aa9
 obtain⟨go,st⟩:=it i H2 x2
 by_cases hlt:i<ds.length
 ·have hd:=fS hlt
  rw[ZI hlt] at e2
  obtain⟨ρ3,e3,e2⟩:=XBs e2
  obtain⟨o3,e4,e2⟩:=XBs e2
  obtain⟨g1,g2⟩:=go _ hd
  refine .inr ⟨g1,fun σ' H'=>i+1≤ds.length /\ ∃ ρ fp,Sta X.K H0 P0 B1 ρ σ' H' fp/\nP F T (ds.drop (i+1)) ρ=some o,fun σ' H' ⟨h1,h2⟩=>⟨ds.length - (i+1),by omega,rfl,h1,h2⟩,fun x H3 y=>?_⟩
  obtain⟨x3,r3⟩:=g2 x H3 y
  refine⟨B1,ρ2,fp2,_,ρ3,S2.grow x3,r3 _ S2.hid S2.base,e3,fun σ4 fp4 S4=>⟨B1,ρ3,fp4,o3,S4,e4,?_⟩⟩
  cases o3 with
  | nx ρ5=>exact fun σ5 H5 fp5 S5=>⟨hlt,ρ5,fp5,S5,e2⟩
  | ct ρ5=>exact fun σ5 H5 fp5 S5=>⟨hlt,ρ5,fp5,S5,e2⟩
  | bk ρ5=>
   cases e2
   exact fun σ5 H5 fp5 S5=>k σ5 H5 fp5 (S5.rebase (xb.trans S5.base))
  | rt d=>
   cases e2
   exact k
 ·have e:i=ds.length:=by omega
  subst e
  rw[List.drop_length] at e2
  cases e2
  exact .inl ⟨st rfl,k σ2 H2 fp2 (S2.rebase (xb.trans S2.base))⟩
theorem mO (hp:zP (aT X.prog X.w) X.A X.env X.xe)(hc:X.calm=true)(hi:DI X tg iter fi)(hg:DG X H0 P0 tg T)(hb:DSs X H0 P0 n0 body F)
  (hs : ∀ x,sL iter X.env x=pure x:=by intro _; rfl):DS X H0 P0 n0 (.For tg iter body [] pos) (eR .s fi T F):=OO hp hc (evI hi) hg hb hs
theorem uC (m:Md)(hp:zP (aT X.prog X.w) X.A X.env X.xe)(hc:X.calm=true)(hi:DI0 X tg iter fi)(hg:DG X H0 P0 tg T)(hb:DSs X H0 P0 n0 body F)
  (hs : ∀ x,sL iter X.env x=pure x:=by intro _; rfl):DS X H0 P0 n0 (.For tg iter body [] pos) (eR m fi T F):=OO hp hc (Ba m hi) hg hb hs
end
noncomputable def whD (m:Md)(t:BF)(F:SF):Nat->SF
 | 0,_=>none
 | n+1,ρ=>(bV m t ρ).bind fun b=>if b=true then(F ρ).bind fun o=>match o with
   | .nx ρ'=>whD m t F n ρ'
   | .ct ρ'=>whD m t F n ρ'
   | .bk ρ'=>some (.nx ρ')
   | .rt d=>some (.rt d)
  else some (.nx ρ)
section
variable {X:Cx}{H0:Hp}{P0:aD->Prop}{n0:Nat}{pos:cE}{c:aX}{body:List bP}{F:SF}{t:BF}
theorem Ub (m:Md)(fuel:Nat)(hp:zP (aT X.prog X.w) X.A X.env X.xe)(hc:DT X c t)(hb:DSs X H0 P0 n0 body F):DS X H0 P0 n0 (.While c body [] pos) (whD m t F fuel):=
 PS.imp (Um hp (evB m hc) hb) fun D σ H gh=>by
  obtain⟨B0,ρ,fp,o,S,ef,k⟩:=gh
  refine⟨fun n σ H=>∃ ρ fp,Sta X.K H0 P0 B0 ρ σ H fp/\whD m t F n ρ=some o,⟨fuel,ρ,fp,S,ef⟩,?_⟩
  rintro n σ1 H1 ⟨ρ1,fp1,S1,e1⟩
  cases n with
  | zero=>cases e1
  | succ n=>
   obtain⟨b,e2,e1⟩:=XBs e1
   refine⟨B0,ρ1,fp1,b,S1,e2,fun H2 S2=>?_⟩
   cases b with
   | false=>
    have:some (Out.nx ρ1)=some o:=by simpa using e1
    cases this
    exact pD (k σ1 H2 fp1 S2)
   | true=>
    rw[if_pos rfl] at e1
    obtain⟨o3,e4,e1⟩:=XBs e1
    refine pC ⟨fun σ' H'=>∃ ρ fp,Sta X.K H0 P0 B0 ρ σ' H' fp/\whD m t F n ρ=some o,fun σ' H' h=>⟨n,sP n,h⟩,B0,ρ1,fp1,o3,S2,e4,?_⟩
    cases o3 with
    | nx ρ5=>exact fun σ5 H5 fp5 S5=>⟨ρ5,fp5,S5,e1⟩
    | ct ρ5=>exact fun σ5 H5 fp5 S5=>⟨ρ5,fp5,S5,e1⟩
    | bk ρ5=>cases e1; exact k
    | rt d=>cases e1; exact k
end
noncomputable def lcD (T:aA->List (Option aA)->Option (List (Option aA)))(t:BF)(f:EF)(ρ:List (Option aA)):List aA->Option (List aA)
 | []=>some []
 | d::r=>(T d ρ).bind fun ρ1=>(t ρ1).bind fun c=>if c=true then(f ρ1).bind fun y=>(lcD T t f ρ r).bind fun ys=>some (y::ys) else lcD T t f ρ r
noncomputable def kP (cap:List (Option Nat))(ρ:List (Option aA)):List (Option aA):=cap.map fun o=>o.bind fun j=>(ρ[j]?).join
noncomputable def eLC (cap:List (Option Nat))(fi:AF)(T:aA->List (Option aA)->Option (List (Option aA)))(t:BF)(f:EF):EF:=fun ρ=>(fi ρ).bind fun ds=>(lcD T t f (kP cap ρ) ds).bind fun ys=>if ds.length≤sizeLine then some (.list ys) else none
noncomputable def tGB (K:aK)(T:aA->List (Option aA)->Option (List (Option aA))):TG:=fun v σ H Q=>∃ P ρ d ρ',Hid P H/\Anw K (hid H P) ρ σ/\Aby K (hid H P) d v/\T d ρ=some ρ' /\ ∀ σ',Anw K (hid H P) ρ' σ'->Q σ' H
def TOk (T:aA->List (Option aA)->Option (List (Option aA))):Prop:=∀ d ρ ρ',T d ρ=some ρ' -> ∀ (i:Nat) d',ρ[i]?=some (some d')->ρ'[i]?=some (some d')
noncomputable def cX:BF:=fun _=>some true
noncomputable def gB (j:Nat):aA->List (Option aA)->Option (List (Option aA)):=fun d ρ=>match ρ[j]? with
 | some none=>some (ρ.set j (some d))
 | _=>none
theorem XR {j:Nat}{d:aA}{ρ ρ':List (Option aA)}(h:gB j d ρ=some ρ'):ρ[j]?=some none/\ρ.set j (some d)=ρ':=by
 unfold gB at h
 split at h
 ·rename_i e
  exact⟨e,iJ h⟩
 ·cases h
theorem gL {j:Nat}:TOk (gB j):=fun d ρ ρ' e i d' h=>by
 obtain⟨hj,rfl⟩:=XR e
 by_cases q:j=i
 ·subst q; rw[hj] at h; cases h
 ·rw[qV q]; exact h
section
variable {X:Cx}{N:List aB}{cap:List (Option Nat)}{sc:iI}{elt iter tg c:aX}{ifs:List aX}{pos:cE}{fi:AF}{T:aA->List (Option aA)->Option (List (Option aA))}{t:BF}{f:EF}
theorem gZ:sT X [] (tTF X.K cX):=fun pins s σ H Q I gh=>by
 obtain⟨P,ρ,b,hP,rs,ef,k⟩:=gh
 cases ef
 exact Ha pins s σ H Q I (k H Ext.refl)
theorem Hc (h:DT X c t):sT X [c] (tTF X.K t):=Rl h
theorem Anw.set {K:aK}{B:Hp}{ρ:List (Option aA)}{σ:St}{d:aA}{v:V}{j:Nat}(h:Anw K B ρ σ)(r:Aby K B d v)(hl:j<σ.length):Anw K B (ρ.set j (some d)) (σ.set j (some v)):=fun i d' e=>by
 by_cases q:j=i
 ·subst q
  have hj:j<ρ.length:=by
   have:=(fL.mp e).1
   simpa using this
  rw[qU hj] at e
  cases e
  exact⟨v,qU hl,r⟩
 ·rw[qV q] at e
  obtain⟨w,h1,h2⟩:=h i d' e
  exact⟨w,by rw[qV q]; exact h1,h2⟩
def DGB (X:Cx)(tg:aX)(T:aA->List (Option aA)->Option (List (Option aA))):Prop:=
 ∀ (pins:List (aD×aY)) (s:aG) (σ:St) (H:Hp) (v:V) (u:aE) (Q:St->Hp->Prop),Inv X pins σ H s->RelV v u->tGB X.K T v σ H Q ->
  aN (aT X.prog X.w) X.A (pG tg X.env u) (fun _ s'=>∃ σ' H',Inv X pins σ' H' s'/\Q σ' H') X.xe s
theorem gM {j:Nat}{x:aB}(hN:X.N.Nodup)(hi:X.N[j]?=some x)(hx:mH X.env.scope x)(hf:X.fn x=true \/ X.env.scope.names.lookup x=some .local:=by first | exact .inl rfl | exact .inr rfl | assumption):DGB X (.Name x pos) (gB j):=fun pins s σ H v u Q I r gh=>by
 obtain⟨P,ρ,d,ρ',hP,rs,rd,ef,k⟩:=gh
 obtain⟨hj,rfl⟩:=XR ef
 have hl:j<σ.length:=by rw[I.len]; exact(fL.mp hi).1
 exact BB hN hi hx hf pins s σ H v u Q I r (k _ (rs.set rd hl))
theorem Th {K:aK}{B:Hp}{ρ:List (Option aA)}{σ:St}(h:Anw K B ρ σ):Anw K B (kP cap ρ) (sX cap σ):=fun i d e=>by
 unfold kP at e
 unfold sX
 rw[fK] at e ⊢
 cases hc:cap[i]? with
 | none=>rw[hc] at e; simp at e
 | some o=>
  rw[hc] at e
  cases o with
  | none=>simp at e
  | some j=>
   simp only[sO,cK,EK] at e ⊢
   obtain⟨v,h1,h2⟩:=h j d (HE e)
   exact⟨v,by rw[h1]; rfl,h2⟩
theorem MM {K:aK}(hT:TOk T) : ∀ σ H Q,tF K 1 (eLC cap fi T t f) σ H Q->tLC cap (tI K fi) (tGB K T) (tTF K t) (tF K 0 f) σ H Q:=fun σ H Q gh=>by
 obtain⟨P,ρ,d,hP,rs,ef,k⟩:=gh
 obtain⟨ds,e1,ef⟩:=XBs ef
 obtain⟨all,e2,ef⟩:=XBs ef
 obtain⟨hz,rfl⟩:=dU ef
 refine⟨P,ρ,ds,hP,rs,e1,fun J H1 x1 it A hA=>?_⟩
 have hPA:=(hP.ext x1).new hA
 have back : ∀ {H':Hp} {ys:List V},hid (upd H' A (.lst ys)) (orL P [A])=hid H' (orL P [A]):=fun {H' ys}=>by
  funext b
  unfold hid
  by_cases hb:orL P [A] b
  ·rw[if_pos hb,if_pos hb]
  ·rw[if_neg hb,if_neg hb]
   exact fJ (fun z=>hb (.inr (by simp[z])))
 refine⟨fun i m ys σ' H'=>m=ds.length - i/\i≤ds.length/\H' A=some (.lst ys)/\Ext H1 H'/\Ext (hid H1 P) (hid H' (orL P [A]))/\Anw K (hid H' (orL P [A])) (kP cap ρ) σ'/\ys.length≤i /\
  ∃ done rest,Aau K (hid H' (orL P [A])) done ys/\lcD T t f (kP cap ρ) (ds.drop i)=some rest/\all=done++rest,⟨ds.length,?_⟩,?_⟩
 ·have xa:Ext (hid H1 P) (hid (upd H1 A (.lst [])) (orL P [A])):=fun b o e=>by
   obtain⟨nb,e⟩:=Afc.mp e
   have hb:=mU e hA
   exact jY (fun z=>z.elim nb fun m=>hb (by simpa using m)) (by rw[fJ hb]; exact e)
  exact⟨by simp,eY _,jR,Ext.new hA,xa,(Th (rs.ext (cS x1))).ext xa,eY _,[],all,Aat.mpr rfl,by simpa using e2,rfl⟩
 ·rintro i m ys σ' H' ⟨rfl,hi,hD,x2,xb,rs2,hl,done,rest,rd,e3,rfl⟩
  refine⟨hD,?_⟩
  obtain⟨go,st⟩:=it i H' (Aa9.trans x2)
  have hid2:Hid (orL P [A]) H':=fun a h=>by
   rcases h with h | h
   ·exact(hP.ext (x1.trans x2)) a h
   ·have:a=A:=by simpa using h
    subst this
    exact .inl ⟨_,hD⟩
  by_cases hlt:i<ds.length
  ·have hd:=fS hlt
   rw[ZI hlt] at e3
   obtain⟨ρ1,e4,e3⟩:=XBs e3
   obtain⟨c,e5,e3⟩:=XBs e3
   obtain⟨g1,g2⟩:=go _ hd
   refine .inr ⟨g1,by omega,fun ys σ' H'=>i+1≤ds.length/\H' A=some (.lst ys)/\Ext H1 H'/\Ext (hid H1 P) (hid H' (orL P [A]))/\Anw K (hid H' (orL P [A])) (kP cap ρ) σ'/\ys.length≤i+1 /\
    ∃ d2 r2,Aau K (hid H' (orL P [A])) d2 ys/\lcD T t f (kP cap ρ) (ds.drop (i+1))=some r2/\done++rest=d2++r2,fun zs σ2 H2 h=>⟨ds.length - (i+1),by omega,rfl,h⟩,fun x H2 y=>?_⟩
   obtain⟨x3,r3⟩:=g2 x H2 y
   refine⟨orL P [A],kP cap ρ,_,ρ1,hid2.ext x3,rs2.ext (cS x3),r3 _ hid2 xb,e4,fun σ3 rs3=>?_⟩
   refine⟨orL P [A],ρ1,c,hid2.ext x3,rs3,e5,fun H4 x4=>?_⟩
   have rs4:Anw K (hid H2 (orL P [A])) (kP cap ρ) σ3:=fun j d' e=>rs3 j d' (hT _ _ _ e4 j d' e)
   cases c with
   | false=>
    rw[if_neg oH] at e3
    refine pD ⟨hlt,x4 _ _ (x3 _ _ hD),x2.trans (x3.trans x4),xb.trans (cS (x3.trans x4)),rs4.ext (cS x4),by omega,done,rest,rd.ext (cS (x3.trans x4)),e3,rfl⟩
   | true=>
    rw[if_pos rfl] at e3
    obtain⟨yd,e6,e3⟩:=XBs e3
    obtain⟨r2,e7,e3⟩:=XBs e3
    cases e3
    refine pC ⟨orL P [A],ρ1,yd,hid2.ext (x3.trans x4),rs3.ext (cS x4),e6,cY fun v H5 x5 r5=>⟨x5 _ _ (x4 _ _ (x3 _ _ hD)),hlt,jR,?_,?_,?_,by simp; omega,done++[yd],r2,?_,e7,by simp⟩⟩
    ·intro b o e
     rw[fJ (mU e hA)]
     exact x5 _ _ (x4 _ _ (x3 _ _ (x2 _ _ e)))
    ·rw[back]; exact xb.trans (cS (x3.trans (x4.trans x5)))
    ·rw[back]; exact rs4.ext (cS (x4.trans x5))
    ·rw[back]; exact(rd.ext (cS (x3.trans (x4.trans x5)))).snoc r5
  ·have e:i=ds.length:=by omega
   subst e
   rw[List.drop_length] at e3
   cases e3
   rw[oD] at k
   refine .inl ⟨st rfl,?_⟩
   refine k (.ref A) H' [A] (x1.trans x2) (nY.mpr ⟨by simp,.nil⟩) (fun a m=>?_) ⟨A,ys,ys.map fun _=>[],rfl,hD,?_,?_⟩
   ·have:a=A:=by simpa using m
    subst this
    exact⟨x1.none hA,_,hD⟩
   ·have : ∀ l:List V,(l.map fun _=>([]:List aD)).flatten=[]:=fun l=>by
     induction l with
     | nil=>rfl
     | cons a l ih=>rw[fE,sR,ih]; rfl
    rw[this]
   ·have go : ∀ (ds:List aA) (xs:List V),Aau K (hid H' (orL P [A])) ds xs->All3 (Agd K (hid H' (orL P [A])) H' 0) ds xs (xs.map fun _=>[]):=by
     intro ds
     induction ds with
     | nil=>intro xs r; rw[Aat.mp r]; exact .nil
     | cons d ds ih=>
      intro xs r
      obtain⟨y,t,rfl,h1,h2⟩:=Aal.mp r
      exact .cons ⟨rfl,h1⟩ (ih t h2)
    exact go _ _ rd
def VE (X:Cx)(N:List aB)(sc:iI)(tg elt:aX)(ifs:List aX)(T:aA->List (Option aA)->Option (List (Option aA)))(t:BF)(f:EF):Prop:=
 ∀ (cl:List (aB×aD)) (C:aD) (s₀:aG) (H₀:Hp) (ex:List aD),DGB (iE X N sc cl C s₀ H₀ ex) tg T/\sT (iE X N sc cl C s₀ H₀ ex) ifs (tTF X.K t)/\DE (iE X N sc cl C s₀ H₀ ex) elt f
theorem iB (hc:X.calm=true)(S:CompScope X N cap sc)(hT:TOk T)(hi:DI X tg iter fi)(hb:VE X N sc tg elt ifs T t f)(hs : ∀ x,sL iter X.env x=pure x:=by intro _; rfl) :
  DF 1 X (.ListComp elt [⟨tg,iter,ifs,0⟩] sc pos) (eLC cap fi T t f):=PE.imp (Bx hc S hi (g:=tGB X.K T) (tc:=tTF X.K t) (te:=tF X.K 0 f) hb hs) (MM hT)
variable {H0:Hp}{P0:aD->Prop}{n0:Nat}
theorem PQ {i:Nat}{x:aB}{px spos:cE}(m:Md)(hc:X.calm=true)(hN:X.N.Nodup)(hi':X.N[i]?=some x)(hx:mH X.env.scope x)(S:CompScope X N cap sc)(hT:TOk T)(hi:DI X tg iter fi)(hb:VE X N sc tg elt ifs T t f)
  (hsw:qL (.ListComp elt [⟨tg,iter,ifs,0⟩] sc pos) (some (.Name x px)) spos.line X.env=pure true:=by rfl)
  (hs : ∀ x,sL iter X.env x=pure x:=by intro _; rfl) (hf:X.fn x=true \/ X.env.scope.names.lookup x=some .local:=by first | exact .inl rfl | exact .inr rfl | assumption) :
  DS X H0 P0 n0 (.Assign [.Name x px] (.ListComp elt [⟨tg,iter,ifs,0⟩] sc pos) spos) (bL i 1 m (eLC cap fi T t f)):=PS.imp (Tv hc hN hi' hx S hi (g:=tGB X.K T) (tc:=tTF X.K t) (te:=tF X.K 0 f) hb hsw hs hf) fun D σ H gh=>by
 obtain⟨B0,ρ,fp,o,S,ef,k⟩:=gh
 obtain⟨d,e1,ef⟩:=XBs ef
 obtain⟨hl,rfl⟩:=dU ef
 refine MM hT σ H _ (FJ m σ H _ ⟨B0,ρ,fp,d,S,e1,fun v H' t=>?_⟩)
 obtain⟨fp',S'⟩:=t.set hl
 exact k _ _ fp' S'
end
noncomputable def outD:Option Out->Option aA
 | some (.rt d)=>some d
 | some (.nx _)=>some .none
 | _=>none
noncomputable def fnD (np n:Nat)(body:SF):List aA->Option aA:=fun ds=>if ds.length=np then outD (body (ds.map (fun d=>some (0,d))++mC (n - np) none)) else none
noncomputable def spF (K:aK)(n0:Nat)(F:List aA->Option aA):Sp:=fun vs H Q _=>∃ P ds d,Hid P H/\Aau K (hid H P) ds vs/\F ds=some d/\Res K P n0 d H Q
section
variable {P:bQ}{w:bB}{K:aK}{mg:aB->Option aE}{base:aW}
theorem dR {x qual:aB}{st:bP}{f:aD}{fd:fX}{N ps:List aB}{k n0 np:Nat}{body:SF}(F:Fun K x qual st f fd)(S:FnScope N ps (bJ st))(hnp:np=ps.length)(hN:ps.length≤N.length)
  (hb : ∀ (cdv:aE) (A:cF) (outer:List eU) (s:aG) (H:Hp) (E:XK) (P0:aD->Prop),Room k (A.deeper (iQ qual (bJ st) s.heap.objs.size f cdv))->DSs (jJ CX0 P w K mg base N qual (bJ st) f cdv A outer s H E).nox H P0 n0 (iZ st) body) :
  FnOk P w K mg base CX0 (k+1) f fd ps (spF K n0 (fnD np N.length body)):=by
 refine F.ok S (fun vs H Q E h=>?_) (fun cdv A outer s H vs Q E hr h=>?_)
 ·obtain⟨P,ds,d,_,r,ef,_⟩:=h
  unfold fnD at ef
  by_cases hl:ds.length=np
  ·rw[r.length,hl,hnp]
  ·rw[if_neg hl] at ef; cases ef
 ·obtain⟨P0,ds,d,hP,r,ef,k⟩:=h
  refine⟨_,hb cdv A outer s H E P0 hr,?_⟩
  unfold fnD at ef
  by_cases hl:ds.length=np
  case neg=>rw[if_neg hl] at ef; cases ef
  rw[if_pos hl] at ef
  rw[← hl] at ef
  have hlen:=r.length
  have S0:Sta K H P0 (hid H P0) (ds.map (fun d=>some (0,d))++mC (N.length - ds.length) none) (start N vs) H (fun _=>[]):=by
   have eH:Hd P0 (fun _=>[])=P0:=by
    funext a
    simp[Hd]
   refine⟨by simp[start,hlen],fun _=>.nil,fun i j a h=>by simp at h,fun i a h=>by simp at h,Ext.refl,hP,by rw[eH]; exact Ext.refl,fun i n' d' e=>?_⟩
   rw[eH]
   by_cases hi:i<ds.length
   ·rw[qW (by simpa using hi),fK] at e
    cases q:ds[i]? with
    | none=>rw[q] at e; simp at e
    | some d2=>
     rw[q] at e
     have e':0=n'/\d2=d':=by simpa using e
     obtain⟨rfl,rfl⟩:=e'
     obtain⟨v,h1,h2⟩:=r.get q
     refine⟨v,?_,rfl,h2⟩
     unfold start
     rw[qW (by rw[dJ,hlen]; exact hi),fK,h1]
     rfl
   ·rw[wH (by simpa using hi)] at e
    have:=gQ e
    simp at this
  cases eb:body (ds.map (fun d=>some (0,d))++mC (N.length - ds.length) none) with
  | none=>rw[eb] at ef; cases ef
  | some o=>
   rw[eb] at ef
   refine⟨_,_,_,o,S0,eb,?_⟩
   cases o with
   | rt d'=>
    cases ef
    exact fun v H' ⟨Fr,h1,h2,h3,h4⟩=>k v H' Fr h1 h2 h3 h4
   | nx ρ'=>
    cases ef
    intro σ' H' fp' S'
    refine k .non H' [] S'.ext .nil (fun a m=>by simp at m) ?_
    cases n0 with
    | zero=>exact⟨rfl,Abq.mpr rfl⟩
    | succ n=>
     unfold Akd
     split
     ·exact .inl ⟨rfl,rfl,rfl⟩
     ·exact⟨rfl,Abq.mpr rfl⟩
   | bk _=>cases ef
   | ct _=>cases ef
variable {X:Cx}{x:aB}{k n0 np:Nat}{ps:List aB}{F:List aA->Option aA}{e:aX}{es:List aX}{fa:AF}{p pos:cE}
theorem bU (D:Def X.prog X.w X.K X.mg X.base x k ps (spF X.K n0 F))(hr:Room k X.A)(hg:Gl X x)(ha:DA X (e::es) fa)(hdb:(x == ("__debug__" : aB))=false:=by decide)(he:bM (e::es) X.env=(false,cD e X.env)::bM es X.env:=by rfl)
  (hpl:(eX pos (bM es X.env)).any (·.1)=false:=by rfl):DF n0 X (.Call (.Name x p) (e::es) [] pos) (aL F fa):=
 PE.imp (Fw D hr hg ha hdb he hpl) fun σ H Q gh=>by
  obtain⟨P,ρ,d,hP,rs,ef,k⟩:=gh
  obtain⟨ds,e1,ef⟩:=XBs ef
  refine⟨P,ρ,ds,hP,rs,e1,fun vs H1 x1 r1=>?_⟩
  show spF X.K n0 F (vs++[]) H1 Q E0
  rw[oD]
  exact⟨P,ds,d,hP.ext x1,r1,ef,k.mono x1⟩
end
noncomputable def g2I (g:Int->Int->aA):aA->aA->Option aA
 | .int i,.int j=>some (g i j)
 | _,_=>none
noncomputable def g2C (C:Int->Int->Prop)[∀ i j,Decidable (C i j)](g:Int->Int->aA):aA->aA->Option aA
 | .int i,.int j=>if C i j then some (g i j) else none
 | _,_=>none
section
variable {K:aK}
theorem UX {g:Int->Int->V}{gd:Int->Int->aA}(h : ∀ i j H,Aby K H (gd i j) (g i j)):OpD K 0 (rI0 g) (g2I gd):=fun P H x y a b d Q hP ra rb e k=>by
 unfold g2I at e
 split at e
 ·rename_i i j
  cases e
  exact⟨i,j,Aaq.mp ra,Aaq.mp rb,k.zero Ext.refl (h i j _)⟩
 ·cases e
theorem DR {C C':Int->Int->Prop}[∀ i j,Decidable (C' i j)]{g:Int->Int->V}{gd:Int->Int->aA}(hC : ∀ i j,C' i j->C i j)(h : ∀ i j H,Aby K H (gd i j) (g i j)):OpD K 0 (rI C g) (g2C C' gd):=fun P H x y a b d Q hP ra rb e k=>by
 unfold g2C at e
 split at e
 ·rename_i i j
  obtain⟨hc,rfl⟩:=dU e
  exact⟨i,j,Aaq.mp ra,Aaq.mp rb,hC i j hc,k.zero Ext.refl (h i j _)⟩
 ·cases e
end
section
variable {X:Cx}{a b c:aX}{fa fb fc:EF}{pos:cE}
noncomputable def pT:aA->aA->Option aA:=g2I fun i j=>.int (i - j)
theorem wZ (ha:DE X a fa)(hb:DE X b fb):DE X (.BinOp a .Sub b pos) (eOp pT fa fb):=rE Eh (UX fun _ _ _=>Aaq.mpr rfl) ha hb
noncomputable def fN:aA->aA->Option aA:=g2C (fun i j=>(i.natAbs<2 ^ 64 \/ j.natAbs<2 ^ 64) \/ (i.natAbs<2 ^ 1000/\j.natAbs<2 ^ 1000)) fun i j=>.int (i*j)
theorem Vd:OpR X (lC .Mult) (rI (fun i j=>(i.natAbs<2 ^ 64 \/ j.natAbs<2 ^ 64) \/ (i.natAbs<2 ^ 1000/\j.natAbs<2 ^ 1000)) fun i j=>.int (i*j)):=by
 intro pins s σ H x y v u Q I rx ry h
 obtain⟨i,j,ex,ey,hc,q⟩:=h
 rcases hc with hc | hc
 ·refine En pins s σ H x y v u Q I rx ry ⟨i,j,ex,ey,?_,q⟩
  rcases hc with hc | hc
  ·exact .inl ⟨by omega,by omega⟩
  ·exact .inr ⟨by omega,by omega⟩
 ·exact Jf pins s σ H x y v u Q I rx ry ⟨i,j,ex,ey,hc,q⟩
theorem kY (ha:DE X a fa)(hb:DE X b fb):DE X (.BinOp a .Mult b pos) (eOp fN fa fb):=rE Vd (DR (fun _ _ h=>h) fun _ _ _=>Aaq.mpr rfl) ha hb
noncomputable def iC:aA->aA->Option aA:=g2C (fun _ j=>0<j/\j<1073741824) fun i j=>.int (i / j)
theorem rR (ha:DE X a fa)(hb:DE X b fb):DE X (.BinOp a .FloorDiv b pos) (eOp iC fa fb):=rE Gx (DR (fun _ _ h=>h) fun _ _ _=>Aaq.mpr rfl) ha hb
noncomputable def bT:aA->aA->Option aA:=g2C (fun _ j=>0<j) fun i j=>.int (i%j)
theorem eI (ha:DE X a fa)(hb:DE X b fb):DE X (.BinOp a .Mod b pos) (eOp bT fa fb):=rE Dn (DR (fun _ _ h=>h) fun _ _ _=>Aaq.mpr rfl) ha hb
noncomputable def oY:aA->aA->Option aA:=g2C (fun i j=>0≤j/\j≤1000000/\i.natAbs<2 ^ 64) fun i j=>.int (i ^ j.toNat)
theorem AU (ha:DE X a fa)(hb:DE X b fb):DE X (.BinOp a .Pow b pos) (eOp oY fa fb):=rE Fg (DR (fun _ _ h=>h) fun _ _ _=>Aaq.mpr rfl) ha hb
noncomputable def AJ:aA->Option aA
 | .int i=>some (.int (-i))
 | _=>none
theorem Fq (ha:DE X a fa):DE X (.UnaryOp .USub a pos) (eUn AJ fa):=Bo Gf (fun P H x a d Q hP r e k=>by
 unfold AJ at e
 split at e
 ·cases e
  exact⟨_,Aaq.mp r,k.zero Ext.refl (Aaq.mpr rfl)⟩
 ·cases e) ha
theorem IF {x y:aB}(hx:cA (.str x)=true)(hy:cA (.str y)=true):cA (.str (x++y))=true:=by
 have e:(x++y).cps=x.cps++y.cps:=rfl
 simp only[cA,sN] at hx hy ⊢
 rw[e,ZX,hx,hy]
 rfl
noncomputable def bS:aA->aA->Option aA
 | .int i,.int j=>some (.int (i+j))
 | .str x,.str y=>if x.length+y.length≤sizeLine then some (.str (x++y)) else none
 | .tuple (x::xs),.tuple ys=>if (x::xs).length+ys.length≤sizeLine then some (.tuple ((x::xs)++ys)) else none
 | _,_=>none
theorem Gw {K:aK}:OpD K 0 (fun x y H Q=>rI0 (fun i j=>.int (i+j)) x y H Q \/ (∃ i j,x = .str i/\y = .str j/\i.length+j.length≤sizeLine/\Q (.str (i++j)) H) \/ JB K x y H Q) bS:=fun P H x y a b d Q hP ra rb e k=>by
 unfold bS at e
 split at e
 ·rename_i i j
  cases e
  exact .inl ⟨i,j,Aaq.mp ra,Aaq.mp rb,k.zero Ext.refl (Aaq.mpr rfl)⟩
 ·rename_i i j
  obtain⟨hc,rfl⟩:=dU e
  exact .inr (.inl ⟨i,j,(Aan.mp ra).1,(Aan.mp rb).1,hc,k.zero Ext.refl (Aan.mpr ⟨rfl,IF (Aan.mp ra).2 (Aan.mp rb).2⟩)⟩)
 ·rename_i z zs ys
  obtain⟨hc,rfl⟩:=dU e
  obtain⟨p,us,rfl,hp,r1⟩:=Aa0.mp ra
  obtain⟨q,ws,rfl,hq,r2⟩:=Aa0.mp rb
  have l1:=r1.length
  have l2:=r2.length
  refine .inr (.inr ⟨p,q,us,ws,rfl,rfl,SqT.of (Aa9 _ _ hp),SqT.of (Aa9 _ _ hq),fun z=>by rw[z] at l1; simp at l1,by rw[l1,l2]; exact hc,fun z=>?_,fun z r hr=>?_⟩)
  ·subst z
   have:ys=[]:=by simpa using l2.symm
   subst this
   refine k.zero Ext.refl ?_
   rw[oD]
   exact ra
  ·exact k.tup hP hr (r1.append r2)
 ·cases e
theorem dC (ha:DE X a fa)(hb:DE X b fb):DE X (.BinOp a .Add b pos) (eOp bS fa fb):=rE (Bc8.or (Aw5.or A2b)) Gw ha hb
mutual
noncomputable def noDict:aA->Bool
 | .dict _=>false
 | .list ds=>noDicts ds
 | .tuple ds=>noDicts ds
 | _=>true
noncomputable def noDicts:List aA->Bool
 | []=>true
 | d::r=>noDict d&&noDicts r
end
mutual
theorem pZ {X:Cx}{pins:List (aD×aY)}{σ:St}{H:Hp}{s:aG}(I:Inv X pins σ H s) : ∀ {d:aA} {v:V} {u:aE},noDict d=true->Aby X.K H d v->RelV v u->d.canLay0=true /\ ∃ as,lD s.heap u d as
 | .none,v,u,_,h,r=>by
  obtain rfl:=Abq.mp h
  cases r; exact⟨by simp[cA],_,.none⟩
 | .bool b,v,u,_,h,r=>by
  obtain rfl:=Aar.mp h
  cases r; exact⟨by simp[cA],_,.bool b⟩
 | .int i,v,u,_,h,r=>by
  obtain rfl:=Aaq.mp h
  obtain⟨t,rfl⟩:=r; exact⟨by simp[cA],_,.int i t⟩
 | .str x,v,u,_,h,r=>by
  obtain⟨rfl,hl⟩:=Aan.mp h
  obtain⟨t,rfl⟩:=r; exact⟨hl,_,.str x t⟩
 | .list ds,v,u,n,h,r=>by
  obtain⟨a,xs,rfl,hs,hr⟩:=Abn.mp h
  cases r
  obtain⟨its,rv,⟨o,m,e,hc,_,hd⟩,_⟩:=I.list hs
  obtain⟨hl,as,ha⟩:=IP I (by simpa [noDict] using n) hr rv
  exact⟨by simpa [cA] using hl,_,.list e hc hd (by simpa using ha)⟩
 | .tuple ds,v,u,n,h,r=>by
  obtain⟨a,xs,rfl,hs,hr⟩:=Aa0.mp h
  cases r
  obtain⟨its,rv,⟨o,e,hc,m,hd⟩,_⟩:=I.tuple (SqT.of hs)
  obtain⟨hl,as,ha⟩:=IP I (by simpa [noDict] using n) hr rv
  exact⟨by simpa [cA] using hl,_,.tuple e hc hd (by simpa using ha)⟩
 | .dict _,_,_,n,h,_=>by simp[noDict] at n
theorem IP {X:Cx}{pins:List (aD×aY)}{σ:St}{H:Hp}{s:aG}(I:Inv X pins σ H s) : ∀ {ds:List aA} {vs:List V} {us:List aE},noDicts ds=true->Aau X.K H ds vs->Vals vs us->zO ds=true /\ ∃ as,mZ s.heap us ds as
 | [],vs,us,_,h,r=>by
  obtain rfl:=Aat.mp h
  cases r; exact⟨by simp[zO],_,.nil⟩
 | d::ds,vs,us,n,h,r=>by
  have n':noDict d=true/\noDicts ds=true:=by simpa [noDicts] using n
  obtain⟨x,rr,rfl,h1,h2⟩:=Aal.mp h
  cases r with
  | cons r1 r2=>
   obtain⟨l1,as,ha⟩:=pZ I n'.1 h1 r1
   obtain⟨l2,bs,hb⟩:=IP I n'.2 h2 r2
   exact⟨by simp[zO,l1,l2],_,.cons ha hb⟩
end
noncomputable def dE (d:aA):Bool:=noDict d&&decide (d.depth≤60)
noncomputable def gEq:aA->aA->Option aA:=fun a b=>if (dE a&&dE b)=true then some (.bool (cP a b)) else none
noncomputable def gNe:aA->aA->Option aA:=fun a b=>if (dE a&&dE b)=true then some (.bool (!cP a b)) else none
noncomputable def AK (K:aK)(neg:Bool):R2:=fun x y H Q=>∃ da db,Aby K H da x/\Aby K H db y/\dE da=true/\dE db=true/\Q (.bl (neg != cP da db)) H
theorem jN (hu:X.A.units+100<cLine):OpR X (iH .Eq) (AK X.K false):=by
 intro pins s σ H x y v u Q I rx ry h
 obtain⟨da,db,ra,rb,fa,fb,q⟩:=h
 have fa':noDict da=true/\da.depth≤60:=by simpa [dE] using fa
 have fb':noDict db=true/\db.depth≤60:=by simpa [dE] using fb
 obtain⟨la,as,ra⟩:=pZ I fa'.1 ra rx
 obtain⟨lb,bs,rb⟩:=pZ I fb'.1 rb ry
 exact SeqAt.compareEq_reads ra rb la lb (by omega) ⟨.bl _,H,I,rfl,by simpa using q⟩
theorem FW (hu:X.A.units+100<cLine):OpR X (iH .NotEq) (AK X.K true):=by
 intro pins s σ H x y v u Q I rx ry h
 obtain⟨da,db,ra,rb,fa,fb,q⟩:=h
 have fa':noDict da=true/\da.depth≤60:=by simpa [dE] using fa
 have fb':noDict db=true/\db.depth≤60:=by simpa [dE] using fb
 obtain⟨la,as,ra⟩:=pZ I fa'.1 ra rx
 obtain⟨lb,bs,rb⟩:=pZ I fb'.1 rb ry
 exact SeqAt.compareNe_reads ra rb la lb (by omega) ⟨.bl _,H,I,rfl,by simpa using q⟩
theorem jO {K:aK}:OpD K 0 (AK K false) gEq:=fun P H x y a b d Q hP ra rb e k=>by
 obtain⟨hc,rfl⟩:=dU e
 have hc':dE a=true/\dE b=true:=by simpa using hc
 exact⟨a,b,ra.ext Aa9,rb.ext Aa9,hc'.1,hc'.2,k.zero Ext.refl (Aar.mpr (by simp))⟩
theorem FY {K:aK}:OpD K 0 (AK K true) gNe:=fun P H x y a b d Q hP ra rb e k=>by
 obtain⟨hc,rfl⟩:=dU e
 have hc':dE a=true/\dE b=true:=by simpa using hc
 exact⟨a,b,ra.ext Aa9,rb.ext Aa9,hc'.1,hc'.2,k.zero Ext.refl (Aar.mpr (by simp))⟩
noncomputable def LU (K:aK)(neg:Bool):R2:=fun x y H Q=>∃ d ds,Aby K H d x/\(Aby K H (.list ds) y \/ Aby K H (.tuple ds) y)/\dE d=true/\noDicts ds=true/\Q (.bl (neg != ds.any fun z=>cP z d)) H
theorem Ga (hu:X.A.units+100<cLine):OpR X (iH .In) (LU X.K false):=by
 intro pins s σ H x y v u Q I rx ry h
 obtain⟨d,ds,ra,rb,fa,fb,q⟩:=h
 have fa':noDict d=true/\d.depth≤60:=by simpa [dE] using fa
 obtain⟨la,as,ra⟩:=pZ I fa'.1 ra rx
 rcases rb with rb | rb
 ·obtain⟨lb,bs,rb⟩:=pZ I (by simpa [noDict] using fb) rb ry
  exact SeqAt.in_list_reads rb ra (by simpa [cA] using lb) la (by omega) ⟨.bl _,H,I,rfl,by simpa using q⟩
 ·obtain⟨lb,bs,rb⟩:=pZ I (by simpa [noDict] using fb) rb ry
  exact SeqAt.in_tuple_reads rb ra (by simpa [cA] using lb) la (by omega) ⟨.bl _,H,I,rfl,by simpa using q⟩
end
theorem PE.or {X:Cx}{e:aX}{t t':TE}(h:PE X e t)(h':PE X e t'):PE X e (fun σ H Q=>t σ H Q \/ t' σ H Q):=fun pins s σ H Q I q=>q.elim (h pins s σ H Q I) (h' pins s σ H Q I)
noncomputable def gLt:aA->aA->Option aA
 | .int i,.int j=>some (.bool (decide (i<j)))
 | .str i,.str j=>some (.bool (decide (i.cps.toList<j.cps.toList)))
 | _,_=>none
noncomputable def gLe:aA->aA->Option aA
 | .int i,.int j=>some (.bool (decide (i≤j)))
 | .str i,.str j=>some (.bool (!(decide (j.cps.toList<i.cps.toList))))
 | _,_=>none
noncomputable def gGt:aA->aA->Option aA:=g2I fun i j=>.bool (decide (j<i))
section
variable {K:aK}
theorem AM:OpD K 0 (fun x y H Q=>rI0 (fun i j=>.bl (decide (i<j))) x y H Q \/ ∃ i j,x = .str i/\y = .str j/\Q (.bl (decide (i.cps.toList<j.cps.toList))) H) gLt:=fun P H x y a b d Q hP ra rb e k=>by
 unfold gLt at e
 split at e
 ·cases e
  exact .inl ⟨_,_,Aaq.mp ra,Aaq.mp rb,k.zero Ext.refl (Aar.mpr rfl)⟩
 ·cases e
  exact .inr ⟨_,_,(Aan.mp ra).1,(Aan.mp rb).1,k.zero Ext.refl (Aar.mpr rfl)⟩
 ·cases e
theorem rM:OpD K 0 (fun x y H Q=>rI0 (fun i j=>.bl (decide (i≤j))) x y H Q \/ LS x y H Q) gLe:=fun P H x y a b d Q hP ra rb e k=>by
 unfold gLe at e
 split at e
 ·cases e
  exact .inl ⟨_,_,Aaq.mp ra,Aaq.mp rb,k.zero Ext.refl (Aar.mpr rfl)⟩
 ·cases e
  exact .inr ⟨_,_,(Aan.mp ra).1,(Aan.mp rb).1,k.zero Ext.refl (Aar.mpr rfl)⟩
 ·cases e
theorem nE:OpD K 0 (rI0 fun i j=>.bl (decide (j<i))) gGt:=UX fun _ _ _=>Aar.mpr rfl
noncomputable def FF:aA->aA->Option aA
 | .none,.none=>some (.bool true)
 | _,.none=>some (.bool false)
 | _,_=>none
theorem Vp {H:Hp}{a:aA}{x:V}(r:Aby K H a x):decide (x = .non)=(match a with | .none=>true | _=>false):=by
 cases a with
 | none=>obtain rfl:=Abq.mp r; rfl
 | bool b=>obtain rfl:=Aar.mp r; rfl
 | int b=>obtain rfl:=Aaq.mp r; rfl
 | str b=>obtain⟨rfl,_⟩:=Aan.mp r; rfl
 | list b=>obtain⟨_,_,rfl,_⟩:=Abn.mp r; rfl
 | tuple b=>obtain⟨_,_,rfl,_⟩:=Aa0.mp r; rfl
 | dict b=>obtain⟨_,rfl,_⟩:=Ab9.mp r; rfl
theorem Gv:OpD K 0 (fun x y H Q=>y = .non/\Q (.bl (decide (x = .non))) H) FF:=fun P H x y a b d Q hP ra rb e k=>by
 have q:=Vp ra
 unfold FF at e
 split at e
 ·cases e
  exact⟨Abq.mp rb,k.zero Ext.refl (Aar.mpr (by rw[q]))⟩
 ·rename_i h
  cases e
  refine⟨Abq.mp rb,k.zero Ext.refl (Aar.mpr ?_)⟩
  rw[q]
  cases a <;> first | rfl | exact(h rfl).elim
 ·cases e
end
noncomputable def fO:aA->Option aO
 | .int i=>some (.inl i)
 | .str x=>some (.inr x)
 | _=>none
theorem SA {d:aA}{k:aO}(h:fO d=some k):d=kD k:=by
 cases d <;> simp[fO] at h <;> subst h <;> rfl
noncomputable def iX (kds:List (aA×aA))(k:aO):Option aA:=(kds.find? fun kd=>decide (fO kd.1=some k)).map (·.2)
theorem xM (k:aO):fO (kD k)=some k:=by cases k <;> rfl
theorem HQ {K:aK}{H:Hp}{k:aO} : ∀ {kds:List (aA×aA)} {kvs:List (aO×V)},Acq K H kds kvs->(iX kds k=none/\jC kvs k=none) \/ ∃ d v,iX kds k=some d/\jC kvs k=some v/\Aby K H d v
 | [],kvs,h=>by rw[Acp.mp h]; exact .inl ⟨rfl,rfl⟩
 | (k0,d)::r,kvs,h=>by
  obtain⟨k',x,rr,rfl,rfl,h1,h2⟩:=Abh.mp h
  by_cases e:k'=k
  ·refine .inr ⟨d,x,?_,xN e,h1⟩
   simp[iX,oA,xM,e]
  ·have e1:iX ((kD k',d)::r) k=iX r k:=by simp[iX,oA,xM,e]
   rw[e1,xP e]
   exact HQ h2
theorem UC {K:aK}{H:Hp}{k:aO} : ∀ {kds:List (aA×aA)} {kvs:List (List aA×V)},Ad1 K H kds kvs->iX kds k=none
 | [],kvs,h=>rfl
 | (k0,d)::r,kvs,h=>by
  obtain⟨k',x,rr,rfl,⟨rfl,_⟩,h1,h2⟩:=Ade.mp h
  have e1:iX ((.tuple k',d)::r) k=iX r k:=by simp[iX,oA,fO]
  rw[e1]
  exact UC h2
theorem Sy {K:aK}{H:Hp}{k:aO}{kds:List (aA×aA)}{v:V}{d:aA}(h:Aby K H (.dict kds) v)(e:iX kds k=some d) : ∃ a,∃ kvs:Nat×List (aO×V),v = .ref a/\H a=some (.dK kvs.1 kvs.2)/\Acq K H kds kvs.2:=by
 obtain⟨a,ev,⟨kvs,h1,r⟩ | ⟨ts,h1,r⟩ | ⟨xs,h1,r⟩ | r⟩:=Ab9.mp h
 case inr.inr.inr=>
  obtain⟨_,_,rfl⟩:=r.mark
  cases e
 case inr.inr.inl=>
  obtain⟨es,rfl,_⟩:=BY r
  cases e
 ·exact⟨a,kvs,ev,h1,r⟩
 ·cases kds with
  | nil=>simp[Ayo] at r
  | cons p q=>
   obtain⟨k0,m⟩:=p
   obtain⟨rfl,r2⟩:=Ae6.mp r
   have e1:iX ((.none,m)::q) k=iX q k:=by simp[iX,oA,fO]
   rw[e1,UC r2] at e
   cases e
noncomputable def rG (kds:List (aA×aA))(k:List aA):Option aA:=(kds.find? fun kd=>cP kd.1 (.tuple k)).map (·.2)
theorem Ig (a b:List aA):cP (.tuple a) (.tuple b)=zN a b:=by simp[cP]
theorem Mc {a k:List aA}{d:aA}{r:List (aA×aA)}(ha:cC a=true)(hk:cC k=true):rG ((.tuple a,d)::r) k=if a=k then some d else rG r k:=by
 have e:cP (.tuple a) (.tuple k)=decide (a=k):=by rw[Ig,CC _ _ ha hk]
 unfold rG
 rw[oA,e]
 by_cases h:a=k
 ·rw[if_pos h,decide_eq_true h]; rfl
 ·rw[if_neg h,decide_eq_false h]
theorem QL {K:aK}{H:Hp}{k:List aA}(hk:cC k=true) : ∀ {kds:List (aA×aA)} {kvs:List (List aA×V)},Ad1 K H kds kvs->(rG kds k=none/\jC kvs k=none) \/ ∃ d v,rG kds k=some d/\jC kvs k=some v/\Aby K H d v
 | [],kvs,h=>by rw[Afj.mp h]; exact .inl ⟨rfl,rfl⟩
 | (k0,d)::r,kvs,h=>by
  obtain⟨k',x,rr,rfl,⟨rfl,hk'⟩,h1,h2⟩:=Ade.mp h
  rw[Mc hk' hk]
  by_cases e:k'=k
  ·rw[if_pos e]
   exact .inr ⟨d,x,rfl,xN e,h1⟩
  ·rw[if_neg e,xP e]
   exact QL hk h2
noncomputable def putD (kds:List (aA×aA))(k:aO)(d:aA):List (aA×aA):=
 if (kds.any fun kd=>decide (fO kd.1=some k))=true then kds.map fun kd=>if fO kd.1=some k then(kd.1,d) else kd else kds++[(kD k,d)]
theorem XD {K:aK}{H:Hp}{k:aO} : ∀ {kds:List (aA×aA)} {kvs:List (aO×V)},Acq K H kds kvs->(kds.any fun kd=>decide (fO kd.1=some k))=kvs.any fun kv=>decide (kv.1=k)
 | [],kvs,h=>by rw[Acp.mp h]; rfl
 | (k0,d)::r,kvs,h=>by
  obtain⟨k',x,rr,rfl,rfl,h1,h2⟩:=Abh.mp h
  rw[zW,zW,XD h2,xM]
  simp
theorem GW {K:aK}{H:Hp}{k:aO}{d:aA}{v:V}(rv:Aby K H d v) : ∀ {kds:List (aA×aA)} {kvs:List (aO×V)},Acq K H kds kvs ->
  Acq K H (kds.map fun kd=>if fO kd.1=some k then(kd.1,d) else kd) (kvs.map fun kv=>if kv.1=k then(kv.1,v) else kv)
 | [],kvs,h=>by rw[Acp.mp h]; exact Acp.mpr rfl
 | (k0,d0)::r,kvs,h=>by
  obtain⟨k',x,rr,rfl,rfl,h1,h2⟩:=Abh.mp h
  rw[fE,fE]
  by_cases e:k'=k
  ·rw[if_pos (show fO (kD k',d0).1=some k by rw[xM,e]),if_pos (show(k',x).1=k from e)]
   exact Abh.mpr ⟨k',v,_,rfl,rfl,rv,GW rv h2⟩
  ·rw[if_neg (show ¬ fO (kD k',d0).1=some k by rw[xM]; simpa using e),if_neg (show ¬ (k',x).1=k from e)]
   exact Abh.mpr ⟨k',x,_,rfl,rfl,h1,GW rv h2⟩
theorem Acq.snoc {K:aK}{H:Hp}{k:aO}{d:aA}{v:V}(rv:Aby K H d v) : ∀ {kds:List (aA×aA)} {kvs:List (aO×V)},Acq K H kds kvs->Acq K H (kds++[(kD k,d)]) (kvs++[(k,v)])
 | [],kvs,h=>by rw[Acp.mp h]; exact Abh.mpr ⟨k,v,[],rfl,rfl,rv,Acp.mpr rfl⟩
 | (k0,d0)::r,kvs,h=>by
  obtain⟨k',x,rr,rfl,rfl,h1,h2⟩:=Abh.mp h
  exact Abh.mpr ⟨k',x,_,rfl,rfl,h1,Acq.snoc rv h2⟩
theorem Hr {K:aK}{H:Hp}{k:aO}{d:aA}{v:V}{kds:List (aA×aA)}{kvs:List (aO×V)}(h:Acq K H kds kvs)(rv:Aby K H d v):Acq K H (putD kds k d) (putK kvs k v):=by
 unfold putD putK
 rw[XD h]
 by_cases q:(kvs.any fun kv=>decide (kv.1=k))=true
 ·rw[if_pos q,if_pos q]; exact GW rv h
 ·rw[if_neg q,if_neg q]; exact Acq.snoc rv h
theorem Acq.length {K:aK}{H:Hp} : ∀ {kds:List (aA×aA)} {kvs:List (aO×V)},Acq K H kds kvs->kvs.length=kds.length
 | [],kvs,h=>by rw[Acp.mp h]; rfl
 | (k0,d0)::r,kvs,h=>by
  obtain⟨k',x,rr,rfl,rfl,h1,h2⟩:=Abh.mp h
  rw[fF,fF,Acq.length h2]
theorem CD {K:aK}{H:Hp}{d:aA}{x:V}{k:aO}(h:fO d=some k)(r:Aby K H d x):x=kV k:=by
 rw[SA h] at r
 exact Oj r
noncomputable def gIx:aA->aA->Option aA
 | .list ds,.int i=>atI ds i
 | .tuple ds,.int i=>atI ds i
 | .str z,.int i=>if z.length≤sizeLine then(atI z.cps.toList i).bind fun c=>some (.str ⟨#[c]⟩) else none
 | .dict kds,d=>(fO d).bind fun k=>iX kds k
 | _,_=>none
theorem XI {K:aK}{H:Hp}{ds:List aA}{xs:List V}{i:Int}{d:aA}(r:Aau K H ds xs)(h:atI ds i=some d) : ∃ v,atI xs i=some v/\Aby K H d v:=by
 unfold atI at h ⊢
 rw[r.length]
 obtain⟨j,h1,h2⟩:=XBs h
 obtain⟨v,h3,h4⟩:=r.get h2
 exact⟨v,by rw[h1]; exact h3,h4⟩
theorem Gn {α:Type}{xs:List α}{i:Int}{x:α}(h:atI xs i=some x) : ∃ j:Nat,xs[j]?=some x:=by
 unfold atI at h
 obtain⟨j,h1,h2⟩:=XBs h
 exact⟨j,h2⟩
section
variable {X:Cx}{a b e:aX}{es:List aX}{fa fb f:EF}{pos p:cE}
theorem cM (hu:X.A.units+40<cLine)(ha:DE X a fa)(hb:DE X b fb)(hs:WL b):DE X (.Subscript a b pos) (eOp gIx fa fb):=PE.imp (PE.or (Cz Hk ha hb hs) (Jp hu ha hb hs)) fun σ H Q h=>by
 obtain⟨P,ρ,d,hP,rs,ef,k⟩:=h
 obtain⟨d1,e1,ef2⟩:=XBs ef
 obtain⟨d2,e2,ef3⟩:=XBs ef2
 clear ef ef2
 have seq:(∀ (H2:Hp) (v u:V),Ext H H2->Aby X.K (hid H2 P) d1 v->Aby X.K (hid H2 P) d2 u->rIx X.K v u H2 Q)->tOp (rIx X.K) (tF X.K 0 fa) (tF X.K 0 fb) σ H Q:=fun z=>
  ⟨P,ρ,d1,hP,rs,e1,cY fun v H1 x1 r1=>⟨P,ρ,d2,hP.ext x1,rs.ext (cS x1),e2,cY fun u H2 x2 r2=>z H2 v u (x1.trans x2) (r1.ext (cS x2)) r2⟩⟩
 cases d1 with
 | list ds=>
  cases d2 with
  | int i=>
   refine .inl (seq fun H2 v u x r1 r2=>.inl ?_)
   obtain⟨q,xs,rfl,hq,rr⟩:=Abn.mp r1
   obtain⟨w,h1,h2⟩:=XI rr (show atI ds i=some d from ef3)
   exact⟨q,xs,i,w,rfl,Aaq.mp r2,Aa9.sqL hq,h1,k.zero x h2⟩
  | _=>cases ef3
 | tuple ds=>
  cases d2 with
  | int i=>
   refine .inl (seq fun H2 v u x r1 r2=>.inr (.inl ?_))
   obtain⟨q,xs,rfl,hq,rr⟩:=Aa0.mp r1
   obtain⟨w,h1,h2⟩:=XI rr (show atI ds i=some d from ef3)
   exact⟨q,xs,i,w,rfl,Aaq.mp r2,SqT.of (Aa9 _ _ hq),h1,k.zero x h2⟩
  | _=>cases ef3
 | str z=>
  cases d2 with
  | int i=>
   have ef3:(if z.length≤sizeLine then(atI z.cps.toList i).bind fun c=>some (.str ⟨#[c]⟩) else none)=some d:=ef3
   by_cases hz:z.length≤sizeLine
   ·rw[if_pos hz] at ef3
    obtain⟨c,h1,h2⟩:=XBs ef3
    cases h2
    obtain⟨j,hj⟩:=Gn h1
    refine .inl (seq fun H2 v u x r1 r2=>.inr (.inr ⟨z,i,c,(Aan.mp r1).1,Aaq.mp r2,hz,h1,k.zero x (Aan.mpr ⟨rfl,GZ (Aan.mp r1).2 hj⟩)⟩))
   ·rw[if_neg hz] at ef3; cases ef3
  | _=>cases ef3
 | dict kds=>
  obtain⟨kk,h1,h2⟩:=XBs (show((fO d2).bind fun k=>iX kds k)=some d by cases d2 <;> exact ef3)
  refine .inr ⟨P,ρ,_,hP,rs,e1,cY fun v H1 x1 r1=>⟨P,ρ,d2,hP.ext x1,rs.ext (cS x1),e2,cY fun u H2 x2 r2=>?_⟩⟩
  obtain⟨q,kvs,rfl,hq,rr⟩:=Sy (r1.ext (cS x2)) h2
  rcases HQ rr with⟨n1,_⟩ | ⟨d',v',s1,s2,rd⟩
  ·rw[h2] at n1; cases n1
  ·rw[h2] at s1
   cases s1
   refine⟨q,v',rfl,.inl ⟨kvs.1,kvs.2,kk,.inl (Aa9 _ _ hq),CD h1 r2,s2.symm⟩,k.zero (x1.trans x2) rd⟩
 | _=>cases d2 <;> cases ef3
noncomputable def LQ (neg:Bool):aA->List (aA×aA)->Option aA
 | .tuple _,(_,.list _)::_=>none
 | .tuple _,(_,.str _)::_=>none
 | .tuple k,(_,_)::kds=>if (cC k&&decide (dI k≤6))=true then some (.bool (neg != (rG kds k).isSome)) else none
 | _,_=>none
noncomputable def gIn (neg:Bool):aA->aA->Option aA
 | d,.list ds=>if (dE d&&noDicts ds)=true then some (.bool (neg != ds.any fun z=>cP z d)) else none
 | d,.tuple ds=>if (dE d&&noDicts ds)=true then some (.bool (neg != ds.any fun z=>cP z d)) else none
 | .str i,.str j=>some (.bool (neg != !(jU j i 0 j.length 1).isEmpty))
 | d,.dict kds=>if plK kds=true then(fO d).bind fun k=>some (.bool (neg != (iX kds k).isSome)) else LQ neg d kds
 | _,_=>none
noncomputable def VT (K:aK)(neg:Bool):R2:=fun x y H Q=>LU K neg x y H Q \/ (∃ i j,x = .str i/\y = .str j/\Q (.bl (neg != !(jU j i 0 j.length 1).isEmpty)) H) \/ ∃ a o,y = .ref a/\wO H a x o/\Q (.bl (neg != o.isSome)) H
theorem BS (hu:X.A.units+100<cLine):OpR X (iH .In) (VT X.K false):=by
 intro pins s σ H x y v u Q I rx ry h
 rcases h with h | ⟨i,j,ex,ey,q⟩ | ⟨a,o,rfl,g,q⟩
 ·exact Ga hu pins s σ H x y v u Q I rx ry h
 ·exact Ve pins s σ H x y v u Q I rx ry ⟨i,j,ex,ey,by simpa using q⟩
 ·cases ry
  exact Ar (by omega) I g rx fun s' I'=>⟨.bl _,H,I',rfl,by simpa using q⟩
theorem AL {K:aK}{neg:Bool}:OpD K 0 (VT K neg) (gIn neg):=fun P H x y a b d Q hP ra rb e k=>by
 unfold gIn at e
 split at e
 ·obtain⟨hc,rfl⟩:=dU e
  have hc':=oI.mp hc
  exact .inl ⟨a,_,ra.ext Aa9,.inl (rb.ext Aa9),hc'.1,hc'.2,k.zero Ext.refl (Aar.mpr rfl)⟩
 ·obtain⟨hc,rfl⟩:=dU e
  have hc':=oI.mp hc
  exact .inl ⟨a,_,ra.ext Aa9,.inr (rb.ext Aa9),hc'.1,hc'.2,k.zero Ext.refl (Aar.mpr rfl)⟩
 ·cases e
  exact .inr (.inl ⟨_,_,(Aan.mp ra).1,(Aan.mp rb).1,k.zero Ext.refl (Aar.mpr rfl)⟩)
 ·rename_i kds
  by_cases pk:plK kds=true
  case neg=>
   rw[if_neg pk] at e
   have ek : ∃ m r,kds=(.none,m)::r:=by
    cases kds with
    | nil=>simp[plK] at pk
    | cons p r=>
     obtain⟨k0,m⟩:=p
     cases k0 <;> simp[plK] at pk
     exact⟨m,r,rfl⟩
   obtain⟨m,r,rfl⟩:=ek
   cases a with
   | tuple kk=>
    have hm : ∀ es,m ≠ .list es:=by
     rintro es rfl
     cases e
    have hm2 : ∀ c,m ≠ .str c:=by
     rintro c rfl
     cases e
    replace e:(if (cC kk&&decide (dI kk≤6))=true then some (fD (neg != (rG r kk).isSome)) else none)=some d:=by
     cases m with
     | list es=>exact absurd rfl (hm es)
     | str es=>cases e
     | _=>exact e
    obtain⟨hc,rfl⟩:=dU e
    have hc':cC kk=true/\dI kk≤6:=by simpa using hc
    obtain⟨q,ts,rfl,hq,rr⟩:=(uM hm hm2).mp rb
    obtain⟨b,xs,rfl,hb,rx⟩:=Aa0.mp (ra.ext Aa9)
    refine .inr (.inr ⟨q,jC ts.2 kk,rfl,.inr ⟨ts.2,kk,b,⟨_,.inl (Aa9 _ _ hq)⟩,rfl,⟨hc'.1,hc'.2,xs,hb,Aau.keys kk hc'.1 rx⟩,rfl⟩,k.zero Ext.refl (Aar.mpr ?_)⟩)
    rcases QL hc'.1 rr with⟨n1,n2⟩ | ⟨d',v',s1,s2,rd⟩
    ·rw[n1,n2]; rfl
    ·rw[s1,s2]; rfl
   | _=>simp[LQ] at e
  rw[if_pos pk] at e
  obtain⟨kk,h1,h2⟩:=XBs e
  cases h2
  obtain⟨q,kvs,rfl,hq,rr⟩:=(GL pk).mp rb
  refine .inr (.inr ⟨q,jC kvs.2 kk,rfl,.inl ⟨kvs.1,kvs.2,kk,.inl (Aa9 _ _ hq),CD h1 ra,rfl⟩,k.zero Ext.refl (Aar.mpr ?_)⟩)
  rcases HQ rr with⟨n1,n2⟩ | ⟨d',v',s1,s2,rd⟩
  ·rw[n1,n2]; rfl
  ·rw[s1,s2]; rfl
 ·cases e
end
noncomputable def cB:List aA->Option aA
 | [.list ds]=>some (.int ds.length)
 | [.tuple ds]=>some (.int ds.length)
 | [.dict kds]=>if plK kds=true then some (.int kds.length) else none
 | [.str z]=>if z.length≤sizeLine then some (.int z.length) else none
 | _=>none
theorem jA {K:aK}{H:Hp}{d:aA}{xs:List V}(r:Aau K H [d] xs) : ∃ v,xs=[v]/\Aby K H d v:=by
 obtain⟨v,t,rfl,h1,h2⟩:=Aal.mp r
 obtain rfl:=Aat.mp h2
 exact⟨v,rfl,h1⟩
section
variable {X:Cx}
def LM (K:aK):List V->Hp->VK->Prop:=fun xs H Q=>(∃ p ys,xs=[.ref p]/\(SqL K H p ys \/ SqT K H p ys)/\Q (.int ys.length) H) \/ (∃ z,xs=[.str z]/\z.length≤sizeLine/\Q (.int z.length) H) \/ ∃ a ep kvs,xs=[V.ref a]/\H a=some (.dK ep kvs)/\Q (.int kvs.length) H
theorem gG:Aeh X (.builtin "len") (LM X.K):=Aq9.or (Aqr.or Kq)
theorem gH {K:aK}:CallD K 0 (LM K) cB:=fun P H xs ds d Q hP r e k=>by
 unfold cB at e
 split at e
 ·cases e
  obtain⟨v,rfl,r'⟩:=jA r
  replace r:=r'
  obtain⟨q,ys,rfl,hq,rr⟩:=Abn.mp r
  exact .inl ⟨q,ys,rfl,.inl (Aa9.sqL hq),k.zero Ext.refl (Aaq.mpr (by rw[rr.length]))⟩
 ·cases e
  obtain⟨v,rfl,r'⟩:=jA r
  replace r:=r'
  obtain⟨q,ys,rfl,hq,rr⟩:=Aa0.mp r
  exact .inl ⟨q,ys,rfl,.inr (SqT.of (Aa9 _ _ hq)),k.zero Ext.refl (Aaq.mpr (by rw[rr.length]))⟩
 ·obtain⟨pk,rfl⟩:=dU e
  obtain⟨v,rfl,r'⟩:=jA r
  replace r:=r'
  obtain⟨q,ys,rfl,hq,rr⟩:=(GL pk).mp r
  exact .inr (.inr ⟨q,ys.1,ys.2,rfl,Aa9 _ _ hq,k.zero Ext.refl (Aaq.mpr (by rw[rr.length]))⟩)
 ·obtain⟨hz,rfl⟩:=dU e
  obtain⟨v,rfl,r'⟩:=jA r
  replace r:=r'
  exact .inr (.inl ⟨_,by rw[(Aan.mp r).1],hz,k.zero Ext.refl (Aaq.mpr rfl)⟩)
 ·cases e
noncomputable def pS:aA->String
 | .none=>"NoneType"
 | .bool _=>"bool"
 | .int _=>"int"
 | .str _=>"str"
 | .list _=>"list"
 | .tuple _=>"tuple"
 | .dict _=>"dict"
noncomputable def OS:List String:=["int","bool","str","list","tuple","dict"]
theorem Uy (d:aA):pS d∈kinds:=by cases d <;> simp[pS,kinds]
noncomputable def eQ (T:String):aA->Option aA
 | .dict ((.none,.str _)::_)=>none
 | d=>some (.bool (isK (pS d) T))
theorem Vw:Aeh X (.builtin "isinstance") (fun xs H Q=>∃ x T d b,xs=[x,.ty T]/\Aby X.K H d x/\T∈OS/\eQ T d=some (.bool b)/\Q (.bl b) H):=by
 intro pins s σ H xs us Q I r h
 obtain⟨x,T,d,b,rfl,rd,hT,hb,q⟩:=h
 have hb2:b=isK (pS d) T:=by
  unfold eQ at hb
  split at hb
  ·cases hb
  ·cases hb; rfl
 subst hb2
 have ek:=Io (Uy d) hT
 have by_ty:TyOf X.K H x (.type (pS d))->aN (aT X.prog X.w) X.A (call (.builtin "isinstance") us) (EP X pins σ Q) X.xe s:=fun ty=>
  Nk pins s σ H _ us Q I r ⟨x,T,_,isK (pS d) T,rfl,ty,Aml.trans ek,q⟩
 cases d with
 | none=>obtain rfl:=Abq.mp rd; exact by_ty .non
 | bool b=>obtain rfl:=Aar.mp rd; exact by_ty (.bl _)
 | int b=>obtain rfl:=Aaq.mp rd; exact by_ty (.int _)
 | str b=>obtain⟨rfl,_⟩:=Aan.mp rd; exact by_ty (.str _)
 | list b=>
  obtain⟨a,ys,rfl,h,_⟩:=Abn.mp rd
  obtain⟨u,w',rfl,ru,rw'⟩:=vals2 r
  cases rw'
  cases ru
  obtain⟨its,_,⟨o,n,e1,hc,_,_⟩,_⟩:=I.list h
  exact lW YC I.kIn ⟨o,e1,hc⟩ (Aml.trans ek) (fun z=>nomatch z) fun tk=>⟨.bl _,H,I.tok tk,rfl,q⟩
 | tuple b=>obtain⟨_,_,rfl,h,_⟩:=Aa0.mp rd; exact by_ty (.tup h)
 | dict b=>
  obtain⟨_,rfl,⟨_,h,_⟩ | ⟨_,h,_⟩ | ⟨_,h,_⟩ | h⟩:=Ab9.mp rd
  case inr.inr.inr=>
   obtain⟨_,_,rfl⟩:=h.mark
   cases hb
  ·exact by_ty (.dK h)
  ·exact by_ty (.dT h)
  ·obtain⟨u,w',rfl,ru,rw'⟩:=vals2 r
   cases rw'
   cases ru
   obtain⟨⟨_,_,o,_,e1,hc,_⟩,_⟩:=I.hok _ _ h
   exact lW YD I.kIn ⟨o,e1,hc.1⟩ (Aml.trans ek) (fun z=>nomatch z) fun tk=>⟨.bl _,H,I.tok tk,rfl,q⟩
variable {e a b:aX}{es:List aX}{f:EF}{fa:AF}{p p2 pos apos cpos:cE}{x:aB}
theorem jM {T:String}(hgl:Gl X "isinstance")(hm:X.mg "isinstance" = none)(hg:Gl X x)(hmx:X.mg x=none)(hv:lU x=some (.type T))(hT:T∈OS)(he:DE X e f)
  (hn:x ≠ "__name__":=by decide) (hd:(x == ("__debug__" : aB))=false:=by decide) (hs1:bM (e::[.Name x p2]) X.env=(false,cD e X.env)::bM [.Name x p2] X.env:=by rfl)
  (hs2:bM (.Name x p2::[]) X.env=(false,cD (.Name x p2) X.env)::bM [] X.env:=by rfl) (hpl:(eX pos (bM [.Name x p2] X.env)).any (·.1)=false:=by rfl):DE X (.Call (.Name "isinstance" p) [e,.Name x p2] [] pos) (eUn (eQ T) f):=
 PE.imp (BM Vw hgl hm boot_isinstance (jZ he (jZ (Cd hg hmx hv hn hd) kT hs2) hs1) (by decide) (by decide) hs1 hpl) fun σ H Q gh=>by
  obtain⟨P,ρ,d,hP,rs,ef,k⟩:=gh
  obtain⟨d1,e1,ef⟩:=XBs ef
  have hb : ∃ b,d = .bool b:=by
   unfold eQ at ef
   split at ef
   ·cases ef
   ·cases ef; exact⟨_,rfl⟩
  obtain⟨b,rfl⟩:=hb
  exact⟨P,ρ,d1,hP,rs,e1,cY fun v H1 x1 r1=>⟨v,T,d1,b,rfl,r1.ext Aa9,hT,ef,k.zero x1 (Aar.mpr rfl)⟩⟩
noncomputable def pW:List aA->Option aA
 | [.list ds]=>some (.tuple ds)
 | [.tuple ds]=>some (.tuple ds)
 | _=>none
theorem yH {K:aK}:CallD K 0 (fun xs H Q=>∃ p ys,xs=[.ref p]/\((SqL K H p ys /\ ∀ l,H l=none->Q (.ref l) (upd H l (.tup ys))) \/ (SqT K H p ys/\Q (.ref p) H))) pW:=fun P H xs ds d Q hP r e k=>by
 unfold pW at e
 split at e
 ·cases e
  obtain⟨v,rfl,r'⟩:=jA r
  replace r:=r'
  obtain⟨q,ys,rfl,hq,rr⟩:=Abn.mp r
  exact⟨q,ys,rfl,.inl ⟨Aa9.sqL hq,fun l hl=>k.tup hP hl rr⟩⟩
 ·cases e
  obtain⟨v,rfl,r'⟩:=jA r
  replace r:=r'
  obtain⟨q,ys,rfl,hq,rr⟩:=Aa0.mp r
  exact⟨q,ys,rfl,.inr ⟨SqT.of (Aa9 _ _ hq),k.zero Ext.refl r⟩⟩
 ·cases e
noncomputable def FS:List aA->Option aA
 | [.list ds]=>some (.list ds)
 | [.tuple ds]=>some (.list ds)
 | [.str z]=>if z.length≤sizeLine then some (.list (z.cps.toList.map fun c=>.str ⟨#[c]⟩)) else none
 | _=>none
def MP (K:aK):List V->Hp->VK->Prop:=fun xs H Q=>(∃ p ys,xs=[.ref p]/\(SqL K H p ys \/ SqT K H p ys) /\ ∀ l,H l=none->Q (.ref l) (upd H l (.lst ys))) \/ ∃ z:aB,xs=[.str z]/\z.length≤sizeLine /\ ∀ l,H l=none->Q (.ref l) (upd H l (.lst (z.cps.toList.map rL)))
theorem Ph (hc:X.calm=true):Aeh X (.type "list") (MP X.K):=Aqu.or (Li hc)
theorem TH {K:aK}{H:Hp} : ∀ {cs:List Nat},(∀ c∈cs,cA (.str ⟨#[c]⟩)=true)->Aau K H (cs.map fun c=>.str ⟨#[c]⟩) (cs.map rL)
 | [],_=>Aat.mpr rfl
 | c::r,h=>Aal.mpr ⟨_,_,rfl,Aan.mpr ⟨rfl,h c bR⟩,TH fun c' m=>h c' (bZ _ m)⟩
theorem Mg {K:aK}:CallD K 1 (MP K) FS:=fun P H xs ds d Q hP r e k=>by
 unfold FS at e
 split at e
 ·cases e
  obtain⟨v,rfl,r'⟩:=jA r
  replace r:=r'
  obtain⟨q,ys,rfl,hq,rr⟩:=Abn.mp r
  exact .inl ⟨q,ys,rfl,.inl (Aa9.sqL hq),fun l hl=>k.lst hP hl rr⟩
 ·cases e
  obtain⟨v,rfl,r'⟩:=jA r
  replace r:=r'
  obtain⟨q,ys,rfl,hq,rr⟩:=Aa0.mp r
  exact .inl ⟨q,ys,rfl,.inr (SqT.of (Aa9 _ _ hq)),fun l hl=>k.lst hP hl rr⟩
 ·obtain⟨hz,rfl⟩:=dU e
  obtain⟨v,rfl,r'⟩:=jA r
  replace r:=r'
  refine .inr ⟨_,by rw[(Aan.mp r).1],hz,fun l hl=>k.lst hP hl (TH fun c m=>?_)⟩
  obtain⟨j,hj⟩:=List.mem_iff_getElem?.mp m
  exact GZ (Aan.mp r).2 hj
 ·cases e
noncomputable def sW:List aA->Option aA
 | [.int i]=>some (.int i)
 | [.bool b]=>some (.int (if b then 1 else 0))
 | _=>none
theorem Ww {K:aK}:CallD K 0 (fun xs H Q=>(∃ i,xs=[.int i]/\Q (.int i) H) \/ ∃ k,xs=[.bl k]/\Q (.int (if k then 1 else 0)) H) sW:=fun P H xs ds d Q hP r e k=>by
 unfold sW at e
 split at e
 ·cases e
  obtain⟨v,rfl,r'⟩:=jA r
  replace r:=r'
  exact .inl ⟨_,by rw[Aaq.mp r],k.zero Ext.refl (Aaq.mpr rfl)⟩
 ·cases e
  obtain⟨v,rfl,r'⟩:=jA r
  replace r:=r'
  exact .inr ⟨_,by rw[Aar.mp r],k.zero Ext.refl (Aaq.mpr rfl)⟩
 ·cases e
noncomputable def AH:List aA->Option aA
 | [.int i]=>some (.int (if i<0 then -i else i))
 | _=>none
theorem RH {K:aK}:CallD K 0 (fun xs H Q=>∃ i,xs=[.int i]/\Q (.int (if i<0 then -i else i)) H) AH:=fun P H xs ds d Q hP r e k=>by
 unfold AH at e
 split at e
 ·cases e
  obtain⟨v,rfl,r'⟩:=jA r
  replace r:=r'
  exact⟨_,by rw[Aaq.mp r],k.zero Ext.refl (Aaq.mpr rfl)⟩
 ·cases e
noncomputable def mW:List aA->Option (List Bool)
 | []=>some []
 | .bool b::r=>(mW r).bind fun bs=>some (b::bs)
 | _::_=>none
noncomputable def kQ:List aA->Option aA
 | [.list ds]=>(mW ds).bind fun bs=>some (.bool (bs.all id))
 | _=>none
theorem OT {K:aK}{H:Hp} : ∀ {ds:List aA} {xs:List V} {bs:List Bool},mW ds=some bs->Aau K H ds xs->xs=bs.map V.bl
 | [],xs,bs,e,r=>by
  cases e
  rw[Aat.mp r]; rfl
 | .bool b::ds,xs,bs,e,r=>by
  obtain⟨bs',e1,e2⟩:=XBs (show((mW ds).bind fun bs=>some (b::bs))=some bs from e)
  cases e2
  obtain⟨v,t,rfl,h1,h2⟩:=Aal.mp r
  rw[Aar.mp h1,OT e1 h2]; rfl
 | .none::_,_,_,e,_=>by cases e
 | .int _::_,_,_,e,_=>by cases e
 | .str _::_,_,_,e,_=>by cases e
 | .list _::_,_,_,e,_=>by cases e
 | .tuple _::_,_,_,e,_=>by cases e
 | .dict _::_,_,_,e,_=>by cases e
theorem uN {K:aK}:CallD K 0 (fun xs H Q=>∃ p ys,xs=[.ref p]/\SqL K H p ys/\(∀ y∈ys,∃ b,y = .bl b)/\Q (.bl (allB ys)) H) kQ:=fun P H xs ds d Q hP r e k=>by
 unfold kQ at e
 split at e
 ·obtain⟨bs,e1,e2⟩:=XBs e
  cases e2
  obtain⟨v,rfl,r'⟩:=jA r
  replace r:=r'
  obtain⟨q,ys,rfl,hq,rr⟩:=Abn.mp r
  obtain rfl:=OT e1 rr
  refine⟨q,_,rfl,Aa9.sqL hq,fun y m=>?_,k.zero Ext.refl (Aar.mpr ?_)⟩
  ·obtain⟨b,_,rfl⟩:=bW.mp m
   exact⟨b,rfl⟩
  ·unfold allB
   rw[List.all_map]
   congr 2
   funext b
   cases b <;> rfl
 ·cases e
noncomputable def cutD (ds:List aA)(lo hi:Option Int):List aA:=(ds.drop (HT.sIx ds.length 0 lo)).take (HT.sIx ds.length ds.length hi - HT.sIx ds.length 0 lo)
abbrev OF:=List (Option aA)->Option (Option Int)
noncomputable def tOF (K:aK)(f:OF):TO:=fun σ H Q=>∃ P ρ o,Hid P H/\Anw K (hid H P) ρ σ/\f ρ=some o /\ ∀ H',Ext H H'->Q o H'
abbrev DO (X:Cx)(e:Option aX)(f:OF):Prop:=PO X e (tOF X.K f)
noncomputable def oN:OF:=fun _=>some none
noncomputable def oS (f:EF):OF:=fun ρ=>(f ρ).bind fun d=>match d with
 | .int i=>some (some i)
 | _=>none
theorem PO.imp {o:Option aX}{t t':TO}(h:PO X o t)(w : ∀ σ H Q,t' σ H Q->t σ H Q):PO X o t':=fun pins s σ H Q I q=>h pins s σ H Q I (w _ _ _ q)
theorem xG:DO X none oN:=PO.imp Ih fun σ H Q gh=>by
 obtain⟨P,ρ,o,hP,rs,ef,k⟩:=gh
 cases ef
 exact k H Ext.refl
theorem xF (h:DE X e f):DO X (some e) (oS f):=PO.imp (Il h) fun σ H Q gh=>by
 obtain⟨P,ρ,o,hP,rs,ef,k⟩:=gh
 obtain⟨d,e1,ef⟩:=XBs ef
 refine⟨P,ρ,d,hP,rs,e1,cY fun v H1 x1 r1=>?_⟩
 cases d with
 | int i=>cases ef; exact⟨i,Aaq.mp r1,k H1 x1⟩
 | _=>cases ef
noncomputable def nR (f:EF)(lo hi:OF):EF:=fun ρ=>(f ρ).bind fun d=>(lo ρ).bind fun l=>(hi ρ).bind fun h=>match d with
 | .list ds=>some (.list (cutD ds l h))
 | _=>none
theorem JH {lo hi:Option aX}{fl fh:OF}{pp:cE}(he:DE X e f)(hl:DO X lo fl)(hh:DO X hi fh):DF 1 X (.Subscript e (.Slice lo hi none pp) pos) (nR f fl fh):=PE.imp (OR Ho he hl hh) fun σ H Q gh=>by
 obtain⟨P,ρ,d,hP,rs,ef,k⟩:=gh
 obtain⟨d1,e1,ef2⟩:=XBs ef
 obtain⟨l,e2,ef3⟩:=XBs ef2
 obtain⟨h,e3,ef4⟩:=XBs ef3
 clear ef ef2 ef3
 cases d1 with
 | list ds=>
  cases ef4
  refine⟨P,ρ,_,hP,rs,e1,cY fun v H1 x1 r1=>⟨P,ρ,l,hP.ext x1,rs.ext (cS x1),e2,fun H2 x2=>⟨P,ρ,h,hP.ext (x1.trans x2),rs.ext (cS (x1.trans x2)),e3,fun H3 x3=>?_⟩⟩⟩
  obtain⟨q,ys,rfl,hq,rr⟩:=Abn.mp (r1.ext (cS (x2.trans x3)))
  refine⟨q,ys,rfl,Aa9.sqL hq,fun p hp=>(k.mono ((x1.trans x2).trans x3)).lst (hP.ext ((x1.trans x2).trans x3)) hp ?_⟩
  unfold qJ cutD
  rw[rr.length]
  exact(rr.drop _).take _
 | _=>cases ef4
noncomputable def lJ:List aA->Option (List aB)
 | []=>some []
 | .str x::r=>(lJ r).bind fun xs=>some (x::xs)
 | _::_=>none
theorem OA {K:aK}{H:Hp} : ∀ {ds:List aA} {xs:List V} {bs:List aB},lJ ds=some bs->Aau K H ds xs->xs=bs.map V.str /\ ∀ b∈bs,cA (.str b)=true
 | [],xs,bs,e,r=>by
  cases e
  rw[Aat.mp r]; exact⟨rfl,fun b m=>by simp at m⟩
 | .str b::ds,xs,bs,e,r=>by
  obtain⟨bs',e1,e2⟩:=XBs (show((lJ ds).bind fun bs=>some (b::bs))=some bs from e)
  cases e2
  obtain⟨v,t,rfl,h1,h2⟩:=Aal.mp r
  obtain⟨q1,q2⟩:=OA e1 h2
  rw[(Aan.mp h1).1,q1]
  refine⟨rfl,fun c m=>?_⟩
  rcases cQ.mp m with rfl | m
  ·exact(Aan.mp h1).2
  ·exact q2 c m
 | .none::_,_,_,e,_=>by cases e
 | .int _::_,_,_,e,_=>by cases e
 | .bool _::_,_,_,e,_=>by cases e
 | .list _::_,_,_,e,_=>by cases e
 | .tuple _::_,_,_,e,_=>by cases e
 | .dict _::_,_,_,e,_=>by cases e
theorem OM {sep:aB}(hs:cA (.str sep)=true) : ∀ {ys:List aB},(∀ b∈ys,cA (.str b)=true)->cA (.str (dN sep ys))=true
 | [],_=>by
  have:dN sep []=Str.empty:=by simp[dN]
  rw[this]
  decide +kernel
 | [x],h=>by
  have:dN sep [x]=x:=by simp[dN]
  rw[this]
  exact h x bR
 | x::y::r,h=>by
  have e:dN sep (x::y::r)=x++sep++dN sep (y::r):=by
   rw[dN]
   intro z; cases z
  rw[e]
  exact IF (IF (h x bR) hs) (OM hs fun b m=>h b (bZ _ m))
noncomputable def mJ:aA->aA->Option aA
 | .str sep,.list ds=>(lJ ds).bind fun ys=>if (ys.map (·.length)).sum+ys.length*sep.length≤16777216 then some (.str (dN sep ys)) else none
 | _,_=>none
theorem xI {g:EF}(ho:DE X a f)(he:DE X e g)(hbase:vX a "join" X.env (cD a X.env)=cD a X.env:=by rfl)
  (hfew:((eX cpos (bM (e::[]) X.env)).all (fun x=>!x.1)&&(vW cpos (vR [] X.env)).all (fun x=>x.1.isSome)
   && decide ((e::[]).length+([]:List lG).length+(if ([]:List lG).isEmpty then 0 else 1)<30))=true:=by rfl)
  (hline:(apos.endLine == cpos.line)=true:=by rfl) (hs:bM (e::[]) X.env=(false,cD e X.env)::bM [] X.env:=by rfl) (hplain:(eX cpos (bM [] X.env)).any (·.1)=false:=by rfl):DE X (.Call (.Attribute a "join" apos) [e] [] cpos) (eOp mJ f g):=
 PE.imp (tJ KB PySem.F.slot_str_join PySem.F.type_str_join Iy ho (jZ he kT hs) hbase hfew hline hs hplain) fun σ H Q gh=>by
  obtain⟨P,ρ,d,hP,rs,ef,k⟩:=gh
  obtain⟨d1,e1,ef2⟩:=XBs ef
  obtain⟨d2,e2,ef3⟩:=XBs ef2
  clear ef ef2
  cases d1 with
  | str sep=>
   cases d2 with
   | list ds=>
    obtain⟨ys,h1,h2⟩:=XBs (show((lJ ds).bind fun ys=>if (ys.map (·.length)).sum+ys.length*sep.length≤16777216 then some (bO (dN sep ys)) else none)=some d from ef3)
    obtain⟨hz,rfl⟩:=dU h2
    refine⟨P,ρ,_,hP,rs,e1,cY fun v H1 x1 r1=>⟨by rw[(Aan.mp r1).1]; rfl,P,ρ,_,hP.ext x1,rs.ext (cS x1),e2,cY fun u H2 x2 r2=>?_⟩⟩
    obtain⟨q,zs,rfl,hq,rr⟩:=Abn.mp r2
    obtain⟨rfl,hl⟩:=OA h1 rr
    exact⟨sep,q,ys,(Aan.mp r1).1,rfl,Aa9.sqL hq,hz,k.zero (x1.trans x2) (Aan.mpr ⟨rfl,OM (Aan.mp r1).2 hl⟩)⟩
   | _=>cases ef3
  | _=>cases d2 <;> cases ef3
theorem ND {α:Type}{c:Prop}[Decidable c]{x:Option α}{y:α}(h:(if c then x else none)=some y):c/\x=some y:=by
 by_cases e:c
 ·rw[if_pos e] at h; exact⟨e,h⟩
 ·rw[if_neg e] at h; cases h
theorem Res.dic {K:aK}{P:aD->Prop}{H:Hp}{Q:VK}{kds:List (aA×aA)}{ep:Nat}{kvs:List (aO×V)}{q:aD}(hP:Hid P H)(h:Res K P 1 (.dict kds) H Q)(n:H q=none)(r:Acq K (hid H P) kds kvs):Q (.ref q) (upd H q (.dK ep kvs)):=by
 refine h (.ref q) _ [q] (Ext.new n) (nY.mpr ⟨by simp,.nil⟩) (fun a m=>?_) ⟨q,(ep,kvs),kvs.map fun _=>[],rfl,jR,?_,?_⟩
 ·have:a=q:=by simpa using m
  subst this
  exact⟨n,_,jR⟩
 ·have : ∀ l:List (aO×V),(l.map fun _=>([]:List aD)).flatten=[]:=fun l=>by
   induction l with
   | nil=>rfl
   | cons a l ih=>rw[fE,sR,ih]; rfl
  rw[this]
 ·have xe:Ext (hid H P) (hid (upd H q (.dK ep kvs)) (orL P [q])):=fun b o e=>by
   obtain⟨nb,e⟩:=Afc.mp e
   have hb:=mU e n
   exact jY (fun z=>z.elim nb fun m=>hb (by simpa using m)) (by rw[fJ hb]; exact e)
  generalize hid (upd H q (.dK ep kvs)) (orL P [q])=B at xe
  generalize upd H q (.dK ep kvs)=H1
  clear h
  have go : ∀ (ds:List (aA×aA)) (xs:List (aO×V)),Acq K (hid H P) ds xs->All3 (fun(kd:aA×aA) (kv:aO×V) f=>kd.1=kD kv.1/\Akd K B H1 0 kd.2 kv.2 f) ds xs (xs.map fun _=>[]):=by
   intro ds
   induction ds with
   | nil=>intro xs r; rw[Acp.mp r]; exact .nil
   | cons d ds ih=>
    intro xs r
    obtain⟨k',y,t,rfl,ek,h1,h2⟩:=Abh.mp (show Acq K (hid H P) ((d.1,d.2)::ds) xs from r)
    exact .cons ⟨ek,rfl,h1.ext xe⟩ (ih t h2)
  exact go kds kvs r
theorem Hv:DF 1 X (.Dict [] [] pos) (eC (.dict [])):=PE.imp Tq fun σ H Q gh=>by
 obtain⟨P,ρ,d,hP,rs,ef,k⟩:=gh
 cases ef
 exact fun q hq=>k.dic hP hq (Acp.mpr rfl)
end
section
variable {K:aK}{H0 H B0:Hp}{P0:aD->Prop}{ρ:bC}{σ:St}{fp:Nat->List aD}{i:Nat}
theorem Kr {B:Hp} : ∀ {ds:List aA} {xs:List V} {Fs:List (List aD)},All3 (Agd K B H 0) ds xs Fs->Aau K B ds xs/\Fs.flatten=[]:=by
 intro ds xs Fs h
 induction h with
 | nil=>exact⟨Aat.mpr rfl,rfl⟩
 | cons h t ih=>
  obtain⟨rfl,r⟩:=h
  exact⟨Aal.mpr ⟨_,_,rfl,r,ih.1⟩,by rw[sR,ih.2]; rfl⟩
theorem Ma {B:Hp} : ∀ {ds:List (aA×aA)} {xs:List (aO×V)} {Fs:List (List aD)},All3 (fun(kd:aA×aA) (kv:aO×V) f=>kd.1=kD kv.1/\Agd K B H 0 kd.2 kv.2 f) ds xs Fs->Acq K B ds xs/\Fs.flatten=[]:=by
 intro ds xs Fs h
 induction h with
 | nil=>exact⟨Acp.mpr rfl,rfl⟩
 | @cons p q F ds xs Fs h t ih=>
  obtain⟨k,d⟩:=p
  obtain⟨k',v⟩:=q
  obtain⟨ek,rfl,r⟩:=h
  exact⟨Abh.mpr ⟨_,_,_,rfl,ek,r,ih.1⟩,by rw[sR,ih.2]; rfl⟩
theorem RG {B H1:Hp} : ∀ {ds:List aA} {xs:List V},Aau K B ds xs->All3 (Agd K B H1 0) ds xs (xs.map fun _=>[])/\(xs.map fun _=>([]:List aD)).flatten=[]
 | [],xs,r=>by rw[Aat.mp r]; exact⟨.nil,rfl⟩
 | d::ds,xs,r=>by
  obtain⟨y,t,rfl,h1,h2⟩:=Aal.mp r
  obtain⟨q1,q2⟩:=RG h2
  exact⟨.cons ⟨rfl,h1⟩ q1,by rw[fE,sR,q2]; rfl⟩
theorem SY {B H1:Hp} : ∀ {ds:List (aA×aA)} {xs:List (aO×V)},Acq K B ds xs->All3 (fun(kd:aA×aA) (kv:aO×V) f=>kd.1=kD kv.1/\Agd K B H1 0 kd.2 kv.2 f) ds xs (xs.map fun _=>[])/\(xs.map fun _=>([]:List aD)).flatten=[]
 | [],xs,r=>by rw[Acp.mp r]; exact⟨.nil,rfl⟩
 | (k,d)::ds,xs,r=>by
  obtain⟨k',y,t,rfl,ek,h1,h2⟩:=Abh.mp r
  obtain⟨q1,q2⟩:=SY h2
  exact⟨.cons ⟨ek,rfl,h1⟩ q1,by rw[fE,sR,q2]; rfl⟩
theorem Sta.write {p:aD}{o:HO}{d':aA}(S:Sta K H0 P0 B0 ρ σ H fp)(hi:i<ρ.length)(hv:σ[i]?=some (some (.ref p)))(hp:p∈fp i)(ho:(∃ xs,o = .lst xs) \/ ∃ q:DQ,o=dO q)
  (new:Akd K (L2.hid H (Hd P0 fp)) (upd H p o) 1 d' (.ref p) (fp i)):Sta K H0 P0 B0 (ρ.set i (some (1,d'))) σ (upd H p o) fp:=by
 have hb:L2.hid (upd H p o) (Hd P0 fp)=L2.hid H (Hd P0 fp):=by
  funext b
  unfold L2.hid
  by_cases q:Hd P0 fp b
  ·rw[if_pos q,if_pos q]
  ·rw[if_neg q,if_neg q]
   exact fJ fun z=>q (.inr ⟨i,by rw[z]; exact hp⟩)
 refine⟨by simp[S.len],S.nd,S.dj,fun j a m=>⟨(S.own j a m).1,?_⟩,fun b u e=>?_,S.hd,by rw[hb]; exact S.base,fun j n d e=>?_⟩
 ·by_cases q:a=p
  ·subst q
   rcases ho with⟨xs,rfl⟩ | ⟨xs,rfl⟩
   ·exact .inl ⟨xs,jR⟩
   ·exact .inr ⟨xs,jR⟩
  ·rw[fJ q]; exact(S.own j a m).2
 ·rw[fJ (mU e (S.own i p hp).1)]; exact S.ext b u e
 ·by_cases q:j=i
  ·subst q
   rw[qU hi] at e
   cases e
   exact⟨_,hv,by rw[hb]; exact new⟩
  ·rw[qV (fun z=>q z.symm)] at e
   obtain⟨v,h1,h2⟩:=S.slot j n d e
   refine⟨v,h1,?_⟩
   rw[hb]
   exact h2.keep Ext.refl fun a m=>fJ fun z=>q (S.dj j i a m (by rw[z]; exact hp))
theorem Sta.lst1 {ds:List aA}(S:Sta K H0 P0 B0 ρ σ H fp)(e:ρ[i]?=some (some (1,.list ds))) : ∃ p xs,σ[i]?=some (some (.ref p))/\H p=some (.lst xs)/\Aau K (L2.hid H (Hd P0 fp)) ds xs /\
  ∀ ds' xs',Aau K (L2.hid H (Hd P0 fp)) ds' xs'->Sta K H0 P0 B0 (ρ.set i (some (1,.list ds'))) σ (upd H p (.lst xs')) fp:=by
 obtain⟨v,h1,h2⟩:=S.slot i 1 _ e
 obtain⟨p,xs,Fs,rfl,hp,hF,h3⟩:=h2
 obtain⟨r,hn⟩:=Kr h3
 rw[hn] at hF
 refine⟨p,xs,h1,hp,r,fun ds' xs' r'=>S.write (fL.mp e).1 h1 (by rw[hF]; exact bR) (.inl ⟨_,rfl⟩) ?_⟩
 obtain⟨q1,q2⟩:=RG r'
 exact⟨p,xs',_,rfl,jR,by rw[hF,q2],q1⟩
theorem Sta.dic1 {ds:List (aA×aA)}(S:Sta K H0 P0 B0 ρ σ H fp)(e:ρ[i]?=some (some (1,.dict ds))) : ∃ p ep xs,σ[i]?=some (some (.ref p))/\H p=some (.dK ep xs)/\Acq K (L2.hid H (Hd P0 fp)) ds xs /\
  ∀ n ds' xs',Acq K (L2.hid H (Hd P0 fp)) ds' xs'->Sta K H0 P0 B0 (ρ.set i (some (1,.dict ds'))) σ (upd H p (.dK n xs')) fp:=by
 obtain⟨v,h1,h2⟩:=S.slot i 1 _ e
 obtain⟨p,xs,Fs,rfl,hp,hF,h3⟩:=h2
 obtain⟨r,hn⟩:=Ma h3
 rw[hn] at hF
 refine⟨p,xs.1,xs.2,h1,hp,r,fun n ds' xs' r'=>S.write (fL.mp e).1 h1 (by rw[hF]; exact bR) (.inr ⟨.inl (n,xs'),rfl⟩) ?_⟩
 obtain⟨q1,q2⟩:=SY r'
 exact⟨p,(n,xs'),_,rfl,jR,by rw[hF,q2],q1⟩
end
noncomputable def getL (i:Nat)(ρ:bC):Option (List aA):=match ρ[i]? with
 | some (some (1,.list ds))=>some ds
 | _=>none
noncomputable def AI (i:Nat)(ρ:bC):Option (List (aA×aA)):=match ρ[i]? with
 | some (some (1,.dict ds))=>some ds
 | _=>none
theorem uI {i:Nat}{ρ:bC}{ds:List aA}(h:getL i ρ=some ds):ρ[i]?=some (some (1,.list ds)):=by
 unfold getL at h
 split at h
 ·rename_i e; cases h; exact e
 ·cases h
theorem QT {i:Nat}{ρ:bC}{ds:List (aA×aA)}(h:AI i ρ=some ds):ρ[i]?=some (some (1,.dict ds)):=by
 unfold AI at h
 split at h
 ·rename_i e; cases h; exact e
 ·cases h
section
variable {X:Cx}{H0:Hp}{P0:aD->Prop}{n0:Nat}{e k o:aX}{f g:EF}{x:aB}{px pos apos cpos spos:cE}{i:Nat}
noncomputable def kO (i:Nat)(m:Md)(f:EF):SF:=fun ρ=>(eV 0 m f ρ).bind fun d=>(getL i ρ).bind fun ds=>if ds.length<sizeLine then some (.nx (ρ.set i (some (1,.list (ds++[d]))))) else none
theorem rW (i:Nat)(m:Md)(he:DE X e f)(hN:X.N[i]?=some x:=by rfl)(hv:nB X.env.scope x:=by first | exact aU rfl | exact bA (aU rfl) | exact bA (bA rfl))(hd:(x == ("__debug__" : aB))=false:=by decide)
  (hcd:(x == ("__classdict__" : aB))=false:=by decide) (hbase:vX (.Name x px) "append" X.env (cD (.Name x px) X.env)=cD (.Name x px) X.env:=by rfl)
  (hfew:((eX cpos (bM (e::[]) X.env)).all (fun x=>!x.1)&&(vW cpos (vR [] X.env)).all (fun x=>x.1.isSome)
   && decide ((e::[]).length+([]:List lG).length+(if ([]:List lG).isEmpty then 0 else 1)<30))=true:=by rfl)
  (hline:(apos.endLine == cpos.line)=true:=by rfl) (hs:bM (e::[]) X.env=(false,cD e X.env)::bM [] X.env:=by rfl) (hplain:(eX cpos (bM [] X.env)).any (·.1)=false:=by rfl)
  (hsw:qL (.Call (.Attribute (.Name x px) "append" apos) [e] [] cpos) none pos.line X.env=pure false:=by rfl):DS X H0 P0 n0 (.Expr (.Call (.Attribute (.Name x px) "append" apos) [e] [] cpos) pos) (kO i m f):=
 PS.imp (WY (tJ Wy PySem.F.slot_list_append PySem.F.type_list_append QU (rN hN hv hd hcd) (jZ (ev m he) kT hs) hbase hfew hline hs hplain) hsw) fun D σ H gh=>by
  obtain⟨B0,ρ,fp,o,S,ef,k⟩:=gh
  obtain⟨d,e1,ef2⟩:=XBs ef
  obtain⟨ds,e2,ef3⟩:=XBs ef2
  obtain⟨hl,rfl⟩:=dU ef3
  obtain⟨p,xs,h1,h2,_,_⟩:=S.lst1 (uI e2)
  refine⟨.ref p,h1,.inl ⟨rfl,xs,SqL.of h2⟩,B0,ρ,fp,d,S,e1,fun v H2 gh=>?_⟩
  obtain⟨fp2,S2,r2⟩:=gh
  obtain⟨p2,xs2,q1,q2,q3,q4⟩:=S2.lst1 (uI e2)
  have:p2=p:=by rw[h1] at q1; cases q1; rfl
  subst this
  exact⟨p2,xs2,v,rfl,rfl,q2,by rw[q3.length]; exact hl,k _ _ fp2 (q4 _ _ (q3.snoc r2.2))⟩
noncomputable def rK (i:Nat)(m:Md)(f:EF)(mk:Md)(g:EF):SF:=fun ρ=>(eV 0 m f ρ).bind fun d=>(getL i ρ).bind fun ds=>(eV 0 mk g ρ).bind fun k=>match k with
 | .int j=>(ixN ds.length j).bind fun j=>some (.nx (ρ.set i (some (1,.list (ds.set j d)))))
 | _=>none
theorem MK {K:aK}{m:Md}{σ:St}{H B0:Hp}{ρ:bC}{fp:Nat->List aD}{d:aA}(S:Sta K H0 P0 B0 ρ σ H fp)(e:eV 0 m g ρ=some d){Q:VK}(hd:fZ d=true)(k : ∀ v H',Ext H H'->Aby K (hid H' (Hd P0 fp)) d v->Q v H'):tF K 0 g σ H Q:=by
 cases m with
 | s=>exact⟨Hd P0 fp,vS ρ,d,S.hid,S.viewS,e,cY k⟩
 | a=>
  obtain⟨d',ed,ef⟩:=XBs e
  obtain⟨fl,rfl⟩:=dU ef
  refine⟨P0,vA ρ,d',S.hd.ext S.ext,S.viewA,ed,cY fun v H' x r=>k v H' x (r.flat (fun a xs e=>?_) _ hd)⟩
  obtain⟨na,e⟩:=Afc.mp e
  refine jY (fun q=>?_) e
  rcases q with q | ⟨j,q⟩
  ·exact na q
  ·rcases((S.grow x).own j a q).2 with⟨ys,e2⟩ | ⟨ys,e2⟩ <;> rw[e] at e2 <;> first | cases e2 | (cases ys <;> simp[dO] at e2)
theorem GD (i:Nat)(m mk:Md)(he:DE X e f)(hk:DE X k g)(hN:X.N[i]?=some x:=by rfl)(hv:nB X.env.scope x:=by first | exact aU rfl | exact bA (aU rfl) | exact bA (bA rfl))(hd:(x == ("__debug__" : aB))=false:=by decide)
  (hcd:(x == ("__classdict__" : aB))=false:=by decide)
  (ha : ∀ v,pG (.Subscript (.Name x px) k apos) X.env v=(do
   let ov ← qM [v] (cD (.Name x px) X.env)
   let iv ← qM [v,ov] (cD k X.env)
   standAt apos
   qM [v,ov,iv] (setItem ov iv v)
   release [v,ov,iv] []):=by intro _; rfl)
  (hs:swapsWithSole [.Subscript (.Name x px) k apos] e pos.line X.env=pure false:=by rfl) (hw:swappedStores [.Subscript (.Name x px) k apos] e X.env=pure none:=by rfl)
  (h1:(lV [.Subscript (.Name x px) k apos] X.env).map (·.2)=[pG (.Subscript (.Name x px) k apos) X.env]:=by rfl):DS X H0 P0 n0 (.Assign [.Subscript (.Name x px) k apos] e pos) (rK i m f mk g):=
 PS.imp (Di (ev m he) (Fd (rN hN hv hd hcd) hk set_list ha) hs hw h1) fun D σ H gh=>by
  obtain⟨B0,ρ,fp,o,S,ef,kk⟩:=gh
  obtain⟨d,e1,ef2⟩:=XBs ef
  obtain⟨ds,e2,ef3⟩:=XBs ef2
  obtain⟨kd,e3,ef4⟩:=XBs ef3
  clear ef ef2 ef3
  cases kd with
  | int j=>
   obtain⟨jn,e5,ef5⟩:=XBs (show((ixN ds.length j).bind fun j=>some (Out.nx (ρ.set i (some (1,.list (ds.set j d))))))=some o from ef4)
   cases ef5
   refine⟨B0,ρ,fp,d,S,e1,fun v H2 gh=>?_⟩
   obtain⟨fp2,S2,r2⟩:=gh
   obtain⟨p,xs,h1,h2,_,_⟩:=S2.lst1 (uI e2)
   refine⟨.ref p,h1,MK S2 e3 (by simp[fZ]) fun u H3 x3 r3=>?_⟩
   have S3:=S2.grow x3
   obtain⟨p3,xs3,q1,q2,q3,q4⟩:=S3.lst1 (uI e2)
   have:p3=p:=by rw[h1] at q1; cases q1; rfl
   subst this
   exact⟨p3,xs3,j,jn,rfl,Aaq.mp r3,q2,by rw[q3.length]; exact e5,kk _ _ fp2 (q4 _ _ (q3.set (r2.2.ext (cS x3)) jn))⟩
  | _=>cases ef4
noncomputable def DU (i:Nat)(m:Md)(f:EF)(mk:Md)(g:EF):SF:=fun ρ=>(eV 0 m f ρ).bind fun d=>(AI i ρ).bind fun kds=>(eV 0 mk g ρ).bind fun k=>(fO k).bind fun k=>if kds.length<sizeLine then some (.nx (ρ.set i (some (1,.dict (putD kds k d))))) else none
theorem Gy (i:Nat)(m mk:Md)(hu:X.A.units+40<cLine)(he:DE X e f)(hk:DE X k g)(hN:X.N[i]?=some x:=by rfl)(hv:nB X.env.scope x:=by first | exact aU rfl | exact bA (aU rfl) | exact bA (bA rfl))(hd:(x == ("__debug__" : aB))=false:=by decide)
  (hcd:(x == ("__classdict__" : aB))=false:=by decide) (hs:qL e (some (.Subscript (.Name x px) k apos)) pos.line X.env=pure false:=by rfl):DS X H0 P0 n0 (.Assign [.Subscript (.Name x px) k apos] e pos) (DU i m f mk g):=
 PS.imp (Hi hu (rN hN hv hd hcd) hk (ev m he) hs) fun D σ H gh=>by
  obtain⟨B0,ρ,fp,o,S,ef,kk⟩:=gh
  obtain⟨d,e1,ef2⟩:=XBs ef
  obtain⟨kds,e2,ef3⟩:=XBs ef2
  obtain⟨kd,e3,ef4⟩:=XBs ef3
  obtain⟨key,e4,ef5⟩:=XBs ef4
  obtain⟨hl,rfl⟩:=dU ef5
  clear ef ef2 ef3 ef4
  refine⟨B0,ρ,fp,d,S,e1,fun v H2 gh=>?_⟩
  obtain⟨fp2,S2,r2⟩:=gh
  obtain⟨p,ep,xs,h1,h2,_,_⟩:=S2.dic1 (QT e2)
  have hf:fZ kd=true:=by rw[SA e4]; cases key <;> simp[kD,fZ]
  refine⟨.ref p,h1,MK S2 e3 hf fun u H3 x3 r3=>?_⟩
  have S3:=S2.grow x3
  obtain⟨p3,ep3,xs3,q1,q2,q3,q4⟩:=S3.dic1 (QT e2)
  have:p3=p:=by rw[h1] at q1; cases q1; rfl
  subst this
  refine⟨p3,_,rfl,.inl ⟨ep3,xs3,key,q2,CD e4 r3,by rw[q3.length]; exact hl,rfl⟩,fun n=>kk _ _ fp2 (q4 n _ _ (Hr q3 (r2.2.ext (cS x3))))⟩
end
section
variable {X:Cx}{a b c:aX}{fa fb fc:EF}{pos:cE}
theorem GV {op op':CmpOp}{r r':R2}{g g':aA->aA->Option aA}(ho:OpR X (iH op) r)(ho':OpR X (iH op') r')(hg:OpD X.K 0 r g)(hg':OpD X.K 0 r' g')(ha:DE X a fa)(hb:DE X b fb)(hc:DE X c fc)
  (hm:lastMarks [op,op'] [b,c]=false:=by with_unfolding_all rfl):DT X (.Compare a [op,op'] [b,c] pos) (bOf (jX g g' fa fb fc)):=PT.imp (Tu ho ho' ha hb hc hm) fun σ H Q gh=>by
 obtain⟨P,ρ,t,hP,rs,ef,k⟩:=gh
 obtain⟨d,e1,ef⟩:=XBs ef
 cases rT ef
 exact Ta hg hg' σ H _ ⟨P,ρ,_,hP,rs,e1,cY fun v H1 x1 r1=>⟨t,Aar.mp r1,k H1 x1⟩⟩
end
variable {X:Cx}{e a b:aX}{f fa fb:EF}{pos:cE}
noncomputable def kL (x:aB)(lo hi:Option Int):aB:=
 if (wJ lo hi 1 x.length).length == x.length then x else⟨((wJ lo hi 1 x.length).filterMap (x.cps[·]?)).toArray⟩
theorem So (x:aB)(lo hi:Option Int):(kL x lo hi).length≤x.length:=by
 unfold kL
 split
 ·exact bY _
 ·refine iR ?_ (sliceIndices_le lo hi x.length)
  exact Xd _ _
theorem Tc {x:aB}(lo hi:Option Int)(h:cA (.str x)=true):cA (.str (kL x lo hi))=true:=by
 unfold kL
 split
 ·exact h
 ·simp only[cA,sN] at h ⊢
  rw[ZM,eK]
  intro c m
  obtain⟨i,_,e⟩:=wF.mp m
  exact Array.all_eq_true_iff_forall_mem.mp h c (Array.mem_of_getElem? e)
noncomputable def tH:aE->Option (Int×Tok)
 | .int i t=>some (i,t)
 | _=>none
theorem QN {v:aE}{o:Option Int}(h:qX v o):partValue (tH v)=v/\(tH v).map (·.1)=o:=by
 cases h with
 | none=>exact⟨rfl,rfl⟩
 | int i t=>exact⟨rfl,rfl⟩
def Be:V->Option Int->Option Int->Hp->VK->Prop:=fun x lo hi H Q=>∃ z,x = .str z/\z.length≤sizeLine/\Q (.str (kL z lo hi)) H
theorem Bew:SlR X Be:=by
 intro pins s σ H x v vl vu lo hi sl Q I rx hs pl pu h
 obtain⟨z,rfl,hz,q⟩:=h
 obtain⟨t,rfl⟩:=rx
 obtain⟨e1,m1⟩:=QN pl
 obtain⟨e2,m2⟩:=QN pu
 refine⟨"str",_,PySem.F.slot_str_getitem.lookup,vO s z t,?_⟩
 have hs':s.heap.IsSlice sl (tH vl) (tH vu) none:=by
  obtain⟨o,h1,h2,h3⟩:=hs
  exact⟨o,h1,h2,by rw[e1,e2]; exact h3⟩
 refine wpAny_getItem_str_slice hs' rfl ?_
 have es:slicePicked z (tH vl) (tH vu) none=wJ lo hi 1 z.length:=by
  unfold slicePicked
  rw[m1,m2]
  rfl
 unfold sliceMade
 rw[es]
 unfold kL at q
 by_cases hc:(wJ lo hi 1 z.length).length == z.length
 ·rw[if_pos hc] at q
  rw[if_pos (by rw[hc]; rfl)]
  exact⟨.str z,H,I,⟨t,rfl⟩,q⟩
 ·rw[if_neg hc] at q
  rw[if_neg (by simpa using hc)]
  refine⟨?_,⟨.str ⟨((wJ lo hi 1 z.length).filterMap (z.cps[·]?)).toArray⟩,H,I.tok _,⟨_,rfl⟩,q⟩⟩
  have:=So z lo hi
  unfold kL at this
  rw[if_neg hc] at this
  exact iR this hz
noncomputable def eSl (f:EF)(lo hi:OF):EF:=fun ρ=>(f ρ).bind fun d=>(lo ρ).bind fun l=>(hi ρ).bind fun h=>match d with
 | .str z=>if z.length≤sizeLine then some (.str (kL z l h)) else none
 | .tuple ds=>if HT.sIx ds.length 0 l=0/\HT.sIx ds.length ds.length h=ds.length then none else some (.tuple (cutD ds l h))
 | _=>none
theorem MV {lo hi:Option aX}{fl fh:OF}{pp:cE}(he:DE X e f)(hl:DO X lo fl)(hh:DO X hi fh):DE X (.Subscript e (.Slice lo hi none pp) pos) (eSl f fl fh):=PE.imp (OR (Bew.or Ew) he hl hh) fun σ H Q gh=>by
 obtain⟨P,ρ,d,hP,rs,ef,k⟩:=gh
 obtain⟨d1,e1,ef2⟩:=XBs ef
 obtain⟨l,e2,ef3⟩:=XBs ef2
 obtain⟨h,e3,ef4⟩:=XBs ef3
 clear ef ef2 ef3
 cases d1 with
 | str z=>
  obtain⟨hc,rfl⟩:=dU ef4
  refine⟨P,ρ,_,hP,rs,e1,cY fun v H1 x1 r1=>⟨P,ρ,l,hP.ext x1,rs.ext (cS x1),e2,fun H2 x2=>⟨P,ρ,h,hP.ext (x1.trans x2),rs.ext (cS (x1.trans x2)),e3,fun H3 x3=>?_⟩⟩⟩
  refine .inl ⟨z,(Aan.mp r1).1,hc,(k.mono ((x1.trans x2).trans x3)).zero Ext.refl (Aan.mpr ⟨rfl,Tc _ _ (Aan.mp r1).2⟩)⟩
 | tuple ds=>
  by_cases hw:HT.sIx ds.length 0 l=0/\HT.sIx ds.length ds.length h=ds.length
  ·have ef5:(if HT.sIx ds.length 0 l=0/\HT.sIx ds.length ds.length h=ds.length then none else some (fU (cutD ds l h)))=some d:=ef4
   rw[if_pos hw] at ef5; cases ef5
  have ef5:(if HT.sIx ds.length 0 l=0/\HT.sIx ds.length ds.length h=ds.length then none else some (fU (cutD ds l h)))=some d:=ef4
  rw[if_neg hw] at ef5
  cases ef5
  refine⟨P,ρ,_,hP,rs,e1,cY fun v H1 x1 r1=>⟨P,ρ,l,hP.ext x1,rs.ext (cS x1),e2,fun H2 x2=>⟨P,ρ,h,hP.ext (x1.trans x2),rs.ext (cS (x1.trans x2)),e3,fun H3 x3=>?_⟩⟩⟩
  obtain⟨q,ys,rfl,hq,rr⟩:=Aa0.mp (r1.ext (cS (x2.trans x3)))
  refine .inr ⟨q,ys,rfl,SqT.of (Aa9 _ _ hq),by rw[rr.length]; exact hw,fun p hp=>(k.mono ((x1.trans x2).trans x3)).tup (hP.ext ((x1.trans x2).trans x3)) hp ?_⟩
  unfold qJ cutD
  rw[rr.length]
  exact(rr.drop _).take _
 | _=>cases ef4
noncomputable def MS (K:aK):R2:=fun x y H Q=>∃ a b ys,x = .ref a/\y = .ref b/\SqT K H a []/\SqT K H b ys/\Q (.ref b) H
theorem Hz:OpR X (lC .Add) (MS X.K):=by
 intro pins s σ H x y v u Q I rx ry h
 obtain⟨a,b,ys,rfl,rfl,ha,hb,q⟩:=h
 cases rx
 cases ry
 obtain⟨its,r1,p1,_⟩:=I.tuple ha
 obtain⟨its2,r2,p2,_⟩:=I.tuple hb
 cases r1
 obtain⟨⟨cls,dd,data,sl⟩,ho,hc,n,hd⟩:=p1
 obtain⟨⟨cls2,dd2,data2,sl2⟩,ho2,hc2,n2,hd2⟩:=p2
 simp only at hc hd hc2 hd2
 subst hc hd hc2 hd2
 exact concat_meets ⟨_,ho,rfl⟩ ⟨_,ho2,rfl⟩ XW seq_tuple_add YI YJ (YK _ _)
  (tuple_addW0 a b _ _ n n2 dd dd2 sl sl2 rfl) ⟨ho,ho2,⟨.ref b,H,I,rfl,q⟩⟩
noncomputable def tM:aA->aA->Option aA
 | .tuple xs,.tuple ys=>if xs.length+ys.length≤sizeLine then some (.tuple (xs++ys)) else none
 | _,_=>none
theorem Uu {K:aK}:OpD K 0 (fun x y H Q=>JB K x y H Q \/ MS K x y H Q) tM:=fun P H x y a b d Q hP ra rb e k=>by
 unfold tM at e
 split at e
 ·rename_i zs ys
  obtain⟨hc,rfl⟩:=dU e
  obtain⟨p,us,rfl,hp,r1⟩:=Aa0.mp ra
  obtain⟨q,ws,rfl,hq,r2⟩:=Aa0.mp rb
  have l1:=r1.length
  have l2:=r2.length
  cases zs with
  | nil=>
   have eu:us=[]:=by simpa using l1
   subst eu
   exact .inr ⟨p,q,ws,rfl,rfl,SqT.of (Aa9 _ _ hp),SqT.of (Aa9 _ _ hq),k.zero Ext.refl rb⟩
  | cons z zs=>
   refine .inl ⟨p,q,us,ws,rfl,rfl,SqT.of (Aa9 _ _ hp),SqT.of (Aa9 _ _ hq),fun z=>by rw[z] at l1; simp at l1,by rw[l1,l2]; exact hc,fun z=>?_,fun z r hr=>?_⟩
   ·subst z
    have:ys=[]:=by simpa using l2.symm
    subst this
    refine k.zero Ext.refl ?_
    rw[oD]
    exact ra
   ·exact k.tup hP hr (r1.append r2)
 ·cases e
theorem NF (ha:DE X a fa)(hb:DE X b fb):DE X (.BinOp a .Add b pos) (eOp tM fa fb):=rE (A2b.or Hz) Uu ha hb
end L2
namespace L2
open PySem PySem.Spec PyProof.Rows
def Aw6 (h:aW)(d:aD)(es:Array pP)(ep:Nat):Prop:=∃ o,h.get? d=some o/\o.ExactDict/\o.data = .dict es ep
theorem Aw6.keep {h h':aW}{d:aD}{es:Array pP}{ep:Nat}(x:Aw6 h d es ep)(k : ∀ o,h.get? d=some o->h'.get? d=some o):Aw6 h' d es ep:=
 let ⟨o,e,r⟩:=x; ⟨o,k o e,r⟩
theorem Aw6.ty {s:aG}{d:aD}{es:Array pP}{ep:Nat}(x:Aw6 s.heap d es ep):s.TypeIs (.ref d) "dict":=let ⟨o,e,c,_⟩:=x; ⟨o,e,c.1⟩
section
variable {prog:bQ}{w:bB}{A:cF}{E:aE->aG->Prop}{s:aG}{d it:aD}{es:Array pP}{ep i:Nat}
theorem Sm {Q:aE->aG->Prop}(nm:(d == jS)=false)(R:Aw6 s.heap d es ep)
  (q:Q (.ref s.heap.objs.size) { s with heap:=s.heap.push { cls:=.type "dict_keyiterator",data:=.fields #[.ref d,.int 0 0,.int es.size 0,.int ep 0] } }):aN (aT prog w) A (nU (.ref d)) Q E s:=by
 have ty:=R.ty
 obtain⟨o,eo,_,ed⟩:=R
 refine DX ty F.slot_dict_iter (kB F.slot_dict_iter ty F.entry_dict_iter
  ?_ (F.args_dict_iter_1 _))
 unfold Builtin.«dict.__iter__»
 refine aI ?_
 unfold Builtin.Dict.dictSlotNone
 refine aI (wpAny_notOrdered_dict ty ?_)
 refine aR ?_
 show aN _ _ (Builtin.Dict.showsAll d >>= _) _ _ s
 unfold Builtin.Dict.showsAll
 rw[if_neg (show ¬ (d == jS)=true by rw[nm]; exact oH)]
 refine aI (aR ?_)
 refine aI (XU eo ed ?_)
 refine aI (wpAny_dictEpoch eo ed ?_)
 refine aI (jE (aR ⟨_,rfl,"dict_keyiterator",_,
  ⟨_,eL _ rfl,rfl⟩,EU.lookup,?_⟩))
 simpa [eE] using q
theorem Ui {e:pP}{Q:Option aE->aG->Prop}(K:s.heap.IsKeyIter it d i es.size ep)(R:Aw6 s.heap d es ep)(x:es[i]?=some e)
  (q : ∀ h',h'.IsKeyIter it d (i+1) es.size ep->oG it s.heap h'->Q (some e.key) { s with heap:=h' }):aN (aT prog w) A (kC (.ref it)) Q E s:=by
 obtain⟨oi,ei,ci,di⟩:=id K
 obtain⟨o,eo,_,ed⟩:=R
 unfold kC
 refine aI (zH (vL K.typeIs
  EU (kB EU K.typeIs
   Xh ?_ (Xi _))))
 refine aI (aR ?_)
 refine aI ?_
 refine aI ?_
 first
  | refine aI (JP K.typeIs (aR ?_))
  | refine aI (JO K.typeIs (aR ?_))
 refine aI (zG ei di ?_)
 have own:Builtin.Dict_items.ownsTuple "dict_keyiterator" = false:=by decide
 simp only[own,iL,if_false]
 show aN _ _ (if (fR d == fT)=true then _ else _) _ _ s
 rw[if_neg (show ¬ (fR d == fT)=true from oH)]
 refine aI (aR ?_)
 refine aI (XU eo ed ?_)
 rw[if_neg (by simp)]
 refine aI (aR ?_)
 refine aI (wpAny_dictEpoch eo ed ?_)
 rw[if_neg (by simp)]
 refine aR ?_
 simp only[show ¬ ((i:Int)<0) from by omega,if_false,mE,x]
 refine aI ?_
 first
  | refine aI (JP K.typeIs (aR ?_))
  | refine aI (JO K.typeIs (aR ?_))
 refine aI (wpAny_isOneOf_keyiter K.typeIs ?_)
 show aN _ _ (setField (.ref it) 1 (eE ((i:Int)+1)) >>= _) _ _ s
 refine aI (wpAny_setField ei di (by simp) ?_)
 have K':(s.heap.update it (Obj.mapFields (·.setIfInBounds 1 (eE ((i:Int)+1))))).IsKeyIter it d (i+1) es.size ep:=
  ⟨_,pM _ ei (Obj.isFreed_of_fields (Obj.data_mapFields di _)),(Obj.cls_mapFields ..).trans ci,by
   rw[Obj.data_mapFields di]; simp[eE]⟩
 refine aI (jF ?_)
 refine aI (wpAny_isOneOf_keyiter
  K'.typeIs ?_)
 exact aR (aR ⟨_,rfl,aR (q _ K' (KS ..))⟩)
theorem Jl {Q:Option aE->aG->Prop}(hh:A.handled=none)(K:s.heap.IsKeyIter it d i es.size ep)(R:Aw6 s.heap d es ep)(x:es.size≤i)
  (q : ∀ h',Heap.ExtBut it s.heap h'->Q none { s with heap:=h' }):aN (aT prog w) A (kC (.ref it)) Q E s:=by
 obtain⟨oi,ei,ci,di⟩:=id K
 obtain⟨o,eo,_,ed⟩:=R
 unfold kC
 refine aI (zH (vL K.typeIs
  EU (kB EU K.typeIs
   Xh ?_ (Xi _))))
 refine aI (aR ?_)
 refine aI ?_
 refine aI ?_
 first
  | refine aI (JP K.typeIs (aR ?_))
  | refine aI (JO K.typeIs (aR ?_))
 refine aI (zG ei di ?_)
 have own:Builtin.Dict_items.ownsTuple "dict_keyiterator" = false:=by decide
 simp only[own,iL,if_false]
 show aN _ _ (if (fR d == fT)=true then _ else _) _ _ s
 rw[if_neg (show ¬ (fR d == fT)=true from oH)]
 refine aI (aR ?_)
 refine aI (XU eo ed ?_)
 rw[if_neg (by simp)]
 refine aI (aR ?_)
 refine aI (wpAny_dictEpoch eo ed ?_)
 rw[if_neg (by simp)]
 refine aR ?_
 simp only[show ¬ ((i:Int)<0) from by omega,if_false,mE,LH x]
 refine aI ?_
 first
  | refine aI (JP K.typeIs (aR ?_))
  | refine aI (JO K.typeIs (aR ?_))
 show aN _ _ (setField (.ref it) 0 .none >>= _) _ _ s
 refine aI (wpAny_setField ei di (by simp) ?_)
 refine aI ?_
 simp only[newExc,newTuple]
 refine aI (jE ?_ (by size_fits))
 refine aI (JS
  (by first | rfl | (simp only[firstArgMember]; rfl)) ?_)
 refine jE ?_ (by size_fits)
 simp only[raiseNew]
 refine aI (wpAny_handled ?_)
 rw[show A.in1.handled=none from hh]
 refine aI (aR (wpAny_throw ?_))
 refine aI (zF
  ⟨_,eL _ rfl,rfl⟩ isSubtype_stop ?_)
 exact aR (q _ (((KS ..).extBut.push _).push _))
theorem Vf (hh:A.handled=none)(I d:aD)(ne:d≠I)(es:Array pP)(ep:Nat) :
  Walks prog w A I [I,d] [I] es.size (fun i v=>∃ e,es[i]?=some e/\v=e.key) (fun i h=>h.IsKeyIter I d i es.size ep/\Aw6 h d es ep) where
 sub:=fun b hb=>by simp at hb; simp[hb]
 frame:=fun _ _ _ st hk=>⟨st.1.at fun o e=>hk I (by simp) o e,st.2.keep fun o e=>hk d (by simp) o e⟩
 item:=fun i s Q E hi st hQ=>by
  have hx:=jV hi
  refine Ui st.1 st.2 hx fun h' K' hs=>?_
  exact hQ _ h' s.toks ⟨_,hx,rfl⟩ ⟨K',st.2.keep fun o e=>hs.extBut d o ne e⟩ fun b o hb e=>hs.extBut b o (fun h=>hb (by simp[h])) e
 done:=fun s Q E st hQ=>Jl hh st.1 st.2 (bY _) fun h' he=>hQ h' s.toks fun b o hb e=>he b o (fun h=>hb (by simp[h])) e
 self:=fun _ _ _ _ st hQ=>wpAny_pyIter_keyiter st.1 hQ
theorem Po:typeLookup (.type "dict") "__len__" = pure (some (.builtin "dict.__len__")):=by rw[typeLookup_type,XY]; kernel_rfl
theorem Lm {R:Result->aG->Prop}(hh:A.handled=none)(nm:(d == jS)=false)(D:Aw6 s.heap d es ep)(S:aD)(res:aE)(c₀:Nat)(hSd:S≠d)
  (hS:s.heap.get? S=some { cls:=.type "list",data:=.seq #[] c₀ }) (hn:es.size≤sizeLine)
  (q : ∀ h' tk acc c',(∀ b o,b≠S->s.heap.get? b=some o->h'.get? b=some o)->h'.get? S=some { cls:=.type "list",dict:=none,data:=.seq acc c',slots:=#[] } ->
   ItemsOf (fun i v=>∃ e,es[i]?=some e/\v=e.key) acc es.size->R (.ok (.ret res)) { s with heap:=h',toks:=tk }) :
  aN (aT prog w) A.in1 (rA (.ref S) (.ref d) res)
   (fun fin s'=>match fin with | .done f=>R (.ok f) s' | .again c'=>c'.quiet=true/\nW (aT prog w) A c' R s') (fun e s'=>R (.error e) s') s:=by
 have ty:=D.ty
 unfold rA
 refine aI (sG ty ?_)
 have h1:wK (.ref S) (.ref d)=false:=by
  simp[wK,hSd]
 have h2:(hE "dict" == hE "list")=false:=by decide
 have h3:(hE "dict" == hE "tuple")=false:=by decide
 simp only[h1,h2,h3,Bool.or_false,iL,if_false]
 refine aI (Sm nm D ?_)
 refine aI (jF ?_)
 have hd0:d<s.heap.objs.size:=by obtain⟨o,e,_⟩:=D; exact cI e
 have hS0:S<s.heap.objs.size:=cI hS
 have keepP : ∀ b o,s.heap.get? b=some o->(s.heap.push { cls:=.type "dict_keyiterator",data:=.fields #[.ref d,.int 0 0,.int es.size 0,.int ep 0] }).get? b=some o:=fun b o e=>cL _ e
 have D':Aw6 (s.heap.push { cls:=.type "dict_keyiterator",data:=.fields #[.ref d,.int 0 0,.int es.size 0,.int ep 0] }) d es ep:=D.keep fun o e=>keepP d o e
 have itG:(s.heap.push { cls:=.type "dict_keyiterator",data:=.fields #[.ref d,.int 0 0,.int es.size 0,.int ep 0] }).IsKeyIter s.heap.objs.size d 0 es.size ep:=⟨_,eL _ rfl,rfl,rfl⟩
 unfold LD
 refine aI (vJ (T:="dict") (v:=.ref d) (by obtain⟨o,e,c,_⟩:=D'; exact⟨o,e,c.1⟩) Po ?_)
 wp_delta
 refine aI (zF (T:="dict") (v:=.ref d) (b:=true) (by obtain⟨o,e,c,_⟩:=D'; exact⟨o,e,c.1⟩) (by rw[isSubtype_type]; kernel_rfl) ?_)
 show aN _ _ (typeOf (fR d) >>= _) _ _ _
 refine aI (sG (T:="dict") (v:=.ref d) (by obtain⟨o,e,c,_⟩:=D'; exact⟨o,e,c.1⟩) ?_)
 refine aR ?_
 rw[if_pos (by decide)]
 refine aI (wpAny_rule ?_)
 refine aI ?_
 have S1:=keepP _ _ hS
 generalize(s.heap.push { cls:=.type "dict_keyiterator",data:=.fields #[.ref d,.int 0 0,.int es.size 0,.int ep 0] })=G at keepP D' S1 itG ⊢
 show aN _ _ (vN S (·.push .none) >>= fun _=>vN S (·.pop)) _ _ _
 refine aI (vI S1 rfl ?_)
 have S2:=pM (gJ (·.push fT)) S1 rfl
 refine vI (hz:=by seq_fits) S2 rfl ?_
 have S3:=pM (gJ (·.pop)) S2 rfl
 have other : ∀ b o,b≠S->G.get? b=some o->((G.update S (gJ (·.push fT))).update S (gJ (·.pop))).get? b=some o:=fun b o hb e=>
  (qY _ _ (kI hb)).trans ((qY _ _ (kI hb)).trans e)
 have hne:d≠s.heap.objs.size:=cT hd0
 have hSf:S∉[s.heap.objs.size,d]:=fun hm=>by
  rcases cQ.mp hm with z | z
  ·exact absurd hS0 (by rw[z]; exact lZ _)
  ·exact hSd (dP.mp z)
 refine aR ⟨sI ZO _,XX (Vf (A:=A.in1) hh s.heap.objs.size d hne es ep).toS hn _ hSf _ es.size 0 _ _ _ rfl (eY _)
  ⟨itG.at fun o e=>other _ o (lX hS0) e,D'.keep fun o e=>other _ o (kI hSd) e⟩ S3 (ItemsOf.nil _) fun s' acc c' hm hS' hacc=>?_⟩
 rw[Moved.eq_with hm]
 refine q s'.heap s'.toks acc c' (fun b ob hb e=>hm.heap b ob (fun hmem=>?_) (other b ob hb (keepP _ _ e))) hS' hacc
 rcases cQ.mp hmem with z | hmem
 ·exact hb z
 ·exact absurd (cI e) (by rw[dP.mp hmem]; exact lZ _)
theorem Te {Q:aE->aG->Prop}(hh:A.handled=none)(nm:(d == jS)=false)(D:Aw6 s.heap d es ep)(hn:es.size≤sizeLine)
  (q : ∀ h' tk acc c',(∀ b o,s.heap.get? b=some o->h'.get? b=some o)->h'.get? s.heap.objs.size=some { cls:=.type "list",dict:=none,data:=.seq acc c',slots:=#[] } ->
   ItemsOf (fun i v=>∃ e,es[i]?=some e/\v=e.key) acc es.size->Q (.ref s.heap.objs.size) { s with heap:=h',toks:=tk }):aN (aT prog w) A (call (.type "list") [.ref d]) Q E s:=by
 refine callType_codes (Q₁:=fun obj s₁=>obj = .ref s.heap.objs.size/\s₁ = { s with heap:=s.heap.push { cls:=.type "list",data:=.seq #[] } })
  F.called_list (F.typeCall_list_1 _) F.entry_list_init (code_list_new _ ⟨rfl,rfl⟩) fun obj s₁ h₁=>?_
 obtain⟨rfl,rfl⟩:=h₁
 have hd0:d<s.heap.objs.size:=by obtain⟨o,e,_⟩:=D; exact cI e
 have N1:(s.heap.push { cls:=.type "list",data:=.seq #[] }).get? s.heap.objs.size=some { cls:=.type "list",data:=.seq #[] }:=eL _ rfl
 refine⟨⟨_,N1,rfl⟩,F.args_list_init_2 _ _,?_⟩
 show aN _ _ (do
  let old ← Builtin.List.listItems (.ref s.heap.objs.size)
  Builtin.List.listUpdate (.ref s.heap.objs.size) (fun _=>#[])
  letGo old.toList.reverse
  rA (.ref s.heap.objs.size) (.ref d) .none) _ _ _
 refine aI ?_
 unfold Builtin.List.listItems
 refine aI (zE N1 rfl (aR ?_))
 show aN _ _ (vN s.heap.objs.size (fun _=>#[]) >>= fun _=>letGo (#[]:Array aE).toList.reverse >>= fun _=>
  rA (.ref s.heap.objs.size) (.ref d) .none) _ _ _
 refine aI (vI N1 rfl ?_)
 have N2:=pM (gJ (fun _=>(#[]:Array aE))) N1 rfl
 have other : ∀ b o,b≠s.heap.objs.size->(s.heap.push { cls:=.type "list",data:=.seq #[] }).get? b=some o ->
   ((s.heap.push { cls:=.type "list",data:=.seq #[] }).update s.heap.objs.size (gJ (fun _=>(#[]:Array aE)))).get? b=some o:=fun b o hb e=>(qY _ _ (kI hb)).trans e
 refine aI (wpAny_letGo ?_)
 refine Lm (A:=A.in1) hh nm (D.keep fun o e=>other d o (cT hd0) (cL _ e)) s.heap.objs.size .none _ (lX hd0) N2 hn fun h' tk acc c' hk hS' hacc=>?_
 exact⟨rfl,q h' tk acc c' (fun b o e=>hk b o (cT (cI e)) (other b o (cT (cI e)) (cL _ e))) hS' hacc⟩
end
section
variable {X:Cx}{pins:List (aD×aY)}{σ:St}{H:Hp}{s:aG}
theorem IB {P:bQ}{w:bB} : ∀ {es:List pP} {kvs:List (aO×V)} {vs:List (aO×aE)},KV kvs vs->PySem.Pairs (iO P w) es vs->Vals (kvs.map fun kv=>kV kv.1) (es.map (·.key))
 | [],kvs,vs,r,p=>by
  cases p
  cases r
  exact .nil
 | e::es,kvs,vs,r,p=>by
  cases p with
  | cons h hv t=>
   cases r with
   | cons h' t'=>
    refine .cons ?_ (IB t' t)
    show RelV (kV _) e.key
    rw[h'.1]
    rcases nM h with⟨i,tk,e1,e2⟩ | ⟨x,tk,e1,e2⟩
    ·rw[e1,e2]; exact⟨tk,rfl⟩
    ·rw[e1,e2]; exact⟨tk,rfl⟩
theorem Kx {es:Array pP}{acc:Array aE}(h:ItemsOf (fun i v=>∃ e,es[i]?=some e/\v=e.key) acc es.size):acc.toList=es.toList.map (·.key):=by
 obtain⟨h1,h2⟩:=h
 apply ZH
 intro i
 rw[fK]
 by_cases hi:i<acc.size
 ·have ha:acc.toList[i]?=some acc[i]:=by simp[hi]
  obtain⟨e,he,hv⟩:=h2 i acc[i] (by simp[hi])
  have he':es.toList[i]?=some e:=by simpa using he
  rw[ha,he',hv]
  rfl
 ·have ha:acc.toList[i]?=none:=by simp; omega
  have he:es.toList[i]?=none:=by simp; omega
  rw[ha,he]
  rfl
theorem Ec {ep0:Nat}{kvs:List (aO×V)}{a:aD}(I:Inv X pins σ H s)(ha:H a=some (.dK ep0 kvs)):kvs.length≤sizeLine/\(a == jS)=false /\ ∃ es ep,Aw6 s.heap a es ep/\Vals (kvs.map fun kv=>kV kv.1) (es.toList.map (·.key))/\es.size=kvs.length:=by
 obtain⟨z,nm,vs,r,o,es,ep,e1,e2,e3,_,e5,_⟩:=MH I.hok ha
 refine⟨z,nm,es,ep,⟨o,e1,e2,e3⟩,IB r e5,?_⟩
 have l1:=(IB r e5).length
 simp at l1
 exact l1.symm
theorem Mj (hc:X.calm=true):Aeh X (.type "list") (fun xs H Q=>∃ a ep kvs,xs=[.ref a]/\H a=some (.dK ep kvs) /\ ∀ l,H l=none->Q (.ref l) (upd H l (.lst (kvs.map fun kv=>kV kv.1)))):=by
 intro pins s σ H xs us Q I r h
 obtain⟨a,ep1,kvs,rfl,ha,q⟩:=h
 obtain⟨u,rfl,ru⟩:=vals1 r
 cases ru
 obtain⟨z,nm,es,ep,D,rv,el⟩:=Ec I ha
 refine Te (I.ok.hd hc) nm D (by omega) fun h' tk acc c' hk hS hacc=>?_
 have ea:=Kx hacc
 rw[← ea] at rv
 exact⟨.ref s.heap.objs.size,_,I.laid hk (bY _) (show Acv X.prog X.w _ h' _ (.lst _) from⟨by rw[dJ]; exact z,acc.toList,c',rv,by simpa using hS⟩),rfl,q _ I.fresh⟩
theorem RU {K:aK} : ∀ {kds:List (aA×aA)} {kvs:List (aO×V)},Acq K H kds kvs->(∀ kd∈kds,cA kd.1=true)->Aau K H (kds.map (·.1)) (kvs.map fun kv=>kV kv.1)
 | [],kvs,r,_=>by rw[Acp.mp r]; exact Aat.mpr rfl
 | (k,d)::kds,kvs,r,h=>by
  obtain⟨k',x,rr,rfl,rfl,h1,h2⟩:=Abh.mp r
  refine Aal.mpr ⟨_,_,rfl,?_,RU h2 fun kd m=>h kd (bZ _ m)⟩
  have hl:=h (kD k',d) bR
  cases k' with
  | inl i=>exact Aaq.mpr rfl
  | inr z=>exact Aan.mpr ⟨rfl,hl⟩
noncomputable def JL:List aA->Option aA
 | [.dict kds]=>if (plK kds&&kds.all fun kd=>cA kd.1)=true then some (.list (kds.map (·.1))) else none
 | _=>none
theorem Od {K:aK}:CallD K 1 (fun xs H Q=>∃ a ep kvs,xs=[.ref a]/\H a=some (.dK ep kvs) /\ ∀ l,H l=none->Q (.ref l) (upd H l (.lst (kvs.map fun kv=>kV kv.1)))) JL:=fun P H xs ds d Q hP r e k=>by
 unfold JL at e
 split at e
 ·obtain⟨hl,rfl⟩:=dU e
  obtain⟨v,rfl,r'⟩:=jA r
  obtain⟨pk,hl⟩:=oI.mp hl
  obtain⟨q,ys,rfl,hq,rr⟩:=(GL pk).mp r'
  exact⟨q,ys.1,ys.2,rfl,Aa9 _ _ hq,fun l hl'=>k.lst hP hl' (RU rr (eK.mp hl))⟩
 ·cases e
end
open PySem PySem.W PyProof.Rows
noncomputable def evT {α:Type}(lt:Nat->Nat->Bool):KasT α->α
 | .ret a=>a
 | .ask i j k=>evT lt (k (lt i j))
theorem uB {α β:Type}(lt:Nat->Nat->Bool)(f:α->KasT β) : ∀ t:KasT α,evT lt (t.bind f)=evT lt (f (evT lt t))
 | .ret _=>rfl
 | .ask i j k=>uB lt f (k (lt i j))
structure Ord (lt:Nat->Nat->Bool):Prop where
 asym : ∀ a b,lt a b=true->lt b a=false
 tr : ∀ a b c,lt b a=false->lt c b=false->lt c a=false
section
variable {lt:Nat->Nat->Bool}(O:Ord lt)
noncomputable abbrev at' (p:Array Nat)(i:Nat):Nat:=p.getD i 0
def iA (lt:Nat->Nat->Bool)(p:Array Nat)(m:Nat):Prop:=∀ i j,i≤j->j<m->lt (at' p j) (at' p i)=false
def rC (lt:Nat->Nat->Bool)(p:Array Nat)(m:Nat):Prop:=∀ i j,i≤j->j<m->lt (at' p i) (at' p j)=false
include O
theorem Ord.refl (a:Nat):lt a a=false:=by
 cases h:lt a a with
 | false=>rfl
 | true=>exact absurd (O.asym a a h) (by rw[h]; decide)
theorem Jj {p:Array Nat}{n:Nat}(h1:1≤n)(h:iA lt p n)(hl:lt (at' p n) (at' p (n - 1))=false):iA lt p (n+1):=fun i j hij hj=>by
 by_cases c:j<n
 ·exact h i j hij c
 ·obtain rfl:j=n:=by omega
  by_cases d:i=j
  ·subst d; exact O.refl _
  ·exact O.tr _ _ _ (h i (j - 1) (by omega) (by omega)) hl
theorem xD {p:Array Nat}{n:Nat}(h1:1≤n)(h:rC lt p n)(hl:lt (at' p (n - 1)) (at' p n)=false):rC lt p (n+1):=fun i j hij hj=>by
 by_cases c:j<n
 ·exact h i j hij c
 ·obtain rfl:j=n:=by omega
  by_cases d:i=j
  ·subst d; exact O.refl _
  ·exact O.tr _ _ _ hl (h i (j - 1) (by omega) (by omega))
theorem Jg (p:Array Nat):iA lt p 1:=fun i j hij hj=>by
 obtain rfl:j=0:=by omega
 obtain rfl:i=0:=by omega
 exact O.refl _
theorem GE {p:Array Nat} : ∀ (f n:Nat),1≤n->iA lt p n->n≤evT lt (kas_asc p f n)/\evT lt (kas_asc p f n)≤n+f/\iA lt p (evT lt (kas_asc p f n))/\(evT lt (kas_asc p f n)<n+f->lt (at' p (evT lt (kas_asc p f n))) (at' p (evT lt (kas_asc p f n) - 1))=true)
 | 0,n,h1,h=>⟨bY _,bY _,h,fun z=>absurd z (by show ¬ n<n+0; omega)⟩
 | f+1,n,h1,h=>by
  have e:evT lt (kas_asc p (f+1) n)=evT lt (if lt (at' p n) (at' p (n - 1))=true then KasT.ret n else kas_asc p f (n+1)):=rfl
  rw[e]
  by_cases c:lt (at' p n) (at' p (n - 1))=true
  ·rw[if_pos c]
   exact⟨bY _,by show n≤n+(f+1); omega,h,fun _=>c⟩
  ·rw[if_neg c]
   obtain⟨a1,a2,a3,a4⟩:=GE f (n+1) (by omega) (Jj O h1 h (by simpa using c))
   exact⟨by omega,by omega,a3,fun z=>a4 (by omega)⟩
theorem HS {p:Array Nat}{k:Nat}(h:iA lt p k) : ∀ (f l r:Nat),l≤r->r≤k->r - l≤f->(∀ i<l,lt (at' p k) (at' p i)=false)->(∀ i,r≤i->i<k->lt (at' p i) (at' p k)=false) ->
  evT lt (kas_place p k f l r)≤k/\(∀ i<evT lt (kas_place p k f l r),lt (at' p k) (at' p i)=false) /\ ∀ i,evT lt (kas_place p k f l r)≤i->i<k->lt (at' p i) (at' p k)=false
 | 0,l,r,h1,h2,h3,hl,hr=>by
  have e:evT lt (kas_place p k 0 l r)=l:=rfl
  obtain rfl:l=r:=by omega
  rw[e]
  exact⟨h2,hl,hr⟩
 | f+1,l,r,h1,h2,h3,hl,hr=>by
  unfold kas_place
  by_cases c:l ≥ r
  ·rw[if_pos c]
   obtain rfl:l=r:=by omega
   exact⟨h2,hl,hr⟩
  ·rw[if_neg c]
   show evT lt (if lt (at' p k) (at' p ((l+r) / 2))=true then kas_place p k f l ((l+r) / 2) else kas_place p k f ((l+r) / 2+1) r)≤k/\_
   by_cases d:lt (at' p k) (at' p ((l+r) / 2))=true
   ·have e:evT lt (KasT.ask (p.getD k 0) (p.getD ((l+r) / 2) 0) fun c=>if c=true then kas_place p k f l ((l+r) / 2) else kas_place p k f ((l+r) / 2+1) r)=evT lt (kas_place p k f l ((l+r) / 2)):=by
     show evT lt (if lt (at' p k) (at' p ((l+r) / 2))=true then _ else _)=_
     rw[if_pos d]
    rw[e,if_pos d]
    exact HS h f l ((l+r) / 2) (by omega) (by omega) (by omega) hl fun i a b=>O.tr _ _ _ (O.asym _ _ d) (h _ i a b)
   ·have d':lt (at' p k) (at' p ((l+r) / 2))=false:=by simpa using d
    have e:evT lt (KasT.ask (p.getD k 0) (p.getD ((l+r) / 2) 0) fun c=>if c=true then kas_place p k f l ((l+r) / 2) else kas_place p k f ((l+r) / 2+1) r)=evT lt (kas_place p k f ((l+r) / 2+1) r):=by
     show evT lt (if lt (at' p k) (at' p ((l+r) / 2))=true then _ else _)=_
     rw[if_neg d]
    rw[e,if_neg d]
    refine HS h f ((l+r) / 2+1) r (by omega) h2 (by omega) (fun i hi=>?_) hr
    exact O.tr _ _ _ (h i ((l+r) / 2) (by omega) (by omega)) d'
end
theorem at_of {p:Array Nat}(i:Nat):at' p i=(p[i]?).getD 0:=LI
theorem VD {p:Array Nat}{k l:Nat}(hk:k<p.size)(hl:l≤k)(i:Nat):at' (bubble p k (k - l)) i=if i=l then at' p k else if l<i/\i≤k then at' p (i - 1) else at' p i:=by
 have e:k - (k - l)=l:=by omega
 have q:=getElem?_bubble hk (k - l) (by omega) i
 rw[e] at q
 simp only[at_of,q]
 split
 ·rfl
 ·split <;> rfl
theorem lP {p:Array Nat}{i j:Nat}(hj:j≤p.size)(k:Nat):at' (kas_rev p i j) k=if i≤k/\k<j then at' p (i+j - 1 - k) else at' p k:=by
 have q:=getElem?_mirror_all (i:=i) hj k
 simp only[at_of]
 unfold kas_rev
 rw[q]
 split <;> rfl
theorem GT (p:Array Nat)(i j:Nat):(kas_rev p i j).size=p.size:=mirror_size _ _ _ _
theorem pY (p:Array Nat)(i j:Nat):(kas_rev p i j).Perm p:=mirror_perm _ _ _ _
section
variable {lt:Nat->Nat->Bool}(O:Ord lt)
include O
theorem XA : ∀ (f:Nat) (p:Array Nat) (k:Nat),iA lt p k->k+f≤p.size->(evT lt (kas_bin f p k)).Perm p/\iA lt (evT lt (kas_bin f p k)) (k+f)
 | 0,p,k,h,_=>⟨EX _,h⟩
 | f+1,p,k,h,hz=>by
  have e:evT lt (kas_bin (f+1) p k)=evT lt (kas_bin f (bubble p k (k - evT lt (kas_place p k k 0 k))) (k+1)):=by
   show evT lt ((kas_place p k k 0 k).bind fun l=>kas_bin f (bubble p k (k - l)) (k+1))=_
   rw[uB]
  obtain⟨h1,h2,h3⟩:=HS O h k 0 k (eY _) (bY _) (by omega) (fun i hi=>absurd hi (by omega)) (fun i a b=>absurd b (by omega))
  rw[e]
  generalize evT lt (kas_place p k k 0 k)=l at h1 h2 h3
  have hk:k<p.size:=by omega
  have A':iA lt (bubble p k (k - l)) (k+1):=fun i j hij hj=>by
   rw[VD hk h1,VD hk h1]
   by_cases ci:i=l
   ·rw[if_pos ci]
    by_cases cj:j=l
    ·rw[if_pos cj]; exact O.refl _
    ·rw[if_neg cj,if_pos ⟨by omega,by omega⟩]
     exact h3 (j - 1) (by omega) (by omega)
   ·rw[if_neg ci]
    by_cases cj:j=l
    ·rw[if_pos cj,if_neg (by omega)]
     exact h2 i (by omega)
    ·rw[if_neg cj]
     by_cases di:l<i/\i≤k
     ·rw[if_pos di,if_pos ⟨by omega,by omega⟩]
      exact h (i - 1) (j - 1) (by omega) (by omega)
     ·rw[if_neg di]
      by_cases dj:l<j/\j≤k
      ·rw[if_pos dj]
       exact h i (j - 1) (by omega) (by omega)
      ·rw[if_neg dj]
       exact h i j hij (by omega)
  obtain⟨a1,a2⟩:=XA f (bubble p k (k - l)) (k+1) A' (by rw[bubble_size]; omega)
  exact⟨a1.trans (bubble_perm _ _ _),by rw[show k+(f+1)=k+1+f by omega]; exact a2⟩
structure Fall (lt:Nat->Nat->Bool)(p:Array Nat)(n q:Nat):Prop where
 pos:q+1≤n
 dsc:rC lt p n
 eq : ∀ i j,n - (q+1)≤i->i<n->n - (q+1)≤j->j<n->lt (at' p i) (at' p j)=false
theorem Fall.rev {p:Array Nat}{n q:Nat}(F:Fall lt p n q)(hz:n≤p.size):Fall lt (kas_rev p (n - (q+1)) n) n q:=by
 have hp:=F.pos
 refine⟨hp,fun i j hij hj=>?_,fun i j a b c d=>?_⟩
 ·rw[lP hz,lP hz]
  by_cases ci:n - (q+1)≤i/\i<n
  ·rw[if_pos ci,if_pos ⟨by omega,hj⟩]
   exact F.eq _ _ (by omega) (by omega) (by omega) (by omega)
  ·rw[if_neg ci]
   by_cases cj:n - (q+1)≤j/\j<n
   ·rw[if_pos cj]
    exact F.dsc _ _ (by omega) (by omega)
   ·rw[if_neg cj]
    exact F.dsc i j hij hj
 ·rw[lP hz,lP hz,if_pos ⟨a,b⟩,if_pos ⟨c,d⟩]
  exact F.eq _ _ (by omega) (by omega) (by omega) (by omega)
theorem BO : ∀ (f:Nat) (p:Array Nat) (n q:Nat),Fall lt p n q->n+f≤p.size->(evT lt (kas_desc f p n q)).1.Perm p/\n≤(evT lt (kas_desc f p n q)).2.1/\(evT lt (kas_desc f p n q)).2.1≤n+f/\Fall lt (evT lt (kas_desc f p n q)).1 (evT lt (kas_desc f p n q)).2.1 (evT lt (kas_desc f p n q)).2.2
 | 0,p,n,q,F,_=>⟨EX _,bY _,bY _,F⟩
 | f+1,p,n,q,F,hz=>by
  have hp:=F.pos
  have e:evT lt (kas_desc (f+1) p n q)=evT lt (if lt (at' p n) (at' p (n - 1))=true then(if q > 0 then kas_desc f (kas_rev p (n - (q+1)) n) (n+1) 0 else kas_desc f p (n+1) 0) else KasT.ask (p.getD (n - 1) 0) (p.getD n 0) fun d=>if d=true then .ret (p,n,q) else kas_desc f p (n+1) (q+1)):=rfl
  rw[e]
  by_cases c:lt (at' p n) (at' p (n - 1))=true
  ·rw[if_pos c]
   by_cases hq:q > 0
   ·rw[if_pos hq]
    have F':=F.rev O (by omega)
    have hn:at' (kas_rev p (n - (q+1)) n) n=at' p n:=by rw[lP (by omega),if_neg (by omega)]
    have F2:Fall lt (kas_rev p (n - (q+1)) n) (n+1) 0:=by
     refine⟨by omega,xD O (by omega) F'.dsc ?_,fun i j a b c' d=>?_⟩
     ·rw[hn,lP (by omega),if_pos ⟨by omega,by omega⟩]
      exact O.tr _ _ _ (O.asym _ _ c) (F.eq _ _ (by omega) (by omega) (by omega) (by omega))
     ·obtain rfl:i=n:=by omega
      obtain rfl:j=i:=by omega
      exact O.refl _
    obtain⟨a1,a2,a3,a4⟩:=BO f _ (n+1) 0 F2 (by rw[GT]; omega)
    exact⟨a1.trans (pY _ _ _),by omega,by omega,a4⟩
   ·rw[if_neg hq]
    have F2:Fall lt p (n+1) 0:=by
     refine⟨by omega,xD O (by omega) F.dsc (O.asym _ _ c),fun i j a b c' d=>?_⟩
     obtain rfl:i=n:=by omega
     obtain rfl:j=i:=by omega
     exact O.refl _
    obtain⟨a1,a2,a3,a4⟩:=BO f _ (n+1) 0 F2 (by omega)
    exact⟨a1,by omega,by omega,a4⟩
  ·rw[if_neg c]
   have c':lt (at' p n) (at' p (n - 1))=false:=by simpa using c
   have e2:evT lt (KasT.ask (p.getD (n - 1) 0) (p.getD n 0) fun d=>if d=true then .ret (p,n,q) else kas_desc f p (n+1) (q+1))=evT lt (if lt (at' p (n - 1)) (at' p n)=true then .ret (p,n,q) else kas_desc f p (n+1) (q+1)):=rfl
   rw[e2]
   by_cases d:lt (at' p (n - 1)) (at' p n)=true
   ·rw[if_pos d]
    exact⟨EX _,bY _,by show n≤n+(f+1); omega,F⟩
   ·rw[if_neg d]
    have d':lt (at' p (n - 1)) (at' p n)=false:=by simpa using d
    have F2:Fall lt p (n+1) (q+1):=by
     refine⟨by omega,xD O (by omega) F.dsc d',fun i j a b a' b'=>?_⟩
     by_cases ci:i=n
     ·by_cases cj:j=n
      ·rw[ci,cj]; exact O.refl _
      ·rw[ci]
       exact O.tr _ _ _ (F.eq (n - 1) j (by omega) (by omega) (by omega) (by omega)) c'
     ·by_cases cj:j=n
      ·rw[cj]
       exact O.tr _ _ _ d' (F.eq i (n - 1) (by omega) (by omega) (by omega) (by omega))
      ·exact F.eq i j (by omega) (by omega) (by omega) (by omega)
    obtain⟨a1,a2,a3,a4⟩:=BO f _ (n+1) (q+1) F2 (by omega)
    exact⟨a1,by omega,by omega,a4⟩
end
section
variable {lt:Nat->Nat->Bool}(O:Ord lt)
include O
theorem Ij {p:Array Nat}{n:Nat}(h:rC lt p n)(hz:n≤p.size):iA lt (kas_rev p 0 n) n:=fun i j hij hj=>by
 rw[lP hz,lP hz,if_pos ⟨eY _,hj⟩,if_pos ⟨eY _,by omega⟩]
 exact h _ _ (by omega) (by omega)
theorem NT {p:Array Nat}{n m:Nat}(h1:1≤n)(hn:n≤m)(hz:m≤p.size)(h:rC lt p n):(evT lt (kas_tail3 n m p)).2.Perm p/\(evT lt (kas_tail3 n m p)).1≤m/\1≤(evT lt (kas_tail3 n m p)).1/\iA lt (evT lt (kas_tail3 n m p)).2 (evT lt (kas_tail3 n m p)).1:=by
 unfold kas_tail3
 rw[uB]
 obtain⟨a1,a2,a3,_⟩:=GE O (m - n) n h1 (Ij O h (by omega))
 exact⟨pY _ _ _,by show evT lt (kas_asc (kas_rev p 0 n) (m - n) n)≤m; omega,by show 1≤evT lt (kas_asc (kas_rev p 0 n) (m - n) n); omega,a3⟩
theorem OG {p:Array Nat}{n m:Nat}(h1:1≤n)(hn:n+1≤m)(hz:m≤p.size)(h:rC lt p (n+1)):(evT lt (kas_descPart n m p)).2.Perm p/\(evT lt (kas_descPart n m p)).1≤m/\1≤(evT lt (kas_descPart n m p)).1/\iA lt (evT lt (kas_descPart n m p)).2 (evT lt (kas_descPart n m p)).1:=by
 have F0:Fall lt p (n+1) 0:=⟨by omega,h,fun i j a b c d=>by
  obtain rfl:i=n:=by omega
  obtain rfl:j=i:=by omega
  exact O.refl _⟩
 obtain⟨a1,a2,a3,a4⟩:=BO O (m - (n+1)) p (n+1) 0 F0 (by omega)
 unfold kas_descPart
 rw[uB]
 generalize evT lt (kas_desc (m - (n+1)) p (n+1) 0)=r at a1 a2 a3 a4
 have hs:=a1.size_eq
 split
 ·have F':=a4.rev O (by omega)
  obtain⟨b1,b2,b3,b4⟩:=NT O (by omega) (by omega) (by rw[GT]; omega) F'.dsc (m:=m)
  exact⟨b1.trans ((pY _ _ _).trans a1),b2,b3,b4⟩
 ·obtain⟨b1,b2,b3,b4⟩:=NT O (by omega) (by omega) (by omega) a4.dsc (m:=m)
  exact⟨b1.trans a1,b2,b3,b4⟩
theorem QP {p:Array Nat}{m:Nat}(h1:1≤m)(hz:m≤p.size):(evT lt (kas_count m p)).2.Perm p/\(evT lt (kas_count m p)).1≤m/\1≤(evT lt (kas_count m p)).1/\iA lt (evT lt (kas_count m p)).2 (evT lt (kas_count m p)).1:=by
 obtain⟨a1,a2,a3,a4⟩:=GE O (m - 1) 1 (bY _) (Jg O p)
 unfold kas_count
 rw[uB]
 generalize evT lt (kas_asc p (m - 1) 1)=n at a1 a2 a3 a4
 by_cases c:(n == m)=true
 ·rw[if_pos c]
  exact⟨EX _,by show n≤m; omega,a1,a3⟩
 ·rw[if_neg c]
  have hnm:n≠m:=by simpa using c
  have hl:=a4 (by omega)
  by_cases d:n > 1
  ·rw[if_pos d]
   show(evT lt (if lt (at' p 0) (at' p (n - 1))=true then KasT.ret (n,p) else kas_descPart n m (kas_rev p 0 n))).2.Perm p/\(evT lt (if lt (at' p 0) (at' p (n - 1))=true then KasT.ret (n,p) else kas_descPart n m (kas_rev p 0 n))).1≤m/\1≤(evT lt (if lt (at' p 0) (at' p (n - 1))=true then KasT.ret (n,p) else kas_descPart n m (kas_rev p 0 n))).1/\iA lt (evT lt (if lt (at' p 0) (at' p (n - 1))=true then KasT.ret (n,p) else kas_descPart n m (kas_rev p 0 n))).2 (evT lt (if lt (at' p 0) (at' p (n - 1))=true then KasT.ret (n,p) else kas_descPart n m (kas_rev p 0 n))).1
   by_cases e:lt (at' p 0) (at' p (n - 1))=true
   ·rw[if_pos e]
    exact⟨EX _,by show n≤m; omega,a1,a3⟩
   ·rw[if_neg e]
    have e':lt (at' p 0) (at' p (n - 1))=false:=by simpa using e
    have same : ∀ i j,i<n->j<n->lt (at' p i) (at' p j)=false:=fun i j hi hj=>
     O.tr _ (at' p 0) _ (O.tr _ _ _ (a3 j (n - 1) (by omega) (by omega)) e') (a3 0 i (eY _) hi)
    have D:rC lt (kas_rev p 0 n) (n+1):=by
     refine xD O a1 (fun i j hij hj=>?_) ?_
     ·rw[lP (by omega),lP (by omega),if_pos ⟨eY _,by omega⟩,if_pos ⟨eY _,hj⟩]
      exact same _ _ (by omega) (by omega)
     ·rw[lP (by omega),lP (by omega),if_pos ⟨eY _,by omega⟩,if_neg (by omega)]
      exact O.tr _ _ _ (O.asym _ _ hl) (same _ _ (by omega) (by omega))
    obtain⟨b1,b2,b3,b4⟩:=OG O a1 (by omega) (by rw[GT]; exact hz) D (m:=m)
    exact⟨b1.trans (pY _ _ _),b2,b3,b4⟩
  ·rw[if_neg d]
   obtain rfl:n=1:=by omega
   exact OG O (bY _) (by omega) hz (xD O (bY _) (fun i j hij hj=>by
    obtain rfl:j=0:=by omega
    obtain rfl:i=0:=by omega
    exact O.refl _) (O.asym _ _ hl))
theorem OI {n:Nat}(h1:1≤n):(evT lt (kas_sort n)).Perm (kJ (cU n))/\iA lt (evT lt (kas_sort n)) n:=by
 have hs:(kJ (cU n)).size=n:=by simp
 obtain⟨a1,a2,a3,a4⟩:=QP O h1 (by rw[hs]; exact bY _)
 unfold kas_sort
 rw[uB]
 generalize evT lt (kas_count n (kJ (cU n)))=r at a1 a2 a3 a4
 have hz:=a1.size_eq.trans hs
 split
 ·have em:max r.1 1=r.1:=by omega
  rw[em]
  obtain⟨b1,b2⟩:=XA O (n - r.1) r.2 r.1 a4 (by omega)
  exact⟨b1.trans a1,by rw[show r.1+(n - r.1)=n by omega] at b2; exact b2⟩
 ·have:r.1=n:=by omega
  exact⟨a1,by rw[this] at a4; exact a4⟩
end
def gW {α:Type}(lt:Nat->Nat->Bool)(N:Nat):KasT α->Prop
 | .ret _=>True
 | .ask i j k=>(i<N/\j<N)/\gW lt N (k (lt i j))
theorem tX {α β:Type}{lt:Nat->Nat->Bool}{N:Nat}{f:α->KasT β} : ∀ {t:KasT α},gW lt N t->gW lt N (f (evT lt t))->gW lt N (t.bind f)
 | .ret _,_,h=>h
 | .ask i j k,h,h2=>⟨h.1,tX h.2 h2⟩
theorem MQ {α:Type}{lt:Nat->Nat->Bool}{N:Nat}{cmp:Nat->Nat->(Bool->aG->Prop)->aG->Prop}{s:aG}(hc : ∀ i j (C:Bool->aG->Prop),i<N->j<N->C (lt i j) s->cmp i j C s){Q:α->aG->Prop} : ∀ {t:KasT α},gW lt N t->Q (evT lt t) s->t.kasWp cmp Q s
 | .ret _,_,h=>h
 | .ask i j k,h,q=>hc i j _ h.1.1 h.1.2 (MQ hc h.2 q)
abbrev El (N:Nat)(p:Array Nat):Prop:=∀ x∈p,x<N
theorem El.at {N:Nat}{p:Array Nat}(h:El N p)(h0:0<N)(i:Nat):at' p i<N:=by
 rw[at_of]
 cases e:p[i]? with
 | none=>exact h0
 | some v=>exact h v (Array.mem_of_getElem? e)
theorem El.perm {N:Nat}{p q:Array Nat}(h:El N p)(x:q.Perm p):El N q:=fun v m=>h v (x.mem_iff.mp m)
section
variable {lt:Nat->Nat->Bool}{N:Nat}(h0:0<N)
include h0
theorem JD {p:Array Nat}(h:El N p) : ∀ f n,gW lt N (kas_asc p f n)
 | 0,_=>trivial
 | f+1,n=>by
  refine⟨⟨h.at h0 _,h.at h0 _⟩,?_⟩
  show gW lt N (if lt (at' p n) (at' p (n - 1))=true then KasT.ret n else kas_asc p f (n+1))
  by_cases c:lt (at' p n) (at' p (n - 1))=true
  ·rw[if_pos c]; trivial
  ·rw[if_neg c]; exact JD h f (n+1)
theorem HB {p:Array Nat}{k:Nat}(h:El N p) : ∀ f l r,gW lt N (kas_place p k f l r)
 | 0,_,_=>trivial
 | f+1,l,r=>by
  unfold kas_place
  by_cases c:l ≥ r
  ·rw[if_pos c]; trivial
  ·rw[if_neg c]
   refine⟨⟨h.at h0 _,h.at h0 _⟩,?_⟩
   show gW lt N (if lt (at' p k) (at' p ((l+r) / 2))=true then kas_place p k f l ((l+r) / 2) else kas_place p k f ((l+r) / 2+1) r)
   by_cases d:lt (at' p k) (at' p ((l+r) / 2))=true
   ·rw[if_pos d]; exact HB h f _ _
   ·rw[if_neg d]; exact HB h f _ _
theorem VS : ∀ (f:Nat) (p:Array Nat) (k:Nat),El N p->gW lt N (kas_bin f p k)
 | 0,_,_,_=>trivial
 | f+1,p,k,h=>tX (HB h0 h k 0 k) (VS f _ _ (h.perm (bubble_perm _ _ _)))
theorem AZ : ∀ (f:Nat) (p:Array Nat) (n q:Nat),El N p->gW lt N (kas_desc f p n q)/\El N (evT lt (kas_desc f p n q)).1
 | 0,_,_,_,h=>⟨trivial,h⟩
 | f+1,p,n,q,h=>by
  have e:evT lt (kas_desc (f+1) p n q)=evT lt (if lt (at' p n) (at' p (n - 1))=true then(if q > 0 then kas_desc f (kas_rev p (n - (q+1)) n) (n+1) 0 else kas_desc f p (n+1) 0) else KasT.ask (p.getD (n - 1) 0) (p.getD n 0) fun d=>if d=true then .ret (p,n,q) else kas_desc f p (n+1) (q+1)):=rfl
  have g:gW lt N (kas_desc (f+1) p n q)↔(at' p n<N/\at' p (n - 1)<N)/\gW lt N (if lt (at' p n) (at' p (n - 1))=true then(if q > 0 then kas_desc f (kas_rev p (n - (q+1)) n) (n+1) 0 else kas_desc f p (n+1) 0) else KasT.ask (p.getD (n - 1) 0) (p.getD n 0) fun d=>if d=true then .ret (p,n,q) else kas_desc f p (n+1) (q+1)):=Iff.rfl
  rw[g,e]
  by_cases c:lt (at' p n) (at' p (n - 1))=true
  ·rw[if_pos c]
   by_cases hq:q > 0
   ·rw[if_pos hq]
    obtain⟨a,b⟩:=AZ f _ (n+1) 0 (h.perm (pY p (n - (q+1)) n))
    exact⟨⟨⟨h.at h0 _,h.at h0 _⟩,a⟩,b⟩
   ·rw[if_neg hq]
    obtain⟨a,b⟩:=AZ f _ (n+1) 0 h
    exact⟨⟨⟨h.at h0 _,h.at h0 _⟩,a⟩,b⟩
  ·rw[if_neg c]
   have e2:evT lt (KasT.ask (p.getD (n - 1) 0) (p.getD n 0) fun d=>if d=true then .ret (p,n,q) else kas_desc f p (n+1) (q+1))=evT lt (if lt (at' p (n - 1)) (at' p n)=true then .ret (p,n,q) else kas_desc f p (n+1) (q+1)):=rfl
   have g2:gW lt N (KasT.ask (p.getD (n - 1) 0) (p.getD n 0) fun d=>if d=true then .ret (p,n,q) else kas_desc f p (n+1) (q+1))↔(at' p (n - 1)<N/\at' p n<N)/\gW lt N (if lt (at' p (n - 1)) (at' p n)=true then .ret (p,n,q) else kas_desc f p (n+1) (q+1)):=Iff.rfl
   rw[g2,e2]
   by_cases d:lt (at' p (n - 1)) (at' p n)=true
   ·rw[if_pos d]
    exact⟨⟨⟨h.at h0 _,h.at h0 _⟩,⟨h.at h0 _,h.at h0 _⟩,trivial⟩,h⟩
   ·rw[if_neg d]
    obtain⟨a,b⟩:=AZ f _ (n+1) (q+1) h
    exact⟨⟨⟨h.at h0 _,h.at h0 _⟩,⟨h.at h0 _,h.at h0 _⟩,a⟩,b⟩
theorem WN {p:Array Nat}(n m:Nat)(h:El N p):gW lt N (kas_tail3 n m p):=tX (JD h0 (h.perm (pY _ _ _)) _ _) trivial
theorem NG {p:Array Nat}(n m:Nat)(h:El N p):gW lt N (kas_descPart n m p):=by
 obtain⟨a,b⟩:=AZ h0 (m - (n+1)) p (n+1) 0 h
 refine tX a ?_
 split
 ·exact WN h0 _ _ (b.perm (pY _ _ _))
 ·exact WN h0 _ _ b
theorem Sn {p:Array Nat}(m:Nat)(h:El N p):gW lt N (kas_count m p):=by
 refine tX (JD h0 h _ _) ?_
 generalize evT lt (kas_asc p (m - 1) 1)=n
 by_cases c:(n == m)=true
 ·rw[if_pos c]; trivial
 ·rw[if_neg c]
  by_cases d:n > 1
  ·rw[if_pos d]
   refine⟨⟨h.at h0 _,h.at h0 _⟩,?_⟩
   show gW lt N (if lt (at' p 0) (at' p (n - 1))=true then KasT.ret (n,p) else kas_descPart n m (kas_rev p 0 n))
   by_cases e:lt (at' p 0) (at' p (n - 1))=true
   ·rw[if_pos e]; trivial
   ·rw[if_neg e]; exact NG h0 _ _ (h.perm (pY _ _ _))
  ·rw[if_neg d]; exact NG h0 _ _ h
end
theorem Gz {lt:Nat->Nat->Bool}(O:Ord lt){n:Nat}(h1:1≤n):gW lt n (kas_sort n):=by
 have hs:(kJ (cU n)).size=n:=by simp
 have h:El n (kJ (cU n)):=fun x m=>by simpa using m
 refine tX (Sn (by omega) n h) ?_
 obtain⟨a1,_⟩:=QP O h1 (by rw[hs]; exact bY _)
 generalize evT lt (kas_count n (kJ (cU n)))=r at a1
 split
 ·exact VS (by omega) _ _ _ (h.perm a1)
 ·trivial
theorem Gi {lt:Nat->Nat->Bool}(O:Ord lt){n:Nat}(h1:1≤n){cmp:Nat->Nat->(Bool->aG->Prop)->aG->Prop}{s:aG}(hc : ∀ i j (C:Bool->aG->Prop),i<n->j<n->C (lt i j) s->cmp i j C s){G:Array Nat->aG->Prop}
  (h : ∀ p:Array Nat,p.Perm (kJ (cU n))->iA lt p n->G p s):(kas_sort n).kasWp cmp G s:=
 MQ hc (Gz O h1) (h _ (OI O h1).1 (OI O h1).2)
section
variable {prog:bQ}{w:bB}{A:cF}{E:aE->aG->Prop}{s:aG}
abbrev ZY (a:aD)(h h':aW):Prop:=∀ b o,b≠a->h.get? b=some o->h'.get? b=some o
noncomputable abbrev kA (h:aW)(a:aD)(vs:List aE):aW:=((h.update a (gJ fun _=>#[])).push (mY "tuple" vs.toArray 0)).push (mY "list" #[] 0)
theorem Jo {h:aW}{a:aD}{vs:List aE}:ZY a h (kA h a vs):=fun b o hb e=>
 cL _ (cL _ (((KS h a (gJ fun _=>(#[]:Array aE))).2 b hb).trans e))
theorem Hx {a:aD}{vs:List aE}{n:Nat}{κ:SortKind}{lt:Nat->Nat->Bool}{P:PySem.Fin->aG->Prop}(O:Ord lt)(ho:s.heap.get? a=some (mY "list" vs.toArray n))(h2:2≤vs.length)(h64:vs.length<64)
  (hk : ∀ (Q:SortKind->aG->Prop),Q κ { s with heap:=kA s.heap a vs }->aN (aT prog w) A (keyKind' vs.toArray) Q E { s with heap:=kA s.heap a vs })
  (hc : ∀ i j (C:Bool->aG->Prop),i<vs.length->j<vs.length->C (lt i j) { s with heap:=kA s.heap a vs }->aN (aT prog w) A (keyLt' κ (vs.getD i fT) (vs.getD j fT)) C (fun _ _=>False) { s with heap:=kA s.heap a vs })
  (h : ∀ p:Array Nat,p.Perm (kJ (cU vs.length))->iA lt p vs.length->P (.done (.ret .none)) { s with heap:=sortedHeap s.heap a vs (kJ (p.toList.map fun i=>vs.getD i fT)) }) :
  aN (aT prog w) A (Builtin.«list.sort» ⟨[.ref a],[]⟩) P E s:=by
 have lz:vs.length≤sizeLine:=by rw[mX]; omega
 have ha:a<s.heap.objs.size:=cI ho
 obtain⟨e1,ho1⟩ : ∃ e,(s.heap.update a (gJ fun _=>(#[]:Array aE))).get? a=some (mY "list" #[] e):=⟨_,get?_update_seq ho fun _=>#[]⟩
 have hoM:(kA s.heap a vs).get? a=some (mY "list" #[] e1):=cL _ (cL _ ho1)
 rw[list_sort_plain]
 refine aI (listItems_at ho rfl (aI (EB ho rfl (aI (seqEpoch_at ho1 rfl (aI (wpAny_newTuple (aI (wpAny_newList (jF ?_) (eY _))) (by simpa using lz))))) (by rw[eG]; exact lz) (eY _))))
 show aN (aT prog w) A _ P E { s with heap:=kA s.heap a vs }
 dsimp only
 have big : ¬ vs.toArray.size<2:=by rw[eG]; omega
 rw[if_neg big,if_neg big]
 refine aI (hk _ ?_)
 have eS:SortSt.mk' κ (vs.toArray.zip vs.toArray) #[] 7 none=kas_st κ (pairsOf vs) (kJ (cU vs.length)):=by
  have e:=kas_range (pairsOf vs)
  rw[pairsOf_size] at e
  unfold kas_st
  rw[e]
  rfl
 have run:=kas_runs (prog:=prog) (w:=w) (A:=A) (κ:=κ) (it:=pairsOf vs) (E:=E) (s:={ s with heap:=kA s.heap a vs }) (Q:=fun _ st' s'=>s' = { s with heap:=kA s.heap a vs } /\ ∃ p:Array Nat,p.Perm (kJ (cU vs.length))/\iA lt p vs.length/\arrOf st'=p.map (kas_item (pairsOf vs))/\failedOf st'=none)
  (G:=fun p s'=>s' = { s with heap:=kA s.heap a vs }/\p.Perm (kJ (cU vs.length))/\iA lt p vs.length) h2 h64 (fun p' st' s' a1 a2 a3 ⟨b1,b2,b3⟩=>⟨b1,p',b2,b3,a2,a3⟩)
  (Gi O (by omega) (fun i j C hi hj q=>by
   unfold kas_cmp
   rw[kas_item_eq,kas_item_eq]
   exact hc i j C hi hj q) fun p b1 b2=>⟨rfl,b1,b2⟩)
 rw[← eS] at run
 refine aI (lB run ?_ fun _ _ e=>e)
 rintro⟨⟨⟩,st'⟩ s' ⟨rfl,p,b1,b2,har,hf⟩
 dsimp only
 have hout:(arrOf st').map (·.2)=kJ (p.toList.map fun i=>vs.getD i fT):=by
  apply EW.mp
  rw[har,Array.map_map,Array.toList_map]
  exact ES fun i _=>congrArg Prod.snd (kas_item_eq vs i)
 have hps:p.size=vs.length:=by
  have:=b1.size_eq
  simpa using this
 have hsz:(kJ (p.toList.map fun i=>vs.getD i fT)).size≤sizeLine:=by
  rw[eG,dJ,gR,hps]; exact lz
 rw[hout]
 refine aI (seqEpoch_at hoM rfl (aI (EB hoM rfl ?_ (eY _) (Nat.le_succ_of_le hsz))))
 rw[hf]
 simp only[bne_self_eq_false,iL,if_false]
 exact aR (h p b1 b2)
end
noncomputable def gU:aA->List Int
 | .int i=>[0,i]
 | .str x=>1::x.cps.toList.map oE
 | _=>[2]
noncomputable def cV (ks:List aA):List (List Int):=ks.map gU
theorem RO (a b:List (List Int))(h:a<b) : ¬ b<a:=List.lt_asymm h
theorem QA (a b c:List (List Int))(h1 : ¬ b<a)(h2 : ¬ c<b) : ¬ c<a:=by
 have h1:=h1
 have h2:=h2
 exact List.le_trans h1 h2
theorem HA {d e:aA}(h1:(∃ i,d = .int i) \/ ∃ x,d = .str x)(h2:(∃ i,e = .int i) \/ ∃ x,e = .str x)(h:gU d=gU e):d=e:=by
 rcases h1 with⟨i,rfl⟩ | ⟨x,rfl⟩ <;> rcases h2 with⟨j,rfl⟩ | ⟨y,rfl⟩
 ·simp[gU] at h; rw[h]
 ·simp[gU] at h
 ·simp[gU] at h
 ·have h':x.cps.toList.map oE=y.cps.toList.map oE:=by simpa [gU] using h
  have:=(List.map_inj_right (fun a b q=>Int.ofNat.inj q)).mp h'
  have:x=y:=by
   cases x; cases y
   simp only at this
   rw[EW.mp this]
  rw[this]
noncomputable def Ai (kss:List (List aA))(i j:Nat):Bool:=decide (cV (kss.getD i [])<cV (kss.getD j []))
theorem Dk (kss:List (List aA)):Ord (Ai kss):=by
 refine⟨fun a b h=>?_,fun a b c h1 h2=>?_⟩
 ·have:=RO _ _ (of_decide_eq_true h)
  exact decide_eq_false this
 ·exact decide_eq_false (QA _ _ _ (of_decide_eq_false h1) (of_decide_eq_false h2))
theorem Aby.tupK {K:aK}{H:Hp}{ks:List aA}{v:V}(r:Aby K H (.tuple ks) v)(h1:cC ks=true)(h2:dI ks≤6) : ∃ a,v = .ref a/\Ay6 H ks a:=by
 obtain⟨a,xs,e,s,r⟩:=Aa0.mp r
 exact⟨a,e,h1,h2,xs,s,Aau.keys ks h1 r⟩
noncomputable def qK:List aA->Option (List (List aA))
 | []=>some []
 | .tuple ks::r=>if cC ks=true/\dI ks≤6 then(qK r).bind fun kss=>some (ks::kss) else none
 | _::_=>none
noncomputable def fY (acc:List (List aA))(k:List aA):List (List aA):=if k∈acc then acc else acc++[k]
noncomputable def dS (kss:List (List aA)):List (List aA):=kss.foldl fY []
open PySem PySem.Spec PySem.W PyProof.Rows
noncomputable def iW:List aA->List aA->Bool
 | [],[]=>true
 | .int _::r,.int _::r'=>iW r r'
 | .str _::r,.str _::r'=>iW r r'
 | _,_=>false
theorem XO (i j:Int)(r r':List aA):(cV (.int i::r)<cV (.int j::r'))↔i<j \/ i=j/\cV r<cV r':=by
 show(gU (.int i)::cV r<gU (.int j)::cV r')↔_
 rw[zV]
 simp[gU,zV]
theorem map_lt (xs ys:List Nat):(xs.map oE<ys.map oE)↔xs<ys:=by
 induction xs generalizing ys with
 | nil=>cases ys <;> simp
 | cons x r ih=>
  cases ys with
  | nil=>simp
  | cons y r'=>
   rw[fE,fE,zV,zV,ih]
   have h1:(oE x<oE y)↔x<y:=Int.ofNat_lt
   have h2:(oE x=oE y)↔x=y:=⟨fun e=>Int.ofNat.inj e,fun e=>by rw[e]⟩
   rw[h1,h2]
theorem MZ (x y:aB)(r r':List aA):(cV (.str x::r)<cV (.str y::r'))↔x.cps.toList<y.cps.toList \/ x=y/\cV r<cV r':=by
 show(gU (.str x)::cV r<gU (.str y)::cV r')↔_
 rw[zV]
 have h1:(gU (.str x)<gU (.str y))↔x.cps.toList<y.cps.toList:=by
  show((1:Int)::x.cps.toList.map oE<(1:Int)::y.cps.toList.map oE)↔_
  rw[zV,map_lt]
  simp
 have h2:(gU (.str x)=gU (.str y))↔x=y:=⟨fun e=>by
  have:=HA (.inr ⟨x,rfl⟩) (.inr ⟨y,rfl⟩) e
  injection this,fun e=>by rw[e]⟩
 rw[h1,h2]
section
variable {prog:bQ}{w:bB}{A:cF}{s:aG}{Q:Bool->aG->Prop}
theorem JK {b:Bool} : ∀ (ks ks':List aA) {vs vs':List aE} {as as':List aD} (i:Nat),iW ks ks'=true->mZ s.heap vs ks as->mZ s.heap vs' ks' as'->Q (decide (cV ks<cV ks')) s->KatLex prog w A b false Q (vs.zip vs') i s
 | [],[],vs,vs',as,as',i,_,r,r',h=>by
  cases r; cases r'
  exact kat_nil h
 | .int x::ks,.int y::ks',vs,vs',as,as',i,hs,r,r',h=>by
  cases r with
  | cons r1 r2=>
   cases r' with
   | cons r1' r2'=>
    cases r1 with
    | int _ t=>
     cases r1' with
     | int _ u=>
      rw[YW]
      refine kat_cons ((iO prog w).eqBool (IK _ _ x t) (IK _ _ y u) ?_)
      refine kat_go (fun e=>kat_yes ?_) fun e=>kat_no ?_
      ·have e':x=y:=by simpa using e
       subst e'
       refine JK ks ks' (i+1) (by simpa [iW] using hs) r2 r2' ?_
       have:decide (cV (.int x::ks)<cV (.int x::ks'))=decide (cV ks<cV ks'):=decide_eq_decide.mpr (by rw[XO]; simp)
       rw[← this]; exact h
      ·have e':x≠y:=by simpa using e
       have:decide (cV (.int x::ks)<cV (.int y::ks'))=decide (x<y):=decide_eq_decide.mpr (by rw[XO]; simp[e'])
       rw[this] at h
       cases(b&&i == 0) with
       | true=>exact oneLt_int h
       | false=>exact kat_one _ _ (lt_int h)
 | .str x::ks,.str y::ks',vs,vs',as,as',i,hs,r,r',h=>by
  cases r with
  | cons r1 r2=>
   cases r' with
   | cons r1' r2'=>
    cases r1 with
    | str _ t=>
     cases r1' with
     | str _ u=>
      rw[YW]
      refine kat_cons ((iO prog w).eqBool (IQ _ _ x t) (IQ _ _ y u) ?_)
      refine kat_go (fun e=>kat_yes ?_) fun e=>kat_no ?_
      ·have e':x=y:=by simpa using e
       subst e'
       refine JK ks ks' (i+1) (by simpa [iW] using hs) r2 r2' ?_
       have:decide (cV (.str x::ks)<cV (.str x::ks'))=decide (cV ks<cV ks'):=decide_eq_decide.mpr (by rw[MZ]; simp[List.lt_irrefl])
       rw[← this]; exact h
      ·have e':x≠y:=by simpa using e
       have:decide (cV (.str x::ks)<cV (.str y::ks'))=decide (x.cps.toList<y.cps.toList):=decide_eq_decide.mpr (by rw[MZ]; simp[e'])
       rw[this] at h
       cases(b&&i == 0) with
       | true=>exact oneLt_str h
       | false=>exact kat_one _ _ (lt_str h)
end
noncomputable def kR:List aA->Option String
 | .int _::_=>some "int"
 | .str _::_=>some "str"
 | _=>none
theorem Ux {M:Model}{h:aW}{k:List aA}{b:aD}{T:String}(hd:Adq h k b)(hk:kR k=some T) :
  ∃ o xs n f,h.get? b=some o/\o.cls = .type "tuple" /\ o.data = .seq xs n/\xs[0]?=some f/\Looks M h (typeOf f) (.type T):=by
 obtain⟨_,_,as,r⟩:=hd
 obtain⟨a,o,xs,n,e,ho,hc,hd,hi⟩:=qC r
 cases e
 match k,hk,hi with
 | .int i::r,hk,hi=>
  cases hk
  generalize hx:xs.toList=l at hi
  cases hi with
  | cons h1 _=>
   cases h1 with
   | int _ t=>exact⟨o,xs,n,.int i t,ho,hc,hd,by rw[← mG,hx]; rfl,Looks.of_pure rfl⟩
 | .str x::r,hk,hi=>
  cases hk
  generalize hx:xs.toList=l at hi
  cases hi with
  | cons h1 _=>
   cases h1 with
   | str _ t=>exact⟨o,xs,n,.str x t,ho,hc,hd,by rw[← mG,hx]; rfl,Looks.of_pure rfl⟩
abbrev Ajh (h:aW)(vs:List aE)(kss:List (List aA)):Prop:=eP (fun v k=>∃ b,v=fR b/\Adq h k b) vs kss
theorem QW {M:Model}{h:aW}{T:String} : ∀ {vs:List aE} {kss:List (List aA)},Ajh h vs kss->(∀ k∈kss,kR k=some T) -> ∃ fs,KatTups h vs fs/\fs.length=vs.length /\ ∀ f∈fs,Looks M h (typeOf f) (.type T)
 | _,_,.nil,_=>⟨[],KatTups.nil,rfl,fun _ m=>by simp at m⟩
 | _,_,.cons ⟨b,e,hd⟩ t,hk=>by
  obtain⟨fs,h1,h2,h3⟩:=QW (M:=M) t fun k m=>hk k (bZ _ m)
  obtain⟨o,xs,n,f,q1,q2,q3,q4,q5⟩:=Ux (M:=M) hd (hk _ bR)
  subst e
  refine⟨f::fs,KatTups.cons q1 q2 q3 q4 h1,by rw[fF,fF,h2],fun g m=>?_⟩
  rcases cQ.mp m with rfl | m
  ·exact q5
  ·exact h3 g m
theorem Ajh.get {h:aW} : ∀ {vs:List aE} {kss:List (List aA)},Ajh h vs kss -> ∀ i,i<vs.length -> ∃ b,vs.getD i fT = .ref b/\Adq h (kss.getD i []) b/\kss.getD i []∈kss
 | _,_,.nil,i,hi=>absurd hi (by simp)
 | _,_,.cons ⟨b,e,hd⟩ t,0,_=>⟨b,e,hd,bR⟩
 | _,_,.cons _ t,i+1,hi=>by
  obtain⟨b,q1,q2,q3⟩:=Ajh.get t i (by simpa using hi)
  exact⟨b,by simpa using q1,by simpa using q2,by simpa using bZ _ q3⟩
theorem Ajh.keep {h h':aW}(k : ∀ b o,h.get? b=some o->h'.get? b=some o) : ∀ {vs:List aE} {kss:List (List aA)},Ajh h vs kss->Ajh h' vs kss
 | _,_,.nil=>.nil
 | _,_,.cons ⟨b,e,hd⟩ t=>.cons ⟨b,e,hd.keep fun b o _ _ q _ _=>k b o q⟩ (Ajh.keep k t)
theorem HG : ∀ {k k':List aA},iW k k'=true->k.length=k'.length
 | [],[],_=>rfl
 | .int _::r,.int _::r',h=>by rw[fF,fF,HG (by simpa [iW] using h)]
 | .str _::r,.str _::r',h=>by rw[fF,fF,HG (by simpa [iW] using h)]
theorem HD {h:aW} : ∀ {vs:List aE} {ks:List aA} {as:List aD},mZ h vs ks as->vs.length=ks.length
 | _,_,_,.nil=>rfl
 | _,_,_,.cons _ t=>by rw[fF,fF,HD t]
section
variable {prog:bQ}{w:bB}{A:cF}{E:aE->aG->Prop}{s:aG}
theorem Ua {a:aD}{vs:List aE}{n:Nat}{P:PySem.Fin->aG->Prop}(ho:s.heap.get? a=some (mY "list" vs.toArray n))(h2:vs.length<2)(h:P (.done (.ret .none)) { s with heap:=sortedHeap s.heap a vs vs.toArray }) :
  aN (aT prog w) A (Builtin.«list.sort» ⟨[.ref a],[]⟩) P E s:=by
 have lz:vs.length≤sizeLine:=by rw[mX]; omega
 obtain⟨e1,ho1⟩ : ∃ e,(s.heap.update a (gJ fun _=>(#[]:Array aE))).get? a=some (mY "list" #[] e):=⟨_,get?_update_seq ho fun _=>#[]⟩
 have hoM:(kA s.heap a vs).get? a=some (mY "list" #[] e1):=cL _ (cL _ ho1)
 rw[list_sort_plain]
 refine aI (listItems_at ho rfl (aI (EB ho rfl (aI (seqEpoch_at ho1 rfl (aI (wpAny_newTuple (aI (wpAny_newList (jF ?_) (eY _))) (by simpa using lz))))) (by rw[eG]; exact lz) (eY _))))
 show aN (aT prog w) A _ P E { s with heap:=kA s.heap a vs }
 dsimp only
 have few:vs.toArray.size<2:=by rw[eG]; exact h2
 rw[if_pos few,if_pos few]
 refine aI (aR ?_)
 rw[StateT.run_pure]
 refine aI (aR ?_)
 dsimp only
 have hout:(arrOf (SortSt.mk' general' (vs.toArray.zip vs.toArray) #[] 7 none)).map (·.2)=vs.toArray:=by
  show(vs.toArray.zip vs.toArray).map (·.2)=vs.toArray
  apply EW.mp
  have : ∀ l:List aE,List.map (fun x=>x.snd) (l.zip l)=l:=fun l=>by
   induction l with
   | nil=>rfl
   | cons a l ih=>rw[YW,fE,ih]
  simpa using this vs
 rw[hout]
 refine aI (seqEpoch_at hoM rfl (aI (EB hoM rfl ?_ (eY _) (Nat.le_succ_of_le (by rw[eG]; exact lz)))))
 simp only[bne_self_eq_false,iL,if_false]
 exact aR h
end
theorem GB : ∀ {a b:List aA},iW a b=true->cV a=cV b->a=b
 | [],[],_,_=>rfl
 | .int i::r,.int j::r',h,e=>by
  have h':iW r r'=true:=by simpa [iW] using h
  have e':gU (.int i)=gU (.int j)/\cV r=cV r':=by simpa [cV] using e
  rw[HA (.inl ⟨i,rfl⟩) (.inl ⟨j,rfl⟩) e'.1,GB h' e'.2]
 | .str x::r,.str y::r',h,e=>by
  have h':iW r r'=true:=by simpa [iW] using h
  have e':gU (.str x)=gU (.str y)/\cV r=cV r':=by simpa [cV] using e
  rw[HA (.inr ⟨x,rfl⟩) (.inr ⟨y,rfl⟩) e'.1,GB h' e'.2]
noncomputable def leT (a b:List aA):Bool:=!decide (cV b<cV a)
theorem Aky {a b:List aA}:leT a b=true ↔ ¬ cV b<cV a:=by simp[leT]
theorem Ko (a b c:List aA)(h1:leT a b=true)(h2:leT b c=true):leT a c=true:=Aky.mpr (QA _ _ _ (Aky.mp h1) (Aky.mp h2))
theorem Vh (a b:List aA):(leT a b||leT b a)=true:=by
 by_cases h:cV b<cV a
 ·have:=RO _ _ h
  simp[leT,h,this]
 ·simp[leT,h]
theorem Rp {a b:List aA}(hs:iW a b=true)(h1:leT a b=true)(h2:leT b a=true):a=b:=by
 have h1:=Aky.mp h1
 have h2:=Aky.mp h2
 exact GB hs (List.le_antisymm h1 h2)
noncomputable def jW (kss:List (List aA)):List (List aA):=kss.mergeSort leT
noncomputable def sameAll (kss:List (List aA)):Bool:=kss.all fun k=>kss.all fun k'=>iW k k'
noncomputable def okT (kss:List (List aA)):Bool:=decide (kss.length<2)||(sameAll kss&&kss.all fun k=>(kR k).isSome)
theorem rY (kss:List (List aA)):(jW kss).Perm kss:=List.mergeSort_perm kss leT
theorem UD (kss:List (List aA)):(jW kss).Pairwise fun a b=>leT a b=true:=List.pairwise_mergeSort Ko Vh kss
theorem HL {kss qs:List (List aA)}(hs:okT kss=true)(hp:qs.Perm kss)(hr:qs.Pairwise fun a b=>leT a b=true):qs=jW kss:=by
 have hp':=hp.trans (rY kss).symm
 by_cases h2:kss.length<2
 ·have l1:qs.length<2:=by rw[hp.length_eq]; exact h2
  match qs,l1,hp' with
  | [],_,hp'=>exact(List.nil_perm.mp hp').symm
  | [q],_,hp'=>exact List.singleton_perm.mp hp'
 ·have hs':sameAll kss=true:=by
   have:(sameAll kss&&kss.all fun k=>(kR k).isSome)=true:=by simpa [okT,h2] using hs
   exact(oI.mp this).1
  refine List.Perm.eq_of_pairwise (fun a b ma mb h1 h2=>Rp ?_ h1 h2) hr (UD kss) hp'
  have ma':=hp.mem_iff.mp ma
  have mb':=(rY kss).mem_iff.mp mb
  exact eK.mp (eK.mp hs' a ma') b mb'
theorem same_kind : ∀ {k k':List aA},iW k k'=true->kR k=kR k'
 | [],[],_=>rfl
 | .int _::_,.int _::_,_=>rfl
 | .str _::_,.str _::_,_=>rfl
theorem Gh {k:List aA}{T:String}(h:kR k=some T):T = "int" \/ T = "str":=by
 unfold kR at h
 split at h
 ·cases h; exact .inl rfl
 ·cases h; exact .inr rfl
 ·cases h
section
variable {X:Cx}
def Cc (K:aK):V->List V->Hp->VK->Prop:=fun x vs H Q=>∃ l b xs zs,x = .ref l/\vs=[.ref b]/\H l=some (.lst xs)/\(SqL K H b zs \/ SqT K H b zs)/\xs.length+zs.length≤sizeLine/\Q .non (upd H l (.lst (xs++zs)))
theorem Lu:MtM X "list.extend" (Cc X.K):=by
 intro pins s σ H x vs v us Q I rx rv h
 obtain⟨l,b,xs,zs,rfl,rfl,hH,hB,hz,q⟩:=h
 cases rx
 obtain⟨u,rfl,ru⟩:=rv.one
 cases ru
 obtain⟨z,its,n,r,hl,e⟩:=I.lstM hH
 obtain⟨its2,r2,T,o2,n2,g1,g2,g3,hT⟩ : ∃ (its2:List aE),Vals zs its2 /\ ∃ (T:String) (o2:aY) (n2:Nat),s.heap.get? b=some o2/\o2.cls = .type T/\o2.data = .seq its2.toArray n2/\(T = "list" \/ T = "tuple"):=by
  rcases hB with hB | hB
  ·obtain⟨its2,r2,pl,_⟩:=I.list hB
   obtain⟨o2,g1,g2,n2,g3⟩:=pl.isList
   exact⟨its2,r2,"list",o2,n2,g1,g2,g3,.inl rfl⟩
  ·obtain⟨its2,r2,pl,_⟩:=I.tuple hB
   obtain⟨o2,g1,g2,n2,g3⟩:=pl
   exact⟨its2,r2,"tuple",o2,n2,g1,g2,g3,.inr rfl⟩
 have hl2:=r2.length
 have hsz:its.toArray.size+its2.toArray.size≤sizeLine:=by rw[eG,eG]; omega
 have hlong : ¬ (!its.toArray.isEmpty&&ZU (its.toArray.size+its2.toArray.size))=true:=by
  rw[Su hsz,Bool.and_false]
  exact oH
 refine kB F.slot_list_extend ⟨_,e,rfl⟩ F.entry_list_extend ?_ (F.args_list_extend_2 _ _)
 unfold Builtin.«list.extend»
 refine aI (aR ?_)
 unfold rA
 refine aI (sG ⟨o2,g1,g2⟩ ?_)
 have yes:(wK (.ref l) (.ref b)||hE T == hE "list" || hE T == hE "tuple")=true:=by
  rcases hT with rfl | rfl
  ·rw[show(hE "list" == hE "list")=true from rfl]; simp
  ·rw[show(hE "tuple" == hE "tuple")=true from rfl]; simp
 rw[if_pos yes]
 refine aI (listItems_at g1 g3 (aI (listItems_at e rfl ?_)))
 rw[if_neg hlong]
 refine aI (EB e rfl (aR ⟨.none,rfl,?_⟩) (by rw[eG]; omega) (by show(its.toArray++its2.toArray).size≤sizeLine+1; rw[Array.size_append]; omega))
 refine⟨.non,_,I.lset hH e (by simp) (r.append r2) (by rw[hV]; omega),rfl,q⟩
end
section
variable {X:Cx}{H0:Hp}{P0:aD->Prop}{n0:Nat}{e:aX}{f:EF}{x:aB}{px pos apos cpos:cE}{i:Nat}
noncomputable def Af:aA->Option (List aA)
 | .list es=>some es
 | .tuple es=>some es
 | _=>none
noncomputable def zA (i:Nat)(m:Md)(f:EF):SF:=fun ρ=>(eV 0 m f ρ).bind fun d=>(getL i ρ).bind fun ds=>(Af d).bind fun es=>if ds.length+es.length≤sizeLine then some (.nx (ρ.set i (some (1,.list (ds++es))))) else none
theorem PY {K:aK}{H:Hp}{ds es:List aA}{xs ys:List V}(h1:Aau K H ds xs)(h2:Aau K H es ys):Aau K H (ds++es) (xs++ys):=h1.append h2
theorem RZ (i:Nat)(m:Md)(he:DE X e f)(hN:X.N[i]?=some x:=by rfl)(hv:nB X.env.scope x:=by first | exact aU rfl | exact bA (aU rfl) | exact bA (bA rfl))(hd:(x == ("__debug__" : aB))=false:=by decide)
  (hcd:(x == ("__classdict__" : aB))=false:=by decide) (hbase:vX (.Name x px) "extend" X.env (cD (.Name x px) X.env)=cD (.Name x px) X.env:=by rfl)
  (hfew:((eX cpos (bM (e::[]) X.env)).all (fun x=>!x.1)&&(vW cpos (vR [] X.env)).all (fun x=>x.1.isSome)
   && decide ((e::[]).length+([]:List lG).length+(if ([]:List lG).isEmpty then 0 else 1)<30))=true:=by rfl)
  (hline:(apos.endLine == cpos.line)=true:=by rfl) (hs:bM (e::[]) X.env=(false,cD e X.env)::bM [] X.env:=by rfl) (hplain:(eX cpos (bM [] X.env)).any (·.1)=false:=by rfl)
  (hsw:qL (.Call (.Attribute (.Name x px) "extend" apos) [e] [] cpos) none pos.line X.env=pure false:=by rfl):DS X H0 P0 n0 (.Expr (.Call (.Attribute (.Name x px) "extend" apos) [e] [] cpos) pos) (zA i m f):=
 PS.imp (WY (tJ Wy PySem.F.slot_list_extend PySem.F.type_list_extend Lu (rN hN hv hd hcd) (jZ (ev m he) kT hs) hbase hfew hline hs hplain) hsw) fun D σ H gh=>by
  obtain⟨B0,ρ,fp,o,S,ef,k⟩:=gh
  obtain⟨d,e1,ef2⟩:=XBs ef
  obtain⟨ds,e2,ef3⟩:=XBs ef2
  obtain⟨es,e3,ef4⟩:=XBs ef3
  obtain⟨hl,rfl⟩:=dU ef4
  obtain⟨p,xs,h1,h2,_,_⟩:=S.lst1 (uI e2)
  refine⟨.ref p,h1,.inl ⟨rfl,xs,SqL.of h2⟩,B0,ρ,fp,d,S,e1,fun v H2 gh=>?_⟩
  obtain⟨fp2,S2,r2⟩:=gh
  obtain⟨p2,xs2,q1,q2,q3,q4⟩:=S2.lst1 (uI e2)
  have:p2=p:=by rw[h1] at q1; cases q1; rfl
  subst this
  cases d with
  | list es'=>
   cases e3
   obtain⟨b,ys,rfl,hb,rr⟩:=Abn.mp r2.2
   exact⟨p2,b,xs2,ys,rfl,rfl,q2,.inl (Aa9.sqL hb),by rw[q3.length,rr.length]; exact hl,k _ _ fp2 (q4 _ _ (PY q3 rr))⟩
  | tuple es'=>
   cases e3
   obtain⟨b,ys,rfl,hb,rr⟩:=Aa0.mp r2.2
   exact⟨p2,b,xs2,ys,rfl,rfl,q2,.inr (SqT.of (Aa9 _ _ hb)),by rw[q3.length,rr.length]; exact hl,k _ _ fp2 (q4 _ _ (PY q3 rr))⟩
  | _=>cases e3
end
open PySem PySem.SetTable
def lH (xs:Array Nat):Prop:=∀ a b u v:Nat,a<b->xs[a]?=some u->xs[b]?=some v->u<v
theorem GP {xs:Array Nat}{j:Nat}(hr:lH xs) : ∀ fuel lo hi,hi≤xs.size->lo≤hi->hi - lo≤fuel->(∀ k<lo,∀ v,xs[k]?=some v->v<j)->(∀ k,hi≤k -> ∀ v,xs[k]?=some v->j≤v) ->
  below.go xs j fuel lo hi≤xs.size/\(∀ k<below.go xs j fuel lo hi,∀ v,xs[k]?=some v->v<j) /\ ∀ k,below.go xs j fuel lo hi≤k -> ∀ v,xs[k]?=some v->j≤v
 | 0,lo,hi,h1,h2,h3,hl,hh=>by
  have:lo=hi:=by omega
  subst this
  unfold below.go
  exact⟨h1,hl,hh⟩
 | fuel+1,lo,hi,h1,h2,h3,hl,hh=>by
  unfold below.go
  by_cases c:lo<hi
  ·rw[if_pos c]
   have hm:(lo+hi) / 2<xs.size:=by omega
   have em:=jV hm
   have eg:xs.getD ((lo+hi) / 2) j=xs[(lo+hi) / 2]:=by simp[Array.getD,hm]
   simp only[eg]
   by_cases d:xs[(lo+hi) / 2]<j
   ·rw[if_pos d]
    refine GP hr fuel _ _ h1 (by omega) (by omega) (fun k hk v ev=>?_) hh
    by_cases q:k=(lo+hi) / 2
    ·subst q; rw[em] at ev; cases ev; exact d
    ·have:=hr k ((lo+hi) / 2) v _ (by omega) ev em
     omega
   ·rw[if_neg d]
    refine GP hr fuel _ _ (by omega) (by omega) (by omega) hl (fun k hk v ev=>?_)
    by_cases q:k=(lo+hi) / 2
    ·subst q; rw[em] at ev; cases ev; omega
    ·have:=hr ((lo+hi) / 2) k _ v (by omega) em ev
     omega
  ·rw[if_neg c]
   have:lo=hi:=by omega
   subst this
   exact⟨h1,hl,hh⟩
theorem CH {xs:Array Nat}(hr:lH xs)(j:Nat):below xs j≤xs.size/\(∀ k<below xs j,∀ v,xs[k]?=some v->v<j) /\ ∀ k,below xs j≤k -> ∀ v,xs[k]?=some v->j≤v:=
 GP hr xs.size 0 xs.size (bY _) (eY _) (by omega) (fun k hk=>absurd hk (by omega)) (fun k hk v ev=>by
  have:=(sS.mp ev).1
  omega)
theorem below_at {xs:Array Nat}(hr:lH xs){i j:Nat}(h:xs[i]?=some j):below xs j=i:=by
 obtain⟨h1,h2,h3⟩:=CH hr j
 rcases EN (below xs j) i with q | q | q
 ·have hi:=(sS.mp h).1
  have e:xs[below xs j]?=some (xs[below xs j]'(by omega)):=jV (by omega)
  have a:=h3 _ (bY _) _ e
  have b:=hr _ _ _ _ q e h
  omega
 ·exact q
 ·have:=h2 i q j h
  omega
theorem GK (j:Nat):has #[] j=false:=by simp[has]
theorem BV {t:dY}(hd:t.dummies = #[])(hr:lH t.place){i j:Nat}:t.slot j = .live i↔t.place[i]?=some j:=by
 unfold slot
 rw[hd,GK]
 dsimp only
 constructor
 ·intro h
  split at h
  ·rename_i c
   cases h
   simpa using c
  ·simp at h
 ·intro h
  rw[below_at hr h,h]
  simp
theorem Ms {t:dY}(hd:t.dummies = #[])(hr:lH t.place){j:Nat}(h : ∀ i:Nat,t.place[i]?≠some j):t.slot j = .empty:=by
 unfold slot
 rw[hd,GK]
 dsimp only
 rw[if_neg (by simpa using h _)]
 rfl
noncomputable def adv (mask:Nat)(p:Probe):Probe:=if p.more > 0 then { p with j:=p.j+1,more:=p.more - 1 } else
 { p with j:=(leap mask p.i p.perturb).1,more:=runEnd mask (leap mask p.i p.perturb).1 - (leap mask p.i p.perturb).1,i:=(leap mask p.i p.perturb).1,perturb:=(leap mask p.i p.perturb).2 }
theorem HZ (t:dY)(p:Probe):t.advance p=adv t.mask p:=by
 unfold advance adv
 rfl
noncomputable def pN (mask:Nat)(p:Probe):Nat->Probe
 | 0=>p
 | n+1=>adv mask (pN mask p n)
theorem JE (mask:Nat)(p:Probe)(a:Nat) : ∀ b,pN mask (pN mask p a) b=pN mask p (a+b)
 | 0=>rfl
 | b+1=>by
  show adv mask (pN mask (pN mask p a) b)=adv mask (pN mask p (a+b))
  rw[JE mask p a b]
noncomputable def blk (mask i per:Nat):Probe:={ j:=i,more:=runEnd mask i - i,i,perturb:=per,dummy:=none }
theorem Do (mask i:Nat):runEnd mask i - i≤9:=by
 unfold runEnd
 split <;> omega
theorem GH (mask i per:Nat) : ∀ k,k≤runEnd mask i - i->pN mask (blk mask i per) k = { j:=i+k,more:=runEnd mask i - i - k,i,perturb:=per,dummy:=none }
 | 0,_=>rfl
 | k+1,h=>by
  show adv mask (pN mask (blk mask i per) k)=_
  rw[GH mask i per k (by omega)]
  unfold adv
  rw[if_pos (by show runEnd mask i - i - k > 0; omega)]
  rfl
theorem NU (mask i per:Nat):pN mask (blk mask i per) (runEnd mask i - i+1)=blk mask (leap mask i per).1 (leap mask i per).2:=by
 show adv mask (pN mask (blk mask i per) (runEnd mask i - i))=_
 rw[GH mask i per _ (bY _)]
 unfold adv
 rw[if_neg (by show ¬ (runEnd mask i - i - (runEnd mask i - i) > 0); omega)]
 rfl
noncomputable def lp (mask:Nat)(s:Nat×Nat):Nat->Nat×Nat
 | 0=>s
 | m+1=>leap mask (lp mask s m).1 (lp mask s m).2
theorem PL (mask i per:Nat) : ∀ m,∃ n,n≤10*m/\pN mask (blk mask i per) n=blk mask (lp mask (i,per) m).1 (lp mask (i,per) m).2
 | 0=>⟨0,by omega,rfl⟩
 | m+1=>by
  obtain⟨n,hn,e⟩:=PL mask i per m
  have b:=Do mask (lp mask (i,per) m).1
  refine⟨n+(runEnd mask (lp mask (i,per) m).1 - (lp mask (i,per) m).1+1),by omega,?_⟩
  rw[← JE,e,NU]
  rfl
theorem UV (mask i per:Nat) : ∀ m,(lp mask (i,per) m).2=per / 32 ^ m
 | 0=>by simp[lp]
 | m+1=>by
  show(lp mask (i,per) m).2 / 32=_
  rw[UV mask i per m,Nat.div_div_eq_div_mul,wA]
noncomputable def lcg (mask:Nat)(i:Nat):Nat->Nat
 | 0=>i
 | m+1=>(lcg mask i m*5+1)%(mask+1)
def nJ (mask:Nat):Prop:=mask=7 \/ mask=31 \/ mask=127 \/ mask=511 \/ mask=2047 \/ mask=8191
noncomputable def gN (x:Nat):Nat->Nat
 | 0=>x
 | m+1=>gN x m*5+1
theorem VJ (x a:Nat) : ∀ b,gN (gN x a) b=gN x (a+b)
 | 0=>rfl
 | b+1=>by
  show gN (gN x a) b*5+1=gN x (a+b)*5+1
  rw[VJ x a b]
theorem WJ (x:Nat) : ∀ m,4*gN x m+1=5 ^ m*(4*x+1)
 | 0=>by simp[gN]
 | m+1=>by
  show 4*(gN x m*5+1)+1=5 ^ (m+1)*(4*x+1)
  have:=WJ x m
  rw[wA,KH (5 ^ m) 5,EL,← this]
  omega
theorem OK : ∀ k,∃ q,5 ^ 2 ^ k=1+2 ^ k*(4*(2*q+1))
 | 0=>⟨0,rfl⟩
 | k+1=>by
  obtain⟨q,e⟩:=OK k
  refine⟨q+2 ^ k*((2*q+1)*(2*q+1)),?_⟩
  rw[wA 2 k,KH (2 ^ k) 2,Nat.two_mul,Nat.pow_add,e]
  generalize 2 ^ k=M
  generalize hu:2*q+1=u
  have e2:2*(q+M*(u*u))+1=u+2*(M*(u*u)):=by omega
  rw[e2]
  have h1:M*(4*u)*(M*(4*u))=16*(M*(M*(u*u))):=by
   rw[show M*(4*u)=4*(M*u) by rw[YS],KG]
   rw[show M*u*(M*u)=M*(M*(u*u)) by rw[KG,EL]]
  have h2:(M+M)*(4*(u+2*(M*(u*u))))=8*(M*u)+16*(M*(M*(u*u))):=by
   rw[← Nat.two_mul,EM 4,EM]
   rw[show 2*M*(4*u)=8*(M*u) by rw[KG]]
   rw[show 4*(2*(M*(u*u)))=8*(M*(u*u)) by omega,KG]
  rw[Nat.add_mul,EM,EM,h1,h2,show M*(4*u)=4*(M*u) by rw[YS]]
  omega
theorem Gk (x k:Nat) : ∃ q,gN x (2 ^ k)=x+2 ^ k*(2*q+1):=by
 obtain⟨q,e⟩:=OK k
 have h:=WJ x (2 ^ k)
 rw[e] at h
 refine⟨q*(4*x+1)+2*x,?_⟩
 have e2:2*(q*(4*x+1)+2*x)+1=(2*q+1)*(4*x+1):=by
  rw[Nat.add_mul,EM 2,← EL 2 q]
  omega
 rw[e2]
 generalize 2 ^ k=M at h
 generalize(2*q+1)=u at h
 rw[Nat.add_mul,Nat.one_mul,show M*(4*u)*(4*x+1)=4*(M*(u*(4*x+1))) by rw[YS M 4 u,EL,EL]] at h
 omega
theorem UW : ∀ (k x e:Nat),∃ m,m<2 ^ k/\gN x m%2 ^ k=e%2 ^ k
 | 0,x,e=>⟨0,by simp,by simp[Nat.mod_one]⟩
 | k+1,x,e=>by
  obtain⟨m,hm,h⟩:=UW k x e
  have hM:=Nat.two_pow_pos k
  have sp : ∀ y:Nat,y%2 ^ (k+1)=y%2 ^ k+2 ^ k*(y / 2 ^ k%2):=fun y=>by rw[wA,Nat.mod_mul]
  have hp:2 ^ (k+1)=2 ^ k+2 ^ k:=by rw[wA]; omega
  by_cases c:gN x m / 2 ^ k%2=e / 2 ^ k%2
  ·exact⟨m,by omega,by rw[sp,sp,h,c]⟩
  ·obtain⟨q,hq⟩:=Gk (gN x m) k
   refine⟨m+2 ^ k,by omega,?_⟩
   rw[← VJ,hq,sp,sp,Nat.add_mul_mod_self_left,Nat.add_mul_div_left _ _ hM,h]
   congr 2
   omega
theorem VI (mask i:Nat)(hi:i≤mask) : ∀ m,lcg mask i m=gN i m%(mask+1)
 | 0=>by
  show i=i%(mask+1)
  exact(YT (by omega)).symm
 | m+1=>by
  show(lcg mask i m*5+1)%(mask+1)=(gN i m*5+1)%(mask+1)
  rw[VI mask i hi m]
  simp[Nat.add_mod,Nat.mul_mod]
theorem tZ {k mask:Nat}(hk:mask+1=2 ^ k){i e:Nat}(hi:i≤mask)(he:e≤mask) : ∃ m,m≤mask/\lcg mask i m=e:=by
 obtain⟨m,h1,h2⟩:=UW k i e
 refine⟨m,by omega,?_⟩
 rw[VI mask i hi,hk,h2,← hk]
 exact YT (by omega)
theorem Jd {mask:Nat}(hm:nJ mask){i e:Nat}(hi:i≤mask)(he:e≤mask) : ∃ m,m≤mask/\lcg mask i m=e:=by
 rcases hm with rfl | rfl | rfl | rfl | rfl | rfl
 ·exact tZ (k:=3) rfl hi he
 ·exact tZ (k:=5) rfl hi he
 ·exact tZ (k:=7) rfl hi he
 ·exact tZ (k:=9) rfl hi he
 ·exact tZ (k:=11) rfl hi he
 ·exact tZ (k:=13) rfl hi he
theorem WS (h:Int):bits h<2 ^ 64:=by
 unfold bits
 have:=Int.emod_lt_of_pos h (show(0:Int)<2 ^ 64 by decide)
 have:=Int.emod_nonneg h (show(2 ^ 64:Int)≠0 by decide)
 omega
theorem VF {mask i per:Nat}(hp:per<2 ^ 64) : ∀ m,(lp mask (i,per) (13+m)).1=lcg mask (lp mask (i,per) 13).1 m
 | 0=>rfl
 | m+1=>by
  show((lp mask (i,per) (13+m)).1*5+1+(lp mask (i,per) (13+m)).2 / 32)%(mask+1)=(lcg mask (lp mask (i,per) 13).1 m*5+1)%(mask+1)
  rw[VF hp m,UV]
  have:per / 32 ^ (13+m)=0:=by
   apply Nat.div_eq_of_lt
   refine hU hp ?_
   rw[Nat.pow_add]
   calc 2 ^ 64≤32 ^ 13:=by decide
    _≤32 ^ 13*32 ^ m:=Nat.le_mul_of_pos_right _ (Nat.pow_pos (by decide))
  rw[this]
theorem Cn {mask i per:Nat} : ∀ m,0<m->(lp mask (i,per) m).1≤mask
 | 0,h=>absurd h (by omega)
 | m+1,_=>by
  show((lp mask (i,per) m).1*5+1+(lp mask (i,per) m).2 / 32)%(mask+1)≤mask
  have:=qP ((lp mask (i,per) m).1*5+1+(lp mask (i,per) m).2 / 32) (show 0<mask+1 by omega)
  omega
theorem OD {mask:Nat}(hm:nJ mask){i per e:Nat}(hp:per<2 ^ 64)(he:e≤mask) : ∃ m,m≤13+mask/\(lp mask (i,per) m).1=e:=by
 obtain⟨m,h1,h2⟩:=Jd hm (Cn 13 (by omega)) he
 exact⟨13+m,by omega,by rw[VF hp]; exact h2⟩
noncomputable def rd (mask:Nat)(h:Int)(n:Nat):Probe:=pN mask (blk mask (bits h%(mask+1)) (bits h)) n
theorem NZ {mask:Nat}(hm:nJ mask)(h:Int){e:Nat}(he:e≤mask) : ∃ n,n<10*turns mask/\(rd mask h n).j=e:=by
 obtain⟨m,h1,h2⟩:=OD hm (WS h) he
 obtain⟨n,h3,h4⟩:=PL mask (bits h%(mask+1)) (bits h) m
 refine⟨n,by unfold turns; omega,?_⟩
 unfold rd
 rw[h4]
 exact h2
theorem Wa (mask:Nat)(p:Probe):(adv mask p).dummy=p.dummy:=by
 unfold adv
 split <;> rfl
theorem OY (mask:Nat)(h:Int) : ∀ n,(rd mask h n).dummy=none
 | 0=>rfl
 | n+1=>by
  show(adv mask (rd mask h n)).dummy=none
  rw[Wa]
  exact OY mask h n
def iU (t:dY)(j:Nat):Prop:=∃ i:Nat,t.place[i]?=some j
structure Good (t:dY)(es:Array (Int×aE)):Prop where
 small:nJ t.mask
 nod:t.dummies = #[]
 ris:lH t.place
 len:t.place.size=es.size
 inb : ∀ i j:Nat,t.place[i]?=some j->j≤t.mask
 room:es.size≤t.mask
 reach : ∀ (i j:Nat) (e:Int×aE),t.place[i]?=some j->es[i]?=some e -> ∃ n,(rd t.mask e.1 n).j=j /\ ∀ m<n,iU t (rd t.mask e.1 m).j
theorem rank {xs:Array Nat}(hr:lH xs) : ∀ e,(∀ v≤e,∃ i:Nat,xs[i]?=some v) -> ∃ i:Nat,xs[i]?=some e/\e≤i
 | 0,h=>by
  obtain⟨i,q⟩:=h 0 (bY _)
  exact⟨i,q,eY _⟩
 | e+1,h=>by
  obtain⟨i,q,hi⟩:=rank hr e fun v hv=>h v (by omega)
  obtain⟨k,qk⟩:=h (e+1) (bY _)
  refine⟨k,qk,?_⟩
  rcases EN i k with c | c | c
  ·omega
  ·subst c; rw[q] at qk; simp at qk
  ·have:=hr k i _ _ c qk q
   omega
theorem Good.empty {t:dY}{es:Array (Int×aE)}(G:Good t es) : ∃ e,e≤t.mask /\ ¬ iU t e:=by
 apply KZ
 intro hn
 have hall : ∀ v≤t.mask,∃ i:Nat,t.place[i]?=some v:=fun v hv=>KZ fun q=>hn ⟨v,hv,q⟩
 obtain⟨i,q,hi⟩:=rank G.ris t.mask hall
 have h1:=(sS.mp q).1
 have h2:=G.len
 have h3:=G.room
 omega
theorem NX {t:dY}{j:Nat}(h : ¬ iU t j) : ∀ i:Nat,t.place[i]?≠some j:=fun i e=>h ⟨i,e⟩
section
variable {t:dY}{hashAt:Nat->Int}{h:Int}
theorem PF (hd:t.dummies = #[])(hr:lH t.place) : ∀ k n fuel,k<fuel->(∀ m,n≤m->m<n+k -> ∃ i:Nat,t.place[i]?=some (rd t.mask h m).j/\hashAt i≠h) -> ¬ iU t (rd t.mask h (n+k)).j ->
  probe.go t hashAt h fuel (rd t.mask h n)=some (.empty (rd t.mask h (n+k)).j none)
 | _,_,0,hf,_,_=>absurd hf (by omega)
 | 0,n,fuel+1,_,_,he=>by
  rw[KI] at he ⊢
  unfold probe.go
  rw[Ms hd hr (NX he),OY]
  rfl
 | k+1,n,fuel+1,hf,hm,he=>by
  obtain⟨i,e,hne⟩:=hm n (bY _) (by omega)
  unfold probe.go
  rw[(BV hd hr).mpr e]
  dsimp only
  rw[if_neg (by simpa using hne),HZ]
  have:=PF hd hr k (n+1) fuel (by omega) (fun m a b=>hm m (by omega) (by omega)) (by rw[show n+1+k=n+(k+1) by omega]; exact he)
  rw[show n+1+k=n+(k+1) by omega] at this
  exact this
theorem WZ (hd:t.dummies = #[])(hr:lH t.place){i0:Nat}(h0:hashAt i0=h) : ∀ k n fuel,k<fuel->(∀ m,n≤m->m<n+k -> ∃ i:Nat,t.place[i]?=some (rd t.mask h m).j/\hashAt i≠h)->t.place[i0]?=some (rd t.mask h (n+k)).j ->
  probe.go t hashAt h fuel (rd t.mask h n)=some (.candidate (rd t.mask h (n+k)).j i0 (rd t.mask h (n+k+1)))
 | _,_,0,hf,_,_=>absurd hf (by omega)
 | 0,n,fuel+1,_,_,he=>by
  rw[KI] at he ⊢
  unfold probe.go
  rw[(BV hd hr).mpr he]
  dsimp only
  rw[if_pos (by simpa using h0),HZ]
  rfl
 | k+1,n,fuel+1,hf,hm,he=>by
  obtain⟨i,e,hne⟩:=hm n (bY _) (by omega)
  unfold probe.go
  rw[(BV hd hr).mpr e]
  dsimp only
  rw[if_neg (by simpa using hne),HZ]
  have:=WZ hd hr h0 k (n+1) fuel (by omega) (fun m a b=>hm m (by omega) (by omega)) (by rw[show n+1+k=n+(k+1) by omega]; exact he)
  rw[show n+1+k=n+(k+1) by omega] at this
  exact this
theorem TJ (S:Nat->Prop) : ∀ d n,S (n+d) -> ∃ k,k≤d/\(∀ m,n≤m->m<n+k -> ¬ S m)/\S (n+k)
 | 0,n,h=>⟨0,bY _,fun m a b=>absurd b (by omega),h⟩
 | d+1,n,h=>by
  by_cases c:S n
  ·exact⟨0,eY _,fun m a b=>absurd b (by omega),c⟩
  ·obtain⟨k,h1,h2,h3⟩:=TJ S d (n+1) (by rw[show n+1+d=n+(d+1) by omega]; exact h)
   refine⟨k+1,by omega,fun m a b=>?_,by rw[show n+(k+1)=n+1+k by omega]; exact h3⟩
   by_cases q:m=n
   ·subst q; exact c
   ·exact h2 m (by omega) (by omega)
theorem Good.next {es:Array (Int×aE)}(G:Good t es)(h:Int){n:Nat}(hv : ∀ m<n,iU t (rd t.mask h m).j) : ∃ k,n+k<10*turns t.mask/\(∀ m,n≤m->m<n+k -> ∃ i:Nat,t.place[i]?=some (rd t.mask h m).j/\hashAt i≠h) /\
  ((¬ iU t (rd t.mask h (n+k)).j/\t.probe hashAt h (rd t.mask h n)=some (.empty (rd t.mask h (n+k)).j none)) \/
   ∃ i:Nat,t.place[i]?=some (rd t.mask h (n+k)).j/\hashAt i=h/\t.probe hashAt h (rd t.mask h n)=some (.candidate (rd t.mask h (n+k)).j i (rd t.mask h (n+k+1)))):=by
 obtain⟨e,he,hne⟩:=G.empty
 obtain⟨N,hN,eN⟩:=NZ G.small h he
 have hnN:n≤N:=by
  rcases pJ N n with c | c
  ·exact absurd (eN ▸ hv N c) hne
  ·exact c
 obtain⟨d,rfl⟩:=Nat.exists_eq_add_of_le hnN
 obtain⟨k,hk,h1,h2⟩:=TJ (fun m=>¬ iU t (rd t.mask h m).j \/ ∃ i:Nat,t.place[i]?=some (rd t.mask h m).j/\hashAt i=h) d n (.inl (by rw[eN]; exact hne))
 have hm : ∀ m,n≤m->m<n+k -> ∃ i:Nat,t.place[i]?=some (rd t.mask h m).j/\hashAt i≠h:=fun m a b=>by
  have q:=h1 m a b
  obtain⟨i,ei⟩:=KZ fun z=>q (.inl z)
  exact⟨i,ei,fun z=>q (.inr ⟨i,ei,z⟩)⟩
 refine⟨k,by omega,hm,?_⟩
 rcases h2 with h2 | ⟨i,ei,hi⟩
 ·exact .inl ⟨h2,PF G.nod G.ris k n _ (by omega) hm h2⟩
 ·exact .inr ⟨i,ei,hi,WZ G.nod G.ris hi k n _ (by omega) hm ei⟩
end
theorem MX (mask:Nat)(h:Int) : ∀ n,(rd mask h n).j+(rd mask h n).more≤mask
 | 0=>by
  show bits h%(mask+1)+(runEnd mask (bits h%(mask+1)) - bits h%(mask+1))≤mask
  have:=qP (bits h) (show 0<mask+1 by omega)
  unfold runEnd
  split <;> omega
 | n+1=>by
  have ih:=MX mask h n
  show(adv mask (rd mask h n)).j+(adv mask (rd mask h n)).more≤mask
  unfold adv
  split
  ·show(rd mask h n).j+1+((rd mask h n).more - 1)≤mask
   omega
  ·show(leap mask (rd mask h n).i (rd mask h n).perturb).1+(runEnd mask (leap mask (rd mask h n).i (rd mask h n).perturb).1 - (leap mask (rd mask h n).i (rd mask h n).perturb).1)≤mask
   have:(leap mask (rd mask h n).i (rd mask h n).perturb).1<mask+1:=qP _ (by omega)
   unfold runEnd
   split <;> omega
theorem Cp (mask:Nat)(h:Int)(n:Nat):(rd mask h n).j≤mask:=by
 have:=MX mask h n
 omega
theorem uJ {α:Type}(xs:Array α){p:Nat}(hp:p≤xs.size)(x:α)(k:Nat):(insertAt xs p x)[k]?=if k<p then xs[k]? else if k=p then some x else xs[k - 1]?:=by
 rw[← mG,toList_insertAt]
 by_cases c:k<p
 ·rw[if_pos c,qW (by rw[kK,gR]; omega),ZE c,mG]
 ·rw[if_neg c,wH (by rw[kK,gR]; omega),kK,gR,YU hp]
  by_cases d:k=p
  ·subst d; simp
  ·rw[if_neg d]
   obtain⟨r,rfl⟩ : ∃ r,k=p+1+r:=⟨k - p - 1,by omega⟩
   rw[show p+1+r - p=r+1 by omega,pK,List.getElem?_drop,mG,show p+1+r - 1=p+r by omega]
theorem Iv {xs:Array Nat}(hr:lH xs){j:Nat}(hj : ∀ i:Nat,xs[i]?≠some j):lH (insertAt xs (below xs j) j):=by
 obtain⟨h1,h2,h3⟩:=CH hr j
 intro a b u v hab ea eb
 rw[uJ xs h1] at ea eb
 have lt_of : ∀ k w,below xs j≤k->xs[k]?=some w->j<w:=fun k w hk e=>by
  have a:=h3 k hk w e
  rcases pJ j w with c | c
  ·exact c
  ·have:w=j:=by omega
   subst this
   exact absurd e (hj k)
 split at ea
 ·split at eb
  ·exact hr a b u v hab ea eb
  ·split at eb
   ·cases eb; exact h2 a (by omega) u ea
   ·exact Nat.lt_trans (h2 a (by omega) u ea) (lt_of _ v (by omega) eb)
 ·split at ea
  ·cases ea
   rw[if_neg (by omega),if_neg (by omega)] at eb
   exact lt_of _ v (by omega) eb
  ·rw[if_neg (by omega),if_neg (by omega)] at eb
   exact hr (a - 1) (b - 1) u v (by omega) ea eb
theorem BN {α:Type}(xs:Array α)(p:Nat)(x:α):(insertAt xs p x).size=xs.size+1:=by
 rw[← gR,(insertAt_perm xs p x).length_eq,gR,Array.size_push]
theorem Es {t:dY}(hd:t.dummies = #[])(j:Nat):t.put j=({ t with place:=insertAt t.place (below t.place j) j },below t.place j):=by
 unfold put
 rw[hd,GK]
 cases t
 simp at hd
 subst hd
 rfl
theorem Good.put {t:dY}{es:Array (Int×aE)}(G:Good t es){h:Int}{x:aE}{n:Nat}(hv : ∀ m<n,iU t (rd t.mask h m).j)(hn : ¬ iU t (rd t.mask h n).j)  (hroom:es.size<t.mask)(pl:Bool) :
  Good { t with place:=insertAt t.place (below t.place (rd t.mask h n).j) (rd t.mask h n).j,plain:=pl } (insertAt es (below t.place (rd t.mask h n).j) (h,x)):=by
 have hb:=(CH G.ris (rd t.mask h n).j).1
 have hbe:below t.place (rd t.mask h n).j≤es.size:=by rw[← G.len]; exact hb
 have mono : ∀ j,iU t j -> ∃ i:Nat,(insertAt t.place (below t.place (rd t.mask h n).j) (rd t.mask h n).j)[i]?=some j:=fun j gh=>by
  obtain⟨i,e⟩:=gh
  by_cases c:i<below t.place (rd t.mask h n).j
  ·exact⟨i,by rw[uJ _ hb,if_pos c]; exact e⟩
  ·exact⟨i+1,by rw[uJ _ hb,if_neg (by omega),if_neg (by omega)]; exact e⟩
 refine⟨G.small,G.nod,Iv G.ris (NX hn),?_,fun i j e=>?_,?_,fun i j e ei ee=>?_⟩
 ·rw[BN,BN,G.len]
 ·have e':=e
  rw[uJ _ hb] at e'
  split at e'
  ·exact G.inb i j e'
  ·split at e'
   ·cases e'; exact Cp _ _ _
   ·exact G.inb _ j e'
 ·rw[BN]; exact hroom
 ·have ei':=ei
  rw[uJ _ hb] at ei'
  rw[uJ _ hbe] at ee
  by_cases c:i<below t.place (rd t.mask h n).j
  ·rw[if_pos c] at ei' ee
   obtain⟨m,h1,h2⟩:=G.reach i j e ei' ee
   exact⟨m,h1,fun q hq=>mono _ (h2 q hq)⟩
  ·rw[if_neg c] at ei' ee
   by_cases d:i=below t.place (rd t.mask h n).j
   ·rw[if_pos d] at ei' ee
    cases ei'; cases ee
    exact⟨n,rfl,fun q hq=>mono _ (hv q hq)⟩
   ·rw[if_neg d] at ei' ee
    obtain⟨m,h1,h2⟩:=G.reach _ j e ei' ee
    exact⟨m,h1,fun q hq=>mono _ (h2 q hq)⟩
structure Own (mask:Nat)(hs:List Int)(ow:Array (Option Nat)):Prop where
 size:ow.size=mask+1
 lt : ∀ j i:Nat,ow[j]?=some (some i)->i<hs.length
 inj : ∀ j j' i:Nat,ow[j]?=some (some i)->ow[j']?=some (some i)->j=j'
 all : ∀ i<hs.length,∃ j:Nat,ow[j]?=some (some i)
 reach : ∀ (j i:Nat) (h:Int),ow[j]?=some (some i)->hs[i]?=some h -> ∃ n,(rd mask h n).j=j /\ ∀ m<n,∃ i':Nat,ow[(rd mask h m).j]?=some (some i')
theorem xO {ow:Array (Option Nat)}{j:Nat}(hj:j<ow.size):ow[j]?=some none \/ ∃ i,ow[j]?=some (some i):=by
 rw[jV hj]
 cases ow[j] with
 | none=>exact .inl rfl
 | some i=>exact .inr ⟨i,rfl⟩
theorem Own.free {mask:Nat}{hs:List Int}{ow:Array (Option Nat)}(O:Own mask hs ow)(hl:hs.length≤mask) : ∃ e,e≤mask/\ow[e]?=some none:=by
 apply KZ
 intro hn
 have hall : ∀ j≤mask,∃ i:Nat,ow[j]?=some (some i):=fun j hj=>by
  rcases xO (ow:=ow) (j:=j) (by rw[O.size]; omega) with c | c
  ·exact absurd ⟨j,hj,c⟩ hn
  ·exact c
 have hnd:((cU (mask+1)).map fun j=>((ow[j]?).join).getD 0).Nodup:=by
  unfold List.Nodup
  rw[wD]
  refine KQ ?_ List.pairwise_lt_range
  intro a b ha hb hab e
  obtain⟨i,ei⟩:=hall a (by have:=iS.mp ha; omega)
  obtain⟨i',ei'⟩:=hall b (by have:=iS.mp hb; omega)
  rw[ei,ei'] at e
  have:i=i':=by simpa using e
  subst this
  have:=O.inj a b i ei ei'
  omega
 have:=KR hnd (fun v m=>by
  obtain⟨j,hj,rfl⟩:=bW.mp m
  obtain⟨i,ei⟩:=hall j (by have:=iS.mp hj; omega)
  rw[ei]
  exact iS.mpr (O.lt j i ei))
 simp at this
 omega
theorem PU (mask i per:Nat) : ∀ m,lp mask (i,per) (m+1)=lp mask (leap mask i per) m
 | 0=>rfl
 | m+1=>by
  show leap mask (lp mask (i,per) (m+1)).1 (lp mask (i,per) (m+1)).2=_
  rw[PU mask i per m]
  rfl
theorem RI {mask:Nat}{ow:Array (Option Nat)}(hz:ow.size=mask+1) : ∀ (fuel i per m:Nat),i≤mask->m<fuel->ow[(lp mask (i,per) m).1]?=some none ->
  ∃ n,layClean.free mask ow fuel i per=some (pN mask (blk mask i per) n).j/\ow[(pN mask (blk mask i per) n).j]?=some none /\ ∀ q<n,∃ i':Nat,ow[(pN mask (blk mask i per) q).j]?=some (some i')
 | 0,_,_,_,_,h,_=>absurd h (by omega)
 | fuel+1,i,per,m,hi,hm,he=>by
  have hrun:runEnd mask i≤mask/\i≤runEnd mask i:=by unfold runEnd; split <;> omega
  have hat : ∀ k,k≤runEnd mask i - i->(pN mask (blk mask i per) k).j=i+k:=fun k hk=>by rw[GH mask i per k hk]
  have hg : ∀ k,k≤runEnd mask i - i->((ow.getD (i+k) (some 0)).isNone=true↔ow[i+k]?=some none):=fun k hk=>by
   rw[LI]
   rcases xO (ow:=ow) (j:=i+k) (by omega) with c | ⟨x,c⟩ <;> rw[c] <;> simp
  unfold layClean.free
  cases ef:(cU (runEnd mask i+1 - i)).find? fun k=>(ow.getD (i+k) (some 0)).isNone with
  | some k=>
   obtain⟨h1,h2,h3⟩:=List.find?_range_eq_some.mp ef
   have hk:k≤runEnd mask i - i:=by have:=iS.mp h2; omega
   refine⟨k,by rw[hat k hk],by rw[hat k hk]; exact(hg k hk).mp h1,fun q hq=>?_⟩
   rw[hat q (by omega)]
   rcases xO (ow:=ow) (j:=i+q) (by omega) with c | c
   ·have:=h3 q hq
    rw[(hg q (by omega)).mpr c] at this
    exact absurd this (by decide)
   ·exact c
  | none=>
   have h3:=List.find?_range_eq_none.mp ef
   have hall : ∀ k,k≤runEnd mask i - i -> ∃ i':Nat,ow[i+k]?=some (some i'):=fun k hk=>by
    rcases xO (ow:=ow) (j:=i+k) (by omega) with c | c
    ·have:=h3 k (by omega)
     rw[(hg k hk).mpr c] at this
     exact absurd this (by decide)
    ·exact c
   cases m with
   | zero=>
    obtain⟨i',e'⟩:=hall 0 (by omega)
    have he':ow[i]?=some none:=he
    rw[KI,he'] at e'
    cases e'
   | succ m=>
    rw[PU] at he
    have hle:(leap mask i per).1≤mask:=by
     have:(leap mask i per).1<mask+1:=qP _ (by omega)
     omega
    obtain⟨n,e1,e2,e3⟩:=RI hz fuel (leap mask i per).1 (leap mask i per).2 m hle (by omega) he
    have hp : ∀ q,pN mask (blk mask i per) (runEnd mask i - i+1+q)=pN mask (blk mask (leap mask i per).1 (leap mask i per).2) q:=fun q=>by
     rw[← JE,NU]
    refine⟨runEnd mask i - i+1+n,?_,by rw[hp]; exact e2,fun q hq=>?_⟩
    ·rw[hp]; exact e1
    ·by_cases c:q≤runEnd mask i - i
     ·rw[hat q c]; exact hall q c
     ·obtain⟨r,rfl⟩ : ∃ r,q=runEnd mask i - i+1+r:=⟨q - (runEnd mask i - i+1),by omega⟩
      rw[hp]
      exact e3 r (by omega)
theorem Own.add {mask:Nat}(hm:nJ mask){hs:List Int}{ow:Array (Option Nat)}(O:Own mask hs ow)(hl:hs.length≤mask)(h:Int) :
  ∃ j,layClean.free mask ow (turns mask) (bits h%(mask+1)) (bits h)=some j/\Own mask (hs++[h]) (ow.setIfInBounds j (some hs.length)):=by
 obtain⟨e,he,hne⟩:=O.free hl
 obtain⟨m,h1,h2⟩:=OD hm (WS h) he
 have hi:bits h%(mask+1)≤mask:=by
  have:=qP (bits h) (show 0<mask+1 by omega)
  omega
 obtain⟨n,e1,e2,e3⟩:=RI O.size (turns mask) (bits h%(mask+1)) (bits h) m hi (by unfold turns; omega) (by rw[h2]; exact hne)
 have e2':ow[(rd mask h n).j]?=some none:=e2
 have hjs:(rd mask h n).j<ow.size:=(sS.mp e2').1
 have get : ∀ k:Nat,(ow.setIfInBounds (rd mask h n).j (some hs.length))[k]?=if (rd mask h n).j=k then some (some hs.length) else ow[k]?:=fun k=>by
  rw[Array.getElem?_setIfInBounds]
  by_cases c:(rd mask h n).j=k
  ·subst c
   simp[hjs]
  ·rw[if_neg c,if_neg c]
 have mono : ∀ k i:Nat,ow[k]?=some (some i)->(ow.setIfInBounds (rd mask h n).j (some hs.length))[k]?=some (some i):=fun k i q=>by
  rw[get,if_neg (by rintro rfl; rw[e2'] at q; cases q)]
  exact q
 refine⟨_,e1,by simpa using O.size,fun j i q=>?_,fun j j' i q q'=>?_,fun i hi=>?_,fun j i x q qx=>?_⟩
 ·have q:(ow.setIfInBounds (rd mask h n).j (some hs.length))[j]?=some (some i):=q
  rw[get] at q
  rw[hV,qR]
  split at q
  ·cases q; omega
  ·have:=O.lt j i q; omega
 ·have q:(ow.setIfInBounds (rd mask h n).j (some hs.length))[j]?=some (some i):=q
  have q':(ow.setIfInBounds (rd mask h n).j (some hs.length))[j']?=some (some i):=q'
  rw[get] at q q'
  split at q
  ·split at q'
   ·omega
   ·cases q
    have:=O.lt j' _ q'
    omega
  ·split at q'
   ·cases q'
    have:=O.lt j _ q
    omega
   ·exact O.inj j j' i q q'
 ·rw[hV,qR] at hi
  by_cases c:i=hs.length
  ·exact⟨(rd mask h n).j,by show(ow.setIfInBounds (rd mask h n).j (some hs.length))[(rd mask h n).j]?=_; rw[get,if_pos rfl,c]⟩
  ·obtain⟨j,q⟩:=O.all i (by omega)
   exact⟨j,mono j i q⟩
 ·have q:(ow.setIfInBounds (rd mask h n).j (some hs.length))[j]?=some (some i):=q
  rw[get] at q
  split at q
  ·rename_i hj
   cases q
   rw[wH (bY _)] at qx
   have:h=x:=by simpa using qx
   subst this
   refine⟨n,hj,fun q hq=>?_⟩
   obtain⟨i',w⟩:=e3 q hq
   exact⟨i',mono _ i' w⟩
  ·have hlt:=O.lt j i q
   rw[qW hlt] at qx
   obtain⟨n',a,b⟩:=O.reach j i x q qx
   refine⟨n',a,fun r hr=>?_⟩
   obtain⟨i',w⟩:=b r hr
   exact⟨i',mono _ i' w⟩
theorem WI {mask:Nat}(hm:nJ mask) : ∀ (rest hs:List Int) (ow:Array (Option Nat)),Own mask hs ow->hs.length+rest.length≤mask+1 ->
  ∃ ow',rest.foldl (fun acc h=>do
   let (owner,k) ← acc
   let j ← layClean.free mask owner (turns mask) (bits h%(mask+1)) (bits h)
   pure (owner.setIfInBounds j (some k),k+1)) (some (ow,hs.length))=some (ow',(hs++rest).length)/\Own mask (hs++rest) ow'
 | [],hs,ow,O,_=>⟨ow,by simp,by simpa using O⟩
 | h::r,hs,ow,O,hl=>by
  rw[fF] at hl
  obtain⟨j,e,O'⟩:=O.add hm (by omega) h
  obtain⟨ow',e2,O2⟩:=WI hm r (hs++[h]) _ O' (by rw[hV,qR]; omega)
  refine⟨ow',?_,by simpa using O2⟩
  rw[lF]
  have:(do
   let (owner,k) ← some (ow,hs.length)
   let j ← layClean.free mask owner (turns mask) (bits h%(mask+1)) (bits h)
   pure (owner.setIfInBounds j (some k),k+1))=some (ow.setIfInBounds j (some hs.length),(hs++[h]).length):=by
   show((layClean.free mask ow (turns mask) (bits h%(mask+1)) (bits h)).bind fun j=>some (ow.setIfInBounds j (some hs.length),hs.length+1))=_
   rw[e]
   simp
  rw[this,e2]
  simp
theorem Hq (mask:Nat):Own mask [] (Array.replicate (mask+1) none):=by
 have hn : ∀ j i:Nat,(Array.replicate (mask+1) (none:Option Nat))[j]?≠some (some i):=fun j i q=>by
  rw[Array.getElem?_replicate] at q
  split at q <;> cases q
 exact⟨by simp,fun j i q=>absurd q (hn j i),fun j _ i q=>absurd q (hn j i),fun i hi=>absurd hi (by simp),fun j i _ q=>absurd q (hn j i)⟩
theorem Vl {mask:Nat}(hm:nJ mask)(hs:Array Int)(hl:hs.size≤mask+1) : ∃ ow,layClean mask hs=some ow/\Own mask hs.toList ow:=by
 obtain⟨ow,e,O⟩:=WI hm hs.toList [] _ (Hq mask) (by simpa using hl)
 refine⟨ow,?_,by simpa using O⟩
 unfold layClean
 rw[← Array.foldl_toList]
 have e':=congrArg (Option.map (·.1)) e
 exact e'
theorem FV {α β:Type}{f:α->Option β} : ∀ (l:List α),(∀ k∈l,(f k).isSome=true) -> ∀ i:Nat,(l.filterMap f)[i]?=(l[i]?).bind f
 | [],_,i=>by simp
 | a::r,h,i=>by
  obtain⟨b,e⟩:=YR.mp (h a bR)
  rw[List.filterMap_cons_some e]
  cases i with
  | zero=>simp[e]
  | succ i=>
   rw[pK,pK]
   exact FV r (fun k m=>h k (bZ _ m)) i
noncomputable def iD (mask:Nat)(ow:Array (Option Nat)):List (Nat×Nat):=(cU (mask+1)).filterMap fun j=>(ow.getD j none).map (j,·)
theorem mS {mask:Nat}{ow:Array (Option Nat)}(hz:ow.size=mask+1){j i:Nat}:(j,i)∈iD mask ow↔ow[j]?=some (some i):=by
 unfold iD
 rw[wF]
 constructor
 ·rintro⟨j',hj,e⟩
  obtain⟨i',e1,e2⟩:=kH.mp e
  have e3:=congrArg Prod.fst e2
  have e4:=congrArg Prod.snd e2
  subst e3
  subst e4
  have hlt:j'<ow.size:=by have:=iS.mp hj; omega
  rw[LI] at e1
  rcases xO hlt with c | ⟨x,c⟩
  ·rw[c] at e1; cases e1
  ·rw[c] at e1; cases e1; exact c
 ·intro e
  have hlt:=(sS.mp e).1
  exact⟨j,iS.mpr (by omega),by rw[LI,e]; rfl⟩
theorem HK (mask:Nat)(ow:Array (Option Nat)):(iD mask ow).Pairwise (fun a b=>a.1<b.1):=by
 unfold iD
 rw[List.pairwise_filterMap]
 refine List.Pairwise.imp ?_ List.pairwise_lt_range
 intro a b hab x hx y hy
 obtain⟨_,_,rfl⟩:=kH.mp hx
 obtain⟨_,_,rfl⟩:=kH.mp hy
 exact hab
theorem Vc {mask:Nat}(hm:nJ mask)(es:Array (Int×aE))(hl:es.size≤mask)(fg mv:Nat)(led pl:Bool) :
  ∃ t' order,laid mask fg mv led pl (es.map (·.1))=some (t',order)/\Good t' (order.filterMap (es[·]?))/\(order.filterMap (es[·]?)).toList.Perm es.toList/\t'.mask=mask/\t'.led=led/\t'.plain=pl/\t'.dummies = #[]:=by
 obtain⟨ow,e,O⟩:=Vl hm (es.map (·.1)) (by rw[Array.size_map]; omega)
 have hz:=O.size
 have hlen:(es.map (·.1)).toList.length=es.size:=by simp
 refine⟨{ mask,place:=((iD mask ow).map (·.1)).toArray,dummies:=#[],finger:=fg,led,moves:=mv,plain:=pl },((iD mask ow).map (·.2)).toArray,?_,?_,?_,rfl,rfl,rfl,rfl⟩
 ·unfold laid
  rw[e]
  rfl
 ·have hsome : ∀ k∈(iD mask ow).map (·.2),(es[k]?).isSome=true:=fun k m=>by
   obtain⟨⟨j,i⟩,mm,rfl⟩:=bW.mp m
   have:=O.lt j i ((mS hz).mp mm)
   rw[hlen] at this
   rw[jV this]
   rfl
  have hget : ∀ i:Nat,((((iD mask ow).map (·.2)).toArray).filterMap (es[·]?))[i]?=(((iD mask ow)[i]?).bind fun p=>es[p.2]?):=fun i=>by
   rw[← mG,LG,FV _ hsome,fK]
   cases(iD mask ow)[i]? <;> rfl
  have hpl : ∀ i:Nat,(((iD mask ow).map (·.1)).toArray)[i]?=((iD mask ow)[i]?).map (·.1):=fun i=>by simp
  refine⟨hm,rfl,?_,?_,?_,?_,?_⟩
  ·intro a b u v hab ea eb
   have ea:=ea
   have eb:=eb
   rw[hpl] at ea eb
   obtain⟨x,hx,rfl⟩:=kH.mp ea
   obtain⟨y,hy,rfl⟩:=kH.mp eb
   obtain⟨ha,rfl⟩:=fL.mp hx
   obtain⟨hb,rfl⟩:=fL.mp hy
   exact Xc.mp (HK mask ow) a b ha hb hab
  ·have:(List.filterMap (es[·]?) ((iD mask ow).map (·.2))).length=((iD mask ow).map (·.2)).length:=by
    rw[List.length_filterMap_eq_countP,List.countP_eq_length]
    exact hsome
   rw[← gR (xs:=Array.filterMap _ _),LG,this]
   simp
  ·intro i j q
   have q:=q
   rw[hpl] at q
   obtain⟨⟨j',i'⟩,hx,rfl⟩:=kH.mp q
   have:=(mS hz).mp (gQ hx)
   have:=(sS.mp this).1
   show j'≤mask
   omega
  ·have hnd:((iD mask ow).map (·.2)).Nodup:=by
    unfold List.Nodup
    rw[wD]
    refine KQ ?_ (HK mask ow)
    rintro⟨a,i⟩ ⟨b,i'⟩ ma mb hab e'
    have e':=e'
    subst e'
    have:=O.inj a b i ((mS hz).mp ma) ((mS hz).mp mb)
    have hab:=hab
    omega
   have:=KR hnd (fun v m=>by
    obtain⟨⟨j,i⟩,mm,rfl⟩:=bW.mp m
    have:=O.lt j i ((mS hz).mp mm)
    rw[hlen] at this
    exact iS.mpr this)
   have h2:((((iD mask ow).map (·.2)).toArray).filterMap (es[·]?)).size≤((iD mask ow).map (·.2)).length:=by
    rw[← gR,LG]
    exact Xd _ _
   rw[List.length_range] at this
   show _≤mask
   omega
  ·intro i j x q qx
   have q:=q
   rw[hpl] at q
   obtain⟨⟨j',k⟩,hx,rfl⟩:=kH.mp q
   rw[hget,hx,cK] at qx
   have hw:=(mS hz).mp (gQ hx)
   have hk:(es.map (·.1)).toList[k]?=some x.1:=by
    have qx:=qx
    rw[mG,Array.getElem?_map,qx]
    rfl
   obtain⟨n,a,b⟩:=O.reach j' k x.1 hw hk
   refine⟨n,a,fun m hm'=>?_⟩
   obtain⟨i',w⟩:=b m hm'
   obtain⟨r,hr,er⟩:=ZD.mp ((mS hz).mpr w)
   refine⟨r,?_⟩
   rw[hpl,fS hr,er]
   rfl
 ·rw[LG]
  have hnd:((iD mask ow).map (·.2)).Nodup:=by
   unfold List.Nodup
   rw[wD]
   refine KQ ?_ (HK mask ow)
   rintro⟨a,i⟩ ⟨b,i'⟩ ma mb hab e'
   have e':=e'
   subst e'
   have:=O.inj a b i ((mS hz).mp ma) ((mS hz).mp mb)
   have hab:=hab
   omega
  have hp:((iD mask ow).map (·.2)).Perm (cU es.size):=by
   rw[List.perm_ext_iff_of_nodup hnd YZ]
   intro v
   constructor
   ·intro m
    obtain⟨⟨j,i⟩,mm,rfl⟩:=bW.mp m
    have:=O.lt j i ((mS hz).mp mm)
    rw[hlen] at this
    exact iS.mpr this
   ·intro m
    obtain⟨j,q⟩:=O.all v (by rw[hlen]; exact iS.mp m)
    exact bW.mpr ⟨(j,v),(mS hz).mpr q,rfl⟩
  exact(hp.filterMap _).trans (by rw[filterMap_getElem?_range])
structure Fine (t:dY)(es:Array (Int×aE)):Prop where
 good:Good t es
 few:es.size*5<t.mask*3/\es.size≤4914
theorem Fine.fits {t:dY}{es:Array (Int×aE)}(F:Fine t es):t.fits es.size=true:=by
 have h1:=F.good.len
 have h2:=F.good.nod
 have h3:=F.good.room
 simp[SetTable.fits,JY,h1,h2,h3]
theorem Fine.odd {t:dY}{es:Array (Int×aE)}(F:Fine t es):t.gaveWay=false:=by
 rcases F.good.small with e | e | e | e | e | e <;> simp[SetTable.gaveWay,e]
theorem Mq (led:Bool):Fine (EH 0 0 led) #[]:=
 ⟨⟨.inl rfl,rfl,fun a b u v _ h=>by simp[EH] at h,rfl,fun i j h=>by simp[EH] at h,by simp,fun i j e h=>by simp[EH] at h⟩,by simp[EH]⟩
theorem Kc {t:dY}(hs:nJ t.mask){n:Nat}(h1:(n - 1)*5<t.mask*3)(h0:0<n)(hf:t.mask*3≤n*5)(hn:n≤4914) : ∃ M,nJ M/\n*5<M*3/\SetTable.sizeAbove (SetTable.grown n)=M+1:=by
 rcases hs with e | e | e | e | e | e <;> rw[e] at h1 hf
 ·have h5:n=5:=by omega
  exact⟨31,.inr (.inl rfl),by omega,by rw[h5]; decide⟩
 ·have h5:n=19:=by omega
  exact⟨127,.inr (.inr (.inl rfl)),by omega,by rw[h5]; decide⟩
 ·have h5:n=77:=by omega
  exact⟨511,.inr (.inr (.inr (.inl rfl))),by omega,by rw[h5]; decide⟩
 ·have h5:n=307:=by omega
  exact⟨2047,.inr (.inr (.inr (.inr (.inl rfl)))),by omega,by rw[h5]; decide⟩
 ·have h5:n=1229:=by omega
  exact⟨8191,.inr (.inr (.inr (.inr (.inr rfl)))),by omega,by rw[h5]; decide⟩
 ·omega
open PySem PySem.Spec PyProof.Rows PySem.SetTable
noncomputable def fH (w:bB):Bool:=w.params.followText "set-order"
noncomputable abbrev Ajb (led:Bool):aY:={ cls:=.type "set",dict:=none,data:=.set #[] 0 (.fresh 0 0 led) }
theorem Pv {prog:bQ}{w:bB}{A:cF}{E:aE->aG->Prop}{s:aG}(v:aE){Q₁:aE->aG->Prop}(h:Q₁ (.ref s.heap.objs.size) { s with heap:=s.heap.push (Ajb (!fH w)) }) :
  nW (aT prog w) A (.call (.builtin "set.__new__") ⟨[.type "set",v],[]⟩) (wants Q₁ E) s:=by
 refine codeAny_of_tree (show aN _ A.in1 (do checkBuiltinCall "set.__new__" ⟨[.type "set",v],[]⟩; again (.builtin "set.__new__" ⟨[.type "set",v],[]⟩)) _ _ s from ?_)
 refine aI (JS (F.newCall_set_1 v) (aR ⟨sI F.plain_set_new _,nV F.entry_set_new ?_⟩))
 rw[rB F.plain_set_new _]
 unfold Builtin.«set.__new__» Builtin.Frozenset.newClass
 have sub1:=sub_set_self
 obtain⟨hp,g,d,tk,os⟩:=s
 dsimp only
 wp_walk
 refine zI (aR ?_)
 dsimp only
 simp only[newObj]
 exact aI (wpAny_alloc (aR (aR h)))
structure WSet (w:bB)(h:aW)(a:aD)(o:aY)(es:Array (Int×aE))(ep:Nat)(t:dY):Prop where
 get:h.get? a=some o
 exact:o.ExactSet
 data:o.data = .set es ep t
 fine:Fine t es
 led:t.led = !fH w
section
variable {prog:bQ}{w:bB}
mutual
theorem HW : ∀ (d:aA) (n:Nat) {A:cF} {E:aE->aG->Prop} {s:aG} {v:aE} {as:List aD} {Q:Bool->aG->Prop},d.depth≤n->bD d=true->lD s.heap v d as ->
  Q false s->aN (aT prog w) A (EA n v) Q E s
 | .int i,n,A,E,s,v,as,Q,hu,hk,r,h=>by
  cases r with
  | int _ t=>
   unfold EA
   exact aR h
 | .str x,n,A,E,s,v,as,Q,hu,hk,r,h=>by
  cases r with
  | str _ t=>
   unfold EA
   exact aR h
 | .tuple ks,n,A,E,s,v,as,Q,hu,hk,r,h=>by
  obtain⟨a,o,items,m,rfl,ho,hc,hd,hi⟩:=qC r
  have hT:s.TypeIs (.ref a) "tuple":=⟨o,ho,hc⟩
  have hdep:dI ks+1≤n:=by simpa [fV] using hu
  obtain⟨n,rfl⟩ : ∃ m,n=m+1:=⟨n - 1,by omega⟩
  have hk':cC ks=true:=by simpa [bD] using hk
  unfold EA
  refine aI (sG hT ?_)
  dsimp only
  rw[if_pos (by decide)]
  refine aI (aR ?_)
  simp only[AC,iL,if_false]
  refine aI (zE ho hd ?_)
  dsimp only
  refine aI ?_
  rw[← LJ]
  refine DY _ (fun rest r s'=>r.1=none/\s'=s /\ ∃ ds bs,mZ s.heap rest ds bs /\ ∀ d∈ds,d∈ks) _ ?_ ?_ _ _ ⟨rfl,rfl,ks,as,hi,fun _ h=>h⟩
  ·rintro v rest r s' ⟨hr,rfl,ds,bs,hl,hall⟩
   cases hl with
   | @cons _ _ d ds as1 bs1 h1 hl'=>
    refine aI (SL ks (hall d bR) n (by omega) hk' h1 ?_)
    simp only[iL,if_false]
    exact aR ⟨rfl,rfl,ds,bs1,hl',fun u hu'=>hall u (bZ _ hu')⟩
  ·rintro⟨r1,r2⟩ s' ⟨hr,rfl,_⟩
   simp only at hr
   subst hr
   exact aR h
 | .none,n,A,E,s,v,as,Q,hu,hk,r,h=>by simp[bD] at hk
 | .bool _,n,A,E,s,v,as,Q,hu,hk,r,h=>by simp[bD] at hk
 | .list _,n,A,E,s,v,as,Q,hu,hk,r,h=>by simp[bD] at hk
 | .dict _,n,A,E,s,v,as,Q,hu,hk,r,h=>by simp[bD] at hk
theorem SL : ∀ (ks:List aA) {d:aA},d∈ks -> ∀ (n:Nat) {A:cF} {E:aE->aG->Prop} {s:aG} {v:aE} {as:List aD} {Q:Bool->aG->Prop},dI ks≤n->cC ks=true->lD s.heap v d as ->
  Q false s->aN (aT prog w) A (EA n v) Q E s
 | [],_,hm,_,_,_,_,_,_,_,_,_,_,_=>by simp at hm
 | k::ks,d,hm,n,A,E,s,v,as,Q,hu,hk,r,h=>by
  have hk':bD k=true/\cC ks=true:=by simpa [cC] using hk
  have hdep:max k.depth (dI ks)≤n:=by simpa [dI] using hu
  by_cases e:d=k
  ·exact HW k n (by omega) hk'.1 (e ▸ r) h
  ·have hm':d∈ks:=by
    rcases cQ.mp hm with q | q
    ·exact absurd q e
    ·exact q
   exact SL ks hm' n (by omega) hk'.2 r h
end
mutual
theorem QF : ∀ (d:aA) (n:Nat) {A:cF} {E:aE->aG->Prop} {s:aG} {v:aE} {as:List aD} {Q:Bool->aG->Prop},d.depth≤n->bD d=true->lD s.heap v d as ->
  (∀ b,Q b s)->aN (aT prog w) A (ED n v) Q E s
 | .int i,n,A,E,s,v,as,Q,hu,hk,r,h=>by
  cases r with
  | int _ t=>
   cases n <;> (unfold ED; exact aR (h _))
 | .str x,n,A,E,s,v,as,Q,hu,hk,r,h=>by
  cases r with
  | str _ t=>
   cases n <;> (unfold ED; exact aR (h _))
 | .tuple ks,n,A,E,s,v,as,Q,hu,hk,r,h=>by
  obtain⟨a,o,items,m,rfl,ho,hc,hd,hi⟩:=qC r
  have hT:s.TypeIs (.ref a) "tuple":=⟨o,ho,hc⟩
  have hdep:dI ks+1≤n:=by simpa [fV] using hu
  obtain⟨n,rfl⟩ : ∃ m,n=m+1:=⟨n - 1,by omega⟩
  have hk':cC ks=true:=by simpa [bD] using hk
  unfold ED
  refine aI (vJ hT ET.lookup ?_)
  refine aI (zE ho hd ?_)
  refine aI ?_
  rw[← LJ]
  refine DY _ (fun rest r s'=>s'=s /\ ∃ ds bs,mZ s.heap rest ds bs /\ ∀ d∈ds,d∈ks) _ ?_ ?_ _ _ ⟨rfl,ks,as,hi,fun _ h=>h⟩
  ·rintro v rest r s' ⟨rfl,ds,bs,hl,hall⟩
   cases hl with
   | @cons _ _ d ds as1 bs1 h1 hl'=>
    refine aI (TF ks (hall d bR) n (by omega) hk' h1 fun b=>?_)
    cases b
    ·simp only[Bool.not_false,if_true]
     exact aR (aR (h _))
    ·simp only[AC,iL,if_false]
     exact aR ⟨rfl,ds,bs1,hl',fun u hu'=>hall u (bZ _ hu')⟩
  ·rintro⟨r1,r2⟩ s' ⟨rfl,_⟩
   cases r1 with
   | none=>exact aR (h _)
   | some b=>exact aR (h _)
 | .none,n,A,E,s,v,as,Q,hu,hk,r,h=>by simp[bD] at hk
 | .bool _,n,A,E,s,v,as,Q,hu,hk,r,h=>by simp[bD] at hk
 | .list _,n,A,E,s,v,as,Q,hu,hk,r,h=>by simp[bD] at hk
 | .dict _,n,A,E,s,v,as,Q,hu,hk,r,h=>by simp[bD] at hk
theorem TF : ∀ (ks:List aA) {d:aA},d∈ks -> ∀ (n:Nat) {A:cF} {E:aE->aG->Prop} {s:aG} {v:aE} {as:List aD} {Q:Bool->aG->Prop},dI ks≤n->cC ks=true->lD s.heap v d as ->
  (∀ b,Q b s)->aN (aT prog w) A (ED n v) Q E s
 | [],_,hm,_,_,_,_,_,_,_,_,_,_,_=>by simp at hm
 | k::ks,d,hm,n,A,E,s,v,as,Q,hu,hk,r,h=>by
  have hk':bD k=true/\cC ks=true:=by simpa [cC] using hk
  have hdep:max k.depth (dI ks)≤n:=by simpa [dI] using hu
  by_cases e:d=k
  ·exact QF k n (by omega) hk'.1 (e ▸ r) h
  ·have hm':d∈ks:=by
    rcases cQ.mp hm with q | q
    ·exact absurd q e
    ·exact q
   exact TF ks hm' n (by omega) hk'.2 r h
end
theorem Hh {A:cF}{E:aE->aG->Prop}{s:aG}{k:List aA}{b:aD}{ys:List aE}{Q:Bool->aG->Prop}(hk:Adq s.heap k b)(hy : ∀ y∈ys,∃ k' b',y = .ref b'/\Adq s.heap k' b')(h:Q false s) :
  aN (aT prog w) A (searchCouldBeSeen (.ref b) ys) Q E s:=by
 unfold searchCouldBeSeen
 refine aI ?_
 refine DY _ (fun rest r s'=>r.1=none/\s'=s /\ ∀ y∈rest,∃ k' b',y = .ref b'/\Adq s.heap k' b') _ ?_ ?_ _ _ ⟨rfl,rfl,hy⟩
 ·rintro v rest r s' ⟨hr,rfl,hall⟩
  obtain⟨k',b',rfl,hk'⟩:=hall v bR
  have hrest : ∀ y∈rest,∃ k' b',y = .ref b'/\Adq s'.heap k' b':=fun y m=>hall y (bZ _ m)
  dsimp only
  split
  ·exact aR ⟨rfl,rfl,hrest⟩
  ·obtain⟨a1,a2,as,ra⟩:=hk
   obtain⟨b1,b2,bs,rb⟩:=hk'
   have ka:bD (.tuple k)=true:=by simpa [bD] using a1
   have kb:bD (.tuple k')=true:=by simpa [bD] using b1
   have da:(fU k).depth≤8:=by simp only[fV]; omega
   have db:(fU k').depth≤8:=by simp only[fV]; omega
   refine aI (CA (.tuple k) 8 da ka ra ?_)
   simp only[AC,iL,if_false]
   refine aI (CA (.tuple k') 8 db kb rb ?_)
   simp only[AC,iL,if_false]
   refine aI (HW (.tuple k) 8 da ka ra ?_)
   simp only[iL,if_false]
   refine aI (HW (.tuple k') 8 db kb rb ?_)
   simp only[iL,if_false]
   exact aR ⟨rfl,rfl,hrest⟩
 ·rintro⟨r1,r2⟩ s' ⟨hr,rfl,_⟩
  simp only at hr
  subst hr
  exact aR h
end
theorem tU {α β:Type}{R:α->β->Prop} : ∀ {as:List α} {bs:List β},eP R as bs -> ∀ {i:Nat} {a:α},as[i]?=some a -> ∃ b,bs[i]?=some b/\R a b
 | _,_,.nil,i,a,h=>by simp at h
 | _,_,.cons h t,0,a,e=>⟨_,rfl,by simp at e; exact e ▸ h⟩
 | _,_,.cons h t,i+1,a,e=>tU t (by simpa using e)
theorem BG {α β:Type}{R:α->β->Prop} : ∀ {as:List α} {bs:List β},eP R as bs -> ∀ {i:Nat} {b:β},bs[i]?=some b -> ∃ a,as[i]?=some a/\R a b
 | _,_,.nil,i,a,h=>by simp at h
 | _,_,.cons h t,0,a,e=>⟨_,rfl,by simp at e; exact e ▸ h⟩
 | _,_,.cons h t,i+1,a,e=>BG t (by simpa using e)
theorem Good.met {t:dY}{es:Array (Int×aE)}{f:Nat->Int}{h:Int}{n:Nat}{r:Option Met}(G:Good t es)(hv : ∀ m<n,iU t (rd t.mask h m).j)(heq:t.probe f h (rd t.mask h n)=r)(hf : ∀ (i:Nat) e,es[i]?=some e->f i=e.1) :
  ∃ N,n≤N/\N<10*turns t.mask/\(∀ m,n≤m->m<N -> ∃ (i:Nat) (e:Int×aE),t.place[i]?=some (rd t.mask h m).j/\es[i]?=some e/\e.1≠h) /\
   ((¬ iU t (rd t.mask h N).j/\r=some (.empty (rd t.mask h N).j none)) \/ ∃ (i:Nat) (e:Int×aE),t.place[i]?=some (rd t.mask h N).j/\es[i]?=some e/\e.1=h/\r=some (.candidate (rd t.mask h N).j i (rd t.mask h (N+1)))):=by
 obtain⟨k,h1,h2,h3⟩:=G.next h hv
 have el : ∀ i j:Nat,t.place[i]?=some j -> ∃ e,es[i]?=some e:=fun i j q=>by
  have:=(sS.mp q).1
  rw[G.len] at this
  exact⟨es[i],jV this⟩
 refine⟨n+k,by omega,h1,fun m a b=>?_,?_⟩
 ·obtain⟨i,e1,e2⟩:=h2 m a b
  obtain⟨e,ee⟩:=el i _ e1
  exact⟨i,e,e1,ee,by rw[← hf i e ee]; exact e2⟩
 ·rcases h3 with⟨a,b⟩ | ⟨i,a,b,c⟩
  ·exact .inl ⟨a,heq.symm.trans b⟩
  ·obtain⟨e,ee⟩:=el i _ a
   exact .inr ⟨i,e,a,ee,by rw[← hf i e ee]; exact b,heq.symm.trans c⟩
theorem Good.nope {t:dY}{es:Array (Int×aE)}{f:Nat->Int}{h:Int}{n:Nat}(G:Good t es)(hv : ∀ m<n,iU t (rd t.mask h m).j)(hn : ∀ met,t.probe f h (rd t.mask h n)=some met->False):False:=by
 obtain⟨k,_,_,h3⟩:=G.next h hv
 rcases h3 with⟨_,q⟩ | ⟨_,_,_,q⟩
 ·exact hn _ q
 ·exact hn _ q
section
variable {prog:bQ}{w:bB}{B:List aA->aD->Prop}
def ElT (w:bB)(B:List aA->aD->Prop)(h:aW)(e:Int×aE)(k:List aA):Prop:=∃ b,e.2 = .ref b/\e.1=dB w (.tuple k)/\Adq h k b/\B k b
structure SetAt (w:bB)(B:List aA->aD->Prop)(h:aW)(a:aD)(o:aY)(es:Array (Int×aE))(ep:Nat)(t:dY)(ks:List (List aA)):Prop where
 get:h.get? a=some o
 exact:o.ExactSet
 data:o.data = .set es ep t
 fine:Fine t es
 led:t.led = !fH w
 els:eP (ElT w B h) es.toList ks
 nod:ks.Nodup
theorem RJ {A:cF}{E:aE->aG->Prop}{s:aG}{a b:aD}{o:aY}{es:Array (Int×aE)}{ep:Nat}{t:dY}{ks:List (List aA)}{k:List aA}{Q:SetFound->aG->Prop}
  (S:SetAt w B s.heap a o es ep t ks) (hk:Adq s.heap k b) (hu:A.units+20<cLine) (h1:k∈ks->Q (.there none) s)
  (h2:k∉ks -> ∀ N,(∀ m<N,iU t (rd t.mask (dB w (.tuple k)) m).j) -> ¬ iU t (rd t.mask (dB w (.tuple k)) N).j->Q (.free (rd t.mask (dB w (.tuple k)) N).j false) s) :
  ∀ fuel n stand,stand.getD (t.probeStart (dB w (.tuple k)))=rd t.mask (dB w (.tuple k)) n->(∀ m<n,∃ i:Nat,t.place[i]?=some (rd t.mask (dB w (.tuple k)) m).j /\ ∀ k',ks[i]?=some k'->k'≠k)->10*turns t.mask<fuel+n ->
   aN (aT prog w) A (setSearchFrom a (.ref b) (dB w (.tuple k)) true fuel stand) Q E s
 | 0,n,stand,_,hv,hf=>by
  obtain⟨e,he,hne⟩:=S.fine.good.empty
  obtain⟨N,hN,eN⟩:=NZ S.fine.good.small (dB w (.tuple k)) he
  obtain⟨i,q,_⟩:=hv N (by omega)
  exact absurd ⟨i,eN ▸ q⟩ hne
 | fuel+1,n,stand,hst,hv,hf=>by
  have G:=S.fine.good
  have hv' : ∀ m<n,iU t (rd t.mask (dB w (.tuple k)) m).j:=fun m hm=>by
   obtain⟨i,q,_⟩:=hv m hm
   exact⟨i,q⟩
  have keyAt : ∀ (i:Nat) (e:Int×aE),es[i]?=some e -> ∃ k',ks[i]?=some k'/\ElT w B s.heap e k':=fun i e q=>tU S.els (by rw[mG]; exact q)
  unfold setSearchFrom
  refine aI (pE S.get S.data S.fine.fits ?_)
  dsimp only
  rw[S.fine.odd]
  simp only[iL,if_false]
  rw[hst]
  split
  ·rename_i met heq
   obtain⟨N,hnN,hN,hm,hc⟩:=G.met hv' heq (fun i e he=>by
    show(es[i]?.map (·.1)).getD 0=e.1
    rw[he]
    rfl)
   have hlive : ∀ m<N,iU t (rd t.mask (dB w (.tuple k)) m).j:=fun m hmN=>by
    rcases pJ m n with c | c
    ·exact hv' m c
    ·obtain⟨i,e,q,_⟩:=hm m c hmN
     exact⟨i,q⟩
   rcases hc with⟨hne,hr⟩ | ⟨i,e,hp,hes,hh,hr⟩
   ·cases hr
    dsimp only
    have hnk:k∉ks:=fun mem=>by
     obtain⟨i,hi,ei⟩:=ZD.mp mem
     have ei':ks[i]?=some k:=by rw[fS hi,ei]
     obtain⟨e,q,b',_,hh,_⟩:=BG S.els ei'
     rw[mG] at q
     have hi2:=(sS.mp q).1
     have hi3:i<t.place.size:=by rw[G.len]; exact hi2
     have hpl:=jV hi3
     obtain⟨M,hM,hMl⟩:=G.reach i _ e hpl q
     rw[hh] at hM hMl
     rcases EN N M with c | c | c
     ·exact hne (hMl N c)
     ·subst c; exact hne ⟨i,by rw[hpl,hM]⟩
     ·have uniq : ∀ i':Nat,t.place[i']?=some (rd t.mask (dB w (.tuple k)) M).j->i'=i:=fun i' q'=>by
       rw[hM] at q'
       rcases EN i' i with z | z | z
       ·have:=G.ris _ _ _ _ z q' hpl; omega
       ·exact z
       ·have:=G.ris _ _ _ _ z hpl q'; omega
      rcases pJ M n with z | z
      ·obtain⟨i',q',hne'⟩:=hv M z
       have:=uniq i' q'
       subst this
       exact hne' k ei' rfl
      ·obtain⟨i',e',q',qe,hne'⟩:=hm M z c
       have:=uniq i' q'
       subst this
       rw[q] at qe
       cases qe
       exact hne' hh
    exact aR (h2 hnk N hlive hne)
   ·cases hr
    dsimp only
    obtain⟨k',hk',b',eb,eh,hd',_⟩:=keyAt i e hes
    have hseen : ∀ y∈((es.filter (·.1 == dB w (.tuple k))).toList.map (·.2)),∃ k' b',y = .ref b'/\Adq s.heap k' b':=fun y my=>by
     obtain⟨e',me,rfl⟩:=bW.mp my
     rw[Array.toList_filter] at me
     obtain⟨q1,_⟩:=ER.mp me
     obtain⟨i',hi',ei'⟩:=ZD.mp q1
     obtain⟨k2,_,b2,z1,_,z2,_⟩:=tU S.els (by rw[fS hi',ei'])
     exact⟨k2,b2,z1,z2⟩
    obtain⟨eh0,ey⟩:=e
    have eb:=eb
    have hh:=hh
    subst eb
    have hnext:k'≠k->aN (aT prog w) A (setSearchFrom a (.ref b) (dB w (.tuple k)) true fuel (some (rd t.mask (dB w (.tuple k)) (N+1)))) Q E s:=fun hne=>by
     refine RJ S hk hu h1 h2 fuel (N+1) _ rfl (fun m hmN=>?_) (by omega)
     rcases pJ m n with c | c
     ·exact hv m c
     ·rcases pJ m N with c2 | c2
      ·obtain⟨i',e',q',qe,hne'⟩:=hm m c c2
       refine⟨i',q',fun k2 hk2 e2=>?_⟩
       obtain⟨k3,hk3,_,_,z,_⟩:=keyAt i' e' qe
       rw[hk2] at hk3
       cases hk3
       subst e2
       exact hne' z
      ·have:m=N:=by omega
       subst this
       refine⟨i,hp,fun k2 hk2 e2=>?_⟩
       rw[hk'] at hk2
       cases hk2
       exact hne e2
    have hsm:t.sameMemory t.moves t.mask=some true:=by simp[sameMemory]
    split
    case' isTrue=>refine aI (Hh hk hseen ?_); simp only[iL,if_false]
    all_goals
     rw[hes]
     dsimp only
     refine aI (jF ((qA prog w).eqBool hu hd' hk ?_))
     refine aI (pE S.get S.data S.fine.fits ?_)
     dsimp only
     by_cases ek:k'=k
     ·rw[decide_eq_true ek]
      simp only[ZV,if_true]
      exact aR (h1 (by rw[← ek]; exact gQ hk'))
     ·rw[decide_eq_false ek]
      simp only[Bool.and_false,iL,if_false]
      rw[hsm]
      dsimp only
      simp only[if_true]
      rw[(BV G.nod G.ris).mpr hp]
      dsimp only
      rw[hes]
      dsimp only
      refine aI (wpAny_isSame_ref_self (aI (aR ?_)))
      simp only[if_true]
      exact hnext ek
  ·rename_i heq
   exact(G.nope hv' heq).elim
end
section
variable {prog:bQ}{w:bB}{B:List aA->aD->Prop}
theorem OU {h h':aW}{a:aD}{o:aY}{es:Array (Int×aE)}{ep:Nat}{t:dY}(ho:h.get? a=some o)(hd:o.data = .set es ep t)(hs:oG a h h'){k:List aA}{b:aD}(hk:Adq h k b):Adq h' k b:=
 hk.keep fun c oc vs n hc _ hd'=>by
  have hne:c≠a:=by
   rintro rfl
   rw[ho] at hc
   cases hc
   rw[hd] at hd'
   cases hd'
  exact(hs.2 c hne).trans hc
theorem oO {α β:Type}{R R':α->β->Prop}(f : ∀ a b,R a b->R' a b) : ∀ {as:List α} {bs:List β},eP R as bs->eP R' as bs
 | _,_,.nil=>.nil
 | _,_,.cons h t=>.cons (f _ _ h) (oO f t)
theorem GI {α β:Type}{R:α->β->Prop}{as as':List α}(p:as'.Perm as) : ∀ {bs:List β},eP R as bs -> ∃ bs',eP R as' bs'/\bs'.Perm bs:=by
 induction p with
 | nil=>intro bs h; exact⟨bs,h,.refl _⟩
 | cons x p ih=>
  intro bs h
  cases h with
  | cons h t=>
   obtain⟨bs',h1,h2⟩:=ih t
   exact⟨_,.cons h h1,h2.cons _⟩
 | swap x y l=>
  intro bs h
  cases h with
  | cons h t=>
   cases t with
   | cons h' t'=>exact⟨_,.cons h' (.cons h t'),.swap _ _ _⟩
 | trans p q ih1 ih2=>
  intro bs h
  obtain⟨b1,h1,h2⟩:=ih2 h
  obtain⟨b2,h3,h4⟩:=ih1 h1
  exact⟨b2,h3,h4.trans h2⟩
theorem VU {α β:Type}{R:α->β->Prop}{a:α}{b:β}(h:R a b) : ∀ {as:List α} {bs:List β},eP R as bs->eP R (as++[a]) (bs++[b])
 | _,_,.nil=>.cons h .nil
 | _,_,.cons h' t=>.cons h' (VU h t)
def SetT (w:bB)(B:List aA->aD->Prop)(h:aW)(a:aD)(ks:List (List aA)):Prop:=∃ o es ep t ks',SetAt w B h a o es ep t ks'/\ks'.Perm ks
theorem RM {h:aW}{a:aD}{o:aY}{es:Array (Int×aE)}{ep:Nat}{t:dY}(ho:h.get? a=some o)(hex:o.ExactSet)(hd:o.data = .set es ep t)(es':Array (Int×aE))(t':dY) :
  ∃ o',(h.update a (zR es' t')).get? a=some o'/\o'.ExactSet/\o'.data = .set es' (ep+1) t'/\oG a h (h.update a (zR es' t')):=by
 have hg:=pM (zR es' t') ho (by rw[putSet_of es' t' hd]; rfl)
 rw[putSet_of es' t' hd] at hg
 exact⟨_,hg,hex,rfl,KS h a _⟩
theorem Fi {A:cF}{E:aE->aG->Prop}{s:aG}{a b:aD}{o:aY}{es:Array (Int×aE)}{ep:Nat}{t:dY}{ks:List (List aA)}{k:List aA}{Q:Bool->aG->Prop}{fuel:Nat}
  (S:SetAt w B s.heap a o es ep t ks) (hk:Adq s.heap k b) (hB:B k b) (hu:A.units+20<cLine) (hroom:es.size+1≤4914)
  (h : ∀ h',oG a s.heap h'->SetT w B h' a (if k∈ks then ks else ks++[k])->Q (decide (k∉ks)) { s with heap:=h' }) :
  aN (aT prog w) A (setAddHashedIn a (.ref b) (dB w (.tuple k)) (fuel+1)) Q E s:=by
 have G:=S.fine.good
 have e0:s = { s with heap:=s.heap }:=by cases s; rfl
 unfold setAddHashedIn
 refine aI (pE S.get S.data S.fine.fits ?_)
 dsimp only
 have hbs:byScan (.ref b) es=false:=by simp[byScan,Value.scannable]
 rw[hbs]
 simp only[iL,if_false]
 unfold setSearch
 refine aI (RJ S hk hu (fun mem=>?_) (fun hn N hl hne=>?_) 100000 0 none rfl (fun m hm=>absurd hm (by omega)) (by
  rcases G.small with e | e | e | e | e | e <;> rw[e] <;> decide))
 ·dsimp only
  refine aR ?_
  have:=h s.heap (Heap.SameBut.refl a s.heap) (by rw[if_pos mem]; exact⟨o,es,ep,t,ks,S,.refl _⟩)
  rw[e0,show false=decide (k∉ks) from(decide_eq_false (fun z=>z mem)).symm]
  exact this
 ·dsimp only
  refine aI (pE S.get S.data S.fine.fits ?_)
  dsimp only
  rw[Es G.nod]
  dsimp only
  have hroom2:es.size<t.mask:=by
   have:=S.fine.few
   rcases G.small with e | e | e | e | e | e <;> rw[e] at this ⊢ <;> omega
  have tail : ∀ pl:Bool,aN (aT prog w) A (do
    storeSet a (insertAt es (below t.place (rd t.mask (dB w (.tuple k)) N).j) (dB w (.tuple k),.ref b)) { t with place:=insertAt t.place (below t.place (rd t.mask (dB w (.tuple k)) N).j) (rd t.mask (dB w (.tuple k)) N).j,plain:=pl }
    if (!false&&({ t with place:=insertAt t.place (below t.place (rd t.mask (dB w (.tuple k)) N).j) (rd t.mask (dB w (.tuple k)) N).j,plain:=pl }:dY).tooFull)=true then do
      setRelay a (SetTable.grown (es.size+1))
      pure true
     else pure true) Q E s:=fun pl=>by
   have G':=G.put (x:=.ref b) hl hne hroom2 pl
   have hperm:=insertAt_perm es (below t.place (rd t.mask (dB w (.tuple k)) N).j) (dB w (.tuple k),fR b)
   rw[Array.toList_push] at hperm
   have hsz:=BN es (below t.place (rd t.mask (dB w (.tuple k)) N).j) (dB w (.tuple k),fR b)
   generalize insertAt es (below t.place (rd t.mask (dB w (.tuple k)) N).j) (dB w (.tuple k),fR b)=es1 at *
   generalize ht1:({ t with place:=insertAt t.place (below t.place (rd t.mask (dB w (.tuple k)) N).j) (rd t.mask (dB w (.tuple k)) N).j,plain:=pl }:dY)=t1 at *
   have hm1:t1.mask=t.mask:=by rw[← ht1]
   have le1:t1.led = !fH w:=by rw[← ht1]; exact S.led
   obtain⟨o1,g1,x1,d1,sb1⟩:=RM S.get S.exact S.data es1 t1
   have els0:eP (ElT w B s.heap) (es.toList++[(dB w (.tuple k),fR b)]) (ks++[k]):=VU ⟨b,rfl,rfl,hk,hB⟩ S.els
   obtain⟨ks1,els1,p1⟩:=GI hperm els0
   have nod1:ks1.Nodup:=p1.nodup_iff.mpr (ZA.mpr ⟨S.nod,by simp,fun x hx y hy e=>hn (by rw[← dP.mp hy,← e]; exact hx)⟩)
   have keep1 : ∀ e k',ElT w B s.heap e k'->ElT w B (s.heap.update a (zR es1 t1)) e k':=fun e k' ⟨b',q1,q2,q3,q4⟩=>⟨b',q1,q2,OU S.get S.data sb1 q3,q4⟩
   refine aI (wpAny_storeSet_of S.get S.data ?_ (by have:sizeLine=sizeLine:=rfl; rw[mX]; omega))
   have fits1:t1.fits es1.size=true:=by
    have a1:=G'.len
    have a2:=G'.nod
    have a3:=G'.room
    simp[SetTable.fits,JY,a1,a2,a3]
   by_cases hf:t1.tooFull=true
   ·rw[if_pos (by simpa using hf)]
    have a1:=G'.len
    have a2:=G'.nod
    have hfew:=S.fine.few
    have hfull:t1.mask*3≤es1.size*5:=by
     simp[SetTable.tooFull,JY,a1,a2] at hf
     exact hf
    obtain⟨M,hM,hM2,hre0⟩:=Kc (t:=t) (n:=es.size+1) G.small (by simpa using hfew.1) (by omega) (by rw[hm1,hsz] at hfull; exact hfull) hroom
    have hM3:es1.size≤M:=by
     rcases hM with e | e | e | e | e | e <;> rw[e] at hM2 ⊢ <;> omega
    obtain⟨t2,order,el,G2,p2,m2,le2,_,_⟩:=Vc (mask:=M) hM es1 hM3 t1.finger (t1.movedTo M) t1.led t1.plain
    have hre:t1.relaid (es1.map (·.1)) (SetTable.grown (es.size+1))=some (t2,order):=by
     unfold SetTable.relaid
     rw[hre0]
     exact el
    have hsz2:(order.filterMap (es1[·]?)).size=es1.size:=by
     rw[← gR,p2.length_eq,gR]
    refine aI ?_
    unfold setRelay
    refine aI (pE g1 d1 fits1 ?_)
    dsimp only
    rw[if_neg (by rw[mX,hre0]; rcases hM with e | e | e | e | e | e <;> rw[e] <;> decide),hre]
    refine aI (show aN (aT prog w) A (do
     let es':=order.filterMap (es1[·]?)
     if es'.size != es1.size then unsupported "internal:set-table-lost-an-element"
     pure (es',t2)) _ E _ from ?_)
    dsimp only
    rw[if_neg (by rw[hsz2]; simp)]
    refine aR ?_
    generalize order.filterMap (es1[·]?)=es2 at *
    obtain⟨o2,g2,x2,d2,sb2⟩:=RM g1 x1 d1 es2 t2
    dsimp only
    refine wpAny_storeSet_of g1 d1 ?_ (by rw[mX]; omega)
    refine aR ?_
    obtain⟨ks2,els2,q2⟩:=GI p2 els1
    have keep2 : ∀ e k',ElT w B s.heap e k'->ElT w B ((s.heap.update a (zR es1 t1)).update a (zR es2 t2)) e k':=fun e k' z=>by
     obtain⟨b',z1,z2,z3,z4⟩:=keep1 e k' z
     exact⟨b',z1,z2,OU g1 d1 sb2 z3,z4⟩
    rw[show true=decide (k∉ks) from(decide_eq_true hn).symm]
    exact h _ (sb1.trans sb2) (by rw[if_neg hn]; exact⟨o2,es2,ep+1+1,t2,ks2,⟨g2,x2,d2,⟨G2,by rw[hsz2,m2,hsz]; exact hM2,by omega⟩,le2.trans le1,oO (fun e k'=>keep2 e k') els2,q2.nodup_iff.mpr nod1⟩,q2.trans p1⟩)
   ·rw[if_neg (by simpa using hf)]
    have few:es1.size*5<t1.mask*3/\es1.size≤4914:=by
     have a1:=G'.len
     have a2:=G'.nod
     refine⟨?_,by omega⟩
     simp[SetTable.tooFull,JY,a1,a2] at hf
     omega
    refine aR ?_
    rw[show true=decide (k∉ks) from(decide_eq_true hn).symm]
    exact h _ sb1 (by rw[if_neg hn]; exact⟨o1,es1,ep+1,t1,ks1,⟨g1,x1,d1,⟨G',few⟩,le1,oO (fun e k'=>keep1 e k') els1,nod1⟩,p1⟩)
  obtain⟨k1,k2,as,rk⟩:=id hk
  split
  ·refine aI (QF (.tuple k) 8 (by simp only[fV]; omega) (by simpa [bD] using k1) rk fun bb=>?_)
   cases bb
   ·simp only[iL,if_false]
    exact tail false
   ·simp only[if_true]
    exact tail t.plain
  ·refine aI (aR ?_)
   simp only[if_true]
   exact tail t.plain
end
section
variable {prog:bQ}{w:bB}{B:List aA->aD->Prop}
theorem SetT.len {h:aW}{a:aD}{ks:List (List aA)}(S:SetT w B h a ks) : ∃ o es ep t,h.get? a=some o/\o.ExactSet/\o.data = .set es ep t/\t.fits es.size=true/\es.size=ks.length:=by
 obtain⟨o,es,ep,t,ks',Z,p⟩:=S
 refine⟨o,es,ep,t,Z.get,Z.exact,Z.data,Z.fine.fits,?_⟩
 have:=pI Z.els
 rw[gR] at this
 rw[this,p.length_eq]
theorem SetT.keep {h h':aW}{a:aD}{ks:List (List aA)}(S:SetT w B h a ks)(k1 : ∀ o,h.get? a=some o->h'.get? a=some o)(k2 : ∀ b o vs n,h.get? b=some o->o.cls = .type "tuple" -> o.data = .seq vs n->h'.get? b=some o):SetT w B h' a ks:=by
 obtain⟨o,es,ep,t,ks',Z,p⟩:=S
 exact⟨o,es,ep,t,ks',⟨k1 o Z.get,Z.exact,Z.data,Z.fine,Z.led,oO (fun e k ⟨b,q1,q2,q3,q4⟩=>⟨b,q1,q2,q3.keep k2,q4⟩) Z.els,Z.nod⟩,p⟩
theorem Tn {ks ls:List (List aA)}(p:ks.Perm ls)(k:List aA):(if k∈ks then ks else ks++[k]).Perm (fY ls k):=by
 unfold fY
 by_cases m:k∈ks
 ·rw[if_pos m,if_pos (p.mem_iff.mp m)]
  exact p
 ·rw[if_neg m,if_neg (fun z=>m (p.mem_iff.mpr z))]
  exact p.append_right [k]
theorem Vi (kss:List (List aA)):(dS kss).length≤kss.length:=by
 have go : ∀ (l acc:List (List aA)),(l.foldl fY acc).length≤acc.length+l.length:=by
  intro l
  induction l with
  | nil=>intro acc; simp
  | cons x r ih=>
   intro acc
   have h2:(fY acc x).length≤acc.length+1:=by unfold fY; split <;> simp
   have:=ih (fY acc x)
   simp only[lF,fF]
   omega
 have:=go kss []
 simpa [dS] using this
theorem Jt {A:cF}{E:aE->aG->Prop}{s:aG}{a b:aD}{ks:List (List aA)}{k:List aA}{Q:Bool->aG->Prop}
  (S:SetT w B s.heap a ks) (hk:Adq s.heap k b) (hB:B k b) (hu:A.units+20<cLine) (hroom:ks.length+1≤4914)
  (h : ∀ h' c,oG a s.heap h'->SetT w B h' a (fY ks k)->Q c { s with heap:=h',toks:=s.toks+pR (.tuple k) }) :
  aN (aT prog w) A (setAdd a (.ref b)) Q E s:=by
 obtain⟨o,es,ep,t,ks',Z,p⟩:=S
 unfold setAdd
 refine jF (aI ((qA prog w).pyHash hu hk ?_))
 unfold setAddHashed
 have hes:es.size=ks.length:=by
  have:=pI Z.els
  rw[gR] at this
  rw[this,p.length_eq]
 refine jF (Fi Z hk hB hu (by omega) fun h' sb S'=>h h' _ sb ?_)
 obtain⟨o',es',ep',t',ks2,Z',p'⟩:=S'
 exact⟨o',es',ep',t',ks2,Z',p'.trans (Tn p k)⟩
theorem Wx (acc:List (List aA))(k:List aA):acc.length≤(fY acc k).length:=by
 unfold fY
 split
 ·exact bY _
 ·simp
theorem SW : ∀ (kss acc:List (List aA)),acc.length≤(kss.foldl fY acc).length
 | [],acc=>bY _
 | k::r,acc=>iR (Wx acc k) (SW r (fY acc k))
theorem Nd (kss:List (List aA))(i:Nat):(dS (kss.take i)).length≤(dS kss).length:=by
 have e:dS kss=(kss.drop i).foldl fY (dS (kss.take i)):=by
  unfold dS
  rw[← KO,List.take_append_drop]
 rw[e]
 exact SW _ _
theorem Rx {A:cF}{R:Result->aG->Prop}{I:aD}{fp wr:List aD}{G:Array wI->Array wI->Prop}{n:Nat}{P:Nat->aE->Prop}{St:Nat->aG->Prop}
  (W:WalksS prog w A.in1 I fp wr G n P St) (hu:A.units+30<cLine) (S:aD) (hSf:S∉fp) (kss:List (List aA)) (hn:(dS kss).length≤4900)
  (hT : ∀ i s,St i s -> ∀ c∈wr,∀ o,s.heap.get? c=some o->o.cls ≠ .type "tuple") :
  ∀ (k i:Nat) (s:aG),n - i=k->i≤n->St i s->SetT w B s.heap S (dS (kss.take i))->(∀ j v,P j v -> ∃ b q,v = .ref b/\kss[j]?=some q/\Adq s.heap q b/\B q b) ->
   (∀ s',Moved (S::wr) G s s'->SetT w B s'.heap S (dS (kss.take n))->R (.ok (.ret .none)) s') ->
   nW (aT prog w) A (.builtin "set.update.loop" ⟨[.ref S,.ref I],[]⟩) R s:=by
 have hSw:S∉wr:=fun z=>hSf (W.sub _ z)
 have more : ∀ b∈wr,b∈S::wr:=fun b z=>bZ _ z
 have stays : ∀ {i s s'},St i s->Moved wr G s s' -> ∀ b o vs m,s.heap.get? b=some o->o.cls = .type "tuple" -> o.data = .seq vs m->s'.heap.get? b=some o:=fun {i s s'} st hm b o vs m q c _=>
  hm.heap b o (fun z=>hT i s st b z o q c) q
 intro k
 induction k with
 | zero=>
  intro i s hk hi hst hS hP hR
  obtain rfl:i=n:=by omega
  refine nV KY ?_
  rw[rB zZ _]
  refine aI (W.done s _ _ hst fun s' hm=>?_)
  exact aR (hR s' (hm.mono more) (hS.keep (fun o q=>hm.heap S o hSw q) (stays hst hm)))
 | succ k ih=>
  intro i s hk hi hst hS hP hR
  have hlt:i<n:=by omega
  refine nV KY ?_
  rw[rB zZ _]
  refine aI (W.item i s _ _ hlt hst fun v s' hPi hst' hm=>?_)
  obtain⟨b,q,rfl,hq,hd,hB⟩:=hP i v hPi
  have hS':=hS.keep (fun o z=>hm.heap S o hSw z) (stays hst hm)
  have hstep:dS (kss.take (i+1))=fY (dS (kss.take i)) q:=by
   rw[zS,hq]
   simp[dS,KO]
  have hlen:=iR (Nd kss i) hn
  refine aI (jF (Jt hS' (hd.keep (stays hst hm)) hB (by show A.units+1+20<cLine; omega) (by omega) fun h' c sb S2=>?_))
  obtain⟨o2,es2,ep2,t2,g2,_,d2,_⟩:=hS'.len
  have kt : ∀ b o vs m,s'.heap.get? b=some o->o.cls = .type "tuple" -> o.data = .seq vs m->h'.get? b=some o:=fun b o vs m z _ z'=>by
   have hne:b≠S:=by
    rintro rfl
    rw[g2] at z
    cases z
    rw[d2] at z'
    cases z'
   exact(sb.2 b hne).trans z
  refine aR ⟨sI zZ _,ih (i+1) _ (by omega) hlt (W.frame _ s' _ _ hst' (Nat.le_add_right _ _) fun c hc o e=>?_) (by rw[hstep]; exact S2) (fun j v z=>?_) fun s'' hm'' S3=>?_⟩
  ·exact(sb.2 c (fun z=>hSf (z ▸ hc))).trans e
  ·obtain⟨b',q',e1,e2,e3,e4⟩:=hP j v z
   exact⟨b',q',e1,e2,(e3.keep (stays hst hm)).keep kt,e4⟩
  ·exact hR s'' (Moved.trans W.gtrans ((hm.mono more).then_heap (Nat.le_add_right _ _) fun c o hc e=>(sb.2 c (fun z=>hc (z ▸ bR))).trans e) hm'') S3
end
section
variable {B:List aA->aD->Prop}{prog:bQ}{w:bB}{A:cF}{E:aE->aG->Prop}{s:aG}
theorem Rr {h:aW}{a:aD}(e:h.get? a=some (Ajb (!fH w))):SetT w B h a []:=
 ⟨Ajb (!fH w),#[],0,.fresh 0 0 (!fH w),[],⟨e,⟨rfl,rfl,rfl⟩,rfl,Mq _,rfl,.nil,.nil⟩,.refl _⟩
set_option maxHeartbeats 4000000 in
theorem Wh {l:aD}{items:Array aE}{kss:List (List aA)}{Q:aE->aG->Prop}(hh:A.handled=none)(hu:A.units+40<cLine)(hl:s.heap.IsList l items)
  (hd : ∀ (j:Nat) v,items[j]?=some v -> ∃ b q,v = .ref b/\kss[j]?=some q/\Adq s.heap q b/\B q b) (hlen:(dS kss).length≤4900) (hkl:kss.length=items.size)
  (h : ∀ (h':aW) (tk:Nat),s.toks≤tk->SetT w B h' s.heap.objs.size (dS kss)->(∀ b o,b<s.heap.objs.size->s.heap.get? b=some o->h'.get? b=some o)->Q (.ref s.heap.objs.size) { s with heap:=h',toks:=tk }) :
  aN (aT prog w) A (call (.type "set") [.ref l]) Q E s:=by
 obtain⟨c,tl,hmro⟩:=jT.mro
 have hmade:=jT.made
 have hsub:=jT.sub
 refine wpAny_call (codeAny_of_tree (show aN _ _ (callAny (.type "set") _) _ _ _ from ?_))
 refine aR ⟨Code.quiet_builtin _ (by decide +kernel),nV F.entry_type_call ?_⟩
 rw[Around.under_plain (weight_type_call_type "set" [.ref l] []) rfl]
 have z1:=jT.notType
 have z2:=jT.canCreate
 have z3:=F.typeCall_set_1 (.ref l)
 repeat (any_goals (first | assumption | wp_step))
 refine vT (Pv (.ref l) (E:=E) (Q₁:=fun u s₁=>u = .ref s.heap.objs.size/\s₁ = { s with heap:=s.heap.push (Ajb (!fH w)) }) ⟨rfl,rfl⟩) fun r s₁ hr=>?_
 match r,hr with
 | .error e,hr=>exact hr
 | .ok (.ret u),hr=>
  obtain⟨rfl,rfl⟩:=hr
  generalize hled:(!fH w)=led
  have gS:(s.heap.push (Ajb led)).get? s.heap.objs.size=some (Ajb led):=eL _ rfl
  have hT:Shared.TypeIs { s with heap:=s.heap.push (Ajb led) } (.ref s.heap.objs.size) "set":=⟨_,gS,rfl⟩
  have y1:=jT.init.lookup
  have y2:=jT.init.bind (.ref s.heap.objs.size)
  repeat (any_goals (first | assumption | wp_step))
  refine vT (codeAny_call_builtin (R:=wants (fun r s₂=>r = .none /\ ∃ h' tk,s.toks≤tk/\s₂ = { s with heap:=h',toks:=tk }/\SetT w B h' s.heap.objs.size (dS kss)/\(∀ b o,b<s.heap.objs.size->s.heap.get? b=some o->h'.get? b=some o)) E) jT.init.plain F.entry_set_init (check_set_init_1 hT ?_)) fun r₂ s₂ hr₂=>?_
  ·obtain⟨ol,gl,cl,nl,dl⟩:=hl
   obtain⟨ocls,odict,odata,oslots⟩:=ol
   simp only at cl dl
   subst cl
   subst dl
   have gl':(s.heap.push (Ajb led)).get? l=some { cls:=.type "list",dict:=odict,data:=.seq items nl,slots:=oslots }:=cL _ gl
   have x1:=F.sub_list_set
   have x2:=F.sub_list_frozenset
   have x3:(hE "list" == hE "dict")=false:=by decide
   have L1:(s.heap.push (Ajb led)).IsList l items:=⟨_,gl',rfl,nl,rfl⟩
   unfold Builtin.«set.__init__» noKeywords Builtin.Frozenset.updateFrom
   generalize hPI:nU=PI
   wp_walk
   subst hPI
   refine JR L1 (aI (JQ ?_))
   have lS:l<s.heap.objs.size:=cI gl
   have hI:(s.heap.push (Ajb led)).objs.size=s.heap.objs.size+1:=zX _ _
   have nI:l≠(s.heap.push (Ajb led)).objs.size:=by rw[hI]; exact cT (lY lS)
   have nS:s.heap.objs.size∉[(s.heap.push (Ajb led)).objs.size,l]:=by
    intro z
    rw[hI] at z
    rcases cQ.mp z with z | z
    ·exact absurd z (cT (sP _))
    ·exact absurd (dP.mp z) (lX lS)
   have gI:((s.heap.push (Ajb led)).push { cls:=.type "list_iterator",data:=.fields #[.ref l,.int 0 0] }).get? s.heap.objs.size=some (Ajb led):=cL _ gS
   refine Rx (w:=w) (B:=B) ((Walks.list (by simp[hh]) _ l nI items).toS) (by show A.units+1+1+30<cLine; omega) s.heap.objs.size nS kss hlen (fun i s1 st c hc o e z=>?_) (items.size - 0) 0 _ rfl (eY _) ⟨⟨_,eL _ rfl,rfl,rfl⟩,L1.push _⟩ (Rr (by rw[hled]; exact gI)) (fun j v e=>?_) fun s' hm S'=>?_
   ·obtain⟨⟨o',g',c',_⟩,_⟩:=st
    rw[dP.mp hc,g'] at e
    cases e
    rw[c'] at z
    exact absurd z (by decide)
   ·obtain⟨b,q,q1,q2,q3,q4⟩:=hd j v e
    exact⟨b,q,q1,q2,q3.keep fun b o vs m z _ _=>cL _ (cL _ z),q4⟩
   ·obtain⟨h',g',d',tk',os'⟩:=s'
    obtain rfl:g'=s.gens:=hm.gens
    obtain rfl:d'=s.drawn:=hm.drawn
    obtain rfl:os'=s.os:=hm.os
    show aN _ _ _ _ _ _
    refine aR ?_
    show aN _ _ (ret fT) _ _ _
    refine aR ⟨rfl,h',tk',hm.toks,rfl,by rw[← EO (l:=kss),hkl]; exact S',fun b o hb e=>?_⟩
    refine hm.heap b o (fun z=>?_) (cL _ (cL _ e))
    rw[hI] at z
    rcases cQ.mp z with z | z
    ·exact absurd z (cT hb)
    ·exact absurd (dP.mp z) (cT (lY hb))
  ·match r₂,hr₂ with
   | .error e,hr₂=>exact hr₂
   | .ok (.ret v),hr₂=>
    obtain⟨rfl,h',tk,ht,rfl,S',hk'⟩:=hr₂
    repeat (any_goals (first | assumption | wp_step))
    exact h _ _ ht S' hk'
end
noncomputable abbrev isO (a:aD)(o:aY):HO:=.ext fun h=>h.get? a=some o
section
variable {X:Cx}
abbrev Refs (H:Hp)(ys:List V)(kss:List (List aA)):Prop:=eP (fun y k=>∃ b,y=V.ref b/\Ay6 H k b) ys kss
theorem NL {K:aK}{H:Hp} : ∀ {kss:List (List aA)} {ys:List V},(∀ ks∈kss,cC ks=true/\dI ks≤6)->Aau K H (kss.map fU) ys->Refs H ys kss
 | [],ys,_,r=>by rw[Aat.mp r]; exact .nil
 | k::kss,ys,hk,r=>by
  obtain⟨v,t,rfl,r1,r2⟩:=Aal.mp r
  obtain⟨b,rfl,tk⟩:=r1.tupK (hk k bR).1 (hk k bR).2
  exact .cons ⟨b,rfl,tk⟩ (NL (fun x m=>hk x (bZ _ m)) r2)
theorem Refs.le {H H':Hp}(x : ∀ c zs,H c=some (.tup zs)->H' c=some (.tup zs)){ys:List V}{kss:List (List aA)}(r:Refs H ys kss):Refs H' ys kss:=oO (fun y k ⟨b,e,t⟩=>⟨b,e,t.keep x⟩) r
end
noncomputable instance memK (k:aO)(acc:List aO):Decidable (k∈acc):=decidable_of_iff (acc.any (fun x=>decide (x=k))=true) (by simp[List.any_eq_true])
noncomputable def gK (acc:List aO)(k:aO):List aO:=if k∈acc then acc else acc++[k]
noncomputable def dQ (ks:List aO):List aO:=ks.foldl gK []
theorem Kb (ks:List aO):(dQ ks).length≤ks.length:=by
 have go : ∀ (l acc:List aO),(l.foldl gK acc).length≤acc.length+l.length:=by
  intro l
  induction l with
  | nil=>intro acc; simp
  | cons x r ih=>
   intro acc
   have h2:(gK acc x).length≤acc.length+1:=by unfold gK; split <;> simp
   have:=ih (gK acc x)
   simp only[lF,fF]
   omega
 have:=go ks []
 simpa [dQ] using this
def Ayn (prog:bQ)(w:bB)(h:aW)(a:aD)(ks:List aO):Prop:=h.SetOf (iO prog w) a (fun k=>decide (k∈ks)) ks.length
section
variable {prog:bQ}{w:bB}{A:cF}{E:aE->aG->Prop}{s:aG}
theorem Uj {h:aW}{a:aD}{led:Bool}(e:h.get? a=some (Ajb led)):Ayn prog w h a []:=
 ⟨_,#[],0,_,e,⟨rfl,rfl,rfl⟩,rfl,fun e he=>by simp at he,fun k=>by simp,by decide,by rfl,rfl⟩
theorem Ayn.keep {h h':aW}{a:aD}{ks:List aO}(S:Ayn prog w h a ks)(k : ∀ o,h.get? a=some o->h'.get? a=some o):Ayn prog w h' a ks:=by
 obtain⟨o,es,ep,t,ho,rest⟩:=S
 exact⟨o,es,ep,t,k o ho,rest⟩
theorem Ayn.congr {h:aW}{a:aD}{S:aO->Bool}{n:Nat}{ks:List aO}(x:h.SetOf (iO prog w) a S n)(e1 : ∀ k,S k=decide (k∈ks))(e2:n=ks.length):Ayn prog w h a ks:=by
 have:S=fun k=>decide (k∈ks):=funext e1
 subst this
 subst e2
 exact x
theorem Ld {R:Result->aG->Prop}{I:aD}{fp wr:List aD}{G:Array wI->Array wI->Prop}{n:Nat}{P:Nat->aE->Prop}{St:Nat->aG->Prop}
  (W:WalksS prog w A.in1 I fp wr G n P St) (S:aD) (hSf:S∉fp) (kss:List aO) (hn:n+1<DZ) (hP : ∀ j v,P j v -> ∃ q,kss[j]?=some q/\(iO prog w).is q v=true/\v.scannable=true) :
  ∀ (k i:Nat) (s:aG),n - i=k->i≤n->St i s->Ayn prog w s.heap S (dQ (kss.take i)) ->
   (∀ s',Moved (S::wr) G s s'->Ayn prog w s'.heap S (dQ (kss.take n))->R (.ok (.ret .none)) s') ->
   nW (aT prog w) A (.builtin "set.update.loop" ⟨[.ref S,.ref I],[]⟩) R s:=by
 have hSw:S∉wr:=fun z=>hSf (W.sub _ z)
 have more : ∀ b∈wr,b∈S::wr:=fun b z=>bZ _ z
 intro k
 induction k with
 | zero=>
  intro i s hk hi hst hS hR
  obtain rfl:i=n:=by omega
  refine nV KY ?_
  rw[rB zZ _]
  refine aI (W.done s _ _ hst fun s' hm=>?_)
  exact aR (hR s' (hm.mono more) (hS.keep fun o q=>hm.heap S o hSw q))
 | succ k ih=>
  intro i s hk hi hst hS hR
  have hlt:i<n:=by omega
  refine nV KY ?_
  rw[rB zZ _]
  refine aI (W.item i s _ _ hlt hst fun v s' hPi hst' hm=>?_)
  obtain⟨q,hq,his,hsc⟩:=hP i v hPi
  have hS':=hS.keep fun o z=>hm.heap S o hSw z
  have hstep:dQ (kss.take (i+1))=gK (dQ (kss.take i)) q:=by
   rw[zS,hq]
   simp[dQ,KO]
  have hlen:(dQ (kss.take i)).length≤i:=iR (Kb _) (by rw[kK]; omega)
  refine aI (jF ?_)
  unfold setAdd
  refine jF (aI ((iO prog w).pyHash his ?_))
  refine wpAny_setAddHashed_of his hsc hS' (by omega) fun h' sb S2=>?_
  have S3:Ayn prog w h' S (dQ (kss.take (i+1))):=by
   rw[hstep]
   refine Ayn.congr S2 (fun k'=>?_) ?_
   ·unfold gK
    by_cases m:q∈dQ (kss.take i)
    ·rw[if_pos m]
     by_cases c:k'=q
     ·subst c; simp[m]
     ·simp[c]
    ·rw[if_neg m]
     simp
   ·unfold gK
    by_cases m:q∈dQ (kss.take i)
    ·simp[m]
    ·simp[m]
  refine aR ⟨sI zZ _,ih (i+1) _ (by omega) hlt (W.frame _ s' _ _ hst' (Nat.le_succ _) fun c hc o e=>?_) S3 fun s'' hm'' S4=>?_⟩
  ·exact(sb.2 c (fun z=>hSf (z ▸ hc))).trans e
  ·exact hR s'' (Moved.trans W.gtrans ((hm.mono more).then_heap (Nat.le_succ _) fun c o hc e=>(sb.2 c (fun z=>hc (z ▸ bR))).trans e) hm'') S4
set_option maxHeartbeats 4000000 in
theorem Wi {l:aD}{items:Array aE}{kss:List aO}{Q:aE->aG->Prop}(hh:A.handled=none)(hl:s.heap.IsList l items)
  (hd : ∀ (j:Nat) v,items[j]?=some v -> ∃ q,kss[j]?=some q/\(iO prog w).is q v=true/\v.scannable=true) (hlen:items.size+1<DZ) (hkl:kss.length=items.size)
  (h : ∀ (h':aW) (tk:Nat),s.toks≤tk->Ayn prog w h' s.heap.objs.size (dQ kss)->(∀ b o,b<s.heap.objs.size->s.heap.get? b=some o->h'.get? b=some o)->Q (.ref s.heap.objs.size) { s with heap:=h',toks:=tk }) :
  aN (aT prog w) A (call (.type "set") [.ref l]) Q E s:=by
 obtain⟨c,tl,hmro⟩:=jT.mro
 have hmade:=jT.made
 have hsub:=jT.sub
 refine wpAny_call (codeAny_of_tree (show aN _ _ (callAny (.type "set") _) _ _ _ from ?_))
 refine aR ⟨Code.quiet_builtin _ (by decide +kernel),nV F.entry_type_call ?_⟩
 rw[Around.under_plain (weight_type_call_type "set" [.ref l] []) rfl]
 have z1:=jT.notType
 have z2:=jT.canCreate
 have z3:=F.typeCall_set_1 (.ref l)
 repeat (any_goals (first | assumption | wp_step))
 refine vT (code_set_new_1 (.ref l) (E:=E) (Q₁:=fun u s₁=>∃ led:Bool,u = .ref s.heap.objs.size/\s₁ = { s with heap:=s.heap.push (Ajb led) }) fun led=>⟨led,rfl,rfl⟩) fun r s₁ hr=>?_
 match r,hr with
 | .error e,hr=>exact hr
 | .ok (.ret u),hr=>
  obtain⟨led,rfl,rfl⟩:=hr
  have gS:(s.heap.push (Ajb led)).get? s.heap.objs.size=some (Ajb led):=eL _ rfl
  have hT:Shared.TypeIs { s with heap:=s.heap.push (Ajb led) } (.ref s.heap.objs.size) "set":=⟨_,gS,rfl⟩
  have y1:=jT.init.lookup
  have y2:=jT.init.bind (.ref s.heap.objs.size)
  repeat (any_goals (first | assumption | wp_step))
  refine vT (codeAny_call_builtin (R:=wants (fun r s₂=>r = .none /\ ∃ h' tk,s.toks≤tk/\s₂ = { s with heap:=h',toks:=tk }/\Ayn prog w h' s.heap.objs.size (dQ kss)/\(∀ b o,b<s.heap.objs.size->s.heap.get? b=some o->h'.get? b=some o)) E) jT.init.plain F.entry_set_init (check_set_init_1 hT ?_)) fun r₂ s₂ hr₂=>?_
  ·obtain⟨ol,gl,cl,nl,dl⟩:=hl
   obtain⟨ocls,odict,odata,oslots⟩:=ol
   simp only at cl dl
   subst cl
   subst dl
   have gl':(s.heap.push (Ajb led)).get? l=some { cls:=.type "list",dict:=odict,data:=.seq items nl,slots:=oslots }:=cL _ gl
   have x1:=F.sub_list_set
   have x2:=F.sub_list_frozenset
   have x3:(hE "list" == hE "dict")=false:=by decide
   have L1:(s.heap.push (Ajb led)).IsList l items:=⟨_,gl',rfl,nl,rfl⟩
   unfold Builtin.«set.__init__» noKeywords Builtin.Frozenset.updateFrom
   generalize hPI:nU=PI
   wp_walk
   subst hPI
   refine JR L1 (aI (JQ ?_))
   have lS:l<s.heap.objs.size:=cI gl
   have hI:(s.heap.push (Ajb led)).objs.size=s.heap.objs.size+1:=zX _ _
   have nI:l≠(s.heap.push (Ajb led)).objs.size:=by rw[hI]; exact cT (lY lS)
   have nS:s.heap.objs.size∉[(s.heap.push (Ajb led)).objs.size,l]:=by
    intro z
    rw[hI] at z
    rcases cQ.mp z with z | z
    ·exact absurd z (cT (sP _))
    ·exact absurd (dP.mp z) (lX lS)
   have gI:((s.heap.push (Ajb led)).push { cls:=.type "list_iterator",data:=.fields #[.ref l,.int 0 0] }).get? s.heap.objs.size=some (Ajb led):=cL _ gS
   refine Ld (w:=w) ((Walks.list (by simp[hh]) _ l nI items).toS) s.heap.objs.size nS kss hlen hd (items.size - 0) 0 _ rfl (eY _) ⟨⟨_,eL _ rfl,rfl,rfl⟩,L1.push _⟩ (Uj gI) fun s' hm S'=>?_
   ·obtain⟨h',g',d',tk',os'⟩:=s'
    obtain rfl:g'=s.gens:=hm.gens
    obtain rfl:d'=s.drawn:=hm.drawn
    obtain rfl:os'=s.os:=hm.os
    show aN _ _ _ _ _ _
    refine aR ?_
    show aN _ _ (ret fT) _ _ _
    refine aR ⟨rfl,h',tk',hm.toks,rfl,by rw[← EO (l:=kss),hkl]; exact S',fun b o hb e=>?_⟩
    refine hm.heap b o (fun z=>?_) (cL _ (cL _ e))
    rw[hI] at z
    rcases cQ.mp z with z | z
    ·exact absurd z (cT hb)
    ·exact absurd (dP.mp z) (cT (lY hb))
  ·match r₂,hr₂ with
   | .error e,hr₂=>exact hr₂
   | .ok (.ret v),hr₂=>
    obtain⟨rfl,h',tk,ht,rfl,S',hk'⟩:=hr₂
    repeat (any_goals (first | assumption | wp_step))
    exact h _ _ ht S' hk'
end
def MT (prog:bQ)(w:bB)(o:aY)(ks:List aO):Prop:=∃ es ep t,o.ExactSet/\o.data = .set es ep t/\ElemsOf (iO prog w) es.toList/\(∀ k,k∈ks ↔ ∃ e∈es.toList,(iO prog w).is k e.2=true)/\es.size<DZ/\t.fits es.size=true/\es.size=ks.length
section
variable {X:Cx}
theorem Mz (hc:X.calm=true):Aeh X (.type "set") (fun xs H Q=>∃ p ks,xs=[.ref p]/\SqL X.K H p (ks.map kV)/\ks.length≤4000 /\ ∀ a o,H a=none->MT X.prog X.w o (dQ ks)->Q (.ref a) (upd H a (isO a o))):=by
 intro pins s σ H xs us Q I r h
 obtain⟨p,ks,rfl,hp,hl,q⟩:=h
 obtain⟨u,rfl,ru⟩:=vals1 r
 cases ru
 obtain⟨its,rv,pl,_⟩:=I.list hp
 have e1:=rv.length
 rw[dJ] at e1
 refine Wi (I.ok.hd hc) pl.isList (fun j v ev=>?_) (by rw[eG]; unfold DZ; omega) (by rw[eG]; omega) fun h' tk ht S' hk=>?_
 ·have ev':its[j]?=some v:=by simpa using ev
  obtain⟨y,hy,ry⟩:=BG rv ev'
  rw[fK] at hy
  obtain⟨k,hk,rfl⟩:=kH.mp hy
  refine⟨k,hk,DP ry,?_⟩
  cases k with
  | inl i=>obtain⟨t,rfl⟩:=ry; rfl
  | inr z=>obtain⟨t,rfl⟩:=ry; rfl
 ·obtain⟨o,es,ep,t,ho,hex,hd,hel,hmem,hb,hf,hn⟩:=S'
  have I':=I.laid (t':=tk) (h':=h') (o:=isO s.heap.objs.size o) (fun b u e=>hk b u (cI e) e) (bY _) (show Acv X.prog X.w _ _ _ (.ext _) from⟨ho,⟨o,ho⟩,fun _ _ e k=>k _ e⟩)
  exact⟨.ref s.heap.objs.size,_,I',rfl,q _ o I.fresh ⟨es,ep,t,hex,hd,hel,fun k=>by rw[← hmem k]; simp,hb,hf,hn⟩⟩
theorem Nc:Aeh X (.builtin "len") (fun xs H Q=>∃ a o ks,xs=[.ref a]/\H a=some (isO a o)/\MT X.prog X.w o ks/\Q (.int ks.length) H):=by
 intro pins s σ H xs us Q I r h
 obtain⟨a,o,ks,rfl,ha,⟨es,ep,t,hx,hd,_,_,hb,hf,hz⟩,q⟩:=h
 obtain⟨u,rfl,ru⟩:=vals1 r
 cases ru
 obtain⟨g,_,_⟩:=(show Acv X.prog X.w H s.heap a (.ext _) from I.hok a _ ha)
 exact call_len_set g hx hd hf (by unfold DZ at hb; omega) ⟨.int ks.length,H,I.tok _,⟨s.toks+1,by rw[hz]⟩,q⟩
noncomputable def nO:List aA->Option (List aO)
 | []=>some []
 | d::r=>(fO d).bind fun k=>(nO r).bind fun ks=>some (k::ks)
theorem QH {K:aK}{H:Hp} : ∀ {ds:List aA} {ks:List aO} {ys:List V},nO ds=some ks->Aau K H ds ys->ys=ks.map kV
 | [],ks,ys,e,r=>by cases e; exact Aat.mp r
 | d::ds,ks,ys,e,r=>by
  obtain⟨k,e1,e⟩:=XBs e
  obtain⟨ks',e2,e⟩:=XBs e
  cases e
  obtain⟨v,t,rfl,r1,r2⟩:=Aal.mp r
  rw[CD e1 r1,QH e2 r2]
  rfl
noncomputable def GQ:List aA->Option aA
 | [.list ds]=>(nO ds).bind fun ks=>if ks.length≤4000 then some (.int (dQ ks).length) else none
 | _=>none
theorem SH {e:aX}{fe:EF}{p1 p2 pos1 pos2:cE}(hc:X.calm=true)(g1:Gl X "len")(m1:X.mg "len" = none)(g2:Gl X "set")(m2:X.mg "set" = none)(he:DE X e fe)
  (hs1:bM [Expr.Call (.Name "set" p2) [e] [] pos2] X.env=[(false,cD (Expr.Call (.Name "set" p2) [e] [] pos2) X.env)]:=by rfl) (hs2:bM [e] X.env=[(false,cD e X.env)]:=by rfl) :
  DE X (.Call (.Name "len" p1) [.Call (.Name "set" p2) [e] [] pos2] [] pos1) (aL GQ (aF fe aJ)):=by
 have h1:PE X (.Call (.Name "set" p2) [e] [] pos2) _:=HN (Mz hc) g2 m2 rfl (jZ he kT hs2) (by decide) (by decide) hs2 rfl
 have h2:PE X (.Call (.Name "len" p1) [.Call (.Name "set" p2) [e] [] pos2] [] pos1) _:=BM Nc g1 m1 rfl (jZ h1 kT hs1) (by decide) (by decide) hs1 rfl
 refine PE.imp h2 fun σ H Q gh=>?_
 obtain⟨P,ρ,d,hP,rs,ef,k⟩:=gh
 obtain⟨ds0,e0,ef⟩:=XBs ef
 obtain⟨d1,e1,e0⟩:=XBs e0
 have e0:[d1]=ds0:=by simpa [aJ] using e0
 subst e0
 cases d1 with
 | list ds=>
  obtain⟨ks,e2,ef⟩:=XBs (show((nO ds).bind fun ks=>if ks.length≤4000 then some (dA (dQ ks).length) else none)=some d from ef)
  obtain⟨hl,rfl⟩:=dU ef
  refine⟨P,ρ,.list ds,hP,rs,e1,cY fun v H1 x1 r1=>?_⟩
  obtain⟨q,ys,rfl,hq,rr⟩:=Abn.mp r1
  obtain rfl:=QH e2 rr
  exact⟨q,ks,rfl,Aa9.sqL hq,hl,fun a o hn S=>⟨a,o,dQ ks,rfl,jR,S,k.zero (x1.trans (Ext.new hn)) (Aaq.mpr rfl)⟩⟩
 | _=>cases ef
end
open PySem
structure Sub (P:bQ)(w:bB)(it:aD)(own:List aD)(St:Nat->aW->Prop)(xs:Array aE):Prop where
 mem:it∈own
 obj : ∀ k h,St k h -> ∀ c∈own,∃ o,h.get? c=some o
 keep : ∀ k h h',St k h->(∀ c∈own,∀ o,h.get? c=some o->h'.get? c=some o)->St k h'
 item : ∀ (A:cF) (E:aE->aG->Prop) (s:aG) (Q:aE->aG->Prop) (k:Nat) (x:aE),St k s.heap->xs[k]?=some x ->
  (∀ h',St (k+1) h'->oG it s.heap h'->Q x { s with heap:=h' })->aN (aT P w) A (Builtin.SmallTypes.nextOf (.ref it)) Q E s
 done : ∀ (A:cF) (E:aE->aG->Prop) (s:aG) (Q:aE->aG->Prop) (k:Nat),A.handled=none->St k s.heap->xs[k]?=none ->
  (∀ h' e,Heap.ExtBut it s.heap h'->(∃ o,h'.get? e=some o/\o.cls = .type "StopIteration")->E (.ref e) { s with heap:=h' })->aN (aT P w) A (Builtin.SmallTypes.nextOf (.ref it)) Q E s
theorem WT {α:Type}{l:List α}{i:Nat}(h:i<l.length):(l[i]::l.eraseIdx i).Perm l:=by
 rw[List.eraseIdx_eq_take_drop_succ]
 refine List.perm_middle.symm.trans ?_
 have:l.take i++l[i]::l.drop (i+1)=l:=by
  rw[← ZI h,List.take_append_drop]
 rw[this]
theorem NK {α:Type}(f:Nat->Nat) : ∀ (n k:Nat) (l:List α) (out:Array α),l.length=n->(pickOrder.go f n k l out).toList.Perm (out.toList++l)
 | 0,k,l,out,h=>by
  have:l=[]:=Xf.mp h
  subst this
  show out.toList.Perm _
  simp
 | n+1,k,l,out,h=>by
  have hi:f k%l.length<l.length:=qP _ (by omega)
  unfold pickOrder.go
  rw[fS hi]
  dsimp only
  refine(NK f n (k+1) _ _ (by rw[Xe hi]; omega)).trans ?_
  rw[Array.toList_push,KP]
  exact(WT hi).append_left _
theorem Ks {α:Type}(f:Nat->Nat)(xs:Array α):(pickOrder f xs).toList.Perm xs.toList:=by
 have:=NK f xs.size 0 xs.toList #[] (by simp)
 simpa [pickOrder] using this
noncomputable def wlk (w:bB)(a:aD)(ep:Nat)(es:Array (Int×aE)):List (Int×aE):=if fH w=true then(pickOrder (w.params.setOrder a ep) es).toList else es.toList
theorem NW (w:bB)(a:aD)(ep:Nat)(es:Array (Int×aE)):(wlk w a ep es).Perm es.toList:=by
 unfold wlk
 split
 ·exact Ks _ _
 ·exact .refl _
theorem BI (w:bB)(a:aD)(ep:Nat)(es:Array (Int×aE)):(wlk w a ep es).length=es.size:=by
 rw[(NW w a ep es).length_eq,gR]
noncomputable def slotAt (w:bB)(t:dY):Nat->Nat
 | 0=>0
 | i+1=>if fH w=true then 0 else t.place.getD i 0+1
theorem HV (w:bB)(t:dY)(i:Nat):slotAt w t (i+1)=if fH w=true then 0 else t.place.getD i 0+1:=rfl
theorem Mw {w:bB}{t:dY}(hr:lH t.place)(hb:fH w=false){i:Nat}(hi:i≤t.place.size):below t.place (slotAt w t i)=i:=by
 obtain⟨b1,b2,b3⟩:=CH hr (slotAt w t i)
 cases i with
 | zero=>
  rcases Nat.eq_zero_or_pos (below t.place (slotAt w t 0)) with e | e
  ·exact e
  ·have:=b2 0 e (t.place[0]'(by omega)) (jV _)
   exact absurd this (by simp[slotAt])
 | succ i=>
  have hv:t.place[i]?=some (t.place[i]'(by omega)):=jV _
  have es:slotAt w t (i+1)=t.place[i]'(by omega)+1:=by
   rw[HV,if_neg (by rw[hb]; simp)]
   simp[Array.getD,show i<t.place.size by omega]
  rw[es] at b1 b2 b3 ⊢
  rcases EN (below t.place (t.place[i]'(by omega)+1)) (i+1) with c | c | c
  ·have:=b3 i (by omega) _ hv
   omega
  ·exact c
  ·have hv2:t.place[i+1]?=some (t.place[i+1]'(by omega)):=jV _
   have h1:=b2 (i+1) c _ hv2
   have h2:=hr i (i+1) _ _ (by omega) hv hv2
   omega
section
variable {prog:bQ}{w:bB}{A:cF}{E:aE->aG->Prop}{s:aG}{a r:aD}{o:aY}{es:Array (Int×aE)}{ep:Nat}{t:dY}
theorem PN (S:WSet w s.heap a o es ep t)(hnd:fH w=false->(!t.plain&&decide (es.size > 1))=false){i:Nat}(hi:i≤es.size){Q:Option (aE×Nat)->aG->Prop}
  (q:Q (((wlk w a ep es)[i]?).map fun e=>(e.2,slotAt w t (i+1))) s):aN (aT prog w) A (setNext a (slotAt w t i) i ep) Q E s:=by
 unfold setNext
 refine aI (pE S.get S.data S.fine.fits ?_)
 dsimp only
 unfold setsByText
 refine aI (aI (zI (aR ?_)))
 by_cases hb:fH w=true
 ·refine pF (fun _=>?_) (fun z=>absurd hb z)
  rw[if_neg (by simp)]
  refine aI ?_
  unfold setWalk
  refine aI (pE S.get S.data S.fine.fits ?_)
  dsimp only
  unfold setsByText
  refine aI (aI (zI (aR ?_)))
  refine pF (fun _=>?_) (fun z=>absurd hb z)
  refine aI (zI (aR (aR ?_)))
  have e1:wlk w a ep es=(pickOrder (w.params.setOrder a ep) es).toList:=by unfold wlk; rw[if_pos hb]
  have e2 : ∀ j,slotAt w t j=0:=fun j=>by
   cases j with
   | zero=>rfl
   | succ j=>rw[HV,if_pos hb]
  rw[e1,e2 (i+1),mG] at q
  rw[e2 i]
  exact q
 ·refine pF (fun z=>absurd z hb) (fun _=>?_)
  have hb':fH w=false:=by simpa using hb
  refine pF (fun z=>?_) (fun _=>?_)
  ·have z':(!t.plain&&decide (es.size > 1))=true:=z
   rw[hnd hb'] at z'
   cases z'
  ·refine aI (show aN _ _ (if (!t.led && !es.isEmpty)=true then unsupported "set:maker-not-led" else pure ()) _ _ _ from ?_)
   rw[if_neg (by rw[S.led,hb']; simp)]
   refine aR (aR ?_)
   have e1:wlk w a ep es=es.toList:=by unfold wlk; rw[if_neg hb]
   have hz:=S.fine.good.len
   have e3:below t.place (slotAt w t i)=i:=Mw S.fine.good.ris hb' (by omega)
   rw[e1,mG] at q
   rw[e3]
   by_cases c:i<es.size
   ·have p1:es[i]?=some (es[i]'c):=jV _
    have p2:t.place[i]?=some (t.place[i]'(by omega)):=jV _
    have p3:slotAt w t (i+1)=t.place[i]'(by omega)+1:=by
     rw[HV,if_neg hb]
     simp[Array.getD,show i<t.place.size by omega]
    rw[p1,p3] at q
    rw[p1,p2]
    exact q
   ·have p1:es[i]?=none:=LH (by omega)
    rw[p1] at q
    rw[p1]
    exact q
abbrev tN (h:aW)(r a:aD)(k i n ep:Nat):Prop:=h.get? r=some { cls:=.type "set_iterator",dict:=none,data:=.fields #[eE k,eE i,.ref a,eE n,eE ep],slots:=#[] }
end
theorem Abb:PySem.Slot "set_iterator" "__next__" "set_iterator.__next__":=
 .of (owner:="set_iterator") (n:="__next__") (by rw[typeLookup_type,XY]; kernel_rfl) (by decide +kernel) (by decide +kernel) (by decide +kernel)
  (by first | exact .inl (by decide +kernel) | exact .inr (by decide +kernel)) (by rw[isSubtype_type]; kernel_rfl)
theorem CY:entryFor table "set_iterator.__next__" = some Builtin.«set_iterator.__next__»:=entryFor_of_tree (by kernel_rfl)
theorem QQ:Manifest.owners.lookup (String.ofList "set_iterator".toList.reverse.reverse)=some Manifest.sig_set_iterator:=by kernel_rfl
theorem CS (a:aE):argsOk "set_iterator.__next__" ⟨[a],[]⟩:=by
 unfold argsOk
 rw[signature?_of (id:="set_iterator.__next__") (n:="__next__".toList.reverse) (o:="set_iterator".toList.reverse) (by kernel_rfl) QQ]
 kernel_rfl
theorem CT:PySem.Slot "set_iterator" "__iter__" "set_iterator.__iter__":=
 .of (owner:="set_iterator") (n:="__iter__") (by rw[typeLookup_type,XY]; kernel_rfl) (by decide +kernel) (by decide +kernel) (by decide +kernel)
  (by first | exact .inl (by decide +kernel) | exact .inr (by decide +kernel)) (by rw[isSubtype_type]; kernel_rfl)
theorem UP:entryFor table "set_iterator.__iter__" = some Builtin.«dict_keyiterator.__iter__»:=
 entryFor_alias (id':="dict_keyiterator.__iter__") (by kernel_rfl) (by first | rfl | decide +kernel | (unfold String.splitOn; simp +decide [String.splitOnAux])) (by decide +kernel) (by kernel_rfl)
theorem UK (a:aE):argsOk "set_iterator.__iter__" ⟨[a],[]⟩:=by
 unfold argsOk
 rw[signature?_of (id:="set_iterator.__iter__") (n:="__iter__".toList.reverse) (o:="set_iterator".toList.reverse) (by kernel_rfl) QQ]
 kernel_rfl
theorem UI:entryFor table "set.__iter__" = some Builtin.«frozenset.__iter__»:=
 entryFor_alias (id':="frozenset.__iter__") (by kernel_rfl) (by first | rfl | decide +kernel | (unfold String.splitOn; simp +decide [String.splitOnAux])) (by decide +kernel) (by kernel_rfl)
section
variable {prog:bQ}{w:bB}{A:cF}{E:aE->aG->Prop}{s:aG}{a r:aD}{o:aY}{es:Array (Int×aE)}{ep:Nat}{t:dY}
theorem Rv (S:WSet w s.heap a o es ep t)(hnd:fH w=false->(!t.plain&&decide (es.size > 1))=false){i:Nat}(hr:tN s.heap r a (slotAt w t i) i es.size ep){e:Int×aE}(he:(wlk w a ep es)[i]?=some e){Q:Option aE->aG->Prop}
  (q : ∀ h',tN h' r a (slotAt w t (i+1)) (i+1) es.size ep->oG r s.heap h'->Q (some e.2) { s with heap:=h' }):aN (aT prog w) A (kC (.ref r)) Q E s:=by
 have ty:s.TypeIs (.ref r) "set_iterator":=⟨_,hr,rfl⟩
 have hi:i<es.size:=by
  rw[← BI w a ep es]
  exact(fL.mp he).1
 unfold kC
 refine aI (zH (vL ty Abb (kB Abb ty CY ?_ (CS _))))
 show aN _ _ (fieldsOf (.ref r) >>= _) _ _ s
 refine aI (zG hr rfl ?_)
 refine aI (zD S.get S.data S.fine.fits ?_)
 rw[if_neg (by simp)]
 show aN _ _ (setNext a ((slotAt w t i:Int)).toNat ((i:Int)).toNat ((ep:Int)).toNat >>= _) _ _ s
 rw[mE,mE,mE]
 refine aI (PN S hnd (by omega) ?_)
 rw[he]
 refine aI (zC hr (by simp) fun h1 g1 sb1=>?_)
 refine aI (zC g1 (by simp) fun h2 g2 sb2=>aR ⟨e.2,rfl,aR (q h2 ?_ (sb1.trans sb2))⟩)
 exact g2
theorem Tj (hh:A.handled=none)(S:WSet w s.heap a o es ep t)(hnd:fH w=false->(!t.plain&&decide (es.size > 1))=false)(hr:tN s.heap r a (slotAt w t es.size) es.size es.size ep){Q:Option aE->aG->Prop}
  (q : ∀ h',(∀ b ob,b≠r->s.heap.get? b=some ob->h'.get? b=some ob)->Q none { s with heap:=h' }):aN (aT prog w) A (kC (.ref r)) Q E s:=by
 have ty:s.TypeIs (.ref r) "set_iterator":=⟨_,hr,rfl⟩
 unfold kC
 refine aI (zH (vL ty Abb (kB Abb ty CY ?_ (CS _))))
 show aN _ _ (fieldsOf (.ref r) >>= _) _ _ s
 refine aI (zG hr rfl ?_)
 refine aI (zD S.get S.data S.fine.fits ?_)
 rw[if_neg (by simp)]
 show aN _ _ (setNext a ((slotAt w t es.size:Int)).toNat ((es.size:Int)).toNat ((ep:Int)).toNat >>= _) _ _ s
 rw[mE,mE,mE]
 refine aI (PN S hnd (bY _) ?_)
 rw[ZF (by rw[BI]; exact bY _)]
 refine aI (zC hr (by simp) fun h1 g1 sb1=>?_)
 refine aI ?_
 simp only[newExc,newTuple]
 refine aI (jE ?_ (by size_fits))
 refine aI (JS (by first | rfl | (simp only[firstArgMember]; rfl)) ?_)
 refine jE ?_ (by size_fits)
 simp only[raiseNew]
 refine aI (wpAny_handled ?_)
 first | rw[show A.in1.handled=none from hh] | rw[hh]
 refine aI (aR (wpAny_throw ?_))
 refine aI (zF ⟨_,eL _ rfl,rfl⟩ isSubtype_stop ?_)
 exact aR (q _ fun b ob ne e=>cL _ (cL _ ((sb1.2 b ne).trans e)))
theorem Sv {k i n:Nat}{Q:aE->aG->Prop}(hr:tN s.heap r a k i n ep)(q:Q (.ref r) s):aN (aT prog w) A (nU (.ref r)) Q E s:=by
 have ty:s.TypeIs (.ref r) "set_iterator":=⟨_,hr,rfl⟩
 refine DX ty CT (kB CT ty UP ?_ (UK _))
 exact aR ⟨_,rfl,"set_iterator",_,ty,Abb.lookup,q⟩
theorem Ul (S:WSet w s.heap a o es ep t)(hnd:fH w=false->(!t.plain&&decide (es.size > 1))=false){Q:aE->aG->Prop}
  (q:Q (.ref s.heap.objs.size) { s with heap:=s.heap.push { cls:=.type "set_iterator",data:=.fields #[eE (0:Nat),eE (0:Nat),.ref a,eE (es.size:Nat),eE (ep:Nat)] } }):aN (aT prog w) A (nU (.ref a)) Q E s:=by
 have ty:s.TypeIs (.ref a) "set":=⟨_,S.get,S.exact.1⟩
 refine DX ty KU (kB KU ty UI ?_ (F.args_set_iter_1 _))
 show aN _ _ (LF a >>= _) _ _ s
 unfold LF
 refine aI (aI (zD S.get S.data S.fine.fits (aR ?_)))
 refine aI ?_
 unfold setDrawn
 refine aI (pE S.get S.data S.fine.fits ?_)
 dsimp only
 unfold setsByText
 refine aI (aI (zI (aR ?_)))
 refine aR ?_
 refine pF (fun z=>?_) (fun _=>aI (aR ?_))
 ·have z':(!(w.params.followText "set-order")&&(!t.plain&&decide (es.size > 1)))=true:=z
  cases hb:fH w with
  | true=>
   have hb':w.params.followText "set-order" = true:=hb
   rw[hb'] at z'
   cases z'
  | false=>
   rw[hnd hb] at z'
   simp at z'
 ·refine aI (wpAny_setEpoch_of S.get S.data S.fine.fits ?_)
  exact aI (jE (aR ⟨_,rfl,"set_iterator",_,⟨_,eL _ rfl,rfl⟩,Abb.lookup,q⟩) (by size_fits))
theorem Va (hh:A.handled=none)(r a:aD)(ne:a≠r){h0:aW}(S:WSet w h0 a o es ep t)(hnd:fH w=false->(!t.plain&&decide (es.size > 1))=false) :
  Walks prog w A r [r,a] [r] es.size (fun i v=>∃ e,(wlk w a ep es)[i]?=some e/\v=e.2) (fun i h=>tN h r a (slotAt w t i) i es.size ep/\h.get? a=some o) where
 sub:=fun b hb=>by rw[dP.mp hb]; exact bR
 frame:=fun _ _ _ st hk=>⟨hk r bR _ st.1,hk a (bZ _ bR) _ st.2⟩
 item:=fun i s Q E hi st hQ=>by
  have S':WSet w s.heap a o es ep t:=⟨st.2,S.exact,S.data,S.fine,S.led⟩
  have hx:(wlk w a ep es)[i]?=some ((wlk w a ep es)[i]'(by rw[BI]; exact hi)):=fS _
  exact Rv S' hnd st.1 hx fun h' st' sb=>hQ _ h' s.toks ⟨_,hx,rfl⟩ ⟨st',(sb.2 a ne).trans st.2⟩ fun b o hb e=>(sb.2 b (fun z=>hb (dP.mpr z))).trans e
 done:=fun s Q E st hQ=>by
  have S':WSet w s.heap a o es ep t:=⟨st.2,S.exact,S.data,S.fine,S.led⟩
  exact Tj hh S' hnd st.1 fun h' he=>hQ h' s.toks fun b ob hb e=>he b ob (fun z=>hb (dP.mpr z)) e
 self:=fun _ _ _ _ st hQ=>Sv st.1 hQ
end
section
variable {prog:bQ}{w:bB}{A:cF}{E:aE->aG->Prop}{s:aG}
theorem NV {a:aD}{Q:Bool->aG->Prop}(ty:s.TypeIs (.ref a) "set")(q:Q false s):aN (aT prog w) A (LD (.ref a)) Q E s:=by
 unfold LD
 refine aI (vJ ty F.slot_set_len.lookup ?_)
 generalize hid:("set.__len__" : String)=id0
 wp_delta
 rw[show splitId id0=some ("set","__len__") from by subst hid; decide +kernel]
 subst hid
 refine aI (zF ty sub_set_self ?_)
 refine pF (fun hab=>absurd hab (by decide)) (fun _=>?_)
 refine pF (fun _=>?_) (fun hab=>absurd (by decide +kernel) hab)
 refine aI (sG ty ?_)
 exact aR q
set_option maxHeartbeats 4000000 in
theorem Ny {a:aD}{o:aY}{es:Array (Int×aE)}{ep:Nat}{t:dY}(hh:A.handled=none)(S:WSet w s.heap a o es ep t)(hnd:fH w=false->(!t.plain&&decide (es.size > 1))=false){Q:List aE->aG->Prop}
  (q : ∀ h' tk,s.toks≤tk->s.heap.objs.size<h'.objs.size->(∀ b ob,s.heap.get? b=some ob->h'.get? b=some ob)->Q ((wlk w a ep es).map (·.2)) { s with heap:=h',toks:=tk }):aN (aT prog w) A (collect (.ref a)) Q E s:=by
 have aS:=cI S.get
 unfold collect
 refine aI (JQ (nV F.entry_proto_collect ?_))
 rw[rB F.plain_proto_collect _]
 refine aI (show aN _ A.in1 (newList []) _ _ s from jE ?_)
 refine aR ⟨sI KW _,nV F.entry_list_iadd ?_⟩
 rw[rB KW _]
 generalize hh1:s.heap.push { cls:=.type "list",data:=.seq ([]:List aE).toArray }=h1
 have k1 : ∀ b ob,s.heap.get? b=some ob->h1.get? b=some ob:=fun b ob e=>by rw[← hh1]; exact cL _ e
 have z1:h1.objs.size=s.heap.objs.size+1:=by rw[← hh1]; exact zX _ _
 have g1:h1.get? s.heap.objs.size=some { cls:=.type "list",data:=.seq ([]:List aE).toArray }:=by rw[← hh1]; exact eL _ rfl
 have S1:WSet w h1 a o es ep t:=⟨k1 _ _ S.get,S.exact,S.data,S.fine,S.led⟩
 show aN _ A.in1 (rA (.ref s.heap.objs.size) (.ref a) (.ref s.heap.objs.size)) _ _ _
 unfold rA
 refine aI (sG ⟨_,S1.get,S1.exact.1⟩ ?_)
 have n1:wK (.ref s.heap.objs.size) (.ref a)=false:=by simp[wK,lX aS]
 rw[if_neg (by rw[n1]; decide)]
 refine aI (Ul S1 hnd ?_)
 generalize hh2:h1.push { cls:=.type "set_iterator",data:=.fields #[eE (0:Nat),eE (0:Nat),.ref a,eE (es.size:Nat),eE (ep:Nat)] }=h2
 have k2 : ∀ b ob,h1.get? b=some ob->h2.get? b=some ob:=fun b ob e=>by rw[← hh2]; exact cL _ e
 have gr:tN h2 h1.objs.size a (slotAt w t 0) 0 es.size ep:=by rw[← hh2]; exact eL _ rfl
 have S2:WSet w h2 a o es ep t:=⟨k2 _ _ S1.get,S.exact,S.data,S.fine,S.led⟩
 have ne:a≠h1.objs.size:=by rw[z1]; exact cT (lY aS)
 refine aI (jF (NV ⟨_,S2.get,S2.exact.1⟩ ?_))
 refine pF (fun _=>?_) (fun z=>absurd (by decide +kernel) z)
 refine aI (wpAny_rule ?_)
 refine aI (show aN _ A.in1 (vN s.heap.objs.size (·.push .none) >>= fun _=>vN s.heap.objs.size (·.pop)) _ _ _ from ?_)
 refine aI (vI (k2 _ _ g1) rfl ?_)
 have hS2:=pM (gJ (·.push fT)) (k2 _ _ g1) rfl
 refine vI hS2 rfl ?_
 have hS3:=pM (gJ (·.pop)) hS2 rfl
 have oth : ∀ b ob,b≠s.heap.objs.size->h2.get? b=some ob->((h2.update s.heap.objs.size (gJ (·.push fT))).update s.heap.objs.size (gJ (·.pop))).get? b=some ob:=
  fun b ob hb e=>(qY _ _ (kI hb)).trans ((qY _ _ (kI hb)).trans e)
 have nS:s.heap.objs.size∉[h1.objs.size,a]:=by
  intro z
  rcases cQ.mp z with z | z
  ·rw[z1] at z; exact absurd z (cT (sP _))
  ·exact absurd (dP.mp z) (lX aS)
 have few:=S.fine.few
 refine aR ⟨sI ZO _,XX ((Va (by simp[hh]) h1.objs.size a ne S2 hnd).toS) (by rw[mX]; omega) _ nS _ es.size 0 _ _ _ rfl (eY _) ⟨oth _ _ (by rw[z1]; exact Nat.succ_ne_self _) gr,oth _ _ (cT aS) S2.get⟩ hS3 (ItemsOf.nil _) fun s' acc' c' hm hS' hacc=>?_⟩
 refine aI (wpAny_load hS' (aR ?_))
 obtain⟨h',g',d',tk',os'⟩:=s'
 obtain rfl:g'=s.gens:=hm.gens
 obtain rfl:d'=s.drawn:=hm.drawn
 obtain rfl:os'=s.os:=hm.os
 have eacc:acc'.toList=(wlk w a ep es).map (·.2):=by
  apply ZH
  intro j
  rw[fK,mG]
  by_cases hj:j<es.size
  ·have e1:acc'[j]?=some (acc'[j]'(by rw[hacc.1]; exact hj)):=jV _
   obtain⟨e,he,ev⟩:=hacc.2 j _ e1
   rw[e1,he,ev]
   rfl
  ·rw[LH (by rw[hacc.1]; omega),ZF (by rw[BI]; omega)]
   rfl
 rw[eacc]
 refine q h' tk' hm.toks (cI hS') fun b ob e=>?_
 have hb:=cI e
 refine hm.heap b ob (fun z=>?_) (oth b ob (cT hb) (k2 _ _ (k1 _ _ e)))
 rcases cQ.mp z with z | z
 ·exact absurd z (cT hb)
 ·have z2:=dP.mp z
  rw[z1] at z2
  exact absurd z2 (cT (lY hb))
end
section
variable {prog:bQ}{w:bB}{A:cF}{E:aE->aG->Prop}{s:aG}{a r T:aD}{o:aY}{es:Array (Int×aE)}{ep:Nat}{t:dY}
theorem Hw {src:Source}{n:Nat}{Q:Nat->aG->Prop}(h0:n≠0)(q : ∀ i d,i<n->Q i { s with drawn:=d }):aN (aT prog w) A (choose src n) Q E s:=fun Γ p hΓ=>by
 unfold choose
 rw[Sem.wp_choose]
 exact⟨h0,q _ _ (qP _ (Nat.pos_of_ne_zero h0))⟩
theorem Mv {α:Type}(n:Nat) : ∀ (xs:List α) {s:aG} {Q:List α->aG->Prop},xs.length=n->(∀ ys d,ys.Perm xs->Q ys { s with drawn:=d })->aN (aT prog w) A (drawOrder n xs) Q E s:=by
 induction n with
 | zero=>
  intro xs s Q h q
  have:=Xf.mp h
  subst this
  unfold drawOrder
  have:=q [] s.drawn (.refl _)
  exact aR this
 | succ n ih=>
  intro xs s Q h q
  cases xs with
  | nil=>simp at h
  | cons x xs=>
   unfold drawOrder
   refine aI (Hw (by simp) fun i d hi=>?_)
   rw[fS hi]
   dsimp only
   refine aI (ih ((x::xs).eraseIdx i) (by rw[Xe hi]; simp at h ⊢; omega) fun ys d' p=>aR ?_)
   exact q _ d' ((p.cons _).trans (WT hi))
abbrev sY (h:aW)(r T a:aD)(i n ep:Nat):Prop:=h.get? r=some { cls:=.type "set_iterator",dict:=none,data:=.fields #[.ref T,eE i,.ref a,eE n,eE ep],slots:=#[] }
noncomputable def dwl (es:Array (Int×aE))(ps:List Nat):List (Int×aE):=ps.filterMap (es[·]?)
theorem NY {ps:List Nat}(h:ps.Perm (cU es.size)):(dwl es ps).Perm es.toList:=(h.filterMap _).trans (by rw[filterMap_getElem?_range])
theorem Rk {ps:List Nat}(h : ∀ p∈ps,p<es.size) : ∀ {i:Nat} {p:Nat},ps[i]?=some p->(dwl es ps)[i]?=es[p]?:=by
 intro i p hp
 unfold dwl
 rw[FV _ (fun k hk=>by rw[jV (h k hk)]; rfl),hp]
 rfl
theorem Tt (S:WSet w s.heap a o es ep t){ps:List Nat}(hT : ∃ oT n,s.heap.get? T=some oT/\oT.data = .seq (ps.map fun(i:Nat)=>eE i).toArray n){i:Nat}(hr:sY s.heap r T a i es.size ep){p:Nat}(hp:ps[i]?=some p){e:Int×aE}(he:es[p]?=some e){Q:Option aE->aG->Prop}
  (q : ∀ h',sY h' r T a (i+1) es.size ep->oG r s.heap h'->Q (some e.2) { s with heap:=h' }):aN (aT prog w) A (kC (.ref r)) Q E s:=by
 have ty:s.TypeIs (.ref r) "set_iterator":=⟨_,hr,rfl⟩
 obtain⟨oT,nT,gT,dT⟩:=hT
 unfold kC
 refine aI (zH (vL ty Abb (kB Abb ty CY ?_ (CS _))))
 show aN _ _ (fieldsOf (.ref r) >>= _) _ _ s
 refine aI (zG hr rfl ?_)
 refine aI (zD S.get S.data S.fine.fits ?_)
 rw[if_neg (by simp)]
 refine aI (zE gT dT ?_)
 dsimp only
 rw[show((i:Int)).toNat=i from mE i]
 have e1:(ps.map fun(i:Nat)=>eE i).toArray[i]?=some (eE p):=by simp[hp]
 rw[e1]
 show aN _ _ (setNextDrawn a ((p:Int)).toNat ((ep:Int)).toNat >>= _) _ _ s
 rw[mE,mE]
 unfold setNextDrawn
 refine aI (aI (pE S.get S.data S.fine.fits ?_))
 dsimp only
 rw[if_neg (by simp),he]
 refine aR ?_
 refine aI (zC hr (by simp) fun h1 g1 sb1=>aR ⟨e.2,rfl,aR (q h1 g1 sb1)⟩)
theorem Sf (hh:A.handled=none)(S:WSet w s.heap a o es ep t){ps:List Nat}(hT : ∃ oT n,s.heap.get? T=some oT/\oT.data = .seq (ps.map fun(i:Nat)=>eE i).toArray n)(hl:ps.length=es.size)(hr:sY s.heap r T a es.size es.size ep){Q:Option aE->aG->Prop}
  (q : ∀ h',(∀ b ob,b≠r->s.heap.get? b=some ob->h'.get? b=some ob)->Q none { s with heap:=h' }):aN (aT prog w) A (kC (.ref r)) Q E s:=by
 have ty:s.TypeIs (.ref r) "set_iterator":=⟨_,hr,rfl⟩
 obtain⟨oT,nT,gT,dT⟩:=hT
 unfold kC
 refine aI (zH (vL ty Abb (kB Abb ty CY ?_ (CS _))))
 show aN _ _ (fieldsOf (.ref r) >>= _) _ _ s
 refine aI (zG hr rfl ?_)
 refine aI (zD S.get S.data S.fine.fits ?_)
 rw[if_neg (by simp)]
 refine aI (zE gT dT ?_)
 dsimp only
 rw[show((es.size:Int)).toNat=es.size from mE _]
 have e1:(ps.map fun(i:Nat)=>eE i).toArray[es.size]?=none:=by simp[hl]
 rw[e1]
 refine aI (zC hr (by simp) fun h0 g0 sb0=>?_)
 refine aI (zC g0 (by simp) fun h1 g1 sb1=>?_)
 refine aI ?_
 simp only[newExc,newTuple]
 refine aI (jE ?_ (by size_fits))
 refine aI (JS (by first | rfl | (simp only[firstArgMember]; rfl)) ?_)
 refine jE ?_ (by size_fits)
 simp only[raiseNew]
 refine aI (wpAny_handled ?_)
 first | rw[show A.in1.handled=none from hh] | rw[hh]
 refine aI (aR (wpAny_throw ?_))
 refine aI (zF ⟨_,eL _ rfl,rfl⟩ isSubtype_stop ?_)
 exact aR (q _ fun b ob ne e=>cL _ (cL _ ((sb1.2 b ne).trans ((sb0.2 b ne).trans e))))
theorem To {i n:Nat}{Q:aE->aG->Prop}(hr:sY s.heap r T a i n ep)(q:Q (.ref r) s):aN (aT prog w) A (nU (.ref r)) Q E s:=by
 have ty:s.TypeIs (.ref r) "set_iterator":=⟨_,hr,rfl⟩
 refine DX ty CT (kB CT ty UP ?_ (UK _))
 exact aR ⟨_,rfl,"set_iterator",_,ty,Abb.lookup,q⟩
noncomputable abbrev pB (ps:List Nat):aY:={ cls:=.type "tuple",data:=.seq (ps.map fun(i:Nat)=>eE i).toArray }
theorem Wo (S:WSet w s.heap a o es ep t)(hb:fH w=false)(hd:(!t.plain&&decide (es.size > 1))=true){Q:aE->aG->Prop}
  (q : ∀ ps d,ps.Perm (cU es.size)->Q (.ref (s.heap.objs.size+1)) { s with heap:=(s.heap.push (pB ps)).push { cls:=.type "set_iterator",data:=.fields #[.ref s.heap.objs.size,eE (0:Nat),.ref a,eE (es.size:Nat),eE (ep:Nat)] },drawn:=d }):aN (aT prog w) A (nU (.ref a)) Q E s:=by
 have ty:s.TypeIs (.ref a) "set":=⟨_,S.get,S.exact.1⟩
 refine DX ty KU (kB KU ty UI ?_ (F.args_set_iter_1 _))
 show aN _ _ (LF a >>= _) _ _ s
 unfold LF
 refine aI (aI (zD S.get S.data S.fine.fits (aR ?_)))
 refine aI ?_
 unfold setDrawn
 refine aI (pE S.get S.data S.fine.fits ?_)
 dsimp only
 unfold setsByText
 refine aI (aI (zI (aR ?_)))
 refine aR ?_
 have hb':w.params.followText "set-order" = false:=hb
 refine pF (fun _=>?_) (fun z=>absurd (show(!(w.params.followText "set-order")&&(!t.plain&&decide (es.size > 1)))=true by rw[hb',hd]; rfl) z)
 have few:=S.fine.few
 refine aI (Mv es.size (cU es.size) (by simp) fun ps d hp=>?_)
 have hz:(ps.map fun(i:Nat)=>eE i).toArray.size≤sizeLine:=by
  have:=hp.length_eq
  rw[mX]
  simp at this ⊢
  omega
 refine aI ?_
 simp only[newTuple]
 refine jE ?_ hz
 have S1:WSet w (s.heap.push (pB ps)) a o es ep t:=⟨cL _ S.get,S.exact,S.data,S.fine,S.led⟩
 refine aI (wpAny_setEpoch_of (s:={ s with heap:=s.heap.push (pB ps),drawn:=d }) S1.get S.data S.fine.fits ?_)
 refine aI (jE (aR ⟨_,rfl,"set_iterator",_,⟨_,eL _ rfl,rfl⟩,Abb.lookup,?_⟩) (by size_fits))
 have z1:(s.heap.push (pB ps)).objs.size=s.heap.objs.size+1:=zX _ _
 have:=q ps d hp
 rw[← z1] at this
 exact this
end
section
variable {prog:bQ}{w:bB}{A:cF}{E:aE->aG->Prop}{s:aG}
theorem Iq {es:Array (Int×aE)}{ps:List Nat}(h:ps.Perm (cU es.size)):(dwl es ps).length=es.size:=by
 rw[(NY h).length_eq,gR]
theorem Vk {o:aY}{es:Array (Int×aE)}{ep:Nat}{t:dY}(hh:A.handled=none)(r T a:aD)(ne:a≠r)(nT:T≠r){h0:aW}(S:WSet w h0 a o es ep t){ps:List Nat}(hp:ps.Perm (cU es.size)) :
  Walks prog w A r [r,a,T] [r] es.size (fun i v=>∃ e,(dwl es ps)[i]?=some e/\v=e.2) (fun i h=>sY h r T a i es.size ep/\h.get? a=some o/\h.get? T=some (pB ps)) where
 sub:=fun b hb=>by rw[dP.mp hb]; exact bR
 frame:=fun _ _ _ st hk=>⟨hk r bR _ st.1,hk a (bZ _ bR) _ st.2.1,hk T (bZ _ (bZ _ bR)) _ st.2.2⟩
 item:=fun i s Q E hi st hQ=>by
  have S':WSet w s.heap a o es ep t:=⟨st.2.1,S.exact,S.data,S.fine,S.led⟩
  have hl:ps.length=es.size:=by simpa using hp.length_eq
  have hx:ps[i]?=some (ps[i]'(by omega)):=fS _
  have hlt : ∀ p∈ps,p<es.size:=fun p m=>iS.mp (hp.mem_iff.mp m)
  have hy:es[ps[i]'(by omega)]?=some (es[ps[i]'(by omega)]'(hlt _ (zU _))):=jV _
  exact Tt S' ⟨_,_,st.2.2,rfl⟩ st.1 hx hy fun h' st' sb=>hQ _ h' s.toks ⟨_,(Rk hlt hx).trans hy,rfl⟩ ⟨st',(sb.2 a ne).trans st.2.1,(sb.2 T nT).trans st.2.2⟩ fun b o hb e=>(sb.2 b (fun z=>hb (dP.mpr z))).trans e
 done:=fun s Q E st hQ=>by
  have S':WSet w s.heap a o es ep t:=⟨st.2.1,S.exact,S.data,S.fine,S.led⟩
  exact Sf hh S' ⟨_,_,st.2.2,rfl⟩ (by simpa using hp.length_eq) st.1 fun h' he=>hQ h' s.toks fun b ob hb e=>he b ob (fun z=>hb (dP.mpr z)) e
 self:=fun _ _ _ _ st hQ=>To st.1 hQ
set_option maxHeartbeats 4000000 in
theorem Px {a:aD}{o:aY}{es:Array (Int×aE)}{ep:Nat}{t:dY}(hh:A.handled=none)(S:WSet w s.heap a o es ep t)(hb:fH w=false)(hd:(!t.plain&&decide (es.size > 1))=true){Q:List aE->aG->Prop}
  (q : ∀ h' tk d ps,ps.Perm (cU es.size)->s.toks≤tk->s.heap.objs.size<h'.objs.size->(∀ b ob,s.heap.get? b=some ob->h'.get? b=some ob)->Q ((dwl es ps).map (·.2)) { s with heap:=h',toks:=tk,drawn:=d }):aN (aT prog w) A (collect (.ref a)) Q E s:=by
 have aS:a<s.heap.objs.size:=cI S.get
 unfold collect
 refine aI (JQ (nV F.entry_proto_collect ?_))
 rw[rB F.plain_proto_collect _]
 refine aI (show aN _ A.in1 (newList []) _ _ s from jE ?_)
 refine aR ⟨sI KW _,nV F.entry_list_iadd ?_⟩
 rw[rB KW _]
 generalize hh1:s.heap.push { cls:=.type "list",data:=.seq ([]:List aE).toArray }=h1
 have k1 : ∀ b ob,s.heap.get? b=some ob->h1.get? b=some ob:=fun b ob e=>by rw[← hh1]; exact cL _ e
 have z1:h1.objs.size=s.heap.objs.size+1:=by rw[← hh1]; exact zX _ _
 have g1:h1.get? s.heap.objs.size=some { cls:=.type "list",data:=.seq ([]:List aE).toArray }:=by rw[← hh1]; exact eL _ rfl
 have S1:WSet w h1 a o es ep t:=⟨k1 _ _ S.get,S.exact,S.data,S.fine,S.led⟩
 show aN _ A.in1 (rA (.ref s.heap.objs.size) (.ref a) (.ref s.heap.objs.size)) _ _ _
 unfold rA
 refine aI (sG (T:="set") ⟨_,S1.get,S1.exact.1⟩ ?_)
 have n1:wK (.ref s.heap.objs.size) (.ref a)=false:=by simp[wK,lX aS]
 rw[if_neg (by rw[n1]; decide)]
 refine aI (Wo (s:={ s with heap:=h1 }) S1 hb hd fun ps d hps=>?_)
 show aN _ _ _ _ _ { s with heap:=(h1.push (pB ps)).push _,drawn:=d }
 generalize hh2:(h1.push (pB ps)).push { cls:=.type "set_iterator",data:=.fields #[.ref h1.objs.size,eE (0:Nat),.ref a,eE (es.size:Nat),eE (ep:Nat)] }=h2
 have k2 : ∀ b ob,h1.get? b=some ob->h2.get? b=some ob:=fun b ob e=>by rw[← hh2]; exact cL _ (cL _ e)
 have z2:(h1.push (pB ps)).objs.size=h1.objs.size+1:=zX _ _
 have gr:sY h2 (h1.objs.size+1) h1.objs.size a 0 es.size ep:=by rw[← hh2,← z2]; exact eL _ rfl
 have gT:h2.get? h1.objs.size=some (pB ps):=by rw[← hh2]; exact cL _ (eL _ rfl)
 have hpl:ps.length=es.size:=by simpa using hps.length_eq
 have S2:WSet w h2 a o es ep t:=⟨k2 _ _ S1.get,S.exact,S.data,S.fine,S.led⟩
 have ne:a≠h1.objs.size+1:=by rw[z1]; exact cT (lY (lY aS))
 show aN _ _ (qM [.ref (h1.objs.size+1)] (LD (.ref a)) >>= _) _ _ _
 refine aI (jF (NV ⟨_,S2.get,S2.exact.1⟩ ?_))
 refine pF (fun _=>?_) (fun z=>absurd (by decide +kernel) z)
 refine aI (wpAny_rule ?_)
 refine aI (show aN _ A.in1 (vN s.heap.objs.size (·.push .none) >>= fun _=>vN s.heap.objs.size (·.pop)) _ _ _ from ?_)
 refine aI (vI (k2 _ _ g1) rfl ?_)
 have hS2:=pM (gJ (·.push fT)) (k2 _ _ g1) rfl
 refine vI hS2 rfl ?_
 have hS3:=pM (gJ (·.pop)) hS2 rfl
 have oth : ∀ b ob,b≠s.heap.objs.size->h2.get? b=some ob->((h2.update s.heap.objs.size (gJ (·.push fT))).update s.heap.objs.size (gJ (·.pop))).get? b=some ob:=
  fun b ob hb e=>(qY _ _ (kI hb)).trans ((qY _ _ (kI hb)).trans e)
 have nS:s.heap.objs.size∉[h1.objs.size+1,a,h1.objs.size]:=by
  intro z
  rcases cQ.mp z with z | z
  ·rw[z1] at z; exact absurd z (cT (lY (sP _)))
  ·rcases cQ.mp z with z | z
   ·exact absurd z (lX aS)
   ·have z3:=dP.mp z
    rw[z1] at z3
    exact absurd z3 (cT (sP _))
 have few:=S.fine.few
 refine aR ⟨sI ZO _,XX ((Vk (A:=A.in1) (by simp[hh]) (h1.objs.size+1) h1.objs.size a ne (cT (sP _)) S2 hps).toS) (by rw[mX]; omega) _ nS _ es.size 0 _ _ _ rfl (eY _) ⟨oth _ _ (by rw[z1]; exact lX (lY (sP _))) gr,oth _ _ (cT aS) S2.get,oth _ _ (by rw[z1]; exact Nat.succ_ne_self _) gT⟩ hS3 (ItemsOf.nil _) fun s' acc' c' hm hS' hacc=>?_⟩
 show aN _ A (load s.heap.objs.size >>= _) _ _ s'
 refine aI (wpAny_load hS' (aR ?_))
 obtain⟨h',g',d',tk',os'⟩:=s'
 obtain rfl:g'=s.gens:=hm.gens
 obtain rfl:d'=d:=hm.drawn
 obtain rfl:os'=s.os:=hm.os
 have eacc:acc'.toList=(dwl es ps).map (·.2):=by
  apply ZH
  intro j
  rw[fK,mG]
  by_cases hj:j<es.size
  ·have e1:acc'[j]?=some (acc'[j]'(by rw[hacc.1]; exact hj)):=jV _
   obtain⟨e,he,ev⟩:=hacc.2 j _ e1
   rw[e1,he,ev]
   rfl
  ·rw[LH (by rw[hacc.1]; omega),ZF (by rw[Iq hps]; omega)]
   rfl
 rw[eacc]
 refine q h' tk' d' ps hps hm.toks (cI hS') fun b ob e=>?_
 have hbb:b<s.heap.objs.size:=cI e
 refine hm.heap b ob (fun z=>?_) (oth b ob (cT hbb) (k2 _ _ (k1 _ _ e)))
 rcases cQ.mp z with z | z
 ·exact absurd z (cT hbb)
 ·have z2:=dP.mp z
  rw[z1] at z2
  exact absurd z2 (cT (lY (lY hbb)))
theorem Nz {a:aD}{o:aY}{es:Array (Int×aE)}{ep:Nat}{t:dY}(hh:A.handled=none)(S:WSet w s.heap a o es ep t){Q:List aE->aG->Prop}
  (q : ∀ h' tk d (es':List (Int×aE)),es'.Perm es.toList->s.toks≤tk->s.heap.objs.size<h'.objs.size->(∀ b ob,s.heap.get? b=some ob->h'.get? b=some ob)->Q (es'.map (·.2)) { s with heap:=h',toks:=tk,drawn:=d }):aN (aT prog w) A (collect (.ref a)) Q E s:=by
 by_cases c:fH w=false/\(!t.plain&&decide (es.size > 1))=true
 ·exact Px hh S c.1 c.2 fun h' tk d ps hp h1 h2 h3=>q h' tk d _ (NY hp) h1 h2 h3
 ·refine Ny hh S (fun hb=>?_) fun h' tk h1 h2 h3=>q h' tk s.drawn _ (NW w a ep es) h1 h2 h3
  cases hz:(!t.plain&&decide (es.size > 1)) with
  | false=>rfl
  | true=>exact absurd ⟨hb,hz⟩ c
end
open PySem PySem.Spec PySem.W PyProof.Rows PySem.SetTable
theorem GN {α:Type}(xs:List α)(d:α):(cU xs.length).map (fun i=>xs.getD i d)=xs:=by
 apply List.ext_getElem
 ·simp
 ·intro i h1 h2
  simp at h1
  simp[h1]
section
variable {prog:bQ}{w:bB}{A:cF}{E:aE->aG->Prop}{s:aG}
theorem Sj {h0:aW}{a:aD}{n:Nat}{vs:List aE}{kss:List (List aA)}{P:PySem.Fin->aG->Prop}(ho:s.heap.get? a=some (mY "list" vs.toArray n))(ht:Ajh h0 vs kss)(kp : ∀ b o,h0.get? b=some o->(kA s.heap a vs).get? b=some o)(ok:okT kss=true)(h64:vs.length<64)
  (h : ∀ p:List Nat,p.Perm (cU vs.length)->p.map (fun i=>kss.getD i [])=jW kss->P (.done (.ret .none)) { s with heap:=sortedHeap s.heap a vs (kJ (p.map fun i=>vs.getD i fT)) }) :
  aN (aT prog w) A (Builtin.«list.sort» ⟨[.ref a],[]⟩) P E s:=by
 have ln:=pI ht
 by_cases h2:vs.length<2
 ·refine Ua ho h2 ?_
  have:=h (cU vs.length) (List.Perm.refl _) (by
   rw[ln,GN kss]
   refine HL ok (List.Perm.refl _) ?_
   match kss,ln with
   | [],_=>exact .nil
   | [k],_=>simp
   | _::_::_,ln=>simp at ln; omega)
  rw[GN vs] at this
  exact this
 ·have hs:sameAll kss=true/\(kss.all fun k=>(kR k).isSome)=true:=by
   have h2' : ¬ kss.length<2:=by omega
   have:(sameAll kss&&kss.all fun k=>(kR k).isSome)=true:=by simpa [okT,h2'] using ok
   exact oI.mp this
  obtain⟨k0,m0⟩ : ∃ k0,k0∈kss:=by
   cases hk:kss with
   | nil=>rw[hk] at ln; exact absurd ln (by simp; intro e; rw[e] at h2; simp at h2)
   | cons k r=>exact⟨k,bR⟩
  obtain⟨T,hT⟩:=YR.mp (eK.mp hs.2 k0 m0)
  have sm : ∀ k∈kss,∀ k'∈kss,iW k k'=true:=fun k m k' m'=>eK.mp (eK.mp hs.1 k m) k' m'
  have ht':=ht.keep kp
  refine Hx (κ:=tuples' (hE T != hE "tuple")) (Dk kss) ho (by omega) h64 (fun R q=>?_) (fun i j C hi hj q=>?_) fun p hp ha=>?_
  ·obtain⟨fs,f1,f2,f3⟩:=QW (M:=aT prog w) ht' fun k m=>(same_kind (sm k m k0 m0)).trans hT
   exact kat_kind f1 (by omega) f3 (by rcases Gh hT with rfl | rfl <;> decide) q
  ·obtain⟨b,e1,⟨_,_,as,r1⟩,m1⟩:=ht'.get i hi
   obtain⟨b',e2,⟨_,_,as',r2⟩,m2⟩:=ht'.get j hj
   rw[e1,e2]
   obtain⟨_,o,xs,n,z,ho,_,hd,hr⟩:=qC r1
   cases z
   obtain⟨_,o',xs',n',z,ho',_,hd',hr'⟩:=qC r2
   cases z
   have hsm:=sm _ m1 _ m2
   have l1:=HD hr
   have l2:=HD hr'
   have ll:=HG hsm
   have:decide (xs.size<xs'.size)=false:=decide_eq_false (by simp only[gR] at l1 l2; omega)
   refine kat_lt (s:={ s with heap:=kA s.heap a vs }) ho hd ho' hd' ?_
   rw[this]
   exact JK _ _ 0 hsm hr hr' q
  ·have hp':p.toList.Perm (cU vs.length):=by simpa using Array.perm_iff_toList_perm.mp hp
   have pl:p.toList.length=vs.length:=by rw[hp'.length_eq,List.length_range]
   refine h p.toList hp' (HL ok ?_ ?_)
   ·have:=hp'.map (fun i=>kss.getD i [])
    rw[ln,GN kss] at this
    exact this
   ·rw[wD,Xc]
    intro i j hi hj hij
    refine Aky.mpr ?_
    have:=ha i j (sQ hij) (by omega)
    have e1:at' p i=p.toList[i]:=by simp at hi; simp[at',hi]
    have e2:at' p j=p.toList[j]:=by simp at hj; simp[at',hj]
    rw[e1,e2] at this
    exact of_decide_eq_false this
theorem Sh {kss qs:List (List aA)}(p:qs.Perm kss)(h:okT kss=true):okT qs=true:=by
 unfold okT at h ⊢
 rw[p.length_eq]
 by_cases h2:kss.length<2
 ·simp[h2]
 ·have h':(sameAll kss&&kss.all fun k=>(kR k).isSome)=true:=by simpa [h2] using h
  obtain⟨h3,h4⟩:=oI.mp h'
  have h5:sameAll qs=true:=eK.mpr fun k m=>eK.mpr fun k' m'=>eK.mp (eK.mp h3 k (p.mem_iff.mp m)) k' (p.mem_iff.mp m')
  have h6:(qs.all fun k=>(kR k).isSome)=true:=eK.mpr fun k m=>eK.mp h4 k (p.mem_iff.mp m)
  rw[h5,h6]
  simp
theorem Ng {kss qs:List (List aA)}(p:qs.Perm kss)(h:okT kss=true):jW qs=jW kss:=HL h ((rY qs).trans p) (UD qs)
theorem XH {α β:Type}{R:α->β->Prop}{as:List α}{bs:List β}(h:eP R as bs)(x:α)(y:β) : ∀ p:List Nat,(∀ i∈p,i<as.length)->eP R (p.map fun i=>as.getD i x) (p.map fun i=>bs.getD i y)
 | [],_=>.nil
 | i::p,hi=>by
  refine .cons ?_ (XH h x y p fun j m=>hi j (bZ _ m))
  have hlt:=hi i bR
  obtain⟨b,hb,r⟩:=tU h (fS hlt)
  have e1:as.getD i x=as[i]:=by simp[hlt]
  have e2:bs.getD i y=b:=by simp[hb]
  show R (as.getD i x) (bs.getD i y)
  rw[e1,e2]
  exact r
set_option maxHeartbeats 4000000 in
theorem Nl {B:List aA->aD->Prop}{a:aD}{kss:List (List aA)}{Q:aE->aG->Prop}(hh:A.handled=none)(S:SetT w B s.heap a kss)(ok:okT kss=true)(h64:kss.length<64)
  (q : ∀ h' tk d l e (out:List aE),s.toks≤tk->(∀ b ob,s.heap.get? b=some ob->h'.get? b=some ob)->s.heap.objs.size≤l->eP (fun v k=>∃ b,v=fR b/\B k b) out (jW kss)->h'.get? l=some (mY "list" out.toArray e)->Q (.ref l) { s with heap:=h',toks:=tk,drawn:=d }) :
  aN (aT prog w) A (call (.builtin "sorted") [.ref a]) Q E s:=by
 obtain⟨o,es,ep,t,ks,S,pm⟩:=S
 have W:WSet w s.heap a o es ep t:=⟨S.get,S.exact,S.data,S.fine,S.led⟩
 refine Calls.call_function_entry kind_sorted plain_sorted entry_sorted (args_sorted1 _) ?_
 unfold Builtin.«sorted»
 have hes:es.size=kss.length:=by
  have:=pI S.els
  rw[gR] at this
  rw[this,pm.length_eq]
 refine aI (aR (aI (Nz (by simp[hh]) W fun h1 tk d es' pe htk hsz k1=>aI (wpAny_newList ?_ (by rw[mX,dJ,pe.length_eq,gR]; omega)))))
 obtain⟨ks2,p2,pm2⟩:=GI pe S.els
 have pk:=pm2.trans pm
 have tv:eP (fun v k=>∃ b,v=fR b/\Adq s.heap k b/\B k b) (es'.map (·.2)) ks2:=by
  clear pe pm2 pk
  induction p2 with
  | nil=>exact .nil
  | cons h t ih=>
   obtain⟨b,e1,_,e3,e4⟩:=h
   exact .cons ⟨b,e1,e3,e4⟩ ih
 have hlen:(es'.map (·.2)).length<64:=by rw[dJ,pe.length_eq,gR]; omega
 generalize es'.map (·.2)=vs at tv hlen
 have hoL:(h1.push (mY "list" vs.toArray 0)).get? h1.objs.size=some (mY "list" vs.toArray 0):=eL _ rfl
 refine aI (jF (kB slot_list_sort ⟨_,hoL,rfl⟩ entry_list_sort (Sj hoL (oO (fun v k ⟨b,e1,e2,_⟩=>⟨b,e1,e2⟩) tv) (fun b ob eb=>?_) (Sh pk ok) hlen fun p hp hs=>⟨_,rfl,?_⟩) (args_list_sort _)))
 ·have hb:=cI (k1 b ob eb)
  exact Jo b ob (cT hb) (cL _ (k1 b ob eb))
 refine aR ⟨_,rfl,?_⟩
 obtain⟨e,he⟩:=sortedHeap_at hoL
 refine q _ tk d h1.objs.size e (p.map fun i=>vs.getD i fT) htk (fun b ob eb=>?_) (sQ hsz) ?_ he
 ·have hb:=cI (k1 b ob eb)
  rw[sortedHeap_old (cT hb) (by rw[size_push']; exact lY hb),Heap.get?_push_ne _ _ _ (cT hb)]
  exact k1 b ob eb
 ·have:=XH tv fT [] p fun i m=>iS.mp (hp.mem_iff.mp m)
  rw[hs,Ng pk ok] at this
  exact oO (fun v k ⟨b,e1,_,e3⟩=>⟨b,e1,e3⟩) this
end
def InL (kss:List (List aA))(ys:List V)(k:List aA)(b:aD):Prop:=∃ i:Nat,kss[i]?=some k/\ys[i]?=some (V.ref b)
def MN (w:bB)(kss:List (List aA))(ys:List V)(o:aY)(ls:List (List aA)):Prop:=∃ es ep t ks,o.ExactSet/\o.data = .set es ep t/\Fine t es/\t.led=(!fH w)/\eP (fun(e:Int×aE) k=>∃ b,e.2 = .ref b/\e.1=dB w (.tuple k)/\InL kss ys k b) es.toList ks/\ks.Nodup/\ks.Perm ls
theorem Wq {X:Cx}{pins:List (aD×aY)}{σ:List (Option V)}{H:Hp}{s:aG}{d:Drawn}(I:Inv X pins σ H s):Inv X pins σ H { s with drawn:=d }:=⟨I.ok,I.os,I.bare,I.base,I.loc,I.cell,I.free,I.freeC,I.pin,I.hok,I.len⟩
section
variable {X:Cx}
theorem Ni (hc:X.calm=true)(hu:X.A.units+40<cLine):Aeh X (.type "set") (fun xs H Q=>∃ p ys kss,xs=[.ref p]/\SqL X.K H p ys/\Refs H ys kss/\(dS kss).length≤4900 /\ ∀ a o,H a=none->MN X.w kss ys o (dS kss)->Q (.ref a) (upd H a (isO a o))):=by
 intro pins s σ H xs us Q I r h
 obtain⟨p,ys,kss,rfl,hp,rf,hl,q⟩:=h
 obtain⟨u,rfl,ru⟩:=vals1 r
 cases ru
 obtain⟨its,rv,pl,_⟩:=I.list hp
 have e1:=rv.length
 have e2:=pI rf
 refine Wh (B:=InL kss ys) (kss:=kss) (I.ok.hd hc) hu pl.isList (fun j v ev=>?_) hl (by rw[eG]; omega) fun h' tk ht S' hk=>?_
 ·have ev':its[j]?=some v:=by simpa using ev
  obtain⟨y,hy,ry⟩:=BG rv ev'
  obtain⟨k,hk,b,rfl,tk⟩:=tU rf hy
  cases ry
  exact⟨b,k,rfl,hk,tV I.hok tk,j,hk,hy⟩
 ·obtain⟨o,es,ep,t,ks',Z,pm⟩:=S'
  have I':=I.laid (t':=tk) (h':=h') (o:=isO s.heap.objs.size o) (fun b u e=>hk b u (cI e) e) (bY _) (show Acv X.prog X.w _ _ _ (.ext _) from⟨Z.get,⟨o,Z.get⟩,fun _ _ e k=>k _ e⟩)
  exact⟨.ref s.heap.objs.size,_,I',rfl,q _ o I.fresh ⟨es,ep,t,ks',Z.exact,Z.data,Z.fine,Z.led,oO (fun e k ⟨b,q1,q2,_,q4⟩=>⟨b,q1,q2,q4⟩) Z.els,Z.nod,pm⟩⟩
theorem Nw (hc:X.calm=true):Aeh X (.builtin "sorted") (fun xs H Q=>∃ a o ys kss ls,xs=[.ref a]/\H a=some (isO a o)/\MN X.w kss ys o ls/\Refs H ys kss/\okT ls=true/\ls.length<64 /\
  ∀ l zs,H l=none->eP (fun z k=>∃ b,z=V.ref b/\InL kss ys k b) zs (jW ls)->Q (.ref l) (upd H l (.lst zs))):=by
 intro pins s σ H xs us Q I r h
 obtain⟨a,o,ys,kss,ls,rfl,ha,⟨es,ep,t,ks,hx,hd,hf,hl,he,hn,pm⟩,rf,ok,h64,q⟩:=h
 obtain⟨u,rfl,ru⟩:=vals1 r
 cases ru
 obtain⟨g,_,_⟩:=(show Acv X.prog X.w H s.heap a (.ext _) from I.hok a _ ha)
 have deep : ∀ k b,InL kss ys k b->Adq s.heap k b:=fun k b gh=>by
  obtain⟨i,h1,h2⟩:=gh
  obtain⟨k',hk',b',eb,tk⟩:=tU rf h2
  rw[h1] at hk'
  cases hk'
  cases eb
  exact tV I.hok tk
 refine Nl (I.ok.hd hc) ⟨o,es,ep,t,ks,⟨g,hx,hd,hf,hl,oO (fun e k ⟨b,q1,q2,q3⟩=>⟨b,q1,q2,deep k b q3,q3⟩) he,hn⟩,pm⟩ ok h64 fun h' tk d l e out htk kept hle pr hlst=>?_
 have hnl:=I.hok.fresh hle
 let zs:List V:=out.map fun v=>match v with | .ref b=>V.ref b | _=>V.non
 have pz:eP (fun z k=>∃ b,z=V.ref b/\InL kss ys k b) zs (jW ls)/\Vals zs out:=by
  generalize jW ls=qs at pr
  clear hlst
  induction pr with
  | nil=>exact⟨.nil,.nil⟩
  | cons h t ih=>
   obtain⟨b,rfl,hb⟩:=h
   exact⟨.cons ⟨b,rfl,hb⟩ ih.1,.cons rfl ih.2⟩
 have lz:zs.length≤sizeLine:=by
  have h1:=pI pz.1
  rw[h1,(rY ls).length_eq,mX]
  omega
 exact⟨.ref l,_,Wq (I.laid (t':=tk) (o:=.lst zs) (fun b ob g=>kept b ob g) hle ⟨lz,out,e,pz.2,hlst⟩),rfl,q _ zs hnl pz.1⟩
noncomputable def RA:List aA->Option aA
 | [.list ds]=>(qK ds).bind fun kss=>if (dS kss).length<64/\okT (dS kss)=true then some (.list ((jW (dS kss)).map fU)) else none
 | _=>none
theorem XQ : ∀ {ds:List aA} {kss:List (List aA)},qK ds=some kss->ds=kss.map fU /\ ∀ k∈kss,cC k=true/\dI k≤6
 | [],kss,e=>by cases e; exact⟨rfl,by simp⟩
 | d::ds,kss,e=>by
  cases d with
  | tuple ks=>
   have e:(if cC ks=true/\dI ks≤6 then(qK ds).bind fun kss=>some (ks::kss) else none)=some kss:=e
   by_cases hk:cC ks=true/\dI ks≤6
   case neg=>rw[if_neg hk] at e; cases e
   rw[if_pos hk] at e
   obtain⟨kss',e1,e2⟩:=XBs e
   cases e2
   obtain⟨h1,h2⟩:=XQ e1
   refine⟨by rw[h1]; rfl,fun k m=>?_⟩
   rcases cQ.mp m with rfl | m
   ·exact hk
   ·exact h2 k m
  | _=>cases e
theorem WU {K:aK}{H:Hp}{kss:List (List aA)}{ys:List V}(r:Aau K H (kss.map fU) ys) : ∀ {zs:List V} {qs:List (List aA)},eP (fun z k=>∃ b,z=V.ref b/\InL kss ys k b) zs qs->Aau K H (qs.map fU) zs
 | _,_,.nil=>Aat.mpr rfl
 | _,k::_,.cons ⟨b,e,i,h1,h2⟩ t=>by
  refine Aal.mpr ⟨_,_,rfl,?_,WU r t⟩
  have h3:(kss.map fU)[i]?=some (.tuple k):=by rw[fK,h1]; rfl
  obtain⟨v,hv,rv⟩:=r.get h3
  rw[h2] at hv
  cases hv
  rw[e]
  exact rv
theorem Oc {e:aX}{fe:EF}{p1 p2 pos1 pos2:cE}(hc:X.calm=true)(hu:X.A.units+40<cLine)(g1:Gl X "sorted")(m1:X.mg "sorted" = none)(g2:Gl X "set")(m2:X.mg "set" = none)(he:DE X e fe)
  (hs1:bM [Expr.Call (.Name "set" p2) [e] [] pos2] X.env=[(false,cD (Expr.Call (.Name "set" p2) [e] [] pos2) X.env)]:=by rfl) (hs2:bM [e] X.env=[(false,cD e X.env)]:=by rfl) :
  DF 1 X (.Call (.Name "sorted" p1) [.Call (.Name "set" p2) [e] [] pos2] [] pos1) (aL RA (aF fe aJ)):=by
 have h1:PE X (.Call (.Name "set" p2) [e] [] pos2) _:=HN (Ni hc hu) g2 m2 rfl (jZ he kT hs2) (by decide) (by decide) hs2 rfl
 have h2:PE X (.Call (.Name "sorted" p1) [.Call (.Name "set" p2) [e] [] pos2] [] pos1) _:=BM (Nw hc) g1 m1 PyProof.Rows.boot_sorted (jZ h1 kT hs1) (by decide) (by decide) hs1 rfl
 refine PE.imp h2 fun σ H Q gh=>?_
 obtain⟨P,ρ,d,hP,rs,ef,k⟩:=gh
 obtain⟨ds0,e0,ef⟩:=XBs ef
 obtain⟨d1,e1,e0⟩:=XBs e0
 have e0:[d1]=ds0:=by simpa [aJ] using e0
 subst e0
 cases d1 with
 | list ds=>
  obtain⟨kss,e2,ef⟩:=XBs (show((qK ds).bind fun kss=>if (dS kss).length<64/\okT (dS kss)=true then some (zM ((jW (dS kss)).map fU)) else none)=some d from ef)
  obtain⟨⟨hl,ok⟩,rfl⟩:=dU ef
  obtain⟨rfl,hk⟩:=XQ e2
  refine⟨P,ρ,.list (kss.map fU),hP,rs,e1,cY fun v H1 x1 r1=>?_⟩
  obtain⟨q,ys,rfl,hq,rr⟩:=Abn.mp r1
  have rf:Refs H1 ys kss:=Refs.le (fun c zs e=>Aa9 _ _ e) (NL hk rr)
  refine⟨q,ys,kss,rfl,Aa9.sqL hq,rf,by omega,fun a o hn S=>⟨a,o,ys,kss,dS kss,rfl,jR,S,Refs.le (fun c zs e=>(Ext.new hn) _ _ e) rf,ok,hl,fun l zs hnl pz=>?_⟩⟩
  exact(k.mono (x1.trans (Ext.new hn))).lst (hP.ext (x1.trans (Ext.new hn))) hnl (WU (rr.ext (cS (Ext.new hn))) pz)
 | _=>cases ef
end
section
variable {X:Cx}{a b:aX}{fa fb:EF}{pos:cE}
noncomputable def FR:List aA->Option aA
 | [.int i]=>if i.natAbs.log2<1920/\cA (.str (toString i))=true then some (.str (toString i)) else none
 | _=>none
theorem Lw {K:aK}:CallD K 0 (fun xs H Q=>∃ i,xs=[.int i]/\i.natAbs.log2<1920/\Q (.str (toString i)) H) FR:=fun P H xs ds d Q hP r e k=>by
 unfold FR at e
 split at e
 ·obtain⟨hc,rfl⟩:=dU e
  obtain⟨v,rfl,r'⟩:=jA r
  exact⟨_,by rw[Aaq.mp r'],hc.1,k.zero Ext.refl (Aan.mpr ⟨rfl,hc.2⟩)⟩
 ·cases e
end
noncomputable def CXR (base:aW)(P:bQ)(w:bB):CXT:=fun outer H s E e s'=>∃ (ea:aD) (cls a0:aE) (H':Hp) (B:aW),e = .ref ea/\s'.os=s.os/\pQ s'.gens/\Un (frs outer) [] H H' s.heap s'.heap/\HOk P w H' s'.heap /\
 base.StaysIn B/\(∀ b u,s.heap.get? b=some u->b∉frs outer -> ∃ u',B.get? b=some u')/\(∀ b o,H' b=some o -> ∃ u,B.get? b=some u)/\Heap.FlyingW B outer ea cls a0 s'.heap/\E cls none H'
noncomputable def EC (K:aK)(c:aB)(H:Hp):XK:=fun cls _ H'=>kM K c=some cls/\Ext H H'
theorem CXR.imp {base:aW}{P:bQ}{w:bB}{outer:List eU}{H:Hp}{s s':aG}{E E':XK}{e:aE}(h:CXR base P w outer H s E e s')(k : ∀ cls H',E cls none H'->E' cls none H'):CXR base P w outer H s E' e s':=by
 obtain⟨ea,cls,a0,H',B,h1,h2,h3,h4,h5,h6,h7,h8,h9,q⟩:=h
 exact⟨ea,cls,a0,H',B,h1,h2,h3,h4,h5,h6,h7,h8,h9,k _ _ q⟩
structure XOk (X:Cx)(H:Hp)(c:aB):Prop where
 pass:Passes (CXR X.base X.prog X.w) X (EC X.K c H)
 made : ∀ {cls:aE} {pins:List (aD×aY)} {σ:St} {H1:Hp} {s1:aG} {h':aW} {e:aD} {args:List aE},kM X.K c=some cls->Inv X pins σ H1 s1->Ext H H1->Heap.MadeExcOf s1.heap h' e cls args->X.xe (.ref e) { s1 with heap:=h' }
theorem Acv.here {P:bQ}{w:bB}{H:Hp}{h:aW}{a:aD}{o:HO}(x:Acv P w H h a o) : ∃ u,h.get? a=some u:=by
 cases o with
 | lst xs=>obtain⟨_,_,_,_,e⟩:=x; exact⟨_,e⟩
 | tup xs=>obtain⟨_,_,_,_,ob,e,_⟩:=x; exact⟨ob,e⟩
 | dK ep kvs=>obtain⟨_,_,_,_,o,_,e,_⟩:=x; exact⟨_,e⟩
 | dT ep kvs=>obtain⟨_,_,_,_,o,_,e,_⟩:=x; exact⟨_,e⟩
 | set S n=>obtain⟨o,_,_,_,e,_⟩:=x; exact⟨_,e⟩
 | ins C dx fs=>obtain⟨_,_,_,e,_⟩:=x; exact⟨_,e⟩
 | own y=>exact x
 | xd fs=>obtain⟨_,⟨_,_,_,e,_⟩,_⟩:=x; exact⟨_,e⟩
 | rng lo hi=>obtain⟨_,_,_,e⟩:=x; exact⟨_,e⟩
 | frz ob u=>obtain⟨e,_⟩:=x; exact⟨_,e⟩
 | tbl ps=>exact⟨_,show h.get? a=some _ from x⟩
 | met f y=>exact⟨_,show h.get? a=some _ from x⟩
 | ext φ=>obtain⟨_,e,_⟩:=x; exact e
theorem PP {B h:aW}{b:aD}{u u':aY}(k:B.StaysIn h)(e:B.get? b=some u')(q:h.get? b=some u):u'=u:=iJ ((k b u' e).symm.trans q)
section
variable {P:bQ}{w:bB}{K:aK}{mg:aB->Option aE}{base:aW}{N:List aB}{qual:aB}{scope:iI}{f:aD}{cd:aE}{A:cF}{outer:List eU}{s:aG}{H:Hp}{E:XK}
theorem VP {pins:List (aD×aY)}{σ:St}{H':Hp}{s':aG}{h'' B:aW}{ea:aD}{cls a0:aE}
  (I:Inv (jJ (CXR base P w) P w K mg base N qual scope f cd A outer s H E) pins σ H' s') (hin : ∀ b u,s.heap.get? b=some u->b∉frs outer -> ∃ u',B.get? b=some u') (hT : ∀ b o,H' b=some o -> ∃ u,B.get? b=some u)
  (f1:B.StaysIn s'.heap) (f2:Heap.FlyingW B outer ea cls a0 h'') (up:s'.heap.UpToSlots h'') (hb:base.StaysIn B) (q:E cls none H'):CXR base P w outer H s E (.ref ea) { s' with heap:=h'' }:=by
 have f3:=f2.1
 have U:Un (frs outer) [] H H' s.heap s'.heap:=I.base
 have fr : ∀ b∈frs outer,∃ o,s'.heap.get? b=some o /\ ∀ vs,o.data ≠ .fields vs:=fun b m=>(I.funs.mem m).2
 refine⟨ea,cls,a0,H',B,rfl,I.os,I.bare,⟨fun b o e n hb he=>?_,fun b o e n hb he=>?_,U.free,fun b o e he=>?_,U.tups,U.frzs,U.tbls⟩,fun a o e=>?_,hb,hin,hT,f2,q⟩
 ·have z:=U.keep b o e n hb he
  obtain⟨u',z2⟩:=hin b o e hb
  exact f3 b o (PP f1 z2 z ▸ z2)
 ·obtain⟨sl,z⟩:=U.slot b o e n hb he
  obtain⟨o2,z2,nf⟩:=fr b hb
  obtain⟨sl2,z3⟩:=up b o2 z2 nf
  have:o2 = { o with slots:=sl }:=iJ (z2.symm.trans z)
  exact⟨sl2,by rw[z3,this]⟩
 ·by_cases hb:b∈frs outer
  ·obtain⟨o2,z2,nf⟩:=fr b hb
   obtain⟨sl2,z3⟩:=up b o2 z2 nf
   exact⟨_,z3⟩
  ·obtain⟨u',z2⟩:=hin b o e hb
   exact⟨u',f3 b u' z2⟩
 ·refine(I.hok a o e).stay (fun b u hb q=>?_) (fun _ q=>q) fun _ _ q=>q
  have ht : ∃ o2,H' b=some o2:=by
   rcases hb with rfl | hb
   ·exact⟨o,e⟩
   ·exact⟨_,hb⟩
  obtain⟨o2,ht⟩:=ht
  obtain⟨u',z2⟩:=hT b o2 ht
  exact f3 b u (PP f1 z2 q ▸ z2)
theorem UF {X:Cx}{pins:List (aD×aY)}{σ:St}{H1:Hp}{s1:aG}(I:Inv X pins σ H1 s1){b:aD}{u:aY}(e:X.s₀.heap.get? b=some u)(n:b∉X.fs):b∉frs X.stack:=fun m=>by
 rcases cQ.mp (I.stkSub b m) with z | z
 ·exact absurd (hU (cI e) I.ok.above) (by rw[z]; exact lZ _)
 ·exact n z
theorem Uv:Passes (CXR base P w) (jJ (CXR base P w) P w K mg base N qual scope f cd A outer s H E) E:=fun pins σ H1 s1 e s' I h=>by
 obtain⟨ea,cls,a0,H',B,rfl,os,bare,un,hok,hb,hB,hT,fl,q⟩:=h
 have I':=I.call' (ch:=[]) os un hok bare (fun _ z=>nomatch z)
 refine wpAny_leaves_onW (base:=B) (env:=iQ qual scope s.heap.objs.size f cd) (outer:=outer) (L:=s.heap.objs.size) I.ok.frames rfl fl fun h'' fl'' up=>?_
 refine VP I' (fun b u e n=>?_) hT fl.1 fl'' up hb q
 obtain⟨o',z⟩:=I.base.there b u e (by show b∉[]; simp)
 exact hB b o' z (UF I e n)
theorem Up {cls:aE}{pins:List (aD×aY)}{σ:St}{H1:Hp}{s1:aG}{h':aW}{e:aD}{args:List aE}(I:Inv (jJ (CXR base P w) P w K mg base N qual scope f cd A outer s H E) pins σ H1 s1)(m:Heap.MadeExcOf s1.heap h' e cls args)(q:E cls none H1) :
  (jJ (CXR base P w) P w K mg base N qual scope f cd A outer s H E).xe (.ref e) { s1 with heap:=h' }:=by
 have I':=I.kept (t':=s1.toks) m.keeps
 have hin : ∀ env∈(iQ qual scope s.heap.objs.size f cd::outer),∀ b,env.frame=some b->b∈frs (iQ qual scope s.heap.objs.size f cd::outer):=fun env he b hb=>wF.mpr ⟨env,he,hb⟩
 have hl:s1.heap.FunFrames base (iQ qual scope s.heap.objs.size f cd::outer):=I.stack
 refine wpAny_leaves_madeW (base:=PySem.W.hideAll s1.heap (frs (iQ qual scope s.heap.objs.size f cd::outer))) (h:=s1.heap) (env:=iQ qual scope s.heap.objs.size f cd) (outer:=outer) (L:=s.heap.objs.size) I.ok.frames rfl (fun b o q=>XZ _ q) (PySem.W.funFrames_hide hl hin) m fun h'' t fl tup hnt up=>?_
 refine VP I' (fun b u e n=>?_) (fun b o e=>?_) (fun b o e=>m.keeps b o (XZ _ e)) fl up (fun b o e=>?_) q
 ·obtain⟨o',z⟩:=I.base.there b u e (by show b∉[]; simp)
  exact⟨o',JZ _ z (UF I e n)⟩
 ·have hn:b∉frs (iQ qual scope s.heap.objs.size f cd::outer):=fun z=>by
   have:=I.stkFree b z
   rw[e] at this
   cases this
  obtain⟨u,hg⟩:=(I.hok b o e).here
  exact⟨u,JZ _ hg hn⟩
 ·refine JZ _ (I.bk b o e) fun z=>?_
  have:=(hl.mem z).1
  rw[e] at this
  cases this
theorem Rh {c:aB}(q : ∀ cls H',kM K c=some cls->Ext H H'->E cls none H'):XOk (jJ (CXR base P w) P w K mg base N qual scope f cd A outer s H E) H c:=
 ⟨fun pins σ H1 s1 e s' I h=>Uv pins σ H1 s1 e s' I (h.imp fun cls H' z=>q cls H' z.1 z.2),fun hc I x m=>Up I m (q _ _ hc x)⟩
end
abbrev FX:=Option aB->List aA->Option aA
noncomputable def spX (K:aK)(n0:Nat)(F:FX):Sp:=fun vs H Q E=>∃ P ds d z,Hid P H/\Aau K (hid H P) ds vs/\F z ds=some d/\Res K P n0 d H Q /\ ∀ c,z=some c -> ∀ cls H',kM K c=some cls->Ext H H'->E cls none H'
noncomputable def rsD (c:aB):aA:=.dict [(.none,.str c),(.none,.bool true)]
structure DefX (P:bQ)(w:bB)(K:aK)(mg:aB->Option aE)(base:aW)(x:aB)(k:Nat)(ps:List aB)(sp:Sp):Prop where
 ex : ∃ f fd,FnOk P w K mg base (CXR base P w) k f fd ps sp/\mg x=some (.ref f)/\qO K (.ref f)=true/\Binds K fd ps []
section
variable {P:bQ}{w:bB}{K:aK}{mg:aB->Option aE}{base:aW}
theorem Fun.okX {CX:CXT}{x qual:aB}{st:bP}{f:aD}{fd:fX}{N ps:List aB}{k:Nat}{sp:Sp}(F:Fun K x qual st f fd)(S:FnScope N ps (bJ st))(len : ∀ vs H Q E,sp vs H Q E->vs.length=ps.length)
  (hb : ∀ (cdv:aE) (A:cF) (outer:List eU) (s:aG) (H:Hp) (vs:List V) (Q:VK) (E:XK),Room k (A.deeper (iQ qual (bJ st) s.heap.objs.size f cdv))->sp vs H Q E ->
   ∃ t,PSs (jJ CX P w K mg base N qual (bJ st) f cdv A outer s H E) (iZ st) t/\t { nx:=fun _ H'=>Q .non H',rt:=Q } (start N vs) H):FnOk P w K mg base CX (k+1) f fd ps sp:=by
 obtain⟨oc,od,kV,doc,pm,an,cdv,ct,osl,rfl,lk,hcd⟩:=F.ex
 exact MI lk hcd S len fun A outer s H vs Q E hr hsp=>hb cdv A outer s H vs Q E hr hsp
theorem Gm {N:List aB}{np n0:Nat}{body:SF}{H:Hp}{P0:aD->Prop}{vs:List V}{ds:List aA}{d:aA}{Q:VK}(hP:Hid P0 H)(r:Aau K (hid H P0) ds vs)(ef:fnD np N.length body ds=some d)(k:Res K P0 n0 d H Q) :
  tS K H P0 n0 body { nx:=fun _ H'=>Q .non H',rt:=Q } (start N vs) H:=by
 unfold fnD at ef
 by_cases hl:ds.length=np
 case neg=>rw[if_neg hl] at ef; cases ef
 rw[if_pos hl] at ef
 rw[← hl] at ef
 have hlen:=r.length
 have eH:Hd P0 (fun _=>[])=P0:=by
  funext a
  simp[Hd]
 have S0:Sta K H P0 (hid H P0) (ds.map (fun d=>some (0,d))++mC (N.length - ds.length) none) (start N vs) H (fun _=>[]):=by
  refine⟨by simp[start,hlen],fun _=>.nil,fun i j a h=>by simp at h,fun i a h=>by simp at h,Ext.refl,hP,by rw[eH]; exact Ext.refl,fun i n' d' e=>?_⟩
  rw[eH]
  by_cases hi:i<ds.length
  ·rw[qW (by simpa using hi),fK] at e
   cases q:ds[i]? with
   | none=>rw[q] at e; simp at e
   | some d2=>
    rw[q] at e
    have e':0=n'/\d2=d':=by simpa using e
    obtain⟨rfl,rfl⟩:=e'
    obtain⟨v,h1,h2⟩:=r.get q
    refine⟨v,?_,rfl,h2⟩
    unfold start
    rw[qW (by rw[dJ,hlen]; exact hi),fK,h1]
    rfl
  ·rw[wH (by simpa using hi)] at e
   have:=gQ e
   simp at this
 cases eb:body (ds.map (fun d=>some (0,d))++mC (N.length - ds.length) none) with
 | none=>rw[eb] at ef; cases ef
 | some o=>
  rw[eb] at ef
  refine⟨_,_,_,o,S0,eb,?_⟩
  cases o with
  | rt d'=>
   cases ef
   exact fun v H' ⟨Fr,h1,h2,h3,h4⟩=>k v H' Fr h1 h2 h3 h4
  | nx ρ'=>
   cases ef
   intro σ' H' fp' S'
   refine k .non H' [] S'.ext .nil (fun a m=>by simp at m) ?_
   cases n0 with
   | zero=>exact⟨rfl,Abq.mpr rfl⟩
   | succ n=>
    unfold Akd
    split
    ·exact .inl ⟨rfl,rfl,rfl⟩
    ·exact⟨rfl,Abq.mpr rfl⟩
  | bk _=>cases ef
  | ct _=>cases ef
theorem VH {x qual:aB}{st:bP}{f:aD}{fd:fX}{N ps:List aB}{k n0 np:Nat}{body:Option aB->SF}(F:Fun K x qual st f fd)(S:FnScope N ps (bJ st))(hnp:np=ps.length)(hN:ps.length≤N.length)
  (hb : ∀ (cdv:aE) (A:cF) (outer:List eU) (s:aG) (H:Hp) (E:XK) (P0:aD->Prop) (z:Option aB),Room k (A.deeper (iQ qual (bJ st) s.heap.objs.size f cdv))->(∀ c,z=some c->XOk (jJ (CXR base P w) P w K mg base N qual (bJ st) f cdv A outer s H E) H c) ->
   DSs (jJ (CXR base P w) P w K mg base N qual (bJ st) f cdv A outer s H E) H P0 n0 (iZ st) (body z)) :
  FnOk P w K mg base (CXR base P w) (k+1) f fd ps (spX K n0 fun z=>fnD np N.length (body z)):=by
 refine F.okX S (fun vs H Q E h=>?_) (fun cdv A outer s H vs Q E hr h=>?_)
 ·obtain⟨P,ds,d,z,_,r,ef,_⟩:=h
  have ef:fnD np N.length (body z) ds=some d:=ef
  unfold fnD at ef
  by_cases hl:ds.length=np
  ·rw[r.length,hl,hnp]
  ·rw[if_neg hl] at ef; cases ef
 ·obtain⟨P0,ds,d,z,hP,r,ef,k,kx⟩:=h
  exact⟨_,hb cdv A outer s H E P0 z hr fun c hc=>Rh (kx c hc),Gm hP r ef k⟩
variable {X:Cx}{x:aB}{k n0 np:Nat}{ps:List aB}{F:FX}{e:aX}{es:List aX}{fa:AF}{p pos:cE}
theorem XC {sp:Sp}{E:XK}{t:TA}(D:DefX X.prog X.w X.K X.mg X.base x k ps sp)(hr:Room k X.A)(hg:Gl X x)(hx:Passes (CXR X.base X.prog X.w) X E)(ha:PA X (e::es) t)(hdb:(x == ("__debug__" : aB))=false:=by decide)(he:bM (e::es) X.env=(false,cD e X.env)::bM es X.env:=by rfl)
  (hpl:(eX pos (bM es X.env)).any (·.1)=false:=by rfl):PE X (.Call (.Name x p) (e::es) [] pos) (FP sp [] E t):=by
 obtain⟨f,fd,F,hm,hk,hb⟩:=D.ex
 exact XB F hr hg hm hk hb .nil hx ha hdb he hpl
theorem GC (D:DefX X.prog X.w X.K X.mg X.base x k ps (spX X.K n0 F))(hr:Room k X.A)(hg:Gl X x)(ha:DA X (e::es) fa)(hdb:(x == ("__debug__" : aB))=false:=by decide)(he:bM (e::es) X.env=(false,cD e X.env)::bM es X.env:=by rfl)
  (hpl:(eX pos (bM es X.env)).any (·.1)=false:=by rfl):DF n0 X (.Call (.Name x p) (e::es) [] pos) (aL (F none) fa):=
 PE.imp (XC (E:=fun _ _ _=>False) D hr hg (fun _ _ _ _ _ _ _ h=>by obtain⟨_,_,_,_,_,_,_,_,_,_,_,_,_,_,q⟩:=h; exact q.elim) ha hdb he hpl) fun σ H Q gh=>by
  obtain⟨P,ρ,d,hP,rs,ef,k⟩:=gh
  obtain⟨ds,e1,ef⟩:=XBs ef
  refine⟨P,ρ,ds,hP,rs,e1,fun vs H1 x1 r1=>?_⟩
  show spX X.K n0 F (vs++[]) H1 Q _
  rw[oD]
  exact⟨P,ds,d,none,hP.ext x1,r1,ef,k.mono x1,fun c z=>by cases z⟩
end
theorem Jy {k:aO}(e:PyData.none=kD k):False:=by cases k <;> cases e
section
variable {X:Cx}{H0:Hp}{P0:aD->Prop}{x:aB}{k n0 n np:Nat}{ps:List aB}{F:FX}{e:aX}{es:List aX}{fa:AF}{p pos:cE}{z:Option aB}
theorem evX (m:Md)(hz : ∀ c,z=some c->XOk X H0 c)(D:DefX X.prog X.w X.K X.mg X.base x k ps (spX X.K n F))(hr:Room k X.A)(hg:Gl X x)(ha:DA X (e::es) fa)(hdb:(x == ("__debug__" : aB))=false:=by decide)(he:bM (e::es) X.env=(false,cD e X.env)::bM es X.env:=by rfl)
  (hpl:(eX pos (bM es X.env)).any (·.1)=false:=by rfl):PE X (.Call (.Name x p) (e::es) [] pos) (tE X.K H0 P0 n m (aL (F z) fa)):=by
 cases z with
 | none=>exact ev m (GC D hr hg ha hdb he hpl)
 | some c=>
  refine PE.imp (XC (E:=EC X.K c H0) D hr hg (hz c rfl).pass ha hdb he hpl) fun σ H Q h=>?_
  obtain⟨B0,ρ0,fp,d0,S,_,_⟩:=id h
  obtain⟨P,ρ,d,hP,rs,ef,k⟩:=FJ m σ H Q h
  obtain⟨ds,e1,ef⟩:=XBs ef
  refine⟨P,ρ,ds,hP,rs,e1,fun vs H1 x1 r1=>?_⟩
  show spX X.K n F (vs++[]) H1 Q _
  rw[oD]
  exact⟨P,ds,d,some c,hP.ext x1,r1,ef,k.mono x1,fun c' hc cls H' e2 x2=>by cases hc; exact⟨e2,S.ext.trans (x1.trans x2)⟩⟩
theorem Hn (m:Md)(he:PE X e (tE X.K H0 P0 n0 m f)):DS X H0 P0 n0 (.Return (some e) pos) (bX n0 m f):=PS.imp (JI he) fun D σ H gh=>by
 obtain⟨B0,ρ,fp,o,S,ef,k⟩:=gh
 obtain⟨d,e1,ef⟩:=XBs ef
 cases ef
 exact⟨B0,ρ,fp,d,S,e1,fun v H' t=>k v H' t.ret⟩
end
def MC (K:aK)(c:aB):Prop:=∃ C,dD K cJ c=some (some (.ref C))/\KA K C [.type "ValueError",.type "Exception",.type "BaseException",.type "object"] "ValueError.__new__" = true
theorem Iu {K:aK}{h:aW}{C:aD}{bmB:List aE}{newId:String}(X:K.In h)(q:KA K C bmB newId=true) :
  ∃ bm N nm q bs hdct sn sub ab col dd k0 k1 k2 k3 k5 mN,h.get? C=some (excClassObj nm q C N bs bm hdct sn sub ab col dd k0 k1 k2 k3 k5 newId)/\h.Ns N mN/\mN "__init__" = none/\OwnTail h bmB bm:=by
 unfold KA at q
 split at q
 ·rename_i dd cd sl ho
  split at q
  ·rename_i C' bm k0 k1 k2 k3 n k5 hm hs
   simp only[mF,beq_iff_eq,Bool.not_eq_true'] at q
   obtain⟨⟨⟨⟨⟨rfl,rfl⟩,hdel⟩,ht⟩,hok⟩,hni⟩:=q
   obtain⟨nm,bs,mro,ns,qn,hd,sn,sub,ab,col,del⟩:=cd
   dsimp only at hm hdel hok hni
   subst hm hdel
   have hsl:sl = #[k0,k1,k2,k3,some (.builtin n),k5]:=by
    obtain⟨l⟩:=sl
    simp only at hs
    rw[hs]
   subst hsl
   exact⟨bm,ns,nm,qn,bs,hd,sn,sub,ab,col,dd,k0,k1,k2,k3,k5,_,X _ _ ho,.of_isNs (PySem.W.isNs_of_in X hok),PySem.W.nsMap_none_of_in X hok hni,PySem.W.tail_of_in X ht⟩
  ·cases q
 ·cases q
noncomputable def WC (z:Option aB)(c:aB):SF:=fun _=>if z=some c then some (.rt (rsD c)) else none
section
variable {X:Cx}{H0:Hp}{P0:aD->Prop}{n0:Nat}{z:Option aB}{c t:aB}{np tp cpos pos:cE}{j:Nat}
theorem Uh (hz : ∀ c,z=some c->XOk X H0 c)(V:MC X.K c)(hc:X.calm=true)(hg:Gl X c)(hd:(c == ("__debug__" : aB))=false:=by decide):DS X H0 P0 n0 (.Raise (some (.Call (.Name c np) [.Constant (.str t) j tp] [] cpos)) none pos) (WC z c):=by
 intro pins s σ H D I ⟨B0,ρ,fp,o,S,ef,k⟩
 obtain⟨he,_⟩:=dU ef
 obtain⟨C,hC,hx⟩:=V
 have hm:=lE I.mod.kin I.mod.glob hC
 have hcv:kM X.K c=some (.ref C):=by unfold kM; rw[hC]; rfl
 obtain⟨tl,N,nm,q,bs,hdct,sn,sub,ab,col,dd,k0,k1,k2,k3,k5,mN,oC,oN,hni,T⟩:=Iu I.mod.kin hx
 refine wpAny_Raise_call_subT (C:=C) (nm:=nm) (q:=q) (N:=N) (bs:=bs) (bm:=tl) (hdct:=hdct) (sn:=sn) (sub:=sub) (ab:=ab) (col:=col) (dd:=dd) (k0:=k0) (k1:=k1) (k2:=k2) (k3:=k3) (k5:=k5)
  Wz (mN:=mN) (T.hasType Wz.hasBase) (I.ok.hd hc) rfl hni (AW I hg hm ⟨rfl,?_⟩ hd)
 refine Calls.evalArgs_plain ?_
 refine thn ((jZ UY kT) cpos pins s σ H (fun vs H1=>vs.length=1/\H1=H) I ⟨rfl,rfl⟩) fun vs s2 gh=>?_
 obtain⟨vv,H1,I1,r,hl,e1⟩:=gh
 subst e1
 have hl2:vs.length=1:=by rw[← r.length]; exact hl
 exact⟨rfl,by show vs.length≤sizeLine; rw[hl2]; decide,I1.bk _ _ oC,oN.keeps I1.bk,T.keeps I1.bk,fun h' e m=>(hz c he).made hcv I1 S.ext m⟩
end
open PySem PySem.Spec PySem.Calls PyProof.Rows PySem.W PySem.Builtin PySem.Builtin.ObjectAttr PySem.Builtin.Getset_descriptor
section
variable {prog:bQ}{w:bB}{A:cF}{E:aE->aG->Prop}{h:aW}{g:Array wI}{d:Drawn}{t:Nat}{os:OsState}{K:Frag}{x C:aD}{ox:aY}{vs:Array aE}
structure XCls (K:Frag)(C:aD):Prop where
 ga:findIn K (.ref C) "__getattribute__" = some (some (.builtin "BaseException.__getattribute__"))
 gh:findIn K (.ref C) "__getattr__" = some none
 cl:findIn K (.ref C) "__class__" = some (some (.builtin "object.__class__"))
 mo:mroIn K C (.type "object")=some true
 mb:mroIn K C (.type "BaseException")=some true
 ic:hasDictIn K C=true
end
theorem Hj {K:aK}{c:aB}{v:aE}(h:dD K cJ c=some (some v)):kM K c=some v:=by unfold kM; rw[h]; rfl
noncomputable def fnV (c:aB):aA:=.dict [(.none,.str c),(.none,.bool false)]
def wX (K:aK)(c:aB):Prop:=∃ f,dD K cJ c=some (some (.ref f))
theorem Ep {K:aK}{H:Hp}{v:V}{c:aB}(h:Aby K H (fnV c) v) : ∃ a,v = .ref a/\kM K c=some (.ref a):=by
 obtain⟨a,e,⟨kvs,_,r⟩ | ⟨ts,_,r⟩ | ⟨xs,h,r⟩ | r⟩:=Ab9.mp h
 ·obtain⟨k',_,_,_,ek,_⟩:=Abh.mp r
  exact(Jy ek).elim
 ·obtain⟨_,_,_,_,⟨z,_⟩,_⟩:=Ade.mp (Ae6.mp r).2
  cases z
 ·obtain⟨es,z,_⟩:=BY r
  cases z
 ·rcases r with⟨c',cls,z,h1,h2⟩ | ⟨c',z,h1⟩
  ·cases z
  ·cases z
   exact⟨a,e,h1⟩
theorem Jh {K:aK}{c:aB}{v:aE}(h:kM K c=some v):dD K cJ c=some (some v):=by
 unfold kM at h
 cases e:dD K cJ c with
 | none=>rw[e] at h; cases h
 | some o=>rw[e] at h; exact congrArg some h
noncomputable def isFn (i:Nat)(c:aB)(ρ:List (Option aA)):Bool:=match aC i ρ with
 | some (.dict [(.none,.str c'),(.none,.bool false)])=>decide (c'=c)
 | _=>false
theorem Ib {i:Nat}{c:aB}{ρ:List (Option aA)}(h:isFn i c ρ=true):ρ[i]?=some (some (fnV c)):=by
 unfold isFn at h
 split at h
 ·rename_i c' e
  rw[HE e,of_decide_eq_true h]; rfl
 ·cases h
noncomputable def aFn (i:Nat)(c:aB)(fa:AF):AF:=fun ρ=>if isFn i c ρ=true then fa ρ else none
section
variable {X:Cx}{c y:aB}{p pos:cE}{i n:Nat}{e:aX}{es:List aX}{fa:AF}{k n0:Nat}{ps:List aB}
theorem FO (h:wX X.K c)(hg:Gl X c)(hd:(c == ("__debug__" : aB))=false:=by decide):DE X (.Name c p) (eC (fnV c)):=by
 obtain⟨f,h⟩:=h
 intro pins s σ H Q I ⟨P,ρ,d,hP,rs,ef,k⟩
 cases ef
 exact AW I hg (lE I.mod.kin I.mod.glob h) ⟨.ref f,H,I,rfl,k.zero Ext.refl (Ab9.mpr ⟨f,rfl,.inr (.inr (.inr (.inr ⟨c,rfl,Hj h⟩)))⟩)⟩ hd
theorem Br {pins:List (aD×aY)}{σ:St}{H:Hp}{s:aG}{P:aD->Prop}{ρ:List (Option aA)}{f:aD}{Q:aE->aG->Prop}(hN:X.N[i]?=some y)(hv:nB X.env.scope y)(hd:(y == ("__debug__" : aB))=false)(hcd:(y == ("__classdict__" : aB))=false)(hm:X.mg c=some (.ref f))
  (I:Inv X pins σ H s) (rs:Anw X.K (hid H P) ρ σ) (e:ρ[i]?=some (some (fnV c))) (q : ∀ s',Inv X pins σ H s'->Q (.ref f) s'):aN (aT X.prog X.w) X.A (cD (.Name y p) X.env) Q X.xe s:=by
 obtain⟨v,h1,h2⟩:=rs i _ e
 obtain⟨a,rfl,h3⟩:=Ep h2
 have hf:a=f:=by
  have:=lE I.mod.kin I.mod.glob (Jh h3)
  rw[hm] at this
  cases this
  rfl
 subst hf
 exact thn (rN (pos:=p) hN hv hd hcd pins s σ H (fun v H'=>v = .ref a/\H'=H) I ⟨_,h1,rfl,rfl⟩) fun u s' gh=>by
  obtain⟨v,H',I',r,e1,e2⟩:=gh
  subst e1; subst e2
  cases r
  exact q s' I'
theorem FZ {F:List aA->Option aA}(hN:X.N[i]?=some y)(hv:nB X.env.scope y)(D:Def X.prog X.w X.K X.mg X.base c k ps (spF X.K n0 F))(hr:Room k X.A)(ha:DA X (e::es) fa)(hd:(y == ("__debug__" : aB))=false:=by decide)(hcd:(y == ("__classdict__" : aB))=false:=by decide)(he:bM (e::es) X.env=(false,cD e X.env)::bM es X.env:=by rfl)
  (hpl:(eX pos (bM es X.env)).any (·.1)=false:=by rfl):DF n0 X (.Call (.Name y p) (e::es) [] pos) (aL F (aFn i c fa)):=by
 intro pins s σ H Q I ⟨P,ρ,d,hP,rs,ef,kk⟩
 obtain⟨ds,e1,ef⟩:=XBs ef
 obtain⟨hi,e1⟩:=ND e1
 obtain⟨f,fd,Fk,hm,hk,hb⟩:=D.ex
 refine JU (Br hN hv hd hcd hm I rs (Ib hi) fun s' I'=>?_)
 refine PySem.W.callWith_K (h₀:=X.base) I.ok.mod.kin hk (thn (ha pos pins s' σ H (fun vs H1=>spF X.K n0 F (vs++[]) H1 Q E0) I' ⟨P,ρ,ds,hP,rs,e1,fun vs H1 x1 r1=>?_⟩) fun us s1 ⟨vs,H1,I1,r,q⟩=>⟨I1.kIn,?_⟩) he hpl
 ·show spF X.K n0 F (vs++[]) H1 Q E0
  rw[oD]
  exact⟨P,ds,d,hP.ext x1,r1,ef,kk.mono x1⟩
 ·exact VA Fk hr hb .nil MR I1 r q
end
section
variable {X:Cx}{a e:aX}{f g:EF}{apos cpos:cE}
theorem Lg:MtR X "str.startswith" (fun x vs H Q=>∃ z y,x = .str z/\vs=[.str y]/\Q (.bl (JX z y)) H):=by
 intro pins s σ H x xs v us Q I rx rv h
 obtain⟨z,y,rfl,rfl,q⟩:=h
 obtain⟨t,rfl⟩:=rx
 obtain⟨u,rfl,t',rfl⟩:=vals1 rv
 exact SC.startswith ⟨.bl _,H,I,rfl,q⟩
theorem SO : ∀ l:List (aB×Tok),Vals ((l.map (·.1)).map V.str) (strValues l)
 | []=>.nil
 | (x,t)::l=>.cons ⟨t,rfl⟩ (SO l)
theorem Ud:MtR X "str.split" (fun x vs H Q=>∃ z y,x = .str z/\vs=[.str y]/\(y.length == 0)=false/\z.length+2≤sizeLine /\ ∀ l,H l=none->Q (.ref l) (upd H l (.lst ((nX z y).map V.str)))):=by
 intro pins s σ H x xs v us Q I rx rv h
 obtain⟨x,y,rfl,rfl,hy,hsz,q⟩:=h
 obtain⟨t,rfl⟩:=rx
 obtain⟨_,rfl,u,rfl⟩:=vals1 rv
 have hn:(ZR x (jU x y 0 x.length (x.length+1)) y.length).length≤sizeLine:=by
  have e1:=StrLaws.occ_length_le x y 0 x.length (x.length+1)
  rw[length_partsBetween]; omega
 have fin : ∀ (l:List (aB×Tok)) (k:Nat),l.map (·.1)=nX x y->l.length≤sizeLine->EP X pins σ Q (.ref s.heap.objs.size) { s with toks:=k,heap:=s.heap.push { cls:=.type "list",data:=.seq (strValues l).toArray } }:=fun l k e hl=>
  ⟨.ref s.heap.objs.size,_,I.laid (t':=k) (fun b o hb=>cL _ hb) (bY _) (show Acv X.prog X.w _ _ _ (.lst ((nX x y).map V.str)) from⟨by rw[← e]; simpa using hl,strValues l,0,by rw[← e]; exact SO l,eL _ rfl⟩),rfl,q _ (I.hok.fresh (bY _))⟩
 cases h1:(decide (x.length<y.length)||decide (LB x<LB y))
 ·cases hf:(jU x y 0 x.length (x.length+1)).isEmpty
  ·refine EE ZN (vO _ _ _) ZP (ZQ _ _) (meets_str_split_sep x y t u h1 hy hf (by omega) hn) ?_
   show wants _ _ _ { s with toks:=_,heap:=s.heap.push { cls:=.type "list",data:=.seq (strsFrom s.toks (ZR x (jU x y 0 x.length (x.length+1)) y.length)).toArray } }
   rw[strsFrom_eq]
   have ht:=numbered_texts s.toks (ZR x (jU x y 0 x.length (x.length+1)) y.length)
   refine fin (numbered s.toks _) _ (ht.trans ((if_neg (ne_true_of_eq_false h1)).trans (if_neg (ne_true_of_eq_false hf))).symm) ?_
   have:=congrArg qS ht
   rw[dJ] at this
   rw[this]
   exact hn
  ·exact EE ZN (vO _ _ _) ZP (ZQ _ _) (meets_str_split_not_found x y t u h1 hy hf)
    (fin [(x,t)] s.toks ((if_neg (ne_true_of_eq_false h1)).trans (if_pos hf)).symm (by show 1≤sizeLine; decide))
 ·exact EE ZN (vO _ _ _) ZP (ZQ _ _) (meets_str_split_cannot_occur x y t u h1)
   (fin [(x,t)] s.toks (if_pos h1).symm (by show 1≤sizeLine; decide))
theorem QJ {sep:aB} : ∀ {ys:List aB},cA (.str (dN sep ys))=true -> ∀ b∈ys,cA (.str b)=true
 | [],_,b,m=>by cases m
 | [x],h,b,m=>by
  have e:dN sep [x]=x:=by simp[dN]
  rw[e] at h
  rcases cQ.mp m with rfl | m
  ·exact h
  ·cases m
 | x::y::r,h,b,m=>by
  have e:dN sep (x::y::r)=x++sep++dN sep (y::r):=by
   rw[dN]
   intro z; cases z
  rw[e] at h
  have e2:(x++sep++dN sep (y::r)).cps=x.cps++sep.cps++(dN sep (y::r)).cps:=rfl
  simp only[cA,sN] at h
  rw[e2,ZX,ZX] at h
  simp only[mF] at h
  rcases cQ.mp m with rfl | m
  ·exact h.1.1
  ·exact QJ (sep:=sep) h.2 b m
theorem Le {x sep:aB}(h:cA (.str x)=true) : ∀ b∈nX x sep,cA (.str b)=true:=
 QJ (sep:=sep) (by rw[StrLaws.join_split]; exact h)
noncomputable def BH:aA->aA->Option aA
 | .str x,.str y=>some (.bool (JX x y))
 | _,_=>none
theorem Lf (ho:DE X a f)(he:DE X e g)(hbase:vX a "startswith" X.env (cD a X.env)=cD a X.env:=by rfl)
  (hfew:((eX cpos (bM (e::[]) X.env)).all (fun x=>!x.1)&&(vW cpos (vR [] X.env)).all (fun x=>x.1.isSome)
   && decide ((e::[]).length+([]:List lG).length+(if ([]:List lG).isEmpty then 0 else 1)<30))=true:=by rfl)
  (hline:(apos.endLine == cpos.line)=true:=by rfl) (hs:bM (e::[]) X.env=(false,cD e X.env)::bM [] X.env:=by rfl) (hplain:(eX cpos (bM [] X.env)).any (·.1)=false:=by rfl):DE X (.Call (.Attribute a "startswith" apos) [e] [] cpos) (eOp BH f g):=
 PE.imp (tJ KB PySem.F.slot_str_startswith PySem.F.type_str_startswith Lg ho (jZ he kT hs) hbase hfew hline hs hplain) fun σ H Q gh=>by
  obtain⟨P,ρ,d,hP,rs,ef,k⟩:=gh
  obtain⟨d1,e1,ef2⟩:=XBs ef
  obtain⟨d2,e2,ef3⟩:=XBs ef2
  clear ef ef2
  unfold BH at ef3
  split at ef3
  ·cases ef3
   refine⟨P,ρ,_,hP,rs,e1,cY fun v H1 x1 r1=>⟨by rw[(Aan.mp r1).1]; rfl,P,ρ,_,hP.ext x1,rs.ext (cS x1),e2,cY fun u H2 x2 r2=>?_⟩⟩
   exact⟨_,_,(Aan.mp r1).1,by rw[(Aan.mp r2).1],k.zero (x1.trans x2) (Aar.mpr rfl)⟩
  ·cases ef3
noncomputable def lO:aA->aA->Option aA
 | .str x,.str y=>if (y.length == 0)=false/\x.length+2≤sizeLine then some (.list ((nX x y).map .str)) else none
 | _,_=>none
theorem HF {K:aK}{H:Hp} : ∀ {ys:List aB},(∀ b∈ys,cA (.str b)=true)->Aau K H (ys.map .str) (ys.map V.str)
 | [],_=>Aat.mpr rfl
 | y::r,h=>Aal.mpr ⟨_,_,rfl,Aan.mpr ⟨rfl,h y bR⟩,HF fun b m=>h b (bZ _ m)⟩
theorem BJ (ho:DE X a f)(he:DE X e g)(hbase:vX a "split" X.env (cD a X.env)=cD a X.env:=by rfl)
  (hfew:((eX cpos (bM (e::[]) X.env)).all (fun x=>!x.1)&&(vW cpos (vR [] X.env)).all (fun x=>x.1.isSome)
   && decide ((e::[]).length+([]:List lG).length+(if ([]:List lG).isEmpty then 0 else 1)<30))=true:=by rfl)
  (hline:(apos.endLine == cpos.line)=true:=by rfl) (hs:bM (e::[]) X.env=(false,cD e X.env)::bM [] X.env:=by rfl) (hplain:(eX cpos (bM [] X.env)).any (·.1)=false:=by rfl):DF 1 X (.Call (.Attribute a "split" apos) [e] [] cpos) (eOp lO f g):=
 PE.imp (tJ KB PySem.F.slot_str_split PySem.F.type_str_split Ud ho (jZ he kT hs) hbase hfew hline hs hplain) fun σ H Q gh=>by
  obtain⟨P,ρ,d,hP,rs,ef,k⟩:=gh
  obtain⟨d1,e1,ef2⟩:=XBs ef
  obtain⟨d2,e2,ef3⟩:=XBs ef2
  clear ef ef2
  unfold lO at ef3
  split at ef3
  ·obtain⟨hc,rfl⟩:=dU ef3
   refine⟨P,ρ,_,hP,rs,e1,cY fun v H1 x1 r1=>⟨by rw[(Aan.mp r1).1]; rfl,P,ρ,_,hP.ext x1,rs.ext (cS x1),e2,cY fun u H2 x2 r2=>?_⟩⟩
   exact⟨_,_,(Aan.mp r1).1,by rw[(Aan.mp r2).1],hc.1,hc.2,fun l hl=>(k.mono (x1.trans x2)).lst (hP.ext (x1.trans x2)) hl (HF (Le (Aan.mp r1).2))⟩
  ·cases ef3
theorem Kz:Aeh X (.type "int") (fun xs H Q=>∃ x n,xs=[.str x]/\EJ x=some n/\x.length≤640/\Q (.int n) H):=by
 intro pins s σ H xs us Q I r h
 obtain⟨x,n,rfl,hn,hl,q⟩:=h
 obtain⟨u,rfl,t,rfl⟩:=vals1 r
 exact PySem.W.KIN.call_text hn hl ⟨.int n,H,I.tok _,⟨_,rfl⟩,q⟩
noncomputable def FU:List aA->Option aA
 | [.str x]=>if x.length≤640 then(EJ x).map .int else none
 | _=>none
theorem Mt {K:aK}:CallD K 0 (fun xs H Q=>∃ x n,xs=[.str x]/\EJ x=some n/\x.length≤640/\Q (.int n) H) FU:=fun P H xs ds d Q hP r e k=>by
 unfold FU at e
 split at e
 ·obtain⟨hc,e⟩:=ND e
  obtain⟨n,hn,rfl⟩:=kH.mp e
  obtain⟨v,rfl,r'⟩:=jA r
  exact⟨_,_,by rw[(Aan.mp r').1],hn,hc,k.zero Ext.refl (Aaq.mpr rfl)⟩
 ·cases e
end
section
variable {X:Cx}{a e e2:aX}{f g h:EF}{apos cpos:cE}
theorem Wd:Aeh X (.type "str") (fun xs H Q=>(∃ i,xs=[.int i]/\i.natAbs.log2<1920/\Q (.str (toString i)) H) \/ ∃ x,xs=[.str x]/\Q (.str x) H):=by
 intro pins s σ H xs us Q I r h
 rcases h with h | ⟨x,rfl,q⟩
 ·exact Ow pins s σ H xs us Q I r h
 ·obtain⟨u,rfl,t,rfl⟩:=vals1 r
  exact PySem.P.str_of_str ⟨.str x,H,I,⟨_,rfl⟩,q⟩
noncomputable def zB:List aA->Option aA
 | [.str x]=>some (.str x)
 | ds=>FR ds
theorem Mx {K:aK}:CallD K 0 (fun xs H Q=>(∃ i,xs=[.int i]/\i.natAbs.log2<1920/\Q (.str (toString i)) H) \/ ∃ x,xs=[.str x]/\Q (.str x) H) zB:=fun P H xs ds d Q hP r e k=>by
 unfold zB at e
 split at e
 ·cases e
  obtain⟨v,rfl,r'⟩:=jA r
  obtain⟨rfl,hl⟩:=Aan.mp r'
  exact .inr ⟨_,rfl,k.zero Ext.refl r'⟩
 ·exact .inl (Lw P H xs ds d Q hP r e k)
end
section
variable {X:Cx}{a e:aX}{f g:EF}{apos cpos:cE}
noncomputable abbrev part3 (z y:aB):List aB:=[(pH z y).1,(pH z y).2.1,(pH z y).2.2]
theorem Ic:MtR X "str.partition" (fun x vs H Q=>∃ z y,x = .str z/\vs=[.str y]/\(y.length == 0)=false/\z.length≤sizeLine /\ ∀ l,H l=none->Q (.ref l) (upd H l (.tup ((part3 z y).map V.str)))):=by
 intro pins s σ H x xs v us Q I rx rv h
 obtain⟨x,y,rfl,rfl,hy,hsz,q⟩:=h
 obtain⟨t,rfl⟩:=rx
 obtain⟨_,rfl,u,rfl⟩:=vals1 rv
 have fin : ∀ (ta tb tc:Tok) (k:Nat),EP X pins σ Q (.ref s.heap.objs.size) { s with toks:=k,heap:=s.heap.push { cls:=.type "tuple",data:=.seq [.str (pH x y).1 ta,.str (pH x y).2.1 tb,.str (pH x y).2.2 tc].toArray } }:=fun ta tb tc k=>
  ⟨.ref s.heap.objs.size,_,I.laid (t':=k) (fun b o hb=>cL _ hb) (bY _) (show Acv X.prog X.w _ _ _ (.tup ((part3 x y).map V.str)) from⟨by show 3≤sizeLine; decide,_,.cons ⟨ta,rfl⟩ (.cons ⟨tb,rfl⟩ (.cons ⟨tc,rfl⟩ .nil)),A9s.new _ _⟩),rfl,q _ (I.hok.fresh (bY _))⟩
 refine EE F.slot_str_partition (vO _ _ _) F.entry_str_partition (F.args_str_partition_2 _ _) (meets_str_partition x y t u hy hsz) ?_
 have h':=fin
 unfold pH at h'
 revert h'
 cases jU x y 0 x.length 1 with
 | nil=>intro h'; exact h' _ _ _ _
 | cons i r=>intro h'; exact h' _ _ _ _
theorem XS {x:aB}(h:cA (.str x)=true)(i j:Nat):cA (.str (qZ x i j))=true:=by
 simp only[cA,sN] at h ⊢
 show(x.cps.extract i j).all _=true
 rw[ZW] at h ⊢
 intro c m
 refine h c ?_
 rw[Array.mem_def] at m ⊢
 rw[Array.toList_extract] at m
 simp only[List.extract] at m
 exact List.mem_of_mem_drop (KL m)
theorem Tg {x y:aB}(hx:cA (.str x)=true)(hy:cA (.str y)=true) : ∀ b∈part3 x y,cA (.str b)=true:=fun b m=>by
 have he:cA (.str Str.empty)=true:=by decide +kernel
 unfold part3 pH at m
 split at m
 ·simp only[cQ,List.not_mem_nil,or_false] at m
  rcases m with rfl | rfl | rfl
  ·exact XS hx _ _
  ·exact hy
  ·exact XS hx _ _
 ·simp only[cQ,List.not_mem_nil,or_false] at m
  rcases m with rfl | rfl | rfl
  ·exact hx
  ·exact he
  ·exact he
noncomputable def DM:aA->aA->Option aA
 | .str x,.str y=>if (y.length == 0)=false/\x.length≤sizeLine then some (.tuple ((part3 x y).map .str)) else none
 | _,_=>none
theorem Hg (ho:DE X a f)(he:DE X e g)(hbase:vX a "partition" X.env (cD a X.env)=cD a X.env:=by rfl)
  (hfew:((eX cpos (bM (e::[]) X.env)).all (fun x=>!x.1)&&(vW cpos (vR [] X.env)).all (fun x=>x.1.isSome)
   && decide ((e::[]).length+([]:List lG).length+(if ([]:List lG).isEmpty then 0 else 1)<30))=true:=by rfl)
  (hline:(apos.endLine == cpos.line)=true:=by rfl) (hs:bM (e::[]) X.env=(false,cD e X.env)::bM [] X.env:=by rfl) (hplain:(eX cpos (bM [] X.env)).any (·.1)=false:=by rfl):DE X (.Call (.Attribute a "partition" apos) [e] [] cpos) (eOp DM f g):=
 PE.imp (tJ KB PySem.F.slot_str_partition PySem.F.type_str_partition Ic ho (jZ he kT hs) hbase hfew hline hs hplain) fun σ H Q gh=>by
  obtain⟨P,ρ,d,hP,rs,ef,k⟩:=gh
  obtain⟨d1,e1,ef2⟩:=XBs ef
  obtain⟨d2,e2,ef3⟩:=XBs ef2
  clear ef ef2
  unfold DM at ef3
  split at ef3
  ·obtain⟨hc,rfl⟩:=dU ef3
   refine⟨P,ρ,_,hP,rs,e1,cY fun v H1 x1 r1=>⟨by rw[(Aan.mp r1).1]; rfl,P,ρ,_,hP.ext x1,rs.ext (cS x1),e2,cY fun u H2 x2 r2=>?_⟩⟩
   exact⟨_,_,(Aan.mp r1).1,by rw[(Aan.mp r2).1],hc.1,hc.2,fun l hl=>(k.mono (x1.trans x2)).tup (hP.ext (x1.trans x2)) hl (HF (Tg (Aan.mp r1).2 (Aan.mp r2).2))⟩
  ·cases ef3
end
end L2
namespace Aw
open PySem L2
noncomputable def top (i:Nat):bP:=PySem.Challenge.pw_askwithin_k63_questions_written.main.body.getD i (.Pass ⟨0,0,0,0⟩)
noncomputable abbrev IA:bP:=top 11
noncomputable abbrev Mu:List aB:=["thing"]
noncomputable abbrev yA:List aB:=["thing"]
theorem Am8:FnScope Mu yA (bJ IA):=⟨rfl,rfl,rfl,by decide +kernel,rfl,by decide +kernel,by decide +kernel⟩
noncomputable abbrev IL:bP:=top 12
noncomputable abbrev Oi:List aB:=["thing"]
noncomputable abbrev xY:List aB:=["thing"]
theorem Ale:FnScope Oi xY (bJ IL):=⟨rfl,rfl,rfl,by decide +kernel,rfl,by decide +kernel,by decide +kernel⟩
noncomputable abbrev BX:bP:=top 13
noncomputable abbrev QC:List aB:=["thing"]
noncomputable abbrev uK:List aB:=["thing"]
theorem Aou:FnScope QC uK (bJ BX):=⟨rfl,rfl,rfl,by decide +kernel,rfl,by decide +kernel,by decide +kernel⟩
noncomputable abbrev HH:bP:=top 14
noncomputable abbrev Vj:List aB:=["thing"]
noncomputable abbrev xU:List aB:=["thing"]
theorem Aop:FnScope Vj xU (bJ HH):=⟨rfl,rfl,rfl,by decide +kernel,rfl,by decide +kernel,by decide +kernel⟩
noncomputable abbrev HX:bP:=top 15
noncomputable abbrev Ku:List aB:=["thing"]
noncomputable abbrev uG:List aB:=["thing"]
theorem Aot:FnScope Ku uG (bJ HX):=⟨rfl,rfl,rfl,by decide +kernel,rfl,by decide +kernel,by decide +kernel⟩
noncomputable abbrev CN:bP:=top 16
noncomputable abbrev TZ:List aB:=["thing","fewest","most"]
noncomputable abbrev uT:List aB:=["thing","fewest","most"]
theorem Alb:FnScope TZ uT (bJ CN):=⟨rfl,rfl,rfl,by decide +kernel,rfl,by decide +kernel,by decide +kernel⟩
noncomputable abbrev HU:bP:=top 17
noncomputable abbrev Uz:List aB:=["thing"]
noncomputable abbrev xQ:List aB:=["thing"]
theorem Aox:FnScope Uz xQ (bJ HU):=⟨rfl,rfl,rfl,by decide +kernel,rfl,by decide +kernel,by decide +kernel⟩
noncomputable abbrev CJ:bP:=top 18
noncomputable abbrev TN:List aB:=["thing"]
noncomputable abbrev yK:List aB:=["thing"]
theorem Ak1:FnScope TN yK (bJ CJ):=⟨rfl,rfl,rfl,by decide +kernel,rfl,by decide +kernel,by decide +kernel⟩
noncomputable abbrev CU:bP:=top 19
noncomputable abbrev US:List aB:=["things"]
noncomputable abbrev yV:List aB:=["things"]
theorem Ahq:FnScope US yV (bJ CU):=⟨rfl,rfl,rfl,by decide +kernel,rfl,by decide +kernel,by decide +kernel⟩
noncomputable abbrev CW:bP:=top 20
noncomputable abbrev UO:List aB:=["lines","widths"]
noncomputable abbrev vE:List aB:=["lines"]
theorem Ah6:FnScope UO vE (bJ CW):=⟨rfl,rfl,rfl,by decide +kernel,rfl,by decide +kernel,by decide +kernel⟩
noncomputable abbrev CL:bP:=top 21
noncomputable abbrev TX:List aB:=["head","lines","names"]
noncomputable abbrev yD:List aB:=["head","lines"]
theorem Alj:FnScope TX yD (bJ CL):=⟨rfl,rfl,rfl,by decide +kernel,rfl,by decide +kernel,by decide +kernel⟩
noncomputable abbrev IY:bP:=top 22
noncomputable abbrev Qq:List aB:=["thing"]
noncomputable abbrev yX:List aB:=["thing"]
theorem Agr:FnScope Qq yX (bJ IY):=⟨rfl,rfl,rfl,by decide +kernel,rfl,by decide +kernel,by decide +kernel⟩
noncomputable abbrev yM:bP:=top 23
noncomputable abbrev IT:List aB:=["thing","lines","alternative"]
noncomputable abbrev yP:List aB:=["thing"]
theorem Ais:FnScope IT yP (bJ yM):=⟨rfl,rfl,rfl,by decide +kernel,rfl,by decide +kernel,by decide +kernel⟩
noncomputable abbrev HY:bP:=top 24
noncomputable abbrev My:List aB:=["lines","names","line","term"]
noncomputable abbrev xW:List aB:=["lines"]
theorem Amz:FnScope My xW (bJ HY):=⟨rfl,rfl,rfl,by decide +kernel,rfl,by decide +kernel,by decide +kernel⟩
noncomputable abbrev CK:bP:=top 25
noncomputable abbrev UB:List aB:=["lines"]
noncomputable abbrev yG:List aB:=["lines"]
theorem Ali:FnScope UB yG (bJ CK):=⟨rfl,rfl,rfl,by decide +kernel,rfl,by decide +kernel,by decide +kernel⟩
noncomputable abbrev CP:bP:=top 28
noncomputable abbrev UH:List aB:=["words"]
noncomputable abbrev vB:List aB:=["words"]
theorem Ajd:FnScope UH vB (bJ CP):=⟨rfl,rfl,rfl,by decide +kernel,rfl,by decide +kernel,by decide +kernel⟩
noncomputable abbrev IH:bP:=top 29
noncomputable abbrev Of:List aB:=["line"]
noncomputable abbrev yE:List aB:=["line"]
theorem Ak7:FnScope Of yE (bJ IH):=⟨rfl,rfl,rfl,by decide +kernel,rfl,by decide +kernel,by decide +kernel⟩
noncomputable abbrev DB:bP:=top 30
noncomputable abbrev UU:List aB:=["alternative","head"]
noncomputable abbrev yZ:List aB:=["alternative"]
theorem Afw:FnScope UU yZ (bJ DB):=⟨rfl,rfl,rfl,by decide +kernel,rfl,by decide +kernel,by decide +kernel⟩
noncomputable abbrev CV:bP:=top 31
noncomputable abbrev UT:List aB:=["question"]
noncomputable abbrev vD:List aB:=["question"]
theorem Ahu:FnScope UT vD (bJ CV):=⟨rfl,rfl,rfl,by decide +kernel,rfl,by decide +kernel,by decide +kernel⟩
noncomputable abbrev CG:bP:=top 32
noncomputable abbrev SU:List aB:=["word","figures"]
noncomputable abbrev xX:List aB:=["word"]
theorem Ane:FnScope SU xX (bJ CG):=⟨rfl,rfl,rfl,by decide +kernel,rfl,by decide +kernel,by decide +kernel⟩
noncomputable abbrev HR:bP:=top 33
noncomputable abbrev Kp:List aB:=["word","number"]
noncomputable abbrev xT:List aB:=["word"]
theorem Ao3:FnScope Kp xT (bJ HR):=⟨rfl,rfl,rfl,by decide +kernel,rfl,by decide +kernel,by decide +kernel⟩
noncomputable abbrev CF:bP:=top 34
noncomputable abbrev SI:List aB:=["words"]
noncomputable abbrev uP:List aB:=["words"]
theorem Amt:FnScope SI uP (bJ CF):=⟨rfl,rfl,rfl,by decide +kernel,rfl,by decide +kernel,by decide +kernel⟩
noncomputable abbrev HJ:bP:=top 35
noncomputable abbrev Kn:List aB:=["text","words"]
noncomputable abbrev xR:List aB:=["text"]
theorem An6:FnScope Kn xR (bJ HJ):=⟨rfl,rfl,rfl,by decide +kernel,rfl,by decide +kernel,by decide +kernel⟩
noncomputable abbrev CZ:bP:=top 36
noncomputable abbrev UR:List aB:=["text","parts","head"]
noncomputable abbrev yW:List aB:=["text"]
theorem Ag5:FnScope UR yW (bJ CZ):=⟨rfl,rfl,rfl,by decide +kernel,rfl,by decide +kernel,by decide +kernel⟩
noncomputable abbrev CQ:bP:=top 37
noncomputable abbrev UM:List aB:=["text"]
noncomputable abbrev yO:List aB:=["text"]
theorem Ail:FnScope UM yO (bJ CQ):=⟨rfl,rfl,rfl,by decide +kernel,rfl,by decide +kernel,by decide +kernel⟩
noncomputable abbrev HC:bP:=top 38
noncomputable abbrev Wt:List aB:=["text","thing_of","is_one","show","thing"]
noncomputable abbrev xV:List aB:=["text","thing_of","is_one","show"]
theorem Ao9:FnScope Wt xV (bJ HC):=⟨rfl,rfl,rfl,by decide +kernel,rfl,by decide +kernel,by decide +kernel⟩
noncomputable abbrev IW:bP:=top 39
noncomputable abbrev Qg:List aB:=["text"]
noncomputable abbrev yT:List aB:=["text"]
theorem Ahs:FnScope Qg yT (bJ IW):=⟨rfl,rfl,rfl,by decide +kernel,rfl,by decide +kernel,by decide +kernel⟩
noncomputable abbrev IG:bP:=top 41
noncomputable abbrev Om:List aB:=["_law_script","_law_k","_law_number"]
noncomputable abbrev rZ:List aB:=["_law_script","_law_k"]
theorem Ak2:FnScope Om rZ (bJ IG):=⟨rfl,rfl,rfl,by decide +kernel,rfl,by decide +kernel,by decide +kernel⟩
noncomputable abbrev IE:bP:=top 42
noncomputable abbrev Ly:List aB:=["_law_cell_here","_law_k","_law_number"]
noncomputable abbrev nL:List aB:=["_law_cell_here","_law_k"]
theorem Al5:FnScope Ly nL (bJ IE):=⟨rfl,rfl,rfl,by decide +kernel,rfl,by decide +kernel,by decide +kernel⟩
noncomputable abbrev vC:bP:=top 43
noncomputable abbrev CO:List aB:=["_law_cell_here","_law_count","_law_signs","_law_size","_law_base","_law_at","_law_found","_law_k"]
noncomputable abbrev uY:List aB:=["_law_cell_here","_law_count"]
theorem Ajp:FnScope CO uY (bJ vC):=⟨rfl,rfl,rfl,by decide +kernel,rfl,by decide +kernel,by decide +kernel⟩
noncomputable abbrev IU:bP:=top 44
noncomputable abbrev Qb:List aB:=["_law_cell_here","_law_count","_law_found","_law_name"]
noncomputable abbrev yR:List aB:=["_law_cell_here","_law_count"]
theorem Aip:FnScope Qb yR (bJ IU):=⟨rfl,rfl,rfl,by decide +kernel,rfl,by decide +kernel,by decide +kernel⟩
noncomputable abbrev IR:bP:=top 45
noncomputable abbrev Oq:List aB:=["_law_cell_here","_law_names_here","_law_number"]
noncomputable abbrev yJ:List aB:=["_law_cell_here","_law_names_here"]
theorem Ak9:FnScope Oq yJ (bJ IR):=⟨rfl,rfl,rfl,by decide +kernel,rfl,by decide +kernel,by decide +kernel⟩
noncomputable abbrev yS:bP:=top 46
noncomputable abbrev IJ:List aB:=["_law_script","_law_start","_law_tables_here","_law_names_here","_law_count","_law_lines_here","_law_at","_law_k","_law_number","_law_table","_law_terms"]
noncomputable abbrev yI:List aB:=["_law_script","_law_start","_law_tables_here","_law_names_here","_law_count"]
theorem Ajo:FnScope IJ yI (bJ yS):=⟨rfl,rfl,rfl,by decide +kernel,rfl,by decide +kernel,by decide +kernel⟩
noncomputable abbrev IZ:bP:=top 47
noncomputable abbrev Qw:List aB:=["_law_script","_law_start","_law_tables_here","_law_names_here","_law_size","_law_cell_here","_law_count","_law_lines_here","_law_flat","_law_line","_law_head","_law_k"]
noncomputable abbrev yY:List aB:=["_law_script","_law_start","_law_tables_here","_law_names_here","_law_size"]
theorem Af7:FnScope Qw yY (bJ IZ):=⟨rfl,rfl,rfl,by decide +kernel,rfl,by decide +kernel,by decide +kernel⟩
noncomputable abbrev II:bP:=top 48
noncomputable abbrev Oa:List aB:=["_law_term_here","_law_text_here","_law_left"]
noncomputable abbrev yC:List aB:=["_law_term_here"]
theorem Ak5:FnScope Oa yC (bJ II):=⟨rfl,rfl,rfl,by decide +kernel,rfl,by decide +kernel,by decide +kernel⟩
noncomputable abbrev IM:bP:=top 49
noncomputable abbrev Nx:List aB:=["_law_question","_law_text_here","_law_k","_law_term_here","_law_j","_law_line"]
noncomputable abbrev yB:List aB:=["_law_question"]
theorem Ald:FnScope Nx yB (bJ IM):=⟨rfl,rfl,rfl,by decide +kernel,rfl,by decide +kernel,by decide +kernel⟩
noncomputable abbrev IS:bP:=top 50
noncomputable abbrev Nm:List aB:=["_law_found","_law_question","_law_head","_law_lines_here","_law_line","_law_term_here"]
noncomputable abbrev yF:List aB:=["_law_found","_law_question"]
theorem Alh:FnScope Nm yF (bJ IS):=⟨rfl,rfl,rfl,by decide +kernel,rfl,by decide +kernel,by decide +kernel⟩
noncomputable abbrev rJ:bP:=top 51
noncomputable abbrev Cb:List aB:=["_law_script","_law_first","_law_names_here","_law_tables_here","_law_size","_law_question","_law_k","_law_kept","_law_text_here","_law_found"]
noncomputable abbrev MU:List aB:=["_law_script"]
theorem A8w:FnScope Cb MU (bJ rJ):=⟨rfl,rfl,rfl,by decide +kernel,rfl,by decide +kernel,by decide +kernel⟩
structure Blt (mg:aB->Option aE):Prop where
 «isinstance» : mg "isinstance" = none
 «int» : mg "int" = none
 «bool» : mg "bool" = none
 «abs» : mg "abs" = none
 «range» : mg "range" = none
 «len» : mg "len" = none
 «str» : mg "str" = none
 «all» : mg "all" = none
 «any» : mg "any" = none
 «list» : mg "list" = none
 «tuple» : mg "tuple" = none
 «dict» : mg "dict" = none
 «set» : mg "set" = none
 «sorted» : mg "sorted" = none
 «sum» : mg "sum" = none
 «min» : mg "min" = none
 «max» : mg "max" = none
 «enumerate» : mg "enumerate" = none
 «zip» : mg "zip" = none
 «reversed» : mg "reversed" = none
 «ValueError» : mg "ValueError" = none
structure Cst (mg:aB->Option aE):Prop where
 LETTERS : ∃ t,mg "LETTERS" = some (.str "abcdefghijklmnopqrstuvwxyz" t)
 FIGURES : ∃ t,mg "FIGURES" = some (.str "0123456789" t)
 MOST_SIGNS : ∃ t,mg "MOST_SIGNS" = some (.int 12 t)
 MOST_TERMS : ∃ t,mg "MOST_TERMS" = some (.int 6 t)
 MOST_HEAD_TERMS : ∃ t,mg "MOST_HEAD_TERMS" = some (.int 4 t)
 MOST_LINES : ∃ t,mg "MOST_LINES" = some (.int 5 t)
 MOST_ALTERNATIVES : ∃ t,mg "MOST_ALTERNATIVES" = some (.int 3 t)
 MOST_FIGURES : ∃ t,mg "MOST_FIGURES" = some (.int 70 t)
structure Xcs (K:aK)(mg:aB->Option aE):Prop where
 r_NoText:MC K "NoText"
 f_show_question:wX K "show_question"
 f_is_question:wX K "is_question"
 f_question_of:wX K "question_of"
set_option maxHeartbeats 4000000
variable {P:bQ}{w:bB}{K:aK}{mg:aB->Option aE}{base:aW}{f:aD}{fd:fX}
noncomputable def Lx:SF:=(bX 0 .s (lM (eUn (eQ "int") (aC 0)) (LR (eUn (eQ "bool") (aC 0)))))
noncomputable def uR:List aA->Option aA:=fnD 1 1 Lx
theorem Ou (F:Fun K "is_whole" "is_whole" IA f fd)(B:Blt mg)(C:Cst mg)(V:Xcs K mg):FnOk P w K mg base CX0 1 f fd yA (spF K 0 uR):=by
 have nd:=Am8.nd
 exact dR F Am8 rfl (by decide) fun cdv A outer s H E P0 hr=>by
  have hu:=dF hr
  have hv:=dG hr
  exact(bF (cG .s (oK (jM (T:="int") rfl B.isinstance rfl B.int YN (by decide) (aH 0)) (oQ (Eu (jM (T:="bool") rfl B.isinstance rfl B.bool YO (by decide) (aH 0)))))))
noncomputable def Wl:SF:=(aZ (sIf .s (bOr (eA (bOf (eUn (eQ "str") (aC 0)))) (eA (bOf (jX gLe gLe (eC (.int 1)) (aL cB (aF (aC 0) aJ)) (eC (.int 12)))))) (bX 0 .s (eC (.bool false))) cZ)
 (bX 0 .s (lM (eOp (gIn false) (eOp gIx (aC 0) (eC (.int 0))) (eC (.str "abcdefghijklmnopqrstuvwxyz"))) (aL kQ (aF (eLC [none] (iIt (aC 0)) (gB 0) cX (eOp (gIn false) (aC 0) (eOp bS (eC (.str "abcdefghijklmnopqrstuvwxyz")) (eC (.str "0123456789"))))) aJ)))))
noncomputable def lT:List aA->Option aA:=fnD 1 1 Wl
theorem Mi (F:Fun K "is_name" "is_name" BX f fd)(B:Blt mg)(C:Cst mg)(V:Xcs K mg):FnOk P w K mg base CX0 1 f fd uK (spF K 0 lT):=by
 obtain⟨_,h_FIGURES⟩:=C.FIGURES
 obtain⟨_,h_LETTERS⟩:=C.LETTERS
 obtain⟨_,h_MOST_SIGNS⟩:=C.MOST_SIGNS
 have nd:=Aou.nd
 exact dR F Aou rfl (by decide) fun cdv A outer s H E P0 hr=>by
  have hu:=dF hr
  have hv:=dG hr
  exact(bG (dZ .s (lL (mK (jL (gY (jM (T:="str") rfl B.isinstance rfl B.str vZ (by decide) (aH 0)))) (oP (jL (GV (Ath.or rV) (Ath.or rV) rM rM aP (eO gG gH rfl B.len gP (aM (aH 0) aQ)) (uE (i:=12) rfl h_MOST_SIGNS ⟨_,rfl⟩)))))) (bF (cG .s kS)) eD)
   (bF (cG .s (oK (nF (BS hu) AL (cM hv (aH 0) aP (fun _ _=>rfl)) (BL (i:="abcdefghijklmnopqrstuvwxyz") rfl h_LETTERS ⟨_,rfl⟩) (by with_unfolding_all rfl)) (oQ (eO (uL rfl) uN rfl B.all boot_all (aM (eM (n:=1) (iB rfl (gO (N:=["sign"]) (cap:=[none]) (out:=(bJ BX).names) (XN:=QC) rfl rfl (by decide +kernel) rfl) gL (fC (aH 0)) (fun cl C s₀ H₀ ex=>⟨gM (j:=0) (show(["sign"]:List aB).Nodup by decide +kernel) rfl (aU rfl),gZ,(nF (BS hu) AL (aH 0) (dC (BL (i:="abcdefghijklmnopqrstuvwxyz") rfl h_LETTERS ⟨_,rfl⟩) (BL (i:="0123456789") rfl h_FIGURES ⟨_,rfl⟩)) (by with_unfolding_all rfl))⟩))) aQ)))))))
noncomputable def Wg:SF:=(bX 0 .s (lM (eUn (eQ "tuple") (aC 0)) (eOp gEq (aL cB (aF (aC 0) aJ)) (eC (.int 2)))))
noncomputable def qB:List aA->Option aA:=fnD 1 1 Wg
theorem Lh (F:Fun K "is_pair" "is_pair" HX f fd)(B:Blt mg)(C:Cst mg)(V:Xcs K mg):FnOk P w K mg base CX0 1 f fd uG (spF K 0 qB):=by
 have nd:=Aot.nd
 exact dR F Aot rfl (by decide) fun cdv A outer s H E P0 hr=>by
  have hu:=dF hr
  have hv:=dG hr
  exact(bF (cG .s (oK (jM (T:="tuple") rfl B.isinstance rfl B.tuple sM (by decide) (aH 0)) (oQ (nF (jN hu) jO (eO gG gH rfl B.len gP (aM (aH 0) aQ)) aP (dX _))))))
noncomputable def Qm:SF:=(bX 0 .s (eOp gLe (aL GQ (aF (eLC [none] (iIt (aC 0)) (gB 0) cX (aL cB (aF (aC 0) aJ))) aJ)) (eC (.int 1))))
noncomputable def yU:List aA->Option aA:=fnD 1 1 Qm
theorem Qp (F:Fun K "of_one_length" "of_one_length" CU f fd)(B:Blt mg)(C:Cst mg)(V:Xcs K mg):FnOk P w K mg base CX0 1 f fd yV (spF K 0 yU):=by
 have nd:=Ahq.nd
 exact dR F Ahq rfl (by decide) fun cdv A outer s H E P0 hr=>by
  have hu:=dF hr
  have hv:=dG hr
  exact(bF (cG .s (nF (Ath.or rV) rM (SH rfl rfl B.len rfl B.set (eM (n:=1) (iB rfl (gO (N:=["thing"]) (cap:=[none]) (out:=(bJ CU).names) (XN:=US) rfl rfl (by decide +kernel) rfl) gL (fC (aH 0)) (fun cl C s₀ H₀ ex=>⟨gM (j:=0) (show(["thing"]:List aB).Nodup by decide +kernel) rfl (aU rfl),gZ,(eO gG gH rfl B.len gP (aM (aH 0) aQ))⟩)))) aP (dX _))))
noncomputable def Mo:SF:=(aZ (bL 1 1 .s (eC (.dict [])))
 (aZ (eR .s (iIt (aC 0)) (gNm 2) (eR .s (iIt (eOp gIx (aC 2) (eC (.int 1)))) (gNm 3) (sIf .s (bOf (eUn (eQ "str") (aC 3))) (DU 1 .s (eC (.bool true)) .s (aC 3)) cZ)))
 (nQ 1 (bX 1 .s (aL JL (aF (aC 1) aJ))))))
noncomputable def uQ:List aA->Option aA:=fnD 1 4 Mo
theorem Oh (F:Fun K "names_of" "names_of" HY f fd)(B:Blt mg)(C:Cst mg)(V:Xcs K mg):FnOk P w K mg base CX0 1 f fd xW (spF K 1 uQ):=by
 have nd:=Amz.nd
 exact dR F Amz rfl (by decide) fun cdv A outer s H E P0 hr=>by
  have hu:=dF hr
  have hv:=dG hr
  exact(bG (cH (i:=1) 1 .s nd rfl (by first | exact aU rfl | exact bA rfl) Hv)
   (bG (mO jB rfl (fC (aH 0)) (jD (i:=2) nd rfl (by first | exact aU rfl | exact bA rfl)) (bF (mO jB rfl (fC (cM hv (aH 2) aP (fun _ _=>rfl))) (jD (i:=3) nd rfl (by first | exact aU rfl | exact bA rfl)) (bF (dZ .s (gY (jM (T:="str") rfl B.isinstance rfl B.str vZ (by decide) (aH 3))) (bF (Gy 1 .s .s hv kS (aH 3))) eD)))))
   (pX 1 (bF (cG .s (nK (Mj rfl) Od rfl B.list KC (aM (aH 1) aQ)))))))
noncomputable def Oo:SF:=(bX 0 .s (aL RA (aF (eLC [none] (iIt (aC 0)) (gB 0) cX (gV (aF (eOp gIx (aC 0) (eC (.int 0))) (aF (aL cB (aF (eOp gIx (aC 0) (eC (.int 1))) aJ)) aJ)))) aJ)))
noncomputable def uS:List aA->Option aA:=fnD 1 1 Oo
theorem Pf (F:Fun K "tables_of" "tables_of" CK f fd)(B:Blt mg)(C:Cst mg)(V:Xcs K mg):FnOk P w K mg base CX0 1 f fd yG (spF K 0 uS):=by
 have nd:=Ali.nd
 exact dR F Ali rfl (by decide) fun cdv A outer s H E P0 hr=>by
  have hu:=dF hr
  have hv:=dG hr
  exact(bF (cG .s (eM (n:=1) (Oc rfl hv rfl B.sorted rfl B.set (eM (n:=1) (iB rfl (gO (N:=["line"]) (cap:=[none]) (out:=(bJ CK).names) (XN:=UB) rfl rfl (by decide +kernel) rfl) gL (fC (aH 0)) (fun cl C s₀ H₀ ex=>⟨gM (j:=0) (show(["line"]:List aB).Nodup by decide +kernel) rfl (aU rfl),gZ,(kW (aM (cM hv (aH 0) aP (fun _ _=>rfl)) (aM (eO gG gH rfl B.len gP (aM (cM hv (aH 0) aP (fun _ _=>rfl)) aQ)) aQ)))⟩)))))))
noncomputable def Pd:SF:=(bX 0 .s (eOp mJ (eC (.str " ")) (eLC [none] (iIt (aC 0)) (gB 0) cX (aL zB (aF (aC 0) aJ)))))
noncomputable def sA:List aA->Option aA:=fnD 1 1 Pd
theorem Qc (F:Fun K "show_words" "show_words" CP f fd)(B:Blt mg)(C:Cst mg)(V:Xcs K mg):FnOk P w K mg base CX0 1 f fd vB (spF K 0 sA):=by
 have nd:=Ajd.nd
 exact dR F Ajd rfl (by decide) fun cdv A outer s H E P0 hr=>by
  have hu:=dF hr
  have hv:=dG hr
  exact(bF (cG .s (xI eT (eM (n:=1) (iB rfl (gO (N:=["word"]) (cap:=[none]) (out:=(bJ CP).names) (XN:=UH) rfl rfl (by decide +kernel) rfl) gL (fC (aH 0)) (fun cl C s₀ H₀ ex=>⟨gM (j:=0) (show(["word"]:List aB).Nodup by decide +kernel) rfl (aU rfl),gZ,(nK Wd Mx rfl B.str vZ (aM (aH 0) aQ))⟩))))))
noncomputable def Mk:SF:=(aZ (bL 1 0 .s (eIf (bOf (eOp BH (aC 0) (eC (.str "-")))) (eSl (aC 0) (oS (eC (.int 1))) oN) (aC 0)))
 (aZ (sIf .s (bOr (eA (bOf (jX gLe gLe (eC (.int 1)) (aL cB (aF (aC 1) aJ)) (eC (.int 70))))) (eA (bOf (aL kQ (aF (eLC [none] (iIt (aC 1)) (gB 0) cX (eOp (gIn false) (aC 0) (eC (.str "0123456789")))) aJ))))) (bX 0 .s (eC .none)) cZ)
 (bX 0 .s (aL FU (aF (aC 0) aJ)))))
noncomputable def uO:List aA->Option aA:=fnD 1 2 Mk
theorem Nr (F:Fun K "whole_of" "whole_of" CG f fd)(B:Blt mg)(C:Cst mg)(V:Xcs K mg):FnOk P w K mg base CX0 1 f fd xX (spF K 0 uO):=by
 obtain⟨_,h_FIGURES⟩:=C.FIGURES
 obtain⟨_,h_MOST_FIGURES⟩:=C.MOST_FIGURES
 have nd:=Ane.nd
 exact dR F Ane rfl (by decide) fun cdv A outer s H E P0 hr=>by
  have hu:=dF hr
  have hv:=dG hr
  exact(bG (cH (i:=1) 0 .s nd rfl (by first | exact aU rfl | exact bA rfl) (OW (gY (Lf (aH 0) eT)) (MV (aH 0) (xF aP) xG) (aH 0)))
   (bG (dZ .s (lL (mK (jL (GV (Ath.or rV) (Ath.or rV) rM rM aP (eO gG gH rfl B.len gP (aM (aH 1) aQ)) (uE (i:=70) rfl h_MOST_FIGURES ⟨_,rfl⟩))) (oP (jL (gY (eO (uL rfl) uN rfl B.all boot_all (aM (eM (n:=1) (iB rfl (gO (N:=["sign"]) (cap:=[none]) (out:=(bJ CG).names) (XN:=SU) rfl rfl (by decide +kernel) rfl) gL (fC (aH 1)) (fun cl C s₀ H₀ ex=>⟨gM (j:=0) (show(["sign"]:List aB).Nodup by decide +kernel) rfl (aU rfl),gZ,(nF (BS hu) AL (aH 0) (BL (i:="0123456789") rfl h_FIGURES ⟨_,rfl⟩) (by with_unfolding_all rfl))⟩))) aQ))))))) (bF (cG .s VV)) eD)
   (bF (cG .s (nK Kz Mt rfl B.int YN (aM (aH 0) aQ))))))
noncomputable def CM:SF:=(aZ (sIf .s (bOf (eOp gLt (aC 1) (aL cB (aF (aC 0) aJ)))) (bX 0 .s (eOp gIx (aC 0) (aC 1))) cZ)
 (aZ (bL 2 0 .s (eOp bS (eOp fN (aC 1) (eC (.int 7919))) (eC (.int 5))))
 (aZ (sIf .s (bOf (eOp gGt (aL cB (aF (aC 0) aJ)) (eC (.int 0)))) (bL 2 0 .s (eOp bT (eOp bS (eOp fN (eOp gIx (aC 0) (eOp bT (eOp fN (aC 1) (eC (.int 7))) (aL cB (aF (aC 0) aJ)))) (eC (.int 48271))) (eOp fN (aC 1) (eC (.int 7919)))) (eC (.int 2147483647)))) cZ)
 (bX 0 .s (eOp bT (eOp fN (aC 2) (aC 2)) (eC (.int 2147483629)))))))
noncomputable def iP:List aA->Option aA:=fnD 2 3 CM
theorem Pi (F:Fun K "_law_cell" "_law_cell" IG f fd)(B:Blt mg)(C:Cst mg)(V:Xcs K mg):FnOk P w K mg base CX0 1 f fd rZ (spF K 0 iP):=by
 have nd:=Ak2.nd
 exact dR F Ak2 rfl (by decide) fun cdv A outer s H E P0 hr=>by
  have hu:=dF hr
  have hv:=dG hr
  exact(bG (dZ .s (eW (A4f.or BZ) AM (aH 1) (eO gG gH rfl B.len gP (aM (aH 0) aQ)) (dX _)) (bF (cG .s (cM hv (aH 0) (aH 1) (fun _ _=>rfl)))) eD)
   (bG (cH (i:=2) 0 .s nd rfl (by first | exact aU rfl | exact bA rfl) (dC (kY (aH 1) aP) aP))
   (bG (dZ .s (eW nC nE (eO gG gH rfl B.len gP (aM (aH 0) aQ)) aP (dX _)) (bF (cH (i:=2) 0 .s nd rfl (by first | exact aU rfl | exact bA rfl) (eI (dC (kY (cM hv (aH 0) (eI (kY (aH 1) aP) (eO gG gH rfl B.len gP (aM (aH 0) aQ))) (fun _ _=>rfl)) aP) (kY (aH 1) aP)) aP))) eD)
   (bF (cG .s (eI (kY (aH 2) (aH 2)) aP))))))
noncomputable def TK:SF:=(aZ (bL 2 0 .s (eOp bT (eOp bS (eOp bS (eOp bS (eOp fN (eOp bT (aC 0) (eC (.int 2147483647))) (eC (.int 48271))) (eOp fN (eOp fN (aC 1) (aC 1)) (eC (.int 69621)))) (aC 1)) (eC (.int 11))) (eC (.int 2147483629))))
 (bX 0 .s (eOp bT (eOp fN (aC 2) (aC 2)) (eC (.int 2147483587)))))
noncomputable def dW:List aA->Option aA:=fnD 2 3 TK
theorem Ol (F:Fun K "_law_mix" "_law_mix" IE f fd)(B:Blt mg)(C:Cst mg)(V:Xcs K mg):FnOk P w K mg base CX0 1 f fd nL (spF K 0 dW):=by
 have nd:=Al5.nd
 exact dR F Al5 rfl (by decide) fun cdv A outer s H E P0 hr=>by
  have hu:=dF hr
  have hv:=dG hr
  exact(bG (cH (i:=2) 0 .s nd rfl (by first | exact aU rfl | exact bA rfl) (eI (dC (dC (dC (kY (eI (aH 0) aP) aP) (kY (kY (aH 1) (aH 1)) aP)) (aH 1)) aP) aP))
   (bF (cG .s (eI (kY (aH 2) (aH 2)) aP))))
noncomputable def Np:SF:=(aZ (sIf .s (bOf (eUn (eQ "str") (aC 0))) (bX 0 .s (aC 0)) cZ)
 (aZ (bL 1 0 .s (eC (.str "")))
 (aZ (bL 2 0 .s (aL AH (aF (aC 0) aJ)))
 (aZ (whD .s (bOr (bOf (eOp gGt (aC 2) (eC (.int 0)))) (bOf (eOp gEq (aC 1) (eC (.str ""))))) (aZ (bL 1 0 .s (eOp bS (eOp gIx (eC (.str "0123456789")) (eOp bT (aC 2) (eC (.int 10)))) (aC 1)))
 (bL 2 0 .s (eOp iC (aC 2) (eC (.int 10))))) 1000)
 (aZ (sIf .s (bOf (eOp gLt (aC 0) (eC (.int 0)))) (bX 0 .s (eOp bS (eC (.str "-")) (aC 1))) cZ)
 (bX 0 .s (aC 1)))))))
noncomputable def oW:List aA->Option aA:=fnD 1 3 Np
theorem Pu (F:Fun K "_law_word" "_law_word" II f fd)(B:Blt mg)(C:Cst mg)(V:Xcs K mg):FnOk P w K mg base CX0 1 f fd yC (spF K 0 oW):=by
 have nd:=Ak5.nd
 exact dR F Ak5 rfl (by decide) fun cdv A outer s H E P0 hr=>by
  have hu:=dF hr
  have hv:=dG hr
  exact(bG (dZ .s (gY (jM (T:="str") rfl B.isinstance rfl B.str vZ (by decide) (aH 0))) (bF (cG .s (aH 0))) eD)
   (bG (cH (i:=1) 0 .s nd rfl (by first | exact aU rfl | exact bA rfl) eT)
   (bG (cH (i:=2) 0 .s nd rfl (by first | exact aU rfl | exact bA rfl) (eO OH RH rfl B.abs boot_abs (aM (aH 0) aQ)))
   (bG (Ub .s 1000 jB (lL (mK (eW nC nE (aH 2) aP (dX _)) (oP (eW (jN hu) jO (aH 1) eT (dX _))))) (bG (cH (i:=1) 0 .s nd rfl (by first | exact aU rfl | exact bA rfl) (dC (cM hv eT (eI (aH 2) aP) (fun _ _=>rfl)) (aH 1)))
   (bF (cH (i:=2) 0 .s nd rfl (by first | exact aU rfl | exact bA rfl) (rR (aH 2) aP)))))
   (bG (dZ .s (eW (A4f.or BZ) AM (aH 0) aP (dX _)) (bF (cG .s (dC eT (aH 1)))) eD)
   (bF (cG .s (aH 1))))))))
noncomputable def Nu:SF:=(aZ (sIf .s (bOr (eA (bOf (eUn (eQ "list") (aC 0)))) (bOf (eOp gNe (aC 0) (aC 1)))) (bX 0 .s (eC (.bool false))) cZ)
 (aZ (eR .s (iIt (aC 0)) (FT 2 3) (aZ (eR .s (iIt (aC 3)) (gNm 4) (eR .s (iIt (eOp gIx (aC 4) (eC (.int 1)))) (gNm 5) (sIf .s (bOf (eUn (eQ "bool") (aC 5))) (bX 0 .s (eC (.bool false))) cZ)))
 (eR .s (iIt (aC 2)) (gNm 5) (sIf .s (bOf (eUn (eQ "bool") (aC 5))) (bX 0 .s (eC (.bool false))) cZ))))
 (bX 0 .s (eC (.bool true)))))
noncomputable def sC:List aA->Option aA:=fnD 2 6 Nu
theorem Pg (F:Fun K "_law_same" "_law_same" IS f fd)(B:Blt mg)(C:Cst mg)(V:Xcs K mg):FnOk P w K mg base CX0 1 f fd yF (spF K 0 sC):=by
 have nd:=Alh.nd
 exact dR F Alh rfl (by decide) fun cdv A outer s H E P0 hr=>by
  have hu:=dF hr
  have hv:=dG hr
  exact(bG (dZ .s (lL (mK (jL (gY (jM (T:="list") rfl B.isinstance rfl B.list KC (by decide) (aH 0)))) (oP (eW (FW hu) FY (aH 0) (aH 1) (dX _))))) (bF (cG .s kS)) eD)
   (bG (mO jB rfl (fC (aH 0)) (Gp (i:=2) (j:=3) rfl nd rfl rfl (by first | exact aU rfl | exact bA rfl) (by first | exact aU rfl | exact bA rfl)) (bG (mO jB rfl (fC (aH 3)) (jD (i:=4) nd rfl (by first | exact aU rfl | exact bA rfl)) (bF (mO jB rfl (fC (cM hv (aH 4) aP (fun _ _=>rfl))) (jD (i:=5) nd rfl (by first | exact aU rfl | exact bA rfl)) (bF (dZ .s (gY (jM (T:="bool") rfl B.isinstance rfl B.bool YO (by decide) (aH 5))) (bF (cG .s kS)) eD)))))
   (bF (mO jB rfl (fC (aH 2)) (jD (i:=5) nd rfl (by first | exact aU rfl | exact bA rfl)) (bF (dZ .s (gY (jM (T:="bool") rfl B.isinstance rfl B.bool YO (by decide) (aH 5))) (bF (cG .s kS)) eD))))))
   (bF (cG .s kS))))
noncomputable def Nj:SF:=(bX 0 .s (lM (aL uR (aF (aC 0) aJ)) (eOp gLt (aL AH (aF (aC 0) aJ)) (eOp oY (eC (.int 10)) (eC (.int 60))))))
noncomputable def yL:List aA->Option aA:=fnD 1 1 Nj
theorem Pb (F:Fun K "is_number" "is_number" IL f fd)(B:Blt mg)(C:Cst mg)(V:Xcs K mg)(D_is_whole:Def P w K mg base "is_whole" 1 yA (spF K 0 uR)):FnOk P w K mg base CX0 2 f fd xY (spF K 0 yL):=by
 have nd:=Ale.nd
 exact dR F Ale rfl (by decide) fun cdv A outer s H E P0 hr=>by
  have hu:=dF hr
  have hv:=dG hr
  exact(bF (cG .s (oK (bU D_is_whole (hr.mono (by decide)) rfl (aM (aH 0) aQ)) (oQ (nF (A4f.or BZ) AM (eO OH RH rfl B.abs boot_abs (aM (aH 0) aQ)) (AU aP aP) (dX _))))))
noncomputable def Qj:SF:=(aZ (bL 1 0 .s (aL uS (aF (aC 0) aJ)))
 (bX 0 .s (eOp gEq (aL cB (aF (aC 1) aJ)) (aL GQ (aF (eLC [none] (iIt (aC 1)) (gB 0) cX (eOp gIx (aC 0) (eC (.int 0)))) aJ)))))
noncomputable def qI:List aA->Option aA:=fnD 1 2 Qj
theorem Qe (F:Fun K "of_one_width" "of_one_width" CW f fd)(B:Blt mg)(C:Cst mg)(V:Xcs K mg)(D_tables_of:Def P w K mg base "tables_of" 1 yG (spF K 0 uS)):FnOk P w K mg base CX0 2 f fd vE (spF K 0 qI):=by
 have nd:=Ah6.nd
 exact dR F Ah6 rfl (by decide) fun cdv A outer s H E P0 hr=>by
  have hu:=dF hr
  have hv:=dG hr
  exact(bG (cH (i:=1) 0 .s nd rfl (by first | exact aU rfl | exact bA rfl) (bU D_tables_of (hr.mono (by decide)) rfl (aM (aH 0) aQ)))
   (bF (cG .s (nF (jN hu) jO (eO gG gH rfl B.len gP (aM (aH 1) aQ)) (SH rfl rfl B.len rfl B.set (eM (n:=1) (iB rfl (gO (N:=["width"]) (cap:=[none]) (out:=(bJ CW).names) (XN:=UO) rfl rfl (by decide +kernel) rfl) gL (fC (aH 1)) (fun cl C s₀ H₀ ex=>⟨gM (j:=0) (show(["width"]:List aB).Nodup by decide +kernel) rfl (aU rfl),gZ,(cM hv (aH 0) aP (fun _ _=>rfl))⟩)))) (dX _)))))
noncomputable def Nq:SF:=(aZ (bL 2 0 .s (aL uQ (aF (aC 1) aJ)))
 (bX 0 .s (aL kQ (aF (eLC [none,some 2] (iIt (aC 0)) (gB 0) (bOf (eUn (eQ "str") (aC 0))) (eOp (gIn false) (aC 0) (aC 1))) aJ))))
noncomputable def uU:List aA->Option aA:=fnD 2 3 Nq
theorem Ox (F:Fun K "stands_in" "stands_in" CL f fd)(B:Blt mg)(C:Cst mg)(V:Xcs K mg)(D_names_of:Def P w K mg base "names_of" 1 xW (spF K 1 uQ)):FnOk P w K mg base CX0 2 f fd yD (spF K 0 uU):=by
 have nd:=Alj.nd
 exact dR F Alj rfl (by decide) fun cdv A outer s H E P0 hr=>by
  have hu:=dF hr
  have hv:=dG hr
  exact(bG (cH (i:=2) 0 .s nd rfl (by first | exact aU rfl | exact bA rfl) (eM (n:=1) (bU D_names_of (hr.mono (by decide)) rfl (aM (aH 1) aQ))))
   (bF (cG .s (eO (uL rfl) uN rfl B.all boot_all (aM (eM (n:=1) (iB rfl (gO (N:=["term","names"]) (cap:=[none,some 2]) (out:=(bJ CL).names) (XN:=TX) rfl rfl (by decide +kernel) rfl) gL (fC (aH 0)) (fun cl C s₀ H₀ ex=>⟨gM (j:=0) (show(["term","names"]:List aB).Nodup by decide +kernel) rfl (aU rfl),Hc (gY (jM (T:="str") rfl B.isinstance rfl B.str vZ (by decide) (aH 0))),(nF (BS hu) AL (aH 0) (aH 1) (by with_unfolding_all rfl))⟩))) aQ)))))
noncomputable def Oe:SF:=(bX 0 .s (aL sA (aF (eOp tM (gV (aF (eOp gIx (aC 0) (eC (.int 0))) aJ)) (eOp gIx (aC 0) (eC (.int 1)))) aJ)))
noncomputable def uW:List aA->Option aA:=fnD 1 1 Oe
theorem Oy (F:Fun K "show_line" "show_line" IH f fd)(B:Blt mg)(C:Cst mg)(V:Xcs K mg)(D_show_words:Def P w K mg base "show_words" 1 vB (spF K 0 sA)):FnOk P w K mg base CX0 2 f fd yE (spF K 0 uW):=by
 have nd:=Ak7.nd
 exact dR F Ak7 rfl (by decide) fun cdv A outer s H E P0 hr=>by
  have hu:=dF hr
  have hv:=dG hr
  exact(bF (cG .s (bU D_show_words (hr.mono (by decide)) rfl (aM (NF (kW (aM (cM hv (aH 0) aP (fun _ _=>rfl)) aQ)) (cM hv (aH 0) aP (fun _ _=>rfl))) aQ))))
noncomputable def Vg:SF:=(aZ (bL 1 0 .s (aL uO (aF (aC 0) aJ)))
 (bX 0 .s (eIf (bOf (eOp FF (aC 1) (eC .none))) (aC 0) (aC 1))))
noncomputable def uH:List aA->Option aA:=fnD 1 2 Vg
theorem Lr (F:Fun K "term_of" "term_of" HR f fd)(B:Blt mg)(C:Cst mg)(V:Xcs K mg)(D_whole_of:Def P w K mg base "whole_of" 1 xX (spF K 0 uO)):FnOk P w K mg base CX0 2 f fd xT (spF K 0 uH):=by
 have nd:=Ao3.nd
 exact dR F Ao3 rfl (by decide) fun cdv A outer s H E P0 hr=>by
  have hu:=dF hr
  have hv:=dG hr
  exact(bG (cH (i:=1) 0 .s nd rfl (by first | exact aU rfl | exact bA rfl) (bU D_whole_of (hr.mono (by decide)) rfl (aM (aH 0) aQ)))
   (bF (cG .s (OW (eW Fj Gv (aH 1) VV (dX _)) (aH 0) (aH 1)))))
noncomputable def Pk:SF:=(aZ (bL 2 0 .s (eC (.str "abcdefghijklmnopqrstuvwxyz0123456789")))
 (aZ (bL 3 0 .s (eOp bS (eC (.int 1)) (eOp bT (aL dW (aF (aC 0) (aF (eC (.int 1)) aJ))) (eC (.int 12)))))
 (aZ (sIf .s (bOf (eOp gEq (eOp bT (aL dW (aF (aC 0) (aF (eC (.int 2)) aJ))) (eC (.int 3))) (eC (.int 0)))) (bL 3 0 .s (eC (.int 12))) cZ)
 (aZ (bL 4 1 .s (eLC [none,some 2,some 0] (iR1 (aF (aC 3) aJ)) (gB 0) cX (eOp gIx (aC 1) (eOp bT (aL dW (aF (aC 2) (aF (eOp bS (eC (.int 30)) (aC 0)) aJ))) (eC (.int 36))))))
 (aZ (rK 4 .s (eOp gIx (aC 2) (eOp bT (aL dW (aF (aC 0) (aF (eC (.int 50)) aJ))) (eC (.int 26)))) .s (eC (.int 0)))
 (aZ (sIf .s (bOf (eOp gEq (eOp bT (aL dW (aF (aC 0) (aF (eC (.int 2)) aJ))) (eC (.int 3))) (eC (.int 0)))) (bX 1 .a (eLC [none,some 4] (iR1 (aF (aC 1) aJ)) (gB 0) cX (eOp mJ (eC (.str "")) (nR (aC 1) oN (oS (eOp bS (aC 0) (eC (.int 1)))))))) cZ)
 (aZ (bL 5 0 .s (eOp bT (aL dW (aF (aC 0) (aF (eC (.int 3)) aJ))) (aC 3)))
 (aZ (bL 6 1 .s (oZ aJ))
 (aZ (eR .s (iR1 (aF (aC 1) aJ)) (gNm 7) (aZ (rK 4 .s (eOp gIx (aC 2) (eOp bT (eOp bS (aL dW (aF (aC 0) (aF (eC (.int 4)) aJ))) (aC 7)) (eOp bS (eC (.int 26)) (eOp fN (eC (.int 10)) (aL sW (aF (eOp gGt (aC 5) (eC (.int 0))) aJ)))))) .s (aC 5))
 (kO 6 .a (eOp mJ (eC (.str "")) (aC 4)))))
 (nQ 4 (sZ 6 1)))))))))))
noncomputable def qH:List aA->Option aA:=fnD 2 8 Pk
theorem Pq (F:Fun K "_law_names" "_law_names" vC f fd)(B:Blt mg)(C:Cst mg)(V:Xcs K mg)(D__law_mix:Def P w K mg base "_law_mix" 1 nL (spF K 0 dW)):FnOk P w K mg base CX0 2 f fd uY (spF K 1 qH):=by
 have nd:=Ajp.nd
 exact dR F Ajp rfl (by decide) fun cdv A outer s H E P0 hr=>by
  have hu:=dF hr
  have hv:=dG hr
  exact(bG (cH (i:=2) 0 .s nd rfl (by first | exact aU rfl | exact bA rfl) eT)
   (bG (cH (i:=3) 0 .s nd rfl (by first | exact aU rfl | exact bA rfl) (dC aP (eI (bU D__law_mix (hr.mono (by decide)) rfl (aM (aH 0) (aM aP aQ))) aP)))
   (bG (dZ .s (eW (jN hu) jO (eI (bU D__law_mix (hr.mono (by decide)) rfl (aM (aH 0) (aM aP aQ))) aP) aP (dX _)) (bF (cH (i:=3) 0 .s nd rfl (by first | exact aU rfl | exact bA rfl) aP)) eD)
   (bG (by first | exact(PQ (i:=4) .s rfl nd rfl (by first | exact aU rfl | exact bA rfl) (gO (N:=["_law_k","_law_signs","_law_cell_here"]) (cap:=[none,some 2,some 0]) (out:=(bJ vC).names) (XN:=CO) rfl rfl (by decide +kernel) rfl) gL (xB (mT rfl B.range (aM (aH 3) aQ))) (fun cl C s₀ H₀ ex=>⟨gM (j:=0) (show(["_law_k","_law_signs","_law_cell_here"]:List aB).Nodup by decide +kernel) rfl (aU rfl),gZ,(cM hv (aH 1) (eI (bU D__law_mix (hr.mono (by decide)) rfl (aM (aH 2) (aM (dC aP (aH 0)) aQ))) aP) (fun _ _=>rfl))⟩)) | exact(cH (i:=4) 1 .s nd rfl (by first | exact aU rfl | exact bA rfl) (iB rfl (gO (N:=["_law_k","_law_signs","_law_cell_here"]) (cap:=[none,some 2,some 0]) (out:=(bJ vC).names) (XN:=CO) rfl rfl (by decide +kernel) rfl) gL (xB (mT rfl B.range (aM (aH 3) aQ))) (fun cl C s₀ H₀ ex=>⟨gM (j:=0) (show(["_law_k","_law_signs","_law_cell_here"]:List aB).Nodup by decide +kernel) rfl (aU rfl),gZ,(cM hv (aH 1) (eI (bU D__law_mix (hr.mono (by decide)) rfl (aM (aH 2) (aM (dC aP (aH 0)) aQ))) aP) (fun _ _=>rfl))⟩))))
   (bG (GD 4 .s .s (cM hv (aH 2) (eI (bU D__law_mix (hr.mono (by decide)) rfl (aM (aH 0) (aM aP aQ))) aP) (fun _ _=>rfl)) aP)
   (bG (dZ .s (eW (jN hu) jO (eI (bU D__law_mix (hr.mono (by decide)) rfl (aM (aH 0) (aM aP aQ))) aP) aP (dX _)) (bF (cG .a (iB rfl (gO (N:=["_law_k","_law_base"]) (cap:=[none,some 4]) (out:=(bJ vC).names) (XN:=CO) rfl rfl (by decide +kernel) rfl) gL (xB (mT rfl B.range (aM (aH 1) aQ))) (fun cl C s₀ H₀ ex=>⟨gM (j:=0) (show(["_law_k","_law_base"]:List aB).Nodup by decide +kernel) rfl (aU rfl),gZ,(xI eT (eM (n:=1) (JH (aH 1) xG (xF (dC (aH 0) aP)))))⟩)))) eD)
   (bG (cH (i:=5) 0 .s nd rfl (by first | exact aU rfl | exact bA rfl) (eI (bU D__law_mix (hr.mono (by decide)) rfl (aM (aH 0) (aM aP aQ))) (aH 3)))
   (bG (cH (i:=6) 1 .s nd rfl (by first | exact aU rfl | exact bA rfl) (pV aQ))
   (bG (uC .s jB rfl (mT rfl B.range (aM (aH 1) aQ)) (jD (i:=7) nd rfl (by first | exact aU rfl | exact bA rfl)) (bG (GD 4 .s .s (cM hv (aH 2) (eI (dC (bU D__law_mix (hr.mono (by decide)) rfl (aM (aH 0) (aM aP aQ))) (aH 7)) (dC aP (kY aP (nK Wf Ww rfl B.int YN (aM (nF nC nE (aH 5) aP (dX _)) aQ))))) (fun _ _=>rfl)) (aH 5))
   (bF (rW 6 .a (xI eT (aH 4))))))
   (pX 4 (bF (AY 6))))))))))))
end Aw
namespace Aw
open PySem L2
set_option maxHeartbeats 4000000
variable {P:bQ}{w:bB}{K:aK}{mg:aB->Option aE}{base:aW}{f:aD}{fd:fX}
noncomputable def On:SF:=(aZ (bL 2 0 .s (aL dW (aF (aC 0) (aF (eC (.int 7)) aJ))))
 (aZ (sIf .s (bOf (eOp gLt (eOp bT (aC 2) (eC (.int 4))) (eC (.int 3)))) (bX 0 .s (eOp gIx (aC 1) (eOp bT (eOp iC (aC 2) (eC (.int 4))) (aL cB (aF (aC 1) aJ))))) cZ)
 (aZ (sIf .s (bOf (eOp gEq (eOp bT (eOp iC (aC 2) (eC (.int 4))) (eC (.int 2))) (eC (.int 0)))) (bX 0 .s (eOp pT (eOp bT (eOp iC (aC 2) (eC (.int 8))) (eC (.int 3))) (eC (.int 1)))) cZ)
 (bX 0 .s (eOp pT (eOp bT (aC 0) (eOp pT (eOp fN (eC (.int 2)) (eOp oY (eC (.int 10)) (eC (.int 60)))) (eC (.int 1)))) (eOp pT (eOp oY (eC (.int 10)) (eC (.int 60))) (eC (.int 1))))))))
noncomputable def sD:List aA->Option aA:=fnD 2 3 On
theorem Pm (F:Fun K "_law_term" "_law_term" IR f fd)(B:Blt mg)(C:Cst mg)(V:Xcs K mg)(D__law_mix:Def P w K mg base "_law_mix" 1 nL (spF K 0 dW)):FnOk P w K mg base CX0 2 f fd yJ (spF K 0 sD):=by
 have nd:=Ak9.nd
 exact dR F Ak9 rfl (by decide) fun cdv A outer s H E P0 hr=>by
  have hu:=dF hr
  have hv:=dG hr
  exact(bG (cH (i:=2) 0 .s nd rfl (by first | exact aU rfl | exact bA rfl) (bU D__law_mix (hr.mono (by decide)) rfl (aM (aH 0) (aM aP aQ))))
   (bG (dZ .s (eW (A4f.or BZ) AM (eI (aH 2) aP) aP (dX _)) (bF (cG .s (cM hv (aH 1) (eI (rR (aH 2) aP) (eO gG gH rfl B.len gP (aM (aH 1) aQ))) (fun _ _=>rfl)))) eD)
   (bG (dZ .s (eW (jN hu) jO (eI (rR (aH 2) aP) aP) aP (dX _)) (bF (cG .s (wZ (eI (rR (aH 2) aP) aP) aP))) eD)
   (bF (cG .s (wZ (eI (aH 0) (wZ (kY aP (AU aP aP)) aP)) (wZ (AU aP aP) aP)))))))
noncomputable def Pc:SF:=(aZ (sIf .s (bOf (eOp gEq (aL cB (aF (aC 0) aJ)) (eC (.int 0)))) (bX 0 .s (eC (.str "none"))) cZ)
 (aZ (bL 1 0 .s (eC (.str "")))
 (aZ (eR .s (iR1 (aF (aL cB (aF (aC 0) aJ)) aJ)) (gNm 2) (aZ (sIf .s (bOf (eOp gGt (aC 2) (eC (.int 0)))) (bL 1 0 .s (eOp bS (aC 1) (eC (.str " | ")))) cZ)
 (aZ (eR .s (iIt (eOp gIx (eOp gIx (aC 0) (aC 2)) (eC (.int 0)))) (gNm 3) (bL 1 0 .s (eOp bS (eOp bS (aC 1) (aL oW (aF (aC 3) aJ))) (eC (.str " ")))))
 (aZ (bL 1 0 .s (eOp bS (aC 1) (eC (.str ":"))))
 (eR .s (iR1 (aF (aL cB (aF (eOp gIx (eOp gIx (aC 0) (aC 2)) (eC (.int 1))) aJ)) aJ)) (gNm 4) (aZ (bL 5 0 .s (eOp gIx (eOp gIx (eOp gIx (aC 0) (aC 2)) (eC (.int 1))) (aC 4)))
 (aZ (sIf .s (bOf (eOp gGt (aC 4) (eC (.int 0)))) (bL 1 0 .s (eOp bS (aC 1) (eC (.str ",")))) cZ)
 (aZ (bL 1 0 .s (eOp bS (eOp bS (aC 1) (eC (.str " "))) (eOp gIx (aC 5) (eC (.int 0)))))
 (eR .s (iIt (eOp gIx (aC 5) (eC (.int 1)))) (gNm 3) (bL 1 0 .s (eOp bS (eOp bS (aC 1) (eC (.str " "))) (aL oW (aF (aC 3) aJ)))))))))))))
 (bX 0 .s (aC 1)))))
noncomputable def uV:List aA->Option aA:=fnD 1 6 Pc
theorem Oz (F:Fun K "_law_text" "_law_text" IM f fd)(B:Blt mg)(C:Cst mg)(V:Xcs K mg)(D__law_word:Def P w K mg base "_law_word" 1 yC (spF K 0 oW)):FnOk P w K mg base CX0 2 f fd yB (spF K 0 uV):=by
 have nd:=Ald.nd
 exact dR F Ald rfl (by decide) fun cdv A outer s H E P0 hr=>by
  have hu:=dF hr
  have hv:=dG hr
  exact(bG (dZ .s (eW (jN hu) jO (eO gG gH rfl B.len gP (aM (aH 0) aQ)) aP (dX _)) (bF (cG .s eT)) eD)
   (bG (cH (i:=1) 0 .s nd rfl (by first | exact aU rfl | exact bA rfl) eT)
   (bG (uC .s jB rfl (mT rfl B.range (aM (eO gG gH rfl B.len gP (aM (aH 0) aQ)) aQ)) (jD (i:=2) nd rfl (by first | exact aU rfl | exact bA rfl)) (bG (dZ .s (eW nC nE (aH 2) aP (dX _)) (bF (cH (i:=1) 0 .s nd rfl (by first | exact aU rfl | exact bA rfl) (dC (aH 1) eT))) eD)
   (bG (mO jB rfl (fC (cM hv (cM hv (aH 0) (aH 2) (fun _ _=>rfl)) aP (fun _ _=>rfl))) (jD (i:=3) nd rfl (by first | exact aU rfl | exact bA rfl)) (bF (cH (i:=1) 0 .s nd rfl (by first | exact aU rfl | exact bA rfl) (dC (dC (aH 1) (bU D__law_word (hr.mono (by decide)) rfl (aM (aH 3) aQ))) eT))))
   (bG (cH (i:=1) 0 .s nd rfl (by first | exact aU rfl | exact bA rfl) (dC (aH 1) eT))
   (bF (uC .s jB rfl (mT rfl B.range (aM (eO gG gH rfl B.len gP (aM (cM hv (cM hv (aH 0) (aH 2) (fun _ _=>rfl)) aP (fun _ _=>rfl)) aQ)) aQ)) (jD (i:=4) nd rfl (by first | exact aU rfl | exact bA rfl)) (bG (cH (i:=5) 0 .s nd rfl (by first | exact aU rfl | exact bA rfl) (cM hv (cM hv (cM hv (aH 0) (aH 2) (fun _ _=>rfl)) aP (fun _ _=>rfl)) (aH 4) (fun _ _=>rfl)))
   (bG (dZ .s (eW nC nE (aH 4) aP (dX _)) (bF (cH (i:=1) 0 .s nd rfl (by first | exact aU rfl | exact bA rfl) (dC (aH 1) eT))) eD)
   (bG (cH (i:=1) 0 .s nd rfl (by first | exact aU rfl | exact bA rfl) (dC (dC (aH 1) eT) (cM hv (aH 5) aP (fun _ _=>rfl))))
   (bF (mO jB rfl (fC (cM hv (aH 5) aP (fun _ _=>rfl))) (jD (i:=3) nd rfl (by first | exact aU rfl | exact bA rfl)) (bF (cH (i:=1) 0 .s nd rfl (by first | exact aU rfl | exact bA rfl) (dC (dC (aH 1) eT) (bU D__law_word (hr.mono (by decide)) rfl (aM (aH 3) aQ))))))))))))))))
   (bF (cG .s (aH 1))))))
noncomputable def Kl:SF:=(bX 0 .s (eOr (aL lT (aF (aC 0) aJ)) (aL yL (aF (aC 0) aJ))))
noncomputable def qF:List aA->Option aA:=fnD 1 1 Kl
theorem Nb (F:Fun K "is_term" "is_term" HH f fd)(B:Blt mg)(C:Cst mg)(V:Xcs K mg)(D_is_name:Def P w K mg base "is_name" 1 uK (spF K 0 lT))(D_is_number:Def P w K mg base "is_number" 2 xY (spF K 0 yL)):FnOk P w K mg base CX0 3 f fd xU (spF K 0 qF):=by
 have nd:=Aop.nd
 exact dR F Aop rfl (by decide) fun cdv A outer s H E P0 hr=>by
  have hu:=dF hr
  have hv:=dG hr
  exact(bF (cG .s (Bg (bU D_is_name (hr.mono (by decide)) rfl (aM (aH 0) aQ)) (oQ (bU D_is_number (hr.mono (by decide)) rfl (aM (aH 0) aQ))))))
noncomputable def Qz:SF:=(aZ (bL 1 0 .s (aL sA (aF (eOp tM (eOp gIx (aC 0) (eC (.int 0))) (gV (aF (eC (.str ":")) aJ))) aJ)))
 (aZ (sIf .s (bOf (eOp gEq (aL cB (aF (eOp gIx (aC 0) (eC (.int 1))) aJ)) (eC (.int 0)))) (bX 0 .s (aC 1)) cZ)
 (bX 0 .s (eOp bS (eOp bS (aC 1) (eC (.str " "))) (eOp mJ (eC (.str ", ")) (eLC [none] (iIt (eOp gIx (aC 0) (eC (.int 1)))) (gB 0) cX (aL uW (aF (aC 0) aJ))))))))
noncomputable def vG:List aA->Option aA:=fnD 1 2 Qz
theorem Ra (F:Fun K "show_alternative" "show_alternative" DB f fd)(B:Blt mg)(C:Cst mg)(V:Xcs K mg)(D_show_words:Def P w K mg base "show_words" 1 vB (spF K 0 sA))(D_show_line:Def P w K mg base "show_line" 2 yE (spF K 0 uW)):FnOk P w K mg base CX0 3 f fd yZ (spF K 0 vG):=by
 have nd:=Afw.nd
 exact dR F Afw rfl (by decide) fun cdv A outer s H E P0 hr=>by
  have hu:=dF hr
  have hv:=dG hr
  exact(bG (cH (i:=1) 0 .s nd rfl (by first | exact aU rfl | exact bA rfl) (bU D_show_words (hr.mono (by decide)) rfl (aM (NF (cM hv (aH 0) aP (fun _ _=>rfl)) (kW (aM eT aQ))) aQ)))
   (bG (dZ .s (eW (jN hu) jO (eO gG gH rfl B.len gP (aM (cM hv (aH 0) aP (fun _ _=>rfl)) aQ)) aP (dX _)) (bF (cG .s (aH 1))) eD)
   (bF (cG .s (dC (dC (aH 1) eT) (xI eT (eM (n:=1) (iB rfl (gO (N:=["line"]) (cap:=[none]) (out:=(bJ DB).names) (XN:=UU) rfl rfl (by decide +kernel) rfl) gL (fC (cM hv (aH 0) aP (fun _ _=>rfl))) (fun cl C s₀ H₀ ex=>⟨gM (j:=0) (show(["line"]:List aB).Nodup by decide +kernel) rfl (aU rfl),gZ,(bU D_show_line (hr.mono (by decide)) rfl (aM (aH 0) aQ))⟩)))))))))
noncomputable def Ml:SF:=(bX 0 .s (aL pW (aF (eLC [none] (iIt (aC 0)) (gB 0) cX (aL uH (aF (aC 0) aJ))) aJ)))
noncomputable def rX:List aA->Option aA:=fnD 1 1 Ml
theorem Nt (F:Fun K "terms_of" "terms_of" CF f fd)(B:Blt mg)(C:Cst mg)(V:Xcs K mg)(D_term_of:Def P w K mg base "term_of" 2 xT (spF K 0 uH)):FnOk P w K mg base CX0 3 f fd uP (spF K 0 rX):=by
 have nd:=Amt.nd
 exact dR F Amt rfl (by decide) fun cdv A outer s H E P0 hr=>by
  have hu:=dF hr
  have hv:=dG hr
  exact(bF (cG .s (nK yN yH rfl B.tuple sM (aM (eM (n:=1) (iB rfl (gO (N:=["word"]) (cap:=[none]) (out:=(bJ CF).names) (XN:=SI) rfl rfl (by decide +kernel) rfl) gL (fC (aH 0)) (fun cl C s₀ H₀ ex=>⟨gM (j:=0) (show(["word"]:List aB).Nodup by decide +kernel) rfl (aU rfl),gZ,(bU D_term_of (hr.mono (by decide)) rfl (aM (aH 0) aQ))⟩))) aQ))))
noncomputable def Pz:SF:=(aZ (bL 2 1 .s (oZ aJ))
 (aZ (eR .s (iIt (aL qH (aF (aC 0) (aF (aC 1) aJ)))) (gNm 3) (kO 2 .a (gV (aF (aC 3) (aF (eOp bS (eC (.int 1)) (eOp bT (aL dW (aF (aC 0) (aF (eOp bS (eC (.int 60)) (aL cB (aF (aC 2) aJ))) aJ))) (eC (.int 6)))) aJ)))))
 (sZ 2 1)))
noncomputable def uX:List aA->Option aA:=fnD 2 4 Pz
theorem Qh (F:Fun K "_law_tables" "_law_tables" IU f fd)(B:Blt mg)(C:Cst mg)(V:Xcs K mg)(D__law_mix:Def P w K mg base "_law_mix" 1 nL (spF K 0 dW))(D__law_names:Def P w K mg base "_law_names" 2 uY (spF K 1 qH)):FnOk P w K mg base CX0 3 f fd yR (spF K 1 uX):=by
 have nd:=Aip.nd
 exact dR F Aip rfl (by decide) fun cdv A outer s H E P0 hr=>by
  have hu:=dF hr
  have hv:=dG hr
  exact(bG (cH (i:=2) 1 .s nd rfl (by first | exact aU rfl | exact bA rfl) (pV aQ))
   (bG (mO jB rfl (fC (eM (n:=1) (bU D__law_names (hr.mono (by decide)) rfl (aM (aH 0) (aM (aH 1) aQ))))) (jD (i:=3) nd rfl (by first | exact aU rfl | exact bA rfl)) (bF (rW 2 .a (kW (aM (aH 3) (aM (dC aP (eI (bU D__law_mix (hr.mono (by decide)) rfl (aM (aH 0) (aM (dC aP (eO gG gH rfl B.len gP (aM (aH 2) aQ))) aQ))) aP)) aQ))))))
   (bF (AY 2))))
noncomputable def Pa:SF:=(aZ (bL 5 1 .s (oZ aJ))
 (aZ (bL 6 0 .s (aC 1))
 (aZ (eR .s (iR1 (aF (aC 4) aJ)) (gNm 7) (aZ (bL 8 0 .s (aL dW (aF (aL iP (aF (aC 0) (aF (aC 6) aJ))) (aF (eC (.int 8)) aJ))))
 (aZ (bL 9 0 .s (eOp gIx (aC 2) (eOp bT (aC 8) (aL cB (aF (aC 2) aJ)))))
 (aZ (bL 10 1 .s (eLC [none,some 3,some 0,some 6] (iR1 (aF (eOp gIx (aC 9) (eC (.int 1))) aJ)) (gB 0) cX (aL sD (aF (aL iP (aF (aC 2) (aF (eOp bS (eOp bS (aC 3) (eC (.int 1))) (aC 0)) aJ))) (aF (aC 1) aJ)))))
 (nQ 10 (aZ (kO 5 .s (gV (aF (eOp gIx (aC 9) (eC (.int 0))) (aF (aL pW (aF (aC 10) aJ)) aJ))))
 (aZ (sIf .s (lN (bOf (eOp gGt (aC 7) (eC (.int 0)))) (bOf (eOp gEq (eOp bT (eOp iC (aC 8) (eC (.int 8))) (eC (.int 6))) (eC (.int 0))))) (rK 5 .a (eOp gIx (aC 5) (eOp bT (eOp iC (aC 8) (eC (.int 64))) (aC 7))) .s (aC 7)) cZ)
 (bL 6 0 .s (eOp bS (eOp bS (aC 6) (eC (.int 1))) (eOp gIx (aC 9) (eC (.int 1))))))))))))
 (sZ 5 1))))
noncomputable def uZ:List aA->Option aA:=fnD 5 11 Pa
theorem Pp (F:Fun K "_law_lines" "_law_lines" yS f fd)(B:Blt mg)(C:Cst mg)(V:Xcs K mg)(D__law_cell:Def P w K mg base "_law_cell" 1 rZ (spF K 0 iP))(D__law_mix:Def P w K mg base "_law_mix" 1 nL (spF K 0 dW))(D__law_term:Def P w K mg base "_law_term" 2 yJ (spF K 0 sD)):FnOk P w K mg base CX0 3 f fd yI (spF K 1 uZ):=by
 have nd:=Ajo.nd
 exact dR F Ajo rfl (by decide) fun cdv A outer s H E P0 hr=>by
  have hu:=dF hr
  have hv:=dG hr
  exact(bG (cH (i:=5) 1 .s nd rfl (by first | exact aU rfl | exact bA rfl) (pV aQ))
   (bG (cH (i:=6) 0 .s nd rfl (by first | exact aU rfl | exact bA rfl) (aH 1))
   (bG (uC .s jB rfl (mT rfl B.range (aM (aH 4) aQ)) (jD (i:=7) nd rfl (by first | exact aU rfl | exact bA rfl)) (bG (cH (i:=8) 0 .s nd rfl (by first | exact aU rfl | exact bA rfl) (bU D__law_mix (hr.mono (by decide)) rfl (aM (bU D__law_cell (hr.mono (by decide)) rfl (aM (aH 0) (aM (aH 6) aQ))) (aM aP aQ))))
   (bG (cH (i:=9) 0 .s nd rfl (by first | exact aU rfl | exact bA rfl) (cM hv (aH 2) (eI (aH 8) (eO gG gH rfl B.len gP (aM (aH 2) aQ))) (fun _ _=>rfl)))
   (bG (by first | exact(PQ (i:=10) .s rfl nd rfl (by first | exact aU rfl | exact bA rfl) (gO (N:=["_law_j","_law_names_here","_law_script","_law_at"]) (cap:=[none,some 3,some 0,some 6]) (out:=(bJ yS).names) (XN:=IJ) rfl rfl (by decide +kernel) rfl) gL (xB (mT rfl B.range (aM (cM hv (aH 9) aP (fun _ _=>rfl)) aQ))) (fun cl C s₀ H₀ ex=>⟨gM (j:=0) (show(["_law_j","_law_names_here","_law_script","_law_at"]:List aB).Nodup by decide +kernel) rfl (aU rfl),gZ,(bU D__law_term (hr.mono (by decide)) rfl (aM (bU D__law_cell (hr.mono (by decide)) rfl (aM (aH 2) (aM (dC (dC (aH 3) aP) (aH 0)) aQ))) (aM (aH 1) aQ)))⟩)) | exact(cH (i:=10) 1 .s nd rfl (by first | exact aU rfl | exact bA rfl) (iB rfl (gO (N:=["_law_j","_law_names_here","_law_script","_law_at"]) (cap:=[none,some 3,some 0,some 6]) (out:=(bJ yS).names) (XN:=IJ) rfl rfl (by decide +kernel) rfl) gL (xB (mT rfl B.range (aM (cM hv (aH 9) aP (fun _ _=>rfl)) aQ))) (fun cl C s₀ H₀ ex=>⟨gM (j:=0) (show(["_law_j","_law_names_here","_law_script","_law_at"]:List aB).Nodup by decide +kernel) rfl (aU rfl),gZ,(bU D__law_term (hr.mono (by decide)) rfl (aM (bU D__law_cell (hr.mono (by decide)) rfl (aM (aH 2) (aM (dC (dC (aH 3) aP) (aH 0)) aQ))) (aM (aH 1) aQ)))⟩))))
   (pX 10 (bG (rW 5 .s (kW (aM (cM hv (aH 9) aP (fun _ _=>rfl)) (aM (nK yN yH rfl B.tuple sM (aM (aH 10) aQ)) aQ))))
   (bG (dZ .s (lL (JG (eW nC nE (aH 7) aP (dX _)) (GA (eW (jN hu) jO (eI (rR (aH 8) aP) aP) aP (dX _))))) (bF (GD 5 .a .s (cM hv (aH 5) (eI (rR (aH 8) aP) (aH 7)) (fun _ _=>rfl)) (aH 7))) eD)
   (bF (cH (i:=6) 0 .s nd rfl (by first | exact aU rfl | exact bA rfl) (dC (dC (aH 6) aP) (cM hv (aH 9) aP (fun _ _=>rfl))))))))))))
   (bF (AY 5)))))
noncomputable def Ot:SF:=(aZ (sIf .s (bOr (eA (bOf (eUn (eQ "tuple") (aC 0)))) (eA (bOf (jX gLe gLe (aC 1) (aL cB (aF (aC 0) aJ)) (aC 2))))) (bX 0 .s (eC (.bool false))) cZ)
 (bX 0 .s (aL kQ (aF (eLC [none] (iIt (aC 0)) (gB 0) cX (aL qF (aF (aC 0) aJ))) aJ))))
noncomputable def mV:List aA->Option aA:=fnD 3 3 Ot
theorem Pj (F:Fun K "are_terms" "are_terms" CN f fd)(B:Blt mg)(C:Cst mg)(V:Xcs K mg)(D_is_term:Def P w K mg base "is_term" 3 xU (spF K 0 qF)):FnOk P w K mg base CX0 4 f fd uT (spF K 0 mV):=by
 have nd:=Alb.nd
 exact dR F Alb rfl (by decide) fun cdv A outer s H E P0 hr=>by
  have hu:=dF hr
  have hv:=dG hr
  exact(bG (dZ .s (lL (mK (jL (gY (jM (T:="tuple") rfl B.isinstance rfl B.tuple sM (by decide) (aH 0)))) (oP (jL (GV (Ath.or rV) (Ath.or rV) rM rM (aH 1) (eO gG gH rfl B.len gP (aM (aH 0) aQ)) (aH 2)))))) (bF (cG .s kS)) eD)
   (bF (cG .s (eO (uL rfl) uN rfl B.all boot_all (aM (eM (n:=1) (iB rfl (gO (N:=["term"]) (cap:=[none]) (out:=(bJ CN).names) (XN:=TZ) rfl rfl (by decide +kernel) rfl) gL (fC (aH 0)) (fun cl C s₀ H₀ ex=>⟨gM (j:=0) (show(["term"]:List aB).Nodup by decide +kernel) rfl (aU rfl),gZ,(bU D_is_term (hr.mono (by decide)) rfl (aM (aH 0) aQ))⟩))) aQ)))))
noncomputable def Ql:SF:=(aZ (sIf .s (bOf (eOp gEq (aL cB (aF (aC 0) aJ)) (eC (.int 0)))) (bX 0 .s (eC (.str "none"))) cZ)
 (bX 0 .s (eOp mJ (eC (.str " | ")) (eLC [none] (iIt (aC 0)) (gB 0) cX (aL vG (aF (aC 0) aJ))))))
noncomputable def oX:List aA->Option aA:=fnD 1 1 Ql
theorem Qr (F:Fun K "show_question" "show_question" CV f fd)(B:Blt mg)(C:Cst mg)(V:Xcs K mg)(D_show_alternative:Def P w K mg base "show_alternative" 3 yZ (spF K 0 vG)):FnOk P w K mg base CX0 4 f fd vD (spF K 0 oX):=by
 have nd:=Ahu.nd
 exact dR F Ahu rfl (by decide) fun cdv A outer s H E P0 hr=>by
  have hu:=dF hr
  have hv:=dG hr
  exact(bG (dZ .s (eW (jN hu) jO (eO gG gH rfl B.len gP (aM (aH 0) aQ)) aP (dX _)) (bF (cG .s eT)) eD)
   (bF (cG .s (xI eT (eM (n:=1) (iB rfl (gO (N:=["alternative"]) (cap:=[none]) (out:=(bJ CV).names) (XN:=UT) rfl rfl (by decide +kernel) rfl) gL (fC (aH 0)) (fun cl C s₀ H₀ ex=>⟨gM (j:=0) (show(["alternative"]:List aB).Nodup by decide +kernel) rfl (aU rfl),gZ,(bU D_show_alternative (hr.mono (by decide)) rfl (aM (aH 0) aQ))⟩)))))))
noncomputable def Wp:SF:=(aZ (bL 1 0 .s (eOp lO (aC 0) (eC (.str " "))))
 (bX 0 .s (gV (aF (eOp gIx (aC 1) (eC (.int 0))) (aF (aL rX (aF (nR (aC 1) (oS (eC (.int 1))) oN) aJ)) aJ)))))
noncomputable def uF:List aA->Option aA:=fnD 1 2 Wp
theorem Mh (F:Fun K "line_of" "line_of" HJ f fd)(B:Blt mg)(C:Cst mg)(V:Xcs K mg)(D_terms_of:Def P w K mg base "terms_of" 3 uP (spF K 0 rX)):FnOk P w K mg base CX0 4 f fd xR (spF K 0 uF):=by
 have nd:=An6.nd
 exact dR F An6 rfl (by decide) fun cdv A outer s H E P0 hr=>by
  have hu:=dF hr
  have hv:=dG hr
  exact(bG (cH (i:=1) 0 .s nd rfl (by first | exact aU rfl | exact bA rfl) (eM (n:=1) (BJ (aH 0) eT)))
   (bF (cG .s (kW (aM (cM hv (aH 1) aP (fun _ _=>rfl)) (aM (bU D_terms_of (hr.mono (by decide)) rfl (aM (eM (n:=1) (JH (aH 1) (xF aP) xG)) aQ)) aQ))))))
noncomputable def Qx:SF:=(aZ (bL 5 0 .s (aL iP (aF (aC 0) (aF (aC 1) aJ))))
 (aZ (bL 6 0 .s (eOp bT (aL dW (aF (aC 5) (aF (eC (.int 25)) aJ))) (eC (.int 4))))
 (aZ (sIf .s (bOf (eOp gEq (eOp bT (aL dW (aF (aL iP (aF (aC 0) (aF (eC (.int 1)) aJ))) (aF (eC (.int 24)) aJ))) (eC (.int 4))) (eC (.int 0)))) (bL 6 0 .s (eC (.int 5))) cZ)
 (aZ (bL 7 0 .s (aL uZ (aF (aC 0) (aF (eOp bS (aC 1) (eC (.int 1))) (aF (aC 2) (aF (aC 3) (aF (aC 6) aJ)))))))
 (aZ (bL 8 1 .s (oZ aJ))
 (aZ (eR .s (iIt (aC 7)) (gNm 9) (zA 8 .s (eOp gIx (aC 9) (eC (.int 1)))))
 (nQ 8 (aZ (bL 10 1 .s (oZ aJ))
 (aZ (eR .s (iR1 (aF (aC 4) aJ)) (gNm 11) (sIf .s (lN (bOf (eOp gGt (aL cB (aF (aC 8) aJ)) (eC (.int 0)))) (bOf (eOp gGt (eOp bT (aL dW (aF (aC 5) (aF (eOp bS (eC (.int 26)) (aC 11)) aJ))) (eC (.int 4))) (eC (.int 0))))) (kO 10 .s (eOp gIx (aC 8) (eOp bT (aL dW (aF (aC 5) (aF (eOp bS (eC (.int 40)) (aC 11)) aJ))) (aL cB (aF (aC 8) aJ))))) (kO 10 .s (eOp pT (aL dW (aF (aC 5) (aF (eOp bS (eC (.int 44)) (aC 11)) aJ))) (eOp oY (eC (.int 10)) (eC (.int 9)))))))
 (nQ 10 (bX 0 .s (gV (aF (aL pW (aF (aC 10) aJ)) (aF (aL pW (aF (aC 7) aJ)) aJ))))))))))))))
noncomputable def vF:List aA->Option aA:=fnD 5 12 Qx
theorem Qy (F:Fun K "_law_alternative" "_law_alternative" IZ f fd)(B:Blt mg)(C:Cst mg)(V:Xcs K mg)(D__law_cell:Def P w K mg base "_law_cell" 1 rZ (spF K 0 iP))(D__law_mix:Def P w K mg base "_law_mix" 1 nL (spF K 0 dW))(D__law_lines:Def P w K mg base "_law_lines" 3 yI (spF K 1 uZ)):FnOk P w K mg base CX0 4 f fd yY (spF K 0 vF):=by
 have nd:=Af7.nd
 exact dR F Af7 rfl (by decide) fun cdv A outer s H E P0 hr=>by
  have hu:=dF hr
  have hv:=dG hr
  refine bG ?_ ?_
  refine cH (i:=5) 0 .s ?_ ?_ ?_ ?_ ?_ ?_
  exact nd
  rfl
  first | exact aU rfl | exact bA rfl
  refine bU D__law_cell (hr.mono (by decide)) rfl ?_
  refine aM ?_ ?_ ?_
  exact(aH 0)
  refine aM ?_ ?_ ?_
  exact(aH 1)
  exact aQ
  rfl
  rfl
  rfl
  first | exact aU rfl | exact bA rfl | assumption
  refine bG ?_ ?_
  refine cH (i:=6) 0 .s ?_ ?_ ?_ ?_ ?_ ?_
  exact nd
  rfl
  first | exact aU rfl | exact bA rfl
  refine eI ?_ aP
  refine bU D__law_mix (hr.mono (by decide)) rfl ?_
  refine aM ?_ ?_ ?_
  exact(aH 5)
  refine aM ?_ ?_ ?_
  exact aP
  exact aQ
  rfl
  rfl
  rfl
  first | exact aU rfl | exact bA rfl | assumption
  refine bG ?_ ?_
  refine dZ .s ?_ ?_ eD
  refine eW (jN hu) jO ?_ aP (dX _)
  refine eI ?_ aP
  refine bU D__law_mix (hr.mono (by decide)) rfl ?_
  refine aM ?_ ?_ ?_
  refine bU D__law_cell (hr.mono (by decide)) rfl ?_
  refine aM ?_ ?_ ?_
  exact(aH 0)
  refine aM ?_ ?_ ?_
  exact aP
  exact aQ
  rfl
  rfl
  refine aM ?_ ?_ ?_
  exact aP
  exact aQ
  rfl
  rfl
  refine bF ?_
  exact(cH (i:=6) 0 .s nd rfl (by first | exact aU rfl | exact bA rfl) aP)
  refine bG ?_ ?_
  refine cH (i:=7) 0 .s ?_ ?_ ?_ ?_ ?_ ?_
  exact nd
  rfl
  first | exact aU rfl | exact bA rfl
  refine eM (n:=1) ?_
  refine bU D__law_lines (hr.mono (by decide)) rfl ?_
  refine aM ?_ ?_ ?_
  exact(aH 0)
  refine aM ?_ ?_ ?_
  refine dC ?_ aP
  exact(aH 1)
  refine aM ?_ ?_ ?_
  exact(aH 2)
  refine aM ?_ ?_ ?_
  exact(aH 3)
  refine aM ?_ ?_ ?_
  exact(aH 6)
  exact aQ
  rfl
  rfl
  rfl
  rfl
  rfl
  rfl
  first | exact aU rfl | exact bA rfl | assumption
  refine bG ?_ ?_
  refine cH (i:=8) 1 .s ?_ ?_ ?_ ?_ ?_ ?_
  exact nd
  rfl
  first | exact aU rfl | exact bA rfl
  exact(pV aQ)
  rfl
  first | exact aU rfl | exact bA rfl | assumption
  refine bG ?_ ?_
  refine mO ?_ ?_ ?_ ?_ ?_ ?_
  exact jB
  rfl
  refine fC ?_
  exact(aH 7)
  exact(jD (i:=9) nd rfl (by first | exact aU rfl | exact bA rfl))
  refine bF ?_
  refine RZ 8 .s ?_
  refine cM hv ?_ aP (fun _ _=>rfl)
  exact(aH 9)
  intro _; rfl
  refine pX 8 ?_
  refine bG ?_ ?_
  refine cH (i:=10) 1 .s ?_ ?_ ?_ ?_ ?_ ?_
  exact nd
  rfl
  first | exact aU rfl | exact bA rfl
  exact(pV aQ)
  rfl
  first | exact aU rfl | exact bA rfl | assumption
  refine bG ?_ ?_
  refine uC .s jB rfl ?_ ?_ ?_
  refine mT rfl B.range ?_
  refine aM ?_ ?_ ?_
  exact(aH 4)
  exact aQ
  rfl
  exact(jD (i:=11) nd rfl (by first | exact aU rfl | exact bA rfl))
  refine bF ?_
  refine dZ .s ?_ ?_ ?_
  refine lL ?_
  refine JG ?_ ?_
  refine eW nC nE ?_ aP (dX _)
  refine eO gG gH rfl B.len gP ?_
  refine aM ?_ ?_ ?_
  exact(aH 8)
  exact aQ
  rfl
  refine GA ?_
  refine eW nC nE ?_ aP (dX _)
  refine eI ?_ aP
  refine bU D__law_mix (hr.mono (by decide)) rfl ?_
  refine aM ?_ ?_ ?_
  exact(aH 5)
  refine aM ?_ ?_ ?_
  refine dC aP ?_
  exact(aH 11)
  exact aQ
  rfl
  rfl
  refine bF ?_
  refine rW 10 .s ?_
  refine cM hv ?_ ?_ (fun _ _=>rfl)
  exact(aH 8)
  refine eI ?_ ?_
  refine bU D__law_mix (hr.mono (by decide)) rfl ?_
  refine aM ?_ ?_ ?_
  exact(aH 5)
  refine aM ?_ ?_ ?_
  refine dC aP ?_
  exact(aH 11)
  exact aQ
  rfl
  rfl
  refine eO gG gH rfl B.len gP ?_
  refine aM ?_ ?_ ?_
  exact(aH 8)
  exact aQ
  rfl
  refine bF ?_
  refine rW 10 .s ?_
  refine wZ ?_ ?_
  refine bU D__law_mix (hr.mono (by decide)) rfl ?_
  refine aM ?_ ?_ ?_
  exact(aH 5)
  refine aM ?_ ?_ ?_
  refine dC aP ?_
  exact(aH 11)
  exact aQ
  rfl
  rfl
  exact(AU aP aP)
  refine pX 10 ?_
  refine bF ?_
  refine cG .s ?_
  refine kW ?_
  refine aM ?_ ?_ ?_
  refine nK yN yH rfl B.tuple sM ?_
  refine aM ?_ ?_ ?_
  exact(aH 10)
  exact aQ
  rfl
  refine aM ?_ ?_ ?_
  refine nK yN yH rfl B.tuple sM ?_
  refine aM ?_ ?_ ?_
  exact(aH 7)
  exact aQ
  rfl
  exact aQ
  rfl
  rfl
noncomputable def Ke:SF:=(bX 0 .s (lM (aL qB (aF (aC 0) aJ)) (lM (aL lT (aF (eOp gIx (aC 0) (eC (.int 0))) aJ)) (aL mV (aF (eOp gIx (aC 0) (eC (.int 1))) (aF (eC (.int 1)) (aF (eC (.int 6)) aJ)))))))
noncomputable def qE:List aA->Option aA:=fnD 1 1 Ke
theorem Mf (F:Fun K "is_line" "is_line" HU f fd)(B:Blt mg)(C:Cst mg)(V:Xcs K mg)(D_is_name:Def P w K mg base "is_name" 1 uK (spF K 0 lT))(D_is_pair:Def P w K mg base "is_pair" 1 uG (spF K 0 qB))(D_are_terms:Def P w K mg base "are_terms" 4 uT (spF K 0 mV)):FnOk P w K mg base CX0 5 f fd xQ (spF K 0 qE):=by
 obtain⟨_,h_MOST_TERMS⟩:=C.MOST_TERMS
 have nd:=Aox.nd
 exact dR F Aox rfl (by decide) fun cdv A outer s H E P0 hr=>by
  have hu:=dF hr
  have hv:=dG hr
  exact(bF (cG .s (oK (bU D_is_pair (hr.mono (by decide)) rfl (aM (aH 0) aQ)) (oK (bU D_is_name (hr.mono (by decide)) rfl (aM (cM hv (aH 0) aP (fun _ _=>rfl)) aQ)) (oQ (bU D_are_terms (hr.mono (by decide)) rfl (aM (cM hv (aH 0) aP (fun _ _=>rfl)) (aM aP (aM (uE (i:=6) rfl h_MOST_TERMS ⟨_,rfl⟩) aQ)))))))))
noncomputable def Qt:SF:=(aZ (bL 1 0 .s (eOp DM (aC 0) (eC (.str ":"))))
 (aZ (bL 2 0 .s (aL rX (aF (nR (eOp lO (eOp gIx (aC 1) (eC (.int 0))) (eC (.str " "))) oN (oS (eUn AJ (eC (.int 1))))) aJ)))
 (aZ (sIf .s (bOf (eOp gEq (eOp gIx (aC 1) (eC (.int 2))) (eC (.str "")))) (bX 0 .s (gV (aF (aC 2) (aF (gV aJ) aJ)))) cZ)
 (bX 0 .s (gV (aF (aC 2) (aF (aL pW (aF (eLC [none] (iIt (eOp lO (eSl (eOp gIx (aC 1) (eC (.int 2))) (oS (eC (.int 1))) oN) (eC (.str ", ")))) (gB 0) cX (aL uF (aF (aC 0) aJ))) aJ)) aJ)))))))
noncomputable def vH:List aA->Option aA:=fnD 1 3 Qt
theorem Qu (F:Fun K "alternative_of" "alternative_of" CZ f fd)(B:Blt mg)(C:Cst mg)(V:Xcs K mg)(D_terms_of:Def P w K mg base "terms_of" 3 uP (spF K 0 rX))(D_line_of:Def P w K mg base "line_of" 4 xR (spF K 0 uF)):FnOk P w K mg base CX0 5 f fd yW (spF K 0 vH):=by
 have nd:=Ag5.nd
 exact dR F Ag5 rfl (by decide) fun cdv A outer s H E P0 hr=>by
  have hu:=dF hr
  have hv:=dG hr
  exact(bG (cH (i:=1) 0 .s nd rfl (by first | exact aU rfl | exact bA rfl) (Hg (aH 0) eT))
   (bG (cH (i:=2) 0 .s nd rfl (by first | exact aU rfl | exact bA rfl) (bU D_terms_of (hr.mono (by decide)) rfl (aM (eM (n:=1) (JH (eM (n:=1) (BJ (cM hv (aH 1) aP (fun _ _=>rfl)) eT)) xG (xF (Fq aP)))) aQ)))
   (bG (dZ .s (eW (jN hu) jO (cM hv (aH 1) aP (fun _ _=>rfl)) eT (dX _)) (bF (cG .s (kW (aM (aH 2) (aM (kW aQ) aQ))))) eD)
   (bF (cG .s (kW (aM (aH 2) (aM (nK yN yH rfl B.tuple sM (aM (eM (n:=1) (iB rfl (gO (N:=["part"]) (cap:=[none]) (out:=(bJ CZ).names) (XN:=UR) rfl rfl (by decide +kernel) rfl) gL (fC (eM (n:=1) (BJ (MV (cM hv (aH 1) aP (fun _ _=>rfl)) (xF aP) xG) eT))) (fun cl C s₀ H₀ ex=>⟨gM (j:=0) (show(["part"]:List aB).Nodup by decide +kernel) rfl (aU rfl),gZ,(bU D_line_of (hr.mono (by decide)) rfl (aM (aH 0) aQ))⟩))) aQ)) aQ))))))))
noncomputable def Og:SF:=(aZ (sIf .s (bOr (eA (bOf (eUn (eQ "tuple") (aC 0)))) (bOf (eOp gGt (aL cB (aF (aC 0) aJ)) (eC (.int 5))))) (bX 0 .s (eC (.bool false))) cZ)
 (bX 0 .s (aL kQ (aF (eLC [none] (iIt (aC 0)) (gB 0) cX (aL qE (aF (aC 0) aJ))) aJ))))
noncomputable def qG:List aA->Option aA:=fnD 1 1 Og
theorem Pl (F:Fun K "are_lines" "are_lines" CJ f fd)(B:Blt mg)(C:Cst mg)(V:Xcs K mg)(D_is_line:Def P w K mg base "is_line" 5 xQ (spF K 0 qE)):FnOk P w K mg base CX0 6 f fd yK (spF K 0 qG):=by
 obtain⟨_,h_MOST_LINES⟩:=C.MOST_LINES
 have nd:=Ak1.nd
 exact dR F Ak1 rfl (by decide) fun cdv A outer s H E P0 hr=>by
  have hu:=dF hr
  have hv:=dG hr
  exact(bG (dZ .s (lL (mK (jL (gY (jM (T:="tuple") rfl B.isinstance rfl B.tuple sM (by decide) (aH 0)))) (oP (eW nC nE (eO gG gH rfl B.len gP (aM (aH 0) aQ)) (uE (i:=5) rfl h_MOST_LINES ⟨_,rfl⟩) (dX _))))) (bF (cG .s kS)) eD)
   (bF (cG .s (eO (uL rfl) uN rfl B.all boot_all (aM (eM (n:=1) (iB rfl (gO (N:=["line"]) (cap:=[none]) (out:=(bJ CJ).names) (XN:=TN) rfl rfl (by decide +kernel) rfl) gL (fC (aH 0)) (fun cl C s₀ H₀ ex=>⟨gM (j:=0) (show(["line"]:List aB).Nodup by decide +kernel) rfl (aU rfl),gZ,(bU D_is_line (hr.mono (by decide)) rfl (aM (aH 0) aQ))⟩))) aQ)))))
noncomputable def Qa:SF:=(aZ (sIf .s (bOf (eOp gEq (aC 0) (eC (.str "none")))) (bX 1 .s (oZ aJ)) cZ)
 (bX 1 .s (eLC [none] (iIt (eOp lO (aC 0) (eC (.str " | ")))) (gB 0) cX (aL vH (aF (aC 0) aJ)))))
noncomputable def yQ:List aA->Option aA:=fnD 1 1 Qa
theorem Qi (F:Fun K "question_of" "question_of" CQ f fd)(B:Blt mg)(C:Cst mg)(V:Xcs K mg)(D_alternative_of:Def P w K mg base "alternative_of" 5 yW (spF K 0 vH)):FnOk P w K mg base CX0 6 f fd yO (spF K 1 yQ):=by
 have nd:=Ail.nd
 exact dR F Ail rfl (by decide) fun cdv A outer s H E P0 hr=>by
  have hu:=dF hr
  have hv:=dG hr
  exact(bG (dZ .s (eW (jN hu) jO (aH 0) eT (dX _)) (bF (cG .s (pV aQ))) eD)
   (bF (cG .s (iB rfl (gO (N:=["part"]) (cap:=[none]) (out:=(bJ CQ).names) (XN:=UM) rfl rfl (by decide +kernel) rfl) gL (fC (eM (n:=1) (BJ (aH 0) eT))) (fun cl C s₀ H₀ ex=>⟨gM (j:=0) (show(["part"]:List aB).Nodup by decide +kernel) rfl (aU rfl),gZ,(bU D_alternative_of (hr.mono (by decide)) rfl (aM (aH 0) aQ))⟩)))))
noncomputable def Qs:SF:=(aZ (sIf .s (bOr (eA (bOf (aL qB (aF (aC 0) aJ)))) (bOr (eA (bOf (aL mV (aF (eOp gIx (aC 0) (eC (.int 0))) (aF (eC (.int 0)) (aF (eC (.int 4)) aJ)))))) (eA (bOf (aL qG (aF (eOp gIx (aC 0) (eC (.int 1))) aJ)))))) (bX 0 .s (eC (.bool false))) cZ)
 (bX 0 .s (lM (aL uU (aF (eOp gIx (aC 0) (eC (.int 0))) (aF (eOp gIx (aC 0) (eC (.int 1))) aJ))) (aL qI (aF (eOp gIx (aC 0) (eC (.int 1))) aJ)))))
noncomputable def nN:List aA->Option aA:=fnD 1 1 Qs
theorem Qv (F:Fun K "is_alternative" "is_alternative" IY f fd)(B:Blt mg)(C:Cst mg)(V:Xcs K mg)(D_is_pair:Def P w K mg base "is_pair" 1 uG (spF K 0 qB))(D_of_one_width:Def P w K mg base "of_one_width" 2 vE (spF K 0 qI))(D_stands_in:Def P w K mg base "stands_in" 2 yD (spF K 0 uU))(D_are_terms:Def P w K mg base "are_terms" 4 uT (spF K 0 mV))(D_are_lines:Def P w K mg base "are_lines" 6 yK (spF K 0 qG)):FnOk P w K mg base CX0 7 f fd yX (spF K 0 nN):=by
 obtain⟨_,h_MOST_HEAD_TERMS⟩:=C.MOST_HEAD_TERMS
 have nd:=Agr.nd
 exact dR F Agr rfl (by decide) fun cdv A outer s H E P0 hr=>by
  have hu:=dF hr
  have hv:=dG hr
  exact(bG (dZ .s (lL (mK (jL (gY (bU D_is_pair (hr.mono (by decide)) rfl (aM (aH 0) aQ)))) (mK (jL (gY (bU D_are_terms (hr.mono (by decide)) rfl (aM (cM hv (aH 0) aP (fun _ _=>rfl)) (aM aP (aM (uE (i:=4) rfl h_MOST_HEAD_TERMS ⟨_,rfl⟩) aQ)))))) (oP (jL (gY (bU D_are_lines (hr.mono (by decide)) rfl (aM (cM hv (aH 0) aP (fun _ _=>rfl)) aQ)))))))) (bF (cG .s kS)) eD)
   (bF (cG .s (oK (bU D_stands_in (hr.mono (by decide)) rfl (aM (cM hv (aH 0) aP (fun _ _=>rfl)) (aM (cM hv (aH 0) aP (fun _ _=>rfl)) aQ))) (oQ (bU D_of_one_width (hr.mono (by decide)) rfl (aM (cM hv (aH 0) aP (fun _ _=>rfl)) aQ)))))))
noncomputable def Pr:SF:=(aZ (sIf .s (bOr (eA (bOf (eUn (eQ "list") (aC 0)))) (bOf (eOp gGt (aL cB (aF (aC 0) aJ)) (eC (.int 3))))) (bX 0 .s (eC (.bool false))) cZ)
 (aZ (sIf .s (eA (bOf (aL kQ (aF (eLC [none] (iIt (aC 0)) (gB 0) cX (aL nN (aF (aC 0) aJ))) aJ)))) (bX 0 .s (eC (.bool false))) cZ)
 (aZ (bL 1 1 .s (oZ aJ))
 (aZ (eR .s (iIt (aC 0)) (gNm 2) (zA 1 .s (eOp gIx (aC 2) (eC (.int 1)))))
 (nQ 1 (bX 0 .s (lM (aL yU (aF (eLC [none] (iIt (aC 0)) (gB 0) cX (eOp gIx (aC 0) (eC (.int 0)))) aJ)) (aL qI (aF (aC 1) aJ)))))))))
noncomputable def sE:List aA->Option aA:=fnD 1 3 Pr
theorem Qk (F:Fun K "is_question" "is_question" yM f fd)(B:Blt mg)(C:Cst mg)(V:Xcs K mg)(D_of_one_length:Def P w K mg base "of_one_length" 1 yV (spF K 0 yU))(D_of_one_width:Def P w K mg base "of_one_width" 2 vE (spF K 0 qI))(D_is_alternative:Def P w K mg base "is_alternative" 7 yX (spF K 0 nN)):FnOk P w K mg base CX0 8 f fd yP (spF K 0 sE):=by
 obtain⟨_,h_MOST_ALTERNATIVES⟩:=C.MOST_ALTERNATIVES
 have nd:=Ais.nd
 exact dR F Ais rfl (by decide) fun cdv A outer s H E P0 hr=>by
  have hu:=dF hr
  have hv:=dG hr
  exact(bG (dZ .s (lL (mK (jL (gY (jM (T:="list") rfl B.isinstance rfl B.list KC (by decide) (aH 0)))) (oP (eW nC nE (eO gG gH rfl B.len gP (aM (aH 0) aQ)) (uE (i:=3) rfl h_MOST_ALTERNATIVES ⟨_,rfl⟩) (dX _))))) (bF (cG .s kS)) eD)
   (bG (dZ .s (jL (gY (eO (uL rfl) uN rfl B.all boot_all (aM (eM (n:=1) (iB rfl (gO (N:=["alternative"]) (cap:=[none]) (out:=(bJ yM).names) (XN:=IT) rfl rfl (by decide +kernel) rfl) gL (fC (aH 0)) (fun cl C s₀ H₀ ex=>⟨gM (j:=0) (show(["alternative"]:List aB).Nodup by decide +kernel) rfl (aU rfl),gZ,(bU D_is_alternative (hr.mono (by decide)) rfl (aM (aH 0) aQ))⟩))) aQ)))) (bF (cG .s kS)) eD)
   (bG (cH (i:=1) 1 .s nd rfl (by first | exact aU rfl | exact bA rfl) (pV aQ))
   (bG (mO jB rfl (fC (aH 0)) (jD (i:=2) nd rfl (by first | exact aU rfl | exact bA rfl)) (bF (RZ 1 .s (cM hv (aH 2) aP (fun _ _=>rfl)))))
   (pX 1 (bF (cG .s (oK (bU D_of_one_length (hr.mono (by decide)) rfl (aM (eM (n:=1) (iB rfl (gO (N:=["alternative"]) (cap:=[none]) (out:=(bJ yM).names) (XN:=IT) rfl rfl (by decide +kernel) rfl) gL (fC (aH 0)) (fun cl C s₀ H₀ ex=>⟨gM (j:=0) (show(["alternative"]:List aB).Nodup by decide +kernel) rfl (aU rfl),gZ,(cM hv (aH 0) aP (fun _ _=>rfl))⟩))) aQ)) (oQ (bU D_of_one_width (hr.mono (by decide)) rfl (aM (aH 1) aQ)))))))))))
noncomputable def RN (z:Option aB):SF:=(aZ (sIf .s (bOf (eUn (eQ "str") (aC 0))) (aZ (bL 4 1 .s (aL yQ (aFn 1 "question_of" (aF (aC 0) aJ))))
 (sIf .a (lN (bOf (aL sE (aFn 2 "is_question" (aF (aC 4) aJ)))) (bOf (eOp gEq (aL oX (aFn 3 "show_question" (aF (aC 4) aJ))) (aC 0)))) (sZ 4 1) cZ)) cZ)
 (WC z "NoText"))
noncomputable def xS:FX:=fun z=>fnD 4 5 (RN z)
theorem Lv (F:Fun K "read_by" "read_by" HC f fd)(B:Blt mg)(C:Cst mg)(V:Xcs K mg)(D_show_question:Def P w K mg base "show_question" 4 vD (spF K 0 oX))(D_question_of:Def P w K mg base "question_of" 6 yO (spF K 1 yQ))(D_is_question:Def P w K mg base "is_question" 8 yP (spF K 0 sE)):FnOk P w K mg base (CXR base P w) 9 f fd xV (spX K 1 xS):=by
 have nd:=Ao9.nd
 exact VH F Ao9 rfl (by decide) fun cdv A outer s H E P0 z hr hz=>by
  have hu:=dF hr
  have hv:=dG hr
  exact(bG (dZ .s (gY (jM (T:="str") rfl B.isinstance rfl B.str vZ (by decide) (aH 0))) (bG (cH (i:=4) 1 .s nd rfl (by first | exact aU rfl | exact bA rfl) (FZ (i:=1) (c:="question_of") rfl (aU rfl) D_question_of (hr.mono (by decide)) (aM (aH 0) aQ)))
   (bF (dZ .a (lL (JG (gY (FZ (i:=2) (c:="is_question") rfl (aU rfl) D_is_question (hr.mono (by decide)) (aM (aH 4) aQ))) (GA (eW (jN hu) jO (FZ (i:=3) (c:="show_question") rfl (aU rfl) D_show_question (hr.mono (by decide)) (aM (aH 4) aQ)) (aH 0) (dX _))))) (bF (AY 4)) eD))) eD)
   (bF (Uh hz V.r_NoText rfl rfl)))
noncomputable def UQ (z:Option aB):SF:=(bX 1 .s (aL (xS z) (aF (aC 0) (aF (eC (fnV "question_of")) (aF (eC (fnV "is_question")) (aF (eC (fnV "show_question")) aJ))))))
noncomputable def sF:FX:=fun z=>fnD 1 1 (UQ z)
theorem Qn (F:Fun K "read_question" "read_question" IW f fd)(B:Blt mg)(C:Cst mg)(V:Xcs K mg)(D_read_by:DefX P w K mg base "read_by" 9 xV (spX K 1 xS)):FnOk P w K mg base (CXR base P w) 10 f fd yT (spX K 1 sF):=by
 have nd:=Ahs.nd
 exact VH F Ahs rfl (by decide) fun cdv A outer s H E P0 z hr hz=>by
  have hu:=dF hr
  have hv:=dG hr
  exact(bF (Hn .s (evX .s hz D_read_by (hr.mono (by decide)) rfl (aM (aH 0) (aM (FO V.f_question_of rfl) (aM (FO V.f_is_question rfl) (aM (FO V.f_show_question rfl) aQ)))))))
end Aw
namespace Aw
open PySem L2
set_option maxHeartbeats 4000000
variable {P:bQ}{w:bB}{K:aK}{mg:aB->Option aE}{base:aW}{f:aD}{fd:fX}
noncomputable def Du:SF:=(aZ (bL 1 0 .s (aL iP (aF (aC 0) (aF (eC (.int 0)) aJ))))
 (aZ (bL 2 0 .s (aL qH (aF (aC 1) (aF (eC (.int 4)) aJ))))
 (aZ (bL 3 0 .s (aL uX (aF (eOp bS (eOp fN (eOp iC (aC 1) (eC (.int 3))) (eC (.int 3))) (eOp bT (aL dW (aF (aC 1) (aF (eC (.int 9)) aJ))) (eC (.int 3)))) (aF (eC (.int 3)) aJ))))
 (aZ (bL 4 0 .s (eOp bT (aL dW (aF (aC 1) (aF (eC (.int 5)) aJ))) (eC (.int 5))))
 (aZ (bL 5 1 .s (oZ aJ))
 (aZ (eR .s (iR1 (aF (eOp bT (aL dW (aF (aL iP (aF (aC 0) (aF (eC (.int 1)) aJ))) (aF (eC (.int 6)) aJ))) (eC (.int 4))) aJ)) (gNm 6) (kO 5 .s (aL vF (aF (aC 0) (aF (eOp bS (eC (.int 2)) (eOp fN (eC (.int 19)) (aC 6))) (aF (aC 3) (aF (aC 2) (aF (aC 4) aJ))))))))
 (nQ 5 (aZ (bL 7 0 .s (aL FS (aF (aC 5) aJ)))
 (aZ (bL 8 0 .s (aL oX (aF (aC 5) aJ)))
 (aZ (sIf .s (bOr (eA (bOf (eUn (eQ "str") (aC 8)))) (bOr (bOf (eOp gNe (aC 8) (aL uV (aF (aC 7) aJ)))) (bOf (eOp gNe (aC 5) (aC 7))))) (bX 0 .s (eC (.bool false))) cZ)
 (aZ (bL 9 1 .s (aL (sF none) (aF (aC 8) aJ)))
 (aZ (sIf .a (eA (bOf (aL sC (aF (aC 9) (aF (aC 7) aJ))))) (bX 0 .s (eC (.bool false))) cZ)
 (aZ (kO 9 .s (gV (aF (gV aJ) (aF (gV aJ) aJ))))
 (nQ 9 (bX 0 .s (lM (aL sC (aF (aL (sF none) (aF (aC 8) aJ)) (aF (aC 7) aJ))) (eOp gEq (aL oX (aF (aC 7) aJ)) (aC 8))))))))))))))))))
noncomputable def DH:List aA->Option aA:=fnD 1 10 Du
theorem Ed (F:Fun K "law" "law" rJ f fd)(B:Blt mg)(C:Cst mg)(V:Xcs K mg)(D__law_cell:Def P w K mg base "_law_cell" 1 rZ (spF K 0 iP))(D__law_mix:Def P w K mg base "_law_mix" 1 nL (spF K 0 dW))(D__law_same:Def P w K mg base "_law_same" 1 yF (spF K 0 sC))(D__law_names:Def P w K mg base "_law_names" 2 uY (spF K 1 qH))(D__law_text:Def P w K mg base "_law_text" 2 yB (spF K 0 uV))(D__law_tables:Def P w K mg base "_law_tables" 3 yR (spF K 1 uX))(D_show_question:Def P w K mg base "show_question" 4 vD (spF K 0 oX))(D__law_alternative:Def P w K mg base "_law_alternative" 4 yY (spF K 0 vF))(D_read_question:DefX P w K mg base "read_question" 10 yT (spX K 1 sF)):FnOk P w K mg base CX0 11 f fd MU (spF K 0 DH):=by
 have nd:=A8w.nd
 exact dR F A8w rfl (by decide) fun cdv A outer s H E P0 hr=>by
  have hu:=dF hr
  have hv:=dG hr
  refine bG ?_ ?_
  refine cH (i:=1) 0 .s ?_ ?_ ?_ ?_ ?_ ?_
  exact nd
  rfl
  first | exact aU rfl | exact bA rfl
  refine bU D__law_cell (hr.mono (by decide)) rfl ?_
  refine aM ?_ ?_ ?_
  exact(aH 0)
  refine aM ?_ ?_ ?_
  exact aP
  exact aQ
  rfl
  rfl
  rfl
  first | exact aU rfl | exact bA rfl | assumption
  refine bG ?_ ?_
  refine cH (i:=2) 0 .s ?_ ?_ ?_ ?_ ?_ ?_
  exact nd
  rfl
  first | exact aU rfl | exact bA rfl
  refine eM (n:=1) ?_
  refine bU D__law_names (hr.mono (by decide)) rfl ?_
  refine aM ?_ ?_ ?_
  exact(aH 1)
  refine aM ?_ ?_ ?_
  exact aP
  exact aQ
  rfl
  rfl
  rfl
  first | exact aU rfl | exact bA rfl | assumption
  refine bG ?_ ?_
  refine cH (i:=3) 0 .s ?_ ?_ ?_ ?_ ?_ ?_
  exact nd
  rfl
  first | exact aU rfl | exact bA rfl
  refine eM (n:=1) ?_
  refine bU D__law_tables (hr.mono (by decide)) rfl ?_
  refine aM ?_ ?_ ?_
  refine dC ?_ ?_
  refine kY ?_ aP
  refine rR ?_ aP
  exact(aH 1)
  refine eI ?_ aP
  refine bU D__law_mix (hr.mono (by decide)) rfl ?_
  refine aM ?_ ?_ ?_
  exact(aH 1)
  refine aM ?_ ?_ ?_
  exact aP
  exact aQ
  rfl
  rfl
  refine aM ?_ ?_ ?_
  exact aP
  exact aQ
  rfl
  rfl
  rfl
  first | exact aU rfl | exact bA rfl | assumption
  refine bG ?_ ?_
  refine cH (i:=4) 0 .s ?_ ?_ ?_ ?_ ?_ ?_
  exact nd
  rfl
  first | exact aU rfl | exact bA rfl
  refine eI ?_ aP
  refine bU D__law_mix (hr.mono (by decide)) rfl ?_
  refine aM ?_ ?_ ?_
  exact(aH 1)
  refine aM ?_ ?_ ?_
  exact aP
  exact aQ
  rfl
  rfl
  rfl
  first | exact aU rfl | exact bA rfl | assumption
  refine bG ?_ ?_
  refine cH (i:=5) 1 .s ?_ ?_ ?_ ?_ ?_ ?_
  exact nd
  rfl
  first | exact aU rfl | exact bA rfl
  exact(pV aQ)
  rfl
  first | exact aU rfl | exact bA rfl | assumption
  refine bG ?_ ?_
  refine uC .s jB rfl ?_ ?_ ?_
  refine mT rfl B.range ?_
  refine aM ?_ ?_ ?_
  refine eI ?_ aP
  refine bU D__law_mix (hr.mono (by decide)) rfl ?_
  refine aM ?_ ?_ ?_
  refine bU D__law_cell (hr.mono (by decide)) rfl ?_
  refine aM ?_ ?_ ?_
  exact(aH 0)
  refine aM ?_ ?_ ?_
  exact aP
  exact aQ
  rfl
  rfl
  refine aM ?_ ?_ ?_
  exact aP
  exact aQ
  rfl
  rfl
  exact aQ
  rfl
  exact(jD (i:=6) nd rfl (by first | exact aU rfl | exact bA rfl))
  refine bF ?_
  refine rW 5 .s ?_
  refine bU D__law_alternative (hr.mono (by decide)) rfl ?_
  refine aM ?_ ?_ ?_
  exact(aH 0)
  refine aM ?_ ?_ ?_
  refine dC aP ?_
  refine kY aP ?_
  exact(aH 6)
  refine aM ?_ ?_ ?_
  exact(aH 3)
  refine aM ?_ ?_ ?_
  exact(aH 2)
  refine aM ?_ ?_ ?_
  exact(aH 4)
  exact aQ
  rfl
  rfl
  rfl
  rfl
  rfl
  refine pX 5 ?_
  refine bG ?_ ?_
  refine cH (i:=7) 0 .s ?_ ?_ ?_ ?_ ?_ ?_
  exact nd
  rfl
  first | exact aU rfl | exact bA rfl
  refine eM (n:=1) ?_
  refine nK (Ph rfl) Mg rfl B.list KC ?_
  refine aM ?_ ?_ ?_
  exact(aH 5)
  exact aQ
  rfl
  rfl
  first | exact aU rfl | exact bA rfl | assumption
  refine bG ?_ ?_
  refine cH (i:=8) 0 .s ?_ ?_ ?_ ?_ ?_ ?_
  exact nd
  rfl
  first | exact aU rfl | exact bA rfl
  refine bU D_show_question (hr.mono (by decide)) rfl ?_
  refine aM ?_ ?_ ?_
  exact(aH 5)
  exact aQ
  rfl
  rfl
  first | exact aU rfl | exact bA rfl | assumption
  refine bG ?_ ?_
  refine dZ .s ?_ ?_ eD
  refine lL ?_
  refine mK ?_ ?_
  refine jL ?_
  refine gY ?_
  refine jM (T:="str") rfl B.isinstance rfl B.str vZ (by decide) ?_
  exact(aH 8)
  refine mK ?_ ?_
  refine eW (FW hu) FY ?_ ?_ (dX _)
  exact(aH 8)
  refine bU D__law_text (hr.mono (by decide)) rfl ?_
  refine aM ?_ ?_ ?_
  exact(aH 7)
  exact aQ
  rfl
  refine oP ?_
  refine eW (FW hu) FY ?_ ?_ (dX _)
  exact(aH 5)
  exact(aH 7)
  refine bF ?_
  exact(cG .s kS)
  refine bG ?_ ?_
  refine cH (i:=9) 1 .s ?_ ?_ ?_ ?_ ?_ ?_
  exact nd
  rfl
  first | exact aU rfl | exact bA rfl
  refine GC D_read_question (hr.mono (by decide)) rfl ?_
  refine aM ?_ ?_ ?_
  exact(aH 8)
  exact aQ
  rfl
  rfl
  first | exact aU rfl | exact bA rfl | assumption
  refine bG ?_ ?_
  refine dZ .a ?_ ?_ eD
  refine jL ?_
  refine gY ?_
  refine bU D__law_same (hr.mono (by decide)) rfl ?_
  refine aM ?_ ?_ ?_
  exact(aH 9)
  refine aM ?_ ?_ ?_
  exact(aH 7)
  exact aQ
  rfl
  rfl
  refine bF ?_
  exact(cG .s kS)
  refine bG ?_ ?_
  refine rW 9 .s ?_
  refine kW ?_
  refine aM ?_ ?_ ?_
  exact(kW aQ)
  refine aM ?_ ?_ ?_
  exact(kW aQ)
  exact aQ
  rfl
  rfl
  refine pX 9 ?_
  refine bF ?_
  refine cG .s ?_
  refine oK ?_ ?_
  refine bU D__law_same (hr.mono (by decide)) rfl ?_
  refine aM ?_ ?_ ?_
  refine eM (n:=1) ?_
  refine GC D_read_question (hr.mono (by decide)) rfl ?_
  refine aM ?_ ?_ ?_
  exact(aH 8)
  exact aQ
  rfl
  refine aM ?_ ?_ ?_
  exact(aH 7)
  exact aQ
  rfl
  rfl
  refine oQ ?_
  refine nF (jN hu) jO ?_ ?_ (dX _)
  refine bU D_show_question (hr.mono (by decide)) rfl ?_
  refine aM ?_ ?_ ?_
  exact(aH 7)
  exact aQ
  rfl
  exact(aH 8)
end Aw
namespace L2
open PySem PySem.Spec PyProof.Rows
theorem Uk {F:SF}{T:aA->bC->Option bC}(P:Nat->bC->Prop){ds:List aA}{ρ:bC}(h0:P 0 ρ)
  (step : ∀ i d ρ,ds[i]?=some d->P i ρ -> ∃ ρ1 ρ2,T d ρ=some ρ1/\(F ρ1=some (.nx ρ2) \/ F ρ1=some (.ct ρ2))/\P (i+1) ρ2) : ∃ ρ',nP F T ds ρ=some (.nx ρ')/\P ds.length ρ':=by
 have go : ∀ (rest:List aA) (i:Nat) (ρ:bC),ds.drop i=rest->i+rest.length=ds.length->P i ρ -> ∃ ρ',nP F T rest ρ=some (.nx ρ')/\P ds.length ρ':=by
  intro rest
  induction rest with
  | nil=>
   intro i ρ _ hl p
   simp at hl
   subst hl
   exact⟨ρ,rfl,p⟩
  | cons d r ih=>
   intro i ρ hd hl p
   have hi:ds[i]?=some d:=by
    have:=congrArg (·[0]?) hd
    simpa using this
   obtain⟨ρ1,ρ2,e1,e2,p2⟩:=step i d ρ hi p
   have hd2:ds.drop (i+1)=r:=by
    have:=congrArg List.tail hd
    simpa using this
   obtain⟨ρ',e3,p3⟩:=ih (i+1) ρ2 hd2 (by simp at hl; omega) p2
   refine⟨ρ',?_,p3⟩
   show((T d ρ).bind fun ρ1=>(F ρ1).bind fun o=>match o with
    | .nx ρ'=>nP F T r ρ'
    | .ct ρ'=>nP F T r ρ'
    | .bk ρ'=>some (.nx ρ')
    | .rt d=>some (.rt d))=some (.nx ρ')
   rw[e1]
   rcases e2 with e2 | e2
   ·simp only[cK,e2]; exact e3
   ·simp only[cK,e2]; exact e3
 exact go ds 0 ρ (by simp) (by simp) h0
theorem NH {T:aA->List (Option aA)->Option (List (Option aA))}{t:BF}{f:EF}{ρ:List (Option aA)}(R:aA->aA->Prop) : ∀ (ds:List aA),(∀ d∈ds,∃ ρ1 y,T d ρ=some ρ1/\t ρ1=some true/\f ρ1=some y/\R d y) ->
  ∃ ys,lcD T t f ρ ds=some ys/\eP R ds ys
 | [],_=>⟨[],rfl,.nil⟩
 | d::r,h=>by
  obtain⟨ρ1,y,e1,e2,e3,hr⟩:=h d bR
  obtain⟨ys,e4,hp⟩:=NH R r fun d' m=>h d' (bZ _ m)
  refine⟨y::ys,?_,.cons hr hp⟩
  show((T d ρ).bind fun ρ1=>(t ρ1).bind fun c=>if c=true then(f ρ1).bind fun y=>(lcD T t f ρ r).bind fun ys=>some (y::ys) else lcD T t f ρ r)=some (y::ys)
  simp[e1,e2,e3,e4]
theorem XT {T:aA->List (Option aA)->Option (List (Option aA))}{t:BF}{f:EF}{ρ:List (Option aA)}(g:aA->aA) : ∀ (ds:List aA),(∀ d∈ds,∃ ρ1,T d ρ=some ρ1/\t ρ1=some true/\f ρ1=some (g d))->lcD T t f ρ ds=some (ds.map g)
 | [],_=>rfl
 | d::r,h=>by
  obtain⟨ρ1,e1,e2,e3⟩:=h d bR
  have e4:=XT g r fun d' m=>h d' (bZ _ m)
  show((T d ρ).bind fun ρ1=>(t ρ1).bind fun c=>if c=true then(f ρ1).bind fun y=>(lcD T t f ρ r).bind fun ys=>some (y::ys) else lcD T t f ρ r)=some (g d::r.map g)
  simp[e1,e2,e3,e4]
theorem Paired.mem_right {α β:Type}{R:α->β->Prop} : ∀ {as:List α} {bs:List β},eP R as bs -> ∀ b∈bs,∃ a∈as,R a b:=by
 intro as bs h
 induction h with
 | nil=>exact fun b m=>by simp at m
 | cons h _ ih=>
  intro b m
  rcases cQ.mp m with rfl | m
  ·exact⟨_,bR,h⟩
  ·obtain⟨a,ha,hr⟩:=ih b m
   exact⟨a,bZ _ ha,hr⟩
theorem WA {F G:SF}{ρ ρ':bC}(h:F ρ=some (.nx ρ')):aZ F G ρ=G ρ':=by
 unfold aZ
 rw[h]
 rfl
theorem Da {F G:SF}{ρ:bC}{d:aA}(h:F ρ=some (.rt d)):aZ F G ρ=some (.rt d):=by
 unfold aZ
 rw[h]
 rfl
theorem Gg {m:Md}{fi:AF}{T:aA->bC->Option bC}{F:SF}{ρ:bC}{ds:List aA}{o:Out}(h:aV m fi ρ=some ds)(h2:nP F T ds ρ=some o):eR m fi T F ρ=some o:=by
 unfold eR
 rw[h]
 exact h2
theorem MJ {np n:Nat}{body:SF}{ds:List aA}{d:aA}(hl:ds.length=np)(h:body (ds.map (fun d=>some (0,d))++mC (n - np) none)=some (.rt d)):fnD np n body ds=some d:=by
 unfold fnD
 rw[if_pos hl,h]
 rfl
theorem Nf {α β:Type}{R:α->β->Prop}{as:List α}{bs:List β}(h:eP R as bs):bs.length=as.length:=(pI h).symm
theorem VR {β:Type}{g:β->aA}{R:β->Prop} : ∀ (ys:List aA),(∀ y∈ys,∃ c,y=g c/\R c) -> ∃ cs:List β,ys=cs.map g /\ ∀ c∈cs,R c
 | [],_=>⟨[],rfl,fun _ m=>by simp at m⟩
 | y::r,h=>by
  obtain⟨c,e,hc⟩:=h y bR
  obtain⟨cs,e2,h2⟩:=VR r fun z m=>h z (bZ _ m)
  refine⟨c::cs,by rw[e,e2]; rfl,fun x m=>?_⟩
  rcases cQ.mp m with rfl | m
  ·exact hc
  ·exact h2 x m
theorem Gb {ds:List aA}{k:Nat}(h:k≤ds.length):cutD ds none (some (k:Int))=ds.take k:=by
 unfold cutD
 rw[HT.Apv,HT.A0x]
 simp[YU h]
theorem gE {n:Nat}(h:n≤100000):n≤sizeLine:=iR h (by decide)
theorem AX {n:Nat}(h:n≤100000):n<sizeLine:=YV h (by decide)
noncomputable def letter (c:Nat):Bool:=decide (97≤c)&&decide (c≤122)
noncomputable def figure (c:Nat):Bool:=decide (48≤c)&&decide (c≤57)
noncomputable def iF (c:Nat):Bool:=letter c||figure c
theorem Vb {c:Nat}(h:letter c=true):iF c=true:=by simp[iF,h]
theorem HP {c:Nat}(h:iF c=true):c<128:=by
 simp[iF,letter,figure] at h
 omega
def Bk (cs:List Nat):Prop:=∃ c r,cs=c::r/\letter c=true/\(∀ x∈cs,iF x=true)/\cs.length≤12
noncomputable abbrev jK (cs:List Nat):aB:=⟨cs.toArray⟩
def nameS (z:aB):Prop:=Bk z.cps.toList
theorem Fz {z:aB}(h : ∀ c∈z.cps.toList,iF c=true):cA (.str z)=true:=by
 have:z.cps.all (fun x=>decide (x<1114112))=true:=by
  rw[ZW]
  intro x hx
  have:=HP (h x (by simpa using hx))
  simp; omega
 simpa [cA,sN] using this
theorem nameS.lay {z:aB}(h:nameS z):cA (.str z)=true:=by
 obtain⟨c,r,_,_,h,_⟩:=h
 exact Fz h
noncomputable def cO (c:Nat):aA:=.str ⟨#[c]⟩
noncomputable def SIGNS:aB:="abcdefghijklmnopqrstuvwxyz0123456789"
theorem signs_at : ∀ j<36,∃ c,SIGNS.cps.toList[j]?=some c/\iF c=true/\(j<26->letter c=true):=by decide +kernel
theorem PV {i:Int}(h0:0≤i)(h1:i<36) : ∃ c,gIx (.str SIGNS) (.int i)=some (cO c)/\iF c=true/\(i<26->letter c=true):=by
 obtain⟨j,rfl⟩:=oF h0
 obtain⟨c,e,h2,h3⟩:=signs_at j (by omega)
 refine⟨c,?_,h2,fun h=>h3 (by omega)⟩
 show(if SIGNS.length≤sizeLine then(atI SIGNS.cps.toList (j:Int)).bind fun c=>some (bO ⟨#[c]⟩) else none)=_
 rw[if_pos (by decide +kernel),oU e]
 rfl
theorem SJ : ∀ cs:List Nat,lJ (cs.map cO)=some (cs.map fun c=>(⟨#[c]⟩:aB))
 | []=>rfl
 | c::r=>by
  show((lJ (r.map cO)).bind fun xs=>some ((⟨#[c]⟩:aB)::xs))=_
  rw[SJ r]
  rfl
theorem PJ : ∀ cs:List Nat,((cs.map fun c=>(⟨#[c]⟩:aB)).map (·.length)).sum=cs.length
 | []=>rfl
 | c::r=>by
  rw[fE,fE,List.sum_cons,PJ r,fF]
  show 1+r.length=r.length+1
  omega
theorem BC {cs:List Nat}(h:cs.length≤1000):mJ (.str "") (.list (cs.map cO))=some (.str (jK cs)):=by
 show((lJ (cs.map cO)).bind fun ys=>if (ys.map (·.length)).sum+ys.length*(kE "").length≤16777216 then some (bO (dN (kE "") ys)) else none)=_
 rw[SJ]
 simp only[cK,PJ,dJ]
 rw[if_pos (by
  have:(kE "").length=0:=by decide +kernel
  rw[this]; omega)]
 have:=SD cs
 have e:(kE "")=(⟨#[]⟩:aB):=by decide +kernel
 rw[e,this]
noncomputable def bN (c k:Int):Int:=(c%2147483647*48271+k*k*69621+k+11)%2147483629*((c%2147483647*48271+k*k*69621+k+11)%2147483629)%2147483587
theorem gC (a:Int){b:Int}(h:0<b):0≤a%b/\a%b<b:=⟨Int.emod_nonneg _ (by omega),Int.emod_lt_of_pos _ h⟩
def Goes (F:SF)(ρ:bC)(P:Out->Prop):Prop:=∃ o,F ρ=some o/\P o
variable {F G:SF}{ρ:bC}{P:Out->Prop}{m:Md}
theorem Goes.mono {P':Out->Prop}(h:Goes F ρ P)(k : ∀ o,P o->P' o):Goes F ρ P':=by
 obtain⟨o,e,p⟩:=h
 exact⟨o,e,k o p⟩
theorem tD {ρ':bC}(h:F ρ=some (.nx ρ'))(k:P (.nx ρ')):Goes F ρ P:=⟨_,h,k⟩
theorem dM {ρ':bC}(h:F ρ=some (.nx ρ'))(k:Goes G ρ' P):Goes (aZ F G) ρ P:=by
 obtain⟨o,e,p⟩:=k
 exact⟨o,by rw[WA h]; exact e,p⟩
theorem gF (I:bC->Prop)(h:Goes F ρ fun o=>∃ ρ',o = .nx ρ'/\I ρ')(k : ∀ ρ',I ρ'->Goes G ρ' P):Goes (aZ F G) ρ P:=by
 obtain⟨o,e,ρ',rfl,i⟩:=h
 exact dM e (k ρ' i)
theorem Ht {d:aA}(h:F ρ=some (.rt d))(k:P (.rt d)):Goes (aZ F G) ρ P:=⟨_,Da h,k⟩
theorem ML {t:BF}{b:Bool}(h:bV m t ρ=some b)(k:Goes (if b=true then F else G) ρ P):Goes (sIf m t F G) ρ P:=by
 obtain⟨o,e,p⟩:=k
 refine⟨o,?_,p⟩
 show((bV m t ρ).bind fun b=>if b=true then F ρ else G ρ)=some o
 rw[h]
 cases b
 ·exact e
 ·exact e
theorem fQ {t:BF}(h:bV m t ρ=some true)(k:Goes F ρ P):Goes (sIf m t F G) ρ P:=ML h k
theorem JN {t:BF}(h:bV m t ρ=some false)(k:Goes G ρ P):Goes (sIf m t F G) ρ P:=ML h k
theorem NC (k:P (.nx ρ)):Goes cZ ρ P:=⟨_,rfl,k⟩
theorem fM {t:BF}(h:bV m t ρ=some false):sIf m t F cZ ρ=some (.nx ρ):=by
 unfold sIf
 rw[h]
 rfl
theorem iY (h:Goes F ρ fun o=>∃ d,o = .rt d/\P o):Goes (aZ F G) ρ P:=by
 obtain⟨o,e,d,rfl,p⟩:=h
 exact Ht e p
theorem Jx {n:Nat}{f:EF}{d:aA}(h:f (vA ρ)=some d)(hf:iG n d=true)(k:P (.rt d)):Goes (bX n .a f) ρ P:=⟨_,by
 unfold bX eV
 simp only[h,cK,hf,Bool.true_or,if_true],k⟩
theorem cN {n:Nat}{f:EF}{d:aA}(h:f (vS ρ)=some d)(k:P (.rt d)):Goes (bX n .s f) ρ P:=⟨_,by
 unfold bX eV
 simp only[h,cK],k⟩
theorem WG {i n:Nat}{f:EF}{d:aA}(h:eV n m f ρ=some d)(hl:i<ρ.length)(k:P (.nx (ρ.set i (some (n,d))))):Goes (bL i n m f) ρ P:=
 ⟨_,by unfold bL; rw[h]; simp only[cK,if_pos hl],k⟩
theorem xJ {i n:Nat}{f:EF}{d:aA}(h:f (vS ρ)=some d)(hl:i<ρ.length)(k:P (.nx (ρ.set i (some (n,d))))):Goes (bL i n .s f) ρ P:=WG h hl k
theorem rP {i:Nat}(h:Goes F (frz i ρ) P):Goes (nQ i F) ρ P:=h
theorem Fc {n:Nat}(h:n≤1000000):FC 0 (n:Int)=some ((cU n).map fun(k:Nat)=>dA k):=by
 unfold FC
 rw[if_pos (by omega)]
 simp
theorem oR {fa:AF}{ρ:List (Option aA)}{n:Nat}(h:fa ρ=some [.int n])(hn:n≤1000000):iR1 fa ρ=some ((cU n).map fun(k:Nat)=>dA k):=by
 have e:=Fc hn
 generalize some ((cU n).map fun(k:Nat)=>dA k)=y at e ⊢
 rw[← e]
 unfold iR1
 rw[h,cK]
theorem avS {fi:AF}{ds:List aA}(h:fi (vS ρ)=some ds):aV .s fi ρ=some ds:=h
theorem AR {fi:AF}{T:aA->bC->Option bC}{ds:List aA}(I:Nat->bC->Prop)(h:aV m fi ρ=some ds)(h0:I 0 ρ)
  (step : ∀ i d ρ,ds[i]?=some d->I i ρ -> ∃ ρ1,T d ρ=some ρ1/\Goes F ρ1 fun o=>∃ ρ2,(o = .nx ρ2 \/ o = .ct ρ2)/\I (i+1) ρ2) (k : ∀ ρ',I ds.length ρ'->P (.nx ρ')):Goes (eR m fi T F) ρ P:=by
 obtain⟨ρ',e,i⟩:=Uk I h0 fun i d ρ hd p=>by
  obtain⟨ρ1,e1,o,e2,ρ2,e3,p2⟩:=step i d ρ hd p
  refine⟨ρ1,ρ2,e1,?_,p2⟩
  rcases e3 with rfl | rfl
  ·exact .inl e2
  ·exact .inr e2
 exact⟨_,Gg h e,k ρ' i⟩
theorem uA {fi:AF}{T:aA->bC->Option bC}{n:Nat}(I:Nat->bC->Prop)(h:aV m fi ρ=some ((cU n).map fun(k:Nat)=>dA k))(h0:I 0 ρ)
  (step : ∀ (i:Nat) ρ,i<n->I i ρ -> ∃ ρ1,T (.int i) ρ=some ρ1/\Goes F ρ1 fun o=>∃ ρ2,(o = .nx ρ2 \/ o = .ct ρ2)/\I (i+1) ρ2) (k : ∀ ρ',I n ρ'->P (.nx ρ')):Goes (eR m fi T F) ρ P:=by
 refine AR I h h0 (fun i d ρ hd p=>?_) (by simpa using k)
 have hlt:i<n:=by
  have:=(fL.mp hd).1
  simpa using this
 rw[fK,List.getElem?_range hlt] at hd
 have:dA (i:Int)=d:=by simpa using hd
 subst this
 exact step i ρ hlt p
theorem mL {np n:Nat}{body:SF}{ds:List aA}{Q:aA->Prop}(hl:ds.length=np)(h:Goes body (ds.map (fun d=>some (0,d))++mC (n - np) none) fun o=>∃ d,o = .rt d/\Q d) : ∃ d,fnD np n body ds=some d/\Q d:=by
 obtain⟨o,e,d,rfl,q⟩:=h
 exact⟨d,MJ hl e,q⟩
theorem Ck {cap:List (Option Nat)}{fi:AF}{T:aA->List (Option aA)->Option (List (Option aA))}{t:BF}{f:EF}{ρ:List (Option aA)}{ds:List aA}(R:aA->aA->Prop)(h1:fi ρ=some ds)(h2:ds.length≤100000)
  (h : ∀ d∈ds,∃ ρ1 y,T d (kP cap ρ)=some ρ1/\t ρ1=some true/\f ρ1=some y/\R d y) : ∃ ys,eLC cap fi T t f ρ=some (.list ys)/\eP R ds ys:=by
 obtain⟨ys,e,hp⟩:=NH R ds h
 refine⟨ys,?_,hp⟩
 unfold eLC
 rw[h1,cK,e,cK,if_pos (gE h2)]
theorem tO {cap:List (Option Nat)}{fi:AF}{T:aA->List (Option aA)->Option (List (Option aA))}{t:BF}{f:EF}{ρ:List (Option aA)}{ds:List aA}(g:aA->aA)(h1:fi ρ=some ds)(h2:ds.length≤100000)
  (h : ∀ d∈ds,∃ ρ1,T d (kP cap ρ)=some ρ1/\t ρ1=some true/\f ρ1=some (g d)):eLC cap fi T t f ρ=some (.list (ds.map g)):=by
 unfold eLC
 rw[h1,cK,XT g ds h,cK,if_pos (gE h2)]
theorem XF {cap:List (Option Nat)}{fi:AF}{T:aA->List (Option aA)->Option (List (Option aA))}{t:BF}{f:EF}{ρ:List (Option aA)}{n:Nat}{β:Type}(g:β->aA)(R:β->Prop)(h1:fi ρ=some ((cU n).map fun(k:Nat)=>dA k))(h2:n≤100000)
  (h : ∀ k<n,∃ ρ1 y,T (.int (k:Nat)) (kP cap ρ)=some ρ1/\t ρ1=some true/\f ρ1=some (g y)/\R y) : ∃ ys:List β,eLC cap fi T t f ρ=some (.list (ys.map g))/\ys.length=n /\ ∀ y∈ys,R y:=by
 obtain⟨ys,e,hp⟩:=Ck (fun _ y=>∃ x,y=g x/\R x) h1 (by simpa using h2) fun d m=>by
  obtain⟨k,hk,rfl⟩:=bW.mp m
  obtain⟨ρ1,y,a1,a2,a3,a4⟩:=h k (by simpa using hk)
  exact⟨ρ1,g y,a1,a2,a3,y,rfl,a4⟩
 obtain⟨xs,rfl,hx⟩:=VR ys fun y m=>by
  obtain⟨_,_,x,e,hx⟩:=L2.Paired.mem_right hp y m
  exact⟨x,e,hx⟩
 have:=Nf hp
 exact⟨xs,e,by simpa using this,hx⟩
end L2
namespace L2
open PySem PySem.Spec PyProof.Rows
variable {F G:SF}{ρ:bC}{P:Out->Prop}{m:Md}
theorem lR {f:EF}{ρ:List (Option aA)}{ds:List aA}(h:f ρ=some (.list ds)):iIt f ρ=some ds:=by
 unfold iIt
 rw[h]
 rfl
theorem lQ {f:EF}{ρ:List (Option aA)}{ds:List aA}(h:f ρ=some (.tuple ds)):iIt f ρ=some ds:=by
 unfold iIt
 rw[h]
 rfl
theorem bH {fa:AF}{g:List aA->Option aA}{ρ:List (Option aA)}{ds:List aA}{d:aA}(h:fa ρ=some ds)(h2:g ds=some d):aL g fa ρ=some d:=by
 unfold aL
 rw[h]
 exact h2
theorem bE {fa fb:EF}{g:aA->aA->Option aA}{ρ:List (Option aA)}{a b d:aA}(h:fa ρ=some a)(h2:fb ρ=some b)(h3:g a b=some d):eOp g fa fb ρ=some d:=by
 unfold eOp
 rw[h,h2]
 exact h3
theorem JM {ds:List aA}(i:Int)(h:0<ds.length) : ∃ (j:Nat) (d:aA),ds[j]?=some d/\atI ds (i%(ds.length:Int))=some d:=by
 have b:=gC i (show(0:Int)<ds.length by omega)
 obtain⟨j,e⟩:=oF b.1
 have hj:j<ds.length:=by omega
 exact⟨j,ds[j],fS hj,by rw[e]; exact oU (fS hj)⟩
theorem Im {i:Nat}{f:EF}{d:aA}{ds:List aA}(h:f (vA ρ)=some d)(hf:fZ d=true)(hg:getL i ρ=some ds)(hl:ds.length<100000)(k:P (.nx (ρ.set i (some (1,.list (ds++[d])))))):Goes (kO i .a f) ρ P:=⟨_,by
 unfold kO eV
 simp only[h,cK,iG,hf,Bool.true_or,if_true,hg,if_pos (AX (sQ hl))],k⟩
theorem xE {i:Nat}{f:EF}{d:aA}{ds:List aA}(h:f (vS ρ)=some d)(hg:getL i ρ=some ds)(hl:ds.length<100000)(k:P (.nx (ρ.set i (some (1,.list (ds++[d])))))):Goes (kO i .s f) ρ P:=⟨_,by
 unfold kO eV
 simp only[h,cK,hg,if_pos (AX (sQ hl))],k⟩
theorem Gq {i:Nat}{f g:EF}{d:aA}{kd:aA}{key:aO}{kds:List (aA×aA)}(h:f (vS ρ)=some d)(hg:AI i ρ=some kds)(hk:g (vS ρ)=some kd)(ha:fO kd=some key)(hl:kds.length<100000)(k:P (.nx (ρ.set i (some (1,.dict (putD kds key d)))))):Goes (DU i .s f .s g) ρ P:=⟨_,by
 unfold DU eV
 simp only[h,cK,hg,hk,ha,if_pos (AX (sQ hl))],k⟩
theorem BU : ∀ {ts:List aA},(∀ t∈ts,bD t=true)->cC ts=true
 | [],_=>by simp[cC]
 | t::r,h=>by
  simp only[cC,mF]
  exact⟨h t bR,BU fun x m=>h x (bZ _ m)⟩
theorem CB {n:Nat} : ∀ {ts:List aA},(∀ t∈ts,t.depth≤n)->dI ts≤n
 | [],_=>by simp[dI]
 | t::r,h=>by
  simp only[dI]
  exact Nat.max_le.mpr ⟨h t bR,CB fun x m=>h x (bZ _ m)⟩
theorem QI : ∀ {ts:List aA},(∀ t∈ts,fZ t=true)->nG ts=true
 | [],_=>by simp[nG]
 | t::r,h=>by
  simp only[nG,mF]
  exact⟨h t bR,QI fun x m=>h x (bZ _ m)⟩
theorem xZ : ∀ {ts:List aA},(∀ t∈ts,noDict t=true)->noDicts ts=true
 | [],_=>by simp[noDicts]
 | t::r,h=>by
  simp only[noDicts,mF]
  exact⟨h t bR,xZ fun x m=>h x (bZ _ m)⟩
theorem Ej {kds:List (aA×aA)}(h : ∀ kd∈kds,kd.1 ≠ .none):plK kds=true:=by
 cases kds with
 | nil=>rfl
 | cons p r=>
  obtain⟨k,d⟩:=p
  have:=h (k,d) bR
  cases k <;> first | rfl | exact absurd rfl this
theorem RE : ∀ (kss:List (List aA)) (acc:List (List aA)),(kss.foldl fY acc).length≤acc.length+kss.length
 | [],_=>by simp
 | x::r,acc=>by
  have:=RE r (fY acc x)
  have h2:(fY acc x).length≤acc.length+1:=by unfold fY; split <;> simp
  simp only[lF,fF]
  omega
end L2
namespace L2
open PySem PySem.Spec PyProof.Rows
variable {F G:SF}{ρ:bC}{P:Out->Prop}{m:Md}
theorem xH {α β:Type}{fi:AF}{T:aA->bC->Option bC}{xs:List α}{q:α->aA}(g:β->α->β)(I:Nat->β->bC->Prop){b0:β}(h:aV m fi ρ=some (xs.map q))(h0:I 0 b0 ρ)
  (step : ∀ i x b ρ,xs[i]?=some x->I i b ρ -> ∃ ρ1,T (q x) ρ=some ρ1/\Goes F ρ1 fun o=>∃ ρ2,(o = .nx ρ2 \/ o = .ct ρ2)/\I (i+1) (g b x) ρ2) (k : ∀ ρ',I xs.length (xs.foldl g b0) ρ'->P (.nx ρ')):Goes (eR m fi T F) ρ P:=by
 refine AR (fun i ρ=>I i ((xs.take i).foldl g b0) ρ) h h0 (fun i d ρ hd p=>?_) (fun ρ' p=>k ρ' (by simpa using p))
 rw[fK] at hd
 obtain⟨x,hx,rfl⟩:=kH.mp hd
 obtain⟨ρ1,e1,g1⟩:=step i x _ ρ hx p
 refine⟨ρ1,e1,g1.mono fun o ⟨ρ2,e,q⟩=>⟨ρ2,e,?_⟩⟩
 have:xs.take (i+1)=xs.take i++[x]:=by rw[zS,hx]; rfl
 rw[this,KO]
 exact q
theorem OL {T:aA->List (Option aA)->Option (List (Option aA))}{t:BF}{f:EF}{ρ:List (Option aA)}{α:Type}{q:α->aA}(p:α->Bool)(g:α->aA) : ∀ (xs:List α),
  (∀ x∈xs,∃ ρ1,T (q x) ρ=some ρ1/\t ρ1=some (p x)/\(p x=true->f ρ1=some (g x)))->lcD T t f ρ (xs.map q)=some ((xs.filter p).map g)
 | [],_=>rfl
 | x::xs,h=>by
  obtain⟨ρ1,e1,e2,e3⟩:=h x bR
  have ih:=OL p g xs fun y m=>h y (bZ _ m)
  show((T (q x) ρ).bind fun ρ1=>(t ρ1).bind fun c=>if c=true then(f ρ1).bind fun y=>(lcD T t f ρ (xs.map q)).bind fun ys=>some (y::ys) else lcD T t f ρ (xs.map q))=_
  rw[e1,cK,e2,cK,ih]
  cases hp:p x with
  | true=>rw[if_pos rfl,e3 hp,List.filter_cons_of_pos hp]; rfl
  | false=>rw[if_neg (by simp),List.filter_cons_of_neg (by simp[hp])]
theorem mR {cap:List (Option Nat)}{fi:AF}{T:aA->List (Option aA)->Option (List (Option aA))}{t:BF}{f:EF}{ρ:List (Option aA)}{α:Type}{xs:List α}{q:α->aA}(p:α->Bool)(g:α->aA)(h1:fi ρ=some (xs.map q))(h2:xs.length≤100000)
  (h : ∀ x∈xs,∃ ρ1,T (q x) (kP cap ρ)=some ρ1/\t ρ1=some (p x)/\(p x=true->f ρ1=some (g x))):eLC cap fi T t f ρ=some (.list ((xs.filter p).map g)):=by
 unfold eLC
 rw[h1,cK,OL p g xs h,cK,if_pos (gE (by simpa using h2))]
theorem VG {i n:Nat}{f:EF}{d:aA}(h:eV n m f ρ=some d)(hl:i<ρ.length):bL i n m f ρ=some (.nx (ρ.set i (some (n,d)))):=by
 obtain⟨o,e,q⟩:=WG (P:=fun o=>o = .nx (ρ.set i (some (n,d)))) h hl rfl
 rw[e,q]
theorem fA {i n:Nat}{f:EF}{d:aA}(h:f (vS ρ)=some d)(hl:i<ρ.length)(k:Goes G (ρ.set i (some (n,d))) P):Goes (aZ (bL i n .s f) G) ρ P:=dM (VG h hl) k
theorem Cq {fa:EF}{g:aA->Option aA}{ρ:List (Option aA)}{a d:aA}(h:fa ρ=some a)(h3:g a=some d):eUn g fa ρ=some d:=by
 unfold eUn
 rw[h]
 exact h3
theorem cR {f:EF}{g:AF}{ρ:List (Option aA)}{d:aA}{ds:List aA}(h:f ρ=some d)(h2:g ρ=some ds):aF f g ρ=some (d::ds):=by
 unfold aF
 rw[h,h2]
 rfl
end L2
namespace L2
noncomputable def mI {α:Type}[DecidableEq α](acc:List α)(z:α):List α:=if z∈acc then acc else acc++[z]
noncomputable def DD {α:Type}[DecidableEq α](zs:List α):List α:=zs.foldl mI []
section
variable {α:Type}[DecidableEq α]
theorem Avn {acc:List α}{z x:α}:x∈mI acc z↔x∈acc \/ x=z:=by
 unfold mI
 split
 ·rename_i h
  exact⟨.inl,fun q=>q.elim id fun e=>e ▸ h⟩
 ·simp
theorem PZ {x:α} : ∀ (zs acc:List α),x∈zs.foldl mI acc↔x∈acc \/ x∈zs
 | [],acc=>by simp
 | z::zs,acc=>by
  rw[lF,PZ zs,Avn]
  simp only[cQ]
  constructor
  ·rintro((h | h) | h)
   ·exact .inl h
   ·exact .inr (.inl h)
   ·exact .inr (.inr h)
  ·rintro(h | h | h)
   ·exact .inl (.inl h)
   ·exact .inl (.inr h)
   ·exact .inr h
theorem Ws {x:α}{zs:List α}:x∈DD zs↔x∈zs:=by
 unfold DD
 rw[PZ]
 simp
theorem Ss (acc:List α)(z:α):(mI acc z).length≤acc.length+1:=by
 unfold mI
 split <;> simp
end
open PySem PySem.Spec PyProof.Rows
variable {R:aA->Prop}{kds:List (aA×aA)}
theorem WE {ds:List aA}{f:EF}{lo hi:OF}{ρ:List (Option aA)}{l u:Option Int}(e1:f ρ=some (.list ds))(e2:lo ρ=some l)(e3:hi ρ=some u):nR f lo hi ρ=some (.list (cutD ds l u)):=by
 unfold nR
 rw[e1,cK,e2,cK,e3,cK]
end L2
namespace L2
open PySem
theorem QE {ks:List aO} : ∀ {acc:List aO} {k:aO},k∈ks.foldl gK acc↔k∈acc \/ k∈ks:=by
 induction ks with
 | nil=>intro acc k; simp
 | cons x r ih=>
  intro acc k
  rw[lF,ih]
  unfold gK
  by_cases hx:x∈acc
  ·rw[if_pos hx]
   constructor
   ·rintro(h | h)
    ·exact .inl h
    ·exact .inr (bZ _ h)
   ·rintro(h | h)
    ·exact .inl h
    ·rcases cQ.mp h with rfl | h
     ·exact .inl hx
     ·exact .inr h
  ·rw[if_neg hx,iK,dP,cQ,or_assoc]
theorem OE {ks:List aO} : ∀ {acc:List aO},acc.Nodup->(ks.foldl gK acc).Nodup:=by
 induction ks with
 | nil=>intro acc h; exact h
 | cons x r ih=>
  intro acc h
  rw[lF]
  refine ih ?_
  unfold gK
  by_cases hx:x∈acc
  ·rw[if_pos hx]; exact h
  ·rw[if_neg hx]
   refine ZA.mpr ⟨h,by simp,fun a ha b hb=>?_⟩
   rw[dP.mp hb]
   exact fun e=>hx (e ▸ ha)
end L2
namespace Aw
open PySem L2
noncomputable abbrev s0 (d:aA):L2.Slot:=some (0,d)
noncomputable abbrev lI (ms:List Int):aA:=.list (ms.map dA)
def DV (n:Nat)(z:aB):Prop:=cA (.str z)=true/\z.length≤n
theorem Sa {n m:Nat}{y z:aB}(h:DV n y)(h2:DV m z)(hs:n+m≤100000):bS (.str y) (.str z)=some (.str (y++z)):=by
 show(if y.length+z.length≤sizeLine then some (bO (y++z)) else none)=_
 rw[if_pos (gE (by have:=h.2; have:=h2.2; omega))]
theorem Ju:DV 26 "abcdefghijklmnopqrstuvwxyz":=⟨by decide +kernel,by decide +kernel⟩
theorem tW (a b:Int):gEq (.int a) (.int b)=some (.bool (decide (a=b))):=by
 congr 2
theorem WQ {α:Type}{q:α->aA}{xs:List α}{j:Nat}{x:α}(h:xs[j]?=some x):gIx (.list (xs.map q)) (.int j)=some (q x):=oU (by rw[fK,h]; rfl)
noncomputable abbrev tK (ks:List aO):aA:=.tuple (ks.map kD)
theorem rS (ds:List aA):cB [.tuple ds]=some (.int ds.length):=by simp[cB]
theorem fP {f:EF}{ρ:List (Option aA)}{b:Bool}(h:f ρ=some (.bool b)):bOf f ρ=some b:=by
 unfold bOf
 rw[h]
 rfl
theorem PH (a b:aO):cP (kD a) (kD b)=decide (a=b):=by
 cases a with
 | inl i=>cases b with
  | inl j=>
   rw[show cP (kD (.inl i)) (kD (.inl j))=(i == j) by simp[kD,cP],AD]
   simp
  | inr y=>simp[kD,cP]
 | inr x=>cases b with
  | inl j=>simp[kD,cP]
  | inr y=>
   rw[show cP (kD (.inr x)) (kD (.inr y))=(x == y) by simp[kD,cP],AD]
   simp
theorem Ji (a b:aO):gEq (kD a) (kD b)=some (.bool (decide (a=b))):=by
 have h1 : ∀ k:aO,dE (kD k)=true:=fun k=>by cases k <;> rfl
 unfold gEq
 rw[h1 a,h1 b,PH]
 rfl
noncomputable def isS:aO->Bool
 | .inr _=>true
 | .inl _=>false
theorem La {α:Type}[DecidableEq α]{xs ys:List α}(h1:xs.Nodup)(h2:ys.Nodup)(h : ∀ a,a∈xs↔a∈ys):xs.length=ys.length:=
 Nat.le_antisymm (KR h1 fun a m=>(h a).mp m) (KR h2 fun a m=>(h a).mpr m)
theorem oV {a b:EF}{ρ:List (Option aA)}{x y:Bool}(h:a ρ=some (.bool x))(h2:x=true->b ρ=some (.bool y)):lM a b ρ=some (.bool (x&&y)):=by
 unfold lM
 cases x with
 | true=>rw[h,cK,show asB (.bool true)=some true from rfl,cK,if_pos rfl,h2 rfl]; rfl
 | false=>rw[h,cK,show asB (.bool false)=some false from rfl,cK,if_neg (by simp)]; rfl
theorem tT {fa:AF}{ρ:List (Option aA)}{ds:List aA}(h:fa ρ=some ds)(hl:ds.length≤1000:=by simp):gV fa ρ=some (.tuple ds):=by
 unfold gV
 rw[h,cK,if_pos (gE (by omega))]
abbrev Ln:=aB×List aO
noncomputable def bI (l:Ln):aA:=.tuple [.str l.1,.tuple (l.2.map kD)]
theorem xK (a b:aB):gEq (.str a) (.str b)=some (.bool (decide (a=b))):=(Ji (.inr a) (.inr b)).trans (by simp)
theorem He (a b:aB):gNe (.str a) (.str b)=some (.bool (decide (a≠b))):=by
 have h2:=PH (.inr a) (.inr b)
 unfold gNe
 rw[show dE (.str a)=true from rfl,show dE (.str b)=true from rfl]
 show some (fD (!cP (kD (.inr a)) (kD (.inr b))))=_
 rw[h2]
 simp
theorem Ov (xs:List aO):noDicts (xs.map kD)=true:=xZ fun t m=>by
 obtain⟨x,_,rfl⟩:=bW.mp m
 cases x <;> rfl
theorem Mr (xs:List aO):dI (xs.map kD)≤1:=CB fun t m=>by
 obtain⟨x,_,rfl⟩:=bW.mp m
 cases x <;> simp[kD,fV]
theorem iN (c k:Int)(h0:0≤k)(h1:k≤1000000):dW [.int c,.int k]=some (.int (bN c k)):=by
 have b:=gC (c%2147483647*48271+k*k*69621+k+11) (show(0:Int)<2147483629 by decide)
 have hk:k.natAbs<18446744073709551616:=by omega
 have hn:((c%2147483647*48271+k*k*69621+k+11)%2147483629).natAbs<18446744073709551616:=by omega
 simp[dW,TK,fnD,aZ,bL,bX,eV,vS,eOp,aC,eC,outD,bS,fN,bT,g2C,hk,hn,bN]
theorem uD {ns:List Int}{k:Int}(h0:0≤k)(h1:k≤1000000) : ∃ c,iP [.list (ns.map dA),.int k]=some (.int c):=by
 have hk:k.natAbs<18446744073709551616:=by omega
 have at_ : ∀ i:Int,0≤i->i<ns.length -> ∃ c,gIx (.list (ns.map dA)) (.int i)=some (.int c):=fun i a b=>by
  obtain⟨j,rfl⟩:=oF a
  have hj:j<ns.length:=by omega
  exact⟨ns[j],oU (by rw[fK,fS hj]; rfl)⟩
 by_cases hl:k<(ns.length:Int)
 ·obtain⟨c,e⟩:=at_ k h0 hl
  exact⟨c,by simp[iP,CM,fnD,aZ,bL,bX,sIf,cZ,eV,bV,vS,eOp,aC,eC,aL,aF,aJ,bOf,asB,outD,bS,fN,bT,g2I,g2C,gLt,gGt,cB,hl,e]⟩
 ·by_cases hz:(0:Int)<ns.length
  ·obtain⟨c,e⟩:=at_ (k*7%(ns.length:Int)) (gC _ hz).1 (gC _ hz).2
   have b:=gC (c*48271+k*7919) (show(0:Int)<2147483647 by decide)
   have hn:((c*48271+k*7919)%2147483647).natAbs<18446744073709551616:=by omega
   have hz':0<ns.length:=by omega
   exact⟨_,by simp[iP,CM,fnD,aZ,bL,bX,sIf,cZ,eV,bV,vS,eOp,aC,eC,aL,aF,aJ,bOf,asB,outD,bS,fN,bT,g2I,g2C,gLt,gGt,cB,hl,hz',hk,e,hn]; rfl⟩
  ·have hz':ns=[]:=by
    cases ns with
    | nil=>rfl
    | cons a r=>exact absurd (by simp) hz
   have hn:(k*7919+5).natAbs<18446744073709551616:=by omega
   have hl' : ¬ k<0:=by omega
   subst hz'
   exact⟨_,by simp[iP,CM,fnD,aZ,bL,bX,sIf,cZ,eV,bV,vS,eOp,aC,eC,aL,aF,aJ,bOf,asB,outD,bS,fN,bT,g2I,g2C,gLt,gGt,cB,hl',hk,hn]; rfl⟩
def baseOk (cs:List Nat)(s:Nat):Prop:=cs.length=s/\(∀ c∈cs,iF c=true) /\ ∃ c r,cs=c::r/\letter c=true
theorem baseOk.set {cs:List Nat}{s j c:Nat}(h:baseOk cs s)(hc:iF c=true)(hl:j=0->letter c=true):baseOk (cs.set j c) s:=by
 obtain⟨h1,h2,c0,r,e,h3⟩:=h
 refine⟨by simpa using h1,fun x m=>?_,?_⟩
 ·rcases ZC m with q | q
  ·exact h2 x q
  ·rw[q]; exact hc
 ·subst e
  cases j with
  | zero=>exact⟨c,r,rfl,hl rfl⟩
  | succ j=>exact⟨c0,r.set j c,rfl,h3⟩
theorem baseOk.name {cs:List Nat}{s:Nat}(h:baseOk cs s)(hs:s≤12):nameS (jK cs):=by
 obtain⟨h1,h2,c0,r,e,h3⟩:=h
 exact⟨c0,r,e,h3,h2,by show cs.length≤12; omega⟩
theorem RB (cs:List Nat)(j c:Nat):(cs.map cO).set j (cO c)=(cs.set j c).map cO:=by rw[List.map_set]
theorem BQ {α β:Type}{f:α->β} : ∀ {l:List α},(∀ a∈l,∀ b∈l,f a=f b->a=b)->l.Nodup->(l.map f).Nodup
 | [],_,_=>by simp
 | x::l,h,nd=>by
  rw[nY] at nd
  rw[fE,nY]
  refine⟨fun m=>?_,BQ (fun a ma b mb=>h a (bZ _ ma) b (bZ _ mb)) nd.2⟩
  obtain⟨y,my,e⟩:=bW.mp m
  exact nd.1 (h y (bZ _ my) x bR e ▸ my)
noncomputable def sgn (j:Nat):Nat:=SIGNS.cps.toList.getD j 0
theorem GJ : ∀ j<36,SIGNS.cps.toList[j]?=some (sgn j)/\iF (sgn j)=true/\(j<26->letter (sgn j)=true):=by decide +kernel
theorem Jn : ∀ i<36,∀ j<36,sgn i=sgn j->i=j:=by decide +kernel
theorem Ez {i:Int}(h0:0≤i)(h1:i<36):gIx (.str SIGNS) (.int i)=some (cO (sgn i.toNat)):=by
 obtain⟨j,rfl⟩:=oF h0
 obtain⟨e,_,_⟩:=GJ j (by omega)
 show(if SIGNS.length≤sizeLine then(atI SIGNS.cps.toList (j:Int)).bind fun c=>some (bO ⟨#[c]⟩) else none)=_
 rw[if_pos (by decide +kernel),oU e]
 rfl
theorem PX {a b:List Nat}(h:jK a=jK b):a=b:=by
 have h:a.toArray=b.toArray:=by injection h
 simpa using h
theorem We {cs:List Nat}{s k:Nat}(h:baseOk cs s)(hs:s≤12):nameS (jK (cs.take (k+1))):=by
 obtain⟨h1,h2,c0,r,e,h3⟩:=h
 refine⟨c0,r.take k,by subst e; rfl,h3,fun x m=>h2 x (KL m),?_⟩
 show(cs.take (k+1)).length≤12
 rw[kK]; omega
theorem Vq (zs:List aB):iG 1 (.list (zs.map bO))=true:=by
 simp[iG,fZ]
theorem OZ (c:Int){n:Nat}(hn:n≤12) : ∃ zs:List aB,qH [.int c,.int n]=some (.list (zs.map bO))/\zs.length=n/\(∀ z∈zs,nameS z)/\zs.Nodup:=by
 suffices h : ∃ d,qH [.int c,.int n]=some d /\ ∃ zs:List aB,d = .list (zs.map bO)/\zs.length=n/\(∀ z∈zs,nameS z)/\zs.Nodup by
  obtain⟨_,e,zs,rfl,h⟩:=h
  exact⟨zs,e,h⟩
 refine mL rfl ?_
 refine dM (ρ':=[s0 (.int c),s0 (.int n),s0 (.str SIGNS),none,none,none,none,none]) (by simp[bL,eV,eC,SIGNS]) ?_
 refine dM (ρ':=[s0 (.int c),s0 (.int n),s0 (.str SIGNS),s0 (.int (1+bN c 1%12)),none,none,none,none]) (by simp[bL,eV,vS,eOp,aC,eC,aL,aF,aJ,bS,bT,g2C,iN]) ?_
 have b1:=gC (bN c 1) (show(0:Int)<12 by decide)
 refine gF (fun ρ'=>∃ s:Nat,1≤s/\s≤12/\(bN c 2%3=0->s=12)/\ρ'=[s0 (.int c),s0 (.int n),s0 (.str SIGNS),s0 (.int s),none,none,none,none]) ?_ ?_
 ·by_cases h3:bN c 2%3=0
  ·refine tD (ρ':=[s0 (.int c),s0 (.int n),s0 (.str SIGNS),s0 (.int 12),none,none,none,none]) (by simp[bL,sIf,cZ,eV,bV,vS,eOp,aC,eC,aL,aF,aJ,bOf,asB,bT,g2C,gEq,dE,noDict,fV,cP,iN,h3]) ⟨_,rfl,12,by omega,by omega,fun _=>rfl,rfl⟩
  ·refine tD (ρ':=[s0 (.int c),s0 (.int n),s0 (.str SIGNS),s0 (.int (1+bN c 1%12)),none,none,none,none]) (by simp[bL,sIf,cZ,eV,bV,vS,eOp,aC,eC,aL,aF,aJ,bOf,asB,bT,g2C,gEq,dE,noDict,fV,cP,iN,h3]) ⟨_,rfl,(1+bN c 1%12).toNat,by omega,by omega,fun h=>absurd h h3,?_⟩
   have e:((1+bN c 1%12).toNat:Int)=1+bN c 1%12:=by omega
   rw[e]
 rintro _ ⟨s,hs1,hs12,hsp,rfl⟩
 refine gF (fun ρ'=>∃ cs:List Nat,cs.length=s/\(∀ x∈cs,iF x=true)/\ρ'=[s0 (.int c),s0 (.int n),s0 (.str SIGNS),s0 (.int s),some (1,.list (cs.map cO)),none,none,none]) ?_ ?_
 ·obtain⟨cs,e,hl,ho⟩:=XF (cap:=[none,some 2,some 0]) (fi:=iR1 (aF (aC 3) aJ)) (T:=gB 0) (t:=cX) (f:=(eOp gIx (aC 1) (eOp bT (aL dW (aF (aC 2) (aF (eOp bS (eC (.int 30)) (aC 0)) aJ))) (eC (.int 36)))))
    (ρ:=vS [s0 (.int c),s0 (.int n),s0 (.str SIGNS),s0 (.int s),none,none,none,none]) (n:=s) cO (fun x=>iF x=true) (oR rfl (by omega)) (by omega) (fun k hk=>by
    have b:=gC (bN c (30+k)) (show(0:Int)<36 by decide)
    obtain⟨x,e,h1,_⟩:=PV b.1 b.2
    have e2:=iN c (30+(k:Int)) (by omega) (by omega)
    refine⟨[some (.int k),some (.str SIGNS),some (.int c)],x,rfl,rfl,?_,h1⟩
    simp only[eOp,aC,eC,aL,aF,aJ,bS,bT,g2C,cK,wG,pK,zQ,e2,if_pos (show(0:Int)<36 by decide),e])
  exact xJ e (by simp) ⟨_,rfl,cs,hl,ho,rfl⟩
 rintro _ ⟨cs0,hl,ho,rfl⟩
 refine gF (fun ρ'=>∃ cs:List Nat,baseOk cs s/\ρ'=[s0 (.int c),s0 (.int n),s0 (.str SIGNS),s0 (.int s),some (1,.list (cs.map cO)),none,none,none]) ?_ ?_
 ·have b:=gC (bN c 50) (show(0:Int)<26 by decide)
  obtain⟨x,e,h1,h2⟩:=PV b.1 (by omega)
  have hb:baseOk (cs0.set 0 x) s:=by
   refine⟨by simpa using hl,fun y m=>?_,?_⟩
   ·rcases ZC m with q | q
    ·exact ho y q
    ·rw[q]; exact h1
   ·cases cs0 with
    | nil=>simp at hl; omega
    | cons a r=>exact⟨x,r,rfl,h2 b.2⟩
  have hix:ixN (cs0.map cO).length 0=some 0:=by
   unfold ixN
   rw[if_pos (by decide),if_pos (by rw[dJ]; omega)]
   rfl
  refine tD (ρ':=[s0 (.int c),s0 (.int n),s0 (.str SIGNS),s0 (.int s),some (1,.list ((cs0.set 0 x).map cO)),none,none,none]) ?_ ⟨_,rfl,_,hb,rfl⟩
  simp only[rK,eV,vS,eOp,aC,eC,aL,aF,aJ,bT,g2C,getL,fE,wG,pK,zQ,cK,iN c 50 (by omega) (by omega),if_pos (show(0:Int)<26 by decide),e,hix]
  rw[← RB]
  rfl
 rintro _ ⟨cs,hb,rfl⟩
 by_cases h3:bN c 2%3=0
 ·have hs:=hsp h3
  subst hs
  have e:=tO (cap:=[none,some 4]) (fi:=iR1 (aF (aC 1) aJ)) (T:=gB 0) (t:=cX) (f:=(eOp mJ (eC (.str "")) (nR (aC 1) oN (oS (eOp bS (aC 0) (eC (.int 1)))))))
    (ρ:=vA [s0 (.int c),s0 (.int n),s0 (.str SIGNS),s0 (.int (12:Nat)),some (1,.list (cs.map cO)),none,none,none]) (ds:=(cU n).map fun(k:Nat)=>dA k) (fun d=>match d with | .int k=>.str (jK (cs.take (k.toNat+1))) | d=>d) (oR rfl (by omega)) (by simp; omega) (fun d md=>by
    obtain⟨k,mk,rfl⟩:=bW.mp md
    have hk:=iS.mp mk
    have e1:=Gb (ds:=cs.map cO) (k:=k+1) (by have:=hb.1; simp; omega)
    have e2:=BC (cs:=cs.take (k+1)) (by have:=hb.1; simp; omega)
    refine⟨[some (.int k),some (.list (cs.map cO))],rfl,rfl,?_⟩
    have e3:((k:Int)+1)=((k+1:Nat):Int):=by omega
    simp only[eOp,aC,eC,nR,oN,oS,bS,cK,wG,pK,zQ,e3,e1]
    rw[← List.map_take,e2]
    rfl)
  rw[iT] at e
  have e':((cU n).map ((fun d=>match d with | .int k=>bO (jK (cs.take (k.toNat+1))) | d=>d)∘fun(k:Nat)=>dA k))=(((cU n).map fun k=>jK (cs.take (k+1))).map bO):=by
   rw[iT]
   rfl
  rw[e'] at e
  refine iY (fQ ?_ (Jx e (Vq _) ⟨_,rfl,_,rfl,_,rfl,by simp,fun z m=>?_,?_⟩))
  ·simp[bV,vS,eOp,aC,eC,aL,aF,aJ,bOf,asB,bT,g2C,gEq,dE,noDict,fV,cP,iN,h3]
  ·obtain⟨k,_,rfl⟩:=bW.mp m
   exact We hb (by omega)
  ·refine BQ (fun a ma b mb q=>?_) YZ
   have ha:=iS.mp ma
   have hb':=iS.mp mb
   have:=congrArg qS (PX q)
   rw[kK,kK,hb.1] at this
   omega
 ·refine dM (ρ':=[s0 (.int c),s0 (.int n),s0 (.str SIGNS),s0 (.int s),some (1,.list (cs.map cO)),none,none,none]) (fM (by simp[bV,vS,eOp,aC,eC,aL,aF,aJ,bOf,asB,bT,g2C,gEq,dE,noDict,fV,cP,iN,h3])) ?_
  have hs0:(0:Int)<s:=by omega
  have ba:=gC (bN c 3) hs0
  obtain⟨a,ha⟩:=oF ba.1
  have ha':a<s:=by omega
  refine dM (ρ':=[s0 (.int c),s0 (.int n),s0 (.str SIGNS),s0 (.int s),some (1,.list (cs.map cO)),s0 (.int a),none,none]) (by
   have:0<s:=by omega
   simp[bL,eV,vS,eOp,aC,eC,aL,aF,aJ,bT,g2C,iN,this,ha]) ?_
  refine dM (ρ':=[s0 (.int c),s0 (.int n),s0 (.str SIGNS),s0 (.int s),some (1,.list (cs.map cO)),s0 (.int a),some (1,.list []),none]) rfl ?_
  obtain⟨w,hw⟩ : ∃ w:Nat,w=if a=0 then 26 else 36:=⟨_,rfl⟩
  have hw1:26≤w/\w≤36:=by subst hw; split <;> omega
  let sg:Nat->Nat:=fun k=>sgn ((bN c 4+k)%(w:Int)).toNat
  have sgb : ∀ k:Nat,((bN c 4+k)%(w:Int)).toNat<w:=fun k=>by
   have:=gC (bN c 4+k) (show(0:Int)<w by omega)
   omega
  have sg1 : ∀ k,iF (sg k)=true:=fun k=>(GJ _ (by have:=sgb k; omega)).2.1
  have sg2 : ∀ k,a=0->letter (sg k)=true:=fun k h0=>(GJ _ (by have:=sgb k; omega)).2.2 (by have:=sgb k; rw[if_pos h0] at hw; omega)
  refine gF (fun ρ'=>∃ (ds:List Nat) (x:L2.Slot),ρ'=[s0 (.int c),s0 (.int n),s0 (.str SIGNS),s0 (.int s),some (1,.list (ds.map cO)),s0 (.int a),some (1,.list (((cU n).map fun k=>jK (cs.set a (sg k))).map bO)),x]) ?_ ?_
  ·refine uA (n:=n) (fun i ρ'=>∃ (ds:List Nat) (x:L2.Slot),baseOk ds s/\(∀ y,ds.set a y=cs.set a y)/\ρ'=[s0 (.int c),s0 (.int n),s0 (.str SIGNS),s0 (.int s),some (1,.list (ds.map cO)),s0 (.int a),some (1,.list (((cU i).map fun k=>jK (cs.set a (sg k))).map bO)),x]) ?_ ⟨cs,none,hb,fun _=>rfl,rfl⟩ ?_ ?_
   ·exact avS (oR rfl (by omega))
   ·rintro i _ hi ⟨ds,x,hd,hset,rfl⟩
    generalize hZ:((cU i).map fun k=>jK (cs.set a (sg k)))=zs
    have hzl:zs.length=i:=by rw[← hZ]; simp
    refine⟨[s0 (.int c),s0 (.int n),s0 (.str SIGNS),s0 (.int s),some (1,.list (ds.map cO)),s0 (.int a),some (1,.list (zs.map bO)),s0 (.int i)],rfl,?_⟩
    have hcl:=hd.1
    have hix:ixN (ds.map cO).length (a:Int)=some a:=by
     unfold ixN
     rw[if_pos (by omega),if_pos (by rw[dJ]; omega)]
     simp
    have ey:eV 0 .s (eOp gIx (aC 2) (eOp bT (eOp bS (aL dW (aF (aC 0) (aF (eC (.int 4)) aJ))) (aC 7)) (eOp bS (eC (.int 26)) (eOp fN (eC (.int 10)) (aL sW (aF (eOp gGt (aC 5) (eC (.int 0))) aJ)))))) [s0 (.int c),s0 (.int n),s0 (.str SIGNS),s0 (.int s),some (1,.list (ds.map cO)),s0 (.int a),some (1,.list (zs.map bO)),s0 (.int i)]=some (cO (sg i)):=by
     have hb1:=gC (bN c 4+i) (show(0:Int)<w by omega)
     have e:=Ez hb1.1 (by omega)
     show _=some (cO (sgn ((bN c 4+i)%(w:Int)).toNat))
     by_cases h0:a=0
     ·rw[if_pos h0] at hw
      subst hw
      have e:gIx (.str SIGNS) (.int ((bN c 4+i)%26))=some (cO (sgn ((bN c 4+i)%26).toNat)):=e
      simp[eV,vS,eOp,aC,eC,aL,aF,aJ,bS,fN,bT,g2I,g2C,gGt,sW,iN,h0,e]
     ·rw[if_neg h0] at hw
      subst hw
      have e:gIx (.str SIGNS) (.int ((bN c 4+i)%36))=some (cO (sgn ((bN c 4+i)%36).toNat)):=e
      have h1:0<a:=by omega
      simp[eV,vS,eOp,aC,eC,aL,aF,aJ,bS,fN,bT,g2I,g2C,gGt,sW,iN,h1,e]
    refine dM (ρ':=[s0 (.int c),s0 (.int n),s0 (.str SIGNS),s0 (.int s),some (1,.list ((cs.set a (sg i)).map cO)),s0 (.int a),some (1,.list (zs.map bO)),s0 (.int i)]) ?_ ?_
    ·unfold rK
     rw[ey,← hset,← RB]
     simp only[eV,vS,aC,getL,fE,wG,pK,zQ,cK,hix]
     rfl
    ·have hb':=hb.set (j:=a) (sg1 i) (sg2 i)
     have ej:=BC (cs:=cs.set a (sg i)) (by have:=hb.1; simp; omega)
     refine tD (ρ':=[s0 (.int c),s0 (.int n),s0 (.str SIGNS),s0 (.int s),some (1,.list ((cs.set a (sg i)).map cO)),s0 (.int a),some (1,.list ((zs++[jK (cs.set a (sg i))]).map bO)),s0 (.int i)]) ?_ ⟨_,.inl rfl,cs.set a (sg i),s0 (.int i),hb',fun y=>by rw[List.set_set],?_⟩
     ·have hz:(zs.map bO).length<sizeLine:=AX (by simp; omega)
      have ee:eOp mJ (eC (.str "")) (aC 4) (vA [s0 (.int c),s0 (.int n),s0 (.str SIGNS),s0 (.int s),some (1,.list ((cs.set a (sg i)).map cO)),s0 (.int a),some (1,.list (zs.map bO)),s0 (.int i)])=some (.str (jK (cs.set a (sg i)))):=by
       simp only[eOp,eC,aC,vA,fE,sO,wG,pK,zQ,cK,ej]
      unfold kO eV
      simp only[ee,cK,iG,fZ,if_true,getL,wG,pK,if_pos hz]
      simp
     ·have e:((cU (i+1)).map fun k=>jK (cs.set a (sg k)))=zs++[jK (cs.set a (sg i))]:=by
       rw[List.range_succ,mD,hZ]
       rfl
      rw[e]
   ·rintro _ ⟨ds,x,_,_,rfl⟩
    exact⟨_,rfl,ds,x,rfl⟩
  rintro _ ⟨ds,x,rfl⟩
  refine⟨_,rfl,_,rfl,_,rfl,by simp,fun z m=>?_,?_⟩
  ·obtain⟨k,_,rfl⟩:=bW.mp m
   exact(hb.set (sg1 k) (sg2 k)).name hs12
  ·refine BQ (fun k mk k' mk' q=>?_) YZ
   have hk:=iS.mp mk
   have hk':=iS.mp mk'
   have e:=congrArg (fun l=>l[a]?) (PX q)
   have hcl:=hb.1
   simp only[qU (show a<cs.length by omega)] at e
   have e:=Jn _ (by have:=sgb k; omega) _ (by have:=sgb k'; omega) (iJ e)
   have b1:=gC (bN c 4+k) (show(0:Int)<w by omega)
   have b2:=gC (bN c 4+k') (show(0:Int)<w by omega)
   have e:(bN c 4+k)%(w:Int)=(bN c 4+k')%(w:Int):=by omega
   by_cases h0:a=0
   ·rw[if_pos h0] at hw
    subst hw
    omega
   ·rw[if_neg h0] at hw
    subst hw
    omega
def gX:aO->Prop
 | .inl i=>i.natAbs<10 ^ 60
 | .inr z=>nameS z
noncomputable def eB (t:aB×Nat):aA:=.tuple [.str t.1,.int t.2]
def rF (ts:List (aB×Nat)):Prop:=(∀ t∈ts,nameS t.1/\1≤t.2/\t.2≤6)/\(ts.map (·.1)).Nodup
theorem Vn (c:Int){n:Nat}(hn:n≤12) : ∃ ts:List (aB×Nat),uX [.int c,.int n]=some (.list (ts.map eB))/\ts.length=n/\rF ts:=by
 suffices h : ∃ d,uX [.int c,.int n]=some d /\ ∃ ts:List (aB×Nat),d = .list (ts.map eB)/\ts.length=n/\rF ts by
  obtain⟨_,e,ts,rfl,h⟩:=h
  exact⟨ts,e,h⟩
 obtain⟨zs,e,hl,hz,hnd⟩:=OZ c hn
 refine mL rfl ?_
 refine dM (ρ':=[s0 (.int c),s0 (.int n),some (1,.list []),none]) rfl ?_
 refine gF (fun ρ'=>∃ (ts:List (aB×Nat)) (x:L2.Slot),ts.map (·.1)=zs/\(∀ t∈ts,1≤t.2/\t.2≤6)/\ρ'=[s0 (.int c),s0 (.int n),some (1,.list (ts.map eB)),x]) ?_ ?_
 ·refine AR (ds:=zs.map bO) (fun i ρ'=>∃ (ts:List (aB×Nat)) (x:L2.Slot),ts.map (·.1)=zs.take i/\(∀ t∈ts,1≤t.2/\t.2≤6)/\ρ'=[s0 (.int c),s0 (.int n),some (1,.list (ts.map eB)),x]) (avS (lR (bH (ds:=[.int c,.int n]) rfl e))) ⟨[],none,rfl,fun _ m=>by simp at m,rfl⟩ ?_ ?_
  ·rintro i d _ hd ⟨ts,x,ht1,ht,rfl⟩
   rw[fK] at hd
   obtain⟨z,hz1,rfl⟩:=kH.mp hd
   have hi:i<n:=by rw[← hl]; exact(fL.mp hz1).1
   have hl2:ts.length=i:=by
    have:=congrArg qS ht1
    rw[dJ,kK] at this
    omega
   have b:=gC (bN c (60+(i:Int))) (show(0:Int)<6 by decide)
   obtain⟨q,hq⟩:=oF b.1
   have em:=iN c (60+(i:Int)) (by omega) (by omega)
   refine⟨[s0 (.int c),s0 (.int n),some (1,.list (ts.map eB)),s0 (.str z)],rfl,?_⟩
   refine Im (d:=eB (z,1+q)) ?_ ?_ (ds:=ts.map eB) rfl (by simp; omega) ⟨_,.inl rfl,ts++[(z,1+q)],s0 (.str z),?_,fun t m=>?_,by simp⟩
   ·have h2:(2:Nat)≤sizeLine:=gE (by omega)
    simp[vA,eOp,aC,eC,aL,gV,aF,aJ,bS,bT,g2C,cB,hl2,em,hq,eB,h2]
   ·simp[eB,fZ,nG]
   ·rw[mD,ht1,zS,hz1]
    rfl
   ·rcases iK.mp m with m | m
    ·exact ht t m
    ·rw[dP.mp m]
     exact⟨by simp,by simp; omega⟩
  ·rintro _ ⟨ts,x,h1,h2,rfl⟩
   exact⟨_,rfl,ts,x,by simpa using h1,h2,rfl⟩
 rintro _ ⟨ts,x,h1,h2,rfl⟩
 refine⟨_,rfl,_,rfl,ts,rfl,by rw[← hl,← h1,dJ],fun t m=>⟨hz _ (h1 ▸ bW.mpr ⟨t,m,rfl⟩),h2 t m⟩,by rw[h1]; exact hnd⟩
theorem Hb (c:Int){zs:List aB}(h0:0<zs.length)(hz : ∀ z∈zs,nameS z) : ∃ k:aO,sD [.int c,.list (zs.map bO)]=some (kD k)/\gX k:=by
 suffices h : ∃ d,sD [.int c,.list (zs.map bO)]=some d /\ ∃ k:aO,d=kD k/\gX k by
  obtain⟨_,e,k,rfl,h⟩:=h
  exact⟨k,e,h⟩
 refine mL rfl ?_
 refine dM (ρ':=[s0 (.int c),s0 (.list (zs.map bO)),s0 (.int (bN c 7))]) (by simp[bL,eV,vS,aC,eC,aL,aF,aJ,iN]) ?_
 by_cases h3:bN c 7%4<3
 ·obtain⟨j,d,hj,e⟩:=JM (ds:=zs.map bO) (bN c 7 / 4) (by simpa using h0)
  rw[fK] at hj
  obtain⟨z,hz1,rfl⟩:=kH.mp hj
  have e':atI (zs.map bO) (bN c 7 / 4%(zs.length:Int))=some (.str z):=by simpa using e
  refine iY (fQ (by simp[bV,vS,eOp,aC,eC,bOf,asB,bT,g2C,gLt,h3]) (cN (d:=.str z) ?_ ⟨_,rfl,_,rfl,.inr z,rfl,hz z (gQ hz1)⟩))
  simp[vS,eOp,aC,eC,aL,aF,aJ,bT,iC,g2C,cB,h0,gIx,e']
 ·refine dM (fM (by simp[bV,vS,eOp,aC,eC,bOf,asB,bT,g2C,gLt,h3])) ?_
  by_cases h4:bN c 7 / 4%2=0
  ·refine iY (fQ (by simp[bV,vS,eOp,aC,eC,bOf,asB,bT,iC,g2C,gEq,dE,noDict,fV,cP,h4]) (cN (d:=.int (bN c 7 / 8%3 - 1)) (by simp[vS,eOp,aC,eC,pT,bT,iC,g2I,g2C]) ⟨_,rfl,_,rfl,.inl _,rfl,?_⟩))
   show(bN c 7 / 8%3 - 1).natAbs<10 ^ 60
   omega
  ·refine dM (fM (by simp[bV,vS,eOp,aC,eC,bOf,asB,bT,iC,g2C,gEq,dE,noDict,fV,cP,h4])) ?_
   refine cN (d:=.int (c%(2*10 ^ 60 - 1) - (10 ^ 60 - 1))) (by simp[vS,eOp,aC,eC,pT,fN,bT,oY,g2I,g2C]) ⟨_,rfl,.inl _,rfl,?_⟩
   show(c%(2*10 ^ 60 - 1) - (10 ^ 60 - 1)).natAbs<10 ^ 60
   omega
def Amh (ts:List (aB×Nat))(l:Ln):Prop:=(l.1,l.2.length)∈ts /\ ∀ k∈l.2,gX k
theorem Ti (k:aO):fZ (kD k)=true:=by cases k <;> rfl
theorem Wk (l:Ln):fZ (bI l)=true:=by
 have:=QI (ts:=l.2.map kD) fun t m=>by
  obtain⟨k,_,rfl⟩:=bW.mp m
  exact Ti k
 simp[bI,fZ,nG,this]
theorem Uc {ns:List Int}{ts:List (aB×Nat)}{zs:List aB}{st cnt:Nat}(hs:st≤1000)(hc:cnt≤1000)(h0:0<ts.length)(ht:rF ts)(hz0:0<zs.length)(hz : ∀ z∈zs,nameS z) :
  ∃ ls:List Ln,uZ [.list (ns.map dA),.int st,.list (ts.map eB),.list (zs.map bO),.int cnt]=some (.list (ls.map bI))/\ls.length=cnt /\ ∀ l∈ls,Amh ts l:=by
 suffices h : ∃ d,uZ [.list (ns.map dA),.int st,.list (ts.map eB),.list (zs.map bO),.int cnt]=some d /\ ∃ ls:List Ln,d = .list (ls.map bI)/\ls.length=cnt /\ ∀ l∈ls,Amh ts l by
  obtain⟨_,e,ls,rfl,h⟩:=h
  exact⟨ls,e,h⟩
 let pre:List L2.Slot:=[s0 (.list (ns.map dA)),s0 (.int st),s0 (.list (ts.map eB)),s0 (.list (zs.map bO)),s0 (.int cnt)]
 refine mL rfl ?_
 refine dM (ρ':=pre++[some (1,.list []),none,none,none,none,none]) rfl ?_
 refine dM (ρ':=pre++[some (1,.list []),s0 (.int st),none,none,none,none]) rfl ?_
 refine gF (fun ρ'=>∃ (ls:List Ln) (x6 x7 x8 x9 x10:L2.Slot),ls.length=cnt/\(∀ l∈ls,Amh ts l)/\ρ'=pre++[some (1,.list (ls.map bI)),x6,x7,x8,x9,x10]) ?_ ?_
 ·refine uA (n:=cnt) (fun i ρ'=>∃ (ls:List Ln) (at_:Nat) (x7 x8 x9 x10:L2.Slot),ls.length=i/\(∀ l∈ls,Amh ts l)/\at_≤1000+7*i/\ρ'=pre++[some (1,.list (ls.map bI)),s0 (.int at_),x7,x8,x9,x10]) (avS (oR rfl (by omega))) ⟨[],st,none,none,none,none,rfl,fun _ m=>by simp at m,by omega,rfl⟩ ?_ ?_
  ·rintro i _ hi ⟨ls,at_,x7,x8,x9,x10,hl,hls,hat,rfl⟩
   refine⟨pre++[some (1,.list (ls.map bI)),s0 (.int at_),s0 (.int i),x8,x9,x10],rfl,?_⟩
   obtain⟨c,ec⟩:=uD (ns:=ns) (k:=(at_:Int)) (by omega) (by omega)
   have e8 : ∀ y9 y10:L2.Slot,aL dW (aF (aL iP (aF (aC 0) (aF (aC 6) aJ))) (aF (eC (.int 8)) aJ)) (vS (pre++[some (1,.list (ls.map bI)),s0 (.int at_),s0 (.int i),x8,y9,y10]))=some (.int (bN c 8)):=fun _ _=>by
    simp[vS,aC,eC,aL,aF,aJ,pre,ec,iN]
   refine dM (ρ':=pre++[some (1,.list (ls.map bI)),s0 (.int at_),s0 (.int i),s0 (.int (bN c 8)),x9,x10]) ?_ ?_
   ·unfold bL eV
    rw[e8]
    rfl
   obtain⟨j,d,hj,e⟩:=JM (ds:=ts.map eB) (bN c 8) (by simpa using h0)
   rw[fK] at hj
   obtain⟨t,ht1,rfl⟩:=kH.mp hj
   have e':atI (ts.map eB) (bN c 8%(ts.length:Int))=some (eB t):=by simpa using e
   have htm0:=gQ ht1
   obtain⟨t1,t2,t3⟩:=ht.1 t htm0
   refine dM (ρ':=pre++[some (1,.list (ls.map bI)),s0 (.int at_),s0 (.int i),s0 (.int (bN c 8)),s0 (eB t),x10]) ?_ ?_
   ·simp[bL,eV,vS,eOp,aC,aL,aF,aJ,bT,g2C,cB,pre,h0,gIx,e']
   obtain⟨tm,et,hlt,htm⟩:=XF (cap:=[none,some 3,some 0,some 6]) (fi:=iR1 (aF (eOp gIx (aC 9) (eC (.int 1))) aJ)) (T:=gB 0) (t:=cX) (f:=aL sD (aF (aL iP (aF (aC 2) (aF (eOp bS (eOp bS (aC 3) (eC (.int 1))) (aC 0)) aJ))) (aF (aC 1) aJ)))
    (ρ:=vS (pre++[some (1,.list (ls.map bI)),s0 (.int at_),s0 (.int i),s0 (.int (bN c 8)),s0 (eB t),x10])) (n:=t.2) kD gX (oR rfl (by omega)) (by omega) (fun k hk=>by
     obtain⟨c2,ec2⟩:=uD (ns:=ns) (k:=(at_:Int)+1+(k:Int)) (by omega) (by omega)
     obtain⟨d,ed,hd⟩:=Hb c2 hz0 hz
     refine⟨[some (.int k),some (.list (zs.map bO)),some (.list (ns.map dA)),some (.int at_)],d,rfl,rfl,?_,hd⟩
     simp[eOp,aC,eC,aL,aF,aJ,bS,ec2,ed])
   refine gF (fun ρ'=>ρ'=pre++[some (1,.list (ls.map bI)),s0 (.int at_),s0 (.int i),s0 (.int (bN c 8)),s0 (eB t),some (1,.list (tm.map kD))]) (xJ et (by simp[pre]) ⟨_,rfl,rfl⟩) ?_
   rintro _ rfl
   refine rP ?_
   have hln:Amh ts (t.1,tm):=⟨by show(t.1,tm.length)∈ts; rw[hlt]; exact htm0,htm⟩
   refine gF (fun ρ'=>ρ'=pre++[some (1,.list ((ls++[(t.1,tm)]).map bI)),s0 (.int at_),s0 (.int i),s0 (.int (bN c 8)),s0 (eB t),s0 (.list (tm.map kD))]) (xE (d:=bI (t.1,tm)) (ds:=ls.map bI) ?_ rfl (by simp; omega) ⟨_,rfl,by rw[mD]; rfl⟩) ?_
   ·have h2:(2:Nat)≤sizeLine:=gE (by omega)
    simp[frz,vS,eOp,aC,eC,aL,gV,aF,aJ,pW,pre,gIx,eB,atI,ixN,h2,bI]
   rintro _ rfl
   refine gF (fun ρ'=>∃ ls':List Ln,ls'.length=i+1/\(∀ l∈ls',Amh ts l)/\ρ'=pre++[some (1,.list (ls'.map bI)),s0 (.int at_),s0 (.int i),s0 (.int (bN c 8)),s0 (eB t),s0 (.list (tm.map kD))]) ?_ ?_
   ·have hls2 : ∀ l∈ls++[(t.1,tm)],Amh ts l:=fun l m=>by
     rcases iK.mp m with m | m
     ·exact hls l m
     ·rw[dP.mp m]; exact hln
    generalize hg:ls++[(t.1,tm)]=ls2 at hls2 ⊢
    have hl2:ls2.length=i+1:=by rw[← hg]; simp[hl]
    by_cases hb:0<i/\bN c 8 / 8%6=0
    ·have b:=gC (bN c 8 / 64) (show(0:Int)<i by omega)
     obtain⟨j,ej⟩:=oF b.1
     have hj:j<ls2.length:=by omega
     have hx:=hls2 ls2[j] (zU hj)
     have ea:atI (ls2.map bI) (bN c 8 / 64%(i:Int))=some (bI ls2[j]):=by rw[ej]; exact oU (by rw[fK,fS hj]; rfl)
     have hix:ixN (ls2.map bI).length (i:Int)=some i:=by
      unfold ixN
      rw[if_pos (by omega),if_pos (by rw[dJ]; omega)]
      simp
     have h0i:=hb.1
     refine fQ (by simp[bV,vS,eOp,aC,eC,bOf,lN,asB,bT,iC,g2I,g2C,gGt,gEq,dE,noDict,fV,cP,pre,hb]) (tD (ρ':=pre++[some (1,.list ((ls2.set i ls2[j]).map bI)),s0 (.int at_),s0 (.int i),s0 (.int (bN c 8)),s0 (eB t),s0 (.list (tm.map kD))]) ?_ ⟨_,rfl,ls2.set i ls2[j],by simp[hl2],fun l m=>?_,rfl⟩)
     ·have hfl:=Wk ls2[j]
      have ee:eV 0 .a (eOp gIx (aC 5) (eOp bT (eOp iC (aC 8) (eC (.int 64))) (aC 7))) (pre++[some (1,.list (ls2.map bI)),s0 (.int at_),s0 (.int i),s0 (.int (bN c 8)),s0 (eB t),s0 (.list (tm.map kD))])=some (bI ls2[j]):=by
       simp[eV,vA,eOp,aC,eC,bT,iC,g2C,iG,pre,gIx,ea,h0i,hfl]
      unfold rK
      rw[ee]
      simp only[pre,ZK,List.nil_append,eV,vS,aC,getL,fE,wG,pK,zQ,cK,hix]
      rw[List.map_set]
      rfl
     ·rcases ZC m with q | q
      ·exact hls2 l q
      ·rw[q]; exact hx
    ·refine JN ?_ (NC ⟨_,rfl,ls2,hl2,hls2,rfl⟩)
     by_cases h1:0<i
     ·have h2 : ¬ bN c 8 / 8%6=0:=fun h=>hb ⟨h1,h⟩
      simp[bV,vS,eOp,aC,eC,bOf,lN,asB,bT,iC,g2I,g2C,gGt,gEq,dE,noDict,fV,cP,pre,h1,h2]
     ·simp[bV,vS,eOp,aC,eC,bOf,lN,asB,bT,iC,g2I,g2C,gGt,gEq,dE,noDict,fV,cP,pre,h1]
   rintro _ ⟨ls',hl',hls',rfl⟩
   refine tD (ρ':=pre++[some (1,.list (ls'.map bI)),s0 (.int ((at_+1+t.2:Nat):Int)),s0 (.int i),s0 (.int (bN c 8)),s0 (eB t),s0 (.list (tm.map kD))]) ?_ ⟨_,.inl rfl,ls',at_+1+t.2,_,_,_,_,hl',hls',by omega,rfl⟩
   simp[bL,eV,vS,eOp,aC,eC,bS,pre,gIx,eB,atI,ixN]
  ·rintro _ ⟨ls,at_,x7,x8,x9,x10,h1,h2,_,rfl⟩
   exact⟨_,rfl,ls,_,_,_,_,_,h1,h2,rfl⟩
 rintro _ ⟨ls,x6,x7,x8,x9,x10,h1,h2,rfl⟩
 exact⟨_,rfl,_,rfl,ls,rfl,h1,h2⟩
noncomputable abbrev AB:aB:="abcdefghijklmnopqrstuvwxyz"
noncomputable abbrev ABF:aB:="abcdefghijklmnopqrstuvwxyz0123456789"
theorem Ut : ∀ c<128,iF c=true->(false != !(jU ABF ⟨#[c]⟩ 0 ABF.length 1).isEmpty)=true:=by decide +kernel
theorem Ls : ∀ c<128,letter c=true->(false != !(jU AB ⟨#[c]⟩ 0 AB.length 1).isEmpty)=true:=by decide +kernel
theorem Ie {c:Nat}(h:iF c=true):gIn false (cO c) (.str ABF)=some (.bool true):=by
 show some (fD (false != !(jU ABF ⟨#[c]⟩ 0 ABF.length 1).isEmpty))=_
 rw[Ut c (HP h) h]
theorem Lb {c:Nat}(h:letter c=true):gIn false (cO c) (.str AB)=some (.bool true):=by
 show some (fD (false != !(jU AB ⟨#[c]⟩ 0 AB.length 1).isEmpty))=_
 rw[Ls c (HP (Vb h)) h]
theorem Ef:(AB++("0123456789" : aB))=ABF:=by decide +kernel
theorem Uq:DV 10 "0123456789":=⟨by decide +kernel,by decide +kernel⟩
theorem Gj:bS (.str AB) (.str "0123456789")=some (.str ABF):=by
 rw[Sa Ju Uq (by omega),Ef]
theorem RT : ∀ n:Nat,mW (mC n (.bool true))=some (mC n true)
 | 0=>rfl
 | n+1=>by
  show((mW (mC n (.bool true))).bind fun bs=>some (true::bs))=_
  rw[RT n]
  rfl
theorem QZ {z:aB}(h:nameS z):lT [.str z]=some (.bool true):=by
 obtain⟨c,r,ez,hc,hs,hl⟩:=h
 have : ∃ d,lT [.str z]=some d/\d = .bool true:=by
  refine mL rfl ?_
  let R:bC:=[s0 (.str z)]
  have hz:z.length=z.cps.toList.length:=by simp[EG]
  have h1:1≤z.length:=by rw[hz,ez]; simp
  have h12:z.length≤12:=by rw[hz]; exact hl
  have el:aL cB (aF (aC 0) aJ) (vS R)=some (.int z.length):=bH (ds:=[.str z]) rfl (by simp[cB]; exact gE (by omega))
  have ec:jX gLe gLe (eC (.int 1)) (aL cB (aF (aC 0) aJ)) (eC (.int 12)) (vS R)=some (.bool true):=by
   unfold jX
   rw[el]
   show(if decide ((1:Int)≤(z.length:Int))=true then some (fD (decide ((z.length:Int)≤12))) else some (fD false))=_
   rw[decide_eq_true (by omega),if_pos rfl,decide_eq_true (by omega)]
  have g1:eUn (eQ "str") (aC 0) (vS R)=some (.bool true):=rfl
  refine dM (ρ':=R) (fM ?_) ?_
  ·show bOr (eA (bOf _)) (eA (bOf _)) (vS R)=_
   simp only[bOr,eA,bOf,g1,ec,cK,asB]
   rfl
  refine cN (d:=.bool (true&&true)) (oV ?_ fun _=>?_) ⟨_,rfl,rfl⟩
  ·have ix:gIx (.str z) (.int 0)=some (cO c):=by
    show(if z.length≤sizeLine then(atI z.cps.toList 0).bind fun c=>some (bO ⟨#[c]⟩) else none)=_
    have e0:atI z.cps.toList 0=some c:=oU (j:=0) (by rw[ez]; rfl)
    rw[if_pos (gE (by omega)),e0]
    rfl
   exact bE (a:=cO c) (b:=.str AB) (bE (a:=.str z) (b:=.int 0) rfl rfl ix) rfl (Lb hc)
  ·have lc:=tO (cap:=[none]) (fi:=iIt (aC 0)) (T:=gB 0) (t:=cX) (f:=eOp (gIn false) (aC 0) (eOp bS (eC (.str "abcdefghijklmnopqrstuvwxyz")) (eC (.str "0123456789")))) (ρ:=vS R) (ds:=z.cps.toList.map cO) (fun _=>.bool true) rfl (by simp; simp at hl; omega) (fun d md=>by
    obtain⟨x,mx,rfl⟩:=bW.mp md
    exact⟨[some (cO x)],rfl,rfl,bE (a:=cO x) (b:=.str ABF) rfl (bE (a:=.str AB) (b:=.str "0123456789") rfl rfl Gj) (Ie (hs x mx))⟩)
   refine bH (cR lc rfl) ?_
   rw[List.map_const']
   show((mW (mC _ (.bool true))).bind fun bs=>some (fD (bs.all id)))=_
   rw[RT,cK]
   simp
 obtain⟨d,e,rfl⟩:=this
 exact e
def nd (d:aA):Prop:=∀ k,d ≠ .dict k
theorem name_kind {d:aA}(h : ∀ z,d ≠ .str z)(hd:nd d):lT [d]=some (.bool false):=by
 have : ∃ r,lT [d]=some r/\r = .bool false:=by
  refine mL rfl ?_
  refine iY (fQ ?_ (cN (d:=.bool false) rfl ⟨_,rfl,_,rfl,rfl⟩))
  cases d with
  | str z=>exact absurd rfl (h z)
  | dict k=>exact absurd rfl (hd k)
  | _=>rfl
 obtain⟨r,e,rfl⟩:=this
 exact e
end Aw
namespace L2
open PySem PySem.Spec PyProof.Rows
section
variable {K:aK}{H0 H B0:Hp}{P0:aD->Prop}{ρ:bC}{σ:St}{fp:Nat->List aD}{i:Nat}
abbrev R1 (K:aK)(B H:Hp):aA×aA->aO×V->List aD->Prop:=fun kd kv f=>kd.1=kD kv.1/\Akd K B H 1 kd.2 kv.2 f
end
end L2
namespace Aw
open PySem L2
theorem DL (c:Int)(n:Nat)(h:0<n):bT (.int c) (.int n)=some (.int (c%n)):=by
 show(if 0<(n:Int) then some (dA (c%(n:Int))) else none)=_
 rw[if_pos (by omega)]
theorem MG (c:Int)(n:Nat)(h:0<n)(h2:n<1000:=by omega):iC (.int c) (.int n)=some (.int (c / n)):=by
 show(if 0<(n:Int)/\(n:Int)<1073741824 then some (dA (c / (n:Int))) else none)=_
 rw[if_pos (by omega)]
theorem Cy {a b:Int}(h:a.natAbs<2 ^ 64):fN (.int a) (.int b)=some (.int (a*b)):=by
 show(if (a.natAbs<2 ^ 64 \/ b.natAbs<2 ^ 64) \/ (a.natAbs<2 ^ 1000/\b.natAbs<2 ^ 1000) then some (dA (a*b)) else none)=_
 rw[if_pos (.inl (.inl h))]
theorem mul_r {a b:Int}(h:b.natAbs<2 ^ 64):fN (.int a) (.int b)=some (.int (a*b)):=by
 show(if (a.natAbs<2 ^ 64 \/ b.natAbs<2 ^ 64) \/ (a.natAbs<2 ^ 1000/\b.natAbs<2 ^ 1000) then some (dA (a*b)) else none)=_
 rw[if_pos (.inl (.inr h))]
theorem Je {a b:BF}{ρ:List (Option aA)}{x y:Bool}(h:a ρ=some x)(h2:x=true->b ρ=some y):lN a b ρ=some (x&&y):=by
 unfold lN
 rw[h]
 cases x with
 | true=>exact h2 rfl
 | false=>rfl
theorem oM {a b:BF}{ρ:List (Option aA)}{x y:Bool}(h:a ρ=some x)(h2:x=false->b ρ=some y):bOr a b ρ=some (x||y):=by
 unfold bOr
 rw[h]
 cases x with
 | true=>rfl
 | false=>exact h2 rfl
theorem mQ {f:EF}{ρ:List (Option aA)}{x:Bool}(h:f ρ=some (.bool x)):eA (bOf f) ρ=some (!x):=by
 unfold eA
 rw[fP h]
 rfl
theorem VO {xs ys:List aA}(h:xs.length+ys.length≤1000):tM (.tuple xs) (.tuple ys)=some (.tuple (xs++ys)):=by
 show(if xs.length+ys.length≤sizeLine then some (fU (xs++ys)) else none)=_
 rw[if_pos (gE (by omega))]
theorem Dr {a b:EF}{ρ:List (Option aA)}{x y:Bool}(h:a ρ=some (.bool x))(h2:x=false->b ρ=some (.bool y)):eOr a b ρ=some (.bool (x||y)):=by
 unfold eOr
 rw[h]
 cases x with
 | true=>rfl
 | false=>exact h2 rfl
theorem fI {np n:Nat}{body:SF}{ds:List aA}{d:aA}(hl:ds.length=np)(h:Goes body (ds.map (fun d=>some (0,d))++mC (n - np) none) fun o=>o = .rt d):fnD np n body ds=some d:=by
 obtain⟨o,e,rfl⟩:=h
 exact MJ hl e
theorem GR {α:Type}(f:α->Bool) : ∀ xs:List α,mW (xs.map fun x=>.bool (f x))=some (xs.map f)
 | []=>rfl
 | x::xs=>by
  show((mW (xs.map fun x=>.bool (f x))).bind fun bs=>some (f x::bs))=_
  rw[GR f xs]
  rfl
theorem AS {α:Type}(f:α->Bool)(xs:List α):kQ [.list (xs.map fun x=>.bool (f x))]=some (.bool (xs.all f)):=by
 show((mW (xs.map fun x=>.bool (f x))).bind fun bs=>some (fD (bs.all id)))=_
 rw[GR,cK,List.all_map]
 rfl
noncomputable def VB:aA->Bool
 | .int _=>true
 | _=>false
theorem Eo {d:aA}(hd:nd d):uR [d]=some (.bool (VB d)):=by
 cases d with
 | dict k=>exact absurd rfl (hd k)
 | _=>rfl
theorem VC (i:Int):nd (.int i):=fun k h=>by cases h
theorem Dp (i:aB):nd (.str i):=fun k h=>by cases h
theorem VL (i:List aA):nd (.tuple i):=fun k h=>by cases h
noncomputable def wN:aA->Bool
 | .int i=>decide (i.natAbs<10 ^ 60)
 | _=>false
theorem Cu:oY (.int 10) (.int 60)=some (.int (10 ^ 60)):=by simp[oY,g2C]
theorem Kk {d:aA}(hd:nd d):yL [d]=some (.bool (wN d)):=by
 refine fI rfl ?_
 have hw:aL uR (aF (aC 0) aJ) (vS [s0 d])=some (.bool (VB d)):=bH (ds:=[d]) rfl (Eo hd)
 cases d with
 | int i=>
  refine cN (d:=.bool (true&&wN (.int i))) (oV hw fun _=>?_) rfl
  refine bE (a:=.int (if i<0 then -i else i)) (b:=.int (10 ^ 60)) (bH (ds:=[.int i]) rfl rfl) (bE (a:=.int 10) (b:=.int 60) rfl rfl Cu) ?_
  show some (fD (decide ((if i<0 then -i else i)<10 ^ 60)))=some (fD (decide (i.natAbs<10 ^ 60)))
  congr 2
  rw[decide_eq_decide]
  split <;> omega
 | _=>exact cN (d:=.bool (false&&true)) (oV hw fun h=>nomatch h) rfl
theorem PM {d:aA}{b:Bool}(hd:nd d)(h:lT [d]=some (.bool b)):qF [d]=some (.bool (b||wN d)):=
 fI rfl (cN (d:=.bool (b||wN d)) (Dr (bH (ds:=[d]) rfl h) fun _=>bH (ds:=[d]) rfl (Kk hd)) rfl)
theorem Kw {k:aO}(h:gX k):qF [kD k]=some (.bool true):=by
 cases k with
 | inl i=>
  have e:=PM (d:=.int i) (VC i) (name_kind (fun _ q=>nomatch q) (VC i))
  have h:i.natAbs<10 ^ 60:=h
  rw[show wN (.int i)=true from decide_eq_true h] at e
  exact e
 | inr z=>exact(PM (Dp _) (QZ h)).trans (by simp)
theorem Se {ds:List aA}(f:aA->Bool)(h : ∀ d∈ds,qF [d]=some (.bool (f d)))(hl:ds.length≤1000)(lo hi:Nat):mV [.tuple ds,.int lo,.int hi]=some (.bool (decide (lo≤ds.length/\ds.length≤hi)&&ds.all f)):=by
 refine fI rfl ?_
 let R:bC:=[s0 (.tuple ds),s0 (.int lo),s0 (.int hi)]
 have el:aL cB (aF (aC 0) aJ) (vS R)=some (.int ds.length):=bH (ds:=[.tuple ds]) rfl (rS ds)
 have ec:jX gLe gLe (aC 1) (aL cB (aF (aC 0) aJ)) (aC 2) (vS R)=some (.bool (decide (lo≤ds.length/\ds.length≤hi))):=by
  unfold jX
  rw[el]
  show(if decide ((lo:Int)≤(ds.length:Int))=true then some (fD (decide ((ds.length:Int)≤(hi:Int)))) else some (fD false))=_
  by_cases h1:lo≤ds.length
  ·rw[decide_eq_true (by omega),if_pos rfl]
   congr 2
   rw[decide_eq_decide]
   omega
  ·rw[decide_eq_false (by omega),if_neg (by simp),decide_eq_false (by omega)]
 have t1:=oM (a:=eA (bOf (eUn (eQ "tuple") (aC 0)))) (b:=eA (bOf (jX gLe gLe (aC 1) (aL cB (aF (aC 0) aJ)) (aC 2)))) (ρ:=vS R) (mQ (x:=true) rfl) (fun _=>mQ ec)
 cases hb:decide (lo≤ds.length/\ds.length≤hi) with
 | false=>
  rw[hb] at t1
  exact iY (fQ t1 (cN (d:=.bool false) rfl ⟨_,rfl,rfl⟩))
 | true=>
  rw[hb] at t1
  refine dM (fM t1) ?_
  have lc:=tO (cap:=[none]) (fi:=iIt (aC 0)) (T:=gB 0) (t:=cX) (f:=aL qF (aF (aC 0) aJ)) (ρ:=vS R) (ds:=ds) (fun d=>.bool (f d)) (lQ rfl) (by omega) (fun d md=>⟨[some d],rfl,rfl,bH (ds:=[d]) rfl (h d md)⟩)
  exact cN (d:=.bool (true&&ds.all f)) (bH (cR lc rfl) (AS f ds)) rfl
noncomputable def Ci:aA->Bool
 | .tuple ds=>decide (ds.length=2)
 | _=>false
theorem WV {d:aA}(hd:nd d):qB [d]=some (.bool (Ci d)):=by
 cases d with
 | tuple ds=>
  refine fI rfl (cN (d:=.bool (true&&decide (ds.length=2))) (oV rfl fun _=>?_) rfl)
  refine bE (a:=.int ds.length) (b:=.int 2) (bH (ds:=[.tuple ds]) rfl (rS ds)) rfl ?_
  rw[tW]
  congr 2
  rw[decide_eq_decide]
  omega
 | dict k=>exact absurd rfl (hd k)
 | _=>rfl
theorem line_of {a b:aA}{x y:Bool}(ha:lT [a]=some (.bool x))(hb:x=true->mV [b,.int 1,.int 6]=some (.bool y)):qE [.tuple [a,b]]=some (.bool (x&&y)):=by
 refine fI rfl (cN (d:=.bool (true&&(x&&y))) (oV (bH (ds:=[.tuple [a,b]]) rfl (WV (VL _))) fun _=>oV ?_ fun hx=>?_) (by simp))
 ·exact bH (ds:=[a]) (cR (bE (a:=.tuple [a,b]) (b:=.int 0) rfl rfl rfl) rfl) ha
 ·exact bH (ds:=[b,.int 1,.int 6]) (cR (bE (a:=.tuple [a,b]) (b:=.int 1) rfl rfl rfl) rfl) (hb hx)
theorem Lz {ds:List aA}(f:aA->Bool)(h : ∀ d∈ds,qE [d]=some (.bool (f d)))(hl:ds.length≤1000):qG [.tuple ds]=some (.bool (decide (ds.length≤5)&&ds.all f)):=by
 refine fI rfl ?_
 let R:bC:=[s0 (.tuple ds)]
 have el:eOp gGt (aL cB (aF (aC 0) aJ)) (eC (.int 5)) (vS R)=some (.bool (decide (¬ ds.length≤5))):=by
  refine bE (a:=.int ds.length) (b:=.int 5) (bH (ds:=[.tuple ds]) rfl (rS ds)) rfl ?_
  show some (fD (decide ((ds.length:Int) > 5)))=_
  congr 2
  rw[decide_eq_decide]
  omega
 have t1:=oM (a:=eA (bOf (eUn (eQ "tuple") (aC 0)))) (b:=bOf (eOp gGt (aL cB (aF (aC 0) aJ)) (eC (.int 5)))) (ρ:=vS R) (mQ (x:=true) rfl) (fun _=>fP el)
 by_cases hb:ds.length≤5
 ·rw[decide_eq_false (by omega)] at t1
  refine dM (fM t1) ?_
  have lc:=tO (cap:=[none]) (fi:=iIt (aC 0)) (T:=gB 0) (t:=cX) (f:=aL qE (aF (aC 0) aJ)) (ρ:=vS R) (ds:=ds) (fun d=>.bool (f d)) (lQ rfl) (by omega) (fun d md=>⟨[some d],rfl,rfl,bH (ds:=[d]) rfl (h d md)⟩)
  rw[decide_eq_true hb]
  exact cN (d:=.bool (true&&ds.all f)) (bH (cR lc rfl) (AS f ds)) rfl
 ·rw[decide_eq_true (by omega)] at t1
  rw[decide_eq_false hb]
  exact iY (fQ t1 (cN (d:=.bool false) rfl ⟨_,rfl,rfl⟩))
theorem Ds {a b:aA}{x y s w:Bool}(ha:mV [a,.int 0,.int 4]=some (.bool x))(hb:x=true->qG [b]=some (.bool y))(hs:x=true->y=true->uU [a,b]=some (.bool s))(hw:x=true->y=true->s=true->qI [b]=some (.bool w)):nN [.tuple [a,b]]=some (.bool (x&&y&&s&&w)):=by
 refine fI rfl ?_
 let R:bC:=[s0 (.tuple [a,b])]
 have ia:eOp gIx (aC 0) (eC (.int 0)) (vS R)=some a:=bE (a:=.tuple [a,b]) (b:=.int 0) rfl rfl rfl
 have ib:eOp gIx (aC 0) (eC (.int 1)) (vS R)=some b:=bE (a:=.tuple [a,b]) (b:=.int 1) rfl rfl rfl
 have t:=oM (ρ:=vS R) (mQ (bH (fa:=aF (aC 0) aJ) (ds:=[.tuple [a,b]]) (g:=qB) rfl (WV (VL _)))) fun _=>oM (mQ (bH (fa:=aF (eOp gIx (aC 0) (eC (.int 0))) (aF (eC (.int 0)) (aF (eC (.int 4)) aJ))) (ds:=[a,.int 0,.int 4]) (cR ia rfl) ha)) (y:=!y) fun hx=>mQ (bH (fa:=aF (eOp gIx (aC 0) (eC (.int 1))) aJ) (ds:=[b]) (cR ib rfl) (hb (by simpa using hx)))
 cases x with
 | false=>exact iY (fQ t (cN (d:=.bool false) rfl ⟨_,rfl,by simp⟩))
 | true=>
  cases y with
  | false=>exact iY (fQ t (cN (d:=.bool false) rfl ⟨_,rfl,by simp⟩))
  | true=>
   refine dM (fM t) (cN (d:=.bool (s&&w)) (oV (bH (ds:=[a,b]) (cR ia (cR ib rfl)) (hs rfl rfl)) fun q=>bH (ds:=[b]) (cR ib rfl) (hw rfl rfl q)) (by simp))
def WB (l:Ln):Prop:=l.2.length≤6 /\ ∀ k∈l.2,cA (kD k)=true
noncomputable abbrev lsD (ls:List Ln):aA:=.tuple (ls.map bI)
noncomputable abbrev lK (ks:List aO):aA:=.list (ks.map kD)
noncomputable def Am:aO->Option aB
 | .inr z=>some z
 | .inl _=>none
noncomputable def FQ (ks:List aO):List aB:=ks.filterMap Am
noncomputable def gD (ls:List (aB×List aO)):List aB:=DD (ls.flatMap fun l=>FQ l.2)
noncomputable def kt (z:aB):aA×aA:=(.str z,.bool true)
theorem De (acc:List aB)(z:aB):((acc.map kt).any fun kd=>decide (fO kd.1=some (.inr z)))=decide (z∈acc):=by
 induction acc with
 | nil=>rfl
 | cons y r ih=>
  rw[fE,zW,ih]
  have:fO (kt y).1=some (.inr y):=rfl
  rw[this]
  by_cases h:z=y
  ·subst h; simp
  ·have h' : ¬ y=z:=fun e=>h e.symm
   simp[h,h']
theorem Ip (acc:List aB)(z:aB):putD (acc.map kt) (.inr z) (.bool true)=(mI acc z).map kt:=by
 unfold putD mI
 rw[De]
 by_cases h:z∈acc
 ·rw[if_pos (by simpa using h),if_pos h,iT]
  refine ES fun y _=>?_
  show(if fO (kt y).1=some (.inr z) then((kt y).1,fD true) else kt y)=kt y
  split <;> rfl
 ·rw[if_neg (by simpa using h),if_neg h,mD]
  rfl
noncomputable def gN (acc:List aB)(k:aO):List aB:=match k with
 | .inr z=>mI acc z
 | .inl _=>acc
theorem FN : ∀ (ks:List aO) (acc:List aB),ks.foldl gN acc=(FQ ks).foldl mI acc
 | [],_=>rfl
 | .inl i::ks,acc=>FN ks acc
 | .inr z::ks,acc=>FN ks (mI acc z)
theorem Fu (acc:List aB)(k:aO):(gN acc k).length≤acc.length+1:=by
 cases k with
 | inl i=>exact Nat.le_succ _
 | inr z=>exact Ss acc z
theorem Ex {acc:List aB}{k:aO}(h : ∀ z∈acc,cA (.str z)=true)(hk:cA (kD k)=true) : ∀ z∈gN acc k,cA (.str z)=true:=by
 cases k with
 | inl i=>exact h
 | inr z=>exact fun y m=>(Avn.mp m).elim (h y) fun e=>e ▸ hk
theorem Mm {ls:List (aB×List aO)}(h : ∀ l∈ls,WB l)(hn:ls.length≤100):uQ [.tuple (ls.map bI)]=some (.list ((gD ls).map bO)):=by
 have : ∃ d,uQ [.tuple (ls.map bI)]=some d/\d = .list ((gD ls).map bO):=by
  refine mL rfl ?_
  refine fA (n:=1) (d:=.dict []) rfl (by simp) ?_
  refine gF (fun ρ'=>∃ x2 x3:L2.Slot,(∀ z∈gD ls,cA (.str z)=true)/\ρ'=[s0 (.tuple (ls.map bI)),some (1,.dict ((gD ls).map kt)),x2,x3]) ?_ ?_
  ·refine xH (xs:=ls) (q:=bI) (b0:=[]) (fun acc l=>l.2.foldl gN acc) (fun i acc ρ'=>∃ x2 x3:L2.Slot,acc.length≤6*i/\(∀ z∈acc,cA (.str z)=true)/\ρ'=[s0 (.tuple (ls.map bI)),some (1,.dict (acc.map kt)),x2,x3]) (avS (lQ rfl)) ⟨none,none,bY _,fun _ m=>by simp at m,rfl⟩ ?_ ?_
   ·rintro i l acc _ hx ⟨x2,x3,ha,hy,rfl⟩
    have hl:=h l (gQ hx)
    have hi:i<ls.length:=(fL.mp hx).1
    refine⟨[s0 (.tuple (ls.map bI)),some (1,.dict (acc.map kt)),s0 (bI l),x3],rfl,?_⟩
    refine xH (xs:=l.2) (q:=kD) (b0:=acc) gN (fun j acc' ρ'=>∃ x3:L2.Slot,acc'.length≤6*i+j/\(∀ z∈acc',cA (.str z)=true)/\ρ'=[s0 (.tuple (ls.map bI)),some (1,.dict (acc'.map kt)),s0 (bI l),x3]) (avS (lQ (by simp[vS,eOp,aC,eC,bI,gIx,atI,ixN]))) ⟨x3,ha,hy,rfl⟩ ?_ ?_
    ·rintro j k acc' _ hk ⟨x3,ha',hy',rfl⟩
     have hj:j<l.2.length:=(fL.mp hk).1
     have h6:=hl.1
     refine⟨[s0 (.tuple (ls.map bI)),some (1,.dict (acc'.map kt)),s0 (bI l),s0 (kD k)],rfl,?_⟩
     have g1:=Fu acc' k
     have g2:=Ex hy' (hl.2 k (gQ hk))
     cases k with
     | inl v=>exact JN (by simp[bV,vS,eUn,aC,bOf,asB,eQ,pS,isK,kD]) (NC ⟨_,.inl rfl,_,by omega,g2,rfl⟩)
     | inr z=>
      refine fQ (by simp[bV,vS,eUn,aC,bOf,asB,eQ,pS,isK,kD]) (Gq (d:=.bool true) (kd:=.str z) (key:=.inr z) (kds:=acc'.map kt) rfl rfl rfl rfl (by simp; omega) ⟨_,.inl rfl,s0 (.str z),by omega,g2,?_⟩)
      rw[Ip]
      rfl
    ·rintro _ ⟨x3,ha',hy',rfl⟩
     have h6:=hl.1
     exact⟨_,.inl rfl,_,_,by omega,hy',rfl⟩
   ·rintro _ ⟨x2,x3,ha,hy,rfl⟩
    have e:ls.foldl (fun acc l=>l.2.foldl gN acc) []=gD ls:=by
     unfold gD DD
     rw[List.foldl_flatMap]
     congr 1
     funext acc l
     exact FN l.2 acc
    rw[e] at hy ⊢
    exact⟨_,rfl,x2,x3,hy,rfl⟩
  rintro _ ⟨x2,x3,hy,rfl⟩
  refine rP (cN (d:=.list ((gD ls).map bO)) (bH (ds:=[.dict ((gD ls).map kt)]) rfl ?_) ⟨_,rfl,rfl⟩)
  have hp:plK ((gD ls).map kt)=true:=Ej fun kd m=>by
   obtain⟨z,_,rfl⟩:=bW.mp m
   exact fun q=>nomatch q
  show(if (plK ((gD ls).map kt)&&((gD ls).map kt).all (fun kd=>cA kd.1))=true then some (zM (((gD ls).map kt).map (·.1))) else none)=_
  rw[hp,Bool.true_and,if_pos (eK.mpr fun kd m=>by
   obtain⟨z,mz,rfl⟩:=bW.mp m
   exact hy z mz),iT]
  rfl
 obtain⟨d,e,rfl⟩:=this
 exact e
theorem Hm (y z:aB):cP (.str y) (.str z)=decide (y=z):=by
 rw[show cP (.str y) (.str z)=(y == z) by simp[cP],AD]
 simp
theorem Rm (zs:List aB)(z:aB):((zs.map bO).any fun d=>cP d (.str z))=decide (z∈zs):=by
 rw[List.any_map,AD]
 simp[Hm]
theorem Nv (zs:List aB):noDicts (zs.map bO)=true:=xZ fun t m=>by
 obtain⟨z,_,rfl⟩:=bW.mp m
 rfl
theorem Ja (neg:Bool)(zs:List aB)(z:aB):gIn neg (.str z) (.list (zs.map bO))=some (.bool (neg != decide (z∈zs))):=by
 show(if (dE (.str z)&&noDicts (zs.map bO))=true then some (fD (neg != (zs.map bO).any fun d=>cP d (.str z))) else none)=_
 rw[Nv,Rm,show dE (.str z)=true from rfl,ZV,if_pos rfl]
theorem Wj {ls:List (aB×List aO)}{z:aB}:z∈gD ls ↔ ∃ l∈ls,z∈FQ l.2:=by
 unfold gD
 rw[Ws,zT]
def rH (l:Ln):Prop:=WB l/\cA (.str l.1)=true
noncomputable def dH (l:Ln):List aA:=[.str l.1,.int l.2.length]
theorem Sd {l:Ln}(h:rH l):cC (dH l)=true/\dI (dH l)≤6:=by
 constructor
 ·have:=h.2
  simp[dH,cC,bD,this]
 ·simp[dH,dI,fV]
theorem SE : ∀ {ls:List Ln},(∀ l∈ls,rH l)->qK (ls.map fun l=>.tuple (dH l))=some (ls.map dH)
 | [],_=>rfl
 | l::ls,h=>by
  show(if cC (dH l)=true/\dI (dH l)≤6 then(qK (ls.map fun l=>.tuple (dH l))).bind fun kss=>some (dH l::kss) else none)=_
  rw[if_pos (Sd (h l bR)),SE fun x m=>h x (bZ _ m)]
  rfl
theorem Td {kss:List (List aA)} : ∀ {acc:List (List aA)} {k:List aA},k∈kss.foldl fY acc↔k∈acc \/ k∈kss:=by
 induction kss with
 | nil=>intro acc k; simp
 | cons x r ih=>
  intro acc k
  rw[lF,ih]
  unfold fY
  by_cases hx:x∈acc
  ·rw[if_pos hx]
   constructor
   ·rintro(h | h)
    ·exact .inl h
    ·exact .inr (bZ _ h)
   ·rintro(h | h)
    ·exact .inl h
    ·rcases cQ.mp h with rfl | h
     ·exact .inl hx
     ·exact .inr h
  ·rw[if_neg hx,iK,dP,cQ,or_assoc]
theorem Rj {kss:List (List aA)} : ∀ {acc:List (List aA)},acc.Nodup->(kss.foldl fY acc).Nodup:=by
 induction kss with
 | nil=>intro acc h; exact h
 | cons x r ih=>
  intro acc h
  rw[lF]
  refine ih ?_
  unfold fY
  by_cases hx:x∈acc
  ·rw[if_pos hx]; exact h
  ·rw[if_neg hx]
   refine ZA.mpr ⟨h,by simp,fun a ha b hb=>?_⟩
   rw[dP.mp hb]
   exact fun e=>hx (e ▸ ha)
theorem Aqy {kss:List (List aA)}{k:List aA}:k∈dS kss↔k∈kss:=by
 unfold dS
 rw[Td]
 simp
theorem Tp (kss:List (List aA)):(dS kss).Nodup:=Rj (by simp)
theorem Rq (ls:List Ln):okT (dS (ls.map dH))=true:=by
 unfold okT
 have h : ∀ k∈dS (ls.map dH),∃ l:Ln,k=dH l:=fun k m=>by
  obtain⟨l,_,rfl⟩:=bW.mp (Aqy.mp m)
  exact⟨l,rfl⟩
 have h1:sameAll (dS (ls.map dH))=true:=eK.mpr fun k m=>eK.mpr fun k' m'=>by
  obtain⟨l,rfl⟩:=h k m
  obtain⟨l',rfl⟩:=h k' m'
  rfl
 have h2:((dS (ls.map dH)).all fun k=>(kR k).isSome)=true:=eK.mpr fun k m=>by
  obtain⟨l,rfl⟩:=h k m
  rfl
 rw[h1,h2]
 simp
noncomputable def lA (ls:List Ln):List (List aA):=jW (dS (ls.map dH))
theorem Jk {m:Nat}{fi:AF}{ρ:List (Option aA)}{ls:List Ln}(h:fi ρ=some (ls.map bI))(hl:ls.length≤1000):eLC [none] fi (gB 0) cX (gV (aF (eOp gIx (aC 0) (eC (.int 0))) (aF (aL cB (aF (eOp gIx (aC 0) (eC (.int 1))) aJ)) aJ))) ρ=some (.list (ls.map fun l=>.tuple (dH l))):=by
 have:=mR (cap:=[none]) (fi:=fi) (T:=gB 0) (t:=cX) (f:=gV (aF (eOp gIx (aC 0) (eC (.int 0))) (aF (aL cB (aF (eOp gIx (aC 0) (eC (.int 1))) aJ)) aJ))) (ρ:=ρ) (xs:=ls) (q:=bI) (fun _=>true) (fun l=>.tuple (dH l)) h (by omega) (fun l ml=>⟨[some (bI l)],rfl,rfl,fun _=>by
  exact tT (ds:=dH l) (cR (d:=.str l.1) rfl (cR (g:=aJ) (d:=.int l.2.length) (bH (ds:=[.tuple (l.2.map kD)]) rfl (by rw[rS,dJ])) rfl)) (by simp[dH])⟩)
 rw[this,pL.mpr (by simp)]
theorem Pe {ls:List Ln}{D:aA}(hi:itemsOf D=some (ls.map bI))(h : ∀ l∈ls,rH l)(hl:ls.length<64):uS [D]=some (.list ((lA ls).map fU)):=by
 have : ∃ d,uS [D]=some d/\d = .list ((lA ls).map fU):=by
  refine mL rfl ?_
  refine cN (d:=.list ((lA ls).map fU)) (bH (ds:=[.list (ls.map fun l=>.tuple (dH l))]) (cR (Jk (m:=0) (fi:=iIt (aC 0)) (ρ:=vS [s0 D]) hi (by omega)) rfl) ?_) ⟨_,rfl,rfl⟩
  show((qK (ls.map fun l=>fU (dH l))).bind fun kss=>if (dS kss).length<64/\okT (dS kss)=true then some (zM ((jW (dS kss)).map fU)) else none)=_
  rw[SE h,cK,if_pos ⟨YV (iR (RE (ls.map dH) []) (by simp)) hl,Rq ls⟩]
  rfl
 obtain⟨d,e,rfl⟩:=this
 exact e
theorem Aks {ls:List Ln}{k:List aA}:k∈lA ls ↔ ∃ l∈ls,k=dH l:=by
 unfold lA
 rw[(rY _).mem_iff,Aqy,bW]
 exact⟨fun⟨l,m,e⟩=>⟨l,m,e.symm⟩,fun⟨l,m,e⟩=>⟨l,m,e.symm⟩⟩
theorem QR : ∀ (l acc:List aO),(l.foldl gK acc).length≤acc.length+l.length
 | [],acc=>by simp
 | x::r,acc=>by
  rw[lF]
  have:=QR r (gK acc x)
  have h2:(gK acc x).length≤acc.length+1:=by unfold gK; split <;> simp
  simp only[fF]
  omega
theorem SV : ∀ (l acc:List aO),(l.foldl gK acc).length=acc.length+l.length->l.Nodup /\ ∀ a∈l,a∉acc
 | [],acc,_=>⟨by simp,by simp⟩
 | x::r,acc,h=>by
  rw[lF] at h
  by_cases hx:x∈acc
  ·have e:gK acc x=acc:=by unfold gK; rw[if_pos hx]
   rw[e] at h
   have:=QR r acc
   simp only[fF] at h
   omega
  ·have e:gK acc x=acc++[x]:=by unfold gK; rw[if_neg hx]
   rw[e] at h
   obtain⟨h1,h2⟩:=SV r (acc++[x]) (by rw[h]; simp; omega)
   refine⟨nY.mpr ⟨fun m=>h2 x m (by simp),h1⟩,fun a m=>?_⟩
   rcases cQ.mp m with rfl | m
   ·exact hx
   ·exact fun ma=>h2 a m (KM _ ma)
theorem Lj {ks:List aO}(h:ks.Nodup):(dQ ks).length=ks.length:=
 La (OE (by simp)) h fun a=>by unfold dQ; rw[QE]; simp
theorem HM {α β:Type}{f:α->β} : ∀ {l:List α},(l.map f).Nodup -> ∀ a∈l,∀ b∈l,f a=f b->a=b
 | [],_,a,m,_,_,_=>by simp at m
 | x::l,h,a,ma,b,mb,e=>by
  rw[fE,nY] at h
  rcases cQ.mp ma with rfl | ma
  ·rcases cQ.mp mb with rfl | mb
   ·rfl
   ·exact absurd (bW.mpr ⟨b,mb,e.symm⟩) h.1
  ·rcases cQ.mp mb with q | mb
   ·rw[q] at e
    exact absurd (bW.mpr ⟨a,ma,e⟩) h.1
   ·exact HM h.2 a ma b mb e
theorem RY {l l':Ln}(h:dH l=dH l'):l.1=l'.1/\l.2.length=l'.2.length:=by
 unfold dH at h
 injection h with h1 h2
 injection h1 with h1
 injection h2 with h2
 injection h2 with h2
 exact⟨h1,by omega⟩
noncomputable def tR (ls:List Ln):aO->Bool
 | .inl _=>true
 | .inr z=>decide (z∈gD ls)
theorem Kh {hd:List aO}{ls:List Ln}(h : ∀ l∈ls,rH l)(hl:ls.length≤100)(hh:hd.length≤1000):uU [tK hd,lsD ls]=some (.bool (hd.all (tR ls))):=by
 refine fI rfl ?_
 refine fA (n:=0) (d:=.list ((gD ls).map bO)) (bH (ds:=[lsD ls]) rfl (Mm (fun l m=>(h l m).1) hl)) (by simp) ?_
 let R:bC:=[s0 (tK hd),s0 (lsD ls),s0 (.list ((gD ls).map bO))]
 have lc:=mR (cap:=[none,some 2]) (fi:=iIt (aC 0)) (T:=gB 0) (t:=bOf (eUn (eQ "str") (aC 0))) (f:=eOp (gIn false) (aC 0) (aC 1)) (ρ:=vS R) (xs:=hd) (q:=kD) isS (fun k=>.bool (tR ls k)) (lQ rfl) (by omega) (fun k mk=>⟨[some (kD k),some (.list ((gD ls).map bO))],rfl,by cases k <;> rfl,fun hs=>by
  cases k with
  | inl i=>cases hs
  | inr z=>
   refine bE (a:=.str z) (b:=.list ((gD ls).map bO)) rfl rfl ?_
   rw[Ja]
   simp[tR]⟩)
 refine cN (d:=.bool (hd.all (tR ls))) (bH (cR lc rfl) ((AS (tR ls) (hd.filter isS)).trans ?_)) rfl
 congr 2
 rw[AD,eK,eK]
 constructor
 ·intro q k mk
  cases k with
  | inl i=>rfl
  | inr z=>exact q _ (ER.mpr ⟨mk,rfl⟩)
 ·exact fun q k mk=>q k (ER.mp mk).1
def FB (ls:List Ln):Prop:=∀ l∈ls,∀ l'∈ls,l.1=l'.1->l.2.length=l'.2.length
theorem RQ : ∀ zs:List aB,nO (zs.map bO)=some (zs.map jG)
 | []=>rfl
 | i::is=>by
  show((fO (.str i)).bind fun k=>(nO (is.map bO)).bind fun ks=>some (k::ks))=_
  rw[RQ is]
  rfl
theorem Kt (ls:List Ln) : ∃ xs:List Ln,lA ls=xs.map dH/\(∀ x∈xs,x∈ls):=by
 have : ∀ qs:List (List aA),(∀ k∈qs,∃ l∈ls,k=dH l) -> ∃ xs:List Ln,qs=xs.map dH /\ ∀ x∈xs,x∈ls:=fun qs=>by
  induction qs with
  | nil=>intro _; exact⟨[],rfl,by simp⟩
  | cons k qs ih=>
   intro h
   obtain⟨l,ml,rfl⟩:=h k bR
   obtain⟨xs,rfl,hx⟩:=ih fun x m=>h x (bZ _ m)
   refine⟨l::xs,rfl,fun x m=>?_⟩
   rcases cQ.mp m with rfl | m
   ·exact ml
   ·exact hx x m
 exact this (lA ls) fun k m=>Aks.mp m
theorem ON {ls:List Ln}{D0:aA}(hi:itemsOf D0=some (ls.map bI))(h : ∀ l∈ls,rH l)(hl:ls.length<64) : ∃ b:Bool,qI [D0]=some (.bool b)/\(b=true↔FB ls):=by
 obtain⟨xs,ex,hx⟩:=Kt ls
 have nd:(lA ls).Nodup:=(rY _).nodup_iff.mpr (Tp _)
 have hlx:xs.length<64:=by
  have h1:(lA ls).length≤ls.length:=by
   unfold lA
   rw[(rY _).length_eq]
   exact iR (Vi _) (by simp)
  rw[ex,dJ] at h1
  omega
 refine⟨decide (xs.length=(dQ ((xs.map (·.1)).map jG)).length),?_,?_⟩
 ·refine fI rfl ?_
  refine fA (n:=0) (d:=.list ((lA ls).map fU)) (bH (ds:=[D0]) rfl (Pe hi h hl)) (by simp) ?_
  rw[ex,iT]
  let D:aA:=.list (xs.map (fU∘dH))
  let R:bC:=[s0 D0,s0 D]
  have lc:=mR (cap:=[none]) (fi:=iIt (aC 1)) (T:=gB 0) (t:=cX) (f:=eOp gIx (aC 0) (eC (.int 0))) (ρ:=vS R) (xs:=xs) (q:=fU∘dH) (fun _=>true) (fun l=>.str l.1) (lR rfl) (by omega) (fun l ml=>⟨[some (.tuple (dH l))],rfl,rfl,fun _=>rfl⟩)
  rw[pL.mpr (by simp)] at lc
  refine cN (d:=.bool (decide (xs.length=(dQ ((xs.map (·.1)).map jG)).length))) (bE (a:=.int xs.length) (b:=.int (dQ ((xs.map (·.1)).map jG)).length) (bH (ds:=[D]) rfl (by simp[cB,D])) (bH (cR lc rfl) ?_) ?_) rfl
  ·have e:(xs.map fun l=>bO l.1)=(xs.map (·.1)).map bO:=by rw[iT]; rfl
   rw[e]
   show((nO ((xs.map (·.1)).map bO)).bind fun ks=>if ks.length≤4000 then some (dA (dQ ks).length) else none)=_
   rw[RQ,cK,if_pos (by simp; omega)]
  ·rw[tW]
   congr 2
   rw[decide_eq_decide]
   omega
 ·rw[decide_eq_true_eq]
  have e:xs.length=((xs.map (·.1)).map (jG:aB->aO)).length:=by simp
  have key:(xs.length=(dQ ((xs.map (·.1)).map jG)).length)↔(xs.map (·.1)).Nodup:=by
   constructor
   ·intro q
    have:=(SV ((xs.map (·.1)).map jG) [] (by rw[← dQ,← q]; simp)).1
    exact List.Pairwise.imp (R:=fun a b=>(jG a:aO)≠jG b) (S:=fun a b=>a≠b) (fun q e=>q (congrArg jG e)) (wD.mp this)
   ·intro q
    rw[Lj (BQ (fun a _ b _ q=>Sum.inr.inj q) q),← e]
  rw[key]
  constructor
  ·intro q l ml l' ml' e1
   have h1:dH l∈lA ls:=Aks.mpr ⟨l,ml,rfl⟩
   have h2:dH l'∈lA ls:=Aks.mpr ⟨l',ml',rfl⟩
   rw[ex] at h1 h2
   obtain⟨x,mx,ex1⟩:=bW.mp h1
   obtain⟨y,my,ey1⟩:=bW.mp h2
   obtain⟨p1,p2⟩:=RY ex1
   obtain⟨q1,q2⟩:=RY ey1
   have:=HM q x mx y my (by rw[p1,q1,e1])
   subst this
   omega
  ·intro q
   rw[ex] at nd
   refine wD.mpr (KQ (fun {a b} ma mb (hne:dH a≠dH b) e1=>hne ?_) (wD.mp nd))
   unfold dH
   rw[e1,q a (hx a ma) b (hx b mb) e1]
theorem Ff (ds:List aA)(k:Nat):cutD ds (some (k:Int)) none=ds.drop k:=by
 unfold cutD
 rw[HT.Apv,HT.A0x]
 by_cases h:k≤ds.length
 ·rw[YU h,List.take_of_length_le (by simp)]
 ·rw[Nat.min_eq_right (by omega),List.drop_of_length_le (by omega),List.drop_of_length_le (by omega)]
  simp
theorem AN {f g:EF}{ρ:List (Option aA)}{a b:Int}(h:f ρ=some (.int a))(h2:g ρ=some (.int b))(hb:0<b):eOp bT f g ρ=some (.int (a%b)):=by
 refine bE h h2 ?_
 simp[bT,g2C,hb]
theorem XJ {f:EF}{ρ:List (Option aA)}{c:Int}(h:f ρ=some (.int c))(k:Nat)(hk:k≤1000):aL dW (aF f (aF (eC (.int k)) aJ)) ρ=some (.int (bN c k)):=bH (cR h rfl) (iN c k (by omega) (by omega))
theorem WM {k:aO}(h:gX k):cA (kD k)=true:=by
 cases k with
 | inl i=>rfl
 | inr z=>exact nameS.lay h
structure LineG (l:Ln):Prop where
 name:nameS l.1
 one:1≤l.2.length
 six:l.2.length≤6
 tms : ∀ k∈l.2,gX k
theorem Amh.good {ts:List (aB×Nat)}{l:Ln}(ht:rF ts)(h:Amh ts l):LineG l:=by
 obtain⟨h1,h2⟩:=h
 obtain⟨a,b,c⟩:=ht.1 _ h1
 exact⟨a,b,c,h2⟩
theorem LineG.T {l:Ln}(h:LineG l):rH l:=⟨⟨h.six,fun k m=>WM (h.tms k m)⟩,h.name.lay⟩
theorem SM {ks:List aO}(h : ∀ k∈ks,gX k){lo hi:Nat}(h1:lo≤ks.length)(h2:ks.length≤hi)(h3:hi≤1000):mV [tK ks,.int lo,.int hi]=some (.bool true):=by
 have:=Se (ds:=ks.map kD) (fun _=>true) (fun d m=>by
  obtain⟨k,mk,rfl⟩:=bW.mp m
  exact Kw (h k mk)) (by simp; omega) lo hi
 rw[this,decide_eq_true (by rw[dJ]; exact⟨h1,h2⟩)]
 simp
theorem LineG.line {l:Ln}(h:LineG l):qE [bI l]=some (.bool true):=line_of (QZ h.name) fun _=>SM (lo:=1) (hi:=6) h.tms h.one h.six (by omega)
noncomputable def gA (ls:List Ln):List aO:=ls.flatMap (·.2)
structure AltG (ts:List (aB×Nat))(hd:List aO)(ls:List Ln):Prop where
 tab:rF ts
 lin : ∀ l∈ls,Amh ts l
 few:ls.length≤5
 hd4:hd.length≤4
 tms : ∀ k∈hd,gX k
 std : ∀ k∈hd,∀ z,k = .inr z->z∈gD ls
theorem Nh {ls:List Ln}(h : ∀ l∈ls,LineG l)(h5:ls.length≤5):qG [lsD ls]=some (.bool true):=by
 rw[Lz (ds:=ls.map bI) (fun _=>true) (fun d m=>by
  obtain⟨l,ml,rfl⟩:=bW.mp m
  exact(h l ml).line) (by simp; omega),decide_eq_true (by rw[dJ]; exact h5)]
 simp
theorem A2s {ls:List Ln}{hd:List aO}:hd.all (tR ls)=true ↔ ∀ k∈hd,∀ z,k = .inr z->z∈gD ls:=by
 rw[eK]
 constructor
 ·rintro h k mk z rfl
  exact of_decide_eq_true (h _ mk)
 ·intro h k mk
  cases k with
  | inl i=>rfl
  | inr z=>exact decide_eq_true (h _ mk z rfl)
theorem OB {ts:List (aB×Nat)}{ls:List Ln}(ht:rF ts)(h : ∀ l∈ls,Amh ts l):FB ls:=by
 intro l ml l' ml' e
 have:=HM ht.2 _ (h l ml).1 _ (h l' ml').1 e
 exact(Prod.mk.inj this).2
theorem Ax1 {ls:List Ln}{z:aB}:z∈gD ls↔(.inr z:aO)∈gA ls:=by
 rw[Wj]
 unfold gA
 rw[zT]
 constructor
 ·rintro⟨l,ml,h⟩
  obtain⟨k,mk,e⟩:=wF.mp h
  refine⟨l,ml,?_⟩
  cases k with
  | inl i=>cases e
  | inr y=>cases e; exact mk
 ·rintro⟨l,ml,h⟩
  exact⟨l,ml,wF.mpr ⟨_,h,rfl⟩⟩
theorem NB {ρ:bC}{P:Out->Prop}{i:Nat}{f:EF}{ds ts:List aA}(h:f (vS ρ)=some (.tuple ts))(hg:getL i ρ=some ds)(hl:ds.length+ts.length≤100000)(k:P (.nx (ρ.set i (some (1,.list (ds++ts)))))):Goes (zA i .s f) ρ P:=⟨_,by
 have h':eV 0 .s f ρ=some (.tuple ts):=h
 unfold zA
 rw[h',cK,hg,cK]
 show(if ds.length+ts.length≤sizeLine then some (Out.nx (ρ.set i (some (1,.list (ds++ts))))) else none)=_
 rw[if_pos (gE hl)],k⟩
section
variable {ts:List (aB×Nat)}{hd:List aO}{ls:List Ln}(A:AltG ts hd ls)
include A
theorem AltG.good : ∀ l∈ls,LineG l:=fun l m=>(A.lin l m).good A.tab
theorem AltG.hdT:mV [tK hd,.int 0,.int 4]=some (.bool true):=SM (lo:=0) (hi:=4) A.tms (by omega) A.hd4 (by omega)
theorem AltG.lnT:qG [lsD ls]=some (.bool true):=Nh A.good A.few
theorem AltG.alt:nN [.tuple [tK hd,lsD ls]]=some (.bool true):=by
 obtain⟨b,eb,hb⟩:=ON (ls:=ls) (D0:=lsD ls) rfl (fun l m=>(A.good l m).T) (by have:=A.few; omega)
 have e:=Ds A.hdT (fun _=>A.lnT) (fun _ _=>Kh (hd:=hd) (fun l m=>(A.good l m).T) (by have:=A.few; omega) (by have:=A.hd4; omega)) (fun _ _ _=>eb)
 rw[e,hb.mpr (OB A.tab A.lin),A2s.mpr A.std]
 rfl
end
abbrev Al:=List aO×List Ln
noncomputable def bK (a:Al):aA:=.tuple [tK a.1,lsD a.2]
structure Alt1 (a:Al):Prop where
 alt:nN [bK a]=some (.bool true)
 lin : ∀ l∈a.2,rH l
 few:a.2.length≤5
theorem AltG.one {ts:List (aB×Nat)}{a:Al}(A:AltG ts a.1 a.2):Alt1 a:=⟨A.alt,fun l m=>(A.good l m).T,A.few⟩
theorem Rt (ds:List aA)(x1 x2:L2.Slot):bOr (eA (bOf (eUn (eQ "list") (aC 0)))) (bOf (eOp gGt (aL cB (aF (aC 0) aJ)) (eC (.int 3)))) (vS [s0 (.list ds),x1,x2])=some (decide (3<ds.length)):=by
 refine(oM (x:=false) (y:=decide (3<ds.length)) (mQ (x:=true) rfl) (fun _=>fP (bE (a:=.int ds.length) (b:=.int 3) (bH (ds:=[.list ds]) rfl (by simp[cB])) rfl ?_))).trans (by simp)
 show some (fD (decide ((ds.length:Int) > 3)))=_
 congr 2
 rw[decide_eq_decide]
 omega
theorem Ug {ds:List aA}(f:aA->Bool)(hf : ∀ d∈ds,nN [d]=some (.bool (f d)))(hl:ds.length≤3)(x1 x2:L2.Slot):eA (bOf (aL kQ (aF (eLC [none] (iIt (aC 0)) (gB 0) cX (aL nN (aF (aC 0) aJ))) aJ))) (vS [s0 (.list ds),x1,x2])=some (!ds.all f):=by
 have lc:=tO (cap:=[none]) (fi:=iIt (aC 0)) (T:=gB 0) (t:=cX) (f:=aL nN (aF (aC 0) aJ)) (ρ:=vS [s0 (.list ds),x1,x2]) (ds:=ds) (fun d=>.bool (f d)) (lR rfl) (by omega) (fun d md=>⟨[some d],rfl,rfl,bH (ds:=[d]) rfl (hf d md)⟩)
 exact mQ (bH (cR lc rfl) (AS f ds))
theorem QS : ∀ is:List Nat,nO (is.map fun(n:Nat)=>dA n)=some (is.map fun(n:Nat)=>(.inl n:aO))
 | []=>rfl
 | i::is=>by
  show((fO (.int i)).bind fun k=>(nO (is.map fun(n:Nat)=>dA n)).bind fun ks=>some (k::ks))=_
  rw[QS is]
  rfl
theorem Gr (ks:List aO):(dQ ks).length≤1 ↔ ∀ x∈ks,∀ y∈ks,x=y:=by
 have hm : ∀ x,x∈dQ ks↔x∈ks:=fun x=>by unfold dQ; rw[QE]; simp
 have nd:(dQ ks).Nodup:=OE (by simp)
 constructor
 ·intro h x mx y my
  have mx:=(hm x).mpr mx
  have my:=(hm y).mpr my
  match e:dQ ks,h with
  | [],_=>rw[e] at mx; simp at mx
  | [z],_=>
   rw[e] at mx my
   rw[dP.mp mx,dP.mp my]
  | a::b::r,h=>simp at h
 ·intro h
  match e:dQ ks with
  | []=>simp
  | [z]=>simp
  | a::b::r=>
   rw[e] at nd
   have:=h a ((hm a).mp (by rw[e]; simp)) b ((hm b).mp (by rw[e]; simp))
   rw[this] at nd
   simp at nd
theorem Ki (hs:List (List aO))(hl:hs.length≤100) : ∃ b:Bool,yU [.list (hs.map tK)]=some (.bool b)/\(b=true ↔ ∀ x∈hs,∀ y∈hs,x.length=y.length):=by
 let ks:List aO:=(hs.map qS).map fun(n:Nat)=>(.inl n:aO)
 refine⟨decide ((dQ ks).length≤1),?_,?_⟩
 ·refine fI rfl ?_
  have lc:=mR (cap:=[none]) (fi:=iIt (aC 0)) (T:=gB 0) (t:=cX) (f:=aL cB (aF (aC 0) aJ)) (ρ:=vS [s0 (.list (hs.map tK))]) (xs:=hs) (q:=tK) (fun _=>true) (fun h=>.int h.length) (lR rfl) (by omega) (fun h _=>⟨[some (tK h)],rfl,rfl,fun _=>bH (ds:=[tK h]) rfl (by rw[rS,dJ])⟩)
  rw[pL.mpr (by simp)] at lc
  have e:(hs.map fun h=>dA (h.length:Int))=(hs.map qS).map fun(n:Nat)=>dA n:=by rw[iT]; rfl
  rw[e] at lc
  refine cN (d:=.bool (decide ((dQ ks).length≤1))) (bE (a:=.int (dQ ks).length) (b:=.int 1) (bH (cR lc rfl) ?_) rfl ?_) rfl
  ·show((nO ((hs.map qS).map fun(n:Nat)=>dA n)).bind fun ks=>if ks.length≤4000 then some (dA (dQ ks).length) else none)=_
   rw[QS,cK,if_pos (by simp; omega)]
  ·show some (fD (decide (((dQ ks).length:Int)≤1)))=_
   congr 2
   rw[decide_eq_decide]
   omega
 ·rw[decide_eq_true_eq,Gr]
  constructor
  ·intro h x mx y my
   have:=h (.inl x.length) (bW.mpr ⟨_,bW.mpr ⟨x,mx,rfl⟩,rfl⟩) (.inl y.length) (bW.mpr ⟨_,bW.mpr ⟨y,my,rfl⟩,rfl⟩)
   have:=Sum.inl.inj this
   omega
  ·intro h x mx y my
   obtain⟨n,mn,rfl⟩:=bW.mp mx
   obtain⟨m,mm,rfl⟩:=bW.mp my
   obtain⟨p,mp,rfl⟩:=bW.mp mn
   obtain⟨q,mq,rfl⟩:=bW.mp mm
   rw[h p mp q mq]
noncomputable def kU (as:List Al):List Ln:=as.flatMap (·.2)
theorem Na {as:List Al}(h : ∀ a∈as,a.2.length≤5):(kU as).length≤5*as.length:=by
 induction as with
 | nil=>simp[kU]
 | cons a as ih=>
  have h1:=h a bR
  have h2:=ih fun x m=>h x (bZ _ m)
  unfold kU at h2 ⊢
  rw[List.flatMap_cons,hV,fF]
  omega
theorem Tx {as:List Al}(h : ∀ a∈as,Alt1 a)(hl:as.length≤3) : ∃ b1 b2:Bool,sE [.list (as.map bK)]=some (.bool (b1&&b2))/\(b1=true ↔ ∀ x∈as,∀ y∈as,x.1.length=y.1.length)/\(b2=true↔FB (kU as)):=by
 have hll:=Na (as:=as) fun a m=>(h a m).few
 obtain⟨b1,e1,h1⟩:=Ki (as.map (·.1)) (by simp; omega)
 obtain⟨b2,e2,h2⟩:=ON (ls:=kU as) (D0:=.list ((kU as).map bI)) rfl (fun l m=>by
  obtain⟨a,ma,ml⟩:=zT.mp m
  exact(h a ma).lin l ml) (by omega)
 refine⟨b1,b2,?_,?_,h2⟩
 ·refine fI rfl ?_
  let Q:L2.Slot:=s0 (.list (as.map bK))
  have t1:=Rt (as.map bK) none none
  rw[decide_eq_false (by rw[dJ]; omega)] at t1
  have t2:=Ug (ds:=as.map bK) (fun _=>true) (fun d m=>by
   obtain⟨a,ma,rfl⟩:=bW.mp m
   exact(h a ma).alt) (by rw[dJ]; exact hl) none none
  refine dM (fM t1) (dM (fM (t2.trans (by simp))) ?_)
  refine dM (ρ':=[Q,some (1,.list []),none]) rfl ?_
  refine gF (fun ρ'=>∃ x2:L2.Slot,ρ'=[Q,some (1,.list ((kU as).map bI)),x2]) ?_ ?_
  ·refine xH (xs:=as) (q:=bK) (b0:=([]:List Ln)) (fun acc a=>acc++a.2) (fun i acc ρ'=>∃ x2:L2.Slot,acc.length≤5*i/\ρ'=[Q,some (1,.list (acc.map bI)),x2]) (avS (lR rfl)) ⟨none,by simp,rfl⟩ ?_ ?_
   ·rintro i a acc _ hx ⟨x2,ha,rfl⟩
    have hi:i<as.length:=(fL.mp hx).1
    have h5:=(h a (gQ hx)).few
    refine⟨[Q,some (1,.list (acc.map bI)),s0 (bK a)],rfl,?_⟩
    exact NB (ts:=a.2.map bI) (ds:=acc.map bI) (bE (a:=bK a) (b:=.int 1) rfl rfl rfl) rfl (by simp; omega) ⟨_,.inl rfl,_,by simp; omega,by rw[← mD]; rfl⟩
   ·rintro _ ⟨x2,_,rfl⟩
    have gen : ∀ (xs:List Al) (b:List Ln),xs.foldl (fun acc a=>acc++a.2) b=b++kU xs:=fun xs=>by
     induction xs with
     | nil=>intro b; simp[kU]
     | cons x xs ih=>intro b; rw[lF,ih]; simp[kU]
    rw[gen]
    exact⟨_,rfl,x2,by simp⟩
  rintro _ ⟨x2,rfl⟩
  refine rP ?_
  let R:bC:=[Q,s0 (.list ((kU as).map bI)),x2]
  show Goes _ R _
  have lc:=mR (cap:=[none]) (fi:=iIt (aC 0)) (T:=gB 0) (t:=cX) (f:=eOp gIx (aC 0) (eC (.int 0))) (ρ:=vS R) (xs:=as) (q:=bK) (fun _=>true) (fun a=>tK a.1) (lR rfl) (by omega) (fun a _=>⟨[some (bK a)],rfl,rfl,fun _=>rfl⟩)
  rw[pL.mpr (by simp)] at lc
  have e:(as.map fun a=>tK a.1)=(as.map (·.1)).map tK:=by rw[iT]; rfl
  rw[e] at lc
  exact cN (d:=.bool (b1&&b2)) (oV (bH (cR lc rfl) e1) fun _=>bH (ds:=[.list ((kU as).map bI)]) rfl e2) rfl
 ·rw[h1]
  constructor
  ·exact fun q x mx y my=>q _ (bW.mpr ⟨x,mx,rfl⟩) _ (bW.mpr ⟨y,my,rfl⟩)
  ·intro q x mx y my
   obtain⟨a,ma,rfl⟩:=bW.mp mx
   obtain⟨b,mb,rfl⟩:=bW.mp my
   exact q a ma b mb
theorem Lo {ls:List Ln}(h : ∀ l∈ls,l.2.length≤6):(gA ls).length≤6*ls.length:=by
 induction ls with
 | nil=>simp[gA]
 | cons a as ih=>
  have h1:=h a bR
  have h2:=ih fun x m=>h x (bZ _ m)
  unfold gA at h2 ⊢
  rw[List.flatMap_cons,hV,fF]
  omega
theorem Qd {ns:List Int}{ts:List (aB×Nat)}{zs:List aB}{st size:Nat}(hs:st≤900)(h4:size≤4)(h0:0<ts.length)(hT:rF ts)(hz0:0<zs.length)(hz : ∀ z∈zs,nameS z) :
  ∃ a:Al,vF [lI ns,.int st,.list (ts.map eB),.list (zs.map bO),.int size]=some (bK a)/\AltG ts a.1 a.2/\a.1.length=size:=by
 suffices h : ∃ d,vF [lI ns,.int st,.list (ts.map eB),.list (zs.map bO),.int size]=some d /\ ∃ a:Al,d=bK a/\AltG ts a.1 a.2/\a.1.length=size by
  obtain⟨_,e,a,rfl,h⟩:=h
  exact⟨a,e,h⟩
 refine mL rfl ?_
 let S:L2.Slot:=s0 (lI ns)
 let T1:L2.Slot:=s0 (.int st)
 let TB:L2.Slot:=s0 (.list (ts.map eB))
 let ZS:L2.Slot:=s0 (.list (zs.map bO))
 let SZ:L2.Slot:=s0 (.int size)
 let N:L2.Slot:=none
 obtain⟨c,ec⟩:=uD (ns:=ns) (k:=(st:Int)) (by omega) (by omega)
 obtain⟨c1,ec1⟩:=uD (ns:=ns) (k:=1) (by omega) (by omega)
 let C:L2.Slot:=s0 (.int c)
 refine fA (d:=.int c) (bH (ds:=[lI ns,.int st]) rfl ec) (by simp) ?_
 obtain⟨n0,hn0⟩:=oF (gC (bN c 25) (show(0:Int)<4 by decide)).1
 have hn04:n0≤3:=by have:=(gC (bN c 25) (show(0:Int)<4 by decide)).2; omega
 refine fA (d:=.int n0) ((AN (b:=4) (XJ (c:=c) rfl 25 (by omega)) rfl (by decide)).trans (by rw[show((25:Nat):Int)=25 from rfl,hn0])) (by simp) ?_
 have tb:bV .s (bOf (eOp gEq (eOp bT (aL dW (aF (aL iP (aF (aC 0) (aF (eC (.int 1)) aJ))) (aF (eC (.int 24)) aJ))) (eC (.int 4))) (eC (.int 0)))) [S,T1,TB,ZS,SZ,C,s0 (.int n0),N,N,N,N,N]=some (decide (bN c1 (24:Nat)%4=0)):=fP (bE (a:=.int (bN c1 (24:Nat)%4)) (b:=.int 0) (AN (b:=4) (XJ (c:=c1) (bH (ds:=[lI ns,.int 1]) rfl ec1) 24 (by omega)) rfl (by decide)) rfl (tW _ _))
 refine gF (fun ρ'=>∃ n:Nat,n≤5/\ρ'=[S,T1,TB,ZS,SZ,C,s0 (.int n),N,N,N,N,N]) ?_ ?_
 ·by_cases q:bN c1 (24:Nat)%4=0
  ·exact fQ (tb.trans (by rw[decide_eq_true q])) ⟨_,rfl,_,rfl,5,by omega,rfl⟩
  ·exact⟨_,fM (tb.trans (by rw[decide_eq_false q])),_,rfl,n0,by omega,rfl⟩
 rintro _ ⟨n,hn5,rfl⟩
 obtain⟨ls,els,hls,hL⟩:=Uc (ns:=ns) (ts:=ts) (zs:=zs) (st:=st+1) (cnt:=n) (by omega) (by omega) h0 hT hz0 hz
 have gl : ∀ l∈ls,LineG l:=fun l m=>(hL l m).good hT
 have hfl:=Lo fun l m=>(gl l m).six
 let NN:L2.Slot:=s0 (.int n)
 let LL:L2.Slot:=s0 (.list (ls.map bI))
 refine fA (d:=.list (ls.map bI)) (bH (ds:=[lI ns,.int ((st+1:Nat):Int),.list (ts.map eB),.list (zs.map bO),.int n]) rfl els) (by simp) ?_
 refine dM (ρ':=[S,T1,TB,ZS,SZ,C,NN,LL,some (1,.list []),N,N,N]) rfl ?_
 refine gF (fun ρ'=>∃ x8:L2.Slot,ρ'=[S,T1,TB,ZS,SZ,C,NN,LL,some (1,lK (gA ls)),x8,N,N]) ?_ ?_
 ·refine xH (xs:=ls) (q:=bI) (b0:=([]:List aO)) (fun acc l=>acc++l.2) (fun i acc ρ'=>∃ x8:L2.Slot,acc.length≤6*i/\ρ'=[S,T1,TB,ZS,SZ,C,NN,LL,some (1,lK acc),x8,N,N]) (avS (lR rfl)) ⟨none,by simp,rfl⟩ ?_ ?_
  ·rintro i l acc _ hx ⟨x8,ha,rfl⟩
   have g:=gl l (gQ hx)
   have hi:i<ls.length:=(fL.mp hx).1
   have h6:=g.six
   refine⟨[S,T1,TB,ZS,SZ,C,NN,LL,some (1,lK acc),s0 (bI l),N,N],rfl,?_⟩
   exact NB (ts:=l.2.map kD) (ds:=acc.map kD) (bE (a:=bI l) (b:=.int 1) rfl rfl rfl) rfl (by simp; omega) ⟨_,.inl rfl,_,by simp; omega,by rw[← mD]; rfl⟩
  ·rintro _ ⟨x8,_,rfl⟩
   have gen : ∀ (xs:List Ln) (b:List aO),xs.foldl (fun acc l=>acc++l.2) b=b++gA xs:=fun xs=>by
    induction xs with
    | nil=>intro b; simp[gA]
    | cons x xs ih=>intro b; rw[lF,ih]; simp[gA]
   rw[gen]
   exact⟨_,rfl,x8,by simp⟩
 rintro _ ⟨x8,rfl⟩
 refine rP ?_
 let FL:L2.Slot:=s0 (lK (gA ls))
 show Goes _ [S,T1,TB,ZS,SZ,C,NN,LL,FL,x8,N,N] _
 refine dM (ρ':=[S,T1,TB,ZS,SZ,C,NN,LL,FL,x8,some (1,.list []),N]) rfl ?_
 refine gF (fun ρ'=>∃ (hd:List aO) (x10:L2.Slot),hd.length=size/\(∀ k∈hd,k∈gA ls \/ ∃ i:Int,k = .inl i/\i.natAbs<10 ^ 60)/\ρ'=[S,T1,TB,ZS,SZ,C,NN,LL,FL,x8,some (1,lK hd),x10]) ?_ ?_
 ·refine uA (n:=size) (fun i ρ'=>∃ (hd:List aO) (x10:L2.Slot),hd.length=i/\(∀ k∈hd,k∈gA ls \/ ∃ i:Int,k = .inl i/\i.natAbs<10 ^ 60)/\ρ'=[S,T1,TB,ZS,SZ,C,NN,LL,FL,x8,some (1,lK hd),x10]) (avS (oR rfl (by omega))) ⟨[],none,rfl,fun _ m=>by simp at m,rfl⟩ ?_ ?_
  ·rintro i _ hi ⟨hd,x10,hl2,hk,rfl⟩
   let R:bC:=[S,T1,TB,ZS,SZ,C,NN,LL,FL,x8,some (1,lK hd),s0 (.int i)]
   refine⟨R,rfl,?_⟩
   have el:aL cB (aF (aC 8) aJ) (vS R)=some (.int (gA ls).length):=bH (ds:=[lK (gA ls)]) rfl (by simp[cB])
   have mx : ∀ j:Nat,j≤100->aL dW (aF (aC 5) (aF (eOp bS (eC (.int j)) (aC 11)) aJ)) (vS R)=some (.int (bN c (j+i))):=fun j hj=>bH (ds:=[.int c,.int ((j:Int)+i)]) rfl (iN c (j+i) (by omega) (by omega))
   have a1:bOf (eOp gGt (aL cB (aF (aC 8) aJ)) (eC (.int 0))) (vS R)=some (decide (((gA ls).length:Int) > 0)):=fP (bE (b:=.int 0) el rfl rfl)
   have a2:bOf (eOp gGt (eOp bT (aL dW (aF (aC 5) (aF (eOp bS (eC (.int 26)) (aC 11)) aJ))) (eC (.int 4))) (eC (.int 0))) (vS R)=some (decide (bN c (26+i)%4 > 0)):=fP (bE (b:=.int 0) (AN (b:=4) (mx 26 (by omega)) rfl (by decide)) rfl rfl)
   have et:bV .s (lN (bOf (eOp gGt (aL cB (aF (aC 8) aJ)) (eC (.int 0)))) (bOf (eOp gGt (eOp bT (aL dW (aF (aC 5) (aF (eOp bS (eC (.int 26)) (aC 11)) aJ))) (eC (.int 4))) (eC (.int 0))))) R=some (decide (((gA ls).length:Int) > 0)&&decide (bN c (26+i)%4 > 0)):=by
    show lN _ _ (vS R)=_
    unfold lN
    rw[a1,a2]
    cases decide (((gA ls).length:Int) > 0) <;> rfl
   cases hb:(decide (((gA ls).length:Int) > 0)&&decide (bN c (26+i)%4 > 0)) with
   | true=>
    rw[hb] at et
    have h0:(0:Int)<(gA ls).length:=of_decide_eq_true (oI.mp hb).1
    obtain⟨j,d,hj,ed⟩:=JM (ds:=(gA ls).map kD) (bN c ((40:Nat)+i)) (by simp; omega)
    rw[fK] at hj
    obtain⟨k,hk1,rfl⟩:=kH.mp hj
    rw[dJ] at ed
    refine fQ et (xE (d:=kD k) (ds:=hd.map kD) (bE (a:=lK (gA ls)) (b:=.int (bN c ((40:Nat)+i)%((gA ls).length:Int))) rfl (AN (mx 40 (by omega)) el h0) ed) rfl (by simp; omega) ⟨_,.inl rfl,hd++[k],s0 (.int i),by simp[hl2],fun x mx=>?_,by simp[R]⟩)
    rcases iK.mp mx with q | q
    ·exact hk x q
    ·rw[dP.mp q]; exact .inl (gQ hk1)
   | false=>
    rw[hb] at et
    have bd:0≤bN c ((44:Nat)+i)/\bN c ((44:Nat)+i)<2147483587:=gC _ (by decide)
    refine JN et (xE (d:=kD (.inl (bN c ((44:Nat)+i) - 10 ^ 9))) (ds:=hd.map kD) (bE (b:=.int (10 ^ 9)) (mx 44 (by omega)) (bE (a:=.int 10) (b:=.int 9) rfl rfl (by simp[oY,g2C])) rfl) rfl (by simp; omega) ⟨_,.inl rfl,hd++[.inl (bN c ((44:Nat)+i) - 10 ^ 9)],s0 (.int i),by simp[hl2],fun x mx=>?_,by simp[R]⟩)
    rcases iK.mp mx with q | q
    ·exact hk x q
    ·rw[dP.mp q]; exact .inr ⟨_,rfl,by omega⟩
  ·rintro _ ⟨hd,x10,h1,h2,rfl⟩
   exact⟨_,rfl,hd,x10,h1,h2,rfl⟩
 rintro _ ⟨hd,x10,h1,hk,rfl⟩
 refine rP ?_
 refine cN (d:=bK (hd,ls)) (tT (ds:=[tK hd,lsD ls]) (cR (bH (ds:=[lK hd]) rfl rfl) (cR (bH (ds:=[.list (ls.map bI)]) rfl rfl) rfl))) ⟨_,rfl,(hd,ls),rfl,?_,h1⟩
 exact⟨hT,hL,by show ls.length≤5; omega,by show hd.length≤4; omega,fun k m=>by
  rcases hk k m with q | ⟨i,rfl,hi⟩
  ·obtain⟨l,ml,mk⟩:=zT.mp q
   exact(gl l ml).tms k mk
  ·exact hi,fun k m z e=>by
  rcases hk k m with q | ⟨i,rfl,hi⟩
  ·rw[e] at q
   exact Ax1.mpr q
  ·cases e⟩
structure QG (ts:List (aB×Nat))(size:Nat)(as:List Al):Prop where
 alt : ∀ a∈as,AltG ts a.1 a.2
 len : ∀ a∈as,a.1.length=size
 few:as.length≤3
 sz:size≤4
section
variable {ts:List (aB×Nat)}{size:Nat}{as:List Al}(G:QG ts size as)
include G
theorem QG.true:sE [.list (as.map bK)]=some (.bool true):=by
 obtain⟨b1,b2,e,h1,h2⟩:=Tx (fun a m=>(G.alt a m).one) G.few
 rw[e,h1.mpr fun x mx y my=>(G.len x mx).trans (G.len y my).symm,h2.mpr ?_]
 ·rfl
 ·by_cases q:as=[]
  ·rw[q]
   intro l m
   simp[kU] at m
  ·obtain⟨a,r,rfl⟩:=Xg q
   exact OB (G.alt a bR).tab fun l m=>by
    obtain⟨x,mx,ml⟩:=zT.mp m
    exact(G.alt x mx).lin l ml
end
theorem MF {ks:List aO}(h : ∀ k∈ks,gX k):cC (ks.map kD)=true:=BU fun t m=>by
 obtain⟨k,mk,rfl⟩:=bW.mp m
 have:=WM (h k mk)
 cases k with
 | inl i=>rfl
 | inr z=>simpa [bD,kD] using this
theorem Vv {l:Ln}(h:LineG l):bD (bI l)=true:=by
 have h1:=MF h.tms
 have h2:=h.name.lay
 simp[bI,bD,cC,h1]
 exact h2
theorem Sg {ts:List (aB×Nat)}{a:Al}(A:AltG ts a.1 a.2):bD (bK a)=true:=by
 have h1:=MF A.tms
 have h2:cC (a.2.map bI)=true:=BU fun t m=>by
  obtain⟨l,ml,rfl⟩:=bW.mp m
  exact Vv (A.good l ml)
 simp[bK,bD,cC,h1,h2]
theorem RS (a:Al):(bK a).depth≤10/\noDict (bK a)=true:=by
 have k1 : ∀ ks:List aO,dI (ks.map kD)≤1/\noDicts (ks.map kD)=true:=fun ks=>⟨Mr ks,Ov ks⟩
 have l1:dI (a.2.map bI)≤5:=CB fun t m=>by
  obtain⟨l,_,rfl⟩:=bW.mp m
  have:=(k1 l.2).1
  simp[bI,fV,dI]
  omega
 have l2:noDicts (a.2.map bI)=true:=xZ fun t m=>by
  obtain⟨l,_,rfl⟩:=bW.mp m
  have:=(k1 l.2).2
  simp[bI,noDict,noDicts,this]
 have h1:=(k1 a.1).1
 have h2:=(k1 a.1).2
 constructor
 ·simp[bK,fV,dI]
  omega
 ·simp[bK,noDict,noDicts,h2,l2]
theorem WD {ts:List (aB×Nat)}{size:Nat}{as:List Al}(G:QG ts size as):dE (.list (as.map bK))=true/\cP (.list (as.map bK)) (.list (as.map bK))=true:=by
 have h1:noDicts (as.map bK)=true:=xZ fun t m=>by
  obtain⟨a,_,rfl⟩:=bW.mp m
  exact(RS a).2
 have h2:dI (as.map bK)≤10:=CB fun t m=>by
  obtain⟨a,_,rfl⟩:=bW.mp m
  exact(RS a).1
 have h3:cC (as.map bK)=true:=BU fun t m=>by
  obtain⟨a,ma,rfl⟩:=bW.mp m
  exact Sg (G.alt a ma)
 constructor
 ·simp[dE,noDict,h1,fV]
  omega
 ·have:=CC _ _ h3 h3
  simp[cP,this]
end Aw
namespace L2
open PySem PySem.Spec PyProof.Rows PySem.NumText
noncomputable def tx (l:List Nat):aB:=⟨l.toArray⟩
theorem VN (l:List Nat):(tx l).cps.toList=l:=rfl
theorem eJ (l:List Nat):(tx l).length=l.length:=by simp[tx,EG]
theorem AV {a b:List Nat}(h:tx a=tx b):a=b:=by
 have:=congrArg (fun x:aB=>x.cps.toList) h
 simpa [tx] using this
theorem pU (x:aB):x=tx x.cps.toList:=by cases x; simp[tx]
theorem rO (a b:List Nat):tx a++tx b=tx (a++b):=by
 show(⟨a.toArray++b.toArray⟩:aB)=⟨(a++b).toArray⟩
 simp
noncomputable def iM (n:Nat):List Nat:=(KD 10 n).map Char.toNat
noncomputable def iV (i:Int):List Nat:=if i<0 then 45::iM i.natAbs else iM i.natAbs
theorem NJ : ∀ d:Nat,d<10->(Nat.digitChar d).toNat=48+d:=by decide
theorem tY {n:Nat}(h:n<10):iM n=[48+n]:=by
 unfold iM
 rw[Xb h]
 simp[NJ n h]
theorem BE {n:Nat}(h:10≤n):iM n=iM (n / 10)++[48+n%10]:=by
 unfold iM
 have hm:n%10<10:=qP n (by decide)
 have t:KD 10 (n / 10)++KD 10 (n%10)=KD 10 (10*(n / 10)+n%10):=Nat.toDigits_append_toDigits (by decide) (by omega) hm
 rw[Nat.div_add_mod] at t
 rw[← t,mD,Xb hm]
 simp[NJ _ hm]
theorem BK : ∀ (n:Nat),AllDigits (iM n):=fun n=>by
 induction n using Nat.strongRecOn with
 | _ n ih=>
  by_cases h:n<10
  ·rw[tY h]; intro c m; rw[dP.mp m]; omega
  ·rw[BE (by omega)]
   intro c m
   rcases iK.mp m with m | m
   ·exact ih (n / 10) (by omega) c m
   ·rw[dP.mp m]; omega
theorem NA (n:Nat):iM n≠[]:=by
 by_cases h:n<10
 ·rw[tY h]; simp
 ·rw[BE (by omega)]; simp
theorem GY : ∀ (k n:Nat),n<10 ^ (k+1)->(iM n).length≤k+1:=fun k=>by
 induction k with
 | zero=>intro n h; rw[tY (by simpa using h)]; simp
 | succ k ih=>
  intro n h
  by_cases h10:n<10
  ·rw[tY h10]; simp
  ·rw[BE (by omega),hV]
   have:=ih (n / 10) (by rw[wA] at h; exact Nat.div_lt_of_lt_mul (by rw[KH]; exact h))
   simp
   omega
theorem OQ (n:Nat):digitsVal (iM n)=n:=PySem.W.KIN.val_back n
theorem Jv (i:Int):kE (toString i)=tx (iV i):=by
 rw[pU (kE (toString i))]
 congr 1
 unfold iV
 by_cases h:i<0
 ·rw[if_pos h]
  obtain⟨m,rfl⟩ : ∃ m,i=Int.negSucc m:=by
   cases i with
   | ofNat m=>exact absurd h (by simp)
   | negSucc m=>exact⟨m,rfl⟩
  rw[PyProof.Rows.signs_ofString]
  show("-" ++ Nat.repr (m+1)).toList.map Char.toNat=_
  rw[String.toList_append,mD,Nat.toList_repr]
  rfl
 ·rw[if_neg h]
  obtain⟨m,rfl⟩:=oF (show 0≤i by omega)
  exact PySem.W.KIN.signs_num m
noncomputable def jn:List (List Nat)->List Nat
 | []=>[]
 | [w]=>w
 | w::v::r=>w++32::jn (v::r)
theorem Ts:(" " : aB)=tx [32]:=by decide
theorem GG : ∀ ws:List (List Nat),dN " " (ws.map tx)=tx (jn ws)
 | []=>by simp[dN,jn]; rfl
 | [w]=>by simp[dN,jn]
 | w::v::r=>by
  have e:dN (" " : aB) (tx w::tx v::r.map tx)=tx w ++ " " ++ dN " " (tx v::r.map tx):=by
   rw[dN]
   intro z; cases z
  show dN " " (tx w::tx v::r.map tx)=_
  rw[e]
  have ih:=GG (v::r)
  rw[fE] at ih
  rw[ih,Ts,rO,rO]
  simp[jn]
theorem OV : ∀ {w v A B:List Nat},32∉w->32∉v->w++32::A=v++32::B->w=v/\A=B
 | [],[],A,B,_,_,h=>by simpa using h
 | [],y::v,A,B,_,hv,h=>by
  have:32=y:=by have:=ZL h; exact this.1
  exact absurd (by simp[this]) hv
 | x::w,[],A,B,hw,_,h=>by
  have:x=32:=by have:=ZL h; exact this.1
  exact absurd (by simp[this]) hw
 | x::w,y::v,A,B,hw,hv,h=>by
  obtain⟨e1,e2⟩:=ZL h
  obtain⟨e3,e4⟩:=OV (fun m=>hw (bZ _ m)) (fun m=>hv (bZ _ m)) e2
  exact⟨by rw[e1,e3],e4⟩
theorem UZ : ∀ {ws vs:List (List Nat)},ws≠[]->vs≠[]->(∀ w∈ws,32∉w)->(∀ v∈vs,32∉v)->jn ws=jn vs->ws=vs
 | [],_,h,_,_,_,_=>absurd rfl h
 | _,[],_,h,_,_,_=>absurd rfl h
 | [w],[v],_,_,_,_,h=>by rw[show w=v from h]
 | [w],v::v2::r,_,_,hw,_,h=>by
  have h:w=v++32::jn (v2::r):=h
  exact absurd (by rw[h]; simp) (hw w bR)
 | w::w2::r,[v],_,_,_,hv,h=>by
  have h:w++32::jn (w2::r)=v:=h
  exact absurd (by rw[← h]; simp) (hv v bR)
 | w::w2::r,v::v2::s,_,_,hw,hv,h=>by
  have h:w++32::jn (w2::r)=v++32::jn (v2::s):=h
  obtain⟨e1,e2⟩:=OV (hw w bR) (hv v bR) h
  rw[e1,UZ (by simp) (by simp) (fun x m=>hw x (bZ _ m)) (fun x m=>hv x (bZ _ m)) e2]
theorem Sw {ws:List (List Nat)}(hn:ws≠[])(hf : ∀ w∈ws,32∉w):nX (tx (jn ws)) " " = ws.map tx:=by
 have h1:=StrLaws.join_split (tx (jn ws)) " "
 have h2:=StrLaws.split_free (tx (jn ws)) 32
 have h3:=split_pos (tx (jn ws)) " "
 have e0:(⟨#[32]⟩:aB) = " ":=by decide
 rw[e0] at h2
 generalize nX (tx (jn ws)) " " = ps at h1 h2 h3 ⊢
 have ep:ps=(ps.map fun p=>p.cps.toList).map tx:=by
  rw[iT]
  conv=>lhs; rw[← List.map_id ps]
  exact ES fun p _=>pU p
 rw[ep,GG] at h1
 have:=UZ (ws:=ps.map fun p=>p.cps.toList) (vs:=ws) (by intro z; rw[List.map_eq_nil_iff.mp z] at h3; simp at h3) hn (fun w m=>by
  obtain⟨p,mp,rfl⟩:=bW.mp m
  exact h2 p mp) hf (AV h1)
 rw[ep,this]
theorem VX : ∀ (ws:List (List Nat)) (n:Nat),(∀ w∈ws,w.length≤n)->(jn ws).length≤ws.length*(n+1)
 | [],n,_=>by simp[jn]
 | [w],n,h=>by
  have:=h w bR
  simp[jn]
  omega
 | w::v::r,n,h=>by
  have h1:=h w bR
  have h2:=VX (v::r) n fun x m=>h x (bZ _ m)
  have e:(jn (w::v::r)).length=w.length+(1+(jn (v::r)).length):=by
   show(w++32::jn (v::r)).length=_
   rw[hV,fF]
   omega
  rw[e,fF,KF]
  omega
theorem SQ {v:Int}{c:Nat}(h:c∈iV v):c=45 \/ (48≤c/\c≤57):=by
 unfold iV at h
 split at h
 ·rcases cQ.mp h with h | h
  ·exact .inl h
  ·exact .inr (BK _ c h)
 ·exact .inr (BK _ c h)
theorem Ir (v:Int):iV v≠[]:=by
 unfold iV
 split
 ·simp
 ·exact NA _
theorem OX {v:Int}(h:v.natAbs<10 ^ 70):(iV v).length≤71:=by
 have:=GY 69 v.natAbs h
 unfold iV
 split
 ·simp; omega
 ·omega
noncomputable def jH (w:List Nat):List Nat:=if w.head?=some 45 then w.tail else w
noncomputable def oJ (w:List Nat):Bool:=decide (1≤w.length/\w.length≤70)&&w.all fun c=>decide (48≤c/\c≤57)
noncomputable def mP (w:List Nat):aA:=if oJ (jH w)=true then .int (if w.head?=some 45 then -((digitsVal (jH w):Nat):Int) else((digitsVal (jH w):Nat):Int)) else .none
theorem QV {w:List Nat}(h:oJ w=true):AllDigits w/\w≠[]/\w.length≤70:=by
 unfold oJ at h
 simp only[mF,decide_eq_true_eq,eK] at h
 exact⟨fun c m=>h.2 c m,fun z=>by rw[z] at h; simp at h,h.1.2⟩
theorem SN {n:Nat}(h:n<10 ^ 70):oJ (iM n)=true:=by
 unfold oJ
 have h1:=GY 69 n h
 have h2:=List.length_pos_iff.mpr (NA n)
 simp only[mF,decide_eq_true_eq,eK]
 exact⟨⟨by omega,by omega⟩,fun c m=>BK n c m⟩
theorem TR (n:Nat):(iM n).head?≠some 45:=fun h=>by
 have:=BK n 45 (List.mem_of_mem_head? h)
 omega
theorem Mn {v:Int}(h:v.natAbs<10 ^ 70):mP (iV v) = .int v:=by
 unfold mP jH iV
 by_cases hv:v<0
 ·rw[if_pos hv]
  simp only[List.head?_cons,if_true,List.tail_cons]
  rw[if_pos (SN h),OQ]
  congr 1
  omega
 ·rw[if_neg hv,if_neg (TR _),if_neg (TR _),if_pos (SN h),OQ]
  congr 1
  omega
theorem Pw {w:List Nat}(h:oJ (jH w)=true):EJ (tx w)=some (if w.head?=some 45 then -((digitsVal (jH w):Nat):Int) else((digitsVal (jH w):Nat):Int)):=by
 obtain⟨h1,h2,h3⟩:=QV h
 unfold jH at h1 h2 h3 ⊢
 by_cases hw:w.head?=some 45
 ·rw[if_pos hw] at h1 h2 h3 ⊢
  rw[if_pos hw]
  cases w with
  | nil=>cases hw
  | cons c r=>
   cases hw
   exact intText_neg (x:=tx (45::r)) (cs:=r) rfl h1 h2 (by rw[eJ]; simp at h3 ⊢; omega)
 ·rw[if_neg hw] at h1 h2 h3 ⊢
  rw[if_neg hw]
  exact intText_digits (x:=tx w) h1 h2 (by rw[eJ]; omega)
theorem Hy (w:List Nat)(a b:Nat)(hb:b≤w.length):(((cU (b - a)).map (a + ·)).filterMap ((tx w).cps[·]?))=(w.take b).drop a:=by
 rw[pick_run,VN,List.drop_take]
theorem Jr (w:List Nat)(lo hi:Option Int)(a b:Nat)(h:wJ lo hi 1 w.length=sliceRange a b 1)(hb:b≤w.length):kL (tx w) lo hi=tx ((w.take b).drop a):=by
 unfold kL
 rw[eJ,h,sliceRange_one]
 split
 ·rename_i hl
  have hl:b - a=w.length:=by simpa using hl
  congr 1
  by_cases h0:w.length=0
  ·rw[oB h0]; simp
  ·have:a=0/\b=w.length:=by omega
   rw[this.1,this.2]; simp
 ·rw[Hy w a b hb]
  rfl
theorem QD {w:List Nat}{a:Nat}(h:a≤w.length):kL (tx w) (some (a:Int)) none=tx (w.drop a):=by
 rw[Jr w _ _ a w.length (by
  unfold wJ
  simp only[show(1:Int) > 0 by decide,if_true]
  rw[if_neg (by omega),show max 0 (min (a:Int) (w.length:Int))=a by omega]) (bY _),EO]
theorem Pt (w:List Nat):JX (tx w) "-" = decide (w.head?=some 45):=by
 have e0:("-" : aB)=tx [45]:=by decide
 rw[e0]
 unfold JX Builtin.Str.subAt
 rw[eJ,eJ]
 cases w with
 | nil=>simp
 | cons c r=>
  have e1:((tx (c::r)).cps.extract 0 (0+[45].length)) = #[c]:=by
   apply EW.mp
   simp[tx]
  rw[e1]
  simp[tx]
  by_cases h:c=45 <;> simp[h]
def plain (w:List Nat):Prop:=∀ c∈w,c<128
theorem Lc {w:List Nat}(h:plain w):cA (.str (tx w))=true:=by
 simp only[cA,sN,tx]
 simp only[ZM,eK]
 intro c m
 have:=h c m
 exact decide_eq_true (by omega)
open PySem PySem.Spec PyProof.Rows
noncomputable def jnS (sep:List Nat):List (List Nat)->List Nat
 | []=>[]
 | [w]=>w
 | w::v::r=>w++(sep++jnS sep (v::r))
theorem OJ (sep:List Nat) : ∀ ws:List (List Nat),dN (tx sep) (ws.map tx)=tx (jnS sep ws)
 | []=>by simp[dN,jnS]; rfl
 | [w]=>by simp[dN,jnS]
 | w::v::r=>by
  have e:dN (tx sep) (tx w::tx v::r.map tx)=tx w++tx sep++dN (tx sep) (tx v::r.map tx):=by
   rw[dN]
   intro z; cases z
  show dN (tx sep) (tx w::tx v::r.map tx)=_
  rw[e]
  have ih:=OJ sep (v::r)
  rw[fE] at ih
  rw[ih,rO,rO]
  simp[jnS]
theorem tQ (X:List Nat)(a b:Nat):qZ (tx X) a b=tx ((X.drop a).take (b - a)):=by
 rw[pU (qZ (tx X) a b),StrLaws.strSub_toList]
 rfl
theorem Awn {X sep:List Nat}{k:Nat}:zK (tx X) (tx sep) (tx X).length k↔k+sep.length≤X.length/\(X.drop k).take sep.length=sep:=by
 unfold zK Builtin.Str.subAt
 rw[eJ,eJ]
 have ex:((tx X).cps.extract k (k+sep.length)).toList=(X.drop k).take sep.length:=by
  simp[tx]
 constructor
 ·rintro⟨h1,h2⟩
  have h3:=congrArg Array.toList (eq_of_beq h2)
  rw[ex] at h3
  exact⟨h1,h3⟩
 ·rintro⟨h1,h2⟩
  refine⟨h1,?_⟩
  have:(tx X).cps.extract k (k+sep.length)=(tx sep).cps:=by
   apply EW.mp
   rw[ex,h2]
   rfl
  rw[this]
  simp
section
variable {sep p q:List Nat}{c:Nat}(hs:sep=p++c::q)(hp:c∉p)
include hs
theorem FG {X:List Nat}{k:Nat}(h:zK (tx X) (tx sep) (tx X).length k):X[k+p.length]?=some c:=by
 obtain⟨h1,h2⟩:=Awn.mp h
 have h3:=congrArg (fun l=>l[p.length]?) h2
 rw[ZE (by rw[hs]; simp),List.getElem?_drop] at h3
 rw[h3,hs]
 simp
include hp
theorem TL (X:List Nat) : ∀ (cuts:List Nat) (a f:Nat) (ws:List (List Nat)) (pre:List Nat),X=pre++jnS sep ws->a=pre.length->StrLaws.ChainG (tx X) (tx sep) (tx X).length a cuts f->(∀ k,f≤k -> ¬ zK (tx X) (tx sep) (tx X).length k)->ws≠[]->(∀ w∈ws,c∉w) ->
  StrLaws.partsFrom (tx X) (tx sep).length a cuts=ws.map tx
 | cuts,a,f,[],pre,_,_,_,_,hn,_=>absurd rfl hn
 | [],a,f,[w],pre,hX,ha,hG,hN,_,hf=>by
  show [qZ (tx X) a (tx X).length]=[tx w]
  rw[tQ,eJ,hX,ha]
  simp[jnS]
 | d::r,a,f,[w],pre,hX,ha,hG,hN,_,hf=>by
  have h1:=FG hs hG.2.1
  have hd:=hG.1
  rw[hX,wH (by omega)] at h1
  exact absurd (gQ h1) (hf w (by simp))
 | [],a,f,w::v::r,pre,hX,ha,hG,hN,_,hf=>by
  have e:f=a:=hG
  refine absurd (Awn.mpr ⟨?_,?_⟩) (hN (a+w.length) (by omega))
  ·rw[hX,ha]; simp[jnS]; omega
  ·rw[hX,ha]
   simp[jnS,ZJ,YX]
 | d::r',a,f,w::v::r,pre,hX,ha,hG,hN,_,hf=>by
  obtain⟨g1,g2,g3,g4⟩:=hG
  have hA:zK (tx X) (tx sep) (tx X).length (a+w.length):=by
   refine Awn.mpr ⟨?_,?_⟩
   ·rw[hX,ha]; simp[jnS]; omega
   ·rw[hX,ha]
    simp[jnS,ZJ,YX]
  have h1:d≤a+w.length:=by
   rcases pJ (a+w.length) d with z | z
   ·exact absurd hA (g3 _ (by omega) z)
   ·exact z
  have h2:a+w.length≤d:=by
   rcases pJ d (a+w.length) with z | z
   ·exfalso
    have h3:=FG hs g2
    rw[hX,wH (by omega)] at h3
    have h4:(w++p++(c::q++jnS sep (v::r)))[d+p.length - pre.length]?=some c:=by
     rw[← h3]
     congr 1
     show _=w++(sep++jnS sep (v::r))
     rw[hs]
     simp
    rw[qW (by simp; omega)] at h4
    rcases iK.mp (gQ h4) with m | m
    ·exact hf w (by simp) m
    ·exact hp m
   ·exact z
  have ed:d=a+w.length:=by omega
  subst ed
  show qZ (tx X) a (a+w.length)::StrLaws.partsFrom (tx X) (tx sep).length (a+w.length+(tx sep).length) r'=tx w::(v::r).map tx
  rw[TL X r' _ f (v::r) (pre++(w++sep)) (by rw[hX]; simp[jnS]) (by rw[eJ,ha]; simp; omega) g4 hN (by simp) (fun x m=>hf x (bZ _ m)),tQ]
  congr 2
  rw[hX,ha]
  simp[jnS,ZJ,YX]
theorem Wv {ws:List (List Nat)}(hn:ws≠[])(hf : ∀ w∈ws,c∉w)(hpl:plain (jnS sep ws))(hps:plain sep):nX (tx (jnS sep ws)) (tx sep)=ws.map tx:=by
 have h1:1≤(tx sep).length:=by rw[eJ,hs]; simp; omega
 obtain⟨f,hG,hN⟩:=StrLaws.occ_tight (tx (jnS sep ws)) (tx sep) h1
 have key:=fun cuts (hG:StrLaws.ChainG (tx (jnS sep ws)) (tx sep) (tx (jnS sep ws)).length 0 cuts f)=>TL hs hp (jnS sep ws) cuts 0 f ws [] rfl rfl hG hN hn hf
 have kd : ∀ {l:List Nat},plain l->LB (tx l)=1:=fun {l} hl=>by
  unfold LB
  rw[if_pos]
  show l.toArray.all _=true
  rw[ZM,eK]
  intro x m
  have:=hl x m
  exact decide_eq_true (by omega)
 unfold nX
 split
 ·rename_i hc
  rw[kd hpl,kd hps] at hc
  simp at hc
  have hno:jU (tx (jnS sep ws)) (tx sep) 0 (tx (jnS sep ws)).length ((tx (jnS sep ws)).length+1)=[]:=by
   cases q:jU (tx (jnS sep ws)) (tx sep) 0 (tx (jnS sep ws)).length ((tx (jnS sep ws)).length+1) with
   | nil=>rfl
   | cons d r=>
    rw[q] at hG
    have:=(hG.2.1).1
    omega
  have:=key _ hG
  rw[hno] at this
  rw[← this]
  show [tx (jnS sep ws)]=[qZ _ 0 _]
  rw[tQ,eJ]
  simp
 ·split
  ·rename_i he
   have e0:=List.isEmpty_iff.mp he
   have:=key _ hG
   rw[e0] at this
   rw[← this]
   show [tx (jnS sep ws)]=[qZ _ 0 _]
   rw[tQ,eJ]
   simp
  ·rw[StrLaws.partsBetween_eq]
   exact key _ hG
end
theorem Jm {A B:List Nat}{c:Nat}(h:c∉A):pH (tx (A++c::B)) (tx [c])=(tx A,tx [c],tx B):=by
 unfold pH
 have hA:zK (tx (A++c::B)) (tx [c]) (tx (A++c::B)).length A.length:=Awn.mpr ⟨by simp,by simp⟩
 rcases StrLaws.occ_head_from (tx (A++c::B)) (tx [c]) 0 1 (by decide) with⟨_,hn⟩ | ⟨i,r,e,_,hi,hmin⟩
 ·exact absurd hA (hn _ (eY _))
 ·rw[e]
  have h1:i≤A.length:=by
   rcases pJ A.length i with z | z
   ·exact absurd hA (hmin _ (eY _) z)
   ·exact z
  have h2:A.length≤i:=by
   rcases pJ i A.length with z | z
   ·have:=FG (sep:=[c]) (p:=[]) (q:=[]) rfl hi
    rw[KN,KI,qW z] at this
    exact absurd (gQ this) h
   ·exact z
  have ei:i=A.length:=by omega
  subst ei
  show(qZ _ 0 A.length,tx [c],qZ _ (A.length+(tx [c]).length) _)=_
  rw[tQ,tQ,eJ,eJ]
  simp
  rw[List.take_of_length_le (by omega)]
end L2
namespace Aw
open PySem L2
noncomputable abbrev FIG:aB:="0123456789"
theorem Hu : ∀ c<128,(false != !(jU FIG ⟨#[c]⟩ 0 FIG.length 1).isEmpty)=decide (48≤c/\c≤57):=by decide +kernel
theorem Er {c:Nat}(h:c<128):gIn false (cO c) (.str FIG)=some (.bool (decide (48≤c/\c≤57))):=by
 show some (fD (false != !(jU FIG ⟨#[c]⟩ 0 FIG.length 1).isEmpty))=_
 rw[Hu c h]
theorem all_map {α:Type}(p:α->Bool)(l:List α):kQ [.list (l.map fun x=>fD (p x))]=some (.bool (l.all p)):=by
 show((mW (l.map fun x=>fD (p x))).bind fun bs=>some (fD (bs.all id)))=_
 rw[GR,cK]
 simp[List.all_map]
theorem Rf {f:EF}{ρ:List (Option aA)}{w:List Nat}(h:f ρ=some (.str (tx w)))(hl:w.length≤100000):iIt f ρ=some (w.map cO):=by
 unfold iIt
 rw[h]
 show itemsOf (.str (tx w))=_
 simp[itemsOf,eJ,VN,cO,gE hl]
theorem len_str {w:List Nat}(hl:w.length≤100000):cB [.str (tx w)]=some (.int w.length):=by
 show(if (tx w).length≤sizeLine then some (dA ((tx w).length:Nat)) else none)=_
 rw[eJ,if_pos (gE hl)]
theorem Ur {f:EF}{ρ:List (Option aA)}{n a b:Int}(h:f ρ=some (.int n)):jX gLe gLe (eC (.int a)) f (eC (.int b)) ρ=some (.bool (decide (a≤n/\n≤b))):=by
 unfold jX
 rw[h]
 show(if decide (a≤n)=true then some (fD (decide (n≤b))) else some (fD false))=_
 by_cases h1:a≤n <;> by_cases h2:n≤b <;> simp[h1,h2]
theorem Rn {w:List Nat}(hp:plain w)(hl:w.length≤600):uO [.str (tx w)]=some (mP w):=by
 have : ∃ d,uO [.str (tx w)]=some d/\d=mP w:=by
  refine mL rfl ?_
  have hf:(jH w).length≤600/\plain (jH w):=by
   unfold jH
   split
   ·exact⟨by rw[List.length_tail]; omega,fun c m=>hp c (List.mem_of_mem_tail m)⟩
   ·exact⟨hl,hp⟩
  refine fA (d:=.str (tx (jH w))) ?_ (by simp) ?_
  ·show(bOf (eOp BH (aC 0) (eC (.str "-"))) _).bind _=_
   rw[fP (b:=decide (w.head?=some 45)) (bE (a:=.str (tx w)) (b:=.str "-") rfl rfl (by rw[← Pt]; rfl)),cK]
   unfold jH
   by_cases h:w.head?=some 45
   ·rw[if_pos (decide_eq_true h),if_pos h]
    show(if (tx w).length≤sizeLine then some (bO (kL (tx w) (some 1) none)) else none)=_
    rw[if_pos (by rw[eJ]; exact gE (by omega))]
    have:1≤w.length:=by
     cases w with
     | nil=>cases h
     | cons c r=>simp
    have e:=QD (w:=w) (a:=1) this
    rw[show((1:Nat):Int)=1 from rfl] at e
    rw[e,List.drop_one]
   ·rw[if_neg (by simp[h]),if_neg h]
    rfl
  generalize hF:jH w=F at hf ⊢
  let R:bC:=[s0 (.str (tx w)),s0 (.str (tx F))]
  have e1:bOf (jX gLe gLe (eC (.int 1)) (aL cB (aF (aC 1) aJ)) (eC (.int 70))) (vS R)=some (decide (1≤F.length/\F.length≤70)):=by
   rw[fP (Ur (n:=F.length) (bH (ds:=[.str (tx F)]) rfl (len_str (by omega))))]
   congr 1
   simp only[decide_eq_decide]
   omega
  have e2:bOf (aL kQ (aF (eLC [none] (iIt (aC 1)) (gB 0) cX (eOp (gIn false) (aC 0) (eC (.str "0123456789")))) aJ)) (vS R)=some (F.all fun c=>decide (48≤c/\c≤57)):=by
   refine fP (bH (ds:=[.list (F.map fun c=>.bool (decide (48≤c/\c≤57)))]) (cR ?_ rfl) (all_map _ _))
   have:=mR (cap:=[none]) (fi:=iIt (aC 1)) (T:=gB 0) (t:=cX) (f:=eOp (gIn false) (aC 0) (eC (.str "0123456789"))) (ρ:=vS R) (xs:=F) (q:=cO) (fun _=>true) (fun c=>.bool (decide (48≤c/\c≤57))) (Rf rfl (by omega)) (by omega) (fun c m=>⟨[some (cO c)],rfl,rfl,fun _=>bE (a:=cO c) (b:=.str FIG) rfl rfl (Er (hf.2 c m))⟩)
   rw[pL.mpr (fun _ _=>rfl)] at this
   exact this
  have e3:bV .s (bOr (eA (bOf (jX gLe gLe (eC (.int 1)) (aL cB (aF (aC 1) aJ)) (eC (.int 70))))) (eA (bOf (aL kQ (aF (eLC [none] (iIt (aC 1)) (gB 0) cX (eOp (gIn false) (aC 0) (eC (.str "0123456789")))) aJ))))) R=some (!oJ F):=by
   show bOr _ _ (vS R)=_
   simp only[bOr,eA,e1,e2,cK,oJ]
   by_cases h:1≤F.length/\F.length≤70 <;> simp[h]
  by_cases hk:oJ F=true
  ·refine dM (ρ':=R) (fM (e3.trans (by rw[hk]; rfl))) ?_
   refine cN (bH (ds:=[.str (tx w)]) rfl ?_) ⟨_,rfl,rfl⟩
   have:=Pw (w:=w) (by rw[hF]; exact hk)
   show(if (tx w).length≤640 then(EJ (tx w)).map dA else none)=_
   rw[if_pos (by rw[eJ]; omega),this]
   unfold mP
   rw[hF,if_pos hk]
   rfl
  ·refine iY (fQ (e3.trans (by rw[Bool.eq_false_iff.mpr hk]; rfl)) (cN (d:=.none) rfl ⟨_,rfl,_,rfl,?_⟩))
   unfold mP
   rw[hF,if_neg hk]
 obtain⟨d,e,rfl⟩:=this
 exact e
noncomputable def wdD:aA->List Nat
 | .str x=>x.cps.toList
 | .int i=>iV i
 | _=>[]
def shB:aA->Prop
 | .str x=>x.length≤600
 | .int i=>i.natAbs<10 ^ 70
 | _=>False
theorem Gd {n:Nat}(h:n<10 ^ 70):n.log2<1920:=by
 by_cases h0:n=0
 ·subst h0; decide
 ·rw[Nat.log2_lt h0]
  exact Nat.lt_trans h (by decide +kernel)
theorem Ka (v:Int):L2.plain (iV v):=fun c m=>by rcases SQ m with h | h <;> omega
theorem XM {d:aA}(h:shB d):zB [d]=some (.str (tx (wdD d)))/\(wdD d).length≤600:=by
 cases d with
 | str x=>exact⟨by rw[show wdD (.str x)=x.cps.toList from rfl,← pU]; rfl,by
   have h:x.length≤600:=h
   show x.cps.toList.length≤600
   simpa [EG] using h⟩
 | int v=>
  have h:v.natAbs<10 ^ 70:=h
  refine⟨?_,by have:=OX h; show(iV v).length≤600; omega⟩
  show(if v.natAbs.log2<1920/\cA (.str (kE (toString v)))=true then some (bO (kE (toString v))) else none)=_
  rw[Jv,if_pos ⟨Gd h,Lc (Ka v)⟩]
  rfl
 | _=>exact h.elim
theorem GS : ∀ ws:List (List Nat),lJ (ws.map fun w=>.str (tx w))=some (ws.map tx)
 | []=>rfl
 | w::r=>by
  show((lJ (r.map fun w=>.str (tx w))).bind fun xs=>some (tx w::xs))=_
  rw[GS r]
  rfl
theorem JF {n:Nat} : ∀ {ws:List (List Nat)},(∀ w∈ws,w.length≤n)->((ws.map tx).map (·.length)).sum≤ws.length*n
 | [],_=>by simp
 | w::r,h=>by
  have h1:=h w bR
  have h2:=JF (n:=n) (ws:=r) fun x m=>h x (bZ _ m)
  simp only[fE,List.sum_cons,fF,KF,eJ]
  omega
theorem BC {ws:List (List Nat)}(hl : ∀ w∈ws,w.length≤1000)(hn:ws.length≤1000):mJ (.str " ") (.list (ws.map fun w=>.str (tx w)))=some (.str (tx (jn ws))):=by
 show((lJ (ws.map fun w=>.str (tx w))).bind fun ys=>if (ys.map (·.length)).sum+ys.length*(kE " ").length≤16777216 then some (bO (dN (kE " ") ys)) else none)=_
 rw[GS,cK]
 have h1:=JF hl
 have h2:ws.length*1000≤1000*1000:=wC _ hn
 have h3:(kE " ").length=1:=by decide
 rw[if_pos (by rw[h3,dJ]; omega)]
 exact congrArg (fun x=>some (bO x)) (GG ws)
theorem OC {ds:List aA}(h : ∀ d∈ds,shB d)(hl:ds.length≤1000):sA [.tuple ds]=some (.str (tx (jn (ds.map wdD)))):=by
 refine fI rfl ?_
 have lc:=tO (cap:=[none]) (fi:=iIt (aC 0)) (T:=gB 0) (t:=cX) (f:=aL zB (aF (aC 0) aJ)) (ρ:=vS [s0 (.tuple ds)]) (ds:=ds) (fun d=>.str (tx (wdD d))) (lQ rfl) (by omega) (fun d m=>⟨[some d],rfl,rfl,bH (ds:=[d]) rfl (XM (h d m)).1⟩)
 have e:(ds.map fun d=>bO (tx (wdD d)))=(ds.map wdD).map fun w=>.str (tx w):=by rw[iT]; rfl
 rw[e] at lc
 refine cN (bE (a:=.str " ") rfl lc (BC (fun w m=>?_) (by rw[dJ]; omega))) rfl
 obtain⟨d,md,rfl⟩:=bW.mp m
 have:=(XM (h d md)).2
 omega
noncomputable def wdK:aO->List Nat
 | .inl i=>iV i
 | .inr z=>z.cps.toList
noncomputable def okC (c:Nat):Bool:=iF c||decide (c=45)
theorem rQ {c:Nat}(h:okC c=true):c<128/\c≠32/\c≠58/\c≠44/\c≠124:=by
 unfold okC iF letter figure at h
 simp only[Bool.or_eq_true,mF,decide_eq_true_eq] at h
 omega
theorem AQ:(10:Nat) ^ 60≤10 ^ 70:=Nat.pow_le_pow_right (by decide) (by decide)
theorem Ek {c:Nat}(h:48≤c/\c≤57):okC c=true:=by
 have:figure c=true:=by simp[figure,h.1,h.2]
 simp[okC,iF,this]
theorem nH {k:aO}(h:gX k):(∀ c∈wdK k,okC c=true)/\wdK k≠[]/\(wdK k).length≤71:=by
 cases k with
 | inl i=>
  have h:i.natAbs<10 ^ 60:=h
  refine⟨fun c m=>?_,Ir i,OX (hU h AQ)⟩
  rcases SQ m with q | q
  ·simp[okC,q]
  ·exact Ek q
 | inr z=>
  obtain⟨c,r,e,h1,h2,h3⟩:=h
  refine⟨fun x m=>?_,fun q=>?_,?_⟩
  ·simp[okC,h2 x m]
  ·have q:z.cps.toList=[]:=q
   rw[e] at q; cases q
  ·show z.cps.toList.length≤71
   have:z.cps.toList.length≤12:=h3
   omega
theorem GU {z:aB}(h:nameS z):(∀ c∈z.cps.toList,okC c=true)/\z.cps.toList≠[]/\z.cps.toList.length≤71:=nH (k:=.inr z) h
theorem Vx {w:List Nat}(h : ∀ c∈w,okC c=true):L2.plain w:=fun c m=>(rQ (h c m)).1
theorem Ob {z:aB}(h:nameS z):mP z.cps.toList = .none:=by
 obtain⟨c,r,e,h1,h2,h3⟩:=h
 have hc:97≤c/\c≤122:=by
  unfold letter at h1
  simpa using h1
 unfold mP jH
 rw[e]
 rw[if_neg (show ¬ (c::r).head?=some 45 by simp; omega)]
 rw[if_neg]
 intro q
 have:=(QV q).1 c bR
 omega
theorem Ue {k:aO}(h:gX k):uH [.str (tx (wdK k))]=some (kD k):=by
 have hw:=nH h
 have e:=Rn (Vx hw.1) (by have:=hw.2.2; omega)
 refine fI rfl ?_
 refine fA (d:=mP (wdK k)) (bH (ds:=[.str (tx (wdK k))]) rfl e) (by simp) ?_
 cases k with
 | inl i=>
  have h:i.natAbs<10 ^ 60:=h
  have ev:mP (wdK (.inl i)) = .int i:=Mn (hU h AQ)
  rw[ev]
  exact cN (d:=.int i) rfl rfl
 | inr z=>
  have ev:mP (wdK (.inr z)) = .none:=Ob h
  rw[ev]
  exact cN (d:=.str (tx z.cps.toList)) rfl (by rw[← pU]; rfl)
noncomputable abbrev wdL (ws:List (List Nat)):aA:=.list (ws.map fun w=>.str (tx w))
theorem QM {ks:List aO}(h : ∀ k∈ks,gX k)(hl:ks.length≤1000):rX [wdL (ks.map wdK)]=some (tK ks):=by
 refine fI rfl ?_
 have e0:((ks.map wdK).map fun w=>bO (tx w))=ks.map fun k=>.str (tx (wdK k)):=by rw[iT]; rfl
 have lc:=mR (cap:=[none]) (fi:=iIt (aC 0)) (T:=gB 0) (t:=cX) (f:=aL uH (aF (aC 0) aJ)) (ρ:=vS [s0 (wdL (ks.map wdK))]) (xs:=ks) (q:=fun k=>.str (tx (wdK k))) (fun _=>true) kD ((lR rfl).trans (by rw[e0])) (by omega) (fun k m=>⟨[some (.str (tx (wdK k)))],rfl,rfl,fun _=>bH (ds:=[.str (tx (wdK k))]) rfl (Ue (h k m))⟩)
 rw[pL.mpr fun _ _=>rfl] at lc
 exact cN (bH (cR lc rfl) rfl) rfl
noncomputable def lnT (l:Ln):List Nat:=jn (l.1.cps.toList::l.2.map wdK)
theorem lnW {l:Ln}(h:LineG l) : ∀ w∈l.1.cps.toList::l.2.map wdK,(∀ c∈w,okC c=true)/\w≠[]/\w.length≤71:=fun w m=>by
 rcases cQ.mp m with rfl | m
 ·exact GU h.name
 ·obtain⟨k,mk,rfl⟩:=bW.mp m
  exact nH (h.tms k mk)
theorem PC : ∀ {ws:List (List Nat)} {c:Nat},c∈jn ws->c=32 \/ ∃ w∈ws,c∈w
 | [],c,h=>by simp[jn] at h
 | [w],c,h=>.inr ⟨w,by simp,h⟩
 | w::v::r,c,h=>by
  have h:c∈w++32::jn (v::r):=h
  rcases iK.mp h with h | h
  ·exact .inr ⟨w,by simp,h⟩
  rcases cQ.mp h with h | h
  ·exact .inl h
  ·rcases PC h with q | ⟨x,m,q⟩
   ·exact .inl q
   ·exact .inr ⟨x,bZ _ m,q⟩
theorem wY {l:Ln}(h:LineG l):(∀ c∈lnT l,c=32 \/ okC c=true)/\(lnT l).length≤504:=by
 refine⟨fun c m=>?_,?_⟩
 ·rcases PC m with q | ⟨w,mw,q⟩
  ·exact .inl q
  ·exact .inr ((lnW h w mw).1 c q)
 ·have:=VX (l.1.cps.toList::l.2.map wdK) 71 fun w m=>(lnW h w m).2.2
  have h6:=h.six
  have h2:(l.1.cps.toList::l.2.map wdK).length*72≤7*72:=wC _ (by simp; omega)
  exact iR this h2
theorem VY {ws:List (List Nat)}(hn:ws≠[])(hf : ∀ w∈ws,32∉w)(hl:(jn ws).length≤100000 - 2):lO (.str (tx (jn ws))) (.str " ")=some (wdL ws):=by
 show(if ((kE " ").length == 0)=false/\(tx (jn ws)).length+2≤sizeLine then some (zM ((nX (tx (jn ws)) " ").map bO)) else none)=_
 rw[if_pos ⟨by decide,by rw[eJ]; exact gE (by omega)⟩,Sw hn hf,iT]
 rfl
theorem Uw {l:Ln}(h:LineG l):uF [.str (tx (lnT l))]=some (bI l):=by
 refine fI rfl ?_
 have h6:=h.six
 have hw:=lnW h
 refine fA (d:=wdL (l.1.cps.toList::l.2.map wdK)) (bE (a:=.str (tx (lnT l))) (b:=.str " ") rfl rfl (VY (by simp) (fun w m q=>(rQ ((hw w m).1 32 q)).2.1 rfl) (by have:=(wY h).2; unfold lnT at this; omega))) (by simp) ?_
 have c2:nR (aC 1) (oS (eC (.int 1))) oN (vS [s0 (.str (tx (lnT l))),s0 (wdL (l.1.cps.toList::l.2.map wdK))])=some (wdL (l.2.map wdK)):=by
  rw[WE (ds:=(l.1.cps.toList::l.2.map wdK).map fun w=>.str (tx w)) (l:=some ((1:Nat):Int)) (u:=none) rfl rfl rfl,Ff]
  rfl
 refine cN (tT (cR (bE (a:=wdL (l.1.cps.toList::l.2.map wdK)) (b:=.int ((0:Nat):Int)) rfl rfl (WQ (j:=0) rfl)) (cR (bH (ds:=[wdL (l.2.map wdK)]) (cR c2 rfl) (QM h.tms (by omega))) rfl)) (by simp)) ?_
 rw[← pU]
 rfl
noncomputable abbrev SC:List Nat:=[44,32]
noncomputable abbrev SB:List Nat:=[32,124,32]
noncomputable def bl (ws:List (List Nat)):List Nat:=ws.flatMap fun w=>w++[32]
theorem MO (ws:List (List Nat))(u:List Nat):jn (ws++[u])=bl ws++u:=by
 induction ws with
 | nil=>simp[bl,jn]
 | cons w r ih=>
  cases r with
  | nil=>simp[bl,jn]
  | cons v r=>
   show w++32::jn (v::r++[u])=_
   rw[ih]
   simp[bl]
noncomputable def hdT (hd:List aO):List Nat:=bl (hd.map wdK)
noncomputable def cW (a:Al):List Nat:=hdT a.1++58::(if a.2=[] then [] else 32::jnS SC (a.2.map lnT))
noncomputable def qT (as:List Al):List Nat:=if as=[] then [110,111,110,101] else jnS SB (as.map cW)
structure AltW (a:Al):Prop where
 tms : ∀ k∈a.1,gX k
 four:a.1.length≤4
 lns : ∀ l∈a.2,LineG l
 five:a.2.length≤5
theorem Sz {ws:List (List Nat)}{c:Nat}(h:c∈bl ws):c=32 \/ ∃ w∈ws,c∈w:=by
 obtain⟨w,mw,m⟩:=zT.mp h
 rcases iK.mp m with m | m
 ·exact .inr ⟨w,mw,m⟩
 ·exact .inl (dP.mp m)
theorem RW {hd:List aO}(h : ∀ k∈hd,gX k){c:Nat}(m:c∈hdT hd):c=32 \/ okC c=true:=by
 rcases Sz m with q | ⟨w,mw,q⟩
 ·exact .inl q
 ·obtain⟨k,mk,rfl⟩:=bW.mp mw
  exact .inr ((nH (h k mk)).1 c q)
theorem VM {n:Nat} : ∀ {ws:List (List Nat)},(∀ w∈ws,w.length≤n)->(bl ws).length≤ws.length*(n+1)
 | [],_=>by simp[bl]
 | w::r,h=>by
  have h1:=h w bR
  have h2:=VM (n:=n) (ws:=r) fun x m=>h x (bZ _ m)
  have e:(bl (w::r)).length=w.length+1+(bl r).length:=by simp[bl]; omega
  rw[e,fF,KF]
  omega
theorem BD {hd:List aO}(h : ∀ k∈hd,gX k)(h4:hd.length≤4):(hdT hd).length≤288:=by
 have:=VM (n:=71) (ws:=hd.map wdK) fun w m=>by
  obtain⟨k,mk,rfl⟩:=bW.mp m
  exact(nH (h k mk)).2.2
 rw[dJ] at this
 have:hd.length*72≤4*72:=wC _ h4
 unfold hdT
 omega
theorem HI {sep:List Nat} : ∀ {ws:List (List Nat)} {c:Nat},c∈jnS sep ws->c∈sep \/ ∃ w∈ws,c∈w
 | [],c,h=>by simp[jnS] at h
 | [w],c,h=>.inr ⟨w,by simp,h⟩
 | w::v::r,c,h=>by
  have h:c∈w++(sep++jnS sep (v::r)):=h
  rcases iK.mp h with h | h
  ·exact .inr ⟨w,by simp,h⟩
  rcases iK.mp h with h | h
  ·exact .inl h
  ·rcases HI h with q | ⟨x,m,q⟩
   ·exact .inl q
   ·exact .inr ⟨x,bZ _ m,q⟩
theorem BA {sep:List Nat}{n:Nat} : ∀ {ws:List (List Nat)},(∀ w∈ws,w.length≤n)->(jnS sep ws).length≤ws.length*(n+sep.length)
 | [],_=>by simp[jnS]
 | [w],h=>by
  have:=h w bR
  simp[jnS]
  omega
 | w::v::r,h=>by
  have h1:=h w bR
  have h2:=BA (sep:=sep) (n:=n) (ws:=v::r) fun x m=>h x (bZ _ m)
  have e:(jnS sep (w::v::r)).length=w.length+(sep.length+(jnS sep (v::r)).length):=by
   show(w++(sep++jnS sep (v::r))).length=_
   rw[hV,hV]
  rw[e,fF,KF]
  omega
theorem SS {ls:List Ln}(h : ∀ l∈ls,LineG l){c:Nat}(m:c∈jnS SC (ls.map lnT)):c=44 \/ c=32 \/ okC c=true:=by
 rcases HI m with q | ⟨w,mw,q⟩
 ·simp at q; omega
 ·obtain⟨l,ml,rfl⟩:=bW.mp mw
  exact .inr ((wY (h l ml)).1 c q)
theorem BR {ls:List Ln}(h : ∀ l∈ls,LineG l)(h5:ls.length≤5):(jnS SC (ls.map lnT)).length≤2530:=by
 have:=BA (sep:=SC) (n:=504) (ws:=ls.map lnT) fun w m=>by
  obtain⟨l,ml,rfl⟩:=bW.mp m
  exact(wY (h l ml)).2
 rw[dJ] at this
 have h2:ls.length*(504+SC.length)≤5*506:=wC _ h5
 omega
theorem SR {a:Al}(h:AltW a){c:Nat}(m:c∈cW a):c=58 \/ c=44 \/ c=32 \/ okC c=true:=by
 rcases iK.mp m with m | m
 ·exact .inr (.inr (RW h.tms m))
 rcases cQ.mp m with m | m
 ·exact .inl m
 ·split at m
  ·simp at m
  ·rcases cQ.mp m with m | m
   ·exact .inr (.inr (.inl m))
   ·exact .inr (SS h.lns m)
theorem BP {a:Al}(h:AltW a):(cW a).length≤2820:=by
 have h1:=BD h.tms h.four
 have h2:=BR h.lns h.five
 unfold cW
 split
 ·simp; omega
 ·simp; omega
theorem VW {c:Nat}(h:c=58 \/ c=44 \/ c=32 \/ okC c=true):c<128:=by
 rcases h with h | h | h | h
 ·omega
 ·omega
 ·omega
 ·exact(rQ h).1
theorem Dh {as:List Al}(h : ∀ a∈as,AltW a)(h3:as.length≤3):(qT as).length≤8469:=by
 unfold qT
 split
 ·simp
 ·have:=BA (sep:=SB) (n:=2820) (ws:=as.map cW) fun w m=>by
   obtain⟨a,ma,rfl⟩:=bW.mp m
   exact BP (h a ma)
  rw[dJ] at this
  have h2:as.length*(2820+SB.length)≤3*2823:=wC _ h3
  omega
theorem QB {sep p q:List Nat}{c:Nat}(hs:sep=p++c::q)(hp:c∉p){ws:List (List Nat)}(hn:ws≠[])(hf : ∀ w∈ws,c∉w)(hpl:L2.plain (jnS sep ws))(hps:L2.plain sep)(hl:(jnS sep ws).length≤90000):lO (.str (tx (jnS sep ws))) (.str (tx sep))=some (wdL ws):=by
 show(if ((tx sep).length == 0)=false/\(tx (jnS sep ws)).length+2≤sizeLine then some (zM ((nX (tx (jnS sep ws)) (tx sep)).map bO)) else none)=_
 rw[if_pos ⟨by rw[eJ,hs]; simp,by rw[eJ]; exact gE (by omega)⟩,Wv hs hp hn hf hpl hps,iT]
 rfl
theorem Vo (ds:List aA)(d:aA):cutD (ds++[d]) none (some (-1))=ds:=by
 unfold cutD
 have e:HT.sIx (ds++[d]).length (ds++[d]).length (some (-1))=ds.length:=by
  show(if (-1:Int)<0 then((-1:Int)+((ds++[d]).length:Int)).toNat else min (-1:Int).toNat (ds++[d]).length)=_
  rw[if_pos (by decide)]
  simp
  omega
 rw[e,HT.Apv]
 simp
theorem Rg {a:Al}(h:AltW a):vH [.str (tx (cW a))]=some (bK a):=by
 refine fI rfl ?_
 have hl:=BP h
 have h4:=h.four
 let B:List Nat:=if a.2=[] then [] else 32::jnS SC (a.2.map lnT)
 have hA:58∉hdT a.1:=fun m=>by
  rcases RW h.tms m with q | q
  ·omega
  ·exact(rQ q).2.2.1 rfl
 have ep:DM (.str (tx (cW a))) (.str ":")=some (.tuple [.str (tx (hdT a.1)),.str (tx [58]),.str (tx B)]):=by
  show(if ((kE ":").length == 0)=false/\(tx (cW a)).length≤sizeLine then some (fU ((part3 (tx (cW a)) (tx [58])).map .str)) else none)=_
  rw[if_pos ⟨by decide,by rw[eJ]; exact gE (by omega)⟩]
  unfold part3
  rw[show cW a=hdT a.1++58::B from rfl,Jm hA]
  rfl
 let PD:aA:=.tuple [.str (tx (hdT a.1)),.str (tx [58]),.str (tx B)]
 refine fA (d:=PD) (bE (a:=.str (tx (cW a))) (b:=.str ":") rfl rfl ep) (by simp) ?_
 let R1:bC:=[s0 (.str (tx (cW a))),s0 PD,none]
 have hb:hdT a.1=jn (a.1.map wdK++[[]]):=by rw[MO]; simp[hdT]
 have hlh:=BD h.tms h4
 have es:eOp lO (eOp gIx (aC 1) (eC (.int 0))) (eC (.str " ")) (vS R1)=some (wdL (a.1.map wdK++[[]])):=by
  refine bE (a:=.str (tx (hdT a.1))) (b:=.str " ") (bE (a:=PD) (b:=.int 0) rfl rfl rfl) rfl ?_
  rw[hb]
  refine VY (by simp) (fun w m q=>?_) (by rw[← hb]; omega)
  rcases iK.mp m with m | m
  ·obtain⟨k,mk,rfl⟩:=bW.mp m
   exact(rQ ((nH (h.tms k mk)).1 32 q)).2.1 rfl
  ·rw[dP.mp m] at q; simp at q
 have ec:nR (eOp lO (eOp gIx (aC 1) (eC (.int 0))) (eC (.str " "))) oN (oS (eUn AJ (eC (.int 1)))) (vS R1)=some (wdL (a.1.map wdK)):=by
  rw[WE (ds:=(a.1.map wdK++[[]]).map fun w=>.str (tx w)) (l:=none) (u:=some (-1)) es rfl rfl,mD]
  show some (zM (cutD (_++[.str (tx [])]) none (some (-1))))=_
  rw[Vo]
 refine fA (d:=tK a.1) (bH (ds:=[wdL (a.1.map wdK)]) (cR ec rfl) (QM h.tms (by omega))) (by simp) ?_
 let R2:bC:=[s0 (.str (tx (cW a))),s0 PD,s0 (tK a.1)]
 have ix2 : ∀ ρ:List (Option aA),aC 1 ρ=some PD->eOp gIx (aC 1) (eC (.int 2)) ρ=some (.str (tx B)):=fun ρ q=>bE (a:=PD) (b:=.int 2) q rfl rfl
 have e0:("" : aB)=tx []:=by decide
 have tb:bV .s (bOf (eOp gEq (eOp gIx (aC 1) (eC (.int 2))) (eC (.str "")))) R2=some (decide (B=[])):=by
  refine(fP (bE (a:=.str (tx B)) (b:=.str "") (ix2 _ rfl) rfl (xK _ _))).trans ?_
  congr 1
  rw[decide_eq_decide,e0]
  exact⟨AV,fun q=>by rw[q]⟩
 by_cases hn:a.2=[]
 ·have hB:B=[]:=if_pos hn
  refine iY (fQ (tb.trans (by rw[decide_eq_true hB])) (cN (d:=.tuple [tK a.1,.tuple []]) (tT (cR rfl (cR rfl rfl)) (by simp)) ⟨_,rfl,?_⟩))
  unfold bK
  rw[hn]
  rfl
 ·have hB:B=32::jnS SC (a.2.map lnT):=if_neg hn
  refine dM (ρ':=R2) (fM (tb.trans (by rw[hB]; rfl))) ?_
  have hlL:=BR h.lns h.five
  have h5:=h.five
  have esl:eSl (eOp gIx (aC 1) (eC (.int 2))) (oS (eC (.int 1))) oN (vS R2)=some (.str (tx (jnS SC (a.2.map lnT)))):=by
   unfold eSl
   rw[ix2 _ rfl,cK]
   show(if (tx B).length≤sizeLine then some (bO (kL (tx B) (some ((1:Nat):Int)) none)) else none)=_
   rw[if_pos (by rw[eJ,hB]; simp; exact gE (by omega)),QD (by rw[hB]; simp),hB]
   rfl
  have esp:eOp lO (eSl (eOp gIx (aC 1) (eC (.int 2))) (oS (eC (.int 1))) oN) (eC (.str ", ")) (vS R2)=some (wdL (a.2.map lnT)):=by
   refine bE (a:=.str (tx (jnS SC (a.2.map lnT)))) (b:=.str (tx SC)) esl rfl ?_
   refine QB (sep:=SC) (p:=[]) (q:=[32]) (c:=44) rfl (by simp) (by simpa using hn) (fun w m q=>?_) (fun c m=>VW (.inr (SS h.lns m))) (by unfold L2.plain; decide) (by omega)
   obtain⟨l,ml,rfl⟩:=bW.mp m
   rcases(wY (h.lns l ml)).1 44 q with z | z
   ·omega
   ·exact(rQ z).2.2.2.1 rfl
  have e1:((a.2.map lnT).map fun w=>bO (tx w))=a.2.map fun l=>.str (tx (lnT l)):=by rw[iT]; rfl
  have lc:=mR (cap:=[none]) (T:=gB 0) (t:=cX) (f:=aL uF (aF (aC 0) aJ)) (ρ:=vS R2) (xs:=a.2) (q:=fun l=>.str (tx (lnT l))) (fun _=>true) bI ((lR esp).trans (by rw[e1])) (by omega) (fun l m=>⟨[some (.str (tx (lnT l)))],rfl,rfl,fun _=>bH (ds:=[.str (tx (lnT l))]) rfl (Uw (h.lns l m))⟩)
  rw[pL.mpr fun _ _=>rfl] at lc
  exact cN (d:=bK a) (tT (cR rfl (cR (bH (ds:=[.list (a.2.map bI)]) (cR lc rfl) rfl) rfl)) (by simp)) rfl
theorem Wm {as:List Al}(h : ∀ a∈as,AltW a)(h3:as.length≤3):yQ [.str (tx (qT as))]=some (.list (as.map bK)):=by
 refine fI rfl ?_
 have e0:("none" : aB)=tx [110,111,110,101]:=by decide
 have tb:bV .s (bOf (eOp gEq (aC 0) (eC (.str "none")))) [s0 (.str (tx (qT as)))]=some (decide (qT as=[110,111,110,101])):=by
  refine(fP (bE (a:=.str (tx (qT as))) (b:=.str "none") rfl rfl (xK _ _))).trans ?_
  congr 1
  rw[decide_eq_decide,e0]
  exact⟨AV,fun q=>by rw[q]⟩
 by_cases hn:as=[]
 ·subst hn
  exact iY (fQ (tb.trans (by decide)) (cN (d:=.list []) rfl ⟨_,rfl,rfl⟩))
 ·have hq:qT as=jnS SB (as.map cW):=if_neg hn
  have h58:58∈qT as:=by
   rw[hq]
   obtain⟨a,r,rfl⟩:=Xg hn
   have:58∈cW a:=by simp[cW]
   cases r with
   | nil=>exact this
   | cons b r=>exact KM _ this
  refine dM (ρ':=[s0 (.str (tx (qT as)))]) (fM (tb.trans (by rw[decide_eq_false (fun z=>by rw[z] at h58; simp at h58)]))) ?_
  have hl:=Dh h h3
  have esp:eOp lO (aC 0) (eC (.str " | ")) (vS [s0 (.str (tx (qT as)))])=some (wdL (as.map cW)):=by
   refine bE (a:=.str (tx (jnS SB (as.map cW)))) (b:=.str (tx SB)) (by rw[← hq]; rfl) rfl ?_
   refine QB (sep:=SB) (p:=[32]) (q:=[32]) (c:=124) rfl (by decide) (by simpa using hn) (fun w m q=>?_) (fun c m=>?_) (by unfold L2.plain; decide) (by rw[← hq]; omega)
   ·obtain⟨a,ma,rfl⟩:=bW.mp m
    rcases SR (h a ma) q with z | z | z | z
    ·omega
    ·omega
    ·omega
    ·exact(rQ z).2.2.2.2 rfl
   ·rcases HI m with q | ⟨w,mw,q⟩
    ·simp at q; omega
    ·obtain⟨a,ma,rfl⟩:=bW.mp mw
     exact VW (SR (h a ma) q)
  have e1:((as.map cW).map fun w=>bO (tx w))=as.map fun a=>.str (tx (cW a)):=by rw[iT]; rfl
  have lc:=mR (cap:=[none]) (T:=gB 0) (t:=cX) (f:=aL vH (aF (aC 0) aJ)) (ρ:=vS [s0 (.str (tx (qT as)))]) (xs:=as) (q:=fun a=>.str (tx (cW a))) (fun _=>true) bK ((lR esp).trans (by rw[e1])) (by omega) (fun a m=>⟨[some (.str (tx (cW a)))],rfl,rfl,fun _=>bH (ds:=[.str (tx (cW a))]) rfl (Rg (h a m))⟩)
  rw[pL.mpr fun _ _=>rfl] at lc
  exact cN (d:=.list (as.map bK)) lc rfl
theorem PB {sep:List Nat}(hs:sep.length≤10){ws:List (List Nat)}(hl : ∀ w∈ws,w.length≤9000)(hn:ws.length≤100):mJ (.str (tx sep)) (wdL ws)=some (.str (tx (jnS sep ws))):=by
 show((lJ (ws.map fun w=>.str (tx w))).bind fun ys=>if (ys.map (·.length)).sum+ys.length*(tx sep).length≤16777216 then some (bO (dN (tx sep) ys)) else none)=_
 rw[GS,cK]
 have h1:=JF hl
 have h2:ws.length*9000≤100*9000:=wC _ hn
 have h3:ws.length*sep.length≤100*10:=Nat.mul_le_mul hn hs
 rw[if_pos (by rw[dJ,eJ]; omega)]
 exact congrArg (fun x=>some (bO x)) (OJ sep ws)
theorem xA {k:aO}(h:gX k):shB (kD k)/\wdD (kD k)=wdK k:=by
 cases k with
 | inl i=>
  have h:i.natAbs<10 ^ 60:=h
  exact⟨hU h AQ,rfl⟩
 | inr z=>
  refine⟨?_,rfl⟩
  have:=(GU h).2.2
  show z.length≤600
  have e:z.length=z.cps.toList.length:=by simp[EG]
  omega
theorem Si {l:Ln}(h:LineG l):uW [bI l]=some (.str (tx (lnT l))):=by
 refine fI rfl ?_
 have h6:=h.six
 refine cN (bH (ds:=[.tuple ([.str l.1]++l.2.map kD)]) (cR (bE (a:=.tuple [.str l.1]) (b:=tK l.2) (tT (cR (bE (a:=bI l) (b:=.int 0) rfl rfl rfl) rfl) (by simp)) (bE (a:=bI l) (b:=.int 1) rfl rfl rfl) (VO (by simp; omega))) rfl) (OC (fun d m=>?_) (by simp; omega))) ?_
 ·rcases iK.mp m with m | m
  ·rw[dP.mp m]; exact(xA (k:=.inr l.1) h.name).1
  ·obtain⟨k,mk,rfl⟩:=bW.mp m
   exact(xA (h.tms k mk)).1
 ·have:([bO l.1]++l.2.map kD).map wdD=l.1.cps.toList::l.2.map wdK:=by
   rw[mD,iT]
   show l.1.cps.toList::_=_
   congr 1
   exact ES fun k mk=>(xA (h.tms k mk)).2
  rw[this]
  rfl
theorem Us {a:Al}(h:AltW a):vG [bK a]=some (.str (tx (cW a))):=by
 refine fI rfl ?_
 have h4:=h.four
 have h5:=h.five
 have hlh:=BD h.tms h4
 have ew:(a.1.map kD++[bO ":"]).map wdD=a.1.map wdK++[[58]]:=by
  rw[mD,iT]
  congr 1
  exact ES fun k mk=>(xA (h.tms k mk)).2
 refine fA (d:=.str (tx (hdT a.1++[58]))) (bH (ds:=[.tuple (a.1.map kD++[.str ":"])]) (cR (bE (a:=tK a.1) (b:=.tuple [.str ":"]) (bE (a:=bK a) (b:=.int 0) rfl rfl rfl) rfl (VO (by simp; omega))) rfl) ((OC (fun d m=>?_) (by simp; omega)).trans (by rw[ew,MO]; rfl))) (by simp) ?_
 ·rcases iK.mp m with m | m
  ·obtain⟨k,mk,rfl⟩:=bW.mp m
   exact(xA (h.tms k mk)).1
  ·rw[dP.mp m]
   exact(by decide:(kE ":").length≤600)
 let R:bC:=[s0 (bK a),s0 (.str (tx (hdT a.1++[58])))]
 have ix : ∀ ρ:List (Option aA),aC 0 ρ=some (bK a)->eOp gIx (aC 0) (eC (.int 1)) ρ=some (lsD a.2):=fun ρ q=>bE (a:=bK a) (b:=.int 1) q rfl rfl
 have tb:bV .s (bOf (eOp gEq (aL cB (aF (eOp gIx (aC 0) (eC (.int 1))) aJ)) (eC (.int 0)))) R=some (decide (a.2=[])):=by
  refine(fP (bE (a:=.int (a.2.length:Nat)) (b:=.int 0) (bH (ds:=[lsD a.2]) (cR (ix _ rfl) rfl) ((rS _).trans (by simp))) rfl (tW _ _))).trans ?_
  congr 1
  rw[decide_eq_decide]
  constructor
  ·intro q
   exact oB (by omega)
  ·intro q
   rw[q]
   rfl
 unfold cW
 by_cases hn:a.2=[]
 ·refine iY (fQ (tb.trans (by rw[decide_eq_true hn])) (cN (d:=.str (tx (hdT a.1++[58]))) rfl ⟨_,rfl,?_⟩))
  rw[if_pos hn]
 ·refine dM (ρ':=R) (fM (tb.trans (by rw[decide_eq_false hn]))) ?_
  have e1:(a.2.map fun l=>bO (tx (lnT l)))=(a.2.map lnT).map fun w=>.str (tx w):=by rw[iT]; rfl
  have lc:=mR (cap:=[none]) (T:=gB 0) (t:=cX) (f:=aL uW (aF (aC 0) aJ)) (ρ:=vS R) (xs:=a.2) (q:=bI) (fun _=>true) (fun l=>.str (tx (lnT l))) (lQ (ix _ rfl)) (by omega) (fun l m=>⟨[some (bI l)],rfl,rfl,fun _=>bH (ds:=[bI l]) rfl (Si (h.lns l m))⟩)
  rw[pL.mpr fun _ _=>rfl,e1] at lc
  have hlL:=BR h.lns h5
  have ej:=PB (sep:=SC) (by decide) (ws:=a.2.map lnT) (fun w m=>by
   obtain⟨l,ml,rfl⟩:=bW.mp m
   have:=(wY (h.lns l ml)).2
   omega) (by rw[dJ]; omega)
  refine cN (d:=.str (tx (hdT a.1++[58]++[32]++jnS SC (a.2.map lnT)))) (bE (a:=.str (tx (hdT a.1++[58]++[32]))) (b:=.str (tx (jnS SC (a.2.map lnT)))) (bE (a:=.str (tx (hdT a.1++[58]))) (b:=.str (tx [32])) rfl rfl ?_) (bE (a:=.str (tx SC)) (b:=wdL (a.2.map lnT)) rfl lc ej) ?_) ?_
  ·show(if (tx (hdT a.1++[58])).length+(tx [32]).length≤sizeLine then some (bO (tx (hdT a.1++[58])++tx [32])) else none)=_
   rw[eJ,eJ,if_pos (gE (by simp; omega)),rO]
  ·show(if (tx (hdT a.1++[58]++[32])).length+(tx (jnS SC (a.2.map lnT))).length≤sizeLine then some (bO (tx (hdT a.1++[58]++[32])++tx (jnS SC (a.2.map lnT)))) else none)=_
   rw[eJ,eJ,if_pos (gE (by simp; omega)),rO]
  ·rw[if_neg hn]
   simp
theorem GM {as:List Al}(h : ∀ a∈as,AltW a)(h3:as.length≤3):oX [.list (as.map bK)]=some (.str (tx (qT as))):=by
 refine fI rfl ?_
 have tb:bV .s (bOf (eOp gEq (aL cB (aF (aC 0) aJ)) (eC (.int 0)))) [s0 (.list (as.map bK))]=some (decide (as=[])):=by
  refine(fP (bE (a:=.int (as.length:Nat)) (b:=.int 0) (bH (ds:=[.list (as.map bK)]) rfl (by simp[cB])) rfl (tW _ _))).trans ?_
  congr 1
  rw[decide_eq_decide]
  constructor
  ·intro q
   exact oB (by omega)
  ·intro q
   rw[q]
   rfl
 unfold qT
 by_cases hn:as=[]
 ·refine iY (fQ (tb.trans (by rw[decide_eq_true hn])) (cN (d:=.str (tx [110,111,110,101])) rfl ⟨_,rfl,?_⟩))
  rw[if_pos hn]
 ·refine dM (ρ':=[s0 (.list (as.map bK))]) (fM (tb.trans (by rw[decide_eq_false hn]))) ?_
  have e1:(as.map fun a=>bO (tx (cW a)))=(as.map cW).map fun w=>.str (tx w):=by rw[iT]; rfl
  have lc:=mR (cap:=[none]) (fi:=iIt (aC 0)) (T:=gB 0) (t:=cX) (f:=aL vG (aF (aC 0) aJ)) (ρ:=vS [s0 (.list (as.map bK))]) (xs:=as) (q:=bK) (fun _=>true) (fun a=>.str (tx (cW a))) (lR rfl) (by omega) (fun a m=>⟨[some (bK a)],rfl,rfl,fun _=>bH (ds:=[bK a]) rfl (Us (h a m))⟩)
  rw[pL.mpr fun _ _=>rfl,e1] at lc
  rw[if_neg hn]
  exact cN (bE (a:=.str (tx SB)) (b:=wdL (as.map cW)) rfl lc (PB (by decide) (fun w m=>by
   obtain⟨a,ma,rfl⟩:=bW.mp m
   have:=BP (h a ma)
   omega) (by rw[dJ]; omega))) rfl
theorem Sx {z:Option aB}{d r:aA}(h:xS z [d,fnV "question_of",fnV "is_question",fnV "show_question"]=some r):sF z [d]=some r:=
 fI (body:=UQ z) rfl (cN (bH (ds:=[d,fnV "question_of",fnV "is_question",fnV "show_question"]) rfl h) rfl)
theorem NS (z:Option aB){ts:List (aB×Nat)}{size:Nat}{as:List Al}(G:QG ts size as)(h : ∀ a∈as,AltW a):sF z [.str (tx (qT as))]=some (.list (as.map bK)):=by
 refine Sx (fI (body:=RN z) rfl ?_)
 let D:aA:=.list (as.map bK)
 refine iY (fQ rfl ?_)
 refine fA (d:=D) (bH (ds:=[.str (tx (qT as))]) rfl (Wm h G.few)) (by simp) ?_
 let Q:bC:=[s0 (.str (tx (qT as))),s0 (fnV "question_of"),s0 (fnV "is_question"),s0 (fnV "show_question"),some (1,D)]
 have e3:=Je (a:=bOf (aL sE (aFn 2 "is_question" (aF (aC 4) aJ)))) (b:=bOf (eOp gEq (aL oX (aFn 3 "show_question" (aF (aC 4) aJ))) (aC 0))) (ρ:=vA Q) (x:=true) (y:=true)
  (fP (bH (ds:=[D]) rfl G.true))
  (fun _=>fP (bE (a:=.str (tx (qT as))) (b:=.str (tx (qT as))) (bH (ds:=[D]) rfl (GM h G.few)) rfl ((xK _ _).trans (by simp))))
 exact fQ e3 ⟨_,rfl,_,rfl,rfl⟩
theorem Dc : ∀ j<10,FIG.cps.toList[j]?=some (48+j):=by decide +kernel
theorem Et {j:Nat}(h:j<10):gIx (.str FIG) (.int (j:Nat))=some (cO (48+j)):=by
 show(if FIG.length≤sizeLine then(atI FIG.cps.toList (j:Int)).bind fun c=>some (bO ⟨#[c]⟩) else none)=_
 rw[if_pos (gE (show FIG.length≤100000 by decide)),oU (Dc j h)]
 rfl
theorem mM {a b:List Nat}(h:a.length+b.length≤100000):bS (.str (tx a)) (.str (tx b))=some (.str (tx (a++b))):=by
 show(if (tx a).length+(tx b).length≤sizeLine then some (bO (tx a++tx b)) else none)=_
 rw[eJ,eJ,if_pos (gE h),rO]
noncomputable abbrev wT:BF:=bOr (bOf (eOp gGt (aC 2) (eC (.int 0)))) (bOf (eOp gEq (aC 1) (eC (.str ""))))
noncomputable abbrev wB:SF:=aZ (bL 1 0 .s (eOp bS (eOp gIx (eC (.str "0123456789")) (eOp bT (aC 2) (eC (.int 10)))) (aC 1))) (bL 2 0 .s (eOp iC (aC 2) (eC (.int 10))))
noncomputable abbrev wR (v:Int)(t:List Nat)(n:Nat):bC:=[s0 (.int v),s0 (.str (tx t)),s0 (.int n)]
theorem DC (v:Int)(t:List Nat)(n:Nat):bV .s wT (wR v t n)=some (decide (n≠0 \/ t=[])):=by
 refine(oM (ρ:=vS (wR v t n)) (x:=decide ((0:Int)<n)) (y:=decide (tx t = "")) (fP (bE (a:=.int n) (b:=.int 0) rfl rfl rfl)) (fun _=>fP (bE (a:=.str (tx t)) (b:=.str "") rfl rfl (xK _ _)))).trans ?_
 have e0:("" : aB)=tx []:=by decide
 have e1:(tx t = "")↔t=[]:=by
  rw[e0]
  exact⟨AV,fun h=>by rw[h]⟩
 have e2:((0:Int)<n)↔n≠0:=by omega
 congr 1
 rw[show decide (tx t = "")=decide (t=[]) from decide_eq_decide.mpr e1,show decide ((0:Int)<n)=decide (n≠0) from decide_eq_decide.mpr e2]
 by_cases h1:n=0 <;> by_cases h2:t=[] <;> simp[h1,h2]
theorem NO {i n:Nat}{f:EF}{d:aA}{ρ:bC}(h:f (vS ρ)=some d)(hl:i<ρ.length):bL i n .s f ρ=some (.nx (ρ.set i (some (n,d)))):=VG (m:=.s) (f:=f) h hl
theorem MD (v:Int)(t:List Nat)(n:Nat)(h:t.length≤1000):wB (wR v t n)=some (.nx (wR v ((48+n%10)::t) (n / 10))):=by
 have e1:eOp bS (eOp gIx (eC (.str "0123456789")) (eOp bT (aC 2) (eC (.int 10)))) (aC 1) (vS (wR v t n))=some (.str (tx ((48+n%10)::t))):=by
  refine bE (a:=cO (48+n%10)) (b:=.str (tx t)) (bE (a:=.str FIG) (b:=.int ((n%10:Nat):Int)) rfl (bE (a:=.int n) (b:=.int (10:Nat)) rfl rfl ((DL n 10 (by decide)).trans (by rw[← Int.natCast_emod]))) (Et (qP _ (by decide)))) rfl ?_
  exact mM (a:=[48+n%10]) (b:=t) (by simp; omega)
 refine(WA (NO (i:=1) (n:=0) e1 (by simp))).trans ?_
 refine(NO (i:=2) (n:=0) (d:=.int (n / 10:Nat)) ?_ (by simp)).trans rfl
 exact bE (a:=.int n) (b:=.int (10:Nat)) rfl rfl ((MG n 10 (by decide)).trans (by rw[← Int.natCast_ediv]))
theorem WR {m:Md}{t:BF}{F:SF}{k:Nat}{ρ ρ':bC}(h:bV m t ρ=some true)(h2:F ρ=some (.nx ρ')):whD m t F (k+1) ρ=whD m t F k ρ':=by
 show((bV m t ρ).bind _)=_
 rw[h,cK,if_pos rfl,h2]
 rfl
theorem VQ {m:Md}{t:BF}{F:SF}{k:Nat}{ρ:bC}(h:bV m t ρ=some false):whD m t F (k+1) ρ=some (.nx ρ):=by
 show((bV m t ρ).bind _)=_
 rw[h,cK,if_neg (by decide)]
noncomputable def wV (n:Nat)(t:List Nat):List Nat:=if n=0 then(if t=[] then [48] else t) else iM n++t
theorem Bh (v:Int) : ∀ (j fuel n:Nat) (t:List Nat),n<10 ^ j->j+2≤fuel->t.length+j≤900->whD .s wT wB fuel (wR v t n)=some (.nx (wR v (wV n t) 0)):=by
 have z : ∀ (fuel:Nat) (t:List Nat),2≤fuel->t.length≤1000->whD .s wT wB fuel (wR v t 0)=some (.nx (wR v (wV 0 t) 0)):=fun fuel t hf hl=>by
  obtain⟨f,rfl⟩ : ∃ f,fuel=f+2:=⟨fuel - 2,by omega⟩
  by_cases ht:t=[]
  ·subst ht
   rw[WR ((DC v [] 0).trans (by simp)) (MD v [] 0 (by simp))]
   exact VQ ((DC v [48] 0).trans (by simp))
  ·rw[VQ ((DC v t 0).trans (by simp[ht]))]
   simp[wV,ht]
 intro j
 induction j with
 | zero=>
  intro fuel n t hn hf hl
  have:n=0:=by simpa using hn
  subst this
  exact z fuel t (by omega) (by omega)
 | succ j ih=>
  intro fuel n t hn hf hl
  by_cases h0:n=0
  ·subst h0
   exact z fuel t (by omega) (by omega)
  ·obtain⟨f,rfl⟩ : ∃ f,fuel=f+1:=⟨fuel - 1,by omega⟩
   rw[WR ((DC v t n).trans (by simp[h0])) (MD v t n (by omega))]
   rw[ih f (n / 10) _ (by rw[wA] at hn; exact Nat.div_lt_of_lt_mul (by rw[KH]; exact hn)) (by omega) (by simp; omega)]
   congr 3
   unfold wV
   rw[if_neg h0]
   by_cases h1:n<10
   ·rw[if_pos (by omega),if_neg (by simp),tY h1,YT h1]
    rfl
   ·rw[if_neg (by omega),BE (n:=n) (by omega),KP]
    rfl
theorem Tz {v:Int}(h:v.natAbs<10 ^ 70):oW [.int v]=some (.str (tx (iV v))):=by
 refine fI rfl ?_
 refine dM (fM rfl) ?_
 refine fA (d:=.str "") rfl (by simp) ?_
 refine fA (d:=.int (v.natAbs:Nat)) (bH (ds:=[.int v]) rfl (by
  show some (dA (if v<0 then -v else v))=_
  congr 2
  split <;> omega)) (by simp) ?_
 refine dM (ρ':=wR v (iM v.natAbs) 0) ((Bh v 70 1000 v.natAbs [] h (by decide) (by simp)).trans ?_) ?_
 ·congr 3
  unfold wV
  split
  ·rename_i h0
   rw[h0,if_pos rfl,tY (by decide)]
  ·simp
 have t:bV .s (bOf (eOp gLt (aC 0) (eC (.int 0)))) (wR v (iM v.natAbs) 0)=some (decide (v<0)):=fP (bE (a:=.int v) (b:=.int 0) rfl rfl rfl)
 have hl:=GY 69 v.natAbs h
 by_cases hv:v<0
 ·refine iY (fQ (t.trans (by rw[decide_eq_true hv])) (cN (bE (a:=.str (tx [45])) (b:=.str (tx (iM v.natAbs))) rfl rfl (mM (a:=[45]) (by simp; omega))) ⟨_,rfl,?_⟩))
  unfold iV
  rw[if_pos hv]
  rfl
 ·refine dM (fM (t.trans (by rw[decide_eq_false hv]))) (cN (d:=.str (tx (iM v.natAbs))) rfl ?_)
  unfold iV
  rw[if_neg hv]
theorem WX {k:aO}(h:gX k):oW [kD k]=some (.str (tx (wdK k))):=by
 cases k with
 | inl i=>
  have h:i.natAbs<10 ^ 60:=h
  exact Tz (hU h AQ)
 | inr z=>
  refine fI rfl (iY (fQ rfl (cN (d:=.str z) rfl ⟨_,rfl,?_⟩)))
  show Out.rt (.str z)=Out.rt (.str (tx z.cps.toList))
  rw[← pU]
theorem Ct (w:List Nat)(ws:List (List Nat)):jn (w::ws)=w++ws.flatMap fun v=>32::v:=by
 induction ws generalizing w with
 | nil=>simp[jn]
 | cons v r ih=>
  show w++32::jn (v::r)=_
  rw[ih]
  simp
theorem Tf {α:Type}(pc:α->List Nat)(xs:List α)(b:List Nat):xs.foldl (fun acc x=>acc++pc x) b=b++xs.flatMap pc:=by
 induction xs generalizing b with
 | nil=>simp
 | cons x r ih=>rw[lF,ih]; simp
section
variable {S x2 x4 x5:L2.Slot}{P:Out->Prop}{fi:AF}{ks:List aO}
theorem SG {f:EF}(pc:aO->List Nat)(hp : ∀ k∈ks,(pc k).length≤73)(hf : ∀ k∈ks,∀ (T:List Nat) (x2 x4 x5:L2.Slot),T.length≤90000->f (vS [S,s0 (.str (tx T)),x2,s0 (kD k),x4,x5])=some (.str (tx (T++pc k))))(hl:ks.length≤10)(X:List Nat)(hX:X.length≤20000)(x3:L2.Slot)
  (hi:fi (vS [S,s0 (.str (tx X)),x2,x3,x4,x5])=some (ks.map kD)) (k : ∀ x3,P (.nx [S,s0 (.str (tx (X++ks.flatMap pc))),x2,x3,x4,x5])):Goes (eR .s fi (gNm 3) (bL 1 0 .s f)) [S,s0 (.str (tx X)),x2,x3,x4,x5] P:=by
 refine xH (xs:=ks) (q:=kD) (b0:=X) (fun acc k=>acc++pc k) (fun i acc ρ'=>∃ x3:L2.Slot,acc.length≤20000+73*i/\ρ'=[S,s0 (.str (tx acc)),x2,x3,x4,x5]) (avS hi) ⟨x3,by omega,rfl⟩ ?_ ?_
 ·rintro i k acc _ hx ⟨x3,ha,rfl⟩
  have mk:=gQ hx
  have hi:i<ks.length:=(fL.mp hx).1
  refine⟨[S,s0 (.str (tx acc)),x2,s0 (kD k),x4,x5],rfl,?_⟩
  have:=hp k mk
  exact xJ (hf k mk acc x2 x4 x5 (by omega)) (by simp) ⟨_,.inl rfl,s0 (kD k),by rw[hV]; omega,rfl⟩
 ·rintro _ ⟨x3,_,rfl⟩
  rw[Tf]
  exact k x3
theorem Kf (ht : ∀ k∈ks,gX k)(hl:ks.length≤10)(X:List Nat)(hX:X.length≤20000)(x3:L2.Slot)(hi:fi (vS [S,s0 (.str (tx X)),x2,x3,x4,x5])=some (ks.map kD))(k : ∀ x3,P (.nx [S,s0 (.str (tx (X++hdT ks))),x2,x3,x4,x5])) :
  Goes (eR .s fi (gNm 3) (bL 1 0 .s (eOp bS (eOp bS (aC 1) (aL oW (aF (aC 3) aJ))) (eC (.str " "))))) [S,s0 (.str (tx X)),x2,x3,x4,x5] P:=by
 have e:ks.flatMap (fun k=>wdK k++[32])=hdT ks:=by
  unfold hdT bl
  rw[List.flatMap_map]
 refine SG (fun k=>wdK k++[32]) (fun k m=>by have:=(nH (ht k m)).2.2; simp; omega) (fun k m T x2 x4 x5 hT=>?_) hl X hX x3 hi (by rw[e]; exact k)
 have:=(nH (ht k m)).2.2
 refine(bE (a:=.str (tx (T++wdK k))) (b:=.str (tx [32])) (bE (a:=.str (tx T)) (b:=.str (tx (wdK k))) rfl (bH (ds:=[kD k]) rfl (WX (ht k m))) (mM (by omega))) rfl (mM (by simp; omega))).trans ?_
 rw[KP]
theorem Wn (ht : ∀ k∈ks,gX k)(hl:ks.length≤10)(X:List Nat)(hX:X.length≤20000)(x3:L2.Slot)(hi:fi (vS [S,s0 (.str (tx X)),x2,x3,x4,x5])=some (ks.map kD))(k : ∀ x3,P (.nx [S,s0 (.str (tx (X++(ks.map wdK).flatMap fun v=>32::v))),x2,x3,x4,x5])) :
  Goes (eR .s fi (gNm 3) (bL 1 0 .s (eOp bS (eOp bS (aC 1) (eC (.str " "))) (aL oW (aF (aC 3) aJ))))) [S,s0 (.str (tx X)),x2,x3,x4,x5] P:=by
 have e:ks.flatMap (fun k=>32::wdK k)=(ks.map wdK).flatMap fun v=>32::v:=by
  rw[List.flatMap_map]
 refine SG (fun k=>32::wdK k) (fun k m=>by have:=(nH (ht k m)).2.2; simp; omega) (fun k m T x2 x4 x5 hT=>?_) hl X hX x3 hi (by rw[e]; exact k)
 have:=(nH (ht k m)).2.2
 refine(bE (a:=.str (tx (T++[32]))) (b:=.str (tx (wdK k))) (bE (a:=.str (tx T)) (b:=.str (tx [32])) rfl rfl (mM (by simp; omega))) (bH (ds:=[kD k]) rfl (WX (ht k m))) (mM (by simp; omega))).trans ?_
 rw[KP]
 rfl
end
noncomputable def ltT (ls:List Ln)(j:Nat):List Nat:=if j=0 then [] else 32::jnS SC ((ls.take j).map lnT)
theorem GO {sep:List Nat} : ∀ {ws:List (List Nat)} (u:List Nat),ws≠[]->jnS sep (ws++[u])=jnS sep ws++(sep++u)
 | [],u,h=>absurd rfl h
 | [w],u,_=>rfl
 | w::v::r,u,_=>by
  show w++(sep++jnS sep (v::r++[u]))=w++(sep++jnS sep (v::r))++(sep++u)
  rw[GO (ws:=v::r) u (by simp)]
  simp
theorem Tr {ls:List Ln}{j:Nat}(h:j<ls.length):ltT ls (j+1)=(if j=0 then [] else ltT ls j++[44])++(32::lnT ls[j]):=by
 unfold ltT
 rw[if_neg (by omega),zS,fS h]
 by_cases hj:j=0
 ·subst hj
  simp[jnS]
 ·rw[if_neg hj,if_neg hj,mD]
  show 32::jnS SC ((ls.take j).map lnT++[lnT ls[j]])=_
  rw[GO _ (by
   intro q
   have:=congrArg qS q
   rw[dJ,kK,KN] at this
   omega)]
  simp
theorem Re {ls:List Ln}(h : ∀ l∈ls,LineG l)(h5:ls.length≤5)(j:Nat):(ltT ls j).length≤2531:=by
 unfold ltT
 split
 ·simp
 ·have:=BR (ls:=ls.take j) (fun l m=>h l (KL m)) (by rw[kK]; omega)
  rw[fF]
  omega
theorem gt0 {f:EF}{ρ:List (Option aA)}{j:Nat}(h:f ρ=some (.int (j:Int))):bOf (eOp gGt f (eC (.int 0))) ρ=some (decide (j≠0)):=by
 refine(fP (bE (a:=.int j) (b:=.int 0) h rfl rfl)).trans ?_
 congr 1
 rw[decide_eq_decide]
 omega
theorem Sl {as:List Al}(h : ∀ a∈as,AltW a)(h3:as.length≤3):uV [.list (as.map bK)]=some (.str (tx (qT as))):=by
 refine fI rfl ?_
 let S:L2.Slot:=s0 (.list (as.map bK))
 have lenS : ∀ ρ:List (Option aA),aC 0 ρ=some (.list (as.map bK))->aL cB (aF (aC 0) aJ) ρ=some (.int as.length):=fun ρ q=>bH (ds:=[.list (as.map bK)]) (cR q rfl) (by simp[cB])
 have tb:bV .s (bOf (eOp gEq (aL cB (aF (aC 0) aJ)) (eC (.int 0)))) [S,none,none,none,none,none]=some (decide (as=[])):=by
  refine(fP (bE (a:=.int (as.length:Nat)) (b:=.int 0) (lenS _ rfl) rfl (tW _ _))).trans ?_
  congr 1
  rw[decide_eq_decide]
  constructor
  ·intro q
   exact oB (by omega)
  ·intro q
   rw[q]
   rfl
 by_cases hn:as=[]
 ·refine iY (fQ (tb.trans (by rw[decide_eq_true hn])) (cN (d:=.str (tx [110,111,110,101])) rfl ⟨_,rfl,?_⟩))
  unfold qT
  rw[if_pos hn]
 refine dM (ρ':=[S,none,none,none,none,none]) (fM (tb.trans (by rw[decide_eq_false hn]))) ?_
 refine fA (d:=.str "") rfl (by simp) ?_
 let pref:Nat->List Nat:=fun k=>if k=0 then [] else jnS SB ((as.take k).map cW)
 have pl : ∀ k,(pref k).length≤8469:=fun k=>by
  show(if k=0 then [] else jnS SB ((as.take k).map cW)).length≤8469
  split
  ·simp
  ·have:=BA (sep:=SB) (n:=2820) (ws:=(as.take k).map cW) fun w m=>by
    obtain⟨a,ma,rfl⟩:=bW.mp m
    exact BP (h a (KL ma))
   rw[dJ,kK] at this
   have h2:min k as.length*(2820+SB.length)≤3*2823:=wC _ (by omega)
   omega
 have psucc : ∀ k (hk:k<as.length),pref (k+1)=(if k=0 then [] else pref k++SB)++cW as[k]:=fun k hk=>by
  show(if k+1=0 then [] else jnS SB ((as.take (k+1)).map cW))=(if k=0 then [] else(if k=0 then [] else jnS SB ((as.take k).map cW))++SB)++cW as[k]
  rw[if_neg (by omega),zS,fS hk]
  by_cases hj:k=0
  ·subst hj
   simp[jnS]
  ·rw[if_neg hj,if_neg hj,mD]
   show jnS SB ((as.take k).map cW++[cW as[k]])=_
   rw[GO _ (by
    intro q
    have:=congrArg qS q
    rw[dJ,kK,KN] at this
    omega)]
   simp
 refine gF (fun ρ'=>∃ x2 x3 x4 x5:L2.Slot,ρ'=[S,s0 (.str (tx (pref as.length))),x2,x3,x4,x5]) ?_ ?_
 ·refine uA (n:=as.length) (fun k ρ'=>∃ x2 x3 x4 x5:L2.Slot,ρ'=[S,s0 (.str (tx (pref k))),x2,x3,x4,x5]) (avS (oR (cR (lenS _ rfl) rfl) (by omega))) ⟨none,none,none,none,rfl⟩ ?_ ?_
  ·rintro k _ hk ⟨x2,x3,x4,x5,rfl⟩
   refine⟨[S,s0 (.str (tx (pref k))),s0 (.int k),x3,x4,x5],rfl,?_⟩
   let a:Al:=as[k]
   have ha:AltW a:=h as[k] (zU hk)
   have plk:=pl k
   let X:List Nat:=if k=0 then [] else pref k++SB
   have hX:X.length≤8472:=by
    show(if k=0 then [] else pref k++SB).length≤8472
    split
    ·simp
    ·simp; omega
   refine gF (fun ρ'=>ρ'=[S,s0 (.str (tx X)),s0 (.int k),x3,x4,x5]) ?_ ?_
   ·have t:=gt0 (f:=aC 2) (ρ:=vS [S,s0 (.str (tx (pref k))),s0 (.int k),x3,x4,x5]) (j:=k) rfl
    by_cases hk0:k=0
    ·refine⟨_,fM (t.trans (by rw[decide_eq_false (by omega)])),_,rfl,?_⟩
     have e1:X=[]:=if_pos hk0
     have e2:pref k=[]:=if_pos hk0
     rw[e1,e2]
    ·refine fQ (t.trans (by rw[decide_eq_true hk0])) (xJ (bE (a:=.str (tx (pref k))) (b:=.str (tx SB)) rfl rfl (mM (by simp; omega))) (by simp) ⟨_,rfl,?_⟩)
     have e1:X=pref k++SB:=if_neg hk0
     rw[e1]
     rfl
   rintro _ rfl
   have ixk : ∀ ρ:List (Option aA),aC 0 ρ=some (.list (as.map bK))->aC 2 ρ=some (.int (k:Int))->eOp gIx (aC 0) (aC 2) ρ=some (bK a):=fun ρ q1 q2=>bE (a:=.list (as.map bK)) (b:=.int (k:Nat)) q1 q2 (WQ (fS hk))
   have h4:a.1.length≤4:=ha.four
   have h5:a.2.length≤5:=ha.five
   have hlh:(hdT a.1).length≤288:=BD ha.tms h4
   refine gF (fun ρ'=>∃ x3,ρ'=[S,s0 (.str (tx (X++hdT a.1))),s0 (.int k),x3,x4,x5]) (Kf ha.tms (by omega) X (by omega) x3 (lQ (bE (a:=bK a) (b:=.int 0) (ixk _ rfl rfl) rfl rfl)) fun x3=>⟨_,rfl,x3,rfl⟩) ?_
   rintro _ ⟨x3,rfl⟩
   let Y:List Nat:=X++hdT a.1++[58]
   have hY:Y.length≤8761:=by simp[Y]; omega
   refine fA (d:=.str (tx Y)) (bE (a:=.str (tx (X++hdT a.1))) (b:=.str (tx [58])) rfl rfl (mM (by simp; omega))) (by simp) ?_
   have lenL : ∀ ρ:List (Option aA),aC 0 ρ=some (.list (as.map bK))->aC 2 ρ=some (.int (k:Int))->aL cB (aF (eOp gIx (eOp gIx (aC 0) (aC 2)) (eC (.int 1))) aJ) ρ=some (.int a.2.length):=fun ρ q1 q2=>bH (ds:=[lsD a.2]) (cR (bE (a:=bK a) (b:=.int 1) (ixk ρ q1 q2) rfl rfl) rfl) ((rS _).trans (by simp))
   refine uA (n:=a.2.length) (fun j ρ'=>∃ x3 x4 x5:L2.Slot,ρ'=[S,s0 (.str (tx (Y++ltT a.2 j))),s0 (.int k),x3,x4,x5]) (avS (oR (cR (lenL _ rfl rfl) rfl) (by omega))) ⟨x3,x4,x5,by
    show [S,s0 (.str (tx Y)),s0 (.int k),x3,x4,x5]=[S,s0 (.str (tx (Y++ltT a.2 0))),s0 (.int k),x3,x4,x5]
    rw[show ltT a.2 0=[] from rfl,oD]⟩ ?_ ?_
   ·rintro j _ hj ⟨x3,x4,x5,rfl⟩
    refine⟨[S,s0 (.str (tx (Y++ltT a.2 j))),s0 (.int k),x3,s0 (.int j),x5],rfl,?_⟩
    let l:Ln:=a.2[j]
    have gl:LineG l:=ha.lns l (zU hj)
    have hlt:=Re ha.lns h5 j
    refine fA (d:=bI l) (bE (a:=lsD a.2) (b:=.int (j:Nat)) (bE (a:=bK a) (b:=.int 1) (ixk _ rfl rfl) rfl rfl) rfl (oU (by rw[fK,fS hj]; rfl))) (by simp) ?_
    let Z:List Nat:=if j=0 then Y else Y++ltT a.2 j++[44]
    have hZ:Z.length≤11300:=by
     show(if j=0 then Y else Y++ltT a.2 j++[44]).length≤11300
     split
     ·omega
     ·rw[hV,hV,qR]; omega
    refine gF (fun ρ'=>ρ'=[S,s0 (.str (tx Z)),s0 (.int k),x3,s0 (.int j),s0 (bI l)]) ?_ ?_
    ·have t:=gt0 (f:=aC 4) (ρ:=vS [S,s0 (.str (tx (Y++ltT a.2 j))),s0 (.int k),x3,s0 (.int j),s0 (bI l)]) (j:=j) rfl
     by_cases hj0:j=0
     ·refine⟨_,fM (t.trans (by rw[decide_eq_false (by omega)])),_,rfl,?_⟩
      have e1:Z=Y:=if_pos hj0
      rw[e1,hj0,show ltT a.2 0=[] from rfl,oD]
      rfl
     ·refine fQ (t.trans (by rw[decide_eq_true hj0])) (xJ (bE (a:=.str (tx (Y++ltT a.2 j))) (b:=.str (tx [44])) rfl rfl (mM (by rw[hV,qR]; omega))) (show 1<6 by decide) ⟨_,rfl,?_⟩)
      have e1:Z=Y++ltT a.2 j++[44]:=if_neg hj0
      rw[e1]
      rfl
    rintro _ rfl
    have hn:=(GU gl.name).2.2
    refine fA (d:=.str (tx (Z++[32]++l.1.cps.toList))) (bE (a:=.str (tx (Z++[32]))) (b:=.str (tx l.1.cps.toList)) (bE (a:=.str (tx Z)) (b:=.str (tx [32])) rfl rfl (mM (by rw[qR]; omega))) (bE (a:=bI l) (b:=.int 0) rfl rfl (by rw[← pU]; rfl)) (mM (by rw[hV,qR]; omega))) (show 1<6 by decide) ?_
    refine Wn gl.tms (by have:=gl.six; omega) (Z++[32]++l.1.cps.toList) (by rw[hV,hV,qR]; omega) x3 (lQ (bE (a:=bI l) (b:=.int 1) rfl rfl rfl)) fun x3=>⟨_,.inl rfl,x3,s0 (.int j),s0 (bI l),?_⟩
    have e:Z++[32]++l.1.cps.toList++(l.2.map wdK).flatMap (fun v=>32::v)=Y++ltT a.2 (j+1):=by
     rw[Tr hj]
     have el:lnT l=l.1.cps.toList++(l.2.map wdK).flatMap fun v=>32::v:=Ct _ _
     show(if j=0 then Y else Y++ltT a.2 j++[44])++[32]++l.1.cps.toList++(l.2.map wdK).flatMap (fun v=>32::v)=Y++((if j=0 then [] else ltT a.2 j++[44])++(32::lnT l))
     rw[el]
     by_cases hj0:j=0
     ·rw[if_pos hj0,if_pos hj0]; simp
     ·rw[if_neg hj0,if_neg hj0]; simp
    rw[e]
   ·rintro _ ⟨x3,x4,x5,rfl⟩
    refine⟨_,.inl rfl,s0 (.int k),x3,x4,x5,?_⟩
    have e:Y++ltT a.2 a.2.length=pref (k+1):=by
     rw[psucc k hk]
     show X++hdT a.1++[58]++ltT a.2 a.2.length=X++cW a
     unfold cW ltT
     by_cases hz:a.2=[]
     ·rw[if_pos (by rw[hz]; rfl),if_pos hz]; simp
     ·rw[if_neg (fun q=>hz (oB q)),if_neg hz,EO]; simp
    rw[e]
  ·rintro _ ⟨x2,x3,x4,x5,rfl⟩
   exact⟨_,rfl,x2,x3,x4,x5,rfl⟩
 ·rintro _ ⟨x2,x3,x4,x5,rfl⟩
  refine cN (d:=.str (tx (pref as.length))) rfl ?_
  have:pref as.length=qT as:=by
   show(if as.length=0 then [] else jnS SB ((as.take as.length).map cW))=qT as
   unfold qT
   rw[if_neg (fun q=>hn (oB q)),if_neg hn,EO]
  rw[this]
theorem BW {ρ0:bC}{P:Out->Prop}{fi:AF}{T:aA->bC->Option bC}{F:SF}{ds:List aA}(I:bC->Prop)(hi:aV .s fi ρ0=some ds)(h0:I ρ0)(step : ∀ d∈ds,∀ ρ,I ρ -> ∃ ρ1,T d ρ=some ρ1/\Goes F ρ1 fun o=>∃ ρ2,o = .nx ρ2/\I ρ2)(k : ∀ ρ',I ρ'->P (.nx ρ')):Goes (eR .s fi T F) ρ0 P:=by
 refine AR (fun _ ρ=>I ρ) hi h0 (fun i d ρ hd hI=>?_) (fun ρ' hI=>k ρ' hI)
 obtain⟨ρ1,e,g⟩:=step d (gQ hd) ρ hI
 exact⟨ρ1,e,g.mono fun o ⟨ρ2,e2,i2⟩=>⟨ρ2,.inl e2,i2⟩⟩
theorem XG {ts:List (aB×Nat)}{size:Nat}{as:List Al}(G:QG ts size as):sC [.list (as.map bK),.list (as.map bK)]=some (.bool true):=by
 refine fI rfl ?_
 let A:L2.Slot:=s0 (.list (as.map bK))
 have hq:=WD G
 have ne:gNe (.list (as.map bK)) (.list (as.map bK))=some (.bool false):=by
  show(if (dE (.list (as.map bK))&&dE (.list (as.map bK)))=true then some (fD (!cP (.list (as.map bK)) (.list (as.map bK)))) else none)=_
  rw[hq.1,hq.2]
  rfl
 have nb : ∀ (k:aO) (ρ:List (Option aA)),aC 5 ρ=some (kD k)->bOf (eUn (eQ "bool") (aC 5)) ρ=some false:=fun k ρ q=>fP (Cq (a:=kD k) q (by cases k <;> rfl))
 have t1:=oM (a:=eA (bOf (eUn (eQ "list") (aC 0)))) (b:=bOf (eOp gNe (aC 0) (aC 1))) (ρ:=vS [A,A,none,none,none,none]) (mQ (x:=true) rfl) (fun _=>fP (bE (a:=.list (as.map bK)) (b:=.list (as.map bK)) rfl rfl ne))
 refine dM (ρ':=[A,A,none,none,none,none]) (fM t1) ?_
 refine gF (fun ρ'=>∃ x2 x3 x4 x5:L2.Slot,ρ'=[A,A,x2,x3,x4,x5]) ?_ ?_
 ·refine BW (ds:=as.map bK) (fun ρ'=>∃ x2 x3 x4 x5:L2.Slot,ρ'=[A,A,x2,x3,x4,x5]) (avS (lR rfl)) ⟨none,none,none,none,rfl⟩ ?_ fun ρ' ⟨x2,x3,x4,x5,e⟩=>⟨_,rfl,x2,x3,x4,x5,e⟩
  rintro d md _ ⟨x2,x3,x4,x5,rfl⟩
  obtain⟨a,ma,rfl⟩:=bW.mp md
  refine⟨[A,A,s0 (tK a.1),s0 (lsD a.2),x4,x5],rfl,?_⟩
  refine gF (fun ρ'=>∃ x4 x5:L2.Slot,ρ'=[A,A,s0 (tK a.1),s0 (lsD a.2),x4,x5]) ?_ ?_
  ·refine BW (ds:=a.2.map bI) (fun ρ'=>∃ x4 x5:L2.Slot,ρ'=[A,A,s0 (tK a.1),s0 (lsD a.2),x4,x5]) (avS (lQ rfl)) ⟨x4,x5,rfl⟩ ?_ fun ρ' ⟨x4,x5,e⟩=>⟨_,rfl,x4,x5,e⟩
   rintro d md _ ⟨x4,x5,rfl⟩
   obtain⟨l,ml,rfl⟩:=bW.mp md
   refine⟨[A,A,s0 (tK a.1),s0 (lsD a.2),s0 (bI l),x5],rfl,?_⟩
   refine BW (ds:=l.2.map kD) (fun ρ'=>∃ x5:L2.Slot,ρ'=[A,A,s0 (tK a.1),s0 (lsD a.2),s0 (bI l),x5]) (avS (lQ (bE (a:=bI l) (b:=.int 1) rfl rfl rfl))) ⟨x5,rfl⟩ ?_ fun ρ' ⟨x5,e⟩=>⟨_,rfl,s0 (bI l),x5,e⟩
   rintro d md _ ⟨x5,rfl⟩
   obtain⟨k,mk,rfl⟩:=bW.mp md
   exact⟨[A,A,s0 (tK a.1),s0 (lsD a.2),s0 (bI l),s0 (kD k)],rfl,_,fM (nb k _ rfl),_,rfl,_,rfl⟩
  ·rintro _ ⟨x4,x5,rfl⟩
   refine BW (ds:=a.1.map kD) (fun ρ'=>∃ x5:L2.Slot,ρ'=[A,A,s0 (tK a.1),s0 (lsD a.2),x4,x5]) (avS (lQ rfl)) ⟨x5,rfl⟩ ?_ fun ρ' ⟨x5,e⟩=>⟨_,rfl,_,_,x4,x5,e⟩
   rintro d md _ ⟨x5,rfl⟩
   obtain⟨k,mk,rfl⟩:=bW.mp md
   exact⟨[A,A,s0 (tK a.1),s0 (lsD a.2),x4,s0 (kD k)],rfl,_,fM (nb k _ rfl),_,rfl,_,rfl⟩
 ·rintro _ ⟨x2,x3,x4,x5,rfl⟩
  exact cN (d:=.bool true) rfl rfl
theorem AltG.w {ts:List (aB×Nat)}{a:Al}(A:AltG ts a.1 a.2):AltW a:=⟨A.tms,A.hd4,A.good,A.few⟩
theorem Dm (ns:List Int)(hl:ns.length≤63):DH [.list (ns.map dA)]=some (.bool true):=by
 have : ∃ d,DH [.list (ns.map dA)]=some d/\d = .bool true:=by
  refine mL rfl ?_
  let S:L2.Slot:=s0 (.list (ns.map dA))
  obtain⟨c,ec⟩:=uD (ns:=ns) (k:=0) (by omega) (by omega)
  obtain⟨c1,ec1⟩:=uD (ns:=ns) (k:=1) (by omega) (by omega)
  refine fA (d:=.int c) (bH (ds:=[.list (ns.map dA),.int 0]) rfl ec) (by simp) ?_
  obtain⟨zs,ez,hzl,hz,_⟩:=OZ c (n:=4) (by omega)
  refine fA (d:=.list (zs.map bO)) (bH (ds:=[.int c,.int (4:Nat)]) rfl ez) (by simp) ?_
  obtain⟨ts,et,htl,hT⟩:=Vn (c / (3:Nat)*3+bN c 9%(3:Nat)) (n:=3) (by omega)
  refine fA (d:=.list (ts.map eB)) (bH (ds:=[.int (c / (3:Nat)*3+bN c 9%(3:Nat)),.int (3:Nat)]) (cR (bE (a:=.int (c / (3:Nat)*3)) (b:=.int (bN c 9%(3:Nat))) (bE (a:=.int (c / (3:Nat))) (b:=.int 3) (bE (a:=.int c) (b:=.int (3:Nat)) rfl rfl (MG c 3 (by omega))) rfl (mul_r (by decide))) (bE (a:=.int (bN c 9)) (b:=.int (3:Nat)) (bH (ds:=[.int c,.int 9]) rfl (iN c 9 (by decide) (by decide))) rfl (DL _ 3 (by omega))) rfl) rfl) et) (by simp) ?_
  obtain⟨size,hsz⟩:=oF (gC (bN c 5) (show(0:Int)<(5:Nat) by decide)).1
  have hs4:size≤4:=by have:=(gC (bN c 5) (show(0:Int)<(5:Nat) by decide)).2; omega
  refine fA (d:=.int size) (bE (a:=.int (bN c 5)) (b:=.int (5:Nat)) (bH (ds:=[.int c,.int 5]) rfl (iN c 5 (by decide) (by decide))) rfl ((DL _ 5 (by omega)).trans (by rw[hsz]))) (by simp) ?_
  refine fA (n:=1) (d:=.list []) rfl (by simp) ?_
  obtain⟨n,hn⟩:=oF (gC (bN c1 6) (show(0:Int)<(4:Nat) by decide)).1
  have hn3:n≤3:=by have:=(gC (bN c1 6) (show(0:Int)<(4:Nat) by decide)).2; omega
  let C:L2.Slot:=s0 (.int c)
  let Z:L2.Slot:=s0 (.list (zs.map bO))
  let TB:L2.Slot:=s0 (.list (ts.map eB))
  let SZ:L2.Slot:=s0 (.int size)
  refine gF (fun ρ'=>∃ (as:List Al) (x6:L2.Slot),(as.length=n/\(∀ a∈as,AltG ts a.1 a.2) /\ ∀ a∈as,a.1.length=size)/\ρ'=[S,C,Z,TB,SZ,some (1,.list (as.map bK)),x6,none,none,none]) ?_ ?_
  ·refine uA (n:=n) (fun i ρ'=>∃ (as:List Al) (x6:L2.Slot),(as.length=i/\(∀ a∈as,AltG ts a.1 a.2) /\ ∀ a∈as,a.1.length=size)/\ρ'=[S,C,Z,TB,SZ,some (1,.list (as.map bK)),x6,none,none,none]) (avS (oR (cR ((bE (a:=.int (bN c1 6)) (b:=.int (4:Nat)) (bH (ds:=[.int c1,.int 6]) (cR (bH (ds:=[.list (ns.map dA),.int 1]) rfl ec1) rfl) (iN c1 6 (by decide) (by decide))) rfl (DL _ 4 (by omega))).trans (by rw[hn])) rfl) (by omega))) ⟨[],none,⟨rfl,by simp,by simp⟩,rfl⟩ ?_ ?_
   ·rintro i _ hi ⟨as,x6,⟨h1,h2,h3⟩,rfl⟩
    refine⟨[S,C,Z,TB,SZ,some (1,.list (as.map bK)),s0 (.int i),none,none,none],rfl,?_⟩
    obtain⟨a,ea,hA,hs⟩:=Qd (ns:=ns) (ts:=ts) (zs:=zs) (st:=2+19*i) (size:=size) (by omega) hs4 (by omega) hT (by omega) hz
    have est:eOp bS (eC (.int 2)) (eOp fN (eC (.int 19)) (aC 6)) (vS [S,C,Z,TB,SZ,some (1,.list (as.map bK)),s0 (.int i),none,none,none])=some (.int ((2+19*i:Nat):Int)):=bE (a:=.int 2) (b:=.int (19*(i:Int))) rfl (bE (a:=.int 19) (b:=.int i) rfl rfl (Cy (by decide))) rfl
    refine xE (d:=bK a) (ds:=as.map bK) (bH (ds:=[lI ns,.int ((2+19*i:Nat):Int),.list (ts.map eB),.list (zs.map bO),.int size]) (cR rfl (cR est rfl)) ea) rfl (by simp; omega) ⟨_,.inl rfl,as++[a],s0 (.int i),⟨by simp[h1],fun x m=>?_,fun x m=>?_⟩,by simp⟩
    ·rcases iK.mp m with m | m
     ·exact h2 x m
     ·rw[dP.mp m]; exact hA
    ·rcases iK.mp m with m | m
     ·exact h3 x m
     ·rw[dP.mp m]; exact hs
   ·rintro _ ⟨as,x6,h,rfl⟩
    exact⟨_,rfl,as,x6,h,rfl⟩
  rintro _ ⟨as,x6,⟨h1,h2,h3⟩,rfl⟩
  refine rP ?_
  have G:QG ts size as:=⟨h2,h3,by omega,hs4⟩
  have hW : ∀ a∈as,AltW a:=fun a m=>(h2 a m).w
  let Q:aA:=.list (as.map bK)
  let T:aA:=.str (tx (qT as))
  refine fA (d:=Q) (bH (ds:=[Q]) rfl rfl) (by simp[frz]) ?_
  refine fA (d:=T) (bH (ds:=[Q]) rfl (GM hW G.few)) (by simp[frz]) ?_
  have hq:=WD G
  have ne:gNe Q Q=some (.bool false):=by
   show(if (dE (.list (as.map bK))&&dE (.list (as.map bK)))=true then some (fD (!cP (.list (as.map bK)) (.list (as.map bK)))) else none)=_
   rw[hq.1,hq.2]
   rfl
  let R:bC:=[S,C,Z,TB,SZ,s0 Q,x6,s0 Q,s0 T,none]
  have e1:bV .s (bOr (eA (bOf (eUn (eQ "str") (aC 8)))) (bOr (bOf (eOp gNe (aC 8) (aL uV (aF (aC 7) aJ)))) (bOf (eOp gNe (aC 5) (aC 7))))) R=some (!true||(false||false)):=
   oM (mQ (x:=true) rfl) fun _=>oM (fP (bE (a:=T) (b:=T) rfl (bH (ds:=[Q]) rfl (Sl hW G.few)) ((He _ _).trans (by simp)))) fun _=>fP (bE (a:=Q) (b:=Q) rfl rfl ne)
  refine dM (ρ':=R) (fM e1) ?_
  refine fA (n:=1) (d:=Q) (bH (ds:=[T]) rfl (NS none G hW)) (show 9<10 by decide) ?_
  let R2:bC:=[S,C,Z,TB,SZ,s0 Q,x6,s0 Q,s0 T,some (1,Q)]
  have e2:bV .a (eA (bOf (aL sC (aF (aC 9) (aF (aC 7) aJ))))) R2=some (!true):=mQ (x:=true) (ρ:=vA R2) (bH (ds:=[Q,Q]) rfl (XG G))
  refine dM (ρ':=R2) (fM e2) ?_
  refine gF (fun ρ'=>∃ x9:L2.Slot,ρ'=[S,C,Z,TB,SZ,s0 Q,x6,s0 Q,s0 T,x9]) (xE (d:=.tuple [.tuple [],.tuple []]) (ds:=as.map bK) rfl rfl (by simp; omega) ⟨_,rfl,_,rfl⟩) ?_
  rintro _ ⟨x9,rfl⟩
  refine rP ?_
  have eF:frz 9 [S,C,Z,TB,SZ,s0 Q,x6,s0 Q,s0 T,x9]=[S,C,Z,TB,SZ,s0 Q,x6,s0 Q,s0 T,(frz 9 [S,C,Z,TB,SZ,s0 Q,x6,s0 Q,s0 T,x9]).getD 9 none]:=by
   cases x9 <;> rfl
  rw[eF]
  generalize(frz 9 [S,C,Z,TB,SZ,s0 Q,x6,s0 Q,s0 T,x9]).getD 9 none=y9
  exact cN (d:=.bool (true&&true)) (oV (bH (ds:=[Q,Q]) (cR (bH (ds:=[T]) rfl (NS none G hW)) rfl) (XG G)) fun _=>bE (a:=T) (b:=T) (bH (ds:=[Q]) rfl (GM hW G.few)) rfl ((xK _ _).trans (by simp))) ⟨_,rfl,rfl⟩
 obtain⟨d,e,rfl⟩:=this
 exact e
noncomputable def DK (K:aK):Sp:=fun vs H Q _=>∃ (a:aD) (ns:List Int),vs=[.ref a]/\SqL K H a (ns.map V.int)/\ns.length≤63 /\ ∀ H',Q (.bl true) H'
theorem Dd {K:aK} : ∀ vs H Q E,DK K vs H Q E->spF K 0 DH vs H Q E:=fun vs H Q E gh=>by
 obtain⟨a,ns,ev,hS,hl,k⟩:=gh
 subst ev
 have e0:hid H (fun _=>False)=H:=by
  funext b
  unfold hid
  rw[if_neg (fun z=>z)]
 refine⟨fun _=>False,[.list (ns.map dA)],.bool true,fun _ z=>z.elim,?_,Dm ns hl,cY fun v H' _ r=>?_⟩
 ·rw[e0]
  exact Aal.mpr ⟨_,_,rfl,Abn.mpr ⟨a,_,rfl,hS,RF ns⟩,Aat.mpr rfl⟩
 ·rw[Aar.mp r]
  exact k H'
def Hl (K:aK)(n:aB)(st:bP)(f:aD):Prop:=∃ (od an:Option aD) (sl:Array (Option aE)) (oc kV dc pm cd ct:aE),dD K cJ n=some (some (.ref f))/\K.lookup f=some ⟨oc,od,.func (kF n n (kZ st) (iZ st) (bJ st) .none kV dc pm an cd ct),sl⟩/\zL K cd n=true/\qO K (.ref f)=true
def Hs (K:aK)(n:aB)(st:bP)(f:aD):Prop:=∃ fd,Fun K n n st f fd/\dD K cJ n=some (some (.ref f))/\qO K (.ref f)=true
section
variable {K:aK}{n:aB}{st:bP}{f:aD}
theorem Bhk {od an:Option aD}{sl:Array (Option aE)}{oc kV dc pm cd ct:aE}(a:dD K cJ n=some (some (.ref f)))(l:K.lookup f=some ⟨oc,od,.func (kF n n (kZ st) (iZ st) (bJ st) .none kV dc pm an cd ct),sl⟩)(c:zL K cd n=true)(k:qO K (.ref f)=true):Hl K n st f:=⟨_,_,_,_,_,_,_,_,_,a,l,c,k⟩
theorem Ac4 {od an:Option aD}{sl:Array (Option aE)}{oc kV dc pm cd ct:aE}(a:dD K cJ n=some (some (.ref f)))(l:K.lookup f=some ⟨oc,od,.func (kF n n (kZ st) (iZ st) (bJ st) .none kV dc pm an cd ct),sl⟩)(c:zL K cd n=true)(k:qO K (.ref f)=true):Hs K n st f:=⟨_,WH (st:=st) l c k,a,k⟩
noncomputable def Hs.fd (h:Hs K n st f):fX:=Classical.choose h
theorem Hs.fn (h:Hs K n st f):Fun K n n st f h.fd:=(EV h).1
theorem Hs.dfX {P:bQ}{w:bB}{mg:aB->Option aE}{h base:aW}{k:Nat}{ps:List aB}{sp:Sp}(X:K.In h)(G:h.Ns cJ mg)(H:Hs K n st f)(ok:FnOk P w K mg base (CXR base P w) k f H.fd ps sp)(b:Binds K H.fd ps []):DefX P w K mg base n k ps sp:=⟨_,_,ok,lE X G (EV H).2.1,(EV H).2.2,b⟩
theorem Hs.fv (h:Hs K n st f):wX K n:=h.elim fun _ x=>⟨_,x.2.1⟩
theorem Hs.df {P:bQ}{w:bB}{mg:aB->Option aE}{h base:aW}{k:Nat}{ps:List aB}{sp:Sp}(X:K.In h)(G:h.Ns cJ mg)(H:Hs K n st f)(ok:FnOk P w K mg base CX0 k f H.fd ps sp)(b:Binds K H.fd ps []):Def P w K mg base n k ps sp:=⟨_,_,ok,lE X G (EV H).2.1,(EV H).2.2,b⟩
end
theorem jQ {us:List aE}{n:Nat}(h:us.length=n+1) : ∃ a r,us=a::r/\r.length=n:=by
 cases us with
 | nil=>exact absurd h (by simp)
 | cons a r=>exact⟨a,r,rfl,Nat.succ.inj h⟩
theorem fG {K:aK}{x qual:aB}{st:bP}{f:aD}{fd:fX}{ps:List aB}(F:Fun K x qual st f fd)(hp:ps.length=1)(h : ∀ (kV doc pm:aE) (an:Option aD) (cdv ct:aE) a,vV (kF x qual (kZ st) (iZ st) (bJ st) .none kV doc pm an cdv ct) ⟨[a],[]⟩=pure (ps.zip [a])):Binds K fd ps []:=F.binds fun kV doc pm an cdv ct u0 hl=>by
 have g0:=hl.trans hp
 clear hl
 obtain⟨a,u1,rfl,g1⟩:=jQ g0
 cases oB g1
 exact h kV doc pm an cdv ct a
theorem rD {K:aK}{x qual:aB}{st:bP}{f:aD}{fd:fX}{ps:List aB}(F:Fun K x qual st f fd)(hp:ps.length=2)(h : ∀ (kV doc pm:aE) (an:Option aD) (cdv ct:aE) a b,vV (kF x qual (kZ st) (iZ st) (bJ st) .none kV doc pm an cdv ct) ⟨[a,b],[]⟩=pure (ps.zip [a,b])):Binds K fd ps []:=F.binds fun kV doc pm an cdv ct u0 hl=>by
 have g0:=hl.trans hp
 clear hl
 obtain⟨a,u1,rfl,g1⟩:=jQ g0
 obtain⟨b,u2,rfl,g2⟩:=jQ g1
 cases oB g2
 exact h kV doc pm an cdv ct a b
theorem Ae {K:aK}{x qual:aB}{st:bP}{f:aD}{fd:fX}{ps:List aB}(F:Fun K x qual st f fd)(hp:ps.length=3)(h : ∀ (kV doc pm:aE) (an:Option aD) (cdv ct:aE) a b c,vV (kF x qual (kZ st) (iZ st) (bJ st) .none kV doc pm an cdv ct) ⟨[a,b,c],[]⟩=pure (ps.zip [a,b,c])):Binds K fd ps []:=F.binds fun kV doc pm an cdv ct u0 hl=>by
 have g0:=hl.trans hp
 clear hl
 obtain⟨a,u1,rfl,g1⟩:=jQ g0
 obtain⟨b,u2,rfl,g2⟩:=jQ g1
 obtain⟨c,u3,rfl,g3⟩:=jQ g2
 cases oB g3
 exact h kV doc pm an cdv ct a b c
theorem Ap {K:aK}{x qual:aB}{st:bP}{f:aD}{fd:fX}{ps:List aB}(F:Fun K x qual st f fd)(hp:ps.length=4)(h : ∀ (kV doc pm:aE) (an:Option aD) (cdv ct:aE) a b c d,vV (kF x qual (kZ st) (iZ st) (bJ st) .none kV doc pm an cdv ct) ⟨[a,b,c,d],[]⟩=pure (ps.zip [a,b,c,d])):Binds K fd ps []:=F.binds fun kV doc pm an cdv ct u0 hl=>by
 have g0:=hl.trans hp
 clear hl
 obtain⟨a,u1,rfl,g1⟩:=jQ g0
 obtain⟨b,u2,rfl,g2⟩:=jQ g1
 obtain⟨c,u3,rfl,g3⟩:=jQ g2
 obtain⟨d,u4,rfl,g4⟩:=jQ g3
 cases oB g4
 exact h kV doc pm an cdv ct a b c d
theorem LN {K:aK}{x qual:aB}{st:bP}{f:aD}{fd:fX}{ps:List aB}(F:Fun K x qual st f fd)(hp:ps.length=5)(h : ∀ (kV doc pm:aE) (an:Option aD) (cdv ct:aE) a b c d e,vV (kF x qual (kZ st) (iZ st) (bJ st) .none kV doc pm an cdv ct) ⟨[a,b,c,d,e],[]⟩=pure (ps.zip [a,b,c,d,e])):Binds K fd ps []:=F.binds fun kV doc pm an cdv ct u0 hl=>by
 have g0:=hl.trans hp
 clear hl
 obtain⟨a,u1,rfl,g1⟩:=jQ g0
 obtain⟨b,u2,rfl,g2⟩:=jQ g1
 obtain⟨c,u3,rfl,g3⟩:=jQ g2
 obtain⟨d,u4,rfl,g4⟩:=jQ g3
 obtain⟨e,u5,rfl,g5⟩:=jQ g4
 cases oB g5
 exact h kV doc pm an cdv ct a b c d e
set_option maxHeartbeats 4000000 in
theorem all_mk {l:YG}{w:bB}{K:aK}{h:aW}{mg:aB->Option aE}{fa f_is_whole f_is_name f_is_pair f_of_one_length f_names_of f_tables_of f_show_words f_whole_of f__law_cell f__law_mix f__law_word f__law_same f_is_number f_of_one_width f_stands_in f_show_line f_term_of f__law_names f__law_term f__law_text f_is_term f_show_alternative f_terms_of f__law_tables f__law_lines f_are_terms f_show_question f_line_of f__law_alternative f_is_line f_alternative_of f_are_lines f_question_of f_is_alternative f_is_question f_read_by f_read_question f_law:aD}(X:K.In h)(G:h.Ns cJ mg)(hfa:mg "law" = some (.ref fa)){t_LETTERS t_FIGURES t_MOST_SIGNS t_MOST_TERMS t_MOST_HEAD_TERMS t_MOST_LINES t_MOST_ALTERNATIVES t_MOST_FIGURES:Tok}
  (h_is_whole:Hs K "is_whole" IA f_is_whole) (h_is_name:Hs K "is_name" BX f_is_name) (h_is_pair:Hs K "is_pair" HX f_is_pair) (h_of_one_length:Hs K "of_one_length" CU f_of_one_length) (h_names_of:Hs K "names_of" HY f_names_of) (h_tables_of:Hs K "tables_of" CK f_tables_of) (h_show_words:Hs K "show_words" CP f_show_words) (h_whole_of:Hs K "whole_of" CG f_whole_of) (h__law_cell:Hs K "_law_cell" IG f__law_cell) (h__law_mix:Hs K "_law_mix" IE f__law_mix) (h__law_word:Hs K "_law_word" II f__law_word) (h__law_same:Hs K "_law_same" IS f__law_same) (h_is_number:Hs K "is_number" IL f_is_number) (h_of_one_width:Hs K "of_one_width" CW f_of_one_width) (h_stands_in:Hs K "stands_in" CL f_stands_in) (h_show_line:Hs K "show_line" IH f_show_line) (h_term_of:Hs K "term_of" HR f_term_of) (h__law_names:Hs K "_law_names" vC f__law_names) (h__law_term:Hs K "_law_term" IR f__law_term) (h__law_text:Hs K "_law_text" IM f__law_text) (h_is_term:Hs K "is_term" HH f_is_term) (h_show_alternative:Hs K "show_alternative" DB f_show_alternative) (h_terms_of:Hs K "terms_of" CF f_terms_of) (h__law_tables:Hs K "_law_tables" IU f__law_tables) (h__law_lines:Hs K "_law_lines" yS f__law_lines) (h_are_terms:Hs K "are_terms" CN f_are_terms) (h_show_question:Hs K "show_question" CV f_show_question) (h_line_of:Hs K "line_of" HJ f_line_of) (h__law_alternative:Hs K "_law_alternative" IZ f__law_alternative) (h_is_line:Hs K "is_line" HU f_is_line) (h_alternative_of:Hs K "alternative_of" CZ f_alternative_of) (h_are_lines:Hs K "are_lines" CJ f_are_lines) (h_question_of:Hs K "question_of" CQ f_question_of) (h_is_alternative:Hs K "is_alternative" IY f_is_alternative) (h_is_question:Hs K "is_question" yM f_is_question) (h_read_by:Hs K "read_by" HC f_read_by) (h_read_question:Hs K "read_question" IW f_read_question) (h_law:Hl K "law" rJ f_law)
  {c_NoText:aD} (y_NoText:dD K cJ "NoText" = some (some (.ref c_NoText)))
  (x_NoText:KA K c_NoText [.type "ValueError",.type "Exception",.type "BaseException",.type "object"] "ValueError.__new__" = true) (xc:XCls K c_NoText)
  (z_isinstance:dD K cJ "isinstance" = some none) (z_int:dD K cJ "int" = some none) (z_bool:dD K cJ "bool" = some none) (z_abs:dD K cJ "abs" = some none) (z_range:dD K cJ "range" = some none) (z_len:dD K cJ "len" = some none) (z_str:dD K cJ "str" = some none) (z_all:dD K cJ "all" = some none) (z_any:dD K cJ "any" = some none) (z_list:dD K cJ "list" = some none) (z_tuple:dD K cJ "tuple" = some none) (z_dict:dD K cJ "dict" = some none) (z_set:dD K cJ "set" = some none) (z_sorted:dD K cJ "sorted" = some none) (z_sum:dD K cJ "sum" = some none) (z_min:dD K cJ "min" = some none) (z_max:dD K cJ "max" = some none) (z_enumerate:dD K cJ "enumerate" = some none) (z_zip:dD K cJ "zip" = some none) (z_reversed:dD K cJ "reversed" = some none) (z_ValueError:dD K cJ "ValueError" = some none) (g_LETTERS:dD K cJ "LETTERS" = some (some (.str "abcdefghijklmnopqrstuvwxyz" t_LETTERS))) (g_FIGURES:dD K cJ "FIGURES" = some (some (.str "0123456789" t_FIGURES))) (g_MOST_SIGNS:dD K cJ "MOST_SIGNS" = some (some (.int 12 t_MOST_SIGNS))) (g_MOST_TERMS:dD K cJ "MOST_TERMS" = some (some (.int 6 t_MOST_TERMS))) (g_MOST_HEAD_TERMS:dD K cJ "MOST_HEAD_TERMS" = some (some (.int 4 t_MOST_HEAD_TERMS))) (g_MOST_LINES:dD K cJ "MOST_LINES" = some (some (.int 5 t_MOST_LINES))) (g_MOST_ALTERNATIVES:dD K cJ "MOST_ALTERNATIVES" = some (some (.int 3 t_MOST_ALTERNATIVES))) (g_MOST_FIGURES:dD K cJ "MOST_FIGURES" = some (some (.int 70 t_MOST_FIGURES))) :
  ∃ fd:fX,(∀ (s:aG) (v:aE),BindsTo s fd ⟨[v],[]⟩ [("_law_script",v)]) /\ ∀ base:aW,K.In base->base.Ns cJ mg->FnOk l.prog w K mg base CX0 11 fa fd ["_law_script"] (DK K):=by
 obtain⟨_,an_law,_,_,kV_law,dc_law,pm_law,cd_law,ct_law,a_law,l_law,c_law,k_law⟩:=h_law
 have e:=hfa.symm.trans (lE X G a_law)
 cases e
 have B:Blt mg:=⟨hJ X G z_isinstance,hJ X G z_int,hJ X G z_bool,hJ X G z_abs,hJ X G z_range,hJ X G z_len,hJ X G z_str,hJ X G z_all,hJ X G z_any,hJ X G z_list,hJ X G z_tuple,hJ X G z_dict,hJ X G z_set,hJ X G z_sorted,hJ X G z_sum,hJ X G z_min,hJ X G z_max,hJ X G z_enumerate,hJ X G z_zip,hJ X G z_reversed,hJ X G z_ValueError⟩
 have C:Cst mg:=⟨⟨_,lE X G g_LETTERS⟩,⟨_,lE X G g_FIGURES⟩,⟨_,lE X G g_MOST_SIGNS⟩,⟨_,lE X G g_MOST_TERMS⟩,⟨_,lE X G g_MOST_HEAD_TERMS⟩,⟨_,lE X G g_MOST_LINES⟩,⟨_,lE X G g_MOST_ALTERNATIVES⟩,⟨_,lE X G g_MOST_FIGURES⟩⟩
 have V:Xcs K mg:=⟨⟨_,y_NoText,x_NoText⟩,h_show_question.fv,h_is_question.fv,h_question_of.fv⟩
 refine⟨kF "law" "law" (kZ rJ) (iZ rJ) (bJ rJ) .none kV_law dc_law pm_law an_law cd_law ct_law,fun s v=>.of_eq rfl,fun base _ _=>?_⟩
 have D_is_whole:Def l.prog w K mg base "is_whole" 1 yA (spF K 0 uR):=h_is_whole.df X G (Ou h_is_whole.fn B C V ) (fG h_is_whole.fn (ps:=yA) rfl fun _ _ _ _ _ _ _=>rfl)
 have D_is_name:Def l.prog w K mg base "is_name" 1 uK (spF K 0 lT):=h_is_name.df X G (Mi h_is_name.fn B C V ) (fG h_is_name.fn (ps:=uK) rfl fun _ _ _ _ _ _ _=>rfl)
 have D_is_pair:Def l.prog w K mg base "is_pair" 1 uG (spF K 0 qB):=h_is_pair.df X G (Lh h_is_pair.fn B C V ) (fG h_is_pair.fn (ps:=uG) rfl fun _ _ _ _ _ _ _=>rfl)
 have D_of_one_length:Def l.prog w K mg base "of_one_length" 1 yV (spF K 0 yU):=h_of_one_length.df X G (Qp h_of_one_length.fn B C V ) (fG h_of_one_length.fn (ps:=yV) rfl fun _ _ _ _ _ _ _=>rfl)
 have D_names_of:Def l.prog w K mg base "names_of" 1 xW (spF K 1 uQ):=h_names_of.df X G (Oh h_names_of.fn B C V ) (fG h_names_of.fn (ps:=xW) rfl fun _ _ _ _ _ _ _=>rfl)
 have D_tables_of:Def l.prog w K mg base "tables_of" 1 yG (spF K 0 uS):=h_tables_of.df X G (Pf h_tables_of.fn B C V ) (fG h_tables_of.fn (ps:=yG) rfl fun _ _ _ _ _ _ _=>rfl)
 have D_show_words:Def l.prog w K mg base "show_words" 1 vB (spF K 0 sA):=h_show_words.df X G (Qc h_show_words.fn B C V ) (fG h_show_words.fn (ps:=vB) rfl fun _ _ _ _ _ _ _=>rfl)
 have D_whole_of:Def l.prog w K mg base "whole_of" 1 xX (spF K 0 uO):=h_whole_of.df X G (Nr h_whole_of.fn B C V ) (fG h_whole_of.fn (ps:=xX) rfl fun _ _ _ _ _ _ _=>rfl)
 have D__law_cell:Def l.prog w K mg base "_law_cell" 1 rZ (spF K 0 iP):=h__law_cell.df X G (Pi h__law_cell.fn B C V ) (rD h__law_cell.fn (ps:=rZ) rfl fun _ _ _ _ _ _ _ _=>rfl)
 have D__law_mix:Def l.prog w K mg base "_law_mix" 1 nL (spF K 0 dW):=h__law_mix.df X G (Ol h__law_mix.fn B C V ) (rD h__law_mix.fn (ps:=nL) rfl fun _ _ _ _ _ _ _ _=>rfl)
 have D__law_word:Def l.prog w K mg base "_law_word" 1 yC (spF K 0 oW):=h__law_word.df X G (Pu h__law_word.fn B C V ) (fG h__law_word.fn (ps:=yC) rfl fun _ _ _ _ _ _ _=>rfl)
 have D__law_same:Def l.prog w K mg base "_law_same" 1 yF (spF K 0 sC):=h__law_same.df X G (Pg h__law_same.fn B C V ) (rD h__law_same.fn (ps:=yF) rfl fun _ _ _ _ _ _ _ _=>rfl)
 have D_is_number:Def l.prog w K mg base "is_number" 2 xY (spF K 0 yL):=h_is_number.df X G (Pb h_is_number.fn B C V D_is_whole) (fG h_is_number.fn (ps:=xY) rfl fun _ _ _ _ _ _ _=>rfl)
 have D_of_one_width:Def l.prog w K mg base "of_one_width" 2 vE (spF K 0 qI):=h_of_one_width.df X G (Qe h_of_one_width.fn B C V D_tables_of) (fG h_of_one_width.fn (ps:=vE) rfl fun _ _ _ _ _ _ _=>rfl)
 have D_stands_in:Def l.prog w K mg base "stands_in" 2 yD (spF K 0 uU):=h_stands_in.df X G (Ox h_stands_in.fn B C V D_names_of) (rD h_stands_in.fn (ps:=yD) rfl fun _ _ _ _ _ _ _ _=>rfl)
 have D_show_line:Def l.prog w K mg base "show_line" 2 yE (spF K 0 uW):=h_show_line.df X G (Oy h_show_line.fn B C V D_show_words) (fG h_show_line.fn (ps:=yE) rfl fun _ _ _ _ _ _ _=>rfl)
 have D_term_of:Def l.prog w K mg base "term_of" 2 xT (spF K 0 uH):=h_term_of.df X G (Lr h_term_of.fn B C V D_whole_of) (fG h_term_of.fn (ps:=xT) rfl fun _ _ _ _ _ _ _=>rfl)
 have D__law_names:Def l.prog w K mg base "_law_names" 2 uY (spF K 1 qH):=h__law_names.df X G (Pq h__law_names.fn B C V D__law_mix) (rD h__law_names.fn (ps:=uY) rfl fun _ _ _ _ _ _ _ _=>rfl)
 have D__law_term:Def l.prog w K mg base "_law_term" 2 yJ (spF K 0 sD):=h__law_term.df X G (Pm h__law_term.fn B C V D__law_mix) (rD h__law_term.fn (ps:=yJ) rfl fun _ _ _ _ _ _ _ _=>rfl)
 have D__law_text:Def l.prog w K mg base "_law_text" 2 yB (spF K 0 uV):=h__law_text.df X G (Oz h__law_text.fn B C V D__law_word) (fG h__law_text.fn (ps:=yB) rfl fun _ _ _ _ _ _ _=>rfl)
 have D_is_term:Def l.prog w K mg base "is_term" 3 xU (spF K 0 qF):=h_is_term.df X G (Nb h_is_term.fn B C V D_is_name D_is_number) (fG h_is_term.fn (ps:=xU) rfl fun _ _ _ _ _ _ _=>rfl)
 have D_show_alternative:Def l.prog w K mg base "show_alternative" 3 yZ (spF K 0 vG):=h_show_alternative.df X G (Ra h_show_alternative.fn B C V D_show_words D_show_line) (fG h_show_alternative.fn (ps:=yZ) rfl fun _ _ _ _ _ _ _=>rfl)
 have D_terms_of:Def l.prog w K mg base "terms_of" 3 uP (spF K 0 rX):=h_terms_of.df X G (Nt h_terms_of.fn B C V D_term_of) (fG h_terms_of.fn (ps:=uP) rfl fun _ _ _ _ _ _ _=>rfl)
 have D__law_tables:Def l.prog w K mg base "_law_tables" 3 yR (spF K 1 uX):=h__law_tables.df X G (Qh h__law_tables.fn B C V D__law_mix D__law_names) (rD h__law_tables.fn (ps:=yR) rfl fun _ _ _ _ _ _ _ _=>rfl)
 have D__law_lines:Def l.prog w K mg base "_law_lines" 3 yI (spF K 1 uZ):=h__law_lines.df X G (Pp h__law_lines.fn B C V D__law_cell D__law_mix D__law_term) (LN h__law_lines.fn (ps:=yI) rfl fun _ _ _ _ _ _ _ _ _ _ _=>rfl)
 have D_are_terms:Def l.prog w K mg base "are_terms" 4 uT (spF K 0 mV):=h_are_terms.df X G (Pj h_are_terms.fn B C V D_is_term) (Ae h_are_terms.fn (ps:=uT) rfl fun _ _ _ _ _ _ _ _ _=>rfl)
 have D_show_question:Def l.prog w K mg base "show_question" 4 vD (spF K 0 oX):=h_show_question.df X G (Qr h_show_question.fn B C V D_show_alternative) (fG h_show_question.fn (ps:=vD) rfl fun _ _ _ _ _ _ _=>rfl)
 have D_line_of:Def l.prog w K mg base "line_of" 4 xR (spF K 0 uF):=h_line_of.df X G (Mh h_line_of.fn B C V D_terms_of) (fG h_line_of.fn (ps:=xR) rfl fun _ _ _ _ _ _ _=>rfl)
 have D__law_alternative:Def l.prog w K mg base "_law_alternative" 4 yY (spF K 0 vF):=h__law_alternative.df X G (Qy h__law_alternative.fn B C V D__law_cell D__law_mix D__law_lines) (LN h__law_alternative.fn (ps:=yY) rfl fun _ _ _ _ _ _ _ _ _ _ _=>rfl)
 have D_is_line:Def l.prog w K mg base "is_line" 5 xQ (spF K 0 qE):=h_is_line.df X G (Mf h_is_line.fn B C V D_is_name D_is_pair D_are_terms) (fG h_is_line.fn (ps:=xQ) rfl fun _ _ _ _ _ _ _=>rfl)
 have D_alternative_of:Def l.prog w K mg base "alternative_of" 5 yW (spF K 0 vH):=h_alternative_of.df X G (Qu h_alternative_of.fn B C V D_terms_of D_line_of) (fG h_alternative_of.fn (ps:=yW) rfl fun _ _ _ _ _ _ _=>rfl)
 have D_are_lines:Def l.prog w K mg base "are_lines" 6 yK (spF K 0 qG):=h_are_lines.df X G (Pl h_are_lines.fn B C V D_is_line) (fG h_are_lines.fn (ps:=yK) rfl fun _ _ _ _ _ _ _=>rfl)
 have D_question_of:Def l.prog w K mg base "question_of" 6 yO (spF K 1 yQ):=h_question_of.df X G (Qi h_question_of.fn B C V D_alternative_of) (fG h_question_of.fn (ps:=yO) rfl fun _ _ _ _ _ _ _=>rfl)
 have D_is_alternative:Def l.prog w K mg base "is_alternative" 7 yX (spF K 0 nN):=h_is_alternative.df X G (Qv h_is_alternative.fn B C V D_is_pair D_of_one_width D_stands_in D_are_terms D_are_lines) (fG h_is_alternative.fn (ps:=yX) rfl fun _ _ _ _ _ _ _=>rfl)
 have D_is_question:Def l.prog w K mg base "is_question" 8 yP (spF K 0 sE):=h_is_question.df X G (Qk h_is_question.fn B C V D_of_one_length D_of_one_width D_is_alternative) (fG h_is_question.fn (ps:=yP) rfl fun _ _ _ _ _ _ _=>rfl)
 have D_read_by:DefX l.prog w K mg base "read_by" 9 xV (spX K 1 xS):=h_read_by.dfX X G (Lv h_read_by.fn B C V D_show_question D_question_of D_is_question) (Ap h_read_by.fn (ps:=xV) rfl fun _ _ _ _ _ _ _ _ _ _=>rfl)
 have D_read_question:DefX l.prog w K mg base "read_question" 10 yT (spX K 1 sF):=h_read_question.dfX X G (Qn h_read_question.fn B C V D_read_by) (fG h_read_question.fn (ps:=yT) rfl fun _ _ _ _ _ _ _=>rfl)
 exact(Ed (WH (st:=rJ) l_law c_law k_law) B C V D__law_cell D__law_mix D__law_same D__law_names D__law_text D__law_tables D_show_question D__law_alternative D_read_question).imp Dd
theorem walk {l:YG}{q:bQ}{loose:List aB}{XP:(aB->Option aE)->aW->Prop}{YP:bB->aW->Prop}{d:DefRec}{K:Params->aK}(hn:l.most=some 63)(hdf:d.params.defaults=[])
  (hY : ∀ (w:bB) (h:aW),YP w h->(K w.params).In h)
  (F : ∀ (w:bB) (mg:aB->Option aE) (fa:aD) (h:aW),(K w.params).In h->h.Ns cJ mg->mg d.name=some (.ref fa) ->
   ∃ fd:fX,(∀ (s:aG) (u:aE),BindsTo s fd ⟨[u],[]⟩ [("_law_script",u)]) /\ ∀ base:aW,(K w.params).In base->base.Ns cJ mg->FnOk l.prog w (K w.params) mg base CX0 11 fa fd ["_law_script"] (DK (K w.params))) :
  PySem.W.WalkO q loose XP YP l.row.toRowW d [] (fun f vs=>PySem.call f vs):=
 L2.Ba2 (n:=63) (k:=11) (x:="_law_script") (CX:=fun _=>CX0) (sp:=fun w=>DK (K w.params)) hn (by decide) hdf ⟨rfl,by decide,by decide⟩ hY F (fun _ _ a ns hl _ hS=>⟨a,ns,rfl,hS,hl,fun _=>rfl⟩) fun _ _ _ _ _ z=>z
end Aw
def PySem.W.Fast.tw18091057980205059035:=0
def PySem.W.Fast.tw10748816585233470279:=0
def PySem.W.Fast.tw5856752492200148470:=0
def PySem.W.Fast.tw14982108822267447992:=0
def PySem.W.Fast.tw6582027613961271244:=0
def PySem.W.Fast.tw10565654385037515626:=0
def PySem.W.Fast.tw12006123334253827851:=0
def PySem.W.Fast.tw1618465280637057935:=0
def PySem.W.Fast.tw2306335794202692360:=0
def PySem.W.Fast.tw940359488128228737:=0
def PySem.W.Fast.tw12170408808015893952:=0
def PySem.W.Fast.tw10549920443038962406:=0
def PySem.W.Fast.tw192592491207674418:=0
def PySem.W.Fast.tw17325907178478441547:=0
def PySem.W.Fast.tw2512293555434162567:=0
def PySem.W.Fast.tw15231812955685473963:=0
def PySem.W.Fast.tw9763983246781660573:=0
def PySem.W.Fast.tw17400987898645251428:=0
def PySem.W.Fast.tw10343276934194092404:=0
def PySem.W.Fast.tw11457418127071703480:=0
def PySem.W.Fast.tw13577898268317065286:=0
def PySem.W.Fast.tw17299954036807533720:=0
def PySem.W.Fast.tw16801764719990545483:=0
def PySem.W.Fast.tw14311654502950320417:=0
def PySem.W.Fast.tw6322366226545250890:=0
def PySem.W.Fast.tw17012558264026742462:=0
def PySem.W.Fast.tw3805614832464218845:=0
def PySem.W.Fast.tw16286173558276456452:=0
def PySem.W.Fast.tw6827635889728798680:=0
def PySem.W.Fast.tw8135036914890563185:=0
def PySem.W.Fast.tw10375848701353550192:=0
def PySem.W.Fast.tw11772927243880089500:=0
def PySem.W.Fast.tw12756962597939001158:=0
def PySem.W.Fast.tw1266568722862397998:=0
def PySem.W.Fast.tw12701026630278971250:=0
def PySem.W.Fast.tw7799203501829650472:=0
def PySem.W.Fast.tw3484736807268926297:=0
def PySem.W.Fast.tw3933754172365343455:=0
def PySem.W.Fast.tw6898914373833545075:=0
def PySem.W.Fast.tw222387851694187279:=0
def PySem.W.Fast.tw2826731109333963288:=0
def PySem.W.Fast.tw17846209833861641236:=0
def PySem.W.Fast.tw5975297737590202596:=0
def PySem.W.Fast.tw15979408705729834325:=0
def PySem.W.Fast.tw3073294665794399844:=0
def PySem.W.Fast.tw6358350819996567619:=0
def PySem.W.Fast.tw17001379206749840998:=0
def PySem.W.Fast.tw7397387468706753547:=0
def PySem.W.Fast.tw13674491491854728535:=0
def PySem.W.Fast.tw5928454048406075718:=0
def PySem.W.Fast.tw4456634131630046633:=0
def PySem.W.Fast.tw5604613724195172294:=0
def PySem.W.Fast.tw11712334152324359044:=0
def PySem.W.Fast.tw6747519126940905190:=0
def PySem.W.Fast.tw13621167463458016096:=0
def PySem.W.Fast.tw11112796814285019276:=0
def PySem.W.Fast.tw11582641433064766398:=0
def PySem.W.Fast.tw7493922882657401866:=0
def PySem.W.Fast.tw7567018796996988573:=0
def PySem.W.Fast.tw4404871649657003052:=0
def PySem.W.Fast.tw7027238157853712697:=0
def PySem.W.Fast.tw14008325148410501956:=0
def PySem.W.Fast.tw3161170334207244287:=0
def PySem.W.Fast.tw16665848496526226216:=0
def PySem.W.Fast.tw8969681695779420049:=0
def PySem.W.Fast.tw15067703752889191819:=0
def PySem.W.Fast.tw5635997635185836640:=0
def PySem.W.Fast.tw10992791186986353495:=0
def PySem.W.Fast.tw13235632522925409891:=0
def PySem.W.Fast.tw3155310032560350630:=0
def PySem.W.Fast.tw2678063961205353004:=0
def PySem.W.Fast.tw7377789401714608672:=0
def PySem.W.Fast.tw7663438222505829438:=0
def PySem.W.Fast.tw8584278880099816117:=0
def PySem.W.Fast.tw14987403027442666677:=0
def PySem.W.Fast.tw14903742233106950248:=0
def PySem.W.Fast.tw10640824470715964183:=0
def PySem.W.Fast.tw12080021327917032409:=0
def PySem.W.Fast.tw15383925966420278543:=0
def PySem.W.Fast.tw16928533256586098567:=0
def PySem.W.Fast.tw16929455945206736706:=0
def PySem.W.Fast.tw15286302861065061696:=0
def PySem.W.Fast.tw2006204772764092189:=0
def PySem.W.Fast.tw4628296567969586045:=0
def PySem.W.Fast.tw12867284552613612029:=0
def PySem.W.Fast.tw16439447182219755696:=0
def PySem.W.Fast.tw9321850362297494758:=0
def PySem.W.Fast.tw3680681267087796153:=0
def PySem.W.Fast.tw3529288698131972925:=0
def PySem.W.Fast.tw932122817336943821:=0
def PySem.W.Fast.tw15121411308836736501:=0
def PySem.W.Fast.tw2655977316476774876:=0
def PySem.W.Fast.tw1975090539238529119:=0
def PySem.W.Fast.tw5268703263881776478:=0
def PySem.W.Fast.tw10765364409776388284:=0
def PySem.W.Fast.tw12328965609446770695:=0
def PySem.W.Fast.tw18407887192662340421:=0
def PySem.W.Fast.tw17862850733135174591:=0
def PySem.W.Fast.tw8893561588380071512:=0
def PySem.W.Fast.tw3499985243623219282:=0
def PySem.W.Fast.tw8730233314156960109:=0
def PySem.W.Fast.tw13604628200903319537:=0
def PySem.W.Fast.tw14194724999401950102:=0
def PySem.W.Fast.tw9726400083560831554:=0
def PySem.W.Fast.tw4152477295009489672:=0
def PySem.W.Fast.tw17349453812782260978:=0
def PySem.W.Fast.tw16705427468105718514:=0
def PySem.W.Fast.tw12530318778692811254:=0
def PySem.W.Fast.tw472647619503125945:=0
def PySem.W.Fast.tw12206168605793115535:=0
def PySem.W.Fast.tw11638338611684867573:=0
def PySem.W.Fast.tw4235225333447065611:=0
def PySem.W.Fast.tw15353163685647133153:=0
def PySem.W.Fast.tw14740777828730326813:=0
def PySem.W.Fast.tw4177598319835563550:=0
def PySem.W.Fast.tw4730570422590487231:=0
def PySem.W.Fast.tw1724543920410097420:=0
def PySem.W.Fast.tw9057697400708395423:=0
def PySem.W.Fast.tw5145572368469927289:=0
def PySem.W.Fast.tw13303742890612675550:=0
def PySem.W.Fast.tw9359984790289721062:=0
def PySem.W.Fast.tw15661298903587032953:=0
def PySem.W.Fast.tw12379947910829596329:=0
def PySem.W.Fast.tw13141054490372608659:=0
def PySem.W.Fast.tw18262462440141376755:=0
def PySem.W.Fast.tw9485943955297169261:=0
def PySem.W.Fast.tw18154325057224459342:=0
def PySem.W.Fast.tw16701248197891178034:=0
def PySem.W.Fast.tw8658515269682242929:=0
def PySem.W.Fast.tw8948784325655084014:=0
def PySem.W.Fast.tw5153696973222926964:=0
def PySem.W.Fast.tw18388334332927148000:=0
def PySem.W.Fast.tw978488353573091884:=0
def PySem.W.Fast.tw13547497466587519856:=0
def PySem.W.Fast.tw13199260701572870512:=0
def PySem.W.Fast.tw8228042931014443871:=0
def PySem.W.Fast.tw11102350234767262505:=0
def PySem.W.Fast.tw13895501084386561681:=0
def PySem.W.Fast.tw15365841321471059229:=0
def PySem.W.Fast.tw6022993268245774549:=0
def PySem.W.Fast.tw10103557126105986202:=0
def PySem.W.Fast.tw1705934208632544356:=0
def PySem.W.Fast.tw12027313413717596759:=0
def PySem.W.Fast.tw18432581720322074883:=0
def PySem.W.Fast.tw7698531868507357386:=0
def PySem.W.Fast.tw1749131824905035428:=0
def PySem.W.Fast.tw9121410021734161060:=0
def PySem.W.Fast.tw540779170482594970:=0
def PySem.W.Fast.tw8419052798617060500:=0
def PySem.W.Fast.tw11331287825601437937:=0
def PySem.W.Fast.tw16893006389222554643:=0
def PySem.W.Fast.tw16793285204646578010:=0
def PySem.W.Fast.tw4228293065511911695:=0
def PySem.W.Fast.tw16006876569550631015:=0
def PySem.W.Fast.tw7386532076534861763:=0
def PySem.W.Fast.tw10524657078294922313:=0
def PySem.W.Fast.tw379279877443453358:=0
def PySem.W.Fast.tw5710300386948232603:=0
def PySem.W.Fast.tw3584282975450987246:=0
def PySem.W.Fast.tw12591407172321844436:=0
def PySem.W.Fast.tw11469101694023410897:=0
def PySem.W.Fast.tw9687968372274560475:=0
def PySem.W.Fast.tw4215049828292244224:=0
def PySem.W.Fast.tw5337542768808693956:=0
def PySem.W.Fast.tw10197259698297958106:=0
def PySem.W.Fast.tw4344707003751123218:=0
def PySem.W.Fast.tw972160601310914607:=0
def PySem.W.Fast.tw18254309356810737798:=0
def PySem.W.Fast.tw9453464327284802982:=0
def PySem.W.Fast.tw2353132485841366850:=0
def PySem.W.Fast.tw5224967993015592459:=0
def PySem.W.Fast.tw17196759608088397621:=0
def PySem.W.Fast.tw9688981619873370390:=0
def PySem.W.Fast.tw2643265833249911829:=0
def PySem.W.Fast.tw17583985362454161243:=0
def PySem.W.Fast.tw971272247332267713:=0
def PySem.W.Fast.tw11930241615016358547:=0
def PySem.W.Fast.tw17956608738757376461:=0
def PySem.W.Fast.tw2316431810412256937:=0
def PySem.W.Fast.tw2469922410062211239:=0
def PySem.W.Fast.tw7155702002948570642:=0
def PySem.W.Fast.tw15574055428818502203:=0
def PySem.W.Fast.tw13881258720065987928:=0
def PySem.W.Fast.tw12128632089350220368:=0
def PySem.W.Fast.tw7563672733236203028:=0
def PySem.W.Fast.tw17952229822324866343:=0
def PySem.W.Fast.tw10654202512195476152:=0
def PySem.W.Fast.tw1115609483693772262:=0
def PySem.W.Fast.tw522158812447931707:=0
def PySem.W.Fast.tw7687269661196146600:=0
def PySem.W.Fast.tw17274962928481039192:=0
def PySem.W.Fast.tw17610647528550051395:=0
def PySem.W.Fast.tw6549525814936961019:=0
def PySem.W.Fast.tw14077243506390848654:=0
def PySem.W.Fast.tw7112226621871522113:=0
def PySem.W.Fast.tw11669636656629608844:=0
def PySem.W.Fast.tw1902034237186446709:=0
def PySem.W.Fast.tw8111972884040751270:=0
def PySem.W.Fast.tw10748892415727054939:=0
def PySem.W.Fast.tw12726842290601509217:=0
def PySem.W.Fast.tw8004020868926778662:=0
def PySem.W.Fast.tw13599248261879825232:=0
def PySem.W.Fast.tw6873518261816693830:=0
def PySem.W.Fast.tw1345011436707155752:=0
def PySem.W.Fast.tw17265004372032500184:=0
def PySem.W.Fast.tw11448959877013822360:=0
def PySem.W.Fast.tw2202858482204791730:=0
def PySem.W.Fast.tw595275334864094393:=0
def PySem.W.Fast.tw3088960950131560147:=0
def PySem.W.Fast.tw13528342631572000879:=0
def PySem.W.Fast.tw8932535822732720822:=0
def PySem.W.Fast.tw18028255413169461892:=0
def PySem.W.Fast.tw4341554411670972926:=0
def PySem.W.Fast.tw5030614562216825077:=0
def PySem.W.Fast.tw10410450899731656708:=0
def PySem.W.Fast.tw12649664549680077583:=0
def PySem.W.Fast.tw15918475606937125830:=0
def PySem.W.Fast.tw10861126449950328423:=0
def PySem.W.Fast.tw15131870728682534661:=0
def PySem.W.Fast.tw9859655196236876016:=0
def PySem.W.Fast.tw9434535064517918211:=0
def PySem.W.Fast.tw2581445999382949431:=0
def PySem.W.Fast.tw15526656921057931951:=0
def PySem.W.Fast.tw6968952620006110008:=0
def PySem.W.Fast.tw4683721532259548216:=0
def PySem.W.Fast.tw115084916979835437:=0
def PySem.W.Fast.tw4974398388408294128:=0
def PySem.W.Fast.tw32959096761527822:=0
def PySem.W.Fast.tw17355678393622330718:=0
def PySem.W.Fast.tw1131376013071633772:=0
def PySem.W.Fast.tw9089809833505297561:=0
def PySem.W.Fast.tw8607756713266874913:=0
def PySem.W.Fast.tw14788887479609588383:=0
def PySem.W.Fast.tw6524569871210601583:=0
def PySem.W.Fast.tw16465250914079174096:=0
def PySem.W.Fast.tw6120408892787904509:=0
def PySem.W.Fast.tw4662394826084935:=0
def PySem.W.Fast.tw332061104625653287:=0
def PySem.W.Fast.tw15854521193039992168:=0
def PySem.W.Fast.tw14964903659096301823:=0
def PySem.W.Fast.tw15039784856322189459:=0
def PySem.W.Fast.tw4645294734510402561:=0
def PySem.W.Fast.tw9348447665214830519:=0
def PySem.W.Fast.tw6345148594446434610:=0
open PySem PySem.W PyProof.Rows
set_option maxRecDepth 100000 in
set_option maxHeartbeats 0 in
theorem PySem.Challenge.cw_askwithin_k63_questions_written_holds : PySem.Challenge.rw_askwithin_k63_questions_written.Holds := by
 w_on; o_law; k_head; (case hw=>w_witness2)
 k_fill
 refine Aw.walk (l:=PySem.Challenge.rw_askwithin_k63_questions_written) rfl rfl (fun w h Y=>PySem.W.kIn_of Y) ?F
 case F=>
  intro w mg fa h KX G hmg
  refine' Aw.all_mk KX G hmg (Aw.Ac4 ?a_is_whole ?l_is_whole ?c_is_whole ?k_is_whole) (Aw.Ac4 ?a_is_name ?l_is_name ?c_is_name ?k_is_name) (Aw.Ac4 ?a_is_pair ?l_is_pair ?c_is_pair ?k_is_pair) (Aw.Ac4 ?a_of_one_length ?l_of_one_length ?c_of_one_length ?k_of_one_length) (Aw.Ac4 ?a_names_of ?l_names_of ?c_names_of ?k_names_of) (Aw.Ac4 ?a_tables_of ?l_tables_of ?c_tables_of ?k_tables_of) (Aw.Ac4 ?a_show_words ?l_show_words ?c_show_words ?k_show_words) (Aw.Ac4 ?a_whole_of ?l_whole_of ?c_whole_of ?k_whole_of) (Aw.Ac4 ?a__law_cell ?l__law_cell ?c__law_cell ?k__law_cell) (Aw.Ac4 ?a__law_mix ?l__law_mix ?c__law_mix ?k__law_mix) (Aw.Ac4 ?a__law_word ?l__law_word ?c__law_word ?k__law_word) (Aw.Ac4 ?a__law_same ?l__law_same ?c__law_same ?k__law_same) (Aw.Ac4 ?a_is_number ?l_is_number ?c_is_number ?k_is_number) (Aw.Ac4 ?a_of_one_width ?l_of_one_width ?c_of_one_width ?k_of_one_width) (Aw.Ac4 ?a_stands_in ?l_stands_in ?c_stands_in ?k_stands_in) (Aw.Ac4 ?a_show_line ?l_show_line ?c_show_line ?k_show_line) (Aw.Ac4 ?a_term_of ?l_term_of ?c_term_of ?k_term_of) (Aw.Ac4 ?a__law_names ?l__law_names ?c__law_names ?k__law_names) (Aw.Ac4 ?a__law_term ?l__law_term ?c__law_term ?k__law_term) (Aw.Ac4 ?a__law_text ?l__law_text ?c__law_text ?k__law_text) (Aw.Ac4 ?a_is_term ?l_is_term ?c_is_term ?k_is_term) (Aw.Ac4 ?a_show_alternative ?l_show_alternative ?c_show_alternative ?k_show_alternative) (Aw.Ac4 ?a_terms_of ?l_terms_of ?c_terms_of ?k_terms_of) (Aw.Ac4 ?a__law_tables ?l__law_tables ?c__law_tables ?k__law_tables) (Aw.Ac4 ?a__law_lines ?l__law_lines ?c__law_lines ?k__law_lines) (Aw.Ac4 ?a_are_terms ?l_are_terms ?c_are_terms ?k_are_terms) (Aw.Ac4 ?a_show_question ?l_show_question ?c_show_question ?k_show_question) (Aw.Ac4 ?a_line_of ?l_line_of ?c_line_of ?k_line_of) (Aw.Ac4 ?a__law_alternative ?l__law_alternative ?c__law_alternative ?k__law_alternative) (Aw.Ac4 ?a_is_line ?l_is_line ?c_is_line ?k_is_line) (Aw.Ac4 ?a_alternative_of ?l_alternative_of ?c_alternative_of ?k_alternative_of) (Aw.Ac4 ?a_are_lines ?l_are_lines ?c_are_lines ?k_are_lines) (Aw.Ac4 ?a_question_of ?l_question_of ?c_question_of ?k_question_of) (Aw.Ac4 ?a_is_alternative ?l_is_alternative ?c_is_alternative ?k_is_alternative) (Aw.Ac4 ?a_is_question ?l_is_question ?c_is_question ?k_is_question) (Aw.Ac4 ?a_read_by ?l_read_by ?c_read_by ?k_read_by) (Aw.Ac4 ?a_read_question ?l_read_question ?c_read_question ?k_read_question) (Aw.Bhk ?a_law ?l_law ?c_law ?k_law)  ?y_NoText ?x_NoText ⟨?xga,?xgh,?xcl,?xmo,?xmb,?xic⟩ ?z_isinstance ?z_int ?z_bool ?z_abs ?z_range ?z_len ?z_str ?z_all ?z_any ?z_list ?z_tuple ?z_dict ?z_set ?z_sorted ?z_sum ?z_min ?z_max ?z_enumerate ?z_zip ?z_reversed ?z_ValueError ?g_LETTERS ?g_FIGURES ?g_MOST_SIGNS ?g_MOST_TERMS ?g_MOST_HEAD_TERMS ?g_MOST_LINES ?g_MOST_ALTERNATIVES ?g_MOST_FIGURES
  (case a_is_whole=>k_is); (case l_is_whole=>k_is); (case c_is_whole=>k_is); (case k_is_whole=>k_is)
  (case a_is_name=>k_is); (case l_is_name=>k_is); (case c_is_name=>k_is); (case k_is_name=>k_is)
  (case a_is_pair=>k_is); (case l_is_pair=>k_is); (case c_is_pair=>k_is); (case k_is_pair=>k_is)
  (case a_of_one_length=>k_is); (case l_of_one_length=>k_is); (case c_of_one_length=>k_is); (case k_of_one_length=>k_is)
  (case a_names_of=>k_is); (case l_names_of=>k_is); (case c_names_of=>k_is); (case k_names_of=>k_is)
  (case a_tables_of=>k_is); (case l_tables_of=>k_is); (case c_tables_of=>k_is); (case k_tables_of=>k_is)
  (case a_show_words=>k_is); (case l_show_words=>k_is); (case c_show_words=>k_is); (case k_show_words=>k_is)
  (case a_whole_of=>k_is); (case l_whole_of=>k_is); (case c_whole_of=>k_is); (case k_whole_of=>k_is)
  (case a__law_cell=>k_is); (case l__law_cell=>k_is); (case c__law_cell=>k_is); (case k__law_cell=>k_is)
  (case a__law_mix=>k_is); (case l__law_mix=>k_is); (case c__law_mix=>k_is); (case k__law_mix=>k_is)
  (case a__law_word=>k_is); (case l__law_word=>k_is); (case c__law_word=>k_is); (case k__law_word=>k_is)
  (case a__law_same=>k_is); (case l__law_same=>k_is); (case c__law_same=>k_is); (case k__law_same=>k_is)
  (case a_is_number=>k_is); (case l_is_number=>k_is); (case c_is_number=>k_is); (case k_is_number=>k_is)
  (case a_of_one_width=>k_is); (case l_of_one_width=>k_is); (case c_of_one_width=>k_is); (case k_of_one_width=>k_is)
  (case a_stands_in=>k_is); (case l_stands_in=>k_is); (case c_stands_in=>k_is); (case k_stands_in=>k_is)
  (case a_show_line=>k_is); (case l_show_line=>k_is); (case c_show_line=>k_is); (case k_show_line=>k_is)
  (case a_term_of=>k_is); (case l_term_of=>k_is); (case c_term_of=>k_is); (case k_term_of=>k_is)
  (case a__law_names=>k_is); (case l__law_names=>k_is); (case c__law_names=>k_is); (case k__law_names=>k_is)
  (case a__law_term=>k_is); (case l__law_term=>k_is); (case c__law_term=>k_is); (case k__law_term=>k_is)
  (case a__law_text=>k_is); (case l__law_text=>k_is); (case c__law_text=>k_is); (case k__law_text=>k_is)
  (case a_is_term=>k_is); (case l_is_term=>k_is); (case c_is_term=>k_is); (case k_is_term=>k_is)
  (case a_show_alternative=>k_is); (case l_show_alternative=>k_is); (case c_show_alternative=>k_is); (case k_show_alternative=>k_is)
  (case a_terms_of=>k_is); (case l_terms_of=>k_is); (case c_terms_of=>k_is); (case k_terms_of=>k_is)
  (case a__law_tables=>k_is); (case l__law_tables=>k_is); (case c__law_tables=>k_is); (case k__law_tables=>k_is)
  (case a__law_lines=>k_is); (case l__law_lines=>k_is); (case c__law_lines=>k_is); (case k__law_lines=>k_is)
  (case a_are_terms=>k_is); (case l_are_terms=>k_is); (case c_are_terms=>k_is); (case k_are_terms=>k_is)
  (case a_show_question=>k_is); (case l_show_question=>k_is); (case c_show_question=>k_is); (case k_show_question=>k_is)
  (case a_line_of=>k_is); (case l_line_of=>k_is); (case c_line_of=>k_is); (case k_line_of=>k_is)
  (case a__law_alternative=>k_is); (case l__law_alternative=>k_is); (case c__law_alternative=>k_is); (case k__law_alternative=>k_is)
  (case a_is_line=>k_is); (case l_is_line=>k_is); (case c_is_line=>k_is); (case k_is_line=>k_is)
  (case a_alternative_of=>k_is); (case l_alternative_of=>k_is); (case c_alternative_of=>k_is); (case k_alternative_of=>k_is)
  (case a_are_lines=>k_is); (case l_are_lines=>k_is); (case c_are_lines=>k_is); (case k_are_lines=>k_is)
  (case a_question_of=>k_is); (case l_question_of=>k_is); (case c_question_of=>k_is); (case k_question_of=>k_is)
  (case a_is_alternative=>k_is); (case l_is_alternative=>k_is); (case c_is_alternative=>k_is); (case k_is_alternative=>k_is)
  (case a_is_question=>k_is); (case l_is_question=>k_is); (case c_is_question=>k_is); (case k_is_question=>k_is)
  (case a_read_by=>k_is); (case l_read_by=>k_is); (case c_read_by=>k_is); (case k_read_by=>k_is)
  (case a_read_question=>k_is); (case l_read_question=>k_is); (case c_read_question=>k_is); (case k_read_question=>k_is)
  (case a_law=>k_is); (case l_law=>k_is); (case c_law=>k_is); (case k_law=>k_is)
  (case y_NoText=>k_is); (case x_NoText=>k_exc); (case xga=>k_is); (case xgh=>k_is); (case xcl=>k_is); (case xmo=>k_is); (case xmb=>k_is); (case xic=>k_is)
  (case z_isinstance=>k_is); (case z_int=>k_is); (case z_bool=>k_is); (case z_abs=>k_is); (case z_range=>k_is); (case z_len=>k_is); (case z_str=>k_is); (case z_all=>k_is); (case z_any=>k_is); (case z_list=>k_is); (case z_tuple=>k_is); (case z_dict=>k_is); (case z_set=>k_is); (case z_sorted=>k_is); (case z_sum=>k_is); (case z_min=>k_is); (case z_max=>k_is); (case z_enumerate=>k_is); (case z_zip=>k_is); (case z_reversed=>k_is); (case z_ValueError=>k_is)
  (case g_LETTERS=>k_is); (case g_FIGURES=>k_is); (case g_MOST_SIGNS=>k_is); (case g_MOST_TERMS=>k_is); (case g_MOST_HEAD_TERMS=>k_is); (case g_MOST_LINES=>k_is); (case g_MOST_ALTERNATIVES=>k_is); (case g_MOST_FIGURES=>k_is)
