import PyProof.Rows.All
import Wide.All
import OpenK.AllK
import Wide.FinOn
import Lean
import PyProof.EqAt
import PyProof.EqKinds
import PyProof.TupleCall
import PyProof.TupleOfStr
import PyProof.ListStr
import PyProof.ZipIter
import PyProof.TupleIter
import PyProof.EnumMake
import PyProof.ListRange
import PyProof.AttrMissHeap
import KE.KSortTup
import PyProof.Rows.SortShellK
import PyProof.SetKind
import PyProof.Rows.SetFrom
import PyProof.AutoListH
import PyProof.ListNew
import PyProof.FactsAll.list_2
import PyProof.CollectWalk
import PyProof.MeetsSeq2
import PyProof.FactsAll.list_4
import PyProof.AutoSeq1
import PyProof.ConsumeWalk
import PyProof.IsRules
import PyProof.WalksMore
import PyProof.SeqI3
import PyProof.MeetsDictList
import PyProof.DictItemsLoops
import PySem.Builtin.SmallTypes.W2All
import PyProof.ListMulRoad
import PyProof.Rows.SeqMore
import PyProof.FactsAll.tuple_2
import PyProof.StrOps2
import PySem.Challenge.RW_askwithin_k28_thinned_along_a_tree
open PySem renaming PyData->aA,Addr->aC,Value->aD,Str->aE,wpAny_bind->aF,Shared->aH,wpAny_pure->aL,wpAny->aM,model->aO,Heap->aQ,Expr->aR,World->aX,Obj->bB,Program->bG,starEach->bJ,eval->bK,Pos->bQ,Stmt->bS,Around->bW,Paired->cN,SetTable->dJ,rawInt->dZ,mainGlobals->eM,wpAny_holding->fA,backTo->fY,wpAny_call_entry->gH,compareOp->gU,pyNext->iA,FuncData->iE,sysModules->iL,assignEach->iM,Scope->iN,wpAny_field->jE,wpAny_newObj_type->jZ,sizeLine_eq->kA,codeAny->kB,wpAny_seqItems->kO,swapsWith->kP,codeAny_builtin->kQ,binaryOp->kR,wpAny_mono->lG,assign->lH,Spec->lM,NameKind->lO,Keyword->lT,wpAny_callSpecial?_slot->mG,pyIter->nH,holding->nJ,bootBuiltins->nK,ReadsAll->nL,Reads->nM,wpAny_typeOf->oI,wpAny_setState_of->oJ,wpAny_rule->oK,plainId_quiet->oM,merged->oO,IsPart->oV,IsPair->oW,wpAny_setField_rec->pS,wpAny_ite_split->pT,wpAny_isInstance->pU,storedH->pV,intKind->pW,getItem->pX,atKey->pZ,Result->qB,GenState->qI,DictEntry->qK,wpAny_setEntries_of->rH,isSubtype_type->rJ,foldedSetIterable->rK,entryFor->rL,attributeBase->rM,wpAny_specialOf->tX,wpAny_attempt->tY,stored->tZ,argsOk->uA,wpAny_passesOwn->wO,wpAny_of_eq->wQ,wpAny_askSetting->wR,typeLookup_type->wU,relabel->wV,keywordEach->wW,callerA->wX,builtinLookup_eq_fast->wY,behindInMarks->wZ,backToKw->xA,wpAny_newList->AV,wpAny_forIn_list->AW,codeAny_mono->AX,bindArgs->AY,PassesOwn->BD,wpAny_updateSeq->GC,wpAny_pyIter_slot->GD,wpAny_pyIter_list->GE,wpAny_letGo->GF,updateSeq->GG,typeLookup->GH,ofAClassStatement->GI,intKind_is->GJ,entryFor_alias->GK,mem_of_lookup->GN,wpAny_typeNameOf_keyiter->PK,wpAny_typeNameOfWhole_keyiter->PM,wpAny_truthy_bool->PN,wpAny_throw->PP,wpAny_storeSet_of->PQ,wpAny_setField->PR,wpAny_onRaise->PU,wpAny_handled->PV,wpAny_fieldsOf->PX,wpAny_execs_nil->PY,wpAny_dictEntries->PZ,subscripted->QA,signature?_of->QD,letOwnedTupleGo->QE,isSubtype_stop->QF,firstArgMember->QG,entryFor_of_tree->QI,call_meetsIn->QJ,Slot->QO,wpAny_updateSeq_pair->Hy,wpAny_setEpoch_of->Hz,wpAny_Call_Name_kw->Ia,noFill_tuple_add->Ib,codeAny_call_builtin->Ic,SetTable->Im
open PySem.W renaming Frag->aJ,nsIn->jB,mg_none_of->lJ,fnOf->lL,kia_one->mH,keepIn->uC,codeIn->AZ,mg_of->Ie,lookIn->Ig,kitx_list->Ih,kitx_dict->Ii,kitOne->Ij,instObj->Ik,OpenLaw->Il
open PySem.PyData renaming int->aT,eqv->bX,tuple->cL,canLay0->cM,depthAll->cP,str->dP,depth->jN,bool->jO,list->oP,eqvAll->BB,canLayAll0->BC,strOk->QP
open Nat renaming le_refl->bD,ne_of_lt->cQ,le_trans->dA,zero_le->eD,lt_of_lt_of_le->iO,lt_irrefl->kS,ne_of_gt->mI,le_of_lt->oQ,le_succ->rP,pow_succ->xE,lt_of_le_of_lt->xF,mul_assoc->BH,mod_lt->BI,lt_trichotomy->BJ,lt_succ_of_lt->BK,lt_or_ge->BL,mul_le_mul->GS,mul_add->GT,lt_trans->GU,mul_mul_mul_comm->QT,mul_comm->QU,min_eq_left->QV,le_add_right->QW,add_zero->QX,add_assoc->QY,mul_left_comm->Ja,lt_succ_self->Jb,le_mul_of_pos_right->O5
open List renaming mem_cons_self->bE,mem_cons_of_mem->bH,mem_map->bL,mem_singleton->cB,length_map->cD,range->cK,mem_cons->cO,getElem?_eq_some_iff->cX,map_cons->dB,map_map->dS,size_toArray->dU,all_eq_true->dW,getElem?_map->eE,mem_of_getElem?->eU,length_cons->fE,find?_cons->fF,getElem?_eq_getElem->fO,mem_range->gW,toArray->iB,mem_append->iC,getD_eq_getElem?_getD->iD,mem_flatten->jP,nodup_cons->kC,foldl_cons->kT,getElem_mem->lQ,getElem?_set_ne->mJ,filter_eq_self->mK,map_congr_left->nN,lookup_cons->nO,flatten_cons->nP,mem_append_right->oR,length_take->oT,length_append->oU,pairwise_map->qC,nodup_append->qE,map_append->qF,getElem?_set_self->qG,append_nil->qH,take_length->rQ,mem_filterMap->rR,getElem_of_mem->rS,foldl_append->rT,take_add_one->uE,mem_filter->uF,flatten_append->uG,zipWith->xG,length_zip->xH,length_filterMap_le->xI,getElem?_eq_none->xJ,getElem?_append_left->xK,find?_eq_none->xM,eraseIdx_cons_succ->xN,any_eq_true->xO,any_cons->xP,replicate->BM,not_mem_nil->BN,nodup_range->BO,cons_lt_cons_iff->BP,nodup_nil->GV,mem_iff_getElem?->GW,length_set->GX,length_range->GY,findSome?_cons->GZ,find?_some->HA,perm_ext_iff_of_nodup->RC,pairwise_iff_getElem->RD,mem_of_find?_eq_some->RE,mem_flatMap->RF,map_id->RG,length_singleton->RH,length_filter_le->RI,getElem_zip->RJ,getElem_map->RK,getElem?_append_right->RL,forIn_cons->RM,filterMap_cons->RN,ext_getElem->RO,eq_nil_of_length_eq_zero->RP,Nodup->RT,zip_cons_cons->Jc,take_append_drop->Jd,of_mem_zip->Je,mergeSort_perm->Jf,mem_of_mem_take->Jg,mem_iff_getElem->Jh,length_erase_of_mem->Ji,length_eq_zero_iff->Jj,length_drop->Jk,getElem?_drop->Jl,getElem?_cons_succ->Jm,forIn_nil->Jn,drop_eq_getElem_cons->Jo,contains_iff_mem->Jp,cons_append->Jq,append_assoc->Jr,pairwise_mergeSort->O6,getElem?_take_of_lt->O7,findIdx?_eq_some_iff_getElem->O8,findIdx?_eq_none_iff->O9,filter_cons_of_pos->P1,filter_cons_of_neg->P3,filterMap_cons_some->P4,exists_of_findSome?_eq_some->P5
open Option renaming bind_some->bM,map_eq_some_iff->fZ,map_some->xC,isSome_iff_exists->xD,map_eq_none_iff->QQ,isSome_map->QR
open PySem.Heap renaming get?_push_of_some->bT,lt_size->bU,get?_push_size->cV,SameBut->mL,get?_update_self->rV,size_push->uI,get?_update_other->xQ,get?_push_ne->RU,ExtBut->RV
open Or renaming inr->bY,inl->cF
open PySem.Value renaming ref->eI,none->eJ,type->jM,int->rN,str->uB
open Option.some renaming inj->eO,injEq->GR
open Array renaming length_toList->fC,getElem?_eq_getElem->mO,getElem?_toList->nU,getElem?_eq_some_iff->uL,toList_filterMap->SI,getD_eq_getD_getElem?->SJ,forIn_toList->SK,toList_push->Kf,toList_inj->Kg,getElem?_eq_none->Kh,perm_iff_toList_perm->Q0
open PyProof.Rows renaming seqObj->fN,envOfC->pY,AllBare->rW,boot_tuple->uD,IntsAre->uH,callWith_type1->GO,boot_list->GP,boot_dict->GQ,slot_tuple_getitem->QB,slot_list_sort->QC,entry_list_sort->QH,args_list_sort->QK,slot_tuple_getitem->Iy,boot_sorted->Iz,mulOk_of_bits->O4
open PySem.NameKind renaming free->gA
open PySem.PassesOwn renaming never->gJ
open PySem.Obj renaming mapSeq->gK,putSet->BE,data_mapFields->QS
open Ne renaming symm->gV
open Sum renaming inr->jA,inl->rO
open Bool renaming false_eq_true->jC,and_eq_true_iff->jQ,eq_iff_iff->lV,false_ne_true->mN,and_eq_true->xS,true_and->BW,not_true->HG,and_self->SH
open PySem.Paired renaming length->jF
open PySem.Builtin.Int renaming intBits->mM
open PySem.Around renaming under_plainId->mP
open Int renaming toNat_natCast->nQ,ofNat->oX,natCast_mul->Jv,eq_ofNat_of_zero_le->Jw
open True renaming intro->qA
open False renaming elim->qJ
open PySem.F renaming called_set->uJ,slot_tuple_hash->HC,slot_dict_keyiterator_next->HD,slot_zip_next->RW,slot_tuple_iterator_next->RX,slot_list_reversed->RY,slot_tuple_add->Io,slot_dict_setdefault->Ip,slot_dict_get->Iq,plainAttrs_list->Ir,plainAttrs_dict->Iu,entry_tuple_add->Iv,args_tuple_add_2->Iw,slot_list_getattribute->Jx,type_dict_setdefault->O0,slot_list_index->O1,args_dict_get_3->O3,slot_dict_itemiterator_iter->P6,entry_dict_keyiterator_next->P7,args_dict_keyiterator_next_1->P8
open PySem.Builtin.SmallTypes renaming nextOf->uK,ownedTupleIsFree->Kb,ownedTupleHandOut->P9
open PySem.SetTable renaming fill->xB,grown->GL,fresh->GM,tooFull->QN
open PySem.Heap.SameBut renaming update->xR
open PySem.PyData.tuple renaming inj->BA
open ForInStep renaming yield->BQ
open PyProof.Rows.F renaming plain_set_update_loop->BR,entry_set_update_loop->RZ
open PySem.Expr renaming Call->BS
open PySem.Builtin.Tuple renaming tupleHashOf->BU,tupleExact->SB,tupleItemsOf->Ka
open PySem.Builtin.List renaming listExtendWith->BV,listSameRef->SE,listLengthHint->Ke
open List.Nodup renaming length_le_of_subset->HB,sublist->Ju
open PySem.Calls renaming call_function_entry->HE,spliced_cons->Jz
open PySem.Builtin.Str renaming strSliceIndices->HF,occurrences->SC
open Array.Perm renaming refl->HH
open String renaming splitOnAux->QL,splitOn->QM
open PySem.Moved renaming trans->QZ
open PySem.MeetsSeq renaming plain_index_loop->RA,EqGives->RB
open List.Perm renaming refl->RQ,eq_of_pairwise->Jt
open List.Pairwise renaming imp_of_mem->RS
open Classical renaming byContradiction->SA,choose_spec->Jy
open PySem.Builtin.Slice renaming slicePlaces->SD,sliceAdjust->Kc
open PySem.Builtin.Frozenset renaming sizeOf->SG
open List.Sublist renaming refl->Js
theorem ao {α β:Type}{x:Option α}{f:α->Option β}{b:β}(h:x.bind f=some b) : ∃ a,x=some a/\f a=some b:=Option.bind_eq_some_iff.1 h
set_option Elab.async false
set_option bootstrap.genMatcherCode false
set_option genSizeOfSpec false
set_option linter.all false
set_option maxRecDepth 100000
set_option exponentiation.threshold 2000
set_option hygiene false in
local macro_rules|`(tactic|rw[0])=>`(tactic|decide +kernel)
set_option hygiene false in
local macro_rules|`(tactic|rw[900])=>`(tactic|exact⟨rfl,rfl,rfl,by decide +kernel,rfl,by decide +kernel,by decide +kernel⟩)
set_option hygiene false in
local macro_rules | `(tactic| sleep 0)=>`(tactic| repeat' first|exact cI _|exact WG|exact iJ|exact IK|exact Px|exact WQ|exact So|exact kL|exact Ru|exact UG|refine gG ?_ ?_|((with_reducible show DF _ _ _ (ai ar _ _));refine Nk hv ?_ ?_ (λ_ _=>rfl))|((with_reducible show DF _ _ _ (ai dC _ _));refine Pk ?_ ?_)|((with_reducible show DF _ _ _ (ai cY _ _));refine Ol ?_ ?_)|((with_reducible show DF _ _ _ (ai fL _ _));refine Rn ?_ ?_)|((with_reducible show DF _ _ _ (aN cJ _));refine tM Zk D8 rfl B.len PySem.boot_len ?_)|refine yP (by assumption) (hr.mono (by decide)) rfl ?_|((with_reducible show DT _ _ (aw (ai qg _ _)));refine iW (Rh hu) Nx ?_ ?_ (kZ _))|((with_reducible show DT _ _ (aw (ai ir _ _)));refine iW (OQ hu) WR ?_ ?_ (kZ _))|((with_reducible show DT _ _ (aw (ai xh _ _)));refine iW UD UX ?_ ?_ (kZ _))|((with_reducible show DT _ _ (aw (ai yj _ _)));refine iW (Bi2.or By) WB ?_ ?_ (kZ _))|((with_reducible show DT _ _ (aw (ai (pv true) _ _)));refine iW (NK hu) pI ?_ ?_ (kZ _))|((with_reducible show DT _ _ (aw (ai mR _ _)));refine iW Uj Wy ?_ ?_ (kZ _))|(with_reducible refine yV _ ?_)|refine cS ?_|refine cA ?_ ?_|refine mU _ _ nd rfl (by first|exact cF rfl|exact bY rfl) ?_|refine kH _ ?_ ?_ ?_|refine LJ _ _ ?_|refine jV _ ?_|exact Rm nd rfl (by first|exact cF rfl|exact bY rfl)|exact Vk rfl nd rfl rfl (by first|exact cF rfl|exact bY rfl) (by first|exact cF rfl|exact bY rfl)|refine iX ?_|refine Be rfl B.range ?_|((with_reducible show DS _ _ _ _ _ (dD _ (bj _) _ _));refine lX gJ rfl ?_ ?_ ?_)|refine oE _ gJ rfl ?_ ?_ ?_|exact vD _|refine Sr ?_|refine JD _ ?_|refine Uc _ _ _ hv ?_ ?_|refine Ha _ _ _ ?_ ?_|refine Wl _ _ _ ?_ ?_|((with_reducible show DF _ _ _ (aN CK _));refine jY (N7 rfl) Zj rfl B.list GP ?_)|((with_reducible show DF _ _ _ (aN nX _));refine jY (j9 rfl) K8 rfl B.list GP ?_)|refine VA ?_ ?_|refine Tz ?_ ?_|refine Nh ?_ ?_|refine Qj ?_ ?_|refine D9 ?_ ?_|refine df_cat ?_ ?_|refine Sq ?_ ?_|refine jY tV tQ rfl B.tuple uD ?_|refine GB (T:="str") rfl B.isinstance rfl B.str PyProof.Rows.boot_str (by decide) ?_|refine yK ?_|refine CV ?_|refine WT ?_|refine VN ?_|refine Rb ?_|refine Re ?_|refine Sm hv ?_ ?_ ?_|refine Pi ?_ ?_ ?_|refine Lz ?_ ?_ ?_|refine fW (n:=1) ?_)
noncomputable section
set_option hygiene false in
local macro_rules
|`(tactic|rw[1])=>`(tactic|(
 have hu:=dG hr;have hv:=dH hr))
|`(tactic|rw[2])=>`(tactic|(
 obtain⟨d,e,rfl⟩:=this;exact e))
|`(tactic|rw[3])=>`(tactic|(
 intro X hP hw hK hc i ah s Z H E I hf st hg;subst hP hw hK))
|`(tactic|rw[4])=>`(tactic|intro ah s Z H x y v u Q I rx ry h)
|`(tactic|rw[5])=>`(tactic|intro ah s Z H xs us Q I r h)
|`(tactic|rw[6])=>`(tactic|obtain⟨P,Y,d,hP,rs,ef,k⟩:=gh)
|`(tactic|rw[7])=>`(tactic|(
 obtain⟨u,rfl,ru⟩:=vals1 r;cases ru))
|`(tactic|rw[8])=>`(tactic|obtain⟨B0,Y,fp,o,S,ef,k⟩:=gh)
|`(tactic|rw[9])=>`(tactic|(
 obtain⟨v,rfl,r'⟩:=fV r;replace r:=r'))
|`(tactic|rw[10])=>`(tactic|(
 refine aF (oJ S.get S.data S.fine.fits ?_);dsimp only))
|`(tactic|rw[11])=>`(tactic|(
 have:p3=p:=by rw[h1] at q1;cases q1;rfl
 subst this))
|`(tactic|rw[12])=>`(tactic|refine dR rfl ?_)
set_option hygiene false in
local macro_rules
|`(tactic|rw[13])=>`(tactic|rcases cO.1 m with rfl|m)
|`(tactic|rw[14])=>`(tactic|intro ah s Z H Q I h)
|`(tactic|rw[15])=>`(tactic|obtain⟨f0,f1,f2,f3,f4,f5⟩:=hf it (by simp))
|`(tactic|rw[16])=>`(tactic|obtain⟨B0,Y,fp,o,S,ef,kk⟩:=gh)
|`(tactic|rw[17])=>`(tactic|obtain⟨d,e1,ef⟩:=ao ef)
|`(tactic|rw[18])=>`(tactic|dsimp only)
|`(tactic|rw[19])=>`(tactic|subst this)
|`(tactic|rw[20])=>`(tactic|refine aF ?_)
|`(tactic|rw[21])=>`(tactic|intro ah s Z H D I h)
|`(tactic|rw[22])=>`(tactic|by_cases hj:j=Y.length)
|`(tactic|rw[23])=>`(tactic|constructor)
open Option renaming some->aa,none->ae
open Bool renaming true->af,false->ag
namespace L2
open PySem PySem.Spec PyProof.Rows
variable {h h' base:aQ}{v u:aD}{ks:List aA}{a b C dx:aC}{xs:List (List aA×aC×aD)}{us:List aD}{x:aE}{o:bB}{t' i k ep:Nat}{ch fp:List aC}{e c tg:aR}{M:Model}{A:bW}{E Q:aD->aH->Prop}{s' s:aH}{pos p:bQ}{ah:List (aC×bB)}{K:aJ}{f:aD->aD->Sem aD}{es:List aR}{body:List bS}{op:CmpOp}{mg:aE->Option aD}{ps:List aE}{kindOf:aE->Option lO}{prog:bG}
instance decEqData:DecidableEq aA:=λa b=>Classical.propDecidable (a=b)
mutual
def bF:aA->Bool
 |.int _=>af
 |.str x=>cM (.str x)
 |.tuple ds=>bO ds
 |_=>ag
def bO:List aA->Bool
 |[]=>af
 |d::r=>bF d&&bO r
end
mutual
theorem KJ:∀ d:aA,bF d=af->d.canLay0=af
 |.int _,_=>by simp[cM]
 |.str x,h=>by simpa [bF] using h
 |.tuple ds,h=>by
  simp only[cM];exact Bi ds (by simpa [bF] using h)
 |.none,h=>by simp[bF] at h
 |.bool _,h=>by simp[bF] at h
 |.list _,h=>by simp[bF] at h
 |.dict _,h=>by simp[bF] at h
theorem Bi:∀ ds:List aA,bO ds=af->BC ds=af
 |[],_=>by simp[BC]
 |d::r,h=>by
  have h':bF d=af/\bO r=af:=by simpa [bO] using h
  simp only[BC,KJ d h'.1,Bi r h'.2,SH]
end
mutual
theorem KB:∀ x y:aA,bF x=af->bF y=af->bX x y=decide (x=y)
 |.int i,.int j,_,_=>by
  by_cases e:i=j
  .subst e;simp[bX]
  .have:¬ aT i=.int j:=λq=>e (PyData.int.inj q)
   simp[bX,e]
 |.str i,.str j,_,_=>by
  by_cases e:i=j
  .subst e;simp[bX]
  .simp[bX,e]
 |.tuple xs,.tuple ys,h1,h2=>by
  have e:=zP xs ys (by simpa [bF] using h1) (by simpa [bF] using h2)
  simp only[bX,e];by_cases q:xs=ys
  .subst q;simp
  .have:¬ cL xs=.tuple ys:=λz=>q (BA z)
   rw[decide_eq_false q,decide_eq_false this]
 |.int _,.str _,_,_=>by simp[bX]
 |.int _,.tuple _,_,_=>by simp[bX]
 |.str _,.int _,_,_=>by simp[bX]
 |.str _,.tuple _,_,_=>by simp[bX]
 |.tuple _,.int _,_,_=>by simp[bX]
 |.tuple _,.str _,_,_=>by simp[bX]
 |.none,_,h,_=>by simp[bF] at h
 |.bool _,_,h,_=>by simp[bF] at h
 |.list _,_,h,_=>by simp[bF] at h
 |.dict _,_,h,_=>by simp[bF] at h
 |.int _,.none,_,h=>by simp[bF] at h
 |.int _,.bool _,_,h=>by simp[bF] at h
 |.int _,.list _,_,h=>by simp[bF] at h
 |.int _,.dict _,_,h=>by simp[bF] at h
 |.str _,.none,_,h=>by simp[bF] at h
 |.str _,.bool _,_,h=>by simp[bF] at h
 |.str _,.list _,_,h=>by simp[bF] at h
 |.str _,.dict _,_,h=>by simp[bF] at h
 |.tuple _,.none,_,h=>by simp[bF] at h
 |.tuple _,.bool _,_,h=>by simp[bF] at h
 |.tuple _,.list _,_,h=>by simp[bF] at h
 |.tuple _,.dict _,_,h=>by simp[bF] at h
theorem zP:∀ xs ys:List aA,bO xs=af->bO ys=af->BB xs ys=decide (xs=ys)
 |[],[],_,_=>by simp[BB]
 |[],_::_,_,_=>by simp[BB]
 |_::_,[],_,_=>by simp[BB]
 |x::xs,y::ys,h1,h2=>by
  have h1':bF x=af/\bO xs=af:=by simpa [bO] using h1
  have V1:bF y=af/\bO ys=af:=by simpa [bO] using h2
  simp only[BB,KB x y h1'.1 V1.1,zP xs ys h1'.2 V1.2];by_cases e:x=y
  .subst e;by_cases q:xs=ys
   .subst q;simp
   .simp[q]
  .simp[e]
end
mutual
def dE (w:aX):aA->Int
 |.int i=>hashInt i
 |.str x=>hashStr w x
 |.tuple ds=>reduceHash (BU (kY w ds))
 |_=>0
def kY (w:aX):List aA->List Int
 |[]=>[]
 |d::r=>dE w d::kY w r
end
mutual
def qX:aA->Nat
 |.tuple ds=>oB ds+1
 |_=>1
def oB:List aA->Nat
 |[]=>0
 |d::r=>qX d+oB r
end
theorem Ed (a b:List aA):oB (a++b)=oB a+oB b:=by
 induction a with
 |nil=>simp[oB]
 |cons x r ih=>simp only[Jq,oB,ih];omega
theorem Em (w:aX)(a b:List aA):kY w (a++b)=kY w a++kY w b:=by
 induction a with
 |nil=>rfl
 |cons x r ih=>simp only[Jq,kY,ih]
section
variable {w:aX}
theorem oH{as:List aC}(r:nM h v (.tuple ks) as):∃ a o vs n,v=.ref a/\h.get? a=aa o/\o.cls=.type "tuple" /\ o.data=.seq vs n/\nL h vs.toList ks as:=by
 cases r with
 |tuple h1 h2 h3 h4=>exact⟨_,_,_,_,rfl,h1,h2,h3,h4⟩
mutual
theorem Dc:∀ (d:aA) {A:bW} {E:aD->aH->Prop} {s:aH} {v:aD} {as:List aC} {Q:Int->aH->Prop},A.units+d.depth<cLine->bF d=af->nM s.heap v d as ->
  Q (dE w d) { s with toks:=s.toks+qX d }->aM (aO prog w) A (pyHash v) Q E s
 |.int i,A,E,s,v,as,Q,hu,hk,r,h=>by
  cases r with
  |int _ t=>exact wpAny_pyHash_int (by simpa [dE,qX] using h)
 |.str x,A,E,s,v,as,Q,hu,hk,r,h=>by
  cases r with
  |str _ t=>exact wpAny_pyHash_str (by simpa [dE,qX] using h)
 |.tuple ks,A,E,s,v,as,Q,hu,hk,r,h=>by
  obtain⟨a,o,aj,n,rfl,ho,hc,hd,hi⟩:=oH r;have hT:s.TypeIs (.ref a) "tuple":=⟨o,ho,hc⟩;have xl:A.units+(cP ks+1)<cLine:=by simpa [jN] using hu
  unfold pyHash
  first|unfold pyHashByItsType|skip
  first|refine aF (wpAny_cRoomFor_or (.inr (by omega)) ?_)|skip
  refine aF (tX hT HC.lookup ?_);rw[if_neg (by rw[beq_builtin_none];exact mN)]
  refine aF (tX hT HC.lookup ?_);refine aF (wpAny_callSpecialIfBoundUnlessNone?_slot hT HC (gH HC hT F.entry_tuple_hash ?_ (F.args_tuple_hash_1 _)));show aM _ _ (Ka (.ref a)>>=_) _ _ s;refine aF (wpAny_tupleItemsOf ho hd ?_);rw[20];rw[<-SK];refine AW _
   (λrest (b:Array Int) s'=>∃ done left bs,ks=done++left/\nL s.heap rest left bs/\b.toList=kY w done/\s'={ s with toks:=s.toks+oB done })
   _ ?_ ?_ _ _ ⟨[],ks,as,rfl,hi,rfl,rfl⟩
  .rintro x rest b s' ⟨done,left,bs,e,hl,hb,rfl⟩;cases hl with
   |@cons _ _ d ds as1 KK h1 wz=>
    have hm:d∈ks:=by rw[e];exact oR _ bE
    have dz:bO ks=af:=by simpa [bF] using hk
    refine aF (Du ks hm (by
     have:A.in1.units=A.units+1:=rfl;omega) dz h1 ?_)
    first
     |exact aL ⟨done++[d],ds,KK,by simp[e],wz,by simp[hb,Em,kY],by simp[Ed,oB,QY]⟩
     |exact aF (aL (aL ⟨done++[d],ds,KK,by simp[e],wz,by simp[hb,Em,kY],by simp[Ed,oB,QY]⟩))
  .rintro b s' ⟨done,left,bs,e,hl,hb,rfl⟩;cases hl;rw[qH] at e;subst e;show aM _ _ (retInt (BU b.toList)) _ _ _;rw[hb];refine wpAny_ret_mkInt ?_;show aM _ _ (if (decide (-(2:Int)^63<=BU (kY w ks))&&decide (BU (kY w ks)<2^63))=af then _ else _) Q E _
   simp only[dE,qX] at h;unfold reduceHash at h;by_cases hr:(decide (-(2:Int)^63<=BU (kY w ks))&&decide (BU (kY w ks)<2^63))=af
   .rw[if_pos hr];rw[if_pos hr] at h;exact aL (by simpa [QY] using h)
   .rw[if_neg hr];rw[if_neg hr] at h;exact aF (oK (aL (by simpa [QY] using h)))
 |.none,A,E,s,v,as,Q,hu,hk,r,h=>by simp[bF] at hk
 |.bool _,A,E,s,v,as,Q,hu,hk,r,h=>by simp[bF] at hk
 |.list _,A,E,s,v,as,Q,hu,hk,r,h=>by simp[bF] at hk
 |.dict _,A,E,s,v,as,Q,hu,hk,r,h=>by simp[bF] at hk
theorem Du:∀ (ks:List aA) {d:aA},d∈ks->∀ {A:bW} {E:aD->aH->Prop} {s:aH} {v:aD} {as:List aC} {Q:Int->aH->Prop},A.units+cP ks<cLine->bO ks=af->nM s.heap v d as ->
  Q (dE w d) { s with toks:=s.toks+qX d }->aM (aO prog w) A (pyHash v) Q E s
 |[],_,hm,_,_,_,_,_,_,_,_,_,_=>by simp at hm
 |k::ks,d,hm,A,E,s,v,as,Q,hu,hk,r,h=>by
  have dz:bF k=af/\bO ks=af:=by simpa [bO] using hk
  have xl:A.units+max k.depth (cP ks)<cLine:=by simpa [cP] using hu
  by_cases e:d=k
  .exact Dc k (by omega) dz.1 (e ▸ r) (by rw[<-e];exact h)
  .have yz:d∈ks:=by
    rcases cO.1 hm with q|q
    .exact absurd q e
    .exact q
   exact Du ks yz (by omega) dz.2 r h
end
end
section
variable {w:aX}
mutual
theorem FA:∀ (d:aA) (n:Nat) {A:bW} {E:aD->aH->Prop} {s:aH} {v:aD} {as:List aC} {Q:Bool->aH->Prop},d.depth<=n->bF d=af->nM s.heap v d as ->
  Q af s->aM (aO prog w) A (eqIsQuiet n v) Q E s
 |.int i,n,A,E,s,v,as,Q,hu,hk,r,h=>by
  cases r with
  |int _ t=>
   rw[eqIsQuiet_byValue n (by rfl)]
   exact aL h
 |.str x,n,A,E,s,v,as,Q,hu,hk,r,h=>by
  cases r with
  |str _ t=>
   rw[eqIsQuiet_byValue n (by rfl)]
   exact aL h
 |.tuple ks,n,A,E,s,v,as,Q,hu,hk,r,h=>by
  obtain⟨a,o,aj,m,rfl,ho,hc,hd,hi⟩:=oH r;have hT:s.TypeIs (.ref a) "tuple":=⟨o,ho,hc⟩;have xl:cP ks+1<=n:=by simpa [jN] using hu
  obtain⟨n,rfl⟩:∃ m,n=m+1:=⟨n-1,by omega⟩
  have dz:bO ks=af:=by simpa [bF] using hk
  unfold eqIsQuiet;refine aF (tX hT F.slot_tuple_eq.lookup ?_);refine aF (pU hT isSubtype_tuple_tuple ?_);simp only[HG,jC,if_false];refine aF (kO ho hd ?_);rw[20];rw[<-SK];refine AW _ (λrest r s'=>r.1=ae/\s'=s/\∃ ds bs,nL s.heap rest ds bs/\∀ d∈ds,d∈ks) _ ?_ ?_ _ _ ⟨rfl,rfl,ks,as,hi,λ_ h=>h⟩
  .rintro v rest r s' ⟨hr,rfl,ds,bs,hl,cv⟩;cases hl with
   |@cons _ _ d ds as1 KK h1 wz=>
    refine aF (Cr ks (cv d bE) n (by omega) dz h1 ?_)
    simp only[HG,jC,if_false];exact aL ⟨rfl,rfl,ds,KK,wz,λu LE=>cv u (bH _ LE)⟩
  .rintro⟨r1,r2⟩ s' ⟨hr,rfl,_⟩;simp only at hr;subst hr;exact aL h
 |.none,n,A,E,s,v,as,Q,hu,hk,r,h=>by simp[bF] at hk
 |.bool _,n,A,E,s,v,as,Q,hu,hk,r,h=>by simp[bF] at hk
 |.list _,n,A,E,s,v,as,Q,hu,hk,r,h=>by simp[bF] at hk
 |.dict _,n,A,E,s,v,as,Q,hu,hk,r,h=>by simp[bF] at hk
theorem Cr:∀ (ks:List aA) {d:aA},d∈ks->∀ (n:Nat) {A:bW} {E:aD->aH->Prop} {s:aH} {v:aD} {as:List aC} {Q:Bool->aH->Prop},cP ks<=n->bO ks=af->nM s.heap v d as ->
  Q af s->aM (aO prog w) A (eqIsQuiet n v) Q E s
 |[],_,hm,_,_,_,_,_,_,_,_,_,_,_=>by simp at hm
 |k::ks,d,hm,n,A,E,s,v,as,Q,hu,hk,r,h=>by
  have dz:bF k=af/\bO ks=af:=by simpa [bO] using hk
  have xl:max k.depth (cP ks)<=n:=by simpa [cP] using hu
  by_cases e:d=k
  .exact FA k n (by omega) dz.1 (e ▸ r) h
  .have yz:d∈ks:=by
    rcases cO.1 hm with q|q
    .exact absurd q e
    .exact q
   exact Cr ks yz n (by omega) dz.2 r h
end
mutual
theorem Dj(kp:∀ b o vs n,h.get? b=aa o->o.cls=.type "tuple" -> o.data=.seq vs n->h'.get? b=aa o):∀ (d:aA) {v:aD} {as:List aC},bF d=af->nM h v d as->nM h' v d as
 |.int i,v,as,hk,r=>by
  cases r with
  |int _ t=>exact .int i t
 |.str x,v,as,hk,r=>by
  cases r with
  |str _ t=>exact .str x t
 |.tuple ks,v,as,hk,r=>by
  obtain⟨a,o,aj,m,rfl,ho,hc,hd,hi⟩:=oH r;exact .tuple (kp _ _ _ _ ho hc hd) hc hd (Ep kp ks (by simpa [bF] using hk) hi)
 |.none,v,as,hk,r=>by simp[bF] at hk
 |.bool _,v,as,hk,r=>by simp[bF] at hk
 |.list _,v,as,hk,r=>by simp[bF] at hk
 |.dict _,v,as,hk,r=>by simp[bF] at hk
theorem Ep(kp:∀ b o vs n,h.get? b=aa o->o.cls=.type "tuple" -> o.data=.seq vs n->h'.get? b=aa o):∀ (ds:List aA) {vs:List aD} {as:List aC},bO ds=af->nL h vs ds as->nL h' vs ds as
 |[],vs,as,hk,r=>by
  cases r with
  |nil=>exact .nil
 |d::ds,vs,as,hk,r=>by
  have dz:bF d=af/\bO ds=af:=by simpa [bO] using hk
  cases r with
  |cons r1 r2=>exact .cons (Dj kp d dz.1 r1) (Ep kp ds dz.2 r2)
end
def Abp (h:aQ)(ks:List aA)(a:aC):Prop:=bO ks=af/\cP ks<=6/\∃ as,nM h (.ref a) (.tuple ks) as
theorem Abp.keep(kp:∀ b o vs n,h.get? b=aa o->o.cls=.type "tuple" -> o.data=.seq vs n->h'.get? b=aa o)(k:Abp h ks a):Abp h' ks a:=
 ⟨k.1,k.2.1,k.2.2.choose,Dj kp (.tuple ks) (by simpa [bF] using k.1) k.2.2.choose_spec⟩
def iY (prog:bG)(w:aX):HeapKind prog w (List aA) where
 is:=Abp
 hash:=λks=>dE w (.tuple ks)
 draws:=λks=>qX (.tuple ks)
 room:=λA=>A.units+20<cLine
 inj:=λ{h a x y} hx hy=>by
  obtain⟨k1,_,as,r1⟩:=hx;obtain⟨k2,_,bs,r2⟩:=hy;exact BA (reads_det (λ_ _ e _=>e) r2 r1).1
 keeps:=λ{h h' k a d o es ep} x ho hd hs=>x.keep λb ob vs n hb _ tp=>by
  have gg:b≠d:=by
   rintro rfl;rw[ho] at hb;cases hb;rw[hd] at tp;cases tp
  exact(hs.2 b gg).trans hb
 pyHash:=λ{A E s k a Q} hu hk h=>by
  obtain⟨k1,k2,as,r⟩:=hk;exact Dc (.tuple k) (by simp only[jN];omega) (by simpa [bF] using k1) r h
 eqBool:=λ{A E s x y a b Q} hu hx hy h=>by
  obtain⟨k1,d1,as,r1⟩:=hx;obtain⟨k2,d2,bs,r2⟩:=hy;have e:=KB (.tuple x) (.tuple y) (by simpa [bF] using k1) (by simpa [bF] using k2)
  have e2:decide ((cL x)=.tuple y)=decide (x=y):=by
   by_cases q:x=y
   .subst q;simp
   .rw[decide_eq_false q,decide_eq_false (λz=>q (BA z))]
  have:=SeqAt.eqAt_reads (.tuple x) (.tuple y) A s (.ref a) (.ref b) as bs r1 r2 (KJ _ (by simpa [bF] using k1)) (KJ _ (by simpa [bF] using k2)) (by simp only[jN];omega)
  rw[e,e2] at this;exact this prog w E Q h
 quiet:=λ{A E s k a Q} hk h=>by
  obtain⟨k1,k2,as,r⟩:=hk;exact FA (.tuple k) 8 (by simp only[jN];omega) (by simpa [bF] using k1) r h
end
abbrev aI:=Sum Int aE
def wL:aI->aD->Bool
 |.inl k,v=>Value.isInt k v
 |.inr x,v=>Value.isStrOf x v
def Ku (w:aX):aI->Int
 |.inl k=>hashInt k
 |.inr x=>hashStr w x
theorem nC:∀ {k:aI} {v:aD},wL k v=af->(∃ i t,k=rO i/\v=rN i t)\/(∃ x t,k=jA x/\v=uB x t)
 |.inl i,v,h=>by
  obtain⟨t,e⟩:=Value.isInt_shape h;exact .inl ⟨i,t,rfl,e⟩
 |.inr x,v,h=>by
  obtain⟨t,e⟩:=Value.isStrOf_shape h;exact .inr ⟨x,t,rfl,e⟩
theorem G0 (i:Int)(t:Tok):wL (.inl i) (.int i t)=af:=by simp[wL,Value.isInt]
theorem B8 (x:aE)(t:Tok):wL (.inr x) (.str x t)=af:=by simp[wL,Value.isStrOf]
theorem Om (a b:Int):decide ((rO a:aI)=rO b)=(a==b):=by
 by_cases e:a=b
 .subst e;simp
 .have h:¬ (rO a:aI)=rO b:=λq=>e (Sum.inl.inj q)
  rw[decide_eq_false h];exact(beq_eq_false_iff_ne.2 e).symm
theorem Nu (a b:aE):decide ((jA a:aI)=jA b)=decide (a=b):=by
 by_cases e:a=b
 .subst e;simp
 .have h:¬ (jA a:aI)=jA b:=λq=>e (Sum.inr.inj q)
  rw[decide_eq_false h,decide_eq_false e]
theorem Oo (a:Int)(b:aE):decide ((rO a:aI)=jA b)=ag:=decide_eq_false (λq=>nomatch q)
theorem Qr (a:aE)(b:Int):decide ((jA a:aI)=rO b)=ag:=decide_eq_false (λq=>nomatch q)
def fU (prog:bG)(w:aX):PySem.KeyKind prog w aI where
 is:=wL
 hash:=Ku w
 inj:=λv a b ha hb=>by
  rcases nC ha with⟨i,t,rfl,rfl⟩|⟨x,t,rfl,rfl⟩
  .rcases nC hb with⟨j,u,rfl,e⟩|⟨y,u,rfl,e⟩
   .injection e with e1 _;rw[e1]
   .exact nomatch e
  .rcases nC hb with⟨j,u,rfl,e⟩|⟨y,u,rfl,e⟩
   .exact nomatch e
   .injection e with e1 _;rw[e1]
 byValue:=λk v h=>by
  rcases nC h with⟨i,t,rfl,rfl⟩|⟨x,t,rfl,rfl⟩<;>rfl
 pyHash:=λhv h=>by
  rcases nC hv with⟨i,t,rfl,rfl⟩|⟨x,t,rfl,rfl⟩
  .exact wpAny_pyHash_int h
  .exact wpAny_pyHash_str h
 eqBool:=λhu hv h=>by
  rcases nC hu with⟨i,t,rfl,rfl⟩|⟨x,t,rfl,rfl⟩
  .rcases nC hv with⟨j,u,rfl,rfl⟩|⟨y,u,rfl,rfl⟩
   .rw[Om] at h;exact wpAny_eqBool_int h
   .rw[Oo] at h;exact SeqAt.EqAt.int_str i t y u _ _ _ _ h
  .rcases nC hv with⟨j,u,rfl,rfl⟩|⟨y,u,rfl,rfl⟩
   .rw[Qr] at h;exact SeqAt.EqAt.str_int x t j u _ _ _ _ h
   .rw[Nu] at h;exact wpAny_eqBool_str h
 «strs»:=λk x t v h=>by
  rcases nC h with⟨i,u,rfl,e⟩|⟨y,u,rfl,e⟩
  .exact nomatch e
  .injection e with e1 _;subst e1;cases v<;>rfl
theorem NI (prog:bG)(w:aX)(i:Int)(t:Tok):(fU prog w).is (.inl i) (.int i t)=af:=G0 i t
theorem MY (prog:bG)(w:aX)(x:aE)(t:Tok):(fU prog w).is (.inr x) (.str x t)=af:=B8 x t
inductive V where
 |non|bl (b:Bool)|int (i:Int)|str (x:aE)|byt (b:Array UInt8)|flt (b:UInt64)|ref (a:aC)|ty (n:String)
 deriving DecidableEq
def RelV:V->aD->Prop
 |.non,u=>u=eJ
 |.bl b,u=>u=Value.bool b
 |.int i,u=>∃ t,u=rN i t
 |.str x,u=>∃ t,u=uB x t
 |.byt b,u=>∃ t,u=Value.bytes b t
 |.flt b,u=>∃ t,u=Value.float b t
 |.ref a,u=>u=eI a
 |.ty n,u=>u=jM n
abbrev Vals:List V->List aD->Prop:=cN RelV
theorem Vals.length {xs:List V}(r:Vals xs us):xs.length=us.length:=jF r
theorem Vals.get:∀ {xs:List V} {us:List aD} {i:Nat} {x:V},Vals xs us->xs[i]?=aa x->∃ u,us[i]?=aa u/\RelV x u
 |_,_,_,_,.nil,e=>by simp at e
 |_,_,0,_,.cons r _,e=>by simp at e;subst e;exact⟨_,rfl,r⟩
 |_,_,i+1,x,.cons _ t,e=>by
  obtain⟨u,h1,h2⟩:=Vals.get t (by simpa using e)
  exact⟨u,by simpa using h1,h2⟩
theorem Vals.set {x:V}(r:RelV x u):∀ {xs:List V} {us:List aD} (i:Nat),Vals xs us->Vals (xs.set i x) (us.set i u)
 |_,_,_,.nil=>.nil
 |_,_,0,.cons _ t=>.cons r t
 |_,_,i+1,.cons q t=>.cons q (Vals.set r i t)
theorem Vals.append:∀ {xs ys:List V} {us ws:List aD},Vals xs us->Vals ys ws->Vals (xs++ys) (us++ws)
 |_,_,_,_,.nil,s=>s
 |_,_,_,_,.cons r t,s=>.cons r (Vals.append t s)
theorem Vals.take:∀ {xs:List V} {us:List aD} (n:Nat),Vals xs us->Vals (xs.take n) (us.take n)
 |_,_,0,_=>.nil
 |_,_,_+1,.nil=>.nil
 |_,_,n+1,.cons r t=>.cons r (Vals.take n t)
theorem Vals.drop:∀ {xs:List V} {us:List aD} (n:Nat),Vals xs us->Vals (xs.drop n) (us.drop n)
 |_,_,0,r=>r
 |_,_,_+1,.nil=>.nil
 |_,_,n+1,.cons _ t=>Vals.drop n t
def Av5:Option V->Option aD->Prop
 |some v,aa u=>RelV v u
 |none,ae=>True
 |_,_=>False
def KV {κ:Type}:List (κ×V)->List (κ×aD)->Prop:=cN λ(p:κ×V) (q:κ×aD)=>p.1=q.1/\RelV p.2 q.2
def kV:aI->V
 |.inl i=>.int i
 |.inr x=>.str x
inductive HO where
 |lst (xs:List V)
 |tup (xs:List V)
 |dK (ep:Nat) (kvs:List (aI×V))|dT (ep:Nat) (kvs:List (List aA×V))
 |set (S:Int->Bool) (n:Nat)
 |ins (C dx:aC) (fs:List (aE×V))
 |own (x:aC)
 |xd (fs:List (aE×V))
 |met (f x:aC)
 |rng (lo hi:Int)
 |frz (o:bB) (u:HO)
 |tbl (ps:Array aD)
 |ext (φ:aQ->Prop)
abbrev Hp:=aC->Option HO
def au (H:Hp)(a:aC)(o:HO):Hp:=λb=>if b=a then aa o else H b
theorem eB {H:Hp}{o:HO}:au H a o a=aa o:=by unfold au;rw[if_pos rfl]
theorem dF {H:Hp}{o:HO}(h:b≠a):au H a o b=H b:=by unfold au;rw[if_neg h]
theorem Mo {H:Hp}{o u:HO}(h:H a=aa o)(h':H b=aa u)(d:o≠u):a≠b:=by
 intro e;subst e;rw[h] at h';exact d (eO h')
theorem kN {H:Hp}{o:HO}(h:H a=aa o)(h':H b=ae):a≠b:=by
 intro e;subst e;rw[h] at h';cases h'
mutual
def Aly (H:Hp):aA->V->Prop
 |.int i,v=>v=.int i
 |.str x,v=>v=.str x
 |.tuple ds,v=>∃ a xs,v=.ref a/\H a=aa (.tup xs)/\Af9 H ds xs
 |_,_=>False
def Af9 (H:Hp):List aA->List V->Prop
 |[],vs=>vs=[]
 |d::r,vs=>∃ x rr,vs=x::rr/\Aly H d x/\Af9 H r rr
end
mutual
theorem Aly.keep {H H':Hp}(ht:∀ b xs,H b=aa (.tup xs)->H' b=aa (.tup xs)):∀ {d:aA} {v:V},Aly H d v->Aly H' d v
 |.int _,_,k=>by simpa [Aly] using k
 |.str _,_,k=>by simpa [Aly] using k
 |.tuple ds,_,k=>by
  simp only[Aly] at k ⊢;obtain⟨a,xs,e,h,ks⟩:=k;exact⟨a,xs,e,ht _ _ h,Af9.keep ht ks⟩
 |.none,_,k=>by simp[Aly] at k
 |.bool _,_,k=>by simp[Aly] at k
 |.list _,_,k=>by simp[Aly] at k
 |.dict _,_,k=>by simp[Aly] at k
theorem Af9.keep {H H':Hp}(ht:∀ b xs,H b=aa (.tup xs)->H' b=aa (.tup xs)):∀ {ds:List aA} {vs:List V},Af9 H ds vs->Af9 H' ds vs
 |[],_,k=>by simpa [Af9] using k
 |d::ds,_,k=>by
  simp only[Af9] at k ⊢;obtain⟨x,r,e,k1,k2⟩:=k;exact⟨x,r,e,Aly.keep ht k1,Af9.keep ht k2⟩
end
def Al0 (H:Hp)(ks:List aA)(a:aC):Prop:=bO ks=af/\cP ks<=6/\∃ xs,H a=aa (.tup xs)/\Af9 H ks xs
theorem Al0.keep {H H':Hp}(k:Al0 H ks a)(ht:∀ b xs,H b=aa (.tup xs)->H' b=aa (.tup xs)):Al0 H' ks a:=
 ⟨k.1,k.2.1,k.2.2.choose,ht _ _ k.2.2.choose_spec.1,k.2.2.choose_spec.2.keep ht⟩
def Bdm (h:aQ)(a:aC)(its:Array aD):Prop:=IsTup h a its/\∃ o,h.get? a=aa o/\o.dict=ae
theorem Bdm.new (h:aQ)(its:Array aD):Bdm (h.push { cls:=.type "tuple",data:=.seq its }) h.objs.size its:=⟨IsTup.new _ _,_,cV _ rfl,rfl⟩
section
variable (P:bG)(w:aX)
def Ab8 (H:Hp)(h:aQ)(a:aC):HO->Prop
 |.lst xs=>xs.length<=sizeLine/\∃ (its:List aD) (n:Nat),Vals xs its/\h.get? a=aa { cls:=.type "list",data:=.seq its.toArray n }
 |.tup xs=>xs.length<=sizeLine/\∃ its:List aD,Vals xs its/\Bdm h a its.toArray
 |.dK ep kvs=>kvs.length<=sizeLine/\(a==iL)=ag/\∃ vs,KV kvs vs/\h.DictAt (fU P w) a vs ep
 |.dT ep kvs=>kvs.length<=sizeLine/\(a==iL)=ag/\∃ xs:List (List aA×aC×aD),
   cN (λ(p:List aA×V) (q:List aA×aC×aD)=>p.1=q.1/\Al0 H p.1 q.2.1/\RelV p.2 q.2.2) kvs xs /\
   ∃ o es,h.get? a=aa o/\o.ExactDict/\o.data=.dict es ep/\es.toList=xs.map (entryOfKey (iY P w))/\(xs.map (·.1)).Nodup
 |.set S n=>h.SetOf (pW P w) a S n
 |.ins C dx fs=>H dx=aa (.own a)/\fs.length<=1000/\dx≠a/\h.get? a=aa (Ik C dx) /\
   ∃ mA,h.Ns1 dx mA/\(∀ f,Av5 (fs.lookup f) (mA f))/\PySem.Within mA (fs.map (·.1))
 |.own _=>∃ o,h.get? a=aa o
 |.xd fs=>∃ mA,h.Ns1 a mA/\∀ f,Av5 (fs.lookup f) (mA f)
 |.rng lo hi=>∃ t u v,h.get? a=aa { cls:=.type "range",data:=.fields #[.int lo t,.int hi u,.int 1 v] }
 |.frz o u=>h.get? a=aa o/\Ab8 H h a u
 |.tbl ps=>h.get? a=aa { cls:=.none,data:=.fields ps }
 |.met f x=>h.get? a=aa (PySem.W.methodObj (.ref f) (.ref x))
 |.ext φ=>φ h/\(∃ o,h.get? a=aa o)/\∀ h1 h2:aQ,φ h1->(∀ o,h1.get? a=aa o->h2.get? a=aa o)->φ h2
def HOk (H:Hp)(h:aQ):Prop:=∀ a o,H a=aa o->Ab8 P w H h a o
end
section
variable {P:bG}{w:aX}{H H':Hp}{o:HO}
theorem Ab8.lt (x:Ab8 P w H h a o):a<h.objs.size:=by
 cases o with
 |lst xs=>obtain⟨_,_,_,_,e⟩:=x;exact bU e
 |tup xs=>obtain⟨_,_,_,p⟩:=x;exact p.1.lt
 |dK ep kvs=>obtain⟨_,_,_,_,o,_,e,_⟩:=x;exact bU e
 |dT ep kvs=>obtain⟨_,_,_,_,o,_,e,_⟩:=x;exact bU e
 |set S n=>obtain⟨o,_,_,_,e,_⟩:=x;exact bU e
 |ins C dx fs=>obtain⟨_,_,_,e,_⟩:=x;exact bU e
 |own y=>obtain⟨_,e⟩:=x;exact bU e
 |xd fs=>obtain⟨_,⟨_,_,_,e,_⟩,_⟩:=x;exact bU e
 |rng lo hi=>obtain⟨_,_,_,e⟩:=x;exact bU e
 |frz ob u=>obtain⟨e,_⟩:=x;exact bU e
 |tbl ps=>exact bU (show h.get? a=aa _ from x)
 |met f y=>exact bU (show h.get? a=aa _ from x)
 |ext φ=>obtain⟨_,⟨_,e⟩,_⟩:=x;exact bU e
theorem Paired.mapP {α β:Type}{F G:α->β->Prop}:∀ {l₁:List α} {l₂:List β},cN F l₁ l₂->(∀ a b,F a b->G a b)->cN G l₁ l₂:=by
 intro l₁ l₂ h;induction h with
 |nil=>exact λ_=>.nil
 |cons r _ ih=>exact λf=>.cons (f _ _ r) (ih f)
theorem Ab8.stay (x:Ab8 P w H h a o)(k:∀ b u,(b=a\/H b=aa (.own a))->h.get? b=aa u->h'.get? b=aa u)
  (ho:∀ b,H b=aa (.own a)->H' b=aa (.own a)) (ht:∀ b xs,H b=aa (.tup xs)->H' b=aa (.tup xs)):Ab8 P w H' h' a o:=by
 induction o with
 |lst xs=>obtain⟨z,its,n,r,e⟩:=x;exact⟨z,its,n,r,k _ _ (.inl rfl) e⟩
 |tup xs=>obtain⟨z,its,r,⟨ob,e,c⟩,ob2,e2,c2⟩:=x;exact⟨z,its,r,⟨ob,k _ _ (.inl rfl) e,c⟩,ob2,k _ _ (.inl rfl) e2,c2⟩
 |dK ep kvs=>obtain⟨z,y,vs,r,ob,es,e,c⟩:=x;exact⟨z,y,vs,r,ob,es,k _ _ (.inl rfl) e,c⟩
 |dT ep kvs=>
  obtain⟨z,y,xs,r,ob,es,e,c⟩:=x;exact⟨z,y,xs,Paired.mapP r λp q z=>⟨z.1,z.2.1.keep ht,z.2.2⟩,ob,es,k _ _ (.inl rfl) e,c⟩
 |set S n=>obtain⟨ob,es,ep,t,e,c⟩:=x;exact⟨ob,es,ep,t,k _ _ (.inl rfl) e,c⟩
 |ins C dx fs=>
  obtain⟨d,z,ne,e,mA,⟨od,es,ep,e2,c⟩,r⟩:=x;exact⟨ho _ d,z,ne,k _ _ (.inl rfl) e,mA,⟨od,es,ep,k _ _ (.inr d) e2,c⟩,r⟩
 |own y=>obtain⟨ob,e⟩:=x;exact⟨ob,k _ _ (.inl rfl) e⟩
 |xd fs=>obtain⟨mA,⟨od,es,ep,e,c⟩,r⟩:=x;exact⟨mA,⟨od,es,ep,k _ _ (.inl rfl) e,c⟩,r⟩
 |rng lo hi=>obtain⟨t,u,v,e⟩:=x;exact⟨t,u,v,k _ _ (.inl rfl) e⟩
 |frz ob u ih=>obtain⟨e,q⟩:=x;exact⟨k _ _ (.inl rfl) e,ih q⟩
 |tbl ps=>
  have e:=x;exact k a _ (.inl rfl) e
 |met f y=>
  have e:=x;exact k a _ (.inl rfl) e
 |ext φ=>obtain⟨p,⟨o,e⟩,st⟩:=x;exact⟨st _ _ p λo q=>k _ _ (.inl rfl) q,⟨o,k _ _ (.inl rfl) e⟩,st⟩
theorem HOk.lt (x:HOk P w H h)(e:H a=aa o):a<h.objs.size:=(x a o e).lt
theorem HOk.fresh (x:HOk P w H h)(e:h.objs.size<=a):H a=ae:=by
 cases q:H a with
 |none=>rfl
 |some u=>exact absurd (iO (x.lt q) e) (kS _)
theorem HOk.kept (x:HOk P w H h)(k:∀ b u,h.get? b=aa u->h'.get? b=aa u):HOk P w H h':=λa o e=>
 (x a o e).stay (λb u _ q=>k b u q) (λ_ q=>q) λ_ _ q=>q
theorem HOk.laid (x:HOk P w H h)(k:∀ b u,h.get? b=aa u->h'.get? b=aa u)(hp:h.objs.size<=a)(new:Ab8 P w (au H a o) h' a o):HOk P w (au H a o) h':=λb u e=>by
 have hn:=x.fresh hp;by_cases hb:b=a
 .subst hb;rw[eB] at e;cases e;exact new
 .rw[dF hb] at e;exact(x b u e).stay (λc v _ q=>k c v q) (λc q=>by rw[dF (kN q hn)];exact q) λc xs q=>by rw[dF (kN q hn)];exact q
end
def Rd (H:Hp)(a:aC)(u:HO):Prop:=H a=aa u\/∃ o,H a=aa (.frz o u)
theorem Rd.ok {P:bG}{w:aX}{H:Hp}{u:HO}(r:Rd H a u)(x:HOk P w H h):Ab8 P w H h a u:=by
 rcases r with r|⟨o,r⟩
 .exact x a u r
 .obtain⟨_,q⟩:=x a _ r;exact q
def xU:Option HO->Prop
 |some (.lst _)=>True
 |some (.dK _ _)=>True
 |some (.dT _ _)=>True
 |some (.set _ _)=>True
 |some (.ins _ _ _)=>True
 |some (.ext _)=>True
 |_=>False
section
variable {P:bG}{w:aX}{H:Hp}{x e:aC}{o':HO}
theorem HOk.write (ok:HOk P w H h)(mu:xU (H x))(he:e=x\/H e=aa (.own x))(k:∀ b u,b≠e->h.get? b=aa u->h'.get? b=aa u)(V2:∃ u,h'.get? e=aa u)
  (new:Ab8 P w (au H x o') h' x o'):HOk P w (au H x o') h':=λb u q=>by
 have W6:∀ c y,H c=aa (.own y)->c≠x:=λc y r z=>by subst z;rw[r] at mu;exact mu
 have ntup:∀ c xs,H c=aa (.tup xs)->c≠x:=λc xs r z=>by subst z;rw[r] at mu;exact mu
 by_cases hb:b=x
 .subst hb;rw[eB] at q;cases q;exact new
 .rw[dF hb] at q;by_cases ze:b=e
  .have q':H b=aa (.own x):=by
    rcases he with z|z
    .exact absurd (ze.trans z) hb
    .rw[ze];exact z
   rw[q] at q';cases q';obtain⟨v,hv⟩:=V2;exact⟨v,by rw[ze];exact hv⟩
  .refine(ok b u q).stay (λc v hc r=>k c v ?_ r) (λc r=>by rw[dF (W6 c b r)];exact r) λc xs r=>by rw[dF (ntup c xs r)];exact r
   rcases hc with rfl|hc
   .exact ze
   .rintro rfl;rcases he with z|z
    .exact W6 c b hc z
    .rw[hc] at z;cases z;exact hb rfl
end
structure Un (fs ex:List aC)(H H':Hp)(h h':aQ):Prop where
 keep:∀ b o,h.get? b=aa o->H b=ae->b∉fs->b∉ex->h'.get? b=aa o
 slot:∀ b o,h.get? b=aa o->H b=ae->b∈fs->b∉ex->∃ sl,h'.get? b=aa { o with slots:=sl }
 free:∀ b o,h.get? b=aa o->H b=ae->b∉ex->H' b=ae
 there:∀ b o,h.get? b=aa o->b∉ex->∃ o',h'.get? b=aa o'
 tups:∀ b xs,H b=aa (.tup xs)->H' b=aa (.tup xs)
 frzs:∀ b o u,H b=aa (.frz o u)->H' b=aa (.frz o u)
 tbls:∀ b ps,H b=aa (.tbl ps)->∃ more,H' b=aa (.tbl (ps++more))
section
variable {fs fs' ex ex':List aC}{H H1 H2:Hp}{h1 h2:aQ}{x e:aC}{o:HO}
theorem Un.any (u:Un fs ex H H1 h h1){ob:bB}(q:h.get? b=aa ob)(n:H b=ae)(hx:b∉ex):∃ sl,h1.get? b=aa { ob with slots:=sl }:=by
 by_cases hb:b∈fs
 .exact u.slot b ob q n hb hx
 .exact⟨ob.slots,u.keep b ob q n hb hx⟩
theorem Un.kept (k:∀ b u,h.get? b=aa u->h'.get? b=aa u):Un fs ex H H h h':=
 ⟨λb ob q _ _ _=>k b ob q,λb ob q _ _ _=>⟨ob.slots,k b ob q⟩,λ_ _ _ n _=>n,λb ob q _=>⟨ob,k b ob q⟩,λ_ _ q=>q,λ_ _ _ q=>q,λ_ ps q=>⟨#[],by rw[q];simp⟩⟩
theorem Un.refl:Un fs ex H H h h:=Un.kept λ_ _ q=>q
theorem Un.laid (k:∀ b u,h.get? b=aa u->h'.get? b=aa u)(hp:h.objs.size<=a)(hn:H a=ae):Un fs ex H (au H a o) h h' where
 keep:=λb u q _ _ _=>k b u q
 slot:=λb u q _ _ _=>⟨u.slots,k b u q⟩
 free:=λb u q n _=>by rw[dF (cQ (iO (bU q) hp))];exact n
 there:=λb u q _=>⟨u,k b u q⟩
 tups:=λb xs q=>by rw[dF (kN q hn)];exact q
 frzs:=λb u xs q=>by rw[dF (kN q hn)];exact q
 tbls:=λb ps q=>⟨#[],by rw[dF (kN q hn),q];simp⟩
theorem Un.write (mu:xU (H x))(he:e=x\/H e=aa (.own x))(k:∀ b u,b≠e->h.get? b=aa u->h'.get? b=aa u)(V2:∃ u,h'.get? e=aa u):Un fs ex H (au H x o) h h':=by
 have hx:∀ b,H b=ae->b≠x:=λb n z=>by subst z;rw[n] at mu;exact mu
 have hb:∀ b,H b=ae->b≠e:=λb n z=>by
  subst z;rcases he with r|r
  .exact hx b n r
  .rw[n] at r;cases r
 have hm:∀ b u,H b=aa u->¬ xU (aa u)->b≠x:=λb u q nm z=>by subst z;rw[q] at mu;exact nm mu
 refine⟨λb u q n _ _=>k b u (hb b n) q,λb u q n _ _=>⟨u.slots,k b u (hb b n) q⟩,λb u q n _=>by rw[dF (hx b n)];exact n,λb u q _=>?_,
  λb xs q=>by rw[dF (hm b _ q λz=>z)];exact q,λb u xs q=>by rw[dF (hm b _ q λz=>z)];exact q,λb ps q=>⟨#[],by rw[dF (hm b _ q λz=>z),q];simp⟩⟩
 by_cases ze:b=e
 .subst ze;exact V2
 .exact⟨u,k b u ze q⟩
end
def trk (h:aQ)(H:Hp):List aC:=(cK h.objs.size).filter λa=>(H a).isSome
def oZ (h:aQ)(H:Hp):aQ:=PySem.W.hideAll h (trk h H)
theorem t9 (h:aQ)(H:Hp):(oZ h H).objs.size=h.objs.size:=PySem.W.hideAll_size _ _
theorem Xb{H:Hp}(e:h.get? b=aa o)(n:H b=ae):(oZ h H).get? b=aa o:=
 PySem.W.hideAll_get _ e λhm=>by
  have q:=(uF.1 hm).2;rw[n] at q;simp at q
theorem Su{H:Hp}(e:(oZ h H).get? b=aa o):h.get? b=aa o/\H b=ae:=by
 have e':=PySem.W.of_hideAll (trk h H) e;refine⟨e',?_⟩;cases q:H b with
 |none=>rfl
 |some x=>
  have hm:b∈trk h H:=uF.2 ⟨gW.2 (bU e'),by simp[q]⟩
  have z:(oZ h H).get? b=ae:=PySem.W.hideAll_none (trk h H) hm;rw[z] at e;cases e
def Va (g h:aQ)(L:aC):List (aC×bB):=(cK h.objs.size).filterMap λa=>if a=L\/(g.get? a).isSome=af then ae else(h.get? a).map λo=>(a,o)
def rest (g h:aQ)(L d:aC):List (aC×bB):=(Va g h L).filter λp=>decide (p.1≠d)
structure Mod (K:aJ)(mg:aE->Option aD)(base:aQ):Prop where
 kin:K.In base
 glob:base.Ns eM mg
 blt:∃ mb,base.Ns builtinsNs mb/\∀ x:aE,x ≠ "__name__" -> mb x=nK x
 nolimit:base.NoLimit
structure Cx where
 prog:bG
 w:aX
 K:aJ
 mg:aE->Option aD
 base:aQ
 A:bW
 N:List aE
 s₀:aH
 H₀:Hp
 env:Env
 outer:List Env
 stack:List Env
 ex:List aC
 fn:aE->Bool
 calm:Bool
 pn:List (aC×bB)
 xe:aD->aH->Prop
def xf (l:List Env):List aC:=l.filterMap (·.frame)
abbrev Cx.fs (X:Cx):List aC:=xf X.outer
def iP (sc:iN)(x:aE):Prop:=sc.names.lookup x=aa .local\/sc.names.lookup x=aa .cell\/sc.names.lookup x=aa .free
def jR (sc:iN)(x:aE):Prop:=sc.names.lookup x=aa .local\/sc.names.lookup x=aa .cell
def Look (env:Env)(h:aQ)(m:aE->Option aD)(x:aE)(u:aD):Prop:=
 (env.kindOf x=aa .local/\m x=aa u)\/((env.kindOf x=aa .cell\/env.kindOf x=aa .free)/\∃ c,env.cells.lookup x=aa c/\h.IsCell c (aa u))
structure Cx.Ok (X:Cx):Prop where
 mod:Mod X.K X.mg X.base
 kind:X.env.scope.kind=.function
 glob:X.env.globals=eM
 blt:X.env.builtins=builtinsNs
 above:X.s₀.heap.objs.size<=X.env.locals
 inj:∀ x y c,X.env.cells.lookup x=aa c->X.env.cells.lookup y=aa c->x=y
 has:∀ x,(X.env.kindOf x=aa .cell\/X.env.kindOf x=aa .free)->∃ c,X.env.cells.lookup x=aa c
 cab:∀ x c,X.fn x=af->X.env.cells.lookup x=aa c->X.s₀.heap.objs.size<=c
 hd:X.calm=af->X.A.handled=ae
 frames:X.A.frames=aa X.stack
 stk:X.stack=X.outer\/(X.stack=X.env::X.outer/\X.env.frame=aa X.env.locals)
 exf:∀ b∈X.ex,b≠X.env.locals/\∀ x c,X.env.cells.lookup x=aa c->c≠b
 bs:∀ b o,X.base.get? b=aa o->X.s₀.heap.get? b=aa o/\X.H₀ b=ae
 bsz:X.base.objs.size<=X.s₀.heap.objs.size
 noex:∀ b o,X.base.get? b=aa o->b∉X.ex
 exfs:∀ b∈X.ex,b∉X.fs
 funs:X.s₀.heap.FunFrames X.base X.outer
 frf:∀ b∈X.fs,X.H₀ b=ae
structure Inv (X:Cx)(ah:List (aC×bB))(Z:List (Option V))(H:Hp)(s:aH):Prop where
 ok:X.Ok
 os:s.os=X.s₀.os
 bare:rW s.gens
 base:Un X.fs X.ex X.H₀ H X.s₀.heap s.heap
 loc:∃ m,s.heap.Ns X.env.locals m/\∀ (i:Nat) (x:aE) (v:V),X.N[i]?=aa x->Z[i]?=aa (aa v)->iP X.env.scope x->∃ u,RelV v u/\Look X.env s.heap m x u
 cell:∀ x c,X.env.cells.lookup x=aa c->∃ v,s.heap.IsCell c v
 free:H X.env.locals=ae
 freeC:∀ x c,X.env.cells.lookup x=aa c->H c=ae
 pin:∀ p∈X.pn++ah,s.heap.get? p.1=aa p.2/\H p.1=ae/\p.1≠X.env.locals/\p.1∉X.fs/\∀ v,p.2.data ≠ .cell v
 hok:HOk X.prog X.w H s.heap
 len:Z.length=X.N.length
section
variable {X:Cx}{Z:List (Option V)}{H H':Hp}
theorem Cx.Ok.nofr (ok:X.Ok)(e:X.base.get? b=aa o):b∉X.fs:=λhb=>by
 have:=(ok.funs.mem hb).1;rw[e] at this;cases this
theorem Inv.bs (I:Inv X ah Z H s):∀ b o,X.base.get? b=aa o->s.heap.get? b=aa o/\H b=ae:=λb o e=>
 ⟨I.base.keep b o (I.ok.bs b o e).1 (I.ok.bs b o e).2 (I.ok.nofr e) (I.ok.noex b o e),I.base.free b o (I.ok.bs b o e).1 (I.ok.bs b o e).2 (I.ok.noex b o e)⟩
theorem Inv.bk (I:Inv X ah Z H s):∀ b o,X.base.get? b=aa o->s.heap.get? b=aa o:=λb o e=>(I.bs b o e).1
theorem Inv.mod (I:Inv X ah Z H s):Mod X.K X.mg X.base:=I.ok.mod
theorem Inv.kIn (I:Inv X ah Z H s):X.K.In s.heap:=I.ok.mod.kin.keeps I.bk
theorem Inv.lt (I:Inv X ah Z H s):X.env.locals<s.heap.objs.size:=let ⟨_,hn,_⟩:=I.loc;hn.lt
theorem Inv.sz (I:Inv X ah Z H s):X.s₀.heap.objs.size<=s.heap.objs.size:=dA I.ok.above (oQ I.lt)
theorem Inv.nofs (I:Inv X ah Z H s)(h:s.heap.objs.size<=a):a∉X.fs:=λhb=>by
 obtain⟨_,o,ho,_⟩:=I.ok.funs.mem hb;exact absurd (iO (bU ho) (dA I.sz h)) (kS _)
theorem Inv.cne (I:Inv X ah Z H s):∀ x c,X.env.cells.lookup x=aa c->c≠X.env.locals:=λx c e z=>by
 obtain⟨v,o,ho,hd⟩:=I.cell x c e;obtain⟨m,⟨o',es,ep,xm,tp,_⟩,_⟩:=I.loc;rw[z,xm] at ho;cases ho;rw[tp] at hd;cases hd
theorem Inv.funs (I:Inv X ah Z H s):s.heap.FunFrames X.base X.outer:=by
 have all:∀ (l:List Env),(∀ b∈xf l,b∈X.fs)->X.s₀.heap.FunFrames X.base l->s.heap.FunFrames X.base l:=by
  intro l;induction l with
  |nil=>intro _ _;trivial
  |cons env r ih=>
   intro hs hl;obtain⟨hk,⟨L,o,hf,hn,ho,hd⟩,hr⟩:=hl;have hL:=hs L (by unfold xf;rw[RN,hf];exact bE)
   obtain⟨sl,e⟩:=I.base.slot L o ho (I.ok.frf L hL) hL λz=>I.ok.exfs L z hL
   exact⟨hk,⟨L,_,hf,hn,e,hd⟩,ih (λb hb=>hs b (by unfold xf;rw[RN,hf];exact bH _ hb)) hr⟩
 exact all X.outer (λ_ hb=>hb) I.ok.funs
theorem Inv.stack (I:Inv X ah Z H s):s.heap.FunFrames X.base X.stack:=by
 rcases I.ok.stk with e|⟨e,hf⟩
 .rw[e];exact I.funs
 .rw[e];obtain⟨m,hn,_⟩:=I.loc;refine .cons (by rw[I.ok.kind];decide) hf hn ?_ I.funs
  exact Heap.get?_none_of_le (dA I.ok.bsz I.ok.above)
theorem Inv.stkSub (I:Inv X ah Z H s):∀ b∈xf X.stack,b∈X.env.locals::X.fs:=λb hb=>by
 rcases I.ok.stk with e|⟨e,hf⟩
 .rw[e] at hb;exact bH _ hb
 .rw[e] at hb;unfold xf at hb;rw[RN,hf] at hb;exact hb
theorem Inv.stkFree (I:Inv X ah Z H s):∀ b∈xf X.stack,H b=ae:=λb hb=>by
 rcases cO.1 (I.stkSub b hb) with e|hb
 .rw[e];exact I.free
 .obtain⟨_,o,ho,_⟩:=I.ok.funs.mem hb;exact I.base.free b o ho (I.ok.frf b hb) λz=>I.ok.exfs b z hb
theorem Inv.step {g':Array qI}{d':Drawn}(I:Inv X ah Z H s)
  (yn:∀ b∈ch,(b∈X.ex\/X.s₀.heap.objs.size<=b)/\b≠X.env.locals/\(∀ x c,X.env.cells.lookup x=aa c->c≠b)/\∀ p∈X.pn++ah,p.1≠b)
  (keep:∀ b o,b≠X.env.locals->b∉X.fs->b∉ch->s.heap.get? b=aa o->H b=ae->h'.get? b=aa o)
  (slot:∀ b o,b≠X.env.locals->b∈X.fs->b∉ch->s.heap.get? b=aa o->H b=ae->∃ sl,h'.get? b=aa { o with slots:=sl }) (free:∀ b o,b∉ch->s.heap.get? b=aa o->H b=ae->H' b=ae)
  (there:∀ b o,b∉ch->s.heap.get? b=aa o->∃ o',h'.get? b=aa o')
  (tups:∀ b xs,H b=aa (.tup xs)->H' b=aa (.tup xs)) (frzs:∀ b o u,H b=aa (.frz o u)->H' b=aa (.frz o u)) (tbls:∀ b ps,H b=aa (.tbl ps)->∃ more,H' b=aa (.tbl (ps++more)))
  (ns:∀ m,s.heap.Ns X.env.locals m->h'.Ns X.env.locals m) (hok:HOk X.prog X.w H' h') (hg:rW g') :
  Inv X ah Z H' { s with heap:=h',gens:=g',drawn:=d',toks:=t' }:=by
 have neL:∀ b o,X.s₀.heap.get? b=aa o->b≠X.env.locals:=λb o e=>cQ (iO (bU e) I.ok.above)
 have neC:∀ b o,X.s₀.heap.get? b=aa o->b∉X.ex->b∉ch:=λb o e hx hb=>by
  rcases(yn b hb).1 with z|z
  .exact hx z
  .exact absurd (iO (bU e) z) (kS _)
 have LT:∀ x c,X.env.cells.lookup x=aa c->∀ v,s.heap.IsCell c v->h'.IsCell c v:=λx c e v gh=>by
  obtain⟨o,ho,hd⟩:=gh;have W7:c∉ch:=λz=>(yn c z).2.2.1 x c e rfl
  by_cases hc:c∈X.fs
  .obtain⟨sl,q⟩:=slot c o (I.cne x c e) hc W7 ho (I.freeC x c e);exact⟨_,q,hd⟩
  .exact⟨o,keep c o (I.cne x c e) hc W7 ho (I.freeC x c e),hd⟩
 refine⟨I.ok,I.os,hg,⟨λb o e n hb hx=>?_,λb o e n hb hx=>?_,λb o e n hx=>?_,λb o e hx=>?_,λb xs e=>tups b xs (I.base.tups b xs e),λb o xs e=>frzs b o xs (I.base.frzs b o xs e),λb ps e=>?_⟩,?_,λx c e=>?_,?_,λx c e=>?_,λp hp=>?_,hok,I.len⟩
 .exact keep b o (neL b o e) hb (neC b o e hx) (I.base.keep b o e n hb hx) (I.base.free b o e n hx)
 .obtain⟨sl,e1⟩:=I.base.slot b o e n hb hx;obtain⟨sl',e2⟩:=slot b _ (neL b o e) hb (neC b o e hx) e1 (I.base.free b o e n hx);exact⟨sl',e2⟩
 .obtain⟨o',e1⟩:=I.base.there b o e hx;exact free b o' (neC b o e hx) e1 (I.base.free b o e n hx)
 .obtain⟨o',e1⟩:=I.base.there b o e hx;exact there b o' (neC b o e hx) e1
 .obtain⟨m1,e1⟩:=I.base.tbls b ps e;obtain⟨m2,e2⟩:=tbls b _ e1;exact⟨m1++m2,by rw[e2,Array.append_assoc]⟩
 .obtain⟨m,hn,hl⟩:=I.loc;refine⟨m,ns m hn,λi x v e1 e2 e3=>?_⟩
  obtain⟨u,r,l⟩:=hl i x v e1 e2 e3;refine⟨u,r,?_⟩;rcases l with l|⟨k,c,e,z⟩
  .exact .inl l
  .exact .inr ⟨k,c,e,LT x c e _ z⟩
 .obtain⟨v,z⟩:=I.cell x c e;exact⟨v,LT x c e v z⟩
 .obtain⟨m,⟨o,_,_,ho,_⟩,_⟩:=I.loc;exact free _ o (λz=>(yn _ z).2.1 rfl) ho I.free
 .obtain⟨v,o,ho,hd⟩:=I.cell x c e;exact free c o (λz=>(yn c z).2.2.1 x c e rfl) ho (I.freeC x c e)
 .obtain⟨e,n,ne,nf,d⟩:=I.pin p hp;have W7:p.1∉ch:=λz=>(yn p.1 z).2.2.2 p hp rfl
  exact⟨keep p.1 p.2 ne nf W7 e n,free p.1 p.2 W7 e n,ne,nf,d⟩
theorem Inv.un(I:Inv X ah Z H s)(u:Un X.fs [] H H' s.heap h')(hok:HOk X.prog X.w H' h'):Inv X ah Z H' { s with heap:=h',toks:=t' }:=by
 obtain⟨m,⟨o,es,ep,ho,r⟩,_⟩:=id I.loc;obtain⟨sl,hL⟩:=u.any ho I.free (by simp)
 exact I.step (g':=s.gens) (d':=s.drawn) (ch:=[]) (λ_ z=>nomatch z) (λb o _ hb _ e n=>u.keep b o e n hb (by simp)) (λb o _ hb _ e n=>u.slot b o e n hb (by simp)) (λb o _ e n=>u.free b o e n (by simp)) (λb o _ e=>u.there b o e (by simp)) u.tups u.frzs u.tbls (λm' hm=>by
  obtain⟨o',jx,tq,xm,r'⟩:=hm;rw[ho] at xm;cases xm;exact⟨_,jx,tq,hL,r'⟩) hok I.bare
theorem Inv.call {g':Array qI}{d':Drawn}(I:Inv X ah Z H s)(u:Un (xf X.stack) ch H H' s.heap h')(hok:HOk X.prog X.w H' h')(hg:rW g')
  (yn:∀ b∈ch,(b∈X.ex\/X.s₀.heap.objs.size<=b)/\b≠X.env.locals/\(∀ x c,X.env.cells.lookup x=aa c->c≠b)/\∀ p∈X.pn++ah,p.1≠b) :
  Inv X ah Z H' { s with heap:=h',gens:=g',drawn:=d',toks:=t' }:=by
 obtain⟨m,⟨o,es,ep,ho,r⟩,_⟩:=id I.loc;obtain⟨sl,hL⟩:=u.any ho I.free λz=>(yn _ z).2.1 rfl
 exact I.step yn (λb o hL hb hc e n=>u.keep b o e n (λz=>(cO.1 (I.stkSub b z)).elim hL hb) hc) (λb o _ _ hc e n=>u.any e n hc) (λb o hc e n=>u.free b o e n hc) (λb o hc e=>u.there b o e hc) u.tups u.frzs u.tbls (λm' hm=>by
  obtain⟨o',jx,tq,xm,r'⟩:=hm;rw[ho] at xm;cases xm;exact⟨_,jx,tq,hL,r'⟩) hok hg
theorem Inv.turned{it:aC}(I:Inv X ah Z H s)(k:∀ b o,b≠it->s.heap.get? b=aa o->h'.get? b=aa o)(hn:H it=ae)(hL:it≠X.env.locals)
  (h1:it∈X.ex\/X.s₀.heap.objs.size<=it) (h2:∀ x c,X.env.cells.lookup x=aa c->c≠it) (h3:∀ p∈X.pn++ah,p.1≠it):Inv X ah Z H { s with heap:=h',toks:=t' }:=by
 have nit:∀ b u,H b=aa u->b≠it:=λb u e z=>by rw[z,hn] at e;cases e
 refine I.step (g':=s.gens) (d':=s.drawn) (ch:=[it]) (λb hb=>?_) (λb o _ _ hc e _=>k b o (λz=>hc (by simp[z])) e) (λb o _ _ hc e _=>⟨o.slots,k b o (λz=>hc (by simp[z])) e⟩) (λ_ _ _ _ n=>n)
  (λb o hc e=>⟨o,k b o (λz=>hc (by simp[z])) e⟩) (λ_ _ e=>e) (λ_ _ _ e=>e) (λb ps e=>⟨#[],by rw[e];simp⟩) (λm hm=>?_) (λb u e=>?_) I.bare
 .have e:b=it:=by simpa using hb
  subst e;exact⟨h1,hL,h2,h3⟩
 .obtain⟨o,es,ep,ho,r⟩:=hm;exact⟨o,es,ep,k _ o (gV hL) ho,r⟩
 .refine(I.hok b u e).stay (λc v hc q=>k c v ?_ q) (λ_ q=>q) λ_ _ q=>q
  rcases hc with z|z
  .rw[z];exact nit b u e
  .exact nit c _ z
theorem Inv.tok (I:Inv X ah Z H s)(t:Nat):Inv X ah Z H { s with toks:=t }:=I.un Un.refl I.hok
theorem Inv.kept(I:Inv X ah Z H s)(k:∀ b u,s.heap.get? b=aa u->h'.get? b=aa u):Inv X ah Z H { s with heap:=h',toks:=t' }:=I.un (Un.kept k) (I.hok.kept k)
theorem Inv.laid{o:HO}(I:Inv X ah Z H s)(k:∀ b u,s.heap.get? b=aa u->h'.get? b=aa u)(hp:s.heap.objs.size<=a)(new:Ab8 X.prog X.w (au H a o) h' a o) :
  Inv X ah Z (au H a o) { s with heap:=h',toks:=t' }:=I.un (Un.laid k hp (I.hok.fresh hp)) (I.hok.laid k hp new)
theorem Inv.write {x e:aC}{o:HO}(I:Inv X ah Z H s)(mu:xU (H x))(he:e=x\/H e=aa (.own x))(k:∀ b u,b≠e->s.heap.get? b=aa u->h'.get? b=aa u)(V2:∃ u,h'.get? e=aa u)
  (new:Ab8 X.prog X.w (au H x o) h' x o):Inv X ah Z (au H x o) { s with heap:=h',toks:=t' }:=I.un (Un.write mu he k V2) (I.hok.write mu he k V2 new)
theorem Inv.pins_of {L':List (aC×bB)}(I:Inv X ah Z H s)(h:∀ p∈L',s.heap.get? p.1=aa p.2/\H p.1=ae/\p.1≠X.env.locals/\p.1∉X.fs/\∀ v,p.2.data ≠ .cell v):Inv X L' Z H s:=
 ⟨I.ok,I.os,I.bare,I.base,I.loc,I.cell,I.free,I.freeC,λp hp=>(iC.1 hp).elim (λz=>I.pin p (List.mem_append_left _ z)) (h p),I.hok,I.len⟩
theorem XG {N:List aE}(hN:N.Nodup){j:Nat}(a:N[i]?=aa x)(b:N[j]?=aa x):i=j:=by
 obtain⟨h1,e1⟩:=cX.1 a;obtain⟨h2,e2⟩:=cX.1 b;exact(List.getElem_inj hN).1 (e1.trans e2.symm)
theorem ZT{v:V}{Q:Unit->aH->Prop}(I:Inv X ah Z H s)(hN:X.N.Nodup)(hi:X.N[i]?=aa x)(hx:jR X.env.scope x)(r:RelV v u)
  (h:∀ s',Inv X ah (Z.set i (aa v)) H s'->(∃ a,mL a s.heap s'.heap/\(a=X.env.locals\/X.env.cells.lookup x=aa a))->Q () s') (hf:X.fn x=af\/X.env.scope.names.lookup x=aa .local:=by first|exact .inl rfl|exact .inr rfl|assumption):aM M A (storeName X.env x u) Q E s:=by
 obtain⟨m,hn,hl⟩:=id I.loc;have hcls:(X.env.scope.kind==.class||(X.env.scope.kind==.module&&X.env.locals != X.env.globals))=ag:=by rw[I.ok.kind];rfl
 have W8:i<Z.length:=by rw[I.len];exact(cX.1 hi).1
 have cne:=I.cne;have vi:∀ {a:aC} {h':aQ},(∃ o,s.heap.get? a=aa o/\H a=ae)->mL a s.heap h'->HOk X.prog X.w H h':=λ{a h'} ha hs b ob e=>by
  obtain⟨_,_,qi⟩:=ha;refine(I.hok b ob e).stay (λc w' hc q=>(hs.2 c ?_).trans q) (λ_ q=>q) λ_ _ q=>q
  rintro rfl;rcases hc with rfl|hc
  .rw[qi] at e;cases e
  .rw[qi] at hc;cases hc
 rcases hx with hk|hk
 .refine wpAny_storeName_local hk hn (λh' hn' hs=>?_) hcls
  obtain⟨oL,_,_,tz,_⟩:=id hn;refine h _ ⟨I.ok,I.os,I.bare,⟨λb o e n hb hx=>?_,λb o e n hb hx=>?_,I.base.free,λb o e hx=>?_,I.base.tups,I.base.frzs,I.base.tbls⟩,⟨_,hn',λj y v' e1 e2 e3=>?_⟩,λy c e=>?_,I.free,I.freeC,λp hp=>?_,vi ⟨oL,tz,I.free⟩ hs,by simpa using I.len⟩ ⟨_,hs,.inl rfl⟩
  .exact(hs.2 b (cQ (iO (bU e) I.ok.above))).trans (I.base.keep b o e n hb hx)
  .obtain⟨sl,e1⟩:=I.base.slot b o e n hb hx;exact⟨sl,(hs.2 b (cQ (iO (bU e) I.ok.above))).trans e1⟩
  .obtain⟨o',e1⟩:=I.base.there b o e hx;exact⟨o',(hs.2 b (cQ (iO (bU e) I.ok.above))).trans e1⟩
  .by_cases hj:j=i
   .subst hj;rw[hi] at e1;cases e1;rw[qG W8] at e2;cases e2;exact⟨u,r,.inl ⟨hk,by simp⟩⟩
   .rw[mJ (gV hj)] at e2;obtain⟨u',r',q⟩:=hl j y v' e1 e2 e3;refine⟨u',r',?_⟩;rcases q with⟨k,e⟩|⟨k,c,e,z⟩
    .refine .inl ⟨k,?_⟩;have:y≠x:=λe=>hj (XG hN e1 (e ▸ hi))
     simp[this,e]
    .exact .inr ⟨k,c,e,z.sameBut hs (cne y c e)⟩
  .obtain⟨w',z⟩:=I.cell y c e;exact⟨w',z.sameBut hs (cne y c e)⟩
  .obtain⟨e,n,ne,nf,d⟩:=I.pin p hp;exact⟨(hs.2 p.1 ne).trans e,n,ne,nf,d⟩
 .have hfn:X.fn x=af:=by
   rcases hf with z|z
   .exact z
   .rw[z] at hk;cases hk
  obtain⟨c,hc⟩:=I.ok.has x (.inl hk);obtain⟨w',z⟩:=I.cell x c hc;refine wpAny_storeName_cell I.ok.kind hk hc z (λh' ji hs=>?_)
  obtain⟨oc,hoc,hocd⟩:=id z;refine h { s with heap:=h' } ⟨I.ok,I.os,I.bare,⟨λb o e n hb hx=>?_,λb o e n hb hx=>?_,I.base.free,λb o e hx=>?_,I.base.tups,I.base.frzs,I.base.tbls⟩,⟨m,hn.sameBut hs (gV (cne x c hc)),λj y v' e1 e2 e3=>?_⟩,λy c' e=>?_,I.free,I.freeC,λp hp=>?_,vi ⟨oc,hoc,I.freeC x c hc⟩ hs,by simpa using I.len⟩ ⟨c,hs,.inr hc⟩
  .exact(hs.2 b (cQ (iO (bU e) (I.ok.cab x c hfn hc)))).trans (I.base.keep b o e n hb hx)
  .obtain⟨sl,e1⟩:=I.base.slot b o e n hb hx;exact⟨sl,(hs.2 b (cQ (iO (bU e) (I.ok.cab x c hfn hc)))).trans e1⟩
  .obtain⟨o',e1⟩:=I.base.there b o e hx;exact⟨o',(hs.2 b (cQ (iO (bU e) (I.ok.cab x c hfn hc)))).trans e1⟩
  .by_cases hj:j=i
   .subst hj;rw[hi] at e1;cases e1;rw[qG W8] at e2;cases e2;exact⟨u,r,.inr ⟨.inl hk,c,hc,ji⟩⟩
   .rw[mJ (gV hj)] at e2;obtain⟨u',r',q⟩:=hl j y v' e1 e2 e3;refine⟨u',r',?_⟩;rcases q with q|⟨k,c',e,z'⟩
    .exact .inl q
    .refine .inr ⟨k,c',e,z'.sameBut hs ?_⟩;rintro rfl;exact hj (XG hN e1 (I.ok.inj _ _ _ e hc ▸ hi))
  .by_cases hcc:c'=c
   .subst hcc;exact⟨_,ji⟩
   .obtain⟨w2,z2⟩:=I.cell y c' e;exact⟨w2,z2.sameBut hs hcc⟩
  .obtain⟨e,n,ne,nf,d⟩:=I.pin p hp;refine⟨(hs.2 p.1 ?_).trans e,n,ne,nf,d⟩;intro q;rw[q,hoc] at e;have q':=eO e;exact d w' (by rw[<-q'];exact hocd)
theorem XI{v:V}{Q:Unit->aH->Prop}(I:Inv X ah Z H s)(hN:X.N.Nodup)(hi:X.N[i]?=aa x)(hx:jR X.env.scope x)(r:RelV v u)
  (h:∀ s',Inv X ah (Z.set i (aa v)) H s'->Q () s') (hf:X.fn x=af\/X.env.scope.names.lookup x=aa .local:=by first|exact .inl rfl|exact .inr rfl|assumption):aM M A (storeName X.env x u) Q E s:=
 ZT I hN hi hx r (λs' I' _=>h s' I') hf
theorem Inv.call'(I:Inv X ah Z H s)(ho:s'.os=s.os)(u:Un (xf X.stack) ch H H' s.heap s'.heap)(hok:HOk X.prog X.w H' s'.heap)(hg:rW s'.gens)
  (yn:∀ b∈ch,(b∈X.ex\/X.s₀.heap.objs.size<=b)/\b≠X.env.locals/\(∀ x c,X.env.cells.lookup x=aa c->c≠b)/\∀ p∈X.pn++ah,p.1≠b):Inv X ah Z H' s':=by
 obtain⟨h',g',d',t',o'⟩:=s';have e:=ho;subst e;exact I.call u hok hg yn
end
abbrev XK:=aD->Option aC->Hp->Prop
abbrev St:=List (Option V)
abbrev VK:=V->Hp->Prop
abbrev TE:=St->Hp->VK->Prop
abbrev TT:=St->Hp->(Bool->Hp->Prop)->Prop
abbrev TA:=St->Hp->(List V->Hp->Prop)->Prop
structure Ends where
 nx:St->Hp->Prop
 rt:VK
 bk:St->Hp->Prop:=λ_ _=>False
 ct:St->Hp->Prop:=λ_ _=>False
abbrev TS:=Ends->St->Hp->Prop
def EP (X:Cx)(ah:List (aC×bB))(Z:St)(Q:VK)(u:aD)(s':aH):Prop:=∃ v H',Inv X ah Z H' s'/\RelV v u/\Q v H'
def TP (X:Cx)(ah:List (aC×bB))(Z:St)(Q:Bool->Hp->Prop)(b:Bool)(s':aH):Prop:=∃ H',Inv X ah Z H' s'/\Q b H'
def AP (X:Cx)(ah:List (aC×bB))(Z:St)(Q:List V->Hp->Prop)(us:List aD)(s':aH):Prop:=∃ vs H',Inv X ah Z H' s'/\Vals vs us/\Q vs H'
def SP (X:Cx)(ah:List (aC×bB))(D:Ends)(f:Flow)(s':aH):Prop:=
 match f with
 |.next=>∃ σ' H',Inv X ah σ' H' s'/\D.nx σ' H'
 |.brk=>∃ σ' H',Inv X ah σ' H' s'/\D.bk σ' H'
 |.cont=>∃ σ' H',Inv X ah σ' H' s'/\D.ct σ' H'
 |.ret u=>∃ v σ' H',Inv X ah σ' H' s'/\RelV v u/\D.rt v H'
def PE (X:Cx)(e:aR)(t:TE):Prop:=
 ∀ (ah:List (aC×bB)) (s:aH) (Z:St) (H:Hp) (Q:VK),Inv X ah Z H s->t Z H Q->aM (aO X.prog X.w) X.A (bK e X.env) (EP X ah Z Q) X.xe s
def PT (X:Cx)(e:aR)(t:TT):Prop:=
 ∀ (ah:List (aC×bB)) (s:aH) (Z:St) (H:Hp) (Q:Bool->Hp->Prop),Inv X ah Z H s->t Z H Q->aM (aO X.prog X.w) X.A (isTrue e X.env (bK e X.env)) (TP X ah Z Q) X.xe s
def PW (X:Cx)(e:aR)(t:TT):Prop:=
 ∀ (jk:Sem aD) (ah:List (aC×bB)) (s:aH) (Z:St) (H:Hp) (Q:Bool->Hp->Prop),Inv X ah Z H s->t Z H Q->aM (aO X.prog X.w) X.A (isTrue e X.env jk) (TP X ah Z Q) X.xe s
theorem PW.pt {X:Cx}{t:TT}(h:PW X e t):PT X e t:=h _
def PA (X:Cx)(es:List aR)(t:TA):Prop:=
 ∀ (pos:bQ) (ah:List (aC×bB)) (s:aH) (Z:St) (H:Hp) (Q:List V->Hp->Prop),Inv X ah Z H s->t Z H Q->aM (aO X.prog X.w) X.A (spliced (fY pos (bJ es X.env))) (AP X ah Z Q) X.xe s
def PS (X:Cx)(st:bS)(t:TS):Prop:=
 ∀ (ah:List (aC×bB)) (s:aH) (Z:St) (H:Hp) (D:Ends),Inv X ah Z H s->t D Z H->aM (aO X.prog X.w) X.A (exec st X.env) (SP X ah D) X.xe s
def PSs (X:Cx)(st:List bS)(t:TS):Prop:=
 ∀ (ah:List (aC×bB)) (s:aH) (Z:St) (H:Hp) (D:Ends),Inv X ah Z H s->t D Z H->aM (aO X.prog X.w) X.A (execs st X.env) (SP X ah D) X.xe s
theorem bf {α:Type}{t:Sem α}{Q Q':α->aH->Prop}(h:aM M A t Q E s)(hQ:∀ a s,Q a s->Q' a s):aM M A t Q' E s:=lG h hQ λ_ _ x=>x
section
variable {X:Cx}
abbrev Kp (i:Nat):TE:=λZ H Q=>∃ v,Z[i]?=aa (aa v)/\Q v H
abbrev tC (v:V):TE:=λ_ H Q=>Q v H
theorem jL(hN:X.N[i]?=aa x)(hv:iP X.env.scope x)(hd:(x==("__debug__" : aE))=ag:=by decide)(fj:(x==("__classdict__" : aE))=ag:=by decide):PE X (.Name x pos) (Kp i):=by
 rw[14];obtain⟨v,e,h⟩:=h;obtain⟨m,hn,hl⟩:=I.loc;obtain⟨u,r,l⟩:=hl i x v hN e hv;have fin:EP X ah Z Q u s:=⟨v,H,I,r,h⟩;rcases l with⟨hk,hm⟩|⟨hk,c,hc,vj⟩
 .exact wpAny_Name (wpAny_loadName_local I.ok.kind hk hn hm fin) hd
 .rcases hk with hk|hk
  .exact wpAny_Name (wpAny_loadName_cell I.ok.kind hk hc vj fin) hd
  .exact wpAny_Name (wpAny_loadName_free I.ok.kind hk hc vj fin fj) hd
theorem WM {i j pos}:PE X (.Constant (.int i) j pos) (tC (.int i)):=λ_ _ _ H _ I h=>wpAny_Constant_int ⟨.int i,H,I.tok _,⟨_,rfl⟩,h⟩
theorem Mx {b j pos}:PE X (.Constant (.bool b) j pos) (tC (.bl b)):=λ_ _ _ H _ I h=>Constant_bool ⟨.bl b,H,I,rfl,h⟩
theorem WL {j pos}:PE X (.Constant .none j pos) (tC .non):=λ_ _ _ H _ I h=>Constant_none ⟨.non,H,I,rfl,h⟩
theorem Ow {x j pos}:PE X (.Constant (.str x) j pos) (tC (.str x)):=λ_ _ _ H _ I h=>Calls.Constant_str ⟨.str x,H,I.tok _,⟨_,rfl⟩,h⟩
def Gl (X:Cx)(x:aE):Prop:=X.env.kindOf x=aa .globalImplicit
theorem Gi{Z:St}{H:Hp}(I:Inv X ah Z H s)(hg:Gl X x)(hm:X.mg x=aa u)(h:Q u s)
  (hd:(x==("__debug__" : aE))=ag:=by decide):aM (aO X.prog X.w) X.A (bK (.Name x pos) X.env) Q E s:=
 Calls.Name_function_global I.ok.kind hg (Calls.loadGlobal_global (by rw[I.ok.glob];exact I.mod.glob.keeps I.bk) hm h) hd
theorem sU{Z:St}{H:Hp}(I:Inv X ah Z H s)(hg:Gl X x)(hm:X.mg x=ae)(hv:nK x=aa u)(h:Q u s)
  (hn:x ≠ "__name__":=by decide) (hd:(x==("__debug__" : aE))=ag:=by decide):aM (aO X.prog X.w) X.A (bK (.Name x pos) X.env) Q E s:=by
 obtain⟨mb,h1,h2⟩:=I.mod.blt;exact Calls.Name_function_global I.ok.kind hg (Calls.loadGlobal_builtin (by rw[I.ok.glob];exact I.mod.glob.keeps I.bk) hm (by rw[I.ok.blt];exact h1.keeps I.bk) ((h2 x hn).trans hv) h) hd
theorem Ry{v:V}(hg:Gl X x)(hm:X.mg x=aa u)(r:RelV v u)(hd:(x==("__debug__" : aE))=ag:=by decide):PE X (.Name x pos) (tC v):=
 λ_ _ _ H _ I h=>Gi I hg hm ⟨v,H,I,r,h⟩ hd
theorem Tp{v:V}(hg:Gl X x)(hm:X.mg x=ae)(hv:nK x=aa u)(r:RelV v u)(hn:x ≠ "__name__":=by decide)(hd:(x==("__debug__" : aE))=ag:=by decide):PE X (.Name x pos) (tC v):=
 λ_ _ _ H _ I h=>sU I hg hm hv ⟨v,H,I,r,h⟩ hn hd
variable {a b:aR}{ta tb:TE}
def tB (t:TE):TT:=λZ H Q=>t Z H λx H1=>∃ c,x=.bl c/\Q c H1
theorem Na{t:TE}(h:PE X e t)(he:∀ jk,isTrue e X.env jk=(do let v <-jk;standAt e.pos;nJ [v] (truthy v)):=by intro _;rfl):PT X e (tB t):=by
 intro ah s Z H Q I hw;refine isTrue_plain (bf (h ah s Z H _ I hw) λv s1 ⟨x,H1,I1,r1,q1⟩=>?_) (he _)
 obtain⟨d,rfl,q⟩:=q1;cases r1;exact PN ⟨H1,I1,q⟩
variable {tA tB':TT}{rest:List aR}
def Ll (t u:TT):TT:=λZ H Q=>t Z H λc H1=>if c=af then u Z H1 Q else Q ag H1
def tOr (t u:TT):TT:=λZ H Q=>t Z H λc H1=>if c=af then Q af H1 else u Z H1 Q
def Lk (t:TT):TT:=λZ H Q=>t Z H λc H1=>Q (!c) H1
theorem Sz (ha:PT X a tA):PW X (.BoolOp .And [a] pos) tA:=by
 intro wh ah s Z H Q I h;refine isTrue_and (bf (ha ah s Z H Q I h) λc s1 e=>?_)
 cases c with
 |true=>exact isTrue_and_nil e
 |false=>exact e
theorem WI (ha:PT X a tA):PW X (.BoolOp .Or [a] pos) tA:=by
 intro wh ah s Z H Q I h;refine isTrue_or (bf (ha ah s Z H Q I h) λc s1 e=>?_)
 cases c with
 |false=>exact isTrue_or_nil e
 |true=>exact e
theorem Oa (ha:PT X a tA)(hb:PW X (.BoolOp .And (b::rest) pos) tB'):PW X (.BoolOp .And (a::b::rest) pos) (Ll tA tB'):=by
 intro wh ah s Z H Q I h;refine isTrue_and (bf (ha ah s Z H _ I h) λc s1 gh=>?_)
 obtain⟨H1,I1,q1⟩:=gh;cases c with
 |true=>exact hb wh ah s1 Z H1 Q I1 q1
 |false=>exact⟨H1,I1,q1⟩
theorem UP (ha:PT X a tA)(hb:PW X (.BoolOp .Or (b::rest) pos) tB'):PW X (.BoolOp .Or (a::b::rest) pos) (tOr tA tB'):=by
 intro wh ah s Z H Q I h;refine isTrue_or (bf (ha ah s Z H _ I h) λc s1 gh=>?_)
 obtain⟨H1,I1,q1⟩:=gh;cases c with
 |true=>exact⟨H1,I1,q1⟩
 |false=>exact hb wh ah s1 Z H1 Q I1 q1
theorem Pq (ha:PT X a tA):PT X (.UnaryOp .Not a pos) (Lk tA):=by
 rw[14];exact isTrue_not (ha ah s Z H (λc H1=>Q (!c) H1) I h)
def Lw (ta tb:TE):TE:=λZ H Q=>ta Z H λx H1=>∃ c,x=.bl c/\if c=af then tb Z H1 Q else Q (.bl ag) H1
theorem Pc {op}{t:TE}(h:PE X a t):PE X (.BoolOp op [a] pos) t:=λah s Z H Q I hw=>BoolOp_one (h ah s Z H Q I hw)
theorem Pb (ha:PE X a ta)(hb:PE X (.BoolOp .And (b::rest) pos) tb):PE X (.BoolOp .And (a::b::rest) pos) (Lw ta tb):=by
 rw[14];refine BoolOp_and (bf (ha ah s Z H _ I h) λv s1 gh=>?_)
 obtain⟨x,H1,I1,r1,q1⟩:=gh;obtain⟨c,rfl,q1⟩:=q1;cases r1;refine PN ?_;cases c with
 |true=>exact hb ah s1 Z H1 Q I1 q1
 |false=>exact⟨.bl ag,H1,I1,rfl,q1⟩
def tIf (t:TT)(ta tb:TE):TE:=λZ H Q=>t Z H λc H1=>if c=af then ta Z H1 Q else tb Z H1 Q
theorem YY(hc:PT X c tA)(ha:PE X a ta)(hb:PE X b tb):PE X (.IfExp c a b pos) (tIf tA ta tb):=by
 rw[14];refine wpAny_IfExp (bf (hc ah s Z H _ I h) λd s1 gh=>?_)
 obtain⟨H1,I1,q1⟩:=gh;cases d with
 |true=>exact ha ah s1 Z H1 Q I1 q1
 |false=>exact hb ah s1 Z H1 Q I1 q1
end
def SqL (K:aJ)(H:Hp)(a:aC)(xs:List V):Prop:=
 Rd H a (.lst xs) \/
  ∃ (o:bB) (its:Array aD) (n:Nat),K.lookup a=aa o/\o.cls=.type "list" /\ o.dict=ae/\o.data=.seq its n/\its.size<=sizeLine/\Vals xs its.toList
def SqT (K:aJ)(H:Hp)(a:aC)(xs:List V):Prop:=
 Rd H a (.tup xs) \/
  ∃ (o:bB) (its:Array aD) (n:Nat),K.lookup a=aa o/\o.cls=.type "tuple" /\ o.data=.seq its n/\its.size<=sizeLine/\Vals xs its.toList
def Kz:aD->Option V
 |.none=>aa .non
 |.bool b=>aa (.bl b)
 |.int i _=>aa (.int i)
 |.str x _=>aa (.str x)
 |.bytes b _=>aa (.byt b)
 |.float b _=>aa (.flt b)
 |.ref a=>aa (.ref a)
 |.type n=>aa (.ty n)
 |_=>ae
theorem RelV.abs {x:V}(r:RelV x u):Kz u=aa x:=by
 cases x with
 |non=>cases r;rfl
 |bl _=>cases r;rfl
 |int _=>obtain⟨t,rfl⟩:=r;rfl
 |str _=>obtain⟨t,rfl⟩:=r;rfl
 |byt _=>obtain⟨t,rfl⟩:=r;rfl
 |flt _=>obtain⟨t,rfl⟩:=r;rfl
 |ref _=>cases r;rfl
 |ty _=>cases r;rfl
theorem RelV.inj {x y:V}(r:RelV x u)(q:RelV y u):x=y:=eO (r.abs.symm.trans q.abs)
theorem Vals.inj:∀ {xs ys:List V} {us:List aD},Vals xs us->Vals ys us->xs=ys:=by
 intro xs ys us h;induction h generalizing ys with
 |nil=>intro h;cases h;rfl
 |cons r _ ih=>
  intro h;cases h with
  |cons r' t'=>rw[r.inj r',ih t']
section
variable {X:Cx}{Z:St}{H:Hp}{xs ys:List V}
theorem SqL.of(h:H a=aa (.lst xs)):SqL K H a xs:=.inl (.inl h)
theorem SqT.of(h:H a=aa (.tup xs)):SqT K H a xs:=.inl (.inl h)
theorem Inv.list (I:Inv X ah Z H s)(h:SqL X.K H a xs):∃ its:List aD,Vals xs its/\PlainL s.heap a its.toArray/\xs.length<=sizeLine:=by
 rcases h with h|⟨o,its,n,hk,hc,hd,hs,hz,r⟩
 .obtain⟨z,its,n,r,e⟩:=h.ok I.hok;exact⟨its,r,⟨_,n,e,rfl,rfl,rfl⟩,z⟩
 .refine⟨its.toList,r,⟨o,n,I.kIn a o hk,hc,hd,by simpa using hs⟩,?_⟩
  have e:=r.length;simp only[fC] at e;omega
theorem Inv.tuple (I:Inv X ah Z H s)(h:SqT X.K H a xs):∃ its:List aD,Vals xs its/\IsTup s.heap a its.toArray/\xs.length<=sizeLine:=by
 rcases h with h|⟨o,its,n,hk,hc,hs,hz,r⟩
 .obtain⟨z,its,r,p⟩:=h.ok I.hok;exact⟨its,r,p.1,z⟩
 .refine⟨its.toList,r,⟨o,I.kIn a o hk,hc,n,by simpa using hs⟩,?_⟩
  have e:=r.length;simp only[fC] at e;omega
theorem Inv.list_inj (I:Inv X ah Z H s)(h:SqL X.K H a xs)(h':SqL X.K H a ys):xs=ys:=by
 obtain⟨its,r,⟨o,n,e,_,_,d⟩,_⟩:=I.list h;obtain⟨kz,r',⟨o',n',e',_,_,d'⟩,_⟩:=I.list h';rw[e] at e';cases e';rw[d] at d';injection d' with d1 _;have:its=kz:=by simpa using congrArg Array.toList d1
 rw[19];exact r.inj r'
theorem Inv.tuple_inj (I:Inv X ah Z H s)(h:SqT X.K H a xs)(h':SqT X.K H a ys):xs=ys:=by
 obtain⟨its,r,⟨o,e,_,n,d⟩,_⟩:=I.tuple h;obtain⟨kz,r',⟨o',e',_,n',d'⟩,_⟩:=I.tuple h';rw[e] at e';cases e';rw[d] at d';injection d' with d1 _;have:its=kz:=by simpa using congrArg Array.toList d1
 rw[19];exact r.inj r'
end
abbrev Cx.wish (X:Cx)(E:aD->aH->Prop):Cx:={ X with xe:=E }
abbrev Cx.nox (X:Cx):Cx:=X.wish λ_ _=>False
theorem Cx.Ok.wish {X:Cx}(ok:X.Ok)(E:aD->aH->Prop):(X.wish E).Ok:=
 ⟨ok.mod,ok.kind,ok.glob,ok.blt,ok.above,ok.inj,ok.has,ok.cab,ok.hd,ok.frames,ok.stk,ok.exf,ok.bs,ok.bsz,ok.noex,ok.exfs,ok.funs,ok.frf⟩
theorem Cx.Ok.unwish {X:Cx}(ok:(X.wish E).Ok):X.Ok:=
 ⟨ok.mod,ok.kind,ok.glob,ok.blt,ok.above,ok.inj,ok.has,ok.cab,ok.hd,ok.frames,ok.stk,ok.exf,ok.bs,ok.bsz,ok.noex,ok.exfs,ok.funs,ok.frf⟩
section
variable {X:Cx}{Z:St}{H:Hp}
theorem Inv.wish (I:Inv X ah Z H s)(E:aD->aH->Prop):Inv (X.wish E) ah Z H s:=⟨I.ok.wish E,I.os,I.bare,I.base,I.loc,I.cell,I.free,I.freeC,I.pin,I.hok,I.len⟩
theorem Inv.unwish (I:Inv (X.wish E) ah Z H s):Inv X ah Z H s:=⟨I.ok.unwish,I.os,I.bare,I.base,I.loc,I.cell,I.free,I.freeC,I.pin,I.hok,I.len⟩
theorem SP.unwish {D:Ends}{f:Flow}(h:SP (X.wish E) ah D f s'):SP X ah D f s':=by
 cases f with
 |next=>obtain⟨σ',H',I,q⟩:=h;exact⟨σ',H',I.unwish,q⟩
 |brk=>obtain⟨σ',H',I,q⟩:=h;exact⟨σ',H',I.unwish,q⟩
 |cont=>obtain⟨σ',H',I,q⟩:=h;exact⟨σ',H',I.unwish,q⟩
 |ret u=>obtain⟨v,σ',H',I,r,q⟩:=h;exact⟨v,σ',H',I.unwish,r,q⟩
theorem PSs.nox {st:List bS}{t:TS}(h:PSs X.nox st t):PSs X st t:=λah s Z H D I hw=>
 lG (h ah s Z H D (I.wish _) hw) (λ_ _ q=>q.unwish) λ_ _ z=>qJ z
end
section
variable {X:Cx}{st:bS}{rest:List bS}{t u:TS}{te:TE}
def UA:TS:=λD Z H=>D.nx Z H
def Kv (t u:TS):TS:=λD Z H=>t { D with nx:=u D } Z H
theorem Gf:PSs X [] UA:=λ_ _ Z H _ I h=>PY ⟨Z,H,I,h⟩
theorem Vv (h1:PS X st t)(h2:PSs X rest u):PSs X (st::rest) (Kv t u):=by
 rw[21];refine wpAny_execs_cons (bf (h1 ah s Z H { D with nx:=u D } I h) λf s1 q=>?_)
 cases f with
 |next=>
  obtain⟨σ',H',I',q⟩:=q;exact h2 ah s1 σ' H' D I' q
 |ret v=>exact q
 |brk=>exact q
 |cont=>exact q
theorem Uh (h1:PS X st t):PSs X [st] t:=by
 rw[21];refine wpAny_execs_cons (bf (h1 ah s Z H D I h) λf s1 q=>?_)
 cases f with
 |next=>exact PY q
 |ret v=>exact q
 |brk=>exact q
 |cont=>exact q
theorem Inv.quiet{Z:St}{H:Hp}(I:Inv X ah Z H s):interactive X.env=ag:=by simp[interactive,I.ok.kind]
def Nl (te:TE):TS:=λD Z H=>te Z H λ_ H1=>D.nx Z H1
theorem JP (he:PE X e te)(hs:kP e ae pos.line X.env=pure ag:=by rfl):PS X (.Expr e pos) (Nl te):=by
 rw[21];exact wpAny_Expr_any (bf (he ah s Z H _ I h) λv s1 ⟨x,H1,I1,r1,q1⟩=>⟨Z,H1,I1,q1⟩) I.quiet hs
def Lg (te:TE):TS:=λD Z H=>te Z H D.rt
theorem CJ (he:PE X e te):PS X (.Return (aa e) pos) (Lg te):=by
 rw[21];exact wpAny_Return_some (bf (he ah s Z H _ I h) λv s1 ⟨x,H1,I1,r1,q1⟩=>⟨x,Z,H1,I1,r1,q1⟩)
def Lp (c:TT)(t u:TS):TS:=λD Z H=>c Z H λb H1=>if b=af then t D Z H1 else u D Z H1
theorem UN{a b:List bS}{tc:TT}(hc:PT X c tc)(ha:PSs X a t)(hb:PSs X b u):PS X (.If c a b pos) (Lp tc t u):=by
 rw[21];refine wpAny_If (bf (hc ah s Z H _ I h) λd s1 gh=>?_)
 obtain⟨H1,I1,q1⟩:=gh;cases d with
 |true=>exact ha ah s1 Z H1 D I1 q1
 |false=>exact hb ah s1 Z H1 D I1 q1
end
abbrev TG:=V->St->Hp->(St->Hp->Prop)->Prop
abbrev U7:=List V->St->Hp->(St->Hp->Prop)->Prop
def PG (X:Cx)(lf:aR)(t:TG):Prop:=
 ∀ (ah:List (aC×bB)) (s:aH) (Z:St) (H:Hp) (v:V) (u:aD) (Q:St->Hp->Prop),Inv X ah Z H s->RelV v u->t v Z H Q ->
  aM (aO X.prog X.w) X.A (lH lf X.env u) (λ_ s'=>∃ σ' H',Inv X ah σ' H' s'/\Q σ' H') X.xe s
def PGs (X:Cx)(ts:List aR)(t:U7):Prop:=
 ∀ (ah:List (aC×bB)) (s:aH) (Z:St) (H:Hp) (vs:List V) (us:List aD) (Q:St->Hp->Prop),Inv X ah Z H s->Vals vs us->t vs Z H Q ->
  aM (aO X.prog X.w) X.A (assignInOrder ((iM ts X.env).map (·.2)) us) (λ_ s'=>∃ σ' H',Inv X ah σ' H' s'/\Q σ' H') X.xe s
abbrev IC:=V->V->V->Hp->(Hp->Prop)->Prop
def SR (X:Cx)(t:IC):Prop:=
 ∀ (ah:List (aC×bB)) (s:aH) (Z:St) (H:Hp) (o i v:V) (ov iv u:aD) (Q:Hp->Prop),Inv X ah Z H s->RelV o ov->RelV i iv->RelV v u->t o i v H Q ->
  aM (aO X.prog X.w) X.A (setItem ov iv u) (λ_ s'=>∃ H',Inv X ah Z H' s'/\Q H') X.xe s
section
variable {X:Cx}
def IL (i:Nat):TG:=λv Z H Q=>Q (Z.set i (aa v)) H
theorem vH(hN:X.N.Nodup)(hi:X.N[i]?=aa x)(hx:jR X.env.scope x)(hf:X.fn x=af\/X.env.scope.names.lookup x=aa .local:=by first|exact .inl rfl|exact .inr rfl|assumption):PG X (.Name x pos) (IL i):=by
 intro ah s Z H v u Q I r h;exact wpAny_assign_Name (XI I hN hi hx r (λs' I'=>⟨_,H,I',h⟩) hf)
def Kt:U7:=λvs Z H Q=>vs=[]/\Q Z H
def Nm (t:TG)(u:U7):U7:=λvs Z H Q=>∃ v r,vs=v::r/\t v Z H λσ' H'=>u r σ' H' Q
theorem Gs:PGs X [] Kt:=by
 intro ah s Z H vs us Q I r h;obtain⟨e,h⟩:=h;subst e;cases r;exact assignInOrder_nil ⟨Z,H,I,h⟩
theorem EL{t:TG}{u:U7}(h1:PG X e t)(h2:PGs X es u)
  (hs:(iM (e::es) X.env).map (·.2)=lH e X.env::(iM es X.env).map (·.2):=by rfl):PGs X (e::es) (Nm t u):=by
 intro ah s Z H vs us Q I r h;obtain⟨v,vr,e1,h⟩:=h;subst e1;cases r with
 |cons r rr=>
  rw[hs];refine assignInOrder_cons (bf (h1 ah s Z H _ _ _ I r h) λ_ s1 gh=>?_)
  obtain⟨σ1,H1,I1,q1⟩:=gh;exact h2 ah s1 σ1 H1 _ _ Q I1 rr q1
def Ks (K:aJ)(n:Nat)(t:U7):TG:=λv Z H Q=>∃ a xs,v=.ref a/\SqT K H a xs/\xs.length=n/\t xs Z H Q
theorem WC{t:U7}{n:Nat}(hc:X.calm=af)(h:PGs X es t)
  (hn:(iM es X.env).length=n:=by rfl) (jy:(iM es X.env).findIdx? (·.1)=ae:=by rfl):PG X (.Tuple es k pos) (Ks X.K n t):=by
 intro ah s Z H v u Q I r hw;obtain⟨a,xs,e1,hq,hl,hw⟩:=hw;subst e1;cases r;obtain⟨its,rv,ht,hz⟩:=I.tuple hq;refine assign_Tuple_tuple (I.ok.hd hc) ht (by simp[hn,<-hl,rv.length]) jy λh' hx=>?_
 have I1:Inv X ah Z H { s with heap:=h' }:=I.kept (t':=s.toks) λb o e=>hx b o (cQ (bU e)) e
 exact h ah _ Z H xs _ Q I1 (by simpa using rv) hw
def Lf (to ti:TE)(t:IC):TG:=λv Z H Q=>to Z H λo H1=>ti Z H1 λi H2=>t o i v H2 λH3=>Q Z H3
theorem UY {o i:aR}{to ti:TE}{t:IC}(ho:PE X o to)(hi:PE X i ti)(hs:SR X t)
  (ha:∀ v,lH (.Subscript o i pos) X.env v=(do
   let ov <-nJ [v] (bK o X.env)
   let iv <-nJ [v,ov] (bK i X.env)
   standAt pos
   nJ [v,ov,iv] (setItem ov iv v)
   release [v,ov,iv] []):=by intro _;rfl):PG X (.Subscript o i pos) (Lf to ti t):=by
 intro ah s Z H v u Q I r h;rw[ha];refine aF (fA (bf (ho ah s Z H _ I h) λov s1 gh=>?_))
 obtain⟨x,H1,I1,r1,q1⟩:=gh;refine aF (fA (bf (hi ah s1 Z H1 _ I1 q1) λiv s2 gh=>?_))
 obtain⟨y,H2,I2,r2,q2⟩:=gh;refine aF (wpAny_standAt (aF (fA (bf (hs ah s2 Z H2 x y v ov iv u _ I2 r1 r2 r q2) λ_ s3 gh=>?_))))
 obtain⟨H3,I3,q3⟩:=gh;exact wpAny_release ⟨Z,H3,I3,q3⟩
def HW (te:TE)(g:TG):TS:=λD Z H=>te Z H λx H1=>g x Z H1 D.nx
theorem VF{te:TE}{g:TG}(he:PE X e te)(hg:PG X tg g)(hs:swapsWithSole [tg] e pos.line X.env=pure ag:=by rfl)(hw:swappedStores [tg] e X.env=pure ae:=by rfl)
  (h1:(iM [tg] X.env).map (·.2)=[lH tg X.env]:=by rfl):PS X (.Assign [tg] e pos) (HW te g):=by
 rw[21];refine wpAny_Assign_stores (bf (he ah s Z H _ I h) λv s1 ⟨x,H1,I1,r1,q1⟩=>?_) hs hw
 rw[h1];exact bf (hg ah s1 Z H1 x v _ I1 r1 q1) λ_ s2 q=>q
theorem OX{te:TE}{qj:bQ}(hN:X.N.Nodup)(hi:X.N[i]?=aa x)(hx:jR X.env.scope x)(he:PE X e te)(hs:kP e (aa (.Name x qj)) pos.line X.env=pure ag:=by rfl)(hf:X.fn x=af\/X.env.scope.names.lookup x=aa .local:=by first|exact .inl rfl|exact .inr rfl|assumption) :
  PS X (.Assign [.Name x qj] e pos) (HW te (IL i)):=by
 rw[21];refine wpAny_Assign_Name (bf (he ah s Z H _ I h) λv s1 ⟨y,H1,I1,r1,q1⟩=>?_) hs
 exact XI I1 hN hi hx r1 (λs2 I2=>⟨_,H1,I2,q1⟩) hf
end
section
variable {X:Cx}
def Oj (c:TT)(tb:TS):TS:=λD Z H=>∃ W:Nat->St->Hp->Prop,(∃ m,W m Z H)/\∀ m Z H,W m Z H ->
 c Z H λb H1=>if b=af then ∃ N:St->Hp->Prop,(∀ σ' H',N σ' H'->∃ m',m'<m/\W m' σ' H')/\tb { D with nx:=N,ct:=N,bk:=D.nx } Z H1 else D.nx Z H1
theorem Wd{tc:TT}{tb:TS}(hp:BD (aO X.prog X.w) X.A X.env X.xe)(hc:PT X c tc)(hb:PSs X body tb):PS X (.While c body [] pos) (Oj tc tb):=by
 rw[21];obtain⟨W,⟨m0,w0⟩,uc⟩:=h;refine wpAny_While (codeAny_whileLoop (λn s'=>∃ σ' H',Inv X ah σ' H' s'/\W n σ' H') ?_ m0 ⟨Z,H,I,w0⟩)
 rintro n s1 ⟨σ1,H1,I1,w1⟩;refine wO hp (bf (hc ah s1 σ1 H1 _ I1 (uc n σ1 H1 w1)) λb s2 gh=>?_)
 obtain⟨H2,I2,q2⟩:=gh;cases b with
 |true=>
  obtain⟨N,hN,q2⟩:=q2;rw[if_pos rfl];refine wO hp (bf (hb ah s2 σ1 H2 _ I2 q2) λf s3 q3=>?_)
  cases f with
  |next=>
   obtain⟨σ3,H3,I3,n3⟩:=q3;obtain⟨m',hm,w3⟩:=hN σ3 H3 n3;exact⟨m',hm,σ3,H3,I3,w3⟩
  |cont=>
   obtain⟨σ3,H3,I3,n3⟩:=q3;obtain⟨m',hm,w3⟩:=hN σ3 H3 n3;exact⟨m',hm,σ3,H3,I3,w3⟩
  |brk=>exact q3
  |ret v=>exact q3
 |false=>
  rw[if_neg mN];exact PY ⟨σ1,H2,I2,q2⟩
end
structure It where
 go:Nat->Hp->Prop
 yld:Nat->Hp->V->Hp->Prop
 stop:Nat->Hp->Prop
def jG (X:Cx)(ah:List (aC×bB))(H:Hp)(b:aC):Prop:=
 H b=ae/\b≠X.env.locals/\b∉X.fs/\(b∈X.ex\/X.s₀.heap.objs.size<=b)/\(∀ x c,X.env.cells.lookup x=aa c->c≠b)/\∀ p∈X.pn++ah,p.1≠b
theorem Inv.fpOk {X:Cx}{Z:St}{H H':Hp}(I:Inv X ah Z H s)(hb:s.heap.objs.size<=b)(hn:H' b=ae):jG X ah H' b:=by
 refine⟨hn,mI (iO I.lt hb),I.nofs hb,.inr (dA I.sz hb),λx c e z=>?_,λp hp z=>?_⟩
 .obtain⟨v,q⟩:=I.cell x c e;exact absurd (iO q.lt (by rw[z];exact hb)) (kS _)
 .exact absurd (iO (bU (I.pin p hp).1) (by rw[z];exact hb)) (kS _)
structure Turn (P:bG)(w:aX)(K:aJ)(tg:aR)(J:It)(fp:List aC)(it:aC)(tn:Nat->aQ->Prop):Prop where
 mem:it∈fp
 obj:∀ i h,tn i h->∀ b∈fp,∃ o,h.get? b=aa o/\∀ v,o.data ≠ .cell v
 keep:∀ i h h',tn i h->(∀ b∈fp,∀ o,h.get? b=aa o->h'.get? b=aa o)->tn i h'
 item:∀ (X:Cx),X.prog=P->X.w=w->X.K=K->X.calm=af->∀ (i:Nat) (ah:List (aC×bB)) (s:aH) (Z:St) (H:Hp) (E:aD->aH->Prop),Inv X ah Z H s->(∀ b∈fp,jG X ah H b)->tn i s.heap->J.go i H ->
  aM (aO P w) X.A (iA (.ref it)) (λr s1=>∃ u,r=aa u /\
   aM (aO P w) X.A (QE tg (.ref it) u) (λ_ s2=>∃ x H',Inv X ah Z H' s2/\RelV x u/\J.yld i H x H'/\tn (i+1) s2.heap/\∀ b∈fp,H' b=ae) E s1) E s
 done:∀ (X:Cx),X.prog=P->X.w=w->X.K=K->X.calm=af->∀ (i:Nat) (ah:List (aC×bB)) (s:aH) (Z:St) (H:Hp) (E:aD->aH->Prop),Inv X ah Z H s->(∀ b∈fp,jG X ah H b)->tn i s.heap->J.stop i H ->
  aM (aO P w) X.A (iA (.ref it)) (λr s1=>r=ae/\Inv X ah Z H s1) E s
 self:∀ (A:bW) (i:Nat) (s:aH) (Q:aD->aH->Prop) (E:aD->aH->Prop),tn i s.heap->Q (.ref it) s->aM (aO P w) A (nH (.ref it)) Q E s
abbrev TI:=St->Hp->(It->Hp->Prop)->Prop
def PIE (X:Cx)(ah:List (aC×bB))(Z:St)(tg:aR)(R:It->Hp->Prop)(itv:aD)(s2:aH):Prop:=
 ∃ (it:aC) (fp:List aC) (tn:Nat->aQ->Prop) (J:It) (H':Hp),itv=.ref it/\Inv X ah Z H' s2/\Turn X.prog X.w X.K tg J fp it tn/\tn 0 s2.heap/\(∀ b∈fp,jG X ah H' b)/\R J H'
def PI (X:Cx)(tg bg:aR)(wi:TI):Prop:=
 ∀ (ah:List (aC×bB)) (s:aH) (Z:St) (H:Hp) (R:It->Hp->Prop),Inv X ah Z H s->wi Z H R ->
  aM (aO X.prog X.w) X.A (bK bg X.env) (λv s1=>aM (aO X.prog X.w) X.A (nH v) (PIE X ah Z tg R) X.xe s1) X.xe s
theorem AO{it:aC}{n:String}{vs:Array aD}{Q:Unit->aH->Prop}(ho:s.heap.get? it=aa o)(hc:o.cls=.type n)(hd:o.data=.fields vs)
    (hn:["enumerate","zip","dict_itemiterator","dict_reverseitemiterator","odict_iterator","itertools.zip_longest","itertools.pairwise"].contains n=ag) (hQ:Q () s):aM M A (QE tg (.ref it) u) Q E s:=by
  unfold QE;cases tg<;>first
    |exact aL hQ
    | (cases u<;>first
        |exact aL hQ
        | (refine aF (wpAny_load ho ?_)
           rw[hc,hd];show aM M A (if (["enumerate","zip","dict_itemiterator","dict_reverseitemiterator","odict_iterator","itertools.zip_longest","itertools.pairwise"].contains n&&vs[0]?==aa (dZ _))=af then _ else _) Q E s
           rw[if_neg (by intro h;rw[hn,Bool.false_and] at h;cases h)]
           exact aL hQ))
def HM (K:aJ)(a:aC):It:=
 ⟨λi H=>∃ xs x,SqL K H a xs/\xs[i]?=aa x,λi H x H'=>H'=H/\∀ xs,SqL K H a xs->xs[i]?=aa x,λi H=>∃ xs,SqL K H a xs/\xs.length<=i⟩
def HK (K:aJ)(a:aC):It:=
 ⟨λi H=>∃ xs x,SqT K H a xs/\xs[i]?=aa x,λi H x H'=>H'=H/\∀ xs,SqT K H a xs->xs[i]?=aa x,λi H=>∃ xs,SqT K H a xs/\xs.length<=i⟩
def xV (lo:Int)(n:Nat):It:=⟨λi _=>i<n,λi H x H'=>H'=H/\x=.int (lo+i),λi _=>n<=i⟩
theorem D4 {P:bG}{w:aX}(a it:aC):Turn P w K tg (HM K a) [it] it (λi h=>h.IsListIter it a i) where
 mem:=by simp
 obj:=λi h st b hb=>by
  have e:b=it:=by simpa using hb
  subst e;obtain⟨o,e,c,d⟩:=st;exact⟨o,e,λv z=>by rw[d] at z;cases z⟩
 keep:=λi h h' st k=>st.at λo e=>k it (by simp) o e
 item:=by
  rw[3];obtain⟨xs,x,hq,hx⟩:=hg;obtain⟨its,rv,p,hz⟩:=I.list hq;obtain⟨u,hu,ru⟩:=rv.get hx;rw[15];refine wpAny_pyNext_list_item st p.isList (x:=u) (by simpa using hu) λh' ni sb=>?_
  have I1:Inv X ah Z H { s with heap:=h' }:=I.turned (t':=s.toks) (λb o hb e=>(sb.2 b hb).trans e) f0 f1 f3 f4 f5
  obtain⟨o,e,c,d⟩:=id ni;exact⟨u,rfl,AO (s:={ s with heap:=h' }) e c d (by decide) ⟨x,H,I1,ru,⟨rfl,λys hy=>by rw[I.list_inj hy hq];exact hx⟩,ni,λb hb=>(hf b hb).1⟩⟩
 done:=by
  rw[3];obtain⟨xs,hq,hx⟩:=hg;obtain⟨its,rv,p,hz⟩:=I.list hq;rw[15];have hl:=rv.length;exact wpAny_pyNext_list_end (I.ok.hd hc) st p.isList (by simp;omega) λh' eb=>⟨rfl,I.turned (t':=s.toks) (λb o hb e=>eb b o hb e) f0 f1 f3 f4 f5⟩
 self:=λ_ _ _ _ _ st h=>wpAny_pyIter_listiter st h
theorem J9 {P:bG}{w:aX}(a it:aC):Turn P w K tg (HK K a) [it] it (λi h=>h.IsTupleIter it a i) where
 mem:=by simp
 obj:=λi h st b hb=>by
  have e:b=it:=by simpa using hb
  subst e;obtain⟨o,e,c,d⟩:=st;exact⟨o,e,λv z=>by rw[d] at z;cases z⟩
 keep:=λi h h' st k=>st.at λo e=>k it (by simp) o e
 item:=by
  rw[3];obtain⟨xs,x,hq,hx⟩:=hg;obtain⟨its,rv,p,hz⟩:=I.tuple hq;obtain⟨u,hu,ru⟩:=rv.get hx;rw[15];refine wpAny_pyNext_tuple_item st (show s.heap.IsTuple a its.toArray from p) (x:=u) (by simpa using hu) λh' ni sb=>?_
  have I1:Inv X ah Z H { s with heap:=h' }:=I.turned (t':=s.toks) (λb o hb e=>(sb.2 b hb).trans e) f0 f1 f3 f4 f5
  obtain⟨o,e,c,d⟩:=id ni;exact⟨u,rfl,AO (s:={ s with heap:=h' }) e c d (by decide) ⟨x,H,I1,ru,⟨rfl,λys hy=>by rw[I.tuple_inj hy hq];exact hx⟩,ni,λb hb=>(hf b hb).1⟩⟩
 done:=by
  rw[3];obtain⟨xs,hq,hx⟩:=hg;obtain⟨its,rv,p,hz⟩:=I.tuple hq;rw[15];have hl:=rv.length;exact wpAny_pyNext_tuple_end (I.ok.hd hc) st (show s.heap.IsTuple a its.toArray from p) (by simp;omega) λh' eb=>⟨rfl,I.turned (t':=s.toks) (λb o hb e=>eb b o hb e) f0 f1 f3 f4 f5⟩
 self:=λ_ _ _ _ _ st h=>wpAny_pyIter_tupleiter st h
theorem J7 {P:bG}{w:aX}(it:aC)(lo:Int)(n:Nat):Turn P w K tg (xV lo n) [it] it (λi h=>IsRangeIter h it (lo+(i:Nat)*1) ((n:Int)-(i:Nat)) 1) where
 mem:=by simp
 obj:=λi h st b hb=>by
  have e:b=it:=by simpa using hb
  subst e;exact⟨_,st,λv z=>by
   have z':Data.fields _=Data.cell v:=z;cases z'⟩
 keep:=λi h h' st k=>k it (by simp) _ st
 item:=by
  rw[3];rw[15];have W:=Walks.range (prog:=X.prog) (w:=X.w) (I.ok.hd hc) it lo 1 n;refine W.item i s _ _ hg st λv h' tk hv ni kk=>?_
  obtain⟨t,rfl⟩:=hv;have I1:Inv X ah Z H { s with heap:=h',toks:=tk }:=I.turned (λb o hb e=>kk b o (by simpa using hb) e) f0 f1 f3 f4 f5
  refine⟨_,rfl,AO (s:={ s with heap:=h',toks:=tk }) (n:="range_iterator") ni rfl rfl (by decide) ⟨.int (lo+i),H,I1,⟨t,?_⟩,⟨rfl,rfl⟩,ni,λb hb=>(hf b hb).1⟩⟩
  rw[Int.mul_one]
 done:=by
  rw[3];rw[15];exact wpAny_pyNext_range_end (I.ok.hd hc) st (by have:n<=i:=hg;omega) λh' eb=>⟨rfl,I.turned (t':=s.toks) (λb o hb e=>eb b o hb e) f0 f1 f3 f4 f5⟩
 self:=λ_ _ _ _ _ st h=>wpAny_pyIter_rangeiter st h
section
variable {X:Cx}
def Mn (K:aJ)(tl:TE):TI:=λZ H R=>tl Z H λx H1=>∃ a,x=.ref a/\(∃ xs,SqL K H1 a xs)/\R (HM K a) H1
def Kl (K:aJ)(tl:TE):TI:=λZ H R=>tl Z H λx H1=>∃ a,x=.ref a/\(∃ xs,SqT K H1 a xs)/\R (HK K a) H1
theorem Se {l:aR}{tl:TE}(hl:PE X l tl):PI X tg l (Mn X.K tl):=by
 intro ah s Z H R I h;refine bf (hl ah s Z H _ I h) λv s1 gh=>?_
 obtain⟨x,H1,I1,r1,q1⟩:=gh;obtain⟨a,e,⟨xs,hq⟩,q⟩:=q1;subst e;cases r1;obtain⟨its,rv,p,hz⟩:=I1.list hq;refine GE p.isList ?_;refine⟨s1.heap.objs.size,[s1.heap.objs.size],_,_,H1,rfl,I1.kept λb o e=>bT _ e,D4 a _,⟨_,cV _ rfl,rfl,rfl⟩,λb hb=>?_,q⟩
 have e:b=s1.heap.objs.size:=by simpa using hb
 subst e;exact I1.fpOk (bD _) (I1.hok.fresh (bD _))
theorem Nw {l:aR}{tl:TE}(hl:PE X l tl):PI X tg l (Kl X.K tl):=by
 intro ah s Z H R I h;refine bf (hl ah s Z H _ I h) λv s1 gh=>?_
 obtain⟨x,H1,I1,r1,q1⟩:=gh;obtain⟨a,e,⟨xs,hq⟩,q⟩:=q1;subst e;cases r1;obtain⟨its,rv,p,hz⟩:=I1.tuple hq;refine wpAny_pyIter_tuple (show s1.heap.IsTuple a its.toArray from p) ?_
 refine⟨s1.heap.objs.size,[s1.heap.objs.size],_,_,H1,rfl,I1.kept λb o e=>bT _ e,J9 a _,⟨_,cV _ rfl,rfl,rfl⟩,λb hb=>?_,q⟩
 have e:b=s1.heap.objs.size:=by simpa using hb
 subst e;exact I1.fpOk (bD _) (I1.hok.fresh (bD _))
theorem ZH{Z:St}{H:Hp}{R:It->Hp->Prop}{lo hi:Int}{t u v:Tok}{tk:Nat}(I:Inv X ah Z H s)(h1 : -(2^62)<=lo)(h2:lo<2^62)(h3 : -(2^62)<=hi)(h4:hi<2^62)
  (q:R (xV lo (hi-lo).toNat) H):aM (aO X.prog X.w) X.A (nH (.ref s.heap.objs.size)) (PIE X ah Z tg R) E { s with heap:=s.heap.push { cls:=.type "range",data:=.fields #[.int lo t,.int hi u,.int 1 v] },toks:=tk }:=by
 refine wpAny_pyIter_range (IsRange.new ..) (small_one h1 h2 h3 h4) ?_;have I1:Inv X ah Z H { s with heap:=s.heap.push { cls:=.type "range",data:=.fields #[.int lo t,.int hi u,.int 1 v] },toks:=tk }:=I.kept λb o e=>bT _ e
 refine⟨(s.heap.push { cls:=.type "range",data:=.fields #[.int lo t,.int hi u,.int 1 v] }).objs.size,[(s.heap.push { cls:=.type "range",data:=.fields #[.int lo t,.int hi u,.int 1 v] }).objs.size],_,_,H,rfl,
  I1.kept (t':=tk) λb o e=>bT _ e,J7 _ lo (hi-lo).toNat,?_,λb hb=>?_,q⟩
 .have e1:lo+((0:Nat):Int)*1=lo:=by simp
  have e2:(((hi-lo).toNat:Nat):Int)-((0:Nat):Int)=Builtin.Range.rangeSize lo hi 1:=by rw[rangeSize_one];split<;>omega
  show IsRangeIter _ _ (lo+((0:Nat):Int)*1) ((((hi-lo).toNat:Nat):Int)-((0:Nat):Int)) 1;rw[e1,e2];exact cV _ rfl
 .have e:b=(s.heap.push { cls:=.type "range",data:=.fields #[.int lo t,.int hi u,.int 1 v] }).objs.size:=by simpa using hb
  subst e;exact I1.fpOk (bD _) (I1.hok.fresh (bD _))
def Lu (ta:TA):TI:=λZ H R=>ta Z H λvs H1=>∃ j:Int,vs=[.int j] /\ -(2^62)<=j/\j<2^62/\R (xV 0 j.toNat) H1
def Mj (ta:TA):TI:=λZ H R=>ta Z H λvs H1=>∃ i j:Int,vs=[.int i,.int j]/\(-(2^62)<=i/\i<2^62 /\ -(2^62)<=j/\j<2^62)/\R (xV i (j-i).toNat) H1
theorem A7 {a:aR}{ta:TA}(hg:Gl X "range")(hm:X.mg "range" = ae)(ha:PA X [a] ta)(hs:bJ [a] X.env=[(ag,bK a X.env)]:=by rfl):PI X tg (.Call (.Name "range" p) [a] [] pos) (Lu ta):=by
 intro ah s Z H R I h;refine Call_ (sU I hg hm boot_range (GO (bf (ha pos ah s Z H _ I h) λus s1 ⟨vs,H1,I1,r1,q1⟩=>?_) hs rfl))
 obtain⟨j,e,q1,q2,q⟩:=q1;subst e;cases r1 with
 |cons r rr=>
  cases rr;obtain⟨t,rfl⟩:=r;exact call_range_1 (ZH I1 (by omega) (by omega) q1 q2 (by simpa using q))
theorem y9 {a b:aR}{ta:TA}(hg:Gl X "range")(hm:X.mg "range" = ae)(ha:PA X [a,b] ta)(hs:bJ [a,b] X.env=[(ag,bK a X.env),(ag,bK b X.env)]:=by rfl)(jz:bJ [b] X.env=[(ag,bK b X.env)]:=by rfl) :
  PI X tg (.Call (.Name "range" p) [a,b] [] pos) (Mj ta):=by
 intro ah s Z H R I h;refine Call_ (sU I hg hm boot_range (GO (bf (ha pos ah s Z H _ I h) λus s1 ⟨vs,H1,I1,r1,q1⟩=>?_) (by rw[hs,jz]) (by rw[jz];rfl)))
 obtain⟨i,j,e,⟨q1,q2,q3,q4⟩,q⟩:=q1;subst e;cases r1 with
 |cons r rr=>
  cases rr with
  |cons r' rr=>
   cases rr;obtain⟨t,rfl⟩:=r;obtain⟨t',rfl⟩:=r';exact call_range_2 (ZH I1 q1 q2 q3 q4 q)
def La (wi:TI)(g:TG)(tb:TS):TS:=λD Z H=>wi Z H λJ H1=>∃ W:Nat->Nat->St->Hp->Prop,(∃ m,W 0 m Z H1)/\∀ i m Z H,W i m Z H ->
 (J.stop i H/\D.nx Z H)\/(J.go i H/\∃ N:St->Hp->Prop,(∀ σ' H',N σ' H'->∃ m',m'<m/\W (i+1) m' σ' H')/\∀ x H',J.yld i H x H'->g x Z H' λσ2 H2=>tb { D with nx:=N,ct:=N,bk:=D.nx } σ2 H2)
def yN (fp:List aC)(h:aQ):List (aC×bB):=fp.filterMap λb=>(h.get? b).map λo=>(b,o)
theorem FJ(hb:b∈fp)(e:h.get? b=aa o):(b,o)∈yN fp h:=rR.2 ⟨b,hb,by rw[e];rfl⟩
theorem C9{p:aC×bB}(hp:p∈yN fp h):p.1∈fp/\h.get? p.1=aa p.2:=by
 obtain⟨b,hb,e⟩:=rR.1 hp;cases q:h.get? b with
 |none=>rw[q] at e;cases e
 |some o=>
  rw[q] at e;have e':=eO e;subst e';exact⟨hb,q⟩
theorem Inv.pinned{Z:St}{H:Hp}(I:Inv X ah Z H s)(hf:∀ b∈fp,jG X ah H b)(ho:∀ b∈fp,∃ o,s.heap.get? b=aa o/\∀ v,o.data ≠ .cell v):Inv X (ah++yN fp s.heap) Z H s:=
 I.pins_of λp hp=>(iC.1 hp).elim (λz=>I.pin p (oR _ z)) λz=>by
  obtain⟨hb,e⟩:=C9 z;obtain⟨f0,f1,f2,_⟩:=hf p.1 hb;obtain⟨o,e',d⟩:=ho p.1 hb;rw[e] at e';cases e';exact⟨e,f0,f1,f2,d⟩
theorem Inv.unpinned {pl:List (aC×bB)}{Z:St}{H:Hp}(I:Inv X (ah++pl) Z H s):Inv X ah Z H s:=I.pins_of λp hp=>I.pin p (oR _ (List.mem_append_left _ hp))
theorem Qe {bg:aR}{wi:TI}{g:TG}{tb:TS}(hp:BD (aO X.prog X.w) X.A X.env X.xe)(hc:X.calm=af)(hi:PI X tg bg wi)(hg:PG X tg g)(hb:PSs X body tb)
  (hs:∀ x,rK bg X.env x=pure x:=by intro _;rfl):PS X (.For tg bg body [] pos) (La wi g tb):=by
 rw[21];refine wpAny_For (bf (hi ah s Z H _ I h) λv s1 h1=>bf h1 λitv s2 h2=>?_) hs
 obtain⟨it,fp,tn,J,H2,e,I2,T,wE,f2,W,⟨m0,w0⟩,uc⟩:=h2;subst e;have ud:∀ {H':Hp},(∀ b∈fp,H' b=ae)->∀ b∈fp,jG X ah H' b:=λhn b hb=>⟨hn b hb,(f2 b hb).2⟩
 refine codeAny_forLoop_any (λn s'=>∃ i σ' H',Inv X ah σ' H' s'/\tn i s'.heap/\(∀ b∈fp,H' b=ae)/\W i n σ' H') ?_ m0 ⟨0,Z,H2,I2,wE,λb hb=>(f2 b hb).1,w0⟩
 rintro n s3 ⟨i,σ3,H3,I3,W9,W',w3⟩;rcases uc i n σ3 H3 w3 with⟨stop,qn⟩|⟨go,N,hN,step⟩
 .refine wO hp (bf (T.done X rfl rfl rfl hc i ah s3 σ3 H3 X.xe I3 (ud W') W9 stop) λr s4 gh=>?_)
  obtain⟨hr,I4⟩:=gh;subst hr;exact PY ⟨σ3,H3,I4,qn⟩
 .refine wO hp (bf (T.item X rfl rfl rfl hc i ah s3 σ3 H3 X.xe I3 (ud W') W9 go) λr s4 gh=>?_)
  obtain⟨u,hr,h4⟩:=gh;subst hr;refine wO hp (bf h4 λ_ s5 gh=>?_)
  obtain⟨x,H5,I5,r5,y5,R4,fr5⟩:=gh;have I5':=I5.pinned (ud fr5) (T.obj _ _ R4);refine wO hp (bf (hg _ s5 σ3 H5 x u _ I5' r5 (step x H5 y5)) λ_ s6 gh=>?_)
  obtain⟨σ6,H6,I6,q6⟩:=gh;refine wO hp (bf (hb _ s6 σ6 H6 _ I6 q6) λf s7 q7=>?_)
  have again:∀ {σ7:St} {H7:Hp},Inv X (ah++yN fp s5.heap) σ7 H7 s7->N σ7 H7->∃ m,m<n/\∃ i σ' H',Inv X ah σ' H' s7/\tn i s7.heap/\(∀ b∈fp,H' b=ae)/\W i m σ' H':=λ{σ7 H7} I7 n7=>by
   obtain⟨m',hm,w7⟩:=hN σ7 H7 n7;refine⟨m',hm,i+1,σ7,H7,I7.unpinned,T.keep _ _ _ R4 λb hb o e=>(I7.pin (b,o) (oR _ (oR _ (FJ hb e)))).1,λb hb=>?_,w7⟩
   obtain⟨o,e,d⟩:=T.obj _ _ R4 b hb;exact(I7.pin (b,o) (oR _ (oR _ (FJ hb e)))).2.1
  cases f with
  |next=>obtain⟨σ7,H7,I7,n7⟩:=q7;exact again I7 n7
  |cont=>obtain⟨σ7,H7,I7,n7⟩:=q7;exact again I7 n7
  |brk=>obtain⟨σ7,H7,I7,q7⟩:=q7;exact⟨σ7,H7,I7.unpinned,q7⟩
  |ret v=>obtain⟨x7,σ7,H7,I7,r7,q7⟩:=q7;exact⟨x7,σ7,H7,I7.unpinned,r7,q7⟩
end
abbrev R2:=V->V->Hp->VK->Prop
def OpR (X:Cx)(f:aD->aD->Sem aD)(r:R2):Prop:=
 ∀ (ah:List (aC×bB)) (s:aH) (Z:St) (H:Hp) (x y:V) (v u:aD) (Q:VK),Inv X ah Z H s->RelV x v->RelV y u->r x y H Q ->
  aM (aO X.prog X.w) X.A (f v u) (EP X ah Z Q) X.xe s
def UnR (X:Cx)(f:aD->Sem aD)(r:V->Hp->VK->Prop):Prop:=
 ∀ (ah:List (aC×bB)) (s:aH) (Z:St) (H:Hp) (x:V) (v:aD) (Q:VK),Inv X ah Z H s->RelV x v->r x H Q ->
  aM (aO X.prog X.w) X.A (f v) (EP X ah Z Q) X.xe s
def Acy (X:Cx)(f:aD)(r:List V->Hp->VK->Prop):Prop:=
 ∀ (ah:List (aC×bB)) (s:aH) (Z:St) (H:Hp) (xs:List V) (us:List aD) (Q:VK),Inv X ah Z H s->Vals xs us->r xs H Q ->
  aM (aO X.prog X.w) X.A (call f us) (EP X ah Z Q) X.xe s
def W5 (r:R2)(ta tb:TE):TE:=λZ H Q=>ta Z H λx H1=>tb Z H1 λy H2=>r x y H2 Q
def tUn (r:V->Hp->VK->Prop)(ta:TE):TE:=λZ H Q=>ta Z H λx H1=>r x H1 Q
def rI (C:Int->Int->Prop)(g:Int->Int->V):R2:=λx y H Q=>∃ i j,x=.int i/\y=.int j/\C i j/\Q (g i j) H
def yv (g:Int->Int->V):R2:=λx y H Q=>∃ i j,x=.int i/\y=.int j/\Q (g i j) H
def rU (g:Int->V):V->Hp->VK->Prop:=λx H Q=>∃ i,x=.int i/\Q (g i) H
section
variable {X:Cx}{a b:aR}{ta tb tc:TE}
theorem IB (ha:PE X a ta)(hb:PE X b tb){Z:St}{H:Hp}{R:V->V->Hp->Prop}(I:Inv X ah Z H s)
  (h:ta Z H λx H1=>tb Z H1 λy H2=>R x y H2) {Q:aD->aH->Prop} {f:aD->aD->Sem aD}
  (hf:∀ v u s2 x y H2,Inv X ah Z H2 s2->RelV x v->RelV y u->R x y H2->aM (aO X.prog X.w) X.A (f v u) Q X.xe s2) :
  aM (aO X.prog X.w) X.A (bK a X.env) (λv s₁=>aM (aO X.prog X.w) X.A (bK b X.env) (λu s₂=>aM (aO X.prog X.w) X.A (f v u) Q X.xe s₂) X.xe s₁) X.xe s:=by
 refine bf (ha ah s Z H _ I h) λv s1 gh=>?_
 obtain⟨x,H1,I1,r1,q1⟩:=gh;refine bf (hb ah s1 Z H1 _ I1 q1) λu s2 gh=>?_
 obtain⟨y,H2,I2,r2,q2⟩:=gh;exact hf v u s2 x y H2 I2 r1 r2 q2
theorem Me {op:Operator}{r:R2}(ho:OpR X (kR op) r)(ha:PE X a ta)(hb:PE X b tb):PE X (.BinOp a op b pos) (W5 r ta tb):=by
 rw[14];exact wpAny_BinOp (IB ha hb I h λv u s2 x y H2 I2 rx ry q=>ho ah s2 Z H2 x y v u Q I2 rx ry q)
theorem Nn {op:UnaryOp}{r:V->Hp->VK->Prop}(ho:UnR X (unaryOp op) r)(ha:PE X a ta):PE X (.UnaryOp op a pos) (tUn r ta):=by
 rw[14];exact UnaryOp_ (bf (ha ah s Z H _ I h) λv s1 ⟨x,H1,I1,r1,q1⟩=>ho ah s1 Z H1 x v Q I1 r1 q1)
theorem W2{C:Int->Int->Prop}{g:Int->Int->Int}
  (rule:∀ (i j:Int) (t u:Tok) (s:aH) (Q:aD->aH->Prop) (E:aD->aH->Prop),C i j->Q (.int (g i j) s.toks) { s with toks:=s.toks+1 }->aM (aO X.prog X.w) X.A (f (.int i t) (.int j u)) Q E s) :
  OpR X f (rI C λi j=>.int (g i j)):=by
 rw[4];obtain⟨i,j,rfl,rfl,hc,q⟩:=h;obtain⟨t,rfl⟩:=rx;obtain⟨t',rfl⟩:=ry;exact rule i j t t' s _ _ hc ⟨.int (g i j),H,I.tok _,⟨_,rfl⟩,q⟩
theorem SV{g:Int->Int->Int}
  (rule:∀ (i j:Int) (t u:Tok) (s:aH) (Q:aD->aH->Prop) (E:aD->aH->Prop),Q (.int (g i j) s.toks) { s with toks:=s.toks+1 }->aM (aO X.prog X.w) X.A (f (.int i t) (.int j u)) Q E s) :
  OpR X f (yv λi j=>.int (g i j)):=by
 rw[4];obtain⟨i,j,rfl,rfl,q⟩:=h;obtain⟨t,rfl⟩:=rx;obtain⟨t',rfl⟩:=ry;exact rule i j t t' s _ _ ⟨.int (g i j),H,I.tok _,⟨_,rfl⟩,q⟩
theorem SY{g:Int->Int->Bool}
  (rule:∀ (i j:Int) (t u:Tok) (s:aH) (Q:aD->aH->Prop) (E:aD->aH->Prop),Q (.bool (g i j)) s->aM (aO X.prog X.w) X.A (f (.int i t) (.int j u)) Q E s) :
  OpR X f (yv λi j=>.bl (g i j)):=by
 rw[4];obtain⟨i,j,rfl,rfl,q⟩:=h;obtain⟨t,rfl⟩:=rx;obtain⟨t',rfl⟩:=ry;exact rule i j t t' s _ _ ⟨.bl (g i j),H,I,rfl,q⟩
def Kx (i j:Int):Prop:=0<j/\j<1073741824
def Li (i j:Int):Prop:=0<=j/\j<=1000000/\i.natAbs<2^64
def Bm7 (i j:Int):Prop:=(-(2^64)<i/\i<2^64)\/(-(2^64)<j/\j<2^64)
theorem Bm7.ok {i j:Int}(h:Bm7 i j):IntMulOk i j:=by
 rcases h with⟨h1,h2⟩|⟨h1,h2⟩
 .exact .of_left (intBits_le_64 h1 h2)
 .exact .of_right (intBits_le_64 h1 h2)
theorem Blf:OpR X (kR .Add) (yv λi j=>.int (i+j)):=SV λ_ _ _ _ _ _ _ q=>add_int q
theorem Pg:OpR X (kR .Sub) (yv λi j=>.int (i-j)):=SV λ_ _ _ _ _ _ _ q=>sub_int q
theorem Pj:OpR X (kR .Mult) (rI Bm7 λi j=>.int (i*j)):=W2 λ_ _ _ _ _ _ _ hc q=>mul_int q hc.ok
theorem Vh:OpR X (kR .FloorDiv) (rI Kx λi j=>.int (i/j)):=W2 λi j _ _ _ _ _ hc q=>by
 have h1:=hc.1;have h2:=hc.2;exact floordiv_int (by omega) (by rw[Int.fdiv_eq_ediv_of_nonneg i (by omega)];exact q) (.inl (PyProof.noPylong_small (by omega)))
theorem Qm:OpR X (kR .Mod) (rI (λ_ j=>0<j) λi j=>.int (i%j)):=W2 λi j _ _ _ _ _ hc q=>by
 have h1:=hc;exact mod_int' (by omega) (by rw[Int.fmod_eq_emod_of_nonneg i (by omega)];exact q)
theorem Nq:OpR X (kR .Pow) (rI Li λi j=>.int (i^j.toNat)):=W2 λ_ _ _ _ _ _ _ hc q=>pow_int_small hc.1 hc.2.1 hc.2.2 q
theorem unI {f:aD->Sem aD}{g:Int->Int}
  (rule:∀ (i:Int) (t:Tok) (s:aH) (Q:aD->aH->Prop) (E:aD->aH->Prop),Q (.int (g i) s.toks) { s with toks:=s.toks+1 }->aM (aO X.prog X.w) X.A (f (.int i t)) Q E s) :
  UnR X f (rU λi=>.int (g i)):=by
 intro ah s Z H x v Q I rx h;obtain⟨i,rfl,q⟩:=h;obtain⟨t,rfl⟩:=rx;exact rule i t s _ _ ⟨.int (g i),H,I.tok _,⟨_,rfl⟩,q⟩
theorem Qp:UnR X (unaryOp .USub) (rU λi=>.int (-i)):=unI λ_ _ _ _ _ q=>neg_int q
end
section
variable {X:Cx}{a b:aR}{ta tb tc:TE}
theorem CU{Z:St}{H:Hp}{Q:VK}{k k':Bool}(I:Inv X ah Z H s)(q:Q (.bl k) H)(e:k=k'):EP X ah Z Q (.bool k') s:=by
 subst e;exact⟨.bl k,H,I,rfl,q⟩
theorem Bi2:OpR X (gU .Lt) (yv λi j=>.bl (decide (i<j))):=SY λ_ _ _ _ _ _ _ q=>lt_int q
theorem UD:OpR X (gU .Gt) (yv λi j=>.bl (decide (j<i))):=SY λ_ _ _ _ _ _ _ q=>gt_int q
theorem By:OpR X (gU .Lt) (λx y H Q=>∃ i j,x=.str i/\y=.str j/\Q (.bl (decide (i.cps.toList<j.cps.toList))) H):=by
 rw[4];obtain⟨i,j,rfl,rfl,q⟩:=h;obtain⟨t,rfl⟩:=rx;obtain⟨t',rfl⟩:=ry;exact lt_str (CU I q rfl)
theorem E1:OpR X (gU .In) (λx y H Q=>∃ i j,x=.str i/\y=.str j/\Q (.bl (!(SC j i 0 j.length 1).isEmpty)) H):=by
 rw[4];obtain⟨i,j,rfl,rfl,q⟩:=h;obtain⟨t,rfl⟩:=rx;obtain⟨t',rfl⟩:=ry;exact in_str (CU I q rfl)
theorem Ou:OpR X (gU .Is) (λx y H Q=>y=.non/\Q (.bl (decide (x=.non))) H):=by
 rw[4];obtain⟨rfl,q⟩:=h;cases ry;refine is_none_gen (CU I q ?_);cases x<;>first
  |(cases rx;rfl)
  |(obtain⟨t,rfl⟩:=rx;rfl)
theorem Uj:OpR X (gU .IsNot) (λx y H Q=>y=.non/\Q (.bl (!decide (x=.non))) H):=by
 rw[4];obtain⟨rfl,q⟩:=h;cases ry;refine isnot_none_gen (CU I q ?_);cases x<;>first
  |(cases rx;rfl)
  |(obtain⟨t,rfl⟩:=rx;rfl)
theorem OpR.or{r r':R2}(h:OpR X f r)(h':OpR X f r'):OpR X f (λx y H Q=>r x y H Q\/r' x y H Q):=by
 intro ah s Z H x y v u Q I rx ry q;rcases q with q|q
 .exact h ah s Z H x y v u Q I rx ry q
 .exact h' ah s Z H x y v u Q I rx ry q
theorem kZ (b:aR)(h:op ≠ .In:=by decide)(h2:op ≠ .NotIn:=by decide):wZ op b=ag:=by
 have e1:(op==CmpOp.In)=ag:=by cases op<;>first|rfl|exact absurd rfl h
 have e2:(op==CmpOp.NotIn)=ag:=by cases op<;>first|rfl|exact absurd rfl h2
 cases b<;>simp[wZ,e1,e2]
theorem Sn{r:R2}(ho:OpR X (gU op) r)(ha:PE X a ta)(hb:PE X b tb)(hm:wZ op b=ag):PE X (.Compare a [op] [b] pos) (W5 r ta tb):=by
 rw[14];exact wpAny_Compare1 (IB ha hb I h λv u s2 x y H2 I2 rx ry q=>ho ah s2 Z H2 x y v u Q I2 rx ry q) hm
def Lx (t:TE):TT:=λZ H Q=>t Z H λx H'=>∃ k,x=.bl k/\Q k H'
theorem JL{r:R2}(ho:OpR X (gU op) r)(ha:PE X a ta)(hb:PE X b tb)(hm:wZ op b=ag):PT X (.Compare a [op] [b] pos) (Lx (W5 r ta tb)):=by
 rw[14];refine wpAny_isTrue_Compare1 (bf (ha ah s Z H _ I h) λv s1 ⟨x,H1,I1,r1,q1⟩=>bf (hb ah s1 Z H1 _ I1 q1) λu s2 ⟨y,H2,I2,r2,q2⟩=>
  bf (ho ah s2 Z H2 x y v u _ I2 r1 r2 q2) λc s3 ⟨z,H3,I3,r3,k,e,q3⟩=>?_) hm
 subst e;cases r3;exact PN ⟨H3,I3,q3⟩
theorem sW:(sizeLine:Nat)<2^63:=by rw[kA];decide
theorem A1j:OpR X (kR .Add) (λx y H Q=>∃ i j,x=.str i/\y=.str j/\i.length+j.length<=sizeLine/\Q (.str (i++j)) H):=by
 rw[4];obtain⟨i,j,rfl,rfl,hz,q⟩:=h;obtain⟨t,rfl⟩:=rx;obtain⟨t',rfl⟩:=ry;exact add_str (λt' tk=>⟨.str (i++j),H,I.tok _,⟨_,rfl⟩,q⟩) hz
theorem vals1 {x:V}(r:Vals [x] us):∃ u,us=[u]/\RelV x u:=by
 cases r with
 |cons r1 r2=>cases r2;exact⟨_,rfl,r1⟩
theorem vals2 {x y:V}(r:Vals [x,y] us):∃ u w',us=[u,w']/\RelV x u/\RelV y w':=by
 cases r with
 |cons r1 r2=>
  cases r2 with
  |cons r3 r4=>cases r4;exact⟨_,_,rfl,r1,r3⟩
theorem Bn (hc:X.calm=af):Acy X (.builtin "max") (λxs H Q=>∃ i j,xs=[.int i,.int j]/\Q (.int (if j > i then j else i)) H):=by
 rw[5];obtain⟨i,j,rfl,q⟩:=h;obtain⟨u,w',rfl,⟨t,rfl⟩,⟨t',rfl⟩⟩:=vals2 r;refine max_two_ints (I.ok.hd hc) λh' tk k=>⟨_,H,I.kept k,?_,q⟩
 by_cases hj:j > i
 .rw[if_pos hj,if_pos hj];exact⟨_,rfl⟩
 .rw[if_neg hj,if_neg hj];exact⟨_,rfl⟩
theorem B7 (hc:X.calm=af):Acy X (.builtin "min") (λxs H Q=>∃ i j,xs=[.int i,.int j]/\Q (.int (if j<i then j else i)) H):=by
 rw[5];obtain⟨i,j,rfl,q⟩:=h;obtain⟨u,w',rfl,⟨t,rfl⟩,⟨t',rfl⟩⟩:=vals2 r;refine min_two_ints (I.ok.hd hc) λh' tk k=>⟨_,H,I.kept k,?_,q⟩
 by_cases hj:j<i
 .rw[if_pos hj,if_pos hj];exact⟨_,rfl⟩
 .rw[if_neg hj,if_neg hj];exact⟨_,rfl⟩
end
structure ObjM (h:aQ)(x dx C:aC)(mA:aE->Option aD):Prop where
 obj:h.get? x=aa (Ik C dx)
 ns:h.Ns1 dx mA
 ne:dx≠x
theorem F8{mA:aE->Option aD}(n:h.Ns1 dx mA):∃ od,h.get? dx=aa od/\∀ name,Ig name od=aa (mA name):=by
 obtain⟨o,es,ep,ho,hd,hk,_,hm⟩:=n;refine⟨o,ho,λname=>?_⟩
 have e:=hm name;unfold nsFind findBy at e;rw[<-Array.find?_toList] at e;unfold Ig;rw[hd];rw[18];split
 .rename_i y q;rw[q] at e;exact congrArg aa e
 .rename_i q;rw[q] at e;have a:es.toList.any (·.refKey)=ag:=by
   rw[List.any_eq_false];intro y hy;obtain⟨z,t,nj⟩:=hk y (Array.mem_toList_iff.1 hy);simp[DictEntry.refKey,nj]
  have a':¬ es.toList.any (·.refKey)=af:=by rw[a];exact mN
  rw[if_neg a'];exact congrArg aa e
theorem ObjM.look{x:aC}{mA:aE->Option aD}(I:ObjM h x dx C mA):∃ od,PySem.W.InstAt h x (Ik C dx) C (aa od)/\∀ name,Ig name od=aa (mA name):=
 let ⟨od,ho,hl⟩:=F8 I.ns
 ⟨od,⟨I.obj,rfl,rfl,ho⟩,hl⟩
theorem Av5.some_of {v:V}{o:Option aD}(r:Av5 (aa v) o):∃ u,o=aa u/\RelV v u:=by
 cases o with
 |none=>exact(show False from r).elim
 |some u=>exact⟨u,rfl,r⟩
theorem Av5.none_of {o:Option aD}(r:Av5 ae o):o=ae:=by
 cases o with
 |none=>rfl
 |some u=>exact(show False from r).elim
section
variable {P:bG}{w:aX}{H H':Hp}{fs fs':List (aE×V)}
theorem Ro (hok:HOk P w H h)(e:H a=aa (.ins C dx fs)):∃ mA,ObjM h a dx C mA/\(∀ f,Av5 (fs.lookup f) (mA f))/\PySem.Within mA (fs.map (·.1))/\fs.length<=1000/\H dx=aa (.own a):=by
 obtain⟨d,z,ne,ob,mA,n,r,q⟩:=(show Ab8 P w H h a (.ins C dx fs) from hok a _ e)
 exact⟨mA,⟨ob,n,ne⟩,r,q,z,d⟩
end
structure Cls (K:aJ)(C:aC):Prop where
 pg:PySem.W.plainGet K C Str.empty=af
 hd:PySem.W.hasDictIn K C=af
 po:PySem.W.plainOver K C=af
 sa:PySem.W.findIn K (.ref C) "__setattr__" = aa (aa (.builtin "object.__setattr__"))
theorem Cls.get(c:Cls K C)(f:aE):PySem.W.plainGet K C f=af:=c.pg
section
variable {X:Cx}{Z:St}{H:Hp}{c:aD}{b:Bool}
inductive TyOf (K:aJ)(H:Hp):V->aD->Prop where
 |non:TyOf K H .non (.type "NoneType")
 |bl (x:Bool):TyOf K H (.bl x) (.type "bool")
 |int (i:Int):TyOf K H (.int i) (.type "int")
 |str (x:aE):TyOf K H (.str x) (.type "str")
 |flt (x:UInt64):TyOf K H (.flt x) (.type "float")
 |lst {a:aC} {xs:List V} (e:H a=aa (.lst xs)):TyOf K H (.ref a) (.type "list")
 |frz {a:aC} {o:bB} {xs:List V} (e:H a=aa (.frz o (.lst xs))):TyOf K H (.ref a) (.type "list")
 |tup {a:aC} {xs:List V} (e:H a=aa (.tup xs)):TyOf K H (.ref a) (.type "tuple")
 |dK {a:aC} {ep:Nat} {kvs:List (aI×V)} (e:H a=aa (.dK ep kvs)):TyOf K H (.ref a) (.type "dict")
 |dT {a:aC} {ep:Nat} {kvs:List (List aA×V)} (e:H a=aa (.dT ep kvs)):TyOf K H (.ref a) (.type "dict")
 |ins {a C dx:aC} {fs:List (aE×V)} (e:H a=aa (.ins C dx fs)) (cl:Cls K C) (ha:PySem.W.findIn K (.ref C) "__class__" = aa (aa (.builtin "object.__class__")))
   (hn:PySem.W.specialIn K (.builtin "object.__class__") "__get__" = aa (aa (.builtin "getset_descriptor.__get__"))) (M':PySem.W.takesIn K (.builtin "object.__class__")=aa af)
   (hm:PySem.W.mroIn K C (.type "object")=aa af):TyOf K H (.ref a) (.ref C)
theorem F4 {x:V}{t:aD}(I:Inv X ah Z H s)(rx:RelV x u)(ty:TyOf X.K H x t)(e:Ij X.K t c=aa b)(h:∀ tk,Q (.bool b) { s with toks:=tk }) :
  aM (aO X.prog X.w) A (call (.builtin "isinstance") [u,c]) Q E s:=by
 cases ty with
 |non=>cases(show u=eJ from rx);exact mH PySem.W.kitx_none I.kIn qA e (λz=>nomatch z) h
 |bl y=>cases(show u=Value.bool y from rx);exact mH PySem.W.kitx_bool I.kIn qA e (λz=>nomatch z) h
 |int i=>obtain⟨t,q⟩:=(show ∃ t,u=rN i t from rx);cases q;exact mH PySem.W.kitx_int I.kIn qA e (λz=>nomatch z) h
 |str y=>obtain⟨t,q⟩:=(show ∃ t,u=uB y t from rx);cases q;exact mH PySem.W.kitx_str I.kIn qA e (λz=>nomatch z) h
 |flt y=>obtain⟨t,q⟩:=(show ∃ t,u=Value.float y t from rx);cases q;exact mH PySem.W.kitx_float I.kIn qA e (λz=>nomatch z) h
 |@lst a xs ea=>
  cases(show u=eI a from rx)
  obtain⟨_,_,n,_,h1⟩:=(show Ab8 X.prog X.w H s.heap a (.lst xs) from I.hok a _ ea)
  exact mH Ih I.kIn ⟨_,h1,rfl⟩ e (λz=>nomatch z) h
 |@frz a ob xs ea=>
  cases(show u=eI a from rx)
  obtain⟨_,_,_,n,_,h1⟩:=(show Ab8 X.prog X.w H s.heap a (.frz ob (.lst xs)) from I.hok a _ ea)
  exact mH Ih I.kIn ⟨_,h1,rfl⟩ e (λz=>nomatch z) h
 |@tup a xs ea=>
  cases(show u=eI a from rx)
  obtain⟨_,_,_,p⟩:=(show Ab8 X.prog X.w H s.heap a (.tup xs) from I.hok a _ ea)
  obtain⟨o,h1,h2,_⟩:=p.1;exact mH PySem.W.kitx_tuple I.kIn ⟨o,h1,h2⟩ e (λz=>nomatch z) h
 |@dK a ep kvs ea=>
  cases(show u=eI a from rx)
  obtain⟨_,_,vs,_,p⟩:=(show Ab8 X.prog X.w H s.heap a (.dK ep kvs) from I.hok a _ ea)
  obtain⟨o,es,h1,h2,_⟩:=p;exact mH Ii I.kIn ⟨o,h1,h2.1⟩ e (λz=>nomatch z) h
 |@dT a ep kvs ea=>
  cases(show u=eI a from rx)
  obtain⟨_,_,xs,_,o,es,h1,h2,_⟩:=(show Ab8 X.prog X.w H s.heap a (.dT ep kvs) from I.hok a _ ea)
  exact mH Ii I.kIn ⟨o,h1,h2.1⟩ e (λz=>nomatch z) h
 |@ins a C dx fs ea cl ha hn M' hm=>
  cases(show u=eI a from rx)
  obtain⟨mA,O,_⟩:=Ro I.hok ea;obtain⟨od,J,_⟩:=O.look;exact mH (PySem.W.kitx_own (cl.get _) cl.hd ha hn M' hm) I.kIn J e (λz=>nomatch z) h
end
structure Room (k:Nat)(A:bW):Prop where
 hd:A.handled=ae
 dp:A.depth+3*k+5<recursionLimit
 un:A.units+16*k+200<cLine
theorem Room.mono {j:Nat}(r:Room k A)(h:j<=k):Room j A:=⟨r.hd,by have:=r.dp;omega,by have:=r.un;omega⟩
theorem Room.deeper(r:Room (k+1) A)(env:Env):Room k (A.deeper env):=
 ⟨r.hd,by have:=r.dp;show A.depth+1+3*k+5<_;omega,by have:=r.un;show A.units+3+16*k+200<_;omega⟩
theorem Room.depth(r:Room k A):A.depth<recursionLimit:=by have:=r.dp;omega
theorem Room.units(r:Room k A):A.units+64<cLine:=by have:=r.un;omega
abbrev Kj:TA:=λ_ H Q=>Q [] H
abbrev Ms (ta:TE)(tr:TA):TA:=λZ H Q=>ta Z H λx H1=>tr Z H1 λxs H2=>Q (x::xs) H2
section
variable {X:Cx}{te:TE}{t:TA}
theorem jK:PA X [] Kj:=λ_ _ _ _ H Q I h=>Calls.spliced_nil ⟨[],H,I,.nil,h⟩
theorem hZ (ha:PE X e te)(hr:PA X es t)(hs:bJ (e::es) X.env=(ag,bK e X.env)::bJ es X.env:=by rfl):PA X (e::es) (Ms te t):=by
 intro pos ah s Z H Q I h;rw[hs];refine Jz (bf (ha ah s Z H _ I h) λu s1 gh=>?_)
 obtain⟨x,H1,I1,r1,q1⟩:=gh;exact bf (hr pos ah s1 Z H1 _ I1 q1) λus s2 ⟨xs,H2,I2,r2,q2⟩=>⟨x::xs,H2,I2,.cons r1 r2,q2⟩
def Kw (t:TA):TE:=λZ H Q=>t Z H λxs H1=>xs.length<=sizeLine/\∀ p,H1 p=ae->Q (.ref p) (au H1 p (.tup xs))
def Lq (t:TA):TE:=λZ H Q=>t Z H λxs H1=>xs.length<=sizeLine/\∀ p,H1 p=ae->Q (.ref p) (au H1 p (.lst xs))
theorem WA {x1}(h:PA X es t):PE X (.Tuple es x1 pos) (Kw t):=by
 intro ah s Z H Q I hq;refine wpAny_Tuple_spliced (bf (h pos ah s Z H _ I hq) λus s1 ⟨xs,H1,I1,r,z,q⟩=>⟨by rw[<-r.length];exact z,?_⟩)
 have hf:=I1.hok.fresh (bD _);refine⟨.ref s1.heap.objs.size,au H1 s1.heap.objs.size (.tup xs),I1.laid (λb u e=>bT _ e) (bD _) ?_,rfl,q _ hf⟩
 exact⟨z,us,r,⟨_,cV _ rfl,rfl,_,rfl⟩,_,cV _ rfl,rfl⟩
theorem Pz (h:PA X es t):PE X (.List es pos) (Lq t):=by
 intro ah s Z H Q I hq;refine wpAny_List_spliced (bf (h pos ah s Z H _ I hq) λus s1 ⟨xs,H1,I1,r,z,q⟩=>⟨by rw[<-r.length];exact z,?_⟩)
 have hf:=I1.hok.fresh (bD _);refine⟨.ref s1.heap.objs.size,au H1 s1.heap.objs.size (.lst xs),I1.laid (λb u e=>bT _ e) (bD _) ?_,rfl,q _ hf⟩
 exact⟨z,us,0,r,cV _ rfl⟩
end
abbrev Sp:=List V->Hp->VK->XK->Prop
abbrev yi:=List Env->Hp->aH->XK->aD->aH->Prop
structure Env0 (P:bG)(w:aX)(K:aJ)(mg:aE->Option aD)(base:aQ)(A:bW)(outer:List Env)(s:aH)(H:Hp):Prop where
 frames:A.frames=aa outer
 mod:Mod K mg base
 bs:∀ b o,base.get? b=aa o->s.heap.get? b=aa o/\H b=ae
 bsz:base.objs.size<=s.heap.objs.size
 funs:s.heap.FunFrames base outer
 frf:∀ b∈xf outer,H b=ae
 hok:HOk P w H s.heap
 bare:rW s.gens
def CE (outer:List Env)(P:bG)(w:aX)(H:Hp)(s:aH)(Q:VK)(u:aD)(s':aH):Prop:=
 ∃ v H',s'.os=s.os/\rW s'.gens/\Un (xf outer) [] H H' s.heap s'.heap/\HOk P w H' s'.heap/\RelV v u/\Q v H'
def CR (CX:yi)(outer:List Env)(P:bG)(w:aX)(H:Hp)(s:aH)(Q:VK)(E:XK)(r:qB)(s':aH):Prop:=
 match r with
 |.ok (.ret u)=>CE outer P w H s Q u s'
 |.ok _=>False
 |.error e=>CX outer H s E e s'
structure FnOk (P:bG)(w:aX)(K:aJ)(mg:aE->Option aD)(base:aQ)(CX:yi)(k:Nat)(f:aC)(fd:iE)(ps:List aE)(sp:Sp):Prop where
 len:∀ vs H Q E,sp vs H Q E->vs.length=ps.length
 run:∀ (A:bW) (outer:List Env) (s:aH) (H:Hp) (args:Args) (us:List aD) (vs:List V) (Q:VK) (E:XK),Room k A->Env0 P w K mg base A outer s H->BindsTo s fd args (ps.zip us)->Vals vs us->sp vs H Q E ->
  kB (aO P w) A (.call (.ref f) args) (CR CX outer P w H s Q E) s
theorem FnOk.imp {P:bG}{w:aX}{CX:yi}{f:aC}{fd:iE}{sp sp':Sp}(F:FnOk P w K mg base CX k f fd ps sp)
  (h:∀ vs H Q E,sp' vs H Q E->sp vs H Q E):FnOk P w K mg base CX k f fd ps sp':=
 ⟨λvs H Q E q=>F.len vs H Q E (h _ _ _ _ q),λA outer s H args us vs Q E hr he hb hv hs=>F.run A outer s H args us vs Q E hr he hb hv (h _ _ _ _ hs)⟩
section
variable {X:Cx}{Z:St}{H:Hp}
theorem Inv.env0 (I:Inv X ah Z H s):Env0 X.prog X.w X.K X.mg X.base X.A X.stack s H:=
 ⟨I.ok.frames,I.ok.mod,I.bs,dA I.ok.bsz I.sz,I.stack,I.stkFree,I.hok,I.bare⟩
theorem Inv.after {Q:VK}(I:Inv X ah Z H s)(h:CE X.stack X.prog X.w H s Q u s'):EP X ah Z Q u s':=by
 obtain⟨v,H',os,bare,un,hok,r,q⟩:=h;obtain⟨hh,g,d,t,R5⟩:=s';obtain rfl:R5=s.os:=os;exact⟨v,H',I.call un hok bare (λb z=>absurd z (by simp)),r,q⟩
end
def UM (sp:Sp)(R6:List V)(E:XK)(t:TA):TE:=λZ H Q=>t Z H λvs H1=>sp (vs++R6) H1 Q E
def Binds (K:aJ)(fd:iE)(ps:List aE)(ds:List aD):Prop:=
 ∀ (s:aH) (us:List aD),K.In s.heap->(us++ds).length=ps.length->BindsTo s fd ⟨us,[]⟩ (ps.zip (us++ds))
theorem Binds.all{fd:iE}(h:∀ us:List aD,us.length=ps.length->AY fd ⟨us,[]⟩=pure (ps.zip us)):Binds K fd ps []:=λs us _ hl=>by
 rw[qH] at hl ⊢;exact .of_eq (h us hl)
def Passes (CX:yi)(X:Cx)(E:XK):Prop:=∀ (ah:List (aC×bB)) (Z:St) (H:Hp) (s:aH) (e:aD) (s':aH),Inv X ah Z H s->CX X.stack H s E e s'->X.xe e s'
section
variable {X:Cx}{CX:yi}{f:aC}{fd:iE}{sp:Sp}{R6:List V}{ds:List aD}{E:XK}{m:aE}{ay:bQ}{o:aR}{ta:TE}{t:TA}
theorem Oi{Z:St}{H:Hp}{Q:VK}{vs:List V}(F:FnOk X.prog X.w X.K X.mg X.base CX k f fd ps sp)(hr:Room k X.A)(hb:Binds X.K fd ps ds)(hd:Vals R6 ds)(hx:Passes CX X E)
  (I:Inv X ah Z H s) (r:Vals vs us) (h:sp (vs++R6) H Q E):aM (aO X.prog X.w) X.A (call (.ref f) us) (EP X ah Z Q) X.xe s:=by
 have r2:=r.append hd;have hl:(us++ds).length=ps.length:=by rw[<-r2.length];exact F.len _ _ _ _ h
 refine wpAny_call (AX (F.run X.A X.stack s H ⟨us,[]⟩ (us++ds) (vs++R6) Q E hr I.env0 (hb s us I.kIn hl) r2 h) λr s' hq=>?_)
 cases r with
 |error e=>exact hx ah Z H s e s' I hq
 |ok fl=>
  cases fl with
  |ret u=>exact I.after hq
  |next=>exact qJ hq
  |brk=>exact qJ hq
  |cont=>exact qJ hq
theorem Uq (F:FnOk X.prog X.w X.K X.mg X.base CX k f fd ps sp)(hr:Room k X.A)(hg:Gl X x)(hm:X.mg x=aa (.ref f))(hk:uC X.K (.ref f)=af)(hb:Binds X.K fd ps ds)(hd:Vals R6 ds)(hx:Passes CX X E)
  (ha:PA X (e::es) t) (we:(x==("__debug__" : aE))=ag:=by decide) (he:bJ (e::es) X.env=(ag,bK e X.env)::bJ es X.env:=by rfl) (iw:(fY pos (bJ es X.env)).any (·.1)=ag:=by rfl) :
  PE X (.Call (.Name x p) (e::es) [] pos) (UM sp R6 E t):=by
 rw[14];refine Ia (Gi I hg hm ?_ we);refine PySem.W.callWith_K I.ok.mod.kin hk (bf (ha pos ah s Z H _ I h) λus s1 ⟨vs,H1,I1,r,q⟩=>⟨I1.kIn,?_⟩) he iw
 exact Oi F hr hb hd hx I1 r q
end
structure FnScope (N P:List aE)(sc:iN):Prop where
 kind:sc.kind=.function
 co:sc.isCoroutine=ag
 gen:sc.isGenerator=ag
 nd:N.Nodup
 pre:N.take P.length=P
 par:∀ x∈P,sc.names.lookup x=aa .local\/sc.names.lookup x=aa .cell
 nofree:∀ y∈sc.names,y.2 ≠ .free
theorem Cb:∀ {binds:List (aE×aD)} {m:aE->Option aD},(∀ v,(x,v)∉binds)->bindL kindOf binds m x=m x
 |[],_,_=>rfl
 |(n,v)::r,m,h=>by
  unfold bindL;rw[Cb λw hw=>h w (bH _ hw)]
  split
  .have:x≠n:=by rintro rfl;exact h v bE
   simp[this]
  .rfl
theorem Bb:∀ {binds:List (aE×aD)} {m:aE->Option aD},(∀ v,(x,v)∉binds)->bindC kindOf binds m x=m x
 |[],_,_=>rfl
 |(n,v)::r,m,h=>by
  unfold bindC;rw[Bb λw hw=>h w (bH _ hw)]
  split
  .rfl
  .have:x≠n:=by rintro rfl;exact h v bE
   simp[this]
theorem Ad:∀ {P:List aE} {vs:List aD} {i:Nat} {m:aE->Option aD},P.Nodup->P[i]?=aa x->vs[i]?=aa v->kindOf x=aa .local ->
  bindL kindOf (P.zip vs) m x=aa v
 |[],_,_,_,_,h,_,_=>by simp at h
 |_::_,[],_,_,_,_,h,_=>by simp at h
 |p::P,w::vs,0,m,nd,h1,h2,hk=>by
  simp at h1 h2;subst h1;subst h2;show bindL kindOf ((p,w)::P.zip vs) m p=_;unfold bindL;rw[Cb λv hv=>(kC.1 nd).1 (Je hv).1,if_pos hk]
  simp
 |p::P,w::vs,i+1,m,nd,h1,h2,hk=>by
  unfold bindL;exact Ad (kC.1 nd).2 (by simpa using h1) (by simpa using h2) hk
theorem Ao:∀ {P:List aE} {vs:List aD} {i:Nat} {m:aE->Option aD},P.Nodup->P[i]?=aa x->vs[i]?=aa v->kindOf x≠aa .local ->
  bindC kindOf (P.zip vs) m x=aa v
 |[],_,_,_,_,h,_,_=>by simp at h
 |_::_,[],_,_,_,_,h,_=>by simp at h
 |p::P,w::vs,0,m,nd,h1,h2,hk=>by
  simp at h1 h2;subst h1;subst h2;show bindC kindOf ((p,w)::P.zip vs) m p=_;unfold bindC;rw[Bb λv hv=>(kC.1 nd).1 (Je hv).1,if_neg hk]
  simp
 |p::P,w::vs,i+1,m,nd,h1,h2,hk=>by
  unfold bindC;exact Ao (kC.1 nd).2 (by simpa using h1) (by simpa using h2) hk
def start (N:List aE)(vs:List V):St:=vs.map aa++BM (N.length-vs.length) ae
def sC (CX:yi)(P:bG)(w:aX)(K:aJ)(mg:aE->Option aD)(base:aQ)(N:List aE)(qual:aE)(scope:iN)(f:aC)(cd:aD)(A:bW)(outer:List Env)(s:aH)(H:Hp)(E:XK):Cx where
 prog:=P
 w:=w
 K:=K
 mg:=mg
 base:=base
 A:=A.deeper (pY qual scope s.heap.objs.size f cd)
 N:=N
 s₀:=s
 H₀:=H
 env:=pY qual scope s.heap.objs.size f cd
 outer:=outer
 stack:=pY qual scope s.heap.objs.size f cd::outer
 ex:=[]
 calm:=af
 fn:=λ_=>af
 pn:=[]
 xe:=λe s'=>aM (aO P w) (A.deeper (pY qual scope s.heap.objs.size f cd)) (leaving (pY qual scope s.heap.objs.size f cd) e) (λ_ xn=>CX outer H s E e xn) (λe' xn=>CX outer H s E e' xn) s'
theorem XX {sc:iN}{n:Nat}(h:sc.names.lookup x=aa .cell):∃ c,(cellsFrom n sc.names []).lookup x=aa c:=by
 have q:=PySem.W.cellsFrom_some sc.names n [] (.inl h);exact xD.1 q
theorem B6 {CX:yi}{P:bG}{w:aX}{N:List aE}{qual:aE}{scope:iN}{f:aC}{cd:aD}{outer:List Env}{s1:aH}{H:Hp}{E:XK}{vs:List V}
  (S:FnScope N ps scope) (hd:A.handled=ae) (e0:Env0 P w K mg base A outer s H) (hl:vs.length=ps.length) (r:Vals vs us)
  (x:InCallC s s.heap.objs.size (bindL (pY qual scope s.heap.objs.size f cd).kindOf (ps.zip us) λ_=>ae) (cellsFrom (s.heap.objs.size+1) scope.names []) (bindC (pY qual scope s.heap.objs.size f cd).kindOf (ps.zip us) λ_=>ae) s1) :
  Inv (sC CX P w K mg base N qual scope f cd A outer s H E) [] (start N vs) H s1:=by
 have iw:ps.length<=N.length:=by have:=congrArg List.length S.pre;rw[oT] at this;omega
 obtain⟨h1,tk,rfl,hk⟩:=x.done;have XL:∀ b:aC,b∉(sC CX P w K mg base N qual scope f cd A outer s H E).ex:=λb z=>absurd (show b∈([]:List aC) from z) (by simp)
 refine⟨⟨e0.mod,S.kind,rfl,rfl,bD _,λy z c h1 h2=>?_,λy hy=>?_,λy c _ h=>?_,λ_=>hd,Around.frames_deeper e0.frames,.inr ⟨rfl,rfl⟩,λb z=>absurd z (XL b),e0.bs,e0.bsz,λb _ _=>XL b,λb z=>absurd z (XL b),e0.funs,e0.frf⟩,
  rfl,e0.bare,Un.kept hk,⟨_,x.toInCall.ns,λi y v h1 h2 h3=>?_⟩,λy c h=>⟨_,x.cell y c h⟩,e0.hok.fresh (bD _),λy c h=>?_,λp hp=>absurd (show p∈([]:List (aC×bB)) from hp) (by simp),e0.hok.kept hk,?_⟩
 .exact name_of_addr x.apart (GN h1) (GN h2)
 .have hy:=hy;rcases hy with hy|hy
  .exact XX hy
  .exact absurd rfl (S.nofree _ (GN hy))
 .exact oQ (x.above y c (GN h))
 .have hi:i<vs.length:=by
   unfold start at h2;by_cases hi:i<vs.length
   .exact hi
   .rw[RL (by simpa using hi)] at h2
    rw[List.getElem?_replicate] at h2;split at h2<;>cases h2
  have ha:vs[i]?=aa v:=by
   unfold start at h2;rw[xK (by simpa using hi),eE] at h2
   cases e:vs[i]? with
   |none=>rw[e] at h2;cases h2
   |some a=>rw[e] at h2;cases h2;rfl
  obtain⟨u,hu,rv⟩:=r.get ha;have hp:ps[i]?=aa y:=by
   rw[<-S.pre,O7 (by omega)];exact h1
  have ndP:ps.Nodup:=by rw[<-S.pre];exact S.nd.sublist (List.take_sublist _ _)
  refine⟨u,rv,?_⟩;rcases S.par y (eU hp) with k|k
  .exact .inl ⟨k,Ad ndP hp hu k⟩
  .obtain⟨c,e⟩:=XX k;refine .inr ⟨.inl k,c,e,?_⟩;have q:=x.cell y c e;rw[Ao ndP hp hu (by show scope.names.lookup y≠_;rw[k];decide)] at q
   exact q
 .exact e0.hok.fresh (oQ (x.above y c (GN h)))
 .unfold start;show _=N.length;rw[oU,cD,List.length_replicate];omega
theorem Ma {CX:yi}{P:bG}{w:aX}{f:aC}{name qual:aE}{params:Arguments}{scope:iN}{dV kV ik pm ba ct oc:aD}{an od:Option aC}
  {No:Array (Option aD)} {N ps:List aE} {sp:Sp} (lk:K.lookup f=aa ⟨oc,od,.func (lL name qual params body scope dV kV ik pm an ba ct),No⟩) (fj:AZ K ba qual=af) (S:FnScope N ps scope)
  (len:∀ vs H Q E,sp vs H Q E->vs.length=ps.length)
  (xo:∀ (A:bW) (outer:List Env) (s:aH) (H:Hp) (vs:List V) (Q:VK) (E:XK),Room k (A.deeper (pY qual scope s.heap.objs.size f ba))->sp vs H Q E ->
   ∃ t,PSs (sC CX P w K mg base N qual scope f ba A outer s H E) body t/\t { nx:=λ_ H'=>Q .non H',rt:=Q } (start N vs) H) :
  FnOk P w K mg base CX (k+1) f (lL name qual params body scope dV kV ik pm an ba ct) ps sp:=by
 refine⟨len,λA outer s H args us vs Q E hr e0 hb r NE=>?_⟩
 have hl:=len _ _ _ _ NE;have KX:K.In s.heap:=e0.mod.kin.keeps λb o e=>(e0.bs b o e).1
 have lim:s.heap.NoLimit:=e0.mod.nolimit.keeps λb o e=>(e0.bs b o e).1
 have vk:∀ y∈ps.zip us,scope.names.lookup y.1=aa .local\/(scope.names.lookup y.1=aa .cell/\((cellsFrom (s.heap.objs.size+1) scope.names []).lookup y.1).isSome=af):=λ⟨n,v⟩ hy=>by
  rcases S.par n (Je hy).1 with q|q
  .exact .inl q
  .exact .inr ⟨q,PySem.W.cellsFrom_some _ _ _ (.inl q)⟩
 refine codeAny_call_function hr.depth (KX _ _ lk) rfl S.co S.gen rfl (PySem.W.codeRec_of KX fj) (hb _ _ _ _ ?_);refine wpAny_newFunctionEnv_cells S.kind vk λenv he s1 x=>?_
 subst he;refine⟨lim.keeps x.toInCall.keep,codeAny_func ?_⟩;obtain⟨t,ht,hq⟩:=xo A outer s H vs Q E (hr.deeper _) NE;have I:Inv (sC CX P w K mg base N qual scope f ba A outer s H E) [] (start N vs) H s1:=B6 S hr.hd e0 hl r x;refine lG (ht [] s1 (start N vs) H _ I hq) (λfl s' hs=>?_) λe s' hs=>hs
 have fin:∀ {σ':St} {H':Hp} {v:V} {u:aD},Inv (sC CX P w K mg base N qual scope f ba A outer s H E) [] σ' H' s'->RelV v u->Q v H'->CE outer P w H s Q u s':=
  λ{σ' H' v u} J rv q=>⟨v,H',J.os,J.bare,J.base,J.hok,rv,q⟩
 cases fl with
 |ret u=>
  obtain⟨v,σ',H',J,rv,q⟩:=hs;exact fin J rv q
 |next=>
  obtain⟨σ',H',J,q⟩:=hs;exact fin (v:=V.non) (u:=eJ) J rfl q
 |brk=>
  obtain⟨_,_,_,q⟩:=hs;exact qJ q
 |cont=>
  obtain⟨_,_,_,q⟩:=hs;exact qJ q
section
variable {X:Cx}{t:TA}{id T:String}{r:List V->Hp->VK->Prop}
def tCB (r:List V->Hp->VK->Prop)(t:TA):TE:=λZ H Q=>t Z H λvs H1=>r vs H1 Q
theorem EO (hc:Acy X (.builtin id) r)(hg:Gl X x)(hm:X.mg x=ae)(hv:nK x=aa (.builtin id))(ha:PA X (e::es) t)(hn:x ≠ "__name__":=by decide)(we:(x==("__debug__" : aE))=ag:=by decide)
  (he:bJ (e::es) X.env=(ag,bK e X.env)::bJ es X.env:=by rfl) (iw:(fY pos (bJ es X.env)).any (·.1)=ag:=by rfl):PE X (.Call (.Name x p) (e::es) [] pos) (tCB r t):=by
 rw[14];refine Ia (sU I hg hm hv ?_ hn we);exact PyProof.Rows.callWith_builtin1 (bf (ha pos ah s Z H _ I h) λus s1 ⟨vs,H1,I1,r1,q1⟩=>hc ah s1 Z H1 vs us Q I1 r1 q1) he iw
theorem tN (hc:Acy X (.type T) r)(hg:Gl X x)(hm:X.mg x=ae)(hv:nK x=aa (.type T))(ha:PA X (e::es) t)(hn:x ≠ "__name__":=by decide)(we:(x==("__debug__" : aE))=ag:=by decide)
  (he:bJ (e::es) X.env=(ag,bK e X.env)::bJ es X.env:=by rfl) (iw:(fY pos (bJ es X.env)).any (·.1)=ag:=by rfl):PE X (.Call (.Name x p) (e::es) [] pos) (tCB r t):=by
 rw[14];refine Ia (sU I hg hm hv ?_ hn we);exact GO (bf (ha pos ah s Z H _ I h) λus s1 ⟨vs,H1,I1,r1,q1⟩=>hc ah s1 Z H1 vs us Q I1 r1 q1) he iw
end
section
variable {κ:Type}[DecidableEq κ]
def fH (kvs:List (κ×V))(k:κ):Option V:=(kvs.find? λkv=>decide (kv.1=k)).map (·.2)
def putK (kvs:List (κ×V))(k:κ)(v:V):List (κ×V):=
 if (kvs.any λkv=>decide (kv.1=k))=af then kvs.map (λkv=>if kv.1=k then(kv.1,v) else kv) else kvs++[(k,v)]
theorem vO {p:κ×V}{r:List (κ×V)}{k:κ}(e:p.1=k):fH (p::r) k=aa p.2:=by simp[fH,fF,e]
theorem tJ {p:κ×V}{r:List (κ×V)}{k:κ}(e:¬ p.1=k):fH (p::r) k=fH r k:=by simp[fH,fF,e]
theorem yX (k:κ):∀ kvs:List (κ×V),(kvs.any λkv=>decide (kv.1=k))=(fH kvs k).isSome
 |[]=>rfl
 |p::r=>by
  rw[xP];by_cases e:p.1=k
  .simp only[vO e,decide_eq_true e,Bool.true_or,Option.isSome_some]
  .rw[tJ e,decide_eq_false e,Bool.false_or];exact yX k r
theorem zV (kvs:List (κ×V))(k:κ)(v:V):(putK kvs k v).length<=kvs.length+1:=by
 unfold putK;split
 .rw[cD];omega
 .rw[oU,fE,List.length_nil];omega
theorem Av5.isSome_eq {o:Option V}{u:Option aD}(r:Av5 o u):o.isSome=u.isSome:=by
 cases o with
 |none=>cases u with
  |none=>rfl
  |some _=>exact(show False from r).elim
 |some _=>cases u with
  |none=>exact(show False from r).elim
  |some _=>rfl
theorem Av5.getD {o:Option V}{u:Option aD}{d:V}{d':aD}(r:Av5 o u)(rd:RelV d d'):RelV (o.getD d) (u.getD d'):=by
 cases o with
 |none=>cases u with
  |none=>exact rd
  |some _=>exact(show False from r).elim
 |some _=>cases u with
  |none=>exact(show False from r).elim
  |some _=>exact r
theorem KV.val {kvs:List (κ×V)}{vs:List (κ×aD)}(r:KV kvs vs)(k:κ):Av5 (fH kvs k) (valueAt vs k):=by
 unfold KV at r;induction r with
 |nil=>exact qA
 |@cons p q ps qs h t ih=>
  obtain⟨h1,h2⟩:=h;by_cases e:p.1=k
  .have e':=h1.symm.trans e;have b:valueAt (q::qs) k=aa q.2:=by simp[valueAt,fF,e']
   rw[vO e,b];exact h2
  .have e':¬ q.1=k:=λz=>e (h1.trans z)
   have b:valueAt (q::qs) k=valueAt qs k:=by simp[valueAt,fF,e']
   rw[tJ e,b];exact ih
theorem KV.any {kvs:List (κ×V)}{vs:List (κ×aD)}(r:KV kvs vs)(k:κ):(kvs.any λkv=>decide (kv.1=k))=vs.any λkv=>decide (kv.1=k):=by
 unfold KV at r;induction r with
 |nil=>rfl
 |cons h t ih=>rw[xP,xP,ih,h.1]
theorem KV.repl {kvs:List (κ×V)}{vs:List (κ×aD)}(r:KV kvs vs)(k:κ){y:V}(ry:RelV y u) :
  KV (kvs.map λkv=>if kv.1=k then(kv.1,y) else kv) (vs.map λkv=>if kv.1=k then(kv.1,u) else kv):=by
 unfold KV at r ⊢;induction r with
 |nil=>exact .nil
 |@cons p q ps qs h t ih=>
  rw[dB,dB];refine .cons ?_ ih;obtain⟨h1,h2⟩:=h;by_cases e:p.1=k
  .rw[if_pos e,if_pos (h1.symm.trans e)];exact⟨h1,ry⟩
  .rw[if_neg e,if_neg (λz=>e (h1.trans z))];exact⟨h1,h2⟩
theorem KV.put {kvs:List (κ×V)}{vs:List (κ×aD)}(r:KV kvs vs)(k:κ){y:V}(ry:RelV y u):KV (putK kvs k y) (tZ vs k u):=by
 unfold putK tZ;rw[r.any k];by_cases e:(vs.any λkv=>decide (kv.1=k))=af
 .rw[if_pos e,if_pos e];exact r.repl k ry
 .rw[if_neg e,if_neg e];exact Paired.snoc r ⟨rfl,ry⟩
theorem KV.length {kvs:List (κ×V)}{vs:List (κ×aD)}(r:KV kvs vs):kvs.length=vs.length:=jF r
end
theorem sH {P:bG}{w:aX}{k:aI}(r:RelV (kV k) u):(fU P w).is k u=af:=by
 cases k with
 |inl i=>obtain⟨t,e⟩:=(show ∃ t,u=rN i t from r);subst e;exact NI P w i t
 |inr x=>obtain⟨t,e⟩:=(show ∃ t,u=uB x t from r);subst e;exact MY P w x t
abbrev KT (H:Hp):List (List aA×V)->List (List aA×aC×aD)->Prop:=cN λp q=>p.1=q.1/\Al0 H p.1 q.2.1/\RelV p.2 q.2.2
theorem KT.val {H:Hp}{kvs:List (List aA×V)}(r:KT H kvs xs)(k:List aA):Av5 (fH kvs k) ((pZ xs k).map (·.2)):=by
 induction r with
 |nil=>exact qA
 |@cons p q ps qs h t ih=>
  obtain⟨h1,_,h2⟩:=h;by_cases e:p.1=k
  .have e':=h1.symm.trans e;have b:pZ (q::qs) k=aa q.2:=by simp[pZ,fF,e']
   rw[vO e,b];exact h2
  .have e':¬ q.1=k:=λz=>e (h1.trans z)
   have b:pZ (q::qs) k=pZ qs k:=by simp[pZ,fF,e']
   rw[tJ e,b];exact ih
theorem KT.repl {H:Hp}{kvs:List (List aA×V)}(r:KT H kvs xs)(k:List aA){y:V}(ry:RelV y u) :
  KT H (kvs.map λkv=>if kv.1=k then(kv.1,y) else kv) (xs.map (putAt k u)):=by
 induction r with
 |nil=>exact .nil
 |@cons p q ps qs h t ih=>
  rw[dB,dB];refine .cons ?_ ih;obtain⟨h1,h2,h3⟩:=h;unfold putAt;by_cases e:p.1=k
  .rw[if_pos e,if_pos (h1.symm.trans e)];exact⟨h1,h2,ry⟩
  .rw[if_neg e,if_neg (λz=>e (h1.trans z))];exact⟨h1,h2,h3⟩
theorem KT.put {H:Hp}{kvs:List (List aA×V)}(r:KT H kvs xs)(k:List aA){y:V}(hb:Al0 H k b)(ry:RelV y u) :
  KT H (putK kvs k y) (pV xs k b u):=by
 have e:(kvs.any λkv=>decide (kv.1=k))=(pZ xs k).isSome:=by
  rw[yX,(r.val k).isSome_eq,QR]
 unfold putK pV;rw[e];by_cases q:(pZ xs k).isSome=af
 .rw[if_pos q,if_pos q];exact r.repl k ry
 .rw[if_neg q,if_neg q];exact Paired.snoc r ⟨rfl,hb,ry⟩
theorem KT.keeps {H H':Hp}{kvs:List (List aA×V)}(r:KT H kvs xs)(ht:∀ b ys,H b=aa (.tup ys)->H' b=aa (.tup ys)):KT H' kvs xs:=
 Paired.mapP r λ_ _ z=>⟨z.1,z.2.1.keep ht,z.2.2⟩
section
variable {P:bG}{w:aX}{H:Hp}
theorem TZ {u:HO}(ok:HOk P w H h)(e:Rd H a u):Ab8 P w H h a u:=e.ok ok
theorem CF{kvs:List (aI×V)}(ok:HOk P w H h)(e:Rd H a (.dK ep kvs)):kvs.length<=sizeLine/\(a==iL)=ag/\∃ vs,KV kvs vs/\h.DictAt (fU P w) a vs ep:=
 show Ab8 P w H h a (.dK ep kvs) from TZ ok e
theorem pD{kvs:List (aI×V)}(ok:HOk P w H h)(e:Rd H a (.dK ep kvs)):kvs.length<=sizeLine/\(a==iL)=ag/\∃ vs,KV kvs vs/\h.DictOf (fU P w) a vs:=
 let ⟨z,y,vs,r,d⟩:=CF ok e;⟨z,y,vs,r,d.dictOf⟩
theorem wJ{kvs:List (aI×V)}(ok:HOk P w H h)(e:H a=aa (.dK ep kvs)):kvs.length<=sizeLine/\(a==iL)=ag/\∃ vs,KV kvs vs/\h.DictOf (fU P w) a vs:=pD ok (.inl e)
theorem AH {P:bG}{w:aX}(hu:A.units+40<cLine):(iY P w).room A.in1:=by
 show A.in1.units+20<cLine;have:A.in1.units=A.units+1:=rfl;omega
mutual
theorem ZO (ok:HOk P w H h):∀ (d:aA) {v:V} {u:aD},Aly H d v->RelV v u->∃ as,nM h u d as
 |.int i,v,u,k,r=>by
  have e:v=.int i:=by simpa [Aly] using k
  subst e;obtain⟨t,rfl⟩:=r;exact⟨_,.int i t⟩
 |.str x,v,u,k,r=>by
  have e:v=.str x:=by simpa [Aly] using k
  subst e;obtain⟨t,rfl⟩:=r;exact⟨_,.str x t⟩
 |.tuple ds,v,u,k,r=>by
  simp only[Aly] at k;obtain⟨a,xs,rfl,e,ks⟩:=k;cases r;obtain⟨_,its,rv,⟨o,h1,h2,n,h3⟩,_⟩:=(show Ab8 P w H h a (.tup xs) from ok a _ e)
  obtain⟨as,ra⟩:=Ai ok ds ks rv;exact⟨as,.tuple h1 h2 h3 (by simpa using ra)⟩
 |.none,v,u,k,r=>by simp[Aly] at k
 |.bool _,v,u,k,r=>by simp[Aly] at k
 |.list _,v,u,k,r=>by simp[Aly] at k
 |.dict _,v,u,k,r=>by simp[Aly] at k
theorem Ai (ok:HOk P w H h):∀ (ds:List aA) {vs:List V} {us:List aD},Af9 H ds vs->Vals vs us->∃ as,nL h us ds as
 |[],vs,us,k,r=>by
  have e:vs=[]:=by simpa [Af9] using k
  subst e;cases r;exact⟨_,.nil⟩
 |d::ds,vs,us,k,r=>by
  simp only[Af9] at k;obtain⟨x,rr,rfl,k1,k2⟩:=k;cases r with
  |cons r1 r2=>
   obtain⟨as,ra⟩:=ZO ok d k1 r1;obtain⟨bs,rb⟩:=Ai ok ds k2 r2;exact⟨_,.cons ra rb⟩
end
theorem key_of(ok:HOk P w H h)(e:Al0 H ks a):(iY P w).is h ks a:=by
 obtain⟨k1,k2,xs,e,il⟩:=e;refine⟨k1,k2,?_⟩;exact ZO ok (.tuple ks) (v:=.ref a) (u:=.ref a) (by simp only[Aly];exact⟨a,xs,rfl,e,il⟩) rfl
theorem sP {kvs:List (List aA×V)}(ok:HOk P w H h)(e:∃ ep,Rd H a (.dT ep kvs)):kvs.length<=sizeLine/\(a==iL)=ag /\
  ∃ xs,KT H kvs xs/\h.DictOfH (iY P w) a xs:=by
 obtain⟨ep,e⟩:=e;obtain⟨z,y,xs,r,o,es,h1,h2,h3,h4,h5⟩:=(show Ab8 P w H h a (.dT ep kvs) from TZ ok e)
 refine⟨z,y,xs,r,o,es,ep,h1,h2,h3,h4,λx hx=>?_,h5⟩
 have all:∀ {l:List (List aA×V)} {m:List (List aA×aC×aD)},KT H l m->∀ x∈m,(iY P w).is h x.1 x.2.1:=by
  intro l m q;induction q with
  |nil=>intro x hx;exact nomatch hx
  |@cons p q ps qs hq t ih=>
   intro x hx;rcases cO.1 hx with e|hx
   .subst e;exact key_of ok (by rw[<-hq.1];exact hq.2.1)
   .exact ih x hx
 exact all r x hx
theorem TU{kvs:List (List aA×V)}(ok:HOk P w H h)(e:H a=aa (.dT ep kvs)):kvs.length<=sizeLine/\(a==iL)=ag /\
  ∃ xs,KT H kvs xs/\h.DictOfH (iY P w) a xs:=sP ok ⟨ep,.inl e⟩
end
def Bab (H:Hp)(a:aC)(y:V)(r:Option V):Prop:=
 (∃ ep kvs k,Rd H a (.dK ep kvs)/\y=kV k/\r=fH kvs k)\/∃ kvs k b,(∃ ep,Rd H a (.dT ep kvs))/\y=.ref b/\Al0 H k b/\r=fH kvs k
def Bmk (H:Hp)(a:aC)(y v:V)(H':Nat->Hp):Prop:=
 (∃ ep kvs k,H a=aa (.dK ep kvs)/\y=kV k/\kvs.length<sizeLine/\H'=λn=>au H a (.dK n (putK kvs k v))) \/
 ∃ kvs k b,(∃ ep,H a=aa (.dT ep kvs))/\y=.ref b/\Al0 H k b/\kvs.length<sizeLine/\H'=λn=>au H a (.dT n (putK kvs k v))
theorem Bab.t {H:Hp}{kvs:List (List aA×V)}{k:List aA}(e:H a=aa (.dT ep kvs))(eb:Al0 H k b):Bab H a (.ref b) (fH kvs k):=.inr ⟨kvs,k,b,⟨ep,.inl e⟩,rfl,eb,rfl⟩
theorem Bmk.t {H:Hp}{kvs:List (List aA×V)}{k:List aA}{v:V}(e:H a=aa (.dT ep kvs))(eb:Al0 H k b)(hl:kvs.length<sizeLine) :
  Bmk H a (.ref b) v (λn=>au H a (.dT n (putK kvs k v))):=.inr ⟨kvs,k,b,⟨ep,e⟩,rfl,eb,hl,rfl⟩
section
variable {X:Cx}{Z:St}{H:Hp}{y v:V}{r:aD}{o:Option V}
theorem Inv.big (I:Inv X ah Z H s):iL<s.heap.objs.size:=by
 have h:=(I.mod.glob.keeps I.bk).lt;exact GU (by decide) h
theorem t7(hu:A.units+40<cLine)(I:Inv X ah Z H s)(g:Bab H a y (aa v))(ry:RelV y u)(h:∀ w' s',Inv X ah Z H s'->RelV v w'->Q w' s') :
  aM (aO X.prog X.w) A (pX (.ref a) u) Q E s:=by
 rcases g with⟨ep,kvs,k,e,ey,l⟩|⟨kvs,k,b,e,ey,eb,l⟩
 .subst ey;obtain⟨z,hd,vs,fm,dd⟩:=pD I.hok e;obtain⟨w',hw,ql⟩:=Av5.some_of (by rw[l];exact fm.val k)
  exact wpAny_getItem_of (sH ry) dd.mapOf hw (h w' _ (I.tok _) ql)
 .subst ey;cases(show u=eI b from ry)
  obtain⟨z,hd,xs,fm,dd⟩:=sP I.hok e;obtain⟨w',hw,ql⟩:=Av5.some_of (by rw[l];exact fm.val k)
  obtain⟨p,hp,hp2⟩:=fZ.1 hw;refine wpAny_getItem_heap (AH hu) (key_of I.hok eb) dd hp ?_;rw[hp2];exact h w' _ (I.tok _) ql
theorem Le(hu:A.units+40<cLine)(I:Inv X ah Z H s)(g:Bab H a y o)(ry:RelV y u)(h:∀ s',Inv X ah Z H s'->Q (.bool o.isSome) s') :
  aM (aO X.prog X.w) A (gU .In u (.ref a)) Q E s:=by
 rcases g with⟨ep,kvs,k,e,ey,l⟩|⟨kvs,k,b,e,ey,eb,l⟩
 .subst ey;obtain⟨z,hd,vs,fm,dd⟩:=pD I.hok e;refine wpAny_in_of (sH ry) hd dd.mapOf ?_;rw[<-(fm.val k).isSome_eq,<-l];exact h _ (I.tok _)
 .subst ey;cases(show u=eI b from ry)
  obtain⟨z,hd,xs,fm,dd⟩:=sP I.hok e;refine wpAny_in_heap (AH hu) (key_of I.hok eb) hd dd ?_;have q:=(fm.val k).isSome_eq;rw[QR] at q;rw[<-q,<-l];exact h _ (I.tok _)
theorem Uu(hu:A.units+40<cLine)(I:Inv X ah Z H s)(g:Bab H a y o)(ry:RelV y u)(h:∀ s',Inv X ah Z H s'->Q (.bool (!o.isSome)) s') :
  aM (aO X.prog X.w) A (gU .NotIn u (.ref a)) Q E s:=by
 rcases g with⟨ep,kvs,k,e,ey,l⟩|⟨kvs,k,b,e,ey,eb,l⟩
 .subst ey;obtain⟨z,hd,vs,fm,dd⟩:=pD I.hok e;refine wpAny_notIn_of (sH ry) hd dd.mapOf ?_;rw[<-(fm.val k).isSome_eq,<-l];exact h _ (I.tok _)
 .subst ey;cases(show u=eI b from ry)
  obtain⟨z,hd,xs,fm,dd⟩:=sP I.hok e;refine wpAny_notIn_heap (AH hu) (key_of I.hok eb) hd dd ?_;have q:=(fm.val k).isSome_eq;rw[QR] at q;rw[<-q,<-l];exact h _ (I.tok _)
theorem IZ{ob:HO}(I:Inv X ah Z H s)(mu:xU (H a))(hs:mL a s.heap h')(he:∃ q,h'.get? a=aa q)(new:Ab8 X.prog X.w (au H a ob) h' a ob) :
  Inv X ah Z (au H a ob) { s with heap:=h',toks:=t' }:=
 I.write mu (.inl rfl) (λb q hb z=>(hs.2 b hb).trans z) he new
theorem CY {P:bG}{w:aX}{H':Hp}{kvs:List (aI×V)}{vs:List (aI×aD)}(z:kvs.length<=sizeLine)(hd:(a==iL)=ag)(fm:KV kvs vs)(dd:h'.DictAt (fU P w) a vs ep) :
  Ab8 P w H' h' a (.dK ep kvs):=⟨z,hd,vs,fm,dd⟩
theorem G3 {H':Nat->Hp}{Q:Unit->aH->Prop}(hu:A.units+40<cLine)(I:Inv X ah Z H s)(g:Bmk H a y v H')(ry:RelV y u)(rv:RelV v r)(h:∀ n s',Inv X ah Z (H' n) s'->Q () s') :
  aM (aO X.prog X.w) A (setItem (.ref a) u r) Q E s:=by
 rcases g with⟨ep,kvs,k,e,ey,l,eH⟩|⟨kvs,k,b,e,ey,eb,l,eH⟩
 .subst ey eH;obtain⟨z,hd,vs,fm,dd⟩:=wJ I.hok e;have hz:vs.length<=sizeLine:=by rw[<-fm.length];exact z
  have hl:(putK kvs k v).length<=sizeLine:=by have:=zV kvs k v;omega
  refine wpAny_setItem_pairs (sH ry) dd λh' zf hs=>?_
  have he:∃ q,h'.get? a=aa q:=let ⟨q,_,_,hq,_⟩:=zf;⟨q,hq⟩;obtain⟨n,da⟩:=zf.dictAt;exact h n _ (IZ I (by rw[e];exact qA) hs he (CY hl hd (fm.put k rv) da))
 .subst ey eH;cases(show u=eI b from ry)
  obtain⟨ep0,e⟩:=e;obtain⟨z,hd,xs,fm,dd⟩:=TU I.hok e;have hz:xs.length<=sizeLine:=by rw[<-jF fm];exact z
  have hl:(putK kvs k v).length<=sizeLine:=by have:=zV kvs k v;omega
  refine wpAny_setItem_heap (AH hu) (key_of I.hok eb) dd λh' zf hs=>?_
  obtain⟨q,es,ep,hq,h2,h3,h4,_,h5⟩:=zf;refine h ep _ ?_;refine IZ I (by rw[e];exact qA) hs ⟨q,hq⟩ ⟨hl,hd,_,(fm.put k eb rv).keeps λc ys ec=>?_,q,es,hq,h2,h3,h4,h5⟩
  rw[dF (Mo ec e (λz=>nomatch z))]
  exact ec
end
section
variable {X:Cx}{Z:St}{H:Hp}{kvs:List (aI×V)}{k:aI}
theorem Mk(I:Inv X ah Z H s)(e:Rd H a (.dK ep kvs))(h:∀ t s',Inv X ah Z H s'->Q (.int kvs.length t) s'):aM (aO X.prog X.w) A (call (.builtin "len") [.ref a]) Q E s:=by
 obtain⟨z,hd,vs,fm,dd⟩:=pD I.hok e;refine call_len_dict hd dd (by rw[<-fm.length];rw[kA] at z;omega) ?_
 rw[<-fm.length];exact h _ _ (I.tok _)
end
def HV (i:aR):Prop:=∀ ov iv,QA i ag ov iv=operate [ov,iv] (pX ov iv)
theorem Vb{w:aX}{env:Env}{value dy:aR}{T id:String}
  (hl:GH (.type T) "__getitem__" = pure (aa (.builtin id))) (hs:HV dy)
  (h:aM (aO prog w) A (bK value env) (λo s₁=>aM (aO prog w) A (bK dy env) (λi s₂=>s₂.TypeIs o T/\aM (aO prog w) A (pX o i) Q E s₂) E s₁) E s) :
  aM (aO prog w) A (bK (.Subscript value dy pos) env) Q E s:=by
 refine Subscript_ (lG h (λo s₁ h₁=>lG h₁ (λi s₂ h₂=>?_) λ_ _ x=>x) λ_ _ x=>x)
 obtain⟨hT,h₂⟩:=h₂;unfold subscriptTail;rw[20];rw[getitemInPython_of_ne hT.not_modules];refine aF (tX hT hl ?_);have fin:aM (aO prog w) A (QA dy ag o i) (λr s₃=>aM (aO prog w) A (letTemporaryGo value o r>>=λ_=>pure r) Q E s₃) E s₂:=by
  rw[hs o i];exact wpAny_operating (lG h₂ (λr s₃ h₃=>aF (wpAny_letTemporaryGo (aL h₃))) λ_ _ x=>x)
 first
  |exact aL (aF fin)
  |exact aF (aL (aF fin))
  |exact aF fin
theorem b6 {X:Cx}{Z:St}{H:Hp}{y:V}{o:Option V}(I:Inv X ah Z H s)(g:Bab H a y o):s.TypeIs (.ref a) "dict":=by
 rcases g with⟨ep,kvs,k,e,_,_⟩|⟨kvs,k,b,e,_,_,_⟩
 .obtain⟨_,_,vs,_,dd⟩:=pD I.hok e;exact dd.typeIs
 .obtain⟨_,_,xs,_,dd⟩:=sP I.hok e;exact dd.typeIs
def Mc (td ty:TE):TE:=λZ H Q=>td Z H λx H1=>ty Z H1 λy H2=>∃ a v,x=.ref a/\Bab H2 a y (aa v)/\Q v H2
def Mv (td ty tv:TE):TS:=λD Z H=>tv Z H λv H1=>td Z H1 λx H2=>ty Z H2 λy H3=>∃ a H4,x=.ref a/\Bmk H3 a y v H4/\∀ n,D.nx Z (H4 n)
section
variable {X:Cx}{o i value:aR}{qj wf:bQ}{td ty tv:TE}
theorem Fo (hu:X.A.units+40<cLine)(ho:PE X o td)(hi:PE X i ty)(hs:HV i):PE X (.Subscript o i pos) (Mc td ty):=by
 rw[14];refine Vb PySem.F.slot_dict_getitem.lookup hs (bf (ho ah s Z H _ I h) λu s1 ⟨x,H1,I1,rx,q1⟩=>bf (hi ah s1 Z H1 _ I1 q1) λiv s2 gh=>?_)
 obtain⟨y,H2,I2,ry,a,v,ex,g,q2⟩:=gh;subst ex;obtain rfl:u=eI a:=rx;exact⟨b6 I2 g,t7 hu I2 g ry λw' s3 I3 ql=>⟨v,H2,I3,ql,q2⟩⟩
theorem EB (hu:X.A.units+40<cLine)(ho:PE X o td)(hi:PE X i ty)(hv:PE X value tv)(hs:kP value (aa (.Subscript o i qj)) pos.line X.env=pure ag) :
  PS X (.Assign [.Subscript o i qj] value pos) (Mv td ty tv):=by
 rw[21];refine wpAny_Assign_Subscript (bf (hv ah s Z H _ I h) λr s1 ⟨v,H1,I1,rv,q1⟩=>bf (ho ah s1 Z H1 _ I1 q1) λu s2 ⟨x,H2,I2,rx,q2⟩=>bf (hi ah s2 Z H2 _ I2 q2) λiv s3 ⟨y,H3,I3,ry,a,H4,ex,g,q3⟩=>?_) hs
 subst ex;obtain rfl:u=eI a:=rx;exact G3 hu I3 g ry rv λn s4 I4=>⟨Z,H4 n,I4,q3 n⟩
end
theorem Vu {P:bG}{w:aX}{H:Hp}(h:aQ)(hb:iL<h.objs.size):Ab8 P w H (h.push { cls:=.type "dict",data:=.dict #[] }) h.objs.size (.dK 0 []):=
 ⟨eD _,beq_eq_false_iff_ne.2 (gV (cQ hb)),[],.nil,_,#[],cV _ rfl,⟨rfl,rfl,rfl⟩,rfl,λ_ he=>by simp at he,Pairs.nil,GV⟩
theorem Xg {P:bG}{w:aX}{H:Hp}(h:aQ)(hb:iL<h.objs.size):Ab8 P w H (h.push { cls:=.type "dict",data:=.dict #[] }) h.objs.size (.dT 0 []):=
 ⟨eD _,beq_eq_false_iff_ne.2 (gV (cQ hb)),[],.nil,_,#[],cV _ rfl,⟨rfl,rfl,rfl⟩,rfl,rfl,GV⟩
def Qc:TE:=λ_ H Q=>∀ p,H p=ae->Q (.ref p) (au H p (.dK 0 []))
def Ny:TE:=λ_ H Q=>∀ p,H p=ae->Q (.ref p) (au H p (.dT 0 []))
section
variable {X:Cx}
theorem YE:PE X (.Dict [] [] pos) Qc:=λah s Z H Q I h=>
 wpAny_Dict_empty ⟨.ref s.heap.objs.size,_,I.laid (λ_ _ q=>bT _ q) (bD _) (Vu s.heap I.big),rfl,h _ (I.hok.fresh (bD _))⟩
theorem Wt:PE X (.Dict [] [] pos) Ny:=λah s Z H Q I h=>
 wpAny_Dict_empty ⟨.ref s.heap.objs.size,_,I.laid (λ_ _ q=>bT _ q) (bD _) (Xg s.heap I.big),rfl,h _ (I.hok.fresh (bD _))⟩
end
def rA (kvs more:List (aI×V)):List (aI×V):=more.foldl (λak kv=>putK ak kv.1 kv.2) kvs
theorem KV.merge:∀ {more:List (aI×V)} {rs:List (aI×aD)} {kvs:List (aI×V)} {vs:List (aI×aD)},KV more rs->KV kvs vs->KV (rA kvs more) (oO vs rs):=by
 intro more rs kvs vs r;unfold KV at r;induction r generalizing kvs vs with
 |nil=>intro q;exact q
 |@cons p q ps qs h t ih=>
  intro r0;have e:KV (putK kvs p.1 p.2) (tZ vs q.1 q.2):=by
   have:=r0.put p.1 h.2;rw[<-h.1];exact this
  exact ih e
theorem Eo:∀ (more kvs:List (aI×V)),(rA kvs more).length<=kvs.length+more.length
 |[],kvs=>by show kvs.length<=kvs.length+0;omega
 |p::r,kvs=>by
  have h1:=Eo r (putK kvs p.1 p.2);have h2:=zV kvs p.1 p.2;show(rA (putK kvs p.1 p.2) r).length<=_;rw[fE];omega
structure M2 (X:Cx)(o:aR)(m:aE)(ay:bQ)(e f:aR)(bc:bQ):Prop where
 base:rM o m X.env (bK o X.env)=bK o X.env
 few:((fY bc (bJ [e,f] X.env)).all (λx=>!x.1)&&(xA bc (wW [] X.env)).all (λx=>x.1.isSome)
  && decide (([e,f]:List aR).length+([]:List lT).length+(if ([]:List lT).isEmpty then 0 else 1)<30))=af
 line:(ay.endLine==bc.line)=af
 trees:fY bc (bJ [e,f] X.env)=[(ag,bK e X.env),(ag,bK f X.env)]
def IsD (H:Hp)(a:aC):Prop:=(∃ ep kvs,Rd H a (.dK ep kvs))\/∃ kvs,∃ ep,Rd H a (.dT ep kvs)
theorem Ot {X:Cx}{Z:St}{H:Hp}(I:Inv X ah Z H s)(d:IsD H a) :
  s.TypeIs (.ref a) "dict" /\ (∀ b,eI a=.ref b->∃ ob,s.heap.get? b=aa ob/\ob.dict=ae)/\(a==iL)=ag:=by
 rcases d with⟨ep,kvs,e⟩|⟨kvs,e⟩
 .obtain⟨_,hd,vs,_,dd⟩:=pD I.hok e;refine⟨dd.typeIs,λb q=>?_,hd⟩
  cases q;obtain⟨ob,_,_,h1,h2,_⟩:=dd;exact⟨ob,h1,h2.2.1⟩
 .obtain⟨_,hd,xs,_,dd⟩:=sP I.hok e;refine⟨dd.typeIs,λb q=>?_,hd⟩
  cases q;obtain⟨ob,_,_,h1,h2,_⟩:=dd;exact⟨ob,h1,h2.2.1⟩
section
variable {X:Cx}{Z:St}{H:Hp}{y d:V}{r:aD}{o:Option V}
theorem Pd(hu:A.units+40<cLine)(I:Inv X ah Z H s)(g:Bab H a y o)(ry:RelV y u)(rd:RelV d r)(h:∀ w' s',Inv X ah Z H s'->RelV (o.getD d) w'->Q w' s') :
  aM (aO X.prog X.w) A (call (.builtin "dict.get") [.ref a,u,r]) Q E s:=by
 rcases g with⟨ep,kvs,k,e,ey,l⟩|⟨kvs,k,b,e,ey,eb,l⟩
 .subst ey;obtain⟨z,hd,vs,fm,dd⟩:=pD I.hok e;refine QJ Iq dd.typeIs PySem.F.entry_dict_get (O3 _ _ _) (meets_dict_get_default (fU X.prog X.w) a (sH ry) hd r) ⟨_,dd.mapOf,h _ _ (I.tok _) ?_⟩;rw[l];exact(fm.val k).getD rd
 .subst ey;cases(show u=eI b from ry)
  obtain⟨z,hd,xs,fm,dd⟩:=sP I.hok e;refine QJ Iq dd.typeIs PySem.F.entry_dict_get (O3 _ _ _) (meetsH_dict_get_default (iY X.prog X.w) a b hd r) ⟨AH hu,k,xs,key_of I.hok eb,dd,h _ _ (I.tok _) ?_⟩;rw[l];exact(fm.val k).getD rd
end
def Pn (td ty tx:TE):TE:=λZ H Q=>td Z H λx H1=>∃ a,x=.ref a/\IsD H1 a/\ty Z H1 λy H2=>tx Z H2 λz H3=>∃ o,Bab H3 a y o/\Q (o.getD z) H3
section
variable {X:Cx}{o f:aR}{ay bc:bQ}{td ty tx:TE}
theorem Xe (hu:X.A.units+40<cLine)(ho:PE X o td)(he:PE X e ty)(hf:PE X f tx)(m:M2 X o "get" ay e f bc):PE X (.Call (.Attribute o "get" ay) [e,f] [] bc) (Pn td ty tx):=by
 rw[14];refine wpAny_Call_method m.base m.few m.line Iu Iq PySem.F.type_dict_get (bf (ho ah s Z H _ I h) λu s1 gh=>?_)
 obtain⟨x,H1,I1,rx,a,ex,d,q1⟩:=gh;subst ex;obtain rfl:u=eI a:=rx;obtain⟨t1,t2,_⟩:=Ot I1 d;refine⟨t1,t2,?_⟩;rw[m.trees];refine Calls.callWith_builtin rfl (Calls.evalArgs_plain (Jz (bf (he ah s1 Z H1 _ I1 q1) λiv s2 ⟨y,H2,I2,ry,q2⟩=>
  Jz (bf (hf ah s2 Z H2 _ I2 q2) λfv s3 ⟨z,H3,I3,rz,ov,g,q3⟩=>Calls.spliced_nil ?_))))
 exact Pd hu I3 g ry rz λw' s4 I4 ql=>⟨_,H3,I4,ql,q3⟩
end
section
variable {X:Cx}{Z:St}{H:Hp}{kvs:List (aI×V)}
theorem Ya(I:Inv X ah Z H s)(e:Rd H a (.dK ep kvs))(h:∀ p n s',H p=ae->Inv X ah Z (au H p (.dK n kvs)) s'->Q (.ref p) s'):aM (aO X.prog X.w) A (call (.type "dict") [.ref a]) Q E s:=by
 obtain⟨z,hd,vs,fm,dd⟩:=pD I.hok e;refine kt_call_dict hd dd (by rw[<-fm.length];exact z) λh' zf hs=>?_
 obtain⟨n,da⟩:=zf.dictAt;refine h _ n _ (I.hok.fresh (bD _)) (I.laid (λb q hq=>?_) (bD _) (CY z (beq_eq_false_iff_ne.2 (gV (cQ I.big))) fm da))
 exact(hs.2 b (cQ (bU hq))).trans (bT _ hq)
end
end L2
namespace HT
open PySem PyProof.Rows
section
variable {prog:bG}{w:aX}{A:bW}{E:aD->aH->Prop}{s:aH}
theorem Bgd {t b:aC}{vs ws:List aD}{Q:aD->aH->Prop}(ht:IsTup s.heap t vs.toArray)(hb:IsTup s.heap b ws.toArray)(hv:vs≠[])
  (h1:ws=[]->Q (.ref t) s) (h2:ws≠[]->Q (.ref s.heap.objs.size) { s with heap:=s.heap.push { cls:=.type "tuple",data:=.seq (vs++ws).toArray } })
  (xp:vs.length+ws.length<=sizeLine):aM (aO prog w) A (kR .Add (.ref t) (.ref b)) Q E s:=by
 obtain⟨⟨cls,dd,data,sl⟩,ho,hc,n,hd⟩:=id ht;obtain⟨⟨cls2,dd2,data2,sl2⟩,R7,vm,n2,zg⟩:=id hb;simp only at hc hd vm zg;subst hc hd vm zg;have e:vs.toArray++ws.toArray=(vs++ws).toArray:=by simp
 by_cases hw:ws=[]
 .exact concat_meets ⟨_,ho,rfl⟩ ⟨_,R7,rfl⟩ Ib seq_tuple_add Io Iv (Iw _ _)
   (tuple_addW1 t b vs.toArray ws.toArray n n2 dd dd2 sl sl2 (by simpa using hv) (by simp[hw])) ⟨ho,R7,h1 hw⟩
 .refine concat_meets ⟨_,ho,rfl⟩ ⟨_,R7,rfl⟩ Ib seq_tuple_add Io Iv (Iw _ _)
   (tuple_addW2 t b vs.toArray ws.toArray n n2 dd dd2 sl sl2 (by simpa using hv) (by simpa using hw) (by rw[dU,dU];exact xp)) ⟨ho,R7,?_⟩
  rw[e];exact h2 hw
def sIx (n d:Nat):Option Int->Nat
 |none=>d
 |some v=>if v<0 then(v+(n:Int)).toNat else min v.toNat n
theorem Aqo (n d:Nat):sIx n d ae=d:=rfl
theorem Axq (n d k:Nat):sIx n d (aa (k:Int))=min k n:=by
 show(if (k:Int)<0 then((k:Int)+(n:Int)).toNat else min (k:Int).toNat n)=min k n
 rw[if_neg (by omega),nQ]
theorem Oh (n d:Nat)(hd:d<=n)(o:Option Int):sIx n d o<=n:=by
 cases o with
 |none=>exact hd
 |some v=>
  show(if v<0 then(v+(n:Int)).toNat else min v.toNat n)<=n
  by_cases hv:v<0
  .rw[if_pos hv];omega
  .rw[if_neg hv];exact Nat.min_le_right _ _
theorem WW (v:Int)(n d:Nat):(if v<0 then max (v+(n:Int)) 0 else min v (n:Int))=((sIx n d (aa v):Nat):Int):=by
 show(if v<0 then max (v+(n:Int)) 0 else min v (n:Int))=(((if v<0 then(v+(n:Int)).toNat else min v.toNat n):Nat):Int)
 by_cases hv:v<0
 .simp only[if_pos hv];omega
 .simp only[if_neg hv];omega
theorem M5 (lo hi:Option Int)(n:Nat):Kc lo hi 1 (n:Int)=(((sIx n 0 lo:Nat):Int),((sIx n n hi:Nat):Int)):=by
 have h1:¬ ((1:Int)<0):=by omega
 unfold Kc;simp only[h1,if_false];refine Prod.ext ?_ ?_
 .cases lo with
  |none=>rfl
  |some v=>exact WW v n 0
 .cases hi with
  |none=>rfl
  |some v=>exact WW v n n
theorem N8 (i j:Nat):SD (i:Int) (j:Int) 1=j-i:=by
 unfold SD;have h1:(1:Int) > 0:=by omega
 simp only[h1,if_true,Int.ediv_one];split<;>omega
theorem Cj {v:aD}{o:Option Int}{Q:Option Int->aH->Prop}(p:oV v o)(h:Q o s):aM (aO prog w) A (Builtin.Slice.slicePartIndex v) Q E s:=by
 cases p with
 |none=>exact slicePart_none h
 |int i t=>exact slicePart_int h
theorem Agw {sl:aC}{vl vu:aD}{lo hi:Option Int}{n:Nat}{Q:Int×Int×Nat->aH->Prop}(hs:s.heap.IsSliceOf sl vl vu .none)(pl:oV vl lo)(pu:oV vu hi)
  (h:Q (((sIx n 0 lo:Nat):Int),1,sIx n n hi-sIx n 0 lo) s):aM (aO prog w) A (Builtin.Slice.sliceApplied (.ref sl) (pure (n:Int))) Q E s:=by
 obtain⟨os,XV,hcs,vn⟩:=id hs;unfold Builtin.Slice.sliceApplied Builtin.Slice.sliceFields;refine aF (aF (jE XV vn rfl (aF (jE XV vn rfl (aF (jE XV vn rfl (aL ?_)))))));refine aF (slicePart_none ?_);rw[if_neg (by decide)]
 refine aF (Cj pl (aF (Cj pu (aF (aL ?_)))));show aM _ _ (match Kc lo hi 1 (n:Int) with|(lo,hi)=>pure (lo,(1:Int),SD lo hi 1)) _ _ s
 rw[M5 lo hi n];show aM _ _ (pure (((sIx n 0 lo:Nat):Int),(1:Int),SD ((sIx n 0 lo:Nat):Int) ((sIx n n hi:Nat):Int) 1)) _ _ s;rw[N8];exact aL h
theorem Xl (xs:Array aD)(i k:Nat):((cK k).filterMap λ(m:Nat)=>xs[((i:Int)+(m:Int)*1).toNat]?).toArray=((xs.toList.drop i).take k).toArray:=by
 have e:(λ(m:Nat)=>xs[((i:Int)+(m:Int)*1).toNat]?)=λm=>xs[i+m]?:=by
  funext m;have:((i:Int)+(m:Int)*1).toNat=i+m:=by omega
  rw[this]
 rw[e];have:=pick_run xs i k;rw[List.filterMap_map] at this;have e2:((λx=>xs[x]?)∘λx=>i+x)=λm=>xs[i+m]?:=rfl
 rw[e2] at this;rw[this]
theorem Ak3 {t sl:aC}{aj:Array aD}{vl vu:aD}{lo hi:Option Int}{Q:aD->aH->Prop}(ht:IsTup s.heap t aj)(hs:s.heap.IsSliceOf sl vl vu .none)(pl:oV vl lo)(pu:oV vu hi)
  (hw:¬ (sIx aj.size 0 lo=0/\sIx aj.size aj.size hi=aj.size))
  (h:Q (.ref s.heap.objs.size) { s with heap:=s.heap.push { cls:=.type "tuple",data:=.seq ((aj.toList.drop (sIx aj.size 0 lo)).take (sIx aj.size aj.size hi-sIx aj.size 0 lo)).toArray } })
  (xp:aj.size<=sizeLine):aM (aO prog w) A (pX (.ref t) (.ref sl)) Q E s:=by
 have vo:sizeOk (.seq ((aj.toList.drop (sIx aj.size 0 lo)).take (sIx aj.size aj.size hi-sIx aj.size 0 lo)).toArray):=by
  show((aj.toList.drop (sIx aj.size 0 lo)).take (sIx aj.size aj.size hi-sIx aj.size 0 lo)).toArray.size<=sizeLine;rw[dU,oT,Jk,fC];omega
 have hj:sIx aj.size aj.size hi<=aj.size:=Oh _ _ (bD _) hi;obtain⟨os,XV,hcs,vn⟩:=id hs;have hTs:s.TypeIs (.ref sl) "slice":=⟨os,XV,hcs⟩;unfold pX
 try with_reducible refine fA ?_
 first|refine aF (aL ?_)|skip
 refine aF (wpAny_sequenceKey ht.typeIs (by decide) ?_)
 refine aF (mG (name:=Str.ofString "__getitem__") ht.typeIs Iy
  (gH Iy ht.typeIs entry_tuple_getitem ?_ (args_tuple_getitem _ _)))
 show aM _ _ (Ka (.ref t)>>=_) _ _ s;refine aF (tupleItemsOf_ ht ?_);refine aF (oI hTs ?_);rw[if_pos (by decide)]
 refine aF (Agw hs pl pu ?_);have uf:¬ ((((sIx aj.size 0 lo:Nat):Int)==0&&(1:Int)==1&&(sIx aj.size aj.size hi-sIx aj.size 0 lo)==aj.size)=af):=by
  intro q;rw[xS,xS] at q;have q1:((sIx aj.size 0 lo:Nat):Int)=0:=eq_of_beq q.1.1;have q2:sIx aj.size aj.size hi-sIx aj.size 0 lo=aj.size:=eq_of_beq q.2;exact hw ⟨by omega,by omega⟩
 show aM _ _ (if (((sIx aj.size 0 lo:Nat):Int)==0&&(1:Int)==1&&(sIx aj.size aj.size hi-sIx aj.size 0 lo)==aj.size)=af then _ else _) _ _ s
 rw[if_neg uf,Xl]
 first
  |exact aF (m:=SB _) (jZ (aL ⟨_,rfl,aL h⟩) vo)
  |exact aF (m:=SB _) (jZ (aF (aL (aL ⟨_,rfl,aL h⟩))) vo)
  |exact aF (aF (m:=SB _) (jZ (aL (aL ⟨_,rfl,aL h⟩)) vo))
  |exact aF (aF (m:=SB _) (jZ (aL ⟨_,rfl,aL h⟩) vo))
end
end HT
namespace L2
open PySem PySem.Spec PyProof.Rows
variable {xs:List V}{n:Nat}{ah:List (aC×bB)}{Z:St}{H:Hp}{s:aH}{its:List aD}{X:Cx}
abbrev TO:=St->Hp->(Option Int->Hp->Prop)->Prop
def PO (X:Cx)(e:Option aR)(t:TO):Prop:=
 ∀ (ah:List (aC×bB)) (s:aH) (Z:St) (H:Hp) (Q:Option Int->Hp->Prop),Inv X ah Z H s->t Z H Q ->
  aM (aO X.prog X.w) X.A (evalPart e X.env) (λu s'=>∃ o H',Inv X ah Z H' s'/\oV u o/\Q o H') X.xe s
def Td:TO:=λ_ H Q=>Q ae H
def Nj (t:TE):TO:=λZ H Q=>t Z H λx H1=>∃ i,x=.int i/\Q (aa i) H1
section
variable {e:aR}{te:TE}{lo hi:Option aR}{tl th:TO}{pos p2:bQ}
theorem Uz:PO X ae Td:=by
 rw[14];rw[evalPart_none];exact aL ⟨ae,H,I,.none,h⟩
theorem Sy (h:PE X e te):PO X (aa e) (Nj te):=by
 intro ah s Z H Q I hw;rw[evalPart_some];refine bf (h ah s Z H _ I hw) λu s1 gh=>?_
 obtain⟨x,H1,I1,r1,q1⟩:=gh;obtain⟨i,rfl,q⟩:=q1;obtain⟨t,rfl⟩:=r1;exact⟨aa i,H1,I1,.int i t,q⟩
def SlR (X:Cx)(r:V->Option Int->Option Int->Hp->VK->Prop):Prop:=
 ∀ (ah:List (aC×bB)) (s:aH) (Z:St) (H:Hp) (x:V) (v vl vu:aD) (lo hi:Option Int) (sl:aC) (Q:VK),Inv X ah Z H s->RelV x v->s.heap.IsSliceOf sl vl vu .none->oV vl lo->oV vu hi->r x lo hi H Q ->
  ∃ T id,GH (.type T) "__getitem__" = pure (aa (.builtin id))/\s.TypeIs v T/\aM (aO X.prog X.w) X.A (pX v (.ref sl)) (EP X ah Z Q) X.xe s
theorem SlR.or {r r':V->Option Int->Option Int->Hp->VK->Prop}(h:SlR X r)(h':SlR X r'):SlR X (λx lo hi H Q=>r x lo hi H Q\/r' x lo hi H Q):=by
 intro ah s Z H x v vl vu lo hi sl Q I rx hs pl pu q;rcases q with q|q
 .exact h ah s Z H x v vl vu lo hi sl Q I rx hs pl pu q
 .exact h' ah s Z H x v vl vu lo hi sl Q I rx hs pl pu q
def tSl (r:V->Option Int->Option Int->Hp->VK->Prop)(te:TE)(tl th:TO):TE:=λZ H Q=>te Z H λx H1=>tl Z H1 λl H2=>th Z H2 λu H3=>r x l u H3 Q
theorem ZJ {r:V->Option Int->Option Int->Hp->VK->Prop}(hr:SlR X r)(he:PE X e te)(hl:PO X lo tl)(hu:PO X hi th):PE X (.Subscript e (.Slice lo hi ae p2) pos) (tSl r te tl th):=by
 rw[14];refine Subscript_ (bf (he ah s Z H _ I h) λv s1 gh=>?_)
 obtain⟨x,H1,I1,r1,q1⟩:=gh;refine wpAny_Slice (bf (hl ah s1 Z H1 _ I1 q1) λvl s2 ⟨l,H2,I2,pl,q2⟩=>bf (hu ah s2 Z H2 _ I2 q2) λvu s3 gh=>?_)
 obtain⟨u,H3,I3,pu,q3⟩:=gh;rw[evalPart_none];refine aL ?_;have I4:Inv X ah Z H3 { s3 with heap:=s3.heap.push { cls:=.type "slice",data:=.fields #[vl,vu,.none] } }:=I3.kept (t':=s3.toks) λb ob q=>bT _ q
 obtain⟨T,id,hT,ht,hg⟩:=hr ah { s3 with heap:=s3.heap.push { cls:=.type "slice",data:=.fields #[vl,vu,.none] } } Z H3 x v vl vu l u s3.heap.objs.size Q I4 r1 (Heap.IsSliceOf.new ..) pl pu q3;show aM (aO X.prog X.w) X.A (subscriptTail e (.Slice lo hi ae p2) v (.ref s3.heap.objs.size)) (EP X ah Z Q) X.xe { s3 with heap:=s3.heap.push { cls:=.type "slice",data:=.fields #[vl,vu,.none] } };exact tail_any (ops:=[.ref s3.heap.objs.size,v]) ht hT hg (by with_unfolding_all rfl)
def xX (xs:List V)(lo hi:Option Int):List V:=(xs.drop (HT.sIx xs.length 0 lo)).take (HT.sIx xs.length xs.length hi-HT.sIx xs.length 0 lo)
theorem a7 (xs:List V)(lo hi:Option Int):(xX xs lo hi).length<=xs.length:=by
 unfold xX;rw[oT,Jk];omega
def Kk (K:aJ):V->Option Int->Option Int->Hp->VK->Prop:=λx lo hi H Q=>∃ a xs,x=.ref a/\SqT K H a xs /\
 ¬ (HT.sIx xs.length 0 lo=0/\HT.sIx xs.length xs.length hi=xs.length)/\∀ p,H p=ae->Q (.ref p) (au H p (.tup (xX xs lo hi)))
theorem VG:SlR X (Kk X.K):=by
 intro ah s Z H x v vl vu lo hi sl Q I rx hs pl pu h;obtain⟨a,xs,rfl,hx,hw,q⟩:=h;cases rx;obtain⟨its,r,ht,hz⟩:=I.tuple hx;have av:its.toArray.size=xs.length:=by rw[dU];exact r.length.symm
 refine⟨"tuple",_,Iy.lookup,ht.typeIs,?_⟩;refine HT.Ak3 ht hs pl pu (by rw[av];exact hw) ?_ (by rw[av];exact hz)
 rw[av];refine⟨.ref s.heap.objs.size,_,I.laid (λb ob q=>bT _ q) (bD _) ?_,rfl,q _ (I.hok.fresh (bD _))⟩
 exact⟨dA (a7 xs lo hi) hz,_,(r.drop (HT.sIx xs.length 0 lo)).take (HT.sIx xs.length xs.length hi-HT.sIx xs.length 0 lo),Bdm.new _ _⟩
def IE (K:aJ):R2:=λx y H Q=>∃ a b xs ys,x=.ref a/\y=.ref b/\SqT K H a xs/\SqT K H b ys/\xs≠[]/\xs.length+ys.length<=sizeLine /\
 (ys=[]->Q (.ref a) H)/\(ys≠[]->∀ p,H p=ae->Q (.ref p) (au H p (.tup (xs++ys))))
theorem Vals.nil_iff{us:List aD}(r:Vals xs us):us=[]↔xs=[]:=by
 cases r with
 |nil=>simp
 |cons _ _=>simp
theorem A3m:OpR X (kR .Add) (IE X.K):=by
 rw[4];obtain⟨a,b,xs,ys,rfl,rfl,ha,hb,hx,hz,q1,q2⟩:=h;cases rx;cases ry;obtain⟨its,r1,p1,_⟩:=I.tuple ha;obtain⟨its2,r2,p2,_⟩:=I.tuple hb;refine HT.Bgd p1 p2 (λz=>hx (r1.nil_iff.1 z)) (λz=>⟨.ref a,H,I,rfl,q1 (r2.nil_iff.1 z)⟩) (λz=>?_) (by rw[<-r1.length,<-r2.length];exact hz)
 refine⟨.ref s.heap.objs.size,_,I.laid (λb ob q=>bT _ q) (bD _) ?_,rfl,q2 (λw=>z (r2.nil_iff.2 w)) _ (I.hok.fresh (bD _))⟩
 exact⟨by rw[oU];exact hz,_,r1.append r2,Bdm.new _ _⟩
end
def qh (n:Nat)(i:Int):Option Nat:=if 0<=i then(if i<n then aa i.toNat else ae) else if -(n:Int)<=i then aa (i+n).toNat else ae
def mn {α:Type}(xs:List α)(i:Int):Option α:=(qh xs.length i).bind λj=>xs[j]?
theorem Gg{i:Int}{j:Nat}(h:qh n i=aa j):seqIndex? i n=aa j/\j<n /\ -(n:Int)<=i/\i<n:=by
 unfold qh at h;by_cases h0:0<=i
 .rw[if_pos h0] at h;by_cases h1:i<n
  .rw[if_pos h1] at h;have e:=eO h;exact⟨by rw[seqIndex_of h0 h1,e],by omega,by omega,h1⟩
  .rw[if_neg h1] at h;cases h
 .rw[if_neg h0] at h;by_cases h1 : -(n:Int)<=i
  .rw[if_pos h1] at h;have e:=eO h;exact⟨by rw[seqIndex_neg (by omega) h1,e],by omega,h1,by omega⟩
  .rw[if_neg h1] at h;cases h
theorem JM {α:Type}{xs:List α}{i:Int}{v:α}(h:mn xs i=aa v):∃ j,seqIndex? i xs.length=aa j/\xs[j]?=aa v/\j<xs.length /\ -(xs.length:Int)<=i/\i<xs.length:=by
 unfold mn at h;cases e:qh xs.length i with
 |none=>rw[e] at h;cases h
 |some j=>
  rw[e] at h;obtain⟨h1,h2,h3,h4⟩:=Gg e;exact⟨j,h1,h,h2,h3,h4⟩
theorem DP {α:Type}{xs:List α}{j:Nat}{v:α}(h:xs[j]?=aa v):mn xs (j:Int)=aa v:=by
 have hj:=(cX.1 h).1;have e:qh xs.length (j:Int)=aa j:=by
  unfold qh;rw[if_pos (by omega),if_pos (by omega)];simp
 unfold mn;rw[e];exact h
def DJ (b:aR):Prop:=∀ o i,QA b ag o i=operate [o,i] (pX o i)
def IxR (X:Cx)(r:R2):Prop:=
 ∀ (value dy:aR) (ah:List (aC×bB)) (s:aH) (Z:St) (H:Hp) (x y:V) (v u:aD) (Q:VK),Inv X ah Z H s->RelV x v->RelV y u->r x y H Q ->
  QA dy ag v u=operate [v,u] (pX v u)->aM (aO X.prog X.w) X.A (subscriptTail value dy v u) (EP X ah Z Q) X.xe s
def MtR (X:Cx)(id:String)(r:V->List V->Hp->VK->Prop):Prop:=
 ∀ (ah:List (aC×bB)) (s:aH) (Z:St) (H:Hp) (x:V) (xs:List V) (v:aD) (us:List aD) (Q:VK),Inv X ah Z H s->RelV x v->Vals xs us->r x xs H Q ->
  aM (aO X.prog X.w) X.A (call (.builtin id) (v::us)) (EP X ah Z Q) X.xe s
section
variable {a b:aR}{ta tb:TE}{pos:bQ}
theorem IxR.or {r r':R2}(h:IxR X r)(h':IxR X r'):IxR X (λx y H Q=>r x y H Q\/r' x y H Q):=by
 intro value dy ah s Z H x y v u Q I rx ry q hs;rcases q with q|q
 .exact h value dy ah s Z H x y v u Q I rx ry q hs
 .exact h' value dy ah s Z H x y v u Q I rx ry q hs
theorem IM {r:R2}(hr:IxR X r)(ha:PE X a ta)(hb:PE X b tb)(hs:DJ b):PE X (.Subscript a b pos) (W5 r ta tb):=by
 rw[14];exact Subscript_ (IB ha hb I h λv u s2 x y H2 I2 rx ry q=>hr a b ah s2 Z H2 x y v u Q I2 rx ry q (hs _ _))
def SU (K:aJ):R2:=λx y H Q=>∃ p xs i v,x=.ref p/\y=.int i/\SqL K H p xs/\mn xs i=aa v/\Q v H
def TK (K:aJ):R2:=λx y H Q=>∃ p xs i v,x=.ref p/\y=.int i/\SqT K H p xs/\mn xs i=aa v/\Q v H
def SX:R2:=λx y H Q=>∃ z i c,x=.str z/\y=.int i/\z.length<=sizeLine/\mn z.cps.toList i=aa c/\Q (.str ⟨#[c]⟩) H
theorem Bgm:IxR X (SU X.K):=by
 intro value dy ah s Z H x y v u Q I rx ry h hs;obtain⟨p,xs,i,z,rfl,rfl,hq,he,q⟩:=h;cases rx;obtain⟨t,rfl⟩:=ry;obtain⟨its,r,pl,hz⟩:=I.list hq;obtain⟨j,h1,h2,h3,h4,h5⟩:=JM he;obtain⟨w,ew,ql⟩:=r.get h2;have hl:=r.length;have hn:=sW;have fin:EP X ah Z Q w s:=⟨z,H,I,ql,q⟩;by_cases h0:0<=i
 .have hj:i.toNat=j:=by
   rw[seqIndex_of h0 h5] at h1;exact eO h1
  exact item_listR pl.isList h0 (by omega) (by rw[hj];simpa using ew) fin hs
 .have hj:(i+(its.toArray.size:Int)).toNat=j:=by
   rw[seqIndex_neg (by omega) h4] at h1
   rw[dU,<-hl];exact eO h1
  exact subscriptTail_builtinR pl.isList.typeIs slot_list_getitem.lookup
   (wpAny_getItem_list_neg pl.isList (by omega) (by rw[dU]<;>omega) (by omega) (by rw[hj];simpa using ew) ⟨rfl,fin⟩) hs
theorem Bk6:IxR X (TK X.K):=by
 intro value dy ah s Z H x y v u Q I rx ry h hs;obtain⟨p,xs,i,z,rfl,rfl,hq,he,q⟩:=h;cases rx;obtain⟨t,rfl⟩:=ry;obtain⟨its,r,pl,hz⟩:=I.tuple hq;obtain⟨j,h1,h2,h3,h4,h5⟩:=JM he;obtain⟨w,ew,ql⟩:=r.get h2;have hl:=r.length;have hn:=sW;have fin:EP X ah Z Q w s:=⟨z,H,I,ql,q⟩;exact subscriptTail_builtinR pl.typeIs QB.lookup
  (getItem_tuple pl (by omega) (by omega) (by rw[dU,<-hl];exact h1) (by simpa using ew) ⟨rfl,fin⟩) hs
theorem Np:IxR X SX:=by
 intro value dy ah s Z H x y v u Q I rx ry h hs;obtain⟨z,i,c,rfl,rfl,hz,he,q⟩:=h;obtain⟨t,rfl⟩:=rx;obtain⟨t',rfl⟩:=ry;obtain⟨j,h1,h2,h3,h4,h5⟩:=JM he;have hl:z.cps.toList.length=z.length:=by simp[Str.length]
 rw[hl] at h1 h4 h5;have hn:=sW;exact tail_any (typeIs_str s z t) slot_str_getitem.lookup (getItem_str (by
  have e1:decide (i < -(2^63:Int))=ag:=decide_eq_false (by omega)
  have e2:decide (i ≥ 2^63)=ag:=decide_eq_false (by omega)
  rw[e1,e2,Bool.or_false]) (by rw[h1];simpa using h2) ⟨.str ⟨#[c]⟩,H,I.tok _,⟨_,rfl⟩,q⟩) hs
def rIx (K:aJ):R2:=λx y H Q=>SU K x y H Q\/TK K x y H Q\/SX x y H Q
theorem OU:IxR X (rIx X.K):=Bgm.or (Bk6.or Np)
theorem K3 (its:List aD)(n j:Nat)(u:aD):gK (·.setIfInBounds j u) { cls:=.type "list",data:=.seq its.toArray n }={ cls:=.type "list",data:=.seq (its.set j u).toArray n }:=by
 simp[gK]
theorem Inv.lst{p:aC}(I:Inv X ah Z H s)(h:H p=aa (.lst xs)) :
  ∃ (its:List aD) (n:Nat),Vals xs its/\s.heap.get? p=aa { cls:=.type "list",data:=.seq its.toArray n }/\xs.length<=sizeLine:=by
 obtain⟨z,its,n,r,e⟩:=I.hok p _ h;exact⟨its,n,r,e,z⟩
theorem Inv.lstUpd{p:aC}{ys:List V}{kz:List aD}{n':Nat}{f:bB->bB}(I:Inv X ah Z H s)(h:H p=aa (.lst xs))
  (ho:s.heap.get? p=aa { cls:=.type "list",data:=.seq its.toArray n }) (hf:f { cls:=.type "list",data:=.seq its.toArray n }={ cls:=.type "list",data:=.seq kz.toArray n' }) (r:Vals ys kz) (hz:ys.length<=sizeLine) (t:Nat) :
  Inv X ah Z (au H p (.lst ys)) { s with heap:=s.heap.update p f,toks:=t }:=by
 have e:(s.heap.update p f).get? p=aa { cls:=.type "list",data:=.seq kz.toArray n' }:=by
  rw[rV f ho (by rw[hf]<;>rfl),hf]
 refine I.write (by rw[h];trivial) (.inl rfl) (λb u hb q=>(xQ _ _ (gV hb)).trans q) ⟨_,e⟩ ?_
 exact⟨hz,kz,n',r,e⟩
def Ml:V->V->V->Hp->(Hp->Prop)->Prop:=λo i v H Q=>∃ p xs k j,o=.ref p/\i=.int k/\H p=aa (.lst xs)/\qh xs.length k=aa j/\Q (au H p (.lst (xs.set j v)))
theorem set_list:SR X Ml:=by
 intro ah s Z H o i v ov iv u Q I ro ri rv h;obtain⟨p,xs,k,j,rfl,rfl,hp,hj,q⟩:=h;cases ro;obtain⟨t,rfl⟩:=ri;obtain⟨its,n,r,ho,hz⟩:=I.lst hp;obtain⟨h1,h2,h3,h4⟩:=Gg hj;have hl:=r.length;have hn:=sW;have I':=
  I.lstUpd hp ho (K3 its n j u) (r.set rv j) (by rw[GX];exact hz) s.toks
 by_cases h0:0<=k
 .have hk:k.toNat=j:=by
   rw[seqIndex_of h0 h4] at h1;exact eO h1
  exact PySem.W.ki_setAt ho h0 (by omega) (by rw[dU,<-hl];exact h4) (by rw[hk];exact⟨_,I',q⟩)
 .have hk:(k+(its.toArray.size:Int)).toNat=j:=by
   rw[seqIndex_neg (by omega) h3] at h1
   rw[dU,<-hl];exact eO h1
  exact PySem.W.ki_setBack ho (by omega) (by rw[dU,<-hl];exact h3) (by omega) (by rw[hk];exact⟨_,I',q⟩)
theorem f9:OpR X (gU .NotIn) (λx y H Q=>∃ i j,x=.str i/\y=.str j/\Q (.bl (!(!(SC j i 0 j.length 1).isEmpty))) H):=by
 rw[4];obtain⟨i,j,rfl,rfl,q⟩:=h;obtain⟨t,rfl⟩:=rx;obtain⟨t',rfl⟩:=ry;exact notIn_str ⟨.bl _,H,I,rfl,q⟩
theorem Aul:Acy X (.builtin "len") (λxs H Q=>∃ p ys,xs=[.ref p]/\(SqL X.K H p ys\/SqT X.K H p ys)/\Q (.int ys.length) H):=by
 rw[5];obtain⟨p,ys,rfl,hq,q⟩:=h;obtain⟨u,rfl,rx⟩:=vals1 r;cases rx;have hn:=sW;rcases hq with hq|hq
 .obtain⟨its,r',pl,hz⟩:=I.list hq;have av:=r'.length;exact Calls.call_len_list pl.isList (by simp only[dU]<;>omega) ⟨.int ys.length,H,I.tok _,⟨s.toks+1,by rw[dU,av]⟩,q⟩
 .obtain⟨its,r',pl,hz⟩:=I.tuple hq;have av:=r'.length;exact len_tuple pl (by simp only[dU]<;>omega) ⟨.int ys.length,H,I.tok _,⟨s.toks+1,by rw[dU,av]⟩,q⟩
theorem Auj:Acy X (.builtin "len") (λxs H Q=>∃ z,xs=[.str z]/\z.length<=sizeLine/\Q (.int z.length) H):=by
 rw[5];obtain⟨z,rfl,hz,q⟩:=h;obtain⟨u,rfl,t,rfl⟩:=vals1 r;have hn:=sW;exact len_str (by omega) ⟨.int z.length,H,I.tok _,⟨_,rfl⟩,q⟩
theorem Acy.or {f:aD}{r r':List V->Hp->VK->Prop}(h:Acy X f r)(h':Acy X f r'):Acy X f (λxs H Q=>r xs H Q\/r' xs H Q):=by
 intro ah s Z H xs us Q I rs q;rcases q with q|q
 .exact h ah s Z H xs us Q I rs q
 .exact h' ah s Z H xs us Q I rs q
theorem Aty:Acy X (.type "list") (λxs H Q=>∃ p ys,xs=[.ref p]/\(SqL X.K H p ys\/SqT X.K H p ys)/\∀ l,H l=ae->Q (.ref l) (au H l (.lst ys))):=by
 rw[5];obtain⟨p,ys,rfl,hq,q⟩:=h;obtain⟨u,rfl,rx⟩:=vals1 r;cases rx;have fin:∀ (its:List aD),Vals ys its->ys.length<=sizeLine->∀ (h':aQ) (c':Nat),(∀ b o',s.heap.get? b=aa o'->h'.get? b=aa o') ->
   h'.get? s.heap.objs.size=aa { cls:=.type "list",dict:=ae,data:=.seq its.toArray c',slots:=#[] }->EP X ah Z Q (.ref s.heap.objs.size) { s with heap:=h' }:=λits r' hz h' c' kp e=>
  ⟨.ref s.heap.objs.size,_,I.laid kp (bD _) (show Ab8 X.prog X.w _ h' _ (.lst ys) from⟨hz,its,c',r',e⟩),rfl,q _ (I.hok.fresh (bD _))⟩
 rcases hq with hq|hq
 .obtain⟨its,r',pl,hz⟩:=I.list hq;have av:=r'.length;obtain⟨o,ho,hc,n,hd⟩:=pl.isList;exact call_list_seq p (.inl rfl) ho hc hd (λh' c' kp e=>fin its r' hz h' c' kp e) (by simp only[dU]<;>omega)
 .obtain⟨its,r',pl,hz⟩:=I.tuple hq;have av:=r'.length;obtain⟨o,ho,hc,n,hd⟩:=pl;exact call_list_seq p (.inr rfl) ho hc hd (λh' c' kp e=>fin its r' hz h' c' kp e) (by simp only[dU]<;>omega)
theorem tV:Acy X (.type "tuple") (λxs H Q=>∃ p ys,xs=[.ref p]/\((SqL X.K H p ys/\∀ l,H l=ae->Q (.ref l) (au H l (.tup ys)))\/(SqT X.K H p ys/\Q (.ref p) H))):=by
 rw[5];obtain⟨p,ys,rfl,h⟩:=h;obtain⟨u,rfl,rx⟩:=vals1 r;cases rx;rcases h with⟨hq,q⟩|⟨hq,q⟩
 .obtain⟨its,r',pl,hz⟩:=I.list hq;have av:=r'.length;refine call_tuple_list pl.isList (λh' kp=>?_) (by simp only[dU]<;>omega)
  have I1:Inv X ah Z H { s with heap:=h' }:=I.kept (t':=s.toks) kp;have I2:Inv X ah Z (au H h'.objs.size (.tup ys)) { s with heap:=h'.push { cls:=.type "tuple",data:=.seq its.toArray } }:=
   I1.laid (t':=s.toks) (λb o e=>bT _ e) (bD _) (show Ab8 X.prog X.w _ _ _ (.tup ys) from⟨hz,its,r',Bdm.new _ _⟩)
  exact⟨.ref h'.objs.size,_,I2,rfl,q _ (I1.hok.fresh (bD _))⟩
 .obtain⟨its,r',pl,hz⟩:=I.tuple hq;exact call_tuple_same pl ⟨.ref p,H,I,rfl,q⟩
def tyV (K:aJ)(T:String)(x:V)(H:Hp):Prop:=match x with
 |.str _=>T = "str"
 |.int _=>T = "int"
 |.ref p=>(T = "list" /\ ∃ xs,SqL K H p xs)\/(T = "tuple" /\ ((∃ o,K.lookup p=aa o/\o.cls=.type "tuple" /\ o.dict=ae)\/∃ xs,H p=aa (.tup xs))) \/
   (T = "dict" /\ ((∃ ep kvs,H p=aa (.dK ep kvs))\/∃ kvs,∃ ep,H p=aa (.dT ep kvs)))\/(T = "set" /\ ∃ S n,H p=aa (.set S n))
 |_=>False
theorem Ri{T:String}{x:V}{v:aD}(I:Inv X ah Z H s)(r:RelV x v)(ty:tyV X.K T x H) :
  s.TypeIs v T/\∀ a,v=.ref a->∃ ob,s.heap.get? a=aa ob/\ob.dict=ae:=by
 cases x with
 |str z=>
  obtain⟨t,rfl⟩:=r;cases(show T = "str" from ty)
  exact⟨typeIs_str s z t,λ_ e=>nomatch e⟩
 |int i=>
  obtain⟨t,rfl⟩:=r;cases(show T = "int" from ty)
  exact⟨typeIs_int s i t,λ_ e=>nomatch e⟩
 |ref p=>
  cases r;rcases ty with⟨rfl,xs,hq⟩|⟨rfl,⟨o,hk,hc,hd⟩|⟨xs,hx⟩⟩|⟨rfl,hk⟩|⟨rfl,S,n,hk⟩
  .obtain⟨its,_,pl,_⟩:=I.list hq;refine⟨pl.isList.typeIs,λa e=>?_⟩
   cases e;obtain⟨o,n,e,c,hd,_⟩:=pl;exact⟨o,e,hd⟩
  .refine⟨⟨o,I.kIn p o hk,hc⟩,λa e=>?_⟩
   cases e;exact⟨o,I.kIn _ o hk,hd⟩
  .obtain⟨_,_,_,⟨o,e,c,_⟩,n⟩:=(show Ab8 X.prog X.w H s.heap p (.tup xs) from I.hok p _ hx)
   refine⟨⟨o,e,c⟩,λa e=>?_⟩
   cases e;exact n
  .have z:∃ o,s.heap.get? p=aa o/\o.ExactDict:=by
    rcases hk with⟨ep,kvs,hk⟩|⟨kvs,ep,hk⟩
    .obtain⟨_,_,_,_,o,_,e,ex,_⟩:=I.hok p _ hk;exact⟨o,e,ex⟩
    .obtain⟨_,_,_,_,o,_,e,ex,_⟩:=I.hok p _ hk;exact⟨o,e,ex⟩
   obtain⟨o,e,ex⟩:=z;refine⟨⟨o,e,ex.1⟩,λa e2=>?_⟩
   cases e2;exact⟨o,e,ex.2.1⟩
  .obtain⟨o,_,_,_,e,ex,_⟩:=I.hok p _ hk;refine⟨⟨o,e,ex.1⟩,λa e2=>?_⟩
   cases e2;exact⟨o,e,ex.2.1⟩
 |_=>exact qJ ty
def tBM (K:aJ)(T:String)(r:V->List V->Hp->VK->Prop)(to:TE)(t:TA):TE:=λZ H Q=>to Z H λx H1=>tyV K T x H1/\t Z H1 λxs H2=>r x xs H2 Q
variable {o e:aR}{es:List aR}{to:TE}{t:TA}{name:aE}{ay bc:bQ}{T id:String}{r:V->List V->Hp->VK->Prop}
theorem AR (pa:PlainAttrs T)(slot:Slot T name id)(hty:typeOf (.builtin id)=pure (.type "method_descriptor"))(hm:MtR X id r)(ho:PE X o to)(ha:PA X (e::es) t)
  (cf:rM o name X.env (bK o X.env)=bK o X.env:=by rfl)
  (gj:((fY bc (bJ (e::es) X.env)).all (λx=>!x.1)&&(xA bc (wW [] X.env)).all (λx=>x.1.isSome)
   && decide ((e::es).length+([]:List lT).length+(if ([]:List lT).isEmpty then 0 else 1)<30))=af:=by rfl)
  (cg:(ay.endLine==bc.line)=af:=by rfl) (hs:bJ (e::es) X.env=(ag,bK e X.env)::bJ es X.env:=by rfl) (ck:(fY bc (bJ es X.env)).any (·.1)=ag:=by rfl) :
  PE X (.Call (.Attribute o name ay) (e::es) [] bc) (tBM X.K T r to t):=by
 rw[14];refine wpAny_Call_method_late cf gj cg rfl (bf (ho ah s Z H _ I h) λv s1 gh=>?_)
 obtain⟨x,H1,I1,r1,ty,q1⟩:=gh;obtain⟨h1,h2⟩:=Ri I1 r1 ty;refine⟨T,id,pa,slot,hty,h1,h2,?_⟩;have hA:=ha bc ah s1 Z H1 _ I1 q1;rw[hs] at hA ⊢;refine Calls.callWith_builtin (by show(ag||(fY bc (bJ es X.env)).any (·.1))=ag;rw[ck]<;>rfl) (Calls.evalArgs_plain ?_)
 exact bf hA λus s2 ⟨vs,H2,I2,r2,q2⟩=>hm ah s2 Z H2 x vs v us Q I2 r1 r2 q2
end
def MtM (X:Cx)(id:String)(r:V->List V->Hp->VK->Prop):Prop:=
 ∀ (ah:List (aC×bB)) (s:aH) (Z:St) (H:Hp) (x:V) (xs:List V) (v:aD) (us:List aD) (Q:VK),Inv X ah Z H s->RelV x v->Vals xs us->r x xs H Q ->
  aM (aO X.prog X.w) X.A (call (.builtin id) (v::us)) (EP X ah Z Q) X.xe s
theorem Vals.one:∀ {x:V} {us:List aD},Vals [x] us->∃ u,us=[u]/\RelV x u:=by
 intro x us h;cases h with
 |cons r t=>cases t;exact⟨_,rfl,r⟩
theorem Vals.eraseIdx:∀ {xs:List V} {us:List aD} (i:Nat),Vals xs us->Vals (xs.eraseIdx i) (us.eraseIdx i)
 |_,_,_,.nil=>.nil
 |_,_,0,.cons _ t=>t
 |_,_,i+1,.cons r t=>.cons r (Vals.eraseIdx i t)
theorem Bc {α:Type}:∀ (l:List α) (i:Nat),(l.eraseIdx i).length<=l.length
 |[],_=>bD _
 |_::_,0=>rP _
 |_::r,i+1=>Nat.succ_le_succ (Bc r i)
section
variable {l b:aC}{ys zs:List V}
theorem Inv.lset {kz:List aD}{f:Array aD->Array aD}{t':Nat}(I:Inv X ah Z H s)(hH:H l=aa (.lst xs))
  (e:s.heap.get? l=aa { cls:=.type "list",data:=.seq its.toArray n }) (hf:f its.toArray=kz.toArray) (hv:Vals ys kz) (hz:ys.length<=sizeLine) :
  Inv X ah Z (au H l (.lst ys)) { s with heap:=s.heap.update l (gK f),toks:=t' }:=by
 have q:=PySem.IsL.update e f;rw[hf] at q;refine I.write (by rw[hH];exact trivial) (.inl rfl) (λb' u hb hu=>(xQ s.heap (gK f) (gV hb)).trans hu) ⟨_,q⟩ ?_
 exact⟨hz,kz,_,hv,q⟩
theorem Inv.lnew{t':Nat}(I:Inv X ah Z H s)(hv:Vals ys its)(hz:ys.length<=sizeLine) :
  Inv X ah Z (au H s.heap.objs.size (.lst ys)) { s with heap:=s.heap.push { cls:=.type "list",data:=.seq its.toArray },toks:=t' }:=
 I.laid (λ_ _ q=>bT _ q) (bD _) ⟨hz,its,0,hv,cV _ rfl⟩
theorem Inv.fresh (I:Inv X ah Z H s):H s.heap.objs.size=ae:=I.hok.fresh (bD _)
theorem Inv.lstM (I:Inv X ah Z H s)(hH:H l=aa (.lst xs)):xs.length<=sizeLine/\∃ (its:List aD) (n:Nat),Vals xs its/\xs.length=its.length/\s.heap.get? l=aa { cls:=.type "list",data:=.seq its.toArray n }:=by
 obtain⟨z,its,n,r,e⟩:=I.hok l _ hH;exact⟨z,its,n,r,r.length,e⟩
end
def Ux:V->List V->Hp->VK->Prop:=λx vs H Q=>∃ l xs y,x=.ref l/\vs=[y]/\H l=aa (.lst xs)/\xs.length<sizeLine/\Q .non (au H l (.lst (xs++[y])))
theorem Bq:MtM X "list.append" Ux:=by
 intro ah s Z H x vs v us Q I rx rv h;obtain⟨l,xs,y,rfl,rfl,hH,hz,q⟩:=h;cases rx;obtain⟨u,rfl,ru⟩:=rv.one;obtain⟨z,its,n,r,hl,e⟩:=I.lstM hH;refine call_meets F.slot_list_append ⟨_,e,rfl⟩ F.entry_list_append (F.args_list_append_2 _ _) (PySem.list_append l its.toArray n u (by rw[dU];omega)) ⟨e,?_⟩
 refine⟨.non,_,I.lset hH e (by simp) (r.append (.cons ru .nil)) ?_,rfl,q⟩
 rw[oU,RH];omega
end L2
namespace Att
open PySem PySem.W PySem.Calls PyProof.Rows
theorem p5 {P:Params}{h:aQ}:∀ (ns:List Int) (vs:List aD),WellAll P h vs (ns.map WData.int)->uH vs ns:=by
 intro ns;induction ns with
 |nil=>
  intro vs w;rw[List.map_nil] at w;cases w;exact .nil
 |cons n ns ih=>
  intro vs w;rw[dB] at w;cases w with
  |cons a b=>
   cases a;exact .cons _ _ (ih _ b)
theorem E3 {l:OpenLaw}{n:Nat}(hn:l.most=aa n){P:Params}{h:aQ}{args:List WData}{R8:List aD}
  (wg:l.row.toRowW.claim.pre args=af) (hwl:WellAll P h R8 args) :
  ∃ a vs ns,R8=[eI a]/\args=[WData.list (ns.map WData.int)]/\h.get? a=aa { cls:=.type "list",data:=.seq vs.toArray }/\uH vs ns/\ns.length<=n:=by
 have hsh:=(pre_splitW wg).1;have hc:l.pre.holds [] { args:=args }=af:=(pre_splitW wg).2;obtain⟨d,r,rfl,h1,h2⟩:=hasAllW_cons hsh;obtain rfl:=hasAllW_nil h2;obtain⟨xs,rfl,h3⟩:=hasW_list h1;obtain⟨ns,rfl⟩:=items_int h3;have av:ns.length<=n:=by
  unfold OpenLaw.pre at hc;have h4:(WTm.not (.lt (.lit (.int (n:Int))) (.len (.arg 0)))).holds [] { args:=[.list (ns.map .int)] }=af:=by
   have h4:=(holds_andW hc).1;rw[hn] at h4;exact h4
  have h5:=condW_of h4 (w_not (w_lt w_lit (w_len_list (w_arg rfl))));rw[cD] at h5;refine Nat.le_of_not_lt λq=>?_
  have q':(n:Int)<((ns.length:Nat):Int):=by omega
  first
   |(rw[decide_eq_true q'] at h5;exact absurd h5 (by decide))
   |(simp at h5;omega)
 cases hwl with
 |cons w1 w2=>
  cases w2;cases w1 with
  |list ho cv=>exact⟨_,_,ns,rfl,rfl,ho,p5 ns _ cv,av⟩
theorem D2 (l:OpenLaw)(args:List WData):l.row.toRowW.claim.post args (.bool af) args=af:=
 postW_of
  (show WShape.has [] (.bool af) .bool=af by first|rfl|decide|simp[WShape.has,WShape.arms,WShape.armsAll])
  (show(WTm.eq .res (.lit (.bool af))).value [] { args:=args,res:=aa (.bool af),after:=args }=aa (.bool (af==af)) from w_eq_bool (w_res rfl) w_lit) rfl
end Att
namespace L2
open PySem PySem.Spec PyProof.Rows
variable {w:aX}{K:aJ}{mg:aE->Option aD}{k:aI}{a f:aC}{x qual y:aE}{sp:Sp}{X:Cx}{st:bS}{N ps:List aE}{A:bW}{B H' H H1 B' B0 H0:Hp}{ng bg c b tg e:aR}{nn es:List aR}{pos px ug p p2:bQ}{env:Env}{n i j n0:Nat}{sc:iN}{v:V}{fp:Nat->List aC}{ah:List (aC×bB)}{Z:St}{s:aH}{cap:List (Option Nat)}{o:HO}{xs:List V}{ds:List aA}{m d:aA}{Y:List (Option aA)}{g:aA->aA->Option aA}{r:R2}{T:String}{P0:aC->Prop}{kds:List (aA×aA)}{Q:VK}
theorem Af:∀ {vs:List aD} {ns:List Int},uH vs ns->Vals (ns.map V.int) vs
 |_,_,.nil=>.nil
 |_,_,.cons n t h=>.cons ⟨t,rfl⟩ (Af h)
def Only (H:Hp):Prop:=∀ b,H b=ae\/∃ o xs,H b=aa (.frz o (.lst xs))
theorem Vo {P:bG}{mb:aE->Option aD}{CX:yi}{k:Nat}{fa:aC}{fd:iE}{s₁:aH}{vs:List aD}{ns:List Int}
  (KX:K.In s₁.heap) (hns:s₁.heap.Ns eM mg) (hb:s₁.heap.Ns builtinsNs mb) (hbb:∀ x:aE,x ≠ "__name__" -> mb x=nK x) (hlim:s₁.heap.NoLimit) (hg:s₁.gens = #[])
  (ha:s₁.heap.get? a=aa { cls:=.type "list",data:=.seq vs.toArray }) (hi:uH vs ns) (hl:ns.length<=sizeLine) (hr:Room k wX)
  (F:∀ base:aQ,K.In base->base.Ns eM mg->FnOk P w K mg base CX k fa fd [x] sp) (X0:∀ (s:aH) (u:aD),BindsTo s fd ⟨[u],[]⟩ [(x,u)])
  (NE:∀ H:Hp,Only H->SqL K H a (ns.map V.int)->sp [.ref a] H (λv _=>v=.bl af) λ_ _ _=>False)
  (hCX:∀ H e s',CX [] H s₁ (λ_ _ _=>False) e s'->False) :
  kB (aO P w) wX (.call (.ref fa) ⟨[.ref a],[]⟩) (λr s'=>r=.ok (.ret (.bool af))/\OldK s₁.heap s'.heap/\s'.os=s₁.os/\rW s'.gens) s₁:=by
 have rv:=Af hi;have lenV:=hi.length;have X1:∀ H:Hp,Only H->SqL K H a (ns.map V.int)->HOk P w H s₁.heap->(∀ b,H b≠ae->b=a)->(H a≠ae->K.lookup a=ae) ->
   kB (aO P w) wX (.call (.ref fa) ⟨[.ref a],[]⟩) (λr s'=>r=.ok (.ret (.bool af))/\OldK s₁.heap s'.heap/\s'.os=s₁.os/\rW s'.gens) s₁:=by
  intro H hO hS hok hA hK;have base_of:∀ {b:aC} {o:bB},s₁.heap.get? b=aa o->H b=ae->(oZ s₁.heap H).get? b=aa o:=λe n=>Xb e n
  have XL:∀ {b:aC} {o:bB} {es:Array qK} {ep:Nat},s₁.heap.get? b=aa o->o.data=.dict es ep->H b=ae:=λ{b o es ep} e d=>by
   cases q:H b with
   |none=>rfl
   |some u=>
    have e':=hA b (by rw[q];simp)
    subst e';rw[ha] at e;cases e;have d':=d;cases d'
  have nsK:∀ {b:aC} {m:aE->Option aD},s₁.heap.Ns b m->(oZ s₁.heap H).Ns b m:=λ{b m} ⟨o,es,ep,e,d,r⟩=>⟨o,es,ep,base_of e (XL e d),d,r⟩
  have hKb:K.In (oZ s₁.heap H):=λb o e=>base_of (KX b o e) (by
   cases q:H b with
   |none=>rfl
   |some u=>
    have e':=hA b (by rw[q];simp)
    subst e';rw[hK (by rw[q];simp)] at e;cases e)
  have hM:Mod K mg (oZ s₁.heap H):=⟨hKb,nsK hns,⟨mb,nsK hb,hbb⟩,let ⟨mc,h1,h2⟩:=hlim;⟨mc,nsK h1,h2⟩⟩;have e0:Env0 P w K mg (oZ s₁.heap H) wX [] s₁ H:=⟨rfl,hM,λb o e=>Su e,Nat.le_of_eq (t9 _ _),trivial,λb hb=>absurd (show b∈([]:List aC) from hb) (by simp),hok,.of_eq hg⟩
  refine AX ((F _ hKb (nsK hns)).run wX [] s₁ H ⟨[.ref a],[]⟩ [.ref a] [.ref a] _ _ hr e0 (X0 s₁ (.ref a)) (.cons rfl .nil) (NE H hO hS)) λr s' h=>?_
  cases r with
  |error e=>exact(hCX H e s' h).elim
  |ok fl=>
   cases fl with
   |next=>exact qJ h
   |brk=>exact qJ h
   |cont=>exact qJ h
   |ret u=>
    obtain⟨v,H',os,bare,un,hok',r',q⟩:=h;have q':=q;subst q';obtain rfl:u=Value.bool af:=r';refine⟨rfl,OldK.of_keep λb o e=>?_,os,bare⟩
    cases q:H b with
    |none=>exact un.keep b o e q (by intro z;exact absurd (show b∈([]:List aC) from z) (by simp)) (by simp)
    |some u=>
     rcases hO b with z|⟨ob,xs,z⟩
     .rw[q] at z;cases z
     .have z2:=un.frzs b ob _ z;obtain⟨e1,_⟩:=hok b _ z;obtain⟨e2,_⟩:=hok' b _ z2;rw[e] at e1;cases e1;exact e2
 cases hk:K.lookup a with
 |some o=>
  have e:=KX a o hk;rw[ha] at e;cases e;refine X1 (λ_=>ae) (λ_=>.inl rfl) (.inr ⟨_,vs.toArray,_,hk,rfl,rfl,rfl,by rw[dU,lenV];exact hl,by simpa using rv⟩) (λb u z=>by have z':(ae:Option HO)=aa u:=z;cases z') (λb z=>absurd rfl z) λz=>absurd rfl z
 |none=>
  refine X1 (λb=>if b=a then aa (.frz { cls:=.type "list",data:=.seq vs.toArray } (.lst (ns.map V.int))) else ae) (λb=>?_) (.inl (.inr ⟨{ cls:=.type "list",data:=.seq vs.toArray },if_pos rfl⟩)) (λb u z=>?_) (λb z=>?_) λ_=>hk
  .by_cases hb:b=a
   .exact .inr ⟨_,_,if_pos hb⟩
   .exact .inl (if_neg hb)
  .by_cases hb:b=a
   .have z':=(if_pos hb).symm.trans z;cases z';subst hb;exact⟨ha,by rw[cD];exact hl,vs,_,rv,ha⟩
   .have z':=(if_neg hb).symm.trans z;cases z'
  .by_cases hb:b=a
   .exact hb
   .exact absurd (if_neg hb) z
def mC (s:bS):Arguments:=match s with
 |.FunctionDef _ a _ _ _ _ _ _ _ _=>a
 |_=>{ posonlyargs:=[],args:=[],vararg:=ae,kwonlyargs:=[],kw_defaults:=[],kwarg:=ae,defaults:=[] }
def kK (s:bS):List bS:=match s with
 |.FunctionDef _ _ b _ _ _ _ _ _ _=>b
 |_=>[]
def bP (s:bS):iN:=match s with
 |.FunctionDef _ _ _ _ _ _ sc _ _ _=>sc
 |_=>{ kind:=.function,names:=[],isGenerator:=ag,isCoroutine:=ag }
abbrev cb:yi:=λ_ _ _ _ _ _=>False
abbrev E0:XK:=λ_ _ _=>False
theorem Ni:Passes cb X E0:=λ_ _ _ _ _ _ _ h=>h.elim
structure Fun (K:aJ)(x qual:aE)(st:bS)(f:aC)(fd:iE):Prop where
 ex:∃ (oc:aD) (od:Option aC) (kV ik pm:aD) (an:Option aC) (ba ct:aD) (No:Array (Option aD)),
  fd=lL x qual (mC st) (kK st) (bP st) .none kV ik pm an ba ct/\K.lookup f=aa ⟨oc,od,.func fd,No⟩/\AZ K ba qual=af
 kp:uC K (.ref f)=af
section
variable {P:bG}{base:aQ}
theorem Fun.ok{fd:iE}{k:Nat}(F:Fun K x qual st f fd)(S:FnScope N ps (bP st))(len:∀ vs H Q E,sp vs H Q E->vs.length=ps.length)
  (xo:∀ (ba:aD) (A:bW) (outer:List Env) (s:aH) (H:Hp) (vs:List V) (Q:VK) (E:XK),Room k (A.deeper (pY qual (bP st) s.heap.objs.size f ba))->sp vs H Q E ->
   ∃ t,PSs (sC cb P w K mg base N qual (bP st) f ba A outer s H E).nox (kK st) t/\t { nx:=λ_ H'=>Q .non H',rt:=Q } (start N vs) H):FnOk P w K mg base cb (k+1) f fd ps sp:=by
 obtain⟨oc,od,kV,ik,pm,an,ba,ct,No,rfl,lk,fj⟩:=F.ex;refine Ma lk fj S len λA outer s H vs Q E hr NE=>?_
 obtain⟨t,h,q⟩:=xo ba A outer s H vs Q E hr NE;exact⟨t,h.nox,q⟩
theorem Fun.binds{fd:iE}(F:Fun K x qual st f fd)
  (h:∀ (kV ik pm:aD) (an:Option aC) (ba ct:aD) (us:List aD),us.length=ps.length->AY (lL x qual (mC st) (kK st) (bP st) .none kV ik pm an ba ct) ⟨us,[]⟩=pure (ps.zip us)):Binds K fd ps []:=by
 obtain⟨oc,od,kV,ik,pm,an,ba,ct,No,rfl,lk,fj⟩:=F.ex;exact .all (h kV ik pm an ba ct)
theorem VD{oc:aD}{od an:Option aC}{No:Array (Option aD)}{kV ik pm ba ct:aD}(l:K.lookup f=aa ⟨oc,od,.func (lL x qual (mC st) (kK st) (bP st) .none kV ik pm an ba ct),No⟩)
  (c:AZ K ba qual=af) (k:uC K (.ref f)=af):Fun K x qual st f (lL x qual (mC st) (kK st) (bP st) .none kV ik pm an ba ct):=⟨⟨oc,od,kV,ik,pm,an,ba,ct,No,rfl,l,c⟩,k⟩
end
theorem dH{k:Nat}(hr:Room k A):A.units+40<cLine:=xF (Nat.add_le_add_left (by decide:40<=64) _) hr.units
theorem t4:Acy X (.builtin "len") (λxs H Q=>∃ a ep kvs,xs=[V.ref a]/\H a=aa (.dK ep kvs)/\Q (.int kvs.length) H):=by
 rw[5];obtain⟨a,ep,kvs,rfl,ha,q⟩:=h;rw[7];exact Mk I (.inl ha) λt s' I'=>⟨.int kvs.length,H,I',⟨t,rfl⟩,q⟩
theorem qP {A B:Prop}(h:B):if ag=af then A else B:=by
 rw[if_neg mN];exact h
theorem qR {A B:Prop}(h:A):if af=af then A else B:=by
 rw[if_pos rfl];exact h
section
variable {prog:bG}{R:qB->aH->Prop}
theorem a8 {lf:aR}{scope:iN}{it ak:aD}(I:Nat->aH->Prop)
  (uc:∀ n s,I n s->aM (aO prog w) A (iA it) (λr s₁=>match r with
   |none=>R (.ok .next) s₁
   | some v=>aM (aO prog w) A (QE lf it v) (λ_ s₂=>aM (aO prog w) A (lH lf env v) (λ_ s₃=>
     aM (aO prog w) A (forIn nn af λc r=>if r=af then do let ok <-isTrue c env (bK c env);pure (BQ ok) else pure (BQ r)) (λok s₄=>
      if ok=af then aM (aO prog w) A (bK ng env) (λx s₅=>
       aM (aO prog w) A (call (.builtin "list.append") [ak,x]) (λ_ s₆=>∃ m,m<n/\I m s₆) (λ_ _=>False) s₅) (λ_ _=>False) s₄
      else ∃ m,m<n/\I m s₄) (λ_ _=>False) s₃) (λ_ _=>False) s₂) (λ_ _=>False) s₁) (λ_ _=>False) s)
  (n:Nat) (h:I n s):kB (aO prog w) A (.compLoop (.ListComp ng [⟨lf,bg,nn,0⟩] scope pos) 0 it ak env) R s:=by
 refine codeAny_loop rfl I (λn s hI=>?_) n h
 refine wpAny_noted ?_;rw[compTurn_list];refine aF (wpAny_standAt (aF (lG (uc n s hI) (λr s₁ h₁=>?_) λ_ _ h'=>h'.elim)))
 cases r with
 |none=>exact aL h₁
 |some v=>
  refine aF (lG h₁ (λ_ s₂ h₂=>?_) λ_ _ h'=>h'.elim)
  refine aF (lG h₂ (λ_ s₃ h₃=>aF (lG h₃ (λok s₄ h₄=>?_) λ_ _ h'=>h'.elim)) λ_ _ h'=>h'.elim)
  cases ok with
  |false=>exact aL ⟨rfl,h₄⟩
  |true=>
   exact aF (aF (lG h₄ (λx s₅ h₅=>aF (lG h₅ (λ_ s₆ h₆=>aL (aL ⟨rfl,h₆⟩)) λ_ _ h'=>h'.elim)) λ_ _ h'=>h'.elim))
end
theorem cellOf_eq{n:aE}{c:aC}(h:env.cells.lookup n=aa c):cellOf env n=pure c:=by
 unfold cellOf;rw[h]
def eW (env:Env):List (aE×lO)->List (aE×aC)->List (aE×aC)
 |[],cs=>cs
 |(n,k)::r,cs=>eW env r (if (k==gA)=af then(match env.cells.lookup n with|some c=>(n,c)::cs|none=>cs) else cs)
theorem Ek(h:∀ n,(n,gA)∈sc.names->∃ c,env.cells.lookup n=aa c):closureFor sc env=pure (eW env sc.names []):=by
 unfold closureFor;generalize sc.names=l at h;have go:∀ (l:List (aE×lO)) (cs:List (aE×aC)),(∀ n,(n,gA)∈l->∃ c,env.cells.lookup n=aa c) ->
   (forIn l cs (λ(x:aE×lO) (r:List (aE×aC))=>if (x.2==gA)=af then(do let c <-cellOf env x.1;pure (BQ ((x.1,c)::r))) else pure (BQ r)):Sem (List (aE×aC)))=pure (eW env l cs):=by
  intro l;induction l with
  |nil=>intro cs _;rfl
  |cons p r ih=>
   intro cs hl;obtain⟨n,k⟩:=p;rw[RM];have hr:∀ n,(n,gA)∈r->∃ c,env.cells.lookup n=aa c:=λn hn=>hl n (bH _ hn)
   cases hk:(k==gA) with
   |true=>
    have ek:k=gA:=by simpa using hk
    subst ek;obtain⟨c,hc⟩:=hl n bE;have e1:eW env ((n,gA)::r) cs=eW env r ((n,c)::cs):=by
     show eW env r (if (gA==gA)=af then(match env.cells.lookup n with|some c=>(n,c)::cs|none=>cs) else cs)=_
     rw[hc];rfl
    rw[e1];simp only[cellOf_eq hc,hk,if_true];exact ih ((n,c)::cs) hr
   |false=>
    have e1:eW env ((n,k)::r) cs=eW env r cs:=by
     show eW env r (if (k==gA)=af then(match env.cells.lookup n with|some c=>(n,c)::cs|none=>cs) else cs)=_
     rw[hk];rfl
    rw[e1];simp only[hk,jC,if_false];exact ih cs hr
 have e:=go l [] h;simp only[e]
 rfl
theorem MI:∀ (l:List (aE×lO)) (cs:List (aE×aC)),(∀ x c,cs.lookup x=aa c->env.cells.lookup x=aa c)->∀ x c,(eW env l cs).lookup x=aa c->env.cells.lookup x=aa c
 |[],cs,h,x,c,e=>h x c e
 |(n,k)::r,cs,h,x,c,e=>by
  refine MI r _ ?_ x c e;intro y d q;by_cases hk:(k==gA)=af
  .rw[if_pos hk] at q;cases hc:env.cells.lookup n with
   |none=>rw[hc] at q;exact h y d q
   |some a=>
    rw[hc] at q;by_cases hy:(y==n)=af
    .simp only[nO,hy] at q;have:y=n:=by simpa using hy
     rw[this,hc];exact q
    .have sr:(y==n)=ag:=by simpa using hy
     simp only[nO,sr] at q;exact h y d q
  .rw[if_neg hk] at q;exact h y d q
theorem Ds{c:aC}(hx:env.cells.lookup x=aa c):∀ (l:List (aE×lO)) (cs:List (aE×aC)),cs.lookup x=aa c->(eW env l cs).lookup x=aa c
 |[],cs,h=>h
 |(n,k)::r,cs,h=>by
  refine Ds hx r _ ?_;by_cases hk:(k==gA)=af
  .rw[if_pos hk];cases hc:env.cells.lookup n with
   |none=>exact h
   |some a=>
    by_cases hy:(x==n)=af
    .have:x=n:=by simpa using hy
     rw[19];rw[hx] at hc;cases hc;simp[nO]
    .have sr:(x==n)=ag:=by simpa using hy
     simp only[nO,sr];exact h
  .rw[if_neg hk];exact h
theorem MQ{c:aC}(hx:env.cells.lookup x=aa c):∀ (l:List (aE×lO)) (cs:List (aE×aC)),(x,gA)∈l->(eW env l cs).lookup x=aa c
 |[],cs,h=>by simp at h
 |(n,k)::r,cs,h=>by
  rcases cO.1 h with e|h
  .cases e;refine Ds hx r _ ?_;rw[if_pos (by rfl),hx]
   simp[nO]
  .exact MQ hx r _ h
theorem Dz(x:aE):(wV sc env).names.lookup x=(sc.names.lookup x).map λk=>if (k==gA&&env.scope.kind==.function&&env.kindOf x==aa .cell)=af then NameKind.cell else k:=by
 unfold wV;induction sc.names with
 |nil=>rfl
 |cons p r ih=>
  obtain⟨n,k⟩:=p;show List.lookup x ((if (k==gA&&env.scope.kind==.function&&env.kindOf n==aa .cell)=af then(n,NameKind.cell) else(n,k))::List.map _ r)=_
  by_cases hy:(x==n)=af
  .have:x=n:=by simpa using hy
   rw[19];by_cases hc:(k==gA&&env.scope.kind==.function&&env.kindOf x==aa .cell)=af
   .rw[if_pos hc];simp only[nO,hy,xC];rw[if_pos hc]
   .rw[if_neg hc];simp only[nO,hy,xC];rw[if_neg hc]
  .have sr:(x==n)=ag:=by simpa using hy
   have e2:List.lookup x ((n,k)::r)=List.lookup x r:=by simp only[nO,sr]
   rw[e2];by_cases hc:(k==gA&&env.scope.kind==.function&&env.kindOf n==aa .cell)=af
   .rw[if_pos hc];simp only[nO,sr];exact ih
   .rw[if_neg hc];simp only[nO,sr];exact ih
theorem lookup_mem {α:Type}{v:α}:∀ {l:List (aE×α)},l.lookup x=aa v->(x,v)∈l
 |[],h=>by simp at h
 |(n,k)::r,h=>by
  by_cases hy:(x==n)=af
  .have:x=n:=by simpa using hy
   rw[19];simp[nO] at h;subst h;exact bE
  .have sr:(x==n)=ag:=by simpa using hy
   simp only[nO,sr] at h;exact bH _ (lookup_mem h)
def gP (X:Cx)(N:List aE)(sc:iN)(cl:List (aE×aC))(C:aC)(s₀:aH)(H₀:Hp)(ex:List aC):Cx:=
 { X with N:=N,s₀:=s₀,H₀:=H₀,env:=compEnvC sc cl C X.env,outer:=X.stack,ex:=ex,fn:=λ_=>ag,pn:=[],xe:=λ_ _=>False }
structure CompScope (X:Cx)(N:List aE)(cap:List (Option Nat))(sc:iN):Prop where
 kind:sc.kind=.function
 nocell:∀ y∈sc.names,y.2 ≠ .cell
 nm:∀ y∈sc.names,y.2=.local->sc.names.lookup y.1=aa .local
 fre:∀ y∈sc.names,y.2=.free->X.env.scope.names.lookup y.1=aa .cell\/X.env.scope.names.lookup y.1=aa .free
 len:cap.length=N.length
 cap:∀ (i j:Nat),cap[i]?=aa (aa j)->∃ x,N[i]?=aa x/\X.N[j]?=aa x/\sc.names.lookup x=aa .free
def uR (cap:List (Option Nat))(Z:St):St:=cap.map λo=>o.bind λj=>(Z[j]?).join
def uO (X:Cx)(nn:List aR)(t:TT):Prop:=
 ∀ (ah:List (aC×bB)) (s:aH) (Z:St) (H:Hp) (Q:Bool->Hp->Prop),Inv X ah Z H s->t Z H Q ->
  aM (aO X.prog X.w) X.A (forIn nn af λc r=>if r=af then do let ok <-isTrue c X.env (bK c X.env);pure (BQ ok) else pure (BQ r)) (TP X ah Z Q) X.xe s
def Mb:TT:=λ_ H Q=>Q af H
theorem Tx:uO X [] Mb:=λ_ _ _ H _ I h=>wpAny_tests_nil ⟨H,I,h⟩
theorem Uk{t:TT}(h:PT X c t):uO X [c] t:=λah s Z H Q I hw=>wpAny_tests_one (h ah s Z H Q I hw)
def TF (cap:List (Option Nat))(J:It)(g:TG)(tc:TT)(te:TE)(Z:St)(H1:Hp)(Q:VK):Prop:=∀ D,H1 D=ae ->
 ∃ W:Nat->Nat->List V->St->Hp->Prop,(∃ m,W 0 m [] (uR cap Z) (au H1 D (.lst []))) /\
  ∀ i m ys σ' H',W i m ys σ' H'->H' D=aa (.lst ys)/\((J.stop i H'/\Q (.ref D) H') \/
   (J.go i H'/\ys.length<sizeLine/\∃ M:List V->St->Hp->Prop,(∀ zs σ2 H2,M zs σ2 H2->∃ m',m'<m/\W (i+1) m' zs σ2 H2)/\∀ x H2,J.yld i H' x H2->g x σ' H2 λσ3 H3=>tc σ3 H3 λb H4=>
    if b=af then te σ3 H4 λy H5=>H5 D=aa (.lst ys)/\M (ys++[y]) σ3 (au H5 D (.lst (ys++[y]))) else M ys σ3 H4))
def tLC (cap:List (Option Nat))(wi:TI)(g:TG)(tc:TT)(te:TE):TE:=λZ H Q=>wi Z H λJ H1=>TF cap J g tc te Z H1 Q
theorem CompScope.cells (S:CompScope X N cap sc)(ok:X.Ok):∀ n,(n,gA)∈sc.names->∃ c,X.env.cells.lookup n=aa c:=λn hn=>ok.has n (S.fre _ hn rfl)
theorem B2 (S:CompScope X N cap sc){fp:List aC}(I:Inv X ah Z H s)(hf:∀ b∈fp,jG X ah H b)(hl:∀ b∈fp,b<s.heap.objs.size) :
  (gP X N sc (eW X.env sc.names []) s.heap.objs.size s H fp).Ok:=by
 have sub:∀ x c,(eW X.env sc.names []).lookup x=aa c->X.env.cells.lookup x=aa c:=MI sc.names [] (λx c e=>by simp at e)
 refine⟨I.ok.mod,?_,I.ok.glob,I.ok.blt,bD _,?_,?_,?_,I.ok.hd,I.ok.frames,.inl rfl,?_,I.bs,dA I.ok.bsz I.sz,?_,?_,I.stack,I.stkFree⟩
 .exact S.kind
 .intro x y c h1 h2;exact I.ok.inj x y c (sub x c h1) (sub y c h2)
 .intro x hx;have hk:(wV sc X.env).names.lookup x=aa .cell\/(wV sc X.env).names.lookup x=aa .free:=hx;have qi:sc.names.lookup x=aa .free:=by
   rw[Dz] at hk;cases e:sc.names.lookup x with
   |none=>rw[e] at hk;simp at hk
   |some k=>
    rw[e] at hk;have hm:=lookup_mem e;have nc:=S.nocell _ hm;simp only[xC,GR] at hk;by_cases hc:(k==gA&&X.env.scope.kind==.function&&X.env.kindOf x==aa .cell)=af
    .have:(k==gA)=af:=by
      simp only[xS] at hc;exact hc.1.1
     rw[show k=gA by simpa using this]
    .rw[if_neg hc] at hk;rcases hk with q|q
     .exact absurd q nc
     .rw[q]
  obtain⟨c,hc⟩:=S.cells I.ok x (lookup_mem qi);exact⟨c,MQ hc _ _ (lookup_mem qi)⟩
 .intro x c h1 _;exact absurd (show ag=af from h1) mN
 .intro b hb;refine⟨cQ (hl b hb),λx c e=>(hf b hb).2.2.2.2.1 x c (sub x c e)⟩
 .intro b o e hb;rcases(hf b hb).2.2.2.1 with z|z
  .exact I.ok.noex b o e z
  .exact absurd (iO (bU e) (dA I.ok.bsz z)) (kS _)
 .intro b hb hz;obtain⟨_,h1,h2,_⟩:=hf b hb;rcases cO.1 (I.stkSub b hz) with e|e
  .exact h1 e
  .exact h2 e
theorem Xv (S:CompScope X N cap sc){fp:List aC}{h':aQ}{tk:Nat}(I:Inv X ah Z H s)(hf:∀ b∈fp,jG X ah H b)(hl:∀ b∈fp,b<s.heap.objs.size)
  (hn:h'.Ns s.heap.objs.size λ_=>ae) (hk:∀ b o,s.heap.get? b=aa o->h'.get? b=aa o) :
  Inv (gP X N sc (eW X.env sc.names []) s.heap.objs.size s H fp) [] (uR cap Z) H { s with heap:=h',toks:=tk }:=by
 have sub:∀ x c,(eW X.env sc.names []).lookup x=aa c->X.env.cells.lookup x=aa c:=MI sc.names [] (λx c e=>by simp at e)
 have fr:=I.hok.fresh (bD _);refine⟨B2 S I hf hl,rfl,I.bare,Un.kept hk,⟨_,hn,λi x v e1 e2 e3=>?_⟩,λx c e=>?_,fr,λx c e=>I.freeC x c (sub x c e),λp hp=>by simp[gP] at hp,I.hok.kept hk,?_⟩
 .have sv:(cap.map λo=>o.bind λj=>(Z[j]?).join)[i]?=aa (aa v):=e2
  rw[eE] at sv;cases hc:cap[i]? with
  |none=>rw[hc] at sv;simp at sv
  |some o=>
   rw[hc] at sv;simp only[xC,GR] at sv;cases o with
   |none=>simp at sv
   |some j=>
    have sv:(Z[j]?).join=aa v:=sv;have ej:Z[j]?=aa (aa v):=by
     cases q:Z[j]? with
     |none=>rw[q] at sv;simp at sv
     |some z=>rw[q] at sv;simp at sv;rw[sv]
    obtain⟨y,n1,n2,fr1⟩:=S.cap i j hc;have exy:=eO (e1.symm.trans n1);subst exy;have hmem:=lookup_mem fr1;have vk:=S.fre _ hmem rfl;obtain⟨m,_,hlk⟩:=I.loc;obtain⟨u,r,l⟩:=hlk j x v n2 ej (.inr vk);refine⟨u,r,.inr ⟨?_,?_⟩⟩
    .show(wV sc X.env).names.lookup x=aa .cell\/(wV sc X.env).names.lookup x=aa .free;rw[Dz,fr1];simp only[xC,GR];by_cases hc:(gA==gA&&X.env.scope.kind==.function&&X.env.kindOf x==aa .cell)=af
     .exact .inl (if_pos hc)
     .exact .inr (if_neg hc)
    .rcases l with⟨k1,_⟩|⟨_,c,qd,vj⟩
     .exfalso;have k1':X.env.scope.names.lookup x=aa .local:=k1;rcases vk with q|q
      .rw[k1'] at q;cases q
      .rw[k1'] at q;cases q
     .obtain⟨oc,h1,h2⟩:=vj;exact⟨c,MQ qd _ _ hmem,oc,hk _ _ h1,h2⟩
 .obtain⟨v,oc,h1,h2⟩:=I.cell x c (sub x c e);exact⟨v,oc,hk _ _ h1,h2⟩
 .show(cap.map _).length=N.length;rw[cD,S.len]
theorem comp_back {fp:List aC}{cl:List (aE×aC)}{σ':St}{s':aH}{pl:List (aC×bB)}(I:Inv X ah Z H s)(hf:∀ b∈fp,jG X ah H b)
  (I':Inv (gP X N sc cl s.heap.objs.size s H fp) pl σ' H' s'):Inv X ah Z H' s':=
 I.call' I'.os (show Un (xf X.stack) fp H H' s.heap s'.heap from I'.base) I'.hok I'.bare λb hb=>⟨(hf b hb).2.2.2.1,(hf b hb).2.1,(hf b hb).2.2.2.2.1,(hf b hb).2.2.2.2.2⟩
section
variable {wi:TI}{g:TG}{tc:TT}{te:TE}
def Block (X:Cx)(N:List aE)(sc:iN)(tg ng:aR)(nn:List aR)(g:TG)(tc:TT)(te:TE):Prop:=
 ∀ (cl:List (aE×aC)) (C:aC) (s₀:aH) (H₀:Hp) (ex:List aC),PG (gP X N sc cl C s₀ H₀ ex) tg g/\uO (gP X N sc cl C s₀ H₀ ex) nn tc/\PE (gP X N sc cl C s₀ H₀ ex) ng te
theorem Hj{RR:aD->aC->qB->aH->Prop}{E:aD->aH->Prop}(hc:X.calm=af)(S:CompScope X N cap sc)(hb:Block X N sc tg ng nn g tc te)
  {it:aC} {fp:List aC} {tn:Nat->aQ->Prop} {J:It} {Q:VK} (I:Inv X ah Z H s) (T:Turn X.prog X.w X.K tg J fp it tn) (st:tn 0 s.heap) (hf:∀ b∈fp,jG X ah H b)
  (q:TF cap J g tc te Z H Q)
  (hRR:∀ (D:aC) (s₀:aH) (H₀:Hp) (σ':St) (H':Hp) (s':aH),Inv X ah Z H₀ s₀->(∀ b∈fp,jG X ah H₀ b)->Inv (gP X N sc (eW X.env sc.names []) s₀.heap.objs.size s₀ H₀ fp) [] σ' H' s'->Q (.ref D) H' ->
   RR (.ref D) s₀.heap.objs.size (.ok .next) s') :
  aM (aO X.prog X.w) X.A (newList []) (λak s₃=>aM (aO X.prog X.w) X.A (newFunctionEnv sc X.env.globals (eW X.env sc.names []) [] X.env.qual ae .none (aa X.env)) (λX2 s₄=>
   kB (aO X.prog X.w) X.A (.compStart (.ListComp ng [⟨tg,bg,nn,0⟩] sc pos) 0 (.ref it) ak { X2 with scope:=wV sc X.env }) (RR ak X2.locals) s₄) E s₃) E s:=by
 have hl:∀ b∈fp,b<s.heap.objs.size:=λb hb=>by
  obtain⟨o,e,_⟩:=T.obj 0 _ st b hb;exact bU e
 refine jZ (wpAny_newFunctionEnv S.nocell (by intro y hy;simp at hy) (λh₁ uh ui=>?_) S.kind)
 dsimp only at uh ui ⊢;have I0:Inv X ah Z (au H s.heap.objs.size (.lst [])) { s with heap:=s.heap.push { cls:=.type "list",data:=.seq ([]:List aD).toArray },toks:=s.toks }:=I.lnew (ys:=[]) .nil (by simp)
 obtain⟨W,⟨m0,w0⟩,uc⟩:=q s.heap.objs.size I.fresh;generalize hs0:({ s with heap:=s.heap.push { cls:=.type "list",data:=.seq ([]:List aD).toArray },toks:=s.toks }:aH)=s0 at I0;have hh:s.heap.push { cls:=.type "list",dict:=ae,data:=.seq ([]:List aD).toArray }=s0.heap:=by rw[<-hs0]
 have ht0:s0.toks=s.toks:=by rw[<-hs0]
 have hg0:s0.gens=s.gens/\s0.drawn=s.drawn/\s0.os=s.os:=by rw[<-hs0];exact⟨rfl,rfl,rfl⟩
 rw[hh] at uh ui ⊢;have X3:∀ b o,s.heap.get? b=aa o->s0.heap.get? b=aa o:=λb o e=>by rw[<-hh];exact bT _ e
 have X4:∀ b o,s0.heap.get? b=aa o->h₁.get? b=aa o:=λb o e=>ui.extBut b o (cQ (bU e)) (bT _ e)
 have hl0:∀ b∈fp,b<s0.heap.objs.size:=λb hb=>by
  obtain⟨o,e,_⟩:=T.obj 0 _ st b hb;exact bU (X3 b o e)
 have hf0:∀ b∈fp,jG X ah (au H s.heap.objs.size (.lst [])) b:=λb hb=>by
  refine⟨?_,(hf b hb).2⟩;rw[dF (cQ (hl b hb))];exact(hf b hb).1
 have I1:Inv (gP X N sc (eW X.env sc.names []) s0.heap.objs.size s0 (au H s.heap.objs.size (.lst [])) fp) [] (uR cap Z) (au H s.heap.objs.size (.lst [])) { s0 with heap:=h₁,toks:=s.toks+0 }:=
  Xv S I0 hf0 hl0 uh X4
 obtain⟨pg,pf,pe⟩:=hb (eW X.env sc.names []) s0.heap.objs.size s0 (au H s.heap.objs.size (.lst [])) fp;have R9:tn 0 h₁:=T.keep _ _ _ st λb hb o e=>X4 b o (X3 b o e)
 have ud:∀ {H':Hp},(∀ b∈fp,H' b=ae)->∀ b∈fp,jG (gP X N sc (eW X.env sc.names []) s0.heap.objs.size s0 (au H s.heap.objs.size (.lst [])) fp) [] H' b:=λhn b hb=>
  ⟨hn b hb,(I1.ok.exf b hb).1,I1.ok.exfs b hb,.inl hb,(I1.ok.exf b hb).2,λp hp=>by simp[gP] at hp⟩
 have X5:∀ s3:aH,s3={ s0 with heap:=h₁,toks:=s.toks+0 } ->
   kB (aO X.prog X.w) X.A (.compLoop (.ListComp ng [⟨tg,bg,nn,0⟩] sc pos) 0 (.ref it) (.ref s.heap.objs.size) (compEnvC sc (eW X.env sc.names []) s0.heap.objs.size X.env)) (RR (.ref s.heap.objs.size) s0.heap.objs.size) s3:=by
  rintro s3 rfl;refine a8 (λn s'=>∃ i ys σ' H',Inv (gP X N sc (eW X.env sc.names []) s0.heap.objs.size s0 (au H s.heap.objs.size (.lst [])) fp) [] σ' H' s'/\tn i s'.heap/\(∀ b∈fp,H' b=ae)/\W i n ys σ' H') ?_ m0
   ⟨0,[],uR cap Z,_,I1,R9,λb hb=>(hf0 b hb).1,w0⟩
  rintro n s3 ⟨i,ys,σ3,H3,I3,W9,W',w3⟩;obtain⟨hD,h3⟩:=uc i n ys σ3 H3 w3;rcases h3 with⟨stop,qn⟩|⟨go,av,M,hM,step⟩
  .refine bf (T.done (gP X N sc (eW X.env sc.names []) s0.heap.objs.size s0 (au H s.heap.objs.size (.lst [])) fp) rfl rfl rfl hc i [] s3 σ3 H3 (λ_ _=>False) I3 (ud W') W9 stop) λr s4 gh=>?_
   obtain⟨hr,I4⟩:=gh;subst hr;exact hRR _ s0 _ σ3 H3 s4 I0 hf0 I4 qn
  .refine bf (T.item (gP X N sc (eW X.env sc.names []) s0.heap.objs.size s0 (au H s.heap.objs.size (.lst [])) fp) rfl rfl rfl hc i [] s3 σ3 H3 (λ_ _=>False) I3 (ud W') W9 go) λr s4 gh=>?_
   obtain⟨u,hr,h4⟩:=gh;subst hr;refine bf h4 λ_ s5 gh=>?_
   obtain⟨x,H5,I5,r5,y5,R4,fr5⟩:=gh;have I5':=I5.pinned (ud fr5) (T.obj _ _ R4);refine bf (pg _ s5 σ3 H5 x u _ I5' r5 (step x H5 y5)) λ_ s6 gh=>?_
   obtain⟨σ6,H6,I6,q6⟩:=gh;refine bf (pf _ s6 σ6 H6 _ I6 q6) λb s7 gh=>?_
   obtain⟨H7,I7,q7⟩:=gh;have again:∀ {s8:aH} {H8:Hp} {zs:List V},Inv (gP X N sc (eW X.env sc.names []) s0.heap.objs.size s0 (au H s.heap.objs.size (.lst [])) fp) ([]++yN fp s5.heap) σ6 H8 s8->M zs σ6 H8 ->
     ∃ m,m<n/\∃ i ys σ' H',Inv (gP X N sc (eW X.env sc.names []) s0.heap.objs.size s0 (au H s.heap.objs.size (.lst [])) fp) [] σ' H' s8/\tn i s8.heap/\(∀ b∈fp,H' b=ae)/\W i m ys σ' H':=λ{s8 H8 zs} I8 w8=>by
    obtain⟨m',hm,w8⟩:=hM _ _ _ w8;refine⟨m',hm,i+1,zs,σ6,H8,I8.unpinned,T.keep _ _ _ R4 λb hb o e=>(I8.pin (b,o) (oR _ (oR _ (FJ hb e)))).1,λb hb=>?_,w8⟩
    obtain⟨o,e,d⟩:=T.obj _ _ R4 b hb;exact(I8.pin (b,o) (oR _ (oR _ (FJ hb e)))).2.1
   cases b with
   |false=>
    rw[if_neg mN] at q7 ⊢;exact again I7 q7
   |true=>
    rw[if_pos rfl] at q7 ⊢;refine bf (pe _ s7 σ6 H7 _ I7 q7) λv s8 gh=>?_
    obtain⟨y,H8,I8,r8,hD8,w8⟩:=gh;refine bf (Bq _ s8 σ6 H8 (.ref s.heap.objs.size) [y] (.ref s.heap.objs.size) [v] (λ_ H9=>H9=au H8 s.heap.objs.size (.lst (ys++[y]))) I8 rfl (.cons r8 .nil) ⟨_,ys,y,rfl,rfl,hD8,av,rfl⟩) λ_ s9 gh=>?_
    obtain⟨_,H9,I9,_,e9⟩:=gh;subst e9;exact again I9 w8
 have e3:({ s with heap:=h₁,toks:=s.toks+([]:List (aE×aD)).length }:aH)={ s0 with heap:=h₁,toks:=s.toks+0 }:=by
  rw[<-hs0];rfl
 have fin:=codeAny_compStart_list (X5 _ rfl) (T.self X.A 0 _ _ _ R9 (X5 _ rfl));rw[<-e3] at fin;exact fin
theorem Mu (hc:X.calm=af)(S:CompScope X N cap sc)(hi:PI X tg bg wi)(hb:Block X N sc tg ng nn g tc te)(hs:∀ x,rK bg X.env x=pure x:=by intro _;rfl) :
  PE X (.ListComp ng [⟨tg,bg,nn,0⟩] sc pos) (tLC cap wi g tc te):=by
 rw[14];rw[eval_ListComp];refine wpAny_comprehension_free rfl hs (Ek (S.cells I.ok)) S.kind S.nm (bf (hi ah s Z H _ I h) λv s1 h1=>bf h1 λitv s2 h2=>?_)
 obtain⟨it,fp,tn,J,H2,e,I2,T,wE,f2,q2⟩:=h2;subst e;refine Hj hc S hb I2 T wE f2 q2 ?_;intro D s₀ H₀ σ' H' s' I0 f0 I' qD;obtain⟨m,hn,_⟩:=id I'.loc;have IX:=comp_back I0 f0 I';refine⟨m,hn,λh' Sc=>⟨.ref D,H',?_,rfl,qD⟩⟩
 exact IX.turned (λb o hb e=>(Sc.2 b hb).trans e) I'.free (mI I0.lt) (.inr I0.sz) (λx c e z=>by
  obtain⟨v,oc,h1,_⟩:=I0.cell x c e;exact absurd (bU h1) (by rw[z];exact kS _)) λp hp z=>by
   have h1:=(I0.pin p hp).1;exact absurd (bU h1) (by rw[z];exact kS _)
theorem Vr(hc:X.calm=af)(hN:X.N.Nodup)(N':X.N[i]?=aa x)(hx:jR X.env.scope x)(S:CompScope X N cap sc)(hi:PI X tg bg wi)(hb:Block X N sc tg ng nn g tc te)
  (zh:kP (.ListComp ng [⟨tg,bg,nn,0⟩] sc pos) (aa (.Name x px)) ug.line X.env=pure af:=by rfl)
  (hs:∀ x,rK bg X.env x=pure x:=by intro _;rfl) (hf:X.fn x=af\/X.env.scope.names.lookup x=aa .local:=by first|exact .inl rfl|exact .inr rfl|assumption) :
  PS X (.Assign [.Name x px] (.ListComp ng [⟨tg,bg,nn,0⟩] sc pos) ug) (HW (tLC cap wi g tc te) (IL i)):=by
 rw[21];rw[exec_Assign_Name_used _ _ _ _ zh];refine aF (wpAny_standAt (aF ?_));refine aF (lG (wpAny_comprehension_free rfl hs (Ek (S.cells I.ok)) S.kind S.nm
  (bf (hi ah s Z H _ I h) λv s1 h1=>bf h1 λitv s2 h2=>?_)) (λ_ s' hq=>aL (aL hq)) λ_ _ e=>e)
 obtain⟨it,fp,tn,J,H2,e,I2,T,wE,f2,q2⟩:=h2;subst e;refine Hj hc S hb I2 T wE f2 q2 ?_;intro D' s₀ H₀ σ' H' s' I0 f0 I' qD;obtain⟨m,hn,_⟩:=id I'.loc;have IX:=comp_back I0 f0 I';have xq:∀ x c,X.env.cells.lookup x=aa c->c≠s₀.heap.objs.size:=λx c e z=>by
  obtain⟨v,oc,h1,_⟩:=I0.cell x c e;exact absurd (bU h1) (by rw[z];exact kS _)
 refine wpAny_assign_Name (ZT IX hN N' hx (show RelV (.ref D') (.ref D') from rfl) (λs3 I3 ch=>?_) hf)
 obtain⟨a,sb,ha⟩:=ch;have gg:s₀.heap.objs.size≠a:=by
  rcases ha with z|z
  .rw[z];exact mI I0.lt
  .exact λq=>xq x a z q.symm
 refine⟨m,Heap.Ns.sameBut hn sb gg,λh' Sc=>⟨_,H',?_,qD⟩⟩
 exact I3.turned (λb o hb e=>(Sc.2 b hb).trans e) I'.free (mI I0.lt) (.inr I0.sz) xq λp hp z=>by
  have h1:=(I0.pin p hp).1;exact absurd (bU h1) (by rw[z];exact kS _)
end
def JN (out:List (aE×lO))(XN N:List aE)(cap:List (Option Nat))(ns:List (aE×lO)):Bool:=
 ns.all (λy=>y.2 != .cell)&&ns.all (λy=>y.2 != .local||ns.lookup y.1==aa .local)&&ns.all (λy=>y.2 != .free||out.lookup y.1==aa .cell||out.lookup y.1==aa .free) &&
 cap.length==N.length&&(cap.zip N).all (λp=>match p.1 with|none=>af|some j=>XN[j]?==aa p.2&&ns.lookup p.2==aa .free)
theorem pR{out:List (aE×lO)}{XN:List aE}(h1:X.env.scope.names=out)(h2:X.N=XN)(X6:JN out XN N cap sc.names=af)(hk:sc.kind=.function):CompScope X N cap sc:=by
 unfold JN at X6;simp only[xS,dW,bne_iff_ne,ne_eq,Bool.or_eq_true,beq_iff_eq] at X6;obtain⟨⟨⟨⟨c1,c2⟩,c3⟩,c4⟩,c5⟩:=X6;refine⟨hk,c1,λy hy e=>?_,λy hy e=>?_,c4,λi j e=>?_⟩
 .rcases c2 y hy with q|q
  .exact absurd e q
  .exact q
 .rw[h1];rcases c3 y hy with(q|q)|q
  .exact absurd e q
  .exact .inl q
  .exact .inr q
 .have hi:=(cX.1 e).1;have N':i<N.length:=by omega
  have hm:(cap[i],N[i])∈cap.zip N:=by
   have:(cap.zip N)[i]?=aa (cap[i],N[i]):=by
    rw[List.getElem?_zip_eq_some];exact⟨fO hi,fO N'⟩
   exact eU this
  have q:=c5 _ hm;have ec:cap[i]=aa j:=by
   rw[fO hi] at e;exact eO e
  rw[ec] at q;simp only[xS,beq_iff_eq] at q;exact⟨N[i],fO N',by rw[h2];exact q.1,q.2⟩
abbrev Ext (H H':Hp):Prop:=∀ b o,H b=aa o->H' b=aa o
theorem Ext.refl:Ext H H:=λ_ _ e=>e
theorem Ext.trans {H2:Hp}(a:Ext H H1)(b:Ext H1 H2):Ext H H2:=λx o e=>b x o (a x o e)
theorem Ext.new{p:aC}(n:H p=ae):Ext H (au H p o):=λb u e=>by
 rw[dF (kN e n)];exact e
theorem Ext.rd(x:Ext H H'){u:HO}(r:Rd H a u):Rd H' a u:=by
 rcases r with r|⟨o,r⟩
 .exact .inl (x _ _ r)
 .exact .inr ⟨o,x _ _ r⟩
theorem Ext.sqL(x:Ext H H')(h:SqL K H a xs):SqL K H' a xs:=h.imp x.rd id
theorem Ext.none(x:Ext H H')(h:H' a=Option.none):H a=Option.none:=by
 cases e:H a with
 |none=>rfl
 |some o=>rw[x a o e] at h;cases h
open Classical in
def hid (H:Hp)(P:aC->Prop):Hp:=λa=>if P a then ae else H a
theorem Aco{P:aC->Prop}:hid H P a=aa o ↔ ¬ P a/\H a=aa o:=by
 unfold hid;by_cases h:P a<;>simp[h]
theorem gM{P:aC->Prop}(n:¬ P a)(e:H a=aa o):hid H P a=aa o:=Aco.2 ⟨n,e⟩
theorem Aap{P:aC->Prop}:Ext (hid H P) H:=λ_ _ e=>(Aco.1 e).2
theorem cT{P:aC->Prop}(x:Ext H H'):Ext (hid H P) (hid H' P):=λb o e=>by
 obtain⟨n,e⟩:=Aco.1 e;exact gM n (x b o e)
theorem gR{P P':aC->Prop}(s:∀ a,P' a->P a):Ext (hid H P) (hid H P'):=λb o e=>by
 obtain⟨n,e⟩:=Aco.1 e;exact gM (λq=>n (s b q)) e
abbrev DQ:=(Nat×List (aI×V)) ⊕ (Nat×List (List aA×V))
def dO:DQ->HO
 |.inl kvs=>.dK kvs.1 kvs.2
 |.inr ts=>.dT ts.1 ts.2
def Hid (P:aC->Prop)(H:Hp):Prop:=∀ a,P a->(∃ xs,H a=aa (.lst xs))\/∃ q:DQ,H a=aa (dO q)
theorem Hid.ext {P:aC->Prop}(h:Hid P H)(x:Ext H H'):Hid P H':=λa p=>(h a p).imp (λ⟨xs,e⟩=>⟨xs,x _ _ e⟩) λ⟨xs,e⟩=>⟨xs,x _ _ e⟩
theorem Hid.new {P:aC->Prop}(h:Hid P H)(n:H a=ae):¬ P a:=λp=>by
 rcases h a p with⟨xs,e⟩|⟨xs,e⟩<;>rw[n] at e<;>cases e
abbrev ki (P:aC->Prop)(F:List aC):aC->Prop:=λa=>P a\/a∈F
theorem Gu {P:aC->Prop}:ki P []=P:=by
 funext a;simp[ki]
def kD:aI->aA
 |.inl i=>.int i
 |.inr x=>.str x
def SZ (a:aC)(kvs:Nat×List (V×V)):HO:=.ext λh=>kvs.2.length<=sizeLine/\(a==iL)=ag/\∃ o es,h.get? a=aa o/\o.ExactDict/\o.data=.dict es kvs.1/\cN (λ(p:V×V) (e:qK)=>RelV p.1 e.key/\RelV p.2 e.val) kvs.2 es.toList
mutual
def Abg (K:aJ)(H:Hp):aA->V->Prop
 |.none,v=>v=.non
 |.bool b,v=>v=.bl b
 |.int i,v=>v=.int i
 |.str x,v=>v=.str x/\cM (.str x)=af
 |.list ds,v=>∃ a xs,v=.ref a/\SqL K H a xs/\Aao K H ds xs
 |.tuple ds,v=>∃ a xs,v=.ref a/\H a=aa (.tup xs)/\Aao K H ds xs
 |.dict kds,v=>∃ a,v=.ref a/\((∃ kvs:Nat×List (aI×V),H a=aa (.dK kvs.1 kvs.2)/\Abo K H kds kvs.2)\/(∃ ts:Nat×List (List aA×V),H a=aa (.dT ts.1 ts.2)/\A2r K H kds ts.2)\/∃ xs,H a=aa (SZ a xs)/\A4e K H kds xs.2)
def Aao (K:aJ)(H:Hp):List aA->List V->Prop
 |[],xs=>xs=[]
 |d::ds,xs=>∃ x r,xs=x::r/\Abg K H d x/\Aao K H ds r
def Abo (K:aJ)(H:Hp):List (aA×aA)->List (aI×V)->Prop
 |[],xs=>xs=[]
 |(k,d)::ds,xs=>∃ k' x r,xs=(k',x)::r/\k=kD k'/\Abg K H d x/\Abo K H ds r
def Ab6 (K:aJ)(H:Hp):List (aA×aA)->List (List aA×V)->Prop
 |[],xs=>xs=[]
 |(k,d)::ds,xs=>∃ k' x r,xs=(k',x)::r/\(k=.tuple k'/\bO k'=af)/\Abg K H d x/\Ab6 K H ds r
def A2r (K:aJ)(H:Hp):List (aA×aA)->List (List aA×V)->Prop
 |[],_=>False
 |(k,_)::ds,xs=>k=.none/\Ab6 K H ds xs
def A4e (K:aJ)(H:Hp):List (aA×aA)->List (V×V)->Prop
 |[],_=>False
 |(k,m)::ds,xs=>k=.none/\ds=[(.none,.none)]/\Avo K H m xs
def Avo (K:aJ)(H:Hp):aA->List (V×V)->Prop
 |.list es,xs=>Aj3 K H es xs
 |_,_=>False
def Aj3 (K:aJ)(H:Hp):List aA->List (V×V)->Prop
 |[],xs=>xs=[]
 |d::ds,xs=>∃ x r,xs=x::r/\A2k K H d x/\Aj3 K H ds r
def A2k (K:aJ)(H:Hp):aA->V×V->Prop
 |.tuple ds,x=>Aao K H ds [x.1,x.2]
 |_,_=>False
end
def jg:List (aA×aA)->Bool
 |(.none,_)::_=>ag
 |_=>af
theorem Abt:Abg K H .none v↔v=.non:=by simp[Abg]
theorem Aax {b:Bool}:Abg K H (.bool b) v↔v=.bl b:=by simp[Abg]
theorem Aaj {b:Int}:Abg K H (.int b) v↔v=.int b:=by simp[Abg]
theorem Aa3 {b:aE}:Abg K H (.str b) v↔v=.str b/\cM (.str b)=af:=by simp only[Abg]
theorem Aa6:Abg K H (.list ds) v ↔ ∃ a xs,v=.ref a/\SqL K H a xs/\Aao K H ds xs:=by simp only[Abg]
theorem Aar:Abg K H (.tuple ds) v ↔ ∃ a xs,v=.ref a/\H a=aa (.tup xs)/\Aao K H ds xs:=by simp only[Abg]
theorem Ac6 {ds:List (aA×aA)}:Abg K H (.dict ds) v ↔ ∃ a,v=.ref a/\((∃ kvs:Nat×List (aI×V),H a=aa (.dK kvs.1 kvs.2)/\Abo K H ds kvs.2)\/(∃ ts:Nat×List (List aA×V),H a=aa (.dT ts.1 ts.2)/\A2r K H ds ts.2)\/∃ xs,H a=aa (SZ a xs)/\A4e K H ds xs.2):=by simp only[Abg]
theorem Ag6 {k:aA}{ds:List (aA×aA)}{xs:List (V×V)}:A4e K H ((k,m)::ds) xs↔k=.none/\ds=[(.none,.none)]/\Avo K H m xs:=by simp only[A4e]
theorem D0{xs:List (V×V)}(h:Avo K H m xs):∃ es,m=.list es/\Aj3 K H es xs:=by
 cases m with
 |list es=>exact⟨es,rfl,by simpa only[Avo] using h⟩
 |_=>simp[Avo] at h
theorem Aze {xs:List (V×V)}:Aj3 K H [] xs↔xs=[]:=by simp[Aj3]
theorem Asl{xs:List (V×V)}:Aj3 K H (d::ds) xs ↔ ∃ x r,xs=x::r/\A2k K H d x/\Aj3 K H ds r:=by simp only[Aj3]
theorem LZ {ds:List (aA×aA)}{xs:List (V×V)}(h:A4e K H ds xs):∃ es,ds=[(.none,.list es),(.none,.none)]/\Aj3 K H es xs:=by
 cases ds with
 |nil=>simp[A4e] at h
 |cons p r=>
  obtain⟨k,m⟩:=p;obtain⟨rfl,rfl,h1⟩:=Ag6.1 h;obtain⟨es,rfl,h2⟩:=D0 h1;exact⟨es,rfl,h2⟩
theorem Acw {xs:List (List aA×V)}:Ab6 K H [] xs↔xs=[]:=by simp[Ab6]
theorem Abw {k:aA}{ds:List (aA×aA)}{xs:List (List aA×V)}:Ab6 K H ((k,d)::ds) xs ↔ ∃ k' x r,xs=(k',x)::r/\(k=.tuple k'/\bO k'=af)/\Abg K H d x/\Ab6 K H ds r:=by simp only[Ab6]
theorem Aes {k:aA}{ds:List (aA×aA)}{xs:List (List aA×V)}:A2r K H ((k,m)::ds) xs↔k=.none/\Ab6 K H ds xs:=by simp only[A2r]
theorem Xy {ds:List (aA×aA)}{xs:List (List aA×V)}(hk:jg ds=af):¬ A2r K H ds xs:=by
 cases ds with
 |nil=>simp[A2r]
 |cons p r=>
  obtain⟨k,d⟩:=p;intro h;rw[(Aes.1 h).1] at hk;simp[jg] at hk
theorem rD {ds:List (aA×aA)}(hk:jg ds=af):Abg K H (.dict ds) v ↔ ∃ a,∃ kvs:Nat×List (aI×V),v=.ref a/\H a=aa (.dK kvs.1 kvs.2)/\Abo K H ds kvs.2:=by
 rw[Ac6];rw[23]
 .rintro⟨a,e,⟨kvs,h,r⟩|⟨ts,h,r⟩|⟨xs,h,r⟩⟩
  .exact⟨a,kvs,e,h,r⟩
  .exact absurd r (Xy hk)
  .obtain⟨es,rfl,_⟩:=LZ r;simp[jg] at hk
 .rintro⟨a,kvs,e,h,r⟩;exact⟨a,e,.inl ⟨kvs,h,r⟩⟩
theorem ZX {ds:List (aA×aA)}{kvs:Nat×List (aI×V)}(e:v=.ref a)(h:H a=aa (.dK kvs.1 kvs.2))(r:Abo K H ds kvs.2):Abg K H (.dict ds) v:=Ac6.2 ⟨a,e,.inl ⟨kvs,h,r⟩⟩
theorem Aak:Aao K H [] xs↔xs=[]:=by simp[Aao]
theorem Aaf:Aao K H (d::ds) xs ↔ ∃ x r,xs=x::r/\Abg K H d x/\Aao K H ds r:=by simp only[Aao]
theorem Abm {xs:List (aI×V)}:Abo K H [] xs↔xs=[]:=by simp[Abo]
theorem Aa4 {k:aA}{ds:List (aA×aA)}{xs:List (aI×V)}:Abo K H ((k,d)::ds) xs ↔ ∃ k' x r,xs=(k',x)::r/\k=kD k'/\Abg K H d x/\Abo K H ds r:=by simp only[Abo]
theorem zN{ds:List (aA×aA)}(hm:∀ es,m ≠ .list es:=by intro _ z;cases z):Abg K H (.dict ((.none,m)::ds)) v ↔ ∃ a,∃ ts:Nat×List (List aA×V),v=.ref a/\H a=aa (.dT ts.1 ts.2)/\Ab6 K H ds ts.2:=by
 rw[Ac6];rw[23]
 .rintro⟨a,e,⟨kvs,h,r⟩|⟨ts,h,r⟩|⟨xs,h,r⟩⟩
  .obtain⟨k',_,_,_,ek,_⟩:=Aa4.1 r;cases k'<;>simp[kD] at ek
  .exact⟨a,ts,e,h,(Aes.1 r).2⟩
  .obtain⟨es,z,_⟩:=LZ r;cases z;exact absurd rfl (hm es)
 .rintro⟨a,ts,e,h,r⟩;exact⟨a,e,.inr (.inl ⟨ts,h,Aes.2 ⟨rfl,r⟩⟩)⟩
mutual
theorem Abg.ext(x:Ext H H'):∀ {d:aA} {v:V},Abg K H d v->Abg K H' d v
 |.none,_,h=>Abt.2 (Abt.1 h)
 |.bool _,_,h=>Aax.2 (Aax.1 h)
 |.int _,_,h=>Aaj.2 (Aaj.1 h)
 |.str _,_,h=>Aa3.2 (Aa3.1 h)
 |.list ds,_,h=>by
  obtain⟨a,xs,e,s,r⟩:=Aa6.1 h;exact Aa6.2 ⟨a,xs,e,x.sqL s,Aao.ext x r⟩
 |.tuple ds,_,h=>by
  obtain⟨a,xs,e,s,r⟩:=Aar.1 h;exact Aar.2 ⟨a,xs,e,x _ _ s,Aao.ext x r⟩
 |.dict ds,_,h=>by
  obtain⟨a,e,⟨kvs,r,q⟩|⟨ts,r,q⟩|⟨xs,r,q⟩⟩:=Ac6.1 h
  .exact Ac6.2 ⟨a,e,.inl ⟨kvs,x _ _ r,Abo.ext x q⟩⟩
  .exact Ac6.2 ⟨a,e,.inr (.inl ⟨ts,x _ _ r,A2r.ext x q⟩)⟩
  .exact Ac6.2 ⟨a,e,.inr (.inr ⟨xs,x _ _ r,A4e.ext x q⟩)⟩
theorem Aao.ext(x:Ext H H'):∀ {ds:List aA} {vs:List V},Aao K H ds vs->Aao K H' ds vs
 |[],_,h=>Aak.2 (Aak.1 h)
 |d::ds,_,h=>by
  obtain⟨y,r,e,h1,h2⟩:=Aaf.1 h;exact Aaf.2 ⟨y,r,e,Abg.ext x h1,Aao.ext x h2⟩
theorem Abo.ext(x:Ext H H'):∀ {ds:List (aA×aA)} {vs:List (aI×V)},Abo K H ds vs->Abo K H' ds vs
 |[],_,h=>Abm.2 (Abm.1 h)
 |(k,d)::ds,_,h=>by
  obtain⟨k',y,r,e,ek,h1,h2⟩:=Aa4.1 h;exact Aa4.2 ⟨k',y,r,e,ek,Abg.ext x h1,Abo.ext x h2⟩
theorem Ab6.ext(x:Ext H H'):∀ {ds:List (aA×aA)} {vs:List (List aA×V)},Ab6 K H ds vs->Ab6 K H' ds vs
 |[],_,h=>Acw.2 (Acw.1 h)
 |(k,d)::ds,_,h=>by
  obtain⟨k',y,r,e,ek,h1,h2⟩:=Abw.1 h;exact Abw.2 ⟨k',y,r,e,ek,Abg.ext x h1,Ab6.ext x h2⟩
theorem A2r.ext(x:Ext H H'):∀ {ds:List (aA×aA)} {vs:List (List aA×V)},A2r K H ds vs->A2r K H' ds vs
 |[],_,h=>absurd h (by simp[A2r])
 |(k,d)::ds,_,h=>Aes.2 ⟨(Aes.1 h).1,Ab6.ext x (Aes.1 h).2⟩
theorem A4e.ext(x:Ext H H'):∀ {ds:List (aA×aA)} {vs:List (V×V)},A4e K H ds vs->A4e K H' ds vs
 |[],_,h=>absurd h (by simp[A4e])
 |(k,d)::ds,_,h=>Ag6.2 ⟨(Ag6.1 h).1,(Ag6.1 h).2.1,Avo.ext x (Ag6.1 h).2.2⟩
theorem Avo.ext(x:Ext H H'):∀ {d:aA} {vs:List (V×V)},Avo K H d vs->Avo K H' d vs
 |.list es,_,h=>by
  rw[Avo] at h ⊢;exact Aj3.ext x h
 |.none,_,h=>absurd h (by simp[Avo])
 |.bool _,_,h=>absurd h (by simp[Avo])
 |.int _,_,h=>absurd h (by simp[Avo])
 |.str _,_,h=>absurd h (by simp[Avo])
 |.tuple _,_,h=>absurd h (by simp[Avo])
 |.dict _,_,h=>absurd h (by simp[Avo])
theorem Aj3.ext(x:Ext H H'):∀ {ds:List aA} {vs:List (V×V)},Aj3 K H ds vs->Aj3 K H' ds vs
 |[],_,h=>Aze.2 (Aze.1 h)
 |d::ds,_,h=>by
  obtain⟨y,r,e,h1,h2⟩:=Asl.1 h;exact Asl.2 ⟨y,r,e,A2k.ext x h1,Aj3.ext x h2⟩
theorem A2k.ext(x:Ext H H'):∀ {d:aA} {y:V×V},A2k K H d y->A2k K H' d y
 |.tuple ds,_,h=>by
  rw[A2k] at h ⊢;exact Aao.ext x h
 |.none,_,h=>absurd h (by simp[A2k])
 |.bool _,_,h=>absurd h (by simp[A2k])
 |.int _,_,h=>absurd h (by simp[A2k])
 |.str _,_,h=>absurd h (by simp[A2k])
 |.list _,_,h=>absurd h (by simp[A2k])
 |.dict _,_,h=>absurd h (by simp[A2k])
end
theorem Aao.length:∀ {ds:List aA} {vs:List V},Aao K H ds vs->vs.length=ds.length
 |[],_,h=>by rw[Aak.1 h];rfl
 |d::ds,_,h=>by
  obtain⟨y,r,e,h1,h2⟩:=Aaf.1 h;rw[e,fE,fE,Aao.length h2]
theorem Aao.get:∀ {ds:List aA} {vs:List V} {i:Nat} {d:aA},Aao K H ds vs->ds[i]?=aa d->∃ v,vs[i]?=aa v/\Abg K H d v
 |[],_,_,_,h,e=>by simp at e
 |d::ds,_,0,d',h,e=>by
  obtain⟨y,r,rfl,h1,h2⟩:=Aaf.1 h;have:d=d':=by simpa using e
  rw[19];exact⟨y,rfl,h1⟩
 |d::ds,_,i+1,d',h,e=>by
  obtain⟨y,r,rfl,h1,h2⟩:=Aaf.1 h;obtain⟨v,h3,h4⟩:=Aao.get h2 (by simpa using e)
  exact⟨v,by simpa using h3,h4⟩
theorem Aao.append:∀ {ds es:List aA} {vs ws:List V},Aao K H ds vs->Aao K H es ws->Aao K H (ds++es) (vs++ws)
 |[],es,_,_,h,g=>by rw[Aak.1 h];exact g
 |d::ds,es,_,_,h,g=>by
  obtain⟨y,r,rfl,h1,h2⟩:=Aaf.1 h;exact Aaf.2 ⟨y,_,rfl,h1,Aao.append h2 g⟩
theorem Aao.snoc{vs:List V}(h:Aao K H ds vs)(g:Abg K H d v):Aao K H (ds++[d]) (vs++[v]):=
 h.append (Aaf.2 ⟨v,[],rfl,g,Aak.2 rfl⟩)
theorem Aao.drop:∀ {ds:List aA} {vs:List V} (n:Nat),Aao K H ds vs->Aao K H (ds.drop n) (vs.drop n)
 |_,_,0,h=>h
 |[],_,n+1,h=>by rw[Aak.1 h];exact Aak.2 rfl
 |d::ds,_,n+1,h=>by
  obtain⟨y,r,rfl,h1,h2⟩:=Aaf.1 h;exact Aao.drop n h2
theorem Aao.take:∀ {ds:List aA} {vs:List V} (n:Nat),Aao K H ds vs->Aao K H (ds.take n) (vs.take n)
 |_,_,0,h=>Aak.2 rfl
 |[],_,n+1,h=>by rw[Aak.1 h];exact Aak.2 rfl
 |d::ds,_,n+1,h=>by
  obtain⟨y,r,rfl,h1,h2⟩:=Aaf.1 h;exact Aaf.2 ⟨y,_,rfl,h1,Aao.take n h2⟩
theorem Aao.set(g:Abg K H d v):∀ {ds:List aA} {vs:List V} (n:Nat),Aao K H ds vs->Aao K H (ds.set n d) (vs.set n v)
 |[],_,n,h=>by rw[Aak.1 h];exact Aak.2 rfl
 |e::ds,_,0,h=>by
  obtain⟨y,r,rfl,h1,h2⟩:=Aaf.1 h;exact Aaf.2 ⟨v,r,rfl,g,h2⟩
 |e::ds,_,n+1,h=>by
  obtain⟨y,r,rfl,h1,h2⟩:=Aaf.1 h;exact Aaf.2 ⟨y,_,rfl,h1,Aao.set g n h2⟩
theorem LK:∀ ns:List Int,Aao K H (ns.map aT) (ns.map V.int)
 |[]=>Aak.2 rfl
 |n::r=>Aaf.2 ⟨_,_,rfl,Aaj.2 rfl,LK r⟩
theorem Zf(h:Abg K H (kD k) v):v=kV k:=by
 cases k with
 |inl i=>exact Aaj.1 h
 |inr x=>exact(Aa3.1 h).1
mutual
theorem Abg.key {K:aJ}{H:Hp}:∀ (d:aA) {v:V},bF d=af->Abg K H d v->Aly H d v
 |.int i,v,_,h=>by simpa [Aly] using Aaj.1 h
 |.str i,v,_,h=>by simpa [Aly] using(Aa3.1 h).1
 |.tuple ds,v,k,h=>by
  obtain⟨a,xs,e,s,r⟩:=Aar.1 h;simp only[Aly];exact⟨a,xs,e,s,Aao.keys ds (by simpa [bF] using k) r⟩
 |.none,v,k,_=>by simp[bF] at k
 |.bool _,v,k,_=>by simp[bF] at k
 |.list _,v,k,_=>by simp[bF] at k
 |.dict _,v,k,_=>by simp[bF] at k
theorem Aao.keys {K:aJ}{H:Hp}:∀ (ds:List aA) {vs:List V},bO ds=af->Aao K H ds vs->Af9 H ds vs
 |[],vs,_,h=>by simpa [Af9] using Aak.1 h
 |d::ds,vs,k,h=>by
  have k':bF d=af/\bO ds=af:=by simpa [bO] using k
  obtain⟨y,r,e,h1,h2⟩:=Aaf.1 h;simp only[Af9];exact⟨y,r,e,Abg.key d k'.1 h1,Aao.keys ds k'.2 h2⟩
end
mutual
def dM:aA->Bool
 |.list _=>ag
 |.dict _=>ag
 |.tuple ds=>mX ds
 |_=>af
def mX:List aA->Bool
 |[]=>af
 |d::r=>dM d&&mX r
end
theorem Cg:∀ ds:List aA,mX ds=ds.all dM
 |[]=>by simp[mX]
 |d::r=>by simp[mX,Cg r]
mutual
theorem Abg.flat(x:∀ a xs,H a=aa (.tup xs)->H' a=aa (.tup xs)):∀ (d:aA) {v:V},dM d=af->Abg K H d v->Abg K H' d v
 |.none,_,_,h=>Abt.2 (Abt.1 h)
 |.bool _,_,_,h=>Aax.2 (Aax.1 h)
 |.int _,_,_,h=>Aaj.2 (Aaj.1 h)
 |.str _,_,_,h=>Aa3.2 (Aa3.1 h)
 |.tuple ds,_,f,h=>by
  obtain⟨a,xs,e,s,r⟩:=Aar.1 h;exact Aar.2 ⟨a,xs,e,x _ _ s,Aao.flat x ds (by simpa [dM] using f) r⟩
 |.list _,_,f,_=>by simp[dM] at f
 |.dict _,_,f,_=>by simp[dM] at f
theorem Aao.flat(x:∀ a xs,H a=aa (.tup xs)->H' a=aa (.tup xs)):∀ (ds:List aA) {vs:List V},mX ds=af->Aao K H ds vs->Aao K H' ds vs
 |[],_,_,h=>Aak.2 (Aak.1 h)
 |d::ds,_,f,h=>by
  have f':dM d=af/\mX ds=af:=by simpa [mX] using f
  obtain⟨y,r,e,h1,h2⟩:=Aaf.1 h;exact Aaf.2 ⟨y,r,e,Abg.flat x d f'.1 h1,Aao.flat x ds f'.2 h2⟩
end
inductive All3 {α β γ:Type}(R:α->β->γ->Prop):List α->List β->List γ->Prop
 |nil:All3 R [] [] []
 |cons {a b c as bs cs}:R a b c->All3 R as bs cs->All3 R (a::as) (b::bs) (c::cs)
theorem All3.imp {α β γ:Type}{R S:α->β->γ->Prop}:∀ {as:List α} {bs:List β} {cs:List γ},All3 R as bs cs->(∀ a b c,c∈cs->R a b c->S a b c)->All3 S as bs cs:=by
 intro as bs cs h;induction h with
 |nil=>exact λ_=>.nil
 |cons h _ ih=>exact λf=>.cons (f _ _ _ bE h) (ih λa b c m=>f a b c (bH _ m))
def Agt (K:aJ)(B H:Hp):Nat->aA->V->List aC->Prop
 |0,d,v,F=>F=[]/\Abg K B d v
 |n+1,d,v,F=>match d with
  |.list ds=>∃ p xs Fs,v=.ref p/\H p=aa (.lst xs)/\F=p::Fs.flatten/\All3 (Agt K B H n) ds xs Fs
  |.dict kds=>∃ p,∃ kvs:Nat×List (aI×V),∃ Fs,v=.ref p/\H p=aa (.dK kvs.1 kvs.2)/\F=p::Fs.flatten/\All3 (λ(kd:aA×aA) (kv:aI×V) f=>kd.1=kD kv.1/\Agt K B H n kd.2 kv.2 f) kds kvs.2 Fs
  |.tuple ds=>(n=0/\F=[]/\Abg K B (.tuple ds) v)\/(n≠0/\∃ p xs Fs,v=.ref p/\B p=aa (.tup xs)/\F=Fs.flatten/\All3 (Agt K B H n) ds xs Fs)
  |d=>F=[]/\Abg K B d v
theorem Agt.keep(xb:Ext B B'):∀ {n:Nat} {d:aA} {v:V} {F:List aC},(∀ a∈F,H' a=H a)->Agt K B H n d v F->Agt K B' H' n d v F
 |0,d,v,F,_,h=>⟨h.1,h.2.ext xb⟩
 |n+1,.list ds,v,F,kp,h=>by
  obtain⟨p,xs,Fs,e,hp,rfl,q⟩:=h;refine⟨p,xs,Fs,e,(kp p bE).trans hp,rfl,q.imp λa b c m r=>Agt.keep xb (λz hz=>kp z (bH _ (jP.2 ⟨c,m,hz⟩))) r⟩
 |n+1,.dict kds,v,F,kp,h=>by
  obtain⟨p,xs,Fs,e,hp,rfl,q⟩:=h;refine⟨p,xs,Fs,e,(kp p bE).trans hp,rfl,q.imp λa b c m r=>⟨r.1,Agt.keep xb (λz hz=>kp z (bH _ (jP.2 ⟨c,m,hz⟩))) r.2⟩⟩
 |n+1,.none,v,F,_,h=>⟨h.1,h.2.ext xb⟩
 |n+1,.bool _,v,F,_,h=>⟨h.1,h.2.ext xb⟩
 |n+1,.int _,v,F,_,h=>⟨h.1,h.2.ext xb⟩
 |n+1,.str _,v,F,_,h=>⟨h.1,h.2.ext xb⟩
 |n+1,.tuple ds,v,F,kp,h=>by
  rcases h with⟨h0,h1,h2⟩|⟨h0,p,xs,Fs,e,hp,rfl,q⟩
  .exact .inl ⟨h0,h1,h2.ext xb⟩
  .exact .inr ⟨h0,p,xs,Fs,e,xb _ _ hp,rfl,q.imp λa b c m r=>Agt.keep xb (λz hz=>kp z (jP.2 ⟨c,m,hz⟩)) r⟩
theorem ZQ{R:aA->V->List aC->Prop}(f:∀ d v F,R d v F->Abg K B d v):∀ {ds:List aA} {xs:List V} {Fs:List (List aC)},All3 R ds xs Fs->Aao K B ds xs:=by
 intro ds xs Fs h;induction h with
 |nil=>exact Aak.2 rfl
 |cons h _ ih=>exact Aaf.2 ⟨_,_,rfl,f _ _ _ h,ih⟩
theorem C8{R:aA×aA->aI×V->List aC->Prop}(f:∀ d v F,R d v F->d.1=kD v.1/\Abg K B d.2 v.2):∀ {ds:List (aA×aA)} {xs:List (aI×V)} {Fs:List (List aC)},All3 R ds xs Fs->Abo K B ds xs:=by
 intro ds xs Fs h;induction h with
 |nil=>exact Abm.2 rfl
 |@cons p q F ds xs Fs h _ ih=>
  obtain⟨k,d⟩:=p;obtain⟨k',v⟩:=q;exact Aa4.2 ⟨_,_,_,rfl,(f _ _ _ h).1,(f _ _ _ h).2,ih⟩
theorem Agt.share(xb:Ext B B'):∀ {n:Nat} {d:aA} {v:V} {F:List aC},(∀ a∈F,∀ o,H a=aa o->B' a=aa o)->Agt K B H n d v F->Abg K B' d v
 |0,d,v,F,_,h=>h.2.ext xb
 |n+1,.list ds,v,F,kp,h=>by
  obtain⟨p,xs,Fs,e,hp,rfl,q⟩:=h;refine Aa6.2 ⟨p,xs,e,SqL.of (kp p bE _ hp),?_⟩;exact ZQ (λd v F r=>r) (q.imp λa b c m r=>Agt.share xb (λz hz=>kp z (bH _ (jP.2 ⟨c,m,hz⟩))) r)
 |n+1,.dict kds,v,F,kp,h=>by
  obtain⟨p,xs,Fs,e,hp,rfl,q⟩:=h;refine ZX e (kp p bE _ hp) ?_;exact C8 (λd v F r=>r) (q.imp λa b c m r=>⟨r.1,Agt.share xb (λz hz=>kp z (bH _ (jP.2 ⟨c,m,hz⟩))) r.2⟩)
 |n+1,.none,v,F,_,h=>h.2.ext xb
 |n+1,.bool _,v,F,_,h=>h.2.ext xb
 |n+1,.int _,v,F,_,h=>h.2.ext xb
 |n+1,.str _,v,F,_,h=>h.2.ext xb
 |n+1,.tuple ds,v,F,kp,h=>by
  rcases h with⟨h0,h1,h2⟩|⟨h0,p,xs,Fs,e,hp,rfl,q⟩
  .exact h2.ext xb
  .refine Aar.2 ⟨p,xs,e,xb _ _ hp,?_⟩;exact ZQ (λd v F r=>r) (q.imp λa b c m r=>Agt.share xb (λz hz=>kp z (jP.2 ⟨c,m,hz⟩)) r)
def gE:Nat->aA->Bool
 |0,d=>dM d
 |n+1,.list ds=>ds.all (gE n)
 |n+1,.dict kds=>kds.all λkd=>gE n kd.2
 |n+2,.tuple ds=>ds.all (gE (n+1))
 |n+1,d=>dM d
theorem Agt.flat(xb:∀ a xs,B a=aa (.tup xs)->B' a=aa (.tup xs)):∀ {n:Nat} {d:aA} {v:V} {F:List aC},gE n d=af->Agt K B H n d v F->Agt K B' H n d v F
 |0,d,v,F,f,h=>⟨h.1,h.2.flat xb d f⟩
 |n+1,.list ds,v,F,f,h=>by
  obtain⟨p,xs,Fs,e,hp,rfl,q⟩:=h;refine⟨p,xs,Fs,e,hp,rfl,?_⟩;have f':∀ d∈ds,gE n d=af:=by simpa [gE] using f
  clear hp f e;induction q with
  |nil=>exact .nil
  |cons h t ih=>exact .cons (Agt.flat xb (f' _ bE) h) (ih λd m=>f' d (bH _ m))
 |n+1,.dict kds,v,F,f,h=>by
  obtain⟨p,xs,Fs,e,hp,rfl,q⟩:=h;refine⟨p,xs,Fs,e,hp,rfl,?_⟩;have f':∀ d∈kds,gE n d.2=af:=λd m=>by
   have:kds.all (λkd=>gE n kd.2)=af:=by simpa [gE] using f
   exact dW.1 this d m
  clear hp f e;obtain⟨xe,xs⟩:=xs;replace q:All3 _ kds xs Fs:=q;induction q with
  |nil=>exact .nil
  |cons h t ih=>exact .cons ⟨h.1,Agt.flat xb (f' _ bE) h.2⟩ (ih λd m=>f' d (bH _ m))
 |n+1,.none,v,F,f,h=>⟨h.1,h.2.flat xb _ f⟩
 |n+1,.bool _,v,F,f,h=>⟨h.1,h.2.flat xb _ f⟩
 |n+1,.int _,v,F,f,h=>⟨h.1,h.2.flat xb _ f⟩
 |n+1,.str _,v,F,f,h=>⟨h.1,h.2.flat xb _ f⟩
 |1,.tuple ds,v,F,f,h=>by
  rcases h with⟨h0,h1,h2⟩|⟨h0,_⟩
  .exact .inl ⟨h0,h1,h2.flat xb _ f⟩
  .exact absurd rfl h0
 |n+2,.tuple ds,v,F,f,h=>by
  rcases h with⟨h0,_⟩|⟨h0,p,xs,Fs,e,hp,rfl,q⟩
  .exact absurd h0 (by omega)
  .refine .inr ⟨h0,p,xs,Fs,e,xb _ _ hp,rfl,?_⟩;have f':∀ d∈ds,gE (n+1) d=af:=by simpa [gE] using f
   clear hp f e;induction q with
   |nil=>exact .nil
   |cons h t ih=>exact .cons (Agt.flat xb (f' _ bE) h) (ih λd m=>f' d (bH _ m))
theorem All3.of {α β γ:Type}{R:α->β->γ->Prop}:∀ {as:List α} {bs:List β} {cs:List γ},All3 R as bs cs->∀ c∈cs,∃ a b,R a b c:=by
 intro as bs cs h;induction h with
 |nil=>exact λc m=>by simp at m
 |cons h _ ih=>
  intro c m;rw[13]
  .exact⟨_,_,h⟩
  .exact ih c m
theorem Mz (xs:List V):∀ q,HO.tup xs≠dO q:=λq z=>by cases q<;>cases z
theorem Agt.mut1:∀ {n:Nat} {d:aA} {v:V} {F:List aC},Agt K B H n d v F->∀ a∈F,(∃ xs,H a=aa (.lst xs))\/∃ q,H a=aa (dO (.inl q))
 |0,d,v,F,h,a,m=>by rw[h.1] at m;simp at m
 |n+1,.list ds,v,F,h,a,m=>by
  obtain⟨p,xs,Fs,e,hp,rfl,q⟩:=h;rcases cO.1 m with e1|m2
  .rw[e1];exact .inl ⟨xs,hp⟩
  .obtain⟨f,hf,ha⟩:=jP.1 m2;obtain⟨_,_,r⟩:=q.of f hf;exact Agt.mut1 r a ha
 |n+1,.dict kds,v,F,h,a,m=>by
  obtain⟨p,xs,Fs,e,hp,rfl,q⟩:=h;rcases cO.1 m with e1|m2
  .rw[e1];exact .inr ⟨xs,hp⟩
  .obtain⟨f,hf,ha⟩:=jP.1 m2;obtain⟨_,_,r⟩:=q.of f hf;exact Agt.mut1 r.2 a ha
 |n+1,.none,v,F,h,a,m=>by rw[h.1] at m;simp at m
 |n+1,.bool _,v,F,h,a,m=>by rw[h.1] at m;simp at m
 |n+1,.int _,v,F,h,a,m=>by rw[h.1] at m;simp at m
 |n+1,.str _,v,F,h,a,m=>by rw[h.1] at m;simp at m
 |n+1,.tuple ds,v,F,h,a,m=>by
  rcases h with⟨_,h1,_⟩|⟨h0,p,xs,Fs,e,hp,rfl,q⟩
  .rw[h1] at m;simp at m
  .obtain⟨f,hf,ha⟩:=jP.1 m;obtain⟨_,_,r⟩:=q.of f hf;exact Agt.mut1 r a ha
theorem Agt.mut{F:List aC}(h:Agt K B H n d v F):∀ a∈F,(∃ xs,H a=aa (.lst xs))\/∃ q:DQ,H a=aa (dO q):=λa m=>(h.mut1 a m).imp id λ⟨q,e⟩=>⟨.inl q,e⟩
def UB (K:aJ)(B H:Hp)(d:aA)(v:V)(F:List aC):Prop:=∃ kds p,∃ ts:Nat×List (List aA×V),d=.dict ((.none,.none)::kds)/\v=.ref p/\H p=aa (.dT ts.1 ts.2)/\F=[p]/\(∀ kd∈kds,dM kd.2=af)/\Ab6 K B kds ts.2
def Azr (K:aJ)(B H:Hp)(d:aA)(v:V)(F:List aC):Prop:=(d=.none/\v=.non/\F=[])\/UB K B H d v F
def Bml (K:aJ)(B H:Hp)(d:aA)(v:V)(F:List aC):Prop:=∃ vn q Fs,∃ xr:Nat×List (aI×V),d=.dict vn/\v=.ref q/\H q=aa (.dK xr.1 xr.2)/\F=q::Fs.flatten/\All3 (λkd kv f=>kd.1=kD kv.1/\Azr K B H kd.2 kv.2 f) vn xr.2 Fs
def Aga (K:aJ)(B H:Hp)(n:Nat)(d:aA)(v:V)(F:List aC):Prop:=if n=9 then Azr K B H d v F else if n=10 then(d=.none/\v=.non/\F=[])\/Bml K B H d v F else Agt K B H n d v F
theorem Ab6.flat(xb:∀ a xs,B a=aa (.tup xs)->B' a=aa (.tup xs)):∀ {kds:List (aA×aA)} {ts:List (List aA×V)},(∀ kd∈kds,dM kd.2=af)->Ab6 K B kds ts->Ab6 K B' kds ts
 |[],ts,_,h=>Acw.2 (Acw.1 h)
 |(k,d)::r,ts,f,h=>by
  obtain⟨k',x,rr,e,ek,h1,h2⟩:=Abw.1 h;exact Abw.2 ⟨k',x,rr,e,ek,h1.flat xb _ (f (k,d) bE),Ab6.flat xb (λkd m=>f kd (bH _ m)) h2⟩
section
variable {F:List aC}
theorem Azr.keep (xb:Ext B B')(kp:∀ a∈F,H' a=H a)(h:Azr K B H d v F):Azr K B' H' d v F:=h.imp id λh=>by
 obtain⟨kds,p,ts,e1,e2,hp,rfl,f,r⟩:=h;exact⟨kds,p,ts,e1,e2,(kp p bE).trans hp,rfl,f,r.ext xb⟩
theorem Azr.flat (xb:∀ a xs,B a=aa (.tup xs)->B' a=aa (.tup xs))(h:Azr K B H d v F):Azr K B' H d v F:=h.imp id λh=>by
 obtain⟨kds,p,ts,e1,e2,hp,rfl,f,r⟩:=h;exact⟨kds,p,ts,e1,e2,hp,rfl,f,r.flat xb f⟩
theorem Azr.share (xb:Ext B B')(kp:∀ a∈F,∀ o,H a=aa o->B' a=aa o)(h:Azr K B H d v F):Abg K B' d v:=by
 rcases h with⟨rfl,rfl,_⟩|⟨kds,p,ts,rfl,e2,hp,rfl,f,r⟩
 .exact Abt.2 rfl
 exact(zN).2 ⟨p,ts,e2,kp p bE _ hp,r.ext xb⟩
theorem Azr.mut (h:Azr K B H d v F):∀ a∈F,(∃ xs,H a=aa (.lst xs))\/∃ q:DQ,H a=aa (dO q):=by
 rcases h with⟨_,_,rfl⟩|⟨kds,p,ts,e1,e2,hp,rfl,f,r⟩
 .exact λa m=>by simp at m
 intro a m;rw[cB.1 m];exact .inr ⟨.inr ts,hp⟩
theorem Bml.share (xb:Ext B B')(kp:∀ a∈F,∀ o,H a=aa o->B' a=aa o)(h:Bml K B H d v F):Abg K B' d v:=by
 obtain⟨vn,q,Fs,⟨xe,xr⟩,rfl,rfl,hq,rfl,h3⟩:=h;refine ZX (kvs:=(xe,xr)) rfl (kp q (by simp) _ hq) ?_
 have kp2:∀ f∈Fs,∀ p∈f,∀ o,H p=aa o->B' p=aa o:=λf mf p m=>kp p (bH _ (jP.2 ⟨f,mf,m⟩))
 clear hq kp;replace h3:All3 _ vn xr Fs:=h3;induction h3 with
 |nil=>exact Abm.2 rfl
 |cons h t ih=>exact Aa4.2 ⟨_,_,_,rfl,h.1,h.2.share xb (kp2 _ bE),ih λf m=>kp2 f (bH _ m)⟩
theorem Aga.keep (xb:Ext B B')(kp:∀ a∈F,H' a=H a)(h:Aga K B H n d v F):Aga K B' H' n d v F:=by
 unfold Aga at h ⊢;split at h
 .rw[if_pos ‹_›];exact h.keep xb kp
 .rw[if_neg ‹_›];split at h
  .rw[if_pos ‹_›];refine h.imp id λh=>?_
   obtain⟨vn,q,Fs,xr,e1,e2,hq,rfl,h3⟩:=h;exact⟨vn,q,Fs,xr,e1,e2,(kp q bE).trans hq,rfl,h3.imp λkd kv f m r=>⟨r.1,r.2.keep xb λb hb=>kp b (bH _ (jP.2 ⟨f,m,hb⟩))⟩⟩
  .rw[if_neg ‹_›];exact Agt.keep xb kp h
theorem Aga.share (xb:Ext B B')(kp:∀ a∈F,∀ o,H a=aa o->B' a=aa o)(h:Aga K B H n d v F):Abg K B' d v:=by
 unfold Aga at h;split at h
 .exact h.share xb kp
 .split at h
  .rcases h with⟨rfl,rfl,_⟩|h
   .exact Abt.2 rfl
   .exact h.share xb kp
  .exact Agt.share xb kp h
theorem Aga.flat (xb:∀ a xs,B a=aa (.tup xs)->B' a=aa (.tup xs))(f:gE n d=af)(h:Aga K B H n d v F):Aga K B' H n d v F:=by
 unfold Aga at h ⊢;split at h
 .rw[if_pos ‹_›];exact h.flat xb
 .rw[if_neg ‹_›];split at h
  .rw[if_pos ‹_›];refine h.imp id λh=>?_
   obtain⟨vn,q,Fs,xr,e1,e2,hq,eF,h3⟩:=h;exact⟨vn,q,Fs,xr,e1,e2,hq,eF,h3.imp λkd kv p m r=>⟨r.1,r.2.flat xb⟩⟩
  .rw[if_neg ‹_›];exact Agt.flat xb f h
theorem Aga.mut (h:Aga K B H n d v F):∀ a∈F,(∃ xs,H a=aa (.lst xs))\/∃ q:DQ,H a=aa (dO q):=by
 unfold Aga at h;split at h
 .exact h.mut
 .split at h
  .rcases h with⟨_,_,rfl⟩|⟨vn,q,Fs,xr,_,_,hq,rfl,h3⟩
   .exact λa m=>by simp at m
   intro b m;rw[13]
   .exact .inr ⟨.inl _,hq⟩
   .obtain⟨f,mf,m⟩:=jP.1 m;obtain⟨_,_,r⟩:=h3.of f mf;exact r.2.mut b m
  .exact Agt.mut h
end
abbrev EF:=List (Option aA)->Option aA
abbrev BF:=List (Option aA)->Option Bool
abbrev AF:=List (Option aA)->Option (List aA)
def Aom (K:aJ)(B:Hp)(Y:List (Option aA))(Z:St):Prop:=∀ (i:Nat) d,Y[i]?=aa (aa d)->∃ v,Z[i]?=aa (aa v)/\Abg K B d v
theorem Aom.ext(h:Aom K B Y Z)(x:Ext B B'):Aom K B' Y Z:=λi d e=>let ⟨v,h1,h2⟩:=h i d e;⟨v,h1,h2.ext x⟩
def Res (K:aJ)(P:aC->Prop)(n:Nat)(d:aA)(H:Hp)(Q:VK):Prop:=
 ∀ v H' Fr,Ext H H'->Fr.Nodup->(∀ a∈Fr,H a=ae/\∃ o,H' a=aa o)->Aga K (hid H' (ki P Fr)) H' n d v Fr->Q v H'
section
variable {P:aC->Prop}
theorem Res.zero (h:Res K P 0 d H Q)(x:Ext H H')(r:Abg K (hid H' P) d v):Q v H':=
 h v H' [] x .nil (λa m=>by simp at m) ⟨rfl,by rw[Gu];exact r⟩
theorem dY (h:∀ v H',Ext H H'->Abg K (hid H' P) d v->Q v H'):Res K P 0 d H Q:=λv H' Fr x _ _ r=>by
 obtain⟨rfl,r⟩:=r;rw[Gu] at r;exact h v H' x r
theorem Res.mono (h:Res K P n d H Q)(x:Ext H H'):Res K P n d H' Q:=λv H2 Fr x2 nd fr r=>
 h v H2 Fr (x.trans x2) nd (λa m=>⟨x.none (fr a m).1,(fr a m).2⟩) r
theorem Res.of (hP:Hid P H)(h:Res K P 0 d H Q):Res K P n d H Q:=λv H2 Fr x2 nd fr r=>
 h.zero x2 (r.share (gR λa p=>.inl p) λa m o e=>gM (hP.new (fr a m).1) e)
theorem Res.lst{p:aC}(hP:Hid P H)(h:Res K P 1 (.list ds) H Q)(n:H p=ae)(r:Aao K (hid H P) ds xs):Q (.ref p) (au H p (.lst xs)):=by
 refine h (.ref p) _ [p] (Ext.new n) (kC.2 ⟨by simp,.nil⟩) (λa m=>?_) ⟨p,xs,xs.map λ_=>[],rfl,eB,?_,?_⟩
 .have:a=p:=by simpa using m
  rw[19];exact⟨n,_,eB⟩
 .have:∀ l:List V,(l.map λ_=>([]:List aC)).flatten=[]:=λl=>by
   induction l with
   |nil=>rfl
   |cons a l ih=>rw[dB,nP,ih];rfl
  rw[this]
 .have xe:Ext (hid H P) (hid (au H p (.lst xs)) (ki P [p])):=λb o e=>by
   obtain⟨nb,e⟩:=Aco.1 e;have hb:=kN e n;exact gM (λq=>q.elim nb λm=>hb (by simpa using m)) (by rw[dF hb];exact e)
  generalize hid (au H p (.lst xs)) (ki P [p])=B at xe;generalize au H p (.lst xs)=H1;clear h;have go:∀ (ds:List aA) (xs:List V),Aao K (hid H P) ds xs->All3 (Agt K B H1 0) ds xs (xs.map λ_=>[]):=by
   intro ds;induction ds with
   |nil=>intro xs r;rw[Aak.1 r];exact .nil
   |cons d ds ih=>
    intro xs r;obtain⟨y,t,rfl,h1,h2⟩:=Aaf.1 r;exact .cons ⟨rfl,h1.ext xe⟩ (ih t h2)
  exact go ds xs r
theorem Res.tup{p:aC}(hP:Hid P H)(h:Res K P 0 (.tuple ds) H Q)(n:H p=ae)(r:Aao K (hid H P) ds xs):Q (.ref p) (au H p (.tup xs)):=by
 refine h.zero (Ext.new n) (Aar.2 ⟨p,xs,rfl,gM (hP.new n) eB,r.ext λb o e=>?_⟩)
 obtain⟨nb,e⟩:=Aco.1 e;exact gM nb (Ext.new n _ _ e)
end
def tF (K:aJ)(n:Nat)(f:EF):TE:=λZ H Q=>∃ P Y d,Hid P H/\Aom K (hid H P) Y Z/\f Y=aa d/\Res K P n d H Q
def R3 (K:aJ)(f:BF):TT:=λZ H Q=>∃ P Y b,Hid P H/\Aom K (hid H P) Y Z/\f Y=aa b/\∀ H',Ext H H'->Q b H'
def tAF (K:aJ)(f:AF):TA:=λZ H Q=>∃ P Y ds,Hid P H/\Aom K (hid H P) Y Z/\f Y=aa ds/\∀ vs H',Ext H H'->Aao K (hid H' P) ds vs->Q vs H'
abbrev DF (n:Nat)(X:Cx)(e:aR)(f:EF):Prop:=PE X e (tF X.K n f)
abbrev DE (X:Cx)(e:aR)(f:EF):Prop:=PE X e (tF X.K 0 f)
abbrev DT (X:Cx)(e:aR)(f:BF):Prop:=PT X e (R3 X.K f)
abbrev DW (X:Cx)(e:aR)(f:BF):Prop:=PW X e (R3 X.K f)
abbrev DA (X:Cx)(es:List aR)(f:AF):Prop:=PA X es (tAF X.K f)
section
variable {a:aR}
theorem PE.imp {t t':TE}(h:PE X e t)(w:∀ Z H Q,t' Z H Q->t Z H Q):PE X e t':=λah s Z H Q I q=>h ah s Z H Q I (w _ _ _ q)
theorem PT.imp {t t':TT}(h:PT X e t)(w:∀ Z H Q,t' Z H Q->t Z H Q):PT X e t':=λah s Z H Q I q=>h ah s Z H Q I (w _ _ _ q)
theorem PW.imp {t t':TT}(h:PW X e t)(w:∀ Z H Q,t' Z H Q->t Z H Q):PW X e t':=λjk ah s Z H Q I q=>h jk ah s Z H Q I (w _ _ _ q)
theorem PA.imp {t t':TA}(h:PA X es t)(w:∀ Z H Q,t' Z H Q->t Z H Q):PA X es t':=λpos ah s Z H Q I q=>h pos ah s Z H Q I (w _ _ _ q)
theorem fW {f:EF}(h:DF n X e f):DE X e f:=PE.imp h λZ H Q ⟨P,Y,d,hP,rs,ef,k⟩=>⟨P,Y,d,hP,rs,ef,Res.of hP k⟩
def aB (i:Nat):EF:=λY=>(Y[i]?).join
theorem Bt(h:aB i Y=aa d):Y[i]?=aa (aa d):=by
 unfold aB at h;cases e:Y[i]? with
 |none=>rw[e] at h;simp at h
 |some o=>rw[e] at h;simp at h;rw[h]
theorem cI (i:Nat)(hN:X.N[i]?=aa x:=by rfl)(hv:iP X.env.scope x:=by first|exact cF rfl|exact bY (cF rfl)|exact bY (bY rfl))(hd:(x==("__debug__" : aE))=ag:=by decide)
  (fj:(x==("__classdict__" : aE))=ag:=by decide):DE X (.Name x pos) (aB i):=PE.imp (jL hN hv hd fj) λZ H Q gh=>by
 rw[6];obtain⟨v,h1,h2⟩:=rs i d (Bt ef);exact⟨v,h1,k.zero Ext.refl h2⟩
def eC (d:aA):EF:=λ_=>aa d
theorem xZ(h:PE X e (tC v))(hr:∀ H,Abg X.K H d v):DE X e (eC d):=PE.imp h λZ H Q gh=>by
 obtain⟨P,Y,d',hP,rs,ef,k⟩:=gh;cases ef;exact k.zero Ext.refl (hr _)
theorem WG {i j}:DE X (.Constant (.int i) j pos) (eC (.int i)):=xZ WM λ_=>Aaj.2 rfl
theorem IK {i j}:DE X (.Constant (.bool i) j pos) (eC (.bool i)):=xZ Mx λ_=>Aax.2 rfl
theorem WQ {j}:DE X (.Constant .none j pos) (eC .none):=xZ WL λ_=>Abt.2 rfl
theorem Px {i j}(h:cM (.str i)=af:=by rw[0]):DE X (.Constant (.str i) j pos) (eC (.str i)):=xZ Ow λ_=>Aa3.2 ⟨rfl,h⟩
theorem Xz{i:Int}{u:aD}(hg:Gl X x)(hm:X.mg x=aa u)(r:RelV (.int i) u)(hd:(x==("__debug__" : aE))=ag:=by decide):DE X (.Name x pos) (eC (.int i)):=xZ (Ry hg hm r hd) λ_=>Aaj.2 rfl
def aK:AF:=λ_=>aa []
def aG (f:EF)(g:AF):AF:=λY=>(f Y).bind λd=>(g Y).bind λds=>aa (d::ds)
theorem iJ:DA X [] aK:=PA.imp jK λZ H Q gh=>by
 rw[6];cases ef;exact k [] H Ext.refl (Aak.2 rfl)
theorem gG {f:EF}{g:AF}(h1:DE X e f)(h2:DA X es g)(hs:bJ (e::es) X.env=(ag,bK e X.env)::bJ es X.env:=by rfl):DA X (e::es) (aG f g):=
 PA.imp (hZ h1 h2 hs) λZ H Q gh=>by
  obtain⟨P,Y,ds,hP,rs,ef,k⟩:=gh;rw[17];obtain⟨r,e2,ef⟩:=ao ef;cases ef;exact⟨P,Y,d,hP,rs,e1,dY λv H1 x1 r1=>⟨P,Y,r,hP.ext x1,rs.ext (cT x1),e2,λvs H2 x2 r2=>
   k _ _ (x1.trans x2) (Aaf.2 ⟨v,vs,rfl,r1.ext (cT x2),r2⟩)⟩⟩
def iR (g:AF):EF:=λY=>(g Y).bind λds=>if ds.length<=sizeLine then aa (.tuple ds) else ae
def fP (g:AF):EF:=λY=>(g Y).bind λds=>if ds.length<=sizeLine then aa (.list ds) else ae
theorem cG {α:Type}{c:Prop}[Decidable c]{x y:α}(h:(if c then aa x else ae)=aa y):c/\x=y:=by
 by_cases q:c
 .rw[if_pos q] at h;exact⟨q,eO h⟩
 .rw[if_neg q] at h;cases h
theorem WT {g:AF}{x1}(h:DA X es g):DE X (.Tuple es x1 pos) (iR g):=PE.imp (WA h) λZ H Q gh=>by
 rw[6];obtain⟨ds,e1,ef⟩:=ao ef;obtain⟨hl,rfl⟩:=cG ef;exact⟨P,Y,ds,hP,rs,e1,λvs H1 x1 r1=>⟨by rw[r1.length];exact hl,λp hp=>(k.mono x1).tup (hP.ext x1) hp r1⟩⟩
theorem VN {g:AF}(h:DA X es g):DF 1 X (.List es pos) (fP g):=PE.imp (Pz h) λZ H Q gh=>by
 rw[6];obtain⟨ds,e1,ef⟩:=ao ef;obtain⟨hl,rfl⟩:=cG ef;exact⟨P,Y,ds,hP,rs,e1,λvs H1 x1 r1=>⟨by rw[r1.length];exact hl,λp hp=>(k.mono x1).lst (hP.ext x1) hp r1⟩⟩
def sy (K:aJ)(n:Nat)(r:R2)(g:aA->aA->Option aA):Prop:=
 ∀ (P:aC->Prop) (H:Hp) (x y:V) (a b d:aA) (Q:VK),Hid P H->Abg K (hid H P) a x->Abg K (hid H P) b y->g a b=aa d->Res K P n d H Q->r x y H Q
def ai (g:aA->aA->Option aA)(fa fb:EF):EF:=λY=>(fa Y).bind λa=>(fb Y).bind λb=>g a b
theorem IG{fa fb:EF}(hg:sy K n r g):∀ Z H Q,tF K n (ai g fa fb) Z H Q->W5 r (tF K 0 fa) (tF K 0 fb) Z H Q:=λZ H Q gh=>by
 rw[6];obtain⟨d1,e1,ef⟩:=ao ef;obtain⟨d2,e2,ef⟩:=ao ef;exact⟨P,Y,d1,hP,rs,e1,dY λv H1 x1 r1=>⟨P,Y,d2,hP.ext x1,rs.ext (cT x1),e2,dY λu H2 x2 r2=>
  hg P H2 v u d1 d2 d Q (hP.ext (x1.trans x2)) (r1.ext (cT x2)) r2 ef (k.mono (x1.trans x2))⟩⟩
theorem qV {op:Operator}{fa fb:EF}(ho:OpR X (kR op) r)(hg:sy X.K n r g)(ha:DE X a fa)(hb:DE X b fb):DF n X (.BinOp a op b pos) (ai g fa fb):=PE.imp (Me ho ha hb) (IG hg)
theorem Qb {op:CmpOp}{fa fb:EF}(ho:OpR X (gU op) r)(hg:sy X.K 0 r g)(ha:DE X a fa)(hb:DE X b fb)(hm:wZ op b=ag):DE X (.Compare a [op] [b] pos) (ai g fa fb):=PE.imp (Sn ho ha hb hm) (IG hg)
def UnD (K:aJ)(n:Nat)(r:V->Hp->VK->Prop)(g:aA->Option aA):Prop:=
 ∀ (P:aC->Prop) (H:Hp) (x:V) (a d:aA) (Q:VK),Hid P H->Abg K (hid H P) a x->g a=aa d->Res K P n d H Q->r x H Q
def iq (g:aA->Option aA)(fa:EF):EF:=λY=>(fa Y).bind g
theorem Ls {op:UnaryOp}{r:V->Hp->VK->Prop}{g:aA->Option aA}{fa:EF}(ho:UnR X (unaryOp op) r)(hg:UnD X.K n r g)(ha:DE X a fa):DF n X (.UnaryOp op a pos) (iq g fa):=
 PE.imp (Nn ho ha) λZ H Q gh=>by
  rw[6];obtain⟨d1,e1,ef⟩:=ao ef;exact⟨P,Y,d1,hP,rs,e1,dY λv H1 x1 r1=>hg P H1 v d1 d Q (hP.ext x1) r1 ef (k.mono x1)⟩
def CallD (K:aJ)(n:Nat)(r:List V->Hp->VK->Prop)(g:List aA->Option aA):Prop:=
 ∀ (P:aC->Prop) (H:Hp) (xs:List V) (ds:List aA) (d:aA) (Q:VK),Hid P H->Aao K (hid H P) ds xs->g ds=aa d->Res K P n d H Q->r xs H Q
def aN (g:List aA->Option aA)(fa:AF):EF:=λY=>(fa Y).bind g
variable {r:List V->Hp->VK->Prop}{g:List aA->Option aA}{fa:AF}{id:String}
theorem tM (hc:Acy X (.builtin id) r)(hg:CallD X.K n r g)(X7:Gl X x)(hm:X.mg x=ae)(hv:nK x=aa (.builtin id))(ha:DA X (e::es) fa)(hn:x ≠ "__name__":=by decide)(we:(x==("__debug__" : aE))=ag:=by decide)
  (he:bJ (e::es) X.env=(ag,bK e X.env)::bJ es X.env:=by rfl) (iw:(fY pos (bJ es X.env)).any (·.1)=ag:=by rfl):DF n X (.Call (.Name x p) (e::es) [] pos) (aN g fa):=
 PE.imp (EO hc X7 hm hv ha hn we he iw) λZ H Q gh=>by
  rw[6];obtain⟨d1,e1,ef⟩:=ao ef;exact⟨P,Y,d1,hP,rs,e1,λvs H1 x1 r1=>hg P H1 vs d1 d Q (hP.ext x1) r1 ef (k.mono x1)⟩
theorem jY (hc:Acy X (.type T) r)(hg:CallD X.K n r g)(X7:Gl X x)(hm:X.mg x=ae)(hv:nK x=aa (.type T))(ha:DA X (e::es) fa)(hn:x ≠ "__name__":=by decide)(we:(x==("__debug__" : aE))=ag:=by decide)
  (he:bJ (e::es) X.env=(ag,bK e X.env)::bJ es X.env:=by rfl) (iw:(fY pos (bJ es X.env)).any (·.1)=ag:=by rfl):DF n X (.Call (.Name x p) (e::es) [] pos) (aN g fa):=
 PE.imp (tN hc X7 hm hv ha hn we he iw) λZ H Q gh=>by
  rw[6];obtain⟨d1,e1,ef⟩:=ao ef;exact⟨P,Y,d1,hP,rs,e1,λvs H1 x1 r1=>hg P H1 vs d1 d Q (hP.ext x1) r1 ef (k.mono x1)⟩
def tj:aA->Option Bool
 |.bool b=>aa b
 |_=>ae
theorem EH{b:Bool}(h:tj d=aa b):d=.bool b:=by
 cases d<;>simp[tj] at h;rw[h]
def aw (f:EF):BF:=λY=>(f Y).bind tj
theorem yK {f:EF}(h:DE X e f)(he:∀ jk,isTrue e X.env jk=(do let v <-jk;standAt e.pos;nJ [v] (truthy v)):=by intro _;rfl):DT X e (aw f):=PT.imp (Na h he) λZ H Q gh=>by
 obtain⟨P,Y,b,hP,rs,ef,k⟩:=gh;rw[17];cases EH ef;exact⟨P,Y,_,hP,rs,e1,dY λv H1 x1 r1=>⟨b,Aax.1 r1,k H1 x1⟩⟩
theorem iW {op:CmpOp}{r:R2}{g:aA->aA->Option aA}{fa fb:EF}(ho:OpR X (gU op) r)(hg:sy X.K 0 r g)(ha:DE X a fa)(hb:DE X b fb)(hm:wZ op b=ag):DT X (.Compare a [op] [b] pos) (aw (ai g fa fb)):=
 PT.imp (JL ho ha hb hm) λZ H Q gh=>by
  obtain⟨P,Y,c,hP,rs,ef,k⟩:=gh;rw[17];cases EH ef;exact IG hg Z H _ ⟨P,Y,_,hP,rs,e1,dY λv H1 x1 r1=>⟨c,Aax.1 r1,k H1 x1⟩⟩
def iT (f:BF):BF:=λY=>(f Y).bind λb=>aa (!b)
def iS (f g:BF):BF:=λY=>(f Y).bind λb=>if b=af then g Y else aa ag
def yt (f g:BF):BF:=λY=>(f Y).bind λb=>if b=af then aa af else g Y
variable {fB gB:BF}{rest:List aR}
theorem CV (h:DT X a fB):DT X (.UnaryOp .Not a pos) (iT fB):=PT.imp (Pq h) λZ H Q gh=>by
 obtain⟨P,Y,c,hP,rs,ef,k⟩:=gh;obtain⟨b,e1,ef⟩:=ao ef;cases ef;exact⟨P,Y,b,hP,rs,e1,λH1 x1=>k H1 x1⟩
theorem DB (h:DT X a fB):DW X (.BoolOp .And [a] pos) fB:=Sz h
theorem yM (h:DT X a fB):DW X (.BoolOp .Or [a] pos) fB:=WI h
theorem CN (h:DT X a fB)(h2:DW X (.BoolOp .And (b::rest) pos) gB):DW X (.BoolOp .And (a::b::rest) pos) (iS fB gB):=PW.imp (Oa h h2) λZ H Q gh=>by
 obtain⟨P,Y,c,hP,rs,ef,k⟩:=gh;obtain⟨b,e1,ef⟩:=ao ef;refine⟨P,Y,b,hP,rs,e1,λH1 x1=>?_⟩
 cases b with
 |true=>exact qR ⟨P,Y,c,hP.ext x1,rs.ext (cT x1),by simpa using ef,λH2 x2=>k H2 (x1.trans x2)⟩
 |false=>
  have:ag=c:=by simpa using ef
  rw[19];exact qP (k H1 x1)
theorem AQ (h:DT X a fB)(h2:DW X (.BoolOp .Or (b::rest) pos) gB):DW X (.BoolOp .Or (a::b::rest) pos) (yt fB gB):=PW.imp (UP h h2) λZ H Q gh=>by
 obtain⟨P,Y,c,hP,rs,ef,k⟩:=gh;obtain⟨b,e1,ef⟩:=ao ef;refine⟨P,Y,b,hP,rs,e1,λH1 x1=>?_⟩
 cases b with
 |true=>
  have:af=c:=by simpa using ef
  rw[19];exact qR (k H1 x1)
 |false=>exact qP ⟨P,Y,c,hP.ext x1,rs.ext (cT x1),by simpa using ef,λH2 x2=>k H2 (x1.trans x2)⟩
theorem pC (h:DW X a fB):DT X a fB:=h.pt
def SQ (f:EF):EF:=λY=>(f Y).bind λd=>(tj d).bind λb=>aa (.bool (!b))
def uT (f g:EF):EF:=λY=>(f Y).bind λd=>(tj d).bind λb=>if b=af then g Y else aa (.bool ag)
def eOr (f g:EF):EF:=λY=>(f Y).bind λd=>(tj d).bind λb=>if b=af then aa (.bool af) else g Y
variable {f1 f2:EF}
theorem Qa {op}(h:DE X a f1):DE X (.BoolOp op [a] pos) f1:=Pc h
theorem Rg (h:DE X a f1)(h2:DE X (.BoolOp .And (b::rest) pos) f2):DE X (.BoolOp .And (a::b::rest) pos) (uT f1 f2):=PE.imp (Pb h h2) λZ H Q gh=>by
 obtain⟨P,Y,c,hP,rs,ef,k⟩:=gh;rw[17];obtain⟨b,e2,bx⟩:=ao ef;clear ef;have ef:=bx;clear bx;cases EH e2;refine⟨P,Y,_,hP,rs,e1,dY λv H1 x1 r1=>⟨b,Aax.1 r1,?_⟩⟩
 cases b with
 |true=>exact qR ⟨P,Y,c,hP.ext x1,rs.ext (cT x1),by simpa using ef,k.mono x1⟩
 |false=>
  have:jO ag=c:=by simpa using ef
  rw[19];exact qP (k.zero x1 (Aax.2 rfl))
def eIf (t:BF)(f g:EF):EF:=λY=>(t Y).bind λb=>if b=af then f Y else g Y
end
abbrev Slot:=Option (Nat×aA)
abbrev aU:=List Slot
def vS (Y:aU):List (Option aA):=Y.map λs=>match s with|some (0,d)=>aa d|_=>ae
def vA (Y:aU):List (Option aA):=Y.map λs=>s.map (·.2)
theorem Ql {Y:aU}(h:(vS Y)[i]?=aa (aa d)):Y[i]?=aa (aa (0,d)):=by
 unfold vS at h;rw[eE] at h;cases e:Y[i]? with
 |none=>rw[e] at h;simp at h
 |some s=>
  rw[e] at h;simp only[xC,GR] at h;cases s with
  |none=>simp at h
  |some q=>
   obtain⟨n,d'⟩:=q;cases n with
   |zero=>simp at h;rw[h]
   |succ n=>simp at h
theorem Nf {Y:aU}(h:(vA Y)[i]?=aa (aa d)):∃ n,Y[i]?=aa (aa (n,d)):=by
 unfold vA at h;rw[eE] at h;cases e:Y[i]? with
 |none=>rw[e] at h;simp at h
 |some s=>
  rw[e] at h;cases s with
  |none=>simp at h
  |some q=>
   obtain⟨n,d'⟩:=q;simp at h;exact⟨n,by rw[h]⟩
abbrev Hd (P0:aC->Prop)(fp:Nat->List aC):aC->Prop:=λa=>P0 a\/∃ i,a∈fp i
structure Sta (K:aJ)(H0:Hp)(P0:aC->Prop)(B0:Hp)(Y:aU)(Z:St)(H:Hp)(fp:Nat->List aC):Prop where
 len:Z.length=Y.length
 nd:∀ i,(fp i).Nodup
 dj:∀ i j a,a∈fp i->a∈fp j->i=j
 own:∀ i a,a∈fp i->H0 a=ae/\((∃ xs,H a=aa (.lst xs))\/∃ q:DQ,H a=aa (dO q))
 ext:Ext H0 H
 hd:Hid P0 H0
 base:Ext B0 (hid H (Hd P0 fp))
 slot:∀ (i:Nat) n d,Y[i]?=aa (aa (n,d))->∃ v,Z[i]?=aa (aa v)/\Aga K (hid H (Hd P0 fp)) H n d v (fp i)
section
variable {Y:aU}
theorem Sta.hid (S:Sta K H0 P0 B0 Y Z H fp):Hid (Hd P0 fp) H:=λa h=>by
 rcases h with h|⟨i,h⟩
 .exact S.hd.ext S.ext a h
 .exact(S.own i a h).2
theorem Sta.np (S:Sta K H0 P0 B0 Y Z H fp)(m:a∈fp i):¬ P0 a:=S.hd.new (S.own i a m).1
theorem Sta.grow (S:Sta K H0 P0 B0 Y Z H fp)(x:Ext H H'):Sta K H0 P0 B0 Y Z H' fp:=by
 refine⟨S.len,S.nd,S.dj,λi a m=>⟨(S.own i a m).1,(S.own i a m).2.imp (λ⟨xs,e⟩=>⟨xs,x _ _ e⟩) λ⟨xs,e⟩=>⟨xs,x _ _ e⟩⟩,S.ext.trans x,S.hd,S.base.trans (cT x),λi n d e=>?_⟩
 obtain⟨v,h1,h2⟩:=S.slot i n d e;refine⟨v,h1,h2.keep (cT x) λa m=>?_⟩
 rcases(S.own i a m).2 with⟨xs,e⟩|⟨xs,e⟩
 .rw[e,x _ _ e]
 .rw[e,x _ _ e]
theorem Sta.viewS (S:Sta K H0 P0 B0 Y Z H fp):Aom K (L2.hid H (Hd P0 fp)) (vS Y) Z:=λi d e=>by
 obtain⟨v,h1,h2⟩:=S.slot i 0 d (Ql e);exact⟨v,h1,h2.2⟩
theorem Sta.viewA (S:Sta K H0 P0 B0 Y Z H fp):Aom K (L2.hid H P0) (vA Y) Z:=λi d e=>by
 obtain⟨n,e⟩:=Nf e;obtain⟨v,h1,h2⟩:=S.slot i n d e;exact⟨v,h1,h2.share (gR λa p=>.inl p) λa m o e=>gM (S.np m) e⟩
def Tmp (K:aJ)(H0:Hp)(P0:aC->Prop)(B0:Hp)(Y:aU)(Z:St)(n:Nat)(d:aA)(v:V)(H:Hp):Prop:=
 ∃ fp,Sta K H0 P0 B0 Y Z H fp/\Aga K (L2.hid H (Hd P0 fp)) H n d v (fp Y.length)
inductive Md|s|a
def eV (n:Nat)(m:Md)(f:EF)(Y:aU):Option aA:=match m with
 |.s=>f (vS Y)
 |.a=>(f (vA Y)).bind λd=>if gE n d=af then aa d else ae
def bV (m:Md)(f:BF)(Y:aU):Option Bool:=match m with
 |.s=>f (vS Y)
 |.a=>f (vA Y)
def aV (m:Md)(f:AF)(Y:aU):Option (List aA):=match m with
 |.s=>f (vS Y)
 |.a=>f (vA Y)
def tE (K:aJ)(H0:Hp)(P0:aC->Prop)(n:Nat)(m:Md)(f:EF):TE:=λZ H Q=>∃ B0 Y fp d,Sta K H0 P0 B0 Y Z H fp/\eV n m f Y=aa d/\∀ v H',Tmp K H0 P0 B0 Y Z n d v H'->Q v H'
end
theorem Sta.trim{Y:aU}(S:Sta K H0 P0 B0 Y Z H fp):∃ bu,Sta K H0 P0 B0 Y Z H bu/\∀ i a,a∈bu i->a∈fp i/\∃ n d,Y[i]?=aa (aa (n,d)):=by
 let bu:Nat->List aC:=λi=>match Y[i]? with
  |some (aa _)=>fp i
  |_=>[]
 have sub:∀ i a,a∈bu i->a∈fp i/\∃ n d,Y[i]?=aa (aa (n,d)):=λi a m=>by
  have m:a∈(match Y[i]? with|some (aa _)=>fp i|_=>[]):=m
  split at m
  .rename_i x e;exact⟨m,x.1,x.2,e⟩
  .simp at m
 have same:∀ i n d,Y[i]?=aa (aa (n,d))->bu i=fp i:=λi n d e=>by
  show(match Y[i]? with|some (aa _)=>fp i|_=>[])=fp i
  rw[e]
 have xb:Ext (L2.hid H (Hd P0 fp)) (L2.hid H (Hd P0 bu)):=gR λa h=>h.imp id λ⟨i,m⟩=>⟨i,(sub i a m).1⟩
 refine⟨bu,⟨S.len,λi=>?_,λi j a h1 h2=>S.dj i j a (sub i a h1).1 (sub j a h2).1,λi a m=>S.own i a (sub i a m).1,S.ext,S.hd,S.base.trans xb,λi n d e=>?_⟩,sub⟩
 .show(match Y[i]? with|some (aa _)=>fp i|_=>[]).Nodup
  split
  .exact S.nd i
  .exact GV
 .obtain⟨v,h1,h2⟩:=S.slot i n d e;rw[same i n d e];exact⟨v,h1,h2.keep xb λa m=>rfl⟩
theorem TB{f:EF}(m:Md):∀ Z H Q,tE K H0 P0 n m f Z H Q->tF K n f Z H Q:=λZ H Q gh=>by
 obtain⟨B0,Y,fp,d,S,ef,k⟩:=gh;cases m with
 |s=>
  refine⟨Hd P0 fp,vS Y,d,S.hid,S.viewS,ef,λv H' Fr x nd fr r=>k v H' ?_⟩
  have S':=S.grow x;have cw:∀ a,Hd P0 (λi=>if i=Y.length then Fr else fp i) a->ki (Hd P0 fp) Fr a:=λa h=>by
   rcases h with h|⟨i,h⟩
   .exact .inl (.inl h)
   .by_cases hi:i=Y.length
    .simp only[hi,if_true] at h;exact .inr h
    .simp only[hi,if_false] at h;exact .inl (.inr ⟨i,h⟩)
  have X8:∀ i a,a∈fp i->a∉Fr:=λi a h1 h2=>by
   have:=(fr a h2).1;rcases(S.own i a h1).2 with⟨xs,e⟩|⟨xs,e⟩<;>rw[this] at e<;>first|cases e|(cases xs<;>simp[dO] at e)
  have xb:Ext (L2.hid H (Hd P0 fp)) (L2.hid H' (Hd P0 λi=>if i=Y.length then Fr else fp i)):=λb o e=>by
   obtain⟨nb,e⟩:=Aco.1 e;refine gM (λq=>?_) (x _ _ e)
   rcases q with q|⟨j,q⟩
   .exact nb (.inl q)
   .rw[22]
    .simp only[hj,if_true] at q;rw[(fr b q).1] at e;cases e
    .simp only[hj,if_false] at q;exact nb (.inr ⟨j,q⟩)
  refine⟨λi=>if i=Y.length then Fr else fp i,⟨S.len,λi=>?_,λi j a hi hj=>?_,λi a hi=>?_,S'.ext,S.hd,S.base.trans xb,λi n' d' e'=>?_⟩,?_⟩
  .by_cases hi:i=Y.length
   .simp only[hi,if_true];exact nd
   .simp only[hi,if_false];exact S.nd i
  .by_cases h1:i=Y.length<;>by_cases h2:j=Y.length
   .rw[h1,h2]
   .simp only[h1,if_true] at hi;simp only[h2,if_false] at hj;exact absurd hi (X8 _ _ hj)
   .simp only[h1,if_false] at hi;simp only[h2,if_true] at hj;exact absurd hj (X8 _ _ hi)
   .simp only[h1,if_false] at hi;simp only[h2,if_false] at hj;exact S.dj i j a hi hj
  .by_cases h1:i=Y.length
   .simp only[h1,if_true] at hi;exact⟨S.ext.none (fr a hi).1,r.mut a hi⟩
   .simp only[h1,if_false] at hi;exact S'.own i a hi
  .have bz:=(cX.1 e').1;have h1:i≠Y.length:=by omega
   obtain⟨v',q1,q2⟩:=S'.slot i n' d' e';refine⟨v',q1,?_⟩;simp only[h1,if_false];obtain⟨v2,p1,p2⟩:=S.slot i n' d' e';have ev:=eO (eO (p1.symm.trans q1));subst ev;refine p2.keep xb λa m=>?_
   rcases(S.own i a m).2 with⟨xs,e⟩|⟨xs,e⟩
   .rw[e,x _ _ e]
   .rw[e,x _ _ e]
  .simp only[if_true];exact r.keep (gR cw) λa m=>rfl
 |a=>
  obtain⟨d',ed,ef⟩:=ao ef;obtain⟨fl,rfl⟩:=cG ef;obtain⟨fp,S,trm⟩:=S.trim;refine⟨P0,vA Y,d',S.hd.ext S.ext,S.viewA,ed,λv H' Fr x nd fr r=>k v H' ?_⟩
  have S':=S.grow x;have X8:∀ i a,a∈fp i->a∉Fr:=λi a h1 h2=>by
   have:=(fr a h2).1;rcases(S.own i a h1).2 with⟨xs,e⟩|⟨xs,e⟩<;>rw[this] at e<;>first|cases e|(cases xs<;>simp[dO] at e)
  have xb:Ext (L2.hid H (Hd P0 fp)) (L2.hid H' (Hd P0 λi=>if i=Y.length then Fr else fp i)):=λb o e=>by
   obtain⟨nb,e⟩:=Aco.1 e;refine gM (λq=>?_) (x _ _ e)
   rcases q with q|⟨j,q⟩
   .exact nb (.inl q)
   .rw[22]
    .simp only[hj,if_true] at q;rw[(fr b q).1] at e;cases e
    .simp only[hj,if_false] at q;exact nb (.inr ⟨j,q⟩)
  refine⟨λi=>if i=Y.length then Fr else fp i,⟨S.len,λi=>?_,λi j a hi hj=>?_,λi a hi=>?_,S'.ext,S.hd,S.base.trans xb,λi n' d' e'=>?_⟩,?_⟩
  .by_cases hi:i=Y.length
   .simp only[hi,if_true];exact nd
   .simp only[hi,if_false];exact S.nd i
  .by_cases h1:i=Y.length<;>by_cases h2:j=Y.length
   .rw[h1,h2]
   .simp only[h1,if_true] at hi;simp only[h2,if_false] at hj;exact absurd hi (X8 _ _ hj)
   .simp only[h1,if_false] at hi;simp only[h2,if_true] at hj;exact absurd hj (X8 _ _ hi)
   .simp only[h1,if_false] at hi;simp only[h2,if_false] at hj;exact S.dj i j a hi hj
  .by_cases h1:i=Y.length
   .simp only[h1,if_true] at hi;exact⟨S.ext.none (fr a hi).1,r.mut a hi⟩
   .simp only[h1,if_false] at hi;exact S'.own i a hi
  .have bz:=(cX.1 e').1;have h1:i≠Y.length:=by omega
   obtain⟨v2,p1,p2⟩:=S.slot i n' d' e';refine⟨v2,p1,?_⟩;simp only[h1,if_false];refine p2.keep xb λa m=>?_
   rcases(S.own i a m).2 with⟨xs,e⟩|⟨xs,e⟩
   .rw[e,x _ _ e]
   .rw[e,x _ _ e]
  .simp only[if_true];refine r.flat (λa xs e=>?_) fl
   obtain⟨na,e⟩:=Aco.1 e;refine gM (λq=>?_) e
   rcases q with q|⟨j,q⟩
   .exact na (.inl q)
   .rw[22]
    .simp only[hj,if_true] at q;exact na (.inr q)
    .simp only[hj,if_false] at q;rcases(S'.own j a q).2 with⟨ys,e2⟩|⟨ys,e2⟩<;>rw[e] at e2<;>first|cases e2|(cases ys<;>simp[dO] at e2)
theorem ev {f:EF}(m:Md)(h:DF n X e f):PE X e (tE X.K H0 P0 n m f):=PE.imp h (TB m)
def tB' (K:aJ)(H0:Hp)(P0:aC->Prop)(m:Md)(f:BF):TT:=λZ H Q=>∃ B0 Y fp b,Sta K H0 P0 B0 Y Z H fp/\bV m f Y=aa b/\∀ H',Sta K H0 P0 B0 Y Z H' fp->Q b H'
theorem evB {f:BF}(m:Md)(h:DT X e f):PT X e (tB' X.K H0 P0 m f):=PT.imp h λZ H Q gh=>by
 obtain⟨B0,Y,fp,b,S,ef,k⟩:=gh;cases m with
 |s=>exact⟨Hd P0 fp,vS Y,b,S.hid,S.viewS,ef,λH' x=>k H' (S.grow x)⟩
 |a=>exact⟨P0,vA Y,b,S.hd.ext S.ext,S.viewA,ef,λH' x=>k H' (S.grow x)⟩
inductive Out where
 |nx (Y:aU)|rt (d:aA)|bk (Y:aU)|ct (Y:aU)
abbrev SF:=aU->Option Out
def SL (K:aJ)(H0:Hp)(P0:aC->Prop)(n0:Nat)(d:aA)(v:V)(H':Hp):Prop:=
 ∃ Fr,Ext H0 H'/\Fr.Nodup/\(∀ a∈Fr,H0 a=ae/\∃ o,H' a=aa o)/\Aga K (hid H' (ki P0 Fr)) H' n0 d v Fr
def UQ (K:aJ)(H0:Hp)(P0:aC->Prop)(B0:Hp)(n0:Nat)(D:Ends):Out->Prop
 |.nx Y=>∀ Z H fp,Sta K H0 P0 B0 Y Z H fp->D.nx Z H
 |.bk Y=>∀ Z H fp,Sta K H0 P0 B0 Y Z H fp->D.bk Z H
 |.ct Y=>∀ Z H fp,Sta K H0 P0 B0 Y Z H fp->D.ct Z H
 |.rt d=>∀ v H',SL K H0 P0 n0 d v H'->D.rt v H'
def tS (K:aJ)(H0:Hp)(P0:aC->Prop)(n0:Nat)(F:SF):TS:=λD Z H=>∃ B0 Y fp o,Sta K H0 P0 B0 Y Z H fp/\F Y=aa o/\UQ K H0 P0 B0 n0 D o
abbrev DS (X:Cx)(H0:Hp)(P0:aC->Prop)(n0:Nat)(s:bS)(F:SF):Prop:=PS X s (tS X.K H0 P0 n0 F)
abbrev vx (X:Cx)(H0:Hp)(P0:aC->Prop)(n0:Nat)(s:List bS)(F:SF):Prop:=PSs X s (tS X.K H0 P0 n0 F)
section
variable {s:bS}{ss:List bS}{F G:SF}{f:EF}
theorem PS.imp {t t':TS}(h:PS X s t)(w:∀ D Z H,t' D Z H->t D Z H):PS X s t':=λah st Z H D I q=>h ah st Z H D I (w _ _ _ q)
theorem PSs.imp {t t':TS}(h:PSs X ss t)(w:∀ D Z H,t' D Z H->t D Z H):PSs X ss t':=λah st Z H D I q=>h ah st Z H D I (w _ _ _ q)
def eQ:SF:=λY=>aa (.nx Y)
def aW (F G:SF):SF:=λY=>(F Y).bind λo=>match o with
 |.nx ρ'=>G ρ'
 |o=>aa o
theorem kL:vx X H0 P0 n0 [] eQ:=PSs.imp Gf λD Z H gh=>by
 rw[8];cases ef;exact k Z H fp S
theorem cS (h:DS X H0 P0 n0 s F):vx X H0 P0 n0 [s] F:=Uh h
theorem cA (h:DS X H0 P0 n0 s F)(h2:vx X H0 P0 n0 ss G):vx X H0 P0 n0 (s::ss) (aW F G):=PSs.imp (Vv h h2) λD Z H gh=>by
 rw[8];obtain⟨o1,e1,ef⟩:=ao ef;refine⟨B0,Y,fp,o1,S,e1,?_⟩;cases o1 with
 |nx ρ1=>exact λσ1 H1 V3 S1=>⟨B0,ρ1,V3,o,S1,ef,k⟩
 |rt d=>cases ef;exact k
 |bk ρ1=>cases ef;exact k
 |ct ρ1=>cases ef;exact k
def iz (m:Md)(t:BF)(F G:SF):SF:=λY=>(bV m t Y).bind λb=>if b=af then F Y else G Y
theorem kH{a b:List bS}{t:BF}(m:Md)(hc:DT X c t)(ha:vx X H0 P0 n0 a F)(hb:vx X H0 P0 n0 b G):DS X H0 P0 n0 (.If c a b pos) (iz m t F G):=
 PS.imp (UN (evB m hc) ha hb) λD Z H gh=>by
  rw[8];obtain⟨b,e1,ef⟩:=ao ef;refine⟨B0,Y,fp,b,S,e1,λH1 S1=>?_⟩
  cases b with
  |true=>exact qR ⟨B0,Y,fp,o,S1,by simpa using ef,k⟩
  |false=>exact qP ⟨B0,Y,fp,o,S1,by simpa using ef,k⟩
def frz (i:Nat)(Y:aU):aU:=match Y[i]? with
 |some (aa (_,d))=>Y.set i (aa (0,d))
 |_=>Y
theorem Sta.frz{Y:aU}(S:Sta K H0 P0 B0 Y Z H fp)(i:Nat):∃ bu,Sta K H0 P0 B0 (L2.frz i Y) Z H bu:=by
 unfold L2.frz;cases e:Y[i]? with
 |none=>exact⟨fp,S⟩
 |some s=>
  cases s with
  |none=>exact⟨fp,S⟩
  |some q=>
   obtain⟨n,d⟩:=q;have hi:=(cX.1 e).1;have cw:∀ a,Hd P0 (λj=>if j=i then [] else fp j) a->Hd P0 fp a:=λa h=>by
    rcases h with h|⟨j,h⟩
    .exact .inl h
    .by_cases hj:j=i
     .simp only[hj,if_true] at h;simp at h
     .simp only[hj,if_false] at h;exact .inr ⟨j,h⟩
   refine⟨λj=>if j=i then [] else fp j,⟨by simp[S.len],λj=>?_,λj k a h1 h2=>?_,λj a h1=>?_,S.ext,S.hd,S.base.trans (gR cw),λj n' d' e'=>?_⟩⟩
   .by_cases hj:j=i
    .simp only[hj,if_true];exact .nil
    .simp only[hj,if_false];exact S.nd j
   .by_cases hj:j=i
    .simp only[hj,if_true] at h1;simp at h1
    .by_cases hk:k=i
     .simp only[hk,if_true] at h2;simp at h2
     .simp only[hj,if_false] at h1;simp only[hk,if_false] at h2;exact S.dj j k a h1 h2
   .by_cases hj:j=i
    .simp only[hj,if_true] at h1;simp at h1
    .simp only[hj,if_false] at h1;exact S.own j a h1
   .by_cases hj:j=i
    .subst hj;rw[qG hi] at e';cases e';obtain⟨v,h1,h2⟩:=S.slot j n d e;refine⟨v,h1,?_⟩;simp only[if_true];refine⟨rfl,h2.share (gR cw) λa m o q=>gM (λz=>?_) q⟩
     rcases z with z|⟨k,z⟩
     .exact S.np m z
     .by_cases hk:k=j
      .simp only[hk,if_true] at z;simp at z
      .simp only[hk,if_false] at z;exact hk (S.dj k j a z m)
    .rw[mJ (λz=>hj z.symm)] at e'
     obtain⟨v,h1,h2⟩:=S.slot j n' d' e';refine⟨v,h1,?_⟩;simp only[hj,if_false];exact h2.keep (gR cw) λa m=>rfl
def mF (i:Nat)(F:SF):SF:=λY=>F (frz i Y)
theorem yV (i:Nat)(h:vx X H0 P0 n0 ss F):vx X H0 P0 n0 ss (mF i F):=PSs.imp h λD Z H ⟨B0,Y,fp,o,S,ef,k⟩=>let ⟨bu,S'⟩:=S.frz i;⟨B0,_,bu,o,S',ef,k⟩
theorem Tmp.set{Y:aU}(t:Tmp K H0 P0 B0 Y Z n d v H)(hi:i<Y.length):∃ fp,Sta K H0 P0 B0 (Y.set i (aa (n,d))) (Z.set i (aa v)) H fp:=by
 obtain⟨fp,S,r⟩:=t;have gg:Y.length≠i:=by omega
 have cw:∀ a,Hd P0 (λj=>if j=i then fp Y.length else if j=Y.length then [] else fp j) a->Hd P0 fp a:=λa h=>by
  rcases h with h|⟨j,h⟩
  .exact .inl h
  .by_cases hj:j=i
   .simp only[hj,if_true] at h;exact .inr ⟨_,h⟩
   .by_cases hk:j=Y.length
    .simp only[hj,if_false,hk,if_true] at h;rw[if_neg gg] at h;simp at h
    .simp only[hj,if_false,hk] at h;exact .inr ⟨j,h⟩
 have src:∀ j a,a∈(if j=i then fp Y.length else if j=Y.length then [] else fp j)->(j=i/\a∈fp Y.length)\/(j≠i/\j≠Y.length/\a∈fp j):=λj a h=>by
  by_cases hj:j=i
  .simp only[hj,if_true] at h;exact .inl ⟨hj,h⟩
  .by_cases hk:j=Y.length
   .rw[if_neg hj,if_pos hk] at h;simp at h
   .rw[if_neg hj,if_neg hk] at h;exact .inr ⟨hj,hk,h⟩
 refine⟨λj=>if j=i then fp Y.length else if j=Y.length then [] else fp j,⟨by simp[S.len],λj=>?_,λj k a h1 h2=>?_,λj a h1=>?_,S.ext,S.hd,S.base.trans (gR cw),λj n' d' e'=>?_⟩⟩
 .by_cases hj:j=i
  .rw[if_pos hj];exact S.nd _
  .by_cases hk:j=Y.length
   .rw[if_neg hj,if_pos hk];exact .nil
   .rw[if_neg hj,if_neg hk];exact S.nd _
 .rcases src j a h1 with⟨e1,m1⟩|⟨e1,l1,m1⟩<;>rcases src k a h2 with⟨e2,m2⟩|⟨e2,l2,m2⟩
  .rw[e1,e2]
  .exact absurd (S.dj _ _ a m2 m1) l2
  .exact absurd (S.dj _ _ a m1 m2) l1
  .exact S.dj j k a m1 m2
 .rcases src j a h1 with⟨e1,m1⟩|⟨e1,l1,m1⟩
  .exact S.own _ a m1
  .exact S.own _ a m1
 .by_cases hj:j=i
  .subst hj;rw[qG hi] at e';cases e';refine⟨v,?_,?_⟩
   .rw[qG (by rw[S.len];exact hi)]
   .rw[if_pos rfl];exact r.keep (gR cw) λa m=>rfl
  .rw[mJ (λz=>hj z.symm)] at e'
   have bz:=(cX.1 e').1;have hk:j≠Y.length:=by omega
   obtain⟨v',h1,h2⟩:=S.slot j n' d' e';refine⟨v',?_,?_⟩
   .rw[mJ (λz=>hj z.symm)];exact h1
   .rw[if_neg hj,if_neg hk];exact h2.keep (gR cw) λa m=>rfl
def bZ (i n:Nat)(m:Md)(f:EF):SF:=λY=>(eV n m f Y).bind λd=>if i<Y.length then aa (.nx (Y.set i (aa (n,d)))) else ae
theorem mU{qj:bQ}(n:Nat)(m:Md)(hN:X.N.Nodup)(hi:X.N[i]?=aa x)(hx:jR X.env.scope x)(he:DF n X e f)(hs:kP e (aa (.Name x qj)) pos.line X.env=pure ag:=by rfl)(hf:X.fn x=af\/X.env.scope.names.lookup x=aa .local:=by first|exact .inl rfl|exact .inr rfl|assumption) :
  DS X H0 P0 n0 (.Assign [.Name x qj] e pos) (bZ i n m f):=PS.imp (OX hN hi hx (ev m he) hs hf) λD Z H gh=>by
 rw[8];rw[17];obtain⟨hl,rfl⟩:=cG ef;refine⟨B0,Y,fp,d,S,e1,λv H' t=>?_⟩
 obtain⟨bu,S'⟩:=t.set hl;exact k _ _ bu S'
theorem Tmp.ret{Y:aU}(t:Tmp K H0 P0 B0 Y Z n d v H):SL K H0 P0 n d v H:=by
 obtain⟨fp,S,r⟩:=t;refine⟨fp Y.length,S.ext,S.nd _,λa m=>⟨(S.own _ a m).1,?_⟩,r.keep (gR λa h=>?_) λa m=>rfl⟩
 .rcases(S.own _ a m).2 with⟨xs,e⟩|⟨xs,e⟩
  .exact⟨_,e⟩
  .exact⟨_,e⟩
 .rcases h with h|h
  .exact .inl h
  .exact .inr ⟨_,h⟩
def cE (n:Nat)(m:Md)(f:EF):SF:=λY=>(eV n m f Y).bind λd=>aa (.rt d)
theorem jV (m:Md)(he:DF n0 X e f):DS X H0 P0 n0 (.Return (aa e) pos) (cE n0 m f):=PS.imp (CJ (ev m he)) λD Z H gh=>by
 rw[8];rw[17];cases ef;exact⟨B0,Y,fp,d,S,e1,λv H' t=>k v H' t.ret⟩
def jJ (i n0:Nat):SF:=λY=>match Y[i]? with
 |some (aa (n,d))=>if n=n0 then aa (.rt d) else ae
 |_=>ae
theorem vD (i:Nat)(hN:X.N[i]?=aa x:=by rfl)(hv:iP X.env.scope x:=by first|exact cF rfl|exact bY (cF rfl)|exact bY (bY rfl))(hd:(x==("__debug__" : aE))=ag:=by decide)
  (fj:(x==("__classdict__" : aE))=ag:=by decide):DS X H0 P0 n0 (.Return (aa (.Name x p)) pos) (jJ i n0):=PS.imp (CJ (jL hN hv hd fj)) λD Z H gh=>by
 rw[8];unfold jJ at ef;cases e:Y[i]? with
 |none=>rw[e] at ef;simp at ef
 |some q=>
  cases q with
  |none=>rw[e] at ef;simp at ef
  |some q=>
   obtain⟨n,d⟩:=q;rw[e] at ef;obtain⟨rfl,rfl⟩:=cG ef;obtain⟨v,h1,h2⟩:=S.slot i n d e;refine⟨v,h1,k v H ⟨fp i,S.ext,S.nd i,λa m=>⟨(S.own i a m).1,?_⟩,h2.keep (gR λa h=>?_) λa m=>rfl⟩⟩
   .rcases(S.own i a m).2 with⟨xs,e⟩|⟨xs,e⟩
    .exact⟨_,e⟩
    .exact⟨_,e⟩
   .rcases h with h|h
    .exact .inl h
    .exact .inr ⟨_,h⟩
def sF (m:Md)(f:EF):SF:=λY=>(eV 0 m f Y).bind λ_=>aa (.nx Y)
theorem JD (m:Md)(he:DE X e f)(hs:kP e ae pos.line X.env=pure ag:=by rfl):DS X H0 P0 n0 (.Expr e pos) (sF m f):=PS.imp (JP (ev m he) hs) λD Z H gh=>by
 rw[8];rw[17];cases ef;refine⟨B0,Y,fp,d,S,e1,λv H' ⟨bu,S',r⟩=>k _ _ bu S'⟩
end
theorem Ze:Acy X (.builtin "isinstance") (λxs H Q=>∃ x T t b,xs=[x,.ty T]/\TyOf X.K H x t/\Ij X.K t (.type T)=aa b/\Q (.bl b) H):=by
 rw[5];obtain⟨x,T,t,b,rfl,ty,e,q⟩:=h;obtain⟨u,w',rfl,ru,ql⟩:=vals2 r;cases ql;exact F4 I ru ty e λtk=>⟨.bl b,H,I.tok tk,rfl,q⟩
def BY (x:aE):It:=⟨λi _=>i<x.cps.size,λi H v H'=>H'=H/\∃ c,x.cps[i]?=aa c/\v=.str ⟨#[c]⟩,λi _=>x.cps.size<=i⟩
theorem Aa {P:bG}{it:aC}{tk0:Tok}{ty:String}
  (W:∀ A':bW,A'.handled=ae->Walks P w A' it [it] [it] x.cps.size (SignAt x) (λi h=>h.IsStrIter it ty x tk0 i))
  (sf:∀ (A:bW) (i:Nat) (s:aH) (Q:aD->aH->Prop) (E:aD->aH->Prop),s.heap.IsStrIter it ty x tk0 i->Q (.ref it) s->aM (aO P w) A (nH (.ref it)) Q E s)
  (uf:["enumerate","zip","dict_itemiterator","dict_reverseitemiterator","odict_iterator","itertools.zip_longest","itertools.pairwise"].contains ty=ag) :
  Turn P w K tg (BY x) [it] it (λi h=>h.IsStrIter it ty x tk0 i/\i<=x.cps.size) where
 mem:=by simp
 obj:=λi h st b hb=>by
  have e:b=it:=by simpa using hb
  subst e;obtain⟨o,e,_,d⟩:=st.1;exact⟨o,e,λv z=>by rw[d] at z;cases z⟩
 keep:=λi h h' st k=>⟨let ⟨o,e,r⟩:=st.1;⟨o,k it (by simp) o e,r⟩,st.2⟩
 item:=by
  rw[3];rw[15];refine(W X.A (I.ok.hd hc)).item i s _ _ hg st.1 λv h' tk hv ni kk=>?_
  obtain⟨c,u,hcx,rfl⟩:=hv;have I1:Inv X ah Z H { s with heap:=h',toks:=tk }:=I.turned (λb o hb e=>kk b o (by simpa using hb) e) f0 f1 f3 f4 f5
  obtain⟨o,e,hcl,d⟩:=id ni;exact⟨_,rfl,AO (s:={ s with heap:=h',toks:=tk }) e hcl d uf ⟨.str ⟨#[c]⟩,H,I1,⟨u,rfl⟩,⟨rfl,c,hcx,rfl⟩,⟨ni,hg⟩,λb hb=>(hf b hb).1⟩⟩
 done:=by
  rw[3];rw[15];have hi:i=x.cps.size:=Nat.le_antisymm st.2 hg;subst hi;exact(W X.A (I.ok.hd hc)).done s _ _ st.1 λh' tk kk=>⟨rfl,I.turned (λb o hb e=>kk b o (by simpa using hb) e) f0 f1 f3 f4 f5⟩
 self:=λA i s Q E st h=>sf A i s Q E st.1 h
def Lm (tl:TE):TI:=λZ H R=>tl Z H λv H1=>∃ x,v=.str x/\R (BY x) H1
theorem Qi {X:Cx}{l:aR}{tl:TE}(hl:PE X l tl):PI X tg l (Lm tl):=by
 intro ah s Z H R I h;refine bf (hl ah s Z H _ I h) λv s1 gh=>?_
 obtain⟨y,H1,I1,r1,q1⟩:=gh;obtain⟨x,rfl,q⟩:=q1;obtain⟨t,rfl⟩:=r1;have fin:∀ (o:bB) (ty:String),Turn X.prog X.w X.K tg (BY x) [s1.heap.objs.size] s1.heap.objs.size (λi h=>h.IsStrIter s1.heap.objs.size ty x t i/\i<=x.cps.size)->(s1.heap.push o).IsStrIter s1.heap.objs.size ty x t 0 ->
   PIE X ah Z tg R (.ref s1.heap.objs.size) { s1 with heap:=s1.heap.push o }:=λo ty T st=>by
  refine⟨s1.heap.objs.size,[s1.heap.objs.size],_,_,H1,rfl,I1.kept λb o e=>bT _ e,T,⟨st,eD _⟩,λb hb=>?_,q⟩
  have e:b=s1.heap.objs.size:=by simpa using hb
  subst e;exact I1.fpOk (bD _) (I1.hok.fresh (bD _))
 cases ha:x.cps.all (· < 128)
 .exact wpAny_pyIter_wide ha (fin _ "str_iterator" (Aa (λA' hA=>Walks.strWide hA _ x t) (λA i s Q E st h=>wpAny_pyIter_striter_wide st h) (by decide)) ⟨_,cV _ rfl,rfl,rfl⟩)
 .exact wpAny_pyIter_ascii ha (fin _ "str_ascii_iterator" (Aa (λA' hA=>Walks.strAscii hA _ x t) (λA i s Q E st h=>wpAny_pyIter_striter_ascii st h) (by decide)) ⟨_,cV _ rfl,rfl,rfl⟩)
def allB (xs:List V):Bool:=xs.all λv=>decide (v=.bl af)
theorem C2 (hc:X.calm=af):Acy X (.builtin "all") (λxs H Q=>∃ p ys,xs=[.ref p]/\SqL X.K H p ys/\(∀ y∈ys,∃ b,y=.bl b)/\Q (.bl (allB ys)) H):=by
 rw[5];obtain⟨p,ys,rfl,hs,hb,q⟩:=h;rw[7];obtain⟨its,rv,pl,hz⟩:=I.list hs;have hl:=pl.isList;have bz:p<s.heap.objs.size:=by obtain⟨o,n,e,_⟩:=pl;exact bU e
 have hh:=I.ok.hd hc;have len:=rv.length;refine call_all_walk (GE hl ⟨s.heap.objs.size,_,_,_,_,_,λi=>decide (ys[i]?=aa (.bl af)),rfl,Walks.list (A:=X.A.in1) hh s.heap.objs.size p (cQ bz) its.toArray,
  ⟨⟨_,cV _ rfl,rfl,rfl⟩,hl.at λo e=>bT _ e⟩,?_,?_⟩)
 .intro i v s' Q' E' hv hq;have V4:its[i]?=aa v:=by simpa using hv
  have hi:i<ys.length:=by rw[len];exact(cX.1 V4).1
  obtain⟨b,hy⟩:=hb ys[i] (lQ hi);have sr:ys[i]?=aa (.bl b):=by rw[fO hi,hy]
  obtain⟨u',h1,h2⟩:=rv.get sr;rw[V4] at h1;cases h1;cases h2;refine PN ?_;have:decide (ys[i]?=aa (V.bl af))=b:=by rw[sr];cases b<;>simp
  have hq:Q' (decide (ys[i]?=aa (V.bl af))) s':=hq;rw[this] at hq;exact hq
 .intro h' tk hk;have e:((cK its.toArray.size).all λi=>decide (ys[i]?=aa (V.bl af)))=allB ys:=by
   have hn:its.toArray.size=ys.length:=by simp[len]
   rw[hn];unfold allB;rw[lV];simp only[dW,gW,decide_eq_true_eq];rw[23]
   .intro h v hv;obtain⟨i,hi,rfl⟩:=rS hv;have:=h i hi;rw[fO hi] at this;exact eO this
   .intro h i hi;rw[fO hi,h _ (lQ hi)]
  rw[e];refine⟨.bl (allB ys),H,?_,rfl,q⟩;exact I.kept λb o eb=>hk b o (by simp;exact cQ (bU eb)) (bT _ eb)
structure Def (P:bG)(w:aX)(K:aJ)(mg:aE->Option aD)(base:aQ)(x:aE)(k:Nat)(ps:List aE)(sp:Sp):Prop where
 ex:∃ f fd,FnOk P w K mg base cb k f fd ps sp/\mg x=aa (.ref f)/\uC K (.ref f)=af/\Binds K fd ps []
section
variable {k:Nat}{t:TA}
theorem Py (D:Def X.prog X.w X.K X.mg X.base x k ps sp)(hr:Room k X.A)(hg:Gl X x)(ha:PA X (e::es) t)(we:(x==("__debug__" : aE))=ag:=by decide)(he:bJ (e::es) X.env=(ag,bK e X.env)::bJ es X.env:=by rfl)
  (iw:(fY pos (bJ es X.env)).any (·.1)=ag:=by rfl):PE X (.Call (.Name x p) (e::es) [] pos) (UM sp [] E0 t):=by
 obtain⟨f,fd,F,hm,hk,hb⟩:=D.ex;exact Uq F hr hg hm hk hb .nil Ni ha we he iw
end
def HZ (a b:String):Option Bool:=if (jM a==jM b)=af then aa af else if PySem.W.kitMeta b=af then(fastBuiltinMro a).map (·.contains (.type b)) else ae
theorem Amz{a b:String}:Ij K (.type a) (.type b)=HZ a b:=rfl
def kinds:List String:=["NoneType","bool","int","str","list","tuple","dict"]
def wy (t T:String):Bool:=t==T||(t == "bool" && T == "int")
theorem Wu:(kinds.all λt=>["int","bool","str","list","tuple","dict"].all λT=>decide (HZ t T=aa (wy t T)))=af:=by rw[0]
theorem Ta {t:String}(ht:t∈kinds)(hT:T∈["int","bool","str","list","tuple","dict"]):HZ t T=aa (wy t T):=by
 have h:=dW.1 Wu t ht;have h:=dW.1 h T hT;exact of_decide_eq_true h
def Kd (K:aJ)(H:Hp)(x:V)(t:String):Prop:=TyOf K H x (.type t)/\t∈kinds
theorem Kd.int{x:V}(h:Kd K H x "int"):∃ i,x=.int i:=by
 obtain⟨h,_⟩:=h;generalize e:jM "int" = t at h;cases h<;>first|exact⟨_,rfl⟩|exact absurd (Value.type.inj e) (by decide)|cases e
theorem Kd.str{x:V}(h:Kd K H x "str"):∃ i,x=.str i:=by
 obtain⟨h,_⟩:=h;generalize e:jM "str" = t at h;cases h<;>first|exact⟨_,rfl⟩|exact absurd (Value.type.inj e) (by decide)|cases e
theorem Mg(hg:Gl X x)(hm:X.mg x=ae)(hv:nK x=aa (.type T))(hn:x ≠ "__name__":=by decide)(hd:(x==("__debug__" : aE))=ag:=by decide):PE X (.Name x pos) (tC (.ty T)):=
 Tp hg hm hv rfl hn hd
theorem boot_isinstance:nK "isinstance" = aa (.builtin "isinstance"):=by rw[0]
theorem boot_all:nK "all" = aa (.builtin "all"):=by rw[0]
theorem bits_le {i:Int}(h:i.natAbs<2^n):mM i<=n:=by
 unfold mM;split
 .exact eD _
 .rename_i gg;have h0:i.natAbs≠0:=by
   intro z;apply gg;simp[Int.natAbs_eq_zero.1 z]
  have:=(Nat.log2_lt h0).2 h;omega
theorem Rr:OpR X (kR .Mult) (rI (λi j=>i.natAbs<2^1000/\j.natAbs<2^1000) λi j=>.int (i*j)):=W2 λi j _ _ _ _ _ hc q=>
 mul_int q (O4 (bits_le hc.1) (bits_le hc.2) (by decide))
theorem dG{k:Nat}(hr:Room k A):A.units+100<cLine:=by
 have:=hr.un;omega
theorem NO:∀ {xs:List V} {us:List aD},xs.length=us.length->(∀ (j:Nat) x u,xs[j]?=aa x->us[j]?=aa u->RelV x u)->Vals xs us
 |[],[],_,_=>.nil
 |[],_::_,h,_=>by simp at h
 |_::_,[],h,_=>by simp at h
 |x::xs,u::us,h,r=>.cons (r 0 x u rfl rfl) (NO (by simpa using h) λj y w h1 h2=>r (j+1) y w (by simpa using h1) (by simpa using h2))
def sQ (c:Nat):V:=.str ⟨#[c]⟩
theorem K5 (hc:X.calm=af):Acy X (.type "list") (λxs H Q=>∃ z:aE,xs=[.str z]/\z.length<=sizeLine/\∀ l,H l=ae->Q (.ref l) (au H l (.lst (z.cps.toList.map sQ)))):=by
 rw[5];obtain⟨z,rfl,hz,q⟩:=h;obtain⟨u,rfl,t,rfl⟩:=vals1 r;refine call_list_str (I.ok.hd hc) z t (λh' tk cy c' hk hS gm=>?_) hz
 have hv:Vals (z.cps.toList.map sQ) cy.toList:=by
  refine NO (by simp[gm.1]) λj x u h1 h2=>?_
  obtain⟨c,t',qd,rfl⟩:=gm.2 j u (by simpa using h2)
  have:(z.cps.toList.map sQ)[j]?=aa (sQ c):=by simp[qd]
  rw[this] at h1;cases h1;exact⟨t',rfl⟩
 exact⟨.ref s.heap.objs.size,_,I.laid hk (bD _) (show Ab8 X.prog X.w _ h' _ (.lst (z.cps.toList.map sQ)) from⟨by rw[cD,fC];exact hz,cy.toList,c',hv,by simpa using hS⟩),rfl,q _ I.fresh⟩
def xc (K:aJ)(B:Hp)(J:It)(ds:List aA):Prop:=∀ (i:Nat) (H2:Hp),Ext B H2 ->
 (∀ d,ds[i]?=aa d->J.go i H2/\∀ x H3,J.yld i H2 x H3->Ext H2 H3/\∀ P2,Hid P2 H2->Ext B (hid H2 P2)->Abg K (hid H3 P2) d x)/\(ds.length=i->J.stop i H2)
def tI (K:aJ)(f:AF):TI:=λZ H R=>∃ P Y ds,Hid P H/\Aom K (hid H P) Y Z/\f Y=aa ds/\∀ J H',Ext H H'->xc K (hid H' P) J ds->R J H'
def tI0 (K:aJ)(f:AF):TI:=λZ H R=>∃ P Y ds,Hid P H/\Aom K (hid H P) Y Z/\f Y=aa ds/\∀ J H',Ext H H'->xc K (λ_=>ae) J ds->R J H'
abbrev DI (X:Cx)(tg e:aR)(f:AF):Prop:=PI X tg e (tI X.K f)
abbrev DI0 (X:Cx)(tg e:aR)(f:AF):Prop:=PI X tg e (tI0 X.K f)
def itemsOf:aA->Option (List aA)
 |.list ds=>aa ds
 |.tuple ds=>aa ds
 |.str x=>aa (x.cps.toList.map λc=>.str ⟨#[c]⟩)
 |_=>ae
def bj (f:EF):AF:=λY=>(f Y).bind itemsOf
section
variable {a:aR}
theorem PI.imp {t t':TI}(h:PI X tg e t)(w:∀ Z H R,t' Z H R->t Z H R):PI X tg e t':=λah s Z H R I q=>h ah s Z H R I (w _ _ _ q)
theorem PI.or {t t':TI}(h:PI X tg e t)(h':PI X tg e t'):PI X tg e (λZ H R=>t Z H R\/t' Z H R):=λah s Z H R I q=>q.elim (h ah s Z H R I) (h' ah s Z H R I)
theorem Ws{a:aC}(h:SqL K B a xs)(r:Aao K B ds xs):xc K B (HM K a) ds:=λi H2 x2=>by
 have h2:=x2.sqL h;refine⟨λd hd=>?_,λe=>⟨xs,h2,by rw[r.length];omega⟩⟩
 obtain⟨v,h3,h4⟩:=r.get hd;refine⟨⟨xs,v,h2,h3⟩,?_⟩;rintro x H3 ⟨rfl,hx⟩;have:=h3.symm.trans (hx xs h2);cases this;exact⟨Ext.refl,λP2 _ xb=>h4.ext xb⟩
theorem Rw{a:aC}(h:B a=aa (.tup xs))(r:Aao K B ds xs):xc K B (HK K a) ds:=λi H2 x2=>by
 have h2:SqT K H2 a xs:=SqT.of (x2 _ _ h);refine⟨λd hd=>?_,λe=>⟨xs,h2,by rw[r.length];omega⟩⟩
 obtain⟨v,h3,h4⟩:=r.get hd;refine⟨⟨xs,v,h2,h3⟩,?_⟩;rintro x H3 ⟨rfl,hx⟩;have:aa v=aa x:=h3.symm.trans (hx xs h2);cases this;exact⟨Ext.refl,λP2 _ xb=>h4.ext xb⟩
theorem LG {z:aE}{c:Nat}(h:cM (.str z)=af)(hc:z.cps.toList[i]?=aa c):cM (.str ⟨#[c]⟩)=af:=by
 have hz:∀ d∈z.cps,d<0x110000:=by
  have h':z.cps.all (· < 0x110000)=af:=by simpa only[cM,QP] using h
  intro d hd;exact of_decide_eq_true (Array.all_eq_true'.1 h' d hd)
 have:=hz c (by simpa using eU hc)
 simp[cM,QP,this]
theorem Rk{z:aE}(hl:cM (.str z)=af):xc K B (BY z) (z.cps.toList.map λc=>.str ⟨#[c]⟩):=λi H2 x2=>by
 refine⟨λd hd=>?_,λe=>?_⟩
 .rw[eE] at hd;cases hc:z.cps.toList[i]? with
  |none=>rw[hc] at hd;simp at hd
  |some c=>
   rw[hc] at hd;have hd:dP ⟨#[c]⟩=d:=by simpa using hd
   subst hd;have bz:i<z.cps.size:=by simpa using(cX.1 hc).1
   refine⟨bz,?_⟩;rintro x H3 ⟨rfl,c',ji,rfl⟩;have:z.cps.toList[i]?=aa c':=by simpa using ji
   rw[hc] at this;cases this;exact⟨Ext.refl,λP2 _ _=>Aa3.2 ⟨rfl,LG hl hc⟩⟩
 .have:z.cps.size=i:=by simpa using e
  exact Nat.le_of_eq this
theorem ZP{lo:Int}:xc K B (xV lo n) ((cK n).map λ(k:Nat)=>aT (lo+k)):=λi H2 x2=>by
 refine⟨λd hd=>?_,λe=>?_⟩
 .have bz:i<n:=by
   have:=(cX.1 hd).1;simpa using this
  have tp:aT (lo+i)=d:=by
   rw[eE,List.getElem?_range bz] at hd;simpa using hd
  subst tp;refine⟨bz,?_⟩;rintro x H3 ⟨rfl,rfl⟩;exact⟨Ext.refl,λP2 _ _=>Aaj.2 rfl⟩
 .have:n=i:=by simpa using e
  exact Nat.le_of_eq this
theorem iX {f:EF}(h:DE X e f):DI X tg e (bj f):=PI.imp (PI.or (Se h) (PI.or (Nw h) (Qi h))) λZ H R gh=>by
 obtain⟨P,Y,ds,hP,rs,ef,k⟩:=gh;rw[17];cases d with
 |list wP=>
  have:wP=ds:=by simpa [itemsOf] using ef
  rw[19];refine .inl ⟨P,Y,_,hP,rs,e1,dY λv H1 x1 r1=>?_⟩
  obtain⟨a,xs,rfl,hr,rr⟩:=Aa6.1 r1;exact⟨a,rfl,⟨xs,Aap.sqL hr⟩,k _ H1 x1 (Ws hr rr)⟩
 |tuple wP=>
  have:wP=ds:=by simpa [itemsOf] using ef
  rw[19];refine .inr (.inl ⟨P,Y,_,hP,rs,e1,dY λv H1 x1 r1=>?_⟩)
  obtain⟨a,xs,rfl,hr,rr⟩:=Aar.1 r1;exact⟨a,rfl,⟨xs,SqT.of (Aap _ _ hr)⟩,k _ H1 x1 (Rw hr rr)⟩
 |str z=>
  have:z.cps.toList.map (λc=>dP ⟨#[c]⟩)=ds:=by simpa [itemsOf] using ef
  rw[19];refine .inr (.inr ⟨P,Y,_,hP,rs,e1,dY λv H1 x1 r1=>?_⟩)
  exact⟨z,(Aa3.1 r1).1,k _ H1 x1 (Rk (Aa3.1 r1).2)⟩
 |_=>simp[itemsOf] at ef
def uS (lo hi:Int):Option (List aA):=if -(2^62)<=lo/\lo<2^62 /\ -(2^62)<=hi/\hi<2^62 then aa ((cK (hi-lo).toNat).map λ(k:Nat)=>aT (lo+k)) else ae
def wc (fa:AF):AF:=λY=>(fa Y).bind λds=>match ds with
 |[.int j]=>uS 0 j
 |_=>ae
def iR2 (fa:AF):AF:=λY=>(fa Y).bind λds=>match ds with
 |[.int i,.int j]=>uS i j
 |_=>ae
theorem Be {fa:AF}(hg:Gl X "range")(hm:X.mg "range" = ae)(ha:DA X [a] fa)(hs:bJ [a] X.env=[(ag,bK a X.env)]:=by rfl):DI0 X tg (.Call (.Name "range" p) [a] [] pos) (wc fa):=PI.imp (A7 hg hm ha hs) λZ H R gh=>by
 obtain⟨P,Y,ds,hP,rs,ef,k⟩:=gh;obtain⟨as,e1,ef⟩:=ao ef;refine⟨P,Y,as,hP,rs,e1,λvs H1 x1 r1=>?_⟩
 split at ef
 .rename_i j;obtain⟨hb,rfl⟩:=cG ef;obtain⟨v,t,rfl,h1,h2⟩:=Aaf.1 r1;obtain rfl:=Aak.1 h2;obtain rfl:=Aaj.1 h1;have e0:(j-0).toNat=j.toNat:=by simp
  refine⟨j,rfl,hb.2.2.1,hb.2.2.2,k _ H1 x1 ?_⟩;rw[e0];exact ZP
 .cases ef
theorem A5 {fa:AF}(hg:Gl X "range")(hm:X.mg "range" = ae)(ha:DA X [a,b] fa)(hs:bJ [a,b] X.env=[(ag,bK a X.env),(ag,bK b X.env)]:=by rfl)(jz:bJ [b] X.env=[(ag,bK b X.env)]:=by rfl):DI0 X tg (.Call (.Name "range" p) [a,b] [] pos) (iR2 fa):=PI.imp (y9 hg hm ha hs jz) λZ H R gh=>by
 obtain⟨P,Y,ds,hP,rs,ef,k⟩:=gh;obtain⟨as,e1,ef⟩:=ao ef;refine⟨P,Y,as,hP,rs,e1,λvs H1 x1 r1=>?_⟩
 split at ef
 .rename_i i j;obtain⟨hb,rfl⟩:=cG ef;obtain⟨v,t,rfl,h1,h2⟩:=Aaf.1 r1;obtain⟨v2,t2,rfl,h3,h4⟩:=Aaf.1 h2;obtain rfl:=Aak.1 h4;obtain rfl:=Aaj.1 h1;obtain rfl:=Aaj.1 h3;exact⟨i,j,rfl,hb,k _ H1 x1 ZP⟩
 .cases ef
def tI' (K:aJ)(H0:Hp)(P0:aC->Prop)(m:Md)(f:AF):TI:=λZ H R=>∃ B0 Y fp ds,Sta K H0 P0 B0 Y Z H fp/\aV m f Y=aa ds/\∀ J B1 H',Sta K H0 P0 B1 Y Z H' fp->Ext B0 B1->xc K B1 J ds->R J H'
theorem Sta.rebase{B1:Hp}{Y:aU}(S:Sta K H0 P0 B0 Y Z H fp)(b:Ext B1 (L2.hid H (Hd P0 fp))):Sta K H0 P0 B1 Y Z H fp:=⟨S.len,S.nd,S.dj,S.own,S.ext,S.hd,b,S.slot⟩
theorem evI {f:AF}(h:DI X tg e f):PI X tg e (tI' X.K H0 P0 .s f):=PI.imp h λZ H R ⟨B0,Y,fp,ds,S,ef,k⟩=>
 ⟨Hd P0 fp,vS Y,ds,S.hid,S.viewS,ef,λJ H' x it=>k J _ H' ((S.grow x).rebase Ext.refl) (S.grow x).base it⟩
theorem Lh {f:AF}(m:Md)(h:DI0 X tg e f):PI X tg e (tI' X.K H0 P0 m f):=PI.imp h λZ H R gh=>by
 obtain⟨B0,Y,fp,ds,S,ef,k⟩:=gh;have up:∀ {J:It} {B:Hp},xc X.K (λ_=>ae) J ds->xc X.K B J ds:=λ{J B} it i H2 x2=>by
  obtain⟨h1,h2⟩:=it i H2 (λ_ _ e=>by cases e)
  exact⟨λd hd=>⟨(h1 d hd).1,λv H3 y=>⟨((h1 d hd).2 v H3 y).1,λP2 hp _=>((h1 d hd).2 v H3 y).2 P2 hp λ_ _ e=>by cases e⟩⟩,h2⟩
 cases m with
 |s=>exact⟨Hd P0 fp,vS Y,ds,S.hid,S.viewS,ef,λJ H' x it=>k J _ H' (S.grow x) Ext.refl (up it)⟩
 |a=>exact⟨P0,vA Y,ds,S.hd.ext S.ext,S.viewA,ef,λJ H' x it=>k J _ H' (S.grow x) Ext.refl (up it)⟩
end
def tG (K:aJ)(H0:Hp)(P0:aC->Prop)(T:aA->aU->Option aU):TG:=λv Z H Q=>∃ B0 Y fp d ρ',Sta K H0 P0 B0 Y Z H fp/\Abg K (hid H (Hd P0 fp)) d v/\T d Y=aa ρ'/\∀ σ' bu,Sta K H0 P0 B0 ρ' σ' H bu->Q σ' H
abbrev DG (X:Cx)(H0:Hp)(P0:aC->Prop)(tg:aR)(T:aA->aU->Option aU):Prop:=PG X tg (tG X.K H0 P0 T)
theorem PG.imp{t t':TG}(h:PG X tg t)(w:∀ v Z H Q,t' v Z H Q->t v Z H Q):PG X tg t':=λah s Z H v u Q I r q=>h ah s Z H v u Q I r (w _ _ _ _ q)
theorem Sta.An5{Y:aU}(S:Sta K H0 P0 B0 Y Z H fp)(r:Abg K (L2.hid H (Hd P0 fp)) d v)(hi:i<Y.length):∃ bu,Sta K H0 P0 B0 (Y.set i (aa (0,d))) (Z.set i (aa v)) H bu:=by
 have cw:∀ a,Hd P0 (λj=>if j=Y.length then [] else fp j) a->Hd P0 fp a:=λa h=>by
  rcases h with h|⟨j,h⟩
  .exact .inl h
  .rw[22]
   .simp only[hj,if_true] at h;simp at h
   .simp only[hj,if_false] at h;exact .inr ⟨j,h⟩
 have S2:Sta K H0 P0 B0 Y Z H (λj=>if j=Y.length then [] else fp j):=by
  refine⟨S.len,λj=>?_,λj k a h1 h2=>?_,λj a h1=>?_,S.ext,S.hd,S.base.trans (gR cw),λj n d e=>?_⟩
  .rw[22]
   .simp only[hj,if_true];exact .nil
   .simp only[hj,if_false];exact S.nd j
  .rw[22]
   .simp only[hj,if_true] at h1;simp at h1
   .by_cases hk:k=Y.length
    .simp only[hk,if_true] at h2;simp at h2
    .simp only[hj,if_false] at h1;simp only[hk,if_false] at h2;exact S.dj j k a h1 h2
  .rw[22]
   .simp only[hj,if_true] at h1;simp at h1
   .simp only[hj,if_false] at h1;exact S.own j a h1
  .have bz:=(cX.1 e).1;have hj:j≠Y.length:=by omega
   obtain⟨v',h1,h2⟩:=S.slot j n d e;refine⟨v',h1,?_⟩;simp only[hj,if_false];exact h2.keep (gR cw) λa m=>rfl
 refine Tmp.set ⟨_,S2,?_⟩ hi;simp only[if_true];exact⟨rfl,r.ext (gR cw)⟩
def jv (i:Nat):aA->aU->Option aU:=λd Y=>if i<Y.length then aa (Y.set i (aa (0,d))) else ae
theorem Rm(hN:X.N.Nodup)(hi:X.N[i]?=aa x)(hx:jR X.env.scope x)(hf:X.fn x=af\/X.env.scope.names.lookup x=aa .local:=by first|exact .inl rfl|exact .inr rfl|assumption):DG X H0 P0 (.Name x pos) (jv i):=
 PG.imp (vH hN hi hx hf) λv Z H Q gh=>by
  obtain⟨B0,Y,fp,d,ρ',S,r,ef,k⟩:=gh;obtain⟨hl,rfl⟩:=cG ef;obtain⟨bu,S'⟩:=S.An5 r hl;exact k _ bu S'
def qS (i j:Nat):aA->aU->Option aU:=λd Y=>match d with
 |.tuple [a,b]=>(jv i a Y).bind λρ'=>jv j b ρ'
 |_=>ae
theorem Vk{p1:bQ}{k}(hc:X.calm=af)(hN:X.N.Nodup)(hi:X.N[i]?=aa x)(hj:X.N[j]?=aa y)(hx:jR X.env.scope x)(hy:jR X.env.scope y)
  (hf:X.fn x=af\/X.env.scope.names.lookup x=aa .local:=by first|exact .inl rfl|exact .inr rfl|assumption) (hf2:X.fn y=af\/X.env.scope.names.lookup y=aa .local:=by first|exact .inl rfl|exact .inr rfl|assumption)
  (hn:(iM [.Name x p1,.Name y p2] X.env).length=2:=by rfl) (jy:(iM [.Name x p1,.Name y p2] X.env).findIdx? (·.1)=ae:=by rfl)
  (h1:(iM [.Name x p1,.Name y p2] X.env).map (·.2)=lH (.Name x p1) X.env::(iM [.Name y p2] X.env).map (·.2):=by rfl) (h2:(iM [.Name y p2] X.env).map (·.2)=lH (.Name y p2) X.env::(iM [] X.env).map (·.2):=by rfl):DG X H0 P0 (.Tuple [.Name x p1,.Name y p2] k pos) (qS i j):=
 PG.imp (WC hc (EL (vH hN hi hx hf) (EL (vH hN hj hy hf2) Gs h2) h1) hn jy) λv Z H Q gh=>by
  obtain⟨B0,Y,fp,d,ρ',S,r,ef,k⟩:=gh;unfold qS at ef;split at ef
  .rename_i a b;obtain⟨ρ1,e1,e2⟩:=ao ef;obtain⟨l1,rfl⟩:=cG e1;obtain⟨l2,rfl⟩:=cG e2;obtain⟨p,xs,rfl,hp,rr⟩:=Aar.1 r;obtain⟨v1,t1,rfl,r1,rr⟩:=Aaf.1 rr;obtain⟨v2,t2,rfl,r2,rr⟩:=Aaf.1 rr;obtain rfl:=Aak.1 rr;refine⟨p,_,rfl,SqT.of (Aap _ _ hp),rfl,v1,_,rfl,v2,_,rfl,rfl,?_⟩;have Sb:=S.rebase Ext.refl;obtain⟨V3,S1⟩:=Sb.An5 r1 l1;obtain⟨ja,S2⟩:=S1.An5 (r2.ext S1.base) l2;exact k _ ja (S2.rebase (S.base.trans S2.base))
  .cases ef
def jH (F:SF)(T:aA->aU->Option aU):List aA->SF
 |[],Y=>aa (.nx Y)
 |d::r,Y=>(T d Y).bind λρ1=>(F ρ1).bind λo=>match o with
  |.nx ρ'=>jH F T r ρ'
  |.ct ρ'=>jH F T r ρ'
  |.bk ρ'=>aa (.nx ρ')
  |.rt d=>aa (.rt d)
def dD (m:Md)(fi:AF)(T:aA->aU->Option aU)(F:SF):SF:=λY=>(aV m fi Y).bind λds=>jH F T ds Y
section
variable {body:List bS}{F:SF}{T:aA->aU->Option aU}{fi:AF}{m:Md}
theorem XR (hp:BD (aO X.prog X.w) X.A X.env X.xe)(hc:X.calm=af)(hi:PI X tg bg (tI' X.K H0 P0 m fi))(hg:DG X H0 P0 tg T)(hb:vx X H0 P0 n0 body F)
  (hs:∀ x,rK bg X.env x=pure x:=by intro _;rfl):DS X H0 P0 n0 (.For tg bg body [] pos) (dD m fi T F):=PS.imp (Qe hp hc hi hg hb hs) λD Z H gh=>by
 rw[8];obtain⟨ds,e1,ef⟩:=ao ef;refine⟨B0,Y,fp,ds,S,e1,λJ B1 H' S1 xb it=>?_⟩
 refine⟨λi m Z H=>m=ds.length-i/\i<=ds.length/\∃ Y fp,Sta X.K H0 P0 B1 Y Z H fp/\jH F T (ds.drop i) Y=aa o,⟨ds.length,by simp,eD _,Y,fp,S1,by simpa using ef⟩,?_⟩
 rintro i m σ2 H2 ⟨rfl,hi,ρ2,ja,S2,e2⟩;have x2:=S2.base.trans Aap;obtain⟨go,st⟩:=it i H2 x2;by_cases bz:i<ds.length
 .have hd:=fO bz;rw[Jo bz] at e2;obtain⟨ρ3,e3,e2⟩:=ao e2;obtain⟨o3,e4,e2⟩:=ao e2;obtain⟨g1,g2⟩:=go _ hd;refine .inr ⟨g1,λσ' H'=>i+1<=ds.length/\∃ Y fp,Sta X.K H0 P0 B1 Y σ' H' fp/\jH F T (ds.drop (i+1)) Y=aa o,λσ' H' ⟨h1,h2⟩=>⟨ds.length-(i+1),by omega,rfl,h1,h2⟩,λx H3 y=>?_⟩
  obtain⟨x3,r3⟩:=g2 x H3 y;refine⟨B1,ρ2,ja,_,ρ3,S2.grow x3,r3 _ S2.hid S2.base,e3,λσ4 fp4 S4=>⟨B1,ρ3,fp4,o3,S4,e4,?_⟩⟩
  cases o3 with
  |nx ρ5=>exact λσ5 H5 zi S5=>⟨bz,ρ5,zi,S5,e2⟩
  |ct ρ5=>exact λσ5 H5 zi S5=>⟨bz,ρ5,zi,S5,e2⟩
  |bk ρ5=>
   cases e2;exact λσ5 H5 zi S5=>k σ5 H5 zi (S5.rebase (xb.trans S5.base))
  |rt d=>
   cases e2;exact k
 .have e:i=ds.length:=by omega
  subst e;rw[List.drop_length] at e2;cases e2;exact .inl ⟨st rfl,k σ2 H2 ja (S2.rebase (xb.trans S2.base))⟩
theorem lX (hp:BD (aO X.prog X.w) X.A X.env X.xe)(hc:X.calm=af)(hi:DI X tg bg fi)(hg:DG X H0 P0 tg T)(hb:vx X H0 P0 n0 body F)
  (hs:∀ x,rK bg X.env x=pure x:=by intro _;rfl):DS X H0 P0 n0 (.For tg bg body [] pos) (dD .s fi T F):=XR hp hc (evI hi) hg hb hs
theorem oE (m:Md)(hp:BD (aO X.prog X.w) X.A X.env X.xe)(hc:X.calm=af)(hi:DI0 X tg bg fi)(hg:DG X H0 P0 tg T)(hb:vx X H0 P0 n0 body F)
  (hs:∀ x,rK bg X.env x=pure x:=by intro _;rfl):DS X H0 P0 n0 (.For tg bg body [] pos) (dD m fi T F):=XR hp hc (Lh m hi) hg hb hs
end
def yy (m:Md)(t:BF)(F:SF):Nat->SF
 |0,_=>ae
 |n+1,Y=>(bV m t Y).bind λb=>if b=af then(F Y).bind λo=>match o with
   |.nx ρ'=>yy m t F n ρ'
   |.ct ρ'=>yy m t F n ρ'
   |.bk ρ'=>aa (.nx ρ')
   |.rt d=>aa (.rt d)
  else aa (.nx Y)
section
variable {body:List bS}{F:SF}{t:BF}
theorem Vz (m:Md)(fuel:Nat)(hp:BD (aO X.prog X.w) X.A X.env X.xe)(hc:DT X c t)(hb:vx X H0 P0 n0 body F):DS X H0 P0 n0 (.While c body [] pos) (yy m t F fuel):=
 PS.imp (Wd hp (evB m hc) hb) λD Z H gh=>by
  rw[8];refine⟨λn Z H=>∃ Y fp,Sta X.K H0 P0 B0 Y Z H fp/\yy m t F n Y=aa o,⟨fuel,Y,fp,S,ef⟩,?_⟩
  rintro n σ1 H1 ⟨ρ1,V3,S1,e1⟩;cases n with
  |zero=>cases e1
  |succ n=>
   obtain⟨b,e2,e1⟩:=ao e1;refine⟨B0,ρ1,V3,b,S1,e2,λH2 S2=>?_⟩
   cases b with
   |false=>
    have:aa (Out.nx ρ1)=aa o:=by simpa using e1
    cases this;exact qP (k σ1 H2 V3 S2)
   |true=>
    rw[if_pos rfl] at e1;obtain⟨o3,e4,e1⟩:=ao e1;refine qR ⟨λσ' H'=>∃ Y fp,Sta X.K H0 P0 B0 Y σ' H' fp/\yy m t F n Y=aa o,λσ' H' h=>⟨n,Jb n,h⟩,B0,ρ1,V3,o3,S2,e4,?_⟩
    cases o3 with
    |nx ρ5=>exact λσ5 H5 zi S5=>⟨ρ5,zi,S5,e1⟩
    |ct ρ5=>exact λσ5 H5 zi S5=>⟨ρ5,zi,S5,e1⟩
    |bk ρ5=>cases e1;exact k
    |rt d=>cases e1;exact k
end
def ym (T:aA->List (Option aA)->Option (List (Option aA)))(t:BF)(f:EF)(Y:List (Option aA)):List aA->Option (List aA)
 |[]=>aa []
 |d::r=>(T d Y).bind λρ1=>(t ρ1).bind λc=>if c=af then(f ρ1).bind λy=>(ym T t f Y r).bind λys=>aa (y::ys) else ym T t f Y r
def lE (cap:List (Option Nat))(Y:List (Option aA)):List (Option aA):=cap.map λo=>o.bind λj=>(Y[j]?).join
def ip (cap:List (Option Nat))(fi:AF)(T:aA->List (Option aA)->Option (List (Option aA)))(t:BF)(f:EF):EF:=λY=>(fi Y).bind λds=>(ym T t f (lE cap Y) ds).bind λys=>if ds.length<=sizeLine then aa (.list ys) else ae
def tGB (K:aJ)(T:aA->List (Option aA)->Option (List (Option aA))):TG:=λv Z H Q=>∃ P Y d ρ',Hid P H/\Aom K (hid H P) Y Z/\Abg K (hid H P) d v/\T d Y=aa ρ'/\∀ σ',Aom K (hid H P) ρ' σ'->Q σ' H
def TOk (T:aA->List (Option aA)->Option (List (Option aA))):Prop:=∀ d Y ρ',T d Y=aa ρ'->∀ (i:Nat) d',Y[i]?=aa (aa d')->ρ'[i]?=aa (aa d')
def cZ:BF:=λ_=>aa af
def gB (j:Nat):aA->List (Option aA)->Option (List (Option aA)):=λd Y=>match Y[j]? with
 |some ae=>aa (Y.set j (aa d))
 |_=>ae
theorem ED{ρ':List (Option aA)}(h:gB j d Y=aa ρ'):Y[j]?=aa ae/\Y.set j (aa d)=ρ':=by
 unfold gB at h;split at h
 .rename_i e;exact⟨e,eO h⟩
 .cases h
def R0 (i j:Nat):aA->List (Option aA)->Option (List (Option aA)):=λd Y=>match d with
 |.tuple [a,b]=>(gB i a Y).bind λρ'=>gB j b ρ'
 |_=>ae
theorem pG:TOk (gB j):=λd Y ρ' e i d' h=>by
 obtain⟨hj,rfl⟩:=ED e;by_cases q:j=i
 .subst q;rw[hj] at h;cases h
 .rw[mJ q];exact h
theorem VR:TOk (R0 i j):=λd Y ρ' e k d' h=>by
 unfold R0 at e;split at e
 .obtain⟨ρ1,e1,e2⟩:=ao e;exact pG _ _ _ e2 k d' (pG _ _ _ e1 k d' h)
 .cases e
section
variable {fi:AF}{T:aA->List (Option aA)->Option (List (Option aA))}{t:BF}{f:EF}
theorem JF:uO X [] (R3 X.K cZ):=λah s Z H Q I gh=>by
 obtain⟨P,Y,b,hP,rs,ef,k⟩:=gh;cases ef;exact Tx ah s Z H Q I (k H Ext.refl)
theorem vM (h:DT X c t):uO X [c] (R3 X.K t):=Uk h
theorem Aom.set(h:Aom K B Y Z)(r:Abg K B d v)(hl:j<Z.length):Aom K B (Y.set j (aa d)) (Z.set j (aa v)):=λi d' e=>by
 by_cases q:j=i
 .subst q;have hj:j<Y.length:=by
   have:=(cX.1 e).1;simpa using this
  rw[qG hj] at e;cases e;exact⟨v,qG hl,r⟩
 .rw[mJ q] at e;obtain⟨w,h1,h2⟩:=h i d' e;exact⟨w,by rw[mJ q];exact h1,h2⟩
def DGB (X:Cx)(tg:aR)(T:aA->List (Option aA)->Option (List (Option aA))):Prop:=
 ∀ (ah:List (aC×bB)) (s:aH) (Z:St) (H:Hp) (v:V) (u:aD) (Q:St->Hp->Prop),Inv X ah Z H s->RelV v u->tGB X.K T v Z H Q ->
  aM (aO X.prog X.w) X.A (lH tg X.env u) (λ_ s'=>∃ σ' H',Inv X ah σ' H' s'/\Q σ' H') X.xe s
theorem tL(hN:X.N.Nodup)(hi:X.N[j]?=aa x)(hx:jR X.env.scope x)(hf:X.fn x=af\/X.env.scope.names.lookup x=aa .local:=by first|exact .inl rfl|exact .inr rfl|assumption):DGB X (.Name x pos) (gB j):=λah s Z H v u Q I r gh=>by
 obtain⟨P,Y,d,ρ',hP,rs,rd,ef,k⟩:=gh;obtain⟨hj,rfl⟩:=ED ef;have hl:j<Z.length:=by rw[I.len];exact(cX.1 hi).1
 exact vH hN hi hx hf ah s Z H v u Q I r (k _ (rs.set rd hl))
theorem XU{p1:bQ}{kk}(hc:X.calm=af)(hN:X.N.Nodup)(hi:X.N[i]?=aa x)(hj:X.N[j]?=aa y)(hx:jR X.env.scope x)(hy:jR X.env.scope y)
  (hf:X.fn x=af\/X.env.scope.names.lookup x=aa .local:=by first|exact .inl rfl|exact .inr rfl|assumption) (hf2:X.fn y=af\/X.env.scope.names.lookup y=aa .local:=by first|exact .inl rfl|exact .inr rfl|assumption)
  (hn:(iM [.Name x p1,.Name y p2] X.env).length=2:=by rfl) (jy:(iM [.Name x p1,.Name y p2] X.env).findIdx? (·.1)=ae:=by rfl)
  (h1:(iM [.Name x p1,.Name y p2] X.env).map (·.2)=lH (.Name x p1) X.env::(iM [.Name y p2] X.env).map (·.2):=by rfl) (h2:(iM [.Name y p2] X.env).map (·.2)=lH (.Name y p2) X.env::(iM [] X.env).map (·.2):=by rfl):DGB X (.Tuple [.Name x p1,.Name y p2] kk pos) (R0 i j):=λah s Z H v u Q I r gh=>by
 obtain⟨P,Y,d,ρ',hP,rs,rd,ef,k⟩:=gh;unfold R0 at ef;split at ef
 .rename_i a b;obtain⟨ρ1,e1,e2⟩:=ao ef;obtain⟨l1,rfl⟩:=ED e1;obtain⟨l2,rfl⟩:=ED e2;obtain⟨p,xs,rfl,hp,rr⟩:=Aar.1 rd;obtain⟨v1,t1,rfl,r1,rr⟩:=Aaf.1 rr;obtain⟨v2,t2,rfl,r2,rr⟩:=Aaf.1 rr;obtain rfl:=Aak.1 rr;have hl:i<Z.length:=by rw[I.len];exact(cX.1 hi).1
  have hl2:j<Z.length:=by rw[I.len];exact(cX.1 hj).1
  exact WC hc (EL (vH hN hi hx hf) (EL (vH hN hj hy hf2) Gs h2) h1) hn jy ah s Z H _ u Q I r ⟨p,_,rfl,SqT.of (Aap _ _ hp),rfl,v1,_,rfl,v2,_,rfl,rfl,k _ ((rs.set r1 hl).set r2 (by simpa using hl2))⟩
 .cases ef
theorem Wi(h:Aom K B Y Z):Aom K B (lE cap Y) (uR cap Z):=λi d e=>by
 unfold lE at e;unfold uR;rw[eE] at e ⊢;cases hc:cap[i]? with
 |none=>rw[hc] at e;simp at e
 |some o=>
  rw[hc] at e;cases o with
  |none=>simp at e
  |some j=>
   simp only[xC,bM,GR] at e ⊢;obtain⟨v,h1,h2⟩:=h j d (Bt e);exact⟨v,by rw[h1];rfl,h2⟩
theorem UI(hT:TOk T):∀ Z H Q,tF K 1 (ip cap fi T t f) Z H Q->tLC cap (tI K fi) (tGB K T) (R3 K t) (tF K 0 f) Z H Q:=λZ H Q gh=>by
 rw[6];obtain⟨ds,e1,ef⟩:=ao ef;obtain⟨all,e2,ef⟩:=ao ef;obtain⟨hz,rfl⟩:=cG ef;refine⟨P,Y,ds,hP,rs,e1,λJ H1 x1 it A hA=>?_⟩
 have hPA:=(hP.ext x1).new hA;have ST:∀ {H':Hp} {ys:List V},hid (au H' A (.lst ys)) (ki P [A])=hid H' (ki P [A]):=λ{H' ys}=>by
  funext b;unfold hid;by_cases hb:ki P [A] b
  .rw[if_pos hb,if_pos hb]
  .rw[if_neg hb,if_neg hb];exact dF (λz=>hb (.inr (by simp[z])))
 refine⟨λi m ys σ' H'=>m=ds.length-i/\i<=ds.length/\H' A=aa (.lst ys)/\Ext H1 H'/\Ext (hid H1 P) (hid H' (ki P [A]))/\Aom K (hid H' (ki P [A])) (lE cap Y) σ'/\ys.length<=i /\
  ∃ done rest,Aao K (hid H' (ki P [A])) done ys/\ym T t f (lE cap Y) (ds.drop i)=aa rest/\all=done++rest,⟨ds.length,?_⟩,?_⟩
 .have xa:Ext (hid H1 P) (hid (au H1 A (.lst [])) (ki P [A])):=λb o e=>by
   obtain⟨nb,e⟩:=Aco.1 e;have hb:=kN e hA;exact gM (λz=>z.elim nb λm=>hb (by simpa using m)) (by rw[dF hb];exact e)
  exact⟨by simp,eD _,eB,Ext.new hA,xa,(Wi (rs.ext (cT x1))).ext xa,eD _,[],all,Aak.2 rfl,by simpa using e2,rfl⟩
 .rintro i m ys σ' H' ⟨rfl,hi,hD,x2,xb,rs2,hl,done,rest,rd,e3,rfl⟩;refine⟨hD,?_⟩;obtain⟨go,st⟩:=it i H' (Aap.trans x2);have zj:Hid (ki P [A]) H':=λa h=>by
   rcases h with h|h
   .exact(hP.ext (x1.trans x2)) a h
   .have:a=A:=by simpa using h
    rw[19];exact .inl ⟨_,hD⟩
  by_cases bz:i<ds.length
  .have hd:=fO bz;rw[Jo bz] at e3;obtain⟨ρ1,e4,e3⟩:=ao e3;obtain⟨c,e5,e3⟩:=ao e3;obtain⟨g1,g2⟩:=go _ hd;refine .inr ⟨g1,by omega,λys σ' H'=>i+1<=ds.length/\H' A=aa (.lst ys)/\Ext H1 H'/\Ext (hid H1 P) (hid H' (ki P [A]))/\Aom K (hid H' (ki P [A])) (lE cap Y) σ'/\ys.length<=i+1 /\
    ∃ d2 r2,Aao K (hid H' (ki P [A])) d2 ys/\ym T t f (lE cap Y) (ds.drop (i+1))=aa r2/\done++rest=d2++r2,λzs σ2 H2 h=>⟨ds.length-(i+1),by omega,rfl,h⟩,λx H2 y=>?_⟩
   obtain⟨x3,r3⟩:=g2 x H2 y;refine⟨ki P [A],lE cap Y,_,ρ1,zj.ext x3,rs2.ext (cT x3),r3 _ zj xb,e4,λσ3 rs3=>?_⟩
   refine⟨ki P [A],ρ1,c,zj.ext x3,rs3,e5,λH4 x4=>?_⟩
   have rs4:Aom K (hid H2 (ki P [A])) (lE cap Y) σ3:=λj d' e=>rs3 j d' (hT _ _ _ e4 j d' e)
   cases c with
   |false=>
    rw[if_neg mN] at e3;refine qP ⟨bz,x4 _ _ (x3 _ _ hD),x2.trans (x3.trans x4),xb.trans (cT (x3.trans x4)),rs4.ext (cT x4),by omega,done,rest,rd.ext (cT (x3.trans x4)),e3,rfl⟩
   |true=>
    rw[if_pos rfl] at e3;obtain⟨yd,e6,e3⟩:=ao e3;obtain⟨r2,e7,e3⟩:=ao e3;cases e3;refine qR ⟨ki P [A],ρ1,yd,zj.ext (x3.trans x4),rs3.ext (cT x4),e6,dY λv H5 x5 r5=>⟨x5 _ _ (x4 _ _ (x3 _ _ hD)),bz,eB,?_,?_,?_,by simp;omega,done++[yd],r2,?_,e7,by simp⟩⟩
    .intro b o e;rw[dF (kN e hA)];exact x5 _ _ (x4 _ _ (x3 _ _ (x2 _ _ e)))
    .rw[ST];exact xb.trans (cT (x3.trans (x4.trans x5)))
    .rw[ST];exact rs4.ext (cT (x4.trans x5))
    .rw[ST];exact(rd.ext (cT (x3.trans (x4.trans x5)))).snoc r5
  .have e:i=ds.length:=by omega
   subst e;rw[List.drop_length] at e3;cases e3;rw[qH] at k;refine .inl ⟨st rfl,?_⟩;refine k (.ref A) H' [A] (x1.trans x2) (kC.2 ⟨by simp,.nil⟩) (λa m=>?_) ⟨A,ys,ys.map λ_=>[],rfl,hD,?_,?_⟩
   .have:a=A:=by simpa using m
    rw[19];exact⟨x1.none hA,_,hD⟩
   .have:∀ l:List V,(l.map λ_=>([]:List aC)).flatten=[]:=λl=>by
     induction l with
     |nil=>rfl
     |cons a l ih=>rw[dB,nP,ih];rfl
    rw[this]
   .have go:∀ (ds:List aA) (xs:List V),Aao K (hid H' (ki P [A])) ds xs->All3 (Agt K (hid H' (ki P [A])) H' 0) ds xs (xs.map λ_=>[]):=by
     intro ds;induction ds with
     |nil=>intro xs r;rw[Aak.1 r];exact .nil
     |cons d ds ih=>
      intro xs r;obtain⟨y,t,rfl,h1,h2⟩:=Aaf.1 r;exact .cons ⟨rfl,h1⟩ (ih t h2)
    exact go _ _ rd
def VU (X:Cx)(N:List aE)(sc:iN)(tg ng:aR)(nn:List aR)(T:aA->List (Option aA)->Option (List (Option aA)))(t:BF)(f:EF):Prop:=
 ∀ (cl:List (aE×aC)) (C:aC) (s₀:aH) (H₀:Hp) (ex:List aC),DGB (gP X N sc cl C s₀ H₀ ex) tg T/\uO (gP X N sc cl C s₀ H₀ ex) nn (R3 X.K t)/\DE (gP X N sc cl C s₀ H₀ ex) ng f
theorem qU (hc:X.calm=af)(S:CompScope X N cap sc)(hT:TOk T)(hi:DI X tg bg fi)(hb:VU X N sc tg ng nn T t f)(hs:∀ x,rK bg X.env x=pure x:=by intro _;rfl) :
  DF 1 X (.ListComp ng [⟨tg,bg,nn,0⟩] sc pos) (ip cap fi T t f):=PE.imp (Mu hc S hi (g:=tGB X.K T) (tc:=R3 X.K t) (te:=tF X.K 0 f) hb hs) (UI hT)
theorem Vt(m:Md)(hc:X.calm=af)(hN:X.N.Nodup)(N':X.N[i]?=aa x)(hx:jR X.env.scope x)(S:CompScope X N cap sc)(hT:TOk T)(hi:DI X tg bg fi)(hb:VU X N sc tg ng nn T t f)
  (zh:kP (.ListComp ng [⟨tg,bg,nn,0⟩] sc pos) (aa (.Name x px)) ug.line X.env=pure af:=by rfl)
  (hs:∀ x,rK bg X.env x=pure x:=by intro _;rfl) (hf:X.fn x=af\/X.env.scope.names.lookup x=aa .local:=by first|exact .inl rfl|exact .inr rfl|assumption) :
  DS X H0 P0 n0 (.Assign [.Name x px] (.ListComp ng [⟨tg,bg,nn,0⟩] sc pos) ug) (bZ i 1 m (ip cap fi T t f)):=PS.imp (Vr hc hN N' hx S hi (g:=tGB X.K T) (tc:=R3 X.K t) (te:=tF X.K 0 f) hb zh hs hf) λD Z H gh=>by
 rw[8];rw[17];obtain⟨hl,rfl⟩:=cG ef;refine UI hT Z H _ (TB m Z H _ ⟨B0,Y,fp,d,S,e1,λv H' t=>?_⟩)
 obtain⟨bu,S'⟩:=t.set hl;exact k _ _ bu S'
end
def outD:Option Out->Option aA
 |some (.rt d)=>aa d
 |some (.nx _)=>aa .none
 |_=>ae
def cu (np n:Nat)(body:SF):List aA->Option aA:=λds=>if ds.length=np then outD (body (ds.map (λd=>aa (0,d))++BM (n-np) ae)) else ae
def ax (K:aJ)(n0:Nat)(F:List aA->Option aA):Sp:=λvs H Q _=>∃ P ds d,Hid P H/\Aao K (hid H P) ds vs/\F ds=aa d/\Res K P n0 d H Q
section
variable {P:bG}{base:aQ}
theorem dI{fd:iE}{k np:Nat}{body:SF}(F:Fun K x qual st f fd)(S:FnScope N ps (bP st))(hnp:np=ps.length)(hN:ps.length<=N.length)
  (hb:∀ (ba:aD) (A:bW) (outer:List Env) (s:aH) (H:Hp) (E:XK) (P0:aC->Prop),Room k (A.deeper (pY qual (bP st) s.heap.objs.size f ba))->vx (sC cb P w K mg base N qual (bP st) f ba A outer s H E).nox H P0 n0 (kK st) body) :
  FnOk P w K mg base cb (k+1) f fd ps (ax K n0 (cu np N.length body)):=by
 refine F.ok S (λvs H Q E h=>?_) (λba A outer s H vs Q E hr h=>?_)
 .obtain⟨P,ds,d,_,r,ef,_⟩:=h;unfold cu at ef;by_cases hl:ds.length=np
  .rw[r.length,hl,hnp]
  .rw[if_neg hl] at ef;cases ef
 .obtain⟨P0,ds,d,hP,r,ef,k⟩:=h;refine⟨_,hb ba A outer s H E P0 hr,?_⟩;unfold cu at ef;by_cases hl:ds.length=np
  case neg=>rw[if_neg hl] at ef;cases ef
  rw[if_pos hl] at ef;rw[<-hl] at ef;have av:=r.length;have S0:Sta K H P0 (hid H P0) (ds.map (λd=>aa (0,d))++BM (N.length-ds.length) ae) (start N vs) H (λ_=>[]):=by
   have eH:Hd P0 (λ_=>[])=P0:=by
    funext a;simp[Hd]
   refine⟨by simp[start,av],λ_=>.nil,λi j a h=>by simp at h,λi a h=>by simp at h,Ext.refl,hP,by rw[eH];exact Ext.refl,λi n' d' e=>?_⟩
   rw[eH];by_cases hi:i<ds.length
   .rw[xK (by simpa using hi),eE] at e
    cases q:ds[i]? with
    |none=>rw[q] at e;simp at e
    |some d2=>
     rw[q] at e;have e':0=n'/\d2=d':=by simpa using e
     obtain⟨rfl,rfl⟩:=e';obtain⟨v,h1,h2⟩:=r.get q;refine⟨v,?_,rfl,h2⟩;unfold start;rw[xK (by rw[cD,av];exact hi),eE,h1]
     rfl
   .rw[RL (by simpa using hi)] at e
    have:=eU e;simp at this
  cases eb:body (ds.map (λd=>aa (0,d))++BM (N.length-ds.length) ae) with
  |none=>rw[eb] at ef;cases ef
  |some o=>
   rw[eb] at ef;refine⟨_,_,_,o,S0,eb,?_⟩;cases o with
   |rt d'=>
    cases ef;exact λv H' ⟨Fr,h1,h2,h3,h4⟩=>k v H' Fr h1 h2 h3 h4
   |nx ρ'=>
    cases ef;intro σ' H' bu S';refine k .non H' [] S'.ext .nil (λa m=>by simp at m) ?_
    cases n0 with
    |zero=>exact⟨rfl,Abt.2 rfl⟩
    |succ n=>
     unfold Aga;split
     .exact .inl ⟨rfl,rfl,rfl⟩
     .split
      .exact .inl ⟨rfl,rfl,rfl⟩
      .exact⟨rfl,Abt.2 rfl⟩
   |bk _=>cases ef
   |ct _=>cases ef
variable {k np:Nat}{F:List aA->Option aA}{fa:AF}
theorem yP (D:Def X.prog X.w X.K X.mg X.base x k ps (ax X.K n0 F))(hr:Room k X.A)(hg:Gl X x)(ha:DA X (e::es) fa)(we:(x==("__debug__" : aE))=ag:=by decide)(he:bJ (e::es) X.env=(ag,bK e X.env)::bJ es X.env:=by rfl)
  (iw:(fY pos (bJ es X.env)).any (·.1)=ag:=by rfl):DF n0 X (.Call (.Name x p) (e::es) [] pos) (aN F fa):=
 PE.imp (Py D hr hg ha we he iw) λZ H Q gh=>by
  rw[6];obtain⟨ds,e1,ef⟩:=ao ef;refine⟨P,Y,ds,hP,rs,e1,λvs H1 x1 r1=>?_⟩
  show ax X.K n0 F (vs++[]) H1 Q E0;rw[qH];exact⟨P,ds,d,hP.ext x1,r1,ef,k.mono x1⟩
end
def yu (g:Int->Int->aA):aA->aA->Option aA
 |.int i,.int j=>aa (g i j)
 |_,_=>ae
def xg (C:Int->Int->Prop)[∀ i j,Decidable (C i j)](g:Int->Int->aA):aA->aA->Option aA
 |.int i,.int j=>if C i j then aa (g i j) else ae
 |_,_=>ae
theorem VE {g:Int->Int->V}{gd:Int->Int->aA}(h:∀ i j H,Abg K H (gd i j) (g i j)):sy K 0 (yv g) (yu gd):=λP H x y a b d Q hP ra rb e k=>by
 unfold yu at e;split at e
 .rename_i i j;cases e;exact⟨i,j,Aaj.1 ra,Aaj.1 rb,k.zero Ext.refl (h i j _)⟩
 .cases e
theorem AS {C C':Int->Int->Prop}[∀ i j,Decidable (C' i j)]{g:Int->Int->V}{gd:Int->Int->aA}(hC:∀ i j,C' i j->C i j)(h:∀ i j H,Abg K H (gd i j) (g i j)):sy K 0 (rI C g) (xg C' gd):=λP H x y a b d Q hP ra rb e k=>by
 unfold xg at e;split at e
 .rename_i i j;obtain⟨hc,rfl⟩:=cG e;exact⟨i,j,Aaj.1 ra,Aaj.1 rb,hC i j hc,k.zero Ext.refl (h i j _)⟩
 .cases e
section
variable {a:aR}{fa fb fc:EF}
def pK:aA->aA->Option aA:=yu λi j=>.int (i-j)
theorem Nh (ha:DE X a fa)(hb:DE X b fb):DE X (.BinOp a .Sub b pos) (ai pK fa fb):=qV Pg (VE λ_ _ _=>Aaj.2 rfl) ha hb
def fK:aA->aA->Option aA:=xg (λi j=>(i.natAbs<2^64\/j.natAbs<2^64)\/(i.natAbs<2^1000/\j.natAbs<2^1000)) λi j=>.int (i*j)
theorem ZS:OpR X (kR .Mult) (rI (λi j=>(i.natAbs<2^64\/j.natAbs<2^64)\/(i.natAbs<2^1000/\j.natAbs<2^1000)) λi j=>.int (i*j)):=by
 rw[4];obtain⟨i,j,ex,ey,hc,q⟩:=h;rcases hc with hc|hc
 .refine Pj ah s Z H x y v u Q I rx ry ⟨i,j,ex,ey,?_,q⟩;rcases hc with hc|hc
  .exact .inl ⟨by omega,by omega⟩
  .exact .inr ⟨by omega,by omega⟩
 .exact Rr ah s Z H x y v u Q I rx ry ⟨i,j,ex,ey,hc,q⟩
theorem VA (ha:DE X a fa)(hb:DE X b fb):DE X (.BinOp a .Mult b pos) (ai fK fa fb):=qV ZS (AS (λ_ _ h=>h) λ_ _ _=>Aaj.2 rfl) ha hb
def fL:aA->aA->Option aA:=xg (λ_ j=>0<j/\j<1073741824) λi j=>.int (i/j)
theorem Rn (ha:DE X a fa)(hb:DE X b fb):DE X (.BinOp a .FloorDiv b pos) (ai fL fa fb):=qV Vh (AS (λ_ _ h=>h) λ_ _ _=>Aaj.2 rfl) ha hb
def cY:aA->aA->Option aA:=xg (λ_ j=>0<j) λi j=>.int (i%j)
theorem Ol (ha:DE X a fa)(hb:DE X b fb):DE X (.BinOp a .Mod b pos) (ai cY fa fb):=qV Qm (AS (λ_ _ h=>h) λ_ _ _=>Aaj.2 rfl) ha hb
def uU:aA->aA->Option aA:=xg (λi j=>0<=j/\j<=1000000/\i.natAbs<2^64) λi j=>.int (i^j.toNat)
theorem Qj (ha:DE X a fa)(hb:DE X b fb):DE X (.BinOp a .Pow b pos) (ai uU fa fb):=qV Nq (AS (λ_ _ h=>h) λ_ _ _=>Aaj.2 rfl) ha hb
def HQ:aA->Option aA
 |.int i=>aa (.int (-i))
 |_=>ae
theorem Re (ha:DE X a fa):DE X (.UnaryOp .USub a pos) (iq HQ fa):=Ls Qp (λP H x a d Q hP r e k=>by
 unfold HQ at e;split at e
 .cases e;exact⟨_,Aaj.1 r,k.zero Ext.refl (Aaj.2 rfl)⟩
 .cases e) ha
theorem Cn(hx:cM (.str x)=af)(hy:cM (.str y)=af):cM (.str (x++y))=af:=by
 have e:(x++y).cps=x.cps++y.cps:=rfl;simp only[cM,QP] at hx hy ⊢;rw[e,Array.all_append,hx,hy]
 rfl
def dC:aA->aA->Option aA
 |.int i,.int j=>aa (.int (i+j))
 |.str x,.str y=>if x.length+y.length<=sizeLine then aa (.str (x++y)) else ae
 |.tuple (x::xs),.tuple ys=>if (x::xs).length+ys.length<=sizeLine then aa (.tuple ((x::xs)++ys)) else ae
 |_,_=>ae
theorem Tg:sy K 0 (λx y H Q=>yv (λi j=>.int (i+j)) x y H Q\/(∃ i j,x=.str i/\y=.str j/\i.length+j.length<=sizeLine/\Q (.str (i++j)) H)\/IE K x y H Q) dC:=λP H x y a b d Q hP ra rb e k=>by
 unfold dC at e;split at e
 .rename_i i j;cases e;exact .inl ⟨i,j,Aaj.1 ra,Aaj.1 rb,k.zero Ext.refl (Aaj.2 rfl)⟩
 .rename_i i j;obtain⟨hc,rfl⟩:=cG e;exact .inr (.inl ⟨i,j,(Aa3.1 ra).1,(Aa3.1 rb).1,hc,k.zero Ext.refl (Aa3.2 ⟨rfl,Cn (Aa3.1 ra).2 (Aa3.1 rb).2⟩)⟩)
 .rename_i z zs ys;obtain⟨hc,rfl⟩:=cG e;obtain⟨p,us,rfl,hp,r1⟩:=Aar.1 ra;obtain⟨q,ws,rfl,hq,r2⟩:=Aar.1 rb;have l1:=r1.length;have l2:=r2.length;refine .inr (.inr ⟨p,q,us,ws,rfl,rfl,SqT.of (Aap _ _ hp),SqT.of (Aap _ _ hq),λz=>by rw[z] at l1;simp at l1,by rw[l1,l2];exact hc,λz=>?_,λz r hr=>?_⟩)
  .subst z;have:ys=[]:=by simpa using l2.symm
   rw[19];refine k.zero Ext.refl ?_;rw[qH];exact ra
  .exact k.tup hP hr (r1.append r2)
 .cases e
theorem Pk (ha:DE X a fa)(hb:DE X b fb):DE X (.BinOp a .Add b pos) (ai dC fa fb):=qV (Blf.or (A1j.or A3m)) Tg ha hb
mutual
def noDict:aA->Bool
 |.dict _=>ag
 |.list ds=>noDicts ds
 |.tuple ds=>noDicts ds
 |_=>af
def noDicts:List aA->Bool
 |[]=>af
 |d::r=>noDict d&&noDicts r
end
mutual
theorem lB {X:Cx}(I:Inv X ah Z H s):∀ {d:aA} {v:V} {u:aD},noDict d=af->Abg X.K H d v->RelV v u->d.canLay0=af/\∃ as,nM s.heap u d as
 |.none,v,u,_,h,r=>by
  obtain rfl:=Abt.1 h;cases r;exact⟨by simp[cM],_,.none⟩
 |.bool b,v,u,_,h,r=>by
  obtain rfl:=Aax.1 h;cases r;exact⟨by simp[cM],_,.bool b⟩
 |.int i,v,u,_,h,r=>by
  obtain rfl:=Aaj.1 h;obtain⟨t,rfl⟩:=r;exact⟨by simp[cM],_,.int i t⟩
 |.str x,v,u,_,h,r=>by
  obtain⟨rfl,hl⟩:=Aa3.1 h;obtain⟨t,rfl⟩:=r;exact⟨hl,_,.str x t⟩
 |.list ds,v,u,n,h,r=>by
  obtain⟨a,xs,rfl,hs,hr⟩:=Aa6.1 h;cases r;obtain⟨its,rv,⟨o,m,e,hc,_,hd⟩,_⟩:=I.list hs;obtain⟨hl,as,ha⟩:=NB I (by simpa [noDict] using n) hr rv
  exact⟨by simpa [cM] using hl,_,.list e hc hd (by simpa using ha)⟩
 |.tuple ds,v,u,n,h,r=>by
  obtain⟨a,xs,rfl,hs,hr⟩:=Aar.1 h;cases r;obtain⟨its,rv,⟨o,e,hc,m,hd⟩,_⟩:=I.tuple (SqT.of hs);obtain⟨hl,as,ha⟩:=NB I (by simpa [noDict] using n) hr rv
  exact⟨by simpa [cM] using hl,_,.tuple e hc hd (by simpa using ha)⟩
 |.dict _,_,_,n,h,_=>by simp[noDict] at n
theorem NB {X:Cx}(I:Inv X ah Z H s):∀ {ds:List aA} {vs:List V} {us:List aD},noDicts ds=af->Aao X.K H ds vs->Vals vs us->BC ds=af/\∃ as,nL s.heap us ds as
 |[],vs,us,_,h,r=>by
  obtain rfl:=Aak.1 h;cases r;exact⟨by simp[BC],_,.nil⟩
 |d::ds,vs,us,n,h,r=>by
  have n':noDict d=af/\noDicts ds=af:=by simpa [noDicts] using n
  obtain⟨x,rr,rfl,h1,h2⟩:=Aaf.1 h;cases r with
  |cons r1 r2=>
   obtain⟨l1,as,ha⟩:=lB I n'.1 h1 r1;obtain⟨l2,bs,hb⟩:=NB I n'.2 h2 r2;exact⟨by simp[BC,l1,l2],_,.cons ha hb⟩
end
def cU (d:aA):Bool:=noDict d&&decide (d.depth<=60)
def qg:aA->aA->Option aA:=λa b=>if (cU a&&cU b)=af then aa (.bool (bX a b)) else ae
def ir:aA->aA->Option aA:=λa b=>if (cU a&&cU b)=af then aa (.bool (!bX a b)) else ae
def xY (K:aJ)(neg:Bool):R2:=λx y H Q=>∃ da db,Abg K H da x/\Abg K H db y/\cU da=af/\cU db=af/\Q (.bl (neg != bX da db)) H
theorem Rh (hu:X.A.units+100<cLine):OpR X (gU .Eq) (xY X.K ag):=by
 rw[4];obtain⟨da,db,ra,rb,fa,fb,q⟩:=h;have yo:noDict da=af/\da.depth<=60:=by simpa [cU] using fa
 have fb':noDict db=af/\db.depth<=60:=by simpa [cU] using fb
 obtain⟨la,as,ra⟩:=lB I yo.1 ra rx;obtain⟨lb,bs,rb⟩:=lB I fb'.1 rb ry;exact SeqAt.compareEq_reads ra rb la lb (by omega) ⟨.bl _,H,I,rfl,by simpa using q⟩
theorem OQ (hu:X.A.units+100<cLine):OpR X (gU .NotEq) (xY X.K af):=by
 rw[4];obtain⟨da,db,ra,rb,fa,fb,q⟩:=h;have yo:noDict da=af/\da.depth<=60:=by simpa [cU] using fa
 have fb':noDict db=af/\db.depth<=60:=by simpa [cU] using fb
 obtain⟨la,as,ra⟩:=lB I yo.1 ra rx;obtain⟨lb,bs,rb⟩:=lB I fb'.1 rb ry;exact SeqAt.compareNe_reads ra rb la lb (by omega) ⟨.bl _,H,I,rfl,by simpa using q⟩
theorem Nx:sy K 0 (xY K ag) qg:=λP H x y a b d Q hP ra rb e k=>by
 obtain⟨hc,rfl⟩:=cG e;have ji:cU a=af/\cU b=af:=by simpa using hc
 exact⟨a,b,ra.ext Aap,rb.ext Aap,ji.1,ji.2,k.zero Ext.refl (Aax.2 (by simp))⟩
theorem WR:sy K 0 (xY K af) ir:=λP H x y a b d Q hP ra rb e k=>by
 obtain⟨hc,rfl⟩:=cG e;have ji:cU a=af/\cU b=af:=by simpa using hc
 exact⟨a,b,ra.ext Aap,rb.ext Aap,ji.1,ji.2,k.zero Ext.refl (Aax.2 (by simp))⟩
def HY (K:aJ)(neg:Bool):R2:=λx y H Q=>∃ d ds,Abg K H d x/\(Abg K H (.list ds) y\/Abg K H (.tuple ds) y)/\cU d=af/\noDicts ds=af/\Q (.bl (neg != ds.any λz=>bX z d)) H
theorem Qd (hu:X.A.units+100<cLine):OpR X (gU .In) (HY X.K ag):=by
 rw[4];obtain⟨d,ds,ra,rb,fa,fb,q⟩:=h;have yo:noDict d=af/\d.depth<=60:=by simpa [cU] using fa
 obtain⟨la,as,ra⟩:=lB I yo.1 ra rx;rcases rb with rb|rb
 .obtain⟨lb,bs,rb⟩:=lB I (by simpa [noDict] using fb) rb ry
  exact SeqAt.in_list_reads rb ra (by simpa [cM] using lb) la (by omega) ⟨.bl _,H,I,rfl,by simpa using q⟩
 .obtain⟨lb,bs,rb⟩:=lB I (by simpa [noDict] using fb) rb ry
  exact SeqAt.in_tuple_reads rb ra (by simpa [cM] using lb) la (by omega) ⟨.bl _,H,I,rfl,by simpa using q⟩
theorem A8 (hu:X.A.units+100<cLine):OpR X (gU .NotIn) (HY X.K af):=by
 rw[4];obtain⟨d,ds,ra,rb,fa,fb,q⟩:=h;have yo:noDict d=af/\d.depth<=60:=by simpa [cU] using fa
 obtain⟨la,as,ra⟩:=lB I yo.1 ra rx;rcases rb with rb|rb
 .obtain⟨lb,bs,rb⟩:=lB I (by simpa [noDict] using fb) rb ry
  exact SeqAt.notIn_list_reads rb ra (by simpa [cM] using lb) la (by omega) ⟨.bl _,H,I,rfl,by simpa using q⟩
 .obtain⟨lb,bs,rb⟩:=lB I (by simpa [noDict] using fb) rb ry
  exact SeqAt.notIn_tuple_reads rb ra (by simpa [cM] using lb) la (by omega) ⟨.bl _,H,I,rfl,by simpa using q⟩
end
theorem PE.or{t t':TE}(h:PE X e t)(h':PE X e t'):PE X e (λZ H Q=>t Z H Q\/t' Z H Q):=λah s Z H Q I q=>q.elim (h ah s Z H Q I) (h' ah s Z H Q I)
def yj:aA->aA->Option aA
 |.int i,.int j=>aa (.bool (decide (i<j)))
 |.str i,.str j=>aa (.bool (decide (i.cps.toList<j.cps.toList)))
 |_,_=>ae
def gLe:aA->aA->Option aA
 |.int i,.int j=>aa (.bool (decide (i<=j)))
 |.str i,.str j=>aa (.bool (!(decide (j.cps.toList<i.cps.toList))))
 |_,_=>ae
def xh:aA->aA->Option aA:=yu λi j=>.bool (decide (j<i))
def gGe:aA->aA->Option aA:=yu λi j=>.bool (decide (j<=i))
theorem WB:sy K 0 (λx y H Q=>yv (λi j=>.bl (decide (i<j))) x y H Q\/∃ i j,x=.str i/\y=.str j/\Q (.bl (decide (i.cps.toList<j.cps.toList))) H) yj:=λP H x y a b d Q hP ra rb e k=>by
 unfold yj at e;split at e
 .cases e;exact .inl ⟨_,_,Aaj.1 ra,Aaj.1 rb,k.zero Ext.refl (Aax.2 rfl)⟩
 .cases e;exact .inr ⟨_,_,(Aa3.1 ra).1,(Aa3.1 rb).1,k.zero Ext.refl (Aax.2 rfl)⟩
 .cases e
theorem UX:sy K 0 (yv λi j=>.bl (decide (j<i))) xh:=VE λ_ _ _=>Aax.2 rfl
def HU:aA->aA->Option aA
 |.none,.none=>aa (.bool af)
 |_,.none=>aa (.bool ag)
 |_,_=>ae
def mR:aA->aA->Option aA
 |.none,.none=>aa (.bool ag)
 |_,.none=>aa (.bool af)
 |_,_=>ae
theorem Ag{a:aA}{x:V}(r:Abg K H a x):decide (x=.non)=(match a with|.none=>af|_=>ag):=by
 cases a with
 |none=>obtain rfl:=Abt.1 r;rfl
 |bool b=>obtain rfl:=Aax.1 r;rfl
 |int b=>obtain rfl:=Aaj.1 r;rfl
 |str b=>obtain⟨rfl,_⟩:=Aa3.1 r;rfl
 |list b=>obtain⟨_,_,rfl,_⟩:=Aa6.1 r;rfl
 |tuple b=>obtain⟨_,_,rfl,_⟩:=Aar.1 r;rfl
 |dict b=>obtain⟨_,rfl,_⟩:=Ac6.1 r;rfl
theorem Rp:sy K 0 (λx y H Q=>y=.non/\Q (.bl (decide (x=.non))) H) HU:=λP H x y a b d Q hP ra rb e k=>by
 have q:=Ag ra;unfold HU at e;split at e
 .cases e;exact⟨Abt.1 rb,k.zero Ext.refl (Aax.2 (by rw[q]))⟩
 .rename_i h;cases e;refine⟨Abt.1 rb,k.zero Ext.refl (Aax.2 ?_)⟩;rw[q];cases a<;>first|rfl|exact(h rfl).elim
 .cases e
theorem Wy:sy K 0 (λx y H Q=>y=.non/\Q (.bl (!decide (x=.non))) H) mR:=λP H x y a b d Q hP ra rb e k=>by
 have q:=Ag ra;unfold mR at e;split at e
 .cases e;exact⟨Abt.1 rb,k.zero Ext.refl (Aax.2 (by rw[q];rfl))⟩
 .rename_i h;cases e;refine⟨Abt.1 rb,k.zero Ext.refl (Aax.2 ?_)⟩;rw[q];cases a<;>first|rfl|exact(h rfl).elim
 .cases e
def bR:aA->Option aI
 |.int i=>aa (.inl i)
 |.str x=>aa (.inr x)
 |_=>ae
theorem vY(h:bR d=aa k):d=kD k:=by
 cases d<;>simp[bR] at h<;>subst h<;>rfl
def bI (kds:List (aA×aA))(k:aI):Option aA:=(kds.find? λkd=>decide (bR kd.1=aa k)).map (·.2)
theorem Abv (k:aI):bR (kD k)=aa k:=by cases k<;>rfl
theorem tO:∀ {kds:List (aA×aA)} {kvs:List (aI×V)},Abo K H kds kvs->(bI kds k=ae/\fH kvs k=ae)\/∃ d v,bI kds k=aa d/\fH kvs k=aa v/\Abg K H d v
 |[],kvs,h=>by rw[Abm.1 h];exact .inl ⟨rfl,rfl⟩
 |(k0,d)::r,kvs,h=>by
  obtain⟨k',x,rr,rfl,rfl,h1,h2⟩:=Aa4.1 h;by_cases e:k'=k
  .refine .inr ⟨d,x,?_,vO e,h1⟩;simp[bI,fF,Abv,e]
  .have e1:bI ((kD k',d)::r) k=bI r k:=by simp[bI,fF,Abv,e]
   rw[e1,tJ e];exact tO h2
theorem Do:∀ {kds:List (aA×aA)} {kvs:List (List aA×V)},Ab6 K H kds kvs->bI kds k=ae
 |[],kvs,h=>rfl
 |(k0,d)::r,kvs,h=>by
  obtain⟨k',x,rr,rfl,⟨rfl,_⟩,h1,h2⟩:=Abw.1 h;have e1:bI ((.tuple k',d)::r) k=bI r k:=by simp[bI,fF,bR]
  rw[e1];exact Do h2
theorem Xc(h:Abg K H (.dict kds) v)(e:bI kds k=aa d):∃ a,∃ kvs:Nat×List (aI×V),v=.ref a/\H a=aa (.dK kvs.1 kvs.2)/\Abo K H kds kvs.2:=by
 obtain⟨a,ev,⟨kvs,h1,r⟩|⟨ts,h1,r⟩|⟨xs,h1,r⟩⟩:=Ac6.1 h
 case inr.inr=>
  obtain⟨es,rfl,_⟩:=LZ r;cases e
 .exact⟨a,kvs,ev,h1,r⟩
 .cases kds with
  |nil=>simp[A2r] at r
  |cons p q=>
   obtain⟨k0,m⟩:=p;obtain⟨rfl,r2⟩:=Aes.1 r;have e1:bI ((.none,m)::q) k=bI q k:=by simp[bI,fF,bR]
   rw[e1,Do r2] at e;cases e
def iU (kds:List (aA×aA))(k:List aA):Option aA:=(kds.find? λkd=>bX kd.1 (.tuple k)).map (·.2)
theorem Fw (a b:List aA):bX (.tuple a) (.tuple b)=BB a b:=by simp[bX]
theorem Cu {a k:List aA}{r:List (aA×aA)}(ha:bO a=af)(hk:bO k=af):iU ((.tuple a,d)::r) k=if a=k then aa d else iU r k:=by
 have e:bX (.tuple a) (.tuple k)=decide (a=k):=by rw[Fw,zP _ _ ha hk]
 unfold iU;rw[fF,e];by_cases h:a=k
 .rw[if_pos h,decide_eq_true h];rfl
 .rw[if_neg h,decide_eq_false h]
theorem LL{k:List aA}(hk:bO k=af):∀ {kds:List (aA×aA)} {kvs:List (List aA×V)},Ab6 K H kds kvs->(iU kds k=ae/\fH kvs k=ae)\/∃ d v,iU kds k=aa d/\fH kvs k=aa v/\Abg K H d v
 |[],kvs,h=>by rw[Acw.1 h];exact .inl ⟨rfl,rfl⟩
 |(k0,d)::r,kvs,h=>by
  obtain⟨k',x,rr,rfl,⟨rfl,dz⟩,h1,h2⟩:=Abw.1 h;rw[Cu dz hk];by_cases e:k'=k
  .rw[if_pos e];exact .inr ⟨d,x,rfl,vO e,h1⟩
  .rw[if_neg e,tJ e];exact LL hk h2
def putD (kds:List (aA×aA))(k:aI)(d:aA):List (aA×aA):=
 if (kds.any λkd=>decide (bR kd.1=aa k))=af then kds.map λkd=>if bR kd.1=aa k then(kd.1,d) else kd else kds++[(kD k,d)]
theorem Fy:∀ {kds:List (aA×aA)} {kvs:List (aI×V)},Abo K H kds kvs->(kds.any λkd=>decide (bR kd.1=aa k))=kvs.any λkv=>decide (kv.1=k)
 |[],kvs,h=>by rw[Abm.1 h];rfl
 |(k0,d)::r,kvs,h=>by
  obtain⟨k',x,rr,rfl,rfl,h1,h2⟩:=Aa4.1 h;rw[xP,xP,Fy h2,Abv];simp
theorem KO(rv:Abg K H d v):∀ {kds:List (aA×aA)} {kvs:List (aI×V)},Abo K H kds kvs ->
  Abo K H (kds.map λkd=>if bR kd.1=aa k then(kd.1,d) else kd) (kvs.map λkv=>if kv.1=k then(kv.1,v) else kv)
 |[],kvs,h=>by rw[Abm.1 h];exact Abm.2 rfl
 |(k0,d0)::r,kvs,h=>by
  obtain⟨k',x,rr,rfl,rfl,h1,h2⟩:=Aa4.1 h;rw[dB,dB];by_cases e:k'=k
  .rw[if_pos (show bR (kD k',d0).1=aa k by rw[Abv,e]),if_pos (show(k',x).1=k from e)]
   exact Aa4.2 ⟨k',v,_,rfl,rfl,rv,KO rv h2⟩
  .rw[if_neg (show ¬ bR (kD k',d0).1=aa k by rw[Abv];simpa using e),if_neg (show ¬ (k',x).1=k from e)]
   exact Aa4.2 ⟨k',x,_,rfl,rfl,h1,KO rv h2⟩
theorem Abo.snoc(rv:Abg K H d v):∀ {kds:List (aA×aA)} {kvs:List (aI×V)},Abo K H kds kvs->Abo K H (kds++[(kD k,d)]) (kvs++[(k,v)])
 |[],kvs,h=>by rw[Abm.1 h];exact Aa4.2 ⟨k,v,[],rfl,rfl,rv,Abm.2 rfl⟩
 |(k0,d0)::r,kvs,h=>by
  obtain⟨k',x,rr,rfl,rfl,h1,h2⟩:=Aa4.1 h;exact Aa4.2 ⟨k',x,_,rfl,rfl,h1,Abo.snoc rv h2⟩
theorem DV{kvs:List (aI×V)}(h:Abo K H kds kvs)(rv:Abg K H d v):Abo K H (putD kds k d) (putK kvs k v):=by
 unfold putD putK;rw[Fy h];by_cases q:(kvs.any λkv=>decide (kv.1=k))=af
 .rw[if_pos q,if_pos q];exact KO rv h
 .rw[if_neg q,if_neg q];exact Abo.snoc rv h
theorem Abo.length:∀ {kds:List (aA×aA)} {kvs:List (aI×V)},Abo K H kds kvs->kvs.length=kds.length
 |[],kvs,h=>by rw[Abm.1 h];rfl
 |(k0,d0)::r,kvs,h=>by
  obtain⟨k',x,rr,rfl,rfl,h1,h2⟩:=Aa4.1 h;rw[fE,fE,Abo.length h2]
theorem lC{x:V}(h:bR d=aa k)(r:Abg K H d x):x=kV k:=by
 rw[vY h] at r;exact Zf r
def ar:aA->aA->Option aA
 |.list ds,.int i=>mn ds i
 |.tuple ds,.int i=>mn ds i
 |.str z,.int i=>if z.length<=sizeLine then(mn z.cps.toList i).bind λc=>aa (.str ⟨#[c]⟩) else ae
 |.dict kds,d=>(bR d).bind λk=>bI kds k
 |_,_=>ae
theorem JJ{i:Int}(r:Aao K H ds xs)(h:mn ds i=aa d):∃ v,mn xs i=aa v/\Abg K H d v:=by
 unfold mn at h ⊢;rw[r.length];obtain⟨j,h1,h2⟩:=ao h;obtain⟨v,h3,h4⟩:=r.get h2;exact⟨v,by rw[h1];exact h3,h4⟩
theorem Ud {α:Type}{xs:List α}{i:Int}{x:α}(h:mn xs i=aa x):∃ j:Nat,xs[j]?=aa x:=by
 unfold mn at h;obtain⟨j,h1,h2⟩:=ao h;exact⟨j,h2⟩
section
variable {a:aR}{fa fb f:EF}
theorem Nk (hu:X.A.units+40<cLine)(ha:DE X a fa)(hb:DE X b fb)(hs:DJ b):DE X (.Subscript a b pos) (ai ar fa fb):=PE.imp (PE.or (IM OU ha hb hs) (Fo hu ha hb hs)) λZ H Q h=>by
 obtain⟨P,Y,d,hP,rs,ef,k⟩:=h;obtain⟨d1,e1,bx⟩:=ao ef;obtain⟨d2,e2,bv⟩:=ao bx;clear ef bx;have seq:(∀ (H2:Hp) (v u:V),Ext H H2->Abg X.K (hid H2 P) d1 v->Abg X.K (hid H2 P) d2 u->rIx X.K v u H2 Q)->W5 (rIx X.K) (tF X.K 0 fa) (tF X.K 0 fb) Z H Q:=λz=>
  ⟨P,Y,d1,hP,rs,e1,dY λv H1 x1 r1=>⟨P,Y,d2,hP.ext x1,rs.ext (cT x1),e2,dY λu H2 x2 r2=>z H2 v u (x1.trans x2) (r1.ext (cT x2)) r2⟩⟩
 cases d1 with
 |list ds=>
  cases d2 with
  |int i=>
   refine .inl (seq λH2 v u x r1 r2=>.inl ?_)
   obtain⟨q,xs,rfl,hq,rr⟩:=Aa6.1 r1;obtain⟨w,h1,h2⟩:=JJ rr (show mn ds i=aa d from bv)
   exact⟨q,xs,i,w,rfl,Aaj.1 r2,Aap.sqL hq,h1,k.zero x h2⟩
  |_=>cases bv
 |tuple ds=>
  cases d2 with
  |int i=>
   refine .inl (seq λH2 v u x r1 r2=>.inr (.inl ?_))
   obtain⟨q,xs,rfl,hq,rr⟩:=Aar.1 r1;obtain⟨w,h1,h2⟩:=JJ rr (show mn ds i=aa d from bv)
   exact⟨q,xs,i,w,rfl,Aaj.1 r2,SqT.of (Aap _ _ hq),h1,k.zero x h2⟩
  |_=>cases bv
 |str z=>
  cases d2 with
  |int i=>
   have bv:(if z.length<=sizeLine then(mn z.cps.toList i).bind λc=>aa (.str ⟨#[c]⟩) else ae)=aa d:=bv
   by_cases hz:z.length<=sizeLine
   .rw[if_pos hz] at bv;obtain⟨c,h1,h2⟩:=ao bv;cases h2;obtain⟨j,hj⟩:=Ud h1;refine .inl (seq λH2 v u x r1 r2=>.inr (.inr ⟨z,i,c,(Aa3.1 r1).1,Aaj.1 r2,hz,h1,k.zero x (Aa3.2 ⟨rfl,LG (Aa3.1 r1).2 hj⟩)⟩))
   .rw[if_neg hz] at bv;cases bv
  |_=>cases bv
 |dict kds=>
  obtain⟨kk,h1,h2⟩:=ao (show((bR d2).bind λk=>bI kds k)=aa d by cases d2<;>exact bv)
  refine .inr ⟨P,Y,_,hP,rs,e1,dY λv H1 x1 r1=>⟨P,Y,d2,hP.ext x1,rs.ext (cT x1),e2,dY λu H2 x2 r2=>?_⟩⟩
  obtain⟨q,kvs,rfl,hq,rr⟩:=Xc (r1.ext (cT x2)) h2;rcases tO rr with⟨n1,_⟩|⟨d',v',s1,s2,rd⟩
  .rw[h2] at n1;cases n1
  .rw[h2] at s1;cases s1;refine⟨q,v',rfl,.inl ⟨kvs.1,kvs.2,kk,.inl (Aap _ _ hq),lC h1 r2,s2.symm⟩,k.zero (x1.trans x2) rd⟩
 |_=>cases d2<;>cases bv
def SM (neg:Bool):aA->List (aA×aA)->Option aA
 |.tuple _,(_,.list _)::_=>ae
 |.tuple k,(_,_)::kds=>if (bO k&&decide (cP k<=6))=af then aa (.bool (neg != (iU kds k).isSome)) else ae
 |_,_=>ae
def pv (neg:Bool):aA->aA->Option aA
 |d,.list ds=>if (cU d&&noDicts ds)=af then aa (.bool (neg != ds.any λz=>bX z d)) else ae
 |d,.tuple ds=>if (cU d&&noDicts ds)=af then aa (.bool (neg != ds.any λz=>bX z d)) else ae
 |.str i,.str j=>aa (.bool (neg != !(SC j i 0 j.length 1).isEmpty))
 |d,.dict kds=>if jg kds=af then(bR d).bind λk=>aa (.bool (neg != (bI kds k).isSome)) else SM neg d kds
 |_,_=>ae
def PH (K:aJ)(neg:Bool):R2:=λx y H Q=>HY K neg x y H Q\/(∃ i j,x=.str i/\y=.str j/\Q (.bl (neg != !(SC j i 0 j.length 1).isEmpty)) H)\/∃ a o,y=.ref a/\Bab H a x o/\Q (.bl (neg != o.isSome)) H
theorem vP (hu:X.A.units+100<cLine):OpR X (gU .In) (PH X.K ag):=by
 rw[4];rcases h with h|⟨i,j,ex,ey,q⟩|⟨a,o,rfl,g,q⟩
 .exact Qd hu ah s Z H x y v u Q I rx ry h
 .exact E1 ah s Z H x y v u Q I rx ry ⟨i,j,ex,ey,by simpa using q⟩
 .cases ry;exact Le (by omega) I g rx λs' I'=>⟨.bl _,H,I',rfl,by simpa using q⟩
theorem NK (hu:X.A.units+100<cLine):OpR X (gU .NotIn) (PH X.K af):=by
 rw[4];rcases h with h|⟨i,j,ex,ey,q⟩|⟨a,o,rfl,g,q⟩
 .exact A8 hu ah s Z H x y v u Q I rx ry h
 .exact f9 ah s Z H x y v u Q I rx ry ⟨i,j,ex,ey,by simpa using q⟩
 .cases ry;exact Uu (by omega) I g rx λs' I'=>⟨.bl _,H,I',rfl,by simpa using q⟩
theorem pI{neg:Bool}:sy K 0 (PH K neg) (pv neg):=λP H x y a b d Q hP ra rb e k=>by
 unfold pv at e;split at e
 .obtain⟨hc,rfl⟩:=cG e;have ji:=jQ.1 hc;exact .inl ⟨a,_,ra.ext Aap,.inl (rb.ext Aap),ji.1,ji.2,k.zero Ext.refl (Aax.2 rfl)⟩
 .obtain⟨hc,rfl⟩:=cG e;have ji:=jQ.1 hc;exact .inl ⟨a,_,ra.ext Aap,.inr (rb.ext Aap),ji.1,ji.2,k.zero Ext.refl (Aax.2 rfl)⟩
 .cases e;exact .inr (.inl ⟨_,_,(Aa3.1 ra).1,(Aa3.1 rb).1,k.zero Ext.refl (Aax.2 rfl)⟩)
 .rename_i kds;by_cases pk:jg kds=af
  case neg=>
   rw[if_neg pk] at e;have ek:∃ m r,kds=(.none,m)::r:=by
    cases kds with
    |nil=>simp[jg] at pk
    |cons p r=>
     obtain⟨k0,m⟩:=p;cases k0<;>simp[jg] at pk;exact⟨m,r,rfl⟩
   obtain⟨m,r,rfl⟩:=ek;cases a with
   |tuple kk=>
    have hm:∀ es,m ≠ .list es:=by
     rintro es rfl;cases e
    replace e:(if (bO kk&&decide (cP kk<=6))=af then aa (jO (neg != (iU r kk).isSome)) else ae)=aa d:=by
     cases m with
     |list es=>exact absurd rfl (hm es)
     |_=>exact e
    obtain⟨hc,rfl⟩:=cG e;have ji:bO kk=af/\cP kk<=6:=by simpa using hc
    obtain⟨q,ts,rfl,hq,rr⟩:=(zN hm).1 rb;obtain⟨b,xs,rfl,hb,rx⟩:=Aar.1 (ra.ext Aap);refine .inr (.inr ⟨q,fH ts.2 kk,rfl,.inr ⟨ts.2,kk,b,⟨_,.inl (Aap _ _ hq)⟩,rfl,⟨ji.1,ji.2,xs,hb,Aao.keys kk ji.1 rx⟩,rfl⟩,k.zero Ext.refl (Aax.2 ?_)⟩);rcases LL ji.1 rr with⟨n1,n2⟩|⟨d',v',s1,s2,rd⟩
    .rw[n1,n2];rfl
    .rw[s1,s2];rfl
   |_=>simp[SM] at e
  rw[if_pos pk] at e;obtain⟨kk,h1,h2⟩:=ao e;cases h2;obtain⟨q,kvs,rfl,hq,rr⟩:=(rD pk).1 rb;refine .inr (.inr ⟨q,fH kvs.2 kk,rfl,.inl ⟨kvs.1,kvs.2,kk,.inl (Aap _ _ hq),lC h1 ra,rfl⟩,k.zero Ext.refl (Aax.2 ?_)⟩);rcases tO rr with⟨n1,n2⟩|⟨d',v',s1,s2,rd⟩
  .rw[n1,n2];rfl
  .rw[s1,s2];rfl
 .cases e
end
def cJ:List aA->Option aA
 |[.list ds]=>aa (.int ds.length)
 |[.tuple ds]=>aa (.int ds.length)
 |[.dict kds]=>if jg kds=af then aa (.int kds.length) else ae
 |[.str z]=>if z.length<=sizeLine then aa (.int z.length) else ae
 |_=>ae
theorem fV(r:Aao K H [d] xs):∃ v,xs=[v]/\Abg K H d v:=by
 obtain⟨v,t,rfl,h1,h2⟩:=Aaf.1 r;obtain rfl:=Aak.1 h2;exact⟨v,rfl,h1⟩
section
def TM (K:aJ):List V->Hp->VK->Prop:=λxs H Q=>(∃ p ys,xs=[.ref p]/\(SqL K H p ys\/SqT K H p ys)/\Q (.int ys.length) H)\/(∃ z,xs=[.str z]/\z.length<=sizeLine/\Q (.int z.length) H)\/∃ a ep kvs,xs=[V.ref a]/\H a=aa (.dK ep kvs)/\Q (.int kvs.length) H
theorem Zk:Acy X (.builtin "len") (TM X.K):=Aul.or (Auj.or t4)
theorem D8:CallD K 0 (TM K) cJ:=λP H xs ds d Q hP r e k=>by
 unfold cJ at e;split at e
 .cases e;rw[9];obtain⟨q,ys,rfl,hq,rr⟩:=Aa6.1 r;exact .inl ⟨q,ys,rfl,.inl (Aap.sqL hq),k.zero Ext.refl (Aaj.2 (by rw[rr.length]))⟩
 .cases e;rw[9];obtain⟨q,ys,rfl,hq,rr⟩:=Aar.1 r;exact .inl ⟨q,ys,rfl,.inr (SqT.of (Aap _ _ hq)),k.zero Ext.refl (Aaj.2 (by rw[rr.length]))⟩
 .obtain⟨pk,rfl⟩:=cG e;rw[9];obtain⟨q,ys,rfl,hq,rr⟩:=(rD pk).1 r;exact .inr (.inr ⟨q,ys.1,ys.2,rfl,Aap _ _ hq,k.zero Ext.refl (Aaj.2 (by rw[rr.length]))⟩)
 .obtain⟨hz,rfl⟩:=cG e;rw[9];exact .inr (.inl ⟨_,by rw[(Aa3.1 r).1],hz,k.zero Ext.refl (Aaj.2 rfl)⟩)
 .cases e
def kI:aA->String
 |.none=>"NoneType"
 |.bool _=>"bool"
 |.int _=>"int"
 |.str _=>"str"
 |.list _=>"list"
 |.tuple _=>"tuple"
 |.dict _=>"dict"
def XF:List String:=["int","bool","str","list","tuple","dict"]
theorem A4 (d:aA):kI d∈kinds:=by cases d<;>simp[kI,kinds]
theorem D5:Acy X (.builtin "isinstance") (λxs H Q=>∃ x T d,xs=[x,.ty T]/\Abg X.K H d x/\T∈XF/\Q (.bl (wy (kI d) T)) H):=by
 rw[5];obtain⟨x,T,d,rfl,rd,hT,q⟩:=h;have ek:=Ta (A4 d) hT;have by_ty:TyOf X.K H x (.type (kI d))->aM (aO X.prog X.w) X.A (call (.builtin "isinstance") us) (EP X ah Z Q) X.xe s:=λty=>
  Ze ah s Z H _ us Q I r ⟨x,T,_,wy (kI d) T,rfl,ty,Amz.trans ek,q⟩
 cases d with
 |none=>obtain rfl:=Abt.1 rd;exact by_ty .non
 |bool b=>obtain rfl:=Aax.1 rd;exact by_ty (.bl _)
 |int b=>obtain rfl:=Aaj.1 rd;exact by_ty (.int _)
 |str b=>obtain⟨rfl,_⟩:=Aa3.1 rd;exact by_ty (.str _)
 |list b=>
  obtain⟨a,ys,rfl,h,_⟩:=Aa6.1 rd;obtain⟨u,w',rfl,ru,ql⟩:=vals2 r;cases ql;cases ru;obtain⟨its,_,⟨o,n,e1,hc,_,_⟩,_⟩:=I.list h;exact mH Ih I.kIn ⟨o,e1,hc⟩ (Amz.trans ek) (λz=>nomatch z) λtk=>⟨.bl _,H,I.tok tk,rfl,q⟩
 |tuple b=>obtain⟨_,_,rfl,h,_⟩:=Aar.1 rd;exact by_ty (.tup h)
 |dict b=>
  obtain⟨_,rfl,⟨_,h,_⟩|⟨_,h,_⟩|⟨_,h,_⟩⟩:=Ac6.1 rd
  .exact by_ty (.dK h)
  .exact by_ty (.dT h)
  .obtain⟨u,w',rfl,ru,ql⟩:=vals2 r;cases ql;cases ru;obtain⟨⟨_,_,o,_,e1,hc,_⟩,_⟩:=I.hok _ _ h;exact mH Ii I.kIn ⟨o,e1,hc.1⟩ (Amz.trans ek) (λz=>nomatch z) λtk=>⟨.bl _,H,I.tok tk,rfl,q⟩
def eA (T:String):aA->Option aA:=λd=>aa (.bool (wy (kI d) T))
variable {a:aR}{f:EF}{fa:AF}{ay bc:bQ}
theorem GB(X7:Gl X "isinstance")(hm:X.mg "isinstance" = ae)(hg:Gl X x)(hmx:X.mg x=ae)(hv:nK x=aa (.type T))(hT:T∈XF)(he:DE X e f)
  (hn:x ≠ "__name__":=by decide) (hd:(x==("__debug__" : aE))=ag:=by decide) (vp:bJ (e::[.Name x p2]) X.env=(ag,bK e X.env)::bJ [.Name x p2] X.env:=by rfl)
  (jz:bJ (.Name x p2::[]) X.env=(ag,bK (.Name x p2) X.env)::bJ [] X.env:=by rfl) (iw:(fY pos (bJ [.Name x p2] X.env)).any (·.1)=ag:=by rfl):DE X (.Call (.Name "isinstance" p) [e,.Name x p2] [] pos) (iq (eA T) f):=
 PE.imp (EO D5 X7 hm boot_isinstance (hZ he (hZ (Mg hg hmx hv hn hd) jK jz) vp) (by decide) (by decide) vp iw) λZ H Q gh=>by
  rw[6];obtain⟨d1,e1,ef⟩:=ao ef;cases ef;exact⟨P,Y,d1,hP,rs,e1,dY λv H1 x1 r1=>⟨v,T,d1,rfl,r1.ext Aap,hT,k.zero x1 (Aax.2 rfl)⟩⟩
def kX:List aA->Option aA
 |[.list ds]=>aa (.tuple ds)
 |[.tuple ds]=>aa (.tuple ds)
 |_=>ae
theorem tQ:CallD K 0 (λxs H Q=>∃ p ys,xs=[.ref p]/\((SqL K H p ys/\∀ l,H l=ae->Q (.ref l) (au H l (.tup ys)))\/(SqT K H p ys/\Q (.ref p) H))) kX:=λP H xs ds d Q hP r e k=>by
 unfold kX at e;split at e
 .cases e;rw[9];obtain⟨q,ys,rfl,hq,rr⟩:=Aa6.1 r;exact⟨q,ys,rfl,.inl ⟨Aap.sqL hq,λl hl=>k.tup hP hl rr⟩⟩
 .cases e;rw[9];obtain⟨q,ys,rfl,hq,rr⟩:=Aar.1 r;exact⟨q,ys,rfl,.inr ⟨SqT.of (Aap _ _ hq),k.zero Ext.refl r⟩⟩
 .cases e
def nX:List aA->Option aA
 |[.list ds]=>aa (.list ds)
 |[.tuple ds]=>aa (.list ds)
 |[.str z]=>if z.length<=sizeLine then aa (.list (z.cps.toList.map λc=>.str ⟨#[c]⟩)) else ae
 |_=>ae
def UC (K:aJ):List V->Hp->VK->Prop:=λxs H Q=>(∃ p ys,xs=[.ref p]/\(SqL K H p ys\/SqT K H p ys)/\∀ l,H l=ae->Q (.ref l) (au H l (.lst ys)))\/∃ z:aE,xs=[.str z]/\z.length<=sizeLine/\∀ l,H l=ae->Q (.ref l) (au H l (.lst (z.cps.toList.map sQ)))
theorem j9 (hc:X.calm=af):Acy X (.type "list") (UC X.K):=Aty.or (K5 hc)
theorem Cp:∀ {cs:List Nat},(∀ c∈cs,cM (.str ⟨#[c]⟩)=af)->Aao K H (cs.map λc=>.str ⟨#[c]⟩) (cs.map sQ)
 |[],_=>Aak.2 rfl
 |c::r,h=>Aaf.2 ⟨_,_,rfl,Aa3.2 ⟨rfl,h c bE⟩,Cp λc' m=>h c' (bH _ m)⟩
theorem K8:CallD K 1 (UC K) nX:=λP H xs ds d Q hP r e k=>by
 unfold nX at e;split at e
 .cases e;rw[9];obtain⟨q,ys,rfl,hq,rr⟩:=Aa6.1 r;exact .inl ⟨q,ys,rfl,.inl (Aap.sqL hq),λl hl=>k.lst hP hl rr⟩
 .cases e;rw[9];obtain⟨q,ys,rfl,hq,rr⟩:=Aar.1 r;exact .inl ⟨q,ys,rfl,.inr (SqT.of (Aap _ _ hq)),λl hl=>k.lst hP hl rr⟩
 .obtain⟨hz,rfl⟩:=cG e;rw[9];refine .inr ⟨_,by rw[(Aa3.1 r).1],hz,λl hl=>k.lst hP hl (Cp λc m=>?_)⟩
  obtain⟨j,hj⟩:=GW.1 m;exact LG (Aa3.1 r).2 hj
 .cases e
def TH:List aA->Option aA
 |[.int i]=>aa (.int i)
 |[.bool b]=>aa (.int (if b then 1 else 0))
 |_=>ae
def sA:List aA->Option (List Bool)
 |[]=>aa []
 |.bool b::r=>(sA r).bind λbs=>aa (b::bs)
 |_::_=>ae
def xW:List aA->Option aA
 |[.list ds]=>(sA ds).bind λbs=>aa (.bool (bs.all id))
 |_=>ae
theorem XS:∀ {ds:List aA} {xs:List V} {bs:List Bool},sA ds=aa bs->Aao K H ds xs->xs=bs.map V.bl
 |[],xs,bs,e,r=>by
  cases e;rw[Aak.1 r];rfl
 |.bool b::ds,xs,bs,e,r=>by
  obtain⟨bs',e1,e2⟩:=ao (show((sA ds).bind λbs=>aa (b::bs))=aa bs from e)
  cases e2;obtain⟨v,t,rfl,h1,h2⟩:=Aaf.1 r;rw[Aax.1 h1,XS e1 h2];rfl
 |.none::_,_,_,e,_=>by cases e
 |.int _::_,_,_,e,_=>by cases e
 |.str _::_,_,_,e,_=>by cases e
 |.list _::_,_,_,e,_=>by cases e
 |.tuple _::_,_,_,e,_=>by cases e
 |.dict _::_,_,_,e,_=>by cases e
theorem A9:CallD K 0 (λxs H Q=>∃ p ys,xs=[.ref p]/\SqL K H p ys/\(∀ y∈ys,∃ b,y=.bl b)/\Q (.bl (allB ys)) H) xW:=λP H xs ds d Q hP r e k=>by
 unfold xW at e;split at e
 .obtain⟨bs,e1,e2⟩:=ao e;cases e2;rw[9];obtain⟨q,ys,rfl,hq,rr⟩:=Aa6.1 r;obtain rfl:=XS e1 rr;refine⟨q,_,rfl,Aap.sqL hq,λy m=>?_,k.zero Ext.refl (Aax.2 ?_)⟩
  .obtain⟨b,_,rfl⟩:=bL.1 m;exact⟨b,rfl⟩
  .unfold allB;rw[List.all_map]
   congr 2
   funext b;cases b<;>rfl
 .cases e
def cutD (ds:List aA)(lo hi:Option Int):List aA:=(ds.drop (HT.sIx ds.length 0 lo)).take (HT.sIx ds.length ds.length hi-HT.sIx ds.length 0 lo)
abbrev OF:=List (Option aA)->Option (Option Int)
def tOF (K:aJ)(f:OF):TO:=λZ H Q=>∃ P Y o,Hid P H/\Aom K (hid H P) Y Z/\f Y=aa o/\∀ H',Ext H H'->Q o H'
abbrev DO (X:Cx)(e:Option aR)(f:OF):Prop:=PO X e (tOF X.K f)
def oN:OF:=λ_=>aa ae
def oS (f:EF):OF:=λY=>(f Y).bind λd=>match d with
 |.int i=>aa (aa i)
 |_=>ae
theorem PO.imp {o:Option aR}{t t':TO}(h:PO X o t)(w:∀ Z H Q,t' Z H Q->t Z H Q):PO X o t':=λah s Z H Q I q=>h ah s Z H Q I (w _ _ _ q)
theorem So:DO X ae oN:=PO.imp Uz λZ H Q gh=>by
 obtain⟨P,Y,o,hP,rs,ef,k⟩:=gh;cases ef;exact k H Ext.refl
theorem Rb (h:DE X e f):DO X (aa e) (oS f):=PO.imp (Sy h) λZ H Q gh=>by
 obtain⟨P,Y,o,hP,rs,ef,k⟩:=gh;rw[17];refine⟨P,Y,d,hP,rs,e1,dY λv H1 x1 r1=>?_⟩
 cases d with
 |int i=>cases ef;exact⟨i,Aaj.1 r1,k H1 x1⟩
 |_=>cases ef
theorem JK {α:Type}{c:Prop}[Decidable c]{x:Option α}{y:α}(h:(if c then x else ae)=aa y):c/\x=aa y:=by
 by_cases e:c
 .rw[if_pos e] at h;exact⟨e,h⟩
 .rw[if_neg e] at h;cases h
def IR:aA->aA->aA->Option aA
 |.dict kds,k,x=>if jg kds=af then(bR k).bind λk=>aa ((bI kds k).getD x) else ae
 |_,_,_=>ae
def mQ (fd fk fx:EF):EF:=λY=>(fd Y).bind λd=>(fk Y).bind λk=>(fx Y).bind λx=>IR d k x
theorem Sm {o k z:aR}{fd fk fx:EF}(hu:X.A.units+40<cLine)(ho:DE X o fd)(hk:DE X k fk)(hz:DE X z fx)(m:M2 X o "get" ay k z bc:=by exact⟨rfl,rfl,rfl,rfl⟩):DE X (.Call (.Attribute o "get" ay) [k,z] [] bc) (mQ fd fk fx):=
 PE.imp (Xe hu ho hk hz m) λZ H Q gh=>by
  obtain⟨P,Y,d,hP,rs,ef,kk⟩:=gh;obtain⟨d1,e1,bx⟩:=ao ef;obtain⟨d2,e2,bv⟩:=ao bx;obtain⟨d3,e3,dL⟩:=ao bv;clear ef bx bv;cases d1 with
  |dict kds=>
   obtain⟨pk,jl⟩:=JK (show(if jg kds=af then(bR d2).bind λk=>aa ((bI kds k).getD d3) else ae)=aa d from dL)
   obtain⟨key,h1,h2⟩:=ao jl;cases h2;refine⟨P,Y,_,hP,rs,e1,dY λv H1 x1 r1=>?_⟩
   obtain⟨q,kvs,rfl,hq,rr⟩:=(rD pk).1 r1;refine⟨q,rfl,.inl ⟨kvs.1,kvs.2,.inl (Aap _ _ hq)⟩,P,Y,d2,hP.ext x1,rs.ext (cT x1),e2,dY λu H2 x2 r2=>⟨P,Y,d3,hP.ext (x1.trans x2),rs.ext (cT (x1.trans x2)),e3,dY λw H3 x3 r3=>?_⟩⟩
   refine⟨fH kvs.2 key,.inl ⟨kvs.1,kvs.2,key,.inl (x3 _ _ (x2 _ _ (Aap _ _ hq))),lC h1 r2,rfl⟩,kk.zero ((x1.trans x2).trans x3) ?_⟩;rcases tO (rr.ext (cT (x2.trans x3))) with⟨n1,n2⟩|⟨d',v',s1,s2,rd⟩
   .rw[n1,n2];exact r3
   .rw[s1,s2];exact rd
  |_=>cases dL
theorem Res.dic{P:aC->Prop}{ep:Nat}{kvs:List (aI×V)}{q:aC}(hP:Hid P H)(h:Res K P 1 (.dict kds) H Q)(n:H q=ae)(r:Abo K (hid H P) kds kvs):Q (.ref q) (au H q (.dK ep kvs)):=by
 refine h (.ref q) _ [q] (Ext.new n) (kC.2 ⟨by simp,.nil⟩) (λa m=>?_) ⟨q,(ep,kvs),kvs.map λ_=>[],rfl,eB,?_,?_⟩
 .have:a=q:=by simpa using m
  rw[19];exact⟨n,_,eB⟩
 .have:∀ l:List (aI×V),(l.map λ_=>([]:List aC)).flatten=[]:=λl=>by
   induction l with
   |nil=>rfl
   |cons a l ih=>rw[dB,nP,ih];rfl
  rw[this]
 .have xe:Ext (hid H P) (hid (au H q (.dK ep kvs)) (ki P [q])):=λb o e=>by
   obtain⟨nb,e⟩:=Aco.1 e;have hb:=kN e n;exact gM (λz=>z.elim nb λm=>hb (by simpa using m)) (by rw[dF hb];exact e)
  generalize hid (au H q (.dK ep kvs)) (ki P [q])=B at xe;generalize au H q (.dK ep kvs)=H1;clear h;have go:∀ (ds:List (aA×aA)) (xs:List (aI×V)),Abo K (hid H P) ds xs->All3 (λ(kd:aA×aA) (kv:aI×V) f=>kd.1=kD kv.1/\Aga K B H1 0 kd.2 kv.2 f) ds xs (xs.map λ_=>[]):=by
   intro ds;induction ds with
   |nil=>intro xs r;rw[Abm.1 r];exact .nil
   |cons d ds ih=>
    intro xs r;obtain⟨k',y,t,rfl,ek,h1,h2⟩:=Aa4.1 (show Abo K (hid H P) ((d.1,d.2)::ds) xs from r)
    exact .cons ⟨ek,rfl,h1.ext xe⟩ (ih t h2)
  exact go kds kvs r
theorem Ru:DF 1 X (.Dict [] [] pos) (eC (.dict [])):=PE.imp YE λZ H Q gh=>by
 rw[6];cases ef;exact λq hq=>k.dic hP hq (Abm.2 rfl)
def II:List aA->Option aA
 |[.dict kds]=>if jg kds=af then aa (.dict kds) else ae
 |_=>ae
theorem N4:Acy X (.type "dict") (λxs H Q=>∃ a ep kvs,xs=[.ref a]/\H a=aa (.dK ep kvs)/\∀ p n,H p=ae->Q (.ref p) (au H p (.dK n kvs))):=by
 rw[5];obtain⟨a,ep,kvs,rfl,ha,q⟩:=h;rw[7];exact Ya I (.inl ha) λp n s' hp I'=>⟨.ref p,_,I',rfl,q p n hp⟩
theorem G6:CallD K 1 (λxs H Q=>∃ a ep kvs,xs=[.ref a]/\H a=aa (.dK ep kvs)/\∀ p n,H p=ae->Q (.ref p) (au H p (.dK n kvs))) II:=λP H xs ds d Q hP r e k=>by
 unfold II at e;split at e
 .obtain⟨pk,rfl⟩:=cG e;rw[9];obtain⟨q,ys,rfl,hq,rr⟩:=(rD pk).1 r;exact⟨q,ys.1,ys.2,rfl,Aap _ _ hq,λl n hl=>k.dic hP hl rr⟩
 .cases e
end
section
variable {Y:aU}
theorem An:∀ {ds:List aA} {xs:List V} {Fs:List (List aC)},All3 (Agt K B H 0) ds xs Fs->Aao K B ds xs/\Fs.flatten=[]:=by
 intro ds xs Fs h;induction h with
 |nil=>exact⟨Aak.2 rfl,rfl⟩
 |cons h t ih=>
  obtain⟨rfl,r⟩:=h;exact⟨Aaf.2 ⟨_,_,rfl,r,ih.1⟩,by rw[nP,ih.2];rfl⟩
theorem M6:∀ {ds:List (aA×aA)} {xs:List (aI×V)} {Fs:List (List aC)},All3 (λ(kd:aA×aA) (kv:aI×V) f=>kd.1=kD kv.1/\Agt K B H 0 kd.2 kv.2 f) ds xs Fs->Abo K B ds xs/\Fs.flatten=[]:=by
 intro ds xs Fs h;induction h with
 |nil=>exact⟨Abm.2 rfl,rfl⟩
 |@cons p q F ds xs Fs h t ih=>
  obtain⟨k,d⟩:=p;obtain⟨k',v⟩:=q;obtain⟨ek,rfl,r⟩:=h;exact⟨Aa4.2 ⟨_,_,_,rfl,ek,r,ih.1⟩,by rw[nP,ih.2];rfl⟩
theorem MC:∀ {ds:List aA} {xs:List V},Aao K B ds xs->All3 (Agt K B H1 0) ds xs (xs.map λ_=>[])/\(xs.map λ_=>([]:List aC)).flatten=[]
 |[],xs,r=>by rw[Aak.1 r];exact⟨.nil,rfl⟩
 |d::ds,xs,r=>by
  obtain⟨y,t,rfl,h1,h2⟩:=Aaf.1 r;obtain⟨q1,q2⟩:=MC h2;exact⟨.cons ⟨rfl,h1⟩ q1,by rw[dB,nP,q2];rfl⟩
theorem Da:∀ {ds:List (aA×aA)} {xs:List (aI×V)},Abo K B ds xs->All3 (λ(kd:aA×aA) (kv:aI×V) f=>kd.1=kD kv.1/\Agt K B H1 0 kd.2 kv.2 f) ds xs (xs.map λ_=>[])/\(xs.map λ_=>([]:List aC)).flatten=[]
 |[],xs,r=>by rw[Abm.1 r];exact⟨.nil,rfl⟩
 |(k,d)::ds,xs,r=>by
  obtain⟨k',y,t,rfl,ek,h1,h2⟩:=Aa4.1 r;obtain⟨q1,q2⟩:=Da h2;exact⟨.cons ⟨ek,rfl,h1⟩ q1,by rw[dB,nP,q2];rfl⟩
theorem Sta.write {p:aC}{d':aA}(S:Sta K H0 P0 B0 Y Z H fp)(hi:i<Y.length)(hv:Z[i]?=aa (aa (.ref p)))(hp:p∈fp i)(ho:(∃ xs,o=.lst xs)\/∃ q:DQ,o=dO q)
  (new:Aga K (L2.hid H (Hd P0 fp)) (au H p o) 1 d' (.ref p) (fp i)):Sta K H0 P0 B0 (Y.set i (aa (1,d'))) Z (au H p o) fp:=by
 have hb:L2.hid (au H p o) (Hd P0 fp)=L2.hid H (Hd P0 fp):=by
  funext b;unfold L2.hid;by_cases q:Hd P0 fp b
  .rw[if_pos q,if_pos q]
  .rw[if_neg q,if_neg q];exact dF λz=>q (.inr ⟨i,by rw[z];exact hp⟩)
 refine⟨by simp[S.len],S.nd,S.dj,λj a m=>⟨(S.own j a m).1,?_⟩,λb u e=>?_,S.hd,by rw[hb];exact S.base,λj n d e=>?_⟩
 .by_cases q:a=p
  .subst q;rcases ho with⟨xs,rfl⟩|⟨xs,rfl⟩
   .exact .inl ⟨xs,eB⟩
   .exact .inr ⟨xs,eB⟩
  .rw[dF q];exact(S.own j a m).2
 .rw[dF (kN e (S.own i p hp).1)];exact S.ext b u e
 .by_cases q:j=i
  .subst q;rw[qG hi] at e;cases e;exact⟨_,hv,by rw[hb];exact new⟩
  .rw[mJ (λz=>q z.symm)] at e
   obtain⟨v,h1,h2⟩:=S.slot j n d e;refine⟨v,h1,?_⟩;rw[hb];exact h2.keep Ext.refl λa m=>dF λz=>q (S.dj j i a m (by rw[z];exact hp))
theorem Sta.lst1(S:Sta K H0 P0 B0 Y Z H fp)(e:Y[i]?=aa (aa (1,.list ds))):∃ p xs,Z[i]?=aa (aa (.ref p))/\H p=aa (.lst xs)/\Aao K (L2.hid H (Hd P0 fp)) ds xs /\
  ∀ wP qm,Aao K (L2.hid H (Hd P0 fp)) wP qm->Sta K H0 P0 B0 (Y.set i (aa (1,.list wP))) Z (au H p (.lst qm)) fp:=by
 obtain⟨v,h1,h2⟩:=S.slot i 1 _ e;obtain⟨p,xs,Fs,rfl,hp,hF,h3⟩:=h2;obtain⟨r,hn⟩:=An h3;rw[hn] at hF;refine⟨p,xs,h1,hp,r,λwP qm r'=>S.write (cX.1 e).1 h1 (by rw[hF];exact bE) (.inl ⟨_,rfl⟩) ?_⟩
 obtain⟨q1,q2⟩:=MC r';exact⟨p,qm,_,rfl,eB,by rw[hF,q2],q1⟩
theorem Sta.dic1 {ds:List (aA×aA)}(S:Sta K H0 P0 B0 Y Z H fp)(e:Y[i]?=aa (aa (1,.dict ds))):∃ p ep xs,Z[i]?=aa (aa (.ref p))/\H p=aa (.dK ep xs)/\Abo K (L2.hid H (Hd P0 fp)) ds xs /\
  ∀ n wP qm,Abo K (L2.hid H (Hd P0 fp)) wP qm->Sta K H0 P0 B0 (Y.set i (aa (1,.dict wP))) Z (au H p (.dK n qm)) fp:=by
 obtain⟨v,h1,h2⟩:=S.slot i 1 _ e;obtain⟨p,xs,Fs,rfl,hp,hF,h3⟩:=h2;obtain⟨r,hn⟩:=M6 h3;rw[hn] at hF;refine⟨p,xs.1,xs.2,h1,hp,r,λn wP qm r'=>S.write (cX.1 e).1 h1 (by rw[hF];exact bE) (.inr ⟨.inl (n,qm),rfl⟩) ?_⟩
 obtain⟨q1,q2⟩:=Da r';exact⟨p,(n,qm),_,rfl,eB,by rw[hF,q2],q1⟩
end
def getL (i:Nat)(Y:aU):Option (List aA):=match Y[i]? with
 |some (aa (1,.list ds))=>aa ds
 |_=>ae
def pB (i:Nat)(Y:aU):Option (List (aA×aA)):=match Y[i]? with
 |some (aa (1,.dict ds))=>aa ds
 |_=>ae
theorem mD{Y:aU}(h:getL i Y=aa ds):Y[i]?=aa (aa (1,.list ds)):=by
 unfold getL at h;split at h
 .rename_i e;cases h;exact e
 .cases h
theorem vT{Y:aU}{ds:List (aA×aA)}(h:pB i Y=aa ds):Y[i]?=aa (aa (1,.dict ds)):=by
 unfold pB at h;split at h
 .rename_i e;cases h;exact e
 .cases h
section
variable {k o:aR}{f g:EF}{ay bc:bQ}
def iF (i:Nat)(m:Md)(f:EF):SF:=λY=>(eV 0 m f Y).bind λd=>(getL i Y).bind λds=>if ds.length<sizeLine then aa (.nx (Y.set i (aa (1,.list (ds++[d]))))) else ae
theorem LJ (i:Nat)(m:Md)(he:DE X e f)(hN:X.N[i]?=aa x:=by rfl)(hv:iP X.env.scope x:=by first|exact cF rfl|exact bY (cF rfl)|exact bY (bY rfl))(hd:(x==("__debug__" : aE))=ag:=by decide)
  (fj:(x==("__classdict__" : aE))=ag:=by decide) (cf:rM (.Name x px) "append" X.env (bK (.Name x px) X.env)=bK (.Name x px) X.env:=by rfl)
  (gj:((fY bc (bJ (e::[]) X.env)).all (λx=>!x.1)&&(xA bc (wW [] X.env)).all (λx=>x.1.isSome)
   && decide ((e::[]).length+([]:List lT).length+(if ([]:List lT).isEmpty then 0 else 1)<30))=af:=by rfl)
  (cg:(ay.endLine==bc.line)=af:=by rfl) (hs:bJ (e::[]) X.env=(ag,bK e X.env)::bJ [] X.env:=by rfl) (ck:(fY bc (bJ [] X.env)).any (·.1)=ag:=by rfl)
  (zh:kP (.Call (.Attribute (.Name x px) "append" ay) [e] [] bc) ae pos.line X.env=pure ag:=by rfl):DS X H0 P0 n0 (.Expr (.Call (.Attribute (.Name x px) "append" ay) [e] [] bc) pos) (iF i m f):=
 PS.imp (JP (AR Ir PySem.F.slot_list_append PySem.F.type_list_append Bq (jL hN hv hd fj) (hZ (ev m he) jK hs) cf gj cg hs ck) zh) λD Z H gh=>by
  rw[8];obtain⟨d,e1,bx⟩:=ao ef;obtain⟨ds,e2,bv⟩:=ao bx;obtain⟨hl,rfl⟩:=cG bv;obtain⟨p,xs,h1,h2,_,_⟩:=S.lst1 (mD e2);refine⟨.ref p,h1,.inl ⟨rfl,xs,SqL.of h2⟩,B0,Y,fp,d,S,e1,λv H2 gh=>?_⟩
  obtain⟨ja,S2,r2⟩:=gh;obtain⟨p2,xs2,q1,q2,q3,q4⟩:=S2.lst1 (mD e2);have:p2=p:=by rw[h1] at q1;cases q1;rfl
  rw[19];exact⟨p2,xs2,v,rfl,rfl,q2,by rw[q3.length];exact hl,k _ _ ja (q4 _ _ (q3.snoc r2.2))⟩
def TJ (i:Nat):SF:=λY=>(getL i Y).bind λds=>aa (.nx (Y.set i (aa (1,.list []))))
def sL (i:Nat)(m:Md)(f:EF)(mk:Md)(g:EF):SF:=λY=>(eV 0 m f Y).bind λd=>(getL i Y).bind λds=>(eV 0 mk g Y).bind λk=>match k with
 |.int j=>(qh ds.length j).bind λj=>aa (.nx (Y.set i (aa (1,.list (ds.set j d)))))
 |_=>ae
theorem qT{m:Md}{Y:aU}(S:Sta K H0 P0 B0 Y Z H fp)(e:eV 0 m g Y=aa d)(hd:dM d=af)(k:∀ v H',Ext H H'->Abg K (hid H' (Hd P0 fp)) d v->Q v H'):tF K 0 g Z H Q:=by
 cases m with
 |s=>exact⟨Hd P0 fp,vS Y,d,S.hid,S.viewS,e,dY k⟩
 |a=>
  obtain⟨d',ed,ef⟩:=ao e;obtain⟨fl,rfl⟩:=cG ef;refine⟨P0,vA Y,d',S.hd.ext S.ext,S.viewA,ed,dY λv H' x r=>k v H' x (r.flat (λa xs e=>?_) _ hd)⟩
  obtain⟨na,e⟩:=Aco.1 e;refine gM (λq=>?_) e
  rcases q with q|⟨j,q⟩
  .exact na q
  .rcases((S.grow x).own j a q).2 with⟨ys,e2⟩|⟨ys,e2⟩<;>rw[e] at e2<;>first|cases e2|(cases ys<;>simp[dO] at e2)
theorem Ha (i:Nat)(m mk:Md)(he:DE X e f)(hk:DE X k g)(hN:X.N[i]?=aa x:=by rfl)(hv:iP X.env.scope x:=by first|exact cF rfl|exact bY (cF rfl)|exact bY (bY rfl))(hd:(x==("__debug__" : aE))=ag:=by decide)
  (fj:(x==("__classdict__" : aE))=ag:=by decide)
  (ha:∀ v,lH (.Subscript (.Name x px) k ay) X.env v=(do
   let ov <-nJ [v] (bK (.Name x px) X.env)
   let iv <-nJ [v,ov] (bK k X.env)
   standAt ay
   nJ [v,ov,iv] (setItem ov iv v)
   release [v,ov,iv] []):=by intro _;rfl)
  (hs:swapsWithSole [.Subscript (.Name x px) k ay] e pos.line X.env=pure ag:=by rfl) (hw:swappedStores [.Subscript (.Name x px) k ay] e X.env=pure ae:=by rfl)
  (h1:(iM [.Subscript (.Name x px) k ay] X.env).map (·.2)=[lH (.Subscript (.Name x px) k ay) X.env]:=by rfl):DS X H0 P0 n0 (.Assign [.Subscript (.Name x px) k ay] e pos) (sL i m f mk g):=
 PS.imp (VF (ev m he) (UY (jL hN hv hd fj) hk set_list ha) hs hw h1) λD Z H gh=>by
  rw[16];obtain⟨d,e1,bx⟩:=ao ef;obtain⟨ds,e2,bv⟩:=ao bx;obtain⟨kd,e3,dL⟩:=ao bv;clear ef bx bv;cases kd with
  |int j=>
   obtain⟨jn,e5,jl⟩:=ao (show((qh ds.length j).bind λj=>aa (Out.nx (Y.set i (aa (1,.list (ds.set j d))))))=aa o from dL)
   cases jl;refine⟨B0,Y,fp,d,S,e1,λv H2 gh=>?_⟩
   obtain⟨ja,S2,r2⟩:=gh;obtain⟨p,xs,h1,h2,_,_⟩:=S2.lst1 (mD e2);refine⟨.ref p,h1,qT S2 e3 (by simp[dM]) λu H3 x3 r3=>?_⟩
   have S3:=S2.grow x3;obtain⟨p3,uj,q1,q2,q3,q4⟩:=S3.lst1 (mD e2);rw[11];exact⟨p3,uj,j,jn,rfl,Aaj.1 r3,q2,by rw[q3.length];exact e5,kk _ _ ja (q4 _ _ (q3.set (r2.2.ext (cT x3)) jn))⟩
  |_=>cases dL
def sJ (i:Nat)(m:Md)(f:EF)(mk:Md)(g:EF):SF:=λY=>(eV 0 m f Y).bind λd=>(pB i Y).bind λkds=>(eV 0 mk g Y).bind λk=>(bR k).bind λk=>if kds.length<sizeLine then aa (.nx (Y.set i (aa (1,.dict (putD kds k d))))) else ae
theorem Uc (i:Nat)(m mk:Md)(hu:X.A.units+40<cLine)(he:DE X e f)(hk:DE X k g)(hN:X.N[i]?=aa x:=by rfl)(hv:iP X.env.scope x:=by first|exact cF rfl|exact bY (cF rfl)|exact bY (bY rfl))(hd:(x==("__debug__" : aE))=ag:=by decide)
  (fj:(x==("__classdict__" : aE))=ag:=by decide) (hs:kP e (aa (.Subscript (.Name x px) k ay)) pos.line X.env=pure ag:=by rfl):DS X H0 P0 n0 (.Assign [.Subscript (.Name x px) k ay] e pos) (sJ i m f mk g):=
 PS.imp (EB hu (jL hN hv hd fj) hk (ev m he) hs) λD Z H gh=>by
  rw[16];obtain⟨d,e1,bx⟩:=ao ef;obtain⟨kds,e2,bv⟩:=ao bx;obtain⟨kd,e3,dL⟩:=ao bv;obtain⟨key,e4,jl⟩:=ao dL;obtain⟨hl,rfl⟩:=cG jl;clear ef bx bv dL;refine⟨B0,Y,fp,d,S,e1,λv H2 gh=>?_⟩
  obtain⟨ja,S2,r2⟩:=gh;obtain⟨p,ep,xs,h1,h2,_,_⟩:=S2.dic1 (vT e2);have hf:dM kd=af:=by rw[vY e4];cases key<;>simp[kD,dM]
  refine⟨.ref p,h1,qT S2 e3 hf λu H3 x3 r3=>?_⟩
  have S3:=S2.grow x3;obtain⟨p3,zk,uj,q1,q2,q3,q4⟩:=S3.dic1 (vT e2);rw[11];refine⟨p3,_,rfl,.inl ⟨zk,uj,key,q2,lC e4 r3,by rw[q3.length];exact hl,rfl⟩,λn=>kk _ _ ja (q4 n _ _ (DV q3 (r2.2.ext (cT x3))))⟩
end
variable {a:aR}{f fa fb:EF}
def iQ (x:aE)(lo hi:Option Int):aE:=
 if (HF lo hi 1 x.length).length==x.length then x else⟨((HF lo hi 1 x.length).filterMap (x.cps[·]?)).toArray⟩
theorem YL (x:aE)(lo hi:Option Int):(iQ x lo hi).length<=x.length:=by
 unfold iQ;split
 .exact bD _
 .refine dA ?_ (sliceIndices_le lo hi x.length);exact xI _ _
theorem ZM(lo hi:Option Int)(h:cM (.str x)=af):cM (.str (iQ x lo hi))=af:=by
 unfold iQ;split
 .exact h
 .simp only[cM,QP] at h ⊢;rw[List.all_toArray,dW];intro c m;obtain⟨i,_,e⟩:=rR.1 m;exact Array.all_eq_true_iff_forall_mem.1 h c (Array.mem_of_getElem? e)
def wI:aD->Option (Int×Tok)
 |.int i t=>aa (i,t)
 |_=>ae
theorem Bl {v:aD}{o:Option Int}(h:oV v o):partValue (wI v)=v/\(wI v).map (·.1)=o:=by
 cases h with
 |none=>exact⟨rfl,rfl⟩
 |int i t=>exact⟨rfl,rfl⟩
def Lj:V->Option Int->Option Int->Hp->VK->Prop:=λx lo hi H Q=>∃ z,x=.str z/\z.length<=sizeLine/\Q (.str (iQ z lo hi)) H
theorem Bj5:SlR X Lj:=by
 intro ah s Z H x v vl vu lo hi sl Q I rx hs pl pu h;obtain⟨z,rfl,hz,q⟩:=h;obtain⟨t,rfl⟩:=rx;obtain⟨e1,m1⟩:=Bl pl;obtain⟨e2,m2⟩:=Bl pu;refine⟨"str",_,PySem.F.slot_str_getitem.lookup,typeIs_str s z t,?_⟩;have Sc:s.heap.IsSlice sl (wI vl) (wI vu) ae:=by
  obtain⟨o,h1,h2,h3⟩:=hs;exact⟨o,h1,h2,by rw[e1,e2];exact h3⟩
 refine wpAny_getItem_str_slice Sc rfl ?_;have es:slicePicked z (wI vl) (wI vu) ae=HF lo hi 1 z.length:=by
  unfold slicePicked;rw[m1,m2]
  rfl
 unfold sliceMade;rw[es];unfold iQ at q;by_cases hc:(HF lo hi 1 z.length).length==z.length
 .rw[if_pos hc] at q;rw[if_pos (by rw[hc];rfl)]
  exact⟨.str z,H,I,⟨t,rfl⟩,q⟩
 .rw[if_neg hc] at q;rw[if_neg (by simpa using hc)]
  refine⟨?_,⟨.str ⟨((HF lo hi 1 z.length).filterMap (z.cps[·]?)).toArray⟩,H,I.tok _,⟨_,rfl⟩,q⟩⟩;have:=YL z lo hi;unfold iQ at this;rw[if_neg hc] at this;exact dA this hz
def W1 (f:EF)(lo hi:OF):EF:=λY=>(f Y).bind λd=>(lo Y).bind λl=>(hi Y).bind λh=>match d with
 |.str z=>if z.length<=sizeLine then aa (.str (iQ z l h)) else ae
 |.tuple ds=>if HT.sIx ds.length 0 l=0/\HT.sIx ds.length ds.length h=ds.length then ae else aa (.tuple (cutD ds l h))
 |_=>ae
theorem Lz {lo hi:Option aR}{fl fh:OF}{pp:bQ}(he:DE X e f)(hl:DO X lo fl)(hh:DO X hi fh):DE X (.Subscript e (.Slice lo hi ae pp) pos) (W1 f fl fh):=PE.imp (ZJ (Bj5.or VG) he hl hh) λZ H Q gh=>by
 rw[6];obtain⟨d1,e1,bx⟩:=ao ef;obtain⟨l,e2,bv⟩:=ao bx;obtain⟨h,e3,dL⟩:=ao bv;clear ef bx bv;cases d1 with
 |str z=>
  obtain⟨hc,rfl⟩:=cG dL;refine⟨P,Y,_,hP,rs,e1,dY λv H1 x1 r1=>⟨P,Y,l,hP.ext x1,rs.ext (cT x1),e2,λH2 x2=>⟨P,Y,h,hP.ext (x1.trans x2),rs.ext (cT (x1.trans x2)),e3,λH3 x3=>?_⟩⟩⟩
  refine .inl ⟨z,(Aa3.1 r1).1,hc,(k.mono ((x1.trans x2).trans x3)).zero Ext.refl (Aa3.2 ⟨rfl,ZM _ _ (Aa3.1 r1).2⟩)⟩
 |tuple ds=>
  by_cases hw:HT.sIx ds.length 0 l=0/\HT.sIx ds.length ds.length h=ds.length
  .have jl:(if HT.sIx ds.length 0 l=0/\HT.sIx ds.length ds.length h=ds.length then ae else aa (cL (cutD ds l h)))=aa d:=dL
   rw[if_pos hw] at jl;cases jl
  have jl:(if HT.sIx ds.length 0 l=0/\HT.sIx ds.length ds.length h=ds.length then ae else aa (cL (cutD ds l h)))=aa d:=dL
  rw[if_neg hw] at jl;cases jl;refine⟨P,Y,_,hP,rs,e1,dY λv H1 x1 r1=>⟨P,Y,l,hP.ext x1,rs.ext (cT x1),e2,λH2 x2=>⟨P,Y,h,hP.ext (x1.trans x2),rs.ext (cT (x1.trans x2)),e3,λH3 x3=>?_⟩⟩⟩
  obtain⟨q,ys,rfl,hq,rr⟩:=Aar.1 (r1.ext (cT (x2.trans x3)));refine .inr ⟨q,ys,rfl,SqT.of (Aap _ _ hq),by rw[rr.length];exact hw,λp hp=>(k.mono ((x1.trans x2).trans x3)).tup (hP.ext ((x1.trans x2).trans x3)) hp ?_⟩
  unfold xX cutD;rw[rr.length];exact(rr.drop _).take _
 |_=>cases dL
def TX (K:aJ):R2:=λx y H Q=>∃ a b ys,x=.ref a/\y=.ref b/\SqT K H a []/\SqT K H b ys/\Q (.ref b) H
theorem Qz:OpR X (kR .Add) (TX X.K):=by
 rw[4];obtain⟨a,b,ys,rfl,rfl,ha,hb,q⟩:=h;cases rx;cases ry;obtain⟨its,r1,p1,_⟩:=I.tuple ha;obtain⟨its2,r2,p2,_⟩:=I.tuple hb;cases r1;obtain⟨⟨cls,dd,data,sl⟩,ho,hc,n,hd⟩:=p1;obtain⟨⟨cls2,dd2,data2,sl2⟩,R7,vm,n2,zg⟩:=p2;simp only at hc hd vm zg;subst hc hd vm zg;exact concat_meets ⟨_,ho,rfl⟩ ⟨_,R7,rfl⟩ Ib seq_tuple_add Io Iv (Iw _ _)
  (tuple_addW0 a b _ _ n n2 dd dd2 sl sl2 rfl) ⟨ho,R7,⟨.ref b,H,I,rfl,q⟩⟩
def CD:aA->aA->Option aA
 |.tuple xs,.tuple ys=>if xs.length+ys.length<=sizeLine then aa (.tuple (xs++ys)) else ae
 |_,_=>ae
theorem Wf:sy K 0 (λx y H Q=>IE K x y H Q\/TX K x y H Q) CD:=λP H x y a b d Q hP ra rb e k=>by
 unfold CD at e;split at e
 .rename_i zs ys;obtain⟨hc,rfl⟩:=cG e;obtain⟨p,us,rfl,hp,r1⟩:=Aar.1 ra;obtain⟨q,ws,rfl,hq,r2⟩:=Aar.1 rb;have l1:=r1.length;have l2:=r2.length;cases zs with
  |nil=>
   have eu:us=[]:=by simpa using l1
   subst eu;exact .inr ⟨p,q,ws,rfl,rfl,SqT.of (Aap _ _ hp),SqT.of (Aap _ _ hq),k.zero Ext.refl rb⟩
  |cons z zs=>
   refine .inl ⟨p,q,us,ws,rfl,rfl,SqT.of (Aap _ _ hp),SqT.of (Aap _ _ hq),λz=>by rw[z] at l1;simp at l1,by rw[l1,l2];exact hc,λz=>?_,λz r hr=>?_⟩
   .subst z;have:ys=[]:=by simpa using l2.symm
    rw[19];refine k.zero Ext.refl ?_;rw[qH];exact ra
   .exact k.tup hP hr (r1.append r2)
 .cases e
theorem Sq (ha:DE X a fa)(hb:DE X b fb):DE X (.BinOp a .Add b pos) (ai CD fa fb):=qV (A3m.or Qz) Wf ha hb
def uP:List aA->Option aA
 |[.int i,.int j]=>aa (.int (if j > i then j else i))
 |_=>ae
def CB:List aA->Option aA
 |[.int i,.int j]=>aa (.int (if j<i then j else i))
 |_=>ae
theorem ZN:CallD K 0 (λxs H Q=>∃ i j,xs=[.int i,.int j]/\Q (.int (if j > i then j else i)) H) uP:=λP H xs ds d Q hP r e k=>by
 unfold uP at e;split at e
 .cases e;obtain⟨v,t,rfl,h1,h2⟩:=Aaf.1 r;obtain⟨v',rfl,h3⟩:=fV h2;rw[Aaj.1 h1,Aaj.1 h3];exact⟨_,_,rfl,k.zero Ext.refl (Aaj.2 rfl)⟩
 .cases e
theorem C5:CallD K 0 (λxs H Q=>∃ i j,xs=[.int i,.int j]/\Q (.int (if j<i then j else i)) H) CB:=λP H xs ds d Q hP r e k=>by
 unfold CB at e;split at e
 .cases e;obtain⟨v,t,rfl,h1,h2⟩:=Aaf.1 r;obtain⟨v',rfl,h3⟩:=fV h2;rw[Aaj.1 h1,Aaj.1 h3];exact⟨_,_,rfl,k.zero Ext.refl (Aaj.2 rfl)⟩
 .cases e
end L2
namespace L2
open PySem PySem.Spec PyProof.Rows
variable {sl:Array (Option aD)}{us aj:Array aD}{Q E:aD->aH->Prop}{ds k:List aA}{l a it I r:aC}{h h':aQ}{d:aA}{es:Array (Int×aD)}{ep j c n nl N i m n0 mask bq:Nat}{s:aH}{e tg e2:aR}{R:qB->aH->Prop}{w:aX}{K:aJ}{b:Bool}{u:aD}{x y:aE}{xs ys:List V}{fp:Nat->List aC}{B H H' H0 B0:Hp}{v:V}{fe f f2 fk g:EF}{p1 p2 qq gn pos px wf ay bc ug:bQ}{wr F:List aC}{G:Array qI->Array qI->Prop}{ah:List (aC×bB)}{kds:List (aA×aA)}{p:Array Nat}{vs:List aD}{ks kss qs:List (List aA)}{T:String}{X:Cx}{P0:aC->Prop}{ow:Array (Option Nat)}{prog:bG}{A:bW}{o:bB}{ns:List Int}{Y:aU}
section
variable {P:bG}
theorem l7 {t sl:aC}{vl vu:aD}{lo hi:Option Int}(ht:IsTup s.heap t us)(hs:s.heap.IsSliceOf sl vl vu .none)(pl:oV vl lo)(pu:oV vu hi)
  (hw:HT.sIx us.size 0 lo=0/\HT.sIx us.size us.size hi=us.size) (h:Q (.ref t) s):aM (aO P w) A (pX (.ref t) (.ref sl)) Q E s:=by
 obtain⟨os,e1,e2,e3⟩:=id hs;have ty:s.TypeIs (.ref sl) "slice":=⟨os,e1,e2⟩;unfold pX
 try with_reducible refine fA ?_
 first|refine aF (aL ?_)|skip
 refine aF (wpAny_sequenceKey ht.typeIs (by decide) (aF (mG ht.typeIs QB (gH QB ht.typeIs entry_tuple_getitem ?_ (args_tuple_getitem _ _)))))
 show aM _ _ (Ka (.ref t)>>=_) _ _ s;refine aF (tupleItemsOf_ ht (aF (oI ty ?_)));rw[if_pos (by decide)]
 refine aF (HT.Agw hs pl pu ?_);have yes:(((HT.sIx us.size 0 lo:Nat):Int)==0&&(1:Int)==1&&(HT.sIx us.size us.size hi-HT.sIx us.size 0 lo)==us.size)=af:=by
  rw[hw.1,hw.2];simp
 show aM _ _ (if (((HT.sIx us.size 0 lo:Nat):Int)==0&&(1:Int)==1&&(HT.sIx us.size us.size hi-HT.sIx us.size 0 lo)==us.size)=af then _ else _) _ _ s
 rw[if_pos yes];unfold Builtin.Tuple.tupleIsExact;refine aF (aF (oI ht.typeIs (aL ?_)));rw[if_pos (by decide)]
 exact aF (oK (aL ⟨_,rfl,aL h⟩))
end
def Kr (K:aJ):V->Option Int->Option Int->Hp->VK->Prop:=λx lo hi H Q=>∃ a xs,x=.ref a/\SqT K H a xs/\(HT.sIx xs.length 0 lo=0/\HT.sIx xs.length xs.length hi=xs.length)/\Q (.ref a) H
theorem Ban:SlR X (Kr X.K):=by
 intro ah s Z H x v vl vu lo hi sl Q I rx hs pl pu h;obtain⟨a,xs,rfl,hx,hw,q⟩:=h;cases rx;obtain⟨its,r,ht,hz⟩:=I.tuple hx;have av:its.toArray.size=xs.length:=by rw[dU];exact r.length.symm
 exact⟨"tuple",_,QB.lookup,ht.typeIs,l7 ht hs pl pu (by rw[av];exact hw) ⟨.ref a,H,I,rfl,q⟩⟩
def qO (f:EF)(lo hi:OF):EF:=λY=>(f Y).bind λd=>(lo Y).bind λl=>(hi Y).bind λh=>match d with
 |.tuple ds=>aa (.tuple (cutD ds l h))
 |_=>ae
theorem K6{l h:Option Int}(hw:HT.sIx ds.length 0 l=0/\HT.sIx ds.length ds.length h=ds.length):cutD ds l h=ds:=by
 unfold cutD;rw[hw.1,hw.2];simp
theorem Pi {lo hi:Option aR}{fl fh:OF}{pp:bQ}(he:DE X e f)(hl:DO X lo fl)(hh:DO X hi fh):DE X (.Subscript e (.Slice lo hi ae pp) pos) (qO f fl fh):=PE.imp (ZJ (Ban.or VG) he hl hh) λZ H Q gh=>by
 rw[6];obtain⟨d1,e1,bx⟩:=ao ef;obtain⟨l,e2,bv⟩:=ao bx;obtain⟨h,e3,dL⟩:=ao bv;clear ef bx bv;cases d1 with
 |tuple ds=>
  cases dL;refine⟨P,Y,_,hP,rs,e1,dY λv H1 x1 r1=>⟨P,Y,l,hP.ext x1,rs.ext (cT x1),e2,λH2 x2=>⟨P,Y,h,hP.ext (x1.trans x2),rs.ext (cT (x1.trans x2)),e3,λH3 x3=>?_⟩⟩⟩
  have r3:=r1.ext (cT (x2.trans x3));obtain⟨q,ys,rfl,hq,rr⟩:=Aar.1 r3;by_cases hw:HT.sIx ds.length 0 l=0/\HT.sIx ds.length ds.length h=ds.length
  .rw[K6 hw] at k;exact .inl ⟨q,ys,rfl,SqT.of (Aap _ _ hq),by rw[rr.length];exact hw,(k.mono ((x1.trans x2).trans x3)).zero Ext.refl r3⟩
  .refine .inr ⟨q,ys,rfl,SqT.of (Aap _ _ hq),by rw[rr.length];exact hw,λp hp=>(k.mono ((x1.trans x2).trans x3)).tup (hP.ext ((x1.trans x2).trans x3)) hp ?_⟩
   unfold xX cutD;rw[rr.length];exact(rr.drop _).take _
 |_=>cases dL
def A1d (h:aQ)(d:aC)(es:Array qK)(ep:Nat):Prop:=∃ o,h.get? d=aa o/\o.ExactDict/\o.data=.dict es ep
theorem A1d.keep{d:aC}{es:Array qK}(x:A1d h d es ep)(k:∀ o,h.get? d=aa o->h'.get? d=aa o):A1d h' d es ep:=
 let ⟨o,e,r⟩:=x;⟨o,k o e,r⟩
theorem A1d.ty{d:aC}{es:Array qK}(x:A1d s.heap d es ep):s.TypeIs (.ref d) "dict":=let ⟨o,e,c,_⟩:=x;⟨o,e,c.1⟩
section
variable {d:aC}{es:Array qK}
theorem Xx(nm:(d==iL)=ag)(R:A1d s.heap d es ep)
  (q:Q (.ref s.heap.objs.size) { s with heap:=s.heap.push { cls:=.type "dict_keyiterator",data:=.fields #[.ref d,.int 0 0,.int es.size 0,.int ep 0] } }):aM (aO prog w) A (nH (.ref d)) Q E s:=by
 have ty:=R.ty;obtain⟨o,eo,_,ed⟩:=R;refine GD ty F.slot_dict_iter (gH F.slot_dict_iter ty F.entry_dict_iter
  ?_ (F.args_dict_iter_1 _))
 unfold Builtin.«dict.__iter__»;rw[20];unfold Builtin.Dict.dictSlotNone;refine aF (wpAny_notOrdered_dict ty ?_);refine aL ?_;show aM _ _ (Builtin.Dict.showsAll d>>=_) _ _ s;unfold Builtin.Dict.showsAll;rw[if_neg (show ¬ (d==iL)=af by rw[nm];exact mN)]
 refine aF (aL ?_);refine aF (PZ eo ed ?_);refine aF (wpAny_dictEpoch eo ed ?_);refine aF (jZ (aL ⟨_,rfl,"dict_keyiterator",_,
  ⟨_,cV _ rfl,rfl⟩,HD.lookup,?_⟩))
 simpa [dZ] using q
theorem Yh {e:qK}{Q:Option aD->aH->Prop}(K:s.heap.IsKeyIter it d i es.size ep)(R:A1d s.heap d es ep)(x:es[i]?=aa e)
  (q:∀ h',h'.IsKeyIter it d (i+1) es.size ep->mL it s.heap h'->Q (aa e.key) { s with heap:=h' }):aM (aO prog w) A (iA (.ref it)) Q E s:=by
 obtain⟨oi,ei,ci,di⟩:=id K;obtain⟨o,eo,_,ed⟩:=R;unfold iA;refine aF (tY (mG K.typeIs
  HD (gH HD K.typeIs
   P7 ?_ (P8 _))))
 refine aF (aL ?_);rw[20];rw[20]
 first
  |refine aF (PM K.typeIs (aL ?_))
  |refine aF (PK K.typeIs (aL ?_))
 refine aF (PX ei di ?_);have own:Builtin.Dict_items.ownsTuple "dict_keyiterator" = ag:=by decide
 simp only[own,jC,if_false];show aM _ _ (if (eI d==eJ)=af then _ else _) _ _ s
 rw[if_neg (show ¬ (eI d==eJ)=af from mN)]
 refine aF (aL ?_);refine aF (PZ eo ed ?_);rw[if_neg (by simp)]
 refine aF (aL ?_);refine aF (wpAny_dictEpoch eo ed ?_);rw[if_neg (by simp)]
 refine aL ?_;simp only[show ¬ ((i:Int)<0) from by omega,if_false,nQ,x]
 rw[20]
 first
  |refine aF (PM K.typeIs (aL ?_))
  |refine aF (PK K.typeIs (aL ?_))
 refine aF (wpAny_isOneOf_keyiter K.typeIs ?_);show aM _ _ (setField (.ref it) 1 (dZ ((i:Int)+1))>>=_) _ _ s;refine aF (PR ei di (by simp) ?_)
 have K':(s.heap.update it (Obj.mapFields (·.setIfInBounds 1 (dZ ((i:Int)+1))))).IsKeyIter it d (i+1) es.size ep:=
  ⟨_,rV _ ei (Obj.isFreed_of_fields (QS di _)),(Obj.cls_mapFields ..).trans ci,by
   rw[QS di];simp[dZ]⟩
 refine aF (fA ?_);refine aF (wpAny_isOneOf_keyiter
  K'.typeIs ?_)
 exact aL (aL ⟨_,rfl,aL (q _ K' (xR ..))⟩)
theorem Rz {Q:Option aD->aH->Prop}(hh:A.handled=ae)(K:s.heap.IsKeyIter it d i es.size ep)(R:A1d s.heap d es ep)(x:es.size<=i)
  (q:∀ h',RV it s.heap h'->Q ae { s with heap:=h' }):aM (aO prog w) A (iA (.ref it)) Q E s:=by
 obtain⟨oi,ei,ci,di⟩:=id K;obtain⟨o,eo,_,ed⟩:=R;unfold iA;refine aF (tY (mG K.typeIs
  HD (gH HD K.typeIs
   P7 ?_ (P8 _))))
 refine aF (aL ?_);rw[20];rw[20]
 first
  |refine aF (PM K.typeIs (aL ?_))
  |refine aF (PK K.typeIs (aL ?_))
 refine aF (PX ei di ?_);have own:Builtin.Dict_items.ownsTuple "dict_keyiterator" = ag:=by decide
 simp only[own,jC,if_false];show aM _ _ (if (eI d==eJ)=af then _ else _) _ _ s
 rw[if_neg (show ¬ (eI d==eJ)=af from mN)]
 refine aF (aL ?_);refine aF (PZ eo ed ?_);rw[if_neg (by simp)]
 refine aF (aL ?_);refine aF (wpAny_dictEpoch eo ed ?_);rw[if_neg (by simp)]
 refine aL ?_;simp only[show ¬ ((i:Int)<0) from by omega,if_false,nQ,Kh x]
 rw[20]
 first
  |refine aF (PM K.typeIs (aL ?_))
  |refine aF (PK K.typeIs (aL ?_))
 show aM _ _ (setField (.ref it) 0 .none>>=_) _ _ s;refine aF (PR ei di (by simp) ?_)
 rw[20];simp only[newExc,newTuple];refine aF (jZ ?_ (by size_fits))
 refine aF (wQ
  (by first|rfl|(simp only[QG];rfl)) ?_)
 refine jZ ?_ (by size_fits)
 simp only[raiseNew];refine aF (PV ?_);rw[show A.in1.handled=ae from hh]
 refine aF (aL (PP ?_));refine aF (pU
  ⟨_,cV _ rfl,rfl⟩ QF ?_)
 exact aL (q _ (((xR ..).extBut.push _).push _))
theorem E6 (hh:A.handled=ae)(I d:aC)(ne:d≠I)(es:Array qK)(ep:Nat) :
  Walks prog w A I [I,d] [I] es.size (λi v=>∃ e,es[i]?=aa e/\v=e.key) (λi h=>h.IsKeyIter I d i es.size ep/\A1d h d es ep) where
 sub:=λb hb=>by simp at hb;simp[hb]
 frame:=λ_ _ _ st hk=>⟨st.1.at λo e=>hk I (by simp) o e,st.2.keep λo e=>hk d (by simp) o e⟩
 item:=λi s Q E hi st hQ=>by
  have hx:=mO hi;refine Yh st.1 st.2 hx λh' K' hs=>?_
  exact hQ _ h' s.toks ⟨_,hx,rfl⟩ ⟨K',st.2.keep λo e=>hs.extBut d o ne e⟩ λb o hb e=>hs.extBut b o (λh=>hb (by simp[h])) e
 done:=λs Q E st hQ=>Rz hh st.1 st.2 (bD _) λh' he=>hQ h' s.toks λb o hb e=>he b o (λh=>hb (by simp[h])) e
 self:=λ_ _ _ _ st hQ=>wpAny_pyIter_keyiter st.1 hQ
theorem k8:GH (.type "dict") "__len__" = pure (aa (.builtin "dict.__len__")):=by rw[wU,wY];kernel_rfl
theorem K7(hh:A.handled=ae)(nm:(d==iL)=ag)(D:A1d s.heap d es ep)(S:aC)(res:aD)(c₀:Nat)(hSd:S≠d)
  (hS:s.heap.get? S=aa { cls:=.type "list",data:=.seq #[] c₀ }) (hn:es.size<=sizeLine)
  (q:∀ h' tk ak c',(∀ b o,b≠S->s.heap.get? b=aa o->h'.get? b=aa o)->h'.get? S=aa { cls:=.type "list",dict:=ae,data:=.seq ak c',slots:=#[] } ->
   ItemsOf (λi v=>∃ e,es[i]?=aa e/\v=e.key) ak es.size->R (.ok (.ret res)) { s with heap:=h',toks:=tk }) :
  aM (aO prog w) A.in1 (BV (.ref S) (.ref d) res)
   (λfin s'=>match fin with|.done f=>R (.ok f) s'|.again c'=>c'.quiet=af/\kB (aO prog w) A c' R s') (λe s'=>R (.error e) s') s:=by
 have ty:=D.ty;unfold BV;refine aF (oI ty ?_);have h1:SE (.ref S) (.ref d)=ag:=by
  simp[SE,hSd]
 have h2:(jM "dict" == jM "list")=ag:=by decide
 have h3:(jM "dict" == jM "tuple")=ag:=by decide
 simp only[h1,h2,h3,Bool.or_false,jC,if_false];refine aF (Xx nm D ?_);refine aF (fA ?_);have hd0:d<s.heap.objs.size:=by obtain⟨o,e,_⟩:=D;exact bU e
 have hS0:S<s.heap.objs.size:=bU hS;have vq:∀ b o,s.heap.get? b=aa o->(s.heap.push { cls:=.type "dict_keyiterator",data:=.fields #[.ref d,.int 0 0,.int es.size 0,.int ep 0] }).get? b=aa o:=λb o e=>bT _ e
 have D':A1d (s.heap.push { cls:=.type "dict_keyiterator",data:=.fields #[.ref d,.int 0 0,.int es.size 0,.int ep 0] }) d es ep:=D.keep λo e=>vq d o e
 have itG:(s.heap.push { cls:=.type "dict_keyiterator",data:=.fields #[.ref d,.int 0 0,.int es.size 0,.int ep 0] }).IsKeyIter s.heap.objs.size d 0 es.size ep:=⟨_,cV _ rfl,rfl,rfl⟩;unfold Ke;refine aF (tX (T:="dict") (v:=.ref d) (by obtain⟨o,e,c,_⟩:=D';exact⟨o,e,c.1⟩) k8 ?_)
 wp_delta
 refine aF (pU (T:="dict") (v:=.ref d) (b:=af) (by obtain⟨o,e,c,_⟩:=D';exact⟨o,e,c.1⟩) (by rw[rJ];kernel_rfl) ?_)
 show aM _ _ (typeOf (eI d)>>=_) _ _ _;refine aF (oI (T:="dict") (v:=.ref d) (by obtain⟨o,e,c,_⟩:=D';exact⟨o,e,c.1⟩) ?_)
 refine aL ?_;rw[if_pos (by decide)]
 refine aF (oK ?_);rw[20];have S1:=vq _ _ hS;generalize(s.heap.push { cls:=.type "dict_keyiterator",data:=.fields #[.ref d,.int 0 0,.int es.size 0,.int ep 0] })=G at vq D' S1 itG ⊢;show aM _ _ (GG S (·.push .none)>>=λ_=>GG S (·.pop)) _ _ _
 refine aF (GC S1 rfl ?_);have S2:=rV (gK (·.push eJ)) S1 rfl;refine GC (hz:=by seq_fits) S2 rfl ?_
 have S3:=rV (gK (·.pop)) S2 rfl;have jm:∀ b o,b≠S->G.get? b=aa o->((G.update S (gK (·.push eJ))).update S (gK (·.pop))).get? b=aa o:=λb o hb e=>
  (xQ _ _ (gV hb)).trans ((xQ _ _ (gV hb)).trans e)
 have gg:d≠s.heap.objs.size:=cQ hd0;have S6:S∉[s.heap.objs.size,d]:=λhm=>by
  rcases cO.1 hm with z|z
  .exact absurd hS0 (by rw[z];exact kS _)
  .exact hSd (cB.1 z)
 refine aL ⟨oM F.plain_extend_loop _,codeAny_extend_loopS (E6 (A:=A.in1) hh s.heap.objs.size d gg es ep).toS hn _ S6 _ es.size 0 _ _ _ rfl (eD _)
  ⟨itG.at λo e=>jm _ o (mI hS0) e,D'.keep λo e=>jm _ o (gV hSd) e⟩ S3 (ItemsOf.nil _) λs' ak c' hm um gm=>?_⟩
 rw[Moved.eq_with hm];refine q s'.heap s'.toks ak c' (λb ob hb e=>hm.heap b ob (λhmem=>?_) (jm b ob hb (vq _ _ e))) um gm
 rcases cO.1 hmem with z|hmem
 .exact hb z
 .exact absurd (bU e) (by rw[cB.1 hmem];exact kS _)
theorem ZK(hh:A.handled=ae)(nm:(d==iL)=ag)(D:A1d s.heap d es ep)(hn:es.size<=sizeLine)
  (q:∀ h' tk ak c',(∀ b o,s.heap.get? b=aa o->h'.get? b=aa o)->h'.get? s.heap.objs.size=aa { cls:=.type "list",dict:=ae,data:=.seq ak c',slots:=#[] } ->
   ItemsOf (λi v=>∃ e,es[i]?=aa e/\v=e.key) ak es.size->Q (.ref s.heap.objs.size) { s with heap:=h',toks:=tk }):aM (aO prog w) A (call (.type "list") [.ref d]) Q E s:=by
 refine callType_codes (Q₁:=λobj s₁=>obj=.ref s.heap.objs.size/\s₁={ s with heap:=s.heap.push { cls:=.type "list",data:=.seq #[] } })
  F.called_list (F.typeCall_list_1 _) F.entry_list_init (code_list_new _ ⟨rfl,rfl⟩) λobj s₁ h₁=>?_
 obtain⟨rfl,rfl⟩:=h₁;have hd0:d<s.heap.objs.size:=by obtain⟨o,e,_⟩:=D;exact bU e
 have N1:(s.heap.push { cls:=.type "list",data:=.seq #[] }).get? s.heap.objs.size=aa { cls:=.type "list",data:=.seq #[] }:=cV _ rfl;refine⟨⟨_,N1,rfl⟩,F.args_list_init_2 _ _,?_⟩;show aM _ _ (do
  let Op <-Builtin.List.listItems (.ref s.heap.objs.size)
  Builtin.List.listUpdate (.ref s.heap.objs.size) (λ_=>#[])
  letGo Op.toList.reverse
  BV (.ref s.heap.objs.size) (.ref d) .none) _ _ _
 rw[20];unfold Builtin.List.listItems;refine aF (kO N1 rfl (aL ?_));show aM _ _ (GG s.heap.objs.size (λ_=>#[])>>=λ_=>letGo (#[]:Array aD).toList.reverse>>=λ_=>
  BV (.ref s.heap.objs.size) (.ref d) .none) _ _ _
 refine aF (GC N1 rfl ?_);have N2:=rV (gK (λ_=>(#[]:Array aD))) N1 rfl
 have jm:∀ b o,b≠s.heap.objs.size->(s.heap.push { cls:=.type "list",data:=.seq #[] }).get? b=aa o ->
   ((s.heap.push { cls:=.type "list",data:=.seq #[] }).update s.heap.objs.size (gK (λ_=>(#[]:Array aD)))).get? b=aa o:=λb o hb e=>(xQ _ _ (gV hb)).trans e
 refine aF (GF ?_);refine K7 (A:=A.in1) hh nm (D.keep λo e=>jm d o (cQ hd0) (bT _ e)) s.heap.objs.size .none _ (mI hd0) N2 hn λh' tk ak c' hk um gm=>?_
 exact⟨rfl,q h' tk ak c' (λb o e=>hk b o (cQ (bU e)) (jm b o (cQ (bU e)) (bT _ e))) um gm⟩
end
section
variable {Z:St}
theorem MF {P:bG}:∀ {es:List qK} {kvs:List (aI×V)} {vs:List (aI×aD)},KV kvs vs->PySem.Pairs (fU P w) es vs->Vals (kvs.map λkv=>kV kv.1) (es.map (·.key))
 |[],kvs,vs,r,p=>by
  cases p;cases r;exact .nil
 |e::es,kvs,vs,r,p=>by
  cases p with
  |cons h hv t=>
   cases r with
   |cons h' t'=>
    refine .cons ?_ (MF t' t);show RelV (kV _) e.key;rw[h'.1];rcases nC h with⟨i,tk,e1,e2⟩|⟨x,tk,e1,e2⟩
    .rw[e1,e2];exact⟨tk,rfl⟩
    .rw[e1,e2];exact⟨tk,rfl⟩
theorem ZU {es:Array qK}{ak:Array aD}(h:ItemsOf (λi v=>∃ e,es[i]?=aa e/\v=e.key) ak es.size):ak.toList=es.toList.map (·.key):=by
 obtain⟨h1,h2⟩:=h;apply List.ext_getElem?;intro i;rw[eE];by_cases hi:i<ak.size
 .have ha:ak.toList[i]?=aa ak[i]:=by simp[hi]
  obtain⟨e,he,hv⟩:=h2 i ak[i] (by simp[hi])
  have he':es.toList[i]?=aa e:=by simpa using he
  rw[ha,he',hv]
  rfl
 .have ha:ak.toList[i]?=ae:=by simp;omega
  have he:es.toList[i]?=ae:=by simp;omega
  rw[ha,he]
  rfl
theorem Pf {ep0:Nat}{kvs:List (aI×V)}(I:Inv X ah Z H s)(ha:H a=aa (.dK ep0 kvs)):kvs.length<=sizeLine/\(a==iL)=ag/\∃ es ep,A1d s.heap a es ep/\Vals (kvs.map λkv=>kV kv.1) (es.toList.map (·.key))/\es.size=kvs.length:=by
 obtain⟨z,nm,vs,r,o,es,ep,e1,e2,e3,_,e5,_⟩:=wJ I.hok ha;refine⟨z,nm,es,ep,⟨o,e1,e2,e3⟩,MF r e5,?_⟩;have l1:=(MF r e5).length;simp at l1;exact l1.symm
theorem N7 (hc:X.calm=af):Acy X (.type "list") (λxs H Q=>∃ a ep kvs,xs=[.ref a]/\H a=aa (.dK ep kvs)/\∀ l,H l=ae->Q (.ref l) (au H l (.lst (kvs.map λkv=>kV kv.1)))):=by
 rw[5];obtain⟨a,ep1,kvs,rfl,ha,q⟩:=h;rw[7];obtain⟨z,nm,es,ep,D,rv,el⟩:=Pf I ha;refine ZK (I.ok.hd hc) nm D (by omega) λh' tk ak c' hk hS gm=>?_
 have ea:=ZU gm;rw[<-ea] at rv;exact⟨.ref s.heap.objs.size,_,I.laid hk (bD _) (show Ab8 X.prog X.w _ h' _ (.lst _) from⟨by rw[cD];exact z,ak.toList,c',rv,by simpa using hS⟩),rfl,q _ I.fresh⟩
theorem Xf {H:Hp}:∀ {kvs:List (List aA×V)} {ys:List (List aA×aC×aD)},cN (λp q=>p.1=q.1/\Al0 H p.1 q.2.1/\RelV p.2 q.2.2) kvs ys->cN (λ(p:List aA×V) (b:aC)=>Al0 H p.1 b) kvs (ys.map λy=>y.2.1):=by
 intro kvs ys h;induction h with
 |nil=>exact .nil
 |cons h _ ih=>exact .cons h.2.1 ih
theorem Ap {P:bG}:∀ (ys:List (List aA×aC×aD)),Vals ((ys.map λy=>y.2.1).map V.ref) ((ys.map (entryOfKey (iY P w))).map (·.key))
 |[]=>.nil
 |_::t=>.cons rfl (Ap t)
theorem Bm:∀ {kds:List (aA×aA)} {kvs:List (aI×V)},Abo K H kds kvs->(∀ kd∈kds,cM kd.1=af)->Aao K H (kds.map (·.1)) (kvs.map λkv=>kV kv.1)
 |[],kvs,r,_=>by rw[Abm.1 r];exact Aak.2 rfl
 |(k,d)::kds,kvs,r,h=>by
  obtain⟨k',x,rr,rfl,rfl,h1,h2⟩:=Aa4.1 r;refine Aaf.2 ⟨_,_,rfl,?_,Bm h2 λkd m=>h kd (bH _ m)⟩
  have hl:=h (kD k',d) bE;cases k' with
  |inl i=>exact Aaj.2 rfl
  |inr z=>exact Aa3.2 ⟨rfl,hl⟩
def CK:List aA->Option aA
 |[.dict kds]=>if (jg kds&&kds.all λkd=>cM kd.1)=af then aa (.list (kds.map (·.1))) else ae
 |_=>ae
theorem Zj:CallD K 1 (λxs H Q=>∃ a ep kvs,xs=[.ref a]/\H a=aa (.dK ep kvs)/\∀ l,H l=ae->Q (.ref l) (au H l (.lst (kvs.map λkv=>kV kv.1)))) CK:=λP H xs ds d Q hP r e k=>by
 unfold CK at e;split at e
 .obtain⟨hl,rfl⟩:=cG e;obtain⟨v,rfl,r'⟩:=fV r;obtain⟨pk,hl⟩:=jQ.1 hl;obtain⟨q,ys,rfl,hq,rr⟩:=(rD pk).1 r';exact⟨q,ys.1,ys.2,rfl,Aap _ _ hq,λl wz=>k.lst hP wz (Bm rr (dW.1 hl))⟩
 .cases e
def qM (b:List (aA×aA)):List (aA×aA)->Bool
 |[]=>af
 |(k,d)::r=>match (bR k).bind (bI b) with
  |none=>ag
  |some e=>bX d e&&qM b r
def CO (a b:List (aA×aA)):Bool:=a.length==b.length&&qM b a
def valsOk (a:List (aA×aA)):Bool:=a.all λkd=>cU kd.2
theorem Ww {b:List (aA×aA)}{k:aI}(h:valsOk b=af)(e:bI b k=aa d):cU d=af:=by
 unfold bI at e;cases q:b.find? λkd=>decide (bR kd.1=aa k) with
 |none=>rw[q] at e;cases e
 |some kd=>
  rw[q] at e;have:kd.2=d:=by simpa using e
  rw[19];exact dW.1 h kd (RE q)
theorem Fb (hu:X.A.units+100<cLine)(I:Inv X ah Z H s){kb:List (aA×aA)}{vb:List (aI×V)}{ub:List (aI×aD)}(rb:Abo X.K H kb vb)(qb:KV vb ub)(fb:valsOk kb=af) :
  ∀ {ka:List (aA×aA)} {va:List (aI×V)} {ua:List (aI×aD)},valsOk ka=af->Abo X.K H ka va->KV va ua->PySem.W.KeqHits X.A.in1 s ub ua (qM kb ka)
 |[],va,ua,_,ra,qa=>by
  obtain rfl:=Abm.1 ra;cases qa;exact .nil
 |(k,d)::ka,va,ua,fa,ra,qa=>by
  obtain⟨k',x,rr,rfl,rfl,h1,h2⟩:=Aa4.1 ra;have yo:cU d=af/\valsOk ka=af:=by simpa [valsOk] using fa
  cases qa with
  |@cons _ u _ us h' t'=>
  obtain⟨g1,g2⟩:=h';obtain⟨uk,uv⟩:=u;have e2:=g1;subst e2;have fm:=qb.val k';have eh:qM kb ((kD k',d)::ka)=(match bI kb k' with|none=>ag|some e=>bX d e&&qM kb ka):=by
   show(match (bR (kD k')).bind (bI kb) with|none=>ag|some e=>bX d e&&qM kb ka)=_
   rw[Abv]
   rfl
  rcases tO rb with⟨n1,n2⟩|⟨d',v',s1,s2,rd⟩
  .rw[n2] at fm;rw[eh,n1];exact .miss fm.none_of
  .rw[s2] at fm;obtain⟨y,hy,ry⟩:=fm.some_of;have f1:noDict d=af/\d.depth<=60:=by simpa [cU] using yo.1
   have f2:noDict d'=af/\d'.depth<=60:=by simpa [cU] using Ww fb s1
   obtain⟨l1,as,ra'⟩:=lB I f1.1 h1 g2;obtain⟨l2,bs,rb'⟩:=lB I f2.1 rd ry;have eq:=SeqAt.eqAt_reads d d' X.A.in1 s uv y as bs ra' rb' l1 l2 (by
    have:X.A.in1.units=X.A.units+1:=rfl;omega)
   rw[eh,s1];exact .hit hy eq (Fb hu I rb qb fb yo.2 h2 t')
def SW (K:aJ)(neg:Bool):R2:=λx y H Q=>∃ ka kb,Abg K H (.dict ka) x/\Abg K H (.dict kb) y/\(jg ka=af/\jg kb=af)/\valsOk ka=af/\valsOk kb=af/\Q (.bl (neg != CO ka kb)) H
theorem Oe (hu:X.A.units+100<cLine):OpR X (gU .NotEq) (SW X.K af):=by
 rw[4];obtain⟨ka,kb,ra,rb,pk,fa,fb,q⟩:=h;obtain⟨a,va,rfl,ha,ra⟩:=(rD pk.1).1 ra;obtain⟨b,vb,rfl,hb,rb⟩:=(rD pk.2).1 rb;cases rx;cases ry;obtain⟨_,na,ua,qa,da⟩:=wJ I.hok ha;obtain⟨_,nb,ub,qb,db⟩:=wJ I.hok hb;have l1:=(ra.length).symm.trans qa.length;have l2:=(rb.length).symm.trans qb.length;refine PySem.W.keq_ne na nb da db (by omega) (λ_=>Fb hu I rb qb fb fa ra qa) ?_
 rw[<-l1,<-l2];exact⟨.bl _,H,I,rfl,by simpa [CO] using q⟩
def uN (neg:Bool):aA->aA->Option aA
 |.dict a,.dict b=>if (valsOk a&&valsOk b&&(jg a&&jg b))=af then aa (.bool (neg != CO a b)) else ae
 |_,_=>ae
theorem Ua{neg:Bool}:sy K 0 (SW K neg) (uN neg):=λP H x y a b d Q hP ra rb e k=>by
 unfold uN at e;split at e
 .obtain⟨hc,rfl⟩:=cG e;have ji:=jQ.1 hc;have hv:=jQ.1 ji.1;exact⟨_,_,ra.ext Aap,rb.ext Aap,jQ.1 ji.2,hv.1,hv.2,k.zero Ext.refl (Aax.2 rfl)⟩
 .cases e
end
open PySem
structure Sub (P:bG)(w:aX)(it:aC)(own:List aC)(St:Nat->aQ->Prop)(xs:Array aD):Prop where
 mem:it∈own
 obj:∀ k h,St k h->∀ c∈own,∃ o,h.get? c=aa o
 keep:∀ k h h',St k h->(∀ c∈own,∀ o,h.get? c=aa o->h'.get? c=aa o)->St k h'
 item:∀ (A:bW) (E:aD->aH->Prop) (s:aH) (Q:aD->aH->Prop) (k:Nat) (x:aD),St k s.heap->xs[k]?=aa x ->
  (∀ h',St (k+1) h'->mL it s.heap h'->Q x { s with heap:=h' })->aM (aO P w) A (uK (.ref it)) Q E s
 done:∀ (A:bW) (E:aD->aH->Prop) (s:aH) (Q:aD->aH->Prop) (k:Nat),A.handled=ae->St k s.heap->xs[k]?=ae ->
  (∀ h' e,RV it s.heap h'->(∃ o,h'.get? e=aa o/\o.cls=.type "StopIteration")->E (.ref e) { s with heap:=h' })->aM (aO P w) A (uK (.ref it)) Q E s
section
variable {P:bG}
theorem Yz {j t:aC}{k:Nat}(hj:s.heap.IsTupleIter j t k)(ht:s.heap.IsTuple t us)(hu:us[k]?=aa u)
  (q:∀ h',h'.IsTupleIter j t (k+1)->mL j s.heap h'->Q u { s with heap:=h' }):aM (aO P w) A (uK (.ref j)) Q E s:=by
 obtain⟨oj,g1,g2,g3⟩:=id hj;obtain⟨ot,t1,_,nt,t2⟩:=ht;unfold uK;refine aF (mG hj.typeIs RX (gH RX hj.typeIs F.entry_tuple_iterator_next ?_ (F.args_tuple_iterator_next_1 _)));show aM _ _ (field (.ref j) 0>>=_) _ _ s;refine aF (jE g1 g3 (x:=.ref t) rfl ?_);have ne:¬ (eI t==eJ)=af:=mN;rw[if_neg ne];refine aF (jE g1 g3 rfl ?_);refine aF (kO t1 t2 ?_);simp only[nQ,hu];refine aF (PR g1 g3 (by simp) (aL ⟨u,rfl,aL (q _ ⟨_,rV _ g1 (Obj.isFreed_of_fields (QS g3 _)),(Obj.cls_mapFields ..).trans g2,?_⟩ (xR ..))⟩))
 rw[QS g3];simp[dZ]
theorem Vp {j t:aC}{k:Nat}(hh:A.handled=ae)(hj:s.heap.IsTupleIter j t k)(ht:s.heap.IsTuple t us)(hu:us[k]?=ae)
  (q:∀ h' e,RV j s.heap h'->(∃ o,h'.get? e=aa o/\o.cls=.type "StopIteration")->E (.ref e) { s with heap:=h' }):aM (aO P w) A (uK (.ref j)) Q E s:=by
 obtain⟨oj,g1,g2,g3⟩:=id hj;obtain⟨ot,t1,_,nt,t2⟩:=ht;unfold uK;refine aF (mG hj.typeIs RX (gH RX hj.typeIs F.entry_tuple_iterator_next ?_ (F.args_tuple_iterator_next_1 _)));show aM _ _ (field (.ref j) 0>>=_) _ _ s;refine aF (jE g1 g3 (x:=.ref t) rfl ?_);have ne:¬ (eI t==eJ)=af:=mN;rw[if_neg ne];refine aF (jE g1 g3 rfl ?_);refine aF (kO t1 t2 ?_);simp only[nQ,hu];refine aF (oK (aF (PR g1 g3 (by simp) ?_)))
 rw[20];simp only[newExc,newTuple];refine aF (jZ ?_ (by size_fits))
 refine aF (wQ (by first|rfl|(simp only[QG];rfl)) ?_)
 refine jZ ?_ (by size_fits)
 simp only[raiseNew];refine aF (PV ?_)
 first|rw[show A.in1.handled=ae from hh]|rw[hh]
 refine aF (aL (PP (q _ _ (((xR ..).extBut.push _).push _) ⟨_,cV _ rfl,rfl⟩)))
theorem Sx (j t:aC)(us:Array aD)(ne:t≠j):Sub P w j [j,t] (λk h=>h.IsTupleIter j t k/\h.IsTuple t us) us where
 mem:=bE
 obj:=λk h ⟨⟨o,e,_⟩,⟨o',e',_⟩⟩ c hc=>by
  rcases cO.1 hc with rfl|hc
  .exact⟨o,e⟩
  .rw[cB.1 hc];exact⟨o',e'⟩
 keep:=λk h h' ⟨⟨o,e,r⟩,⟨o',e',r'⟩⟩ kp=>⟨⟨o,kp j bE o e,r⟩,⟨o',kp t (by simp) o' e',r'⟩⟩
 item:=λA E s Q k x ⟨a,b⟩ hx q=>Yz a b hx λh' a' sb=>q h' ⟨a',b.extBut sb.extBut ne⟩ sb
 done:=λA E s Q k hh ⟨a,b⟩ hx q=>Vp hh a b hx q
theorem Xt (j t:aC)(us:Array aD)(ne:t≠j):Sub P w j [j,t] (λk h=>h.IsListIter j t k/\h.IsList t us) us where
 mem:=bE
 obj:=λk h ⟨⟨o,e,_⟩,⟨o',e',_⟩⟩ c hc=>by
  rcases cO.1 hc with rfl|hc
  .exact⟨o,e⟩
  .rw[cB.1 hc];exact⟨o',e'⟩
 keep:=λk h h' ⟨⟨o,e,r⟩,⟨o',e',r'⟩⟩ kp=>⟨⟨o,kp j bE o e,r⟩,⟨o',kp t (by simp) o' e',r'⟩⟩
 item:=λA E s Q k x ⟨a,b⟩ hx q=>wpAny_nextOf_list_item a b hx λh' a' sb=>q h' ⟨a',b.extBut sb.extBut ne⟩ sb
 done:=λA E s Q k hh ⟨a,b⟩ hx q=>wpAny_nextOf_list_end hh a b hx q
structure ZApart (z TI TO i1 i2:aC)(o1 o2:List aC):Prop where
 TIz:TI≠z
 TOz:TO≠z
 TITO:TI≠TO
 TI1:TI≠i1
 TI2:TI≠i2
 i12:i1≠i2
 z1:z∉o1
 z2:z∉o2
 TO1:TO∉o1
 TO2:TO∉o2
 x12:i1∉o2
 x21:i2∉o1
variable {z TI TO i1 i2:aC}{o1 o2:List aC}{S1 S2:Nat->aQ->Prop}{xs ys:Array aD}{k:Nat}
def zy (z TI TO i1 i2:aC)(S1 S2:Nat->aQ->Prop)(f0:aD)(k:Nat)(h:aQ):Prop:=
 IsZip h z TI TO f0/\oW h TI (.ref i1) (.ref i2)/\(∃ a b,oW h TO a b)/\S1 k h/\S2 k h
theorem Sub.but {c:aC}{own:List aC}{St:Nat->aQ->Prop}(U:Sub P w it own St us)(st:St k h)(hc:c∉own)(e:RV c h h'):St k h':=
 U.keep k h h' st λb hb o g=>e b o (λq=>hc (q ▸ hb)) g
theorem Wc {x y:aD}(D:ZApart z TI TO i1 i2 o1 o2)(U:Sub P w i1 o1 S1 xs)(V:Sub P w i2 o2 S2 ys)(st:zy z TI TO i1 i2 S1 S2 .none k s.heap)(hx:xs[k]?=aa x)(hy:ys[k]?=aa y)
  (q:∀ h',zy z TI TO i1 i2 S1 S2 (dZ s.heap.objs.size) (k+1) h'->oW h' s.heap.objs.size x y->h'.objs.size=s.heap.objs.size+1 ->
   (∀ c o,c≠z->c≠TO->c≠i1->c≠i2->s.heap.get? c=aa o->h'.get? c=aa o)->Q (.ref s.heap.objs.size) { s with heap:=h' }) :
  aM (aO P w) A (Builtin.«zip.__next__» ⟨[.ref z],[]⟩) (λfin s'=>∃ v,fin=.done (.ret v)/\Q v s') E s:=by
 obtain⟨gz,gI,⟨a,b,gO⟩,R9,wE⟩:=st;have z1:i1≠z:=λe=>D.z1 (e ▸ U.mem)
 have z2:i2≠z:=λe=>D.z2 (e ▸ V.mem)
 have t1:TO≠i1:=λe=>D.TO1 (e ▸ U.mem)
 have t2:TO≠i2:=λe=>D.TO2 (e ▸ V.mem)
 show aM _ _ (field (.ref z) 2>>=_) _ E s;refine aF (jE gz rfl (x:=.bool ag) rfl ?_);show aM _ _ (field (.ref z) 3>>=_) _ E s;refine aF (jE gz rfl (x:=.ref TI) rfl (aF (kO gI rfl ?_)));show aM _ _ (Kb (.ref z)>>=_) _ E s;rw[20];unfold Kb;refine aF (jE gz rfl (x:=.none) rfl (aL ?_));simp only[if_true];refine aF (oK (aF (jE gz rfl (x:=.ref TO) rfl ?_)));refine aF (pS gz (by simp) λha Ps sa=>?_)
 replace Ps:IsZip ha z TI TO .ellipsis:=Ps;rw[20];simp only[List.zipIdx_cons,List.zipIdx_nil,RM,Jn];refine aF (aF (PU ?_));show aM _ _ (uK (.ref i1)>>=_) _ _ _;refine aF (U.item _ _ _ _ k x (U.but R9 D.z1 sa.extBut) hx λhb X9 sb=>aL ?_)
 have X':oW hb TO a b:=sb.extBut _ _ t1 (sa.extBut _ _ D.TOz gO);refine aF (kO X' rfl (aF (Hy X' λhc gOc sc=>?_)))
 replace gOc:oW hc TO x b:=gOc;refine aF (GF (aL (aF (aF (PU ?_)))));show aM _ _ (uK (.ref i2)>>=_) _ _ _;refine aF (V.item _ _ _ _ k y (V.but (V.but (V.but wE D.z2 sa.extBut) D.x12 sb.extBut) D.TO2 sc.extBut) hy λhd st2d sd=>aL ?_)
 have gOd:oW hd TO x b:=sd.extBut _ _ t2 gOc;refine aF (kO gOd rfl (aF (Hy gOd λhe gOe se=>?_)))
 replace gOe:oW he TO x y:=gOe;refine aF (GF (aL (aL ?_)));refine aF (kO gOe rfl (aF (wpAny_newTuple ?_)));have size:he.objs.size=s.heap.objs.size:=by rw[se.1,sd.1,sc.1,sb.1,sa.1]
 have gze:IsZip he z TI TO .ellipsis:=se.extBut _ _ D.TOz.symm (sd.extBut _ _ z2.symm (sc.extBut _ _ D.TOz.symm (sb.extBut _ _ z1.symm Ps)));have Op:∀ c o,c≠z->c≠TO->c≠i1->c≠i2->s.heap.get? c=aa o->he.get? c=aa o:=λc o n1 n2 n3 n4 g=>se.extBut _ _ n2 (sd.extBut _ _ n4 (sc.extBut _ _ n2 (sb.extBut _ _ n3 (sa.extBut _ _ n1 g))))
 have st1e:S1 (k+1) he:=U.but (U.but (U.but X9 D.TO1 sc.extBut) D.x21 sd.extBut) D.TO1 se.extBut;have st2e:S2 (k+1) he:=V.but st2d D.TO2 se.extBut;have zlt:z<he.objs.size:=bU gze;show aM _ _ (P9 (.ref z) (.ref he.objs.size)>>=_) _ _ _;rw[20];unfold P9;have gzf:IsZip (he.push { cls:=.type "tuple",data:=.seq #[x,y] }) z TI TO .ellipsis:=bT _ gze;refine aF (pS gzf (by simp) λhg gzg sg=>?_)
 replace gzg:IsZip hg z TI TO (dZ he.objs.size):=gzg;refine pS gzg (by simp) λhi gzi si=>?_
 replace gzi:IsZip hi z TI TO (dZ he.objs.size):=gzi;have up:∀ c o,c≠z->he.get? c=aa o->hi.get? c=aa o:=λc o n1 g=>si.extBut _ _ n1 (sg.extBut _ _ n1 (bT _ g))
 have gT:oW hi he.objs.size x y:=si.extBut _ _ (mI zlt) (sg.extBut _ _ (mI zlt) (cV _ rfl));have sz:hi.objs.size=he.objs.size+1:=by rw[si.1,sg.1,uI]
 have st1i:S1 (k+1) hi:=U.keep _ _ _ st1e λc hc o g=>up c o (λe=>D.z1 (e ▸ hc)) g
 have st2i:S2 (k+1) hi:=V.keep _ _ _ st2e λc hc o g=>up c o (λe=>D.z2 (e ▸ hc)) g
 rw[size] at gzi gT sz;refine aL ⟨_,rfl,?_⟩;show Q (.ref he.objs.size) _;rw[size];exact q hi ⟨gzi,up _ _ D.TIz (Op _ _ D.TIz D.TITO D.TI1 D.TI2 gI),⟨x,y,up _ _ D.TOz gOe⟩,st1i,st2i⟩ gT sz λc o n1 n2 n3 n4 g=>up c o n1 (Op c o n1 n2 n3 n4 g)
theorem Ye {Q:Fin->aH->Prop}(hh:A.handled=ae)(D:ZApart z TI TO i1 i2 o1 o2)(U:Sub P w i1 o1 S1 xs)(V:Sub P w i2 o2 S2 ys)(st:zy z TI TO i1 i2 S1 S2 .none k s.heap)(S7:xs[k]?=ae\/ys[k]?=ae)
  (q:∀ h' e,(∀ c o,c≠z->c≠TO->c≠i1->c≠i2->s.heap.get? c=aa o->h'.get? c=aa o)->(∃ o,h'.get? e=aa o/\o.cls=.type "StopIteration")->E (.ref e) { s with heap:=h' }) :
  aM (aO P w) A (Builtin.«zip.__next__» ⟨[.ref z],[]⟩) Q E s:=by
 obtain⟨gz,gI,⟨a,b,gO⟩,R9,wE⟩:=st;have z1:i1≠z:=λe=>D.z1 (e ▸ U.mem)
 have z2:i2≠z:=λe=>D.z2 (e ▸ V.mem)
 have t1:TO≠i1:=λe=>D.TO1 (e ▸ U.mem)
 show aM _ _ (field (.ref z) 2>>=_) _ E s;refine aF (jE gz rfl (x:=.bool ag) rfl ?_);refine aF (jE gz rfl rfl (aF (kO gI rfl ?_)));rw[20];unfold Kb;refine aF (jE gz rfl rfl (aL ?_));simp only[if_true];refine aF (oK (aF (jE gz rfl rfl ?_)));refine aF (pS gz (by simp) λha Ps sa=>?_)
 replace Ps:IsZip ha z TI TO .ellipsis:=Ps;rw[20];simp only[List.zipIdx_cons,List.zipIdx_nil,RM,Jn];refine aF (aF (PU ?_));have far:∀ {h':aQ} {e:aC},IsZip h' z TI TO .ellipsis->(∃ o,h'.get? e=aa o/\o.cls=.type "StopIteration")->e≠z:=λg ⟨o,g1,g2⟩ n=>by
  subst n;rw[g] at g1;cases g1;simp at g2
 cases hx:xs[k]? with
 |none=>
  refine aF (U.done _ _ _ _ k hh (U.but R9 D.z1 sa.extBut) hx λhb e sb he=>?_)
  have gzb:=sb _ _ z1.symm Ps;have ne:=far gzb he;obtain⟨o,g1,g2⟩:=he;exact pS gzb (by simp) λhc _ sc=>q hc e (λc o n1 _ n3 _ g=>sc.extBut _ _ n1 (sb _ _ n3 (sa.extBut _ _ n1 g))) ⟨o,sc.extBut _ _ ne g1,g2⟩
 |some x=>
  have hy:=S7.resolve_left λh=>by rw[hx] at h;cases h
  refine aF (U.item _ _ _ _ k x (U.but R9 D.z1 sa.extBut) hx λhb X9 sb=>aL ?_)
  have X':=sb.extBut _ _ t1 (sa.extBut _ _ D.TOz gO);refine aF (kO X' rfl (aF (Hy X' λhc gOc sc=>?_)))
  refine aF (GF (aL (aF (aF (PU ?_)))));refine aF (V.done _ _ _ _ k hh (V.but (V.but (V.but wE D.z2 sa.extBut) D.x12 sb.extBut) D.TO2 sc.extBut) hy λhd e sd he=>?_)
  have gzd:=sd _ _ z2.symm (sc.extBut _ _ D.TOz.symm (sb.extBut _ _ z1.symm Ps));have ne:=far gzd he;obtain⟨o,g1,g2⟩:=he;exact pS gzd (by simp) λhf _ sf=>q hf e (λc o n1 n2 n3 n4 g=>sf.extBut _ _ n1 (sd _ _ n4 (sc.extBut _ _ n2 (sb.extBut _ _ n3 (sa.extBut _ _ n1 g))))) ⟨o,sf.extBut _ _ ne g1,g2⟩
theorem Yf {x y:aD}{Q:Option aD->aH->Prop}(D:ZApart z TI TO i1 i2 o1 o2)(U:Sub P w i1 o1 S1 xs)(V:Sub P w i2 o2 S2 ys)(st:zy z TI TO i1 i2 S1 S2 .none k s.heap)(hx:xs[k]?=aa x)(hy:ys[k]?=aa y)
  (q:∀ h',zy z TI TO i1 i2 S1 S2 (dZ s.heap.objs.size) (k+1) h'->oW h' s.heap.objs.size x y->h'.objs.size=s.heap.objs.size+1 ->
   (∀ c o,c≠z->c≠TO->c≠i1->c≠i2->s.heap.get? c=aa o->h'.get? c=aa o)->Q (aa (.ref s.heap.objs.size)) { s with heap:=h' }):aM (aO P w) A (iA (.ref z)) Q E s:=by
 have ty:s.TypeIs (.ref z) "zip":=⟨_,st.1,rfl⟩;unfold iA;exact aF (tY (mG ty RW (gH RW ty F.entry_zip_next (Wc D U V st hx hy λh' a1 a2 a3 a4=>aL (q h' a1 a2 a3 a4)) (F.args_zip_next_1 _))))
theorem Vm {Q:Option aD->aH->Prop}(hh:A.handled=ae)(D:ZApart z TI TO i1 i2 o1 o2)(U:Sub P w i1 o1 S1 xs)(V:Sub P w i2 o2 S2 ys)(st:zy z TI TO i1 i2 S1 S2 .none k s.heap)(S7:xs[k]?=ae\/ys[k]?=ae)
  (q:∀ h',(∀ c o,c≠z->c≠TO->c≠i1->c≠i2->s.heap.get? c=aa o->h'.get? c=aa o)->Q ae { s with heap:=h' }):aM (aO P w) A (iA (.ref z)) Q E s:=by
 have ty:s.TypeIs (.ref z) "zip":=⟨_,st.1,rfl⟩;unfold iA;refine aF (tY (mG ty RW (gH RW ty F.entry_zip_next (Ye hh D U V st S7 λh' e kp ⟨o,g1,g2⟩=>?_) (F.args_zip_next_1 _))))
 exact aF (pU ⟨o,g1,g2⟩ QF (aL (q _ kp)))
end
def SqB (b:Bool)(h:aQ)(l:aC)(us:Array aD):Prop:=match b with
 |true=>h.IsList l us
 |false=>h.IsTuple l us
def U' (b:Bool)(l:aC):bB:={ cls:=.type (match b with|true=>"list_iterator" | false=>"tuple_iterator"),data:=.fields #[.ref l,.int 0 0] }
def StB (b:Bool)(j l:aC)(us:Array aD)(k:Nat)(h:aQ):Prop:=match b with
 |true=>h.IsListIter j l k/\h.IsList l us
 |false=>h.IsTupleIter j l k/\h.IsTuple l us
theorem CG {P:bG}(b:Bool)(j l:aC)(us:Array aD)(ne:l≠j):Sub P w j [j,l] (StB b j l us) us:=by
 cases b with
 |true=>exact Xt j l us ne
 |false=>exact Sx j l us ne
theorem SqB.keep(q:SqB b h l us)(k:∀ o,h.get? l=aa o->h'.get? l=aa o):SqB b h' l us:=by
 cases b with
 |true=>
  obtain⟨o,e,r⟩:=q;exact⟨o,k o e,r⟩
 |false=>
  obtain⟨o,e,r⟩:=q;exact⟨o,k o e,r⟩
theorem StB.new{j:aC}(q:SqB b h l us)(e:h.get? j=aa (U' b l)):StB b j l us 0 h:=by
 cases b with
 |true=>exact⟨⟨_,e,rfl,rfl⟩,q⟩
 |false=>exact⟨⟨_,e,rfl,rfl⟩,q⟩
section
variable {P:bG}{b1 b2:Bool}{l1 l2:aC}{xs ys:Array aD}
theorem VB(h:SqB b s.heap l us)(q:Q (.ref s.heap.objs.size) { s with heap:=s.heap.push (U' b l) }):aM (aO P w) A (nH (.ref l)) Q E s:=by
 cases b with
 |true=>exact GE h q
 |false=>exact wpAny_pyIter_tuple h q
abbrev zA (b1:Bool)(h:aQ)(l1:aC):aQ:=h.push (U' b1 l1)
abbrev zB (b1 b2:Bool)(h:aQ)(l1 l2:aC):aQ:=(zA b1 h l1).push (U' b2 l2)
abbrev zC (b1 b2:Bool)(h:aQ)(l1 l2:aC):aQ:=(zB b1 b2 h l1 l2).push { cls:=.type "tuple",data:=.seq #[.ref h.objs.size,.ref (zA b1 h l1).objs.size] }
abbrev zD (b1 b2:Bool)(h:aQ)(l1 l2:aC):aQ:=(zC b1 b2 h l1 l2).push { cls:=.type "tuple",data:=.seq #[.none,.none] }
abbrev zE (b1 b2:Bool)(h:aQ)(l1 l2:aC):aQ:=(zD b1 b2 h l1 l2).push { cls:=.type "zip",data:=.fields #[.none,.bool ag,.bool ag,.ref (zB b1 b2 h l1 l2).objs.size,.ref (zC b1 b2 h l1 l2).objs.size] }
theorem Yy (b1 b2:Bool)(l1 l2:aC)(xs ys:Array aD) :
  Meets (Builtin.«zip.__new__» ⟨[.type "zip",.ref l1,.ref l2],[]⟩) (λ_ R s=>SqB b1 s.heap l1 xs/\SqB b2 s.heap l2 ys /\
   R (.ok (.ret (.ref (zD b1 b2 s.heap l1 l2).objs.size))) { s with heap:=zE b1 b2 s.heap l1 l2 }):=
 .of_wp λprog w A R s h=>by
  obtain⟨hp,g,d,tk,os⟩:=s;obtain⟨q1,q2,q⟩:=h;have sz:=sub_zip;have u1:SqB b1 (Shared.heap ⟨hp,g,d,tk,os⟩) l1 xs:=q1;have u2:SqB b2 (Shared.heap ⟨hp.push (U' b1 l1),g,d,tk,os⟩) l2 ys:=q2.keep λo e=>bT _ e
  wp_walk using VB u1,VB u2
  exact⟨_,rfl,q⟩
theorem u6 {l1 l2:Nat}(h1:l1<n)(h2:l2<n):ZApart (n+4) (n+2) (n+3) n (n+1) [n,l1] [n+1,l2]:=by
 have V5:∀ {a b c:Nat},a≠b->a≠c->a∉[b,c]:=λh h' m=>by
  rcases cO.1 m with m|m
  .exact h m
  .exact h' (cB.1 m)
 have ne:∀ {a b:Nat},a<b->a≠b:=cQ;have en:∀ {a b:Nat},b<a->a≠b:=mI;exact⟨ne (by omega),ne (by omega),ne (by omega),en (by omega),en (by omega),ne (by omega),V5 (en (by omega)) (en (by omega)),V5 (en (by omega)) (en (by omega)),V5 (en (by omega)) (en (by omega)),V5 (en (by omega)) (en (by omega)),V5 (ne (by omega)) (en h2),V5 (en (by omega)) (en (by omega))⟩
theorem Yv(h1:SqB b1 s.heap l1 xs)(h2:SqB b2 s.heap l2 ys)
  (q:∀ (z TI TO i1 i2:aC) (h':aQ),s.heap.objs.size<=z->s.heap.objs.size<=TI->s.heap.objs.size<=TO->s.heap.objs.size<=i1->s.heap.objs.size<=i2->ZApart z TI TO i1 i2 [i1,l1] [i2,l2]->zy z TI TO i1 i2 (StB b1 i1 l1 xs) (StB b2 i2 l2 ys) .none 0 h' ->
   (∀ c o,s.heap.get? c=aa o->h'.get? c=aa o)->Q (.ref z) { s with heap:=h' }):aM (aO P w) A (call (.type "zip") [.ref l1,.ref l2]) Q E s:=by
 refine callType_new F.called_zip (by decide) (F.typeCall_zip_2 _ _) (F.newCall_zip_2 _ _) (λobj=>F.args_object_init_3 obj _ _) F.entry_zip_new (Yy b1 b2 l1 l2 xs ys) ⟨h1,h2,?_⟩
 have za:(zA b1 s.heap l1).objs.size=s.heap.objs.size+1:=uI ..;have zb:(zB b1 b2 s.heap l1 l2).objs.size=s.heap.objs.size+2:=by rw[uI,za]
 have zc:(zC b1 b2 s.heap l1 l2).objs.size=s.heap.objs.size+3:=by rw[uI,zb]
 have zd:(zD b1 b2 s.heap l1 l2).objs.size=s.heap.objs.size+4:=by rw[uI,zc]
 have g5:(zE b1 b2 s.heap l1 l2).get? (zD b1 b2 s.heap l1 l2).objs.size=aa _:=cV _ rfl;have g4:(zE b1 b2 s.heap l1 l2).get? (zC b1 b2 s.heap l1 l2).objs.size=aa _:=bT _ (cV _ rfl);have g3:(zE b1 b2 s.heap l1 l2).get? (zB b1 b2 s.heap l1 l2).objs.size=aa _:=bT _ (bT _ (cV _ rfl));have g2:(zE b1 b2 s.heap l1 l2).get? (zA b1 s.heap l1).objs.size=aa (U' b2 l2):=bT _ (bT _ (bT _ (cV _ (by cases b2<;>rfl))))
 have g1:(zE b1 b2 s.heap l1 l2).get? s.heap.objs.size=aa (U' b1 l1):=bT _ (bT _ (bT _ (bT _ (cV _ (by cases b1<;>rfl)))))
 have all:∀ c o,s.heap.get? c=aa o->(zE b1 b2 s.heap l1 l2).get? c=aa o:=λc o x=>bT _ (bT _ (bT _ (bT _ (bT _ x))))
 have lt1:l1<s.heap.objs.size:=by
  cases b1 with
  |true=>obtain⟨o,e,_⟩:=h1;exact bU e
  |false=>obtain⟨o,e,_⟩:=h1;exact bU e
 have lt2:l2<s.heap.objs.size:=by
  cases b2 with
  |true=>obtain⟨o,e,_⟩:=h2;exact bU e
  |false=>obtain⟨o,e,_⟩:=h2;exact bU e
 refine⟨⟨_,g5,rfl⟩,q _ (zB b1 b2 s.heap l1 l2).objs.size (zC b1 b2 s.heap l1 l2).objs.size s.heap.objs.size (zA b1 s.heap l1).objs.size _ (by omega) (by omega) (by omega) (by omega) (by omega) ?_ ⟨g5,g3,⟨_,_,g4⟩,StB.new (h1.keep (all l1)) g1,StB.new (h2.keep (all l2)) g2⟩ all⟩
 have ap:=u6 lt1 lt2;rw[<-za,<-zb,<-zc,<-zd] at ap;exact ap
end
def ItB (b:Bool)(j l:aC)(k:Nat)(h:aQ):Prop:=match b with
 |true=>h.IsListIter j l k
 |false=>h.IsTupleIter j l k
theorem Aha{j:aC}{k:Nat}:StB b j l us k h↔ItB b j l k h/\SqB b h l us:=by cases b<;>exact Iff.rfl
theorem ItB.get{j:aC}{k:Nat}(q:ItB b j l k h):∃ o,h.get? j=aa o/\∀ v,o.data ≠ .cell v:=by
 cases b with
 |true=>
  obtain⟨o,e,_,d⟩:=q;exact⟨o,e,λv z=>by rw[d] at z;cases z⟩
 |false=>
  obtain⟨o,e,_,d⟩:=q;exact⟨o,e,λv z=>by rw[d] at z;cases z⟩
theorem ItB.keep{j:aC}{k:Nat}(q:ItB b j l k h)(kp:∀ o,h.get? j=aa o->h'.get? j=aa o):ItB b j l k h':=by
 cases b with
 |true=>
  obtain⟨o,e,r⟩:=q;exact⟨o,kp o e,r⟩
 |false=>
  obtain⟨o,e,r⟩:=q;exact⟨o,kp o e,r⟩
def vy (b:Bool)(K:aJ)(H:Hp)(a:aC)(xs:List V):Prop:=match b with
 |true=>SqL K H a xs
 |false=>SqT K H a xs
section
variable {Z:St}
theorem Inv.sqB(I:Inv X ah Z H s)(h:vy b X.K H a xs):∃ its:List aD,Vals xs its/\SqB b s.heap a its.toArray:=by
 cases b with
 |true=>
  obtain⟨its,rv,p,_⟩:=I.list h;exact⟨its,rv,p.isList⟩
 |false=>
  obtain⟨its,rv,p,_⟩:=I.tuple h;exact⟨its,rv,p⟩
theorem Inv.sqV_inj(I:Inv X ah Z H s)(h:vy b X.K H a xs)(h':vy b X.K H a ys):xs=ys:=by
 cases b with
 |true=>exact I.list_inj h h'
 |false=>exact I.tuple_inj h h'
theorem Inv.turnM {t':Nat}{fp:List aC}(I:Inv X ah Z H s)(hf:∀ b∈fp,jG X ah H b)(k:∀ b o,b∉fp->s.heap.get? b=aa o->h'.get? b=aa o):Inv X ah Z H { s with heap:=h',toks:=t' }:=by
 have out:∀ b u,H b=aa u->b∉fp:=λb u e m=>by
  rw[(hf b m).1] at e;cases e
 have loc:X.env.locals∉fp:=λm=>(hf _ m).2.1 rfl
 refine I.step (λb m=>⟨(hf b m).2.2.2.1,(hf b m).2.1,(hf b m).2.2.2.2.1,(hf b m).2.2.2.2.2⟩) (λb o _ _ n e _=>k b o n e) (λb o _ _ n e _=>⟨o.slots,k b o n e⟩) (λ_ _ _ _ n=>n)
  (λb o n e=>⟨o,k b o n e⟩) (λ_ _ e=>e) (λ_ _ _ e=>e) (λb ps e=>⟨#[],by rw[e];simp⟩) (λm hm=>?_) (λb u e=>?_) I.bare
 .obtain⟨o,es,ep,ho,r⟩:=hm;exact⟨o,es,ep,k _ o loc ho,r⟩
 .refine(I.hok b u e).stay (λc v hc q=>k c v ?_ q) (λ_ q=>q) λ_ _ q=>q
  rcases hc with z|z
  .rw[z];exact out b u e
  .exact out c _ z
end
def HI (K:aJ)(b1 b2:Bool)(a1 a2:aC):It:=
  ⟨λi H=>∃ xs ys x y,vy b1 K H a1 xs/\vy b2 K H a2 ys/\xs[i]?=aa x/\ys[i]?=aa y,
   λi H v H'=>∃ T x y,H T=ae/\v=.ref T/\(∀ xs,vy b1 K H a1 xs->xs[i]?=aa x)/\(∀ ys,vy b2 K H a2 ys->ys[i]?=aa y)/\H'=au H T (.tup [x,y]),
   λi H=>∃ xs ys,vy b1 K H a1 xs/\vy b2 K H a2 ys/\(xs.length<=i\/ys.length<=i)⟩
def tnZ (b1 b2:Bool)(a1 a2 z TI TO i1 i2:aC)(i:Nat)(h:aQ):Prop:=IsZip h z TI TO .none/\oW h TI (.ref i1) (.ref i2)/\(∃ a b,oW h TO a b)/\ItB b1 i1 a1 i h/\ItB b2 i2 a2 i h
theorem Wq {P:bG}{es:List aR}{cx}{pos:bQ}{b1 b2:Bool}{a1 a2 z TI TO i1 i2:aC}(D:ZApart z TI TO i1 i2 [i1,a1] [i2,a2])(n1:a1≠i1)(n2:a2≠i2) :
  Turn P w K (.Tuple es cx pos) (HI K b1 b2 a1 a2) [z,TI,TO,i1,i2] z (tnZ b1 b2 a1 a2 z TI TO i1 i2) where
 mem:=by simp
 obj:=λi h ⟨g1,g2,⟨a,b,g3⟩,g4,g5⟩ c hc=>by
  simp only[cO,BN,or_false] at hc;rcases hc with rfl|rfl|rfl|rfl|rfl
  .exact⟨_,g1,λv q=>by cases q⟩
  .exact⟨_,g2,λv q=>by cases q⟩
  .exact⟨_,g3,λv q=>by cases q⟩
  .exact g4.get
  .exact g5.get
 keep:=λi h h' ⟨g1,g2,⟨a,b,g3⟩,g4,g5⟩ k=>⟨k z (by simp) _ g1,k TI (by simp) _ g2,⟨a,b,k TO (by simp) _ g3⟩,g4.keep (k i1 (by simp)),g5.keep (k i2 (by simp))⟩
 item:=by
  rw[3];obtain⟨xs,ys,x,y,q1,q2,hx,hy⟩:=hg;obtain⟨us,r1,s1⟩:=I.sqB q1;obtain⟨vs,r2,s2⟩:=I.sqB q2;obtain⟨u,hu,ru⟩:=r1.get hx;obtain⟨v,hv,rv⟩:=r2.get hy;obtain⟨g1,g2,⟨pa,pb,g3⟩,g4,g5⟩:=st;have yp:zy z TI TO i1 i2 (StB b1 i1 a1 us.toArray) (StB b2 i2 a2 vs.toArray) .none i s.heap:=⟨g1,g2,⟨pa,pb,g3⟩,Aha.2 ⟨g4,s1⟩,Aha.2 ⟨g5,s2⟩⟩;have xt:∀ b∈[z,TI,TO,i1,i2],b<s.heap.objs.size:=λb m=>by
   simp only[cO,BN,or_false] at m;rcases m with rfl|rfl|rfl|rfl|rfl
   .exact bU g1
   .exact bU g2
   .exact bU g3
   .obtain⟨o,e,_⟩:=g4.get;exact bU e
   .obtain⟨o,e,_⟩:=g5.get;exact bU e
  refine Yf D (CG b1 i1 a1 us.toArray n1) (CG b2 i2 a2 vs.toArray n2) yp (by simpa using hu) (by simpa using hv) λh' zt pr sz Op=>?_
  have fr:=I.hok.fresh (bD _);have I0:Inv X ah Z (au H s.heap.objs.size (.tup [x,y])) { s with heap:=s.heap.push { cls:=.type "tuple",data:=.seq #[u,v] } }:=
   I.laid (λb ob q=>bT _ q) (bD _) ⟨by show 2<=sizeLine;decide,[u,v],.cons ru (.cons rv .nil),Bdm.new _ _⟩
  have S8:∀ b∈[z,TI,TO,i1,i2],jG X ah (au H s.heap.objs.size (.tup [x,y])) b:=λb m=>⟨by rw[dF (cQ (xt b m))];exact(hf b m).1,(hf b m).2⟩
  have I1:Inv X ah Z (au H s.heap.objs.size (.tup [x,y])) { s with heap:=h' }:=I0.turnM S8 λb o n e=>by
   simp only[cO,BN,or_false,not_or] at n;by_cases hb:b=s.heap.objs.size
   .subst hb;have e':(s.heap.push { cls:=.type "tuple",data:=.seq #[u,v] }).get? s.heap.objs.size=aa { cls:=.type "tuple",data:=.seq #[u,v] }:=cV _ rfl;have:=e.symm.trans e';rw[this];exact pr
   .exact Op b o n.1 n.2.2.1 n.2.2.2.1 n.2.2.2.2 ((RU _ _ _ hb).symm.trans e)
  obtain⟨w1,w2,⟨wa,wb,w3⟩,w4,w5⟩:=zt;have z1:i1≠z:=λe=>D.z1 (e ▸ bE)
  have z2:i2≠z:=λe=>D.z2 (e ▸ bE)
  refine⟨_,rfl,wpAny_letOwnedTupleGo_zip w1 λh2 gz sb=>?_⟩
  have I2:Inv X ah Z (au H s.heap.objs.size (.tup [x,y])) { s with heap:=h2 }:=I1.turnM S8 λb o n e=>sb.extBut b o (λq=>n (by simp[q])) e
  exact⟨.ref s.heap.objs.size,_,I2,rfl,⟨_,x,y,fr,rfl,λqm h=>by rw[I.sqV_inj h q1];exact hx,λS9 h=>by rw[I.sqV_inj h q2];exact hy,rfl⟩,
   ⟨gz,sb.extBut _ _ D.TIz w2,⟨wa,wb,sb.extBut _ _ D.TOz w3⟩,(Aha.1 w4).1.keep λo e=>sb.extBut _ _ z1 e,(Aha.1 w5).1.keep λo e=>sb.extBut _ _ z2 e⟩,λb m=>(S8 b m).1⟩
 done:=by
  rw[3];obtain⟨xs,ys,q1,q2,hl⟩:=hg;obtain⟨us,r1,s1⟩:=I.sqB q1;obtain⟨vs,r2,s2⟩:=I.sqB q2;obtain⟨g1,g2,g3,g4,g5⟩:=st;have yp:zy z TI TO i1 i2 (StB b1 i1 a1 us.toArray) (StB b2 i2 a2 vs.toArray) .none i s.heap:=⟨g1,g2,g3,Aha.2 ⟨g4,s1⟩,Aha.2 ⟨g5,s2⟩⟩;have l1:=r1.length;have l2:=r2.length;refine Vm (I.ok.hd hc) D (CG b1 i1 a1 us.toArray n1) (CG b2 i2 a2 vs.toArray n2) yp ?_ λh' Op=>⟨rfl,I.turnM hf λb o n e=>?_⟩
  .rcases hl with hl|hl
   .exact .inl (by simp;omega)
   .exact .inr (by simp;omega)
  .simp only[cO,BN,or_false,not_or] at n;exact Op b o n.1 n.2.2.1 n.2.2.2.1 n.2.2.2.2 e
 self:=λ_ _ _ _ _ st h=>wpAny_pyIter_zip st.1 h
section
variable {a b:aR}{p:bQ}{es:List aR}{cx:Nat}
def Lc (K:aJ)(ta:TA):TI:=λZ H R=>ta Z H λvs H1=>∃ a1 a2 b1 b2 xs ys,vs=[.ref a1,.ref a2]/\vy b1 K H1 a1 xs/\vy b2 K H1 a2 ys/\R (HI K b1 b2 a1 a2) H1
theorem Ob {ta:TA}(hg:Gl X "zip")(hm:X.mg "zip" = ae)(ha:PA X [a,b] ta)(hs:bJ [a,b] X.env=[(ag,bK a X.env),(ag,bK b X.env)]:=by rfl)(jz:bJ [b] X.env=[(ag,bK b X.env)]:=by rfl) :
  PI X (.Tuple es cx wf) (.Call (.Name "zip" p) [a,b] [] pos) (Lc X.K ta):=by
 intro ah s Z H R I h;refine Call_ (sU I hg hm boot_zip (GO (bf (ha pos ah s Z H _ I h) λus s1 ⟨vs,H1,I1,r1,q1⟩=>?_) (by rw[hs,jz]) (by rw[jz];rfl)))
 obtain⟨a1,a2,b1,b2,xs,ys,rfl,k1,k2,q⟩:=q1;cases r1 with
 |cons r rr=>
  cases rr with
  |cons r' rr=>
   cases rr;cases r;cases r';obtain⟨u1,_,w1⟩:=I1.sqB k1;obtain⟨u2,_,w2⟩:=I1.sqB k2;have m1:a1<s1.heap.objs.size:=by
    cases b1 with
    |true=>obtain⟨o,e,_⟩:=w1;exact bU e
    |false=>obtain⟨o,e,_⟩:=w1;exact bU e
   have m2:a2<s1.heap.objs.size:=by
    cases b2 with
    |true=>obtain⟨o,e,_⟩:=w2;exact bU e
    |false=>obtain⟨o,e,_⟩:=w2;exact bU e
   refine Yv w1 w2 λz TI TO i1 i2 h' y0 y1 y2 y3 y4 D yp all=>wpAny_pyIter_zip yp.1 ?_
   refine⟨z,[z,TI,TO,i1,i2],_,_,H1,rfl,I1.kept all,Wq D (λe=>?_) (λe=>?_),⟨yp.1,yp.2.1,yp.2.2.1,(Aha.1 yp.2.2.2.1).1,(Aha.1 yp.2.2.2.2).1⟩,λb m=>?_,q⟩
   .exact kS _ (iO m1 (e ▸ y3))
   .exact kS _ (iO m2 (e ▸ y4))
   .have le:s1.heap.objs.size<=b:=by
     simp only[cO,BN,or_false] at m;rcases m with rfl|rfl|rfl|rfl|rfl<;>assumption
    exact I1.fpOk le (I1.hok.fresh le)
def pJ:aA->Option (List aA)
 |.list ds=>aa ds
 |.tuple ds=>aa ds
 |_=>ae
def pairD (x y:aA):aA:=.tuple [x,y]
def iZ (fa:AF):AF:=λY=>(fa Y).bind λds=>match ds with
 |[x,y]=>(pJ x).bind λxs=>(pJ y).bind λys=>aa (xG pairD xs ys)
 |_=>ae
theorem Cv(e:pJ d=aa ds)(r:Abg K B d v):∃ a b xs,v=.ref a/\(∀ H2,Ext B H2->vy b K H2 a xs)/\Aao K B ds xs:=by
 cases d with
 |list es=>
  cases e;obtain⟨a,xs,rfl,h,rr⟩:=Aa6.1 r;exact⟨a,af,xs,rfl,λH2 x2=>x2.sqL h,rr⟩
 |tuple es=>
  cases e;obtain⟨a,xs,rfl,h,rr⟩:=Aar.1 r;exact⟨a,ag,xs,rfl,λH2 x2=>SqT.of (x2 _ _ h),rr⟩
 |_=>cases e
theorem Um{b1 b2:Bool}{a1 a2:aC}{es:List aA}(h1:∀ H2,Ext B H2->vy b1 K H2 a1 xs)(h2:∀ H2,Ext B H2->vy b2 K H2 a2 ys)(r1:Aao K B ds xs)(r2:Aao K B es ys) :
  xc K B (HI K b1 b2 a1 a2) (xG pairD ds es):=λi H2 x2=>by
 refine⟨λd hd=>?_,λe=>⟨xs,ys,h1 H2 x2,h2 H2 x2,?_⟩⟩
 .rw[List.getElem?_zipWith] at hd;cases c1:ds[i]? with
  |none=>rw[c1] at hd;simp at hd
  |some d1=>
   cases c2:es[i]? with
   |none=>rw[c1,c2] at hd;simp at hd
   |some d2=>
    rw[c1,c2] at hd;have hd:pairD d1 d2=d:=by simpa using hd
    subst hd;obtain⟨v1,g1,g2⟩:=r1.get c1;obtain⟨v2,g3,g4⟩:=r2.get c2;refine⟨⟨xs,ys,v1,v2,h1 H2 x2,h2 H2 x2,g1,g3⟩,?_⟩;rintro x H3 ⟨T,x',y',fr,rfl,k1,k2,rfl⟩;obtain rfl:v1=x':=eO (g1.symm.trans (k1 xs (h1 H2 x2)));obtain rfl:v2=y':=eO (g3.symm.trans (k2 ys (h2 H2 x2)));have ext:Ext H2 (au H2 T (.tup [v1,v2])):=λb u e=>by rw[dF (kN e fr)];exact e
    refine⟨ext,λP2 hP2 xb=>?_⟩
    have nT:¬ P2 T:=λq=>by
     rcases hP2 T q with⟨o,e⟩|⟨o,e⟩<;>rw[fr] at e<;>cases e
    have gT:hid (au H2 T (.tup [v1,v2])) P2 T=aa (.tup [v1,v2]):=gM nT eB;have xx:=xb.trans (cT ext);exact Aar.2 ⟨T,_,rfl,gT,Aaf.2 ⟨_,_,rfl,g2.ext xx,Aaf.2 ⟨_,_,rfl,g4.ext xx,Aak.2 rfl⟩⟩⟩
 .rw[List.length_zipWith] at e;rw[r1.length,r2.length];omega
theorem OP {fa:AF}(hg:Gl X "zip")(hm:X.mg "zip" = ae)(ha:DA X [a,b] fa)(hs:bJ [a,b] X.env=[(ag,bK a X.env),(ag,bK b X.env)]:=by rfl)(jz:bJ [b] X.env=[(ag,bK b X.env)]:=by rfl) :
  DI X (.Tuple es cx wf) (.Call (.Name "zip" p) [a,b] [] pos) (iZ fa):=PI.imp (Ob hg hm ha hs jz) λZ H R gh=>by
 obtain⟨P,Y,ds,hP,rs,ef,k⟩:=gh;obtain⟨as,e1,bx⟩:=ao ef;clear ef
 match as,e1,bx with
 |[x,y],e1,bx=>
  obtain⟨xs,e2,bv⟩:=ao (show((pJ x).bind λxs=>(pJ y).bind λys=>aa (xG pairD xs ys))=aa ds from bx)
  obtain⟨ys,e3,dL⟩:=ao bv;cases dL;refine⟨P,Y,_,hP,rs,e1,λvs H1 x1 r1=>?_⟩
  obtain⟨v,t,rfl,q1,q2⟩:=Aaf.1 r1;obtain⟨v',rfl,q3⟩:=fV q2;obtain⟨a1,b1,us,rfl,k1,w1⟩:=Cv e2 q1;obtain⟨a2,b2,us',rfl,k2,w2⟩:=Cv e3 q3;exact⟨a1,a2,b1,b2,us,us',rfl,k1 _ Aap,k2 _ Aap,k _ H1 x1 (Um k1 k2 w1 w2)⟩
 |[],_,h=>cases h
 |[_],_,h=>cases h
 |_::_::_::_,_,h=>cases h
end
theorem A2:Acy X (.type "range") (λxs H Q=>∃ j:Int,xs=[.int j]/\∀ a,H a=ae->Q (.ref a) (au H a (.rng 0 j))):=by
 rw[5];obtain⟨j,rfl,q⟩:=h;obtain⟨u,rfl,t,rfl⟩:=vals1 r;refine call_range_1 ?_;exact⟨.ref s.heap.objs.size,_,I.laid (o:=.rng 0 j) (λb ob g=>bT _ g) (bD _) ⟨_,_,_,cV _ rfl⟩,rfl,q _ I.fresh⟩
def upTo (n:Nat):List aA:=(cK n).map λ(k:Nat)=>aT k
def yx (n:Nat):List V:=(cK n).map λ(k:Nat)=>V.int k
theorem M9 (hc:X.calm=af):Acy X (.type "list") (λxs H Q=>∃ a,∃ j:Int,xs=[.ref a]/\H a=aa (.rng 0 j) /\ -4096<=j/\j<=4096/\∀ l,H l=ae->Q (.ref l) (au H l (.lst (yx j.toNat)))):=by
 rw[5];obtain⟨a,j,rfl,ha,h1,h2,q⟩:=h;rw[7];obtain⟨t,u,v,g⟩:=(show Ab8 X.prog X.w H s.heap a (.rng 0 j) from I.hok a _ ha)
 have hn:Builtin.Range.rangeSize 0 j 1=(j.toNat:Int):=by rw[rangeSize_one];split<;>omega
 refine call_list_range (I.ok.hd hc) g (small_one (by omega) (by omega) (by omega) (by omega)) hn (by omega) λh' tk cy c' hk hS gm=>?_
 have hv:Vals (yx j.toNat) cy.toList:=by
  refine NO (by simp[yx,gm.1]) λi x u h1 h2=>?_
  obtain⟨t',rfl⟩:=gm.2 i u (by simpa using h2)
  have hi:i<j.toNat:=by
   have:=(cX.1 h1).1;simpa [yx] using this
  have:(yx j.toNat)[i]?=aa (V.int i):=by simp[yx,hi]
  rw[this] at h1;cases h1;exact⟨t',by simp⟩
 exact⟨.ref s.heap.objs.size,_,I.laid hk (bD _) (show Ab8 X.prog X.w _ h' _ (.lst (yx j.toNat)) from⟨by simp[yx,kA];omega,cy.toList,c',hv,by simpa using hS⟩),rfl,q _ I.fresh⟩
theorem y8(n:Nat):Aao K H (upTo n) (yx n):=by
 unfold upTo yx;generalize cK n=l;induction l with
 |nil=>exact Aak.2 rfl
 |cons a l ih=>exact Aaf.2 ⟨_,_,rfl,Aaj.2 rfl,ih⟩
def VX:List aA->Option aA
 |[.int j]=>if -4096<=j/\j<=4096 then aa (.list (upTo j.toNat)) else ae
 |_=>ae
theorem Yx(hc:X.calm=af)(g1:Gl X "list")(m1:X.mg "list" = ae)(g2:Gl X "range")(m2:X.mg "range" = ae)(he:DE X e fe)
  (vp:bJ [BS (.Name "range" p2) [e] [] gn] X.env=[(ag,bK (BS (.Name "range" p2) [e] [] gn) X.env)]:=by rfl) (jz:bJ [e] X.env=[(ag,bK e X.env)]:=by rfl) :
  DF 1 X (.Call (.Name "list" p1) [.Call (.Name "range" p2) [e] [] gn] [] qq) (aN VX (aG fe aK)):=by
 have h1:PE X (.Call (.Name "range" p2) [e] [] gn) _:=tN A2 g2 m2 rfl (hZ he jK jz) (by decide) (by decide) jz rfl
 have h2:PE X (.Call (.Name "list" p1) [.Call (.Name "range" p2) [e] [] gn] [] qq) _:=tN (M9 hc) g1 m1 rfl (hZ h1 jK vp) (by decide) (by decide) vp rfl
 refine PE.imp h2 λZ H Q gh=>?_
 rw[6];obtain⟨Y0,e0,ef⟩:=ao ef;obtain⟨d1,e1,e0⟩:=ao e0;have e0:[d1]=Y0:=by simpa [aK] using e0
 subst e0;cases d1 with
 |int j=>
  obtain⟨hl,rfl⟩:=cG (show(if -4096<=j/\j<=4096 then aa (oP (upTo j.toNat)) else ae)=aa d from ef)
  refine⟨P,Y,.int j,hP,rs,e1,dY λv H1 x1 r1=>?_⟩
  obtain rfl:=Aaj.1 r1;refine⟨j,rfl,λa hn=>⟨a,j,rfl,eB,hl.1,hl.2,λl hl2=>?_⟩⟩
  have x2:Ext H (au H1 a (.rng 0 j)):=x1.trans (Ext.new hn);exact(k.mono x2).lst (hP.ext x2) hl2 (y8 _)
 |_=>cases ef
theorem Ub {P:bG}{k:aI}(h:(fU P w).is k u=af):RelV (kV k) u:=by
 rcases nC h with⟨i,tk,e1,e2⟩|⟨x,tk,e1,e2⟩
 .rw[e1,e2];exact⟨tk,rfl⟩
 .rw[e1,e2];exact⟨tk,rfl⟩
theorem VJ:∀ {kvs:List (aI×V)} {vs:List (aI×aD)} {i:Nat} {kv:aI×V},KV kvs vs->kvs[i]?=aa kv->∃ u,vs[i]?=aa u/\kv.1=u.1/\RelV kv.2 u.2
 |_,_,0,_,.cons h _,e=>by
  cases e;exact⟨_,rfl,h.1,h.2⟩
 |_,_,i+1,_,.cons _ t,e=>by
  obtain⟨u,g⟩:=VJ t (by simpa using e)
  exact⟨u,by simpa using g⟩
section
variable {l:aR}
theorem YJ:∀ {kds:List (aA×aA)} {kvs:List (aI×V)} {i:Nat} {kd:aA×aA},Abo K H kds kvs->kds[i]?=aa kd->∃ kv,kvs[i]?=aa kv/\kd.1=kD kv.1/\Abg K H kd.2 kv.2
 |(k,d)::ds,kvs,0,kd,r,e=>by
  obtain⟨k',y,t,rfl,ek,h1,h2⟩:=Aa4.1 r;cases e;exact⟨(k',y),rfl,ek,h1⟩
 |(k,d)::ds,kvs,i+1,kd,r,e=>by
  obtain⟨k',y,t,rfl,ek,h1,h2⟩:=Aa4.1 r;obtain⟨kv,g1,g2⟩:=YJ h2 (by simpa using e)
  exact⟨kv,by simpa using g1,g2⟩
theorem Uv{k:aI}(h:cM (kD k)=af):Abg K H (kD k) (kV k):=by
 cases k with
 |inl i=>exact Aaj.2 rfl
 |inr x=>exact Aa3.2 ⟨rfl,h⟩
end
theorem FO:rL table "dict.update.loop" = aa Builtin.«dict.update.loop»:=QI (by kernel_rfl)
theorem tP:plainId "dict.update.loop" = af:=by rw[0]
theorem i9:GH (.type "list") "keys" = pure ae:=by rw[wU,wY];kernel_rfl
theorem Ss{xs:Array aD}{k:Nat}{Q:Option aD->aH->Prop}(hx:s.heap.get? a=aa { cls:=.type "list",dict:=ae,data:=.seq xs k,slots:=sl })(hA:A.handled=ae)
  (h:∀ h' tk,(∀ b o,s.heap.get? b=aa o->h'.get? b=aa o)->Q ae { s with heap:=h',toks:=tk }):aM (aO prog w) A (getAttr? (.ref a) "keys") Q E s:=by
 obtain⟨hp,g,d,tk,os⟩:=s;have hT:∀ Q1,(⟨hp,g,d,Q1,os⟩:aH).TypeIs (.ref a) "list":=λ_=>⟨_,hx,rfl⟩
 have f1:=sub_AttributeError;have f3:=Jx.lookup;have f4:=Jx.bind (.ref a);have f5:=am_list_getattr_none;unfold getAttr? getAttrBy? getAttrBy
 repeat (any_goals (first|assumption|exact hT _|((with_reducible show aM _ _ (call (Value.builtin "list.__getattribute__") _ _) _ _ _);refine call_meets Jx (hT _) am_entry_list_getattribute (F.args_list_getattribute_2 _ _) (meets_getattribute_miss_list a xs k sl _ _ i9 (by rw[0])) ⟨hx,hA,λh' Q1 e hx'=>?_⟩)|wp_step))
 obtain⟨t',u',he⟩:=hx'.there;unfold getattributeRaised
 repeat (any_goals (first|assumption|wp_step))
 exact h _ _ hx'.keeps
def Arl (h:aQ)(D:aC)(wr:List aC)(aj:Array aD)(kvs:List (aI×aD)):Prop:=
 ∀ (j:Nat) v,aj[j]?=aa v->∃ b kv p,v=.ref b/\kvs[j]?=aa p/\h.IsTuple b #[kv,p.2]/\(fU prog w).is p.1 kv=af/\b≠D/\b∉wr
theorem Arl.keep{D:aC}{kvs:List (aI×aD)}(q:Arl (prog:=prog) (w:=w) h D wr aj kvs)(k:∀ b o,b≠D->b∉wr->h.get? b=aa o->h'.get? b=aa o):Arl (prog:=prog) (w:=w) h' D wr aj kvs:=λj v e=>by
 obtain⟨b,kv,p,rfl,e1,⟨o,e2,e3⟩,e4,e5,e6⟩:=q j v e;exact⟨b,kv,p,rfl,e1,⟨o,k b o e5 e6 e2,e3⟩,e4,e5,e6⟩
theorem Ci:∀ (more kvs:List (aI×aD)),(oO kvs more).length<=kvs.length+more.length
 |[],kvs=>bD _
 |p::r,kvs=>by
  have h1:=Ci r (tZ kvs p.1 p.2);have h2:(tZ kvs p.1 p.2).length<=kvs.length+1:=by
   unfold tZ;split<;>simp
  show(oO (tZ kvs p.1 p.2) r).length<=_;rw[fE];omega
theorem E9{fp:List aC}{St:Nat->aH->Prop}
  (W:WalksS prog w A.in1 I fp wr G n (λi v=>aj[i]?=aa v) St) (D:aC) (Y1:D∉fp) (kvs:List (aI×aD)) (hn:n<=sizeLine) (nh:kvs.length=n) :
  ∀ (k i:Nat) (s:aH),n-i=k->i<=n->St i s->s.heap.DictOf (fU prog w) D (oO [] (kvs.take i))->Arl (prog:=prog) (w:=w) s.heap D wr aj kvs ->
   (∀ s',Moved (D::wr) G s s'->s'.heap.DictOf (fU prog w) D (oO [] kvs)->R (.ok (.ret .none)) s') ->
   kB (aO prog w) A (.builtin "dict.update.loop" ⟨[.ref D,.ref I,dZ (i:Int),.none],[]⟩) R s:=by
 have Y2:D∉wr:=λz=>Y1 (W.sub _ z)
 have more:∀ b∈wr,b∈D::wr:=λb z=>bH _ z
 intro k;induction k with
 |zero=>
  intro i s hk hi jy hS hT hR;obtain rfl:i=n:=by omega
  refine kQ FO ?_;rw[mP tP _];refine aF (W.done s _ _ jy λs' hm=>?_)
  refine aF (aL (aL (hR s' (hm.mono more) ?_)));obtain⟨o,es,ep,ho,r⟩:=hS;rw[<-nh,rQ] at r;exact⟨o,es,ep,hm.heap D o Y2 ho,r⟩
 |succ k ih=>
  intro i s hk hi jy hS hT hR;have bz:i<n:=by omega
  refine kQ FO ?_;rw[mP tP _];refine aF (W.item i s _ _ bz jy λv s' Tk uo hm=>?_)
  have Tl:=hT.keep λb o _ h2 e=>hm.heap b o h2 e
  obtain⟨b,kv,p,rfl,e1,tb,e4,e5,e6⟩:=Tl i v Tk;have um:s'.heap.DictOf (fU prog w) D (oO [] (kvs.take i)):=by
   obtain⟨o,es,ep,ho,r⟩:=hS;exact⟨o,es,ep,hm.heap D o Y2 ho,r⟩
  have lh:oO [] (kvs.take (i+1))=tZ (oO [] (kvs.take i)) p.1 p.2:=by
   rw[uE,e1];simp[oO,rT]
  have av:(oO [] (kvs.take i)).length<=sizeLine:=by
   have:=Ci (kvs.take i) [];rw[oT] at this;simp at this;omega
  refine aF (fA (aF (wpAny_tryCatch ?_)));unfold Builtin.Dict.pairItems;refine aF (oI tb.typeIs ?_);obtain⟨ob,g1,g2,nb,g3⟩:=tb;refine aF (kO g1 g3 (aL ?_));refine fA (wpAny_dictSet_pairs e4 um (λh' d' sb=>?_) av)
  refine aL ⟨oM tP _,?_⟩;refine ih (i+1) _ (by omega) bz (W.frame _ s' _ _ uo (rP _) λc hc o e=>?_) (by rw[lh];exact d') (Tl.keep λb o h1 _ e=>(sb.2 b h1).trans e) λxn uq S4=>?_
  .exact(sb.2 c (λz=>Y1 (z ▸ hc))).trans e
  .exact hR xn (QZ W.gtrans ((hm.mono more).then_heap (rP _) λc o hc e=>(sb.2 c (λz=>hc (z ▸ bE))).trans e) uq) S4
theorem Ct{N:aQ->Prop}(hh:A.handled=ae)(hl:s.heap.get? l=aa { cls:=.type "list",dict:=ae,data:=.seq aj nl,slots:=sl })
  (hp:∀ (A':bW) (R:qB->aH->Prop) (I:aC) (s1:aH),A'.units<=A.units+50->WalksS prog w A'.in1 I [I,l] [I] (λa b=>b=a) aj.size (λi v=>aj[i]?=aa v) (λi s=>s.heap.IsListIter I l i/\s.heap.IsList l aj)->s.heap.objs.size∉[I,l]->s.heap.objs.size<I->s1.heap.IsListIter I l 0/\s1.heap.IsList l aj ->
   (∀ b o,(s.heap.push { cls:=.type "dict",data:=.dict #[] }).get? b=aa o->s1.heap.get? b=aa o)->(∀ s',Moved [s.heap.objs.size,I] (λa b=>b=a) s1 s'->N s'.heap->R (.ok (.ret .none)) s')->kB (aO prog w) A' (.builtin "dict.update.loop" ⟨[.ref s.heap.objs.size,.ref I,dZ ((0:Nat):Int),.none],[]⟩) R s1)
  (h:∀ h' tk,N h'->(∀ b o,s.heap.get? b=aa o->h'.get? b=aa o)->Q (.ref s.heap.objs.size) { s with heap:=h',toks:=tk }) :
  aM (aO prog w) A (call (.type "dict") [.ref l]) Q E s:=by
 refine callType_codes (Q₁:=λobj s₁=>obj=.ref s.heap.objs.size/\s₁={ s with heap:=s.heap.push { cls:=.type "dict",data:=.dict #[] } }) F.kt_called_dict (F.kt_typeCall_dict_1 _) F.entry_dict_init (kt_code_dict_new _ ⟨rfl,rfl⟩) ?_
 rintro obj s₁ ⟨rfl,rfl⟩;have ds:(s.heap.push { cls:=.type "dict",data:=.dict #[] }).get? s.heap.objs.size=aa { cls:=.type "dict",data:=.dict #[] }:=cV _ rfl;have dn:Shared.TypeIs { s with heap:=(s.heap.push { cls:=.type "dict",data:=.dict #[] }) } (.ref s.heap.objs.size) "dict":=⟨_,ds,rfl⟩;have l1:(s.heap.push { cls:=.type "dict",data:=.dict #[] }).get? l=aa { cls:=.type "list",dict:=ae,data:=.seq aj nl,slots:=sl }:=bT _ hl;refine⟨dn,F.args_dict_init_2 _ _,?_⟩;unfold Builtin.«dict.__init__»;rw[20];unfold Builtin.Dict.selfAndRest;refine aF (wpAny_notOrdered_dict dn (aL ?_));show aM _ _ (Builtin.Dict.updateFrom "dict.__init__" s.heap.objs.size (.ref l) [] .none) _ _ _;unfold Builtin.Dict.updateFrom;refine aF (oI (T:="list") ⟨_,l1,rfl⟩ ?_);rw[if_pos (by decide)]
 refine aF (Ss l1 (by simp[hh]) λh1 tk k1=>?_)
 show aM _ _ (rule _>>=λ_=>nH (.ref l)>>=_) _ _ _
 have l2:h1.get? l=aa { cls:=.type "list",dict:=ae,data:=.seq aj nl,slots:=sl }:=k1 _ _ l1;have L2:h1.IsList l aj:=⟨_,l2,rfl,nl,rfl⟩;refine aF (oK (aF (GE L2 (aL ⟨oM tP _,?_⟩))));have lS:l<s.heap.objs.size:=bU hl;have sD:s.heap.objs.size<h1.objs.size:=bU (k1 _ _ ds);have nI:l≠h1.objs.size:=cQ (GU lS sD);have nS:s.heap.objs.size∉[h1.objs.size,l]:=λz=>by
  rcases cO.1 z with z|z
  .exact absurd z (cQ sD)
  .exact absurd (cB.1 z) (mI lS)
 refine hp _ _ _ _ (by simp<;>omega) ((Walks.list (by simp[hh]) _ l nI aj).toS) nS sD ⟨⟨_,cV _ rfl,rfl,rfl⟩,L2.push _⟩ (λb o e=>bT _ (k1 _ _ e)) λs' hm S'=>?_
 obtain⟨h',g',d',Q1,R5⟩:=s';obtain rfl:g'=s.gens:=hm.gens;obtain rfl:d'=s.drawn:=hm.drawn;obtain rfl:R5=s.os:=hm.os;refine⟨rfl,h h' Q1 S' λb o e=>?_⟩
 have lb:b<s.heap.objs.size:=bU e;refine hm.heap b o (λz=>?_) (bT _ (k1 _ _ (bT _ e)))
 rcases cO.1 z with z|z
 .exact absurd z (cQ lb)
 .exact absurd (cB.1 z) (cQ (GU lb sD))
theorem L3{kvs:List (aI×aD)}(hh:A.handled=ae)(hl:s.heap.get? l=aa { cls:=.type "list",dict:=ae,data:=.seq aj nl,slots:=sl })
  (nh:kvs.length=aj.size) (hz:aj.size<=sizeLine) (hp:∀ (j:Nat) v,aj[j]?=aa v->∃ b kv p,v=.ref b/\kvs[j]?=aa p/\s.heap.IsTuple b #[kv,p.2]/\(fU prog w).is p.1 kv=af)
  (h:∀ h' tk,h'.DictOf (fU prog w) s.heap.objs.size (oO [] kvs)->(∀ b o,s.heap.get? b=aa o->h'.get? b=aa o)->Q (.ref s.heap.objs.size) { s with heap:=h',toks:=tk }) :
  aM (aO prog w) A (call (.type "dict") [.ref l]) Q E s:=by
 refine Ct hh hl (λA' R I s1 _ W nS sD st kp q=>E9 W s.heap.objs.size nS kvs hz nh (aj.size-0) 0 _ rfl (eD _) st ?_ (λj v e=>?_) q) h
 .obtain⟨o,es,ep,ho,r⟩:=(Heap.DictOf.new s.heap:(s.heap.push { cls:=.type "dict",data:=.dict #[] }).DictOf (fU prog w) s.heap.objs.size []);exact⟨o,es,ep,kp _ _ ho,r⟩
 .obtain⟨b,kv,p,rfl,e1,⟨o,e2,e3⟩,e4⟩:=hp j v e;have lb:=bU e2;exact⟨b,kv,p,rfl,e1,⟨o,kp b o (bT _ e2),e3⟩,e4,cQ lb,λz=>absurd (cB.1 z) (cQ (GU lb sD))⟩
theorem VI {α β:Type}{R R':α->β->Prop}(f:∀ a b,R a b->R' a b):∀ {as:List α} {bs:List β},cN R as bs->cN R' as bs:=by
 intro as bs h;induction h with
 |nil=>exact .nil
 |cons h _ ih=>exact .cons (f _ _ h) ih
abbrev IS (K:aJ)(H:Hp)(ys:List V)(ps:List (aI×V)):Prop:=cN (λy (p:aI×V)=>∃ b,y=V.ref b/\SqT K H b [kV p.1,p.2]) ys ps
theorem Vx{Z:St}(I:Inv X ah Z H s):∀ {ys:List V} {ps:List (aI×V)} {its:List aD},IS X.K H ys ps->Vals ys its ->
  ∃ kvs:List (aI×aD),KV ps kvs/\kvs.length=its.length/\∀ (j:Nat) v,its[j]?=aa v->∃ b kv p,v=.ref b/\kvs[j]?=aa p/\s.heap.IsTuple b #[kv,p.2]/\(fU X.prog X.w).is p.1 kv=af:=by
 intro ys ps its hp;induction hp generalizing its with
 |nil=>
  intro r;cases r;exact⟨[],.nil,rfl,λj v e=>by simp at e⟩
 |@cons y p ys ps hq t ih=>
  intro r;obtain⟨b,e,q⟩:=hq;subst e;cases r with
  |cons r rr=>
   cases r;obtain⟨kvs,h1,h2,h3⟩:=ih rr;obtain⟨us,rv,tb,_⟩:=I.tuple q;cases rv with
   |cons ra rb=>
    cases rb with
    |cons rb rc=>
     cases rc;refine⟨(p.1,_)::kvs,.cons ⟨rfl,rb⟩ h1,by simp[h2],λj v e=>?_⟩
     cases j with
     |zero=>
      cases e;exact⟨b,_,(p.1,_),rfl,rfl,tb,sH ra⟩
     |succ j=>exact h3 j v (by simpa using e)
theorem Dm (hc:X.calm=af):Acy X (.type "dict") (λxs H Q=>∃ p ys ps,xs=[.ref p]/\SqL X.K H p ys/\IS X.K H ys ps/\∀ q n,H q=ae->Q (.ref q) (au H q (.dK n (rA [] ps)))):=by
 rw[5];obtain⟨p,ys,ps,rfl,hp,hv,q⟩:=h;rw[7];obtain⟨its,rv,⟨o,n,ho,qd,vm,Q2⟩,hz⟩:=I.list hp;obtain⟨kvs,h1,h2,h3⟩:=Vx I hv rv;have e1:=rv.length;obtain⟨c,dct,dat,sl⟩:=o;simp only at qd vm Q2;subst qd vm Q2;refine L3 (I.ok.hd hc) ho (by rw[dU];exact h2) (by rw[dU];omega) (λj v e=>h3 j v (by simpa using e)) λh' tk dd hk=>?_
 obtain⟨m,da⟩:=dd.dictAt;have lz:(rA [] ps).length<=sizeLine:=by
  have l1:=Eo ps [];have l2:=jF h1;simp at l1;omega
 exact⟨.ref s.heap.objs.size,_,I.laid hk (bD _) (CY lz (beq_eq_false_iff_ne.2 (gV (cQ I.big))) (h1.merge .nil) da),rfl,q _ m I.fresh⟩
def sE:List aA->Option (List (aI×aA))
 |[]=>aa []
 |.tuple [k,d]::r=>(bR k).bind λk=>(sE r).bind λps=>aa ((k,d)::ps)
 |_::_=>ae
def sR (ps:List (aI×aA))(kds:List (aA×aA)):List (aA×aA):=ps.foldl (λak p=>putD ak p.1 p.2) kds
def yD:List aA->Option aA
 |[.list ds]=>(sE ds).bind λps=>aa (.dict (sR ps []))
 |_=>ae
theorem D6:∀ {ps:List (aI×aA)} {qs:List (aI×V)},cN (λ(p:aI×aA) (q:aI×V)=>p.1=q.1/\Abg K H p.2 q.2) ps qs->∀ {kds:List (aA×aA)} {kvs:List (aI×V)},Abo K H kds kvs->Abo K H (sR ps kds) (rA kvs qs):=by
 intro ps qs hp;induction hp with
 |nil=>exact λr=>r
 |@cons p q ps qs hq t ih=>
  intro kds kvs r;have:=ih (DV (k:=p.1) r hq.2);show Abo K H (sR _ (putD kds p.1 p.2)) (rA (putK kvs q.1 q.2) _);rw[<-hq.1];exact this
theorem Wn:∀ {ds:List aA} {ps:List (aI×aA)} {ys:List V},sE ds=aa ps->Aao K H ds ys->∃ qs:List (aI×V),cN (λ(y:V) (q:aI×V)=>∃ b,y=V.ref b/\H b=aa (.tup [kV q.1,q.2])) ys qs/\cN (λ(p:aI×aA) (q:aI×V)=>p.1=q.1/\Abg K H p.2 q.2) ps qs:=by
 intro ds;induction ds with
 |nil=>
  intro ps ys e r;cases e;rw[Aak.1 r];exact⟨[],.nil,.nil⟩
 |cons z ds ih=>
  intro ps ys e r;cases z with
  |tuple zs=>
   cases zs with
   |nil=>cases e
   |cons k zs=>
    cases zs with
    |nil=>cases e
    |cons d zs=>
     cases zs with
     |cons _ _=>cases e
     |nil=>
      obtain⟨key,e1,e⟩:=ao (show((bR k).bind λk=>(sE ds).bind λps=>aa ((k,d)::ps))=aa ps from e)
      obtain⟨ps',e2,e⟩:=ao e;cases e;obtain⟨v,t,rfl,r1,r2⟩:=Aaf.1 r;obtain⟨qs,h1,h2⟩:=ih e2 r2;obtain⟨b,xs,rfl,hb,rx⟩:=Aar.1 r1;obtain⟨u1,t1,rfl,a1,a2⟩:=Aaf.1 rx;obtain⟨u2,rfl,a3⟩:=fV a2;rw[lC e1 a1] at hb;exact⟨(key,u2)::qs,.cons ⟨b,rfl,hb⟩ h1,.cons ⟨rfl,a3⟩ h2⟩
  |_=>cases e
theorem Dt:CallD K 1 (λxs H Q=>∃ p ys ps,xs=[.ref p]/\SqL K H p ys/\IS K H ys ps/\∀ q n,H q=ae->Q (.ref q) (au H q (.dK n (rA [] ps)))) yD:=λP H xs ds d Q hP r e k=>by
 unfold yD at e;split at e
 .obtain⟨ps,e1,e2⟩:=ao e;cases e2;obtain⟨v,rfl,r'⟩:=fV r;obtain⟨q,ys,rfl,hq,rr⟩:=Aa6.1 r';obtain⟨qs,h1,h2⟩:=Wn e1 rr;refine⟨q,ys,qs,rfl,Aap.sqL hq,?_,λl n hn=>k.dic hP hn (D6 h2 (Abm.2 rfl))⟩
  exact VI (λy p ⟨b,e,hb⟩=>⟨b,e,SqT.of (Aap _ _ hb)⟩) h1
 .cases e
abbrev tf:=List aA×aC×aD
def kM (xs more:List tf):List tf:=more.foldl (λak p=>pV ak p.1 p.2.1 p.2.2) xs
theorem Zr {xs:List tf}{v:aD}{x:tf}(m:x∈pV xs k a v):(x.1=k/\x.2.1=a)\/∃ y∈xs,x.1=y.1/\x.2.1=y.2.1:=by
 cases e:pZ xs k with
 |none=>
  rw[storedH_new e] at m;rcases iC.1 m with m|m
  .exact .inr ⟨x,m,rfl,rfl⟩
  .rw[cB.1 m];exact .inl ⟨rfl,rfl⟩
 |some p=>
  rw[storedH_old e] at m;obtain⟨y,my,rfl⟩:=bL.1 m;refine .inr ⟨y,my,?_⟩;unfold putAt;by_cases q:y.1=k
  .rw[if_pos q];exact⟨rfl,rfl⟩
  .rw[if_neg q];exact⟨rfl,rfl⟩
theorem c8 (xs:List tf)(k:List aA)(a:aC)(v:aD):(pV xs k a v).length<=xs.length+1:=by
 cases e:pZ xs k with
 |none=>rw[storedH_new e];simp
 |some p=>rw[storedH_old e];simp
theorem Dq:∀ (more:List tf) {xs:List tf} {x:tf},x∈kM xs more->(∃ p∈more,x.1=p.1/\x.2.1=p.2.1)\/∃ y∈xs,x.1=y.1/\x.2.1=y.2.1
 |[],xs,x,m=>.inr ⟨x,m,rfl,rfl⟩
 |p::r,xs,x,m=>by
  rcases Dq r (show x∈kM (pV xs p.1 p.2.1 p.2.2) r from m) with⟨q,mq,e⟩|⟨y,my,e1,e2⟩
  .exact .inl ⟨q,bH _ mq,e⟩
  .rcases Zr my with⟨a1,a2⟩|⟨z,mz,a1,a2⟩
   .exact .inl ⟨p,bE,e1.trans a1,e2.trans a2⟩
   .exact .inr ⟨z,mz,e1.trans a1,e2.trans a2⟩
theorem Df:∀ (more xs:List tf),(kM xs more).length<=xs.length+more.length
 |[],xs=>bD _
 |p::r,xs=>by
  have h1:=Df r (pV xs p.1 p.2.1 p.2.2);have h2:=c8 xs p.1 p.2.1 p.2.2;show(kM (pV xs p.1 p.2.1 p.2.2) r).length<=_;rw[fE];omega
theorem Am {h0:aQ}{D:aC}{xs:List tf}(e:∀ o,h.get? D=aa o->h'.get? D=aa o)(hs:∀ x∈xs,Abp h0 x.1 x.2.1)(hk:∀ b o,h0.get? b=aa o->h'.get? b=aa o)(d:h.DictOfH (iY prog w) D xs):h'.DictOfH (iY prog w) D xs:=by
 obtain⟨o,es,ep,ho,h1,h2,h3,_,h5⟩:=d;exact⟨o,es,ep,e o ho,h1,h2,h3,λx hx=>(hs x hx).keep λb o _ _ e _ _=>hk b o e,h5⟩
theorem J8{fp:List aC}{St:Nat->aH->Prop}
  (W:WalksS prog w A.in1 I fp wr G n (λi v=>aj[i]?=aa v) St) (D:aC) (Y1:D∉fp) (kvs:List tf) (hn:n<=sizeLine) (nh:kvs.length=n) (hu:A.units+40<cLine) {h0:aQ} (hD0:h0.get? D=ae) (hw0:∀ b∈wr,h0.get? b=ae)
  (hp:∀ (j:Nat) v,aj[j]?=aa v->∃ b p,v=.ref b/\kvs[j]?=aa p/\h0.IsTuple b #[.ref p.2.1,p.2.2]) (V6:∀ p∈kvs,Abp h0 p.1 p.2.1) :
  ∀ (k i:Nat) (s:aH),n-i=k->i<=n->St i s->s.heap.DictOfH (iY prog w) D (kM [] (kvs.take i))->(∀ b o,h0.get? b=aa o->s.heap.get? b=aa o) ->
   (∀ s',Moved (D::wr) G s s'->s'.heap.DictOfH (iY prog w) D (kM [] kvs)->R (.ok (.ret .none)) s') ->
   kB (aO prog w) A (.builtin "dict.update.loop" ⟨[.ref D,.ref I,dZ (i:Int),.none],[]⟩) R s:=by
 have Y2:D∉wr:=λz=>Y1 (W.sub _ z)
 have more:∀ b∈wr,b∈D::wr:=λb z=>bH _ z
 have nw:∀ b o,h0.get? b=aa o->b∉wr:=λb o e z=>by rw[hw0 b z] at e;cases e
 have nD:∀ b o,h0.get? b=aa o->b≠D:=λb o e z=>by rw[z,hD0] at e;cases e
 have kin:∀ i,∀ x∈kM [] (kvs.take i),Abp h0 x.1 x.2.1:=λi x m=>by
  rcases Dq _ m with⟨p,mp,e1,e2⟩|⟨y,my,_⟩
  .rw[e1,e2];exact V6 p (Jg mp)
  .simp at my
 intro k;induction k with
 |zero=>
  intro i s hk hi jy hS hT hR;obtain rfl:i=n:=by omega
  refine kQ FO ?_;rw[mP tP _];refine aF (W.done s _ _ jy λs' hm=>?_)
  refine aF (aL (aL (hR s' (hm.mono more) ?_)));have:=Am (λo e=>hm.heap D o Y2 e) (kin i) (λb o e=>hm.heap b o (nw b o e) (hT b o e)) hS
  rw[<-nh,rQ] at this;exact this
 |succ k ih=>
  intro i s hk hi jy hS hT hR;have bz:i<n:=by omega
  refine kQ FO ?_;rw[mP tP _];refine aF (W.item i s _ _ bz jy λv s' Tk uo hm=>?_)
  have Tl:∀ b o,h0.get? b=aa o->s'.heap.get? b=aa o:=λb o e=>hm.heap b o (nw b o e) (hT b o e)
  obtain⟨b,p,rfl,e1,tb0⟩:=hp i v Tk;have tb:s'.heap.IsTuple b #[.ref p.2.1,p.2.2]:=by
   obtain⟨o,a1,a2⟩:=tb0;exact⟨o,Tl b o a1,a2⟩
  have mp:=eU e1;have um:=Am (λo e=>hm.heap D o Y2 e) (kin i) Tl hS
  have lh:kM [] (kvs.take (i+1))=pV (kM [] (kvs.take i)) p.1 p.2.1 p.2.2:=by
   rw[uE,e1];simp[kM,rT]
  have av:(kM [] (kvs.take i)).length<=sizeLine:=by
   have:=Df (kvs.take i) [];rw[oT] at this;simp at this;omega
  have nj:=(V6 p mp).keep λb o _ _ e _ _=>Tl b o e
  refine aF (fA (aF (wpAny_tryCatch ?_)));unfold Builtin.Dict.pairItems;refine aF (oI tb.typeIs ?_);obtain⟨ob,g1,g2,nb,g3⟩:=tb;refine aF (kO g1 g3 (aL ?_));refine fA (wpAny_dictSet_heap ?_ nj um (λh' d' sb=>?_) av)
  .show _+20<cLine;have:A.in1.units=A.units+1:=rfl;simp;omega
  refine aL ⟨oM tP _,?_⟩;refine ih (i+1) _ (by omega) bz (W.frame _ s' _ _ uo (QW _ _) λc hc o e=>?_) (by rw[lh];exact d') (λb o e=>(sb.2 b (nD b o e)).trans (Tl b o e)) λxn uq S4=>?_
  .exact(sb.2 c (λz=>Y1 (z ▸ hc))).trans e
  .exact hR xn (QZ W.gtrans ((hm.mono more).then_heap (QW _ _) λc o hc e=>(sb.2 c (λz=>hc (z ▸ bE))).trans e) uq) S4
theorem b5{kvs:List tf}(hu:A.units+90<cLine)(hh:A.handled=ae)(hl:s.heap.get? l=aa { cls:=.type "list",dict:=ae,data:=.seq aj nl,slots:=sl })
  (nh:kvs.length=aj.size) (hz:aj.size<=sizeLine) (hp:∀ (j:Nat) v,aj[j]?=aa v->∃ b p,v=.ref b/\kvs[j]?=aa p/\s.heap.IsTuple b #[.ref p.2.1,p.2.2]) (V6:∀ p∈kvs,Abp s.heap p.1 p.2.1)
  (h:∀ h' tk,h'.DictOfH (iY prog w) s.heap.objs.size (kM [] kvs)->(∀ b o,s.heap.get? b=aa o->h'.get? b=aa o)->Q (.ref s.heap.objs.size) { s with heap:=h',toks:=tk }) :
  aM (aO prog w) A (call (.type "dict") [.ref l]) Q E s:=by
 have out:∀ b,s.heap.objs.size<=b->s.heap.get? b=ae:=λb hb=>by
  cases e:s.heap.get? b with
  |none=>rfl
  |some o=>exact absurd (bU e) (Nat.not_lt.2 hb)
 refine Ct hh hl (λA' R I s1 ha W nS sD st kp q=>J8 W s.heap.objs.size nS kvs hz nh (by omega) (h0:=s.heap) (out _ (bD _)) (λb z=>out b (by
  rw[cB.1 z];exact oQ sD)) hp V6 (aj.size-0) 0 _ rfl (eD _) st ?_ (λb o e=>kp b o (bT _ e)) q) h
 obtain⟨o,es,ep,ho,a1,a2,a3,_,a5⟩:=(Heap.DictOfH.new s.heap:(s.heap.push { cls:=.type "dict",data:=.dict #[] }).DictOfH (iY prog w) s.heap.objs.size []);exact⟨o,es,ep,kp _ _ ho,a1,a2,a3,λx hx=>absurd hx BN,a5⟩
abbrev IH (K:aJ)(H:Hp)(ys:List V)(ps:List (List aA×V)):Prop:=cN (λy (p:List aA×V)=>∃ b c,y=V.ref b/\SqT K H b [.ref c,p.2]/\Al0 H p.1 c) ys ps
def oD (kvs more:List (List aA×V)):List (List aA×V):=more.foldl (λak kv=>putK ak kv.1 kv.2) kvs
theorem Eu:∀ (more kvs:List (List aA×V)),(oD kvs more).length<=kvs.length+more.length
 |[],kvs=>by show kvs.length<=kvs.length+0;omega
 |p::r,kvs=>by
  have h1:=Eu r (putK kvs p.1 p.2);have h2:=zV kvs p.1 p.2;show(oD (putK kvs p.1 p.2) r).length<=_;rw[fE];omega
theorem KT.merge:∀ {more:List (List aA×V)} {rs:List tf} {kvs:List (List aA×V)} {vs:List tf},KT H more rs->KT H kvs vs->KT H (oD kvs more) (kM vs rs):=by
 intro more rs kvs vs r;induction r generalizing kvs vs with
 |nil=>intro q;exact q
 |@cons p q ps qs h t ih=>
  intro z;obtain⟨h1,h2,h3⟩:=h;have:=z.put p.1 h2 h3;show KT H (oD (putK kvs p.1 p.2) ps) (kM (pV vs q.1 q.2.1 q.2.2) qs);rw[<-h1];exact ih this
theorem Bp{Z:St}(I:Inv X ah Z H s):∀ {ys:List V} {ps:List (List aA×V)} {its:List aD},IH X.K H ys ps->Vals ys its ->
  ∃ kvs:List tf,KT H ps kvs/\kvs.length=its.length/\(∀ (j:Nat) v,its[j]?=aa v->∃ b p,v=.ref b/\kvs[j]?=aa p/\s.heap.IsTuple b #[.ref p.2.1,p.2.2])/\∀ p∈kvs,Abp s.heap p.1 p.2.1
 |_,_,_,.nil,.nil=>⟨[],.nil,rfl,λj v e=>by simp at e,λp m=>by simp at m⟩
 |_,_,_,.cons (b:=p) ⟨b,c,e,q,tk⟩ t,.cons r rr=>by
  subst e;cases r;obtain⟨kvs,h1,h2,h3,h4⟩:=Bp I t rr;obtain⟨us,rv,tb,_⟩:=I.tuple q;cases rv with
  |cons ra rb=>
   cases ra;cases rb with
   |cons rb rc=>
    cases rc;refine⟨(p.1,c,_)::kvs,.cons ⟨rfl,tk,rb⟩ h1,by simp[h2],λj v e=>?_,λz m=>?_⟩
    .cases j with
     |zero=>
      cases e;exact⟨b,(p.1,c,_),rfl,rfl,tb⟩
     |succ j=>exact h3 j v (by simpa using e)
    .rw[13]
     .exact key_of I.hok tk
     .exact h4 z m
theorem Ea (hu:X.A.units+100<cLine)(hc:X.calm=af):Acy X (.type "dict") (λxs H Q=>∃ p ys ps,xs=[.ref p]/\SqL X.K H p ys/\IH X.K H ys ps/\∀ q n,H q=ae->Q (.ref q) (au H q (.dT n (oD [] ps)))):=by
 rw[5];obtain⟨p,ys,ps,rfl,hp,hv,q⟩:=h;rw[7];obtain⟨its,rv,⟨o,n,ho,qd,vm,Q2⟩,hz⟩:=I.list hp;obtain⟨kvs,h1,h2,h3,h4⟩:=Bp I hv rv;have e1:=rv.length;obtain⟨c,dct,dat,sl⟩:=o;simp only at qd vm Q2;subst qd vm Q2;refine b5 (by omega) (I.ok.hd hc) ho (by rw[dU];exact h2) (by rw[dU];omega) (λj v e=>h3 j v (by simpa using e)) h4 λh' tk dd hk=>?_
 have lz:(oD [] ps).length<=sizeLine:=by
  have l1:=Eu ps [];have l2:=jF h1;simp at l1;omega
 obtain⟨qo,es,ep,a1,a2,a3,a4,_,a5⟩:=dd;have fr:=I.hok.fresh (bD _);exact⟨.ref s.heap.objs.size,_,I.laid (o:=.dT ep (oD [] ps)) hk (bD _) ⟨lz,beq_eq_false_iff_ne.2 (gV (cQ I.big)),_,(h1.merge .nil).keeps λb zs e=>by rw[dF (kN e fr)];exact e,qo,es,a1,a2,a3,a4,a5⟩,rfl,q _ ep I.fresh⟩
def qN:List aA->Option (List (List aA×aA))
 |[]=>aa []
 |.tuple [.tuple k,d]::r=>if (bO k&&decide (cP k<=6))=af then(qN r).bind λps=>aa ((k,d)::ps) else ae
 |_::_=>ae
def lD (kds:List (aA×aA))(k:List aA)(d:aA):List (aA×aA):=if (iU kds k).isSome=af then kds.map λkd=>if bX kd.1 (.tuple k)=af then(kd.1,d) else kd else kds++[(.tuple k,d)]
def iV (ps:List (List aA×aA))(kds:List (aA×aA)):List (aA×aA):=ps.foldl (λak p=>lD ak p.1 p.2) kds
def EA:List aA->Option aA
 |[.list ds]=>(qN ds).bind λps=>aa (.dict ((.none,.none)::iV ps []))
 |_=>ae
theorem LS(hk:bO k=af)(rv:Abg K H d v):∀ {kds:List (aA×aA)} {kvs:List (List aA×V)},Ab6 K H kds kvs ->
  Ab6 K H (kds.map λkd=>if bX kd.1 (.tuple k)=af then(kd.1,d) else kd) (kvs.map λkv=>if kv.1=k then(kv.1,v) else kv)
 |[],kvs,h=>by rw[Acw.1 h];exact Acw.2 rfl
 |(k0,d0)::r,kvs,h=>by
  obtain⟨k',x,rr,rfl,⟨rfl,dz⟩,h1,h2⟩:=Abw.1 h;have e:bX (.tuple k') (.tuple k)=decide (k'=k):=by rw[Fw,zP _ _ dz hk]
  rw[dB,dB];by_cases q:k'=k
  .rw[if_pos q,if_pos (by rw[e];exact decide_eq_true q)]
   exact Abw.2 ⟨k',v,_,rfl,⟨rfl,dz⟩,rv,LS hk rv h2⟩
  .rw[if_neg q,if_neg (by rw[e,decide_eq_false q];simp)]
   exact Abw.2 ⟨k',x,_,rfl,⟨rfl,dz⟩,h1,LS hk rv h2⟩
theorem Ab6.snoc(hk:bO k=af)(rv:Abg K H d v):∀ {kds:List (aA×aA)} {kvs:List (List aA×V)},Ab6 K H kds kvs->Ab6 K H (kds++[(.tuple k,d)]) (kvs++[(k,v)])
 |[],kvs,h=>by rw[Acw.1 h];exact Abw.2 ⟨k,v,[],rfl,⟨rfl,hk⟩,rv,Acw.2 rfl⟩
 |(k0,d0)::r,kvs,h=>by
  obtain⟨k',x,rr,rfl,e,h1,h2⟩:=Abw.1 h;exact Abw.2 ⟨k',x,_,rfl,e,h1,Ab6.snoc hk rv h2⟩
theorem ZG{kvs:List (List aA×V)}(hk:bO k=af)(h:Ab6 K H kds kvs)(rv:Abg K H d v):Ab6 K H (lD kds k d) (putK kvs k v):=by
 unfold lD putK;rw[yX];rcases LL hk h with⟨n1,n2⟩|⟨d',v',s1,s2,_⟩
 .rw[n1,n2,if_neg (by simp),if_neg (by simp)]
  exact Ab6.snoc hk rv h
 .rw[s1,s2,if_pos (show(aa d').isSome=af from rfl),if_pos (show(aa v').isSome=af from rfl)]
  exact LS hk rv h
theorem Cc:∀ {ps:List (List aA×aA)} {qs:List (List aA×V)},cN (λ(p:List aA×aA) (q:List aA×V)=>p.1=q.1/\bO p.1=af/\Abg K H p.2 q.2) ps qs->∀ {kds:List (aA×aA)} {kvs:List (List aA×V)},Ab6 K H kds kvs->Ab6 K H (iV ps kds) (oD kvs qs)
 |_,_,.nil,_,_,r=>r
 |_,_,.cons (a:=p) (b:=q) ⟨e,hk,h⟩ t,kds,kvs,r=>by
  have:=ZG hk r h;have:=Cc t this;show Ab6 K H (iV _ (lD kds p.1 p.2)) (oD (putK kvs q.1 q.2) _);rw[<-e];exact this
theorem YT:∀ {ds:List aA} {ps:List (List aA×aA)} {ys:List V},qN ds=aa ps->Aao K H ds ys->∃ qs:List (List aA×V),cN (λ(y:V) (q:List aA×V)=>∃ b c,y=V.ref b/\H b=aa (.tup [.ref c,q.2])/\Al0 H q.1 c) ys qs/\cN (λ(p:List aA×aA) (q:List aA×V)=>p.1=q.1/\bO p.1=af/\Abg K H p.2 q.2) ps qs
 |[],ps,ys,e,r=>by
  cases e;rw[Aak.1 r];exact⟨[],.nil,.nil⟩
 |d0::ds,ps,ys,e,r=>by
  unfold qN at e;split at e
  .rename_i e0;cases e0
  .rename_i k d r0 e0;cases e0;obtain⟨hc,e⟩:=JK e;have ji:bO k=af/\cP k<=6:=by simpa using hc
   obtain⟨ps',e2,e⟩:=ao e;cases e;obtain⟨v,t,rfl,r1,r2⟩:=Aaf.1 r;obtain⟨qs,h1,h2⟩:=YT e2 r2;obtain⟨b,xs,rfl,hb,rx⟩:=Aar.1 r1;obtain⟨u1,t1,rfl,a1,a2⟩:=Aaf.1 rx;obtain⟨u2,rfl,a3⟩:=fV a2;obtain⟨c,zs,rfl,hz,rz⟩:=Aar.1 a1;exact⟨(k,u2)::qs,.cons ⟨b,c,rfl,hb,ji.1,ji.2,zs,hz,Aao.keys k ji.1 rz⟩ h1,.cons ⟨rfl,ji.1,a3⟩ h2⟩
  .cases e
theorem Al0.ext(x:Ext H H'){c:aC}(t:Al0 H k c):Al0 H' k c:=t.keep λb xs e=>x _ _ e
theorem Eb:CallD K 0 (λxs H Q=>∃ p ys ps,xs=[.ref p]/\SqL K H p ys/\IH K H ys ps/\∀ q n,H q=ae->Q (.ref q) (au H q (.dT n (oD [] ps)))) EA:=λP H xs ds d Q hP r e k=>by
 unfold EA at e;split at e
 .obtain⟨ps,e1,e2⟩:=ao e;cases e2;obtain⟨v,rfl,r'⟩:=fV r;obtain⟨q,ys,rfl,hq,rr⟩:=Aa6.1 r';obtain⟨qs,h1,h2⟩:=YT e1 rr;refine⟨q,ys,qs,rfl,Aap.sqL hq,?_,λl n hn=>?_⟩
  .exact VI (λy p ⟨b,c,e,hb,tk⟩=>⟨b,c,e,SqT.of (Aap _ _ hb),tk.ext Aap⟩) h1
  .refine k.zero (Ext.new hn) ((zN).2 ⟨l,(n,_),rfl,gM (hP.new hn) eB,?_⟩);refine Ab6.ext (λb o e=>?_) (Cc h2 (Acw.2 rfl))
   obtain⟨nb,e⟩:=Aco.1 e;exact gM nb (Ext.new hn _ _ e)
 .cases e
def keyed (kds:List (aA×aA)):Prop:=∀ kd∈kds,∃ k,kd.1=.tuple k/\bO k=af
theorem MG(hk:bO k=af):∀ {kds:List (aA×aA)},keyed kds->((iU kds k).isSome=af↔cL k∈kds.map (·.1))
 |[],_=>by simp[iU]
 |(k0,d)::r,h=>by
  obtain⟨k',e,dz⟩:=h (k0,d) bE;have e:=e;subst e;rw[Cu dz hk];by_cases q:k'=k
  .rw[if_pos q,q];simp
  .rw[if_neg q,MG hk λkd m=>h kd (bH _ m)]
   have:cL k ≠ .tuple k':=λz=>q (BA z).symm
   simp[this]
theorem J3(h:keyed kds)(hk:bO k=af)(d:aA):keyed (lD kds k d)/\∀ x,x∈(lD kds k d).map (·.1)↔x∈kds.map (·.1)\/x=.tuple k:=by
 unfold lD;by_cases q:(iU kds k).isSome=af
 .rw[if_pos q];have e:(kds.map λkd=>if bX kd.1 (.tuple k)=af then(kd.1,d) else kd).map (·.1)=kds.map (·.1):=by
   rw[dS];refine nN λkd _=>?_
   show(if bX kd.1 (.tuple k)=af then(kd.1,d) else kd).1=_
   split<;>rfl
  refine⟨λkd m=>?_,λx=>?_⟩
  .obtain⟨y,my,e2⟩:=bL.1 (show kd.1∈kds.map (·.1) from e ▸ bL.2 ⟨kd,m,rfl⟩)
   rw[<-e2];exact h y my
  .rw[e];exact⟨.inl,λz=>z.elim id λz=>z ▸ (MG hk h).1 q⟩
 .rw[if_neg q];refine⟨λkd m=>?_,λx=>by simp⟩
  rcases iC.1 m with m|m
  .exact h kd m
  .rw[cB.1 m];exact⟨k,rfl,hk⟩
theorem Dp:∀ {ps:List (List aA×aA)} {kds:List (aA×aA)},keyed kds->(∀ p∈ps,bO p.1=af)->keyed (iV ps kds)/\∀ x,x∈(iV ps kds).map (·.1)↔x∈kds.map (·.1)\/∃ p∈ps,x=.tuple p.1
 |[],kds,h,_=>⟨h,λx=>by simp[iV]⟩
 |p::r,kds,h,hp=>by
  obtain⟨h1,h2⟩:=J3 h (hp p bE) p.2;obtain⟨h3,h4⟩:=Dp h1 λq m=>hp q (bH _ m)
  refine⟨h3,λx=>?_⟩
  show x∈(iV r (lD kds p.1 p.2)).map (·.1)↔_;rw[h4,h2];simp[or_assoc]
theorem c7 {ps:List (List aA×aA)}(hp:∀ p∈ps,bO p.1=af)(hk:bO k=af):(iU (iV ps []) k).isSome=decide (k∈ps.map (·.1)):=by
 obtain⟨h1,h2⟩:=Dp (kds:=[]) (λkd m=>by simp at m) hp
 have:=MG hk h1;rw[h2] at this;by_cases q:k∈ps.map (·.1)
 .rw[decide_eq_true q];obtain⟨p,mp,e⟩:=bL.1 q;exact this.2 (.inr ⟨p,mp,by rw[e]⟩)
 .rw[decide_eq_false q];cases e:(iU (iV ps []) k).isSome with
  |false=>rfl
  |true=>
   rcases this.1 e with z|⟨p,mp,e⟩
   .simp at z
   .exact absurd (bL.2 ⟨p,mp,(BA e).symm⟩) q
open PySem PySem.W PyProof.Rows
def bb {α:Type}(lt:Nat->Nat->Bool):KasT α->α
 |.ret a=>a
 |.ask i j k=>bb lt (k (lt i j))
theorem vB {α β:Type}(lt:Nat->Nat->Bool)(f:α->KasT β):∀ t:KasT α,bb lt (t.bind f)=bb lt (f (bb lt t))
 |.ret _=>rfl
 |.ask i j k=>vB lt f (k (lt i j))
structure Ord (lt:Nat->Nat->Bool):Prop where
 asym:∀ a b,lt a b=af->lt b a=ag
 tr:∀ a b c,lt b a=ag->lt c b=ag->lt c a=ag
section
variable {lt:Nat->Nat->Bool}(O:Ord lt)
abbrev at' (p:Array Nat)(i:Nat):Nat:=p.getD i 0
def gL (lt:Nat->Nat->Bool)(p:Array Nat)(m:Nat):Prop:=∀ i j,i<=j->j<m->lt (at' p j) (at' p i)=ag
def rY (lt:Nat->Nat->Bool)(p:Array Nat)(m:Nat):Prop:=∀ i j,i<=j->j<m->lt (at' p i) (at' p j)=ag
include O
theorem Ord.refl (a:Nat):lt a a=ag:=by
 cases h:lt a a with
 |false=>rfl
 |true=>exact absurd (O.asym a a h) (by rw[h];decide)
theorem Ti(h1:1<=n)(h:gL lt p n)(hl:lt (at' p n) (at' p (n-1))=ag):gL lt p (n+1):=λi j oy hj=>by
 by_cases c:j<n
 .exact h i j oy c
 .obtain rfl:j=n:=by omega
  by_cases d:i=j
  .subst d;exact O.refl _
  .exact O.tr _ _ _ (h i (j-1) (by omega) (by omega)) hl
theorem yR(h1:1<=n)(h:rY lt p n)(hl:lt (at' p (n-1)) (at' p n)=ag):rY lt p (n+1):=λi j oy hj=>by
 by_cases c:j<n
 .exact h i j oy c
 .obtain rfl:j=n:=by omega
  by_cases d:i=j
  .subst d;exact O.refl _
  .exact O.tr _ _ _ hl (h i (j-1) (by omega) (by omega))
theorem Rc (p:Array Nat):gL lt p 1:=λi j oy hj=>by
 obtain rfl:j=0:=by omega
 obtain rfl:i=0:=by omega
 exact O.refl _
theorem JC:∀ (f n:Nat),1<=n->gL lt p n->n<=bb lt (kas_asc p f n)/\bb lt (kas_asc p f n)<=n+f/\gL lt p (bb lt (kas_asc p f n))/\(bb lt (kas_asc p f n)<n+f->lt (at' p (bb lt (kas_asc p f n))) (at' p (bb lt (kas_asc p f n)-1))=af)
 |0,n,h1,h=>⟨bD _,bD _,h,λz=>absurd z (by show ¬ n<n+0;omega)⟩
 |f+1,n,h1,h=>by
  have e:bb lt (kas_asc p (f+1) n)=bb lt (if lt (at' p n) (at' p (n-1))=af then KasT.ret n else kas_asc p f (n+1)):=rfl
  rw[e];by_cases c:lt (at' p n) (at' p (n-1))=af
  .rw[if_pos c];exact⟨bD _,by show n<=n+(f+1);omega,h,λ_=>c⟩
  .rw[if_neg c];obtain⟨a1,a2,a3,a4⟩:=JC f (n+1) (by omega) (Ti O h1 h (by simpa using c))
   exact⟨by omega,by omega,a3,λz=>a4 (by omega)⟩
theorem LX{k:Nat}(h:gL lt p k):∀ (f l r:Nat),l<=r->r<=k->r-l<=f->(∀ i<l,lt (at' p k) (at' p i)=ag)->(∀ i,r<=i->i<k->lt (at' p i) (at' p k)=ag) ->
  bb lt (kas_place p k f l r)<=k/\(∀ i<bb lt (kas_place p k f l r),lt (at' p k) (at' p i)=ag)/\∀ i,bb lt (kas_place p k f l r)<=i->i<k->lt (at' p i) (at' p k)=ag
 |0,l,r,h1,h2,h3,hl,hr=>by
  have e:bb lt (kas_place p k 0 l r)=l:=rfl;obtain rfl:l=r:=by omega
  rw[e];exact⟨h2,hl,hr⟩
 |f+1,l,r,h1,h2,h3,hl,hr=>by
  unfold kas_place;by_cases c:l ≥ r
  .rw[if_pos c];obtain rfl:l=r:=by omega
   exact⟨h2,hl,hr⟩
  .rw[if_neg c];show bb lt (if lt (at' p k) (at' p ((l+r)/2))=af then kas_place p k f l ((l+r)/2) else kas_place p k f ((l+r)/2+1) r)<=k/\_
   by_cases d:lt (at' p k) (at' p ((l+r)/2))=af
   .have e:bb lt (KasT.ask (p.getD k 0) (p.getD ((l+r)/2) 0) λc=>if c=af then kas_place p k f l ((l+r)/2) else kas_place p k f ((l+r)/2+1) r)=bb lt (kas_place p k f l ((l+r)/2)):=by
     show bb lt (if lt (at' p k) (at' p ((l+r)/2))=af then _ else _)=_
     rw[if_pos d]
    rw[e,if_pos d];exact LX h f l ((l+r)/2) (by omega) (by omega) (by omega) hl λi a b=>O.tr _ _ _ (O.asym _ _ d) (h _ i a b)
   .have d':lt (at' p k) (at' p ((l+r)/2))=ag:=by simpa using d
    have e:bb lt (KasT.ask (p.getD k 0) (p.getD ((l+r)/2) 0) λc=>if c=af then kas_place p k f l ((l+r)/2) else kas_place p k f ((l+r)/2+1) r)=bb lt (kas_place p k f ((l+r)/2+1) r):=by
     show bb lt (if lt (at' p k) (at' p ((l+r)/2))=af then _ else _)=_
     rw[if_neg d]
    rw[e,if_neg d];refine LX h f ((l+r)/2+1) r (by omega) h2 (by omega) (λi hi=>?_) hr
    exact O.tr _ _ _ (h i ((l+r)/2) (by omega) (by omega)) d'
end
theorem at_of(i:Nat):at' p i=(p[i]?).getD 0:=SJ
theorem WU{k l:Nat}(hk:k<p.size)(hl:l<=k)(i:Nat):at' (bubble p k (k-l)) i=if i=l then at' p k else if l<i/\i<=k then at' p (i-1) else at' p i:=by
 have e:k-(k-l)=l:=by omega
 have q:=getElem?_bubble hk (k-l) (by omega) i
 rw[e] at q;simp only[at_of,q];split
 .rfl
 .split<;>rfl
theorem lY(hj:j<=p.size)(k:Nat):at' (kas_rev p i j) k=if i<=k/\k<j then at' p (i+j-1-k) else at' p k:=by
 have q:=getElem?_mirror_all (i:=i) hj k;simp only[at_of];unfold kas_rev;rw[q];split<;>rfl
theorem LF (p:Array Nat)(i j:Nat):(kas_rev p i j).size=p.size:=mirror_size _ _ _ _
theorem rC (p:Array Nat)(i j:Nat):(kas_rev p i j).Perm p:=mirror_perm _ _ _ _
section
variable {lt:Nat->Nat->Bool}(O:Ord lt)
include O
theorem Gm:∀ (f:Nat) (p:Array Nat) (k:Nat),gL lt p k->k+f<=p.size->(bb lt (kas_bin f p k)).Perm p/\gL lt (bb lt (kas_bin f p k)) (k+f)
 |0,p,k,h,_=>⟨HH _,h⟩
 |f+1,p,k,h,hz=>by
  have e:bb lt (kas_bin (f+1) p k)=bb lt (kas_bin f (bubble p k (k-bb lt (kas_place p k k 0 k))) (k+1)):=by
   show bb lt ((kas_place p k k 0 k).bind λl=>kas_bin f (bubble p k (k-l)) (k+1))=_
   rw[vB]
  obtain⟨h1,h2,h3⟩:=LX O h k 0 k (eD _) (bD _) (by omega) (λi hi=>absurd hi (by omega)) (λi a b=>absurd b (by omega))
  rw[e];generalize bb lt (kas_place p k k 0 k)=l at h1 h2 h3;have hk:k<p.size:=by omega
  have A':gL lt (bubble p k (k-l)) (k+1):=λi j oy hj=>by
   rw[WU hk h1,WU hk h1];by_cases ci:i=l
   .rw[if_pos ci];by_cases cj:j=l
    .rw[if_pos cj];exact O.refl _
    .rw[if_neg cj,if_pos ⟨by omega,by omega⟩]
     exact h3 (j-1) (by omega) (by omega)
   .rw[if_neg ci];by_cases cj:j=l
    .rw[if_pos cj,if_neg (by omega)]
     exact h2 i (by omega)
    .rw[if_neg cj];by_cases di:l<i/\i<=k
     .rw[if_pos di,if_pos ⟨by omega,by omega⟩]
      exact h (i-1) (j-1) (by omega) (by omega)
     .rw[if_neg di];by_cases dj:l<j/\j<=k
      .rw[if_pos dj];exact h i (j-1) (by omega) (by omega)
      .rw[if_neg dj];exact h i j oy (by omega)
  obtain⟨a1,a2⟩:=Gm f (bubble p k (k-l)) (k+1) A' (by rw[bubble_size];omega)
  exact⟨a1.trans (bubble_perm _ _ _),by rw[show k+(f+1)=k+1+f by omega];exact a2⟩
structure Fall (lt:Nat->Nat->Bool)(p:Array Nat)(n q:Nat):Prop where
 pos:q+1<=n
 dsc:rY lt p n
 eq:∀ i j,n-(q+1)<=i->i<n->n-(q+1)<=j->j<n->lt (at' p i) (at' p j)=ag
theorem Fall.rev{q:Nat}(F:Fall lt p n q)(hz:n<=p.size):Fall lt (kas_rev p (n-(q+1)) n) n q:=by
 have hp:=F.pos;refine⟨hp,λi j oy hj=>?_,λi j a b c d=>?_⟩
 .rw[lY hz,lY hz];by_cases ci:n-(q+1)<=i/\i<n
  .rw[if_pos ci,if_pos ⟨by omega,hj⟩]
   exact F.eq _ _ (by omega) (by omega) (by omega) (by omega)
  .rw[if_neg ci];by_cases cj:n-(q+1)<=j/\j<n
   .rw[if_pos cj];exact F.dsc _ _ (by omega) (by omega)
   .rw[if_neg cj];exact F.dsc i j oy hj
 .rw[lY hz,lY hz,if_pos ⟨a,b⟩,if_pos ⟨c,d⟩];exact F.eq _ _ (by omega) (by omega) (by omega) (by omega)
theorem EK:∀ (f:Nat) (p:Array Nat) (n q:Nat),Fall lt p n q->n+f<=p.size->(bb lt (kas_desc f p n q)).1.Perm p/\n<=(bb lt (kas_desc f p n q)).2.1/\(bb lt (kas_desc f p n q)).2.1<=n+f/\Fall lt (bb lt (kas_desc f p n q)).1 (bb lt (kas_desc f p n q)).2.1 (bb lt (kas_desc f p n q)).2.2
 |0,p,n,q,F,_=>⟨HH _,bD _,bD _,F⟩
 |f+1,p,n,q,F,hz=>by
  have hp:=F.pos;have e:bb lt (kas_desc (f+1) p n q)=bb lt (if lt (at' p n) (at' p (n-1))=af then(if q > 0 then kas_desc f (kas_rev p (n-(q+1)) n) (n+1) 0 else kas_desc f p (n+1) 0) else KasT.ask (p.getD (n-1) 0) (p.getD n 0) λd=>if d=af then .ret (p,n,q) else kas_desc f p (n+1) (q+1)):=rfl
  rw[e];by_cases c:lt (at' p n) (at' p (n-1))=af
  .rw[if_pos c];by_cases hq:q > 0
   .rw[if_pos hq];have F':=F.rev O (by omega)
    have hn:at' (kas_rev p (n-(q+1)) n) n=at' p n:=by rw[lY (by omega),if_neg (by omega)]
    have F2:Fall lt (kas_rev p (n-(q+1)) n) (n+1) 0:=by
     refine⟨by omega,yR O (by omega) F'.dsc ?_,λi j a b c' d=>?_⟩
     .rw[hn,lY (by omega),if_pos ⟨by omega,by omega⟩]
      exact O.tr _ _ _ (O.asym _ _ c) (F.eq _ _ (by omega) (by omega) (by omega) (by omega))
     .obtain rfl:i=n:=by omega
      obtain rfl:j=i:=by omega
      exact O.refl _
    obtain⟨a1,a2,a3,a4⟩:=EK f _ (n+1) 0 F2 (by rw[LF];omega)
    exact⟨a1.trans (rC _ _ _),by omega,by omega,a4⟩
   .rw[if_neg hq];have F2:Fall lt p (n+1) 0:=by
     refine⟨by omega,yR O (by omega) F.dsc (O.asym _ _ c),λi j a b c' d=>?_⟩
     obtain rfl:i=n:=by omega
     obtain rfl:j=i:=by omega
     exact O.refl _
    obtain⟨a1,a2,a3,a4⟩:=EK f _ (n+1) 0 F2 (by omega)
    exact⟨a1,by omega,by omega,a4⟩
  .rw[if_neg c];have c':lt (at' p n) (at' p (n-1))=ag:=by simpa using c
   have e2:bb lt (KasT.ask (p.getD (n-1) 0) (p.getD n 0) λd=>if d=af then .ret (p,n,q) else kas_desc f p (n+1) (q+1))=bb lt (if lt (at' p (n-1)) (at' p n)=af then .ret (p,n,q) else kas_desc f p (n+1) (q+1)):=rfl
   rw[e2];by_cases d:lt (at' p (n-1)) (at' p n)=af
   .rw[if_pos d];exact⟨HH _,bD _,by show n<=n+(f+1);omega,F⟩
   .rw[if_neg d];have d':lt (at' p (n-1)) (at' p n)=ag:=by simpa using d
    have F2:Fall lt p (n+1) (q+1):=by
     refine⟨by omega,yR O (by omega) F.dsc d',λi j a b a' b'=>?_⟩
     by_cases ci:i=n
     .by_cases cj:j=n
      .rw[ci,cj];exact O.refl _
      .rw[ci];exact O.tr _ _ _ (F.eq (n-1) j (by omega) (by omega) (by omega) (by omega)) c'
     .by_cases cj:j=n
      .rw[cj];exact O.tr _ _ _ d' (F.eq i (n-1) (by omega) (by omega) (by omega) (by omega))
      .exact F.eq i j (by omega) (by omega) (by omega) (by omega)
    obtain⟨a1,a2,a3,a4⟩:=EK f _ (n+1) (q+1) F2 (by omega)
    exact⟨a1,by omega,by omega,a4⟩
end
section
variable {lt:Nat->Nat->Bool}(O:Ord lt)
include O
theorem Qw(h:rY lt p n)(hz:n<=p.size):gL lt (kas_rev p 0 n) n:=λi j oy hj=>by
 rw[lY hz,lY hz,if_pos ⟨eD _,hj⟩,if_pos ⟨eD _,by omega⟩]
 exact h _ _ (by omega) (by omega)
theorem XY(h1:1<=n)(hn:n<=m)(hz:m<=p.size)(h:rY lt p n):(bb lt (kas_tail3 n m p)).2.Perm p/\(bb lt (kas_tail3 n m p)).1<=m/\1<=(bb lt (kas_tail3 n m p)).1/\gL lt (bb lt (kas_tail3 n m p)).2 (bb lt (kas_tail3 n m p)).1:=by
 unfold kas_tail3;rw[vB];obtain⟨a1,a2,a3,_⟩:=JC O (m-n) n h1 (Qw O h (by omega))
 exact⟨rC _ _ _,by show bb lt (kas_asc (kas_rev p 0 n) (m-n) n)<=m;omega,by show 1<=bb lt (kas_asc (kas_rev p 0 n) (m-n) n);omega,a3⟩
theorem YG(h1:1<=n)(hn:n+1<=m)(hz:m<=p.size)(h:rY lt p (n+1)):(bb lt (kas_descPart n m p)).2.Perm p/\(bb lt (kas_descPart n m p)).1<=m/\1<=(bb lt (kas_descPart n m p)).1/\gL lt (bb lt (kas_descPart n m p)).2 (bb lt (kas_descPart n m p)).1:=by
 have F0:Fall lt p (n+1) 0:=⟨by omega,h,λi j a b c d=>by
  obtain rfl:i=n:=by omega
  obtain rfl:j=i:=by omega
  exact O.refl _⟩
 obtain⟨a1,a2,a3,a4⟩:=EK O (m-(n+1)) p (n+1) 0 F0 (by omega)
 unfold kas_descPart;rw[vB];generalize bb lt (kas_desc (m-(n+1)) p (n+1) 0)=r at a1 a2 a3 a4;have hs:=a1.size_eq;split
 .have F':=a4.rev O (by omega)
  obtain⟨b1,b2,b3,b4⟩:=XY O (by omega) (by omega) (by rw[LF];omega) F'.dsc (m:=m)
  exact⟨b1.trans ((rC _ _ _).trans a1),b2,b3,b4⟩
 .obtain⟨b1,b2,b3,b4⟩:=XY O (by omega) (by omega) (by omega) a4.dsc (m:=m)
  exact⟨b1.trans a1,b2,b3,b4⟩
theorem Ay(h1:1<=m)(hz:m<=p.size):(bb lt (kas_count m p)).2.Perm p/\(bb lt (kas_count m p)).1<=m/\1<=(bb lt (kas_count m p)).1/\gL lt (bb lt (kas_count m p)).2 (bb lt (kas_count m p)).1:=by
 obtain⟨a1,a2,a3,a4⟩:=JC O (m-1) 1 (bD _) (Rc O p);unfold kas_count;rw[vB];generalize bb lt (kas_asc p (m-1) 1)=n at a1 a2 a3 a4;by_cases c:(n==m)=af
 .rw[if_pos c];exact⟨HH _,by show n<=m;omega,a1,a3⟩
 .rw[if_neg c];have hnm:n≠m:=by simpa using c
  have hl:=a4 (by omega)
  by_cases d:n > 1
  .rw[if_pos d];show(bb lt (if lt (at' p 0) (at' p (n-1))=af then KasT.ret (n,p) else kas_descPart n m (kas_rev p 0 n))).2.Perm p/\(bb lt (if lt (at' p 0) (at' p (n-1))=af then KasT.ret (n,p) else kas_descPart n m (kas_rev p 0 n))).1<=m/\1<=(bb lt (if lt (at' p 0) (at' p (n-1))=af then KasT.ret (n,p) else kas_descPart n m (kas_rev p 0 n))).1/\gL lt (bb lt (if lt (at' p 0) (at' p (n-1))=af then KasT.ret (n,p) else kas_descPart n m (kas_rev p 0 n))).2 (bb lt (if lt (at' p 0) (at' p (n-1))=af then KasT.ret (n,p) else kas_descPart n m (kas_rev p 0 n))).1
   by_cases e:lt (at' p 0) (at' p (n-1))=af
   .rw[if_pos e];exact⟨HH _,by show n<=m;omega,a1,a3⟩
   .rw[if_neg e];have e':lt (at' p 0) (at' p (n-1))=ag:=by simpa using e
    have same:∀ i j,i<n->j<n->lt (at' p i) (at' p j)=ag:=λi j hi hj=>
     O.tr _ (at' p 0) _ (O.tr _ _ _ (a3 j (n-1) (by omega) (by omega)) e') (a3 0 i (eD _) hi)
    have D:rY lt (kas_rev p 0 n) (n+1):=by
     refine yR O a1 (λi j oy hj=>?_) ?_
     .rw[lY (by omega),lY (by omega),if_pos ⟨eD _,by omega⟩,if_pos ⟨eD _,hj⟩]
      exact same _ _ (by omega) (by omega)
     .rw[lY (by omega),lY (by omega),if_pos ⟨eD _,by omega⟩,if_neg (by omega)]
      exact O.tr _ _ _ (O.asym _ _ hl) (same _ _ (by omega) (by omega))
    obtain⟨b1,b2,b3,b4⟩:=YG O a1 (by omega) (by rw[LF];exact hz) D (m:=m)
    exact⟨b1.trans (rC _ _ _),b2,b3,b4⟩
  .rw[if_neg d];obtain rfl:n=1:=by omega
   exact YG O (bD _) (by omega) hz (yR O (bD _) (λi j oy hj=>by
    obtain rfl:j=0:=by omega
    obtain rfl:i=0:=by omega
    exact O.refl _) (O.asym _ _ hl))
theorem YK(h1:1<=n):(bb lt (kas_sort n)).Perm (iB (cK n))/\gL lt (bb lt (kas_sort n)) n:=by
 have hs:(iB (cK n)).size=n:=by simp
 obtain⟨a1,a2,a3,a4⟩:=Ay O h1 (by rw[hs];exact bD _)
 unfold kas_sort;rw[vB];generalize bb lt (kas_count n (iB (cK n)))=r at a1 a2 a3 a4;have hz:=a1.size_eq.trans hs;split
 .have em:max r.1 1=r.1:=by omega
  rw[em];obtain⟨b1,b2⟩:=Gm O (n-r.1) r.2 r.1 a4 (by omega)
  exact⟨b1.trans a1,by rw[show r.1+(n-r.1)=n by omega] at b2;exact b2⟩
 .have:r.1=n:=by omega
  exact⟨a1,by rw[this] at a4;exact a4⟩
end
def gY {α:Type}(lt:Nat->Nat->Bool)(N:Nat):KasT α->Prop
 |.ret _=>True
 |.ask i j k=>(i<N/\j<N)/\gY lt N (k (lt i j))
theorem vE {α β:Type}{lt:Nat->Nat->Bool}{f:α->KasT β}:∀ {t:KasT α},gY lt N t->gY lt N (f (bb lt t))->gY lt N (t.bind f)
 |.ret _,_,h=>h
 |.ask i j k,h,h2=>⟨h.1,vE h.2 h2⟩
theorem UF {α:Type}{lt:Nat->Nat->Bool}{Q3:Nat->Nat->(Bool->aH->Prop)->aH->Prop}(hc:∀ i j (C:Bool->aH->Prop),i<N->j<N->C (lt i j) s->Q3 i j C s){Q:α->aH->Prop}:∀ {t:KasT α},gY lt N t->Q (bb lt t) s->t.kasWp Q3 Q s
 |.ret _,_,h=>h
 |.ask i j k,h,q=>hc i j _ h.1.1 h.1.2 (UF hc h.2 q)
abbrev El (N:Nat)(p:Array Nat):Prop:=∀ x∈p,x<N
theorem El.at(h:El N p)(h0:0<N)(i:Nat):at' p i<N:=by
 rw[at_of];cases e:p[i]? with
 |none=>exact h0
 |some v=>exact h v (Array.mem_of_getElem? e)
theorem El.perm{q:Array Nat}(h:El N p)(x:q.Perm p):El N q:=λv m=>h v (x.mem_iff.1 m)
section
variable {lt:Nat->Nat->Bool}(h0:0<N)
include h0
theorem PC(h:El N p):∀ f n,gY lt N (kas_asc p f n)
 |0,_=>trivial
 |f+1,n=>by
  refine⟨⟨h.at h0 _,h.at h0 _⟩,?_⟩;show gY lt N (if lt (at' p n) (at' p (n-1))=af then KasT.ret n else kas_asc p f (n+1))
  by_cases c:lt (at' p n) (at' p (n-1))=af
  .rw[if_pos c];trivial
  .rw[if_neg c];exact PC h f (n+1)
theorem LB{k:Nat}(h:El N p):∀ f l r,gY lt N (kas_place p k f l r)
 |0,_,_=>trivial
 |f+1,l,r=>by
  unfold kas_place;by_cases c:l ≥ r
  .rw[if_pos c];trivial
  .rw[if_neg c];refine⟨⟨h.at h0 _,h.at h0 _⟩,?_⟩;show gY lt N (if lt (at' p k) (at' p ((l+r)/2))=af then kas_place p k f l ((l+r)/2) else kas_place p k f ((l+r)/2+1) r)
   by_cases d:lt (at' p k) (at' p ((l+r)/2))=af
   .rw[if_pos d];exact LB h f _ _
   .rw[if_neg d];exact LB h f _ _
theorem WK:∀ (f:Nat) (p:Array Nat) (k:Nat),El N p->gY lt N (kas_bin f p k)
 |0,_,_,_=>trivial
 |f+1,p,k,h=>vE (LB h0 h k 0 k) (WK f _ _ (h.perm (bubble_perm _ _ _)))
theorem DX:∀ (f:Nat) (p:Array Nat) (n q:Nat),El N p->gY lt N (kas_desc f p n q)/\El N (bb lt (kas_desc f p n q)).1
 |0,_,_,_,h=>⟨trivial,h⟩
 |f+1,p,n,q,h=>by
  have e:bb lt (kas_desc (f+1) p n q)=bb lt (if lt (at' p n) (at' p (n-1))=af then(if q > 0 then kas_desc f (kas_rev p (n-(q+1)) n) (n+1) 0 else kas_desc f p (n+1) 0) else KasT.ask (p.getD (n-1) 0) (p.getD n 0) λd=>if d=af then .ret (p,n,q) else kas_desc f p (n+1) (q+1)):=rfl
  have g:gY lt N (kas_desc (f+1) p n q)↔(at' p n<N/\at' p (n-1)<N)/\gY lt N (if lt (at' p n) (at' p (n-1))=af then(if q > 0 then kas_desc f (kas_rev p (n-(q+1)) n) (n+1) 0 else kas_desc f p (n+1) 0) else KasT.ask (p.getD (n-1) 0) (p.getD n 0) λd=>if d=af then .ret (p,n,q) else kas_desc f p (n+1) (q+1)):=Iff.rfl
  rw[g,e];by_cases c:lt (at' p n) (at' p (n-1))=af
  .rw[if_pos c];by_cases hq:q > 0
   .rw[if_pos hq];obtain⟨a,b⟩:=DX f _ (n+1) 0 (h.perm (rC p (n-(q+1)) n));exact⟨⟨⟨h.at h0 _,h.at h0 _⟩,a⟩,b⟩
   .rw[if_neg hq];obtain⟨a,b⟩:=DX f _ (n+1) 0 h;exact⟨⟨⟨h.at h0 _,h.at h0 _⟩,a⟩,b⟩
  .rw[if_neg c];have e2:bb lt (KasT.ask (p.getD (n-1) 0) (p.getD n 0) λd=>if d=af then .ret (p,n,q) else kas_desc f p (n+1) (q+1))=bb lt (if lt (at' p (n-1)) (at' p n)=af then .ret (p,n,q) else kas_desc f p (n+1) (q+1)):=rfl
   have g2:gY lt N (KasT.ask (p.getD (n-1) 0) (p.getD n 0) λd=>if d=af then .ret (p,n,q) else kas_desc f p (n+1) (q+1))↔(at' p (n-1)<N/\at' p n<N)/\gY lt N (if lt (at' p (n-1)) (at' p n)=af then .ret (p,n,q) else kas_desc f p (n+1) (q+1)):=Iff.rfl
   rw[g2,e2];by_cases d:lt (at' p (n-1)) (at' p n)=af
   .rw[if_pos d];exact⟨⟨⟨h.at h0 _,h.at h0 _⟩,⟨h.at h0 _,h.at h0 _⟩,trivial⟩,h⟩
   .rw[if_neg d];obtain⟨a,b⟩:=DX f _ (n+1) (q+1) h;exact⟨⟨⟨h.at h0 _,h.at h0 _⟩,⟨h.at h0 _,h.at h0 _⟩,a⟩,b⟩
theorem Fx(n m:Nat)(h:El N p):gY lt N (kas_tail3 n m p):=vE (PC h0 (h.perm (rC _ _ _)) _ _) trivial
theorem Hf(n m:Nat)(h:El N p):gY lt N (kas_descPart n m p):=by
 obtain⟨a,b⟩:=DX h0 (m-(n+1)) p (n+1) 0 h;refine vE a ?_;split
 .exact Fx h0 _ _ (b.perm (rC _ _ _))
 .exact Fx h0 _ _ b
theorem Wh(m:Nat)(h:El N p):gY lt N (kas_count m p):=by
 refine vE (PC h0 h _ _) ?_;generalize bb lt (kas_asc p (m-1) 1)=n;by_cases c:(n==m)=af
 .rw[if_pos c];trivial
 .rw[if_neg c];by_cases d:n > 1
  .rw[if_pos d];refine⟨⟨h.at h0 _,h.at h0 _⟩,?_⟩;show gY lt N (if lt (at' p 0) (at' p (n-1))=af then KasT.ret (n,p) else kas_descPart n m (kas_rev p 0 n))
   by_cases e:lt (at' p 0) (at' p (n-1))=af
   .rw[if_pos e];trivial
   .rw[if_neg e];exact Hf h0 _ _ (h.perm (rC _ _ _))
  .rw[if_neg d];exact Hf h0 _ _ h
end
theorem Ue {lt:Nat->Nat->Bool}(O:Ord lt)(h1:1<=n):gY lt n (kas_sort n):=by
 have hs:(iB (cK n)).size=n:=by simp
 have h:El n (iB (cK n)):=λx m=>by simpa using m
 refine vE (Wh (by omega) n h) ?_
 obtain⟨a1,_⟩:=Ay O h1 (by rw[hs];exact bD _)
 generalize bb lt (kas_count n (iB (cK n)))=r at a1;split
 .exact WK (by omega) _ _ _ (h.perm a1)
 .trivial
theorem Ra {lt:Nat->Nat->Bool}(O:Ord lt)(h1:1<=n){Q3:Nat->Nat->(Bool->aH->Prop)->aH->Prop}(hc:∀ i j (C:Bool->aH->Prop),i<n->j<n->C (lt i j) s->Q3 i j C s){G:Array Nat->aH->Prop}
  (h:∀ p:Array Nat,p.Perm (iB (cK n))->gL lt p n->G p s):(kas_sort n).kasWp Q3 G s:=
 UF hc (Ue O h1) (h _ (YK O h1).1 (YK O h1).2)
abbrev Ki (a:aC)(h h':aQ):Prop:=∀ b o,b≠a->h.get? b=aa o->h'.get? b=aa o
abbrev lA (h:aQ)(a:aC)(vs:List aD):aQ:=((h.update a (gK λ_=>#[])).push (fN "tuple" vs.toArray 0)).push (fN "list" #[] 0)
theorem Ho:Ki a h (lA h a vs):=λb o hb e=>
 bT _ (bT _ (((xR h a (gK λ_=>(#[]:Array aD))).2 b hb).trans e))
theorem Fu{κ:SortKind}{lt:Nat->Nat->Bool}{P:PySem.Fin->aH->Prop}(O:Ord lt)(ho:s.heap.get? a=aa (fN "list" vs.toArray n))(h2:2<=vs.length)(qf:vs.length<64)
  (hk:∀ (Q:SortKind->aH->Prop),Q κ { s with heap:=lA s.heap a vs }->aM (aO prog w) A (keyKind' vs.toArray) Q E { s with heap:=lA s.heap a vs })
  (hc:∀ i j (C:Bool->aH->Prop),i<vs.length->j<vs.length->C (lt i j) { s with heap:=lA s.heap a vs }->aM (aO prog w) A (keyLt' κ (vs.getD i eJ) (vs.getD j eJ)) C (λ_ _=>False) { s with heap:=lA s.heap a vs })
  (h:∀ p:Array Nat,p.Perm (iB (cK vs.length))->gL lt p vs.length->P (.done (.ret .none)) { s with heap:=sortedHeap s.heap a vs (iB (p.toList.map λi=>vs.getD i eJ)) }) :
  aM (aO prog w) A (Builtin.«list.sort» ⟨[.ref a],[]⟩) P E s:=by
 have lz:vs.length<=sizeLine:=by rw[kA];omega
 have ha:a<s.heap.objs.size:=bU ho;obtain⟨e1,Y3⟩:∃ e,(s.heap.update a (gK λ_=>(#[]:Array aD))).get? a=aa (fN "list" #[] e):=⟨_,get?_update_seq ho λ_=>#[]⟩
 have Y4:(lA s.heap a vs).get? a=aa (fN "list" #[] e1):=bT _ (bT _ Y3);rw[list_sort_plain];refine aF (listItems_at ho rfl (aF (listUpdate_at ho rfl (aF (seqEpoch_at Y3 rfl (aF (wpAny_newTuple (aF (AV (fA ?_) (eD _))) (by simpa using lz))))) (by rw[dU];exact lz) (eD _))))
 show aM (aO prog w) A _ P E { s with heap:=lA s.heap a vs };rw[18];have big:¬ vs.toArray.size<2:=by rw[dU];omega
 rw[if_neg big,if_neg big];refine aF (hk _ ?_);have eS:SortSt.mk' κ (vs.toArray.zip vs.toArray) #[] 7 ae=kas_st κ (pairsOf vs) (iB (cK vs.length)):=by
  have e:=kas_range (pairsOf vs);rw[pairsOf_size] at e;unfold kas_st;rw[e]
  rfl
 have run:=kas_runs (prog:=prog) (w:=w) (A:=A) (κ:=κ) (it:=pairsOf vs) (E:=E) (s:={ s with heap:=lA s.heap a vs }) (Q:=λ_ ni s'=>s'={ s with heap:=lA s.heap a vs }/\∃ p:Array Nat,p.Perm (iB (cK vs.length))/\gL lt p vs.length/\arrOf ni=p.map (kas_item (pairsOf vs))/\failedOf ni=ae)
  (G:=λp s'=>s'={ s with heap:=lA s.heap a vs }/\p.Perm (iB (cK vs.length))/\gL lt p vs.length) h2 qf (λp' ni s' a1 a2 a3 ⟨b1,b2,b3⟩=>⟨b1,p',b2,b3,a2,a3⟩)
  (Ra O (by omega) (λi j C hi hj q=>by
   unfold kas_cmp;rw[kas_item_eq,kas_item_eq];exact hc i j C hi hj q) λp b1 b2=>⟨rfl,b1,b2⟩)
 rw[<-eS] at run;refine aF (lG run ?_ λ_ _ e=>e)
 rintro⟨⟨⟩,ni⟩ s' ⟨rfl,p,b1,b2,har,hf⟩;rw[18];have Tm:(arrOf ni).map (·.2)=iB (p.toList.map λi=>vs.getD i eJ):=by
  apply Kg.1;rw[har,Array.map_map,Array.toList_map];exact nN λi _=>congrArg Prod.snd (kas_item_eq vs i)
 have hps:p.size=vs.length:=by
  have:=b1.size_eq;simpa using this
 have xp:(iB (p.toList.map λi=>vs.getD i eJ)).size<=sizeLine:=by
  rw[dU,cD,fC,hps];exact lz
 rw[Tm];refine aF (seqEpoch_at Y4 rfl (aF (listUpdate_at Y4 rfl ?_ (eD _) (Nat.le_succ_of_le xp))));rw[hf];simp only[bne_self_eq_false,jC,if_false];exact aL (h p b1 b2)
theorem A3{κ:SortKind}{lt:Nat->Nat->Bool}(O:Ord lt)(hl:s.heap.IsList l vs.toArray)(h2:2<=vs.length)(qf:vs.length<64)
  (hk:∀ h',(∀ b o,s.heap.get? b=aa o->h'.get? b=aa o)->∀ (A':bW) (E':aD->aH->Prop) (R:SortKind->aH->Prop),R κ { s with heap:=h' }->aM (aO prog w) A' (keyKind' vs.toArray) R E' { s with heap:=h' })
  (hc:∀ h',(∀ b o,s.heap.get? b=aa o->h'.get? b=aa o)->∀ (A':bW),A'.units<=A.units+4->∀ i j (C:Bool->aH->Prop),i<vs.length->j<vs.length->C (lt i j) { s with heap:=h' }->aM (aO prog w) A' (keyLt' κ (vs.getD i eJ) (vs.getD j eJ)) C (λ_ _=>False) { s with heap:=h' })
  (h:∀ p:Array Nat,p.Perm (iB (cK vs.length))->gL lt p vs.length->Q (.ref (s.heap.objs.size+1)) { s with heap:=sortedAll s.heap vs (iB (p.toList.map λi=>vs.getD i eJ)) }) :
  aM (aO prog w) A (call (.builtin "sorted") [.ref l]) Q E s:=by
 refine HE kind_sorted plain_sorted entry_sorted (args_sorted1 _) ?_;unfold Builtin.«sorted»;refine aF (aL (aF (collect_list hl (aF (AV ?_)))));have z:((s.heap.push (fN "list" #[] 0)).update s.heap.objs.size (gK (· ++ vs.toArray))).objs.size=s.heap.objs.size+1:=by rw[Heap.size_update,size_push']
 have tz:(((s.heap.push (fN "list" #[] 0)).update s.heap.objs.size (gK (· ++ vs.toArray))).push (fN "list" vs.toArray 0)).get? (s.heap.objs.size+1)=aa (fN "list" vs.toArray 0):=z ▸ cV _ rfl;have kept:∀ b o,s.heap.get? b=aa o->(lA (((s.heap.push (fN "list" #[] 0)).update s.heap.objs.size (gK (· ++ vs.toArray))).push (fN "list" vs.toArray 0)) (s.heap.objs.size+1) vs).get? b=aa o:=λb o e=>by
  have hb:=bU e;refine Ho b o (λq=>?_) (bT _ (((xR _ s.heap.objs.size _).2 b (λq=>?_)).trans (bT _ e)))
  .exact absurd hb (by rw[q];exact Nat.not_lt.2 (rP _))
  .exact absurd hb (by rw[q];exact kS _)
 rw[z];refine aF (fA (gH QC ⟨_,tz,rfl⟩ QH (Fu O tz h2 qf (λR q=>hk _ kept _ _ R q) (λi j C hi hj q=>hc _ kept _ ?_ i j C hi hj q) λp b1 b2=>⟨_,rfl,?_⟩) (QK _)))
 .first|(show A.units+1<=A.units+4;omega)|(show A.units+1+1<=A.units+4;omega)|(show A.units+1+1+1<=A.units+4;omega)
 .exact aL ⟨_,rfl,h p b1 b2⟩
def gZ:aA->List Int
 |.int i=>[0,i]
 |.str x=>1::x.cps.toList.map oX
 |_=>[2]
def cW (ks:List aA):List (List Int):=ks.map gZ
theorem Bh (a b:List (List Int))(h:a<b):¬ b<a:=List.lt_asymm h
theorem Al (a b c:List (List Int))(h1:¬ b<a)(h2:¬ c<b):¬ c<a:=by
 have h1:=h1;have h2:=h2;exact List.le_trans h1 h2
theorem JZ {e:aA}(h1:(∃ i,d=.int i)\/∃ x,d=.str x)(h2:(∃ i,e=.int i)\/∃ x,e=.str x)(h:gZ d=gZ e):d=e:=by
 rcases h1 with⟨i,rfl⟩|⟨x,rfl⟩<;>rcases h2 with⟨j,rfl⟩|⟨y,rfl⟩
 .simp[gZ] at h;rw[h]
 .simp[gZ] at h
 .simp[gZ] at h
 .have h':x.cps.toList.map oX=y.cps.toList.map oX:=by simpa [gZ] using h
  have:=(List.map_inj_right (λa b q=>Int.ofNat.inj q)).1 h'
  have:x=y:=by
   cases x;cases y;simp only at this;rw[Kg.1 this]
  rw[this]
def TL (kss:List (List aA))(i j:Nat):Bool:=decide (cW (kss.getD i [])<cW (kss.getD j []))
theorem UU (kss:List (List aA)):Ord (TL kss):=by
 refine⟨λa b h=>?_,λa b c h1 h2=>?_⟩
 .have:=Bh _ _ (of_decide_eq_true h);exact decide_eq_false this
 .exact decide_eq_false (Al _ _ _ (of_decide_eq_false h1) (of_decide_eq_false h2))
theorem Abg.tupK{ks:List aA}(r:Abg K H (.tuple ks) v)(h1:bO ks=af)(h2:cP ks<=6):∃ a,v=.ref a/\Al0 H ks a:=by
 obtain⟨a,xs,e,s,r⟩:=Aar.1 r;exact⟨a,e,h1,h2,xs,s,Aao.keys ks h1 r⟩
def hG:List aA->Option (List (List aA))
 |[]=>aa []
 |.tuple ks::r=>if bO ks=af/\cP ks<=6 then(hG r).bind λkss=>aa (ks::kss) else ae
 |_::_=>ae
def mE (ak:List (List aA))(k:List aA):List (List aA):=if k∈ak then ak else ak++[k]
def fJ (kss:List (List aA)):List (List aA):=kss.foldl mE []
theorem XH:∀ {ds:List aA} {kss:List (List aA)},hG ds=aa kss->ds=kss.map cL/\∀ ks∈kss,bO ks=af/\cP ks<=6
 |[],kss,h=>by cases h;exact⟨rfl,λ_ m=>by simp at m⟩
 |.tuple ks::r,kss,h=>by
  by_cases c:bO ks=af/\cP ks<=6
  .have h':((hG r).bind λkss=>aa (ks::kss))=aa kss:=by
    have:(if bO ks=af/\cP ks<=6 then(hG r).bind λkss=>aa (ks::kss) else ae)=aa kss:=h
    rw[if_pos c] at this;exact this
   obtain⟨k2,e1,e2⟩:=ao h';cases e2;obtain⟨q1,q2⟩:=XH e1;refine⟨by rw[q1];rfl,λx m=>?_⟩
   rw[13]
   .exact c
   .exact q2 x m
  .have:(if bO ks=af/\cP ks<=6 then(hG r).bind λkss=>aa (ks::kss) else ae)=aa kss:=h
   rw[if_neg c] at this;cases this
 |.none::_,_,h=>by cases h
 |.bool _::_,_,h=>by cases h
 |.int _::_,_,h=>by cases h
 |.str _::_,_,h=>by cases h
 |.list _::_,_,h=>by cases h
 |.dict _::_,_,h=>by cases h
open PySem PySem.Spec PySem.W PyProof.Rows
def hW:List aA->List aA->Bool
 |[],[]=>af
 |.int _::r,.int _::r'=>hW r r'
 |.str _::r,.str _::r'=>hW r r'
 |_,_=>ag
theorem Ez (i j:Int)(r r':List aA):(cW (.int i::r)<cW (.int j::r'))↔i<j\/i=j/\cW r<cW r':=by
 show(gZ (.int i)::cW r<gZ (.int j)::cW r')↔_;rw[BP];simp[gZ,BP]
theorem map_lt (xs ys:List Nat):(xs.map oX<ys.map oX)↔xs<ys:=by
 induction xs generalizing ys with
 |nil=>cases ys<;>simp
 |cons x r ih=>
  cases ys with
  |nil=>simp
  |cons y r'=>
   rw[dB,dB,BP,BP,ih];have h1:(oX x<oX y)↔x<y:=Int.ofNat_lt;have h2:(oX x=oX y)↔x=y:=⟨λe=>Int.ofNat.inj e,λe=>by rw[e]⟩
   rw[h1,h2]
theorem Gn (x y:aE)(r r':List aA):(cW (.str x::r)<cW (.str y::r'))↔x.cps.toList<y.cps.toList\/x=y/\cW r<cW r':=by
 show(gZ (.str x)::cW r<gZ (.str y)::cW r')↔_;rw[BP];have h1:(gZ (.str x)<gZ (.str y))↔x.cps.toList<y.cps.toList:=by
  show((1:Int)::x.cps.toList.map oX<(1:Int)::y.cps.toList.map oX)↔_;rw[BP,map_lt];simp
 have h2:(gZ (.str x)=gZ (.str y))↔x=y:=⟨λe=>by
  have:=JZ (.inr ⟨x,rfl⟩) (.inr ⟨y,rfl⟩) e;injection this,λe=>by rw[e]⟩
 rw[h1,h2]
section
variable {Q:Bool->aH->Prop}
theorem CT:∀ (ks il:List aA) {vs Y5:List aD} {as zm:List aC} (i:Nat),hW ks il=af->nL s.heap vs ks as->nL s.heap Y5 il zm->Q (decide (cW ks<cW il)) s->KatLex prog w A b ag Q (vs.zip Y5) i s
 |[],[],vs,Y5,as,zm,i,_,r,r',h=>by
  cases r;cases r';exact kat_nil h
 |.int x::ks,.int y::il,vs,Y5,as,zm,i,hs,r,r',h=>by
  cases r with
  |cons r1 r2=>
   cases r' with
   |cons Y6 r2'=>
    cases r1 with
    |int _ t=>
     cases Y6 with
     |int _ u=>
      rw[Jc];refine kat_cons ((fU prog w).eqBool (NI _ _ x t) (NI _ _ y u) ?_);refine kat_go (λe=>kat_yes ?_) λe=>kat_no ?_
      .have e':x=y:=by simpa using e
       subst e';refine CT ks il (i+1) (by simpa [hW] using hs) r2 r2' ?_
       have:decide (cW (.int x::ks)<cW (.int x::il))=decide (cW ks<cW il):=decide_eq_decide.2 (by rw[Ez];simp)
       rw[<-this];exact h
      .have e':x≠y:=by simpa using e
       have:decide (cW (.int x::ks)<cW (.int y::il))=decide (x<y):=decide_eq_decide.2 (by rw[Ez];simp[e'])
       rw[this] at h;cases(b&&i==0) with
       |true=>exact oneLt_int h
       |false=>exact kat_one _ _ (lt_int h)
 |.str x::ks,.str y::il,vs,Y5,as,zm,i,hs,r,r',h=>by
  cases r with
  |cons r1 r2=>
   cases r' with
   |cons Y6 r2'=>
    cases r1 with
    |str _ t=>
     cases Y6 with
     |str _ u=>
      rw[Jc];refine kat_cons ((fU prog w).eqBool (MY _ _ x t) (MY _ _ y u) ?_);refine kat_go (λe=>kat_yes ?_) λe=>kat_no ?_
      .have e':x=y:=by simpa using e
       subst e';refine CT ks il (i+1) (by simpa [hW] using hs) r2 r2' ?_
       have:decide (cW (.str x::ks)<cW (.str x::il))=decide (cW ks<cW il):=decide_eq_decide.2 (by rw[Gn];simp[List.lt_irrefl])
       rw[<-this];exact h
      .have e':x≠y:=by simpa using e
       have:decide (cW (.str x::ks)<cW (.str y::il))=decide (x.cps.toList<y.cps.toList):=decide_eq_decide.2 (by rw[Gn];simp[e'])
       rw[this] at h;cases(b&&i==0) with
       |true=>exact oneLt_str h
       |false=>exact kat_one _ _ (lt_str h)
end
def kG:List aA->Option String
 |.int _::_=>aa "int"
 |.str _::_=>aa "str"
 |_=>ae
theorem Yk {M:Model}{b:aC}(hd:Abp h k b)(hk:kG k=aa T) :
  ∃ o xs n f,h.get? b=aa o/\o.cls=.type "tuple" /\ o.data=.seq xs n/\xs[0]?=aa f/\Looks M h (typeOf f) (.type T):=by
 obtain⟨_,_,as,r⟩:=hd;obtain⟨a,o,xs,n,e,ho,hc,hd,hi⟩:=oH r;cases e
 match k,hk,hi with
 |.int i::r,hk,hi=>
  cases hk;generalize hx:xs.toList=l at hi;cases hi with
  |cons h1 _=>
   cases h1 with
   |int _ t=>exact⟨o,xs,n,.int i t,ho,hc,hd,by rw[<-nU,hx];rfl,Looks.of_pure rfl⟩
 |.str x::r,hk,hi=>
  cases hk;generalize hx:xs.toList=l at hi;cases hi with
  |cons h1 _=>
   cases h1 with
   |str _ t=>exact⟨o,xs,n,.str x t,ho,hc,hd,by rw[<-nU,hx];rfl,Looks.of_pure rfl⟩
abbrev Agx (h:aQ)(vs:List aD)(kss:List (List aA)):Prop:=cN (λv k=>∃ b,v=eI b/\Abp h k b) vs kss
theorem LW {M:Model}{h:aQ}{T:String}:∀ {vs:List aD} {kss:List (List aA)},Agx h vs kss->(∀ k∈kss,kG k=aa T)->∃ fs,KatTups h vs fs/\fs.length=vs.length/\∀ f∈fs,Looks M h (typeOf f) (.type T)
 |_,_,.nil,_=>⟨[],KatTups.nil,rfl,λ_ m=>by simp at m⟩
 |_,_,.cons ⟨b,e,hd⟩ t,hk=>by
  obtain⟨fs,h1,h2,h3⟩:=LW (M:=M) t λk m=>hk k (bH _ m)
  obtain⟨o,xs,n,f,q1,q2,q3,q4,q5⟩:=Yk (M:=M) hd (hk _ bE);subst e;refine⟨f::fs,KatTups.cons q1 q2 q3 q4 h1,by rw[fE,fE,h2],λg m=>?_⟩
  rw[13]
  .exact q5
  .exact h3 g m
theorem Agx.get:∀ {vs:List aD} {kss:List (List aA)},Agx h vs kss->∀ i,i<vs.length->∃ b,vs.getD i eJ=.ref b/\Abp h (kss.getD i []) b/\kss.getD i []∈kss
 |_,_,.nil,i,hi=>absurd hi (by simp)
 |_,_,.cons ⟨b,e,hd⟩ t,0,_=>⟨b,e,hd,bE⟩
 |_,_,.cons _ t,i+1,hi=>by
  obtain⟨b,q1,q2,q3⟩:=Agx.get t i (by simpa using hi)
  exact⟨b,by simpa using q1,by simpa using q2,by simpa using bH _ q3⟩
theorem Agx.keep(k:∀ b o,h.get? b=aa o->h'.get? b=aa o):∀ {vs:List aD} {kss:List (List aA)},Agx h vs kss->Agx h' vs kss
 |_,_,.nil=>.nil
 |_,_,.cons ⟨b,e,hd⟩ t=>.cons ⟨b,e,hd.keep λb o _ _ q _ _=>k b o q⟩ (Agx.keep k t)
theorem EY:∀ {k k':List aA},hW k k'=af->k.length=k'.length
 |[],[],_=>rfl
 |.int _::r,.int _::r',h=>by rw[fE,fE,EY (by simpa [hW] using h)]
 |.str _::r,.str _::r',h=>by rw[fE,fE,EY (by simpa [hW] using h)]
theorem zR:∀ {vs:List aD} {ks:List aA} {as:List aC},nL h vs ks as->vs.length=ks.length
 |_,_,_,.nil=>rfl
 |_,_,_,.cons _ t=>by rw[fE,fE,zR t]
theorem Zv(hl:s.heap.IsList l vs.toArray)(ht:Agx s.heap vs kss)(hT:T = "int" \/ T = "str")(hk:∀ k∈kss,kG k=aa T)(hs:∀ k∈kss,∀ k'∈kss,hW k k'=af)(h2:2<=vs.length)(qf:vs.length<64)
  (h:∀ p:Array Nat,p.Perm (iB (cK vs.length))->gL (TL kss) p vs.length->Q (.ref (s.heap.objs.size+1)) { s with heap:=sortedAll s.heap vs (iB (p.toList.map λi=>vs.getD i eJ)) }) :
  aM (aO prog w) A (call (.builtin "sorted") [.ref l]) Q E s:=by
 refine A3 (κ:=tuples' (jM T != jM "tuple")) (UU kss) hl h2 qf (λh' kp A' E' R q=>?_) (λh' kp A' _ i j C hi hj q=>?_) h
 .obtain⟨fs,f1,f2,f3⟩:=LW (M:=aO prog w) (ht.keep kp) hk;exact kat_kind (s:={ s with heap:=h' }) f1 (by omega) f3 (by rcases hT with rfl|rfl<;>decide) q
 .have V7:=ht.keep kp;obtain⟨b,e1,⟨_,_,as,r1⟩,m1⟩:=V7.get i hi;obtain⟨b',e2,⟨_,_,zm,r2⟩,m2⟩:=V7.get j hj;rw[e1,e2];obtain⟨_,o,xs,n,z,ho,_,hd,hr⟩:=oH r1;cases z;obtain⟨_,o',qm,n',z,xm,_,tp,Y7⟩:=oH r2;cases z;have Ty:=hs _ m1 _ m2;have l1:=zR hr;have l2:=zR Y7;have ll:=EY Ty;have:decide (xs.size<qm.size)=ag:=decide_eq_false (by simp only[fC] at l1 l2;omega)
  refine kat_lt (s:={ s with heap:=h' }) ho hd xm tp ?_;rw[this];exact CT _ _ 0 Ty hr Y7 q
theorem ZC{P:PySem.Fin->aH->Prop}(ho:s.heap.get? a=aa (fN "list" vs.toArray n))(h2:vs.length<2)(h:P (.done (.ret .none)) { s with heap:=sortedHeap s.heap a vs vs.toArray }) :
  aM (aO prog w) A (Builtin.«list.sort» ⟨[.ref a],[]⟩) P E s:=by
 have lz:vs.length<=sizeLine:=by rw[kA];omega
 obtain⟨e1,Y3⟩:∃ e,(s.heap.update a (gK λ_=>(#[]:Array aD))).get? a=aa (fN "list" #[] e):=⟨_,get?_update_seq ho λ_=>#[]⟩
 have Y4:(lA s.heap a vs).get? a=aa (fN "list" #[] e1):=bT _ (bT _ Y3);rw[list_sort_plain];refine aF (listItems_at ho rfl (aF (listUpdate_at ho rfl (aF (seqEpoch_at Y3 rfl (aF (wpAny_newTuple (aF (AV (fA ?_) (eD _))) (by simpa using lz))))) (by rw[dU];exact lz) (eD _))))
 rw[18];have few:vs.toArray.size<2:=by rw[dU];exact h2
 rw[if_pos few,if_pos few];refine aF (aL ?_);rw[StateT.run_pure];refine aF (aL ?_);rw[18];have Tm:(arrOf (SortSt.mk' general' (vs.toArray.zip vs.toArray) #[] 7 ae)).map (·.2)=vs.toArray:=by
  apply Kg.1;have:∀ l:List aD,List.map (λx=>x.snd) (l.zip l)=l:=λl=>by
   induction l with
   |nil=>rfl
   |cons a l ih=>rw[Jc,dB,ih]
  simpa using this vs
 rw[Tm];refine aF (seqEpoch_at Y4 rfl (aF (listUpdate_at Y4 rfl ?_ (eD _) (Nat.le_succ_of_le (by rw[dU];exact lz)))))
 simp only[bne_self_eq_false,jC,if_false];exact aL h
theorem N5(hl:s.heap.IsList l vs.toArray)(h2:vs.length<2)(h:Q (.ref (s.heap.objs.size+1)) { s with heap:=sortedAll s.heap vs vs.toArray }) :
  aM (aO prog w) A (call (.builtin "sorted") [.ref l]) Q E s:=by
 refine HE kind_sorted plain_sorted entry_sorted (args_sorted1 _) ?_;unfold Builtin.«sorted»;refine aF (aL (aF (collect_list hl (aF (AV ?_)))));have z:((s.heap.push (fN "list" #[] 0)).update s.heap.objs.size (gK (· ++ vs.toArray))).objs.size=s.heap.objs.size+1:=by rw[Heap.size_update,size_push']
 have tz:(((s.heap.push (fN "list" #[] 0)).update s.heap.objs.size (gK (· ++ vs.toArray))).push (fN "list" vs.toArray 0)).get? (s.heap.objs.size+1)=aa (fN "list" vs.toArray 0):=z ▸ cV _ rfl;rw[z];refine aF (fA (gH QC ⟨_,tz,rfl⟩ QH (ZC tz h2 ⟨_,rfl,?_⟩) (QK _)));exact aL ⟨_,rfl,h⟩
theorem JT:∀ {a b:List aA},hW a b=af->cW a=cW b->a=b
 |[],[],_,_=>rfl
 |.int i::r,.int j::r',h,e=>by
  have h':hW r r'=af:=by simpa [hW] using h
  have e':gZ (.int i)=gZ (.int j)/\cW r=cW r':=by simpa [cW] using e
  rw[JZ (.inl ⟨i,rfl⟩) (.inl ⟨j,rfl⟩) e'.1,JT h' e'.2]
 |.str x::r,.str y::r',h,e=>by
  have h':hW r r'=af:=by simpa [hW] using h
  have e':gZ (.str x)=gZ (.str y)/\cW r=cW r':=by simpa [cW] using e
  rw[JZ (.inr ⟨x,rfl⟩) (.inr ⟨y,rfl⟩) e'.1,JT h' e'.2]
def leT (a b:List aA):Bool:=!decide (cW b<cW a)
theorem Ais {a b:List aA}:leT a b=af ↔ ¬ cW b<cW a:=by simp[leT]
theorem F1 (a b c:List aA)(h1:leT a b=af)(h2:leT b c=af):leT a c=af:=Ais.2 (Al _ _ _ (Ais.1 h1) (Ais.1 h2))
theorem q8 (a b:List aA):(leT a b||leT b a)=af:=by
 by_cases h:cW b<cW a
 .have:=Bh _ _ h;simp[leT,h,this]
 .simp[leT,h]
theorem YA {a b:List aA}(hs:hW a b=af)(h1:leT a b=af)(h2:leT b a=af):a=b:=by
 have h1:=Ais.1 h1;have h2:=Ais.1 h2;exact JT hs (List.le_antisymm h1 h2)
def iH (kss:List (List aA)):List (List aA):=kss.mergeSort leT
def sameAll (kss:List (List aA)):Bool:=kss.all λk=>kss.all λk'=>hW k k'
def ox (kss:List (List aA)):Bool:=decide (kss.length<2)||(sameAll kss&&kss.all λk=>(kG k).isSome)
theorem tR (kss:List (List aA)):(iH kss).Perm kss:=Jf kss leT
theorem NN (kss:List (List aA)):(iH kss).Pairwise λa b=>leT a b=af:=O6 F1 q8 kss
theorem zQ(hs:ox kss=af)(hp:qs.Perm kss)(hr:qs.Pairwise λa b=>leT a b=af):qs=iH kss:=by
 have jh:=hp.trans (tR kss).symm;by_cases h2:kss.length<2
 .have l1:qs.length<2:=by rw[hp.length_eq];exact h2
  match qs,l1,jh with
  |[],_,jh=>exact(List.nil_perm.1 jh).symm
  |[q],_,jh=>exact List.singleton_perm.1 jh
 .have Sc:sameAll kss=af:=by
   have:(sameAll kss&&kss.all λk=>(kG k).isSome)=af:=by simpa [ox,h2] using hs
   exact(jQ.1 this).1
  refine Jt (λa b ma mb h1 h2=>YA ?_ h1 h2) hr (NN kss) jh
  have ma':=hp.mem_iff.1 ma;have mb':=(tR kss).mem_iff.1 mb;exact dW.1 (dW.1 Sc a ma') b mb'
theorem same_kind:∀ {k k':List aA},hW k k'=af->kG k=kG k'
 |[],[],_=>rfl
 |.int _::_,.int _::_,_=>rfl
 |.str _::_,.str _::_,_=>rfl
theorem Hi(h:kG k=aa T):T = "int" \/ T = "str":=by
 unfold kG at h;split at h
 .cases h;exact .inl rfl
 .cases h;exact .inr rfl
 .cases h
theorem L0(hl:s.heap.IsList l vs.toArray)(ht:Agx s.heap vs kss)(ok:ox kss=af)(qf:vs.length<64)
  (h:∀ p:List Nat,p.Perm (cK vs.length)->p.map (λi=>kss.getD i [])=iH kss->Q (.ref (s.heap.objs.size+1)) { s with heap:=sortedAll s.heap vs (iB (p.map λi=>vs.getD i eJ)) }) :
  aM (aO prog w) A (call (.builtin "sorted") [.ref l]) Q E s:=by
 have ln:=jF ht;have idp:∀ {α:Type} (xs:List α) (d:α),(cK xs.length).map (λi=>xs.getD i d)=xs:=λxs d=>by
  apply RO
  .simp
  .intro i h1 h2;simp at h1;simp[h1]
 by_cases h2:vs.length<2
 .refine N5 hl h2 ?_;have:=h (cK vs.length) (RQ _) (by
   rw[ln,idp kss];refine zQ ok (RQ _) ?_
   match kss,ln with
   |[],_=>exact .nil
   |[k],_=>simp
   | _::_::_,ln=>simp at ln;omega)
  rw[idp vs] at this;exact this
 .have hs:sameAll kss=af/\(kss.all λk=>(kG k).isSome)=af:=by
   have V1:¬ kss.length<2:=by omega
   have:(sameAll kss&&kss.all λk=>(kG k).isSome)=af:=by simpa [ox,V1] using ok
   exact jQ.1 this
  obtain⟨k0,m0⟩:∃ k0,k0∈kss:=by
   cases hk:kss with
   |nil=>rw[hk] at ln;exact absurd ln (by simp;intro e;rw[e] at h2;simp at h2)
   |cons k r=>exact⟨k,bE⟩
  obtain⟨T,hT⟩:=xD.1 (dW.1 hs.2 k0 m0);have sm:∀ k∈kss,∀ k'∈kss,hW k k'=af:=λk m k' m'=>dW.1 (dW.1 hs.1 k m) k' m'
  refine Zv hl ht (Hi hT) (λk m=>(same_kind (sm k m k0 m0)).trans hT) sm (by omega) qf λp hp ha=>?_
  have jh:p.toList.Perm (cK vs.length):=by simpa using Q0.1 hp
  have pl:p.toList.length=vs.length:=by rw[jh.length_eq,GY]
  refine h p.toList jh (zQ ok ?_ ?_)
  .have:=jh.map (λi=>kss.getD i [])
   rw[ln,idp kss] at this;exact this
  .rw[qC,RD];intro i j hi hj oy;refine Ais.2 ?_;have:=ha i j (oQ oy) (by omega)
   have e1:at' p i=p.toList[i]:=by simp at hi;simp[at',hi]
   have e2:at' p j=p.toList[j]:=by simp at hj;simp[at',hj]
   rw[e1,e2] at this;exact of_decide_eq_false this
abbrev wM (H:Hp)(ys:List V)(kss:List (List aA)):Prop:=cN (λy k=>∃ b,y=V.ref b/\Al0 H k b) ys kss
theorem YM:∀ {kss:List (List aA)} {ys:List V},(∀ ks∈kss,bO ks=af/\cP ks<=6)->Aao K H (kss.map cL) ys->wM H ys kss
 |[],ys,_,r=>by rw[Aak.1 r];exact .nil
 |k::kss,ys,hk,r=>by
  obtain⟨v,t,rfl,r1,r2⟩:=Aaf.1 r;obtain⟨b,rfl,tk⟩:=r1.tupK (hk k bE).1 (hk k bE).2;exact .cons ⟨b,rfl,tk⟩ (YM (λx m=>hk x (bH _ m)) r2)
theorem XE(x:∀ c zs,H c=aa (.tup zs)->H' c=aa (.tup zs)):∀ {ys:List V} {kss:List (List aA)},wM H ys kss->wM H' ys kss
 |_,_,.nil=>.nil
 |_,_,.cons ⟨b,e,tk⟩ t=>.cons ⟨b,e,tk.keep x⟩ (XE x t)
theorem Gb {P:bG}(ok:HOk P w H h):∀ {ys:List V} {kss:List (List aA)} {vs:List aD},wM H ys kss->Vals ys vs->Agx h vs kss
 |_,_,_,.nil,.nil=>.nil
 |_,_,_,.cons ⟨b,e,tk⟩ t,.cons r rr=>by
  subst e;cases r;exact .cons ⟨b,rfl,key_of ok tk⟩ (Gb ok t rr)
def sN (p:List Nat)(ys:List V):List V:=p.map λi=>ys.getD i .non
theorem Bo:∀ {ys:List V} {vs:List aD} (i:Nat),Vals ys vs->i<ys.length->RelV (ys.getD i .non) (vs.getD i eJ)
 |_,_,0,.cons r _,_=>r
 |_,_,i+1,.cons _ t,h=>Bo i t (by simpa using h)
theorem Bf(r:Vals ys vs):∀ p:List Nat,(∀ i∈p,i<ys.length)->Vals (sN p ys) (p.map λi=>vs.getD i eJ)
 |[],_=>.nil
 |i::p,h=>.cons (Bo i r (h i bE)) (Bf r p λj m=>h j (bH _ m))
theorem i5:Acy X (.builtin "sorted") (λxs H Q=>∃ p ys kss,xs=[.ref p]/\SqL X.K H p ys/\wM H ys kss/\ox kss=af/\kss.length<64 /\
  ∀ l q,H l=ae->q.Perm (cK ys.length)->q.map (λi=>kss.getD i [])=iH kss->Q (.ref l) (au H l (.lst (sN q ys)))):=by
 rw[5];obtain⟨p,ys,kss,rfl,hp,rf,ok,hl,q⟩:=h;rw[7];obtain⟨its,rv,pl,hz⟩:=I.list hp;have e1:=rv.length;have e2:=jF rf;refine L0 pl.isList (Gb I.hok rf rv) ok (by omega) λq' jh hs=>?_
 have hq:∀ i∈q',i<ys.length:=λi m=>by
  have:=gW.1 (jh.mem_iff.1 m);omega
 obtain⟨e,he⟩:=sortedAll_at s.heap its (iB (q'.map λi=>its.getD i eJ))
 have hn:=I.hok.fresh (rP _);have lz:(sN q' ys).length<=sizeLine:=by
  unfold sN;rw[cD,jh.length_eq,GY];omega
 exact⟨.ref (s.heap.objs.size+1),_,I.laid (t':=s.toks) (o:=.lst (sN q' ys)) (λb ob g=>sortedAll_old g) (rP _) ⟨lz,_,e,Bf rv q' hq,he⟩,rfl,q _ q' hn (by rw[e1];exact jh) hs⟩
def yE:List aA->Option aA
 |[.list ds]=>(hG ds).bind λkss=>if ox kss=af/\kss.length<64 then aa (.list ((iH kss).map cL)) else ae
 |_=>ae
theorem Ah:∀ {kss:List (List aA)} {ys:List V} (i:Nat),Aao K H (kss.map cL) ys->i<ys.length->Abg K H (.tuple (kss.getD i [])) (ys.getD i .non)
 |[],ys,i,r,h=>by rw[Aak.1 r] at h;simp at h
 |k::kss,ys,0,r,h=>by
  obtain⟨v,t,rfl,r1,r2⟩:=Aaf.1 r;exact r1
 |k::kss,ys,i+1,r,h=>by
  obtain⟨v,t,rfl,r1,r2⟩:=Aaf.1 r;exact Ah i r2 (by simpa using h)
theorem ZZ(r:Aao K H (kss.map cL) ys):∀ p:List Nat,(∀ i∈p,i<ys.length)->Aao K H ((p.map λi=>kss.getD i []).map cL) (sN p ys)
 |[],_=>Aak.2 rfl
 |i::p,h=>Aaf.2 ⟨_,_,rfl,Ah i r (h i bE),ZZ r p λj m=>h j (bH _ m)⟩
theorem f7:CallD K 1 (λxs H Q=>∃ p ys kss,xs=[.ref p]/\SqL K H p ys/\wM H ys kss/\ox kss=af/\kss.length<64 /\
  ∀ l q,H l=ae->q.Perm (cK ys.length)->q.map (λi=>kss.getD i [])=iH kss->Q (.ref l) (au H l (.lst (sN q ys)))) yE:=λP H xs ds d Q hP r e k=>by
 unfold yE at e;split at e
 .obtain⟨kss,e1,e2⟩:=ao e;obtain⟨⟨ok,hl⟩,rfl⟩:=cG e2;obtain⟨rfl,hk⟩:=XH e1;obtain⟨v,rfl,r'⟩:=fV r;obtain⟨q,ys,rfl,hq,rr⟩:=Aa6.1 r';refine⟨q,ys,kss,rfl,Aap.sqL hq,?_,ok,hl,λl p hn hp hs=>?_⟩
  .exact XE (λc zs g=>Aap _ _ g) (YM hk rr)
  .have hi:∀ i∈p,i<ys.length:=λi m=>gW.1 (hp.mem_iff.1 m)
   have:=ZZ rr p hi;rw[hs] at this;exact k.lst hP hn this
 .cases e
theorem UK:∀ {ns:List Int} {vs:List aD},uH vs ns->Vals (ns.map V.int) vs
 |_,_,.nil=>.nil
 |_,_,.cons n t h=>.cons ⟨t,rfl⟩ (UK h)
def qL:List aA->Option (List Int)
 |[]=>aa []
 |.int i::r=>(qL r).bind λis=>aa (i::is)
 |_::_=>ae
theorem Hb:∀ {ds:List aA} {is:List Int},qL ds=aa is->ds=is.map aT
 |[],is,e=>by cases e;rfl
 |.int i::ds,is,e=>by
  obtain⟨is',e1,e2⟩:=ao (show((qL ds).bind λis=>aa (i::is))=aa is from e)
  cases e2;rw[Hb e1]
  rfl
 |.none::_,_,e=>by cases e
 |.bool _::_,_,e=>by cases e
 |.str _::_,_,e=>by cases e
 |.list _::_,_,e=>by cases e
 |.tuple _::_,_,e=>by cases e
 |.dict _::_,_,e=>by cases e
theorem Dw:∀ {is:List Int} {ys:List V},Aao K H (is.map aT) ys->ys=is.map V.int
 |[],ys,r=>Aak.1 r
 |i::is,ys,r=>by
  obtain⟨v,t,rfl,r1,r2⟩:=Aaf.1 r;rw[Aaj.1 r1,Dw r2]
  rfl
def sortI (is:List Int):List Int:=is.mergeSort λa b=>decide (a<=b)
theorem w6 {is js:List Int}(hp:js.Perm is)(hr:js.Pairwise (· <= ·)):js=sortI is:=by
 refine Jt (le:=(· <= ·)) (λa b _ _ h1 h2=>Int.le_antisymm h1 h2) hr ?_ (hp.trans (Jf is _).symm)
 have:=O6 (le:=λa b:Int=>decide (a<=b)) (λa b c h1 h2=>decide_eq_true (Int.le_trans (of_decide_eq_true h1) (of_decide_eq_true h2))) (λa b=>by
  rcases Int.le_total a b with h|h<;>simp[h]) is
 exact this.imp λh=>of_decide_eq_true h
def sNo:SF:=λ_=>ae
theorem UG{s:bS}:DS X H0 P0 n0 s sNo:=λah st Z H D I q=>by
 obtain⟨B0,Y,fp,o,S,ef,k⟩:=q;cases ef
open PySem PySem.SetTable
def lW (xs:Array Nat):Prop:=∀ a b u v:Nat,a<b->xs[a]?=aa u->xs[b]?=aa v->u<v
theorem KR {xs:Array Nat}(hr:lW xs):∀ fuel lo hi,hi<=xs.size->lo<=hi->hi-lo<=fuel->(∀ k<lo,∀ v,xs[k]?=aa v->v<j)->(∀ k,hi<=k->∀ v,xs[k]?=aa v->j<=v) ->
  below.go xs j fuel lo hi<=xs.size/\(∀ k<below.go xs j fuel lo hi,∀ v,xs[k]?=aa v->v<j)/\∀ k,below.go xs j fuel lo hi<=k->∀ v,xs[k]?=aa v->j<=v
 |0,lo,hi,h1,h2,h3,hl,hh=>by
  have:lo=hi:=by omega
  rw[19];unfold below.go;exact⟨h1,hl,hh⟩
 |fuel+1,lo,hi,h1,h2,h3,hl,hh=>by
  unfold below.go;by_cases c:lo<hi
  .rw[if_pos c];have hm:(lo+hi)/2<xs.size:=by omega
   have em:=mO hm;have eg:xs.getD ((lo+hi)/2) j=xs[(lo+hi)/2]:=by simp[Array.getD,hm]
   simp only[eg];by_cases d:xs[(lo+hi)/2]<j
   .rw[if_pos d];refine KR hr fuel _ _ h1 (by omega) (by omega) (λk hk v ev=>?_) hh
    by_cases q:k=(lo+hi)/2
    .subst q;rw[em] at ev;cases ev;exact d
    .have:=hr k ((lo+hi)/2) v _ (by omega) ev em
     omega
   .rw[if_neg d];refine KR hr fuel _ _ (by omega) (by omega) (by omega) hl (λk hk v ev=>?_)
    by_cases q:k=(lo+hi)/2
    .subst q;rw[em] at ev;cases ev;omega
    .have:=hr ((lo+hi)/2) k _ v (by omega) em ev
     omega
  .rw[if_neg c];have:lo=hi:=by omega
   rw[19];exact⟨h1,hl,hh⟩
theorem FI {xs:Array Nat}(hr:lW xs)(j:Nat):below xs j<=xs.size/\(∀ k<below xs j,∀ v,xs[k]?=aa v->v<j)/\∀ k,below xs j<=k->∀ v,xs[k]?=aa v->j<=v:=
 KR hr xs.size 0 xs.size (bD _) (eD _) (by omega) (λk hk=>absurd hk (by omega)) (λk hk v ev=>by
  have:=(uL.1 ev).1;omega)
theorem below_at {xs:Array Nat}(hr:lW xs)(h:xs[i]?=aa j):below xs j=i:=by
 obtain⟨h1,h2,h3⟩:=FI hr j;rcases BJ (below xs j) i with q|q|q
 .have hi:=(uL.1 h).1;have e:xs[below xs j]?=aa (xs[below xs j]'(by omega)):=mO (by omega)
  have a:=h3 _ (bD _) _ e;have b:=hr _ _ _ _ q e h;omega
 .exact q
 .have:=h2 i q j h;omega
theorem IW (j:Nat):has #[] j=ag:=by simp[has]
theorem EW {t:dJ}(hd:t.dummies = #[])(hr:lW t.place):t.slot j=.live i↔t.place[i]?=aa j:=by
 unfold slot;rw[hd,IW];rw[18];rw[23]
 .intro h;split at h
  .rename_i c;cases h;simpa using c
  .simp at h
 .intro h;rw[below_at hr h,h];simp
theorem K9 {t:dJ}(hd:t.dummies = #[])(hr:lW t.place)(h:∀ i:Nat,t.place[i]?≠aa j):t.slot j=.empty:=by
 unfold slot;rw[hd,IW];rw[18];rw[if_neg (by simpa using h _)]
 rfl
def vf (mask:Nat)(p:Probe):Probe:=if p.more > 0 then { p with j:=p.j+1,more:=p.more-1 } else
 { p with j:=(leap mask p.i p.perturb).1,more:=runEnd mask (leap mask p.i p.perturb).1-(leap mask p.i p.perturb).1,i:=(leap mask p.i p.perturb).1,perturb:=(leap mask p.i p.perturb).2 }
theorem MR (t:dJ)(p:Probe):t.advance p=vf t.mask p:=by
 unfold advance vf
 rfl
def pN (mask:Nat)(p:Probe):Nat->Probe
 |0=>p
 |n+1=>vf mask (pN mask p n)
theorem PB (mask:Nat)(p:Probe)(a:Nat):∀ b,pN mask (pN mask p a) b=pN mask p (a+b)
 |0=>rfl
 |b+1=>by
  show vf mask (pN mask (pN mask p a) b)=vf mask (pN mask p (a+b));rw[PB mask p a b]
def vz (mask i bq:Nat):Probe:={ j:=i,more:=runEnd mask i-i,i,perturb:=bq,dummy:=ae }
theorem Qs (mask i:Nat):runEnd mask i-i<=9:=by
 unfold runEnd;split<;>omega
theorem JA (mask i bq:Nat):∀ k,k<=runEnd mask i-i->pN mask (vz mask i bq) k={ j:=i+k,more:=runEnd mask i-i-k,i,perturb:=bq,dummy:=ae }
 |0,_=>rfl
 |k+1,h=>by
  show vf mask (pN mask (vz mask i bq) k)=_;rw[JA mask i bq k (by omega)]
  unfold vf;rw[if_pos (by show runEnd mask i-i-k > 0;omega)]
  rfl
theorem XJ (mask i bq:Nat):pN mask (vz mask i bq) (runEnd mask i-i+1)=vz mask (leap mask i bq).1 (leap mask i bq).2:=by
 show vf mask (pN mask (vz mask i bq) (runEnd mask i-i))=_;rw[JA mask i bq _ (bD _)];unfold vf;rw[if_neg (by show ¬ (runEnd mask i-i-(runEnd mask i-i) > 0);omega)]
 rfl
def lp (mask:Nat)(s:Nat×Nat):Nat->Nat×Nat
 |0=>s
 |m+1=>leap mask (lp mask s m).1 (lp mask s m).2
theorem YU (mask i bq:Nat):∀ m,∃ n,n<=10*m/\pN mask (vz mask i bq) n=vz mask (lp mask (i,bq) m).1 (lp mask (i,bq) m).2
 |0=>⟨0,by omega,rfl⟩
 |m+1=>by
  obtain⟨n,hn,e⟩:=YU mask i bq m;have b:=Qs mask (lp mask (i,bq) m).1;refine⟨n+(runEnd mask (lp mask (i,bq) m).1-(lp mask (i,bq) m).1+1),by omega,?_⟩
  rw[<-PB,e,XJ]
  rfl
theorem WH (mask i bq:Nat):∀ m,(lp mask (i,bq) m).2=bq/32^m
 |0=>by simp[lp]
 |m+1=>by
  show(lp mask (i,bq) m).2/32=_;rw[WH mask i bq m,Nat.div_div_eq_div_mul,xE]
def V0 (mask:Nat)(i:Nat):Nat->Nat
 |0=>i
 |m+1=>(V0 mask i m*5+1)%(mask+1)
def mZ (mask:Nat):Prop:=mask=7\/mask=31\/mask=127\/mask=511\/mask=2047\/mask=8191
def gN (x:Nat):Nat->Nat
 |0=>x
 |m+1=>gN x m*5+1
theorem UV (x a:Nat):∀ b,gN (gN x a) b=gN x (a+b)
 |0=>rfl
 |b+1=>by
  show gN (gN x a) b*5+1=gN x (a+b)*5+1;rw[UV x a b]
theorem VQ (x:Nat):∀ m,4*gN x m+1=5^m*(4*x+1)
 |0=>by simp[gN]
 |m+1=>by
  show 4*(gN x m*5+1)+1=5^(m+1)*(4*x+1);have:=VQ x m;rw[xE,QU (5^m) 5,BH,<-this];omega
theorem YI:∀ k,∃ q,5^2^k=1+2^k*(4*(2*q+1))
 |0=>⟨0,rfl⟩
 |k+1=>by
  obtain⟨q,e⟩:=YI k;refine⟨q+2^k*((2*q+1)*(2*q+1)),?_⟩;rw[xE 2 k,QU (2^k) 2,Nat.two_mul,Nat.pow_add,e];generalize 2^k=M;generalize hu:2*q+1=u;have e2:2*(q+M*(u*u))+1=u+2*(M*(u*u)):=by omega
  rw[e2];have h1:M*(4*u)*(M*(4*u))=16*(M*(M*(u*u))):=by
   rw[show M*(4*u)=4*(M*u) by rw[Ja],QT]
   rw[show M*u*(M*u)=M*(M*(u*u)) by rw[QT,BH]]
  have h2:(M+M)*(4*(u+2*(M*(u*u))))=8*(M*u)+16*(M*(M*(u*u))):=by
   rw[<-Nat.two_mul,GT 4,GT];rw[show 2*M*(4*u)=8*(M*u) by rw[QT]]
   rw[show 4*(2*(M*(u*u)))=8*(M*(u*u)) by omega,QT]
  rw[Nat.add_mul,GT,GT,h1,h2,show M*(4*u)=4*(M*u) by rw[Ja]]
  omega
theorem Vf (x k:Nat):∃ q,gN x (2^k)=x+2^k*(2*q+1):=by
 obtain⟨q,e⟩:=YI k;have h:=VQ x (2^k);rw[e] at h;refine⟨q*(4*x+1)+2*x,?_⟩;have e2:2*(q*(4*x+1)+2*x)+1=(2*q+1)*(4*x+1):=by
  rw[Nat.add_mul,GT 2,<-BH 2 q];omega
 rw[e2];generalize 2^k=M at h;generalize(2*q+1)=u at h;rw[Nat.add_mul,Nat.one_mul,show M*(4*u)*(4*x+1)=4*(M*(u*(4*x+1))) by rw[Ja M 4 u,BH,BH]] at h
 omega
theorem WO:∀ (k x e:Nat),∃ m,m<2^k/\gN x m%2^k=e%2^k
 |0,x,e=>⟨0,by simp,by simp[Nat.mod_one]⟩
 |k+1,x,e=>by
  obtain⟨m,hm,h⟩:=WO k x e;have hM:=Nat.two_pow_pos k;have sp:∀ y:Nat,y%2^(k+1)=y%2^k+2^k*(y/2^k%2):=λy=>by rw[xE,Nat.mod_mul]
  have hp:2^(k+1)=2^k+2^k:=by rw[xE];omega
  by_cases c:gN x m/2^k%2=e/2^k%2
  .exact⟨m,by omega,by rw[sp,sp,h,c]⟩
  .obtain⟨q,hq⟩:=Vf (gN x m) k;refine⟨m+2^k,by omega,?_⟩
   rw[<-UV,hq,sp,sp,Nat.add_mul_mod_self_left,Nat.add_mul_div_left _ _ hM,h]
   congr 2
   omega
theorem VL (mask i:Nat)(hi:i<=mask):∀ m,V0 mask i m=gN i m%(mask+1)
 |0=>by
  show i=i%(mask+1);exact(Nat.mod_eq_of_lt (by omega)).symm
 |m+1=>by
  show(V0 mask i m*5+1)%(mask+1)=(gN i m*5+1)%(mask+1);rw[VL mask i hi m];simp[Nat.add_mod,Nat.mul_mod]
theorem vG {k:Nat}(hk:mask+1=2^k){e:Nat}(hi:i<=mask)(he:e<=mask):∃ m,m<=mask/\V0 mask i m=e:=by
 obtain⟨m,h1,h2⟩:=WO k i e;refine⟨m,by omega,?_⟩
 rw[VL mask i hi,hk,h2,<-hk];exact Nat.mod_eq_of_lt (by omega)
theorem Sd(hm:mZ mask){e:Nat}(hi:i<=mask)(he:e<=mask):∃ m,m<=mask/\V0 mask i m=e:=by
 rcases hm with rfl|rfl|rfl|rfl|rfl|rfl
 .exact vG (k:=3) rfl hi he
 .exact vG (k:=5) rfl hi he
 .exact vG (k:=7) rfl hi he
 .exact vG (k:=9) rfl hi he
 .exact vG (k:=11) rfl hi he
 .exact vG (k:=13) rfl hi he
theorem Gc (h:Int):bits h<2^64:=by
 unfold bits;have:=Int.emod_lt_of_pos h (show(0:Int)<2^64 by decide)
 have:=Int.emod_nonneg h (show(2^64:Int)≠0 by decide)
 omega
theorem VZ(hp:bq<2^64):∀ m,(lp mask (i,bq) (13+m)).1=V0 mask (lp mask (i,bq) 13).1 m
 |0=>rfl
 |m+1=>by
  show((lp mask (i,bq) (13+m)).1*5+1+(lp mask (i,bq) (13+m)).2/32)%(mask+1)=(V0 mask (lp mask (i,bq) 13).1 m*5+1)%(mask+1);rw[VZ hp m,WH];have:bq/32^(13+m)=0:=by
   apply Nat.div_eq_of_lt;refine iO hp ?_;rw[Nat.pow_add]
   calc 2^64<=32^13:=by decide
    _<=32^13*32^m:=O5 _ (Nat.pow_pos (by decide))
  rw[this]
theorem Ly:∀ m,0<m->(lp mask (i,bq) m).1<=mask
 |0,h=>absurd h (by omega)
 |m+1,_=>by
  show((lp mask (i,bq) m).1*5+1+(lp mask (i,bq) m).2/32)%(mask+1)<=mask;have:=BI ((lp mask (i,bq) m).1*5+1+(lp mask (i,bq) m).2/32) (show 0<mask+1 by omega)
  omega
theorem XC(hm:mZ mask){e:Nat}(hp:bq<2^64)(he:e<=mask):∃ m,m<=13+mask/\(lp mask (i,bq) m).1=e:=by
 obtain⟨m,h1,h2⟩:=Sd hm (Ly 13 (by omega)) he
 exact⟨13+m,by omega,by rw[VZ hp];exact h2⟩
def rd (mask:Nat)(h:Int)(n:Nat):Probe:=pN mask (vz mask (bits h%(mask+1)) (bits h)) n
theorem YZ(hm:mZ mask)(h:Int){e:Nat}(he:e<=mask):∃ n,n<10*turns mask/\(rd mask h n).j=e:=by
 obtain⟨m,h1,h2⟩:=XC hm (Gc h) he;obtain⟨n,h3,h4⟩:=YU mask (bits h%(mask+1)) (bits h) m;refine⟨n,by unfold turns;omega,?_⟩
 unfold rd;rw[h4];exact h2
theorem D3 (mask:Nat)(p:Probe):(vf mask p).dummy=p.dummy:=by
 unfold vf;split<;>rfl
theorem ZD (mask:Nat)(h:Int):∀ n,(rd mask h n).dummy=ae
 |0=>rfl
 |n+1=>by
  show(vf mask (rd mask h n)).dummy=ae;rw[D3];exact ZD mask h n
def iG (t:dJ)(j:Nat):Prop:=∃ i:Nat,t.place[i]?=aa j
structure Good (t:dJ)(es:Array (Int×aD)):Prop where
 small:mZ t.mask
 nod:t.dummies = #[]
 ris:lW t.place
 len:t.place.size=es.size
 inb:∀ i j:Nat,t.place[i]?=aa j->j<=t.mask
 room:es.size<=t.mask
 reach:∀ (i j:Nat) (e:Int×aD),t.place[i]?=aa j->es[i]?=aa e->∃ n,(rd t.mask e.1 n).j=j/\∀ m<n,iG t (rd t.mask e.1 m).j
theorem rank {xs:Array Nat}(hr:lW xs):∀ e,(∀ v≤e,∃ i:Nat,xs[i]?=aa v)->∃ i:Nat,xs[i]?=aa e/\e<=i
 |0,h=>by
  obtain⟨i,q⟩:=h 0 (bD _);exact⟨i,q,eD _⟩
 |e+1,h=>by
  obtain⟨i,q,hi⟩:=rank hr e λv hv=>h v (by omega)
  obtain⟨k,qk⟩:=h (e+1) (bD _);refine⟨k,qk,?_⟩;rcases BJ i k with c|c|c
  .omega
  .subst c;rw[q] at qk;simp at qk
  .have:=hr k i _ _ c qk q;omega
theorem Good.empty {t:dJ}(G:Good t es):∃ e,e<=t.mask/\¬ iG t e:=by
 apply SA;intro hn;have cv:∀ v≤t.mask,∃ i:Nat,t.place[i]?=aa v:=λv hv=>SA λq=>hn ⟨v,hv,q⟩
 obtain⟨i,q,hi⟩:=rank G.ris t.mask cv;have h1:=(uL.1 q).1;have h2:=G.len;have h3:=G.room;omega
theorem YF {t:dJ}(h:¬ iG t j):∀ i:Nat,t.place[i]?≠aa j:=λi e=>h ⟨i,e⟩
section
variable {t:dJ}{hashAt:Nat->Int}{h:Int}
theorem YB (hd:t.dummies = #[])(hr:lW t.place):∀ k n fuel,k<fuel->(∀ m,n<=m->m<n+k->∃ i:Nat,t.place[i]?=aa (rd t.mask h m).j/\hashAt i≠h)->¬ iG t (rd t.mask h (n+k)).j ->
  probe.go t hashAt h fuel (rd t.mask h n)=aa (.empty (rd t.mask h (n+k)).j ae)
 |_,_,0,hf,_,_=>absurd hf (by omega)
 |0,n,fuel+1,_,_,he=>by
  rw[QX] at he ⊢;unfold probe.go;rw[K9 hd hr (YF he),ZD]
  rfl
 |k+1,n,fuel+1,hf,hm,he=>by
  obtain⟨i,e,gg⟩:=hm n (bD _) (by omega)
  unfold probe.go;rw[(EW hd hr).2 e];rw[18];rw[if_neg (by simpa using gg),MR]
  have:=YB hd hr k (n+1) fuel (by omega) (λm a b=>hm m (by omega) (by omega)) (by rw[show n+1+k=n+(k+1) by omega];exact he)
  rw[show n+1+k=n+(k+1) by omega] at this
  exact this
theorem Fp (hd:t.dummies = #[])(hr:lW t.place){i0:Nat}(h0:hashAt i0=h):∀ k n fuel,k<fuel->(∀ m,n<=m->m<n+k->∃ i:Nat,t.place[i]?=aa (rd t.mask h m).j/\hashAt i≠h)->t.place[i0]?=aa (rd t.mask h (n+k)).j ->
  probe.go t hashAt h fuel (rd t.mask h n)=aa (.candidate (rd t.mask h (n+k)).j i0 (rd t.mask h (n+k+1)))
 |_,_,0,hf,_,_=>absurd hf (by omega)
 |0,n,fuel+1,_,_,he=>by
  rw[QX] at he ⊢;unfold probe.go;rw[(EW hd hr).2 he];rw[18];rw[if_pos (by simpa using h0),MR]
  rfl
 |k+1,n,fuel+1,hf,hm,he=>by
  obtain⟨i,e,gg⟩:=hm n (bD _) (by omega)
  unfold probe.go;rw[(EW hd hr).2 e];rw[18];rw[if_neg (by simpa using gg),MR]
  have:=Fp hd hr h0 k (n+1) fuel (by omega) (λm a b=>hm m (by omega) (by omega)) (by rw[show n+1+k=n+(k+1) by omega];exact he)
  rw[show n+1+k=n+(k+1) by omega] at this
  exact this
theorem Dh (S:Nat->Prop):∀ d n,S (n+d)->∃ k,k<=d/\(∀ m,n<=m->m<n+k->¬ S m)/\S (n+k)
 |0,n,h=>⟨0,bD _,λm a b=>absurd b (by omega),h⟩
 |d+1,n,h=>by
  by_cases c:S n
  .exact⟨0,eD _,λm a b=>absurd b (by omega),c⟩
  .obtain⟨k,h1,h2,h3⟩:=Dh S d (n+1) (by rw[show n+1+d=n+(d+1) by omega];exact h)
   refine⟨k+1,by omega,λm a b=>?_,by rw[show n+(k+1)=n+1+k by omega];exact h3⟩
   by_cases q:m=n
   .subst q;exact c
   .exact h2 m (by omega) (by omega)
theorem Good.next(G:Good t es)(h:Int)(hv:∀ m<n,iG t (rd t.mask h m).j):∃ k,n+k<10*turns t.mask/\(∀ m,n<=m->m<n+k->∃ i:Nat,t.place[i]?=aa (rd t.mask h m).j/\hashAt i≠h) /\
  ((¬ iG t (rd t.mask h (n+k)).j/\t.probe hashAt h (rd t.mask h n)=aa (.empty (rd t.mask h (n+k)).j ae)) \/
   ∃ i:Nat,t.place[i]?=aa (rd t.mask h (n+k)).j/\hashAt i=h/\t.probe hashAt h (rd t.mask h n)=aa (.candidate (rd t.mask h (n+k)).j i (rd t.mask h (n+k+1)))):=by
 obtain⟨e,he,gg⟩:=G.empty;obtain⟨N,hN,eN⟩:=YZ G.small h he;have hnN:n<=N:=by
  rcases BL N n with c|c
  .exact absurd (eN ▸ hv N c) gg
  .exact c
 obtain⟨d,rfl⟩:=Nat.exists_eq_add_of_le hnN;obtain⟨k,hk,h1,h2⟩:=Dh (λm=>¬ iG t (rd t.mask h m).j\/∃ i:Nat,t.place[i]?=aa (rd t.mask h m).j/\hashAt i=h) d n (.inl (by rw[eN];exact gg))
 have hm:∀ m,n<=m->m<n+k->∃ i:Nat,t.place[i]?=aa (rd t.mask h m).j/\hashAt i≠h:=λm a b=>by
  have q:=h1 m a b;obtain⟨i,ei⟩:=SA λz=>q (.inl z)
  exact⟨i,ei,λz=>q (.inr ⟨i,ei,z⟩)⟩
 refine⟨k,by omega,hm,?_⟩
 rcases h2 with h2|⟨i,ei,hi⟩
 .exact .inl ⟨h2,YB G.nod G.ris k n _ (by omega) hm h2⟩
 .exact .inr ⟨i,ei,hi,Fp G.nod G.ris hi k n _ (by omega) hm ei⟩
end
theorem TV (mask:Nat)(h:Int):∀ n,(rd mask h n).j+(rd mask h n).more<=mask
 |0=>by
  show bits h%(mask+1)+(runEnd mask (bits h%(mask+1))-bits h%(mask+1))<=mask;have:=BI (bits h) (show 0<mask+1 by omega)
  unfold runEnd;split<;>omega
 |n+1=>by
  have ih:=TV mask h n;show(vf mask (rd mask h n)).j+(vf mask (rd mask h n)).more<=mask;unfold vf;split
  .show(rd mask h n).j+1+((rd mask h n).more-1)<=mask;omega
  .show(leap mask (rd mask h n).i (rd mask h n).perturb).1+(runEnd mask (leap mask (rd mask h n).i (rd mask h n).perturb).1-(leap mask (rd mask h n).i (rd mask h n).perturb).1)<=mask;have:(leap mask (rd mask h n).i (rd mask h n).perturb).1<mask+1:=BI _ (by omega)
   unfold runEnd;split<;>omega
theorem Mf (mask:Nat)(h:Int)(n:Nat):(rd mask h n).j<=mask:=by
 have:=TV mask h n;omega
theorem vR {α:Type}(xs:Array α){p:Nat}(hp:p<=xs.size)(x:α)(k:Nat):(insertAt xs p x)[k]?=if k<p then xs[k]? else if k=p then aa x else xs[k-1]?:=by
 rw[<-nU,toList_insertAt];by_cases c:k<p
 .rw[if_pos c,xK (by rw[oT,fC];omega),O7 c,nU]
 .rw[if_neg c,RL (by rw[oT,fC];omega),oT,fC,QV hp]
  by_cases d:k=p
  .subst d;simp
  .rw[if_neg d];obtain⟨r,rfl⟩:∃ r,k=p+1+r:=⟨k-p-1,by omega⟩
   rw[show p+1+r-p=r+1 by omega,Jm,Jl,nU,show p+1+r-1=p+r by omega]
theorem Tt {xs:Array Nat}(hr:lW xs)(hj:∀ i:Nat,xs[i]?≠aa j):lW (insertAt xs (below xs j) j):=by
 obtain⟨h1,h2,h3⟩:=FI hr j;intro a b u v o0 ea eb;rw[vR xs h1] at ea eb;have lt_of:∀ k w,below xs j<=k->xs[k]?=aa w->j<w:=λk w hk e=>by
  have a:=h3 k hk w e;rcases BL j w with c|c
  .exact c
  .have:w=j:=by omega
   rw[19];exact absurd e (hj k)
 split at ea
 .split at eb
  .exact hr a b u v o0 ea eb
  .split at eb
   .cases eb;exact h2 a (by omega) u ea
   .exact GU (h2 a (by omega) u ea) (lt_of _ v (by omega) eb)
 .split at ea
  .cases ea;rw[if_neg (by omega),if_neg (by omega)] at eb
   exact lt_of _ v (by omega) eb
  .rw[if_neg (by omega),if_neg (by omega)] at eb
   exact hr (a-1) (b-1) u v (by omega) ea eb
theorem zG {α:Type}(xs:Array α)(p:Nat)(x:α):(insertAt xs p x).size=xs.size+1:=by
 rw[<-fC,(insertAt_perm xs p x).length_eq,fC,Array.size_push]
theorem VT {t:dJ}(hd:t.dummies = #[])(j:Nat):t.put j=({ t with place:=insertAt t.place (below t.place j) j },below t.place j):=by
 unfold put;rw[hd,IW];cases t;simp at hd;subst hd
 rfl
theorem Good.put {t:dJ}(G:Good t es){h:Int}{x:aD}(hv:∀ m<n,iG t (rd t.mask h m).j)(hn:¬ iG t (rd t.mask h n).j)  (og:es.size<t.mask)(pl:Bool) :
  Good { t with place:=insertAt t.place (below t.place (rd t.mask h n).j) (rd t.mask h n).j,plain:=pl } (insertAt es (below t.place (rd t.mask h n).j) (h,x)):=by
 have hb:=(FI G.ris (rd t.mask h n).j).1;have ze:below t.place (rd t.mask h n).j<=es.size:=by rw[<-G.len];exact hb
 have mono:∀ j,iG t j->∃ i:Nat,(insertAt t.place (below t.place (rd t.mask h n).j) (rd t.mask h n).j)[i]?=aa j:=λj gh=>by
  obtain⟨i,e⟩:=gh;by_cases c:i<below t.place (rd t.mask h n).j
  .exact⟨i,by rw[vR _ hb,if_pos c];exact e⟩
  .exact⟨i+1,by rw[vR _ hb,if_neg (by omega),if_neg (by omega)];exact e⟩
 refine⟨G.small,G.nod,Tt G.ris (YF hn),?_,λi j e=>?_,?_,λi j e ei ee=>?_⟩
 .rw[zG,zG,G.len]
 .have e':=e;rw[vR _ hb] at e';split at e'
  .exact G.inb i j e'
  .split at e'
   .cases e';exact Mf _ _ _
   .exact G.inb _ j e'
 .rw[zG];exact og
 .have sx:=ei;rw[vR _ hb] at sx;rw[vR _ ze] at ee;by_cases c:i<below t.place (rd t.mask h n).j
  .rw[if_pos c] at sx ee;obtain⟨m,h1,h2⟩:=G.reach i j e sx ee;exact⟨m,h1,λq hq=>mono _ (h2 q hq)⟩
  .rw[if_neg c] at sx ee;by_cases d:i=below t.place (rd t.mask h n).j
   .rw[if_pos d] at sx ee;cases sx;cases ee;exact⟨n,rfl,λq hq=>mono _ (hv q hq)⟩
   .rw[if_neg d] at sx ee;obtain⟨m,h1,h2⟩:=G.reach _ j e sx ee;exact⟨m,h1,λq hq=>mono _ (h2 q hq)⟩
structure Own (mask:Nat)(hs:List Int)(ow:Array (Option Nat)):Prop where
 size:ow.size=mask+1
 lt:∀ j i:Nat,ow[j]?=aa (aa i)->i<hs.length
 inj:∀ j j' i:Nat,ow[j]?=aa (aa i)->ow[j']?=aa (aa i)->j=j'
 all:∀ i<hs.length,∃ j:Nat,ow[j]?=aa (aa i)
 reach:∀ (j i:Nat) (h:Int),ow[j]?=aa (aa i)->hs[i]?=aa h->∃ n,(rd mask h n).j=j/\∀ m<n,∃ i':Nat,ow[(rd mask h m).j]?=aa (aa i')
theorem yY(hj:j<ow.size):ow[j]?=aa ae\/∃ i,ow[j]?=aa (aa i):=by
 rw[mO hj];cases ow[j] with
 |none=>exact .inl rfl
 |some i=>exact .inr ⟨i,rfl⟩
theorem Own.free{hs:List Int}(O:Own mask hs ow)(hl:hs.length<=mask):∃ e,e<=mask/\ow[e]?=aa ae:=by
 apply SA;intro hn;have cv:∀ j≤mask,∃ i:Nat,ow[j]?=aa (aa i):=λj hj=>by
  rcases yY (ow:=ow) (j:=j) (by rw[O.size];omega) with c|c
  .exact absurd ⟨j,hj,c⟩ hn
  .exact c
 have ld:((cK (mask+1)).map λj=>((ow[j]?).join).getD 0).Nodup:=by
  unfold RT;rw[qC];refine RS ?_ List.pairwise_lt_range;intro a b ha hb o0 e;obtain⟨i,ei⟩:=cv a (by have:=gW.1 ha;omega)
  obtain⟨i',sx⟩:=cv b (by have:=gW.1 hb;omega)
  rw[ei,sx] at e;have:i=i':=by simpa using e
  rw[19];have:=O.inj a b i ei sx;omega
 have:=HB ld (λv m=>by
  obtain⟨j,hj,rfl⟩:=bL.1 m;obtain⟨i,ei⟩:=cv j (by have:=gW.1 hj;omega)
  rw[ei];exact gW.2 (O.lt j i ei))
 simp at this;omega
theorem XB (mask i bq:Nat):∀ m,lp mask (i,bq) (m+1)=lp mask (leap mask i bq) m
 |0=>rfl
 |m+1=>by
  show leap mask (lp mask (i,bq) (m+1)).1 (lp mask (i,bq) (m+1)).2=_;rw[XB mask i bq m]
  rfl
theorem Bz(hz:ow.size=mask+1):∀ (fuel i bq m:Nat),i<=mask->m<fuel->ow[(lp mask (i,bq) m).1]?=aa ae ->
  ∃ n,layClean.free mask ow fuel i bq=aa (pN mask (vz mask i bq) n).j/\ow[(pN mask (vz mask i bq) n).j]?=aa ae/\∀ q<n,∃ i':Nat,ow[(pN mask (vz mask i bq) q).j]?=aa (aa i')
 |0,_,_,_,_,h,_=>absurd h (by omega)
 |fuel+1,i,bq,m,hi,hm,he=>by
  have hrun:runEnd mask i<=mask/\i<=runEnd mask i:=by unfold runEnd;split<;>omega
  have hat:∀ k,k<=runEnd mask i-i->(pN mask (vz mask i bq) k).j=i+k:=λk hk=>by rw[JA mask i bq k hk]
  have hg:∀ k,k<=runEnd mask i-i->((ow.getD (i+k) (aa 0)).isNone=af↔ow[i+k]?=aa ae):=λk hk=>by
   rw[SJ];rcases yY (ow:=ow) (j:=i+k) (by omega) with c|⟨x,c⟩<;>rw[c]<;>simp
  unfold layClean.free;cases ef:(cK (runEnd mask i+1-i)).find? λk=>(ow.getD (i+k) (aa 0)).isNone with
  |some k=>
   obtain⟨h1,h2,h3⟩:=List.find?_range_eq_some.1 ef;have hk:k<=runEnd mask i-i:=by have:=gW.1 h2;omega
   refine⟨k,by rw[hat k hk],by rw[hat k hk];exact(hg k hk).1 h1,λq hq=>?_⟩
   rw[hat q (by omega)]
   rcases yY (ow:=ow) (j:=i+q) (by omega) with c|c
   .have:=h3 q hq;rw[(hg q (by omega)).2 c] at this
    exact absurd this (by decide)
   .exact c
  |none=>
   have h3:=List.find?_range_eq_none.1 ef;have cv:∀ k,k<=runEnd mask i-i->∃ i':Nat,ow[i+k]?=aa (aa i'):=λk hk=>by
    rcases yY (ow:=ow) (j:=i+k) (by omega) with c|c
    .have:=h3 k (by omega)
     rw[(hg k hk).2 c] at this;exact absurd this (by decide)
    .exact c
   cases m with
   |zero=>
    obtain⟨i',e'⟩:=cv 0 (by omega)
    have he':ow[i]?=aa ae:=he;rw[QX,he'] at e';cases e'
   |succ m=>
    rw[XB] at he;have ur:(leap mask i bq).1<=mask:=by
     have:(leap mask i bq).1<mask+1:=BI _ (by omega)
     omega
    obtain⟨n,e1,e2,e3⟩:=Bz hz fuel (leap mask i bq).1 (leap mask i bq).2 m ur (by omega) he
    have hp:∀ q,pN mask (vz mask i bq) (runEnd mask i-i+1+q)=pN mask (vz mask (leap mask i bq).1 (leap mask i bq).2) q:=λq=>by
     rw[<-PB,XJ]
    refine⟨runEnd mask i-i+1+n,?_,by rw[hp];exact e2,λq hq=>?_⟩
    .rw[hp];exact e1
    .by_cases c:q<=runEnd mask i-i
     .rw[hat q c];exact cv q c
     .obtain⟨r,rfl⟩:∃ r,q=runEnd mask i-i+1+r:=⟨q-(runEnd mask i-i+1),by omega⟩
      rw[hp];exact e3 r (by omega)
theorem Own.add(hm:mZ mask){hs:List Int}(O:Own mask hs ow)(hl:hs.length<=mask)(h:Int) :
  ∃ j,layClean.free mask ow (turns mask) (bits h%(mask+1)) (bits h)=aa j/\Own mask (hs++[h]) (ow.setIfInBounds j (aa hs.length)):=by
 obtain⟨e,he,gg⟩:=O.free hl;obtain⟨m,h1,h2⟩:=XC hm (Gc h) he;have hi:bits h%(mask+1)<=mask:=by
  have:=BI (bits h) (show 0<mask+1 by omega)
  omega
 obtain⟨n,e1,e2,e3⟩:=Bz O.size (turns mask) (bits h%(mask+1)) (bits h) m hi (by unfold turns;omega) (by rw[h2];exact gg)
 have sv:ow[(rd mask h n).j]?=aa ae:=e2;have hjs:(rd mask h n).j<ow.size:=(uL.1 sv).1;have get:∀ k:Nat,(ow.setIfInBounds (rd mask h n).j (aa hs.length))[k]?=if (rd mask h n).j=k then aa (aa hs.length) else ow[k]?:=λk=>by
  rw[Array.getElem?_setIfInBounds];by_cases c:(rd mask h n).j=k
  .subst c;simp[hjs]
  .rw[if_neg c,if_neg c]
 have mono:∀ k i:Nat,ow[k]?=aa (aa i)->(ow.setIfInBounds (rd mask h n).j (aa hs.length))[k]?=aa (aa i):=λk i q=>by
  rw[get,if_neg (by rintro rfl;rw[sv] at q;cases q)]
  exact q
 refine⟨_,e1,by simpa using O.size,λj i q=>?_,λj j' i q q'=>?_,λi hi=>?_,λj i x q qx=>?_⟩
 .have q:(ow.setIfInBounds (rd mask h n).j (aa hs.length))[j]?=aa (aa i):=q;rw[get] at q;rw[oU,RH];split at q
  .cases q;omega
  .have:=O.lt j i q;omega
 .have q:(ow.setIfInBounds (rd mask h n).j (aa hs.length))[j]?=aa (aa i):=q;have q':(ow.setIfInBounds (rd mask h n).j (aa hs.length))[j']?=aa (aa i):=q';rw[get] at q q';split at q
  .split at q'
   .omega
   .cases q;have:=O.lt j' _ q';omega
  .split at q'
   .cases q';have:=O.lt j _ q;omega
   .exact O.inj j j' i q q'
 .rw[oU,RH] at hi;by_cases c:i=hs.length
  .exact⟨(rd mask h n).j,by show(ow.setIfInBounds (rd mask h n).j (aa hs.length))[(rd mask h n).j]?=_;rw[get,if_pos rfl,c]⟩
  .obtain⟨j,q⟩:=O.all i (by omega)
   exact⟨j,mono j i q⟩
 .have q:(ow.setIfInBounds (rd mask h n).j (aa hs.length))[j]?=aa (aa i):=q;rw[get] at q;split at q
  .rename_i hj;cases q;rw[RL (bD _)] at qx;have:h=x:=by simpa using qx
   rw[19];refine⟨n,hj,λq hq=>?_⟩
   obtain⟨i',w⟩:=e3 q hq;exact⟨i',mono _ i' w⟩
  .have bz:=O.lt j i q;rw[xK bz] at qx;obtain⟨n',a,b⟩:=O.reach j i x q qx;refine⟨n',a,λr hr=>?_⟩
   obtain⟨i',w⟩:=b r hr;exact⟨i',mono _ i' w⟩
theorem UZ(hm:mZ mask):∀ (rest hs:List Int) (ow:Array (Option Nat)),Own mask hs ow->hs.length+rest.length<=mask+1 ->
  ∃ ow',rest.foldl (λak h=>do
   let (owner,k) <-ak
   let j <-layClean.free mask owner (turns mask) (bits h%(mask+1)) (bits h)
   pure (owner.setIfInBounds j (aa k),k+1)) (aa (ow,hs.length))=aa (ow',(hs++rest).length)/\Own mask (hs++rest) ow'
 |[],hs,ow,O,_=>⟨ow,by simp,by simpa using O⟩
 |h::r,hs,ow,O,hl=>by
  rw[fE] at hl;obtain⟨j,e,O'⟩:=O.add hm (by omega) h
  obtain⟨ow',e2,O2⟩:=UZ hm r (hs++[h]) _ O' (by rw[oU,RH];omega)
  refine⟨ow',?_,by simpa using O2⟩
  rw[kT];have:(do
   let (owner,k) <-aa (ow,hs.length)
   let j <-layClean.free mask owner (turns mask) (bits h%(mask+1)) (bits h)
   pure (owner.setIfInBounds j (aa k),k+1))=aa (ow.setIfInBounds j (aa hs.length),(hs++[h]).length):=by
   show((layClean.free mask ow (turns mask) (bits h%(mask+1)) (bits h)).bind λj=>aa (ow.setIfInBounds j (aa hs.length),hs.length+1))=_
   rw[e];simp
  rw[this,e2];simp
theorem Si (mask:Nat):Own mask [] (Array.replicate (mask+1) ae):=by
 have hn:∀ j i:Nat,(Array.replicate (mask+1) (ae:Option Nat))[j]?≠aa (aa i):=λj i q=>by
  rw[Array.getElem?_replicate] at q;split at q<;>cases q
 exact⟨by simp,λj i q=>absurd q (hn j i),λj _ i q=>absurd q (hn j i),λi hi=>absurd hi (by simp),λj i _ q=>absurd q (hn j i)⟩
theorem ZV(hm:mZ mask)(hs:Array Int)(hl:hs.size<=mask+1):∃ ow,layClean mask hs=aa ow/\Own mask hs.toList ow:=by
 obtain⟨ow,e,O⟩:=UZ hm hs.toList [] _ (Si mask) (by simpa using hl)
 refine⟨ow,?_,by simpa using O⟩
 unfold layClean;rw[<-Array.foldl_toList];have e':=congrArg (Option.map (·.1)) e;exact e'
theorem VY {α β:Type}{f:α->Option β}:∀ (l:List α),(∀ k∈l,(f k).isSome=af)->∀ i:Nat,(l.filterMap f)[i]?=(l[i]?).bind f
 |[],_,i=>by simp
 |a::r,h,i=>by
  obtain⟨b,e⟩:=xD.1 (h a bE);rw[P4 e];cases i with
  |zero=>simp[e]
  |succ i=>
   rw[Jm,Jm];exact VY r (λk m=>h k (bH _ m)) i
def fT (mask:Nat)(ow:Array (Option Nat)):List (Nat×Nat):=(cK (mask+1)).filterMap λj=>(ow.getD j ae).map (j,·)
theorem jX(hz:ow.size=mask+1):(j,i)∈fT mask ow↔ow[j]?=aa (aa i):=by
 unfold fT;rw[rR];rw[23]
 .rintro⟨j',hj,e⟩;obtain⟨i',e1,e2⟩:=fZ.1 e;have e3:=congrArg Prod.fst e2;have e4:=congrArg Prod.snd e2;subst e3;subst e4;have bz:j'<ow.size:=by have:=gW.1 hj;omega
  rw[SJ] at e1;rcases yY bz with c|⟨x,c⟩
  .rw[c] at e1;cases e1
  .rw[c] at e1;cases e1;exact c
 .intro e;have bz:=(uL.1 e).1;exact⟨j,gW.2 (by omega),by rw[SJ,e];rfl⟩
theorem FC (mask:Nat)(ow:Array (Option Nat)):(fT mask ow).Pairwise (λa b=>a.1<b.1):=by
 unfold fT;rw[List.pairwise_filterMap];refine List.Pairwise.imp ?_ List.pairwise_lt_range;intro a b o0 x hx y hy;obtain⟨_,_,rfl⟩:=fZ.1 hx;obtain⟨_,_,rfl⟩:=fZ.1 hy;exact o0
theorem Bv(hm:mZ mask)(es:Array (Int×aD))(hl:es.size<=mask)(fg mv:Nat)(led pl:Bool) :
  ∃ t' ca,laid mask fg mv led pl (es.map (·.1))=aa (t',ca)/\Good t' (ca.filterMap (es[·]?))/\(ca.filterMap (es[·]?)).toList.Perm es.toList/\t'.mask=mask/\t'.led=led/\t'.plain=pl/\t'.dummies = #[]:=by
 obtain⟨ow,e,O⟩:=ZV hm (es.map (·.1)) (by rw[Array.size_map];omega)
 have hz:=O.size;have av:(es.map (·.1)).toList.length=es.size:=by simp
 refine⟨{ mask,place:=((fT mask ow).map (·.1)).toArray,dummies:=#[],finger:=fg,led,moves:=mv,plain:=pl },((fT mask ow).map (·.2)).toArray,?_,?_,?_,rfl,rfl,rfl,rfl⟩
 .unfold laid;rw[e]
  rfl
 .have Q4:∀ k∈(fT mask ow).map (·.2),(es[k]?).isSome=af:=λk m=>by
   obtain⟨⟨j,i⟩,mm,rfl⟩:=bL.1 m;have:=O.lt j i ((jX hz).1 mm);rw[av] at this;rw[mO this]
   rfl
  have hget:∀ i:Nat,((((fT mask ow).map (·.2)).toArray).filterMap (es[·]?))[i]?=(((fT mask ow)[i]?).bind λp=>es[p.2]?):=λi=>by
   rw[<-nU,SI,VY _ Q4,eE];cases(fT mask ow)[i]?<;>rfl
  have iw:∀ i:Nat,(((fT mask ow).map (·.1)).toArray)[i]?=((fT mask ow)[i]?).map (·.1):=λi=>by simp
  refine⟨hm,rfl,?_,?_,?_,?_,?_⟩
  .intro a b u v o0 ea eb;have ea:=ea;have eb:=eb;rw[iw] at ea eb;obtain⟨x,hx,rfl⟩:=fZ.1 ea;obtain⟨y,hy,rfl⟩:=fZ.1 eb;obtain⟨ha,rfl⟩:=cX.1 hx;obtain⟨hb,rfl⟩:=cX.1 hy;exact RD.1 (FC mask ow) a b ha hb o0
  .have:(List.filterMap (es[·]?) ((fT mask ow).map (·.2))).length=((fT mask ow).map (·.2)).length:=by
    rw[List.length_filterMap_eq_countP,List.countP_eq_length];exact Q4
   rw[<-fC (xs:=Array.filterMap _ _),SI,this];simp
  .intro i j q;have q:=q;rw[iw] at q;obtain⟨⟨j',i'⟩,hx,rfl⟩:=fZ.1 q;have:=(jX hz).1 (eU hx);have:=(uL.1 this).1;show j'<=mask;omega
  .have ld:((fT mask ow).map (·.2)).Nodup:=by
    unfold RT;rw[qC];refine RS ?_ (FC mask ow);rintro⟨a,i⟩ ⟨b,i'⟩ ma mb o0 e';have e':=e';subst e';have:=O.inj a b i ((jX hz).1 ma) ((jX hz).1 mb);have o0:=o0;omega
   have:=HB ld (λv m=>by
    obtain⟨⟨j,i⟩,mm,rfl⟩:=bL.1 m;have:=O.lt j i ((jX hz).1 mm);rw[av] at this;exact gW.2 this)
   have h2:((((fT mask ow).map (·.2)).toArray).filterMap (es[·]?)).size<=((fT mask ow).map (·.2)).length:=by
    rw[<-fC,SI];exact xI _ _
   rw[GY] at this;show _<=mask;omega
  .intro i j x q qx;have q:=q;rw[iw] at q;obtain⟨⟨j',k⟩,hx,rfl⟩:=fZ.1 q;rw[hget,hx,bM] at qx;have hw:=(jX hz).1 (eU hx);have hk:(es.map (·.1)).toList[k]?=aa x.1:=by
    have qx:=qx;rw[nU,Array.getElem?_map,qx]
    rfl
   obtain⟨n,a,b⟩:=O.reach j' k x.1 hw hk;refine⟨n,a,λm yz=>?_⟩
   obtain⟨i',w⟩:=b m yz;obtain⟨r,hr,er⟩:=Jh.1 ((jX hz).2 w);refine⟨r,?_⟩;rw[iw,fO hr,er]
   rfl
 .rw[SI];have ld:((fT mask ow).map (·.2)).Nodup:=by
   unfold RT;rw[qC];refine RS ?_ (FC mask ow);rintro⟨a,i⟩ ⟨b,i'⟩ ma mb o0 e';have e':=e';subst e';have:=O.inj a b i ((jX hz).1 ma) ((jX hz).1 mb);have o0:=o0;omega
  have hp:((fT mask ow).map (·.2)).Perm (cK es.size):=by
   rw[RC ld BO];intro v;rw[23]
   .intro m;obtain⟨⟨j,i⟩,mm,rfl⟩:=bL.1 m;have:=O.lt j i ((jX hz).1 mm);rw[av] at this;exact gW.2 this
   .intro m;obtain⟨j,q⟩:=O.all v (by rw[av];exact gW.1 m)
    exact bL.2 ⟨(j,v),(jX hz).2 q,rfl⟩
  exact(hp.filterMap _).trans (by rw[filterMap_getElem?_range])
structure Fine (t:dJ)(es:Array (Int×aD)):Prop where
 good:Good t es
 few:es.size*5<t.mask*3/\es.size<=4914
theorem Fine.fits {t:dJ}(F:Fine t es):t.fits es.size=af:=by
 have h1:=F.good.len;have h2:=F.good.nod;have h3:=F.good.room;simp[SetTable.fits,xB,h1,h2,h3]
theorem Fine.odd {t:dJ}(F:Fine t es):t.gaveWay=ag:=by
 rcases F.good.small with e|e|e|e|e|e<;>simp[SetTable.gaveWay,e]
theorem Cd (led:Bool):Fine (GM 0 0 led) #[]:=
 ⟨⟨.inl rfl,rfl,λa b u v _ h=>by simp[GM] at h,rfl,λi j h=>by simp[GM] at h,by simp,λi j e h=>by simp[GM] at h⟩,by simp[GM]⟩
theorem Au {t:dJ}(hs:mZ t.mask)(h1:(n-1)*5<t.mask*3)(h0:0<n)(hf:t.mask*3<=n*5)(hn:n<=4914):∃ M,mZ M/\n*5<M*3/\SetTable.sizeAbove (GL n)=M+1:=by
 rcases hs with e|e|e|e|e|e<;>rw[e] at h1 hf
 .have h5:n=5:=by omega
  exact⟨31,.inr (.inl rfl),by omega,by rw[h5];decide⟩
 .have h5:n=19:=by omega
  exact⟨127,.inr (.inr (.inl rfl)),by omega,by rw[h5];decide⟩
 .have h5:n=77:=by omega
  exact⟨511,.inr (.inr (.inr (.inl rfl))),by omega,by rw[h5];decide⟩
 .have h5:n=307:=by omega
  exact⟨2047,.inr (.inr (.inr (.inr (.inl rfl)))),by omega,by rw[h5];decide⟩
 .have h5:n=1229:=by omega
  exact⟨8191,.inr (.inr (.inr (.inr (.inr rfl)))),by omega,by rw[h5];decide⟩
 .omega
open PySem PySem.Spec PyProof.Rows PySem.SetTable
def eR (w:aX):Bool:=w.params.followText "set-order"
abbrev An5 (led:Bool):bB:={ cls:=.type "set",dict:=ae,data:=.set #[] 0 (.fresh 0 0 led) }
theorem d4(v:aD){Q₁:aD->aH->Prop}(h:Q₁ (.ref s.heap.objs.size) { s with heap:=s.heap.push (An5 (!eR w)) }) :
  kB (aO prog w) A (.call (.builtin "set.__new__") ⟨[.type "set",v],[]⟩) (wants Q₁ E) s:=by
 refine codeAny_of_tree (show aM _ A.in1 (do checkBuiltinCall "set.__new__" ⟨[.type "set",v],[]⟩;again (.builtin "set.__new__" ⟨[.type "set",v],[]⟩)) _ _ s from ?_)
 refine aF (wQ (F.newCall_set_1 v) (aL ⟨oM F.plain_set_new _,kQ F.entry_set_new ?_⟩));rw[mP F.plain_set_new _];unfold Builtin.«set.__new__» Builtin.Frozenset.newClass;have sub1:=sub_set_self;obtain⟨hp,g,d,tk,os⟩:=s;rw[18]
 wp_walk
 refine wR (aL ?_);rw[18];simp only[newObj];exact aF (wpAny_alloc (aL (aL h)))
structure WSet (w:aX)(h:aQ)(a:aC)(o:bB)(es:Array (Int×aD))(ep:Nat)(t:dJ):Prop where
 get:h.get? a=aa o
 exact:o.ExactSet
 data:o.data=.set es ep t
 fine:Fine t es
 led:t.led=!eR w
mutual
theorem LQ:∀ (d:aA) (n:Nat) {A:bW} {E:aD->aH->Prop} {s:aH} {v:aD} {as:List aC} {Q:Bool->aH->Prop},d.depth<=n->bF d=af->nM s.heap v d as ->
  Q ag s->aM (aO prog w) A (GI n v) Q E s
 |.int i,n,A,E,s,v,as,Q,hu,hk,r,h=>by
  cases r with
  |int _ t=>
   unfold GI;exact aL h
 |.str x,n,A,E,s,v,as,Q,hu,hk,r,h=>by
  cases r with
  |str _ t=>
   unfold GI;exact aL h
 |.tuple ks,n,A,E,s,v,as,Q,hu,hk,r,h=>by
  obtain⟨a,o,aj,m,rfl,ho,hc,hd,hi⟩:=oH r;have hT:s.TypeIs (.ref a) "tuple":=⟨o,ho,hc⟩;have xl:cP ks+1<=n:=by simpa [jN] using hu
  obtain⟨n,rfl⟩:∃ m,n=m+1:=⟨n-1,by omega⟩
  have dz:bO ks=af:=by simpa [bF] using hk
  unfold GI;refine aF (oI hT ?_);rw[18];rw[if_pos (by decide)]
  refine aF (aL ?_);simp only[HG,jC,if_false];refine aF (kO ho hd ?_);rw[18];rw[20];rw[<-SK];refine AW _ (λrest r s'=>r.1=ae/\s'=s/\∃ ds bs,nL s.heap rest ds bs/\∀ d∈ds,d∈ks) _ ?_ ?_ _ _ ⟨rfl,rfl,ks,as,hi,λ_ h=>h⟩
  .rintro v rest r s' ⟨hr,rfl,ds,bs,hl,cv⟩;cases hl with
   |@cons _ _ d ds as1 KK h1 wz=>
    refine aF (Cy ks (cv d bE) n (by omega) dz h1 ?_)
    simp only[jC,if_false];exact aL ⟨rfl,rfl,ds,KK,wz,λu LE=>cv u (bH _ LE)⟩
  .rintro⟨r1,r2⟩ s' ⟨hr,rfl,_⟩;simp only at hr;subst hr;exact aL h
 |.none,n,A,E,s,v,as,Q,hu,hk,r,h=>by simp[bF] at hk
 |.bool _,n,A,E,s,v,as,Q,hu,hk,r,h=>by simp[bF] at hk
 |.list _,n,A,E,s,v,as,Q,hu,hk,r,h=>by simp[bF] at hk
 |.dict _,n,A,E,s,v,as,Q,hu,hk,r,h=>by simp[bF] at hk
theorem Cy:∀ (ks:List aA) {d:aA},d∈ks->∀ (n:Nat) {A:bW} {E:aD->aH->Prop} {s:aH} {v:aD} {as:List aC} {Q:Bool->aH->Prop},cP ks<=n->bO ks=af->nM s.heap v d as ->
  Q ag s->aM (aO prog w) A (GI n v) Q E s
 |[],_,hm,_,_,_,_,_,_,_,_,_,_,_=>by simp at hm
 |k::ks,d,hm,n,A,E,s,v,as,Q,hu,hk,r,h=>by
  have dz:bF k=af/\bO ks=af:=by simpa [bO] using hk
  have xl:max k.depth (cP ks)<=n:=by simpa [cP] using hu
  by_cases e:d=k
  .exact LQ k n (by omega) dz.1 (e ▸ r) h
  .have yz:d∈ks:=by
    rcases cO.1 hm with q|q
    .exact absurd q e
    .exact q
   exact Cy ks yz n (by omega) dz.2 r h
end
def nV (k:List aA):Prop:=∀ d∈k,∃ i,d=.int i
theorem A1{b:aC}{Q:Bool->aH->Prop}(hk:Abp s.heap k b)(hi:nV k)(h:Q af s):aM (aO prog w) A (hashByValue 8 (.ref b)) Q E s:=by
 obtain⟨_,_,as,r⟩:=hk;obtain⟨a,o,aj,m,e,ho,hc,hd,hr⟩:=oH r;cases e;unfold hashByValue;refine aF (tX ⟨o,ho,hc⟩ HC.lookup ?_);refine aF (kO ho hd ?_);rw[20];rw[<-SK];refine AW _ (λrest r s'=>r=(ae,())/\s'=s/\∃ ds bs,nL s.heap rest ds bs/\∀ d∈ds,d∈k) _ ?_ ?_ _ _ ⟨rfl,rfl,k,as,hr,λ_ h=>h⟩
 .rintro v rest r s' ⟨rfl,rfl,ds,bs,hl,cv⟩;cases hl with
  |@cons _ _ d ds as1 KK h1 wz=>
   obtain⟨i,rfl⟩:=hi d (cv d bE);cases h1;exact aF (aL (aL ⟨rfl,rfl,ds,KK,wz,λu LE=>cv u (bH _ LE)⟩))
 .rintro r s' ⟨rfl,rfl,_⟩;exact aL h
theorem Rq{b:aC}{ys:List aD}{Q:Bool->aH->Prop}(hk:Abp s.heap k b)(hy:∀ y∈ys,∃ k' b',y=.ref b'/\Abp s.heap k' b')(h:Q ag s) :
  aM (aO prog w) A (searchCouldBeSeen (.ref b) ys) Q E s:=by
 unfold searchCouldBeSeen;rw[20];refine AW _ (λrest r s'=>r.1=ae/\s'=s/\∀ y∈rest,∃ k' b',y=.ref b'/\Abp s.heap k' b') _ ?_ ?_ _ _ ⟨rfl,rfl,hy⟩
 .rintro v rest r s' ⟨hr,rfl,cv⟩;obtain⟨k',b',rfl,dz⟩:=cv v bE;have Q5:∀ y∈rest,∃ k' b',y=.ref b'/\Abp s'.heap k' b':=λy m=>cv y (bH _ m)
  rw[18];split
  .exact aL ⟨rfl,rfl,Q5⟩
  .obtain⟨a1,a2,as,ra⟩:=hk;obtain⟨b1,b2,bs,rb⟩:=dz;have ka:bF (.tuple k)=af:=by simpa [bF] using a1
   have kb:bF (.tuple k')=af:=by simpa [bF] using b1
   have da:(cL k).depth<=8:=by simp only[jN];omega
   have db:(cL k').depth<=8:=by simp only[jN];omega
   refine aF (FA (.tuple k) 8 da ka ra ?_);simp only[HG,jC,if_false];refine aF (FA (.tuple k') 8 db kb rb ?_);simp only[HG,jC,if_false];refine aF (LQ (.tuple k) 8 da ka ra ?_);simp only[jC,if_false];refine aF (LQ (.tuple k') 8 db kb rb ?_);simp only[jC,if_false];exact aL ⟨rfl,rfl,Q5⟩
 .rintro⟨r1,r2⟩ s' ⟨hr,rfl,_⟩;simp only at hr;subst hr;exact aL h
theorem oA {α β:Type}{R:α->β->Prop}:∀ {as:List α} {bs:List β},cN R as bs->∀ {i:Nat} {a:α},as[i]?=aa a->∃ b,bs[i]?=aa b/\R a b
 |_,_,.nil,i,a,h=>by simp at h
 |_,_,.cons h t,0,a,e=>⟨_,rfl,by simp at e;exact e ▸ h⟩
 |_,_,.cons h t,i+1,a,e=>oA t (by simpa using e)
theorem DM {α β:Type}{R:α->β->Prop}:∀ {as:List α} {bs:List β},cN R as bs->∀ {i:Nat} {b:β},bs[i]?=aa b->∃ a,as[i]?=aa a/\R a b
 |_,_,.nil,i,a,h=>by simp at h
 |_,_,.cons h t,0,a,e=>⟨_,rfl,by simp at e;exact e ▸ h⟩
 |_,_,.cons h t,i+1,a,e=>DM t (by simpa using e)
theorem Good.met {t:dJ}{f:Nat->Int}{h:Int}{r:Option Met}(G:Good t es)(hv:∀ m<n,iG t (rd t.mask h m).j)(V8:t.probe f h (rd t.mask h n)=r)(hf:∀ (i:Nat) e,es[i]?=aa e->f i=e.1) :
  ∃ N,n<=N/\N<10*turns t.mask/\(∀ m,n<=m->m<N->∃ (i:Nat) (e:Int×aD),t.place[i]?=aa (rd t.mask h m).j/\es[i]?=aa e/\e.1≠h) /\
   ((¬ iG t (rd t.mask h N).j/\r=aa (.empty (rd t.mask h N).j ae))\/∃ (i:Nat) (e:Int×aD),t.place[i]?=aa (rd t.mask h N).j/\es[i]?=aa e/\e.1=h/\r=aa (.candidate (rd t.mask h N).j i (rd t.mask h (N+1)))):=by
 obtain⟨k,h1,h2,h3⟩:=G.next h hv;have el:∀ i j:Nat,t.place[i]?=aa j->∃ e,es[i]?=aa e:=λi j q=>by
  have:=(uL.1 q).1;rw[G.len] at this;exact⟨es[i],mO this⟩
 refine⟨n+k,by omega,h1,λm a b=>?_,?_⟩
 .obtain⟨i,e1,e2⟩:=h2 m a b;obtain⟨e,ee⟩:=el i _ e1;exact⟨i,e,e1,ee,by rw[<-hf i e ee];exact e2⟩
 .rcases h3 with⟨a,b⟩|⟨i,a,b,c⟩
  .exact .inl ⟨a,V8.symm.trans b⟩
  .obtain⟨e,ee⟩:=el i _ a;exact .inr ⟨i,e,a,ee,by rw[<-hf i e ee];exact b,V8.symm.trans c⟩
theorem Good.nope {t:dJ}{f:Nat->Int}{h:Int}(G:Good t es)(hv:∀ m<n,iG t (rd t.mask h m).j)(hn:∀ met,t.probe f h (rd t.mask h n)=aa met->False):False:=by
 obtain⟨k,_,_,h3⟩:=G.next h hv;rcases h3 with⟨_,q⟩|⟨_,_,_,q⟩
 .exact hn _ q
 .exact hn _ q
section
variable {B:List aA->aC->Prop}
def U5 (w:aX)(B:List aA->aC->Prop)(h:aQ)(e:Int×aD)(k:List aA):Prop:=∃ b,e.2=.ref b/\e.1=dE w (.tuple k)/\Abp h k b/\B k b
structure SetAt (w:aX)(B:List aA->aC->Prop)(h:aQ)(a:aC)(o:bB)(es:Array (Int×aD))(ep:Nat)(t:dJ)(ks:List (List aA)):Prop where
 get:h.get? a=aa o
 exact:o.ExactSet
 data:o.data=.set es ep t
 fine:Fine t es
 led:t.led=!eR w
 plain:t.plain=af
 els:cN (U5 w B h) es.toList ks
 nod:ks.Nodup
theorem LP{b:aC}{t:dJ}{ad:Bool}{Q:SetFound->aH->Prop}
  (S:SetAt w B s.heap a o es ep t ks) (hk:Abp s.heap k b) (hu:A.units+20<cLine) (h1:k∈ks->∀ i,(ad=ag->i≠ae)->Q (.there i) s)
  (h2:k∉ks->∀ N,(∀ m<N,iG t (rd t.mask (dE w (.tuple k)) m).j)->¬ iG t (rd t.mask (dE w (.tuple k)) N).j->Q (.free (rd t.mask (dE w (.tuple k)) N).j ag) s) :
  ∀ fuel n vt,vt.getD (t.probeStart (dE w (.tuple k)))=rd t.mask (dE w (.tuple k)) n->(∀ m<n,∃ i:Nat,t.place[i]?=aa (rd t.mask (dE w (.tuple k)) m).j/\∀ k',ks[i]?=aa k'->k'≠k)->10*turns t.mask<fuel+n ->
   aM (aO prog w) A (setSearchFrom a (.ref b) (dE w (.tuple k)) ad fuel vt) Q E s
 |0,n,vt,_,hv,hf=>by
  obtain⟨e,he,gg⟩:=S.fine.good.empty;obtain⟨N,hN,eN⟩:=YZ S.fine.good.small (dE w (.tuple k)) he;obtain⟨i,q,_⟩:=hv N (by omega)
  exact absurd ⟨i,eN ▸ q⟩ gg
 |fuel+1,n,vt,jy,hv,hf=>by
  have G:=S.fine.good;have V4:∀ m<n,iG t (rd t.mask (dE w (.tuple k)) m).j:=λm hm=>by
   obtain⟨i,q,_⟩:=hv m hm;exact⟨i,q⟩
  have Q6:∀ (i:Nat) (e:Int×aD),es[i]?=aa e->∃ k',ks[i]?=aa k'/\U5 w B s.heap e k':=λi e q=>oA S.els (by rw[nU];exact q)
  unfold setSearchFrom;rw[10];rw[S.fine.odd];simp only[jC,if_false];rw[jy];split
  .rename_i met V8;obtain⟨N,hnN,hN,hm,hc⟩:=G.met V4 V8 (λi e he=>by
    show(es[i]?.map (·.1)).getD 0=e.1;rw[he]
    rfl)
   have Y8:∀ m<N,iG t (rd t.mask (dE w (.tuple k)) m).j:=λm hmN=>by
    rcases BL m n with c|c
    .exact V4 m c
    .obtain⟨i,e,q,_⟩:=hm m c hmN;exact⟨i,q⟩
   rcases hc with⟨gg,hr⟩|⟨i,e,hp,TD,hh,hr⟩
   .cases hr;rw[18];have hnk:k∉ks:=λmem=>by
     obtain⟨i,hi,ei⟩:=Jh.1 mem;have sx:ks[i]?=aa k:=by rw[fO hi,ei]
     obtain⟨e,q,b',_,hh,_⟩:=DM S.els sx;rw[nU] at q;have hi2:=(uL.1 q).1;have hi3:i<t.place.size:=by rw[G.len];exact hi2
     have iw:=mO hi3;obtain⟨M,hM,hMl⟩:=G.reach i _ e iw q;rw[hh] at hM hMl;rcases BJ N M with c|c|c
     .exact gg (hMl N c)
     .subst c;exact gg ⟨i,by rw[iw,hM]⟩
     .have Y9:∀ i':Nat,t.place[i']?=aa (rd t.mask (dE w (.tuple k)) M).j->i'=i:=λi' q'=>by
       rw[hM] at q';rcases BJ i' i with z|z|z
       .have:=G.ris _ _ _ _ z q' iw;omega
       .exact z
       .have:=G.ris _ _ _ _ z iw q';omega
      rcases BL M n with z|z
      .obtain⟨i',q',xu⟩:=hv M z;have:=Y9 i' q';rw[19];exact xu k sx rfl
      .obtain⟨i',e',q',qe,xu⟩:=hm M z c;have:=Y9 i' q';rw[19];rw[q] at qe;cases qe;exact xu hh
    exact aL (h2 hnk N Y8 gg)
   .cases hr;rw[18];obtain⟨k',dz,b',eb,eh,tp,_⟩:=Q6 i e TD;have Y':∀ y∈((es.filter (·.1==dE w (.tuple k))).toList.map (·.2)),∃ k' b',y=.ref b'/\Abp s.heap k' b':=λy my=>by
     obtain⟨e',me,rfl⟩:=bL.1 my;rw[Array.toList_filter] at me;obtain⟨q1,_⟩:=uF.1 me;obtain⟨i',N',sx⟩:=Jh.1 q1;obtain⟨k2,_,b2,z1,_,z2,_⟩:=oA S.els (by rw[fO N',sx])
     exact⟨k2,b2,z1,z2⟩
    obtain⟨eh0,ey⟩:=e;have eb:=eb;have hh:=hh;subst eb;have ZB:k'≠k->aM (aO prog w) A (setSearchFrom a (.ref b) (dE w (.tuple k)) ad fuel (aa (rd t.mask (dE w (.tuple k)) (N+1)))) Q E s:=λgg=>by
     refine LP S hk hu h1 h2 fuel (N+1) _ rfl (λm hmN=>?_) (by omega)
     rcases BL m n with c|c
     .exact hv m c
     .rcases BL m N with c2|c2
      .obtain⟨i',e',q',qe,xu⟩:=hm m c c2;refine⟨i',q',λk2 V9 e2=>?_⟩
       obtain⟨k3,hk3,_,_,z,_⟩:=Q6 i' e' qe;rw[V9] at hk3;cases hk3;subst e2;exact xu z
      .have:m=N:=by omega
       rw[19];refine⟨i,hp,λk2 V9 e2=>?_⟩
       rw[dz] at V9;cases V9;exact gg e2
    have Ty:t.sameMemory t.moves t.mask=aa af:=by simp[sameMemory]
    split
    case' isTrue=>refine aF (Rq hk Y' ?_);simp only[jC,if_false]
    all_goals
     rw[TD];rw[18];refine aF (fA ((iY prog w).eqBool hu tp hk ?_));rw[10];have mem:=λe:k'=k=>h1 (by rw[<-e];exact eU dz)
     by_cases ea:(ad&&decide (k'=k))=af
     .rw[if_pos ea];obtain⟨rfl,e⟩:=jQ.1 ea;exact aL (mem (of_decide_eq_true e) ae λz=>nomatch z)
     .rw[if_neg ea,Ty];rw[18];simp only[if_true];rw[(EW G.nod G.ris).2 hp];rw[18];rw[TD];rw[18];refine aF (wpAny_isSame_ref_self (aF (aL ?_)));simp only[if_true];by_cases ek:k'=k
      .rw[decide_eq_true ek,if_pos rfl];exact aL (mem ek (aa i) λ_=>by simp)
      .rw[decide_eq_false ek,if_neg (by decide)]
       exact ZB ek
  .rename_i V8;exact(G.nope V4 V8).elim
end
section
variable {B:List aA->aC->Prop}
theorem XW{t:dJ}(ho:h.get? a=aa o)(hd:o.data=.set es ep t)(hs:mL a h h'){b:aC}(hk:Abp h k b):Abp h' k b:=
 hk.keep λc oc vs n hc _ tp=>by
  have gg:c≠a:=by
   rintro rfl;rw[ho] at hc;cases hc;rw[hd] at tp;cases tp
  exact(hs.2 c gg).trans hc
theorem nZ {α β:Type}{R R':α->β->Prop}(f:∀ a b,R a b->R' a b):∀ {as:List α} {bs:List β},cN R as bs->cN R' as bs
 |_,_,.nil=>.nil
 |_,_,.cons h t=>.cons (f _ _ h) (nZ f t)
theorem vI {α β:Type}{R:α->β->Prop}{as zm:List α}(p:zm.Perm as):∀ {bs:List β},cN R as bs->∃ bs',cN R zm bs'/\bs'.Perm bs:=by
 induction p with
 |nil=>intro bs h;exact⟨bs,h,.refl _⟩
 |cons x p ih=>
  intro bs h;cases h with
  |cons h t=>
   obtain⟨bs',h1,h2⟩:=ih t;exact⟨_,.cons h h1,h2.cons _⟩
 |swap x y l=>
  intro bs h;cases h with
  |cons h t=>
   cases t with
   |cons h' t'=>exact⟨_,.cons h' (.cons h t'),.swap _ _ _⟩
 |trans p q ih1 ih2=>
  intro bs h;obtain⟨b1,h1,h2⟩:=ih2 h;obtain⟨b2,h3,h4⟩:=ih1 h1;exact⟨b2,h3,h4.trans h2⟩
theorem OY {α β:Type}{R:α->β->Prop}{a:α}{b:β}(h:R a b):∀ {as:List α} {bs:List β},cN R as bs->cN R (as++[a]) (bs++[b])
 |_,_,.nil=>.cons h .nil
 |_,_,.cons h' t=>.cons h' (OY h t)
def SetT (w:aX)(B:List aA->aC->Prop)(h:aQ)(a:aC)(ks:List (List aA)):Prop:=∃ o es ep t il,SetAt w B h a o es ep t il/\il.Perm ks
theorem EX{t:dJ}(ho:h.get? a=aa o)(hex:o.ExactSet)(hd:o.data=.set es ep t)(jx:Array (Int×aD))(t':dJ) :
  ∃ o',(h.update a (BE jx t')).get? a=aa o'/\o'.ExactSet/\o'.data=.set jx (ep+1) t'/\mL a h (h.update a (BE jx t')):=by
 have hg:=rV (BE jx t') ho (by rw[putSet_of jx t' hd];rfl)
 rw[putSet_of jx t' hd] at hg;exact⟨_,hg,hex,rfl,xR h a _⟩
theorem Qq{b:aC}{t:dJ}{Q:Bool->aH->Prop}{fuel:Nat}
  (S:SetAt w B s.heap a o es ep t ks) (hk:Abp s.heap k b) (hB:B k b) (hi:nV k) (hu:A.units+20<cLine) (og:es.size+1<=4914)
  (h:∀ h',mL a s.heap h'->SetT w B h' a (if k∈ks then ks else ks++[k])->Q (decide (k∉ks)) { s with heap:=h' }) :
  aM (aO prog w) A (setAddHashedIn a (.ref b) (dE w (.tuple k)) (fuel+1)) Q E s:=by
 have G:=S.fine.good;have e0:s={ s with heap:=s.heap }:=by cases s;rfl
 unfold setAddHashedIn;rw[10];have hbs:byScan (.ref b) es=ag:=by simp[byScan,Value.scannable]
 rw[hbs];simp only[jC,if_false];unfold setSearch;refine aF (LP S hk hu (λmem _ _=>?_) (λhn N hl gg=>?_) 100000 0 ae rfl (λm hm=>absurd hm (by omega)) (by
  rcases G.small with e|e|e|e|e|e<;>rw[e]<;>decide))
 .rw[18];refine aL ?_;have:=h s.heap (Heap.SameBut.refl a s.heap) (by rw[if_pos mem];exact⟨o,es,ep,t,ks,S,.refl _⟩)
  rw[e0,show ag=decide (k∉ks) from(decide_eq_false (λz=>z mem)).symm]
  exact this
 .rw[18];rw[10];rw[VT G.nod];rw[18];have uu:es.size<t.mask:=by
   have:=S.fine.few;rcases G.small with e|e|e|e|e|e<;>rw[e] at this ⊢<;>omega
  have tail:∀ pl:Bool,pl=af->aM (aO prog w) A (do
    storeSet a (insertAt es (below t.place (rd t.mask (dE w (.tuple k)) N).j) (dE w (.tuple k),.ref b)) { t with place:=insertAt t.place (below t.place (rd t.mask (dE w (.tuple k)) N).j) (rd t.mask (dE w (.tuple k)) N).j,plain:=pl }
    if (!ag&&({ t with place:=insertAt t.place (below t.place (rd t.mask (dE w (.tuple k)) N).j) (rd t.mask (dE w (.tuple k)) N).j,plain:=pl }:dJ).tooFull)=af then do
      setRelay a (GL (es.size+1))
      pure af
     else pure af) Q E s:=λpl iw=>by
   have G':=G.put (x:=.ref b) hl gg uu pl;have Q7:=insertAt_perm es (below t.place (rd t.mask (dE w (.tuple k)) N).j) (dE w (.tuple k),eI b);rw[Kf] at Q7;have xp:=zG es (below t.place (rd t.mask (dE w (.tuple k)) N).j) (dE w (.tuple k),eI b);generalize insertAt es (below t.place (rd t.mask (dE w (.tuple k)) N).j) (dE w (.tuple k),eI b)=jb at *;generalize Z0:({ t with place:=insertAt t.place (below t.place (rd t.mask (dE w (.tuple k)) N).j) (rd t.mask (dE w (.tuple k)) N).j,plain:=pl }:dJ)=t1 at *;have hm1:t1.mask=t.mask:=by rw[<-Z0]
   have le1:t1.led=!eR w:=by rw[<-Z0];exact S.led
   have pn1:t1.plain=af:=by rw[<-Z0];exact iw
   obtain⟨o1,g1,x1,d1,yq⟩:=EX S.get S.exact S.data jb t1;have els0:cN (U5 w B s.heap) (es.toList++[(dE w (.tuple k),eI b)]) (ks++[k]):=OY ⟨b,rfl,rfl,hk,hB⟩ S.els;obtain⟨ks1,xv,p1⟩:=vI Q7 els0;have xw:ks1.Nodup:=p1.nodup_iff.2 (qE.2 ⟨S.nod,by simp,λx hx y hy e=>hn (by rw[<-cB.1 hy,<-e];exact hx)⟩)
   have Q8:∀ e k',U5 w B s.heap e k'->U5 w B (s.heap.update a (BE jb t1)) e k':=λe k' ⟨b',q1,q2,q3,q4⟩=>⟨b',q1,q2,XW S.get S.data yq q3,q4⟩
   refine aF (PQ S.get S.data ?_ (by have:sizeLine=sizeLine:=rfl;rw[kA];omega))
   have Z1:t1.fits jb.size=af:=by
    have a1:=G'.len;have a2:=G'.nod;have a3:=G'.room;simp[SetTable.fits,xB,a1,a2,a3]
   by_cases hf:t1.tooFull=af
   .rw[if_pos (by simpa using hf)]
    have a1:=G'.len;have a2:=G'.nod;have gj:=S.fine.few;have vv:t1.mask*3<=jb.size*5:=by
     simp[QN,xB,a1,a2] at hf;exact hf
    obtain⟨M,hM,Z2,zn⟩:=Au (t:=t) (n:=es.size+1) G.small (by simpa using gj.1) (by omega) (by rw[hm1,xp] at vv;exact vv) og
    have hM3:jb.size<=M:=by
     rcases hM with e|e|e|e|e|e<;>rw[e] at Z2 ⊢<;>omega
    obtain⟨t2,ca,el,G2,p2,m2,le2,Z3,_⟩:=Bv (mask:=M) hM jb hM3 t1.finger (t1.movedTo M) t1.led t1.plain;have hre:t1.relaid (jb.map (·.1)) (GL (es.size+1))=aa (t2,ca):=by
     unfold SetTable.relaid;rw[zn];exact el
    have zo:(ca.filterMap (jb[·]?)).size=jb.size:=by
     rw[<-fC,p2.length_eq,fC]
    rw[20];unfold setRelay;refine aF (oJ g1 d1 Z1 ?_);rw[18];rw[if_neg (by rw[kA,zn];rcases hM with e|e|e|e|e|e<;>rw[e]<;>decide),hre]
    refine aF (show aM (aO prog w) A (do
     let jx:=ca.filterMap (jb[·]?)
     if jx.size != jb.size then unsupported "internal:set-table-lost-an-element"
     pure (jx,t2)) _ E _ from ?_)
    rw[18];rw[if_neg (by rw[zo];simp)]
    refine aL ?_;generalize ca.filterMap (jb[·]?)=wS at *;obtain⟨o2,g2,x2,d2,V'⟩:=EX g1 x1 d1 wS t2;rw[18];refine PQ g1 d1 ?_ (by rw[kA];omega)
    refine aL ?_;obtain⟨Z4,TW,q2⟩:=vI p2 xv;have Z5:∀ e k',U5 w B s.heap e k'->U5 w B ((s.heap.update a (BE jb t1)).update a (BE wS t2)) e k':=λe k' z=>by
     obtain⟨b',z1,z2,z3,z4⟩:=Q8 e k' z;exact⟨b',z1,z2,XW g1 d1 V' z3,z4⟩
    rw[show af=decide (k∉ks) from(decide_eq_true hn).symm]
    exact h _ (yq.trans V') (by rw[if_neg hn];exact⟨o2,wS,ep+1+1,t2,Z4,⟨g2,x2,d2,⟨G2,by rw[zo,m2,xp];exact Z2,by omega⟩,le2.trans le1,Z3.trans pn1,nZ (λe k'=>Z5 e k') TW,q2.nodup_iff.2 xw⟩,q2.trans p1⟩)
   .rw[if_neg (by simpa using hf)]
    have few:jb.size*5<t1.mask*3/\jb.size<=4914:=by
     have a1:=G'.len;have a2:=G'.nod;refine⟨?_,by omega⟩
     simp[QN,xB,a1,a2] at hf;omega
    refine aL ?_;rw[show af=decide (k∉ks) from(decide_eq_true hn).symm]
    exact h _ yq (by rw[if_neg hn];exact⟨o1,jb,ep+1,t1,ks1,⟨g1,x1,d1,⟨G',few⟩,le1,pn1,nZ (λe k'=>Q8 e k') xv,xw⟩,p1⟩)
  rw[if_pos S.plain];refine aF (A1 hk hi ?_);simp only[if_true];exact tail t.plain S.plain
end
section
variable {B:List aA->aC->Prop}
theorem SetT.len(S:SetT w B h a ks):∃ o es ep t,h.get? a=aa o/\o.ExactSet/\o.data=.set es ep t/\t.fits es.size=af/\es.size=ks.length:=by
 obtain⟨o,es,ep,t,il,be,p⟩:=S;refine⟨o,es,ep,t,be.get,be.exact,be.data,be.fine.fits,?_⟩;have:=jF be.els;rw[fC] at this;rw[this,p.length_eq]
theorem SetT.keep(S:SetT w B h a ks)(k1:∀ o,h.get? a=aa o->h'.get? a=aa o)(k2:∀ b o vs n,h.get? b=aa o->o.cls=.type "tuple" -> o.data=.seq vs n->h'.get? b=aa o):SetT w B h' a ks:=by
 obtain⟨o,es,ep,t,il,be,p⟩:=S;exact⟨o,es,ep,t,il,⟨k1 o be.get,be.exact,be.data,be.fine,be.led,be.plain,nZ (λe k ⟨b,q1,q2,q3,q4⟩=>⟨b,q1,q2,q3.keep k2,q4⟩) be.els,be.nod⟩,p⟩
theorem Xu {ls:List (List aA)}(p:ks.Perm ls)(k:List aA):(if k∈ks then ks else ks++[k]).Perm (mE ls k):=by
 unfold mE;by_cases m:k∈ks
 .rw[if_pos m,if_pos (p.mem_iff.1 m)];exact p
 .rw[if_neg m,if_neg (λz=>m (p.mem_iff.2 z))]
  exact p.append_right [k]
theorem Sj{b:aC}{Q:Bool->aH->Prop}
  (S:SetT w B s.heap a ks) (hk:Abp s.heap k b) (hB:B k b) (bi:∀ k b,B k b->nV k) (hu:A.units+20<cLine) (og:ks.length+1<=4914)
  (h:∀ h' c,mL a s.heap h'->SetT w B h' a (mE ks k)->Q c { s with heap:=h',toks:=s.toks+qX (.tuple k) }) :
  aM (aO prog w) A (setAdd a (.ref b)) Q E s:=by
 obtain⟨o,es,ep,t,il,be,p⟩:=S;unfold setAdd;refine fA (aF ((iY prog w).pyHash hu hk ?_));unfold setAddHashed;have TD:es.size=ks.length:=by
  have:=jF be.els;rw[fC] at this;rw[this,p.length_eq]
 refine fA (Qq be hk hB (bi _ _ hB) hu (by omega) λh' sb S'=>h h' _ sb ?_)
 obtain⟨o',jx,tq,t',Z4,Z',p'⟩:=S';exact⟨o',jx,tq,t',Z4,Z',p'.trans (Xu p k)⟩
theorem C4 (ak:List (List aA))(k:List aA):ak.length<=(mE ak k).length:=by
 unfold mE;split
 .exact bD _
 .simp
theorem Cq:∀ (kss ak:List (List aA)),ak.length<=(kss.foldl mE ak).length
 |[],ak=>bD _
 |k::r,ak=>dA (C4 ak k) (Cq r (mE ak k))
theorem L7 (kss:List (List aA))(i:Nat):(fJ (kss.take i)).length<=(fJ kss).length:=by
 have e:fJ kss=(kss.drop i).foldl mE (fJ (kss.take i)):=by
  unfold fJ;rw[<-rT,Jd]
 rw[e];exact Cq _ _
theorem Yn{fp:List aC}{P:Nat->aD->Prop}{St:Nat->aH->Prop}
  (W:WalksS prog w A.in1 I fp wr G n P St) (bi:∀ k b,B k b->nV k) (hu:A.units+30<cLine) (S:aC) (S6:S∉fp) (kss:List (List aA)) (hn:(fJ kss).length<=4900)
  (hT:∀ i s,St i s->∀ c∈wr,∀ o,s.heap.get? c=aa o->o.cls ≠ .type "tuple") :
  ∀ (k i:Nat) (s:aH),n-i=k->i<=n->St i s->SetT w B s.heap S (fJ (kss.take i))->(∀ j v,P j v->∃ b q,v=.ref b/\kss[j]?=aa q/\Abp s.heap q b/\B q b) ->
   (∀ s',Moved (S::wr) G s s'->SetT w B s'.heap S (fJ (kss.take n))->R (.ok (.ret .none)) s') ->
   kB (aO prog w) A (.builtin "set.update.loop" ⟨[.ref S,.ref I],[]⟩) R s:=by
 have Z6:S∉wr:=λz=>S6 (W.sub _ z)
 have more:∀ b∈wr,b∈S::wr:=λb z=>bH _ z
 have vw:∀ {i s s'},St i s->Moved wr G s s'->∀ b o vs m,s.heap.get? b=aa o->o.cls=.type "tuple" -> o.data=.seq vs m->s'.heap.get? b=aa o:=λ{i s s'} st hm b o vs m q c _=>
  hm.heap b o (λz=>hT i s st b z o q c) q
 intro k;induction k with
 |zero=>
  intro i s hk hi jy hS hP hR;obtain rfl:i=n:=by omega
  refine kQ RZ ?_;rw[mP BR _];refine aF (W.done s _ _ jy λs' hm=>?_)
  exact aL (hR s' (hm.mono more) (hS.keep (λo q=>hm.heap S o Z6 q) (vw jy hm)))
 |succ k ih=>
  intro i s hk hi jy hS hP hR;have bz:i<n:=by omega
  refine kQ RZ ?_;rw[mP BR _];refine aF (W.item i s _ _ bz jy λv s' Tk uo hm=>?_)
  obtain⟨b,q,rfl,hq,hd,hB⟩:=hP i v Tk;have um:=hS.keep (λo z=>hm.heap S o Z6 z) (vw jy hm)
  have lh:fJ (kss.take (i+1))=mE (fJ (kss.take i)) q:=by
   rw[uE,hq];simp[fJ,rT]
  have av:=dA (L7 kss i) hn;refine aF (fA (Sj um (hd.keep (vw jy hm)) hB bi (by show A.units+1+20<cLine;omega) (by omega) λh' c sb S2=>?_))
  obtain⟨o2,wS,ep2,t2,g2,_,d2,_⟩:=um.len;have kt:∀ b o vs m,s'.heap.get? b=aa o->o.cls=.type "tuple" -> o.data=.seq vs m->h'.get? b=aa o:=λb o vs m z _ z'=>by
   have gg:b≠S:=by
    rintro rfl;rw[g2] at z;cases z;rw[d2] at z';cases z'
   exact(sb.2 b gg).trans z
  refine aL ⟨oM BR _,ih (i+1) _ (by omega) bz (W.frame _ s' _ _ uo (QW _ _) λc hc o e=>?_) (by rw[lh];exact S2) (λj v z=>?_) λxn uq S3=>?_⟩
  .exact(sb.2 c (λz=>S6 (z ▸ hc))).trans e
  .obtain⟨b',q',e1,e2,e3,e4⟩:=hP j v z;exact⟨b',q',e1,e2,(e3.keep (vw jy hm)).keep kt,e4⟩
  .exact hR xn (QZ W.gtrans ((hm.mono more).then_heap (QW _ _) λc o hc e=>(sb.2 c (λz=>hc (z ▸ bE))).trans e) uq) S3
end
section
variable {B:List aA->aC->Prop}
theorem Xh(e:h.get? a=aa (An5 (!eR w))):SetT w B h a []:=
 ⟨An5 (!eR w),#[],0,.fresh 0 0 (!eR w),[],⟨e,⟨rfl,rfl,rfl⟩,rfl,Cd _,rfl,rfl,.nil,.nil⟩,.refl _⟩
set_option maxHeartbeats 4000000 in
theorem ZW{N:aQ->Prop}(hh:A.handled=ae)(hl:s.heap.IsList l aj)
  (hp:∀ (A':bW) (R:qB->aH->Prop) (I:aC) (s1:aH),A'.units=A.units+2->WalksS prog w A'.in1 I [I,l] [I] (λa b=>b=a) aj.size (λi v=>aj[i]?=aa v) (λi s=>s.heap.IsListIter I l i/\s.heap.IsList l aj) ->
   s.heap.objs.size∉[I,l]->s1.heap.IsListIter I l 0/\s1.heap.IsList l aj->(∀ b o,s.heap.get? b=aa o->s1.heap.get? b=aa o)->s1.heap.get? s.heap.objs.size=aa (An5 (!eR w)) ->
   (∀ s',Moved [s.heap.objs.size,I] (λa b=>b=a) s1 s'->N s'.heap->R (.ok (.ret .none)) s')->kB (aO prog w) A' (.builtin "set.update.loop" ⟨[.ref s.heap.objs.size,.ref I],[]⟩) R s1)
  (h:∀ (h':aQ) (tk:Nat),s.toks<=tk->N h'->(∀ b o,b<s.heap.objs.size->s.heap.get? b=aa o->h'.get? b=aa o)->Q (.ref s.heap.objs.size) { s with heap:=h',toks:=tk }) :
  aM (aO prog w) A (call (.type "set") [.ref l]) Q E s:=by
 obtain⟨c,tl,hmro⟩:=uJ.mro;have Z7:=uJ.made;have cw:=uJ.sub;refine wpAny_call (codeAny_of_tree (show aM _ _ (callAny (.type "set") _) _ _ _ from ?_))
 refine aL ⟨Code.quiet_builtin _ (by rw[0]),kQ F.entry_type_call ?_⟩
 rw[Around.under_plain (weight_type_call_type "set" [.ref l] []) rfl];have z1:=uJ.notType;have z2:=uJ.canCreate;have z3:=F.typeCall_set_1 (.ref l)
 repeat (any_goals (first|assumption|wp_step))
 refine AX (d4 (.ref l) (E:=E) (Q₁:=λu s₁=>u=.ref s.heap.objs.size/\s₁={ s with heap:=s.heap.push (An5 (!eR w)) }) ⟨rfl,rfl⟩) λr s₁ hr=>?_
 match r,hr with
 |.error e,hr=>exact hr
 |.ok (.ret u),hr=>
  obtain⟨rfl,rfl⟩:=hr;generalize hled:(!eR w)=led;have gS:(s.heap.push (An5 led)).get? s.heap.objs.size=aa (An5 led):=cV _ rfl;have hT:Shared.TypeIs { s with heap:=s.heap.push (An5 led) } (.ref s.heap.objs.size) "set":=⟨_,gS,rfl⟩;have y1:=uJ.init.lookup;have y2:=uJ.init.bind (.ref s.heap.objs.size)
  repeat (any_goals (first|assumption|wp_step))
  refine AX (Ic (R:=wants (λr s₂=>r=.none/\∃ h' tk,s.toks<=tk/\s₂={ s with heap:=h',toks:=tk }/\N h'/\(∀ b o,b<s.heap.objs.size->s.heap.get? b=aa o->h'.get? b=aa o)) E) uJ.init.plain F.entry_set_init (check_set_init_1 hT ?_)) λr₂ s₂ qr=>?_
  .obtain⟨ol,gl,cl,nl,dl⟩:=hl;obtain⟨ocls,Z8,odata,T0⟩:=ol;simp only at cl dl;subst cl;subst dl;have gl':(s.heap.push (An5 led)).get? l=aa { cls:=.type "list",dict:=Z8,data:=.seq aj nl,slots:=T0 }:=bT _ gl;have x1:=F.sub_list_set;have x2:=F.sub_list_frozenset;have x3:(jM "list" == jM "dict")=ag:=by decide
   have L1:(s.heap.push (An5 led)).IsList l aj:=⟨_,gl',rfl,nl,rfl⟩;unfold Builtin.«set.__init__» noKeywords Builtin.Frozenset.updateFrom;generalize hPI:nH=PI
   wp_walk
   subst hPI;refine GE L1 (aF (wpAny_runValue ?_));have lS:l<s.heap.objs.size:=bU gl;have hI:(s.heap.push (An5 led)).objs.size=s.heap.objs.size+1:=uI _ _;have nI:l≠(s.heap.push (An5 led)).objs.size:=by rw[hI];exact cQ (BK lS)
   have nS:s.heap.objs.size∉[(s.heap.push (An5 led)).objs.size,l]:=by
    intro z;rw[hI] at z;rcases cO.1 z with z|z
    .exact absurd z (cQ (Jb _))
    .exact absurd (cB.1 z) (mI lS)
   have gI:((s.heap.push (An5 led)).push { cls:=.type "list_iterator",data:=.fields #[.ref l,.int 0 0] }).get? s.heap.objs.size=aa (An5 led):=bT _ gS;refine hp _ _ _ _ rfl ((Walks.list (by simp[hh]) _ l nI aj).toS) nS ⟨⟨_,cV _ rfl,rfl,rfl⟩,L1.push _⟩ (λb o e=>bT _ (bT _ e)) (by rw[hled];exact gI) λs' hm S'=>?_
   obtain⟨h',g',d',Q1,R5⟩:=s';obtain rfl:g'=s.gens:=hm.gens;obtain rfl:d'=s.drawn:=hm.drawn;obtain rfl:R5=s.os:=hm.os;show aM _ _ _ _ _ _;refine aL ?_;show aM _ _ (ret eJ) _ _ _;refine aL ⟨rfl,h',Q1,hm.toks,rfl,S',λb o hb e=>?_⟩
   refine hm.heap b o (λz=>?_) (bT _ (bT _ e))
   rw[hI] at z;rcases cO.1 z with z|z
   .exact absurd z (cQ hb)
   .exact absurd (cB.1 z) (cQ (BK hb))
  .match r₂,qr with
   |.error e,qr=>exact qr
   |.ok (.ret v),qr=>
    obtain⟨rfl,h',tk,ht,rfl,S',dz⟩:=qr
    repeat (any_goals (first|assumption|wp_step))
    exact h _ _ ht S' dz
theorem F9(hh:A.handled=ae)(bi:∀ k b,B k b->nV k)(hu:A.units+40<cLine)(hl:s.heap.IsList l aj)
  (hd:∀ (j:Nat) v,aj[j]?=aa v->∃ b q,v=.ref b/\kss[j]?=aa q/\Abp s.heap q b/\B q b) (av:(fJ kss).length<=4900) (nh:kss.length=aj.size)
  (h:∀ (h':aQ) (tk:Nat),s.toks<=tk->SetT w B h' s.heap.objs.size (fJ kss)->(∀ b o,b<s.heap.objs.size->s.heap.get? b=aa o->h'.get? b=aa o)->Q (.ref s.heap.objs.size) { s with heap:=h',toks:=tk }) :
  aM (aO prog w) A (call (.type "set") [.ref l]) Q E s:=by
 refine ZW hh hl (λA' R I s1 ha W nS st kp gI q=>?_) h
 refine Yn W bi (by omega) s.heap.objs.size nS kss av (λi s1 st c hc o e z=>?_) (aj.size-0) 0 _ rfl (eD _) st (Xh gI) (λj v e=>?_) λs' hm S'=>q s' hm (by rw[<-rQ (l:=kss),nh];exact S')
 .obtain⟨⟨o',g',c',_⟩,_⟩:=st;rw[cB.1 hc,g'] at e;cases e;rw[c'] at z;exact absurd z (by decide)
 .obtain⟨b,q,q1,q2,q3,q4⟩:=hd j v e;exact⟨b,q,q1,q2,q3.keep λb o vs m z _ _=>kp b o z,q4⟩
end
abbrev yk (a:aC)(o:bB):HO:=.ext λh=>h.get? a=aa o
abbrev Refs (H:Hp)(ys:List V)(kss:List (List aA)):Prop:=cN (λy k=>∃ b,y=V.ref b/\Al0 H k b) ys kss
theorem DZ:∀ {kss:List (List aA)} {ys:List V},(∀ ks∈kss,bO ks=af/\cP ks<=6)->Aao K H (kss.map cL) ys->Refs H ys kss
 |[],ys,_,r=>by rw[Aak.1 r];exact .nil
 |k::kss,ys,hk,r=>by
  obtain⟨v,t,rfl,r1,r2⟩:=Aaf.1 r;obtain⟨b,rfl,tk⟩:=r1.tupK (hk k bE).1 (hk k bE).2;exact .cons ⟨b,rfl,tk⟩ (DZ (λx m=>hk x (bH _ m)) r2)
theorem Refs.le(x:∀ c zs,H c=aa (.tup zs)->H' c=aa (.tup zs))(r:Refs H ys kss):Refs H' ys kss:=nZ (λy k ⟨b,e,t⟩=>⟨b,e,t.keep x⟩) r
instance memK (k:aI)(ak:List aI):Decidable (k∈ak):=decidable_of_iff (ak.any (λx=>decide (x=k))=af) (by simp[xO])
theorem G4 {t:dJ}(G:Good t es)(h:Int):∃ n,(∀ m<n,iG t (rd t.mask h m).j)/\¬ iG t (rd t.mask h n).j/\t.freeSlot h=aa ((rd t.mask h n).j,ag):=by
 obtain⟨k,_,h2,h3⟩:=G.next (hashAt:=λ_=>h+1) h (n:=0) (λm hm=>absurd hm (by omega))
 rw[Nat.zero_add] at h2 h3;refine⟨k,λm hm=>?_,?_⟩
 .obtain⟨i,e,_⟩:=h2 m (eD _) hm;exact⟨i,e⟩
 .rcases h3 with⟨a,b⟩|⟨i,_,c,_⟩
  .refine⟨a,?_⟩;unfold SetTable.freeSlot;have b':t.probe (λ_=>h+1) h (t.probeStart h)=aa (.empty (rd t.mask h k).j ae):=b
   rw[b']
   rfl
  .exact absurd c (by omega)
theorem Br {t:dJ}(G:Good t es):t.fits es.size=af:=by
 have h1:=G.len;have h2:=G.nod;have h3:=G.room;simp[SetTable.fits,xB,h1,h2,h3]
theorem Ys {t:dJ}(F:Fine t es)(og:es.size+1<=4914)(h:Int)(x:aD) :
  ∃ jb t1,layNew t es h x=(jb,t1,ag,ag)/\Good t1 jb/\jb.toList.Perm (es.toList++[(h,x)])/\t1.mask=t.mask/\t1.led=t.led/\t1.plain=t.plain/\jb.size=es.size+1:=by
 have G:=F.good;obtain⟨n,h1,h2,h3⟩:=G4 G h;have uu:es.size<t.mask:=by
  have:=F.few;rcases G.small with e|e|e|e|e|e<;>rw[e] at this ⊢<;>omega
 have G':=G.put (x:=x) h1 h2 uu t.plain;refine⟨insertAt es (below t.place (rd t.mask h n).j) (h,x),{ t with place:=insertAt t.place (below t.place (rd t.mask h n).j) (rd t.mask h n).j },?_,G',?_,rfl,rfl,rfl,zG _ _ _⟩
 .unfold layNew;rw[h3];rw[18];rw[VT G.nod];rw[18];have hf:({ t with place:=insertAt t.place (below t.place (rd t.mask h n).j) (rd t.mask h n).j }:dJ).fits (insertAt es (below t.place (rd t.mask h n).j) (h,x)).size=af:=Br G';unfold SetTable.orStandIn;rw[if_pos hf,hf]
  rfl
 .have:=insertAt_perm es (below t.place (rd t.mask h n).j) (h,x);rw[Kf] at this;exact this
theorem Xr(hm:mZ mask)(es:Array (Int×aD))(hl:es.size<=mask)(fg mv:Nat)(led pl:Bool){t':dJ}{ca:Array Nat}(e0:laid mask fg mv led pl (es.map (·.1))=aa (t',ca)):coversAll ca es.size=af:=by
 obtain⟨ow,e,O⟩:=ZV hm (es.map (·.1)) (by rw[Array.size_map];omega)
 have hz:=O.size;have av:(es.map (·.1)).toList.length=es.size:=by simp
 have eo:((fT mask ow).map (·.2)).toArray=ca:=by
  have:laid mask fg mv led pl (es.map (·.1))=aa ({ mask,place:=((fT mask ow).map (·.1)).toArray,dummies:=#[],finger:=fg,led,moves:=mv,plain:=pl },((fT mask ow).map (·.2)).toArray):=by
   unfold laid;rw[e]
   rfl
  rw[this] at e0;injection e0 with e0;exact congrArg Prod.snd e0
 subst eo;have nd:((fT mask ow).map (·.2)).Nodup:=by
  unfold RT;rw[qC];refine RS ?_ (FC mask ow);rintro⟨a,i⟩ ⟨b,i'⟩ ma mb o0 e';have e':=e';subst e';have q:=O.inj a b i ((jX hz).1 ma) ((jX hz).1 mb);have o0:=o0;omega
 unfold coversAll;refine List.isPerm_iff.2 ?_;rw[RC nd BO];intro v;rw[23]
 .intro m;obtain⟨⟨j,i⟩,mm,rfl⟩:=bL.1 m;have q:=O.lt j i ((jX hz).1 mm);rw[av] at q;exact gW.2 q
 .intro m;obtain⟨j,q⟩:=O.all v (by rw[av];exact gW.1 m)
  exact bL.2 ⟨(j,v),(jX hz).2 q,rfl⟩
theorem N9 {t:dJ}(G:Good t es)(gj:(es.size-1)*5<t.mask*3/\0<es.size/\es.size<=4914)(hf:t.tooFull=af) :
  ∃ wS t2,relayAll t es (GL es.size)=(wS,t2,ag)/\Fine t2 wS/\wS.toList.Perm es.toList/\t2.led=t.led/\t2.plain=t.plain:=by
 have a1:=G.len;have a2:=G.nod;have vv:t.mask*3<=es.size*5:=by
  simp[QN,xB,a1,a2] at hf;exact hf
 obtain⟨M,hM,Z2,zn⟩:=Au G.small gj.1 gj.2.1 vv gj.2.2;have hM3:es.size<=M:=by
  rcases hM with e|e|e|e|e|e<;>rw[e] at Z2 ⊢<;>omega
 obtain⟨t2,ca,el,G2,p2,m2,l2,Z3,_⟩:=Bv hM es hM3 t.finger (t.movedTo M) t.led t.plain;have hre:t.relaid (es.map (·.1)) (GL es.size)=aa (t2,ca):=by
  unfold SetTable.relaid;rw[zn];exact el
 have zo:(ca.filterMap (es[·]?)).size=es.size:=by
  rw[<-fC,p2.length_eq,fC]
 refine⟨ca.filterMap (es[·]?),t2,?_,⟨G2,by rw[zo,m2];exact Z2,by omega⟩,p2,l2,Z3⟩
 unfold relayAll;rw[hre];rw[18];rw[if_pos (by rw[Xr hM es hM3 _ _ _ _ el,Br G2];rfl)]
def ElI (prog:bG)(w:aX)(e:Int×aD)(n:Int):Prop:=e.1=(pW prog w).hash n/\∃ t,e.2=.int n t
structure IntsAt (prog:bG)(w:aX)(h:aQ)(a:aC)(o:bB)(es:Array (Int×aD))(ep:Nat)(t:dJ)(ns:List Int):Prop where
 get:h.get? a=aa o
 exact:o.ExactSet
 data:o.data=.set es ep t
 fine:Fine t es
 led:t.led=!eR w
 plain:t.plain=af
 els:cN (ElI prog w) es.toList ns
 nod:ns.Nodup
theorem IntsAt.wset {prog:bG}{w:aX}{t:dJ}(S:IntsAt prog w h a o es ep t ns):WSet w h a o es ep t:=⟨S.get,S.exact,S.data,S.fine,S.led⟩
def A8h (prog:bG)(w:aX)(h:aQ)(a:aC)(ns:List Int):Prop:=∃ o es ep t iu,IntsAt prog w h a o es ep t iu/\iu.Perm ns
theorem A8h.keep(S:A8h prog w h a ns)(k:∀ o,h.get? a=aa o->h'.get? a=aa o):A8h prog w h' a ns:=by
 obtain⟨o,es,ep,t,iu,S,p⟩:=S;exact⟨o,es,ep,t,iu,⟨k o S.get,S.exact,S.data,S.fine,S.led,S.plain,S.els,S.nod⟩,p⟩
theorem HX {α β:Type}{R:α->β->Prop}:∀ {as:List α} {bs:List β},cN R as bs->∀ {a},a∈as->∃ b∈bs,R a b
 |_,_,.nil,_,m=>by simp at m
 |_,_,.cons r p,_,m=>by
  rw[13]
  .exact⟨_,bE,r⟩
  .obtain⟨b,mb,rb⟩:=HX p m;exact⟨b,bH _ mb,rb⟩
theorem SO {α β:Type}{R:α->β->Prop}:∀ {as:List α} {bs:List β},cN R as bs->∀ {b},b∈bs->∃ a∈as,R a b
 |_,_,.nil,_,m=>by simp at m
 |_,_,.cons r p,_,m=>by
  rw[13]
  .exact⟨_,bE,r⟩
  .obtain⟨b,mb,rb⟩:=SO p m;exact⟨b,bH _ mb,rb⟩
theorem Nb {es:List (Int×aD)}(p:cN (ElI prog w) es ns):ElemsOf (pW prog w) es:=λe he=>by
 obtain⟨n,_,e1,t,e2⟩:=HX p he;refine⟨⟨n,?_,e1⟩,?_⟩
 .rw[e2];exact GJ _ _ _ _
 .rw[e2];rfl
theorem Fd {es:List (Int×aD)}(p:cN (ElI prog w) es ns)(n:Int):n∈ns ↔ ∃ e∈es,(pW prog w).is n e.2=af:=by
 rw[23]
 .intro m;obtain⟨e,he,_,t,e2⟩:=SO p m;exact⟨e,he,by rw[e2];exact GJ _ _ _ _⟩
 .rintro⟨e,he,hi⟩;obtain⟨n',hn',_,t,e2⟩:=HX p he;rw[e2] at hi;have:=(pW prog w).inj _ n n' hi (GJ _ _ _ _);rw[this];exact hn'
theorem Yw{n:Int}{tk:Tok}{Q:Bool->aH->Prop}(S:A8h prog w s.heap a ns)(og:ns.length+1<=76)
  (h:∀ h',mL a s.heap h'->A8h prog w h' a (if n∈ns then ns else ns++[n])->Q (decide (n∉ns)) { s with heap:=h' }) :
  aM (aO prog w) A (setAddHashed a (.int n tk) ((pW prog w).hash n)) Q E s:=by
 obtain⟨o,es,ep,t,iu,S,pm⟩:=S;have ur:es.size=iu.length:=by rw[<-fC];exact S.els.length
 have hln:=pm.length_eq;have key:(pW prog w).is n (.int n tk)=af:=GJ _ _ _ _;have hel:=Nb S.els;have hb:es.size<scanBound:=by unfold scanBound;omega
 have fits:=S.fine.fits;have hmm:n∈iu↔n∈ns:=pm.mem_iff;unfold setAddHashed setAddHashedIn;refine fA (aF (oJ S.get S.data fits ?_));rw[18];rw[byScan_of rfl hb hel];simp only[if_true];unfold setAddByScan;refine aF (aF (oK (aF (wpAny_setScan_of key S.get S.data fits hel ?_))));cases hr:List.findIdx? (λe=>(pW prog w).is n e.2) es.toList with
 |some j=>
  rw[18];obtain⟨hj,hpj,_⟩:=O8.1 hr;have mem:=(Fd S.els n).2 ⟨es.toList[j],lQ hj,hpj⟩;refine aL (aL ?_);have q:=h s.heap (Heap.SameBut.refl a s.heap) (by rw[if_pos (hmm.1 mem)];exact⟨o,es,ep,t,iu,S,pm⟩)
  rw[decide_eq_false (λz=>z (hmm.1 mem))] at q
  exact q
 |none=>
  rw[18];have nm:n∉iu:=λz=>by
   obtain⟨e,he,hp⟩:=(Fd S.els n).1 z;have:=O9.1 hr e he;rw[hp] at this;cases this
  have nm2:n∉ns:=λz=>nm (hmm.2 z)
  obtain⟨jb,t1,e1,G1,p1,m1,l1,pl1,z1⟩:=Ys S.fine (by omega) ((pW prog w).hash n) (.int n tk)
  rw[e1];rw[18];obtain⟨o1,g1,x1,d1,yq⟩:=EX S.get S.exact S.data jb t1;obtain⟨ns1,xv,q1⟩:=vI p1 (OY ⟨rfl,tk,rfl⟩ S.els);have xw:=q1.nodup_iff.2 (qE.2 ⟨S.nod,by simp,λx hx y hy e=>nm (by rw[<-cB.1 hy,<-e];exact hx)⟩)
  have pm1:=q1.trans (pm.append_right _);have iw:=pl1.trans S.plain;have hz1:jb.size<=sizeLine:=by rw[kA];omega
  refine aF (show aM (aO prog w) A (pure ()) _ E _ from aL ?_)
  rw[if_pos iw];refine aF (show aM (aO prog w) A (hashByValue 8 (.int n tk)) _ E _ from ?_)
  refine wQ (hashByValue_scannable 8 rfl) ?_;simp only[plainKind,if_true];refine aF (PQ S.get S.data ?_ hz1);have few1:(jb.size-1)*5<t1.mask*3/\0<jb.size/\jb.size<=4914:=by
   have:=S.fine.few;rw[m1];omega
  by_cases hf:t1.tooFull=af
  .rw[if_pos (by simpa using hf)]
   obtain⟨wS,t2,e2,F2,p2,l2,Z3⟩:=N9 G1 few1 hf;rw[e2];rw[18];obtain⟨o2,g2,x2,d2,V'⟩:=EX g1 x1 d1 wS t2;obtain⟨Z9,TW,q2⟩:=vI p2 xv;have hz2:wS.size=jb.size:=by rw[<-fC,p2.length_eq,fC]
   refine aF (show aM (aO prog w) A (pure ()) _ E _ from aL ?_)
   refine aF (PQ g1 d1 ?_ (by omega))
   refine aL (aL ?_);have q:=h _ (yq.trans V') (by rw[if_neg nm2];exact⟨o2,wS,ep+1+1,t2,Z9,⟨g2,x2,d2,F2,l2.trans (l1.trans S.led),Z3.trans iw,TW,q2.nodup_iff.2 xw⟩,q2.trans pm1⟩)
   rw[decide_eq_true nm2] at q;exact q
  .rw[if_neg (by simpa using hf)]
   have few:jb.size*5<t1.mask*3/\jb.size<=4914:=by
    have a1:=G1.len;have a2:=G1.nod;refine⟨?_,by omega⟩
    simp[QN,xB,a1,a2] at hf;omega
   refine aL (aL ?_);have q:=h _ yq (by rw[if_neg nm2];exact⟨o1,jb,ep+1,t1,ns1,⟨g1,x1,d1,⟨G1,few⟩,l1.trans S.led,iw,xv,xw⟩,pm1⟩)
   rw[decide_eq_true nm2] at q;exact q
def uQ (ak:List Int)(n:Int):List Int:=if n∈ak then ak else ak++[n]
def jD (ns:List Int):List Int:=ns.foldl uQ []
theorem LY (ns:List Int):(jD ns).length<=ns.length:=by
 have go:∀ (l ak:List Int),(l.foldl uQ ak).length<=ak.length+l.length:=by
  intro l;induction l with
  |nil=>intro ak;simp
  |cons x r ih=>
   intro ak;have h2:(uQ ak x).length<=ak.length+1:=by unfold uQ;split<;>simp
   have:=ih (uQ ak x);simp only[kT,fE];omega
 have:=go ns [];simpa [jD] using this
theorem Xn(e:h.get? a=aa (An5 (!eR w))):A8h prog w h a []:=
 ⟨_,#[],0,_,[],⟨e,⟨rfl,rfl,rfl⟩,rfl,Cd _,rfl,rfl,.nil,by simp⟩,.refl _⟩
theorem A6{fp:List aC}{P:Nat->aD->Prop}{St:Nat->aH->Prop}
  (W:WalksS prog w A.in1 I fp wr G n P St) (S:aC) (S6:S∉fp) (ns:List Int) (hn:n<=75) (hP:∀ j v,P j v->∃ q t,ns[j]?=aa q/\v=.int q t) :
  ∀ (k i:Nat) (s:aH),n-i=k->i<=n->St i s->A8h prog w s.heap S (jD (ns.take i)) ->
   (∀ s',Moved (S::wr) G s s'->A8h prog w s'.heap S (jD (ns.take n))->R (.ok (.ret .none)) s') ->
   kB (aO prog w) A (.builtin "set.update.loop" ⟨[.ref S,.ref I],[]⟩) R s:=by
 have Z6:S∉wr:=λz=>S6 (W.sub _ z)
 have more:∀ b∈wr,b∈S::wr:=λb z=>bH _ z
 intro k;induction k with
 |zero=>
  intro i s hk hi jy hS hR;obtain rfl:i=n:=by omega
  refine kQ RZ ?_;rw[mP BR _];refine aF (show aM _ A.in1 (iA (.ref I)) _ _ s from W.done s _ _ jy λs' hm=>?_)
  exact aL (hR s' (hm.mono more) (hS.keep λo q=>hm.heap S o Z6 q))
 |succ k ih=>
  intro i s hk hi jy hS hR;have bz:i<n:=by omega
  refine kQ RZ ?_;rw[mP BR _];refine aF (show aM _ A.in1 (iA (.ref I)) _ _ s from W.item i s _ _ bz jy λv s' Tk uo hm=>?_)
  obtain⟨q,t,hq,rfl⟩:=hP i v Tk;have um:=hS.keep λo z=>hm.heap S o Z6 z
  have lh:jD (ns.take (i+1))=uQ (jD (ns.take i)) q:=by
   rw[uE,hq];simp[jD,rT]
  have av:(jD (ns.take i)).length<=i:=dA (LY _) (by rw[oT];omega)
  refine aF (show aM _ A.in1 (nJ [rN q t] (setAdd S (.int q t))) _ _ s' from fA ?_)
  unfold setAdd;refine fA (aF ((pW prog w).pyHash (GJ _ _ _ _) ?_));refine Yw um (by omega) λh' sb S2=>?_
  have S3:A8h prog w h' S (jD (ns.take (i+1))):=by
   rw[lh];exact S2
  refine aL ⟨oM BR _,ih (i+1) _ (by omega) bz (W.frame _ s' _ _ uo (rP _) λc hc o e=>?_) S3 λxn uq S4=>?_⟩
  .exact(sb.2 c (λz=>S6 (z ▸ hc))).trans e
  .exact hR xn (QZ W.gtrans ((hm.mono more).then_heap (rP _) λc o hc e=>(sb.2 c (λz=>hc (z ▸ bE))).trans e) uq) S4
abbrev sG (h:aQ)(r l:aC)(i:Int):Prop:=h.get? r=aa { cls:=.type "list_reverseiterator",dict:=ae,data:=.fields #[.ref l,dZ i],slots:=#[] }
theorem Adi:QO "list_reverseiterator" "__next__" "list_reverseiterator.__next__":=
 .of (owner:="list_reverseiterator") (n:="__next__") (by rw[wU,wY];kernel_rfl) (by rw[0]) (by rw[0]) (by rw[0])
  (by first|exact .inl (by rw[0])|exact .inr (by rw[0])) (by rw[rJ];kernel_rfl)
theorem Es:rL table "list_reverseiterator.__next__" = aa Builtin.«list_reverseiterator.__next__»:=QI (by kernel_rfl)
theorem As:Manifest.owners.lookup (String.ofList "list_reverseiterator".toList.reverse.reverse)=aa Manifest.sig_list_reverseiterator:=by kernel_rfl
theorem Er (a:aD):uA "list_reverseiterator.__next__" ⟨[a],[]⟩:=by
 unfold uA;rw[QD (id:="list_reverseiterator.__next__") (n:="__next__".toList.reverse) (o:="list_reverseiterator".toList.reverse) (by kernel_rfl) As]
 kernel_rfl
theorem Ee:QO "list_reverseiterator" "__iter__" "list_reverseiterator.__iter__":=
 .of (owner:="list_reverseiterator") (n:="__iter__") (by rw[wU,wY];kernel_rfl) (by rw[0]) (by rw[0]) (by rw[0])
  (by first|exact .inl (by rw[0])|exact .inr (by rw[0])) (by rw[rJ];kernel_rfl)
theorem n6:rL table "list_reverseiterator.__iter__" = aa Builtin.«dict_keyiterator.__iter__»:=
 GK (id':="dict_keyiterator.__iter__") (by kernel_rfl) (by first|rfl|decide +kernel|(unfold QM;simp +decide [QL])) (by rw[0]) (by kernel_rfl)
theorem m6 (a:aD):uA "list_reverseiterator.__iter__" ⟨[a],[]⟩:=by
 unfold uA;rw[QD (id:="list_reverseiterator.__iter__") (n:="__iter__".toList.reverse) (o:="list_reverseiterator".toList.reverse) (by kernel_rfl) As]
 kernel_rfl
section
variable {P:bG}
theorem Yr{k:Nat}{Q:Option aD->aH->Prop}(hr:sG s.heap r l (k:Int))(hl:s.heap.IsList l us)(hu:us[k]?=aa u)
  (q:∀ h',sG h' r l ((k:Int)-1)->mL r s.heap h'->Q (aa u) { s with heap:=h' }):aM (aO P w) A (iA (.ref r)) Q E s:=by
 have ty:s.TypeIs (.ref r) "list_reverseiterator":=⟨_,hr,rfl⟩;obtain⟨ol,l1,_,nl,l2⟩:=hl;unfold iA;refine aF (tY (mG ty Adi (gH Adi ty Es ?_ (Er _))));show aM _ _ (field (.ref r) 1>>=_) _ _ s;refine aF (jE hr rfl (x:=dZ k) rfl ?_);have h0:¬ ((k:Int)<0):=by omega
 show aM _ _ (if (k:Int)<0 then _ else _) _ _ s
 rw[if_neg h0];refine aF (jE hr rfl rfl (aF (kO l1 l2 ?_)));simp only[nQ,hu];refine aF (pS hr (by simp) λh' g sb=>aL ⟨u,rfl,aL (q h' g sb)⟩)
theorem Ym{i:Int}{Q:Option aD->aH->Prop}(hh:A.handled=ae)(hr:sG s.heap r l i)(h0:i<0)(q:∀ h',(∀ b o,s.heap.get? b=aa o->h'.get? b=aa o)->Q ae { s with heap:=h' }):aM (aO P w) A (iA (.ref r)) Q E s:=by
 have ty:s.TypeIs (.ref r) "list_reverseiterator":=⟨_,hr,rfl⟩;unfold iA;refine aF (tY (mG ty Adi (gH Adi ty Es ?_ (Er _))));show aM _ _ (field (.ref r) 1>>=_) _ _ s;refine aF (jE hr rfl (x:=dZ i) rfl ?_);show aM _ _ (if i<0 then _ else _) _ _ s
 rw[if_pos h0];refine aF (oK (aF ?_));rw[20];simp only[newExc,newTuple];refine aF (jZ ?_ (by size_fits))
 refine aF (wQ (by first|rfl|(simp only[QG];rfl)) ?_)
 refine jZ ?_ (by size_fits)
 simp only[raiseNew];refine aF (PV ?_)
 first|rw[show A.in1.handled=ae from hh]|rw[hh]
 refine aF (aL (PP ?_));refine aF (pU ⟨_,cV _ rfl,rfl⟩ QF ?_);exact aL (q _ λb o e=>bT _ (bT _ e))
theorem ZI{i:Int}(hr:sG s.heap r l i)(q:Q (.ref r) s):aM (aO P w) A (nH (.ref r)) Q E s:=by
 have ty:s.TypeIs (.ref r) "list_reverseiterator":=⟨_,hr,rfl⟩;refine GD ty Ee (gH Ee ty n6 ?_ (m6 _));exact aL ⟨_,rfl,"list_reverseiterator",_,ty,Adi.lookup,q⟩
theorem i6{Q₁:aD->aH->Prop}(hl:s.heap.get? l=aa { cls:=.type "list",dict:=ae,data:=.seq us n,slots:=sl })
  (q:Q₁ (.ref s.heap.objs.size) { s with heap:=s.heap.push { cls:=.type "list_reverseiterator",data:=.fields #[.ref l,dZ ((us.size:Int)-1)] } }) :
  kB (aO P w) A (.call (.builtin "reversed.__new__") ⟨[.type "reversed",.ref l],[]⟩) (wants Q₁ E) s:=by
 have cw:isSubtype (.type "reversed") (.type "reversed")=pure af:=by rw[rJ];kernel_rfl
 refine Ic (by rw[0]) (QI (by kernel_rfl):rL table "reversed.__new__" = aa Builtin.«reversed.__new__») (wQ (show checkBuiltinCall "reversed.__new__" ⟨[.type "reversed",.ref l],[]⟩=pure () by kernel_rfl) ?_)
 obtain⟨hp,g,d,tk,os⟩:=s;have ty:(⟨hp,g,d,tk,os⟩:aH).TypeIs (.ref l) "list":=⟨_,hl,rfl⟩;have f1:=RY.lookup;have f2:=RY.bind (.ref l);unfold Builtin.«reversed.__new__»
 wp_walk
 refine Ic RY.plain F.entry_list_reversed (RY.check _ _ _ _ _ _ _ _ ty (F.args_list_reversed_1 _) ?_)
 wp_walk
 exact q
theorem Vy(hl:s.heap.get? l=aa { cls:=.type "list",dict:=ae,data:=.seq us n,slots:=sl })
  (q:Q (.ref s.heap.objs.size) { s with heap:=s.heap.push { cls:=.type "list_reverseiterator",data:=.fields #[.ref l,dZ ((us.size:Int)-1)] } }):aM (aO P w) A (call (.type "reversed") [.ref l]) Q E s:=by
 have mro:mroOf (.type "reversed")=pure [.type "reversed",.type "object"]:=by rw[mroOf_type];kernel_rfl
 have lk:GH (.type "reversed") "__new__" = pure (aa (.builtin "reversed.__new__")):=by rw[wU,wY];kernel_rfl
 have Z7:Bind.madeBy (.type "reversed")=pure (aa "reversed.__new__"):=madeBy_type mro lk (by rw[0])
 have cw:isSubtype (.type "reversed") (.type "reversed")=pure af:=by rw[rJ];kernel_rfl
 have uf:isSubtype (.type "list_reverseiterator") (.type "reversed")=pure ag:=by rw[rJ];kernel_rfl
 refine wpAny_call (codeAny_of_tree (show aM _ _ (callAny (.type "reversed") _) _ _ _ from ?_))
 refine aL ⟨Code.quiet_builtin _ (by rw[0]),kQ F.entry_type_call ?_⟩
 rw[Around.under_plain (weight_type_call_type "reversed" [.ref l] []) rfl];have z1:(jM "reversed" == jM "type")=ag:=by rw[0]
 have z2:((Manifest.find? "reversed").bind (·.mro.findSome? λt=>(Manifest.find? t).bind λb=>if b.noNew then aa af else if b.attrs.any (·.1 == "__new__") then aa ag else ae)).getD ag=ag:=by rw[0]
 have z3:checkTypeCall "reversed" ⟨[.ref l],[]⟩=pure ():=by kernel_rfl
 repeat (any_goals (first|assumption|wp_step))
 refine AX (i6 (E:=E) (Q₁:=λu s1=>u=.ref s.heap.objs.size/\s1={ s with heap:=s.heap.push { cls:=.type "list_reverseiterator",data:=.fields #[.ref l,dZ ((us.size:Int)-1)] } }) hl ⟨rfl,rfl⟩) λr s1 hr=>?_
 match r,hr with
 |.error e,hr=>exact hr
 |.ok (.ret u),hr=>
  obtain⟨rfl,rfl⟩:=hr;refine aF (pU (T:="list_reverseiterator") (b:=ag) ⟨_,cV _ rfl,rfl⟩ uf ?_);exact aF (oK (aL q))
end
theorem Vd {α:Type}{l:List α}(h:i<l.length):(l[i]::l.eraseIdx i).Perm l:=by
 rw[List.eraseIdx_eq_take_drop_succ];refine List.perm_middle.symm.trans ?_;have:l.take i++l[i]::l.drop (i+1)=l:=by
  rw[<-Jo h,Jd]
 rw[this]
theorem Gq {α:Type}(f:Nat->Nat):∀ (n k:Nat) (l:List α) (out:Array α),l.length=n->(pickOrder.go f n k l out).toList.Perm (out.toList++l)
 |0,k,l,out,h=>by
  have:l=[]:=Jj.1 h;rw[19];show out.toList.Perm _;simp
 |n+1,k,l,out,h=>by
  have hi:f k%l.length<l.length:=BI _ (by omega)
  unfold pickOrder.go;rw[fO hi];rw[18];refine(Gq f n (k+1) _ _ (by rw[List.length_eraseIdx_of_lt hi];omega)).trans ?_
  rw[Kf,Jr];exact(Vd hi).append_left _
theorem Aj {α:Type}(f:Nat->Nat)(xs:Array α):(pickOrder f xs).toList.Perm xs.toList:=by
 have:=Gq f xs.size 0 xs.toList #[] (by simp)
 simpa [pickOrder] using this
def qc (w:aX)(a:aC)(ep:Nat)(es:Array (Int×aD)):List (Int×aD):=if eR w=af then(pickOrder (w.params.setOrder a ep) es).toList else es.toList
theorem JW (w:aX)(a:aC)(ep:Nat)(es:Array (Int×aD)):(qc w a ep es).Perm es.toList:=by
 unfold qc;split
 .exact Aj _ _
 .exact .refl _
theorem yT (w:aX)(a:aC)(ep:Nat)(es:Array (Int×aD)):(qc w a ep es).length=es.size:=by
 rw[(JW w a ep es).length_eq,fC]
def slotAt (w:aX)(t:dJ):Nat->Nat
 |0=>0
 |i+1=>if eR w=af then 0 else t.place.getD i 0+1
theorem LN (w:aX)(t:dJ)(i:Nat):slotAt w t (i+1)=if eR w=af then 0 else t.place.getD i 0+1:=rfl
theorem J5{t:dJ}(hr:lW t.place)(hb:eR w=ag)(hi:i<=t.place.size):below t.place (slotAt w t i)=i:=by
 obtain⟨b1,b2,b3⟩:=FI hr (slotAt w t i);cases i with
 |zero=>
  rcases Nat.eq_zero_or_pos (below t.place (slotAt w t 0)) with e|e
  .exact e
  .have:=b2 0 e (t.place[0]'(by omega)) (mO _)
   exact absurd this (by simp[slotAt])
 |succ i=>
  have hv:t.place[i]?=aa (t.place[i]'(by omega)):=mO _
  have es:slotAt w t (i+1)=t.place[i]'(by omega)+1:=by
   rw[LN,if_neg (by rw[hb];simp)]
   simp[Array.getD,show i<t.place.size by omega]
  rw[es] at b1 b2 b3 ⊢;rcases BJ (below t.place (t.place[i]'(by omega)+1)) (i+1) with c|c|c
  .have:=b3 i (by omega) _ hv
   omega
  .exact c
  .have hv2:t.place[i+1]?=aa (t.place[i+1]'(by omega)):=mO _
   have h1:=b2 (i+1) c _ hv2;have h2:=hr i (i+1) _ _ (by omega) hv hv2
   omega
section
variable {t:dJ}
theorem Hx (S:WSet w s.heap a o es ep t)(ld:eR w=ag->(!t.plain&&decide (es.size > 1))=ag)(hi:i<=es.size){Q:Option (aD×Nat)->aH->Prop}
  (q:Q (((qc w a ep es)[i]?).map λe=>(e.2,slotAt w t (i+1))) s):aM (aO prog w) A (setNext a (slotAt w t i) i ep) Q E s:=by
 unfold setNext;rw[10];unfold setsByText;refine aF (aF (wR (aL ?_)));by_cases hb:eR w=af
 .refine pT (λ_=>?_) (λz=>absurd hb z)
  rw[if_neg (by simp)]
  rw[20];unfold setWalk;rw[10];unfold setsByText;refine aF (aF (wR (aL ?_)));refine pT (λ_=>?_) (λz=>absurd hb z)
  refine aF (wR (aL (aL ?_)));have e1:qc w a ep es=(pickOrder (w.params.setOrder a ep) es).toList:=by unfold qc;rw[if_pos hb]
  have e2:∀ j,slotAt w t j=0:=λj=>by
   cases j with
   |zero=>rfl
   |succ j=>rw[LN,if_pos hb]
  rw[e1,e2 (i+1),nU] at q;rw[e2 i];exact q
 .refine pT (λz=>absurd z hb) (λ_=>?_)
  have T1:eR w=ag:=by simpa using hb
  refine pT (λz=>?_) (λ_=>?_)
  .have z':(!t.plain&&decide (es.size > 1))=af:=z;rw[ld T1] at z';cases z'
  .refine aF (show aM _ _ (if (!t.led&&!es.isEmpty)=af then unsupported "set:maker-not-led" else pure ()) _ _ _ from ?_)
   rw[if_neg (by rw[S.led,T1];simp)]
   refine aL (aL ?_);have e1:qc w a ep es=es.toList:=by unfold qc;rw[if_neg hb]
   have hz:=S.fine.good.len;have e3:below t.place (slotAt w t i)=i:=J5 S.fine.good.ris T1 (by omega)
   rw[e1,nU] at q;rw[e3];by_cases c:i<es.size
   .have p1:es[i]?=aa (es[i]'c):=mO _;have p2:t.place[i]?=aa (t.place[i]'(by omega)):=mO _
    have p3:slotAt w t (i+1)=t.place[i]'(by omega)+1:=by
     rw[LN,if_neg hb];simp[Array.getD,show i<t.place.size by omega]
    rw[p1,p3] at q;rw[p1,p2];exact q
   .have p1:es[i]?=ae:=Kh (by omega)
    rw[p1] at q;rw[p1];exact q
abbrev wH (h:aQ)(r a:aC)(k i n ep:Nat):Prop:=h.get? r=aa { cls:=.type "set_iterator",dict:=ae,data:=.fields #[dZ k,dZ i,.ref a,dZ n,dZ ep],slots:=#[] }
end
theorem Ac0:QO "set_iterator" "__next__" "set_iterator.__next__":=
 .of (owner:="set_iterator") (n:="__next__") (by rw[wU,wY];kernel_rfl) (by rw[0]) (by rw[0]) (by rw[0])
  (by first|exact .inl (by rw[0])|exact .inr (by rw[0])) (by rw[rJ];kernel_rfl)
theorem Et:rL table "set_iterator.__next__" = aa Builtin.«set_iterator.__next__»:=QI (by kernel_rfl)
theorem Ar:Manifest.owners.lookup (String.ofList "set_iterator".toList.reverse.reverse)=aa Manifest.sig_set_iterator:=by kernel_rfl
theorem En (a:aD):uA "set_iterator.__next__" ⟨[a],[]⟩:=by
 unfold uA;rw[QD (id:="set_iterator.__next__") (n:="__next__".toList.reverse) (o:="set_iterator".toList.reverse) (by kernel_rfl) Ar]
 kernel_rfl
theorem Eg:QO "set_iterator" "__iter__" "set_iterator.__iter__":=
 .of (owner:="set_iterator") (n:="__iter__") (by rw[wU,wY];kernel_rfl) (by rw[0]) (by rw[0]) (by rw[0])
  (by first|exact .inl (by rw[0])|exact .inr (by rw[0])) (by rw[rJ];kernel_rfl)
theorem p0:rL table "set_iterator.__iter__" = aa Builtin.«dict_keyiterator.__iter__»:=
 GK (id':="dict_keyiterator.__iter__") (by kernel_rfl) (by first|rfl|decide +kernel|(unfold QM;simp +decide [QL])) (by rw[0]) (by kernel_rfl)
theorem l6 (a:aD):uA "set_iterator.__iter__" ⟨[a],[]⟩:=by
 unfold uA;rw[QD (id:="set_iterator.__iter__") (n:="__iter__".toList.reverse) (o:="set_iterator".toList.reverse) (by kernel_rfl) Ar]
 kernel_rfl
theorem l4:rL table "set.__iter__" = aa Builtin.«frozenset.__iter__»:=
 GK (id':="frozenset.__iter__") (by kernel_rfl) (by first|rfl|decide +kernel|(unfold QM;simp +decide [QL])) (by rw[0]) (by kernel_rfl)
section
variable {t:dJ}
theorem Xw (S:WSet w s.heap a o es ep t)(ld:eR w=ag->(!t.plain&&decide (es.size > 1))=ag)(hr:wH s.heap r a (slotAt w t i) i es.size ep){e:Int×aD}(he:(qc w a ep es)[i]?=aa e){Q:Option aD->aH->Prop}
  (q:∀ h',wH h' r a (slotAt w t (i+1)) (i+1) es.size ep->mL r s.heap h'->Q (aa e.2) { s with heap:=h' }):aM (aO prog w) A (iA (.ref r)) Q E s:=by
 have ty:s.TypeIs (.ref r) "set_iterator":=⟨_,hr,rfl⟩;have hi:i<es.size:=by
  rw[<-yT w a ep es];exact(cX.1 he).1
 unfold iA;refine aF (tY (mG ty Ac0 (gH Ac0 ty Et ?_ (En _))));show aM _ _ (fieldsOf (.ref r)>>=_) _ _ s;refine aF (PX hr rfl ?_);refine aF (rH S.get S.data S.fine.fits ?_);rw[if_neg (by simp)]
 show aM _ _ (setNext a ((slotAt w t i:Int)).toNat ((i:Int)).toNat ((ep:Int)).toNat>>=_) _ _ s;rw[nQ,nQ,nQ];refine aF (Hx S ld (by omega) ?_)
 rw[he];refine aF (pS hr (by simp) λh1 g1 yq=>?_)
 refine aF (pS g1 (by simp) λh2 g2 V'=>aL ⟨e.2,rfl,aL (q h2 ?_ (yq.trans V'))⟩)
 exact g2
theorem Xk (hh:A.handled=ae)(S:WSet w s.heap a o es ep t)(ld:eR w=ag->(!t.plain&&decide (es.size > 1))=ag)(hr:wH s.heap r a (slotAt w t es.size) es.size es.size ep){Q:Option aD->aH->Prop}
  (q:∀ h',(∀ b ob,b≠r->s.heap.get? b=aa ob->h'.get? b=aa ob)->Q ae { s with heap:=h' }):aM (aO prog w) A (iA (.ref r)) Q E s:=by
 have ty:s.TypeIs (.ref r) "set_iterator":=⟨_,hr,rfl⟩;unfold iA;refine aF (tY (mG ty Ac0 (gH Ac0 ty Et ?_ (En _))));show aM _ _ (fieldsOf (.ref r)>>=_) _ _ s;refine aF (PX hr rfl ?_);refine aF (rH S.get S.data S.fine.fits ?_);rw[if_neg (by simp)]
 show aM _ _ (setNext a ((slotAt w t es.size:Int)).toNat ((es.size:Int)).toNat ((ep:Int)).toNat>>=_) _ _ s;rw[nQ,nQ,nQ];refine aF (Hx S ld (bD _) ?_);rw[xJ (by rw[yT];exact bD _)]
 refine aF (pS hr (by simp) λh1 g1 yq=>?_)
 rw[20];simp only[newExc,newTuple];refine aF (jZ ?_ (by size_fits))
 refine aF (wQ (by first|rfl|(simp only[QG];rfl)) ?_)
 refine jZ ?_ (by size_fits)
 simp only[raiseNew];refine aF (PV ?_)
 first|rw[show A.in1.handled=ae from hh]|rw[hh]
 refine aF (aL (PP ?_));refine aF (pU ⟨_,cV _ rfl,rfl⟩ QF ?_);exact aL (q _ λb ob ne e=>bT _ (bT _ ((yq.2 b ne).trans e)))
theorem Wz {k:Nat}(hr:wH s.heap r a k i n ep)(q:Q (.ref r) s):aM (aO prog w) A (nH (.ref r)) Q E s:=by
 have ty:s.TypeIs (.ref r) "set_iterator":=⟨_,hr,rfl⟩;refine GD ty Eg (gH Eg ty p0 ?_ (l6 _));exact aL ⟨_,rfl,"set_iterator",_,ty,Ac0.lookup,q⟩
theorem Yt (S:WSet w s.heap a o es ep t)(ld:eR w=ag->(!t.plain&&decide (es.size > 1))=ag)
  (q:Q (.ref s.heap.objs.size) { s with heap:=s.heap.push { cls:=.type "set_iterator",data:=.fields #[dZ (0:Nat),dZ (0:Nat),.ref a,dZ (es.size:Nat),dZ (ep:Nat)] } }):aM (aO prog w) A (nH (.ref a)) Q E s:=by
 have ty:s.TypeIs (.ref a) "set":=⟨_,S.get,S.exact.1⟩;refine GD ty F.slot_set_iter (gH F.slot_set_iter ty l4 ?_ (F.args_set_iter_1 _));show aM _ _ (SG a>>=_) _ _ s;unfold SG;refine aF (aF (rH S.get S.data S.fine.fits (aL ?_)));rw[20];unfold setDrawn;rw[10];unfold setsByText;refine aF (aF (wR (aL ?_)));refine aL ?_;refine pT (λz=>?_) (λ_=>aF (aL ?_))
 .have z':(!(w.params.followText "set-order")&&(!t.plain&&decide (es.size > 1)))=af:=z;cases hb:eR w with
  |true=>
   have T1:w.params.followText "set-order" = af:=hb;rw[T1] at z';cases z'
  |false=>
   rw[ld hb] at z';simp at z'
 .refine aF (Hz S.get S.data S.fine.fits ?_);exact aF (jZ (aL ⟨_,rfl,"set_iterator",_,⟨_,cV _ rfl,rfl⟩,Ac0.lookup,q⟩) (by size_fits))
theorem D1 (hh:A.handled=ae)(r a:aC)(ne:a≠r){h0:aQ}(S:WSet w h0 a o es ep t)(ld:eR w=ag->(!t.plain&&decide (es.size > 1))=ag) :
  Walks prog w A r [r,a] [r] es.size (λi v=>∃ e,(qc w a ep es)[i]?=aa e/\v=e.2) (λi h=>wH h r a (slotAt w t i) i es.size ep/\h.get? a=aa o) where
 sub:=λb hb=>by rw[cB.1 hb];exact bE
 frame:=λ_ _ _ st hk=>⟨hk r bE _ st.1,hk a (bH _ bE) _ st.2⟩
 item:=λi s Q E hi st hQ=>by
  have S':WSet w s.heap a o es ep t:=⟨st.2,S.exact,S.data,S.fine,S.led⟩;have hx:(qc w a ep es)[i]?=aa ((qc w a ep es)[i]'(by rw[yT];exact hi)):=fO _
  exact Xw S' ld st.1 hx λh' ni sb=>hQ _ h' s.toks ⟨_,hx,rfl⟩ ⟨ni,(sb.2 a ne).trans st.2⟩ λb o hb e=>(sb.2 b (λz=>hb (cB.2 z))).trans e
 done:=λs Q E st hQ=>by
  have S':WSet w s.heap a o es ep t:=⟨st.2,S.exact,S.data,S.fine,S.led⟩;exact Xk hh S' ld st.1 λh' he=>hQ h' s.toks λb ob hb e=>he b ob (λz=>hb (cB.2 z)) e
 self:=λ_ _ _ _ st hQ=>Wz st.1 hQ
end
def HJ (K:aJ)(a:aC)(n:Nat):It:=
 ⟨λi H=>∃ xs,SqL K H a xs/\xs.length=n/\i<n,λi H x H'=>H'=H/\∀ xs,SqL K H a xs->xs[n-1-i]?=aa x,λi H=>n<=i⟩
theorem Wr {P:bG}(a r:aC)(n:Nat):Turn P w K tg (HJ K a n) [r] r (λi h=>sG h r a ((n:Int)-1-i)) where
 mem:=cB.2 rfl
 obj:=λi h st b hb=>by
  rw[cB.1 hb];exact⟨_,st,λv z=>by
   have z':Data.fields _=Data.cell v:=z;cases z'⟩
 keep:=λi h h' st k=>k r (cB.2 rfl) _ st
 item:=by
  rw[3];obtain⟨xs,hq,hn,hi⟩:=hg;obtain⟨its,rv,p,hz⟩:=I.list hq;have hl:=rv.length;obtain⟨x,hx⟩:∃ x,xs[n-1-i]?=aa x:=⟨_,fO (by omega)⟩
  obtain⟨u,hu,ru⟩:=rv.get hx;have ei:((n:Int)-1-i)=((n-1-i:Nat):Int):=by omega
  rw[ei] at st;refine Yr st p.isList (by simpa using hu) λh' ni sb=>?_
  have I1:Inv X ah Z H { s with heap:=h' }:=I.turnM (t':=s.toks) hf λb o nb e=>sb.extBut b o (λq=>nb (cB.2 q)) e
  have wE:sG h' r a ((n:Int)-1-((i+1:Nat):Int)):=by
   have e2:((n:Int)-1-((i+1:Nat):Int))=((n-1-i:Nat):Int)-1:=by omega
   rw[e2];exact ni
  exact⟨u,rfl,AO wE rfl rfl (by decide) ⟨x,H,I1,ru,⟨rfl,λqm h=>by rw[I.list_inj h hq];exact hx⟩,wE,λb hb=>(hf b hb).1⟩⟩
 done:=by
  rw[3];have hg':n<=i:=hg;exact Ym (I.ok.hd hc) st (by omega) λh' eb=>⟨rfl,I.turnM (t':=s.toks) hf λb o nb e=>eb b o e⟩
 self:=λ_ _ _ _ _ st h=>ZI st h
section
variable {a:aR}{p:bQ}
def Lb (K:aJ)(ta:TA):TI:=λZ H R=>ta Z H λvs H1=>∃ a1 xs,vs=[.ref a1]/\SqL K H1 a1 xs/\R (HJ K a1 xs.length) H1
theorem Pu {ta:TA}(hg:Gl X "reversed")(hm:X.mg "reversed" = ae)(ha:PA X [a] ta)(hs:bJ [a] X.env=[(ag,bK a X.env)]:=by rfl):PI X tg (.Call (.Name "reversed" p) [a] [] pos) (Lb X.K ta):=by
 intro ah s Z H R I h;refine Call_ (sU I hg hm boot_reversed (GO (bf (ha pos ah s Z H _ I h) λus s1 ⟨vs,H1,I1,r1,q1⟩=>?_) hs (by rfl)))
 obtain⟨a1,xs,rfl,k1,q⟩:=q1;obtain⟨u,rfl,ru⟩:=vals1 r1;cases ru;obtain⟨its,rv,⟨o,n,ho,qd,vm,Q2⟩,hz⟩:=I1.list k1;have hl:=rv.length;obtain⟨c,dct,dat,sl⟩:=o;simp only at qd vm Q2;subst qd vm Q2;have g:sG (s1.heap.push { cls:=.type "list_reverseiterator",data:=.fields #[.ref a1,dZ ((its.toArray.size:Int)-1)] }) s1.heap.objs.size a1 ((its.toArray.size:Int)-1):=cV _ rfl;refine Vy ho (ZI g ?_);refine⟨s1.heap.objs.size,[s1.heap.objs.size],_,_,H1,rfl,I1.kept λb o e=>bT _ e,Wr a1 _ xs.length,?_,λb hb=>?_,q⟩
 .have e:((xs.length:Int)-1-((0:Nat):Int))=((its.toArray.size:Int)-1):=by
   rw[dU,hl];simp
  rw[e];exact g
 .rw[cB.1 hb];exact I1.fpOk (bD _) (I1.hok.fresh (bD _))
def iRv (fa:AF):AF:=λY=>(fa Y).bind λds=>match ds with
 |[.list xs]=>aa xs.reverse
 |_=>ae
theorem Us{a1:aC}(h1:∀ H2,Ext B H2->SqL K H2 a1 xs)(r1:Aao K B ds xs):xc K B (HJ K a1 xs.length) ds.reverse:=λi H2 x2=>by
 have hl:=r1.length;refine⟨λd hd=>?_,λe=>?_⟩
 .have hi:i<ds.length:=by
   have:=(cX.1 hd).1;simpa using this
  rw[List.getElem?_reverse hi] at hd;obtain⟨v1,g1,g2⟩:=r1.get hd;refine⟨⟨xs,h1 H2 x2,rfl,by omega⟩,?_⟩
  rintro x H3 ⟨rfl,hx⟩;have:=hx xs (h1 _ x2);rw[hl] at this;obtain rfl:v1=x:=eO (g1.symm.trans this);exact⟨Ext.refl,λP2 _ xb=>g2.ext xb⟩
 .have e':ds.length=i:=by simpa using e
  show xs.length<=i;omega
theorem Qt {fa:AF}(hg:Gl X "reversed")(hm:X.mg "reversed" = ae)(ha:DA X [a] fa)(hs:bJ [a] X.env=[(ag,bK a X.env)]:=by rfl) :
  DI X tg (.Call (.Name "reversed" p) [a] [] pos) (iRv fa):=PI.imp (Pu hg hm ha hs) λZ H R gh=>by
 obtain⟨P,Y,ds,hP,rs,ef,k⟩:=gh;obtain⟨as,e1,bx⟩:=ao ef;clear ef;split at bx
 .cases bx;refine⟨P,Y,_,hP,rs,e1,λvs H1 x1 r1=>?_⟩
  obtain⟨v,rfl,q1⟩:=fV r1;obtain⟨a1,xs,rfl,hr,rr⟩:=Aa6.1 q1;exact⟨a1,xs,rfl,Aap.sqL hr,k _ H1 x1 (Us (λH2 x2=>x2.sqL hr) rr)⟩
 .cases bx
end
theorem E4(hh:A.handled=ae)(hl:s.heap.IsList l aj)
  (hd:∀ (j:Nat) v,aj[j]?=aa v->∃ q t,ns[j]?=aa q/\v=.int q t) (av:aj.size<=75) (nh:ns.length=aj.size)
  (h:∀ (h':aQ) (tk:Nat),s.toks<=tk->A8h prog w h' s.heap.objs.size (jD ns)->(∀ b o,b<s.heap.objs.size->s.heap.get? b=aa o->h'.get? b=aa o)->Q (.ref s.heap.objs.size) { s with heap:=h',toks:=tk }) :
  aM (aO prog w) A (call (.type "set") [.ref l]) Q E s:=
 ZW hh hl (λ_ _ _ _ _ W nS st _ gI q=>A6 W s.heap.objs.size nS ns av hd (aj.size-0) 0 _ rfl (eD _) st (Xn gI) λs' hm S'=>q s' hm (by rw[<-rQ (l:=ns),nh];exact S')) h
theorem Yb{Q:Bool->aH->Prop}(ty:s.TypeIs (.ref a) "set")(q:Q ag s):aM (aO prog w) A (Ke (.ref a)) Q E s:=by
 unfold Ke;refine aF (tX ty F.slot_set_len.lookup ?_);generalize hid:("set.__len__" : String)=id0
 wp_delta
 rw[show splitId id0=aa ("set","__len__") from by subst hid;decide +kernel]
 subst hid;refine aF (pU ty sub_set_self ?_);refine pT (λo0=>absurd o0 (by decide)) (λ_=>?_)
 refine pT (λ_=>?_) (λo0=>absurd (by rw[0]) o0)
 refine aF (oI ty ?_);exact aL q
set_option maxHeartbeats 4000000 in
theorem Dr{t:dJ}(hh:A.handled=ae)(S:WSet w s.heap a o es ep t)(ld:eR w=ag->(!t.plain&&decide (es.size > 1))=ag){Q:List aD->aH->Prop}
  (q:∀ h' tk,s.toks<=tk->s.heap.objs.size<h'.objs.size->(∀ b ob,s.heap.get? b=aa ob->h'.get? b=aa ob)->Q ((qc w a ep es).map (·.2)) { s with heap:=h',toks:=tk }):aM (aO prog w) A (collect (.ref a)) Q E s:=by
 have aS:=bU S.get;unfold collect;refine aF (wpAny_runValue (kQ F.entry_proto_collect ?_));rw[mP F.plain_proto_collect _];refine aF (show aM _ A.in1 (newList []) _ _ s from jZ ?_)
 refine aL ⟨oM F.plain_list_iadd _,kQ F.entry_list_iadd ?_⟩;rw[mP F.plain_list_iadd _];generalize hh1:s.heap.push { cls:=.type "list",data:=.seq ([]:List aD).toArray }=h1;have k1:∀ b ob,s.heap.get? b=aa ob->h1.get? b=aa ob:=λb ob e=>by rw[<-hh1];exact bT _ e
 have z1:h1.objs.size=s.heap.objs.size+1:=by rw[<-hh1];exact uI _ _
 have g1:h1.get? s.heap.objs.size=aa { cls:=.type "list",data:=.seq ([]:List aD).toArray }:=by rw[<-hh1];exact cV _ rfl
 have S1:WSet w h1 a o es ep t:=⟨k1 _ _ S.get,S.exact,S.data,S.fine,S.led⟩;show aM _ A.in1 (BV (.ref s.heap.objs.size) (.ref a) (.ref s.heap.objs.size)) _ _ _;unfold BV;refine aF (oI ⟨_,S1.get,S1.exact.1⟩ ?_);have n1:SE (.ref s.heap.objs.size) (.ref a)=ag:=by simp[SE,mI aS]
 rw[if_neg (by rw[n1];decide)]
 refine aF (Yt S1 ld ?_);generalize hh2:h1.push { cls:=.type "set_iterator",data:=.fields #[dZ (0:Nat),dZ (0:Nat),.ref a,dZ (es.size:Nat),dZ (ep:Nat)] }=h2;have k2:∀ b ob,h1.get? b=aa ob->h2.get? b=aa ob:=λb ob e=>by rw[<-hh2];exact bT _ e
 have gr:wH h2 h1.objs.size a (slotAt w t 0) 0 es.size ep:=by rw[<-hh2];exact cV _ rfl
 have S2:WSet w h2 a o es ep t:=⟨k2 _ _ S1.get,S.exact,S.data,S.fine,S.led⟩;have ne:a≠h1.objs.size:=by rw[z1];exact cQ (BK aS)
 refine aF (fA (Yb ⟨_,S2.get,S2.exact.1⟩ ?_));refine pT (λ_=>?_) (λz=>absurd (by rw[0]) z)
 refine aF (oK ?_);refine aF (show aM _ A.in1 (GG s.heap.objs.size (·.push .none)>>=λ_=>GG s.heap.objs.size (·.pop)) _ _ _ from ?_)
 refine aF (GC (k2 _ _ g1) rfl ?_);have hS2:=rV (gK (·.push eJ)) (k2 _ _ g1) rfl;refine GC hS2 rfl ?_;have hS3:=rV (gK (·.pop)) hS2 rfl;have oth:∀ b ob,b≠s.heap.objs.size->h2.get? b=aa ob->((h2.update s.heap.objs.size (gK (·.push eJ))).update s.heap.objs.size (gK (·.pop))).get? b=aa ob:=
  λb ob hb e=>(xQ _ _ (gV hb)).trans ((xQ _ _ (gV hb)).trans e)
 have nS:s.heap.objs.size∉[h1.objs.size,a]:=by
  intro z;rcases cO.1 z with z|z
  .rw[z1] at z;exact absurd z (cQ (Jb _))
  .exact absurd (cB.1 z) (mI aS)
 have few:=S.fine.few;refine aL ⟨oM F.plain_extend_loop _,codeAny_extend_loopS ((D1 (by simp[hh]) h1.objs.size a ne S2 ld).toS) (by rw[kA];omega) _ nS _ es.size 0 _ _ _ rfl (eD _) ⟨oth _ _ (by rw[z1];exact Nat.succ_ne_self _) gr,oth _ _ (cQ aS) S2.get⟩ hS3 (ItemsOf.nil _) λs' cy c' hm um gm=>?_⟩
 refine aF (wpAny_load um (aL ?_));obtain⟨h',g',d',Q1,R5⟩:=s';obtain rfl:g'=s.gens:=hm.gens;obtain rfl:d'=s.drawn:=hm.drawn;obtain rfl:R5=s.os:=hm.os;have eacc:cy.toList=(qc w a ep es).map (·.2):=by
  apply List.ext_getElem?;intro j;rw[eE,nU];by_cases hj:j<es.size
  .have e1:cy[j]?=aa (cy[j]'(by rw[gm.1];exact hj)):=mO _
   obtain⟨e,he,ev⟩:=gm.2 j _ e1;rw[e1,he,ev]
   rfl
  .rw[Kh (by rw[gm.1];omega),xJ (by rw[yT];omega)]
   rfl
 rw[eacc];refine q h' Q1 hm.toks (bU um) λb ob e=>?_
 have hb:=bU e;refine hm.heap b ob (λz=>?_) (oth b ob (cQ hb) (k2 _ _ (k1 _ _ e)))
 rcases cO.1 z with z|z
 .exact absurd z (cQ hb)
 .have z2:=cB.1 z;rw[z1] at z2;exact absurd z2 (cQ (BK hb))
theorem Vl(p:cN (ElI prog w) es.toList ns):∃ iu,uH ((qc w a ep es).map (·.2)) iu/\iu.Perm ns:=by
 obtain⟨iu,q,r⟩:=vI (JW w a ep es) p;refine⟨iu,?_,r⟩;generalize qc w a ep es=l at q;clear r p;induction q with
 |nil=>exact .nil
 |cons h t ih=>
  obtain⟨_,tk,e2⟩:=h;rw[dB,e2];exact .cons _ tk ih
set_option maxHeartbeats 4000000 in
theorem J4(hh:A.handled=ae)(S:A8h prog w s.heap a ns)(qf:ns.length<64)
  (q:∀ h' tk l e (out:List aD) iu,s.toks<=tk->(∀ b ob,s.heap.get? b=aa ob->h'.get? b=aa ob)->s.heap.objs.size<=l->uH out iu->iu.Perm ns->iu.Pairwise (· <= ·)->h'.get? l=aa (fN "list" out.toArray e)->Q (.ref l) { s with heap:=h',toks:=tk }) :
  aM (aO prog w) A (call (.builtin "sorted") [.ref a]) Q E s:=by
 obtain⟨o,es,ep,t,ns0,S,pm⟩:=S;obtain⟨ns1,hI,p1⟩:=Vl S.els;have av:((qc w a ep es).map (·.2)).length<64:=by
  have:=hI.length;rw[this,p1.length_eq,pm.length_eq];exact qf
 refine HE kind_sorted plain_sorted entry_sorted (args_sorted1 _) ?_;unfold Builtin.«sorted»;refine aF (aL (aF (Dr (by simp[hh]) S.wset (λ_=>by rw[S.plain];rfl) λh1 tk M' xp k1=>aF (AV ?_ (by rw[kA];omega)))))
 generalize(qc w a ep es).map (·.2)=vs at hI av;have tz:(h1.push (fN "list" vs.toArray 0)).get? h1.objs.size=aa (fN "list" vs.toArray 0):=cV _ rfl;refine aF (fA (gH QC ⟨_,tz,rfl⟩ QH (list_sort_tree tz hI av λout iu a1 a2 a3=>⟨_,rfl,?_⟩) (QK _)))
 refine aL ⟨_,rfl,?_⟩;obtain⟨e,he⟩:=sortedHeap_at tz;refine q _ tk h1.objs.size e out.toList iu M' (λb ob eb=>?_) (oQ xp) a1 (a2.trans (p1.trans pm)) a3 he
 have hb:=bU (k1 b ob eb);rw[sortedHeap_old (cQ hb) (by rw[size_push'];exact BK hb),RU _ _ _ (cQ hb)]
 exact k1 b ob eb
theorem Sv {k k':aI}{v:aD}(r:RelV (kV k) u)(r':RelV (kV k') v):RB u v (decide (k=k')):=by
 intro prog w A E s Q q;cases k with
 |inl i=>
  obtain⟨t,rfl⟩:=(show ∃ t,u=rN i t from r)
  cases k' with
  |inl j=>
   obtain⟨t',rfl⟩:=(show ∃ t,v=rN j t from r')
   refine SeqAt.EqAt.int_int i t j t' prog w E Q ?_;have:(i==j)=decide ((rO i:aI)=rO j):=by
    rw[lV];simp
   rw[this];exact q
  |inr y=>
   obtain⟨t',rfl⟩:=(show ∃ t,v=uB y t from r')
   exact SeqAt.EqAt.int_str i t y t' prog w E Q (by simpa using q)
 |inr x=>
  obtain⟨t,rfl⟩:=(show ∃ t,u=uB x t from r)
  cases k' with
  |inl j=>
   obtain⟨t',rfl⟩:=(show ∃ t,v=rN j t from r')
   exact SeqAt.EqAt.str_int x t j t' prog w E Q (by simpa using q)
  |inr y=>
   obtain⟨t',rfl⟩:=(show ∃ t,v=uB y t from r')
   refine SeqAt.EqAt.str_str x t y t' prog w E Q ?_;have:(x==y)=decide ((jA x:aI)=jA y):=by
    rw[lV];simp
   rw[this];exact q
theorem Vs (l:aC)(us:Array aD)(n:Nat)(dd:Option aC)(sl:Array (Option aD))(x:aD)(e:aD->Bool)(he:∀ y,y∈us->RB y x (e y))(de:Int)(j:Nat)(hj:j<us.size)(ht:(j:Int)<de)(hit:e us[j]=af) :
  ∀ (k i:Nat),j-i=k->i<=j->(∀ m (hm:m<us.size),i<=m->m<j->e us[m]=ag)->Meets (Builtin.«list.index.loop» ⟨[.ref l,x,dZ i,dZ de],[]⟩)
   (λ_ R s=>s.heap.get? l=aa { cls:=.type "list",dict:=dd,data:=.seq us n,slots:=sl }/\R (.ok (.ret (.int j s.toks))) { s with toks:=s.toks+1 }):=by
 intro k;induction k with
 |zero=>
  intro i hk oy uf prog w A R s h;obtain⟨hp,g,d,tk,os⟩:=s;obtain⟨hl,h⟩:=h;obtain rfl:i=j:=by omega
  wp_walk using wpAny_loadPart' hl
  rw[show(if (i:Int)<de then us[((i:Nat):Int).toNat]? else ae)=aa us[i] by simp[ht,hj]]
  refine aF (he _ (Array.getElem_mem hj) prog w _ _ _ _ ?_);rw[hit]
  wp_walk
  exact h
 |succ k ih=>
  intro i hk oy uf prog w A R s h;obtain⟨hp,g,d,tk,os⟩:=s;obtain⟨hl,h⟩:=h;have lt:i<us.size:=by omega
  have lo:(i:Int)<de:=by omega
  wp_walk using wpAny_loadPart' hl
  rw[show(if (i:Int)<de then us[((i:Nat):Int).toNat]? else ae)=aa us[i] by simp[lo,lt]]
  refine aF (he _ (Array.getElem_mem lt) prog w _ _ _ _ ?_);rw[uf i lt (bD _) (by omega)]
  wp_walk
  rw[show((i:Int)+1)=((i+1:Nat):Int) by push_cast;rfl]
  refine⟨oM RA _,kQ MeetsSeq.entry_index_loop ?_⟩;rw[mP RA _];exact ih (i+1) (by omega) (by omega) (λm hm h1 h2=>uf m hm (by omega) h2) prog w A R _ ⟨hl,h⟩
theorem D7 (l:aC)(us:Array aD)(n:Nat)(dd:Option aC)(sl:Array (Option aD))(x:aD)(e:aD->Bool)(he:∀ y,y∈us->RB y x (e y))(j:Nat)(hj:j<us.size)(small:(j:Int)<2^63-1)(hit:e us[j]=af)(uf:∀ m (hm:m<us.size),m<j->e us[m]=ag) :
  Meets (Builtin.«list.index» ⟨[.ref l,x],[]⟩) (λ_ R s=>s.heap.get? l=aa { cls:=.type "list",dict:=dd,data:=.seq us n,slots:=sl }/\R (.ok (.ret (.int j s.toks))) { s with toks:=s.toks+1 }):=by
 intro prog w A R s h;obtain⟨hp,g,d,tk,os⟩:=s;obtain⟨hl,h⟩:=h
 wp_walk using wpAny_loadPart' hl
 rw[show((λi:Int=>if i<0 then max 0 (i+(us.size:Int)) else i) ((ae:Option Int).getD 0))=((0:Nat):Int) by simp,show((λi:Int=>if i<0 then max 0 (i+(us.size:Int)) else i) ((ae:Option Int).getD (2^63-1)))=2^63-1 by simp]
 refine⟨oM RA _,kQ MeetsSeq.entry_index_loop ?_⟩;rw[mP RA _];exact Vs l us n dd sl x e he (2^63-1) j hj small hit _ 0 rfl (eD _) (λm hm _ h2=>uf m hm h2) prog w A R _ ⟨hl,h⟩
def vg (ks:List aI)(k:aI):Option Nat:=ks.findIdx? λy=>decide (y=k)
theorem YN {ks:List aI}{k:aI}(h:vg ks k=aa j):ks[j]?=aa k/\∀ m,m<j->ks[m]?≠aa k:=by
 obtain⟨hj,h1,h2⟩:=O8.1 h;refine⟨by rw[fO hj,of_decide_eq_true h1],λm hm e=>?_⟩
 have:=h2 m hm;have hl:m<ks.length:=by omega
 rw[fO hl] at e;exact this (decide_eq_true (eO e))
theorem FB:∀ {ks:List aI} {us:List aD},Vals (ks.map kV) us->∀ (m:Nat) (hm:m<us.length),∃ k,ks[m]?=aa k/\RelV (kV k) us[m]
 |[],_,.nil,m,hm=>by simp at hm
 |k::ks,_::us,.cons h t,0,hm=>⟨k,rfl,h⟩
 |k::ks,_::us,.cons h t,m+1,hm=>by
  obtain⟨k',e,r⟩:=FB t m (by simpa using hm)
  exact⟨k',by simpa using e,by simpa using r⟩
def xi (k:aI)(u:aD):Bool:=match k,u with
 |.inl i,.int j _=>decide (j=i)
 |.inr x,.str y _=>decide (y=x)
 |_,_=>ag
theorem IT {k k':aI}(r:RelV (kV k) u):xi k' u=decide (k=k'):=by
 cases k with
 |inl i=>
  obtain⟨t,rfl⟩:=(show ∃ t,u=rN i t from r)
  cases k' with
  |inl j=>simp[xi]
  |inr y=>simp[xi]
 |inr x=>
  obtain⟨t,rfl⟩:=(show ∃ t,u=uB x t from r)
  cases k' with
  |inl j=>simp[xi]
  |inr y=>simp[xi]
def Qv (K:aJ):V->List V->Hp->VK->Prop:=λx vs H Q=>∃ p ks k j,x=.ref p/\vs=[kV k]/\SqL K H p (ks.map kV)/\vg ks k=aa j/\Q (.int j) H
theorem Bd {ks:List aI}{k:aI}{us:List aD}{v:aD}(r:Vals (ks.map kV) us)(rk:RelV (kV k) v)(h:vg ks k=aa j) :
  (∀ y,y∈us.toArray->RB y v (xi k y))/\∃ hj:j<us.toArray.size,xi k us.toArray[j]=af/\∀ m (hm:m<us.toArray.size),m<j->xi k us.toArray[m]=ag:=by
 obtain⟨h1,h2⟩:=YN h;have hl:ks.length=us.length:=by simpa using r.length
 have hj:j<us.length:=by rw[<-hl];exact(cX.1 h1).1
 refine⟨λy m=>?_,by simpa using hj,?_,λm hm bz=>?_⟩
 .obtain⟨i,hi,rfl⟩:=rS (show y∈us by simpa using m)
  obtain⟨k',e,rr⟩:=FB r i hi;rw[IT rr];exact Sv rr rk
 .obtain⟨k',e,rr⟩:=FB r j hj;rw[h1] at e;cases e;show xi k us[j]=af;rw[IT rr];simp
 .have yz:m<us.length:=by simpa using hm
  obtain⟨k',e,rr⟩:=FB r m yz;show xi k us[m]=ag;rw[IT rr];exact decide_eq_false λq=>h2 m bz (q ▸ e)
theorem A0:MtR X "list.index" (Qv X.K):=by
 intro ah s Z H x vs v us Q I rx rv h;obtain⟨p,ks,k,j,rfl,rfl,hp,hj,q⟩:=h;cases rx;obtain⟨u,rfl,ru⟩:=rv.one;obtain⟨its,r,pl,hz⟩:=I.list hp;obtain⟨he,bz,hit,uf⟩:=Bd r ru hj;obtain⟨⟨cls,dd,data,sl⟩,n,e,hc,_,hd⟩:=pl;simp only at hc hd;subst hc hd;have hn:=sW;have lz:its.toArray.size<=sizeLine:=by rw[dU,<-r.length];exact hz
 refine call_meets O1 ⟨_,e,rfl⟩ PySem.F.entry_list_index (PySem.F.args_list_index_2 _ _) (D7 p its.toArray n dd sl u (xi k) he j bz (by omega) hit uf) ⟨e,⟨.int j,H,I.tok _,⟨_,rfl⟩,q⟩⟩
def mW:List aA->Option (List aI)
 |[]=>aa []
 |d::r=>(bR d).bind λk=>(mW r).bind λks=>aa (k::ks)
theorem MO:∀ {ds:List aA} {xs:List V} {ks:List aI},mW ds=aa ks->Aao K H ds xs->xs=ks.map kV
 |[],xs,ks,e,r=>by
  cases e;exact Aak.1 r
 |d::ds,xs,ks,e,r=>by
  obtain⟨k,e1,e2⟩:=ao (show((bR d).bind λk=>(mW ds).bind λks=>aa (k::ks))=aa ks from e)
  obtain⟨il,e3,e4⟩:=ao e2;cases e4;obtain⟨v,t,rfl,h1,h2⟩:=Aaf.1 r;rw[lC e1 h1,MO e3 h2]
  rfl
def IA (ds:List aA)(d:aA):Option aA:=(mW ds).bind λks=>(bR d).bind λk=>(vg ks k).bind λj=>aa (.int j)
section
variable {o k:aR}{fo:EF}
theorem C7{r:aA}(h:IA ds d=aa r):∃ ks kk j,mW ds=aa ks/\bR d=aa kk/\vg ks kk=aa j/\r=.int j:=by
 obtain⟨ks,e1,h⟩:=ao h;obtain⟨kk,e2,h⟩:=ao h;obtain⟨j,e3,h⟩:=ao h;cases h;exact⟨ks,kk,j,e1,e2,e3,rfl⟩
def JH:aA->aA->Option aA
 |.list ds,d=>IA ds d
 |_,_=>ae
theorem D9 (ho:DE X o fo)(hk:DE X k fk)(cf:rM o "index" X.env (bK o X.env)=bK o X.env:=by rfl)
  (gj:((fY bc (bJ (k::[]) X.env)).all (λx=>!x.1)&&(xA bc (wW [] X.env)).all (λx=>x.1.isSome)
   && decide ((k::[]).length+([]:List lT).length+(if ([]:List lT).isEmpty then 0 else 1)<30))=af:=by rfl)
  (cg:(ay.endLine==bc.line)=af:=by rfl) (hs:bJ (k::[]) X.env=(ag,bK k X.env)::bJ [] X.env:=by rfl) (ck:(fY bc (bJ [] X.env)).any (·.1)=ag:=by rfl) :
  DE X (.Call (.Attribute o "index" ay) [k] [] bc) (ai JH fo fk):=
 PE.imp (AR Ir O1 PySem.F.type_list_index A0 ho (hZ hk jK hs) cf gj cg hs ck) λZ H Q gh=>by
  obtain⟨P,Y,d,hP,rs,ef,kk⟩:=gh;obtain⟨d1,e1,bx⟩:=ao ef;obtain⟨d2,e2,bv⟩:=ao bx;cases d1 with
  |list ds=>
   obtain⟨ks,key,j,g1,g2,g3,rfl⟩:=C7 (show IA ds d2=aa d from bv)
   refine⟨P,Y,_,hP,rs,e1,dY λv H1 x1 r1=>?_⟩
   obtain⟨q,ys,rfl,hq,rr⟩:=Aa6.1 r1;obtain rfl:=MO g1 rr;refine⟨.inl ⟨rfl,_,Aap.sqL hq⟩,P,Y,d2,hP.ext x1,rs.ext (cT x1),e2,dY λu H2 x2 r2=>?_⟩
   exact⟨q,ks,key,j,rfl,by rw[lC g2 r2],x2.sqL (Aap.sqL hq),g3,kk.zero (x1.trans x2) (Aaj.2 rfl)⟩
  |_=>cases bv
theorem Di:∀ {ds:List aA} {xs:List V} (n:Nat),Aao K H ds xs->Aao K H (ds.eraseIdx n) (xs.eraseIdx n)
 |[],xs,n,r=>by
  rw[Aak.1 r];exact Aak.2 rfl
 |d::ds,xs,0,r=>by
  obtain⟨v,t,rfl,h1,h2⟩:=Aaf.1 r;exact h2
 |d::ds,xs,n+1,r=>by
  obtain⟨v,t,rfl,h1,h2⟩:=Aaf.1 r;exact Aaf.2 ⟨v,_,rfl,h1,Di n h2⟩
theorem EU {j pos}:DF 1 X (.Constant .none j pos) (eC .none):=PE.imp WL λZ H Q gh=>by
 rw[6];cases ef;exact k .non H [] Ext.refl .nil (λa m=>by simp at m) ⟨rfl,Abt.2 rfl⟩
end
def UH (prog:bG)(w:aX)(o:bB)(ns:List Int):Prop:=∃ es ep t iu,o.ExactSet/\o.data=.set es ep t/\Fine t es/\t.led=(!eR w)/\t.plain=af/\cN (ElI prog w) es.toList iu/\iu.Nodup/\iu.Perm ns
theorem G5 (hc:X.calm=af):Acy X (.type "set") (λxs H Q=>∃ p,∃ ns:List Int,xs=[.ref p]/\SqL X.K H p (ns.map V.int)/\ns.length<64/\∀ a o,H a=ae->UH X.prog X.w o (jD ns)->Q (.ref a) (au H a (yk a o))):=by
 rw[5];obtain⟨p,ns,rfl,hp,hl,q⟩:=h;rw[7];obtain⟨its,rv,pl,_⟩:=I.list hp;have e1:=rv.length;rw[cD] at e1;refine E4 (I.ok.hd hc) pl.isList (λj v ev=>?_) (by rw[dU];omega) (by rw[dU];omega) λh' tk ht S' hk=>?_
 .have ev':its[j]?=aa v:=by simpa using ev
  obtain⟨y,hy,ry⟩:=DM rv ev';rw[eE] at hy;obtain⟨n,hn,rfl⟩:=fZ.1 hy;obtain⟨t,rfl⟩:=ry;exact⟨n,t,hn,rfl⟩
 .obtain⟨o,es,ep,t,iu,S',pm⟩:=S';have I':=I.laid (t':=tk) (h':=h') (o:=yk s.heap.objs.size o) (λb u e=>hk b u (bU e) e) (bD _) (show Ab8 X.prog X.w _ _ _ (.ext _) from⟨S'.get,⟨o,S'.get⟩,λ_ _ e k=>k _ e⟩)
  exact⟨.ref s.heap.objs.size,_,I',rfl,q _ o I.fresh ⟨es,ep,t,iu,S'.exact,S'.data,S'.fine,S'.led,S'.plain,S'.els,S'.nod,pm⟩⟩
theorem Zh (hc:X.calm=af):Acy X (.builtin "sorted") (λxs H Q=>∃ a o,∃ ns:List Int,xs=[.ref a]/\H a=aa (yk a o)/\UH X.prog X.w o ns/\ns.length<64/\∀ (l:aC) (iu:List Int),H l=ae->iu.Perm ns->iu.Pairwise (· <= ·)->Q (.ref l) (au H l (.lst (iu.map V.int)))):=by
 rw[5];obtain⟨a,o,ns,rfl,ha,⟨es,ep,t,iu,hx,hd,hf,hl,hp,he,hn,pm⟩,qf,q⟩:=h;rw[7];obtain⟨g,_,_⟩:=(show Ab8 X.prog X.w H s.heap a (.ext _) from I.hok a _ ha)
 refine J4 (I.ok.hd hc) ⟨o,es,ep,t,iu,⟨g,hx,hd,hf,hl,hp,he,hn⟩,pm⟩ qf λh' tk l e out Z9 M' kept ur a1 a2 a3 zp=>?_
 have T2:=I.hok.fresh ur;have lz:(Z9.map V.int).length<=sizeLine:=by
  rw[cD,a2.length_eq,kA];omega
 exact⟨.ref l,_,I.laid (t':=tk) (o:=.lst (Z9.map V.int)) (λb ob g=>kept b ob g) ur ⟨lz,out,e,UK a1,zp⟩,rfl,q _ Z9 T2 a2 a3⟩
def KS:List aA->Option aA
 |[.list ds]=>(qL ds).bind λis=>if is.length<64 then aa (.list ((sortI (jD is)).map aT)) else ae
 |_=>ae
theorem G8(hc:X.calm=af)(g1:Gl X "sorted")(m1:X.mg "sorted" = ae)(g2:Gl X "set")(m2:X.mg "set" = ae)(he:DE X e fe)
  (vp:bJ [BS (.Name "set" p2) [e] [] gn] X.env=[(ag,bK (BS (.Name "set" p2) [e] [] gn) X.env)]:=by rfl) (jz:bJ [e] X.env=[(ag,bK e X.env)]:=by rfl) :
  DF 1 X (.Call (.Name "sorted" p1) [.Call (.Name "set" p2) [e] [] gn] [] qq) (aN KS (aG fe aK)):=by
 have h1:PE X (.Call (.Name "set" p2) [e] [] gn) _:=tN (G5 hc) g2 m2 rfl (hZ he jK jz) (by decide) (by decide) jz rfl
 have h2:PE X (.Call (.Name "sorted" p1) [.Call (.Name "set" p2) [e] [] gn] [] qq) _:=EO (Zh hc) g1 m1 Iz (hZ h1 jK vp) (by decide) (by decide) vp rfl
 refine PE.imp h2 λZ H Q gh=>?_
 rw[6];obtain⟨Y0,e0,ef⟩:=ao ef;obtain⟨d1,e1,e0⟩:=ao e0;have e0:[d1]=Y0:=by simpa [aK] using e0
 subst e0;cases d1 with
 |list ds=>
  obtain⟨is,e2,ef⟩:=ao (show((qL ds).bind λis=>if is.length<64 then aa (oP ((sortI (jD is)).map aT)) else ae)=aa d from ef)
  obtain⟨hl,rfl⟩:=cG ef;refine⟨P,Y,.list ds,hP,rs,e1,dY λv H1 x1 r1=>?_⟩
  obtain⟨q,ys,rfl,hq,rr⟩:=Aa6.1 r1;rw[Hb e2] at rr;obtain rfl:=Dw rr;refine⟨q,is,rfl,Aap.sqL hq,hl,λa o hn S=>⟨a,o,jD is,rfl,eB,S,xF (LY is) hl,λl iu T2 p1 p2=>?_⟩⟩
  obtain rfl:=w6 p1 p2;exact(k.mono (x1.trans (Ext.new hn))).lst (hP.ext (x1.trans (Ext.new hn))) T2 (LK _)
 |_=>cases ef
open PySem PySem.Spec PySem.W PyProof.Rows PySem.SetTable
theorem KD {α:Type}(xs:List α)(d:α):(cK xs.length).map (λi=>xs.getD i d)=xs:=by
 apply RO
 .simp
 .intro i h1 h2;simp at h1;simp[h1]
theorem Wo {h0:aQ}{P:PySem.Fin->aH->Prop}(ho:s.heap.get? a=aa (fN "list" vs.toArray n))(ht:Agx h0 vs kss)(kp:∀ b o,h0.get? b=aa o->(lA s.heap a vs).get? b=aa o)(ok:ox kss=af)(qf:vs.length<64)
  (h:∀ p:List Nat,p.Perm (cK vs.length)->p.map (λi=>kss.getD i [])=iH kss->P (.done (.ret .none)) { s with heap:=sortedHeap s.heap a vs (iB (p.map λi=>vs.getD i eJ)) }) :
  aM (aO prog w) A (Builtin.«list.sort» ⟨[.ref a],[]⟩) P E s:=by
 have ln:=jF ht;by_cases h2:vs.length<2
 .refine ZC ho h2 ?_;have:=h (cK vs.length) (RQ _) (by
   rw[ln,KD kss];refine zQ ok (RQ _) ?_
   match kss,ln with
   |[],_=>exact .nil
   |[k],_=>simp
   | _::_::_,ln=>simp at ln;omega)
  rw[KD vs] at this;exact this
 .have hs:sameAll kss=af/\(kss.all λk=>(kG k).isSome)=af:=by
   have V1:¬ kss.length<2:=by omega
   have:(sameAll kss&&kss.all λk=>(kG k).isSome)=af:=by simpa [ox,V1] using ok
   exact jQ.1 this
  obtain⟨k0,m0⟩:∃ k0,k0∈kss:=by
   cases hk:kss with
   |nil=>rw[hk] at ln;exact absurd ln (by simp;intro e;rw[e] at h2;simp at h2)
   |cons k r=>exact⟨k,bE⟩
  obtain⟨T,hT⟩:=xD.1 (dW.1 hs.2 k0 m0);have sm:∀ k∈kss,∀ k'∈kss,hW k k'=af:=λk m k' m'=>dW.1 (dW.1 hs.1 k m) k' m'
  have V7:=ht.keep kp;refine Fu (κ:=tuples' (jM T != jM "tuple")) (UU kss) ho (by omega) qf (λR q=>?_) (λi j C hi hj q=>?_) λp hp ha=>?_
  .obtain⟨fs,f1,f2,f3⟩:=LW (M:=aO prog w) V7 λk m=>(same_kind (sm k m k0 m0)).trans hT
   exact kat_kind f1 (by omega) f3 (by rcases Hi hT with rfl|rfl<;>decide) q
  .obtain⟨b,e1,⟨_,_,as,r1⟩,m1⟩:=V7.get i hi;obtain⟨b',e2,⟨_,_,zm,r2⟩,m2⟩:=V7.get j hj;rw[e1,e2];obtain⟨_,o,xs,n,z,ho,_,hd,hr⟩:=oH r1;cases z;obtain⟨_,o',qm,n',z,xm,_,tp,Y7⟩:=oH r2;cases z;have Ty:=sm _ m1 _ m2;have l1:=zR hr;have l2:=zR Y7;have ll:=EY Ty;have:decide (xs.size<qm.size)=ag:=decide_eq_false (by simp only[fC] at l1 l2;omega)
   refine kat_lt ho hd xm tp ?_;rw[this];exact CT _ _ 0 Ty hr Y7 q
  .have jh:p.toList.Perm (cK vs.length):=by simpa using Q0.1 hp
   have pl:p.toList.length=vs.length:=by rw[jh.length_eq,GY]
   refine h p.toList jh (zQ ok ?_ ?_)
   .have:=jh.map (λi=>kss.getD i [])
    rw[ln,KD kss] at this;exact this
   .rw[qC,RD];intro i j hi hj oy;refine Ais.2 ?_;have:=ha i j (oQ oy) (by omega)
    have e1:at' p i=p.toList[i]:=by simp at hi;simp[at',hi]
    have e2:at' p j=p.toList[j]:=by simp at hj;simp[at',hj]
    rw[e1,e2] at this;exact of_decide_eq_false this
theorem Wp(p:qs.Perm kss)(h:ox kss=af):ox qs=af:=by
 unfold ox at h ⊢;rw[p.length_eq];by_cases h2:kss.length<2
 .simp[h2]
 .have h':(sameAll kss&&kss.all λk=>(kG k).isSome)=af:=by simpa [h2] using h
  obtain⟨h3,h4⟩:=jQ.1 h';have h5:sameAll qs=af:=dW.2 λk m=>dW.2 λk' m'=>dW.1 (dW.1 h3 k (p.mem_iff.1 m)) k' (p.mem_iff.1 m')
  have h6:=dW.2 λk m=>dW.1 h4 k (p.mem_iff.1 m)
  rw[h5,h6];simp
theorem M1(p:qs.Perm kss)(h:ox kss=af):iH qs=iH kss:=zQ h ((tR qs).trans p) (NN qs)
theorem Fk {α β:Type}{R:α->β->Prop}{as:List α}{bs:List β}(h:cN R as bs)(x:α)(y:β):∀ p:List Nat,(∀ i∈p,i<as.length)->cN R (p.map λi=>as.getD i x) (p.map λi=>bs.getD i y)
 |[],_=>.nil
 |i::p,hi=>by
  refine .cons ?_ (Fk h x y p λj m=>hi j (bH _ m))
  have bz:=hi i bE;obtain⟨b,hb,r⟩:=oA h (fO bz);have e1:as.getD i x=as[i]:=by simp[bz]
  have e2:bs.getD i y=b:=by simp[hb]
  show R (as.getD i x) (bs.getD i y);rw[e1,e2];exact r
set_option maxHeartbeats 4000000 in
theorem f6 {B:List aA->aC->Prop}(hh:A.handled=ae)(S:SetT w B s.heap a kss)(ok:ox kss=af)(qf:kss.length<64)
  (q:∀ h' tk l e (out:List aD),s.toks<=tk->(∀ b ob,s.heap.get? b=aa ob->h'.get? b=aa ob)->s.heap.objs.size<=l->cN (λv k=>∃ b,v=eI b/\B k b) out (iH kss)->h'.get? l=aa (fN "list" out.toArray e)->Q (.ref l) { s with heap:=h',toks:=tk }) :
  aM (aO prog w) A (call (.builtin "sorted") [.ref a]) Q E s:=by
 obtain⟨o,es,ep,t,ks,S,pm⟩:=S;have W:WSet w s.heap a o es ep t:=⟨S.get,S.exact,S.data,S.fine,S.led⟩;refine HE kind_sorted plain_sorted entry_sorted (args_sorted1 _) ?_;unfold Builtin.«sorted»;have TD:es.size=kss.length:=by
  have:=jF S.els;rw[fC] at this;rw[this,pm.length_eq]
 refine aF (aL (aF (Dr (by simp[hh]) W (λ_=>by rw[S.plain];rfl) λh1 tk M' xp k1=>aF (AV ?_ (by rw[kA,cD,yT];omega)))))
 have pe:=JW w a ep es;generalize qc w a ep es=jx at pe;obtain⟨Z4,p2,pm2⟩:=vI pe S.els;have pk:=pm2.trans pm;have tv:cN (λv k=>∃ b,v=eI b/\Abp s.heap k b/\B k b) (jx.map (·.2)) Z4:=by
  clear pe pm2 pk;induction p2 with
  |nil=>exact .nil
  |cons h t ih=>
   obtain⟨b,e1,_,e3,e4⟩:=h;exact .cons ⟨b,e1,e3,e4⟩ ih
 have av:(jx.map (·.2)).length<64:=by rw[cD,pe.length_eq,fC];omega
 generalize jx.map (·.2)=vs at tv av;have tz:(h1.push (fN "list" vs.toArray 0)).get? h1.objs.size=aa (fN "list" vs.toArray 0):=cV _ rfl;refine aF (fA (gH QC ⟨_,tz,rfl⟩ QH (Wo tz (nZ (λv k ⟨b,e1,e2,_⟩=>⟨b,e1,e2⟩) tv) (λb ob eb=>?_) (Wp pk ok) av λp hp hs=>⟨_,rfl,?_⟩) (QK _)))
 .have hb:=bU (k1 b ob eb);exact Ho b ob (cQ hb) (bT _ (k1 b ob eb))
 refine aL ⟨_,rfl,?_⟩;obtain⟨e,he⟩:=sortedHeap_at tz;refine q _ tk h1.objs.size e (p.map λi=>vs.getD i eJ) M' (λb ob eb=>?_) (oQ xp) ?_ he
 .have hb:=bU (k1 b ob eb);rw[sortedHeap_old (cQ hb) (by rw[size_push'];exact BK hb),RU _ _ _ (cQ hb)]
  exact k1 b ob eb
 .have:=Fk tv eJ [] p λi m=>gW.1 (hp.mem_iff.1 m)
  rw[hs,M1 pk ok] at this;exact nZ (λv k ⟨b,e1,_,e3⟩=>⟨b,e1,e3⟩) this
def U6 (kss:List (List aA))(ys:List V)(k:List aA)(b:aC):Prop:=∃ i:Nat,kss[i]?=aa k/\ys[i]?=aa (V.ref b)
def A2c (w:aX)(kss:List (List aA))(ys:List V)(o:bB)(ls:List (List aA)):Prop:=∃ es ep t ks,o.ExactSet/\o.data=.set es ep t/\Fine t es/\t.led=(!eR w)/\t.plain=af/\cN (λ(e:Int×aD) k=>∃ b,e.2=.ref b/\e.1=dE w (.tuple k)/\U6 kss ys k b) es.toList ks/\ks.Nodup/\ks.Perm ls
section
theorem MN (hc:X.calm=af)(hu:X.A.units+40<cLine):Acy X (.type "set") (λxs H Q=>∃ p ys kss,xs=[.ref p]/\SqL X.K H p ys/\Refs H ys kss/\(∀ k∈kss,nV k)/\(fJ kss).length<=4900/\∀ a o,H a=ae->A2c X.w kss ys o (fJ kss)->Q (.ref a) (au H a (yk a o))):=by
 rw[5];obtain⟨p,ys,kss,rfl,hp,rf,hri,hl,q⟩:=h;rw[7];obtain⟨its,rv,pl,_⟩:=I.list hp;have e1:=rv.length;have e2:=jF rf;refine F9 (B:=U6 kss ys) (I.ok.hd hc) (λk b ⟨i,h,_⟩=>hri k (eU h)) hu pl.isList (λj v ev=>?_) hl (by rw[dU];omega) λh' tk ht S' hk=>?_
 .have ev':its[j]?=aa v:=by simpa using ev
  obtain⟨y,hy,ry⟩:=DM rv ev';obtain⟨k,hk,b,rfl,tk⟩:=oA rf hy;cases ry;exact⟨b,k,rfl,hk,key_of I.hok tk,j,hk,hy⟩
 .obtain⟨o,es,ep,t,il,be,pm⟩:=S';have I':=I.laid (t':=tk) (λb u e=>hk b u (bU e) e) (bD _) (show Ab8 X.prog X.w _ _ _ (.ext _) from⟨be.get,⟨o,be.get⟩,λ_ _ e k=>k _ e⟩)
  exact⟨.ref s.heap.objs.size,_,I',rfl,q _ o I.fresh ⟨es,ep,t,il,be.exact,be.data,be.fine,be.led,be.plain,nZ (λe k ⟨b,q1,q2,_,q4⟩=>⟨b,q1,q2,q4⟩) be.els,be.nod,pm⟩⟩
theorem b8 (hc:X.calm=af):Acy X (.builtin "sorted") (λxs H Q=>∃ a o ys kss ls,xs=[.ref a]/\H a=aa (yk a o)/\A2c X.w kss ys o ls/\Refs H ys kss/\ox ls=af/\ls.length<64 /\
  ∀ l zs,H l=ae->cN (λz k=>∃ b,z=V.ref b/\U6 kss ys k b) zs (iH ls)->Q (.ref l) (au H l (.lst zs))):=by
 rw[5];obtain⟨a,o,ys,kss,ls,rfl,ha,⟨es,ep,t,ks,hx,hd,hf,hl,hpn,he,hn,pm⟩,rf,ok,qf,q⟩:=h;rw[7];obtain⟨g,_,_⟩:=(show Ab8 X.prog X.w H s.heap a (.ext _) from I.hok a _ ha)
 have deep:∀ k b,U6 kss ys k b->Abp s.heap k b:=λk b gh=>by
  obtain⟨i,h1,h2⟩:=gh;obtain⟨k',dz,b',eb,tk⟩:=oA rf h2;rw[h1] at dz;cases dz;cases eb;exact key_of I.hok tk
 refine f6 (I.ok.hd hc) ⟨o,es,ep,t,ks,⟨g,hx,hd,hf,hl,hpn,nZ (λe k ⟨b,q1,q2,q3⟩=>⟨b,q1,q2,deep k b q3,q3⟩) he,hn⟩,pm⟩ ok qf λh' tk l e out M' kept ur pr zp=>?_
 have T2:=I.hok.fresh ur
 let zs:List V:=out.map λv=>match v with|.ref b=>V.ref b|_=>V.non
 have pz:cN (λz k=>∃ b,z=V.ref b/\U6 kss ys k b) zs (iH ls)/\Vals zs out:=by
  generalize iH ls=qs at pr;clear zp;induction pr with
  |nil=>exact⟨.nil,.nil⟩
  |cons h t ih=>
   obtain⟨b,rfl,hb⟩:=h;exact⟨.cons ⟨b,rfl,hb⟩ ih.1,.cons rfl ih.2⟩
 have lz:zs.length<=sizeLine:=by
  have h1:=jF pz.1;rw[h1,(tR ls).length_eq,kA];omega
 exact⟨.ref l,_,I.laid (o:=.lst zs) (λb ob g=>kept b ob g) ur ⟨lz,out,e,pz.2,zp⟩,rfl,q _ zs T2 pz.1⟩
def zL:List aA->Option aA:=open Classical in λds=>match ds with
 |[.list ds]=>(hG ds).bind λkss=>if ((fJ kss).length<64/\ox (fJ kss)=af)/\∀ k∈kss,nV k then aa (.list ((iH (fJ kss)).map cL)) else ae
 |_=>ae
theorem DY:∀ {ds:List aA} {kss:List (List aA)},hG ds=aa kss->ds=kss.map cL/\∀ k∈kss,bO k=af/\cP k<=6
 |[],kss,e=>by cases e;exact⟨rfl,by simp⟩
 |d::ds,kss,e=>by
  cases d with
  |tuple ks=>
   have e:(if bO ks=af/\cP ks<=6 then(hG ds).bind λkss=>aa (ks::kss) else ae)=aa kss:=e
   by_cases hk:bO ks=af/\cP ks<=6
   case neg=>rw[if_neg hk] at e;cases e
   rw[if_pos hk] at e;obtain⟨zq,e1,e2⟩:=ao e;cases e2;obtain⟨h1,h2⟩:=DY e1;refine⟨by rw[h1];rfl,λk m=>?_⟩
   rw[13]
   .exact hk
   .exact h2 k m
  |_=>cases e
theorem Ge(r:Aao K H (kss.map cL) ys):∀ {zs:List V} {qs:List (List aA)},cN (λz k=>∃ b,z=V.ref b/\U6 kss ys k b) zs qs->Aao K H (qs.map cL) zs
 |_,_,.nil=>Aak.2 rfl
 |_,k::_,.cons ⟨b,e,i,h1,h2⟩ t=>by
  refine Aaf.2 ⟨_,_,rfl,?_,Ge r t⟩;have h3:(kss.map cL)[i]?=aa (.tuple k):=by rw[eE,h1];rfl
  obtain⟨v,hv,rv⟩:=r.get h3;rw[h2] at hv;cases hv;rw[e];exact rv
open Classical in
theorem Dv(hc:X.calm=af)(hu:X.A.units+40<cLine)(g1:Gl X "sorted")(m1:X.mg "sorted" = ae)(g2:Gl X "set")(m2:X.mg "set" = ae)(he:DE X e fe)
  (vp:bJ [BS (.Name "set" p2) [e] [] gn] X.env=[(ag,bK (BS (.Name "set" p2) [e] [] gn) X.env)]:=by rfl) (jz:bJ [e] X.env=[(ag,bK e X.env)]:=by rfl) :
  DF 1 X (.Call (.Name "sorted" p1) [.Call (.Name "set" p2) [e] [] gn] [] qq) (aN zL (aG fe aK)):=by
 have h1:PE X (.Call (.Name "set" p2) [e] [] gn) _:=tN (MN hc hu) g2 m2 rfl (hZ he jK jz) (by decide) (by decide) jz rfl
 have h2:PE X (.Call (.Name "sorted" p1) [.Call (.Name "set" p2) [e] [] gn] [] qq) _:=EO (b8 hc) g1 m1 Iz (hZ h1 jK vp) (by decide) (by decide) vp rfl
 refine PE.imp h2 λZ H Q gh=>?_
 rw[6];obtain⟨Y0,e0,ef⟩:=ao ef;obtain⟨d1,e1,e0⟩:=ao e0;have e0:[d1]=Y0:=by simpa [aK] using e0
 subst e0;cases d1 with
 |list ds=>
  obtain⟨kss,e2,ef⟩:=ao (show((hG ds).bind _)=aa d from ef)
  obtain⟨⟨⟨hl,ok⟩,hri⟩,rfl⟩:=cG ef;obtain⟨rfl,hk⟩:=DY e2;refine⟨P,Y,.list (kss.map cL),hP,rs,e1,dY λv H1 x1 r1=>?_⟩
  obtain⟨q,ys,rfl,hq,rr⟩:=Aa6.1 r1;have rf:=Refs.le (λc zs e=>Aap _ _ e) (DZ hk rr)
  refine⟨q,ys,kss,rfl,Aap.sqL hq,rf,hri,by omega,λa o hn S=>⟨a,o,ys,kss,fJ kss,rfl,eB,S,Refs.le (λc zs e=>(Ext.new hn) _ _ e) rf,ok,hl,λl zs T2 pz=>?_⟩⟩
  exact(k.mono (x1.trans (Ext.new hn))).lst (hP.ext (x1.trans (Ext.new hn))) T2 (Ge (rr.ext (cT (Ext.new hn))) pz)
 |_=>cases ef
end
def Sw:V->List V->Hp->VK->Prop:=λx vs H Q=>∃ p ks k j,x=.ref p/\vs=[kV k]/\H p=aa (.lst (ks.map kV))/\vg ks k=aa j/\Q .non (au H p (.lst ((ks.eraseIdx j).map kV)))
theorem u9:MtM X "list.remove" Sw:=by
 intro ah s Z H x vs v us Q I rx rv h;obtain⟨p,ks,k,j,rfl,rfl,hp,hj,q⟩:=h;cases rx;obtain⟨u,rfl,ru⟩:=rv.one;obtain⟨z,its,n,r,hl,e⟩:=I.lstM hp;obtain⟨he,bz,hit,uf⟩:=Bd r ru hj;refine call_meets F.slot_list_remove ⟨_,e,rfl⟩ F.entry_list_remove (F.args_list_remove_2 _ _) (MeetsSeq.list_remove p its.toArray n u (xi k) he j bz hit uf (by rw[dU];omega)) ⟨e,?_⟩
 have ee:(ks.eraseIdx j).map kV=(ks.map kV).eraseIdx j:=by
  have go:∀ (xs:List aI) (n:Nat),(xs.eraseIdx n).map kV=(xs.map kV).eraseIdx n:=by
   intro xs;induction xs with
   |nil=>intro n;simp
   |cons x xs ih=>
    intro n;cases n with
    |zero=>rfl
    |succ n=>rw[xN,dB,dB,xN,ih]
  exact go ks j
 refine⟨.non,_,I.lset hp e ?_ (by rw[ee];exact r.eraseIdx j) ?_,rfl,q⟩
 .rw[List.eraseIdxIfInBounds_toArray]
 .have:=Bc (ks.map kV) j;rw[ee];omega
def oY (i:Nat)(m:Md)(f:EF):SF:=λY=>(eV 0 m f Y).bind λd=>(getL i Y).bind λds=>(mW ds).bind λks=>(bR d).bind λk=>(vg ks k).bind λj=>aa (.nx (Y.set i (aa (1,.list (ds.eraseIdx j)))))
theorem C3 (i:Nat)(m:Md)(he:DE X e f)(hN:X.N[i]?=aa x:=by rfl)(hv:iP X.env.scope x:=by first|exact cF rfl|exact bY (cF rfl)|exact bY (bY rfl))(hd:(x==("__debug__" : aE))=ag:=by decide)
  (fj:(x==("__classdict__" : aE))=ag:=by decide) (cf:rM (.Name x px) "remove" X.env (bK (.Name x px) X.env)=bK (.Name x px) X.env:=by rfl)
  (gj:((fY bc (bJ (e::[]) X.env)).all (λx=>!x.1)&&(xA bc (wW [] X.env)).all (λx=>x.1.isSome)
   && decide ((e::[]).length+([]:List lT).length+(if ([]:List lT).isEmpty then 0 else 1)<30))=af:=by rfl)
  (cg:(ay.endLine==bc.line)=af:=by rfl) (hs:bJ (e::[]) X.env=(ag,bK e X.env)::bJ [] X.env:=by rfl) (ck:(fY bc (bJ [] X.env)).any (·.1)=ag:=by rfl)
  (zh:kP (.Call (.Attribute (.Name x px) "remove" ay) [e] [] bc) ae pos.line X.env=pure ag:=by rfl):DS X H0 P0 n0 (.Expr (.Call (.Attribute (.Name x px) "remove" ay) [e] [] bc) pos) (oY i m f):=
 PS.imp (JP (AR Ir PySem.F.slot_list_remove PySem.F.type_list_remove u9 (jL hN hv hd fj) (hZ (ev m he) jK hs) cf gj cg hs ck) zh) λD Z H gh=>by
  rw[8];obtain⟨d,e1,bx⟩:=ao ef;obtain⟨ds,e2,bv⟩:=ao bx;obtain⟨ks,e3,dL⟩:=ao bv;obtain⟨key,e4,jl⟩:=ao dL;obtain⟨j,e5,xy⟩:=ao jl;cases xy;obtain⟨p,xs,h1,h2,_,_⟩:=S.lst1 (mD e2);refine⟨.ref p,h1,.inl ⟨rfl,xs,SqL.of h2⟩,B0,Y,fp,d,S,e1,λv H2 gh=>?_⟩
  obtain⟨ja,S2,r2⟩:=gh;obtain⟨p2,xs2,q1,q2,q3,q4⟩:=S2.lst1 (mD e2);have:p2=p:=by rw[h1] at q1;cases q1;rfl
  rw[19];obtain rfl:=MO e3 q3;have ee:(ks.eraseIdx j).map kV=(ks.map kV).eraseIdx j:=by
   have go:∀ (xs:List aI) (n:Nat),(xs.eraseIdx n).map kV=(xs.map kV).eraseIdx n:=by
    intro xs;induction xs with
    |nil=>intro n;simp
    |cons x xs ih=>
     intro n;cases n with
     |zero=>rfl
     |succ n=>rw[xN,dB,dB,xN,ih]
   exact go ks j
  refine⟨p2,ks,key,j,rfl,by rw[lC e4 r2.2],q2,e5,?_⟩
  rw[ee];exact k _ _ ja (q4 _ _ (Di j q3))
section
variable {Z:St}
theorem own1(h:Aga K B H 1 (.list ds) v F):∃ p xs,v=.ref p/\H p=aa (.lst xs)/\F=[p]/\Aao K B ds xs:=by
 obtain⟨p,xs,Fs,rfl,hp,hF,h3⟩:=h;obtain⟨r,hn⟩:=An h3;exact⟨p,xs,rfl,hp,by rw[hF,hn],r⟩
theorem DR{p:aC}(hp:H p=aa (.lst xs))(r:Aao K B ds xs):Aga K B H 1 (.list ds) (.ref p) [p]:=by
 obtain⟨q1,q2⟩:=MC r;exact⟨p,xs,_,rfl,hp,by rw[q2],q1⟩
theorem Kq{a b:List aA}(h:Aga K B H 2 (.tuple [.list a,.list b]) v F) :
  ∃ q p p' xs ys,v=.ref q/\B q=aa (.tup [.ref p,.ref p'])/\F=[p,p']/\H p=aa (.lst xs)/\H p'=aa (.lst ys)/\Aao K B a xs/\Aao K B b ys:=by
 rcases h with⟨h0,_⟩|⟨_,q,us,Fs,rfl,hq,rfl,h3⟩
 .cases h0
 .cases h3 with
  |cons h1 t=>
   cases t with
   |cons h2 t=>
    cases t with
    |nil=>
     obtain⟨p,xs,rfl,hp,rfl,r⟩:=own1 h1;obtain⟨p',ys,rfl,jh,rfl,r'⟩:=own1 h2;exact⟨q,p,p',xs,ys,rfl,hq,rfl,hp,jh,r,r'⟩
theorem Ts{a b:List aA}{q p p':aC}(hq:B q=aa (.tup [.ref p,.ref p']))(h1:H p=aa (.lst xs))(h2:H p'=aa (.lst ys))(r1:Aao K B a xs)(r2:Aao K B b ys) :
  Aga K B H 2 (.tuple [.list a,.list b]) (.ref q) [p,p']:=
 .inr ⟨by decide,q,_,[[p],[p']],rfl,hq,rfl,.cons (DR h1 r1) (.cons (DR h2 r2) .nil)⟩
end
section
variable {py zr:bQ}
def VO (i j:Nat):SF:=λY=>(getL i Y).bind λa=>(getL j Y).bind λb=>aa (.rt (.tuple [.list a,.list b]))
theorem Xd (i j:Nat){x1}(oy:i≠j)(hN:X.N[i]?=aa x:=by rfl)(hv:iP X.env.scope x:=by first|exact cF rfl|exact bY (cF rfl)|exact bY (bY rfl))(hd:(x==("__debug__" : aE))=ag:=by decide)
  (fj:(x==("__classdict__" : aE))=ag:=by decide) (hN2:X.N[j]?=aa y:=by rfl) (hv2:iP X.env.scope y:=by first|exact cF rfl|exact bY (cF rfl)|exact bY (bY rfl)) (zg:(y==("__debug__" : aE))=ag:=by decide)
  (hcd2:(y==("__classdict__" : aE))=ag:=by decide):DS X H0 P0 2 (.Return (aa (.Tuple [.Name x px,.Name y py] x1 wf)) pos) (VO i j):=
 PS.imp (CJ (WA (hZ (jL hN hv hd fj) (hZ (jL hN2 hv2 zg hcd2) jK)))) λD Z H gh=>by
  rw[8];obtain⟨a,e1,ef⟩:=ao ef;obtain⟨b,e2,ef⟩:=ao ef;cases ef;obtain⟨v,h1,r1⟩:=S.slot i 1 _ (mD e1);obtain⟨v',h2,r2⟩:=S.slot j 1 _ (mD e2);obtain⟨p,xs,rfl,hp,hF,q1⟩:=own1 r1;obtain⟨p',ys,rfl,jh,hF',q2⟩:=own1 r2;have mp:p∈fp i:=by rw[hF];exact bE
  have mp':p'∈fp j:=by rw[hF'];exact bE
  have hpp:p≠p':=λz=>oy (S.dj i j p mp (by rw[z];exact mp'))
  refine⟨_,h1,_,h2,by show 2<=sizeLine;rw[kA];omega,λq hq=>k _ _ ⟨[p,p'],S.ext.trans (Ext.new hq),?_,?_,?_⟩⟩
  .simp[hpp]
  .intro c m;rw[13]
   .exact⟨(S.own i _ mp).1,_,Ext.new hq _ _ hp⟩
   .rw[cB.1 m];exact⟨(S.own j _ mp').1,_,Ext.new hq _ _ jh⟩
  .have nq:∀ {c:aC} {oo:HO},H c=aa oo->c≠q:=λec z=>by rw[z,hq] at ec;cases ec
   have xb:Ext (L2.hid H (Hd P0 fp)) (L2.hid (au H q (.tup [.ref p,.ref p'])) (ki P0 [p,p'])):=λc oo ec=>by
    obtain⟨nc,ec⟩:=Aco.1 ec;refine Aco.2 ⟨λz=>?_,Ext.new hq _ _ ec⟩
    rcases z with z|z
    .exact nc (.inl z)
    .rcases cO.1 z with rfl|z
     .exact nc (.inr ⟨i,mp⟩)
     .rw[cB.1 z] at nc;exact nc (.inr ⟨j,mp'⟩)
   refine Ts (Aco.2 ⟨λz=>?_,eB⟩) (Ext.new hq _ _ hp) (Ext.new hq _ _ jh) (q1.ext xb) (q2.ext xb)
   rcases z with z|z
   .exact(S.hd.ext S.ext).new hq z
   .rcases cO.1 z with z|z
    .exact nq hp z.symm
    .exact nq jh (cB.1 z).symm
end
section
variable {a b:aR}{zr:bQ}
def ix2 (c:Int):aA->Option aA
 |.tuple [.list a,.list b]=>if c=0 then aa (.list a) else if c=1 then aa (.list b) else ae
 |_=>ae
def nG (c:Int)(f:EF):EF:=λY=>(f Y).bind (ix2 c)
theorem Sr {c:Int}{jj}(h:DF 2 X e f)(hs:DJ (.Constant (.int c) jj zr):=by exact λ_ _=>rfl):DF 1 X (.Subscript e (.Constant (.int c) jj zr) pos) (nG c f):=
 PE.imp (IM OU h WM hs) λZ H Q gh=>by
  rw[6];obtain⟨d2,e1,ef⟩:=ao ef;unfold ix2 at ef;split at ef
  .rename_i la lb;refine⟨P,Y,_,hP,rs,e1,λv H' Fr xx nd fr r=>?_⟩
   obtain⟨q,p,p',xs,ys,rfl,hq,rfl,hp,jh,r1,r2⟩:=Kq r;have hq':=(Aco.1 hq).2;by_cases c0:c=0
   .rw[if_pos c0] at ef;cases ef;subst c0;refine .inr (.inl ⟨q,_,0,.ref p,rfl,rfl,SqT.of hq',rfl,k _ _ [p] xx (by simp) (λz m=>fr z (by rw[cB.1 m];simp)) (DR hp (r1.ext (gR λz hz=>?_)))⟩)
    rcases hz with hz|hz
    .exact .inl hz
    .exact .inr (by rw[cB.1 hz];simp)
   .rw[if_neg c0] at ef;obtain⟨c1,rfl⟩:=cG ef;subst c1;refine .inr (.inl ⟨q,_,1,.ref p',rfl,rfl,SqT.of hq',rfl,k _ _ [p'] xx (by simp) (λz m=>fr z (by rw[cB.1 m];simp)) (DR jh (r2.ext (gR λz hz=>?_)))⟩)
    rcases hz with hz|hz
    .exact .inl hz
    .exact .inr (by rw[cB.1 hz];simp)
  .cases ef
def WE (m:Md)(t:BF)(i:Nat)(f:EF):SF:=λY=>(bV m t Y).bind λb=>if b=af then jJ i 1 Y else cE 1 .s f Y
theorem Yo {c:aR}{t:BF}(m:Md)(i:Nat)(hc:DT X c t)(he:DF 1 X e f)(hN:X.N[i]?=aa x:=by rfl)(hv:iP X.env.scope x:=by first|exact cF rfl|exact bY (cF rfl)|exact bY (bY rfl))(hd:(x==("__debug__" : aE))=ag:=by decide)
  (fj:(x==("__classdict__" : aE))=ag:=by decide):DS X H0 P0 1 (.Return (aa (.IfExp c (.Name x px) e zr)) pos) (WE m t i f):=
 PS.imp (CJ (YY (evB m hc) (jL hN hv hd fj) (ev .s he))) λD Z H gh=>by
  rw[8];obtain⟨b,e1,ef⟩:=ao ef;refine⟨B0,Y,fp,b,S,e1,λH1 S1=>?_⟩
  cases b with
  |true=>
   replace ef:jJ i 1 Y=aa o:=by simpa using ef
   unfold jJ at ef;cases q:Y[i]? with
   |none=>rw[q] at ef;simp at ef
   |some z=>
    cases z with
    |none=>rw[q] at ef;simp at ef
    |some z=>
     obtain⟨n,d⟩:=z;rw[q] at ef;obtain⟨rfl,rfl⟩:=cG ef;obtain⟨v,h1,h2⟩:=S1.slot i _ d q;refine qR ⟨v,h1,k v H1 ⟨fp i,S1.ext,S1.nd i,λa m=>⟨(S1.own i a m).1,?_⟩,h2.keep (gR λa h=>?_) λa m=>rfl⟩⟩
     .rcases(S1.own i a m).2 with⟨xs,e⟩|⟨xs,e⟩
      .exact⟨_,e⟩
      .exact⟨_,e⟩
     .rcases h with h|h
      .exact .inl h
      .exact .inr ⟨_,h⟩
  |false=>
   replace ef:cE 1 .s f Y=aa o:=by simpa using ef
   obtain⟨d,e2,ef⟩:=ao ef;cases ef;exact qP ⟨B0,Y,fp,d,S1,e2,λv H' t=>k v H' t.ret⟩
end
section
variable {k:aR}{py:bQ}
theorem Tmp.free{Z:St}(t:Tmp K H0 P0 B0 Y Z n d v H):∃ fp,Sta K H0 P0 B0 Y Z H fp/\Abg K (L2.hid H (Hd P0 fp)) d v:=by
 obtain⟨fp,S,r⟩:=t;have cw:∀ a,Hd P0 (λj=>if j=Y.length then [] else fp j) a->Hd P0 fp a:=λa h=>by
  rcases h with h|⟨j,h⟩
  .exact .inl h
  .rw[22]
   .simp only[hj,if_true] at h;simp at h
   .simp only[hj,if_false] at h;exact .inr ⟨j,h⟩
 refine⟨λj=>if j=Y.length then [] else fp j,⟨S.len,λj=>?_,λj k a h1 h2=>?_,λj a h1=>?_,S.ext,S.hd,S.base.trans (gR cw),λj n' d' e'=>?_⟩,r.share (gR cw) λa m o q=>gM (λz=>?_) q⟩
 .rw[22]
  .simp only[hj,if_true];exact .nil
  .simp only[hj,if_false];exact S.nd j
 .rw[22]
  .simp only[hj,if_true] at h1;simp at h1
  .by_cases hk:k=Y.length
   .simp only[hk,if_true] at h2;simp at h2
   .simp only[hj,if_false] at h1;simp only[hk,if_false] at h2;exact S.dj j k a h1 h2
 .rw[22]
  .simp only[hj,if_true] at h1;simp at h1
  .simp only[hj,if_false] at h1;exact S.own j a h1
 .have bz:=(cX.1 e').1;have hj:j≠Y.length:=by omega
  obtain⟨v',h1,h2⟩:=S.slot j n' d' e';refine⟨v',h1,?_⟩;simp only[hj,if_false];exact h2.keep (gR cw) λa m=>rfl
 .rcases z with z|⟨k,z⟩
  .exact S.np m z
  .by_cases hk:k=Y.length
   .simp only[hk,if_true] at z;simp at z
   .simp only[hk,if_false] at z;exact hk (S.dj k _ a z m)
def yI (i:Nat)(m:Md)(f:EF)(mk:Md)(g:EF):SF:=λY=>(eV 1 m f Y).bind λd=>(getL i Y).bind λds=>(eV 0 mk g Y).bind λk=>match k with
 |.int j=>(qh ds.length j).bind λj=>aa (.nx (Y.set i (aa (1,.list (ds.set j d)))))
 |_=>ae
theorem Wl (i:Nat)(m mk:Md)(he:DF 1 X e f)(hk:DE X k g)(hN:X.N[i]?=aa x:=by rfl)(hv:iP X.env.scope x:=by first|exact cF rfl|exact bY (cF rfl)|exact bY (bY rfl))(hd:(x==("__debug__" : aE))=ag:=by decide)
  (fj:(x==("__classdict__" : aE))=ag:=by decide)
  (ha:∀ v,lH (.Subscript (.Name x px) k ay) X.env v=(do
   let ov <-nJ [v] (bK (.Name x px) X.env)
   let iv <-nJ [v,ov] (bK k X.env)
   standAt ay
   nJ [v,ov,iv] (setItem ov iv v)
   release [v,ov,iv] []):=by intro _;rfl)
  (hs:swapsWithSole [.Subscript (.Name x px) k ay] e pos.line X.env=pure ag:=by rfl) (hw:swappedStores [.Subscript (.Name x px) k ay] e X.env=pure ae:=by rfl)
  (h1:(iM [.Subscript (.Name x px) k ay] X.env).map (·.2)=[lH (.Subscript (.Name x px) k ay) X.env]:=by rfl):DS X H0 P0 n0 (.Assign [.Subscript (.Name x px) k ay] e pos) (yI i m f mk g):=
 PS.imp (VF (ev m he) (UY (jL hN hv hd fj) hk set_list ha) hs hw h1) λD Z H gh=>by
  rw[16];obtain⟨d,e1,bx⟩:=ao ef;obtain⟨ds,e2,bv⟩:=ao bx;obtain⟨kd,e3,dL⟩:=ao bv;clear ef bx bv;cases kd with
  |int j=>
   obtain⟨jn,e5,jl⟩:=ao (show((qh ds.length j).bind λj=>aa (Out.nx (Y.set i (aa (1,.list (ds.set j d))))))=aa o from dL)
   cases jl;refine⟨B0,Y,fp,d,S,e1,λv H2 t=>?_⟩
   obtain⟨ja,S2,r2⟩:=t.free;obtain⟨p,xs,h1,h2,_,_⟩:=S2.lst1 (mD e2);refine⟨.ref p,h1,qT S2 e3 (by simp[dM]) λu H3 x3 r3=>?_⟩
   have S3:=S2.grow x3;obtain⟨p3,uj,q1,q2,q3,q4⟩:=S3.lst1 (mD e2);rw[11];exact⟨p3,uj,j,jn,rfl,Aaj.1 r3,q2,by rw[q3.length];exact e5,kk _ _ ja (q4 _ _ (q3.set (r2.ext (cT x3)) jn))⟩
  |_=>cases dL
def CL (i j:Nat)(mk:Md)(g:EF):SF:=λY=>(getL j Y).bind λds=>(eV 0 mk g Y).bind λk=>match k with
 |.int q=>(mn ds q).bind λd=>if i<Y.length then aa (.nx (Y.set i (aa (0,d)))) else ae
 |_=>ae
theorem Yc (i j:Nat)(mk:Md)(hN:X.N.Nodup)(hi:X.N[i]?=aa x)(hx:jR X.env.scope x)(hk:DE X k g)(hp:DJ k)(hN2:X.N[j]?=aa y:=by rfl)(hv:iP X.env.scope y:=by first|exact cF rfl|exact bY (cF rfl)|exact bY (bY rfl))(hd:(y==("__debug__" : aE))=ag:=by decide)
  (fj:(y==("__classdict__" : aE))=ag:=by decide) (hs:kP (.Subscript (.Name y py) k ug) (aa (.Name x px)) pos.line X.env=pure ag:=by rfl) (hf:X.fn x=af\/X.env.scope.names.lookup x=aa .local:=by first|exact .inl rfl|exact .inr rfl|assumption) :
  DS X H0 P0 n0 (.Assign [.Name x px] (.Subscript (.Name y py) k ug) pos) (CL i j mk g):=PS.imp (OX hN hi hx (IM OU (jL hN2 hv hd fj) hk hp) hs hf) λD Z H gh=>by
 rw[16];obtain⟨ds,e2,bx⟩:=ao ef;obtain⟨kd,e3,bv⟩:=ao bx;clear ef bx;cases kd with
 |int q=>
  obtain⟨d,e4,dL⟩:=ao (show((mn ds q).bind λd=>if i<Y.length then aa (Out.nx (Y.set i (aa (0,d)))) else ae)=aa o from bv)
  obtain⟨hl,rfl⟩:=cG dL;obtain⟨p,xs,h1,h2,_,_⟩:=S.lst1 (mD e2);refine⟨.ref p,h1,qT S e3 (by simp[dM]) λu H3 x3 r3=>.inl ?_⟩
  have S3:=S.grow x3;obtain⟨p3,uj,q1,q2,q3,q4⟩:=S3.lst1 (mD e2);rw[11];obtain⟨w,w1,w2⟩:=JJ q3 e4;obtain⟨bu,S'⟩:=S3.An5 w2 hl;exact⟨p3,uj,q,w,rfl,Aaj.1 r3,SqL.of q2,w1,kk _ _ bu S'⟩
 |_=>cases bv
end
section
variable {Z:St}
theorem Sta.change{bu:Nat->List aC}{d':aA}(S:Sta K H0 P0 B0 Y Z H fp)(hi:i<Y.length)(hv:Z[i]?=aa (aa v))
  (hf:∀ j,j≠i->j<Y.length->bu j=fp j) (hz:∀ j,Y.length<=j->bu j=[]\/bu j=fp j) (nd:(bu i).Nodup) (sub:∀ a∈bu i,∃ j,a∈fp j/\(j=i\/bu j=[]))
  (kp:∀ a,a∉fp i->H' a=H a) (ow:∀ a∈bu i,(∃ xs,H' a=aa (.lst xs))\/∃ q:DQ,H' a=aa (dO q))
  (new:Ext (L2.hid H (Hd P0 fp)) (L2.hid H' (Hd P0 bu))->Aga K (L2.hid H' (Hd P0 bu)) H' n d' v (bu i)):Sta K H0 P0 B0 (Y.set i (aa (n,d'))) Z H' bu:=by
 have same:∀ j,j≠i->∀ a∈bu j,a∈fp j:=λj hj a m=>by
  by_cases h:j<Y.length
  .rw[hf j hj h] at m;exact m
  .rcases hz j (by omega) with e|e
   .rw[e] at m;simp at m
   .rw[e] at m;exact m
 have from_:∀ j,∀ a∈bu j,∃ l,a∈fp l:=λj a m=>by
  by_cases h:j=i
  .subst h;obtain⟨l,ml,_⟩:=sub a m;exact⟨l,ml⟩
  .exact⟨j,same j h a m⟩
 have xb:Ext (L2.hid H (Hd P0 fp)) (L2.hid H' (Hd P0 bu)):=λb o e=>by
  obtain⟨nb,e⟩:=Aco.1 e;refine gM (λq=>nb ?_) ?_
  .rcases q with q|⟨j,q⟩
   .exact .inl q
   .obtain⟨l,ml⟩:=from_ j b q;exact .inr ⟨l,ml⟩
  .rw[kp b λq=>nb (.inr ⟨i,q⟩)];exact e
 have jm:∀ j,j≠i->∀ a∈bu j,H' a=H a:=λj hj a m=>kp a λq=>hj (S.dj j i a (same j hj a m) q)
 refine⟨by simp[S.len],λj=>?_,λj l a h1 h2=>?_,λj a m=>?_,λb u e=>?_,S.hd,S.base.trans xb,λj n' d2 e=>?_⟩
 .by_cases h:j=i
  .rw[h];exact nd
  .by_cases h2:j<Y.length
   .rw[hf j h h2];exact S.nd j
   .rcases hz j (by omega) with e|e
    .rw[e];exact .nil
    .rw[e];exact S.nd j
 .by_cases e1:j=i<;>by_cases e2:l=i
  .rw[e1,e2]
  .subst e1;obtain⟨m,hm,hm2⟩:=sub a h1;have:=S.dj m l a hm (same l e2 a h2);rw[19];rcases hm2 with hm2|hm2
   .exact hm2.symm
   .rw[hm2] at h2;simp at h2
  .subst e2;obtain⟨m,hm,hm2⟩:=sub a h2;have:=S.dj m j a hm (same j e1 a h1);rw[19];rcases hm2 with hm2|hm2
   .exact hm2
   .rw[hm2] at h1;simp at h1
  .exact S.dj j l a (same j e1 a h1) (same l e2 a h2)
 .obtain⟨l,ml⟩:=from_ j a m;refine⟨(S.own l a ml).1,?_⟩;by_cases h:j=i
  .subst h;exact ow a m
  .rw[jm j h a m];exact(S.own j a (same j h a m)).2
 .rw[kp b λq=>by rw[(S.own i b q).1] at e;cases e]
  exact S.ext b u e
 .by_cases q:j=i
  .subst q;rw[qG hi] at e;cases e;exact⟨v,hv,new xb⟩
  .rw[mJ (λz=>q z.symm)] at e
   obtain⟨v2,h1,h2⟩:=S.slot j n' d2 e;have hj:=(cX.1 e).1;refine⟨v2,h1,?_⟩;have:=jm j q;rw[hf j q hj] at this ⊢;exact h2.keep xb this
abbrev R1 (K:aJ)(B H:Hp)(m:Nat:=1):aA×aA->aI×V->List aC->Prop:=λkd kv f=>kd.1=kD kv.1/\Aga K B H m kd.2 kv.2 f
def CM (c m:Nat):Prop:=(c=2/\m=1)\/(c=10/\m=9)
theorem IQ(hc:CM c m){ds:List (aA×aA)}(h:∃ p,∃ xs:Nat×List (aI×V),∃ Fs,v=.ref p/\H p=aa (.dK xs.1 xs.2)/\F=p::Fs.flatten/\All3 (R1 K B H m) ds xs.2 Fs):Aga K B H c (.dict ds) v F:=by
 obtain⟨p,xs,Fs,e,hp,hF,h3⟩:=h;rcases hc with⟨rfl,rfl⟩|⟨rfl,rfl⟩
 .exact⟨p,xs,Fs,e,hp,hF,h3⟩
 .exact bY ⟨ds,p,Fs,xs,rfl,e,hp,hF,h3⟩
theorem Sta.dicC(hc:CM c m){ds:List (aA×aA)}(S:Sta K H0 P0 B0 Y Z H fp)(e:Y[i]?=aa (aa (c,.dict ds))):∃ p ep xs Fs,Z[i]?=aa (aa (.ref p))/\H p=aa (.dK ep xs)/\fp i=p::Fs.flatten/\All3 (R1 K (L2.hid H (Hd P0 fp)) H m) ds xs Fs:=by
 obtain⟨v,h1,h2⟩:=S.slot i c _ e;rcases hc with⟨rfl,rfl⟩|⟨rfl,rfl⟩
 .obtain⟨p,xs,Fs,rfl,hp,hF,h3⟩:=h2;exact⟨p,xs.1,xs.2,Fs,h1,hp,hF,h3⟩
 .rcases(show _\/Bml _ _ _ _ _ _ from h2) with⟨z,_⟩|⟨wP,p,Fs,xs,z,rfl,hp,hF,h3⟩<;>cases z
  exact⟨p,xs.1,xs.2,Fs,h1,hp,hF,h3⟩
def lF:List (aA×aA)->aI->aA->List (aA×aA)
 |[],_,_=>[]
 |(k0,d0)::r,k,d=>if bR k0=aa k then(k0,d)::r else(k0,d0)::lF r k d
theorem vX (k0 d0:aA)(r:List (aA×aA))(k:aI):bI ((k0,d0)::r) k=if bR k0=aa k then aa d0 else bI r k:=by
 unfold bI;rw[fF];by_cases h:bR k0=aa k
 .rw[if_pos h];simp[h]
 .rw[if_neg h];simp[h]
theorem MD{k:aI}:∀ {ds:List (aA×aA)} {xs:List (aI×V)} {Fs:List (List aC)},All3 (R1 K B H m) ds xs Fs->Fs.flatten.Nodup->∀ d,bI ds k=aa d ->
  ∃ v f,f∈Fs/\fH xs k=aa v/\Aga K B H m d v f/\∀ (B' H':Hp) (d':aA),Ext B B'->Aga K B' H' m d' v f->(∀ a,a∉f->H' a=H a)->All3 (R1 K B' H' m) (lF ds k d') xs Fs
 |_,_,_,.nil,_,d,e=>by simp[bI] at e
 |(k0,d0)::ds,(k',v0)::xs,f0::Fs,.cons h t,nd,d,e=>by
  obtain⟨ek,h⟩:=h;have ek:=ek;subst ek;rw[vX,Abv] at e;rw[nP,qE] at nd;by_cases q:k'=k
  .rw[if_pos (by rw[q])] at e
   cases e;refine⟨v0,f0,bE,vO q,h,λB' H' d' xb r kp=>?_⟩
   show All3 _ (if bR (kD k')=aa k then(kD k',d')::ds else _) _ _
   rw[if_pos (by rw[Abv,q])]
   refine .cons ⟨rfl,r⟩ (t.imp λa b c mm rr=>⟨rr.1,rr.2.keep xb λz hz=>kp z λz2=>?_⟩)
   exact nd.2.2 z z2 z (jP.2 ⟨c,mm,hz⟩) rfl
  .rw[if_neg (λz=>q (eO z))] at e
   obtain⟨v,f,mm,h1,h2,h3⟩:=MD t nd.2.1 d e;refine⟨v,f,bH _ mm,(tJ q).trans h1,h2,λB' H' d' xb r kp=>?_⟩
   show All3 _ (if bR (kD k')=aa k then(kD k',d')::ds else(kD k',d0)::lF ds k d') _ _
   rw[if_neg (by rw[Abv];exact λz=>q (eO z))]
   refine .cons ⟨rfl,h.keep xb λz hz=>kp z λz2=>?_⟩ (h3 B' H' d' xb r kp)
   exact nd.2.2 z hz z (jP.2 ⟨f,mm,z2⟩) rfl
theorem Ca{kd:aA×aA}{kv:aI×V}{f:List aC}(h:R1 K B H m kd kv f):∀ {ds:List (aA×aA)} {xs:List (aI×V)} {Fs:List (List aC)},All3 (R1 K B H m) ds xs Fs->All3 (R1 K B H m) (ds++[kd]) (xs++[kv]) (Fs++[f])
 |_,_,_,.nil=>.cons h .nil
 |_,_,_,.cons h' t=>.cons h' (Ca h t)
theorem Bx{k:aI}:∀ {ds:List (aA×aA)} {xs:List (aI×V)} {Fs:List (List aC)},All3 (R1 K B H m) ds xs Fs->bI ds k=ae->fH xs k=ae
 |_,_,_,.nil,_=>rfl
 |(k0,d0)::ds,(k',v0)::xs,f0::Fs,.cons h t,e=>by
  obtain⟨ek,h⟩:=h;have ek:=ek;subst ek;rw[vX,Abv] at e;by_cases q:k'=k
  .rw[if_pos (by rw[q])] at e;cases e
  .rw[if_neg (λz=>q (eO z))] at e
   exact(tJ q).trans (Bx t e)
theorem JV:∀ {ds:List (aA×aA)} {xs:List (aI×V)} {Fs:List (List aC)},All3 (R1 K B H m) ds xs Fs->xs.length=ds.length
 |_,_,_,.nil=>rfl
 |_,_,_,.cons _ t=>by rw[fE,fE,JV t]
theorem Sta.putG{ds:List (aA×aA)}{xs:List (aI×V)}{p:aC}{A C Fs:List (List aC)}(S:Sta K H0 P0 B0 Y Z H fp)(hi:i<Y.length)(h1:Z[i]?=aa (aa (.ref p)))(h3:fp i=p::Fs.flatten)(sub:∀ a,a∈(A++C).flatten->a∈Fs.flatten)(nf:(A++C).flatten.Nodup)(r:Aga K (L2.hid H (Hd P0 fp)) H m d v (fp Y.length))(hc:CM c m)
  (up:∀ B',Ext (L2.hid H (Hd P0 fp)) B'->Aga K B' (au H p (.dK n xs)) m d v (fp Y.length)->(∀ g∈A++C,∀ a∈g,au H p (.dK n xs) a=H a)->All3 (R1 K B' (au H p (.dK n xs)) m) ds xs (A++fp Y.length::C)) :
  ∃ bu,Sta K H0 P0 B0 (Y.set i (aa (c,.dict ds))) Z (au H p (.dK n xs)) bu:=by
 have nd:=S.nd i;rw[h3,kC] at nd;have mp:p∈fp i:=by rw[h3];exact bE
 have nl:∀ a∈fp Y.length,a∉fp i:=λa m m2=>by
  have:=S.dj _ _ a m m2;omega
 have mem:∀ a,a∈p::(A++fp Y.length::C).flatten↔a=p\/a∈(A++C).flatten\/a∈fp Y.length:=λa=>by
  simp only[cO,uG,nP,iC];rw[23]
  .rintro(h|h|h|h)
   .exact .inl h
   .exact .inr (.inl (.inl h))
   .exact .inr (.inr h)
   .exact .inr (.inl (.inr h))
  .rintro(h|(h|h)|h)
   .exact .inl h
   .exact .inr (.inl h)
   .exact .inr (.inr (.inr h))
   .exact .inr (.inr (.inl h))
 refine⟨λj=>if j=i then p::(A++fp Y.length::C).flatten else if j=Y.length then [] else fp j,S.change hi h1 (λj a b=>?_) (λj a=>?_) ?_ (λa m=>?_) (λa na=>dF λz=>na (by rw[show a=p from z];exact mp)) (λa m=>?_) λxb=>?_⟩
 .simp only[a,if_false];rw[if_neg (by omega)]
 .have:j≠i:=by omega
  simp only[this,if_false];by_cases z:j=Y.length
  .rw[if_pos z];exact .inl rfl
  .rw[if_neg z];exact .inr rfl
 .simp only[if_true];rw[uG] at nf;simp only[uG,nP];have n1:=qE.1 nf;have pn:∀ a,a∈A.flatten\/a∈C.flatten->a≠p:=λa m z=>nd.1 (by
   rw[<-z];exact sub a (by simpa using m))
  refine kC.2 ⟨λm=>?_,qE.2 ⟨n1.1,qE.2 ⟨S.nd _,n1.2.1,λa ha b hb z=>?_⟩,λa ha b hb z=>?_⟩⟩
  .rcases iC.1 m with m|m
   .exact pn p (.inl m) rfl
   .rcases iC.1 m with m|m
    .exact nl p m mp
    .exact pn p (.inr m) rfl
  .subst z;exact nl a ha (by rw[h3];exact bH _ (sub a (by simp only[uG,iC];exact .inr hb)))
  .subst z;rcases iC.1 hb with hb|hb
   .exact nl a hb (by rw[h3];exact bH _ (sub a (by simp only[uG,iC];exact .inl ha)))
   .exact n1.2.2 a ha a hb rfl
 .simp only[if_true] at m;rcases(mem a).1 m with m|m|m
  .exact⟨i,by rw[m];exact mp,.inl rfl⟩
  .exact⟨i,by rw[h3];exact bH _ (sub a m),.inl rfl⟩
  .refine⟨Y.length,m,.inr ?_⟩;have:Y.length≠i:=by omega
   simp only[this,if_false,if_true]
 .simp only[if_true] at m;by_cases z:a=p
  .subst z;exact .inr ⟨.inl (n,_),eB⟩
  .rw[dF z];rcases(mem a).1 m with m|m|m
   .exact absurd m z
   .exact(S.own i a (by rw[h3];exact bH _ (sub a m))).2
   .exact(S.own _ a m).2
 .simp only[if_true];refine IQ hc ⟨p,(n,xs),A++fp Y.length::C,rfl,eB,rfl,up _ xb (Aga.keep xb (λa m=>dF λz=>nl a m (by rw[show a=p from z];exact mp)) r) λg mg a ma=>dF λz=>nd.1 ?_⟩
  have z:=z;rw[<-z];exact sub a (jP.2 ⟨g,mg,ma⟩)
theorem Sta.newKey{ds:List (aA×aA)}{k:aI}(S:Sta K H0 P0 B0 Y Z H fp)(e:Y[i]?=aa (aa (c,.dict ds)))(hk:bI ds k=ae)(r:Aga K (L2.hid H (Hd P0 fp)) H m d v (fp Y.length))(hc:CM c m:=by exact .inl ⟨rfl,rfl⟩):∃ p ep xs,Z[i]?=aa (aa (.ref p))/\H p=aa (.dK ep xs)/\xs.length=ds.length /\
  ∀ n,∃ bu,Sta K H0 P0 B0 (Y.set i (aa (c,.dict (ds++[(kD k,d)])))) Z (au H p (.dK n (putK xs k v))) bu:=by
 obtain⟨p,ep,xs,Fs,h1,h2,h3,h4⟩:=S.dicC hc e;have hi:=(cX.1 e).1;refine⟨p,ep,xs,h1,h2,JV h4,λn=>?_⟩
 have tq:putK xs k v=xs++[(k,v)]:=by
  unfold putK;rw[yX,Bx h4 hk]
  rfl
 have nd:=S.nd i;rw[h3,kC] at nd;rw[tq];exact S.putG (C:=[]) hi h1 h3 (λa m=>by simpa using m) (by simpa using nd.2) r hc λB' xb rk kp=>Ca ⟨rfl,rk⟩ (h4.imp λa b c' mm rr=>⟨rr.1,Aga.keep xb (kp c' (by simpa using mm)) rr.2⟩)
end
def sM (i:Nat)(Y:aU)(c:Nat:=2):Option (List (aA×aA)):=match Y[i]? with
 |some (aa (n,.dict ds))=>if n=c then aa ds else ae
 |_=>ae
theorem vZ{ds:List (aA×aA)}(h:sM i Y c=aa ds):Y[i]?=aa (aa (c,.dict ds)):=by
 unfold sM at h;split at h
 .rename_i e;obtain⟨rfl,rfl⟩:=cG h;exact e
 .cases h
section
variable {k o:aR}
theorem Wb:DF 10 X (.Dict [] [] pos) (eC (.dict [])):=PE.imp YE λZ H Q gh=>by
 rw[6];cases ef;refine λq hq=>k (.ref q) _ [q] (Ext.new hq) (kC.2 ⟨by simp,.nil⟩) (λa m=>?_) (IQ (.inr ⟨rfl,rfl⟩) ⟨q,(0,[]),[],rfl,eB,rfl,.nil⟩)
 have:a=q:=by simpa using m
 rw[19];exact⟨hq,_,eB⟩
def CW (i:Nat)(m:Md)(f:EF)(mk:Md)(g:EF)(c:Nat:=2)(n:Nat:=1):SF:=λY=>(eV n m f Y).bind λd=>(sM i Y c).bind λkds=>(eV 0 mk g Y).bind λk=>(bR k).bind λk=>if bI kds k=ae/\kds.length<sizeLine then aa (.nx (Y.set i (aa (c,.dict (kds++[(kD k,d)]))))) else ae
theorem Vw(i:Nat)(m mk:Md)(hu:X.A.units+40<cLine)(he:DF n X e f)(hk:DE X k g)(hN:X.N[i]?=aa x:=by rfl)(hv:iP X.env.scope x:=by first|exact cF rfl|exact bY (cF rfl)|exact bY (bY rfl))(hd:(x==("__debug__" : aE))=ag:=by decide)
  (fj:(x==("__classdict__" : aE))=ag:=by decide) (hs:kP e (aa (.Subscript (.Name x px) k ay)) pos.line X.env=pure ag:=by rfl) (hc:CM c n:=by first|exact .inl ⟨rfl,rfl⟩|exact .inr ⟨rfl,rfl⟩):DS X H0 P0 n0 (.Assign [.Subscript (.Name x px) k ay] e pos) (CW i m f mk g c n):=
 PS.imp (EB hu (jL hN hv hd fj) hk (ev (H0:=H0) (P0:=P0) m he) hs) λD Z H gh=>by
  rw[16];obtain⟨d,e1,bx⟩:=ao ef;obtain⟨kds,e2,bv⟩:=ao bx;obtain⟨kd,e3,dL⟩:=ao bv;obtain⟨key,e4,jl⟩:=ao dL;obtain⟨⟨hn,hl⟩,rfl⟩:=cG jl;clear ef bx bv dL;refine⟨B0,Y,fp,d,S,e1,λv H2 gh=>?_⟩
  obtain⟨ja,S2,r2⟩:=gh;obtain⟨p,ep,xs,h1,h2,_,_⟩:=S2.newKey (vZ e2) hn r2 hc;have hf:dM kd=af:=by rw[vY e4];cases key<;>simp[kD,dM]
  refine⟨.ref p,h1,qT S2 e3 hf λu H3 x3 r3=>?_⟩
  have S3:=S2.grow x3;have r4:Aga X.K (hid H3 (Hd P0 ja)) H3 n d v (ja Y.length):=r2.keep (cT x3) λa m=>by
   rcases(S2.own _ a m).2 with⟨xs,e⟩|⟨xs,e⟩
   .rw[e,x3 _ _ e]
   .rw[e,x3 _ _ e]
  obtain⟨p3,zk,uj,q1,q2,q3,q4⟩:=S3.newKey (vZ e2) hn r4 hc;rw[11];refine⟨p3,_,rfl,.inl ⟨zk,uj,key,q2,lC e4 r3,by rw[q3];exact hl,rfl⟩,λn'=>?_⟩
  obtain⟨bu,S4⟩:=q4 n';exact kk _ _ bu S4
end
def Vc:V->List V->Hp->VK->Prop:=λx vs H Q=>∃ d ep kvs k y,x=.ref d/\vs=[kV k,y]/\H d=aa (.dK ep kvs)/\kvs.length<sizeLine /\
 ((∃ u,fH kvs k=aa u/\Q u H)\/(fH kvs k=ae/\∀ n,Q y (au H d (.dK n (putK kvs k y)))))
theorem Ax:MtM X "dict.setdefault" Vc:=by
 intro ah s Z H x vs v us Q I rx rv h;obtain⟨d,ep,kvs,k,y,rfl,rfl,e,l,q⟩:=h;cases rx;cases rv with
 |cons rk rr=>
  cases rr with
  |cons ry rr=>
   cases rr;obtain⟨z,hd,ws,fm,dd⟩:=wJ I.hok e;refine QJ Ip dd.typeIs PySem.F.entry_dict_setdefault (PySem.F.args_dict_setdefault_3 _ _ _) (kt_meets_setdefault (fU X.prog X.w) d (sH rk) hd _) ⟨ws,dd,by rw[<-fm.length];exact z,λw hw=>?_,λhn h' zf sb=>?_⟩
   .have rl:=fm.val k;rcases q with⟨u,hu,q⟩|⟨hu,q⟩
    .rw[hu] at rl;obtain⟨w',e1,e2⟩:=rl.some_of;have e3:w'=w:=by rw[e1] at hw;exact eO hw
     subst e3;exact⟨u,H,I.tok _,e2,q⟩
    .rw[hu] at rl;have:=rl.none_of;rw[this] at hw;cases hw
   .have rl:=fm.val k;rcases q with⟨u,hu,q⟩|⟨hu,q⟩
    .rw[hu] at rl;obtain⟨w',e1,e2⟩:=rl.some_of;rw[e1] at hn;cases hn
    .have hl:(putK kvs k y).length<=sizeLine:=by have:=zV kvs k y;omega
     have he:∃ q,h'.get? d=aa q:=let ⟨q,_,_,hq,_⟩:=zf;⟨q,hq⟩;obtain⟨n,da⟩:=zf.dictAt;exact⟨y,_,IZ I (by rw[e];exact qA) sb he (CY hl hd (fm.put k ry) da),ry,q n⟩
section
variable {c k v:aR}{fc:BF}{fv:EF}{p3 ap cp:bQ}
def zz (i j:Nat)(mc:Md)(fc:BF)(mk:Md)(fk:EF)(mv:Md)(fv:EF)(m2:Md)(f2:EF):SF:=λY=>(bV mc fc Y).bind λb=>if b=af then
  (eV 0 mk fk Y).bind λkd=>(eV 0 mv fv Y).bind λd=>(bR kd).bind λkey=>(pB j Y).bind λkds=>match d with
   | .int n=>if i<Y.length/\kds.length<sizeLine then aa (.nx (match bI kds key with
    |some u=>Y.set i (aa (0,u))
    | none=>(Y.set j (aa (1,.dict (putD kds key (.int n))))).set i (aa (0,.int n)))) else ae
   |_=>ae
 else(eV 0 m2 f2 Y).bind λd=>if i<Y.length then aa (.nx (Y.set i (aa (0,d)))) else ae
theorem Mp (i j:Nat)(mc mk mv m2:Md)(hN:X.N.Nodup)(hc:DT X c fc)(hk:DE X k fk)(hv:DE X v fv)(he:DE X e2 f2)(hi:X.N[i]?=aa x:=by rfl)(hx:jR X.env.scope x:=by first|exact cF rfl|exact bY rfl)
  (hj:X.N[j]?=aa y:=by rfl) (hy:iP X.env.scope y:=by first|exact cF rfl|exact bY (cF rfl)|exact bY (bY rfl)) (hd:(y==("__debug__" : aE))=ag:=by decide)
  (fj:(y==("__classdict__" : aE))=ag:=by decide) (cf:rM (.Name y p2) "setdefault" X.env (bK (.Name y p2) X.env)=bK (.Name y p2) X.env:=by rfl)
  (gj:((fY cp (bJ (k::[v]) X.env)).all (λx=>!x.1)&&(xA cp (wW [] X.env)).all (λx=>x.1.isSome)
   && decide ((k::[v]).length+([]:List lT).length+(if ([]:List lT).isEmpty then 0 else 1)<30))=af:=by rfl)
  (cg:(ap.endLine==cp.line)=af:=by rfl) (hs:bJ (k::[v]) X.env=(ag,bK k X.env)::bJ [v] X.env:=by rfl) (jz:bJ (v::[]) X.env=(ag,bK v X.env)::bJ [] X.env:=by rfl) (ck:(fY cp (bJ [v] X.env)).any (·.1)=ag:=by rfl)
  (zh:kP (.IfExp c (.Call (.Attribute (.Name y p2) "setdefault" ap) [k,v] [] cp) e2 p3) (aa (.Name x p1)) pos.line X.env=pure ag:=by rfl) (hf:X.fn x=af\/X.env.scope.names.lookup x=aa .local:=by first|exact .inl rfl|exact .inr rfl|assumption) :
  DS X H0 P0 n0 (.Assign [.Name x p1] (.IfExp c (.Call (.Attribute (.Name y p2) "setdefault" ap) [k,v] [] cp) e2 p3) pos) (zz i j mc fc mk fk mv fv m2 f2):=
 PS.imp (OX hN hi hx (YY (evB mc hc) (AR Iu Ip O0 Ax (jL hj hy hd fj) (hZ (ev mk hk) (hZ (ev mv hv) jK jz) hs) cf gj cg hs ck) (ev m2 he)) zh hf) λD Z H gh=>by
  rw[16];obtain⟨b,e1,bx⟩:=ao ef;refine⟨B0,Y,fp,b,S,e1,λH1 S1=>?_⟩
  cases b with
  |false=>
   refine qP ?_;obtain⟨d,g1,g2⟩:=ao (show((eV 0 m2 f2 Y).bind λd=>if i<Y.length then aa (Out.nx (Y.set i (aa (0,d)))) else ae)=aa o from bx)
   obtain⟨hl,rfl⟩:=cG g2;refine⟨B0,Y,fp,d,S1,g1,λu H2 t=>?_⟩
   obtain⟨bu,S'⟩:=t.set hl;exact kk _ _ bu S'
  |true=>
   refine qR ?_;obtain⟨kd,g1,bv⟩:=ao (show((eV 0 mk fk Y).bind λkd=>(eV 0 mv fv Y).bind λd=>(bR kd).bind λkey=>(pB j Y).bind λkds=>match d with
    | .int n=>if i<Y.length/\kds.length<sizeLine then aa (Out.nx (match bI kds key with
     |some u=>Y.set i (aa (0,u))
     | none=>(Y.set j (aa (1,.dict (putD kds key (.int n))))).set i (aa (0,.int n)))) else ae
    | _=>ae)=aa o from bx)
   obtain⟨d,g2,dL⟩:=ao bv;obtain⟨key,g3,jl⟩:=ao dL;obtain⟨kds,g4,xy⟩:=ao jl;clear ef bx bv dL jl;cases d with
   |int n=>
    obtain⟨⟨hl,hz⟩,rfl⟩:=cG xy;obtain⟨p,ep,xs,h1,h2,_,_⟩:=S1.dic1 (vT g4);refine⟨.ref p,h1,.inr (.inr (.inl ⟨rfl,.inl ⟨ep,xs,h2⟩⟩)),B0,Y,fp,kd,S1,g1,λv1 H2 gh=>?_⟩
    obtain⟨ja,S2,r2⟩:=gh;have ev1:=lC g3 r2.2;refine⟨B0,Y,ja,.int n,S2,g2,λv2 H3 gh=>?_⟩
    obtain⟨fp3,S3,r3⟩:=gh;have ev2:=Aaj.1 r3.2;subst ev1 ev2;obtain⟨p3,zk,uj,q1,q2,q3,q4⟩:=S3.dic1 (vT g4);rw[11];refine⟨p3,zk,uj,key,.int n,rfl,rfl,q2,by rw[q3.length];exact hz,?_⟩
    rcases tO q3 with⟨n1,n2⟩|⟨d',v',s1,s2,rd⟩
    .refine .inr ⟨n2,λm=>?_⟩
     rw[n1] at kk;have S4:=q4 m _ _ (DV (k:=key) (d:=.int n) (v:=.int n) q3 (Aaj.2 rfl));obtain⟨bu,S'⟩:=S4.An5 (Aaj.2 rfl) (by simpa using hl)
     exact kk _ _ bu S'
    .refine .inl ⟨v',s2,?_⟩;rw[s1] at kk;obtain⟨bu,S'⟩:=S3.An5 rd hl;exact kk _ _ bu S'
   |_=>cases xy
end
section
variable {Z:St}
def AL (Z:St)(H:Hp)(i j:Nat)(k:aI):Prop:=∃ p ep xs q,Z[i]?=aa (aa (.ref p))/\H p=aa (.dK ep xs)/\fH xs k=aa (.ref q)/\Z[j]?=aa (aa (.ref q))
theorem AL.set {k:aI}{l:Nat}(h:AL Z H i j k)(hi:l≠i)(hj:l≠j):AL (Z.set l (aa v)) H i j k:=by
 obtain⟨p,ep,xs,q,h1,h2,h3,h4⟩:=h;exact⟨p,ep,xs,q,by rw[mJ hi];exact h1,h2,h3,by rw[mJ hj];exact h4⟩
end
section
variable {Z:St}
def wN (kds:List (aA×aA)):List (Option aI):=kds.map λkd=>bR kd.1
theorem Ac:∀ {ds:List (aA×aA)} {xs:List (aI×V)} {Fs:List (List aC)},All3 (R1 K B H m) ds xs Fs->wN ds=xs.map λkv=>aa kv.1
 |_,_,_,.nil=>rfl
 |(k0,d0)::ds,(k',v0)::xs,_,.cons h t=>by
  obtain⟨ek,_⟩:=h;have ek:=ek;subst ek;show bR (kD k')::wN ds=aa k'::xs.map λkv=>aa kv.1
  rw[Abv,Ac t]
theorem Bg {k:aI}:∀ {xs:List (aI×V)},k∉xs.map (·.1)->(xs.map λkv=>if kv.1=k then(kv.1,v) else kv)=xs
 |[],_=>rfl
 |x::xs,h=>by
  rw[dB,cO] at h;rw[dB,if_neg (λe=>h (.inl e.symm)),Bg λm=>h (.inr m)]
theorem Aq{k:aI}:∀ {ds:List (aA×aA)} {xs:List (aI×V)} {Fs:List (List aC)},All3 (R1 K B H m) ds xs Fs->(xs.map (·.1)).Nodup->∀ d,bI ds k=aa d ->
  ∃ A f C,Fs=A++f::C/\∀ (B' H':Hp) (d':aA) (v':V) (f':List aC),Ext B B'->Aga K B' H' m d' v' f'->(∀ g∈A++C,∀ a∈g,H' a=H a)->All3 (R1 K B' H' m) (lF ds k d') (xs.map λkv=>if kv.1=k then(kv.1,v') else kv) (A++f'::C)
 |_,_,_,.nil,_,d,e=>by simp[bI] at e
 |(k0,d0)::ds,(k',v0)::xs,f0::Fs,.cons h t,nd,d,e=>by
  obtain⟨ek,h⟩:=h;have ek:=ek;subst ek;rw[dB,kC] at nd;rw[vX,Abv] at e;by_cases q:k'=k
  .refine⟨[],f0,Fs,rfl,λB' H' d' v' f' xb r kp=>?_⟩
   show All3 _ (if bR (kD k')=aa k then(kD k',d')::ds else _) ((if k'=k then(k',v') else(k',v0))::xs.map λkv=>if kv.1=k then(kv.1,v') else kv) _
   rw[if_pos (by rw[Abv,q]),if_pos q,Bg (by rw[<-q];exact nd.1)]
   exact .cons ⟨rfl,r⟩ (t.imp λa b c mm rr=>⟨rr.1,rr.2.keep xb (kp c (by simpa using mm))⟩)
  .rw[if_neg (λz=>q (eO z))] at e
   obtain⟨A,f,C,rfl,up⟩:=Aq t nd.2 d e;refine⟨f0::A,f,C,rfl,λB' H' d' v' f' xb r kp=>?_⟩
   show All3 _ (if bR (kD k')=aa k then(kD k',d')::ds else(kD k',d0)::lF ds k d') ((if k'=k then(k',v') else(k',v0))::xs.map λkv=>if kv.1=k then(kv.1,v') else kv) _
   rw[if_neg (by rw[Abv];exact λz=>q (eO z)),if_neg q]
   exact .cons ⟨rfl,h.keep xb (kp f0 (by simp))⟩ (up B' H' d' v' f' xb r λg mm=>kp g (by rw[Jq];exact bH _ mm))
theorem Sta.oldKey{ds:List (aA×aA)}{k:aI}{d0:aA}(S:Sta K H0 P0 B0 Y Z H fp)(e:Y[i]?=aa (aa (c,.dict ds)))(ld:(wN ds).Nodup)(hk:bI ds k=aa d0)(r:Aga K (L2.hid H (Hd P0 fp)) H m d v (fp Y.length))(hc:CM c m:=by exact .inl ⟨rfl,rfl⟩):∃ p ep xs,Z[i]?=aa (aa (.ref p))/\H p=aa (.dK ep xs)/\xs.length=ds.length /\
  ∀ n,∃ bu,Sta K H0 P0 B0 (Y.set i (aa (c,.dict (lF ds k d)))) Z (au H p (.dK n (putK xs k v))) bu:=by
 obtain⟨p,ep,xs,Fs,h1,h2,h3,h4⟩:=S.dicC hc e;have hi:=(cX.1 e).1;refine⟨p,ep,xs,h1,h2,JV h4,λn=>?_⟩
 have ndx:(xs.map (·.1)).Nodup:=by
  rw[Ac h4,show(xs.map λkv=>aa kv.1)=(xs.map (·.1)).map aa by rw[dS];rfl] at ld
  exact(qC.1 ld).imp λh e=>h (by rw[e])
 have nd:=S.nd i;rw[h3,kC] at nd;obtain⟨v0,f0,_,hv0,_⟩:=MD h4 nd.2 _ hk;have tq:putK xs k v=xs.map λkv=>if kv.1=k then(kv.1,v) else kv:=by
  unfold putK;rw[yX,hv0]
  rfl
 obtain⟨A,f,C,eF,up⟩:=Aq h4 ndx _ hk;have sub:∀ a,a∈(A++C).flatten->a∈Fs.flatten:=λa m=>by
  rw[eF];simp only[uG,nP,iC] at m ⊢;rcases m with m|m
  .exact .inl m
  .exact .inr (.inr m)
 have nf:(A++C).flatten.Nodup:=by
  have z:=nd.2;rw[eF,uG,nP] at z;rw[uG];exact Ju ((Js _).append (List.sublist_append_right _ _)) z
 rw[tq];exact S.putG hi h1 h3 sub nf r hc λB' xb rk kp=>up B' _ d v _ xb rk kp
end
section
variable {k o:aR}
def sX (i:Nat)(m:Md)(f:EF)(mk:Md)(g:EF)(c:Nat:=2)(n:Nat:=1):SF:=λY=>(eV n m f Y).bind λd=>(sM i Y c).bind λkds=>(eV 0 mk g Y).bind λk=>(bR k).bind λk=>if ((bI kds k).isSome=af/\(wN kds).Nodup)/\kds.length<sizeLine then aa (.nx (Y.set i (aa (c,.dict (lF kds k d))))) else ae
theorem B9(i:Nat)(m mk:Md)(hu:X.A.units+40<cLine)(he:DF n X e f)(hk:DE X k g)(hN:X.N[i]?=aa x:=by rfl)(hv:iP X.env.scope x:=by first|exact cF rfl|exact bY (cF rfl)|exact bY (bY rfl))(hd:(x==("__debug__" : aE))=ag:=by decide)
  (fj:(x==("__classdict__" : aE))=ag:=by decide) (hs:kP e (aa (.Subscript (.Name x px) k ay)) pos.line X.env=pure ag:=by rfl) (hc:CM c n:=by first|exact .inl ⟨rfl,rfl⟩|exact .inr ⟨rfl,rfl⟩):DS X H0 P0 n0 (.Assign [.Subscript (.Name x px) k ay] e pos) (sX i m f mk g c n):=
 PS.imp (EB hu (jL hN hv hd fj) hk (ev (H0:=H0) (P0:=P0) m he) hs) λD Z H gh=>by
  rw[16];obtain⟨d,e1,bx⟩:=ao ef;obtain⟨kds,e2,bv⟩:=ao bx;obtain⟨kd,e3,dL⟩:=ao bv;obtain⟨key,e4,jl⟩:=ao dL;obtain⟨⟨⟨hn,ld⟩,hl⟩,rfl⟩:=cG jl;obtain⟨d0,hn⟩:=xD.1 hn;clear ef bx bv dL;refine⟨B0,Y,fp,d,S,e1,λv H2 gh=>?_⟩
  obtain⟨ja,S2,r2⟩:=gh;obtain⟨p,ep,xs,h1,h2,_,_⟩:=S2.oldKey (vZ e2) ld hn r2 hc;have hf:dM kd=af:=by rw[vY e4];cases key<;>simp[kD,dM]
  refine⟨.ref p,h1,qT S2 e3 hf λu H3 x3 r3=>?_⟩
  have S3:=S2.grow x3;have r4:Aga X.K (hid H3 (Hd P0 ja)) H3 n d v (ja Y.length):=r2.keep (cT x3) λa m=>by
   rcases(S2.own _ a m).2 with⟨xs,e⟩|⟨xs,e⟩
   .rw[e,x3 _ _ e]
   .rw[e,x3 _ _ e]
  obtain⟨p3,zk,uj,q1,q2,q3,q4⟩:=S3.oldKey (vZ e2) ld hn r4 hc;rw[11];refine⟨p3,_,rfl,.inl ⟨zk,uj,key,q2,lC e4 r3,by rw[q3];exact hl,rfl⟩,λn'=>?_⟩
  obtain⟨bu,S4⟩:=q4 n';exact kk _ _ bu S4
end
section
variable {c k v:aR}{fc:BF}{fv:EF}{ap cp posB posC:bQ}{body:List bS}{F:SF}
def uV (m2:Md)(f2:EF)(mc:Md)(fc:BF)(F:SF)(u:Int)(Y:aU):Option Out:=(eV 0 m2 f2 Y).bind λw=>match w with
 |.int w=>if u≠w then F Y else(bV mc fc Y).bind λb=>if b=af then F Y else aa (.nx Y)
 |_=>ae
def uX (j:Nat)(mk:Md)(fk:EF)(mv:Md)(fv:EF)(m2:Md)(f2:EF)(mc:Md)(fc:BF)(F:SF):SF:=λY=>
 (eV 0 mk fk Y).bind λkd=>(eV 0 mv fv Y).bind λd=>(bR kd).bind λkey=>(pB j Y).bind λkds=>match d with
  |.int n=>if kds.length<sizeLine then match bI kds key with
    |some (.int u)=>uV m2 f2 mc fc F u Y
    |some _=>ae
    |none=>uV m2 f2 mc fc F n (Y.set j (aa (1,.dict (putD kds key (.int n)))))
   else ae
  |_=>ae
theorem YD {m2 mc:Md}{Z:St}{u:Int}{o:Out}{D:Ends}(S:Sta K H0 P0 B0 Y Z H fp)(ef:uV m2 f2 mc fc F u Y=aa o)(kk:UQ K H0 P0 B0 n0 D o) :
  tE K H0 P0 0 m2 f2 Z H λz H2=>xY K af (.int u) z H2 λb H3=>∃ c,b=.bl c/\if c=af then tS K H0 P0 n0 F D Z H3 else tB' K H0 P0 mc fc Z H3 λb H4=>if b=af then tS K H0 P0 n0 F D Z H4 else UA D Z H4:=by
 obtain⟨w,e1,ef⟩:=ao ef;cases w with
 |int w=>
  refine⟨B0,Y,fp,.int w,S,e1,λv H2 gh=>?_⟩
  obtain⟨ja,S2,r2⟩:=gh;have ev:=Aaj.1 r2.2;subst ev;refine⟨.int u,.int w,Aaj.2 rfl,Aaj.2 rfl,rfl,rfl,_,rfl,?_⟩;have eb:(af != bX (.int u) (.int w))=decide (u≠w):=by
   have:bX (.int u) (.int w)=decide (u=w):=by
    simp only[bX]
    rfl
   rw[this];by_cases q:u=w<;>simp[q]
  rw[eb];have ef:(if u≠w then F Y else(bV mc fc Y).bind λb=>if b=af then F Y else aa (Out.nx Y))=aa o:=ef
  by_cases q:u≠w
  .rw[if_pos q] at ef;rw[if_pos (decide_eq_true q)];exact⟨B0,Y,ja,o,S2,ef,kk⟩
  .rw[if_neg q] at ef;rw[if_neg (by rw[decide_eq_false q];simp)]
   obtain⟨b,g,ef⟩:=ao ef;refine⟨B0,Y,ja,b,S2,g,λH3 S3=>?_⟩
   cases b with
   |true=>
    rw[if_pos rfl] at ef ⊢;exact⟨B0,Y,ja,o,S3,ef,kk⟩
   |false=>
    rw[if_neg (by simp)] at ef ⊢
    cases ef;exact kk _ _ ja S3
 |_=>cases ef
theorem Yj (j:Nat)(mk mv m2 mc:Md)(hu:X.A.units+100<cLine)(hc:DT X c fc)(hk:DE X k fk)(hv:DE X v fv)(he:DE X e2 f2)(ha:vx X H0 P0 n0 body F)(hj:X.N[j]?=aa y:=by rfl)(hy:iP X.env.scope y:=by first|exact cF rfl|exact bY (cF rfl)|exact bY (bY rfl))(hd:(y==("__debug__" : aE))=ag:=by decide)
  (fj:(y==("__classdict__" : aE))=ag:=by decide) (cf:rM (.Name y p2) "setdefault" X.env (bK (.Name y p2) X.env)=bK (.Name y p2) X.env:=by rfl)
  (gj:((fY cp (bJ (k::[v]) X.env)).all (λx=>!x.1)&&(xA cp (wW [] X.env)).all (λx=>x.1.isSome)&&decide ((k::[v]).length+([]:List lT).length+(if ([]:List lT).isEmpty then 0 else 1)<30))=af:=by rfl)
  (cg:(ap.endLine==cp.line)=af:=by rfl) (hs:bJ (k::[v]) X.env=(ag,bK k X.env)::bJ [v] X.env:=by rfl) (jz:bJ (v::[]) X.env=(ag,bK v X.env)::bJ [] X.env:=by rfl) (ck:(fY cp (bJ [v] X.env)).any (·.1)=ag:=by rfl)
  (hm:wZ .NotEq e2=ag:=by exact kZ _) :
  DS X H0 P0 n0 (.If (.BoolOp .Or [.Compare (.Call (.Attribute (.Name y p2) "setdefault" ap) [k,v] [] cp) [.NotEq] [e2] posC,c] posB) body [] pos) (uX j mk fk mv fv m2 f2 mc fc F):=
 PS.imp (UN (UP (JL (OQ hu) (AR Iu Ip O0 Ax (jL hj hy hd fj) (hZ (ev mk hk) (hZ (ev mv hv) jK jz) hs) cf gj cg hs ck) (ev m2 he) hm) (WI (evB mc hc))).pt ha Gf) λD Z H gh=>by
  rw[16];obtain⟨kd,g1,bv⟩:=ao ef;obtain⟨d,g2,dL⟩:=ao bv;obtain⟨key,g3,jl⟩:=ao dL;obtain⟨kds,g4,xy⟩:=ao jl;clear ef bv dL jl;cases d with
  |int n=>
   obtain⟨hz,ef7⟩:=JK xy;obtain⟨p,ep,xs,h1,h2,_,_⟩:=S.dic1 (vT g4);refine⟨.ref p,h1,.inr (.inr (.inl ⟨rfl,.inl ⟨ep,xs,h2⟩⟩)),B0,Y,fp,kd,S,g1,λv1 H2 gh=>?_⟩
   obtain⟨ja,S2,r2⟩:=gh;have ev1:=lC g3 r2.2;refine⟨B0,Y,ja,.int n,S2,g2,λv2 H3 gh=>?_⟩
   obtain⟨fp3,S3,r3⟩:=gh;have ev2:=Aaj.1 r3.2;subst ev1 ev2;obtain⟨p3,zk,uj,q1,q2,q3,q4⟩:=S3.dic1 (vT g4);rw[11];refine⟨p3,zk,uj,key,.int n,rfl,rfl,q2,by rw[q3.length];exact hz,?_⟩
   rcases tO q3 with⟨n1,n2⟩|⟨d',v',s1,s2,rd⟩
   .refine .inr ⟨n2,λm=>?_⟩
    rw[n1] at ef7;exact YD (q4 m _ _ (DV q3 (Aaj.2 rfl))) ef7 kk
   .refine .inl ⟨v',s2,?_⟩;rw[s1] at ef7;cases d' with
    |int u=>
     have:=Aaj.1 rd;rw[19];exact YD S3 ef7 kk
    |_=>cases ef7
  |_=>cases xy
end
def HL (a:aC)(ep n:Nat):It:=
  ⟨λi H=>∃ kvs kv,H a=aa (.dK ep kvs)/\kvs.length=n/\kvs[i]?=aa kv,
   λi H v H'=>∃ T kv,H T=ae/\v=.ref T/\(∀ kvs,H a=aa (.dK ep kvs)->kvs[i]?=aa kv)/\H'=au H T (.tup [kV kv.1,kv.2]),
   λi H=>∃ kvs,H a=aa (.dK ep kvs)/\kvs.length=n/\n<=i⟩
theorem p4:rL table "dict_itemiterator.__iter__" = aa Builtin.«dict_keyiterator.__iter__»:=GK (id':="dict_keyiterator.__iter__") (by kernel_rfl) rfl (by rw[0]) (by kernel_rfl)
theorem p6(hT:s.TypeIs (.ref it) "dict_itemiterator")(h:Q (.ref it) s):aM (aO prog w) A (nH (.ref it)) Q E s:=by
 refine GD hT P6 (gH P6 hT p4 ?_ (F.args_dict_itemiterator_iter_1 _));exact aL ⟨_,rfl,"dict_itemiterator",_,hT,F.slot_dict_itemiterator_next.lookup,h⟩
theorem G9 {P:bG}{es:List aR}{cx}{pos:bQ}(a it:aC)(ep n:Nat) :
  Turn P w K (.Tuple es cx pos) (HL a ep n) [it] it (λi h=>∃ ok ov,IsItemIter h it a i n ep ok ov) where
 mem:=cB.2 rfl
 obj:=λi h ⟨ok,ov,g⟩ b hb=>by
  rw[cB.1 hb];exact⟨_,g,λv z=>by cases z⟩
 keep:=λi h h' ⟨ok,ov,g⟩ k=>⟨ok,ov,k it (cB.2 rfl) _ g⟩
 item:=by
  rw[3];obtain⟨kvs,kv,ha,hn,hk⟩:=hg;subst hn;obtain⟨z,nm,vs,r,d⟩:=CF I.hok (.inl ha);have hl:kvs.length=vs.length:=r.length;obtain⟨u,hu,r1,r2⟩:=VJ r hk;obtain⟨uk,uv⟩:=u;obtain⟨ok,ov,st⟩:=st;rw[hl] at st;have xt:it<s.heap.objs.size:=bU st;refine wpAny_pyNext_items_item st d hu λkey h' nj eo pr sz keep=>?_
  have Y6:kv.1=uk:=r1;have rk:RelV (kV kv.1) key:=by rw[Y6];exact Ub nj
  have fr:H s.heap.objs.size=ae:=I.hok.fresh (bD _);have I0:Inv X ah Z (au H s.heap.objs.size (.tup [kV kv.1,kv.2])) { s with heap:=s.heap.push { cls:=.type "tuple",data:=.seq #[key,uv] },toks:=s.toks }:=
   I.laid (t':=s.toks) (o:=.tup [kV kv.1,kv.2]) (λb ob q=>bT _ q) (bD _) ⟨by show 2<=sizeLine;decide,[key,uv],.cons rk (.cons r2 .nil),Bdm.new _ _⟩
  have S8:∀ b∈[it],jG X ah (au H s.heap.objs.size (.tup [kV kv.1,kv.2])) b:=λb m=>⟨by rw[dF (cQ (by rw[cB.1 m];exact xt))];exact(hf b m).1,(hf b m).2⟩
  have I1:Inv X ah Z (au H s.heap.objs.size (.tup [kV kv.1,kv.2])) { s with heap:=h',toks:=s.toks }:=I0.turnM (t':=s.toks) S8 λb o n g=>by
   have n:b≠it:=λq=>n (cB.2 q)
   by_cases hb:b=s.heap.objs.size
   .subst hb;have e':(s.heap.push { cls:=.type "tuple",data:=.seq #[key,uv] }).get? s.heap.objs.size=aa { cls:=.type "tuple",data:=.seq #[key,uv] }:=cV _ rfl;have:aa o=aa _:=g.symm.trans e';rw[this];exact pr
   .exact keep b o n ((RU _ _ _ hb).symm.trans g)
  refine⟨_,rfl,wpAny_letOwnedTupleGo_items eo λh2 ge sb=>?_⟩
  have I2:Inv X ah Z (au H s.heap.objs.size (.tup [kV kv.1,kv.2])) { s with heap:=h2,toks:=s.toks }:=I1.turnM (t':=s.toks) S8 λb o n g=>sb.extBut b o (λq=>n (cB.2 q)) g
  exact⟨.ref s.heap.objs.size,_,I2,rfl,⟨_,kv,fr,rfl,λkvs' h=>by rw[ha] at h;cases h;exact hk,rfl⟩,⟨_,_,by rw[hl];exact ge⟩,λb m=>(S8 b m).1⟩
 done:=by
  rw[3];obtain⟨kvs,ha,hn,hi⟩:=hg;subst hn;obtain⟨z,nm,vs,r,d⟩:=CF I.hok (.inl ha);have hl:kvs.length=vs.length:=r.length;obtain⟨ok,ov,st⟩:=st;rw[hl] at st;exact wpAny_pyNext_items_end (I.ok.hd hc) st d (by simp;omega) λh' eb=>⟨rfl,I.turnM (t':=s.toks) hf λb o nb e=>eb b o (λq=>nb (cB.2 q)) e⟩
 self:=λ_ _ _ _ _ st h=>by
  obtain⟨ok,ov,st⟩:=st;exact p6 ⟨_,st,rfl⟩ h
section
variable {l:aR}{es:List aR}{cx:Nat}
def Ko (tl:TE):TI:=λZ H R=>tl Z H λx H1=>∃ a ep kvs,x=.ref a/\H1 a=aa (.dK ep kvs)/\R (HL a ep kvs.length) H1
theorem Xi {tl:TE}(hl:PE X l tl)(cf:rM l "items" X.env (bK l X.env)=bK l X.env:=by rfl)(cg:(ay.endLine==pos.line)=af:=by rfl):PI X (.Tuple es cx wf) (.Call (.Attribute l "items" ay) [] [] pos) (Ko tl):=by
 intro ah s Z H R I h;refine wpAny_Call_method cf rfl cg F.plainAttrs_dict F.slot_dict_items F.type_dict_items (bf (hl ah s Z H _ I h) λv s1 gh=>?_)
 obtain⟨x,H1,I1,r1,q1⟩:=gh;obtain⟨a,ep,kvs,rfl,ha,q⟩:=q1;cases r1;obtain⟨z,nm,vs,r,d⟩:=CF I1.hok (.inl ha);obtain⟨_,_,vs2,_,dd⟩:=wJ I1.hok ha;have hn:=r.length;refine⟨dd.typeIs,dd.mapOf.noDict,?_⟩;refine method_meetsIn F.slot_dict_items F.entry_dict_items rfl (PySem.evalArgs_none ⟨rfl,dd.typeIs,F.args_dict_items_1 _,_,meets_dict_items _ a nm,⟨vs2,dd⟩,?_⟩);have d2:(s1.heap.push { cls:=.type "dict_items",data:=.fields #[.ref a] }).DictAt (fU X.prog X.w) a vs ep:=by
  obtain⟨o,es,ho,rr⟩:=d;exact⟨o,es,bT _ ho,rr⟩
 refine wpAny_pyIter_items ⟨_,cV _ rfl,rfl,rfl⟩ d2 ?_;have all:∀ b o,s1.heap.get? b=aa o->((s1.heap.push { cls:=.type "dict_items",data:=.fields #[.ref a] }).push { cls:=.type "dict_itemiterator",data:=.fields #[.none,.bool ag,.ref a,.int 0 0,.int vs.length 0,.int ep 0,.none,.none] }).get? b=aa o:=λb o e=>bT _ (bT _ e)
 refine⟨_,[_],_,_,H1,rfl,I1.kept all,G9 a _ ep kvs.length,⟨.none,.none,?_⟩,λb hb=>?_,q⟩
 .rw[hn];exact cV _ rfl
 .rw[cB.1 hb];have le:s1.heap.objs.size<=(s1.heap.push { cls:=.type "dict_items",data:=.fields #[.ref a] }).objs.size:=by
   rw[uI];omega
  exact I1.fpOk le (I1.hok.fresh le)
def U9 (f:EF):AF:=λY=>(f Y).bind λd=>match d with
 |.dict kds=>if (jg kds&&kds.all λkd=>cM kd.1)=af then aa (kds.map λkd=>.tuple [kd.1,kd.2]) else ae
 |_=>ae
theorem z6{kvs:List (aI×V)}(h:B a=aa (.dK ep kvs))(r:Abo K B kds kvs)(hl:(kds.all λkd=>cM kd.1)=af):xc K B (HL a ep kvs.length) (kds.map λkd=>.tuple [kd.1,kd.2]):=λi H2 x2=>by
 have h2:=x2 _ _ h;refine⟨λd hd=>?_,λe=>⟨kvs,h2,rfl,by rw[<-e,cD,r.length];exact bD _⟩⟩
 rw[eE] at hd;obtain⟨kd,hk,rfl⟩:=fZ.1 hd;obtain⟨kv,g1,g2,g3⟩:=YJ r hk;refine⟨⟨kvs,kv,h2,rfl,g1⟩,?_⟩;rintro x H3 ⟨T,zu,fr,rfl,hx,rfl⟩;have:zu=kv:=eO ((hx kvs h2).symm.trans g1);rw[19];have ext:Ext H2 (au H2 T (.tup [kV zu.1,zu.2])):=λb u e=>by rw[dF (kN e fr)];exact e
 refine⟨ext,λP2 hP2 xb=>?_⟩
 have nT:¬ P2 T:=λq=>by
  rcases hP2 T q with⟨o,e⟩|⟨o,e⟩<;>rw[fr] at e<;>cases e
 have gT:hid (au H2 T (.tup [kV zu.1,zu.2])) P2 T=aa (.tup [kV zu.1,zu.2]):=gM nT eB;have xx:Ext B (hid (au H2 T (.tup [kV zu.1,zu.2])) P2):=xb.trans (cT ext);have lay:=dW.1 hl kd (eU hk);refine Aar.2 ⟨T,_,rfl,gT,Aaf.2 ⟨_,_,rfl,?_,Aaf.2 ⟨_,_,rfl,g3.ext xx,Aak.2 rfl⟩⟩⟩;rw[g2];exact Uv (by rw[<-g2];exact lay)
theorem YX(h:DE X l f)(cf:rM l "items" X.env (bK l X.env)=bK l X.env:=by rfl)(cg:(ay.endLine==pos.line)=af:=by rfl):DI X (.Tuple es cx wf) (.Call (.Attribute l "items" ay) [] [] pos) (U9 f):=PI.imp (Xi h cf cg) λZ H R gh=>by
 obtain⟨P,Y,ds,hP,rs,ef,k⟩:=gh;rw[17];cases d with
 |dict kds=>
  obtain⟨hl,rfl⟩:=cG ef;refine⟨P,Y,_,hP,rs,e1,dY λv H1 x1 r1=>?_⟩
  obtain⟨pk,hl⟩:=jQ.1 hl;obtain⟨a,kvs,rfl,hq,rr⟩:=(rD pk).1 r1;exact⟨a,kvs.1,kvs.2,rfl,Aap _ _ hq,k _ H1 x1 (z6 hq rr hl)⟩
 |_=>cases ef
end
open PySem PySem.W PySem.Calls PyProof.Rows Att
def yL (ns:List Int):Prop:=∀ x∈ns,mM x<=1048576
theorem weigh:∀ {ns:List Int} {x:Int},x∈ns->mM x<=WData.weightAll (ns.map WData.int)
 |n::ns,x,m=>by
  rw[dB,WData.weightAll];have e:WData.weight (.int n)=mM n:=by
   rw[WData.weight]
   rfl
  rw[13]
  .rw[e];omega
  .have:=weigh m;omega
theorem Xo(h:WData.layableAll [WData.list (ns.map WData.int)]=af):yL ns:=λx m=>by
 have h1:WData.layable (.list (ns.map .int))=af:=by simpa [WData.layableAll] using h
 have h2:=of_decide_eq_true (jQ.1 h1).2;rw[WData.weight] at h2;have:=weigh m;omega
theorem i3 {l:OpenLaw}{q:bG}{oh:List aE}{XP:(aE->Option aD)->aQ->Prop}{YP:aX->aQ->Prop}{d:DefRec}
  (hn:l.most=aa n) (hdf:d.params.defaults=[])
  (call:∀ (w:aX) (s₀ s₁:aH) (mg mb:aE->Option aD) (fa:aC) (o:bB) (pm cd ik:aD) (a:aC) (vs:List aD) (ns:List Int),
   yL ns->Ground q oh [] XP w s₀ mg mb s₁.heap->YP w s₁.heap ->
   s₁.heap.get? fa=aa o->o.data=.func (docDef d.name d.params d.body d.scope pm cd ik)->s₁.heap.CodeRec cd d.name->mg d.name=aa (.ref fa) ->
   s₁.heap.get? a=aa { cls:=.type "list",data:=.seq vs.toArray }->uH vs ns->ns.length<=n->s₁.gens = #[] ->
   kB (aO l.prog w) wX (.call (.ref fa) ⟨[.ref a],[]⟩) (λr s'=>r=.ok (.ret (.bool af))/\OldK s₁.heap s'.heap/\s'.os=s₁.os/\rW s'.gens) s₁) :
  WalkO q oh XP YP l.row.toRowW d [] (λf vs=>PySem.call f vs):=by
 intro w s₀ s₁ mg mb G am fa o pm cd ik dV kV ho hd fj hD hmg hg args R8 as wg hlay hrd hwl hlo;obtain rfl:dV=.none:=Dflts.none hD hdf;obtain rfl:kV=.none:=Dflts.noKw hD;obtain⟨a,vs,ns,rfl,rfl,T3,xz,av⟩:=E3 hn wg hwl;refine enter_call (AX (call w s₀ s₁ mg mb fa o pm cd ik a vs ns (Xo hlay) G am ho (fd_plain hd) fj hmg T3 xz av hg) λr s' hq=>?_)
 obtain⟨rfl,h2,h3,h4⟩:=hq;exact⟨.inl ⟨.bool af,.bool af,[],rfl,λ_=>rfl,.bool af,D2 l _,λ_=>⟨List.Pairwise.nil,λ_ hm=>(nomatch hm)⟩⟩,h2,h3,h4⟩
theorem Bah {l:Il}{k:Nat}{q:bG}{oh:List aE}{XP:(aE->Option aD)->aQ->Prop}{YP:aX->aQ->Prop}{d:DefRec}{K:Params->aJ}{CX:aX->yi}{sp:aX->Sp}
  (hn:l.most=aa n) (hn2:n<=sizeLine) (hdf:d.params.defaults=[]) (hr:Room k wX)
  (hY:∀ (w:aX) (h:aQ),YP w h->(K w.params).In h)
  (F:∀ (w:aX) (mg:aE->Option aD) (fa:aC) (h:aQ),(K w.params).In h->h.Ns eM mg->mg d.name=aa (.ref fa) ->
   ∃ fd:iE,(∀ (s:aH) (u:aD),BindsTo s fd ⟨[u],[]⟩ [(x,u)]) /\
    ∀ base:aQ,(K w.params).In base->base.Ns eM mg->FnOk l.prog w (K w.params) mg base (CX w) k fa fd [x] (sp w))
  (NE:∀ (w:aX) (H:Hp) (a:aC) (ns:List Int),yL ns->ns.length<=n->Only H->SqL (K w.params) H a (ns.map V.int)->sp w [.ref a] H (λv _=>v=.bl af) λ_ _ _=>False)
  (hCX:∀ (w:aX) (H:Hp) (s:aH) (e:aD) (s':aH),CX w [] H s (λ_ _ _=>False) e s'->False) :
  PySem.W.WalkO q oh XP YP l.row.toRowW d [] (λf vs=>PySem.call f vs):=by
 refine i3 hn hdf λw s₀ s₁ mg mb fa o pm cd ik a vs ns hB G am ho hd fj hmg T3 xz av hg=>?_
 have KX:=hY w _ am;obtain⟨fd,hb,hF⟩:=F w mg fa _ KX G.T.g hmg;exact Vo KX G.T.g G.T.b G.T.builtins G.T.nolimit hg T3 xz (dA av hn2) hr hF hb (λH hO hS=>NE w H a ns hB av hO hS) λH e s'=>hCX w H s₁ e s'
def pH:aA->aA->Option aA:=xg (λi j=>(i.natAbs<2^64\/j.natAbs<2^64)\/mM i+mM j<=134217728) λi j=>.int (i*j)
section
variable {a b:aR}{fa fb:EF}
theorem Rl:OpR X (kR .Mult) (rI (λi j=>(i.natAbs<2^64\/j.natAbs<2^64)\/mM i+mM j<=134217728) λi j=>.int (i*j)):=by
 intro ah s Z H x y v u Q I rx ry ⟨i,j,ex,ey,hc,q⟩;rcases hc with hc|hc
 .exact ZS ah s Z H x y v u Q I rx ry ⟨i,j,ex,ey,.inl hc,q⟩
 .exact W2 (λi j _ _ _ _ _ hc q=>mul_int q (O4 (bD _) (bD _) hc)) ah s Z H x y v u Q I rx ry ⟨i,j,ex,ey,hc,q⟩
theorem Tz (ha:DE X a fa)(hb:DE X b fb):DE X (.BinOp a .Mult b pos) (ai pH fa fb):=qV Rl (AS (λ_ _ h=>h) λ_ _ _=>Aaj.2 rfl) ha hb
end
theorem Ab6.length:∀ {kds:List (aA×aA)} {ts:List (List aA×V)},Ab6 K H kds ts->ts.length=kds.length
 |[],ts,h=>by rw[Acw.1 h];rfl
 |(k,d)::r,ts,h=>by
  obtain⟨k',x,rr,rfl,_,_,h2⟩:=Abw.1 h;simp[Ab6.length h2]
mutual
theorem t5:∀ d:aA,bF d=af->dM d=af
 |.int _,_=>by simp[dM]
 |.str _,_=>by simp[dM]
 |.tuple ds,h=>by
  simp only[dM];exact MJ ds (by simpa [bF] using h)
 |.none,h=>by simp[bF] at h
 |.bool _,h=>by simp[bF] at h
 |.list _,h=>by simp[bF] at h
 |.dict _,h=>by simp[bF] at h
theorem MJ:∀ ds:List aA,bO ds=af->mX ds=af
 |[],_=>rfl
 |d::r,h=>by
  have h:bF d=af/\bO r=af:=by simpa [bO] using h
  simp[mX,t5 d h.1,MJ r h.2]
end
theorem E5(h:∀ kd∈kds,dM kd.2=af)(hd:dM d=af):∀ kd∈lD kds k d,dM kd.2=af:=λkd m=>by
 unfold lD at m;split at m
 .obtain⟨y,my,rfl⟩:=bL.1 m;split
  .exact hd
  .exact h y my
 .rcases iC.1 m with m|m
  .exact h kd m
  .rw[cB.1 m];exact hd
section
variable {k:aR}
theorem XA:DF 9 X (.Dict [] [] pos) (eC (.dict [(.none,.none)])):=PE.imp Wt λZ H Q gh=>by
 rw[6];cases ef;refine λq hq=>k (.ref q) (au H q (.dT 0 [])) [q] (Ext.new hq) (kC.2 ⟨by simp,.nil⟩) (λa m=>?_) (bY ⟨[],q,(0,[]),rfl,rfl,eB,rfl,λkd m=>by simp at m,Acw.2 rfl⟩:_\/UB _ _ _ _ _ _)
 rw[cB.1 m];exact⟨hq,_,eB⟩
theorem M4(d:aC)(hd:(d==iL)=ag) :
  MeetsIn prog w (Builtin.«dict.__len__» ⟨[.ref d],[]⟩) (λ_ R s=>∃ xs,s.heap.DictOfH (iY prog w) d xs/\R (.ok (.ret (.int xs.length s.toks))) { s with toks:=s.toks+1 }):=
 .of_wp λA R s gh=>by
  obtain⟨xs,hm,h⟩:=gh;obtain⟨o,es,ep,ho,hc,hdat,TD,_,_⟩:=hm;show aM _ _ (dictSize d>>=_) _ _ s;unfold dictSize;refine aF (aF (PZ ho hdat (aL ?_)));refine aF (wpAny_pendingCount_other hd (wpAny_ret_mkInt ?_));have:=size_of_entries TD;rw[QX,this];exact h
theorem Km{d:aC}{xs:List tf}(hd:(d==iL)=ag)(hm:s.heap.DictOfH (iY prog w) d xs)(hz:(xs.length:Int)<2^63)(h:∀ t s',s'={ s with toks:=s.toks+1+1 }->Q (.int xs.length t) s') :
  aM (aO prog w) A (call (.builtin "len") [.ref d]) Q E s:=by
 refine HE kind_len plain_len entry_len (args_len1 _) ?_;unfold Builtin.«len»;refine aF (aL ?_);refine aF (mG hm.typeIs F.slot_dict_len (QJ F.slot_dict_len hm.typeIs F.entry_dict_len (F.args_dict_len_1 _) (M4 d hd) ⟨xs,hm,?_⟩));refine aF (fA (aL ?_));refine aF (GF ?_);rw[if_neg (by omega)]
 rw[if_neg (by omega)]
 exact aF (wpAny_mkInt (aL ⟨_,rfl,h _ _ rfl⟩))
theorem x9:Acy X (.builtin "len") (λxs H Q=>∃ a ep ts,xs=[V.ref a]/\H a=aa (.dT ep ts)/\Q (.int ts.length) H):=by
 rw[5];obtain⟨a,ep,ts,rfl,ha,q⟩:=h;rw[7];obtain⟨z,hd,ys,kt,dd⟩:=TU I.hok ha;have e:=jF kt;refine Km hd dd (by rw[<-e];rw[kA] at z;omega) λt s' es=>?_
 subst es;exact⟨.int ts.length,H,I.tok _,⟨t,by rw[e]⟩,q⟩
def CH:List aA->Option aA
 |[.dict ((.none,.none)::kds)]=>aa (.int kds.length)
 |_=>ae
theorem M8:CallD K 0 (λxs H Q=>∃ a ep ts,xs=[V.ref a]/\H a=aa (.dT ep ts)/\Q (.int ts.length) H) CH:=λP H xs ds d Q hP r e k=>by
 unfold CH at e;split at e
 .cases e;obtain⟨v,rfl,r'⟩:=fV r;obtain⟨a,ts,rfl,ha,rr⟩:=(zN).1 r';exact⟨a,ts.1,ts.2,rfl,Aap _ _ ha,k.zero Ext.refl (Aaj.2 (by rw[rr.length]))⟩
 .cases e
end
section
variable {Z:St}
theorem Sta.innerT {ds rows:List (aA×aA)}{k:aI}(S:Sta K H0 P0 B0 Y Z H fp)(e:Y[i]?=aa (aa (10,.dict ds)))(hk:bI ds k=aa (.dict ((.none,.none)::rows))):∃ p ep xs q,∃ ts:Nat×List (List aA×V),Z[i]?=aa (aa (.ref p))/\H p=aa (.dK ep xs)/\fH xs k=aa (.ref q)/\H q=aa (.dT ts.1 ts.2)/\(∀ kd∈rows,dM kd.2=af)/\Ab6 K (L2.hid H (Hd P0 fp)) rows ts.2 /\
  ∀ qt n' T4,(∀ kd∈qt,dM kd.2=af)->Ab6 K (L2.hid H (Hd P0 fp)) qt T4->Sta K H0 P0 B0 (Y.set i (aa (10,.dict (lF ds k (.dict ((.none,.none)::qt)))))) Z (au H q (.dT n' T4)) fp:=by
 obtain⟨p,ep,xs,Fs,h1,h2,h3,h4⟩:=S.dicC (.inr ⟨rfl,rfl⟩) e;have nd:=S.nd i;rw[h3,kC] at nd;obtain⟨v,f,mf,hv,hr,up⟩:=MD h4 nd.2 _ hk;rcases(show Azr _ _ _ _ _ _ from hr) with⟨z,_⟩|⟨kds,q,ts,ed,rfl,hq,hF,fl,r⟩
 .cases z
 cases ed;refine⟨p,ep,xs,q,ts,h1,h2,hv,hq,fl,r,λqt n' T4 f' r'=>?_⟩
 have mq:q∈fp i:=by
  rw[h3];exact bH _ (jP.2 ⟨f,mf,by rw[hF];exact bE⟩)
 have npq:p≠q:=λz=>nd.1 (jP.2 ⟨f,mf,by rw[hF,z];exact bE⟩)
 refine S.change (cX.1 e).1 h1 (λ_ _ _=>rfl) (λ_ _=>.inr rfl) (S.nd i) (λa m=>⟨i,m,.inl rfl⟩) (λa na=>dF λz=>na (z ▸ mq)) (λa m=>?_) λxb=>?_
 .by_cases z:a=q
  .subst z;exact .inr ⟨.inr (n',T4),eB⟩
  .rw[dF z];exact(S.own i a m).2
 .exact IQ (.inr ⟨rfl,rfl⟩) ⟨p,(ep,xs),Fs,rfl,by rw[dF npq];exact h2,h3,up _ _ _ xb (bY ⟨qt,q,(n',T4),rfl,rfl,eB,hF,f',r'.ext xb⟩:Azr _ _ _ _ _ _) λa na=>dF λz=>na (by rw[hF,z];exact bE)⟩
end
section
variable {k r:aR}{h:EF}
def yG (i:Nat)(m:Md)(f:EF)(mk:Md)(g:EF)(mr:Md)(h:EF):SF:=λY=>(eV 0 m f Y).bind λd=>(sM i Y 10).bind λkds=>(eV 0 mk g Y).bind λk=>(bR k).bind λk=>(bI kds k).bind λl=>match l with
 |.dict ((.none,.none)::rows)=>(eV 0 mr h Y).bind λr=>match r with
  |.tuple ks=>if ((bO ks=af/\cP ks<=6)/\dM d=af)/\rows.length<sizeLine then aa (.nx (Y.set i (aa (10,.dict (lF kds k (.dict ((.none,.none)::lD rows ks d))))))) else ae
  |_=>ae
 |_=>ae
theorem ZA (i:Nat)(m mk mr:Md)(hu:X.A.units+40<cLine)(he:DE X e f)(hk:DE X k g)(hr:DE X r h)(hN:X.N[i]?=aa x:=by rfl)(hv:iP X.env.scope x:=by first|exact cF rfl|exact bY (cF rfl)|exact bY (bY rfl))(hd:(x==("__debug__" : aE))=ag:=by decide)
  (fj:(x==("__classdict__" : aE))=ag:=by decide) (hns:HV k:=by exact λ_ _=>rfl) (hs:kP e (aa (.Subscript (.Subscript (.Name x px) k p1) r ay)) pos.line X.env=pure ag:=by rfl):DS X H0 P0 n0 (.Assign [.Subscript (.Subscript (.Name x px) k p1) r ay] e pos) (yG i m f mk g mr h):=
 PS.imp (EB hu (Fo hu (jL hN hv hd fj) hk hns) hr (ev m he) hs) λD Z H gh=>by
  rw[16];obtain⟨d,e1,ef1⟩:=ao ef;obtain⟨kds,e2,bx⟩:=ao ef1;obtain⟨kd,e3,bv⟩:=ao bx;obtain⟨key,e4,dL⟩:=ao bv;obtain⟨l,e5,jl⟩:=ao dL;clear ef ef1 bx bv dL;split at jl
  .obtain⟨rd,e6,xy⟩:=ao jl;split at xy
   .rename_i rows _ ks;obtain⟨⟨⟨nj,hfd⟩,hl⟩,rfl⟩:=cG xy;refine⟨B0,Y,fp,d,S,e1,λv H2 gh=>?_⟩
    obtain⟨ja,S2,r2⟩:=gh;have hf:dM kd=af:=by rw[vY e4];cases key<;>simp[kD,dM]
    obtain⟨p,ep,xs,q,ts,h1,h2,h3,h4,_,_,_⟩:=S2.innerT (vZ e2) e5;have hfr:dM (.tuple ks)=af:=by simp only[dM];exact MJ _ nj.1
    refine⟨.ref p,h1,qT S2 e3 hf λu H3 x3 r3=>⟨p,.ref q,rfl,.inl ⟨ep,xs,key,.inl (x3 _ _ h2),lC e4 r3,h3.symm⟩,qT (S2.grow x3) e6 hfr λu2 H4 x4 r4=>?_⟩⟩
    have S4:=S2.grow (x3.trans x4);obtain⟨p',tq,qm,q',T4,g1,g2,g3,g4,gf,g5,g6⟩:=S4.innerT (vZ e2) e5;rw[h1] at g1;cases g1;have ex:=g2.symm.trans (x4 _ _ (x3 _ _ h2));injection ex with ex;injection ex with ex1 ex2;subst ex2;have eq':q'=q:=by
     have:=g3.symm.trans h3;injection this with this;injection this
    subst eq';obtain⟨b,rfl,tb⟩:=r4.tupK nj.1 nj.2;refine⟨q',_,rfl,.inr ⟨T4.2,ks,b,⟨_,g4⟩,rfl,tb.keep λc zs e=>Aap _ _ e,by rw[g5.length];exact hl,rfl⟩,λn=>kk _ _ ja (g6 _ n _ (E5 gf hfd) (ZG nj.1 g5 (r2.2.ext (cT (x3.trans x4)))))⟩
   .cases xy
  .cases jl
end
def CA:aA->Bool
 |.tuple ds=>ds.all λd=>match d with|.int _=>af|_=>ag
 |_=>ag
theorem Ba:∀ {ks:List aA} {xs:List V},(ks.all λd=>match d with|.int _=>af|_=>ag)=af->Af9 H ks xs->Aao K B ks xs
 |[],xs,_,h=>Aak.2 (by simpa [Af9] using h)
 |d::r,xs,hi,h=>by
  have hi:=jQ.1 (show(_&&_)=af from hi)
  simp only[Af9] at h;obtain⟨x,rr,rfl,h1,h2⟩:=h;cases d with
  |int i=>exact Aaf.2 ⟨x,rr,rfl,Aaj.2 (by simpa [Aly] using h1),Ba hi.2 h2⟩
  |_=>simp at hi
theorem Vn{P:aC->Prop}{ks:List aA}{b:aC}(hP:Hid P H)(hi:CA (.tuple ks)=af)(t:Al0 H ks b):Abg K (hid H P) (.tuple ks) (.ref b):=by
 obtain⟨_,_,xs,hb,kv⟩:=t;refine Aar.2 ⟨b,xs,rfl,gM (λq=>?_) hb,Ba hi kv⟩
 rcases hP b q with⟨o,e⟩|⟨o,e⟩
 .rw[hb] at e;cases e
 .rw[hb] at e;exact Mz _ _ (eO e)
def sOr (F G:SF):SF:=λY=>(F Y).or (G Y)
theorem Mh{st:bS}{F G:SF}(h1:DS X H0 P0 n0 st F)(h2:DS X H0 P0 n0 st G):DS X H0 P0 n0 st (sOr F G):=λah s Z H D I gh=>by
 rw[8];have ef:(F Y).or (G Y)=aa o:=ef;cases e:F Y with
 |some o'=>rw[e] at ef;cases ef;exact h1 ah s Z H D I ⟨B0,Y,fp,_,S,e,k⟩
 |none=>rw[e] at ef;exact h2 ah s Z H D I ⟨B0,Y,fp,o,S,by simpa using ef,k⟩
theorem Zt (hc:X.calm=af):Acy X (.type "list") (λxs H Q=>∃ a ep kvs,xs=[.ref a]/\H a=aa (.dT ep kvs)/\∀ l as,H l=ae->cN (λ(p:List aA×V) (b:aC)=>Al0 H p.1 b) kvs as->Q (.ref l) (au H l (.lst (as.map V.ref)))):=by
 rw[5];obtain⟨a,ep,kvs,rfl,ha,q⟩:=h;rw[7];obtain⟨z,nm,ys,kt,o,es,e1,e2,e3,e4,_⟩:=(show Ab8 X.prog X.w H s.heap a (.dT ep kvs) from I.hok a _ ha)
 have el:es.size=kvs.length:=by
  have:=congrArg List.length e4;rw[cD,<-jF kt] at this;simpa using this
 have rv:Vals ((ys.map λy=>y.2.1).map V.ref) (es.toList.map (·.key)):=by
  rw[e4];exact Ap ys
 refine ZK (I.ok.hd hc) nm ⟨o,e1,e2,e3⟩ (by omega) λh' tk ak c' hk hS gm=>?_
 have ea:=ZU gm;rw[<-ea] at rv;exact⟨.ref s.heap.objs.size,_,I.laid hk (bD _) (show Ab8 X.prog X.w _ h' _ (.lst _) from⟨by rw[cD,cD,<-jF kt];exact z,ak.toList,c',rv,by simpa using hS⟩),rfl,q _ _ I.fresh (Xf kt)⟩
def yH:List aA->Option aA
 |[.dict ((.none,.none)::kds)]=>if (kds.all λkd=>CA kd.1)=af then aa (.list (kds.map (·.1))) else ae
 |_=>ae
theorem Bu{P:aC->Prop}(hP:Hid P H):∀ {kds:List (aA×aA)} {kvs:List (List aA×V)} {as:List aC},Ab6 K B kds kvs->(∀ kd∈kds,CA kd.1=af)->cN (λ(p:List aA×V) (b:aC)=>Al0 H p.1 b) kvs as->Aao K (hid H P) (kds.map (·.1)) (as.map V.ref)
 |[],kvs,as,r,_,p=>by
  obtain rfl:=Acw.1 r;cases p;exact Aak.2 rfl
 |(k,d)::kds,kvs,as,r,h,p=>by
  obtain⟨k',x,rr,rfl,ek,h1,h2⟩:=Abw.1 r;cases p with
  |cons p1 p2=>
   have:=h (k,d) bE;obtain⟨ek,_⟩:=ek;rw[show k=.tuple k' from ek] at this ⊢
   exact Aaf.2 ⟨_,_,rfl,Vn hP this p1,Bu hP h2 (λkd m=>h kd (bH _ m)) p2⟩
theorem Zl:CallD K 1 (λxs H Q=>∃ a ep kvs,xs=[.ref a]/\H a=aa (.dT ep kvs)/\∀ l as,H l=ae->cN (λ(p:List aA×V) (b:aC)=>Al0 H p.1 b) kvs as->Q (.ref l) (au H l (.lst (as.map V.ref)))) yH:=λP H xs ds d Q hP r e k=>by
 unfold yH at e;split at e
 .obtain⟨hl,rfl⟩:=cG e;obtain⟨v,rfl,r'⟩:=fV r;obtain⟨q,ys,rfl,hq,rr⟩:=(zN).1 r';exact⟨q,ys.1,ys.2,rfl,Aap _ _ hq,λl as wz p=>k.lst hP wz (Bu hP rr (dW.1 hl) p)⟩
 .cases e
section
variable {B B':List aA->aC->Prop}{b:aC}{o':bB}{jx:Array (Int×aD)}{tq:Nat}{t t':dJ}{il:List (List aA)}
theorem k7:rL table "set.__ne__" = aa Builtin.«frozenset.__ne__»:=
 GK (id':="frozenset.__ne__") (by kernel_rfl) (by first|rfl|decide +kernel|(unfold QM;simp +decide [QL])) (by rw[0]) (by kernel_rfl)
theorem Zd:isSubtype (.type "set") (.type "frozenset")=pure ag:=by rw[rJ];kernel_rfl
theorem SetAt.type (S:SetAt w B s.heap a o es ep t ks):s.TypeIs (.ref a) "set":=⟨o,S.get,S.exact.1⟩
theorem Th{c:aC}{Q:Option Nat->aH->Prop}(S:SetAt w B s.heap a o es ep t ks)(hk:Abp s.heap k c)(hu:A.units+20<cLine)(mem:k∈ks)(q:∀ i,Q (aa i) s):aM (aO prog w) A (setFind a (.ref c) (dE w (.tuple k))) Q E s:=by
 unfold setFind setFindIn;rw[10];rw[show byScan (.ref c) es=ag by simp[byScan,Value.scannable]]
 simp only[jC,if_false];unfold setSearch;refine aF (LP (ad:=ag) S hk hu (λ_ i hi=>?_) (λhn=>absurd mem hn) 100000 0 ae rfl (λm hm=>absurd hm (by omega)) (by
  rcases S.fine.good.small with e|e|e|e|e|e<;>rw[e]<;>decide))
 cases i with
 |none=>exact absurd rfl (hi rfl)
 |some i=>exact aL (q i)
theorem Tu {Q:List (Int×aD)->aH->Prop}(S:SetAt w B s.heap a o es ep t ks)(q:∀ ys,ys.Perm es.toList->Q ys s):aM (aO prog w) A (Builtin.Frozenset.walk a) Q E s:=by
 unfold Builtin.Frozenset.walk setWalk;refine aF (aF (oJ S.get S.data S.fine.fits ?_));rw[18];unfold setsByText;refine aF (aF (wR (aL ?_)));refine pT (λhb=>?_) (λhb=>?_)
 .refine aF (wR (aL ?_));exact aL (q _ (Aj _ _))
 .refine pT (λhd=>?_) (λ_=>?_)
  .have hd:(!t.plain&&decide (es.size > 1))=af:=hd;rw[S.plain] at hd;cases hd
  .have T1:eR w=ag:=(Bool.not_eq_true _).mp hb;have hl:t.led=af:=by
    rw[S.led,T1]
    rfl
   rw[20];show aM _ _ (if (!t.led&&decide (es.size > 1))=af then _ else _) _ _ s
   rw[hl];exact aL (aL (aL (q _ (.refl _))))
theorem y6 {Q:List (Int×aD)->aH->Prop}(S:SetAt w B s.heap a o es ep t ks)(S':SetAt w B' s.heap b o' jx tq t' il)(q:∀ ys,ys.Perm es.toList->Q ys s):aM (aO prog w) A (Builtin.Frozenset.walkUnseen a b) Q E s:=by
 unfold Builtin.Frozenset.walkUnseen;refine aF (rH S.get S.data S.fine.fits ?_);refine aF (rH S'.get S'.data S'.fine.fits ?_);have els:∀ e∈es.toList++jx.toList,∃ k c,e.2=.ref c/\Abp s.heap k c:=λe m=>by
  rcases iC.1 m with m|m<;>obtain⟨i,hi⟩:=GW.1 m
  .obtain⟨k,_,c,e1,_,e3,_⟩:=oA S.els hi;exact⟨k,c,e1,e3⟩
  .obtain⟨k,_,c,e1,_,e3,_⟩:=oA S'.els hi;exact⟨k,c,e1,e3⟩
 cases hE:es.toList++jx.toList with
 |nil=>
  rw[Jn];exact aF (aL (aL (q _ (.refl _))))
 |cons e r=>
  obtain⟨k,c,e1,hk⟩:=els e (by rw[hE];exact bE)
  obtain⟨h0,x0⟩:=e;cases e1;rw[RM];refine aF (aF ?_);rw[18];unfold Builtin.Frozenset.quietEq;obtain⟨_,_,_,rd⟩:=hk;have hT:s.TypeIs (.ref c) "tuple":=by
   cases rd with
   |tuple ho hc _ _=>exact⟨_,ho,hc⟩
  refine aF (aF (tX hT F.slot_tuple_eq.lookup (aL ?_)));rw[if_pos (by rw[0])]
  exact aF (Tu S λys p=>aL (aL (aL (q ys p))))
theorem z9 {id:String}{Q:Bool->aH->Prop}(S:SetAt w B s.heap a o es ep t ks)(S':SetAt w B' s.heap b o' jx tq t' il)(sub:∀ k∈ks,k∈il)(hz:es.size<=jx.size)(hu:A.units+40<cLine)(q:Q af s):aM (aO prog w) A (Builtin.Frozenset.subsetOf id a b) Q E s:=by
 unfold Builtin.Frozenset.subsetOf;simp only[SG];refine aF (aF (rH S.get S.data S.fine.fits (aL ?_)));refine aF (aF (rH S'.get S'.data S'.fine.fits (aL ?_)));rw[if_neg (by omega)]
 refine aF (Hz S.get S.data S.fine.fits ?_);refine aF (y6 S S' λys p=>?_)
 refine aF (AW _ (λrest (r:Option Bool×Unit) s'=>r=(ae,())/\s'=s/\∀ e∈rest,e∈es.toList) _ (λe rest r s'=>?_) (λr s'=>?_) ys _ ⟨rfl,rfl,λe m=>p.mem_iff.1 m⟩)
 .rintro⟨_,rfl,hm⟩;obtain⟨i,hi⟩:=GW.1 (hm e bE);obtain⟨k,hk,c,e1,e2,e3,_⟩:=oA S.els hi;obtain⟨h0,x0⟩:=e;cases e1;cases e2;rw[18];refine aF (fA (Th S' e3 (xF (by omega) hu) (sub k (eU hk)) λj=>?_))
  rw[if_neg (by simp)]
  unfold Builtin.Frozenset.unchanged;refine aF (aF (Hz S.get S.data S.fine.fits ?_));rw[if_neg (by simp)]
  exact aL (aL ⟨rfl,rfl,λe m=>hm e (bH _ m)⟩)
 .rintro⟨rfl,rfl,_⟩;exact aL q
theorem ne_in(S:SetAt w B s.heap a o es ep t ks)(S':SetAt w B' s.heap b o' jx tq t' il)(sub:∀ k∈ks,k∈il)(hz:ks.length=il.length)(hu:A.units+60<cLine)(q:Q (.bool ag) s):aM (aO prog w) A (gU .NotEq (.ref a) (.ref b)) Q E s:=by
 have z1:=jF S.els;have z2:=jF S'.els;rw[fC] at z1 z2;refine wpAny_richCompare_same_room (op:=.NotEq) S.type S'.type PySem.F.slot_set_ne (gH PySem.F.slot_set_ne S.type k7 ?_ (PySem.F.args_set_ne_2 _ _)) (by omega)
 show aM _ _ (Builtin.Frozenset.slot1 "__ne__" ⟨[.ref a,.ref b],[]⟩>>=_) _ _ s;rw[20];unfold Builtin.Frozenset.slot1;refine aF (aL (aL ?_));rw[18];rw[20];unfold Builtin.Frozenset.isAnySet;refine aF (pU S'.type sub_set_self (aL ?_));rw[if_neg (by decide)]
 refine aF (aL (aF (aL ?_)));simp only[SG];refine aF (aF (rH S.get S.data S.fine.fits (aL ?_)));refine aF (aF (rH S'.get S'.data S'.fine.fits (aL ?_)));rw[if_neg (by simp;omega)]
 refine aF (aF (aF (pU S.type Zd (aL ?_))));rw[if_neg (by decide)]
 refine z9 S S' sub (by omega) (by have:A.in1.units=A.units+1:=rfl;omega) (aL ⟨_,rfl,(λz=>nomatch z),q⟩)
end
section
def Ky (w:aX):V->V->Hp->VK->Prop:=λx y H Q=>∃ a oa b ob kss ys ls zq S9 ls',x=.ref a/\y=.ref b/\H a=aa (yk a oa)/\H b=aa (yk b ob)/\A2c w kss ys oa ls/\Refs H ys kss/\A2c w zq S9 ob ls'/\Refs H S9 zq/\ls.Perm ls'/\Q (.bl ag) H
theorem A2c.at{Z:List (Option V)}(I:Inv X ah Z H s){ls:List (List aA)}(ha:H a=aa (yk a o))(h:A2c X.w kss ys o ls)(rf:Refs H ys kss):∃ es ep t ks,SetAt X.w (U6 kss ys) s.heap a o es ep t ks/\ks.Perm ls:=by
 obtain⟨es,ep,t,ks,hx,hd,hf,hl,hpn,he,hn,pm⟩:=h;obtain⟨g,_,_⟩:=(show Ab8 X.prog X.w H s.heap a (.ext _) from I.hok a _ ha)
 refine⟨es,ep,t,ks,⟨g,hx,hd,hf,hl,hpn,nZ (λe k ⟨b,q1,q2,q3⟩=>⟨b,q1,q2,?_,q3⟩) he,hn⟩,pm⟩
 obtain⟨i,h1,h2⟩:=q3;obtain⟨k',dz,b',eb,tk⟩:=oA rf h2;rw[h1] at dz;cases dz;cases eb;exact key_of I.hok tk
theorem Ng (hu:X.A.units+100<cLine):OpR X (gU .NotEq) (Ky X.w):=by
 rw[4];obtain⟨a,oa,b,ob,kss,ys,ls,zq,S9,ls',rfl,rfl,ha,hb,sa,ra,sb,rb,pm,q⟩:=h;cases rx;cases ry;obtain⟨es,ep,t,ks,S,p1⟩:=sa.at I ha ra;obtain⟨jx,tq,t',il,S',p2⟩:=sb.at I hb rb;have p:ks.Perm il:=p1.trans (pm.trans p2.symm);exact ne_in S S' (λk m=>p.mem_iff.1 m) p.length_eq (by omega) ⟨.bl ag,H,I,rfl,q⟩
def yA:aA->aA->Option aA:=open Classical in λa b=>match a,b with
 |.list ds,.list es=>(hG ds).bind λk1=>(hG es).bind λk2=>if ((fJ k1).length<=4900/\(fJ k2).length<=4900)/\(fJ k1).Perm (fJ k2)/\(∀ k∈k1,nV k)/\∀ k∈k2,nV k then aa (.bool ag) else ae
 |_,_=>ae
open Classical in
theorem Nc {e1:aR}{f1:EF}(hc:X.calm=af)(hu:X.A.units+100<cLine)(g2:Gl X "set")(m2:X.mg "set" = ae)(h1:DE X e1 f1)(h2:DE X e2 f2)(vp:bJ [e1] X.env=[(ag,bK e1 X.env)]:=by rfl)(jz:bJ [e2] X.env=[(ag,bK e2 X.env)]:=by rfl):DT X (.Compare (.Call (.Name "set" p1) [e1] [] qq) [.NotEq] [.Call (.Name "set" p2) [e2] [] gn] pos) (aw (ai yA f1 f2)):=by
 have LE:X.A.units+40<cLine:=by omega
 have q1:PE X (.Call (.Name "set" p1) [e1] [] qq) _:=tN (MN hc LE) g2 m2 rfl (hZ h1 jK vp) (by decide) (by decide) vp rfl
 have q2:PE X (.Call (.Name "set" p2) [e2] [] gn) _:=tN (MN hc LE) g2 m2 rfl (hZ h2 jK jz) (by decide) (by decide) jz rfl
 refine PT.imp (JL (Ng hu) q1 q2 (kZ _)) λZ H Q gh=>?_
 obtain⟨P,Y,c,hP,rs,ef,k⟩:=gh;obtain⟨d,e0,ef⟩:=ao ef;cases EH ef;obtain⟨d1,e1,e0⟩:=ao e0;obtain⟨d2,e2,e0⟩:=ao e0;unfold yA at e0;split at e0
 .obtain⟨k1,a1,e0⟩:=ao e0;obtain⟨k2,a2,e0⟩:=ao e0;obtain⟨⟨⟨l1,l2⟩,pm,i1,i2⟩,ec⟩:=cG e0;cases ec;obtain⟨rfl,hk1⟩:=DY a1;obtain⟨rfl,V9⟩:=DY a2;refine⟨P,Y,.list (k1.map cL),hP,rs,e1,dY λv H1 x1 r1=>?_⟩
  obtain⟨q,ys,rfl,hq,rr⟩:=Aa6.1 r1;have rf1:=DZ hk1 rr;refine⟨q,ys,k1,rfl,Aap.sqL hq,Refs.le (λc zs e=>Aap _ _ e) rf1,i1,l1,λa o ha sa=>?_⟩
  have x2:Ext H1 (au H1 a (yk a o)):=Ext.new ha;have x12:=x1.trans x2;refine⟨P,Y,.list (k2.map cL),hP.ext x12,rs.ext (cT x12),e2,dY λv H3 x3 r3=>?_⟩
  obtain⟨q',S9,rfl,hq',rr'⟩:=Aa6.1 r3;have rf2:=DZ V9 rr';refine⟨q',S9,k2,rfl,Aap.sqL hq',Refs.le (λc zs e=>Aap _ _ e) rf2,i2,l2,λb o' hb sb=>?_⟩
  have x4:Ext H3 (au H3 b (yk b o')):=Ext.new hb;have nab:a≠b:=λz=>by
   have:=x3 _ _ (eB:au H1 a (yk a o) a=_);rw[z,hb] at this;cases this
  exact⟨a,o,b,o',k1,ys,_,k2,S9,_,rfl,rfl,by rw[dF nab];exact x3 _ _ eB,eB,sa,Refs.le (λc zs e=>x4 _ _ (x3 _ _ (x2 _ _ (Aap _ _ e)))) rf1,sb,Refs.le (λc zs e=>x4 _ _ (Aap _ _ e)) rf2,pm,ag,rfl,k _ ((x12.trans x3).trans x4)⟩
 .cases e0
end
theorem kW{ng bg:aR}{fi:AF}{sc:iN}{cap:List (Option Nat)}(N:List aE)(out:List (aE×lO))(XN:List aE)(hi:DI X (.Name x px) bg fi)(hb:∀ cl C s₀ H₀ ex,DE (gP X N sc cl C s₀ H₀ ex) ng f)(hc:X.calm=af:=by rfl)
  (h1:X.env.scope.names=out:=by rfl) (h2:X.N=XN:=by rfl) (X6:JN out XN N cap sc.names=af:=by rw[0]) (hk:sc.kind=.function:=by rfl) (nd:N.Nodup:=by rw[0]) (h0:N[0]?=aa x:=by rfl) (hx:∀ cl C s₀ H₀ ex,(gP X N sc cl C s₀ H₀ ex).env.scope.names.lookup x=aa .local:=by intros;rfl) (hs:∀ x,rK bg X.env x=pure x:=by intro _;rfl) :
  DF 1 X (.ListComp ng [⟨.Name x px,bg,[],0⟩] sc pos) (ip cap fi (gB 0) cZ f):=
 qU hc (pR h1 h2 X6 hk) pG hi (λcl C s₀ H₀ ex=>⟨tL nd h0 (.inl (hx cl C s₀ H₀ ex)) (.inr (hx cl C s₀ H₀ ex)),JF,hb cl C s₀ H₀ ex⟩) hs
end L2
namespace Aw
open PySem L2
def de (i:Nat):bS:=PySem.Challenge.pw_askwithin_k28_thinned_along_a_tree.main.body.getD i (.Pass ⟨0,0,0,0⟩)
abbrev MH:bS:=de 4
abbrev N6:List aE:=["lines","names","line","term"]
abbrev FK:List aE:=["lines"]
theorem An8:FnScope N6 FK (bP MH):=by rw[900]
abbrev EE:bS:=de 5
abbrev YS:List aE:=["terms","known"]
abbrev ER:List aE:=["terms","known"]
theorem Asa:FnScope YS ER (bP EE):=by rw[900]
abbrev ET:bS:=de 7
abbrev ZF:List aE:=["lines","k","elsewhere"]
abbrev JX:List aE:=["lines","k"]
theorem Au6:FnScope ZF JX (bP ET):=by rw[900]
abbrev zY:bS:=de 8
abbrev MV:List aE:=["lines","left","k","wanted","j"]
abbrev NC:List aE:=["lines","left","k"]
theorem Alv:FnScope MV NC (bP zY):=by rw[900]
abbrev MX:bS:=de 9
abbrev c6:List aE:=["lines","left","k","parent"]
abbrev ND:List aE:=["lines","left"]
theorem Alc:FnScope c6 ND (bP MX):=by rw[900]
abbrev PF:bS:=de 10
abbrev Oy:List aE:=["lines","taken","left","ear"]
abbrev sS:List aE:=["lines"]
theorem A7d:FnScope Oy sS (bP PF):=by rw[900]
abbrev OV:bS:=de 11
abbrev Nv:List aE:=["lines","rest"]
abbrev OM:List aE:=["lines"]
theorem A7b:FnScope Nv OM (bP OV):=by rw[900]
abbrev OO:bS:=de 14
abbrev Po:List aE:=["line","row","known","found","term","number","wanted"]
abbrev yJ:List aE:=["line","row","known"]
theorem A6x:FnScope Po yJ (bP OO):=by rw[900]
abbrev MB:bS:=de 15
abbrev C1:List aE:=["book","line"]
abbrev FH:List aE:=["book","line"]
theorem Apc:FnScope C1 FH (bP MB):=by rw[900]
abbrev LO:bS:=de 16
abbrev C6:List aE:=["rows","number","own"]
abbrev LU:List aE:=["rows"]
theorem Aoy:FnScope C6 LU (bP LO):=by rw[900]
abbrev NV:bS:=de 17
abbrev m7:List aE:=["rows"]
abbrev NW:List aE:=["rows"]
theorem Ah2:FnScope m7 NW (bP NV):=by rw[900]
abbrev FV:bS:=de 18
abbrev Ej:List aE:=["book","lines"]
abbrev OJ:List aE:=["book","lines"]
theorem Ahx:FnScope Ej OJ (bP FV):=by rw[900]
abbrev ML:bS:=de 19
abbrev L5:List aE:=["found","line","rows","told","known","row","more"]
abbrev MP:List aE:=["found","line","rows"]
theorem Amq:FnScope L5 MP (bP ML):=by rw[900]
abbrev KW:bS:=de 20
abbrev Yi:List aE:=["lines","rows","found","line","own"]
abbrev KG:List aE:=["lines","rows"]
theorem Aub:FnScope Yi KG (bP KW):=by rw[900]
abbrev EV:bS:=de 22
abbrev Ab:List aE:=["book","line"]
abbrev ME:List aE:=["book","line"]
theorem Apj:FnScope Ab ME (bP EV):=by rw[900]
abbrev FU:bS:=de 23
abbrev Ei:List aE:=["book","lines"]
abbrev OA:List aE:=["book","lines"]
theorem Ah6:FnScope Ei OA (bP FU):=by rw[900]
abbrev FW:bS:=de 24
abbrev Ef:List aE:=["book","lines"]
abbrev NX:List aE:=["book","lines"]
theorem Ah8:FnScope Ef NX (bP FW):=by rw[900]
abbrev EN:bS:=de 25
abbrev YR:List aE:=["line","other"]
abbrev LD:List aE:=["line","other"]
theorem Avf:FnScope YR LD (bP EN):=by rw[900]
abbrev KH:bS:=de 26
abbrev Xj:List aE:=["line","row","names"]
abbrev KA:List aE:=["line","row","names"]
theorem At0:FnScope Xj KA (bP KH):=by rw[900]
abbrev AM:bS:=de 27
abbrev OI:List aE:=["line","rows","other","others","names","met"]
abbrev FZ:List aE:=["line","rows","other","others"]
theorem Ahh:FnScope OI FZ (bP AM):=by rw[900]
abbrev OH:bS:=de 28
abbrev o5:List aE:=["lines","kept","told","ear","parent"]
abbrev OG:List aE:=["lines","kept"]
theorem Ahl:FnScope o5 OG (bP OH):=by rw[900]
abbrev AB:bS:=de 29
abbrev NJ:List aE:=["lines","kept","rest"]
abbrev NH:List aE:=["lines","kept"]
theorem Alr:FnScope NJ NH (bP AB):=by rw[900]
abbrev FN:bS:=de 30
abbrev Dk:List aE:=["lines","kept","told","found","k"]
abbrev MW:List aE:=["lines","kept"]
theorem Als:FnScope Dk MW (bP FN):=by rw[900]
abbrev NM:bS:=de 31
abbrev Zo:List aE:=["lines","kept","told","ear","parent"]
abbrev MS:List aE:=["lines","kept"]
theorem Alq:FnScope Zo MS (bP NM):=by rw[900]
abbrev MM:bS:=de 32
abbrev K2:List aE:=["lines","kept"]
abbrev MK:List aE:=["lines","kept"]
theorem Ang:FnScope K2 MK (bP MM):=by rw[900]
abbrev LV:bS:=de 33
abbrev v9:List aE:=["book","lines"]
abbrev LI:List aE:=["book","lines"]
theorem Ao8:FnScope v9 LI (bP LV):=by rw[900]
abbrev NG:bS:=de 35
abbrev Zy:List aE:=["_law_script","_law_k"]
abbrev pQ:List aE:=["_law_script","_law_k"]
theorem Alo:FnScope Zy pQ (bP NG):=by rw[900]
abbrev MZ:bS:=de 36
abbrev b7:List aE:=["_law_cell_here","_law_k","_law_size","_law_number"]
abbrev NQ:List aE:=["_law_cell_here","_law_k","_law_size"]
theorem Alz:FnScope b7 NQ (bP MZ):=by rw[900]
abbrev NT:bS:=de 37
abbrev d5:List aE:=["_law_script","_law_number","_law_cell_here"]
abbrev FX:List aE:=["_law_script","_law_number"]
theorem Akd:FnScope d5 FX (bP NT):=by rw[900]
abbrev NA:bS:=de 38
abbrev Zn:List aE:=["_law_script","_law_k","_law_cell_here","_law_word"]
abbrev FP:List aE:=["_law_script","_law_k"]
theorem Alx:FnScope Zn FP (bP NA):=by rw[900]
abbrev MU:bS:=de 39
abbrev Zp:List aE:=["_law_script","_law_count","_law_sets_here","_law_k","_law_some","_law_cell_here","_law_above","_law_at"]
abbrev NP:List aE:=["_law_script","_law_count"]
theorem Ale:FnScope Zp NP (bP MU):=by rw[900]
abbrev OC:bS:=de 40
abbrev g9:List aE:=["_law_script","_law_sets_here","_law_lines_here","_law_k","_law_first","_law_width","_law_terms","_law_j","_law_cell_here"]
abbrev NS:List aE:=["_law_script","_law_sets_here"]
theorem Aja:FnScope g9 NS (bP OC):=by rw[900]
abbrev FS:bS:=de 41
abbrev Eh:List aE:=["_law_script","_law_line","_law_cell_here","_law_values","_law_k"]
abbrev FT:List aE:=["_law_script","_law_line","_law_cell_here"]
theorem Ah7:FnScope Eh FT (bP FS):=by rw[900]
abbrev FQ:bS:=de 42
abbrev Dg:List aE:=["_law_script","_law_lines_here","_law_rows","_law_line","_law_k","_law_j","_law_cell_here"]
abbrev MT:List aE:=["_law_script","_law_lines_here"]
theorem Alk:FnScope Dg MT (bP FQ):=by rw[900]
abbrev NU:bS:=de 43
abbrev j1:List aE:=["_law_line","_law_row","_law_known_here","_law_term","_law_value_here"]
abbrev FR:List aE:=["_law_line","_law_row"]
theorem Akh:FnScope j1 FR (bP NU):=by rw[900]
abbrev GA:bS:=de 44
abbrev Ex:List aE:=["_law_book_here","_law_line","_law_rows","_law_there","_law_row"]
abbrev OK:List aE:=["_law_book_here","_law_line","_law_rows"]
theorem Afd:FnScope Ex OK (bP GA):=by rw[900]
abbrev FY:bS:=de 45
abbrev Dx:List aE:=["_law_line","_law_rows","_law_names","_law_found","_law_row","_law_known_here"]
abbrev OE:List aE:=["_law_line","_law_rows","_law_names"]
theorem Aki:FnScope Dx OE (bP FY):=by rw[900]
abbrev AJ:bS:=de 46
abbrev OD:List aE:=["_law_script","_law_book_here","_law_lines_here","_law_found","_law_k","_law_j","_law_above","_law_names"]
abbrev NR:List aE:=["_law_script","_law_book_here","_law_lines_here","_law_found"]
theorem Ajs:FnScope OD NR (bP AJ):=by rw[900]
abbrev qW:bS:=de 47
abbrev TY:List aE:=["_law_script","_law_sets_here","_law_lines_here","_law_book_here","_law_handed","_law_found","_law_beside"]
abbrev TQ:List aE:=["_law_script"]
theorem Beb:FnScope TY TQ (bP qW):=by rw[900]
structure Blt (mg:aE->Option aD):Prop where
 «isinstance» : mg "isinstance" = ae
 «range» : mg "range" = ae
 «len» : mg "len" = ae
 «str» : mg "str" = ae
 «all» : mg "all" = ae
 «list» : mg "list" = ae
 «tuple» : mg "tuple" = ae
 «dict» : mg "dict" = ae
 «set» : mg "set" = ae
 «sorted» : mg "sorted" = ae
 «min» : mg "min" = ae
 «max» : mg "max" = ae
 «zip» : mg "zip" = ae
 «reversed» : mg "reversed" = ae
structure Cst (mg:aE->Option aD):Prop where
 MOST_WAYS:∃ t,mg "MOST_WAYS" = aa (.int 4096 t)
set_option maxHeartbeats 4000000
variable {P:bG}{w:aX}{K:aJ}{mg:aE->Option aD}{base:aQ}{f:aC}{fd:iE}
def M3:SF:=(aW (bZ 1 1 .s (eC (.dict [])))
 (aW (dD .s (bj (aB 0)) (jv 2) (dD .s (bj (ai ar (aB 2) (eC (.int 1)))) (jv 3) (iz .s (aw (iq (eA "str") (aB 3))) (sJ 1 .s (eC (.bool af)) .s (aB 3)) eQ)))
 (mF 1 (cE 1 .s (aN CK (aG (aB 1) aK))))))
def rF:List aA->Option aA:=cu 1 4 M3
theorem Zi (F:Fun K "names_of" "names_of" MH f fd)(B:Blt mg)(C:Cst mg):FnOk P w K mg base cb 1 f fd FK (ax K 1 rF):=by
 have nd:=An8.nd;exact dI F An8 rfl (by decide) λba A outer s H E P0 hr=>by
  rw[1];sleep 0
def Xs:SF:=(cE 0 .s (aN kX (aG (ip [ae,aa 1] (bj (aB 0)) (gB 0) cZ (mQ (aB 1) (aB 0) (aB 0))) aK)))
def oG:List aA->Option aA:=cu 2 2 Xs
theorem F6 (F:Fun K "put_in" "put_in" EE f fd)(B:Blt mg)(C:Cst mg):FnOk P w K mg base cb 1 f fd ER (ax K 0 oG):=by
 have nd:=Asa.nd;exact dI F Asa rfl (by decide) λba A outer s H E P0 hr=>by
  rw[1];exact(cS (jV .s (jY tV tQ rfl B.tuple uD (gG (fW (n:=1) (kW ["term","known"] (bP EE).names YS (iX (cI 0)) λ_ _ _ _ _=>(by sleep 0))) iJ))))
def Qf:SF:=(aW (iz .s (aw (ai ir (aN cJ (aG (aB 1) aK)) (aN cJ (aG (ai ar (aB 0) (eC (.int 1))) aK)))) (cE 1 .s (eC .none)) eQ)
 (aW (bZ 3 1 .s (aN II (aG (aB 2) aK)))
 (aW (dD .s (iZ (aG (ai ar (aB 0) (eC (.int 1))) (aG (aB 1) aK))) (qS 4 5) (aW (zz 6 3 .s (aw (iq (eA "str") (aB 4))) .s (aB 4) .s (aB 5) .s (aB 4))
 (iz .s (aw (ai ir (aB 5) (aB 6))) (cE 1 .s (eC .none)) eQ)))
 (jJ 3 1))))
def nY:List aA->Option aA:=cu 3 7 Qf
theorem Vi (F:Fun K "fits" "fits" OO f fd)(B:Blt mg)(C:Cst mg):FnOk P w K mg base cb 1 f fd yJ (ax K 1 nY):=by
 have nd:=A6x.nd;exact dI F A6x rfl (by decide) λba A outer s H E P0 hr=>by
  rw[1];exact(cA (kH .s (by sleep 0) (cS (jV .s EU)) kL)
   (cA (mU (i:=3) 1 .s nd rfl (by first|exact cF rfl|exact bY rfl) (jY N4 G6 rfl B.dict GQ (by sleep 0)))
   (cA (lX gJ rfl (OP rfl B.zip (by sleep 0)) (by sleep 0) (cA (Mp 6 3 .s .s .s .s nd (by sleep 0) (cI 4) (cI 5) (cI 4))
   (cS (kH .s (by sleep 0) (cS (jV .s EU)) kL))))
   (cS (vD 3)))))
def w9:SF:=(cE 0 .s (mQ (aB 0) (ai ar (aB 1) (eC (.int 0))) (fP aK)))
def nA:List aA->Option aA:=cu 2 2 w9
theorem M7 (F:Fun K "rows_of" "rows_of" MB f fd)(B:Blt mg)(C:Cst mg):FnOk P w K mg base cb 1 f fd FH (ax K 0 nA):=by
 have nd:=Apc.nd;exact dI F Apc rfl (by decide) λba A outer s H E P0 hr=>by
  rw[1];sleep 0
def z5:SF:=(aW (bZ 1 0 .s (eC (.int 1)))
 (aW (dD .s (bj (aB 0)) (jv 2) (bZ 1 0 .s (ai fK (aB 1) (aN uP (aG (eC (.int 1)) (aG (aN cJ (aG (aB 2) aK)) aK))))))
 (cE 0 .s (aB 1))))
def vV:List aA->Option aA:=cu 1 3 z5
theorem L9 (F:Fun K "ways_of" "ways_of" LO f fd)(B:Blt mg)(C:Cst mg):FnOk P w K mg base cb 1 f fd LU (ax K 0 vV):=by
 have nd:=Aoy.nd;exact dI F Aoy rfl (by decide) λba A outer s H E P0 hr=>by
  rw[1];exact(cA (by sleep 0)
   (cA (lX gJ rfl (iX (cI 0)) (by sleep 0) (cS (mU (i:=1) 0 .s nd rfl (by first|exact cF rfl|exact bY rfl) (VA (cI 1) (tM (Bn rfl) ZN rfl B.max PyProof.Rows.boot_max (by sleep 0))))))
   (by sleep 0)))
def d9:SF:=(aW (iz .s (aw (ai yj (aB 1) (aN cJ (aG (aB 0) aK)))) (cE 0 .s (ai ar (aB 0) (aB 1))) eQ)
 (aW (iz .s (aw (ai qg (aN cJ (aG (aB 0) aK)) (eC (.int 0)))) (cE 0 .s (ai dC (ai pH (ai pH (aB 1) (aB 1)) (eC (.int 7919))) (eC (.int 31)))) eQ)
 (cE 0 .s (ai dC (ai pH (ai ar (aB 0) (ai cY (aB 1) (aN cJ (aG (aB 0) aK)))) (ai dC (aB 1) (eC (.int 2)))) (ai pH (ai pH (aB 1) (aB 1)) (eC (.int 69621)))))))
def eZ:List aA->Option aA:=cu 2 2 d9
theorem i8 (F:Fun K "_law_cell" "_law_cell" NG f fd)(B:Blt mg)(C:Cst mg):FnOk P w K mg base cb 1 f fd pQ (ax K 0 eZ):=by
 have nd:=Alo.nd;exact dI F Alo rfl (by decide) λba A outer s H E P0 hr=>by
  rw[1];sleep 0
def Zu:SF:=(aW (bZ 3 0 .s (ai fK (ai dC (ai dC (ai cY (aB 0) (eC (.int 2147483629))) (ai fK (eC (.int 5)) (aB 1))) (eC (.int 1))) (ai dC (eC (.int 48271)) (ai fK (aB 1) (aB 1)))))
 (cE 0 .s (ai cY (ai cY (ai fK (aB 3) (aB 3)) (eC (.int 2147483647))) (aB 2))))
def wA:List aA->Option aA:=cu 3 4 Zu
theorem g7 (F:Fun K "_law_draw" "_law_draw" MZ f fd)(B:Blt mg)(C:Cst mg):FnOk P w K mg base cb 1 f fd NQ (ax K 0 wA):=by
 have nd:=Alz.nd;exact dI F Alz rfl (by decide) λba A outer s H E P0 hr=>by
  rw[1];sleep 0
def i4:SF:=(aW (bZ 2 1 .s (eC (.dict [])))
 (aW (iz .s (yt (iT (aw (iq (eA "tuple") (aB 1)))) (aw (ai ir (aN cJ (aG (aB 1) aK)) (aN cJ (aG (ai ar (aB 0) (eC (.int 1))) aK))))) (cE 1 .s (eC .none)) eQ)
 (aW (dD .s (iZ (aG (ai ar (aB 0) (eC (.int 1))) (aG (aB 1) aK))) (qS 3 4) (uX 2 .s (aB 3) .s (aB 4) .s (aB 4) .s (iS (iT (aw (iq (eA "str") (aB 3)))) (aw (ai ir (aB 3) (aB 4)))) (cE 1 .s (eC .none))))
 (jJ 2 1))))
def tT:List aA->Option aA:=cu 2 5 i4
theorem l5 (F:Fun K "_law_known" "_law_known" NU f fd)(B:Blt mg)(C:Cst mg):FnOk P w K mg base cb 1 f fd FR (ax K 1 tT):=by
 have nd:=Akh.nd;exact dI F Akh rfl (by decide) λba A outer s H E P0 hr=>by
  rw[1];exact(cA (by sleep 0)
   (cA (kH .s (pC (AQ (CV (yK (GB (T:="tuple") rfl B.isinstance rfl B.tuple uD (by decide) (cI 1)))) (yM (by sleep 0)))) (cS (jV .s EU)) kL)
   (cA (lX gJ rfl (OP rfl B.zip (by sleep 0)) (by sleep 0) (cS (Yj 2 .s .s .s .s hu (pC (CN (by sleep 0) (DB (by sleep 0)))) (cI 3) (cI 4) (cI 4) (cS (jV .s EU)))))
   (cS (vD 2)))))
def Wj:SF:=(aW (bZ 2 0 .s (aN rF (aG (ai CD (qO (aB 0) oN (oS (aB 1))) (qO (aB 0) (oS (ai dC (aB 1) (eC (.int 1)))) oN)) aK)))
 (cE 1 .s (ip [ae,aa 2] (bj (aN rF (aG (iR (aG (ai ar (aB 0) (aB 1)) aK)) aK))) (gB 0) (aw (ai (pv ag) (aB 0) (aB 1))) (aB 0))))
def zH:List aA->Option aA:=cu 2 3 Wj
theorem u7 (F:Fun K "shared" "shared" ET f fd)(B:Blt mg)(C:Cst mg)(fq:Def P w K mg base "names_of" 1 FK (ax K 1 rF)):FnOk P w K mg base cb 2 f fd JX (ax K 1 zH):=by
 have nd:=Au6.nd;exact dI F Au6 rfl (by decide) λba A outer s H E P0 hr=>by
  rw[1];exact(cA (by sleep 0)
   (cS (jV .s (qU rfl (pR (N:=["name","elsewhere"]) (cap:=[ae,aa 2]) (out:=(bP ET).names) (XN:=ZF) rfl rfl (by rw[0]) rfl) pG (by sleep 0) (λcl C s₀ H₀ ex=>⟨tL (j:=0) (show(["name","elsewhere"]:List aE).Nodup by rw[0]) rfl (cF rfl),vM (iW (vP hu) pI (cI 0) (cI 1) (by with_unfolding_all rfl)),(cI 0)⟩)))))
def OB:SF:=(iz .s (aw (ai xh (aN vV (aG (aB 0) aK)) (eC (.int 4096)))) sNo eQ)
def AD:List aA->Option aA:=cu 1 1 OB
theorem m8 (F:Fun K "refuse_rows" "refuse_rows" NV f fd)(B:Blt mg)(C:Cst mg)(om:Def P w K mg base "ways_of" 1 LU (ax K 0 vV)):FnOk P w K mg base cb 2 f fd NW (ax K 0 AD):=by
 obtain⟨_,qu⟩:=C.MOST_WAYS;have nd:=Ah2.nd;exact dI F Ah2 rfl (by decide) λba A outer s H E P0 hr=>by
  rw[1];exact(cS (kH .s (iW UD UX (by sleep 0) (Xz (i:=4096) rfl qu ⟨_,rfl⟩) (kZ _)) (cS UG) kL))
def K0:SF:=(aW (bZ 3 1 .s (fP aK))
 (aW (dD .s (bj (aB 0)) (jv 4) (dD .s (bj (aB 2)) (jv 5) (aW (bZ 6 0 .s (aN nY (aG (aB 1) (aG (aB 5) (aG (aB 4) aK)))))
 (iz .s (aw (ai mR (aB 6) (eC .none))) (iF 3 .s (aB 6)) eQ))))
 (jJ 3 1)))
def zT:List aA->Option aA:=cu 3 7 K0
theorem Zc (F:Fun K "extended" "extended" ML f fd)(B:Blt mg)(C:Cst mg)(kc:Def P w K mg base "fits" 1 yJ (ax K 1 nY)):FnOk P w K mg base cb 2 f fd MP (ax K 1 zT):=by
 have nd:=Amq.nd;exact dI F Amq rfl (by decide) λba A outer s H E P0 hr=>by
  rw[1];sleep 0
def y7:SF:=(cE 1 .s (aN yE (aG (ip [ae,aa 1] (bj (aN nA (aG (aB 0) (aG (aB 1) aK)))) (gB 0) (aw (ai mR (aN nY (aG (aB 1) (aG (aB 0) (aG (eC (.dict [])) aK)))) (eC .none))) (aB 0)) aK)))
def vW:List aA->Option aA:=cu 2 2 y7
theorem J0 (F:Fun K "fitting" "fitting" EV f fd)(B:Blt mg)(C:Cst mg)(kc:Def P w K mg base "fits" 1 yJ (ax K 1 nY))(im:Def P w K mg base "rows_of" 1 FH (ax K 0 nA)):FnOk P w K mg base cb 2 f fd ME (ax K 1 vW):=by
 have nd:=Apj.nd;exact dI F Apj rfl (by decide) λba A outer s H E P0 hr=>by
  rw[1];exact(cS (jV .s (tM i5 f7 rfl B.sorted Iz (gG (fW (n:=1) (qU rfl (pR (N:=["row","line"]) (cap:=[ae,aa 1]) (out:=(bP EV).names) (XN:=Ab) rfl rfl (by rw[0]) rfl) pG (by sleep 0) (λcl C s₀ H₀ ex=>⟨tL (j:=0) (show(["row","line"]:List aE).Nodup by rw[0]) rfl (cF rfl),vM (by sleep 0),(cI 0)⟩))) iJ))))
def Wa:SF:=(cE 1 .s (ip [ae,aa 1] (bj (aN rF (aG (iR (aG (aB 0) aK)) aK))) (gB 0) (aw (ai (pv ag) (aB 0) (ai ar (aB 1) (eC (.int 1))))) (aB 0)))
def yZ:List aA->Option aA:=cu 2 2 Wa
theorem z8 (F:Fun K "common" "common" EN f fd)(B:Blt mg)(C:Cst mg)(fq:Def P w K mg base "names_of" 1 FK (ax K 1 rF)):FnOk P w K mg base cb 2 f fd LD (ax K 1 yZ):=by
 have nd:=Avf.nd;exact dI F Avf rfl (by decide) λba A outer s H E P0 hr=>by
  rw[1];exact(cS (jV .s (qU rfl (pR (N:=["name","other"]) (cap:=[ae,aa 1]) (out:=(bP EN).names) (XN:=YR) rfl rfl (by rw[0]) rfl) pG (by sleep 0) (λcl C s₀ H₀ ex=>⟨tL (j:=0) (show(["name","other"]:List aE).Nodup by rw[0]) rfl (cF rfl),vM (iW (vP hu) pI (cI 0) (by sleep 0) (by with_unfolding_all rfl)),(cI 0)⟩))))
def Wx:SF:=(cE 0 .s (aN oG (aG (aB 2) (aG (aN nY (aG (aB 0) (aG (aB 1) (aG (eC (.dict [])) aK)))) aK))))
def pM:List aA->Option aA:=cu 3 3 Wx
theorem v7 (F:Fun K "key_of" "key_of" KH f fd)(B:Blt mg)(C:Cst mg)(jo:Def P w K mg base "put_in" 1 ER (ax K 0 oG))(kc:Def P w K mg base "fits" 1 yJ (ax K 1 nY)):FnOk P w K mg base cb 2 f fd KA (ax K 0 pM):=by
 have nd:=At0.nd;exact dI F At0 rfl (by decide) λba A outer s H E P0 hr=>by
  rw[1];sleep 0
def j2:SF:=(aW (bZ 2 0 .s (aN eZ (aG (aB 0) (aG (eC (.int 1)) aK))))
 (aW (bZ 1 0 .s (ai cY (aB 1) (ai dC (eC (.int 2)) (ai cY (ai fL (aB 2) (eC (.int 3))) (eC (.int 11))))))
 (aW (iz .s (aw (ai qg (ai cY (aB 2) (eC (.int 3))) (eC (.int 0)))) (cE 0 .s (ai pK (aB 1) (eC (.int 3)))) eQ)
 (cE 0 .s (ai fK (ai ar (fP (aG (eC (.int 1)) (aG (iq HQ (eC (.int 1))) aK))) (ai cY (aB 2) (eC (.int 2)))) (ai dC (ai cY (ai fL (aB 2) (eC (.int 33))) (ai fK (ai uU (eC (.int 10)) (eC (.int 34))) (ai uU (eC (.int 10)) (eC (.int 35))))) (aB 1)))))))
def rG:List aA->Option aA:=cu 2 3 j2
theorem l9 (F:Fun K "_law_value" "_law_value" NT f fd)(B:Blt mg)(C:Cst mg)(aq:Def P w K mg base "_law_cell" 1 pQ (ax K 0 eZ)):FnOk P w K mg base cb 2 f fd FX (ax K 0 rG):=by
 have nd:=Akd.nd;exact dI F Akd rfl (by decide) λba A outer s H E P0 hr=>by
  rw[1];sleep 0
def b9:SF:=(aW (bZ 2 0 .s (aN eZ (aG (aB 0) (aG (eC (.int 2)) aK))))
 (aW (bZ 3 0 .s (eC (.str "lineofnames1")))
 (aW (iz .s (aw (ai qg (ai cY (aB 2) (eC (.int 2))) (eC (.int 0)))) (cE 0 .s (ai dC (W1 (aB 3) oN (oS (ai cY (ai fL (aB 2) (eC (.int 2))) (eC (.int 6))))) (ai ar (eC (.str "abcdef")) (aB 1)))) eQ)
 (cE 0 .s (ai dC (ai ar (eC (.str "bcdefa")) (aB 1)) (W1 (aB 3) oN (oS (ai cY (ai fL (aB 2) (eC (.int 2))) (eC (.int 12))))))))))
def pO:List aA->Option aA:=cu 2 4 b9
theorem d7 (F:Fun K "_law_name" "_law_name" NA f fd)(B:Blt mg)(C:Cst mg)(aq:Def P w K mg base "_law_cell" 1 pQ (ax K 0 eZ)):FnOk P w K mg base cb 2 f fd FP (ax K 0 pO):=by
 have nd:=Alx.nd;exact dI F Alx rfl (by decide) λba A outer s H E P0 hr=>by
  rw[1];sleep 0
def Zw:SF:=(aW (bZ 2 1 .s (fP aK))
 (aW (dD .s (wc (aG (aB 1) aK)) (jv 3) (aW (bZ 4 1 .s (fP (aG (aB 3) aK)))
 (aW (iz .s (aw (ai xh (aB 3) (eC (.int 0)))) (aW (bZ 5 0 .s (aN eZ (aG (aB 0) (aG (ai dC (eC (.int 3)) (aB 3)) aK))))
 (aW (CL 6 2 .s (ai cY (aB 5) (aB 3)))
 (dD .s (wc (aG (aN CB (aG (eC (.int 3)) (aG (aN cJ (aG (aB 6) aK)) aK))) aK)) (jv 7) (iz .s (aw (ai qg (ai cY (ai fL (aB 5) (ai fK (aB 3) (ai ar (fP (aG (eC (.int 1)) (aG (eC (.int 2)) (aG (eC (.int 4)) aK)))) (aB 7)))) (eC (.int 2))) (eC (.int 1)))) (iF 4 .s (ai ar (aB 6) (ai cY (ai dC (aB 7) (ai fL (aB 5) (eC (.int 8)))) (aN cJ (aG (aB 6) aK))))) eQ)))) eQ)
 (mF 4 (iF 2 .s (aN KS (aG (aB 4) aK)))))))
 (mF 2 (cE 0 .s (aB 2)))))
def AC:List aA->Option aA:=cu 2 8 Zw
theorem j7 (F:Fun K "_law_sets" "_law_sets" MU f fd)(B:Blt mg)(C:Cst mg)(aq:Def P w K mg base "_law_cell" 1 pQ (ax K 0 eZ)):FnOk P w K mg base cb 2 f fd NP (ax K 0 AC):=by
 have nd:=Ale.nd;exact dI F Ale rfl (by decide) λba A outer s H E P0 hr=>by
  rw[1];exact(cA (by sleep 0)
   (cA (oE .s gJ rfl (by sleep 0) (by sleep 0) (cA (by sleep 0)
   (cA (kH .s (by sleep 0) (cA (by sleep 0)
   (cA (Yc 6 2 .s nd rfl (by first|exact cF rfl|exact bY rfl) (by sleep 0) (λ_ _=>rfl))
   (cS (oE .s gJ rfl (Be rfl B.range (gG (tM (B7 rfl) C5 rfl B.min PyProof.Rows.boot_min (by sleep 0)) iJ)) (by sleep 0) (by sleep 0))))) kL)
   (yV 4 (cS (LJ 2 .s (fW (n:=1) (G8 rfl rfl B.sorted rfl B.set (cI 4)))))))))
   (by sleep 0)))
def p9:SF:=(aW (iz .s (yt (iT (aw (iq (eA "list") (aB 2)))) (aw (ai ir (aB 2) (aN zL (aG (aB 2) aK))))) (cE 0 .s (eC (.bool ag))) eQ)
 (aW (bZ 3 0 .s (aN EA (aG (ip [ae] (bj (ai ar (aB 0) (ai ar (aB 1) (eC (.int 0))))) (gB 0) cZ (iR (aG (aB 0) (aG (eC (.bool af)) aK)))) aK)))
 (aW (dD .s (bj (aB 2)) (jv 4) (iz .s (yt (aw (ai (pv af) (aB 4) (aB 3))) (aw (ai HU (aN tT (aG (aB 1) (aG (aB 4) aK))) (eC .none)))) (cE 0 .s (eC (.bool ag))) eQ))
 (cE 0 .s (eC (.bool af))))))
def AN:List aA->Option aA:=cu 3 5 p9
theorem q0 (F:Fun K "_law_rows_right" "_law_rows_right" GA f fd)(B:Blt mg)(C:Cst mg)(cc:Def P w K mg base "_law_known" 1 FR (ax K 1 tT)):FnOk P w K mg base cb 2 f fd OK (ax K 0 AN):=by
 have nd:=Afd.nd;exact dI F Afd rfl (by decide) λba A outer s H E P0 hr=>by
  rw[1];exact(cA (kH .s (pC (AQ (CV (yK (GB (T:="list") rfl B.isinstance rfl B.list GP (by decide) (cI 2)))) (yM (iW (OQ hu) WR (cI 2) (fW (n:=1) (Dv rfl hv rfl B.sorted rfl B.set (cI 2))) (kZ _))))) (by sleep 0) kL)
   (cA (mU (i:=3) 0 .s nd rfl (by first|exact cF rfl|exact bY rfl) (jY (Ea hu rfl) Eb rfl B.dict GQ (gG (fW (n:=1) (kW ["_law_row"] (bP GA).names Ex (by sleep 0) λ_ _ _ _ _=>(by sleep 0))) iJ)))
   (cA (lX gJ rfl (iX (cI 2)) (by sleep 0) (cS (kH .s (pC (AQ (iW (NK hu) pI (cI 4) (cI 3) (by with_unfolding_all rfl)) (yM (iW Ou Rp (by sleep 0) WQ (kZ _))))) (by sleep 0) kL)))
   (by sleep 0))))
def g8:SF:=(aW (bZ 3 1 .s (fP aK))
 (aW (dD .s (bj (aB 1)) (jv 4) (aW (bZ 5 0 .s (aN tT (aG (aB 0) (aG (aB 4) aK))))
 (iF 3 .s (aN kX (aG (ip [ae,aa 5] (bj (aB 2)) (gB 0) cZ (ai ar (aB 1) (aB 0))) aK)))))
 (jJ 3 1)))
def wB:List aA->Option aA:=cu 3 6 g8
theorem k6 (F:Fun K "_law_parts" "_law_parts" FY f fd)(B:Blt mg)(C:Cst mg)(cc:Def P w K mg base "_law_known" 1 FR (ax K 1 tT)):FnOk P w K mg base cb 2 f fd OE (ax K 1 wB):=by
 have nd:=Aki.nd;exact dI F Aki rfl (by decide) λba A outer s H E P0 hr=>by
  rw[1];exact(cA (by sleep 0)
   (cA (lX gJ rfl (iX (cI 1)) (by sleep 0) (cA (by sleep 0)
   (cS (LJ 3 .s (jY tV tQ rfl B.tuple uD (gG (fW (n:=1) (kW ["_law_name_here","_law_known_here"] (bP FY).names Dx (iX (cI 2)) λ_ _ _ _ _=>(by sleep 0))) iJ))))))
   (cS (vD 3))))
end Aw
namespace Aw
open PySem L2
set_option maxHeartbeats 4000000
variable {P:bG}{w:aX}{K:aJ}{mg:aE->Option aD}{base:aQ}{f:aC}{fd:iE}
def d8:SF:=(aW (bZ 3 0 .s (aN zH (aG (aN kX (aG (ip [ae,aa 0] (bj (aB 1)) (gB 0) cZ (ai ar (aB 1) (aB 0))) aK)) (aG (ai JH (aB 1) (aB 2)) aK))))
 (aW (dD .s (bj (aB 1)) (jv 4) (iz .s (iS (aw (ai ir (aB 4) (aB 2))) (aw (aN xW (aG (ip [ae,aa 0,aa 4] (bj (aB 3)) (gB 0) cZ (ai (pv ag) (aB 0) (ai ar (ai ar (aB 1) (aB 2)) (eC (.int 1))))) aK)))) (cE 0 .s (aB 4)) eQ))
 (cE 0 .s (eC .none))))
def AA:List aA->Option aA:=cu 3 5 d8
theorem j8 (F:Fun K "parent_of" "parent_of" zY f fd)(B:Blt mg)(C:Cst mg)(li:Def P w K mg base "shared" 2 JX (ax K 1 zH)):FnOk P w K mg base cb 3 f fd NC (ax K 0 AA):=by
 have nd:=Alv.nd;exact dI F Alv rfl (by decide) λba A outer s H E P0 hr=>by
  rw[1];exact(cA (mU (i:=3) 0 .s nd rfl (by first|exact cF rfl|exact bY rfl) (fW (n:=1) (yP li (hr.mono (by decide)) rfl (gG (jY tV tQ rfl B.tuple uD (gG (fW (n:=1) (kW ["j","lines"] (bP zY).names MV (iX (cI 1)) λ_ _ _ _ _=>(by sleep 0))) iJ)) (by sleep 0)))))
   (cA (lX gJ rfl (iX (cI 1)) (by sleep 0) (cS (kH .s (pC (CN (by sleep 0) (DB (yK (tM (C2 rfl) A9 rfl B.all boot_all (gG (fW (n:=1) (kW ["name","lines","j"] (bP zY).names MV (iX (cI 3)) λ_ _ _ _ _=>(Qb (vP hu) pI (cI 0) (by sleep 0) (by with_unfolding_all rfl)))) iJ)))))) (by sleep 0) kL)))
   (by sleep 0)))
def NZ:SF:=(sF .s (aN AD (aG (ip [ae,aa 0] (bj (aB 1)) (gB 0) cZ (aN nA (aG (aB 1) (aG (aB 0) aK)))) aK)))
def AE:List aA->Option aA:=cu 2 2 NZ
theorem o4 (F:Fun K "refuse_ways" "refuse_ways" FV f fd)(B:Blt mg)(C:Cst mg)(im:Def P w K mg base "rows_of" 1 FH (ax K 0 nA))(dk:Def P w K mg base "refuse_rows" 2 NW (ax K 0 AD)):FnOk P w K mg base cb 3 f fd OJ (ax K 0 AE):=by
 have nd:=Ahx.nd;exact dI F Ahx rfl (by decide) λba A outer s H E P0 hr=>by
  rw[1];exact(cS (JD .s (yP dk (hr.mono (by decide)) rfl (gG (fW (n:=1) (kW ["line","book"] (bP FV).names Ej (iX (cI 1)) λ_ _ _ _ _=>(by sleep 0))) iJ))))
def Yq:SF:=(aW (bZ 2 0 .s (fP (aG (eC (.dict [])) aK)))
 (aW (dD .s (iZ (aG (aB 0) (aG (aB 1) aK))) (qS 3 4) (bZ 2 0 .s (aN zT (aG (aB 2) (aG (aB 3) (aG (aB 4) aK))))))
 (cE 0 .s (aB 2))))
def zK:List aA->Option aA:=cu 2 5 Yq
theorem r6 (F:Fun K "walked" "walked" KW f fd)(B:Blt mg)(C:Cst mg)(lj:Def P w K mg base "extended" 2 MP (ax K 1 zT)):FnOk P w K mg base cb 3 f fd KG (ax K 0 zK):=by
 have nd:=Aub.nd;exact dI F Aub rfl (by decide) λba A outer s H E P0 hr=>by
  rw[1];exact(cA (by sleep 0)
   (cA (lX gJ rfl (OP rfl B.zip (by sleep 0)) (by sleep 0) (by sleep 0))
   (by sleep 0)))
def k9:SF:=(cE 1 .s (ip [ae,aa 0] (bj (aB 1)) (gB 0) cZ (aN vW (aG (aB 1) (aG (aB 0) aK)))))
def AG:List aA->Option aA:=cu 2 2 k9
theorem o9 (F:Fun K "all_fitting" "all_fitting" FU f fd)(B:Blt mg)(C:Cst mg)(on:Def P w K mg base "fitting" 2 ME (ax K 1 vW)):FnOk P w K mg base cb 3 f fd OA (ax K 1 AG):=by
 have nd:=Ah6.nd;exact dI F Ah6 rfl (by decide) λba A outer s H E P0 hr=>by
  rw[1];exact(cS (jV .s (kW ["line","book"] (bP FU).names Ei (iX (cI 1)) λ_ _ _ _ _=>(by sleep 0))))
def o6:SF:=(aW (bZ 4 0 .s (aN yZ (aG (aB 0) (aG (aB 2) aK))))
 (aW (bZ 5 0 .s (aN EA (aG (ip [ae,aa 2,aa 4] (bj (aB 3)) (gB 0) cZ (iR (aG (aN pM (aG (aB 1) (aG (aB 0) (aG (aB 2) aK)))) (aG (eC (.bool af)) aK)))) aK)))
 (cE 1 .s (ip [ae,aa 5,aa 0,aa 4] (bj (aB 1)) (gB 0) (aw (ai (pv ag) (aN pM (aG (aB 2) (aG (aB 0) (aG (aB 3) aK)))) (aB 1))) (aB 0)))))
def tW:List aA->Option aA:=cu 4 6 o6
theorem p7 (F:Fun K "with_partner" "with_partner" AM f fd)(B:Blt mg)(C:Cst mg)(qv:Def P w K mg base "common" 2 LD (ax K 1 yZ))(qw:Def P w K mg base "key_of" 2 KA (ax K 0 pM)):FnOk P w K mg base cb 3 f fd FZ (ax K 1 tW):=by
 have nd:=Ahh.nd;exact dI F Ahh rfl (by decide) λba A outer s H E P0 hr=>by
  rw[1];exact(cA (by sleep 0)
   (cA (mU (i:=5) 0 .s nd rfl (by first|exact cF rfl|exact bY rfl) (jY (Ea hu rfl) Eb rfl B.dict GQ (gG (fW (n:=1) (kW ["row","other","names"] (bP AM).names OI (iX (cI 3)) λ_ _ _ _ _=>(by sleep 0))) iJ)))
   (cS (jV .s (qU rfl (pR (N:=["row","met","line","names"]) (cap:=[ae,aa 5,aa 0,aa 4]) (out:=(bP AM).names) (XN:=OI) rfl rfl (by rw[0]) rfl) pG (iX (cI 1)) (λcl C s₀ H₀ ex=>⟨tL (j:=0) (show(["row","met","line","names"]:List aE).Nodup by rw[0]) rfl (cF rfl),vM (iW (vP hu) pI (by sleep 0) (cI 1) (by with_unfolding_all rfl)),(cI 0)⟩))))))
def j0:SF:=(aW (bZ 2 1 .s (fP aK))
 (aW (dD .s (wc (aG (aN cJ (aG (aB 1) aK)) aK)) (jv 3) (aW (bZ 4 0 .s (aN eZ (aG (aB 0) (aG (ai dC (eC (.int 8)) (aB 3)) aK))))
 (aW (bZ 5 0 .s (aN uP (aG (aN cJ (aG (ai ar (aB 1) (aB 3)) aK)) (aG (ai dC (eC (.int 1)) (ai cY (aB 4) (eC (.int 4)))) aK))))
 (aW (bZ 6 1 .s (fP aK))
 (aW (dD .s (wc (aG (aB 5) aK)) (jv 7) (aW (bZ 8 0 .s (aN eZ (aG (aB 0) (aG (ai dC (ai dC (eC (.int 13)) (ai fK (eC (.int 4)) (aB 3))) (aB 7)) aK))))
 (iz .s (aw (ai qg (ai cY (aB 8) (eC (.int 3))) (eC (.int 0)))) (iF 6 .s (aN rG (aG (aB 0) (aG (ai fL (aB 8) (eC (.int 3))) aK)))) (iF 6 .s (aN pO (aG (aB 0) (aG (ai ar (ai ar (aB 1) (aB 3)) (ai cY (ai fL (aB 8) (eC (.int 3))) (aN cJ (aG (ai ar (aB 1) (aB 3)) aK)))) aK)))))))
 (aW (dD .s (wc (aG (aN cJ (aG (ai ar (aB 1) (aB 3)) aK)) aK)) (jv 7) (sL 6 .s (aN pO (aG (aB 0) (aG (ai ar (ai ar (aB 1) (aB 3)) (aB 7)) aK))) .s (ai cY (ai dC (ai fL (aB 4) (eC (.int 4))) (aB 7)) (aB 5))))
 (mF 6 (iF 2 .s (iR (aG (ai ar (fP (aG (eC (.str "t")) (aG (eC (.str "u")) (aG (eC (.str "tt")) (aG (eC (.str "ut")) (aG (eC (.str "a")) (aG (eC (.str "b")) (aG (eC (.str "c")) (aG (eC (.str "tu")) aK))))))))) (ai pK (ai pK (ai fK (eC (.int 2)) (aB 5)) (eC (.int 1))) (ai cY (ai fL (aB 4) (eC (.int 24))) (eC (.int 2))))) (aG (aN kX (aG (aB 6) aK)) aK)))))))))))
 (mF 2 (cE 0 .s (aN kX (aG (aB 2) aK))))))
def AI:List aA->Option aA:=cu 2 9 j0
theorem k5 (F:Fun K "_law_lines" "_law_lines" OC f fd)(B:Blt mg)(C:Cst mg)(aq:Def P w K mg base "_law_cell" 1 pQ (ax K 0 eZ))(ce:Def P w K mg base "_law_value" 2 FX (ax K 0 rG))(dg:Def P w K mg base "_law_name" 2 FP (ax K 0 pO)):FnOk P w K mg base cb 3 f fd NS (ax K 0 AI):=by
 have nd:=Aja.nd;exact dI F Aja rfl (by decide) λba A outer s H E P0 hr=>by
  rw[1];exact(cA (by sleep 0)
   (cA (oE .s gJ rfl (by sleep 0) (by sleep 0) (cA (by sleep 0)
   (cA (mU (i:=5) 0 .s nd rfl (by first|exact cF rfl|exact bY rfl) (tM (Bn rfl) ZN rfl B.max PyProof.Rows.boot_max (by sleep 0)))
   (by sleep 0))))
   (by sleep 0)))
def m4:SF:=(aW (bZ 3 1 .s (eC (.dict [])))
 (aW (dD .s (wc (aG (eC (.int 5)) aK)) (jv 4) (sJ 3 .s (aN rG (aG (aB 0) (aG (aN wA (aG (aB 2) (aG (aB 4) (aG (eC (.int 660)) aK)))) aK))) .s (aN pO (aG (aB 0) (aG (aB 4) aK)))))
 (mF 3 (cE 0 .s (aN kX (aG (ip [ae,aa 3] (bj (ai ar (aB 1) (eC (.int 1)))) (gB 0) cZ (mQ (aB 1) (aB 0) (aB 0))) aK))))))
def nE:List aA->Option aA:=cu 3 5 m4
theorem o7 (F:Fun K "_law_become" "_law_become" FS f fd)(B:Blt mg)(C:Cst mg)(kj:Def P w K mg base "_law_draw" 1 NQ (ax K 0 wA))(ce:Def P w K mg base "_law_value" 2 FX (ax K 0 rG))(dg:Def P w K mg base "_law_name" 2 FP (ax K 0 pO)):FnOk P w K mg base cb 3 f fd FT (ax K 0 nE):=by
 have nd:=Ah7.nd;exact dI F Ah7 rfl (by decide) λba A outer s H E P0 hr=>by
  rw[1];exact(cA (by sleep 0)
   (cA (by sleep 0)
   (yV 3 (cS (jV .s (jY tV tQ rfl B.tuple uD (gG (fW (n:=1) (kW ["_law_term","_law_values"] (bP FS).names Eh (by sleep 0) λ_ _ _ _ _=>(by sleep 0))) iJ)))))))
def Zm:SF:=(aW (dD .s (bj (aB 1)) (jv 2) (aW (bZ 3 0 .s (aN AA (aG (aB 0) (aG (aB 1) (aG (aB 2) aK)))))
 (iz .s (aw (ai mR (aB 3) (eC .none))) (cE 0 .s (iR (aG (aB 2) (aG (aB 3) aK)))) eQ)))
 (cE 0 .s (eC .none)))
def nB:List aA->Option aA:=cu 2 4 Zm
theorem h9 (F:Fun K "first_ear" "first_ear" MX f fd)(B:Blt mg)(C:Cst mg)(km:Def P w K mg base "parent_of" 3 NC (ax K 0 AA)):FnOk P w K mg base cb 4 f fd ND (ax K 0 nB):=by
 have nd:=Alc.nd;exact dI F Alc rfl (by decide) λba A outer s H E P0 hr=>by
  rw[1];sleep 0
def NF:SF:=(aW (bZ 2 10 .s (eC (.dict [])))
 (aW (dD .s (bj (aB 1)) (jv 3) (sOr (sX 2 .s (eC (.dict [(.none,.none)])) .s (ai ar (aB 3) (eC (.int 0))) 10 9) (CW 2 .s (eC (.dict [(.none,.none)])) .s (ai ar (aB 3) (eC (.int 0))) 10 9)))
 (aW (dD .s (wc (aG (ai dC (eC (.int 1)) (ai cY (ai fL (aN eZ (aG (aB 0) (aG (eC (.int 0)) aK))) (eC (.int 5))) (eC (.int 9)))) aK)) (jv 4) (dD .s (bj (aB 1)) (jv 3) (yG 2 .s (eC (.bool af)) .s (ai ar (aB 3) (eC (.int 0))) .s (aN nE (aG (aB 0) (aG (aB 3) (aG (aN eZ (aG (aB 0) (aG (ai dC (eC (.int 33)) (aB 4)) aK))) aK)))))))
 (aW (dD .s (wc (aG (ai cY (ai fL (aN eZ (aG (aB 0) (aG (eC (.int 0)) aK))) (eC (.int 45))) (eC (.int 60))) aK)) (jv 4) (dD .s (wc (aG (aN cJ (aG (aB 1) aK)) aK)) (jv 5) (iz .a (aw (ai yj (aN CH (aG (ai ar (aB 2) (ai ar (ai ar (aB 1) (aB 5)) (eC (.int 0)))) aK)) (eC (.int 60)))) (aW (bZ 6 0 .s (ai dC (ai dC (aN eZ (aG (aB 0) (aG (ai dC (eC (.int 42)) (ai cY (aB 4) (eC (.int 20)))) aK))) (ai fK (eC (.int 5)) (aB 4))) (aB 5)))
 (yG 2 .s (eC (.bool af)) .s (ai ar (ai ar (aB 1) (aB 5)) (eC (.int 0))) .s (aN nE (aG (aB 0) (aG (ai ar (aB 1) (aB 5)) (aG (aB 6) aK)))))) eQ)))
 (mF 2 (cE 0 .s (aN yD (aG (ip [ae,ae] (U9 (aB 2)) (R0 0 1) cZ (iR (aG (aB 0) (aG (aN yH (aG (aB 1) aK)) aK)))) aK))))))))
def FL:List aA->Option aA:=cu 2 7 NF
theorem j3 (F:Fun K "_law_book" "_law_book" FQ f fd)(B:Blt mg)(C:Cst mg)(aq:Def P w K mg base "_law_cell" 1 pQ (ax K 0 eZ))(bw:Def P w K mg base "_law_become" 3 FT (ax K 0 nE)):FnOk P w K mg base cb 4 f fd MT (ax K 0 FL):=by
 have nd:=Alk.nd;exact dI F Alk rfl (by decide) λba A outer s H E P0 hr=>by
  rw[1];exact(cA (mU (i:=2) 10 .s nd rfl (by first|exact cF rfl|exact bY rfl) Wb)
   (cA (lX gJ rfl (iX (cI 1)) (by sleep 0) (cS (Mh (B9 2 .s .s hv XA (by sleep 0)) (Vw 2 .s .s hv XA (by sleep 0)))))
   (cA (oE .s gJ rfl (by sleep 0) (by sleep 0) (cS (lX gJ rfl (iX (cI 1)) (by sleep 0) (cS (ZA 2 .s .s .s hv IK (by sleep 0) (by sleep 0))))))
   (cA (oE .s gJ rfl (by sleep 0) (by sleep 0) (cS (oE .s gJ rfl (by sleep 0) (by sleep 0) (cS (kH .a (iW (Bi2.or By) WB (tM x9 M8 rfl B.len PySem.boot_len (by sleep 0)) WG (kZ _)) (cA (by sleep 0)
   (cS (ZA 2 .s .s .s hv IK (by sleep 0) (by sleep 0)))) kL)))))
   (yV 2 (cS (jV .s (fW (n:=1) (jY (Dm rfl) Dt rfl B.dict GQ (gG (fW (n:=1) (qU rfl (pR (N:=["_law_table","_law_some"]) (cap:=[ae,ae]) (out:=(bP FQ).names) (XN:=Dg) rfl rfl (by rw[0]) rfl) VR (YX (cI 2)) (λcl C s₀ H₀ ex=>⟨XU (i:=0) (j:=1) rfl (show(["_law_table","_law_some"]:List aE).Nodup by rw[0]) rfl rfl (cF rfl) (cF rfl),JF,(WT (gG (cI 0) (gG (fW (n:=1) (jY (Zt rfl) Zl rfl B.list GP (by sleep 0))) iJ)))⟩))) iJ))))))))))
def j5:SF:=(aW (iz .s (yt (iT (aw (iq (eA "list") (aB 3)))) (aw (ai ir (aN cJ (aG (aB 3) aK)) (aN cJ (aG (aB 2) aK))))) (cE 0 .s (eC (.bool ag))) eQ)
 (aW (dD .s (wc (aG (aN cJ (aG (aB 2) aK)) aK)) (jv 4) (aW (iz .s (iT (aw (aN AN (aG (aB 1) (aG (ai ar (aB 2) (aB 4)) (aG (ai ar (aB 3) (aB 4)) aK)))))) (cE 0 .s (eC (.bool ag))) eQ)
 (dD .s (wc (aG (ai dC (eC (.int 1)) (ai cY (ai fL (aN eZ (aG (aB 0) (aG (eC (.int 0)) aK))) (eC (.int 5))) (eC (.int 9)))) aK)) (jv 5) (iz .s (aw (ai (pv af) (aN nE (aG (aB 0) (aG (ai ar (aB 2) (aB 4)) (aG (aN eZ (aG (aB 0) (aG (ai dC (eC (.int 33)) (aB 5)) aK))) aK)))) (ai ar (aB 3) (aB 4)))) (cE 0 .s (eC (.bool ag))) eQ))))
 (aW (dD .s (iR2 (aG (eC (.int 1)) (aG (aN cJ (aG (aB 2) aK)) aK))) (jv 4) (aW (bZ 6 0 .s (ai cY (aN eZ (aG (aB 0) (aG (ai dC (eC (.int 3)) (aB 4)) aK))) (aB 4)))
 (aW (bZ 7 1 .s (ip [ae,aa 2,aa 6] (bj (ai ar (ai ar (aB 2) (aB 4)) (eC (.int 1)))) (gB 0) (iS (aw (iq (eA "str") (aB 0))) (aw (ai (pv ag) (aB 0) (ai ar (ai ar (aB 1) (aB 2)) (eC (.int 1)))))) (aB 0)))
 (mF 7 (iz .s (aw (ai yA (aN wB (aG (ai ar (aB 2) (aB 4)) (aG (ai ar (aB 3) (aB 4)) (aG (aB 7) aK)))) (aN wB (aG (ai ar (aB 2) (aB 6)) (aG (ai ar (aB 3) (aB 6)) (aG (aB 7) aK)))))) (cE 0 .s (eC (.bool ag))) eQ)))))
 (cE 0 .s (eC (.bool af))))))
def tU:List aA->Option aA:=cu 4 8 j5
theorem k4 (F:Fun K "_law_right" "_law_right" AJ f fd)(B:Blt mg)(C:Cst mg)(aq:Def P w K mg base "_law_cell" 1 pQ (ax K 0 eZ))(dh:Def P w K mg base "_law_rows_right" 2 OK (ax K 0 AN))(jp:Def P w K mg base "_law_parts" 2 OE (ax K 1 wB))(bw:Def P w K mg base "_law_become" 3 FT (ax K 0 nE)):FnOk P w K mg base cb 4 f fd NR (ax K 0 tU):=by
 have nd:=Ajs.nd;exact dI F Ajs rfl (by decide) λba A outer s H E P0 hr=>by
  rw[1];exact(cA (kH .s (pC (AQ (CV (yK (GB (T:="list") rfl B.isinstance rfl B.list GP (by decide) (cI 3)))) (yM (by sleep 0)))) (by sleep 0) kL)
   (cA (oE .s gJ rfl (by sleep 0) (by sleep 0) (cA (by sleep 0)
   (cS (oE .s gJ rfl (by sleep 0) (by sleep 0) (cS (kH .s (iW (NK hu) pI (by sleep 0) (by sleep 0) (by with_unfolding_all rfl)) (by sleep 0) kL))))))
   (cA (oE .s gJ rfl (A5 rfl B.range (by sleep 0)) (by sleep 0) (cA (by sleep 0)
   (cA (by first|exact(Vt (i:=7) .s rfl nd rfl (by first|exact cF rfl|exact bY rfl) (pR (N:=["_law_term","_law_lines_here","_law_above"]) (cap:=[ae,aa 2,aa 6]) (out:=(bP AJ).names) (XN:=OD) rfl rfl (by rw[0]) rfl) pG (by sleep 0) (λcl C s₀ H₀ ex=>⟨tL (j:=0) (show(["_law_term","_law_lines_here","_law_above"]:List aE).Nodup by rw[0]) rfl (cF rfl),vM (pC (CN (by sleep 0) (DB (iW (vP hu) pI (cI 0) (by sleep 0) (by with_unfolding_all rfl))))),(cI 0)⟩))|exact(mU (i:=7) 1 .s nd rfl (by first|exact cF rfl|exact bY rfl) (qU rfl (pR (N:=["_law_term","_law_lines_here","_law_above"]) (cap:=[ae,aa 2,aa 6]) (out:=(bP AJ).names) (XN:=OD) rfl rfl (by rw[0]) rfl) pG (by sleep 0) (λcl C s₀ H₀ ex=>⟨tL (j:=0) (show(["_law_term","_law_lines_here","_law_above"]:List aE).Nodup by rw[0]) rfl (cF rfl),vM (pC (CN (by sleep 0) (DB (iW (vP hu) pI (cI 0) (by sleep 0) (by with_unfolding_all rfl))))),(cI 0)⟩))))
   (yV 7 (cS (kH .s (Nc rfl hu rfl B.set (by sleep 0) (by sleep 0)) (by sleep 0) kL))))))
   (by sleep 0))))
def Pw:SF:=(aW (bZ 1 1 .s (fP aK))
 (aW (bZ 2 1 .s (aN VX (aG (aN cJ (aG (aB 0) aK)) aK)))
 (aW (bZ 3 0 .a (aN nB (aG (aB 0) (aG (aB 2) aK))))
 (aW (yy .s (aw (ai mR (aB 3) (eC .none))) (aW (iF 1 .s (aB 3))
 (aW (oY 2 .s (ai ar (aB 3) (eC (.int 0))))
 (bZ 3 0 .a (aN nB (aG (aB 0) (aG (aB 2) aK)))))) 100)
 (VO 1 2)))))
def iI:List aA->Option aA:=cu 1 4 Pw
theorem Tw (F:Fun K "ears" "ears" PF f fd)(B:Blt mg)(C:Cst mg)(ko:Def P w K mg base "first_ear" 4 ND (ax K 0 nB)):FnOk P w K mg base cb 5 f fd sS (ax K 2 iI):=by
 have nd:=A7d.nd;exact dI F A7d rfl (by decide) λba A outer s H E P0 hr=>by
  rw[1];exact(cA (by sleep 0)
   (cA (mU (i:=2) 1 .s nd rfl (by first|exact cF rfl|exact bY rfl) (Yx rfl rfl B.list rfl B.range (by sleep 0)))
   (cA (by sleep 0)
   (cA (Vz .s 100 gJ (by sleep 0) (cA (by sleep 0)
   (cA (C3 2 .s (by sleep 0))
   (by sleep 0))))
   (cS (Xd 1 2 (by decide)))))))
def Nz:SF:=(aW (bZ 1 1 .s (nG 1 (aN iI (aG (aB 0) aK))))
 (WE .a (aw (ai xh (aN cJ (aG (aB 1) aK)) (eC (.int 1)))) 1 (fP aK)))
def sV:List aA->Option aA:=cu 1 2 Nz
theorem Tq (F:Fun K "ring" "ring" OV f fd)(B:Blt mg)(C:Cst mg)(dm:Def P w K mg base "ears" 5 sS (ax K 2 iI)):FnOk P w K mg base cb 6 f fd OM (ax K 1 sV):=by
 have nd:=A7b.nd;exact dI F A7b rfl (by decide) λba A outer s H E P0 hr=>by
  rw[1];exact(cA (by sleep 0)
   (cS (Yo .a 1 (by sleep 0) (VN iJ))))
def m9:SF:=(aW (bZ 2 1 .s (aN nX (aG (aB 1) aK)))
 (aW (dD .s (bj (nG 0 (aN iI (aG (aB 0) aK)))) (qS 3 4) (yI 2 .a (aN tW (aG (ai ar (aB 0) (aB 4)) (aG (ai ar (aB 2) (aB 4)) (aG (ai ar (aB 0) (aB 3)) (aG (ai ar (aB 2) (aB 3)) aK))))) .s (aB 4)))
 (jJ 2 1)))
def AK:List aA->Option aA:=cu 2 5 m9
theorem p8 (F:Fun K "thin_parents" "thin_parents" OH f fd)(B:Blt mg)(C:Cst mg)(br:Def P w K mg base "with_partner" 3 FZ (ax K 1 tW))(dm:Def P w K mg base "ears" 5 sS (ax K 2 iI)):FnOk P w K mg base cb 6 f fd OG (ax K 1 AK):=by
 have nd:=Ahl.nd;exact dI F Ahl rfl (by decide) λba A outer s H E P0 hr=>by
  rw[1];sleep 0
def Zx:SF:=(aW (bZ 2 0 .s (nG 1 (aN iI (aG (aB 0) aK))))
 (cE 0 .s (aN zK (aG (aN kX (aG (ip [ae,aa 0] (bj (aB 2)) (gB 0) cZ (ai ar (aB 1) (aB 0))) aK)) (aG (ip [ae,aa 1] (bj (aB 2)) (gB 0) cZ (ai ar (aB 1) (aB 0))) aK)))))
def zZ:List aA->Option aA:=cu 2 3 Zx
theorem d6 (F:Fun K "walk_rest" "walk_rest" AB f fd)(B:Blt mg)(C:Cst mg)(lm:Def P w K mg base "walked" 3 KG (ax K 0 zK))(dm:Def P w K mg base "ears" 5 sS (ax K 2 iI)):FnOk P w K mg base cb 6 f fd NH (ax K 0 zZ):=by
 have nd:=Alr.nd;exact dI F Alr rfl (by decide) λba A outer s H E P0 hr=>by
  rw[1];exact(cA (by sleep 0)
   (cS (jV .s (yP lm (hr.mono (by decide)) rfl (gG (jY tV tQ rfl B.tuple uD (gG (fW (n:=1) (kW ["k","lines"] (bP AB).names NJ (iX (cI 2)) λ_ _ _ _ _=>(by sleep 0))) iJ)) (gG (fW (n:=1) (kW ["k","kept"] (bP AB).names NJ (iX (cI 2)) λ_ _ _ _ _=>(by sleep 0))) iJ))))))
def Zz:SF:=(aW (bZ 2 1 .s (aN nX (aG (aB 1) aK)))
 (aW (dD .s (iRv (aG (nG 0 (aN iI (aG (aB 0) aK))) aK)) (qS 3 4) (yI 2 .a (aN tW (aG (ai ar (aB 0) (aB 3)) (aG (ai ar (aB 2) (aB 3)) (aG (ai ar (aB 0) (aB 4)) (aG (ai ar (aB 2) (aB 4)) aK))))) .s (aB 3)))
 (jJ 2 1)))
def zW:List aA->Option aA:=cu 2 5 Zz
theorem h7 (F:Fun K "thin_ears" "thin_ears" NM f fd)(B:Blt mg)(C:Cst mg)(br:Def P w K mg base "with_partner" 3 FZ (ax K 1 tW))(dm:Def P w K mg base "ears" 5 sS (ax K 2 iI)):FnOk P w K mg base cb 6 f fd MS (ax K 1 zW):=by
 have nd:=Alq.nd;exact dI F Alq rfl (by decide) λba A outer s H E P0 hr=>by
  rw[1];exact(cA (by sleep 0)
   (cA (lX gJ rfl (Qt rfl B.reversed (by sleep 0)) (by sleep 0) (by sleep 0))
   (cS (vD 2))))
def NY:SF:=(sF .s (aN AE (aG (aB 0) (aG (aN kX (aG (ip [ae,aa 1] (bj (aN sV (aG (aB 1) aK))) (gB 0) cZ (ai ar (aB 1) (aB 0))) aK)) aK))))
def wC:List aA->Option aA:=cu 2 2 NY
theorem n9 (F:Fun K "refuse_ring" "refuse_ring" FW f fd)(B:Blt mg)(C:Cst mg)(dq:Def P w K mg base "refuse_ways" 3 OJ (ax K 0 AE))(xL:Def P w K mg base "ring" 6 OM (ax K 1 sV)):FnOk P w K mg base cb 7 f fd NX (ax K 0 wC):=by
 have nd:=Ah8.nd;exact dI F Ah8 rfl (by decide) λba A outer s H E P0 hr=>by
  rw[1];exact(cS (JD .s (yP dq (hr.mono (by decide)) rfl (gG (cI 0) (gG (jY tV tQ rfl B.tuple uD (gG (fW (n:=1) (kW ["k","lines"] (bP FW).names Ef (by sleep 0) λ_ _ _ _ _=>(by sleep 0))) iJ)) iJ)))))
def Zs:SF:=(aW (bZ 2 1 .s (aN nX (aG (aB 1) aK)))
 (aW (bZ 3 0 .s (aN zZ (aG (aB 0) (aG (aB 1) aK))))
 (aW (dD .s (bj (nG 1 (aN iI (aG (aB 0) aK)))) (jv 4) (sL 2 .s (aN zL (aG (ip [ae,aa 0,aa 4] (bj (aB 3)) (gB 0) cZ (aN oG (aG (ai ar (ai ar (aB 1) (aB 2)) (eC (.int 1))) (aG (aB 0) aK)))) aK)) .s (aB 4)))
 (jJ 2 1))))
def zX:List aA->Option aA:=cu 2 5 Zs
theorem j4 (F:Fun K "thin_rest" "thin_rest" FN f fd)(B:Blt mg)(C:Cst mg)(jo:Def P w K mg base "put_in" 1 ER (ax K 0 oG))(dm:Def P w K mg base "ears" 5 sS (ax K 2 iI))(kq:Def P w K mg base "walk_rest" 6 NH (ax K 0 zZ)):FnOk P w K mg base cb 7 f fd MW (ax K 1 zX):=by
 have nd:=Als.nd;exact dI F Als rfl (by decide) λba A outer s H E P0 hr=>by
  rw[1];exact(cA (by sleep 0)
   (cA (by sleep 0)
   (cA (lX gJ rfl (by sleep 0) (by sleep 0) (cS (Ha 2 .s .s (fW (n:=1) (Dv rfl hv rfl B.sorted rfl B.set (fW (n:=1) (kW ["known","lines","k"] (bP FN).names Dk (iX (cI 3)) λ_ _ _ _ _=>(by sleep 0))))) (cI 4))))
   (cS (vD 2)))))
def N3:SF:=(cE 1 .s (aN zW (aG (aB 0) (aG (aN zX (aG (aB 0) (aG (aN AK (aG (aB 0) (aG (aB 1) aK))) aK))) aK))))
def zU:List aA->Option aA:=cu 2 2 N3
theorem a9 (F:Fun K "thin_all" "thin_all" MM f fd)(B:Blt mg)(C:Cst mg)(gp:Def P w K mg base "thin_parents" 6 OG (ax K 1 AK))(kr:Def P w K mg base "thin_ears" 6 MS (ax K 1 zW))(ku:Def P w K mg base "thin_rest" 7 MW (ax K 1 zX)):FnOk P w K mg base cb 8 f fd MK (ax K 1 zU):=by
 have nd:=Ang.nd;exact dI F Ang rfl (by decide) λba A outer s H E P0 hr=>by
  rw[1];sleep 0
def t6:SF:=(aW (sF .s (aN wC (aG (aB 0) (aG (aB 1) aK))))
 (cE 1 .s (aN zU (aG (aB 1) (aG (aN AG (aG (aB 0) (aG (aB 1) aK))) aK)))))
def vQ:List aA->Option aA:=cu 2 2 t6
theorem L8 (F:Fun K "thinned" "thinned" LV f fd)(B:Blt mg)(C:Cst mg)(ix:Def P w K mg base "all_fitting" 3 OA (ax K 1 AG))(iy:Def P w K mg base "refuse_ring" 7 NX (ax K 0 wC))(lq:Def P w K mg base "thin_all" 8 MK (ax K 1 zU)):FnOk P w K mg base cb 9 f fd LI (ax K 1 vQ):=by
 have nd:=Ao8.nd;exact dI F Ao8 rfl (by decide) λba A outer s H E P0 hr=>by
  rw[1];sleep 0
end Aw
namespace Aw
open PySem L2
set_option maxHeartbeats 4000000
variable {P:bG}{w:aX}{K:aJ}{mg:aE->Option aD}{base:aQ}{f:aC}{fd:iE}
def My:SF:=(aW (bZ 1 0 .s (aN AC (aG (aB 0) (aG (ai dC (eC (.int 1)) (ai cY (aN eZ (aG (aB 0) (aG (eC (.int 0)) aK))) (eC (.int 5)))) aK))))
 (aW (bZ 2 0 .s (aN AI (aG (aB 0) (aG (aB 1) aK))))
 (aW (bZ 3 0 .s (aN FL (aG (aB 0) (aG (aB 2) aK))))
 (aW (bZ 4 0 .s (aN yD (aG (ip [ae,ae] (U9 (aB 3)) (R0 0 1) cZ (iR (aG (aB 0) (aG (aN nX (aG (aB 1) aK)) aK)))) aK)))
 (aW (bZ 5 0 .s (aN vQ (aG (aB 4) (aG (aB 2) aK))))
 (aW (iz .s (yt (aw (ai (uN af) (aB 4) (aB 3))) (iT (aw (aN tU (aG (aB 0) (aG (aB 3) (aG (aB 2) (aG (aB 5) aK)))))))) (cE 0 .s (eC (.bool ag))) eQ)
 (aW (bZ 6 0 .s (aN vQ (aG (aB 4) (aG (qO (aB 2) oN (oS (eC (.int 1)))) aK))))
 (cE 0 .s (uT (aN tU (aG (aB 0) (aG (aB 3) (aG (qO (aB 2) oN (oS (eC (.int 1)))) (aG (aB 6) aK))))) (aN tU (aG (aB 0) (aG (aB 3) (aG (aB 2) (aG (aB 5) aK))))))))))))))
def CI:List aA->Option aA:=cu 1 7 My
theorem Pm (F:Fun K "law" "law" qW f fd)(B:Blt mg)(C:Cst mg)(aq:Def P w K mg base "_law_cell" 1 pQ (ax K 0 eZ))(kx:Def P w K mg base "_law_sets" 2 NP (ax K 0 AC))(jq:Def P w K mg base "_law_lines" 3 NS (ax K 0 AI))(ky:Def P w K mg base "_law_book" 4 MT (ax K 0 FL))(jr:Def P w K mg base "_law_right" 4 NR (ax K 0 tU))(oq:Def P w K mg base "thinned" 9 LI (ax K 1 vQ)):FnOk P w K mg base cb 10 f fd TQ (ax K 0 CI):=by
 have nd:=Beb.nd;exact dI F Beb rfl (by decide) λba A outer s H E P0 hr=>by
  rw[1];exact(cA (by sleep 0)
   (cA (by sleep 0)
   (cA (by sleep 0)
   (cA (mU (i:=4) 0 .s nd rfl (by first|exact cF rfl|exact bY rfl) (fW (n:=1) (jY (Dm rfl) Dt rfl B.dict GQ (gG (fW (n:=1) (qU rfl (pR (N:=["_law_table","_law_rows"]) (cap:=[ae,ae]) (out:=(bP qW).names) (XN:=TY) rfl rfl (by rw[0]) rfl) VR (YX (cI 3)) (λcl C s₀ H₀ ex=>⟨XU (i:=0) (j:=1) rfl (show(["_law_table","_law_rows"]:List aE).Nodup by rw[0]) rfl rfl (cF rfl) (cF rfl),JF,(by sleep 0)⟩))) iJ))))
   (cA (by sleep 0)
   (cA (kH .s (pC (AQ (iW (Oe hu) Ua (cI 4) (cI 3) (kZ _)) (yM (by sleep 0)))) (by sleep 0) kL)
   (cA (by sleep 0)
   (cS (jV .s (Rg (by sleep 0) (Qa (by sleep 0))))))))))))
end Aw
namespace L2
open PySem PySem.Spec PyProof.Rows
variable {F G:SF}{T:aA->aU->Option aU}{ds:List aA}{Y:aU}{f:EF}{d:aA}{fi:AF}{n i:Nat}
theorem Xq(P:Nat->aU->Prop)(h0:P 0 Y)
  (step:∀ i d Y,ds[i]?=aa d->P i Y->∃ ρ1 ρ2,T d Y=aa ρ1/\(F ρ1=aa (.nx ρ2)\/F ρ1=aa (.ct ρ2))/\P (i+1) ρ2):∃ ρ',jH F T ds Y=aa (.nx ρ')/\P ds.length ρ':=by
 have go:∀ (rest:List aA) (i:Nat) (Y:aU),ds.drop i=rest->i+rest.length=ds.length->P i Y->∃ ρ',jH F T rest Y=aa (.nx ρ')/\P ds.length ρ':=by
  intro rest;induction rest with
  |nil=>
   intro i Y _ hl p;simp at hl;subst hl;exact⟨Y,rfl,p⟩
  |cons d r ih=>
   intro i Y hd hl p;have hi:ds[i]?=aa d:=by
    have:=congrArg (·[0]?) hd;simpa using this
   obtain⟨ρ1,ρ2,e1,e2,p2⟩:=step i d Y hi p;have zg:ds.drop (i+1)=r:=by
    have:=congrArg List.tail hd;simpa using this
   obtain⟨ρ',e3,p3⟩:=ih (i+1) ρ2 zg (by simp at hl;omega) p2
   refine⟨ρ',?_,p3⟩;show((T d Y).bind λρ1=>(F ρ1).bind λo=>match o with
    |.nx ρ'=>jH F T r ρ'
    |.ct ρ'=>jH F T r ρ'
    |.bk ρ'=>aa (.nx ρ')
    | .rt d=>aa (.rt d))=aa (.nx ρ')
   rw[e1];rcases e2 with e2|e2
   .simp only[bM,e2];exact e3
   .simp only[bM,e2];exact e3
 exact go ds 0 Y (by simp) (by simp) h0
theorem Fh {T:aA->List (Option aA)->Option (List (Option aA))}{t:BF}{Y:List (Option aA)}(g:aA->aA):∀ (ds:List aA),(∀ d∈ds,∃ ρ1,T d Y=aa ρ1/\t ρ1=aa af/\f ρ1=aa (g d))->ym T t f Y ds=aa (ds.map g)
 |[],_=>rfl
 |d::r,h=>by
  obtain⟨ρ1,e1,e2,e3⟩:=h d bE;have e4:=Fh g r λd' m=>h d' (bH _ m)
  show((T d Y).bind λρ1=>(t ρ1).bind λc=>if c=af then(f ρ1).bind λy=>(ym T t f Y r).bind λys=>aa (y::ys) else ym T t f Y r)=aa (g d::r.map g)
  simp[e1,e2,e3,e4]
theorem Qo{ρ':aU}(h:F Y=aa (.nx ρ')):aW F G Y=G ρ':=by
 unfold aW;rw[h]
 rfl
theorem Ox(h:F Y=aa (.rt d)):aW F G Y=aa (.rt d):=by
 unfold aW;rw[h]
 rfl
theorem JB {m:Md}{o:Out}(h:aV m fi Y=aa ds)(h2:jH F T ds Y=aa o):dD m fi T F Y=aa o:=by
 unfold dD;rw[h];exact h2
theorem Mr {np:Nat}{body:SF}(hl:ds.length=np)(h:body (ds.map (λd=>aa (0,d))++BM (n-np) ae)=aa (.rt d)):cu np n body ds=aa d:=by
 unfold cu;rw[if_pos hl,h]
 rfl
theorem Pl{k:Nat}(h:k<=ds.length):cutD ds ae (aa (k:Int))=ds.take k:=by
 unfold cutD;rw[HT.Aqo,HT.Axq];simp[QV h]
theorem rE(h:n<=100000):n<=sizeLine:=dA h (by decide)
theorem vC(h:n<=100000):n<sizeLine:=xF h (by decide)
def letter (c:Nat):Bool:=decide (97<=c)&&decide (c<=122)
def figure (c:Nat):Bool:=decide (48<=c)&&decide (c<=57)
def Oq (c:Nat):Bool:=letter c||figure c
def Lr (cs:List Nat):Prop:=∃ c r,cs=c::r/\letter c=af/\(∀ x∈cs,Oq x=af)/\cs.length<=12
def nameS (z:aE):Prop:=Lr z.cps.toList
theorem sT (a:Int){b:Int}(h:0<b):0<=a%b/\a%b<b:=⟨Int.emod_nonneg _ (by omega),Int.emod_lt_of_pos _ h⟩
def Goes (F:SF)(Y:aU)(P:Out->Prop):Prop:=∃ o,F Y=aa o/\P o
variable {P:Out->Prop}{m:Md}
theorem Goes.mono {P':Out->Prop}(h:Goes F Y P)(k:∀ o,P o->P' o):Goes F Y P':=by
 obtain⟨o,e,p⟩:=h;exact⟨o,e,k o p⟩
theorem gF {ρ':aU}(h:F Y=aa (.nx ρ'))(k:Goes G ρ' P):Goes (aW F G) Y P:=by
 obtain⟨o,e,p⟩:=k;exact⟨o,by rw[Qo h];exact e,p⟩
theorem fM (I:aU->Prop)(h:Goes F Y λo=>∃ ρ',o=.nx ρ'/\I ρ')(k:∀ ρ',I ρ'->Goes G ρ' P):Goes (aW F G) Y P:=by
 obtain⟨o,e,ρ',rfl,i⟩:=h;exact gF e (k ρ' i)
theorem JS(h:F Y=aa (.rt d))(k:P (.rt d)):Goes (aW F G) Y P:=⟨_,Ox h,k⟩
theorem UR {t:BF}{b:Bool}(h:bV m t Y=aa b)(k:Goes (if b=af then F else G) Y P):Goes (iz m t F G) Y P:=by
 obtain⟨o,e,p⟩:=k;refine⟨o,?_,p⟩;show((bV m t Y).bind λb=>if b=af then F Y else G Y)=aa o
 rw[h];cases b
 .exact e
 .exact e
theorem jU {t:BF}(h:bV m t Y=aa af)(k:Goes F Y P):Goes (iz m t F G) Y P:=UR h k
theorem mT {t:BF}(h:bV m t Y=aa ag)(k:Goes G Y P):Goes (iz m t F G) Y P:=UR h k
theorem oC (k:P (.nx Y)):Goes eQ Y P:=⟨_,rfl,k⟩
theorem kF {t:BF}(h:bV m t Y=aa ag):iz m t F eQ Y=aa (.nx Y):=by
 unfold iz;rw[h]
 rfl
theorem yW (h:Goes F Y λo=>∃ d,o=.rt d/\P o):Goes (aW F G) Y P:=by
 obtain⟨o,e,d,rfl,p⟩:=h;exact JS e p
theorem dQ(h:f (vS Y)=aa d)(k:P (.rt d)):Goes (cE n .s f) Y P:=⟨_,by
 unfold cE eV;simp only[h,bM],k⟩
theorem OR(h:eV n m f Y=aa d)(hl:i<Y.length)(k:P (.nx (Y.set i (aa (n,d))))):Goes (bZ i n m f) Y P:=
 ⟨_,by unfold bZ;rw[h];simp only[bM,if_pos hl],k⟩
theorem Ft(h:f (vS Y)=aa d)(hl:i<Y.length)(k:P (.nx (Y.set i (aa (n,d))))):Goes (bZ i n .s f) Y P:=OR h hl k
theorem qZ(h:Goes F (frz i Y) P):Goes (mF i F) Y P:=h
theorem Qg(h:n<=1000000):uS 0 (n:Int)=aa ((cK n).map λ(k:Nat)=>aT k):=by
 unfold uS;rw[if_pos (by omega)]
 simp
theorem mV {fa:AF}{Y:List (Option aA)}(h:fa Y=aa [.int n])(hn:n<=1000000):wc fa Y=aa ((cK n).map λ(k:Nat)=>aT k):=by
 have e:=Qg hn;generalize aa ((cK n).map λ(k:Nat)=>aT k)=y at e ⊢
 rw[<-e];unfold wc;rw[h,bM]
theorem ju(h:fi (vS Y)=aa ds):aV .s fi Y=aa ds:=h
theorem qY(I:Nat->aU->Prop)(h:aV m fi Y=aa ds)(h0:I 0 Y)
  (step:∀ i d Y,ds[i]?=aa d->I i Y->∃ ρ1,T d Y=aa ρ1/\Goes F ρ1 λo=>∃ ρ2,(o=.nx ρ2\/o=.ct ρ2)/\I (i+1) ρ2) (k:∀ ρ',I ds.length ρ'->P (.nx ρ')):Goes (dD m fi T F) Y P:=by
 obtain⟨ρ',e,i⟩:=Xq I h0 λi d Y hd p=>by
  obtain⟨ρ1,e1,o,e2,ρ2,e3,p2⟩:=step i d Y hd p;refine⟨ρ1,ρ2,e1,?_,p2⟩;rcases e3 with rfl|rfl
  .exact .inl e2
  .exact .inr e2
 exact⟨_,JB h e,k ρ' i⟩
theorem mY(I:Nat->aU->Prop)(h:aV m fi Y=aa ((cK n).map λ(k:Nat)=>aT k))(h0:I 0 Y)
  (step:∀ (i:Nat) Y,i<n->I i Y->∃ ρ1,T (.int i) Y=aa ρ1/\Goes F ρ1 λo=>∃ ρ2,(o=.nx ρ2\/o=.ct ρ2)/\I (i+1) ρ2) (k:∀ ρ',I n ρ'->P (.nx ρ')):Goes (dD m fi T F) Y P:=by
 refine qY I h h0 (λi d Y hd p=>?_) (by simpa using k)
 have bz:i<n:=by
  have:=(cX.1 hd).1;simpa using this
 rw[eE,List.getElem?_range bz] at hd;have:aT (i:Int)=d:=by simpa using hd
 rw[19];exact step i Y bz p
theorem dR {np:Nat}{body:SF}{Q:aA->Prop}(hl:ds.length=np)(h:Goes body (ds.map (λd=>aa (0,d))++BM (n-np) ae) λo=>∃ d,o=.rt d/\Q d):∃ d,cu np n body ds=aa d/\Q d:=by
 obtain⟨o,e,d,rfl,q⟩:=h;exact⟨d,Mr hl e,q⟩
theorem WS {cap:List (Option Nat)}{T:aA->List (Option aA)->Option (List (Option aA))}{t:BF}{Y:List (Option aA)}(g:aA->aA)(h1:fi Y=aa ds)(h2:ds.length<=100000)
  (h:∀ d∈ds,∃ ρ1,T d (lE cap Y)=aa ρ1/\t ρ1=aa af/\f ρ1=aa (g d)):ip cap fi T t f Y=aa (.list (ds.map g)):=by
 unfold ip;rw[h1,bM,Fh g ds h,bM,if_pos (rE h2)]
end L2
namespace L2
open PySem PySem.Spec PyProof.Rows
variable {f:EF}{ds:List aA}{d:aA}{kds:List (aA×aA)}
variable {F G:SF}{Y:aU}{P:Out->Prop}{m:Md}
theorem fX{Y:List (Option aA)}(h:f Y=aa (.list ds)):bj f Y=aa ds:=by
 unfold bj;rw[h]
 rfl
theorem rB{Y:List (Option aA)}(h:f Y=aa (.tuple ds)):bj f Y=aa ds:=by
 unfold bj;rw[h]
 rfl
theorem aZ {fa:AF}{g:List aA->Option aA}{Y:List (Option aA)}(h:fa Y=aa ds)(h2:g ds=aa d):aN g fa Y=aa d:=by
 unfold aN;rw[h];exact h2
theorem aP {fa fb:EF}{g:aA->aA->Option aA}{Y:List (Option aA)}{a b:aA}(h:fa Y=aa a)(h2:fb Y=aa b)(h3:g a b=aa d):ai g fa fb Y=aa d:=by
 unfold ai;rw[h,h2];exact h3
theorem tD {i:Nat}(h:f (vS Y)=aa d)(hg:getL i Y=aa ds)(hl:ds.length<100000)(k:P (.nx (Y.set i (aa (1,.list (ds++[d])))))):Goes (iF i .s f) Y P:=⟨_,by
 unfold iF eV;simp only[h,bM,hg,if_pos (vC (oQ hl))],k⟩
theorem Fe {i:Nat}{g:EF}{kd:aA}{key:aI}(h:f (vS Y)=aa d)(hg:pB i Y=aa kds)(hk:g (vS Y)=aa kd)(ha:bR kd=aa key)(hl:kds.length<100000)(k:P (.nx (Y.set i (aa (1,.dict (putD kds key d)))))):Goes (sJ i .s f .s g) Y P:=⟨_,by
 unfold sJ eV;simp only[h,bM,hg,hk,ha,if_pos (vC (oQ hl))],k⟩
def Mi (d:aA):Prop:=(∃ z,d=.str z/\nameS z)\/∃ i,d=.int i
theorem EJ:∀ {ts:List aA},(∀ t∈ts,bF t=af)->bO ts=af
 |[],_=>by simp[bO]
 |t::r,h=>by
  simp only[bO,xS];exact⟨h t bE,EJ λx m=>h x (bH _ m)⟩
theorem FG {n:Nat}:∀ {ts:List aA},(∀ t∈ts,t.depth<=n)->cP ts<=n
 |[],_=>by simp[cP]
 |t::r,h=>by
  simp only[cP];exact Nat.max_le.2 ⟨h t bE,FG λx m=>h x (bH _ m)⟩
theorem zS:∀ {ts:List aA},(∀ t∈ts,noDict t=af)->noDicts ts=af
 |[],_=>by simp[noDicts]
 |t::r,h=>by
  simp only[noDicts,xS];exact⟨h t bE,zS λx m=>h x (bH _ m)⟩
structure Kn (kds:List (aA×aA)):Prop where
 fit:∀ kd∈kds,(∃ z,kd.1=.str z)/\Mi kd.2
 once:(kds.map (·.1)).Nodup
theorem Kn.int(h:Kn kds)(i:Int):bI kds (.inl i)=ae:=by
 have:(kds.find? λkd=>decide (bR kd.1=aa (.inl i)))=ae:=by
  rw[xM];intro kd m;obtain⟨⟨z,e⟩,_⟩:=h.fit kd m;simp[e,bR]
 unfold bI;rw[this]
 rfl
theorem CS(h:∀ kd∈kds,kd.1 ≠ .none):jg kds=af:=by
 cases kds with
 |nil=>rfl
 |cons p r=>
  obtain⟨k,d⟩:=p;have:=h (k,d) bE;cases k<;>first|rfl|exact absurd rfl this
theorem Hn:∀ {kss:List (List aA)},(∀ k∈kss,bO k=af/\cP k<=6)->hG (kss.map cL)=aa kss
 |[],_=>rfl
 |k::r,h=>by
  show(if bO k=af/\cP k<=6 then(hG (r.map cL)).bind λkss=>aa (k::kss) else ae)=_
  rw[if_pos (h k bE),Hn λx m=>h x (bH _ m)]
  rfl
end L2
namespace L2
open PySem PySem.Spec PyProof.Rows
variable {f:EF}{i n:Nat}{d:aA}
variable {F G:SF}{Y:aU}{P:Out->Prop}{m:Md}
theorem pL {α β:Type}{fi:AF}{T:aA->aU->Option aU}{xs:List α}{q:α->aA}(g:β->α->β)(I:Nat->β->aU->Prop){b0:β}(h:aV m fi Y=aa (xs.map q))(h0:I 0 b0 Y)
  (step:∀ i x b Y,xs[i]?=aa x->I i b Y->∃ ρ1,T (q x) Y=aa ρ1/\Goes F ρ1 λo=>∃ ρ2,(o=.nx ρ2\/o=.ct ρ2)/\I (i+1) (g b x) ρ2) (k:∀ ρ',I xs.length (xs.foldl g b0) ρ'->P (.nx ρ')):Goes (dD m fi T F) Y P:=by
 refine qY (λi Y=>I i ((xs.take i).foldl g b0) Y) h h0 (λi d Y hd p=>?_) (λρ' p=>k ρ' (by simpa using p))
 rw[eE] at hd;obtain⟨x,hx,rfl⟩:=fZ.1 hd;obtain⟨ρ1,e1,g1⟩:=step i x _ Y hx p;refine⟨ρ1,e1,g1.mono λo ⟨ρ2,e,q⟩=>⟨ρ2,e,?_⟩⟩
 have:xs.take (i+1)=xs.take i++[x]:=by rw[uE,hx];rfl
 rw[this,rT];exact q
def aft (F:SF)(T:aA->aU->Option aU)(ds:List aA):Out->Option Out
 |.nx Y=>jH F T ds Y
 |.ct Y=>jH F T ds Y
 |.bk Y=>aa (.nx Y)
 |.rt d=>aa (.rt d)
theorem XO {T:aA->List (Option aA)->Option (List (Option aA))}{t:BF}{Y:List (Option aA)}{α:Type}{q:α->aA}(p:α->Bool)(g:α->aA):∀ (xs:List α),
  (∀ x∈xs,∃ ρ1,T (q x) Y=aa ρ1/\t ρ1=aa (p x)/\(p x=af->f ρ1=aa (g x)))->ym T t f Y (xs.map q)=aa ((xs.filter p).map g)
 |[],_=>rfl
 |x::xs,h=>by
  obtain⟨ρ1,e1,e2,e3⟩:=h x bE;have ih:=XO p g xs λy m=>h y (bH _ m)
  show((T (q x) Y).bind λρ1=>(t ρ1).bind λc=>if c=af then(f ρ1).bind λy=>(ym T t f Y (xs.map q)).bind λys=>aa (y::ys) else ym T t f Y (xs.map q))=_
  rw[e1,bM,e2,bM,ih];cases hp:p x with
  |true=>rw[if_pos rfl,e3 hp,P1 hp];rfl
  |false=>rw[if_neg (by simp),P3 (by simp[hp])]
theorem iK {cap:List (Option Nat)}{fi:AF}{T:aA->List (Option aA)->Option (List (Option aA))}{t:BF}{Y:List (Option aA)}{α:Type}{xs:List α}{q:α->aA}(p:α->Bool)(g:α->aA)(h1:fi Y=aa (xs.map q))(h2:xs.length<=100000)
  (h:∀ x∈xs,∃ ρ1,T (q x) (lE cap Y)=aa ρ1/\t ρ1=aa (p x)/\(p x=af->f ρ1=aa (g x))):ip cap fi T t f Y=aa (.list ((xs.filter p).map g)):=by
 unfold ip;rw[h1,bM,XO p g xs h,bM,if_pos (rE (by simpa using h2))]
theorem WD(h:eV n m f Y=aa d)(hl:i<Y.length):bZ i n m f Y=aa (.nx (Y.set i (aa (n,d)))):=by
 obtain⟨o,e,q⟩:=OR (P:=λo=>o=.nx (Y.set i (aa (n,d)))) h hl rfl
 rw[e,q]
theorem cR(h:f (vS Y)=aa d)(hl:i<Y.length)(k:Goes G (Y.set i (aa (n,d))) P):Goes (aW (bZ i n .s f) G) Y P:=gF (WD h hl) k
theorem Uo(h:f (vA Y)=aa d)(hf:gE n d=af)(hl:i<Y.length)(k:Goes G (Y.set i (aa (n,d))) P):Goes (aW (bZ i n .a f) G) Y P:=
 gF (WD (by show((f (vA Y)).bind λd=>if gE n d=af then aa d else ae)=_;rw[h,bM,if_pos hf]) hl) k
theorem UE {fa:EF}{g:aA->Option aA}{Y:List (Option aA)}{a:aA}(h:fa Y=aa a)(h3:g a=aa d):iq g fa Y=aa d:=by
 unfold iq;rw[h];exact h3
theorem aY{g:AF}{Y:List (Option aA)}{ds:List aA}(h:f Y=aa d)(h2:g Y=aa ds):aG f g Y=aa (d::ds):=by
 unfold aG;rw[h,h2]
 rfl
end L2
namespace L2
def eP {α:Type}[DecidableEq α](ak:List α)(z:α):List α:=if z∈ak then ak else ak++[z]
def jT {α:Type}[DecidableEq α](zs:List α):List α:=zs.foldl eP []
section
variable {α:Type}[DecidableEq α]
theorem Azj {ak:List α}{z x:α}:x∈eP ak z↔x∈ak\/x=z:=by
 unfold eP;split
 .rename_i h;exact⟨.inl,λq=>q.elim id λe=>e ▸ h⟩
 .simp
theorem Bw {x:α}:∀ (zs ak:List α),x∈zs.foldl eP ak↔x∈ak\/x∈zs
 |[],ak=>by simp
 |z::zs,ak=>by
  rw[kT,Bw zs,Azj];simp only[cO];rw[23]
  .rintro((h|h)|h)
   .exact .inl h
   .exact .inr (.inl h)
   .exact .inr (.inr h)
  .rintro(h|h|h)
   .exact .inl (.inl h)
   .exact .inl (.inr h)
   .exact .inr h
theorem Ad8 {x:α}{zs:List α}:x∈jT zs↔x∈zs:=by
 unfold jT;rw[Bw];simp
theorem YC (ak:List α)(z:α):(eP ak z).length<=ak.length+1:=by
 unfold eP;split<;>simp
theorem FF:∀ (zs ak:List α),(zs.foldl eP ak).length<=ak.length+zs.length
 |[],ak=>by simp
 |z::zs,ak=>by
  have h1:=FF zs (eP ak z);have h2:=YC ak z;rw[kT,fE];omega
end
open PySem PySem.Spec PyProof.Rows
structure KnR (R:aA->Prop)(kds:List (aA×aA)):Prop where
 fit:∀ kd∈kds,(∃ z,kd.1=.str z)/\R kd.2
 once:(kds.map (·.1)).Nodup
variable {R:aA->Prop}{kds:List (aA×aA)}
theorem KnR.look (h:KnR R kds):∀ kd∈kds,∃ z,kd.1=.str z/\bI kds (.inr z)=aa kd.2:=by
 obtain⟨hf,ho⟩:=h;induction kds with
 |nil=>intro _ m;simp at m
 |cons a r ih=>
  rw[dB,kC] at ho;intro kd m;obtain⟨z,ez⟩:=(hf kd m).1;refine⟨z,ez,?_⟩;rw[13]
  .simp[bI,fF,ez,bR]
  .obtain⟨z',e1,e2⟩:=ih (λx m=>hf x (bH _ m)) ho.2 kd m
   obtain rfl:z'=z:=by
    have q:=e1.symm.trans ez;injection q
   have gg:¬ bR a.1=aa (.inr z'):=λq=>ho.1 (bL.2 ⟨kd,m,by rw[e1];exact(vY q).symm⟩)
   have e3:bI (a::r) (.inr z')=bI r (.inr z'):=by simp[bI,fF,gg]
   rw[e3];exact e2
theorem KnR.hit (h:KnR R kds)(hs:∀ d,R d->bX d d=af):∀ {r:List (aA×aA)},(∀ kd∈r,kd∈kds)->qM kds r=af
 |[],_=>rfl
 |(k,d)::r,hr=>by
  have m:=hr (k,d) bE;obtain⟨z,e,q⟩:=h.look (k,d) m;have e':=e;have q':=q;subst e';simp only[qM,bR,bM,q',hs d (h.fit (dP z,d) m).2,BW];exact h.hit hs λkd mm=>hr kd (bH _ mm)
theorem KnR.pl (h:KnR R kds):jg kds=af:=CS λkd m=>by
 obtain⟨⟨z,e⟩,_⟩:=h.fit kd m;rw[e];exact λq=>nomatch q
theorem KnR.eqK (h:KnR R kds)(hs:∀ d,R d->bX d d=af)(ho:∀ d,R d->cU d=af)(neg:Bool):uN neg (.dict kds) (.dict kds)=aa (.bool (neg != af)):=by
 have h1:valsOk kds=af:=dW.2 λkd m=>ho _ (h.fit kd m).2
 have h2:=h.hit hs λ_ m=>m
 simp[uN,h1,CO,h2,h.pl]
def bN (r:List Int):aA:=.tuple (r.map aT)
def bA (rs:List (List Int)):aA:=.list (rs.map bN)
theorem LC (r:List Int):bF (bN r)=af:=by
 refine EJ λt m=>?_
 obtain⟨i,_,rfl⟩:=bL.1 m
 rfl
theorem YV (rs:List (List Int)):bO (rs.map bN)=af:=EJ λt m=>by
 obtain⟨r,_,rfl⟩:=bL.1 m;exact LC r
theorem ZR (rs:List (List Int)):bX (bA rs) (bA rs)=af:=by
 have:=zP _ _ (YV rs) (YV rs);simp[bA,bX,this]
theorem Fl {Y:aU}{P:Out->Prop}{i:Nat}{f g:EF}{d:aA}{j:Int}{jn:Nat}{ds:List aA}(h:f (vS Y)=aa d)(hg:getL i Y=aa ds)(hk:g (vS Y)=aa (.int j))(hj:qh ds.length j=aa jn)(k:P (.nx (Y.set i (aa (1,.list (ds.set jn d)))))):Goes (sL i .s f .s g) Y P:=by
 refine⟨_,?_,k⟩;have e1:eV 0 .s f Y=aa d:=h;have e2:eV 0 .s g Y=aa (.int j):=hk;unfold sL;rw[e1,bM,hg,bM,e2,bM];show((qh ds.length j).bind λj=>aa (Out.nx (Y.set i (aa (1,.list (ds.set j d))))))=_
 rw[hj]
 rfl
theorem CP {n j:Nat}(h:j<n):qh n (j:Int)=aa j:=by
 unfold qh;rw[if_pos (by omega),if_pos (by omega)]
 simp
theorem DK {fd fk fx:EF}{Y:List (Option aA)}{kds:List (aA×aA)}{kd x:aA}{key:aI}(h1:fd Y=aa (.dict kds))(h2:fk Y=aa kd)(ha:bR kd=aa key)(h3:fx Y=aa x)(hp:jg kds=af:=by first|assumption|rfl|simp):mQ fd fk fx Y=aa ((bI kds key).getD x):=by
 unfold mQ;rw[h1,bM,h2,bM,h3,bM];show(if jg kds=af then(bR kd).bind λk=>aa ((bI kds k).getD x) else ae)=_
 rw[if_pos hp,ha]
 rfl
end L2
namespace L2
open PySem PySem.Spec PyProof.Rows
variable {F G:SF}{Y:aU}{P:Out->Prop}{m:Md}
def fS {α β:Type}(g:β->α->Option β):β->List α->Option β
 |b,[]=>aa b
 |b,x::xs=>(g b x).bind λb'=>fS g b' xs
def BZ {β:Type}(I:β->aU->Prop)(r:aA)(t:Option β)(o:Out):Prop:=match t with
 |none=>o=.rt r
 |some b=>∃ ρ2,o=.nx ρ2/\I b ρ2
def AU {β:Type}(I:β->aU->Prop)(r:aA)(t:Option β)(o:Out):Prop:=match t with
 |none=>o=.rt r
 |some b=>∃ ρ2,(o=.nx ρ2\/o=.ct ρ2)/\I b ρ2
theorem Ck {α β:Type}(g:β->α->Option β)(x:α):∀ (xs:List α) (b:β),fS g b (xs++[x])=(fS g b xs).bind λb'=>g b' x
 |[],b=>by
  show((g b x).bind λb'=>aa b')=g b x
  cases g b x<;>rfl
 |y::ys,b=>by
  show((g b y).bind λb'=>fS g b' (ys++[x]))=((g b y).bind λb'=>fS g b' ys).bind _
  cases g b y with
  |none=>rfl
  |some b'=>exact Ck g x ys b'
theorem UT {T:aA->aU->Option aU}{α β:Type}{q:α->aA}(g:β->α->Option β)(I:β->aU->Prop)(r:aA){all:List α}{b0:β}
  (step:∀ pre x post b Y,all=pre++x::post->fS g b0 pre=aa b->I b Y->∃ ρ1,T (q x) Y=aa ρ1/\Goes F ρ1 (AU I r (g b x))):∀ {xs pre:List α} {b:β} {Y:aU},all=pre++xs->fS g b0 pre=aa b->I b Y->∃ o,jH F T (xs.map q) Y=aa o/\BZ I r (fS g b xs) o
 |[],pre,b,Y,_,_,h0=>⟨_,rfl,Y,rfl,h0⟩
 |x::xs,pre,b,Y,ha,hb,h0=>by
  obtain⟨ρ1,e1,o,e2,h⟩:=step pre x xs b Y ha hb h0;have e:jH F T ((x::xs).map q) Y=aft F T (xs.map q) o:=by
   show((T (q x) Y).bind λρ1=>(F ρ1).bind λo=>_)=_
   rw[e1,bM,e2,bM];cases o<;>rfl
  rw[e];show ∃ o',aft F T (xs.map q) o=aa o'/\BZ I r ((g b x).bind λb'=>fS g b' xs) o'
  cases hg:g b x with
  |none=>
   rw[hg] at h;have h:=h;subst h;exact⟨_,rfl,rfl⟩
  |some b'=>
   rw[hg] at h;obtain⟨ρ2,ho,i2⟩:=h;obtain⟨o',e',h'⟩:=UT g I r step (pre:=pre++[x]) (by simpa using ha) (by rw[Ck,hb];exact hg) i2
   rcases ho with rfl|rfl
   .exact⟨o',e',h'⟩
   .exact⟨o',e',h'⟩
theorem Ut {α β:Type}{fi:AF}{T:aA->aU->Option aU}{xs:List α}{q:α->aA}{b0:β}(g:β->α->Option β)(I:β->aU->Prop)(r:aA)(h:aV m fi Y=aa (xs.map q))(h0:I b0 Y)
  (step:∀ pre x post b Y,xs=pre++x::post->fS g b0 pre=aa b->I b Y->∃ ρ1,T (q x) Y=aa ρ1/\Goes F ρ1 (AU I r (g b x))):Goes (dD m fi T F) Y (BZ I r (fS g b0 xs)):=by
 obtain⟨o,e,h'⟩:=UT g I r step (xs:=xs) (pre:=[]) (by simp) rfl h0
 exact⟨o,JB h e,h'⟩
theorem Ur {β:Type}(I:β->aU->Prop)(r:aA)(t:Option β)(h:Goes F Y (BZ I r t))(k1:t=ae->P (.rt r))(k2:∀ b,t=aa b->∀ ρ',I b ρ'->Goes G ρ' P):Goes (aW F G) Y P:=by
 obtain⟨o,e,h⟩:=h;cases t with
 |none=>
  have h:=h;subst h;exact JS e (k1 rfl)
 |some b=>
  obtain⟨ρ2,rfl,i2⟩:=h;exact gF e (k2 b rfl ρ2 i2)
def dN (p:aE×Int):aA×aA:=(.str p.1,.int p.2)
def DN (kn:List (aE×Int)):List (aA×aA):=kn.map dN
def cH (kn:List (aE×Int))(z:aE):Option Int:=(kn.find? λp=>decide (p.1=z)).map (·.2)
theorem DH (kn:List (aE×Int))(z:aE):bI (DN kn) (.inr z)=(cH kn z).map aT:=by
 unfold bI cH DN;induction kn with
 |nil=>rfl
 |cons p r ih=>
  rw[dB,fF,fF];have e:bR (dN p).1=aa (.inr p.1):=rfl;rw[e];by_cases h:p.1=z
  .simp[h,dN]
  .have h':¬ (aa (jA p.1:aI)=aa (jA z)):=λq=>h (by injection q with q;injection q)
   rw[decide_eq_false h',decide_eq_false h];exact ih
theorem Yu (kn:List (aE×Int))(i:Int):bI (DN kn) (.inl i)=ae:=by
 unfold bI DN;have:((kn.map dN).find? λkd=>decide (bR kd.1=aa (.inl i)))=ae:=by
  rw[xM];intro kd m;obtain⟨p,_,rfl⟩:=bL.1 m;simp[dN,bR]
 rw[this]
 rfl
theorem Hk {kn:List (aE×Int)}{z:aE}(h:cH kn z=ae)(v:Int):putD (DN kn) (.inr z) (.int v)=DN (kn++[(z,v)]):=by
 unfold putD DN;have hn:¬ ((kn.map dN).any λkd=>decide (bR kd.1=aa (.inr z)))=af:=λq=>by
  obtain⟨kd,m,e⟩:=xO.1 q;obtain⟨p,mp,rfl⟩:=bL.1 m;have e':p.1=z:=by
   have:=of_decide_eq_true e;have:=this;injection this with this;injection this
  unfold cH at h;have h2:=QQ.1 h;have:=xM.1 h2 p mp;exact this (decide_eq_true e')
 rw[if_neg hn,qF]
 rfl
theorem zO {kn:List (aE×Int)}{z:aE}(h:cH kn z=ae)(v:Int)(y:aE):cH (kn++[(z,v)]) y=if y=z then aa v else cH kn y:=by
 unfold cH at *;rw[List.find?_append];by_cases e:y=z
 .subst e;rw[if_pos rfl,QQ.1 h];simp
 .rw[if_neg e];have e':¬ z=y:=λq=>e q.symm
  cases q:kn.find? λp=>decide (p.1=y) with
  |none=>simp[e']
  |some p=>rfl
def hX (kn:List (aE×Int))(p:aI×Int):Option (List (aE×Int)):=match p.1 with
 |.inl i=>if p.2=i then aa kn else ae
 |.inr z=>match cH kn z with
  |some u=>if p.2=u then aa kn else ae
  |none=>aa (kn++[(z,p.2)])
theorem vU:∀ {ps:List (aI×Int)} {kn bh:List (aE×Int)},fS hX kn ps=aa bh ->
  (∀ z u,cH kn z=aa u->cH bh z=aa u)/\(∀ p∈ps,(∀ i,p.1=.inl i->p.2=i)/\∀ z,p.1=.inr z->cH bh z=aa p.2)/\(∀ z u,cH bh z=aa u->cH kn z=aa u\/∃ p∈ps,p.1=.inr z)
 |[],kn,bh,h=>by
  cases h;exact⟨λ_ _ e=>e,λ_ m=>by simp at m,λ_ _ e=>.inl e⟩
 |(.inl i,v)::ps,kn,bh,h=>by
  obtain⟨k1,e1,e2⟩:=ao (show((hX kn (.inl i,v)).bind λb'=>fS hX b' ps)=aa bh from h)
  have e1:=e1;obtain⟨hv,rfl⟩:=cG e1;obtain⟨a,b,c⟩:=vU e2;refine⟨a,λp m=>?_,λz u e=>(c z u e).imp id λ⟨p,m,q⟩=>⟨p,bH _ m,q⟩⟩
  rw[13]
  .exact⟨λi' q=>(by cases q;exact hv),λz q=>(by cases q)⟩
  .exact b p m
 |(.inr z,v)::ps,kn,bh,h=>by
  obtain⟨k1,e1,e2⟩:=ao (show((hX kn (.inr z,v)).bind λb'=>fS hX b' ps)=aa bh from h)
  obtain⟨a,b,c⟩:=vU e2;cases hl:cH kn z with
  |some u=>
   have e1:(match cH kn z with|some u=>if v=u then aa kn else ae|none=>aa (kn++[(z,v)]))=aa k1:=e1
   rw[hl] at e1;obtain⟨hv,rfl⟩:=cG e1;refine⟨a,λp m=>?_,λz' u' e=>(c z' u' e).imp id λ⟨p,m,q⟩=>⟨p,bH _ m,q⟩⟩
   rw[13]
   .exact⟨λi' q=>(by cases q),λz' q=>(by cases q;rw[a z u hl,hv])⟩
   .exact b p m
  |none=>
   have e1:(match cH kn z with|some u=>if v=u then aa kn else ae|none=>aa (kn++[(z,v)]))=aa k1:=e1
   rw[hl] at e1;cases e1;refine⟨λy u e=>a y u (by rw[zO hl,if_neg λq=>by rw[q,hl] at e;cases e];exact e),λp m=>?_,λy u e=>?_⟩
   .rw[13]
    .exact⟨λi' q=>(by cases q),λz' q=>(by cases q;exact a z v (by rw[zO hl,if_pos rfl]))⟩
    .exact b p m
   .rcases c y u e with q|⟨p,m,q⟩
    .rw[zO hl] at q;by_cases hy:y=z
     .exact .inr ⟨_,bE,by rw[hy]⟩
     .rw[if_neg hy] at q;exact .inl q
    .exact .inr ⟨p,bH _ m,q⟩
theorem zJ:∀ {ps:List (aI×Int)} {kn:List (aE×Int)},(∀ p∈ps,∀ i,p.1=.inl i->p.2=i)->(∀ p∈ps,∀ z u,p.1=.inr z->cH kn z=aa u->p.2=u)->(∀ p∈ps,∀ p'∈ps,∀ z,p.1=.inr z->p'.1=.inr z->p.2=p'.2)->∃ bh,fS hX kn ps=aa bh
 |[],kn,_,_,_=>⟨kn,rfl⟩
 |(.inl i,v)::ps,kn,h1,h2,h3=>by
  have hv:=h1 _ bE i rfl;obtain⟨bh,e⟩:=zJ (λp m=>h1 p (bH _ m)) (λp m=>h2 p (bH _ m)) (λp m p' m'=>h3 p (bH _ m) p' (bH _ m'))
  refine⟨bh,?_⟩;show((if v=i then aa kn else ae).bind λb'=>fS hX b' ps)=aa bh
  rw[if_pos hv];exact e
 |(.inr z,v)::ps,kn,h1,h2,h3=>by
  cases hl:cH kn z with
  |some u=>
   have hv:=h2 _ bE z u rfl hl;obtain⟨bh,e⟩:=zJ (λp m=>h1 p (bH _ m)) (λp m=>h2 p (bH _ m)) (λp m p' m'=>h3 p (bH _ m) p' (bH _ m'))
   refine⟨bh,?_⟩;show((match cH kn z with|some u=>if v=u then aa kn else ae|none=>aa (kn++[(z,v)])).bind λb'=>fS hX b' ps)=aa bh
   rw[hl];show((if v=u then aa kn else ae).bind λb'=>fS hX b' ps)=aa bh
   rw[if_pos hv];exact e
  |none=>
   obtain⟨bh,e⟩:=zJ (λp m=>h1 p (bH _ m)) (λp m y u q e=>by
    rw[zO hl] at e;by_cases hy:y=z
    .rw[if_pos hy] at e;cases e;exact h3 p (bH _ m) _ bE z (by rw[q,hy]) rfl
    .rw[if_neg hy] at e;exact h2 p (bH _ m) y u q e) (λp m p' m'=>h3 p (bH _ m) p' (bH _ m'))
   refine⟨bh,?_⟩;show((match cH kn z with|some u=>if v=u then aa kn else ae|none=>aa (kn++[(z,v)])).bind λb'=>fS hX b' ps)=aa bh
   rw[hl];exact e
end L2
namespace Aw
open PySem L2
variable {n i:Nat}{y x:Bool}{z:aE}{f:EF}{Y:List (Option aA)}{b a:Int}{F:SF}{fa:AF}
abbrev s0 (d:aA):L2.Slot:=aa (0,d)
abbrev lI (ms:List Int):aA:=.list (ms.map aT)
def Al1 (n:Nat)(z:aE):Prop:=cM (.str z)=af/\z.length<=n
theorem Al1.cat {m:Nat}{y:aE}(h:Al1 n y)(h2:Al1 m z):Al1 (n+m) (y++z):=⟨Cn h.1 h2.1,by
 have:(y++z).length=y.length+z.length:=by
  show(y.cps++z.cps).size=_;rw[Array.size_append];rfl
 have:=h.2;have:=h2.2;omega⟩
theorem Al1.cut(h:Al1 n z)(lo hi:Option Int):Al1 n (iQ z lo hi):=⟨ZM lo hi h.1,dA (YL z lo hi) h.2⟩
theorem XT {m:Nat}{y:aE}(h:Al1 n y)(h2:Al1 m z)(hs:n+m<=100000):dC (.str y) (.str z)=aa (.str (y++z)):=by
 show(if y.length+z.length<=sizeLine then aa (dP (y++z)) else ae)=_
 rw[if_pos (rE (by have:=h.2;have:=h2.2;omega))]
theorem Sk(h:Al1 n z)(hn:n<=100000){lo hi:OF}{l u:Option Int}(e1:f Y=aa (.str z))(e2:lo Y=aa l)(e3:hi Y=aa u):W1 f lo hi Y=aa (.str (iQ z l u)):=by
 unfold W1;rw[e1,bM,e2,bM,e3,bM];show(if z.length<=sizeLine then aa (dP (iQ z l u)) else ae)=_
 rw[if_pos (rE (dA h.2 hn))]
theorem yQ (a b:Int):qg (.int a) (.int b)=aa (.bool (decide (a=b))):=by
 congr 2
theorem Og (p q:aA)(x:Int):ar (.list [p,q]) (.int (x%2))=aa (if x%2=0 then p else q):=by
 have h:=sT x (show(0:Int)<2 by decide)
 rcases(show x%2=0\/x%2=1 by omega) with e|e<;>rw[e]<;>rfl
theorem DU {α:Type}{q:α->aA}{xs:List α}{j:Nat}{x:α}(h:xs[j]?=aa x):ar (.list (xs.map q)) (.int j)=aa (q x):=DP (by rw[eE,h];rfl)
abbrev tK (ks:List aI):aA:=.tuple (ks.map kD)
abbrev tI (row:List Int):aA:=.tuple (row.map aT)
def TC:Option (List (aE×Int))->aA
 |none=>.none
 |some kn=>.dict (DN kn)
def IP (p:aI×Int):aA:=pairD (kD p.1) (.int p.2)
theorem YO (ks:List aI)(row:List Int):xG pairD (ks.map kD) (row.map aT)=(ks.zip row).map IP:=by
 rw[List.zipWith_map,List.zip,List.map_zipWith]
 rfl
theorem Hg (k:aI):eA "str" (kD k)=aa (.bool (match k with|.inr _=>af|.inl _=>ag)):=by
 cases k<;>simp[eA,kI,wy,kD]
theorem ne_int (a b:Int):ir (.int a) (.int b)=aa (.bool (decide (a≠b))):=by
 have:bX (.int a) (.int b)=decide (a=b):=by
  rw[show bX (.int a) (.int b)=(a==b) by simp[bX],lV]
  simp
 simp[ir,cU,noDict,jN,this]
def eY (ks:List aI)(row:List Int)(kn:List (aE×Int)):Option (List (aE×Int)):=if row.length=ks.length then fS hX kn (ks.zip row) else ae
theorem JI (ds:List aA):cJ [.tuple ds]=aa (.int ds.length):=by simp[cJ]
theorem WJ {ks:List aI}{row:List Int}{g:EF}(h1:f Y=aa (tI row))(h2:g Y=aa (tK ks)) :
  ai ir (aN cJ (aG f aK)) (aN cJ (aG g aK)) Y=aa (.bool (decide (row.length≠ks.length))):=by
 refine aP (aZ (aY h1 rfl) (by rw[JI,cD])) (aZ (aY h2 rfl) (by rw[JI,cD])) ?_
 rw[ne_int]
 congr 2
 rw[lV];simp;omega
theorem eG{b:Bool}(h:f Y=aa (.bool b)):aw f Y=aa b:=by
 unfold aw;rw[h]
 rfl
theorem E2 (L:L2.Slot)(R K:L2.Slot)(kn:List (aE×Int))(hkn:kn.length<=1000)(p:aI×Int)(x6:L2.Slot) :
  Goes (aW (zz 6 3 .s (aw (iq (eA "str") (aB 4))) .s (aB 4) .s (aB 5) .s (aB 4)) (iz .s (aw (ai ir (aB 5) (aB 6))) (cE 1 .s (eC .none)) eQ)) [L,R,K,aa (1,.dict (DN kn)),aa (0,kD p.1),aa (0,.int p.2),x6]
   (AU (λbh ρ'=>∃ x4 x5 x6:L2.Slot,ρ'=[L,R,K,aa (1,.dict (DN bh)),x4,x5,x6]) .none (hX kn p)):=by
 have lz:(DN kn).length<sizeLine:=vC (by simp[DN];omega)
 obtain⟨t,v⟩:=p;cases t with
 |inl i=>
  have e1:zz 6 3 .s (aw (iq (eA "str") (aB 4))) .s (aB 4) .s (aB 5) .s (aB 4) [L,R,K,aa (1,.dict (DN kn)),aa (0,.int i),aa (0,.int v),x6]=aa (.nx [L,R,K,aa (1,.dict (DN kn)),aa (0,.int i),aa (0,.int v),aa (0,.int i)]):=by
   have b:bV .s (aw (iq (eA "str") (aB 4))) [L,R,K,aa (1,.dict (DN kn)),aa (0,.int i),aa (0,.int v),x6]=aa ag:=eG (UE (a:=.int i) rfl (Hg (.inl i)));unfold zz;rw[b,bM,if_neg mN]
   rfl
  refine gF e1 ?_;have e2:bV .s (aw (ai ir (aB 5) (aB 6))) [L,R,K,aa (1,.dict (DN kn)),aa (0,.int i),aa (0,.int v),aa (0,.int i)]=aa (decide (v≠i)):=eG (aP (a:=.int v) (b:=.int i) rfl rfl (ne_int v i));by_cases h:v=i
  .refine mT (e2.trans (by simp[h])) (oC ?_)
   show AU _ _ (if v=i then aa kn else ae) _
   rw[if_pos h];exact⟨_,.inl rfl,_,_,_,rfl⟩
  .refine jU (e2.trans (by simp[h])) (dQ (d:=.none) rfl ?_)
   show AU _ _ (if v=i then aa kn else ae) _
   rw[if_neg h]
   rfl
 |inr z=>
  have b:bV .s (aw (iq (eA "str") (aB 4))) [L,R,K,aa (1,.dict (DN kn)),aa (0,.str z),aa (0,.int v),x6]=aa af:=eG (UE (a:=.str z) rfl (Hg (.inr z)));cases hl:cH kn z with
  |some u=>
   have e1:zz 6 3 .s (aw (iq (eA "str") (aB 4))) .s (aB 4) .s (aB 5) .s (aB 4) [L,R,K,aa (1,.dict (DN kn)),aa (0,.str z),aa (0,.int v),x6]=aa (.nx [L,R,K,aa (1,.dict (DN kn)),aa (0,.str z),aa (0,.int v),aa (0,.int u)]):=by
    unfold zz;rw[b,bM,if_pos rfl];show(if 6<7/\(DN kn).length<sizeLine then aa (Out.nx (match bI (DN kn) (.inr z) with
     |some u=>[L,R,K,aa (1,.dict (DN kn)),aa (0,.str z),aa (0,.int v),aa (0,u)]
     | none=>[L,R,K,aa (1,.dict (putD (DN kn) (.inr z) (.int v))),aa (0,.str z),aa (0,.int v),aa (0,.int v)])) else ae)=_
    rw[if_pos ⟨by omega,lz⟩,DH,hl]
    rfl
   refine gF e1 ?_;have e2:bV .s (aw (ai ir (aB 5) (aB 6))) [L,R,K,aa (1,.dict (DN kn)),aa (0,.str z),aa (0,.int v),aa (0,.int u)]=aa (decide (v≠u)):=eG (aP (a:=.int v) (b:=.int u) rfl rfl (ne_int v u));have ef:hX kn (.inr z,v)=if v=u then aa kn else ae:=by
    show(match cH kn z with|some u=>if v=u then aa kn else ae|none=>aa (kn++[(z,v)]))=_
    rw[hl]
   rw[ef];by_cases h:v=u
   .refine mT (e2.trans (by simp[h])) (oC ?_)
    rw[if_pos h];exact⟨_,.inl rfl,_,_,_,rfl⟩
   .refine jU (e2.trans (by simp[h])) (dQ (d:=.none) rfl ?_)
    rw[if_neg h]
    rfl
  |none=>
   have e1:zz 6 3 .s (aw (iq (eA "str") (aB 4))) .s (aB 4) .s (aB 5) .s (aB 4) [L,R,K,aa (1,.dict (DN kn)),aa (0,.str z),aa (0,.int v),x6]=aa (.nx [L,R,K,aa (1,.dict (DN (kn++[(z,v)]))),aa (0,.str z),aa (0,.int v),aa (0,.int v)]):=by
    unfold zz;rw[b,bM,if_pos rfl];show(if 6<7/\(DN kn).length<sizeLine then aa (Out.nx (match bI (DN kn) (.inr z) with
     |some u=>[L,R,K,aa (1,.dict (DN kn)),aa (0,.str z),aa (0,.int v),aa (0,u)]
     | none=>[L,R,K,aa (1,.dict (putD (DN kn) (.inr z) (.int v))),aa (0,.str z),aa (0,.int v),aa (0,.int v)])) else ae)=_
    rw[if_pos ⟨by omega,lz⟩,DH,hl,Hk hl]
    rfl
   refine gF e1 ?_;have e2:bV .s (aw (ai ir (aB 5) (aB 6))) [L,R,K,aa (1,.dict (DN (kn++[(z,v)]))),aa (0,.str z),aa (0,.int v),aa (0,.int v)]=aa (decide (v≠v)):=eG (aP (a:=.int v) (b:=.int v) rfl rfl (ne_int v v));have ef:hX kn (.inr z,v)=aa (kn++[(z,v)]):=by
    show(match cH kn z with|some u=>if v=u then aa kn else ae|none=>aa (kn++[(z,v)]))=_
    rw[hl]
   rw[ef];exact mT (e2.trans (by simp)) (oC ⟨_,.inl rfl,_,_,_,rfl⟩)
theorem KU:∀ {ps:List (aI×Int)} {kn bh:List (aE×Int)},fS hX kn ps=aa bh->bh.length<=kn.length+ps.length
 |[],kn,bh,h=>by cases h;simp
 |p::ps,kn,bh,h=>by
  obtain⟨k1,e1,e2⟩:=ao (show((hX kn p).bind λb'=>fS hX b' ps)=aa bh from h)
  have h1:=KU e2;have h2:k1.length<=kn.length+1:=by
   unfold hX at e1;split at e1
   .obtain⟨_,rfl⟩:=cG e1;omega
   .split at e1
    .obtain⟨_,rfl⟩:=cG e1;omega
    .cases e1;simp
  rw[fE];omega
theorem Yl (a b:aI):bX (kD a) (kD b)=decide (a=b):=by
 cases a with
 |inl i=>cases b with
  |inl j=>
   rw[show bX (kD (.inl i)) (kD (.inl j))=(i==j) by simp[kD,bX],lV]
   simp
  |inr y=>simp[kD,bX]
 |inr x=>cases b with
  |inl j=>simp[kD,bX]
  |inr y=>
   rw[show bX (kD (.inr x)) (kD (.inr y))=(x==y) by simp[kD,bX],lV]
   simp
theorem Hc (k:aI)(v:Int):ir (kD k) (.int v)=aa (.bool (decide (k ≠ .inl v))):=by
 have h1:∀ k:aI,cU (kD k)=af:=λk=>by cases k<;>rfl
 have h2:=Yl k (.inl v);have h3:cU (.int v)=af:=rfl;unfold ir;rw[h1 k,h3];show aa (jO (!bX (kD k) (kD (.inl v))))=_;rw[h2];simp
theorem plN (kn:List (aE×Int)):jg (DN kn)=af:=CS λkd m=>by
 obtain⟨p,_,rfl⟩:=bL.1 m;exact λq=>nomatch q
theorem Fq {c:Prop}[Decidable c]{α:Type}{a:Option α}{b:α}(h:(if c then a else ae)=aa b):c/\a=aa b:=by
 by_cases q:c
 .rw[if_pos q] at h;exact⟨q,h⟩
 .rw[if_neg q] at h;cases h
def putN (kn:List (aE×Int))(z:aE)(v:Int):List (aE×Int):=if (cH kn z).isSome=af then kn.map λp=>if p.1=z then(p.1,v) else p else kn++[(z,v)]
theorem Qn (kn:List (aE×Int))(z:aE)(v:Int):putD (DN kn) (.inr z) (.int v)=DN (putN kn z v):=by
 unfold putN;cases h:cH kn z with
 |none=>exact Hk h v
 |some u=>
  rw[if_pos (show(aa u).isSome=af from rfl)]
  unfold putD DN;have hy:((kn.map dN).any λkd=>decide (bR kd.1=aa (.inr z)))=af:=by
   unfold cH at h;obtain⟨p,e,_⟩:=fZ.1 h;refine xO.2 ⟨dN p,bL.2 ⟨p,RE e,rfl⟩,?_⟩;have:p.1=z:=by simpa using HA e
   show decide (aa (jA p.1:aI)=aa (jA z))=af;rw[this];simp
  rw[if_pos hy,dS,dS];refine nN λp _=>?_
  show(if aa (jA p.1:aI)=aa (jA z) then((dN p).1,aT v) else dN p)=dN (if p.1=z then(p.1,v) else p)
  by_cases e:p.1=z
  .rw[if_pos (by rw[e]),if_pos e];rfl
  .rw[if_neg (λq=>e (by injection q with q;injection q)),if_neg e]
theorem Za (kn:List (aE×Int))(z:aE)(v:Int):(putN kn z v).length<=kn.length+1:=by
 unfold putN;split<;>simp
theorem u5 (kn:List (aE×Int))(z y:aE)(v:Int):cH (putN kn z v) y=if y=z then aa v else cH kn y:=by
 unfold putN;cases h:cH kn z with
 |none=>rw[if_neg (by simp)];exact zO h v y
 |some u=>
  rw[if_pos (show(aa u).isSome=af from rfl)]
  induction kn with
  |nil=>cases h
  |cons p r ih=>
   unfold cH at h ⊢;rw[dB,fF,fF];rw[fF] at h;have key:((if p.1=z then(p.1,v) else p).1:aE)=p.1:=by split<;>rfl
   by_cases hp:p.1=z
   .rw[if_pos hp];by_cases hy:y=z
    .have:p.1=y:=by rw[hp,hy]
     simp[this,hy]
    .have n1:¬ p.1=y:=λq=>hy (by rw[<-q,hp])
     rw[decide_eq_false n1,if_neg hy];have gen:∀ r:List (aE×Int),(((r.map λp=>if p.1=z then(p.1,v) else p).find? λp=>decide (p.1=y)).map (·.2))=(r.find? λp=>decide (p.1=y)).map (·.2):=λr=>by
      induction r with
      |nil=>rfl
      |cons q t ih=>
       rw[dB,fF,fF];by_cases hq:q.1=z
       .rw[if_pos hq];have n2:¬ q.1=y:=λe=>hy (by rw[<-e,hq])
        rw[decide_eq_false n2];exact ih
       .rw[if_neg hq];cases decide (q.1=y) with
        |true=>rfl
        |false=>exact ih
     exact gen r
   .rw[if_neg hp];rw[decide_eq_false hp] at h;by_cases hy:p.1=y
    .have n3:¬ y=z:=λq=>hp (by rw[hy,q])
     simp[hy,n3]
    .rw[decide_eq_false hy];exact ih h
theorem XZ {α β:Type}{p:α->Bool}{g:α->aA}(q:β->aA)(h:α->Option β):∀ {xs:List α},(∀ x∈xs,(p x=af->∃ y,h x=aa y/\g x=q y)/\(p x=ag->h x=ae))->(xs.filter p).map g=(xs.filterMap h).map q
 |[],_=>rfl
 |x::xs,hx=>by
  have ih:=XZ q h λy m=>hx y (bH _ m)
  obtain⟨h1,h2⟩:=hx x bE;cases hp:p x with
  |true=>
   obtain⟨y,e1,e2⟩:=h1 hp;rw[P1 hp,P4 e1,dB,dB,ih,e2]
  |false=>rw[P3 (by simp[hp]),List.filterMap_cons_none (h2 hp),ih]
def HP (I:aU->Prop)(t:Option aA)(o:Out):Prop:=match t with
 |some r=>o=.rt r
 |none=>∃ ρ2,o=.nx ρ2/\I ρ2
def TN (I:aU->Prop)(t:Option aA)(o:Out):Prop:=match t with
 |some r=>o=.rt r
 |none=>∃ ρ2,(o=.nx ρ2\/o=.ct ρ2)/\I ρ2
theorem VP{T:aA->aU->Option aU}{α:Type}{q:α->aA}(I:aU->Prop)(g:α->Option aA):∀ {xs:List α} {Y:aU},I Y ->
  (∀ x∈xs,∀ Y,I Y->∃ ρ1,T (q x) Y=aa ρ1/\Goes F ρ1 (TN I (g x)))->∃ o,jH F T (xs.map q) Y=aa o/\HP I (xs.findSome? g) o
 |[],Y,h0,_=>⟨_,rfl,Y,rfl,h0⟩
 |x::xs,Y,h0,step=>by
  obtain⟨ρ1,e1,o,e2,h⟩:=step x bE Y h0;have e:jH F T ((x::xs).map q) Y=aft F T (xs.map q) o:=by
   show((T (q x) Y).bind λρ1=>(F ρ1).bind λo=>_)=_
   rw[e1,bM,e2,bM];cases o<;>rfl
  rw[e,GZ];cases hg:g x with
  |some r=>
   rw[hg] at h;have h:=h;subst h;exact⟨_,rfl,rfl⟩
  |none=>
   rw[hg] at h;obtain⟨ρ2,ho,i2⟩:=h;obtain⟨o',e',h'⟩:=VP I g i2 λy m=>step y (bH _ m)
   rcases ho with rfl|rfl
   .exact⟨o',e',h'⟩
   .exact⟨o',e',h'⟩
theorem Ht {m:Md}{Y:aU}{α:Type}{fi:AF}{T:aA->aU->Option aU}{xs:List α}{q:α->aA}(I:aU->Prop)(g:α->Option aA)(h:aV m fi Y=aa (xs.map q))(h0:I Y)
  (step:∀ x∈xs,∀ Y,I Y->∃ ρ1,T (q x) Y=aa ρ1/\Goes F ρ1 (TN I (g x))):Goes (dD m fi T F) Y (HP I (xs.findSome? g)):=by
 obtain⟨o,e,h'⟩:=VP I g h0 step;exact⟨o,JB h e,h'⟩
theorem Fm {G:SF}{Y:aU}{P:Out->Prop}(I:aU->Prop)(t:Option aA)(h:Goes F Y (HP I t))(k1:∀ r,t=aa r->P (.rt r))(k2:t=ae->∀ ρ',I ρ'->Goes G ρ' P):Goes (aW F G) Y P:=by
 obtain⟨o,e,h⟩:=h;cases t with
 |some r=>
  have h:=h;subst h;exact JS e (k1 r rfl)
 |none=>
  obtain⟨ρ2,rfl,i2⟩:=h;exact gF e (k2 rfl ρ2 i2)
theorem Ew {α β:Type}{f g:α->Option β}:∀ {xs:List α},(∀ x∈xs,f x=g x)->xs.findSome? f=xs.findSome? g
 |[],_=>rfl
 |x::xs,h=>by
  rw[GZ,GZ,h x bE,Ew λy m=>h y (bH _ m)]
def yO (lo n:Nat):List Nat:=(cK (n-lo)).map (lo + ·)
theorem A4c {lo j:Nat}:j∈yO lo n↔lo<=j/\j<n:=by
 unfold yO;rw[bL];rw[23]
 .rintro⟨k,mk,rfl⟩;have:=gW.1 mk;omega
 .rintro⟨h1,h2⟩;exact⟨j-lo,gW.2 (by omega),by omega⟩
theorem Pt{lo:Nat}(h:fa Y=aa [.int lo,.int n])(hl:lo<=1000000)(hn:n<=1000000):iR2 fa Y=aa ((yO lo n).map λ(k:Nat)=>aT k):=by
 unfold iR2;rw[h,bM];show uS (lo:Int) (n:Int)=_;unfold uS;have e62:(2:Int)^62=4611686018427387904:=by decide
 rw[e62,if_pos (by omega),show((n:Int)-(lo:Int)).toNat=n-lo by omega]
 unfold yO;rw[dS]
 congr 1
theorem getD_some {α:Type}{xs:List α}(d0:α)(h:i<xs.length):xs[i]?=aa (xs.getD i d0):=by
 rw[iD,fO h]
 rfl
theorem getD_mem {α:Type}{xs:List α}(d0:α)(h:i<xs.length):xs.getD i d0∈xs:=eU (getD_some d0 h)
theorem Ug {a b:EF}(h:a Y=aa (.bool x))(h2:x=af->b Y=aa (.bool y)):uT a b Y=aa (.bool (x&&y)):=by
 unfold uT;cases x with
 |true=>rw[h,bM,show tj (.bool af)=aa af from rfl,bM,if_pos rfl,h2 rfl];rfl
 |false=>rw[h,bM,show tj (.bool ag)=aa ag from rfl,bM,if_neg (by simp)];rfl
theorem uY{ds:List aA}(h:fa Y=aa ds)(hl:ds.length<=1000:=by simp):iR fa Y=aa (.tuple ds):=by
 unfold iR;rw[h,bM,if_pos (rE (by omega))]
theorem WN{ds:List aA}(h:fa Y=aa ds)(hl:ds.length<=1000:=by simp):fP fa Y=aa (.list ds):=by
 unfold fP;rw[h,bM,if_pos (rE (by omega))]
abbrev Ln:=aE×List aI
def bC (l:Ln):aA:=.tuple [.str l.1,.tuple (l.2.map kD)]
abbrev bo:Ln:=("",[])
theorem e8 (xs:List aI):noDicts (xs.map kD)=af:=zS λt m=>by
 obtain⟨x,_,rfl⟩:=bL.1 m;cases x<;>rfl
def yr:aA->Int
 |.int i=>i
 |_=>0
theorem sY (r:List Int):(r.map aT).map yr=r:=by
 rw[dS];have:(yr∘aT)=id:=rfl;rw[this,RG]
theorem vN (r:List Int):bO (r.map aT)=af:=EJ λt m=>by
 obtain⟨i,_,rfl⟩:=bL.1 m
 rfl
theorem zM (r:List Int):cP (r.map aT)<=1:=FG λt m=>by
 obtain⟨i,_,rfl⟩:=bL.1 m;simp[jN]
theorem ZL (r:List Int):cU (bN r)=af:=by
 have h1:noDicts (r.map aT)=af:=zS λt m=>by
  obtain⟨i,_,rfl⟩:=bL.1 m
  rfl
 have h2:cP (r.map aT)<=1:=FG λt m=>by
  obtain⟨i,_,rfl⟩:=bL.1 m;simp[jN]
 simp[cU,bN,noDict,h1,jN];omega
theorem Vj {a b:List Int}(h:bN a=bN b):a=b:=by
 have h:=BA h;exact(sY a).symm.trans ((congrArg (List.map yr) h).trans (sY b))
theorem EC (a b:List Int):bX (bN a) (bN b)=decide (a=b):=by
 rw[KB _ _ (LC a) (LC b),decide_eq_decide];exact⟨Vj,λe=>by rw[e]⟩
def xk (R:List (List Int)):List (List Int):=(iH (R.map λr=>r.map aT)).map λk=>k.map yr
theorem KZ (R:List (List Int)):(xk R).Perm R:=by
 have h:=(tR (R.map λr=>r.map aT)).map λk=>k.map yr
 rw[dS] at h;have e:(R.map ((λk=>k.map yr)∘λr=>r.map aT))=R:=by
  have:((λk=>k.map yr)∘λr=>r.map aT)=(id:List Int->List Int):=by funext r;exact sY r
  rw[this,RG]
 rw[e] at h;exact h
theorem IU {R:List (List Int)}{r:List Int}:r∈xk R↔r∈R:=(KZ R).mem_iff
theorem Fg (R:List (List Int)):(xk R).length=R.length:=(KZ R).length_eq
theorem FE (R:List (List Int)):hG (R.map bN)=aa (R.map λr=>r.map aT):=by
 have:=Hn (kss:=R.map λr=>r.map aT) λk m=>by
  obtain⟨r,_,rfl⟩:=bL.1 m;have:=zM r;exact⟨vN r,by omega⟩
 rw[dS] at this;exact this
theorem LH:∀ (a b:List Int),a.length=b.length->hW (a.map aT) (b.map aT)=af
 |[],[],_=>rfl
 |x::a,y::b,h=>LH a b (by simpa using h)
 |[],_::_,h=>by simp at h
 |_::_,[],h=>by simp at h
theorem Fc {R:List (List Int)}(hn:1<=n)(hw:∀ r∈R,r.length=n)(hl:R.length<64):yE [bA R]=aa (bA (xk R)):=by
 show((hG (R.map bN)).bind λkss=>if ox kss=af/\kss.length<64 then aa (oP ((iH kss).map cL)) else ae)=_
 rw[FE,bM];have ok:ox (R.map λr=>r.map aT)=af:=by
  unfold ox;rw[Bool.or_eq_true_iff];refine .inr (jQ.2 ⟨dW.2 λk mk=>dW.2 λk' mk'=>?_,dW.2 λk mk=>?_⟩)
  .obtain⟨a,ma,rfl⟩:=bL.1 mk;obtain⟨b,mb,rfl⟩:=bL.1 mk';exact LH a b ((hw a ma).trans (hw b mb).symm)
  .obtain⟨a,ma,rfl⟩:=bL.1 mk;have:=hw a ma;cases a with
   |nil=>simp at this;omega
   |cons x r=>rfl
 rw[if_pos ⟨ok,by rw[cD];exact hl⟩]
 unfold bA xk;rw[dS]
 congr 2
 refine nN λk mk=>?_
 obtain⟨a,_,rfl⟩:=bL.1 ((tR _).mem_iff.1 mk);show _=cL (((a.map aT).map yr).map aT);rw[sY]
structure Bk (kds:List (aA×aA))(B:aE->List (List Int))(wd:aE->Nat):Prop where
 pl:jg kds=af
 at_:∀ t,(bI kds (.inr t)).getD (.list [])=bA (B t)
 few:∀ t,(B t).length<64
 pos:∀ t,1<=wd t
 wid:∀ t,∀ r∈B t,r.length=wd t
theorem Bk.get {kds:List (aA×aA)}{B:aE->List (List Int)}{wd:aE->Nat}(b:Bk kds B wd){fd fk:EF}{t:aE}(h1:fd Y=aa (.dict kds))(h2:fk Y=aa (.str t)):mQ fd fk (fP aK) Y=aa (bA (B t)):=by
 rw[DK h1 h2 rfl rfl b.pl,b.at_]
theorem kJ (c:Int)(n:Nat)(h:0<n):cY (.int c) (.int n)=aa (.int (c%n)):=by
 show(if 0<(n:Int) then aa (aT (c%(n:Int))) else ae)=_
 rw[if_pos (by omega)]
theorem mS (c:Int)(n:Nat)(h:0<n)(h2:n<1000:=by omega):fL (.int c) (.int n)=aa (.int (c/n)):=by
 show(if 0<(n:Int)/\(n:Int)<1073741824 then aa (aT (c/(n:Int))) else ae)=_
 rw[if_pos (by omega)]
theorem pE(h:a.natAbs<2^64):fK (.int a) (.int b)=aa (.int (a*b)):=by
 show(if (a.natAbs<2^64\/b.natAbs<2^64)\/(a.natAbs<2^1000/\b.natAbs<2^1000) then aa (aT (a*b)) else ae)=_
 rw[if_pos (.inl (.inl h))]
theorem mul_r(h:b.natAbs<2^64):fK (.int a) (.int b)=aa (.int (a*b)):=by
 show(if (a.natAbs<2^64\/b.natAbs<2^64)\/(a.natAbs<2^1000/\b.natAbs<2^1000) then aa (aT (a*b)) else ae)=_
 rw[if_pos (.inl (.inr h))]
theorem Mw(h:a.natAbs<2^200)(h2:b.natAbs<2^200):fK (.int a) (.int b)=aa (.int (a*b)):=by
 show(if (a.natAbs<2^64\/b.natAbs<2^64)\/(a.natAbs<2^1000/\b.natAbs<2^1000) then aa (aT (a*b)) else ae)=_
 have hp:(2:Nat)^200<=2^1000:=Nat.pow_le_pow_right (by decide) (by decide)
 rw[if_pos (.inr ⟨iO h hp,iO h2 hp⟩)]
theorem Hq {k:Nat}(h:k<=100):uU (.int 10) (.int k)=aa (.int (10^k)):=by
 show(if 0<=(k:Int)/\(k:Int)<=1000000/\(10:Int).natAbs<2^64 then aa (aT (10^(k:Int).toNat)) else ae)=_
 rw[if_pos ⟨by omega,by omega,by decide⟩]
 rfl
theorem Gj {a b:BF}(h:a Y=aa x)(h2:x=af->b Y=aa y):iS a b Y=aa (x&&y):=by
 unfold iS;rw[h];cases x with
 |true=>exact h2 rfl
 |false=>rfl
theorem yF {a b:BF}(h:a Y=aa x)(h2:x=ag->b Y=aa y):yt a b Y=aa (x||y):=by
 unfold yt;rw[h];cases x with
 |true=>rfl
 |false=>exact h2 rfl
theorem yU(h:f Y=aa (.bool x)):iT (aw f) Y=aa (!x):=by
 unfold iT;rw[eG h]
 rfl
theorem Wv (r:List Int):dM (bN r)=af:=by
 show mX (r.map aT)=af;rw[Cg,dW];intro d m;obtain⟨i,_,rfl⟩:=bL.1 m
 rfl
theorem Dn (R:List (List Int)):noDicts (R.map bN)=af:=zS λt m=>by
 obtain⟨r,_,rfl⟩:=bL.1 m;have:=ZL r;unfold cU at this;exact(jQ.1 this).1
theorem Rt (neg:Bool)(r:List Int)(R:List (List Int)):pv neg (bN r) (bA R)=aa (.bool (neg != decide (r∈R))):=by
 show(if (cU (bN r)&&noDicts (R.map bN))=af then aa (jO (neg != (R.map bN).any λz=>bX z (bN r))) else ae)=_
 rw[ZL,Dn,SH,if_pos rfl];have:((R.map bN).any λz=>bX z (bN r))=decide (r∈R):=by
  rw[List.any_map];by_cases h:r∈R
  .rw[decide_eq_true h];exact xO.2 ⟨r,h,by simp[EC]⟩
  .rw[decide_eq_false h,List.any_eq_false];intro x mx;simp only[Function.comp,EC,decide_eq_true_eq];exact λe=>h (e ▸ mx)
 rw[this]
theorem US{x y:aA}{xs ys:List aA}(h:fa Y=aa [x,y])(hx:pJ x=aa xs)(hy:pJ y=aa ys):iZ fa Y=aa (xG pairD xs ys):=by
 unfold iZ;rw[h];show((pJ x).bind λxs=>(pJ y).bind λys=>aa (xG pairD xs ys))=_
 rw[hx,hy]
 rfl
abbrev Tb:=aE×List (List Int)
def gc (L:List Tb):List (aA×aA):=L.map λp=>(dP p.1,bA p.2)
theorem vJ {Y:aU}{P:Out->Prop}{d:aA}(h:Y[i]?=aa (aa (n,d)))(k:P (.rt d)):Goes (jJ i n) Y P:=⟨_,by
 unfold jJ;rw[h];show(if n=n then aa (Out.rt d) else ae)=_
 rw[if_pos rfl],k⟩
theorem Yp (a:List Int):(bN a).depth<=2:=by
 have:=zM a;show cP (a.map aT)+1<=2;omega
theorem Uy (a b:Int):ir (.int a) (.int b)=aa (.bool (decide (a≠b))):=by
 have:=Hc (.inl a) b;refine Eq.trans this ?_
 congr 2
 rw[decide_eq_decide];exact⟨λh e=>h (by rw[e]),λh e=>h (Sum.inl.inj e)⟩
theorem Ff (R:List (List Int)):cU (bA R)=af:=by
 have h2:cP (R.map bN)<=2:=FG λt m=>by
  obtain⟨r,_,rfl⟩:=bL.1 m;exact Yp r
 unfold cU;show(noDicts (R.map bN)&&decide (cP (R.map bN)+1<=60))=af;rw[Dn,decide_eq_true (by omega)]
 rfl
def cz (L:List Tb)(t:aE):List (List Int):=((L.find? λp=>decide (p.1=t)).map (·.2)).getD []
theorem KI (t:aE):∀ L:List Tb,bI (gc L) (.inr t)=(L.find? λp=>decide (p.1=t)).map λp=>bA p.2
 |[]=>rfl
 |p::L=>by
  show bI ((.str p.1,bA p.2)::gc L) (.inr t)=_;rw[vX,fF];by_cases h:p.1=t
  .rw[if_pos (by rw[h];rfl),decide_eq_true h];rfl
  .rw[if_neg (λe=>h (by injection e with e;injection e)),decide_eq_false h,KI t L]
theorem Ov (L:List Tb)(t:aE):(bI (gc L) (.inr t)).getD (.list [])=bA (cz L t):=by
 rw[KI];unfold cz;cases L.find? λp=>decide (p.1=t)<;>rfl
theorem VS (L:List Tb):jg (gc L)=af:=CS λkd m=>by
 obtain⟨p,_,rfl⟩:=bL.1 m;exact λq=>nomatch q
theorem Uw {L:List Tb}{t:aE}{r:List Int}(h:r∈cz L t):∃ p∈L,p.1=t/\p.2=cz L t:=by
 unfold cz at h ⊢;cases e:L.find? λp=>decide (p.1=t) with
 |none=>rw[e] at h;simp at h
 |some p=>
  have h2:=HA e;exact⟨p,RE e,by simpa using h2,rfl⟩
theorem Os {L:List Tb}(nd:(L.map (·.1)).Nodup):KnR (λd=>∃ T:List (List Int),d=bA T) (gc L):=by
 refine⟨λkd m=>?_,?_⟩
 .obtain⟨p,_,rfl⟩:=bL.1 m;exact⟨⟨_,rfl⟩,_,rfl⟩
 .unfold gc;rw[dS,show((λx=>x.1)∘λ(p:Tb)=>(dP p.1,bA p.2))=dP∘(·.1) from rfl,<-dS]
  exact(qC.2 (nd.imp λh e=>h (by injection e)))
theorem Pe {L:List Tb}(nd:(L.map (·.1)).Nodup):uN af (.dict (gc L)) (.dict (gc L))=aa (.bool ag):=
 (Os nd).eqK (λd ⟨T,e⟩=>by rw[e];exact ZR T) (λd ⟨T,e⟩=>by rw[e];exact Ff T) af
def kE:List Tb->aE->List (List Int)->List Tb
 |[],_,_=>[]
 |p::L,t,R=>if p.1=t then(p.1,R)::L else p::kE L t R
theorem zF (t:aE)(R:List (List Int)):∀ L:List Tb,(kE L t R).map (·.1)=L.map (·.1)
 |[]=>rfl
 |p::L=>by
  show(if p.1=t then(p.1,R)::L else p::kE L t R).map (·.1)=_
  by_cases h:p.1=t
  .rw[if_pos h];rfl
  .rw[if_neg h,dB,zF t R L];rfl
theorem find_key {L:List Tb}{t:aE}(h:t∈L.map (·.1)):∃ p,(L.find? λp=>decide (p.1=t))=aa p:=by
 cases e:L.find? λp=>decide (p.1=t) with
 |some p=>exact⟨p,rfl⟩
 |none=>
  obtain⟨p,mp,ep⟩:=bL.1 h;have:=xM.1 e p mp;simp[ep] at this
theorem We {L:List Tb}{t:aE}(h:t∈L.map (·.1)):bI (gc L) (.inr t)=aa (bA (cz L t)):=by
 obtain⟨p,e⟩:=find_key h;rw[KI];unfold cz;rw[e]
 rfl
end Aw
namespace L2
open PySem PySem.Spec PyProof.Rows
variable {k j e p:Nat}{l:List aI}{v u:aE->Int}{S R:Nat->Prop}{r:List Int}{zs:List aE}
def tv (v:aE->Int):aI->Int
 |.inl i=>i
 |.inr z=>v z
section
variable {ls:Nat->List aI}
abbrev fG:=Nat->List Int->Prop
def xT (ls:Nat->List aI)(S:Nat->Prop)(T:fG)(v:aE->Int):Prop:=∀ k,S k->T k ((ls k).map (tv v))
def Gd (ls:Nat->List aI)(S:Nat->Prop)(T:fG)(k:Nat)(r:List Int):Prop:=∃ v,xT ls S T v/\r=(ls k).map (tv v)
def BX (a b:List aI)(U:List Int->Prop)(r:List Int):Prop:=∃ u u',r=a.map (tv u)/\U (b.map (tv u'))/\∀ z,(.inr z:aI)∈a->(.inr z:aI)∈b->u z=u' z
def wD (T:fG)(k:Nat)(U:List Int->Prop):fG:=λj=>if j=k then U else T j
theorem CZ (T:fG)(k:Nat)(U:List Int->Prop):wD T k U k=U:=if_pos rfl
theorem vK {T:fG}{U:List Int->Prop}(h:j≠k):wD T k U j=T j:=if_neg h
def yC (ls:Nat->List aI)(S:Nat->Prop)(e p:Nat):Prop:=S e/\S p/\e≠p/\∀ z,(.inr z:aI)∈ls e->∀ k,S k->k≠e->(.inr z:aI)∈ls k->(.inr z:aI)∈ls p
def less (S:Nat->Prop)(e:Nat):Nat->Prop:=λk=>S k/\k≠e
def wu (ls:Nat->List aI)(T:fG)(e p:Nat):fG:=wD T p λr=>T p r/\BX (ls p) (ls e) (T e) r
def bw1 (ls:Nat->List aI)(T:fG)(e p:Nat):fG:=wD T e λr=>T e r/\BX (ls e) (ls p) (T p) r
theorem JY(h:l.map (tv v)=l.map (tv u)){z:aE}(m:(.inr z:aI)∈l):v z=u z:=List.map_inj_left.1 h _ m
theorem DC(h:∀ z,(.inr z:aI)∈l->v z=u z):l.map (tv v)=l.map (tv u):=nN λk m=>by
 cases k with
 |inl i=>rfl
 |inr z=>exact h z m
open Classical in
theorem glue(E:yC ls S e p)(hp:∀ z,(.inr z:aI)∈ls e->(.inr z:aI)∈ls p->v z=u z):∃ v2:aE->Int,(∀ k,less S e k->(ls k).map (tv v2)=(ls k).map (tv v))/\(ls e).map (tv v2)=(ls e).map (tv u):=by
 refine⟨λz=>if (.inr z:aI)∈ls e then u z else v z,λk hk=>DC λz mz=>?_,DC λz mz=>if_pos mz⟩
 by_cases m:(.inr z:aI)∈ls e
 .rw[if_pos m];exact(hp z m (E.2.2.2 z m k hk.1 hk.2 mz)).symm
 .rw[if_neg m]
theorem VH{T:fG}(E:yC ls S e p)(h:xT ls S T v):xT ls (less S e) (wu ls T e p) v:=λk hk=>by
 by_cases q:k=p
 .subst q;unfold wu;rw[CZ];exact⟨h k E.2.1,v,v,rfl,h e E.1,λ_ _ _=>rfl⟩
 .unfold wu;rw[vK q];exact h k hk.1
theorem VV {T:fG}(h:wu ls T e p k r):T k r:=by
 unfold wu at h;by_cases q:k=p
 .subst q;rw[CZ] at h;exact h.1
 .rwa [vK q] at h
theorem Nr{T:fG}(E:yC ls S e p)(h:xT ls (less S e) (wu ls T e p) v):∃ v2,xT ls S T v2/\∀ k,less S e k->(ls k).map (tv v2)=(ls k).map (tv v):=by
 have hp:=h p ⟨E.2.1,gV E.2.2.1⟩;unfold wu at hp;rw[CZ] at hp;obtain⟨_,u,u',h1,h2,h3⟩:=hp;obtain⟨v2,a,b⟩:=glue E λz m1 m2=>(JY h1 m2).trans (h3 z m2 m1)
 refine⟨v2,λk hk=>?_,a⟩
 by_cases q:k=e
 .rw[q,b];exact h2
 .rw[a k ⟨hk,q⟩];exact VV (h k ⟨hk,q⟩)
theorem Zb{T Tn:fG}(E:yC ls S e p)(hn:∀ k,less S e k->∀ r,Tn k r↔Gd ls (less S e) (wu ls T e p) k r)(he:∀ r,Tn e r↔T e r):∀ k,S k->∀ r,bw1 ls Tn e p k r↔Gd ls S T k r:=λk hk r=>by
 have lp:less S e p:=⟨E.2.1,gV E.2.2.1⟩;by_cases q:k=e
 .subst q;unfold bw1;rw[CZ];rw[23]
  .rintro⟨h0,u,u',rfl,h2,h3⟩;obtain⟨v,hv,h4⟩:=(hn p lp _).1 h2;obtain⟨v2,a,b⟩:=glue E λz m1 m2=>(JY h4 m2).symm.trans (h3 z m1 m2).symm
   refine⟨v2,λj hj=>?_,b.symm⟩
   by_cases q:j=k
   .rw[q,b];exact(he _).1 h0
   .rw[a j ⟨hj,q⟩];exact VV (hv j ⟨hj,q⟩)
  .rintro⟨v,hv,rfl⟩;exact⟨(he _).2 (hv k hk),v,v,rfl,(hn p lp _).2 ⟨v,VH E hv,rfl⟩,λ_ _ _=>rfl⟩
 .unfold bw1;rw[vK q,hn k ⟨hk,q⟩];rw[23]
  .rintro⟨v,hv,rfl⟩;obtain⟨v2,h2,a⟩:=Nr E hv;exact⟨v2,h2,(a k ⟨hk,q⟩).symm⟩
  .rintro⟨v,hv,rfl⟩;exact⟨v,VH E hv,rfl⟩
def uW (ls:Nat->List aI):(Nat->Prop)->List (Nat×Nat)->(Nat->Prop)->Prop
 |S,[],R=>∀ k,S k↔R k
 |S,q::es,R=>yC ls S q.1 q.2/\uW ls (less S q.1) es R
def U8 (ls:Nat->List aI)(T:fG)(es:List (Nat×Nat)):fG:=es.foldl (λT q=>wu ls T q.1 q.2) T
def W0 (ls:Nat->List aI)(T:fG)(es:List (Nat×Nat)):fG:=es.reverse.foldl (λT q=>bw1 ls T q.1 q.2) T
theorem tH:∀ {es:List (Nat×Nat)} {S:Nat->Prop},uW ls S es R->(∀ k,R k->S k)/\∀ q∈es,S q.1/\S q.2
 |[],S,h=>⟨λk r=>(h k).2 r,λq m=>by simp at m⟩
 |q::es,S,h=>by
  obtain⟨a,b⟩:=tH h.2;refine⟨λk r=>(a k r).1,λx m=>?_⟩
  rw[13]
  .exact⟨h.1.1,h.1.2.1⟩
  .exact⟨(b x m).1.1,(b x m).2.1⟩
theorem Hu:∀ {es:List (Nat×Nat)} {T:fG},(∀ q∈es,k≠q.2)->U8 ls T es k=T k
 |[],T,_=>rfl
 |q::es,T,h=>by
  show U8 ls (wu ls T q.1 q.2) es k=T k;rw[Hu λx m=>h x (bH _ m)]
  exact vK (h q bE)
theorem KM (T:fG)(q:Nat×Nat)(es:List (Nat×Nat)):W0 ls T (q::es)=bw1 ls (W0 ls T es) q.1 q.2:=by
 unfold W0;rw[List.reverse_cons,rT]
 rfl
theorem Gy:∀ {es:List (Nat×Nat)} {T:fG},(∀ q∈es,k≠q.1)->W0 ls T es k=T k
 |[],T,_=>rfl
 |q::es,T,h=>by
  rw[KM];exact(vK (h q bE)).trans (Gy λx m=>h x (bH _ m))
theorem Cw{Tn:fG}:∀ {es:List (Nat×Nat)} {S:Nat->Prop} {T:fG},uW ls S es R->(∀ k,R k->∀ r,Tn k r↔Gd ls R (U8 ls T es) k r)->(∀ k,¬ R k->Tn k=U8 ls T es k)->∀ k,S k->∀ r,W0 ls Tn es k r↔Gd ls S T k r
 |[],S,T,h,h1,h2,k,hk,r=>by
  have e:S=R:=funext λk=>propext (h k)
  subst e;exact h1 k hk r
 |q::es,S,T,h,h1,h2,k,hk,r=>by
  obtain⟨E,h⟩:=h;obtain⟨s1,s2⟩:=tH h;have ih:=Cw h h1 h2;rw[KM];have nR:¬ R q.1:=λz=>(s1 _ z).2 rfl
  refine Zb E ih (λr=>?_) k hk r
  rw[Gy λx m z=>(s2 x m).1.2 z.symm,h2 _ nR]
  show U8 ls (wu ls T q.1 q.2) es q.1 r↔_;rw[Hu λx m z=>(s2 x m).2.2 z.symm]
  unfold wu;rw[vK E.2.2.1]
end
open PySem PySem.Spec PyProof.Rows Aw
theorem pP{p:aI×Int}(m:p∈l.zip (l.map (tv v))):p.1∈l/\p.2=tv v p.1:=by
 obtain⟨j,hj,rfl⟩:=rS m;rw[xH,cD,Nat.min_self] at hj;rw[RJ,RK];exact⟨lQ _,rfl⟩
theorem De{k:aI}(m:k∈l):(k,tv v k)∈l.zip (l.map (tv v)):=by
 obtain⟨j,hj,rfl⟩:=rS m;have h:j<(l.zip (l.map (tv v))).length:=by rw[xH,cD,Nat.min_self];exact hj
 have:=lQ h
 rwa [RJ,RK] at this
theorem OL (l:List aI)(v:aE->Int):∃ kn,eY l (l.map (tv v)) []=aa kn/\∀ z,(.inr z:aI)∈l->cH kn z=aa (v z):=by
 obtain⟨kn,e⟩:=zJ (ps:=l.zip (l.map (tv v))) (kn:=[]) (λp m i q=>by rw[(pP m).2,q];rfl) (λp _ z u _ e=>by cases e) (λp m p' m' z q q'=>by rw[(pP m).2,(pP m').2,q,q'])
 refine⟨kn,?_,λz m=>?_⟩
 .unfold eY;rw[if_pos (by rw[cD])]
  exact e
 .exact((vU e).2.1 _ (De m)).2 z rfl
theorem Te:(∃ kn,eY l r []=aa kn) ↔ ∃ v,r=l.map (tv v):=by
 rw[23]
 .rintro⟨kn,h⟩;unfold eY at h;by_cases hl:r.length=l.length
  .rw[if_pos hl] at h;obtain⟨_,b,_⟩:=vU h;refine⟨λz=>(cH kn z).getD 0,RO (by rw[cD];exact hl) λj h1 h2=>?_⟩
   rw[RK];have hj:j<l.length:=by omega
   have hz:j<(l.zip r).length:=by rw[xH];omega
   have:=b (l.zip r)[j] (lQ hz);rw[RJ] at this;cases hk:l[j] with
   |inl i=>exact this.1 i hk
   |inr z=>
    have e:=this.2 z hk;show r[j]=(cH kn z).getD 0;rw[e]
    rfl
  .rw[if_neg hl] at h;cases h
 .rintro⟨v,rfl⟩;obtain⟨kn,e,_⟩:=OL l v;exact⟨kn,e⟩
def fI (l:List aI)(zs:List aE)(r:List Int):List Int:=zs.map λz=>((eY l r []).bind λkn=>cH kn z).getD 0
theorem sZ(h:∀ z∈zs,(.inr z:aI)∈l)(v:aE->Int):fI l zs (l.map (tv v))=zs.map v:=nN λz m=>by
 obtain⟨kn,e,hl⟩:=OL l v;rw[e];show(cH kn z).getD 0=v z;rw[hl z (h z m)]
 rfl
def wF (a b:List aI)(zs:List aE)(R U:List (List Int)):List (List Int):=R.filter λr=>(U.map (fI b zs)).contains (fI a zs r)
theorem F5 {a b:List aI}{R U:List (List Int)}(hz:∀ z,z∈zs↔(.inr z:aI)∈a/\(.inr z:aI)∈b)(hR:∀ r∈R,∃ v,r=a.map (tv v))(hU:∀ r∈U,∃ v,r=b.map (tv v)) :
  r∈wF a b zs R U↔r∈R/\BX a b (· ∈ U) r:=by
 unfold wF;rw[uF];refine and_congr_right λmr=>?_
 obtain⟨v,rfl⟩:=hR r mr;rw[Jp,sZ λz m=>((hz z).1 m).1]
 rw[23]
 .intro m;obtain⟨r',m',e⟩:=bL.1 m;obtain⟨v',rfl⟩:=hU r' m';rw[sZ λz m=>((hz z).1 m).2] at e
  exact⟨v,v',rfl,m',λz m1 m2=>(List.map_inj_left.1 e z ((hz z).2 ⟨m1,m2⟩)).symm⟩
 .rintro⟨u,u',e,m',h⟩;refine bL.2 ⟨_,m',?_⟩;rw[sZ λz m=>((hz z).1 m).2]
  refine nN λz m=>?_
  obtain⟨m1,m2⟩:=(hz z).1 m;rw[<-h z m1 m2];exact(JY e m1).symm
theorem Ass {a b:List aI}{R U:List (List Int)}:(wF a b zs R U).Sublist R:=List.filter_sublist
abbrev dX:=List (List (List Int))
def tb (t:dX):fG:=λk r=>r∈t.getD k []
def jS (ls:Nat->List aI)(t:dX):Prop:=∀ k r,r∈t.getD k []->∃ v,r=(ls k).map (tv v)
theorem EI {t:dX}(hp:p<t.length)(R:List (List Int))(j:Nat):(t.set p R).getD j []=if j=p then R else t.getD j []:=by
 rw[iD,iD,List.getElem?_set];by_cases h:p=j
 .subst h;simp[hp]
 .rw[if_neg h,if_neg (gV h)]
section
variable {ls:Nat->List aI}{cm:Nat->Nat->List aE}
def Cm (ls:Nat->List aI)(cm:Nat->Nat->List aE):Prop:=∀ a b z,z∈cm a b↔(.inr z:aI)∈ls a/\(.inr z:aI)∈ls b
def vh (ls:Nat->List aI)(cm:Nat->Nat->List aE)(t:dX)(k j:Nat):dX:=t.set k (wF (ls k) (ls j) (cm k j) (t.getD k []) (t.getD j []))
theorem vL (t:dX)(k j:Nat):(vh ls cm t k j).length=t.length:=GX
theorem VC (hc:Cm ls cm){t:dX}(hf:jS ls t)(hk:k<t.length):tb (vh ls cm t k j)=wD (tb t) k λr=>tb t k r/\BX (ls k) (ls j) (tb t j) r:=by
 funext i r;unfold tb vh wD;rw[EI hk];by_cases h:i=k
 .subst h;rw[if_pos rfl,if_pos rfl];exact propext (F5 (hc i j) (hf i) (hf j))
 .rw[if_neg h,if_neg h]
theorem DD {t:dX}(hf:jS ls t)(hk:k<t.length):jS ls (vh ls cm t k j):=λi r m=>by
 unfold vh at m;rw[EI hk] at m;by_cases h:i=k
 .subst h;rw[if_pos rfl] at m;exact hf i r (Ass.mem m)
 .rw[if_neg h] at m;exact hf i r m
def wx (ls:Nat->List aI)(cm:Nat->Nat->List aE)(t:dX)(es:List (Nat×Nat)):dX:=es.foldl (λt q=>vh ls cm t q.2 q.1) t
def tm (ls:Nat->List aI)(cm:Nat->Nat->List aE)(t:dX)(es:List (Nat×Nat)):dX:=es.reverse.foldl (λt q=>vh ls cm t q.1 q.2) t
theorem OS (hc:Cm ls cm):∀ {es:List (Nat×Nat)} {t:dX},jS ls t->(∀ q∈es,q.2<t.length)->tb (wx ls cm t es)=U8 ls (tb t) es/\jS ls (wx ls cm t es)/\(wx ls cm t es).length=t.length
 |[],t,hf,_=>⟨rfl,hf,rfl⟩
 |q::es,t,hf,h=>by
  have hq:=h q bE;obtain⟨a,b,c⟩:=OS hc (es:=es) (t:=vh ls cm t q.2 q.1) (DD hf hq) λx m=>by rw[vL];exact h x (bH _ m)
  refine⟨?_,b,c.trans (vL _ _ _)⟩;show tb (wx ls cm (vh ls cm t q.2 q.1) es)=U8 ls (wu ls (tb t) q.1 q.2) es;rw[a,VC hc hf hq]
  rfl
theorem Xm (t:dX)(q:Nat×Nat)(es:List (Nat×Nat)):tm ls cm t (q::es)=vh ls cm (tm ls cm t es) q.1 q.2:=by
 unfold tm;rw[List.reverse_cons,rT]
 rfl
theorem OW (hc:Cm ls cm):∀ {es:List (Nat×Nat)} {t:dX},jS ls t->(∀ q∈es,q.1<t.length)->tb (tm ls cm t es)=W0 ls (tb t) es/\jS ls (tm ls cm t es)/\(tm ls cm t es).length=t.length
 |[],t,hf,_=>⟨rfl,hf,rfl⟩
 |q::es,t,hf,h=>by
  obtain⟨a,b,c⟩:=OW hc hf λx m=>h x (bH _ m)
  have hq:q.1<(tm ls cm t es).length:=by rw[c];exact h q bE
  rw[Xm,KM];refine⟨?_,DD b hq,(vL _ _ _).trans c⟩;rw[VC hc b hq,a]
  rfl
theorem JQ {t:dX}(hk:k<t.length)(i:Nat):((vh ls cm t k j).getD i []).Sublist (t.getD i []):=by
 unfold vh;rw[EI hk];by_cases h:i=k
 .subst h;rw[if_pos rfl];exact Ass
 .rw[if_neg h];exact Js _
theorem Zq (hc:Cm ls cm){t t2:dX}{es:List (Nat×Nat)}(hf:jS ls t)(E:uW ls (λk=>k<t.length) es R)(l2:t2.length=t.length)
  (h1:∀ k,R k->∀ r,r∈t2.getD k []↔Gd ls R (tb (wx ls cm t es)) k r) (h2:∀ k,¬ R k->t2.getD k []=(wx ls cm t es).getD k []) :
  ∀ k,k<t.length->∀ r,r∈(tm ls cm t2 es).getD k []↔Gd ls (λk=>k<t.length) (tb t) k r:=by
 obtain⟨s1,s2⟩:=tH E;obtain⟨a,b,c⟩:=OS hc hf λq m=>(s2 q m).2
 have f2:jS ls t2:=λk r m=>by
  by_cases q:R k
  .obtain⟨v,_,e⟩:=(h1 k q r).1 m;exact⟨v,e⟩
  .rw[h2 k q] at m;exact b k r m
 obtain⟨a2,_,_⟩:=OW hc f2 λq m=>by rw[l2];exact(s2 q m).1
 intro k hk r;have:=Cw (Tn:=tb t2) E (λk q r=>by rw[<-a];exact h1 k q r) (λk q=>by
  rw[<-a];funext r;show(r∈t2.getD k [])=(r∈(wx ls cm t es).getD k []);rw[h2 k q]) k hk r
 rw[<-a2] at this;exact this
end
end L2
namespace J2
variable {Z:Type}(N:Nat->Z->Prop)
def Co (S:Nat->Prop)(k j:Nat):Prop:=∀ z,N k z->N j z\/∀ o,S o->o≠k->¬ N o z
def rm (S:Nat->Prop)(k:Nat):Nat->Prop:=λo=>S o/\o≠k
def P:Nat->(Nat->Prop)->Prop
 |0,S=>∀ a b,S a->S b->a=b
 |n+1,S=>(∀ a b,S a->S b->a=b)\/∃ k p,S k/\S p/\p≠k/\Co N S k p/\P n (rm S k)
theorem Gk (S:Nat->Prop)(a b:Nat):rm (rm S a) b=rm (rm S b) a:=by
 funext o;unfold rm;apply propext
 grind
def sw (S:Nat->Prop)(a b:Nat):Nat->Prop:=λo=>o=b\/(S o/\o≠a)
theorem Mt {S:Nat->Prop}{a b k:Nat}(hb:¬ S b)(ha:S a)(hk:k≠a)(sk:S k):rm (sw S a b) k=sw (rm S k) a b:=by
 have:k≠b:=λe=>hb (e ▸ sk)
 funext o;unfold rm sw;apply propext
 grind
theorem twin:∀ (n:Nat) {S:Nat->Prop} {a b:Nat},S a->¬ S b->(∀ o z,S o->o≠a->N o z->(N a z↔N b z))->P N n S->P N n (sw S a b)
 |0,S,a,b,ha,hb,ht,h=>by
  intro x y hx hy;have:∀ w,sw S a b w->w=b:=λw hw=>by
   rcases hw with e|⟨sw,nw⟩
   .exact e
   .exact absurd (h w a sw ha) nw
  rw[this x hx,this y hy]
 |n+1,S,a,b,ha,hb,ht,h=>by
  rcases h with h|⟨k,p,sk,sp,ne,hc,hp⟩
  .refine .inl λx y hx hy=>?_
   have:∀ w,sw S a b w->w=b:=λw hw=>by
    rcases hw with e|⟨sw,nw⟩
    .exact e
    .exact absurd (h w a sw ha) nw
   rw[this x hx,this y hy]
  .right;by_cases qk:k=a
   .subst qk;refine⟨b,p,.inl rfl,.inr ⟨sp,ne⟩,λe=>hb (e ▸ sp),?_,?_⟩
    .intro z hz;by_cases q:∃ o,S o/\o≠k/\N o z
     .obtain⟨o,so,no,oz⟩:=q;rcases hc z ((ht o z so no oz).2 hz) with h|h
      .exact .inl h
      .exact absurd oz (h o so no)
     .refine .inr λo so no oz=>?_
      rcases so with e|⟨so,no'⟩
      .exact no e
      .exact q ⟨o,so,no',oz⟩
    .have:rm (sw S k b) b=rm S k:=by
      funext o;unfold rm sw;apply propext
      grind
     rw[this];exact hp
   .have hkb:k≠b:=λe=>hb (e ▸ sk)
    have jh:=twin n ⟨ha,λe=>qk e.symm⟩ (λh=>hb h.1) (λo z so no oz=>ht o z so.1 no oz) hp
    rw[<-Mt hb ha qk sk] at jh;by_cases qp:p=a
    .subst qp;refine⟨k,b,.inr ⟨sk,qk⟩,.inl rfl,λe=>hkb e.symm,?_,jh⟩
     intro z hz;rcases hc z hz with h|h
     .exact .inl ((ht k z sk qk hz).1 h)
     .by_cases q:N b z
      .exact .inl q
      .refine .inr λo so no oz=>?_
       rcases so with rfl|⟨so,_⟩
       .exact q oz
       .exact h o so no oz
    .refine⟨k,p,.inr ⟨sk,qk⟩,.inr ⟨sp,qp⟩,ne,?_,jh⟩;intro z hz;rcases hc z hz with h|h
     .exact .inl h
     .refine .inr λo so no oz=>?_
      rcases so with rfl|⟨so,_⟩
      .exact h a ha (λe=>qk e.symm) ((ht k z sk qk hz).2 oz)
      .exact h o so no oz
theorem HS:∀ (n:Nat) {S:Nat->Prop},P N n S->P N (n+1) S
 |0,S,h=>.inl h
 |n+1,S,h=>by
  rcases h with h|⟨k,p,sk,sp,ne,hc,hp⟩
  .exact .inl h
  .exact .inr ⟨k,p,sk,sp,ne,hc,HS n hp⟩
theorem Bht:∀ (n:Nat) {S:Nat->Prop} {k p:Nat},S k->S p->p≠k->Co N S k p->P N n S->P N n (rm S k)
 |0,S,k,p,sk,sp,ne,hc,h=>absurd (h p k sp sk) ne
 |n+1,S,k,p,sk,sp,ne,hc,h=>by
  rcases h with h|⟨k1,p1,sk1,sp1,ne1,qd,zv⟩
  .exact absurd (h p k sp sk) ne
  by_cases q:k1=k
  .subst q;exact HS N n zv
  by_cases q1:p=k1
  .by_cases q2:p1=k
   ·
    subst q1;subst q2;have tw:=twin N n ⟨sk,λe=>ne e.symm⟩ (λh=>h.2 rfl) (λo z so no oz=>?_) zv
    .have:sw (rm S p) p1 p=rm S p1:=by
      funext o;unfold rm sw;apply propext
      grind
     rw[this] at tw;exact HS N n tw
    .rw[23]
     .intro hz;rcases hc z hz with h|h
      .exact h
      .exact absurd oz (h o so.1 no)
     .intro hz;rcases qd z hz with h|h
      .exact h
      .exact absurd oz (h o so.1 so.2)
   .subst q1;have c':Co N (rm S p) k p1:=λz hz=>by
     rcases hc z hz with h|h
     .rcases qd z h with h'|h'
      .exact .inl h'
      .exact absurd hz (h' k sk (λe=>q e.symm))
     .exact .inr λo so no=>h o so.1 no
    have ih:=Bht n ⟨sk,λe=>q e.symm⟩ ⟨sp1,ne1⟩ q2 c' zv
    rw[Gk] at ih;refine .inr ⟨p,p1,⟨sp,ne⟩,⟨sp1,q2⟩,ne1,λz hz=>?_,ih⟩
    rcases qd z hz with h|h
    .exact .inl h
    .exact .inr λo so no=>h o so.1 no
  .have c':Co N (rm S k1) k p:=λz hz=>by
    rcases hc z hz with h|h
    .exact .inl h
    .exact .inr λo so no=>h o so.1 no
   have ih:=Bht n ⟨sk,λe=>q e.symm⟩ ⟨sp,q1⟩ ne c' zv
   rw[Gk] at ih;by_cases q2:p1=k
   .subst q2;refine .inr ⟨k1,p,⟨sk1,q⟩,⟨sp,ne⟩,q1,λz hz=>?_,ih⟩
    rcases qd z hz with h|h
    .rcases hc z h with h'|h'
     .exact .inl h'
     .exact absurd hz (h' k1 sk1 q)
    .exact .inr λo so no=>h o so.1 no
   .refine .inr ⟨k1,p1,⟨sk1,q⟩,⟨sp1,q2⟩,ne1,λz hz=>?_,ih⟩
    rcases qd z hz with h|h
    .exact .inl h
    .exact .inr λo so no=>h o so.1 no
theorem Bf7 {n:Nat}{S:Nat->Prop}(h:P N n S)(hs:∀ k p,S k->S p->p≠k->¬ Co N S k p):∀ a b,S a->S b->a=b:=by
 cases n with
 |zero=>exact h
 |succ n=>
  rcases h with h|⟨k,p,sk,sp,ne,hc,_⟩
  .exact h
  .exact absurd hc (hs k p sk sp ne)
end J2
namespace Aw
open PySem L2
variable {n i k j m:Nat}{f g:EF}{Y:aU}{d:aA}{ls:List Ln}{ds:List aA}{l a b:Ln}{z x qual:aE}{L s:List Nat}{ks:List aI}{kds:List (aA×aA)}{B:aE->List (List Int)}{wd:aE->Nat}{r ns:List Int}{zs ps T:List aE}{R:List (List Int)}{v:aE->Int}{C:Nat->Int}{ss:List (List Nat)}{K:aJ}{st:bS}
theorem evA(h:f (vA Y)=aa d)(hf:gE n d=af):eV n .a f Y=aa d:=by
 show((f (vA Y)).bind λd=>if gE n d=af then aa d else ae)=_
 rw[h,bM,if_pos hf]
def gQ (l:Ln):Prop:=l.2.length<=6/\∀ k∈l.2,cM (kD k)=af
abbrev lN (cs:List Nat):aA:=.list (cs.map λ(c:Nat)=>aT c)
abbrev az (ls:List Ln):aA:=.tuple (ls.map bC)
abbrev lK (ks:List aI):aA:=.list (ks.map kD)
abbrev lZ (zs:List aE):aA:=.list (zs.map dP)
theorem uZ (cs:List Nat):cJ [lN cs]=aa (.int cs.length):=by simp[cJ]
theorem Lo {cs:List Nat}(h:i<cs.length):∃ c∈cs,ar (lN cs) (.int i)=aa (.int c):=⟨cs[i],lQ h,DU (q:=λ(c:Nat)=>aT c) (fO h)⟩
def Ld:aI->Option aE
 |.inr z=>aa z
 |.inl _=>ae
def eX (ks:List aI):List aE:=ks.filterMap Ld
def eK (ls:List (aE×List aI)):List aE:=jT (ls.flatMap λl=>eX l.2)
def kt (z:aE):aA×aA:=(.str z,.bool af)
theorem Of (ak:List aE)(z:aE):((ak.map kt).any λkd=>decide (bR kd.1=aa (.inr z)))=decide (z∈ak):=by
 induction ak with
 |nil=>rfl
 |cons y r ih=>
  rw[dB,xP,ih];have:bR (kt y).1=aa (.inr y):=rfl;rw[this];by_cases h:z=y
  .subst h;simp
  .have h':¬ y=z:=λe=>h e.symm
   simp[h,h']
theorem Sg (ak:List aE)(z:aE):putD (ak.map kt) (.inr z) (.bool af)=(eP ak z).map kt:=by
 unfold putD eP;rw[Of];by_cases h:z∈ak
 .rw[if_pos (by simpa using h),if_pos h,dS]
  refine nN λy _=>?_
  show(if bR (kt y).1=aa (.inr z) then((kt y).1,jO af) else kt y)=kt y
  split<;>rfl
 .rw[if_neg (by simpa using h),if_neg h,qF]
  rfl
def gN (ak:List aE)(k:aI):List aE:=match k with
 |.inr z=>eP ak z
 |.inl _=>ak
theorem IJ:∀ (ks:List aI) (ak:List aE),ks.foldl gN ak=(eX ks).foldl eP ak
 |[],_=>rfl
 |.inl i::ks,ak=>IJ ks ak
 |.inr z::ks,ak=>IJ ks (eP ak z)
theorem Pr (ak:List aE)(k:aI):(gN ak k).length<=ak.length+1:=by
 cases k with
 |inl i=>exact rP _
 |inr z=>exact YC ak z
theorem Qh {ak:List aE}{k:aI}(h:∀ z∈ak,cM (.str z)=af)(hk:cM (kD k)=af):∀ z∈gN ak k,cM (.str z)=af:=by
 cases k with
 |inl i=>exact h
 |inr z=>exact λy m=>(Azj.1 m).elim (h y) λe=>e ▸ hk
theorem KP {ls:List (aE×List aI)}(h:∀ l∈ls,gQ l)(hn:ls.length<=100):rF [.tuple (ls.map bC)]=aa (.list ((eK ls).map dP)):=by
 have:∃ d,rF [.tuple (ls.map bC)]=aa d/\d=.list ((eK ls).map dP):=by
  rw[12];refine cR rfl (by simp) ?_
  refine fM (λρ'=>∃ x2 x3:L2.Slot,(∀ z∈eK ls,cM (.str z)=af)/\ρ'=[s0 (.tuple (ls.map bC)),aa (1,.dict ((eK ls).map kt)),x2,x3]) ?_ ?_
  .refine pL (b0:=[]) (λak l=>l.2.foldl gN ak) (λi ak ρ'=>∃ x2 x3:L2.Slot,ak.length<=6*i/\(∀ z∈ak,cM (.str z)=af)/\ρ'=[s0 (.tuple (ls.map bC)),aa (1,.dict (ak.map kt)),x2,x3]) (ju (rB rfl)) ⟨ae,ae,bD _,λ_ m=>by simp at m,rfl⟩ ?_ ?_
   .rintro i l ak _ hx ⟨x2,x3,ha,hy,rfl⟩;have hl:=h l (eU hx);have hi:=(cX.1 hx).1;refine⟨[s0 (.tuple (ls.map bC)),aa (1,.dict (ak.map kt)),s0 (bC l),x3],rfl,?_⟩;refine pL (xs:=l.2) (q:=kD) gN (λj cy ρ'=>∃ x3:L2.Slot,cy.length<=6*i+j/\(∀ z∈cy,cM (.str z)=af)/\ρ'=[s0 (.tuple (ls.map bC)),aa (1,.dict (cy.map kt)),s0 (bC l),x3]) (ju (rB (by simp[vS,ai,aB,eC,bC,ar,mn,qh]))) ⟨x3,ha,hy,rfl⟩ ?_ ?_
    .rintro j k cy _ hk ⟨x3,ha',sr,rfl⟩;have hj:=(cX.1 hk).1;have h6:=hl.1;refine⟨[s0 (.tuple (ls.map bC)),aa (1,.dict (cy.map kt)),s0 (bC l),s0 (kD k)],rfl,?_⟩;have g1:=Pr cy k;have g2:=Qh sr (hl.2 k (eU hk));cases k with
     |inl v=>exact mT (by simp[bV,vS,iq,aB,aw,tj,eA,kI,wy,kD]) (oC ⟨_,.inl rfl,_,by omega,g2,rfl⟩)
     |inr z=>
      refine jU (by simp[bV,vS,iq,aB,aw,tj,eA,kI,wy,kD]) (Fe rfl rfl rfl rfl (by simp;omega) ⟨_,.inl rfl,s0 (.str z),by omega,g2,?_⟩)
      rw[Sg]
      rfl
    .rintro _ ⟨x3,ha',sr,rfl⟩;have h6:=hl.1;exact⟨_,.inl rfl,_,_,by omega,sr,rfl⟩
   .rintro _ ⟨x2,x3,ha,hy,rfl⟩;have e:ls.foldl (λak l=>l.2.foldl gN ak) []=eK ls:=by
     unfold eK jT;rw[List.foldl_flatMap]
     congr 1
     funext ak l;exact IJ l.2 ak
    rw[e] at hy ⊢;exact⟨_,rfl,x2,x3,hy,rfl⟩
  rintro _ ⟨x2,x3,hy,rfl⟩;refine qZ (dQ (aZ rfl ?_) ⟨_,rfl,rfl⟩);have hp:jg ((eK ls).map kt)=af:=CS λkd m=>by
   obtain⟨z,_,rfl⟩:=bL.1 m;exact λq=>nomatch q
  show(if (jg ((eK ls).map kt)&&((eK ls).map kt).all (λkd=>cM kd.1))=af then aa (oP (((eK ls).map kt).map (·.1))) else ae)=_
  rw[hp,BW,if_pos (dW.2 λkd m=>by
   obtain⟨z,mz,rfl⟩:=bL.1 m;exact hy z mz),dS]
  rfl
 rw[2]
theorem Gr (y z:aE):bX (.str y) (.str z)=decide (y=z):=by
 rw[show bX (.str y) (.str z)=(y==z) by simp[bX],lV]
 simp
theorem Ul (zs:List aE)(z:aE):((zs.map dP).any λd=>bX d (.str z))=decide (z∈zs):=by
 rw[List.any_map,lV];simp[Gr]
theorem Zg (zs:List aE):noDicts (zs.map dP)=af:=zS λt m=>by
 obtain⟨z,_,rfl⟩:=bL.1 m
 rfl
theorem Rj (neg:Bool)(zs:List aE)(z:aE):pv neg (.str z) (.list (zs.map dP))=aa (.bool (neg != decide (z∈zs))):=by
 show(if (cU (.str z)&&noDicts (zs.map dP))=af then aa (jO (neg != (zs.map dP).any λd=>bX d (.str z))) else ae)=_
 rw[Zg,Ul,show cU (.str z)=af from rfl,SH,if_pos rfl]
theorem any_keys (ks:List aI)(z:aE):((ks.map kD).any λd=>bX d (.str z))=decide (z∈eX ks):=by
 induction ks with
 |nil=>rfl
 |cons k r ih=>
  rw[dB,xP,ih];cases k with
  |inl i=>
   have:bX (kD (.inl i)) (.str z)=ag:=by simp[kD,bX]
   rw[this]
   rfl
  |inr y=>
   have:bX (kD (.inr y)) (.str z)=decide (y=z):=Gr y z;rw[this];show(decide (y=z)||decide (z∈eX r))=decide (z∈y::eX r);by_cases e:y=z
   .subst e;simp
   .have e':¬ z=y:=λq=>e q.symm
    simp[e,e']
theorem IV (z:aE)(ks:List aI):pv ag (.str z) (.tuple (ks.map kD))=aa (.bool (decide (z∈eX ks))):=by
 show(if (cU (.str z)&&noDicts (ks.map kD))=af then aa (jO (ag != (ks.map kD).any λd=>bX d (.str z))) else ae)=_
 rw[e8,any_keys,show cU (.str z)=af from rfl,SH,if_pos rfl]
 simp
def pF (ls:List (aE×List aI))(k:Nat):List (aE×List aI):=ls.take k++ls.drop (k+1)
def JO (ls:List (aE×List aI))(k:Nat)(l:aE×List aI):List aE:=(eK [l]).filter λz=>decide (z∈eK (pF ls k))
theorem JR{lo hi:OF}{Y:List (Option aA)}{l u:Option Int}(e1:f Y=aa (.tuple ds))(e2:lo Y=aa l)(e3:hi Y=aa u):qO f lo hi Y=aa (.tuple (cutD ds l u)):=by
 unfold qO;rw[e1,bM,e2,bM,e3,bM]
theorem Yd(k:Nat)(h:k<=ds.length):cutD ds (aa (k:Int)) ae=ds.drop k:=by
 unfold cutD;rw[HT.Axq,HT.Aqo,QV h];exact List.take_of_length_le (by simp)
theorem B4 {ls:List (aE×List aI)}(h:∀ l∈ls,gQ l)(hn:ls.length<=50){l:aE×List aI}(hk:ls[k]?=aa l):zH [.tuple (ls.map bC),.int k]=aa (.list ((JO ls k l).map dP)):=by
 have bz:=(cX.1 hk).1;have hrl:(pF ls k).length<=100:=by
  unfold pF;rw[oU,oT,Jk];omega
 have:∃ d,zH [.tuple (ls.map bC),.int k]=aa d/\d=.list ((JO ls k l).map dP):=by
  rw[12];have er:=KP (λx m=>h x (by
   rcases iC.1 m with m|m
   .exact Jg m
   .exact List.mem_of_mem_drop m)) hrl
  have el:=KP (λx m=>by rw[cB.1 m];exact h l (eU hk)) (by simp)
  refine cR (aZ (aY (aP (a:=.tuple ((ls.take k).map bC)) (b:=.tuple ((ls.drop (k+1)).map bC)) ?_ ?_ ?_) rfl) er) (by simp) ?_
  .have:=JR (f:=aB 0) (lo:=oN) (hi:=oS (aB 1)) (Y:=vS [s0 (.tuple (ls.map bC)),s0 (.int k),ae]) rfl rfl rfl;rw[Pl (by simpa using oQ bz),<-List.map_take] at this
   exact this
  .have:=JR (f:=aB 0) (lo:=oS (ai dC (aB 1) (eC (.int 1)))) (hi:=oN) (Y:=vS [s0 (.tuple (ls.map bC)),s0 (.int k),ae]) (l:=aa ((k+1:Nat):Int)) rfl rfl rfl;rw[Yd _ (by simp;omega),<-List.map_drop] at this
   exact this
  .show(if ((ls.take k).map bC).length+((ls.drop (k+1)).map bC).length<=sizeLine then aa (cL ((ls.take k).map bC++(ls.drop (k+1)).map bC)) else ae)=_
   rw[if_pos (rE (by simp;omega)),<-qF]
   rfl
  refine dQ ?_ ⟨_,rfl,rfl⟩;refine iK (λz=>decide (z∈eK (pF ls k))) dP (fX (aZ ?_ el)) ?_ λz _=>?_
  .have:ar (.tuple (ls.map bC)) (.int k)=aa (bC l):=DP (by rw[eE,hk];rfl)
   refine aY ?_ rfl;have h2:(1:Nat)<=sizeLine:=rE (by omega)
   unfold iR;rw[aY (aP rfl rfl this) rfl];simp[h2]
  .have:(eK [l]).length<=6:=by
    have h1:=FF (eX l.2) [];have h2:(eX l.2).length<=l.2.length:=xI _ _;have h3:=(h l (eU hk)).1;have e:eK [l]=(eX l.2).foldl eP []:=by
     unfold eK jT;simp
    rw[e];simp at h1;omega
   omega
  .refine⟨[aa (.str z),aa (.list ((eK (pF ls k)).map dP))],rfl,?_,λ_=>rfl⟩
   have:=Rj ag (eK (pF ls k)) z;simp[eV,bV,aV,vS,ai,iq,aB,eC,aN,fP,aG,aK,aw,tj,bj,itemsOf,dC,pK,fK,cY,fL,yu,xg,yj,xh,cJ,eA,kI,wy,qg,cU,noDict,noDicts,jN,cP,bX,this]
 rw[2]
theorem Ajl {ls:List (aE×List aI)}:z∈eK ls ↔ ∃ l∈ls,z∈eX l.2:=by
 unfold eK;rw[Ad8,RF]
theorem Ayo {ls:List (aE×List aI)}{l:aE×List aI}:l∈pF ls k ↔ ∃ j,j≠k/\ls[j]?=aa l:=by
 unfold pF;rw[iC,GW,GW];rw[23]
 .rintro(⟨j,hj⟩|⟨j,hj⟩)
  .rw[List.getElem?_take] at hj;by_cases h:j<k
   .rw[if_pos h] at hj;exact⟨j,by omega,hj⟩
   .rw[if_neg h] at hj;cases hj
  .rw[Jl] at hj;exact⟨_,by omega,hj⟩
 .rintro⟨j,gg,hj⟩;by_cases h:j<k
  .exact .inl ⟨j,by rw[List.getElem?_take,if_pos h];exact hj⟩
  .exact .inr ⟨j-(k+1),by rw[Jl,show k+1+(j-(k+1))=j by omega];exact hj⟩
theorem mB(h:i<ls.length):ar (az ls) (.int i)=aa (bC (ls.getD i bo)):=DP (by rw[eE,getD_some bo h];rfl)
def xj (ls:List Ln)(i:Nat):List aE:=eX (ls.getD i bo).2
def uM (ls:List Ln)(L:List Nat)(k j:Nat):Prop:=∀ z∈xj ls k,z∈xj ls j\/∀ o∈L,o≠k->z∉xj ls o
instance (ls:List Ln)(L:List Nat)(k j:Nat):Decidable (uM ls L k j):=by unfold uM;infer_instance
def gX (ls:List Ln)(L:List Nat)(k j:Nat):Bool:=decide (j≠k)&&decide (uM ls L k j)
def jW (p:Nat×Nat):aA:=.tuple [.int p.1,.int p.2]
def sO:Option (Nat×Nat)->aA
 |none=>.none
 |some p=>jW p
def gD (ls:List Ln)(L:List Nat):Option (Nat×Nat):=L.findSome? λk=>(L.find? (gX ls L k)).map λj=>(k,j)
theorem nen (a b:Nat):ir (.int a) (.int b)=aa (.bool (decide (a≠b))):=by
 rw[ne_int]
 congr 2
 rw[lV];simp;omega
theorem Oc(h:k∈L):∃ i:Nat,L[i]?=aa k/\JH (lN L) (.int k)=aa (.int i):=by
 have e1:∀ xs:List Nat,mW (xs.map λ(c:Nat)=>aT c)=aa (xs.map λ(c:Nat)=>(.inl (c:Int):aI)):=λxs=>by
  induction xs with
  |nil=>rfl
  |cons x xs ih=>
   show((bR (.int (x:Int))).bind λk=>(mW (xs.map λ(c:Nat)=>aT c)).bind λks=>aa (k::ks))=_
   rw[ih]
   rfl
 obtain⟨i,hi⟩:∃ i,vg (L.map λ(c:Nat)=>(.inl (c:Int):aI)) (.inl (k:Int))=aa i:=by
  unfold vg;cases e:(L.map λ(c:Nat)=>(.inl (c:Int):aI)).findIdx? λy=>decide (y=.inl (k:Int)) with
  |some i=>exact⟨i,rfl⟩
  |none=>
   have:=O9.1 e (.inl (k:Int)) (bL.2 ⟨k,h,rfl⟩);simp at this
 refine⟨i,?_,?_⟩
 .have:=(YN hi).1;rw[eE] at this;obtain⟨x,ex,e⟩:=fZ.1 this;have:x=k:=by
   have:(x:Int)=k:=by injection e
   omega
  rw[ex,this]
 .show((mW (L.map λ(c:Nat)=>aT c)).bind λks=>(bR (.int (k:Int))).bind λk=>(vg ks k).bind λj=>aa (aT j))=_
  rw[e1,bM];show((vg _ (.inl (k:Int))).bind λj=>aa (aT j))=_
  rw[hi]
  rfl
theorem B5(nd:L.Nodup)(h1:L[i]?=aa k)(h2:L[j]?=aa k):i=j:=by
 obtain⟨a1,a2⟩:=cX.1 h1;obtain⟨b1,b2⟩:=cX.1 h2;have pw:=RD.1 nd;rcases BJ i j with h|h|h
 .exact absurd (a2.trans b2.symm) (pw i j a1 b1 h)
 .exact h
 .exact absurd (b2.trans a2.symm) (pw j i b1 a1 h)
theorem Fz {α:Type}(g:α->Bool):∀ xs:List α,sA (xs.map λx=>jO (g x))=aa (xs.map g)
 |[]=>rfl
 |x::xs=>by
  show((sA (xs.map λx=>jO (g x))).bind λbs=>aa (g x::bs))=_
  rw[Fz g xs]
  rfl
theorem t8(ho:∀ l∈ls,gQ l)(hL:∀ o∈L,o<ls.length)(nd:L.Nodup)(hl:L.length<=50)(hk:k∈L):AA [az ls,lN L,.int k]=aa (match L.find? (gX ls L k) with|some j=>.int j|none=>.none):=by
 have:∃ d,AA [az ls,lN L,.int k]=aa d/\d=(match L.find? (gX ls L k) with|some j=>.int j|none=>.none):=by
  rw[12]
  let sub:List Ln:=L.map λj=>ls.getD j bo
  obtain⟨i,hi,ei⟩:=Oc hk;have cw:∀ l∈sub,gQ l:=λl m=>by
   obtain⟨j,mj,rfl⟩:=bL.1 m;exact ho _ (getD_mem bo (hL j mj))
  have hsi:sub[i]?=aa (ls.getD k bo):=by
   rw[eE,hi]
   rfl
  have es:=B4 cw (by show(L.map _).length<=50;simpa using hl) hsi
  let W:List aE:=JO sub i (ls.getD k bo)
  have lc:ip [ae,aa 0] (bj (aB 1)) (gB 0) cZ (ai ar (aB 1) (aB 0)) (vS [s0 (az ls),s0 (lN L),s0 (.int k),ae,ae])=aa (.list (sub.map bC)):=by
   have:=iK (cap:=[ae,aa 0]) (fi:=bj (aB 1)) (T:=gB 0) (t:=cZ) (f:=ai ar (aB 1) (aB 0)) (Y:=vS [s0 (az ls),s0 (lN L),s0 (.int k),ae,ae]) (λ_=>af) (λj=>bC (ls.getD j bo)) (fX rfl) (by omega) λj mj=>⟨[aa (.int j),aa (az ls)],rfl,rfl,λ_=>aP rfl rfl (mB (hL j mj))⟩
   rw[this,mK.2 (by simp)]
   rw[dS]
   rfl
  refine cR (aZ (aY (aZ (aY lc rfl) rfl) (aY (aP rfl rfl ei) rfl)) es) (by simp) ?_
  have memW:∀ z,z∈W↔z∈xj ls k/\∃ o∈L,o≠k/\z∈xj ls o:=λz=>by
   show z∈(eK [ls.getD k bo]).filter (λz=>decide (z∈eK (pF sub i)))↔_
   rw[uF,Ajl];rw[23]
   .rintro⟨⟨l,ml,hz⟩,h2⟩;rw[cB.1 ml] at hz;refine⟨hz,?_⟩;obtain⟨l',ml',WF⟩:=Ajl.1 (of_decide_eq_true h2);obtain⟨j,hj,ej⟩:=Ayo.1 ml';have ej:=ej;rw[eE] at ej;obtain⟨o,eo,rfl⟩:=fZ.1 ej;refine⟨o,eU eo,λq=>hj ?_,WF⟩
    exact B5 nd (by rw[<-q];exact eo) hi
   .rintro⟨hz,o,mo,ne,WF⟩;refine⟨⟨_,cB.2 rfl,hz⟩,decide_eq_true (Ajl.2 ⟨ls.getD o bo,Ayo.2 ?_,WF⟩)⟩;obtain⟨j,hj,ej⟩:=rS mo;refine⟨j,λq=>ne ?_,?_⟩
    .obtain⟨b1,b2⟩:=cX.1 hi;subst q;rw[<-ej,b2]
    .rw[eE,fO hj,ej]
     rfl
  have hWl:W.length<=100:=by
   have h1:W.length<=(eK [ls.getD k bo]).length:=RI _ _;have h2:=FF (eX (ls.getD k bo).2) [];have h3:(eX (ls.getD k bo).2).length<=(ls.getD k bo).2.length:=xI _ _;have h4:=(ho _ (getD_mem bo (hL k hk))).1;have e:eK [ls.getD k bo]=(eX (ls.getD k bo).2).foldl eP []:=by
    unfold eK jT;simp
   rw[e] at h1;simp only[List.length_nil,Nat.zero_add] at h2;omega
  let A:L2.Slot:=s0 (az ls)
  let B:L2.Slot:=s0 (lN L)
  let C:L2.Slot:=s0 (.int k)
  let E:L2.Slot:=s0 (lZ W)
  refine Fm (λρ'=>∃ x4:L2.Slot,ρ'=[A,B,C,E,x4]) (L.findSome? λj=>if gX ls L k j=af then aa (.int j) else ae) (Ht (λρ'=>∃ x4:L2.Slot,ρ'=[A,B,C,E,x4]) _ (ju (fX rfl)) ⟨ae,rfl⟩ ?_) ?_ ?_
  .rintro j mj _ ⟨x4,rfl⟩;refine⟨[A,B,C,E,s0 (.int j)],rfl,?_⟩;have f1:ai ir (aB 4) (aB 2) (vS [A,B,C,E,s0 (.int j)])=aa (.bool (decide (j≠k))):=aP rfl rfl (nen j k);have lc2:=iK (cap:=[ae,aa 0,aa 4]) (fi:=bj (aB 3)) (T:=gB 0) (t:=cZ) (f:=ai (pv ag) (aB 0) (ai ar (ai ar (aB 1) (aB 2)) (eC (.int 1)))) (Y:=vS [A,B,C,E,s0 (.int j)]) (λ_=>af) (λz=>.bool (decide (z∈xj ls j))) (fX rfl) (by omega) λz mz=>⟨[aa (.str z),aa (az ls),aa (.int j)],rfl,rfl,λ_=>aP rfl (aP (aP rfl rfl (mB (hL j mj))) rfl rfl) (IV z _)⟩
   rw[mK.2 (by simp)] at lc2
   have f2:aN xW (aG (ip [ae,aa 0,aa 4] (bj (aB 3)) (gB 0) cZ (ai (pv ag) (aB 0) (ai ar (ai ar (aB 1) (aB 2)) (eC (.int 1))))) aK) (vS [A,B,C,E,s0 (.int j)])=aa (.bool (decide (uM ls L k j))):=by
    refine aZ (aY lc2 rfl) ?_;show((sA (W.map λz=>jO (decide (z∈xj ls j)))).bind λbs=>aa (jO (bs.all id)))=_
    rw[Fz,bM,List.all_map]
    congr 2
    rw[lV,dW,decide_eq_true_eq];rw[23]
    .intro h z mz;by_cases q:∃ o∈L,o≠k/\z∈xj ls o
     .exact .inl (of_decide_eq_true (h z ((memW z).2 ⟨mz,q⟩)))
     .exact .inr λo mo ne hz=>q ⟨o,mo,ne,hz⟩
    .intro h z mz;obtain⟨h1,o,mo,ne,hz⟩:=(memW z).1 mz;rcases h z h1 with q|q
     .exact decide_eq_true q
     .exact absurd hz (q o mo ne)
   have tb:bV .s (iS (aw (ai ir (aB 4) (aB 2))) (aw (aN xW (aG (ip [ae,aa 0,aa 4] (bj (aB 3)) (gB 0) cZ (ai (pv ag) (aB 0) (ai ar (ai ar (aB 1) (aB 2)) (eC (.int 1))))) aK)))) [A,B,C,E,s0 (.int j)]=aa (gX ls L k j):=by
    simp only[bV,iS,aw,f1,f2,bM,tj];unfold gX;cases decide (j≠k)<;>rfl
   cases hb:gX ls L k j with
   |true=>exact jU (tb.trans (by rw[hb])) (dQ rfl rfl)
   |false=>exact mT (tb.trans (by rw[hb])) (oC ⟨_,.inl rfl,_,rfl⟩)
  .intro r hr;refine⟨_,rfl,?_⟩;have:∀ xs:List Nat,(xs.findSome? λj=>if gX ls L k j=af then aa (aT j) else ae)=(xs.find? (gX ls L k)).map λ(j:Nat)=>aT j:=λxs=>by
    induction xs with
    |nil=>rfl
    |cons x xs ih=>
     rw[fF,GZ];cases gX ls L k x with
     |true=>rfl
     |false=>exact ih
   rw[this] at hr;obtain⟨j,e,rfl⟩:=fZ.1 hr;rw[e]
  .rintro hz _ ⟨x4,rfl⟩;refine dQ rfl ⟨_,rfl,?_⟩;have:∀ xs:List Nat,(xs.findSome? λj=>if gX ls L k j=af then aa (aT j) else ae)=(xs.find? (gX ls L k)).map λ(j:Nat)=>aT j:=λxs=>by
    induction xs with
    |nil=>rfl
    |cons x xs ih=>
     rw[fF,GZ];cases gX ls L k x with
     |true=>rfl
     |false=>exact ih
   rw[this] at hz;rw[QQ.1 hz]
 rw[2]
theorem Dy(ho:∀ l∈ls,gQ l)(hL:∀ o∈L,o<ls.length)(nd:L.Nodup)(hl:L.length<=50):nB [az ls,lN L]=aa (sO (gD ls L)):=by
 have:∃ d,nB [az ls,lN L]=aa d/\d=sO (gD ls L):=by
  rw[12]
  let A:L2.Slot:=s0 (az ls)
  let B:L2.Slot:=s0 (lN L)
  have key:(L.findSome? λk=>((L.find? (gX ls L k)).map λj=>jW (k,j)))=(gD ls L).map jW:=by
   unfold gD;rw[List.map_findSome?];refine Ew λk _=>?_
   show _=Option.map jW ((L.find? (gX ls L k)).map λj=>(k,j))
   rw[Option.map_map]
   rfl
  refine Fm (λρ'=>∃ x2 x3:L2.Slot,ρ'=[A,B,x2,x3]) (L.findSome? λk=>((L.find? (gX ls L k)).map λj=>jW (k,j))) (Ht (λρ'=>∃ x2 x3:L2.Slot,ρ'=[A,B,x2,x3]) _ (ju (fX rfl)) ⟨ae,ae,rfl⟩ ?_) ?_ ?_
  .rintro k mk _ ⟨x2,x3,rfl⟩;refine⟨[A,B,s0 (.int k),x3],rfl,?_⟩;have ep:=t8 ho hL nd hl mk;cases hf:L.find? (gX ls L k) with
   |none=>
    rw[hf] at ep;exact cR (aZ rfl ep) (by simp) (mT rfl (oC ⟨_,.inl rfl,_,_,rfl⟩))
   |some j=>
    rw[hf] at ep;exact cR (aZ rfl ep) (by simp) (jU rfl (dQ rfl rfl))
  .intro r hr;rw[key] at hr;obtain⟨p,e,rfl⟩:=fZ.1 hr;exact⟨_,rfl,by rw[e];rfl⟩
  .rintro hz _ ⟨x2,x3,rfl⟩;rw[key] at hz;exact dQ rfl ⟨_,rfl,by rw[QQ.1 hz];rfl⟩
 rw[2]
def jw (ls:List Ln):Nat->List Nat->List (Nat×Nat)×List Nat
 |0,L=>([],L)
 |n+1,L=>match gD ls L with
  |none=>([],L)
  |some p=>(p::(jw ls n (L.erase p.1)).1,(jw ls n (L.erase p.1)).2)
theorem EZ{p:Nat×Nat}(h:gD ls L=aa p):p.1∈L/\p.2∈L:=by
 unfold gD at h;obtain⟨k,mk,h⟩:=P5 h;obtain⟨j,hj,rfl⟩:=fZ.1 h;exact⟨mk,RE hj⟩
theorem Gp:∀ {n:Nat} {L:List Nat},L.length<=n->gD ls (jw ls n L).2=ae
 |0,L,h=>by
  have:L=[]:=Jj.1 (by omega)
  rw[19]
  rfl
 |n+1,L,h=>by
  unfold jw;cases hf:gD ls L with
  |none=>exact hf
  |some p=>
   refine Gp ?_;rw[Ji (EZ hf).1];omega
theorem Hr:∀ {n:Nat} {L:List Nat},(jw ls n L).1.length<=n/\(jw ls n L).2.length<=L.length
 |0,L=>⟨by simp[jw],bD _⟩
 |n+1,L=>by
  unfold jw;cases hf:gD ls L with
  |none=>exact⟨by simp,bD _⟩
  |some p=>
   obtain⟨h1,h2⟩:=Hr;have:=List.length_erase_le (a:=p.1) (l:=L);exact⟨by simp;omega,by show(jw ls n (L.erase p.1)).2.length<=L.length;omega⟩
theorem E7(h:k∈L):∃ i,vg (L.map λ(c:Nat)=>(.inl (c:Int):aI)) (.inl (k:Int))=aa i/\L.eraseIdx i=L.erase k:=by
 induction L with
 |nil=>simp at h
 |cons x xs ih=>
  by_cases q:x=k
  .subst q;exact⟨0,by simp[vg,List.findIdx?_cons],by simp⟩
  .have hm:k∈xs:=by
    rcases cO.1 h with e|m
    .exact absurd e.symm q
    .exact m
   obtain⟨i,e1,e2⟩:=ih hm;refine⟨i+1,?_,?_⟩
   .unfold vg at e1 ⊢;rw[dB,List.findIdx?_cons];have:decide ((.inl (x:Int):aI)=.inl (k:Int))=ag:=decide_eq_false λe=>q (by
     have:(x:Int)=k:=by injection e
     omega)
    rw[this];simp only[jC,if_false];rw[e1]
    rfl
   .rw[xN,e2,List.erase_cons_tail (by simpa using q)]
theorem UO:∀ xs:List Nat,mW (xs.map λ(c:Nat)=>aT c)=aa (xs.map λ(c:Nat)=>(.inl (c:Int):aI))
 |[]=>rfl
 |x::xs=>by
  show((bR (.int (x:Int))).bind λk=>(mW (xs.map λ(c:Nat)=>aT c)).bind λks=>aa (k::ks))=_
  rw[UO xs]
  rfl
theorem Od{P:Out->Prop}(h:f (vS Y)=aa (.int k))(hg:getL i Y=aa (L.map λ(c:Nat)=>aT c))(hk:k∈L)(kk:P (.nx (Y.set i (aa (1,lN (L.erase k)))))):Goes (oY i .s f) Y P:=by
 obtain⟨j,e1,e2⟩:=E7 hk;refine⟨_,?_,kk⟩;have e0:eV 0 .s f Y=aa (.int k):=h;unfold oY;rw[e0,bM,hg,bM,UO,bM];show((vg _ (.inl (k:Int))).bind λj=>aa (Out.nx (Y.set i (aa (1,.list ((L.map λ(c:Nat)=>aT c).eraseIdx j))))))=_
 rw[e1,bM];have:(L.map λ(c:Nat)=>aT c).eraseIdx j=(L.erase k).map λ(c:Nat)=>aT c:=by
  rw[<-e2];have go:∀ (xs:List Nat) (n:Nat),(xs.map λ(c:Nat)=>aT c).eraseIdx n=(xs.eraseIdx n).map λ(c:Nat)=>aT c:=by
   intro xs;induction xs with
   |nil=>intro n;simp
   |cons x xs ih=>
    intro n;cases n with
    |zero=>rfl
    |succ n=>rw[dB,xN,xN,dB,ih]
  exact go L j
 rw[this]
abbrev lP (ps:List (Nat×Nat)):aA:=.list (ps.map jW)
theorem Bs (t:Option (Nat×Nat)):gE 0 (sO t)=af:=by cases t<;>rfl
theorem Ga {ls:List Ln}(ho:∀ l∈ls,gQ l):∀ (n fuel:Nat) {L:List Nat} {ps:List (Nat×Nat)},L.length<=n->n<fuel->(∀ o∈L,o<ls.length)->L.Nodup->L.length<=50->ps.length+n<=100 ->
  ∃ x3,yy .s (aw (ai mR (aB 3) (eC .none))) (aW (iF 1 .s (aB 3)) (aW (oY 2 .s (ai ar (aB 3) (eC (.int 0)))) (bZ 3 0 .a (aN nB (aG (aB 0) (aG (aB 2) aK)))))) fuel [s0 (az ls),aa (1,lP ps),aa (1,lN L),s0 (sO (gD ls L))]
   = aa (.nx [s0 (az ls),aa (1,lP (ps++(jw ls n L).1)),aa (1,lN (jw ls n L).2),x3])
 |n,0,L,ps,_,hf,_,_,_,_=>by omega
 |0,fuel+1,L,ps,h0,_,_,_,_,_=>by
  have:L=[]:=Jj.1 (by omega)
  rw[19];refine⟨s0 (sO (gD ls [])),?_⟩;rw[show(jw ls 0 []).1=[] from rfl,qH]
  rfl
 |n+1,fuel+1,L,ps,hn,hf,hL,nd,hl,hp=>by
  unfold jw;cases hfe:gD ls L with
  |none=>
   refine⟨s0 (sO ae),?_⟩;rw[qH]
   rfl
  |some p=>
   obtain⟨m1,m2⟩:=EZ hfe;have nd':=nd.erase p.1;have hL':∀ o∈L.erase p.1,o<ls.length:=λo m=>hL o (List.mem_of_mem_erase m)
   have av:(L.erase p.1).length<=n:=by rw[Ji m1];omega
   have Q9:(L.erase p.1).length<=50:=by rw[Ji m1];omega
   obtain⟨x3,ih⟩:=Ga ho n fuel (ps:=ps++[p]) av (by omega) hL' nd' Q9 (by simp;omega)
   have body:Goes (aW (iF 1 .s (aB 3)) (aW (oY 2 .s (ai ar (aB 3) (eC (.int 0)))) (bZ 3 0 .a (aN nB (aG (aB 0) (aG (aB 2) aK)))))) [s0 (az ls),aa (1,lP ps),aa (1,lN L),s0 (jW p)]
     λo=>o=.nx [s0 (az ls),aa (1,lP (ps++[p])),aa (1,lN (L.erase p.1)),s0 (sO (gD ls (L.erase p.1)))]:=by
    refine fM (λρ'=>ρ'=[s0 (az ls),aa (1,lP (ps++[p])),aa (1,lN L),s0 (jW p)]) (tD rfl rfl (by simp;omega) ⟨_,rfl,by simp⟩) ?_
    rintro _ rfl;refine fM (λρ'=>ρ'=[s0 (az ls),aa (1,lP (ps++[p])),aa (1,lN (L.erase p.1)),s0 (jW p)]) (Od rfl rfl m1 ⟨_,rfl,rfl⟩) ?_
    rintro _ rfl;refine OR ?_ (by simp) rfl
    exact evA (aZ rfl (Dy ho hL' nd' Q9)) (Bs _)
   obtain⟨o,eo,rfl⟩:=body;refine⟨x3,?_⟩;show((aW (iF 1 .s (aB 3)) (aW (oY 2 .s (ai ar (aB 3) (eC (.int 0)))) (bZ 3 0 .a (aN nB (aG (aB 0) (aG (aB 2) aK))))) [s0 (az ls),aa (1,lP ps),aa (1,lN L),s0 (jW p)]).bind λo=>match o with
    |.nx ρ'=>yy .s (aw (ai mR (aB 3) (eC .none))) (aW (iF 1 .s (aB 3)) (aW (oY 2 .s (ai ar (aB 3) (eC (.int 0)))) (bZ 3 0 .a (aN nB (aG (aB 0) (aG (aB 2) aK)))))) fuel ρ'
    |.ct ρ'=>yy .s (aw (ai mR (aB 3) (eC .none))) (aW (iF 1 .s (aB 3)) (aW (oY 2 .s (ai ar (aB 3) (eC (.int 0)))) (bZ 3 0 .a (aN nB (aG (aB 0) (aG (aB 2) aK)))))) fuel ρ'
    |.bk ρ'=>aa (.nx ρ')
    | .rt d=>aa (.rt d))=_
   rw[eo,bM];show yy .s _ _ fuel _=_;rw[ih,Jr]
   rfl
def cC (ls:List Ln):List (Nat×Nat)×List Nat:=jw ls ls.length (cK ls.length)
theorem IY(ho:∀ l∈ls,gQ l)(hn:ls.length<=50):iI [az ls]=aa (.tuple [lP (cC ls).1,lN (cC ls).2]):=by
 have:∃ d,iI [az ls]=aa d/\d=.tuple [lP (cC ls).1,lN (cC ls).2]:=by
  rw[12];refine cR rfl (by simp) ?_
  refine cR (d:=lN (cK ls.length)) (aZ (aY (aZ rfl (by rw[JI,cD])) rfl) ?_) (by simp) ?_
  .show(if -4096<=(ls.length:Int)/\(ls.length:Int)<=4096 then aa (oP (L2.upTo (ls.length:Int).toNat)) else ae)=_
   rw[if_pos ⟨by omega,by omega⟩]
   rfl
  have hL:∀ o∈cK ls.length,o<ls.length:=λo m=>gW.1 m
  have nd:(cK ls.length).Nodup:=BO;have hl:(cK ls.length).length<=50:=by simpa using hn
  refine Uo (aZ rfl (Dy ho hL nd hl)) (Bs _) (by simp) ?_
  obtain⟨x3,e⟩:=Ga ho ls.length 100 (ps:=[]) (by simp) (by omega) hL nd hl (by simp;omega)
  refine gF e ?_;exact⟨_,rfl,_,rfl,rfl⟩
 rw[2]
theorem Av{p:Nat×Nat}(h:gD ls L=aa p):p.2≠p.1/\uM ls L p.1 p.2:=by
 unfold gD at h;obtain⟨k,mk,h⟩:=P5 h;obtain⟨j,hj,rfl⟩:=fZ.1 h;have:=HA hj;unfold gX at this;obtain⟨h1,h2⟩:=jQ.1 this;exact⟨of_decide_eq_true h1,of_decide_eq_true h2⟩
theorem Adn:z∈eX ks↔(.inr z:aI)∈ks:=by
 unfold eX;rw[rR];rw[23]
 .rintro⟨k,m,e⟩;cases k with
  |inl i=>cases e
  |inr y=>cases e;exact m
 .exact λm=>⟨_,m,rfl⟩
def gb (ls:List Ln):Nat->List aI:=λk=>(ls.getD k bo).2
theorem Gx:∀ {n:Nat} {L:List Nat},L.Nodup->uW (gb ls) (λk=>k∈L) (jw ls n L).1 (λk=>k∈(jw ls n L).2)
 |0,L,_=>λk=>Iff.rfl
 |n+1,L,nd=>by
  cases h:gD ls L with
  |none=>
   have e:jw ls (n+1) L=([],L):=by
    show(match gD ls L with|none=>([],L)|some p=>(p::(jw ls n (L.erase p.1)).1,(jw ls n (L.erase p.1)).2))=_
    rw[h]
   rw[e];exact λk=>Iff.rfl
  |some p=>
   have e:jw ls (n+1) L=(p::(jw ls n (L.erase p.1)).1,(jw ls n (L.erase p.1)).2):=by
    show(match gD ls L with|none=>([],L)|some p=>(p::(jw ls n (L.erase p.1)).1,(jw ls n (L.erase p.1)).2))=_
    rw[h]
   rw[e];obtain⟨m1,m2⟩:=EZ h;obtain⟨ne,cov⟩:=Av h;refine⟨⟨m1,m2,gV ne,λz mz k hk gg mzk=>?_⟩,?_⟩
   .rcases cov z (Adn.2 mz) with c|c
    .exact Adn.1 c
    .exact absurd (Adn.2 mzk) (c k hk gg)
   .have e2:less (λk=>k∈L) p.1=λk=>k∈L.erase p.1:=funext λk=>propext (by rw[nd.mem_erase_iff];exact And.comm)
    rw[e2];exact Gx (nd.erase _)
theorem EG (ls:List Ln):uW (gb ls) (λk=>k<ls.length) (cC ls).1 (λk=>k∈(cC ls).2):=by
 have:=Gx (ls:=ls) (n:=ls.length) (L:=cK ls.length) BO;have e:(λk=>k∈cK ls.length)=λk=>k<ls.length:=funext λk=>propext gW
 rw[e] at this;exact this
theorem JG (T:aA)(ks:List aI)(row:List Int)(kn:List (aE×Int))(hk:ks.length<=100)(hn:kn.length<=100):nY [.tuple [T,tK ks],tI row,.dict (DN kn)]=aa (TC (eY ks row kn)):=by
 have:∃ d,nY [.tuple [T,tK ks],tI row,.dict (DN kn)]=aa d/\d=TC (eY ks row kn):=by
  rw[12];have e1:bV .s (aw (ai ir (aN cJ (aG (aB 1) aK)) (aN cJ (aG (ai ar (aB 0) (eC (.int 1))) aK)))) [aa (0,.tuple [T,tK ks]),aa (0,tI row),aa (0,.dict (DN kn)),ae,ae,ae,ae]=aa (decide (row.length≠ks.length)):=eG (WJ rfl rfl);by_cases hl:row.length=ks.length
  .refine gF (kF (e1.trans (by simp[hl]))) ?_
   refine cR (aZ rfl (by show(if jg (DN kn)=af then aa (PyData.dict (DN kn)) else ae)=_;rw[plN];rfl)) (by simp) ?_
   have lz:(ks.zip row).length<=100:=by rw[xH];omega
   refine Ur (λbh ρ'=>∃ x4 x5 x6:L2.Slot,ρ'=[aa (0,.tuple [T,tK ks]),aa (0,tI row),aa (0,.dict (DN kn)),aa (1,.dict (DN bh)),x4,x5,x6]) .none (fS hX kn (ks.zip row)) (Ut (q:=IP) hX _ .none (ju ?_) ⟨ae,ae,ae,rfl⟩ ?_) ?_ ?_
   .show iZ (aG (ai ar (aB 0) (eC (.int 1))) (aG (aB 1) aK)) (vS [aa (0,.tuple [T,tK ks]),aa (0,tI row),aa (0,.dict (DN kn)),aa (1,.dict (DN kn)),ae,ae,ae])=_;unfold iZ;rw[show aG (ai ar (aB 0) (eC (.int 1))) (aG (aB 1) aK) (vS [aa (0,.tuple [T,tK ks]),aa (0,tI row),aa (0,.dict (DN kn)),aa (1,.dict (DN kn)),ae,ae,ae])=aa [tK ks,tI row] from rfl,<-YO]
    rfl
   .rintro pre p post bh _ wg hf ⟨x4,x5,x6,rfl⟩;have ur:bh.length<=1000:=by
     have h1:=KU hf;have h2:pre.length<=(ks.zip row).length:=by rw[wg];simp
     omega
    exact⟨[aa (0,.tuple [T,tK ks]),aa (0,tI row),aa (0,.dict (DN kn)),aa (1,.dict (DN bh)),aa (0,kD p.1),aa (0,.int p.2),x6],rfl,E2 _ _ _ bh ur p x6⟩
   .intro hf;refine⟨_,rfl,?_⟩;unfold eY;rw[if_pos hl,hf]
    rfl
   .rintro bh hf _ ⟨x4,x5,x6,rfl⟩;refine⟨_,rfl,_,rfl,?_⟩;unfold eY;rw[if_pos hl,hf]
    rfl
  .refine yW (jU (e1.trans (by simp[hl])) (dQ rfl ⟨_,rfl,_,rfl,?_⟩))
   unfold eY;rw[if_neg hl]
   rfl
 rw[2]
theorem Az(b:Bk kds B wd)(t:aE)(K:aA):nA [.dict kds,.tuple [.str t,K]]=aa (bA (B t)):=by
 have:∃ d,nA [.dict kds,.tuple [.str t,K]]=aa d/\d=bA (B t):=by
  refine dR rfl (dQ (b.get rfl rfl) ⟨_,rfl,rfl⟩)
 rw[2]
abbrev Kn:=List (aE×Int)
def gi (kn:Kn):aA:=.dict (DN kn)
def pA (ff:List Kn)(ks:List aI)(rows:List (List Int)):List Kn:=ff.flatMap λkn=>rows.filterMap λr=>eY ks r kn
theorem KN {α β:Type}(f:α->Option β):∀ (xs:List α) (ak:List β),xs.foldl (λa x=>a++(f x).toList) ak=ak++xs.filterMap f
 |[],ak=>by simp
 |x::xs,ak=>by
  rw[kT,KN f xs,RN];cases f x<;>simp
theorem Ak {α β:Type}(f:α->List β):∀ (xs:List α) (ak:List β),xs.foldl (λa x=>a++f x) ak=ak++xs.flatMap f
 |[],ak=>by simp
 |x::xs,ak=>by
  rw[kT,Ak f xs,List.flatMap_cons,Jr]
theorem a6 (t:aE)(ks:List aI)(rows:List (List Int))(ff:List Kn)(hk:ks.length<=100)(hn:∀ kn∈ff,kn.length<=100)(hm:ff.length*rows.length<=90000) :
  zT [.list (ff.map gi),bC (t,ks),bA rows]=aa (.list ((pA ff ks rows).map gi)):=by
 have:∃ d,zT [.list (ff.map gi),bC (t,ks),bA rows]=aa d/\d=.list ((pA ff ks rows).map gi):=by
  rw[12];refine cR rfl (by simp) ?_
  let A:List L2.Slot:=[s0 (.list (ff.map gi)),s0 (bC (t,ks)),s0 (bA rows)]
  refine fM (λρ'=>∃ x4 x5 x6:L2.Slot,ρ'=A++[aa (1,.list ((pA ff ks rows).map gi)),x4,x5,x6]) ?_ ?_
  .refine pL (b0:=[]) (λak kn=>ak++rows.filterMap λr=>eY ks r kn) (λi ak ρ'=>∃ x4 x5 x6:L2.Slot,ak.length<=i*rows.length/\ρ'=A++[aa (1,.list (ak.map gi)),x4,x5,x6]) (ju (fX rfl)) ⟨ae,ae,ae,eD _,rfl⟩ ?_ ?_
   .rintro i kn ak _ hx ⟨x4,x5,x6,ha,rfl⟩;have hi:=(cX.1 hx).1;have hkn:=hn kn (eU hx);have ur:(i+1)*rows.length<=90000:=dA (Nat.mul_le_mul_right _ hi) hm;have hs:(i+1)*rows.length=i*rows.length+rows.length:=Nat.succ_mul _ _;refine⟨A++[aa (1,.list (ak.map gi)),s0 (gi kn),x5,x6],rfl,?_⟩;refine pL (λak r=>ak++(eY ks r kn).toList) (λj cy ρ'=>∃ x5 x6:L2.Slot,cy.length<=ak.length+j/\ρ'=A++[aa (1,.list (cy.map gi)),s0 (gi kn),x5,x6]) (ju (fX rfl)) ⟨x5,x6,bD _,rfl⟩ ?_ ?_
    .rintro j r cy _ hr ⟨x5,x6,ha',rfl⟩;have hj:=(cX.1 hr).1;refine⟨A++[aa (1,.list (cy.map gi)),s0 (gi kn),s0 (bN r),x6],rfl,?_⟩;have hf:=JG (.str t) ks r kn hk hkn;refine cR (aZ rfl hf) (by simp[A]) ?_
     cases hfa:eY ks r kn with
     |none=>exact mT (eG (aP rfl rfl rfl)) (oC ⟨_,.inl rfl,_,_,by simpa using(by omega:cy.length<=ak.length+(j+1)),by rw[Option.toList_none,qH];rfl⟩)
     |some bh=>
      refine jU (eG (aP rfl rfl rfl)) (tD rfl rfl (by simp;omega) ⟨_,.inl rfl,_,_,by simp;omega,by rw[Option.toList_some,qF];rfl⟩)
    .rintro _ ⟨x5,x6,ha',rfl⟩;refine⟨_,.inl rfl,_,_,_,?_,by rw[KN]⟩
     rw[KN] at ha';omega
   .rintro _ ⟨x4,x5,x6,ha,rfl⟩;rw[Ak];exact⟨_,rfl,_,_,_,rfl⟩
  rintro _ ⟨x4,x5,x6,rfl⟩;exact vJ rfl ⟨_,rfl,rfl⟩
 rw[2]
def nW (B:aE->List (List Int)):List Ln->Nat
 |[]=>1
 |l::r=>max 1 (B l.1).length*nW B r
theorem XQ (B:aE->List (List Int)):∀ (ls:List Ln) (a:Int),ls.foldl (λa l=>a*((max 1 (B l.1).length:Nat):Int)) a=a*(nW B ls:Int)
 |[],a=>by simp[nW]
 |l::r,a=>by
  rw[kT,XQ B r];show _=a*((max 1 (B l.1).length*nW B r:Nat):Int);rw[Jv,Int.mul_assoc]
theorem Mm (ds:List aA):cJ [.list ds]=aa (.int ds.length):=by simp[cJ]
theorem J6(hB:∀ t,(B t).length<64)(ls:List Ln):vV [.list (ls.map λl=>bA (B l.1))]=aa (.int (nW B ls)):=by
 have:∃ d,vV [.list (ls.map λl=>bA (B l.1))]=aa d/\d=.int (nW B ls):=by
  rw[12];refine cR rfl (by simp) ?_
  refine fM (λρ'=>∃ x3:L2.Slot,ρ'=[s0 (.list (ls.map λl=>bA (B l.1))),s0 (.int (nW B ls)),x3]) ?_ ?_
  .refine pL (λa l=>a*((max 1 (B l.1).length:Nat):Int)) (λi a ρ'=>∃ x3:L2.Slot,ρ'=[s0 (.list (ls.map λl=>bA (B l.1))),s0 (.int a),x3]) (ju (fX rfl)) ⟨ae,rfl⟩ ?_ ?_
   .rintro i l a _ hx ⟨x3,rfl⟩;refine⟨[s0 (.list (ls.map λl=>bA (B l.1))),s0 (.int a),s0 (bA (B l.1))],rfl,?_⟩
    have qf:=hB l.1;generalize hr:B l.1=R at qf ⊢;have em:uP [.int 1,.int (R.map bN).length]=aa (.int ((max 1 R.length:Nat):Int)):=by
     show aa (aT (if ((R.map bN).length:Int) > 1 then((R.map bN).length:Int) else 1))=_
     rw[cD]
     congr 2
     split<;>omega
    have hf:(((max 1 R.length:Nat):Int)).natAbs<2^64:=by omega
    exact Ft (aP rfl (aZ (aY rfl (aY (aZ rfl (Mm _)) rfl)) em) (mul_r hf)) (by simp) ⟨_,.inl rfl,_,rfl⟩
   .rintro _ ⟨x3,rfl⟩;rw[XQ,Int.one_mul];exact⟨_,rfl,x3,rfl⟩
  rintro _ ⟨x3,rfl⟩;exact dQ rfl ⟨_,rfl,rfl⟩
 rw[2]
theorem Tj(b:Bk kds B wd)(ls:List Ln)(hl:ls.length<=1000){Y:List (Option aA)}(e1:Y[0]?.join=aa (.dict kds))(e2:Y[1]?.join=aa (.tuple (ls.map bC))) :
  ip [ae,aa 0] (bj (aB 1)) (gB 0) cZ (aN nA (aG (aB 1) (aG (aB 0) aK))) Y=aa (.list (ls.map λl=>bA (B l.1))):=by
 have e:=WS (cap:=[ae,aa 0]) (fi:=bj (aB 1)) (T:=gB 0) (t:=cZ) (f:=aN nA (aG (aB 1) (aG (aB 0) aK))) (λd=>match d with|.tuple [.str t,_]=>bA (B t)|d=>d) (rB e2) (by rw[cD];omega) (λd m=>by
  obtain⟨l,_,rfl⟩:=bL.1 m;refine⟨[aa (bC l),aa (.dict kds)],?_,rfl,aZ rfl (Az b l.1 _)⟩;show aa ((lE [ae,aa 0] Y).set 0 (aa (bC l)))=_;simp[lE,e1])
 rw[e,dS]
 rfl
theorem E8(b:Bk kds B wd)(ls:List Ln)(hl:ls.length<=1000)(hw:nW B ls<=4096):AE [.dict kds,.tuple (ls.map bC)]=aa .none:=by
 have e1:AD [.list (ls.map λl=>bA (B l.1))]=aa .none:=by
  have c:bV .s (aw (ai xh (aN vV (aG (aB 0) aK)) (eC (.int 4096)))) [s0 (.list (ls.map λl=>bA (B l.1)))]=aa ag:=eG (aP (aZ rfl (J6 b.few ls)) rfl (by
   show aa (jO (decide ((nW B ls:Int) > 4096)))=_;rw[decide_eq_false (by omega)]))
  show outD (OB [s0 (.list (ls.map λl=>bA (B l.1)))])=_
  unfold OB;rw[kF c]
  rfl
 show outD (NZ [s0 (.dict kds),s0 (.tuple (ls.map bC))])=_;have e2:eV 0 .s (aN AD (aG (ip [ae,aa 0] (bj (aB 1)) (gB 0) cZ (aN nA (aG (aB 1) (aG (aB 0) aK)))) aK)) [s0 (.dict kds),s0 (.tuple (ls.map bC))]=aa .none:=
  aZ (aY (Tj b ls hl rfl rfl) rfl) e1
 unfold NZ sF;rw[e2]
 rfl
theorem Ui (ff:List Kn)(ks:List aI)(rows:List (List Int)):(pA ff ks rows).length<=ff.length*rows.length:=by
 unfold pA;induction ff with
 |nil=>simp
 |cons kn r ih=>
  rw[List.flatMap_cons,oU,fE,Nat.succ_mul];have:=xI (λr=>eY ks r kn) rows
  omega
theorem Tv{kn bh:Kn}(h:eY ks r kn=aa bh):bh.length<=kn.length+ks.length:=by
 unfold eY at h;obtain⟨h1,h2⟩:=Fq h;have:=KU h2;rw[xH] at this;omega
def rowOf (zs:List aE)(kn:Kn):List Int:=zs.map λz=>(cH kn z).getD 0
theorem v5{kn:Kn}(hl:zs.length<=1000)(h:∀ z∈zs,∃ v,cH kn z=aa v):oG [.list (zs.map dP),gi kn]=aa (bN (rowOf zs kn)):=by
 have:∃ d,oG [.list (zs.map dP),gi kn]=aa d/\d=bN (rowOf zs kn):=by
  rw[12];have e:=WS (cap:=[ae,aa 1]) (fi:=bj (aB 0)) (T:=gB 0) (t:=cZ) (f:=mQ (aB 1) (aB 0) (aB 0)) (Y:=vS [s0 (.list (zs.map dP)),s0 (gi kn)]) (λd=>match d with|.str z=>.int ((cH kn z).getD 0)|d=>d) (fX rfl) (by rw[cD];omega) (λd m=>by
   obtain⟨z,mz,rfl⟩:=bL.1 m;obtain⟨v,hv⟩:=h z mz;refine⟨[aa (.str z),aa (gi kn)],rfl,rfl,?_⟩;have:=DK (fd:=aB 1) (fk:=aB 0) (fx:=aB 0) (Y:=[aa (.str z),aa (gi kn)]) rfl rfl rfl rfl (plN kn);rw[this,DH];show _=aa (aT ((cH kn z).getD 0));rw[hv]
   rfl)
  rw[dS] at e;have e':zs.map ((λd=>match d with|.str z=>aT ((cH kn z).getD 0)|d=>d)∘dP)=(rowOf zs kn).map aT:=by
   unfold rowOf;rw[dS]
   rfl
  rw[e'] at e;exact dQ (aZ (aY e rfl) rfl) ⟨_,rfl,rfl⟩
 rw[2]
def wq (a b:Ln):List aE:=(eK [a]).filter λz=>decide (z∈eX b.2)
theorem A9n:z∈wq a b↔(.inr z:aI)∈a.2/\(.inr z:aI)∈b.2:=by
 unfold wq;rw[uF,Ajl,decide_eq_true_eq,Adn];refine and_congr_left λ_=>?_
 rw[23]
 .rintro⟨l,m,h⟩;rw[cB.1 m] at h;exact Adn.1 h
 .exact λh=>⟨a,cB.2 rfl,Adn.2 h⟩
theorem Cz(h:gQ l):(eK [l]).length<=6:=by
 have h1:=FF (eX l.2) [];have h2:(eX l.2).length<=l.2.length:=xI _ _;have h3:=h.1;have e:eK [l]=(eX l.2).foldl eP []:=by
  unfold eK jT;simp
 rw[e];simp at h1;omega
theorem On(h:gQ a):(wq a b).length<=6:=dA (RI _ _) (Cz h)
theorem z7(ha:gQ a):yZ [bC a,bC b]=aa (.list ((wq a b).map dP)):=by
 have el:=KP (λx m=>by rw[cB.1 m];exact ha) (by simp)
 have:∃ d,yZ [bC a,bC b]=aa d/\d=.list ((wq a b).map dP):=by
  rw[12];refine dQ ?_ ⟨_,rfl,rfl⟩;refine iK (λz=>decide (z∈eX b.2)) dP (fX (aZ (aY (uY rfl) rfl) el)) (dA (Cz ha) (by decide)) λz _=>?_
  refine⟨[aa (.str z),aa (bC b)],rfl,?_,λ_=>rfl⟩
  exact eG (aP rfl rfl (IV z b.2))
 rw[2]
theorem UW(h6:l.2.length<=6)(hz:∀ z∈zs,(.inr z:aI)∈l.2)(hl:zs.length<=1000)(hr:∃ v,r=l.2.map (tv v)):pM [bC l,tI r,.list (zs.map dP)]=aa (bN (fI l.2 zs r)):=by
 obtain⟨v,rfl⟩:=hr;obtain⟨kn,ef,hk⟩:=OL l.2 v;have e1:=JG (.str l.1) l.2 (l.2.map (tv v)) [] (by omega) (by simp)
 rw[ef] at e1;have e2:=v5 hl λz m=>⟨_,hk z (hz z m)⟩
 have e3:rowOf zs kn=fI l.2 zs (l.2.map (tv v)):=by
  rw[sZ hz];exact nN λz m=>by rw[hk z (hz z m)];rfl
 have:∃ d,pM [bC l,tI (l.2.map (tv v)),.list (zs.map dP)]=aa d/\d=bN (fI l.2 zs (l.2.map (tv v))):=by
  rw[12];refine dQ (aZ (aY rfl (aY (aZ rfl e1) rfl)) (by rw[<-e3];exact e2)) ⟨_,rfl,rfl⟩
 rw[2]
def yl (r:List Int):List aA×aA:=(r.map aT,.bool af)
theorem MA:∀ (U:List (List Int)),qN (U.map λr=>cL [bN r,.bool af])=aa (U.map yl)
 |[]=>rfl
 |r::U=>by
  show(if (bO (r.map aT)&&decide (cP (r.map aT)<=6))=af then(qN (U.map λr=>cL [bN r,.bool af])).bind λps=>aa ((r.map aT,jO af)::ps) else ae)=_
  rw[vN,BW,if_pos (decide_eq_true (dA (zM r) (by decide))),MA U]
  rfl
theorem KY {a b:List Int}(h:a.map aT=b.map aT):a=b:=by
 have:=congrArg (List.map yr) h
 rwa [sY,sY] at this
theorem Gv (K:List (List Int))(k:List Int):pv ag (bN k) (.dict ((.none,.none)::iV (K.map yl) []))=aa (.bool (K.contains k)):=by
 show(if (bO (k.map aT)&&decide (cP (k.map aT)<=6))=af then aa (jO (ag != (iU (iV (K.map yl) []) (k.map aT)).isSome)) else ae)=_
 have hk:∀ p∈K.map yl,bO p.1=af:=λp m=>by
  obtain⟨r,_,rfl⟩:=bL.1 m;exact vN r
 rw[vN,BW,if_pos (decide_eq_true (dA (zM k) (by decide))),c7 hk (vN k)]
 have e:decide (k.map aT∈(K.map yl).map (·.1))=K.contains k:=by
  rw[lV,decide_eq_true_eq,Jp,dS,bL];rw[23]
  .rintro⟨r,m,e⟩;exact KY e ▸ m
  .exact λm=>⟨k,m,rfl⟩
 rw[e];cases K.contains k<;>rfl
theorem Dd(ha:gQ a)(hb:gQ b){U:List (List Int)}(hR:∀ r∈R,∃ v,r=a.2.map (tv v))(hU:∀ r∈U,∃ v,r=b.2.map (tv v))(lR:R.length<=1000)(lU:U.length<=1000) :
  tW [bC a,bA R,bC b,bA U]=aa (bA (wF a.2 b.2 (wq a b) R U)):=by
 have hl:(wq a b).length<=1000:=dA (On ha) (by decide)
 have ka:∀ r∈R,pM [bC a,tI r,.list ((wq a b).map dP)]=aa (bN (fI a.2 (wq a b) r)):=λr m=>UW ha.1 (λz mz=>(A9n.1 mz).1) hl (hR r m)
 have kb:∀ r∈U,pM [bC b,tI r,.list ((wq a b).map dP)]=aa (bN (fI b.2 (wq a b) r)):=λr m=>UW hb.1 (λz mz=>(A9n.1 mz).2) hl (hU r m)
 have ec:=z7 (b:=b) ha;unfold wF;generalize wq a b=zs at ka kb ec;have:∃ d,tW [bC a,bA R,bC b,bA U]=aa d/\d=bA (R.filter λr=>(U.map (fI b.2 zs)).contains (fI a.2 zs r)):=by
  rw[12];refine cR (aZ rfl ec) (by simp) ?_
  refine cR (d:=.dict ((.none,.none)::iV ((U.map (fI b.2 zs)).map yl) [])) (aZ (ds:=[.list ((U.map (fI b.2 zs)).map λr=>cL [bN r,.bool af])]) (aY ?_ rfl) ?_) (by simp) ?_
  .have:=iK (cap:=[ae,aa 2,aa 4]) (fi:=bj (aB 3)) (T:=gB 0) (t:=cZ) (f:=iR (aG (aN pM (aG (aB 1) (aG (aB 0) (aG (aB 2) aK)))) (aG (eC (.bool af)) aK)))
    (Y:=vS [s0 (bC a),s0 (bA R),s0 (bC b),s0 (bA U),s0 (.list (zs.map dP)),ae]) (λ_=>af) (λr=>cL [bN (fI b.2 zs r),.bool af]) (fX rfl) (by omega) λr m=>⟨[aa (bN r),aa (bC b),aa (.list (zs.map dP))],rfl,rfl,λ_=>uY (aY (aZ rfl (kb r m)) rfl)⟩
   rw[mK.2 λ_ _=>rfl] at this
   rw[dS];exact this
  .show(qN _).bind _=_;rw[MA]
   rfl
  refine dQ ?_ ⟨_,rfl,rfl⟩;refine iK (λr=>(U.map (fI b.2 zs)).contains (fI a.2 zs r)) bN (fX rfl) (by omega) λr m=>⟨[aa (bN r),aa (.dict ((.none,.none)::iV ((U.map (fI b.2 zs)).map yl) [])),aa (bC a),aa (.list (zs.map dP))],rfl,?_,λ_=>rfl⟩
  exact eG (aP (aZ rfl (ka r m)) rfl (Gv _ _))
 rw[2]
theorem WX{P:Out->Prop}{j:Int}{jn:Nat}(h:f (vA Y)=aa d)(hf:gE 1 d=af)(hg:getL i Y=aa ds)(hk:g (vS Y)=aa (.int j))(hj:qh ds.length j=aa jn)(k:P (.nx (Y.set i (aa (1,.list (ds.set jn d)))))):Goes (yI i .a f .s g) Y P:=⟨_,by
 unfold yI;rw[evA h hf,bM,hg,bM];show((g (vS Y)).bind _)=_;rw[hk,bM];show((qh ds.length j).bind λj=>aa (Out.nx (Y.set i (aa (1,.list (ds.set j d))))))=_
 rw[hj,bM],k⟩
def bp (t:dX):aA:=.list (t.map bA)
def sq (ls:List Ln)(a b:Nat):List aE:=wq (ls.getD a bo) (ls.getD b bo)
theorem PD (ls:List Ln):Cm (gb ls) (sq ls):=λa b z=>A9n
theorem wG {t:dX}(h:k<t.length):ar (bp t) (.int k)=aa (bA (t.getD k [])):=by
 refine DP ?_;rw[eE,fO h];simp[iD,h]
theorem OZ {t:dX}(R:List (List Int)):(t.map bA).set k (bA R)=(t.set k R).map bA:=by rw[List.map_set]
theorem Fv (R:List (List Int)):gE 1 (bA R)=af:=by
 exact dW.2 λd m=>by
  obtain⟨r,_,rfl⟩:=bL.1 m;exact Wv r
theorem K4(ho:∀ l∈ls,gQ l)(hn:ls.length<=50){t:dX}(hl:t.length=ls.length)(hf:jS (gb ls) t)(hs:∀ k,(t.getD k []).length<=1000) :
  AK [az ls,bp t]=aa (bp (wx (gb ls) (sq ls) t (cC ls).1)):=by
 obtain⟨_,s2⟩:=tH (EG ls);have ok:∀ k,k<ls.length->gQ (ls.getD k bo):=λk h=>by
  have:ls.getD k bo=ls[k]:=by simp[iD,h]
  rw[this];exact ho _ (lQ h)
 have:∃ d,AK [az ls,bp t]=aa d/\d=bp (wx (gb ls) (sq ls) t (cC ls).1):=by
  rw[12];refine cR (aZ rfl rfl) (by simp) ?_
  refine fM (λρ'=>∃ x3 x4:L2.Slot,ρ'=[s0 (az ls),s0 (bp t),aa (1,bp (wx (gb ls) (sq ls) t (cC ls).1)),x3,x4]) ?_ ?_
  .refine pL (xs:=(cC ls).1) (q:=jW) (λt q=>vh (gb ls) (sq ls) t q.2 q.1) (λ_ t' ρ'=>(jS (gb ls) t'/\t'.length=ls.length/\∀ k,(t'.getD k []).length<=1000)/\∃ x3 x4:L2.Slot,ρ'=[s0 (az ls),s0 (bp t),aa (1,bp t'),x3,x4]) (ju (fX ?_)) ⟨⟨hf,hl,hs⟩,ae,ae,rfl⟩ ?_ ?_
   .show((aN iI (aG (aB 0) aK)) (vS [s0 (az ls),s0 (bp t),aa (1,bp t),ae,ae])).bind (ix2 0)=_;rw[aZ rfl (IY ho hn)]
    rfl
   .rintro i q t' _ hq ⟨⟨g1,g2,g3⟩,x3,x4,rfl⟩;obtain⟨m1,m2⟩:=s2 q (eU hq);have k1:q.1<t'.length:=by rw[g2];exact m1
    have k2:q.2<t'.length:=by rw[g2];exact m2
    refine⟨[s0 (az ls),s0 (bp t),aa (1,bp t'),s0 (.int q.1),s0 (.int q.2)],rfl,?_⟩;have ep:=Dd (ok _ m2) (ok _ m1) (g1 q.2) (g1 q.1) (g3 _) (g3 _);refine WX (aZ (aY (aP rfl rfl (mB m2)) (aY (aP rfl rfl (wG k2)) (aY (aP rfl rfl (mB m1)) (aY (aP rfl rfl (wG k1)) rfl)))) ep) (Fv _) rfl rfl (CP (by rw[cD];exact k2)) ⟨_,.inl rfl,⟨DD g1 k2,(vL _ _ _).trans g2,λk=>dA (JQ k2 k).length_le (g3 k)⟩,s0 (.int q.1),s0 (.int q.2),?_⟩
    rw[OZ]
    rfl
   .rintro _ ⟨_,x3,x4,rfl⟩;exact⟨_,rfl,x3,x4,rfl⟩
  rintro _ ⟨x3,x4,rfl⟩;exact vJ rfl ⟨_,rfl,rfl⟩
 rw[2]
theorem c9(ho:∀ l∈ls,gQ l)(hn:ls.length<=50){t:dX}(hl:t.length=ls.length)(hf:jS (gb ls) t)(hs:∀ k,(t.getD k []).length<=1000) :
  zW [az ls,bp t]=aa (bp (tm (gb ls) (sq ls) t (cC ls).1)):=by
 obtain⟨_,s2⟩:=tH (EG ls);have ok:∀ k,k<ls.length->gQ (ls.getD k bo):=λk h=>by
  have:ls.getD k bo=ls[k]:=by simp[iD,h]
  rw[this];exact ho _ (lQ h)
 have:∃ d,zW [az ls,bp t]=aa d/\d=bp (tm (gb ls) (sq ls) t (cC ls).1):=by
  rw[12];refine cR (aZ rfl rfl) (by simp) ?_
  refine fM (λρ'=>∃ x3 x4:L2.Slot,ρ'=[s0 (az ls),s0 (bp t),aa (1,bp (tm (gb ls) (sq ls) t (cC ls).1)),x3,x4]) ?_ ?_
  .refine pL (xs:=(cC ls).1.reverse) (q:=jW) (λt q=>vh (gb ls) (sq ls) t q.1 q.2) (λ_ t' ρ'=>(jS (gb ls) t'/\t'.length=ls.length/\∀ k,(t'.getD k []).length<=1000)/\∃ x3 x4:L2.Slot,ρ'=[s0 (az ls),s0 (bp t),aa (1,bp t'),x3,x4]) (ju ?_) ⟨⟨hf,hl,hs⟩,ae,ae,rfl⟩ ?_ ?_
   .have e0:nG 0 (aN iI (aG (aB 0) aK)) (vS [s0 (az ls),s0 (bp t),aa (1,bp t),ae,ae])=aa (.list ((cC ls).1.map jW)):=by
     show((aN iI (aG (aB 0) aK)) (vS [s0 (az ls),s0 (bp t),aa (1,bp t),ae,ae])).bind (ix2 0)=_;rw[aZ rfl (IY ho hn)]
     rfl
    have e1:aG (nG 0 (aN iI (aG (aB 0) aK))) aK (vS [s0 (az ls),s0 (bp t),aa (1,bp t),ae,ae])=aa [.list ((cC ls).1.map jW)]:=aY e0 rfl;show(aG (nG 0 (aN iI (aG (aB 0) aK))) aK (vS [s0 (az ls),s0 (bp t),aa (1,bp t),ae,ae])).bind _=_;rw[e1];show aa ((cC ls).1.map jW).reverse=_;rw[List.map_reverse]
   .rintro i q t' _ hq ⟨⟨g1,g2,g3⟩,x3,x4,rfl⟩;obtain⟨m1,m2⟩:=s2 q (List.mem_reverse.1 (eU hq));have k1:q.1<t'.length:=by rw[g2];exact m1
    have k2:q.2<t'.length:=by rw[g2];exact m2
    refine⟨[s0 (az ls),s0 (bp t),aa (1,bp t'),s0 (.int q.1),s0 (.int q.2)],rfl,?_⟩;have ep:=Dd (ok _ m1) (ok _ m2) (g1 q.1) (g1 q.2) (g3 _) (g3 _);refine WX (aZ (aY (aP rfl rfl (mB m1)) (aY (aP rfl rfl (wG k1)) (aY (aP rfl rfl (mB m2)) (aY (aP rfl rfl (wG k2)) rfl)))) ep) (Fv _) rfl rfl (CP (by rw[cD];exact k1)) ⟨_,.inl rfl,⟨DD g1 k1,(vL _ _ _).trans g2,λk=>dA (JQ k1 k).length_le (g3 k)⟩,s0 (.int q.1),s0 (.int q.2),?_⟩
    rw[OZ]
    rfl
   .rintro _ ⟨_,x3,x4,rfl⟩;exact⟨_,rfl,x3,x4,rfl⟩
  rintro _ ⟨x3,x4,rfl⟩;exact vJ rfl ⟨_,rfl,rfl⟩
 rw[2]
def ou (B:aE->List (List Int))(l:Ln):List (List Int):=xk ((B l.1).filter λr=>(eY l.2 r []).isSome)
theorem A6o:r∈ou B l↔r∈B l.1/\∃ v,r=l.2.map (tv v):=by
 unfold ou;rw[IU,uF];refine and_congr_right λ_=>?_
 rw[xD];exact Te
theorem Rv (B:aE->List (List Int))(l:Ln):(ou B l).length<=(B l.1).length:=by
 unfold ou;rw[Fg];exact RI _ _
theorem M0 (b:Bk kds B wd)(h6:l.2.length<=6):vW [.dict kds,bC l]=aa (bA (ou B l)):=by
 have es:yE [bA ((B l.1).filter λr=>(eY l.2 r []).isSome)]=aa (bA (ou B l)):=Fc (b.pos l.1) (λr m=>b.wid l.1 r (uF.1 m).1) (xF (RI _ _) (b.few l.1))
 have:∃ d,vW [.dict kds,bC l]=aa d/\d=bA (ou B l):=by
  have e:=iK (cap:=[ae,aa 1]) (fi:=bj (aN nA (aG (aB 0) (aG (aB 1) aK)))) (T:=gB 0) (t:=aw (ai mR (aN nY (aG (aB 1) (aG (aB 0) (aG (eC (.dict [])) aK)))) (eC .none))) (f:=aB 0)
   (Y:=vS [s0 (.dict kds),s0 (bC l)]) (λr=>(eY l.2 r []).isSome) bN (fX (aZ rfl (Az b l.1 _))) (by have:=b.few l.1;omega) (λr m=>by
    refine⟨[aa (bN r),aa (bC l)],rfl,?_,λ_=>rfl⟩
    have hf:=JG (.str l.1) l.2 r [] (by omega) (by simp)
    refine eG (aP (aZ rfl hf) rfl ?_);cases eY l.2 r []<;>rfl)
  refine dR rfl (dQ (aZ (aY e rfl) es) ⟨_,rfl,rfl⟩)
 rw[2]
theorem o8 (b:Bk kds B wd)(h6:∀ l∈ls,l.2.length<=6)(hn:ls.length<=50):AG [.dict kds,az ls]=aa (bp (ls.map (ou B))):=by
 have:∃ d,AG [.dict kds,az ls]=aa d/\d=bp (ls.map (ou B)):=by
  have e:=iK (cap:=[ae,aa 0]) (fi:=bj (aB 1)) (T:=gB 0) (t:=cZ) (f:=aN vW (aG (aB 1) (aG (aB 0) aK)))
   (Y:=vS [s0 (.dict kds),s0 (az ls)]) (λ_=>af) (λl=>bA (ou B l)) rfl (by omega) λl m=>⟨[aa (bC l),aa (.dict kds)],rfl,rfl,λ_=>aZ rfl (M0 b (h6 l m))⟩
  rw[mK.2 λ_ _=>rfl] at e
  refine dR rfl (dQ ?_ ⟨_,rfl,rfl⟩);unfold bp;rw[dS];exact e
 rw[2]
theorem Sa (ls:List Ln):jS (gb ls) (ls.map (ou B)):=λk r m=>by
 rw[iD,eE] at m;unfold gb;rw[iD];cases h:ls[k]? with
 |none=>rw[h] at m;simp at m
 |some l=>
  rw[h] at m;exact(A6o.1 m).2
abbrev LR:=Ln×List (List Int)
def fQ:List LR->Nat
 |[]=>1
 |p::r=>max 1 p.2.length*fQ r
theorem Hv:∀ ps,1<=fQ ps
 |[]=>bD _
 |p::r=>GS (Nat.le_max_left 1 p.2.length) (Hv r)
theorem KF:∀ xs ys,fQ (xs++ys)=fQ xs*fQ ys
 |[],ys=>(Nat.one_mul _).symm
 |p::r,ys=>by
  show max 1 p.2.length*fQ (r++ys)=max 1 p.2.length*fQ r*fQ ys;rw[KF r ys,BH]
theorem r9 (ps:List LR)(i:Nat):fQ (ps.take i)<=fQ ps:=by
 have e:fQ ps=fQ (ps.take i)*fQ (ps.drop i):=by rw[<-KF,Jd]
 rw[e];exact O5 _ (Hv _)
def gC (ps:List LR):List Kn:=ps.foldl (λff p=>pA ff p.1.2 p.2) [[]]
theorem YH (f g:LR->aA):∀ ps:List LR,xG pairD (ps.map f) (ps.map g)=ps.map λp=>pairD (f p) (g p)
 |[]=>rfl
 |p::r=>by
  rw[dB,dB,List.zipWith_cons_cons,YH f g r,dB]
theorem L4 (ps:List LR)(hl:ps.length<=16)(h6:∀ p∈ps,p.1.2.length<=6)(hw:fQ ps<=4096) :
  zK [.tuple (ps.map λp=>bC p.1),.list (ps.map λp=>bA p.2)]=aa (.list ((gC ps).map gi))/\(gC ps).length<=fQ ps/\∀ kn∈gC ps,kn.length<=96:=by
 have:∃ d,zK [.tuple (ps.map λp=>bC p.1),.list (ps.map λp=>bA p.2)]=aa d/\d=.list ((gC ps).map gi)/\(gC ps).length<=fQ ps/\∀ kn∈gC ps,kn.length<=96:=by
  rw[12];refine cR (WN rfl) (by simp) ?_
  let A:List L2.Slot:=[s0 (.tuple (ps.map λp=>bC p.1)),s0 (.list (ps.map λp=>bA p.2))]
  refine fM (λρ'=>∃ x3 x4:L2.Slot,(gC ps).length<=fQ ps/\(∀ kn∈gC ps,kn.length<=96)/\ρ'=A++[s0 (.list ((gC ps).map gi)),x3,x4]) ?_ ?_
  .refine pL (xs:=ps) (q:=λp=>pairD (bC p.1) (bA p.2)) (b0:=[[]]) (λff p=>pA ff p.1.2 p.2) (λi ff ρ'=>∃ x3 x4:L2.Slot,ff.length<=fQ (ps.take i)/\(∀ kn∈ff,kn.length<=6*i)/\ρ'=A++[s0 (.list (ff.map gi)),x3,x4]) (ju ?_) ⟨ae,ae,bD _,λkn m=>by rw[cB.1 m];simp,rfl⟩ ?_ ?_
   .rw[<-YH];exact US rfl rfl rfl
   .rintro i p ff _ hx ⟨x3,x4,hk,hkn,rfl⟩;have hi:=(cX.1 hx).1;have h6':=h6 p (eU hx);have ht:ps.take (i+1)=ps.take i++[p]:=by rw[uE,hx];rfl
    have hway:fQ (ps.take (i+1))=fQ (ps.take i)*max 1 p.2.length:=by
     rw[ht,KF];show _*(max 1 p.2.length*1)=_;rw[Nat.mul_one]
    have hm:ff.length*p.2.length<=fQ (ps.take (i+1)):=by
     rw[hway];exact GS hk (Nat.le_max_right _ _)
    have ur:=r9 ps (i+1);refine⟨A++[s0 (.list (ff.map gi)),s0 (bC p.1),s0 (bA p.2)],rfl,?_⟩;refine Ft (aZ rfl (a6 p.1.1 p.1.2 p.2 ff (by omega) (λkn m=>by have:=hkn kn m;omega) (by omega))) (by simp[A]) ⟨_,.inl rfl,_,_,dA (Ui _ _ _) hm,λbh m=>?_,rfl⟩
    obtain⟨kn,mk,m⟩:=RF.1 m;obtain⟨r,_,e⟩:=rR.1 m;have:=Tv e;have:=hkn kn mk;omega
   .rintro _ ⟨x3,x4,h1,h2,rfl⟩;rw[rQ] at h1;exact⟨_,rfl,_,_,h1,λkn m=>by have:=h2 kn m;omega,rfl⟩
  rintro _ ⟨x3,x4,h1,h2,rfl⟩;exact dQ rfl ⟨_,rfl,rfl,h1,h2⟩
 obtain⟨d,e,rfl,h1,h2⟩:=this;exact⟨e,h1,h2⟩
def fD (kn:Kn):aE->Int:=λz=>(cH kn z).getD 0
def rX (kn:Kn)(v:aE->Int)(ks:List aI):Prop:=∀ z,(.inr z:aI)∈ks->cH kn z=aa (v z)
theorem Ec{kn bh:Kn}(h:eY ks r kn=aa bh):r.length=ks.length/\(∀ z u,cH kn z=aa u->cH bh z=aa u)/\∀ p∈ks.zip r,(∀ i,p.1=.inl i->p.2=i)/\∀ z,p.1=.inr z->cH bh z=aa p.2:=by
 unfold eY at h;obtain⟨h1,h2⟩:=Fq h;obtain⟨a,b,_⟩:=vU h2;exact⟨h1,a,b⟩
theorem Xa{kn bh:Kn}(h:eY ks r kn=aa bh):r=ks.map (tv (fD bh))/\rX bh (fD bh) ks:=by
 obtain⟨hl,_,b⟩:=Ec h;have key:∀ j (hj:j<ks.length) (hr:j<r.length),(∀ i,ks[j]=.inl i->r[j]=i)/\∀ z,ks[j]=.inr z->cH bh z=aa r[j]:=λj hj hr=>by
  have hz:j<(ks.zip r).length:=by rw[xH];omega
  have:=b (ks.zip r)[j] (lQ hz);rw[RJ] at this;exact this
 refine⟨RO (by rw[cD];exact hl) λj h1 h2=>?_,λz mz=>?_⟩
 .rw[RK];have hj:j<ks.length:=by omega
  obtain⟨k1,k2⟩:=key j hj h1;cases hk:ks[j] with
  |inl i=>exact k1 i hk
  |inr z=>
   show r[j]=(cH bh z).getD 0;rw[k2 z hk]
   rfl
 .obtain⟨j,hj,e⟩:=rS mz;have:=(key j hj (by omega)).2 z e
  unfold fD;rw[this]
  rfl
theorem Pv {kn bh:Kn}(h:rX kn (fD kn) ks)(k:∀ z u,cH kn z=aa u->cH bh z=aa u):rX bh (fD bh) ks/\ks.map (tv (fD bh))=ks.map (tv (fD kn)):=by
 have e:∀ z,(.inr z:aI)∈ks->cH bh z=aa (fD kn z):=λz m=>k z _ (h z m)
 have e2:∀ z,(.inr z:aI)∈ks->fD bh z=fD kn z:=λz m=>by
  show(cH bh z).getD 0=_;rw[e z m]
  rfl
 exact⟨λz m=>by rw[e2 z m];exact e z m,DC e2⟩
def HN (ps:List LR)(kn:Kn):Prop:=∀ p∈ps,rX kn (fD kn) p.1.2/\p.1.2.map (tv (fD kn))∈p.2
theorem Ae:∀ (rest T5:List LR) (ff:List Kn),(∀ kn∈ff,HN T5 kn)->∀ kn∈rest.foldl (λff p=>pA ff p.1.2 p.2) ff,HN (T5++rest) kn
 |[],T5,ff,h=>by rw[qH];exact h
 |q::rest,T5,ff,h=>by
  have e:T5++q::rest=(T5++[q])++rest:=by simp
  rw[e,kT];refine Ae rest (T5++[q]) _ λkn m=>?_
  obtain⟨k0,mk,m⟩:=RF.1 m;obtain⟨r,mr,ef⟩:=rR.1 m;intro p mp;rcases iC.1 mp with mp|mp
  .obtain⟨a,b⟩:=h k0 mk p mp;obtain⟨c,d⟩:=Pv a (Ec ef).2.1;exact⟨c,d ▸ b⟩
  .rw[cB.1 mp];obtain⟨a,b⟩:=Xa ef;exact⟨b,a ▸ mr⟩
theorem FD (ps:List LR):∀ kn∈gC ps,HN ps kn:=by
 have:=Ae ps [] [[]] λkn _ p m=>by simp at m
 rwa [List.nil_append] at this
def FM (kn:Kn)(v:aE->Int):Prop:=∀ z u,cH kn z=aa u->u=v z
theorem Yg{kn:Kn}(h:FM kn v):∃ bh,eY ks (ks.map (tv v)) kn=aa bh/\FM bh v:=by
 obtain⟨bh,e⟩:=zJ (ps:=ks.zip (ks.map (tv v))) (λp m i q=>by rw[(pP m).2,q];rfl) (λp m z u q e=>by rw[(pP m).2,q,h z u e];rfl) (λp m p' m' z q q'=>by rw[(pP m).2,(pP m').2,q,q'])
 refine⟨bh,?_,λz u eu=>?_⟩
 .unfold eY;rw[if_pos (by rw[cD])]
  exact e
 .obtain⟨_,b,c⟩:=vU e;rcases c z u eu with c|⟨p,mp,q⟩
  .exact h z u c
  .have e1:=(b p mp).2 z q;rw[eu] at e1;rw[eO e1,(pP mp).2,q]
   rfl
theorem Cs:∀ (rest:List LR) (ff:List Kn),(∃ kn∈ff,FM kn v)->(∀ p∈rest,p.1.2.map (tv v)∈p.2)->∃ kn∈rest.foldl (λff p=>pA ff p.1.2 p.2) ff,FM kn v
 |[],ff,h,_=>h
 |q::rest,ff,⟨k0,m0,h0⟩,h=>by
  rw[kT];refine Cs rest _ ?_ λp m=>h p (bH _ m)
  obtain⟨k1,e1,h1⟩:=Yg h0;exact⟨k1,RF.2 ⟨k0,m0,rR.2 ⟨_,h q bE,e1⟩⟩,h1⟩
theorem F7 {ps:List LR}{p:LR}(hp:p∈ps):r∈(gC ps).map (λkn=>p.1.2.map (tv (fD kn))) ↔ ∃ v,(∀ q∈ps,q.1.2.map (tv v)∈q.2)/\r=p.1.2.map (tv v):=by
 rw[bL];rw[23]
 .rintro⟨kn,m,rfl⟩;exact⟨fD kn,λq mq=>(FD ps kn m q mq).2,rfl⟩
 .rintro⟨v,h,rfl⟩;obtain⟨kn,m,ha⟩:=Cs ps [[]] ⟨[],cB.2 rfl,λz u e=>by cases e⟩ h
  refine⟨kn,m,DC λz mz=>ha z _ ((FD ps kn m p hp).1 z mz)⟩
theorem Hh {kn:Kn}(h:rX kn v ks){k:aI}(mk:k∈ks):mQ (aB 1) (aB 0) (aB 0) [aa (kD k),aa (gi kn)]=aa (.int (tv v k)):=by
 cases k with
 |inl i=>
  rw[DK rfl rfl rfl rfl (plN kn),Yu]
  rfl
 |inr z=>
  rw[DK rfl rfl rfl rfl (plN kn),DH,h z mk]
  rfl
theorem L6{kn:Kn}(hl:ks.length<=1000)(h:rX kn v ks):oG [tK ks,gi kn]=aa (bN (ks.map (tv v))):=by
 have:∃ d,oG [tK ks,gi kn]=aa d/\d=bN (ks.map (tv v)):=by
  rw[12];have e:=iK (cap:=[ae,aa 1]) (fi:=bj (aB 0)) (T:=gB 0) (t:=cZ) (Y:=vS [s0 (tK ks),s0 (gi kn)]) (λ_=>af) (λk=>aT (tv v k)) (rB rfl) (by omega) λk mk=>⟨[aa (kD k),aa (gi kn)],rfl,rfl,λ_=>Hh h mk⟩
  rw[mK.2 λ_ _=>rfl] at e
  refine dQ (aZ (aY e rfl) ?_) ⟨_,rfl,rfl⟩;show aa (cL _)=aa (cL ((ks.map (tv v)).map aT));rw[dS]
  rfl
 rw[2]
theorem Dl {α:Type}[DecidableEq α]:∀ (zs ak:List α),ak.Nodup->(zs.foldl eP ak).Nodup
 |[],ak,h=>h
 |z::zs,ak,h=>by
  rw[kT];refine Dl zs _ ?_;unfold eP;split
  .exact h
  .rename_i hz;exact qE.2 ⟨h,by simp,λa ha b hb e=>hz (by rw[cB] at hb;rw[<-hb,<-e];exact ha)⟩
theorem yS {α:Type}[DecidableEq α](zs:List α):(jT zs).Nodup:=Dl zs [] GV
theorem zI {α:Type}[DecidableEq α]{zs ys:List α}(h:∀ z∈zs,z∈ys):(jT zs).length<=ys.length:=HB (yS zs) λz m=>h z (Ad8.1 m)
theorem LM (R:List (List Int)):fJ (R.map λr=>r.map aT)=(jT R).map λr=>r.map aT:=by
 have go:∀ (R ak:List (List Int)),(R.map λr=>r.map aT).foldl mE (ak.map λr=>r.map aT)=(R.foldl eP ak).map λr=>r.map aT:=by
  intro R;induction R with
  |nil=>intro ak;rfl
  |cons r R ih=>
   intro ak;rw[dB,kT,kT,<-ih]
   congr 1
   unfold mE eP;by_cases h:r∈ak
   .rw[if_pos h,if_pos (bL.2 ⟨r,h,rfl⟩)]
   .rw[if_neg h,if_neg λm=>by
     obtain⟨x,mx,e⟩:=bL.1 m;exact h (KY e ▸ mx),qF]
    rfl
 exact go R []
theorem ID (R:List (List Int)):∀ k∈R.map λr=>r.map aT,nV k:=λk m d md=>by
 obtain⟨r,_,rfl⟩:=bL.1 m;obtain⟨i,_,rfl⟩:=bL.1 md;exact⟨i,rfl⟩
theorem Cf(hn:1<=n)(hw:∀ r∈R,r.length=n)(hl:(jT R).length<64):zL [bA R]=aa (bA (xk (jT R))):=by
 have e:=Fc hn (λr m=>hw r (Ad8.1 m)) hl
 have e:((hG ((jT R).map bN)).bind λkss=>if ox kss=af/\kss.length<64 then aa (oP ((iH kss).map cL)) else ae)=aa (bA (xk (jT R))):=e
 show((hG (R.map bN)).bind _)=_;rw[FE,bM] at e ⊢;rw[LM];obtain⟨⟨a,b⟩,c⟩:=cG e;exact(if_pos ⟨⟨b,a⟩,ID R⟩).trans (by rw[c])
def hJ (ls:List Ln)(t:dX):List LR:=(cC ls).2.map λk=>(ls.getD k bo,t.getD k [])
theorem vF(h:k∈(cC ls).2):k<ls.length:=(tH (EG ls)).1 k h
theorem LA (ls:List Ln):(cC ls).2.length<=ls.length:=by
 have:=(Hr (ls:=ls) (n:=ls.length) (L:=cK ls.length)).2;rw[GY] at this;exact this
theorem JU(ho:∀ l∈ls,gQ l)(hn:ls.length<=50){Y:List (Option aA)}(h:Y[0]?.join=aa (az ls)):nG 1 (aN iI (aG (aB 0) aK)) Y=aa (lN (cC ls).2):=by
 unfold nG;rw[aZ (aY h rfl) (IY ho hn)]
 rfl
theorem Ey(hm:1<=m):∀ {ps:List LR},(∀ p∈ps,p.2.length<=m)->fQ ps<=m^ps.length
 |[],_=>bD _
 |p::ps,h=>by
  rw[fE,xE,QU];exact GS (Nat.max_le.2 ⟨hm,h p bE⟩) (Ey hm λq mq=>h q (bH _ mq))
theorem Fj(hm:1<=m)(h:∀ t,(B t).length<=m):∀ ls:List Ln,nW B ls<=m^ls.length
 |[]=>bD _
 |l::ls=>by
  rw[fE,xE,QU];exact GS (Nat.max_le.2 ⟨hm,h l.1⟩) (Fj hm h ls)
theorem He(h:n<=1):60^n<=4096:=dA (Nat.pow_le_pow_right (by decide) h) (by decide)
structure Lok (ls:List Ln):Prop where
 ok:∀ l∈ls,gQ l
 w1:∀ l∈ls,1<=l.2.length
 n4:ls.length<=5
 rl:(cC ls).2.length<=1
theorem Lok.atR(h:Lok ls)(hk:k<ls.length):gQ (ls.getD k bo)/\1<=(ls.getD k bo).2.length:=by
 have e:ls.getD k bo=ls[k]:=by simp[iD,hk]
 rw[e];exact⟨h.ok _ (lQ hk),h.w1 _ (lQ hk)⟩
theorem j6(L:Lok ls){t:dX}(hl:t.length=ls.length)(hs:∀ k,(t.getD k []).length<=60) :
  zZ [az ls,bp t]=aa (.list ((gC (hJ ls t)).map gi))/\(gC (hJ ls t)).length<=4096:=by
 have hr:=LA ls;have n4:=L.n4;have rl:=L.rl;have hw:fQ (hJ ls t)<=4096:=dA (Ey (by decide) λp m=>by
  obtain⟨k,_,rfl⟩:=bL.1 m;exact hs k) (He (by unfold hJ;rw[cD];omega))
 obtain⟨e,h1,_⟩:=L4 (hJ ls t) (by unfold hJ;rw[cD];omega) (λp m=>by
  obtain⟨k,mk,rfl⟩:=bL.1 m;exact(L.atR (vF mk)).1.1) hw
 refine⟨?_,by omega⟩
 have:∃ d,zZ [az ls,bp t]=aa d/\d=.list ((gC (hJ ls t)).map gi):=by
  rw[12];refine cR (JU L.ok (by omega) rfl) (by simp) ?_
  have e1:=iK (cap:=[ae,aa 0]) (fi:=bj (aB 2)) (T:=gB 0) (t:=cZ) (f:=ai ar (aB 1) (aB 0)) (Y:=vS [s0 (az ls),s0 (bp t),s0 (lN (cC ls).2)]) (λ_=>af) (λk=>bC (ls.getD k bo)) (fX rfl) (by omega) λk mk=>⟨[aa (.int k),aa (az ls)],rfl,rfl,λ_=>aP rfl rfl (mB (vF mk))⟩
  have e2:=iK (cap:=[ae,aa 1]) (fi:=bj (aB 2)) (T:=gB 0) (t:=cZ) (f:=ai ar (aB 1) (aB 0)) (Y:=vS [s0 (az ls),s0 (bp t),s0 (lN (cC ls).2)]) (λ_=>af) (λk=>bA (t.getD k [])) (fX rfl) (by omega) λk mk=>⟨[aa (.int k),aa (bp t)],rfl,rfl,λ_=>aP rfl rfl (wG (by rw[hl];exact vF mk))⟩
  rw[mK.2 λ_ _=>rfl] at e1 e2
  have q1:((hJ ls t).map λp=>bC p.1)=(cC ls).2.map λk=>bC (ls.getD k bo):=by unfold hJ;rw[dS];rfl
  have q2:((hJ ls t).map λp=>bA p.2)=(cC ls).2.map λk=>bA (t.getD k []):=by unfold hJ;rw[dS];rfl
  rw[q1,q2] at e;exact dQ (aZ (aY (aZ (aY e1 rfl) rfl) (aY e2 rfl)) e) ⟨_,rfl,rfl⟩
 rw[2]
def rZ (ls:List Ln)(t:dX)(k:Nat):List (List Int):=xk (jT ((gC (hJ ls t)).map λkn=>(gb ls k).map (tv (fD kn))))
def jI (ls:List Ln)(t:dX):dX:=(cC ls).2.foldl (λt' k=>t'.set k (rZ ls t k)) t
theorem Fi{t:dX}(h:k∈(cC ls).2)(m:r∈(gC (hJ ls t)).map λkn=>(gb ls k).map (tv (fD kn))):r∈t.getD k []:=by
 obtain⟨kn,mk,rfl⟩:=bL.1 m;exact(FD _ kn mk (ls.getD k bo,t.getD k []) (bL.2 ⟨k,h,rfl⟩)).2
theorem Gz {f:Nat->List (List Int)}:∀ (L:List Nat) (t:dX),(L.foldl (λt' k=>t'.set k (f k)) t).length=t.length
 |[],t=>rfl
 |k::L,t=>by rw[kT,Gz L,GX]
theorem VM {f:Nat->List (List Int)}:∀ (L:List Nat) (t:dX),(∀ k∈L,k<t.length)->∀ j,(L.foldl (λt' k=>t'.set k (f k)) t).getD j []=if j∈L then f j else t.getD j []
 |[],t,_,j=>by rw[if_neg (by simp)];rfl
 |k::L,t,h,j=>by
  rw[kT,VM L _ (λx m=>by rw[GX];exact h x (bH _ m)) j,EI (h k bE)]
  by_cases q:j∈L
  .rw[if_pos q,if_pos (bH _ q)]
  .rw[if_neg q];by_cases e:j=k
   .subst e;rw[if_pos rfl,if_pos bE]
   .rw[if_neg e,if_neg λm=>(cO.1 m).elim e q]
theorem i7(L:Lok ls){t:dX}(hl:t.length=ls.length)(hs:∀ k,(t.getD k []).length<=60):zX [az ls,bp t]=aa (bp (jI ls t)):=by
 obtain⟨ew,hwl⟩:=j6 L hl hs;have n4:=L.n4;have:∃ d,zX [az ls,bp t]=aa d/\d=bp (jI ls t):=by
  rw[12];refine cR (aZ rfl rfl) (by simp) ?_
  refine cR (aZ rfl ew) (by simp) ?_
  refine fM (λρ'=>∃ x4:L2.Slot,ρ'=[s0 (az ls),s0 (bp t),aa (1,bp (jI ls t)),s0 (.list ((gC (hJ ls t)).map gi)),x4]) ?_ ?_
  .refine pL (λt' k=>t'.set k (rZ ls t k)) (λ_ t' ρ'=>t'.length=ls.length/\∃ x4:L2.Slot,ρ'=[s0 (az ls),s0 (bp t),aa (1,bp t'),s0 (.list ((gC (hJ ls t)).map gi)),x4]) (ju (fX (JU L.ok (by omega) rfl))) ⟨hl,ae,rfl⟩ ?_ ?_
   .rintro i k t' _ hk ⟨g2,x4,rfl⟩;have mk:=eU hk;have k1:=vF mk;refine⟨[s0 (az ls),s0 (bp t),aa (1,bp t'),s0 (.list ((gC (hJ ls t)).map gi)),s0 (.int k)],rfl,?_⟩;have wk:=(L.atR k1).1.1;have e:=iK (cap:=[ae,aa 0,aa 4]) (fi:=bj (aB 3)) (T:=gB 0) (t:=cZ) (f:=aN oG (aG (ai ar (ai ar (aB 1) (aB 2)) (eC (.int 1))) (aG (aB 0) aK)))
     (Y:=vS [s0 (az ls),s0 (bp t),aa (1,bp t'),s0 (.list ((gC (hJ ls t)).map gi)),s0 (.int k)]) (λ_=>af) (λkn=>bN ((gb ls k).map (tv (fD kn)))) (fX rfl) (by omega) λkn mkn=>
      ⟨[aa (gi kn),aa (az ls),aa (.int k)],rfl,rfl,λ_=>aZ (ds:=[tK (gb ls k),gi kn]) (aY (aP (aP rfl rfl (mB k1)) rfl rfl) rfl) (L6 (by unfold gb;omega) (FD _ kn mkn (ls.getD k bo,t.getD k []) (bL.2 ⟨k,mk,rfl⟩)).1)⟩
    rw[mK.2 λ_ _=>rfl] at e
    have es:=Cf (R:=(gC (hJ ls t)).map λkn=>(gb ls k).map (tv (fD kn))) (n:=(gb ls k).length) (L.atR k1).2 (λr m=>by
     obtain⟨kn,_,rfl⟩:=bL.1 m;rw[cD]) (xF (zI λr m=>Fi mk m) (by have:=hs k;omega))
    unfold bA at es;rw[dS] at es;refine Fl (d:=bA (rZ ls t k)) (aZ (aY e rfl) es) rfl rfl (CP (by rw[cD,g2];exact k1)) ⟨_,.inl rfl,GX.trans g2,s0 (.int k),?_⟩
    rw[OZ]
    rfl
   .rintro _ ⟨_,x4,rfl⟩;exact⟨_,rfl,x4,rfl⟩
  rintro _ ⟨x4,rfl⟩;exact vJ rfl ⟨_,rfl,rfl⟩
 rw[2]
def sI (ls:List Ln):List Nat:=if 1<(cC ls).2.length then(cC ls).2 else []
theorem Qu(L:Lok ls):sV [az ls]=aa (lN (sI ls)):=by
 have n4:=L.n4;have:∃ d,sV [az ls]=aa d/\d=lN (sI ls):=by
  rw[12];refine cR (JU L.ok (by omega) rfl) (by simp) ?_
  have c:bV .a (aw (ai xh (aN cJ (aG (aB 1) aK)) (eC (.int 1)))) [s0 (az ls),aa (1,lN (cC ls).2)]=aa (decide (1<(cC ls).2.length)):=eG (aP (aZ rfl (uZ _)) rfl (by
   show aa (jO (decide (((cC ls).2.length:Int) > 1)))=_
   congr 2
   rw[lV,decide_eq_true_eq,decide_eq_true_eq];omega))
  unfold sI;by_cases h:1<(cC ls).2.length
  .rw[if_pos h];rw[decide_eq_true h] at c;refine⟨.rt (lN (cC ls).2),?_,_,rfl,rfl⟩;show(bV .a _ [s0 (az ls),aa (1,lN (cC ls).2)]).bind _=_;rw[c]
   rfl
  .rw[if_neg h];rw[decide_eq_false h] at c;refine⟨.rt (lN []),?_,_,rfl,rfl⟩;show(bV .a _ [s0 (az ls),aa (1,lN (cC ls).2)]).bind _=_;rw[c]
   rfl
 rw[2]
theorem n8 (b:Bk kds B wd)(h6:∀ t,(B t).length<=60)(L:Lok ls):wC [.dict kds,az ls]=aa .none:=by
 have n4:=L.n4;have hr:=LA ls;have rl:=L.rl;have hrl:(sI ls).length<=1/\∀ k∈sI ls,k<ls.length:=by
  unfold sI;split
  .exact⟨by omega,λk m=>vF m⟩
  .exact⟨by simp,λk m=>by simp at m⟩
 have e1:=iK (cap:=[ae,aa 1]) (fi:=bj (aN sV (aG (aB 1) aK))) (T:=gB 0) (t:=cZ) (f:=ai ar (aB 1) (aB 0)) (Y:=vS [s0 (.dict kds),s0 (az ls)]) (λ_=>af) (λk=>bC (ls.getD k bo)) (fX (aZ rfl (Qu L))) (by omega) λk mk=>⟨[aa (.int k),aa (az ls)],rfl,rfl,λ_=>aP rfl rfl (mB (hrl.2 k mk))⟩
 rw[mK.2 λ_ _=>rfl] at e1
 have e2:=E8 b ((sI ls).map λk=>ls.getD k bo) (by rw[cD];omega) (dA (Fj (by decide) h6 _) (He (by rw[cD];omega)))
 rw[dS] at e2;show outD (NY [s0 (.dict kds),s0 (az ls)])=_;have e3:eV 0 .s (aN AE (aG (aB 0) (aG (aN kX (aG (ip [ae,aa 1] (bj (aN sV (aG (aB 1) aK))) (gB 0) cZ (ai ar (aB 1) (aB 0))) aK)) aK))) [s0 (.dict kds),s0 (az ls)]=aa .none:=
  aZ (aY rfl (aY (aZ (aY e1 rfl) rfl) rfl)) e2
 unfold NY sF;rw[e3]
 rfl
def Up (R:List (List Int)):Prop:=R.Nodup/\R.Pairwise λa b=>leT (a.map aT) (b.map aT)=af
theorem OT(hn:R.Nodup):Up (xk R):=by
 refine⟨(KZ R).nodup_iff.2 hn,?_⟩;have h:=NN (R.map λr=>r.map aT)
 have e:iH (R.map λr=>r.map aT)=(xk R).map λr=>r.map aT:=by
  unfold xk;rw[dS];refine(List.map_id' _).symm.trans (nN λk mk=>?_)
  obtain⟨a,_,rfl⟩:=bL.1 ((tR _).mem_iff.1 mk);show _=((a.map aT).map yr).map aT;rw[sY]
 rw[e] at h;exact qC.1 h
theorem Up.sub {S:List (List Int)}(h:Up S)(s:R.Sublist S):Up R:=⟨Ju s h.1,h.2.sublist s⟩
theorem up_eq {S:List (List Int)}(w:∀ r∈R,r.length=n)(hR:Up R)(hS:Up S)(h:∀ r,r∈R↔r∈S):R=S:=
 Jt (λa b ma mb h1 h2=>KY (YA (LH a b ((w a ma).trans (w b ((h b).2 mb)).symm)) h1 h2)) hR.2 hS.2 ((RC hR.1 hS.1).2 h)
theorem KC {α:Type}{ls:Nat->List aI}{cm:Nat->Nat->List aE}(a b:α->Nat):∀ (xs:List α) (t:dX),(∀ x∈xs,a x<t.length)->∀ i,((xs.foldl (λt x=>vh ls cm t (a x) (b x)) t).getD i []).Sublist (t.getD i [])
 |[],t,_,i=>Js _
 |x::xs,t,h,i=>by
  rw[kT];exact(KC a b xs _ (λy m=>by rw[vL];exact h y (bH _ m)) i).trans (JQ (h x bE) i)
def HR (B:aE->List (List Int))(ls:List Ln)(v:aE->Int):Prop:=∀ l∈ls,l.2.map (tv v)∈B l.1
theorem Ce (b:Bk kds B wd)(h6:∀ t,(B t).length<=60)(nd:∀ t,(B t).Nodup)(L:Lok ls) :
  ∃ t:dX,vQ [.dict kds,az ls]=aa (bp t)/\t.length=ls.length/\∀ k,k<ls.length->(t.getD k []).length<=60/\Up (t.getD k [])/\∀ r,r∈t.getD k [] ↔ ∃ v,HR B ls v/\r=(gb ls k).map (tv v):=by
 have n4:=L.n4;have E:=EG ls;obtain⟨s1,s2⟩:=tH E;have l0:(ls.map (ou B)).length=ls.length:=cD ..;have a0:∀ k,k<ls.length->(ls.map (ou B)).getD k []=ou B (ls.getD k bo):=λk hk=>by
  simp[iD,hk]
 have a0':∀ k,¬ k<ls.length->(ls.map (ou B)).getD k []=[]:=λk hk=>by
  rw[iD,xJ (by rw[l0];omega)]
  rfl
 have z0:∀ k,((ls.map (ou B)).getD k []).length<=60:=λk=>by
  by_cases hk:k<ls.length
  .rw[a0 k hk];exact dA (Rv _ _) (h6 _)
  .rw[a0' k hk];simp
 have u0:∀ k,Up ((ls.map (ou B)).getD k []):=λk=>by
  by_cases hk:k<ls.length
  .rw[a0 k hk];exact OT (Ju List.filter_sublist (nd _))
  .rw[a0' k hk];exact⟨GV,List.Pairwise.nil⟩
 have f0:=Sa (B:=B) ls;have m0:∀ k,k<ls.length->∀ v,tb (ls.map (ou B)) k ((gb ls k).map (tv v))↔(gb ls k).map (tv v)∈B (ls.getD k bo).1:=λk hk v=>by
  show _∈(ls.map (ou B)).getD k []↔_;rw[a0 k hk,A6o];exact⟨And.left,λh=>⟨h,v,rfl⟩⟩
 generalize ht0:ls.map (ou B)=t0 at l0 z0 u0 f0 m0;have b2:∀ q∈(cC ls).1,q.2<t0.length:=λq m=>by rw[l0];exact(s2 q m).2
 obtain⟨_,f1,l1⟩:=OS (PD ls) f0 b2;have v1:∀ i,((wx (gb ls) (sq ls) t0 (cC ls).1).getD i []).Sublist (t0.getD i []):=KC (λq:Nat×Nat=>q.2) (λq=>q.1) (cC ls).1 t0 b2
 have e1:=K4 L.ok (by omega) l0 f0 λk=>dA (z0 k) (by decide)
 have R:=λ(h1:_) (h2:_) (l2:_)=>Zq (t2:=jI ls (wx (gb ls) (sq ls) t0 (cC ls).1)) (PD ls) f0 (by rw[l0];exact E) l2 h1 h2
 generalize wx (gb ls) (sq ls) t0 (cC ls).1=t1 at f1 l1 v1 e1 R;have l1':=l1.trans l0;have z1:∀ k,(t1.getD k []).length<=60:=λk=>dA (v1 k).length_le (z0 k)
 have e2:=i7 L l1' z1;have w2:∀ j,(jI ls t1).getD j []=if j∈(cC ls).2 then rZ ls t1 j else t1.getD j []:=VM (cC ls).2 t1 λk m=>by rw[l1'];exact vF m
 have l2:(jI ls t1).length=t1.length:=Gz _ _;have x2:∀ k∈(cC ls).2,∀ r,r∈rZ ls t1 k↔r∈(gC (hJ ls t1)).map λkn=>(gb ls k).map (tv (fD kn)):=λk _ r=>by
  unfold rZ;rw[IU,Ad8]
 have f2:jS (gb ls) (jI ls t1):=λk r m=>by
  rw[w2 k] at m;by_cases q:k∈(cC ls).2
  .rw[if_pos q] at m;obtain⟨kn,_,rfl⟩:=bL.1 ((x2 k q r).1 m);exact⟨_,rfl⟩
  .rw[if_neg q] at m;exact f1 k r m
 have z2:∀ k,((jI ls t1).getD k []).length<=60:=λk=>by
  rw[w2 k];split
  .rename_i q;unfold rZ;rw[Fg];exact dA (zI λr m=>Fi q m) (z1 k)
  .exact z1 k
 have u2:∀ k,Up ((jI ls t1).getD k []):=λk=>by
  rw[w2 k];split
  .exact OT (yS _)
  .exact(u0 k).sub (v1 k)
 have R:=R (λk q r=>by
  have q:=q;rw[w2 k,if_pos q,x2 k q r];have:=F7 (ps:=hJ ls t1) (bL.2 ⟨k,q,rfl⟩) (r:=r);refine this.trans ⟨?_,?_⟩
  .rintro⟨v,h,e⟩;exact⟨v,λj hj=>h (ls.getD j bo,t1.getD j []) (bL.2 ⟨j,hj,rfl⟩),e⟩
  .rintro⟨v,h,e⟩;refine⟨v,λp mp=>?_,e⟩
   obtain⟨j,hj,rfl⟩:=bL.1 mp;exact h j hj) (λk q=>by
  have q:=q;rw[w2 k,if_neg q]) (l2.trans l1)
 have e3:=c9 L.ok (by omega) (l2.trans l1') f2 λk=>dA (z2 k) (by decide)
 have b3:∀ q∈(cC ls).1,q.1<(jI ls t1).length:=λq m=>by rw[l2,l1'];exact(s2 q m).1
 obtain⟨_,f3,l3⟩:=OW (PD ls) f2 b3;have v3:∀ i,((tm (gb ls) (sq ls) (jI ls t1) (cC ls).1).getD i []).Sublist ((jI ls t1).getD i []):=KC (λq:Nat×Nat=>q.1) (λq=>q.2) (cC ls).1.reverse _ λq m=>b3 q (List.mem_reverse.1 m)
 refine⟨tm (gb ls) (sq ls) (jI ls t1) (cC ls).1,?_,l3.trans (l2.trans l1'),λk hk=>⟨dA (v3 k).length_le (z2 k),(u2 k).sub (v3 k),λr=>?_⟩⟩
 .have ea:zU [az ls,bp t0]=aa (bp (tm (gb ls) (sq ls) (jI ls t1) (cC ls).1)):=by
   have:∃ d,zU [az ls,bp t0]=aa d/\d=bp (tm (gb ls) (sq ls) (jI ls t1) (cC ls).1):=by
    rw[12];exact dQ (aZ (aY rfl (aY (aZ (aY rfl (aY (aZ rfl e1) rfl)) e2) rfl)) e3) ⟨_,rfl,rfl⟩
   rw[2]
  have:∃ d,vQ [.dict kds,az ls]=aa d/\d=bp (tm (gb ls) (sq ls) (jI ls t1) (cC ls).1):=by
   rw[12];refine gF (ρ':=[s0 (.dict kds),s0 (az ls)]) ?_ ?_
   .have e0:eV 0 .s (aN wC (aG (aB 0) (aG (aB 1) aK))) [s0 (.dict kds),s0 (az ls)]=aa .none:=aZ rfl (n8 b h6 L);unfold sF;show(eV 0 .s (aN wC (aG (aB 0) (aG (aB 1) aK))) [s0 (.dict kds),s0 (az ls)]).bind _=_;rw[e0]
    rfl
   have ef:=o8 b (λl m=>(L.ok l m).1) (by omega)
   rw[ht0] at ef;exact dQ (aZ (aY rfl (aY (aZ rfl ef) rfl)) ea) ⟨_,rfl,rfl⟩
  rw[2]
 .rw[R k (by rw[l0];exact hk) r,l0]
  refine exists_congr λv=>and_congr_left λ_=>?_
  rw[23]
  .intro h l ml;obtain⟨j,hj,e⟩:=rS ml;have:=(m0 j hj v).1 (h j hj);have e2:ls.getD j bo=l:=by rw[<-e];simp[iD,hj]
   unfold gb at this
   rwa [e2] at this
  .intro h j hj;refine(m0 j hj v).2 (h _ ?_);have e2:ls.getD j bo=ls[j]:=by simp[iD,hj]
   rw[e2];exact lQ hj
theorem J1(h:gD ls L=ae):∀ k∈L,∀ j∈L,j≠k->¬ uM ls L k j:=λk mk j mj ne hc=>by
 have h1:=List.findSome?_eq_none_iff.1 h k mk;have h2:L.find? (gX ls L k)=ae:=by simpa using h1
 exact xM.1 h2 j mj (by unfold gX;rw[decide_eq_true ne,decide_eq_true hc];rfl)
theorem WV:∀ (n:Nat) {L:List Nat},L.Nodup->(jw ls n L).2.Nodup
 |0,L,h=>h
 |n+1,L,h=>by
  unfold jw;cases gD ls L with
  |none=>exact h
  |some p=>exact WV n (h.erase _)
def NL (ls:List Ln):Nat->aE->Prop:=λa z=>z∈xj ls a
theorem Xp(nd:L.Nodup)(k:Nat):J2.rm (· ∈ L) k=(· ∈ L.erase k):=by
 funext x;apply propext;unfold J2.rm;rw[nd.mem_erase_iff];exact And.comm
theorem SN:∀ (n:Nat) {L:List Nat},L.Nodup->J2.P (NL ls) m (· ∈ L)->J2.P (NL ls) m (· ∈ (jw ls n L).2)
 |0,L,_,h=>h
 |n+1,L,nd,h=>by
  unfold jw;cases hf:gD ls L with
  |none=>exact h
  |some p=>
   obtain⟨m1,m2⟩:=EZ hf;obtain⟨ne,hc⟩:=Av hf;have e:=J2.Bht (NL ls) m m1 m2 ne (λz hz=>(hc z hz).imp id λh o so no=>h o so no) h
   rw[Xp nd] at e;exact SN n (nd.erase _) e
theorem Wm(up:Nat->Nat)(h:∀ k,0<k->k<ls.length->up k<k/\∀ z∈xj ls k,z∈xj ls (up k)\/∀ o,o<k->z∉xj ls o):(cC ls).2.length<=1:=by
 have go:∀ n,n<=ls.length->J2.P (NL ls) n (· < n):=λn=>by
  induction n with
  |zero=>exact λ_ a b ha=>absurd ha (by omega)
  |succ n ih=>
   intro hn;by_cases h0:n=0
   .exact .inl λa b ha hb=>by omega
   .obtain⟨h1,h2⟩:=h n (by omega) (by omega)
    refine .inr ⟨n,up n,by omega,by omega,by omega,λz hz=>(h2 z hz).imp id λh o so no=>h o (by omega),?_⟩
    have e:J2.rm (· < n+1) n=(· < n):=funext λo=>propext ⟨λ⟨a,b⟩=>by omega,λa=>⟨by omega,by omega⟩⟩
    rw[e];exact ih (by omega)
 have T:=go ls.length (bD _);rw[show(· < ls.length)=(· ∈ cK ls.length) from funext λo=>propext gW.symm] at T
 have G:=SN ls.length BO T;have nd:(cC ls).2.Nodup:=WV ls.length BO;have one:∀ a b,a∈(cC ls).2->b∈(cC ls).2->a=b:=J2.Bf7 (NL ls) G λk p mk mp ne hc=>J1 (Gp (by simp)) k mk p mp ne λz hz=>(hc z hz).imp id λh o so no=>h o so no
 match hr:(cC ls).2 with
 |[]=>simp
 |[x]=>simp
 |x::y::r=>
  rw[hr] at nd one;have:=one x y (by simp) (by simp)
  rw[this] at nd;simp at nd
theorem Oz {a b:Int}(h:a.natAbs<2^64):pH (.int a) (.int b)=aa (.int (a*b)):=by
 show(if (a.natAbs<2^64\/b.natAbs<2^64)\/mM a+mM b<=134217728 then aa (aT (a*b)) else ae)=_
 rw[if_pos (.inl (.inl h))]
theorem ON {a b:Int}(h:b.natAbs<2^64):pH (.int a) (.int b)=aa (.int (a*b)):=by
 show(if (a.natAbs<2^64\/b.natAbs<2^64)\/mM a+mM b<=134217728 then aa (aT (a*b)) else ae)=_
 rw[if_pos (.inl (.inr h))]
theorem Fn{i:Int}(a:0<=i)(b:i<ns.length):∃ c,ar (lI ns) (.int i)=aa (.int c)/\c∈ns:=by
 obtain⟨j,rfl⟩:=Jw a;have hj:j<ns.length:=by omega
 exact⟨ns[j],DU (fO hj),lQ hj⟩
theorem VW (ns:List Int):cJ [lI ns]=aa (.int ns.length):=by simp[cJ]
theorem Gh (ns:List Int){k:Int}(h0:0<=k)(h1:k<=1000):∃ c,eZ [lI ns,.int k]=aa (.int c):=by
 have:∃ d,eZ [lI ns,.int k]=aa d/\∃ c,d=.int c:=by
  rw[12];have hk:k.natAbs<2^64:=by omega
  have hkk:pH (.int k) (.int k)=aa (.int (k*k)):=Oz hk;by_cases hl:k<(ns.length:Int)
  .obtain⟨c,e,_⟩:=Fn h0 hl;exact yW (jU (by simp[cu,aW,bZ,cE,jJ,iz,iF,TJ,sL,sJ,mF,frz,eQ,eV,bV,aV,vS,vA,ai,iq,aB,eC,aN,iR,fP,aG,aK,aw,iT,iS,yt,tj,uT,eOr,SQ,mQ,IR,eIf,jv,getL,pB,outD,bj,itemsOf,dC,pK,fK,cY,fL,uU,yu,xg,yj,gLe,xh,gGe,cJ,eA,kI,wy,kX,nX,TH,qg,ir,cU,noDict,noDicts,jN,cP,bX,gE,dM,cZ,gB,hl]) (dQ (aP rfl rfl e) ⟨_,rfl,_,rfl,c,rfl⟩))
  .refine gF (kF (by simp[cu,aW,bZ,cE,jJ,iz,iF,TJ,sL,sJ,mF,frz,eQ,eV,bV,aV,vS,vA,ai,iq,aB,eC,aN,iR,fP,aG,aK,aw,iT,iS,yt,tj,uT,eOr,SQ,mQ,IR,eIf,jv,getL,pB,outD,bj,itemsOf,dC,pK,fK,cY,fL,uU,yu,xg,yj,gLe,xh,gGe,cJ,eA,kI,wy,kX,nX,TH,qg,ir,cU,noDict,noDicts,jN,cP,bX,gE,dM,cZ,gB,hl])) ?_
   have e2:bV .s (aw (ai qg (aN cJ (aG (aB 0) aK)) (eC (.int 0)))) [s0 (lI ns),s0 (.int k)]=aa (decide ((ns.length:Int)=0)):=eG (aP (aZ rfl (VW ns)) rfl (yQ _ _));by_cases hz:(ns.length:Int)=0
   .exact yW (jU (e2.trans (by rw[decide_eq_true hz])) (dQ (aP (aP (aP rfl rfl hkk) rfl (ON (by decide))) rfl rfl) ⟨_,rfl,_,rfl,_,rfl⟩))
   .refine gF (kF (e2.trans (by rw[decide_eq_false hz]))) ?_
    have WF:(0:Int)<ns.length:=by omega
    obtain⟨v,e,_⟩:=Fn (sT _ WF).1 (sT _ WF).2;exact dQ (aP (aP (aP rfl (aP rfl (aZ rfl (VW ns)) (kJ k ns.length (by omega))) e) (aP rfl rfl rfl) (ON (by omega))) (aP (aP rfl rfl hkk) rfl (ON (by decide))) rfl) ⟨_,rfl,_,rfl⟩
 obtain⟨d,e,c,rfl⟩:=this;exact⟨c,e⟩
theorem Hm (c:Int){k:Int}(h0:0<=k)(h1:k<=1000)(hn:0<n):∃ v:Nat,wA [.int c,.int k,.int n]=aa (.int v)/\v<n:=by
 have:∃ d,wA [.int c,.int k,.int n]=aa d/\∃ v:Nat,d=.int v/\v<n:=by
  rw[12];have b:=sT c (show(0:Int)<((2147483629:Nat):Int) by omega)
  have hkk:=Int.mul_le_mul h1 h1 h0 (by omega)
  have hkk0:=Int.mul_nonneg h0 h0;have mk:fK (.int k) (.int k)=aa (.int (k*k)):=pE (by omega)
  obtain⟨A,hA⟩:∃ A:Int,A=c%((2147483629:Nat):Int)+5*k+1:=⟨_,rfl⟩;obtain⟨B,hB⟩:∃ B:Int,B=48271+k*k:=⟨_,rfl⟩;generalize k*k=q at *;have hAB:0<=A*B/\A*B<=2200000000*2000000:=⟨Int.mul_nonneg (by omega) (by omega),Int.mul_le_mul (by omega) (by omega) (by omega) (by omega)⟩
  refine cR (d:=.int (A*B)) (aP (aP (aP (aP rfl rfl (kJ c 2147483629 (by omega))) (aP rfl rfl (pE (by decide))) rfl) rfl (by rw[hA];rfl)) (aP rfl (aP rfl rfl mk) (by rw[hB];rfl)) (pE (by omega))) (by simp) ?_
  generalize A*B=N at hAB;have bd:=sT (N*N%((2147483647:Nat):Int)) (show(0:Int)<(n:Int) by omega)
  obtain⟨v,ev⟩:=Jw bd.1;exact dQ (aP (aP (aP rfl rfl (pE (by omega))) rfl (kJ _ 2147483647 (by omega))) rfl ((kJ _ n hn).trans (by rw[ev]))) ⟨_,rfl,v,rfl,by omega⟩
 obtain⟨d,e,c,rfl,h⟩:=this;exact⟨c,e,h⟩
theorem UJ{Y:List (Option aA)}{i:Int}(h:f Y=aa (.int i)):oS f Y=aa (aa i):=by
 unfold oS;rw[h]
 rfl
def Cl (ns:List Int)(C:Nat->Int):Prop:=∀ k:Nat,k<=1000->eZ [lI ns,.int k]=aa (.int (C k))
theorem Lv (ns:List Int):∃ C,Cl ns C:=⟨λk=>if h:k<=1000 then(Gh ns (k:=k) (by omega) (by omega)).choose else 0,λk h=>by
 show _=aa (aT (if h:k<=1000 then _ else 0))
 rw[dif_pos h];exact(Gh ns (by omega) (by omega)).choose_spec⟩
theorem Cl.at(h:Cl ns C)(hk:k<=1000){Y:List (Option aA)}(e0:Y[0]?.join=aa (lI ns))(e:f Y=aa (.int k)):aN eZ (aG (aB 0) (aG f aK)) Y=aa (.int (C k)):=aZ (aY e0 (aY e rfl)) (h k hk)
theorem add_n (a b:Nat):dC (.int a) (.int b)=aa (.int ((a+b:Nat):Int)):=by
 congr 2
theorem kU (c:Int)(h:0<n):∃ u:Nat,cY (.int c) (.int n)=aa (.int u)/\u<n/\c%(n:Int)=u:=by
 have b:=sT c (show(0:Int)<(n:Int) by omega)
 obtain⟨u,eu⟩:=Jw b.1;exact⟨u,(kJ c n h).trans (by rw[eu]),by omega,eu⟩
theorem IF {c n:Int}(h:0<n):cY (.int c) (.int n)=aa (.int (c%n)):=by
 show(if 0<n then aa (aT (c%n)) else ae)=_
 rw[if_pos h]
section
variable (hC:Cl ns C)
include hC
theorem KQ (n:Int):∃ v,rG [lI ns,.int n]=aa (.int v):=by
 have:∃ d,rG [lI ns,.int n]=aa d/\∃ v,d=.int v:=by
  rw[12];refine cR (d:=.int (C 1)) (hC.at (by omega) rfl rfl) (by simp) ?_
  obtain⟨u,eu,hu,_⟩:=kU (C 1/(3:Nat)) (n:=11) (by omega)
  refine cR (aP rfl (aP rfl (aP (aP rfl rfl (mS _ 3 (by omega))) rfl eu) (add_n 2 u)) (kJ n (2+u) (by omega))) (by simp) ?_
  generalize n%((2+u:Nat):Int)=n';have t1:bV .s (aw (ai qg (ai cY (aB 2) (eC (.int 3))) (eC (.int 0)))) [s0 (lI ns),s0 (.int n'),s0 (.int (C 1))]=aa (decide (C 1%(3:Nat)=0)):=eG (aP (aP rfl rfl (kJ _ 3 (by omega))) rfl (yQ _ _))
  by_cases h3:C 1%(3:Nat)=0
  .exact yW (jU (t1.trans (by rw[decide_eq_true h3])) (dQ rfl ⟨_,rfl,_,rfl,_,rfl⟩))
  .refine gF (kF (t1.trans (by rw[decide_eq_false h3]))) ?_
   let M:Int:=10^34*10^35
   have sg:ar (.list [.int 1,.int (-1)]) (.int (C 1%2))=aa (.int (if C 1%2=0 then 1 else -1)):=(Og _ _ _).trans (by split<;>rfl)
   exact dQ (aP (aP rfl (aP rfl rfl (IF (by decide))) sg) (aP (aP (aP rfl rfl (mS _ 33 (by omega))) (aP (aP rfl rfl (Hq (k:=34) (by omega))) (aP rfl rfl (Hq (k:=35) (by omega))) (Mw (by decide) (by decide))) (IF (by rw[0]))) rfl rfl) (pE (by split<;>decide))) ⟨_,rfl,_,rfl⟩
 obtain⟨d,e,v,rfl⟩:=this;exact⟨v,e⟩
end
def W3 (k:Nat):aE:=⟨#[97+k]⟩
def W4 (k:Nat):aE:=⟨#[98+k]⟩
def ij (c:Int)(k:Nat):aE:=if c%2=0 then iQ "lineofnames1" ae (aa (c/(2:Nat)%(6:Nat)))++W3 k else W4 k++iQ "lineofnames1" ae (aa (c/(2:Nat)%(12:Nat)))
theorem Ph:∀ k:Nat,k<5->ar (.str "abcdef") (.int k)=aa (.str (W3 k))/\ar (.str "bcdefa") (.int k)=aa (.str (W4 k))
 |0,_=>⟨rfl,rfl⟩
 |1,_=>⟨rfl,rfl⟩
 |2,_=>⟨rfl,rfl⟩
 |3,_=>⟨rfl,rfl⟩
 |4,_=>⟨rfl,rfl⟩
 |k+5,h=>absurd h (by omega)
theorem Tr:∀ k:Fin 5,(cM (.str (W3 k.val))=af/\(W3 k.val).length<=1)/\cM (.str (W4 k.val))=af/\(W4 k.val).length<=1:=by rw[0]
theorem Anf:Al1 12 "lineofnames1":=⟨by rw[0],by rw[0]⟩
theorem To:∀ (q:Fin 6) (i j:Fin 5),iQ "lineofnames1" ae (aa (q.val:Int))++W3 i.val=iQ "lineofnames1" ae (aa (q.val:Int))++W3 j.val->i=j:=by rw[0]
theorem Ve:∀ (q:Fin 12) (i j:Fin 5),W4 i.val++iQ "lineofnames1" ae (aa (q.val:Int))=W4 j.val++iQ "lineofnames1" ae (aa (q.val:Int))->i=j:=by rw[0]
theorem Rf (c:Int)(hi:i<5)(hj:j<5)(h:ij c i=ij c j):i=j:=by
 unfold ij at h;obtain⟨q,_,hq,eq⟩:=kU (c/(2:Nat)) (n:=6) (by omega)
 obtain⟨r,_,hr,er⟩:=kU (c/(2:Nat)) (n:=12) (by omega)
 rw[eq,er] at h;split at h
 .exact congrArg Fin.val (To ⟨q,hq⟩ ⟨i,hi⟩ ⟨j,hj⟩ h)
 .exact congrArg Fin.val (Ve ⟨r,hr⟩ ⟨i,hi⟩ ⟨j,hj⟩ h)
section
variable (hC:Cl ns C)
include hC
theorem JE(hk:k<5):pO [lI ns,.int k]=aa (.str (ij (C 2) k))/\cM (.str (ij (C 2) k))=af:=by
 obtain⟨wa,wb⟩:=Tr ⟨k,hk⟩;obtain⟨ia,ib⟩:=Ph k hk;unfold ij;have:∃ d,pO [lI ns,.int k]=aa d/\d=.str (ij (C 2) k):=by
  rw[12];refine cR (d:=.int (C 2)) (hC.at (by omega) rfl rfl) (by simp) ?_
  refine cR rfl (by simp) ?_
  have t1:bV .s (aw (ai qg (ai cY (aB 2) (eC (.int 2))) (eC (.int 0)))) [s0 (lI ns),s0 (.int k),s0 (.int (C 2)),s0 (.str "lineofnames1")]=aa (decide (C 2%2=0)):=eG (aP (aP rfl rfl (IF (by decide))) rfl (yQ _ _))
  have cut:∀ n:Nat,0<n->W1 (aB 3) oN (oS (ai cY (ai fL (aB 2) (eC (.int 2))) (eC (.int n)))) (vS [s0 (lI ns),s0 (.int k),s0 (.int (C 2)),s0 (.str "lineofnames1")])=aa (.str (iQ "lineofnames1" ae (aa (C 2/(2:Nat)%(n:Nat))))):=λn h=>Sk Anf (by omega) rfl rfl (UJ (aP (aP rfl rfl (mS _ 2 (by omega))) rfl (kJ _ n h)))
  by_cases h2:C 2%2=0
  .refine yW (jU (t1.trans (by rw[decide_eq_true h2])) (dQ (aP (cut 6 (by omega)) (aP rfl rfl ia) ((XT (Anf.cut _ _) wa (by omega)).trans (by unfold ij;rw[if_pos h2]))) ⟨_,rfl,_,rfl,rfl⟩))
  .refine gF (kF (t1.trans (by rw[decide_eq_false h2]))) (dQ (aP (aP rfl rfl ib) (cut 12 (by omega)) ((XT wb (Anf.cut _ _) (by omega)).trans (by unfold ij;rw[if_neg h2]))) ⟨_,rfl,rfl⟩)
 obtain⟨d,e,rfl⟩:=this;refine⟨e,?_⟩;split
 .exact((Anf.cut ae _).cat wa).1
 .exact(Al1.cat wb (Anf.cut ae _)).1
end
theorem Vq{P:Out->Prop}{q:Int}(hg:getL j Y=aa ds)(hk:g (vS Y)=aa (.int q))(hd:mn ds q=aa d)(hl:i<Y.length)(k:P (.nx (Y.set i (aa (0,d))))):Goes (CL i j .s g) Y P:=⟨_,by
 unfold CL;rw[hg,bM];show((g (vS Y)).bind _)=_;rw[hk,bM];show((mn ds q).bind λd=>if i<Y.length then aa (Out.nx (Y.set i (aa (0,d)))) else ae)=_
 rw[hd,bM,if_pos hl],k⟩
theorem v8 (cs:List Nat):qL (cs.map λ(c:Nat)=>aT c)=aa (cs.map λ(c:Nat)=>(c:Int)):=by
 induction cs with
 |nil=>rfl
 |cons c cs ih=>
  show((qL (cs.map λ(c:Nat)=>aT c)).bind λis=>aa ((c:Int)::is))=_
  rw[ih]
  rfl
theorem G7(hl:L.length<64):∃ s:List Nat,KS [lN L]=aa (lN s)/\s.length<=L.length/\∀ m,m∈s↔m∈L:=by
 let I:=sortI (jD (L.map λ(c:Nat)=>(c:Int)))
 have pm:I.Perm (jD (L.map λ(c:Nat)=>(c:Int))):=Jf _ _
 have mem:∀ x,x∈I↔x∈L.map λ(c:Nat)=>(c:Int):=λx=>pm.mem_iff.trans (Ad8)
 refine⟨I.map Int.toNat,?_,?_,λm=>?_⟩
 .show((qL (L.map λ(c:Nat)=>aT c)).bind λis=>if is.length<64 then aa (oP ((sortI (jD is)).map aT)) else ae)=_
  rw[v8,bM,if_pos (by simpa using hl)]
  show aa (oP (I.map aT))=aa (oP ((I.map Int.toNat).map λ(c:Nat)=>aT c))
  rw[dS];refine congrArg (λx=>aa (oP x)) (nN λx mx=>?_)
  obtain⟨c,_,rfl⟩:=bL.1 ((mem x).1 mx)
  rfl
 .rw[cD,pm.length_eq];exact dA (LY _) (by simp)
 .rw[23]
  .intro h;obtain⟨x,mx,rfl⟩:=bL.1 h;obtain⟨c,mc,rfl⟩:=bL.1 ((mem x).1 mx);exact mc
  .exact λh=>bL.2 ⟨(m:Int),(mem _).2 (bL.2 ⟨m,h,rfl⟩),rfl⟩
abbrev lS (ss:List (List Nat)):aA:=.list (ss.map lN)
theorem TR(h:i<ss.length):ar (lS ss) (.int i)=aa (lN (ss.getD i [])):=DU (getD_some [] h)
theorem UL {ms:List Nat}(h:i<ms.length):∃ m∈ms,ar (lN ms) (.int i)=aa (.int m):=Lo h
structure StG (up:Nat->Nat)(ss:List (List Nat)):Prop where
 own:∀ k,k<ss.length->k∈ss.getD k []
 le:∀ k,k<ss.length->∀ m∈ss.getD k [],m<=k
 hang:∀ k,k<ss.length->0<k->∀ m∈ss.getD k [],m=k\/m∈ss.getD (up k) []
 len:∀ s∈ss,1<=s.length/\s.length<=4
def mw (C:Nat->Int)(k:Nat):Nat:=(C (3+k)%(k:Int)).toNat
theorem wK (C:Nat->Int)(h:0<k):mw C k<k/\C (3+k)%(k:Int)=mw C k:=by
 have b:=sT (C (3+k)) (show(0:Int)<(k:Int) by omega)
 unfold mw;omega
theorem EM:(ss++[s]).getD k []=if k=ss.length then s else ss.getD k []:=by
 by_cases h:k=ss.length
 .subst h;simp[iD]
 .rw[if_neg h,iD,iD];by_cases h2:k<ss.length
  .rw[xK h2]
  .rw[xJ (by simp;omega),xJ (by omega)]
theorem StG.snoc {up:Nat->Nat}(h:StG up ss)(hu:0<ss.length->up ss.length<ss.length)(hb:∀ k,0<k->k<ss.length->up k<k)(h1:ss.length∈s)(h2:∀ m∈s,m=ss.length\/(0<ss.length/\m∈ss.getD (up ss.length) []))(h3:s.length<=4):StG up (ss++[s]):=by
 have lt:∀ k,k<(ss++[s]).length->k=ss.length\/(k≠ss.length/\k<ss.length):=λk hk=>by simp at hk;omega
 refine⟨λk hk=>?_,λk hk m mm=>?_,λk hk k0 m mm=>?_,λx mx=>?_⟩
 .rw[EM];rcases lt k hk with e|⟨e,l⟩
  .rw[if_pos e,e];exact h1
  .rw[if_neg e];exact h.own k l
 .rw[EM] at mm;rcases lt k hk with e|⟨e,l⟩
  .rw[if_pos e] at mm;rcases h2 m mm with q|⟨q,mm⟩
   .omega
   .have:=h.le _ (hu q) m mm;have:=hu q;omega
  .rw[if_neg e] at mm;exact h.le k l m mm
 .rw[EM] at mm;rw[EM];rcases lt k hk with e|⟨e,l⟩
  .rw[if_pos e] at mm;subst e;have:=hu k0;rw[if_neg (by omega)]
   exact(h2 m mm).imp id And.right
  .rw[if_neg e] at mm;have:=hb k k0 l;rw[if_neg (by omega)]
   exact h.hang k l k0 m mm
 .rcases iC.1 mx with mx|mx
  .exact h.len x mx
  .rw[cB.1 mx];have:s≠[]:=λz=>by rw[z] at h1;simp at h1
   exact⟨List.length_pos_iff.2 this,h3⟩
theorem Wg(h:i<3):∃ v:Nat,1<=v/\v<=4/\ar (.list [.int 1,.int 2,.int 4]) (.int i)=aa (.int v):=by
 rcases(show i=0\/i=1\/i=2 by omega) with e|e|e<;>subst e
 .exact⟨1,by omega,by omega,rfl⟩
 .exact⟨2,by omega,by omega,rfl⟩
 .exact⟨4,by omega,by omega,rfl⟩
section
variable (hC:Cl ns C)
include hC
theorem Sf(hn:n<=5):∃ ss,AC [lI ns,.int n]=aa (lS ss)/\ss.length=n/\StG (mw C) ss:=by
 have:∃ d,AC [lI ns,.int n]=aa d/\∃ ss,d=lS ss/\ss.length=n/\StG (mw C) ss:=by
  rw[12];refine cR rfl (by simp) ?_
  let R:List (List Nat)->L2.Slot->L2.Slot->L2.Slot->L2.Slot->L2.Slot->aU:=λss x3 x4 x5 x6 x7=>[s0 (lI ns),s0 (.int n),aa (1,lS ss),x3,x4,x5,x6,x7]
  refine fM (λρ'=>∃ (ss:List (List Nat)) (x3 x4 x5 x6 x7:L2.Slot),ss.length=n/\StG (mw C) ss/\ρ'=R ss x3 x4 x5 x6 x7) ?_ ?_
  .refine mY (λi ρ'=>∃ (ss:List (List Nat)) (x3 x4 x5 x6 x7:L2.Slot),ss.length=i/\StG (mw C) ss/\ρ'=R ss x3 x4 x5 x6 x7) (ju (mV rfl (by omega))) ⟨[],ae,ae,ae,ae,ae,rfl,⟨by simp,by simp,by simp,by simp⟩,rfl⟩ ?_ ?_
   .rintro k _ hk ⟨ss,x3,x4,x5,x6,x7,hl,hs,rfl⟩;refine⟨R ss (s0 (.int k)) x4 x5 x6 x7,rfl,?_⟩;refine cR (WN (aY rfl rfl)) (by simp[R]) ?_
    refine fM (λρ'=>∃ (ms:List Nat) (x5 x6 x7:L2.Slot),(k∈ms/\ms.length<=4/\∀ m∈ms,m=k\/(0<k/\m∈ss.getD (mw C k) []))/\ρ'=R ss (s0 (.int k)) (aa (1,lN ms)) x5 x6 x7) ?_ ?_
    .by_cases k0:k=0
     .refine mT (by simp[eV,bV,aV,vS,ai,iq,aB,eC,aN,fP,aG,aK,aw,tj,bj,itemsOf,dC,pK,fK,cY,fL,yu,xg,yj,xh,cJ,eA,kI,wy,qg,cU,noDict,noDicts,jN,cP,bX,R,k0]) (oC ⟨_,rfl,[k],x5,x6,x7,⟨by simp,by simp,by simp⟩,rfl⟩)
     .have k1:0<k:=by omega
      obtain⟨ul,ue⟩:=wK C k1;refine jU (by simp[eV,bV,aV,vS,ai,iq,aB,eC,aN,fP,aG,aK,aw,tj,bj,itemsOf,dC,pK,fK,cY,fL,yu,xg,yj,xh,cJ,eA,kI,wy,qg,cU,noDict,noDicts,jN,cP,bX,R];omega) ?_
      refine cR (hC.at (by omega) rfl (aP rfl rfl (add_n 3 k))) (by simp[R]) ?_
      have hi:mw C k<ss.length:=by omega
      have ha:=hs.len _ (getD_mem [] hi);generalize hA:ss.getD (mw C k) []=ab at ha;refine fM (λρ'=>ρ'=R ss (s0 (.int k)) (aa (1,lN [k])) (s0 (.int (C (3+k)))) (s0 (lN ab)) x7) (Vq rfl (aP rfl rfl ((kJ _ k k1).trans (by rw[ue]))) (by rw[<-hA];exact TR hi) (by simp[R]) ⟨_,rfl,rfl⟩) ?_
      rintro _ rfl;have em:CB [.int 3,.int ab.length]=aa (.int ((min 3 ab.length:Nat):Int)):=by
       show aa (aT (if (ab.length:Int)<3 then(ab.length:Int) else 3))=_
       congr 2
       split<;>omega
      refine mY (λj ρ'=>∃ (ms:List Nat) (x7:L2.Slot),(k∈ms/\ms.length<=j+1/\∀ m∈ms,m=k\/(0<k/\m∈ab))/\ρ'=R ss (s0 (.int k)) (aa (1,lN ms)) (s0 (.int (C (3+k)))) (s0 (lN ab)) x7) (ju (mV (aY (aZ (aY rfl (aY (aZ rfl (uZ _)) rfl)) em) rfl) (by omega))) ⟨[k],x7,⟨by simp,by simp,by simp⟩,rfl⟩ ?_ ?_
      .rintro j _ hj ⟨ms,x7,⟨m1,m2,m3⟩,rfl⟩;refine⟨R ss (s0 (.int k)) (aa (1,lN ms)) (s0 (.int (C (3+k)))) (s0 (lN ab)) (s0 (.int j)),rfl,?_⟩;obtain⟨v,v1,v4,ev⟩:=Wg (i:=j) (by omega)
       have kv:0<k*v:=Nat.mul_pos k1 (by omega)
       have kw:k*v<=5*4:=GS (by omega) v4
       have em:fK (.int k) (.int v)=aa (.int ((k*v:Nat):Int)):=(pE (by omega)).trans (by rw[Jv])
       have tb:bV .s (aw (ai qg (ai cY (ai fL (aB 5) (ai fK (aB 3) (ai ar (fP (aG (eC (.int 1)) (aG (eC (.int 2)) (aG (eC (.int 4)) aK)))) (aB 7)))) (eC (.int 2))) (eC (.int 1)))) (R ss (s0 (.int k)) (aa (1,lN ms)) (s0 (.int (C (3+k)))) (s0 (lN ab)) (s0 (.int j)))=aa (decide (C (3+k)/((k*v:Nat):Int)%(2:Nat)=1)):=eG (aP (aP (aP rfl (aP rfl (aP rfl rfl ev) em) (mS _ (k*v) kv)) rfl (kJ _ 2 (by omega))) rfl (yQ _ _))
       by_cases q:C (3+k)/((k*v:Nat):Int)%(2:Nat)=1
       .obtain⟨i,ei,hi,_⟩:=kU ((j:Int)+C (3+k)/(8:Nat)) (n:=ab.length) (by omega)
        obtain⟨m,mm,em⟩:=UL hi;refine jU (tb.trans (by rw[decide_eq_true q])) (tD (aP rfl (aP (aP rfl (aP rfl rfl (mS _ 8 (by omega))) rfl) (aZ rfl (uZ _)) ei) em) rfl (by simp;omega) ⟨_,.inl rfl,ms++[m],s0 (.int j),⟨by simp[m1],by simp;omega,λx mx=>?_⟩,by simp[R]⟩)
        rcases iC.1 mx with mx|mx
        .exact m3 x mx
        .rw[cB.1 mx];exact .inr ⟨k1,mm⟩
       .exact mT (tb.trans (by rw[decide_eq_false q])) (oC ⟨_,.inl rfl,ms,s0 (.int j),⟨m1,by omega,m3⟩,rfl⟩)
      .rintro _ ⟨ms,x7,⟨m1,m2,m3⟩,rfl⟩;exact⟨_,rfl,ms,_,_,x7,⟨m1,by omega,m3⟩,rfl⟩
    rintro _ ⟨ms,x5,x6,x7,⟨m1,m2,m3⟩,rfl⟩;refine qZ ?_;show Goes _ (R ss (s0 (.int k)) (s0 (lN ms)) x5 x6 x7) _;obtain⟨s,es,ls,mem⟩:=G7 (L:=ms) (by omega)
    refine tD (aZ rfl es) rfl (by simp;omega) ⟨_,.inl rfl,ss++[s],s0 (.int k),s0 (lN ms),x5,x6,x7,by simp[hl],?_,by simp[R]⟩
    refine hs.snoc (λh=>(wK C h).1) (λk k0 _=>(wK C k0).1) (by rw[hl];exact(mem k).2 m1) (λm mm=>?_) (by omega)
    rw[hl];exact m3 m ((mem m).1 mm)
   .rintro _ ⟨ss,x3,x4,x5,x6,x7,hl,hs,rfl⟩;exact⟨_,rfl,ss,x3,x4,x5,x6,x7,hl,hs,rfl⟩
  rintro _ ⟨ss,x3,x4,x5,x6,x7,hl,hs,rfl⟩;exact qZ (dQ rfl ⟨_,rfl,ss,rfl,hl,hs⟩)
 obtain⟨d,e,ss,rfl,h⟩:=this;exact⟨ss,e,h⟩
end
def TAB:List aE:=["t","u","tt","ut","a","b","c","tu"]
def J' (t:aE):Nat:=if t = "t" \/ t = "u" then 1 else if t = "tt" \/ t = "ut" then 2 else if t = "a" \/ t = "b" then 3 else 4
theorem Sl (t:aE):1<=J' t:=by
 unfold J';split
 .omega
 .split
  .omega
  .split<;>omega
theorem Nd {w b:Nat}(h1:1<=w)(h4:w<=4)(hb:b<2):∃ t∈TAB,J' t=w/\ar (.list (TAB.map dP)) (.int (2*(w:Int)-1-(b:Int)))=aa (.str t):=by
 rcases(show w=1\/w=2\/w=3\/w=4 by omega) with e|e|e|e<;>rcases(show b=0\/b=1 by omega) with f|f<;>subst e<;>subst f
 .exact⟨"u",by rw[0],by rw[0],rfl⟩
 .exact⟨"t",by rw[0],by rw[0],rfl⟩
 .exact⟨"ut",by rw[0],by rw[0],rfl⟩
 .exact⟨"tt",by rw[0],by rw[0],rfl⟩
 .exact⟨"b",by rw[0],by rw[0],rfl⟩
 .exact⟨"a",by rw[0],by rw[0],rfl⟩
 .exact⟨"tu",by rw[0],by rw[0],rfl⟩
 .exact⟨"c",by rw[0],by rw[0],rfl⟩
theorem Gw {t:aE}(h:t∈TAB):cM (.str t)=af:=(by rw[0]:∀ t∈TAB,cM (.str t)=af) t h
structure LnG (N:Nat->aE)(s:List Nat)(l:Ln):Prop where
 tab:l.1∈TAB
 wd:J' l.1=l.2.length
 w1:1<=l.2.length
 w4:l.2.length<=4
 trm:∀ x∈l.2,(∃ i,x=.inl i)\/∃ m∈s,x=.inr (N m)
 all:∀ m∈s,(.inr (N m):aI)∈l.2
theorem C0:(ls++[l]).getD k bo=if k=ls.length then l else ls.getD k bo:=by
 by_cases h:k=ls.length
 .subst h;simp[iD]
 .rw[if_neg h,iD,iD];by_cases h2:k<ls.length
  .rw[xK h2]
  .rw[xJ (by simp;omega),xJ (by omega)]
section
variable (hC:Cl ns C)
include hC
theorem Wk(hs:StG (mw C) ss)(h5:ss.length<=5):∃ ls:List Ln,AI [lI ns,lS ss]=aa (az ls)/\ls.length=ss.length/\∀ k,k<ls.length->LnG (ij (C 2)) (ss.getD k []) (ls.getD k bo):=by
 have:∃ d,AI [lI ns,lS ss]=aa d/\∃ ls:List Ln,d=az ls/\ls.length=ss.length/\∀ k,k<ls.length->LnG (ij (C 2)) (ss.getD k []) (ls.getD k bo):=by
  rw[12];refine cR rfl (by simp) ?_
  let R:List Ln->L2.Slot->L2.Slot->L2.Slot->L2.Slot->L2.Slot->L2.Slot->aU:=λls x3 x4 x5 x6 x7 x8=>[s0 (lI ns),s0 (lS ss),aa (1,.list (ls.map bC)),x3,x4,x5,x6,x7,x8]
  have lss:cJ [lS ss]=aa (.int ss.length):=by simp[cJ]
  refine fM (λρ'=>∃ (ls:List Ln) (x3 x4 x5 x6 x7 x8:L2.Slot),ls.length=ss.length/\(∀ k,k<ls.length->LnG (ij (C 2)) (ss.getD k []) (ls.getD k bo))/\ρ'=R ls x3 x4 x5 x6 x7 x8) ?_ ?_
  .refine mY (λi ρ'=>∃ (ls:List Ln) (x3 x4 x5 x6 x7 x8:L2.Slot),ls.length=i/\(∀ k,k<ls.length->LnG (ij (C 2)) (ss.getD k []) (ls.getD k bo))/\ρ'=R ls x3 x4 x5 x6 x7 x8) (ju (mV (aY (aZ rfl lss) rfl) (by omega))) ⟨[],ae,ae,ae,ae,ae,ae,rfl,by simp,rfl⟩ ?_ ?_
   .rintro k _ hk ⟨ls,x3,x4,x5,x6,x7,x8,hl,nr,rfl⟩;refine⟨R ls (s0 (.int k)) x4 x5 x6 x7 x8,rfl,?_⟩;have WP:=TR hk;have av:=hs.len _ (getD_mem [] hk);have ur:=hs.le k hk;generalize hS:ss.getD k []=s at WP av ur
    let c:=C (8+k)
    refine cR (hC.at (by omega) rfl (aP rfl rfl (add_n 8 k))) (by simp[R]) ?_
    obtain⟨u,eu,hu,_⟩:=kU c (n:=4) (by omega)
    obtain⟨w,hw,w1,w4,wm⟩:∃ w:Nat,uP [.int s.length,.int ((1+u:Nat):Int)]=aa (.int w)/\1<=w/\w<=4/\s.length<=w:=by
     refine⟨max s.length (1+u),?_,by omega,by omega,by omega⟩
     show aa (aT (if ((1+u:Nat):Int) > (s.length:Int) then((1+u:Nat):Int) else(s.length:Int)))=_
     congr 2
     split<;>omega
    refine cR (aZ (aY (aZ (aY (aP rfl rfl WP) rfl) (uZ s)) (aY (aP rfl (aP rfl rfl eu) (add_n 1 u)) rfl)) hw) (by simp[R]) ?_
    refine cR rfl (by simp[R]) ?_
    let A:List aI->L2.Slot->L2.Slot->aU:=λks x7 x8=>R ls (s0 (.int k)) (s0 (.int c)) (s0 (.int w)) (aa (1,lK ks)) x7 x8
    let G:List aI->Prop:=λks=>∀ x∈ks,(∃ i,x=.inl i)\/∃ m∈s,x=.inr (ij (C 2) m)
    have nev:∀ m∈s,pO [lI ns,.int m]=aa (.str (ij (C 2) m)):=λm mm=>(JE hC (by have:=ur m mm;omega)).1
    refine fM (λρ'=>∃ (ks:List aI) (x7 x8:L2.Slot),ks.length=w/\G ks/\ρ'=A ks x7 x8) ?_ ?_
    .refine mY (λi ρ'=>∃ (ks:List aI) (x7 x8:L2.Slot),ks.length=i/\G ks/\ρ'=A ks x7 x8) (ju (mV rfl (by omega))) ⟨[],x7,x8,rfl,by simp[G],rfl⟩ ?_ ?_
     .rintro j _ hj ⟨ks,x7,x8,nh,ya,rfl⟩;refine⟨A ks (s0 (.int j)) x8,rfl,?_⟩
      let v:=C (13+4*k+j)
      have e4:fK (.int 4) (.int k)=aa (.int ((4*k:Nat):Int)):=(pE (by decide)).trans (by rw[Jv];rfl)
      refine cR (hC.at (by omega) rfl (aP (aP rfl (aP rfl rfl e4) (add_n 13 (4*k))) rfl (add_n (13+4*k) j))) (by simp[A,R]) ?_
      have fin:∀ {t:aI} {f:EF},f (vS (A ks (s0 (.int j)) (s0 (.int v))))=aa (kD t)->((∃ i,t=.inl i)\/∃ m∈s,t=.inr (ij (C 2) m))->Goes (iF 6 .s f) (A ks (s0 (.int j)) (s0 (.int v))) λo=>∃ ρ2,(o=.nx ρ2\/o=.ct ρ2)/\∃ (ks:List aI) (x7 x8:L2.Slot),ks.length=j+1/\G ks/\ρ2=A ks x7 x8:=λ{t f} h ht=>
       tD h rfl (by simp;omega) ⟨_,.inl rfl,ks++[t],s0 (.int j),s0 (.int v),by simp[nh],λy my=>by
        rcases iC.1 my with r|r
        .exact ya y r
        .rw[cB.1 r];exact ht,by simp[A,R,lK]⟩
      have t3:bV .s (aw (ai qg (ai cY (aB 8) (eC (.int 3))) (eC (.int 0)))) (A ks (s0 (.int j)) (s0 (.int v)))=aa (decide (v%(3:Nat)=0)):=eG (aP (aP rfl rfl (kJ v 3 (by omega))) rfl (yQ _ _))
      have d3:ai fL (aB 8) (eC (.int 3)) (vS (A ks (s0 (.int j)) (s0 (.int v))))=aa (.int (v/(3:Nat))):=aP rfl rfl (mS v 3 (by omega))
      by_cases h3:v%(3:Nat)=0
      .obtain⟨y,ey⟩:=KQ hC (v/(3:Nat));exact jU (t3.trans (by rw[decide_eq_true h3])) (fin (t:=.inl y) (aZ (aY rfl (aY d3 rfl)) ey) (.inl ⟨_,rfl⟩))
      .obtain⟨i,ei,hi,_⟩:=kU (v/(3:Nat)) (n:=s.length) (by omega)
       obtain⟨m,mm,em⟩:=UL hi;exact mT (t3.trans (by rw[decide_eq_false h3])) (fin (t:=.inr (ij (C 2) m)) (aZ (aY rfl (aY (aP (aP rfl rfl WP) (aP d3 (aZ (aY (aP rfl rfl WP) rfl) (uZ s)) ei) em) rfl)) (nev m mm)) (.inr ⟨m,mm,rfl⟩))
     .rintro _ ⟨ks,x7,x8,nh,ya,rfl⟩;exact⟨_,rfl,ks,x7,x8,nh,ya,rfl⟩
    rintro _ ⟨ks,x7,x8,nh,ya,rfl⟩
    let f:=c/(4:Nat)
    have un:∀ i j:Nat,i<w->j<w->(f+i)%(w:Int)=(f+j)%(w:Int)->i=j:=λi j hi hj e=>by
     rcases(show w=1\/w=2\/w=3\/w=4 by omega) with q|q|q|q<;>subst q<;>omega
    refine fM (λρ'=>∃ (ks:List aI) (x7:L2.Slot),ks.length=w/\G ks/\(∀ i,i<s.length->∀ p:Nat,(f+i)%(w:Int)=p->ks[p]?=aa (.inr (ij (C 2) (s.getD i 0))))/\ρ'=A ks x7 x8) ?_ ?_
    .refine mY (λj ρ'=>∃ (ks:List aI) (x7:L2.Slot),ks.length=w/\G ks/\(∀ i,i<j->∀ p:Nat,(f+i)%(w:Int)=p->ks[p]?=aa (.inr (ij (C 2) (s.getD i 0))))/\ρ'=A ks x7 x8) (ju (mV (aY (aZ (aY (aP rfl rfl WP) rfl) (uZ s)) rfl) (by omega))) ⟨ks,x7,nh,ya,λi hi=>by omega,rfl⟩ ?_ ?_
     .rintro j _ hj ⟨ks,x7,nh,ya,hp,rfl⟩;refine⟨A ks (s0 (.int j)) x8,rfl,?_⟩;have mm:=getD_mem 0 hj;have em:ar (lN s) (.int j)=aa (.int (s.getD j 0:Nat)):=DU (getD_some 0 hj);obtain⟨p,ep,hpw,qp⟩:=kU (f+j) (n:=w) (by omega)
      refine Fl (aZ (aY rfl (aY (aP (aP rfl rfl WP) rfl em) rfl)) (nev _ mm)) rfl (aP (aP (aP rfl rfl (mS c 4 (by omega))) rfl rfl) rfl ep) (CP (by simp;omega)) ⟨_,.inl rfl,ks.set p (.inr (ij (C 2) (s.getD j 0))),s0 (.int j),by simpa using nh,λx mx=>?_,λi hi q hq=>?_,by simp[A,R,lK,List.map_set,kD]⟩
      .rcases List.mem_or_eq_of_mem_set mx with r|r
       .exact ya x r
       .exact .inr ⟨_,mm,r⟩
      .by_cases e:i=j
       .subst e;have:p=q:=by omega
        rw[19];rw[qG (by omega)]
       .have:p≠q:=λz=>e (un i j (by omega) (by omega) (by omega))
        rw[mJ this];exact hp i (by omega) q hq
     .rintro _ ⟨ks,x7,nh,ya,hp,rfl⟩;exact⟨_,rfl,ks,x7,nh,ya,hp,rfl⟩
    rintro _ ⟨ks,x7,nh,ya,hp,rfl⟩;obtain⟨b,eb,hb,_⟩:=kU (c/(24:Nat)) (n:=2) (by omega)
    obtain⟨t,mt,ht,et⟩:=Nd w1 w4 hb;have gl:LnG (ij (C 2)) s (t,ks):=⟨mt,by show J' t=ks.length;omega,by show 1<=ks.length;omega,by show ks.length<=4;omega,ya,λm mm=>by
     obtain⟨i,hi,em⟩:=rS mm;obtain⟨p,_,hpw,qp⟩:=kU (f+i) (n:=w) (by omega)
     have:=eU (hp i hi p qp)
     rwa [show s.getD i 0=m by rw[iD,fO hi,em];rfl] at this⟩
    refine qZ (tD (d:=bC (t,ks)) (uY (aY (aP rfl (aP (aP (aP rfl rfl (pE (by decide))) rfl rfl) (aP (aP rfl rfl (mS c 24 (by omega))) rfl eb) rfl) et) (aY (aZ rfl rfl) rfl))) rfl (by simp;omega) ⟨_,.inl rfl,ls++[(t,ks)],s0 (.int k),s0 (.int c),s0 (.int w),s0 (lK ks),x7,x8,by simp[hl],λi hi=>?_,by simp[A,R,frz]⟩)
    rw[C0];by_cases e:i=ls.length
    .rw[if_pos e,e,hl,hS];exact gl
    .rw[if_neg e];exact nr i (by simp at hi;omega)
   .rintro _ ⟨ls,x3,x4,x5,x6,x7,x8,hl,nr,rfl⟩;exact⟨_,rfl,ls,x3,x4,x5,x6,x7,x8,hl,nr,rfl⟩
  rintro _ ⟨ls,x3,x4,x5,x6,x7,x8,hl,nr,rfl⟩;exact qZ (dQ rfl ⟨_,rfl,ls,rfl,hl,nr⟩)
 obtain⟨d,e,ls,rfl,h⟩:=this;exact⟨ls,e,h⟩
theorem LnG.ok(g:LnG (ij (C 2)) s l)(h:∀ m∈s,m<5):gQ l:=⟨by have:=g.w4;omega,λx mx=>by
 rcases g.trm x mx with⟨i,rfl⟩|⟨m,mm,rfl⟩
 .rfl
 .exact(JE hC (h m mm)).2⟩
end
structure LsG (C:Nat->Int)(ss:List (List Nat))(ls:List Ln):Prop where
 st:StG (mw C) ss
 n5:ss.length<=5
 len:ls.length=ss.length
 ln:∀ k,k<ls.length->LnG (ij (C 2)) (ss.getD k []) (ls.getD k bo)
theorem LsG.m5(g:LsG C ss ls)(hk:k<ls.length):∀ m∈ss.getD k [],m<5:=λm mm=>by
 have:=g.st.le k (by rw[<-g.len];exact hk) m mm
 have:=g.n5;have:=g.len;omega
theorem LsG.one(g:LsG C ss ls):(cC ls).2.length<=1:=by
 refine Wm (mw C) λk k0 hk=>⟨(wK C k0).1,λz hz=>?_⟩
 have dz:k<ss.length:=by rw[<-g.len];exact hk
 obtain⟨ul,_⟩:=wK C k0;rcases(g.ln k hk).trm _ (Adn.1 hz) with⟨i,e⟩|⟨m,mm,e⟩
 .cases e
 cases e;rcases g.st.hang k dz k0 m mm with rfl|mm'
 .refine .inr λo ho hz=>?_
  rcases(g.ln o (by omega)).trm _ (Adn.1 hz) with⟨i,e⟩|⟨m',mm',e⟩
  .cases e
  .have e:=Sum.inr.inj e;have l1:=g.st.le o (by omega) m' mm'
   have l2:=g.m5 hk m mm;have:=Rf (C 2) l2 (by omega) e
   omega
 .exact .inl (Adn.2 ((g.ln (mw C k) (by omega)).all m mm'))
def TrG (N:Nat->aE)(l:Ln):Prop:=l.2.length<=6/\∀ x∈l.2,(∃ i,x=.inl i)\/∃ m,m<5/\x=.inr (N m)
section
variable (hC:Cl ns C)
include hC
theorem ZY (c:Int):∃ v:aE->Int,∀ l:Ln,TrG (ij (C 2)) l->nE [lI ns,bC l,.int c]=aa (bN (l.2.map (tv v))):=by
 obtain⟨D,hD⟩:∃ D:Nat->Int,∀ m:Nat,m<5->wA [.int c,.int m,.int 660]=aa (.int (D m)):=⟨λm=>if h:m<5 then((Hm c (k:=m) (by omega) (by omega) (n:=660) (by omega)).choose:Nat) else 0,λm h=>by
  show _=aa (aT (if h:m<5 then _ else 0))
  rw[dif_pos h];exact(Hm c (by omega) (by omega) (n:=660) (by omega)).choose_spec.1⟩
 obtain⟨V,hV⟩:∃ V:Int->Int,∀ n,rG [lI ns,.int n]=aa (.int (V n)):=⟨λn=>(KQ hC n).choose,λn=>(KQ hC n).choose_spec⟩
 let K:Nat->Kn:=λi=>(cK i).foldl (λkn m=>putN kn (ij (C 2) m) (V (D m))) []
 have K1:∀ i,K (i+1)=putN (K i) (ij (C 2) i) (V (D i)):=λi=>by
  show(cK (i+1)).foldl _ []=_;rw[List.range_succ,rT]
  rfl
 have KL:∀ i,(K i).length<=i/\∀ m,m<i->∃ u,cH (K i) (ij (C 2) m)=aa u:=λi=>by
  induction i with
  |zero=>exact⟨bD _,λm h=>by omega⟩
  |succ i ih=>
   rw[K1];refine⟨dA (Za _ _ _) (by omega),λm h=>?_⟩
   rw[u5];by_cases q:ij (C 2) m=ij (C 2) i
   .rw[if_pos q];exact⟨_,rfl⟩
   .rw[if_neg q];have:m≠i:=λe=>q (by rw[e])
    exact ih.2 m (by omega)
 refine⟨fD (K 5),λl g=>?_⟩
 have tl:rX (K 5) (fD (K 5)) l.2:=λz mz=>by
  rcases g.2 _ mz with⟨i,e⟩|⟨m,hm,e⟩
  .cases e
  .cases e;obtain⟨u,eu⟩:=(KL 5).2 m hm;unfold fD;rw[eu]
   rfl
 have:∃ d,nE [lI ns,bC l,.int c]=aa d/\d=bN (l.2.map (tv (fD (K 5)))):=by
  rw[12];refine cR rfl (by simp) ?_
  refine fM (λρ'=>∃ x,ρ'=[s0 (lI ns),s0 (bC l),s0 (.int c),aa (1,.dict (DN (K 5))),x]) ?_ ?_
  .refine mY (n:=5) (λi ρ'=>∃ x,ρ'=[s0 (lI ns),s0 (bC l),s0 (.int c),aa (1,.dict (DN (K i))),x]) (ju (mV rfl (by omega))) ⟨ae,rfl⟩ ?_ ?_
   .rintro i _ hi ⟨x,rfl⟩;refine⟨[s0 (lI ns),s0 (bC l),s0 (.int c),aa (1,.dict (DN (K i))),s0 (.int i)],rfl,?_⟩;have kl:=(KL i).1;refine Fe (aZ (aY rfl (aY (aZ rfl (hD i hi)) rfl)) (hV _)) rfl (aZ rfl (JE hC hi).1) rfl (by simp[DN];omega) ⟨_,.inl rfl,s0 (.int i),?_⟩
    rw[Qn,K1]
    rfl
   .rintro _ ⟨x,rfl⟩;exact⟨_,rfl,x,rfl⟩
  rintro _ ⟨x,rfl⟩;refine qZ ?_;have e:=iK (cap:=[ae,aa 3]) (fi:=bj (ai ar (aB 1) (eC (.int 1)))) (T:=gB 0) (t:=cZ) (Y:=vS [s0 (lI ns),s0 (bC l),s0 (.int c),s0 (.dict (DN (K 5))),x]) (λ_=>af) (λk=>aT (tv (fD (K 5)) k)) (rB (aP rfl rfl rfl)) (by have:=g.1;omega) λk mk=>⟨[aa (kD k),aa (gi (K 5))],rfl,rfl,λ_=>Hh tl mk⟩
  rw[mK.2 λ_ _=>rfl] at e
  refine dQ (aZ (aY e rfl) ?_) ⟨_,rfl,rfl⟩;show aa (cL _)=aa (cL ((l.2.map (tv (fD (K 5)))).map aT));rw[dS]
  rfl
 rw[2]
end
theorem CQ {t:aE}:∀ {L:List Tb},t∈L.map (·.1)->∀ t',cz (kE L t R) t'=if t'=t then R else cz L t'
 |[],h,t'=>by simp at h
 |p::L,h,t'=>by
  have e:kE (p::L) t R=if p.1=t then(p.1,R)::L else p::kE L t R:=rfl
  rw[e];have ac:∀ (q:Tb) (M:List Tb),cz (q::M) t'=if q.1=t' then q.2 else cz M t':=λq M=>by
   unfold cz;rw[fF];by_cases z:q.1=t'
   .rw[decide_eq_true z,if_pos z];rfl
   .rw[decide_eq_false z,if_neg z]
  by_cases hp:p.1=t
  .rw[if_pos hp,ac,ac];by_cases q:t'=t
   .rw[if_pos q,if_pos (hp.trans q.symm)]
   .rw[if_neg q,if_neg (λz=>q (z.symm.trans hp)),if_neg (λz=>q (z.symm.trans hp))]
  .rw[if_neg hp,ac,ac];have h':t∈L.map (·.1):=by
    rcases cO.1 h with z|z
    .exact absurd z.symm hp
    .exact z
   rw[CQ h'];by_cases q:t'=t
   .rw[if_pos q,if_neg (λz=>hp (z.trans q)),if_pos q]
   .rw[if_neg q,if_neg q]
theorem Sh {A:List Tb}{t:aE}(h:t∉A.map (·.1))(R:List (List Int)):putD (gc A) (.inr t) (bA R)=gc (A++[(t,R)]):=by
 unfold putD;have hn:¬ ((gc A).any λkd=>decide (bR kd.1=aa (.inr t)))=af:=λq=>by
  obtain⟨kd,m,e⟩:=xO.1 q;obtain⟨p,mp,rfl⟩:=bL.1 m;have e:=of_decide_eq_true e;have e:=e;injection e with e;injection e with e;exact h (bL.2 ⟨p,mp,e⟩)
 rw[if_neg hn];unfold gc;rw[qF]
 rfl
theorem Bj:∀ (M A:List Tb),((A++M).map (·.1)).Nodup->sR (M.map λp=>(jA p.1,bA p.2)) (gc A)=gc (A++M)
 |[],A,_=>by simp[sR]
 |p::M,A,h=>by
  show sR (M.map λp=>(jA p.1,bA p.2)) (putD (gc A) (.inr p.1) (bA p.2))=_
  have hn:p.1∉A.map (·.1):=λm=>by
   rw[qF] at h;exact(qE.1 h).2.2 p.1 m p.1 (by simp) rfl
  rw[Sh hn,Bj M (A++[(p.1,p.2)]) (by simpa using h)]
  simp
theorem WZ:∀ L:List Tb,sE (L.map λp=>cL [.str p.1,bA p.2])=aa (L.map λp=>(jA p.1,bA p.2))
 |[]=>rfl
 |p::L=>by
  show((sE (L.map λp=>cL [.str p.1,bA p.2])).bind λr=>aa ((jA p.1,bA p.2)::r))=_
  rw[WZ L]
  rfl
theorem XM {L:List Tb}(nd:(L.map (·.1)).Nodup):yD [.list (L.map λp=>cL [.str p.1,bA p.2])]=aa (.dict (gc L)):=by
 show((sE (L.map λp=>cL [.str p.1,bA p.2])).bind λps=>aa (PyData.dict (sR ps [])))=_
 rw[WZ,bM,show([]:List (aA×aA))=gc [] from rfl,Bj L [] (by simpa using nd)]
 rfl
theorem B3 {L:List Tb}(ly:∀ p∈L,cM (.str p.1)=af){Y:List (Option aA)}(h:f Y=aa (.dict (gc L))):U9 f Y=aa (L.map λp=>cL [.str p.1,bA p.2]):=by
 unfold U9;rw[h];show(if (jg (gc L)&&(gc L).all λkd=>cM kd.1)=af then aa ((gc L).map λkd=>cL [kd.1,kd.2]) else ae)=_
 rw[VS,BW,if_pos (dW.2 λkd m=>by
  obtain⟨p,mp,rfl⟩:=bL.1 m;exact ly p mp)]
 unfold gc;rw[dS]
 rfl
def yw (r:List Int):aA×aA:=(bN r,.bool af)
def wt (R:List (List Int)):aA:=.dict ((.none,.none)::R.map yw)
def jf (L:List Tb):List (aA×aA):=L.map λp=>(dP p.1,wt p.2)
theorem Mq (L:List Tb):jg (jf L)=af:=by cases L<;>rfl
theorem DL {t:aE}:∀ {L:List Tb},t∈L.map (·.1)->bI (jf L) (.inr t)=aa (wt (cz L t))
 |[],h=>by simp at h
 |p::L,h=>by
  show bI ((.str p.1,wt p.2)::jf L) (.inr t)=_;unfold cz;rw[vX,fF];by_cases e:p.1=t
  .rw[if_pos (by rw[e];rfl),decide_eq_true e];rfl
  .rw[if_neg (λz=>e (by injection z with z;injection z)),decide_eq_false e]
   exact DL ((cO.1 h).resolve_left λz=>e z.symm)
theorem XD {t:aE}:∀ {L:List Tb},t∉L.map (·.1)->bI (jf L) (.inr t)=ae
 |[],_=>rfl
 |p::L,h=>by
  show bI ((.str p.1,wt p.2)::jf L) (.inr t)=_;have h':t≠p.1/\t∉L.map (·.1):=by simpa using h
  rw[vX,if_neg (λz=>h'.1 (by injection z with z;injection z with z;exact z.symm)),XD h'.2]
theorem PJ (t:aE)(R:List (List Int)):∀ L:List Tb,lF (jf L) (.inr t) (wt R)=jf (kE L t R)
 |[]=>rfl
 |p::L=>by
  show(if bR (.str p.1)=aa (.inr t) then(dP p.1,wt R)::jf L else(dP p.1,wt p.2)::lF (jf L) (.inr t) (wt R))=jf (if p.1=t then(p.1,R)::L else p::kE L t R)
  by_cases h:p.1=t
  .rw[if_pos (by rw[h];rfl),if_pos h];rfl
  .rw[if_neg (λe=>h (by injection e with e;injection e)),if_neg h,PJ t R L];rfl
def nF (R:List (List Int))(r:List Int):List (List Int):=if r∈R then R else R++[r]
theorem Qx (R:List (List Int))(r:List Int):(iU (R.map yw) (r.map aT)).isSome=decide (r∈R):=by
 unfold iU;rw[List.find?_map,Option.map_map,QR,lV,List.find?_isSome,decide_eq_true_eq];rw[23]
 .rintro⟨x,mx,e⟩;have e:bX (bN x) (bN r)=af:=e;rw[EC,decide_eq_true_eq] at e;exact e ▸ mx
 .intro m;exact⟨r,m,by show bX (bN r) (bN r)=af;rw[EC];simp⟩
theorem Pp (R:List (List Int))(r:List Int):lD (R.map yw) (r.map aT) (.bool af)=(nF R r).map yw:=by
 unfold lD nF;rw[Qx];by_cases h:r∈R
 .rw[decide_eq_true h,if_pos rfl,if_pos h,dS];refine nN λx _=>?_
  show(if bX (bN x) (bN r)=af then(bN x,jO af) else yw x)=yw x
  split<;>rfl
 .rw[decide_eq_false h,if_neg (by simp),if_neg h,qF]
  rfl
structure BG (n:Nat)(L:List Tb):Prop where
 nd:(L.map (·.1)).Nodup
 tab:∀ t∈L.map (·.1),t∈TAB
 rows:∀ t,(cz L t).Nodup/\(cz L t).length<=n/\∀ r∈cz L t,r.length=J' t
theorem BG.len{L:List Tb}(h:BG n L):L.length<=8:=by
 have:=HB h.nd h.tab;rw[cD] at this;exact this
theorem BG.put {n':Nat}{L:List Tb}(h:BG n L)(hn:n<=n'){t:aE}(ht:t∈L.map (·.1))(hl:(cz L t).length+1<=n')(hr:r.length=J' t):BG n' (kE L t (nF (cz L t) r))/\(∀ t' x,x∈cz L t'->x∈cz (kE L t (nF (cz L t) r)) t')/\r∈cz (kE L t (nF (cz L t) r)) t:=by
 have ad:∀ x,x∈nF (cz L t) r↔x∈cz L t\/x=r:=λx=>by
  unfold nF;by_cases q:r∈cz L t
  .rw[if_pos q];exact⟨.inl,λz=>z.elim id λe=>e ▸ q⟩
  .rw[if_neg q,iC,cB]
 refine⟨⟨by rw[zF];exact h.nd,by rw[zF];exact h.tab,λt'=>?_⟩,λt' x mx=>?_,?_⟩
 .rw[CQ ht];obtain⟨a1,a2,a3⟩:=h.rows t';by_cases e:t'=t
  .subst e;rw[if_pos rfl];refine⟨?_,?_,λx mx=>((ad x).1 mx).elim (a3 x) λe=>e ▸ hr⟩
   .unfold nF;split
    .exact a1
    .rename_i q;exact qE.2 ⟨a1,by simp,λa ha b hb z=>q (by rw[<-cB.1 hb,<-z];exact ha)⟩
   .unfold nF;split
    .omega
    .rw[oU];simp;omega
  .rw[if_neg e];exact⟨a1,by omega,a3⟩
 .rw[CQ ht];by_cases e:t'=t
  .rw[if_pos e];exact(ad x).2 (.inl (e ▸ mx))
  .rw[if_neg e];exact mx
 .rw[CQ ht,if_pos rfl];exact(ad r).2 (.inr rfl)
theorem BG.bk {L:List Tb}(h:BG 60 L):Bk (gc L) (cz L) J':=⟨VS L,Ov L,λt=>by have:=(h.rows t).2.1;omega,Sl,λt=>(h.rows t).2.2⟩
theorem WY{h:EF}{L:List Tb}{t:aE}(hg:sM i Y 10=aa (jf L))(hk:g (vS Y)=aa (.str t))(ht:t∈L.map (·.1))(hr:h (vS Y)=aa (bN r))(hl:(cz L t).length<=60) :
  yG i .s (eC (.bool af)) .s g .s h Y=aa (.nx (Y.set i (aa (10,.dict (jf (kE L t (nF (cz L t) r))))))):=by
 have d:=zM r;unfold yG;rw[show eV 0 .s (eC (.bool af)) Y=aa (.bool af) from rfl,bM,hg,bM,show eV 0 .s g Y=aa (.str t) from hk,bM]
 show((bI (jf L) (.inr t)).bind _)=_;rw[DL ht,bM];show((eV 0 .s h Y).bind _)=_;rw[show eV 0 .s h Y=aa (bN r) from hr,bM]
 refine(if_pos ⟨⟨⟨vN r,by omega⟩,rfl⟩,by rw[cD];exact vC (by omega)⟩).trans ?_
 rw[Pp,show lF (jf L) (.inr t) (.dict ((.none,.none)::(nF (cz L t) r).map yw))=_ from PJ t _ L]
theorem Vg{t:aE}(nd:T.Nodup)(h8:T.length<=1000)(hg:sM i Y 10=aa (jf (T.map (·,[]))))(hk:g (vS Y)=aa (.str t)) :
  sOr (sX i .s (eC (.dict [(.none,.none)])) .s g 10 9) (CW i .s (eC (.dict [(.none,.none)])) .s g 10 9) Y=aa (.nx (Y.set i (aa (10,.dict (jf ((eP T t).map (·,[]))))))):=by
 have ek:(T.map λz=>(z,([]:List (List Int)))).map (·.1)=T:=by rw[dS];exact RG T
 have ln:(jf (T.map (·,[]))).length<sizeLine:=by
  unfold jf;rw[cD,cD];exact vC (by omega)
 have e0:eV 9 .s (eC (.dict [(.none,.none)])) Y=aa (wt []):=rfl;have e1:eV 0 .s g Y=aa (.str t):=hk;unfold sOr;by_cases h:t∈T
 .have:sX i .s (eC (.dict [(.none,.none)])) .s g 10 9 Y=aa (.nx (Y.set i (aa (10,.dict (jf (T.map (·,[]))))))):=by
   unfold sX;rw[e0,bM,hg,bM,e1,bM];have nk:(wN (jf (T.map (·,[])))).Nodup:=by
    unfold wN jf;rw[dS,dS];exact qC.2 (nd.imp λh z=>h (by
     have z:=z;injection z with z;injection z))
   refine(if_pos ⟨⟨by rw[show bI (jf (T.map (·,[]))) (.inr t)=_ from DL (by rw[ek];exact h)];rfl,nk⟩,ln⟩).trans ?_
   rw[show lF (jf (T.map (·,[]))) (.inr t) (wt [])=_ from PJ t [] _]
   have:∀ T:List aE,kE (T.map (·,[])) t []=T.map (·,[]):=λT=>by
    induction T with
    |nil=>rfl
    |cons z T ih=>
     show(if z=t then(z,[])::T.map (·,[]) else(z,[])::kE (T.map (·,[])) t [])=_
     rw[ih];split<;>rfl
   rw[this]
  rw[this];unfold eP;rw[if_pos h]
  rfl
 .have n1:=XD (by rw[ek];exact h)
  have:sX i .s (eC (.dict [(.none,.none)])) .s g 10 9 Y=ae:=by
   unfold sX;rw[e0,bM,hg,bM,e1,bM];exact if_neg λz=>by
    have z:=z.1.1;rw[show bI (jf (T.map (·,[]))) _=ae from n1] at z
    cases z
  rw[this];unfold CW;rw[e0,bM,hg,bM,e1,bM];unfold eP;rw[if_neg h,qF];refine(if_pos ⟨n1,ln⟩).trans ?_;unfold jf;rw[qF]
  rfl
theorem Azk{t:aE}:z∈eP T t↔z∈T\/z=t:=by
 unfold eP;by_cases h:t∈T
 .rw[if_pos h];exact⟨.inl,λq=>q.elim id λe=>e ▸ h⟩
 .rw[if_neg h,iC,cB]
theorem Rx{t:aE}(h:T.Nodup):(eP T t).Nodup:=by
 unfold eP;by_cases q:t∈T
 .rw[if_pos q];exact h
 .rw[if_neg q];exact qE.2 ⟨h,by simp,λa ha b hb z=>q (by rw[<-cB.1 hb,<-z];exact ha)⟩
theorem ES {α:Type}{xs:List α}{x y:α}(h:xs[i]?=aa x):y∈xs.take (i+1)↔y∈xs.take i\/y=x:=by
 rw[uE,h];simp
structure LtG (N:Nat->aE)(l:Ln):Prop where
 trm:TrG N l
 tab:l.1∈TAB
 wd:J' l.1=l.2.length
section
variable (hC:Cl ns C)
include hC
theorem Tf {v:Int->aE->Int}(hv:∀ c l,TrG (ij (C 2)) l->nE [lI ns,bC l,.int c]=aa (bN (l.2.map (tv (v c))))){ls:List Ln}(nr:∀ l∈ls,LtG (ij (C 2)) l)(hn:ls.length<=5){q9:Nat}(hq:q9<9)(eq:C 0/(5:Nat)%(9:Nat)=q9) :
  ∃ L,FL [lI ns,az ls]=aa (.dict (gc L))/\BG 60 L/\(∀ l∈ls,l.1∈L.map (·.1))/\∀ j,j<1+q9->∀ l∈ls,l.2.map (tv (v (C (33+j))))∈cz L l.1:=by
 let R:List Tb->L2.Slot->L2.Slot->L2.Slot->L2.Slot->aU:=λL x3 x4 x5 x6=>[s0 (lI ns),s0 (az ls),aa (10,.dict (jf L)),x3,x4,x5,x6]
 have go:Goes NF [s0 (lI ns),s0 (az ls),ae,ae,ae,ae,ae] λo=>∃ L,o=.rt (.dict (gc L))/\BG 60 L/\(∀ l∈ls,l.1∈L.map (·.1))/\∀ j,j<1+q9->∀ l∈ls,l.2.map (tv (v (C (33+j))))∈cz L l.1:=by
  refine gF rfl ?_;refine fM (λρ'=>∃ L x3,BG 0 L/\(∀ l∈ls,l.1∈L.map (·.1))/\ρ'=R L x3 ae ae ae) ?_ ?_
  .refine qY (λi ρ'=>∃ (T:List aE) (x3:L2.Slot),T.Nodup/\(∀ t∈T,t∈TAB)/\(∀ l∈ls.take i,l.1∈T)/\ρ'=R (T.map (·,[])) x3 ae ae ae) (ju (rB rfl)) ⟨[],ae,.nil,by simp,by simp,rfl⟩ ?_ ?_
   .rintro i d _ hd ⟨T,x3,h1,h2,h3,rfl⟩;rw[eE] at hd;obtain⟨l,hl,rfl⟩:=fZ.1 hd;have ml:=eU hl;have tl:T.length<=8:=HB h1 h2;refine⟨R (T.map (·,[])) (s0 (bC l)) ae ae ae,rfl,_,Vg h1 (by omega) rfl (aP rfl rfl rfl),_,.inl rfl,eP T l.1,s0 (bC l),Rx h1,λt m=>(Azk.1 m).elim (h2 t) λe=>e ▸ (nr l ml).tab,λx mx=>Azk.2 (((ES hl).1 mx).imp (h3 x) λe=>by rw[e]),rfl⟩
   .rintro _ ⟨T,x3,h1,h2,h3,rfl⟩;rw[cD,rQ] at h3;have ek:(T.map λz=>(z,([]:List (List Int)))).map (·.1)=T:=by rw[dS];exact RG T
    have em:∀ t,cz (T.map (·,[])) t=[]:=λt=>by
     refine List.eq_nil_iff_forall_not_mem.2 λr m=>?_
     obtain⟨p,mp,_,e⟩:=Uw m;obtain⟨z,_,rfl⟩:=bL.1 mp;rw[<-e] at m;simp at m
    exact⟨_,rfl,T.map (·,[]),x3,⟨by rw[ek];exact h1,by rw[ek];exact h2,λt=>by rw[em];exact⟨.nil,bD _,by simp⟩⟩,by rw[ek];exact h3,rfl⟩
  rintro _ ⟨L,x3,g0,k0,rfl⟩
  let PL:Nat->List Tb->Prop:=λn L=>∀ j,j<n->∀ l∈ls,l.2.map (tv (v (C (33+j))))∈cz L l.1
  have ix0:∀ l:Ln,ar (bC l) (.int 0)=aa (.str l.1):=λl=>rfl
  refine fM (λρ'=>∃ L x3 x4,BG 60 L/\(∀ l∈ls,l.1∈L.map (·.1))/\PL (1+q9) L/\ρ'=R L x3 x4 ae ae) ?_ ?_
  .refine mY (λk ρ'=>∃ L x3 x4,BG (5*k) L/\(∀ l∈ls,l.1∈L.map (·.1))/\PL k L/\ρ'=R L x3 x4 ae ae) (ju (mV (aY (aP rfl (aP (aP (a:=.int (C 0)) (hC.at (by omega) rfl rfl) rfl (mS _ 5 (by omega))) rfl ((kJ _ 9 (by omega)).trans (by rw[eq]))) (add_n 1 q9)) rfl) (by omega))) ⟨L,x3,ae,g0,k0,λj hj=>by omega,rfl⟩ ?_ ?_
   .rintro k _ hk ⟨L,x3,x4,g,kk,pl,rfl⟩;refine⟨R L x3 (s0 (.int k)) ae ae,rfl,?_⟩;have e33:∀ L x3,aN eZ (aG (aB 0) (aG (ai dC (eC (.int 33)) (aB 4)) aK)) (vS (R L x3 (s0 (.int k)) ae ae))=aa (.int (C (33+k))):=λL x3=>hC.at (by omega) rfl (aP rfl rfl (add_n 33 k))
    refine qY (λi ρ'=>∃ L x3,BG (5*k+i) L/\(∀ l∈ls,l.1∈L.map (·.1))/\PL k L/\(∀ l∈ls.take i,l.2.map (tv (v (C (33+k))))∈cz L l.1)/\ρ'=R L x3 (s0 (.int k)) ae ae) (ju (rB rfl)) ⟨L,x3,g,kk,pl,by simp,rfl⟩ ?_ ?_
    .rintro i d _ hd ⟨L,x3,g,kk,pl,pk,rfl⟩;rw[eE] at hd;obtain⟨l,hl,rfl⟩:=fZ.1 hd;have ml:=eU hl;have hi:=(cX.1 hl).1;have gl:=nr l ml;have al:=(g.rows l.1).2.1;obtain⟨g',up,nw⟩:=g.put (n':=5*k+(i+1)) (by omega) (kk l ml) (by omega) (r:=l.2.map (tv (v (C (33+k))))) (by rw[cD];exact gl.wd.symm)
     refine⟨R L (s0 (bC l)) (s0 (.int k)) ae ae,rfl,_,WY rfl (aP rfl rfl rfl) (kk l ml) (aZ (aY rfl (aY rfl (aY (e33 _ _) rfl))) (hv _ l gl.trm)) (by omega),_,.inl rfl,_,s0 (bC l),g',by rw[zF];exact kk,λj hj x mx=>up _ _ (pl j hj x mx),λx mx=>?_,rfl⟩
     rcases(ES hl).1 mx with mx|rfl
     .exact up _ _ (pk x mx)
     .exact nw
    .rintro _ ⟨L,x3,g,kk,pl,pk,rfl⟩;rw[cD] at g;rw[cD,rQ] at pk;refine⟨_,.inl rfl,L,x3,s0 (.int k),⟨g.nd,g.tab,λt=>⟨(g.rows t).1,by have:=(g.rows t).2.1;omega,(g.rows t).2.2⟩⟩,kk,λj hj=>?_,rfl⟩
     by_cases e:j=k
     .subst e;exact pk
     .exact pl j (by omega)
   .rintro _ ⟨L,x3,x4,g,kk,pl,rfl⟩;exact⟨_,rfl,L,x3,x4,⟨g.nd,g.tab,λt=>⟨(g.rows t).1,by have:=(g.rows t).2.1;omega,(g.rows t).2.2⟩⟩,kk,pl,rfl⟩
  rintro _ ⟨L,x3,x4,g,kk,pl,rfl⟩
  let I:aU->Prop:=λρ'=>∃ L x4 x5 x6,BG 60 L/\(∀ l∈ls,l.1∈L.map (·.1))/\PL (1+q9) L/\ρ'=R L x3 x4 x5 x6
  have lls:cJ [az ls]=aa (.int ls.length):=by simp[cJ]
  refine fM I ?_ ?_
  .obtain⟨q,e60,hq60,_⟩:=kU (C 0/(45:Nat)) (n:=60) (by omega)
   refine mY (λ_=>I) (ju (mV (aY (aP (aP (a:=.int (C 0)) (hC.at (by omega) rfl rfl) rfl (mS _ 45 (by omega))) rfl e60) rfl) (by omega))) ⟨L,x4,ae,ae,g,kk,pl,rfl⟩ ?_ ?_
   .rintro k _ hk ⟨L,x4,x5,x6,g,kk,pl,rfl⟩;refine⟨R L x3 (s0 (.int k)) x5 x6,rfl,?_⟩;refine mY (λ_ ρ'=>∃ L x5 x6,BG 60 L/\(∀ l∈ls,l.1∈L.map (·.1))/\PL (1+q9) L/\ρ'=R L x3 (s0 (.int k)) x5 x6) (ju (mV (aY (aZ rfl lls) rfl) (by omega))) ⟨L,x5,x6,g,kk,pl,rfl⟩ ?_ ?_
    .rintro j _ hj ⟨L,x5,x6,g,kk,pl,rfl⟩;refine⟨R L x3 (s0 (.int k)) (s0 (.int j)) x6,rfl,?_⟩;have ml:=getD_mem bo hj;have lix:=mB hj;generalize ls.getD j bo=l at ml lix;have gl:=nr l ml;have el:∀ Y:List (Option aA),Y[1]?.join=aa (az ls)->Y[5]?.join=aa (.int j)->ai ar (aB 1) (aB 5) Y=aa (bC l):=λY h1 h2=>aP h1 h2 lix
     have et:bV .a (aw (ai yj (aN CH (aG (ai ar (aB 2) (ai ar (ai ar (aB 1) (aB 5)) (eC (.int 0)))) aK)) (eC (.int 60)))) (R L x3 (s0 (.int k)) (s0 (.int j)) x6)=aa (decide (((cz L l.1).length:Int)<60)):=eG (aP (aZ (aY (aP rfl (aP (el _ rfl rfl) rfl rfl) (DL (kk l ml))) rfl) (by show aa (aT (((cz L l.1).map yw).length:Nat))=_;rw[cD])) rfl rfl)
     by_cases h60:((cz L l.1).length:Int)<60
     .refine jU (et.trans (by rw[decide_eq_true h60])) ?_
      obtain⟨m,em,hm,_⟩:=kU (k:Int) (n:=20) (by omega)
      let c:Int:=C (42+m)+5*(k:Int)+(j:Int)
      refine cR (aP (aP (hC.at (by omega) rfl (aP rfl (aP rfl rfl em) (add_n 42 m))) (aP rfl rfl (pE (by decide))) rfl) rfl rfl) (by simp[R]) ?_
      obtain⟨g',up,_⟩:=g.put (n':=60) (by omega) (kk l ml) (by omega) (r:=l.2.map (tv (v c))) (by rw[cD];exact gl.wd.symm)
      exact⟨_,WY rfl (aP (el _ rfl rfl) rfl rfl) (kk l ml) (aZ (aY rfl (aY (el _ rfl rfl) (aY rfl rfl))) (hv _ l gl.trm)) (by omega),_,.inl rfl,_,s0 (.int j),s0 (.int c),g',by rw[zF];exact kk,λi hi x mx=>up _ _ (pl i hi x mx),rfl⟩
     .exact mT (et.trans (by rw[decide_eq_false h60])) (oC ⟨_,.inl rfl,L,_,_,g,kk,pl,rfl⟩)
    .rintro _ ⟨L,x5,x6,g,kk,pl,rfl⟩;exact⟨_,.inl rfl,L,_,_,_,g,kk,pl,rfl⟩
   .rintro _ ⟨L,x4,x5,x6,g,kk,pl,rfl⟩;exact⟨_,rfl,L,x4,x5,x6,g,kk,pl,rfl⟩
  rintro _ ⟨L,x4,x5,x6,g,kk,pl,rfl⟩;refine qZ ?_;have hi:U9 (aB 2) (vS [s0 (lI ns),s0 (az ls),s0 (.dict (jf L)),x3,x4,x5,x6])=aa (L.map λp=>cL [.str p.1,wt p.2]):=by
   show(if (jg (jf L)&&(jf L).all λkd=>cM kd.1)=af then aa ((jf L).map λkd=>cL [kd.1,kd.2]) else ae)=_
   rw[Mq,BW,if_pos (dW.2 λkd m=>by
    obtain⟨p,mp,rfl⟩:=bL.1 m;exact Gw (g.tab _ (bL.2 ⟨p,mp,rfl⟩)))]
   unfold jf;rw[dS]
   rfl
  have gl:∀ R:List (List Int),yH [wt R]=aa (bA R):=λR=>by
   show(if ((R.map yw).all λkd=>CA kd.1)=af then aa (oP ((R.map yw).map (·.1))) else ae)=_
   rw[if_pos (dW.2 λkd m=>by
    obtain⟨r,_,rfl⟩:=bL.1 m;exact dW.2 λd m=>by
     obtain⟨i,_,rfl⟩:=bL.1 m
     rfl),dS]
   rfl
  have l8:=g.len;have e:=iK (cap:=[ae,ae]) (T:=R0 0 1) (t:=cZ) (f:=iR (aG (aB 0) (aG (aN yH (aG (aB 1) aK)) aK))) (λ_=>af) (λp=>cL [.str p.1,bA p.2]) hi (by omega) λp mp=>⟨[aa (.str p.1),aa (wt p.2)],rfl,rfl,λ_=>uY (aY rfl (aY (aZ rfl (gl p.2)) rfl))⟩
  rw[mK.2 λ_ _=>rfl] at e
  exact dQ (aZ (aY e rfl) (XM g.nd)) ⟨L,rfl,g,kk,pl⟩
 obtain⟨o,eo,L,rfl,h⟩:=go;refine⟨L,?_,h⟩;show outD (NF [s0 (lI ns),s0 (az ls),ae,ae,ae,ae,ae])=_;rw[eo]
 rfl
end
theorem YW (kds:List (aA×aA))(k k':aI)(v:aA):bI (putD kds k v) k'=if k'=k then aa v else bI kds k':=by
 unfold putD;by_cases h:(kds.any λkd=>decide (bR kd.1=aa k))=af
 .rw[if_pos h];unfold bI;rw[List.find?_map];have hp:((λkd:aA×aA=>decide (bR kd.1=aa k'))∘λkd=>if bR kd.1=aa k then(kd.1,v) else kd)=λkd=>decide (bR kd.1=aa k'):=by
   funext kd;show decide (bR (if bR kd.1=aa k then(kd.1,v) else kd).1=aa k')=_
   split<;>rfl
  rw[hp];by_cases e:k'=k
  .subst e;rw[if_pos rfl];obtain⟨kd,m,hk⟩:=xO.1 h;cases hf:kds.find? λkd=>decide (bR kd.1=aa k') with
   |none=>exact absurd hk (by simpa using xM.1 hf kd m)
   |some q=>
    have:=HA hf;have:=of_decide_eq_true this;simp[this]
  .rw[if_neg e];cases hf:kds.find? λkd=>decide (bR kd.1=aa k') with
   |none=>rfl
   |some q=>
    have:=HA hf;have:=of_decide_eq_true this;simp[this,e]
 .rw[if_neg h];unfold bI;rw[List.find?_append];by_cases e:k'=k
  .subst e;have hf:=xM.2 λkd m q=>h (xO.2 ⟨kd,m,q⟩)
   rw[hf,if_pos rfl];simp[L2.Abv]
  .rw[if_neg e];cases hf:kds.find? λkd=>decide (bR kd.1=aa k') with
   |none=>simp[L2.Abv,gV e]
   |some q=>rfl
theorem Hw(h6:l.2.length<=6)(v:aE->Int):∃ kds,tT [bC l,bN (l.2.map (tv v))]=aa (.dict kds)/\∀ z,(.inr z:aI)∈l.2->bI kds (.inr z)=aa (.int (v z)):=by
 let r:=l.2.map (tv v)
 let R:List (aA×aA)->L2.Slot->L2.Slot->aU:=λkds x y=>[s0 (bC l),s0 (bN r),aa (1,.dict kds),x,y]
 have:∃ d,tT [bC l,bN r]=aa d/\∃ kds,d=.dict kds/\∀ z,(.inr z:aI)∈l.2->bI kds (.inr z)=aa (.int (v z)):=by
  rw[12];refine gF rfl ?_;refine gF (kF (yF (yU (x:=af) rfl) λ_=>eG ((WJ rfl (aP rfl rfl rfl)).trans (by rw[decide_eq_false (by simp[r])])))) ?_
  have hz:(l.2.zip r).length=l.2.length:=by rw[xH,cD];omega
  refine fM (λρ'=>∃ kds x y,(∀ z,(.inr z:aI)∈l.2->bI kds (.inr z)=aa (.int (v z)))/\ρ'=R kds x y) ?_ ?_
  .refine qY (λi ρ'=>∃ kds x y,kds.length<=i/\(∀ k,bI kds k=ae\/bI kds k=aa (.int (tv v k)))/\(∀ p∈(l.2.zip r).take i,bI kds p.1≠ae)/\ρ'=R kds x y) (ju ((US (aY (aP rfl rfl rfl) rfl) rfl rfl).trans (by rw[YO]))) ⟨[],ae,ae,bD _,λk=>.inl rfl,by simp,rfl⟩ ?_ ?_
   .rintro i d _ hd ⟨kds,x,y,hl,hk,hp,rfl⟩;rw[eE] at hd;obtain⟨p,zv,rfl⟩:=fZ.1 hd;have hi:=(cX.1 zv).1;obtain⟨_,e2⟩:=pP (eU zv);have tst:∀ kds,bV .s (iS (iT (aw (iq (eA "str") (aB 3)))) (aw (ai ir (aB 3) (aB 4)))) (R kds (s0 (kD p.1)) (s0 (.int p.2)))=aa ag:=λkds=>by
     cases hk:p.1 with
     |inr z=>rfl
     |inl j=>
      refine Gj (x:=af) rfl λ_=>eG ((Hc (.inl j) p.2).trans ?_)
      rw[e2,hk,decide_eq_false (by simp[tv])]
    have Q3:∀ kds,uV .s (aB 4) .s (iS (iT (aw (iq (eA "str") (aB 3)))) (aw (ai ir (aB 3) (aB 4)))) (cE 1 .s (eC .none)) p.2 (R kds (s0 (kD p.1)) (s0 (.int p.2)))=aa (.nx (R kds (s0 (kD p.1)) (s0 (.int p.2)))):=λkds=>by
     show(if p.2≠p.2 then _ else(bV .s _ (R kds (s0 (kD p.1)) (s0 (.int p.2)))).bind _)=_
     rw[if_neg (λz=>z rfl),tst]
     rfl
    have fin:∀ uw,uw.length<=i+1->(∀ k,bI uw k=ae\/bI uw k=aa (.int (tv v k)))->(∀ q∈(l.2.zip r).take (i+1),bI uw q.1≠ae)->(uX 2 .s (aB 3) .s (aB 4) .s (aB 4) .s (iS (iT (aw (iq (eA "str") (aB 3)))) (aw (ai ir (aB 3) (aB 4)))) (cE 1 .s (eC .none)) (R kds (s0 (kD p.1)) (s0 (.int p.2)))=aa (.nx (R uw (s0 (kD p.1)) (s0 (.int p.2)))))->∃ ρ1,qS 3 4 (IP p) (R kds x y)=aa ρ1/\Goes (uX 2 .s (aB 3) .s (aB 4) .s (aB 4) .s (iS (iT (aw (iq (eA "str") (aB 3)))) (aw (ai ir (aB 3) (aB 4)))) (cE 1 .s (eC .none))) ρ1 λo=>∃ ρ2,(o=.nx ρ2\/o=.ct ρ2)/\∃ kds x y,kds.length<=i+1/\(∀ k,bI kds k=ae\/bI kds k=aa (.int (tv v k)))/\(∀ p∈(l.2.zip r).take (i+1),bI kds p.1≠ae)/\ρ2=R kds x y:=λuw a1 a2 a3 e=>⟨R kds (s0 (kD p.1)) (s0 (.int p.2)),rfl,_,e,_,.inl rfl,uw,_,_,a1,a2,a3,rfl⟩
    have ev:∀ o,(match bI kds p.1 with|some (.int u)=>uV .s (aB 4) .s (iS (iT (aw (iq (eA "str") (aB 3)))) (aw (ai ir (aB 3) (aB 4)))) (cE 1 .s (eC .none)) u (R kds (s0 (kD p.1)) (s0 (.int p.2)))|some _=>ae|none=>uV .s (aB 4) .s (iS (iT (aw (iq (eA "str") (aB 3)))) (aw (ai ir (aB 3) (aB 4)))) (cE 1 .s (eC .none)) p.2 (R (putD kds p.1 (.int p.2)) (s0 (kD p.1)) (s0 (.int p.2))))=aa o->uX 2 .s (aB 3) .s (aB 4) .s (aB 4) .s (iS (iT (aw (iq (eA "str") (aB 3)))) (aw (ai ir (aB 3) (aB 4)))) (cE 1 .s (eC .none)) (R kds (s0 (kD p.1)) (s0 (.int p.2)))=aa o:=λo e=>by
     unfold uX;show((bR (kD p.1)).bind λkey=>(aa kds).bind λkds=>if kds.length<sizeLine then _ else ae)=_
     rw[Abv,bM,bM,if_pos (vC (by omega))]
     exact e
    rcases hk p.1 with hn|hs
    .refine fin (putD kds p.1 (.int p.2)) ?_ (λk=>?_) (λq mq=>?_) (ev _ (by rw[hn];exact Q3 _))
     .unfold putD;split
      .rw[cD];omega
      .rw[oU];simp;omega
     .rw[YW];by_cases e:k=p.1
      .rw[if_pos e,e2,e];exact .inr rfl
      .rw[if_neg e];exact hk k
     .rw[YW];by_cases e:q.1=p.1
      .rw[if_pos e];simp
      .rw[if_neg e];rcases(ES zv).1 mq with mq|rfl
       .exact hp q mq
       .exact absurd rfl e
    .refine fin kds (by omega) hk (λq mq=>?_) (ev _ (by rw[hs,<-e2];exact Q3 _))
     rcases(ES zv).1 mq with mq|rfl
     .exact hp q mq
     .rw[hs];simp
   .rintro _ ⟨kds,x,y,hl,hk,hp,rfl⟩;rw[cD,rQ] at hp;refine⟨_,rfl,kds,x,y,λz mz=>?_,rfl⟩
    rcases hk (.inr z) with hn|hs
    .exact absurd hn (hp _ (De mz))
    .exact hs
  rintro _ ⟨kds,x,y,h,rfl⟩;exact vJ rfl ⟨_,rfl,kds,rfl,h⟩
 obtain⟨d,e,kds,rfl,h⟩:=this;exact⟨kds,e,h⟩
theorem Qy (K:List (List Int))(k:List Int):pv af (bN k) (.dict ((.none,.none)::iV (K.map yl) []))=aa (.bool (!K.contains k)):=by
 have h:=Gv K k;have h:=h;obtain⟨hc,e⟩:=cG h;show(if (bO (k.map aT)&&decide (cP (k.map aT)<=6))=af then aa (jO (af != (iU (iV (K.map yl) []) (k.map aT)).isSome)) else ae)=_
 rw[if_pos hc];injection e with e;rw[<-e];cases(iU (iV (K.map yl) []) (k.map aT)).isSome<;>rfl
theorem Tc (R:List (List Int)):ir (bA R) (bA R)=aa (.bool ag):=by
 unfold ir;rw[Ff,ZR]
 rfl
structure RwG (L:List Tb)(l:Ln)(R:List (List Int)):Prop where
 few:R.length<=60
 up:Up R
 at':∀ r∈R,r∈cz L l.1/\∃ v,r=l.2.map (tv v)
theorem N0 {L:List Tb}(g:BG 60 L)(h6:l.2.length<=6)(h1:1<=l.2.length)(ht:l.1∈L.map (·.1))(hR:RwG L l R):AN [.dict (gc L),bC l,bA R]=aa (.bool af):=by
 have wl:∀ r∈R,r.length=l.2.length:=λr m=>by
  obtain⟨_,v,rfl⟩:=hR.at' r m;rw[cD]
 have so:zL [bA R]=aa (bA R):=by
  have f:=zI (zs:=R) λ_ h=>h
  have e:=Cf h1 wl (xF (dA f hR.few) (by decide))
  rw[e,<-up_eq wl hR.up (OT (yS R)) λr=>by rw[IU,Ad8]]
 have:∃ d,AN [.dict (gc L),bC l,bA R]=aa d/\d=.bool af:=by
  rw[12];refine gF (kF (yF (yU (x:=af) rfl) λ_=>eG (aP rfl (aZ rfl so) (Tc R)))) ?_
  let D:aA:=.dict ((.none,.none)::iV ((cz L l.1).map yl) [])
  have e:=iK (cap:=[ae]) (fi:=bj (ai ar (aB 0) (ai ar (aB 1) (eC (.int 0))))) (T:=gB 0) (t:=cZ) (f:=iR (aG (aB 0) (aG (eC (.bool af)) aK))) (Y:=vS [s0 (.dict (gc L)),s0 (bC l),s0 (bA R),ae,ae]) (λ_=>af) (λr=>cL [bN r,.bool af]) (fX (aP rfl (aP rfl rfl rfl) (We ht))) (by have:=(g.rows l.1).2.1;omega) λr mr=>⟨[aa (bN r)],rfl,rfl,λ_=>uY rfl⟩
  rw[mK.2 λ_ _=>rfl] at e
  refine cR (d:=D) (aZ (aY e rfl) ?_) (by simp) ?_
  .show((qN ((cz L l.1).map λr=>cL [bN r,.bool af])).bind λps=>aa (PyData.dict ((.none,.none)::iV ps [])))=_
   rw[MA]
   rfl
  refine fM (λρ'=>∃ x,ρ'=[s0 (.dict (gc L)),s0 (bC l),s0 (bA R),s0 D,x]) ?_ ?_
  .refine qY (λ_ ρ'=>∃ x,ρ'=[s0 (.dict (gc L)),s0 (bC l),s0 (bA R),s0 D,x]) (ju (fX rfl)) ⟨ae,rfl⟩ ?_ ?_
   .rintro i d _ hd ⟨x,rfl⟩;rw[eE] at hd;obtain⟨r,hr,rfl⟩:=fZ.1 hd;obtain⟨ma,v,ev⟩:=hR.at' r (eU hr);obtain⟨kds,ek,_⟩:=Hw h6 v;rw[<-ev] at ek;refine⟨[s0 (.dict (gc L)),s0 (bC l),s0 (bA R),s0 D,s0 (bN r)],rfl,_,kF (yF (x:=ag) (eG (aP rfl rfl ((Qy _ r).trans (by rw[Jp.2 ma];rfl)))) λ_=>eG (aP (aZ rfl ek) rfl rfl)),_,.inl rfl,_,rfl⟩
   .rintro _ ⟨x,rfl⟩;exact⟨_,rfl,x,rfl⟩
  rintro _ ⟨x,rfl⟩;exact dQ rfl ⟨_,rfl,rfl⟩
 rw[2]
theorem YQ(h6:l.2.length<=6)(hR:∀ r∈R,∃ v,r=l.2.map (tv v))(hl:R.length<=1000)(hz:∀ z∈zs,(.inr z:aI)∈l.2)(hzl:zs.length<=1000):wB [bC l,bA R,lZ zs]=aa (bA (R.map (fI l.2 zs))):=by
 have:∃ d,wB [bC l,bA R,lZ zs]=aa d/\d=bA (R.map (fI l.2 zs)):=by
  rw[12];refine cR rfl (by simp) ?_
  refine fM (λρ'=>∃ x y,ρ'=[s0 (bC l),s0 (bA R),s0 (lZ zs),aa (1,bA (R.map (fI l.2 zs))),x,y]) ?_ ?_
  .refine qY (λi ρ'=>∃ x y,ρ'=[s0 (bC l),s0 (bA R),s0 (lZ zs),aa (1,bA ((R.take i).map (fI l.2 zs))),x,y]) (ju (fX rfl)) ⟨ae,ae,rfl⟩ ?_ ?_
   .rintro i d _ hd ⟨x,y,rfl⟩;rw[eE] at hd;obtain⟨r,hr,rfl⟩:=fZ.1 hd;have hi:=(cX.1 hr).1;obtain⟨v,ev⟩:=hR r (eU hr);obtain⟨kds,ek,lk⟩:=Hw h6 v;rw[<-ev] at ek;refine⟨[s0 (bC l),s0 (bA R),s0 (lZ zs),aa (1,bA ((R.take i).map (fI l.2 zs))),s0 (bN r),y],rfl,?_⟩;refine cR (aZ rfl ek) (by simp) ?_
    have e:=iK (cap:=[ae,aa 5]) (fi:=bj (aB 2)) (T:=gB 0) (t:=cZ) (f:=ai ar (aB 1) (aB 0)) (Y:=vS [s0 (bC l),s0 (bA R),s0 (lZ zs),aa (1,bA ((R.take i).map (fI l.2 zs))),s0 (bN r),s0 (.dict kds)]) (λ_=>af) (λz=>aT (v z)) (fX rfl) (by omega) λz mz=>⟨[aa (.str z),aa (.dict kds)],rfl,rfl,λ_=>aP rfl rfl (lk z (hz z mz))⟩
    rw[mK.2 λ_ _=>rfl] at e
    refine tD (d:=bN (fI l.2 zs r)) (aZ (aY e rfl) ?_) rfl (by simp;omega) ⟨_,.inl rfl,s0 (bN r),s0 (.dict kds),?_⟩
    .rw[ev,sZ hz];show aa (cL _)=aa (cL ((zs.map v).map aT));rw[dS]
     rfl
    .rw[uE,hr];simp[bA]
   .rintro _ ⟨x,y,rfl⟩;rw[cD,rQ];exact⟨_,rfl,x,y,rfl⟩
  rintro _ ⟨x,y,rfl⟩;exact vJ rfl ⟨_,rfl,rfl⟩
 rw[2]
theorem F3 {A B:List (List Int)}(h:∀ r,r∈A↔r∈B)(la:A.length<=4900)(lb:B.length<=4900):yA (bA A) (bA B)=aa (.bool ag):=by
 unfold yA;show((hG (A.map bN)).bind λk1=>(hG (B.map bN)).bind λk2=>_)=_
 rw[FE,bM,FE,bM,LM,LM];refine if_pos ⟨⟨?_,?_⟩,List.Perm.map _ ((RC (yS A) (yS B)).2 λr=>by rw[Ad8,Ad8];exact h r),ID A,ID B⟩
 .rw[cD];exact dA (zI λ_ h=>h) la
 .rw[cD];exact dA (zI λ_ h=>h) lb
def cmS (b:Ln):aI->Option aE
 |.inr z=>if z∈eX b.2 then aa z else ae
 |.inl _=>ae
theorem Arw:z∈a.2.filterMap (cmS b)↔(.inr z:aI)∈a.2/\(.inr z:aI)∈b.2:=by
 rw[rR];rw[23]
 .rintro⟨k,mk,e⟩;cases k with
  |inl i=>cases e
  |inr y=>
   obtain⟨h,e⟩:=cG (show(if y∈eX b.2 then aa y else ae)=aa z from e)
   cases e;exact⟨mk,Adn.1 h⟩
 .rintro⟨h1,h2⟩;exact⟨_,h1,if_pos (Adn.2 h2)⟩
section
variable (hC:Cl ns C)
include hC
theorem ZE {v:Int->aE->Int}(hv:∀ c l,TrG (ij (C 2)) l->nE [lI ns,bC l,.int c]=aa (bN (l.2.map (tv (v c))))){ls:List Ln}(nr:∀ l∈ls,LtG (ij (C 2)) l/\1<=l.2.length)(hn:ls.length<=5){q9:Nat}(hq:q9<9)(eq:C 0/(5:Nat)%(9:Nat)=q9)
  {L:List Tb} (g:BG 60 L) (kk:∀ l∈ls,l.1∈L.map (·.1)) (pl:∀ j,j<1+q9->∀ l∈ls,l.2.map (tv (v (C (33+j))))∈cz L l.1) {t:dX} (hl:t.length=ls.length) (ht:∀ k,k<ls.length->(t.getD k []).length<=60/\Up (t.getD k [])/\∀ r,r∈t.getD k [] ↔ ∃ v,HR (cz L) ls v/\r=(gb ls k).map (tv v)) :
  tU [lI ns,.dict (gc L),az ls,bp t]=aa (.bool af):=by
 let R:L2.Slot->L2.Slot->L2.Slot->L2.Slot->aU:=λa b c d=>[s0 (lI ns),s0 (.dict (gc L)),s0 (az ls),s0 (bp t),a,b,c,d]
 have lls:cJ [az ls]=aa (.int ls.length):=by simp[cJ]
 have lt:cJ [bp t]=aa (.int t.length):=by simp[cJ,bp]
 have fit:∀ k,k<ls.length->∀ r∈t.getD k [],∃ v,r=(ls.getD k bo).2.map (tv v):=λk hk r m=>by
  obtain⟨v,_,e⟩:=((ht k hk).2.2 r).1 m;exact⟨v,e⟩
 have:∃ d,tU [lI ns,.dict (gc L),az ls,bp t]=aa d/\d=.bool af:=by
  rw[12];refine gF (kF (yF (yU (x:=af) rfl) λ_=>eG (aP (aZ rfl lt) (aZ rfl lls) ((Uy _ _).trans (by rw[decide_eq_false (by simp[hl])]))))) ?_
  have eL:∀ (k:Nat) (hk:k<ls.length) (Y:List (Option aA)) (f:EF),Y[2]?.join=aa (az ls)->f Y=aa (.int k)->ai ar (aB 2) f Y=aa (bC (ls.getD k bo)):=λk hk Y f h1 h2=>aP h1 h2 (mB hk)
  have eT:∀ (k:Nat) (hk:k<ls.length) (Y:List (Option aA)) (f:EF),Y[3]?.join=aa (bp t)->f Y=aa (.int k)->ai ar (aB 3) f Y=aa (bA (t.getD k [])):=λk hk Y f h1 h2=>aP h1 h2 (wG (by omega))
  refine fM (λρ'=>∃ a b,ρ'=R a b ae ae) ?_ ?_
  .refine mY (λ_ ρ'=>∃ a b,ρ'=R a b ae ae) (ju (mV (aY (aZ rfl lls) rfl) (by omega))) ⟨ae,ae,rfl⟩ ?_ ?_
   .rintro k _ hk ⟨a,b,rfl⟩;have ml:=getD_mem bo hk;have gl:=nr _ ml;refine⟨R (s0 (.int k)) b ae ae,rfl,?_⟩;refine gF (kF (yU (aZ (aY rfl (aY (eL k hk _ _ rfl rfl) (aY (eT k hk _ _ rfl rfl) rfl))) (N0 g gl.1.trm.1 gl.2 (kk _ ml) ⟨(ht k hk).1,(ht k hk).2.1,λr m=>?_⟩)))) ?_
    .obtain⟨u,su,e⟩:=((ht k hk).2.2 r).1 m;exact⟨by rw[e];exact su _ ml,u,e⟩
    refine mY (λ_ ρ'=>∃ b,ρ'=R (s0 (.int k)) b ae ae) (ju (mV (aY (aP rfl (aP (aP (a:=.int (C 0)) (hC.at (by omega) rfl rfl) rfl (mS _ 5 (by omega))) rfl ((kJ _ 9 (by omega)).trans (by rw[eq]))) (add_n 1 q9)) rfl) (by omega))) ⟨b,rfl⟩ ?_ ?_
    .rintro j _ hj ⟨b,rfl⟩;have mr:(ls.getD k bo).2.map (tv (v (C (33+j))))∈t.getD k []:=((ht k hk).2.2 _).2 ⟨_,λl m=>pl j hj l m,rfl⟩
     refine⟨R (s0 (.int k)) (s0 (.int j)) ae ae,rfl,_,kF (eG (aP (aZ (aY rfl (aY (eL k hk _ _ rfl rfl) (aY (hC.at (by omega) rfl (aP rfl rfl (add_n 33 j))) rfl))) (hv _ _ gl.1.trm)) (eT k hk _ _ rfl rfl) ((Rt af _ _).trans (by rw[decide_eq_true mr];rfl)))),_,.inl rfl,_,rfl⟩
    .rintro _ ⟨b,rfl⟩;exact⟨_,.inl rfl,_,b,rfl⟩
   .rintro _ ⟨a,b,rfl⟩;exact⟨_,rfl,a,b,rfl⟩
  rintro _ ⟨a,b,rfl⟩;refine fM (λρ'=>∃ a c d,ρ'=R a b c d) ?_ ?_
  .refine qY (ds:=(yO 1 ls.length).map λ(k:Nat)=>aT k) (λ_ ρ'=>∃ a c d,ρ'=R a b c d) (ju (Pt (aY rfl (aY (aZ rfl lls) rfl)) (by omega) (by omega))) ⟨a,ae,ae,rfl⟩ ?_ ?_
   .rintro i d _ hd ⟨a,c,d',rfl⟩;rw[eE] at hd;obtain⟨k,V6,rfl⟩:=fZ.1 hd;obtain⟨k1,hk⟩:=A4c.1 (eU V6);obtain⟨ul,ue⟩:=wK C (show 0<k by omega)
    have hu:mw C k<ls.length:=by omega
    refine⟨R (s0 (.int k)) b c d',rfl,?_⟩;refine cR (aP (hC.at (by omega) rfl (aP rfl rfl (add_n 3 k))) rfl ((kJ _ k (by omega)).trans (by rw[ue]))) (by simp[R]) ?_
    let zs:=(ls.getD k bo).2.filterMap (cmS (ls.getD (mw C k) bo))
    have gk:=(nr _ (getD_mem bo hk)).1.trm.1;have gu:=(nr _ (getD_mem bo hu)).1.trm.1;have e:=iK (cap:=[ae,aa 2,aa 6]) (fi:=bj (ai ar (ai ar (aB 2) (aB 4)) (eC (.int 1)))) (T:=gB 0) (t:=iS (aw (iq (eA "str") (aB 0))) (aw (ai (pv ag) (aB 0) (ai ar (ai ar (aB 1) (aB 2)) (eC (.int 1)))))) (f:=aB 0) (Y:=vS (R (s0 (.int k)) b (s0 (.int (mw C k))) d')) (λx=>(cmS (ls.getD (mw C k) bo) x).isSome) kD (rB (aP (eL k hk _ _ rfl rfl) rfl rfl)) (by omega) λx mx=>⟨[aa (kD x),aa (az ls),aa (.int (mw C k))],rfl,by
     cases x with
     |inl j=>rfl
     |inr z=>
      refine(Gj rfl λ_=>eG (aP rfl (aP (aP rfl rfl (mB hu)) rfl rfl) (IV z _))).trans ?_
      show aa _=aa (if z∈eX (ls.getD (mw C k) bo).2 then aa z else ae).isSome
      by_cases q:z∈eX (ls.getD (mw C k) bo).2
      .rw[decide_eq_true q,if_pos q];rfl
      .rw[decide_eq_false q,if_neg q];rfl,λ_=>rfl⟩
    rw[XZ dP (cmS (ls.getD (mw C k) bo)) λx mx=>⟨λh=>by
     obtain⟨z,ez⟩:=xD.1 h;cases x with
     |inl j=>cases ez
     |inr y=>
      obtain⟨_,e⟩:=cG (show(if y∈eX (ls.getD (mw C k) bo).2 then aa y else ae)=aa z from ez)
      cases e;exact⟨_,ez,rfl⟩,λh=>by simpa using h⟩] at e
    refine cR e (by simp[R]) ?_
    refine qZ ?_;have zl:zs.length<=1000:=dA (xI _ _) (by omega)
    have p1:=YQ gk (fit k hk) (by have:=(ht k hk).1;omega) (λz m=>(Arw.1 m).1) zl
    have p2:=YQ gu (fit _ hu) (by have:=(ht _ hu).1;omega) (λz m=>(Arw.1 m).2) zl
    have tell:∀ j,j<ls.length->(∀ z∈zs,(.inr z:aI)∈(ls.getD j bo).2)->∀ r,r∈(t.getD j []).map (fI (ls.getD j bo).2 zs) ↔ ∃ u,HR (cz L) ls u/\r=zs.map u:=λj hj hz r=>by
     rw[bL];rw[23]
     .rintro⟨x,mx,rfl⟩;obtain⟨u,su,e⟩:=((ht j hj).2.2 x).1 mx;exact⟨u,su,by rw[e];exact sZ hz u⟩
     .rintro⟨u,su,rfl⟩;exact⟨_,((ht j hj).2.2 _).2 ⟨u,su,rfl⟩,sZ hz u⟩
    refine⟨_,kF (eG (aP (aZ (aY (eL k hk _ _ rfl rfl) (aY (eT k hk _ _ rfl rfl) (aY rfl rfl))) p1) (aZ (aY (eL _ hu _ _ rfl rfl) (aY (eT _ hu _ _ rfl rfl) (aY rfl rfl))) p2) (F3 (λr=>(tell k hk (λz m=>(Arw.1 m).1) r).trans (tell _ hu (λz m=>(Arw.1 m).2) r).symm) ?_ ?_))),_,.inl rfl,_,_,_,rfl⟩
    .rw[cD];have:=(ht k hk).1;omega
    .rw[cD];have:=(ht _ hu).1;omega
   .rintro _ ⟨a,c,d,rfl⟩;exact⟨_,rfl,a,c,d,rfl⟩
  rintro _ ⟨a,c,d,rfl⟩;exact dQ rfl ⟨_,rfl,rfl⟩
 rw[2]
end
theorem Qk (ds:List aA)(k:Nat):cutD ds ae (aa (k:Int))=ds.take k:=by
 unfold cutD;rw[HT.Aqo,HT.Axq];by_cases h:k<=ds.length
 .simp[QV h]
 .rw[Nat.min_eq_right (by omega)]
  simp;rw[List.take_of_length_le (by omega)]
theorem Nt (ns:List Int)(_:ns.length<=63)(_:yL ns):CI [.list (ns.map .int)]=aa (.bool af):=by
 obtain⟨C,hC⟩:=Lv ns;obtain⟨u,eu,hu,_⟩:=kU (C 0) (n:=5) (by omega)
 obtain⟨ss,es,sl,sg⟩:=Sf hC (n:=1+u) (by omega)
 obtain⟨ls,el,ll,lg⟩:=Wk hC sg (by omega)
 have G:LsG C ss ls:=⟨sg,by omega,ll,lg⟩
 obtain⟨q9,_,hq,eq⟩:=kU (C 0/(5:Nat)) (n:=9) (by omega)
 obtain⟨v,hv⟩:∃ v:Int->aE->Int,∀ c l,TrG (ij (C 2)) l->nE [lI ns,bC l,.int c]=aa (bN (l.2.map (tv (v c)))):=⟨λc=>(ZY hC c).choose,λc=>(ZY hC c).choose_spec⟩
 have nr:∀ l∈ls,(LtG (ij (C 2)) l/\1<=l.2.length)/\gQ l:=λl ml=>by
  obtain⟨k,hk,e⟩:=rS ml;have g:=lg k hk;rw[show ls.getD k bo=l by rw[iD,fO hk,e];rfl] at g
  refine⟨⟨⟨⟨by have:=g.w4;omega,λx mx=>(g.trm x mx).imp id λ⟨m,mm,e⟩=>⟨m,G.m5 hk m mm,e⟩⟩,g.tab,g.wd⟩,g.w1⟩,g.ok hC (G.m5 hk)⟩
 obtain⟨L,eb,g,kk,pl⟩:=Tf hC hv (λl m=>(nr l m).1.1) (by omega) hq eq
 have nd60:=λt=>(g.rows t).2.1
 obtain⟨t,et,tl,ht⟩:=Ce g.bk nd60 (λt=>(g.rows t).1) ⟨λl m=>(nr l m).2,λl m=>(nr l m).1.2,by omega,G.one⟩
 have h1:∀ l∈ls.take 1,l∈ls:=λl m=>Jg m
 have l1:(ls.take 1).length<=1:=by rw[oT];omega
 obtain⟨t1,et1,tl1,Z0⟩:=Ce g.bk nd60 (λt=>(g.rows t).1) ⟨λl m=>(nr l (h1 l m)).2,λl m=>(nr l (h1 l m)).1.2,by omega,dA (LA _) l1⟩
 have r0:=ZE hC hv (λl m=>(nr l m).1) (by omega) hq eq g kk pl tl ht
 have r1:=ZE hC hv (λl m=>(nr l (h1 l m)).1) (by omega) hq eq g (λl m=>kk l (h1 l m)) (λj hj l m=>pl j hj l (h1 l m)) tl1 Z0
 have:∃ d,CI [lI ns]=aa d/\d=.bool af:=by
  rw[12];refine cR (aZ (aY rfl (aY (aP rfl (aP (a:=.int (C 0)) (hC.at (by omega) rfl rfl) rfl eu) (add_n 1 u)) rfl)) es) (by simp) ?_
  refine cR (aZ rfl el) (by simp) ?_
  refine cR (aZ rfl eb) (by simp) ?_
  have l8:=g.len;have e:=iK (cap:=[ae,ae]) (fi:=U9 (aB 3)) (T:=R0 0 1) (t:=cZ) (f:=iR (aG (aB 0) (aG (aN nX (aG (aB 1) aK)) aK))) (Y:=vS [s0 (lI ns),s0 (lS ss),s0 (az ls),s0 (.dict (gc L)),ae,ae,ae]) (λ_=>af) (λp=>cL [.str p.1,bA p.2]) (B3 (λp mp=>Gw (g.tab _ (bL.2 ⟨p,mp,rfl⟩))) rfl) (by omega) λp mp=>⟨[aa (.str p.1),aa (bA p.2)],rfl,rfl,λ_=>uY (aY rfl (aY (aZ rfl rfl) rfl))⟩
  rw[mK.2 λ_ _=>rfl] at e
  refine cR (aZ (aY e rfl) (XM g.nd)) (by simp) ?_
  refine cR (aZ rfl et) (by simp) ?_
  refine gF (kF (yF (eG (aP rfl rfl (Pe g.nd))) λ_=>yU (aZ rfl r0))) ?_
  have sl1:∀ x,qO (aB 2) oN (oS (eC (.int 1))) (vS [s0 (lI ns),s0 (lS ss),s0 (az ls),s0 (.dict (gc L)),s0 (.dict (gc L)),s0 (bp t),x])=aa (az (ls.take 1)):=λx=>(JR rfl rfl (UJ rfl)).trans (by rw[show(1:Int)=((1:Nat):Int) from rfl,Qk,<-List.map_take])
  refine cR (aZ (aY rfl (aY (sl1 _) rfl)) et1) (by simp) ?_
  exact dQ (Ug (aZ (aY rfl (aY rfl (aY (sl1 _) (aY rfl rfl)))) r1) λ_=>aZ rfl r0) ⟨_,rfl,rfl⟩
 rw[2]
def CC (K:aJ):Sp:=λvs H Q _=>∃ (a:aC) (ns:List Int),vs=[.ref a]/\SqL K H a (ns.map V.int)/\ns.length<=63/\yL ns/\∀ H',Q (.bl af) H'
theorem Pa:∀ vs H Q E,CC K vs H Q E->ax K 0 CI vs H Q E:=λvs H Q E gh=>by
 obtain⟨a,ns,ev,hS,hl,hb,k⟩:=gh;subst ev;have e0:hid H (λ_=>False)=H:=by
  funext b;unfold hid;rw[if_neg (λz=>z)]
 refine⟨λ_=>False,[.list (ns.map aT)],.bool af,λ_ z=>z.elim,?_,Nt ns hl hb,dY λv H' _ r=>?_⟩
 .rw[e0];exact Aaf.2 ⟨_,_,rfl,Aa6.2 ⟨a,_,rfl,hS,LK ns⟩,Aak.2 rfl⟩
 .rw[Aax.1 r];exact k H'
def Hl (K:aJ)(n:aE)(st:bS)(f:aC):Prop:=∃ (od an:Option aC) (sl:Array (Option aD)) (oc kV dc pm cd ct:aD),jB K eM n=aa (aa (.ref f))/\K.lookup f=aa ⟨oc,od,.func (lL n n (mC st) (kK st) (bP st) .none kV dc pm an cd ct),sl⟩/\AZ K cd n=af/\uC K (.ref f)=af
def Hs (K:aJ)(n:aE)(st:bS)(f:aC):Prop:=∃ fd,Fun K n n st f fd/\jB K eM n=aa (aa (.ref f))/\uC K (.ref f)=af
section
variable {n:aE}{f:aC}
theorem Bmz {od an:Option aC}{sl:Array (Option aD)}{oc kV dc pm cd ct:aD}(a:jB K eM n=aa (aa (.ref f)))(l:K.lookup f=aa ⟨oc,od,.func (lL n n (mC st) (kK st) (bP st) .none kV dc pm an cd ct),sl⟩)(c:AZ K cd n=af)(k:uC K (.ref f)=af):Hl K n st f:=⟨_,_,_,_,_,_,_,_,_,a,l,c,k⟩
theorem Bne {od an:Option aC}{sl:Array (Option aD)}{oc kV dc pm cd ct:aD}(a:jB K eM n=aa (aa (.ref f)))(l:K.lookup f=aa ⟨oc,od,.func (lL n n (mC st) (kK st) (bP st) .none kV dc pm an cd ct),sl⟩)(c:AZ K cd n=af)(k:uC K (.ref f)=af):Hs K n st f:=⟨_,VD (st:=st) l c k,a,k⟩
def Hs.fd (h:Hs K n st f):iE:=Classical.choose h
theorem Hs.fn (h:Hs K n st f):Fun K n n st f h.fd:=(Jy h).1
theorem Hs.df {P:bG}{w:aX}{mg:aE->Option aD}{h base:aQ}{sp:Sp}(X:K.In h)(G:h.Ns eM mg)(H:Hs K n st f)(ok:FnOk P w K mg base cb k f H.fd ps sp)(b:Binds K H.fd ps []):Def P w K mg base n k ps sp:=⟨_,_,ok,Ie X G (Jy H).2.1,(Jy H).2.2,b⟩
end
theorem oF {us:List aD}(h:us.length=n+1):∃ a r,us=a::r/\r.length=n:=by
 cases us with
 |nil=>exact absurd h (by simp)
 |cons a r=>exact⟨a,r,rfl,Nat.succ.inj h⟩
theorem yB{f:aC}{fd:iE}(F:Fun K x qual st f fd)(hp:ps.length=1:=by rfl)(h:∀ (kV ik pm:aD) (an:Option aC) (ba ct:aD) a,AY (lL x qual (mC st) (kK st) (bP st) .none kV ik pm an ba ct) ⟨[a],[]⟩=pure (ps.zip [a]):=by intros;rfl):Binds K fd ps []:=F.binds λkV ik pm an ba ct u0 hl=>by
 have g0:=hl.trans hp;clear hl;obtain⟨a,u1,rfl,g1⟩:=oF g0;cases RP g1;exact h kV ik pm an ba ct a
theorem fR{f:aC}{fd:iE}(F:Fun K x qual st f fd)(hp:ps.length=2:=by rfl)(h:∀ (kV ik pm:aD) (an:Option aC) (ba ct:aD) a b,AY (lL x qual (mC st) (kK st) (bP st) .none kV ik pm an ba ct) ⟨[a,b],[]⟩=pure (ps.zip [a,b]):=by intros;rfl):Binds K fd ps []:=F.binds λkV ik pm an ba ct u0 hl=>by
 have g0:=hl.trans hp;clear hl;obtain⟨a,u1,rfl,g1⟩:=oF g0;obtain⟨b,u2,rfl,g2⟩:=oF g1;cases RP g2;exact h kV ik pm an ba ct a b
theorem qQ{f:aC}{fd:iE}(F:Fun K x qual st f fd)(hp:ps.length=3:=by rfl)(h:∀ (kV ik pm:aD) (an:Option aC) (ba ct:aD) a b c,AY (lL x qual (mC st) (kK st) (bP st) .none kV ik pm an ba ct) ⟨[a,b,c],[]⟩=pure (ps.zip [a,b,c]):=by intros;rfl):Binds K fd ps []:=F.binds λkV ik pm an ba ct u0 hl=>by
 have g0:=hl.trans hp;clear hl;obtain⟨a,u1,rfl,g1⟩:=oF g0;obtain⟨b,u2,rfl,g2⟩:=oF g1;obtain⟨c,u3,rfl,g3⟩:=oF g2;cases RP g3;exact h kV ik pm an ba ct a b c
theorem SS{f:aC}{fd:iE}(F:Fun K x qual st f fd)(hp:ps.length=4:=by rfl)(h:∀ (kV ik pm:aD) (an:Option aC) (ba ct:aD) a b c d,AY (lL x qual (mC st) (kK st) (bP st) .none kV ik pm an ba ct) ⟨[a,b,c,d],[]⟩=pure (ps.zip [a,b,c,d]):=by intros;rfl):Binds K fd ps []:=F.binds λkV ik pm an ba ct u0 hl=>by
 have g0:=hl.trans hp;clear hl;obtain⟨a,u1,rfl,g1⟩:=oF g0;obtain⟨b,u2,rfl,g2⟩:=oF g1;obtain⟨c,u3,rfl,g3⟩:=oF g2;obtain⟨d,u4,rfl,g4⟩:=oF g3;cases RP g4;exact h kV ik pm an ba ct a b c d
set_option maxHeartbeats 4000000 in
theorem all_mk {l:Il}{w:aX}{h:aQ}{mg:aE->Option aD}{fa ux yb T6 wj wn qy qz pc yc nu uy wo ye yf pd re rg jt ph rh nv yg ny lr pi nz rj rn pj T7 T8 lu rp rq oe sh uz wp f_law:aC}(X:K.In h)(G:h.Ns eM mg)(hfa:mg "law" = aa (.ref fa)){sj:Tok}
  (jc:Hs K "names_of" MH ux) (lv:Hs K "put_in" EE yb) (u8:Hs K "fits" OO T6) (ke:Hs K "rows_of" MB wj) (kf:Hs K "ways_of" LO wn) (gq:Hs K "_law_cell" NG qy) (gs:Hs K "_law_draw" MZ qz) (ft:Hs K "_law_known" NU pc) (lw:Hs K "shared" ET yc) (dr:Hs K "refuse_rows" NV nu) (jd:Hs K "extended" ML uy) (kg:Hs K "fitting" EV wo) (lx:Hs K "common" EN ye) (mh:Hs K "key_of" KH yf) (fu:Hs K "_law_value" NT pd) (gt:Hs K "_law_name" NA re) (gv:Hs K "_law_sets" MU rg) (bt:Hs K "_law_rows_right" GA jt) (fw:Hs K "_law_parts" FY ph) (gw:Hs K "parent_of" zY rh) (dt:Hs K "refuse_ways" FV nv) (mi:Hs K "walked" KW yg) (du:Hs K "all_fitting" FU ny) (cn:Hs K "with_partner" AM lr) (fy:Hs K "_law_lines" OC pi) (dv:Hs K "_law_become" FS nz) (gx:Hs K "first_ear" MX rj) (gy:Hs K "_law_book" FQ rn) (fz:Hs K "_law_right" AJ pj) (vc:Hs K "ears" PF T7) (vd:Hs K "ring" OV T8) (cq:Hs K "thin_parents" OH lu) (ic:Hs K "walk_rest" AB rp) (ie:Hs K "thin_ears" NM rq) (dw:Hs K "refuse_ring" FW oe) (ig:Hs K "thin_rest" FN sh) (je:Hs K "thin_all" MM uz) (kh:Hs K "thinned" LV wp) (h_law:Hl K "law" qW f_law)
  (pq:jB K eM "isinstance" = aa ae) (zw:jB K eM "range" = aa ae) (z_len:jB K eM "len" = aa ae) (z_str:jB K eM "str" = aa ae) (z_all:jB K eM "all" = aa ae) (T9:jB K eM "list" = aa ae) (zx:jB K eM "tuple" = aa ae) (T':jB K eM "dict" = aa ae) (z_set:jB K eM "set" = aa ae) (yh:jB K eM "sorted" = aa ae) (z_min:jB K eM "min" = aa ae) (z_max:jB K eM "max" = aa ae) (z_zip:jB K eM "zip" = aa ae) (ve:jB K eM "reversed" = aa ae) (g_MOST_WAYS:jB K eM "MOST_WAYS" = aa (aa (.int 4096 sj))) :
  ∃ fd:iE,(∀ (s:aH) (v:aD),BindsTo s fd ⟨[v],[]⟩ [("_law_script",v)])/\∀ base:aQ,K.In base->base.Ns eM mg->FnOk l.prog w K mg base cb 10 fa fd ["_law_script"] (CC K):=by
 obtain⟨_,Uf,_,_,U0,U1,U2,U3,U4,a_law,l_law,c_law,k_law⟩:=h_law;have e:=hfa.symm.trans (Ie X G a_law);cases e;have B:Blt mg:=⟨lJ X G pq,lJ X G zw,lJ X G z_len,lJ X G z_str,lJ X G z_all,lJ X G T9,lJ X G zx,lJ X G T',lJ X G z_set,lJ X G yh,lJ X G z_min,lJ X G z_max,lJ X G z_zip,lJ X G ve⟩;have C:Cst mg:=⟨⟨_,Ie X G g_MOST_WAYS⟩⟩;refine⟨lL "law" "law" (mC qW) (kK qW) (bP qW) .none U0 U1 U2 Uf U3 U4,λs v=>.of_eq rfl,λbase _ _=>?_⟩
 have M:=λ{n st f k ps sp} (H:Hs K n st f) (o:FnOk l.prog w K mg base cb k f H.fd ps sp) b=>H.df X G o b
 have fq:=M jc (Zi jc.fn B C ) (yB jc.fn);have jo:=M lv (F6 lv.fn B C ) (fR lv.fn);have kc:=M u8 (Vi u8.fn B C ) (qQ u8.fn);have im:=M ke (M7 ke.fn B C ) (fR ke.fn);have om:=M kf (L9 kf.fn B C ) (yB kf.fn);have aq:=M gq (i8 gq.fn B C ) (fR gq.fn);have kj:=M gs (g7 gs.fn B C ) (qQ gs.fn);have cc:=M ft (l5 ft.fn B C ) (fR ft.fn);have li:=M lw (u7 lw.fn B C fq) (fR lw.fn);have dk:=M dr (m8 dr.fn B C om) (yB dr.fn);have lj:=M jd (Zc jd.fn B C kc) (qQ jd.fn);have on:=M kg (J0 kg.fn B C kc im) (fR kg.fn);have qv:=M lx (z8 lx.fn B C fq) (fR lx.fn);have qw:=M mh (v7 mh.fn B C jo kc) (qQ mh.fn);have ce:=M fu (l9 fu.fn B C aq) (fR fu.fn);have dg:=M gt (d7 gt.fn B C aq) (fR gt.fn);have kx:=M gv (j7 gv.fn B C aq) (fR gv.fn);have dh:=M bt (q0 bt.fn B C cc) (qQ bt.fn);have jp:=M fw (k6 fw.fn B C cc) (qQ fw.fn);have km:=M gw (j8 gw.fn B C li) (qQ gw.fn);have dq:=M dt (o4 dt.fn B C im dk) (fR dt.fn);have lm:=M mi (r6 mi.fn B C lj) (fR mi.fn);have ix:=M du (o9 du.fn B C on) (fR du.fn);have br:=M cn (p7 cn.fn B C qv qw) (SS cn.fn);have jq:=M fy (k5 fy.fn B C aq ce dg) (fR fy.fn);have bw:=M dv (o7 dv.fn B C kj ce dg) (qQ dv.fn);have ko:=M gx (h9 gx.fn B C km) (fR gx.fn);have ky:=M gy (j3 gy.fn B C aq bw) (fR gy.fn);have jr:=M fz (k4 fz.fn B C aq dh jp bw) (SS fz.fn);have dm:=M vc (Tw vc.fn B C ko) (yB vc.fn);have xL:=M vd (Tq vd.fn B C dm) (yB vd.fn);have gp:=M cq (p8 cq.fn B C br dm) (fR cq.fn);have kq:=M ic (d6 ic.fn B C lm dm) (fR ic.fn);have kr:=M ie (h7 ie.fn B C br dm) (fR ie.fn);have iy:=M dw (n9 dw.fn B C dq xL) (fR dw.fn);have ku:=M ig (j4 ig.fn B C jo dm kq) (fR ig.fn);have lq:=M je (a9 je.fn B C gp kr ku) (fR je.fn);have oq:=M kh (L8 kh.fn B C ix iy lq) (fR kh.fn);exact(Pm (VD (st:=qW) l_law c_law k_law) B C aq kx jq ky jr oq).imp Pa
theorem walk {l:Il}{q:bG}{oh:List aE}{XP:(aE->Option aD)->aQ->Prop}{YP:aX->aQ->Prop}{d:DefRec}{K:Params->aJ}(hn:l.most=aa 63)(hdf:d.params.defaults=[])
  (hY:∀ (w:aX) (h:aQ),YP w h->(K w.params).In h)
  (F:∀ (w:aX) (mg:aE->Option aD) (fa:aC) (h:aQ),(K w.params).In h->h.Ns eM mg->mg d.name=aa (.ref fa) ->
   ∃ fd:iE,(∀ (s:aH) (u:aD),BindsTo s fd ⟨[u],[]⟩ [("_law_script",u)])/\∀ base:aQ,(K w.params).In base->base.Ns eM mg->FnOk l.prog w (K w.params) mg base cb 10 fa fd ["_law_script"] (CC (K w.params))) :
  PySem.W.WalkO q oh XP YP l.row.toRowW d [] (λf vs=>PySem.call f vs):=
 L2.Bah (n:=63) (k:=10) (x:="_law_script") (CX:=λ_=>cb) (sp:=λw=>CC (K w.params)) hn (by decide) hdf ⟨rfl,by decide,by decide⟩ hY F (λ_ _ a ns hb hl _ hS=>⟨a,ns,rfl,hS,hl,hb,λ_=>rfl⟩) λ_ _ _ _ _ z=>z
end Aw
namespace PySem.W.Fast
def tw15853488368609590669:=0
def tw10729389443008341061:=0
def tw15326169853155124296:=0
def tw6302079409459544801:=0
def tw10997486288691596321:=0
def tw7508235730580885968:=0
def tw11031970019582167072:=0
def tw5516844049754005653:=0
def tw16877386178110471772:=0
def tw3585950948999368605:=0
def tw5281345385706656634:=0
def tw5625904671930042577:=0
def tw8454114101746640043:=0
def tw1138274759993794990:=0
def tw12432952837217518253:=0
def tw14738247268363114910:=0
def tw1276038099602815081:=0
def tw3310351844568700376:=0
def tw3083938640747026353:=0
def tw12330037914689930849:=0
def tw641434059875480951:=0
def tw10482392212531989254:=0
def tw10666753460280940952:=0
def tw7838152658471716632:=0
def tw7960203535300038544:=0
def tw15879476649719455764:=0
def tw11655899682959798805:=0
def tw588495887784372824:=0
def tw15342657046390538124:=0
def tw886845002561768327:=0
def tw11572971286184715245:=0
def tw1903362232929526700:=0
def tw9855125295530740470:=0
def tw12770563006052629743:=0
def tw12287816710584472186:=0
def tw9569509439793355186:=0
def tw3082938422462353406:=0
def tw12499169247637816001:=0
def tw12872395753034985132:=0
def tw13951293159126794890:=0
def tw17540584122672004426:=0
def tw12755453409235902994:=0
def tw6444173495945101057:=0
def tw16811430563619460913:=0
def tw6487805579146540906:=0
def tw15720696955599735853:=0
def tw9069474645109233639:=0
def tw7451823293256821367:=0
def tw17109296798505148539:=0
def tw15564285810538987148:=0
def tw8842055154263314662:=0
def tw2832824825209686743:=0
def tw16032864174320215078:=0
def tw7827892248296478550:=0
def tw6048841676498492177:=0
def tw14707296410916818937:=0
def tw15788380340073024252:=0
def tw4797957684404128134:=0
def tw8933471701798418881:=0
def tw5796681948326274911:=0
def tw11646758559269457545:=0
def tw4071995200990480839:=0
def tw10210905684245305624:=0
def tw2736586611422788478:=0
def tw6138102943608838939:=0
def tw9228460201513025670:=0
def tw10559410818904006044:=0
def tw12013858112667023444:=0
def tw4254171216861079712:=0
def tw2448384331636736953:=0
def tw10613532371428147465:=0
def tw2279636377924387019:=0
def tw7208613819847607825:=0
def tw15716349105840834314:=0
def tw12959401737077319455:=0
def tw9585079699330715727:=0
def tw11673442303572774122:=0
def tw16067364249337439519:=0
def tw9818033941422691384:=0
def tw18161377050085564194:=0
def tw14935571928709020466:=0
def tw5176958644111182213:=0
def tw8937572665559248294:=0
def tw7850440872453843016:=0
def tw1080863018777941078:=0
def tw9899364869360428997:=0
def tw9882810812544457701:=0
def tw2333086170169896606:=0
def tw11474304955502103135:=0
def tw8865530427548128914:=0
def tw3616927089179151445:=0
def tw12367587790993065749:=0
def tw11925089627539332248:=0
def tw11265238881884340299:=0
def tw12267808783389223180:=0
def tw653186736832632546:=0
def tw17950884227215791632:=0
def tw13682666493957715289:=0
def tw10270765017231752545:=0
def tw8169481632957089619:=0
def tw7355588569768147933:=0
def tw10806936473418746470:=0
def tw16489763688991926952:=0
def tw13101516730391906300:=0
def tw2824461243119667638:=0
def tw10421694153763167590:=0
def tw2999503224307960160:=0
def tw14541717958698820428:=0
def tw8338458259622297009:=0
def tw17396326352803124016:=0
def tw12615546079196236041:=0
def tw7487286776057773528:=0
def tw559690439815550963:=0
def tw16038430096174322182:=0
def tw3251708814657419165:=0
def tw2617222500100735657:=0
def tw12322567885220574210:=0
def tw293601317843296402:=0
def tw2075497263120350360:=0
def tw12790426084314075069:=0
def tw15191936676364619000:=0
def tw5101215898013423618:=0
def tw12235542925452508950:=0
def tw10693299374396980645:=0
def tw4126347780444404035:=0
def tw13403666387904492236:=0
def tw4087405405242429067:=0
def tw12470180615383005659:=0
def tw16771882271790704108:=0
def tw4905007809663678514:=0
def tw8188759827859205848:=0
def tw10898756960079004425:=0
def tw8252777303486213453:=0
def tw13335876557486953150:=0
def tw10775453873513360810:=0
def tw11496588614121982846:=0
def tw14512293390774577002:=0
def tw15330524643161882274:=0
def tw10219680632262625343:=0
def tw4530462492641712413:=0
def tw9288746093956887617:=0
def tw14318681753249204523:=0
def tw8031162968096347400:=0
def tw10461997305055742304:=0
def tw13062575904315653835:=0
def tw13367255132675157341:=0
def tw16059636085086480018:=0
def tw14078219394489040458:=0
def tw4736060529906455114:=0
def tw1666603509704935699:=0
def tw3530434621326628171:=0
def tw10759888705848711846:=0
def tw15995207301471042256:=0
def tw8533029036830772387:=0
def tw10687099451515866842:=0
def tw8837503103085471590:=0
def tw12904729020649301140:=0
def tw5917339422681686926:=0
def tw18355069998188850558:=0
def tw15877559778330490735:=0
def tw13815290815400404693:=0
def tw5871948458775979952:=0
def tw2651035308191334386:=0
def tw17086334143750514217:=0
def tw12169857312839824832:=0
def tw11932528657819190863:=0
def tw15994686870821822029:=0
def tw4602389827667444464:=0
def tw7046646656930743275:=0
def tw1051901744853041784:=0
def tw5986806214963911011:=0
def tw6026265592384302871:=0
def tw12284923158902998925:=0
def tw4347289026708559097:=0
def tw18260604404257372853:=0
def tw2074320988725732648:=0
def tw1945608514472442083:=0
def tw5698564896416000003:=0
def tw13753985877043697959:=0
def tw5553595447494004237:=0
def tw557052587931494789:=0
def tw1850235883401993199:=0
def tw9734565773601981979:=0
def tw3728532749892545345:=0
def tw13900019017231509348:=0
def tw12467635735143730894:=0
def tw14393730505007429835:=0
def tw13066475003056886960:=0
def tw8609139584678044632:=0
def tw5449417170896937696:=0
def tw15155501730234392755:=0
def tw9535281562099437025:=0
def tw17216407883697837402:=0
def tw10210362783876558630:=0
def tw17347973166947914962:=0
def tw5399237283903531436:=0
def tw11862062966469390110:=0
def tw6340433152195746503:=0
def tw2763264681465688922:=0
def tw13323336187742688125:=0
def tw12791900445496797944:=0
def tw8032540415001375721:=0
def tw2720209860891973328:=0
def tw4558035641928520441:=0
def tw8007535581786965241:=0
def tw8123959138269746595:=0
def tw12808184372441180959:=0
end PySem.W.Fast
open PySem PySem.W PyProof.Rows
set_option maxRecDepth 100000 in
set_option maxHeartbeats 0 in
theorem PySem.Challenge.cw_askwithin_k28_thinned_along_a_tree_holds : PySem.Challenge.rw_askwithin_k28_thinned_along_a_tree.Holds := by
 w_on;o_law;k_head;(case hw=>w_witness2)
 k_fill
 refine Aw.walk (l:=PySem.Challenge.rw_askwithin_k28_thinned_along_a_tree) rfl rfl (λw h am=>PySem.W.kIn_of am) ?F
 case F=>
  intro w mg fa h KX G hmg;refine' Aw.all_mk KX G hmg ?_ ?_ ?_ ?_ ?_ ?_ ?_ ?_ ?_ ?_ ?_ ?_ ?_ ?_ ?_ ?_ ?_ ?_ ?_ ?_ ?_ ?_ ?_ ?_ ?_ ?_ ?_ ?_ ?_ ?_ ?_ ?_ ?_ ?_ ?_ ?_ ?_ ?_ (Aw.Bmz ?_ ?_ ?_ ?_)  ?_ ?_ ?_ ?_ ?_ ?_ ?_ ?_ ?_ ?_ ?_ ?_ ?_ ?_ ?_;any_goals refine' Aw.Bne ?_ ?_ ?_ ?_
  any_goals k_is
