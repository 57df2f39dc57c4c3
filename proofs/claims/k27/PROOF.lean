import PyProof.Rows.All
import Wide.All
import OpenK.AllK
import Wide.FinOn
import Lean
import PyProof.EqAt
import PyProof.EqKinds
import PyProof.TupleCall
import PyProof.TupleOfStr
import PyProof.ListStr
import PyProof.ZipIter
import PyProof.TupleIter
import PyProof.EnumMake
import PyProof.ListRange
import PyProof.AttrMissHeap
import PyProof.SetKind
import PyProof.Rows.SetFrom
import PyProof.WalksMore
import KE.KSortTup
import PyProof.Rows.SortShellK
import PyProof.AutoListH
import PyProof.ListNew
import PyProof.FactsAll.list_2
import PyProof.CollectWalk
import PyProof.MeetsSeq2
import PyProof.FactsAll.list_4
import PyProof.AutoSeq1
import PyProof.ConsumeWalk
import PyProof.IsRules
import PyProof.SeqI3
import PyProof.MeetsDictList
import PyProof.DictItemsLoops
import PySem.Builtin.SmallTypes.W2All
import PyProof.ListMulRoad
import PyProof.Rows.SeqMore
import PyProof.FactsAll.tuple_2
import PyProof.StrOps2
import PySem.Challenge.RW_askwithin_k27_whole_thinned_rows
open PySem renaming PyData->aA,Str->aC,Addr->aD,Value->aE,wpAny_bind->aG,Shared->aH,wpAny->aM,wpAny_pure->aN,model->aO,Heap->aQ,Expr->aR,Obj->aZ,World->bB,starEach->bH,eval->bM,Pos->bQ,Program->bT,Stmt->bZ,Around->cB,rawInt->cS,Paired->dR,mainGlobals->dS,SetTable->dZ,backTo->eR,wpAny_call_entry->fX,pyNext->gL,wpAny_holding->hG,wpAny_newObj_type->iI,assignEach->iJ,FuncData->iM,Keyword->iX,compareOp->jG,Scope->jH,wpAny_field->jO,wpAny_seqItems->kB,binaryOp->kC,sysModules->kU,sizeLine_eq->lJ,pyIter->lL,codeAny_builtin->lM,assign->lO,wpAny_mono->mO,wpAny_callSpecial?_slot->mP,swapsWith->mQ,Reads->mR,Spec->mT,wpAny_typeOf->nN,wpAny_setField_rec->nO,plainId_quiet->nP,codeAny->nQ,NameKind->nW,wpAny_rule->oW,holding->oX,bootBuiltins->oY,attributeBase->oZ,ReadsAll->pA,merged->pU,IsPart->qE,IsPair->qF,wpAny_setState_of->rD,wpAny_ite_split->rE,wpAny_attempt->rF,storedH->rG,keywordEach->rH,getItem->rJ,backToKw->rL,atKey->rM,DictEntry->rQ,wpAny_isInstance->sR,stored->uU,isSubtype_type->uV,foldedSetIterable->uW,entryFor->uX,behindInMarks->uY,argsOk->uZ,GenState->vG,wpAny_updateSeq->xX,wpAny_specialOf->xY,wpAny_pyIter_slot->xZ,wpAny_passesOwn->yA,wpAny_of_eq->yB,updateSeq->yC,typeLookup_type->yD,relabel->yE,callerA->yF,builtinLookup_eq_fast->yG,wpAny_setEntries_of->CH,wpAny_pyIter_list->CI,wpAny_fieldsOf->CJ,wpAny_askSetting->CK,newTuple->CL,codeAny_mono->CM,bindArgs->CN,PassesOwn->CS,wpAny_throw->HD,wpAny_newList->HE,wpAny_handled->HF,wpAny_forIn_list->HG,typeLookup->HH,ofAClassStatement->HI,isSubtype_stop->HJ,hashByValue->HK,firstArgMember->HL,mem_of_lookup->HN,wpAny_typeNameOf_keyiter->PY,wpAny_typeNameOfWhole_keyiter->PZ,wpAny_truthy_bool->QA,wpAny_setField->QB,wpAny_onRaise->QC,wpAny_letGo->QD,wpAny_execs_nil->QE,swapsWithSole->QF,swappedStores->QG,subscripted->QH,signature?_of->QJ,letOwnedTupleGo->QK,entryFor_of_tree->QL,entryFor_alias->QM,concat_meets->QN,call_meetsIn->QO,Slot->QQ,wpAny_updateSeq_pair->Gc,wpAny_notOrdered_dict->Ge,wpAny_dictEntries->Gf,wpAny_Call_Name_kw->Gg,noFill_tuple_add->Gh,codeAny_extend_loopS->Gi,codeAny_call_builtin->Gj,SetTable->Gx
open PySem.W renaming Frag->aK,nsIn->fM,mg_none_of->iK,fnOf->mS,kia_one->nU,keepIn->vD,codeIn->CO,mg_of->Gn,lookIn->Gp,kitx_list->Gq,kitx_dict->Gr,kitOne->Gu,instObj->Gv,OpenLaw->Gw
open PySem.PyData renaming int->aW,eqv->cD,canLay0->cH,str->cK,depthAll->cL,tuple->cV,depth->jP,bool->kW,list->rN,eqvAll->sU,canLayAll0->CQ,strOk->HQ
open Nat renaming le_refl->bE,ne_of_lt->cI,le_trans->dG,zero_le->eO,lt_of_lt_of_le->iV,ne_of_gt->kG,lt_irrefl->lQ,le_of_lt->pB,lt_succ_of_lt->pX,mod_lt->sV,le_succ->sW,pow_succ->vE,lt_trans->yI,lt_succ_self->yJ,mul_assoc->CU,lt_trichotomy->CV,lt_or_ge->CW,mul_le_mul->HS,mul_comm->HU,mul_add->HV,mul_mul_mul_comm->QX,lt_of_le_of_lt->QY,le_add_right->QZ,add_assoc->RA,pow_le_pow_right->Hi,mul_left_comm->Hj,min_eq_left->Hk,le_mul_of_pos_right->K2
open List renaming mem_cons_self->bF,mem_map->bI,mem_cons_of_mem->bL,mem_singleton->bX,range->bY,length_map->cJ,mem_cons->cM,getElem?_eq_some_iff->cT,map_cons->dI,size_toArray->eA,all_eq_true->eB,map_map->eP,getElem?_map->eW,getElem?_eq_getElem->fA,mem_of_getElem?->fH,find?_cons->fN,length_cons->fY,mem_range->gM,mem_append->gP,toArray->iL,getElem_mem->iW,foldl_cons->jQ,map_append->kH,getD_eq_getElem?_getD->kI,flatten_cons->kJ,nodup_cons->lT,mem_flatten->lV,filter_eq_self->lW,length_append->mU,getElem?_set_ne->nX,mem_filter->pC,lookup_cons->pD,replicate->pY,mem_append_right->pZ,map_congr_left->qA,getElem?_set_self->qB,append_nil->qC,length_take->rO,mem_filterMap->sX,nodup_append->vF,zipWith->yK,pairwise_map->yL,nodup_nil->yM,length_zip->yN,getElem_of_mem->yO,foldl_append->yP,eraseIdx_cons_succ->yQ,any_eq_true->yR,any_cons->yS,take_add_one->CY,length_range->CZ,length_filterMap_le->DB,find?_eq_none->DC,filter_cons->DD,cons_lt_cons_iff->DH,cons_append->DJ,take_length->HW,not_mem_nil->HX,mem_flatMap->HY,length_set->HZ,length_filter_le->IA,getElem_map->IB,getElem?_append_left->IC,findSome?_cons->ID,ext_getElem->IE,pairwise_iff_getElem->RD,mem_of_mem_take->RE,mem_of_find?_eq_some->RF,length_singleton->RG,getElem_zip->RH,getElem?_eq_none->RI,getElem?_append_right->RJ,find?_append->RK,filterMap_cons->RL,ext_getElem?->RM,eq_nil_of_length_eq_zero->RN,append_assoc->RO,zip_cons_cons->Hm,take_append_drop->Hn,replicate_succ->Ho,of_mem_zip->Hq,nodup_range->Hr,mem_iff_getElem?->Ht,mem_iff_getElem->Hu,map_take->Hv,length_eq_zero_iff->Hw,length_drop->Hx,getElem?_range->Hy,getElem?_drop->Hz,getElem?_cons_succ->Ia,forIn_cons->Ib,flatten_singleton->Ic,flatten_append->Ie,find?_some->Ig,filter_sublist->Ih,drop_eq_getElem_cons->Ii,any_eq_false->Ij,perm_ext_iff_of_nodup->K3,length_erase_of_mem->K4,length_eraseIdx_of_lt->K5,getElem?_take_of_lt->K6,exists_of_findSome?_eq_some->K7
open Or renaming inl->bK,inr->bW
open PySem.Heap renaming get?_push_of_some->bN,lt_size->bU,get?_push_size->cW,SameBut->nY,size_push->qH,get?_update_self->qI,get?_update_other->sY,ExtBut->RQ,get?_push_ne->Io
open Option renaming bind_some->bS,map_eq_some_iff->kF,map_some->pW,isSome_iff_exists->yH,map_eq_none_iff->QV,isSome_map->Hh
open PySem.Value renaming none->eF,ref->eK,type->kE,str->vB,int->vC
open Option.some renaming inj->fF,injEq->HR
open PySem.Obj renaming mapSeq->fG,putSet->CT,data_mapFields->QW
open Array renaming length_toList->fZ,getElem?_eq_getElem->kY,getElem?_toList->oA,getElem?_eq_some_iff->vK,toList_filterMap->SD,getElem?_eq_none->SE,getD_eq_getD_getElem?->SG,forIn_toList->SH,toList_inj->Jd,perm_iff_toList_perm->L5,all_eq_true_iff_forall_mem->L6
open Sum renaming inr->gE,inl->sS
open PySem.NameKind renaming free->gF
open PyProof.Rows renaming seqObj->hJ,envOfC->rK,boot_tuple->sT,AllBare->sZ,slot_tuple_getitem->QI,callWith_type1->QT,boot_dict->QU,slot_tuple_getitem->He,boot_sorted->Hf,boot_list->Hg,mulOk_of_bits->K1
open PySem.PassesOwn renaming never->hV
open Ne renaming symm->hW
open Bool renaming false_eq_true->iN,and_eq_true_iff->jR,false_ne_true->lX,eq_iff_iff->pE,and_eq_true->yU,not_true->DP,true_and->IK,and_self->IL,or_false->Jb,and_false->Jc
open Int renaming toNat_natCast->kX,eq_ofNat_of_zero_le->mV,ofNat->qG,mul_le_mul->Im
open PySem.Paired renaming length->nV
open PySem.Builtin.Int renaming intBits->nZ
open PySem.Around renaming under_plainId->oB
open True renaming intro->pV
open False renaming elim->rP
open PySem.F renaming called_set->vH,plainAttrs_dict->HP,slot_tuple_hash->IG,slot_dict_keyiterator_next->IH,slot_dict_setdefault->QR,plainAttrs_list->QS,slot_zip_next->RS,slot_tuple_iterator_next->RT,slot_set_iter->RU,slot_list_reversed->RV,plain_list_iadd->RW,type_dict_setdefault->Gy,slot_tuple_add->Gz,slot_dict_get->Ha,entry_tuple_add->Hb,args_tuple_add_2->Hc,slot_list_getattribute->Ip,plain_extend_loop->Ir,type_list_append->J7,slot_list_index->J8,slot_list_append->J9,args_dict_get_3->K0,slot_dict_itemiterator_iter->K9,entry_dict_keyiterator_next->L0,args_dict_keyiterator_next_1->L3
open PySem.Builtin.SmallTypes renaming nextOf->vI,ownedTupleIsFree->Iz,ownedTupleHandOut->L4
open PySem.Builtin.List renaming listExtendWith->vJ,listSameRef->DM,listLengthHint->SA
open PySem.Heap.SameBut renaming update->yT
open PySem.PyData.tuple renaming inj->CP
open ForInStep renaming yield->DK
open PySem.Builtin.Tuple renaming tupleHashOf->DL,tupleExact->RX,tupleItemsOf->Iy
open PySem.SetTable renaming fresh->HM,fill->QP
open List.Nodup renaming length_le_of_subset->IF
open Classical renaming byContradiction->II,choose_spec->Iu
open PySem.Builtin.Str renaming strSliceIndices->IJ,occurrences->RY
open Array.Perm renaming refl->IM
open PySem.MeetsSeq renaming plain_index_loop->RB,EqGives->RC
open List.Perm renaming refl->RP,eq_of_pairwise->K8
open PySem.Builtin.Slice renaming slicePlaces->RZ,sliceAdjust->Ja
open PySem.Builtin.Frozenset renaming sizeOf->SB
open PySem.Builtin.Dict renaming updateFrom->SC
open String renaming splitOnAux->Gk,splitOn->Gm
open List.Sublist renaming refl->Ik
open List.Pairwise renaming imp_of_mem->Il
open PyProof.Rows.F renaming plain_set_update_loop->Iq
open PySem.Calls renaming spliced_cons->Iv,call_function_entry->Iw
theorem ao {α β:Type}{x:Option α}{f:α->Option β}{b:β}(h:x.bind f=some b) : ∃ a,x=some a/\f a=some b:=Option.bind_eq_some_iff.1 h
set_option Elab.async false
set_option bootstrap.genMatcherCode false
set_option genSizeOfSpec false
set_option linter.all false
set_option maxRecDepth 100000
set_option exponentiation.threshold 2000
set_option hygiene false in
local macro_rules|`(tactic|rw[0])=>`(tactic|decide +kernel)
set_option hygiene false in
local macro_rules|`(tactic|rw[900])=>`(tactic|exact⟨rfl,rfl,rfl,by decide +kernel,rfl,by decide +kernel,by decide +kernel⟩)
set_option hygiene false in
local macro_rules | `(tactic| sleep 0)=>`(tactic| repeat' first|exact cG _|exact Mt|exact jL|exact Lj|exact PM|exact Nh|exact Se|exact mG|exact Si|exact TZ|refine jE ?_ ?_|((with_reducible show DF _ _ _ (ah bc _ _));refine Ll hv ?_ ?_ (λ_ _=>rfl))|((with_reducible show DF _ _ _ (ah cX _ _));refine OT ?_ ?_)|((with_reducible show DF _ _ _ (ah cR _ _));refine Of ?_ ?_)|((with_reducible show DF _ _ _ (ah eX _ _));refine Rx ?_ ?_)|((with_reducible show DF _ _ _ (aL cO _));refine wN Yr B4 rfl B.len PySem.boot_len ?_)|refine zS (by assumption) (hr.mono (by decide)) rfl ?_|((with_reducible show DT _ _ (aw (ah gc _ _)));refine mE (zO hu) EI ?_ ?_ (nA _))|((with_reducible show DT _ _ (aw (ah kx _ _)));refine mE (Ng hu) Pn ?_ ?_ (nA _))|((with_reducible show DT _ _ (aw (ah vw _ _)));refine mE UE VR ?_ ?_ (nA _))|((with_reducible show DT _ _ (aw (ah vd _ _)));refine mE (Bl7.or A8) On ?_ ?_ (nA _))|((with_reducible show DT _ _ (aw (ah (oh true) _ _)));refine mE (NN hu) uE ?_ ?_ (nA _))|((with_reducible show DT _ _ (aw (ah oF _ _)));refine mE Ql Wc ?_ ?_ (nA _))|(with_reducible refine uJ _ ?_)|refine dB ?_|refine bP ?_ ?_|refine jD _ _ nd rfl (by trivial) ?_|refine kZ _ ?_ ?_ ?_|refine ZJ _ _ ?_|refine lB _ ?_|exact Sv nd rfl (by trivial)|exact Qb rfl nd rfl rfl (by trivial) (by trivial)|refine fT ?_|refine D1 rfl B.range ?_|((with_reducible show DS _ _ _ _ _ (dD _ (bt _) _ _));refine jM hV rfl ?_ ?_ ?_)|refine FF _ hV rfl ?_ ?_ ?_|exact AD _|refine Ta ?_|refine KR _ ?_|refine Tu _ _ _ hv ?_ ?_|refine Dm _ _ _ ?_ ?_|refine Ul _ _ _ ?_ ?_|((with_reducible show DF _ _ _ (aL ES _));refine kT (F6 rfl) Yw rfl B.list Hg ?_)|((with_reducible show DF _ _ _ (aL iR _));refine kT (d5 rfl) G0 rfl B.list Hg ?_)|refine UZ ?_ ?_|refine Ss ?_ ?_|refine Nq ?_ ?_|refine Mw ?_ ?_|refine A0 ?_ ?_|refine Qc ?_ ?_|refine Qx ?_ ?_|refine kT sQ sN rfl B.tuple sT ?_|refine OZ (T:="str") rfl B.isinstance rfl B.str PyProof.Rows.boot_str (by decide) ?_|refine EL ?_|refine PC ?_|refine Ov ?_|refine PH ?_|refine Uc ?_|refine Ol ?_|refine Tt hv ?_ ?_ ?_|refine Nt ?_ ?_ ?_|refine Mb ?_ ?_ ?_|refine jF (n:=1) ?_)
noncomputable section
set_option hygiene false in
local macro_rules
|`(tactic|rw[1])=>`(tactic|(
 have hu:=dQ hr;have hv:=dM hr))
|`(tactic|rw[2])=>`(tactic|(
 intro X hP hw hK hc i ad s Z H E I hf st hg;subst hP hw hK))
|`(tactic|rw[3])=>`(tactic|(
 obtain⟨d,e,rfl⟩:=this;exact e))
|`(tactic|rw[4])=>`(tactic|intro ad s Z H x y v u Q I rx ry h)
|`(tactic|rw[5])=>`(tactic|obtain⟨P,Y,d,hP,rs,ef,k⟩:=gh)
|`(tactic|rw[6])=>`(tactic|intro ad s Z H xs us Q I r h)
|`(tactic|rw[7])=>`(tactic|obtain⟨B0,Y,fp,o,S,ef,k⟩:=gh)
|`(tactic|rw[8])=>`(tactic|(
 obtain⟨v,rfl,r'⟩:=hE r;replace r:=r'))
|`(tactic|rw[9])=>`(tactic|(
 refine aG (rD S.get S.data S.fine.fits ?_);dsimp only))
|`(tactic|rw[10])=>`(tactic|refine dW rfl ?_)
|`(tactic|rw[11])=>`(tactic|(
 obtain⟨t,rfl⟩:=rx;obtain⟨t',rfl⟩:=ry))
|`(tactic|rw[12])=>`(tactic|(
 obtain⟨u,rfl,ru⟩:=vals1 r;cases ru))
set_option hygiene false in
local macro_rules
|`(tactic|rw[13])=>`(tactic|intro ad s Z H Q I h)
|`(tactic|rw[14])=>`(tactic|obtain⟨f0,f1,f2,f3,f4,f5⟩:=hf it (by simp))
|`(tactic|rw[15])=>`(tactic|rcases cM.1 m with rfl|m)
|`(tactic|rw[16])=>`(tactic|obtain⟨p,xs,Fs,e,hp,rfl,q⟩:=h)
|`(tactic|rw[17])=>`(tactic|obtain⟨d,e1,ef⟩:=ao ef)
|`(tactic|rw[18])=>`(tactic|rcases cM.1 z with z|z)
|`(tactic|rw[19])=>`(tactic|refine aG ?_)
|`(tactic|rw[20])=>`(tactic|subst this)
|`(tactic|rw[21])=>`(tactic|obtain⟨hc,rfl⟩:=cQ e)
|`(tactic|rw[22])=>`(tactic|intro ad s Z H D I h)
|`(tactic|rw[23])=>`(tactic|by_cases hj:j=Y.length)
|`(tactic|rw[24])=>`(tactic|dsimp only)
set_option hygiene false in
local macro_rules
|`(tactic|rw[25])=>`(tactic|simp only[if_true])
local macro_rules|`(tactic|trivial)=>`(tactic|first|exact bK rfl|exact bW rfl)
open Option renaming some->aa,none->ae
open Bool renaming true->af,false->ag
namespace L2
open PySem PySem.Spec PyProof.Rows
variable {h h' base:aQ}{v u:aE}{ks:List aA}{a b C dx:aD}{xs:List (List aA×aD×aE)}{us:List aE}{x:aC}{o:aZ}{t' i k ep:Nat}{ch fp:List aD}{e c tg:aR}{M:Model}{A:cB}{E Q:aE->aH->Prop}{s' s:aH}{pos p:bQ}{ad:List (aD×aZ)}{K:aK}{f:aE->aE->Sem aE}{es:List aR}{body:List bZ}{op:CmpOp}{mg:aC->Option aE}{ps:List aC}{kindOf:aC->Option nW}{prog:bT}
instance decEqData:DecidableEq aA:=λa b=>Classical.propDecidable (a=b)
mutual
def bG:aA->Bool
 |.int _=>af
 |.str x=>cH (.str x)
 |.tuple ds=>bR ds
 |_=>ag
def bR:List aA->Bool
 |[]=>af
 |d::r=>bG d&&bR r
end
mutual
theorem LK:∀ d:aA,bG d=af->d.canLay0=af
 |.int _,_=>by simp[cH]
 |.str x,h=>by simpa [bG] using h
 |.tuple ds,h=>by
  simp only[cH];exact Au ds (by simpa [bG] using h)
 |.none,h=>by simp[bG] at h
 |.bool _,h=>by simp[bG] at h
 |.list _,h=>by simp[bG] at h
 |.dict _,h=>by simp[bG] at h
theorem Au:∀ ds:List aA,bR ds=af->CQ ds=af
 |[],_=>by simp[CQ]
 |d::r,h=>by
  have h':bG d=af/\bR r=af:=by simpa [bR] using h
  simp only[CQ,LK d h'.1,Au r h'.2,IL]
end
mutual
theorem LO:∀ x y:aA,bG x=af->bG y=af->cD x y=decide (x=y)
 |.int i,.int j,_,_=>by
  by_cases e:i=j
  .subst e;simp[cD]
  .have:¬ aW i=.int j:=λq=>e (PyData.int.inj q)
   simp[cD,e]
 |.str i,.str j,_,_=>by
  by_cases e:i=j
  .subst e;simp[cD]
  .simp[cD,e]
 |.tuple xs,.tuple ys,h1,h2=>by
  have e:=AR xs ys (by simpa [bG] using h1) (by simpa [bG] using h2)
  simp only[cD,e];by_cases q:xs=ys
  .subst q;simp
  .have:¬ cV xs=.tuple ys:=λz=>q (CP z)
   rw[decide_eq_false q,decide_eq_false this]
 |.int _,.str _,_,_=>by simp[cD]
 |.int _,.tuple _,_,_=>by simp[cD]
 |.str _,.int _,_,_=>by simp[cD]
 |.str _,.tuple _,_,_=>by simp[cD]
 |.tuple _,.int _,_,_=>by simp[cD]
 |.tuple _,.str _,_,_=>by simp[cD]
 |.none,_,h,_=>by simp[bG] at h
 |.bool _,_,h,_=>by simp[bG] at h
 |.list _,_,h,_=>by simp[bG] at h
 |.dict _,_,h,_=>by simp[bG] at h
 |.int _,.none,_,h=>by simp[bG] at h
 |.int _,.bool _,_,h=>by simp[bG] at h
 |.int _,.list _,_,h=>by simp[bG] at h
 |.int _,.dict _,_,h=>by simp[bG] at h
 |.str _,.none,_,h=>by simp[bG] at h
 |.str _,.bool _,_,h=>by simp[bG] at h
 |.str _,.list _,_,h=>by simp[bG] at h
 |.str _,.dict _,_,h=>by simp[bG] at h
 |.tuple _,.none,_,h=>by simp[bG] at h
 |.tuple _,.bool _,_,h=>by simp[bG] at h
 |.tuple _,.list _,_,h=>by simp[bG] at h
 |.tuple _,.dict _,_,h=>by simp[bG] at h
theorem AR:∀ xs ys:List aA,bR xs=af->bR ys=af->sU xs ys=decide (xs=ys)
 |[],[],_,_=>by simp[sU]
 |[],_::_,_,_=>by simp[sU]
 |_::_,[],_,_=>by simp[sU]
 |x::xs,y::ys,h1,h2=>by
  have Y4:bG x=af/\bR xs=af:=by simpa [bR] using h1
  have M9:bG y=af/\bR ys=af:=by simpa [bR] using h2
  simp only[sU,LO x y Y4.1 M9.1,AR xs ys Y4.2 M9.2];by_cases e:x=y
  .subst e;by_cases q:xs=ys
   .subst q;simp
   .simp[q]
  .simp[e]
end
mutual
def dF (w:bB):aA->Int
 |.int i=>hashInt i
 |.str x=>hashStr w x
 |.tuple ds=>reduceHash (DL (mF w ds))
 |_=>0
def mF (w:bB):List aA->List Int
 |[]=>[]
 |d::r=>dF w d::mF w r
end
mutual
def rZ:aA->Nat
 |.tuple ds=>pG ds+1
 |_=>1
def pG:List aA->Nat
 |[]=>0
 |d::r=>rZ d+pG r
end
theorem Cw (a b:List aA):pG (a++b)=pG a+pG b:=by
 induction a with
 |nil=>simp[pG]
 |cons x r ih=>simp only[DJ,pG,ih];omega
theorem Ck (w:bB)(a b:List aA):mF w (a++b)=mF w a++mF w b:=by
 induction a with
 |nil=>rfl
 |cons x r ih=>simp only[DJ,mF,ih]
section
variable {w:bB}
theorem pO{as:List aD}(r:mR h v (.tuple ks) as):∃ a o vs n,v=.ref a/\h.get? a=aa o/\o.cls=.type "tuple" /\ o.data=.seq vs n/\pA h vs.toList ks as:=by
 cases r with
 |tuple h1 h2 h3 h4=>exact⟨_,_,_,_,rfl,h1,h2,h3,h4⟩
mutual
theorem Bp:∀ (d:aA) {A:cB} {E:aE->aH->Prop} {s:aH} {v:aE} {as:List aD} {Q:Int->aH->Prop},A.units+d.depth<cLine->bG d=af->mR s.heap v d as ->
  Q (dF w d) { s with toks:=s.toks+rZ d }->aM (aO prog w) A (pyHash v) Q E s
 |.int i,A,E,s,v,as,Q,hu,hk,r,h=>by
  cases r with
  |int _ t=>exact wpAny_pyHash_int (by simpa [dF,rZ] using h)
 |.str x,A,E,s,v,as,Q,hu,hk,r,h=>by
  cases r with
  |str _ t=>exact wpAny_pyHash_str (by simpa [dF,rZ] using h)
 |.tuple ks,A,E,s,v,as,Q,hu,hk,r,h=>by
  obtain⟨a,o,ai,n,rfl,ho,hc,hd,hi⟩:=pO r;have hT:s.TypeIs (.ref a) "tuple":=⟨o,ho,hc⟩;have qu:A.units+(cL ks+1)<cLine:=by simpa [jP] using hu
  unfold pyHash
  first|unfold pyHashByItsType|skip
  first|refine aG (wpAny_cRoomFor_or (.inr (by omega)) ?_)|skip
  refine aG (xY hT IG.lookup ?_);rw[if_neg (by rw[beq_builtin_none];exact lX)]
  refine aG (xY hT IG.lookup ?_);refine aG (wpAny_callSpecialIfBoundUnlessNone?_slot hT IG (fX IG hT F.entry_tuple_hash ?_ (F.args_tuple_hash_1 _)));show aM _ _ (Iy (.ref a)>>=_) _ _ s;refine aG (wpAny_tupleItemsOf ho hd ?_);rw[19];rw[<-SH];refine HG _
   (λrest (b:Array Int) s'=>∃ done left bs,ks=done++left/\pA s.heap rest left bs/\b.toList=mF w done/\s'={ s with toks:=s.toks+pG done })
   _ ?_ ?_ _ _ ⟨[],ks,as,rfl,hi,rfl,rfl⟩
  .rintro x rest b s' ⟨done,left,bs,e,hl,hb,rfl⟩;cases hl with
   |@cons _ _ d ds Y5 ym h1 xh=>
    have hm:d∈ks:=by rw[e];exact pZ _ bF
    have fq:bR ks=af:=by simpa [bG] using hk
    refine aG (Cd ks hm (by
     have:A.in1.units=A.units+1:=rfl;omega) fq h1 ?_)
    first
     |exact aN ⟨done++[d],ds,ym,by simp[e],xh,by simp[hb,Ck,mF],by simp[Cw,pG,RA]⟩
     |exact aG (aN (aN ⟨done++[d],ds,ym,by simp[e],xh,by simp[hb,Ck,mF],by simp[Cw,pG,RA]⟩))
  .rintro b s' ⟨done,left,bs,e,hl,hb,rfl⟩;cases hl;rw[qC] at e;subst e;show aM _ _ (retInt (DL b.toList)) _ _ _;rw[hb];refine wpAny_ret_mkInt ?_;show aM _ _ (if (decide (-(2:Int)^63<=DL (mF w ks))&&decide (DL (mF w ks)<2^63))=af then _ else _) Q E _
   simp only[dF,rZ] at h;unfold reduceHash at h;by_cases hr:(decide (-(2:Int)^63<=DL (mF w ks))&&decide (DL (mF w ks)<2^63))=af
   .rw[if_pos hr];rw[if_pos hr] at h;exact aN (by simpa [RA] using h)
   .rw[if_neg hr];rw[if_neg hr] at h;exact aG (oW (aN (by simpa [RA] using h)))
 |.none,A,E,s,v,as,Q,hu,hk,r,h=>by simp[bG] at hk
 |.bool _,A,E,s,v,as,Q,hu,hk,r,h=>by simp[bG] at hk
 |.list _,A,E,s,v,as,Q,hu,hk,r,h=>by simp[bG] at hk
 |.dict _,A,E,s,v,as,Q,hu,hk,r,h=>by simp[bG] at hk
theorem Cd:∀ (ks:List aA) {d:aA},d∈ks->∀ {A:cB} {E:aE->aH->Prop} {s:aH} {v:aE} {as:List aD} {Q:Int->aH->Prop},A.units+cL ks<cLine->bR ks=af->mR s.heap v d as ->
  Q (dF w d) { s with toks:=s.toks+rZ d }->aM (aO prog w) A (pyHash v) Q E s
 |[],_,hm,_,_,_,_,_,_,_,_,_,_=>by simp at hm
 |k::ks,d,hm,A,E,s,v,as,Q,hu,hk,r,h=>by
  have fq:bG k=af/\bR ks=af:=by simpa [bR] using hk
  have qu:A.units+max k.depth (cL ks)<cLine:=by simpa [cL] using hu
  by_cases e:d=k
  .exact Bp k (by omega) fq.1 (e ▸ r) (by rw[<-e];exact h)
  .have vz:d∈ks:=by
    rcases cM.1 hm with q|q
    .exact absurd q e
    .exact q
   exact Cd ks vz (by omega) fq.2 r h
end
end
section
variable {w:bB}
mutual
theorem GD:∀ (d:aA) (n:Nat) {A:cB} {E:aE->aH->Prop} {s:aH} {v:aE} {as:List aD} {Q:Bool->aH->Prop},d.depth<=n->bG d=af->mR s.heap v d as ->
  Q af s->aM (aO prog w) A (eqIsQuiet n v) Q E s
 |.int i,n,A,E,s,v,as,Q,hu,hk,r,h=>by
  cases r with
  |int _ t=>
   rw[eqIsQuiet_byValue n (by rfl)]
   exact aN h
 |.str x,n,A,E,s,v,as,Q,hu,hk,r,h=>by
  cases r with
  |str _ t=>
   rw[eqIsQuiet_byValue n (by rfl)]
   exact aN h
 |.tuple ks,n,A,E,s,v,as,Q,hu,hk,r,h=>by
  obtain⟨a,o,ai,m,rfl,ho,hc,hd,hi⟩:=pO r;have hT:s.TypeIs (.ref a) "tuple":=⟨o,ho,hc⟩;have qu:cL ks+1<=n:=by simpa [jP] using hu
  obtain⟨n,rfl⟩:∃ m,n=m+1:=⟨n-1,by omega⟩
  have fq:bR ks=af:=by simpa [bG] using hk
  unfold eqIsQuiet;refine aG (xY hT F.slot_tuple_eq.lookup ?_);refine aG (sR hT isSubtype_tuple_tuple ?_);simp only[DP,iN,if_false];refine aG (kB ho hd ?_);rw[19];rw[<-SH];refine HG _ (λrest r s'=>r.1=ae/\s'=s/\∃ ds bs,pA s.heap rest ds bs/\∀ d∈ds,d∈ks) _ ?_ ?_ _ _ ⟨rfl,rfl,ks,as,hi,λ_ h=>h⟩
  .rintro v rest r s' ⟨hr,rfl,ds,bs,hl,cz⟩;cases hl with
   |@cons _ _ d ds Y5 ym h1 xh=>
    refine aG (Bt ks (cz d bF) n (by omega) fq h1 ?_)
    simp only[DP,iN,if_false];exact aN ⟨rfl,rfl,ds,ym,xh,λu O5=>cz u (bL _ O5)⟩
  .rintro⟨r1,r2⟩ s' ⟨hr,rfl,_⟩;simp only at hr;subst hr;exact aN h
 |.none,n,A,E,s,v,as,Q,hu,hk,r,h=>by simp[bG] at hk
 |.bool _,n,A,E,s,v,as,Q,hu,hk,r,h=>by simp[bG] at hk
 |.list _,n,A,E,s,v,as,Q,hu,hk,r,h=>by simp[bG] at hk
 |.dict _,n,A,E,s,v,as,Q,hu,hk,r,h=>by simp[bG] at hk
theorem Bt:∀ (ks:List aA) {d:aA},d∈ks->∀ (n:Nat) {A:cB} {E:aE->aH->Prop} {s:aH} {v:aE} {as:List aD} {Q:Bool->aH->Prop},cL ks<=n->bR ks=af->mR s.heap v d as ->
  Q af s->aM (aO prog w) A (eqIsQuiet n v) Q E s
 |[],_,hm,_,_,_,_,_,_,_,_,_,_,_=>by simp at hm
 |k::ks,d,hm,n,A,E,s,v,as,Q,hu,hk,r,h=>by
  have fq:bG k=af/\bR ks=af:=by simpa [bR] using hk
  have qu:max k.depth (cL ks)<=n:=by simpa [cL] using hu
  by_cases e:d=k
  .exact GD k n (by omega) fq.1 (e ▸ r) h
  .have vz:d∈ks:=by
    rcases cM.1 hm with q|q
    .exact absurd q e
    .exact q
   exact Bt ks vz n (by omega) fq.2 r h
end
mutual
theorem Ax(kp:∀ b o vs n,h.get? b=aa o->o.cls=.type "tuple" -> o.data=.seq vs n->h'.get? b=aa o):∀ (d:aA) {v:aE} {as:List aD},bG d=af->mR h v d as->mR h' v d as
 |.int i,v,as,hk,r=>by
  cases r with
  |int _ t=>exact .int i t
 |.str x,v,as,hk,r=>by
  cases r with
  |str _ t=>exact .str x t
 |.tuple ks,v,as,hk,r=>by
  obtain⟨a,o,ai,m,rfl,ho,hc,hd,hi⟩:=pO r;exact .tuple (kp _ _ _ _ ho hc hd) hc hd (Cq kp ks (by simpa [bG] using hk) hi)
 |.none,v,as,hk,r=>by simp[bG] at hk
 |.bool _,v,as,hk,r=>by simp[bG] at hk
 |.list _,v,as,hk,r=>by simp[bG] at hk
 |.dict _,v,as,hk,r=>by simp[bG] at hk
theorem Cq(kp:∀ b o vs n,h.get? b=aa o->o.cls=.type "tuple" -> o.data=.seq vs n->h'.get? b=aa o):∀ (ds:List aA) {vs:List aE} {as:List aD},bR ds=af->pA h vs ds as->pA h' vs ds as
 |[],vs,as,hk,r=>by
  cases r with
  |nil=>exact .nil
 |d::ds,vs,as,hk,r=>by
  have fq:bG d=af/\bR ds=af:=by simpa [bR] using hk
  cases r with
  |cons r1 r2=>exact .cons (Ax kp d fq.1 r1) (Cq kp ds fq.2 r2)
end
def Acb (h:aQ)(ks:List aA)(a:aD):Prop:=bR ks=af/\cL ks<=6/\∃ as,mR h (.ref a) (.tuple ks) as
theorem Acb.keep(kp:∀ b o vs n,h.get? b=aa o->o.cls=.type "tuple" -> o.data=.seq vs n->h'.get? b=aa o)(k:Acb h ks a):Acb h' ks a:=
 ⟨k.1,k.2.1,k.2.2.choose,Ax kp (.tuple ks) (by simpa [bG] using k.1) k.2.2.choose_spec⟩
def jN (prog:bT)(w:bB):HeapKind prog w (List aA) where
 is:=Acb
 hash:=λks=>dF w (.tuple ks)
 draws:=λks=>rZ (.tuple ks)
 room:=λA=>A.units+20<cLine
 inj:=λ{h a x y} hx hy=>by
  obtain⟨k1,_,as,r1⟩:=hx;obtain⟨k2,_,bs,r2⟩:=hy;exact CP (reads_det (λ_ _ e _=>e) r2 r1).1
 keeps:=λ{h h' k a d o es ep} x ho hd hs=>x.keep λb ob vs n hb _ qv=>by
  have cb:b≠d:=by
   rintro rfl;rw[ho] at hb;cases hb;rw[hd] at qv;cases qv
  exact(hs.2 b cb).trans hb
 pyHash:=λ{A E s k a Q} hu hk h=>by
  obtain⟨k1,k2,as,r⟩:=hk;exact Bp (.tuple k) (by simp only[jP];omega) (by simpa [bG] using k1) r h
 eqBool:=λ{A E s x y a b Q} hu hx hy h=>by
  obtain⟨k1,d1,as,r1⟩:=hx;obtain⟨k2,d2,bs,r2⟩:=hy;have e:=LO (.tuple x) (.tuple y) (by simpa [bG] using k1) (by simpa [bG] using k2)
  have e2:decide ((cV x)=.tuple y)=decide (x=y):=by
   by_cases q:x=y
   .subst q;simp
   .rw[decide_eq_false q,decide_eq_false (λz=>q (CP z))]
  have:=SeqAt.eqAt_reads (.tuple x) (.tuple y) A s (.ref a) (.ref b) as bs r1 r2 (LK _ (by simpa [bG] using k1)) (LK _ (by simpa [bG] using k2)) (by simp only[jP];omega)
  rw[e,e2] at this;exact this prog w E Q h
 quiet:=λ{A E s k a Q} hk h=>by
  obtain⟨k1,k2,as,r⟩:=hk;exact GD (.tuple k) 8 (by simp only[jP];omega) (by simpa [bG] using k1) r h
end
abbrev aI:=Sum Int aC
def xS:aI->aE->Bool
 |.inl k,v=>Value.isInt k v
 |.inr x,v=>Value.isStrOf x v
def Jf (w:bB):aI->Int
 |.inl k=>hashInt k
 |.inr x=>hashStr w x
theorem nH:∀ {k:aI} {v:aE},xS k v=af->(∃ i t,k=sS i/\v=vC i t)\/(∃ x t,k=gE x/\v=vB x t)
 |.inl i,v,h=>by
  obtain⟨t,e⟩:=Value.isInt_shape h;exact .inl ⟨i,t,rfl,e⟩
 |.inr x,v,h=>by
  obtain⟨t,e⟩:=Value.isStrOf_shape h;exact .inr ⟨x,t,rfl,e⟩
theorem t8 (i:Int)(t:Tok):xS (.inl i) (.int i t)=af:=by simp[xS,Value.isInt]
theorem t6 (x:aC)(t:Tok):xS (.inr x) (.str x t)=af:=by simp[xS,Value.isStrOf]
theorem Pe (a b:Int):decide ((sS a:aI)=sS b)=(a==b):=by
 by_cases e:a=b
 .subst e;simp
 .have h:¬ (sS a:aI)=sS b:=λq=>e (Sum.inl.inj q)
  rw[decide_eq_false h];exact(beq_eq_false_iff_ne.2 e).symm
theorem Qf (a b:aC):decide ((gE a:aI)=gE b)=decide (a=b):=by
 by_cases e:a=b
 .subst e;simp
 .have h:¬ (gE a:aI)=gE b:=λq=>e (Sum.inr.inj q)
  rw[decide_eq_false h,decide_eq_false e]
theorem Nu (a:Int)(b:aC):decide ((sS a:aI)=gE b)=ag:=decide_eq_false (λq=>nomatch q)
theorem Nx (a:aC)(b:Int):decide ((gE a:aI)=sS b)=ag:=decide_eq_false (λq=>nomatch q)
def fK (prog:bT)(w:bB):PySem.KeyKind prog w aI where
 is:=xS
 hash:=Jf w
 inj:=λv a b ha hb=>by
  rcases nH ha with⟨i,t,rfl,rfl⟩|⟨x,t,rfl,rfl⟩
  .rcases nH hb with⟨j,u,rfl,e⟩|⟨y,u,rfl,e⟩
   .injection e with e1 _;rw[e1]
   .exact nomatch e
  .rcases nH hb with⟨j,u,rfl,e⟩|⟨y,u,rfl,e⟩
   .exact nomatch e
   .injection e with e1 _;rw[e1]
 byValue:=λk v h=>by
  rcases nH h with⟨i,t,rfl,rfl⟩|⟨x,t,rfl,rfl⟩<;>rfl
 pyHash:=λhv h=>by
  rcases nH hv with⟨i,t,rfl,rfl⟩|⟨x,t,rfl,rfl⟩
  .exact wpAny_pyHash_int h
  .exact wpAny_pyHash_str h
 eqBool:=λhu hv h=>by
  rcases nH hu with⟨i,t,rfl,rfl⟩|⟨x,t,rfl,rfl⟩
  .rcases nH hv with⟨j,u,rfl,rfl⟩|⟨y,u,rfl,rfl⟩
   .rw[Pe] at h;exact wpAny_eqBool_int h
   .rw[Nu] at h;exact SeqAt.EqAt.int_str i t y u _ _ _ _ h
  .rcases nH hv with⟨j,u,rfl,rfl⟩|⟨y,u,rfl,rfl⟩
   .rw[Nx] at h;exact SeqAt.EqAt.str_int x t j u _ _ _ _ h
   .rw[Qf] at h;exact wpAny_eqBool_str h
 «strs»:=λk x t v h=>by
  rcases nH h with⟨i,u,rfl,e⟩|⟨y,u,rfl,e⟩
  .exact nomatch e
  .injection e with e1 _;subst e1;cases v<;>rfl
theorem NM (prog:bT)(w:bB)(i:Int)(t:Tok):(fK prog w).is (.inl i) (.int i t)=af:=t8 i t
theorem NW (prog:bT)(w:bB)(x:aC)(t:Tok):(fK prog w).is (.inr x) (.str x t)=af:=t6 x t
inductive V where
 |non|bl (b:Bool)|int (i:Int)|str (x:aC)|byt (b:Array UInt8)|flt (b:UInt64)|ref (a:aD)|ty (n:String)
 deriving DecidableEq
def RelV:V->aE->Prop
 |.non,u=>u=eF
 |.bl b,u=>u=Value.bool b
 |.int i,u=>∃ t,u=vC i t
 |.str x,u=>∃ t,u=vB x t
 |.byt b,u=>∃ t,u=Value.bytes b t
 |.flt b,u=>∃ t,u=Value.float b t
 |.ref a,u=>u=eK a
 |.ty n,u=>u=kE n
abbrev Vals:List V->List aE->Prop:=dR RelV
theorem Vals.length {xs:List V}(r:Vals xs us):xs.length=us.length:=nV r
theorem Vals.get:∀ {xs:List V} {us:List aE} {i:Nat} {x:V},Vals xs us->xs[i]?=aa x->∃ u,us[i]?=aa u/\RelV x u
 |_,_,_,_,.nil,e=>by simp at e
 |_,_,0,_,.cons r _,e=>by simp at e;subst e;exact⟨_,rfl,r⟩
 |_,_,i+1,x,.cons _ t,e=>by
  obtain⟨u,h1,h2⟩:=Vals.get t (by simpa using e)
  exact⟨u,by simpa using h1,h2⟩
theorem Vals.set {x:V}(r:RelV x u):∀ {xs:List V} {us:List aE} (i:Nat),Vals xs us->Vals (xs.set i x) (us.set i u)
 |_,_,_,.nil=>.nil
 |_,_,0,.cons _ t=>.cons r t
 |_,_,i+1,.cons q t=>.cons q (Vals.set r i t)
theorem Vals.append:∀ {xs ys:List V} {us ws:List aE},Vals xs us->Vals ys ws->Vals (xs++ys) (us++ws)
 |_,_,_,_,.nil,s=>s
 |_,_,_,_,.cons r t,s=>.cons r (Vals.append t s)
theorem Vals.take:∀ {xs:List V} {us:List aE} (n:Nat),Vals xs us->Vals (xs.take n) (us.take n)
 |_,_,0,_=>.nil
 |_,_,_+1,.nil=>.nil
 |_,_,n+1,.cons r t=>.cons r (Vals.take n t)
theorem Vals.drop:∀ {xs:List V} {us:List aE} (n:Nat),Vals xs us->Vals (xs.drop n) (us.drop n)
 |_,_,0,r=>r
 |_,_,_+1,.nil=>.nil
 |_,_,n+1,.cons _ t=>Vals.drop n t
def Awg:Option V->Option aE->Prop
 |some v,aa u=>RelV v u
 |none,ae=>True
 |_,_=>False
def KV {κ:Type}:List (κ×V)->List (κ×aE)->Prop:=dR λ(p:κ×V) (q:κ×aE)=>p.1=q.1/\RelV p.2 q.2
def kV:aI->V
 |.inl i=>.int i
 |.inr x=>.str x
inductive HO where
 |lst (xs:List V)
 |tup (xs:List V)
 |dK (ep:Nat) (kvs:List (aI×V))|dT (kvs:List (List aA×V))
 |set (S:Int->Bool) (n:Nat)
 |ins (C dx:aD) (fs:List (aC×V))
 |own (x:aD)
 |xd (fs:List (aC×V))
 |met (f x:aD)
 |rng (lo hi:Int)
 |frz (o:aZ) (u:HO)
 |tbl (ps:Array aE)
 |ext (φ:aQ->Prop)
abbrev Hp:=aD->Option HO
def upd (H:Hp)(a:aD)(o:HO):Hp:=λb=>if b=a then aa o else H b
theorem eU {H:Hp}{o:HO}:upd H a o a=aa o:=by unfold upd;rw[if_pos rfl]
theorem cY {H:Hp}{o:HO}(h:b≠a):upd H a o b=H b:=by unfold upd;rw[if_neg h]
theorem Lp {H:Hp}{o u:HO}(h:H a=aa o)(h':H b=aa u)(d:o≠u):a≠b:=by
 intro e;subst e;rw[h] at h';exact d (fF h')
theorem lG {H:Hp}{o:HO}(h:H a=aa o)(h':H b=ae):a≠b:=by
 intro e;subst e;rw[h] at h';cases h'
mutual
def Al1 (H:Hp):aA->V->Prop
 |.int i,v=>v=.int i
 |.str x,v=>v=.str x
 |.tuple ds,v=>∃ a xs,v=.ref a/\H a=aa (.tup xs)/\Aim H ds xs
 |_,_=>False
def Aim (H:Hp):List aA->List V->Prop
 |[],vs=>vs=[]
 |d::r,vs=>∃ x rr,vs=x::rr/\Al1 H d x/\Aim H r rr
end
mutual
theorem Al1.keep {H H':Hp}(ht:∀ b xs,H b=aa (.tup xs)->H' b=aa (.tup xs)):∀ {d:aA} {v:V},Al1 H d v->Al1 H' d v
 |.int _,_,k=>by simpa [Al1] using k
 |.str _,_,k=>by simpa [Al1] using k
 |.tuple ds,_,k=>by
  simp only[Al1] at k ⊢;obtain⟨a,xs,e,h,ks⟩:=k;exact⟨a,xs,e,ht _ _ h,Aim.keep ht ks⟩
 |.none,_,k=>by simp[Al1] at k
 |.bool _,_,k=>by simp[Al1] at k
 |.list _,_,k=>by simp[Al1] at k
 |.dict _,_,k=>by simp[Al1] at k
theorem Aim.keep {H H':Hp}(ht:∀ b xs,H b=aa (.tup xs)->H' b=aa (.tup xs)):∀ {ds:List aA} {vs:List V},Aim H ds vs->Aim H' ds vs
 |[],_,k=>by simpa [Aim] using k
 |d::ds,_,k=>by
  simp only[Aim] at k ⊢;obtain⟨x,r,e,k1,k2⟩:=k;exact⟨x,r,e,Al1.keep ht k1,Aim.keep ht k2⟩
end
def Arc (H:Hp)(ks:List aA)(a:aD):Prop:=bR ks=af/\cL ks<=6/\∃ xs,H a=aa (.tup xs)/\Aim H ks xs
theorem Arc.keep {H H':Hp}(k:Arc H ks a)(ht:∀ b xs,H b=aa (.tup xs)->H' b=aa (.tup xs)):Arc H' ks a:=
 ⟨k.1,k.2.1,k.2.2.choose,ht _ _ k.2.2.choose_spec.1,k.2.2.choose_spec.2.keep ht⟩
def Bc5 (h:aQ)(a:aD)(its:Array aE):Prop:=IsTup h a its/\∃ o,h.get? a=aa o/\o.dict=ae
theorem Bc5.new (h:aQ)(its:Array aE):Bc5 (h.push { cls:=.type "tuple",data:=.seq its }) h.objs.size its:=⟨IsTup.new _ _,_,cW _ rfl,rfl⟩
section
variable (P:bT)(w:bB)
def Adc (H:Hp)(h:aQ)(a:aD):HO->Prop
 |.lst xs=>xs.length<=sizeLine/\∃ (its:List aE) (n:Nat),Vals xs its/\h.get? a=aa { cls:=.type "list",data:=.seq its.toArray n }
 |.tup xs=>xs.length<=sizeLine/\∃ its:List aE,Vals xs its/\Bc5 h a its.toArray
 |.dK ep kvs=>kvs.length<=sizeLine/\(a==kU)=ag/\∃ vs,KV kvs vs/\h.DictAt (fK P w) a vs ep
 |.dT kvs=>kvs.length<=sizeLine/\(a==kU)=ag/\∃ xs:List (List aA×aD×aE),
   dR (λ(p:List aA×V) (q:List aA×aD×aE)=>p.1=q.1/\Arc H p.1 q.2.1/\RelV p.2 q.2.2) kvs xs /\
   ∃ o es ep,h.get? a=aa o/\o.ExactDict/\o.data=.dict es ep/\es.toList=xs.map (entryOfKey (jN P w))/\(xs.map (·.1)).Nodup
 |.set S n=>h.SetOf (intKind P w) a S n
 |.ins C dx fs=>H dx=aa (.own a)/\fs.length<=1000/\dx≠a/\h.get? a=aa (Gv C dx) /\
   ∃ mA,h.Ns1 dx mA/\(∀ f,Awg (fs.lookup f) (mA f))/\PySem.Within mA (fs.map (·.1))
 |.own _=>∃ o,h.get? a=aa o
 |.xd fs=>∃ mA,h.Ns1 a mA/\∀ f,Awg (fs.lookup f) (mA f)
 |.rng lo hi=>∃ t u v,h.get? a=aa { cls:=.type "range",data:=.fields #[.int lo t,.int hi u,.int 1 v] }
 |.frz o u=>h.get? a=aa o/\Adc H h a u
 |.tbl ps=>h.get? a=aa { cls:=.none,data:=.fields ps }
 |.met f x=>h.get? a=aa (PySem.W.methodObj (.ref f) (.ref x))
 |.ext φ=>φ h/\(∃ o,h.get? a=aa o)/\∀ h1 h2:aQ,φ h1->(∀ o,h1.get? a=aa o->h2.get? a=aa o)->φ h2
def HOk (H:Hp)(h:aQ):Prop:=∀ a o,H a=aa o->Adc P w H h a o
end
section
variable {P:bT}{w:bB}{H H':Hp}{o:HO}
theorem Adc.lt (x:Adc P w H h a o):a<h.objs.size:=by
 cases o with
 |lst xs=>obtain⟨_,_,_,_,e⟩:=x;exact bU e
 |tup xs=>obtain⟨_,_,_,p⟩:=x;exact p.1.lt
 |dK ep kvs=>obtain⟨_,_,_,_,o,_,e,_⟩:=x;exact bU e
 |dT kvs=>obtain⟨_,_,_,_,o,_,_,e,_⟩:=x;exact bU e
 |set S n=>obtain⟨o,_,_,_,e,_⟩:=x;exact bU e
 |ins C dx fs=>obtain⟨_,_,_,e,_⟩:=x;exact bU e
 |own y=>obtain⟨_,e⟩:=x;exact bU e
 |xd fs=>obtain⟨_,⟨_,_,_,e,_⟩,_⟩:=x;exact bU e
 |rng lo hi=>obtain⟨_,_,_,e⟩:=x;exact bU e
 |frz ob u=>obtain⟨e,_⟩:=x;exact bU e
 |tbl ps=>exact bU (show h.get? a=aa _ from x)
 |met f y=>exact bU (show h.get? a=aa _ from x)
 |ext φ=>obtain⟨_,⟨_,e⟩,_⟩:=x;exact bU e
theorem Paired.mapP {α β:Type}{F G:α->β->Prop}:∀ {l₁:List α} {l₂:List β},dR F l₁ l₂->(∀ a b,F a b->G a b)->dR G l₁ l₂:=by
 intro l₁ l₂ h;induction h with
 |nil=>exact λ_=>.nil
 |cons r _ ih=>exact λf=>.cons (f _ _ r) (ih f)
theorem Adc.stay (x:Adc P w H h a o)(k:∀ b u,(b=a\/H b=aa (.own a))->h.get? b=aa u->h'.get? b=aa u)
  (ho:∀ b,H b=aa (.own a)->H' b=aa (.own a)) (ht:∀ b xs,H b=aa (.tup xs)->H' b=aa (.tup xs)):Adc P w H' h' a o:=by
 induction o with
 |lst xs=>obtain⟨z,its,n,r,e⟩:=x;exact⟨z,its,n,r,k _ _ (.inl rfl) e⟩
 |tup xs=>obtain⟨z,its,r,⟨ob,e,c⟩,ob2,e2,c2⟩:=x;exact⟨z,its,r,⟨ob,k _ _ (.inl rfl) e,c⟩,ob2,k _ _ (.inl rfl) e2,c2⟩
 |dK ep kvs=>obtain⟨z,y,vs,r,ob,es,e,c⟩:=x;exact⟨z,y,vs,r,ob,es,k _ _ (.inl rfl) e,c⟩
 |dT kvs=>
  obtain⟨z,y,xs,r,ob,es,ep,e,c⟩:=x;exact⟨z,y,xs,Paired.mapP r λp q z=>⟨z.1,z.2.1.keep ht,z.2.2⟩,ob,es,ep,k _ _ (.inl rfl) e,c⟩
 |set S n=>obtain⟨ob,es,ep,t,e,c⟩:=x;exact⟨ob,es,ep,t,k _ _ (.inl rfl) e,c⟩
 |ins C dx fs=>
  obtain⟨d,z,ne,e,mA,⟨od,es,ep,e2,c⟩,r⟩:=x;exact⟨ho _ d,z,ne,k _ _ (.inl rfl) e,mA,⟨od,es,ep,k _ _ (.inr d) e2,c⟩,r⟩
 |own y=>obtain⟨ob,e⟩:=x;exact⟨ob,k _ _ (.inl rfl) e⟩
 |xd fs=>obtain⟨mA,⟨od,es,ep,e,c⟩,r⟩:=x;exact⟨mA,⟨od,es,ep,k _ _ (.inl rfl) e,c⟩,r⟩
 |rng lo hi=>obtain⟨t,u,v,e⟩:=x;exact⟨t,u,v,k _ _ (.inl rfl) e⟩
 |frz ob u ih=>obtain⟨e,q⟩:=x;exact⟨k _ _ (.inl rfl) e,ih q⟩
 |tbl ps=>
  have e:=x;exact k a _ (.inl rfl) e
 |met f y=>
  have e:=x;exact k a _ (.inl rfl) e
 |ext φ=>obtain⟨p,⟨o,e⟩,st⟩:=x;exact⟨st _ _ p λo q=>k _ _ (.inl rfl) q,⟨o,k _ _ (.inl rfl) e⟩,st⟩
theorem HOk.lt (x:HOk P w H h)(e:H a=aa o):a<h.objs.size:=(x a o e).lt
theorem HOk.fresh (x:HOk P w H h)(e:h.objs.size<=a):H a=ae:=by
 cases q:H a with
 |none=>rfl
 |some u=>exact absurd (iV (x.lt q) e) (lQ _)
theorem HOk.kept (x:HOk P w H h)(k:∀ b u,h.get? b=aa u->h'.get? b=aa u):HOk P w H h':=λa o e=>
 (x a o e).stay (λb u _ q=>k b u q) (λ_ q=>q) λ_ _ q=>q
theorem HOk.laid (x:HOk P w H h)(k:∀ b u,h.get? b=aa u->h'.get? b=aa u)(hp:h.objs.size<=a)(new:Adc P w (upd H a o) h' a o):HOk P w (upd H a o) h':=λb u e=>by
 have hn:=x.fresh hp;by_cases hb:b=a
 .subst hb;rw[eU] at e;cases e;exact new
 .rw[cY hb] at e;exact(x b u e).stay (λc v _ q=>k c v q) (λc q=>by rw[cY (lG q hn)];exact q) λc xs q=>by rw[cY (lG q hn)];exact q
end
def Rd (H:Hp)(a:aD)(u:HO):Prop:=H a=aa u\/∃ o,H a=aa (.frz o u)
theorem Rd.ok {P:bT}{w:bB}{H:Hp}{u:HO}(r:Rd H a u)(x:HOk P w H h):Adc P w H h a u:=by
 rcases r with r|⟨o,r⟩
 .exact x a u r
 .obtain⟨_,q⟩:=x a _ r;exact q
def yW:Option HO->Prop
 |some (.lst _)=>True
 |some (.dK _ _)=>True
 |some (.dT _)=>True
 |some (.set _ _)=>True
 |some (.ins _ _ _)=>True
 |some (.ext _)=>True
 |_=>False
section
variable {P:bT}{w:bB}{H:Hp}{x e:aD}{o':HO}
theorem HOk.write (ok:HOk P w H h)(mu:yW (H x))(he:e=x\/H e=aa (.own x))(k:∀ b u,b≠e->h.get? b=aa u->h'.get? b=aa u)(M':∃ u,h'.get? e=aa u)
  (new:Adc P w (upd H x o') h' x o'):HOk P w (upd H x o') h':=λb u q=>by
 have O6:∀ c y,H c=aa (.own y)->c≠x:=λc y r z=>by subst z;rw[r] at mu;exact mu
 have Y6:∀ c xs,H c=aa (.tup xs)->c≠x:=λc xs r z=>by subst z;rw[r] at mu;exact mu
 by_cases hb:b=x
 .subst hb;rw[eU] at q;cases q;exact new
 .rw[cY hb] at q;by_cases xu:b=e
  .have q':H b=aa (.own x):=by
    rcases he with z|z
    .exact absurd (xu.trans z) hb
    .rw[xu];exact z
   rw[q] at q';cases q';obtain⟨v,hv⟩:=M';exact⟨v,by rw[xu];exact hv⟩
  .refine(ok b u q).stay (λc v hc r=>k c v ?_ r) (λc r=>by rw[cY (O6 c b r)];exact r) λc xs r=>by rw[cY (Y6 c xs r)];exact r
   rcases hc with rfl|hc
   .exact xu
   .rintro rfl;rcases he with z|z
    .exact O6 c b hc z
    .rw[hc] at z;cases z;exact hb rfl
end
structure Un (fs ex:List aD)(H H':Hp)(h h':aQ):Prop where
 keep:∀ b o,h.get? b=aa o->H b=ae->b∉fs->b∉ex->h'.get? b=aa o
 slot:∀ b o,h.get? b=aa o->H b=ae->b∈fs->b∉ex->∃ sl,h'.get? b=aa { o with slots:=sl }
 free:∀ b o,h.get? b=aa o->H b=ae->b∉ex->H' b=ae
 there:∀ b o,h.get? b=aa o->b∉ex->∃ o',h'.get? b=aa o'
 tups:∀ b xs,H b=aa (.tup xs)->H' b=aa (.tup xs)
 frzs:∀ b o u,H b=aa (.frz o u)->H' b=aa (.frz o u)
 tbls:∀ b ps,H b=aa (.tbl ps)->∃ more,H' b=aa (.tbl (ps++more))
section
variable {fs fs' ex ex':List aD}{H H1 H2:Hp}{h1 h2:aQ}{x e:aD}{o:HO}
theorem Un.any (u:Un fs ex H H1 h h1){ob:aZ}(q:h.get? b=aa ob)(n:H b=ae)(hx:b∉ex):∃ sl,h1.get? b=aa { ob with slots:=sl }:=by
 by_cases hb:b∈fs
 .exact u.slot b ob q n hb hx
 .exact⟨ob.slots,u.keep b ob q n hb hx⟩
theorem Un.kept (k:∀ b u,h.get? b=aa u->h'.get? b=aa u):Un fs ex H H h h':=
 ⟨λb ob q _ _ _=>k b ob q,λb ob q _ _ _=>⟨ob.slots,k b ob q⟩,λ_ _ _ n _=>n,λb ob q _=>⟨ob,k b ob q⟩,λ_ _ q=>q,λ_ _ _ q=>q,λ_ ps q=>⟨#[],by rw[q];simp⟩⟩
theorem Un.refl:Un fs ex H H h h:=Un.kept λ_ _ q=>q
theorem Un.laid (k:∀ b u,h.get? b=aa u->h'.get? b=aa u)(hp:h.objs.size<=a)(hn:H a=ae):Un fs ex H (upd H a o) h h' where
 keep:=λb u q _ _ _=>k b u q
 slot:=λb u q _ _ _=>⟨u.slots,k b u q⟩
 free:=λb u q n _=>by rw[cY (cI (iV (bU q) hp))];exact n
 there:=λb u q _=>⟨u,k b u q⟩
 tups:=λb xs q=>by rw[cY (lG q hn)];exact q
 frzs:=λb u xs q=>by rw[cY (lG q hn)];exact q
 tbls:=λb ps q=>⟨#[],by rw[cY (lG q hn),q];simp⟩
theorem Un.write (mu:yW (H x))(he:e=x\/H e=aa (.own x))(k:∀ b u,b≠e->h.get? b=aa u->h'.get? b=aa u)(M':∃ u,h'.get? e=aa u):Un fs ex H (upd H x o) h h':=by
 have hx:∀ b,H b=ae->b≠x:=λb n z=>by subst z;rw[n] at mu;exact mu
 have hb:∀ b,H b=ae->b≠e:=λb n z=>by
  subst z;rcases he with r|r
  .exact hx b n r
  .rw[n] at r;cases r
 have hm:∀ b u,H b=aa u->¬ yW (aa u)->b≠x:=λb u q nm z=>by subst z;rw[q] at mu;exact nm mu
 refine⟨λb u q n _ _=>k b u (hb b n) q,λb u q n _ _=>⟨u.slots,k b u (hb b n) q⟩,λb u q n _=>by rw[cY (hx b n)];exact n,λb u q _=>?_,
  λb xs q=>by rw[cY (hm b _ q λz=>z)];exact q,λb u xs q=>by rw[cY (hm b _ q λz=>z)];exact q,λb ps q=>⟨#[],by rw[cY (hm b _ q λz=>z),q];simp⟩⟩
 by_cases xu:b=e
 .subst xu;exact M'
 .exact⟨u,k b u xu q⟩
end
def Y3 (h:aQ)(H:Hp):List aD:=(bY h.objs.size).filter λa=>(H a).isSome
def qJ (h:aQ)(H:Hp):aQ:=PySem.W.hideAll h (Y3 h H)
theorem F1 (h:aQ)(H:Hp):(qJ h H).objs.size=h.objs.size:=PySem.W.hideAll_size _ _
theorem We{H:Hp}(e:h.get? b=aa o)(n:H b=ae):(qJ h H).get? b=aa o:=
 PySem.W.hideAll_get _ e λhm=>by
  have q:=(pC.1 hm).2;rw[n] at q;simp at q
theorem Rq{H:Hp}(e:(qJ h H).get? b=aa o):h.get? b=aa o/\H b=ae:=by
 have e':=PySem.W.of_hideAll (Y3 h H) e;refine⟨e',?_⟩;cases q:H b with
 |none=>rfl
 |some x=>
  have hm:b∈Y3 h H:=pC.2 ⟨gM.2 (bU e'),by simp[q]⟩
  have z:(qJ h H).get? b=ae:=PySem.W.hideAll_none (Y3 h H) hm;rw[z] at e;cases e
def Ry (g h:aQ)(L:aD):List (aD×aZ):=(bY h.objs.size).filterMap λa=>if a=L\/(g.get? a).isSome=af then ae else(h.get? a).map λo=>(a,o)
def rest (g h:aQ)(L d:aD):List (aD×aZ):=(Ry g h L).filter λp=>decide (p.1≠d)
structure Mod (K:aK)(mg:aC->Option aE)(base:aQ):Prop where
 kin:K.In base
 glob:base.Ns dS mg
 blt:∃ mb,base.Ns builtinsNs mb/\∀ x:aC,x ≠ "__name__" -> mb x=oY x
 nolimit:base.NoLimit
structure Cx where
 prog:bT
 w:bB
 K:aK
 mg:aC->Option aE
 base:aQ
 A:cB
 N:List aC
 s₀:aH
 H₀:Hp
 env:Env
 outer:List Env
 stack:List Env
 ex:List aD
 fn:aC->Bool
 calm:Bool
 pn:List (aD×aZ)
 xe:aE->aH->Prop
def vv (l:List Env):List aD:=l.filterMap (·.frame)
abbrev Cx.fs (X:Cx):List aD:=vv X.outer
def iY (sc:jH)(x:aC):Prop:=sc.names.lookup x=aa .local\/sc.names.lookup x=aa .cell\/sc.names.lookup x=aa .free
def kK (sc:jH)(x:aC):Prop:=sc.names.lookup x=aa .local\/sc.names.lookup x=aa .cell
def Look (env:Env)(h:aQ)(m:aC->Option aE)(x:aC)(u:aE):Prop:=
 (env.kindOf x=aa .local/\m x=aa u)\/((env.kindOf x=aa .cell\/env.kindOf x=aa .free)/\∃ c,env.cells.lookup x=aa c/\h.IsCell c (aa u))
structure Cx.Ok (X:Cx):Prop where
 mod:Mod X.K X.mg X.base
 kind:X.env.scope.kind=.function
 glob:X.env.globals=dS
 blt:X.env.builtins=builtinsNs
 above:X.s₀.heap.objs.size<=X.env.locals
 inj:∀ x y c,X.env.cells.lookup x=aa c->X.env.cells.lookup y=aa c->x=y
 has:∀ x,(X.env.kindOf x=aa .cell\/X.env.kindOf x=aa .free)->∃ c,X.env.cells.lookup x=aa c
 cab:∀ x c,X.fn x=af->X.env.cells.lookup x=aa c->X.s₀.heap.objs.size<=c
 hd:X.calm=af->X.A.handled=ae
 frames:X.A.frames=aa X.stack
 stk:X.stack=X.outer\/(X.stack=X.env::X.outer/\X.env.frame=aa X.env.locals)
 exf:∀ b∈X.ex,b≠X.env.locals/\∀ x c,X.env.cells.lookup x=aa c->c≠b
 bs:∀ b o,X.base.get? b=aa o->X.s₀.heap.get? b=aa o/\X.H₀ b=ae
 bsz:X.base.objs.size<=X.s₀.heap.objs.size
 noex:∀ b o,X.base.get? b=aa o->b∉X.ex
 exfs:∀ b∈X.ex,b∉X.fs
 funs:X.s₀.heap.FunFrames X.base X.outer
 frf:∀ b∈X.fs,X.H₀ b=ae
structure Inv (X:Cx)(ad:List (aD×aZ))(Z:List (Option V))(H:Hp)(s:aH):Prop where
 ok:X.Ok
 os:s.os=X.s₀.os
 bare:sZ s.gens
 base:Un X.fs X.ex X.H₀ H X.s₀.heap s.heap
 loc:∃ m,s.heap.Ns X.env.locals m/\∀ (i:Nat) (x:aC) (v:V),X.N[i]?=aa x->Z[i]?=aa (aa v)->iY X.env.scope x->∃ u,RelV v u/\Look X.env s.heap m x u
 cell:∀ x c,X.env.cells.lookup x=aa c->∃ v,s.heap.IsCell c v
 free:H X.env.locals=ae
 freeC:∀ x c,X.env.cells.lookup x=aa c->H c=ae
 pin:∀ p∈X.pn++ad,s.heap.get? p.1=aa p.2/\H p.1=ae/\p.1≠X.env.locals/\p.1∉X.fs/\∀ v,p.2.data ≠ .cell v
 hok:HOk X.prog X.w H s.heap
 len:Z.length=X.N.length
section
variable {X:Cx}{Z:List (Option V)}{H H':Hp}
theorem Cx.Ok.nofr (ok:X.Ok)(e:X.base.get? b=aa o):b∉X.fs:=λhb=>by
 have:=(ok.funs.mem hb).1;rw[e] at this;cases this
theorem Inv.bs (I:Inv X ad Z H s):∀ b o,X.base.get? b=aa o->s.heap.get? b=aa o/\H b=ae:=λb o e=>
 ⟨I.base.keep b o (I.ok.bs b o e).1 (I.ok.bs b o e).2 (I.ok.nofr e) (I.ok.noex b o e),I.base.free b o (I.ok.bs b o e).1 (I.ok.bs b o e).2 (I.ok.noex b o e)⟩
theorem Inv.bk (I:Inv X ad Z H s):∀ b o,X.base.get? b=aa o->s.heap.get? b=aa o:=λb o e=>(I.bs b o e).1
theorem Inv.mod (I:Inv X ad Z H s):Mod X.K X.mg X.base:=I.ok.mod
theorem Inv.kIn (I:Inv X ad Z H s):X.K.In s.heap:=I.ok.mod.kin.keeps I.bk
theorem Inv.lt (I:Inv X ad Z H s):X.env.locals<s.heap.objs.size:=let ⟨_,hn,_⟩:=I.loc;hn.lt
theorem Inv.sz (I:Inv X ad Z H s):X.s₀.heap.objs.size<=s.heap.objs.size:=dG I.ok.above (pB I.lt)
theorem Inv.nofs (I:Inv X ad Z H s)(h:s.heap.objs.size<=a):a∉X.fs:=λhb=>by
 obtain⟨_,o,ho,_⟩:=I.ok.funs.mem hb;exact absurd (iV (bU ho) (dG I.sz h)) (lQ _)
theorem Inv.cne (I:Inv X ad Z H s):∀ x c,X.env.cells.lookup x=aa c->c≠X.env.locals:=λx c e z=>by
 obtain⟨v,o,ho,hd⟩:=I.cell x c e;obtain⟨m,⟨o',es,ep,v4,qv,_⟩,_⟩:=I.loc;rw[z,v4] at ho;cases ho;rw[qv] at hd;cases hd
theorem Inv.funs (I:Inv X ad Z H s):s.heap.FunFrames X.base X.outer:=by
 have all:∀ (l:List Env),(∀ b∈vv l,b∈X.fs)->X.s₀.heap.FunFrames X.base l->s.heap.FunFrames X.base l:=by
  intro l;induction l with
  |nil=>intro _ _;trivial
  |cons env r ih=>
   intro hs hl;obtain⟨hk,⟨L,o,hf,hn,ho,hd⟩,hr⟩:=hl;have hL:=hs L (by unfold vv;rw[RL,hf];exact bF)
   obtain⟨sl,e⟩:=I.base.slot L o ho (I.ok.frf L hL) hL λz=>I.ok.exfs L z hL
   exact⟨hk,⟨L,_,hf,hn,e,hd⟩,ih (λb hb=>hs b (by unfold vv;rw[RL,hf];exact bL _ hb)) hr⟩
 exact all X.outer (λ_ hb=>hb) I.ok.funs
theorem Inv.stack (I:Inv X ad Z H s):s.heap.FunFrames X.base X.stack:=by
 rcases I.ok.stk with e|⟨e,hf⟩
 .rw[e];exact I.funs
 .rw[e];obtain⟨m,hn,_⟩:=I.loc;refine .cons (by rw[I.ok.kind];decide) hf hn ?_ I.funs
  exact Heap.get?_none_of_le (dG I.ok.bsz I.ok.above)
theorem Inv.stkSub (I:Inv X ad Z H s):∀ b∈vv X.stack,b∈X.env.locals::X.fs:=λb hb=>by
 rcases I.ok.stk with e|⟨e,hf⟩
 .rw[e] at hb;exact bL _ hb
 .rw[e] at hb;unfold vv at hb;rw[RL,hf] at hb;exact hb
theorem Inv.stkFree (I:Inv X ad Z H s):∀ b∈vv X.stack,H b=ae:=λb hb=>by
 rcases cM.1 (I.stkSub b hb) with e|hb
 .rw[e];exact I.free
 .obtain⟨_,o,ho,_⟩:=I.ok.funs.mem hb;exact I.base.free b o ho (I.ok.frf b hb) λz=>I.ok.exfs b z hb
theorem Inv.step {g':Array vG}{d':Drawn}(I:Inv X ad Z H s)
  (xi:∀ b∈ch,(b∈X.ex\/X.s₀.heap.objs.size<=b)/\b≠X.env.locals/\(∀ x c,X.env.cells.lookup x=aa c->c≠b)/\∀ p∈X.pn++ad,p.1≠b)
  (keep:∀ b o,b≠X.env.locals->b∉X.fs->b∉ch->s.heap.get? b=aa o->H b=ae->h'.get? b=aa o)
  (slot:∀ b o,b≠X.env.locals->b∈X.fs->b∉ch->s.heap.get? b=aa o->H b=ae->∃ sl,h'.get? b=aa { o with slots:=sl }) (free:∀ b o,b∉ch->s.heap.get? b=aa o->H b=ae->H' b=ae)
  (there:∀ b o,b∉ch->s.heap.get? b=aa o->∃ o',h'.get? b=aa o')
  (tups:∀ b xs,H b=aa (.tup xs)->H' b=aa (.tup xs)) (frzs:∀ b o u,H b=aa (.frz o u)->H' b=aa (.frz o u)) (tbls:∀ b ps,H b=aa (.tbl ps)->∃ more,H' b=aa (.tbl (ps++more)))
  (ns:∀ m,s.heap.Ns X.env.locals m->h'.Ns X.env.locals m) (hok:HOk X.prog X.w H' h') (hg:sZ g') :
  Inv X ad Z H' { s with heap:=h',gens:=g',drawn:=d',toks:=t' }:=by
 have neL:∀ b o,X.s₀.heap.get? b=aa o->b≠X.env.locals:=λb o e=>cI (iV (bU e) I.ok.above)
 have WF:∀ b o,X.s₀.heap.get? b=aa o->b∉X.ex->b∉ch:=λb o e hx hb=>by
  rcases(xi b hb).1 with z|z
  .exact hx z
  .exact absurd (iV (bU e) z) (lQ _)
 have yn:∀ x c,X.env.cells.lookup x=aa c->∀ v,s.heap.IsCell c v->h'.IsCell c v:=λx c e v gh=>by
  obtain⟨o,ho,hd⟩:=gh;have O7:c∉ch:=λz=>(xi c z).2.2.1 x c e rfl
  by_cases hc:c∈X.fs
  .obtain⟨sl,q⟩:=slot c o (I.cne x c e) hc O7 ho (I.freeC x c e);exact⟨_,q,hd⟩
  .exact⟨o,keep c o (I.cne x c e) hc O7 ho (I.freeC x c e),hd⟩
 refine⟨I.ok,I.os,hg,⟨λb o e n hb hx=>?_,λb o e n hb hx=>?_,λb o e n hx=>?_,λb o e hx=>?_,λb xs e=>tups b xs (I.base.tups b xs e),λb o xs e=>frzs b o xs (I.base.frzs b o xs e),λb ps e=>?_⟩,?_,λx c e=>?_,?_,λx c e=>?_,λp hp=>?_,hok,I.len⟩
 .exact keep b o (neL b o e) hb (WF b o e hx) (I.base.keep b o e n hb hx) (I.base.free b o e n hx)
 .obtain⟨sl,e1⟩:=I.base.slot b o e n hb hx;obtain⟨sl',e2⟩:=slot b _ (neL b o e) hb (WF b o e hx) e1 (I.base.free b o e n hx);exact⟨sl',e2⟩
 .obtain⟨o',e1⟩:=I.base.there b o e hx;exact free b o' (WF b o e hx) e1 (I.base.free b o e n hx)
 .obtain⟨o',e1⟩:=I.base.there b o e hx;exact there b o' (WF b o e hx) e1
 .obtain⟨m1,e1⟩:=I.base.tbls b ps e;obtain⟨m2,e2⟩:=tbls b _ e1;exact⟨m1++m2,by rw[e2,Array.append_assoc]⟩
 .obtain⟨m,hn,hl⟩:=I.loc;refine⟨m,ns m hn,λi x v e1 e2 e3=>?_⟩
  obtain⟨u,r,l⟩:=hl i x v e1 e2 e3;refine⟨u,r,?_⟩;rcases l with l|⟨k,c,e,z⟩
  .exact .inl l
  .exact .inr ⟨k,c,e,yn x c e _ z⟩
 .obtain⟨v,z⟩:=I.cell x c e;exact⟨v,yn x c e v z⟩
 .obtain⟨m,⟨o,_,_,ho,_⟩,_⟩:=I.loc;exact free _ o (λz=>(xi _ z).2.1 rfl) ho I.free
 .obtain⟨v,o,ho,hd⟩:=I.cell x c e;exact free c o (λz=>(xi c z).2.2.1 x c e rfl) ho (I.freeC x c e)
 .obtain⟨e,n,ne,nf,d⟩:=I.pin p hp;have O7:p.1∉ch:=λz=>(xi p.1 z).2.2.2 p hp rfl
  exact⟨keep p.1 p.2 ne nf O7 e n,free p.1 p.2 O7 e n,ne,nf,d⟩
theorem Inv.un(I:Inv X ad Z H s)(u:Un X.fs [] H H' s.heap h')(hok:HOk X.prog X.w H' h'):Inv X ad Z H' { s with heap:=h',toks:=t' }:=by
 obtain⟨m,⟨o,es,ep,ho,r⟩,_⟩:=id I.loc;obtain⟨sl,hL⟩:=u.any ho I.free (by simp)
 exact I.step (g':=s.gens) (d':=s.drawn) (ch:=[]) (λ_ z=>nomatch z) (λb o _ hb _ e n=>u.keep b o e n hb (by simp)) (λb o _ hb _ e n=>u.slot b o e n hb (by simp)) (λb o _ e n=>u.free b o e n (by simp)) (λb o _ e=>u.there b o e (by simp)) u.tups u.frzs u.tbls (λm' hm=>by
  obtain⟨o',jd,xv,v4,r'⟩:=hm;rw[ho] at v4;cases v4;exact⟨_,jd,xv,hL,r'⟩) hok I.bare
theorem Inv.call {g':Array vG}{d':Drawn}(I:Inv X ad Z H s)(u:Un (vv X.stack) ch H H' s.heap h')(hok:HOk X.prog X.w H' h')(hg:sZ g')
  (xi:∀ b∈ch,(b∈X.ex\/X.s₀.heap.objs.size<=b)/\b≠X.env.locals/\(∀ x c,X.env.cells.lookup x=aa c->c≠b)/\∀ p∈X.pn++ad,p.1≠b) :
  Inv X ad Z H' { s with heap:=h',gens:=g',drawn:=d',toks:=t' }:=by
 obtain⟨m,⟨o,es,ep,ho,r⟩,_⟩:=id I.loc;obtain⟨sl,hL⟩:=u.any ho I.free λz=>(xi _ z).2.1 rfl
 exact I.step xi (λb o hL hb hc e n=>u.keep b o e n (λz=>(cM.1 (I.stkSub b z)).elim hL hb) hc) (λb o _ _ hc e n=>u.any e n hc) (λb o hc e n=>u.free b o e n hc) (λb o hc e=>u.there b o e hc) u.tups u.frzs u.tbls (λm' hm=>by
  obtain⟨o',jd,xv,v4,r'⟩:=hm;rw[ho] at v4;cases v4;exact⟨_,jd,xv,hL,r'⟩) hok hg
theorem Inv.turned{it:aD}(I:Inv X ad Z H s)(k:∀ b o,b≠it->s.heap.get? b=aa o->h'.get? b=aa o)(hn:H it=ae)(hL:it≠X.env.locals)
  (h1:it∈X.ex\/X.s₀.heap.objs.size<=it) (h2:∀ x c,X.env.cells.lookup x=aa c->c≠it) (h3:∀ p∈X.pn++ad,p.1≠it):Inv X ad Z H { s with heap:=h',toks:=t' }:=by
 have nit:∀ b u,H b=aa u->b≠it:=λb u e z=>by rw[z,hn] at e;cases e
 refine I.step (g':=s.gens) (d':=s.drawn) (ch:=[it]) (λb hb=>?_) (λb o _ _ hc e _=>k b o (λz=>hc (by simp[z])) e) (λb o _ _ hc e _=>⟨o.slots,k b o (λz=>hc (by simp[z])) e⟩) (λ_ _ _ _ n=>n)
  (λb o hc e=>⟨o,k b o (λz=>hc (by simp[z])) e⟩) (λ_ _ e=>e) (λ_ _ _ e=>e) (λb ps e=>⟨#[],by rw[e];simp⟩) (λm hm=>?_) (λb u e=>?_) I.bare
 .have e:b=it:=by simpa using hb
  subst e;exact⟨h1,hL,h2,h3⟩
 .obtain⟨o,es,ep,ho,r⟩:=hm;exact⟨o,es,ep,k _ o (hW hL) ho,r⟩
 .refine(I.hok b u e).stay (λc v hc q=>k c v ?_ q) (λ_ q=>q) λ_ _ q=>q
  rcases hc with z|z
  .rw[z];exact nit b u e
  .exact nit c _ z
theorem Inv.tok (I:Inv X ad Z H s)(t:Nat):Inv X ad Z H { s with toks:=t }:=I.un Un.refl I.hok
theorem Inv.kept(I:Inv X ad Z H s)(k:∀ b u,s.heap.get? b=aa u->h'.get? b=aa u):Inv X ad Z H { s with heap:=h',toks:=t' }:=I.un (Un.kept k) (I.hok.kept k)
theorem Inv.laid{o:HO}(I:Inv X ad Z H s)(k:∀ b u,s.heap.get? b=aa u->h'.get? b=aa u)(hp:s.heap.objs.size<=a)(new:Adc X.prog X.w (upd H a o) h' a o) :
  Inv X ad Z (upd H a o) { s with heap:=h',toks:=t' }:=I.un (Un.laid k hp (I.hok.fresh hp)) (I.hok.laid k hp new)
theorem Inv.write {x e:aD}{o:HO}(I:Inv X ad Z H s)(mu:yW (H x))(he:e=x\/H e=aa (.own x))(k:∀ b u,b≠e->s.heap.get? b=aa u->h'.get? b=aa u)(M':∃ u,h'.get? e=aa u)
  (new:Adc X.prog X.w (upd H x o) h' x o):Inv X ad Z (upd H x o) { s with heap:=h',toks:=t' }:=I.un (Un.write mu he k M') (I.hok.write mu he k M' new)
theorem Inv.pins_of {yo:List (aD×aZ)}(I:Inv X ad Z H s)(h:∀ p∈yo,s.heap.get? p.1=aa p.2/\H p.1=ae/\p.1≠X.env.locals/\p.1∉X.fs/\∀ v,p.2.data ≠ .cell v):Inv X yo Z H s:=
 ⟨I.ok,I.os,I.bare,I.base,I.loc,I.cell,I.free,I.freeC,λp hp=>(gP.1 hp).elim (λz=>I.pin p (List.mem_append_left _ z)) (h p),I.hok,I.len⟩
theorem YB {N:List aC}(hN:N.Nodup){j:Nat}(a:N[i]?=aa x)(b:N[j]?=aa x):i=j:=by
 obtain⟨h1,e1⟩:=cT.1 a;obtain⟨h2,e2⟩:=cT.1 b;exact(List.getElem_inj hN).1 (e1.trans e2.symm)
theorem YT{v:V}{Q:Unit->aH->Prop}(I:Inv X ad Z H s)(hN:X.N.Nodup)(hi:X.N[i]?=aa x)(hx:kK X.env.scope x)(r:RelV v u)
  (h:∀ s',Inv X ad (Z.set i (aa v)) H s'->(∃ a,nY a s.heap s'.heap/\(a=X.env.locals\/X.env.cells.lookup x=aa a))->Q () s') (hf:X.fn x=af\/X.env.scope.names.lookup x=aa .local:=by first|exact .inl rfl|exact .inr rfl|assumption):aM M A (storeName X.env x u) Q E s:=by
 obtain⟨m,hn,hl⟩:=id I.loc;have Y7:(X.env.scope.kind==.class||(X.env.scope.kind==.module&&X.env.locals != X.env.globals))=ag:=by rw[I.ok.kind];rfl
 have O8:i<Z.length:=by rw[I.len];exact(cT.1 hi).1
 have cne:=I.cne;have tj:∀ {a:aD} {h':aQ},(∃ o,s.heap.get? a=aa o/\H a=ae)->nY a s.heap h'->HOk X.prog X.w H h':=λ{a h'} ha hs b ob e=>by
  obtain⟨_,_,om⟩:=ha;refine(I.hok b ob e).stay (λc w' hc q=>(hs.2 c ?_).trans q) (λ_ q=>q) λ_ _ q=>q
  rintro rfl;rcases hc with rfl|hc
  .rw[om] at e;cases e
  .rw[om] at hc;cases hc
 rcases hx with hk|hk
 .refine wpAny_storeName_local hk hn (λh' hn' hs=>?_) Y7
  obtain⟨oL,_,_,v6,_⟩:=id hn;refine h _ ⟨I.ok,I.os,I.bare,⟨λb o e n hb hx=>?_,λb o e n hb hx=>?_,I.base.free,λb o e hx=>?_,I.base.tups,I.base.frzs,I.base.tbls⟩,⟨_,hn',λj y v' e1 e2 e3=>?_⟩,λy c e=>?_,I.free,I.freeC,λp hp=>?_,tj ⟨oL,v6,I.free⟩ hs,by simpa using I.len⟩ ⟨_,hs,.inl rfl⟩
  .exact(hs.2 b (cI (iV (bU e) I.ok.above))).trans (I.base.keep b o e n hb hx)
  .obtain⟨sl,e1⟩:=I.base.slot b o e n hb hx;exact⟨sl,(hs.2 b (cI (iV (bU e) I.ok.above))).trans e1⟩
  .obtain⟨o',e1⟩:=I.base.there b o e hx;exact⟨o',(hs.2 b (cI (iV (bU e) I.ok.above))).trans e1⟩
  .by_cases hj:j=i
   .subst hj;rw[hi] at e1;cases e1;rw[qB O8] at e2;cases e2;exact⟨u,r,.inl ⟨hk,by simp⟩⟩
   .rw[nX (hW hj)] at e2;obtain⟨u',r',q⟩:=hl j y v' e1 e2 e3;refine⟨u',r',?_⟩;rcases q with⟨k,e⟩|⟨k,c,e,z⟩
    .refine .inl ⟨k,?_⟩;have:y≠x:=λe=>hj (YB hN e1 (e ▸ hi))
     simp[this,e]
    .exact .inr ⟨k,c,e,z.sameBut hs (cne y c e)⟩
  .obtain⟨w',z⟩:=I.cell y c e;exact⟨w',z.sameBut hs (cne y c e)⟩
  .obtain⟨e,n,ne,nf,d⟩:=I.pin p hp;exact⟨(hs.2 p.1 ne).trans e,n,ne,nf,d⟩
 .have Y8:X.fn x=af:=by
   rcases hf with z|z
   .exact z
   .rw[z] at hk;cases hk
  obtain⟨c,hc⟩:=I.ok.has x (.inl hk);obtain⟨w',z⟩:=I.cell x c hc;refine wpAny_storeName_cell I.ok.kind hk hc z (λh' il hs=>?_)
  obtain⟨oc,hoc,Y9⟩:=id z;refine h { s with heap:=h' } ⟨I.ok,I.os,I.bare,⟨λb o e n hb hx=>?_,λb o e n hb hx=>?_,I.base.free,λb o e hx=>?_,I.base.tups,I.base.frzs,I.base.tbls⟩,⟨m,hn.sameBut hs (hW (cne x c hc)),λj y v' e1 e2 e3=>?_⟩,λy c' e=>?_,I.free,I.freeC,λp hp=>?_,tj ⟨oc,hoc,I.freeC x c hc⟩ hs,by simpa using I.len⟩ ⟨c,hs,.inr hc⟩
  .exact(hs.2 b (cI (iV (bU e) (I.ok.cab x c Y8 hc)))).trans (I.base.keep b o e n hb hx)
  .obtain⟨sl,e1⟩:=I.base.slot b o e n hb hx;exact⟨sl,(hs.2 b (cI (iV (bU e) (I.ok.cab x c Y8 hc)))).trans e1⟩
  .obtain⟨o',e1⟩:=I.base.there b o e hx;exact⟨o',(hs.2 b (cI (iV (bU e) (I.ok.cab x c Y8 hc)))).trans e1⟩
  .by_cases hj:j=i
   .subst hj;rw[hi] at e1;cases e1;rw[qB O8] at e2;cases e2;exact⟨u,r,.inr ⟨.inl hk,c,hc,il⟩⟩
   .rw[nX (hW hj)] at e2;obtain⟨u',r',q⟩:=hl j y v' e1 e2 e3;refine⟨u',r',?_⟩;rcases q with q|⟨k,c',e,z'⟩
    .exact .inl q
    .refine .inr ⟨k,c',e,z'.sameBut hs ?_⟩;rintro rfl;exact hj (YB hN e1 (I.ok.inj _ _ _ e hc ▸ hi))
  .by_cases hcc:c'=c
   .subst hcc;exact⟨_,il⟩
   .obtain⟨w2,z2⟩:=I.cell y c' e;exact⟨w2,z2.sameBut hs hcc⟩
  .obtain⟨e,n,ne,nf,d⟩:=I.pin p hp;refine⟨(hs.2 p.1 ?_).trans e,n,ne,nf,d⟩;intro q;rw[q,hoc] at e;have q':=fF e;exact d w' (by rw[<-q'];exact Y9)
theorem XA{v:V}{Q:Unit->aH->Prop}(I:Inv X ad Z H s)(hN:X.N.Nodup)(hi:X.N[i]?=aa x)(hx:kK X.env.scope x)(r:RelV v u)
  (h:∀ s',Inv X ad (Z.set i (aa v)) H s'->Q () s') (hf:X.fn x=af\/X.env.scope.names.lookup x=aa .local:=by first|exact .inl rfl|exact .inr rfl|assumption):aM M A (storeName X.env x u) Q E s:=
 YT I hN hi hx r (λs' I' _=>h s' I') hf
theorem Inv.call'(I:Inv X ad Z H s)(ho:s'.os=s.os)(u:Un (vv X.stack) ch H H' s.heap s'.heap)(hok:HOk X.prog X.w H' s'.heap)(hg:sZ s'.gens)
  (xi:∀ b∈ch,(b∈X.ex\/X.s₀.heap.objs.size<=b)/\b≠X.env.locals/\(∀ x c,X.env.cells.lookup x=aa c->c≠b)/\∀ p∈X.pn++ad,p.1≠b):Inv X ad Z H' s':=by
 obtain⟨h',g',d',t',o'⟩:=s';have e:=ho;subst e;exact I.call u hok hg xi
end
abbrev XK:=aE->Option aD->Hp->Prop
abbrev St:=List (Option V)
abbrev VK:=V->Hp->Prop
abbrev TE:=St->Hp->VK->Prop
abbrev TT:=St->Hp->(Bool->Hp->Prop)->Prop
abbrev TA:=St->Hp->(List V->Hp->Prop)->Prop
structure Ends where
 nx:St->Hp->Prop
 rt:VK
 bk:St->Hp->Prop:=λ_ _=>False
 ct:St->Hp->Prop:=λ_ _=>False
abbrev TS:=Ends->St->Hp->Prop
def EP (X:Cx)(ad:List (aD×aZ))(Z:St)(Q:VK)(u:aE)(s':aH):Prop:=∃ v H',Inv X ad Z H' s'/\RelV v u/\Q v H'
def TP (X:Cx)(ad:List (aD×aZ))(Z:St)(Q:Bool->Hp->Prop)(b:Bool)(s':aH):Prop:=∃ H',Inv X ad Z H' s'/\Q b H'
def AP (X:Cx)(ad:List (aD×aZ))(Z:St)(Q:List V->Hp->Prop)(us:List aE)(s':aH):Prop:=∃ vs H',Inv X ad Z H' s'/\Vals vs us/\Q vs H'
def SP (X:Cx)(ad:List (aD×aZ))(D:Ends)(f:Flow)(s':aH):Prop:=
 match f with
 |.next=>∃ σ' H',Inv X ad σ' H' s'/\D.nx σ' H'
 |.brk=>∃ σ' H',Inv X ad σ' H' s'/\D.bk σ' H'
 |.cont=>∃ σ' H',Inv X ad σ' H' s'/\D.ct σ' H'
 |.ret u=>∃ v σ' H',Inv X ad σ' H' s'/\RelV v u/\D.rt v H'
def PE (X:Cx)(e:aR)(t:TE):Prop:=
 ∀ (ad:List (aD×aZ)) (s:aH) (Z:St) (H:Hp) (Q:VK),Inv X ad Z H s->t Z H Q->aM (aO X.prog X.w) X.A (bM e X.env) (EP X ad Z Q) X.xe s
def PT (X:Cx)(e:aR)(t:TT):Prop:=
 ∀ (ad:List (aD×aZ)) (s:aH) (Z:St) (H:Hp) (Q:Bool->Hp->Prop),Inv X ad Z H s->t Z H Q->aM (aO X.prog X.w) X.A (isTrue e X.env (bM e X.env)) (TP X ad Z Q) X.xe s
def PW (X:Cx)(e:aR)(t:TT):Prop:=
 ∀ (im:Sem aE) (ad:List (aD×aZ)) (s:aH) (Z:St) (H:Hp) (Q:Bool->Hp->Prop),Inv X ad Z H s->t Z H Q->aM (aO X.prog X.w) X.A (isTrue e X.env im) (TP X ad Z Q) X.xe s
theorem PW.pt {X:Cx}{t:TT}(h:PW X e t):PT X e t:=h _
def PA (X:Cx)(es:List aR)(t:TA):Prop:=
 ∀ (pos:bQ) (ad:List (aD×aZ)) (s:aH) (Z:St) (H:Hp) (Q:List V->Hp->Prop),Inv X ad Z H s->t Z H Q->aM (aO X.prog X.w) X.A (spliced (eR pos (bH es X.env))) (AP X ad Z Q) X.xe s
def PS (X:Cx)(st:bZ)(t:TS):Prop:=
 ∀ (ad:List (aD×aZ)) (s:aH) (Z:St) (H:Hp) (D:Ends),Inv X ad Z H s->t D Z H->aM (aO X.prog X.w) X.A (exec st X.env) (SP X ad D) X.xe s
def PSs (X:Cx)(st:List bZ)(t:TS):Prop:=
 ∀ (ad:List (aD×aZ)) (s:aH) (Z:St) (H:Hp) (D:Ends),Inv X ad Z H s->t D Z H->aM (aO X.prog X.w) X.A (execs st X.env) (SP X ad D) X.xe s
theorem bo {α:Type}{t:Sem α}{Q Q':α->aH->Prop}(h:aM M A t Q E s)(hQ:∀ a s,Q a s->Q' a s):aM M A t Q' E s:=mO h hQ λ_ _ x=>x
section
variable {X:Cx}
abbrev SX (i:Nat):TE:=λZ H Q=>∃ v,Z[i]?=aa (aa v)/\Q v H
abbrev tC (v:V):TE:=λ_ H Q=>Q v H
theorem kA(hN:X.N[i]?=aa x)(hv:iY X.env.scope x)(hd:(x==("__debug__" : aC))=ag:=by decide)(ft:(x==("__classdict__" : aC))=ag:=by decide):PE X (.Name x pos) (SX i):=by
 rw[13];obtain⟨v,e,h⟩:=h;obtain⟨m,hn,hl⟩:=I.loc;obtain⟨u,r,l⟩:=hl i x v hN e hv;have fin:EP X ad Z Q u s:=⟨v,H,I,r,h⟩;rcases l with⟨hk,hm⟩|⟨hk,c,hc,tm⟩
 .exact wpAny_Name (wpAny_loadName_local I.ok.kind hk hn hm fin) hd
 .rcases hk with hk|hk
  .exact wpAny_Name (wpAny_loadName_cell I.ok.kind hk hc tm fin) hd
  .exact wpAny_Name (wpAny_loadName_free I.ok.kind hk hc tm fin ft) hd
theorem VF {i j pos}:PE X (.Constant (.int i) j pos) (tC (.int i)):=λ_ _ _ H _ I h=>wpAny_Constant_int ⟨.int i,H,I.tok _,⟨_,rfl⟩,h⟩
theorem Lv {b j pos}:PE X (.Constant (.bool b) j pos) (tC (.bl b)):=λ_ _ _ H _ I h=>Constant_bool ⟨.bl b,H,I,rfl,h⟩
theorem VP {j pos}:PE X (.Constant .none j pos) (tC .non):=λ_ _ _ H _ I h=>Constant_none ⟨.non,H,I,rfl,h⟩
theorem Ob {x j pos}:PE X (.Constant (.str x) j pos) (tC (.str x)):=λ_ _ _ H _ I h=>Calls.Constant_str ⟨.str x,H,I.tok _,⟨_,rfl⟩,h⟩
def Gl (X:Cx)(x:aC):Prop:=X.env.kindOf x=aa .globalImplicit
theorem Fj{Z:St}{H:Hp}(I:Inv X ad Z H s)(hg:Gl X x)(hm:X.mg x=aa u)(h:Q u s)
  (hd:(x==("__debug__" : aC))=ag:=by decide):aM (aO X.prog X.w) X.A (bM (.Name x pos) X.env) Q E s:=
 Calls.Name_function_global I.ok.kind hg (Calls.loadGlobal_global (by rw[I.ok.glob];exact I.mod.glob.keeps I.bk) hm h) hd
theorem wA{Z:St}{H:Hp}(I:Inv X ad Z H s)(hg:Gl X x)(hm:X.mg x=ae)(hv:oY x=aa u)(h:Q u s)
  (hn:x ≠ "__name__":=by decide) (hd:(x==("__debug__" : aC))=ag:=by decide):aM (aO X.prog X.w) X.A (bM (.Name x pos) X.env) Q E s:=by
 obtain⟨mb,h1,h2⟩:=I.mod.blt;exact Calls.Name_function_global I.ok.kind hg (Calls.loadGlobal_builtin (by rw[I.ok.glob];exact I.mod.glob.keeps I.bk) hm (by rw[I.ok.blt];exact h1.keeps I.bk) ((h2 x hn).trans hv) h) hd
theorem Rm{v:V}(hg:Gl X x)(hm:X.mg x=aa u)(r:RelV v u)(hd:(x==("__debug__" : aC))=ag:=by decide):PE X (.Name x pos) (tC v):=
 λ_ _ _ H _ I h=>Fj I hg hm ⟨v,H,I,r,h⟩ hd
theorem Qs{v:V}(hg:Gl X x)(hm:X.mg x=ae)(hv:oY x=aa u)(r:RelV v u)(hn:x ≠ "__name__":=by decide)(hd:(x==("__debug__" : aC))=ag:=by decide):PE X (.Name x pos) (tC v):=
 λ_ _ _ H _ I h=>wA I hg hm hv ⟨v,H,I,r,h⟩ hn hd
variable {a b:aR}{ta tb:TE}
def tB (t:TE):TT:=λZ H Q=>t Z H λx H1=>∃ c,x=.bl c/\Q c H1
theorem My{t:TE}(h:PE X e t)(he:∀ im,isTrue e X.env im=(do let v <-im;standAt e.pos;oX [v] (truthy v)):=by intro _;rfl):PT X e (tB t):=by
 intro ad s Z H Q I hw;refine isTrue_plain (bo (h ad s Z H _ I hw) λv s1 ⟨x,H1,I1,r1,q1⟩=>?_) (he _)
 obtain⟨d,rfl,q⟩:=q1;cases r1;exact QA ⟨H1,I1,q⟩
variable {tA tB':TT}{rest:List aR}
def Jq (t u:TT):TT:=λZ H Q=>t Z H λc H1=>if c=af then u Z H1 Q else Q ag H1
def tOr (t u:TT):TT:=λZ H Q=>t Z H λc H1=>if c=af then Q af H1 else u Z H1 Q
def Kc (t:TT):TT:=λZ H Q=>t Z H λc H1=>Q (!c) H1
theorem Fx (ha:PT X a tA):PW X (.BoolOp .And [a] pos) tA:=by
 intro wh ad s Z H Q I h;refine isTrue_and (bo (ha ad s Z H Q I h) λc s1 e=>?_)
 cases c with
 |true=>exact isTrue_and_nil e
 |false=>exact e
theorem Mx (ha:PT X a tA):PW X (.BoolOp .Or [a] pos) tA:=by
 intro wh ad s Z H Q I h;refine isTrue_or (bo (ha ad s Z H Q I h) λc s1 e=>?_)
 cases c with
 |false=>exact isTrue_or_nil e
 |true=>exact e
theorem UP (ha:PT X a tA)(hb:PW X (.BoolOp .And (b::rest) pos) tB'):PW X (.BoolOp .And (a::b::rest) pos) (Jq tA tB'):=by
 intro wh ad s Z H Q I h;refine isTrue_and (bo (ha ad s Z H _ I h) λc s1 gh=>?_)
 obtain⟨H1,I1,q1⟩:=gh;cases c with
 |true=>exact hb wh ad s1 Z H1 Q I1 q1
 |false=>exact⟨H1,I1,q1⟩
theorem Kq (ha:PT X a tA)(hb:PW X (.BoolOp .Or (b::rest) pos) tB'):PW X (.BoolOp .Or (a::b::rest) pos) (tOr tA tB'):=by
 intro wh ad s Z H Q I h;refine isTrue_or (bo (ha ad s Z H _ I h) λc s1 gh=>?_)
 obtain⟨H1,I1,q1⟩:=gh;cases c with
 |true=>exact⟨H1,I1,q1⟩
 |false=>exact hb wh ad s1 Z H1 Q I1 q1
theorem Nc (ha:PT X a tA):PT X (.UnaryOp .Not a pos) (Kc tA):=by
 rw[13];exact isTrue_not (ha ad s Z H (λc H1=>Q (!c) H1) I h)
def Lw (ta tb:TE):TE:=λZ H Q=>ta Z H λx H1=>∃ c,x=.bl c/\if c=af then tb Z H1 Q else Q (.bl ag) H1
theorem VY {op}{t:TE}(h:PE X a t):PE X (.BoolOp op [a] pos) t:=λad s Z H Q I hw=>BoolOp_one (h ad s Z H Q I hw)
theorem VN (ha:PE X a ta)(hb:PE X (.BoolOp .And (b::rest) pos) tb):PE X (.BoolOp .And (a::b::rest) pos) (Lw ta tb):=by
 rw[13];refine BoolOp_and (bo (ha ad s Z H _ I h) λv s1 gh=>?_)
 obtain⟨x,H1,I1,r1,q1⟩:=gh;obtain⟨c,rfl,q1⟩:=q1;cases r1;refine QA ?_;cases c with
 |true=>exact hb ad s1 Z H1 Q I1 q1
 |false=>exact⟨.bl ag,H1,I1,rfl,q1⟩
def tIf (t:TT)(ta tb:TE):TE:=λZ H Q=>t Z H λc H1=>if c=af then ta Z H1 Q else tb Z H1 Q
theorem WI(hc:PT X c tA)(ha:PE X a ta)(hb:PE X b tb):PE X (.IfExp c a b pos) (tIf tA ta tb):=by
 rw[13];refine wpAny_IfExp (bo (hc ad s Z H _ I h) λd s1 gh=>?_)
 obtain⟨H1,I1,q1⟩:=gh;cases d with
 |true=>exact ha ad s1 Z H1 Q I1 q1
 |false=>exact hb ad s1 Z H1 Q I1 q1
end
def SqL (K:aK)(H:Hp)(a:aD)(xs:List V):Prop:=
 Rd H a (.lst xs) \/
  ∃ (o:aZ) (its:Array aE) (n:Nat),K.lookup a=aa o/\o.cls=.type "list" /\ o.dict=ae/\o.data=.seq its n/\its.size<=sizeLine/\Vals xs its.toList
def SqT (K:aK)(H:Hp)(a:aD)(xs:List V):Prop:=
 Rd H a (.tup xs) \/
  ∃ (o:aZ) (its:Array aE) (n:Nat),K.lookup a=aa o/\o.cls=.type "tuple" /\ o.data=.seq its n/\its.size<=sizeLine/\Vals xs its.toList
def Kb:aE->Option V
 |.none=>aa .non
 |.bool b=>aa (.bl b)
 |.int i _=>aa (.int i)
 |.str x _=>aa (.str x)
 |.bytes b _=>aa (.byt b)
 |.float b _=>aa (.flt b)
 |.ref a=>aa (.ref a)
 |.type n=>aa (.ty n)
 |_=>ae
theorem RelV.abs {x:V}(r:RelV x u):Kb u=aa x:=by
 cases x with
 |non=>cases r;rfl
 |bl _=>cases r;rfl
 |int _=>obtain⟨t,rfl⟩:=r;rfl
 |str _=>obtain⟨t,rfl⟩:=r;rfl
 |byt _=>obtain⟨t,rfl⟩:=r;rfl
 |flt _=>obtain⟨t,rfl⟩:=r;rfl
 |ref _=>cases r;rfl
 |ty _=>cases r;rfl
theorem RelV.inj {x y:V}(r:RelV x u)(q:RelV y u):x=y:=fF (r.abs.symm.trans q.abs)
theorem Vals.inj:∀ {xs ys:List V} {us:List aE},Vals xs us->Vals ys us->xs=ys:=by
 intro xs ys us h;induction h generalizing ys with
 |nil=>intro h;cases h;rfl
 |cons r _ ih=>
  intro h;cases h with
  |cons r' t'=>rw[r.inj r',ih t']
section
variable {X:Cx}{Z:St}{H:Hp}{xs ys:List V}
theorem SqL.of(h:H a=aa (.lst xs)):SqL K H a xs:=.inl (.inl h)
theorem SqT.of(h:H a=aa (.tup xs)):SqT K H a xs:=.inl (.inl h)
theorem Inv.list (I:Inv X ad Z H s)(h:SqL X.K H a xs):∃ its:List aE,Vals xs its/\PlainL s.heap a its.toArray/\xs.length<=sizeLine:=by
 rcases h with h|⟨o,its,n,hk,hc,hd,hs,hz,r⟩
 .obtain⟨z,its,n,r,e⟩:=h.ok I.hok;exact⟨its,r,⟨_,n,e,rfl,rfl,rfl⟩,z⟩
 .refine⟨its.toList,r,⟨o,n,I.kIn a o hk,hc,hd,by simpa using hs⟩,?_⟩
  have e:=r.length;simp only[fZ] at e;omega
theorem Inv.tuple (I:Inv X ad Z H s)(h:SqT X.K H a xs):∃ its:List aE,Vals xs its/\IsTup s.heap a its.toArray/\xs.length<=sizeLine:=by
 rcases h with h|⟨o,its,n,hk,hc,hs,hz,r⟩
 .obtain⟨z,its,r,p⟩:=h.ok I.hok;exact⟨its,r,p.1,z⟩
 .refine⟨its.toList,r,⟨o,I.kIn a o hk,hc,n,by simpa using hs⟩,?_⟩
  have e:=r.length;simp only[fZ] at e;omega
theorem Inv.list_inj (I:Inv X ad Z H s)(h:SqL X.K H a xs)(h':SqL X.K H a ys):xs=ys:=by
 obtain⟨its,r,⟨o,n,e,_,_,d⟩,_⟩:=I.list h;obtain⟨jt,r',⟨o',n',e',_,_,d'⟩,_⟩:=I.list h';rw[e] at e';cases e';rw[d] at d';injection d' with d1 _;have:its=jt:=by simpa using congrArg Array.toList d1
 rw[20];exact r.inj r'
theorem Inv.tuple_inj (I:Inv X ad Z H s)(h:SqT X.K H a xs)(h':SqT X.K H a ys):xs=ys:=by
 obtain⟨its,r,⟨o,e,_,n,d⟩,_⟩:=I.tuple h;obtain⟨jt,r',⟨o',e',_,n',d'⟩,_⟩:=I.tuple h';rw[e] at e';cases e';rw[d] at d';injection d' with d1 _;have:its=jt:=by simpa using congrArg Array.toList d1
 rw[20];exact r.inj r'
end
abbrev Cx.wish (X:Cx)(E:aE->aH->Prop):Cx:={ X with xe:=E }
abbrev Cx.nox (X:Cx):Cx:=X.wish λ_ _=>False
theorem Cx.Ok.wish {X:Cx}(ok:X.Ok)(E:aE->aH->Prop):(X.wish E).Ok:=
 ⟨ok.mod,ok.kind,ok.glob,ok.blt,ok.above,ok.inj,ok.has,ok.cab,ok.hd,ok.frames,ok.stk,ok.exf,ok.bs,ok.bsz,ok.noex,ok.exfs,ok.funs,ok.frf⟩
theorem Cx.Ok.unwish {X:Cx}(ok:(X.wish E).Ok):X.Ok:=
 ⟨ok.mod,ok.kind,ok.glob,ok.blt,ok.above,ok.inj,ok.has,ok.cab,ok.hd,ok.frames,ok.stk,ok.exf,ok.bs,ok.bsz,ok.noex,ok.exfs,ok.funs,ok.frf⟩
section
variable {X:Cx}{Z:St}{H:Hp}
theorem Inv.wish (I:Inv X ad Z H s)(E:aE->aH->Prop):Inv (X.wish E) ad Z H s:=⟨I.ok.wish E,I.os,I.bare,I.base,I.loc,I.cell,I.free,I.freeC,I.pin,I.hok,I.len⟩
theorem Inv.unwish (I:Inv (X.wish E) ad Z H s):Inv X ad Z H s:=⟨I.ok.unwish,I.os,I.bare,I.base,I.loc,I.cell,I.free,I.freeC,I.pin,I.hok,I.len⟩
theorem SP.unwish {D:Ends}{f:Flow}(h:SP (X.wish E) ad D f s'):SP X ad D f s':=by
 cases f with
 |next=>obtain⟨σ',H',I,q⟩:=h;exact⟨σ',H',I.unwish,q⟩
 |brk=>obtain⟨σ',H',I,q⟩:=h;exact⟨σ',H',I.unwish,q⟩
 |cont=>obtain⟨σ',H',I,q⟩:=h;exact⟨σ',H',I.unwish,q⟩
 |ret u=>obtain⟨v,σ',H',I,r,q⟩:=h;exact⟨v,σ',H',I.unwish,r,q⟩
theorem PSs.nox {st:List bZ}{t:TS}(h:PSs X.nox st t):PSs X st t:=λad s Z H D I hw=>
 mO (h ad s Z H D (I.wish _) hw) (λ_ _ q=>q.unwish) λ_ _ z=>rP z
end
section
variable {X:Cx}{st:bZ}{rest:List bZ}{t u:TS}{te:TE}
def La:TS:=λD Z H=>D.nx Z H
def Js (t u:TS):TS:=λD Z H=>t { D with nx:=u D } Z H
theorem Fw:PSs X [] La:=λ_ _ Z H _ I h=>QE ⟨Z,H,I,h⟩
theorem Xg (h1:PS X st t)(h2:PSs X rest u):PSs X (st::rest) (Js t u):=by
 rw[22];refine wpAny_execs_cons (bo (h1 ad s Z H { D with nx:=u D } I h) λf s1 q=>?_)
 cases f with
 |next=>
  obtain⟨σ',H',I',q⟩:=q;exact h2 ad s1 σ' H' D I' q
 |ret v=>exact q
 |brk=>exact q
 |cont=>exact q
theorem Sl (h1:PS X st t):PSs X [st] t:=by
 rw[22];refine wpAny_execs_cons (bo (h1 ad s Z H D I h) λf s1 q=>?_)
 cases f with
 |next=>exact QE q
 |ret v=>exact q
 |brk=>exact q
 |cont=>exact q
theorem Inv.quiet{Z:St}{H:Hp}(I:Inv X ad Z H s):interactive X.env=ag:=by simp[interactive,I.ok.kind]
def Lx (te:TE):TS:=λD Z H=>te Z H λ_ H1=>D.nx Z H1
theorem zX (he:PE X e te)(hs:mQ e ae pos.line X.env=pure ag:=by rfl):PS X (.Expr e pos) (Lx te):=by
 rw[22];exact wpAny_Expr_any (bo (he ad s Z H _ I h) λv s1 ⟨x,H1,I1,r1,q1⟩=>⟨Z,H1,I1,q1⟩) I.quiet hs
def Kf (te:TE):TS:=λD Z H=>te Z H D.rt
theorem zN (he:PE X e te):PS X (.Return (aa e) pos) (Kf te):=by
 rw[22];exact wpAny_Return_some (bo (he ad s Z H _ I h) λv s1 ⟨x,H1,I1,r1,q1⟩=>⟨x,Z,H1,I1,r1,q1⟩)
def Jj (c:TT)(t u:TS):TS:=λD Z H=>c Z H λb H1=>if b=af then t D Z H1 else u D Z H1
theorem TV{a b:List bZ}{tc:TT}(hc:PT X c tc)(ha:PSs X a t)(hb:PSs X b u):PS X (.If c a b pos) (Jj tc t u):=by
 rw[22];refine wpAny_If (bo (hc ad s Z H _ I h) λd s1 gh=>?_)
 obtain⟨H1,I1,q1⟩:=gh;cases d with
 |true=>exact ha ad s1 Z H1 D I1 q1
 |false=>exact hb ad s1 Z H1 D I1 q1
end
abbrev TG:=V->St->Hp->(St->Hp->Prop)->Prop
abbrev M3:=List V->St->Hp->(St->Hp->Prop)->Prop
def PG (X:Cx)(jx:aR)(t:TG):Prop:=
 ∀ (ad:List (aD×aZ)) (s:aH) (Z:St) (H:Hp) (v:V) (u:aE) (Q:St->Hp->Prop),Inv X ad Z H s->RelV v u->t v Z H Q ->
  aM (aO X.prog X.w) X.A (lO jx X.env u) (λ_ s'=>∃ σ' H',Inv X ad σ' H' s'/\Q σ' H') X.xe s
def X9 (X:Cx)(ts:List aR)(t:M3):Prop:=
 ∀ (ad:List (aD×aZ)) (s:aH) (Z:St) (H:Hp) (vs:List V) (us:List aE) (Q:St->Hp->Prop),Inv X ad Z H s->Vals vs us->t vs Z H Q ->
  aM (aO X.prog X.w) X.A (assignInOrder ((iJ ts X.env).map (·.2)) us) (λ_ s'=>∃ σ' H',Inv X ad σ' H' s'/\Q σ' H') X.xe s
abbrev JB:=V->V->V->Hp->(Hp->Prop)->Prop
def SN (X:Cx)(t:JB):Prop:=
 ∀ (ad:List (aD×aZ)) (s:aH) (Z:St) (H:Hp) (o i v:V) (ov iv u:aE) (Q:Hp->Prop),Inv X ad Z H s->RelV o ov->RelV i iv->RelV v u->t o i v H Q ->
  aM (aO X.prog X.w) X.A (setItem ov iv u) (λ_ s'=>∃ H',Inv X ad Z H' s'/\Q H') X.xe s
section
variable {X:Cx}
def JR (i:Nat):TG:=λv Z H Q=>Q (Z.set i (aa v)) H
theorem wI(hN:X.N.Nodup)(hi:X.N[i]?=aa x)(hx:kK X.env.scope x)(hf:X.fn x=af\/X.env.scope.names.lookup x=aa .local:=by first|exact .inl rfl|exact .inr rfl|assumption):PG X (.Name x pos) (JR i):=by
 intro ad s Z H v u Q I r h;exact wpAny_assign_Name (XA I hN hi hx r (λs' I'=>⟨_,H,I',h⟩) hf)
def Ju:M3:=λvs Z H Q=>vs=[]/\Q Z H
def Lc (t:TG)(u:M3):M3:=λvs Z H Q=>∃ v r,vs=v::r/\t v Z H λσ' H'=>u r σ' H' Q
theorem Eu:X9 X [] Ju:=by
 intro ad s Z H vs us Q I r h;obtain⟨e,h⟩:=h;subst e;cases r;exact assignInOrder_nil ⟨Z,H,I,h⟩
theorem GB{t:TG}{u:M3}(h1:PG X e t)(h2:X9 X es u)
  (hs:(iJ (e::es) X.env).map (·.2)=lO e X.env::(iJ es X.env).map (·.2):=by rfl):X9 X (e::es) (Lc t u):=by
 intro ad s Z H vs us Q I r h;obtain⟨v,vr,e1,h⟩:=h;subst e1;cases r with
 |cons r rr=>
  rw[hs];refine assignInOrder_cons (bo (h1 ad s Z H _ _ _ I r h) λ_ s1 gh=>?_)
  obtain⟨σ1,H1,I1,q1⟩:=gh;exact h2 ad s1 σ1 H1 _ _ Q I1 rr q1
def Jm (K:aK)(n:Nat)(t:M3):TG:=λv Z H Q=>∃ a xs,v=.ref a/\SqT K H a xs/\xs.length=n/\t xs Z H Q
theorem VX{t:M3}{n:Nat}(hc:X.calm=af)(h:X9 X es t)
  (hn:(iJ es X.env).length=n:=by rfl) (jy:(iJ es X.env).findIdx? (·.1)=ae:=by rfl):PG X (.Tuple es k pos) (Jm X.K n t):=by
 intro ad s Z H v u Q I r hw;obtain⟨a,xs,e1,hq,hl,hw⟩:=hw;subst e1;cases r;obtain⟨its,rv,ht,hz⟩:=I.tuple hq;refine assign_Tuple_tuple (I.ok.hd hc) ht (by simp[hn,<-hl,rv.length]) jy λh' hx=>?_
 have I1:Inv X ad Z H { s with heap:=h' }:=I.kept (t':=s.toks) λb o e=>hx b o (cI (bU e)) e
 exact h ad _ Z H xs _ Q I1 (by simpa using rv) hw
def Jp (to ti:TE)(t:JB):TG:=λv Z H Q=>to Z H λo H1=>ti Z H1 λi H2=>t o i v H2 λH3=>Q Z H3
theorem UJ {o i:aR}{to ti:TE}{t:JB}(ho:PE X o to)(hi:PE X i ti)(hs:SN X t)
  (ha:∀ v,lO (.Subscript o i pos) X.env v=(do
   let ov <-oX [v] (bM o X.env)
   let iv <-oX [v,ov] (bM i X.env)
   standAt pos
   oX [v,ov,iv] (setItem ov iv v)
   release [v,ov,iv] []):=by intro _;rfl):PG X (.Subscript o i pos) (Jp to ti t):=by
 intro ad s Z H v u Q I r h;rw[ha];refine aG (hG (bo (ho ad s Z H _ I h) λov s1 gh=>?_))
 obtain⟨x,H1,I1,r1,q1⟩:=gh;refine aG (hG (bo (hi ad s1 Z H1 _ I1 q1) λiv s2 gh=>?_))
 obtain⟨y,H2,I2,r2,q2⟩:=gh;refine aG (wpAny_standAt (aG (hG (bo (hs ad s2 Z H2 x y v ov iv u _ I2 r1 r2 r q2) λ_ s3 gh=>?_))))
 obtain⟨H3,I3,q3⟩:=gh;exact wpAny_release ⟨Z,H3,I3,q3⟩
def IV (te:TE)(g:TG):TS:=λD Z H=>te Z H λx H1=>g x Z H1 D.nx
theorem PV{te:TE}{g:TG}(he:PE X e te)(hg:PG X tg g)(hs:QF [tg] e pos.line X.env=pure ag:=by rfl)(hw:QG [tg] e X.env=pure ae:=by rfl)
  (h1:(iJ [tg] X.env).map (·.2)=[lO tg X.env]:=by rfl):PS X (.Assign [tg] e pos) (IV te g):=by
 rw[22];refine wpAny_Assign_stores (bo (he ad s Z H _ I h) λv s1 ⟨x,H1,I1,r1,q1⟩=>?_) hs hw
 rw[h1];exact bo (hg ad s1 Z H1 x v _ I1 r1 q1) λ_ s2 q=>q
theorem PN{te:TE}{jz:bQ}(hN:X.N.Nodup)(hi:X.N[i]?=aa x)(hx:kK X.env.scope x)(he:PE X e te)(hs:mQ e (aa (.Name x jz)) pos.line X.env=pure ag:=by rfl)(hf:X.fn x=af\/X.env.scope.names.lookup x=aa .local:=by first|exact .inl rfl|exact .inr rfl|assumption) :
  PS X (.Assign [.Name x jz] e pos) (IV te (JR i)):=by
 rw[22];refine wpAny_Assign_Name (bo (he ad s Z H _ I h) λv s1 ⟨y,H1,I1,r1,q1⟩=>?_) hs
 exact XA I1 hN hi hx r1 (λs2 I2=>⟨_,H1,I2,q1⟩) hf
end
section
variable {X:Cx}
def Mh (c:TT)(tb:TS):TS:=λD Z H=>∃ W:Nat->St->Hp->Prop,(∃ m,W m Z H)/\∀ m Z H,W m Z H ->
 c Z H λb H1=>if b=af then ∃ N:St->Hp->Prop,(∀ σ' H',N σ' H'->∃ m',m'<m/\W m' σ' H')/\tb { D with nx:=N,ct:=N,bk:=D.nx } Z H1 else D.nx Z H1
theorem Vn{tc:TT}{tb:TS}(hp:CS (aO X.prog X.w) X.A X.env X.xe)(hc:PT X c tc)(hb:PSs X body tb):PS X (.While c body [] pos) (Mh tc tb):=by
 rw[22];obtain⟨W,⟨m0,w0⟩,qw⟩:=h;refine wpAny_While (codeAny_whileLoop (λn s'=>∃ σ' H',Inv X ad σ' H' s'/\W n σ' H') ?_ m0 ⟨Z,H,I,w0⟩)
 rintro n s1 ⟨σ1,H1,I1,w1⟩;refine yA hp (bo (hc ad s1 σ1 H1 _ I1 (qw n σ1 H1 w1)) λb s2 gh=>?_)
 obtain⟨H2,I2,q2⟩:=gh;cases b with
 |true=>
  obtain⟨N,hN,q2⟩:=q2;rw[if_pos rfl];refine yA hp (bo (hb ad s2 σ1 H2 _ I2 q2) λf s3 q3=>?_)
  cases f with
  |next=>
   obtain⟨σ3,H3,I3,n3⟩:=q3;obtain⟨m',hm,w3⟩:=hN σ3 H3 n3;exact⟨m',hm,σ3,H3,I3,w3⟩
  |cont=>
   obtain⟨σ3,H3,I3,n3⟩:=q3;obtain⟨m',hm,w3⟩:=hN σ3 H3 n3;exact⟨m',hm,σ3,H3,I3,w3⟩
  |brk=>exact q3
  |ret v=>exact q3
 |false=>
  rw[if_neg lX];exact QE ⟨σ1,H2,I2,q2⟩
end
structure It where
 go:Nat->Hp->Prop
 yld:Nat->Hp->V->Hp->Prop
 stop:Nat->Hp->Prop
def jW (X:Cx)(ad:List (aD×aZ))(H:Hp)(b:aD):Prop:=
 H b=ae/\b≠X.env.locals/\b∉X.fs/\(b∈X.ex\/X.s₀.heap.objs.size<=b)/\(∀ x c,X.env.cells.lookup x=aa c->c≠b)/\∀ p∈X.pn++ad,p.1≠b
theorem Inv.fpOk {X:Cx}{Z:St}{H H':Hp}(I:Inv X ad Z H s)(hb:s.heap.objs.size<=b)(hn:H' b=ae):jW X ad H' b:=by
 refine⟨hn,kG (iV I.lt hb),I.nofs hb,.inr (dG I.sz hb),λx c e z=>?_,λp hp z=>?_⟩
 .obtain⟨v,q⟩:=I.cell x c e;exact absurd (iV q.lt (by rw[z];exact hb)) (lQ _)
 .exact absurd (iV (bU (I.pin p hp).1) (by rw[z];exact hb)) (lQ _)
structure Turn (P:bT)(w:bB)(K:aK)(tg:aR)(J:It)(fp:List aD)(it:aD)(tn:Nat->aQ->Prop):Prop where
 mem:it∈fp
 obj:∀ i h,tn i h->∀ b∈fp,∃ o,h.get? b=aa o/\∀ v,o.data ≠ .cell v
 keep:∀ i h h',tn i h->(∀ b∈fp,∀ o,h.get? b=aa o->h'.get? b=aa o)->tn i h'
 item:∀ (X:Cx),X.prog=P->X.w=w->X.K=K->X.calm=af->∀ (i:Nat) (ad:List (aD×aZ)) (s:aH) (Z:St) (H:Hp) (E:aE->aH->Prop),Inv X ad Z H s->(∀ b∈fp,jW X ad H b)->tn i s.heap->J.go i H ->
  aM (aO P w) X.A (gL (.ref it)) (λr s1=>∃ u,r=aa u /\
   aM (aO P w) X.A (QK tg (.ref it) u) (λ_ s2=>∃ x H',Inv X ad Z H' s2/\RelV x u/\J.yld i H x H'/\tn (i+1) s2.heap/\∀ b∈fp,H' b=ae) E s1) E s
 done:∀ (X:Cx),X.prog=P->X.w=w->X.K=K->X.calm=af->∀ (i:Nat) (ad:List (aD×aZ)) (s:aH) (Z:St) (H:Hp) (E:aE->aH->Prop),Inv X ad Z H s->(∀ b∈fp,jW X ad H b)->tn i s.heap->J.stop i H ->
  aM (aO P w) X.A (gL (.ref it)) (λr s1=>r=ae/\Inv X ad Z H s1) E s
 self:∀ (A:cB) (i:Nat) (s:aH) (Q:aE->aH->Prop) (E:aE->aH->Prop),tn i s.heap->Q (.ref it) s->aM (aO P w) A (lL (.ref it)) Q E s
abbrev TI:=St->Hp->(It->Hp->Prop)->Prop
def PIE (X:Cx)(ad:List (aD×aZ))(Z:St)(tg:aR)(R:It->Hp->Prop)(WP:aE)(s2:aH):Prop:=
 ∃ (it:aD) (fp:List aD) (tn:Nat->aQ->Prop) (J:It) (H':Hp),WP=.ref it/\Inv X ad Z H' s2/\Turn X.prog X.w X.K tg J fp it tn/\tn 0 s2.heap/\(∀ b∈fp,jW X ad H' b)/\R J H'
def PI (X:Cx)(tg bu:aR)(wi:TI):Prop:=
 ∀ (ad:List (aD×aZ)) (s:aH) (Z:St) (H:Hp) (R:It->Hp->Prop),Inv X ad Z H s->wi Z H R ->
  aM (aO X.prog X.w) X.A (bM bu X.env) (λv s1=>aM (aO X.prog X.w) X.A (lL v) (PIE X ad Z tg R) X.xe s1) X.xe s
theorem CD{it:aD}{n:String}{vs:Array aE}{Q:Unit->aH->Prop}(ho:s.heap.get? it=aa o)(hc:o.cls=.type n)(hd:o.data=.fields vs)
    (hn:["enumerate","zip","dict_itemiterator","dict_reverseitemiterator","odict_iterator","itertools.zip_longest","itertools.pairwise"].contains n=ag) (hQ:Q () s):aM M A (QK tg (.ref it) u) Q E s:=by
  unfold QK;cases tg<;>first
    |exact aN hQ
    | (cases u<;>first
        |exact aN hQ
        | (refine aG (wpAny_load ho ?_)
           rw[hc,hd];show aM M A (if (["enumerate","zip","dict_itemiterator","dict_reverseitemiterator","odict_iterator","itertools.zip_longest","itertools.pairwise"].contains n&&vs[0]?==aa (cS _))=af then _ else _) Q E s
           rw[if_neg (by intro h;rw[hn,Bool.false_and] at h;cases h)]
           exact aN hQ))
def IT (K:aK)(a:aD):It:=
 ⟨λi H=>∃ xs x,SqL K H a xs/\xs[i]?=aa x,λi H x H'=>H'=H/\∀ xs,SqL K H a xs->xs[i]?=aa x,λi H=>∃ xs,SqL K H a xs/\xs.length<=i⟩
def IR (K:aK)(a:aD):It:=
 ⟨λi H=>∃ xs x,SqT K H a xs/\xs[i]?=aa x,λi H x H'=>H'=H/\∀ xs,SqT K H a xs->xs[i]?=aa x,λi H=>∃ xs,SqT K H a xs/\xs.length<=i⟩
def DX (lo:Int)(n:Nat):It:=⟨λi _=>i<n,λi H x H'=>H'=H/\x=.int (lo+i),λi _=>n<=i⟩
theorem p6 {P:bT}{w:bB}(a it:aD):Turn P w K tg (IT K a) [it] it (λi h=>h.IsListIter it a i) where
 mem:=by simp
 obj:=λi h st b hb=>by
  have e:b=it:=by simpa using hb
  subst e;obtain⟨o,e,c,d⟩:=st;exact⟨o,e,λv z=>by rw[d] at z;cases z⟩
 keep:=λi h h' st k=>st.at λo e=>k it (by simp) o e
 item:=by
  rw[2];obtain⟨xs,x,hq,hx⟩:=hg;obtain⟨its,rv,p,hz⟩:=I.list hq;obtain⟨u,hu,ru⟩:=rv.get hx;rw[14];refine wpAny_pyNext_list_item st p.isList (x:=u) (by simpa using hu) λh' kc sb=>?_
  have I1:Inv X ad Z H { s with heap:=h' }:=I.turned (t':=s.toks) (λb o hb e=>(sb.2 b hb).trans e) f0 f1 f3 f4 f5
  obtain⟨o,e,c,d⟩:=id kc;exact⟨u,rfl,CD (s:={ s with heap:=h' }) e c d (by decide) ⟨x,H,I1,ru,⟨rfl,λys hy=>by rw[I.list_inj hy hq];exact hx⟩,kc,λb hb=>(hf b hb).1⟩⟩
 done:=by
  rw[2];obtain⟨xs,hq,hx⟩:=hg;obtain⟨its,rv,p,hz⟩:=I.list hq;rw[14];have hl:=rv.length;exact wpAny_pyNext_list_end (I.ok.hd hc) st p.isList (by simp;omega) λh' eb=>⟨rfl,I.turned (t':=s.toks) (λb o hb e=>eb b o hb e) f0 f1 f3 f4 f5⟩
 self:=λ_ _ _ _ _ st h=>wpAny_pyIter_listiter st h
theorem Yd {P:bT}{w:bB}(a it:aD):Turn P w K tg (IR K a) [it] it (λi h=>h.IsTupleIter it a i) where
 mem:=by simp
 obj:=λi h st b hb=>by
  have e:b=it:=by simpa using hb
  subst e;obtain⟨o,e,c,d⟩:=st;exact⟨o,e,λv z=>by rw[d] at z;cases z⟩
 keep:=λi h h' st k=>st.at λo e=>k it (by simp) o e
 item:=by
  rw[2];obtain⟨xs,x,hq,hx⟩:=hg;obtain⟨its,rv,p,hz⟩:=I.tuple hq;obtain⟨u,hu,ru⟩:=rv.get hx;rw[14];refine wpAny_pyNext_tuple_item st (show s.heap.IsTuple a its.toArray from p) (x:=u) (by simpa using hu) λh' kc sb=>?_
  have I1:Inv X ad Z H { s with heap:=h' }:=I.turned (t':=s.toks) (λb o hb e=>(sb.2 b hb).trans e) f0 f1 f3 f4 f5
  obtain⟨o,e,c,d⟩:=id kc;exact⟨u,rfl,CD (s:={ s with heap:=h' }) e c d (by decide) ⟨x,H,I1,ru,⟨rfl,λys hy=>by rw[I.tuple_inj hy hq];exact hx⟩,kc,λb hb=>(hf b hb).1⟩⟩
 done:=by
  rw[2];obtain⟨xs,hq,hx⟩:=hg;obtain⟨its,rv,p,hz⟩:=I.tuple hq;rw[14];have hl:=rv.length;exact wpAny_pyNext_tuple_end (I.ok.hd hc) st (show s.heap.IsTuple a its.toArray from p) (by simp;omega) λh' eb=>⟨rfl,I.turned (t':=s.toks) (λb o hb e=>eb b o hb e) f0 f1 f3 f4 f5⟩
 self:=λ_ _ _ _ _ st h=>wpAny_pyIter_tupleiter st h
theorem G9 {P:bT}{w:bB}(it:aD)(lo:Int)(n:Nat):Turn P w K tg (DX lo n) [it] it (λi h=>IsRangeIter h it (lo+(i:Nat)*1) ((n:Int)-(i:Nat)) 1) where
 mem:=by simp
 obj:=λi h st b hb=>by
  have e:b=it:=by simpa using hb
  subst e;exact⟨_,st,λv z=>by
   have z':Data.fields _=Data.cell v:=z;cases z'⟩
 keep:=λi h h' st k=>k it (by simp) _ st
 item:=by
  rw[2];rw[14];have W:=Walks.range (prog:=X.prog) (w:=X.w) (I.ok.hd hc) it lo 1 n;refine W.item i s _ _ hg st λv h' tk hv kc kk=>?_
  obtain⟨t,rfl⟩:=hv;have I1:Inv X ad Z H { s with heap:=h',toks:=tk }:=I.turned (λb o hb e=>kk b o (by simpa using hb) e) f0 f1 f3 f4 f5
  refine⟨_,rfl,CD (s:={ s with heap:=h',toks:=tk }) (n:="range_iterator") kc rfl rfl (by decide) ⟨.int (lo+i),H,I1,⟨t,?_⟩,⟨rfl,rfl⟩,kc,λb hb=>(hf b hb).1⟩⟩
  rw[Int.mul_one]
 done:=by
  rw[2];rw[14];exact wpAny_pyNext_range_end (I.ok.hd hc) st (by have:n<=i:=hg;omega) λh' eb=>⟨rfl,I.turned (t':=s.toks) (λb o hb e=>eb b o hb e) f0 f1 f3 f4 f5⟩
 self:=λ_ _ _ _ _ st h=>wpAny_pyIter_rangeiter st h
section
variable {X:Cx}
def Li (K:aK)(tl:TE):TI:=λZ H R=>tl Z H λx H1=>∃ a,x=.ref a/\(∃ xs,SqL K H1 a xs)/\R (IT K a) H1
def Ji (K:aK)(tl:TE):TI:=λZ H R=>tl Z H λx H1=>∃ a,x=.ref a/\(∃ xs,SqT K H1 a xs)/\R (IR K a) H1
theorem To {l:aR}{tl:TE}(hl:PE X l tl):PI X tg l (Li X.K tl):=by
 intro ad s Z H R I h;refine bo (hl ad s Z H _ I h) λv s1 gh=>?_
 obtain⟨x,H1,I1,r1,q1⟩:=gh;obtain⟨a,e,⟨xs,hq⟩,q⟩:=q1;subst e;cases r1;obtain⟨its,rv,p,hz⟩:=I1.list hq;refine CI p.isList ?_;refine⟨s1.heap.objs.size,[s1.heap.objs.size],_,_,H1,rfl,I1.kept λb o e=>bN _ e,p6 a _,⟨_,cW _ rfl,rfl,rfl⟩,λb hb=>?_,q⟩
 have e:b=s1.heap.objs.size:=by simpa using hb
 subst e;exact I1.fpOk (bE _) (I1.hok.fresh (bE _))
theorem Nz {l:aR}{tl:TE}(hl:PE X l tl):PI X tg l (Ji X.K tl):=by
 intro ad s Z H R I h;refine bo (hl ad s Z H _ I h) λv s1 gh=>?_
 obtain⟨x,H1,I1,r1,q1⟩:=gh;obtain⟨a,e,⟨xs,hq⟩,q⟩:=q1;subst e;cases r1;obtain⟨its,rv,p,hz⟩:=I1.tuple hq;refine wpAny_pyIter_tuple (show s1.heap.IsTuple a its.toArray from p) ?_
 refine⟨s1.heap.objs.size,[s1.heap.objs.size],_,_,H1,rfl,I1.kept λb o e=>bN _ e,Yd a _,⟨_,cW _ rfl,rfl,rfl⟩,λb hb=>?_,q⟩
 have e:b=s1.heap.objs.size:=by simpa using hb
 subst e;exact I1.fpOk (bE _) (I1.hok.fresh (bE _))
theorem Vm{Z:St}{H:Hp}{R:It->Hp->Prop}{lo hi:Int}{t u v:Tok}{tk:Nat}(I:Inv X ad Z H s)(h1 : -(2^62)<=lo)(h2:lo<2^62)(h3 : -(2^62)<=hi)(h4:hi<2^62)
  (q:R (DX lo (hi-lo).toNat) H):aM (aO X.prog X.w) X.A (lL (.ref s.heap.objs.size)) (PIE X ad Z tg R) E { s with heap:=s.heap.push { cls:=.type "range",data:=.fields #[.int lo t,.int hi u,.int 1 v] },toks:=tk }:=by
 refine wpAny_pyIter_range (IsRange.new ..) (small_one h1 h2 h3 h4) ?_;have I1:Inv X ad Z H { s with heap:=s.heap.push { cls:=.type "range",data:=.fields #[.int lo t,.int hi u,.int 1 v] },toks:=tk }:=I.kept λb o e=>bN _ e
 refine⟨(s.heap.push { cls:=.type "range",data:=.fields #[.int lo t,.int hi u,.int 1 v] }).objs.size,[(s.heap.push { cls:=.type "range",data:=.fields #[.int lo t,.int hi u,.int 1 v] }).objs.size],_,_,H,rfl,
  I1.kept (t':=tk) λb o e=>bN _ e,G9 _ lo (hi-lo).toNat,?_,λb hb=>?_,q⟩
 .have e1:lo+((0:Nat):Int)*1=lo:=by simp
  have e2:(((hi-lo).toNat:Nat):Int)-((0:Nat):Int)=Builtin.Range.rangeSize lo hi 1:=by rw[rangeSize_one];split<;>omega
  show IsRangeIter _ _ (lo+((0:Nat):Int)*1) ((((hi-lo).toNat:Nat):Int)-((0:Nat):Int)) 1;rw[e1,e2];exact cW _ rfl
 .have e:b=(s.heap.push { cls:=.type "range",data:=.fields #[.int lo t,.int hi u,.int 1 v] }).objs.size:=by simpa using hb
  subst e;exact I1.fpOk (bE _) (I1.hok.fresh (bE _))
def Lq (ta:TA):TI:=λZ H R=>ta Z H λvs H1=>∃ j:Int,vs=[.int j] /\ -(2^62)<=j/\j<2^62/\R (DX 0 j.toNat) H1
theorem E3 {a:aR}{ta:TA}(hg:Gl X "range")(hm:X.mg "range" = ae)(ha:PA X [a] ta)(hs:bH [a] X.env=[(ag,bM a X.env)]:=by rfl):PI X tg (.Call (.Name "range" p) [a] [] pos) (Lq ta):=by
 intro ad s Z H R I h;refine Call_ (wA I hg hm boot_range (QT (bo (ha pos ad s Z H _ I h) λus s1 ⟨vs,H1,I1,r1,q1⟩=>?_) hs rfl))
 obtain⟨j,e,q1,q2,q⟩:=q1;subst e;cases r1 with
 |cons r rr=>
  cases rr;obtain⟨t,rfl⟩:=r;exact call_range_1 (Vm I1 (by omega) (by omega) q1 q2 (by simpa using q))
def Kh (wi:TI)(g:TG)(tb:TS):TS:=λD Z H=>wi Z H λJ H1=>∃ W:Nat->Nat->St->Hp->Prop,(∃ m,W 0 m Z H1)/\∀ i m Z H,W i m Z H ->
 (J.stop i H/\D.nx Z H)\/(J.go i H/\∃ N:St->Hp->Prop,(∀ σ' H',N σ' H'->∃ m',m'<m/\W (i+1) m' σ' H')/\∀ x H',J.yld i H x H'->g x Z H' λσ2 H2=>tb { D with nx:=N,ct:=N,bk:=D.nx } σ2 H2)
def zV (fp:List aD)(h:aQ):List (aD×aZ):=fp.filterMap λb=>(h.get? b).map λo=>(b,o)
theorem GL(hb:b∈fp)(e:h.get? b=aa o):(b,o)∈zV fp h:=sX.2 ⟨b,hb,by rw[e];rfl⟩
theorem r9{p:aD×aZ}(hp:p∈zV fp h):p.1∈fp/\h.get? p.1=aa p.2:=by
 obtain⟨b,hb,e⟩:=sX.1 hp;cases q:h.get? b with
 |none=>rw[q] at e;cases e
 |some o=>
  rw[q] at e;have e':=fF e;subst e';exact⟨hb,q⟩
theorem Inv.pinned{Z:St}{H:Hp}(I:Inv X ad Z H s)(hf:∀ b∈fp,jW X ad H b)(ho:∀ b∈fp,∃ o,s.heap.get? b=aa o/\∀ v,o.data ≠ .cell v):Inv X (ad++zV fp s.heap) Z H s:=
 I.pins_of λp hp=>(gP.1 hp).elim (λz=>I.pin p (pZ _ z)) λz=>by
  obtain⟨hb,e⟩:=r9 z;obtain⟨f0,f1,f2,_⟩:=hf p.1 hb;obtain⟨o,e',d⟩:=ho p.1 hb;rw[e] at e';cases e';exact⟨e,f0,f1,f2,d⟩
theorem Inv.unpinned {pl:List (aD×aZ)}{Z:St}{H:Hp}(I:Inv X (ad++pl) Z H s):Inv X ad Z H s:=I.pins_of λp hp=>I.pin p (pZ _ (List.mem_append_left _ hp))
theorem Om {bu:aR}{wi:TI}{g:TG}{tb:TS}(hp:CS (aO X.prog X.w) X.A X.env X.xe)(hc:X.calm=af)(hi:PI X tg bu wi)(hg:PG X tg g)(hb:PSs X body tb)
  (hs:∀ x,uW bu X.env x=pure x:=by intro _;rfl):PS X (.For tg bu body [] pos) (Kh wi g tb):=by
 rw[22];refine wpAny_For (bo (hi ad s Z H _ I h) λv s1 h1=>bo h1 λWP s2 h2=>?_) hs
 obtain⟨it,fp,tn,J,H2,e,I2,T,vh,f2,W,⟨m0,w0⟩,qw⟩:=h2;subst e;have qy:∀ {H':Hp},(∀ b∈fp,H' b=ae)->∀ b∈fp,jW X ad H' b:=λhn b hb=>⟨hn b hb,(f2 b hb).2⟩
 refine codeAny_forLoop_any (λn s'=>∃ i σ' H',Inv X ad σ' H' s'/\tn i s'.heap/\(∀ b∈fp,H' b=ae)/\W i n σ' H') ?_ m0 ⟨0,Z,H2,I2,vh,λb hb=>(f2 b hb).1,w0⟩
 rintro n s3 ⟨i,σ3,H3,I3,O9,Ps,w3⟩;rcases qw i n σ3 H3 w3 with⟨stop,qn⟩|⟨go,N,hN,step⟩
 .refine yA hp (bo (T.done X rfl rfl rfl hc i ad s3 σ3 H3 X.xe I3 (qy Ps) O9 stop) λr s4 gh=>?_)
  obtain⟨hr,I4⟩:=gh;subst hr;exact QE ⟨σ3,H3,I4,qn⟩
 .refine yA hp (bo (T.item X rfl rfl rfl hc i ad s3 σ3 H3 X.xe I3 (qy Ps) O9 go) λr s4 gh=>?_)
  obtain⟨u,hr,h4⟩:=gh;subst hr;refine yA hp (bo h4 λ_ s5 gh=>?_)
  obtain⟨x,H5,I5,r5,y5,zn,Y'⟩:=gh;have ZB:=I5.pinned (qy Y') (T.obj _ _ zn);refine yA hp (bo (hg _ s5 σ3 H5 x u _ ZB r5 (step x H5 y5)) λ_ s6 gh=>?_)
  obtain⟨σ6,H6,I6,q6⟩:=gh;refine yA hp (bo (hb _ s6 σ6 H6 _ I6 q6) λf s7 q7=>?_)
  have again:∀ {σ7:St} {H7:Hp},Inv X (ad++zV fp s5.heap) σ7 H7 s7->N σ7 H7->∃ m,m<n/\∃ i σ' H',Inv X ad σ' H' s7/\tn i s7.heap/\(∀ b∈fp,H' b=ae)/\W i m σ' H':=λ{σ7 H7} I7 n7=>by
   obtain⟨m',hm,w7⟩:=hN σ7 H7 n7;refine⟨m',hm,i+1,σ7,H7,I7.unpinned,T.keep _ _ _ zn λb hb o e=>(I7.pin (b,o) (pZ _ (pZ _ (GL hb e)))).1,λb hb=>?_,w7⟩
   obtain⟨o,e,d⟩:=T.obj _ _ zn b hb;exact(I7.pin (b,o) (pZ _ (pZ _ (GL hb e)))).2.1
  cases f with
  |next=>obtain⟨σ7,H7,I7,n7⟩:=q7;exact again I7 n7
  |cont=>obtain⟨σ7,H7,I7,n7⟩:=q7;exact again I7 n7
  |brk=>obtain⟨σ7,H7,I7,q7⟩:=q7;exact⟨σ7,H7,I7.unpinned,q7⟩
  |ret v=>obtain⟨x7,σ7,H7,I7,r7,q7⟩:=q7;exact⟨x7,σ7,H7,I7.unpinned,r7,q7⟩
end
abbrev R2:=V->V->Hp->VK->Prop
def OpR (X:Cx)(f:aE->aE->Sem aE)(r:R2):Prop:=
 ∀ (ad:List (aD×aZ)) (s:aH) (Z:St) (H:Hp) (x y:V) (v u:aE) (Q:VK),Inv X ad Z H s->RelV x v->RelV y u->r x y H Q ->
  aM (aO X.prog X.w) X.A (f v u) (EP X ad Z Q) X.xe s
def X' (X:Cx)(f:aE->Sem aE)(r:V->Hp->VK->Prop):Prop:=
 ∀ (ad:List (aD×aZ)) (s:aH) (Z:St) (H:Hp) (x:V) (v:aE) (Q:VK),Inv X ad Z H s->RelV x v->r x H Q ->
  aM (aO X.prog X.w) X.A (f v) (EP X ad Z Q) X.xe s
def Adw (X:Cx)(f:aE)(r:List V->Hp->VK->Prop):Prop:=
 ∀ (ad:List (aD×aZ)) (s:aH) (Z:St) (H:Hp) (xs:List V) (us:List aE) (Q:VK),Inv X ad Z H s->Vals xs us->r xs H Q ->
  aM (aO X.prog X.w) X.A (call f us) (EP X ad Z Q) X.xe s
def O4 (r:R2)(ta tb:TE):TE:=λZ H Q=>ta Z H λx H1=>tb Z H1 λy H2=>r x y H2 Q
def tUn (r:V->Hp->VK->Prop)(ta:TE):TE:=λZ H Q=>ta Z H λx H1=>r x H1 Q
def rI (C:Int->Int->Prop)(g:Int->Int->V):R2:=λx y H Q=>∃ i j,x=.int i/\y=.int j/\C i j/\Q (g i j) H
def xq (g:Int->Int->V):R2:=λx y H Q=>∃ i j,x=.int i/\y=.int j/\Q (g i j) H
def rU (g:Int->V):V->Hp->VK->Prop:=λx H Q=>∃ i,x=.int i/\Q (g i) H
section
variable {X:Cx}{a b:aR}{ta tb tc:TE}
theorem JF (ha:PE X a ta)(hb:PE X b tb){Z:St}{H:Hp}{R:V->V->Hp->Prop}(I:Inv X ad Z H s)
  (h:ta Z H λx H1=>tb Z H1 λy H2=>R x y H2) {Q:aE->aH->Prop} {f:aE->aE->Sem aE}
  (hf:∀ v u s2 x y H2,Inv X ad Z H2 s2->RelV x v->RelV y u->R x y H2->aM (aO X.prog X.w) X.A (f v u) Q X.xe s2) :
  aM (aO X.prog X.w) X.A (bM a X.env) (λv s₁=>aM (aO X.prog X.w) X.A (bM b X.env) (λu s₂=>aM (aO X.prog X.w) X.A (f v u) Q X.xe s₂) X.xe s₁) X.xe s:=by
 refine bo (ha ad s Z H _ I h) λv s1 gh=>?_
 obtain⟨x,H1,I1,r1,q1⟩:=gh;refine bo (hb ad s1 Z H1 _ I1 q1) λu s2 gh=>?_
 obtain⟨y,H2,I2,r2,q2⟩:=gh;exact hf v u s2 x y H2 I2 r1 r2 q2
theorem Ky {op:Operator}{r:R2}(ho:OpR X (kC op) r)(ha:PE X a ta)(hb:PE X b tb):PE X (.BinOp a op b pos) (O4 r ta tb):=by
 rw[13];exact wpAny_BinOp (JF ha hb I h λv u s2 x y H2 I2 rx ry q=>ho ad s2 Z H2 x y v u Q I2 rx ry q)
theorem Ku {op:UnaryOp}{r:V->Hp->VK->Prop}(ho:X' X (unaryOp op) r)(ha:PE X a ta):PE X (.UnaryOp op a pos) (tUn r ta):=by
 rw[13];exact UnaryOp_ (bo (ha ad s Z H _ I h) λv s1 ⟨x,H1,I1,r1,q1⟩=>ho ad s1 Z H1 x v Q I1 r1 q1)
theorem O3{C:Int->Int->Prop}{g:Int->Int->Int}
  (rule:∀ (i j:Int) (t u:Tok) (s:aH) (Q:aE->aH->Prop) (E:aE->aH->Prop),C i j->Q (.int (g i j) s.toks) { s with toks:=s.toks+1 }->aM (aO X.prog X.w) X.A (f (.int i t) (.int j u)) Q E s) :
  OpR X f (rI C λi j=>.int (g i j)):=by
 rw[4];obtain⟨i,j,rfl,rfl,hc,q⟩:=h;rw[11];exact rule i j t t' s _ _ hc ⟨.int (g i j),H,I.tok _,⟨_,rfl⟩,q⟩
theorem TB{g:Int->Int->Int}
  (rule:∀ (i j:Int) (t u:Tok) (s:aH) (Q:aE->aH->Prop) (E:aE->aH->Prop),Q (.int (g i j) s.toks) { s with toks:=s.toks+1 }->aM (aO X.prog X.w) X.A (f (.int i t) (.int j u)) Q E s) :
  OpR X f (xq λi j=>.int (g i j)):=by
 rw[4];obtain⟨i,j,rfl,rfl,q⟩:=h;rw[11];exact rule i j t t' s _ _ ⟨.int (g i j),H,I.tok _,⟨_,rfl⟩,q⟩
theorem SJ{g:Int->Int->Bool}
  (rule:∀ (i j:Int) (t u:Tok) (s:aH) (Q:aE->aH->Prop) (E:aE->aH->Prop),Q (.bool (g i j)) s->aM (aO X.prog X.w) X.A (f (.int i t) (.int j u)) Q E s) :
  OpR X f (xq λi j=>.bl (g i j)):=by
 rw[4];obtain⟨i,j,rfl,rfl,q⟩:=h;rw[11];exact rule i j t t' s _ _ ⟨.bl (g i j),H,I,rfl,q⟩
def Jw (i j:Int):Prop:=0<j/\j<1073741824
def Jg (i j:Int):Prop:=0<=j/\j<=1000000/\i.natAbs<2^64
def Bmw (i j:Int):Prop:=(-(2^64)<i/\i<2^64)\/(-(2^64)<j/\j<2^64)
theorem Bmw.ok {i j:Int}(h:Bmw i j):IntMulOk i j:=by
 rcases h with⟨h1,h2⟩|⟨h1,h2⟩
 .exact .of_left (intBits_le_64 h1 h2)
 .exact .of_right (intBits_le_64 h1 h2)
theorem Bjj:OpR X (kC .Add) (xq λi j=>.int (i+j)):=TB λ_ _ _ _ _ _ _ q=>add_int q
theorem Oo:OpR X (kC .Sub) (xq λi j=>.int (i-j)):=TB λ_ _ _ _ _ _ _ q=>sub_int q
theorem Pg:OpR X (kC .Mult) (rI Bmw λi j=>.int (i*j)):=O3 λ_ _ _ _ _ _ _ hc q=>mul_int q hc.ok
theorem Qz:OpR X (kC .FloorDiv) (rI Jw λi j=>.int (i/j)):=O3 λi j _ _ _ _ _ hc q=>by
 have h1:=hc.1;have h2:=hc.2;exact floordiv_int (by omega) (by rw[Int.fdiv_eq_ediv_of_nonneg i (by omega)];exact q) (.inl (PyProof.noPylong_small (by omega)))
theorem Pj:OpR X (kC .Mod) (rI (λ_ j=>0<j) λi j=>.int (i%j)):=O3 λi j _ _ _ _ _ hc q=>by
 have h1:=hc;exact mod_int' (by omega) (by rw[Int.fmod_eq_emod_of_nonneg i (by omega)];exact q)
theorem Pl:OpR X (kC .Pow) (rI Jg λi j=>.int (i^j.toNat)):=O3 λ_ _ _ _ _ _ _ hc q=>pow_int_small hc.1 hc.2.1 hc.2.2 q
theorem unI {f:aE->Sem aE}{g:Int->Int}
  (rule:∀ (i:Int) (t:Tok) (s:aH) (Q:aE->aH->Prop) (E:aE->aH->Prop),Q (.int (g i) s.toks) { s with toks:=s.toks+1 }->aM (aO X.prog X.w) X.A (f (.int i t)) Q E s) :
  X' X f (rU λi=>.int (g i)):=by
 intro ad s Z H x v Q I rx h;obtain⟨i,rfl,q⟩:=h;obtain⟨t,rfl⟩:=rx;exact rule i t s _ _ ⟨.int (g i),H,I.tok _,⟨_,rfl⟩,q⟩
theorem Oj:X' X (unaryOp .USub) (rU λi=>.int (-i)):=unI λ_ _ _ _ _ q=>neg_int q
end
section
variable {X:Cx}{a b:aR}{ta tb tc:TE}
theorem PB{Z:St}{H:Hp}{Q:VK}{k k':Bool}(I:Inv X ad Z H s)(q:Q (.bl k) H)(e:k=k'):EP X ad Z Q (.bool k') s:=by
 subst e;exact⟨.bl k,H,I,rfl,q⟩
theorem Bl7:OpR X (jG .Lt) (xq λi j=>.bl (decide (i<j))):=SJ λ_ _ _ _ _ _ _ q=>lt_int q
theorem UE:OpR X (jG .Gt) (xq λi j=>.bl (decide (j<i))):=SJ λ_ _ _ _ _ _ _ q=>gt_int q
theorem A8:OpR X (jG .Lt) (λx y H Q=>∃ i j,x=.str i/\y=.str j/\Q (.bl (decide (i.cps.toList<j.cps.toList))) H):=by
 rw[4];obtain⟨i,j,rfl,rfl,q⟩:=h;rw[11];exact lt_str (PB I q rfl)
theorem v5:OpR X (jG .In) (λx y H Q=>∃ i j,x=.str i/\y=.str j/\Q (.bl (!(RY j i 0 j.length 1).isEmpty)) H):=by
 rw[4];obtain⟨i,j,rfl,rfl,q⟩:=h;rw[11];exact in_str (PB I q rfl)
theorem Ql:OpR X (jG .IsNot) (λx y H Q=>y=.non/\Q (.bl (!decide (x=.non))) H):=by
 rw[4];obtain⟨rfl,q⟩:=h;cases ry;refine isnot_none_gen (PB I q ?_);cases x<;>first
  |(cases rx;rfl)
  |(obtain⟨t,rfl⟩:=rx;rfl)
theorem OpR.or{r r':R2}(h:OpR X f r)(h':OpR X f r'):OpR X f (λx y H Q=>r x y H Q\/r' x y H Q):=by
 intro ad s Z H x y v u Q I rx ry q;rcases q with q|q
 .exact h ad s Z H x y v u Q I rx ry q
 .exact h' ad s Z H x y v u Q I rx ry q
theorem nA (b:aR)(h:op ≠ .In:=by decide)(h2:op ≠ .NotIn:=by decide):uY op b=ag:=by
 have e1:(op==CmpOp.In)=ag:=by cases op<;>first|rfl|exact absurd rfl h
 have e2:(op==CmpOp.NotIn)=ag:=by cases op<;>first|rfl|exact absurd rfl h2
 cases b<;>simp[uY,e1,e2]
theorem Fv{r:R2}(ho:OpR X (jG op) r)(ha:PE X a ta)(hb:PE X b tb)(hm:uY op b=ag):PE X (.Compare a [op] [b] pos) (O4 r ta tb):=by
 rw[13];exact wpAny_Compare1 (JF ha hb I h λv u s2 x y H2 I2 rx ry q=>ho ad s2 Z H2 x y v u Q I2 rx ry q) hm
def Ks (t:TE):TT:=λZ H Q=>t Z H λx H'=>∃ k,x=.bl k/\Q k H'
theorem Fb{r:R2}(ho:OpR X (jG op) r)(ha:PE X a ta)(hb:PE X b tb)(hm:uY op b=ag):PT X (.Compare a [op] [b] pos) (Ks (O4 r ta tb)):=by
 rw[13];refine wpAny_isTrue_Compare1 (bo (ha ad s Z H _ I h) λv s1 ⟨x,H1,I1,r1,q1⟩=>bo (hb ad s1 Z H1 _ I1 q1) λu s2 ⟨y,H2,I2,r2,q2⟩=>
  bo (ho ad s2 Z H2 x y v u _ I2 r1 r2 q2) λc s3 ⟨z,H3,I3,r3,k,e,q3⟩=>?_) hm
 subst e;cases r3;exact QA ⟨H3,I3,q3⟩
theorem uD:(sizeLine:Nat)<2^63:=by rw[lJ];decide
theorem Azg:OpR X (kC .Add) (λx y H Q=>∃ i j,x=.str i/\y=.str j/\i.length+j.length<=sizeLine/\Q (.str (i++j)) H):=by
 rw[4];obtain⟨i,j,rfl,rfl,hz,q⟩:=h;rw[11];exact add_str (λt' tk=>⟨.str (i++j),H,I.tok _,⟨_,rfl⟩,q⟩) hz
theorem vals1 {x:V}(r:Vals [x] us):∃ u,us=[u]/\RelV x u:=by
 cases r with
 |cons r1 r2=>cases r2;exact⟨_,rfl,r1⟩
theorem vals2 {x y:V}(r:Vals [x,y] us):∃ u w',us=[u,w']/\RelV x u/\RelV y w':=by
 cases r with
 |cons r1 r2=>
  cases r2 with
  |cons r3 r4=>cases r4;exact⟨_,_,rfl,r1,r3⟩
theorem ZP (hc:X.calm=af):Adw X (.builtin "max") (λxs H Q=>∃ i j,xs=[.int i,.int j]/\Q (.int (if j > i then j else i)) H):=by
 rw[6];obtain⟨i,j,rfl,q⟩:=h;obtain⟨u,w',rfl,⟨t,rfl⟩,⟨t',rfl⟩⟩:=vals2 r;refine max_two_ints (I.ok.hd hc) λh' tk k=>⟨_,H,I.kept k,?_,q⟩
 by_cases hj:j > i
 .rw[if_pos hj,if_pos hj];exact⟨_,rfl⟩
 .rw[if_neg hj,if_neg hj];exact⟨_,rfl⟩
theorem Zv:Adw X (.type "str") (λxs H Q=>∃ i,xs=[.int i]/\i.natAbs.log2<1920/\Q (.str (toString i)) H):=by
 rw[6];obtain⟨i,rfl,hz,q⟩:=h;obtain⟨u,rfl,t,rfl⟩:=vals1 r;exact PySem.P.str_of_int hz ⟨.str _,H,I.tok _,⟨_,rfl⟩,q⟩
end
structure ObjM (h:aQ)(x dx C:aD)(mA:aC->Option aE):Prop where
 obj:h.get? x=aa (Gv C dx)
 ns:h.Ns1 dx mA
 ne:dx≠x
theorem E6{mA:aC->Option aE}(n:h.Ns1 dx mA):∃ od,h.get? dx=aa od/\∀ name,Gp name od=aa (mA name):=by
 obtain⟨o,es,ep,ho,hd,hk,_,hm⟩:=n;refine⟨o,ho,λname=>?_⟩
 have e:=hm name;unfold nsFind findBy at e;rw[<-Array.find?_toList] at e;unfold Gp;rw[hd];rw[24];split
 .rename_i y q;rw[q] at e;exact congrArg aa e
 .rename_i q;rw[q] at e;have a:es.toList.any (·.refKey)=ag:=by
   rw[Ij];intro y hy;obtain⟨z,t,wc⟩:=hk y (Array.mem_toList_iff.1 hy);simp[DictEntry.refKey,wc]
  have a':¬ es.toList.any (·.refKey)=af:=by rw[a];exact lX
  rw[if_neg a'];exact congrArg aa e
theorem ObjM.look{x:aD}{mA:aC->Option aE}(I:ObjM h x dx C mA):∃ od,PySem.W.InstAt h x (Gv C dx) C (aa od)/\∀ name,Gp name od=aa (mA name):=
 let ⟨od,ho,hl⟩:=E6 I.ns
 ⟨od,⟨I.obj,rfl,rfl,ho⟩,hl⟩
theorem Awg.some_of {v:V}{o:Option aE}(r:Awg (aa v) o):∃ u,o=aa u/\RelV v u:=by
 cases o with
 |none=>exact(show False from r).elim
 |some u=>exact⟨u,rfl,r⟩
theorem Awg.none_of {o:Option aE}(r:Awg ae o):o=ae:=by
 cases o with
 |none=>rfl
 |some u=>exact(show False from r).elim
section
variable {P:bT}{w:bB}{H H':Hp}{fs fs':List (aC×V)}
theorem Ua (hok:HOk P w H h)(e:H a=aa (.ins C dx fs)):∃ mA,ObjM h a dx C mA/\(∀ f,Awg (fs.lookup f) (mA f))/\PySem.Within mA (fs.map (·.1))/\fs.length<=1000/\H dx=aa (.own a):=by
 obtain⟨d,z,ne,ob,mA,n,r,q⟩:=(show Adc P w H h a (.ins C dx fs) from hok a _ e)
 exact⟨mA,⟨ob,n,ne⟩,r,q,z,d⟩
end
structure Cls (K:aK)(C:aD):Prop where
 pg:PySem.W.plainGet K C Str.empty=af
 hd:PySem.W.hasDictIn K C=af
 po:PySem.W.plainOver K C=af
 sa:PySem.W.findIn K (.ref C) "__setattr__" = aa (aa (.builtin "object.__setattr__"))
theorem Cls.get(c:Cls K C)(f:aC):PySem.W.plainGet K C f=af:=c.pg
section
variable {X:Cx}{Z:St}{H:Hp}{c:aE}{b:Bool}
inductive TyOf (K:aK)(H:Hp):V->aE->Prop where
 |non:TyOf K H .non (.type "NoneType")
 |bl (x:Bool):TyOf K H (.bl x) (.type "bool")
 |int (i:Int):TyOf K H (.int i) (.type "int")
 |str (x:aC):TyOf K H (.str x) (.type "str")
 |flt (x:UInt64):TyOf K H (.flt x) (.type "float")
 |lst {a:aD} {xs:List V} (e:H a=aa (.lst xs)):TyOf K H (.ref a) (.type "list")
 |frz {a:aD} {o:aZ} {xs:List V} (e:H a=aa (.frz o (.lst xs))):TyOf K H (.ref a) (.type "list")
 |tup {a:aD} {xs:List V} (e:H a=aa (.tup xs)):TyOf K H (.ref a) (.type "tuple")
 |dK {a:aD} {ep:Nat} {kvs:List (aI×V)} (e:H a=aa (.dK ep kvs)):TyOf K H (.ref a) (.type "dict")
 |dT {a:aD} {kvs:List (List aA×V)} (e:H a=aa (.dT kvs)):TyOf K H (.ref a) (.type "dict")
 |ins {a C dx:aD} {fs:List (aC×V)} (e:H a=aa (.ins C dx fs)) (cl:Cls K C) (ha:PySem.W.findIn K (.ref C) "__class__" = aa (aa (.builtin "object.__class__")))
   (hn:PySem.W.specialIn K (.builtin "object.__class__") "__get__" = aa (aa (.builtin "getset_descriptor.__get__"))) (P1:PySem.W.takesIn K (.builtin "object.__class__")=aa af)
   (hm:PySem.W.mroIn K C (.type "object")=aa af):TyOf K H (.ref a) (.ref C)
theorem C3 {x:V}{t:aE}(I:Inv X ad Z H s)(rx:RelV x u)(ty:TyOf X.K H x t)(e:Gu X.K t c=aa b)(h:∀ tk,Q (.bool b) { s with toks:=tk }) :
  aM (aO X.prog X.w) A (call (.builtin "isinstance") [u,c]) Q E s:=by
 cases ty with
 |non=>cases(show u=eF from rx);exact nU PySem.W.kitx_none I.kIn pV e (λz=>nomatch z) h
 |bl y=>cases(show u=Value.bool y from rx);exact nU PySem.W.kitx_bool I.kIn pV e (λz=>nomatch z) h
 |int i=>obtain⟨t,q⟩:=(show ∃ t,u=vC i t from rx);cases q;exact nU PySem.W.kitx_int I.kIn pV e (λz=>nomatch z) h
 |str y=>obtain⟨t,q⟩:=(show ∃ t,u=vB y t from rx);cases q;exact nU PySem.W.kitx_str I.kIn pV e (λz=>nomatch z) h
 |flt y=>obtain⟨t,q⟩:=(show ∃ t,u=Value.float y t from rx);cases q;exact nU PySem.W.kitx_float I.kIn pV e (λz=>nomatch z) h
 |@lst a xs ea=>
  cases(show u=eK a from rx)
  obtain⟨_,_,n,_,h1⟩:=(show Adc X.prog X.w H s.heap a (.lst xs) from I.hok a _ ea)
  exact nU Gq I.kIn ⟨_,h1,rfl⟩ e (λz=>nomatch z) h
 |@frz a ob xs ea=>
  cases(show u=eK a from rx)
  obtain⟨_,_,_,n,_,h1⟩:=(show Adc X.prog X.w H s.heap a (.frz ob (.lst xs)) from I.hok a _ ea)
  exact nU Gq I.kIn ⟨_,h1,rfl⟩ e (λz=>nomatch z) h
 |@tup a xs ea=>
  cases(show u=eK a from rx)
  obtain⟨_,_,_,p⟩:=(show Adc X.prog X.w H s.heap a (.tup xs) from I.hok a _ ea)
  obtain⟨o,h1,h2,_⟩:=p.1;exact nU PySem.W.kitx_tuple I.kIn ⟨o,h1,h2⟩ e (λz=>nomatch z) h
 |@dK a ep kvs ea=>
  cases(show u=eK a from rx)
  obtain⟨_,_,vs,_,p⟩:=(show Adc X.prog X.w H s.heap a (.dK ep kvs) from I.hok a _ ea)
  obtain⟨o,es,h1,h2,_⟩:=p;exact nU Gr I.kIn ⟨o,h1,h2.1⟩ e (λz=>nomatch z) h
 |@dT a kvs ea=>
  cases(show u=eK a from rx)
  obtain⟨_,_,xs,_,o,es,ep,h1,h2,_⟩:=(show Adc X.prog X.w H s.heap a (.dT kvs) from I.hok a _ ea)
  exact nU Gr I.kIn ⟨o,h1,h2.1⟩ e (λz=>nomatch z) h
 |@ins a C dx fs ea cl ha hn P1 hm=>
  cases(show u=eK a from rx)
  obtain⟨mA,O,_⟩:=Ua I.hok ea;obtain⟨od,J,_⟩:=O.look;exact nU (PySem.W.kitx_own (cl.get _) cl.hd ha hn P1 hm) I.kIn J e (λz=>nomatch z) h
end
structure Room (k:Nat)(A:cB):Prop where
 hd:A.handled=ae
 dp:A.depth+3*k+5<recursionLimit
 un:A.units+16*k+200<cLine
theorem Room.mono {j:Nat}(r:Room k A)(h:j<=k):Room j A:=⟨r.hd,by have:=r.dp;omega,by have:=r.un;omega⟩
theorem Room.deeper(r:Room (k+1) A)(env:Env):Room k (A.deeper env):=
 ⟨r.hd,by have:=r.dp;show A.depth+1+3*k+5<_;omega,by have:=r.un;show A.units+3+16*k+200<_;omega⟩
theorem Room.depth(r:Room k A):A.depth<recursionLimit:=by have:=r.dp;omega
theorem Room.units(r:Room k A):A.units+64<cLine:=by have:=r.un;omega
abbrev SL:TA:=λ_ H Q=>Q [] H
abbrev JS (ta:TE)(tr:TA):TA:=λZ H Q=>ta Z H λx H1=>tr Z H1 λxs H2=>Q (x::xs) H2
section
variable {X:Cx}{te:TE}{t:TA}
theorem kQ:PA X [] SL:=λ_ _ _ _ H Q I h=>Calls.spliced_nil ⟨[],H,I,.nil,h⟩
theorem iF (ha:PE X e te)(hr:PA X es t)(hs:bH (e::es) X.env=(ag,bM e X.env)::bH es X.env:=by rfl):PA X (e::es) (JS te t):=by
 intro pos ad s Z H Q I h;rw[hs];refine Iv (bo (ha ad s Z H _ I h) λu s1 gh=>?_)
 obtain⟨x,H1,I1,r1,q1⟩:=gh;exact bo (hr pos ad s1 Z H1 _ I1 q1) λus s2 ⟨xs,H2,I2,r2,q2⟩=>⟨x::xs,H2,I2,.cons r1 r2,q2⟩
def Jy (t:TA):TE:=λZ H Q=>t Z H λxs H1=>xs.length<=sizeLine/\∀ p,H1 p=ae->Q (.ref p) (upd H1 p (.tup xs))
def Jv (t:TA):TE:=λZ H Q=>t Z H λxs H1=>xs.length<=sizeLine/\∀ p,H1 p=ae->Q (.ref p) (upd H1 p (.lst xs))
theorem VA {x1}(h:PA X es t):PE X (.Tuple es x1 pos) (Jy t):=by
 intro ad s Z H Q I hq;refine wpAny_Tuple_spliced (bo (h pos ad s Z H _ I hq) λus s1 ⟨xs,H1,I1,r,z,q⟩=>⟨by rw[<-r.length];exact z,?_⟩)
 have hf:=I1.hok.fresh (bE _);refine⟨.ref s1.heap.objs.size,upd H1 s1.heap.objs.size (.tup xs),I1.laid (λb u e=>bN _ e) (bE _) ?_,rfl,q _ hf⟩
 exact⟨z,us,r,⟨_,cW _ rfl,rfl,_,rfl⟩,_,cW _ rfl,rfl⟩
theorem Mn (h:PA X es t):PE X (.List es pos) (Jv t):=by
 intro ad s Z H Q I hq;refine wpAny_List_spliced (bo (h pos ad s Z H _ I hq) λus s1 ⟨xs,H1,I1,r,z,q⟩=>⟨by rw[<-r.length];exact z,?_⟩)
 have hf:=I1.hok.fresh (bE _);refine⟨.ref s1.heap.objs.size,upd H1 s1.heap.objs.size (.lst xs),I1.laid (λb u e=>bN _ e) (bE _) ?_,rfl,q _ hf⟩
 exact⟨z,us,0,r,cW _ rfl⟩
end
abbrev Sp:=List V->Hp->VK->XK->Prop
abbrev xc:=List Env->Hp->aH->XK->aE->aH->Prop
structure Env0 (P:bT)(w:bB)(K:aK)(mg:aC->Option aE)(base:aQ)(A:cB)(outer:List Env)(s:aH)(H:Hp):Prop where
 frames:A.frames=aa outer
 mod:Mod K mg base
 bs:∀ b o,base.get? b=aa o->s.heap.get? b=aa o/\H b=ae
 bsz:base.objs.size<=s.heap.objs.size
 funs:s.heap.FunFrames base outer
 frf:∀ b∈vv outer,H b=ae
 hok:HOk P w H s.heap
 bare:sZ s.gens
def CE (outer:List Env)(P:bT)(w:bB)(H:Hp)(s:aH)(Q:VK)(u:aE)(s':aH):Prop:=
 ∃ v H',s'.os=s.os/\sZ s'.gens/\Un (vv outer) [] H H' s.heap s'.heap/\HOk P w H' s'.heap/\RelV v u/\Q v H'
def CR (CX:xc)(outer:List Env)(P:bT)(w:bB)(H:Hp)(s:aH)(Q:VK)(E:XK)(r:Result)(s':aH):Prop:=
 match r with
 |.ok (.ret u)=>CE outer P w H s Q u s'
 |.ok _=>False
 |.error e=>CX outer H s E e s'
structure FnOk (P:bT)(w:bB)(K:aK)(mg:aC->Option aE)(base:aQ)(CX:xc)(k:Nat)(f:aD)(fd:iM)(ps:List aC)(sp:Sp):Prop where
 len:∀ vs H Q E,sp vs H Q E->vs.length=ps.length
 run:∀ (A:cB) (outer:List Env) (s:aH) (H:Hp) (args:Args) (us:List aE) (vs:List V) (Q:VK) (E:XK),Room k A->Env0 P w K mg base A outer s H->BindsTo s fd args (ps.zip us)->Vals vs us->sp vs H Q E ->
  nQ (aO P w) A (.call (.ref f) args) (CR CX outer P w H s Q E) s
theorem FnOk.imp {P:bT}{w:bB}{CX:xc}{f:aD}{fd:iM}{sp sp':Sp}(F:FnOk P w K mg base CX k f fd ps sp)
  (h:∀ vs H Q E,sp' vs H Q E->sp vs H Q E):FnOk P w K mg base CX k f fd ps sp':=
 ⟨λvs H Q E q=>F.len vs H Q E (h _ _ _ _ q),λA outer s H args us vs Q E hr he hb hv hs=>F.run A outer s H args us vs Q E hr he hb hv (h _ _ _ _ hs)⟩
section
variable {X:Cx}{Z:St}{H:Hp}
theorem Inv.env0 (I:Inv X ad Z H s):Env0 X.prog X.w X.K X.mg X.base X.A X.stack s H:=
 ⟨I.ok.frames,I.ok.mod,I.bs,dG I.ok.bsz I.sz,I.stack,I.stkFree,I.hok,I.bare⟩
theorem Inv.after {Q:VK}(I:Inv X ad Z H s)(h:CE X.stack X.prog X.w H s Q u s'):EP X ad Z Q u s':=by
 obtain⟨v,H',os,bare,un,hok,r,q⟩:=h;obtain⟨hh,g,d,t,we⟩:=s';obtain rfl:we=s.os:=os;exact⟨v,H',I.call un hok bare (λb z=>absurd z (by simp)),r,q⟩
end
def TY (sp:Sp)(zo:List V)(E:XK)(t:TA):TE:=λZ H Q=>t Z H λvs H1=>sp (vs++zo) H1 Q E
def Binds (K:aK)(fd:iM)(ps:List aC)(ds:List aE):Prop:=
 ∀ (s:aH) (us:List aE),K.In s.heap->(us++ds).length=ps.length->BindsTo s fd ⟨us,[]⟩ (ps.zip (us++ds))
theorem Binds.all{fd:iM}(h:∀ us:List aE,us.length=ps.length->CN fd ⟨us,[]⟩=pure (ps.zip us)):Binds K fd ps []:=λs us _ hl=>by
 rw[qC] at hl ⊢;exact .of_eq (h us hl)
def Passes (CX:xc)(X:Cx)(E:XK):Prop:=∀ (ad:List (aD×aZ)) (Z:St) (H:Hp) (s:aH) (e:aE) (s':aH),Inv X ad Z H s->CX X.stack H s E e s'->X.xe e s'
section
variable {X:Cx}{CX:xc}{f:aD}{fd:iM}{sp:Sp}{zo:List V}{ds:List aE}{E:XK}{m:aC}{az:bQ}{o:aR}{ta:TE}{t:TA}
theorem Oq{Z:St}{H:Hp}{Q:VK}{vs:List V}(F:FnOk X.prog X.w X.K X.mg X.base CX k f fd ps sp)(hr:Room k X.A)(hb:Binds X.K fd ps ds)(hd:Vals zo ds)(hx:Passes CX X E)
  (I:Inv X ad Z H s) (r:Vals vs us) (h:sp (vs++zo) H Q E):aM (aO X.prog X.w) X.A (call (.ref f) us) (EP X ad Z Q) X.xe s:=by
 have r2:=r.append hd;have hl:(us++ds).length=ps.length:=by rw[<-r2.length];exact F.len _ _ _ _ h
 refine wpAny_call (CM (F.run X.A X.stack s H ⟨us,[]⟩ (us++ds) (vs++zo) Q E hr I.env0 (hb s us I.kIn hl) r2 h) λr s' hq=>?_)
 cases r with
 |error e=>exact hx ad Z H s e s' I hq
 |ok fl=>
  cases fl with
  |ret u=>exact I.after hq
  |next=>exact rP hq
  |brk=>exact rP hq
  |cont=>exact rP hq
theorem Rh (F:FnOk X.prog X.w X.K X.mg X.base CX k f fd ps sp)(hr:Room k X.A)(hg:Gl X x)(hm:X.mg x=aa (.ref f))(hk:vD X.K (.ref f)=af)(hb:Binds X.K fd ps ds)(hd:Vals zo ds)(hx:Passes CX X E)
  (ha:PA X (e::es) t) (uo:(x==("__debug__" : aC))=ag:=by decide) (he:bH (e::es) X.env=(ag,bM e X.env)::bH es X.env:=by rfl) (ix:(eR pos (bH es X.env)).any (·.1)=ag:=by rfl) :
  PE X (.Call (.Name x p) (e::es) [] pos) (TY sp zo E t):=by
 rw[13];refine Gg (Fj I hg hm ?_ uo);refine PySem.W.callWith_K I.ok.mod.kin hk (bo (ha pos ad s Z H _ I h) λus s1 ⟨vs,H1,I1,r,q⟩=>⟨I1.kIn,?_⟩) he ix
 exact Oq F hr hb hd hx I1 r q
end
structure FnScope (N P:List aC)(sc:jH):Prop where
 kind:sc.kind=.function
 co:sc.isCoroutine=ag
 gen:sc.isGenerator=ag
 nd:N.Nodup
 pre:N.take P.length=P
 par:∀ x∈P,sc.names.lookup x=aa .local\/sc.names.lookup x=aa .cell
 nofree:∀ y∈sc.names,y.2 ≠ .free
theorem Am:∀ {binds:List (aC×aE)} {m:aC->Option aE},(∀ v,(x,v)∉binds)->bindL kindOf binds m x=m x
 |[],_,_=>rfl
 |(n,v)::r,m,h=>by
  unfold bindL;rw[Am λw hw=>h w (bL _ hw)]
  split
  .have:x≠n:=by rintro rfl;exact h v bF
   simp[this]
  .rfl
theorem Ag:∀ {binds:List (aC×aE)} {m:aC->Option aE},(∀ v,(x,v)∉binds)->bindC kindOf binds m x=m x
 |[],_,_=>rfl
 |(n,v)::r,m,h=>by
  unfold bindC;rw[Ag λw hw=>h w (bL _ hw)]
  split
  .rfl
  .have:x≠n:=by rintro rfl;exact h v bF
   simp[this]
theorem Af:∀ {P:List aC} {vs:List aE} {i:Nat} {m:aC->Option aE},P.Nodup->P[i]?=aa x->vs[i]?=aa v->kindOf x=aa .local ->
  bindL kindOf (P.zip vs) m x=aa v
 |[],_,_,_,_,h,_,_=>by simp at h
 |_::_,[],_,_,_,_,h,_=>by simp at h
 |p::P,w::vs,0,m,nd,h1,h2,hk=>by
  simp at h1 h2;subst h1;subst h2;show bindL kindOf ((p,w)::P.zip vs) m p=_;unfold bindL;rw[Am λv hv=>(lT.1 nd).1 (Hq hv).1,if_pos hk]
  simp
 |p::P,w::vs,i+1,m,nd,h1,h2,hk=>by
  unfold bindL;exact Af (lT.1 nd).2 (by simpa using h1) (by simpa using h2) hk
theorem ZM:∀ {P:List aC} {vs:List aE} {i:Nat} {m:aC->Option aE},P.Nodup->P[i]?=aa x->vs[i]?=aa v->kindOf x≠aa .local ->
  bindC kindOf (P.zip vs) m x=aa v
 |[],_,_,_,_,h,_,_=>by simp at h
 |_::_,[],_,_,_,_,h,_=>by simp at h
 |p::P,w::vs,0,m,nd,h1,h2,hk=>by
  simp at h1 h2;subst h1;subst h2;show bindC kindOf ((p,w)::P.zip vs) m p=_;unfold bindC;rw[Ag λv hv=>(lT.1 nd).1 (Hq hv).1,if_neg hk]
  simp
 |p::P,w::vs,i+1,m,nd,h1,h2,hk=>by
  unfold bindC;exact ZM (lT.1 nd).2 (by simpa using h1) (by simpa using h2) hk
def start (N:List aC)(vs:List V):St:=vs.map aa++pY (N.length-vs.length) ae
def tP (CX:xc)(P:bT)(w:bB)(K:aK)(mg:aC->Option aE)(base:aQ)(N:List aC)(qual:aC)(scope:jH)(f:aD)(cd:aE)(A:cB)(outer:List Env)(s:aH)(H:Hp)(E:XK):Cx where
 prog:=P
 w:=w
 K:=K
 mg:=mg
 base:=base
 A:=A.deeper (rK qual scope s.heap.objs.size f cd)
 N:=N
 s₀:=s
 H₀:=H
 env:=rK qual scope s.heap.objs.size f cd
 outer:=outer
 stack:=rK qual scope s.heap.objs.size f cd::outer
 ex:=[]
 calm:=af
 fn:=λ_=>af
 pn:=[]
 xe:=λe s'=>aM (aO P w) (A.deeper (rK qual scope s.heap.objs.size f cd)) (leaving (rK qual scope s.heap.objs.size f cd) e) (λ_ xw=>CX outer H s E e xw) (λe' xw=>CX outer H s E e' xw) s'
theorem XY {sc:jH}{n:Nat}(h:sc.names.lookup x=aa .cell):∃ c,(cellsFrom n sc.names []).lookup x=aa c:=by
 have q:=PySem.W.cellsFrom_some sc.names n [] (.inl h);exact yH.1 q
theorem p9 {CX:xc}{P:bT}{w:bB}{N:List aC}{qual:aC}{scope:jH}{f:aD}{cd:aE}{outer:List Env}{s1:aH}{H:Hp}{E:XK}{vs:List V}
  (S:FnScope N ps scope) (hd:A.handled=ae) (e0:Env0 P w K mg base A outer s H) (hl:vs.length=ps.length) (r:Vals vs us)
  (x:InCallC s s.heap.objs.size (bindL (rK qual scope s.heap.objs.size f cd).kindOf (ps.zip us) λ_=>ae) (cellsFrom (s.heap.objs.size+1) scope.names []) (bindC (rK qual scope s.heap.objs.size f cd).kindOf (ps.zip us) λ_=>ae) s1) :
  Inv (tP CX P w K mg base N qual scope f cd A outer s H E) [] (start N vs) H s1:=by
 have ix:ps.length<=N.length:=by have:=congrArg List.length S.pre;rw[rO] at this;omega
 obtain⟨h1,tk,rfl,hk⟩:=x.done;have P3:∀ b:aD,b∉(tP CX P w K mg base N qual scope f cd A outer s H E).ex:=λb z=>absurd (show b∈([]:List aD) from z) (by simp)
 refine⟨⟨e0.mod,S.kind,rfl,rfl,bE _,λy z c h1 h2=>?_,λy hy=>?_,λy c _ h=>?_,λ_=>hd,Around.frames_deeper e0.frames,.inr ⟨rfl,rfl⟩,λb z=>absurd z (P3 b),e0.bs,e0.bsz,λb _ _=>P3 b,λb z=>absurd z (P3 b),e0.funs,e0.frf⟩,
  rfl,e0.bare,Un.kept hk,⟨_,x.toInCall.ns,λi y v h1 h2 h3=>?_⟩,λy c h=>⟨_,x.cell y c h⟩,e0.hok.fresh (bE _),λy c h=>?_,λp hp=>absurd (show p∈([]:List (aD×aZ)) from hp) (by simp),e0.hok.kept hk,?_⟩
 .exact name_of_addr x.apart (HN h1) (HN h2)
 .have hy:=hy;rcases hy with hy|hy
  .exact XY hy
  .exact absurd rfl (S.nofree _ (HN hy))
 .exact pB (x.above y c (HN h))
 .have hi:i<vs.length:=by
   unfold start at h2;by_cases hi:i<vs.length
   .exact hi
   .rw[RJ (by simpa using hi)] at h2
    rw[List.getElem?_replicate] at h2;split at h2<;>cases h2
  have ha:vs[i]?=aa v:=by
   unfold start at h2;rw[IC (by simpa using hi),eW] at h2
   cases e:vs[i]? with
   |none=>rw[e] at h2;cases h2
   |some a=>rw[e] at h2;cases h2;rfl
  obtain⟨u,hu,rv⟩:=r.get ha;have hp:ps[i]?=aa y:=by
   rw[<-S.pre,K6 (by omega)];exact h1
  have ndP:ps.Nodup:=by rw[<-S.pre];exact S.nd.sublist (List.take_sublist _ _)
  refine⟨u,rv,?_⟩;rcases S.par y (fH hp) with k|k
  .exact .inl ⟨k,Af ndP hp hu k⟩
  .obtain⟨c,e⟩:=XY k;refine .inr ⟨.inl k,c,e,?_⟩;have q:=x.cell y c e;rw[ZM ndP hp hu (by show scope.names.lookup y≠_;rw[k];decide)] at q
   exact q
 .exact e0.hok.fresh (pB (x.above y c (HN h)))
 .unfold start;show _=N.length;rw[mU,cJ,List.length_replicate];omega
theorem Lm {CX:xc}{P:bT}{w:bB}{f:aD}{name qual:aC}{params:Arguments}{scope:jH}{dV kV gv pm bh ct oc:aE}{an od:Option aD}
  {yp:Array (Option aE)} {N ps:List aC} {sp:Sp} (lk:K.lookup f=aa ⟨oc,od,.func (mS name qual params body scope dV kV gv pm an bh ct),yp⟩) (ft:CO K bh qual=af) (S:FnScope N ps scope)
  (len:∀ vs H Q E,sp vs H Q E->vs.length=ps.length)
  (wf:∀ (A:cB) (outer:List Env) (s:aH) (H:Hp) (vs:List V) (Q:VK) (E:XK),Room k (A.deeper (rK qual scope s.heap.objs.size f bh))->sp vs H Q E ->
   ∃ t,PSs (tP CX P w K mg base N qual scope f bh A outer s H E) body t/\t { nx:=λ_ H'=>Q .non H',rt:=Q } (start N vs) H) :
  FnOk P w K mg base CX (k+1) f (mS name qual params body scope dV kV gv pm an bh ct) ps sp:=by
 refine⟨len,λA outer s H args us vs Q E hr e0 hb r yq=>?_⟩
 have hl:=len _ _ _ _ yq;have KX:K.In s.heap:=e0.mod.kin.keeps λb o e=>(e0.bs b o e).1
 have lim:s.heap.NoLimit:=e0.mod.nolimit.keeps λb o e=>(e0.bs b o e).1
 have tp:∀ y∈ps.zip us,scope.names.lookup y.1=aa .local\/(scope.names.lookup y.1=aa .cell/\((cellsFrom (s.heap.objs.size+1) scope.names []).lookup y.1).isSome=af):=λ⟨n,v⟩ hy=>by
  rcases S.par n (Hq hy).1 with q|q
  .exact .inl q
  .exact .inr ⟨q,PySem.W.cellsFrom_some _ _ _ (.inl q)⟩
 refine codeAny_call_function hr.depth (KX _ _ lk) rfl S.co S.gen rfl (PySem.W.codeRec_of KX ft) (hb _ _ _ _ ?_);refine wpAny_newFunctionEnv_cells S.kind tp λenv he s1 x=>?_
 subst he;refine⟨lim.keeps x.toInCall.keep,codeAny_func ?_⟩;obtain⟨t,ht,hq⟩:=wf A outer s H vs Q E (hr.deeper _) yq;have I:Inv (tP CX P w K mg base N qual scope f bh A outer s H E) [] (start N vs) H s1:=p9 S hr.hd e0 hl r x;refine mO (ht [] s1 (start N vs) H _ I hq) (λfl s' hs=>?_) λe s' hs=>hs
 have fin:∀ {σ':St} {H':Hp} {v:V} {u:aE},Inv (tP CX P w K mg base N qual scope f bh A outer s H E) [] σ' H' s'->RelV v u->Q v H'->CE outer P w H s Q u s':=
  λ{σ' H' v u} J rv q=>⟨v,H',J.os,J.bare,J.base,J.hok,rv,q⟩
 cases fl with
 |ret u=>
  obtain⟨v,σ',H',J,rv,q⟩:=hs;exact fin J rv q
 |next=>
  obtain⟨σ',H',J,q⟩:=hs;exact fin (v:=V.non) (u:=eF) J rfl q
 |brk=>
  obtain⟨_,_,_,q⟩:=hs;exact rP q
 |cont=>
  obtain⟨_,_,_,q⟩:=hs;exact rP q
section
variable {X:Cx}{t:TA}{id T:String}{r:List V->Hp->VK->Prop}
def tCB (r:List V->Hp->VK->Prop)(t:TA):TE:=λZ H Q=>t Z H λvs H1=>r vs H1 Q
theorem LU (hc:Adw X (.builtin id) r)(hg:Gl X x)(hm:X.mg x=ae)(hv:oY x=aa (.builtin id))(ha:PA X (e::es) t)(hn:x ≠ "__name__":=by decide)(uo:(x==("__debug__" : aC))=ag:=by decide)
  (he:bH (e::es) X.env=(ag,bM e X.env)::bH es X.env:=by rfl) (ix:(eR pos (bH es X.env)).any (·.1)=ag:=by rfl):PE X (.Call (.Name x p) (e::es) [] pos) (tCB r t):=by
 rw[13];refine Gg (wA I hg hm hv ?_ hn uo);exact PyProof.Rows.callWith_builtin1 (bo (ha pos ad s Z H _ I h) λus s1 ⟨vs,H1,I1,r1,q1⟩=>hc ad s1 Z H1 vs us Q I1 r1 q1) he ix
theorem GH (hc:Adw X (.type T) r)(hg:Gl X x)(hm:X.mg x=ae)(hv:oY x=aa (.type T))(ha:PA X (e::es) t)(hn:x ≠ "__name__":=by decide)(uo:(x==("__debug__" : aC))=ag:=by decide)
  (he:bH (e::es) X.env=(ag,bM e X.env)::bH es X.env:=by rfl) (ix:(eR pos (bH es X.env)).any (·.1)=ag:=by rfl):PE X (.Call (.Name x p) (e::es) [] pos) (tCB r t):=by
 rw[13];refine Gg (wA I hg hm hv ?_ hn uo);exact QT (bo (ha pos ad s Z H _ I h) λus s1 ⟨vs,H1,I1,r1,q1⟩=>hc ad s1 Z H1 vs us Q I1 r1 q1) he ix
end
section
variable {κ:Type}[DecidableEq κ]
def dU (kvs:List (κ×V))(k:κ):Option V:=(kvs.find? λkv=>decide (kv.1=k)).map (·.2)
def putK (kvs:List (κ×V))(k:κ)(v:V):List (κ×V):=
 if (kvs.any λkv=>decide (kv.1=k))=af then kvs.map (λkv=>if kv.1=k then(kv.1,v) else kv) else kvs++[(k,v)]
theorem lF {p:κ×V}{r:List (κ×V)}{k:κ}(e:p.1=k):dU (p::r) k=aa p.2:=by simp[dU,fN,e]
theorem kS {p:κ×V}{r:List (κ×V)}{k:κ}(e:¬ p.1=k):dU (p::r) k=dU r k:=by simp[dU,fN,e]
theorem wM (k:κ):∀ kvs:List (κ×V),(kvs.any λkv=>decide (kv.1=k))=(dU kvs k).isSome
 |[]=>rfl
 |p::r=>by
  rw[yS];by_cases e:p.1=k
  .simp only[lF e,decide_eq_true e,Bool.true_or,Option.isSome_some]
  .rw[kS e,decide_eq_false e,Bool.false_or];exact wM k r
theorem XZ (k j:κ)(y:V):∀ kvs:List (κ×V),dU (kvs.map λkv=>if kv.1=k then(kv.1,y) else kv) j=(dU kvs j).map λx=>if j=k then y else x
 |[]=>rfl
 |p::r=>by
  have ih:=XZ k j y r;rw[dI];by_cases h:p.1=k
  .rw[if_pos h];by_cases e:p.1=j
   .rw[lF (p:=(p.1,y)) e,lF e,pW,if_pos (e.symm.trans h)]
   .rw[kS (p:=(p.1,y)) e,kS e,ih]
  .rw[if_neg h];by_cases e:p.1=j
   .rw[lF e,lF e,pW,if_neg (λz=>h (e.trans z))]
   .rw[kS e,kS e,ih]
theorem YY (k j:κ)(y:V):∀ kvs:List (κ×V),dU kvs k=ae->dU (kvs++[(k,y)]) j=if j=k then aa y else dU kvs j
 |[],_=>by
  by_cases e:k=j
  .rw[if_pos e.symm];exact lF e
  .rw[if_neg (λz=>e z.symm)];exact kS e
 |p::r,hn=>by
  rw[DJ];have hk:¬ p.1=k:=λz=>by rw[lF z] at hn;cases hn
  rw[kS hk] at hn;have ih:=YY k j y r hn;by_cases e:p.1=j
  .rw[lF e,lF e,if_neg (λz=>hk (e.trans z))]
  .rw[kS e,kS e,ih]
theorem Wq (kvs:List (κ×V))(k j:κ)(y:V):dU (putK kvs k y) j=if j=k then aa y else dU kvs j:=by
 unfold putK;by_cases a:(kvs.any λkv=>decide (kv.1=k))=af
 .rw[if_pos a,XZ];rw[wM] at a;by_cases e:j=k
  .obtain⟨x,hx⟩:=yH.1 a;rw[if_pos e,e,hx,pW,if_pos rfl]
  .rw[if_neg e];cases dU kvs j with
   |none=>rfl
   |some x=>rw[pW,if_neg e]
 .rw[if_neg a];refine YY k j y kvs ?_;rw[wM] at a;cases q:dU kvs k with
  |none=>rfl
  |some x=>rw[q] at a;exact(a rfl).elim
theorem BB (kvs:List (κ×V))(k:κ)(v:V):(putK kvs k v).length<=kvs.length+1:=by
 unfold putK;split
 .rw[cJ];omega
 .rw[mU,fY,List.length_nil];omega
theorem Awg.isSome_eq {o:Option V}{u:Option aE}(r:Awg o u):o.isSome=u.isSome:=by
 cases o with
 |none=>cases u with
  |none=>rfl
  |some _=>exact(show False from r).elim
 |some _=>cases u with
  |none=>exact(show False from r).elim
  |some _=>rfl
theorem Awg.getD {o:Option V}{u:Option aE}{d:V}{d':aE}(r:Awg o u)(rd:RelV d d'):RelV (o.getD d) (u.getD d'):=by
 cases o with
 |none=>cases u with
  |none=>exact rd
  |some _=>exact(show False from r).elim
 |some _=>cases u with
  |none=>exact(show False from r).elim
  |some _=>exact r
theorem KV.val {kvs:List (κ×V)}{vs:List (κ×aE)}(r:KV kvs vs)(k:κ):Awg (dU kvs k) (valueAt vs k):=by
 unfold KV at r;induction r with
 |nil=>exact pV
 |@cons p q ps qs h t ih=>
  obtain⟨h1,h2⟩:=h;by_cases e:p.1=k
  .have e':=h1.symm.trans e;have b:valueAt (q::qs) k=aa q.2:=by simp[valueAt,fN,e']
   rw[lF e,b];exact h2
  .have e':¬ q.1=k:=λz=>e (h1.trans z)
   have b:valueAt (q::qs) k=valueAt qs k:=by simp[valueAt,fN,e']
   rw[kS e,b];exact ih
theorem KV.any {kvs:List (κ×V)}{vs:List (κ×aE)}(r:KV kvs vs)(k:κ):(kvs.any λkv=>decide (kv.1=k))=vs.any λkv=>decide (kv.1=k):=by
 unfold KV at r;induction r with
 |nil=>rfl
 |cons h t ih=>rw[yS,yS,ih,h.1]
theorem KV.repl {kvs:List (κ×V)}{vs:List (κ×aE)}(r:KV kvs vs)(k:κ){y:V}(ry:RelV y u) :
  KV (kvs.map λkv=>if kv.1=k then(kv.1,y) else kv) (vs.map λkv=>if kv.1=k then(kv.1,u) else kv):=by
 unfold KV at r ⊢;induction r with
 |nil=>exact .nil
 |@cons p q ps qs h t ih=>
  rw[dI,dI];refine .cons ?_ ih;obtain⟨h1,h2⟩:=h;by_cases e:p.1=k
  .rw[if_pos e,if_pos (h1.symm.trans e)];exact⟨h1,ry⟩
  .rw[if_neg e,if_neg (λz=>e (h1.trans z))];exact⟨h1,h2⟩
theorem KV.put {kvs:List (κ×V)}{vs:List (κ×aE)}(r:KV kvs vs)(k:κ){y:V}(ry:RelV y u):KV (putK kvs k y) (uU vs k u):=by
 unfold putK uU;rw[r.any k];by_cases e:(vs.any λkv=>decide (kv.1=k))=af
 .rw[if_pos e,if_pos e];exact r.repl k ry
 .rw[if_neg e,if_neg e];exact Paired.snoc r ⟨rfl,ry⟩
theorem KV.length {kvs:List (κ×V)}{vs:List (κ×aE)}(r:KV kvs vs):kvs.length=vs.length:=nV r
end
theorem qR {P:bT}{w:bB}{k:aI}(r:RelV (kV k) u):(fK P w).is k u=af:=by
 cases k with
 |inl i=>obtain⟨t,e⟩:=(show ∃ t,u=vC i t from r);subst e;exact NM P w i t
 |inr x=>obtain⟨t,e⟩:=(show ∃ t,u=vB x t from r);subst e;exact NW P w x t
abbrev KT (H:Hp):List (List aA×V)->List (List aA×aD×aE)->Prop:=dR λp q=>p.1=q.1/\Arc H p.1 q.2.1/\RelV p.2 q.2.2
theorem KT.val {H:Hp}{kvs:List (List aA×V)}(r:KT H kvs xs)(k:List aA):Awg (dU kvs k) ((rM xs k).map (·.2)):=by
 induction r with
 |nil=>exact pV
 |@cons p q ps qs h t ih=>
  obtain⟨h1,_,h2⟩:=h;by_cases e:p.1=k
  .have e':=h1.symm.trans e;have b:rM (q::qs) k=aa q.2:=by simp[rM,fN,e']
   rw[lF e,b];exact h2
  .have e':¬ q.1=k:=λz=>e (h1.trans z)
   have b:rM (q::qs) k=rM qs k:=by simp[rM,fN,e']
   rw[kS e,b];exact ih
theorem KT.repl {H:Hp}{kvs:List (List aA×V)}(r:KT H kvs xs)(k:List aA){y:V}(ry:RelV y u) :
  KT H (kvs.map λkv=>if kv.1=k then(kv.1,y) else kv) (xs.map (putAt k u)):=by
 induction r with
 |nil=>exact .nil
 |@cons p q ps qs h t ih=>
  rw[dI,dI];refine .cons ?_ ih;obtain⟨h1,h2,h3⟩:=h;unfold putAt;by_cases e:p.1=k
  .rw[if_pos e,if_pos (h1.symm.trans e)];exact⟨h1,h2,ry⟩
  .rw[if_neg e,if_neg (λz=>e (h1.trans z))];exact⟨h1,h2,h3⟩
theorem KT.put {H:Hp}{kvs:List (List aA×V)}(r:KT H kvs xs)(k:List aA){y:V}(hb:Arc H k b)(ry:RelV y u) :
  KT H (putK kvs k y) (rG xs k b u):=by
 have e:(kvs.any λkv=>decide (kv.1=k))=(rM xs k).isSome:=by
  rw[wM,(r.val k).isSome_eq,Hh]
 unfold putK rG;rw[e];by_cases q:(rM xs k).isSome=af
 .rw[if_pos q,if_pos q];exact r.repl k ry
 .rw[if_neg q,if_neg q];exact Paired.snoc r ⟨rfl,hb,ry⟩
theorem KT.keeps {H H':Hp}{kvs:List (List aA×V)}(r:KT H kvs xs)(ht:∀ b ys,H b=aa (.tup ys)->H' b=aa (.tup ys)):KT H' kvs xs:=
 Paired.mapP r λ_ _ z=>⟨z.1,z.2.1.keep ht,z.2.2⟩
section
variable {P:bT}{w:bB}{H:Hp}
theorem TR {u:HO}(ok:HOk P w H h)(e:Rd H a u):Adc P w H h a u:=e.ok ok
theorem EH{kvs:List (aI×V)}(ok:HOk P w H h)(e:Rd H a (.dK ep kvs)):kvs.length<=sizeLine/\(a==kU)=ag/\∃ vs,KV kvs vs/\h.DictAt (fK P w) a vs ep:=
 show Adc P w H h a (.dK ep kvs) from TR ok e
theorem qS{kvs:List (aI×V)}(ok:HOk P w H h)(e:Rd H a (.dK ep kvs)):kvs.length<=sizeLine/\(a==kU)=ag/\∃ vs,KV kvs vs/\h.DictOf (fK P w) a vs:=
 let ⟨z,y,vs,r,d⟩:=EH ok e;⟨z,y,vs,r,d.dictOf⟩
theorem tW{kvs:List (aI×V)}(ok:HOk P w H h)(e:H a=aa (.dK ep kvs)):kvs.length<=sizeLine/\(a==kU)=ag/\∃ vs,KV kvs vs/\h.DictOf (fK P w) a vs:=qS ok (.inl e)
theorem BR {P:bT}{w:bB}(hu:A.units+40<cLine):(jN P w).room A.in1:=by
 show A.in1.units+20<cLine;have:A.in1.units=A.units+1:=rfl;omega
mutual
theorem Ap (ok:HOk P w H h):∀ (d:aA) {v:V} {u:aE},Al1 H d v->RelV v u->∃ as,mR h u d as
 |.int i,v,u,k,r=>by
  have e:v=.int i:=by simpa [Al1] using k
  subst e;obtain⟨t,rfl⟩:=r;exact⟨_,.int i t⟩
 |.str x,v,u,k,r=>by
  have e:v=.str x:=by simpa [Al1] using k
  subst e;obtain⟨t,rfl⟩:=r;exact⟨_,.str x t⟩
 |.tuple ds,v,u,k,r=>by
  simp only[Al1] at k;obtain⟨a,xs,rfl,e,ks⟩:=k;cases r;obtain⟨_,its,rv,⟨o,h1,h2,n,h3⟩,_⟩:=(show Adc P w H h a (.tup xs) from ok a _ e)
  obtain⟨as,ra⟩:=YS ok ds ks rv;exact⟨as,.tuple h1 h2 h3 (by simpa using ra)⟩
 |.none,v,u,k,r=>by simp[Al1] at k
 |.bool _,v,u,k,r=>by simp[Al1] at k
 |.list _,v,u,k,r=>by simp[Al1] at k
 |.dict _,v,u,k,r=>by simp[Al1] at k
theorem YS (ok:HOk P w H h):∀ (ds:List aA) {vs:List V} {us:List aE},Aim H ds vs->Vals vs us->∃ as,pA h us ds as
 |[],vs,us,k,r=>by
  have e:vs=[]:=by simpa [Aim] using k
  subst e;cases r;exact⟨_,.nil⟩
 |d::ds,vs,us,k,r=>by
  simp only[Aim] at k;obtain⟨x,rr,rfl,k1,k2⟩:=k;cases r with
  |cons r1 r2=>
   obtain⟨as,ra⟩:=Ap ok d k1 r1;obtain⟨bs,rb⟩:=YS ok ds k2 r2;exact⟨_,.cons ra rb⟩
end
theorem key_of(ok:HOk P w H h)(e:Arc H ks a):(jN P w).is h ks a:=by
 obtain⟨k1,k2,xs,e,ju⟩:=e;refine⟨k1,k2,?_⟩;exact Ap ok (.tuple ks) (v:=.ref a) (u:=.ref a) (by simp only[Al1];exact⟨a,xs,rfl,e,ju⟩) rfl
theorem tR {kvs:List (List aA×V)}(ok:HOk P w H h)(e:Rd H a (.dT kvs)):kvs.length<=sizeLine/\(a==kU)=ag /\
  ∃ xs,KT H kvs xs/\h.DictOfH (jN P w) a xs:=by
 obtain⟨z,y,xs,r,o,es,ep,h1,h2,h3,h4,h5⟩:=(show Adc P w H h a (.dT kvs) from TR ok e)
 refine⟨z,y,xs,r,o,es,ep,h1,h2,h3,h4,λx hx=>?_,h5⟩
 have all:∀ {l:List (List aA×V)} {m:List (List aA×aD×aE)},KT H l m->∀ x∈m,(jN P w).is h x.1 x.2.1:=by
  intro l m q;induction q with
  |nil=>intro x hx;exact nomatch hx
  |@cons p q ps qs hq t ih=>
   intro x hx;rcases cM.1 hx with e|hx
   .subst e;exact key_of ok (by rw[<-hq.1];exact hq.2.1)
   .exact ih x hx
 exact all r x hx
theorem Kv {kvs:List (List aA×V)}(ok:HOk P w H h)(e:H a=aa (.dT kvs)):kvs.length<=sizeLine/\(a==kU)=ag /\
  ∃ xs,KT H kvs xs/\h.DictOfH (jN P w) a xs:=tR ok (.inl e)
end
def A9d (H:Hp)(a:aD)(y:V)(r:Option V):Prop:=
 (∃ ep kvs k,Rd H a (.dK ep kvs)/\y=kV k/\r=dU kvs k)\/∃ kvs k b,Rd H a (.dT kvs)/\y=.ref b/\Arc H k b/\r=dU kvs k
def Bld (H:Hp)(a:aD)(y v:V)(H':Nat->Hp):Prop:=
 (∃ ep kvs k,H a=aa (.dK ep kvs)/\y=kV k/\kvs.length<sizeLine/\H'=λn=>upd H a (.dK n (putK kvs k v))) \/
 ∃ kvs k b,H a=aa (.dT kvs)/\y=.ref b/\Arc H k b/\kvs.length<sizeLine/\H'=λ_=>upd H a (.dT (putK kvs k v))
theorem A9d.t {H:Hp}{kvs:List (List aA×V)}{k:List aA}(e:H a=aa (.dT kvs))(eb:Arc H k b):A9d H a (.ref b) (dU kvs k):=.inr ⟨kvs,k,b,.inl e,rfl,eb,rfl⟩
theorem Bld.t {H:Hp}{kvs:List (List aA×V)}{k:List aA}{v:V}(e:H a=aa (.dT kvs))(eb:Arc H k b)(hl:kvs.length<sizeLine) :
  Bld H a (.ref b) v (λ_=>upd H a (.dT (putK kvs k v))):=.inr ⟨kvs,k,b,e,rfl,eb,hl,rfl⟩
section
variable {X:Cx}{Z:St}{H:Hp}{y v:V}{r:aE}{o:Option V}
theorem Inv.big (I:Inv X ad Z H s):kU<s.heap.objs.size:=by
 have h:=(I.mod.glob.keeps I.bk).lt;exact yI (by decide) h
theorem w6(hu:A.units+40<cLine)(I:Inv X ad Z H s)(g:A9d H a y (aa v))(ry:RelV y u)(h:∀ w' s',Inv X ad Z H s'->RelV v w'->Q w' s') :
  aM (aO X.prog X.w) A (rJ (.ref a) u) Q E s:=by
 rcases g with⟨ep,kvs,k,e,ey,l⟩|⟨kvs,k,b,e,ey,eb,l⟩
 .subst ey;obtain⟨z,hd,vs,dh,dd⟩:=qS I.hok e;obtain⟨w',hw,on⟩:=Awg.some_of (by rw[l];exact dh.val k)
  exact wpAny_getItem_of (qR ry) dd.mapOf hw (h w' _ (I.tok _) on)
 .subst ey;cases(show u=eK b from ry)
  obtain⟨z,hd,xs,dh,dd⟩:=tR I.hok e;obtain⟨w',hw,on⟩:=Awg.some_of (by rw[l];exact dh.val k)
  obtain⟨p,hp,Z0⟩:=kF.1 hw;refine wpAny_getItem_heap (BR hu) (key_of I.hok eb) dd hp ?_;rw[Z0];exact h w' _ (I.tok _) on
theorem Jo(hu:A.units+40<cLine)(I:Inv X ad Z H s)(g:A9d H a y o)(ry:RelV y u)(h:∀ s',Inv X ad Z H s'->Q (.bool o.isSome) s') :
  aM (aO X.prog X.w) A (jG .In u (.ref a)) Q E s:=by
 rcases g with⟨ep,kvs,k,e,ey,l⟩|⟨kvs,k,b,e,ey,eb,l⟩
 .subst ey;obtain⟨z,hd,vs,dh,dd⟩:=qS I.hok e;refine wpAny_in_of (qR ry) hd dd.mapOf ?_;rw[<-(dh.val k).isSome_eq,<-l];exact h _ (I.tok _)
 .subst ey;cases(show u=eK b from ry)
  obtain⟨z,hd,xs,dh,dd⟩:=tR I.hok e;refine wpAny_in_heap (BR hu) (key_of I.hok eb) hd dd ?_;have q:=(dh.val k).isSome_eq;rw[Hh] at q;rw[<-q,<-l];exact h _ (I.tok _)
theorem Sf(hu:A.units+40<cLine)(I:Inv X ad Z H s)(g:A9d H a y o)(ry:RelV y u)(h:∀ s',Inv X ad Z H s'->Q (.bool (!o.isSome)) s') :
  aM (aO X.prog X.w) A (jG .NotIn u (.ref a)) Q E s:=by
 rcases g with⟨ep,kvs,k,e,ey,l⟩|⟨kvs,k,b,e,ey,eb,l⟩
 .subst ey;obtain⟨z,hd,vs,dh,dd⟩:=qS I.hok e;refine wpAny_notIn_of (qR ry) hd dd.mapOf ?_;rw[<-(dh.val k).isSome_eq,<-l];exact h _ (I.tok _)
 .subst ey;cases(show u=eK b from ry)
  obtain⟨z,hd,xs,dh,dd⟩:=tR I.hok e;refine wpAny_notIn_heap (BR hu) (key_of I.hok eb) hd dd ?_;have q:=(dh.val k).isSome_eq;rw[Hh] at q;rw[<-q,<-l];exact h _ (I.tok _)
theorem EV{ob:HO}(I:Inv X ad Z H s)(mu:yW (H a))(hs:nY a s.heap h')(he:∃ q,h'.get? a=aa q)(new:Adc X.prog X.w (upd H a ob) h' a ob) :
  Inv X ad Z (upd H a ob) { s with heap:=h',toks:=t' }:=
 I.write mu (.inl rfl) (λb q hb z=>(hs.2 b hb).trans z) he new
theorem zU {P:bT}{w:bB}{H':Hp}{kvs:List (aI×V)}{vs:List (aI×aE)}(z:kvs.length<=sizeLine)(hd:(a==kU)=ag)(dh:KV kvs vs)(dd:h'.DictAt (fK P w) a vs ep) :
  Adc P w H' h' a (.dK ep kvs):=⟨z,hd,vs,dh,dd⟩
theorem t9 {H':Nat->Hp}{Q:Unit->aH->Prop}(hu:A.units+40<cLine)(I:Inv X ad Z H s)(g:Bld H a y v H')(ry:RelV y u)(rv:RelV v r)(h:∀ n s',Inv X ad Z (H' n) s'->Q () s') :
  aM (aO X.prog X.w) A (setItem (.ref a) u r) Q E s:=by
 rcases g with⟨ep,kvs,k,e,ey,l,eH⟩|⟨kvs,k,b,e,ey,eb,l,eH⟩
 .subst ey eH;obtain⟨z,hd,vs,dh,dd⟩:=tW I.hok e;have hz:vs.length<=sizeLine:=by rw[<-dh.length];exact z
  have hl:(putK kvs k v).length<=sizeLine:=by have:=BB kvs k v;omega
  refine wpAny_setItem_pairs (qR ry) dd λh' vi hs=>?_
  have he:∃ q,h'.get? a=aa q:=let ⟨q,_,_,hq,_⟩:=vi;⟨q,hq⟩;obtain⟨n,da⟩:=vi.dictAt;exact h n _ (EV I (by rw[e];exact pV) hs he (zU hl hd (dh.put k rv) da))
 .subst ey eH;cases(show u=eK b from ry)
  obtain⟨z,hd,xs,dh,dd⟩:=Kv I.hok e;have hz:xs.length<=sizeLine:=by rw[<-nV dh];exact z
  have hl:(putK kvs k v).length<=sizeLine:=by have:=BB kvs k v;omega
  refine wpAny_setItem_heap (BR hu) (key_of I.hok eb) dd λh' vi hs=>h 0 _ ?_
  obtain⟨q,es,ep,hq,h2,h3,h4,_,h5⟩:=vi;refine EV I (by rw[e];exact pV) hs ⟨q,hq⟩ ⟨hl,hd,_,(dh.put k eb rv).keeps λc ys ec=>?_,q,es,ep,hq,h2,h3,h4,h5⟩
  rw[cY (Lp ec e (λz=>nomatch z))]
  exact ec
end
section
variable {X:Cx}{Z:St}{H:Hp}{kvs:List (aI×V)}{k:aI}
theorem Km(I:Inv X ad Z H s)(e:Rd H a (.dK ep kvs))(h:∀ t s',Inv X ad Z H s'->Q (.int kvs.length t) s'):aM (aO X.prog X.w) A (call (.builtin "len") [.ref a]) Q E s:=by
 obtain⟨z,hd,vs,dh,dd⟩:=qS I.hok e;refine call_len_dict hd dd (by rw[<-dh.length];rw[lJ] at z;omega) ?_
 rw[<-dh.length];exact h _ _ (I.tok _)
end
def JC (i:aR):Prop:=∀ ov iv,QH i ag ov iv=operate [ov,iv] (rJ ov iv)
theorem Sm{w:bB}{env:Env}{value dL:aR}{T id:String}
  (hl:HH (.type T) "__getitem__" = pure (aa (.builtin id))) (hs:JC dL)
  (h:aM (aO prog w) A (bM value env) (λo s₁=>aM (aO prog w) A (bM dL env) (λi s₂=>s₂.TypeIs o T/\aM (aO prog w) A (rJ o i) Q E s₂) E s₁) E s) :
  aM (aO prog w) A (bM (.Subscript value dL pos) env) Q E s:=by
 refine Subscript_ (mO h (λo s₁ h₁=>mO h₁ (λi s₂ h₂=>?_) λ_ _ x=>x) λ_ _ x=>x)
 obtain⟨hT,h₂⟩:=h₂;unfold subscriptTail;rw[19];rw[getitemInPython_of_ne hT.not_modules];refine aG (xY hT hl ?_);have fin:aM (aO prog w) A (QH dL ag o i) (λr s₃=>aM (aO prog w) A (letTemporaryGo value o r>>=λ_=>pure r) Q E s₃) E s₂:=by
  rw[hs o i];exact wpAny_operating (mO h₂ (λr s₃ h₃=>aG (wpAny_letTemporaryGo (aN h₃))) λ_ _ x=>x)
 first
  |exact aN (aG fin)
  |exact aG (aN (aG fin))
  |exact aG fin
theorem Yn {X:Cx}{Z:St}{H:Hp}{y:V}{o:Option V}(I:Inv X ad Z H s)(g:A9d H a y o):s.TypeIs (.ref a) "dict":=by
 rcases g with⟨ep,kvs,k,e,_,_⟩|⟨kvs,k,b,e,_,_,_⟩
 .obtain⟨_,_,vs,_,dd⟩:=qS I.hok e;exact dd.typeIs
 .obtain⟨_,_,xs,_,dd⟩:=tR I.hok e;exact dd.typeIs
def Ko (td ty:TE):TE:=λZ H Q=>td Z H λx H1=>ty Z H1 λy H2=>∃ a v,x=.ref a/\A9d H2 a y (aa v)/\Q v H2
def Ld (td ty tv:TE):TS:=λD Z H=>tv Z H λv H1=>td Z H1 λx H2=>ty Z H2 λy H3=>∃ a H4,x=.ref a/\Bld H3 a y v H4/\∀ n,D.nx Z (H4 n)
section
variable {X:Cx}{o i value:aR}{jz uq:bQ}{td ty tv:TE}
theorem Eg (hu:X.A.units+40<cLine)(ho:PE X o td)(hi:PE X i ty)(hs:JC i):PE X (.Subscript o i pos) (Ko td ty):=by
 rw[13];refine Sm PySem.F.slot_dict_getitem.lookup hs (bo (ho ad s Z H _ I h) λu s1 ⟨x,H1,I1,rx,q1⟩=>bo (hi ad s1 Z H1 _ I1 q1) λiv s2 gh=>?_)
 obtain⟨y,H2,I2,ry,a,v,ex,g,q2⟩:=gh;subst ex;obtain rfl:u=eK a:=rx;exact⟨Yn I2 g,w6 hu I2 g ry λw' s3 I3 on=>⟨v,H2,I3,on,q2⟩⟩
theorem Ud (hu:X.A.units+40<cLine)(ho:PE X o td)(hi:PE X i ty)(hv:PE X value tv)(hs:mQ value (aa (.Subscript o i jz)) pos.line X.env=pure ag) :
  PS X (.Assign [.Subscript o i jz] value pos) (Ld td ty tv):=by
 rw[22];refine wpAny_Assign_Subscript (bo (hv ad s Z H _ I h) λr s1 ⟨v,H1,I1,rv,q1⟩=>bo (ho ad s1 Z H1 _ I1 q1) λu s2 ⟨x,H2,I2,rx,q2⟩=>bo (hi ad s2 Z H2 _ I2 q2) λiv s3 ⟨y,H3,I3,ry,a,H4,ex,g,q3⟩=>?_) hs
 subst ex;obtain rfl:u=eK a:=rx;exact t9 hu I3 g ry rv λn s4 I4=>⟨Z,H4 n,I4,q3 n⟩
end
theorem Vf {P:bT}{w:bB}{H:Hp}(h:aQ)(hb:kU<h.objs.size):Adc P w H (h.push { cls:=.type "dict",data:=.dict #[] }) h.objs.size (.dK 0 []):=
 ⟨eO _,beq_eq_false_iff_ne.2 (hW (cI hb)),[],.nil,_,#[],cW _ rfl,⟨rfl,rfl,rfl⟩,rfl,λ_ he=>by simp at he,Pairs.nil,yM⟩
def Qi:TE:=λ_ H Q=>∀ p,H p=ae->Q (.ref p) (upd H p (.dK 0 []))
section
variable {X:Cx}
theorem XE:PE X (.Dict [] [] pos) Qi:=λad s Z H Q I h=>
 wpAny_Dict_empty ⟨.ref s.heap.objs.size,_,I.laid (λ_ _ q=>bN _ q) (bE _) (Vf s.heap I.big),rfl,h _ (I.hok.fresh (bE _))⟩
end
def sH (kvs more:List (aI×V)):List (aI×V):=more.foldl (λaj kv=>putK aj kv.1 kv.2) kvs
theorem KV.merge:∀ {more:List (aI×V)} {rs:List (aI×aE)} {kvs:List (aI×V)} {vs:List (aI×aE)},KV more rs->KV kvs vs->KV (sH kvs more) (pU vs rs):=by
 intro more rs kvs vs r;unfold KV at r;induction r generalizing kvs vs with
 |nil=>intro q;exact q
 |@cons p q ps qs h t ih=>
  intro r0;have e:KV (putK kvs p.1 p.2) (uU vs q.1 q.2):=by
   have:=r0.put p.1 h.2;rw[<-h.1];exact this
  exact ih e
theorem Ct:∀ (more kvs:List (aI×V)),(sH kvs more).length<=kvs.length+more.length
 |[],kvs=>by show kvs.length<=kvs.length+0;omega
 |p::r,kvs=>by
  have h1:=Ct r (putK kvs p.1 p.2);have h2:=BB kvs p.1 p.2;show(sH (putK kvs p.1 p.2) r).length<=_;rw[fY];omega
structure M2 (X:Cx)(o:aR)(m:aC)(az:bQ)(e f:aR)(ax:bQ):Prop where
 base:oZ o m X.env (bM o X.env)=bM o X.env
 few:((eR ax (bH [e,f] X.env)).all (λx=>!x.1)&&(rL ax (rH [] X.env)).all (λx=>x.1.isSome)
  && decide (([e,f]:List aR).length+([]:List iX).length+(if ([]:List iX).isEmpty then 0 else 1)<30))=af
 line:(az.endLine==ax.line)=af
 trees:eR ax (bH [e,f] X.env)=[(ag,bM e X.env),(ag,bM f X.env)]
def IsD (H:Hp)(a:aD):Prop:=(∃ ep kvs,Rd H a (.dK ep kvs))\/∃ kvs,Rd H a (.dT kvs)
theorem Nj {X:Cx}{Z:St}{H:Hp}(I:Inv X ad Z H s)(d:IsD H a) :
  s.TypeIs (.ref a) "dict" /\ (∀ b,eK a=.ref b->∃ ob,s.heap.get? b=aa ob/\ob.dict=ae)/\(a==kU)=ag:=by
 rcases d with⟨ep,kvs,e⟩|⟨kvs,e⟩
 .obtain⟨_,hd,vs,_,dd⟩:=qS I.hok e;refine⟨dd.typeIs,λb q=>?_,hd⟩
  cases q;obtain⟨ob,_,_,h1,h2,_⟩:=dd;exact⟨ob,h1,h2.2.1⟩
 .obtain⟨_,hd,xs,_,dd⟩:=tR I.hok e;refine⟨dd.typeIs,λb q=>?_,hd⟩
  cases q;obtain⟨ob,_,_,h1,h2,_⟩:=dd;exact⟨ob,h1,h2.2.1⟩
section
variable {X:Cx}{Z:St}{H:Hp}{y d:V}{r:aE}{o:Option V}
theorem Pm(hu:A.units+40<cLine)(I:Inv X ad Z H s)(g:A9d H a y o)(ry:RelV y u)(rd:RelV d r)(h:∀ w' s',Inv X ad Z H s'->RelV (o.getD d) w'->Q w' s') :
  aM (aO X.prog X.w) A (call (.builtin "dict.get") [.ref a,u,r]) Q E s:=by
 rcases g with⟨ep,kvs,k,e,ey,l⟩|⟨kvs,k,b,e,ey,eb,l⟩
 .subst ey;obtain⟨z,hd,vs,dh,dd⟩:=qS I.hok e;refine QO Ha dd.typeIs PySem.F.entry_dict_get (K0 _ _ _) (meets_dict_get_default (fK X.prog X.w) a (qR ry) hd r) ⟨_,dd.mapOf,h _ _ (I.tok _) ?_⟩;rw[l];exact(dh.val k).getD rd
 .subst ey;cases(show u=eK b from ry)
  obtain⟨z,hd,xs,dh,dd⟩:=tR I.hok e;refine QO Ha dd.typeIs PySem.F.entry_dict_get (K0 _ _ _) (meetsH_dict_get_default (jN X.prog X.w) a b hd r) ⟨BR hu,k,xs,key_of I.hok eb,dd,h _ _ (I.tok _) ?_⟩;rw[l];exact(dh.val k).getD rd
end
def Pd (td ty tx:TE):TE:=λZ H Q=>td Z H λx H1=>∃ a,x=.ref a/\IsD H1 a/\ty Z H1 λy H2=>tx Z H2 λz H3=>∃ o,A9d H3 a y o/\Q (o.getD z) H3
section
variable {X:Cx}{o f:aR}{az ax:bQ}{td ty tx:TE}
theorem m7 (hu:X.A.units+40<cLine)(ho:PE X o td)(he:PE X e ty)(hf:PE X f tx)(m:M2 X o "get" az e f ax):PE X (.Call (.Attribute o "get" az) [e,f] [] ax) (Pd td ty tx):=by
 rw[13];refine wpAny_Call_method m.base m.few m.line HP Ha PySem.F.type_dict_get (bo (ho ad s Z H _ I h) λu s1 gh=>?_)
 obtain⟨x,H1,I1,rx,a,ex,d,q1⟩:=gh;subst ex;obtain rfl:u=eK a:=rx;obtain⟨t1,t2,_⟩:=Nj I1 d;refine⟨t1,t2,?_⟩;rw[m.trees];refine Calls.callWith_builtin rfl (Calls.evalArgs_plain (Iv (bo (he ad s1 Z H1 _ I1 q1) λiv s2 ⟨y,H2,I2,ry,q2⟩=>
  Iv (bo (hf ad s2 Z H2 _ I2 q2) λfv s3 ⟨z,H3,I3,rz,ov,g,q3⟩=>Calls.spliced_nil ?_))))
 exact Pm hu I3 g ry rz λw' s4 I4 on=>⟨_,H3,I4,on,q3⟩
end
section
variable {X:Cx}{Z:St}{H:Hp}{kvs:List (aI×V)}
theorem Us(I:Inv X ad Z H s)(e:Rd H a (.dK ep kvs))(h:∀ p n s',H p=ae->Inv X ad Z (upd H p (.dK n kvs)) s'->Q (.ref p) s'):aM (aO X.prog X.w) A (call (.type "dict") [.ref a]) Q E s:=by
 obtain⟨z,hd,vs,dh,dd⟩:=qS I.hok e;refine kt_call_dict hd dd (by rw[<-dh.length];exact z) λh' vi hs=>?_
 obtain⟨n,da⟩:=vi.dictAt;refine h _ n _ (I.hok.fresh (bE _)) (I.laid (λb q hq=>?_) (bE _) (zU z (beq_eq_false_iff_ne.2 (hW (cI I.big))) dh da))
 exact(hs.2 b (cI (bU hq))).trans (bN _ hq)
end
end L2
namespace HT
open PySem PyProof.Rows
section
variable {prog:bT}{w:bB}{A:cB}{E:aE->aH->Prop}{s:aH}
theorem Bhg {t b:aD}{vs ws:List aE}{Q:aE->aH->Prop}(ht:IsTup s.heap t vs.toArray)(hb:IsTup s.heap b ws.toArray)(hv:vs≠[])
  (h1:ws=[]->Q (.ref t) s) (h2:ws≠[]->Q (.ref s.heap.objs.size) { s with heap:=s.heap.push { cls:=.type "tuple",data:=.seq (vs++ws).toArray } })
  (xy:vs.length+ws.length<=sizeLine):aM (aO prog w) A (kC .Add (.ref t) (.ref b)) Q E s:=by
 obtain⟨⟨cls,dd,data,sl⟩,ho,hc,n,hd⟩:=id ht;obtain⟨⟨P4,No,data2,NE⟩,xj,oq,n2,vj⟩:=id hb;simp only at hc hd oq vj;subst hc hd oq vj;have e:vs.toArray++ws.toArray=(vs++ws).toArray:=by simp
 by_cases hw:ws=[]
 .exact QN ⟨_,ho,rfl⟩ ⟨_,xj,rfl⟩ Gh seq_tuple_add Gz Hb (Hc _ _)
   (tuple_addW1 t b vs.toArray ws.toArray n n2 dd No sl NE (by simpa using hv) (by simp[hw])) ⟨ho,xj,h1 hw⟩
 .refine QN ⟨_,ho,rfl⟩ ⟨_,xj,rfl⟩ Gh seq_tuple_add Gz Hb (Hc _ _)
   (tuple_addW2 t b vs.toArray ws.toArray n n2 dd No sl NE (by simpa using hv) (by simpa using hw) (by rw[eA,eA];exact xy)) ⟨ho,xj,?_⟩
  rw[e];exact h2 hw
def sIx (n d:Nat):Option Int->Nat
 |none=>d
 |some v=>if v<0 then(v+(n:Int)).toNat else min v.toNat n
theorem Ayv (n d:Nat):sIx n d ae=d:=rfl
theorem A7i (n d k:Nat):sIx n d (aa (k:Int))=min k n:=by
 show(if (k:Int)<0 then((k:Int)+(n:Int)).toNat else min (k:Int).toNat n)=min k n
 rw[if_neg (by omega),kX]
theorem Qg (n d:Nat)(hd:d<=n)(o:Option Int):sIx n d o<=n:=by
 cases o with
 |none=>exact hd
 |some v=>
  show(if v<0 then(v+(n:Int)).toNat else min v.toNat n)<=n
  by_cases hv:v<0
  .rw[if_pos hv];omega
  .rw[if_neg hv];exact Nat.min_le_right _ _
theorem Fq (v:Int)(n d:Nat):(if v<0 then max (v+(n:Int)) 0 else min v (n:Int))=((sIx n d (aa v):Nat):Int):=by
 show(if v<0 then max (v+(n:Int)) 0 else min v (n:Int))=(((if v<0 then(v+(n:Int)).toNat else min v.toNat n):Nat):Int)
 by_cases hv:v<0
 .simp only[if_pos hv];omega
 .simp only[if_neg hv];omega
theorem Ya (lo hi:Option Int)(n:Nat):Ja lo hi 1 (n:Int)=(((sIx n 0 lo:Nat):Int),((sIx n n hi:Nat):Int)):=by
 have h1:¬ ((1:Int)<0):=by omega
 unfold Ja;simp only[h1,if_false];refine Prod.ext ?_ ?_
 .cases lo with
  |none=>rfl
  |some v=>exact Fq v n 0
 .cases hi with
  |none=>rfl
  |some v=>exact Fq v n n
theorem Xk (i j:Nat):RZ (i:Int) (j:Int) 1=j-i:=by
 unfold RZ;have h1:(1:Int) > 0:=by omega
 simp only[h1,if_true,Int.ediv_one];split<;>omega
theorem Ba {v:aE}{o:Option Int}{Q:Option Int->aH->Prop}(p:qE v o)(h:Q o s):aM (aO prog w) A (Builtin.Slice.slicePartIndex v) Q E s:=by
 cases p with
 |none=>exact slicePart_none h
 |int i t=>exact slicePart_int h
theorem Ahg {sl:aD}{vl vu:aE}{lo hi:Option Int}{n:Nat}{Q:Int×Int×Nat->aH->Prop}(hs:s.heap.IsSliceOf sl vl vu .none)(pl:qE vl lo)(pu:qE vu hi)
  (h:Q (((sIx n 0 lo:Nat):Int),1,sIx n n hi-sIx n 0 lo) s):aM (aO prog w) A (Builtin.Slice.sliceApplied (.ref sl) (pure (n:Int))) Q E s:=by
 obtain⟨os,P5,hcs,W0⟩:=id hs;unfold Builtin.Slice.sliceApplied Builtin.Slice.sliceFields;refine aG (aG (jO P5 W0 rfl (aG (jO P5 W0 rfl (aG (jO P5 W0 rfl (aN ?_)))))));refine aG (slicePart_none ?_);rw[if_neg (by decide)]
 refine aG (Ba pl (aG (Ba pu (aG (aN ?_)))));show aM _ _ (match Ja lo hi 1 (n:Int) with|(lo,hi)=>pure (lo,(1:Int),RZ lo hi 1)) _ _ s
 rw[Ya lo hi n];show aM _ _ (pure (((sIx n 0 lo:Nat):Int),(1:Int),RZ ((sIx n 0 lo:Nat):Int) ((sIx n n hi:Nat):Int) 1)) _ _ s;rw[Xk];exact aN h
theorem Vy (xs:Array aE)(i k:Nat):((bY k).filterMap λ(m:Nat)=>xs[((i:Int)+(m:Int)*1).toNat]?).toArray=((xs.toList.drop i).take k).toArray:=by
 have e:(λ(m:Nat)=>xs[((i:Int)+(m:Int)*1).toNat]?)=λm=>xs[i+m]?:=by
  funext m;have:((i:Int)+(m:Int)*1).toNat=i+m:=by omega
  rw[this]
 rw[e];have:=pick_run xs i k;rw[List.filterMap_map] at this;have e2:((λx=>xs[x]?)∘λx=>i+x)=λm=>xs[i+m]?:=rfl
 rw[e2] at this;rw[this]
theorem Ak6 {t sl:aD}{ai:Array aE}{vl vu:aE}{lo hi:Option Int}{Q:aE->aH->Prop}(ht:IsTup s.heap t ai)(hs:s.heap.IsSliceOf sl vl vu .none)(pl:qE vl lo)(pu:qE vu hi)
  (hw:¬ (sIx ai.size 0 lo=0/\sIx ai.size ai.size hi=ai.size))
  (h:Q (.ref s.heap.objs.size) { s with heap:=s.heap.push { cls:=.type "tuple",data:=.seq ((ai.toList.drop (sIx ai.size 0 lo)).take (sIx ai.size ai.size hi-sIx ai.size 0 lo)).toArray } })
  (xy:ai.size<=sizeLine):aM (aO prog w) A (rJ (.ref t) (.ref sl)) Q E s:=by
 have tq:sizeOk (.seq ((ai.toList.drop (sIx ai.size 0 lo)).take (sIx ai.size ai.size hi-sIx ai.size 0 lo)).toArray):=by
  show((ai.toList.drop (sIx ai.size 0 lo)).take (sIx ai.size ai.size hi-sIx ai.size 0 lo)).toArray.size<=sizeLine;rw[eA,rO,Hx,fZ];omega
 have hj:sIx ai.size ai.size hi<=ai.size:=Qg _ _ (bE _) hi;obtain⟨os,P5,hcs,W0⟩:=id hs;have hTs:s.TypeIs (.ref sl) "slice":=⟨os,P5,hcs⟩;unfold rJ
 try with_reducible refine hG ?_
 first|refine aG (aN ?_)|skip
 refine aG (wpAny_sequenceKey ht.typeIs (by decide) ?_)
 refine aG (mP (name:=Str.ofString "__getitem__") ht.typeIs He
  (fX He ht.typeIs entry_tuple_getitem ?_ (args_tuple_getitem _ _)))
 show aM _ _ (Iy (.ref t)>>=_) _ _ s;refine aG (tupleItemsOf_ ht ?_);refine aG (nN hTs ?_);rw[if_pos (by decide)]
 refine aG (Ahg hs pl pu ?_);have qz:¬ ((((sIx ai.size 0 lo:Nat):Int)==0&&(1:Int)==1&&(sIx ai.size ai.size hi-sIx ai.size 0 lo)==ai.size)=af):=by
  intro q;rw[yU,yU] at q;have q1:((sIx ai.size 0 lo:Nat):Int)=0:=eq_of_beq q.1.1;have q2:sIx ai.size ai.size hi-sIx ai.size 0 lo=ai.size:=eq_of_beq q.2;exact hw ⟨by omega,by omega⟩
 show aM _ _ (if (((sIx ai.size 0 lo:Nat):Int)==0&&(1:Int)==1&&(sIx ai.size ai.size hi-sIx ai.size 0 lo)==ai.size)=af then _ else _) _ _ s
 rw[if_neg qz,Vy]
 first
  |exact aG (m:=RX _) (iI (aN ⟨_,rfl,aN h⟩) tq)
  |exact aG (m:=RX _) (iI (aG (aN (aN ⟨_,rfl,aN h⟩))) tq)
  |exact aG (aG (m:=RX _) (iI (aN (aN ⟨_,rfl,aN h⟩)) tq))
  |exact aG (aG (m:=RX _) (iI (aN ⟨_,rfl,aN h⟩) tq))
end
end HT
namespace L2
open PySem PySem.Spec PyProof.Rows
variable {xs:List V}{n:Nat}{ad:List (aD×aZ)}{Z:St}{H:Hp}{s:aH}{its:List aE}{X:Cx}
abbrev TO:=St->Hp->(Option Int->Hp->Prop)->Prop
def PO (X:Cx)(e:Option aR)(t:TO):Prop:=
 ∀ (ad:List (aD×aZ)) (s:aH) (Z:St) (H:Hp) (Q:Option Int->Hp->Prop),Inv X ad Z H s->t Z H Q ->
  aM (aO X.prog X.w) X.A (evalPart e X.env) (λu s'=>∃ o H',Inv X ad Z H' s'/\qE u o/\Q o H') X.xe s
def Pu:TO:=λ_ H Q=>Q ae H
def Le (t:TE):TO:=λZ H Q=>t Z H λx H1=>∃ i,x=.int i/\Q (aa i) H1
section
variable {e:aR}{te:TE}{lo hi:Option aR}{tl th:TO}{pos p2:bQ}
theorem Rk:PO X ae Pu:=by
 rw[13];rw[evalPart_none];exact aN ⟨ae,H,I,.none,h⟩
theorem Rl (h:PE X e te):PO X (aa e) (Le te):=by
 intro ad s Z H Q I hw;rw[evalPart_some];refine bo (h ad s Z H _ I hw) λu s1 gh=>?_
 obtain⟨x,H1,I1,r1,q1⟩:=gh;obtain⟨i,rfl,q⟩:=q1;obtain⟨t,rfl⟩:=r1;exact⟨aa i,H1,I1,.int i t,q⟩
def SlR (X:Cx)(r:V->Option Int->Option Int->Hp->VK->Prop):Prop:=
 ∀ (ad:List (aD×aZ)) (s:aH) (Z:St) (H:Hp) (x:V) (v vl vu:aE) (lo hi:Option Int) (sl:aD) (Q:VK),Inv X ad Z H s->RelV x v->s.heap.IsSliceOf sl vl vu .none->qE vl lo->qE vu hi->r x lo hi H Q ->
  ∃ T id,HH (.type T) "__getitem__" = pure (aa (.builtin id))/\s.TypeIs v T/\aM (aO X.prog X.w) X.A (rJ v (.ref sl)) (EP X ad Z Q) X.xe s
theorem SlR.or {r r':V->Option Int->Option Int->Hp->VK->Prop}(h:SlR X r)(h':SlR X r'):SlR X (λx lo hi H Q=>r x lo hi H Q\/r' x lo hi H Q):=by
 intro ad s Z H x v vl vu lo hi sl Q I rx hs pl pu q;rcases q with q|q
 .exact h ad s Z H x v vl vu lo hi sl Q I rx hs pl pu q
 .exact h' ad s Z H x v vl vu lo hi sl Q I rx hs pl pu q
def tSl (r:V->Option Int->Option Int->Hp->VK->Prop)(te:TE)(tl th:TO):TE:=λZ H Q=>te Z H λx H1=>tl Z H1 λl H2=>th Z H2 λu H3=>r x l u H3 Q
theorem WR {r:V->Option Int->Option Int->Hp->VK->Prop}(hr:SlR X r)(he:PE X e te)(hl:PO X lo tl)(hu:PO X hi th):PE X (.Subscript e (.Slice lo hi ae p2) pos) (tSl r te tl th):=by
 rw[13];refine Subscript_ (bo (he ad s Z H _ I h) λv s1 gh=>?_)
 obtain⟨x,H1,I1,r1,q1⟩:=gh;refine wpAny_Slice (bo (hl ad s1 Z H1 _ I1 q1) λvl s2 ⟨l,H2,I2,pl,q2⟩=>bo (hu ad s2 Z H2 _ I2 q2) λvu s3 gh=>?_)
 obtain⟨u,H3,I3,pu,q3⟩:=gh;rw[evalPart_none];refine aN ?_;have I4:Inv X ad Z H3 { s3 with heap:=s3.heap.push { cls:=.type "slice",data:=.fields #[vl,vu,.none] } }:=I3.kept (t':=s3.toks) λb ob q=>bN _ q
 obtain⟨T,id,hT,ht,hg⟩:=hr ad { s3 with heap:=s3.heap.push { cls:=.type "slice",data:=.fields #[vl,vu,.none] } } Z H3 x v vl vu l u s3.heap.objs.size Q I4 r1 (Heap.IsSliceOf.new ..) pl pu q3;show aM (aO X.prog X.w) X.A (subscriptTail e (.Slice lo hi ae p2) v (.ref s3.heap.objs.size)) (EP X ad Z Q) X.xe { s3 with heap:=s3.heap.push { cls:=.type "slice",data:=.fields #[vl,vu,.none] } };exact tail_any (ops:=[.ref s3.heap.objs.size,v]) ht hT hg (by with_unfolding_all rfl)
def zI (xs:List V)(lo hi:Option Int):List V:=(xs.drop (HT.sIx xs.length 0 lo)).take (HT.sIx xs.length xs.length hi-HT.sIx xs.length 0 lo)
theorem Ym (xs:List V)(lo hi:Option Int):(zI xs lo hi).length<=xs.length:=by
 unfold zI;rw[rO,Hx];omega
def Jh (K:aK):V->Option Int->Option Int->Hp->VK->Prop:=λx lo hi H Q=>∃ a xs,x=.ref a/\SqT K H a xs /\
 ¬ (HT.sIx xs.length 0 lo=0/\HT.sIx xs.length xs.length hi=xs.length)/\∀ p,H p=ae->Q (.ref p) (upd H p (.tup (zI xs lo hi)))
theorem VL:SlR X (Jh X.K):=by
 intro ad s Z H x v vl vu lo hi sl Q I rx hs pl pu h;obtain⟨a,xs,rfl,hx,hw,q⟩:=h;cases rx;obtain⟨its,r,ht,hz⟩:=I.tuple hx;have ay:its.toArray.size=xs.length:=by rw[eA];exact r.length.symm
 refine⟨"tuple",_,He.lookup,ht.typeIs,?_⟩;refine HT.Ak6 ht hs pl pu (by rw[ay];exact hw) ?_ (by rw[ay];exact hz)
 rw[ay];refine⟨.ref s.heap.objs.size,_,I.laid (λb ob q=>bN _ q) (bE _) ?_,rfl,q _ (I.hok.fresh (bE _))⟩
 exact⟨dG (Ym xs lo hi) hz,_,(r.drop (HT.sIx xs.length 0 lo)).take (HT.sIx xs.length xs.length hi-HT.sIx xs.length 0 lo),Bc5.new _ _⟩
def JN (K:aK):R2:=λx y H Q=>∃ a b xs ys,x=.ref a/\y=.ref b/\SqT K H a xs/\SqT K H b ys/\xs≠[]/\xs.length+ys.length<=sizeLine /\
 (ys=[]->Q (.ref a) H)/\(ys≠[]->∀ p,H p=ae->Q (.ref p) (upd H p (.tup (xs++ys))))
theorem Vals.nil_iff{us:List aE}(r:Vals xs us):us=[]↔xs=[]:=by
 cases r with
 |nil=>simp
 |cons _ _=>simp
theorem A8b:OpR X (kC .Add) (JN X.K):=by
 rw[4];obtain⟨a,b,xs,ys,rfl,rfl,ha,hb,hx,hz,q1,q2⟩:=h;cases rx;cases ry;obtain⟨its,r1,p1,_⟩:=I.tuple ha;obtain⟨wg,r2,p2,_⟩:=I.tuple hb;refine HT.Bhg p1 p2 (λz=>hx (r1.nil_iff.1 z)) (λz=>⟨.ref a,H,I,rfl,q1 (r2.nil_iff.1 z)⟩) (λz=>?_) (by rw[<-r1.length,<-r2.length];exact hz)
 refine⟨.ref s.heap.objs.size,_,I.laid (λb ob q=>bN _ q) (bE _) ?_,rfl,q2 (λw=>z (r2.nil_iff.2 w)) _ (I.hok.fresh (bE _))⟩
 exact⟨by rw[mU];exact hz,_,r1.append r2,Bc5.new _ _⟩
end
def ni (n:Nat)(i:Int):Option Nat:=if 0<=i then(if i<n then aa i.toNat else ae) else if -(n:Int)<=i then aa (i+n).toNat else ae
def kz {α:Type}(xs:List α)(i:Int):Option α:=(ni xs.length i).bind λj=>xs[j]?
theorem Dn{i:Int}{j:Nat}(h:ni n i=aa j):seqIndex? i n=aa j/\j<n /\ -(n:Int)<=i/\i<n:=by
 unfold ni at h;by_cases h0:0<=i
 .rw[if_pos h0] at h;by_cases h1:i<n
  .rw[if_pos h1] at h;have e:=fF h;exact⟨by rw[seqIndex_of h0 h1,e],by omega,by omega,h1⟩
  .rw[if_neg h1] at h;cases h
 .rw[if_neg h0] at h;by_cases h1 : -(n:Int)<=i
  .rw[if_pos h1] at h;have e:=fF h;exact⟨by rw[seqIndex_neg (by omega) h1,e],by omega,h1,by omega⟩
  .rw[if_neg h1] at h;cases h
theorem JW {α:Type}{xs:List α}{i:Int}{v:α}(h:kz xs i=aa v):∃ j,seqIndex? i xs.length=aa j/\xs[j]?=aa v/\j<xs.length /\ -(xs.length:Int)<=i/\i<xs.length:=by
 unfold kz at h;cases e:ni xs.length i with
 |none=>rw[e] at h;cases h
 |some j=>
  rw[e] at h;obtain⟨h1,h2,h3,h4⟩:=Dn e;exact⟨j,h1,h,h2,h3,h4⟩
theorem uK {α:Type}{xs:List α}{j:Nat}{v:α}(h:xs[j]?=aa v):kz xs (j:Int)=aa v:=by
 have hj:=(cT.1 h).1;have e:ni xs.length (j:Int)=aa j:=by
  unfold ni;rw[if_pos (by omega),if_pos (by omega)];simp
 unfold kz;rw[e];exact h
def KP (b:aR):Prop:=∀ o i,QH b ag o i=operate [o,i] (rJ o i)
def IxR (X:Cx)(r:R2):Prop:=
 ∀ (value dL:aR) (ad:List (aD×aZ)) (s:aH) (Z:St) (H:Hp) (x y:V) (v u:aE) (Q:VK),Inv X ad Z H s->RelV x v->RelV y u->r x y H Q ->
  QH dL ag v u=operate [v,u] (rJ v u)->aM (aO X.prog X.w) X.A (subscriptTail value dL v u) (EP X ad Z Q) X.xe s
def MtR (X:Cx)(id:String)(r:V->List V->Hp->VK->Prop):Prop:=
 ∀ (ad:List (aD×aZ)) (s:aH) (Z:St) (H:Hp) (x:V) (xs:List V) (v:aE) (us:List aE) (Q:VK),Inv X ad Z H s->RelV x v->Vals xs us->r x xs H Q ->
  aM (aO X.prog X.w) X.A (call (.builtin id) (v::us)) (EP X ad Z Q) X.xe s
section
variable {a b:aR}{ta tb:TE}{pos:bQ}
theorem IxR.or {r r':R2}(h:IxR X r)(h':IxR X r'):IxR X (λx y H Q=>r x y H Q\/r' x y H Q):=by
 intro value dL ad s Z H x y v u Q I rx ry q hs;rcases q with q|q
 .exact h value dL ad s Z H x y v u Q I rx ry q hs
 .exact h' value dL ad s Z H x y v u Q I rx ry q hs
theorem TM {r:R2}(hr:IxR X r)(ha:PE X a ta)(hb:PE X b tb)(hs:KP b):PE X (.Subscript a b pos) (O4 r ta tb):=by
 rw[13];exact Subscript_ (JF ha hb I h λv u s2 x y H2 I2 rx ry q=>hr a b ad s2 Z H2 x y v u Q I2 rx ry q (hs _ _))
def SY (K:aK):R2:=λx y H Q=>∃ p xs i v,x=.ref p/\y=.int i/\SqL K H p xs/\kz xs i=aa v/\Q v H
def SK (K:aK):R2:=λx y H Q=>∃ p xs i v,x=.ref p/\y=.int i/\SqT K H p xs/\kz xs i=aa v/\Q v H
def SW:R2:=λx y H Q=>∃ z i c,x=.str z/\y=.int i/\z.length<=sizeLine/\kz z.cps.toList i=aa c/\Q (.str ⟨#[c]⟩) H
theorem Bgf:IxR X (SY X.K):=by
 intro value dL ad s Z H x y v u Q I rx ry h hs;obtain⟨p,xs,i,z,rfl,rfl,hq,he,q⟩:=h;cases rx;obtain⟨t,rfl⟩:=ry;obtain⟨its,r,pl,hz⟩:=I.list hq;obtain⟨j,h1,h2,h3,h4,h5⟩:=JW he;obtain⟨w,ew,on⟩:=r.get h2;have hl:=r.length;have hn:=uD;have fin:EP X ad Z Q w s:=⟨z,H,I,on,q⟩;by_cases h0:0<=i
 .have hj:i.toNat=j:=by
   rw[seqIndex_of h0 h5] at h1;exact fF h1
  exact item_listR pl.isList h0 (by omega) (by rw[hj];simpa using ew) fin hs
 .have hj:(i+(its.toArray.size:Int)).toNat=j:=by
   rw[seqIndex_neg (by omega) h4] at h1
   rw[eA,<-hl];exact fF h1
  exact subscriptTail_builtinR pl.isList.typeIs slot_list_getitem.lookup
   (wpAny_getItem_list_neg pl.isList (by omega) (by rw[eA]<;>omega) (by omega) (by rw[hj];simpa using ew) ⟨rfl,fin⟩) hs
theorem Bkq:IxR X (SK X.K):=by
 intro value dL ad s Z H x y v u Q I rx ry h hs;obtain⟨p,xs,i,z,rfl,rfl,hq,he,q⟩:=h;cases rx;obtain⟨t,rfl⟩:=ry;obtain⟨its,r,pl,hz⟩:=I.tuple hq;obtain⟨j,h1,h2,h3,h4,h5⟩:=JW he;obtain⟨w,ew,on⟩:=r.get h2;have hl:=r.length;have hn:=uD;have fin:EP X ad Z Q w s:=⟨z,H,I,on,q⟩;exact subscriptTail_builtinR pl.typeIs QI.lookup
  (getItem_tuple pl (by omega) (by omega) (by rw[eA,<-hl];exact h1) (by simpa using ew) ⟨rfl,fin⟩) hs
theorem Mr:IxR X SW:=by
 intro value dL ad s Z H x y v u Q I rx ry h hs;obtain⟨z,i,c,rfl,rfl,hz,he,q⟩:=h;rw[11];obtain⟨j,h1,h2,h3,h4,h5⟩:=JW he;have hl:z.cps.toList.length=z.length:=by simp[Str.length]
 rw[hl] at h1 h4 h5;have hn:=uD;exact tail_any (typeIs_str s z t) slot_str_getitem.lookup (getItem_str (by
  have e1:decide (i < -(2^63:Int))=ag:=decide_eq_false (by omega)
  have e2:decide (i ≥ 2^63)=ag:=decide_eq_false (by omega)
  rw[e1,e2,Jb]) (by rw[h1];simpa using h2) ⟨.str ⟨#[c]⟩,H,I.tok _,⟨_,rfl⟩,q⟩) hs
def rIx (K:aK):R2:=λx y H Q=>SY K x y H Q\/SK K x y H Q\/SW x y H Q
theorem VG:IxR X (rIx X.K):=Bgf.or (Bkq.or Mr)
theorem Xl (its:List aE)(n j:Nat)(u:aE):fG (·.setIfInBounds j u) { cls:=.type "list",data:=.seq its.toArray n }={ cls:=.type "list",data:=.seq (its.set j u).toArray n }:=by
 simp[fG]
theorem Inv.lst{p:aD}(I:Inv X ad Z H s)(h:H p=aa (.lst xs)) :
  ∃ (its:List aE) (n:Nat),Vals xs its/\s.heap.get? p=aa { cls:=.type "list",data:=.seq its.toArray n }/\xs.length<=sizeLine:=by
 obtain⟨z,its,n,r,e⟩:=I.hok p _ h;exact⟨its,n,r,e,z⟩
theorem Inv.lstUpd{p:aD}{ys:List V}{jt:List aE}{n':Nat}{f:aZ->aZ}(I:Inv X ad Z H s)(h:H p=aa (.lst xs))
  (ho:s.heap.get? p=aa { cls:=.type "list",data:=.seq its.toArray n }) (hf:f { cls:=.type "list",data:=.seq its.toArray n }={ cls:=.type "list",data:=.seq jt.toArray n' }) (r:Vals ys jt) (hz:ys.length<=sizeLine) (t:Nat) :
  Inv X ad Z (upd H p (.lst ys)) { s with heap:=s.heap.update p f,toks:=t }:=by
 have e:(s.heap.update p f).get? p=aa { cls:=.type "list",data:=.seq jt.toArray n' }:=by
  rw[qI f ho (by rw[hf]<;>rfl),hf]
 refine I.write (by rw[h];trivial) (.inl rfl) (λb u hb q=>(sY _ _ (hW hb)).trans q) ⟨_,e⟩ ?_
 exact⟨hz,jt,n',r,e⟩
def Ma:V->V->V->Hp->(Hp->Prop)->Prop:=λo i v H Q=>∃ p xs k j,o=.ref p/\i=.int k/\H p=aa (.lst xs)/\ni xs.length k=aa j/\Q (upd H p (.lst (xs.set j v)))
theorem set_list:SN X Ma:=by
 intro ad s Z H o i v ov iv u Q I ro ri rv h;obtain⟨p,xs,k,j,rfl,rfl,hp,hj,q⟩:=h;cases ro;obtain⟨t,rfl⟩:=ri;obtain⟨its,n,r,ho,hz⟩:=I.lst hp;obtain⟨h1,h2,h3,h4⟩:=Dn hj;have hl:=r.length;have hn:=uD;have I':=
  I.lstUpd hp ho (Xl its n j u) (r.set rv j) (by rw[HZ];exact hz) s.toks
 by_cases h0:0<=k
 .have hk:k.toNat=j:=by
   rw[seqIndex_of h0 h4] at h1;exact fF h1
  exact PySem.W.ki_setAt ho h0 (by omega) (by rw[eA,<-hl];exact h4) (by rw[hk];exact⟨_,I',q⟩)
 .have hk:(k+(its.toArray.size:Int)).toNat=j:=by
   rw[seqIndex_neg (by omega) h3] at h1
   rw[eA,<-hl];exact fF h1
  exact PySem.W.ki_setBack ho (by omega) (by rw[eA,<-hl];exact h3) (by omega) (by rw[hk];exact⟨_,I',q⟩)
theorem d7:OpR X (jG .NotIn) (λx y H Q=>∃ i j,x=.str i/\y=.str j/\Q (.bl (!(!(RY j i 0 j.length 1).isEmpty))) H):=by
 rw[4];obtain⟨i,j,rfl,rfl,q⟩:=h;rw[11];exact notIn_str ⟨.bl _,H,I,rfl,q⟩
theorem Ar2:Adw X (.builtin "len") (λxs H Q=>∃ p ys,xs=[.ref p]/\(SqL X.K H p ys\/SqT X.K H p ys)/\Q (.int ys.length) H):=by
 rw[6];obtain⟨p,ys,rfl,hq,q⟩:=h;obtain⟨u,rfl,rx⟩:=vals1 r;cases rx;have hn:=uD;rcases hq with hq|hq
 .obtain⟨its,r',pl,hz⟩:=I.list hq;have ay:=r'.length;exact Calls.call_len_list pl.isList (by simp only[eA]<;>omega) ⟨.int ys.length,H,I.tok _,⟨s.toks+1,by rw[eA,ay]⟩,q⟩
 .obtain⟨its,r',pl,hz⟩:=I.tuple hq;have ay:=r'.length;exact len_tuple pl (by simp only[eA]<;>omega) ⟨.int ys.length,H,I.tok _,⟨s.toks+1,by rw[eA,ay]⟩,q⟩
theorem As5:Adw X (.builtin "len") (λxs H Q=>∃ z,xs=[.str z]/\z.length<=sizeLine/\Q (.int z.length) H):=by
 rw[6];obtain⟨z,rfl,hz,q⟩:=h;obtain⟨u,rfl,t,rfl⟩:=vals1 r;have hn:=uD;exact len_str (by omega) ⟨.int z.length,H,I.tok _,⟨_,rfl⟩,q⟩
theorem Adw.or {f:aE}{r r':List V->Hp->VK->Prop}(h:Adw X f r)(h':Adw X f r'):Adw X f (λxs H Q=>r xs H Q\/r' xs H Q):=by
 intro ad s Z H xs us Q I rs q;rcases q with q|q
 .exact h ad s Z H xs us Q I rs q
 .exact h' ad s Z H xs us Q I rs q
theorem Asj:Adw X (.type "list") (λxs H Q=>∃ p ys,xs=[.ref p]/\(SqL X.K H p ys\/SqT X.K H p ys)/\∀ l,H l=ae->Q (.ref l) (upd H l (.lst ys))):=by
 rw[6];obtain⟨p,ys,rfl,hq,q⟩:=h;obtain⟨u,rfl,rx⟩:=vals1 r;cases rx;have fin:∀ (its:List aE),Vals ys its->ys.length<=sizeLine->∀ (h':aQ) (c':Nat),(∀ b o',s.heap.get? b=aa o'->h'.get? b=aa o') ->
   h'.get? s.heap.objs.size=aa { cls:=.type "list",dict:=ae,data:=.seq its.toArray c',slots:=#[] }->EP X ad Z Q (.ref s.heap.objs.size) { s with heap:=h' }:=λits r' hz h' c' kp e=>
  ⟨.ref s.heap.objs.size,_,I.laid kp (bE _) (show Adc X.prog X.w _ h' _ (.lst ys) from⟨hz,its,c',r',e⟩),rfl,q _ (I.hok.fresh (bE _))⟩
 rcases hq with hq|hq
 .obtain⟨its,r',pl,hz⟩:=I.list hq;have ay:=r'.length;obtain⟨o,ho,hc,n,hd⟩:=pl.isList;exact call_list_seq p (.inl rfl) ho hc hd (λh' c' kp e=>fin its r' hz h' c' kp e) (by simp only[eA]<;>omega)
 .obtain⟨its,r',pl,hz⟩:=I.tuple hq;have ay:=r'.length;obtain⟨o,ho,hc,n,hd⟩:=pl;exact call_list_seq p (.inr rfl) ho hc hd (λh' c' kp e=>fin its r' hz h' c' kp e) (by simp only[eA]<;>omega)
theorem sQ:Adw X (.type "tuple") (λxs H Q=>∃ p ys,xs=[.ref p]/\((SqL X.K H p ys/\∀ l,H l=ae->Q (.ref l) (upd H l (.tup ys)))\/(SqT X.K H p ys/\Q (.ref p) H))):=by
 rw[6];obtain⟨p,ys,rfl,h⟩:=h;obtain⟨u,rfl,rx⟩:=vals1 r;cases rx;rcases h with⟨hq,q⟩|⟨hq,q⟩
 .obtain⟨its,r',pl,hz⟩:=I.list hq;have ay:=r'.length;refine call_tuple_list pl.isList (λh' kp=>?_) (by simp only[eA]<;>omega)
  have I1:Inv X ad Z H { s with heap:=h' }:=I.kept (t':=s.toks) kp;have I2:Inv X ad Z (upd H h'.objs.size (.tup ys)) { s with heap:=h'.push { cls:=.type "tuple",data:=.seq its.toArray } }:=
   I1.laid (t':=s.toks) (λb o e=>bN _ e) (bE _) (show Adc X.prog X.w _ _ _ (.tup ys) from⟨hz,its,r',Bc5.new _ _⟩)
  exact⟨.ref h'.objs.size,_,I2,rfl,q _ (I1.hok.fresh (bE _))⟩
 .obtain⟨its,r',pl,hz⟩:=I.tuple hq;exact call_tuple_same pl ⟨.ref p,H,I,rfl,q⟩
def tyV (K:aK)(T:String)(x:V)(H:Hp):Prop:=match x with
 |.str _=>T = "str"
 |.int _=>T = "int"
 |.ref p=>(T = "list" /\ ∃ xs,SqL K H p xs)\/(T = "tuple" /\ ((∃ o,K.lookup p=aa o/\o.cls=.type "tuple" /\ o.dict=ae)\/∃ xs,H p=aa (.tup xs))) \/
   (T = "dict" /\ ((∃ ep kvs,H p=aa (.dK ep kvs))\/∃ kvs,H p=aa (.dT kvs)))\/(T = "set" /\ ∃ S n,H p=aa (.set S n))
 |_=>False
theorem Mp{T:String}{x:V}{v:aE}(I:Inv X ad Z H s)(r:RelV x v)(ty:tyV X.K T x H) :
  s.TypeIs v T/\∀ a,v=.ref a->∃ ob,s.heap.get? a=aa ob/\ob.dict=ae:=by
 cases x with
 |str z=>
  obtain⟨t,rfl⟩:=r;cases(show T = "str" from ty)
  exact⟨typeIs_str s z t,λ_ e=>nomatch e⟩
 |int i=>
  obtain⟨t,rfl⟩:=r;cases(show T = "int" from ty)
  exact⟨typeIs_int s i t,λ_ e=>nomatch e⟩
 |ref p=>
  cases r;rcases ty with⟨rfl,xs,hq⟩|⟨rfl,⟨o,hk,hc,hd⟩|⟨xs,hx⟩⟩|⟨rfl,hk⟩|⟨rfl,S,n,hk⟩
  .obtain⟨its,_,pl,_⟩:=I.list hq;refine⟨pl.isList.typeIs,λa e=>?_⟩
   cases e;obtain⟨o,n,e,c,hd,_⟩:=pl;exact⟨o,e,hd⟩
  .refine⟨⟨o,I.kIn p o hk,hc⟩,λa e=>?_⟩
   cases e;exact⟨o,I.kIn _ o hk,hd⟩
  .obtain⟨_,_,_,⟨o,e,c,_⟩,n⟩:=(show Adc X.prog X.w H s.heap p (.tup xs) from I.hok p _ hx)
   refine⟨⟨o,e,c⟩,λa e=>?_⟩
   cases e;exact n
  .have z:∃ o,s.heap.get? p=aa o/\o.ExactDict:=by
    rcases hk with⟨ep,kvs,hk⟩|⟨kvs,hk⟩
    .obtain⟨_,_,_,_,o,_,e,ex,_⟩:=I.hok p _ hk;exact⟨o,e,ex⟩
    .obtain⟨_,_,_,_,o,_,_,e,ex,_⟩:=I.hok p _ hk;exact⟨o,e,ex⟩
   obtain⟨o,e,ex⟩:=z;refine⟨⟨o,e,ex.1⟩,λa e2=>?_⟩
   cases e2;exact⟨o,e,ex.2.1⟩
  .obtain⟨o,_,_,_,e,ex,_⟩:=I.hok p _ hk;refine⟨⟨o,e,ex.1⟩,λa e2=>?_⟩
   cases e2;exact⟨o,e,ex.2.1⟩
 |_=>exact rP ty
def tBM (K:aK)(T:String)(r:V->List V->Hp->VK->Prop)(to:TE)(t:TA):TE:=λZ H Q=>to Z H λx H1=>tyV K T x H1/\t Z H1 λxs H2=>r x xs H2 Q
variable {o e:aR}{es:List aR}{to:TE}{t:TA}{name:aC}{az ax:bQ}{T id:String}{r:V->List V->Hp->VK->Prop}
theorem sE (pa:PlainAttrs T)(slot:Slot T name id)(hty:typeOf (.builtin id)=pure (.type "method_descriptor"))(hm:MtR X id r)(ho:PE X o to)(ha:PA X (e::es) t)
  (bv:oZ o name X.env (bM o X.env)=bM o X.env:=by rfl)
  (fu:((eR ax (bH (e::es) X.env)).all (λx=>!x.1)&&(rL ax (rH [] X.env)).all (λx=>x.1.isSome)
   && decide ((e::es).length+([]:List iX).length+(if ([]:List iX).isEmpty then 0 else 1)<30))=af:=by rfl)
  (bw:(az.endLine==ax.line)=af:=by rfl) (hs:bH (e::es) X.env=(ag,bM e X.env)::bH es X.env:=by rfl) (bp:(eR ax (bH es X.env)).any (·.1)=ag:=by rfl) :
  PE X (.Call (.Attribute o name az) (e::es) [] ax) (tBM X.K T r to t):=by
 rw[13];refine wpAny_Call_method_late bv fu bw rfl (bo (ho ad s Z H _ I h) λv s1 gh=>?_)
 obtain⟨x,H1,I1,r1,ty,q1⟩:=gh;obtain⟨h1,h2⟩:=Mp I1 r1 ty;refine⟨T,id,pa,slot,hty,h1,h2,?_⟩;have hA:=ha ax ad s1 Z H1 _ I1 q1;rw[hs] at hA ⊢;refine Calls.callWith_builtin (by show(ag||(eR ax (bH es X.env)).any (·.1))=ag;rw[bp]<;>rfl) (Calls.evalArgs_plain ?_)
 exact bo hA λus s2 ⟨vs,H2,I2,r2,q2⟩=>hm ad s2 Z H2 x vs v us Q I2 r1 r2 q2
end
def X8 (X:Cx)(id:String)(r:V->List V->Hp->VK->Prop):Prop:=
 ∀ (ad:List (aD×aZ)) (s:aH) (Z:St) (H:Hp) (x:V) (xs:List V) (v:aE) (us:List aE) (Q:VK),Inv X ad Z H s->RelV x v->Vals xs us->r x xs H Q ->
  aM (aO X.prog X.w) X.A (call (.builtin id) (v::us)) (EP X ad Z Q) X.xe s
theorem Vals.one:∀ {x:V} {us:List aE},Vals [x] us->∃ u,us=[u]/\RelV x u:=by
 intro x us h;cases h with
 |cons r t=>cases t;exact⟨_,rfl,r⟩
theorem Vals.eraseIdx:∀ {xs:List V} {us:List aE} (i:Nat),Vals xs us->Vals (xs.eraseIdx i) (us.eraseIdx i)
 |_,_,_,.nil=>.nil
 |_,_,0,.cons _ t=>t
 |_,_,i+1,.cons r t=>.cons r (Vals.eraseIdx i t)
theorem Ae {α:Type}:∀ (l:List α) (i:Nat),(l.eraseIdx i).length<=l.length
 |[],_=>bE _
 |_::_,0=>sW _
 |_::r,i+1=>Nat.succ_le_succ (Ae r i)
section
variable {l b:aD}{ys zs:List V}
theorem Inv.lset {jt:List aE}{f:Array aE->Array aE}{t':Nat}(I:Inv X ad Z H s)(hH:H l=aa (.lst xs))
  (e:s.heap.get? l=aa { cls:=.type "list",data:=.seq its.toArray n }) (hf:f its.toArray=jt.toArray) (hv:Vals ys jt) (hz:ys.length<=sizeLine) :
  Inv X ad Z (upd H l (.lst ys)) { s with heap:=s.heap.update l (fG f),toks:=t' }:=by
 have q:=PySem.IsL.update e f;rw[hf] at q;refine I.write (by rw[hH];exact trivial) (.inl rfl) (λb' u hb hu=>(sY s.heap (fG f) (hW hb)).trans hu) ⟨_,q⟩ ?_
 exact⟨hz,jt,_,hv,q⟩
theorem Inv.lnew{t':Nat}(I:Inv X ad Z H s)(hv:Vals ys its)(hz:ys.length<=sizeLine) :
  Inv X ad Z (upd H s.heap.objs.size (.lst ys)) { s with heap:=s.heap.push { cls:=.type "list",data:=.seq its.toArray },toks:=t' }:=
 I.laid (λ_ _ q=>bN _ q) (bE _) ⟨hz,its,0,hv,cW _ rfl⟩
theorem Inv.fresh (I:Inv X ad Z H s):H s.heap.objs.size=ae:=I.hok.fresh (bE _)
theorem Inv.lstM (I:Inv X ad Z H s)(hH:H l=aa (.lst xs)):xs.length<=sizeLine/\∃ (its:List aE) (n:Nat),Vals xs its/\xs.length=its.length/\s.heap.get? l=aa { cls:=.type "list",data:=.seq its.toArray n }:=by
 obtain⟨z,its,n,r,e⟩:=I.hok l _ hH;exact⟨z,its,n,r,r.length,e⟩
end
def Pz:V->List V->Hp->VK->Prop:=λx vs H Q=>∃ l xs y,x=.ref l/\vs=[y]/\H l=aa (.lst xs)/\xs.length<sizeLine/\Q .non (upd H l (.lst (xs++[y])))
theorem MO:X8 X "list.append" Pz:=by
 intro ad s Z H x vs v us Q I rx rv h;obtain⟨l,xs,y,rfl,rfl,hH,hz,q⟩:=h;cases rx;obtain⟨u,rfl,ru⟩:=rv.one;obtain⟨z,its,n,r,hl,e⟩:=I.lstM hH;refine call_meets F.slot_list_append ⟨_,e,rfl⟩ F.entry_list_append (F.args_list_append_2 _ _) (PySem.list_append l its.toArray n u (by rw[eA];omega)) ⟨e,?_⟩
 refine⟨.non,_,I.lset hH e (by simp) (r.append (.cons ru .nil)) ?_,rfl,q⟩
 rw[mU,RG];omega
end L2
namespace Att
open PySem PySem.W PySem.Calls PyProof.Rows
theorem k9 {P:Params}{h:aQ}:∀ (ns:List Int) (vs:List aE),WellAll P h vs (ns.map WData.int)->IntsAre vs ns:=by
 intro ns;induction ns with
 |nil=>
  intro vs w;rw[List.map_nil] at w;cases w;exact .nil
 |cons n ns ih=>
  intro vs w;rw[dI] at w;cases w with
  |cons a b=>
   cases a;exact .cons _ _ (ih _ b)
theorem A5 {l:OpenLaw}{n:Nat}(hn:l.most=aa n){P:Params}{h:aQ}{args:List WData}{zp:List aE}
  (ur:l.row.toRowW.claim.pre args=af) (W1:WellAll P h zp args) :
  ∃ a vs ns,zp=[eK a]/\args=[WData.list (ns.map WData.int)]/\h.get? a=aa { cls:=.type "list",data:=.seq vs.toArray }/\IntsAre vs ns/\ns.length<=n:=by
 have hsh:=(pre_splitW ur).1;have hc:l.pre.holds [] { args:=args }=af:=(pre_splitW ur).2;obtain⟨d,r,rfl,h1,h2⟩:=hasAllW_cons hsh;obtain rfl:=hasAllW_nil h2;obtain⟨xs,rfl,h3⟩:=hasW_list h1;obtain⟨ns,rfl⟩:=items_int h3;have ay:ns.length<=n:=by
  unfold OpenLaw.pre at hc;have h4:(WTm.not (.lt (.lit (.int (n:Int))) (.len (.arg 0)))).holds [] { args:=[.list (ns.map .int)] }=af:=by
   have h4:=(holds_andW hc).1;rw[hn] at h4;exact h4
  have h5:=condW_of h4 (w_not (w_lt w_lit (w_len_list (w_arg rfl))));rw[cJ] at h5;refine Nat.le_of_not_lt λq=>?_
  have q':(n:Int)<((ns.length:Nat):Int):=by omega
  first
   |(rw[decide_eq_true q'] at h5;exact absurd h5 (by decide))
   |(simp at h5;omega)
 cases W1 with
 |cons w1 w2=>
  cases w2;cases w1 with
  |list ho cz=>exact⟨_,_,ns,rfl,rfl,ho,k9 ns _ cz,ay⟩
theorem A6 (l:OpenLaw)(args:List WData):l.row.toRowW.claim.post args (.bool af) args=af:=
 postW_of
  (show WShape.has [] (.bool af) .bool=af by first|rfl|decide|simp[WShape.has,WShape.arms,WShape.armsAll])
  (show(WTm.eq .res (.lit (.bool af))).value [] { args:=args,res:=aa (.bool af),after:=args }=aa (.bool (af==af)) from w_eq_bool (w_res rfl) w_lit) rfl
end Att
namespace L2
open PySem PySem.Spec PyProof.Rows
variable {P P0:aD->Prop}{w:bB}{K:aK}{mg:aC->Option aE}{k:aI}{a f:aD}{x qual y:aC}{sp:Sp}{X:Cx}{st:bZ}{N ps:List aC}{A:cB}{B H' H H1 B' B0 H0:Hp}{nj bu c b tg e:aR}{li es:List aR}{pos px lj p p2:bQ}{env:Env}{n i j n0:Nat}{sc:jH}{v:V}{fp:Nat->List aD}{ad:List (aD×aZ)}{Z:St}{s:aH}{cap:List (Option Nat)}{o:HO}{xs:List V}{ds:List aA}{m d:aA}{Y:List (Option aA)}{g:aA->aA->Option aA}{r:R2}{T:String}{kds:List (aA×aA)}{Q:VK}
theorem Ai:∀ {vs:List aE} {ns:List Int},IntsAre vs ns->Vals (ns.map V.int) vs
 |_,_,.nil=>.nil
 |_,_,.cons n t h=>.cons ⟨t,rfl⟩ (Ai h)
def Only (H:Hp):Prop:=∀ b,H b=ae\/∃ o xs,H b=aa (.frz o (.lst xs))
theorem Uz {P:bT}{mb:aC->Option aE}{CX:xc}{k:Nat}{fa:aD}{fd:iM}{s₁:aH}{vs:List aE}{ns:List Int}
  (KX:K.In s₁.heap) (W2:s₁.heap.Ns dS mg) (hb:s₁.heap.Ns builtinsNs mb) (P6:∀ x:aC,x ≠ "__name__" -> mb x=oY x) (Z1:s₁.heap.NoLimit) (hg:s₁.gens = #[])
  (ha:s₁.heap.get? a=aa { cls:=.type "list",data:=.seq vs.toArray }) (hi:IntsAre vs ns) (hl:ns.length<=sizeLine) (hr:Room k yF)
  (F:∀ base:aQ,K.In base->base.Ns dS mg->FnOk P w K mg base CX k fa fd [x] sp) (P7:∀ (s:aH) (u:aE),BindsTo s fd ⟨[u],[]⟩ [(x,u)])
  (yq:∀ H:Hp,Only H->SqL K H a (ns.map V.int)->sp [.ref a] H (λv _=>v=.bl af) λ_ _ _=>False)
  (Z2:∀ H e s',CX [] H s₁ (λ_ _ _=>False) e s'->False) :
  nQ (aO P w) yF (.call (.ref fa) ⟨[.ref a],[]⟩) (λr s'=>r=.ok (.ret (.bool af))/\OldK s₁.heap s'.heap/\s'.os=s₁.os/\sZ s'.gens) s₁:=by
 have rv:=Ai hi;have Z3:=hi.length;have P8:∀ H:Hp,Only H->SqL K H a (ns.map V.int)->HOk P w H s₁.heap->(∀ b,H b≠ae->b=a)->(H a≠ae->K.lookup a=ae) ->
   nQ (aO P w) yF (.call (.ref fa) ⟨[.ref a],[]⟩) (λr s'=>r=.ok (.ret (.bool af))/\OldK s₁.heap s'.heap/\s'.os=s₁.os/\sZ s'.gens) s₁:=by
  intro H hO hS hok hA hK;have base_of:∀ {b:aD} {o:aZ},s₁.heap.get? b=aa o->H b=ae->(qJ s₁.heap H).get? b=aa o:=λe n=>We e n
  have P3:∀ {b:aD} {o:aZ} {es:Array rQ} {ep:Nat},s₁.heap.get? b=aa o->o.data=.dict es ep->H b=ae:=λ{b o es ep} e d=>by
   cases q:H b with
   |none=>rfl
   |some u=>
    have e':=hA b (by rw[q];simp)
    subst e';rw[ha] at e;cases e;have d':=d;cases d'
  have W3:∀ {b:aD} {m:aC->Option aE},s₁.heap.Ns b m->(qJ s₁.heap H).Ns b m:=λ{b m} ⟨o,es,ep,e,d,r⟩=>⟨o,es,ep,base_of e (P3 e d),d,r⟩
  have hKb:K.In (qJ s₁.heap H):=λb o e=>base_of (KX b o e) (by
   cases q:H b with
   |none=>rfl
   |some u=>
    have e':=hA b (by rw[q];simp)
    subst e';rw[hK (by rw[q];simp)] at e;cases e)
  have hM:Mod K mg (qJ s₁.heap H):=⟨hKb,W3 W2,⟨mb,W3 hb,P6⟩,let ⟨mc,h1,h2⟩:=Z1;⟨mc,W3 h1,h2⟩⟩;have e0:Env0 P w K mg (qJ s₁.heap H) yF [] s₁ H:=⟨rfl,hM,λb o e=>Rq e,Nat.le_of_eq (F1 _ _),trivial,λb hb=>absurd (show b∈([]:List aD) from hb) (by simp),hok,.of_eq hg⟩
  refine CM ((F _ hKb (W3 W2)).run yF [] s₁ H ⟨[.ref a],[]⟩ [.ref a] [.ref a] _ _ hr e0 (P7 s₁ (.ref a)) (.cons rfl .nil) (yq H hO hS)) λr s' h=>?_
  cases r with
  |error e=>exact(Z2 H e s' h).elim
  |ok fl=>
   cases fl with
   |next=>exact rP h
   |brk=>exact rP h
   |cont=>exact rP h
   |ret u=>
    obtain⟨v,H',os,bare,un,xz,r',q⟩:=h;have q':=q;subst q';obtain rfl:u=Value.bool af:=r';refine⟨rfl,OldK.of_keep λb o e=>?_,os,bare⟩
    cases q:H b with
    |none=>exact un.keep b o e q (by intro z;exact absurd (show b∈([]:List aD) from z) (by simp)) (by simp)
    |some u=>
     rcases hO b with z|⟨ob,xs,z⟩
     .rw[q] at z;cases z
     .have z2:=un.frzs b ob _ z;obtain⟨e1,_⟩:=hok b _ z;obtain⟨e2,_⟩:=xz b _ z2;rw[e] at e1;cases e1;exact e2
 cases hk:K.lookup a with
 |some o=>
  have e:=KX a o hk;rw[ha] at e;cases e;refine P8 (λ_=>ae) (λ_=>.inl rfl) (.inr ⟨_,vs.toArray,_,hk,rfl,rfl,rfl,by rw[eA,Z3];exact hl,by simpa using rv⟩) (λb u z=>by have z':(ae:Option HO)=aa u:=z;cases z') (λb z=>absurd rfl z) λz=>absurd rfl z
 |none=>
  refine P8 (λb=>if b=a then aa (.frz { cls:=.type "list",data:=.seq vs.toArray } (.lst (ns.map V.int))) else ae) (λb=>?_) (.inl (.inr ⟨{ cls:=.type "list",data:=.seq vs.toArray },if_pos rfl⟩)) (λb u z=>?_) (λb z=>?_) λ_=>hk
  .by_cases hb:b=a
   .exact .inr ⟨_,_,if_pos hb⟩
   .exact .inl (if_neg hb)
  .by_cases hb:b=a
   .have z':=(if_pos hb).symm.trans z;cases z';subst hb;exact⟨ha,by rw[cJ];exact hl,vs,_,rv,ha⟩
   .have z':=(if_neg hb).symm.trans z;cases z'
  .by_cases hb:b=a
   .exact hb
   .exact absurd (if_neg hb) z
def nB (s:bZ):Arguments:=match s with
 |.FunctionDef _ a _ _ _ _ _ _ _ _=>a
 |_=>{ posonlyargs:=[],args:=[],vararg:=ae,kwonlyargs:=[],kw_defaults:=[],kwarg:=ae,defaults:=[] }
def lE (s:bZ):List bZ:=match s with
 |.FunctionDef _ _ b _ _ _ _ _ _ _=>b
 |_=>[]
def bO (s:bZ):jH:=match s with
 |.FunctionDef _ _ _ _ _ _ sc _ _ _=>sc
 |_=>{ kind:=.function,names:=[],isGenerator:=ag,isCoroutine:=ag }
abbrev cv:xc:=λ_ _ _ _ _ _=>False
abbrev E0:XK:=λ_ _ _=>False
theorem Kl:Passes cv X E0:=λ_ _ _ _ _ _ _ h=>h.elim
structure Fun (K:aK)(x qual:aC)(st:bZ)(f:aD)(fd:iM):Prop where
 ex:∃ (oc:aE) (od:Option aD) (kV gv pm:aE) (an:Option aD) (bh ct:aE) (yp:Array (Option aE)),
  fd=mS x qual (nB st) (lE st) (bO st) .none kV gv pm an bh ct/\K.lookup f=aa ⟨oc,od,.func fd,yp⟩/\CO K bh qual=af
 kp:vD K (.ref f)=af
section
variable {P:bT}{base:aQ}
theorem Fun.ok{fd:iM}{k:Nat}(F:Fun K x qual st f fd)(S:FnScope N ps (bO st))(len:∀ vs H Q E,sp vs H Q E->vs.length=ps.length)
  (wf:∀ (bh:aE) (A:cB) (outer:List Env) (s:aH) (H:Hp) (vs:List V) (Q:VK) (E:XK),Room k (A.deeper (rK qual (bO st) s.heap.objs.size f bh))->sp vs H Q E ->
   ∃ t,PSs (tP cv P w K mg base N qual (bO st) f bh A outer s H E).nox (lE st) t/\t { nx:=λ_ H'=>Q .non H',rt:=Q } (start N vs) H):FnOk P w K mg base cv (k+1) f fd ps sp:=by
 obtain⟨oc,od,kV,gv,pm,an,bh,ct,yp,rfl,lk,ft⟩:=F.ex;refine Lm lk ft S len λA outer s H vs Q E hr yq=>?_
 obtain⟨t,h,q⟩:=wf bh A outer s H vs Q E hr yq;exact⟨t,h.nox,q⟩
theorem Fun.binds{fd:iM}(F:Fun K x qual st f fd)
  (h:∀ (kV gv pm:aE) (an:Option aD) (bh ct:aE) (us:List aE),us.length=ps.length->CN (mS x qual (nB st) (lE st) (bO st) .none kV gv pm an bh ct) ⟨us,[]⟩=pure (ps.zip us)):Binds K fd ps []:=by
 obtain⟨oc,od,kV,gv,pm,an,bh,ct,yp,rfl,lk,ft⟩:=F.ex;exact .all (h kV gv pm an bh ct)
theorem UR{oc:aE}{od an:Option aD}{yp:Array (Option aE)}{kV gv pm bh ct:aE}(l:K.lookup f=aa ⟨oc,od,.func (mS x qual (nB st) (lE st) (bO st) .none kV gv pm an bh ct),yp⟩)
  (c:CO K bh qual=af) (k:vD K (.ref f)=af):Fun K x qual st f (mS x qual (nB st) (lE st) (bO st) .none kV gv pm an bh ct):=⟨⟨oc,od,kV,gv,pm,an,bh,ct,yp,rfl,l,c⟩,k⟩
end
theorem dM{k:Nat}(hr:Room k A):A.units+40<cLine:=QY (Nat.add_le_add_left (by decide:40<=64) _) hr.units
theorem A2:Adw X (.builtin "len") (λxs H Q=>∃ a ep kvs,xs=[V.ref a]/\H a=aa (.dK ep kvs)/\Q (.int kvs.length) H):=by
 rw[6];obtain⟨a,ep,kvs,rfl,ha,q⟩:=h;rw[12];exact Km I (.inl ha) λt s' I'=>⟨.int kvs.length,H,I',⟨t,rfl⟩,q⟩
theorem oU {A B:Prop}(h:B):if ag=af then A else B:=by
 rw[if_neg lX];exact h
theorem oR {A B:Prop}(h:A):if af=af then A else B:=by
 rw[if_pos rfl];exact h
section
variable {prog:bT}{R:Result->aH->Prop}
theorem Zp {jx:aR}{scope:jH}{it aj:aE}(I:Nat->aH->Prop)
  (qw:∀ n s,I n s->aM (aO prog w) A (gL it) (λr s₁=>match r with
   |none=>R (.ok .next) s₁
   | some v=>aM (aO prog w) A (QK jx it v) (λ_ s₂=>aM (aO prog w) A (lO jx env v) (λ_ s₃=>
     aM (aO prog w) A (forIn li af λc r=>if r=af then do let ok <-isTrue c env (bM c env);pure (DK ok) else pure (DK r)) (λok s₄=>
      if ok=af then aM (aO prog w) A (bM nj env) (λx s₅=>
       aM (aO prog w) A (call (.builtin "list.append") [aj,x]) (λ_ s₆=>∃ m,m<n/\I m s₆) (λ_ _=>False) s₅) (λ_ _=>False) s₄
      else ∃ m,m<n/\I m s₄) (λ_ _=>False) s₃) (λ_ _=>False) s₂) (λ_ _=>False) s₁) (λ_ _=>False) s)
  (n:Nat) (h:I n s):nQ (aO prog w) A (.compLoop (.ListComp nj [⟨jx,bu,li,0⟩] scope pos) 0 it aj env) R s:=by
 refine codeAny_loop rfl I (λn s hI=>?_) n h
 refine wpAny_noted ?_;rw[compTurn_list];refine aG (wpAny_standAt (aG (mO (qw n s hI) (λr s₁ h₁=>?_) λ_ _ h'=>h'.elim)))
 cases r with
 |none=>exact aN h₁
 |some v=>
  refine aG (mO h₁ (λ_ s₂ h₂=>?_) λ_ _ h'=>h'.elim)
  refine aG (mO h₂ (λ_ s₃ h₃=>aG (mO h₃ (λok s₄ h₄=>?_) λ_ _ h'=>h'.elim)) λ_ _ h'=>h'.elim)
  cases ok with
  |false=>exact aN ⟨rfl,h₄⟩
  |true=>
   exact aG (aG (mO h₄ (λx s₅ h₅=>aG (mO h₅ (λ_ s₆ h₆=>aN (aN ⟨rfl,h₆⟩)) λ_ _ h'=>h'.elim)) λ_ _ h'=>h'.elim))
end
theorem cellOf_eq{n:aC}{c:aD}(h:env.cells.lookup n=aa c):cellOf env n=pure c:=by
 unfold cellOf;rw[h]
def eZ (env:Env):List (aC×nW)->List (aC×aD)->List (aC×aD)
 |[],cs=>cs
 |(n,k)::r,cs=>eZ env r (if (k==gF)=af then(match env.cells.lookup n with|some c=>(n,c)::cs|none=>cs) else cs)
theorem Cz(h:∀ n,(n,gF)∈sc.names->∃ c,env.cells.lookup n=aa c):closureFor sc env=pure (eZ env sc.names []):=by
 unfold closureFor;generalize sc.names=l at h;have go:∀ (l:List (aC×nW)) (cs:List (aC×aD)),(∀ n,(n,gF)∈l->∃ c,env.cells.lookup n=aa c) ->
   (forIn l cs (λ(x:aC×nW) (r:List (aC×aD))=>if (x.2==gF)=af then(do let c <-cellOf env x.1;pure (DK ((x.1,c)::r))) else pure (DK r)):Sem (List (aC×aD)))=pure (eZ env l cs):=by
  intro l;induction l with
  |nil=>intro cs _;rfl
  |cons p r ih=>
   intro cs hl;obtain⟨n,k⟩:=p;rw[Ib];have hr:∀ n,(n,gF)∈r->∃ c,env.cells.lookup n=aa c:=λn hn=>hl n (bL _ hn)
   cases hk:(k==gF) with
   |true=>
    have ek:k=gF:=by simpa using hk
    subst ek;obtain⟨c,hc⟩:=hl n bF;have e1:eZ env ((n,gF)::r) cs=eZ env r ((n,c)::cs):=by
     show eZ env r (if (gF==gF)=af then(match env.cells.lookup n with|some c=>(n,c)::cs|none=>cs) else cs)=_
     rw[hc];rfl
    rw[e1];simp only[cellOf_eq hc,hk,if_true];exact ih ((n,c)::cs) hr
   |false=>
    have e1:eZ env ((n,k)::r) cs=eZ env r cs:=by
     show eZ env r (if (k==gF)=af then(match env.cells.lookup n with|some c=>(n,c)::cs|none=>cs) else cs)=_
     rw[hk];rfl
    rw[e1];simp only[hk,iN,if_false];exact ih cs hr
 have e:=go l [] h;simp only[e]
 rfl
theorem NC:∀ (l:List (aC×nW)) (cs:List (aC×aD)),(∀ x c,cs.lookup x=aa c->env.cells.lookup x=aa c)->∀ x c,(eZ env l cs).lookup x=aa c->env.cells.lookup x=aa c
 |[],cs,h,x,c,e=>h x c e
 |(n,k)::r,cs,h,x,c,e=>by
  refine NC r _ ?_ x c e;intro y d q;by_cases hk:(k==gF)=af
  .rw[if_pos hk] at q;cases hc:env.cells.lookup n with
   |none=>rw[hc] at q;exact h y d q
   |some a=>
    rw[hc] at q;by_cases hy:(y==n)=af
    .simp only[pD,hy] at q;have:y=n:=by simpa using hy
     rw[this,hc];exact q
    .have qi:(y==n)=ag:=by simpa using hy
     simp only[pD,qi] at q;exact h y d q
  .rw[if_neg hk] at q;exact h y d q
theorem Ce{c:aD}(hx:env.cells.lookup x=aa c):∀ (l:List (aC×nW)) (cs:List (aC×aD)),cs.lookup x=aa c->(eZ env l cs).lookup x=aa c
 |[],cs,h=>h
 |(n,k)::r,cs,h=>by
  refine Ce hx r _ ?_;by_cases hk:(k==gF)=af
  .rw[if_pos hk];cases hc:env.cells.lookup n with
   |none=>exact h
   |some a=>
    by_cases hy:(x==n)=af
    .have:x=n:=by simpa using hy
     rw[20];rw[hx] at hc;cases hc;simp[pD]
    .have qi:(x==n)=ag:=by simpa using hy
     simp only[pD,qi];exact h
  .rw[if_neg hk];exact h
theorem NI{c:aD}(hx:env.cells.lookup x=aa c):∀ (l:List (aC×nW)) (cs:List (aC×aD)),(x,gF)∈l->(eZ env l cs).lookup x=aa c
 |[],cs,h=>by simp at h
 |(n,k)::r,cs,h=>by
  rcases cM.1 h with e|h
  .cases e;refine Ce hx r _ ?_;rw[if_pos (by rfl),hx]
   simp[pD]
  .exact NI hx r _ h
theorem Ci(x:aC):(yE sc env).names.lookup x=(sc.names.lookup x).map λk=>if (k==gF&&env.scope.kind==.function&&env.kindOf x==aa .cell)=af then NameKind.cell else k:=by
 unfold yE;induction sc.names with
 |nil=>rfl
 |cons p r ih=>
  obtain⟨n,k⟩:=p;show List.lookup x ((if (k==gF&&env.scope.kind==.function&&env.kindOf n==aa .cell)=af then(n,NameKind.cell) else(n,k))::List.map _ r)=_
  by_cases hy:(x==n)=af
  .have:x=n:=by simpa using hy
   rw[20];by_cases hc:(k==gF&&env.scope.kind==.function&&env.kindOf x==aa .cell)=af
   .rw[if_pos hc];simp only[pD,hy,pW];rw[if_pos hc]
   .rw[if_neg hc];simp only[pD,hy,pW];rw[if_neg hc]
  .have qi:(x==n)=ag:=by simpa using hy
   have e2:List.lookup x ((n,k)::r)=List.lookup x r:=by simp only[pD,qi]
   rw[e2];by_cases hc:(k==gF&&env.scope.kind==.function&&env.kindOf n==aa .cell)=af
   .rw[if_pos hc];simp only[pD,qi];exact ih
   .rw[if_neg hc];simp only[pD,qi];exact ih
theorem lookup_mem {α:Type}{v:α}:∀ {l:List (aC×α)},l.lookup x=aa v->(x,v)∈l
 |[],h=>by simp at h
 |(n,k)::r,h=>by
  by_cases hy:(x==n)=af
  .have:x=n:=by simpa using hy
   rw[20];simp[pD] at h;subst h;exact bF
  .have qi:(x==n)=ag:=by simpa using hy
   simp only[pD,qi] at h;exact bL _ (lookup_mem h)
def iS (X:Cx)(N:List aC)(sc:jH)(cl:List (aC×aD))(C:aD)(s₀:aH)(H₀:Hp)(ex:List aD):Cx:=
 { X with N:=N,s₀:=s₀,H₀:=H₀,env:=compEnvC sc cl C X.env,outer:=X.stack,ex:=ex,fn:=λ_=>ag,pn:=[],xe:=λ_ _=>False }
structure CompScope (X:Cx)(N:List aC)(cap:List (Option Nat))(sc:jH):Prop where
 kind:sc.kind=.function
 nocell:∀ y∈sc.names,y.2 ≠ .cell
 nm:∀ y∈sc.names,y.2=.local->sc.names.lookup y.1=aa .local
 fre:∀ y∈sc.names,y.2=.free->X.env.scope.names.lookup y.1=aa .cell\/X.env.scope.names.lookup y.1=aa .free
 len:cap.length=N.length
 cap:∀ (i j:Nat),cap[i]?=aa (aa j)->∃ x,N[i]?=aa x/\X.N[j]?=aa x/\sc.names.lookup x=aa .free
def vO (cap:List (Option Nat))(Z:St):St:=cap.map λo=>o.bind λj=>(Z[j]?).join
def vP (X:Cx)(li:List aR)(t:TT):Prop:=
 ∀ (ad:List (aD×aZ)) (s:aH) (Z:St) (H:Hp) (Q:Bool->Hp->Prop),Inv X ad Z H s->t Z H Q ->
  aM (aO X.prog X.w) X.A (forIn li af λc r=>if r=af then do let ok <-isTrue c X.env (bM c X.env);pure (DK ok) else pure (DK r)) (TP X ad Z Q) X.xe s
def Ly:TT:=λ_ H Q=>Q af H
theorem Sn:vP X [] Ly:=λ_ _ _ H _ I h=>wpAny_tests_nil ⟨H,I,h⟩
theorem Re{t:TT}(h:PT X c t):vP X [c] t:=λad s Z H Q I hw=>wpAny_tests_one (h ad s Z H Q I hw)
def SQ (cap:List (Option Nat))(J:It)(g:TG)(tc:TT)(te:TE)(Z:St)(H1:Hp)(Q:VK):Prop:=∀ D,H1 D=ae ->
 ∃ W:Nat->Nat->List V->St->Hp->Prop,(∃ m,W 0 m [] (vO cap Z) (upd H1 D (.lst []))) /\
  ∀ i m ys σ' H',W i m ys σ' H'->H' D=aa (.lst ys)/\((J.stop i H'/\Q (.ref D) H') \/
   (J.go i H'/\ys.length<sizeLine/\∃ M:List V->St->Hp->Prop,(∀ zs σ2 H2,M zs σ2 H2->∃ m',m'<m/\W (i+1) m' zs σ2 H2)/\∀ x H2,J.yld i H' x H2->g x σ' H2 λσ3 H3=>tc σ3 H3 λb H4=>
    if b=af then te σ3 H4 λy H5=>H5 D=aa (.lst ys)/\M (ys++[y]) σ3 (upd H5 D (.lst (ys++[y]))) else M ys σ3 H4))
def tLC (cap:List (Option Nat))(wi:TI)(g:TG)(tc:TT)(te:TE):TE:=λZ H Q=>wi Z H λJ H1=>SQ cap J g tc te Z H1 Q
theorem CompScope.cells (S:CompScope X N cap sc)(ok:X.Ok):∀ n,(n,gF)∈sc.names->∃ c,X.env.cells.lookup n=aa c:=λn hn=>ok.has n (S.fre _ hn rfl)
theorem E5 (S:CompScope X N cap sc){fp:List aD}(I:Inv X ad Z H s)(hf:∀ b∈fp,jW X ad H b)(hl:∀ b∈fp,b<s.heap.objs.size) :
  (iS X N sc (eZ X.env sc.names []) s.heap.objs.size s H fp).Ok:=by
 have sub:∀ x c,(eZ X.env sc.names []).lookup x=aa c->X.env.cells.lookup x=aa c:=NC sc.names [] (λx c e=>by simp at e)
 refine⟨I.ok.mod,?_,I.ok.glob,I.ok.blt,bE _,?_,?_,?_,I.ok.hd,I.ok.frames,.inl rfl,?_,I.bs,dG I.ok.bsz I.sz,?_,?_,I.stack,I.stkFree⟩
 .exact S.kind
 .intro x y c h1 h2;exact I.ok.inj x y c (sub x c h1) (sub y c h2)
 .intro x hx;have hk:(yE sc X.env).names.lookup x=aa .cell\/(yE sc X.env).names.lookup x=aa .free:=hx;have om:sc.names.lookup x=aa .free:=by
   rw[Ci] at hk;cases e:sc.names.lookup x with
   |none=>rw[e] at hk;simp at hk
   |some k=>
    rw[e] at hk;have hm:=lookup_mem e;have nc:=S.nocell _ hm;simp only[pW,HR] at hk;by_cases hc:(k==gF&&X.env.scope.kind==.function&&X.env.kindOf x==aa .cell)=af
    .have:(k==gF)=af:=by
      simp only[yU] at hc;exact hc.1.1
     rw[show k=gF by simpa using this]
    .rw[if_neg hc] at hk;rcases hk with q|q
     .exact absurd q nc
     .rw[q]
  obtain⟨c,hc⟩:=S.cells I.ok x (lookup_mem om);exact⟨c,NI hc _ _ (lookup_mem om)⟩
 .intro x c h1 _;exact absurd (show ag=af from h1) lX
 .intro b hb;refine⟨cI (hl b hb),λx c e=>(hf b hb).2.2.2.2.1 x c (sub x c e)⟩
 .intro b o e hb;rcases(hf b hb).2.2.2.1 with z|z
  .exact I.ok.noex b o e z
  .exact absurd (iV (bU e) (dG I.ok.bsz z)) (lQ _)
 .intro b hb hz;obtain⟨_,h1,h2,_⟩:=hf b hb;rcases cM.1 (I.stkSub b hz) with e|e
  .exact h1 e
  .exact h2 e
theorem Vl (S:CompScope X N cap sc){fp:List aD}{h':aQ}{tk:Nat}(I:Inv X ad Z H s)(hf:∀ b∈fp,jW X ad H b)(hl:∀ b∈fp,b<s.heap.objs.size)
  (hn:h'.Ns s.heap.objs.size λ_=>ae) (hk:∀ b o,s.heap.get? b=aa o->h'.get? b=aa o) :
  Inv (iS X N sc (eZ X.env sc.names []) s.heap.objs.size s H fp) [] (vO cap Z) H { s with heap:=h',toks:=tk }:=by
 have sub:∀ x c,(eZ X.env sc.names []).lookup x=aa c->X.env.cells.lookup x=aa c:=NC sc.names [] (λx c e=>by simp at e)
 have fr:H s.heap.objs.size=ae:=I.hok.fresh (bE _);refine⟨E5 S I hf hl,rfl,I.bare,Un.kept hk,⟨_,hn,λi x v e1 e2 e3=>?_⟩,λx c e=>?_,fr,λx c e=>I.freeC x c (sub x c e),λp hp=>by simp[iS] at hp,I.hok.kept hk,?_⟩
 .have qj:(cap.map λo=>o.bind λj=>(Z[j]?).join)[i]?=aa (aa v):=e2
  rw[eW] at qj;cases hc:cap[i]? with
  |none=>rw[hc] at qj;simp at qj
  |some o=>
   rw[hc] at qj;simp only[pW,HR] at qj;cases o with
   |none=>simp at qj
   |some j=>
    have qj:(Z[j]?).join=aa v:=qj;have ej:Z[j]?=aa (aa v):=by
     cases q:Z[j]? with
     |none=>rw[q] at qj;simp at qj
     |some z=>rw[q] at qj;simp at qj;rw[qj]
    obtain⟨y,n1,n2,fr1⟩:=S.cap i j hc;have exy:x=y:=fF (e1.symm.trans n1);subst exy;have hmem:=lookup_mem fr1;have tp:=S.fre _ hmem rfl;obtain⟨m,_,hlk⟩:=I.loc;obtain⟨u,r,l⟩:=hlk j x v n2 ej (.inr tp);refine⟨u,r,.inr ⟨?_,?_⟩⟩
    .show(yE sc X.env).names.lookup x=aa .cell\/(yE sc X.env).names.lookup x=aa .free;rw[Ci,fr1];simp only[pW,HR];by_cases hc:(gF==gF&&X.env.scope.kind==.function&&X.env.kindOf x==aa .cell)=af
     .exact .inl (if_pos hc)
     .exact .inr (if_neg hc)
    .rcases l with⟨k1,_⟩|⟨_,c,vk,tm⟩
     .exfalso;have k1':X.env.scope.names.lookup x=aa .local:=k1;rcases tp with q|q
      .rw[k1'] at q;cases q
      .rw[k1'] at q;cases q
     .obtain⟨oc,h1,h2⟩:=tm;exact⟨c,NI vk _ _ hmem,oc,hk _ _ h1,h2⟩
 .obtain⟨v,oc,h1,h2⟩:=I.cell x c (sub x c e);exact⟨v,oc,hk _ _ h1,h2⟩
 .show(cap.map _).length=N.length;rw[cJ,S.len]
theorem comp_back {fp:List aD}{cl:List (aC×aD)}{σ':St}{s':aH}{pl:List (aD×aZ)}(I:Inv X ad Z H s)(hf:∀ b∈fp,jW X ad H b)
  (I':Inv (iS X N sc cl s.heap.objs.size s H fp) pl σ' H' s'):Inv X ad Z H' s':=
 I.call' I'.os (show Un (vv X.stack) fp H H' s.heap s'.heap from I'.base) I'.hok I'.bare λb hb=>⟨(hf b hb).2.2.2.1,(hf b hb).2.1,(hf b hb).2.2.2.2.1,(hf b hb).2.2.2.2.2⟩
section
variable {wi:TI}{g:TG}{tc:TT}{te:TE}
def Block (X:Cx)(N:List aC)(sc:jH)(tg nj:aR)(li:List aR)(g:TG)(tc:TT)(te:TE):Prop:=
 ∀ (cl:List (aC×aD)) (C:aD) (s₀:aH) (H₀:Hp) (ex:List aD),PG (iS X N sc cl C s₀ H₀ ex) tg g/\vP (iS X N sc cl C s₀ H₀ ex) li tc/\PE (iS X N sc cl C s₀ H₀ ex) nj te
theorem Ft{RR:aE->aD->Result->aH->Prop}{E:aE->aH->Prop}(hc:X.calm=af)(S:CompScope X N cap sc)(hb:Block X N sc tg nj li g tc te)
  {it:aD} {fp:List aD} {tn:Nat->aQ->Prop} {J:It} {Q:VK} (I:Inv X ad Z H s) (T:Turn X.prog X.w X.K tg J fp it tn) (st:tn 0 s.heap) (hf:∀ b∈fp,jW X ad H b)
  (q:SQ cap J g tc te Z H Q)
  (hRR:∀ (D:aD) (s₀:aH) (H₀:Hp) (σ':St) (H':Hp) (s':aH),Inv X ad Z H₀ s₀->(∀ b∈fp,jW X ad H₀ b)->Inv (iS X N sc (eZ X.env sc.names []) s₀.heap.objs.size s₀ H₀ fp) [] σ' H' s'->Q (.ref D) H' ->
   RR (.ref D) s₀.heap.objs.size (.ok .next) s') :
  aM (aO X.prog X.w) X.A (newList []) (λaj s₃=>aM (aO X.prog X.w) X.A (newFunctionEnv sc X.env.globals (eZ X.env sc.names []) [] X.env.qual ae .none (aa X.env)) (λP9 s₄=>
   nQ (aO X.prog X.w) X.A (.compStart (.ListComp nj [⟨tg,bu,li,0⟩] sc pos) 0 (.ref it) aj { P9 with scope:=yE sc X.env }) (RR aj P9.locals) s₄) E s₃) E s:=by
 have hl:∀ b∈fp,b<s.heap.objs.size:=λb hb=>by
  obtain⟨o,e,_⟩:=T.obj 0 _ st b hb;exact bU e
 refine iI (wpAny_newFunctionEnv S.nocell (by intro y hy;simp at hy) (λh₁ re rg=>?_) S.kind)
 dsimp only at re rg ⊢;have I0:Inv X ad Z (upd H s.heap.objs.size (.lst [])) { s with heap:=s.heap.push { cls:=.type "list",data:=.seq ([]:List aE).toArray },toks:=s.toks }:=I.lnew (ys:=[]) .nil (by simp)
 obtain⟨W,⟨m0,w0⟩,qw⟩:=q s.heap.objs.size I.fresh;generalize W4:({ s with heap:=s.heap.push { cls:=.type "list",data:=.seq ([]:List aE).toArray },toks:=s.toks }:aH)=s0 at I0;have hh:s.heap.push { cls:=.type "list",dict:=ae,data:=.seq ([]:List aE).toArray }=s0.heap:=by rw[<-W4]
 have ht0:s0.toks=s.toks:=by rw[<-W4]
 have hg0:s0.gens=s.gens/\s0.drawn=s.drawn/\s0.os=s.os:=by rw[<-W4];exact⟨rfl,rfl,rfl⟩
 rw[hh] at re rg ⊢;have Q0:∀ b o,s.heap.get? b=aa o->s0.heap.get? b=aa o:=λb o e=>by rw[<-hh];exact bN _ e
 have Q1:∀ b o,s0.heap.get? b=aa o->h₁.get? b=aa o:=λb o e=>rg.extBut b o (cI (bU e)) (bN _ e)
 have hl0:∀ b∈fp,b<s0.heap.objs.size:=λb hb=>by
  obtain⟨o,e,_⟩:=T.obj 0 _ st b hb;exact bU (Q0 b o e)
 have Z4:∀ b∈fp,jW X ad (upd H s.heap.objs.size (.lst [])) b:=λb hb=>by
  refine⟨?_,(hf b hb).2⟩;rw[cY (cI (hl b hb))];exact(hf b hb).1
 have I1:Inv (iS X N sc (eZ X.env sc.names []) s0.heap.objs.size s0 (upd H s.heap.objs.size (.lst [])) fp) [] (vO cap Z) (upd H s.heap.objs.size (.lst [])) { s0 with heap:=h₁,toks:=s.toks+0 }:=
  Vl S I0 Z4 hl0 re Q1
 obtain⟨pg,pf,pe⟩:=hb (eZ X.env sc.names []) s0.heap.objs.size s0 (upd H s.heap.objs.size (.lst [])) fp;have zq:tn 0 h₁:=T.keep _ _ _ st λb hb o e=>Q1 b o (Q0 b o e)
 have qy:∀ {H':Hp},(∀ b∈fp,H' b=ae)->∀ b∈fp,jW (iS X N sc (eZ X.env sc.names []) s0.heap.objs.size s0 (upd H s.heap.objs.size (.lst [])) fp) [] H' b:=λhn b hb=>
  ⟨hn b hb,(I1.ok.exf b hb).1,I1.ok.exfs b hb,.inl hb,(I1.ok.exf b hb).2,λp hp=>by simp[iS] at hp⟩
 have Q2:∀ s3:aH,s3={ s0 with heap:=h₁,toks:=s.toks+0 } ->
   nQ (aO X.prog X.w) X.A (.compLoop (.ListComp nj [⟨tg,bu,li,0⟩] sc pos) 0 (.ref it) (.ref s.heap.objs.size) (compEnvC sc (eZ X.env sc.names []) s0.heap.objs.size X.env)) (RR (.ref s.heap.objs.size) s0.heap.objs.size) s3:=by
  rintro s3 rfl;refine Zp (λn s'=>∃ i ys σ' H',Inv (iS X N sc (eZ X.env sc.names []) s0.heap.objs.size s0 (upd H s.heap.objs.size (.lst [])) fp) [] σ' H' s'/\tn i s'.heap/\(∀ b∈fp,H' b=ae)/\W i n ys σ' H') ?_ m0
   ⟨0,[],vO cap Z,_,I1,zq,λb hb=>(Z4 b hb).1,w0⟩
  rintro n s3 ⟨i,ys,σ3,H3,I3,O9,Ps,w3⟩;obtain⟨hD,h3⟩:=qw i n ys σ3 H3 w3;rcases h3 with⟨stop,qn⟩|⟨go,ay,M,hM,step⟩
  .refine bo (T.done (iS X N sc (eZ X.env sc.names []) s0.heap.objs.size s0 (upd H s.heap.objs.size (.lst [])) fp) rfl rfl rfl hc i [] s3 σ3 H3 (λ_ _=>False) I3 (qy Ps) O9 stop) λr s4 gh=>?_
   obtain⟨hr,I4⟩:=gh;subst hr;exact hRR _ s0 _ σ3 H3 s4 I0 Z4 I4 qn
  .refine bo (T.item (iS X N sc (eZ X.env sc.names []) s0.heap.objs.size s0 (upd H s.heap.objs.size (.lst [])) fp) rfl rfl rfl hc i [] s3 σ3 H3 (λ_ _=>False) I3 (qy Ps) O9 go) λr s4 gh=>?_
   obtain⟨u,hr,h4⟩:=gh;subst hr;refine bo h4 λ_ s5 gh=>?_
   obtain⟨x,H5,I5,r5,y5,zn,Y'⟩:=gh;have ZB:=I5.pinned (qy Y') (T.obj _ _ zn);refine bo (pg _ s5 σ3 H5 x u _ ZB r5 (step x H5 y5)) λ_ s6 gh=>?_
   obtain⟨σ6,H6,I6,q6⟩:=gh;refine bo (pf _ s6 σ6 H6 _ I6 q6) λb s7 gh=>?_
   obtain⟨H7,I7,q7⟩:=gh;have again:∀ {s8:aH} {H8:Hp} {zs:List V},Inv (iS X N sc (eZ X.env sc.names []) s0.heap.objs.size s0 (upd H s.heap.objs.size (.lst [])) fp) ([]++zV fp s5.heap) σ6 H8 s8->M zs σ6 H8 ->
     ∃ m,m<n/\∃ i ys σ' H',Inv (iS X N sc (eZ X.env sc.names []) s0.heap.objs.size s0 (upd H s.heap.objs.size (.lst [])) fp) [] σ' H' s8/\tn i s8.heap/\(∀ b∈fp,H' b=ae)/\W i m ys σ' H':=λ{s8 H8 zs} I8 w8=>by
    obtain⟨m',hm,w8⟩:=hM _ _ _ w8;refine⟨m',hm,i+1,zs,σ6,H8,I8.unpinned,T.keep _ _ _ zn λb hb o e=>(I8.pin (b,o) (pZ _ (pZ _ (GL hb e)))).1,λb hb=>?_,w8⟩
    obtain⟨o,e,d⟩:=T.obj _ _ zn b hb;exact(I8.pin (b,o) (pZ _ (pZ _ (GL hb e)))).2.1
   cases b with
   |false=>
    rw[if_neg lX] at q7 ⊢;exact again I7 q7
   |true=>
    rw[if_pos rfl] at q7 ⊢;refine bo (pe _ s7 σ6 H7 _ I7 q7) λv s8 gh=>?_
    obtain⟨y,H8,I8,r8,hD8,w8⟩:=gh;refine bo (MO _ s8 σ6 H8 (.ref s.heap.objs.size) [y] (.ref s.heap.objs.size) [v] (λ_ H9=>H9=upd H8 s.heap.objs.size (.lst (ys++[y]))) I8 rfl (.cons r8 .nil) ⟨_,ys,y,rfl,rfl,hD8,ay,rfl⟩) λ_ s9 gh=>?_
    obtain⟨_,H9,I9,_,e9⟩:=gh;subst e9;exact again I9 w8
 have e3:({ s with heap:=h₁,toks:=s.toks+([]:List (aC×aE)).length }:aH)={ s0 with heap:=h₁,toks:=s.toks+0 }:=by
  rw[<-W4];rfl
 have fin:=codeAny_compStart_list (Q2 _ rfl) (T.self X.A 0 _ _ _ zq (Q2 _ rfl));rw[<-e3] at fin;exact fin
theorem Kx (hc:X.calm=af)(S:CompScope X N cap sc)(hi:PI X tg bu wi)(hb:Block X N sc tg nj li g tc te)(hs:∀ x,uW bu X.env x=pure x:=by intro _;rfl) :
  PE X (.ListComp nj [⟨tg,bu,li,0⟩] sc pos) (tLC cap wi g tc te):=by
 rw[13];rw[eval_ListComp];refine wpAny_comprehension_free rfl hs (Cz (S.cells I.ok)) S.kind S.nm (bo (hi ad s Z H _ I h) λv s1 h1=>bo h1 λWP s2 h2=>?_)
 obtain⟨it,fp,tn,J,H2,e,I2,T,vh,f2,q2⟩:=h2;subst e;refine Ft hc S hb I2 T vh f2 q2 ?_;intro D s₀ H₀ σ' H' s' I0 f0 I' qD;obtain⟨m,hn,_⟩:=id I'.loc;have IX:=comp_back I0 f0 I';refine⟨m,hn,λh' zr=>⟨.ref D,H',?_,rfl,qD⟩⟩
 exact IX.turned (λb o hb e=>(zr.2 b hb).trans e) I'.free (kG I0.lt) (.inr I0.sz) (λx c e z=>by
  obtain⟨v,oc,h1,_⟩:=I0.cell x c e;exact absurd (bU h1) (by rw[z];exact lQ _)) λp hp z=>by
   have h1:=(I0.pin p hp).1;exact absurd (bU h1) (by rw[z];exact lQ _)
theorem Wi(hc:X.calm=af)(hN:X.N.Nodup)(yr:X.N[i]?=aa x)(hx:kK X.env.scope x)(S:CompScope X N cap sc)(hi:PI X tg bu wi)(hb:Block X N sc tg nj li g tc te)
  (rh:mQ (.ListComp nj [⟨tg,bu,li,0⟩] sc pos) (aa (.Name x px)) lj.line X.env=pure af:=by rfl)
  (hs:∀ x,uW bu X.env x=pure x:=by intro _;rfl) (hf:X.fn x=af\/X.env.scope.names.lookup x=aa .local:=by first|exact .inl rfl|exact .inr rfl|assumption) :
  PS X (.Assign [.Name x px] (.ListComp nj [⟨tg,bu,li,0⟩] sc pos) lj) (IV (tLC cap wi g tc te) (JR i)):=by
 rw[22];rw[exec_Assign_Name_used _ _ _ _ rh];refine aG (wpAny_standAt (aG ?_));refine aG (mO (wpAny_comprehension_free rfl hs (Cz (S.cells I.ok)) S.kind S.nm
  (bo (hi ad s Z H _ I h) λv s1 h1=>bo h1 λWP s2 h2=>?_)) (λ_ s' hq=>aN (aN hq)) λ_ _ e=>e)
 obtain⟨it,fp,tn,J,H2,e,I2,T,vh,f2,q2⟩:=h2;subst e;refine Ft hc S hb I2 T vh f2 q2 ?_;intro D' s₀ H₀ σ' H' s' I0 f0 I' qD;obtain⟨m,hn,_⟩:=id I'.loc;have IX:=comp_back I0 f0 I';have wj:∀ x c,X.env.cells.lookup x=aa c->c≠s₀.heap.objs.size:=λx c e z=>by
  obtain⟨v,oc,h1,_⟩:=I0.cell x c e;exact absurd (bU h1) (by rw[z];exact lQ _)
 refine wpAny_assign_Name (YT IX hN yr hx (show RelV (.ref D') (.ref D') from rfl) (λs3 I3 ch=>?_) hf)
 obtain⟨a,sb,ha⟩:=ch;have cb:s₀.heap.objs.size≠a:=by
  rcases ha with z|z
  .rw[z];exact kG I0.lt
  .exact λq=>wj x a z q.symm
 refine⟨m,Heap.Ns.sameBut hn sb cb,λh' zr=>⟨_,H',?_,qD⟩⟩
 exact I3.turned (λb o hb e=>(zr.2 b hb).trans e) I'.free (kG I0.lt) (.inr I0.sz) wj λp hp z=>by
  have h1:=(I0.pin p hp).1;exact absurd (bU h1) (by rw[z];exact lQ _)
end
def Em (out:List (aC×nW))(XN N:List aC)(cap:List (Option Nat))(ns:List (aC×nW)):Bool:=
 ns.all (λy=>y.2 != .cell)&&ns.all (λy=>y.2 != .local||ns.lookup y.1==aa .local)&&ns.all (λy=>y.2 != .free||out.lookup y.1==aa .cell||out.lookup y.1==aa .free) &&
 cap.length==N.length&&(cap.zip N).all (λp=>match p.1 with|none=>af|some j=>XN[j]?==aa p.2&&ns.lookup p.2==aa .free)
theorem fW{out:List (aC×nW)}{XN:List aC}(h1:X.env.scope.names=out)(h2:X.N=XN)(Z5:Em out XN N cap sc.names=af)(hk:sc.kind=.function):CompScope X N cap sc:=by
 unfold Em at Z5;simp only[yU,eB,bne_iff_ne,ne_eq,Bool.or_eq_true,beq_iff_eq] at Z5;obtain⟨⟨⟨⟨c1,c2⟩,c3⟩,c4⟩,c5⟩:=Z5;refine⟨hk,c1,λy hy e=>?_,λy hy e=>?_,c4,λi j e=>?_⟩
 .rcases c2 y hy with q|q
  .exact absurd e q
  .exact q
 .rw[h1];rcases c3 y hy with(q|q)|q
  .exact absurd e q
  .exact .inl q
  .exact .inr q
 .have hi:=(cT.1 e).1;have yr:i<N.length:=by omega
  have hm:(cap[i],N[i])∈cap.zip N:=by
   have:(cap.zip N)[i]?=aa (cap[i],N[i]):=by
    rw[List.getElem?_zip_eq_some];exact⟨fA hi,fA yr⟩
   exact fH this
  have q:=c5 _ hm;have ec:cap[i]=aa j:=by
   rw[fA hi] at e;exact fF e
  rw[ec] at q;simp only[yU,beq_iff_eq] at q;exact⟨N[i],fA yr,by rw[h2];exact q.1,q.2⟩
abbrev Ext (H H':Hp):Prop:=∀ b o,H b=aa o->H' b=aa o
theorem Ext.refl:Ext H H:=λ_ _ e=>e
theorem Ext.trans {H2:Hp}(a:Ext H H1)(b:Ext H1 H2):Ext H H2:=λx o e=>b x o (a x o e)
theorem Ext.new{p:aD}(n:H p=ae):Ext H (upd H p o):=λb u e=>by
 rw[cY (lG e n)];exact e
theorem Ext.rd(x:Ext H H'){u:HO}(r:Rd H a u):Rd H' a u:=by
 rcases r with r|⟨o,r⟩
 .exact .inl (x _ _ r)
 .exact .inr ⟨o,x _ _ r⟩
theorem Ext.sqL(x:Ext H H')(h:SqL K H a xs):SqL K H' a xs:=h.imp x.rd id
theorem Ext.none(x:Ext H H')(h:H' a=Option.none):H a=Option.none:=by
 cases e:H a with
 |none=>rfl
 |some o=>rw[x a o e] at h;cases h
open Classical in
def hid (H:Hp)(P:aD->Prop):Hp:=λa=>if P a then ae else H a
theorem Acs:hid H P a=aa o ↔ ¬ P a/\H a=aa o:=by
 unfold hid;by_cases h:P a<;>simp[h]
theorem gZ(n:¬ P a)(e:H a=aa o):hid H P a=aa o:=Acs.2 ⟨n,e⟩
theorem Aas:Ext (hid H P) H:=λ_ _ e=>(Acs.1 e).2
theorem dE(x:Ext H H'):Ext (hid H P) (hid H' P):=λb o e=>by
 obtain⟨n,e⟩:=Acs.1 e;exact gZ n (x b o e)
theorem gK{P':aD->Prop}(s:∀ a,P' a->P a):Ext (hid H P) (hid H P'):=λb o e=>by
 obtain⟨n,e⟩:=Acs.1 e;exact gZ (λq=>n (s b q)) e
abbrev DQ:=(Nat×List (aI×V)) ⊕ List (List aA×V)
def dO:DQ->HO
 |.inl kvs=>.dK kvs.1 kvs.2
 |.inr ts=>.dT ts
def Hid (P:aD->Prop)(H:Hp):Prop:=∀ a,P a->(∃ xs,H a=aa (.lst xs))\/∃ q:DQ,H a=aa (dO q)
theorem Hid.ext(h:Hid P H)(x:Ext H H'):Hid P H':=λa p=>(h a p).imp (λ⟨xs,e⟩=>⟨xs,x _ _ e⟩) λ⟨xs,e⟩=>⟨xs,x _ _ e⟩
theorem Hid.new(h:Hid P H)(n:H a=ae):¬ P a:=λp=>by
 rcases h a p with⟨xs,e⟩|⟨xs,e⟩<;>rw[n] at e<;>cases e
abbrev ic (P:aD->Prop)(F:List aD):aD->Prop:=λa=>P a\/a∈F
theorem Dh:ic P []=P:=by
 funext a;simp[ic]
def kD:aI->aA
 |.inl i=>.int i
 |.inr x=>.str x
def TC (a:aD)(kvs:List (V×V)):HO:=.ext λh=>kvs.length<=sizeLine/\∃ o es ep,h.get? a=aa o/\o.ExactDict/\o.data=.dict es ep/\dR (λ(p:V×V) (e:rQ)=>RelV p.1 e.key/\RelV p.2 e.val) kvs es.toList
mutual
def Abm (K:aK)(H:Hp):aA->V->Prop
 |.none,v=>v=.non
 |.bool b,v=>v=.bl b
 |.int i,v=>v=.int i
 |.str x,v=>v=.str x/\cH (.str x)=af
 |.list ds,v=>∃ a xs,v=.ref a/\SqL K H a xs/\Aap K H ds xs
 |.tuple ds,v=>∃ a xs,v=.ref a/\H a=aa (.tup xs)/\Aap K H ds xs
 |.dict kds,v=>∃ a,v=.ref a/\((∃ kvs:Nat×List (aI×V),H a=aa (.dK kvs.1 kvs.2)/\Abu K H kds kvs.2)\/(∃ ts,H a=aa (.dT ts)/\A1f K H kds ts)\/∃ xs,H a=aa (TC a xs)/\A7y K H kds xs)
def Aap (K:aK)(H:Hp):List aA->List V->Prop
 |[],xs=>xs=[]
 |d::ds,xs=>∃ x r,xs=x::r/\Abm K H d x/\Aap K H ds r
def Abu (K:aK)(H:Hp):List (aA×aA)->List (aI×V)->Prop
 |[],xs=>xs=[]
 |(k,d)::ds,xs=>∃ k' x r,xs=(k',x)::r/\k=kD k'/\Abm K H d x/\Abu K H ds r
def Acm (K:aK)(H:Hp):List (aA×aA)->List (List aA×V)->Prop
 |[],xs=>xs=[]
 |(k,d)::ds,xs=>∃ k' x r,xs=(k',x)::r/\(k=.tuple k'/\bR k'=af)/\Abm K H d x/\Acm K H ds r
def A1f (K:aK)(H:Hp):List (aA×aA)->List (List aA×V)->Prop
 |[],_=>False
 |(k,_)::ds,xs=>k=.none/\Acm K H ds xs
def A7y (K:aK)(H:Hp):List (aA×aA)->List (V×V)->Prop
 |[],_=>False
 |(k,m)::ds,xs=>k=.none/\ds=[]/\Au0 K H m xs
def Au0 (K:aK)(H:Hp):aA->List (V×V)->Prop
 |.list es,xs=>Ajv K H es xs
 |_,_=>False
def Ajv (K:aK)(H:Hp):List aA->List (V×V)->Prop
 |[],xs=>xs=[]
 |d::ds,xs=>∃ x r,xs=x::r/\A1b K H d x/\Ajv K H ds r
def A1b (K:aK)(H:Hp):aA->V×V->Prop
 |.tuple ds,x=>Aap K H ds [x.1,x.2]
 |_,_=>False
end
def ik:List (aA×aA)->Bool
 |(.none,_)::_=>ag
 |_=>af
theorem Ab7:Abm K H .none v↔v=.non:=by simp[Abm]
theorem Aaw {b:Bool}:Abm K H (.bool b) v↔v=.bl b:=by simp[Abm]
theorem Aal {b:Int}:Abm K H (.int b) v↔v=.int b:=by simp[Abm]
theorem Aay {b:aC}:Abm K H (.str b) v↔v=.str b/\cH (.str b)=af:=by simp only[Abm]
theorem Abb:Abm K H (.list ds) v ↔ ∃ a xs,v=.ref a/\SqL K H a xs/\Aap K H ds xs:=by simp only[Abm]
theorem Aar:Abm K H (.tuple ds) v ↔ ∃ a xs,v=.ref a/\H a=aa (.tup xs)/\Aap K H ds xs:=by simp only[Abm]
theorem Adm {ds:List (aA×aA)}:Abm K H (.dict ds) v ↔ ∃ a,v=.ref a/\((∃ kvs:Nat×List (aI×V),H a=aa (.dK kvs.1 kvs.2)/\Abu K H ds kvs.2)\/(∃ ts,H a=aa (.dT ts)/\A1f K H ds ts)\/∃ xs,H a=aa (TC a xs)/\A7y K H ds xs):=by simp only[Abm]
theorem Ahx {k:aA}{ds:List (aA×aA)}{xs:List (V×V)}:A7y K H ((k,m)::ds) xs↔k=.none/\ds=[]/\Au0 K H m xs:=by simp only[A7y]
theorem B9{xs:List (V×V)}(h:Au0 K H m xs):∃ es,m=.list es/\Ajv K H es xs:=by
 cases m with
 |list es=>exact⟨es,rfl,by simpa only[Au0] using h⟩
 |_=>simp[Au0] at h
theorem Axr {xs:List (V×V)}:Ajv K H [] xs↔xs=[]:=by simp[Ajv]
theorem At8{xs:List (V×V)}:Ajv K H (d::ds) xs ↔ ∃ x r,xs=x::r/\A1b K H d x/\Ajv K H ds r:=by simp only[Ajv]
theorem MH {ds:List (aA×aA)}{xs:List (V×V)}(h:A7y K H ds xs):∃ es,ds=[(.none,.list es)]/\Ajv K H es xs:=by
 cases ds with
 |nil=>simp[A7y] at h
 |cons p r=>
  obtain⟨k,m⟩:=p;obtain⟨rfl,rfl,h1⟩:=Ahx.1 h;obtain⟨es,rfl,h2⟩:=B9 h1;exact⟨es,rfl,h2⟩
theorem Adq {xs:List (List aA×V)}:Acm K H [] xs↔xs=[]:=by simp[Acm]
theorem Ab5 {k:aA}{ds:List (aA×aA)}{xs:List (List aA×V)}:Acm K H ((k,d)::ds) xs ↔ ∃ k' x r,xs=(k',x)::r/\(k=.tuple k'/\bR k'=af)/\Abm K H d x/\Acm K H ds r:=by simp only[Acm]
theorem Aft {k:aA}{ds:List (aA×aA)}{xs:List (List aA×V)}:A1f K H ((k,m)::ds) xs↔k=.none/\Acm K H ds xs:=by simp only[A1f]
theorem Xe {ds:List (aA×aA)}{xs:List (List aA×V)}(hk:ik ds=af):¬ A1f K H ds xs:=by
 cases ds with
 |nil=>simp[A1f]
 |cons p r=>
  obtain⟨k,d⟩:=p;intro h;rw[(Aft.1 h).1] at hk;simp[ik] at hk
theorem sJ {ds:List (aA×aA)}(hk:ik ds=af):Abm K H (.dict ds) v ↔ ∃ a,∃ kvs:Nat×List (aI×V),v=.ref a/\H a=aa (.dK kvs.1 kvs.2)/\Abu K H ds kvs.2:=by
 rw[Adm];constructor
 .rintro⟨a,e,⟨kvs,h,r⟩|⟨ts,h,r⟩|⟨xs,h,r⟩⟩
  .exact⟨a,kvs,e,h,r⟩
  .exact absurd r (Xe hk)
  .obtain⟨es,rfl,_⟩:=MH r;simp[ik] at hk
 .rintro⟨a,kvs,e,h,r⟩;exact⟨a,e,.inl ⟨kvs,h,r⟩⟩
theorem v9 {ds:List (aA×aA)}{kvs:Nat×List (aI×V)}(e:v=.ref a)(h:H a=aa (.dK kvs.1 kvs.2))(r:Abu K H ds kvs.2):Abm K H (.dict ds) v:=Adm.2 ⟨a,e,.inl ⟨kvs,h,r⟩⟩
theorem Aan:Aap K H [] xs↔xs=[]:=by simp[Aap]
theorem Aah:Aap K H (d::ds) xs ↔ ∃ x r,xs=x::r/\Abm K H d x/\Aap K H ds r:=by simp only[Aap]
theorem Ab4 {xs:List (aI×V)}:Abu K H [] xs↔xs=[]:=by simp[Abu]
theorem Abd {k:aA}{ds:List (aA×aA)}{xs:List (aI×V)}:Abu K H ((k,d)::ds) xs ↔ ∃ k' x r,xs=(k',x)::r/\k=kD k'/\Abm K H d x/\Abu K H ds r:=by simp only[Abu]
theorem AY{ds:List (aA×aA)}(hm:∀ es,m ≠ .list es:=by intro _ z;cases z):Abm K H (.dict ((.none,m)::ds)) v ↔ ∃ a ts,v=.ref a/\H a=aa (.dT ts)/\Acm K H ds ts:=by
 rw[Adm];constructor
 .rintro⟨a,e,⟨kvs,h,r⟩|⟨ts,h,r⟩|⟨xs,h,r⟩⟩
  .obtain⟨k',_,_,_,ek,_⟩:=Abd.1 r;cases k'<;>simp[kD] at ek
  .exact⟨a,ts,e,h,(Aft.1 r).2⟩
  .obtain⟨es,z,_⟩:=MH r;cases z;exact absurd rfl (hm es)
 .rintro⟨a,ts,e,h,r⟩;exact⟨a,e,.inr (.inl ⟨ts,h,Aft.2 ⟨rfl,r⟩⟩)⟩
mutual
theorem Abm.ext(x:Ext H H'):∀ {d:aA} {v:V},Abm K H d v->Abm K H' d v
 |.none,_,h=>Ab7.2 (Ab7.1 h)
 |.bool _,_,h=>Aaw.2 (Aaw.1 h)
 |.int _,_,h=>Aal.2 (Aal.1 h)
 |.str _,_,h=>Aay.2 (Aay.1 h)
 |.list ds,_,h=>by
  obtain⟨a,xs,e,s,r⟩:=Abb.1 h;exact Abb.2 ⟨a,xs,e,x.sqL s,Aap.ext x r⟩
 |.tuple ds,_,h=>by
  obtain⟨a,xs,e,s,r⟩:=Aar.1 h;exact Aar.2 ⟨a,xs,e,x _ _ s,Aap.ext x r⟩
 |.dict ds,_,h=>by
  obtain⟨a,e,⟨kvs,r,q⟩|⟨ts,r,q⟩|⟨xs,r,q⟩⟩:=Adm.1 h
  .exact Adm.2 ⟨a,e,.inl ⟨kvs,x _ _ r,Abu.ext x q⟩⟩
  .exact Adm.2 ⟨a,e,.inr (.inl ⟨ts,x _ _ r,A1f.ext x q⟩)⟩
  .exact Adm.2 ⟨a,e,.inr (.inr ⟨xs,x _ _ r,A7y.ext x q⟩)⟩
theorem Aap.ext(x:Ext H H'):∀ {ds:List aA} {vs:List V},Aap K H ds vs->Aap K H' ds vs
 |[],_,h=>Aan.2 (Aan.1 h)
 |d::ds,_,h=>by
  obtain⟨y,r,e,h1,h2⟩:=Aah.1 h;exact Aah.2 ⟨y,r,e,Abm.ext x h1,Aap.ext x h2⟩
theorem Abu.ext(x:Ext H H'):∀ {ds:List (aA×aA)} {vs:List (aI×V)},Abu K H ds vs->Abu K H' ds vs
 |[],_,h=>Ab4.2 (Ab4.1 h)
 |(k,d)::ds,_,h=>by
  obtain⟨k',y,r,e,ek,h1,h2⟩:=Abd.1 h;exact Abd.2 ⟨k',y,r,e,ek,Abm.ext x h1,Abu.ext x h2⟩
theorem Acm.ext(x:Ext H H'):∀ {ds:List (aA×aA)} {vs:List (List aA×V)},Acm K H ds vs->Acm K H' ds vs
 |[],_,h=>Adq.2 (Adq.1 h)
 |(k,d)::ds,_,h=>by
  obtain⟨k',y,r,e,ek,h1,h2⟩:=Ab5.1 h;exact Ab5.2 ⟨k',y,r,e,ek,Abm.ext x h1,Acm.ext x h2⟩
theorem A1f.ext(x:Ext H H'):∀ {ds:List (aA×aA)} {vs:List (List aA×V)},A1f K H ds vs->A1f K H' ds vs
 |[],_,h=>absurd h (by simp[A1f])
 |(k,d)::ds,_,h=>Aft.2 ⟨(Aft.1 h).1,Acm.ext x (Aft.1 h).2⟩
theorem A7y.ext(x:Ext H H'):∀ {ds:List (aA×aA)} {vs:List (V×V)},A7y K H ds vs->A7y K H' ds vs
 |[],_,h=>absurd h (by simp[A7y])
 |(k,d)::ds,_,h=>Ahx.2 ⟨(Ahx.1 h).1,(Ahx.1 h).2.1,Au0.ext x (Ahx.1 h).2.2⟩
theorem Au0.ext(x:Ext H H'):∀ {d:aA} {vs:List (V×V)},Au0 K H d vs->Au0 K H' d vs
 |.list es,_,h=>by
  rw[Au0] at h ⊢;exact Ajv.ext x h
 |.none,_,h=>absurd h (by simp[Au0])
 |.bool _,_,h=>absurd h (by simp[Au0])
 |.int _,_,h=>absurd h (by simp[Au0])
 |.str _,_,h=>absurd h (by simp[Au0])
 |.tuple _,_,h=>absurd h (by simp[Au0])
 |.dict _,_,h=>absurd h (by simp[Au0])
theorem Ajv.ext(x:Ext H H'):∀ {ds:List aA} {vs:List (V×V)},Ajv K H ds vs->Ajv K H' ds vs
 |[],_,h=>Axr.2 (Axr.1 h)
 |d::ds,_,h=>by
  obtain⟨y,r,e,h1,h2⟩:=At8.1 h;exact At8.2 ⟨y,r,e,A1b.ext x h1,Ajv.ext x h2⟩
theorem A1b.ext(x:Ext H H'):∀ {d:aA} {y:V×V},A1b K H d y->A1b K H' d y
 |.tuple ds,_,h=>by
  rw[A1b] at h ⊢;exact Aap.ext x h
 |.none,_,h=>absurd h (by simp[A1b])
 |.bool _,_,h=>absurd h (by simp[A1b])
 |.int _,_,h=>absurd h (by simp[A1b])
 |.str _,_,h=>absurd h (by simp[A1b])
 |.list _,_,h=>absurd h (by simp[A1b])
 |.dict _,_,h=>absurd h (by simp[A1b])
end
theorem Aap.length:∀ {ds:List aA} {vs:List V},Aap K H ds vs->vs.length=ds.length
 |[],_,h=>by rw[Aan.1 h];rfl
 |d::ds,_,h=>by
  obtain⟨y,r,e,h1,h2⟩:=Aah.1 h;rw[e,fY,fY,Aap.length h2]
theorem Aap.get:∀ {ds:List aA} {vs:List V} {i:Nat} {d:aA},Aap K H ds vs->ds[i]?=aa d->∃ v,vs[i]?=aa v/\Abm K H d v
 |[],_,_,_,h,e=>by simp at e
 |d::ds,_,0,d',h,e=>by
  obtain⟨y,r,rfl,h1,h2⟩:=Aah.1 h;have:d=d':=by simpa using e
  rw[20];exact⟨y,rfl,h1⟩
 |d::ds,_,i+1,d',h,e=>by
  obtain⟨y,r,rfl,h1,h2⟩:=Aah.1 h;obtain⟨v,h3,h4⟩:=Aap.get h2 (by simpa using e)
  exact⟨v,by simpa using h3,h4⟩
theorem Aap.append:∀ {ds es:List aA} {vs ws:List V},Aap K H ds vs->Aap K H es ws->Aap K H (ds++es) (vs++ws)
 |[],es,_,_,h,g=>by rw[Aan.1 h];exact g
 |d::ds,es,_,_,h,g=>by
  obtain⟨y,r,rfl,h1,h2⟩:=Aah.1 h;exact Aah.2 ⟨y,_,rfl,h1,Aap.append h2 g⟩
theorem Aap.snoc{vs:List V}(h:Aap K H ds vs)(g:Abm K H d v):Aap K H (ds++[d]) (vs++[v]):=
 h.append (Aah.2 ⟨v,[],rfl,g,Aan.2 rfl⟩)
theorem Aap.drop:∀ {ds:List aA} {vs:List V} (n:Nat),Aap K H ds vs->Aap K H (ds.drop n) (vs.drop n)
 |_,_,0,h=>h
 |[],_,n+1,h=>by rw[Aan.1 h];exact Aan.2 rfl
 |d::ds,_,n+1,h=>by
  obtain⟨y,r,rfl,h1,h2⟩:=Aah.1 h;exact Aap.drop n h2
theorem Aap.take:∀ {ds:List aA} {vs:List V} (n:Nat),Aap K H ds vs->Aap K H (ds.take n) (vs.take n)
 |_,_,0,h=>Aan.2 rfl
 |[],_,n+1,h=>by rw[Aan.1 h];exact Aan.2 rfl
 |d::ds,_,n+1,h=>by
  obtain⟨y,r,rfl,h1,h2⟩:=Aah.1 h;exact Aah.2 ⟨y,_,rfl,h1,Aap.take n h2⟩
theorem Aap.set(g:Abm K H d v):∀ {ds:List aA} {vs:List V} (n:Nat),Aap K H ds vs->Aap K H (ds.set n d) (vs.set n v)
 |[],_,n,h=>by rw[Aan.1 h];exact Aan.2 rfl
 |e::ds,_,0,h=>by
  obtain⟨y,r,rfl,h1,h2⟩:=Aah.1 h;exact Aah.2 ⟨v,r,rfl,g,h2⟩
 |e::ds,_,n+1,h=>by
  obtain⟨y,r,rfl,h1,h2⟩:=Aah.1 h;exact Aah.2 ⟨y,_,rfl,h1,Aap.set g n h2⟩
theorem Aj:∀ ns:List Int,Aap K H (ns.map aW) (ns.map V.int)
 |[]=>Aan.2 rfl
 |n::r=>Aah.2 ⟨_,_,rfl,Aal.2 rfl,Aj r⟩
theorem Yj(h:Abm K H (kD k) v):v=kV k:=by
 cases k with
 |inl i=>exact Aal.1 h
 |inr x=>exact(Aay.1 h).1
mutual
theorem Abm.key {K:aK}{H:Hp}:∀ (d:aA) {v:V},bG d=af->Abm K H d v->Al1 H d v
 |.int i,v,_,h=>by simpa [Al1] using Aal.1 h
 |.str i,v,_,h=>by simpa [Al1] using(Aay.1 h).1
 |.tuple ds,v,k,h=>by
  obtain⟨a,xs,e,s,r⟩:=Aar.1 h;simp only[Al1];exact⟨a,xs,e,s,Aap.keys ds (by simpa [bG] using k) r⟩
 |.none,v,k,_=>by simp[bG] at k
 |.bool _,v,k,_=>by simp[bG] at k
 |.list _,v,k,_=>by simp[bG] at k
 |.dict _,v,k,_=>by simp[bG] at k
theorem Aap.keys {K:aK}{H:Hp}:∀ (ds:List aA) {vs:List V},bR ds=af->Aap K H ds vs->Aim H ds vs
 |[],vs,_,h=>by simpa [Aim] using Aan.1 h
 |d::ds,vs,k,h=>by
  have k':bG d=af/\bR ds=af:=by simpa [bR] using k
  obtain⟨y,r,e,h1,h2⟩:=Aah.1 h;simp only[Aim];exact⟨y,r,e,Abm.key d k'.1 h1,Aap.keys ds k'.2 h2⟩
end
mutual
def fR:aA->Bool
 |.list _=>ag
 |.dict _=>ag
 |.tuple ds=>qW ds
 |_=>af
def qW:List aA->Bool
 |[]=>af
 |d::r=>fR d&&qW r
end
theorem Bu:∀ ds:List aA,qW ds=ds.all fR
 |[]=>by simp[qW]
 |d::r=>by simp[qW,Bu r]
mutual
theorem Abm.flat(x:∀ a xs,H a=aa (.tup xs)->H' a=aa (.tup xs)):∀ (d:aA) {v:V},fR d=af->Abm K H d v->Abm K H' d v
 |.none,_,_,h=>Ab7.2 (Ab7.1 h)
 |.bool _,_,_,h=>Aaw.2 (Aaw.1 h)
 |.int _,_,_,h=>Aal.2 (Aal.1 h)
 |.str _,_,_,h=>Aay.2 (Aay.1 h)
 |.tuple ds,_,f,h=>by
  obtain⟨a,xs,e,s,r⟩:=Aar.1 h;exact Aar.2 ⟨a,xs,e,x _ _ s,Aap.flat x ds (by simpa [fR] using f) r⟩
 |.list _,_,f,_=>by simp[fR] at f
 |.dict _,_,f,_=>by simp[fR] at f
theorem Aap.flat(x:∀ a xs,H a=aa (.tup xs)->H' a=aa (.tup xs)):∀ (ds:List aA) {vs:List V},qW ds=af->Aap K H ds vs->Aap K H' ds vs
 |[],_,_,h=>Aan.2 (Aan.1 h)
 |d::ds,_,f,h=>by
  have f':fR d=af/\qW ds=af:=by simpa [qW] using f
  obtain⟨y,r,e,h1,h2⟩:=Aah.1 h;exact Aah.2 ⟨y,r,e,Abm.flat x d f'.1 h1,Aap.flat x ds f'.2 h2⟩
end
inductive All3 {α β γ:Type}(R:α->β->γ->Prop):List α->List β->List γ->Prop
 |nil:All3 R [] [] []
 |cons {a b c as bs cs}:R a b c->All3 R as bs cs->All3 R (a::as) (b::bs) (c::cs)
theorem All3.imp {α β γ:Type}{R S:α->β->γ->Prop}:∀ {as:List α} {bs:List β} {cs:List γ},All3 R as bs cs->(∀ a b c,c∈cs->R a b c->S a b c)->All3 S as bs cs:=by
 intro as bs cs h;induction h with
 |nil=>exact λ_=>.nil
 |cons h _ ih=>exact λf=>.cons (f _ _ _ bF h) (ih λa b c m=>f a b c (bL _ m))
def Af8 (K:aK)(B H:Hp):Nat->aA->V->List aD->Prop
 |0,d,v,F=>F=[]/\Abm K B d v
 |n+1,d,v,F=>match d with
  |.list ds=>∃ p xs Fs,v=.ref p/\H p=aa (.lst xs)/\F=p::Fs.flatten/\All3 (Af8 K B H n) ds xs Fs
  |.dict kds=>∃ p,∃ kvs:Nat×List (aI×V),∃ Fs,v=.ref p/\H p=aa (.dK kvs.1 kvs.2)/\F=p::Fs.flatten/\All3 (λ(kd:aA×aA) (kv:aI×V) f=>kd.1=kD kv.1/\Af8 K B H n kd.2 kv.2 f) kds kvs.2 Fs
  |.tuple ds=>(n=0/\F=[]/\Abm K B (.tuple ds) v)\/(n≠0/\∃ p xs Fs,v=.ref p/\B p=aa (.tup xs)/\F=Fs.flatten/\All3 (Af8 K B H n) ds xs Fs)
  |d=>F=[]/\Abm K B d v
theorem Af8.keep(xb:Ext B B'):∀ {n:Nat} {d:aA} {v:V} {F:List aD},(∀ a∈F,H' a=H a)->Af8 K B H n d v F->Af8 K B' H' n d v F
 |0,d,v,F,_,h=>⟨h.1,h.2.ext xb⟩
 |n+1,.list ds,v,F,kp,h=>by
  rw[16];refine⟨p,xs,Fs,e,(kp p bF).trans hp,rfl,q.imp λa b c m r=>Af8.keep xb (λz hz=>kp z (bL _ (lV.2 ⟨c,m,hz⟩))) r⟩
 |n+1,.dict kds,v,F,kp,h=>by
  rw[16];refine⟨p,xs,Fs,e,(kp p bF).trans hp,rfl,q.imp λa b c m r=>⟨r.1,Af8.keep xb (λz hz=>kp z (bL _ (lV.2 ⟨c,m,hz⟩))) r.2⟩⟩
 |n+1,.none,v,F,_,h=>⟨h.1,h.2.ext xb⟩
 |n+1,.bool _,v,F,_,h=>⟨h.1,h.2.ext xb⟩
 |n+1,.int _,v,F,_,h=>⟨h.1,h.2.ext xb⟩
 |n+1,.str _,v,F,_,h=>⟨h.1,h.2.ext xb⟩
 |n+1,.tuple ds,v,F,kp,h=>by
  rcases h with⟨h0,h1,h2⟩|⟨h0,p,xs,Fs,e,hp,rfl,q⟩
  .exact .inl ⟨h0,h1,h2.ext xb⟩
  .exact .inr ⟨h0,p,xs,Fs,e,xb _ _ hp,rfl,q.imp λa b c m r=>Af8.keep xb (λz hz=>kp z (lV.2 ⟨c,m,hz⟩)) r⟩
theorem ZQ{R:aA->V->List aD->Prop}(f:∀ d v F,R d v F->Abm K B d v):∀ {ds:List aA} {xs:List V} {Fs:List (List aD)},All3 R ds xs Fs->Aap K B ds xs:=by
 intro ds xs Fs h;induction h with
 |nil=>exact Aan.2 rfl
 |cons h _ ih=>exact Aah.2 ⟨_,_,rfl,f _ _ _ h,ih⟩
theorem YX{R:aA×aA->aI×V->List aD->Prop}(f:∀ d v F,R d v F->d.1=kD v.1/\Abm K B d.2 v.2):∀ {ds:List (aA×aA)} {xs:List (aI×V)} {Fs:List (List aD)},All3 R ds xs Fs->Abu K B ds xs:=by
 intro ds xs Fs h;induction h with
 |nil=>exact Ab4.2 rfl
 |@cons p q F ds xs Fs h _ ih=>
  obtain⟨k,d⟩:=p;obtain⟨k',v⟩:=q;exact Abd.2 ⟨_,_,_,rfl,(f _ _ _ h).1,(f _ _ _ h).2,ih⟩
theorem Af8.share(xb:Ext B B'):∀ {n:Nat} {d:aA} {v:V} {F:List aD},(∀ a∈F,∀ o,H a=aa o->B' a=aa o)->Af8 K B H n d v F->Abm K B' d v
 |0,d,v,F,_,h=>h.2.ext xb
 |n+1,.list ds,v,F,kp,h=>by
  rw[16];refine Abb.2 ⟨p,xs,e,SqL.of (kp p bF _ hp),?_⟩;exact ZQ (λd v F r=>r) (q.imp λa b c m r=>Af8.share xb (λz hz=>kp z (bL _ (lV.2 ⟨c,m,hz⟩))) r)
 |n+1,.dict kds,v,F,kp,h=>by
  rw[16];refine v9 e (kp p bF _ hp) ?_;exact YX (λd v F r=>r) (q.imp λa b c m r=>⟨r.1,Af8.share xb (λz hz=>kp z (bL _ (lV.2 ⟨c,m,hz⟩))) r.2⟩)
 |n+1,.none,v,F,_,h=>h.2.ext xb
 |n+1,.bool _,v,F,_,h=>h.2.ext xb
 |n+1,.int _,v,F,_,h=>h.2.ext xb
 |n+1,.str _,v,F,_,h=>h.2.ext xb
 |n+1,.tuple ds,v,F,kp,h=>by
  rcases h with⟨h0,h1,h2⟩|⟨h0,p,xs,Fs,e,hp,rfl,q⟩
  .exact h2.ext xb
  .refine Aar.2 ⟨p,xs,e,xb _ _ hp,?_⟩;exact ZQ (λd v F r=>r) (q.imp λa b c m r=>Af8.share xb (λz hz=>kp z (lV.2 ⟨c,m,hz⟩)) r)
def fS:Nat->aA->Bool
 |0,d=>fR d
 |n+1,.list ds=>ds.all (fS n)
 |n+1,.dict kds=>kds.all λkd=>fS n kd.2
 |n+2,.tuple ds=>ds.all (fS (n+1))
 |n+1,d=>fR d
theorem Af8.flat(xb:∀ a xs,B a=aa (.tup xs)->B' a=aa (.tup xs)):∀ {n:Nat} {d:aA} {v:V} {F:List aD},fS n d=af->Af8 K B H n d v F->Af8 K B' H n d v F
 |0,d,v,F,f,h=>⟨h.1,h.2.flat xb d f⟩
 |n+1,.list ds,v,F,f,h=>by
  rw[16];refine⟨p,xs,Fs,e,hp,rfl,?_⟩;have f':∀ d∈ds,fS n d=af:=by simpa [fS] using f
  clear hp f e;induction q with
  |nil=>exact .nil
  |cons h t ih=>exact .cons (Af8.flat xb (f' _ bF) h) (ih λd m=>f' d (bL _ m))
 |n+1,.dict kds,v,F,f,h=>by
  rw[16];refine⟨p,xs,Fs,e,hp,rfl,?_⟩;have f':∀ d∈kds,fS n d.2=af:=λd m=>by
   have:kds.all (λkd=>fS n kd.2)=af:=by simpa [fS] using f
   exact eB.1 this d m
  clear hp f e;obtain⟨xe,xs⟩:=xs;replace q:All3 _ kds xs Fs:=q;induction q with
  |nil=>exact .nil
  |cons h t ih=>exact .cons ⟨h.1,Af8.flat xb (f' _ bF) h.2⟩ (ih λd m=>f' d (bL _ m))
 |n+1,.none,v,F,f,h=>⟨h.1,h.2.flat xb _ f⟩
 |n+1,.bool _,v,F,f,h=>⟨h.1,h.2.flat xb _ f⟩
 |n+1,.int _,v,F,f,h=>⟨h.1,h.2.flat xb _ f⟩
 |n+1,.str _,v,F,f,h=>⟨h.1,h.2.flat xb _ f⟩
 |1,.tuple ds,v,F,f,h=>by
  rcases h with⟨h0,h1,h2⟩|⟨h0,_⟩
  .exact .inl ⟨h0,h1,h2.flat xb _ f⟩
  .exact absurd rfl h0
 |n+2,.tuple ds,v,F,f,h=>by
  rcases h with⟨h0,_⟩|⟨h0,p,xs,Fs,e,hp,rfl,q⟩
  .exact absurd h0 (by omega)
  .refine .inr ⟨h0,p,xs,Fs,e,xb _ _ hp,rfl,?_⟩;have f':∀ d∈ds,fS (n+1) d=af:=by simpa [fS] using f
   clear hp f e;induction q with
   |nil=>exact .nil
   |cons h t ih=>exact .cons (Af8.flat xb (f' _ bF) h) (ih λd m=>f' d (bL _ m))
theorem All3.of {α β γ:Type}{R:α->β->γ->Prop}:∀ {as:List α} {bs:List β} {cs:List γ},All3 R as bs cs->∀ c∈cs,∃ a b,R a b c:=by
 intro as bs cs h;induction h with
 |nil=>exact λc m=>by simp at m
 |cons h _ ih=>
  intro c m;rw[15]
  .exact⟨_,_,h⟩
  .exact ih c m
mutual
def sy:aA->Bool
 |.dict kds=>V9 kds
 |.list ds=>qO ds
 |.tuple ds=>qO ds
 |_=>af
def qO:List aA->Bool
 |[]=>af
 |d::r=>sy d&&qO r
def V9:List (aA×aA)->Bool
 |(.none,.none)::r=>zF r
 |_=>ag
def zF:List (aA×aA)->Bool
 |[]=>af
 |(_,d)::r=>sy d&&zF r
end
def gU:Nat->aA->Bool
 |0,d=>sy d
 |n+1,.list ds=>ds.all (gU n)
 |n+1,.dict kds=>kds.all λkd=>gU n kd.2
 |_,_=>ag
theorem Nb (xs:List V):∀ q,HO.lst xs≠dO q:=λq z=>by cases q<;>cases z
theorem Oc (xs:List V):∀ q,HO.tup xs≠dO q:=λq z=>by cases q<;>cases z
theorem Me (o:aZ)(u:HO):∀ q,HO.frz o u≠dO q:=λq z=>by cases q<;>cases z
def V5 (H H':Hp):Prop:=∀ a o,H a=aa o->(∀ q,o≠dO (.inl q))->H' a=aa o
mutual
theorem Abm.nd(x:V5 H H'):∀ (d:aA) {v:V},sy d=af->Abm K H d v->Abm K H' d v
 |.none,_,_,h=>Ab7.2 (Ab7.1 h)
 |.bool _,_,_,h=>Aaw.2 (Aaw.1 h)
 |.int _,_,_,h=>Aal.2 (Aal.1 h)
 |.str _,_,_,h=>Aay.2 (Aay.1 h)
 |.tuple ds,_,f,h=>by
  obtain⟨a,xs,e,s,r⟩:=Aar.1 h;exact Aar.2 ⟨a,xs,e,x _ _ s (λq=>Oc _ _),Aap.nd x ds (by simpa [sy] using f) r⟩
 |.list ds,_,f,h=>by
  obtain⟨a,xs,e,s,r⟩:=Abb.1 h;refine Abb.2 ⟨a,xs,e,s.imp (λs=>?_) id,Aap.nd x ds (by simpa [sy] using f) r⟩
  rcases s with s|⟨o,s⟩
  .exact .inl (x _ _ s (λq=>Nb _ _))
  .exact .inr ⟨o,x _ _ s (λq=>Me _ _ _)⟩
 |.dict [],_,f,_=>by simp[sy,V9] at f
 |.dict ((k,m)::kds),_,f,h=>by
  have f:V9 ((k,m)::kds)=af:=by simpa only[sy] using f
  cases k<;>cases m<;>first|(simp[V9] at f;done)|skip
  obtain⟨a,ts,e,s,r⟩:=(AY).1 h;exact(AY).2 ⟨a,ts,e,x _ _ s (λq z=>by cases z),Acm.nd x kds (by simpa only[V9] using f) r⟩
theorem Acm.nd(x:V5 H H'):∀ (kds:List (aA×aA)) {ts:List (List aA×V)},zF kds=af->Acm K H kds ts->Acm K H' kds ts
 |[],_,_,h=>Adq.2 (Adq.1 h)
 |(k,d)::r,_,f,h=>by
  have f':sy d=af/\zF r=af:=by simpa [zF] using f
  obtain⟨k',y,rr,e,ek,h1,h2⟩:=Ab5.1 h;exact Ab5.2 ⟨k',y,rr,e,ek,Abm.nd x d f'.1 h1,Acm.nd x r f'.2 h2⟩
theorem Aap.nd(x:V5 H H'):∀ (ds:List aA) {vs:List V},qO ds=af->Aap K H ds vs->Aap K H' ds vs
 |[],_,_,h=>Aan.2 (Aan.1 h)
 |d::ds,_,f,h=>by
  have f':sy d=af/\qO ds=af:=by simpa [qO] using f
  obtain⟨y,r,e,h1,h2⟩:=Aah.1 h;exact Aah.2 ⟨y,r,e,Abm.nd x d f'.1 h1,Aap.nd x ds f'.2 h2⟩
end
theorem Af8.mut:∀ {n:Nat} {d:aA} {v:V} {F:List aD},Af8 K B H n d v F->∀ a∈F,(∃ xs,H a=aa (.lst xs))\/∃ q:DQ,H a=aa (dO q)
 |0,d,v,F,h,a,m=>by rw[h.1] at m;simp at m
 |n+1,.list ds,v,F,h,a,m=>by
  rw[16];rcases cM.1 m with e1|m2
  .rw[e1];exact .inl ⟨xs,hp⟩
  .obtain⟨f,hf,ha⟩:=lV.1 m2;obtain⟨_,_,r⟩:=q.of f hf;exact Af8.mut r a ha
 |n+1,.dict kds,v,F,h,a,m=>by
  rw[16];rcases cM.1 m with e1|m2
  .rw[e1];exact .inr ⟨.inl xs,hp⟩
  .obtain⟨f,hf,ha⟩:=lV.1 m2;obtain⟨_,_,r⟩:=q.of f hf;exact Af8.mut r.2 a ha
 |n+1,.none,v,F,h,a,m=>by rw[h.1] at m;simp at m
 |n+1,.bool _,v,F,h,a,m=>by rw[h.1] at m;simp at m
 |n+1,.int _,v,F,h,a,m=>by rw[h.1] at m;simp at m
 |n+1,.str _,v,F,h,a,m=>by rw[h.1] at m;simp at m
 |n+1,.tuple ds,v,F,h,a,m=>by
  rcases h with⟨_,h1,_⟩|⟨h0,p,xs,Fs,e,hp,rfl,q⟩
  .rw[h1] at m;simp at m
  .obtain⟨f,hf,ha⟩:=lV.1 m;obtain⟨_,_,r⟩:=q.of f hf;exact Af8.mut r a ha
theorem Af8.nd(xb:V5 B B'):∀ {n:Nat} {d:aA} {v:V} {F:List aD},gU n d=af->Af8 K B H n d v F->Af8 K B' H n d v F
 |0,d,v,F,f,h=>⟨h.1,h.2.nd xb d f⟩
 |n+1,.list ds,v,F,f,h=>by
  rw[16];refine⟨p,xs,Fs,e,hp,rfl,?_⟩;have f':∀ d∈ds,gU n d=af:=by simpa [gU] using f
  clear hp f e;induction q with
  |nil=>exact .nil
  |cons h t ih=>exact .cons (Af8.nd xb (f' _ bF) h) (ih λd m=>f' d (bL _ m))
 |n+1,.dict kds,v,F,f,h=>by
  rw[16];refine⟨p,xs,Fs,e,hp,rfl,?_⟩;have f':∀ d∈kds,gU n d.2=af:=λd m=>by
   have:kds.all (λkd=>gU n kd.2)=af:=by simpa [gU] using f
   exact eB.1 this d m
  clear hp f e;obtain⟨xe,xs⟩:=xs;replace q:All3 _ kds xs Fs:=q;induction q with
  |nil=>exact .nil
  |cons h t ih=>exact .cons ⟨h.1,Af8.nd xb (f' _ bF) h.2⟩ (ih λd m=>f' d (bL _ m))
 |n+1,.none,v,F,f,h=>by simp[gU] at f
 |n+1,.bool _,v,F,f,h=>by simp[gU] at f
 |n+1,.int _,v,F,f,h=>by simp[gU] at f
 |n+1,.str _,v,F,f,h=>by simp[gU] at f
 |n+1,.tuple ds,v,F,f,h=>by simp[gU] at f
def Lo (K:aK)(B H:Hp)(d:aA)(v:V)(F:List aD):Prop:=∃ kds p ts,d=.dict ((.none,.none)::kds)/\v=.ref p/\H p=aa (.dT ts)/\F=[p]/\(∀ kd∈kds,fR kd.2=af)/\Acm K B kds ts
def Ahl (K:aK)(B H:Hp)(n:Nat)(d:aA)(v:V)(F:List aD):Prop:=if n=9 then(d=.none/\v=.non/\F=[])\/Lo K B H d v F else Af8 K B H n d v F
theorem Acm.flat(xb:∀ a xs,B a=aa (.tup xs)->B' a=aa (.tup xs)):∀ {kds:List (aA×aA)} {ts:List (List aA×V)},(∀ kd∈kds,fR kd.2=af)->Acm K B kds ts->Acm K B' kds ts
 |[],ts,_,h=>Adq.2 (Adq.1 h)
 |(k,d)::r,ts,f,h=>by
  obtain⟨k',x,rr,e,ek,h1,h2⟩:=Ab5.1 h;exact Ab5.2 ⟨k',x,rr,e,ek,h1.flat xb _ (f (k,d) bF),Acm.flat xb (λkd m=>f kd (bL _ m)) h2⟩
section
variable {F:List aD}
theorem Ahl.keep (xb:Ext B B')(kp:∀ a∈F,H' a=H a)(h:Ahl K B H n d v F):Ahl K B' H' n d v F:=by
 unfold Ahl at h ⊢;split at h
 .rw[if_pos ‹_›];refine h.imp id λh=>?_
  obtain⟨kds,p,ts,e1,e2,hp,rfl,f,r⟩:=h;exact⟨kds,p,ts,e1,e2,(kp p bF).trans hp,rfl,f,r.ext xb⟩
 .rw[if_neg ‹_›];exact Af8.keep xb kp h
theorem Ahl.share (xb:Ext B B')(kp:∀ a∈F,∀ o,H a=aa o->B' a=aa o)(h:Ahl K B H n d v F):Abm K B' d v:=by
 unfold Ahl at h;split at h
 .rcases h with⟨rfl,rfl,_⟩|⟨kds,p,ts,rfl,e2,hp,rfl,f,r⟩
  .exact Ab7.2 rfl
  exact(AY).2 ⟨p,ts,e2,kp p bF _ hp,r.ext xb⟩
 .exact Af8.share xb kp h
theorem Ahl.flat (xb:∀ a xs,B a=aa (.tup xs)->B' a=aa (.tup xs))(f:fS n d=af)(h:Ahl K B H n d v F):Ahl K B' H n d v F:=by
 unfold Ahl at h ⊢;split at h
 .rw[if_pos ‹_›];refine h.imp id λh=>?_
  obtain⟨kds,p,ts,e1,e2,hp,rfl,f,r⟩:=h;exact⟨kds,p,ts,e1,e2,hp,rfl,f,r.flat xb f⟩
 .rw[if_neg ‹_›];exact Af8.flat xb f h
theorem Ahl.nd (xb:V5 B B')(hn:n<9)(f:gU n d=af)(h:Ahl K B H n d v F):Ahl K B' H n d v F:=by
 unfold Ahl at h ⊢;rw[if_neg (by omega)] at h ⊢
 exact Af8.nd xb f h
theorem Ahl.mut (h:Ahl K B H n d v F):∀ a∈F,(∃ xs,H a=aa (.lst xs))\/∃ q:DQ,H a=aa (dO q):=by
 unfold Ahl at h;split at h
 .rcases h with⟨_,_,rfl⟩|⟨kds,p,ts,e1,e2,hp,rfl,f,r⟩
  .exact λa m=>by simp at m
  intro a m;rw[bX.1 m];exact .inr ⟨.inr ts,hp⟩
 .exact Af8.mut h
end
abbrev EF:=List (Option aA)->Option aA
abbrev BF:=List (Option aA)->Option Bool
abbrev AF:=List (Option aA)->Option (List aA)
def Aob (K:aK)(B:Hp)(Y:List (Option aA))(Z:St):Prop:=∀ (i:Nat) d,Y[i]?=aa (aa d)->∃ v,Z[i]?=aa (aa v)/\Abm K B d v
theorem Aob.ext(h:Aob K B Y Z)(x:Ext B B'):Aob K B' Y Z:=λi d e=>let ⟨v,h1,h2⟩:=h i d e;⟨v,h1,h2.ext x⟩
def Res (K:aK)(P:aD->Prop)(n:Nat)(d:aA)(H:Hp)(Q:VK):Prop:=
 ∀ v H' Fr,Ext H H'->Fr.Nodup->(∀ a∈Fr,H a=ae/\∃ o,H' a=aa o)->Ahl K (hid H' (ic P Fr)) H' n d v Fr->Q v H'
theorem Res.zero (h:Res K P 0 d H Q)(x:Ext H H')(r:Abm K (hid H' P) d v):Q v H':=
 h v H' [] x .nil (λa m=>by simp at m) ⟨rfl,by rw[Dh];exact r⟩
theorem eG (h:∀ v H',Ext H H'->Abm K (hid H' P) d v->Q v H'):Res K P 0 d H Q:=λv H' Fr x _ _ r=>by
 obtain⟨rfl,r⟩:=r;rw[Dh] at r;exact h v H' x r
theorem Res.mono (h:Res K P n d H Q)(x:Ext H H'):Res K P n d H' Q:=λv H2 Fr x2 nd fr r=>
 h v H2 Fr (x.trans x2) nd (λa m=>⟨x.none (fr a m).1,(fr a m).2⟩) r
theorem Res.of (hP:Hid P H)(h:Res K P 0 d H Q):Res K P n d H Q:=λv H2 Fr x2 nd fr r=>
 h.zero x2 (r.share (gK λa p=>.inl p) λa m o e=>gZ (hP.new (fr a m).1) e)
theorem Res.lst{p:aD}(hP:Hid P H)(h:Res K P 1 (.list ds) H Q)(n:H p=ae)(r:Aap K (hid H P) ds xs):Q (.ref p) (upd H p (.lst xs)):=by
 refine h (.ref p) _ [p] (Ext.new n) (lT.2 ⟨by simp,.nil⟩) (λa m=>?_) ⟨p,xs,xs.map λ_=>[],rfl,eU,?_,?_⟩
 .have:a=p:=by simpa using m
  rw[20];exact⟨n,_,eU⟩
 .have:∀ l:List V,(l.map λ_=>([]:List aD)).flatten=[]:=λl=>by
   induction l with
   |nil=>rfl
   |cons a l ih=>rw[dI,kJ,ih];rfl
  rw[this]
 .have xe:Ext (hid H P) (hid (upd H p (.lst xs)) (ic P [p])):=λb o e=>by
   obtain⟨nb,e⟩:=Acs.1 e;have hb:=lG e n;exact gZ (λq=>q.elim nb λm=>hb (by simpa using m)) (by rw[cY hb];exact e)
  generalize hid (upd H p (.lst xs)) (ic P [p])=B at xe;generalize upd H p (.lst xs)=H1;clear h;have go:∀ (ds:List aA) (xs:List V),Aap K (hid H P) ds xs->All3 (Af8 K B H1 0) ds xs (xs.map λ_=>[]):=by
   intro ds;induction ds with
   |nil=>intro xs r;rw[Aan.1 r];exact .nil
   |cons d ds ih=>
    intro xs r;obtain⟨y,t,rfl,h1,h2⟩:=Aah.1 r;exact .cons ⟨rfl,h1.ext xe⟩ (ih t h2)
  exact go ds xs r
theorem Res.tup{p:aD}(hP:Hid P H)(h:Res K P 0 (.tuple ds) H Q)(n:H p=ae)(r:Aap K (hid H P) ds xs):Q (.ref p) (upd H p (.tup xs)):=by
 refine h.zero (Ext.new n) (Aar.2 ⟨p,xs,rfl,gZ (hP.new n) eU,r.ext λb o e=>?_⟩)
 obtain⟨nb,e⟩:=Acs.1 e;exact gZ nb (Ext.new n _ _ e)
def tF (K:aK)(n:Nat)(f:EF):TE:=λZ H Q=>∃ P Y d,Hid P H/\Aob K (hid H P) Y Z/\f Y=aa d/\Res K P n d H Q
def zm (K:aK)(f:BF):TT:=λZ H Q=>∃ P Y b,Hid P H/\Aob K (hid H P) Y Z/\f Y=aa b/\∀ H',Ext H H'->Q b H'
def tAF (K:aK)(f:AF):TA:=λZ H Q=>∃ P Y ds,Hid P H/\Aob K (hid H P) Y Z/\f Y=aa ds/\∀ vs H',Ext H H'->Aap K (hid H' P) ds vs->Q vs H'
abbrev DF (n:Nat)(X:Cx)(e:aR)(f:EF):Prop:=PE X e (tF X.K n f)
abbrev DE (X:Cx)(e:aR)(f:EF):Prop:=PE X e (tF X.K 0 f)
abbrev DT (X:Cx)(e:aR)(f:BF):Prop:=PT X e (zm X.K f)
abbrev DW (X:Cx)(e:aR)(f:BF):Prop:=PW X e (zm X.K f)
abbrev DA (X:Cx)(es:List aR)(f:AF):Prop:=PA X es (tAF X.K f)
section
variable {a:aR}
theorem PE.imp {t t':TE}(h:PE X e t)(w:∀ Z H Q,t' Z H Q->t Z H Q):PE X e t':=λad s Z H Q I q=>h ad s Z H Q I (w _ _ _ q)
theorem PT.imp {t t':TT}(h:PT X e t)(w:∀ Z H Q,t' Z H Q->t Z H Q):PT X e t':=λad s Z H Q I q=>h ad s Z H Q I (w _ _ _ q)
theorem PW.imp {t t':TT}(h:PW X e t)(w:∀ Z H Q,t' Z H Q->t Z H Q):PW X e t':=λim ad s Z H Q I q=>h im ad s Z H Q I (w _ _ _ q)
theorem PA.imp {t t':TA}(h:PA X es t)(w:∀ Z H Q,t' Z H Q->t Z H Q):PA X es t':=λpos ad s Z H Q I q=>h pos ad s Z H Q I (w _ _ _ q)
theorem jF {f:EF}(h:DF n X e f):DE X e f:=PE.imp h λZ H Q ⟨P,Y,d,hP,rs,ef,k⟩=>⟨P,Y,d,hP,rs,ef,Res.of hP k⟩
def aB (i:Nat):EF:=λY=>(Y[i]?).join
theorem YO(h:aB i Y=aa d):Y[i]?=aa (aa d):=by
 unfold aB at h;cases e:Y[i]? with
 |none=>rw[e] at h;simp at h
 |some o=>rw[e] at h;simp at h;rw[h]
theorem cG (i:Nat)(hN:X.N[i]?=aa x:=by rfl)(hv:iY X.env.scope x:=by first|exact bK rfl|exact bW (bK rfl)|exact bW (bW rfl))(hd:(x==("__debug__" : aC))=ag:=by decide)
  (ft:(x==("__classdict__" : aC))=ag:=by decide):DE X (.Name x pos) (aB i):=PE.imp (kA hN hv hd ft) λZ H Q gh=>by
 rw[5];obtain⟨v,h1,h2⟩:=rs i d (YO ef);exact⟨v,h1,k.zero Ext.refl h2⟩
def eC (d:aA):EF:=λ_=>aa d
theorem zH(h:PE X e (tC v))(hr:∀ H,Abm X.K H d v):DE X e (eC d):=PE.imp h λZ H Q gh=>by
 obtain⟨P,Y,d',hP,rs,ef,k⟩:=gh;cases ef;exact k.zero Ext.refl (hr _)
theorem Mt {i j}:DE X (.Constant (.int i) j pos) (eC (.int i)):=zH VF λ_=>Aal.2 rfl
theorem Lj {i j}:DE X (.Constant (.bool i) j pos) (eC (.bool i)):=zH Lv λ_=>Aaw.2 rfl
theorem Nh {j}:DE X (.Constant .none j pos) (eC .none):=zH VP λ_=>Ab7.2 rfl
theorem PM {i j}(h:cH (.str i)=af:=by rw[0]):DE X (.Constant (.str i) j pos) (eC (.str i)):=zH Ob λ_=>Aay.2 ⟨rfl,h⟩
theorem Xd{i:Int}{u:aE}(hg:Gl X x)(hm:X.mg x=aa u)(r:RelV (.int i) u)(hd:(x==("__debug__" : aC))=ag:=by decide):DE X (.Name x pos) (eC (.int i)):=zH (Rm hg hm r hd) λ_=>Aal.2 rfl
def aJ:AF:=λ_=>aa []
def aF (f:EF)(g:AF):AF:=λY=>(f Y).bind λd=>(g Y).bind λds=>aa (d::ds)
theorem jL:DA X [] aJ:=PA.imp kQ λZ H Q gh=>by
 rw[5];cases ef;exact k [] H Ext.refl (Aan.2 rfl)
theorem jE {f:EF}{g:AF}(h1:DE X e f)(h2:DA X es g)(hs:bH (e::es) X.env=(ag,bM e X.env)::bH es X.env:=by rfl):DA X (e::es) (aF f g):=
 PA.imp (iF h1 h2 hs) λZ H Q gh=>by
  obtain⟨P,Y,ds,hP,rs,ef,k⟩:=gh;rw[17];obtain⟨r,e2,ef⟩:=ao ef;cases ef;exact⟨P,Y,d,hP,rs,e1,eG λv H1 x1 r1=>⟨P,Y,r,hP.ext x1,rs.ext (dE x1),e2,λvs H2 x2 r2=>
   k _ _ (x1.trans x2) (Aah.2 ⟨v,vs,rfl,r1.ext (dE x2),r2⟩)⟩⟩
def jU (g:AF):EF:=λY=>(g Y).bind λds=>if ds.length<=sizeLine then aa (.tuple ds) else ae
def dJ (g:AF):EF:=λY=>(g Y).bind λds=>if ds.length<=sizeLine then aa (.list ds) else ae
theorem cQ {α:Type}{c:Prop}[Decidable c]{x y:α}(h:(if c then aa x else ae)=aa y):c/\x=y:=by
 by_cases q:c
 .rw[if_pos q] at h;exact⟨q,fF h⟩
 .rw[if_neg q] at h;cases h
theorem Ov {g:AF}{x1}(h:DA X es g):DE X (.Tuple es x1 pos) (jU g):=PE.imp (VA h) λZ H Q gh=>by
 rw[5];obtain⟨ds,e1,ef⟩:=ao ef;obtain⟨hl,rfl⟩:=cQ ef;exact⟨P,Y,ds,hP,rs,e1,λvs H1 x1 r1=>⟨by rw[r1.length];exact hl,λp hp=>(k.mono x1).tup (hP.ext x1) hp r1⟩⟩
theorem PH {g:AF}(h:DA X es g):DF 1 X (.List es pos) (dJ g):=PE.imp (Mn h) λZ H Q gh=>by
 rw[5];obtain⟨ds,e1,ef⟩:=ao ef;obtain⟨hl,rfl⟩:=cQ ef;exact⟨P,Y,ds,hP,rs,e1,λvs H1 x1 r1=>⟨by rw[r1.length];exact hl,λp hp=>(k.mono x1).lst (hP.ext x1) hp r1⟩⟩
def so (K:aK)(n:Nat)(r:R2)(g:aA->aA->Option aA):Prop:=
 ∀ (P:aD->Prop) (H:Hp) (x y:V) (a b d:aA) (Q:VK),Hid P H->Abm K (hid H P) a x->Abm K (hid H P) b y->g a b=aa d->Res K P n d H Q->r x y H Q
def ah (g:aA->aA->Option aA)(fa fb:EF):EF:=λY=>(fa Y).bind λa=>(fb Y).bind λb=>g a b
theorem JK{fa fb:EF}(hg:so K n r g):∀ Z H Q,tF K n (ah g fa fb) Z H Q->O4 r (tF K 0 fa) (tF K 0 fb) Z H Q:=λZ H Q gh=>by
 rw[5];obtain⟨d1,e1,ef⟩:=ao ef;obtain⟨d2,e2,ef⟩:=ao ef;exact⟨P,Y,d1,hP,rs,e1,eG λv H1 x1 r1=>⟨P,Y,d2,hP.ext x1,rs.ext (dE x1),e2,eG λu H2 x2 r2=>
  hg P H2 v u d1 d2 d Q (hP.ext (x1.trans x2)) (r1.ext (dE x2)) r2 ef (k.mono (x1.trans x2))⟩⟩
theorem pF {op:Operator}{fa fb:EF}(ho:OpR X (kC op) r)(hg:so X.K n r g)(ha:DE X a fa)(hb:DE X b fb):DF n X (.BinOp a op b pos) (ah g fa fb):=PE.imp (Ky ho ha hb) (JK hg)
theorem EN {op:CmpOp}{fa fb:EF}(ho:OpR X (jG op) r)(hg:so X.K 0 r g)(ha:DE X a fa)(hb:DE X b fb)(hm:uY op b=ag):DE X (.Compare a [op] [b] pos) (ah g fa fb):=PE.imp (Fv ho ha hb hm) (JK hg)
def UnD (K:aK)(n:Nat)(r:V->Hp->VK->Prop)(g:aA->Option aA):Prop:=
 ∀ (P:aD->Prop) (H:Hp) (x:V) (a d:aA) (Q:VK),Hid P H->Abm K (hid H P) a x->g a=aa d->Res K P n d H Q->r x H Q
def iw (g:aA->Option aA)(fa:EF):EF:=λY=>(fa Y).bind g
theorem Kp {op:UnaryOp}{r:V->Hp->VK->Prop}{g:aA->Option aA}{fa:EF}(ho:X' X (unaryOp op) r)(hg:UnD X.K n r g)(ha:DE X a fa):DF n X (.UnaryOp op a pos) (iw g fa):=
 PE.imp (Ku ho ha) λZ H Q gh=>by
  rw[5];obtain⟨d1,e1,ef⟩:=ao ef;exact⟨P,Y,d1,hP,rs,e1,eG λv H1 x1 r1=>hg P H1 v d1 d Q (hP.ext x1) r1 ef (k.mono x1)⟩
def CallD (K:aK)(n:Nat)(r:List V->Hp->VK->Prop)(g:List aA->Option aA):Prop:=
 ∀ (P:aD->Prop) (H:Hp) (xs:List V) (ds:List aA) (d:aA) (Q:VK),Hid P H->Aap K (hid H P) ds xs->g ds=aa d->Res K P n d H Q->r xs H Q
def aL (g:List aA->Option aA)(fa:AF):EF:=λY=>(fa Y).bind g
variable {r:List V->Hp->VK->Prop}{g:List aA->Option aA}{fa:AF}{id:String}
theorem wN (hc:Adw X (.builtin id) r)(hg:CallD X.K n r g)(Q3:Gl X x)(hm:X.mg x=ae)(hv:oY x=aa (.builtin id))(ha:DA X (e::es) fa)(hn:x ≠ "__name__":=by decide)(uo:(x==("__debug__" : aC))=ag:=by decide)
  (he:bH (e::es) X.env=(ag,bM e X.env)::bH es X.env:=by rfl) (ix:(eR pos (bH es X.env)).any (·.1)=ag:=by rfl):DF n X (.Call (.Name x p) (e::es) [] pos) (aL g fa):=
 PE.imp (LU hc Q3 hm hv ha hn uo he ix) λZ H Q gh=>by
  rw[5];obtain⟨d1,e1,ef⟩:=ao ef;exact⟨P,Y,d1,hP,rs,e1,λvs H1 x1 r1=>hg P H1 vs d1 d Q (hP.ext x1) r1 ef (k.mono x1)⟩
theorem kT (hc:Adw X (.type T) r)(hg:CallD X.K n r g)(Q3:Gl X x)(hm:X.mg x=ae)(hv:oY x=aa (.type T))(ha:DA X (e::es) fa)(hn:x ≠ "__name__":=by decide)(uo:(x==("__debug__" : aC))=ag:=by decide)
  (he:bH (e::es) X.env=(ag,bM e X.env)::bH es X.env:=by rfl) (ix:(eR pos (bH es X.env)).any (·.1)=ag:=by rfl):DF n X (.Call (.Name x p) (e::es) [] pos) (aL g fa):=
 PE.imp (GH hc Q3 hm hv ha hn uo he ix) λZ H Q gh=>by
  rw[5];obtain⟨d1,e1,ef⟩:=ao ef;exact⟨P,Y,d1,hP,rs,e1,λvs H1 x1 r1=>hg P H1 vs d1 d Q (hP.ext x1) r1 ef (k.mono x1)⟩
def su:aA->Option Bool
 |.bool b=>aa b
 |_=>ae
theorem LD{b:Bool}(h:su d=aa b):d=.bool b:=by
 cases d<;>simp[su] at h;rw[h]
def aw (f:EF):BF:=λY=>(f Y).bind su
theorem EL {f:EF}(h:DE X e f)(he:∀ im,isTrue e X.env im=(do let v <-im;standAt e.pos;oX [v] (truthy v)):=by intro _;rfl):DT X e (aw f):=PT.imp (My h he) λZ H Q gh=>by
 obtain⟨P,Y,b,hP,rs,ef,k⟩:=gh;rw[17];cases LD ef;exact⟨P,Y,_,hP,rs,e1,eG λv H1 x1 r1=>⟨b,Aaw.1 r1,k H1 x1⟩⟩
theorem mE {op:CmpOp}{r:R2}{g:aA->aA->Option aA}{fa fb:EF}(ho:OpR X (jG op) r)(hg:so X.K 0 r g)(ha:DE X a fa)(hb:DE X b fb)(hm:uY op b=ag):DT X (.Compare a [op] [b] pos) (aw (ah g fa fb)):=
 PT.imp (Fb ho ha hb hm) λZ H Q gh=>by
  obtain⟨P,Y,c,hP,rs,ef,k⟩:=gh;rw[17];cases LD ef;exact JK hg Z H _ ⟨P,Y,_,hP,rs,e1,eG λv H1 x1 r1=>⟨c,Aaw.1 r1,k H1 x1⟩⟩
def mL (f:BF):BF:=λY=>(f Y).bind λb=>aa (!b)
def mN (f g:BF):BF:=λY=>(f Y).bind λb=>if b=af then g Y else aa ag
def xp (f g:BF):BF:=λY=>(f Y).bind λb=>if b=af then aa af else g Y
variable {fB gB:BF}{rest:List aR}
theorem PC (h:DT X a fB):DT X (.UnaryOp .Not a pos) (mL fB):=PT.imp (Nc h) λZ H Q gh=>by
 obtain⟨P,Y,c,hP,rs,ef,k⟩:=gh;obtain⟨b,e1,ef⟩:=ao ef;cases ef;exact⟨P,Y,b,hP,rs,e1,λH1 x1=>k H1 x1⟩
theorem KS (h:DT X a fB):DW X (.BoolOp .And [a] pos) fB:=Fx h
theorem VU (h:DT X a fB):DW X (.BoolOp .Or [a] pos) fB:=Mx h
theorem PU (h:DT X a fB)(h2:DW X (.BoolOp .And (b::rest) pos) gB):DW X (.BoolOp .And (a::b::rest) pos) (mN fB gB):=PW.imp (UP h h2) λZ H Q gh=>by
 obtain⟨P,Y,c,hP,rs,ef,k⟩:=gh;obtain⟨b,e1,ef⟩:=ao ef;refine⟨P,Y,b,hP,rs,e1,λH1 x1=>?_⟩
 cases b with
 |true=>exact oR ⟨P,Y,c,hP.ext x1,rs.ext (dE x1),by simpa using ef,λH2 x2=>k H2 (x1.trans x2)⟩
 |false=>
  have:ag=c:=by simpa using ef
  rw[20];exact oU (k H1 x1)
theorem TJ (h:DT X a fB)(h2:DW X (.BoolOp .Or (b::rest) pos) gB):DW X (.BoolOp .Or (a::b::rest) pos) (xp fB gB):=PW.imp (Kq h h2) λZ H Q gh=>by
 obtain⟨P,Y,c,hP,rs,ef,k⟩:=gh;obtain⟨b,e1,ef⟩:=ao ef;refine⟨P,Y,b,hP,rs,e1,λH1 x1=>?_⟩
 cases b with
 |true=>
  have:af=c:=by simpa using ef
  rw[20];exact oR (k H1 x1)
 |false=>exact oU ⟨P,Y,c,hP.ext x1,rs.ext (dE x1),by simpa using ef,λH2 x2=>k H2 (x1.trans x2)⟩
theorem zJ (h:DW X a fB):DT X a fB:=h.pt
def JE (f:EF):EF:=λY=>(f Y).bind λd=>(su d).bind λb=>aa (.bool (!b))
def rV (f g:EF):EF:=λY=>(f Y).bind λd=>(su d).bind λb=>if b=af then g Y else aa (.bool ag)
def eOr (f g:EF):EF:=λY=>(f Y).bind λd=>(su d).bind λb=>if b=af then aa (.bool af) else g Y
variable {f1 f2:EF}
theorem Ph {op}(h:DE X a f1):DE X (.BoolOp op [a] pos) f1:=VY h
theorem Qj (h:DE X a f1)(h2:DE X (.BoolOp .And (b::rest) pos) f2):DE X (.BoolOp .And (a::b::rest) pos) (rV f1 f2):=PE.imp (VN h h2) λZ H Q gh=>by
 obtain⟨P,Y,c,hP,rs,ef,k⟩:=gh;rw[17];obtain⟨b,e2,cw⟩:=ao ef;clear ef;have ef:=cw;clear cw;cases LD e2;refine⟨P,Y,_,hP,rs,e1,eG λv H1 x1 r1=>⟨b,Aaw.1 r1,?_⟩⟩
 cases b with
 |true=>exact oR ⟨P,Y,c,hP.ext x1,rs.ext (dE x1),by simpa using ef,k.mono x1⟩
 |false=>
  have:kW ag=c:=by simpa using ef
  rw[20];exact oU (k.zero x1 (Aaw.2 rfl))
def eIf (t:BF)(f g:EF):EF:=λY=>(t Y).bind λb=>if b=af then f Y else g Y
end
abbrev Slot:=Option (Nat×aA)
abbrev aU:=List Slot
def vS (Y:aU):List (Option aA):=Y.map λs=>match s with|some (0,d)=>aa d|_=>ae
def vA (Y:aU):List (Option aA):=Y.map λs=>s.map (·.2)
theorem Pb {Y:aU}(h:(vS Y)[i]?=aa (aa d)):Y[i]?=aa (aa (0,d)):=by
 unfold vS at h;rw[eW] at h;cases e:Y[i]? with
 |none=>rw[e] at h;simp at h
 |some s=>
  rw[e] at h;simp only[pW,HR] at h;cases s with
  |none=>simp at h
  |some q=>
   obtain⟨n,d'⟩:=q;cases n with
   |zero=>simp at h;rw[h]
   |succ n=>simp at h
theorem Qh {Y:aU}(h:(vA Y)[i]?=aa (aa d)):∃ n,Y[i]?=aa (aa (n,d)):=by
 unfold vA at h;rw[eW] at h;cases e:Y[i]? with
 |none=>rw[e] at h;simp at h
 |some s=>
  rw[e] at h;cases s with
  |none=>simp at h
  |some q=>
   obtain⟨n,d'⟩:=q;simp at h;exact⟨n,by rw[h]⟩
abbrev Hd (P0:aD->Prop)(fp:Nat->List aD):aD->Prop:=λa=>P0 a\/∃ i,a∈fp i
structure Sta (K:aK)(H0:Hp)(P0:aD->Prop)(B0:Hp)(Y:aU)(Z:St)(H:Hp)(fp:Nat->List aD):Prop where
 len:Z.length=Y.length
 nd:∀ i,(fp i).Nodup
 dj:∀ i j a,a∈fp i->a∈fp j->i=j
 own:∀ i a,a∈fp i->H0 a=ae/\((∃ xs,H a=aa (.lst xs))\/∃ q:DQ,H a=aa (dO q))
 ext:Ext H0 H
 hd:Hid P0 H0
 base:Ext B0 (hid H (Hd P0 fp))
 slot:∀ (i:Nat) n d,Y[i]?=aa (aa (n,d))->∃ v,Z[i]?=aa (aa v)/\Ahl K (hid H (Hd P0 fp)) H n d v (fp i)
section
variable {Y:aU}
theorem Sta.hid (S:Sta K H0 P0 B0 Y Z H fp):Hid (Hd P0 fp) H:=λa h=>by
 rcases h with h|⟨i,h⟩
 .exact S.hd.ext S.ext a h
 .exact(S.own i a h).2
theorem Sta.np (S:Sta K H0 P0 B0 Y Z H fp)(m:a∈fp i):¬ P0 a:=S.hd.new (S.own i a m).1
theorem Sta.grow (S:Sta K H0 P0 B0 Y Z H fp)(x:Ext H H'):Sta K H0 P0 B0 Y Z H' fp:=by
 refine⟨S.len,S.nd,S.dj,λi a m=>⟨(S.own i a m).1,(S.own i a m).2.imp (λ⟨xs,e⟩=>⟨xs,x _ _ e⟩) λ⟨xs,e⟩=>⟨xs,x _ _ e⟩⟩,S.ext.trans x,S.hd,S.base.trans (dE x),λi n d e=>?_⟩
 obtain⟨v,h1,h2⟩:=S.slot i n d e;refine⟨v,h1,h2.keep (dE x) λa m=>?_⟩
 rcases(S.own i a m).2 with⟨xs,e⟩|⟨xs,e⟩
 .rw[e,x _ _ e]
 .rw[e,x _ _ e]
theorem Sta.viewS (S:Sta K H0 P0 B0 Y Z H fp):Aob K (L2.hid H (Hd P0 fp)) (vS Y) Z:=λi d e=>by
 obtain⟨v,h1,h2⟩:=S.slot i 0 d (Pb e);exact⟨v,h1,h2.2⟩
theorem Sta.viewA (S:Sta K H0 P0 B0 Y Z H fp):Aob K (L2.hid H P0) (vA Y) Z:=λi d e=>by
 obtain⟨n,e⟩:=Qh e;obtain⟨v,h1,h2⟩:=S.slot i n d e;exact⟨v,h1,h2.share (gK λa p=>.inl p) λa m o e=>gZ (S.np m) e⟩
def Tmp (K:aK)(H0:Hp)(P0:aD->Prop)(B0:Hp)(Y:aU)(Z:St)(n:Nat)(d:aA)(v:V)(H:Hp):Prop:=
 ∃ fp,Sta K H0 P0 B0 Y Z H fp/\Ahl K (L2.hid H (Hd P0 fp)) H n d v (fp Y.length)
inductive Md|s|a
def qM (Y:aU):Bool:=Y.all λs=>match s with
 |some (0,_)=>af
 |some (1,.dict _)=>af
 |none=>af
 |_=>ag
def eV (n:Nat)(m:Md)(f:EF)(Y:aU):Option aA:=match m with
 |.s=>f (vS Y)
 |.a=>(f (vA Y)).bind λd=>if (fS n d||(qM Y&&decide (n<9)&&gU n d))=af then aa d else ae
def bV (m:Md)(f:BF)(Y:aU):Option Bool:=match m with
 |.s=>f (vS Y)
 |.a=>f (vA Y)
def aV (m:Md)(f:AF)(Y:aU):Option (List aA):=match m with
 |.s=>f (vS Y)
 |.a=>f (vA Y)
def tE (K:aK)(H0:Hp)(P0:aD->Prop)(n:Nat)(m:Md)(f:EF):TE:=λZ H Q=>∃ B0 Y fp d,Sta K H0 P0 B0 Y Z H fp/\eV n m f Y=aa d/\∀ v H',Tmp K H0 P0 B0 Y Z n d v H'->Q v H'
end
theorem Sta.trim{Y:aU}(S:Sta K H0 P0 B0 Y Z H fp):∃ ce,Sta K H0 P0 B0 Y Z H ce/\∀ i a,a∈ce i->a∈fp i/\∃ n d,Y[i]?=aa (aa (n,d)):=by
 let ce:Nat->List aD:=λi=>match Y[i]? with
  |some (aa _)=>fp i
  |_=>[]
 have sub:∀ i a,a∈ce i->a∈fp i/\∃ n d,Y[i]?=aa (aa (n,d)):=λi a m=>by
  have m:a∈(match Y[i]? with|some (aa _)=>fp i|_=>[]):=m
  split at m
  .rename_i x e;exact⟨m,x.1,x.2,e⟩
  .simp at m
 have same:∀ i n d,Y[i]?=aa (aa (n,d))->ce i=fp i:=λi n d e=>by
  show(match Y[i]? with|some (aa _)=>fp i|_=>[])=fp i
  rw[e]
 have xb:Ext (L2.hid H (Hd P0 fp)) (L2.hid H (Hd P0 ce)):=gK λa h=>h.imp id λ⟨i,m⟩=>⟨i,(sub i a m).1⟩
 refine⟨ce,⟨S.len,λi=>?_,λi j a h1 h2=>S.dj i j a (sub i a h1).1 (sub j a h2).1,λi a m=>S.own i a (sub i a m).1,S.ext,S.hd,S.base.trans xb,λi n d e=>?_⟩,sub⟩
 .show(match Y[i]? with|some (aa _)=>fp i|_=>[]).Nodup
  split
  .exact S.nd i
  .exact yM
 .obtain⟨v,h1,h2⟩:=S.slot i n d e;rw[same i n d e];exact⟨v,h1,h2.keep xb λa m=>rfl⟩
theorem Sta.dicts{Y:aU}(S:Sta K H0 P0 B0 Y Z H fp)(ho:qM Y=af){n:Nat}(m:a∈fp i)(e:Y[i]?=aa (aa (n,d))):∃ q,H a=aa (dO (.inl q)):=by
 have:=eB.1 ho _ (fH e);obtain⟨v,h1,h2⟩:=S.slot i n d e;split at this
 .rename_i z;cases z;rw[h2.1] at m;simp at m
 .rename_i kds z;cases z;obtain⟨p,xs,Fs,_,hp,hF,h3⟩:=h2;have hn:∀ {ds:List (aA×aA)} {ys:List (aI×V)} {Gs:List (List aD)},All3 (λ(kd:aA×aA) (kv:aI×V) f=>kd.1=kD kv.1/\Af8 K (L2.hid H (Hd P0 fp)) H 0 kd.2 kv.2 f) ds ys Gs->Gs.flatten=[]:=λq=>by
   induction q with
   |nil=>rfl
   |cons h _ ih=>rw[kJ,h.2.1,ih];rfl
  rw[hF,hn h3] at m;rw[bX.1 m];exact⟨xs,hp⟩
 .rename_i z;cases z
 .cases this
theorem SV{f:EF}(m:Md):∀ Z H Q,tE K H0 P0 n m f Z H Q->tF K n f Z H Q:=λZ H Q gh=>by
 obtain⟨B0,Y,fp,d,S,ef,k⟩:=gh;cases m with
 |s=>
  refine⟨Hd P0 fp,vS Y,d,S.hid,S.viewS,ef,λv H' Fr x nd fr r=>k v H' ?_⟩
  have S':=S.grow x;have de:∀ a,Hd P0 (λi=>if i=Y.length then Fr else fp i) a->ic (Hd P0 fp) Fr a:=λa h=>by
   rcases h with h|⟨i,h⟩
   .exact .inl (.inl h)
   .by_cases hi:i=Y.length
    .simp only[hi,if_true] at h;exact .inr h
    .simp only[hi,if_false] at h;exact .inl (.inr ⟨i,h⟩)
  have Q4:∀ i a,a∈fp i->a∉Fr:=λi a h1 h2=>by
   have:=(fr a h2).1;rcases(S.own i a h1).2 with⟨xs,e⟩|⟨xs,e⟩<;>rw[this] at e<;>first|cases e|(cases xs<;>simp[dO] at e)
  have xb:Ext (L2.hid H (Hd P0 fp)) (L2.hid H' (Hd P0 λi=>if i=Y.length then Fr else fp i)):=λb o e=>by
   obtain⟨nb,e⟩:=Acs.1 e;refine gZ (λq=>?_) (x _ _ e)
   rcases q with q|⟨j,q⟩
   .exact nb (.inl q)
   .rw[23]
    .simp only[hj,if_true] at q;rw[(fr b q).1] at e;cases e
    .simp only[hj,if_false] at q;exact nb (.inr ⟨j,q⟩)
  refine⟨λi=>if i=Y.length then Fr else fp i,⟨S.len,λi=>?_,λi j a hi hj=>?_,λi a hi=>?_,S'.ext,S.hd,S.base.trans xb,λi n' d' e'=>?_⟩,?_⟩
  .by_cases hi:i=Y.length
   .simp only[hi,if_true];exact nd
   .simp only[hi,if_false];exact S.nd i
  .by_cases h1:i=Y.length<;>by_cases h2:j=Y.length
   .rw[h1,h2]
   .simp only[h1,if_true] at hi;simp only[h2,if_false] at hj;exact absurd hi (Q4 _ _ hj)
   .simp only[h1,if_false] at hi;simp only[h2,if_true] at hj;exact absurd hj (Q4 _ _ hi)
   .simp only[h1,if_false] at hi;simp only[h2,if_false] at hj;exact S.dj i j a hi hj
  .by_cases h1:i=Y.length
   .simp only[h1,if_true] at hi;exact⟨S.ext.none (fr a hi).1,r.mut a hi⟩
   .simp only[h1,if_false] at hi;exact S'.own i a hi
  .have cf:=(cT.1 e').1;have h1:i≠Y.length:=by omega
   obtain⟨v',q1,q2⟩:=S'.slot i n' d' e';refine⟨v',q1,?_⟩;simp only[h1,if_false];obtain⟨v2,p1,p2⟩:=S.slot i n' d' e';have ev:=fF (fF (p1.symm.trans q1));subst ev;refine p2.keep xb λa m=>?_
   rcases(S.own i a m).2 with⟨xs,e⟩|⟨xs,e⟩
   .rw[e,x _ _ e]
   .rw[e,x _ _ e]
  .rw[25];exact r.keep (gK de) λa m=>rfl
 |a=>
  obtain⟨d',ed,ef⟩:=ao ef;obtain⟨fl,rfl⟩:=cQ ef;obtain⟨fp,S,trm⟩:=S.trim;refine⟨P0,vA Y,d',S.hd.ext S.ext,S.viewA,ed,λv H' Fr x nd fr r=>k v H' ?_⟩
  have S':=S.grow x;have Q4:∀ i a,a∈fp i->a∉Fr:=λi a h1 h2=>by
   have:=(fr a h2).1;rcases(S.own i a h1).2 with⟨xs,e⟩|⟨xs,e⟩<;>rw[this] at e<;>first|cases e|(cases xs<;>simp[dO] at e)
  have xb:Ext (L2.hid H (Hd P0 fp)) (L2.hid H' (Hd P0 λi=>if i=Y.length then Fr else fp i)):=λb o e=>by
   obtain⟨nb,e⟩:=Acs.1 e;refine gZ (λq=>?_) (x _ _ e)
   rcases q with q|⟨j,q⟩
   .exact nb (.inl q)
   .rw[23]
    .simp only[hj,if_true] at q;rw[(fr b q).1] at e;cases e
    .simp only[hj,if_false] at q;exact nb (.inr ⟨j,q⟩)
  refine⟨λi=>if i=Y.length then Fr else fp i,⟨S.len,λi=>?_,λi j a hi hj=>?_,λi a hi=>?_,S'.ext,S.hd,S.base.trans xb,λi n' d' e'=>?_⟩,?_⟩
  .by_cases hi:i=Y.length
   .simp only[hi,if_true];exact nd
   .simp only[hi,if_false];exact S.nd i
  .by_cases h1:i=Y.length<;>by_cases h2:j=Y.length
   .rw[h1,h2]
   .simp only[h1,if_true] at hi;simp only[h2,if_false] at hj;exact absurd hi (Q4 _ _ hj)
   .simp only[h1,if_false] at hi;simp only[h2,if_true] at hj;exact absurd hj (Q4 _ _ hi)
   .simp only[h1,if_false] at hi;simp only[h2,if_false] at hj;exact S.dj i j a hi hj
  .by_cases h1:i=Y.length
   .simp only[h1,if_true] at hi;exact⟨S.ext.none (fr a hi).1,r.mut a hi⟩
   .simp only[h1,if_false] at hi;exact S'.own i a hi
  .have cf:=(cT.1 e').1;have h1:i≠Y.length:=by omega
   obtain⟨v2,p1,p2⟩:=S.slot i n' d' e';refine⟨v2,p1,?_⟩;simp only[h1,if_false];refine p2.keep xb λa m=>?_
   rcases(S.own i a m).2 with⟨xs,e⟩|⟨xs,e⟩
   .rw[e,x _ _ e]
   .rw[e,x _ _ e]
  .rw[25];have up:∀ a o,(L2.hid H' (ic P0 Fr)) a=aa o->((∃ xs,o=.tup xs)\/(qM Y=af/\∀ q,o≠dO (.inl q)))->(L2.hid H' (Hd P0 λi=>if i=Y.length then Fr else fp i)) a=aa o:=λa o e ho=>by
    obtain⟨na,e⟩:=Acs.1 e;refine gZ (λq=>?_) e
    rcases q with q|⟨j,q⟩
    .exact na (.inl q)
    .rw[23]
     .simp only[hj,if_true] at q;exact na (.inr q)
     .simp only[hj,if_false] at q;rcases ho with⟨xs,rfl⟩|⟨ho,hq⟩
      .rcases(S'.own j a q).2 with⟨ys,e2⟩|⟨ys,e2⟩<;>rw[e] at e2<;>first|cases e2|(cases ys<;>simp[dO] at e2)
      .obtain⟨_,n',d',e'⟩:=trm j a q;obtain⟨z,ez⟩:=S'.dicts ho q e';rw[e] at ez;injection ez with ez;exact hq z ez
   rcases Bool.or_eq_true_iff.1 fl with fl|fl
   .exact r.flat (λa xs e=>up a _ e (.inl ⟨xs,rfl⟩)) fl
   .have fl:=jR.1 fl;have fl1:=jR.1 fl.1;exact r.nd (λa o e hq=>up a o e (.inr ⟨fl1.1,hq⟩)) (of_decide_eq_true fl1.2) fl.2
theorem ev {f:EF}(m:Md)(h:DF n X e f):PE X e (tE X.K H0 P0 n m f):=PE.imp h (SV m)
def tB' (K:aK)(H0:Hp)(P0:aD->Prop)(m:Md)(f:BF):TT:=λZ H Q=>∃ B0 Y fp b,Sta K H0 P0 B0 Y Z H fp/\bV m f Y=aa b/\∀ H',Sta K H0 P0 B0 Y Z H' fp->Q b H'
theorem V8 {f:BF}(m:Md)(h:DT X e f):PT X e (tB' X.K H0 P0 m f):=PT.imp h λZ H Q gh=>by
 obtain⟨B0,Y,fp,b,S,ef,k⟩:=gh;cases m with
 |s=>exact⟨Hd P0 fp,vS Y,b,S.hid,S.viewS,ef,λH' x=>k H' (S.grow x)⟩
 |a=>exact⟨P0,vA Y,b,S.hd.ext S.ext,S.viewA,ef,λH' x=>k H' (S.grow x)⟩
inductive Out where
 |nx (Y:aU)|rt (d:aA)|bk (Y:aU)|ct (Y:aU)
abbrev SF:=aU->Option Out
def SI (K:aK)(H0:Hp)(P0:aD->Prop)(n0:Nat)(d:aA)(v:V)(H':Hp):Prop:=
 ∃ Fr,Ext H0 H'/\Fr.Nodup/\(∀ a∈Fr,H0 a=ae/\∃ o,H' a=aa o)/\Ahl K (hid H' (ic P0 Fr)) H' n0 d v Fr
def TK (K:aK)(H0:Hp)(P0:aD->Prop)(B0:Hp)(n0:Nat)(D:Ends):Out->Prop
 |.nx Y=>∀ Z H fp,Sta K H0 P0 B0 Y Z H fp->D.nx Z H
 |.bk Y=>∀ Z H fp,Sta K H0 P0 B0 Y Z H fp->D.bk Z H
 |.ct Y=>∀ Z H fp,Sta K H0 P0 B0 Y Z H fp->D.ct Z H
 |.rt d=>∀ v H',SI K H0 P0 n0 d v H'->D.rt v H'
def tS (K:aK)(H0:Hp)(P0:aD->Prop)(n0:Nat)(F:SF):TS:=λD Z H=>∃ B0 Y fp o,Sta K H0 P0 B0 Y Z H fp/\F Y=aa o/\TK K H0 P0 B0 n0 D o
abbrev DS (X:Cx)(H0:Hp)(P0:aD->Prop)(n0:Nat)(s:bZ)(F:SF):Prop:=PS X s (tS X.K H0 P0 n0 F)
abbrev ug (X:Cx)(H0:Hp)(P0:aD->Prop)(n0:Nat)(s:List bZ)(F:SF):Prop:=PSs X s (tS X.K H0 P0 n0 F)
section
variable {s:bZ}{ss:List bZ}{F G:SF}{f:EF}
theorem PS.imp {t t':TS}(h:PS X s t)(w:∀ D Z H,t' D Z H->t D Z H):PS X s t':=λad st Z H D I q=>h ad st Z H D I (w _ _ _ q)
theorem PSs.imp {t t':TS}(h:PSs X ss t)(w:∀ D Z H,t' D Z H->t D Z H):PSs X ss t':=λad st Z H D I q=>h ad st Z H D I (w _ _ _ q)
def dY:SF:=λY=>aa (.nx Y)
def aT (F G:SF):SF:=λY=>(F Y).bind λo=>match o with
 |.nx ρ'=>G ρ'
 |o=>aa o
theorem mG:ug X H0 P0 n0 [] dY:=PSs.imp Fw λD Z H gh=>by
 rw[7];cases ef;exact k Z H fp S
theorem dB (h:DS X H0 P0 n0 s F):ug X H0 P0 n0 [s] F:=Sl h
theorem bP (h:DS X H0 P0 n0 s F)(h2:ug X H0 P0 n0 ss G):ug X H0 P0 n0 (s::ss) (aT F G):=PSs.imp (Xg h h2) λD Z H gh=>by
 rw[7];obtain⟨o1,e1,ef⟩:=ao ef;refine⟨B0,Y,fp,o1,S,e1,?_⟩;cases o1 with
 |nx ρ1=>exact λσ1 H1 vm S1=>⟨B0,ρ1,vm,o,S1,ef,k⟩
 |rt d=>cases ef;exact k
 |bk ρ1=>cases ef;exact k
 |ct ρ1=>cases ef;exact k
def fj (m:Md)(t:BF)(F G:SF):SF:=λY=>(bV m t Y).bind λb=>if b=af then F Y else G Y
theorem kZ{a b:List bZ}{t:BF}(m:Md)(hc:DT X c t)(ha:ug X H0 P0 n0 a F)(hb:ug X H0 P0 n0 b G):DS X H0 P0 n0 (.If c a b pos) (fj m t F G):=
 PS.imp (TV (V8 m hc) ha hb) λD Z H gh=>by
  rw[7];obtain⟨b,e1,ef⟩:=ao ef;refine⟨B0,Y,fp,b,S,e1,λH1 S1=>?_⟩
  cases b with
  |true=>exact oR ⟨B0,Y,fp,o,S1,by simpa using ef,k⟩
  |false=>exact oU ⟨B0,Y,fp,o,S1,by simpa using ef,k⟩
def frz (i:Nat)(Y:aU):aU:=match Y[i]? with
 |some (aa (_,d))=>Y.set i (aa (0,d))
 |_=>Y
theorem Sta.frz{Y:aU}(S:Sta K H0 P0 B0 Y Z H fp)(i:Nat):∃ ce,Sta K H0 P0 B0 (L2.frz i Y) Z H ce:=by
 unfold L2.frz;cases e:Y[i]? with
 |none=>exact⟨fp,S⟩
 |some s=>
  cases s with
  |none=>exact⟨fp,S⟩
  |some q=>
   obtain⟨n,d⟩:=q;have hi:=(cT.1 e).1;have de:∀ a,Hd P0 (λj=>if j=i then [] else fp j) a->Hd P0 fp a:=λa h=>by
    rcases h with h|⟨j,h⟩
    .exact .inl h
    .by_cases hj:j=i
     .simp only[hj,if_true] at h;simp at h
     .simp only[hj,if_false] at h;exact .inr ⟨j,h⟩
   refine⟨λj=>if j=i then [] else fp j,⟨by simp[S.len],λj=>?_,λj k a h1 h2=>?_,λj a h1=>?_,S.ext,S.hd,S.base.trans (gK de),λj n' d' e'=>?_⟩⟩
   .by_cases hj:j=i
    .simp only[hj,if_true];exact .nil
    .simp only[hj,if_false];exact S.nd j
   .by_cases hj:j=i
    .simp only[hj,if_true] at h1;simp at h1
    .by_cases hk:k=i
     .simp only[hk,if_true] at h2;simp at h2
     .simp only[hj,if_false] at h1;simp only[hk,if_false] at h2;exact S.dj j k a h1 h2
   .by_cases hj:j=i
    .simp only[hj,if_true] at h1;simp at h1
    .simp only[hj,if_false] at h1;exact S.own j a h1
   .by_cases hj:j=i
    .subst hj;rw[qB hi] at e';cases e';obtain⟨v,h1,h2⟩:=S.slot j n d e;refine⟨v,h1,?_⟩;rw[25];refine⟨rfl,h2.share (gK de) λa m o q=>gZ (λz=>?_) q⟩
     rcases z with z|⟨k,z⟩
     .exact S.np m z
     .by_cases hk:k=j
      .simp only[hk,if_true] at z;simp at z
      .simp only[hk,if_false] at z;exact hk (S.dj k j a z m)
    .rw[nX (λz=>hj z.symm)] at e'
     obtain⟨v,h1,h2⟩:=S.slot j n' d' e';refine⟨v,h1,?_⟩;simp only[hj,if_false];exact h2.keep (gK de) λa m=>rfl
def jT (i:Nat)(F:SF):SF:=λY=>F (frz i Y)
theorem uJ (i:Nat)(h:ug X H0 P0 n0 ss F):ug X H0 P0 n0 ss (jT i F):=PSs.imp h λD Z H ⟨B0,Y,fp,o,S,ef,k⟩=>let ⟨ce,S'⟩:=S.frz i;⟨B0,_,ce,o,S',ef,k⟩
theorem Tmp.set{Y:aU}(t:Tmp K H0 P0 B0 Y Z n d v H)(hi:i<Y.length):∃ fp,Sta K H0 P0 B0 (Y.set i (aa (n,d))) (Z.set i (aa v)) H fp:=by
 obtain⟨fp,S,r⟩:=t;have cb:Y.length≠i:=by omega
 have de:∀ a,Hd P0 (λj=>if j=i then fp Y.length else if j=Y.length then [] else fp j) a->Hd P0 fp a:=λa h=>by
  rcases h with h|⟨j,h⟩
  .exact .inl h
  .by_cases hj:j=i
   .simp only[hj,if_true] at h;exact .inr ⟨_,h⟩
   .by_cases hk:j=Y.length
    .simp only[hj,if_false,hk,if_true] at h;rw[if_neg cb] at h;simp at h
    .simp only[hj,if_false,hk] at h;exact .inr ⟨j,h⟩
 have Q5:∀ j a,a∈(if j=i then fp Y.length else if j=Y.length then [] else fp j)->(j=i/\a∈fp Y.length)\/(j≠i/\j≠Y.length/\a∈fp j):=λj a h=>by
  by_cases hj:j=i
  .simp only[hj,if_true] at h;exact .inl ⟨hj,h⟩
  .by_cases hk:j=Y.length
   .rw[if_neg hj,if_pos hk] at h;simp at h
   .rw[if_neg hj,if_neg hk] at h;exact .inr ⟨hj,hk,h⟩
 refine⟨λj=>if j=i then fp Y.length else if j=Y.length then [] else fp j,⟨by simp[S.len],λj=>?_,λj k a h1 h2=>?_,λj a h1=>?_,S.ext,S.hd,S.base.trans (gK de),λj n' d' e'=>?_⟩⟩
 .by_cases hj:j=i
  .rw[if_pos hj];exact S.nd _
  .by_cases hk:j=Y.length
   .rw[if_neg hj,if_pos hk];exact .nil
   .rw[if_neg hj,if_neg hk];exact S.nd _
 .rcases Q5 j a h1 with⟨e1,m1⟩|⟨e1,l1,m1⟩<;>rcases Q5 k a h2 with⟨e2,m2⟩|⟨e2,l2,m2⟩
  .rw[e1,e2]
  .exact absurd (S.dj _ _ a m2 m1) l2
  .exact absurd (S.dj _ _ a m1 m2) l1
  .exact S.dj j k a m1 m2
 .rcases Q5 j a h1 with⟨e1,m1⟩|⟨e1,l1,m1⟩
  .exact S.own _ a m1
  .exact S.own _ a m1
 .by_cases hj:j=i
  .subst hj;rw[qB hi] at e';cases e';refine⟨v,?_,?_⟩
   .rw[qB (by rw[S.len];exact hi)]
   .rw[if_pos rfl];exact r.keep (gK de) λa m=>rfl
  .rw[nX (λz=>hj z.symm)] at e'
   have cf:=(cT.1 e').1;have hk:j≠Y.length:=by omega
   obtain⟨v',h1,h2⟩:=S.slot j n' d' e';refine⟨v',?_,?_⟩
   .rw[nX (λz=>hj z.symm)];exact h1
   .rw[if_neg hj,if_neg hk];exact h2.keep (gK de) λa m=>rfl
def bJ (i n:Nat)(m:Md)(f:EF):SF:=λY=>(eV n m f Y).bind λd=>if i<Y.length then aa (.nx (Y.set i (aa (n,d)))) else ae
theorem jD{jz:bQ}(n:Nat)(m:Md)(hN:X.N.Nodup)(hi:X.N[i]?=aa x)(hx:kK X.env.scope x)(he:DF n X e f)(hs:mQ e (aa (.Name x jz)) pos.line X.env=pure ag:=by rfl)(hf:X.fn x=af\/X.env.scope.names.lookup x=aa .local:=by first|exact .inl rfl|exact .inr rfl|assumption) :
  DS X H0 P0 n0 (.Assign [.Name x jz] e pos) (bJ i n m f):=PS.imp (PN hN hi hx (ev m he) hs hf) λD Z H gh=>by
 rw[7];rw[17];obtain⟨hl,rfl⟩:=cQ ef;refine⟨B0,Y,fp,d,S,e1,λv H' t=>?_⟩
 obtain⟨ce,S'⟩:=t.set hl;exact k _ _ ce S'
theorem Tmp.ret{Y:aU}(t:Tmp K H0 P0 B0 Y Z n d v H):SI K H0 P0 n d v H:=by
 obtain⟨fp,S,r⟩:=t;refine⟨fp Y.length,S.ext,S.nd _,λa m=>⟨(S.own _ a m).1,?_⟩,r.keep (gK λa h=>?_) λa m=>rfl⟩
 .rcases(S.own _ a m).2 with⟨xs,e⟩|⟨xs,e⟩
  .exact⟨_,e⟩
  .exact⟨_,e⟩
 .rcases h with h|h
  .exact .inl h
  .exact .inr ⟨_,h⟩
def cN (n:Nat)(m:Md)(f:EF):SF:=λY=>(eV n m f Y).bind λd=>aa (.rt d)
theorem lB (m:Md)(he:DF n0 X e f):DS X H0 P0 n0 (.Return (aa e) pos) (cN n0 m f):=PS.imp (zN (ev m he)) λD Z H gh=>by
 rw[7];rw[17];cases ef;exact⟨B0,Y,fp,d,S,e1,λv H' t=>k v H' t.ret⟩
def jX (i n0:Nat):SF:=λY=>match Y[i]? with
 |some (aa (n,d))=>if n=n0 then aa (.rt d) else ae
 |_=>ae
theorem AD (i:Nat)(hN:X.N[i]?=aa x:=by rfl)(hv:iY X.env.scope x:=by first|exact bK rfl|exact bW (bK rfl)|exact bW (bW rfl))(hd:(x==("__debug__" : aC))=ag:=by decide)
  (ft:(x==("__classdict__" : aC))=ag:=by decide):DS X H0 P0 n0 (.Return (aa (.Name x p)) pos) (jX i n0):=PS.imp (zN (kA hN hv hd ft)) λD Z H gh=>by
 rw[7];unfold jX at ef;cases e:Y[i]? with
 |none=>rw[e] at ef;simp at ef
 |some q=>
  cases q with
  |none=>rw[e] at ef;simp at ef
  |some q=>
   obtain⟨n,d⟩:=q;rw[e] at ef;obtain⟨rfl,rfl⟩:=cQ ef;obtain⟨v,h1,h2⟩:=S.slot i n d e;refine⟨v,h1,k v H ⟨fp i,S.ext,S.nd i,λa m=>⟨(S.own i a m).1,?_⟩,h2.keep (gK λa h=>?_) λa m=>rfl⟩⟩
   .rcases(S.own i a m).2 with⟨xs,e⟩|⟨xs,e⟩
    .exact⟨_,e⟩
    .exact⟨_,e⟩
   .rcases h with h|h
    .exact .inl h
    .exact .inr ⟨_,h⟩
def tY (m:Md)(f:EF):SF:=λY=>(eV 0 m f Y).bind λ_=>aa (.nx Y)
theorem KR (m:Md)(he:DE X e f)(hs:mQ e ae pos.line X.env=pure ag:=by rfl):DS X H0 P0 n0 (.Expr e pos) (tY m f):=PS.imp (zX (ev m he) hs) λD Z H gh=>by
 rw[7];rw[17];cases ef;refine⟨B0,Y,fp,d,S,e1,λv H' ⟨ce,S',r⟩=>k _ _ ce S'⟩
end
theorem Yt:Adw X (.builtin "isinstance") (λxs H Q=>∃ x T t b,xs=[x,.ty T]/\TyOf X.K H x t/\Gu X.K t (.type T)=aa b/\Q (.bl b) H):=by
 rw[6];obtain⟨x,T,t,b,rfl,ty,e,q⟩:=h;obtain⟨u,w',rfl,ru,on⟩:=vals2 r;cases on;exact C3 I ru ty e λtk=>⟨.bl b,H,I.tok tk,rfl,q⟩
def DV (x:aC):It:=⟨λi _=>i<x.cps.size,λi H v H'=>H'=H/\∃ c,x.cps[i]?=aa c/\v=.str ⟨#[c]⟩,λi _=>x.cps.size<=i⟩
theorem ZS {P:bT}{it:aD}{Z6:Tok}{ty:String}
  (W:∀ A':cB,A'.handled=ae->Walks P w A' it [it] [it] x.cps.size (SignAt x) (λi h=>h.IsStrIter it ty x Z6 i))
  (sf:∀ (A:cB) (i:Nat) (s:aH) (Q:aE->aH->Prop) (E:aE->aH->Prop),s.heap.IsStrIter it ty x Z6 i->Q (.ref it) s->aM (aO P w) A (lL (.ref it)) Q E s)
  (qz:["enumerate","zip","dict_itemiterator","dict_reverseitemiterator","odict_iterator","itertools.zip_longest","itertools.pairwise"].contains ty=ag) :
  Turn P w K tg (DV x) [it] it (λi h=>h.IsStrIter it ty x Z6 i/\i<=x.cps.size) where
 mem:=by simp
 obj:=λi h st b hb=>by
  have e:b=it:=by simpa using hb
  subst e;obtain⟨o,e,_,d⟩:=st.1;exact⟨o,e,λv z=>by rw[d] at z;cases z⟩
 keep:=λi h h' st k=>⟨let ⟨o,e,r⟩:=st.1;⟨o,k it (by simp) o e,r⟩,st.2⟩
 item:=by
  rw[2];rw[14];refine(W X.A (I.ok.hd hc)).item i s _ _ hg st.1 λv h' tk hv kc kk=>?_
  obtain⟨c,u,hcx,rfl⟩:=hv;have I1:Inv X ad Z H { s with heap:=h',toks:=tk }:=I.turned (λb o hb e=>kk b o (by simpa using hb) e) f0 f1 f3 f4 f5
  obtain⟨o,e,hcl,d⟩:=id kc;exact⟨_,rfl,CD (s:={ s with heap:=h',toks:=tk }) e hcl d qz ⟨.str ⟨#[c]⟩,H,I1,⟨u,rfl⟩,⟨rfl,c,hcx,rfl⟩,⟨kc,hg⟩,λb hb=>(hf b hb).1⟩⟩
 done:=by
  rw[2];rw[14];have hi:i=x.cps.size:=Nat.le_antisymm st.2 hg;subst hi;exact(W X.A (I.ok.hd hc)).done s _ _ st.1 λh' tk kk=>⟨rfl,I.turned (λb o hb e=>kk b o (by simpa using hb) e) f0 f1 f3 f4 f5⟩
 self:=λA i s Q E st h=>sf A i s Q E st.1 h
def Kg (tl:TE):TI:=λZ H R=>tl Z H λv H1=>∃ x,v=.str x/\R (DV x) H1
theorem Pc {X:Cx}{l:aR}{tl:TE}(hl:PE X l tl):PI X tg l (Kg tl):=by
 intro ad s Z H R I h;refine bo (hl ad s Z H _ I h) λv s1 gh=>?_
 obtain⟨y,H1,I1,r1,q1⟩:=gh;obtain⟨x,rfl,q⟩:=q1;obtain⟨t,rfl⟩:=r1;have fin:∀ (o:aZ) (ty:String),Turn X.prog X.w X.K tg (DV x) [s1.heap.objs.size] s1.heap.objs.size (λi h=>h.IsStrIter s1.heap.objs.size ty x t i/\i<=x.cps.size)->(s1.heap.push o).IsStrIter s1.heap.objs.size ty x t 0 ->
   PIE X ad Z tg R (.ref s1.heap.objs.size) { s1 with heap:=s1.heap.push o }:=λo ty T st=>by
  refine⟨s1.heap.objs.size,[s1.heap.objs.size],_,_,H1,rfl,I1.kept λb o e=>bN _ e,T,⟨st,eO _⟩,λb hb=>?_,q⟩
  have e:b=s1.heap.objs.size:=by simpa using hb
  subst e;exact I1.fpOk (bE _) (I1.hok.fresh (bE _))
 cases ha:x.cps.all (· < 128)
 .exact wpAny_pyIter_wide ha (fin _ "str_iterator" (ZS (λA' hA=>Walks.strWide hA _ x t) (λA i s Q E st h=>wpAny_pyIter_striter_wide st h) (by decide)) ⟨_,cW _ rfl,rfl,rfl⟩)
 .exact wpAny_pyIter_ascii ha (fin _ "str_ascii_iterator" (ZS (λA' hA=>Walks.strAscii hA _ x t) (λA i s Q E st h=>wpAny_pyIter_striter_ascii st h) (by decide)) ⟨_,cW _ rfl,rfl,rfl⟩)
def allB (xs:List V):Bool:=xs.all λv=>decide (v=.bl af)
theorem p8 (hc:X.calm=af):Adw X (.builtin "all") (λxs H Q=>∃ p ys,xs=[.ref p]/\SqL X.K H p ys/\(∀ y∈ys,∃ b,y=.bl b)/\Q (.bl (allB ys)) H):=by
 rw[6];obtain⟨p,ys,rfl,hs,hb,q⟩:=h;rw[12];obtain⟨its,rv,pl,hz⟩:=I.list hs;have hl:=pl.isList;have cf:p<s.heap.objs.size:=by obtain⟨o,n,e,_⟩:=pl;exact bU e
 have hh:=I.ok.hd hc;have len:=rv.length;refine call_all_walk (CI hl ⟨s.heap.objs.size,_,_,_,_,_,λi=>decide (ys[i]?=aa (.bl af)),rfl,Walks.list (A:=X.A.in1) hh s.heap.objs.size p (cI cf) its.toArray,
  ⟨⟨_,cW _ rfl,rfl,rfl⟩,hl.at λo e=>bN _ e⟩,?_,?_⟩)
 .intro i v s' Q' E' hv hq;have N0:its[i]?=aa v:=by simpa using hv
  have hi:i<ys.length:=by rw[len];exact(cT.1 N0).1
  obtain⟨b,hy⟩:=hb ys[i] (iW hi);have qi:ys[i]?=aa (.bl b):=by rw[fA hi,hy]
  obtain⟨u',h1,h2⟩:=rv.get qi;rw[N0] at h1;cases h1;cases h2;refine QA ?_;have:decide (ys[i]?=aa (V.bl af))=b:=by rw[qi];cases b<;>simp
  have hq:Q' (decide (ys[i]?=aa (V.bl af))) s':=hq;rw[this] at hq;exact hq
 .intro h' tk hk;have e:((bY its.toArray.size).all λi=>decide (ys[i]?=aa (V.bl af)))=allB ys:=by
   have hn:its.toArray.size=ys.length:=by simp[len]
   rw[hn];unfold allB;rw[pE];simp only[eB,gM,decide_eq_true_eq];constructor
   .intro h v hv;obtain⟨i,hi,rfl⟩:=yO hv;have:=h i hi;rw[fA hi] at this;exact fF this
   .intro h i hi;rw[fA hi,h _ (iW hi)]
  rw[e];refine⟨.bl (allB ys),H,?_,rfl,q⟩;exact I.kept λb o eb=>hk b o (by simp;exact cI (bU eb)) (bN _ eb)
structure Def (P:bT)(w:bB)(K:aK)(mg:aC->Option aE)(base:aQ)(x:aC)(k:Nat)(ps:List aC)(sp:Sp):Prop where
 ex:∃ f fd,FnOk P w K mg base cv k f fd ps sp/\mg x=aa (.ref f)/\vD K (.ref f)=af/\Binds K fd ps []
section
variable {k:Nat}{t:TA}
theorem Pk (D:Def X.prog X.w X.K X.mg X.base x k ps sp)(hr:Room k X.A)(hg:Gl X x)(ha:PA X (e::es) t)(uo:(x==("__debug__" : aC))=ag:=by decide)(he:bH (e::es) X.env=(ag,bM e X.env)::bH es X.env:=by rfl)
  (ix:(eR pos (bH es X.env)).any (·.1)=ag:=by rfl):PE X (.Call (.Name x p) (e::es) [] pos) (TY sp [] E0 t):=by
 obtain⟨f,fd,F,hm,hk,hb⟩:=D.ex;exact Rh F hr hg hm hk hb .nil Kl ha uo he ix
end
def JA (a b:String):Option Bool:=if (kE a==kE b)=af then aa af else if PySem.W.kitMeta b=af then(fastBuiltinMro a).map (·.contains (.type b)) else ae
theorem Anr{a b:String}:Gu K (.type a) (.type b)=JA a b:=rfl
def kinds:List String:=["NoneType","bool","int","str","list","tuple","dict"]
def uj (t T:String):Bool:=t==T||(t == "bool" && T == "int")
theorem Vu:(kinds.all λt=>["int","bool","str","list","tuple","dict"].all λT=>decide (JA t T=aa (uj t T)))=af:=by rw[0]
theorem Sx {t:String}(ht:t∈kinds)(hT:T∈["int","bool","str","list","tuple","dict"]):JA t T=aa (uj t T):=by
 have h:=eB.1 Vu t ht;have h:=eB.1 h T hT;exact of_decide_eq_true h
def Kd (K:aK)(H:Hp)(x:V)(t:String):Prop:=TyOf K H x (.type t)/\t∈kinds
theorem Kd.int{x:V}(h:Kd K H x "int"):∃ i,x=.int i:=by
 obtain⟨h,_⟩:=h;generalize e:kE "int" = t at h;cases h<;>first|exact⟨_,rfl⟩|exact absurd (Value.type.inj e) (by decide)|cases e
theorem Kd.str{x:V}(h:Kd K H x "str"):∃ i,x=.str i:=by
 obtain⟨h,_⟩:=h;generalize e:kE "str" = t at h;cases h<;>first|exact⟨_,rfl⟩|exact absurd (Value.type.inj e) (by decide)|cases e
theorem Lh(hg:Gl X x)(hm:X.mg x=ae)(hv:oY x=aa (.type T))(hn:x ≠ "__name__":=by decide)(hd:(x==("__debug__" : aC))=ag:=by decide):PE X (.Name x pos) (tC (.ty T)):=
 Qs hg hm hv rfl hn hd
theorem boot_isinstance:oY "isinstance" = aa (.builtin "isinstance"):=by rw[0]
theorem boot_all:oY "all" = aa (.builtin "all"):=by rw[0]
theorem bits_le {i:Int}(h:i.natAbs<2^n):nZ i<=n:=by
 unfold nZ;split
 .exact eO _
 .rename_i cb;have h0:i.natAbs≠0:=by
   intro z;apply cb;simp[Int.natAbs_eq_zero.1 z]
  have:=(Nat.log2_lt h0).2 h;omega
theorem Ro:OpR X (kC .Mult) (rI (λi j=>i.natAbs<2^1000/\j.natAbs<2^1000) λi j=>.int (i*j)):=O3 λi j _ _ _ _ _ hc q=>
 mul_int q (K1 (bits_le hc.1) (bits_le hc.2) (by decide))
theorem dQ{k:Nat}(hr:Room k A):A.units+100<cLine:=by
 have:=hr.un;omega
theorem NV:∀ {xs:List V} {us:List aE},xs.length=us.length->(∀ (j:Nat) x u,xs[j]?=aa x->us[j]?=aa u->RelV x u)->Vals xs us
 |[],[],_,_=>.nil
 |[],_::_,h,_=>by simp at h
 |_::_,[],h,_=>by simp at h
 |x::xs,u::us,h,r=>.cons (r 0 x u rfl rfl) (NV (by simpa using h) λj y w h1 h2=>r (j+1) y w (by simpa using h1) (by simpa using h2))
def tT (c:Nat):V:=.str ⟨#[c]⟩
theorem Xo (hc:X.calm=af):Adw X (.type "list") (λxs H Q=>∃ z:aC,xs=[.str z]/\z.length<=sizeLine/\∀ l,H l=ae->Q (.ref l) (upd H l (.lst (z.cps.toList.map tT)))):=by
 rw[6];obtain⟨z,rfl,hz,q⟩:=h;obtain⟨u,rfl,t,rfl⟩:=vals1 r;refine call_list_str (I.ok.hd hc) z t (λh' tk bq c' hk hS fw=>?_) hz
 have hv:Vals (z.cps.toList.map tT) bq.toList:=by
  refine NV (by simp[fw.1]) λj x u h1 h2=>?_
  obtain⟨c,t',vk,rfl⟩:=fw.2 j u (by simpa using h2)
  have:(z.cps.toList.map tT)[j]?=aa (tT c):=by simp[vk]
  rw[this] at h1;cases h1;exact⟨t',rfl⟩
 exact⟨.ref s.heap.objs.size,_,I.laid hk (bE _) (show Adc X.prog X.w _ h' _ (.lst (z.cps.toList.map tT)) from⟨by rw[cJ,fZ];exact hz,bq.toList,c',hv,by simpa using hS⟩),rfl,q _ I.fresh⟩
def vt (K:aK)(B:Hp)(J:It)(ds:List aA):Prop:=∀ (i:Nat) (H2:Hp),Ext B H2 ->
 (∀ d,ds[i]?=aa d->J.go i H2/\∀ x H3,J.yld i H2 x H3->Ext H2 H3/\∀ P2,Hid P2 H2->Ext B (hid H2 P2)->Abm K (hid H3 P2) d x)/\(ds.length=i->J.stop i H2)
def tI (K:aK)(f:AF):TI:=λZ H R=>∃ P Y ds,Hid P H/\Aob K (hid H P) Y Z/\f Y=aa ds/\∀ J H',Ext H H'->vt K (hid H' P) J ds->R J H'
def tI0 (K:aK)(f:AF):TI:=λZ H R=>∃ P Y ds,Hid P H/\Aob K (hid H P) Y Z/\f Y=aa ds/\∀ J H',Ext H H'->vt K (λ_=>ae) J ds->R J H'
abbrev DI (X:Cx)(tg e:aR)(f:AF):Prop:=PI X tg e (tI X.K f)
abbrev X7 (X:Cx)(tg e:aR)(f:AF):Prop:=PI X tg e (tI0 X.K f)
def itemsOf:aA->Option (List aA)
 |.list ds=>aa ds
 |.tuple ds=>aa ds
 |.str x=>aa (x.cps.toList.map λc=>.str ⟨#[c]⟩)
 |_=>ae
def bt (f:EF):AF:=λY=>(f Y).bind itemsOf
section
variable {a:aR}
theorem PI.imp {t t':TI}(h:PI X tg e t)(w:∀ Z H R,t' Z H R->t Z H R):PI X tg e t':=λad s Z H R I q=>h ad s Z H R I (w _ _ _ q)
theorem PI.or {t t':TI}(h:PI X tg e t)(h':PI X tg e t'):PI X tg e (λZ H R=>t Z H R\/t' Z H R):=λad s Z H R I q=>q.elim (h ad s Z H R I) (h' ad s Z H R I)
theorem Vw{a:aD}(h:SqL K B a xs)(r:Aap K B ds xs):vt K B (IT K a) ds:=λi H2 x2=>by
 have h2:=x2.sqL h;refine⟨λd hd=>?_,λe=>⟨xs,h2,by rw[r.length];omega⟩⟩
 obtain⟨v,h3,h4⟩:=r.get hd;refine⟨⟨xs,v,h2,h3⟩,?_⟩;rintro x H3 ⟨rfl,hx⟩;have:=h3.symm.trans (hx xs h2);cases this;exact⟨Ext.refl,λP2 _ xb=>h4.ext xb⟩
theorem Pw{a:aD}(h:B a=aa (.tup xs))(r:Aap K B ds xs):vt K B (IR K a) ds:=λi H2 x2=>by
 have h2:SqT K H2 a xs:=SqT.of (x2 _ _ h);refine⟨λd hd=>?_,λe=>⟨xs,h2,by rw[r.length];omega⟩⟩
 obtain⟨v,h3,h4⟩:=r.get hd;refine⟨⟨xs,v,h2,h3⟩,?_⟩;rintro x H3 ⟨rfl,hx⟩;have:aa v=aa x:=h3.symm.trans (hx xs h2);cases this;exact⟨Ext.refl,λP2 _ xb=>h4.ext xb⟩
theorem LA {z:aC}{c:Nat}(h:cH (.str z)=af)(hc:z.cps.toList[i]?=aa c):cH (.str ⟨#[c]⟩)=af:=by
 have hz:∀ d∈z.cps,d<0x110000:=by
  have h':z.cps.all (· < 0x110000)=af:=by simpa only[cH,HQ] using h
  intro d hd;exact of_decide_eq_true (Array.all_eq_true'.1 h' d hd)
 have:=hz c (by simpa using fH hc)
 simp[cH,HQ,this]
theorem Sj{z:aC}(hl:cH (.str z)=af):vt K B (DV z) (z.cps.toList.map λc=>.str ⟨#[c]⟩):=λi H2 x2=>by
 refine⟨λd hd=>?_,λe=>?_⟩
 .rw[eW] at hd;cases hc:z.cps.toList[i]? with
  |none=>rw[hc] at hd;simp at hd
  |some c=>
   rw[hc] at hd;have hd:cK ⟨#[c]⟩=d:=by simpa using hd
   subst hd;have cf:i<z.cps.size:=by simpa using(cT.1 hc).1
   refine⟨cf,?_⟩;rintro x H3 ⟨rfl,c',il,rfl⟩;have:z.cps.toList[i]?=aa c':=by simpa using il
   rw[hc] at this;cases this;exact⟨Ext.refl,λP2 _ _=>Aay.2 ⟨rfl,LA hl hc⟩⟩
 .have:z.cps.size=i:=by simpa using e
  exact Nat.le_of_eq this
theorem A3{lo:Int}:vt K B (DX lo n) ((bY n).map λ(k:Nat)=>aW (lo+k)):=λi H2 x2=>by
 refine⟨λd hd=>?_,λe=>?_⟩
 .have cf:i<n:=by
   have:=(cT.1 hd).1;simpa using this
  have qv:aW (lo+i)=d:=by
   rw[eW,Hy cf] at hd;simpa using hd
  subst qv;refine⟨cf,?_⟩;rintro x H3 ⟨rfl,rfl⟩;exact⟨Ext.refl,λP2 _ _=>Aal.2 rfl⟩
 .have:n=i:=by simpa using e
  exact Nat.le_of_eq this
theorem fT {f:EF}(h:DE X e f):DI X tg e (bt f):=PI.imp (PI.or (To h) (PI.or (Nz h) (Pc h))) λZ H R gh=>by
 obtain⟨P,Y,ds,hP,rs,ef,k⟩:=gh;rw[17];cases d with
 |list wl=>
  have:wl=ds:=by simpa [itemsOf] using ef
  rw[20];refine .inl ⟨P,Y,_,hP,rs,e1,eG λv H1 x1 r1=>?_⟩
  obtain⟨a,xs,rfl,hr,rr⟩:=Abb.1 r1;exact⟨a,rfl,⟨xs,Aas.sqL hr⟩,k _ H1 x1 (Vw hr rr)⟩
 |tuple wl=>
  have:wl=ds:=by simpa [itemsOf] using ef
  rw[20];refine .inr (.inl ⟨P,Y,_,hP,rs,e1,eG λv H1 x1 r1=>?_⟩)
  obtain⟨a,xs,rfl,hr,rr⟩:=Aar.1 r1;exact⟨a,rfl,⟨xs,SqT.of (Aas _ _ hr)⟩,k _ H1 x1 (Pw hr rr)⟩
 |str z=>
  have:z.cps.toList.map (λc=>cK ⟨#[c]⟩)=ds:=by simpa [itemsOf] using ef
  rw[20];refine .inr (.inr ⟨P,Y,_,hP,rs,e1,eG λv H1 x1 r1=>?_⟩)
  exact⟨z,(Aay.1 r1).1,k _ H1 x1 (Sj (Aay.1 r1).2)⟩
 |_=>simp[itemsOf] at ef
def IY (lo hi:Int):Option (List aA):=if -(2^62)<=lo/\lo<2^62 /\ -(2^62)<=hi/\hi<2^62 then aa ((bY (hi-lo).toNat).map λ(k:Nat)=>aW (lo+k)) else ae
def qt (fa:AF):AF:=λY=>(fa Y).bind λds=>match ds with
 |[.int j]=>IY 0 j
 |_=>ae
theorem D1 {fa:AF}(hg:Gl X "range")(hm:X.mg "range" = ae)(ha:DA X [a] fa)(hs:bH [a] X.env=[(ag,bM a X.env)]:=by rfl):X7 X tg (.Call (.Name "range" p) [a] [] pos) (qt fa):=PI.imp (E3 hg hm ha hs) λZ H R gh=>by
 obtain⟨P,Y,ds,hP,rs,ef,k⟩:=gh;obtain⟨as,e1,ef⟩:=ao ef;refine⟨P,Y,as,hP,rs,e1,λvs H1 x1 r1=>?_⟩
 split at ef
 .rename_i j;obtain⟨hb,rfl⟩:=cQ ef;obtain⟨v,t,rfl,h1,h2⟩:=Aah.1 r1;obtain rfl:=Aan.1 h2;obtain rfl:=Aal.1 h1;have e0:(j-0).toNat=j.toNat:=by simp
  refine⟨j,rfl,hb.2.2.1,hb.2.2.2,k _ H1 x1 ?_⟩;rw[e0];exact A3
 .cases ef
theorem zP {f:AF}(h:X7 X tg e f):DI X tg e f:=PI.imp h λZ H R ⟨P,Y,ds,hP,rs,ef,k⟩=>⟨P,Y,ds,hP,rs,ef,λJ H' x it=>k J H' x λi H2 x2=>by
 obtain⟨h1,h2⟩:=it i H2 (λ_ _ e=>by cases e)
 exact⟨λd hd=>⟨(h1 d hd).1,λv H3 y=>⟨((h1 d hd).2 v H3 y).1,λP2 hp _=>((h1 d hd).2 v H3 y).2 P2 hp λ_ _ e=>by cases e⟩⟩,h2⟩⟩
def tI' (K:aK)(H0:Hp)(P0:aD->Prop)(m:Md)(f:AF):TI:=λZ H R=>∃ B0 Y fp ds,Sta K H0 P0 B0 Y Z H fp/\aV m f Y=aa ds/\∀ J B1 H',Sta K H0 P0 B1 Y Z H' fp->Ext B0 B1->vt K B1 J ds->R J H'
theorem Sta.rebase{B1:Hp}{Y:aU}(S:Sta K H0 P0 B0 Y Z H fp)(b:Ext B1 (L2.hid H (Hd P0 fp))):Sta K H0 P0 B1 Y Z H fp:=⟨S.len,S.nd,S.dj,S.own,S.ext,S.hd,b,S.slot⟩
theorem evI {f:AF}(h:DI X tg e f):PI X tg e (tI' X.K H0 P0 .s f):=PI.imp h λZ H R ⟨B0,Y,fp,ds,S,ef,k⟩=>
 ⟨Hd P0 fp,vS Y,ds,S.hid,S.viewS,ef,λJ H' x it=>k J _ H' ((S.grow x).rebase Ext.refl) (S.grow x).base it⟩
theorem Jz {f:AF}(m:Md)(h:X7 X tg e f):PI X tg e (tI' X.K H0 P0 m f):=PI.imp h λZ H R gh=>by
 obtain⟨B0,Y,fp,ds,S,ef,k⟩:=gh;have up:∀ {J:It} {B:Hp},vt X.K (λ_=>ae) J ds->vt X.K B J ds:=λ{J B} it i H2 x2=>by
  obtain⟨h1,h2⟩:=it i H2 (λ_ _ e=>by cases e)
  exact⟨λd hd=>⟨(h1 d hd).1,λv H3 y=>⟨((h1 d hd).2 v H3 y).1,λP2 hp _=>((h1 d hd).2 v H3 y).2 P2 hp λ_ _ e=>by cases e⟩⟩,h2⟩
 cases m with
 |s=>exact⟨Hd P0 fp,vS Y,ds,S.hid,S.viewS,ef,λJ H' x it=>k J _ H' (S.grow x) Ext.refl (up it)⟩
 |a=>exact⟨P0,vA Y,ds,S.hd.ext S.ext,S.viewA,ef,λJ H' x it=>k J _ H' (S.grow x) Ext.refl (up it)⟩
end
def tG (K:aK)(H0:Hp)(P0:aD->Prop)(T:aA->aU->Option aU):TG:=λv Z H Q=>∃ B0 Y fp d ρ',Sta K H0 P0 B0 Y Z H fp/\Abm K (hid H (Hd P0 fp)) d v/\T d Y=aa ρ'/\∀ σ' ce,Sta K H0 P0 B0 ρ' σ' H ce->Q σ' H
abbrev DG (X:Cx)(H0:Hp)(P0:aD->Prop)(tg:aR)(T:aA->aU->Option aU):Prop:=PG X tg (tG X.K H0 P0 T)
theorem PG.imp{t t':TG}(h:PG X tg t)(w:∀ v Z H Q,t' v Z H Q->t v Z H Q):PG X tg t':=λad s Z H v u Q I r q=>h ad s Z H v u Q I r (w _ _ _ _ q)
theorem Sta.Ao4{Y:aU}(S:Sta K H0 P0 B0 Y Z H fp)(r:Abm K (L2.hid H (Hd P0 fp)) d v)(hi:i<Y.length):∃ ce,Sta K H0 P0 B0 (Y.set i (aa (0,d))) (Z.set i (aa v)) H ce:=by
 have de:∀ a,Hd P0 (λj=>if j=Y.length then [] else fp j) a->Hd P0 fp a:=λa h=>by
  rcases h with h|⟨j,h⟩
  .exact .inl h
  .rw[23]
   .simp only[hj,if_true] at h;simp at h
   .simp only[hj,if_false] at h;exact .inr ⟨j,h⟩
 have S2:Sta K H0 P0 B0 Y Z H (λj=>if j=Y.length then [] else fp j):=by
  refine⟨S.len,λj=>?_,λj k a h1 h2=>?_,λj a h1=>?_,S.ext,S.hd,S.base.trans (gK de),λj n d e=>?_⟩
  .rw[23]
   .simp only[hj,if_true];exact .nil
   .simp only[hj,if_false];exact S.nd j
  .rw[23]
   .simp only[hj,if_true] at h1;simp at h1
   .by_cases hk:k=Y.length
    .simp only[hk,if_true] at h2;simp at h2
    .simp only[hj,if_false] at h1;simp only[hk,if_false] at h2;exact S.dj j k a h1 h2
  .rw[23]
   .simp only[hj,if_true] at h1;simp at h1
   .simp only[hj,if_false] at h1;exact S.own j a h1
  .have cf:=(cT.1 e).1;have hj:j≠Y.length:=by omega
   obtain⟨v',h1,h2⟩:=S.slot j n d e;refine⟨v',h1,?_⟩;simp only[hj,if_false];exact h2.keep (gK de) λa m=>rfl
 refine Tmp.set ⟨_,S2,?_⟩ hi;rw[25];exact⟨rfl,r.ext (gK de)⟩
def js (i:Nat):aA->aU->Option aU:=λd Y=>if i<Y.length then aa (Y.set i (aa (0,d))) else ae
theorem Sv(hN:X.N.Nodup)(hi:X.N[i]?=aa x)(hx:kK X.env.scope x)(hf:X.fn x=af\/X.env.scope.names.lookup x=aa .local:=by first|exact .inl rfl|exact .inr rfl|assumption):DG X H0 P0 (.Name x pos) (js i):=
 PG.imp (wI hN hi hx hf) λv Z H Q gh=>by
  obtain⟨B0,Y,fp,d,ρ',S,r,ef,k⟩:=gh;obtain⟨hl,rfl⟩:=cQ ef;obtain⟨ce,S'⟩:=S.Ao4 r hl;exact k _ ce S'
def mC (i j:Nat):aA->aU->Option aU:=λd Y=>match d with
 |.tuple [a,b]=>(js i a Y).bind λρ'=>js j b ρ'
 |_=>ae
theorem Qb{p1:bQ}{k}(hc:X.calm=af)(hN:X.N.Nodup)(hi:X.N[i]?=aa x)(hj:X.N[j]?=aa y)(hx:kK X.env.scope x)(hy:kK X.env.scope y)
  (hf:X.fn x=af\/X.env.scope.names.lookup x=aa .local:=by first|exact .inl rfl|exact .inr rfl|assumption) (Z7:X.fn y=af\/X.env.scope.names.lookup y=aa .local:=by first|exact .inl rfl|exact .inr rfl|assumption)
  (hn:(iJ [.Name x p1,.Name y p2] X.env).length=2:=by rfl) (jy:(iJ [.Name x p1,.Name y p2] X.env).findIdx? (·.1)=ae:=by rfl)
  (h1:(iJ [.Name x p1,.Name y p2] X.env).map (·.2)=lO (.Name x p1) X.env::(iJ [.Name y p2] X.env).map (·.2):=by rfl) (h2:(iJ [.Name y p2] X.env).map (·.2)=lO (.Name y p2) X.env::(iJ [] X.env).map (·.2):=by rfl):DG X H0 P0 (.Tuple [.Name x p1,.Name y p2] k pos) (mC i j):=
 PG.imp (VX hc (GB (wI hN hi hx hf) (GB (wI hN hj hy Z7) Eu h2) h1) hn jy) λv Z H Q gh=>by
  obtain⟨B0,Y,fp,d,ρ',S,r,ef,k⟩:=gh;unfold mC at ef;split at ef
  .rename_i a b;obtain⟨ρ1,e1,e2⟩:=ao ef;obtain⟨l1,rfl⟩:=cQ e1;obtain⟨l2,rfl⟩:=cQ e2;obtain⟨p,xs,rfl,hp,rr⟩:=Aar.1 r;obtain⟨v1,t1,rfl,r1,rr⟩:=Aah.1 rr;obtain⟨v2,t2,rfl,r2,rr⟩:=Aah.1 rr;obtain rfl:=Aan.1 rr;refine⟨p,_,rfl,SqT.of (Aas _ _ hp),rfl,v1,_,rfl,v2,_,rfl,rfl,?_⟩;have Sb:=S.rebase Ext.refl;obtain⟨vm,S1⟩:=Sb.Ao4 r1 l1;obtain⟨ij,S2⟩:=S1.Ao4 (r2.ext S1.base) l2;exact k _ ij (S2.rebase (S.base.trans S2.base))
  .cases ef
def jV (F:SF)(T:aA->aU->Option aU):List aA->SF
 |[],Y=>aa (.nx Y)
 |d::r,Y=>(T d Y).bind λρ1=>(F ρ1).bind λo=>match o with
  |.nx ρ'=>jV F T r ρ'
  |.ct ρ'=>jV F T r ρ'
  |.bk ρ'=>aa (.nx ρ')
  |.rt d=>aa (.rt d)
def dD (m:Md)(fi:AF)(T:aA->aU->Option aU)(F:SF):SF:=λY=>(aV m fi Y).bind λds=>jV F T ds Y
section
variable {body:List bZ}{F:SF}{T:aA->aU->Option aU}{fi:AF}{m:Md}
theorem YA (hp:CS (aO X.prog X.w) X.A X.env X.xe)(hc:X.calm=af)(hi:PI X tg bu (tI' X.K H0 P0 m fi))(hg:DG X H0 P0 tg T)(hb:ug X H0 P0 n0 body F)
  (hs:∀ x,uW bu X.env x=pure x:=by intro _;rfl):DS X H0 P0 n0 (.For tg bu body [] pos) (dD m fi T F):=PS.imp (Om hp hc hi hg hb hs) λD Z H gh=>by
 rw[7];obtain⟨ds,e1,ef⟩:=ao ef;refine⟨B0,Y,fp,ds,S,e1,λJ B1 H' S1 xb it=>?_⟩
 refine⟨λi m Z H=>m=ds.length-i/\i<=ds.length/\∃ Y fp,Sta X.K H0 P0 B1 Y Z H fp/\jV F T (ds.drop i) Y=aa o,⟨ds.length,by simp,eO _,Y,fp,S1,by simpa using ef⟩,?_⟩
 rintro i m σ2 H2 ⟨rfl,hi,ρ2,ij,S2,e2⟩;have x2:=S2.base.trans Aas;obtain⟨go,st⟩:=it i H2 x2;by_cases cf:i<ds.length
 .have hd:=fA cf;rw[Ii cf] at e2;obtain⟨ρ3,e3,e2⟩:=ao e2;obtain⟨o3,e4,e2⟩:=ao e2;obtain⟨g1,g2⟩:=go _ hd;refine .inr ⟨g1,λσ' H'=>i+1<=ds.length/\∃ Y fp,Sta X.K H0 P0 B1 Y σ' H' fp/\jV F T (ds.drop (i+1)) Y=aa o,λσ' H' ⟨h1,h2⟩=>⟨ds.length-(i+1),by omega,rfl,h1,h2⟩,λx H3 y=>?_⟩
  obtain⟨x3,r3⟩:=g2 x H3 y;refine⟨B1,ρ2,ij,_,ρ3,S2.grow x3,r3 _ S2.hid S2.base,e3,λσ4 fp4 S4=>⟨B1,ρ3,fp4,o3,S4,e4,?_⟩⟩
  cases o3 with
  |nx ρ5=>exact λσ5 H5 xL S5=>⟨cf,ρ5,xL,S5,e2⟩
  |ct ρ5=>exact λσ5 H5 xL S5=>⟨cf,ρ5,xL,S5,e2⟩
  |bk ρ5=>
   cases e2;exact λσ5 H5 xL S5=>k σ5 H5 xL (S5.rebase (xb.trans S5.base))
  |rt d=>
   cases e2;exact k
 .have e:i=ds.length:=by omega
  subst e;rw[List.drop_length] at e2;cases e2;exact .inl ⟨st rfl,k σ2 H2 ij (S2.rebase (xb.trans S2.base))⟩
theorem jM (hp:CS (aO X.prog X.w) X.A X.env X.xe)(hc:X.calm=af)(hi:DI X tg bu fi)(hg:DG X H0 P0 tg T)(hb:ug X H0 P0 n0 body F)
  (hs:∀ x,uW bu X.env x=pure x:=by intro _;rfl):DS X H0 P0 n0 (.For tg bu body [] pos) (dD .s fi T F):=YA hp hc (evI hi) hg hb hs
theorem FF (m:Md)(hp:CS (aO X.prog X.w) X.A X.env X.xe)(hc:X.calm=af)(hi:X7 X tg bu fi)(hg:DG X H0 P0 tg T)(hb:ug X H0 P0 n0 body F)
  (hs:∀ x,uW bu X.env x=pure x:=by intro _;rfl):DS X H0 P0 n0 (.For tg bu body [] pos) (dD m fi T F):=YA hp hc (Jz m hi) hg hb hs
end
def xt (m:Md)(t:BF)(F:SF):Nat->SF
 |0,_=>ae
 |n+1,Y=>(bV m t Y).bind λb=>if b=af then(F Y).bind λo=>match o with
   |.nx ρ'=>xt m t F n ρ'
   |.ct ρ'=>xt m t F n ρ'
   |.bk ρ'=>aa (.nx ρ')
   |.rt d=>aa (.rt d)
  else aa (.nx Y)
section
variable {body:List bZ}{F:SF}{t:BF}
theorem Uk (m:Md)(fuel:Nat)(hp:CS (aO X.prog X.w) X.A X.env X.xe)(hc:DT X c t)(hb:ug X H0 P0 n0 body F):DS X H0 P0 n0 (.While c body [] pos) (xt m t F fuel):=
 PS.imp (Vn hp (V8 m hc) hb) λD Z H gh=>by
  rw[7];refine⟨λn Z H=>∃ Y fp,Sta X.K H0 P0 B0 Y Z H fp/\xt m t F n Y=aa o,⟨fuel,Y,fp,S,ef⟩,?_⟩
  rintro n σ1 H1 ⟨ρ1,vm,S1,e1⟩;cases n with
  |zero=>cases e1
  |succ n=>
   obtain⟨b,e2,e1⟩:=ao e1;refine⟨B0,ρ1,vm,b,S1,e2,λH2 S2=>?_⟩
   cases b with
   |false=>
    have:aa (Out.nx ρ1)=aa o:=by simpa using e1
    cases this;exact oU (k σ1 H2 vm S2)
   |true=>
    rw[if_pos rfl] at e1;obtain⟨o3,e4,e1⟩:=ao e1;refine oR ⟨λσ' H'=>∃ Y fp,Sta X.K H0 P0 B0 Y σ' H' fp/\xt m t F n Y=aa o,λσ' H' h=>⟨n,yJ n,h⟩,B0,ρ1,vm,o3,S2,e4,?_⟩
    cases o3 with
    |nx ρ5=>exact λσ5 H5 xL S5=>⟨ρ5,xL,S5,e1⟩
    |ct ρ5=>exact λσ5 H5 xL S5=>⟨ρ5,xL,S5,e1⟩
    |bk ρ5=>cases e1;exact k
    |rt d=>cases e1;exact k
end
def xg (T:aA->List (Option aA)->Option (List (Option aA)))(t:BF)(f:EF)(Y:List (Option aA)):List aA->Option (List aA)
 |[]=>aa []
 |d::r=>(T d Y).bind λρ1=>(t ρ1).bind λc=>if c=af then(f ρ1).bind λy=>(xg T t f Y r).bind λys=>aa (y::ys) else xg T t f Y r
def lY (cap:List (Option Nat))(Y:List (Option aA)):List (Option aA):=cap.map λo=>o.bind λj=>(Y[j]?).join
def gb (cap:List (Option Nat))(fi:AF)(T:aA->List (Option aA)->Option (List (Option aA)))(t:BF)(f:EF):EF:=λY=>(fi Y).bind λds=>(xg T t f (lY cap Y) ds).bind λys=>if ds.length<=sizeLine then aa (.list ys) else ae
def Y2 (K:aK)(T:aA->List (Option aA)->Option (List (Option aA))):TG:=λv Z H Q=>∃ P Y d ρ',Hid P H/\Aob K (hid H P) Y Z/\Abm K (hid H P) d v/\T d Y=aa ρ'/\∀ σ',Aob K (hid H P) ρ' σ'->Q σ' H
def V6 (T:aA->List (Option aA)->Option (List (Option aA))):Prop:=∀ d Y ρ',T d Y=aa ρ'->∀ (i:Nat) d',Y[i]?=aa (aa d')->ρ'[i]?=aa (aa d')
def cU:BF:=λ_=>aa af
def gB (j:Nat):aA->List (Option aA)->Option (List (Option aA)):=λd Y=>match Y[j]? with
 |some ae=>aa (Y.set j (aa d))
 |_=>ae
theorem EY{ρ':List (Option aA)}(h:gB j d Y=aa ρ'):Y[j]?=aa ae/\Y.set j (aa d)=ρ':=by
 unfold gB at h;split at h
 .rename_i e;exact⟨e,fF h⟩
 .cases h
def M6 (i j:Nat):aA->List (Option aA)->Option (List (Option aA)):=λd Y=>match d with
 |.tuple [a,b]=>(gB i a Y).bind λρ'=>gB j b ρ'
 |_=>ae
theorem fI:V6 (gB j):=λd Y ρ' e i d' h=>by
 obtain⟨hj,rfl⟩:=EY e;by_cases q:j=i
 .subst q;rw[hj] at h;cases h
 .rw[nX q];exact h
theorem Mm:V6 (M6 i j):=λd Y ρ' e k d' h=>by
 unfold M6 at e;split at e
 .obtain⟨ρ1,e1,e2⟩:=ao e;exact fI _ _ _ e2 k d' (fI _ _ _ e1 k d' h)
 .cases e
section
variable {fi:AF}{T:aA->List (Option aA)->Option (List (Option aA))}{t:BF}{f:EF}
theorem iG:vP X [] (zm X.K cU):=λad s Z H Q I gh=>by
 obtain⟨P,Y,b,hP,rs,ef,k⟩:=gh;cases ef;exact Sn ad s Z H Q I (k H Ext.refl)
theorem FK (h:DT X c t):vP X [c] (zm X.K t):=Re h
theorem Aob.set(h:Aob K B Y Z)(r:Abm K B d v)(hl:j<Z.length):Aob K B (Y.set j (aa d)) (Z.set j (aa v)):=λi d' e=>by
 by_cases q:j=i
 .subst q;have hj:j<Y.length:=by
   have:=(cT.1 e).1;simpa using this
  rw[qB hj] at e;cases e;exact⟨v,qB hl,r⟩
 .rw[nX q] at e;obtain⟨w,h1,h2⟩:=h i d' e;exact⟨w,by rw[nX q];exact h1,h2⟩
def DGB (X:Cx)(tg:aR)(T:aA->List (Option aA)->Option (List (Option aA))):Prop:=
 ∀ (ad:List (aD×aZ)) (s:aH) (Z:St) (H:Hp) (v:V) (u:aE) (Q:St->Hp->Prop),Inv X ad Z H s->RelV v u->Y2 X.K T v Z H Q ->
  aM (aO X.prog X.w) X.A (lO tg X.env u) (λ_ s'=>∃ σ' H',Inv X ad σ' H' s'/\Q σ' H') X.xe s
theorem gD(hN:X.N.Nodup)(hi:X.N[j]?=aa x)(hx:kK X.env.scope x)(hf:X.fn x=af\/X.env.scope.names.lookup x=aa .local:=by first|exact .inl rfl|exact .inr rfl|assumption):DGB X (.Name x pos) (gB j):=λad s Z H v u Q I r gh=>by
 obtain⟨P,Y,d,ρ',hP,rs,rd,ef,k⟩:=gh;obtain⟨hj,rfl⟩:=EY ef;have hl:j<Z.length:=by rw[I.len];exact(cT.1 hi).1
 exact wI hN hi hx hf ad s Z H v u Q I r (k _ (rs.set rd hl))
theorem Wz{p1:bQ}{kk}(hc:X.calm=af)(hN:X.N.Nodup)(hi:X.N[i]?=aa x)(hj:X.N[j]?=aa y)(hx:kK X.env.scope x)(hy:kK X.env.scope y)
  (hf:X.fn x=af\/X.env.scope.names.lookup x=aa .local:=by first|exact .inl rfl|exact .inr rfl|assumption) (Z7:X.fn y=af\/X.env.scope.names.lookup y=aa .local:=by first|exact .inl rfl|exact .inr rfl|assumption)
  (hn:(iJ [.Name x p1,.Name y p2] X.env).length=2:=by rfl) (jy:(iJ [.Name x p1,.Name y p2] X.env).findIdx? (·.1)=ae:=by rfl)
  (h1:(iJ [.Name x p1,.Name y p2] X.env).map (·.2)=lO (.Name x p1) X.env::(iJ [.Name y p2] X.env).map (·.2):=by rfl) (h2:(iJ [.Name y p2] X.env).map (·.2)=lO (.Name y p2) X.env::(iJ [] X.env).map (·.2):=by rfl):DGB X (.Tuple [.Name x p1,.Name y p2] kk pos) (M6 i j):=λad s Z H v u Q I r gh=>by
 obtain⟨P,Y,d,ρ',hP,rs,rd,ef,k⟩:=gh;unfold M6 at ef;split at ef
 .rename_i a b;obtain⟨ρ1,e1,e2⟩:=ao ef;obtain⟨l1,rfl⟩:=EY e1;obtain⟨l2,rfl⟩:=EY e2;obtain⟨p,xs,rfl,hp,rr⟩:=Aar.1 rd;obtain⟨v1,t1,rfl,r1,rr⟩:=Aah.1 rr;obtain⟨v2,t2,rfl,r2,rr⟩:=Aah.1 rr;obtain rfl:=Aan.1 rr;have hl:i<Z.length:=by rw[I.len];exact(cT.1 hi).1
  have Z8:j<Z.length:=by rw[I.len];exact(cT.1 hj).1
  exact VX hc (GB (wI hN hi hx hf) (GB (wI hN hj hy Z7) Eu h2) h1) hn jy ad s Z H _ u Q I r ⟨p,_,rfl,SqT.of (Aas _ _ hp),rfl,v1,_,rfl,v2,_,rfl,rfl,k _ ((rs.set r1 hl).set r2 (by simpa using Z8))⟩
 .cases ef
theorem Wh(h:Aob K B Y Z):Aob K B (lY cap Y) (vO cap Z):=λi d e=>by
 unfold lY at e;unfold vO;rw[eW] at e ⊢;cases hc:cap[i]? with
 |none=>rw[hc] at e;simp at e
 |some o=>
  rw[hc] at e;cases o with
  |none=>simp at e
  |some j=>
   simp only[pW,bS,HR] at e ⊢;obtain⟨v,h1,h2⟩:=h j d (YO e);exact⟨v,by rw[h1];rfl,h2⟩
theorem TQ(hT:V6 T):∀ Z H Q,tF K 1 (gb cap fi T t f) Z H Q->tLC cap (tI K fi) (Y2 K T) (zm K t) (tF K 0 f) Z H Q:=λZ H Q gh=>by
 rw[5];obtain⟨ds,e1,ef⟩:=ao ef;obtain⟨all,e2,ef⟩:=ao ef;obtain⟨hz,rfl⟩:=cQ ef;refine⟨P,Y,ds,hP,rs,e1,λJ H1 x1 it A hA=>?_⟩
 have hPA:=(hP.ext x1).new hA;have zu:∀ {H':Hp} {ys:List V},hid (upd H' A (.lst ys)) (ic P [A])=hid H' (ic P [A]):=λ{H' ys}=>by
  funext b;unfold hid;by_cases hb:ic P [A] b
  .rw[if_pos hb,if_pos hb]
  .rw[if_neg hb,if_neg hb];exact cY (λz=>hb (.inr (by simp[z])))
 refine⟨λi m ys σ' H'=>m=ds.length-i/\i<=ds.length/\H' A=aa (.lst ys)/\Ext H1 H'/\Ext (hid H1 P) (hid H' (ic P [A]))/\Aob K (hid H' (ic P [A])) (lY cap Y) σ'/\ys.length<=i /\
  ∃ done rest,Aap K (hid H' (ic P [A])) done ys/\xg T t f (lY cap Y) (ds.drop i)=aa rest/\all=done++rest,⟨ds.length,?_⟩,?_⟩
 .have xa:Ext (hid H1 P) (hid (upd H1 A (.lst [])) (ic P [A])):=λb o e=>by
   obtain⟨nb,e⟩:=Acs.1 e;have hb:=lG e hA;exact gZ (λz=>z.elim nb λm=>hb (by simpa using m)) (by rw[cY hb];exact e)
  exact⟨by simp,eO _,eU,Ext.new hA,xa,(Wh (rs.ext (dE x1))).ext xa,eO _,[],all,Aan.2 rfl,by simpa using e2,rfl⟩
 .rintro i m ys σ' H' ⟨rfl,hi,hD,x2,xb,rs2,hl,done,rest,rd,e3,rfl⟩;refine⟨hD,?_⟩;obtain⟨go,st⟩:=it i H' (Aas.trans x2);have x0:Hid (ic P [A]) H':=λa h=>by
   rcases h with h|h
   .exact(hP.ext (x1.trans x2)) a h
   .have:a=A:=by simpa using h
    rw[20];exact .inl ⟨_,hD⟩
  by_cases cf:i<ds.length
  .have hd:=fA cf;rw[Ii cf] at e3;obtain⟨ρ1,e4,e3⟩:=ao e3;obtain⟨c,e5,e3⟩:=ao e3;obtain⟨g1,g2⟩:=go _ hd;refine .inr ⟨g1,by omega,λys σ' H'=>i+1<=ds.length/\H' A=aa (.lst ys)/\Ext H1 H'/\Ext (hid H1 P) (hid H' (ic P [A]))/\Aob K (hid H' (ic P [A])) (lY cap Y) σ'/\ys.length<=i+1 /\
    ∃ d2 r2,Aap K (hid H' (ic P [A])) d2 ys/\xg T t f (lY cap Y) (ds.drop (i+1))=aa r2/\done++rest=d2++r2,λzs σ2 H2 h=>⟨ds.length-(i+1),by omega,rfl,h⟩,λx H2 y=>?_⟩
   obtain⟨x3,r3⟩:=g2 x H2 y;refine⟨ic P [A],lY cap Y,_,ρ1,x0.ext x3,rs2.ext (dE x3),r3 _ x0 xb,e4,λσ3 Z9=>?_⟩
   refine⟨ic P [A],ρ1,c,x0.ext x3,Z9,e5,λH4 x4=>?_⟩
   have rs4:Aob K (hid H2 (ic P [A])) (lY cap Y) σ3:=λj d' e=>Z9 j d' (hT _ _ _ e4 j d' e)
   cases c with
   |false=>
    rw[if_neg lX] at e3;refine oU ⟨cf,x4 _ _ (x3 _ _ hD),x2.trans (x3.trans x4),xb.trans (dE (x3.trans x4)),rs4.ext (dE x4),by omega,done,rest,rd.ext (dE (x3.trans x4)),e3,rfl⟩
   |true=>
    rw[if_pos rfl] at e3;obtain⟨yd,e6,e3⟩:=ao e3;obtain⟨r2,e7,e3⟩:=ao e3;cases e3;refine oR ⟨ic P [A],ρ1,yd,x0.ext (x3.trans x4),Z9.ext (dE x4),e6,eG λv H5 x5 r5=>⟨x5 _ _ (x4 _ _ (x3 _ _ hD)),cf,eU,?_,?_,?_,by simp;omega,done++[yd],r2,?_,e7,by simp⟩⟩
    .intro b o e;rw[cY (lG e hA)];exact x5 _ _ (x4 _ _ (x3 _ _ (x2 _ _ e)))
    .rw[zu];exact xb.trans (dE (x3.trans (x4.trans x5)))
    .rw[zu];exact rs4.ext (dE (x4.trans x5))
    .rw[zu];exact(rd.ext (dE (x3.trans (x4.trans x5)))).snoc r5
  .have e:i=ds.length:=by omega
   subst e;rw[List.drop_length] at e3;cases e3;rw[qC] at k;refine .inl ⟨st rfl,?_⟩;refine k (.ref A) H' [A] (x1.trans x2) (lT.2 ⟨by simp,.nil⟩) (λa m=>?_) ⟨A,ys,ys.map λ_=>[],rfl,hD,?_,?_⟩
   .have:a=A:=by simpa using m
    rw[20];exact⟨x1.none hA,_,hD⟩
   .have:∀ l:List V,(l.map λ_=>([]:List aD)).flatten=[]:=λl=>by
     induction l with
     |nil=>rfl
     |cons a l ih=>rw[dI,kJ,ih];rfl
    rw[this]
   .have go:∀ (ds:List aA) (xs:List V),Aap K (hid H' (ic P [A])) ds xs->All3 (Af8 K (hid H' (ic P [A])) H' 0) ds xs (xs.map λ_=>[]):=by
     intro ds;induction ds with
     |nil=>intro xs r;rw[Aan.1 r];exact .nil
     |cons d ds ih=>
      intro xs r;obtain⟨y,t,rfl,h1,h2⟩:=Aah.1 r;exact .cons ⟨rfl,h1⟩ (ih t h2)
    exact go _ _ rd
def VI (X:Cx)(N:List aC)(sc:jH)(tg nj:aR)(li:List aR)(T:aA->List (Option aA)->Option (List (Option aA)))(t:BF)(f:EF):Prop:=
 ∀ (cl:List (aC×aD)) (C:aD) (s₀:aH) (H₀:Hp) (ex:List aD),DGB (iS X N sc cl C s₀ H₀ ex) tg T/\vP (iS X N sc cl C s₀ H₀ ex) li (zm X.K t)/\DE (iS X N sc cl C s₀ H₀ ex) nj f
theorem gY (hc:X.calm=af)(S:CompScope X N cap sc)(hT:V6 T)(hi:DI X tg bu fi)(hb:VI X N sc tg nj li T t f)(hs:∀ x,uW bu X.env x=pure x:=by intro _;rfl) :
  DF 1 X (.ListComp nj [⟨tg,bu,li,0⟩] sc pos) (gb cap fi T t f):=PE.imp (Kx hc S hi (g:=Y2 X.K T) (tc:=zm X.K t) (te:=tF X.K 0 f) hb hs) (TQ hT)
theorem LL(m:Md)(hc:X.calm=af)(hN:X.N.Nodup)(yr:X.N[i]?=aa x)(hx:kK X.env.scope x)(S:CompScope X N cap sc)(hT:V6 T)(hi:DI X tg bu fi)(hb:VI X N sc tg nj li T t f)
  (rh:mQ (.ListComp nj [⟨tg,bu,li,0⟩] sc pos) (aa (.Name x px)) lj.line X.env=pure af:=by rfl)
  (hs:∀ x,uW bu X.env x=pure x:=by intro _;rfl) (hf:X.fn x=af\/X.env.scope.names.lookup x=aa .local:=by first|exact .inl rfl|exact .inr rfl|assumption) :
  DS X H0 P0 n0 (.Assign [.Name x px] (.ListComp nj [⟨tg,bu,li,0⟩] sc pos) lj) (bJ i 1 m (gb cap fi T t f)):=PS.imp (Wi hc hN yr hx S hi (g:=Y2 X.K T) (tc:=zm X.K t) (te:=tF X.K 0 f) hb rh hs hf) λD Z H gh=>by
 rw[7];rw[17];obtain⟨hl,rfl⟩:=cQ ef;refine TQ hT Z H _ (SV m Z H _ ⟨B0,Y,fp,d,S,e1,λv H' t=>?_⟩)
 obtain⟨ce,S'⟩:=t.set hl;exact k _ _ ce S'
end
def outD:Option Out->Option aA
 |some (.rt d)=>aa d
 |some (.nx _)=>aa .none
 |_=>ae
def cy (np n:Nat)(body:SF):List aA->Option aA:=λds=>if ds.length=np then outD (body (ds.map (λd=>aa (0,d))++pY (n-np) ae)) else ae
def aq (K:aK)(n0:Nat)(F:List aA->Option aA):Sp:=λvs H Q _=>∃ P ds d,Hid P H/\Aap K (hid H P) ds vs/\F ds=aa d/\Res K P n0 d H Q
section
variable {P:bT}{base:aQ}
theorem dP{fd:iM}{k np:Nat}{body:SF}(F:Fun K x qual st f fd)(S:FnScope N ps (bO st))(hnp:np=ps.length)(hN:ps.length<=N.length)
  (hb:∀ (bh:aE) (A:cB) (outer:List Env) (s:aH) (H:Hp) (E:XK) (P0:aD->Prop),Room k (A.deeper (rK qual (bO st) s.heap.objs.size f bh))->ug (tP cv P w K mg base N qual (bO st) f bh A outer s H E).nox H P0 n0 (lE st) body) :
  FnOk P w K mg base cv (k+1) f fd ps (aq K n0 (cy np N.length body)):=by
 refine F.ok S (λvs H Q E h=>?_) (λbh A outer s H vs Q E hr h=>?_)
 .obtain⟨P,ds,d,_,r,ef,_⟩:=h;unfold cy at ef;by_cases hl:ds.length=np
  .rw[r.length,hl,hnp]
  .rw[if_neg hl] at ef;cases ef
 .obtain⟨P0,ds,d,hP,r,ef,k⟩:=h;refine⟨_,hb bh A outer s H E P0 hr,?_⟩;unfold cy at ef;by_cases hl:ds.length=np
  case neg=>rw[if_neg hl] at ef;cases ef
  rw[if_pos hl] at ef;rw[<-hl] at ef;have ay:=r.length;have S0:Sta K H P0 (hid H P0) (ds.map (λd=>aa (0,d))++pY (N.length-ds.length) ae) (start N vs) H (λ_=>[]):=by
   have eH:Hd P0 (λ_=>[])=P0:=by
    funext a;simp[Hd]
   refine⟨by simp[start,ay],λ_=>.nil,λi j a h=>by simp at h,λi a h=>by simp at h,Ext.refl,hP,by rw[eH];exact Ext.refl,λi n' d' e=>?_⟩
   rw[eH];by_cases hi:i<ds.length
   .rw[IC (by simpa using hi),eW] at e
    cases q:ds[i]? with
    |none=>rw[q] at e;simp at e
    |some d2=>
     rw[q] at e;have e':0=n'/\d2=d':=by simpa using e
     obtain⟨rfl,rfl⟩:=e';obtain⟨v,h1,h2⟩:=r.get q;refine⟨v,?_,rfl,h2⟩;unfold start;rw[IC (by rw[cJ,ay];exact hi),eW,h1]
     rfl
   .rw[RJ (by simpa using hi)] at e
    have:=fH e;simp at this
  cases eb:body (ds.map (λd=>aa (0,d))++pY (N.length-ds.length) ae) with
  |none=>rw[eb] at ef;cases ef
  |some o=>
   rw[eb] at ef;refine⟨_,_,_,o,S0,eb,?_⟩;cases o with
   |rt d'=>
    cases ef;exact λv H' ⟨Fr,h1,h2,h3,h4⟩=>k v H' Fr h1 h2 h3 h4
   |nx ρ'=>
    cases ef;intro σ' H' ce S';refine k .non H' [] S'.ext .nil (λa m=>by simp at m) ?_
    cases n0 with
    |zero=>exact⟨rfl,Ab7.2 rfl⟩
    |succ n=>
     unfold Ahl;split
     .exact .inl ⟨rfl,rfl,rfl⟩
     .exact⟨rfl,Ab7.2 rfl⟩
   |bk _=>cases ef
   |ct _=>cases ef
variable {k np:Nat}{F:List aA->Option aA}{fa:AF}
theorem zS (D:Def X.prog X.w X.K X.mg X.base x k ps (aq X.K n0 F))(hr:Room k X.A)(hg:Gl X x)(ha:DA X (e::es) fa)(uo:(x==("__debug__" : aC))=ag:=by decide)(he:bH (e::es) X.env=(ag,bM e X.env)::bH es X.env:=by rfl)
  (ix:(eR pos (bH es X.env)).any (·.1)=ag:=by rfl):DF n0 X (.Call (.Name x p) (e::es) [] pos) (aL F fa):=
 PE.imp (Pk D hr hg ha uo he ix) λZ H Q gh=>by
  rw[5];obtain⟨ds,e1,ef⟩:=ao ef;refine⟨P,Y,ds,hP,rs,e1,λvs H1 x1 r1=>?_⟩
  show aq X.K n0 F (vs++[]) H1 Q E0;rw[qC];exact⟨P,ds,d,hP.ext x1,r1,ef,k.mono x1⟩
end
def yk (g:Int->Int->aA):aA->aA->Option aA
 |.int i,.int j=>aa (g i j)
 |_,_=>ae
def xf (C:Int->Int->Prop)[∀ i j,Decidable (C i j)](g:Int->Int->aA):aA->aA->Option aA
 |.int i,.int j=>if C i j then aa (g i j) else ae
 |_,_=>ae
theorem VW {g:Int->Int->V}{gd:Int->Int->aA}(h:∀ i j H,Abm K H (gd i j) (g i j)):so K 0 (xq g) (yk gd):=λP H x y a b d Q hP ra rb e k=>by
 unfold yk at e;split at e
 .rename_i i j;cases e;exact⟨i,j,Aal.1 ra,Aal.1 rb,k.zero Ext.refl (h i j _)⟩
 .cases e
theorem CA {C C':Int->Int->Prop}[∀ i j,Decidable (C' i j)]{g:Int->Int->V}{gd:Int->Int->aA}(hC:∀ i j,C' i j->C i j)(h:∀ i j H,Abm K H (gd i j) (g i j)):so K 0 (rI C g) (xf C' gd):=λP H x y a b d Q hP ra rb e k=>by
 unfold xf at e;split at e
 .rename_i i j;rw[21];exact⟨i,j,Aal.1 ra,Aal.1 rb,hC i j hc,k.zero Ext.refl (h i j _)⟩
 .cases e
section
variable {a:aR}{fa fb fc:EF}
def pH:aA->aA->Option aA:=yk λi j=>.int (i-j)
theorem Nq (ha:DE X a fa)(hb:DE X b fb):DE X (.BinOp a .Sub b pos) (ah pH fa fb):=pF Oo (VW λ_ _ _=>Aal.2 rfl) ha hb
def gX:aA->aA->Option aA:=xf (λi j=>(i.natAbs<2^64\/j.natAbs<2^64)\/(i.natAbs<2^1000/\j.natAbs<2^1000)) λi j=>.int (i*j)
theorem ZL:OpR X (kC .Mult) (rI (λi j=>(i.natAbs<2^64\/j.natAbs<2^64)\/(i.natAbs<2^1000/\j.natAbs<2^1000)) λi j=>.int (i*j)):=by
 rw[4];obtain⟨i,j,ex,ey,hc,q⟩:=h;rcases hc with hc|hc
 .refine Pg ad s Z H x y v u Q I rx ry ⟨i,j,ex,ey,?_,q⟩;rcases hc with hc|hc
  .exact .inl ⟨by omega,by omega⟩
  .exact .inr ⟨by omega,by omega⟩
 .exact Ro ad s Z H x y v u Q I rx ry ⟨i,j,ex,ey,hc,q⟩
theorem UZ (ha:DE X a fa)(hb:DE X b fb):DE X (.BinOp a .Mult b pos) (ah gX fa fb):=pF ZL (CA (λ_ _ h=>h) λ_ _ _=>Aal.2 rfl) ha hb
def eX:aA->aA->Option aA:=xf (λ_ j=>0<j/\j<1073741824) λi j=>.int (i/j)
theorem Rx (ha:DE X a fa)(hb:DE X b fb):DE X (.BinOp a .FloorDiv b pos) (ah eX fa fb):=pF Qz (CA (λ_ _ h=>h) λ_ _ _=>Aal.2 rfl) ha hb
def cR:aA->aA->Option aA:=xf (λ_ j=>0<j) λi j=>.int (i%j)
theorem Of (ha:DE X a fa)(hb:DE X b fb):DE X (.BinOp a .Mod b pos) (ah cR fa fb):=pF Pj (CA (λ_ _ h=>h) λ_ _ _=>Aal.2 rfl) ha hb
def pT:aA->aA->Option aA:=xf (λi j=>0<=j/\j<=1000000/\i.natAbs<2^64) λi j=>.int (i^j.toNat)
theorem Mw (ha:DE X a fa)(hb:DE X b fb):DE X (.BinOp a .Pow b pos) (ah pT fa fb):=pF Pl (CA (λ_ _ h=>h) λ_ _ _=>Aal.2 rfl) ha hb
def vL:aA->Option aA
 |.int i=>aa (.int (-i))
 |_=>ae
theorem Ol (ha:DE X a fa):DE X (.UnaryOp .USub a pos) (iw vL fa):=Kp Oj (λP H x a d Q hP r e k=>by
 unfold vL at e;split at e
 .cases e;exact⟨_,Aal.1 r,k.zero Ext.refl (Aal.2 rfl)⟩
 .cases e) ha
theorem Bf(hx:cH (.str x)=af)(hy:cH (.str y)=af):cH (.str (x++y))=af:=by
 have e:(x++y).cps=x.cps++y.cps:=rfl;simp only[cH,HQ] at hx hy ⊢;rw[e,Array.all_append,hx,hy]
 rfl
def cX:aA->aA->Option aA
 |.int i,.int j=>aa (.int (i+j))
 |.str x,.str y=>if x.length+y.length<=sizeLine then aa (.str (x++y)) else ae
 |.tuple (x::xs),.tuple ys=>if (x::xs).length+ys.length<=sizeLine then aa (.tuple ((x::xs)++ys)) else ae
 |_,_=>ae
theorem Ug:so K 0 (λx y H Q=>xq (λi j=>.int (i+j)) x y H Q\/(∃ i j,x=.str i/\y=.str j/\i.length+j.length<=sizeLine/\Q (.str (i++j)) H)\/JN K x y H Q) cX:=λP H x y a b d Q hP ra rb e k=>by
 unfold cX at e;split at e
 .rename_i i j;cases e;exact .inl ⟨i,j,Aal.1 ra,Aal.1 rb,k.zero Ext.refl (Aal.2 rfl)⟩
 .rename_i i j;rw[21];exact .inr (.inl ⟨i,j,(Aay.1 ra).1,(Aay.1 rb).1,hc,k.zero Ext.refl (Aay.2 ⟨rfl,Bf (Aay.1 ra).2 (Aay.1 rb).2⟩)⟩)
 .rename_i z zs ys;rw[21];obtain⟨p,us,rfl,hp,r1⟩:=Aar.1 ra;obtain⟨q,ws,rfl,hq,r2⟩:=Aar.1 rb;have l1:=r1.length;have l2:=r2.length;refine .inr (.inr ⟨p,q,us,ws,rfl,rfl,SqT.of (Aas _ _ hp),SqT.of (Aas _ _ hq),λz=>by rw[z] at l1;simp at l1,by rw[l1,l2];exact hc,λz=>?_,λz r hr=>?_⟩)
  .subst z;have:ys=[]:=by simpa using l2.symm
   rw[20];refine k.zero Ext.refl ?_;rw[qC];exact ra
  .exact k.tup hP hr (r1.append r2)
 .cases e
theorem OT (ha:DE X a fa)(hb:DE X b fb):DE X (.BinOp a .Add b pos) (ah cX fa fb):=pF (Bjj.or (Azg.or A8b)) Ug ha hb
mutual
def noDict:aA->Bool
 |.dict _=>ag
 |.list ds=>noDicts ds
 |.tuple ds=>noDicts ds
 |_=>af
def noDicts:List aA->Bool
 |[]=>af
 |d::r=>noDict d&&noDicts r
end
mutual
theorem mI {X:Cx}(I:Inv X ad Z H s):∀ {d:aA} {v:V} {u:aE},noDict d=af->Abm X.K H d v->RelV v u->d.canLay0=af/\∃ as,mR s.heap u d as
 |.none,v,u,_,h,r=>by
  obtain rfl:=Ab7.1 h;cases r;exact⟨by simp[cH],_,.none⟩
 |.bool b,v,u,_,h,r=>by
  obtain rfl:=Aaw.1 h;cases r;exact⟨by simp[cH],_,.bool b⟩
 |.int i,v,u,_,h,r=>by
  obtain rfl:=Aal.1 h;obtain⟨t,rfl⟩:=r;exact⟨by simp[cH],_,.int i t⟩
 |.str x,v,u,_,h,r=>by
  obtain⟨rfl,hl⟩:=Aay.1 h;obtain⟨t,rfl⟩:=r;exact⟨hl,_,.str x t⟩
 |.list ds,v,u,n,h,r=>by
  obtain⟨a,xs,rfl,hs,hr⟩:=Abb.1 h;cases r;obtain⟨its,rv,⟨o,m,e,hc,_,hd⟩,_⟩:=I.list hs;obtain⟨hl,as,ha⟩:=NX I (by simpa [noDict] using n) hr rv
  exact⟨by simpa [cH] using hl,_,.list e hc hd (by simpa using ha)⟩
 |.tuple ds,v,u,n,h,r=>by
  obtain⟨a,xs,rfl,hs,hr⟩:=Aar.1 h;cases r;obtain⟨its,rv,⟨o,e,hc,m,hd⟩,_⟩:=I.tuple (SqT.of hs);obtain⟨hl,as,ha⟩:=NX I (by simpa [noDict] using n) hr rv
  exact⟨by simpa [cH] using hl,_,.tuple e hc hd (by simpa using ha)⟩
 |.dict _,_,_,n,h,_=>by simp[noDict] at n
theorem NX {X:Cx}(I:Inv X ad Z H s):∀ {ds:List aA} {vs:List V} {us:List aE},noDicts ds=af->Aap X.K H ds vs->Vals vs us->CQ ds=af/\∃ as,pA s.heap us ds as
 |[],vs,us,_,h,r=>by
  obtain rfl:=Aan.1 h;cases r;exact⟨by simp[CQ],_,.nil⟩
 |d::ds,vs,us,n,h,r=>by
  have n':noDict d=af/\noDicts ds=af:=by simpa [noDicts] using n
  obtain⟨x,rr,rfl,h1,h2⟩:=Aah.1 h;cases r with
  |cons r1 r2=>
   obtain⟨l1,as,ha⟩:=mI I n'.1 h1 r1;obtain⟨l2,bs,hb⟩:=NX I n'.2 h2 r2;exact⟨by simp[CQ,l1,l2],_,.cons ha hb⟩
end
def cZ (d:aA):Bool:=noDict d&&decide (d.depth<=60)
def gc:aA->aA->Option aA:=λa b=>if (cZ a&&cZ b)=af then aa (.bool (cD a b)) else ae
def kx:aA->aA->Option aA:=λa b=>if (cZ a&&cZ b)=af then aa (.bool (!cD a b)) else ae
def yY (K:aK)(neg:Bool):R2:=λx y H Q=>∃ da db,Abm K H da x/\Abm K H db y/\cZ da=af/\cZ db=af/\Q (.bl (neg != cD da db)) H
theorem zO (hu:X.A.units+100<cLine):OpR X (jG .Eq) (yY X.K ag):=by
 rw[4];obtain⟨da,db,ra,rb,fa,fb,q⟩:=h;have xk:noDict da=af/\da.depth<=60:=by simpa [cZ] using fa
 have fb':noDict db=af/\db.depth<=60:=by simpa [cZ] using fb
 obtain⟨la,as,ra⟩:=mI I xk.1 ra rx;obtain⟨lb,bs,rb⟩:=mI I fb'.1 rb ry;exact SeqAt.compareEq_reads ra rb la lb (by omega) ⟨.bl _,H,I,rfl,by simpa using q⟩
theorem Ng (hu:X.A.units+100<cLine):OpR X (jG .NotEq) (yY X.K af):=by
 rw[4];obtain⟨da,db,ra,rb,fa,fb,q⟩:=h;have xk:noDict da=af/\da.depth<=60:=by simpa [cZ] using fa
 have fb':noDict db=af/\db.depth<=60:=by simpa [cZ] using fb
 obtain⟨la,as,ra⟩:=mI I xk.1 ra rx;obtain⟨lb,bs,rb⟩:=mI I fb'.1 rb ry;exact SeqAt.compareNe_reads ra rb la lb (by omega) ⟨.bl _,H,I,rfl,by simpa using q⟩
theorem EI:so K 0 (yY K ag) gc:=λP H x y a b d Q hP ra rb e k=>by
 rw[21];have il:cZ a=af/\cZ b=af:=by simpa using hc
 exact⟨a,b,ra.ext Aas,rb.ext Aas,il.1,il.2,k.zero Ext.refl (Aaw.2 (by simp))⟩
theorem Pn:so K 0 (yY K af) kx:=λP H x y a b d Q hP ra rb e k=>by
 rw[21];have il:cZ a=af/\cZ b=af:=by simpa using hc
 exact⟨a,b,ra.ext Aas,rb.ext Aas,il.1,il.2,k.zero Ext.refl (Aaw.2 (by simp))⟩
def JG (K:aK)(neg:Bool):R2:=λx y H Q=>∃ d ds,Abm K H d x/\(Abm K H (.list ds) y\/Abm K H (.tuple ds) y)/\cZ d=af/\noDicts ds=af/\Q (.bl (neg != ds.any λz=>cD z d)) H
theorem Nr (hu:X.A.units+100<cLine):OpR X (jG .In) (JG X.K ag):=by
 rw[4];obtain⟨d,ds,ra,rb,fa,fb,q⟩:=h;have xk:noDict d=af/\d.depth<=60:=by simpa [cZ] using fa
 obtain⟨la,as,ra⟩:=mI I xk.1 ra rx;rcases rb with rb|rb
 .obtain⟨lb,bs,rb⟩:=mI I (by simpa [noDict] using fb) rb ry
  exact SeqAt.in_list_reads rb ra (by simpa [cH] using lb) la (by omega) ⟨.bl _,H,I,rfl,by simpa using q⟩
 .obtain⟨lb,bs,rb⟩:=mI I (by simpa [noDict] using fb) rb ry
  exact SeqAt.in_tuple_reads rb ra (by simpa [cH] using lb) la (by omega) ⟨.bl _,H,I,rfl,by simpa using q⟩
theorem YW (hu:X.A.units+100<cLine):OpR X (jG .NotIn) (JG X.K af):=by
 rw[4];obtain⟨d,ds,ra,rb,fa,fb,q⟩:=h;have xk:noDict d=af/\d.depth<=60:=by simpa [cZ] using fa
 obtain⟨la,as,ra⟩:=mI I xk.1 ra rx;rcases rb with rb|rb
 .obtain⟨lb,bs,rb⟩:=mI I (by simpa [noDict] using fb) rb ry
  exact SeqAt.notIn_list_reads rb ra (by simpa [cH] using lb) la (by omega) ⟨.bl _,H,I,rfl,by simpa using q⟩
 .obtain⟨lb,bs,rb⟩:=mI I (by simpa [noDict] using fb) rb ry
  exact SeqAt.notIn_tuple_reads rb ra (by simpa [cH] using lb) la (by omega) ⟨.bl _,H,I,rfl,by simpa using q⟩
end
theorem PE.or{t t':TE}(h:PE X e t)(h':PE X e t'):PE X e (λZ H Q=>t Z H Q\/t' Z H Q):=λad s Z H Q I q=>q.elim (h ad s Z H Q I) (h' ad s Z H Q I)
def vd:aA->aA->Option aA
 |.int i,.int j=>aa (.bool (decide (i<j)))
 |.str i,.str j=>aa (.bool (decide (i.cps.toList<j.cps.toList)))
 |_,_=>ae
def gLe:aA->aA->Option aA
 |.int i,.int j=>aa (.bool (decide (i<=j)))
 |.str i,.str j=>aa (.bool (!(decide (j.cps.toList<i.cps.toList))))
 |_,_=>ae
def vw:aA->aA->Option aA:=yk λi j=>.bool (decide (j<i))
def gGe:aA->aA->Option aA:=yk λi j=>.bool (decide (j<=i))
theorem On:so K 0 (λx y H Q=>xq (λi j=>.bl (decide (i<j))) x y H Q\/∃ i j,x=.str i/\y=.str j/\Q (.bl (decide (i.cps.toList<j.cps.toList))) H) vd:=λP H x y a b d Q hP ra rb e k=>by
 unfold vd at e;split at e
 .cases e;exact .inl ⟨_,_,Aal.1 ra,Aal.1 rb,k.zero Ext.refl (Aaw.2 rfl)⟩
 .cases e;exact .inr ⟨_,_,(Aay.1 ra).1,(Aay.1 rb).1,k.zero Ext.refl (Aaw.2 rfl)⟩
 .cases e
theorem VR:so K 0 (xq λi j=>.bl (decide (j<i))) vw:=VW λ_ _ _=>Aaw.2 rfl
def oF:aA->aA->Option aA
 |.none,.none=>aa (.bool ag)
 |_,.none=>aa (.bool af)
 |_,_=>ae
theorem D5{a:aA}{x:V}(r:Abm K H a x):decide (x=.non)=(match a with|.none=>af|_=>ag):=by
 cases a with
 |none=>obtain rfl:=Ab7.1 r;rfl
 |bool b=>obtain rfl:=Aaw.1 r;rfl
 |int b=>obtain rfl:=Aal.1 r;rfl
 |str b=>obtain⟨rfl,_⟩:=Aay.1 r;rfl
 |list b=>obtain⟨_,_,rfl,_⟩:=Abb.1 r;rfl
 |tuple b=>obtain⟨_,_,rfl,_⟩:=Aar.1 r;rfl
 |dict b=>obtain⟨_,rfl,_⟩:=Adm.1 r;rfl
theorem Wc:so K 0 (λx y H Q=>y=.non/\Q (.bl (!decide (x=.non))) H) oF:=λP H x y a b d Q hP ra rb e k=>by
 have q:=D5 ra;unfold oF at e;split at e
 .cases e;exact⟨Ab7.1 rb,k.zero Ext.refl (Aaw.2 (by rw[q];rfl))⟩
 .rename_i h;cases e;refine⟨Ab7.1 rb,k.zero Ext.refl (Aaw.2 ?_)⟩;rw[q];cases a<;>first|rfl|exact(h rfl).elim
 .cases e
def cA:aA->Option aI
 |.int i=>aa (.inl i)
 |.str x=>aa (.inr x)
 |_=>ae
theorem GN(h:cA d=aa k):d=kD k:=by
 cases d<;>simp[cA] at h<;>subst h<;>rfl
def cC (kds:List (aA×aA))(k:aI):Option aA:=(kds.find? λkd=>decide (cA kd.1=aa k)).map (·.2)
theorem nE (k:aI):cA (kD k)=aa k:=by cases k<;>rfl
theorem uN:∀ {kds:List (aA×aA)} {kvs:List (aI×V)},Abu K H kds kvs->(cC kds k=ae/\dU kvs k=ae)\/∃ d v,cC kds k=aa d/\dU kvs k=aa v/\Abm K H d v
 |[],kvs,h=>by rw[Ab4.1 h];exact .inl ⟨rfl,rfl⟩
 |(k0,d)::r,kvs,h=>by
  obtain⟨k',x,rr,rfl,rfl,h1,h2⟩:=Abd.1 h;by_cases e:k'=k
  .refine .inr ⟨d,x,?_,lF e,h1⟩;simp[cC,fN,nE,e]
  .have e1:cC ((kD k',d)::r) k=cC r k:=by simp[cC,fN,nE,e]
   rw[e1,kS e];exact uN h2
theorem Ca:∀ {kds:List (aA×aA)} {kvs:List (List aA×V)},Acm K H kds kvs->cC kds k=ae
 |[],kvs,h=>rfl
 |(k0,d)::r,kvs,h=>by
  obtain⟨k',x,rr,rfl,⟨rfl,_⟩,h1,h2⟩:=Ab5.1 h;have e1:cC ((.tuple k',d)::r) k=cC r k:=by simp[cC,fN,cA]
  rw[e1];exact Ca h2
theorem Vr(h:Abm K H (.dict kds) v)(e:cC kds k=aa d):∃ a,∃ kvs:Nat×List (aI×V),v=.ref a/\H a=aa (.dK kvs.1 kvs.2)/\Abu K H kds kvs.2:=by
 obtain⟨a,ev,⟨kvs,h1,r⟩|⟨ts,h1,r⟩|⟨xs,h1,r⟩⟩:=Adm.1 h
 case inr.inr=>
  obtain⟨es,rfl,_⟩:=MH r;cases e
 .exact⟨a,kvs,ev,h1,r⟩
 .cases kds with
  |nil=>simp[A1f] at r
  |cons p q=>
   obtain⟨k0,m⟩:=p;obtain⟨rfl,r2⟩:=Aft.1 r;have e1:cC ((.none,m)::q) k=cC q k:=by simp[cC,fN,cA]
   rw[e1,Ca r2] at e;cases e
def lA (kds:List (aA×aA))(k:List aA):Option aA:=(kds.find? λkd=>cD kd.1 (.tuple k)).map (·.2)
theorem Ew (a b:List aA):cD (.tuple a) (.tuple b)=sU a b:=by simp[cD]
theorem Br {a k:List aA}{r:List (aA×aA)}(ha:bR a=af)(hk:bR k=af):lA ((.tuple a,d)::r) k=if a=k then aa d else lA r k:=by
 have e:cD (.tuple a) (.tuple k)=decide (a=k):=by rw[Ew,AR _ _ ha hk]
 unfold lA;rw[fN,e];by_cases h:a=k
 .rw[if_pos h,decide_eq_true h];rfl
 .rw[if_neg h,decide_eq_false h]
theorem MV{k:List aA}(hk:bR k=af):∀ {kds:List (aA×aA)} {kvs:List (List aA×V)},Acm K H kds kvs->(lA kds k=ae/\dU kvs k=ae)\/∃ d v,lA kds k=aa d/\dU kvs k=aa v/\Abm K H d v
 |[],kvs,h=>by rw[Adq.1 h];exact .inl ⟨rfl,rfl⟩
 |(k0,d)::r,kvs,h=>by
  obtain⟨k',x,rr,rfl,⟨rfl,fq⟩,h1,h2⟩:=Ab5.1 h;rw[Br fq hk];by_cases e:k'=k
  .rw[if_pos e];exact .inr ⟨d,x,rfl,lF e,h1⟩
  .rw[if_neg e,kS e];exact MV hk h2
def putD (kds:List (aA×aA))(k:aI)(d:aA):List (aA×aA):=
 if (kds.any λkd=>decide (cA kd.1=aa k))=af then kds.map λkd=>if cA kd.1=aa k then(kd.1,d) else kd else kds++[(kD k,d)]
theorem Ed:∀ {kds:List (aA×aA)} {kvs:List (aI×V)},Abu K H kds kvs->(kds.any λkd=>decide (cA kd.1=aa k))=kvs.any λkv=>decide (kv.1=k)
 |[],kvs,h=>by rw[Ab4.1 h];rfl
 |(k0,d)::r,kvs,h=>by
  obtain⟨k',x,rr,rfl,rfl,h1,h2⟩:=Abd.1 h;rw[yS,yS,Ed h2,nE];simp
theorem LS(rv:Abm K H d v):∀ {kds:List (aA×aA)} {kvs:List (aI×V)},Abu K H kds kvs ->
  Abu K H (kds.map λkd=>if cA kd.1=aa k then(kd.1,d) else kd) (kvs.map λkv=>if kv.1=k then(kv.1,v) else kv)
 |[],kvs,h=>by rw[Ab4.1 h];exact Ab4.2 rfl
 |(k0,d0)::r,kvs,h=>by
  obtain⟨k',x,rr,rfl,rfl,h1,h2⟩:=Abd.1 h;rw[dI,dI];by_cases e:k'=k
  .rw[if_pos (show cA (kD k',d0).1=aa k by rw[nE,e]),if_pos (show(k',x).1=k from e)]
   exact Abd.2 ⟨k',v,_,rfl,rfl,rv,LS rv h2⟩
  .rw[if_neg (show ¬ cA (kD k',d0).1=aa k by rw[nE];simpa using e),if_neg (show ¬ (k',x).1=k from e)]
   exact Abd.2 ⟨k',x,_,rfl,rfl,h1,LS rv h2⟩
theorem Abu.snoc(rv:Abm K H d v):∀ {kds:List (aA×aA)} {kvs:List (aI×V)},Abu K H kds kvs->Abu K H (kds++[(kD k,d)]) (kvs++[(k,v)])
 |[],kvs,h=>by rw[Ab4.1 h];exact Abd.2 ⟨k,v,[],rfl,rfl,rv,Ab4.2 rfl⟩
 |(k0,d0)::r,kvs,h=>by
  obtain⟨k',x,rr,rfl,rfl,h1,h2⟩:=Abd.1 h;exact Abd.2 ⟨k',x,_,rfl,rfl,h1,Abu.snoc rv h2⟩
theorem FD{kvs:List (aI×V)}(h:Abu K H kds kvs)(rv:Abm K H d v):Abu K H (putD kds k d) (putK kvs k v):=by
 unfold putD putK;rw[Ed h];by_cases q:(kvs.any λkv=>decide (kv.1=k))=af
 .rw[if_pos q,if_pos q];exact LS rv h
 .rw[if_neg q,if_neg q];exact Abu.snoc rv h
theorem Abu.length:∀ {kds:List (aA×aA)} {kvs:List (aI×V)},Abu K H kds kvs->kvs.length=kds.length
 |[],kvs,h=>by rw[Ab4.1 h];rfl
 |(k0,d0)::r,kvs,h=>by
  obtain⟨k',x,rr,rfl,rfl,h1,h2⟩:=Abd.1 h;rw[fY,fY,Abu.length h2]
theorem mJ{x:V}(h:cA d=aa k)(r:Abm K H d x):x=kV k:=by
 rw[GN h] at r;exact Yj r
def bc:aA->aA->Option aA
 |.list ds,.int i=>kz ds i
 |.tuple ds,.int i=>kz ds i
 |.str z,.int i=>if z.length<=sizeLine then(kz z.cps.toList i).bind λc=>aa (.str ⟨#[c]⟩) else ae
 |.dict kds,d=>(cA d).bind λk=>cC kds k
 |_,_=>ae
theorem Dr{i:Int}(r:Aap K H ds xs)(h:kz ds i=aa d):∃ v,kz xs i=aa v/\Abm K H d v:=by
 unfold kz at h ⊢;rw[r.length];obtain⟨j,h1,h2⟩:=ao h;obtain⟨v,h3,h4⟩:=r.get h2;exact⟨v,by rw[h1];exact h3,h4⟩
theorem Tf {α:Type}{xs:List α}{i:Int}{x:α}(h:kz xs i=aa x):∃ j:Nat,xs[j]?=aa x:=by
 unfold kz at h;obtain⟨j,h1,h2⟩:=ao h;exact⟨j,h2⟩
section
variable {a:aR}{fa fb f:EF}
theorem Ll (hu:X.A.units+40<cLine)(ha:DE X a fa)(hb:DE X b fb)(hs:KP b):DE X (.Subscript a b pos) (ah bc fa fb):=PE.imp (PE.or (TM VG ha hb hs) (Eg hu ha hb hs)) λZ H Q h=>by
 obtain⟨P,Y,d,hP,rs,ef,k⟩:=h;obtain⟨d1,e1,cw⟩:=ao ef;obtain⟨d2,e2,cg⟩:=ao cw;clear ef cw;have seq:(∀ (H2:Hp) (v u:V),Ext H H2->Abm X.K (hid H2 P) d1 v->Abm X.K (hid H2 P) d2 u->rIx X.K v u H2 Q)->O4 (rIx X.K) (tF X.K 0 fa) (tF X.K 0 fb) Z H Q:=λz=>
  ⟨P,Y,d1,hP,rs,e1,eG λv H1 x1 r1=>⟨P,Y,d2,hP.ext x1,rs.ext (dE x1),e2,eG λu H2 x2 r2=>z H2 v u (x1.trans x2) (r1.ext (dE x2)) r2⟩⟩
 cases d1 with
 |list ds=>
  cases d2 with
  |int i=>
   refine .inl (seq λH2 v u x r1 r2=>.inl ?_)
   obtain⟨q,xs,rfl,hq,rr⟩:=Abb.1 r1;obtain⟨w,h1,h2⟩:=Dr rr (show kz ds i=aa d from cg)
   exact⟨q,xs,i,w,rfl,Aal.1 r2,Aas.sqL hq,h1,k.zero x h2⟩
  |_=>cases cg
 |tuple ds=>
  cases d2 with
  |int i=>
   refine .inl (seq λH2 v u x r1 r2=>.inr (.inl ?_))
   obtain⟨q,xs,rfl,hq,rr⟩:=Aar.1 r1;obtain⟨w,h1,h2⟩:=Dr rr (show kz ds i=aa d from cg)
   exact⟨q,xs,i,w,rfl,Aal.1 r2,SqT.of (Aas _ _ hq),h1,k.zero x h2⟩
  |_=>cases cg
 |str z=>
  cases d2 with
  |int i=>
   have cg:(if z.length<=sizeLine then(kz z.cps.toList i).bind λc=>aa (.str ⟨#[c]⟩) else ae)=aa d:=cg
   by_cases hz:z.length<=sizeLine
   .rw[if_pos hz] at cg;obtain⟨c,h1,h2⟩:=ao cg;cases h2;obtain⟨j,hj⟩:=Tf h1;refine .inl (seq λH2 v u x r1 r2=>.inr (.inr ⟨z,i,c,(Aay.1 r1).1,Aal.1 r2,hz,h1,k.zero x (Aay.2 ⟨rfl,LA (Aay.1 r1).2 hj⟩)⟩))
   .rw[if_neg hz] at cg;cases cg
  |_=>cases cg
 |dict kds=>
  obtain⟨kk,h1,h2⟩:=ao (show((cA d2).bind λk=>cC kds k)=aa d by cases d2<;>exact cg)
  refine .inr ⟨P,Y,_,hP,rs,e1,eG λv H1 x1 r1=>⟨P,Y,d2,hP.ext x1,rs.ext (dE x1),e2,eG λu H2 x2 r2=>?_⟩⟩
  obtain⟨q,kvs,rfl,hq,rr⟩:=Vr (r1.ext (dE x2)) h2;rcases uN rr with⟨n1,_⟩|⟨d',v',s1,s2,rd⟩
  .rw[h2] at n1;cases n1
  .rw[h2] at s1;cases s1;refine⟨q,v',rfl,.inl ⟨kvs.1,kvs.2,kk,.inl (Aas _ _ hq),mJ h1 r2,s2.symm⟩,k.zero (x1.trans x2) rd⟩
 |_=>cases d2<;>cases cg
def SR (neg:Bool):aA->List (aA×aA)->Option aA
 |.tuple _,(_,.list _)::_=>ae
 |.tuple k,(_,_)::kds=>if (bR k&&decide (cL k<=6))=af then aa (.bool (neg != (lA kds k).isSome)) else ae
 |_,_=>ae
def oh (neg:Bool):aA->aA->Option aA
 |d,.list ds=>if (cZ d&&noDicts ds)=af then aa (.bool (neg != ds.any λz=>cD z d)) else ae
 |d,.tuple ds=>if (cZ d&&noDicts ds)=af then aa (.bool (neg != ds.any λz=>cD z d)) else ae
 |.str i,.str j=>aa (.bool (neg != !(RY j i 0 j.length 1).isEmpty))
 |d,.dict kds=>if ik kds=af then(cA d).bind λk=>aa (.bool (neg != (cC kds k).isSome)) else SR neg d kds
 |_,_=>ae
def ON (K:aK)(neg:Bool):R2:=λx y H Q=>JG K neg x y H Q\/(∃ i j,x=.str i/\y=.str j/\Q (.bl (neg != !(RY j i 0 j.length 1).isEmpty)) H)\/∃ a o,y=.ref a/\A9d H a x o/\Q (.bl (neg != o.isSome)) H
theorem FT (hu:X.A.units+100<cLine):OpR X (jG .In) (ON X.K ag):=by
 rw[4];rcases h with h|⟨i,j,ex,ey,q⟩|⟨a,o,rfl,g,q⟩
 .exact Nr hu ad s Z H x y v u Q I rx ry h
 .exact v5 ad s Z H x y v u Q I rx ry ⟨i,j,ex,ey,by simpa using q⟩
 .cases ry;exact Jo (by omega) I g rx λs' I'=>⟨.bl _,H,I',rfl,by simpa using q⟩
theorem NN (hu:X.A.units+100<cLine):OpR X (jG .NotIn) (ON X.K af):=by
 rw[4];rcases h with h|⟨i,j,ex,ey,q⟩|⟨a,o,rfl,g,q⟩
 .exact YW hu ad s Z H x y v u Q I rx ry h
 .exact d7 ad s Z H x y v u Q I rx ry ⟨i,j,ex,ey,by simpa using q⟩
 .cases ry;exact Sf (by omega) I g rx λs' I'=>⟨.bl _,H,I',rfl,by simpa using q⟩
theorem uE{neg:Bool}:so K 0 (ON K neg) (oh neg):=λP H x y a b d Q hP ra rb e k=>by
 unfold oh at e;split at e
 .rw[21];have il:=jR.1 hc;exact .inl ⟨a,_,ra.ext Aas,.inl (rb.ext Aas),il.1,il.2,k.zero Ext.refl (Aaw.2 rfl)⟩
 .rw[21];have il:=jR.1 hc;exact .inl ⟨a,_,ra.ext Aas,.inr (rb.ext Aas),il.1,il.2,k.zero Ext.refl (Aaw.2 rfl)⟩
 .cases e;exact .inr (.inl ⟨_,_,(Aay.1 ra).1,(Aay.1 rb).1,k.zero Ext.refl (Aaw.2 rfl)⟩)
 .rename_i kds;by_cases pk:ik kds=af
  case neg=>
   rw[if_neg pk] at e;have ek:∃ m r,kds=(.none,m)::r:=by
    cases kds with
    |nil=>simp[ik] at pk
    |cons p r=>
     obtain⟨k0,m⟩:=p;cases k0<;>simp[ik] at pk;exact⟨m,r,rfl⟩
   obtain⟨m,r,rfl⟩:=ek;cases a with
   |tuple kk=>
    have hm:∀ es,m ≠ .list es:=by
     rintro es rfl;cases e
    replace e:(if (bR kk&&decide (cL kk<=6))=af then aa (kW (neg != (lA r kk).isSome)) else ae)=aa d:=by
     cases m with
     |list es=>exact absurd rfl (hm es)
     |_=>exact e
    rw[21];have il:bR kk=af/\cL kk<=6:=by simpa using hc
    obtain⟨q,ts,rfl,hq,rr⟩:=(AY hm).1 rb;obtain⟨b,xs,rfl,hb,rx⟩:=Aar.1 (ra.ext Aas);refine .inr (.inr ⟨q,dU ts kk,rfl,.inr ⟨ts,kk,b,.inl (Aas _ _ hq),rfl,⟨il.1,il.2,xs,hb,Aap.keys kk il.1 rx⟩,rfl⟩,k.zero Ext.refl (Aaw.2 ?_)⟩);rcases MV il.1 rr with⟨n1,n2⟩|⟨d',v',s1,s2,rd⟩
    .rw[n1,n2];rfl
    .rw[s1,s2];rfl
   |_=>simp[SR] at e
  rw[if_pos pk] at e;obtain⟨kk,h1,h2⟩:=ao e;cases h2;obtain⟨q,kvs,rfl,hq,rr⟩:=(sJ pk).1 rb;refine .inr (.inr ⟨q,dU kvs.2 kk,rfl,.inl ⟨kvs.1,kvs.2,kk,.inl (Aas _ _ hq),mJ h1 ra,rfl⟩,k.zero Ext.refl (Aaw.2 ?_)⟩);rcases uN rr with⟨n1,n2⟩|⟨d',v',s1,s2,rd⟩
  .rw[n1,n2];rfl
  .rw[s1,s2];rfl
 .cases e
end
def cO:List aA->Option aA
 |[.list ds]=>aa (.int ds.length)
 |[.tuple ds]=>aa (.int ds.length)
 |[.dict kds]=>if ik kds=af then aa (.int kds.length) else ae
 |[.str z]=>if z.length<=sizeLine then aa (.int z.length) else ae
 |_=>ae
theorem hE(r:Aap K H [d] xs):∃ v,xs=[v]/\Abm K H d v:=by
 obtain⟨v,t,rfl,h1,h2⟩:=Aah.1 r;obtain rfl:=Aan.1 h2;exact⟨v,rfl,h1⟩
section
def SS (K:aK):List V->Hp->VK->Prop:=λxs H Q=>(∃ p ys,xs=[.ref p]/\(SqL K H p ys\/SqT K H p ys)/\Q (.int ys.length) H)\/(∃ z,xs=[.str z]/\z.length<=sizeLine/\Q (.int z.length) H)\/∃ a ep kvs,xs=[V.ref a]/\H a=aa (.dK ep kvs)/\Q (.int kvs.length) H
theorem Yr:Adw X (.builtin "len") (SS X.K):=Ar2.or (As5.or A2)
theorem B4:CallD K 0 (SS K) cO:=λP H xs ds d Q hP r e k=>by
 unfold cO at e;split at e
 .cases e;rw[8];obtain⟨q,ys,rfl,hq,rr⟩:=Abb.1 r;exact .inl ⟨q,ys,rfl,.inl (Aas.sqL hq),k.zero Ext.refl (Aal.2 (by rw[rr.length]))⟩
 .cases e;rw[8];obtain⟨q,ys,rfl,hq,rr⟩:=Aar.1 r;exact .inl ⟨q,ys,rfl,.inr (SqT.of (Aas _ _ hq)),k.zero Ext.refl (Aal.2 (by rw[rr.length]))⟩
 .obtain⟨pk,rfl⟩:=cQ e;rw[8];obtain⟨q,ys,rfl,hq,rr⟩:=(sJ pk).1 r;exact .inr (.inr ⟨q,ys.1,ys.2,rfl,Aas _ _ hq,k.zero Ext.refl (Aal.2 (by rw[rr.length]))⟩)
 .obtain⟨hz,rfl⟩:=cQ e;rw[8];exact .inr (.inl ⟨_,by rw[(Aay.1 r).1],hz,k.zero Ext.refl (Aal.2 rfl)⟩)
 .cases e
def kM:aA->String
 |.none=>"NoneType"
 |.bool _=>"bool"
 |.int _=>"int"
 |.str _=>"str"
 |.list _=>"list"
 |.tuple _=>"tuple"
 |.dict _=>"dict"
def YI:List String:=["int","bool","str","list","tuple","dict"]
theorem u7 (d:aA):kM d∈kinds:=by cases d<;>simp[kM,kinds]
theorem C5:Adw X (.builtin "isinstance") (λxs H Q=>∃ x T d,xs=[x,.ty T]/\Abm X.K H d x/\T∈YI/\Q (.bl (uj (kM d) T)) H):=by
 rw[6];obtain⟨x,T,d,rfl,rd,hT,q⟩:=h;have ek:=Sx (u7 d) hT;have by_ty:TyOf X.K H x (.type (kM d))->aM (aO X.prog X.w) X.A (call (.builtin "isinstance") us) (EP X ad Z Q) X.xe s:=λty=>
  Yt ad s Z H _ us Q I r ⟨x,T,_,uj (kM d) T,rfl,ty,Anr.trans ek,q⟩
 cases d with
 |none=>obtain rfl:=Ab7.1 rd;exact by_ty .non
 |bool b=>obtain rfl:=Aaw.1 rd;exact by_ty (.bl _)
 |int b=>obtain rfl:=Aal.1 rd;exact by_ty (.int _)
 |str b=>obtain⟨rfl,_⟩:=Aay.1 rd;exact by_ty (.str _)
 |list b=>
  obtain⟨a,ys,rfl,h,_⟩:=Abb.1 rd;obtain⟨u,w',rfl,ru,on⟩:=vals2 r;cases on;cases ru;obtain⟨its,_,⟨o,n,e1,hc,_,_⟩,_⟩:=I.list h;exact nU Gq I.kIn ⟨o,e1,hc⟩ (Anr.trans ek) (λz=>nomatch z) λtk=>⟨.bl _,H,I.tok tk,rfl,q⟩
 |tuple b=>obtain⟨_,_,rfl,h,_⟩:=Aar.1 rd;exact by_ty (.tup h)
 |dict b=>
  obtain⟨_,rfl,⟨_,h,_⟩|⟨_,h,_⟩|⟨_,h,_⟩⟩:=Adm.1 rd
  .exact by_ty (.dK h)
  .exact by_ty (.dT h)
  .obtain⟨u,w',rfl,ru,on⟩:=vals2 r;cases on;cases ru;obtain⟨⟨_,o,_,_,e1,hc,_⟩,_⟩:=I.hok _ _ h;exact nU Gr I.kIn ⟨o,e1,hc.1⟩ (Anr.trans ek) (λz=>nomatch z) λtk=>⟨.bl _,H,I.tok tk,rfl,q⟩
def fP (T:String):aA->Option aA:=λd=>aa (.bool (uj (kM d) T))
variable {a:aR}{f:EF}{fa:AF}{az ax:bQ}
theorem OZ(Q3:Gl X "isinstance")(hm:X.mg "isinstance" = ae)(hg:Gl X x)(hmx:X.mg x=ae)(hv:oY x=aa (.type T))(hT:T∈YI)(he:DE X e f)
  (hn:x ≠ "__name__":=by decide) (hd:(x==("__debug__" : aC))=ag:=by decide) (yt:bH (e::[.Name x p2]) X.env=(ag,bM e X.env)::bH [.Name x p2] X.env:=by rfl)
  (oe:bH (.Name x p2::[]) X.env=(ag,bM (.Name x p2) X.env)::bH [] X.env:=by rfl) (ix:(eR pos (bH [.Name x p2] X.env)).any (·.1)=ag:=by rfl):DE X (.Call (.Name "isinstance" p) [e,.Name x p2] [] pos) (iw (fP T) f):=
 PE.imp (LU C5 Q3 hm boot_isinstance (iF he (iF (Lh hg hmx hv hn hd) kQ oe) yt) (by decide) (by decide) yt ix) λZ H Q gh=>by
  rw[5];obtain⟨d1,e1,ef⟩:=ao ef;cases ef;exact⟨P,Y,d1,hP,rs,e1,eG λv H1 x1 r1=>⟨v,T,d1,rfl,r1.ext Aas,hT,k.zero x1 (Aaw.2 rfl)⟩⟩
def iE:List aA->Option aA
 |[.list ds]=>aa (.tuple ds)
 |[.tuple ds]=>aa (.tuple ds)
 |_=>ae
theorem sN:CallD K 0 (λxs H Q=>∃ p ys,xs=[.ref p]/\((SqL K H p ys/\∀ l,H l=ae->Q (.ref l) (upd H l (.tup ys)))\/(SqT K H p ys/\Q (.ref p) H))) iE:=λP H xs ds d Q hP r e k=>by
 unfold iE at e;split at e
 .cases e;rw[8];obtain⟨q,ys,rfl,hq,rr⟩:=Abb.1 r;exact⟨q,ys,rfl,.inl ⟨Aas.sqL hq,λl hl=>k.tup hP hl rr⟩⟩
 .cases e;rw[8];obtain⟨q,ys,rfl,hq,rr⟩:=Aar.1 r;exact⟨q,ys,rfl,.inr ⟨SqT.of (Aas _ _ hq),k.zero Ext.refl r⟩⟩
 .cases e
def iR:List aA->Option aA
 |[.list ds]=>aa (.list ds)
 |[.tuple ds]=>aa (.list ds)
 |[.str z]=>if z.length<=sizeLine then aa (.list (z.cps.toList.map λc=>.str ⟨#[c]⟩)) else ae
 |_=>ae
def TF (K:aK):List V->Hp->VK->Prop:=λxs H Q=>(∃ p ys,xs=[.ref p]/\(SqL K H p ys\/SqT K H p ys)/\∀ l,H l=ae->Q (.ref l) (upd H l (.lst ys)))\/∃ z:aC,xs=[.str z]/\z.length<=sizeLine/\∀ l,H l=ae->Q (.ref l) (upd H l (.lst (z.cps.toList.map tT)))
theorem d5 (hc:X.calm=af):Adw X (.type "list") (TF X.K):=Asj.or (Xo hc)
theorem Bg:∀ {cs:List Nat},(∀ c∈cs,cH (.str ⟨#[c]⟩)=af)->Aap K H (cs.map λc=>.str ⟨#[c]⟩) (cs.map tT)
 |[],_=>Aan.2 rfl
 |c::r,h=>Aah.2 ⟨_,_,rfl,Aay.2 ⟨rfl,h c bF⟩,Bg λc' m=>h c' (bL _ m)⟩
theorem G0:CallD K 1 (TF K) iR:=λP H xs ds d Q hP r e k=>by
 unfold iR at e;split at e
 .cases e;rw[8];obtain⟨q,ys,rfl,hq,rr⟩:=Abb.1 r;exact .inl ⟨q,ys,rfl,.inl (Aas.sqL hq),λl hl=>k.lst hP hl rr⟩
 .cases e;rw[8];obtain⟨q,ys,rfl,hq,rr⟩:=Aar.1 r;exact .inl ⟨q,ys,rfl,.inr (SqT.of (Aas _ _ hq)),λl hl=>k.lst hP hl rr⟩
 .obtain⟨hz,rfl⟩:=cQ e;rw[8];refine .inr ⟨_,by rw[(Aay.1 r).1],hz,λl hl=>k.lst hP hl (Bg λc m=>?_)⟩
  obtain⟨j,hj⟩:=Ht.1 m;exact LA (Aay.1 r).2 hj
 .cases e
def JD:List aA->Option aA
 |[.int i]=>aa (.int i)
 |[.bool b]=>aa (.int (if b then 1 else 0))
 |_=>ae
def tJ:List aA->Option (List Bool)
 |[]=>aa []
 |.bool b::r=>(tJ r).bind λbs=>aa (b::bs)
 |_::_=>ae
def zG:List aA->Option aA
 |[.list ds]=>(tJ ds).bind λbs=>aa (.bool (bs.all id))
 |_=>ae
theorem WY:∀ {ds:List aA} {xs:List V} {bs:List Bool},tJ ds=aa bs->Aap K H ds xs->xs=bs.map V.bl
 |[],xs,bs,e,r=>by
  cases e;rw[Aan.1 r];rfl
 |.bool b::ds,xs,bs,e,r=>by
  obtain⟨W5,e1,e2⟩:=ao (show((tJ ds).bind λbs=>aa (b::bs))=aa bs from e)
  cases e2;obtain⟨v,t,rfl,h1,h2⟩:=Aah.1 r;rw[Aaw.1 h1,WY e1 h2];rfl
 |.none::_,_,_,e,_=>by cases e
 |.int _::_,_,_,e,_=>by cases e
 |.str _::_,_,_,e,_=>by cases e
 |.list _::_,_,_,e,_=>by cases e
 |.tuple _::_,_,_,e,_=>by cases e
 |.dict _::_,_,_,e,_=>by cases e
theorem y7:CallD K 0 (λxs H Q=>∃ p ys,xs=[.ref p]/\SqL K H p ys/\(∀ y∈ys,∃ b,y=.bl b)/\Q (.bl (allB ys)) H) zG:=λP H xs ds d Q hP r e k=>by
 unfold zG at e;split at e
 .obtain⟨bs,e1,e2⟩:=ao e;cases e2;rw[8];obtain⟨q,ys,rfl,hq,rr⟩:=Abb.1 r;obtain rfl:=WY e1 rr;refine⟨q,_,rfl,Aas.sqL hq,λy m=>?_,k.zero Ext.refl (Aaw.2 ?_)⟩
  .obtain⟨b,_,rfl⟩:=bI.1 m;exact⟨b,rfl⟩
  .unfold allB;rw[List.all_map]
   congr 2
   funext b;cases b<;>rfl
 .cases e
def cutD (ds:List aA)(lo hi:Option Int):List aA:=(ds.drop (HT.sIx ds.length 0 lo)).take (HT.sIx ds.length ds.length hi-HT.sIx ds.length 0 lo)
abbrev OF:=List (Option aA)->Option (Option Int)
def tOF (K:aK)(f:OF):TO:=λZ H Q=>∃ P Y o,Hid P H/\Aob K (hid H P) Y Z/\f Y=aa o/\∀ H',Ext H H'->Q o H'
abbrev DO (X:Cx)(e:Option aR)(f:OF):Prop:=PO X e (tOF X.K f)
def oN:OF:=λ_=>aa ae
def oS (f:EF):OF:=λY=>(f Y).bind λd=>match d with
 |.int i=>aa (aa i)
 |_=>ae
theorem PO.imp {o:Option aR}{t t':TO}(h:PO X o t)(w:∀ Z H Q,t' Z H Q->t Z H Q):PO X o t':=λad s Z H Q I q=>h ad s Z H Q I (w _ _ _ q)
theorem Se:DO X ae oN:=PO.imp Rk λZ H Q gh=>by
 obtain⟨P,Y,o,hP,rs,ef,k⟩:=gh;cases ef;exact k H Ext.refl
theorem Uc (h:DE X e f):DO X (aa e) (oS f):=PO.imp (Rl h) λZ H Q gh=>by
 obtain⟨P,Y,o,hP,rs,ef,k⟩:=gh;rw[17];refine⟨P,Y,d,hP,rs,e1,eG λv H1 x1 r1=>?_⟩
 cases d with
 |int i=>cases ef;exact⟨i,Aal.1 r1,k H1 x1⟩
 |_=>cases ef
theorem EW {α:Type}{c:Prop}[Decidable c]{x:Option α}{y:α}(h:(if c then x else ae)=aa y):c/\x=aa y:=by
 by_cases e:c
 .rw[if_pos e] at h;exact⟨e,h⟩
 .rw[if_neg e] at h;cases h
def HB:aA->aA->aA->Option aA
 |.dict kds,k,x=>if ik kds=af then(cA k).bind λk=>aa ((cC kds k).getD x) else ae
 |_,_,_=>ae
def iP (fd fk fx:EF):EF:=λY=>(fd Y).bind λd=>(fk Y).bind λk=>(fx Y).bind λx=>HB d k x
theorem Tt {o k z:aR}{fd fk fx:EF}(hu:X.A.units+40<cLine)(ho:DE X o fd)(hk:DE X k fk)(hz:DE X z fx)(m:M2 X o "get" az k z ax:=by exact⟨rfl,rfl,rfl,rfl⟩):DE X (.Call (.Attribute o "get" az) [k,z] [] ax) (iP fd fk fx):=
 PE.imp (m7 hu ho hk hz m) λZ H Q gh=>by
  obtain⟨P,Y,d,hP,rs,ef,kk⟩:=gh;obtain⟨d1,e1,cw⟩:=ao ef;obtain⟨d2,e2,cg⟩:=ao cw;obtain⟨d3,e3,gw⟩:=ao cg;clear ef cw cg;cases d1 with
  |dict kds=>
   obtain⟨pk,je⟩:=EW (show(if ik kds=af then(cA d2).bind λk=>aa ((cC kds k).getD d3) else ae)=aa d from gw)
   obtain⟨key,h1,h2⟩:=ao je;cases h2;refine⟨P,Y,_,hP,rs,e1,eG λv H1 x1 r1=>?_⟩
   obtain⟨q,kvs,rfl,hq,rr⟩:=(sJ pk).1 r1;refine⟨q,rfl,.inl ⟨kvs.1,kvs.2,.inl (Aas _ _ hq)⟩,P,Y,d2,hP.ext x1,rs.ext (dE x1),e2,eG λu H2 x2 r2=>⟨P,Y,d3,hP.ext (x1.trans x2),rs.ext (dE (x1.trans x2)),e3,eG λw H3 x3 r3=>?_⟩⟩
   refine⟨dU kvs.2 key,.inl ⟨kvs.1,kvs.2,key,.inl (x3 _ _ (x2 _ _ (Aas _ _ hq))),mJ h1 r2,rfl⟩,kk.zero ((x1.trans x2).trans x3) ?_⟩;rcases uN (rr.ext (dE (x2.trans x3))) with⟨n1,n2⟩|⟨d',v',s1,s2,rd⟩
   .rw[n1,n2];exact r3
   .rw[s1,s2];exact rd
  |_=>cases gw
theorem Res.dic{ep:Nat}{kvs:List (aI×V)}{q:aD}(hP:Hid P H)(h:Res K P 1 (.dict kds) H Q)(n:H q=ae)(r:Abu K (hid H P) kds kvs):Q (.ref q) (upd H q (.dK ep kvs)):=by
 refine h (.ref q) _ [q] (Ext.new n) (lT.2 ⟨by simp,.nil⟩) (λa m=>?_) ⟨q,(ep,kvs),kvs.map λ_=>[],rfl,eU,?_,?_⟩
 .have:a=q:=by simpa using m
  rw[20];exact⟨n,_,eU⟩
 .have:∀ l:List (aI×V),(l.map λ_=>([]:List aD)).flatten=[]:=λl=>by
   induction l with
   |nil=>rfl
   |cons a l ih=>rw[dI,kJ,ih];rfl
  rw[this]
 .have xe:Ext (hid H P) (hid (upd H q (.dK ep kvs)) (ic P [q])):=λb o e=>by
   obtain⟨nb,e⟩:=Acs.1 e;have hb:=lG e n;exact gZ (λz=>z.elim nb λm=>hb (by simpa using m)) (by rw[cY hb];exact e)
  generalize hid (upd H q (.dK ep kvs)) (ic P [q])=B at xe;generalize upd H q (.dK ep kvs)=H1;clear h;have go:∀ (ds:List (aA×aA)) (xs:List (aI×V)),Abu K (hid H P) ds xs->All3 (λ(kd:aA×aA) (kv:aI×V) f=>kd.1=kD kv.1/\Ahl K B H1 0 kd.2 kv.2 f) ds xs (xs.map λ_=>[]):=by
   intro ds;induction ds with
   |nil=>intro xs r;rw[Ab4.1 r];exact .nil
   |cons d ds ih=>
    intro xs r;obtain⟨k',y,t,rfl,ek,h1,h2⟩:=Abd.1 (show Abu K (hid H P) ((d.1,d.2)::ds) xs from r)
    exact .cons ⟨ek,rfl,h1.ext xe⟩ (ih t h2)
  exact go kds kvs r
theorem Si:DF 1 X (.Dict [] [] pos) (eC (.dict [])):=PE.imp XE λZ H Q gh=>by
 rw[5];cases ef;exact λq hq=>k.dic hP hq (Ab4.2 rfl)
def EC:List aA->Option aA
 |[.dict kds]=>if ik kds=af then aa (.dict kds) else ae
 |_=>ae
theorem Bh:Adw X (.type "dict") (λxs H Q=>∃ a ep kvs,xs=[.ref a]/\H a=aa (.dK ep kvs)/\∀ p n,H p=ae->Q (.ref p) (upd H p (.dK n kvs))):=by
 rw[6];obtain⟨a,ep,kvs,rfl,ha,q⟩:=h;rw[12];exact Us I (.inl ha) λp n s' hp I'=>⟨.ref p,_,I',rfl,q p n hp⟩
theorem Av:CallD K 1 (λxs H Q=>∃ a ep kvs,xs=[.ref a]/\H a=aa (.dK ep kvs)/\∀ p n,H p=ae->Q (.ref p) (upd H p (.dK n kvs))) EC:=λP H xs ds d Q hP r e k=>by
 unfold EC at e;split at e
 .obtain⟨pk,rfl⟩:=cQ e;rw[8];obtain⟨q,ys,rfl,hq,rr⟩:=(sJ pk).1 r;exact⟨q,ys.1,ys.2,rfl,Aas _ _ hq,λl n hl=>k.dic hP hl rr⟩
 .cases e
end
section
variable {Y:aU}
theorem MG:∀ {ds:List aA} {xs:List V} {Fs:List (List aD)},All3 (Af8 K B H 0) ds xs Fs->Aap K B ds xs/\Fs.flatten=[]:=by
 intro ds xs Fs h;induction h with
 |nil=>exact⟨Aan.2 rfl,rfl⟩
 |cons h t ih=>
  obtain⟨rfl,r⟩:=h;exact⟨Aah.2 ⟨_,_,rfl,r,ih.1⟩,by rw[kJ,ih.2];rfl⟩
theorem G3:∀ {ds:List (aA×aA)} {xs:List (aI×V)} {Fs:List (List aD)},All3 (λ(kd:aA×aA) (kv:aI×V) f=>kd.1=kD kv.1/\Af8 K B H 0 kd.2 kv.2 f) ds xs Fs->Abu K B ds xs/\Fs.flatten=[]:=by
 intro ds xs Fs h;induction h with
 |nil=>exact⟨Ab4.2 rfl,rfl⟩
 |@cons p q F ds xs Fs h t ih=>
  obtain⟨k,d⟩:=p;obtain⟨k',v⟩:=q;obtain⟨ek,rfl,r⟩:=h;exact⟨Abd.2 ⟨_,_,_,rfl,ek,r,ih.1⟩,by rw[kJ,ih.2];rfl⟩
theorem GG:∀ {ds:List aA} {xs:List V},Aap K B ds xs->All3 (Af8 K B H1 0) ds xs (xs.map λ_=>[])/\(xs.map λ_=>([]:List aD)).flatten=[]
 |[],xs,r=>by rw[Aan.1 r];exact⟨.nil,rfl⟩
 |d::ds,xs,r=>by
  obtain⟨y,t,rfl,h1,h2⟩:=Aah.1 r;obtain⟨q1,q2⟩:=GG h2;exact⟨.cons ⟨rfl,h1⟩ q1,by rw[dI,kJ,q2];rfl⟩
theorem ND:∀ {ds:List (aA×aA)} {xs:List (aI×V)},Abu K B ds xs->All3 (λ(kd:aA×aA) (kv:aI×V) f=>kd.1=kD kv.1/\Af8 K B H1 0 kd.2 kv.2 f) ds xs (xs.map λ_=>[])/\(xs.map λ_=>([]:List aD)).flatten=[]
 |[],xs,r=>by rw[Ab4.1 r];exact⟨.nil,rfl⟩
 |(k,d)::ds,xs,r=>by
  obtain⟨k',y,t,rfl,ek,h1,h2⟩:=Abd.1 r;obtain⟨q1,q2⟩:=ND h2;exact⟨.cons ⟨ek,rfl,h1⟩ q1,by rw[dI,kJ,q2];rfl⟩
theorem Sta.write {p:aD}{d':aA}(S:Sta K H0 P0 B0 Y Z H fp)(hi:i<Y.length)(hv:Z[i]?=aa (aa (.ref p)))(hp:p∈fp i)(ho:(∃ xs,o=.lst xs)\/∃ q:DQ,o=dO q)
  (new:Ahl K (L2.hid H (Hd P0 fp)) (upd H p o) 1 d' (.ref p) (fp i)):Sta K H0 P0 B0 (Y.set i (aa (1,d'))) Z (upd H p o) fp:=by
 have hb:L2.hid (upd H p o) (Hd P0 fp)=L2.hid H (Hd P0 fp):=by
  funext b;unfold L2.hid;by_cases q:Hd P0 fp b
  .rw[if_pos q,if_pos q]
  .rw[if_neg q,if_neg q];exact cY λz=>q (.inr ⟨i,by rw[z];exact hp⟩)
 refine⟨by simp[S.len],S.nd,S.dj,λj a m=>⟨(S.own j a m).1,?_⟩,λb u e=>?_,S.hd,by rw[hb];exact S.base,λj n d e=>?_⟩
 .by_cases q:a=p
  .subst q;rcases ho with⟨xs,rfl⟩|⟨xs,rfl⟩
   .exact .inl ⟨xs,eU⟩
   .exact .inr ⟨xs,eU⟩
  .rw[cY q];exact(S.own j a m).2
 .rw[cY (lG e (S.own i p hp).1)];exact S.ext b u e
 .by_cases q:j=i
  .subst q;rw[qB hi] at e;cases e;exact⟨_,hv,by rw[hb];exact new⟩
  .rw[nX (λz=>q z.symm)] at e
   obtain⟨v,h1,h2⟩:=S.slot j n d e;refine⟨v,h1,?_⟩;rw[hb];exact h2.keep Ext.refl λa m=>cY λz=>q (S.dj j i a m (by rw[z];exact hp))
theorem Sta.lst1(S:Sta K H0 P0 B0 Y Z H fp)(e:Y[i]?=aa (aa (1,.list ds))):∃ p xs,Z[i]?=aa (aa (.ref p))/\H p=aa (.lst xs)/\Aap K (L2.hid H (Hd P0 fp)) ds xs /\
  ∀ wl ql,Aap K (L2.hid H (Hd P0 fp)) wl ql->Sta K H0 P0 B0 (Y.set i (aa (1,.list wl))) Z (upd H p (.lst ql)) fp:=by
 obtain⟨v,h1,h2⟩:=S.slot i 1 _ e;obtain⟨p,xs,Fs,rfl,hp,hF,h3⟩:=h2;obtain⟨r,hn⟩:=MG h3;rw[hn] at hF;refine⟨p,xs,h1,hp,r,λwl ql r'=>S.write (cT.1 e).1 h1 (by rw[hF];exact bF) (.inl ⟨_,rfl⟩) ?_⟩
 obtain⟨q1,q2⟩:=GG r';exact⟨p,ql,_,rfl,eU,by rw[hF,q2],q1⟩
theorem Sta.dic1 {ds:List (aA×aA)}(S:Sta K H0 P0 B0 Y Z H fp)(e:Y[i]?=aa (aa (1,.dict ds))):∃ p ep xs,Z[i]?=aa (aa (.ref p))/\H p=aa (.dK ep xs)/\Abu K (L2.hid H (Hd P0 fp)) ds xs /\
  ∀ n wl ql,Abu K (L2.hid H (Hd P0 fp)) wl ql->Sta K H0 P0 B0 (Y.set i (aa (1,.dict wl))) Z (upd H p (.dK n ql)) fp:=by
 obtain⟨v,h1,h2⟩:=S.slot i 1 _ e;obtain⟨p,xs,Fs,rfl,hp,hF,h3⟩:=h2;obtain⟨r,hn⟩:=G3 h3;rw[hn] at hF;refine⟨p,xs.1,xs.2,h1,hp,r,λn wl ql r'=>S.write (cT.1 e).1 h1 (by rw[hF];exact bF) (.inr ⟨.inl (n,ql),rfl⟩) ?_⟩
 obtain⟨q1,q2⟩:=ND r';exact⟨p,(n,ql),_,rfl,eU,by rw[hF,q2],q1⟩
end
def getL (i:Nat)(Y:aU):Option (List aA):=match Y[i]? with
 |some (aa (1,.list ds))=>aa ds
 |_=>ae
def nM (i:Nat)(Y:aU):Option (List (aA×aA)):=match Y[i]? with
 |some (aa (1,.dict ds))=>aa ds
 |_=>ae
theorem pQ{Y:aU}(h:getL i Y=aa ds):Y[i]?=aa (aa (1,.list ds)):=by
 unfold getL at h;split at h
 .rename_i e;cases h;exact e
 .cases h
theorem wW{Y:aU}{ds:List (aA×aA)}(h:nM i Y=aa ds):Y[i]?=aa (aa (1,.dict ds)):=by
 unfold nM at h;split at h
 .rename_i e;cases h;exact e
 .cases h
section
variable {k o:aR}{f g:EF}{az ax:bQ}
def gR (i:Nat)(m:Md)(f:EF):SF:=λY=>(eV 0 m f Y).bind λd=>(getL i Y).bind λds=>if ds.length<sizeLine then aa (.nx (Y.set i (aa (1,.list (ds++[d]))))) else ae
theorem ZJ (i:Nat)(m:Md)(he:DE X e f)(hN:X.N[i]?=aa x:=by rfl)(hv:iY X.env.scope x:=by first|exact bK rfl|exact bW (bK rfl)|exact bW (bW rfl))(hd:(x==("__debug__" : aC))=ag:=by decide)
  (ft:(x==("__classdict__" : aC))=ag:=by decide) (bv:oZ (.Name x px) "append" X.env (bM (.Name x px) X.env)=bM (.Name x px) X.env:=by rfl)
  (fu:((eR ax (bH (e::[]) X.env)).all (λx=>!x.1)&&(rL ax (rH [] X.env)).all (λx=>x.1.isSome)
   && decide ((e::[]).length+([]:List iX).length+(if ([]:List iX).isEmpty then 0 else 1)<30))=af:=by rfl)
  (bw:(az.endLine==ax.line)=af:=by rfl) (hs:bH (e::[]) X.env=(ag,bM e X.env)::bH [] X.env:=by rfl) (bp:(eR ax (bH [] X.env)).any (·.1)=ag:=by rfl)
  (rh:mQ (.Call (.Attribute (.Name x px) "append" az) [e] [] ax) ae pos.line X.env=pure ag:=by rfl):DS X H0 P0 n0 (.Expr (.Call (.Attribute (.Name x px) "append" az) [e] [] ax) pos) (gR i m f):=
 PS.imp (zX (sE QS J9 J7 MO (kA hN hv hd ft) (iF (ev m he) kQ hs) bv fu bw hs bp) rh) λD Z H gh=>by
  rw[7];obtain⟨d,e1,cw⟩:=ao ef;obtain⟨ds,e2,cg⟩:=ao cw;obtain⟨hl,rfl⟩:=cQ cg;obtain⟨p,xs,h1,h2,_,_⟩:=S.lst1 (pQ e2);refine⟨.ref p,h1,.inl ⟨rfl,xs,SqL.of h2⟩,B0,Y,fp,d,S,e1,λv H2 gh=>?_⟩
  obtain⟨ij,S2,r2⟩:=gh;obtain⟨p2,xs2,q1,q2,q3,q4⟩:=S2.lst1 (pQ e2);have:p2=p:=by rw[h1] at q1;cases q1;rfl
  rw[20];exact⟨p2,xs2,v,rfl,rfl,q2,by rw[q3.length];exact hl,k _ _ ij (q4 _ _ (q3.snoc r2.2))⟩
def IZ (i:Nat):SF:=λY=>(getL i Y).bind λds=>aa (.nx (Y.set i (aa (1,.list []))))
def sC (i:Nat)(m:Md)(f:EF)(mk:Md)(g:EF):SF:=λY=>(eV 0 m f Y).bind λd=>(getL i Y).bind λds=>(eV 0 mk g Y).bind λk=>match k with
 |.int j=>(ni ds.length j).bind λj=>aa (.nx (Y.set i (aa (1,.list (ds.set j d)))))
 |_=>ae
theorem CF{m:Md}{Y:aU}(S:Sta K H0 P0 B0 Y Z H fp)(e:eV 0 m g Y=aa d)(hd:fR d=af)(k:∀ v H',Ext H H'->Abm K (hid H' (Hd P0 fp)) d v->Q v H'):tF K 0 g Z H Q:=by
 cases m with
 |s=>exact⟨Hd P0 fp,vS Y,d,S.hid,S.viewS,e,eG k⟩
 |a=>
  obtain⟨d',ed,ef⟩:=ao e;obtain⟨fl,rfl⟩:=cQ ef;refine⟨P0,vA Y,d',S.hd.ext S.ext,S.viewA,ed,eG λv H' x r=>k v H' x (r.flat (λa xs e=>?_) _ hd)⟩
  obtain⟨na,e⟩:=Acs.1 e;refine gZ (λq=>?_) e
  rcases q with q|⟨j,q⟩
  .exact na q
  .rcases((S.grow x).own j a q).2 with⟨ys,e2⟩|⟨ys,e2⟩<;>rw[e] at e2<;>first|cases e2|(cases ys<;>simp[dO] at e2)
theorem Dm (i:Nat)(m mk:Md)(he:DE X e f)(hk:DE X k g)(hN:X.N[i]?=aa x:=by rfl)(hv:iY X.env.scope x:=by first|exact bK rfl|exact bW (bK rfl)|exact bW (bW rfl))(hd:(x==("__debug__" : aC))=ag:=by decide)
  (ft:(x==("__classdict__" : aC))=ag:=by decide)
  (ha:∀ v,lO (.Subscript (.Name x px) k az) X.env v=(do
   let ov <-oX [v] (bM (.Name x px) X.env)
   let iv <-oX [v,ov] (bM k X.env)
   standAt az
   oX [v,ov,iv] (setItem ov iv v)
   release [v,ov,iv] []):=by intro _;rfl)
  (hs:QF [.Subscript (.Name x px) k az] e pos.line X.env=pure ag:=by rfl) (hw:QG [.Subscript (.Name x px) k az] e X.env=pure ae:=by rfl)
  (h1:(iJ [.Subscript (.Name x px) k az] X.env).map (·.2)=[lO (.Subscript (.Name x px) k az) X.env]:=by rfl):DS X H0 P0 n0 (.Assign [.Subscript (.Name x px) k az] e pos) (sC i m f mk g):=
 PS.imp (PV (ev m he) (UJ (kA hN hv hd ft) hk set_list ha) hs hw h1) λD Z H gh=>by
  obtain⟨B0,Y,fp,o,S,ef,kk⟩:=gh;obtain⟨d,e1,cw⟩:=ao ef;obtain⟨ds,e2,cg⟩:=ao cw;obtain⟨kd,e3,gw⟩:=ao cg;clear ef cw cg;cases kd with
  |int j=>
   obtain⟨jn,e5,je⟩:=ao (show((ni ds.length j).bind λj=>aa (Out.nx (Y.set i (aa (1,.list (ds.set j d))))))=aa o from gw)
   cases je;refine⟨B0,Y,fp,d,S,e1,λv H2 gh=>?_⟩
   obtain⟨ij,S2,r2⟩:=gh;obtain⟨p,xs,h1,h2,_,_⟩:=S2.lst1 (pQ e2);refine⟨.ref p,h1,CF S2 e3 (by simp[fR]) λu H3 x3 r3=>?_⟩
   have S3:=S2.grow x3;obtain⟨p3,tu,q1,q2,q3,q4⟩:=S3.lst1 (pQ e2);have:p3=p:=by rw[h1] at q1;cases q1;rfl
   rw[20];exact⟨p3,tu,j,jn,rfl,Aal.1 r3,q2,by rw[q3.length];exact e5,kk _ _ ij (q4 _ _ (q3.set (r2.2.ext (dE x3)) jn))⟩
  |_=>cases gw
def mY (i:Nat)(m:Md)(f:EF)(mk:Md)(g:EF):SF:=λY=>(eV 0 m f Y).bind λd=>(nM i Y).bind λkds=>(eV 0 mk g Y).bind λk=>(cA k).bind λk=>if kds.length<sizeLine then aa (.nx (Y.set i (aa (1,.dict (putD kds k d))))) else ae
theorem Tu (i:Nat)(m mk:Md)(hu:X.A.units+40<cLine)(he:DE X e f)(hk:DE X k g)(hN:X.N[i]?=aa x:=by rfl)(hv:iY X.env.scope x:=by first|exact bK rfl|exact bW (bK rfl)|exact bW (bW rfl))(hd:(x==("__debug__" : aC))=ag:=by decide)
  (ft:(x==("__classdict__" : aC))=ag:=by decide) (hs:mQ e (aa (.Subscript (.Name x px) k az)) pos.line X.env=pure ag:=by rfl):DS X H0 P0 n0 (.Assign [.Subscript (.Name x px) k az] e pos) (mY i m f mk g):=
 PS.imp (Ud hu (kA hN hv hd ft) hk (ev m he) hs) λD Z H gh=>by
  obtain⟨B0,Y,fp,o,S,ef,kk⟩:=gh;obtain⟨d,e1,cw⟩:=ao ef;obtain⟨kds,e2,cg⟩:=ao cw;obtain⟨kd,e3,gw⟩:=ao cg;obtain⟨key,e4,je⟩:=ao gw;obtain⟨hl,rfl⟩:=cQ je;clear ef cw cg gw;refine⟨B0,Y,fp,d,S,e1,λv H2 gh=>?_⟩
  obtain⟨ij,S2,r2⟩:=gh;obtain⟨p,ep,xs,h1,h2,_,_⟩:=S2.dic1 (wW e2);have hf:fR kd=af:=by rw[GN e4];cases key<;>simp[kD,fR]
  refine⟨.ref p,h1,CF S2 e3 hf λu H3 x3 r3=>?_⟩
  have S3:=S2.grow x3;obtain⟨p3,vo,tu,q1,q2,q3,q4⟩:=S3.dic1 (wW e2);have:p3=p:=by rw[h1] at q1;cases q1;rfl
  rw[20];refine⟨p3,_,rfl,.inl ⟨vo,tu,key,q2,mJ e4 r3,by rw[q3.length];exact hl,rfl⟩,λn=>kk _ _ ij (q4 n _ _ (FD q3 (r2.2.ext (dE x3))))⟩
end
section
variable {a:aR}{fa fb fc:EF}
def pR:aA->aA->Option aA
 |.list xs,.list ys=>if xs.length+ys.length<=sizeLine then aa (.list (xs++ys)) else ae
 |_,_=>ae
theorem Su:OpR X (kC .Add) (λx y H Q=>∃ l b xs zs,x=.ref l/\y=.ref b/\SqL X.K H l xs/\SqL X.K H b zs/\xs.length+zs.length<=sizeLine/\∀ p,H p=ae->Q (.ref p) (upd H p (.lst (xs++zs)))):=by
 rw[4];obtain⟨l,b,xs,zs,rfl,rfl,hH,hB,hz,q⟩:=h;cases rx;cases ry;obtain⟨its,r,p1,z1⟩:=I.list hH;obtain⟨wg,r2,p2,z2⟩:=I.list hB;have l1:=r.length;have l2:=r2.length;obtain⟨⟨cls,dd,data,sl⟩,ho,hc,n,hd⟩:=p1.isList;obtain⟨⟨P4,No,data2,NE⟩,xj,oq,n2,vj⟩:=p2.isList;simp only at hc hd oq vj;subst hc hd oq vj;refine QN ⟨_,ho,rfl⟩ ⟨_,xj,rfl⟩ noFill_list_add seq_list_add PySem.F.slot_list_add PySem.F.entry_list_add (PySem.F.args_list_add_2 _ _) (list_addW l b its.toArray wg.toArray n n2 dd No sl NE (by simp only[eA];omega)) ⟨ho,xj,?_⟩
 have ea:its.toArray++wg.toArray=(its++wg).toArray:=by simp
 rw[ea];exact⟨.ref _,_,I.lnew (r.append r2) (by rw[mU];omega),rfl,q _ I.fresh⟩
theorem Qc (ha:DE X a fa)(hb:DE X b fb):DF 1 X (.BinOp a .Add b pos) (ah pR fa fb):=pF Su (λP H x y a b d Q hP ra rb e k=>by
 unfold pR at e;split at e
 .obtain⟨hz,rfl⟩:=cQ e;obtain⟨p,xs,rfl,hp,r1⟩:=Abb.1 ra;obtain⟨q,ys,rfl,hq,r2⟩:=Abb.1 rb;exact⟨p,q,xs,ys,rfl,rfl,Aas.sqL hp,Aas.sqL hq,by rw[r1.length,r2.length];exact hz,λl hl=>k.lst hP hl (r1.append r2)⟩
 .cases e) ha hb
end
variable {a:aR}{f fa fb:EF}
def oP (x:aC)(lo hi:Option Int):aC:=
 if (IJ lo hi 1 x.length).length==x.length then x else⟨((IJ lo hi 1 x.length).filterMap (x.cps[·]?)).toArray⟩
theorem XO (x:aC)(lo hi:Option Int):(oP x lo hi).length<=x.length:=by
 unfold oP;split
 .exact bE _
 .refine dG ?_ (sliceIndices_le lo hi x.length);exact DB _ _
theorem XF(lo hi:Option Int)(h:cH (.str x)=af):cH (.str (oP x lo hi))=af:=by
 unfold oP;split
 .exact h
 .simp only[cH,HQ] at h ⊢;rw[List.all_toArray,eB];intro c m;obtain⟨i,_,e⟩:=sX.1 m;exact L6.1 h c (Array.mem_of_getElem? e)
def xV:aE->Option (Int×Tok)
 |.int i t=>aa (i,t)
 |_=>ae
theorem Ad {v:aE}{o:Option Int}(h:qE v o):partValue (xV v)=v/\(xV v).map (·.1)=o:=by
 cases h with
 |none=>exact⟨rfl,rfl⟩
 |int i t=>exact⟨rfl,rfl⟩
def Jl:V->Option Int->Option Int->Hp->VK->Prop:=λx lo hi H Q=>∃ z,x=.str z/\z.length<=sizeLine/\Q (.str (oP z lo hi)) H
theorem Bjl:SlR X Jl:=by
 intro ad s Z H x v vl vu lo hi sl Q I rx hs pl pu h;obtain⟨z,rfl,hz,q⟩:=h;obtain⟨t,rfl⟩:=rx;obtain⟨e1,m1⟩:=Ad pl;obtain⟨e2,m2⟩:=Ad pu;refine⟨"str",_,PySem.F.slot_str_getitem.lookup,typeIs_str s z t,?_⟩;have zr:s.heap.IsSlice sl (xV vl) (xV vu) ae:=by
  obtain⟨o,h1,h2,h3⟩:=hs;exact⟨o,h1,h2,by rw[e1,e2];exact h3⟩
 refine wpAny_getItem_str_slice zr rfl ?_;have es:slicePicked z (xV vl) (xV vu) ae=IJ lo hi 1 z.length:=by
  unfold slicePicked;rw[m1,m2]
  rfl
 unfold sliceMade;rw[es];unfold oP at q;by_cases hc:(IJ lo hi 1 z.length).length==z.length
 .rw[if_pos hc] at q;rw[if_pos (by rw[hc];rfl)]
  exact⟨.str z,H,I,⟨t,rfl⟩,q⟩
 .rw[if_neg hc] at q;rw[if_neg (by simpa using hc)]
  refine⟨?_,⟨.str ⟨((IJ lo hi 1 z.length).filterMap (z.cps[·]?)).toArray⟩,H,I.tok _,⟨_,rfl⟩,q⟩⟩;have:=XO z lo hi;unfold oP at this;rw[if_neg hc] at this;exact dG this hz
def Y0 (f:EF)(lo hi:OF):EF:=λY=>(f Y).bind λd=>(lo Y).bind λl=>(hi Y).bind λh=>match d with
 |.str z=>if z.length<=sizeLine then aa (.str (oP z l h)) else ae
 |.tuple ds=>if HT.sIx ds.length 0 l=0/\HT.sIx ds.length ds.length h=ds.length then ae else aa (.tuple (cutD ds l h))
 |_=>ae
theorem Mb {lo hi:Option aR}{fl fh:OF}{pp:bQ}(he:DE X e f)(hl:DO X lo fl)(hh:DO X hi fh):DE X (.Subscript e (.Slice lo hi ae pp) pos) (Y0 f fl fh):=PE.imp (WR (Bjl.or VL) he hl hh) λZ H Q gh=>by
 rw[5];obtain⟨d1,e1,cw⟩:=ao ef;obtain⟨l,e2,cg⟩:=ao cw;obtain⟨h,e3,gw⟩:=ao cg;clear ef cw cg;cases d1 with
 |str z=>
  obtain⟨hc,rfl⟩:=cQ gw;refine⟨P,Y,_,hP,rs,e1,eG λv H1 x1 r1=>⟨P,Y,l,hP.ext x1,rs.ext (dE x1),e2,λH2 x2=>⟨P,Y,h,hP.ext (x1.trans x2),rs.ext (dE (x1.trans x2)),e3,λH3 x3=>?_⟩⟩⟩
  refine .inl ⟨z,(Aay.1 r1).1,hc,(k.mono ((x1.trans x2).trans x3)).zero Ext.refl (Aay.2 ⟨rfl,XF _ _ (Aay.1 r1).2⟩)⟩
 |tuple ds=>
  by_cases hw:HT.sIx ds.length 0 l=0/\HT.sIx ds.length ds.length h=ds.length
  .have je:(if HT.sIx ds.length 0 l=0/\HT.sIx ds.length ds.length h=ds.length then ae else aa (cV (cutD ds l h)))=aa d:=gw
   rw[if_pos hw] at je;cases je
  have je:(if HT.sIx ds.length 0 l=0/\HT.sIx ds.length ds.length h=ds.length then ae else aa (cV (cutD ds l h)))=aa d:=gw
  rw[if_neg hw] at je;cases je;refine⟨P,Y,_,hP,rs,e1,eG λv H1 x1 r1=>⟨P,Y,l,hP.ext x1,rs.ext (dE x1),e2,λH2 x2=>⟨P,Y,h,hP.ext (x1.trans x2),rs.ext (dE (x1.trans x2)),e3,λH3 x3=>?_⟩⟩⟩
  obtain⟨q,ys,rfl,hq,rr⟩:=Aar.1 (r1.ext (dE (x2.trans x3)));refine .inr ⟨q,ys,rfl,SqT.of (Aas _ _ hq),by rw[rr.length];exact hw,λp hp=>(k.mono ((x1.trans x2).trans x3)).tup (hP.ext ((x1.trans x2).trans x3)) hp ?_⟩
  unfold zI cutD;rw[rr.length];exact(rr.drop _).take _
 |_=>cases gw
def UD (K:aK):R2:=λx y H Q=>∃ a b ys,x=.ref a/\y=.ref b/\SqT K H a []/\SqT K H b ys/\Q (.ref b) H
theorem Tw:OpR X (kC .Add) (UD X.K):=by
 rw[4];obtain⟨a,b,ys,rfl,rfl,ha,hb,q⟩:=h;cases rx;cases ry;obtain⟨its,r1,p1,_⟩:=I.tuple ha;obtain⟨wg,r2,p2,_⟩:=I.tuple hb;cases r1;obtain⟨⟨cls,dd,data,sl⟩,ho,hc,n,hd⟩:=p1;obtain⟨⟨P4,No,data2,NE⟩,xj,oq,n2,vj⟩:=p2;simp only at hc hd oq vj;subst hc hd oq vj;exact QN ⟨_,ho,rfl⟩ ⟨_,xj,rfl⟩ Gh seq_tuple_add Gz Hb (Hc _ _)
  (tuple_addW0 a b _ _ n n2 dd No sl NE rfl) ⟨ho,xj,⟨.ref b,H,I,rfl,q⟩⟩
def EE:aA->aA->Option aA
 |.tuple xs,.tuple ys=>if xs.length+ys.length<=sizeLine then aa (.tuple (xs++ys)) else ae
 |_,_=>ae
theorem Vp:so K 0 (λx y H Q=>JN K x y H Q\/UD K x y H Q) EE:=λP H x y a b d Q hP ra rb e k=>by
 unfold EE at e;split at e
 .rename_i zs ys;rw[21];obtain⟨p,us,rfl,hp,r1⟩:=Aar.1 ra;obtain⟨q,ws,rfl,hq,r2⟩:=Aar.1 rb;have l1:=r1.length;have l2:=r2.length;cases zs with
  |nil=>
   have eu:us=[]:=by simpa using l1
   subst eu;exact .inr ⟨p,q,ws,rfl,rfl,SqT.of (Aas _ _ hp),SqT.of (Aas _ _ hq),k.zero Ext.refl rb⟩
  |cons z zs=>
   refine .inl ⟨p,q,us,ws,rfl,rfl,SqT.of (Aas _ _ hp),SqT.of (Aas _ _ hq),λz=>by rw[z] at l1;simp at l1,by rw[l1,l2];exact hc,λz=>?_,λz r hr=>?_⟩
   .subst z;have:ys=[]:=by simpa using l2.symm
    rw[20];refine k.zero Ext.refl ?_;rw[qC];exact ra
   .exact k.tup hP hr (r1.append r2)
 .cases e
theorem Qx (ha:DE X a fa)(hb:DE X b fb):DE X (.BinOp a .Add b pos) (ah EE fa fb):=pF (A8b.or Tw) Vp ha hb
def vQ:List aA->Option aA
 |[.int i,.int j]=>aa (.int (if j > i then j else i))
 |_=>ae
theorem ZR:CallD K 0 (λxs H Q=>∃ i j,xs=[.int i,.int j]/\Q (.int (if j > i then j else i)) H) vQ:=λP H xs ds d Q hP r e k=>by
 unfold vQ at e;split at e
 .cases e;obtain⟨v,t,rfl,h1,h2⟩:=Aah.1 r;obtain⟨v',rfl,h3⟩:=hE h2;rw[Aal.1 h1,Aal.1 h3];exact⟨_,_,rfl,k.zero Ext.refl (Aal.2 rfl)⟩
 .cases e
end L2
namespace L2
open PySem PySem.Spec PyProof.Rows
variable {sl:Array (Option aE)}{us ai:Array aE}{Q E:aE->aH->Prop}{ds k:List aA}{l a it I r:aD}{h h':aQ}{d:aA}{es:Array (Int×aE)}{ep j n i mask bz m N n0:Nat}{s:aH}{e c tg e2:aR}{R:Result->aH->Prop}{P prog:bT}{w:bB}{K:aK}{b:Bool}{u:aE}{x y:aC}{xs ys:List V}{fp:Nat->List aD}{B H H' H0 B0:Hp}{v:V}{fa f g fk fb:EF}{p1 p2 lm pos uq az ax px lj ap cp:bQ}{wr:List aD}{G:Array vG->Array vG->Prop}{ad:List (aD×aZ)}{kds:List (aA×aA)}{ps:List Nat}{T:String}{p:Array Nat}{ow:Array (Option Nat)}{A:cB}{o:aZ}{ks kss qs:List (List aA)}{vs:List aE}{X:Cx}{P0:aD->Prop}{Y:aU}
theorem i9 {t sl:aD}{vl vu:aE}{lo hi:Option Int}(ht:IsTup s.heap t us)(hs:s.heap.IsSliceOf sl vl vu .none)(pl:qE vl lo)(pu:qE vu hi)
  (hw:HT.sIx us.size 0 lo=0/\HT.sIx us.size us.size hi=us.size) (h:Q (.ref t) s):aM (aO P w) A (rJ (.ref t) (.ref sl)) Q E s:=by
 obtain⟨os,e1,e2,e3⟩:=id hs;have ty:s.TypeIs (.ref sl) "slice":=⟨os,e1,e2⟩;unfold rJ
 try with_reducible refine hG ?_
 first|refine aG (aN ?_)|skip
 refine aG (wpAny_sequenceKey ht.typeIs (by decide) (aG (mP ht.typeIs QI (fX QI ht.typeIs entry_tuple_getitem ?_ (args_tuple_getitem _ _)))))
 show aM _ _ (Iy (.ref t)>>=_) _ _ s;refine aG (tupleItemsOf_ ht (aG (nN ty ?_)));rw[if_pos (by decide)]
 refine aG (HT.Ahg hs pl pu ?_);have yes:(((HT.sIx us.size 0 lo:Nat):Int)==0&&(1:Int)==1&&(HT.sIx us.size us.size hi-HT.sIx us.size 0 lo)==us.size)=af:=by
  rw[hw.1,hw.2];simp
 show aM _ _ (if (((HT.sIx us.size 0 lo:Nat):Int)==0&&(1:Int)==1&&(HT.sIx us.size us.size hi-HT.sIx us.size 0 lo)==us.size)=af then _ else _) _ _ s
 rw[if_pos yes];unfold Builtin.Tuple.tupleIsExact;refine aG (aG (nN ht.typeIs (aN ?_)));rw[if_pos (by decide)]
 exact aG (oW (aN ⟨_,rfl,aN h⟩))
def Ke (K:aK):V->Option Int->Option Int->Hp->VK->Prop:=λx lo hi H Q=>∃ a xs,x=.ref a/\SqT K H a xs/\(HT.sIx xs.length 0 lo=0/\HT.sIx xs.length xs.length hi=xs.length)/\Q (.ref a) H
theorem Ba8:SlR X (Ke X.K):=by
 intro ad s Z H x v vl vu lo hi sl Q I rx hs pl pu h;obtain⟨a,xs,rfl,hx,hw,q⟩:=h;cases rx;obtain⟨its,r,ht,hz⟩:=I.tuple hx;have ay:its.toArray.size=xs.length:=by rw[eA];exact r.length.symm
 exact⟨"tuple",_,QI.lookup,ht.typeIs,i9 ht hs pl pu (by rw[ay];exact hw) ⟨.ref a,H,I,rfl,q⟩⟩
def mK (f:EF)(lo hi:OF):EF:=λY=>(f Y).bind λd=>(lo Y).bind λl=>(hi Y).bind λh=>match d with
 |.tuple ds=>aa (.tuple (cutD ds l h))
 |_=>ae
theorem Xj{l h:Option Int}(hw:HT.sIx ds.length 0 l=0/\HT.sIx ds.length ds.length h=ds.length):cutD ds l h=ds:=by
 unfold cutD;rw[hw.1,hw.2];simp
theorem Nt {lo hi:Option aR}{fl fh:OF}{pp:bQ}(he:DE X e f)(hl:DO X lo fl)(hh:DO X hi fh):DE X (.Subscript e (.Slice lo hi ae pp) pos) (mK f fl fh):=PE.imp (WR (Ba8.or VL) he hl hh) λZ H Q gh=>by
 rw[5];obtain⟨d1,e1,cw⟩:=ao ef;obtain⟨l,e2,cg⟩:=ao cw;obtain⟨h,e3,gw⟩:=ao cg;clear ef cw cg;cases d1 with
 |tuple ds=>
  cases gw;refine⟨P,Y,_,hP,rs,e1,eG λv H1 x1 r1=>⟨P,Y,l,hP.ext x1,rs.ext (dE x1),e2,λH2 x2=>⟨P,Y,h,hP.ext (x1.trans x2),rs.ext (dE (x1.trans x2)),e3,λH3 x3=>?_⟩⟩⟩
  have r3:=r1.ext (dE (x2.trans x3));obtain⟨q,ys,rfl,hq,rr⟩:=Aar.1 r3;by_cases hw:HT.sIx ds.length 0 l=0/\HT.sIx ds.length ds.length h=ds.length
  .rw[Xj hw] at k;exact .inl ⟨q,ys,rfl,SqT.of (Aas _ _ hq),by rw[rr.length];exact hw,(k.mono ((x1.trans x2).trans x3)).zero Ext.refl r3⟩
  .refine .inr ⟨q,ys,rfl,SqT.of (Aas _ _ hq),by rw[rr.length];exact hw,λp hp=>(k.mono ((x1.trans x2).trans x3)).tup (hP.ext ((x1.trans x2).trans x3)) hp ?_⟩
   unfold zI cutD;rw[rr.length];exact(rr.drop _).take _
 |_=>cases gw
def A0p (h:aQ)(d:aD)(es:Array rQ)(ep:Nat):Prop:=∃ o,h.get? d=aa o/\o.ExactDict/\o.data=.dict es ep
theorem A0p.keep{d:aD}{es:Array rQ}(x:A0p h d es ep)(k:∀ o,h.get? d=aa o->h'.get? d=aa o):A0p h' d es ep:=
 let ⟨o,e,r⟩:=x;⟨o,k o e,r⟩
theorem A0p.ty{d:aD}{es:Array rQ}(x:A0p s.heap d es ep):s.TypeIs (.ref d) "dict":=let ⟨o,e,c,_⟩:=x;⟨o,e,c.1⟩
section
variable {d:aD}{es:Array rQ}
theorem Vv(nm:(d==kU)=ag)(R:A0p s.heap d es ep)
  (q:Q (.ref s.heap.objs.size) { s with heap:=s.heap.push { cls:=.type "dict_keyiterator",data:=.fields #[.ref d,.int 0 0,.int es.size 0,.int ep 0] } }):aM (aO prog w) A (lL (.ref d)) Q E s:=by
 have ty:=R.ty;obtain⟨o,eo,_,ed⟩:=R;refine xZ ty F.slot_dict_iter (fX F.slot_dict_iter ty F.entry_dict_iter
  ?_ (F.args_dict_iter_1 _))
 unfold Builtin.«dict.__iter__»;rw[19];unfold Builtin.Dict.dictSlotNone;refine aG (Ge ty ?_);refine aN ?_;show aM _ _ (Builtin.Dict.showsAll d>>=_) _ _ s;unfold Builtin.Dict.showsAll;rw[if_neg (show ¬ (d==kU)=af by rw[nm];exact lX)]
 refine aG (aN ?_);refine aG (Gf eo ed ?_);refine aG (wpAny_dictEpoch eo ed ?_);refine aG (iI (aN ⟨_,rfl,"dict_keyiterator",_,
  ⟨_,cW _ rfl,rfl⟩,IH.lookup,?_⟩))
 simpa [cS] using q
theorem Vb {e:rQ}{Q:Option aE->aH->Prop}(K:s.heap.IsKeyIter it d i es.size ep)(R:A0p s.heap d es ep)(x:es[i]?=aa e)
  (q:∀ h',h'.IsKeyIter it d (i+1) es.size ep->nY it s.heap h'->Q (aa e.key) { s with heap:=h' }):aM (aO prog w) A (gL (.ref it)) Q E s:=by
 obtain⟨oi,ei,ci,di⟩:=id K;obtain⟨o,eo,_,ed⟩:=R;unfold gL;refine aG (rF (mP K.typeIs
  IH (fX IH K.typeIs
   L0 ?_ (L3 _))))
 refine aG (aN ?_);rw[19];rw[19]
 first
  |refine aG (PZ K.typeIs (aN ?_))
  |refine aG (PY K.typeIs (aN ?_))
 refine aG (CJ ei di ?_);have own:Builtin.Dict_items.ownsTuple "dict_keyiterator" = ag:=by decide
 simp only[own,iN,if_false];show aM _ _ (if (eK d==eF)=af then _ else _) _ _ s
 rw[if_neg (show ¬ (eK d==eF)=af from lX)]
 refine aG (aN ?_);refine aG (Gf eo ed ?_);rw[if_neg (by simp)]
 refine aG (aN ?_);refine aG (wpAny_dictEpoch eo ed ?_);rw[if_neg (by simp)]
 refine aN ?_;simp only[show ¬ ((i:Int)<0) from by omega,if_false,kX,x]
 rw[19]
 first
  |refine aG (PZ K.typeIs (aN ?_))
  |refine aG (PY K.typeIs (aN ?_))
 refine aG (wpAny_isOneOf_keyiter K.typeIs ?_);show aM _ _ (setField (.ref it) 1 (cS ((i:Int)+1))>>=_) _ _ s;refine aG (QB ei di (by simp) ?_)
 have K':(s.heap.update it (Obj.mapFields (·.setIfInBounds 1 (cS ((i:Int)+1))))).IsKeyIter it d (i+1) es.size ep:=
  ⟨_,qI _ ei (Obj.isFreed_of_fields (QW di _)),(Obj.cls_mapFields ..).trans ci,by
   rw[QW di];simp[cS]⟩
 refine aG (hG ?_);refine aG (wpAny_isOneOf_keyiter
  K'.typeIs ?_)
 exact aN (aN ⟨_,rfl,aN (q _ K' (yT ..))⟩)
theorem Tx {Q:Option aE->aH->Prop}(hh:A.handled=ae)(K:s.heap.IsKeyIter it d i es.size ep)(R:A0p s.heap d es ep)(x:es.size<=i)
  (q:∀ h',RQ it s.heap h'->Q ae { s with heap:=h' }):aM (aO prog w) A (gL (.ref it)) Q E s:=by
 obtain⟨oi,ei,ci,di⟩:=id K;obtain⟨o,eo,_,ed⟩:=R;unfold gL;refine aG (rF (mP K.typeIs
  IH (fX IH K.typeIs
   L0 ?_ (L3 _))))
 refine aG (aN ?_);rw[19];rw[19]
 first
  |refine aG (PZ K.typeIs (aN ?_))
  |refine aG (PY K.typeIs (aN ?_))
 refine aG (CJ ei di ?_);have own:Builtin.Dict_items.ownsTuple "dict_keyiterator" = ag:=by decide
 simp only[own,iN,if_false];show aM _ _ (if (eK d==eF)=af then _ else _) _ _ s
 rw[if_neg (show ¬ (eK d==eF)=af from lX)]
 refine aG (aN ?_);refine aG (Gf eo ed ?_);rw[if_neg (by simp)]
 refine aG (aN ?_);refine aG (wpAny_dictEpoch eo ed ?_);rw[if_neg (by simp)]
 refine aN ?_;simp only[show ¬ ((i:Int)<0) from by omega,if_false,kX,SE x]
 rw[19]
 first
  |refine aG (PZ K.typeIs (aN ?_))
  |refine aG (PY K.typeIs (aN ?_))
 show aM _ _ (setField (.ref it) 0 .none>>=_) _ _ s;refine aG (QB ei di (by simp) ?_)
 rw[19];simp only[newExc,CL];refine aG (iI ?_ (by size_fits))
 refine aG (yB
  (by first|rfl|(simp only[HL];rfl)) ?_)
 refine iI ?_ (by size_fits)
 simp only[raiseNew];refine aG (HF ?_);rw[show A.in1.handled=ae from hh]
 refine aG (aN (HD ?_));refine aG (sR
  ⟨_,cW _ rfl,rfl⟩ HJ ?_)
 exact aN (q _ (((yT ..).extBut.push _).push _))
theorem y9 (hh:A.handled=ae)(I d:aD)(ne:d≠I)(es:Array rQ)(ep:Nat) :
  Walks prog w A I [I,d] [I] es.size (λi v=>∃ e,es[i]?=aa e/\v=e.key) (λi h=>h.IsKeyIter I d i es.size ep/\A0p h d es ep) where
 sub:=λb hb=>by simp at hb;simp[hb]
 frame:=λ_ _ _ st hk=>⟨st.1.at λo e=>hk I (by simp) o e,st.2.keep λo e=>hk d (by simp) o e⟩
 item:=λi s Q E hi st hQ=>by
  have hx:=kY hi;refine Vb st.1 st.2 hx λh' K' hs=>?_
  exact hQ _ h' s.toks ⟨_,hx,rfl⟩ ⟨K',st.2.keep λo e=>hs.extBut d o ne e⟩ λb o hb e=>hs.extBut b o (λh=>hb (by simp[h])) e
 done:=λs Q E st hQ=>Tx hh st.1 st.2 (bE _) λh' he=>hQ h' s.toks λb o hb e=>he b o (λh=>hb (by simp[h])) e
 self:=λ_ _ _ _ st hQ=>wpAny_pyIter_keyiter st.1 hQ
theorem h8:HH (.type "dict") "__len__" = pure (aa (.builtin "dict.__len__")):=by rw[yD,yG];kernel_rfl
theorem Xn(hh:A.handled=ae)(nm:(d==kU)=ag)(D:A0p s.heap d es ep)(S:aD)(res:aE)(c₀:Nat)(hSd:S≠d)
  (hS:s.heap.get? S=aa { cls:=.type "list",data:=.seq #[] c₀ }) (hn:es.size<=sizeLine)
  (q:∀ h' tk aj c',(∀ b o,b≠S->s.heap.get? b=aa o->h'.get? b=aa o)->h'.get? S=aa { cls:=.type "list",dict:=ae,data:=.seq aj c',slots:=#[] } ->
   ItemsOf (λi v=>∃ e,es[i]?=aa e/\v=e.key) aj es.size->R (.ok (.ret res)) { s with heap:=h',toks:=tk }) :
  aM (aO prog w) A.in1 (vJ (.ref S) (.ref d) res)
   (λfin s'=>match fin with|.done f=>R (.ok f) s'|.again c'=>c'.quiet=af/\nQ (aO prog w) A c' R s') (λe s'=>R (.error e) s') s:=by
 have ty:=D.ty;unfold vJ;refine aG (nN ty ?_);have h1:DM (.ref S) (.ref d)=ag:=by
  simp[DM,hSd]
 have h2:(kE "dict" == kE "list")=ag:=by decide
 have h3:(kE "dict" == kE "tuple")=ag:=by decide
 simp only[h1,h2,h3,Jb,iN,if_false];refine aG (Vv nm D ?_);refine aG (hG ?_);have W6:d<s.heap.objs.size:=by obtain⟨o,e,_⟩:=D;exact bU e
 have hS0:S<s.heap.objs.size:=bU hS;have tw:∀ b o,s.heap.get? b=aa o->(s.heap.push { cls:=.type "dict_keyiterator",data:=.fields #[.ref d,.int 0 0,.int es.size 0,.int ep 0] }).get? b=aa o:=λb o e=>bN _ e
 have D':A0p (s.heap.push { cls:=.type "dict_keyiterator",data:=.fields #[.ref d,.int 0 0,.int es.size 0,.int ep 0] }) d es ep:=D.keep λo e=>tw d o e
 have itG:(s.heap.push { cls:=.type "dict_keyiterator",data:=.fields #[.ref d,.int 0 0,.int es.size 0,.int ep 0] }).IsKeyIter s.heap.objs.size d 0 es.size ep:=⟨_,cW _ rfl,rfl,rfl⟩;unfold SA;refine aG (xY (T:="dict") (v:=.ref d) (by obtain⟨o,e,c,_⟩:=D';exact⟨o,e,c.1⟩) h8 ?_)
 wp_delta
 refine aG (sR (T:="dict") (v:=.ref d) (b:=af) (by obtain⟨o,e,c,_⟩:=D';exact⟨o,e,c.1⟩) (by rw[uV];kernel_rfl) ?_)
 show aM _ _ (typeOf (eK d)>>=_) _ _ _;refine aG (nN (T:="dict") (v:=.ref d) (by obtain⟨o,e,c,_⟩:=D';exact⟨o,e,c.1⟩) ?_)
 refine aN ?_;rw[if_pos (by decide)]
 refine aG (oW ?_);rw[19];have S1:=tw _ _ hS;generalize(s.heap.push { cls:=.type "dict_keyiterator",data:=.fields #[.ref d,.int 0 0,.int es.size 0,.int ep 0] })=G at tw D' S1 itG ⊢;show aM _ _ (yC S (·.push .none)>>=λ_=>yC S (·.pop)) _ _ _
 refine aG (xX S1 rfl ?_);have S2:=qI (fG (·.push eF)) S1 rfl;refine xX (hz:=by seq_fits) S2 rfl ?_
 have S3:=qI (fG (·.pop)) S2 rfl;have io:∀ b o,b≠S->G.get? b=aa o->((G.update S (fG (·.push eF))).update S (fG (·.pop))).get? b=aa o:=λb o hb e=>
  (sY _ _ (hW hb)).trans ((sY _ _ (hW hb)).trans e)
 have cb:d≠s.heap.objs.size:=cI W6;have W7:S∉[s.heap.objs.size,d]:=λhm=>by
  rcases cM.1 hm with z|z
  .exact absurd hS0 (by rw[z];exact lQ _)
  .exact hSd (bX.1 z)
 refine aN ⟨nP Ir _,Gi (y9 (A:=A.in1) hh s.heap.objs.size d cb es ep).toS hn _ W7 _ es.size 0 _ _ _ rfl (eO _)
  ⟨itG.at λo e=>io _ o (kG hS0) e,D'.keep λo e=>io _ o (hW hSd) e⟩ S3 (ItemsOf.nil _) λs' aj c' hm qm fw=>?_⟩
 rw[Moved.eq_with hm];refine q s'.heap s'.toks aj c' (λb ob hb e=>hm.heap b ob (λhmem=>?_) (io b ob hb (tw _ _ e))) qm fw
 rcases cM.1 hmem with z|hmem
 .exact hb z
 .exact absurd (bU e) (by rw[bX.1 hmem];exact lQ _)
theorem Vj(hh:A.handled=ae)(nm:(d==kU)=ag)(D:A0p s.heap d es ep)(hn:es.size<=sizeLine)
  (q:∀ h' tk aj c',(∀ b o,s.heap.get? b=aa o->h'.get? b=aa o)->h'.get? s.heap.objs.size=aa { cls:=.type "list",dict:=ae,data:=.seq aj c',slots:=#[] } ->
   ItemsOf (λi v=>∃ e,es[i]?=aa e/\v=e.key) aj es.size->Q (.ref s.heap.objs.size) { s with heap:=h',toks:=tk }):aM (aO prog w) A (call (.type "list") [.ref d]) Q E s:=by
 refine callType_codes (Q₁:=λobj s₁=>obj=.ref s.heap.objs.size/\s₁={ s with heap:=s.heap.push { cls:=.type "list",data:=.seq #[] } })
  F.called_list (F.typeCall_list_1 _) F.entry_list_init (code_list_new _ ⟨rfl,rfl⟩) λobj s₁ h₁=>?_
 obtain⟨rfl,rfl⟩:=h₁;have W6:d<s.heap.objs.size:=by obtain⟨o,e,_⟩:=D;exact bU e
 have N1:(s.heap.push { cls:=.type "list",data:=.seq #[] }).get? s.heap.objs.size=aa { cls:=.type "list",data:=.seq #[] }:=cW _ rfl;refine⟨⟨_,N1,rfl⟩,F.args_list_init_2 _ _,?_⟩;show aM _ _ (do
  let tz <-Builtin.List.listItems (.ref s.heap.objs.size)
  Builtin.List.listUpdate (.ref s.heap.objs.size) (λ_=>#[])
  letGo tz.toList.reverse
  vJ (.ref s.heap.objs.size) (.ref d) .none) _ _ _
 rw[19];unfold Builtin.List.listItems;refine aG (kB N1 rfl (aN ?_));show aM _ _ (yC s.heap.objs.size (λ_=>#[])>>=λ_=>letGo (#[]:Array aE).toList.reverse>>=λ_=>
  vJ (.ref s.heap.objs.size) (.ref d) .none) _ _ _
 refine aG (xX N1 rfl ?_);have N2:=qI (fG (λ_=>(#[]:Array aE))) N1 rfl
 have io:∀ b o,b≠s.heap.objs.size->(s.heap.push { cls:=.type "list",data:=.seq #[] }).get? b=aa o ->
   ((s.heap.push { cls:=.type "list",data:=.seq #[] }).update s.heap.objs.size (fG (λ_=>(#[]:Array aE)))).get? b=aa o:=λb o hb e=>(sY _ _ (hW hb)).trans e
 refine aG (QD ?_);refine Xn (A:=A.in1) hh nm (D.keep λo e=>io d o (cI W6) (bN _ e)) s.heap.objs.size .none _ (kG W6) N2 hn λh' tk aj c' hk qm fw=>?_
 exact⟨rfl,q h' tk aj c' (λb o e=>hk b o (cI (bU e)) (io b o (cI (bU e)) (bN _ e))) qm fw⟩
end
section
variable {Z:St}
theorem NJ:∀ {es:List rQ} {kvs:List (aI×V)} {vs:List (aI×aE)},KV kvs vs->PySem.Pairs (fK P w) es vs->Vals (kvs.map λkv=>kV kv.1) (es.map (·.key))
 |[],kvs,vs,r,p=>by
  cases p;cases r;exact .nil
 |e::es,kvs,vs,r,p=>by
  cases p with
  |cons h hv t=>
   cases r with
   |cons h' t'=>
    refine .cons ?_ (NJ t' t);show RelV (kV _) e.key;rw[h'.1];rcases nH h with⟨i,tk,e1,e2⟩|⟨x,tk,e1,e2⟩
    .rw[e1,e2];exact⟨tk,rfl⟩
    .rw[e1,e2];exact⟨tk,rfl⟩
theorem E2 {es:Array rQ}{aj:Array aE}(h:ItemsOf (λi v=>∃ e,es[i]?=aa e/\v=e.key) aj es.size):aj.toList=es.toList.map (·.key):=by
 obtain⟨h1,h2⟩:=h;apply RM;intro i;rw[eW];by_cases hi:i<aj.size
 .have ha:aj.toList[i]?=aa aj[i]:=by simp[hi]
  obtain⟨e,he,hv⟩:=h2 i aj[i] (by simp[hi])
  have he':es.toList[i]?=aa e:=by simpa using he
  rw[ha,he',hv]
  rfl
 .have ha:aj.toList[i]?=ae:=by simp;omega
  have he:es.toList[i]?=ae:=by simp;omega
  rw[ha,he]
  rfl
theorem Ny {ep0:Nat}{kvs:List (aI×V)}(I:Inv X ad Z H s)(ha:H a=aa (.dK ep0 kvs)):kvs.length<=sizeLine/\(a==kU)=ag/\∃ es ep,A0p s.heap a es ep/\Vals (kvs.map λkv=>kV kv.1) (es.toList.map (·.key))/\es.size=kvs.length:=by
 obtain⟨z,nm,vs,r,o,es,ep,e1,e2,e3,_,e5,_⟩:=tW I.hok ha;refine⟨z,nm,es,ep,⟨o,e1,e2,e3⟩,NJ r e5,?_⟩;have l1:=(NJ r e5).length;simp at l1;exact l1.symm
theorem F6 (hc:X.calm=af):Adw X (.type "list") (λxs H Q=>∃ a ep kvs,xs=[.ref a]/\H a=aa (.dK ep kvs)/\∀ l,H l=ae->Q (.ref l) (upd H l (.lst (kvs.map λkv=>kV kv.1)))):=by
 rw[6];obtain⟨a,ep1,kvs,rfl,ha,q⟩:=h;rw[12];obtain⟨z,nm,es,ep,D,rv,el⟩:=Ny I ha;refine Vj (I.ok.hd hc) nm D (by omega) λh' tk aj c' hk hS fw=>?_
 have ea:=E2 fw;rw[<-ea] at rv;exact⟨.ref s.heap.objs.size,_,I.laid hk (bE _) (show Adc X.prog X.w _ h' _ (.lst _) from⟨by rw[cJ];exact z,aj.toList,c',rv,by simpa using hS⟩),rfl,q _ I.fresh⟩
theorem ZY:∀ {kds:List (aA×aA)} {kvs:List (aI×V)},Abu K H kds kvs->(∀ kd∈kds,cH kd.1=af)->Aap K H (kds.map (·.1)) (kvs.map λkv=>kV kv.1)
 |[],kvs,r,_=>by rw[Ab4.1 r];exact Aan.2 rfl
 |(k,d)::kds,kvs,r,h=>by
  obtain⟨k',x,rr,rfl,rfl,h1,h2⟩:=Abd.1 r;refine Aah.2 ⟨_,_,rfl,?_,ZY h2 λkd m=>h kd (bL _ m)⟩
  have hl:=h (kD k',d) bF;cases k' with
  |inl i=>exact Aal.2 rfl
  |inr z=>exact Aay.2 ⟨rfl,hl⟩
def ES:List aA->Option aA
 |[.dict kds]=>if (ik kds&&kds.all λkd=>cH kd.1)=af then aa (.list (kds.map (·.1))) else ae
 |_=>ae
theorem Yw:CallD K 1 (λxs H Q=>∃ a ep kvs,xs=[.ref a]/\H a=aa (.dK ep kvs)/\∀ l,H l=ae->Q (.ref l) (upd H l (.lst (kvs.map λkv=>kV kv.1)))) ES:=λP H xs ds d Q hP r e k=>by
 unfold ES at e;split at e
 .obtain⟨hl,rfl⟩:=cQ e;obtain⟨v,rfl,r'⟩:=hE r;obtain⟨pk,hl⟩:=jR.1 hl;obtain⟨q,ys,rfl,hq,rr⟩:=(sJ pk).1 r';exact⟨q,ys.1,ys.2,rfl,Aas _ _ hq,λl xh=>k.lst hP xh (ZY rr (eB.1 hl))⟩
 .cases e
def rT (b:List (aA×aA)):List (aA×aA)->Bool
 |[]=>af
 |(k,d)::r=>match (cA k).bind (cC b) with
  |none=>ag
  |some e=>cD d e&&rT b r
def EJ (a b:List (aA×aA)):Bool:=a.length==b.length&&rT b a
def valsOk (a:List (aA×aA)):Bool:=a.all λkd=>cZ kd.2
theorem Uo {b:List (aA×aA)}{k:aI}(h:valsOk b=af)(e:cC b k=aa d):cZ d=af:=by
 unfold cC at e;cases q:b.find? λkd=>decide (cA kd.1=aa k) with
 |none=>rw[q] at e;cases e
 |some kd=>
  rw[q] at e;have:kd.2=d:=by simpa using e
  rw[20];exact eB.1 h kd (RF q)
theorem Fm (hu:X.A.units+100<cLine)(I:Inv X ad Z H s){kb:List (aA×aA)}{vb:List (aI×V)}{ub:List (aI×aE)}(rb:Abu X.K H kb vb)(qb:KV vb ub)(fb:valsOk kb=af) :
  ∀ {ka:List (aA×aA)} {va:List (aI×V)} {ua:List (aI×aE)},valsOk ka=af->Abu X.K H ka va->KV va ua->PySem.W.KeqHits X.A.in1 s ub ua (rT kb ka)
 |[],va,ua,_,ra,qa=>by
  obtain rfl:=Ab4.1 ra;cases qa;exact .nil
 |(k,d)::ka,va,ua,fa,ra,qa=>by
  obtain⟨k',x,rr,rfl,rfl,h1,h2⟩:=Abd.1 ra;have xk:cZ d=af/\valsOk ka=af:=by simpa [valsOk] using fa
  cases qa with
  |@cons _ u _ us h' t'=>
  obtain⟨g1,g2⟩:=h';obtain⟨uk,uv⟩:=u;have e2:=g1;subst e2;have dh:=qb.val k';have eh:rT kb ((kD k',d)::ka)=(match cC kb k' with|none=>ag|some e=>cD d e&&rT kb ka):=by
   show(match (cA (kD k')).bind (cC kb) with|none=>ag|some e=>cD d e&&rT kb ka)=_
   rw[nE]
   rfl
  rcases uN rb with⟨n1,n2⟩|⟨d',v',s1,s2,rd⟩
  .rw[n2] at dh;rw[eh,n1];exact .miss dh.none_of
  .rw[s2] at dh;obtain⟨y,hy,ry⟩:=dh.some_of;have f1:noDict d=af/\d.depth<=60:=by simpa [cZ] using xk.1
   have f2:noDict d'=af/\d'.depth<=60:=by simpa [cZ] using Uo fb s1
   obtain⟨l1,as,ra'⟩:=mI I f1.1 h1 g2;obtain⟨l2,bs,rb'⟩:=mI I f2.1 rd ry;have eq:=SeqAt.eqAt_reads d d' X.A.in1 s uv y as bs ra' rb' l1 l2 (by
    have:X.A.in1.units=X.A.units+1:=rfl;omega)
   rw[eh,s1];exact .hit hy eq (Fm hu I rb qb fb xk.2 h2 t')
def SM (K:aK)(neg:Bool):R2:=λx y H Q=>∃ ka kb,Abm K H (.dict ka) x/\Abm K H (.dict kb) y/\(ik ka=af/\ik kb=af)/\valsOk ka=af/\valsOk kb=af/\Q (.bl (neg != EJ ka kb)) H
theorem Nl (hu:X.A.units+100<cLine):OpR X (jG .NotEq) (SM X.K af):=by
 rw[4];obtain⟨ka,kb,ra,rb,pk,fa,fb,q⟩:=h;obtain⟨a,va,rfl,ha,ra⟩:=(sJ pk.1).1 ra;obtain⟨b,vb,rfl,hb,rb⟩:=(sJ pk.2).1 rb;cases rx;cases ry;obtain⟨_,na,ua,qa,da⟩:=tW I.hok ha;obtain⟨_,nb,ub,qb,db⟩:=tW I.hok hb;have l1:=(ra.length).symm.trans qa.length;have l2:=(rb.length).symm.trans qb.length;refine PySem.W.keq_ne na nb da db (by omega) (λ_=>Fm hu I rb qb fb fa ra qa) ?_
 rw[<-l1,<-l2];exact⟨.bl _,H,I,rfl,by simpa [EJ] using q⟩
def tM (neg:Bool):aA->aA->Option aA
 |.dict a,.dict b=>if (valsOk a&&valsOk b&&(ik a&&ik b))=af then aa (.bool (neg != EJ a b)) else ae
 |_,_=>ae
theorem Qv{neg:Bool}:so K 0 (SM K neg) (tM neg):=λP H x y a b d Q hP ra rb e k=>by
 unfold tM at e;split at e
 .rw[21];have il:=jR.1 hc;have hv:=jR.1 il.1;exact⟨_,_,ra.ext Aas,rb.ext Aas,jR.1 il.2,hv.1,hv.2,k.zero Ext.refl (Aaw.2 rfl)⟩
 .cases e
end
open PySem
structure Sub (P:bT)(w:bB)(it:aD)(own:List aD)(St:Nat->aQ->Prop)(xs:Array aE):Prop where
 mem:it∈own
 obj:∀ k h,St k h->∀ c∈own,∃ o,h.get? c=aa o
 keep:∀ k h h',St k h->(∀ c∈own,∀ o,h.get? c=aa o->h'.get? c=aa o)->St k h'
 item:∀ (A:cB) (E:aE->aH->Prop) (s:aH) (Q:aE->aH->Prop) (k:Nat) (x:aE),St k s.heap->xs[k]?=aa x ->
  (∀ h',St (k+1) h'->nY it s.heap h'->Q x { s with heap:=h' })->aM (aO P w) A (vI (.ref it)) Q E s
 done:∀ (A:cB) (E:aE->aH->Prop) (s:aH) (Q:aE->aH->Prop) (k:Nat),A.handled=ae->St k s.heap->xs[k]?=ae ->
  (∀ h' e,RQ it s.heap h'->(∃ o,h'.get? e=aa o/\o.cls=.type "StopIteration")->E (.ref e) { s with heap:=h' })->aM (aO P w) A (vI (.ref it)) Q E s
section
theorem Uj {j t:aD}{k:Nat}(hj:s.heap.IsTupleIter j t k)(ht:s.heap.IsTuple t us)(hu:us[k]?=aa u)
  (q:∀ h',h'.IsTupleIter j t (k+1)->nY j s.heap h'->Q u { s with heap:=h' }):aM (aO P w) A (vI (.ref j)) Q E s:=by
 obtain⟨oj,g1,g2,g3⟩:=id hj;obtain⟨ot,t1,_,nt,t2⟩:=ht;unfold vI;refine aG (mP hj.typeIs RT (fX RT hj.typeIs F.entry_tuple_iterator_next ?_ (F.args_tuple_iterator_next_1 _)));show aM _ _ (field (.ref j) 0>>=_) _ _ s;refine aG (jO g1 g3 (x:=.ref t) rfl ?_);have ne:¬ (eK t==eF)=af:=lX;rw[if_neg ne];refine aG (jO g1 g3 rfl ?_);refine aG (kB t1 t2 ?_);simp only[kX,hu];refine aG (QB g1 g3 (by simp) (aN ⟨u,rfl,aN (q _ ⟨_,qI _ g1 (Obj.isFreed_of_fields (QW g3 _)),(Obj.cls_mapFields ..).trans g2,?_⟩ (yT ..))⟩))
 rw[QW g3];simp[cS]
theorem Vd {j t:aD}{k:Nat}(hh:A.handled=ae)(hj:s.heap.IsTupleIter j t k)(ht:s.heap.IsTuple t us)(hu:us[k]?=ae)
  (q:∀ h' e,RQ j s.heap h'->(∃ o,h'.get? e=aa o/\o.cls=.type "StopIteration")->E (.ref e) { s with heap:=h' }):aM (aO P w) A (vI (.ref j)) Q E s:=by
 obtain⟨oj,g1,g2,g3⟩:=id hj;obtain⟨ot,t1,_,nt,t2⟩:=ht;unfold vI;refine aG (mP hj.typeIs RT (fX RT hj.typeIs F.entry_tuple_iterator_next ?_ (F.args_tuple_iterator_next_1 _)));show aM _ _ (field (.ref j) 0>>=_) _ _ s;refine aG (jO g1 g3 (x:=.ref t) rfl ?_);have ne:¬ (eK t==eF)=af:=lX;rw[if_neg ne];refine aG (jO g1 g3 rfl ?_);refine aG (kB t1 t2 ?_);simp only[kX,hu];refine aG (oW (aG (QB g1 g3 (by simp) ?_)))
 rw[19];simp only[newExc,CL];refine aG (iI ?_ (by size_fits))
 refine aG (yB (by first|rfl|(simp only[HL];rfl)) ?_)
 refine iI ?_ (by size_fits)
 simp only[raiseNew];refine aG (HF ?_)
 first|rw[show A.in1.handled=ae from hh]|rw[hh]
 refine aG (aN (HD (q _ _ (((yT ..).extBut.push _).push _) ⟨_,cW _ rfl,rfl⟩)))
theorem Py (j t:aD)(us:Array aE)(ne:t≠j):Sub P w j [j,t] (λk h=>h.IsTupleIter j t k/\h.IsTuple t us) us where
 mem:=bF
 obj:=λk h ⟨⟨o,e,_⟩,⟨o',e',_⟩⟩ c hc=>by
  rcases cM.1 hc with rfl|hc
  .exact⟨o,e⟩
  .rw[bX.1 hc];exact⟨o',e'⟩
 keep:=λk h h' ⟨⟨o,e,r⟩,⟨o',e',r'⟩⟩ kp=>⟨⟨o,kp j bF o e,r⟩,⟨o',kp t (by simp) o' e',r'⟩⟩
 item:=λA E s Q k x ⟨a,b⟩ hx q=>Uj a b hx λh' a' sb=>q h' ⟨a',b.extBut sb.extBut ne⟩ sb
 done:=λA E s Q k hh ⟨a,b⟩ hx q=>Vd hh a b hx q
theorem m6 (j t:aD)(us:Array aE)(ne:t≠j):Sub P w j [j,t] (λk h=>h.IsListIter j t k/\h.IsList t us) us where
 mem:=bF
 obj:=λk h ⟨⟨o,e,_⟩,⟨o',e',_⟩⟩ c hc=>by
  rcases cM.1 hc with rfl|hc
  .exact⟨o,e⟩
  .rw[bX.1 hc];exact⟨o',e'⟩
 keep:=λk h h' ⟨⟨o,e,r⟩,⟨o',e',r'⟩⟩ kp=>⟨⟨o,kp j bF o e,r⟩,⟨o',kp t (by simp) o' e',r'⟩⟩
 item:=λA E s Q k x ⟨a,b⟩ hx q=>wpAny_nextOf_list_item a b hx λh' a' sb=>q h' ⟨a',b.extBut sb.extBut ne⟩ sb
 done:=λA E s Q k hh ⟨a,b⟩ hx q=>wpAny_nextOf_list_end hh a b hx q
structure ZApart (z TI TO i1 i2:aD)(o1 o2:List aD):Prop where
 TIz:TI≠z
 TOz:TO≠z
 TITO:TI≠TO
 TI1:TI≠i1
 TI2:TI≠i2
 i12:i1≠i2
 z1:z∉o1
 z2:z∉o2
 TO1:TO∉o1
 TO2:TO∉o2
 x12:i1∉o2
 x21:i2∉o1
variable {z TI TO i1 i2:aD}{o1 o2:List aD}{S1 S2:Nat->aQ->Prop}{xs ys:Array aE}{k:Nat}
def yj (z TI TO i1 i2:aD)(S1 S2:Nat->aQ->Prop)(f0:aE)(k:Nat)(h:aQ):Prop:=
 IsZip h z TI TO f0/\qF h TI (.ref i1) (.ref i2)/\(∃ a b,qF h TO a b)/\S1 k h/\S2 k h
theorem Sub.but {c:aD}{own:List aD}{St:Nat->aQ->Prop}(U:Sub P w it own St us)(st:St k h)(hc:c∉own)(e:RQ c h h'):St k h':=
 U.keep k h h' st λb hb o g=>e b o (λq=>hc (q ▸ hb)) g
theorem Wu {x y:aE}(D:ZApart z TI TO i1 i2 o1 o2)(U:Sub P w i1 o1 S1 xs)(V:Sub P w i2 o2 S2 ys)(st:yj z TI TO i1 i2 S1 S2 .none k s.heap)(hx:xs[k]?=aa x)(hy:ys[k]?=aa y)
  (q:∀ h',yj z TI TO i1 i2 S1 S2 (cS s.heap.objs.size) (k+1) h'->qF h' s.heap.objs.size x y->h'.objs.size=s.heap.objs.size+1 ->
   (∀ c o,c≠z->c≠TO->c≠i1->c≠i2->s.heap.get? c=aa o->h'.get? c=aa o)->Q (.ref s.heap.objs.size) { s with heap:=h' }) :
  aM (aO P w) A (Builtin.«zip.__next__» ⟨[.ref z],[]⟩) (λfin s'=>∃ v,fin=.done (.ret v)/\Q v s') E s:=by
 obtain⟨gz,gI,⟨a,b,gO⟩,zq,vh⟩:=st;have z1:i1≠z:=λe=>D.z1 (e ▸ U.mem)
 have z2:i2≠z:=λe=>D.z2 (e ▸ V.mem)
 have t1:TO≠i1:=λe=>D.TO1 (e ▸ U.mem)
 have t2:TO≠i2:=λe=>D.TO2 (e ▸ V.mem)
 show aM _ _ (field (.ref z) 2>>=_) _ E s;refine aG (jO gz rfl (x:=.bool ag) rfl ?_);show aM _ _ (field (.ref z) 3>>=_) _ E s;refine aG (jO gz rfl (x:=.ref TI) rfl (aG (kB gI rfl ?_)));show aM _ _ (Iz (.ref z)>>=_) _ E s;rw[19];unfold Iz;refine aG (jO gz rfl (x:=.none) rfl (aN ?_));rw[25];refine aG (oW (aG (jO gz rfl (x:=.ref TO) rfl ?_)));refine aG (nO gz (by simp) λha yu sa=>?_)
 replace yu:IsZip ha z TI TO .ellipsis:=yu;rw[19];simp only[List.zipIdx_cons,List.zipIdx_nil,Ib,List.forIn_nil];refine aG (aG (QC ?_));show aM _ _ (vI (.ref i1)>>=_) _ _ _;refine aG (U.item _ _ _ _ k x (U.but zq D.z1 sa.extBut) hx λhb Q6 sb=>aN ?_)
 have Q7:qF hb TO a b:=sb.extBut _ _ t1 (sa.extBut _ _ D.TOz gO);refine aG (kB Q7 rfl (aG (Gc Q7 λhc W8 sc=>?_)))
 replace W8:qF hc TO x b:=W8;refine aG (QD (aN (aG (aG (QC ?_)))));show aM _ _ (vI (.ref i2)>>=_) _ _ _;refine aG (V.item _ _ _ _ k y (V.but (V.but (V.but vh D.z2 sa.extBut) D.x12 sb.extBut) D.TO2 sc.extBut) hy λhd st2d sd=>aN ?_)
 have gOd:qF hd TO x b:=sd.extBut _ _ t2 W8;refine aG (kB gOd rfl (aG (Gc gOd λhe W9 se=>?_)))
 replace W9:qF he TO x y:=W9;refine aG (QD (aN (aN ?_)));refine aG (kB W9 rfl (aG (wpAny_newTuple ?_)));have size:he.objs.size=s.heap.objs.size:=by rw[se.1,sd.1,sc.1,sb.1,sa.1]
 have gze:IsZip he z TI TO .ellipsis:=se.extBut _ _ D.TOz.symm (sd.extBut _ _ z2.symm (sc.extBut _ _ D.TOz.symm (sb.extBut _ _ z1.symm yu)));have tz:∀ c o,c≠z->c≠TO->c≠i1->c≠i2->s.heap.get? c=aa o->he.get? c=aa o:=λc o n1 n2 n3 n4 g=>se.extBut _ _ n2 (sd.extBut _ _ n4 (sc.extBut _ _ n2 (sb.extBut _ _ n3 (sa.extBut _ _ n1 g))))
 have st1e:S1 (k+1) he:=U.but (U.but (U.but Q6 D.TO1 sc.extBut) D.x21 sd.extBut) D.TO1 se.extBut;have st2e:S2 (k+1) he:=V.but st2d D.TO2 se.extBut;have zlt:z<he.objs.size:=bU gze;show aM _ _ (L4 (.ref z) (.ref he.objs.size)>>=_) _ _ _;rw[19];unfold L4;have gzf:IsZip (he.push { cls:=.type "tuple",data:=.seq #[x,y] }) z TI TO .ellipsis:=bN _ gze;refine aG (nO gzf (by simp) λhg gzg sg=>?_)
 replace gzg:IsZip hg z TI TO (cS he.objs.size):=gzg;refine nO gzg (by simp) λhi W' si=>?_
 replace W':IsZip hi z TI TO (cS he.objs.size):=W';have up:∀ c o,c≠z->he.get? c=aa o->hi.get? c=aa o:=λc o n1 g=>si.extBut _ _ n1 (sg.extBut _ _ n1 (bN _ g))
 have gT:qF hi he.objs.size x y:=si.extBut _ _ (kG zlt) (sg.extBut _ _ (kG zlt) (cW _ rfl));have sz:hi.objs.size=he.objs.size+1:=by rw[si.1,sg.1,qH]
 have st1i:S1 (k+1) hi:=U.keep _ _ _ st1e λc hc o g=>up c o (λe=>D.z1 (e ▸ hc)) g
 have st2i:S2 (k+1) hi:=V.keep _ _ _ st2e λc hc o g=>up c o (λe=>D.z2 (e ▸ hc)) g
 rw[size] at W' gT sz;refine aN ⟨_,rfl,?_⟩;show Q (.ref he.objs.size) _;rw[size];exact q hi ⟨W',up _ _ D.TIz (tz _ _ D.TIz D.TITO D.TI1 D.TI2 gI),⟨x,y,up _ _ D.TOz W9⟩,st1i,st2i⟩ gT sz λc o n1 n2 n3 n4 g=>up c o n1 (tz c o n1 n2 n3 n4 g)
theorem Wt {Q:Fin->aH->Prop}(hh:A.handled=ae)(D:ZApart z TI TO i1 i2 o1 o2)(U:Sub P w i1 o1 S1 xs)(V:Sub P w i2 o2 S2 ys)(st:yj z TI TO i1 i2 S1 S2 .none k s.heap)(zv:xs[k]?=ae\/ys[k]?=ae)
  (q:∀ h' e,(∀ c o,c≠z->c≠TO->c≠i1->c≠i2->s.heap.get? c=aa o->h'.get? c=aa o)->(∃ o,h'.get? e=aa o/\o.cls=.type "StopIteration")->E (.ref e) { s with heap:=h' }) :
  aM (aO P w) A (Builtin.«zip.__next__» ⟨[.ref z],[]⟩) Q E s:=by
 obtain⟨gz,gI,⟨a,b,gO⟩,zq,vh⟩:=st;have z1:i1≠z:=λe=>D.z1 (e ▸ U.mem)
 have z2:i2≠z:=λe=>D.z2 (e ▸ V.mem)
 have t1:TO≠i1:=λe=>D.TO1 (e ▸ U.mem)
 show aM _ _ (field (.ref z) 2>>=_) _ E s;refine aG (jO gz rfl (x:=.bool ag) rfl ?_);refine aG (jO gz rfl rfl (aG (kB gI rfl ?_)));rw[19];unfold Iz;refine aG (jO gz rfl rfl (aN ?_));rw[25];refine aG (oW (aG (jO gz rfl rfl ?_)));refine aG (nO gz (by simp) λha yu sa=>?_)
 replace yu:IsZip ha z TI TO .ellipsis:=yu;rw[19];simp only[List.zipIdx_cons,List.zipIdx_nil,Ib,List.forIn_nil];refine aG (aG (QC ?_));have far:∀ {h':aQ} {e:aD},IsZip h' z TI TO .ellipsis->(∃ o,h'.get? e=aa o/\o.cls=.type "StopIteration")->e≠z:=λg ⟨o,g1,g2⟩ n=>by
  subst n;rw[g] at g1;cases g1;simp at g2
 cases hx:xs[k]? with
 |none=>
  refine aG (U.done _ _ _ _ k hh (U.but zq D.z1 sa.extBut) hx λhb e sb he=>?_)
  have gzb:=sb _ _ z1.symm yu;have ne:=far gzb he;obtain⟨o,g1,g2⟩:=he;exact nO gzb (by simp) λhc _ sc=>q hc e (λc o n1 _ n3 _ g=>sc.extBut _ _ n1 (sb _ _ n3 (sa.extBut _ _ n1 g))) ⟨o,sc.extBut _ _ ne g1,g2⟩
 |some x=>
  have hy:=zv.resolve_left λh=>by rw[hx] at h;cases h
  refine aG (U.item _ _ _ _ k x (U.but zq D.z1 sa.extBut) hx λhb Q6 sb=>aN ?_)
  have Q7:=sb.extBut _ _ t1 (sa.extBut _ _ D.TOz gO);refine aG (kB Q7 rfl (aG (Gc Q7 λhc W8 sc=>?_)))
  refine aG (QD (aN (aG (aG (QC ?_)))));refine aG (V.done _ _ _ _ k hh (V.but (V.but (V.but vh D.z2 sa.extBut) D.x12 sb.extBut) D.TO2 sc.extBut) hy λhd e sd he=>?_)
  have gzd:=sd _ _ z2.symm (sc.extBut _ _ D.TOz.symm (sb.extBut _ _ z1.symm yu));have ne:=far gzd he;obtain⟨o,g1,g2⟩:=he;exact nO gzd (by simp) λhf _ sf=>q hf e (λc o n1 n2 n3 n4 g=>sf.extBut _ _ n1 (sd _ _ n4 (sc.extBut _ _ n2 (sb.extBut _ _ n3 (sa.extBut _ _ n1 g))))) ⟨o,sf.extBut _ _ ne g1,g2⟩
theorem Wv {x y:aE}{Q:Option aE->aH->Prop}(D:ZApart z TI TO i1 i2 o1 o2)(U:Sub P w i1 o1 S1 xs)(V:Sub P w i2 o2 S2 ys)(st:yj z TI TO i1 i2 S1 S2 .none k s.heap)(hx:xs[k]?=aa x)(hy:ys[k]?=aa y)
  (q:∀ h',yj z TI TO i1 i2 S1 S2 (cS s.heap.objs.size) (k+1) h'->qF h' s.heap.objs.size x y->h'.objs.size=s.heap.objs.size+1 ->
   (∀ c o,c≠z->c≠TO->c≠i1->c≠i2->s.heap.get? c=aa o->h'.get? c=aa o)->Q (aa (.ref s.heap.objs.size)) { s with heap:=h' }):aM (aO P w) A (gL (.ref z)) Q E s:=by
 have ty:s.TypeIs (.ref z) "zip":=⟨_,st.1,rfl⟩;unfold gL;exact aG (rF (mP ty RS (fX RS ty F.entry_zip_next (Wu D U V st hx hy λh' a1 a2 a3 a4=>aN (q h' a1 a2 a3 a4)) (F.args_zip_next_1 _))))
theorem Xf {Q:Option aE->aH->Prop}(hh:A.handled=ae)(D:ZApart z TI TO i1 i2 o1 o2)(U:Sub P w i1 o1 S1 xs)(V:Sub P w i2 o2 S2 ys)(st:yj z TI TO i1 i2 S1 S2 .none k s.heap)(zv:xs[k]?=ae\/ys[k]?=ae)
  (q:∀ h',(∀ c o,c≠z->c≠TO->c≠i1->c≠i2->s.heap.get? c=aa o->h'.get? c=aa o)->Q ae { s with heap:=h' }):aM (aO P w) A (gL (.ref z)) Q E s:=by
 have ty:s.TypeIs (.ref z) "zip":=⟨_,st.1,rfl⟩;unfold gL;refine aG (rF (mP ty RS (fX RS ty F.entry_zip_next (Wt hh D U V st zv λh' e kp ⟨o,g1,g2⟩=>?_) (F.args_zip_next_1 _))))
 exact aG (sR ⟨o,g1,g2⟩ HJ (aN (q _ kp)))
end
def SqB (b:Bool)(h:aQ)(l:aD)(us:Array aE):Prop:=match b with
 |true=>h.IsList l us
 |false=>h.IsTuple l us
def M7 (b:Bool)(l:aD):aZ:={ cls:=.type (match b with|true=>"list_iterator" | false=>"tuple_iterator"),data:=.fields #[.ref l,.int 0 0] }
def StB (b:Bool)(j l:aD)(us:Array aE)(k:Nat)(h:aQ):Prop:=match b with
 |true=>h.IsListIter j l k/\h.IsList l us
 |false=>h.IsTupleIter j l k/\h.IsTuple l us
theorem EA(b:Bool)(j l:aD)(us:Array aE)(ne:l≠j):Sub P w j [j,l] (StB b j l us) us:=by
 cases b with
 |true=>exact m6 j l us ne
 |false=>exact Py j l us ne
theorem SqB.keep(q:SqB b h l us)(k:∀ o,h.get? l=aa o->h'.get? l=aa o):SqB b h' l us:=by
 cases b with
 |true=>
  obtain⟨o,e,r⟩:=q;exact⟨o,k o e,r⟩
 |false=>
  obtain⟨o,e,r⟩:=q;exact⟨o,k o e,r⟩
theorem StB.new{j:aD}(q:SqB b h l us)(e:h.get? j=aa (M7 b l)):StB b j l us 0 h:=by
 cases b with
 |true=>exact⟨⟨_,e,rfl,rfl⟩,q⟩
 |false=>exact⟨⟨_,e,rfl,rfl⟩,q⟩
section
variable {b1 b2:Bool}{l1 l2:aD}{xs ys:Array aE}
theorem UT(h:SqB b s.heap l us)(q:Q (.ref s.heap.objs.size) { s with heap:=s.heap.push (M7 b l) }):aM (aO P w) A (lL (.ref l)) Q E s:=by
 cases b with
 |true=>exact CI h q
 |false=>exact wpAny_pyIter_tuple h q
abbrev zA (b1:Bool)(h:aQ)(l1:aD):aQ:=h.push (M7 b1 l1)
abbrev zB (b1 b2:Bool)(h:aQ)(l1 l2:aD):aQ:=(zA b1 h l1).push (M7 b2 l2)
abbrev zC (b1 b2:Bool)(h:aQ)(l1 l2:aD):aQ:=(zB b1 b2 h l1 l2).push { cls:=.type "tuple",data:=.seq #[.ref h.objs.size,.ref (zA b1 h l1).objs.size] }
abbrev zD (b1 b2:Bool)(h:aQ)(l1 l2:aD):aQ:=(zC b1 b2 h l1 l2).push { cls:=.type "tuple",data:=.seq #[.none,.none] }
abbrev zE (b1 b2:Bool)(h:aQ)(l1 l2:aD):aQ:=(zD b1 b2 h l1 l2).push { cls:=.type "zip",data:=.fields #[.none,.bool ag,.bool ag,.ref (zB b1 b2 h l1 l2).objs.size,.ref (zC b1 b2 h l1 l2).objs.size] }
theorem m5 (b1 b2:Bool)(l1 l2:aD)(xs ys:Array aE) :
  Meets (Builtin.«zip.__new__» ⟨[.type "zip",.ref l1,.ref l2],[]⟩) (λ_ R s=>SqB b1 s.heap l1 xs/\SqB b2 s.heap l2 ys /\
   R (.ok (.ret (.ref (zD b1 b2 s.heap l1 l2).objs.size))) { s with heap:=zE b1 b2 s.heap l1 l2 }):=
 .of_wp λprog w A R s h=>by
  obtain⟨hp,g,d,tk,os⟩:=s;obtain⟨q1,q2,q⟩:=h;have sz:=sub_zip;have u1:SqB b1 (Shared.heap ⟨hp,g,d,tk,os⟩) l1 xs:=q1;have u2:SqB b2 (Shared.heap ⟨hp.push (M7 b1 l1),g,d,tk,os⟩) l2 ys:=q2.keep λo e=>bN _ e
  wp_walk using UT u1,UT u2
  exact⟨_,rfl,q⟩
theorem F4 {l1 l2:Nat}(h1:l1<n)(h2:l2<n):ZApart (n+4) (n+2) (n+3) n (n+1) [n,l1] [n+1,l2]:=by
 have N3:∀ {a b c:Nat},a≠b->a≠c->a∉[b,c]:=λh h' m=>by
  rcases cM.1 m with m|m
  .exact h m
  .exact h' (bX.1 m)
 have ne:∀ {a b:Nat},a<b->a≠b:=cI;have en:∀ {a b:Nat},b<a->a≠b:=kG;exact⟨ne (by omega),ne (by omega),ne (by omega),en (by omega),en (by omega),ne (by omega),N3 (en (by omega)) (en (by omega)),N3 (en (by omega)) (en (by omega)),N3 (en (by omega)) (en (by omega)),N3 (en (by omega)) (en (by omega)),N3 (ne (by omega)) (en h2),N3 (en (by omega)) (en (by omega))⟩
theorem o6(h1:SqB b1 s.heap l1 xs)(h2:SqB b2 s.heap l2 ys)
  (q:∀ (z TI TO i1 i2:aD) (h':aQ),s.heap.objs.size<=z->s.heap.objs.size<=TI->s.heap.objs.size<=TO->s.heap.objs.size<=i1->s.heap.objs.size<=i2->ZApart z TI TO i1 i2 [i1,l1] [i2,l2]->yj z TI TO i1 i2 (StB b1 i1 l1 xs) (StB b2 i2 l2 ys) .none 0 h' ->
   (∀ c o,s.heap.get? c=aa o->h'.get? c=aa o)->Q (.ref z) { s with heap:=h' }):aM (aO P w) A (call (.type "zip") [.ref l1,.ref l2]) Q E s:=by
 refine callType_new F.called_zip (by decide) (F.typeCall_zip_2 _ _) (F.newCall_zip_2 _ _) (λobj=>F.args_object_init_3 obj _ _) F.entry_zip_new (m5 b1 b2 l1 l2 xs ys) ⟨h1,h2,?_⟩
 have za:(zA b1 s.heap l1).objs.size=s.heap.objs.size+1:=qH ..;have zb:(zB b1 b2 s.heap l1 l2).objs.size=s.heap.objs.size+2:=by rw[qH,za]
 have zc:(zC b1 b2 s.heap l1 l2).objs.size=s.heap.objs.size+3:=by rw[qH,zb]
 have zd:(zD b1 b2 s.heap l1 l2).objs.size=s.heap.objs.size+4:=by rw[qH,zc]
 have g5:(zE b1 b2 s.heap l1 l2).get? (zD b1 b2 s.heap l1 l2).objs.size=aa _:=cW _ rfl;have g4:(zE b1 b2 s.heap l1 l2).get? (zC b1 b2 s.heap l1 l2).objs.size=aa _:=bN _ (cW _ rfl);have g3:(zE b1 b2 s.heap l1 l2).get? (zB b1 b2 s.heap l1 l2).objs.size=aa _:=bN _ (bN _ (cW _ rfl));have g2:(zE b1 b2 s.heap l1 l2).get? (zA b1 s.heap l1).objs.size=aa (M7 b2 l2):=bN _ (bN _ (bN _ (cW _ (by cases b2<;>rfl))))
 have g1:(zE b1 b2 s.heap l1 l2).get? s.heap.objs.size=aa (M7 b1 l1):=bN _ (bN _ (bN _ (bN _ (cW _ (by cases b1<;>rfl)))))
 have all:∀ c o,s.heap.get? c=aa o->(zE b1 b2 s.heap l1 l2).get? c=aa o:=λc o x=>bN _ (bN _ (bN _ (bN _ (bN _ x))))
 have lt1:l1<s.heap.objs.size:=by
  cases b1 with
  |true=>obtain⟨o,e,_⟩:=h1;exact bU e
  |false=>obtain⟨o,e,_⟩:=h1;exact bU e
 have lt2:l2<s.heap.objs.size:=by
  cases b2 with
  |true=>obtain⟨o,e,_⟩:=h2;exact bU e
  |false=>obtain⟨o,e,_⟩:=h2;exact bU e
 refine⟨⟨_,g5,rfl⟩,q _ (zB b1 b2 s.heap l1 l2).objs.size (zC b1 b2 s.heap l1 l2).objs.size s.heap.objs.size (zA b1 s.heap l1).objs.size _ (by omega) (by omega) (by omega) (by omega) (by omega) ?_ ⟨g5,g3,⟨_,_,g4⟩,StB.new (h1.keep (all l1)) g1,StB.new (h2.keep (all l2)) g2⟩ all⟩
 have ap:=F4 lt1 lt2;rw[<-za,<-zb,<-zc,<-zd] at ap;exact ap
end
def ItB (b:Bool)(j l:aD)(k:Nat)(h:aQ):Prop:=match b with
 |true=>h.IsListIter j l k
 |false=>h.IsTupleIter j l k
theorem Ahz{j:aD}{k:Nat}:StB b j l us k h↔ItB b j l k h/\SqB b h l us:=by cases b<;>exact Iff.rfl
theorem ItB.get{j:aD}{k:Nat}(q:ItB b j l k h):∃ o,h.get? j=aa o/\∀ v,o.data ≠ .cell v:=by
 cases b with
 |true=>
  obtain⟨o,e,_,d⟩:=q;exact⟨o,e,λv z=>by rw[d] at z;cases z⟩
 |false=>
  obtain⟨o,e,_,d⟩:=q;exact⟨o,e,λv z=>by rw[d] at z;cases z⟩
theorem ItB.keep{j:aD}{k:Nat}(q:ItB b j l k h)(kp:∀ o,h.get? j=aa o->h'.get? j=aa o):ItB b j l k h':=by
 cases b with
 |true=>
  obtain⟨o,e,r⟩:=q;exact⟨o,kp o e,r⟩
 |false=>
  obtain⟨o,e,r⟩:=q;exact⟨o,kp o e,r⟩
def uh (b:Bool)(K:aK)(H:Hp)(a:aD)(xs:List V):Prop:=match b with
 |true=>SqL K H a xs
 |false=>SqT K H a xs
section
variable {Z:St}
theorem Inv.sqB(I:Inv X ad Z H s)(h:uh b X.K H a xs):∃ its:List aE,Vals xs its/\SqB b s.heap a its.toArray:=by
 cases b with
 |true=>
  obtain⟨its,rv,p,_⟩:=I.list h;exact⟨its,rv,p.isList⟩
 |false=>
  obtain⟨its,rv,p,_⟩:=I.tuple h;exact⟨its,rv,p⟩
theorem Inv.sqV_inj(I:Inv X ad Z H s)(h:uh b X.K H a xs)(h':uh b X.K H a ys):xs=ys:=by
 cases b with
 |true=>exact I.list_inj h h'
 |false=>exact I.tuple_inj h h'
theorem Inv.turnM {t':Nat}{fp:List aD}(I:Inv X ad Z H s)(hf:∀ b∈fp,jW X ad H b)(k:∀ b o,b∉fp->s.heap.get? b=aa o->h'.get? b=aa o):Inv X ad Z H { s with heap:=h',toks:=t' }:=by
 have out:∀ b u,H b=aa u->b∉fp:=λb u e m=>by
  rw[(hf b m).1] at e;cases e
 have loc:X.env.locals∉fp:=λm=>(hf _ m).2.1 rfl
 refine I.step (λb m=>⟨(hf b m).2.2.2.1,(hf b m).2.1,(hf b m).2.2.2.2.1,(hf b m).2.2.2.2.2⟩) (λb o _ _ n e _=>k b o n e) (λb o _ _ n e _=>⟨o.slots,k b o n e⟩) (λ_ _ _ _ n=>n)
  (λb o n e=>⟨o,k b o n e⟩) (λ_ _ e=>e) (λ_ _ _ e=>e) (λb ps e=>⟨#[],by rw[e];simp⟩) (λm hm=>?_) (λb u e=>?_) I.bare
 .obtain⟨o,es,ep,ho,r⟩:=hm;exact⟨o,es,ep,k _ o loc ho,r⟩
 .refine(I.hok b u e).stay (λc v hc q=>k c v ?_ q) (λ_ q=>q) λ_ _ q=>q
  rcases hc with z|z
  .rw[z];exact out b u e
  .exact out c _ z
end
def IP (K:aK)(b1 b2:Bool)(a1 a2:aD):It:=
  ⟨λi H=>∃ xs ys x y,uh b1 K H a1 xs/\uh b2 K H a2 ys/\xs[i]?=aa x/\ys[i]?=aa y,
   λi H v H'=>∃ T x y,H T=ae/\v=.ref T/\(∀ xs,uh b1 K H a1 xs->xs[i]?=aa x)/\(∀ ys,uh b2 K H a2 ys->ys[i]?=aa y)/\H'=upd H T (.tup [x,y]),
   λi H=>∃ xs ys,uh b1 K H a1 xs/\uh b2 K H a2 ys/\(xs.length<=i\/ys.length<=i)⟩
def tnZ (b1 b2:Bool)(a1 a2 z TI TO i1 i2:aD)(i:Nat)(h:aQ):Prop:=IsZip h z TI TO .none/\qF h TI (.ref i1) (.ref i2)/\(∃ a b,qF h TO a b)/\ItB b1 i1 a1 i h/\ItB b2 i2 a2 i h
theorem Vq{es:List aR}{cx}{pos:bQ}{b1 b2:Bool}{a1 a2 z TI TO i1 i2:aD}(D:ZApart z TI TO i1 i2 [i1,a1] [i2,a2])(n1:a1≠i1)(n2:a2≠i2) :
  Turn P w K (.Tuple es cx pos) (IP K b1 b2 a1 a2) [z,TI,TO,i1,i2] z (tnZ b1 b2 a1 a2 z TI TO i1 i2) where
 mem:=by simp
 obj:=λi h ⟨g1,g2,⟨a,b,g3⟩,g4,g5⟩ c hc=>by
  simp only[cM,HX,or_false] at hc;rcases hc with rfl|rfl|rfl|rfl|rfl
  .exact⟨_,g1,λv q=>by cases q⟩
  .exact⟨_,g2,λv q=>by cases q⟩
  .exact⟨_,g3,λv q=>by cases q⟩
  .exact g4.get
  .exact g5.get
 keep:=λi h h' ⟨g1,g2,⟨a,b,g3⟩,g4,g5⟩ k=>⟨k z (by simp) _ g1,k TI (by simp) _ g2,⟨a,b,k TO (by simp) _ g3⟩,g4.keep (k i1 (by simp)),g5.keep (k i2 (by simp))⟩
 item:=by
  rw[2];obtain⟨xs,ys,x,y,q1,q2,hx,hy⟩:=hg;obtain⟨us,r1,s1⟩:=I.sqB q1;obtain⟨vs,r2,s2⟩:=I.sqB q2;obtain⟨u,hu,ru⟩:=r1.get hx;obtain⟨v,hv,rv⟩:=r2.get hy;obtain⟨g1,g2,⟨pa,pb,g3⟩,g4,g5⟩:=st;have xl:yj z TI TO i1 i2 (StB b1 i1 a1 us.toArray) (StB b2 i2 a2 vs.toArray) .none i s.heap:=⟨g1,g2,⟨pa,pb,g3⟩,Ahz.2 ⟨g4,s1⟩,Ahz.2 ⟨g5,s2⟩⟩;have wn:∀ b∈[z,TI,TO,i1,i2],b<s.heap.objs.size:=λb m=>by
   simp only[cM,HX,or_false] at m;rcases m with rfl|rfl|rfl|rfl|rfl
   .exact bU g1
   .exact bU g2
   .exact bU g3
   .obtain⟨o,e,_⟩:=g4.get;exact bU e
   .obtain⟨o,e,_⟩:=g5.get;exact bU e
  refine Wv D (EA b1 i1 a1 us.toArray n1) (EA b2 i2 a2 vs.toArray n2) xl (x:=u) (y:=v) (by simpa using hu) (by simpa using hv) λh' zt pr sz tz=>?_
  have fr:H s.heap.objs.size=ae:=I.hok.fresh (bE _);have I0:Inv X ad Z (upd H s.heap.objs.size (.tup [x,y])) { s with heap:=s.heap.push { cls:=.type "tuple",data:=.seq #[u,v] } }:=
   I.laid (t':=s.toks) (o:=.tup [x,y]) (λb ob q=>bN _ q) (bE _) ⟨by show 2<=sizeLine;decide,[u,v],.cons ru (.cons rv .nil),Bc5.new _ _⟩
  have zw:∀ b∈[z,TI,TO,i1,i2],jW X ad (upd H s.heap.objs.size (.tup [x,y])) b:=λb m=>⟨by rw[cY (cI (wn b m))];exact(hf b m).1,(hf b m).2⟩
  have I1:Inv X ad Z (upd H s.heap.objs.size (.tup [x,y])) { s with heap:=h' }:=I0.turnM (t':=s.toks) zw λb o n e=>by
   simp only[cM,HX,or_false,not_or] at n;by_cases hb:b=s.heap.objs.size
   .subst hb;have e':(s.heap.push { cls:=.type "tuple",data:=.seq #[u,v] }).get? s.heap.objs.size=aa { cls:=.type "tuple",data:=.seq #[u,v] }:=cW _ rfl;have:aa o=aa _:=e.symm.trans e';rw[this];exact pr
   .exact tz b o n.1 n.2.2.1 n.2.2.2.1 n.2.2.2.2 ((Io _ _ _ hb).symm.trans e)
  obtain⟨w1,w2,⟨wa,wb,w3⟩,w4,w5⟩:=zt;have z1:i1≠z:=λe=>D.z1 (e ▸ bF)
  have z2:i2≠z:=λe=>D.z2 (e ▸ bF)
  refine⟨_,rfl,wpAny_letOwnedTupleGo_zip w1 λh2 gz sb=>?_⟩
  have I2:Inv X ad Z (upd H s.heap.objs.size (.tup [x,y])) { s with heap:=h2 }:=I1.turnM (t':=s.toks) zw λb o n e=>sb.extBut b o (λq=>n (by simp[q])) e
  exact⟨.ref s.heap.objs.size,_,I2,rfl,⟨_,x,y,fr,rfl,λql h=>by rw[I.sqV_inj h q1];exact hx,λN4 h=>by rw[I.sqV_inj h q2];exact hy,rfl⟩,
   ⟨gz,sb.extBut _ _ D.TIz w2,⟨wa,wb,sb.extBut _ _ D.TOz w3⟩,(Ahz.1 w4).1.keep λo e=>sb.extBut _ _ z1 e,(Ahz.1 w5).1.keep λo e=>sb.extBut _ _ z2 e⟩,λb m=>(zw b m).1⟩
 done:=by
  rw[2];obtain⟨xs,ys,q1,q2,hl⟩:=hg;obtain⟨us,r1,s1⟩:=I.sqB q1;obtain⟨vs,r2,s2⟩:=I.sqB q2;obtain⟨g1,g2,g3,g4,g5⟩:=st;have xl:yj z TI TO i1 i2 (StB b1 i1 a1 us.toArray) (StB b2 i2 a2 vs.toArray) .none i s.heap:=⟨g1,g2,g3,Ahz.2 ⟨g4,s1⟩,Ahz.2 ⟨g5,s2⟩⟩;have l1:=r1.length;have l2:=r2.length;refine Xf (I.ok.hd hc) D (EA b1 i1 a1 us.toArray n1) (EA b2 i2 a2 vs.toArray n2) xl ?_ λh' tz=>⟨rfl,I.turnM (t':=s.toks) hf λb o n e=>?_⟩
  .rcases hl with hl|hl
   .exact .inl (by simp;omega)
   .exact .inr (by simp;omega)
  .simp only[cM,HX,or_false,not_or] at n;exact tz b o n.1 n.2.2.1 n.2.2.2.1 n.2.2.2.2 e
 self:=λ_ _ _ _ _ st h=>wpAny_pyIter_zip st.1 h
section
variable {a b:aR}{p:bQ}{es:List aR}{cx:Nat}
def Jk (K:aK)(ta:TA):TI:=λZ H R=>ta Z H λvs H1=>∃ a1 a2 b1 b2 xs ys,vs=[.ref a1,.ref a2]/\uh b1 K H1 a1 xs/\uh b2 K H1 a2 ys/\R (IP K b1 b2 a1 a2) H1
theorem Mo {ta:TA}(hg:Gl X "zip")(hm:X.mg "zip" = ae)(ha:PA X [a,b] ta)(hs:bH [a,b] X.env=[(ag,bM a X.env),(ag,bM b X.env)]:=by rfl)(oe:bH [b] X.env=[(ag,bM b X.env)]:=by rfl) :
  PI X (.Tuple es cx uq) (.Call (.Name "zip" p) [a,b] [] pos) (Jk X.K ta):=by
 intro ad s Z H R I h;refine Call_ (wA I hg hm boot_zip (QT (bo (ha pos ad s Z H _ I h) λus s1 ⟨vs,H1,I1,r1,q1⟩=>?_) (by rw[hs,oe]) (by rw[oe];rfl)))
 obtain⟨a1,a2,b1,b2,xs,ys,rfl,k1,k2,q⟩:=q1;cases r1 with
 |cons r rr=>
  cases rr with
  |cons r' rr=>
   cases rr;cases r;cases r';obtain⟨u1,_,w1⟩:=I1.sqB k1;obtain⟨u2,_,w2⟩:=I1.sqB k2;have m1:a1<s1.heap.objs.size:=by
    cases b1 with
    |true=>obtain⟨o,e,_⟩:=w1;exact bU e
    |false=>obtain⟨o,e,_⟩:=w1;exact bU e
   have m2:a2<s1.heap.objs.size:=by
    cases b2 with
    |true=>obtain⟨o,e,_⟩:=w2;exact bU e
    |false=>obtain⟨o,e,_⟩:=w2;exact bU e
   refine o6 w1 w2 λz TI TO i1 i2 h' y0 y1 y2 y3 y4 D xl all=>wpAny_pyIter_zip xl.1 ?_
   refine⟨z,[z,TI,TO,i1,i2],_,_,H1,rfl,I1.kept all,Vq D (λe=>?_) (λe=>?_),⟨xl.1,xl.2.1,xl.2.2.1,(Ahz.1 xl.2.2.2.1).1,(Ahz.1 xl.2.2.2.2).1⟩,λb m=>?_,q⟩
   .exact lQ _ (iV m1 (e ▸ y3))
   .exact lQ _ (iV m2 (e ▸ y4))
   .have le:s1.heap.objs.size<=b:=by
     simp only[cM,HX,or_false] at m;rcases m with rfl|rfl|rfl|rfl|rfl<;>assumption
    exact I1.fpOk le (I1.hok.fresh le)
def qV:aA->Option (List aA)
 |.list ds=>aa ds
 |.tuple ds=>aa ds
 |_=>ae
def pairD (x y:aA):aA:=.tuple [x,y]
def iZ (fa:AF):AF:=λY=>(fa Y).bind λds=>match ds with
 |[x,y]=>(qV x).bind λxs=>(qV y).bind λys=>aa (yK pairD xs ys)
 |_=>ae
theorem Bd(e:qV d=aa ds)(r:Abm K B d v):∃ a b xs,v=.ref a/\(∀ H2,Ext B H2->uh b K H2 a xs)/\Aap K B ds xs:=by
 cases d with
 |list es=>
  cases e;obtain⟨a,xs,rfl,h,rr⟩:=Abb.1 r;exact⟨a,af,xs,rfl,λH2 x2=>x2.sqL h,rr⟩
 |tuple es=>
  cases e;obtain⟨a,xs,rfl,h,rr⟩:=Aar.1 r;exact⟨a,ag,xs,rfl,λH2 x2=>SqT.of (x2 _ _ h),rr⟩
 |_=>cases e
theorem Qu{b1 b2:Bool}{a1 a2:aD}{es:List aA}(h1:∀ H2,Ext B H2->uh b1 K H2 a1 xs)(h2:∀ H2,Ext B H2->uh b2 K H2 a2 ys)(r1:Aap K B ds xs)(r2:Aap K B es ys) :
  vt K B (IP K b1 b2 a1 a2) (yK pairD ds es):=λi H2 x2=>by
 refine⟨λd hd=>?_,λe=>⟨xs,ys,h1 H2 x2,h2 H2 x2,?_⟩⟩
 .rw[List.getElem?_zipWith] at hd;cases c1:ds[i]? with
  |none=>rw[c1] at hd;simp at hd
  |some d1=>
   cases c2:es[i]? with
   |none=>rw[c1,c2] at hd;simp at hd
   |some d2=>
    rw[c1,c2] at hd;have hd:pairD d1 d2=d:=by simpa using hd
    subst hd;obtain⟨v1,g1,g2⟩:=r1.get c1;obtain⟨v2,g3,g4⟩:=r2.get c2;refine⟨⟨xs,ys,v1,v2,h1 H2 x2,h2 H2 x2,g1,g3⟩,?_⟩;rintro x H3 ⟨T,x',y',fr,rfl,k1,k2,rfl⟩;obtain rfl:v1=x':=fF (g1.symm.trans (k1 xs (h1 H2 x2)));obtain rfl:v2=y':=fF (g3.symm.trans (k2 ys (h2 H2 x2)));have ext:Ext H2 (upd H2 T (.tup [v1,v2])):=λb u e=>by rw[cY (lG e fr)];exact e
    refine⟨ext,λP2 hP2 xb=>?_⟩
    have nT:¬ P2 T:=λq=>by
     rcases hP2 T q with⟨o,e⟩|⟨o,e⟩<;>rw[fr] at e<;>cases e
    have gT:hid (upd H2 T (.tup [v1,v2])) P2 T=aa (.tup [v1,v2]):=gZ nT eU;have xx:=xb.trans (dE ext);exact Aar.2 ⟨T,_,rfl,gT,Aah.2 ⟨_,_,rfl,g2.ext xx,Aah.2 ⟨_,_,rfl,g4.ext xx,Aan.2 rfl⟩⟩⟩
 .rw[List.length_zipWith] at e;rw[r1.length,r2.length];omega
theorem OY {fa:AF}(hg:Gl X "zip")(hm:X.mg "zip" = ae)(ha:DA X [a,b] fa)(hs:bH [a,b] X.env=[(ag,bM a X.env),(ag,bM b X.env)]:=by rfl)(oe:bH [b] X.env=[(ag,bM b X.env)]:=by rfl) :
  DI X (.Tuple es cx uq) (.Call (.Name "zip" p) [a,b] [] pos) (iZ fa):=PI.imp (Mo hg hm ha hs oe) λZ H R gh=>by
 obtain⟨P,Y,ds,hP,rs,ef,k⟩:=gh;obtain⟨as,e1,cw⟩:=ao ef;clear ef
 match as,e1,cw with
 |[x,y],e1,cw=>
  obtain⟨xs,e2,cg⟩:=ao (show((qV x).bind λxs=>(qV y).bind λys=>aa (yK pairD xs ys))=aa ds from cw)
  obtain⟨ys,e3,gw⟩:=ao cg;cases gw;refine⟨P,Y,_,hP,rs,e1,λvs H1 x1 r1=>?_⟩
  obtain⟨v,t,rfl,q1,q2⟩:=Aah.1 r1;obtain⟨v',rfl,q3⟩:=hE q2;obtain⟨a1,b1,us,rfl,k1,w1⟩:=Bd e2 q1;obtain⟨a2,b2,us',rfl,k2,w2⟩:=Bd e3 q3;exact⟨a1,a2,b1,b2,us,us',rfl,k1 _ Aas,k2 _ Aas,k _ H1 x1 (Qu k1 k2 w1 w2)⟩
 |[],_,h=>cases h
 |[_],_,h=>cases h
 |_::_::_::_,_,h=>cases h
end
theorem r6:Adw X (.type "range") (λxs H Q=>∃ j:Int,xs=[.int j]/\∀ a,H a=ae->Q (.ref a) (upd H a (.rng 0 j))):=by
 rw[6];obtain⟨j,rfl,q⟩:=h;obtain⟨u,rfl,t,rfl⟩:=vals1 r;refine call_range_1 ?_;exact⟨.ref s.heap.objs.size,_,I.laid (o:=.rng 0 j) (λb ob g=>bN _ g) (bE _) ⟨_,_,_,cW _ rfl⟩,rfl,q _ I.fresh⟩
def upTo (n:Nat):List aA:=(bY n).map λ(k:Nat)=>aW k
def xr (n:Nat):List V:=(bY n).map λ(k:Nat)=>V.int k
theorem Xi (hc:X.calm=af):Adw X (.type "list") (λxs H Q=>∃ a,∃ j:Int,xs=[.ref a]/\H a=aa (.rng 0 j) /\ -4096<=j/\j<=4096/\∀ l,H l=ae->Q (.ref l) (upd H l (.lst (xr j.toNat)))):=by
 rw[6];obtain⟨a,j,rfl,ha,h1,h2,q⟩:=h;rw[12];obtain⟨t,u,v,g⟩:=(show Adc X.prog X.w H s.heap a (.rng 0 j) from I.hok a _ ha)
 have hn:Builtin.Range.rangeSize 0 j 1=(j.toNat:Int):=by rw[rangeSize_one];split<;>omega
 refine call_list_range (I.ok.hd hc) g (small_one (by omega) (by omega) (by omega) (by omega)) hn (by omega) λh' tk bq c' hk hS fw=>?_
 have hv:Vals (xr j.toNat) bq.toList:=by
  refine NV (by simp[xr,fw.1]) λi x u h1 h2=>?_
  obtain⟨t',rfl⟩:=fw.2 i u (by simpa using h2)
  have hi:i<j.toNat:=by
   have:=(cT.1 h1).1;simpa [xr] using this
  have:(xr j.toNat)[i]?=aa (V.int i):=by simp[xr,hi]
  rw[this] at h1;cases h1;exact⟨t',by simp⟩
 exact⟨.ref s.heap.objs.size,_,I.laid hk (bE _) (show Adc X.prog X.w _ h' _ (.lst (xr j.toNat)) from⟨by simp[xr,lJ];omega,bq.toList,c',hv,by simpa using hS⟩),rfl,q _ I.fresh⟩
theorem y8(n:Nat):Aap K H (upTo n) (xr n):=by
 unfold upTo xr;generalize bY n=l;induction l with
 |nil=>exact Aan.2 rfl
 |cons a l ih=>exact Aah.2 ⟨_,_,rfl,Aal.2 rfl,ih⟩
def OQ:List aA->Option aA
 |[.int j]=>if -4096<=j/\j<=4096 then aa (.list (upTo j.toNat)) else ae
 |_=>ae
theorem WO{fe:EF}{wo:bQ}(hc:X.calm=af)(g1:Gl X "list")(m1:X.mg "list" = ae)(g2:Gl X "range")(m2:X.mg "range" = ae)(he:DE X e fe)
  (yt:bH [Expr.Call (.Name "range" p2) [e] [] lm] X.env=[(ag,bM (Expr.Call (.Name "range" p2) [e] [] lm) X.env)]:=by rfl) (oe:bH [e] X.env=[(ag,bM e X.env)]:=by rfl) :
  DF 1 X (.Call (.Name "list" p1) [.Call (.Name "range" p2) [e] [] lm] [] wo) (aL OQ (aF fe aJ)):=by
 have h1:PE X (.Call (.Name "range" p2) [e] [] lm) _:=GH r6 g2 m2 rfl (iF he kQ oe) (by decide) (by decide) oe rfl
 have h2:PE X (.Call (.Name "list" p1) [.Call (.Name "range" p2) [e] [] lm] [] wo) _:=GH (Xi hc) g1 m1 rfl (iF h1 kQ yt) (by decide) (by decide) yt rfl
 refine PE.imp h2 λZ H Q gh=>?_
 rw[5];obtain⟨ds0,e0,ef⟩:=ao ef;obtain⟨d1,e1,e0⟩:=ao e0;have e0:[d1]=ds0:=by simpa [aJ] using e0
 subst e0;cases d1 with
 |int j=>
  obtain⟨hl,rfl⟩:=cQ (show(if -4096<=j/\j<=4096 then aa (rN (upTo j.toNat)) else ae)=aa d from ef)
  refine⟨P,Y,.int j,hP,rs,e1,eG λv H1 x1 r1=>?_⟩
  obtain rfl:=Aal.1 r1;refine⟨j,rfl,λa hn=>⟨a,j,rfl,eU,hl.1,hl.2,λl Z8=>?_⟩⟩
  have x2:Ext H (upd H1 a (.rng 0 j)):=x1.trans (Ext.new hn);exact(k.mono x2).lst (hP.ext x2) Z8 (y8 _)
 |_=>cases ef
theorem Sq{k:aI}(h:(fK P w).is k u=af):RelV (kV k) u:=by
 rcases nH h with⟨i,tk,e1,e2⟩|⟨x,tk,e1,e2⟩
 .rw[e1,e2];exact⟨tk,rfl⟩
 .rw[e1,e2];exact⟨tk,rfl⟩
theorem UH:∀ {kvs:List (aI×V)} {vs:List (aI×aE)} {i:Nat} {kv:aI×V},KV kvs vs->kvs[i]?=aa kv->∃ u,vs[i]?=aa u/\kv.1=u.1/\RelV kv.2 u.2
 |_,_,0,_,.cons h _,e=>by
  cases e;exact⟨_,rfl,h.1,h.2⟩
 |_,_,i+1,_,.cons _ t,e=>by
  obtain⟨u,g⟩:=UH t (by simpa using e)
  exact⟨u,by simpa using g⟩
section
variable {l:aR}
theorem XU:∀ {kds:List (aA×aA)} {kvs:List (aI×V)} {i:Nat} {kd:aA×aA},Abu K H kds kvs->kds[i]?=aa kd->∃ kv,kvs[i]?=aa kv/\kd.1=kD kv.1/\Abm K H kd.2 kv.2
 |(k,d)::ds,kvs,0,kd,r,e=>by
  obtain⟨k',y,t,rfl,ek,h1,h2⟩:=Abd.1 r;cases e;exact⟨(k',y),rfl,ek,h1⟩
 |(k,d)::ds,kvs,i+1,kd,r,e=>by
  obtain⟨k',y,t,rfl,ek,h1,h2⟩:=Abd.1 r;obtain⟨kv,g1,g2⟩:=XU h2 (by simpa using e)
  exact⟨kv,by simpa using g1,g2⟩
theorem Ue{k:aI}(h:cH (kD k)=af):Abm K H (kD k) (kV k):=by
 cases k with
 |inl i=>exact Aal.2 rfl
 |inr x=>exact Aay.2 ⟨rfl,h⟩
end
theorem GS:uX table "dict.update.loop" = aa Builtin.«dict.update.loop»:=QL (by kernel_rfl)
theorem sO:plainId "dict.update.loop" = af:=by rw[0]
theorem Zu:HH (.type "list") "keys" = pure ae:=by rw[yD,yG];kernel_rfl
set_option maxHeartbeats 4000000 in
theorem Dg{xs:Array aE}{k:Nat}{Q:Option aE->aH->Prop}(hx:s.heap.get? a=aa { cls:=.type "list",dict:=ae,data:=.seq xs k,slots:=sl })(hA:A.handled=ae)
  (h:∀ h' tk,(∀ b o,s.heap.get? b=aa o->h'.get? b=aa o)->Q ae { s with heap:=h',toks:=tk }):aM (aO prog w) A (getAttr? (.ref a) "keys") Q E s:=by
 obtain⟨hp,g,d,tk,os⟩:=s;have hT:∀ vp,(⟨hp,g,d,vp,os⟩:aH).TypeIs (.ref a) "list":=λ_=>⟨_,hx,rfl⟩
 have f1:=sub_AttributeError;have f3:=Ip.lookup;have f4:=Ip.bind (.ref a);have f5:=am_list_getattr_none;unfold getAttr? getAttrBy? getAttrBy
 repeat (any_goals (first|assumption|exact hT _|((with_reducible show aM _ _ (call (Value.builtin "list.__getattribute__") _ _) _ _ _);refine call_meets Ip (hT _) am_entry_list_getattribute (F.args_list_getattribute_2 _ _) (meets_getattribute_miss_list a xs k sl _ _ Zu (by rw[0])) ⟨hx,hA,λh' vp e hx'=>?_⟩)|wp_step))
 obtain⟨t',u',he⟩:=hx'.there;unfold getattributeRaised
 repeat (any_goals (first|assumption|wp_step))
 exact h _ _ hx'.keeps
def Aqt (h:aQ)(D:aD)(wr:List aD)(ai:Array aE)(kvs:List (aI×aE)):Prop:=
 ∀ (j:Nat) v,ai[j]?=aa v->∃ b kv p,v=.ref b/\kvs[j]?=aa p/\h.IsTuple b #[kv,p.2]/\(fK prog w).is p.1 kv=af/\b≠D/\b∉wr
theorem Aqt.keep{D:aD}{kvs:List (aI×aE)}(q:Aqt (prog:=prog) (w:=w) h D wr ai kvs)(k:∀ b o,b≠D->b∉wr->h.get? b=aa o->h'.get? b=aa o):Aqt (prog:=prog) (w:=w) h' D wr ai kvs:=λj v e=>by
 obtain⟨b,kv,p,rfl,e1,⟨o,e2,e3⟩,e4,e5,e6⟩:=q j v e;exact⟨b,kv,p,rfl,e1,⟨o,k b o e5 e6 e2,e3⟩,e4,e5,e6⟩
theorem Bb:∀ (more kvs:List (aI×aE)),(pU kvs more).length<=kvs.length+more.length
 |[],kvs=>bE _
 |p::r,kvs=>by
  have h1:=Bb r (uU kvs p.1 p.2);have h2:(uU kvs p.1 p.2).length<=kvs.length+1:=by
   unfold uU;split<;>simp
  show(pU (uU kvs p.1 p.2) r).length<=_;rw[fY];omega
theorem C2{fp:List aD}{St:Nat->aH->Prop}
  (W:WalksS prog w A.in1 I fp wr G n (λi v=>ai[i]?=aa v) St) (D:aD) (Q8:D∉fp) (kvs:List (aI×aE)) (hn:n<=sizeLine) (md:kvs.length=n) :
  ∀ (k i:Nat) (s:aH),n-i=k->i<=n->St i s->s.heap.DictOf (fK prog w) D (pU [] (kvs.take i))->Aqt (prog:=prog) (w:=w) s.heap D wr ai kvs ->
   (∀ s',Moved (D::wr) G s s'->s'.heap.DictOf (fK prog w) D (pU [] kvs)->R (.ok (.ret .none)) s') ->
   nQ (aO prog w) A (.builtin "dict.update.loop" ⟨[.ref D,.ref I,cS (i:Int),.none],[]⟩) R s:=by
 have Q9:D∉wr:=λz=>Q8 (W.sub _ z)
 have more:∀ b∈wr,b∈D::wr:=λb z=>bL _ z
 intro k;induction k with
 |zero=>
  intro i s hk hi jy hS hT hR;obtain rfl:i=n:=by omega
  refine lM GS ?_;rw[oB sO _];refine aG (W.done s _ _ jy λs' hm=>?_)
  refine aG (aN (aN (hR s' (hm.mono more) ?_)));obtain⟨o,es,ep,ho,r⟩:=hS;rw[<-md,HW] at r;exact⟨o,es,ep,hm.heap D o Q9 ho,r⟩
 |succ k ih=>
  intro i s hk hi jy hS hT hR;have cf:i<n:=by omega
  refine lM GS ?_;rw[oB sO _];refine aG (W.item i s _ _ cf jy λv s' Rs wp hm=>?_)
  have zx:=hT.keep λb o _ h2 e=>hm.heap b o h2 e
  obtain⟨b,kv,p,rfl,e1,tb,e4,e5,e6⟩:=zx i v Rs;have qm:s'.heap.DictOf (fK prog w) D (pU [] (kvs.take i)):=by
   obtain⟨o,es,ep,ho,r⟩:=hS;exact⟨o,es,ep,hm.heap D o Q9 ho,r⟩
  have ou:pU [] (kvs.take (i+1))=uU (pU [] (kvs.take i)) p.1 p.2:=by
   rw[CY,e1];simp[pU,yP]
  have ay:(pU [] (kvs.take i)).length<=sizeLine:=by
   have:=Bb (kvs.take i) [];rw[rO] at this;simp at this;omega
  refine aG (hG (aG (wpAny_tryCatch ?_)));unfold Builtin.Dict.pairItems;refine aG (nN tb.typeIs ?_);obtain⟨ob,g1,g2,nb,g3⟩:=tb;refine aG (kB g1 g3 (aN ?_));refine hG (wpAny_dictSet_pairs e4 qm (λh' d' sb=>?_) ay)
  refine aN ⟨nP sO _,?_⟩;refine ih (i+1) _ (by omega) cf (W.frame _ s' _ _ wp (sW _) λc hc o e=>?_) (by rw[ou];exact d') (zx.keep λb o h1 _ e=>(sb.2 b h1).trans e) λxw wq S4=>?_
  .exact(sb.2 c (λz=>Q8 (z ▸ hc))).trans e
  .exact hR xw (Moved.trans W.gtrans ((hm.mono more).then_heap (sW _) λc o hc e=>(sb.2 c (λz=>hc (z ▸ bF))).trans e) wq) S4
theorem F8{nl:Nat}{kvs:List (aI×aE)}(hh:A.handled=ae)(hl:s.heap.get? l=aa { cls:=.type "list",dict:=ae,data:=.seq ai nl,slots:=sl })
  (md:kvs.length=ai.size) (hz:ai.size<=sizeLine) (hp:∀ (j:Nat) v,ai[j]?=aa v->∃ b kv p,v=.ref b/\kvs[j]?=aa p/\s.heap.IsTuple b #[kv,p.2]/\(fK prog w).is p.1 kv=af)
  (h:∀ h' tk,h'.DictOf (fK prog w) s.heap.objs.size (pU [] kvs)->(∀ b o,s.heap.get? b=aa o->h'.get? b=aa o)->Q (.ref s.heap.objs.size) { s with heap:=h',toks:=tk }) :
  aM (aO prog w) A (call (.type "dict") [.ref l]) Q E s:=by
 refine callType_codes (Q₁:=λobj s₁=>obj=.ref s.heap.objs.size/\s₁={ s with heap:=s.heap.push { cls:=.type "dict",data:=.dict #[] } }) F.kt_called_dict (F.kt_typeCall_dict_1 _) F.entry_dict_init (kt_code_dict_new _ ⟨rfl,rfl⟩) ?_
 rintro obj s₁ ⟨rfl,rfl⟩;have dn:(s.heap.push { cls:=.type "dict",data:=.dict #[] }).DictOf (fK prog w) s.heap.objs.size []:=Heap.DictOf.new s.heap;have l1:(s.heap.push { cls:=.type "dict",data:=.dict #[] }).get? l=aa { cls:=.type "list",dict:=ae,data:=.seq ai nl,slots:=sl }:=bN _ hl;refine⟨dn.typeIs,F.args_dict_init_2 _ _,?_⟩;unfold Builtin.«dict.__init__»;rw[19];unfold Builtin.Dict.selfAndRest;refine aG (Ge dn.typeIs (aN ?_));show aM _ _ (SC "dict.__init__" s.heap.objs.size (.ref l) [] .none) _ _ _;unfold SC;refine aG (nN (T:="list") ⟨_,l1,rfl⟩ ?_);rw[if_pos (by decide)]
 refine aG (Dg l1 (by simp[hh]) λh1 tk k1=>?_)
 show aM _ _ (rule _>>=λ_=>lL (.ref l)>>=_) _ _ _
 have l2:h1.get? l=aa { cls:=.type "list",dict:=ae,data:=.seq ai nl,slots:=sl }:=k1 _ _ l1;have L2:h1.IsList l ai:=⟨_,l2,rfl,nl,rfl⟩;refine aG (oW (aG (CI L2 (aN ⟨nP sO _,?_⟩))));have lS:l<s.heap.objs.size:=bU hl;have d1:h1.DictOf (fK prog w) s.heap.objs.size []:=by
  obtain⟨o,es,ep,ho,r⟩:=dn;exact⟨o,es,ep,k1 _ _ ho,r⟩
 have sD:s.heap.objs.size<h1.objs.size:=by
  obtain⟨o,es,ep,ho,r⟩:=d1;exact bU ho
 have nI:l≠h1.objs.size:=cI (yI lS sD);have nS:s.heap.objs.size∉[h1.objs.size,l]:=λz=>by
  rw[18]
  .exact absurd z (cI sD)
  .exact absurd (bX.1 z) (kG lS)
 have tz:∀ b o,s.heap.get? b=aa o->(h1.push { cls:=.type "list_iterator",data:=.fields #[.ref l,.int 0 0] }).get? b=aa o:=λb o e=>bN _ (k1 _ _ (bN _ e))
 refine C2 (w:=w) ((Walks.list (by simp[hh]) _ l nI ai).toS) s.heap.objs.size nS kvs hz md (ai.size-0) 0 _ rfl (eO _) ⟨⟨_,cW _ rfl,rfl,rfl⟩,L2.push _⟩ (d1.push _) ?_ λs' hm S'=>?_
 .intro j v e;obtain⟨b,kv,p,rfl,e1,⟨o,e2,e3⟩,e4⟩:=hp j v e;have lb:b<s.heap.objs.size:=bU e2;exact⟨b,kv,p,rfl,e1,⟨o,tz b o e2,e3⟩,e4,cI lb,λz=>absurd (bX.1 z) (cI (yI lb sD))⟩
 .obtain⟨h',g',d',vp,we⟩:=s';obtain rfl:g'=s.gens:=hm.gens;obtain rfl:d'=s.drawn:=hm.drawn;obtain rfl:we=s.os:=hm.os;refine⟨rfl,h h' vp S' λb o e=>?_⟩
  have lb:b<s.heap.objs.size:=bU e;refine hm.heap b o (λz=>?_) (tz b o e)
  rw[18]
  .exact absurd z (cI lb)
  .exact absurd (bX.1 z) (cI (yI lb sD))
theorem UW {α β:Type}{R R':α->β->Prop}(f:∀ a b,R a b->R' a b):∀ {as:List α} {bs:List β},dR R as bs->dR R' as bs:=by
 intro as bs h;induction h with
 |nil=>exact .nil
 |cons h _ ih=>exact .cons (f _ _ h) ih
abbrev JO (K:aK)(H:Hp)(ys:List V)(ps:List (aI×V)):Prop:=dR (λy (p:aI×V)=>∃ b,y=V.ref b/\SqT K H b [kV p.1,p.2]) ys ps
theorem o8{Z:St}(I:Inv X ad Z H s):∀ {ys:List V} {ps:List (aI×V)} {its:List aE},JO X.K H ys ps->Vals ys its ->
  ∃ kvs:List (aI×aE),KV ps kvs/\kvs.length=its.length/\∀ (j:Nat) v,its[j]?=aa v->∃ b kv p,v=.ref b/\kvs[j]?=aa p/\s.heap.IsTuple b #[kv,p.2]/\(fK X.prog X.w).is p.1 kv=af:=by
 intro ys ps its hp;induction hp generalizing its with
 |nil=>
  intro r;cases r;exact⟨[],.nil,rfl,λj v e=>by simp at e⟩
 |@cons y p ys ps hq t ih=>
  intro r;obtain⟨b,e,q⟩:=hq;subst e;cases r with
  |cons r rr=>
   cases r;obtain⟨kvs,h1,h2,h3⟩:=ih rr;obtain⟨us,rv,tb,_⟩:=I.tuple q;cases rv with
   |cons ra rb=>
    cases rb with
    |cons rb rc=>
     cases rc;refine⟨(p.1,_)::kvs,.cons ⟨rfl,rb⟩ h1,by simp[h2],λj v e=>?_⟩
     cases j with
     |zero=>
      cases e;exact⟨b,_,(p.1,_),rfl,rfl,tb,qR ra⟩
     |succ j=>exact h3 j v (by simpa using e)
theorem a8 (hc:X.calm=af):Adw X (.type "dict") (λxs H Q=>∃ p ys ps,xs=[.ref p]/\SqL X.K H p ys/\JO X.K H ys ps/\∀ q n,H q=ae->Q (.ref q) (upd H q (.dK n (sH [] ps)))):=by
 rw[6];obtain⟨p,ys,ps,rfl,hp,hv,q⟩:=h;rw[12];obtain⟨its,rv,⟨o,n,ho,vk,oq,yv⟩,hz⟩:=I.list hp;obtain⟨kvs,h1,h2,h3⟩:=o8 I hv rv;have e1:=rv.length;obtain⟨c,dct,dat,sl⟩:=o;simp only at vk oq yv;subst vk oq yv;refine F8 (I.ok.hd hc) ho (by rw[eA];exact h2) (by rw[eA];omega) (λj v e=>h3 j v (by simpa using e)) λh' tk dd hk=>?_
 obtain⟨m,da⟩:=dd.dictAt;have lz:(sH [] ps).length<=sizeLine:=by
  have l1:=Ct ps [];have l2:=nV h1;simp at l1;omega
 exact⟨.ref s.heap.objs.size,_,I.laid hk (bE _) (zU lz (beq_eq_false_iff_ne.2 (hW (cI I.big))) (h1.merge .nil) da),rfl,q _ m I.fresh⟩
def tH:List aA->Option (List (aI×aA))
 |[]=>aa []
 |.tuple [k,d]::r=>(cA k).bind λk=>(tH r).bind λps=>aa ((k,d)::ps)
 |_::_=>ae
def uC (ps:List (aI×aA))(kds:List (aA×aA)):List (aA×aA):=ps.foldl (λaj p=>putD aj p.1 p.2) kds
def zM:List aA->Option aA
 |[.list ds]=>(tH ds).bind λps=>aa (.dict (uC ps []))
 |_=>ae
theorem C9:∀ {ps:List (aI×aA)} {qs:List (aI×V)},dR (λ(p:aI×aA) (q:aI×V)=>p.1=q.1/\Abm K H p.2 q.2) ps qs->∀ {kds:List (aA×aA)} {kvs:List (aI×V)},Abu K H kds kvs->Abu K H (uC ps kds) (sH kvs qs):=by
 intro ps qs hp;induction hp with
 |nil=>exact λr=>r
 |@cons p q ps qs hq t ih=>
  intro kds kvs r;have:=ih (FD (k:=p.1) r hq.2);show Abu K H (uC _ (putD kds p.1 p.2)) (sH (putK kvs q.1 q.2) _);rw[<-hq.1];exact this
theorem Uv:∀ {ds:List aA} {ps:List (aI×aA)} {ys:List V},tH ds=aa ps->Aap K H ds ys->∃ qs:List (aI×V),dR (λ(y:V) (q:aI×V)=>∃ b,y=V.ref b/\H b=aa (.tup [kV q.1,q.2])) ys qs/\dR (λ(p:aI×aA) (q:aI×V)=>p.1=q.1/\Abm K H p.2 q.2) ps qs:=by
 intro ds;induction ds with
 |nil=>
  intro ps ys e r;cases e;rw[Aan.1 r];exact⟨[],.nil,.nil⟩
 |cons z ds ih=>
  intro ps ys e r;cases z with
  |tuple zs=>
   cases zs with
   |nil=>cases e
   |cons k zs=>
    cases zs with
    |nil=>cases e
    |cons d zs=>
     cases zs with
     |cons _ _=>cases e
     |nil=>
      obtain⟨key,e1,e⟩:=ao (show((cA k).bind λk=>(tH ds).bind λps=>aa ((k,d)::ps))=aa ps from e)
      obtain⟨ps',e2,e⟩:=ao e;cases e;obtain⟨v,t,rfl,r1,r2⟩:=Aah.1 r;obtain⟨qs,h1,h2⟩:=ih e2 r2;obtain⟨b,xs,rfl,hb,rx⟩:=Aar.1 r1;obtain⟨u1,t1,rfl,a1,a2⟩:=Aah.1 rx;obtain⟨u2,rfl,a3⟩:=hE a2;rw[mJ e1 a1] at hb;exact⟨(key,u2)::qs,.cons ⟨b,rfl,hb⟩ h1,.cons ⟨rfl,a3⟩ h2⟩
  |_=>cases e
theorem Zo:CallD K 1 (λxs H Q=>∃ p ys ps,xs=[.ref p]/\SqL K H p ys/\JO K H ys ps/\∀ q n,H q=ae->Q (.ref q) (upd H q (.dK n (sH [] ps)))) zM:=λP H xs ds d Q hP r e k=>by
 unfold zM at e;split at e
 .obtain⟨ps,e1,e2⟩:=ao e;cases e2;obtain⟨v,rfl,r'⟩:=hE r;obtain⟨q,ys,rfl,hq,rr⟩:=Abb.1 r';obtain⟨qs,h1,h2⟩:=Uv e1 rr;refine⟨q,ys,qs,rfl,Aas.sqL hq,?_,λl n hn=>k.dic hP hn (C9 h2 (Ab4.2 rfl))⟩
  exact UW (λy p ⟨b,e,hb⟩=>⟨b,e,SqT.of (Aas _ _ hb)⟩) h1
 .cases e
abbrev sq:=List aA×aD×aE
def lD (xs more:List sq):List sq:=more.foldl (λaj p=>rG aj p.1 p.2.1 p.2.2) xs
theorem Zj {xs:List sq}{v:aE}{x:sq}(m:x∈rG xs k a v):(x.1=k/\x.2.1=a)\/∃ y∈xs,x.1=y.1/\x.2.1=y.2.1:=by
 cases e:rM xs k with
 |none=>
  rw[storedH_new e] at m;rcases gP.1 m with m|m
  .exact .inr ⟨x,m,rfl,rfl⟩
  .rw[bX.1 m];exact .inl ⟨rfl,rfl⟩
 |some p=>
  rw[storedH_old e] at m;obtain⟨y,my,rfl⟩:=bI.1 m;refine .inr ⟨y,my,?_⟩;unfold putAt;by_cases q:y.1=k
  .rw[if_pos q];exact⟨rfl,rfl⟩
  .rw[if_neg q];exact⟨rfl,rfl⟩
theorem Yi (xs:List sq)(k:List aA)(a:aD)(v:aE):(rG xs k a v).length<=xs.length+1:=by
 cases e:rM xs k with
 |none=>rw[storedH_new e];simp
 |some p=>rw[storedH_old e];simp
theorem Bx:∀ (more:List sq) {xs:List sq} {x:sq},x∈lD xs more->(∃ p∈more,x.1=p.1/\x.2.1=p.2.1)\/∃ y∈xs,x.1=y.1/\x.2.1=y.2.1
 |[],xs,x,m=>.inr ⟨x,m,rfl,rfl⟩
 |p::r,xs,x,m=>by
  rcases Bx r (show x∈lD (rG xs p.1 p.2.1 p.2.2) r from m) with⟨q,mq,e⟩|⟨y,my,e1,e2⟩
  .exact .inl ⟨q,bL _ mq,e⟩
  .rcases Zj my with⟨a1,a2⟩|⟨z,mz,a1,a2⟩
   .exact .inl ⟨p,bF,e1.trans a1,e2.trans a2⟩
   .exact .inr ⟨z,mz,e1.trans a1,e2.trans a2⟩
theorem Cc:∀ (more xs:List sq),(lD xs more).length<=xs.length+more.length
 |[],xs=>bE _
 |p::r,xs=>by
  have h1:=Cc r (rG xs p.1 p.2.1 p.2.2);have h2:=Yi xs p.1 p.2.1 p.2.2;show(lD (rG xs p.1 p.2.1 p.2.2) r).length<=_;rw[fY];omega
theorem YZ {h0:aQ}{D:aD}{xs:List sq}(e:∀ o,h.get? D=aa o->h'.get? D=aa o)(hs:∀ x∈xs,Acb h0 x.1 x.2.1)(hk:∀ b o,h0.get? b=aa o->h'.get? b=aa o)(d:h.DictOfH (jN prog w) D xs):h'.DictOfH (jN prog w) D xs:=by
 obtain⟨o,es,ep,ho,h1,h2,h3,_,h5⟩:=d;exact⟨o,es,ep,e o ho,h1,h2,h3,λx hx=>(hs x hx).keep λb o _ _ e _ _=>hk b o e,h5⟩
theorem Yb{fp:List aD}{St:Nat->aH->Prop}
  (W:WalksS prog w A.in1 I fp wr G n (λi v=>ai[i]?=aa v) St) (D:aD) (Q8:D∉fp) (kvs:List sq) (hn:n<=sizeLine) (md:kvs.length=n) (hu:A.units+40<cLine) {h0:aQ} (hD0:h0.get? D=ae) (XL:∀ b∈wr,h0.get? b=ae)
  (hp:∀ (j:Nat) v,ai[j]?=aa v->∃ b p,v=.ref b/\kvs[j]?=aa p/\h0.IsTuple b #[.ref p.2.1,p.2.2]) (XV:∀ p∈kvs,Acb h0 p.1 p.2.1) :
  ∀ (k i:Nat) (s:aH),n-i=k->i<=n->St i s->s.heap.DictOfH (jN prog w) D (lD [] (kvs.take i))->(∀ b o,h0.get? b=aa o->s.heap.get? b=aa o) ->
   (∀ s',Moved (D::wr) G s s'->s'.heap.DictOfH (jN prog w) D (lD [] kvs)->R (.ok (.ret .none)) s') ->
   nQ (aO prog w) A (.builtin "dict.update.loop" ⟨[.ref D,.ref I,cS (i:Int),.none],[]⟩) R s:=by
 have Q9:D∉wr:=λz=>Q8 (W.sub _ z)
 have more:∀ b∈wr,b∈D::wr:=λb z=>bL _ z
 have nw:∀ b o,h0.get? b=aa o->b∉wr:=λb o e z=>by rw[XL b z] at e;cases e
 have nD:∀ b o,h0.get? b=aa o->b≠D:=λb o e z=>by rw[z,hD0] at e;cases e
 have kin:∀ i,∀ x∈lD [] (kvs.take i),Acb h0 x.1 x.2.1:=λi x m=>by
  rcases Bx _ m with⟨p,mp,e1,e2⟩|⟨y,my,_⟩
  .rw[e1,e2];exact XV p (RE mp)
  .simp at my
 intro k;induction k with
 |zero=>
  intro i s hk hi jy hS hT hR;obtain rfl:i=n:=by omega
  refine lM GS ?_;rw[oB sO _];refine aG (W.done s _ _ jy λs' hm=>?_)
  refine aG (aN (aN (hR s' (hm.mono more) ?_)));have:=YZ (λo e=>hm.heap D o Q9 e) (kin i) (λb o e=>hm.heap b o (nw b o e) (hT b o e)) hS
  rw[<-md,HW] at this;exact this
 |succ k ih=>
  intro i s hk hi jy hS hT hR;have cf:i<n:=by omega
  refine lM GS ?_;rw[oB sO _];refine aG (W.item i s _ _ cf jy λv s' Rs wp hm=>?_)
  have zx:∀ b o,h0.get? b=aa o->s'.heap.get? b=aa o:=λb o e=>hm.heap b o (nw b o e) (hT b o e)
  obtain⟨b,p,rfl,e1,tb0⟩:=hp i v Rs;have tb:s'.heap.IsTuple b #[.ref p.2.1,p.2.2]:=by
   obtain⟨o,a1,a2⟩:=tb0;exact⟨o,zx b o a1,a2⟩
  have mp:=fH e1;have qm:=YZ (λo e=>hm.heap D o Q9 e) (kin i) zx hS
  have ou:lD [] (kvs.take (i+1))=rG (lD [] (kvs.take i)) p.1 p.2.1 p.2.2:=by
   rw[CY,e1];simp[lD,yP]
  have ay:(lD [] (kvs.take i)).length<=sizeLine:=by
   have:=Cc (kvs.take i) [];rw[rO] at this;simp at this;omega
  have wc:=(XV p mp).keep λb o _ _ e _ _=>zx b o e
  refine aG (hG (aG (wpAny_tryCatch ?_)));unfold Builtin.Dict.pairItems;refine aG (nN tb.typeIs ?_);obtain⟨ob,g1,g2,nb,g3⟩:=tb;refine aG (kB g1 g3 (aN ?_));refine hG (wpAny_dictSet_heap ?_ wc qm (λh' d' sb=>?_) ay)
  .show _+20<cLine;have:A.in1.units=A.units+1:=rfl;simp;omega
  refine aN ⟨nP sO _,?_⟩;refine ih (i+1) _ (by omega) cf (W.frame _ s' _ _ wp (QZ _ _) λc hc o e=>?_) (by rw[ou];exact d') (λb o e=>(sb.2 b (nD b o e)).trans (zx b o e)) λxw wq S4=>?_
  .exact(sb.2 c (λz=>Q8 (z ▸ hc))).trans e
  .exact hR xw (Moved.trans W.gtrans ((hm.mono more).then_heap (QZ _ _) λc o hc e=>(sb.2 c (λz=>hc (z ▸ bF))).trans e) wq) S4
theorem Yp{nl:Nat}{kvs:List sq}(hu:A.units+90<cLine)(hh:A.handled=ae)(hl:s.heap.get? l=aa { cls:=.type "list",dict:=ae,data:=.seq ai nl,slots:=sl })
  (md:kvs.length=ai.size) (hz:ai.size<=sizeLine) (hp:∀ (j:Nat) v,ai[j]?=aa v->∃ b p,v=.ref b/\kvs[j]?=aa p/\s.heap.IsTuple b #[.ref p.2.1,p.2.2]) (XV:∀ p∈kvs,Acb s.heap p.1 p.2.1)
  (h:∀ h' tk,h'.DictOfH (jN prog w) s.heap.objs.size (lD [] kvs)->(∀ b o,s.heap.get? b=aa o->h'.get? b=aa o)->Q (.ref s.heap.objs.size) { s with heap:=h',toks:=tk }) :
  aM (aO prog w) A (call (.type "dict") [.ref l]) Q E s:=by
 refine callType_codes (Q₁:=λobj s₁=>obj=.ref s.heap.objs.size/\s₁={ s with heap:=s.heap.push { cls:=.type "dict",data:=.dict #[] } }) F.kt_called_dict (F.kt_typeCall_dict_1 _) F.entry_dict_init (kt_code_dict_new _ ⟨rfl,rfl⟩) ?_
 rintro obj s₁ ⟨rfl,rfl⟩;have dn:(s.heap.push { cls:=.type "dict",data:=.dict #[] }).DictOfH (jN prog w) s.heap.objs.size []:=Heap.DictOfH.new s.heap;have l1:(s.heap.push { cls:=.type "dict",data:=.dict #[] }).get? l=aa { cls:=.type "list",dict:=ae,data:=.seq ai nl,slots:=sl }:=bN _ hl;refine⟨dn.typeIs,F.args_dict_init_2 _ _,?_⟩;unfold Builtin.«dict.__init__»;rw[19];unfold Builtin.Dict.selfAndRest;refine aG (Ge dn.typeIs (aN ?_));show aM _ _ (SC "dict.__init__" s.heap.objs.size (.ref l) [] .none) _ _ _;unfold SC;refine aG (nN (T:="list") ⟨_,l1,rfl⟩ ?_);rw[if_pos (by decide)]
 refine aG (Dg l1 (by simp[hh]) λh1 tk k1=>?_)
 show aM _ _ (rule _>>=λ_=>lL (.ref l)>>=_) _ _ _
 have l2:h1.get? l=aa { cls:=.type "list",dict:=ae,data:=.seq ai nl,slots:=sl }:=k1 _ _ l1;have L2:h1.IsList l ai:=⟨_,l2,rfl,nl,rfl⟩;refine aG (oW (aG (CI L2 (aN ⟨nP sO _,?_⟩))));have lS:l<s.heap.objs.size:=bU hl;have d1:h1.DictOfH (jN prog w) s.heap.objs.size []:=by
  obtain⟨o,es,ep,ho,a1,a2,a3,_,a5⟩:=dn;exact⟨o,es,ep,k1 _ _ ho,a1,a2,a3,λx hx=>by simp at hx,a5⟩
 have sD:s.heap.objs.size<h1.objs.size:=by
  obtain⟨o,es,ep,ho,r⟩:=d1;exact bU ho
 have nI:l≠h1.objs.size:=cI (yI lS sD);have nS:s.heap.objs.size∉[h1.objs.size,l]:=λz=>by
  rw[18]
  .exact absurd z (cI sD)
  .exact absurd (bX.1 z) (kG lS)
 have tz:∀ b o,s.heap.get? b=aa o->(h1.push { cls:=.type "list_iterator",data:=.fields #[.ref l,.int 0 0] }).get? b=aa o:=λb o e=>bN _ (k1 _ _ (bN _ e))
 have out:∀ b,s.heap.objs.size<=b->s.heap.get? b=ae:=λb hb=>by
  cases e:s.heap.get? b with
  |none=>rfl
  |some o=>exact absurd (bU e) (Nat.not_lt.2 hb)
 have d2:(h1.push { cls:=.type "list_iterator",data:=.fields #[.ref l,.int 0 0] }).DictOfH (jN prog w) s.heap.objs.size []:=by
  obtain⟨o,es,ep,ho,a1,a2,a3,_,a5⟩:=d1;exact⟨o,es,ep,bN _ ho,a1,a2,a3,λx hx=>by simp at hx,a5⟩
 refine Yb (w:=w) ((Walks.list (by simp[hh]) _ l nI ai).toS) s.heap.objs.size nS kvs hz md (by simp;omega) (h0:=s.heap) (out _ (bE _)) (λb z=>out b (by
  rw[bX.1 z];exact pB sD)) hp XV (ai.size-0) 0 _ rfl (eO _) ⟨⟨_,cW _ rfl,rfl,rfl⟩,L2.push _⟩ d2 tz λs' hm S'=>?_
 obtain⟨h',g',d',vp,we⟩:=s';obtain rfl:g'=s.gens:=hm.gens;obtain rfl:d'=s.drawn:=hm.drawn;obtain rfl:we=s.os:=hm.os;refine⟨rfl,h h' vp S' λb o e=>?_⟩
 have lb:b<s.heap.objs.size:=bU e;refine hm.heap b o (λz=>?_) (tz b o e)
 rw[18]
 .exact absurd z (cI lb)
 .exact absurd (bX.1 z) (cI (yI lb sD))
abbrev JQ (K:aK)(H:Hp)(ys:List V)(ps:List (List aA×V)):Prop:=dR (λy (p:List aA×V)=>∃ b c,y=V.ref b/\SqT K H b [.ref c,p.2]/\Arc H p.1 c) ys ps
def pI (kvs more:List (List aA×V)):List (List aA×V):=more.foldl (λaj kv=>putK aj kv.1 kv.2) kvs
theorem Dc:∀ (more kvs:List (List aA×V)),(pI kvs more).length<=kvs.length+more.length
 |[],kvs=>by show kvs.length<=kvs.length+0;omega
 |p::r,kvs=>by
  have h1:=Dc r (putK kvs p.1 p.2);have h2:=BB kvs p.1 p.2;show(pI (putK kvs p.1 p.2) r).length<=_;rw[fY];omega
theorem KT.merge:∀ {more:List (List aA×V)} {rs:List sq} {kvs:List (List aA×V)} {vs:List sq},KT H more rs->KT H kvs vs->KT H (pI kvs more) (lD vs rs):=by
 intro more rs kvs vs r;induction r generalizing kvs vs with
 |nil=>intro q;exact q
 |@cons p q ps qs h t ih=>
  intro z;obtain⟨h1,h2,h3⟩:=h;have:=z.put p.1 h2 h3;show KT H (pI (putK kvs p.1 p.2) ps) (lD (rG vs q.1 q.2.1 q.2.2) qs);rw[<-h1];exact ih this
theorem ZK{Z:St}(I:Inv X ad Z H s):∀ {ys:List V} {ps:List (List aA×V)} {its:List aE},JQ X.K H ys ps->Vals ys its ->
  ∃ kvs:List sq,KT H ps kvs/\kvs.length=its.length/\(∀ (j:Nat) v,its[j]?=aa v->∃ b p,v=.ref b/\kvs[j]?=aa p/\s.heap.IsTuple b #[.ref p.2.1,p.2.2])/\∀ p∈kvs,Acb s.heap p.1 p.2.1
 |_,_,_,.nil,.nil=>⟨[],.nil,rfl,λj v e=>by simp at e,λp m=>by simp at m⟩
 |_,_,_,.cons (b:=p) ⟨b,c,e,q,tk⟩ t,.cons r rr=>by
  subst e;cases r;obtain⟨kvs,h1,h2,h3,h4⟩:=ZK I t rr;obtain⟨us,rv,tb,_⟩:=I.tuple q;cases rv with
  |cons ra rb=>
   cases ra;cases rb with
   |cons rb rc=>
    cases rc;refine⟨(p.1,c,_)::kvs,.cons ⟨rfl,tk,rb⟩ h1,by simp[h2],λj v e=>?_,λz m=>?_⟩
    .cases j with
     |zero=>
      cases e;exact⟨b,(p.1,c,_),rfl,rfl,tb⟩
     |succ j=>exact h3 j v (by simpa using e)
    .rw[15]
     .exact key_of I.hok tk
     .exact h4 z m
theorem i6 (hu:X.A.units+100<cLine)(hc:X.calm=af):Adw X (.type "dict") (λxs H Q=>∃ p ys ps,xs=[.ref p]/\SqL X.K H p ys/\JQ X.K H ys ps/\∀ q,H q=ae->Q (.ref q) (upd H q (.dT (pI [] ps)))):=by
 rw[6];obtain⟨p,ys,ps,rfl,hp,hv,q⟩:=h;rw[12];obtain⟨its,rv,⟨o,n,ho,vk,oq,yv⟩,hz⟩:=I.list hp;obtain⟨kvs,h1,h2,h3,h4⟩:=ZK I hv rv;have e1:ys.length=its.length:=rv.length;obtain⟨c,dct,dat,sl⟩:=o;simp only at vk oq yv;subst vk oq yv;refine Yp (by omega) (I.ok.hd hc) ho (kvs:=kvs) (by rw[eA];exact h2) (by rw[eA];omega) (λj v e=>h3 j v (by simpa using e)) h4 λh' tk dd hk=>?_
 have lz:(pI [] ps).length<=sizeLine:=by
  have l1:=Dc ps [];have l2:ps.length=kvs.length:=nV h1;simp at l1;omega
 obtain⟨qo,es,ep,a1,a2,a3,a4,_,a5⟩:=dd;have fr:H s.heap.objs.size=ae:=I.hok.fresh (bE _);exact⟨.ref s.heap.objs.size,_,I.laid (a:=s.heap.objs.size) (o:=.dT (pI [] ps)) (t':=tk) hk (bE _) ⟨lz,beq_eq_false_iff_ne.2 (hW (cI I.big)),_,(h1.merge .nil).keeps λb zs e=>by rw[cY (lG e fr)];exact e,qo,es,ep,a1,a2,a3,a4,a5⟩,rfl,q _ I.fresh⟩
def tL:List aA->Option (List (List aA×aA))
 |[]=>aa []
 |.tuple [.tuple k,d]::r=>if (bR k&&decide (cL k<=6))=af then(tL r).bind λps=>aa ((k,d)::ps) else ae
 |_::_=>ae
def rX (kds:List (aA×aA))(k:List aA)(d:aA):List (aA×aA):=if (lA kds k).isSome=af then kds.map λkd=>if cD kd.1 (.tuple k)=af then(kd.1,d) else kd else kds++[(.tuple k,d)]
def lC (ps:List (List aA×aA))(kds:List (aA×aA)):List (aA×aA):=ps.foldl (λaj p=>rX aj p.1 p.2) kds
def JU:List aA->Option aA
 |[.list ds]=>(tL ds).bind λps=>aa (.dict ((.none,.none)::lC ps []))
 |_=>ae
theorem MQ(hk:bR k=af)(rv:Abm K H d v):∀ {kds:List (aA×aA)} {kvs:List (List aA×V)},Acm K H kds kvs ->
  Acm K H (kds.map λkd=>if cD kd.1 (.tuple k)=af then(kd.1,d) else kd) (kvs.map λkv=>if kv.1=k then(kv.1,v) else kv)
 |[],kvs,h=>by rw[Adq.1 h];exact Adq.2 rfl
 |(k0,d0)::r,kvs,h=>by
  obtain⟨k',x,rr,rfl,⟨rfl,fq⟩,h1,h2⟩:=Ab5.1 h;have e:cD (.tuple k') (.tuple k)=decide (k'=k):=by rw[Ew,AR _ _ fq hk]
  rw[dI,dI];by_cases q:k'=k
  .rw[if_pos q,if_pos (by rw[e];exact decide_eq_true q)]
   exact Ab5.2 ⟨k',v,_,rfl,⟨rfl,fq⟩,rv,MQ hk rv h2⟩
  .rw[if_neg q,if_neg (by rw[e,decide_eq_false q];simp)]
   exact Ab5.2 ⟨k',x,_,rfl,⟨rfl,fq⟩,h1,MQ hk rv h2⟩
theorem Acm.snoc(hk:bR k=af)(rv:Abm K H d v):∀ {kds:List (aA×aA)} {kvs:List (List aA×V)},Acm K H kds kvs->Acm K H (kds++[(.tuple k,d)]) (kvs++[(k,v)])
 |[],kvs,h=>by rw[Adq.1 h];exact Ab5.2 ⟨k,v,[],rfl,⟨rfl,hk⟩,rv,Adq.2 rfl⟩
 |(k0,d0)::r,kvs,h=>by
  obtain⟨k',x,rr,rfl,e,h1,h2⟩:=Ab5.1 h;exact Ab5.2 ⟨k',x,_,rfl,e,h1,Acm.snoc hk rv h2⟩
theorem Ux{kvs:List (List aA×V)}(hk:bR k=af)(h:Acm K H kds kvs)(rv:Abm K H d v):Acm K H (rX kds k d) (putK kvs k v):=by
 unfold rX putK;rw[wM];rcases MV hk h with⟨n1,n2⟩|⟨d',v',s1,s2,_⟩
 .rw[n1,n2,if_neg (by simp),if_neg (by simp)]
  exact Acm.snoc hk rv h
 .rw[s1,s2,if_pos (show(aa d').isSome=af from rfl),if_pos (show(aa v').isSome=af from rfl)]
  exact MQ hk rv h
theorem Be:∀ {ps:List (List aA×aA)} {qs:List (List aA×V)},dR (λ(p:List aA×aA) (q:List aA×V)=>p.1=q.1/\bR p.1=af/\Abm K H p.2 q.2) ps qs->∀ {kds:List (aA×aA)} {kvs:List (List aA×V)},Acm K H kds kvs->Acm K H (lC ps kds) (pI kvs qs)
 |_,_,.nil,_,_,r=>r
 |_,_,.cons (a:=p) (b:=q) ⟨e,hk,h⟩ t,kds,kvs,r=>by
  have:=Ux hk r h;have:=Be t this;show Acm K H (lC _ (rX kds p.1 p.2)) (pI (putK kvs q.1 q.2) _);rw[<-e];exact this
theorem XB:∀ {ds:List aA} {ps:List (List aA×aA)} {ys:List V},tL ds=aa ps->Aap K H ds ys->∃ qs:List (List aA×V),dR (λ(y:V) (q:List aA×V)=>∃ b c,y=V.ref b/\H b=aa (.tup [.ref c,q.2])/\Arc H q.1 c) ys qs/\dR (λ(p:List aA×aA) (q:List aA×V)=>p.1=q.1/\bR p.1=af/\Abm K H p.2 q.2) ps qs
 |[],ps,ys,e,r=>by
  cases e;rw[Aan.1 r];exact⟨[],.nil,.nil⟩
 |d0::ds,ps,ys,e,r=>by
  unfold tL at e;split at e
  .rename_i e0;cases e0
  .rename_i k d r0 e0;cases e0;obtain⟨hc,e⟩:=EW e;have il:bR k=af/\cL k<=6:=by simpa using hc
   obtain⟨ps',e2,e⟩:=ao e;cases e;obtain⟨v,t,rfl,r1,r2⟩:=Aah.1 r;obtain⟨qs,h1,h2⟩:=XB e2 r2;obtain⟨b,xs,rfl,hb,rx⟩:=Aar.1 r1;obtain⟨u1,t1,rfl,a1,a2⟩:=Aah.1 rx;obtain⟨u2,rfl,a3⟩:=hE a2;obtain⟨c,zs,rfl,hz,rz⟩:=Aar.1 a1;exact⟨(k,u2)::qs,.cons ⟨b,c,rfl,hb,il.1,il.2,zs,hz,Aap.keys k il.1 rz⟩ h1,.cons ⟨rfl,il.1,a3⟩ h2⟩
  .cases e
theorem Arc.ext(x:Ext H H'){c:aD}(t:Arc H k c):Arc H' k c:=t.keep λb xs e=>x _ _ e
theorem d6:CallD K 0 (λxs H Q=>∃ p ys ps,xs=[.ref p]/\SqL K H p ys/\JQ K H ys ps/\∀ q,H q=ae->Q (.ref q) (upd H q (.dT (pI [] ps)))) JU:=λP H xs ds d Q hP r e k=>by
 unfold JU at e;split at e
 .obtain⟨ps,e1,e2⟩:=ao e;cases e2;obtain⟨v,rfl,r'⟩:=hE r;obtain⟨q,ys,rfl,hq,rr⟩:=Abb.1 r';obtain⟨qs,h1,h2⟩:=XB e1 rr;refine⟨q,ys,qs,rfl,Aas.sqL hq,?_,λl hn=>?_⟩
  .exact UW (λy p ⟨b,c,e,hb,tk⟩=>⟨b,c,e,SqT.of (Aas _ _ hb),tk.ext Aas⟩) h1
  .refine k.zero (Ext.new hn) ((AY).2 ⟨l,_,rfl,gZ (hP.new hn) eU,?_⟩);refine Acm.ext (λb o e=>?_) (Be h2 (Adq.2 rfl))
   obtain⟨nb,e⟩:=Acs.1 e;exact gZ nb (Ext.new hn _ _ e)
 .cases e
def keyed (kds:List (aA×aA)):Prop:=∀ kd∈kds,∃ k,kd.1=.tuple k/\bR k=af
theorem NG(hk:bR k=af):∀ {kds:List (aA×aA)},keyed kds->((lA kds k).isSome=af↔cV k∈kds.map (·.1))
 |[],_=>by simp[lA]
 |(k0,d)::r,h=>by
  obtain⟨k',e,fq⟩:=h (k0,d) bF;have e:k0=.tuple k':=e;subst e;rw[Br fq hk];by_cases q:k'=k
  .rw[if_pos q,q];simp
  .rw[if_neg q,NG hk λkd m=>h kd (bL _ m)]
   have:cV k ≠ .tuple k':=λz=>q (CP z).symm
   simp[this]
theorem Xq(h:keyed kds)(hk:bR k=af)(d:aA):keyed (rX kds k d)/\∀ x,x∈(rX kds k d).map (·.1)↔x∈kds.map (·.1)\/x=.tuple k:=by
 unfold rX;by_cases q:(lA kds k).isSome=af
 .rw[if_pos q];have e:(kds.map λkd=>if cD kd.1 (.tuple k)=af then(kd.1,d) else kd).map (·.1)=kds.map (·.1):=by
   rw[eP];refine qA λkd _=>?_
   show(if cD kd.1 (.tuple k)=af then(kd.1,d) else kd).1=_
   split<;>rfl
  refine⟨λkd m=>?_,λx=>?_⟩
  .obtain⟨y,my,e2⟩:=bI.1 (show kd.1∈kds.map (·.1) from e ▸ bI.2 ⟨kd,m,rfl⟩)
   rw[<-e2];exact h y my
  .rw[e];exact⟨.inl,λz=>z.elim id λz=>z ▸ (NG hk h).1 q⟩
 .rw[if_neg q];refine⟨λkd m=>?_,λx=>by simp⟩
  rcases gP.1 m with m|m
  .exact h kd m
  .rw[bX.1 m];exact⟨k,rfl,hk⟩
theorem By:∀ {ps:List (List aA×aA)} {kds:List (aA×aA)},keyed kds->(∀ p∈ps,bR p.1=af)->keyed (lC ps kds)/\∀ x,x∈(lC ps kds).map (·.1)↔x∈kds.map (·.1)\/∃ p∈ps,x=.tuple p.1
 |[],kds,h,_=>⟨h,λx=>by simp[lC]⟩
 |p::r,kds,h,hp=>by
  obtain⟨h1,h2⟩:=Xq h (hp p bF) p.2;obtain⟨h3,h4⟩:=By (ps:=r) h1 λq m=>hp q (bL _ m)
  refine⟨h3,λx=>?_⟩
  show x∈(lC r (rX kds p.1 p.2)).map (·.1)↔_;rw[h4,h2];simp[or_assoc]
theorem Yx {ps:List (List aA×aA)}(hp:∀ p∈ps,bR p.1=af)(hk:bR k=af):(lA (lC ps []) k).isSome=decide (k∈ps.map (·.1)):=by
 obtain⟨h1,h2⟩:=By (ps:=ps) (kds:=[]) (λkd m=>by simp at m) hp
 have:=NG hk h1;rw[h2] at this;by_cases q:k∈ps.map (·.1)
 .rw[decide_eq_true q];obtain⟨p,mp,e⟩:=bI.1 q;exact this.2 (.inr ⟨p,mp,by rw[e]⟩)
 .rw[decide_eq_false q];cases e:(lA (lC ps []) k).isSome with
  |false=>rfl
  |true=>
   rcases this.1 e with z|⟨p,mp,e⟩
   .simp at z
   .exact absurd (bI.2 ⟨p,mp,(CP e).symm⟩) q
def EB (m:Md)(f:EF)(T:aA->aU->Option aU):SF:=λY=>(eV 0 m f Y).bind λd=>(T d Y).bind λρ'=>aa (.nx ρ')
theorem Rr{T:aA->aU->Option aU}(m:Md)(he:DE X e f)(hg:DG X H0 P0 tg T)(hs:QF [tg] e pos.line X.env=pure ag:=by rfl)(hw:QG [tg] e X.env=pure ae:=by rfl)
  (h1:(iJ [tg] X.env).map (·.2)=[lO tg X.env]:=by rfl):DS X H0 P0 n0 (.Assign [tg] e pos) (EB m f T):=PS.imp (PV (ev m he) hg hs hw h1) λD Z H gh=>by
 rw[7];rw[17];obtain⟨ρ',e2,ef⟩:=ao ef;cases ef;refine⟨B0,Y,fp,d,S,e1,λv H' gh=>?_⟩
 obtain⟨ce,S',r⟩:=gh;exact⟨B0,Y,ce,d,ρ',S',r.2,e2,λσ' ij S2=>k _ _ ij S2⟩
open PySem PySem.SetTable
def mW (xs:Array Nat):Prop:=∀ a b u v:Nat,a<b->xs[a]?=aa u->xs[b]?=aa v->u<v
theorem LY {xs:Array Nat}(hr:mW xs):∀ fuel lo hi,hi<=xs.size->lo<=hi->hi-lo<=fuel->(∀ k<lo,∀ v,xs[k]?=aa v->v<j)->(∀ k,hi<=k->∀ v,xs[k]?=aa v->j<=v) ->
  below.go xs j fuel lo hi<=xs.size/\(∀ k<below.go xs j fuel lo hi,∀ v,xs[k]?=aa v->v<j)/\∀ k,below.go xs j fuel lo hi<=k->∀ v,xs[k]?=aa v->j<=v
 |0,lo,hi,h1,h2,h3,hl,hh=>by
  have:lo=hi:=by omega
  rw[20];unfold below.go;exact⟨h1,hl,hh⟩
 |fuel+1,lo,hi,h1,h2,h3,hl,hh=>by
  unfold below.go;by_cases c:lo<hi
  .rw[if_pos c];have hm:(lo+hi)/2<xs.size:=by omega
   have em:=kY hm;have eg:xs.getD ((lo+hi)/2) j=xs[(lo+hi)/2]:=by simp[Array.getD,hm]
   simp only[eg];by_cases d:xs[(lo+hi)/2]<j
   .rw[if_pos d];refine LY hr fuel _ _ h1 (by omega) (by omega) (λk hk v ev=>?_) hh
    by_cases q:k=(lo+hi)/2
    .subst q;rw[em] at ev;cases ev;exact d
    .have:=hr k ((lo+hi)/2) v _ (by omega) ev em
     omega
   .rw[if_neg d];refine LY hr fuel _ _ (by omega) (by omega) (by omega) hl (λk hk v ev=>?_)
    by_cases q:k=(lo+hi)/2
    .subst q;rw[em] at ev;cases ev;omega
    .have:=hr ((lo+hi)/2) k _ v (by omega) em ev
     omega
  .rw[if_neg c];have:lo=hi:=by omega
   rw[20];exact⟨h1,hl,hh⟩
theorem GM {xs:Array Nat}(hr:mW xs)(j:Nat):below xs j<=xs.size/\(∀ k<below xs j,∀ v,xs[k]?=aa v->v<j)/\∀ k,below xs j<=k->∀ v,xs[k]?=aa v->j<=v:=
 LY hr xs.size 0 xs.size (bE _) (eO _) (by omega) (λk hk=>absurd hk (by omega)) (λk hk v ev=>by
  have:=(vK.1 ev).1;omega)
theorem below_at {xs:Array Nat}(hr:mW xs)(h:xs[i]?=aa j):below xs j=i:=by
 obtain⟨h1,h2,h3⟩:=GM hr j;rcases CV (below xs j) i with q|q|q
 .have hi:=(vK.1 h).1;have e:xs[below xs j]?=aa (xs[below xs j]'(by omega)):=kY (by omega)
  have a:=h3 _ (bE _) _ e;have b:=hr _ _ _ _ q e h;omega
 .exact q
 .have:=h2 i q j h;omega
theorem KQ (j:Nat):has #[] j=ag:=by simp[has]
theorem GI {t:dZ}(hd:t.dummies = #[])(hr:mW t.place):t.slot j=.live i↔t.place[i]?=aa j:=by
 unfold slot;rw[hd,KQ];rw[24];constructor
 .intro h;split at h
  .rename_i c;cases h;simpa using c
  .simp at h
 .intro h;rw[below_at hr h,h];simp
theorem F7 {t:dZ}(hd:t.dummies = #[])(hr:mW t.place)(h:∀ i:Nat,t.place[i]?≠aa j):t.slot j=.empty:=by
 unfold slot;rw[hd,KQ];rw[24];rw[if_neg (by simpa using h _)]
 rfl
def sr (mask:Nat)(p:Probe):Probe:=if p.more > 0 then { p with j:=p.j+1,more:=p.more-1 } else
 { p with j:=(leap mask p.i p.perturb).1,more:=runEnd mask (leap mask p.i p.perturb).1-(leap mask p.i p.perturb).1,i:=(leap mask p.i p.perturb).1,perturb:=(leap mask p.i p.perturb).2 }
theorem NK (t:dZ)(p:Probe):t.advance p=sr t.mask p:=by
 unfold advance sr
 rfl
def pN (mask:Nat)(p:Probe):Nat->Probe
 |0=>p
 |n+1=>sr mask (pN mask p n)
theorem OP (mask:Nat)(p:Probe)(a:Nat):∀ b,pN mask (pN mask p a) b=pN mask p (a+b)
 |0=>rfl
 |b+1=>by
  show sr mask (pN mask (pN mask p a) b)=sr mask (pN mask p (a+b));rw[OP mask p a b]
def ui (mask i bz:Nat):Probe:={ j:=i,more:=runEnd mask i-i,i,perturb:=bz,dummy:=ae }
theorem Mz (mask i:Nat):runEnd mask i-i<=9:=by
 unfold runEnd;split<;>omega
theorem KL (mask i bz:Nat):∀ k,k<=runEnd mask i-i->pN mask (ui mask i bz) k={ j:=i+k,more:=runEnd mask i-i-k,i,perturb:=bz,dummy:=ae }
 |0,_=>rfl
 |k+1,h=>by
  show sr mask (pN mask (ui mask i bz) k)=_;rw[KL mask i bz k (by omega)]
  unfold sr;rw[if_pos (by show runEnd mask i-i-k > 0;omega)]
  rfl
theorem WW (mask i bz:Nat):pN mask (ui mask i bz) (runEnd mask i-i+1)=ui mask (leap mask i bz).1 (leap mask i bz).2:=by
 show sr mask (pN mask (ui mask i bz) (runEnd mask i-i))=_;rw[KL mask i bz _ (bE _)];unfold sr;rw[if_neg (by show ¬ (runEnd mask i-i-(runEnd mask i-i) > 0);omega)]
 rfl
def lp (mask:Nat)(s:Nat×Nat):Nat->Nat×Nat
 |0=>s
 |m+1=>leap mask (lp mask s m).1 (lp mask s m).2
theorem WC (mask i bz:Nat):∀ m,∃ n,n<=10*m/\pN mask (ui mask i bz) n=ui mask (lp mask (i,bz) m).1 (lp mask (i,bz) m).2
 |0=>⟨0,by omega,rfl⟩
 |m+1=>by
  obtain⟨n,hn,e⟩:=WC mask i bz m;have b:=Mz mask (lp mask (i,bz) m).1;refine⟨n+(runEnd mask (lp mask (i,bz) m).1-(lp mask (i,bz) m).1+1),by omega,?_⟩
  rw[<-OP,e,WW]
  rfl
theorem UL (mask i bz:Nat):∀ m,(lp mask (i,bz) m).2=bz/32^m
 |0=>by simp[lp]
 |m+1=>by
  show(lp mask (i,bz) m).2/32=_;rw[UL mask i bz m,Nat.div_div_eq_div_mul,vE]
def M8 (mask:Nat)(i:Nat):Nat->Nat
 |0=>i
 |m+1=>(M8 mask i m*5+1)%(mask+1)
def pP (mask:Nat):Prop:=mask=7\/mask=31\/mask=127\/mask=511\/mask=2047\/mask=8191
def gN (x:Nat):Nat->Nat
 |0=>x
 |m+1=>gN x m*5+1
theorem UI (x a:Nat):∀ b,gN (gN x a) b=gN x (a+b)
 |0=>rfl
 |b+1=>by
  show gN (gN x a) b*5+1=gN x (a+b)*5+1;rw[UI x a b]
theorem UQ (x:Nat):∀ m,4*gN x m+1=5^m*(4*x+1)
 |0=>by simp[gN]
 |m+1=>by
  show 4*(gN x m*5+1)+1=5^(m+1)*(4*x+1);have:=UQ x m;rw[vE,HU (5^m) 5,CU,<-this];omega
theorem XH:∀ k,∃ q,5^2^k=1+2^k*(4*(2*q+1))
 |0=>⟨0,rfl⟩
 |k+1=>by
  obtain⟨q,e⟩:=XH k;refine⟨q+2^k*((2*q+1)*(2*q+1)),?_⟩;rw[vE 2 k,HU (2^k) 2,Nat.two_mul,Nat.pow_add,e];generalize 2^k=M;generalize hu:2*q+1=u;have e2:2*(q+M*(u*u))+1=u+2*(M*(u*u)):=by omega
  rw[e2];have h1:M*(4*u)*(M*(4*u))=16*(M*(M*(u*u))):=by
   rw[show M*(4*u)=4*(M*u) by rw[Hj],QX]
   rw[show M*u*(M*u)=M*(M*(u*u)) by rw[QX,CU]]
  have h2:(M+M)*(4*(u+2*(M*(u*u))))=8*(M*u)+16*(M*(M*(u*u))):=by
   rw[<-Nat.two_mul,HV 4,HV];rw[show 2*M*(4*u)=8*(M*u) by rw[QX]]
   rw[show 4*(2*(M*(u*u)))=8*(M*(u*u)) by omega,QX]
  rw[Nat.add_mul,HV,HV,h1,h2,show M*(4*u)=4*(M*u) by rw[Hj]]
  omega
theorem Tj (x k:Nat):∃ q,gN x (2^k)=x+2^k*(2*q+1):=by
 obtain⟨q,e⟩:=XH k;have h:=UQ x (2^k);rw[e] at h;refine⟨q*(4*x+1)+2*x,?_⟩;have e2:2*(q*(4*x+1)+2*x)+1=(2*q+1)*(4*x+1):=by
  rw[Nat.add_mul,HV 2,<-CU 2 q];omega
 rw[e2];generalize 2^k=M at h;generalize(2*q+1)=u at h;rw[Nat.add_mul,Nat.one_mul,show M*(4*u)*(4*x+1)=4*(M*(u*(4*x+1))) by rw[Hj M 4 u,CU,CU]] at h
 omega
theorem VV:∀ (k x e:Nat),∃ m,m<2^k/\gN x m%2^k=e%2^k
 |0,x,e=>⟨0,by simp,by simp[Nat.mod_one]⟩
 |k+1,x,e=>by
  obtain⟨m,hm,h⟩:=VV k x e;have hM:=Nat.two_pow_pos k;have sp:∀ y:Nat,y%2^(k+1)=y%2^k+2^k*(y/2^k%2):=λy=>by rw[vE,Nat.mod_mul]
  have hp:2^(k+1)=2^k+2^k:=by rw[vE];omega
  by_cases c:gN x m/2^k%2=e/2^k%2
  .exact⟨m,by omega,by rw[sp,sp,h,c]⟩
  .obtain⟨q,hq⟩:=Tj (gN x m) k;refine⟨m+2^k,by omega,?_⟩
   rw[<-UI,hq,sp,sp,Nat.add_mul_mod_self_left,Nat.add_mul_div_left _ _ hM,h]
   congr 2
   omega
theorem VS (mask i:Nat)(hi:i<=mask):∀ m,M8 mask i m=gN i m%(mask+1)
 |0=>by
  show i=i%(mask+1);exact(Nat.mod_eq_of_lt (by omega)).symm
 |m+1=>by
  show(M8 mask i m*5+1)%(mask+1)=(gN i m*5+1)%(mask+1);rw[VS mask i hi m];simp[Nat.add_mod,Nat.mul_mod]
theorem wC {k:Nat}(hk:mask+1=2^k){e:Nat}(hi:i<=mask)(he:e<=mask):∃ m,m<=mask/\M8 mask i m=e:=by
 obtain⟨m,h1,h2⟩:=VV k i e;refine⟨m,by omega,?_⟩
 rw[VS mask i hi,hk,h2,<-hk];exact Nat.mod_eq_of_lt (by omega)
theorem Rf(hm:pP mask){e:Nat}(hi:i<=mask)(he:e<=mask):∃ m,m<=mask/\M8 mask i m=e:=by
 rcases hm with rfl|rfl|rfl|rfl|rfl|rfl
 .exact wC (k:=3) rfl hi he
 .exact wC (k:=5) rfl hi he
 .exact wC (k:=7) rfl hi he
 .exact wC (k:=9) rfl hi he
 .exact wC (k:=11) rfl hi he
 .exact wC (k:=13) rfl hi he
theorem Dv (h:Int):bits h<2^64:=by
 unfold bits;have:=Int.emod_lt_of_pos h (show(0:Int)<2^64 by decide)
 have:=Int.emod_nonneg h (show(2^64:Int)≠0 by decide)
 omega
theorem VC(hp:bz<2^64):∀ m,(lp mask (i,bz) (13+m)).1=M8 mask (lp mask (i,bz) 13).1 m
 |0=>rfl
 |m+1=>by
  show((lp mask (i,bz) (13+m)).1*5+1+(lp mask (i,bz) (13+m)).2/32)%(mask+1)=(M8 mask (lp mask (i,bz) 13).1 m*5+1)%(mask+1);rw[VC hp m,UL];have:bz/32^(13+m)=0:=by
   apply Nat.div_eq_of_lt;refine iV hp ?_;rw[Nat.pow_add]
   calc 2^64<=32^13:=by decide
    _<=32^13*32^m:=K2 _ (Nat.pow_pos (by decide))
  rw[this]
theorem Mc:∀ m,0<m->(lp mask (i,bz) m).1<=mask
 |0,h=>absurd h (by omega)
 |m+1,_=>by
  show((lp mask (i,bz) m).1*5+1+(lp mask (i,bz) m).2/32)%(mask+1)<=mask;have:=sV ((lp mask (i,bz) m).1*5+1+(lp mask (i,bz) m).2/32) (show 0<mask+1 by omega)
  omega
theorem WB(hm:pP mask){e:Nat}(hp:bz<2^64)(he:e<=mask):∃ m,m<=13+mask/\(lp mask (i,bz) m).1=e:=by
 obtain⟨m,h1,h2⟩:=Rf hm (Mc 13 (by omega)) he
 exact⟨13+m,by omega,by rw[VC hp];exact h2⟩
def rd (mask:Nat)(h:Int)(n:Nat):Probe:=pN mask (ui mask (bits h%(mask+1)) (bits h)) n
theorem WQ(hm:pP mask)(h:Int){e:Nat}(he:e<=mask):∃ n,n<10*turns mask/\(rd mask h n).j=e:=by
 obtain⟨m,h1,h2⟩:=WB hm (Dv h) he;obtain⟨n,h3,h4⟩:=WC mask (bits h%(mask+1)) (bits h) m;refine⟨n,by unfold turns;omega,?_⟩
 unfold rd;rw[h4];exact h2
theorem E8 (mask:Nat)(p:Probe):(sr mask p).dummy=p.dummy:=by
 unfold sr;split<;>rfl
theorem XQ (mask:Nat)(h:Int):∀ n,(rd mask h n).dummy=ae
 |0=>rfl
 |n+1=>by
  show(sr mask (rd mask h n)).dummy=ae;rw[E8];exact XQ mask h n
def jI (t:dZ)(j:Nat):Prop:=∃ i:Nat,t.place[i]?=aa j
structure Good (t:dZ)(es:Array (Int×aE)):Prop where
 small:pP t.mask
 nod:t.dummies = #[]
 ris:mW t.place
 len:t.place.size=es.size
 inb:∀ i j:Nat,t.place[i]?=aa j->j<=t.mask
 room:es.size<=t.mask
 reach:∀ (i j:Nat) (e:Int×aE),t.place[i]?=aa j->es[i]?=aa e->∃ n,(rd t.mask e.1 n).j=j/\∀ m<n,jI t (rd t.mask e.1 m).j
theorem rank {xs:Array Nat}(hr:mW xs):∀ e,(∀ v≤e,∃ i:Nat,xs[i]?=aa v)->∃ i:Nat,xs[i]?=aa e/\e<=i
 |0,h=>by
  obtain⟨i,q⟩:=h 0 (bE _);exact⟨i,q,eO _⟩
 |e+1,h=>by
  obtain⟨i,q,hi⟩:=rank hr e λv hv=>h v (by omega)
  obtain⟨k,qk⟩:=h (e+1) (bE _);refine⟨k,qk,?_⟩;rcases CV i k with c|c|c
  .omega
  .subst c;rw[q] at qk;simp at qk
  .have:=hr k i _ _ c qk q;omega
theorem Good.empty {t:dZ}(G:Good t es):∃ e,e<=t.mask/\¬ jI t e:=by
 apply II;intro hn;have cz:∀ v≤t.mask,∃ i:Nat,t.place[i]?=aa v:=λv hv=>II λq=>hn ⟨v,hv,q⟩
 obtain⟨i,q,hi⟩:=rank G.ris t.mask cz;have h1:=(vK.1 q).1;have h2:=G.len;have h3:=G.room;omega
theorem YH {t:dZ}(h:¬ jI t j):∀ i:Nat,t.place[i]?≠aa j:=λi e=>h ⟨i,e⟩
section
variable {t:dZ}{hashAt:Nat->Int}{h:Int}
theorem XC (hd:t.dummies = #[])(hr:mW t.place):∀ k n fuel,k<fuel->(∀ m,n<=m->m<n+k->∃ i:Nat,t.place[i]?=aa (rd t.mask h m).j/\hashAt i≠h)->¬ jI t (rd t.mask h (n+k)).j ->
  probe.go t hashAt h fuel (rd t.mask h n)=aa (.empty (rd t.mask h (n+k)).j ae)
 |_,_,0,hf,_,_=>absurd hf (by omega)
 |0,n,fuel+1,_,_,he=>by
  rw[Nat.add_zero] at he ⊢;unfold probe.go;rw[F7 hd hr (YH he),XQ]
  rfl
 |k+1,n,fuel+1,hf,hm,he=>by
  obtain⟨i,e,cb⟩:=hm n (bE _) (by omega)
  unfold probe.go;rw[(GI hd hr).2 e];rw[24];rw[if_neg (by simpa using cb),NK]
  have:=XC hd hr k (n+1) fuel (by omega) (λm a b=>hm m (by omega) (by omega)) (by rw[show n+1+k=n+(k+1) by omega];exact he)
  rw[show n+1+k=n+(k+1) by omega] at this
  exact this
theorem Fz (hd:t.dummies = #[])(hr:mW t.place){i0:Nat}(h0:hashAt i0=h):∀ k n fuel,k<fuel->(∀ m,n<=m->m<n+k->∃ i:Nat,t.place[i]?=aa (rd t.mask h m).j/\hashAt i≠h)->t.place[i0]?=aa (rd t.mask h (n+k)).j ->
  probe.go t hashAt h fuel (rd t.mask h n)=aa (.candidate (rd t.mask h (n+k)).j i0 (rd t.mask h (n+k+1)))
 |_,_,0,hf,_,_=>absurd hf (by omega)
 |0,n,fuel+1,_,_,he=>by
  rw[Nat.add_zero] at he ⊢;unfold probe.go;rw[(GI hd hr).2 he];rw[24];rw[if_pos (by simpa using h0),NK]
  rfl
 |k+1,n,fuel+1,hf,hm,he=>by
  obtain⟨i,e,cb⟩:=hm n (bE _) (by omega)
  unfold probe.go;rw[(GI hd hr).2 e];rw[24];rw[if_neg (by simpa using cb),NK]
  have:=Fz hd hr h0 k (n+1) fuel (by omega) (λm a b=>hm m (by omega) (by omega)) (by rw[show n+1+k=n+(k+1) by omega];exact he)
  rw[show n+1+k=n+(k+1) by omega] at this
  exact this
theorem Bn (S:Nat->Prop):∀ d n,S (n+d)->∃ k,k<=d/\(∀ m,n<=m->m<n+k->¬ S m)/\S (n+k)
 |0,n,h=>⟨0,bE _,λm a b=>absurd b (by omega),h⟩
 |d+1,n,h=>by
  by_cases c:S n
  .exact⟨0,eO _,λm a b=>absurd b (by omega),c⟩
  .obtain⟨k,h1,h2,h3⟩:=Bn S d (n+1) (by rw[show n+1+d=n+(d+1) by omega];exact h)
   refine⟨k+1,by omega,λm a b=>?_,by rw[show n+(k+1)=n+1+k by omega];exact h3⟩
   by_cases q:m=n
   .subst q;exact c
   .exact h2 m (by omega) (by omega)
theorem Good.next(G:Good t es)(h:Int)(hv:∀ m<n,jI t (rd t.mask h m).j):∃ k,n+k<10*turns t.mask/\(∀ m,n<=m->m<n+k->∃ i:Nat,t.place[i]?=aa (rd t.mask h m).j/\hashAt i≠h) /\
  ((¬ jI t (rd t.mask h (n+k)).j/\t.probe hashAt h (rd t.mask h n)=aa (.empty (rd t.mask h (n+k)).j ae)) \/
   ∃ i:Nat,t.place[i]?=aa (rd t.mask h (n+k)).j/\hashAt i=h/\t.probe hashAt h (rd t.mask h n)=aa (.candidate (rd t.mask h (n+k)).j i (rd t.mask h (n+k+1)))):=by
 obtain⟨e,he,cb⟩:=G.empty;obtain⟨N,hN,eN⟩:=WQ G.small h he;have hnN:n<=N:=by
  rcases CW N n with c|c
  .exact absurd (eN ▸ hv N c) cb
  .exact c
 obtain⟨d,rfl⟩:=Nat.exists_eq_add_of_le hnN;obtain⟨k,hk,h1,h2⟩:=Bn (λm=>¬ jI t (rd t.mask h m).j\/∃ i:Nat,t.place[i]?=aa (rd t.mask h m).j/\hashAt i=h) d n (.inl (by rw[eN];exact cb))
 have hm:∀ m,n<=m->m<n+k->∃ i:Nat,t.place[i]?=aa (rd t.mask h m).j/\hashAt i≠h:=λm a b=>by
  have q:=h1 m a b;obtain⟨i,ei⟩:=II λz=>q (.inl z)
  exact⟨i,ei,λz=>q (.inr ⟨i,ei,z⟩)⟩
 refine⟨k,by omega,hm,?_⟩
 rcases h2 with h2|⟨i,ei,hi⟩
 .exact .inl ⟨h2,XC G.nod G.ris k n _ (by omega) hm h2⟩
 .exact .inr ⟨i,ei,hi,Fz G.nod G.ris hi k n _ (by omega) hm ei⟩
end
theorem UC (mask:Nat)(h:Int):∀ n,(rd mask h n).j+(rd mask h n).more<=mask
 |0=>by
  show bits h%(mask+1)+(runEnd mask (bits h%(mask+1))-bits h%(mask+1))<=mask;have:=sV (bits h) (show 0<mask+1 by omega)
  unfold runEnd;split<;>omega
 |n+1=>by
  have ih:=UC mask h n;show(sr mask (rd mask h n)).j+(sr mask (rd mask h n)).more<=mask;unfold sr;split
  .show(rd mask h n).j+1+((rd mask h n).more-1)<=mask;omega
  .show(leap mask (rd mask h n).i (rd mask h n).perturb).1+(runEnd mask (leap mask (rd mask h n).i (rd mask h n).perturb).1-(leap mask (rd mask h n).i (rd mask h n).perturb).1)<=mask;have:(leap mask (rd mask h n).i (rd mask h n).perturb).1<mask+1:=sV _ (by omega)
   unfold runEnd;split<;>omega
theorem Kj (mask:Nat)(h:Int)(n:Nat):(rd mask h n).j<=mask:=by
 have:=UC mask h n;omega
theorem wR {α:Type}(xs:Array α){p:Nat}(hp:p<=xs.size)(x:α)(k:Nat):(insertAt xs p x)[k]?=if k<p then xs[k]? else if k=p then aa x else xs[k-1]?:=by
 rw[<-oA,toList_insertAt];by_cases c:k<p
 .rw[if_pos c,IC (by rw[rO,fZ];omega),K6 c,oA]
 .rw[if_neg c,RJ (by rw[rO,fZ];omega),rO,fZ,Hk hp]
  by_cases d:k=p
  .subst d;simp
  .rw[if_neg d];obtain⟨r,rfl⟩:∃ r,k=p+1+r:=⟨k-p-1,by omega⟩
   rw[show p+1+r-p=r+1 by omega,Ia,Hz,oA,show p+1+r-1=p+r by omega]
theorem Rn {xs:Array Nat}(hr:mW xs)(hj:∀ i:Nat,xs[i]?≠aa j):mW (insertAt xs (below xs j) j):=by
 obtain⟨h1,h2,h3⟩:=GM hr j;intro a b u v qp ea eb;rw[wR xs h1] at ea eb;have lt_of:∀ k w,below xs j<=k->xs[k]?=aa w->j<w:=λk w hk e=>by
  have a:=h3 k hk w e;rcases CW j w with c|c
  .exact c
  .have:w=j:=by omega
   rw[20];exact absurd e (hj k)
 split at ea
 .split at eb
  .exact hr a b u v qp ea eb
  .split at eb
   .cases eb;exact h2 a (by omega) u ea
   .exact yI (h2 a (by omega) u ea) (lt_of _ v (by omega) eb)
 .split at ea
  .cases ea;rw[if_neg (by omega),if_neg (by omega)] at eb
   exact lt_of _ v (by omega) eb
  .rw[if_neg (by omega),if_neg (by omega)] at eb
   exact hr (a-1) (b-1) u v (by omega) ea eb
theorem FV {α:Type}(xs:Array α)(p:Nat)(x:α):(insertAt xs p x).size=xs.size+1:=by
 rw[<-fZ,(insertAt_perm xs p x).length_eq,fZ,Array.size_push]
theorem Mi {t:dZ}(hd:t.dummies = #[])(j:Nat):t.put j=({ t with place:=insertAt t.place (below t.place j) j },below t.place j):=by
 unfold put;rw[hd,KQ];cases t;simp at hd;subst hd
 rfl
theorem Good.put {t:dZ}(G:Good t es){h:Int}{x:aE}(hv:∀ m<n,jI t (rd t.mask h m).j)(hn:¬ jI t (rd t.mask h n).j)  (t3:es.size<t.mask)(pl:Bool) :
  Good { t with place:=insertAt t.place (below t.place (rd t.mask h n).j) (rd t.mask h n).j,plain:=pl } (insertAt es (below t.place (rd t.mask h n).j) (h,x)):=by
 have hb:=(GM G.ris (rd t.mask h n).j).1;have xu:below t.place (rd t.mask h n).j<=es.size:=by rw[<-G.len];exact hb
 have mono:∀ j,jI t j->∃ i:Nat,(insertAt t.place (below t.place (rd t.mask h n).j) (rd t.mask h n).j)[i]?=aa j:=λj gh=>by
  obtain⟨i,e⟩:=gh;by_cases c:i<below t.place (rd t.mask h n).j
  .exact⟨i,by rw[wR _ hb,if_pos c];exact e⟩
  .exact⟨i+1,by rw[wR _ hb,if_neg (by omega),if_neg (by omega)];exact e⟩
 refine⟨G.small,G.nod,Rn G.ris (YH hn),?_,λi j e=>?_,?_,λi j e ei ee=>?_⟩
 .rw[FV,FV,G.len]
 .have e':=e;rw[wR _ hb] at e';split at e'
  .exact G.inb i j e'
  .split at e'
   .cases e';exact Kj _ _ _
   .exact G.inb _ j e'
 .rw[FV];exact t3
 .have qq:=ei;rw[wR _ hb] at qq;rw[wR _ xu] at ee;by_cases c:i<below t.place (rd t.mask h n).j
  .rw[if_pos c] at qq ee;obtain⟨m,h1,h2⟩:=G.reach i j e qq ee;exact⟨m,h1,λq hq=>mono _ (h2 q hq)⟩
  .rw[if_neg c] at qq ee;by_cases d:i=below t.place (rd t.mask h n).j
   .rw[if_pos d] at qq ee;cases qq;cases ee;exact⟨n,rfl,λq hq=>mono _ (hv q hq)⟩
   .rw[if_neg d] at qq ee;obtain⟨m,h1,h2⟩:=G.reach _ j e qq ee;exact⟨m,h1,λq hq=>mono _ (h2 q hq)⟩
structure Own (mask:Nat)(hs:List Int)(ow:Array (Option Nat)):Prop where
 size:ow.size=mask+1
 lt:∀ j i:Nat,ow[j]?=aa (aa i)->i<hs.length
 inj:∀ j j' i:Nat,ow[j]?=aa (aa i)->ow[j']?=aa (aa i)->j=j'
 all:∀ i<hs.length,∃ j:Nat,ow[j]?=aa (aa i)
 reach:∀ (j i:Nat) (h:Int),ow[j]?=aa (aa i)->hs[i]?=aa h->∃ n,(rd mask h n).j=j/\∀ m<n,∃ i':Nat,ow[(rd mask h m).j]?=aa (aa i')
theorem AM(hj:j<ow.size):ow[j]?=aa ae\/∃ i,ow[j]?=aa (aa i):=by
 rw[kY hj];cases ow[j] with
 |none=>exact .inl rfl
 |some i=>exact .inr ⟨i,rfl⟩
theorem Own.free{hs:List Int}(O:Own mask hs ow)(hl:hs.length<=mask):∃ e,e<=mask/\ow[e]?=aa ae:=by
 apply II;intro hn;have cz:∀ j≤mask,∃ i:Nat,ow[j]?=aa (aa i):=λj hj=>by
  rcases AM (ow:=ow) (j:=j) (by rw[O.size];omega) with c|c
  .exact absurd ⟨j,hj,c⟩ hn
  .exact c
 have nk:((bY (mask+1)).map λj=>((ow[j]?).join).getD 0).Nodup:=by
  unfold List.Nodup;rw[yL];refine Il ?_ List.pairwise_lt_range;intro a b ha hb qp e;obtain⟨i,ei⟩:=cz a (by have:=gM.1 ha;omega)
  obtain⟨i',qq⟩:=cz b (by have:=gM.1 hb;omega)
  rw[ei,qq] at e;have:i=i':=by simpa using e
  rw[20];have:=O.inj a b i ei qq;omega
 have:=IF nk (λv m=>by
  obtain⟨j,hj,rfl⟩:=bI.1 m;obtain⟨i,ei⟩:=cz j (by have:=gM.1 hj;omega)
  rw[ei];exact gM.2 (O.lt j i ei))
 simp at this;omega
theorem XT (mask i bz:Nat):∀ m,lp mask (i,bz) (m+1)=lp mask (leap mask i bz) m
 |0=>rfl
 |m+1=>by
  show leap mask (lp mask (i,bz) (m+1)).1 (lp mask (i,bz) (m+1)).2=_;rw[XT mask i bz m]
  rfl
theorem YV(hz:ow.size=mask+1):∀ (fuel i bz m:Nat),i<=mask->m<fuel->ow[(lp mask (i,bz) m).1]?=aa ae ->
  ∃ n,layClean.free mask ow fuel i bz=aa (pN mask (ui mask i bz) n).j/\ow[(pN mask (ui mask i bz) n).j]?=aa ae/\∀ q<n,∃ i':Nat,ow[(pN mask (ui mask i bz) q).j]?=aa (aa i')
 |0,_,_,_,_,h,_=>absurd h (by omega)
 |fuel+1,i,bz,m,hi,hm,he=>by
  have hrun:runEnd mask i<=mask/\i<=runEnd mask i:=by unfold runEnd;split<;>omega
  have X0:∀ k,k<=runEnd mask i-i->(pN mask (ui mask i bz) k).j=i+k:=λk hk=>by rw[KL mask i bz k hk]
  have hg:∀ k,k<=runEnd mask i-i->((ow.getD (i+k) (aa 0)).isNone=af↔ow[i+k]?=aa ae):=λk hk=>by
   rw[SG];rcases AM (ow:=ow) (j:=i+k) (by omega) with c|⟨x,c⟩<;>rw[c]<;>simp
  unfold layClean.free;cases ef:(bY (runEnd mask i+1-i)).find? λk=>(ow.getD (i+k) (aa 0)).isNone with
  |some k=>
   obtain⟨h1,h2,h3⟩:=List.find?_range_eq_some.1 ef;have hk:k<=runEnd mask i-i:=by have:=gM.1 h2;omega
   refine⟨k,by rw[X0 k hk],by rw[X0 k hk];exact(hg k hk).1 h1,λq hq=>?_⟩
   rw[X0 q (by omega)]
   rcases AM (ow:=ow) (j:=i+q) (by omega) with c|c
   .have:=h3 q hq;rw[(hg q (by omega)).2 c] at this
    exact absurd this (by decide)
   .exact c
  |none=>
   have h3:=List.find?_range_eq_none.1 ef;have cz:∀ k,k<=runEnd mask i-i->∃ i':Nat,ow[i+k]?=aa (aa i'):=λk hk=>by
    rcases AM (ow:=ow) (j:=i+k) (by omega) with c|c
    .have:=h3 k (by omega)
     rw[(hg k hk).2 c] at this;exact absurd this (by decide)
    .exact c
   cases m with
   |zero=>
    obtain⟨i',e'⟩:=cz 0 (by omega)
    have he':ow[i]?=aa ae:=he;rw[Nat.add_zero,he'] at e';cases e'
   |succ m=>
    rw[XT] at he;have yw:(leap mask i bz).1<=mask:=by
     have:(leap mask i bz).1<mask+1:=sV _ (by omega)
     omega
    obtain⟨n,e1,e2,e3⟩:=YV hz fuel (leap mask i bz).1 (leap mask i bz).2 m yw (by omega) he
    have hp:∀ q,pN mask (ui mask i bz) (runEnd mask i-i+1+q)=pN mask (ui mask (leap mask i bz).1 (leap mask i bz).2) q:=λq=>by
     rw[<-OP,WW]
    refine⟨runEnd mask i-i+1+n,?_,by rw[hp];exact e2,λq hq=>?_⟩
    .rw[hp];exact e1
    .by_cases c:q<=runEnd mask i-i
     .rw[X0 q c];exact cz q c
     .obtain⟨r,rfl⟩:∃ r,q=runEnd mask i-i+1+r:=⟨q-(runEnd mask i-i+1),by omega⟩
      rw[hp];exact e3 r (by omega)
theorem Own.add(hm:pP mask){hs:List Int}(O:Own mask hs ow)(hl:hs.length<=mask)(h:Int) :
  ∃ j,layClean.free mask ow (turns mask) (bits h%(mask+1)) (bits h)=aa j/\Own mask (hs++[h]) (ow.setIfInBounds j (aa hs.length)):=by
 obtain⟨e,he,cb⟩:=O.free hl;obtain⟨m,h1,h2⟩:=WB hm (Dv h) he;have hi:bits h%(mask+1)<=mask:=by
  have:=sV (bits h) (show 0<mask+1 by omega)
  omega
 obtain⟨n,e1,e2,e3⟩:=YV O.size (turns mask) (bits h%(mask+1)) (bits h) m hi (by unfold turns;omega) (by rw[h2];exact cb)
 have qj:ow[(rd mask h n).j]?=aa ae:=e2;have hjs:(rd mask h n).j<ow.size:=(vK.1 qj).1;have get:∀ k:Nat,(ow.setIfInBounds (rd mask h n).j (aa hs.length))[k]?=if (rd mask h n).j=k then aa (aa hs.length) else ow[k]?:=λk=>by
  rw[Array.getElem?_setIfInBounds];by_cases c:(rd mask h n).j=k
  .subst c;simp[hjs]
  .rw[if_neg c,if_neg c]
 have mono:∀ k i:Nat,ow[k]?=aa (aa i)->(ow.setIfInBounds (rd mask h n).j (aa hs.length))[k]?=aa (aa i):=λk i q=>by
  rw[get,if_neg (by rintro rfl;rw[qj] at q;cases q)]
  exact q
 refine⟨_,e1,by simpa using O.size,λj i q=>?_,λj j' i q q'=>?_,λi hi=>?_,λj i x q qx=>?_⟩
 .have q:(ow.setIfInBounds (rd mask h n).j (aa hs.length))[j]?=aa (aa i):=q;rw[get] at q;rw[mU,RG];split at q
  .cases q;omega
  .have:=O.lt j i q;omega
 .have q:(ow.setIfInBounds (rd mask h n).j (aa hs.length))[j]?=aa (aa i):=q;have q':(ow.setIfInBounds (rd mask h n).j (aa hs.length))[j']?=aa (aa i):=q';rw[get] at q q';split at q
  .split at q'
   .omega
   .cases q;have:=O.lt j' _ q';omega
  .split at q'
   .cases q';have:=O.lt j _ q;omega
   .exact O.inj j j' i q q'
 .rw[mU,RG] at hi;by_cases c:i=hs.length
  .exact⟨(rd mask h n).j,by show(ow.setIfInBounds (rd mask h n).j (aa hs.length))[(rd mask h n).j]?=_;rw[get,if_pos rfl,c]⟩
  .obtain⟨j,q⟩:=O.all i (by omega)
   exact⟨j,mono j i q⟩
 .have q:(ow.setIfInBounds (rd mask h n).j (aa hs.length))[j]?=aa (aa i):=q;rw[get] at q;split at q
  .rename_i hj;cases q;rw[RJ (bE _)] at qx;have:h=x:=by simpa using qx
   rw[20];refine⟨n,hj,λq hq=>?_⟩
   obtain⟨i',w⟩:=e3 q hq;exact⟨i',mono _ i' w⟩
  .have cf:=O.lt j i q;rw[IC cf] at qx;obtain⟨n',a,b⟩:=O.reach j i x q qx;refine⟨n',a,λr hr=>?_⟩
   obtain⟨i',w⟩:=b r hr;exact⟨i',mono _ i' w⟩
theorem VZ(hm:pP mask):∀ (rest hs:List Int) (ow:Array (Option Nat)),Own mask hs ow->hs.length+rest.length<=mask+1 ->
  ∃ X1,rest.foldl (λaj h=>do
   let (owner,k) <-aj
   let j <-layClean.free mask owner (turns mask) (bits h%(mask+1)) (bits h)
   pure (owner.setIfInBounds j (aa k),k+1)) (aa (ow,hs.length))=aa (X1,(hs++rest).length)/\Own mask (hs++rest) X1
 |[],hs,ow,O,_=>⟨ow,by simp,by simpa using O⟩
 |h::r,hs,ow,O,hl=>by
  rw[fY] at hl;obtain⟨j,e,O'⟩:=O.add hm (by omega) h
  obtain⟨X1,e2,O2⟩:=VZ hm r (hs++[h]) _ O' (by rw[mU,RG];omega)
  refine⟨X1,?_,by simpa using O2⟩
  rw[jQ];have:(do
   let (owner,k) <-aa (ow,hs.length)
   let j <-layClean.free mask owner (turns mask) (bits h%(mask+1)) (bits h)
   pure (owner.setIfInBounds j (aa k),k+1))=aa (ow.setIfInBounds j (aa hs.length),(hs++[h]).length):=by
   show((layClean.free mask ow (turns mask) (bits h%(mask+1)) (bits h)).bind λj=>aa (ow.setIfInBounds j (aa hs.length),hs.length+1))=_
   rw[e];simp
  rw[this,e2];simp
theorem Qy (mask:Nat):Own mask [] (Array.replicate (mask+1) ae):=by
 have hn:∀ j i:Nat,(Array.replicate (mask+1) (ae:Option Nat))[j]?≠aa (aa i):=λj i q=>by
  rw[Array.getElem?_replicate] at q;split at q<;>cases q
 exact⟨by simp,λj i q=>absurd q (hn j i),λj _ i q=>absurd q (hn j i),λi hi=>absurd hi (by simp),λj i _ q=>absurd q (hn j i)⟩
theorem v7(hm:pP mask)(hs:Array Int)(hl:hs.size<=mask+1):∃ ow,layClean mask hs=aa ow/\Own mask hs.toList ow:=by
 obtain⟨ow,e,O⟩:=VZ hm hs.toList [] _ (Qy mask) (by simpa using hl)
 refine⟨ow,?_,by simpa using O⟩
 unfold layClean;rw[<-Array.foldl_toList];have e':=congrArg (Option.map (·.1)) e;exact e'
theorem PP {α β:Type}{f:α->Option β}:∀ (l:List α),(∀ k∈l,(f k).isSome=af)->∀ i:Nat,(l.filterMap f)[i]?=(l[i]?).bind f
 |[],_,i=>by simp
 |a::r,h,i=>by
  obtain⟨b,e⟩:=yH.1 (h a bF);rw[List.filterMap_cons_some e];cases i with
  |zero=>simp[e]
  |succ i=>
   rw[Ia,Ia];exact PP r (λk m=>h k (bL _ m)) i
def iO (mask:Nat)(ow:Array (Option Nat)):List (Nat×Nat):=(bY (mask+1)).filterMap λj=>(ow.getD j ae).map (j,·)
theorem oK(hz:ow.size=mask+1):(j,i)∈iO mask ow↔ow[j]?=aa (aa i):=by
 unfold iO;rw[sX];constructor
 .rintro⟨j',hj,e⟩;obtain⟨i',e1,e2⟩:=kF.1 e;have e3:=congrArg Prod.fst e2;have e4:=congrArg Prod.snd e2;subst e3;subst e4;have cf:j'<ow.size:=by have:=gM.1 hj;omega
  rw[SG] at e1;rcases AM cf with c|⟨x,c⟩
  .rw[c] at e1;cases e1
  .rw[c] at e1;cases e1;exact c
 .intro e;have cf:=(vK.1 e).1;exact⟨j,gM.2 (by omega),by rw[SG,e];rfl⟩
theorem MN (mask:Nat)(ow:Array (Option Nat)):(iO mask ow).Pairwise (λa b=>a.1<b.1):=by
 unfold iO;rw[List.pairwise_filterMap];refine List.Pairwise.imp ?_ List.pairwise_lt_range;intro a b qp x hx y hy;obtain⟨_,_,rfl⟩:=kF.1 hx;obtain⟨_,_,rfl⟩:=kF.1 hy;exact qp
theorem E1(hm:pP mask)(es:Array (Int×aE))(hl:es.size<=mask)(fg mv:Nat)(led pl:Bool) :
  ∃ t' jf,laid mask fg mv led pl (es.map (·.1))=aa (t',jf)/\Good t' (jf.filterMap (es[·]?))/\(jf.filterMap (es[·]?)).toList.Perm es.toList/\t'.mask=mask/\t'.led=led/\t'.plain=pl/\t'.dummies = #[]:=by
 obtain⟨ow,e,O⟩:=v7 hm (es.map (·.1)) (by rw[Array.size_map];omega)
 have hz:=O.size;have ay:(es.map (·.1)).toList.length=es.size:=by simp
 refine⟨{ mask,place:=((iO mask ow).map (·.1)).toArray,dummies:=#[],finger:=fg,led,moves:=mv,plain:=pl },((iO mask ow).map (·.2)).toArray,?_,?_,?_,rfl,rfl,rfl,rfl⟩
 .unfold laid;rw[e]
  rfl
 .have yx:∀ k∈(iO mask ow).map (·.2),(es[k]?).isSome=af:=λk m=>by
   obtain⟨⟨j,i⟩,mm,rfl⟩:=bI.1 m;have:=O.lt j i ((oK hz).1 mm);rw[ay] at this;rw[kY this]
   rfl
  have hget:∀ i:Nat,((((iO mask ow).map (·.2)).toArray).filterMap (es[·]?))[i]?=(((iO mask ow)[i]?).bind λp=>es[p.2]?):=λi=>by
   rw[<-oA,SD,PP _ yx,eW];cases(iO mask ow)[i]?<;>rfl
  have ix:∀ i:Nat,(((iO mask ow).map (·.1)).toArray)[i]?=((iO mask ow)[i]?).map (·.1):=λi=>by simp
  refine⟨hm,rfl,?_,?_,?_,?_,?_⟩
  .intro a b u v qp ea eb;have ea:=ea;have eb:=eb;rw[ix] at ea eb;obtain⟨x,hx,rfl⟩:=kF.1 ea;obtain⟨y,hy,rfl⟩:=kF.1 eb;obtain⟨ha,rfl⟩:=cT.1 hx;obtain⟨hb,rfl⟩:=cT.1 hy;exact RD.1 (MN mask ow) a b ha hb qp
  .have:(List.filterMap (es[·]?) ((iO mask ow).map (·.2))).length=((iO mask ow).map (·.2)).length:=by
    rw[List.length_filterMap_eq_countP,List.countP_eq_length];exact yx
   rw[<-fZ (xs:=Array.filterMap _ _),SD,this];simp
  .intro i j q;have q:=q;rw[ix] at q;obtain⟨⟨j',i'⟩,hx,rfl⟩:=kF.1 q;have:=(oK hz).1 (fH hx);have:=(vK.1 this).1;show j'<=mask;omega
  .have nk:((iO mask ow).map (·.2)).Nodup:=by
    unfold List.Nodup;rw[yL];refine Il ?_ (MN mask ow);rintro⟨a,i⟩ ⟨b,i'⟩ ma mb qp e';have e':=e';subst e';have:=O.inj a b i ((oK hz).1 ma) ((oK hz).1 mb);have qp:=qp;omega
   have:=IF nk (λv m=>by
    obtain⟨⟨j,i⟩,mm,rfl⟩:=bI.1 m;have:=O.lt j i ((oK hz).1 mm);rw[ay] at this;exact gM.2 this)
   have h2:((((iO mask ow).map (·.2)).toArray).filterMap (es[·]?)).size<=((iO mask ow).map (·.2)).length:=by
    rw[<-fZ,SD];exact DB _ _
   rw[CZ] at this;show _<=mask;omega
  .intro i j x q qx;have q:=q;rw[ix] at q;obtain⟨⟨j',k⟩,hx,rfl⟩:=kF.1 q;rw[hget,hx,bS] at qx;have hw:=(oK hz).1 (fH hx);have hk:(es.map (·.1)).toList[k]?=aa x.1:=by
    have qx:=qx;rw[oA,Array.getElem?_map,qx]
    rfl
   obtain⟨n,a,b⟩:=O.reach j' k x.1 hw hk;refine⟨n,a,λm vz=>?_⟩
   obtain⟨i',w⟩:=b m vz;obtain⟨r,hr,er⟩:=Hu.1 ((oK hz).2 w);refine⟨r,?_⟩;rw[ix,fA hr,er]
   rfl
 .rw[SD];have nk:((iO mask ow).map (·.2)).Nodup:=by
   unfold List.Nodup;rw[yL];refine Il ?_ (MN mask ow);rintro⟨a,i⟩ ⟨b,i'⟩ ma mb qp e';have e':=e';subst e';have:=O.inj a b i ((oK hz).1 ma) ((oK hz).1 mb);have qp:=qp;omega
  have hp:((iO mask ow).map (·.2)).Perm (bY es.size):=by
   rw[K3 nk Hr];intro v;constructor
   .intro m;obtain⟨⟨j,i⟩,mm,rfl⟩:=bI.1 m;have:=O.lt j i ((oK hz).1 mm);rw[ay] at this;exact gM.2 this
   .intro m;obtain⟨j,q⟩:=O.all v (by rw[ay];exact gM.1 m)
    exact bI.2 ⟨(j,v),(oK hz).2 q,rfl⟩
  exact(hp.filterMap _).trans (by rw[filterMap_getElem?_range])
structure Fine (t:dZ)(es:Array (Int×aE)):Prop where
 good:Good t es
 few:es.size*5<t.mask*3/\es.size<=4914
theorem Fine.fits {t:dZ}(F:Fine t es):t.fits es.size=af:=by
 have h1:=F.good.len;have h2:=F.good.nod;have h3:=F.good.room;simp[SetTable.fits,QP,h1,h2,h3]
theorem Fine.odd {t:dZ}(F:Fine t es):t.gaveWay=ag:=by
 rcases F.good.small with e|e|e|e|e|e<;>simp[SetTable.gaveWay,e]
theorem Xm (led:Bool):Fine (HM 0 0 led) #[]:=
 ⟨⟨.inl rfl,rfl,λa b u v _ h=>by simp[HM] at h,rfl,λi j h=>by simp[HM] at h,by simp,λi j e h=>by simp[HM] at h⟩,by simp[HM]⟩
theorem C1 {t:dZ}(hs:pP t.mask)(h1:(n-1)*5<t.mask*3)(h0:0<n)(hf:t.mask*3<=n*5)(hn:n<=4914):∃ M,pP M/\n*5<M*3/\SetTable.sizeAbove (SetTable.grown n)=M+1:=by
 rcases hs with e|e|e|e|e|e<;>rw[e] at h1 hf
 .have h5:n=5:=by omega
  exact⟨31,.inr (.inl rfl),by omega,by rw[h5];decide⟩
 .have h5:n=19:=by omega
  exact⟨127,.inr (.inr (.inl rfl)),by omega,by rw[h5];decide⟩
 .have h5:n=77:=by omega
  exact⟨511,.inr (.inr (.inr (.inl rfl))),by omega,by rw[h5];decide⟩
 .have h5:n=307:=by omega
  exact⟨2047,.inr (.inr (.inr (.inr (.inl rfl)))),by omega,by rw[h5];decide⟩
 .have h5:n=1229:=by omega
  exact⟨8191,.inr (.inr (.inr (.inr (.inr rfl)))),by omega,by rw[h5];decide⟩
 .omega
open PySem PySem.Spec PyProof.Rows PySem.SetTable
def fD (w:bB):Bool:=w.params.followText "set-order"
abbrev Ao4 (led:Bool):aZ:={ cls:=.type "set",dict:=ae,data:=.set #[] 0 (.fresh 0 0 led) }
theorem i5(v:aE){Q₁:aE->aH->Prop}(h:Q₁ (.ref s.heap.objs.size) { s with heap:=s.heap.push (Ao4 (!fD w)) }) :
  nQ (aO prog w) A (.call (.builtin "set.__new__") ⟨[.type "set",v],[]⟩) (wants Q₁ E) s:=by
 refine codeAny_of_tree (show aM _ A.in1 (do checkBuiltinCall "set.__new__" ⟨[.type "set",v],[]⟩;again (.builtin "set.__new__" ⟨[.type "set",v],[]⟩)) _ _ s from ?_)
 refine aG (yB (F.newCall_set_1 v) (aN ⟨nP F.plain_set_new _,lM F.entry_set_new ?_⟩));rw[oB F.plain_set_new _];unfold Builtin.«set.__new__» Builtin.Frozenset.newClass;have sub1:=sub_set_self;obtain⟨hp,g,d,tk,os⟩:=s;rw[24]
 wp_walk
 refine CK (aN ?_);rw[24];simp only[newObj];exact aG (wpAny_alloc (aN (aN h)))
structure WSet (w:bB)(h:aQ)(a:aD)(o:aZ)(es:Array (Int×aE))(ep:Nat)(t:dZ):Prop where
 get:h.get? a=aa o
 exact:o.ExactSet
 data:o.data=.set es ep t
 fine:Fine t es
 led:t.led=!fD w
mutual
theorem MY:∀ (d:aA) (n:Nat) {A:cB} {E:aE->aH->Prop} {s:aH} {v:aE} {as:List aD} {Q:Bool->aH->Prop},d.depth<=n->bG d=af->mR s.heap v d as ->
  Q ag s->aM (aO prog w) A (HI n v) Q E s
 |.int i,n,A,E,s,v,as,Q,hu,hk,r,h=>by
  cases r with
  |int _ t=>
   unfold HI;exact aN h
 |.str x,n,A,E,s,v,as,Q,hu,hk,r,h=>by
  cases r with
  |str _ t=>
   unfold HI;exact aN h
 |.tuple ks,n,A,E,s,v,as,Q,hu,hk,r,h=>by
  obtain⟨a,o,ai,m,rfl,ho,hc,hd,hi⟩:=pO r;have hT:s.TypeIs (.ref a) "tuple":=⟨o,ho,hc⟩;have qu:cL ks+1<=n:=by simpa [jP] using hu
  obtain⟨n,rfl⟩:∃ m,n=m+1:=⟨n-1,by omega⟩
  have fq:bR ks=af:=by simpa [bG] using hk
  unfold HI;refine aG (nN hT ?_);rw[24];rw[if_pos (by decide)]
  refine aG (aN ?_);simp only[DP,iN,if_false];refine aG (kB ho hd ?_);rw[24];rw[19];rw[<-SH];refine HG _ (λrest r s'=>r.1=ae/\s'=s/\∃ ds bs,pA s.heap rest ds bs/\∀ d∈ds,d∈ks) _ ?_ ?_ _ _ ⟨rfl,rfl,ks,as,hi,λ_ h=>h⟩
  .rintro v rest r s' ⟨hr,rfl,ds,bs,hl,cz⟩;cases hl with
   |@cons _ _ d ds Y5 ym h1 xh=>
    refine aG (Bq ks (cz d bF) n (by omega) fq h1 ?_)
    simp only[iN,if_false];exact aN ⟨rfl,rfl,ds,ym,xh,λu O5=>cz u (bL _ O5)⟩
  .rintro⟨r1,r2⟩ s' ⟨hr,rfl,_⟩;simp only at hr;subst hr;exact aN h
 |.none,n,A,E,s,v,as,Q,hu,hk,r,h=>by simp[bG] at hk
 |.bool _,n,A,E,s,v,as,Q,hu,hk,r,h=>by simp[bG] at hk
 |.list _,n,A,E,s,v,as,Q,hu,hk,r,h=>by simp[bG] at hk
 |.dict _,n,A,E,s,v,as,Q,hu,hk,r,h=>by simp[bG] at hk
theorem Bq:∀ (ks:List aA) {d:aA},d∈ks->∀ (n:Nat) {A:cB} {E:aE->aH->Prop} {s:aH} {v:aE} {as:List aD} {Q:Bool->aH->Prop},cL ks<=n->bR ks=af->mR s.heap v d as ->
  Q ag s->aM (aO prog w) A (HI n v) Q E s
 |[],_,hm,_,_,_,_,_,_,_,_,_,_,_=>by simp at hm
 |k::ks,d,hm,n,A,E,s,v,as,Q,hu,hk,r,h=>by
  have fq:bG k=af/\bR ks=af:=by simpa [bR] using hk
  have qu:max k.depth (cL ks)<=n:=by simpa [cL] using hu
  by_cases e:d=k
  .exact MY k n (by omega) fq.1 (e ▸ r) h
  .have vz:d∈ks:=by
    rcases cM.1 hm with q|q
    .exact absurd q e
    .exact q
   exact Bq ks vz n (by omega) fq.2 r h
end
mutual
theorem ZE:∀ (d:aA) (n:Nat) {A:cB} {E:aE->aH->Prop} {s:aH} {v:aE} {as:List aD} {Q:Bool->aH->Prop},d.depth<=n->bG d=af->mR s.heap v d as ->
  (∀ b,Q b s)->aM (aO prog w) A (HK n v) Q E s
 |.int i,n,A,E,s,v,as,Q,hu,hk,r,h=>by
  cases r with
  |int _ t=>
   cases n<;>(unfold HK;exact aN (h _))
 |.str x,n,A,E,s,v,as,Q,hu,hk,r,h=>by
  cases r with
  |str _ t=>
   cases n<;>(unfold HK;exact aN (h _))
 |.tuple ks,n,A,E,s,v,as,Q,hu,hk,r,h=>by
  obtain⟨a,o,ai,m,rfl,ho,hc,hd,hi⟩:=pO r;have hT:s.TypeIs (.ref a) "tuple":=⟨o,ho,hc⟩;have qu:cL ks+1<=n:=by simpa [jP] using hu
  obtain⟨n,rfl⟩:∃ m,n=m+1:=⟨n-1,by omega⟩
  have fq:bR ks=af:=by simpa [bG] using hk
  unfold HK;refine aG (xY hT IG.lookup ?_);refine aG (kB ho hd ?_);rw[19];rw[<-SH];refine HG _ (λrest r s'=>s'=s/\∃ ds bs,pA s.heap rest ds bs/\∀ d∈ds,d∈ks) _ ?_ ?_ _ _ ⟨rfl,ks,as,hi,λ_ h=>h⟩
  .rintro v rest r s' ⟨rfl,ds,bs,hl,cz⟩;cases hl with
   |@cons _ _ d ds Y5 ym h1 xh=>
    refine aG (Az ks (cz d bF) n (by omega) fq h1 λb=>?_)
    cases b
    .simp only[Bool.not_false,if_true];exact aN (aN (h _))
    .simp only[DP,iN,if_false];exact aN ⟨rfl,ds,ym,xh,λu O5=>cz u (bL _ O5)⟩
  .rintro⟨r1,r2⟩ s' ⟨rfl,_⟩;cases r1 with
   |none=>exact aN (h _)
   |some b=>exact aN (h _)
 |.none,n,A,E,s,v,as,Q,hu,hk,r,h=>by simp[bG] at hk
 |.bool _,n,A,E,s,v,as,Q,hu,hk,r,h=>by simp[bG] at hk
 |.list _,n,A,E,s,v,as,Q,hu,hk,r,h=>by simp[bG] at hk
 |.dict _,n,A,E,s,v,as,Q,hu,hk,r,h=>by simp[bG] at hk
theorem Az:∀ (ks:List aA) {d:aA},d∈ks->∀ (n:Nat) {A:cB} {E:aE->aH->Prop} {s:aH} {v:aE} {as:List aD} {Q:Bool->aH->Prop},cL ks<=n->bR ks=af->mR s.heap v d as ->
  (∀ b,Q b s)->aM (aO prog w) A (HK n v) Q E s
 |[],_,hm,_,_,_,_,_,_,_,_,_,_,_=>by simp at hm
 |k::ks,d,hm,n,A,E,s,v,as,Q,hu,hk,r,h=>by
  have fq:bG k=af/\bR ks=af:=by simpa [bR] using hk
  have qu:max k.depth (cL ks)<=n:=by simpa [cL] using hu
  by_cases e:d=k
  .exact ZE k n (by omega) fq.1 (e ▸ r) h
  .have vz:d∈ks:=by
    rcases cM.1 hm with q|q
    .exact absurd q e
    .exact q
   exact Az ks vz n (by omega) fq.2 r h
end
theorem Qr{b:aD}{ys:List aE}{Q:Bool->aH->Prop}(hk:Acb s.heap k b)(hy:∀ y∈ys,∃ k' b',y=.ref b'/\Acb s.heap k' b')(h:Q ag s) :
  aM (aO prog w) A (searchCouldBeSeen (.ref b) ys) Q E s:=by
 unfold searchCouldBeSeen;rw[19];refine HG _ (λrest r s'=>r.1=ae/\s'=s/\∀ y∈rest,∃ k' b',y=.ref b'/\Acb s.heap k' b') _ ?_ ?_ _ _ ⟨rfl,rfl,hy⟩
 .rintro v rest r s' ⟨hr,rfl,cz⟩;obtain⟨k',b',rfl,fq⟩:=cz v bF;have yy:∀ y∈rest,∃ k' b',y=.ref b'/\Acb s'.heap k' b':=λy m=>cz y (bL _ m)
  rw[24];split
  .exact aN ⟨rfl,rfl,yy⟩
  .obtain⟨a1,a2,as,ra⟩:=hk;obtain⟨b1,b2,bs,rb⟩:=fq;have ka:bG (.tuple k)=af:=by simpa [bG] using a1
   have kb:bG (.tuple k')=af:=by simpa [bG] using b1
   have da:(cV k).depth<=8:=by simp only[jP];omega
   have db:(cV k').depth<=8:=by simp only[jP];omega
   refine aG (GD (.tuple k) 8 da ka ra ?_);simp only[DP,iN,if_false];refine aG (GD (.tuple k') 8 db kb rb ?_);simp only[DP,iN,if_false];refine aG (MY (.tuple k) 8 da ka ra ?_);simp only[iN,if_false];refine aG (MY (.tuple k') 8 db kb rb ?_);simp only[iN,if_false];exact aN ⟨rfl,rfl,yy⟩
 .rintro⟨r1,r2⟩ s' ⟨hr,rfl,_⟩;simp only at hr;subst hr;exact aN h
theorem vZ {α β:Type}{R:α->β->Prop}:∀ {as:List α} {bs:List β},dR R as bs->∀ {i:Nat} {a:α},as[i]?=aa a->∃ b,bs[i]?=aa b/\R a b
 |_,_,.nil,i,a,h=>by simp at h
 |_,_,.cons h t,0,a,e=>⟨_,rfl,by simp at e;exact e ▸ h⟩
 |_,_,.cons h t,i+1,a,e=>vZ t (by simpa using e)
theorem JX {α β:Type}{R:α->β->Prop}:∀ {as:List α} {bs:List β},dR R as bs->∀ {i:Nat} {b:β},bs[i]?=aa b->∃ a,as[i]?=aa a/\R a b
 |_,_,.nil,i,a,h=>by simp at h
 |_,_,.cons h t,0,a,e=>⟨_,rfl,by simp at e;exact e ▸ h⟩
 |_,_,.cons h t,i+1,a,e=>JX t (by simpa using e)
theorem Good.met {t:dZ}{f:Nat->Int}{h:Int}{r:Option Met}(G:Good t es)(hv:∀ m<n,jI t (rd t.mask h m).j)(N5:t.probe f h (rd t.mask h n)=r)(hf:∀ (i:Nat) e,es[i]?=aa e->f i=e.1) :
  ∃ N,n<=N/\N<10*turns t.mask/\(∀ m,n<=m->m<N->∃ (i:Nat) (e:Int×aE),t.place[i]?=aa (rd t.mask h m).j/\es[i]?=aa e/\e.1≠h) /\
   ((¬ jI t (rd t.mask h N).j/\r=aa (.empty (rd t.mask h N).j ae))\/∃ (i:Nat) (e:Int×aE),t.place[i]?=aa (rd t.mask h N).j/\es[i]?=aa e/\e.1=h/\r=aa (.candidate (rd t.mask h N).j i (rd t.mask h (N+1)))):=by
 obtain⟨k,h1,h2,h3⟩:=G.next h hv;have el:∀ i j:Nat,t.place[i]?=aa j->∃ e,es[i]?=aa e:=λi j q=>by
  have:=(vK.1 q).1;rw[G.len] at this;exact⟨es[i],kY this⟩
 refine⟨n+k,by omega,h1,λm a b=>?_,?_⟩
 .obtain⟨i,e1,e2⟩:=h2 m a b;obtain⟨e,ee⟩:=el i _ e1;exact⟨i,e,e1,ee,by rw[<-hf i e ee];exact e2⟩
 .rcases h3 with⟨a,b⟩|⟨i,a,b,c⟩
  .exact .inl ⟨a,N5.symm.trans b⟩
  .obtain⟨e,ee⟩:=el i _ a;exact .inr ⟨i,e,a,ee,by rw[<-hf i e ee];exact b,N5.symm.trans c⟩
theorem Good.nope {t:dZ}{f:Nat->Int}{h:Int}(G:Good t es)(hv:∀ m<n,jI t (rd t.mask h m).j)(hn:∀ met,t.probe f h (rd t.mask h n)=aa met->False):False:=by
 obtain⟨k,_,_,h3⟩:=G.next h hv;rcases h3 with⟨_,q⟩|⟨_,_,_,q⟩
 .exact hn _ q
 .exact hn _ q
section
variable {B:List aA->aD->Prop}
def M1 (w:bB)(B:List aA->aD->Prop)(h:aQ)(e:Int×aE)(k:List aA):Prop:=∃ b,e.2=.ref b/\e.1=dF w (.tuple k)/\Acb h k b/\B k b
structure SetAt (w:bB)(B:List aA->aD->Prop)(h:aQ)(a:aD)(o:aZ)(es:Array (Int×aE))(ep:Nat)(t:dZ)(ks:List (List aA)):Prop where
 get:h.get? a=aa o
 exact:o.ExactSet
 data:o.data=.set es ep t
 fine:Fine t es
 led:t.led=!fD w
 els:dR (M1 w B h) es.toList ks
 nod:ks.Nodup
theorem ZX{b:aD}{t:dZ}{Q:SetFound->aH->Prop}
  (S:SetAt w B s.heap a o es ep t ks) (hk:Acb s.heap k b) (hu:A.units+20<cLine) (h1:k∈ks->Q (.there ae) s)
  (h2:k∉ks->∀ N,(∀ m<N,jI t (rd t.mask (dF w (.tuple k)) m).j)->¬ jI t (rd t.mask (dF w (.tuple k)) N).j->Q (.free (rd t.mask (dF w (.tuple k)) N).j ag) s) :
  ∀ fuel n uc,uc.getD (t.probeStart (dF w (.tuple k)))=rd t.mask (dF w (.tuple k)) n->(∀ m<n,∃ i:Nat,t.place[i]?=aa (rd t.mask (dF w (.tuple k)) m).j/\∀ k',ks[i]?=aa k'->k'≠k)->10*turns t.mask<fuel+n ->
   aM (aO prog w) A (setSearchFrom a (.ref b) (dF w (.tuple k)) af fuel uc) Q E s
 |0,n,uc,_,hv,hf=>by
  obtain⟨e,he,cb⟩:=S.fine.good.empty;obtain⟨N,hN,eN⟩:=WQ S.fine.good.small (dF w (.tuple k)) he;obtain⟨i,q,_⟩:=hv N (by omega)
  exact absurd ⟨i,eN ▸ q⟩ cb
 |fuel+1,n,uc,jy,hv,hf=>by
  have G:=S.fine.good;have N0:∀ m<n,jI t (rd t.mask (dF w (.tuple k)) m).j:=λm hm=>by
   obtain⟨i,q,_⟩:=hv m hm;exact⟨i,q⟩
  have yz:∀ (i:Nat) (e:Int×aE),es[i]?=aa e->∃ k',ks[i]?=aa k'/\M1 w B s.heap e k':=λi e q=>vZ S.els (by rw[oA];exact q)
  unfold setSearchFrom;rw[9];rw[S.fine.odd];simp only[iN,if_false];rw[jy];split
  .rename_i met N5;obtain⟨N,hnN,hN,hm,hc⟩:=G.met N0 N5 (λi e he=>by
    show(es[i]?.map (·.1)).getD 0=e.1;rw[he]
    rfl)
   have R0:∀ m<N,jI t (rd t.mask (dF w (.tuple k)) m).j:=λm hmN=>by
    rcases CW m n with c|c
    .exact N0 m c
    .obtain⟨i,e,q,_⟩:=hm m c hmN;exact⟨i,q⟩
   rcases hc with⟨cb,hr⟩|⟨i,e,hp,zy,hh,hr⟩
   .cases hr;rw[24];have hnk:k∉ks:=λmem=>by
     obtain⟨i,hi,ei⟩:=Hu.1 mem;have qq:ks[i]?=aa k:=by rw[fA hi,ei]
     obtain⟨e,q,b',_,hh,_⟩:=JX S.els qq;rw[oA] at q;have hi2:=(vK.1 q).1;have hi3:i<t.place.size:=by rw[G.len];exact hi2
     have ix:=kY hi3;obtain⟨M,hM,hMl⟩:=G.reach i _ e ix q;rw[hh] at hM hMl;rcases CV N M with c|c|c
     .exact cb (hMl N c)
     .subst c;exact cb ⟨i,by rw[ix,hM]⟩
     .have R3:∀ i':Nat,t.place[i']?=aa (rd t.mask (dF w (.tuple k)) M).j->i'=i:=λi' q'=>by
       rw[hM] at q';rcases CV i' i with z|z|z
       .have:=G.ris _ _ _ _ z q' ix;omega
       .exact z
       .have:=G.ris _ _ _ _ z ix q';omega
      rcases CW M n with z|z
      .obtain⟨i',q',wt⟩:=hv M z;have:=R3 i' q';rw[20];exact wt k qq rfl
      .obtain⟨i',e',q',qe,wt⟩:=hm M z c;have:=R3 i' q';rw[20];rw[q] at qe;cases qe;exact wt hh
    exact aN (h2 hnk N R0 cb)
   .cases hr;rw[24];obtain⟨k',fq,b',eb,eh,qv,_⟩:=yz i e zy;have R4:∀ y∈((es.filter (·.1==dF w (.tuple k))).toList.map (·.2)),∃ k' b',y=.ref b'/\Acb s.heap k' b':=λy my=>by
     obtain⟨e',me,rfl⟩:=bI.1 my;rw[Array.toList_filter] at me;obtain⟨q1,_⟩:=pC.1 me;obtain⟨i',yr,qq⟩:=Hu.1 q1;obtain⟨k2,_,b2,z1,_,z2,_⟩:=vZ S.els (by rw[fA yr,qq])
     exact⟨k2,b2,z1,z2⟩
    obtain⟨eh0,ey⟩:=e;have eb:=eb;have hh:=hh;subst eb;have R5:k'≠k->aM (aO prog w) A (setSearchFrom a (.ref b) (dF w (.tuple k)) af fuel (aa (rd t.mask (dF w (.tuple k)) (N+1)))) Q E s:=λcb=>by
     refine ZX S hk hu h1 h2 fuel (N+1) _ rfl (λm hmN=>?_) (by omega)
     rcases CW m n with c|c
     .exact hv m c
     .rcases CW m N with c2|c2
      .obtain⟨i',e',q',qe,wt⟩:=hm m c c2;refine⟨i',q',λk2 X2 e2=>?_⟩
       obtain⟨k3,hk3,_,_,z,_⟩:=yz i' e' qe;rw[X2] at hk3;cases hk3;subst e2;exact wt z
      .have:m=N:=by omega
       rw[20];refine⟨i,hp,λk2 X2 e2=>?_⟩
       rw[fq] at X2;cases X2;exact cb e2
    have zz:t.sameMemory t.moves t.mask=aa af:=by simp[sameMemory]
    split
    case' isTrue=>refine aG (Qr hk R4 ?_);simp only[iN,if_false]
    all_goals
     rw[zy];rw[24];refine aG (hG ((jN prog w).eqBool hu qv hk ?_));rw[9];by_cases ek:k'=k
     .rw[decide_eq_true ek];simp only[IL,if_true];exact aN (h1 (by rw[<-ek];exact fH fq))
     .rw[decide_eq_false ek];simp only[Jc,iN,if_false];rw[zz];rw[24];rw[25];rw[(GI G.nod G.ris).2 hp];rw[24];rw[zy];rw[24];refine aG (wpAny_isSame_ref_self (aG (aN ?_)));rw[25];exact R5 ek
  .rename_i N5;exact(G.nope N0 N5).elim
end
section
variable {B:List aA->aD->Prop}
theorem WD{t:dZ}(ho:h.get? a=aa o)(hd:o.data=.set es ep t)(hs:nY a h h'){b:aD}(hk:Acb h k b):Acb h' k b:=
 hk.keep λc oc vs n hc _ qv=>by
  have cb:c≠a:=by
   rintro rfl;rw[ho] at hc;cases hc;rw[hd] at qv;cases qv
  exact(hs.2 c cb).trans hc
theorem qT {α β:Type}{R R':α->β->Prop}(f:∀ a b,R a b->R' a b):∀ {as:List α} {bs:List β},dR R as bs->dR R' as bs
 |_,_,.nil=>.nil
 |_,_,.cons h t=>.cons (f _ _ h) (qT f t)
theorem JV {α β:Type}{R:α->β->Prop}{as ya:List α}(p:ya.Perm as):∀ {bs:List β},dR R as bs->∃ W5,dR R ya W5/\W5.Perm bs:=by
 induction p with
 |nil=>intro bs h;exact⟨bs,h,.refl _⟩
 |cons x p ih=>
  intro bs h;cases h with
  |cons h t=>
   obtain⟨W5,h1,h2⟩:=ih t;exact⟨_,.cons h h1,h2.cons _⟩
 |swap x y l=>
  intro bs h;cases h with
  |cons h t=>
   cases t with
   |cons h' t'=>exact⟨_,.cons h' (.cons h t'),.swap _ _ _⟩
 |trans p q ih1 ih2=>
  intro bs h;obtain⟨b1,h1,h2⟩:=ih2 h;obtain⟨b2,h3,h4⟩:=ih1 h1;exact⟨b2,h3,h4.trans h2⟩
theorem UM {α β:Type}{R:α->β->Prop}{a:α}{b:β}(h:R a b):∀ {as:List α} {bs:List β},dR R as bs->dR R (as++[a]) (bs++[b])
 |_,_,.nil=>.cons h .nil
 |_,_,.cons h' t=>.cons h' (UM h t)
def SetT (w:bB)(B:List aA->aD->Prop)(h:aQ)(a:aD)(ks:List (List aA)):Prop:=∃ o es ep t ju,SetAt w B h a o es ep t ju/\ju.Perm ks
theorem Ao{t:dZ}(ho:h.get? a=aa o)(hex:o.ExactSet)(hd:o.data=.set es ep t)(jd:Array (Int×aE))(t':dZ) :
  ∃ o',(h.update a (CT jd t')).get? a=aa o'/\o'.ExactSet/\o'.data=.set jd (ep+1) t'/\nY a h (h.update a (CT jd t')):=by
 have hg:=qI (CT jd t') ho (by rw[putSet_of jd t' hd];rfl)
 rw[putSet_of jd t' hd] at hg;exact⟨_,hg,hex,rfl,yT h a _⟩
theorem Ox{b:aD}{t:dZ}{Q:Bool->aH->Prop}{fuel:Nat}
  (S:SetAt w B s.heap a o es ep t ks) (hk:Acb s.heap k b) (hB:B k b) (hu:A.units+20<cLine) (t3:es.size+1<=4914)
  (h:∀ h',nY a s.heap h'->SetT w B h' a (if k∈ks then ks else ks++[k])->Q (decide (k∉ks)) { s with heap:=h' }) :
  aM (aO prog w) A (setAddHashedIn a (.ref b) (dF w (.tuple k)) (fuel+1)) Q E s:=by
 have G:=S.fine.good;have e0:s={ s with heap:=s.heap }:=by cases s;rfl
 unfold setAddHashedIn;rw[9];have hbs:byScan (.ref b) es=ag:=by simp[byScan,Value.scannable]
 rw[hbs];simp only[iN,if_false];unfold setSearch;refine aG (ZX S hk hu (λmem=>?_) (λhn N hl cb=>?_) 100000 0 ae rfl (λm hm=>absurd hm (by omega)) (by
  rcases G.small with e|e|e|e|e|e<;>rw[e]<;>decide))
 .rw[24];refine aN ?_;have:=h s.heap (Heap.SameBut.refl a s.heap) (by rw[if_pos mem];exact⟨o,es,ep,t,ks,S,.refl _⟩)
  rw[e0,show ag=decide (k∉ks) from(decide_eq_false (λz=>z mem)).symm]
  exact this
 .rw[24];rw[9];rw[Mi G.nod];rw[24];have At:es.size<t.mask:=by
   have:=S.fine.few;rcases G.small with e|e|e|e|e|e<;>rw[e] at this ⊢<;>omega
  have tail:∀ pl:Bool,aM (aO prog w) A (do
    storeSet a (insertAt es (below t.place (rd t.mask (dF w (.tuple k)) N).j) (dF w (.tuple k),.ref b)) { t with place:=insertAt t.place (below t.place (rd t.mask (dF w (.tuple k)) N).j) (rd t.mask (dF w (.tuple k)) N).j,plain:=pl }
    if (!ag&&({ t with place:=insertAt t.place (below t.place (rd t.mask (dF w (.tuple k)) N).j) (rd t.mask (dF w (.tuple k)) N).j,plain:=pl }:dZ).tooFull)=af then do
      setRelay a (SetTable.grown (es.size+1))
      pure af
     else pure af) Q E s:=λpl=>by
   have G':=G.put (x:=.ref b) hl cb At pl;have ze:=insertAt_perm es (below t.place (rd t.mask (dF w (.tuple k)) N).j) (dF w (.tuple k),eK b);rw[Array.toList_push] at ze;have xy:=FV es (below t.place (rd t.mask (dF w (.tuple k)) N).j) (dF w (.tuple k),eK b);generalize insertAt es (below t.place (rd t.mask (dF w (.tuple k)) N).j) (dF w (.tuple k),eK b)=qr at *;generalize ht1:({ t with place:=insertAt t.place (below t.place (rd t.mask (dF w (.tuple k)) N).j) (rd t.mask (dF w (.tuple k)) N).j,plain:=pl }:dZ)=t1 at *;have hm1:t1.mask=t.mask:=by rw[<-ht1]
   have le1:t1.led=!fD w:=by rw[<-ht1];exact S.led
   obtain⟨o1,g1,x1,d1,wu⟩:=Ao S.get S.exact S.data qr t1;have els0:dR (M1 w B s.heap) (es.toList++[(dF w (.tuple k),eK b)]) (ks++[k]):=UM ⟨b,rfl,rfl,hk,hB⟩ S.els;obtain⟨ks1,R6,p1⟩:=JV ze els0;have R7:ks1.Nodup:=p1.nodup_iff.2 (vF.2 ⟨S.nod,by simp,λx hx y hy e=>hn (by rw[<-bX.1 hy,<-e];exact hx)⟩)
   have zf:∀ e k',M1 w B s.heap e k'->M1 w B (s.heap.update a (CT qr t1)) e k':=λe k' ⟨b',q1,q2,q3,q4⟩=>⟨b',q1,q2,WD S.get S.data wu q3,q4⟩
   refine aG (wpAny_storeSet_of S.get S.data ?_ (by have:sizeLine=sizeLine:=rfl;rw[lJ];omega))
   have R8:t1.fits qr.size=af:=by
    have a1:=G'.len;have a2:=G'.nod;have a3:=G'.room;simp[SetTable.fits,QP,a1,a2,a3]
   by_cases hf:t1.tooFull=af
   .rw[if_pos (by simpa using hf)]
    have a1:=G'.len;have a2:=G'.nod;have fu:=S.fine.few;have zg:t1.mask*3<=qr.size*5:=by
     simp[SetTable.tooFull,QP,a1,a2] at hf;exact hf
    obtain⟨M,hM,hM2,R9⟩:=C1 (t:=t) (n:=es.size+1) G.small (by simpa using fu.1) (by omega) (by rw[hm1,xy] at zg;exact zg) t3
    have hM3:qr.size<=M:=by
     rcases hM with e|e|e|e|e|e<;>rw[e] at hM2 ⊢<;>omega
    obtain⟨t2,jf,el,G2,p2,m2,le2,_,_⟩:=E1 (mask:=M) hM qr hM3 t1.finger (t1.movedTo M) t1.led t1.plain;have hre:t1.relaid (qr.map (·.1)) (SetTable.grown (es.size+1))=aa (t2,jf):=by
     unfold SetTable.relaid;rw[R9];exact el
    have Sc:(jf.filterMap (qr[·]?)).size=qr.size:=by
     rw[<-fZ,p2.length_eq,fZ]
    rw[19];unfold setRelay;refine aG (rD g1 d1 R8 ?_);rw[24];rw[if_neg (by rw[lJ,R9];rcases hM with e|e|e|e|e|e<;>rw[e]<;>decide),hre]
    refine aG (show aM (aO prog w) A (do
     let jd:=jf.filterMap (qr[·]?)
     if jd.size != qr.size then unsupported "internal:set-table-lost-an-element"
     pure (jd,t2)) _ E _ from ?_)
    rw[24];rw[if_neg (by rw[Sc];simp)]
    refine aN ?_;generalize jf.filterMap (qr[·]?)=X3 at *;obtain⟨o2,g2,x2,d2,X4⟩:=Ao g1 x1 d1 X3 t2;rw[24];refine wpAny_storeSet_of g1 d1 ?_ (by rw[lJ];omega)
    refine aN ?_;obtain⟨ST,els2,q2⟩:=JV p2 R6;have S6:∀ e k',M1 w B s.heap e k'->M1 w B ((s.heap.update a (CT qr t1)).update a (CT X3 t2)) e k':=λe k' z=>by
     obtain⟨b',z1,z2,z3,z4⟩:=zf e k' z;exact⟨b',z1,z2,WD g1 d1 X4 z3,z4⟩
    rw[show af=decide (k∉ks) from(decide_eq_true hn).symm]
    exact h _ (wu.trans X4) (by rw[if_neg hn];exact⟨o2,X3,ep+1+1,t2,ST,⟨g2,x2,d2,⟨G2,by rw[Sc,m2,xy];exact hM2,by omega⟩,le2.trans le1,qT (λe k'=>S6 e k') els2,q2.nodup_iff.2 R7⟩,q2.trans p1⟩)
   .rw[if_neg (by simpa using hf)]
    have few:qr.size*5<t1.mask*3/\qr.size<=4914:=by
     have a1:=G'.len;have a2:=G'.nod;refine⟨?_,by omega⟩
     simp[SetTable.tooFull,QP,a1,a2] at hf;omega
    refine aN ?_;rw[show af=decide (k∉ks) from(decide_eq_true hn).symm]
    exact h _ wu (by rw[if_neg hn];exact⟨o1,qr,ep+1,t1,ks1,⟨g1,x1,d1,⟨G',few⟩,le1,qT (λe k'=>zf e k') R6,R7⟩,p1⟩)
  obtain⟨k1,k2,as,rk⟩:=id hk;split
  .refine aG (ZE (.tuple k) 8 (by simp only[jP];omega) (by simpa [bG] using k1) rk λbb=>?_)
   cases bb
   .simp only[iN,if_false];exact tail ag
   .rw[25];exact tail t.plain
  .refine aG (aN ?_);rw[25];exact tail t.plain
end
theorem Abm.tupK{ks:List aA}(r:Abm K H (.tuple ks) v)(h1:bR ks=af)(h2:cL ks<=6):∃ a,v=.ref a/\Arc H ks a:=by
 obtain⟨a,xs,e,s,r⟩:=Aar.1 r;exact⟨a,e,h1,h2,xs,s,Aap.keys ks h1 r⟩
def jS:List aA->Option (List (List aA))
 |[]=>aa []
 |.tuple ks::r=>if bR ks=af/\cL ks<=6 then(jS r).bind λkss=>aa (ks::kss) else ae
 |_::_=>ae
def nL (aj:List (List aA))(k:List aA):List (List aA):=if k∈aj then aj else aj++[k]
def eY (kss:List (List aA)):List (List aA):=kss.foldl nL []
theorem YG:∀ {ds:List aA} {kss:List (List aA)},jS ds=aa kss->ds=kss.map cV/\∀ ks∈kss,bR ks=af/\cL ks<=6
 |[],kss,h=>by cases h;exact⟨rfl,λ_ m=>by simp at m⟩
 |.tuple ks::r,kss,h=>by
  by_cases c:bR ks=af/\cL ks<=6
  .have h':((jS r).bind λkss=>aa (ks::kss))=aa kss:=by
    have:(if bR ks=af/\cL ks<=6 then(jS r).bind λkss=>aa (ks::kss) else ae)=aa kss:=h
    rw[if_pos c] at this;exact this
   obtain⟨k2,e1,e2⟩:=ao h';cases e2;obtain⟨q1,q2⟩:=YG e1;refine⟨by rw[q1];rfl,λx m=>?_⟩
   rw[15]
   .exact c
   .exact q2 x m
  .have:(if bR ks=af/\cL ks<=6 then(jS r).bind λkss=>aa (ks::kss) else ae)=aa kss:=h
   rw[if_neg c] at this;cases this
 |.none::_,_,h=>by cases h
 |.bool _::_,_,h=>by cases h
 |.int _::_,_,h=>by cases h
 |.str _::_,_,h=>by cases h
 |.list _::_,_,h=>by cases h
 |.dict _::_,_,h=>by cases h
section
variable {B:List aA->aD->Prop}
theorem SetT.len(S:SetT w B h a ks):∃ o es ep t,h.get? a=aa o/\o.ExactSet/\o.data=.set es ep t/\t.fits es.size=af/\es.size=ks.length:=by
 obtain⟨o,es,ep,t,ju,al,p⟩:=S;refine⟨o,es,ep,t,al.get,al.exact,al.data,al.fine.fits,?_⟩;have:=nV al.els;rw[fZ] at this;rw[this,p.length_eq]
theorem SetT.keep(S:SetT w B h a ks)(k1:∀ o,h.get? a=aa o->h'.get? a=aa o)(k2:∀ b o vs n,h.get? b=aa o->o.cls=.type "tuple" -> o.data=.seq vs n->h'.get? b=aa o):SetT w B h' a ks:=by
 obtain⟨o,es,ep,t,ju,al,p⟩:=S;exact⟨o,es,ep,t,ju,⟨k1 o al.get,al.exact,al.data,al.fine,al.led,qT (λe k ⟨b,q1,q2,q3,q4⟩=>⟨b,q1,q2,q3.keep k2,q4⟩) al.els,al.nod⟩,p⟩
theorem Uw {ls:List (List aA)}(p:ks.Perm ls)(k:List aA):(if k∈ks then ks else ks++[k]).Perm (nL ls k):=by
 unfold nL;by_cases m:k∈ks
 .rw[if_pos m,if_pos (p.mem_iff.1 m)];exact p
 .rw[if_neg m,if_neg (λz=>m (p.mem_iff.2 z))]
  exact p.append_right [k]
theorem Rw{b:aD}{Q:Bool->aH->Prop}
  (S:SetT w B s.heap a ks) (hk:Acb s.heap k b) (hB:B k b) (hu:A.units+20<cLine) (t3:ks.length+1<=4914)
  (h:∀ h' c,nY a s.heap h'->SetT w B h' a (nL ks k)->Q c { s with heap:=h',toks:=s.toks+rZ (.tuple k) }) :
  aM (aO prog w) A (setAdd a (.ref b)) Q E s:=by
 obtain⟨o,es,ep,t,ju,al,p⟩:=S;unfold setAdd;refine hG (aG ((jN prog w).pyHash hu hk ?_));unfold setAddHashed;have zy:es.size=ks.length:=by
  have:=nV al.els;rw[fZ] at this;rw[this,p.length_eq]
 refine hG (Ox al hk hB hu (by omega) λh' sb S'=>h h' _ sb ?_)
 obtain⟨o',jd,xv,t',ST,Z',p'⟩:=S';exact⟨o',jd,xv,t',ST,Z',p'.trans (Uw p k)⟩
theorem F5 (aj:List (List aA))(k:List aA):aj.length<=(nL aj k).length:=by
 unfold nL;split
 .exact bE _
 .simp
theorem Bl:∀ (kss aj:List (List aA)),aj.length<=(kss.foldl nL aj).length
 |[],aj=>bE _
 |k::r,aj=>dG (F5 aj k) (Bl r (nL aj k))
theorem J3 (kss:List (List aA))(i:Nat):(eY (kss.take i)).length<=(eY kss).length:=by
 have e:eY kss=(kss.drop i).foldl nL (eY (kss.take i)):=by
  unfold eY;rw[<-yP,Hn]
 rw[e];exact Bl _ _
theorem Um{fp:List aD}{P:Nat->aE->Prop}{St:Nat->aH->Prop}
  (W:WalksS prog w A.in1 I fp wr G n P St) (hu:A.units+30<cLine) (S:aD) (W7:S∉fp) (kss:List (List aA)) (hn:(eY kss).length<=4900)
  (hT:∀ i s,St i s->∀ c∈wr,∀ o,s.heap.get? c=aa o->o.cls ≠ .type "tuple") :
  ∀ (k i:Nat) (s:aH),n-i=k->i<=n->St i s->SetT w B s.heap S (eY (kss.take i))->(∀ j v,P j v->∃ b q,v=.ref b/\kss[j]?=aa q/\Acb s.heap q b/\B q b) ->
   (∀ s',Moved (S::wr) G s s'->SetT w B s'.heap S (eY (kss.take n))->R (.ok (.ret .none)) s') ->
   nQ (aO prog w) A (.builtin "set.update.loop" ⟨[.ref S,.ref I],[]⟩) R s:=by
 have hSw:S∉wr:=λz=>W7 (W.sub _ z)
 have more:∀ b∈wr,b∈S::wr:=λb z=>bL _ z
 have ud:∀ {i s s'},St i s->Moved wr G s s'->∀ b o vs m,s.heap.get? b=aa o->o.cls=.type "tuple" -> o.data=.seq vs m->s'.heap.get? b=aa o:=λ{i s s'} st hm b o vs m q c _=>
  hm.heap b o (λz=>hT i s st b z o q c) q
 intro k;induction k with
 |zero=>
  intro i s hk hi jy hS hP hR;obtain rfl:i=n:=by omega
  refine lM F.entry_set_update_loop ?_;rw[oB Iq _];refine aG (W.done s _ _ jy λs' hm=>?_)
  exact aN (hR s' (hm.mono more) (hS.keep (λo q=>hm.heap S o hSw q) (ud jy hm)))
 |succ k ih=>
  intro i s hk hi jy hS hP hR;have cf:i<n:=by omega
  refine lM F.entry_set_update_loop ?_;rw[oB Iq _];refine aG (W.item i s _ _ cf jy λv s' Rs wp hm=>?_)
  obtain⟨b,q,rfl,hq,hd,hB⟩:=hP i v Rs;have qm:=hS.keep (λo z=>hm.heap S o hSw z) (ud jy hm)
  have ou:eY (kss.take (i+1))=nL (eY (kss.take i)) q:=by
   rw[CY,hq];simp[eY,yP]
  have ay:=dG (J3 kss i) hn;refine aG (hG (Rw qm (hd.keep (ud jy hm)) hB (by show A.units+1+20<cLine;omega) (by omega) λh' c sb S2=>?_))
  obtain⟨o2,X3,ep2,t2,g2,_,d2,_⟩:=qm.len;have kt:∀ b o vs m,s'.heap.get? b=aa o->o.cls=.type "tuple" -> o.data=.seq vs m->h'.get? b=aa o:=λb o vs m z _ z'=>by
   have cb:b≠S:=by
    rintro rfl;rw[g2] at z;cases z;rw[d2] at z';cases z'
   exact(sb.2 b cb).trans z
  refine aN ⟨nP Iq _,ih (i+1) _ (by omega) cf (W.frame _ s' _ _ wp (QZ _ _) λc hc o e=>?_) (by rw[ou];exact S2) (λj v z=>?_) λxw wq S3=>?_⟩
  .exact(sb.2 c (λz=>W7 (z ▸ hc))).trans e
  .obtain⟨b',q',e1,e2,e3,e4⟩:=hP j v z;exact⟨b',q',e1,e2,(e3.keep (ud jy hm)).keep kt,e4⟩
  .exact hR xw (Moved.trans W.gtrans ((hm.mono more).then_heap (QZ _ _) λc o hc e=>(sb.2 c (λz=>hc (z ▸ bF))).trans e) wq) S3
end
section
variable {B:List aA->aD->Prop}
theorem Wo(e:h.get? a=aa (Ao4 (!fD w))):SetT w B h a []:=
 ⟨Ao4 (!fD w),#[],0,.fresh 0 0 (!fD w),[],⟨e,⟨rfl,rfl,rfl⟩,rfl,Xm _,rfl,.nil,.nil⟩,.refl _⟩
set_option maxHeartbeats 4000000 in
theorem A9(hh:A.handled=ae)(hu:A.units+40<cLine)(hl:s.heap.IsList l ai)
  (hd:∀ (j:Nat) v,ai[j]?=aa v->∃ b q,v=.ref b/\kss[j]?=aa q/\Acb s.heap q b/\B q b) (ay:(eY kss).length<=4900) (md:kss.length=ai.size)
  (h:∀ (h':aQ) (tk:Nat),s.toks<=tk->SetT w B h' s.heap.objs.size (eY kss)->(∀ b o,b<s.heap.objs.size->s.heap.get? b=aa o->h'.get? b=aa o)->Q (.ref s.heap.objs.size) { s with heap:=h',toks:=tk }) :
  aM (aO prog w) A (call (.type "set") [.ref l]) Q E s:=by
 obtain⟨c,tl,hmro⟩:=vH.mro;have S7:=vH.made;have de:=vH.sub;refine wpAny_call (codeAny_of_tree (show aM _ _ (callAny (.type "set") _) _ _ _ from ?_))
 refine aN ⟨Code.quiet_builtin _ (by rw[0]),lM F.entry_type_call ?_⟩
 rw[Around.under_plain (weight_type_call_type "set" [.ref l] []) rfl];have z1:=vH.notType;have z2:=vH.canCreate;have z3:=F.typeCall_set_1 (.ref l)
 repeat (any_goals (first|assumption|wp_step))
 refine CM (i5 (.ref l) (E:=E) (Q₁:=λu s₁=>u=.ref s.heap.objs.size/\s₁={ s with heap:=s.heap.push (Ao4 (!fD w)) }) ⟨rfl,rfl⟩) λr s₁ hr=>?_
 match r,hr with
 |.error e,hr=>exact hr
 |.ok (.ret u),hr=>
  obtain⟨rfl,rfl⟩:=hr;generalize hled:(!fD w)=led;have gS:(s.heap.push (Ao4 led)).get? s.heap.objs.size=aa (Ao4 led):=cW _ rfl;have hT:Shared.TypeIs { s with heap:=s.heap.push (Ao4 led) } (.ref s.heap.objs.size) "set":=⟨_,gS,rfl⟩;have y1:=vH.init.lookup;have y2:=vH.init.bind (.ref s.heap.objs.size)
  repeat (any_goals (first|assumption|wp_step))
  refine CM (Gj (R:=wants (λr s₂=>r=.none/\∃ h' tk,s.toks<=tk/\s₂={ s with heap:=h',toks:=tk }/\SetT w B h' s.heap.objs.size (eY kss)/\(∀ b o,b<s.heap.objs.size->s.heap.get? b=aa o->h'.get? b=aa o)) E) vH.init.plain F.entry_set_init (check_set_init_1 hT ?_)) λr₂ s₂ ox=>?_
  .obtain⟨ol,gl,cl,nl,dl⟩:=hl;obtain⟨ocls,S8,odata,AT⟩:=ol;simp only at cl dl;subst cl;subst dl;have gl':(s.heap.push (Ao4 led)).get? l=aa { cls:=.type "list",dict:=S8,data:=.seq ai nl,slots:=AT }:=bN _ gl;have x1:=F.sub_list_set;have x2:=F.sub_list_frozenset;have x3:(kE "list" == kE "dict")=ag:=by decide
   have L1:(s.heap.push (Ao4 led)).IsList l ai:=⟨_,gl',rfl,nl,rfl⟩;unfold Builtin.«set.__init__» noKeywords Builtin.Frozenset.updateFrom;generalize hPI:lL=PI
   wp_walk
   subst hPI;refine CI L1 (aG (wpAny_runValue ?_));have lS:l<s.heap.objs.size:=bU gl;have hI:(s.heap.push (Ao4 led)).objs.size=s.heap.objs.size+1:=qH _ _;have nI:l≠(s.heap.push (Ao4 led)).objs.size:=by rw[hI];exact cI (pX lS)
   have nS:s.heap.objs.size∉[(s.heap.push (Ao4 led)).objs.size,l]:=by
    intro z;rw[hI] at z;rw[18]
    .exact absurd z (cI (yJ _))
    .exact absurd (bX.1 z) (kG lS)
   have gI:((s.heap.push (Ao4 led)).push { cls:=.type "list_iterator",data:=.fields #[.ref l,.int 0 0] }).get? s.heap.objs.size=aa (Ao4 led):=bN _ gS;refine Um (w:=w) (B:=B) ((Walks.list (by simp[hh]) _ l nI ai).toS) (by show A.units+1+1+30<cLine;omega) s.heap.objs.size nS kss ay (λi s1 st c hc o e z=>?_) (ai.size-0) 0 _ rfl (eO _) ⟨⟨_,cW _ rfl,rfl,rfl⟩,L1.push _⟩ (Wo (by rw[hled];exact gI)) (λj v e=>?_) λs' hm S'=>?_
   .obtain⟨⟨o',g',c',_⟩,_⟩:=st;rw[bX.1 hc,g'] at e;cases e;rw[c'] at z;exact absurd z (by decide)
   .obtain⟨b,q,q1,q2,q3,q4⟩:=hd j v e;exact⟨b,q,q1,q2,q3.keep λb o vs m z _ _=>bN _ (bN _ z),q4⟩
   .obtain⟨h',g',d',vp,we⟩:=s';obtain rfl:g'=s.gens:=hm.gens;obtain rfl:d'=s.drawn:=hm.drawn;obtain rfl:we=s.os:=hm.os;show aM _ _ _ _ _ _;refine aN ?_;show aM _ _ (ret eF) _ _ _;refine aN ⟨rfl,h',vp,hm.toks,rfl,by rw[<-HW (l:=kss),md];exact S',λb o hb e=>?_⟩
    refine hm.heap b o (λz=>?_) (bN _ (bN _ e))
    rw[hI] at z;rw[18]
    .exact absurd z (cI hb)
    .exact absurd (bX.1 z) (cI (pX hb))
  .match r₂,ox with
   |.error e,ox=>exact ox
   |.ok (.ret v),ox=>
    obtain⟨rfl,h',tk,ht,rfl,S',fq⟩:=ox
    repeat (any_goals (first|assumption|wp_step))
    exact h _ _ ht S' fq
end
abbrev isO (a:aD)(o:aZ):HO:=.ext λh=>h.get? a=aa o
abbrev Refs (H:Hp)(ys:List V)(kss:List (List aA)):Prop:=dR (λy k=>∃ b,y=V.ref b/\Arc H k b) ys kss
theorem Fc:∀ {kss:List (List aA)} {ys:List V},(∀ ks∈kss,bR ks=af/\cL ks<=6)->Aap K H (kss.map cV) ys->Refs H ys kss
 |[],ys,_,r=>by rw[Aan.1 r];exact .nil
 |k::kss,ys,hk,r=>by
  obtain⟨v,t,rfl,r1,r2⟩:=Aah.1 r;obtain⟨b,rfl,tk⟩:=r1.tupK (hk k bF).1 (hk k bF).2;exact .cons ⟨b,rfl,tk⟩ (Fc (λx m=>hk x (bL _ m)) r2)
theorem Refs.le(x:∀ c zs,H c=aa (.tup zs)->H' c=aa (.tup zs))(r:Refs H ys kss):Refs H' ys kss:=qT (λy k ⟨b,e,t⟩=>⟨b,e,t.keep x⟩) r
instance memK (k:aI)(aj:List aI):Decidable (k∈aj):=decidable_of_iff (aj.any (λx=>decide (x=k))=af) (by simp[yR])
open PySem PySem.W PyProof.Rows
def bj {α:Type}(lt:Nat->Nat->Bool):KasT α->α
 |.ret a=>a
 |.ask i j k=>bj lt (k (lt i j))
theorem wD {α β:Type}(lt:Nat->Nat->Bool)(f:α->KasT β):∀ t:KasT α,bj lt (t.bind f)=bj lt (f (bj lt t))
 |.ret _=>rfl
 |.ask i j k=>wD lt f (k (lt i j))
structure Ord (lt:Nat->Nat->Bool):Prop where
 asym:∀ a b,lt a b=af->lt b a=ag
 tr:∀ a b c,lt b a=ag->lt c b=ag->lt c a=ag
section
variable {lt:Nat->Nat->Bool}(O:Ord lt)
abbrev at' (p:Array Nat)(i:Nat):Nat:=p.getD i 0
def gQ (lt:Nat->Nat->Bool)(p:Array Nat)(m:Nat):Prop:=∀ i j,i<=j->j<m->lt (at' p j) (at' p i)=ag
def tD (lt:Nat->Nat->Bool)(p:Array Nat)(m:Nat):Prop:=∀ i j,i<=j->j<m->lt (at' p i) (at' p j)=ag
include O
theorem Ord.refl (a:Nat):lt a a=ag:=by
 cases h:lt a a with
 |false=>rfl
 |true=>exact absurd (O.asym a a h) (by rw[h];decide)
theorem Sd(h1:1<=n)(h:gQ lt p n)(hl:lt (at' p n) (at' p (n-1))=ag):gQ lt p (n+1):=λi j nn hj=>by
 by_cases c:j<n
 .exact h i j nn c
 .obtain rfl:j=n:=by omega
  by_cases d:i=j
  .subst d;exact O.refl _
  .exact O.tr _ _ _ (h i (j-1) (by omega) (by omega)) hl
theorem zZ(h1:1<=n)(h:tD lt p n)(hl:lt (at' p (n-1)) (at' p n)=ag):tD lt p (n+1):=λi j nn hj=>by
 by_cases c:j<n
 .exact h i j nn c
 .obtain rfl:j=n:=by omega
  by_cases d:i=j
  .subst d;exact O.refl _
  .exact O.tr _ _ _ hl (h i (j-1) (by omega) (by omega))
theorem Ub (p:Array Nat):gQ lt p 1:=λi j nn hj=>by
 obtain rfl:j=0:=by omega
 obtain rfl:i=0:=by omega
 exact O.refl _
theorem KZ:∀ (f n:Nat),1<=n->gQ lt p n->n<=bj lt (kas_asc p f n)/\bj lt (kas_asc p f n)<=n+f/\gQ lt p (bj lt (kas_asc p f n))/\(bj lt (kas_asc p f n)<n+f->lt (at' p (bj lt (kas_asc p f n))) (at' p (bj lt (kas_asc p f n)-1))=af)
 |0,n,h1,h=>⟨bE _,bE _,h,λz=>absurd z (by show ¬ n<n+0;omega)⟩
 |f+1,n,h1,h=>by
  have e:bj lt (kas_asc p (f+1) n)=bj lt (if lt (at' p n) (at' p (n-1))=af then KasT.ret n else kas_asc p f (n+1)):=rfl
  rw[e];by_cases c:lt (at' p n) (at' p (n-1))=af
  .rw[if_pos c];exact⟨bE _,by show n<=n+(f+1);omega,h,λ_=>c⟩
  .rw[if_neg c];obtain⟨a1,a2,a3,a4⟩:=KZ f (n+1) (by omega) (Sd O h1 h (by simpa using c))
   exact⟨by omega,by omega,a3,λz=>a4 (by omega)⟩
theorem MW{k:Nat}(h:gQ lt p k):∀ (f l r:Nat),l<=r->r<=k->r-l<=f->(∀ i<l,lt (at' p k) (at' p i)=ag)->(∀ i,r<=i->i<k->lt (at' p i) (at' p k)=ag) ->
  bj lt (kas_place p k f l r)<=k/\(∀ i<bj lt (kas_place p k f l r),lt (at' p k) (at' p i)=ag)/\∀ i,bj lt (kas_place p k f l r)<=i->i<k->lt (at' p i) (at' p k)=ag
 |0,l,r,h1,h2,h3,hl,hr=>by
  have e:bj lt (kas_place p k 0 l r)=l:=rfl;obtain rfl:l=r:=by omega
  rw[e];exact⟨h2,hl,hr⟩
 |f+1,l,r,h1,h2,h3,hl,hr=>by
  unfold kas_place;by_cases c:l ≥ r
  .rw[if_pos c];obtain rfl:l=r:=by omega
   exact⟨h2,hl,hr⟩
  .rw[if_neg c];show bj lt (if lt (at' p k) (at' p ((l+r)/2))=af then kas_place p k f l ((l+r)/2) else kas_place p k f ((l+r)/2+1) r)<=k/\_
   by_cases d:lt (at' p k) (at' p ((l+r)/2))=af
   .have e:bj lt (KasT.ask (p.getD k 0) (p.getD ((l+r)/2) 0) λc=>if c=af then kas_place p k f l ((l+r)/2) else kas_place p k f ((l+r)/2+1) r)=bj lt (kas_place p k f l ((l+r)/2)):=by
     show bj lt (if lt (at' p k) (at' p ((l+r)/2))=af then _ else _)=_
     rw[if_pos d]
    rw[e,if_pos d];exact MW h f l ((l+r)/2) (by omega) (by omega) (by omega) hl λi a b=>O.tr _ _ _ (O.asym _ _ d) (h _ i a b)
   .have d':lt (at' p k) (at' p ((l+r)/2))=ag:=by simpa using d
    have e:bj lt (KasT.ask (p.getD k 0) (p.getD ((l+r)/2) 0) λc=>if c=af then kas_place p k f l ((l+r)/2) else kas_place p k f ((l+r)/2+1) r)=bj lt (kas_place p k f ((l+r)/2+1) r):=by
     show bj lt (if lt (at' p k) (at' p ((l+r)/2))=af then _ else _)=_
     rw[if_neg d]
    rw[e,if_neg d];refine MW h f ((l+r)/2+1) r (by omega) h2 (by omega) (λi hi=>?_) hr
    exact O.tr _ _ _ (h i ((l+r)/2) (by omega) (by omega)) d'
end
theorem at_of(i:Nat):at' p i=(p[i]?).getD 0:=SG
theorem VM{k l:Nat}(hk:k<p.size)(hl:l<=k)(i:Nat):at' (bubble p k (k-l)) i=if i=l then at' p k else if l<i/\i<=k then at' p (i-1) else at' p i:=by
 have e:k-(k-l)=l:=by omega
 have q:=getElem?_bubble hk (k-l) (by omega) i
 rw[e] at q;simp only[at_of,q];split
 .rfl
 .split<;>rfl
theorem mZ(hj:j<=p.size)(k:Nat):at' (kas_rev p i j) k=if i<=k/\k<j then at' p (i+j-1-k) else at' p k:=by
 have q:=getElem?_mirror_all (i:=i) hj k;simp only[at_of];unfold kas_rev;rw[q];split<;>rfl
theorem LW (p:Array Nat)(i j:Nat):(kas_rev p i j).size=p.size:=mirror_size _ _ _ _
theorem sL (p:Array Nat)(i j:Nat):(kas_rev p i j).Perm p:=mirror_perm _ _ _ _
section
variable {lt:Nat->Nat->Bool}(O:Ord lt)
include O
theorem Ds:∀ (f:Nat) (p:Array Nat) (k:Nat),gQ lt p k->k+f<=p.size->(bj lt (kas_bin f p k)).Perm p/\gQ lt (bj lt (kas_bin f p k)) (k+f)
 |0,p,k,h,_=>⟨IM _,h⟩
 |f+1,p,k,h,hz=>by
  have e:bj lt (kas_bin (f+1) p k)=bj lt (kas_bin f (bubble p k (k-bj lt (kas_place p k k 0 k))) (k+1)):=by
   show bj lt ((kas_place p k k 0 k).bind λl=>kas_bin f (bubble p k (k-l)) (k+1))=_
   rw[wD]
  obtain⟨h1,h2,h3⟩:=MW O h k 0 k (eO _) (bE _) (by omega) (λi hi=>absurd hi (by omega)) (λi a b=>absurd b (by omega))
  rw[e];generalize bj lt (kas_place p k k 0 k)=l at h1 h2 h3;have hk:k<p.size:=by omega
  have A':gQ lt (bubble p k (k-l)) (k+1):=λi j nn hj=>by
   rw[VM hk h1,VM hk h1];by_cases ci:i=l
   .rw[if_pos ci];by_cases cj:j=l
    .rw[if_pos cj];exact O.refl _
    .rw[if_neg cj,if_pos ⟨by omega,by omega⟩]
     exact h3 (j-1) (by omega) (by omega)
   .rw[if_neg ci];by_cases cj:j=l
    .rw[if_pos cj,if_neg (by omega)]
     exact h2 i (by omega)
    .rw[if_neg cj];by_cases di:l<i/\i<=k
     .rw[if_pos di,if_pos ⟨by omega,by omega⟩]
      exact h (i-1) (j-1) (by omega) (by omega)
     .rw[if_neg di];by_cases dj:l<j/\j<=k
      .rw[if_pos dj];exact h i (j-1) (by omega) (by omega)
      .rw[if_neg dj];exact h i j nn (by omega)
  obtain⟨a1,a2⟩:=Ds f (bubble p k (k-l)) (k+1) A' (by rw[bubble_size];omega)
  exact⟨a1.trans (bubble_perm _ _ _),by rw[show k+(f+1)=k+1+f by omega];exact a2⟩
structure Fall (lt:Nat->Nat->Bool)(p:Array Nat)(n q:Nat):Prop where
 pos:q+1<=n
 dsc:tD lt p n
 eq:∀ i j,n-(q+1)<=i->i<n->n-(q+1)<=j->j<n->lt (at' p i) (at' p j)=ag
theorem Fall.rev{q:Nat}(F:Fall lt p n q)(hz:n<=p.size):Fall lt (kas_rev p (n-(q+1)) n) n q:=by
 have hp:=F.pos;refine⟨hp,λi j nn hj=>?_,λi j a b c d=>?_⟩
 .rw[mZ hz,mZ hz];by_cases ci:n-(q+1)<=i/\i<n
  .rw[if_pos ci,if_pos ⟨by omega,hj⟩]
   exact F.eq _ _ (by omega) (by omega) (by omega) (by omega)
  .rw[if_neg ci];by_cases cj:n-(q+1)<=j/\j<n
   .rw[if_pos cj];exact F.dsc _ _ (by omega) (by omega)
   .rw[if_neg cj];exact F.dsc i j nn hj
 .rw[mZ hz,mZ hz,if_pos ⟨a,b⟩,if_pos ⟨c,d⟩];exact F.eq _ _ (by omega) (by omega) (by omega) (by omega)
theorem FS:∀ (f:Nat) (p:Array Nat) (n q:Nat),Fall lt p n q->n+f<=p.size->(bj lt (kas_desc f p n q)).1.Perm p/\n<=(bj lt (kas_desc f p n q)).2.1/\(bj lt (kas_desc f p n q)).2.1<=n+f/\Fall lt (bj lt (kas_desc f p n q)).1 (bj lt (kas_desc f p n q)).2.1 (bj lt (kas_desc f p n q)).2.2
 |0,p,n,q,F,_=>⟨IM _,bE _,bE _,F⟩
 |f+1,p,n,q,F,hz=>by
  have hp:=F.pos;have e:bj lt (kas_desc (f+1) p n q)=bj lt (if lt (at' p n) (at' p (n-1))=af then(if q > 0 then kas_desc f (kas_rev p (n-(q+1)) n) (n+1) 0 else kas_desc f p (n+1) 0) else KasT.ask (p.getD (n-1) 0) (p.getD n 0) λd=>if d=af then .ret (p,n,q) else kas_desc f p (n+1) (q+1)):=rfl
  rw[e];by_cases c:lt (at' p n) (at' p (n-1))=af
  .rw[if_pos c];by_cases hq:q > 0
   .rw[if_pos hq];have F':=F.rev O (by omega)
    have hn:at' (kas_rev p (n-(q+1)) n) n=at' p n:=by rw[mZ (by omega),if_neg (by omega)]
    have F2:Fall lt (kas_rev p (n-(q+1)) n) (n+1) 0:=by
     refine⟨by omega,zZ O (by omega) F'.dsc ?_,λi j a b c' d=>?_⟩
     .rw[hn,mZ (by omega),if_pos ⟨by omega,by omega⟩]
      exact O.tr _ _ _ (O.asym _ _ c) (F.eq _ _ (by omega) (by omega) (by omega) (by omega))
     .obtain rfl:i=n:=by omega
      obtain rfl:j=i:=by omega
      exact O.refl _
    obtain⟨a1,a2,a3,a4⟩:=FS f _ (n+1) 0 F2 (by rw[LW];omega)
    exact⟨a1.trans (sL _ _ _),by omega,by omega,a4⟩
   .rw[if_neg hq];have F2:Fall lt p (n+1) 0:=by
     refine⟨by omega,zZ O (by omega) F.dsc (O.asym _ _ c),λi j a b c' d=>?_⟩
     obtain rfl:i=n:=by omega
     obtain rfl:j=i:=by omega
     exact O.refl _
    obtain⟨a1,a2,a3,a4⟩:=FS f _ (n+1) 0 F2 (by omega)
    exact⟨a1,by omega,by omega,a4⟩
  .rw[if_neg c];have c':lt (at' p n) (at' p (n-1))=ag:=by simpa using c
   have e2:bj lt (KasT.ask (p.getD (n-1) 0) (p.getD n 0) λd=>if d=af then .ret (p,n,q) else kas_desc f p (n+1) (q+1))=bj lt (if lt (at' p (n-1)) (at' p n)=af then .ret (p,n,q) else kas_desc f p (n+1) (q+1)):=rfl
   rw[e2];by_cases d:lt (at' p (n-1)) (at' p n)=af
   .rw[if_pos d];exact⟨IM _,bE _,by show n<=n+(f+1);omega,F⟩
   .rw[if_neg d];have d':lt (at' p (n-1)) (at' p n)=ag:=by simpa using d
    have F2:Fall lt p (n+1) (q+1):=by
     refine⟨by omega,zZ O (by omega) F.dsc d',λi j a b a' b'=>?_⟩
     by_cases ci:i=n
     .by_cases cj:j=n
      .rw[ci,cj];exact O.refl _
      .rw[ci];exact O.tr _ _ _ (F.eq (n-1) j (by omega) (by omega) (by omega) (by omega)) c'
     .by_cases cj:j=n
      .rw[cj];exact O.tr _ _ _ d' (F.eq i (n-1) (by omega) (by omega) (by omega) (by omega))
      .exact F.eq i j (by omega) (by omega) (by omega) (by omega)
    obtain⟨a1,a2,a3,a4⟩:=FS f _ (n+1) (q+1) F2 (by omega)
    exact⟨a1,by omega,by omega,a4⟩
end
section
variable {lt:Nat->Nat->Bool}(O:Ord lt)
include O
theorem Tc(h:tD lt p n)(hz:n<=p.size):gQ lt (kas_rev p 0 n) n:=λi j nn hj=>by
 rw[mZ hz,mZ hz,if_pos ⟨eO _,hj⟩,if_pos ⟨eO _,by omega⟩]
 exact h _ _ (by omega) (by omega)
theorem WE(h1:1<=n)(hn:n<=m)(hz:m<=p.size)(h:tD lt p n):(bj lt (kas_tail3 n m p)).2.Perm p/\(bj lt (kas_tail3 n m p)).1<=m/\1<=(bj lt (kas_tail3 n m p)).1/\gQ lt (bj lt (kas_tail3 n m p)).2 (bj lt (kas_tail3 n m p)).1:=by
 unfold kas_tail3;rw[wD];obtain⟨a1,a2,a3,_⟩:=KZ O (m-n) n h1 (Tc O h (by omega))
 exact⟨sL _ _ _,by show bj lt (kas_asc (kas_rev p 0 n) (m-n) n)<=m;omega,by show 1<=bj lt (kas_asc (kas_rev p 0 n) (m-n) n);omega,a3⟩
theorem XW(h1:1<=n)(hn:n+1<=m)(hz:m<=p.size)(h:tD lt p (n+1)):(bj lt (kas_descPart n m p)).2.Perm p/\(bj lt (kas_descPart n m p)).1<=m/\1<=(bj lt (kas_descPart n m p)).1/\gQ lt (bj lt (kas_descPart n m p)).2 (bj lt (kas_descPart n m p)).1:=by
 have F0:Fall lt p (n+1) 0:=⟨by omega,h,λi j a b c d=>by
  obtain rfl:i=n:=by omega
  obtain rfl:j=i:=by omega
  exact O.refl _⟩
 obtain⟨a1,a2,a3,a4⟩:=FS O (m-(n+1)) p (n+1) 0 F0 (by omega)
 unfold kas_descPart;rw[wD];generalize bj lt (kas_desc (m-(n+1)) p (n+1) 0)=r at a1 a2 a3 a4;have hs:=a1.size_eq;split
 .have F':=a4.rev O (by omega)
  obtain⟨b1,b2,b3,b4⟩:=WE O (by omega) (by omega) (by rw[LW];omega) F'.dsc (m:=m)
  exact⟨b1.trans ((sL _ _ _).trans a1),b2,b3,b4⟩
 .obtain⟨b1,b2,b3,b4⟩:=WE O (by omega) (by omega) (by omega) a4.dsc (m:=m)
  exact⟨b1.trans a1,b2,b3,b4⟩
theorem YU(h1:1<=m)(hz:m<=p.size):(bj lt (kas_count m p)).2.Perm p/\(bj lt (kas_count m p)).1<=m/\1<=(bj lt (kas_count m p)).1/\gQ lt (bj lt (kas_count m p)).2 (bj lt (kas_count m p)).1:=by
 obtain⟨a1,a2,a3,a4⟩:=KZ O (m-1) 1 (bE _) (Ub O p);unfold kas_count;rw[wD];generalize bj lt (kas_asc p (m-1) 1)=n at a1 a2 a3 a4;by_cases c:(n==m)=af
 .rw[if_pos c];exact⟨IM _,by show n<=m;omega,a1,a3⟩
 .rw[if_neg c];have hnm:n≠m:=by simpa using c
  have hl:=a4 (by omega)
  by_cases d:n > 1
  .rw[if_pos d];show(bj lt (if lt (at' p 0) (at' p (n-1))=af then KasT.ret (n,p) else kas_descPart n m (kas_rev p 0 n))).2.Perm p/\(bj lt (if lt (at' p 0) (at' p (n-1))=af then KasT.ret (n,p) else kas_descPart n m (kas_rev p 0 n))).1<=m/\1<=(bj lt (if lt (at' p 0) (at' p (n-1))=af then KasT.ret (n,p) else kas_descPart n m (kas_rev p 0 n))).1/\gQ lt (bj lt (if lt (at' p 0) (at' p (n-1))=af then KasT.ret (n,p) else kas_descPart n m (kas_rev p 0 n))).2 (bj lt (if lt (at' p 0) (at' p (n-1))=af then KasT.ret (n,p) else kas_descPart n m (kas_rev p 0 n))).1
   by_cases e:lt (at' p 0) (at' p (n-1))=af
   .rw[if_pos e];exact⟨IM _,by show n<=m;omega,a1,a3⟩
   .rw[if_neg e];have e':lt (at' p 0) (at' p (n-1))=ag:=by simpa using e
    have same:∀ i j,i<n->j<n->lt (at' p i) (at' p j)=ag:=λi j hi hj=>
     O.tr _ (at' p 0) _ (O.tr _ _ _ (a3 j (n-1) (by omega) (by omega)) e') (a3 0 i (eO _) hi)
    have D:tD lt (kas_rev p 0 n) (n+1):=by
     refine zZ O a1 (λi j nn hj=>?_) ?_
     .rw[mZ (by omega),mZ (by omega),if_pos ⟨eO _,by omega⟩,if_pos ⟨eO _,hj⟩]
      exact same _ _ (by omega) (by omega)
     .rw[mZ (by omega),mZ (by omega),if_pos ⟨eO _,by omega⟩,if_neg (by omega)]
      exact O.tr _ _ _ (O.asym _ _ hl) (same _ _ (by omega) (by omega))
    obtain⟨b1,b2,b3,b4⟩:=XW O a1 (by omega) (by rw[LW];exact hz) D (m:=m)
    exact⟨b1.trans (sL _ _ _),b2,b3,b4⟩
  .rw[if_neg d];obtain rfl:n=1:=by omega
   exact XW O (bE _) (by omega) hz (zZ O (bE _) (λi j nn hj=>by
    obtain rfl:j=0:=by omega
    obtain rfl:i=0:=by omega
    exact O.refl _) (O.asym _ _ hl))
theorem WT(h1:1<=n):(bj lt (kas_sort n)).Perm (iL (bY n))/\gQ lt (bj lt (kas_sort n)) n:=by
 have hs:(iL (bY n)).size=n:=by simp
 obtain⟨a1,a2,a3,a4⟩:=YU O h1 (by rw[hs];exact bE _)
 unfold kas_sort;rw[wD];generalize bj lt (kas_count n (iL (bY n)))=r at a1 a2 a3 a4;have hz:=a1.size_eq.trans hs;split
 .have em:max r.1 1=r.1:=by omega
  rw[em];obtain⟨b1,b2⟩:=Ds O (n-r.1) r.2 r.1 a4 (by omega)
  exact⟨b1.trans a1,by rw[show r.1+(n-r.1)=n by omega] at b2;exact b2⟩
 .have:r.1=n:=by omega
  exact⟨a1,by rw[this] at a4;exact a4⟩
end
def iA {α:Type}(lt:Nat->Nat->Bool)(N:Nat):KasT α->Prop
 |.ret _=>True
 |.ask i j k=>(i<N/\j<N)/\iA lt N (k (lt i j))
theorem wF {α β:Type}{lt:Nat->Nat->Bool}{f:α->KasT β}:∀ {t:KasT α},iA lt N t->iA lt N (f (bj lt t))->iA lt N (t.bind f)
 |.ret _,_,h=>h
 |.ask i j k,h,h2=>⟨h.1,wF h.2 h2⟩
theorem TN {α:Type}{lt:Nat->Nat->Bool}{S9:Nat->Nat->(Bool->aH->Prop)->aH->Prop}(hc:∀ i j (C:Bool->aH->Prop),i<N->j<N->C (lt i j) s->S9 i j C s){Q:α->aH->Prop}:∀ {t:KasT α},iA lt N t->Q (bj lt t) s->t.kasWp S9 Q s
 |.ret _,_,h=>h
 |.ask i j k,h,q=>hc i j _ h.1.1 h.1.2 (TN hc h.2 q)
abbrev El (N:Nat)(p:Array Nat):Prop:=∀ x∈p,x<N
theorem El.at(h:El N p)(h0:0<N)(i:Nat):at' p i<N:=by
 rw[at_of];cases e:p[i]? with
 |none=>exact h0
 |some v=>exact h v (Array.mem_of_getElem? e)
theorem El.perm{q:Array Nat}(h:El N p)(x:q.Perm p):El N q:=λv m=>h v (x.mem_iff.1 m)
section
variable {lt:Nat->Nat->Bool}(h0:0<N)
include h0
theorem PR(h:El N p):∀ f n,iA lt N (kas_asc p f n)
 |0,_=>trivial
 |f+1,n=>by
  refine⟨⟨h.at h0 _,h.at h0 _⟩,?_⟩;show iA lt N (if lt (at' p n) (at' p (n-1))=af then KasT.ret n else kas_asc p f (n+1))
  by_cases c:lt (at' p n) (at' p (n-1))=af
  .rw[if_pos c];trivial
  .rw[if_neg c];exact PR h f (n+1)
theorem LF{k:Nat}(h:El N p):∀ f l r,iA lt N (kas_place p k f l r)
 |0,_,_=>trivial
 |f+1,l,r=>by
  unfold kas_place;by_cases c:l ≥ r
  .rw[if_pos c];trivial
  .rw[if_neg c];refine⟨⟨h.at h0 _,h.at h0 _⟩,?_⟩;show iA lt N (if lt (at' p k) (at' p ((l+r)/2))=af then kas_place p k f l ((l+r)/2) else kas_place p k f ((l+r)/2+1) r)
   by_cases d:lt (at' p k) (at' p ((l+r)/2))=af
   .rw[if_pos d];exact LF h f _ _
   .rw[if_neg d];exact LF h f _ _
theorem UK:∀ (f:Nat) (p:Array Nat) (k:Nat),El N p->iA lt N (kas_bin f p k)
 |0,_,_,_=>trivial
 |f+1,p,k,h=>wF (LF h0 h k 0 k) (UK f _ _ (h.perm (bubble_perm _ _ _)))
theorem FG:∀ (f:Nat) (p:Array Nat) (n q:Nat),El N p->iA lt N (kas_desc f p n q)/\El N (bj lt (kas_desc f p n q)).1
 |0,_,_,_,h=>⟨trivial,h⟩
 |f+1,p,n,q,h=>by
  have e:bj lt (kas_desc (f+1) p n q)=bj lt (if lt (at' p n) (at' p (n-1))=af then(if q > 0 then kas_desc f (kas_rev p (n-(q+1)) n) (n+1) 0 else kas_desc f p (n+1) 0) else KasT.ask (p.getD (n-1) 0) (p.getD n 0) λd=>if d=af then .ret (p,n,q) else kas_desc f p (n+1) (q+1)):=rfl
  have g:iA lt N (kas_desc (f+1) p n q)↔(at' p n<N/\at' p (n-1)<N)/\iA lt N (if lt (at' p n) (at' p (n-1))=af then(if q > 0 then kas_desc f (kas_rev p (n-(q+1)) n) (n+1) 0 else kas_desc f p (n+1) 0) else KasT.ask (p.getD (n-1) 0) (p.getD n 0) λd=>if d=af then .ret (p,n,q) else kas_desc f p (n+1) (q+1)):=Iff.rfl
  rw[g,e];by_cases c:lt (at' p n) (at' p (n-1))=af
  .rw[if_pos c];by_cases hq:q > 0
   .rw[if_pos hq];obtain⟨a,b⟩:=FG f _ (n+1) 0 (h.perm (sL p (n-(q+1)) n));exact⟨⟨⟨h.at h0 _,h.at h0 _⟩,a⟩,b⟩
   .rw[if_neg hq];obtain⟨a,b⟩:=FG f _ (n+1) 0 h;exact⟨⟨⟨h.at h0 _,h.at h0 _⟩,a⟩,b⟩
  .rw[if_neg c];have e2:bj lt (KasT.ask (p.getD (n-1) 0) (p.getD n 0) λd=>if d=af then .ret (p,n,q) else kas_desc f p (n+1) (q+1))=bj lt (if lt (at' p (n-1)) (at' p n)=af then .ret (p,n,q) else kas_desc f p (n+1) (q+1)):=rfl
   have g2:iA lt N (KasT.ask (p.getD (n-1) 0) (p.getD n 0) λd=>if d=af then .ret (p,n,q) else kas_desc f p (n+1) (q+1))↔(at' p (n-1)<N/\at' p n<N)/\iA lt N (if lt (at' p (n-1)) (at' p n)=af then .ret (p,n,q) else kas_desc f p (n+1) (q+1)):=Iff.rfl
   rw[g2,e2];by_cases d:lt (at' p (n-1)) (at' p n)=af
   .rw[if_pos d];exact⟨⟨⟨h.at h0 _,h.at h0 _⟩,⟨h.at h0 _,h.at h0 _⟩,trivial⟩,h⟩
   .rw[if_neg d];obtain⟨a,b⟩:=FG f _ (n+1) (q+1) h;exact⟨⟨⟨h.at h0 _,h.at h0 _⟩,⟨h.at h0 _,h.at h0 _⟩,a⟩,b⟩
theorem Dz(n m:Nat)(h:El N p):iA lt N (kas_tail3 n m p):=wF (PR h0 (h.perm (sL _ _ _)) _ _) trivial
theorem Fl(n m:Nat)(h:El N p):iA lt N (kas_descPart n m p):=by
 obtain⟨a,b⟩:=FG h0 (m-(n+1)) p (n+1) 0 h;refine wF a ?_;split
 .exact Dz h0 _ _ (b.perm (sL _ _ _))
 .exact Dz h0 _ _ b
theorem o9(m:Nat)(h:El N p):iA lt N (kas_count m p):=by
 refine wF (PR h0 h _ _) ?_;generalize bj lt (kas_asc p (m-1) 1)=n;by_cases c:(n==m)=af
 .rw[if_pos c];trivial
 .rw[if_neg c];by_cases d:n > 1
  .rw[if_pos d];refine⟨⟨h.at h0 _,h.at h0 _⟩,?_⟩;show iA lt N (if lt (at' p 0) (at' p (n-1))=af then KasT.ret (n,p) else kas_descPart n m (kas_rev p 0 n))
   by_cases e:lt (at' p 0) (at' p (n-1))=af
   .rw[if_pos e];trivial
   .rw[if_neg e];exact Fl h0 _ _ (h.perm (sL _ _ _))
  .rw[if_neg d];exact Fl h0 _ _ h
end
theorem Rv {lt:Nat->Nat->Bool}(O:Ord lt)(h1:1<=n):iA lt n (kas_sort n):=by
 have hs:(iL (bY n)).size=n:=by simp
 have h:El n (iL (bY n)):=λx m=>by simpa using m
 refine wF (o9 (by omega) n h) ?_
 obtain⟨a1,_⟩:=YU O h1 (by rw[hs];exact bE _)
 generalize bj lt (kas_count n (iL (bY n)))=r at a1;split
 .exact UK (by omega) _ _ _ (h.perm a1)
 .trivial
theorem Tp {lt:Nat->Nat->Bool}(O:Ord lt)(h1:1<=n){S9:Nat->Nat->(Bool->aH->Prop)->aH->Prop}(hc:∀ i j (C:Bool->aH->Prop),i<n->j<n->C (lt i j) s->S9 i j C s){G:Array Nat->aH->Prop}
  (h:∀ p:Array Nat,p.Perm (iL (bY n))->gQ lt p n->G p s):(kas_sort n).kasWp S9 G s:=
 TN hc (Rv O h1) (h _ (WT O h1).1 (WT O h1).2)
abbrev Je (a:aD)(h h':aQ):Prop:=∀ b o,b≠a->h.get? b=aa o->h'.get? b=aa o
abbrev kR (h:aQ)(a:aD)(vs:List aE):aQ:=((h.update a (fG λ_=>#[])).push (hJ "tuple" vs.toArray 0)).push (hJ "list" #[] 0)
theorem Di:Je a h (kR h a vs):=λb o hb e=>
 bN _ (bN _ (((yT h a (fG λ_=>(#[]:Array aE))).2 b hb).trans e))
theorem Eh{κ:SortKind}{lt:Nat->Nat->Bool}{P:PySem.Fin->aH->Prop}(O:Ord lt)(ho:s.heap.get? a=aa (hJ "list" vs.toArray n))(h2:2<=vs.length)(ue:vs.length<64)
  (hk:∀ (Q:SortKind->aH->Prop),Q κ { s with heap:=kR s.heap a vs }->aM (aO prog w) A (keyKind' vs.toArray) Q E { s with heap:=kR s.heap a vs })
  (hc:∀ i j (C:Bool->aH->Prop),i<vs.length->j<vs.length->C (lt i j) { s with heap:=kR s.heap a vs }->aM (aO prog w) A (keyLt' κ (vs.getD i eF) (vs.getD j eF)) C (λ_ _=>False) { s with heap:=kR s.heap a vs })
  (h:∀ p:Array Nat,p.Perm (iL (bY vs.length))->gQ lt p vs.length->P (.done (.ret .none)) { s with heap:=sortedHeap s.heap a vs (iL (p.toList.map λi=>vs.getD i eF)) }) :
  aM (aO prog w) A (Builtin.«list.sort» ⟨[.ref a],[]⟩) P E s:=by
 have lz:vs.length<=sizeLine:=by rw[lJ];omega
 have ha:a<s.heap.objs.size:=bU ho;obtain⟨e1,Tk⟩:∃ e,(s.heap.update a (fG λ_=>(#[]:Array aE))).get? a=aa (hJ "list" #[] e):=⟨_,get?_update_seq ho λ_=>#[]⟩
 have Tl:(kR s.heap a vs).get? a=aa (hJ "list" #[] e1):=bN _ (bN _ Tk);rw[list_sort_plain];refine aG (listItems_at ho rfl (aG (listUpdate_at ho rfl (aG (seqEpoch_at Tk rfl (aG (wpAny_newTuple (aG (HE (hG ?_) (eO _))) (by simpa using lz))))) (by rw[eA];exact lz) (eO _))))
 show aM (aO prog w) A _ P E { s with heap:=kR s.heap a vs };rw[24];have big:¬ vs.toArray.size<2:=by rw[eA];omega
 rw[if_neg big,if_neg big];refine aG (hk _ ?_);have eS:SortSt.mk' κ (vs.toArray.zip vs.toArray) #[] 7 ae=kas_st κ (pairsOf vs) (iL (bY vs.length)):=by
  have e:=kas_range (pairsOf vs);rw[pairsOf_size] at e;unfold kas_st;rw[e]
  rfl
 have run:=kas_runs (prog:=prog) (w:=w) (A:=A) (κ:=κ) (it:=pairsOf vs) (E:=E) (s:={ s with heap:=kR s.heap a vs }) (Q:=λ_ kc s'=>s'={ s with heap:=kR s.heap a vs }/\∃ p:Array Nat,p.Perm (iL (bY vs.length))/\gQ lt p vs.length/\arrOf kc=p.map (kas_item (pairsOf vs))/\failedOf kc=ae)
  (G:=λp s'=>s'={ s with heap:=kR s.heap a vs }/\p.Perm (iL (bY vs.length))/\gQ lt p vs.length) h2 ue (λp' kc s' a1 a2 a3 ⟨b1,b2,b3⟩=>⟨b1,p',b2,b3,a2,a3⟩)
  (Tp O (by omega) (λi j C hi hj q=>by
   unfold kas_cmp;rw[kas_item_eq,kas_item_eq];exact hc i j C hi hj q) λp b1 b2=>⟨rfl,b1,b2⟩)
 rw[<-eS] at run;refine aG (mO run ?_ λ_ _ e=>e)
 rintro⟨⟨⟩,kc⟩ s' ⟨rfl,p,b1,b2,har,hf⟩;rw[24];have BT:(arrOf kc).map (·.2)=iL (p.toList.map λi=>vs.getD i eF):=by
  apply Jd.1;rw[har,Array.map_map,Array.toList_map];exact qA λi _=>congrArg Prod.snd (kas_item_eq vs i)
 have N6:p.size=vs.length:=by
  have:=b1.size_eq;simpa using this
 have xy:(iL (p.toList.map λi=>vs.getD i eF)).size<=sizeLine:=by
  rw[eA,cJ,fZ,N6];exact lz
 rw[BT];refine aG (seqEpoch_at Tl rfl (aG (listUpdate_at Tl rfl ?_ (eO _) (Nat.le_succ_of_le xy))));rw[hf];simp only[bne_self_eq_false,iN,if_false];exact aN (h p b1 b2)
theorem D8{κ:SortKind}{lt:Nat->Nat->Bool}(O:Ord lt)(hl:s.heap.IsList l vs.toArray)(h2:2<=vs.length)(ue:vs.length<64)
  (hk:∀ h',(∀ b o,s.heap.get? b=aa o->h'.get? b=aa o)->∀ (A':cB) (E':aE->aH->Prop) (R:SortKind->aH->Prop),R κ { s with heap:=h' }->aM (aO prog w) A' (keyKind' vs.toArray) R E' { s with heap:=h' })
  (hc:∀ h',(∀ b o,s.heap.get? b=aa o->h'.get? b=aa o)->∀ (A':cB),A'.units<=A.units+4->∀ i j (C:Bool->aH->Prop),i<vs.length->j<vs.length->C (lt i j) { s with heap:=h' }->aM (aO prog w) A' (keyLt' κ (vs.getD i eF) (vs.getD j eF)) C (λ_ _=>False) { s with heap:=h' })
  (h:∀ p:Array Nat,p.Perm (iL (bY vs.length))->gQ lt p vs.length->Q (.ref (s.heap.objs.size+1)) { s with heap:=sortedAll s.heap vs (iL (p.toList.map λi=>vs.getD i eF)) }) :
  aM (aO prog w) A (call (.builtin "sorted") [.ref l]) Q E s:=by
 refine Iw kind_sorted plain_sorted entry_sorted (args_sorted1 _) ?_;unfold Builtin.«sorted»;refine aG (aN (aG (collect_list hl (aG (HE ?_)))));have z:((s.heap.push (hJ "list" #[] 0)).update s.heap.objs.size (fG (· ++ vs.toArray))).objs.size=s.heap.objs.size+1:=by rw[Heap.size_update,size_push']
 have v6:(((s.heap.push (hJ "list" #[] 0)).update s.heap.objs.size (fG (· ++ vs.toArray))).push (hJ "list" vs.toArray 0)).get? (s.heap.objs.size+1)=aa (hJ "list" vs.toArray 0):=z ▸ cW _ rfl;have kept:∀ b o,s.heap.get? b=aa o->(kR (((s.heap.push (hJ "list" #[] 0)).update s.heap.objs.size (fG (· ++ vs.toArray))).push (hJ "list" vs.toArray 0)) (s.heap.objs.size+1) vs).get? b=aa o:=λb o e=>by
  have hb:=bU e;refine Di b o (λq=>?_) (bN _ (((yT _ s.heap.objs.size _).2 b (λq=>?_)).trans (bN _ e)))
  .exact absurd hb (by rw[q];exact Nat.not_lt.2 (sW _))
  .exact absurd hb (by rw[q];exact lQ _)
 rw[z];refine aG (hG (fX slot_list_sort ⟨_,v6,rfl⟩ entry_list_sort (Eh O v6 h2 ue (λR q=>hk _ kept _ _ R q) (λi j C hi hj q=>hc _ kept _ ?_ i j C hi hj q) λp b1 b2=>⟨_,rfl,?_⟩) (args_list_sort _)))
 .first|(show A.units+1<=A.units+4;omega)|(show A.units+1+1<=A.units+4;omega)|(show A.units+1+1+1<=A.units+4;omega)
 .exact aN ⟨_,rfl,h p b1 b2⟩
def hZ:aA->List Int
 |.int i=>[0,i]
 |.str x=>1::x.cps.toList.map qG
 |_=>[2]
def dC (ks:List aA):List (List Int):=ks.map hZ
theorem ZO (a b:List (List Int))(h:a<b):¬ b<a:=List.lt_asymm h
theorem Aq (a b c:List (List Int))(h1:¬ b<a)(h2:¬ c<b):¬ c<a:=by
 have h1:=h1;have h2:=h2;exact List.le_trans h1 h2
theorem LN {e:aA}(h1:(∃ i,d=.int i)\/∃ x,d=.str x)(h2:(∃ i,e=.int i)\/∃ x,e=.str x)(h:hZ d=hZ e):d=e:=by
 rcases h1 with⟨i,rfl⟩|⟨x,rfl⟩<;>rcases h2 with⟨j,rfl⟩|⟨y,rfl⟩
 .simp[hZ] at h;rw[h]
 .simp[hZ] at h
 .simp[hZ] at h
 .have h':x.cps.toList.map qG=y.cps.toList.map qG:=by simpa [hZ] using h
  have:=(List.map_inj_right (λa b q=>Int.ofNat.inj q)).1 h'
  have:x=y:=by
   cases x;cases y;simp only at this;rw[Jd.1 this]
  rw[this]
def SZ (kss:List (List aA))(i j:Nat):Bool:=decide (dC (kss.getD i [])<dC (kss.getD j []))
theorem VQ (kss:List (List aA)):Ord (SZ kss):=by
 refine⟨λa b h=>?_,λa b c h1 h2=>?_⟩
 .have:=ZO _ _ (of_decide_eq_true h);exact decide_eq_false this
 .exact decide_eq_false (Aq _ _ _ (of_decide_eq_false h1) (of_decide_eq_false h2))
open PySem PySem.Spec PySem.W PyProof.Rows
def iB:List aA->List aA->Bool
 |[],[]=>af
 |.int _::r,.int _::r'=>iB r r'
 |.str _::r,.str _::r'=>iB r r'
 |_,_=>ag
theorem Er (i j:Int)(r r':List aA):(dC (.int i::r)<dC (.int j::r'))↔i<j\/i=j/\dC r<dC r':=by
 show(hZ (.int i)::dC r<hZ (.int j)::dC r')↔_;rw[DH];simp[hZ,DH]
theorem map_lt (xs ys:List Nat):(xs.map qG<ys.map qG)↔xs<ys:=by
 induction xs generalizing ys with
 |nil=>cases ys<;>simp
 |cons x r ih=>
  cases ys with
  |nil=>simp
  |cons y r'=>
   rw[dI,dI,DH,DH,ih];have h1:(qG x<qG y)↔x<y:=Int.ofNat_lt;have h2:(qG x=qG y)↔x=y:=⟨λe=>Int.ofNat.inj e,λe=>by rw[e]⟩
   rw[h1,h2]
theorem Fp (x y:aC)(r r':List aA):(dC (.str x::r)<dC (.str y::r'))↔x.cps.toList<y.cps.toList\/x=y/\dC r<dC r':=by
 show(hZ (.str x)::dC r<hZ (.str y)::dC r')↔_;rw[DH];have h1:(hZ (.str x)<hZ (.str y))↔x.cps.toList<y.cps.toList:=by
  show((1:Int)::x.cps.toList.map qG<(1:Int)::y.cps.toList.map qG)↔_;rw[DH,map_lt];simp
 have h2:(hZ (.str x)=hZ (.str y))↔x=y:=⟨λe=>by
  have:=LN (.inr ⟨x,rfl⟩) (.inr ⟨y,rfl⟩) e;injection this,λe=>by rw[e]⟩
 rw[h1,h2]
section
variable {Q:Bool->aH->Prop}
theorem EM:∀ (ks ju:List aA) {vs Tm:List aE} {as ya:List aD} (i:Nat),iB ks ju=af->pA s.heap vs ks as->pA s.heap Tm ju ya->Q (decide (dC ks<dC ju)) s->KatLex prog w A b ag Q (vs.zip Tm) i s
 |[],[],vs,Tm,as,ya,i,_,r,r',h=>by
  cases r;cases r';exact kat_nil h
 |.int x::ks,.int y::ju,vs,Tm,as,ya,i,hs,r,r',h=>by
  cases r with
  |cons r1 r2=>
   cases r' with
   |cons Ty r2'=>
    cases r1 with
    |int _ t=>
     cases Ty with
     |int _ u=>
      rw[Hm];refine kat_cons ((fK prog w).eqBool (NM _ _ x t) (NM _ _ y u) ?_);refine kat_go (λe=>kat_yes ?_) λe=>kat_no ?_
      .have e':x=y:=by simpa using e
       subst e';refine EM ks ju (i+1) (by simpa [iB] using hs) r2 r2' ?_
       have:decide (dC (.int x::ks)<dC (.int x::ju))=decide (dC ks<dC ju):=decide_eq_decide.2 (by rw[Er];simp)
       rw[<-this];exact h
      .have e':x≠y:=by simpa using e
       have:decide (dC (.int x::ks)<dC (.int y::ju))=decide (x<y):=decide_eq_decide.2 (by rw[Er];simp[e'])
       rw[this] at h;cases(b&&i==0) with
       |true=>exact oneLt_int h
       |false=>exact kat_one _ _ (lt_int h)
 |.str x::ks,.str y::ju,vs,Tm,as,ya,i,hs,r,r',h=>by
  cases r with
  |cons r1 r2=>
   cases r' with
   |cons Ty r2'=>
    cases r1 with
    |str _ t=>
     cases Ty with
     |str _ u=>
      rw[Hm];refine kat_cons ((fK prog w).eqBool (NW _ _ x t) (NW _ _ y u) ?_);refine kat_go (λe=>kat_yes ?_) λe=>kat_no ?_
      .have e':x=y:=by simpa using e
       subst e';refine EM ks ju (i+1) (by simpa [iB] using hs) r2 r2' ?_
       have:decide (dC (.str x::ks)<dC (.str x::ju))=decide (dC ks<dC ju):=decide_eq_decide.2 (by rw[Fp];simp[List.lt_irrefl])
       rw[<-this];exact h
      .have e':x≠y:=by simpa using e
       have:decide (dC (.str x::ks)<dC (.str y::ju))=decide (x.cps.toList<y.cps.toList):=decide_eq_decide.2 (by rw[Fp];simp[e'])
       rw[this] at h;cases(b&&i==0) with
       |true=>exact oneLt_str h
       |false=>exact kat_one _ _ (lt_str h)
end
def kO:List aA->Option String
 |.int _::_=>aa "int"
 |.str _::_=>aa "str"
 |_=>ae
theorem Wy {M:Model}{b:aD}(hd:Acb h k b)(hk:kO k=aa T) :
  ∃ o xs n f,h.get? b=aa o/\o.cls=.type "tuple" /\ o.data=.seq xs n/\xs[0]?=aa f/\Looks M h (typeOf f) (.type T):=by
 obtain⟨_,_,as,r⟩:=hd;obtain⟨a,o,xs,n,e,ho,hc,hd,hi⟩:=pO r;cases e
 match k,hk,hi with
 |.int i::r,hk,hi=>
  cases hk;generalize hx:xs.toList=l at hi;cases hi with
  |cons h1 _=>
   cases h1 with
   |int _ t=>exact⟨o,xs,n,.int i t,ho,hc,hd,by rw[<-oA,hx];rfl,Looks.of_pure rfl⟩
 |.str x::r,hk,hi=>
  cases hk;generalize hx:xs.toList=l at hi;cases hi with
  |cons h1 _=>
   cases h1 with
   |str _ t=>exact⟨o,xs,n,.str x t,ho,hc,hd,by rw[<-oA,hx];rfl,Looks.of_pure rfl⟩
abbrev Ahj (h:aQ)(vs:List aE)(kss:List (List aA)):Prop:=dR (λv k=>∃ b,v=eK b/\Acb h k b) vs kss
theorem MT {M:Model}{h:aQ}{T:String}:∀ {vs:List aE} {kss:List (List aA)},Ahj h vs kss->(∀ k∈kss,kO k=aa T)->∃ fs,KatTups h vs fs/\fs.length=vs.length/\∀ f∈fs,Looks M h (typeOf f) (.type T)
 |_,_,.nil,_=>⟨[],KatTups.nil,rfl,λ_ m=>by simp at m⟩
 |_,_,.cons ⟨b,e,hd⟩ t,hk=>by
  obtain⟨fs,h1,h2,h3⟩:=MT (M:=M) t λk m=>hk k (bL _ m)
  obtain⟨o,xs,n,f,q1,q2,q3,q4,q5⟩:=Wy (M:=M) hd (hk _ bF);subst e;refine⟨f::fs,KatTups.cons q1 q2 q3 q4 h1,by rw[fY,fY,h2],λg m=>?_⟩
  rw[15]
  .exact q5
  .exact h3 g m
theorem Ahj.get:∀ {vs:List aE} {kss:List (List aA)},Ahj h vs kss->∀ i,i<vs.length->∃ b,vs.getD i eF=.ref b/\Acb h (kss.getD i []) b/\kss.getD i []∈kss
 |_,_,.nil,i,hi=>absurd hi (by simp)
 |_,_,.cons ⟨b,e,hd⟩ t,0,_=>⟨b,e,hd,bF⟩
 |_,_,.cons _ t,i+1,hi=>by
  obtain⟨b,q1,q2,q3⟩:=Ahj.get t i (by simpa using hi)
  exact⟨b,by simpa using q1,by simpa using q2,by simpa using bL _ q3⟩
theorem Ahj.keep(k:∀ b o,h.get? b=aa o->h'.get? b=aa o):∀ {vs:List aE} {kss:List (List aA)},Ahj h vs kss->Ahj h' vs kss
 |_,_,.nil=>.nil
 |_,_,.cons ⟨b,e,hd⟩ t=>.cons ⟨b,e,hd.keep λb o _ _ q _ _=>k b o q⟩ (Ahj.keep k t)
theorem GF:∀ {k k':List aA},iB k k'=af->k.length=k'.length
 |[],[],_=>rfl
 |.int _::r,.int _::r',h=>by rw[fY,fY,GF (by simpa [iB] using h)]
 |.str _::r,.str _::r',h=>by rw[fY,fY,GF (by simpa [iB] using h)]
theorem AO:∀ {vs:List aE} {ks:List aA} {as:List aD},pA h vs ks as->vs.length=ks.length
 |_,_,_,.nil=>rfl
 |_,_,_,.cons _ t=>by rw[fY,fY,AO t]
theorem Zf(hl:s.heap.IsList l vs.toArray)(ht:Ahj s.heap vs kss)(hT:T = "int" \/ T = "str")(hk:∀ k∈kss,kO k=aa T)(hs:∀ k∈kss,∀ k'∈kss,iB k k'=af)(h2:2<=vs.length)(ue:vs.length<64)
  (h:∀ p:Array Nat,p.Perm (iL (bY vs.length))->gQ (SZ kss) p vs.length->Q (.ref (s.heap.objs.size+1)) { s with heap:=sortedAll s.heap vs (iL (p.toList.map λi=>vs.getD i eF)) }) :
  aM (aO prog w) A (call (.builtin "sorted") [.ref l]) Q E s:=by
 refine D8 (κ:=tuples' (kE T != kE "tuple")) (VQ kss) hl h2 ue (λh' kp A' E' R q=>?_) (λh' kp A' _ i j C hi hj q=>?_) h
 .obtain⟨fs,f1,f2,f3⟩:=MT (M:=aO prog w) (ht.keep kp) hk;exact kat_kind (s:={ s with heap:=h' }) f1 (by omega) f3 (by rcases hT with rfl|rfl<;>decide) q
 .have N7:=ht.keep kp;obtain⟨b,e1,⟨_,_,as,r1⟩,m1⟩:=N7.get i hi;obtain⟨b',e2,⟨_,_,ya,r2⟩,m2⟩:=N7.get j hj;rw[e1,e2];obtain⟨_,o,xs,n,z,ho,_,hd,hr⟩:=pO r1;cases z;obtain⟨_,o',ql,n',z,v4,_,qv,TD⟩:=pO r2;cases z;have zz:=hs _ m1 _ m2;have l1:=AO hr;have l2:=AO TD;have ll:=GF zz;have:decide (xs.size<ql.size)=ag:=decide_eq_false (by simp only[fZ] at l1 l2;omega)
  refine kat_lt (s:={ s with heap:=h' }) ho hd v4 qv ?_;rw[this];exact EM _ _ 0 zz hr TD q
theorem YJ{P:PySem.Fin->aH->Prop}(ho:s.heap.get? a=aa (hJ "list" vs.toArray n))(h2:vs.length<2)(h:P (.done (.ret .none)) { s with heap:=sortedHeap s.heap a vs vs.toArray }) :
  aM (aO prog w) A (Builtin.«list.sort» ⟨[.ref a],[]⟩) P E s:=by
 have lz:vs.length<=sizeLine:=by rw[lJ];omega
 obtain⟨e1,Tk⟩:∃ e,(s.heap.update a (fG λ_=>(#[]:Array aE))).get? a=aa (hJ "list" #[] e):=⟨_,get?_update_seq ho λ_=>#[]⟩
 have Tl:(kR s.heap a vs).get? a=aa (hJ "list" #[] e1):=bN _ (bN _ Tk);rw[list_sort_plain];refine aG (listItems_at ho rfl (aG (listUpdate_at ho rfl (aG (seqEpoch_at Tk rfl (aG (wpAny_newTuple (aG (HE (hG ?_) (eO _))) (by simpa using lz))))) (by rw[eA];exact lz) (eO _))))
 show aM (aO prog w) A _ P E { s with heap:=kR s.heap a vs };rw[24];have few:vs.toArray.size<2:=by rw[eA];exact h2
 rw[if_pos few,if_pos few];refine aG (aN ?_);rw[StateT.run_pure];refine aG (aN ?_);rw[24];have BT:(arrOf (SortSt.mk' general' (vs.toArray.zip vs.toArray) #[] 7 ae)).map (·.2)=vs.toArray:=by
  show(vs.toArray.zip vs.toArray).map (·.2)=vs.toArray;apply Jd.1;have:∀ l:List aE,List.map (λx=>x.snd) (l.zip l)=l:=λl=>by
   induction l with
   |nil=>rfl
   |cons a l ih=>rw[Hm,dI,ih]
  simpa using this vs
 rw[BT];refine aG (seqEpoch_at Tl rfl (aG (listUpdate_at Tl rfl ?_ (eO _) (Nat.le_succ_of_le (by rw[eA];exact lz)))))
 simp only[bne_self_eq_false,iN,if_false];exact aN h
theorem Xr(hl:s.heap.IsList l vs.toArray)(h2:vs.length<2)(h:Q (.ref (s.heap.objs.size+1)) { s with heap:=sortedAll s.heap vs vs.toArray }) :
  aM (aO prog w) A (call (.builtin "sorted") [.ref l]) Q E s:=by
 refine Iw kind_sorted plain_sorted entry_sorted (args_sorted1 _) ?_;unfold Builtin.«sorted»;refine aG (aN (aG (collect_list hl (aG (HE ?_)))));have z:((s.heap.push (hJ "list" #[] 0)).update s.heap.objs.size (fG (· ++ vs.toArray))).objs.size=s.heap.objs.size+1:=by rw[Heap.size_update,size_push']
 have v6:(((s.heap.push (hJ "list" #[] 0)).update s.heap.objs.size (fG (· ++ vs.toArray))).push (hJ "list" vs.toArray 0)).get? (s.heap.objs.size+1)=aa (hJ "list" vs.toArray 0):=z ▸ cW _ rfl;rw[z];refine aG (hG (fX slot_list_sort ⟨_,v6,rfl⟩ entry_list_sort (YJ v6 h2 ⟨_,rfl,?_⟩) (args_list_sort _)));exact aN ⟨_,rfl,h⟩
theorem KH:∀ {a b:List aA},iB a b=af->dC a=dC b->a=b
 |[],[],_,_=>rfl
 |.int i::r,.int j::r',h,e=>by
  have h':iB r r'=af:=by simpa [iB] using h
  have e':hZ (.int i)=hZ (.int j)/\dC r=dC r':=by simpa [dC] using e
  rw[LN (.inl ⟨i,rfl⟩) (.inl ⟨j,rfl⟩) e'.1,KH h' e'.2]
 |.str x::r,.str y::r',h,e=>by
  have h':iB r r'=af:=by simpa [iB] using h
  have e':hZ (.str x)=hZ (.str y)/\dC r=dC r':=by simpa [dC] using e
  rw[LN (.inr ⟨x,rfl⟩) (.inr ⟨y,rfl⟩) e'.1,KH h' e'.2]
def leT (a b:List aA):Bool:=!decide (dC b<dC a)
theorem Ai7 {a b:List aA}:leT a b=af ↔ ¬ dC b<dC a:=by simp[leT]
theorem D6 (a b c:List aA)(h1:leT a b=af)(h2:leT b c=af):leT a c=af:=Ai7.2 (Aq _ _ _ (Ai7.1 h1) (Ai7.1 h2))
theorem D9 (a b:List aA):(leT a b||leT b a)=af:=by
 by_cases h:dC b<dC a
 .have:=ZO _ _ h;simp[leT,h,this]
 .simp[leT,h]
theorem WZ {a b:List aA}(hs:iB a b=af)(h1:leT a b=af)(h2:leT b a=af):a=b:=by
 have h1:=Ai7.1 h1;have h2:=Ai7.1 h2;exact KH hs (List.le_antisymm h1 h2)
def gW (kss:List (List aA)):List (List aA):=kss.mergeSort leT
def sameAll (kss:List (List aA)):Bool:=kss.all λk=>kss.all λk'=>iB k k'
def lh (kss:List (List aA)):Bool:=decide (kss.length<2)||(sameAll kss&&kss.all λk=>(kO k).isSome)
theorem uP (kss:List (List aA)):(gW kss).Perm kss:=List.mergeSort_perm kss leT
theorem NO (kss:List (List aA)):(gW kss).Pairwise λa b=>leT a b=af:=List.pairwise_mergeSort D6 D9 kss
theorem AU(hs:lh kss=af)(hp:qs.Perm kss)(hr:qs.Pairwise λa b=>leT a b=af):qs=gW kss:=by
 have jg:=hp.trans (uP kss).symm;by_cases h2:kss.length<2
 .have l1:qs.length<2:=by rw[hp.length_eq];exact h2
  match qs,l1,jg with
  |[],_,jg=>exact(List.nil_perm.1 jg).symm
  |[q],_,jg=>exact List.singleton_perm.1 jg
 .have zr:sameAll kss=af:=by
   have:(sameAll kss&&kss.all λk=>(kO k).isSome)=af:=by simpa [lh,h2] using hs
   exact(jR.1 this).1
  refine K8 (λa b ma mb h1 h2=>WZ ?_ h1 h2) hr (NO kss) jg
  have ma':=hp.mem_iff.1 ma;have mb':=(uP kss).mem_iff.1 mb;exact eB.1 (eB.1 zr a ma') b mb'
theorem same_kind:∀ {k k':List aA},iB k k'=af->kO k=kO k'
 |[],[],_=>rfl
 |.int _::_,.int _::_,_=>rfl
 |.str _::_,.str _::_,_=>rfl
theorem En(h:kO k=aa T):T = "int" \/ T = "str":=by
 unfold kO at h;split at h
 .cases h;exact .inl rfl
 .cases h;exact .inr rfl
 .cases h
theorem J4(hl:s.heap.IsList l vs.toArray)(ht:Ahj s.heap vs kss)(ok:lh kss=af)(ue:vs.length<64)
  (h:∀ p:List Nat,p.Perm (bY vs.length)->p.map (λi=>kss.getD i [])=gW kss->Q (.ref (s.heap.objs.size+1)) { s with heap:=sortedAll s.heap vs (iL (p.map λi=>vs.getD i eF)) }) :
  aM (aO prog w) A (call (.builtin "sorted") [.ref l]) Q E s:=by
 have ln:=nV ht;have idp:∀ {α:Type} (xs:List α) (d:α),(bY xs.length).map (λi=>xs.getD i d)=xs:=λxs d=>by
  apply IE
  .simp
  .intro i h1 h2;simp at h1;simp[h1]
 by_cases h2:vs.length<2
 .refine Xr hl h2 ?_;have:=h (bY vs.length) (RP _) (by
   rw[ln,idp kss];refine AU ok (RP _) ?_
   match kss,ln with
   |[],_=>exact .nil
   |[k],_=>simp
   | _::_::_,ln=>simp at ln;omega)
  rw[idp vs] at this;exact this
 .have hs:sameAll kss=af/\(kss.all λk=>(kO k).isSome)=af:=by
   have M9:¬ kss.length<2:=by omega
   have:(sameAll kss&&kss.all λk=>(kO k).isSome)=af:=by simpa [lh,M9] using ok
   exact jR.1 this
  obtain⟨k0,m0⟩:∃ k0,k0∈kss:=by
   cases hk:kss with
   |nil=>rw[hk] at ln;exact absurd ln (by simp;intro e;rw[e] at h2;simp at h2)
   |cons k r=>exact⟨k,bF⟩
  obtain⟨T,hT⟩:=yH.1 (eB.1 hs.2 k0 m0);have sm:∀ k∈kss,∀ k'∈kss,iB k k'=af:=λk m k' m'=>eB.1 (eB.1 hs.1 k m) k' m'
  refine Zf hl ht (En hT) (λk m=>(same_kind (sm k m k0 m0)).trans hT) sm (by omega) ue λp hp ha=>?_
  have jg:p.toList.Perm (bY vs.length):=by simpa using L5.1 hp
  have pl:p.toList.length=vs.length:=by rw[jg.length_eq,CZ]
  refine h p.toList jg (AU ok ?_ ?_)
  .have:=jg.map (λi=>kss.getD i [])
   rw[ln,idp kss] at this;exact this
  .rw[yL,RD];intro i j hi hj nn;refine Ai7.2 ?_;have:=ha i j (pB nn) (by omega)
   have e1:at' p i=p.toList[i]:=by simp at hi;simp[at',hi]
   have e2:at' p j=p.toList[j]:=by simp at hj;simp[at',hj]
   rw[e1,e2] at this;exact of_decide_eq_false this
abbrev xT (H:Hp)(ys:List V)(kss:List (List aA)):Prop:=dR (λy k=>∃ b,y=V.ref b/\Arc H k b) ys kss
theorem WU:∀ {kss:List (List aA)} {ys:List V},(∀ ks∈kss,bR ks=af/\cL ks<=6)->Aap K H (kss.map cV) ys->xT H ys kss
 |[],ys,_,r=>by rw[Aan.1 r];exact .nil
 |k::kss,ys,hk,r=>by
  obtain⟨v,t,rfl,r1,r2⟩:=Aah.1 r;obtain⟨b,rfl,tk⟩:=r1.tupK (hk k bF).1 (hk k bF).2;exact .cons ⟨b,rfl,tk⟩ (WU (λx m=>hk x (bL _ m)) r2)
theorem XR(x:∀ c zs,H c=aa (.tup zs)->H' c=aa (.tup zs)):∀ {ys:List V} {kss:List (List aA)},xT H ys kss->xT H' ys kss
 |_,_,.nil=>.nil
 |_,_,.cons ⟨b,e,tk⟩ t=>.cons ⟨b,e,tk.keep x⟩ (XR x t)
theorem Dw(ok:HOk P w H h):∀ {ys:List V} {kss:List (List aA)} {vs:List aE},xT H ys kss->Vals ys vs->Ahj h vs kss
 |_,_,_,.nil,.nil=>.nil
 |_,_,_,.cons ⟨b,e,tk⟩ t,.cons r rr=>by
  subst e;cases r;exact .cons ⟨b,rfl,key_of ok tk⟩ (Dw ok t rr)
def tU (p:List Nat)(ys:List V):List V:=p.map λi=>ys.getD i .non
theorem Aa:∀ {ys:List V} {vs:List aE} (i:Nat),Vals ys vs->i<ys.length->RelV (ys.getD i .non) (vs.getD i eF)
 |_,_,0,.cons r _,_=>r
 |_,_,i+1,.cons _ t,h=>Aa i t (by simpa using h)
theorem ZF(r:Vals ys vs):∀ p:List Nat,(∀ i∈p,i<ys.length)->Vals (tU p ys) (p.map λi=>vs.getD i eF)
 |[],_=>.nil
 |i::p,h=>.cons (Aa i r (h i bF)) (ZF r p λj m=>h j (bL _ m))
theorem Cf:Adw X (.builtin "sorted") (λxs H Q=>∃ p ys kss,xs=[.ref p]/\SqL X.K H p ys/\xT H ys kss/\lh kss=af/\kss.length<64 /\
  ∀ l q,H l=ae->q.Perm (bY ys.length)->q.map (λi=>kss.getD i [])=gW kss->Q (.ref l) (upd H l (.lst (tU q ys)))):=by
 rw[6];obtain⟨p,ys,kss,rfl,hp,rf,ok,hl,q⟩:=h;rw[12];obtain⟨its,rv,pl,hz⟩:=I.list hp;have e1:=rv.length;have e2:=nV rf;refine J4 pl.isList (Dw I.hok rf rv) ok (by omega) λq' jg hs=>?_
 have hq:∀ i∈q',i<ys.length:=λi m=>by
  have:=gM.1 (jg.mem_iff.1 m);omega
 obtain⟨e,he⟩:=sortedAll_at s.heap its (iL (q'.map λi=>its.getD i eF))
 have hn:=I.hok.fresh (sW _);have lz:(tU q' ys).length<=sizeLine:=by
  unfold tU;rw[cJ,jg.length_eq,CZ];omega
 exact⟨.ref (s.heap.objs.size+1),_,I.laid (t':=s.toks) (o:=.lst (tU q' ys)) (λb ob g=>sortedAll_old g) (sW _) ⟨lz,_,e,ZF rv q' hq,he⟩,rfl,q _ q' hn (by rw[e1];exact jg) hs⟩
def vW:List aA->Option aA
 |[.list ds]=>(jS ds).bind λkss=>if lh kss=af/\kss.length<64 then aa (.list ((gW kss).map cV)) else ae
 |_=>ae
theorem ZD:∀ {kss:List (List aA)} {ys:List V} (i:Nat),Aap K H (kss.map cV) ys->i<ys.length->Abm K H (.tuple (kss.getD i [])) (ys.getD i .non)
 |[],ys,i,r,h=>by rw[Aan.1 r] at h;simp at h
 |k::kss,ys,0,r,h=>by
  obtain⟨v,t,rfl,r1,r2⟩:=Aah.1 r;exact r1
 |k::kss,ys,i+1,r,h=>by
  obtain⟨v,t,rfl,r1,r2⟩:=Aah.1 r;exact ZD i r2 (by simpa using h)
theorem ZU(r:Aap K H (kss.map cV) ys):∀ p:List Nat,(∀ i∈p,i<ys.length)->Aap K H ((p.map λi=>kss.getD i []).map cV) (tU p ys)
 |[],_=>Aan.2 rfl
 |i::p,h=>Aah.2 ⟨_,_,rfl,ZD i r (h i bF),ZU r p λj m=>h j (bL _ m)⟩
theorem Cb:CallD K 1 (λxs H Q=>∃ p ys kss,xs=[.ref p]/\SqL K H p ys/\xT H ys kss/\lh kss=af/\kss.length<64 /\
  ∀ l q,H l=ae->q.Perm (bY ys.length)->q.map (λi=>kss.getD i [])=gW kss->Q (.ref l) (upd H l (.lst (tU q ys)))) vW:=λP H xs ds d Q hP r e k=>by
 unfold vW at e;split at e
 .obtain⟨kss,e1,e2⟩:=ao e;obtain⟨⟨ok,hl⟩,rfl⟩:=cQ e2;obtain⟨rfl,hk⟩:=YG e1;obtain⟨v,rfl,r'⟩:=hE r;obtain⟨q,ys,rfl,hq,rr⟩:=Abb.1 r';refine⟨q,ys,kss,rfl,Aas.sqL hq,?_,ok,hl,λl p hn hp hs=>?_⟩
  .exact XR (λc zs g=>Aas _ _ g) (WU hk rr)
  .have hi:∀ i∈p,i<ys.length:=λi m=>gM.1 (hp.mem_iff.1 m)
   have:=ZU rr p hi;rw[hs] at this;exact k.lst hP hn this
 .cases e
def sNo:SF:=λ_=>ae
theorem TZ{s:bZ}:DS X H0 P0 n0 s sNo:=λad st Z H D I q=>by
 obtain⟨B0,Y,fp,o,S,ef,k⟩:=q;cases ef
abbrev tX (h:aQ)(r l:aD)(i:Int):Prop:=h.get? r=aa { cls:=.type "list_reverseiterator",dict:=ae,data:=.fields #[.ref l,cS i],slots:=#[] }
theorem Ad0:QQ "list_reverseiterator" "__next__" "list_reverseiterator.__next__":=
 .of (owner:="list_reverseiterator") (n:="__next__") (by rw[yD,yG];kernel_rfl) (by rw[0]) (by rw[0]) (by rw[0])
  (by first|exact .inl (by rw[0])|exact .inr (by rw[0])) (by rw[uV];kernel_rfl)
theorem Dd:uX table "list_reverseiterator.__next__" = aa Builtin.«list_reverseiterator.__next__»:=QL (by kernel_rfl)
theorem Al:Manifest.owners.lookup (String.ofList "list_reverseiterator".toList.reverse.reverse)=aa Manifest.sig_list_reverseiterator:=by kernel_rfl
theorem Cr (a:aE):uZ "list_reverseiterator.__next__" ⟨[a],[]⟩:=by
 unfold uZ;rw[QJ (id:="list_reverseiterator.__next__") (n:="__next__".toList.reverse) (o:="list_reverseiterator".toList.reverse) (by kernel_rfl) Al]
 kernel_rfl
theorem Cv:QQ "list_reverseiterator" "__iter__" "list_reverseiterator.__iter__":=
 .of (owner:="list_reverseiterator") (n:="__iter__") (by rw[yD,yG];kernel_rfl) (by rw[0]) (by rw[0]) (by rw[0])
  (by first|exact .inl (by rw[0])|exact .inr (by rw[0])) (by rw[uV];kernel_rfl)
theorem k5:uX table "list_reverseiterator.__iter__" = aa Builtin.«dict_keyiterator.__iter__»:=
 QM (id':="dict_keyiterator.__iter__") (by kernel_rfl) (by first|rfl|decide +kernel|(unfold Gm;simp +decide [Gk])) (by rw[0]) (by kernel_rfl)
theorem i3 (a:aE):uZ "list_reverseiterator.__iter__" ⟨[a],[]⟩:=by
 unfold uZ;rw[QJ (id:="list_reverseiterator.__iter__") (n:="__iter__".toList.reverse) (o:="list_reverseiterator".toList.reverse) (by kernel_rfl) Al]
 kernel_rfl
theorem Wx{k:Nat}{Q:Option aE->aH->Prop}(hr:tX s.heap r l (k:Int))(hl:s.heap.IsList l us)(hu:us[k]?=aa u)
  (q:∀ h',tX h' r l ((k:Int)-1)->nY r s.heap h'->Q (aa u) { s with heap:=h' }):aM (aO P w) A (gL (.ref r)) Q E s:=by
 have ty:s.TypeIs (.ref r) "list_reverseiterator":=⟨_,hr,rfl⟩;obtain⟨ol,l1,_,nl,l2⟩:=hl;unfold gL;refine aG (rF (mP ty Ad0 (fX Ad0 ty Dd ?_ (Cr _))));show aM _ _ (field (.ref r) 1>>=_) _ _ s;refine aG (jO hr rfl (x:=cS k) rfl ?_);have h0:¬ ((k:Int)<0):=by omega
 show aM _ _ (if (k:Int)<0 then _ else _) _ _ s
 rw[if_neg h0];refine aG (jO hr rfl rfl (aG (kB l1 l2 ?_)));simp only[kX,hu];refine aG (nO hr (by simp) λh' g sb=>aN ⟨u,rfl,aN (q h' g sb)⟩)
theorem Wr{i:Int}{Q:Option aE->aH->Prop}(hh:A.handled=ae)(hr:tX s.heap r l i)(h0:i<0)(q:∀ h',(∀ b o,s.heap.get? b=aa o->h'.get? b=aa o)->Q ae { s with heap:=h' }):aM (aO P w) A (gL (.ref r)) Q E s:=by
 have ty:s.TypeIs (.ref r) "list_reverseiterator":=⟨_,hr,rfl⟩;unfold gL;refine aG (rF (mP ty Ad0 (fX Ad0 ty Dd ?_ (Cr _))));show aM _ _ (field (.ref r) 1>>=_) _ _ s;refine aG (jO hr rfl (x:=cS i) rfl ?_);show aM _ _ (if i<0 then _ else _) _ _ s
 rw[if_pos h0];refine aG (oW (aG ?_));rw[19];simp only[newExc,CL];refine aG (iI ?_ (by size_fits))
 refine aG (yB (by first|rfl|(simp only[HL];rfl)) ?_)
 refine iI ?_ (by size_fits)
 simp only[raiseNew];refine aG (HF ?_)
 first|rw[show A.in1.handled=ae from hh]|rw[hh]
 refine aG (aN (HD ?_));refine aG (sR ⟨_,cW _ rfl,rfl⟩ HJ ?_);exact aN (q _ λb o e=>bN _ (bN _ e))
theorem WV{i:Int}(hr:tX s.heap r l i)(q:Q (.ref r) s):aM (aO P w) A (lL (.ref r)) Q E s:=by
 have ty:s.TypeIs (.ref r) "list_reverseiterator":=⟨_,hr,rfl⟩;refine xZ ty Cv (fX Cv ty k5 ?_ (i3 _));exact aN ⟨_,rfl,"list_reverseiterator",_,ty,Ad0.lookup,q⟩
theorem e8{Q₁:aE->aH->Prop}(hl:s.heap.get? l=aa { cls:=.type "list",dict:=ae,data:=.seq us n,slots:=sl })
  (q:Q₁ (.ref s.heap.objs.size) { s with heap:=s.heap.push { cls:=.type "list_reverseiterator",data:=.fields #[.ref l,cS ((us.size:Int)-1)] } }) :
  nQ (aO P w) A (.call (.builtin "reversed.__new__") ⟨[.type "reversed",.ref l],[]⟩) (wants Q₁ E) s:=by
 have de:isSubtype (.type "reversed") (.type "reversed")=pure af:=by rw[uV];kernel_rfl
 refine Gj (by rw[0]) (QL (by kernel_rfl):uX table "reversed.__new__" = aa Builtin.«reversed.__new__») (yB (show checkBuiltinCall "reversed.__new__" ⟨[.type "reversed",.ref l],[]⟩=pure () by kernel_rfl) ?_)
 obtain⟨hp,g,d,tk,os⟩:=s;have ty:(⟨hp,g,d,tk,os⟩:aH).TypeIs (.ref l) "list":=⟨_,hl,rfl⟩;have f1:=RV.lookup;have f2:=RV.bind (.ref l);unfold Builtin.«reversed.__new__»
 wp_walk
 refine Gj RV.plain F.entry_list_reversed (RV.check _ _ _ _ _ _ _ _ ty (F.args_list_reversed_1 _) ?_)
 wp_walk
 exact q
theorem Wl(hl:s.heap.get? l=aa { cls:=.type "list",dict:=ae,data:=.seq us n,slots:=sl })
  (q:Q (.ref s.heap.objs.size) { s with heap:=s.heap.push { cls:=.type "list_reverseiterator",data:=.fields #[.ref l,cS ((us.size:Int)-1)] } }):aM (aO P w) A (call (.type "reversed") [.ref l]) Q E s:=by
 have mro:mroOf (.type "reversed")=pure [.type "reversed",.type "object"]:=by rw[mroOf_type];kernel_rfl
 have lk:HH (.type "reversed") "__new__" = pure (aa (.builtin "reversed.__new__")):=by rw[yD,yG];kernel_rfl
 have S7:Bind.madeBy (.type "reversed")=pure (aa "reversed.__new__"):=madeBy_type mro lk (by rw[0])
 have de:isSubtype (.type "reversed") (.type "reversed")=pure af:=by rw[uV];kernel_rfl
 have qz:isSubtype (.type "list_reverseiterator") (.type "reversed")=pure ag:=by rw[uV];kernel_rfl
 refine wpAny_call (codeAny_of_tree (show aM _ _ (callAny (.type "reversed") _) _ _ _ from ?_))
 refine aN ⟨Code.quiet_builtin _ (by rw[0]),lM F.entry_type_call ?_⟩
 rw[Around.under_plain (weight_type_call_type "reversed" [.ref l] []) rfl];have z1:(kE "reversed" == kE "type")=ag:=by rw[0]
 have z2:((Manifest.find? "reversed").bind (·.mro.findSome? λt=>(Manifest.find? t).bind λb=>if b.noNew then aa af else if b.attrs.any (·.1 == "__new__") then aa ag else ae)).getD ag=ag:=by rw[0]
 have z3:checkTypeCall "reversed" ⟨[.ref l],[]⟩=pure ():=by kernel_rfl
 repeat (any_goals (first|assumption|wp_step))
 refine CM (e8 (E:=E) (Q₁:=λu s1=>u=.ref s.heap.objs.size/\s1={ s with heap:=s.heap.push { cls:=.type "list_reverseiterator",data:=.fields #[.ref l,cS ((us.size:Int)-1)] } }) hl ⟨rfl,rfl⟩) λr s1 hr=>?_
 match r,hr with
 |.error e,hr=>exact hr
 |.ok (.ret u),hr=>
  obtain⟨rfl,rfl⟩:=hr;refine aG (sR (T:="list_reverseiterator") (b:=ag) ⟨_,cW _ rfl,rfl⟩ qz ?_);exact aG (oW (aN q))
theorem Ez {α:Type}{l:List α}(h:i<l.length):(l[i]::l.eraseIdx i).Perm l:=by
 rw[List.eraseIdx_eq_take_drop_succ];refine List.perm_middle.symm.trans ?_;have:l.take i++l[i]::l.drop (i+1)=l:=by
  rw[<-Ii h,Hn]
 rw[this]
theorem Fk {α:Type}(f:Nat->Nat):∀ (n k:Nat) (l:List α) (out:Array α),l.length=n->(pickOrder.go f n k l out).toList.Perm (out.toList++l)
 |0,k,l,out,h=>by
  have:l=[]:=Hw.1 h;rw[20];show out.toList.Perm _;simp
 |n+1,k,l,out,h=>by
  have hi:f k%l.length<l.length:=sV _ (by omega)
  unfold pickOrder.go;rw[fA hi];rw[24];refine(Fk f n (k+1) _ _ (by rw[K5 hi];omega)).trans ?_
  rw[Array.toList_push,RO];exact(Ez hi).append_left _
theorem D0 {α:Type}(f:Nat->Nat)(xs:Array α):(pickOrder f xs).toList.Perm xs.toList:=by
 have:=Fk f xs.size 0 xs.toList #[] (by simp)
 simpa [pickOrder] using this
def um (w:bB)(a:aD)(ep:Nat)(es:Array (Int×aE)):List (Int×aE):=if fD w=af then(pickOrder (w.params.setOrder a ep) es).toList else es.toList
theorem WK (w:bB)(a:aD)(ep:Nat)(es:Array (Int×aE)):(um w a ep es).Perm es.toList:=by
 unfold um;split
 .exact D0 _ _
 .exact .refl _
theorem EZ (w:bB)(a:aD)(ep:Nat)(es:Array (Int×aE)):(um w a ep es).length=es.size:=by
 rw[(WK w a ep es).length_eq,fZ]
def slotAt (w:bB)(t:dZ):Nat->Nat
 |0=>0
 |i+1=>if fD w=af then 0 else t.place.getD i 0+1
theorem MX (w:bB)(t:dZ)(i:Nat):slotAt w t (i+1)=if fD w=af then 0 else t.place.getD i 0+1:=rfl
theorem G7{t:dZ}(hr:mW t.place)(hb:fD w=ag)(hi:i<=t.place.size):below t.place (slotAt w t i)=i:=by
 obtain⟨b1,b2,b3⟩:=GM hr (slotAt w t i);cases i with
 |zero=>
  rcases Nat.eq_zero_or_pos (below t.place (slotAt w t 0)) with e|e
  .exact e
  .have:=b2 0 e (t.place[0]'(by omega)) (kY _)
   exact absurd this (by simp[slotAt])
 |succ i=>
  have hv:t.place[i]?=aa (t.place[i]'(by omega)):=kY _
  have es:slotAt w t (i+1)=t.place[i]'(by omega)+1:=by
   rw[MX,if_neg (by rw[hb];simp)]
   simp[Array.getD,show i<t.place.size by omega]
  rw[es] at b1 b2 b3 ⊢;rcases CV (below t.place (t.place[i]'(by omega)+1)) (i+1) with c|c|c
  .have:=b3 i (by omega) _ hv
   omega
  .exact c
  .have X5:t.place[i+1]?=aa (t.place[i+1]'(by omega)):=kY _
   have h1:=b2 (i+1) c _ X5;have h2:=hr i (i+1) _ _ (by omega) hv X5
   omega
section
variable {t:dZ}
theorem WN (S:WSet w s.heap a o es ep t)(nk:fD w=ag->(!t.plain&&decide (es.size > 1))=ag)(hi:i<=es.size){Q:Option (aE×Nat)->aH->Prop}
  (q:Q (((um w a ep es)[i]?).map λe=>(e.2,slotAt w t (i+1))) s):aM (aO prog w) A (setNext a (slotAt w t i) i ep) Q E s:=by
 unfold setNext;rw[9];unfold setsByText;refine aG (aG (CK (aN ?_)));by_cases hb:fD w=af
 .refine rE (λ_=>?_) (λz=>absurd hb z)
  rw[if_neg (by simp)]
  rw[19];unfold setWalk;rw[9];unfold setsByText;refine aG (aG (CK (aN ?_)));refine rE (λ_=>?_) (λz=>absurd hb z)
  refine aG (CK (aN (aN ?_)));have e1:um w a ep es=(pickOrder (w.params.setOrder a ep) es).toList:=by unfold um;rw[if_pos hb]
  have e2:∀ j,slotAt w t j=0:=λj=>by
   cases j with
   |zero=>rfl
   |succ j=>rw[MX,if_pos hb]
  rw[e1,e2 (i+1),oA] at q;rw[e2 i];exact q
 .refine rE (λz=>absurd z hb) (λ_=>?_)
  have Ch:fD w=ag:=by simpa using hb
  refine rE (λz=>?_) (λ_=>?_)
  .have z':(!t.plain&&decide (es.size > 1))=af:=z;rw[nk Ch] at z';cases z'
  .refine aG (show aM _ _ (if (!t.led&&!es.isEmpty)=af then unsupported "set:maker-not-led" else pure ()) _ _ _ from ?_)
   rw[if_neg (by rw[S.led,Ch];simp)]
   refine aN (aN ?_);have e1:um w a ep es=es.toList:=by unfold um;rw[if_neg hb]
   have hz:=S.fine.good.len;have e3:below t.place (slotAt w t i)=i:=G7 S.fine.good.ris Ch (by omega)
   rw[e1,oA] at q;rw[e3];by_cases c:i<es.size
   .have p1:es[i]?=aa (es[i]'c):=kY _;have p2:t.place[i]?=aa (t.place[i]'(by omega)):=kY _
    have p3:slotAt w t (i+1)=t.place[i]'(by omega)+1:=by
     rw[MX,if_neg hb];simp[Array.getD,show i<t.place.size by omega]
    rw[p1,p3] at q;rw[p1,p2];exact q
   .have p1:es[i]?=ae:=SE (by omega)
    rw[p1] at q;rw[p1];exact q
abbrev vV (h:aQ)(r a:aD)(k i n ep:Nat):Prop:=h.get? r=aa { cls:=.type "set_iterator",dict:=ae,data:=.fields #[cS k,cS i,.ref a,cS n,cS ep],slots:=#[] }
end
theorem Aa9:QQ "set_iterator" "__next__" "set_iterator.__next__":=
 .of (owner:="set_iterator") (n:="__next__") (by rw[yD,yG];kernel_rfl) (by rw[0]) (by rw[0]) (by rw[0])
  (by first|exact .inl (by rw[0])|exact .inr (by rw[0])) (by rw[uV];kernel_rfl)
theorem GX:uX table "set_iterator.__next__" = aa Builtin.«set_iterator.__next__»:=QL (by kernel_rfl)
theorem Ab:Manifest.owners.lookup (String.ofList "set_iterator".toList.reverse.reverse)=aa Manifest.sig_set_iterator:=by kernel_rfl
theorem GY (a:aE):uZ "set_iterator.__next__" ⟨[a],[]⟩:=by
 unfold uZ;rw[QJ (id:="set_iterator.__next__") (n:="__next__".toList.reverse) (o:="set_iterator".toList.reverse) (by kernel_rfl) Ab]
 kernel_rfl
theorem GW:QQ "set_iterator" "__iter__" "set_iterator.__iter__":=
 .of (owner:="set_iterator") (n:="__iter__") (by rw[yD,yG];kernel_rfl) (by rw[0]) (by rw[0]) (by rw[0])
  (by first|exact .inl (by rw[0])|exact .inr (by rw[0])) (by rw[uV];kernel_rfl)
theorem Da:uX table "set_iterator.__iter__" = aa Builtin.«dict_keyiterator.__iter__»:=
 QM (id':="dict_keyiterator.__iter__") (by kernel_rfl) (by first|rfl|decide +kernel|(unfold Gm;simp +decide [Gk])) (by rw[0]) (by kernel_rfl)
theorem Co (a:aE):uZ "set_iterator.__iter__" ⟨[a],[]⟩:=by
 unfold uZ;rw[QJ (id:="set_iterator.__iter__") (n:="__iter__".toList.reverse) (o:="set_iterator".toList.reverse) (by kernel_rfl) Ab]
 kernel_rfl
theorem Cn:uX table "set.__iter__" = aa Builtin.«frozenset.__iter__»:=
 QM (id':="frozenset.__iter__") (by kernel_rfl) (by first|rfl|decide +kernel|(unfold Gm;simp +decide [Gk])) (by rw[0]) (by kernel_rfl)
section
variable {t:dZ}
theorem n8 (S:WSet w s.heap a o es ep t)(nk:fD w=ag->(!t.plain&&decide (es.size > 1))=ag)(hr:vV s.heap r a (slotAt w t i) i es.size ep){e:Int×aE}(he:(um w a ep es)[i]?=aa e){Q:Option aE->aH->Prop}
  (q:∀ h',vV h' r a (slotAt w t (i+1)) (i+1) es.size ep->nY r s.heap h'->Q (aa e.2) { s with heap:=h' }):aM (aO prog w) A (gL (.ref r)) Q E s:=by
 have ty:s.TypeIs (.ref r) "set_iterator":=⟨_,hr,rfl⟩;have hi:i<es.size:=by
  rw[<-EZ w a ep es];exact(cT.1 he).1
 unfold gL;refine aG (rF (mP ty Aa9 (fX Aa9 ty GX ?_ (GY _))));show aM _ _ (fieldsOf (.ref r)>>=_) _ _ s;refine aG (CJ hr rfl ?_);refine aG (CH S.get S.data S.fine.fits ?_);rw[if_neg (by simp)]
 show aM _ _ (setNext a ((slotAt w t i:Int)).toNat ((i:Int)).toNat ((ep:Int)).toNat>>=_) _ _ s;rw[kX,kX,kX];refine aG (WN S nk (by omega) ?_)
 rw[he];refine aG (nO hr (by simp) λh1 g1 wu=>?_)
 refine aG (nO g1 (by simp) λh2 g2 X4=>aN ⟨e.2,rfl,aN (q h2 ?_ (wu.trans X4))⟩)
 exact g2
theorem Wa (hh:A.handled=ae)(S:WSet w s.heap a o es ep t)(nk:fD w=ag->(!t.plain&&decide (es.size > 1))=ag)(hr:vV s.heap r a (slotAt w t es.size) es.size es.size ep){Q:Option aE->aH->Prop}
  (q:∀ h',(∀ b ob,b≠r->s.heap.get? b=aa ob->h'.get? b=aa ob)->Q ae { s with heap:=h' }):aM (aO prog w) A (gL (.ref r)) Q E s:=by
 have ty:s.TypeIs (.ref r) "set_iterator":=⟨_,hr,rfl⟩;unfold gL;refine aG (rF (mP ty Aa9 (fX Aa9 ty GX ?_ (GY _))));show aM _ _ (fieldsOf (.ref r)>>=_) _ _ s;refine aG (CJ hr rfl ?_);refine aG (CH S.get S.data S.fine.fits ?_);rw[if_neg (by simp)]
 show aM _ _ (setNext a ((slotAt w t es.size:Int)).toNat ((es.size:Int)).toNat ((ep:Int)).toNat>>=_) _ _ s;rw[kX,kX,kX];refine aG (WN S nk (bE _) ?_);rw[RI (by rw[EZ];exact bE _)]
 refine aG (nO hr (by simp) λh1 g1 wu=>?_)
 rw[19];simp only[newExc,CL];refine aG (iI ?_ (by size_fits))
 refine aG (yB (by first|rfl|(simp only[HL];rfl)) ?_)
 refine iI ?_ (by size_fits)
 simp only[raiseNew];refine aG (HF ?_)
 first|rw[show A.in1.handled=ae from hh]|rw[hh]
 refine aG (aN (HD ?_));refine aG (sR ⟨_,cW _ rfl,rfl⟩ HJ ?_);exact aN (q _ λb ob ne e=>bN _ (bN _ ((wu.2 b ne).trans e)))
theorem m8 {k:Nat}(hr:vV s.heap r a k i n ep)(q:Q (.ref r) s):aM (aO prog w) A (lL (.ref r)) Q E s:=by
 have ty:s.TypeIs (.ref r) "set_iterator":=⟨_,hr,rfl⟩;refine xZ ty GW (fX GW ty Da ?_ (Co _));exact aN ⟨_,rfl,"set_iterator",_,ty,Aa9.lookup,q⟩
theorem Vz (S:WSet w s.heap a o es ep t)(nk:fD w=ag->(!t.plain&&decide (es.size > 1))=ag)
  (q:Q (.ref s.heap.objs.size) { s with heap:=s.heap.push { cls:=.type "set_iterator",data:=.fields #[cS (0:Nat),cS (0:Nat),.ref a,cS (es.size:Nat),cS (ep:Nat)] } }):aM (aO prog w) A (lL (.ref a)) Q E s:=by
 have ty:s.TypeIs (.ref a) "set":=⟨_,S.get,S.exact.1⟩;refine xZ ty RU (fX RU ty Cn ?_ (F.args_set_iter_1 _));show aM _ _ (SB a>>=_) _ _ s;unfold SB;refine aG (aG (CH S.get S.data S.fine.fits (aN ?_)));rw[19];unfold setDrawn;rw[9];unfold setsByText;refine aG (aG (CK (aN ?_)));refine aN ?_;refine rE (λz=>?_) (λ_=>aG (aN ?_))
 .have z':(!(w.params.followText "set-order")&&(!t.plain&&decide (es.size > 1)))=af:=z;cases hb:fD w with
  |true=>
   have Ch:w.params.followText "set-order" = af:=hb;rw[Ch] at z';cases z'
  |false=>
   rw[nk hb] at z';simp at z'
 .refine aG (wpAny_setEpoch_of S.get S.data S.fine.fits ?_);exact aG (iI (aN ⟨_,rfl,"set_iterator",_,⟨_,cW _ rfl,rfl⟩,Aa9.lookup,q⟩) (by size_fits))
theorem C6 (hh:A.handled=ae)(r a:aD)(ne:a≠r){h0:aQ}(S:WSet w h0 a o es ep t)(nk:fD w=ag->(!t.plain&&decide (es.size > 1))=ag) :
  Walks prog w A r [r,a] [r] es.size (λi v=>∃ e,(um w a ep es)[i]?=aa e/\v=e.2) (λi h=>vV h r a (slotAt w t i) i es.size ep/\h.get? a=aa o) where
 sub:=λb hb=>by rw[bX.1 hb];exact bF
 frame:=λ_ _ _ st hk=>⟨hk r bF _ st.1,hk a (bL _ bF) _ st.2⟩
 item:=λi s Q E hi st hQ=>by
  have S':WSet w s.heap a o es ep t:=⟨st.2,S.exact,S.data,S.fine,S.led⟩;have hx:(um w a ep es)[i]?=aa ((um w a ep es)[i]'(by rw[EZ];exact hi)):=fA _
  exact n8 S' nk st.1 hx λh' kc sb=>hQ _ h' s.toks ⟨_,hx,rfl⟩ ⟨kc,(sb.2 a ne).trans st.2⟩ λb o hb e=>(sb.2 b (λz=>hb (bX.2 z))).trans e
 done:=λs Q E st hQ=>by
  have S':WSet w s.heap a o es ep t:=⟨st.2,S.exact,S.data,S.fine,S.led⟩;exact Wa hh S' nk st.1 λh' he=>hQ h' s.toks λb ob hb e=>he b ob (λz=>hb (bX.2 z)) e
 self:=λ_ _ _ _ st hQ=>m8 st.1 hQ
end
def IQ (K:aK)(a:aD)(n:Nat):It:=
 ⟨λi H=>∃ xs,SqL K H a xs/\xs.length=n/\i<n,λi H x H'=>H'=H/\∀ xs,SqL K H a xs->xs[n-1-i]?=aa x,λi H=>n<=i⟩
theorem Vh(a r:aD)(n:Nat):Turn P w K tg (IQ K a n) [r] r (λi h=>tX h r a ((n:Int)-1-i)) where
 mem:=bX.2 rfl
 obj:=λi h st b hb=>by
  rw[bX.1 hb];exact⟨_,st,λv z=>by
   have z':Data.fields _=Data.cell v:=z;cases z'⟩
 keep:=λi h h' st k=>k r (bX.2 rfl) _ st
 item:=by
  rw[2];obtain⟨xs,hq,hn,hi⟩:=hg;obtain⟨its,rv,p,hz⟩:=I.list hq;have hl:=rv.length;obtain⟨x,hx⟩:∃ x,xs[n-1-i]?=aa x:=⟨_,fA (by omega)⟩
  obtain⟨u,hu,ru⟩:=rv.get hx;have ei:((n:Int)-1-i)=((n-1-i:Nat):Int):=by omega
  rw[ei] at st;refine Wx st p.isList (by simpa using hu) λh' kc sb=>?_
  have I1:Inv X ad Z H { s with heap:=h' }:=I.turnM (t':=s.toks) hf λb o nb e=>sb.extBut b o (λq=>nb (bX.2 q)) e
  have vh:tX h' r a ((n:Int)-1-((i+1:Nat):Int)):=by
   have e2:((n:Int)-1-((i+1:Nat):Int))=((n-1-i:Nat):Int)-1:=by omega
   rw[e2];exact kc
  exact⟨u,rfl,CD vh rfl rfl (by decide) ⟨x,H,I1,ru,⟨rfl,λql h=>by rw[I.list_inj h hq];exact hx⟩,vh,λb hb=>(hf b hb).1⟩⟩
 done:=by
  rw[2];have hg':n<=i:=hg;exact Wr (I.ok.hd hc) st (by omega) λh' eb=>⟨rfl,I.turnM (t':=s.toks) hf λb o nb e=>eb b o e⟩
 self:=λ_ _ _ _ _ st h=>WV st h
section
variable {a:aR}{p:bQ}
def Jn (K:aK)(ta:TA):TI:=λZ H R=>ta Z H λvs H1=>∃ a1 xs,vs=[.ref a1]/\SqL K H1 a1 xs/\R (IQ K a1 xs.length) H1
theorem Ms {ta:TA}(hg:Gl X "reversed")(hm:X.mg "reversed" = ae)(ha:PA X [a] ta)(hs:bH [a] X.env=[(ag,bM a X.env)]:=by rfl):PI X tg (.Call (.Name "reversed" p) [a] [] pos) (Jn X.K ta):=by
 intro ad s Z H R I h;refine Call_ (wA I hg hm boot_reversed (QT (bo (ha pos ad s Z H _ I h) λus s1 ⟨vs,H1,I1,r1,q1⟩=>?_) hs (by rfl)))
 obtain⟨a1,xs,rfl,k1,q⟩:=q1;obtain⟨u,rfl,ru⟩:=vals1 r1;cases ru;obtain⟨its,rv,⟨o,n,ho,vk,oq,yv⟩,hz⟩:=I1.list k1;have hl:=rv.length;obtain⟨c,dct,dat,sl⟩:=o;simp only at vk oq yv;subst vk oq yv;have g:tX (s1.heap.push { cls:=.type "list_reverseiterator",data:=.fields #[.ref a1,cS ((its.toArray.size:Int)-1)] }) s1.heap.objs.size a1 ((its.toArray.size:Int)-1):=cW _ rfl;refine Wl ho (WV g ?_);refine⟨s1.heap.objs.size,[s1.heap.objs.size],_,_,H1,rfl,I1.kept λb o e=>bN _ e,Vh a1 _ xs.length,?_,λb hb=>?_,q⟩
 .have e:((xs.length:Int)-1-((0:Nat):Int))=((its.toArray.size:Int)-1):=by
   rw[eA,hl];simp
  rw[e];exact g
 .rw[bX.1 hb];exact I1.fpOk (bE _) (I1.hok.fresh (bE _))
def iRv (fa:AF):AF:=λY=>(fa Y).bind λds=>match ds with
 |[.list xs]=>aa xs.reverse
 |_=>ae
theorem Th{a1:aD}(h1:∀ H2,Ext B H2->SqL K H2 a1 xs)(r1:Aap K B ds xs):vt K B (IQ K a1 xs.length) ds.reverse:=λi H2 x2=>by
 have hl:=r1.length;refine⟨λd hd=>?_,λe=>?_⟩
 .have hi:i<ds.length:=by
   have:=(cT.1 hd).1;simpa using this
  rw[List.getElem?_reverse hi] at hd;obtain⟨v1,g1,g2⟩:=r1.get hd;refine⟨⟨xs,h1 H2 x2,rfl,by omega⟩,?_⟩
  rintro x H3 ⟨rfl,hx⟩;have:=hx xs (h1 _ x2);rw[hl] at this;obtain rfl:v1=x:=fF (g1.symm.trans this);exact⟨Ext.refl,λP2 _ xb=>g2.ext xb⟩
 .have e':ds.length=i:=by simpa using e
  show xs.length<=i;omega
theorem Pi {fa:AF}(hg:Gl X "reversed")(hm:X.mg "reversed" = ae)(ha:DA X [a] fa)(hs:bH [a] X.env=[(ag,bM a X.env)]:=by rfl) :
  DI X tg (.Call (.Name "reversed" p) [a] [] pos) (iRv fa):=PI.imp (Ms hg hm ha hs) λZ H R gh=>by
 obtain⟨P,Y,ds,hP,rs,ef,k⟩:=gh;obtain⟨as,e1,cw⟩:=ao ef;clear ef;split at cw
 .cases cw;refine⟨P,Y,_,hP,rs,e1,λvs H1 x1 r1=>?_⟩
  obtain⟨v,rfl,q1⟩:=hE r1;obtain⟨a1,xs,rfl,hr,rr⟩:=Abb.1 q1;exact⟨a1,xs,rfl,Aas.sqL hr,k _ H1 x1 (Th (λH2 x2=>x2.sqL hr) rr)⟩
 .cases cw
end
theorem YF{Q:Bool->aH->Prop}(ty:s.TypeIs (.ref a) "set")(q:Q ag s):aM (aO prog w) A (SA (.ref a)) Q E s:=by
 unfold SA;refine aG (xY ty F.slot_set_len.lookup ?_);generalize hid:("set.__len__" : String)=id0
 wp_delta
 rw[show splitId id0=aa ("set","__len__") from by subst hid;decide +kernel]
 subst hid;refine aG (sR ty sub_set_self ?_);refine rE (λqp=>absurd qp (by decide)) (λ_=>?_)
 refine rE (λ_=>?_) (λqp=>absurd (by rw[0]) qp)
 refine aG (nN ty ?_);exact aN q
set_option maxHeartbeats 4000000 in
theorem Zd{t:dZ}(hh:A.handled=ae)(S:WSet w s.heap a o es ep t)(nk:fD w=ag->(!t.plain&&decide (es.size > 1))=ag){Q:List aE->aH->Prop}
  (q:∀ h' tk,s.toks<=tk->s.heap.objs.size<h'.objs.size->(∀ b ob,s.heap.get? b=aa ob->h'.get? b=aa ob)->Q ((um w a ep es).map (·.2)) { s with heap:=h',toks:=tk }):aM (aO prog w) A (collect (.ref a)) Q E s:=by
 have aS:=bU S.get;unfold collect;refine aG (wpAny_runValue (lM F.entry_proto_collect ?_));rw[oB F.plain_proto_collect _];refine aG (show aM _ A.in1 (newList []) _ _ s from iI ?_)
 refine aN ⟨nP RW _,lM F.entry_list_iadd ?_⟩;rw[oB RW _];generalize Cl:s.heap.push { cls:=.type "list",data:=.seq ([]:List aE).toArray }=h1;have k1:∀ b ob,s.heap.get? b=aa ob->h1.get? b=aa ob:=λb ob e=>by rw[<-Cl];exact bN _ e
 have z1:h1.objs.size=s.heap.objs.size+1:=by rw[<-Cl];exact qH _ _
 have g1:h1.get? s.heap.objs.size=aa { cls:=.type "list",data:=.seq ([]:List aE).toArray }:=by rw[<-Cl];exact cW _ rfl
 have S1:WSet w h1 a o es ep t:=⟨k1 _ _ S.get,S.exact,S.data,S.fine,S.led⟩;show aM _ A.in1 (vJ (.ref s.heap.objs.size) (.ref a) (.ref s.heap.objs.size)) _ _ _;unfold vJ;refine aG (nN ⟨_,S1.get,S1.exact.1⟩ ?_);have n1:DM (.ref s.heap.objs.size) (.ref a)=ag:=by simp[DM,kG aS]
 rw[if_neg (by rw[n1];decide)]
 refine aG (Vz S1 nk ?_);generalize N8:h1.push { cls:=.type "set_iterator",data:=.fields #[cS (0:Nat),cS (0:Nat),.ref a,cS (es.size:Nat),cS (ep:Nat)] }=h2;have k2:∀ b ob,h1.get? b=aa ob->h2.get? b=aa ob:=λb ob e=>by rw[<-N8];exact bN _ e
 have gr:vV h2 h1.objs.size a (slotAt w t 0) 0 es.size ep:=by rw[<-N8];exact cW _ rfl
 have S2:WSet w h2 a o es ep t:=⟨k2 _ _ S1.get,S.exact,S.data,S.fine,S.led⟩;have ne:a≠h1.objs.size:=by rw[z1];exact cI (pX aS)
 refine aG (hG (YF ⟨_,S2.get,S2.exact.1⟩ ?_));refine rE (λ_=>?_) (λz=>absurd (by rw[0]) z)
 refine aG (oW ?_);refine aG (show aM _ A.in1 (yC s.heap.objs.size (·.push .none)>>=λ_=>yC s.heap.objs.size (·.pop)) _ _ _ from ?_)
 refine aG (xX (k2 _ _ g1) rfl ?_);have TW:=qI (fG (·.push eF)) (k2 _ _ g1) rfl;refine xX TW rfl ?_;have hS3:=qI (fG (·.pop)) TW rfl;have zh:∀ b ob,b≠s.heap.objs.size->h2.get? b=aa ob->((h2.update s.heap.objs.size (fG (·.push eF))).update s.heap.objs.size (fG (·.pop))).get? b=aa ob:=
  λb ob hb e=>(sY _ _ (hW hb)).trans ((sY _ _ (hW hb)).trans e)
 have nS:s.heap.objs.size∉[h1.objs.size,a]:=by
  intro z;rw[18]
  .rw[z1] at z;exact absurd z (cI (yJ _))
  .exact absurd (bX.1 z) (kG aS)
 have few:=S.fine.few;refine aN ⟨nP Ir _,Gi ((C6 (by simp[hh]) h1.objs.size a ne S2 nk).toS) (by rw[lJ];omega) _ nS _ es.size 0 _ _ _ rfl (eO _) ⟨zh _ _ (by rw[z1];exact Nat.succ_ne_self _) gr,zh _ _ (cI aS) S2.get⟩ hS3 (ItemsOf.nil _) λs' bq c' hm qm fw=>?_⟩
 refine aG (wpAny_load qm (aN ?_));obtain⟨h',g',d',vp,we⟩:=s';obtain rfl:g'=s.gens:=hm.gens;obtain rfl:d'=s.drawn:=hm.drawn;obtain rfl:we=s.os:=hm.os;have Db:bq.toList=(um w a ep es).map (·.2):=by
  apply RM;intro j;rw[eW,oA];by_cases hj:j<es.size
  .have e1:bq[j]?=aa (bq[j]'(by rw[fw.1];exact hj)):=kY _
   obtain⟨e,he,ev⟩:=fw.2 j _ e1;rw[e1,he,ev]
   rfl
  .rw[SE (by rw[fw.1];omega),RI (by rw[EZ];omega)]
   rfl
 rw[Db];refine q h' vp hm.toks (bU qm) λb ob e=>?_
 have hb:=bU e;refine hm.heap b ob (λz=>?_) (zh b ob (cI hb) (k2 _ _ (k1 _ _ e)))
 rw[18]
 .exact absurd z (cI hb)
 .have z2:=bX.1 z;rw[z1] at z2;exact absurd z2 (cI (pX hb))
section
variable {T:aD}{t:dZ}
theorem Ra {Q5:Source}{Q:Nat->aH->Prop}(h0:n≠0)(q:∀ i d,i<n->Q i { s with drawn:=d }):aM (aO prog w) A (choose Q5 n) Q E s:=λΓ p hΓ=>by
 unfold choose;rw[Sem.wp_choose];exact⟨h0,q _ _ (sV _ (Nat.pos_of_ne_zero h0))⟩
theorem Xt {α:Type}(n:Nat):∀ (xs:List α) {s:aH} {Q:List α->aH->Prop},xs.length=n->(∀ ys d,ys.Perm xs->Q ys { s with drawn:=d })->aM (aO prog w) A (drawOrder n xs) Q E s:=by
 induction n with
 |zero=>
  intro xs s Q h q;have:=Hw.1 h;rw[20];unfold drawOrder;have:=q [] s.drawn (.refl _);exact aN this
 |succ n ih=>
  intro xs s Q h q;cases xs with
  |nil=>simp at h
  |cons x xs=>
   unfold drawOrder;refine aG (Ra (by simp) λi d hi=>?_)
   rw[fA hi];rw[24];refine aG (ih ((x::xs).eraseIdx i) (by rw[K5 hi];simp at h ⊢;omega) λys d' p=>aN ?_)
   exact q _ d' ((p.cons _).trans (Ez hi))
abbrev vU (h:aQ)(r T a:aD)(i n ep:Nat):Prop:=h.get? r=aa { cls:=.type "set_iterator",dict:=ae,data:=.fields #[.ref T,cS i,.ref a,cS n,cS ep],slots:=#[] }
def M4 (es:Array (Int×aE))(ps:List Nat):List (Int×aE):=ps.filterMap (es[·]?)
theorem WJ(h:ps.Perm (bY es.size)):(M4 es ps).Perm es.toList:=(h.filterMap _).trans (by rw[filterMap_getElem?_range])
theorem Sy(h:∀ p∈ps,p<es.size):∀ {i:Nat} {p:Nat},ps[i]?=aa p->(M4 es ps)[i]?=es[p]?:=by
 intro i p hp;unfold M4;rw[PP _ (λk hk=>by rw[kY (h k hk)];rfl),hp]
 rfl
theorem Wf (S:WSet w s.heap a o es ep t)(hT:∃ oT n,s.heap.get? T=aa oT/\oT.data=.seq (ps.map λ(i:Nat)=>cS i).toArray n)(hr:vU s.heap r T a i es.size ep){p:Nat}(hp:ps[i]?=aa p){e:Int×aE}(he:es[p]?=aa e){Q:Option aE->aH->Prop}
  (q:∀ h',vU h' r T a (i+1) es.size ep->nY r s.heap h'->Q (aa e.2) { s with heap:=h' }):aM (aO prog w) A (gL (.ref r)) Q E s:=by
 have ty:s.TypeIs (.ref r) "set_iterator":=⟨_,hr,rfl⟩;obtain⟨oT,nT,gT,dT⟩:=hT;unfold gL;refine aG (rF (mP ty Aa9 (fX Aa9 ty GX ?_ (GY _))));show aM _ _ (fieldsOf (.ref r)>>=_) _ _ s;refine aG (CJ hr rfl ?_);refine aG (CH S.get S.data S.fine.fits ?_);rw[if_neg (by simp)]
 refine aG (kB gT dT ?_);rw[24];rw[show((i:Int)).toNat=i from kX i]
 have e1:(ps.map λ(i:Nat)=>cS i).toArray[i]?=aa (cS p):=by simp[hp]
 rw[e1];show aM _ _ (setNextDrawn a ((p:Int)).toNat ((ep:Int)).toNat>>=_) _ _ s;rw[kX,kX];unfold setNextDrawn;refine aG (aG (rD S.get S.data S.fine.fits ?_));rw[24];rw[if_neg (by simp),he]
 refine aN ?_;refine aG (nO hr (by simp) λh1 g1 wu=>aN ⟨e.2,rfl,aN (q h1 g1 wu)⟩)
theorem Uu (hh:A.handled=ae)(S:WSet w s.heap a o es ep t)(hT:∃ oT n,s.heap.get? T=aa oT/\oT.data=.seq (ps.map λ(i:Nat)=>cS i).toArray n)(hl:ps.length=es.size)(hr:vU s.heap r T a es.size es.size ep){Q:Option aE->aH->Prop}
  (q:∀ h',(∀ b ob,b≠r->s.heap.get? b=aa ob->h'.get? b=aa ob)->Q ae { s with heap:=h' }):aM (aO prog w) A (gL (.ref r)) Q E s:=by
 have ty:s.TypeIs (.ref r) "set_iterator":=⟨_,hr,rfl⟩;obtain⟨oT,nT,gT,dT⟩:=hT;unfold gL;refine aG (rF (mP ty Aa9 (fX Aa9 ty GX ?_ (GY _))));show aM _ _ (fieldsOf (.ref r)>>=_) _ _ s;refine aG (CJ hr rfl ?_);refine aG (CH S.get S.data S.fine.fits ?_);rw[if_neg (by simp)]
 refine aG (kB gT dT ?_);rw[24];rw[show((es.size:Int)).toNat=es.size from kX _]
 have e1:(ps.map λ(i:Nat)=>cS i).toArray[es.size]?=ae:=by simp[hl]
 rw[e1];refine aG (nO hr (by simp) λh0 g0 sb0=>?_)
 refine aG (nO g0 (by simp) λh1 g1 wu=>?_)
 rw[19];simp only[newExc,CL];refine aG (iI ?_ (by size_fits))
 refine aG (yB (by first|rfl|(simp only[HL];rfl)) ?_)
 refine iI ?_ (by size_fits)
 simp only[raiseNew];refine aG (HF ?_)
 first|rw[show A.in1.handled=ae from hh]|rw[hh]
 refine aG (aN (HD ?_));refine aG (sR ⟨_,cW _ rfl,rfl⟩ HJ ?_);exact aN (q _ λb ob ne e=>bN _ (bN _ ((wu.2 b ne).trans ((sb0.2 b ne).trans e))))
theorem Wm(hr:vU s.heap r T a i n ep)(q:Q (.ref r) s):aM (aO prog w) A (lL (.ref r)) Q E s:=by
 have ty:s.TypeIs (.ref r) "set_iterator":=⟨_,hr,rfl⟩;refine xZ ty GW (fX GW ty Da ?_ (Co _));exact aN ⟨_,rfl,"set_iterator",_,ty,Aa9.lookup,q⟩
abbrev qN (ps:List Nat):aZ:={ cls:=.type "tuple",data:=.seq (ps.map λ(i:Nat)=>cS i).toArray }
theorem v8 (S:WSet w s.heap a o es ep t)(hb:fD w=ag)(hd:(!t.plain&&decide (es.size > 1))=af)
  (q:∀ ps d,ps.Perm (bY es.size)->Q (.ref (s.heap.objs.size+1)) { s with heap:=(s.heap.push (qN ps)).push { cls:=.type "set_iterator",data:=.fields #[.ref s.heap.objs.size,cS (0:Nat),.ref a,cS (es.size:Nat),cS (ep:Nat)] },drawn:=d }):aM (aO prog w) A (lL (.ref a)) Q E s:=by
 have ty:s.TypeIs (.ref a) "set":=⟨_,S.get,S.exact.1⟩;refine xZ ty RU (fX RU ty Cn ?_ (F.args_set_iter_1 _));show aM _ _ (SB a>>=_) _ _ s;unfold SB;refine aG (aG (CH S.get S.data S.fine.fits (aN ?_)));rw[19];unfold setDrawn;rw[9];unfold setsByText;refine aG (aG (CK (aN ?_)));refine aN ?_;have Ch:w.params.followText "set-order" = ag:=hb;refine rE (λ_=>?_) (λz=>absurd (show(!(w.params.followText "set-order")&&(!t.plain&&decide (es.size > 1)))=af by rw[Ch,hd];rfl) z)
 have few:=S.fine.few;refine aG (Xt es.size (bY es.size) (by simp) λps d hp=>?_)
 have hz:(ps.map λ(i:Nat)=>cS i).toArray.size<=sizeLine:=by
  have:=hp.length_eq;rw[lJ];simp at this ⊢;omega
 rw[19];simp only[CL];refine iI ?_ hz;have S1:WSet w (s.heap.push (qN ps)) a o es ep t:=⟨bN _ S.get,S.exact,S.data,S.fine,S.led⟩;refine aG (wpAny_setEpoch_of (s:={ s with heap:=s.heap.push (qN ps),drawn:=d }) S1.get S.data S.fine.fits ?_);refine aG (iI (aN ⟨_,rfl,"set_iterator",_,⟨_,cW _ rfl,rfl⟩,Aa9.lookup,?_⟩) (by size_fits))
 have z1:(s.heap.push (qN ps)).objs.size=s.heap.objs.size+1:=qH _ _;have:=q ps d hp;rw[<-z1] at this;exact this
end
theorem Qn(h:ps.Perm (bY es.size)):(M4 es ps).length=es.size:=by
 rw[(WJ h).length_eq,fZ]
theorem A4{t:dZ}(hh:A.handled=ae)(r T a:aD)(ne:a≠r)(nT:T≠r){h0:aQ}(S:WSet w h0 a o es ep t)(hp:ps.Perm (bY es.size)) :
  Walks prog w A r [r,a,T] [r] es.size (λi v=>∃ e,(M4 es ps)[i]?=aa e/\v=e.2) (λi h=>vU h r T a i es.size ep/\h.get? a=aa o/\h.get? T=aa (qN ps)) where
 sub:=λb hb=>by rw[bX.1 hb];exact bF
 frame:=λ_ _ _ st hk=>⟨hk r bF _ st.1,hk a (bL _ bF) _ st.2.1,hk T (bL _ (bL _ bF)) _ st.2.2⟩
 item:=λi s Q E hi st hQ=>by
  have S':WSet w s.heap a o es ep t:=⟨st.2.1,S.exact,S.data,S.fine,S.led⟩;have hl:ps.length=es.size:=by simpa using hp.length_eq
  have hx:ps[i]?=aa (ps[i]'(by omega)):=fA _
  have cf:∀ p∈ps,p<es.size:=λp m=>gM.1 (hp.mem_iff.1 m)
  have hy:es[ps[i]'(by omega)]?=aa (es[ps[i]'(by omega)]'(cf _ (iW _))):=kY _
  exact Wf S' ⟨_,_,st.2.2,rfl⟩ st.1 hx hy λh' kc sb=>hQ _ h' s.toks ⟨_,(Sy cf hx).trans hy,rfl⟩ ⟨kc,(sb.2 a ne).trans st.2.1,(sb.2 T nT).trans st.2.2⟩ λb o hb e=>(sb.2 b (λz=>hb (bX.2 z))).trans e
 done:=λs Q E st hQ=>by
  have S':WSet w s.heap a o es ep t:=⟨st.2.1,S.exact,S.data,S.fine,S.led⟩;exact Uu hh S' ⟨_,_,st.2.2,rfl⟩ (by simpa using hp.length_eq) st.1 λh' he=>hQ h' s.toks λb ob hb e=>he b ob (λz=>hb (bX.2 z)) e
 self:=λ_ _ _ _ st hQ=>Wm st.1 hQ
set_option maxHeartbeats 4000000 in
theorem d8{t:dZ}(hh:A.handled=ae)(S:WSet w s.heap a o es ep t)(hb:fD w=ag)(hd:(!t.plain&&decide (es.size > 1))=af){Q:List aE->aH->Prop}
  (q:∀ h' tk d ps,ps.Perm (bY es.size)->s.toks<=tk->s.heap.objs.size<h'.objs.size->(∀ b ob,s.heap.get? b=aa ob->h'.get? b=aa ob)->Q ((M4 es ps).map (·.2)) { s with heap:=h',toks:=tk,drawn:=d }):aM (aO prog w) A (collect (.ref a)) Q E s:=by
 have aS:a<s.heap.objs.size:=bU S.get;unfold collect;refine aG (wpAny_runValue (lM F.entry_proto_collect ?_));rw[oB F.plain_proto_collect _];refine aG (show aM _ A.in1 (newList []) _ _ s from iI ?_)
 refine aN ⟨nP RW _,lM F.entry_list_iadd ?_⟩;rw[oB RW _];generalize Cl:s.heap.push { cls:=.type "list",data:=.seq ([]:List aE).toArray }=h1;have k1:∀ b ob,s.heap.get? b=aa ob->h1.get? b=aa ob:=λb ob e=>by rw[<-Cl];exact bN _ e
 have z1:h1.objs.size=s.heap.objs.size+1:=by rw[<-Cl];exact qH _ _
 have g1:h1.get? s.heap.objs.size=aa { cls:=.type "list",data:=.seq ([]:List aE).toArray }:=by rw[<-Cl];exact cW _ rfl
 have S1:WSet w h1 a o es ep t:=⟨k1 _ _ S.get,S.exact,S.data,S.fine,S.led⟩;show aM _ A.in1 (vJ (.ref s.heap.objs.size) (.ref a) (.ref s.heap.objs.size)) _ _ _;unfold vJ;refine aG (nN (T:="set") ⟨_,S1.get,S1.exact.1⟩ ?_);have n1:DM (.ref s.heap.objs.size) (.ref a)=ag:=by simp[DM,kG aS]
 rw[if_neg (by rw[n1];decide)]
 refine aG (v8 (s:={ s with heap:=h1 }) S1 hb hd λps d N6=>?_)
 show aM _ _ _ _ _ { s with heap:=(h1.push (qN ps)).push _,drawn:=d };generalize N8:(h1.push (qN ps)).push { cls:=.type "set_iterator",data:=.fields #[.ref h1.objs.size,cS (0:Nat),.ref a,cS (es.size:Nat),cS (ep:Nat)] }=h2;have k2:∀ b ob,h1.get? b=aa ob->h2.get? b=aa ob:=λb ob e=>by rw[<-N8];exact bN _ (bN _ e)
 have z2:(h1.push (qN ps)).objs.size=h1.objs.size+1:=qH _ _;have gr:vU h2 (h1.objs.size+1) h1.objs.size a 0 es.size ep:=by rw[<-N8,<-z2];exact cW _ rfl
 have gT:h2.get? h1.objs.size=aa (qN ps):=by rw[<-N8];exact bN _ (cW _ rfl)
 have ix:ps.length=es.size:=by simpa using N6.length_eq
 have S2:WSet w h2 a o es ep t:=⟨k2 _ _ S1.get,S.exact,S.data,S.fine,S.led⟩;have ne:a≠h1.objs.size+1:=by rw[z1];exact cI (pX (pX aS))
 show aM _ _ (oX [.ref (h1.objs.size+1)] (SA (.ref a))>>=_) _ _ _;refine aG (hG (YF ⟨_,S2.get,S2.exact.1⟩ ?_));refine rE (λ_=>?_) (λz=>absurd (by rw[0]) z)
 refine aG (oW ?_);refine aG (show aM _ A.in1 (yC s.heap.objs.size (·.push .none)>>=λ_=>yC s.heap.objs.size (·.pop)) _ _ _ from ?_)
 refine aG (xX (k2 _ _ g1) rfl ?_);have TW:=qI (fG (·.push eF)) (k2 _ _ g1) rfl;refine xX TW rfl ?_;have hS3:=qI (fG (·.pop)) TW rfl;have zh:∀ b ob,b≠s.heap.objs.size->h2.get? b=aa ob->((h2.update s.heap.objs.size (fG (·.push eF))).update s.heap.objs.size (fG (·.pop))).get? b=aa ob:=
  λb ob hb e=>(sY _ _ (hW hb)).trans ((sY _ _ (hW hb)).trans e)
 have nS:s.heap.objs.size∉[h1.objs.size+1,a,h1.objs.size]:=by
  intro z;rw[18]
  .rw[z1] at z;exact absurd z (cI (pX (yJ _)))
  .rw[18]
   .exact absurd z (kG aS)
   .have z3:=bX.1 z;rw[z1] at z3;exact absurd z3 (cI (yJ _))
 have few:=S.fine.few;refine aN ⟨nP Ir _,Gi ((A4 (A:=A.in1) (by simp[hh]) (h1.objs.size+1) h1.objs.size a ne (cI (yJ _)) S2 N6).toS) (by rw[lJ];omega) _ nS _ es.size 0 _ _ _ rfl (eO _) ⟨zh _ _ (by rw[z1];exact kG (pX (yJ _))) gr,zh _ _ (cI aS) S2.get,zh _ _ (by rw[z1];exact Nat.succ_ne_self _) gT⟩ hS3 (ItemsOf.nil _) λs' bq c' hm qm fw=>?_⟩
 show aM _ A (load s.heap.objs.size>>=_) _ _ s';refine aG (wpAny_load qm (aN ?_));obtain⟨h',g',d',vp,we⟩:=s';obtain rfl:g'=s.gens:=hm.gens;obtain rfl:d'=d:=hm.drawn;obtain rfl:we=s.os:=hm.os;have Db:bq.toList=(M4 es ps).map (·.2):=by
  apply RM;intro j;rw[eW,oA];by_cases hj:j<es.size
  .have e1:bq[j]?=aa (bq[j]'(by rw[fw.1];exact hj)):=kY _
   obtain⟨e,he,ev⟩:=fw.2 j _ e1;rw[e1,he,ev]
   rfl
  .rw[SE (by rw[fw.1];omega),RI (by rw[Qn N6];omega)]
   rfl
 rw[Db];refine q h' vp d' ps N6 hm.toks (bU qm) λb ob e=>?_
 have P6:b<s.heap.objs.size:=bU e;refine hm.heap b ob (λz=>?_) (zh b ob (cI P6) (k2 _ _ (k1 _ _ e)))
 rw[18]
 .exact absurd z (cI P6)
 .have z2:=bX.1 z;rw[z1] at z2;exact absurd z2 (cI (pX (pX P6)))
theorem Za{t:dZ}(hh:A.handled=ae)(S:WSet w s.heap a o es ep t){Q:List aE->aH->Prop}
  (q:∀ h' tk d (jd:List (Int×aE)),jd.Perm es.toList->s.toks<=tk->s.heap.objs.size<h'.objs.size->(∀ b ob,s.heap.get? b=aa ob->h'.get? b=aa ob)->Q (jd.map (·.2)) { s with heap:=h',toks:=tk,drawn:=d }):aM (aO prog w) A (collect (.ref a)) Q E s:=by
 by_cases c:fD w=ag/\(!t.plain&&decide (es.size > 1))=af
 .exact d8 hh S c.1 c.2 λh' tk d ps hp h1 h2 h3=>q h' tk d _ (WJ hp) h1 h2 h3
 .refine Zd hh S (λhb=>?_) λh' tk h1 h2 h3=>q h' tk s.drawn _ (WK w a ep es) h1 h2 h3
  cases hz:(!t.plain&&decide (es.size > 1)) with
  |false=>rfl
  |true=>exact absurd ⟨hb,hz⟩ c
theorem Rg {k k':aI}{v:aE}(r:RelV (kV k) u)(r':RelV (kV k') v):RC u v (decide (k=k')):=by
 intro prog w A E s Q q;cases k with
 |inl i=>
  obtain⟨t,rfl⟩:=(show ∃ t,u=vC i t from r)
  cases k' with
  |inl j=>
   obtain⟨t',rfl⟩:=(show ∃ t,v=vC j t from r')
   refine SeqAt.EqAt.int_int i t j t' prog w E Q ?_;have:(i==j)=decide ((sS i:aI)=sS j):=by
    rw[pE];simp
   rw[this];exact q
  |inr y=>
   obtain⟨t',rfl⟩:=(show ∃ t,v=vB y t from r')
   exact SeqAt.EqAt.int_str i t y t' prog w E Q (by simpa using q)
 |inr x=>
  obtain⟨t,rfl⟩:=(show ∃ t,u=vB x t from r)
  cases k' with
  |inl j=>
   obtain⟨t',rfl⟩:=(show ∃ t,v=vC j t from r')
   exact SeqAt.EqAt.str_int x t j t' prog w E Q (by simpa using q)
  |inr y=>
   obtain⟨t',rfl⟩:=(show ∃ t,v=vB y t from r')
   refine SeqAt.EqAt.str_str x t y t' prog w E Q ?_;have:(x==y)=decide ((gE x:aI)=gE y):=by
    rw[pE];simp
   rw[this];exact q
theorem Vo (l:aD)(us:Array aE)(n:Nat)(dd:Option aD)(sl:Array (Option aE))(x:aE)(e:aE->Bool)(he:∀ y,y∈us->RC y x (e y))(dz:Int)(j:Nat)(hj:j<us.size)(ht:(j:Int)<dz)(hit:e us[j]=af) :
  ∀ (k i:Nat),j-i=k->i<=j->(∀ m (hm:m<us.size),i<=m->m<j->e us[m]=ag)->Meets (Builtin.«list.index.loop» ⟨[.ref l,x,cS i,cS dz],[]⟩)
   (λ_ R s=>s.heap.get? l=aa { cls:=.type "list",dict:=dd,data:=.seq us n,slots:=sl }/\R (.ok (.ret (.int j s.toks))) { s with toks:=s.toks+1 }):=by
 intro k;induction k with
 |zero=>
  intro i hk nn qz prog w A R s h;obtain⟨hp,g,d,tk,os⟩:=s;obtain⟨hl,h⟩:=h;obtain rfl:i=j:=by omega
  wp_walk using wpAny_loadPart' hl
  rw[show(if (i:Int)<dz then us[((i:Nat):Int).toNat]? else ae)=aa us[i] by simp[ht,hj]]
  refine aG (he _ (Array.getElem_mem hj) prog w _ _ _ _ ?_);rw[hit]
  wp_walk
  exact h
 |succ k ih=>
  intro i hk nn qz prog w A R s h;obtain⟨hp,g,d,tk,os⟩:=s;obtain⟨hl,h⟩:=h;have lt:i<us.size:=by omega
  have lo:(i:Int)<dz:=by omega
  wp_walk using wpAny_loadPart' hl
  rw[show(if (i:Int)<dz then us[((i:Nat):Int).toNat]? else ae)=aa us[i] by simp[lo,lt]]
  refine aG (he _ (Array.getElem_mem lt) prog w _ _ _ _ ?_);rw[qz i lt (bE _) (by omega)]
  wp_walk
  rw[show((i:Int)+1)=((i+1:Nat):Int) by push_cast;rfl]
  refine⟨nP RB _,lM MeetsSeq.entry_index_loop ?_⟩;rw[oB RB _];exact ih (i+1) (by omega) (by omega) (λm hm h1 h2=>qz m hm (by omega) h2) prog w A R _ ⟨hl,h⟩
theorem z6 (l:aD)(us:Array aE)(n:Nat)(dd:Option aD)(sl:Array (Option aE))(x:aE)(e:aE->Bool)(he:∀ y,y∈us->RC y x (e y))(j:Nat)(hj:j<us.size)(small:(j:Int)<2^63-1)(hit:e us[j]=af)(qz:∀ m (hm:m<us.size),m<j->e us[m]=ag) :
  Meets (Builtin.«list.index» ⟨[.ref l,x],[]⟩) (λ_ R s=>s.heap.get? l=aa { cls:=.type "list",dict:=dd,data:=.seq us n,slots:=sl }/\R (.ok (.ret (.int j s.toks))) { s with toks:=s.toks+1 }):=by
 intro prog w A R s h;obtain⟨hp,g,d,tk,os⟩:=s;obtain⟨hl,h⟩:=h
 wp_walk using wpAny_loadPart' hl
 rw[show((λi:Int=>if i<0 then max 0 (i+(us.size:Int)) else i) ((ae:Option Int).getD 0))=((0:Nat):Int) by simp,show((λi:Int=>if i<0 then max 0 (i+(us.size:Int)) else i) ((ae:Option Int).getD (2^63-1)))=2^63-1 by simp]
 refine⟨nP RB _,lM MeetsSeq.entry_index_loop ?_⟩;rw[oB RB _];exact Vo l us n dd sl x e he (2^63-1) j hj small hit _ 0 rfl (eO _) (λm hm _ h2=>qz m hm h2) prog w A R _ ⟨hl,h⟩
def sv (ks:List aI)(k:aI):Option Nat:=ks.findIdx? λy=>decide (y=k)
theorem WA {ks:List aI}{k:aI}(h:sv ks k=aa j):ks[j]?=aa k/\∀ m,m<j->ks[m]?≠aa k:=by
 obtain⟨hj,h1,h2⟩:=List.findIdx?_eq_some_iff_getElem.1 h;refine⟨by rw[fA hj,of_decide_eq_true h1],λm hm e=>?_⟩
 have:=h2 m hm;have hl:m<ks.length:=by omega
 rw[fA hl] at e;exact this (decide_eq_true (fF e))
theorem GJ:∀ {ks:List aI} {us:List aE},Vals (ks.map kV) us->∀ (m:Nat) (hm:m<us.length),∃ k,ks[m]?=aa k/\RelV (kV k) us[m]
 |[],_,.nil,m,hm=>by simp at hm
 |k::ks,_::us,.cons h t,0,hm=>⟨k,rfl,h⟩
 |k::ks,_::us,.cons h t,m+1,hm=>by
  obtain⟨k',e,r⟩:=GJ t m (by simpa using hm)
  exact⟨k',by simpa using e,by simpa using r⟩
def vx (k:aI)(u:aE):Bool:=match k,u with
 |.inl i,.int j _=>decide (j=i)
 |.inr x,.str y _=>decide (y=x)
 |_,_=>ag
theorem KN {k k':aI}(r:RelV (kV k) u):vx k' u=decide (k=k'):=by
 cases k with
 |inl i=>
  obtain⟨t,rfl⟩:=(show ∃ t,u=vC i t from r)
  cases k' with
  |inl j=>simp[vx]
  |inr y=>simp[vx]
 |inr x=>
  obtain⟨t,rfl⟩:=(show ∃ t,u=vB x t from r)
  cases k' with
  |inl j=>simp[vx]
  |inr y=>simp[vx]
def Rp (K:aK):V->List V->Hp->VK->Prop:=λx vs H Q=>∃ p ks k j,x=.ref p/\vs=[kV k]/\SqL K H p (ks.map kV)/\sv ks k=aa j/\Q (.int j) H
theorem ZI {ks:List aI}{k:aI}{us:List aE}{v:aE}(r:Vals (ks.map kV) us)(rk:RelV (kV k) v)(h:sv ks k=aa j) :
  (∀ y,y∈us.toArray->RC y v (vx k y))/\∃ hj:j<us.toArray.size,vx k us.toArray[j]=af/\∀ m (hm:m<us.toArray.size),m<j->vx k us.toArray[m]=ag:=by
 obtain⟨h1,h2⟩:=WA h;have hl:ks.length=us.length:=by simpa using r.length
 have hj:j<us.length:=by rw[<-hl];exact(cT.1 h1).1
 refine⟨λy m=>?_,by simpa using hj,?_,λm hm cf=>?_⟩
 .obtain⟨i,hi,rfl⟩:=yO (show y∈us by simpa using m)
  obtain⟨k',e,rr⟩:=GJ r i hi;rw[KN rr];exact Rg rr rk
 .obtain⟨k',e,rr⟩:=GJ r j hj;rw[h1] at e;cases e;show vx k us[j]=af;rw[KN rr];simp
 .have vz:m<us.length:=by simpa using hm
  obtain⟨k',e,rr⟩:=GJ r m vz;show vx k us[m]=ag;rw[KN rr];exact decide_eq_false λq=>h2 m cf (q ▸ e)
theorem p0:MtR X "list.index" (Rp X.K):=by
 intro ad s Z H x vs v us Q I rx rv h;obtain⟨p,ks,k,j,rfl,rfl,hp,hj,q⟩:=h;cases rx;obtain⟨u,rfl,ru⟩:=rv.one;obtain⟨its,r,pl,hz⟩:=I.list hp;obtain⟨he,cf,hit,qz⟩:=ZI r ru hj;obtain⟨⟨cls,dd,data,sl⟩,n,e,hc,_,hd⟩:=pl;simp only at hc hd;subst hc hd;have hn:=uD;have lz:its.toArray.size<=sizeLine:=by rw[eA,<-r.length];exact hz
 refine call_meets J8 ⟨_,e,rfl⟩ PySem.F.entry_list_index (PySem.F.args_list_index_2 _ _) (z6 p its.toArray n dd sl u (vx k) he j cf (by omega) hit qz) ⟨e,⟨.int j,H,I.tok _,⟨_,rfl⟩,q⟩⟩
def oH:List aA->Option (List aI)
 |[]=>aa []
 |d::r=>(cA d).bind λk=>(oH r).bind λks=>aa (k::ks)
theorem NB:∀ {ds:List aA} {xs:List V} {ks:List aI},oH ds=aa ks->Aap K H ds xs->xs=ks.map kV
 |[],xs,ks,e,r=>by
  cases e;exact Aan.1 r
 |d::ds,xs,ks,e,r=>by
  obtain⟨k,e1,e2⟩:=ao (show((cA d).bind λk=>(oH ds).bind λks=>aa (k::ks))=aa ks from e)
  obtain⟨ju,e3,e4⟩:=ao e2;cases e4;obtain⟨v,t,rfl,h1,h2⟩:=Aah.1 r;rw[mJ e1 h1,NB e3 h2]
  rfl
def JH (ds:List aA)(d:aA):Option aA:=(oH ds).bind λks=>(cA d).bind λk=>(sv ks k).bind λj=>aa (.int j)
section
variable {o k:aR}{fo:EF}
theorem u6{r:aA}(h:JH ds d=aa r):∃ ks kk j,oH ds=aa ks/\cA d=aa kk/\sv ks kk=aa j/\r=.int j:=by
 obtain⟨ks,e1,h⟩:=ao h;obtain⟨kk,e2,h⟩:=ao h;obtain⟨j,e3,h⟩:=ao h;cases h;exact⟨ks,kk,j,e1,e2,e3,rfl⟩
def KD:aA->aA->Option aA
 |.list ds,d=>JH ds d
 |_,_=>ae
theorem A0 (ho:DE X o fo)(hk:DE X k fk)(bv:oZ o "index" X.env (bM o X.env)=bM o X.env:=by rfl)
  (fu:((eR ax (bH (k::[]) X.env)).all (λx=>!x.1)&&(rL ax (rH [] X.env)).all (λx=>x.1.isSome)
   && decide ((k::[]).length+([]:List iX).length+(if ([]:List iX).isEmpty then 0 else 1)<30))=af:=by rfl)
  (bw:(az.endLine==ax.line)=af:=by rfl) (hs:bH (k::[]) X.env=(ag,bM k X.env)::bH [] X.env:=by rfl) (bp:(eR ax (bH [] X.env)).any (·.1)=ag:=by rfl) :
  DE X (.Call (.Attribute o "index" az) [k] [] ax) (ah KD fo fk):=
 PE.imp (sE QS J8 PySem.F.type_list_index p0 ho (iF hk kQ hs) bv fu bw hs bp) λZ H Q gh=>by
  obtain⟨P,Y,d,hP,rs,ef,kk⟩:=gh;obtain⟨d1,e1,cw⟩:=ao ef;obtain⟨d2,e2,cg⟩:=ao cw;cases d1 with
  |list ds=>
   obtain⟨ks,key,j,g1,g2,g3,rfl⟩:=u6 (show JH ds d2=aa d from cg)
   refine⟨P,Y,_,hP,rs,e1,eG λv H1 x1 r1=>?_⟩
   obtain⟨q,ys,rfl,hq,rr⟩:=Abb.1 r1;obtain rfl:=NB g1 rr;refine⟨.inl ⟨rfl,_,Aas.sqL hq⟩,P,Y,d2,hP.ext x1,rs.ext (dE x1),e2,eG λu H2 x2 r2=>?_⟩
   exact⟨q,ks,key,j,rfl,by rw[mJ g2 r2],x2.sqL (Aas.sqL hq),g3,kk.zero (x1.trans x2) (Aal.2 rfl)⟩
  |_=>cases cg
theorem Ay:∀ {ds:List aA} {xs:List V} (n:Nat),Aap K H ds xs->Aap K H (ds.eraseIdx n) (xs.eraseIdx n)
 |[],xs,n,r=>by
  rw[Aan.1 r];exact Aan.2 rfl
 |d::ds,xs,0,r=>by
  obtain⟨v,t,rfl,h1,h2⟩:=Aah.1 r;exact h2
 |d::ds,xs,n+1,r=>by
  obtain⟨v,t,rfl,h1,h2⟩:=Aah.1 r;exact Aah.2 ⟨v,_,rfl,h1,Ay n h2⟩
theorem YD {j pos}:DF 1 X (.Constant .none j pos) (eC .none):=PE.imp VP λZ H Q gh=>by
 rw[5];cases ef;exact k .non H [] Ext.refl .nil (λa m=>by simp at m) ⟨rfl,Ab7.2 rfl⟩
end
open PySem PySem.Spec PySem.W PyProof.Rows PySem.SetTable
theorem LM {α:Type}(xs:List α)(d:α):(bY xs.length).map (λi=>xs.getD i d)=xs:=by
 apply IE
 .simp
 .intro i h1 h2;simp at h1;simp[h1]
theorem Xc {h0:aQ}{P:PySem.Fin->aH->Prop}(ho:s.heap.get? a=aa (hJ "list" vs.toArray n))(ht:Ahj h0 vs kss)(kp:∀ b o,h0.get? b=aa o->(kR s.heap a vs).get? b=aa o)(ok:lh kss=af)(ue:vs.length<64)
  (h:∀ p:List Nat,p.Perm (bY vs.length)->p.map (λi=>kss.getD i [])=gW kss->P (.done (.ret .none)) { s with heap:=sortedHeap s.heap a vs (iL (p.map λi=>vs.getD i eF)) }) :
  aM (aO prog w) A (Builtin.«list.sort» ⟨[.ref a],[]⟩) P E s:=by
 have ln:=nV ht;by_cases h2:vs.length<2
 .refine YJ ho h2 ?_;have:=h (bY vs.length) (RP _) (by
   rw[ln,LM kss];refine AU ok (RP _) ?_
   match kss,ln with
   |[],_=>exact .nil
   |[k],_=>simp
   | _::_::_,ln=>simp at ln;omega)
  rw[LM vs] at this;exact this
 .have hs:sameAll kss=af/\(kss.all λk=>(kO k).isSome)=af:=by
   have M9:¬ kss.length<2:=by omega
   have:(sameAll kss&&kss.all λk=>(kO k).isSome)=af:=by simpa [lh,M9] using ok
   exact jR.1 this
  obtain⟨k0,m0⟩:∃ k0,k0∈kss:=by
   cases hk:kss with
   |nil=>rw[hk] at ln;exact absurd ln (by simp;intro e;rw[e] at h2;simp at h2)
   |cons k r=>exact⟨k,bF⟩
  obtain⟨T,hT⟩:=yH.1 (eB.1 hs.2 k0 m0);have sm:∀ k∈kss,∀ k'∈kss,iB k k'=af:=λk m k' m'=>eB.1 (eB.1 hs.1 k m) k' m'
  have N7:=ht.keep kp;refine Eh (κ:=tuples' (kE T != kE "tuple")) (VQ kss) ho (by omega) ue (λR q=>?_) (λi j C hi hj q=>?_) λp hp ha=>?_
  .obtain⟨fs,f1,f2,f3⟩:=MT (M:=aO prog w) N7 λk m=>(same_kind (sm k m k0 m0)).trans hT
   exact kat_kind f1 (by omega) f3 (by rcases En hT with rfl|rfl<;>decide) q
  .obtain⟨b,e1,⟨_,_,as,r1⟩,m1⟩:=N7.get i hi;obtain⟨b',e2,⟨_,_,ya,r2⟩,m2⟩:=N7.get j hj;rw[e1,e2];obtain⟨_,o,xs,n,z,ho,_,hd,hr⟩:=pO r1;cases z;obtain⟨_,o',ql,n',z,v4,_,qv,TD⟩:=pO r2;cases z;have zz:=sm _ m1 _ m2;have l1:=AO hr;have l2:=AO TD;have ll:=GF zz;have:decide (xs.size<ql.size)=ag:=decide_eq_false (by simp only[fZ] at l1 l2;omega)
   refine kat_lt (s:={ s with heap:=kR s.heap a vs }) ho hd v4 qv ?_;rw[this];exact EM _ _ 0 zz hr TD q
  .have jg:p.toList.Perm (bY vs.length):=by simpa using L5.1 hp
   have pl:p.toList.length=vs.length:=by rw[jg.length_eq,CZ]
   refine h p.toList jg (AU ok ?_ ?_)
   .have:=jg.map (λi=>kss.getD i [])
    rw[ln,LM kss] at this;exact this
   .rw[yL,RD];intro i j hi hj nn;refine Ai7.2 ?_;have:=ha i j (pB nn) (by omega)
    have e1:at' p i=p.toList[i]:=by simp at hi;simp[at',hi]
    have e2:at' p j=p.toList[j]:=by simp at hj;simp[at',hj]
    rw[e1,e2] at this;exact of_decide_eq_false this
theorem Vt(p:qs.Perm kss)(h:lh kss=af):lh qs=af:=by
 unfold lh at h ⊢;rw[p.length_eq];by_cases h2:kss.length<2
 .simp[h2]
 .have h':(sameAll kss&&kss.all λk=>(kO k).isSome)=af:=by simpa [h2] using h
  obtain⟨h3,h4⟩:=jR.1 h';have h5:sameAll qs=af:=eB.2 λk m=>eB.2 λk' m'=>eB.1 (eB.1 h3 k (p.mem_iff.1 m)) k' (p.mem_iff.1 m')
  have h6:(qs.all λk=>(kO k).isSome)=af:=eB.2 λk m=>eB.1 h4 k (p.mem_iff.1 m)
  rw[h5,h6];simp
theorem J2(p:qs.Perm kss)(h:lh kss=af):gW qs=gW kss:=AU h ((uP qs).trans p) (NO qs)
theorem Do {α β:Type}{R:α->β->Prop}{as:List α}{bs:List β}(h:dR R as bs)(x:α)(y:β):∀ p:List Nat,(∀ i∈p,i<as.length)->dR R (p.map λi=>as.getD i x) (p.map λi=>bs.getD i y)
 |[],_=>.nil
 |i::p,hi=>by
  refine .cons ?_ (Do h x y p λj m=>hi j (bL _ m))
  have cf:=hi i bF;obtain⟨b,hb,r⟩:=vZ h (fA cf);have e1:as.getD i x=as[i]:=by simp[cf]
  have e2:bs.getD i y=b:=by simp[hb]
  show R (as.getD i x) (bs.getD i y);rw[e1,e2];exact r
set_option maxHeartbeats 4000000 in
theorem Ze {B:List aA->aD->Prop}(hh:A.handled=ae)(S:SetT w B s.heap a kss)(ok:lh kss=af)(ue:kss.length<64)
  (q:∀ h' tk d l e (out:List aE),s.toks<=tk->(∀ b ob,s.heap.get? b=aa ob->h'.get? b=aa ob)->s.heap.objs.size<=l->dR (λv k=>∃ b,v=eK b/\B k b) out (gW kss)->h'.get? l=aa (hJ "list" out.toArray e)->Q (.ref l) { s with heap:=h',toks:=tk,drawn:=d }) :
  aM (aO prog w) A (call (.builtin "sorted") [.ref a]) Q E s:=by
 obtain⟨o,es,ep,t,ks,S,pm⟩:=S;have W:WSet w s.heap a o es ep t:=⟨S.get,S.exact,S.data,S.fine,S.led⟩;refine Iw kind_sorted plain_sorted entry_sorted (args_sorted1 _) ?_;unfold Builtin.«sorted»;have zy:es.size=kss.length:=by
  have:=nV S.els;rw[fZ] at this;rw[this,pm.length_eq]
 refine aG (aN (aG (Za (by simp[hh]) W λh1 tk d jd pe P1 xy k1=>aG (HE ?_ (by rw[lJ,cJ,pe.length_eq,fZ];omega)))))
 obtain⟨ST,p2,pm2⟩:=JV pe S.els;have pk:=pm2.trans pm;have tv:dR (λv k=>∃ b,v=eK b/\Acb s.heap k b/\B k b) (jd.map (·.2)) ST:=by
  clear pe pm2 pk;induction p2 with
  |nil=>exact .nil
  |cons h t ih=>
   obtain⟨b,e1,_,e3,e4⟩:=h;exact .cons ⟨b,e1,e3,e4⟩ ih
 have ay:(jd.map (·.2)).length<64:=by rw[cJ,pe.length_eq,fZ];omega
 generalize jd.map (·.2)=vs at tv ay;have v6:(h1.push (hJ "list" vs.toArray 0)).get? h1.objs.size=aa (hJ "list" vs.toArray 0):=cW _ rfl;refine aG (hG (fX slot_list_sort ⟨_,v6,rfl⟩ entry_list_sort (Xc v6 (qT (λv k ⟨b,e1,e2,_⟩=>⟨b,e1,e2⟩) tv) (λb ob eb=>?_) (Vt pk ok) ay λp hp hs=>⟨_,rfl,?_⟩) (args_list_sort _)))
 .have hb:=bU (k1 b ob eb);exact Di b ob (cI hb) (bN _ (k1 b ob eb))
 refine aN ⟨_,rfl,?_⟩;obtain⟨e,he⟩:=sortedHeap_at v6;refine q _ tk d h1.objs.size e (p.map λi=>vs.getD i eF) P1 (λb ob eb=>?_) (pB xy) ?_ he
 .have hb:=bU (k1 b ob eb);rw[sortedHeap_old (cI hb) (by rw[size_push'];exact pX hb),Io _ _ _ (cI hb)]
  exact k1 b ob eb
 .have:=Do tv eF [] p λi m=>gM.1 (hp.mem_iff.1 m)
  rw[hs,J2 pk ok] at this;exact qT (λv k ⟨b,e1,_,e3⟩=>⟨b,e1,e3⟩) this
def N' (kss:List (List aA))(ys:List V)(k:List aA)(b:aD):Prop:=∃ i:Nat,kss[i]?=aa k/\ys[i]?=aa (V.ref b)
def TL (w:bB)(kss:List (List aA))(ys:List V)(o:aZ)(ls:List (List aA)):Prop:=∃ es ep t ks,o.ExactSet/\o.data=.set es ep t/\Fine t es/\t.led=(!fD w)/\dR (λ(e:Int×aE) k=>∃ b,e.2=.ref b/\e.1=dF w (.tuple k)/\N' kss ys k b) es.toList ks/\ks.Nodup/\ks.Perm ls
theorem F3{Z:List (Option V)}{d:Drawn}(I:Inv X ad Z H s):Inv X ad Z H { s with drawn:=d }:=⟨I.ok,I.os,I.bare,I.base,I.loc,I.cell,I.free,I.freeC,I.pin,I.hok,I.len⟩
theorem J5 (hc:X.calm=af)(hu:X.A.units+40<cLine):Adw X (.type "set") (λxs H Q=>∃ p ys kss,xs=[.ref p]/\SqL X.K H p ys/\Refs H ys kss/\(eY kss).length<=4900/\∀ a o,H a=ae->TL X.w kss ys o (eY kss)->Q (.ref a) (upd H a (isO a o))):=by
 rw[6];obtain⟨p,ys,kss,rfl,hp,rf,hl,q⟩:=h;rw[12];obtain⟨its,rv,pl,_⟩:=I.list hp;have e1:=rv.length;have e2:=nV rf;refine A9 (B:=N' kss ys) (kss:=kss) (I.ok.hd hc) hu pl.isList (λj v ev=>?_) hl (by rw[eA];omega) λh' tk ht S' hk=>?_
 .have ev':its[j]?=aa v:=by simpa using ev
  obtain⟨y,hy,ry⟩:=JX rv ev';obtain⟨k,hk,b,rfl,tk⟩:=vZ rf hy;cases ry;exact⟨b,k,rfl,hk,key_of I.hok tk,j,hk,hy⟩
 .obtain⟨o,es,ep,t,ju,al,pm⟩:=S';have I':=I.laid (t':=tk) (h':=h') (o:=isO s.heap.objs.size o) (λb u e=>hk b u (bU e) e) (bE _) (show Adc X.prog X.w _ _ _ (.ext _) from⟨al.get,⟨o,al.get⟩,λ_ _ e k=>k _ e⟩)
  exact⟨.ref s.heap.objs.size,_,I',rfl,q _ o I.fresh ⟨es,ep,t,ju,al.exact,al.data,al.fine,al.led,qT (λe k ⟨b,q1,q2,_,q4⟩=>⟨b,q1,q2,q4⟩) al.els,al.nod,pm⟩⟩
theorem Zi (hc:X.calm=af):Adw X (.builtin "sorted") (λxs H Q=>∃ a o ys kss ls,xs=[.ref a]/\H a=aa (isO a o)/\TL X.w kss ys o ls/\Refs H ys kss/\lh ls=af/\ls.length<64 /\
  ∀ l zs,H l=ae->dR (λz k=>∃ b,z=V.ref b/\N' kss ys k b) zs (gW ls)->Q (.ref l) (upd H l (.lst zs))):=by
 rw[6];obtain⟨a,o,ys,kss,ls,rfl,ha,⟨es,ep,t,ks,hx,hd,hf,hl,he,hn,pm⟩,rf,ok,ue,q⟩:=h;rw[12];obtain⟨g,_,_⟩:=(show Adc X.prog X.w H s.heap a (.ext _) from I.hok a _ ha)
 have deep:∀ k b,N' kss ys k b->Acb s.heap k b:=λk b gh=>by
  obtain⟨i,h1,h2⟩:=gh;obtain⟨k',fq,b',eb,tk⟩:=vZ rf h2;rw[h1] at fq;cases fq;cases eb;exact key_of I.hok tk
 refine Ze (I.ok.hd hc) ⟨o,es,ep,t,ks,⟨g,hx,hd,hf,hl,qT (λe k ⟨b,q1,q2,q3⟩=>⟨b,q1,q2,deep k b q3,q3⟩) he,hn⟩,pm⟩ ok ue λh' tk d l e out P1 kept yw pr T0=>?_
 have hnl:=I.hok.fresh yw
 let zs:List V:=out.map λv=>match v with|.ref b=>V.ref b|_=>V.non
 have pz:dR (λz k=>∃ b,z=V.ref b/\N' kss ys k b) zs (gW ls)/\Vals zs out:=by
  generalize gW ls=qs at pr;clear T0;induction pr with
  |nil=>exact⟨.nil,.nil⟩
  |cons h t ih=>
   obtain⟨b,rfl,hb⟩:=h;exact⟨.cons ⟨b,rfl,hb⟩ ih.1,.cons rfl ih.2⟩
 have lz:zs.length<=sizeLine:=by
  have h1:=nV pz.1;rw[h1,(uP ls).length_eq,lJ];omega
 exact⟨.ref l,_,F3 (I.laid (t':=tk) (o:=.lst zs) (λb ob g=>kept b ob g) yw ⟨lz,out,e,pz.2,T0⟩),rfl,q _ zs hnl pz.1⟩
def MS:List aA->Option aA
 |[.list ds]=>(jS ds).bind λkss=>if (eY kss).length<64/\lh (eY kss)=af then aa (.list ((gW (eY kss)).map cV)) else ae
 |_=>ae
theorem Ej:∀ {ds:List aA} {kss:List (List aA)},jS ds=aa kss->ds=kss.map cV/\∀ k∈kss,bR k=af/\cL k<=6
 |[],kss,e=>by cases e;exact⟨rfl,by simp⟩
 |d::ds,kss,e=>by
  cases d with
  |tuple ks=>
   have e:(if bR ks=af/\cL ks<=6 then(jS ds).bind λkss=>aa (ks::kss) else ae)=aa kss:=e
   by_cases hk:bR ks=af/\cL ks<=6
   case neg=>rw[if_neg hk] at e;cases e
   rw[if_pos hk] at e;obtain⟨kss',e1,e2⟩:=ao e;cases e2;obtain⟨h1,h2⟩:=Ej e1;refine⟨by rw[h1];rfl,λk m=>?_⟩
   rw[15]
   .exact hk
   .exact h2 k m
  |_=>cases e
theorem Gb(r:Aap K H (kss.map cV) ys):∀ {zs:List V} {qs:List (List aA)},dR (λz k=>∃ b,z=V.ref b/\N' kss ys k b) zs qs->Aap K H (qs.map cV) zs
 |_,_,.nil=>Aan.2 rfl
 |_,k::_,.cons ⟨b,e,i,h1,h2⟩ t=>by
  refine Aah.2 ⟨_,_,rfl,?_,Gb r t⟩;have h3:(kss.map cV)[i]?=aa (.tuple k):=by rw[eW,h1];rfl
  obtain⟨v,hv,rv⟩:=r.get h3;rw[h2] at hv;cases hv;rw[e];exact rv
theorem Zn{fe:EF}{wo:bQ}(hc:X.calm=af)(hu:X.A.units+40<cLine)(g1:Gl X "sorted")(m1:X.mg "sorted" = ae)(g2:Gl X "set")(m2:X.mg "set" = ae)(he:DE X e fe)
  (yt:bH [Expr.Call (.Name "set" p2) [e] [] lm] X.env=[(ag,bM (Expr.Call (.Name "set" p2) [e] [] lm) X.env)]:=by rfl) (oe:bH [e] X.env=[(ag,bM e X.env)]:=by rfl) :
  DF 1 X (.Call (.Name "sorted" p1) [.Call (.Name "set" p2) [e] [] lm] [] wo) (aL MS (aF fe aJ)):=by
 have h1:PE X (.Call (.Name "set" p2) [e] [] lm) _:=GH (J5 hc hu) g2 m2 rfl (iF he kQ oe) (by decide) (by decide) oe rfl
 have h2:PE X (.Call (.Name "sorted" p1) [.Call (.Name "set" p2) [e] [] lm] [] wo) _:=LU (Zi hc) g1 m1 Hf (iF h1 kQ yt) (by decide) (by decide) yt rfl
 refine PE.imp h2 λZ H Q gh=>?_
 rw[5];obtain⟨ds0,e0,ef⟩:=ao ef;obtain⟨d1,e1,e0⟩:=ao e0;have e0:[d1]=ds0:=by simpa [aJ] using e0
 subst e0;cases d1 with
 |list ds=>
  obtain⟨kss,e2,ef⟩:=ao (show((jS ds).bind λkss=>if (eY kss).length<64/\lh (eY kss)=af then aa (rN ((gW (eY kss)).map cV)) else ae)=aa d from ef)
  obtain⟨⟨hl,ok⟩,rfl⟩:=cQ ef;obtain⟨rfl,hk⟩:=Ej e2;refine⟨P,Y,.list (kss.map cV),hP,rs,e1,eG λv H1 x1 r1=>?_⟩
  obtain⟨q,ys,rfl,hq,rr⟩:=Abb.1 r1;have rf:Refs H1 ys kss:=Refs.le (λc zs e=>Aas _ _ e) (Fc hk rr)
  refine⟨q,ys,kss,rfl,Aas.sqL hq,rf,by omega,λa o hn S=>⟨a,o,ys,kss,eY kss,rfl,eU,S,Refs.le (λc zs e=>(Ext.new hn) _ _ e) rf,ok,hl,λl zs hnl pz=>?_⟩⟩
  exact(k.mono (x1.trans (Ext.new hn))).lst (hP.ext (x1.trans (Ext.new hn))) hnl (Gb (rr.ext (dE (Ext.new hn))) pz)
 |_=>cases ef
def Sz:V->List V->Hp->VK->Prop:=λx vs H Q=>∃ p ks k j,x=.ref p/\vs=[kV k]/\H p=aa (.lst (ks.map kV))/\sv ks k=aa j/\Q .non (upd H p (.lst ((ks.eraseIdx j).map kV)))
theorem E7:X8 X "list.remove" Sz:=by
 intro ad s Z H x vs v us Q I rx rv h;obtain⟨p,ks,k,j,rfl,rfl,hp,hj,q⟩:=h;cases rx;obtain⟨u,rfl,ru⟩:=rv.one;obtain⟨z,its,n,r,hl,e⟩:=I.lstM hp;obtain⟨he,cf,hit,qz⟩:=ZI r ru hj;refine call_meets F.slot_list_remove ⟨_,e,rfl⟩ F.entry_list_remove (F.args_list_remove_2 _ _) (MeetsSeq.list_remove p its.toArray n u (vx k) he j cf hit qz (by rw[eA];omega)) ⟨e,?_⟩
 have ee:(ks.eraseIdx j).map kV=(ks.map kV).eraseIdx j:=by
  have go:∀ (xs:List aI) (n:Nat),(xs.eraseIdx n).map kV=(xs.map kV).eraseIdx n:=by
   intro xs;induction xs with
   |nil=>intro n;simp
   |cons x xs ih=>
    intro n;cases n with
    |zero=>rfl
    |succ n=>rw[yQ,dI,dI,yQ,ih]
  exact go ks j
 refine⟨.non,_,I.lset hp e ?_ (by rw[ee];exact r.eraseIdx j) ?_,rfl,q⟩
 .rw[List.eraseIdxIfInBounds_toArray]
 .have:=Ae (ks.map kV) j;rw[ee];omega
def qP (i:Nat)(m:Md)(f:EF):SF:=λY=>(eV 0 m f Y).bind λd=>(getL i Y).bind λds=>(oH ds).bind λks=>(cA d).bind λk=>(sv ks k).bind λj=>aa (.nx (Y.set i (aa (1,.list (ds.eraseIdx j)))))
theorem q8 (i:Nat)(m:Md)(he:DE X e f)(hN:X.N[i]?=aa x:=by rfl)(hv:iY X.env.scope x:=by first|exact bK rfl|exact bW (bK rfl)|exact bW (bW rfl))(hd:(x==("__debug__" : aC))=ag:=by decide)
  (ft:(x==("__classdict__" : aC))=ag:=by decide) (bv:oZ (.Name x px) "remove" X.env (bM (.Name x px) X.env)=bM (.Name x px) X.env:=by rfl)
  (fu:((eR ax (bH (e::[]) X.env)).all (λx=>!x.1)&&(rL ax (rH [] X.env)).all (λx=>x.1.isSome)
   && decide ((e::[]).length+([]:List iX).length+(if ([]:List iX).isEmpty then 0 else 1)<30))=af:=by rfl)
  (bw:(az.endLine==ax.line)=af:=by rfl) (hs:bH (e::[]) X.env=(ag,bM e X.env)::bH [] X.env:=by rfl) (bp:(eR ax (bH [] X.env)).any (·.1)=ag:=by rfl)
  (rh:mQ (.Call (.Attribute (.Name x px) "remove" az) [e] [] ax) ae pos.line X.env=pure ag:=by rfl):DS X H0 P0 n0 (.Expr (.Call (.Attribute (.Name x px) "remove" az) [e] [] ax) pos) (qP i m f):=
 PS.imp (zX (sE QS PySem.F.slot_list_remove PySem.F.type_list_remove E7 (kA hN hv hd ft) (iF (ev m he) kQ hs) bv fu bw hs bp) rh) λD Z H gh=>by
  rw[7];obtain⟨d,e1,cw⟩:=ao ef;obtain⟨ds,e2,cg⟩:=ao cw;obtain⟨ks,e3,gw⟩:=ao cg;obtain⟨key,e4,je⟩:=ao gw;obtain⟨j,e5,xm⟩:=ao je;cases xm;obtain⟨p,xs,h1,h2,_,_⟩:=S.lst1 (pQ e2);refine⟨.ref p,h1,.inl ⟨rfl,xs,SqL.of h2⟩,B0,Y,fp,d,S,e1,λv H2 gh=>?_⟩
  obtain⟨ij,S2,r2⟩:=gh;obtain⟨p2,xs2,q1,q2,q3,q4⟩:=S2.lst1 (pQ e2);have:p2=p:=by rw[h1] at q1;cases q1;rfl
  rw[20];obtain rfl:=NB e3 q3;have ee:(ks.eraseIdx j).map kV=(ks.map kV).eraseIdx j:=by
   have go:∀ (xs:List aI) (n:Nat),(xs.eraseIdx n).map kV=(xs.map kV).eraseIdx n:=by
    intro xs;induction xs with
    |nil=>intro n;simp
    |cons x xs ih=>
     intro n;cases n with
     |zero=>rfl
     |succ n=>rw[yQ,dI,dI,yQ,ih]
   exact go ks j
  refine⟨p2,ks,key,j,rfl,by rw[mJ e4 r2.2],q2,e5,?_⟩
  rw[ee];exact k _ _ ij (q4 _ _ (Ay j q3))
section
variable {Z:St}
theorem own1{F:List aD}(h:Ahl K B H 1 (.list ds) v F):∃ p xs,v=.ref p/\H p=aa (.lst xs)/\F=[p]/\Aap K B ds xs:=by
 obtain⟨p,xs,Fs,rfl,hp,hF,h3⟩:=h;obtain⟨r,hn⟩:=MG h3;exact⟨p,xs,rfl,hp,by rw[hF,hn],r⟩
theorem FJ{p:aD}(hp:H p=aa (.lst xs))(r:Aap K B ds xs):Ahl K B H 1 (.list ds) (.ref p) [p]:=by
 obtain⟨q1,q2⟩:=GG r;exact⟨p,xs,_,rfl,hp,by rw[q2],q1⟩
theorem Jr{a b:List aA}{F:List aD}(h:Ahl K B H 2 (.tuple [.list a,.list b]) v F) :
  ∃ q p p' xs ys,v=.ref q/\B q=aa (.tup [.ref p,.ref p'])/\F=[p,p']/\H p=aa (.lst xs)/\H p'=aa (.lst ys)/\Aap K B a xs/\Aap K B b ys:=by
 rcases h with⟨h0,_⟩|⟨_,q,us,Fs,rfl,hq,rfl,h3⟩
 .cases h0
 .cases h3 with
  |cons h1 t=>
   cases t with
   |cons h2 t=>
    cases t with
    |nil=>
     obtain⟨p,xs,rfl,hp,rfl,r⟩:=own1 h1;obtain⟨p',ys,rfl,jg,rfl,r'⟩:=own1 h2;exact⟨q,p,p',xs,ys,rfl,hq,rfl,hp,jg,r,r'⟩
theorem Pt{a b:List aA}{q p p':aD}(hq:B q=aa (.tup [.ref p,.ref p']))(h1:H p=aa (.lst xs))(h2:H p'=aa (.lst ys))(r1:Aap K B a xs)(r2:Aap K B b ys) :
  Ahl K B H 2 (.tuple [.list a,.list b]) (.ref q) [p,p']:=
 .inr ⟨by decide,q,_,[[p],[p']],rfl,hq,rfl,.cons (FJ h1 r1) (.cons (FJ h2 r2) .nil)⟩
end
section
variable {py yb:bQ}
def UY (i j:Nat):SF:=λY=>(getL i Y).bind λa=>(getL j Y).bind λb=>aa (.rt (.tuple [.list a,.list b]))
theorem Ws (i j:Nat){x1}(nn:i≠j)(hN:X.N[i]?=aa x:=by rfl)(hv:iY X.env.scope x:=by first|exact bK rfl|exact bW (bK rfl)|exact bW (bW rfl))(hd:(x==("__debug__" : aC))=ag:=by decide)
  (ft:(x==("__classdict__" : aC))=ag:=by decide) (hN2:X.N[j]?=aa y:=by rfl) (X5:iY X.env.scope y:=by first|exact bK rfl|exact bW (bK rfl)|exact bW (bW rfl)) (vj:(y==("__debug__" : aC))=ag:=by decide)
  (hcd2:(y==("__classdict__" : aC))=ag:=by decide):DS X H0 P0 2 (.Return (aa (.Tuple [.Name x px,.Name y py] x1 uq)) pos) (UY i j):=
 PS.imp (zN (VA (iF (kA hN hv hd ft) (iF (kA hN2 X5 vj hcd2) kQ)))) λD Z H gh=>by
  rw[7];obtain⟨a,e1,ef⟩:=ao ef;obtain⟨b,e2,ef⟩:=ao ef;cases ef;obtain⟨v,h1,r1⟩:=S.slot i 1 _ (pQ e1);obtain⟨v',h2,r2⟩:=S.slot j 1 _ (pQ e2);obtain⟨p,xs,rfl,hp,hF,q1⟩:=own1 r1;obtain⟨p',ys,rfl,jg,hF',q2⟩:=own1 r2;have mp:p∈fp i:=by rw[hF];exact bF
  have mp':p'∈fp j:=by rw[hF'];exact bF
  have hpp:p≠p':=λz=>nn (S.dj i j p mp (by rw[z];exact mp'))
  refine⟨_,h1,_,h2,by show 2<=sizeLine;rw[lJ];omega,λq hq=>k _ _ ⟨[p,p'],S.ext.trans (Ext.new hq),?_,?_,?_⟩⟩
  .simp[hpp]
  .intro c m;rw[15]
   .exact⟨(S.own i _ mp).1,_,Ext.new hq _ _ hp⟩
   .rw[bX.1 m];exact⟨(S.own j _ mp').1,_,Ext.new hq _ _ jg⟩
  .have nq:∀ {c:aD} {oo:HO},H c=aa oo->c≠q:=λec z=>by rw[z,hq] at ec;cases ec
   have xb:Ext (L2.hid H (Hd P0 fp)) (L2.hid (upd H q (.tup [.ref p,.ref p'])) (ic P0 [p,p'])):=λc oo ec=>by
    obtain⟨nc,ec⟩:=Acs.1 ec;refine Acs.2 ⟨λz=>?_,Ext.new hq _ _ ec⟩
    rcases z with z|z
    .exact nc (.inl z)
    .rcases cM.1 z with rfl|z
     .exact nc (.inr ⟨i,mp⟩)
     .rw[bX.1 z] at nc;exact nc (.inr ⟨j,mp'⟩)
   refine Pt (Acs.2 ⟨λz=>?_,eU⟩) (Ext.new hq _ _ hp) (Ext.new hq _ _ jg) (q1.ext xb) (q2.ext xb)
   rcases z with z|z
   .exact(S.hd.ext S.ext).new hq z
   .rw[18]
    .exact nq hp z.symm
    .exact nq jg (bX.1 z).symm
end
section
variable {a b:aR}{yb:bQ}
def Y1 (c:Int):aA->Option aA
 |.tuple [.list a,.list b]=>if c=0 then aa (.list a) else if c=1 then aa (.list b) else ae
 |_=>ae
def oV (c:Int)(f:EF):EF:=λY=>(f Y).bind (Y1 c)
theorem Ta {c:Int}{jj}(h:DF 2 X e f)(hs:KP (.Constant (.int c) jj yb):=by exact λ_ _=>rfl):DF 1 X (.Subscript e (.Constant (.int c) jj yb) pos) (oV c f):=
 PE.imp (TM VG h VF hs) λZ H Q gh=>by
  rw[5];obtain⟨d2,e1,ef⟩:=ao ef;unfold Y1 at ef;split at ef
  .rename_i la lb;refine⟨P,Y,_,hP,rs,e1,λv H' Fr xx nd fr r=>?_⟩
   obtain⟨q,p,p',xs,ys,rfl,hq,rfl,hp,jg,r1,r2⟩:=Jr r;have hq':=(Acs.1 hq).2;by_cases c0:c=0
   .rw[if_pos c0] at ef;cases ef;subst c0;refine .inr (.inl ⟨q,_,0,.ref p,rfl,rfl,SqT.of hq',rfl,k _ _ [p] xx (by simp) (λz m=>fr z (by rw[bX.1 m];simp)) (FJ hp (r1.ext (gK λz hz=>?_)))⟩)
    rcases hz with hz|hz
    .exact .inl hz
    .exact .inr (by rw[bX.1 hz];simp)
   .rw[if_neg c0] at ef;obtain⟨c1,rfl⟩:=cQ ef;subst c1;refine .inr (.inl ⟨q,_,1,.ref p',rfl,rfl,SqT.of hq',rfl,k _ _ [p'] xx (by simp) (λz m=>fr z (by rw[bX.1 m];simp)) (FJ jg (r2.ext (gK λz hz=>?_)))⟩)
    rcases hz with hz|hz
    .exact .inl hz
    .exact .inr (by rw[bX.1 hz];simp)
  .cases ef
def UV (m:Md)(t:BF)(i:Nat)(f:EF):SF:=λY=>(bV m t Y).bind λb=>if b=af then jX i 1 Y else cN 1 .s f Y
theorem o4{t:BF}(m:Md)(i:Nat)(hc:DT X c t)(he:DF 1 X e f)(hN:X.N[i]?=aa x:=by rfl)(hv:iY X.env.scope x:=by first|exact bK rfl|exact bW (bK rfl)|exact bW (bW rfl))(hd:(x==("__debug__" : aC))=ag:=by decide)
  (ft:(x==("__classdict__" : aC))=ag:=by decide):DS X H0 P0 1 (.Return (aa (.IfExp c (.Name x px) e yb)) pos) (UV m t i f):=
 PS.imp (zN (WI (V8 m hc) (kA hN hv hd ft) (ev .s he))) λD Z H gh=>by
  rw[7];obtain⟨b,e1,ef⟩:=ao ef;refine⟨B0,Y,fp,b,S,e1,λH1 S1=>?_⟩
  cases b with
  |true=>
   replace ef:jX i 1 Y=aa o:=by simpa using ef
   unfold jX at ef;cases q:Y[i]? with
   |none=>rw[q] at ef;simp at ef
   |some z=>
    cases z with
    |none=>rw[q] at ef;simp at ef
    |some z=>
     obtain⟨n,d⟩:=z;rw[q] at ef;obtain⟨rfl,rfl⟩:=cQ ef;obtain⟨v,h1,h2⟩:=S1.slot i _ d q;refine oR ⟨v,h1,k v H1 ⟨fp i,S1.ext,S1.nd i,λa m=>⟨(S1.own i a m).1,?_⟩,h2.keep (gK λa h=>?_) λa m=>rfl⟩⟩
     .rcases(S1.own i a m).2 with⟨xs,e⟩|⟨xs,e⟩
      .exact⟨_,e⟩
      .exact⟨_,e⟩
     .rcases h with h|h
      .exact .inl h
      .exact .inr ⟨_,h⟩
  |false=>
   replace ef:cN 1 .s f Y=aa o:=by simpa using ef
   obtain⟨d,e2,ef⟩:=ao ef;cases ef;exact oU ⟨B0,Y,fp,d,S1,e2,λv H' t=>k v H' t.ret⟩
end
section
variable {k:aR}{py:bQ}
theorem Tmp.free{Z:St}(t:Tmp K H0 P0 B0 Y Z n d v H):∃ fp,Sta K H0 P0 B0 Y Z H fp/\Abm K (L2.hid H (Hd P0 fp)) d v:=by
 obtain⟨fp,S,r⟩:=t;have de:∀ a,Hd P0 (λj=>if j=Y.length then [] else fp j) a->Hd P0 fp a:=λa h=>by
  rcases h with h|⟨j,h⟩
  .exact .inl h
  .rw[23]
   .simp only[hj,if_true] at h;simp at h
   .simp only[hj,if_false] at h;exact .inr ⟨j,h⟩
 refine⟨λj=>if j=Y.length then [] else fp j,⟨S.len,λj=>?_,λj k a h1 h2=>?_,λj a h1=>?_,S.ext,S.hd,S.base.trans (gK de),λj n' d' e'=>?_⟩,r.share (gK de) λa m o q=>gZ (λz=>?_) q⟩
 .rw[23]
  .simp only[hj,if_true];exact .nil
  .simp only[hj,if_false];exact S.nd j
 .rw[23]
  .simp only[hj,if_true] at h1;simp at h1
  .by_cases hk:k=Y.length
   .simp only[hk,if_true] at h2;simp at h2
   .simp only[hj,if_false] at h1;simp only[hk,if_false] at h2;exact S.dj j k a h1 h2
 .rw[23]
  .simp only[hj,if_true] at h1;simp at h1
  .simp only[hj,if_false] at h1;exact S.own j a h1
 .have cf:=(cT.1 e').1;have hj:j≠Y.length:=by omega
  obtain⟨v',h1,h2⟩:=S.slot j n' d' e';refine⟨v',h1,?_⟩;simp only[hj,if_false];exact h2.keep (gK de) λa m=>rfl
 .rcases z with z|⟨k,z⟩
  .exact S.np m z
  .by_cases hk:k=Y.length
   .simp only[hk,if_true] at z;simp at z
   .simp only[hk,if_false] at z;exact hk (S.dj k _ a z m)
def zT (i:Nat)(m:Md)(f:EF)(mk:Md)(g:EF):SF:=λY=>(eV 1 m f Y).bind λd=>(getL i Y).bind λds=>(eV 0 mk g Y).bind λk=>match k with
 |.int j=>(ni ds.length j).bind λj=>aa (.nx (Y.set i (aa (1,.list (ds.set j d)))))
 |_=>ae
theorem Ul (i:Nat)(m mk:Md)(he:DF 1 X e f)(hk:DE X k g)(hN:X.N[i]?=aa x:=by rfl)(hv:iY X.env.scope x:=by first|exact bK rfl|exact bW (bK rfl)|exact bW (bW rfl))(hd:(x==("__debug__" : aC))=ag:=by decide)
  (ft:(x==("__classdict__" : aC))=ag:=by decide)
  (ha:∀ v,lO (.Subscript (.Name x px) k az) X.env v=(do
   let ov <-oX [v] (bM (.Name x px) X.env)
   let iv <-oX [v,ov] (bM k X.env)
   standAt az
   oX [v,ov,iv] (setItem ov iv v)
   release [v,ov,iv] []):=by intro _;rfl)
  (hs:QF [.Subscript (.Name x px) k az] e pos.line X.env=pure ag:=by rfl) (hw:QG [.Subscript (.Name x px) k az] e X.env=pure ae:=by rfl)
  (h1:(iJ [.Subscript (.Name x px) k az] X.env).map (·.2)=[lO (.Subscript (.Name x px) k az) X.env]:=by rfl):DS X H0 P0 n0 (.Assign [.Subscript (.Name x px) k az] e pos) (zT i m f mk g):=
 PS.imp (PV (ev m he) (UJ (kA hN hv hd ft) hk set_list ha) hs hw h1) λD Z H gh=>by
  obtain⟨B0,Y,fp,o,S,ef,kk⟩:=gh;obtain⟨d,e1,cw⟩:=ao ef;obtain⟨ds,e2,cg⟩:=ao cw;obtain⟨kd,e3,gw⟩:=ao cg;clear ef cw cg;cases kd with
  |int j=>
   obtain⟨jn,e5,je⟩:=ao (show((ni ds.length j).bind λj=>aa (Out.nx (Y.set i (aa (1,.list (ds.set j d))))))=aa o from gw)
   cases je;refine⟨B0,Y,fp,d,S,e1,λv H2 t=>?_⟩
   obtain⟨ij,S2,r2⟩:=t.free;obtain⟨p,xs,h1,h2,_,_⟩:=S2.lst1 (pQ e2);refine⟨.ref p,h1,CF S2 e3 (by simp[fR]) λu H3 x3 r3=>?_⟩
   have S3:=S2.grow x3;obtain⟨p3,tu,q1,q2,q3,q4⟩:=S3.lst1 (pQ e2);have:p3=p:=by rw[h1] at q1;cases q1;rfl
   rw[20];exact⟨p3,tu,j,jn,rfl,Aal.1 r3,q2,by rw[q3.length];exact e5,kk _ _ ij (q4 _ _ (q3.set (r2.ext (dE x3)) jn))⟩
  |_=>cases gw
end
section
variable {Z:St}
theorem Sta.change{ce:Nat->List aD}{d':aA}(S:Sta K H0 P0 B0 Y Z H fp)(hi:i<Y.length)(hv:Z[i]?=aa (aa v))
  (hf:∀ j,j≠i->j<Y.length->ce j=fp j) (hz:∀ j,Y.length<=j->ce j=[]\/ce j=fp j) (nd:(ce i).Nodup) (sub:∀ a∈ce i,∃ j,a∈fp j/\(j=i\/ce j=[]))
  (kp:∀ a,a∉fp i->H' a=H a) (ow:∀ a∈ce i,(∃ xs,H' a=aa (.lst xs))\/∃ q:DQ,H' a=aa (dO q))
  (new:Ext (L2.hid H (Hd P0 fp)) (L2.hid H' (Hd P0 ce))->Ahl K (L2.hid H' (Hd P0 ce)) H' n d' v (ce i)):Sta K H0 P0 B0 (Y.set i (aa (n,d'))) Z H' ce:=by
 have same:∀ j,j≠i->∀ a∈ce j,a∈fp j:=λj hj a m=>by
  by_cases h:j<Y.length
  .rw[hf j hj h] at m;exact m
  .rcases hz j (by omega) with e|e
   .rw[e] at m;simp at m
   .rw[e] at m;exact m
 have from_:∀ j,∀ a∈ce j,∃ l,a∈fp l:=λj a m=>by
  by_cases h:j=i
  .subst h;obtain⟨l,ml,_⟩:=sub a m;exact⟨l,ml⟩
  .exact⟨j,same j h a m⟩
 have xb:Ext (L2.hid H (Hd P0 fp)) (L2.hid H' (Hd P0 ce)):=λb o e=>by
  obtain⟨nb,e⟩:=Acs.1 e;refine gZ (λq=>nb ?_) ?_
  .rcases q with q|⟨j,q⟩
   .exact .inl q
   .obtain⟨l,ml⟩:=from_ j b q;exact .inr ⟨l,ml⟩
  .rw[kp b λq=>nb (.inr ⟨i,q⟩)];exact e
 have io:∀ j,j≠i->∀ a∈ce j,H' a=H a:=λj hj a m=>kp a λq=>hj (S.dj j i a (same j hj a m) q)
 refine⟨by simp[S.len],λj=>?_,λj l a h1 h2=>?_,λj a m=>?_,λb u e=>?_,S.hd,S.base.trans xb,λj n' d2 e=>?_⟩
 .by_cases h:j=i
  .rw[h];exact nd
  .by_cases h2:j<Y.length
   .rw[hf j h h2];exact S.nd j
   .rcases hz j (by omega) with e|e
    .rw[e];exact .nil
    .rw[e];exact S.nd j
 .by_cases e1:j=i<;>by_cases e2:l=i
  .rw[e1,e2]
  .subst e1;obtain⟨m,hm,hm2⟩:=sub a h1;have:=S.dj m l a hm (same l e2 a h2);rw[20];rcases hm2 with hm2|hm2
   .exact hm2.symm
   .rw[hm2] at h2;simp at h2
  .subst e2;obtain⟨m,hm,hm2⟩:=sub a h2;have:=S.dj m j a hm (same j e1 a h1);rw[20];rcases hm2 with hm2|hm2
   .exact hm2
   .rw[hm2] at h1;simp at h1
  .exact S.dj j l a (same j e1 a h1) (same l e2 a h2)
 .obtain⟨l,ml⟩:=from_ j a m;refine⟨(S.own l a ml).1,?_⟩;by_cases h:j=i
  .subst h;exact ow a m
  .rw[io j h a m];exact(S.own j a (same j h a m)).2
 .rw[kp b λq=>by rw[(S.own i b q).1] at e;cases e]
  exact S.ext b u e
 .by_cases q:j=i
  .subst q;rw[qB hi] at e;cases e;exact⟨v,hv,new xb⟩
  .rw[nX (λz=>q z.symm)] at e
   obtain⟨v2,h1,h2⟩:=S.slot j n' d2 e;have hj:=(cT.1 e).1;refine⟨v2,h1,?_⟩;have:=io j q;rw[hf j q hj] at this ⊢;exact h2.keep xb this
abbrev R1 (K:aK)(B H:Hp):aA×aA->aI×V->List aD->Prop:=λkd kv f=>kd.1=kD kv.1/\Ahl K B H 1 kd.2 kv.2 f
theorem Sta.dic2 {ds:List (aA×aA)}(S:Sta K H0 P0 B0 Y Z H fp)(e:Y[i]?=aa (aa (2,.dict ds))):∃ p ep xs Fs,Z[i]?=aa (aa (.ref p))/\H p=aa (.dK ep xs)/\fp i=p::Fs.flatten/\All3 (R1 K (L2.hid H (Hd P0 fp)) H) ds xs Fs:=by
 obtain⟨v,h1,h2⟩:=S.slot i 2 _ e;obtain⟨p,xs,Fs,rfl,hp,hF,h3⟩:=h2;exact⟨p,xs.1,xs.2,Fs,h1,hp,hF,h3⟩
def qK:List (aA×aA)->aI->aA->List (aA×aA)
 |[],_,_=>[]
 |(k0,d0)::r,k,d=>if cA k0=aa k then(k0,d)::r else(k0,d0)::qK r k d
theorem NF (k0 d0:aA)(r:List (aA×aA))(k:aI):cC ((k0,d0)::r) k=if cA k0=aa k then aa d0 else cC r k:=by
 unfold cC;rw[fN];by_cases h:cA k0=aa k
 .rw[if_pos h];simp[h]
 .rw[if_neg h];simp[h]
theorem MI{k:aI}:∀ {ds:List (aA×aA)} {xs:List (aI×V)} {Fs:List (List aD)},All3 (R1 K B H) ds xs Fs->Fs.flatten.Nodup->∀ d,cC ds k=aa d ->
  ∃ v f,f∈Fs/\dU xs k=aa v/\Ahl K B H 1 d v f/\∀ (B' H':Hp) (d':aA),Ext B B'->Ahl K B' H' 1 d' v f->(∀ a,a∉f->H' a=H a)->All3 (R1 K B' H') (qK ds k d') xs Fs
 |_,_,_,.nil,_,d,e=>by simp[cC] at e
 |(k0,d0)::ds,(k',v0)::xs,f0::Fs,.cons h t,nd,d,e=>by
  obtain⟨ek,h⟩:=h;have ek:=ek;subst ek;rw[NF,nE] at e;rw[kJ,vF] at nd;by_cases q:k'=k
  .rw[if_pos (by rw[q])] at e
   cases e;refine⟨v0,f0,bF,lF q,h,λB' H' d' xb r kp=>?_⟩
   show All3 _ (if cA (kD k')=aa k then(kD k',d')::ds else _) _ _
   rw[if_pos (by rw[nE,q])]
   refine .cons ⟨rfl,r⟩ (t.imp λa b c m rr=>⟨rr.1,rr.2.keep xb λz hz=>kp z λz2=>?_⟩)
   exact nd.2.2 z z2 z (lV.2 ⟨c,m,hz⟩) rfl
  .rw[if_neg (λz=>q (fF z))] at e
   obtain⟨v,f,m,h1,h2,h3⟩:=MI t nd.2.1 d e;refine⟨v,f,bL _ m,(kS q).trans h1,h2,λB' H' d' xb r kp=>?_⟩
   show All3 _ (if cA (kD k')=aa k then(kD k',d')::ds else(kD k',d0)::qK ds k d') _ _
   rw[if_neg (by rw[nE];exact λz=>q (fF z))]
   refine .cons ⟨rfl,h.keep xb λz hz=>kp z λz2=>?_⟩ (h3 B' H' d' xb r kp)
   exact nd.2.2 z hz z (lV.2 ⟨f,m,z2⟩) rfl
theorem Sta.inner {ds:List (aA×aA)}{k:aI}{es:List aA}(S:Sta K H0 P0 B0 Y Z H fp)(e:Y[i]?=aa (aa (2,.dict ds)))(hk:cC ds k=aa (.list es)):∃ p ep xs q ys,Z[i]?=aa (aa (.ref p))/\H p=aa (.dK ep xs)/\dU xs k=aa (.ref q)/\H q=aa (.lst ys)/\Aap K (L2.hid H (Hd P0 fp)) es ys /\
  ∀ jd N4,Aap K (L2.hid H (Hd P0 fp)) jd N4->Sta K H0 P0 B0 (Y.set i (aa (2,.dict (qK ds k (.list jd))))) Z (upd H q (.lst N4)) fp:=by
 obtain⟨p,ep,xs,Fs,h1,h2,h3,h4⟩:=S.dic2 e;have nd:=S.nd i;rw[h3,lT] at nd;obtain⟨v,f,mf,hv,hr,up⟩:=MI h4 nd.2 _ hk;obtain⟨q,ys,Gs,rfl,hq,hF,g3⟩:=hr;obtain⟨r,hn⟩:=MG g3;rw[hn] at hF;refine⟨p,ep,xs,q,ys,h1,h2,hv,hq,r,λjd N4 r'=>?_⟩
 have mq:q∈fp i:=by
  rw[h3];exact bL _ (lV.2 ⟨f,mf,by rw[hF];exact bF⟩)
 have npq:p≠q:=λz=>nd.1 (lV.2 ⟨f,mf,by rw[hF,z];exact bF⟩)
 refine S.change (cT.1 e).1 h1 (λ_ _ _=>rfl) (λ_ _=>.inr rfl) (S.nd i) (λa m=>⟨i,m,.inl rfl⟩) (λa na=>cY λz=>na (z ▸ mq)) (λa m=>?_) λxb=>?_
 .by_cases z:a=q
  .subst z;exact .inl ⟨N4,eU⟩
  .rw[cY z];exact(S.own i a m).2
 .refine⟨p,(ep,xs),Fs,rfl,by rw[cY npq];exact h2,h3,up _ _ _ xb ?_ λa na=>cY λz=>na (by rw[hF,z];exact bF)⟩
  obtain⟨q1,q2⟩:=GG (r'.ext xb);exact⟨q,N4,_,rfl,eU,by rw[hF,q2],q1⟩
theorem Ac{kd:aA×aA}{kv:aI×V}{f:List aD}(h:R1 K B H kd kv f):∀ {ds:List (aA×aA)} {xs:List (aI×V)} {Fs:List (List aD)},All3 (R1 K B H) ds xs Fs->All3 (R1 K B H) (ds++[kd]) (xs++[kv]) (Fs++[f])
 |_,_,_,.nil=>.cons h .nil
 |_,_,_,.cons h' t=>.cons h' (Ac h t)
theorem MM{k:aI}:∀ {ds:List (aA×aA)} {xs:List (aI×V)} {Fs:List (List aD)},All3 (R1 K B H) ds xs Fs->cC ds k=ae->dU xs k=ae
 |_,_,_,.nil,_=>rfl
 |(k0,d0)::ds,(k',v0)::xs,f0::Fs,.cons h t,e=>by
  obtain⟨ek,h⟩:=h;have ek:=ek;subst ek;rw[NF,nE] at e;by_cases q:k'=k
  .rw[if_pos (by rw[q])] at e;cases e
  .rw[if_neg (λz=>q (fF z))] at e
   exact(kS q).trans (MM t e)
theorem LH:∀ {ds:List (aA×aA)} {xs:List (aI×V)} {Fs:List (List aD)},All3 (R1 K B H) ds xs Fs->xs.length=ds.length
 |_,_,_,.nil=>rfl
 |_,_,_,.cons _ t=>by rw[fY,fY,LH t]
theorem Sta.newKey {ds:List (aA×aA)}{k:aI}(S:Sta K H0 P0 B0 Y Z H fp)(e:Y[i]?=aa (aa (2,.dict ds)))(hk:cC ds k=ae)(r:Ahl K (L2.hid H (Hd P0 fp)) H 1 d v (fp Y.length)):∃ p ep xs,Z[i]?=aa (aa (.ref p))/\H p=aa (.dK ep xs)/\xs.length=ds.length /\
  ∀ n,∃ ce,Sta K H0 P0 B0 (Y.set i (aa (2,.dict (ds++[(kD k,d)])))) Z (upd H p (.dK n (putK xs k v))) ce:=by
 obtain⟨p,ep,xs,Fs,h1,h2,h3,h4⟩:=S.dic2 e;have hi:=(cT.1 e).1;refine⟨p,ep,xs,h1,h2,LH h4,λn=>?_⟩
 have xv:putK xs k v=xs++[(k,v)]:=by
  unfold putK;rw[wM,MM h4 hk]
  rfl
 have mp:p∈fp i:=by rw[h3];exact bF
 have nl:∀ a∈fp Y.length,a∉fp i:=λa m m2=>by
  have:=S.dj _ _ a m m2;omega
 refine⟨λj=>if j=i then p::(Fs++[fp Y.length]).flatten else if j=Y.length then [] else fp j,S.change hi h1 (λj a b=>?_) (λj a=>?_) ?_ (λa m=>?_) (λa na=>cY λz=>na (by rw[show a=p from z];exact mp)) (λa m=>?_) λxb=>?_⟩
 .simp only[a,if_false];rw[if_neg (by omega)]
 .have:j≠i:=by omega
  simp only[this,if_false];by_cases z:j=Y.length
  .rw[if_pos z];exact .inl rfl
  .rw[if_neg z];exact .inr rfl
 .simp only[if_true,Ie,Ic];have nd:=S.nd i;rw[h3] at nd;rw[<-DJ];refine vF.2 ⟨nd,S.nd _,λa ha b hb e=>?_⟩
  subst e;exact nl a hb (by rw[h3];exact ha)
 .simp only[if_true,Ie,Ic] at m;rw[<-DJ] at m;rcases gP.1 m with m|m
  .exact⟨i,by rw[h3];exact m,.inl rfl⟩
  .refine⟨Y.length,m,.inr ?_⟩;have:Y.length≠i:=by omega
   simp only[this,if_false,if_true]
 .simp only[if_true,Ie,Ic] at m;rw[<-DJ] at m;by_cases z:a=p
  .subst z;exact .inr ⟨.inl (n,_),eU⟩
  .rw[cY z];rcases gP.1 m with m|m
   .exact(S.own i a (by rw[h3];exact m)).2
   .exact(S.own _ a m).2
 .rw[25];have nd:=S.nd i;rw[h3,lT] at nd;rw[xv] at xb ⊢;refine⟨p,(n,xs++[(k,v)]),Fs++[fp Y.length],rfl,eU,rfl,?_⟩;have rk:=Ahl.keep xb (H':=upd H p (.dK n (xs++[(k,v)]))) (λa m=>cY λz=>nl a m (by rw[show a=p from z];exact mp)) r
  refine Ac ⟨rfl,rk⟩ (h4.imp λa b c m rr=>⟨rr.1,Ahl.keep xb (λz hz=>cY λz2=>nd.1 ?_) rr.2⟩)
  have z2:=z2;rw[<-z2];exact lV.2 ⟨c,m,hz⟩
end
def oD (i:Nat)(Y:aU):Option (List (aA×aA)):=match Y[i]? with
 |some (aa (2,.dict ds))=>aa ds
 |_=>ae
theorem nK{ds:List (aA×aA)}(h:oD i Y=aa ds):Y[i]?=aa (aa (2,.dict ds)):=by
 unfold oD at h;split at h
 .rename_i e;cases h;exact e
 .cases h
section
variable {k o:aR}
theorem m9:DF 2 X (.Dict [] [] pos) (eC (.dict [])):=PE.imp XE λZ H Q gh=>by
 rw[5];cases ef;refine λq hq=>k (.ref q) _ [q] (Ext.new hq) (lT.2 ⟨by simp,.nil⟩) (λa m=>?_) ⟨q,(0,[]),[],rfl,eU,rfl,.nil⟩
 have:a=q:=by simpa using m
 rw[20];exact⟨hq,_,eU⟩
end
def Es:V->List V->Hp->VK->Prop:=λx vs H Q=>∃ d ep kvs k y,x=.ref d/\vs=[kV k,y]/\H d=aa (.dK ep kvs)/\kvs.length<sizeLine /\
 ((∃ u,dU kvs k=aa u/\Q u H)\/(dU kvs k=ae/\∀ n,Q y (upd H d (.dK n (putK kvs k y)))))
theorem MP:X8 X "dict.setdefault" Es:=by
 intro ad s Z H x vs v us Q I rx rv h;obtain⟨d,ep,kvs,k,y,rfl,rfl,e,l,q⟩:=h;cases rx;cases rv with
 |cons rk rr=>
  cases rr with
  |cons ry rr=>
   cases rr;obtain⟨z,hd,ws,dh,dd⟩:=tW I.hok e;refine QO QR dd.typeIs PySem.F.entry_dict_setdefault (PySem.F.args_dict_setdefault_3 _ _ _) (kt_meets_setdefault (fK X.prog X.w) d (qR rk) hd _) ⟨ws,dd,by rw[<-dh.length];exact z,λw hw=>?_,λhn h' vi sb=>?_⟩
   .have rl:=dh.val k;rcases q with⟨u,hu,q⟩|⟨hu,q⟩
    .rw[hu] at rl;obtain⟨w',e1,e2⟩:=rl.some_of;have e3:w'=w:=by rw[e1] at hw;exact fF hw
     subst e3;exact⟨u,H,I.tok _,e2,q⟩
    .rw[hu] at rl;have:=rl.none_of;rw[this] at hw;cases hw
   .have rl:=dh.val k;rcases q with⟨u,hu,q⟩|⟨hu,q⟩
    .rw[hu] at rl;obtain⟨w',e1,e2⟩:=rl.some_of;rw[e1] at hn;cases hn
    .have hl:(putK kvs k y).length<=sizeLine:=by have:=BB kvs k y;omega
     have he:∃ q,h'.get? d=aa q:=let ⟨q,_,_,hq,_⟩:=vi;⟨q,hq⟩;obtain⟨n,da⟩:=vi.dictAt;exact⟨y,_,EV I (by rw[e];exact pV) sb he (zU hl hd (dh.put k ry) da),ry,q n⟩
section
variable {k v:aR}{fc:BF}{fv f2:EF}{p3:bQ}
def yl (i j:Nat)(mc:Md)(fc:BF)(mk:Md)(fk:EF)(mv:Md)(fv:EF)(m2:Md)(f2:EF):SF:=λY=>(bV mc fc Y).bind λb=>if b=af then
  (eV 0 mk fk Y).bind λkd=>(eV 0 mv fv Y).bind λd=>(cA kd).bind λkey=>(nM j Y).bind λkds=>match d with
   | .int n=>if i<Y.length/\kds.length<sizeLine then aa (.nx (match cC kds key with
    |some u=>Y.set i (aa (0,u))
    | none=>(Y.set j (aa (1,.dict (putD kds key (.int n))))).set i (aa (0,.int n)))) else ae
   |_=>ae
 else(eV 0 m2 f2 Y).bind λd=>if i<Y.length then aa (.nx (Y.set i (aa (0,d)))) else ae
theorem Kr (i j:Nat)(mc mk mv m2:Md)(hN:X.N.Nodup)(hc:DT X c fc)(hk:DE X k fk)(hv:DE X v fv)(he:DE X e2 f2)(hi:X.N[i]?=aa x:=by rfl)(hx:kK X.env.scope x:=by trivial)
  (hj:X.N[j]?=aa y:=by rfl) (hy:iY X.env.scope y:=by first|exact bK rfl|exact bW (bK rfl)|exact bW (bW rfl)) (hd:(y==("__debug__" : aC))=ag:=by decide)
  (ft:(y==("__classdict__" : aC))=ag:=by decide) (bv:oZ (.Name y p2) "setdefault" X.env (bM (.Name y p2) X.env)=bM (.Name y p2) X.env:=by rfl)
  (fu:((eR cp (bH (k::[v]) X.env)).all (λx=>!x.1)&&(rL cp (rH [] X.env)).all (λx=>x.1.isSome)
   && decide ((k::[v]).length+([]:List iX).length+(if ([]:List iX).isEmpty then 0 else 1)<30))=af:=by rfl)
  (bw:(ap.endLine==cp.line)=af:=by rfl) (hs:bH (k::[v]) X.env=(ag,bM k X.env)::bH [v] X.env:=by rfl) (oe:bH (v::[]) X.env=(ag,bM v X.env)::bH [] X.env:=by rfl) (bp:(eR cp (bH [v] X.env)).any (·.1)=ag:=by rfl)
  (rh:mQ (.IfExp c (.Call (.Attribute (.Name y p2) "setdefault" ap) [k,v] [] cp) e2 p3) (aa (.Name x p1)) pos.line X.env=pure ag:=by rfl) (hf:X.fn x=af\/X.env.scope.names.lookup x=aa .local:=by first|exact .inl rfl|exact .inr rfl|assumption) :
  DS X H0 P0 n0 (.Assign [.Name x p1] (.IfExp c (.Call (.Attribute (.Name y p2) "setdefault" ap) [k,v] [] cp) e2 p3) pos) (yl i j mc fc mk fk mv fv m2 f2):=
 PS.imp (PN hN hi hx (WI (V8 mc hc) (sE HP QR Gy MP (kA hj hy hd ft) (iF (ev mk hk) (iF (ev mv hv) kQ oe) hs) bv fu bw hs bp) (ev m2 he)) rh hf) λD Z H gh=>by
  obtain⟨B0,Y,fp,o,S,ef,kk⟩:=gh;obtain⟨b,e1,cw⟩:=ao ef;refine⟨B0,Y,fp,b,S,e1,λH1 S1=>?_⟩
  cases b with
  |false=>
   refine oU ?_;obtain⟨d,g1,g2⟩:=ao (show((eV 0 m2 f2 Y).bind λd=>if i<Y.length then aa (Out.nx (Y.set i (aa (0,d)))) else ae)=aa o from cw)
   obtain⟨hl,rfl⟩:=cQ g2;refine⟨B0,Y,fp,d,S1,g1,λu H2 t=>?_⟩
   obtain⟨ce,S'⟩:=t.set hl;exact kk _ _ ce S'
  |true=>
   refine oR ?_;obtain⟨kd,g1,cg⟩:=ao (show((eV 0 mk fk Y).bind λkd=>(eV 0 mv fv Y).bind λd=>(cA kd).bind λkey=>(nM j Y).bind λkds=>match d with
    | .int n=>if i<Y.length/\kds.length<sizeLine then aa (Out.nx (match cC kds key with
     |some u=>Y.set i (aa (0,u))
     | none=>(Y.set j (aa (1,.dict (putD kds key (.int n))))).set i (aa (0,.int n)))) else ae
    | _=>ae)=aa o from cw)
   obtain⟨d,g2,gw⟩:=ao cg;obtain⟨key,g3,je⟩:=ao gw;obtain⟨kds,g4,xm⟩:=ao je;clear ef cw cg gw je;cases d with
   |int n=>
    obtain⟨⟨hl,hz⟩,rfl⟩:=cQ xm;obtain⟨p,ep,xs,h1,h2,_,_⟩:=S1.dic1 (wW g4);refine⟨.ref p,h1,.inr (.inr (.inl ⟨rfl,.inl ⟨ep,xs,h2⟩⟩)),B0,Y,fp,kd,S1,g1,λv1 H2 gh=>?_⟩
    obtain⟨ij,S2,r2⟩:=gh;have Ev:=mJ g3 r2.2;refine⟨B0,Y,ij,.int n,S2,g2,λv2 H3 gh=>?_⟩
    obtain⟨T1,S3,r3⟩:=gh;have ev2:=Aal.1 r3.2;subst Ev ev2;obtain⟨p3,vo,tu,q1,q2,q3,q4⟩:=S3.dic1 (wW g4);have:p3=p:=by rw[h1] at q1;cases q1;rfl
    rw[20];refine⟨p3,vo,tu,key,.int n,rfl,rfl,q2,by rw[q3.length];exact hz,?_⟩
    rcases uN q3 with⟨n1,n2⟩|⟨d',v',s1,s2,rd⟩
    .refine .inr ⟨n2,λm=>?_⟩
     rw[n1] at kk;have S4:=q4 m _ _ (FD (k:=key) (d:=.int n) (v:=.int n) q3 (Aal.2 rfl));obtain⟨ce,S'⟩:=S4.Ao4 (Aal.2 rfl) (by simpa using hl)
     exact kk _ _ ce S'
    .refine .inl ⟨v',s2,?_⟩;rw[s1] at kk;obtain⟨ce,S'⟩:=S3.Ao4 rd hl;exact kk _ _ ce S'
   |_=>cases xm
end
section
variable {Z:St}
def ve (kds:List (aA×aA))(k:aI):List (aA×aA):=match cC kds k with
 |some _=>kds
 |none=>kds++[(kD k,.list [])]
def AL (Z:St)(H:Hp)(i j:Nat)(k:aI):Prop:=∃ p ep xs q,Z[i]?=aa (aa (.ref p))/\H p=aa (.dK ep xs)/\dU xs k=aa (.ref q)/\Z[j]?=aa (aa (.ref q))
theorem AL.set {k:aI}{l:Nat}(h:AL Z H i j k)(hi:l≠i)(hj:l≠j):AL (Z.set l (aa v)) H i j k:=by
 obtain⟨p,ep,xs,q,h1,h2,h3,h4⟩:=h;exact⟨p,ep,xs,q,by rw[nX hi];exact h1,h2,h3,by rw[nX hj];exact h4⟩
theorem set_same {Y:aU}{i:Nat}{x:Slot}(h:Y[i]?=aa x):Y.set i x=Y:=by
 apply RM;intro j;by_cases e:i=j
 .subst e;rw[qB (cT.1 h).1,h]
 .rw[nX e]
end
section
variable {l:Nat}{k:aR}{fm:EF}{t:BF}{z:aC}{p3 p5 lp ap2 cp2 pos3 pos4:bQ}
theorem Ve(h:oD i Y=aa kds):i<Y.length:=(cT.1 (nK h)).1
end
section
variable {k o:aR}
def xW (i:Nat)(mk:Md)(g:EF)(m:Md)(f:EF):SF:=λY=>(oD i Y).bind λkds=>(eV 0 mk g Y).bind λk=>(cA k).bind λk=>(cC kds k).bind λl=>match l with
 |.list es=>(eV 0 m f Y).bind λd=>if fR d=af/\es.length<sizeLine then aa (.nx (Y.set i (aa (2,.dict (qK kds k (.list (es++[d]))))))) else ae
 |_=>ae
theorem Fi (i:Nat)(mk m:Md)(hu:X.A.units+40<cLine)(hk:DE X k g)(he:DE X e f)(hN:X.N[i]?=aa x:=by rfl)(hv:iY X.env.scope x:=by first|exact bK rfl|exact bW (bK rfl)|exact bW (bW rfl))(hd:(x==("__debug__" : aC))=ag:=by decide)
  (ft:(x==("__classdict__" : aC))=ag:=by decide) (W2:JC k:=by exact λ_ _=>rfl) (bv:oZ (.Subscript (.Name x px) k lj) "append" X.env (bM (.Subscript (.Name x px) k lj) X.env)=bM (.Subscript (.Name x px) k lj) X.env:=by rfl)
  (fu:((eR ax (bH (e::[]) X.env)).all (λx=>!x.1)&&(rL ax (rH [] X.env)).all (λx=>x.1.isSome)
   && decide ((e::[]).length+([]:List iX).length+(if ([]:List iX).isEmpty then 0 else 1)<30))=af:=by rfl)
  (bw:(az.endLine==ax.line)=af:=by rfl) (hs:bH (e::[]) X.env=(ag,bM e X.env)::bH [] X.env:=by rfl) (bp:(eR ax (bH [] X.env)).any (·.1)=ag:=by rfl)
  (rh:mQ (.Call (.Attribute (.Subscript (.Name x px) k lj) "append" az) [e] [] ax) ae pos.line X.env=pure ag:=by rfl):DS X H0 P0 n0 (.Expr (.Call (.Attribute (.Subscript (.Name x px) k lj) "append" az) [e] [] ax) pos) (xW i mk g m f):=
 PS.imp (zX (sE QS J9 J7 MO (Eg hu (kA hN hv hd ft) hk W2) (iF he kQ hs) bv fu bw hs bp) rh) λD Z H gh=>by
  obtain⟨B0,Y,fp,o,S,ef,kk⟩:=gh;obtain⟨kds,e2,cg⟩:=ao ef;obtain⟨kd,e3,gw⟩:=ao cg;obtain⟨key,e4,je⟩:=ao gw;obtain⟨l,e5,xm⟩:=ao je;clear ef cg gw je;cases l with
  |list es=>
   obtain⟨d,e1,EQ⟩:=ao xm;obtain⟨⟨hfd,lz⟩,rfl⟩:=cQ EQ;have hf:fR kd=af:=by rw[GN e4];cases key<;>simp[kD,fR]
   obtain⟨p,ep,xs,q,ys,h1,h2,h3,h4,_,_⟩:=S.inner (nK e2) e5;refine⟨.ref p,h1,CF S e3 hf λu H2 x2 r2=>⟨p,.ref q,rfl,.inl ⟨ep,xs,key,.inl (x2 _ _ h2),mJ e4 r2,h3.symm⟩,.inl ⟨rfl,ys,SqL.of (x2 _ _ h4)⟩,CF (S.grow x2) e1 hfd λv H3 x3 r3=>?_⟩⟩
   have S3:=S.grow (x2.trans x3);obtain⟨p3,vo,tu,q3,ys3,g1,g2,g3,g4,g5,g6⟩:=S3.inner (nK e2) e5;have xv:p3=p:=by rw[h1] at g1;cases g1;rfl
   subst xv;have ex:=g2.symm.trans (x3 _ _ (x2 _ _ h2));injection ex with ex;injection ex with ex1 ex2;subst ex2;have eq':q3=q:=by
    have:=g3.symm.trans h3;injection this with this;injection this
   subst eq';exact⟨q3,ys3,v,rfl,rfl,g4,by rw[g5.length];exact lz,kk _ _ fp (g6 _ _ (g5.snoc r3))⟩
  |_=>cases xm
end
def qL (kvs:List (aI×V))(k:aI):List (aI×V):=kvs.filter λkv=>decide (kv.1≠k)
theorem KV.out (k:aI):∀ {kvs:List (aI×V)} {vs:List (aI×aE)},KV kvs vs->KV (qL kvs k) (without vs k)
 |_,_,.nil=>.nil
 |p::_,q::_,.cons h t=>by
  have e:=h.1;unfold qL without;rw[DD,DD];by_cases c:p.1=k
  .rw[if_neg (by simp[c]),if_neg (by rw[<-e];simp[c])]
   exact KV.out k t
  .rw[if_pos (by simp[c]),if_pos (by rw[<-e];simp[c])]
   exact .cons h (KV.out k t)
def Kt:V->List V->Hp->VK->Prop:=λx vs H Q=>∃ d ep kvs k u,x=.ref d/\vs=[kV k]/\H d=aa (.dK ep kvs)/\dU kvs k=aa u/\∀ n,Q u (upd H d (.dK n (qL kvs k)))
theorem Qw:X8 X "dict.pop" Kt:=by
 intro ad s Z H x vs v us Q I rx rv h;obtain⟨d,ep,kvs,k,u,rfl,rfl,e,hu,q⟩:=h;cases rx;cases rv with
 |@cons _ key _ _ rk rr=>
  cases rr;obtain⟨z,hd,ws,dh,dd⟩:=tW I.hok e;have rl:=dh.val k;rw[hu] at rl;obtain⟨w',e1,e2⟩:=rl.some_of;have hp:(keyPart key).isSome=af:=by
   rcases nH (qR (P:=X.prog) (w:=X.w) rk) with⟨i,tk,_,e2⟩|⟨x,tk,_,e2⟩<;>rw[e2]<;>rfl
  refine QO PySem.F.slot_dict_pop dd.typeIs PySem.F.entry_dict_pop (PySem.F.args_dict_pop_2 _ _) (meets_dict_pop_there (fK X.prog X.w) d (qR rk) [] (.inl rfl) hp) ⟨ws,w',dd,by rw[<-dh.length];exact z,e1,λh' vi sb=>?_⟩
  have he:∃ q,h'.get? d=aa q:=let ⟨q,_,_,hq,_⟩:=vi;⟨q,hq⟩;obtain⟨n,da⟩:=vi.dictAt;have hl:(qL kvs k).length<=sizeLine:=dG (IA _ _) z;exact⟨u,_,EV I (by rw[e];exact pV) sb he (zU hl hd (dh.out k) da),e2,q n⟩
section
variable {Z:St}
def rW (kds:List (aA×aA))(k:aI):List (aA×aA):=kds.filter λkd=>decide (cA kd.1≠aa k)
theorem WG{k:aI}:∀ {ds:List (aA×aA)} {xs:List (aI×V)} {Fs:List (List aD)},All3 (R1 K B H) ds xs Fs->∃ Gs:List (List aD),Gs.flatten.Sublist Fs.flatten/\∀ (B' H':Hp),Ext B B'->(∀ a∈Fs.flatten,H' a=H a)->All3 (R1 K B' H') (rW ds k) (qL xs k) Gs
 |_,_,_,.nil=>⟨[],.slnil,λ_ _ _ _=>.nil⟩
 |(k0,d0)::ds,(k',v0)::xs,f0::Fs,.cons h t=>by
  obtain⟨ek,h⟩:=h;have ek:=ek;subst ek;obtain⟨Gs,sub,up⟩:=WG t;by_cases c:k'=k
  .refine⟨Gs,?_,λB' H' xb kp=>?_⟩
   .rw[kJ];exact sub.trans (List.sublist_append_right _ _)
   .unfold rW qL;rw[DD,DD,if_neg (by simp[nE,c]),if_neg (by simp[c])]
    exact up B' H' xb λa m=>kp a (by rw[kJ];exact gP.2 (.inr m))
  .refine⟨f0::Gs,?_,λB' H' xb kp=>?_⟩
   .rw[kJ,kJ];exact List.Sublist.append (Ik _) sub
   .unfold rW qL;rw[DD,DD,if_pos (by simp[nE,c]),if_pos (by simp[c])]
    exact .cons ⟨rfl,h.keep xb λa m=>kp a (by rw[kJ];exact gP.2 (.inl m))⟩ (up B' H' xb λa m=>kp a (by rw[kJ];exact gP.2 (.inr m)))
theorem Sta.outKey {ds:List (aA×aA)}{k:aI}(S:Sta K H0 P0 B0 Y Z H fp)(e:Y[i]?=aa (aa (2,.dict ds)))(hk:cC ds k=aa d):∃ p ep xs u,Z[i]?=aa (aa (.ref p))/\H p=aa (.dK ep xs)/\dU xs k=aa u /\
  ∀ n,∃ ce,Sta K H0 P0 B0 (Y.set i (aa (2,.dict (rW ds k)))) Z (upd H p (.dK n (qL xs k))) ce:=by
 obtain⟨p,ep,xs,Fs,h1,h2,h3,h4⟩:=S.dic2 e;have hi:=(cT.1 e).1;have nd:=S.nd i;rw[h3,lT] at nd;obtain⟨u,f,_,hu,_⟩:=MI h4 nd.2 _ hk;refine⟨p,ep,xs,u,h1,h2,hu,λn=>?_⟩
 obtain⟨Gs,sub,up⟩:=WG h4;have mp:p∈fp i:=by rw[h3];exact bF
 have inF:∀ a∈p::Gs.flatten,a∈fp i:=λa m=>by
  rw[h3];rcases cM.1 m with m|m
  .rw[m];exact bF
  .exact bL _ (sub.subset m)
 refine⟨λj=>if j=i then p::Gs.flatten else fp j,S.change hi h1 (λj a b=>by simp only[a,if_false]) (λj a=>?_) ?_ (λa m=>?_) (λa na=>cY λz=>na (by rw[show a=p from z];exact mp)) (λa m=>?_) λxb=>?_⟩
 .have:j≠i:=by omega
  simp only[this,if_false];exact .inr trivial
 .rw[25];exact lT.2 ⟨λm=>nd.1 (sub.subset m),nd.2.sublist sub⟩
 .simp only[if_true] at m;exact⟨i,inF a m,.inl rfl⟩
 .simp only[if_true] at m;by_cases z:a=p
  .subst z;exact .inr ⟨.inl (n,_),eU⟩
  .rw[cY z];exact(S.own i a (inF a m)).2
 .rw[25];refine⟨p,(n,qL xs k),Gs,rfl,eU,rfl,up _ _ xb λa m=>cY λz=>nd.1 ?_⟩
  have z:=z;rw[<-z];exact m
end
section
variable {k:aR}
def HA (i:Nat)(mk:Md)(g:EF):SF:=λY=>(oD i Y).bind λkds=>(eV 0 mk g Y).bind λk=>(cA k).bind λk=>if (cC kds k).isSome=af then aa (.nx (Y.set i (aa (2,.dict (rW kds k))))) else ae
theorem Tq (i:Nat)(mk:Md)(hk:DE X k g)(hN:X.N[i]?=aa x:=by rfl)(hv:iY X.env.scope x:=by first|exact bK rfl|exact bW (bK rfl)|exact bW (bW rfl))(hd:(x==("__debug__" : aC))=ag:=by decide)
  (ft:(x==("__classdict__" : aC))=ag:=by decide) (bv:oZ (.Name x px) "pop" X.env (bM (.Name x px) X.env)=bM (.Name x px) X.env:=by rfl)
  (fu:((eR ax (bH (k::[]) X.env)).all (λx=>!x.1)&&(rL ax (rH [] X.env)).all (λx=>x.1.isSome)
   && decide ((k::[]).length+([]:List iX).length+(if ([]:List iX).isEmpty then 0 else 1)<30))=af:=by rfl)
  (bw:(az.endLine==ax.line)=af:=by rfl) (hs:bH (k::[]) X.env=(ag,bM k X.env)::bH [] X.env:=by rfl) (bp:(eR ax (bH [] X.env)).any (·.1)=ag:=by rfl)
  (rh:mQ (.Call (.Attribute (.Name x px) "pop" az) [k] [] ax) ae pos.line X.env=pure ag:=by rfl):DS X H0 P0 n0 (.Expr (.Call (.Attribute (.Name x px) "pop" az) [k] [] ax) pos) (HA i mk g):=
 PS.imp (zX (sE HP PySem.F.slot_dict_pop PySem.F.type_dict_pop Qw (kA hN hv hd ft) (iF (ev mk hk) kQ hs) bv fu bw hs bp) rh) λD Z H gh=>by
  obtain⟨B0,Y,fp,o,S,ef,kk⟩:=gh;obtain⟨kds,e2,cg⟩:=ao ef;obtain⟨kd,e3,gw⟩:=ao cg;obtain⟨key,e4,je⟩:=ao gw;obtain⟨hn,rfl⟩:=cQ je;obtain⟨d0,hn⟩:=yH.1 hn;obtain⟨p,ep,xs,u,h1,h2,_,_⟩:=S.outKey (nK e2) hn;refine⟨.ref p,h1,.inr (.inr (.inl ⟨rfl,.inl ⟨ep,xs,h2⟩⟩)),B0,Y,fp,kd,S,e3,λv1 H2 gh=>?_⟩
  obtain⟨ij,S2,r2⟩:=gh;have Ev:=mJ e4 r2.2;subst Ev;obtain⟨p3,vo,tu,u3,q1,q2,q3,q4⟩:=S2.outKey (nK e2) hn;have:p3=p:=by rw[h1] at q1;cases q1;rfl
  rw[20];refine⟨p3,vo,tu,key,u3,rfl,rfl,q2,q3,λn=>?_⟩
  obtain⟨ce,S4⟩:=q4 n;exact kk _ _ ce S4
end
section
variable {k v:aR}{fc fv f2:EF}{jz yc ye:bQ}
def rS (i:Nat)(m2:Md)(f2:EF)(u:Int)(Y:aU):Option Out:=(eV 0 m2 f2 Y).bind λw=>match w with
 |.int w=>if i<Y.length then aa (.nx (Y.set i (aa (0,.bool (decide (u=w)))))) else ae
 |_=>ae
def uA (i:Nat)(mc:Md)(fc:EF)(j:Nat)(mk:Md)(fk:EF)(mv:Md)(fv:EF)(m2:Md)(f2:EF):SF:=λY=>(eV 0 mc fc Y).bind λb=>match b with
 |.bool ag=>if i<Y.length then aa (.nx (Y.set i (aa (0,.bool ag)))) else ae
 |.bool af=>(eV 0 mk fk Y).bind λkd=>(eV 0 mv fv Y).bind λd=>(cA kd).bind λkey=>(nM j Y).bind λkds=>match d with
  |.int n=>if kds.length<sizeLine then match cC kds key with
    |some (.int u)=>rS i m2 f2 u Y
    |some _=>ae
    |none=>rS i m2 f2 n (Y.set j (aa (1,.dict (putD kds key (.int n)))))
   else ae
  |_=>ae
 |_=>ae
theorem YK {m2:Md}{Z:St}{u:Int}{o:Out}{D:Ends}(S:Sta K H0 P0 B0 Y Z H fp)(ef:rS i m2 f2 u Y=aa o)(kk:TK K H0 P0 B0 n0 D o) :
  tE K H0 P0 0 m2 f2 Z H λz H2=>yY K ag (.int u) z H2 λb H3=>D.nx (Z.set i (aa b)) H3:=by
 obtain⟨w,e1,ef⟩:=ao ef;cases w with
 |int w=>
  obtain⟨hl,rfl⟩:=cQ ef;refine⟨B0,Y,fp,.int w,S,e1,λv H2 gh=>?_⟩
  obtain⟨ij,S2,r2⟩:=gh;have ev:=Aal.1 r2.2;subst ev;refine⟨.int u,.int w,Aal.2 rfl,Aal.2 rfl,rfl,rfl,?_⟩;have eb:(ag != cD (.int u) (.int w))=decide (u=w):=by
   have:cD (.int u) (.int w)=decide (u=w):=by
    simp only[cD]
    rfl
   rw[this];by_cases q:u=w<;>simp[q]
  rw[eb];have t:Tmp K H0 P0 B0 Y Z 0 (.bool (decide (u=w))) (.bl (decide (u=w))) H2:=⟨ij,S2,r2.1,Aaw.2 rfl⟩;obtain⟨T1,S3⟩:=t.set hl;exact kk _ _ T1 S3
 |_=>cases ef
theorem Vg (i j:Nat)(mc mk mv m2:Md)(hu:X.A.units+100<cLine)(hN:X.N.Nodup)(hi:X.N[i]?=aa x)(hx:kK X.env.scope x)(hc:DE X c fc)(hk:DE X k fk)(hv:DE X v fv)(he:DE X e2 f2)(hj:X.N[j]?=aa y:=by rfl)(hy:iY X.env.scope y:=by first|exact bK rfl|exact bW (bK rfl)|exact bW (bW rfl))(hd:(y==("__debug__" : aC))=ag:=by decide)
  (ft:(y==("__classdict__" : aC))=ag:=by decide) (bv:oZ (.Name y p2) "setdefault" X.env (bM (.Name y p2) X.env)=bM (.Name y p2) X.env:=by rfl)
  (fu:((eR cp (bH (k::[v]) X.env)).all (λx=>!x.1)&&(rL cp (rH [] X.env)).all (λx=>x.1.isSome)&&decide ((k::[v]).length+([]:List iX).length+(if ([]:List iX).isEmpty then 0 else 1)<30))=af:=by rfl)
  (bw:(ap.endLine==cp.line)=af:=by rfl) (hs:bH (k::[v]) X.env=(ag,bM k X.env)::bH [v] X.env:=by rfl) (oe:bH (v::[]) X.env=(ag,bM v X.env)::bH [] X.env:=by rfl) (bp:(eR cp (bH [v] X.env)).any (·.1)=ag:=by rfl)
  (hm:uY .Eq e2=ag:=by exact nA _)
  (rh:mQ (.BoolOp .And [c,.Compare (.Call (.Attribute (.Name y p2) "setdefault" ap) [k,v] [] cp) [.Eq] [e2] ye] yc) (aa (.Name x jz)) pos.line X.env=pure ag:=by rfl) (hf:X.fn x=af\/X.env.scope.names.lookup x=aa .local:=by first|exact .inl rfl|exact .inr rfl|assumption) :
  DS X H0 P0 n0 (.Assign [.Name x jz] (.BoolOp .And [c,.Compare (.Call (.Attribute (.Name y p2) "setdefault" ap) [k,v] [] cp) [.Eq] [e2] ye] yc) pos) (uA i mc fc j mk fk mv fv m2 f2):=
 PS.imp (PN hN hi hx (VN (ev mc hc) (VY (Fv (zO hu) (sE HP QR Gy MP (kA hj hy hd ft) (iF (ev mk hk) (iF (ev mv hv) kQ oe) hs) bv fu bw hs bp) (ev m2 he) hm))) rh hf) λD Z H gh=>by
  obtain⟨B0,Y,fp,o,S,ef,kk⟩:=gh;obtain⟨b,e1,cw⟩:=ao ef;refine⟨B0,Y,fp,b,S,e1,λw1 H1 t1=>?_⟩
  cases b with
  |bool b=>
   have ew:w1=.bl b:=by
    obtain⟨_,_,r⟩:=t1;exact Aaw.1 r.2
   refine⟨b,ew,?_⟩;cases b with
   |false=>
    refine oU ?_;obtain⟨hl,rfl⟩:=cQ cw;obtain⟨vm,S1⟩:=t1.set hl;rw[ew] at S1;exact kk _ _ vm S1
   |true=>
    refine oR ?_;obtain⟨fp,S1,_⟩:=t1;obtain⟨kd,g1,cg⟩:=ao (show((eV 0 mk fk Y).bind λkd=>(eV 0 mv fv Y).bind λd=>(cA kd).bind λkey=>(nM j Y).bind λkds=>match d with
     |.int n=>if kds.length<sizeLine then match cC kds key with
      |some (.int u)=>rS i m2 f2 u Y
      |some _=>ae
      |none=>rS i m2 f2 n (Y.set j (aa (1,.dict (putD kds key (.int n)))))
      else ae
     | _=>ae)=aa o from cw)
    obtain⟨d,g2,gw⟩:=ao cg;obtain⟨key,g3,je⟩:=ao gw;obtain⟨kds,g4,xm⟩:=ao je;clear ef cw cg gw je;cases d with
    |int n=>
     obtain⟨hz,EQ⟩:=EW xm;obtain⟨p,ep,xs,h1,h2,_,_⟩:=S1.dic1 (wW g4);refine⟨.ref p,h1,.inr (.inr (.inl ⟨rfl,.inl ⟨ep,xs,h2⟩⟩)),B0,Y,fp,kd,S1,g1,λv1 H2 gh=>?_⟩
     obtain⟨ij,S2,r2⟩:=gh;have Ev:=mJ g3 r2.2;refine⟨B0,Y,ij,.int n,S2,g2,λv2 H3 gh=>?_⟩
     obtain⟨T1,S3,r3⟩:=gh;have ev2:=Aal.1 r3.2;subst Ev ev2;obtain⟨p3,vo,tu,q1,q2,q3,q4⟩:=S3.dic1 (wW g4);have:p3=p:=by rw[h1] at q1;cases q1;rfl
     rw[20];refine⟨p3,vo,tu,key,.int n,rfl,rfl,q2,by rw[q3.length];exact hz,?_⟩
     rcases uN q3 with⟨n1,n2⟩|⟨d',v',s1,s2,rd⟩
     .refine .inr ⟨n2,λm=>?_⟩
      rw[n1] at EQ;exact YK (q4 m _ _ (FD q3 (Aal.2 rfl))) EQ kk
     .refine .inl ⟨v',s2,?_⟩;rw[s1] at EQ;cases d' with
      |int u=>
       have:=Aal.1 rd;rw[20];exact YK S3 EQ kk
      |_=>cases EQ
    |_=>cases xm
  |_=>cases cw
end
section
theorem Pp{Z:St}{mk:Md}{kd:aA}{key:aI}{es:List aA}{Q:VK}
  (S:Sta K H0 P0 B0 Y Z H fp) (e2:oD i Y=aa kds) (e3:eV 0 mk g Y=aa kd) (e4:cA kd=aa key) (hl:kds.length<sizeLine) (he:cC (ve kds key) key=aa (.list es))
  (kk:∀ q H1 vm ys,Sta K H0 P0 B0 (Y.set i (aa (2,.dict (ve kds key)))) Z H1 vm->H1 q=aa (.lst ys)->Aap K (L2.hid H1 (Hd P0 vm)) es ys->Q (.ref q) H1) :
  tBM K "dict" Es (SX i) (JS (tE K H0 P0 0 mk g) (JS (tE K H0 P0 1 .s (dJ aJ)) SL)) Z H Q:=by
 obtain⟨p,ep,xs,Fs,h1,h2,_,_⟩:=S.dic2 (nK e2);have hi:=Ve e2;refine⟨.ref p,h1,.inr (.inr (.inl ⟨rfl,.inl ⟨ep,xs,h2⟩⟩)),B0,Y,fp,kd,S,e3,λv1 H2 gh=>?_⟩
 obtain⟨ij,S2,r2⟩:=gh;have Ev:=mJ e4 r2.2;subst Ev;refine⟨B0,Y,ij,.list [],S2,rfl,λv2 H3 gh=>?_⟩
 obtain⟨T1,S3,r3⟩:=gh;cases uf:cC kds key with
 |none=>
  have esd:ve kds key=kds++[(kD key,.list [])]:=by unfold ve;rw[uf]
  obtain⟨p3,vo,tu,q1,q2,q3,q4⟩:=S3.newKey (nK e2) uf r3;have:p3=p:=by rw[h1] at q1;cases q1;rfl
  rw[20];obtain⟨p4,ep4,xs4,Fs4,a1,a2,a3,a4⟩:=S3.dic2 (nK e2);have e1:p4=p3:=by rw[q1] at a1;cases a1;rfl
  subst e1;have ex:=a2.symm.trans q2;injection ex with ex;injection ex with _ ex;subst ex;have vn:=MM a4 uf;refine⟨p4,vo,xs4,key,v2,rfl,rfl,q2,by rw[q3];exact hl,.inr ⟨vn,λn=>?_⟩⟩
  obtain⟨ce,S4⟩:=q4 n;rw[<-esd] at S4;obtain⟨q0,_,_,rfl,_⟩:=r3;obtain⟨p5,ep5,xs5,q5,ys5,b1,b2,b3,b4,b5,_⟩:=S4.inner (qB hi) he;have e5:p5=p4:=by rw[q1] at b1;cases b1;rfl
  subst e5;have T2:=b2.symm.trans eU;injection T2 with T2;injection T2 with _ T2;rw[T2,Wq,if_pos rfl] at b3;cases b3;exact kk _ _ ce ys5 S4 b4 b5
 |some d=>
  have esd:ve kds key=kds:=by unfold ve;rw[uf]
  rw[esd] at he kk;obtain⟨p3,vo,tu,q,ys,g1,g2,g3,g4,g5,_⟩:=S3.inner (nK e2) he;have:p3=p:=by rw[h1] at g1;cases g1;rfl
  rw[20];obtain⟨p4,ep4,xs4,Fs4,a1,a2,a3,a4⟩:=S3.dic2 (nK e2);have e1:p4=p3:=by rw[g1] at a1;cases a1;rfl
  subst e1;have ex:=a2.symm.trans g2;injection ex with ex;injection ex with _ ex;subst ex;refine⟨p4,vo,xs4,key,v2,rfl,rfl,g2,by rw[LH a4];exact hl,.inl ⟨.ref q,g3,?_⟩⟩
  rw[set_same (nK e2)] at kk;exact kk q H3 T1 ys S3 g4 g5
variable {k e0 c2:aR}{f0:EF}{t2:BF}{lp yc ye:bQ}{body:List bZ}{F:SF}
def vY (i:Nat)(m0:Md)(f0:EF)(mk:Md)(g:EF)(m2:Md)(t2:BF)(F:SF):SF:=λY=>(eV 0 m0 f0 Y).bind λd=>(oD i Y).bind λkds=>(eV 0 mk g Y).bind λkd=>(cA kd).bind λkey=>
 match cC (ve kds key) key with
 |some (.list es)=>if kds.length<sizeLine/\(cZ d&&noDicts es)=af then
   if (es.any λz=>cD z d)=af then aa (.nx (Y.set i (aa (2,.dict (ve kds key)))))
   else(bV m2 t2 (Y.set i (aa (2,.dict (ve kds key))))).bind λb=>if b=af then F (Y.set i (aa (2,.dict (ve kds key)))) else aa (.nx (Y.set i (aa (2,.dict (ve kds key)))))
  else ae
 |_=>ae
theorem Wp (i:Nat)(m0 mk m2:Md)(hu:X.A.units+100<cLine)(he:DE X e0 f0)(hk:DE X k g)(hc:DT X c2 t2)(ha:ug X H0 P0 n0 body F)(hi:X.N[i]?=aa x:=by rfl)
  (hx:iY X.env.scope x:=by first|exact bK rfl|exact bW (bK rfl)|exact bW (bW rfl)) (hd:(x==("__debug__" : aC))=ag:=by decide) (ft:(x==("__classdict__" : aC))=ag:=by decide)
  (bv:oZ (.Name x p2) "setdefault" X.env (bM (.Name x p2) X.env)=bM (.Name x p2) X.env:=by rfl)
  (fu:((eR cp (bH (k::[.List [] lp]) X.env)).all (λx=>!x.1)&&(rL cp (rH [] X.env)).all (λx=>x.1.isSome)&&decide ((k::[Expr.List [] lp]).length+([]:List iX).length+(if ([]:List iX).isEmpty then 0 else 1)<30))=af:=by rfl)
  (bw:(ap.endLine==cp.line)=af:=by rfl) (hs:bH (k::[.List [] lp]) X.env=(ag,bM k X.env)::bH [.List [] lp] X.env:=by rfl) (oe:bH (.List [] lp::[]) X.env=(ag,bM (.List [] lp) X.env)::bH [] X.env:=by rfl) (bp:(eR cp (bH [.List [] lp] X.env)).any (·.1)=ag:=by rfl)
  (hm:uY .NotIn (.Call (.Attribute (.Name x p2) "setdefault" ap) [k,.List [] lp] [] cp)=ag:=by with_unfolding_all rfl) :
  DS X H0 P0 n0 (.If (.BoolOp .And [.Compare e0 [.NotIn] [.Call (.Attribute (.Name x p2) "setdefault" ap) [k,.List [] lp] [] cp] ye,c2] yc) body [] pos) (vY i m0 f0 mk g m2 t2 F):=
 PS.imp (TV (UP (Fb (YW hu) (ev m0 he) (sE HP QR Gy MP (kA hi hx hd ft) (iF (ev mk hk) (iF (ev .s (PH jL)) kQ oe) hs) bv fu bw hs bp) hm) (Fx (V8 m2 hc))).pt ha Fw) λD Z H gh=>by
  obtain⟨B0,Y,fp,o,S,ef,kk⟩:=gh;obtain⟨d,g0,ef⟩:=ao ef;obtain⟨kds,g1,ef⟩:=ao ef;obtain⟨kd,g2,ef⟩:=ao ef;obtain⟨key,g3,ef⟩:=ao ef;split at ef
  .rename_i es zy;obtain⟨⟨hl,hok⟩,ef⟩:=EW ef;refine⟨B0,Y,fp,d,S,g0,λv0 H1 gh=>?_⟩
   obtain⟨vm,S1,r1⟩:=gh;have S1':=S1.rebase Ext.refl;refine Pp S1' g1 g2 g3 hl zy λq H2 ij ys S2 hq rr=>?_
   have rv:=(r1.2.ext S2.base).ext Aas;have S3:=S2.rebase (S1.base.trans S2.base);have xz:=jR.1 hok;refine⟨d,es,rv,.inl (Abb.2 ⟨q,ys,rfl,SqL.of hq,rr.ext Aas⟩),xz.1,xz.2,_,rfl,?_⟩;by_cases hb:(es.any λz=>cD z d)=af
   .rw[if_pos hb] at ef;cases ef;rw[hb];refine oU ?_;exact kk _ _ ij S3
   .rw[if_neg hb] at ef;rw[Bool.eq_false_iff.2 hb];refine oR ?_;obtain⟨b,g4,ef⟩:=ao ef;refine⟨B0,_,ij,b,S3,g4,λH4 S4=>?_⟩
    cases b with
    |true=>
     refine oR ?_;exact⟨B0,_,ij,o,S4,ef,kk⟩
    |false=>
     refine oU ?_;cases ef;exact kk _ _ ij S4
  .cases ef
end
section
variable {p:bQ}
def UG (i:Nat):SF:=λY=>(oD i Y).bind λkds=>aa (.rt (.dict kds))
theorem Tv (i:Nat)(hN:X.N[i]?=aa x:=by rfl)(hv:iY X.env.scope x:=by first|exact bK rfl|exact bW (bK rfl)|exact bW (bW rfl))(hd:(x==("__debug__" : aC))=ag:=by decide)
  (ft:(x==("__classdict__" : aC))=ag:=by decide):DS X H0 P0 1 (.Return (aa (.Name x p)) pos) (UG i):=PS.imp (zN (kA hN hv hd ft)) λD Z H gh=>by
 rw[7];obtain⟨kds,e,ef⟩:=ao ef;cases ef;obtain⟨v,h1,h2⟩:=S.slot i 2 _ (nK e);obtain⟨q,xs,Fs,rfl,hq,hF,h3⟩:=h2;have nd:=S.nd i;rw[hF,lT] at nd;have mq:q∈fp i:=by rw[hF];exact bF
 have xb:Ext (L2.hid H (Hd P0 fp)) (L2.hid H (ic P0 [q])):=gK λa h=>h.imp id λm=>⟨i,by rw[bX.1 m];exact mq⟩
 have kp:∀ f∈Fs,∀ a∈f,∀ o,H a=aa o->L2.hid H (ic P0 [q]) a=aa o:=λf mf a ma o e=>by
  have m:a∈Fs.flatten:=lV.2 ⟨f,mf,ma⟩;refine gZ (λz=>?_) e
  rcases z with z|z
  .exact S.np (i:=i) (by rw[hF];exact bL _ m) z
  .rw[bX.1 z] at m;exact nd.1 m
 have rk:Abu X.K (L2.hid H (ic P0 [q])) kds xs.2:=YX (R:=λkd kv _=>kd.1=kD kv.1/\Abm X.K (L2.hid H (ic P0 [q])) kd.2 kv.2) (λd v F r=>r) (h3.imp λa b c m r=>⟨r.1,Af8.share xb (kp c m) r.2⟩)
 obtain⟨z1,z2⟩:=ND (H1:=H) rk;refine⟨.ref q,h1,k _ H ⟨[q],S.ext,lT.2 ⟨by simp,.nil⟩,λa m=>?_,⟨q,xs,_,rfl,hq,by rw[z2],z1⟩⟩⟩
 rw[bX.1 m];exact⟨(S.own i q mq).1,_,hq⟩
end
def IS (a:aD)(ep n:Nat):It:=
  ⟨λi H=>∃ kvs kv,H a=aa (.dK ep kvs)/\kvs.length=n/\kvs[i]?=aa kv,
   λi H v H'=>∃ T kv,H T=ae/\v=.ref T/\(∀ kvs,H a=aa (.dK ep kvs)->kvs[i]?=aa kv)/\H'=upd H T (.tup [kV kv.1,kv.2]),
   λi H=>∃ kvs,H a=aa (.dK ep kvs)/\kvs.length=n/\n<=i⟩
theorem k8:uX table "dict_itemiterator.__iter__" = aa Builtin.«dict_keyiterator.__iter__»:=QM (id':="dict_keyiterator.__iter__") (by kernel_rfl) rfl (by rw[0]) (by kernel_rfl)
theorem l5(hT:s.TypeIs (.ref it) "dict_itemiterator")(h:Q (.ref it) s):aM (aO prog w) A (lL (.ref it)) Q E s:=by
 refine xZ hT K9 (fX K9 hT k8 ?_ (F.args_dict_itemiterator_iter_1 _));exact aN ⟨_,rfl,"dict_itemiterator",_,hT,F.slot_dict_itemiterator_next.lookup,h⟩
theorem Xs{es:List aR}{cx}{pos:bQ}(a it:aD)(ep n:Nat) :
  Turn P w K (.Tuple es cx pos) (IS a ep n) [it] it (λi h=>∃ ok ov,IsItemIter h it a i n ep ok ov) where
 mem:=bX.2 rfl
 obj:=λi h ⟨ok,ov,g⟩ b hb=>by
  rw[bX.1 hb];exact⟨_,g,λv z=>by cases z⟩
 keep:=λi h h' ⟨ok,ov,g⟩ k=>⟨ok,ov,k it (bX.2 rfl) _ g⟩
 item:=by
  rw[2];obtain⟨kvs,kv,ha,hn,hk⟩:=hg;subst hn;obtain⟨z,nm,vs,r,d⟩:=EH I.hok (.inl ha);have hl:kvs.length=vs.length:=r.length;obtain⟨u,hu,r1,r2⟩:=UH r hk;obtain⟨uk,uv⟩:=u;obtain⟨ok,ov,st⟩:=st;rw[hl] at st;have wn:it<s.heap.objs.size:=bU st;refine wpAny_pyNext_items_item st d hu λkey h' wc eo pr sz keep=>?_
  have Ty:kv.1=uk:=r1;have rk:RelV (kV kv.1) key:=by rw[Ty];exact Sq wc
  have fr:H s.heap.objs.size=ae:=I.hok.fresh (bE _);have I0:Inv X ad Z (upd H s.heap.objs.size (.tup [kV kv.1,kv.2])) { s with heap:=s.heap.push { cls:=.type "tuple",data:=.seq #[key,uv] },toks:=s.toks }:=
   I.laid (t':=s.toks) (o:=.tup [kV kv.1,kv.2]) (λb ob q=>bN _ q) (bE _) ⟨by show 2<=sizeLine;decide,[key,uv],.cons rk (.cons r2 .nil),Bc5.new _ _⟩
  have zw:∀ b∈[it],jW X ad (upd H s.heap.objs.size (.tup [kV kv.1,kv.2])) b:=λb m=>⟨by rw[cY (cI (by rw[bX.1 m];exact wn))];exact(hf b m).1,(hf b m).2⟩
  have I1:Inv X ad Z (upd H s.heap.objs.size (.tup [kV kv.1,kv.2])) { s with heap:=h',toks:=s.toks }:=I0.turnM (t':=s.toks) zw λb o n g=>by
   have n:b≠it:=λq=>n (bX.2 q)
   by_cases hb:b=s.heap.objs.size
   .subst hb;have e':(s.heap.push { cls:=.type "tuple",data:=.seq #[key,uv] }).get? s.heap.objs.size=aa { cls:=.type "tuple",data:=.seq #[key,uv] }:=cW _ rfl;have:aa o=aa _:=g.symm.trans e';rw[this];exact pr
   .exact keep b o n ((Io _ _ _ hb).symm.trans g)
  refine⟨_,rfl,wpAny_letOwnedTupleGo_items eo λh2 ge sb=>?_⟩
  have I2:Inv X ad Z (upd H s.heap.objs.size (.tup [kV kv.1,kv.2])) { s with heap:=h2,toks:=s.toks }:=I1.turnM (t':=s.toks) zw λb o n g=>sb.extBut b o (λq=>n (bX.2 q)) g
  exact⟨.ref s.heap.objs.size,_,I2,rfl,⟨_,kv,fr,rfl,λkvs' h=>by rw[ha] at h;cases h;exact hk,rfl⟩,⟨_,_,by rw[hl];exact ge⟩,λb m=>(zw b m).1⟩
 done:=by
  rw[2];obtain⟨kvs,ha,hn,hi⟩:=hg;subst hn;obtain⟨z,nm,vs,r,d⟩:=EH I.hok (.inl ha);have hl:kvs.length=vs.length:=r.length;obtain⟨ok,ov,st⟩:=st;rw[hl] at st;exact wpAny_pyNext_items_end (I.ok.hd hc) st d (by simp;omega) λh' eb=>⟨rfl,I.turnM (t':=s.toks) hf λb o nb e=>eb b o (λq=>nb (bX.2 q)) e⟩
 self:=λ_ _ _ _ _ st h=>by
  obtain⟨ok,ov,st⟩:=st;exact l5 ⟨_,st,rfl⟩ h
section
variable {l:aR}{es:List aR}{cx:Nat}
def Jt (tl:TE):TI:=λZ H R=>tl Z H λx H1=>∃ a ep kvs,x=.ref a/\H1 a=aa (.dK ep kvs)/\R (IS a ep kvs.length) H1
theorem Wn {tl:TE}(hl:PE X l tl)(bv:oZ l "items" X.env (bM l X.env)=bM l X.env:=by rfl)(bw:(az.endLine==pos.line)=af:=by rfl):PI X (.Tuple es cx uq) (.Call (.Attribute l "items" az) [] [] pos) (Jt tl):=by
 intro ad s Z H R I h;refine wpAny_Call_method bv rfl bw F.plainAttrs_dict F.slot_dict_items F.type_dict_items (bo (hl ad s Z H _ I h) λv s1 gh=>?_)
 obtain⟨x,H1,I1,r1,q1⟩:=gh;obtain⟨a,ep,kvs,rfl,ha,q⟩:=q1;cases r1;obtain⟨z,nm,vs,r,d⟩:=EH I1.hok (.inl ha);obtain⟨_,_,vs2,_,dd⟩:=tW I1.hok ha;have hn:=r.length;refine⟨dd.typeIs,dd.mapOf.noDict,?_⟩;refine method_meetsIn F.slot_dict_items F.entry_dict_items rfl (PySem.evalArgs_none ⟨rfl,dd.typeIs,F.args_dict_items_1 _,_,meets_dict_items _ a nm,⟨vs2,dd⟩,?_⟩);have d2:(s1.heap.push { cls:=.type "dict_items",data:=.fields #[.ref a] }).DictAt (fK X.prog X.w) a vs ep:=by
  obtain⟨o,es,ho,rr⟩:=d;exact⟨o,es,bN _ ho,rr⟩
 refine wpAny_pyIter_items ⟨_,cW _ rfl,rfl,rfl⟩ d2 ?_;have all:∀ b o,s1.heap.get? b=aa o->((s1.heap.push { cls:=.type "dict_items",data:=.fields #[.ref a] }).push { cls:=.type "dict_itemiterator",data:=.fields #[.none,.bool ag,.ref a,.int 0 0,.int vs.length 0,.int ep 0,.none,.none] }).get? b=aa o:=λb o e=>bN _ (bN _ e)
 refine⟨_,[_],_,_,H1,rfl,I1.kept all,Xs a _ ep kvs.length,⟨.none,.none,?_⟩,λb hb=>?_,q⟩
 .rw[hn];exact cW _ rfl
 .rw[bX.1 hb];have le:s1.heap.objs.size<=(s1.heap.push { cls:=.type "dict_items",data:=.fields #[.ref a] }).objs.size:=by
   rw[qH];omega
  exact I1.fpOk le (I1.hok.fresh le)
def O1 (f:EF):AF:=λY=>(f Y).bind λd=>match d with
 |.dict kds=>if (ik kds&&kds.all λkd=>cH kd.1)=af then aa (kds.map λkd=>.tuple [kd.1,kd.2]) else ae
 |_=>ae
theorem A7{kvs:List (aI×V)}(h:B a=aa (.dK ep kvs))(r:Abu K B kds kvs)(hl:(kds.all λkd=>cH kd.1)=af):vt K B (IS a ep kvs.length) (kds.map λkd=>.tuple [kd.1,kd.2]):=λi H2 x2=>by
 have h2:=x2 _ _ h;refine⟨λd hd=>?_,λe=>⟨kvs,h2,rfl,by rw[<-e,cJ,r.length];exact bE _⟩⟩
 rw[eW] at hd;obtain⟨kd,hk,rfl⟩:=kF.1 hd;obtain⟨kv,g1,g2,g3⟩:=XU r hk;refine⟨⟨kvs,kv,h2,rfl,g1⟩,?_⟩;rintro x H3 ⟨T,yf,fr,rfl,hx,rfl⟩;have:yf=kv:=fF ((hx kvs h2).symm.trans g1);rw[20];have ext:Ext H2 (upd H2 T (.tup [kV yf.1,yf.2])):=λb u e=>by rw[cY (lG e fr)];exact e
 refine⟨ext,λP2 hP2 xb=>?_⟩
 have nT:¬ P2 T:=λq=>by
  rcases hP2 T q with⟨o,e⟩|⟨o,e⟩<;>rw[fr] at e<;>cases e
 have gT:hid (upd H2 T (.tup [kV yf.1,yf.2])) P2 T=aa (.tup [kV yf.1,yf.2]):=gZ nT eU;have xx:Ext B (hid (upd H2 T (.tup [kV yf.1,yf.2])) P2):=xb.trans (dE ext);have lay:=eB.1 hl kd (fH hk);refine Aar.2 ⟨T,_,rfl,gT,Aah.2 ⟨_,_,rfl,?_,Aah.2 ⟨_,_,rfl,g3.ext xx,Aan.2 rfl⟩⟩⟩;rw[g2];exact Ue (by rw[<-g2];exact lay)
theorem Ur(h:DE X l f)(bv:oZ l "items" X.env (bM l X.env)=bM l X.env:=by rfl)(bw:(az.endLine==pos.line)=af:=by rfl):DI X (.Tuple es cx uq) (.Call (.Attribute l "items" az) [] [] pos) (O1 f):=PI.imp (Wn h bv bw) λZ H R gh=>by
 obtain⟨P,Y,ds,hP,rs,ef,k⟩:=gh;rw[17];cases d with
 |dict kds=>
  obtain⟨hl,rfl⟩:=cQ ef;refine⟨P,Y,_,hP,rs,e1,eG λv H1 x1 r1=>?_⟩
  obtain⟨pk,hl⟩:=jR.1 hl;obtain⟨a,kvs,rfl,hq,rr⟩:=(sJ pk).1 r1;exact⟨a,kvs.1,kvs.2,rfl,Aas _ _ hq,k _ H1 x1 (A7 hq rr hl)⟩
 |_=>cases ef
end
open PySem PySem.W PySem.Calls PyProof.Rows Att
def zQ (ns:List Int):Prop:=∀ x∈ns,nZ x<=1048576
theorem weigh:∀ {ns:List Int} {x:Int},x∈ns->nZ x<=WData.weightAll (ns.map WData.int)
 |n::ns,x,m=>by
  rw[dI,WData.weightAll];have e:WData.weight (.int n)=nZ n:=by
   rw[WData.weight]
   rfl
  rw[15]
  .rw[e];omega
  .have:=weigh m;omega
theorem Xb {ns:List Int}(h:WData.layableAll [WData.list (ns.map WData.int)]=af):zQ ns:=λx m=>by
 have h1:WData.layable (.list (ns.map .int))=af:=by simpa [WData.layableAll] using h
 have h2:=of_decide_eq_true (jR.1 h1).2;rw[WData.weight] at h2;have:=weigh m;omega
theorem d4 {l:OpenLaw}{q:bT}{mh:List aC}{XP:(aC->Option aE)->aQ->Prop}{YP:bB->aQ->Prop}{d:DefRec}
  (hn:l.most=aa n) (T3:d.params.defaults=[])
  (call:∀ (w:bB) (s₀ s₁:aH) (mg mb:aC->Option aE) (fa:aD) (o:aZ) (pm cd gv:aE) (a:aD) (vs:List aE) (ns:List Int),
   zQ ns->Ground q mh [] XP w s₀ mg mb s₁.heap->YP w s₁.heap ->
   s₁.heap.get? fa=aa o->o.data=.func (docDef d.name d.params d.body d.scope pm cd gv)->s₁.heap.CodeRec cd d.name->mg d.name=aa (.ref fa) ->
   s₁.heap.get? a=aa { cls:=.type "list",data:=.seq vs.toArray }->IntsAre vs ns->ns.length<=n->s₁.gens = #[] ->
   nQ (aO l.prog w) yF (.call (.ref fa) ⟨[.ref a],[]⟩) (λr s'=>r=.ok (.ret (.bool af))/\OldK s₁.heap s'.heap/\s'.os=s₁.os/\sZ s'.gens) s₁) :
  WalkO q mh XP YP l.row.toRowW d [] (λf vs=>PySem.call f vs):=by
 intro w s₀ s₁ mg mb G ab fa o pm cd gv dV kV ho hd ft hD T4 hg args zp as ur hlay hrd W1 hlo;obtain rfl:dV=.none:=Dflts.none hD T3;obtain rfl:kV=.none:=Dflts.noKw hD;obtain⟨a,vs,ns,rfl,rfl,Fa,wv,ay⟩:=A5 hn ur W1;refine enter_call (CM (call w s₀ s₁ mg mb fa o pm cd gv a vs ns (Xb hlay) G ab ho (fd_plain hd) ft T4 Fa wv ay hg) λr s' hq=>?_)
 obtain⟨rfl,h2,h3,h4⟩:=hq;exact⟨.inl ⟨.bool af,.bool af,[],rfl,λ_=>rfl,.bool af,A6 l _,λ_=>⟨List.Pairwise.nil,λ_ hm=>(nomatch hm)⟩⟩,h2,h3,h4⟩
theorem A9p {l:Gw}{k:Nat}{q:bT}{mh:List aC}{XP:(aC->Option aE)->aQ->Prop}{YP:bB->aQ->Prop}{d:DefRec}{K:Params->aK}{CX:bB->xc}{sp:bB->Sp}
  (hn:l.most=aa n) (hn2:n<=sizeLine) (T3:d.params.defaults=[]) (hr:Room k yF)
  (hY:∀ (w:bB) (h:aQ),YP w h->(K w.params).In h)
  (F:∀ (w:bB) (mg:aC->Option aE) (fa:aD) (h:aQ),(K w.params).In h->h.Ns dS mg->mg d.name=aa (.ref fa) ->
   ∃ fd:iM,(∀ (s:aH) (u:aE),BindsTo s fd ⟨[u],[]⟩ [(x,u)]) /\
    ∀ base:aQ,(K w.params).In base->base.Ns dS mg->FnOk l.prog w (K w.params) mg base (CX w) k fa fd [x] (sp w))
  (yq:∀ (w:bB) (H:Hp) (a:aD) (ns:List Int),zQ ns->ns.length<=n->Only H->SqL (K w.params) H a (ns.map V.int)->sp w [.ref a] H (λv _=>v=.bl af) λ_ _ _=>False)
  (Z2:∀ (w:bB) (H:Hp) (s:aH) (e:aE) (s':aH),CX w [] H s (λ_ _ _=>False) e s'->False) :
  PySem.W.WalkO q mh XP YP l.row.toRowW d [] (λf vs=>PySem.call f vs):=by
 refine d4 hn T3 λw s₀ s₁ mg mb fa o pm cd gv a vs ns hB G ab ho hd ft T4 Fa wv ay hg=>?_
 have KX:=hY w _ ab;obtain⟨fd,hb,hF⟩:=F w mg fa _ KX G.T.g T4;exact Uz KX G.T.g G.T.b G.T.builtins G.T.nolimit hg Fa wv (dG ay hn2) hr hF hb (λH hO hS=>yq w H a ns hB ay hO hS) λH e s'=>Z2 w H s₁ e s'
def qQ:aA->aA->Option aA:=xf (λi j=>(i.natAbs<2^64\/j.natAbs<2^64)\/nZ i+nZ j<=134217728) λi j=>.int (i*j)
section
variable {a b:aR}
theorem Qp:OpR X (kC .Mult) (rI (λi j=>(i.natAbs<2^64\/j.natAbs<2^64)\/nZ i+nZ j<=134217728) λi j=>.int (i*j)):=by
 intro ad s Z H x y v u Q I rx ry ⟨i,j,ex,ey,hc,q⟩;rcases hc with hc|hc
 .exact ZL ad s Z H x y v u Q I rx ry ⟨i,j,ex,ey,.inl hc,q⟩
 .exact O3 (λi j _ _ _ _ _ hc q=>mul_int q (K1 (bE _) (bE _) hc)) ad s Z H x y v u Q I rx ry ⟨i,j,ex,ey,hc,q⟩
theorem Ss (ha:DE X a fa)(hb:DE X b fb):DE X (.BinOp a .Mult b pos) (ah qQ fa fb):=pF Qp (CA (λ_ _ h=>h) λ_ _ _=>Aal.2 rfl) ha hb
end
theorem n6 {α:Type}(xs:List α)(n:Nat):(pY n xs).flatten.length=n*xs.length:=by
 induction n with
 |zero=>simp
 |succ n ih=>rw[Ho,kJ,mU,ih];rw[Nat.succ_mul];omega
section
variable {a b:aR}
def JJ:List aA->Option aA
 |[.int i]=>if i.natAbs.log2<1920/\cH (.str (toString i))=af then aa (.str (toString i)) else ae
 |_=>ae
theorem Xh:CallD K 0 (λxs H Q=>∃ i,xs=[.int i]/\i.natAbs.log2<1920/\Q (.str (toString i)) H) JJ:=λP H xs ds d Q hP r e k=>by
 unfold JJ at e;split at e
 .rw[21];obtain⟨v,rfl,r'⟩:=hE r;exact⟨_,by rw[Aal.1 r'],hc.1,k.zero Ext.refl (Aay.2 ⟨rfl,hc.2⟩)⟩
 .cases e
end
def jZ (z:aC)(n:Nat):aC:=⟨(pY n z.cps).foldl (· ++ ·) #[]⟩
theorem ZG:∀ (n:Nat) (aj its:Array Nat),(List.foldl (· ++ ·) aj (pY n its)).toList=aj.toList++(pY n its.toList).flatten
 |0,aj,its=>by simp
 |n+1,aj,its=>by
  rw[Ho,jQ,ZG n,Ho,kJ,Array.toList_append,RO]
theorem J6 (z:aC)(n:Nat):(jZ z n).cps.toList=(pY n z.cps.toList).flatten:=by
 unfold jZ;rw[ZG]
 rfl
theorem Ah (z:aC)(n:Nat):(jZ z n).length=n*z.length:=by
 show(jZ z n).cps.size=n*z.cps.size;rw[<-fZ,J6,n6,fZ]
section
variable {a b:aR}
def Kw:R2:=λx y H Q=>∃ z n,x=.str z/\y=.int n/\0<=n/\n<=1000/\(z.length==0)=ag/\z.length<=1000/\Q (.str (jZ z n.toNat)) H
theorem Rz:OpR X (kC .Mult) Kw:=by
 rw[4];obtain⟨z,n,rfl,rfl,h0,h1,hz,hl,q⟩:=h;rw[11];have hm:(z.length:Int)*n<=1000*1000:=Im (by omega) h1 h0 (by omega)
 have hn:z.length*n.toNat<=1000000:=by
  have:((z.length*n.toNat:Nat):Int)=z.length*n:=by rw[Int.natCast_mul];congr 1;omega
  omega
 have l2:1000000<=sizeLine:=by rw[lJ];omega
 refine PySem.P.mul_str (by rw[decide_eq_false (by omega),decide_eq_false (by omega)];rfl) (λhp _=>?_) (λ_ _=>?_) ?_
 .exact Int.not_lt.2 (Int.le_ediv_of_mul_le (by omega) (by omega))
 .exact decide_eq_false (by omega)
 .by_cases hp:n<1
  .rw[if_pos hp];have e:n.toNat=0:=by omega
   rw[e] at q;exact⟨by decide,.str (jZ z 0),H,I.tok _,⟨_,rfl⟩,q⟩
  .rw[if_neg hp,hz,Jb];by_cases h2:n=1
   .subst h2;rw[if_pos (by simp)]
    have e:jZ z (1:Int).toNat=z:=by
     show(⟨#[]++z.cps⟩:aC)=z;rw[Array.empty_append]
    rw[e] at q;exact⟨.str z,H,I,⟨_,rfl⟩,q⟩
   .rw[if_neg (by simpa using h2)]
    refine⟨?_,.str (jZ z n.toNat),H,I.tok _,⟨_,rfl⟩,q⟩;show(jZ z n.toNat).length<=sizeLine;rw[Ah,HU];omega
def EG:aA->aA->Option aA
 |.str z,.int n=>if (0<=n/\n<=1000)/\((z.length==0)=ag/\z.length<=1000)/\cH (.str (jZ z n.toNat))=af then aa (.str (jZ z n.toNat)) else ae
 |_,_=>ae
theorem Qk (ha:DE X a fa)(hb:DE X b fb):DE X (.BinOp a .Mult b pos) (ah EG fa fb):=pF Rz (λP H x y a b d Q hP ra rb e k=>by
 unfold EG at e;split at e
 .rename_i z n;obtain⟨⟨⟨h0,h1⟩,⟨h2,h3⟩,h4⟩,rfl⟩:=cQ e;exact⟨z,n,(Aay.1 ra).1,Aal.1 rb,h0,h1,h2,h3,k.zero Ext.refl (Aay.2 ⟨rfl,h4⟩)⟩
 .cases e) ha hb
end
end L2
namespace Aw
open PySem L2
def dz (i:Nat):bZ:=PySem.Challenge.pw_askwithin_k27_whole_thinned_rows.main.body.getD i (.Pass ⟨0,0,0,0⟩)
abbrev MZ:bZ:=dz 4
abbrev Xu:List aC:=["lines","names","line","term"]
abbrev xB:List aC:=["lines"]
theorem Amj:FnScope Xu xB (bO MZ):=by rw[900]
abbrev FR:bZ:=dz 5
abbrev YL:List aC:=["terms","known"]
abbrev wK:List aC:=["terms","known"]
theorem Auq:FnScope YL wK (bO FR):=by rw[900]
abbrev FU:bZ:=dz 7
abbrev WS:List aC:=["lines","k","elsewhere"]
abbrev AH:List aC:=["lines","k"]
theorem Ar4:FnScope WS AH (bO FU):=by rw[900]
abbrev BG:bZ:=dz 8
abbrev NS:List aC:=["lines","left","k","wanted","j"]
abbrev BL:List aC:=["lines","left","k"]
theorem Alu:FnScope NS BL (bO BG):=by rw[900]
abbrev NU:bZ:=dz 9
abbrev Zk:List aC:=["lines","left","k","parent"]
abbrev BH:List aC:=["lines","left"]
theorem Alv:FnScope Zk BH (bO NU):=by rw[900]
abbrev PD:bZ:=dz 10
abbrev Np:List aC:=["lines","taken","left","ear"]
abbrev qU:List aC:=["lines"]
theorem A2r:FnScope Np qU (bO PD):=by rw[900]
abbrev PL:bZ:=dz 11
abbrev Nn:List aC:=["lines","rest"]
abbrev zR:List aC:=["lines"]
theorem A2u:FnScope Nn zR (bO PL):=by rw[900]
abbrev PF:bZ:=dz 14
abbrev Qe:List aC:=["line","row","known","found","term","number","wanted"]
abbrev uB:List aC:=["line","row","known"]
theorem A5q:FnScope Qe uB (bO PF):=by rw[900]
abbrev MF:bZ:=dz 15
abbrev z9:List aC:=["book","line"]
abbrev wU:List aC:=["book","line"]
theorem Ao3:FnScope z9 wU (bO MF):=by rw[900]
abbrev MU:bZ:=dz 16
abbrev C4:List aC:=["rows","number","own"]
abbrev AS:List aC:=["rows"]
theorem Apu:FnScope C4 AS (bO MU):=by rw[900]
abbrev OB:bZ:=dz 17
abbrev j2:List aC:=["rows"]
abbrev BQ:List aC:=["rows"]
theorem Aix:FnScope j2 BQ (bO OB):=by rw[900]
abbrev GZ:bZ:=dz 18
abbrev Cy:List aC:=["book","lines"]
abbrev BY:List aC:=["book","lines"]
theorem Ais:FnScope Cy BY (bO GZ):=by rw[900]
abbrev NH:bZ:=dz 19
abbrev F9:List aC:=["found","line","rows","told","known","row","more"]
abbrev BA:List aC:=["found","line","rows"]
theorem Amr:FnScope F9 BA (bO NH):=by rw[900]
abbrev LC:bZ:=dz 20
abbrev Xa:List aC:=["lines","rows","found","line","own"]
abbrev AN:List aC:=["lines","rows"]
theorem Aro:FnScope Xa AN (bO LC):=by rw[900]
abbrev GE:bZ:=dz 22
abbrev YR:List aC:=["book","line"]
abbrev AQ:List aC:=["book","line"]
theorem Aps:FnScope YR AQ (bO GE):=by rw[900]
abbrev GV:bZ:=dz 23
abbrev Cs:List aC:=["book","lines"]
abbrev BW:List aC:=["book","lines"]
theorem Aio:FnScope Cs BW (bO GV):=by rw[900]
abbrev GU:bZ:=dz 24
abbrev Cu:List aC:=["book","lines"]
abbrev BZ:List aC:=["book","lines"]
theorem Aiq:FnScope Cu BZ (bO GU):=by rw[900]
abbrev GA:bZ:=dz 25
abbrev YN:List aC:=["line","other"]
abbrev AK:List aC:=["line","other"]
theorem At2:FnScope YN AK (bO GA):=by rw[900]
abbrev MC:bZ:=dz 26
abbrev Vx:List aC:=["line","row","names"]
abbrev AG:List aC:=["line","row","names"]
theorem Ar3:FnScope Vx AG (bO MC):=by rw[900]
abbrev BU:bZ:=dz 27
abbrev OG:List aC:=["line","rows","other","others","names","met"]
abbrev xP:List aC:=["line","rows","other","others"]
theorem Ah8:FnScope OG xP (bO BU):=by rw[900]
abbrev OH:bZ:=dz 28
abbrev j5:List aC:=["lines","kept","told","ear","parent"]
abbrev BV:List aC:=["lines","kept"]
theorem Ahw:FnScope j5 BV (bO OH):=by rw[900]
abbrev BC:bZ:=dz 29
abbrev NT:List aC:=["lines","kept","rest"]
abbrev BK:List aC:=["lines","kept"]
theorem Alq:FnScope NT BK (bO BC):=by rw[900]
abbrev GQ:bZ:=dz 30
abbrev Bw:List aC:=["lines","kept","told","found","k"]
abbrev BM:List aC:=["lines","kept"]
theorem Alp:FnScope Bw BM (bO GQ):=by rw[900]
abbrev NR:bZ:=dz 31
abbrev Zh:List aC:=["lines","kept","told","ear","parent"]
abbrev BI:List aC:=["lines","kept"]
theorem Alm:FnScope Zh BI (bO NR):=by rw[900]
abbrev NA:bZ:=dz 32
abbrev Xw:List aC:=["lines","kept"]
abbrev AZ:List aC:=["lines","kept"]
theorem Am0:FnScope Xw AZ (bO NA):=by rw[900]
abbrev MR:bZ:=dz 33
abbrev u5:List aC:=["book","lines"]
abbrev AX:List aC:=["book","lines"]
theorem Apl:FnScope u5 AX (bO MR):=by rw[900]
abbrev NQ:bZ:=dz 35
abbrev b6:List aC:=["_law_script","_law_k"]
abbrev uQ:List aC:=["_law_script","_law_k"]
theorem Ali:FnScope b6 uQ (bO NQ):=by rw[900]
abbrev NP:bZ:=dz 36
abbrev Yv:List aC:=["_law_cell_here","_law_k","_law_size","_law_number"]
abbrev BE:List aC:=["_law_cell_here","_law_k","_law_size"]
theorem Aly:FnScope Yv BE (bO NP):=by rw[900]
abbrev OA:bZ:=dz 37
abbrev f9:List aC:=["_law_cell_here","_law_k"]
abbrev uT:List aC:=["_law_cell_here","_law_k"]
theorem Ajx:FnScope f9 uT (bO OA):=by rw[900]
abbrev NY:bZ:=dz 38
abbrev b7:List aC:=["_law_kind","_law_k","_law_count"]
abbrev BD:List aC:=["_law_kind","_law_k","_law_count"]
theorem Alj:FnScope b7 BD (bO NY):=by rw[900]
abbrev NZ:bZ:=dz 39
abbrev Yy:List aC:=["_law_cell_here","_law_k"]
abbrev xI:List aC:=["_law_cell_here","_law_k"]
theorem Alh:FnScope Yy xI (bO NZ):=by rw[900]
abbrev BP:bZ:=dz 40
abbrev OE:List aC:=["_law_script","_law_first","_law_names","_law_count","_law_lines_here","_law_k","_law_cell_here","_law_some_here","_law_width","_law_terms","_law_j","_law_more"]
abbrev BO:List aC:=["_law_script"]
theorem Aj5:FnScope OE BO (bO BP):=by rw[900]
abbrev xF:bZ:=dz 41
abbrev GO:List aC:=["_law_script","_law_lines_here","_law_book_here","_law_base","_law_k","_law_values","_law_at","_law_name_here","_law_table","_law_terms","_law_row","_law_cell_here","_law_kept"]
abbrev BJ:List aC:=["_law_script","_law_lines_here"]
theorem Alo:FnScope GO BJ (bO xF):=by rw[900]
abbrev OI:bZ:=dz 42
abbrev j6:List aC:=["_law_book_here","_law_lines_here","_law_found","_law_table","_law_terms","_law_longer","_law_known","_law_row","_law_more","_law_good","_law_term","_law_value_here"]
abbrev BS:List aC:=["_law_book_here","_law_lines_here"]
theorem Ahy:FnScope j6 BS (bO OI):=by rw[900]
abbrev GT:bZ:=dz 43
abbrev Cp:List aC:=["_law_book_here","_law_lines_here","_law_choices_here","_law_wanted_here","_law_table","_law_terms","_law_rows","_law_known","_law_row"]
abbrev BX:List aC:=["_law_book_here","_law_lines_here"]
theorem Aip:FnScope Cp BX (bO GT):=by rw[900]
abbrev OD:bZ:=dz 44
abbrev Zs:List aC:=["_law_book_here","_law_lines_here","_law_found","_law_rows","_law_row"]
abbrev BN:List aC:=["_law_book_here","_law_lines_here","_law_found"]
theorem Akd:FnScope Zs BN (bO OD):=by rw[900]
abbrev oC:bZ:=dz 45
abbrev CG:List aC:=["_law_script","_law_lines_here","_law_book_here","_law_kept","_law_found","_law_held","_law_table","_law_terms","_law_row"]
abbrev TX:List aC:=["_law_script"]
theorem Bdo:FnScope CG TX (bO oC):=by rw[900]
structure Blt (mg:aC->Option aE):Prop where
 «isinstance» : mg "isinstance" = ae
 «int» : mg "int" = ae
 «bool» : mg "bool" = ae
 «abs» : mg "abs" = ae
 «range» : mg "range" = ae
 «len» : mg "len" = ae
 «str» : mg "str" = ae
 «all» : mg "all" = ae
 «any» : mg "any" = ae
 «list» : mg "list" = ae
 «tuple» : mg "tuple" = ae
 «dict» : mg "dict" = ae
 «set» : mg "set" = ae
 «sorted» : mg "sorted" = ae
 «sum» : mg "sum" = ae
 «min» : mg "min" = ae
 «max» : mg "max" = ae
 «enumerate» : mg "enumerate" = ae
 «zip» : mg "zip" = ae
 «reversed» : mg "reversed" = ae
 «ValueError» : mg "ValueError" = ae
structure Cst (mg:aC->Option aE):Prop where
 MOST_WAYS:∃ t,mg "MOST_WAYS" = aa (.int 4096 t)
set_option maxHeartbeats 4000000
variable {P:bT}{w:bB}{K:aK}{mg:aC->Option aE}{base:aQ}{f:aD}{fd:iM}
def G6:SF:=(aT (bJ 1 1 .s (eC (.dict [])))
 (aT (dD .s (bt (aB 0)) (js 2) (dD .s (bt (ah bc (aB 2) (eC (.int 1)))) (js 3) (fj .s (aw (iw (fP "str") (aB 3))) (mY 1 .s (eC (.bool af)) .s (aB 3)) dY)))
 (jT 1 (cN 1 .s (aL ES (aF (aB 1) aJ))))))
def rB:List aA->Option aA:=cy 1 4 G6
theorem Yq (F:Fun K "names_of" "names_of" MZ f fd)(B:Blt mg)(C:Cst mg):FnOk P w K mg base cv 1 f fd xB (aq K 1 rB):=by
 have nd:=Amj.nd;exact dP F Amj rfl (by decide) λbh A outer s H E P0 hr=>by
  rw[1];sleep 0
def o7:SF:=(cN 0 .s (aL iE (aF (gb [ae,aa 1] (bt (aB 0)) (gB 0) cU (iP (aB 1) (aB 0) (aB 0))) aJ)))
def oM:List aA->Option aA:=cy 2 2 o7
theorem E9 (F:Fun K "put_in" "put_in" FR f fd)(B:Blt mg)(C:Cst mg):FnOk P w K mg base cv 1 f fd wK (aq K 0 oM):=by
 have nd:=Auq.nd;exact dP F Auq rfl (by decide) λbh A outer s H E P0 hr=>by
  rw[1];exact(dB (lB .s (kT sQ sN rfl B.tuple sT (jE (jF (n:=1) (gY rfl (fW (N:=["term","known"]) (cap:=[ae,aa 1]) (out:=(bO FR).names) (XN:=YL) rfl rfl (by rw[0]) rfl) fI (fT (cG 0)) (λcl C s₀ H₀ ex=>⟨gD (j:=0) (show(["term","known"]:List aC).Nodup by rw[0]) rfl (bK rfl),iG,(by sleep 0)⟩))) jL))))
def Mj:SF:=(aT (fj .s (aw (ah kx (aL cO (aF (aB 1) aJ)) (aL cO (aF (ah bc (aB 0) (eC (.int 1))) aJ)))) (cN 1 .s (eC .none)) dY)
 (aT (bJ 3 1 .s (aL EC (aF (aB 2) aJ)))
 (aT (dD .s (iZ (aF (ah bc (aB 0) (eC (.int 1))) (aF (aB 1) aJ))) (mC 4 5) (aT (yl 6 3 .s (aw (iw (fP "str") (aB 4))) .s (aB 4) .s (aB 5) .s (aB 4))
 (fj .s (aw (ah kx (aB 5) (aB 6))) (cN 1 .s (eC .none)) dY)))
 (jX 3 1))))
def oG:List aA->Option aA:=cy 3 7 Mj
theorem Sr (F:Fun K "fits" "fits" PF f fd)(B:Blt mg)(C:Cst mg):FnOk P w K mg base cv 1 f fd uB (aq K 1 oG):=by
 have nd:=A5q.nd;exact dP F A5q rfl (by decide) λbh A outer s H E P0 hr=>by
  rw[1];exact(bP (kZ .s (by sleep 0) (dB (lB .s YD)) mG)
   (bP (jD (i:=3) 1 .s nd rfl (by trivial) (kT Bh Av rfl B.dict QU (by sleep 0)))
   (bP (jM hV rfl (OY rfl B.zip (by sleep 0)) (by sleep 0) (bP (Kr 6 3 .s .s .s .s nd (by sleep 0) (cG 4) (cG 5) (cG 4))
   (dB (kZ .s (by sleep 0) (dB (lB .s YD)) mG))))
   (dB (AD 3)))))
def t5:SF:=(cN 0 .s (iP (aB 0) (ah bc (aB 1) (eC (.int 0))) (dJ aJ)))
def nF:List aA->Option aA:=cy 2 2 t5
theorem J0 (F:Fun K "rows_of" "rows_of" MF f fd)(B:Blt mg)(C:Cst mg):FnOk P w K mg base cv 1 f fd wU (aq K 0 nF):=by
 have nd:=Ao3.nd;exact dP F Ao3 rfl (by decide) λbh A outer s H E P0 hr=>by
  rw[1];sleep 0
def D2:SF:=(aT (bJ 1 0 .s (eC (.int 1)))
 (aT (dD .s (bt (aB 0)) (js 2) (bJ 1 0 .s (ah gX (aB 1) (aL vQ (aF (eC (.int 1)) (aF (aL cO (aF (aB 2) aJ)) aJ))))))
 (cN 0 .s (aB 1))))
def uO:List aA->Option aA:=cy 1 3 D2
theorem Xy (F:Fun K "ways_of" "ways_of" MU f fd)(B:Blt mg)(C:Cst mg):FnOk P w K mg base cv 1 f fd AS (aq K 0 uO):=by
 have nd:=Apu.nd;exact dP F Apu rfl (by decide) λbh A outer s H E P0 hr=>by
  rw[1];exact(bP (by sleep 0)
   (bP (jM hV rfl (fT (cG 0)) (by sleep 0) (dB (jD (i:=1) 0 .s nd rfl (by trivial) (UZ (cG 1) (wN (ZP rfl) ZR rfl B.max PyProof.Rows.boot_max (by sleep 0))))))
   (by sleep 0)))
def Yz:SF:=(aT (fj .s (aw (ah vd (aB 1) (aL cO (aF (aB 0) aJ)))) (cN 0 .s (ah bc (aB 0) (aB 1))) dY)
 (aT (fj .s (aw (ah gc (aL cO (aF (aB 0) aJ)) (eC (.int 0)))) (cN 0 .s (ah cX (ah qQ (ah qQ (aB 1) (aB 1)) (eC (.int 7919))) (eC (.int 31)))) dY)
 (cN 0 .s (ah cX (ah qQ (ah bc (aB 0) (ah cR (aB 1) (aL cO (aF (aB 0) aJ)))) (ah cX (aB 1) (eC (.int 2)))) (ah qQ (ah qQ (aB 1) (aB 1)) (eC (.int 69621)))))))
def eQ:List aA->Option aA:=cy 2 2 Yz
theorem c7 (F:Fun K "_law_cell" "_law_cell" NQ f fd)(B:Blt mg)(C:Cst mg):FnOk P w K mg base cv 1 f fd uQ (aq K 0 eQ):=by
 have nd:=Ali.nd;exact dP F Ali rfl (by decide) λbh A outer s H E P0 hr=>by
  rw[1];sleep 0
def Yl:SF:=(aT (bJ 3 0 .s (ah gX (ah cX (ah cX (ah cR (aB 0) (eC (.int 2147483629))) (ah gX (eC (.int 5)) (aB 1))) (eC (.int 1))) (ah cX (eC (.int 48271)) (ah gX (aB 1) (aB 1)))))
 (cN 0 .s (ah cR (ah cR (ah gX (aB 3) (aB 3)) (eC (.int 2147483647))) (aB 2))))
def oO:List aA->Option aA:=cy 3 4 Yl
theorem g9 (F:Fun K "_law_draw" "_law_draw" NP f fd)(B:Blt mg)(C:Cst mg):FnOk P w K mg base cv 1 f fd BE (aq K 0 oO):=by
 have nd:=Aly.nd;exact dP F Aly rfl (by decide) λbh A outer s H E P0 hr=>by
  rw[1];sleep 0
def Zx:SF:=(aT (fj .s (aw (ah gc (ah cR (aB 0) (eC (.int 3))) (eC (.int 0)))) (cN 0 .s (ah pH (aB 1) (eC (.int 1)))) dY)
 (cN 0 .s (ah cX (ah gX (ah cR (ah eX (aB 0) (eC (.int 3))) (ah pH (ah gX (ah pT (eC (.int 10)) (eC (.int 35))) (ah pT (eC (.int 10)) (eC (.int 35)))) (eC (.int 9)))) (ah bc (dJ (aF (eC (.int 1)) (aF (iw vL (eC (.int 1))) aJ))) (ah cR (aB 0) (eC (.int 2))))) (ah gX (aB 1) (ah bc (dJ (aF (eC (.int 1)) (aF (iw vL (eC (.int 1))) aJ))) (ah cR (aB 0) (eC (.int 2))))))))
def lH:List aA->Option aA:=cy 2 2 Zx
theorem i7 (F:Fun K "_law_value" "_law_value" OA f fd)(B:Blt mg)(C:Cst mg):FnOk P w K mg base cv 1 f fd uT (aq K 0 lH):=by
 have nd:=Ajx.nd;exact dP F Ajx rfl (by decide) λbh A outer s H E P0 hr=>by
  rw[1];sleep 0
def Zq:SF:=(aT (fj .s (aw (ah gc (aB 0) (eC (.int 1)))) (cN 1 .s (dJ (aF (aB 1) (aF (ah cR (ah cX (aB 1) (eC (.int 1))) (aB 2)) aJ)))) dY)
 (aT (fj .s (aw (ah gc (aB 0) (eC (.int 2)))) (cN 1 .s (dJ (aF (aB 1) (aF (ah cX (aB 1) (eC (.int 1))) aJ)))) dY)
 (aT (fj .s (aw (ah gc (aB 0) (eC (.int 3)))) (cN 1 .s (dJ (aF (eC (.int 0)) (aF (ah cX (aB 1) (eC (.int 1))) aJ)))) dY)
 (aT (fj .s (aw (ah gc (aB 0) (eC (.int 4)))) (cN 1 .s (dJ (aF (ah cR (aB 1) (eC (.int 3))) (aF (ah bc (dJ (aF (ah cR (ah cX (aB 1) (eC (.int 1))) (eC (.int 3))) (aF (eC (.int 5)) aJ))) (ah eX (aB 1) (eC (.int 3)))) aJ)))) dY)
 (aT (fj .s (aw (ah gc (aB 0) (eC (.int 5)))) (cN 1 .s (aL OQ (aF (ah cX (aB 1) (eC (.int 1))) aJ))) dY)
 (cN 1 .s (dJ aJ)))))))
def xD:List aA->Option aA:=cy 3 3 Zq
theorem c8 (F:Fun K "_law_some" "_law_some" NY f fd)(B:Blt mg)(C:Cst mg):FnOk P w K mg base cv 1 f fd BD (aq K 1 xD):=by
 have nd:=Alj.nd;exact dP F Alj rfl (by decide) λbh A outer s H E P0 hr=>by
  rw[1];exact(bP (by sleep 0)
   (bP (by sleep 0)
   (bP (by sleep 0)
   (bP (by sleep 0)
   (bP (kZ .s (by sleep 0) (dB (lB .s (WO rfl rfl B.list rfl B.range (by sleep 0)))) mG)
   (by sleep 0))))))
def Yg:SF:=(aT (fj .s (aw (ah gc (ah cR (aB 0) (eC (.int 3))) (eC (.int 0)))) (cN 0 .s (Y0 (eC (.str "abcdefghij")) oN (oS (ah cX (aB 1) (eC (.int 1)))))) dY)
 (aT (fj .s (aw (ah gc (ah cR (aB 0) (eC (.int 3))) (eC (.int 1)))) (cN 0 .s (ah cX (eC (.str "n")) (aL JJ (aF (aB 1) aJ)))) dY)
 (cN 0 .s (ah cX (ah bc (eC (.str "jihgfedcba")) (aB 1)) (ah EG (eC (.str "n")) (ah cR (ah eX (aB 0) (eC (.int 3))) (eC (.int 12))))))))
def nJ:List aA->Option aA:=cy 2 2 Yg
theorem c6 (F:Fun K "_law_name" "_law_name" NZ f fd)(B:Blt mg)(C:Cst mg):FnOk P w K mg base cv 1 f fd xI (aq K 0 nJ):=by
 have nd:=Alh.nd;exact dP F Alh rfl (by decide) λbh A outer s H E P0 hr=>by
  rw[1];exact(bP (by sleep 0)
   (bP (kZ .s (by sleep 0) (dB (lB .s (OT PM (kT Zv Xh rfl B.str PyProof.Rows.boot_str (by sleep 0))))) mG)
   (dB (lB .s (OT (by sleep 0) (Qk PM (by sleep 0)))))))
def k6:SF:=(aT (bJ 2 0 .s (dJ (aF (eC (.dict [])) aJ)))
 (aT (dD .s (bt (aB 1)) (mC 3 4) (aT (bJ 5 1 .s (dJ aJ))
 (aT (dD .s (bt (aB 2)) (js 6) (dD .s (bt (iP (aB 0) (aB 3) (dJ aJ))) (js 7) (aT (bJ 8 1 .s (aL EC (aF (aB 6) aJ)))
 (aT (bJ 9 0 .s (ah gc (aL cO (aF (aB 7) aJ)) (aL cO (aF (aB 4) aJ))))
 (aT (dD .s (iZ (aF (aB 4) (aF (aB 7) aJ))) (mC 10 11) (fj .s (aw (iw (fP "str") (aB 10))) (uA 9 .s (aB 9) 8 .s (aB 10) .s (aB 11) .s (aB 11)) (bJ 9 0 .s (rV (aB 9) (ah gc (aB 10) (aB 11))))))
 (jT 8 (fj .s (aw (aB 9)) (gR 5 .s (aB 8)) dY)))))))
 (jT 5 (bJ 2 0 .s (aB 5))))))
 (cN 0 .s (aB 2))))
def xO:List aA->Option aA:=cy 2 12 k6
theorem l4 (F:Fun K "_law_choices" "_law_choices" OI f fd)(B:Blt mg)(C:Cst mg):FnOk P w K mg base cv 1 f fd BS (aq K 0 xO):=by
 have nd:=Ahy.nd;exact dP F Ahy rfl (by decide) λbh A outer s H E P0 hr=>by
  rw[1];exact(bP (by sleep 0)
   (bP (jM hV rfl (fT (cG 1)) (by sleep 0) (bP (by sleep 0)
   (bP (jM hV rfl (fT (cG 2)) (by sleep 0) (dB (jM hV rfl (by sleep 0) (by sleep 0) (bP (jD (i:=8) 1 .s nd rfl (by trivial) (kT Bh Av rfl B.dict QU (by sleep 0)))
   (bP (jD (i:=9) 0 .s nd rfl (by trivial) (EN (zO hu) EI (by sleep 0) (by sleep 0) (nA _)))
   (bP (jM hV rfl (OY rfl B.zip (by sleep 0)) (by sleep 0) (dB (kZ .s (by sleep 0) (dB (Vg 9 8 .s .s .s .s hu nd rfl (by trivial) (cG 9) (cG 10) (cG 11) (cG 11))) (dB (jD (i:=9) 0 .s nd rfl (by trivial) (Qj (cG 9) (Ph (EN (zO hu) EI (cG 10) (cG 11) (nA _)))))))))
   (by sleep 0)))))))
   (by sleep 0))))
   (by sleep 0)))
def Wd:SF:=(aT (bJ 2 0 .s (aL rB (aF (ah EE (mK (aB 0) oN (oS (aB 1))) (mK (aB 0) (oS (ah cX (aB 1) (eC (.int 1)))) oN)) aJ)))
 (cN 1 .s (gb [ae,aa 2] (bt (aL rB (aF (jU (aF (ah bc (aB 0) (aB 1)) aJ)) aJ))) (gB 0) (aw (ah (oh ag) (aB 0) (aB 1))) (aB 0))))
def wQ:List aA->Option aA:=cy 2 3 Wd
theorem E4 (F:Fun K "shared" "shared" FU f fd)(B:Blt mg)(C:Cst mg)(fy:Def P w K mg base "names_of" 1 xB (aq K 1 rB)):FnOk P w K mg base cv 2 f fd AH (aq K 1 wQ):=by
 have nd:=Ar4.nd;exact dP F Ar4 rfl (by decide) λbh A outer s H E P0 hr=>by
  rw[1];exact(bP (by sleep 0)
   (dB (lB .s (gY rfl (fW (N:=["name","elsewhere"]) (cap:=[ae,aa 2]) (out:=(bO FU).names) (XN:=WS) rfl rfl (by rw[0]) rfl) fI (by sleep 0) (λcl C s₀ H₀ ex=>⟨gD (j:=0) (show(["name","elsewhere"]:List aC).Nodup by rw[0]) rfl (bK rfl),FK (mE (FT hu) uE (cG 0) (cG 1) (by with_unfolding_all rfl)),(cG 0)⟩)))))
def OK:SF:=(fj .s (aw (ah vw (aL uO (aF (aB 0) aJ)) (eC (.int 4096)))) sNo dY)
def xM:List aA->Option aA:=cy 1 1 OK
theorem k7 (F:Fun K "refuse_rows" "refuse_rows" OB f fd)(B:Blt mg)(C:Cst mg)(mn:Def P w K mg base "ways_of" 1 AS (aq K 0 uO)):FnOk P w K mg base cv 2 f fd BQ (aq K 0 xM):=by
 obtain⟨_,oy⟩:=C.MOST_WAYS;have nd:=Aix.nd;exact dP F Aix rfl (by decide) λbh A outer s H E P0 hr=>by
  rw[1];exact(dB (kZ .s (mE UE VR (by sleep 0) (Xd (i:=4096) rfl oy ⟨_,rfl⟩) (nA _)) (dB TZ) mG))
def G4:SF:=(aT (bJ 3 1 .s (dJ aJ))
 (aT (dD .s (bt (aB 0)) (js 4) (dD .s (bt (aB 2)) (js 5) (aT (bJ 6 0 .s (aL oG (aF (aB 1) (aF (aB 5) (aF (aB 4) aJ)))))
 (fj .s (aw (ah oF (aB 6) (eC .none))) (gR 3 .s (aB 6)) dY))))
 (jX 3 1)))
def wY:List aA->Option aA:=cy 3 7 G4
theorem Yu (F:Fun K "extended" "extended" NH f fd)(B:Blt mg)(C:Cst mg)(iy:Def P w K mg base "fits" 1 uB (aq K 1 oG)):FnOk P w K mg base cv 2 f fd BA (aq K 1 wY):=by
 have nd:=Amr.nd;exact dP F Amr rfl (by decide) λbh A outer s H E P0 hr=>by
  rw[1];sleep 0
def C0:SF:=(cN 1 .s (aL vW (aF (gb [ae,aa 1] (bt (aL nF (aF (aB 0) (aF (aB 1) aJ)))) (gB 0) (aw (ah oF (aL oG (aF (aB 1) (aF (aB 0) (aF (eC (.dict [])) aJ)))) (eC .none))) (aB 0)) aJ)))
def uM:List aA->Option aA:=cy 2 2 C0
theorem Xp (F:Fun K "fitting" "fitting" GE f fd)(B:Blt mg)(C:Cst mg)(iy:Def P w K mg base "fits" 1 uB (aq K 1 oG))(gx:Def P w K mg base "rows_of" 1 wU (aq K 0 nF)):FnOk P w K mg base cv 2 f fd AQ (aq K 1 uM):=by
 have nd:=Aps.nd;exact dP F Aps rfl (by decide) λbh A outer s H E P0 hr=>by
  rw[1];exact(dB (lB .s (wN Cf Cb rfl B.sorted Hf (jE (jF (n:=1) (gY rfl (fW (N:=["row","line"]) (cap:=[ae,aa 1]) (out:=(bO GE).names) (XN:=YR) rfl rfl (by rw[0]) rfl) fI (by sleep 0) (λcl C s₀ H₀ ex=>⟨gD (j:=0) (show(["row","line"]:List aC).Nodup by rw[0]) rfl (bK rfl),FK (by sleep 0),(cG 0)⟩))) jL))))
def Vs:SF:=(cN 1 .s (gb [ae,aa 1] (bt (aL rB (aF (jU (aF (aB 0) aJ)) aJ))) (gB 0) (aw (ah (oh ag) (aB 0) (ah bc (aB 1) (eC (.int 1))))) (aB 0)))
def wO:List aA->Option aA:=cy 2 2 Vs
theorem z8 (F:Fun K "common" "common" GA f fd)(B:Blt mg)(C:Cst mg)(fy:Def P w K mg base "names_of" 1 xB (aq K 1 rB)):FnOk P w K mg base cv 2 f fd AK (aq K 1 wO):=by
 have nd:=At2.nd;exact dP F At2 rfl (by decide) λbh A outer s H E P0 hr=>by
  rw[1];exact(dB (lB .s (gY rfl (fW (N:=["name","other"]) (cap:=[ae,aa 1]) (out:=(bO GA).names) (XN:=YN) rfl rfl (by rw[0]) rfl) fI (by sleep 0) (λcl C s₀ H₀ ex=>⟨gD (j:=0) (show(["name","other"]:List aC).Nodup by rw[0]) rfl (bK rfl),FK (mE (FT hu) uE (cG 0) (by sleep 0) (by with_unfolding_all rfl)),(cG 0)⟩))))
def Ut:SF:=(cN 0 .s (aL oM (aF (aB 2) (aF (aL oG (aF (aB 0) (aF (aB 1) (aF (eC (.dict [])) aJ)))) aJ))))
def pM:List aA->Option aA:=cy 3 3 Ut
theorem B6 (F:Fun K "key_of" "key_of" MC f fd)(B:Blt mg)(C:Cst mg)(ip:Def P w K mg base "put_in" 1 wK (aq K 0 oM))(iy:Def P w K mg base "fits" 1 uB (aq K 1 oG)):FnOk P w K mg base cv 2 f fd AG (aq K 0 pM):=by
 have nd:=Ar3.nd;exact dP F Ar3 rfl (by decide) λbh A outer s H E P0 hr=>by
  rw[1];sleep 0
def g8:SF:=(aT (bJ 1 0 .s (aL eQ (aF (aB 0) (aF (eC (.int 0)) aJ))))
 (aT (bJ 2 1 .s (gb [ae,aa 0] (qt (aF (eC (.int 10)) aJ)) (gB 0) cU (aL nJ (aF (ah eX (aL eQ (aF (aB 1) (aF (eC (.int 22)) aJ))) (eC (.int 27))) (aF (aB 0) aJ)))))
 (jT 2 (aT (bJ 3 0 .s (ah cR (ah eX (aB 1) (eC (.int 7))) (eC (.int 5))))
 (aT (bJ 4 1 .s (dJ aJ))
 (aT (dD .s (qt (aF (aB 3) aJ)) (js 5) (aT (bJ 6 0 .s (aL eQ (aF (aB 0) (aF (ah cX (eC (.int 2)) (aB 5)) aJ))))
 (aT (bJ 7 0 .s (aL xD (aF (ah cR (aB 1) (eC (.int 7))) (aF (aB 5) (aF (aB 3) aJ)))))
 (aT (bJ 8 0 .s (aL vQ (aF (aL cO (aF (aB 7) aJ)) (aF (ah cX (eC (.int 1)) (ah cR (aB 6) (eC (.int 4)))) aJ))))
 (aT (bJ 9 1 .s (dJ aJ))
 (aT (dD .s (qt (aF (aB 8) aJ)) (js 10) (aT (bJ 11 0 .s (aL eQ (aF (aB 0) (aF (ah cX (ah cX (eC (.int 6)) (ah gX (eC (.int 4)) (aB 5))) (aB 10)) aJ))))
 (fj .s (aw (ah gc (ah cR (aB 11) (eC (.int 4))) (eC (.int 0)))) (gR 9 .s (aL lH (aF (aL eQ (aF (aB 0) (aF (eC (.int 1)) aJ))) (aF (ah cR (ah eX (aB 11) (eC (.int 4))) (eC (.int 3))) aJ)))) (fj .s (aw (ah gc (ah cR (aB 1) (eC (.int 7))) (eC (.int 0)))) (gR 9 .s (ah bc (aB 2) (ah cR (ah eX (aB 11) (eC (.int 4))) (eC (.int 3))))) (gR 9 .s (ah bc (aB 2) (ah bc (ah pR (aB 7) (dJ (aF (ah cX (eC (.int 6)) (aB 5)) (aF (ah cX (eC (.int 6)) (aB 5)) aJ)))) (ah cR (ah eX (aB 11) (eC (.int 4))) (ah cX (aL cO (aF (aB 7) aJ)) (eC (.int 2)))))))))))
 (aT (dD .s (qt (aF (aL cO (aF (aB 7) aJ)) aJ)) (js 10) (sC 9 .s (ah bc (aB 2) (ah bc (aB 7) (aB 10))) .s (ah cR (ah cX (ah eX (aB 6) (eC (.int 4))) (aB 10)) (aB 8))))
 (jT 9 (gR 4 .s (jU (aF (ah bc (dJ (aF (eC (.str "a")) (aF (eC (.str "n1")) (aF (eC (.str "b")) (aF (eC (.str "ab")) (aF (eC (.str "n2")) (aF (eC (.str "n")) (aF (eC (.str "n3")) (aF (eC (.str "bb")) aJ))))))))) (ah pH (ah pH (ah gX (eC (.int 2)) (aB 8)) (eC (.int 1))) (ah cR (ah eX (aB 6) (eC (.int 16))) (eC (.int 2))))) (aF (aL iE (aF (aB 9) aJ)) aJ))))))))))))
 (jT 4 (cN 0 .s (aL iE (aF (aB 4) aJ))))))))))
def xK:List aA->Option aA:=cy 1 12 g8
theorem i8 (F:Fun K "_law_lines" "_law_lines" BP f fd)(B:Blt mg)(C:Cst mg)(ca:Def P w K mg base "_law_cell" 1 uQ (aq K 0 eQ))(br:Def P w K mg base "_law_value" 1 uT (aq K 0 lH))(jh:Def P w K mg base "_law_some" 1 BD (aq K 1 xD))(dg:Def P w K mg base "_law_name" 1 xI (aq K 0 nJ)):FnOk P w K mg base cv 2 f fd BO (aq K 0 xK):=by
 have nd:=Aj5.nd;exact dP F Aj5 rfl (by decide) λbh A outer s H E P0 hr=>by
  rw[1];exact(bP (by sleep 0)
   (bP (by first|exact(LL (i:=2) .s rfl nd rfl (by trivial) (fW (N:=["_law_k","_law_script"]) (cap:=[ae,aa 0]) (out:=(bO BP).names) (XN:=OE) rfl rfl (by rw[0]) rfl) fI (zP (by sleep 0)) (λcl C s₀ H₀ ex=>⟨gD (j:=0) (show(["_law_k","_law_script"]:List aC).Nodup by rw[0]) rfl (bK rfl),iG,(by sleep 0)⟩))|exact(jD (i:=2) 1 .s nd rfl (by trivial) (gY rfl (fW (N:=["_law_k","_law_script"]) (cap:=[ae,aa 0]) (out:=(bO BP).names) (XN:=OE) rfl rfl (by rw[0]) rfl) fI (zP (by sleep 0)) (λcl C s₀ H₀ ex=>⟨gD (j:=0) (show(["_law_k","_law_script"]:List aC).Nodup by rw[0]) rfl (bK rfl),iG,(by sleep 0)⟩))))
   (uJ 2 (bP (by sleep 0)
   (bP (by sleep 0)
   (bP (FF .s hV rfl (by sleep 0) (by sleep 0) (bP (by sleep 0)
   (bP (by sleep 0)
   (bP (jD (i:=8) 0 .s nd rfl (by trivial) (wN (ZP rfl) ZR rfl B.max PyProof.Rows.boot_max (by sleep 0)))
   (by sleep 0)))))
   (by sleep 0)))))))
end Aw
namespace Aw
open PySem L2
set_option maxHeartbeats 4000000
variable {P:bT}{w:bB}{K:aK}{mg:aC->Option aE}{base:aQ}{f:aD}{fd:iM}
def Zm:SF:=(aT (bJ 2 2 .s (eC (.dict [])))
 (aT (bJ 3 0 .s (aL eQ (aF (aB 0) (aF (eC (.int 1)) aJ))))
 (aT (dD .s (qt (aF (ah cX (eC (.int 1)) (ah cR (aL eQ (aF (aB 0) (aF (eC (.int 22)) aJ))) (eC (.int 3)))) aJ)) (js 4) (aT (bJ 5 1 .s (eC (.dict [])))
 (aT (dD .s (qt (aF (eC (.int 10)) aJ)) (js 6) (aT (bJ 7 0 .s (aL nJ (aF (ah eX (aL eQ (aF (aB 0) (aF (eC (.int 22)) aJ))) (eC (.int 27))) (aF (aB 6) aJ))))
 (mY 5 .s (aL lH (aF (aB 3) (aF (aL oO (aF (aL eQ (aF (aB 0) (aF (ah cX (eC (.int 23)) (aB 4)) aJ))) (aF (aB 6) (aF (eC (.int 3)) aJ)))) aJ))) .s (aB 7))))
 (jT 5 (dD .s (bt (aB 1)) (mC 8 9) (aT (bJ 10 0 .s (aL iE (aF (gb [ae,aa 5] (bt (aB 9)) (gB 0) cU (iP (aB 1) (aB 0) (aB 0))) aJ)))
 (vY 2 .s (aB 10) .s (aB 8) .a (aw (ah vd (aL cO (aF (ah bc (aB 2) (aB 8)) aJ)) (eC (.int 5)))) (xW 2 .s (aB 8) .s (aB 10)))))))))
 (aT (dD .s (qt (aF (ah gX (eC (.int 3)) (aL cO (aF (aB 1) aJ))) aJ)) (js 4) (aT (EB .s (ah bc (aB 1) (ah cR (aB 4) (aL cO (aF (aB 1) aJ)))) (mC 8 9))
 (aT (bJ 11 0 .s (aL eQ (aF (aB 0) (aF (ah cX (eC (.int 26)) (aB 4)) aJ))))
 (aT (bJ 10 1 .s (gb [ae,aa 3,aa 11] (qt (aF (aL cO (aF (aB 9) aJ)) aJ)) (gB 0) cU (aL lH (aF (aB 1) (aF (aL oO (aF (aB 2) (aF (aB 0) (aF (eC (.int 3)) aJ)))) aJ)))))
 (jT 10 (aT (fj .s (aw (ah gc (ah cR (aB 11) (eC (.int 2))) (eC (.int 0)))) (aT (bJ 12 0 .a (ah bc (ah bc (aB 2) (aB 8)) (ah cR (ah eX (aB 11) (eC (.int 2))) (aL cO (aF (ah bc (aB 2) (aB 8)) aJ)))))
 (aT (bJ 6 0 .s (ah cR (ah eX (aB 11) (eC (.int 20))) (aL cO (aF (aB 9) aJ))))
 (bJ 10 0 .s (ah pR (ah pR (aL iR (aF (mK (aB 12) oN (oS (aB 6))) aJ)) (dJ (aF (ah bc (aB 10) (aB 6)) aJ))) (aL iR (aF (mK (aB 12) (oS (ah cX (aB 6) (eC (.int 1)))) oN) aJ)))))) dY)
 (fj .a (mN (aw (ah (oh af) (aL iE (aF (aB 10) aJ)) (ah bc (aB 2) (aB 8)))) (aw (ah vd (aL cO (aF (ah bc (aB 2) (aB 8)) aJ)) (eC (.int 5))))) (xW 2 .s (aB 8) .s (aL iE (aF (aB 10) aJ))) dY)))))))
 (aT (fj .s (mN (aw (ah gc (ah cR (ah eX (aL eQ (aF (aB 0) (aF (eC (.int 22)) aJ))) (eC (.int 3))) (eC (.int 9))) (eC (.int 0)))) (aw (ah vw (aL cO (aF (aB 1) aJ)) (eC (.int 0))))) (HA 2 .s (ah bc (ah bc (aB 1) (iw vL (eC (.int 1)))) (eC (.int 0)))) dY)
 (UG 2))))))
def xH:List aA->Option aA:=cy 2 13 Zm
theorem g7 (F:Fun K "_law_book" "_law_book" xF f fd)(B:Blt mg)(C:Cst mg)(ca:Def P w K mg base "_law_cell" 1 uQ (aq K 0 eQ))(ji:Def P w K mg base "_law_draw" 1 BE (aq K 0 oO))(br:Def P w K mg base "_law_value" 1 uT (aq K 0 lH))(dg:Def P w K mg base "_law_name" 1 xI (aq K 0 nJ)):FnOk P w K mg base cv 2 f fd BJ (aq K 1 xH):=by
 have nd:=Alo.nd;exact dP F Alo rfl (by decide) λbh A outer s H E P0 hr=>by
  rw[1];exact(bP (jD (i:=2) 2 .s nd rfl (by trivial) m9)
   (bP (by sleep 0)
   (bP (FF .s hV rfl (by sleep 0) (by sleep 0) (bP (by sleep 0)
   (bP (by sleep 0)
   (uJ 5 (dB (jM hV rfl (fT (cG 1)) (by sleep 0) (bP (jD (i:=10) 0 .s nd rfl (by trivial) (kT sQ sN rfl B.tuple sT (jE (jF (n:=1) (gY rfl (fW (N:=["_law_term","_law_values"]) (cap:=[ae,aa 5]) (out:=(bO xF).names) (XN:=GO) rfl rfl (by rw[0]) rfl) fI (fT (cG 9)) (λcl C s₀ H₀ ex=>⟨gD (j:=0) (show(["_law_term","_law_values"]:List aC).Nodup by rw[0]) rfl (bK rfl),iG,(by sleep 0)⟩))) jL)))
   (dB (Wp 2 .s .s .a hu (cG 10) (cG 8) (by sleep 0) (dB (Fi 2 .s .s hv (cG 8) (cG 10))))))))))))
   (bP (FF .s hV rfl (by sleep 0) (by sleep 0) (bP (Rr .s (by sleep 0) (by sleep 0))
   (bP (by sleep 0)
   (bP (by first|exact(LL (i:=10) .s rfl nd rfl (by trivial) (fW (N:=["_law_at","_law_base","_law_cell_here"]) (cap:=[ae,aa 3,aa 11]) (out:=(bO xF).names) (XN:=GO) rfl rfl (by rw[0]) rfl) fI (zP (by sleep 0)) (λcl C s₀ H₀ ex=>⟨gD (j:=0) (show(["_law_at","_law_base","_law_cell_here"]:List aC).Nodup by rw[0]) rfl (bK rfl),iG,(by sleep 0)⟩))|exact(jD (i:=10) 1 .s nd rfl (by trivial) (gY rfl (fW (N:=["_law_at","_law_base","_law_cell_here"]) (cap:=[ae,aa 3,aa 11]) (out:=(bO xF).names) (XN:=GO) rfl rfl (by rw[0]) rfl) fI (zP (by sleep 0)) (λcl C s₀ H₀ ex=>⟨gD (j:=0) (show(["_law_at","_law_base","_law_cell_here"]:List aC).Nodup by rw[0]) rfl (bK rfl),iG,(by sleep 0)⟩))))
   (uJ 10 (bP (by sleep 0)
   (dB (kZ .a (zJ (PU (mE (NN hu) uE (by sleep 0) (by sleep 0) (by with_unfolding_all rfl)) (KS (by sleep 0)))) (dB (Fi 2 .s .s hv (cG 8) (by sleep 0))) mG))))))))
   (bP (kZ .s (zJ (PU (by sleep 0) (KS (by sleep 0)))) (dB (Tq 2 .s (by sleep 0))) mG)
   (dB (Tv 2)))))))
def j0:SF:=(aT (bJ 2 0 .s (aL xO (aF (aB 0) (aF (aB 1) aJ))))
 (aT (bJ 3 1 .s (dJ aJ))
 (aT (dD .s (bt (aB 1)) (mC 4 5) (aT (bJ 6 1 .s (dJ aJ))
 (aT (dD .s (bt (aB 2)) (js 7) (aT (bJ 8 0 .s (aL iE (aF (gb [ae,aa 7] (bt (aB 5)) (gB 0) cU (iP (aB 1) (aB 0) (aB 0))) aJ)))
 (fj .a (aw (ah (oh af) (aB 8) (aB 6))) (gR 6 .s (aB 8)) dY)))
 (jT 6 (gR 3 .s (aL vW (aF (aB 6) aJ)))))))
 (jX 3 1))))
def uR:List aA->Option aA:=cy 2 9 j0
theorem j8 (F:Fun K "_law_wanted" "_law_wanted" GT f fd)(B:Blt mg)(C:Cst mg)(gf:Def P w K mg base "_law_choices" 1 BS (aq K 0 xO)):FnOk P w K mg base cv 2 f fd BX (aq K 1 uR):=by
 have nd:=Aip.nd;exact dP F Aip rfl (by decide) λbh A outer s H E P0 hr=>by
  rw[1];exact(bP (by sleep 0)
   (bP (by sleep 0)
   (bP (jM hV rfl (fT (cG 1)) (by sleep 0) (bP (by sleep 0)
   (bP (jM hV rfl (fT (cG 2)) (by sleep 0) (bP (jD (i:=8) 0 .s nd rfl (by trivial) (kT sQ sN rfl B.tuple sT (jE (jF (n:=1) (gY rfl (fW (N:=["_law_term","_law_known"]) (cap:=[ae,aa 7]) (out:=(bO GT).names) (XN:=Cp) rfl rfl (by rw[0]) rfl) fI (fT (cG 5)) (λcl C s₀ H₀ ex=>⟨gD (j:=0) (show(["_law_term","_law_known"]:List aC).Nodup by rw[0]) rfl (bK rfl),iG,(by sleep 0)⟩))) jL)))
   (dB (kZ .a (mE (NN hu) uE (cG 8) (cG 6) (by with_unfolding_all rfl)) (by sleep 0) mG))))
   (uJ 6 (dB (ZJ 3 .s (jF (n:=1) (wN Cf Cb rfl B.sorted Hf (by sleep 0)))))))))
   (dB (AD 3)))))
def Yh:SF:=(aT (bJ 3 0 .s (aL wQ (aF (aL iE (aF (gb [ae,aa 0] (bt (aB 1)) (gB 0) cU (ah bc (aB 1) (aB 0))) aJ)) (aF (ah KD (aB 1) (aB 2)) aJ))))
 (aT (dD .s (bt (aB 1)) (js 4) (fj .s (mN (aw (ah kx (aB 4) (aB 2))) (aw (aL zG (aF (gb [ae,aa 0,aa 4] (bt (aB 3)) (gB 0) cU (ah (oh ag) (aB 0) (ah bc (ah bc (aB 1) (aB 2)) (eC (.int 1))))) aJ)))) (cN 0 .s (aB 4)) dY))
 (cN 0 .s (eC .none))))
def xE:List aA->Option aA:=cy 3 5 Yh
theorem c9 (F:Fun K "parent_of" "parent_of" BG f fd)(B:Blt mg)(C:Cst mg)(ke:Def P w K mg base "shared" 2 AH (aq K 1 wQ)):FnOk P w K mg base cv 3 f fd BL (aq K 0 xE):=by
 have nd:=Alu.nd;exact dP F Alu rfl (by decide) λbh A outer s H E P0 hr=>by
  rw[1];exact(bP (jD (i:=3) 0 .s nd rfl (by trivial) (jF (n:=1) (zS ke (hr.mono (by decide)) rfl (jE (kT sQ sN rfl B.tuple sT (jE (jF (n:=1) (gY rfl (fW (N:=["j","lines"]) (cap:=[ae,aa 0]) (out:=(bO BG).names) (XN:=NS) rfl rfl (by rw[0]) rfl) fI (fT (cG 1)) (λcl C s₀ H₀ ex=>⟨gD (j:=0) (show(["j","lines"]:List aC).Nodup by rw[0]) rfl (bK rfl),iG,(by sleep 0)⟩))) jL)) (by sleep 0)))))
   (bP (jM hV rfl (fT (cG 1)) (by sleep 0) (dB (kZ .s (zJ (PU (by sleep 0) (KS (EL (wN (p8 rfl) y7 rfl B.all boot_all (jE (jF (n:=1) (gY rfl (fW (N:=["name","lines","j"]) (cap:=[ae,aa 0,aa 4]) (out:=(bO BG).names) (XN:=NS) rfl rfl (by rw[0]) rfl) fI (fT (cG 3)) (λcl C s₀ H₀ ex=>⟨gD (j:=0) (show(["name","lines","j"]:List aC).Nodup by rw[0]) rfl (bK rfl),iG,(EN (FT hu) uE (cG 0) (by sleep 0) (by with_unfolding_all rfl))⟩))) jL)))))) (by sleep 0) mG)))
   (by sleep 0)))
def OJ:SF:=(tY .s (aL xM (aF (gb [ae,aa 0] (bt (aB 1)) (gB 0) cU (aL nF (aF (aB 1) (aF (aB 0) aJ)))) aJ)))
def xQ:List aA->Option aA:=cy 2 2 OJ
theorem l7 (F:Fun K "refuse_ways" "refuse_ways" GZ f fd)(B:Blt mg)(C:Cst mg)(gx:Def P w K mg base "rows_of" 1 wU (aq K 0 nF))(dk:Def P w K mg base "refuse_rows" 2 BQ (aq K 0 xM)):FnOk P w K mg base cv 3 f fd BY (aq K 0 xQ):=by
 have nd:=Ais.nd;exact dP F Ais rfl (by decide) λbh A outer s H E P0 hr=>by
  rw[1];exact(dB (KR .s (zS dk (hr.mono (by decide)) rfl (jE (jF (n:=1) (gY rfl (fW (N:=["line","book"]) (cap:=[ae,aa 0]) (out:=(bO GZ).names) (XN:=Cy) rfl rfl (by rw[0]) rfl) fI (fT (cG 1)) (λcl C s₀ H₀ ex=>⟨gD (j:=0) (show(["line","book"]:List aC).Nodup by rw[0]) rfl (bK rfl),iG,(by sleep 0)⟩))) jL))))
def Wk:SF:=(aT (bJ 2 0 .s (dJ (aF (eC (.dict [])) aJ)))
 (aT (dD .s (iZ (aF (aB 0) (aF (aB 1) aJ))) (mC 3 4) (bJ 2 0 .s (aL wY (aF (aB 2) (aF (aB 3) (aF (aB 4) aJ))))))
 (cN 0 .s (aB 2))))
def wL:List aA->Option aA:=cy 2 5 Wk
theorem p7 (F:Fun K "walked" "walked" LC f fd)(B:Blt mg)(C:Cst mg)(kf:Def P w K mg base "extended" 2 BA (aq K 1 wY)):FnOk P w K mg base cv 3 f fd AN (aq K 0 wL):=by
 have nd:=Aro.nd;exact dP F Aro rfl (by decide) λbh A outer s H E P0 hr=>by
  rw[1];exact(bP (by sleep 0)
   (bP (jM hV rfl (OY rfl B.zip (by sleep 0)) (by sleep 0) (by sleep 0))
   (by sleep 0)))
def h9:SF:=(cN 1 .s (gb [ae,aa 0] (bt (aB 1)) (gB 0) cU (aL uM (aF (aB 1) (aF (aB 0) aJ)))))
def xR:List aA->Option aA:=cy 2 2 h9
theorem l6 (F:Fun K "all_fitting" "all_fitting" GV f fd)(B:Blt mg)(C:Cst mg)(mw:Def P w K mg base "fitting" 2 AQ (aq K 1 uM)):FnOk P w K mg base cv 3 f fd BW (aq K 1 xR):=by
 have nd:=Aio.nd;exact dP F Aio rfl (by decide) λbh A outer s H E P0 hr=>by
  rw[1];exact(dB (lB .s (gY rfl (fW (N:=["line","book"]) (cap:=[ae,aa 0]) (out:=(bO GV).names) (XN:=Cs) rfl rfl (by rw[0]) rfl) fI (fT (cG 1)) (λcl C s₀ H₀ ex=>⟨gD (j:=0) (show(["line","book"]:List aC).Nodup by rw[0]) rfl (bK rfl),iG,(by sleep 0)⟩))))
def j9:SF:=(aT (bJ 4 0 .s (aL wO (aF (aB 0) (aF (aB 2) aJ))))
 (aT (bJ 5 0 .s (aL JU (aF (gb [ae,aa 2,aa 4] (bt (aB 3)) (gB 0) cU (jU (aF (aL pM (aF (aB 1) (aF (aB 0) (aF (aB 2) aJ)))) (aF (eC (.bool af)) aJ)))) aJ)))
 (cN 1 .s (gb [ae,aa 5,aa 0,aa 4] (bt (aB 1)) (gB 0) (aw (ah (oh ag) (aL pM (aF (aB 2) (aF (aB 0) (aF (aB 3) aJ)))) (aB 1))) (aB 0)))))
def sP:List aA->Option aA:=cy 4 6 j9
theorem l9 (F:Fun K "with_partner" "with_partner" BU f fd)(B:Blt mg)(C:Cst mg)(oz:Def P w K mg base "common" 2 AK (aq K 1 wO))(o0:Def P w K mg base "key_of" 2 AG (aq K 0 pM)):FnOk P w K mg base cv 3 f fd xP (aq K 1 sP):=by
 have nd:=Ah8.nd;exact dP F Ah8 rfl (by decide) λbh A outer s H E P0 hr=>by
  rw[1];exact(bP (by sleep 0)
   (bP (jD (i:=5) 0 .s nd rfl (by trivial) (kT (i6 hu rfl) d6 rfl B.dict QU (jE (jF (n:=1) (gY rfl (fW (N:=["row","other","names"]) (cap:=[ae,aa 2,aa 4]) (out:=(bO BU).names) (XN:=OG) rfl rfl (by rw[0]) rfl) fI (fT (cG 3)) (λcl C s₀ H₀ ex=>⟨gD (j:=0) (show(["row","other","names"]:List aC).Nodup by rw[0]) rfl (bK rfl),iG,(by sleep 0)⟩))) jL)))
   (dB (lB .s (gY rfl (fW (N:=["row","met","line","names"]) (cap:=[ae,aa 5,aa 0,aa 4]) (out:=(bO BU).names) (XN:=OG) rfl rfl (by rw[0]) rfl) fI (fT (cG 1)) (λcl C s₀ H₀ ex=>⟨gD (j:=0) (show(["row","met","line","names"]:List aC).Nodup by rw[0]) rfl (bK rfl),FK (mE (FT hu) uE (by sleep 0) (cG 1) (by with_unfolding_all rfl)),(cG 0)⟩))))))
def f6:SF:=(aT (fj .s (xp (mL (aw (iw (fP "list") (aB 2)))) (aw (ah kx (aB 2) (aL uR (aF (aB 0) (aF (aB 1) aJ)))))) (cN 0 .s (eC (.bool ag))) dY)
 (aT (dD .s (bt (aB 2)) (js 3) (dD .s (bt (aB 3)) (js 4) (fj .s (mL (aw (iw (fP "tuple") (aB 4)))) (cN 0 .s (eC (.bool ag))) dY)))
 (cN 0 .s (eC (.bool af)))))
def rC:List aA->Option aA:=cy 3 5 f6
theorem j1 (F:Fun K "_law_right" "_law_right" OD f fd)(B:Blt mg)(C:Cst mg)(gy:Def P w K mg base "_law_wanted" 2 BX (aq K 1 uR)):FnOk P w K mg base cv 3 f fd BN (aq K 0 rC):=by
 have nd:=Akd.nd;exact dP F Akd rfl (by decide) λbh A outer s H E P0 hr=>by
  rw[1];exact(bP (kZ .s (zJ (TJ (PC (EL (OZ (T:="list") rfl B.isinstance rfl B.list Hg (by decide) (cG 2)))) (VU (by sleep 0)))) (by sleep 0) mG)
   (bP (jM hV rfl (fT (cG 2)) (by sleep 0) (dB (jM hV rfl (fT (cG 3)) (by sleep 0) (dB (kZ .s (PC (EL (OZ (T:="tuple") rfl B.isinstance rfl B.tuple sT (by decide) (cG 4)))) (by sleep 0) mG)))))
   (by sleep 0)))
def Zl:SF:=(aT (dD .s (bt (aB 1)) (js 2) (aT (bJ 3 0 .s (aL xE (aF (aB 0) (aF (aB 1) (aF (aB 2) aJ)))))
 (fj .s (aw (ah oF (aB 3) (eC .none))) (cN 0 .s (jU (aF (aB 2) (aF (aB 3) aJ)))) dY)))
 (cN 0 .s (eC .none)))
def nG:List aA->Option aA:=cy 2 4 Zl
theorem b8 (F:Fun K "first_ear" "first_ear" NU f fd)(B:Blt mg)(C:Cst mg)(jk:Def P w K mg base "parent_of" 3 BL (aq K 0 xE)):FnOk P w K mg base cv 4 f fd BH (aq K 0 nG):=by
 have nd:=Alv.nd;exact dP F Alv rfl (by decide) λbh A outer s H E P0 hr=>by
  rw[1];sleep 0
def Mv:SF:=(aT (bJ 1 1 .s (dJ aJ))
 (aT (bJ 2 1 .s (aL OQ (aF (aL cO (aF (aB 0) aJ)) aJ)))
 (aT (bJ 3 0 .a (aL nG (aF (aB 0) (aF (aB 2) aJ))))
 (aT (xt .s (aw (ah oF (aB 3) (eC .none))) (aT (gR 1 .s (aB 3))
 (aT (qP 2 .s (ah bc (aB 3) (eC (.int 0))))
 (bJ 3 0 .a (aL nG (aF (aB 0) (aF (aB 2) aJ)))))) 100)
 (UY 1 2)))))
def iD:List aA->Option aA:=cy 1 4 Mv
theorem Td (F:Fun K "ears" "ears" PD f fd)(B:Blt mg)(C:Cst mg)(jm:Def P w K mg base "first_ear" 4 BH (aq K 0 nG)):FnOk P w K mg base cv 5 f fd qU (aq K 2 iD):=by
 have nd:=A2r.nd;exact dP F A2r rfl (by decide) λbh A outer s H E P0 hr=>by
  rw[1];exact(bP (by sleep 0)
   (bP (jD (i:=2) 1 .s nd rfl (by trivial) (WO rfl rfl B.list rfl B.range (by sleep 0)))
   (bP (by sleep 0)
   (bP (Uk .s 100 hV (by sleep 0) (bP (by sleep 0)
   (bP (q8 2 .s (by sleep 0))
   (by sleep 0))))
   (dB (Ws 1 2 (by decide)))))))
def Oe:SF:=(aT (bJ 1 1 .s (oV 1 (aL iD (aF (aB 0) aJ))))
 (UV .a (aw (ah vw (aL cO (aF (aB 1) aJ)) (eC (.int 1)))) 1 (dJ aJ)))
def sG:List aA->Option aA:=cy 1 2 Oe
theorem Te (F:Fun K "ring" "ring" PL f fd)(B:Blt mg)(C:Cst mg)(dm:Def P w K mg base "ears" 5 qU (aq K 2 iD)):FnOk P w K mg base cv 6 f fd zR (aq K 1 sG):=by
 have nd:=A2u.nd;exact dP F A2u rfl (by decide) λbh A outer s H E P0 hr=>by
  rw[1];exact(bP (by sleep 0)
   (dB (o4 .a 1 (by sleep 0) (PH jL))))
def j7:SF:=(aT (bJ 2 1 .s (aL iR (aF (aB 1) aJ)))
 (aT (dD .s (bt (oV 0 (aL iD (aF (aB 0) aJ)))) (mC 3 4) (zT 2 .a (aL sP (aF (ah bc (aB 0) (aB 4)) (aF (ah bc (aB 2) (aB 4)) (aF (ah bc (aB 0) (aB 3)) (aF (ah bc (aB 2) (aB 3)) aJ))))) .s (aB 4)))
 (jX 2 1)))
def xN:List aA->Option aA:=cy 2 5 j7
theorem l8 (F:Fun K "thin_parents" "thin_parents" OH f fd)(B:Blt mg)(C:Cst mg)(cc:Def P w K mg base "with_partner" 3 xP (aq K 1 sP))(dm:Def P w K mg base "ears" 5 qU (aq K 2 iD)):FnOk P w K mg base cv 6 f fd BV (aq K 1 xN):=by
 have nd:=Ahw.nd;exact dP F Ahw rfl (by decide) λbh A outer s H E P0 hr=>by
  rw[1];sleep 0
def Zg:SF:=(aT (bJ 2 0 .s (oV 1 (aL iD (aF (aB 0) aJ))))
 (cN 0 .s (aL wL (aF (aL iE (aF (gb [ae,aa 0] (bt (aB 2)) (gB 0) cU (ah bc (aB 1) (aB 0))) aJ)) (aF (gb [ae,aa 1] (bt (aB 2)) (gB 0) cU (ah bc (aB 1) (aB 0))) aJ)))))
def xJ:List aA->Option aA:=cy 2 3 Zg
theorem f7 (F:Fun K "walk_rest" "walk_rest" BC f fd)(B:Blt mg)(C:Cst mg)(kg:Def P w K mg base "walked" 3 AN (aq K 0 wL))(dm:Def P w K mg base "ears" 5 qU (aq K 2 iD)):FnOk P w K mg base cv 6 f fd BK (aq K 0 xJ):=by
 have nd:=Alq.nd;exact dP F Alq rfl (by decide) λbh A outer s H E P0 hr=>by
  rw[1];exact(bP (by sleep 0)
   (dB (lB .s (zS kg (hr.mono (by decide)) rfl (jE (kT sQ sN rfl B.tuple sT (jE (jF (n:=1) (gY rfl (fW (N:=["k","lines"]) (cap:=[ae,aa 0]) (out:=(bO BC).names) (XN:=NT) rfl rfl (by rw[0]) rfl) fI (fT (cG 2)) (λcl C s₀ H₀ ex=>⟨gD (j:=0) (show(["k","lines"]:List aC).Nodup by rw[0]) rfl (bK rfl),iG,(by sleep 0)⟩))) jL)) (jE (jF (n:=1) (gY rfl (fW (N:=["k","kept"]) (cap:=[ae,aa 1]) (out:=(bO BC).names) (XN:=NT) rfl rfl (by rw[0]) rfl) fI (fT (cG 2)) (λcl C s₀ H₀ ex=>⟨gD (j:=0) (show(["k","kept"]:List aC).Nodup by rw[0]) rfl (bK rfl),iG,(by sleep 0)⟩))) jL))))))
def Zz:SF:=(aT (bJ 2 1 .s (aL iR (aF (aB 1) aJ)))
 (aT (dD .s (iRv (aF (oV 0 (aL iD (aF (aB 0) aJ))) aJ)) (mC 3 4) (zT 2 .a (aL sP (aF (ah bc (aB 0) (aB 3)) (aF (ah bc (aB 2) (aB 3)) (aF (ah bc (aB 0) (aB 4)) (aF (ah bc (aB 2) (aB 4)) aJ))))) .s (aB 3)))
 (jX 2 1)))
def xC:List aA->Option aA:=cy 2 5 Zz
theorem b9 (F:Fun K "thin_ears" "thin_ears" NR f fd)(B:Blt mg)(C:Cst mg)(cc:Def P w K mg base "with_partner" 3 xP (aq K 1 sP))(dm:Def P w K mg base "ears" 5 qU (aq K 2 iD)):FnOk P w K mg base cv 6 f fd BI (aq K 1 xC):=by
 have nd:=Alm.nd;exact dP F Alm rfl (by decide) λbh A outer s H E P0 hr=>by
  rw[1];exact(bP (by sleep 0)
   (bP (jM hV rfl (Pi rfl B.reversed (by sleep 0)) (by sleep 0) (by sleep 0))
   (dB (AD 2))))
def OC:SF:=(tY .s (aL xQ (aF (aB 0) (aF (aL iE (aF (gb [ae,aa 1] (bt (aL sG (aF (aB 1) aJ))) (gB 0) cU (ah bc (aB 1) (aB 0))) aJ)) aJ))))
def uS:List aA->Option aA:=cy 2 2 OC
theorem j4 (F:Fun K "refuse_ring" "refuse_ring" GU f fd)(B:Blt mg)(C:Cst mg)(dq:Def P w K mg base "refuse_ways" 3 BY (aq K 0 xQ))(ww:Def P w K mg base "ring" 6 zR (aq K 1 sG)):FnOk P w K mg base cv 7 f fd BZ (aq K 0 uS):=by
 have nd:=Aiq.nd;exact dP F Aiq rfl (by decide) λbh A outer s H E P0 hr=>by
  rw[1];exact(dB (KR .s (zS dq (hr.mono (by decide)) rfl (jE (cG 0) (jE (kT sQ sN rfl B.tuple sT (jE (jF (n:=1) (gY rfl (fW (N:=["k","lines"]) (cap:=[ae,aa 1]) (out:=(bO GU).names) (XN:=Cu) rfl rfl (by rw[0]) rfl) fI (by sleep 0) (λcl C s₀ H₀ ex=>⟨gD (j:=0) (show(["k","lines"]:List aC).Nodup by rw[0]) rfl (bK rfl),iG,(by sleep 0)⟩))) jL)) jL)))))
def Zy:SF:=(aT (bJ 2 1 .s (aL iR (aF (aB 1) aJ)))
 (aT (bJ 3 0 .s (aL xJ (aF (aB 0) (aF (aB 1) aJ))))
 (aT (dD .s (bt (oV 1 (aL iD (aF (aB 0) aJ)))) (js 4) (sC 2 .s (aL MS (aF (gb [ae,aa 0,aa 4] (bt (aB 3)) (gB 0) cU (aL oM (aF (ah bc (ah bc (aB 1) (aB 2)) (eC (.int 1))) (aF (aB 0) aJ)))) aJ)) .s (aB 4)))
 (jX 2 1))))
def xG:List aA->Option aA:=cy 2 5 Zy
theorem d9 (F:Fun K "thin_rest" "thin_rest" GQ f fd)(B:Blt mg)(C:Cst mg)(ip:Def P w K mg base "put_in" 1 wK (aq K 0 oM))(dm:Def P w K mg base "ears" 5 qU (aq K 2 iD))(jo:Def P w K mg base "walk_rest" 6 BK (aq K 0 xJ)):FnOk P w K mg base cv 7 f fd BM (aq K 1 xG):=by
 have nd:=Alp.nd;exact dP F Alp rfl (by decide) λbh A outer s H E P0 hr=>by
  rw[1];exact(bP (by sleep 0)
   (bP (by sleep 0)
   (bP (jM hV rfl (by sleep 0) (by sleep 0) (dB (Dm 2 .s .s (jF (n:=1) (Zn rfl hv rfl B.sorted rfl B.set (jF (n:=1) (gY rfl (fW (N:=["known","lines","k"]) (cap:=[ae,aa 0,aa 4]) (out:=(bO GQ).names) (XN:=Bw) rfl rfl (by rw[0]) rfl) fI (fT (cG 3)) (λcl C s₀ H₀ ex=>⟨gD (j:=0) (show(["known","lines","k"]:List aC).Nodup by rw[0]) rfl (bK rfl),iG,(by sleep 0)⟩))))) (cG 4))))
   (dB (AD 2)))))
def Yc:SF:=(cN 1 .s (aL xC (aF (aB 0) (aF (aL xG (aF (aB 0) (aF (aL xN (aF (aB 0) (aF (aB 1) aJ))) aJ))) aJ))))
def xA:List aA->Option aA:=cy 2 2 Yc
theorem Zc (F:Fun K "thin_all" "thin_all" NA f fd)(B:Blt mg)(C:Cst mg)(gg:Def P w K mg base "thin_parents" 6 BV (aq K 1 xN))(jp:Def P w K mg base "thin_ears" 6 BI (aq K 1 xC))(jq:Def P w K mg base "thin_rest" 7 BM (aq K 1 xG)):FnOk P w K mg base cv 8 f fd AZ (aq K 1 xA):=by
 have nd:=Am0.nd;exact dP F Am0 rfl (by decide) λbh A outer s H E P0 hr=>by
  rw[1];sleep 0
def u9:SF:=(aT (tY .s (aL uS (aF (aB 0) (aF (aB 1) aJ))))
 (cN 1 .s (aL xA (aF (aB 1) (aF (aL xR (aF (aB 0) (aF (aB 1) aJ))) aJ)))))
def rA:List aA->Option aA:=cy 2 2 u9
theorem Xx (F:Fun K "thinned" "thinned" MR f fd)(B:Blt mg)(C:Cst mg)(ia:Def P w K mg base "all_fitting" 3 BW (aq K 1 xR))(ib:Def P w K mg base "refuse_ring" 7 BZ (aq K 0 uS))(kh:Def P w K mg base "thin_all" 8 AZ (aq K 1 xA)):FnOk P w K mg base cv 9 f fd AX (aq K 1 rA):=by
 have nd:=Apl.nd;exact dP F Apl rfl (by decide) λbh A outer s H E P0 hr=>by
  rw[1];sleep 0
end Aw
namespace Aw
open PySem L2
set_option maxHeartbeats 4000000
variable {P:bT}{w:bB}{K:aK}{mg:aC->Option aE}{base:aQ}{f:aD}{fd:iM}
def Lb:SF:=(aT (bJ 1 0 .s (aL xK (aF (aB 0) aJ)))
 (aT (bJ 2 1 .s (aL xH (aF (aB 0) (aF (aB 1) aJ))))
 (aT (bJ 3 1 .a (aL zM (aF (gb [ae,ae] (O1 (aB 2)) (M6 0 1) cU (jU (aF (aB 0) (aF (aL iR (aF (aB 1) aJ)) aJ)))) aJ)))
 (aT (bJ 4 0 .a (aL rA (aF (aB 2) (aF (aB 1) aJ))))
 (aT (fj .a (xp (mL (aw (aL rC (aF (aB 3) (aF (aB 1) (aF (aB 4) aJ)))))) (aw (ah (tM af) (aB 2) (aB 3)))) (cN 0 .s (eC (.bool ag))) dY)
 (aT (bJ 5 1 .s (gb [ae] (bt (aB 4)) (gB 0) cU (aL iR (aF (aB 0) aJ))))
 (jT 5 (aT (dD .s (bt (mK (aB 1) oN (oS (eC (.int 1))))) (mC 6 7) (aT (bJ 8 0 .s (aL iE (aF (gb [ae,aa 0] (qt (aF (aL cO (aF (aB 7) aJ)) aJ)) (gB 0) cU (aL lH (aF (aL eQ (aF (aB 1) (aF (eC (.int 1)) aJ))) (aF (ah cX (aB 0) (eC (.int 3))) aJ)))) aJ)))
 (mY 2 .a (ah pR (aL iR (aF (iP (aB 3) (aB 6) (dJ aJ)) aJ)) (dJ (aF (aB 8) aJ))) .s (aB 6))))
 (jT 2 (aT (fj .s (mL (aw (aL rC (aF (aB 2) (aF (aB 1) (aF (aL rA (aF (aB 2) (aF (aB 1) aJ))) aJ)))))) (cN 0 .s (eC (.bool ag))) dY)
 (cN 0 .s (ah gc (aB 4) (aB 5)))))))))))))
def ED:List aA->Option aA:=cy 1 9 Lb
theorem Na (F:Fun K "law" "law" oC f fd)(B:Blt mg)(C:Cst mg)(ca:Def P w K mg base "_law_cell" 1 uQ (aq K 0 eQ))(br:Def P w K mg base "_law_value" 1 uT (aq K 0 lH))(iq:Def P w K mg base "_law_lines" 2 BO (aq K 0 xK))(jr:Def P w K mg base "_law_book" 2 BJ (aq K 1 xH))(ir:Def P w K mg base "_law_right" 3 BN (aq K 0 rC))(ng:Def P w K mg base "thinned" 9 AX (aq K 1 rA)):FnOk P w K mg base cv 10 f fd TX (aq K 0 ED):=by
 have nd:=Bdo.nd;exact dP F Bdo rfl (by decide) λbh A outer s H E P0 hr=>by
  rw[1];exact(bP (by sleep 0)
   (bP (by sleep 0)
   (bP (jD (i:=3) 1 .a nd rfl (by trivial) (kT (a8 rfl) Zo rfl B.dict QU (jE (jF (n:=1) (gY rfl (fW (N:=["_law_table","_law_rows"]) (cap:=[ae,ae]) (out:=(bO oC).names) (XN:=CG) rfl rfl (by rw[0]) rfl) Mm (Ur (cG 2)) (λcl C s₀ H₀ ex=>⟨Wz (i:=0) (j:=1) rfl (show(["_law_table","_law_rows"]:List aC).Nodup by rw[0]) rfl rfl (bK rfl) (bK rfl),iG,(by sleep 0)⟩))) jL)))
   (bP (by sleep 0)
   (bP (kZ .a (zJ (TJ (by sleep 0) (VU (mE (Nl hu) Qv (cG 2) (cG 3) (nA _))))) (by sleep 0) mG)
   (bP (by first|exact(LL (i:=5) .s rfl nd rfl (by trivial) (fW (N:=["_law_rows"]) (cap:=[ae]) (out:=(bO oC).names) (XN:=CG) rfl rfl (by rw[0]) rfl) fI (fT (cG 4)) (λcl C s₀ H₀ ex=>⟨gD (j:=0) (show(["_law_rows"]:List aC).Nodup by rw[0]) rfl (bK rfl),iG,(by sleep 0)⟩))|exact(jD (i:=5) 1 .s nd rfl (by trivial) (gY rfl (fW (N:=["_law_rows"]) (cap:=[ae]) (out:=(bO oC).names) (XN:=CG) rfl rfl (by rw[0]) rfl) fI (fT (cG 4)) (λcl C s₀ H₀ ex=>⟨gD (j:=0) (show(["_law_rows"]:List aC).Nodup by rw[0]) rfl (bK rfl),iG,(by sleep 0)⟩))))
   (uJ 5 (bP (jM hV rfl (by sleep 0) (by sleep 0) (bP (jD (i:=8) 0 .s nd rfl (by trivial) (kT sQ sN rfl B.tuple sT (jE (jF (n:=1) (gY rfl (fW (N:=["_law_at","_law_script"]) (cap:=[ae,aa 0]) (out:=(bO oC).names) (XN:=CG) rfl rfl (by rw[0]) rfl) fI (zP (by sleep 0)) (λcl C s₀ H₀ ex=>⟨gD (j:=0) (show(["_law_at","_law_script"]:List aC).Nodup by rw[0]) rfl (bK rfl),iG,(by sleep 0)⟩))) jL)))
   (by sleep 0)))
   (uJ 2 (bP (by sleep 0)
   (dB (lB .s (EN (zO hu) EI (cG 4) (cG 5) (nA _))))))))))))))
end Aw
namespace L2
open PySem PySem.Spec PyProof.Rows
variable {F G:SF}{T:aA->aU->Option aU}{ds:List aA}{Y:aU}{f:EF}{d:aA}{fi:AF}{n i:Nat}
theorem m4(P:Nat->aU->Prop)(h0:P 0 Y)
  (step:∀ i d Y,ds[i]?=aa d->P i Y->∃ ρ1 ρ2,T d Y=aa ρ1/\(F ρ1=aa (.nx ρ2)\/F ρ1=aa (.ct ρ2))/\P (i+1) ρ2):∃ ρ',jV F T ds Y=aa (.nx ρ')/\P ds.length ρ':=by
 have go:∀ (rest:List aA) (i:Nat) (Y:aU),ds.drop i=rest->i+rest.length=ds.length->P i Y->∃ ρ',jV F T rest Y=aa (.nx ρ')/\P ds.length ρ':=by
  intro rest;induction rest with
  |nil=>
   intro i Y _ hl p;simp at hl;subst hl;exact⟨Y,rfl,p⟩
  |cons d r ih=>
   intro i Y hd hl p;have hi:ds[i]?=aa d:=by
    have:=congrArg (·[0]?) hd;simpa using this
   obtain⟨ρ1,ρ2,e1,e2,p2⟩:=step i d Y hi p;have vj:ds.drop (i+1)=r:=by
    have:=congrArg List.tail hd;simpa using this
   obtain⟨ρ',e3,p3⟩:=ih (i+1) ρ2 vj (by simp at hl;omega) p2
   refine⟨ρ',?_,p3⟩;show((T d Y).bind λρ1=>(F ρ1).bind λo=>match o with
    |.nx ρ'=>jV F T r ρ'
    |.ct ρ'=>jV F T r ρ'
    |.bk ρ'=>aa (.nx ρ')
    | .rt d=>aa (.rt d))=aa (.nx ρ')
   rw[e1];rcases e2 with e2|e2
   .simp only[bS,e2];exact e3
   .simp only[bS,e2];exact e3
 exact go ds 0 Y (by simp) (by simp) h0
theorem Eb {T:aA->List (Option aA)->Option (List (Option aA))}{t:BF}{Y:List (Option aA)}(g:aA->aA):∀ (ds:List aA),(∀ d∈ds,∃ ρ1,T d Y=aa ρ1/\t ρ1=aa af/\f ρ1=aa (g d))->xg T t f Y ds=aa (ds.map g)
 |[],_=>rfl
 |d::r,h=>by
  obtain⟨ρ1,e1,e2,e3⟩:=h d bF;have e4:=Eb g r λd' m=>h d' (bL _ m)
  show((T d Y).bind λρ1=>(t ρ1).bind λc=>if c=af then(f ρ1).bind λy=>(xg T t f Y r).bind λys=>aa (y::ys) else xg T t f Y r)=aa (g d::r.map g)
  simp[e1,e2,e3,e4]
theorem Nf{ρ':aU}(h:F Y=aa (.nx ρ')):aT F G Y=G ρ':=by
 unfold aT;rw[h]
 rfl
theorem Lu(h:F Y=aa (.rt d)):aT F G Y=aa (.rt d):=by
 unfold aT;rw[h]
 rfl
theorem KU {m:Md}{o:Out}(h:aV m fi Y=aa ds)(h2:jV F T ds Y=aa o):dD m fi T F Y=aa o:=by
 unfold dD;rw[h];exact h2
theorem Ki {np:Nat}{body:SF}(hl:ds.length=np)(h:body (ds.map (λd=>aa (0,d))++pY (n-np) ae)=aa (.rt d)):cy np n body ds=aa d:=by
 unfold cy;rw[if_pos hl,h]
 rfl
theorem OM{k:Nat}(h:k<=ds.length):cutD ds ae (aa (k:Int))=ds.take k:=by
 unfold cutD;rw[HT.Ayv,HT.A7i];simp[Hk h]
theorem nC(h:n<=100000):n<=sizeLine:=dG h (by decide)
theorem uH(h:n<=100000):n<sizeLine:=QY h (by decide)
def letter (c:Nat):Bool:=decide (97<=c)&&decide (c<=122)
def figure (c:Nat):Bool:=decide (48<=c)&&decide (c<=57)
def Nv (c:Nat):Bool:=letter c||figure c
def Kz (cs:List Nat):Prop:=∃ c r,cs=c::r/\letter c=af/\(∀ x∈cs,Nv x=af)/\cs.length<=12
def nameS (z:aC):Prop:=Kz z.cps.toList
def DZ (c:Nat):aA:=.str ⟨#[c]⟩
theorem fU (a:Int){b:Int}(h:0<b):0<=a%b/\a%b<b:=⟨Int.emod_nonneg _ (by omega),Int.emod_lt_of_pos _ h⟩
def Goes (F:SF)(Y:aU)(P:Out->Prop):Prop:=∃ o,F Y=aa o/\P o
variable {P:Out->Prop}{m:Md}
theorem Goes.mono {P':Out->Prop}(h:Goes F Y P)(k:∀ o,P o->P' o):Goes F Y P':=by
 obtain⟨o,e,p⟩:=h;exact⟨o,e,k o p⟩
theorem fE {ρ':aU}(h:F Y=aa (.nx ρ'))(k:Goes G ρ' P):Goes (aT F G) Y P:=by
 obtain⟨o,e,p⟩:=k;exact⟨o,by rw[Nf h];exact e,p⟩
theorem fV (I:aU->Prop)(h:Goes F Y λo=>∃ ρ',o=.nx ρ'/\I ρ')(k:∀ ρ',I ρ'->Goes G ρ' P):Goes (aT F G) Y P:=by
 obtain⟨o,e,ρ',rfl,i⟩:=h;exact fE e (k ρ' i)
theorem KW(h:F Y=aa (.rt d))(k:P (.rt d)):Goes (aT F G) Y P:=⟨_,Lu h,k⟩
theorem TH {t:BF}{b:Bool}(h:bV m t Y=aa b)(k:Goes (if b=af then F else G) Y P):Goes (fj m t F G) Y P:=by
 obtain⟨o,e,p⟩:=k;refine⟨o,?_,p⟩;show((bV m t Y).bind λb=>if b=af then F Y else G Y)=aa o
 rw[h];cases b
 .exact e
 .exact e
theorem fJ {t:BF}(h:bV m t Y=aa af)(k:Goes F Y P):Goes (fj m t F G) Y P:=TH h k
theorem jY {t:BF}(h:bV m t Y=aa ag)(k:Goes G Y P):Goes (fj m t F G) Y P:=TH h k
theorem mH (k:P (.nx Y)):Goes dY Y P:=⟨_,rfl,k⟩
theorem kN {t:BF}(h:bV m t Y=aa ag):fj m t F dY Y=aa (.nx Y):=by
 unfold fj;rw[h]
 rfl
theorem oJ (h:Goes F Y λo=>∃ d,o=.rt d/\P o):Goes (aT F G) Y P:=by
 obtain⟨o,e,d,rfl,p⟩:=h;exact KW e p
theorem dA(h:f (vS Y)=aa d)(k:P (.rt d)):Goes (cN n .s f) Y P:=⟨_,by
 unfold cN eV;simp only[h,bS],k⟩
theorem PJ(h:eV n m f Y=aa d)(hl:i<Y.length)(k:P (.nx (Y.set i (aa (n,d))))):Goes (bJ i n m f) Y P:=
 ⟨_,by unfold bJ;rw[h];simp only[bS,if_pos hl],k⟩
theorem zY(h:f (vS Y)=aa d)(hl:i<Y.length)(k:P (.nx (Y.set i (aa (n,d))))):Goes (bJ i n .s f) Y P:=PJ h hl k
theorem oI(h:Goes F (frz i Y) P):Goes (jT i F) Y P:=h
theorem Oh(h:n<=1000000):IY 0 (n:Int)=aa ((bY n).map λ(k:Nat)=>aW k):=by
 unfold IY;rw[if_pos (by omega)]
 simp
theorem qX {fa:AF}{Y:List (Option aA)}(h:fa Y=aa [.int n])(hn:n<=1000000):qt fa Y=aa ((bY n).map λ(k:Nat)=>aW k):=by
 have e:=Oh hn;generalize aa ((bY n).map λ(k:Nat)=>aW k)=y at e ⊢
 rw[<-e];unfold qt;rw[h,bS]
theorem iu(h:fi (vS Y)=aa ds):aV .s fi Y=aa ds:=h
theorem UX(I:Nat->aU->Prop)(h:aV m fi Y=aa ds)(h0:I 0 Y)
  (step:∀ i d Y,ds[i]?=aa d->I i Y->∃ ρ1,T d Y=aa ρ1/\Goes F ρ1 λo=>∃ ρ2,(o=.nx ρ2\/o=.ct ρ2)/\I (i+1) ρ2) (k:∀ ρ',I ds.length ρ'->P (.nx ρ')):Goes (dD m fi T F) Y P:=by
 obtain⟨ρ',e,i⟩:=m4 I h0 λi d Y hd p=>by
  obtain⟨ρ1,e1,o,e2,ρ2,e3,p2⟩:=step i d Y hd p;refine⟨ρ1,ρ2,e1,?_,p2⟩;rcases e3 with rfl|rfl
  .exact .inl e2
  .exact .inr e2
 exact⟨_,KU h e,k ρ' i⟩
theorem wH(I:Nat->aU->Prop)(h:aV m fi Y=aa ((bY n).map λ(k:Nat)=>aW k))(h0:I 0 Y)
  (step:∀ (i:Nat) Y,i<n->I i Y->∃ ρ1,T (.int i) Y=aa ρ1/\Goes F ρ1 λo=>∃ ρ2,(o=.nx ρ2\/o=.ct ρ2)/\I (i+1) ρ2) (k:∀ ρ',I n ρ'->P (.nx ρ')):Goes (dD m fi T F) Y P:=by
 refine UX I h h0 (λi d Y hd p=>?_) (by simpa using k)
 have cf:i<n:=by
  have:=(cT.1 hd).1;simpa using this
 rw[eW,Hy cf] at hd;have:aW (i:Int)=d:=by simpa using hd
 rw[20];exact step i Y cf p
theorem dW {np:Nat}{body:SF}{Q:aA->Prop}(hl:ds.length=np)(h:Goes body (ds.map (λd=>aa (0,d))++pY (n-np) ae) λo=>∃ d,o=.rt d/\Q d):∃ d,cy np n body ds=aa d/\Q d:=by
 obtain⟨o,e,d,rfl,q⟩:=h;exact⟨d,Ki hl e,q⟩
theorem UO {cap:List (Option Nat)}{T:aA->List (Option aA)->Option (List (Option aA))}{t:BF}{Y:List (Option aA)}(g:aA->aA)(h1:fi Y=aa ds)(h2:ds.length<=100000)
  (h:∀ d∈ds,∃ ρ1,T d (lY cap Y)=aa ρ1/\t ρ1=aa af/\f ρ1=aa (g d)):gb cap fi T t f Y=aa (.list (ds.map g)):=by
 unfold gb;rw[h1,bS,Eb g ds h,bS,if_pos (nC h2)]
end L2
namespace L2
open PySem PySem.Spec PyProof.Rows
variable {f:EF}{ds:List aA}{d:aA}{kds:List (aA×aA)}
variable {F G:SF}{Y:aU}{P:Out->Prop}{m:Md}
theorem fL{Y:List (Option aA)}(h:f Y=aa (.list ds)):bt f Y=aa ds:=by
 unfold bt;rw[h]
 rfl
theorem pK{Y:List (Option aA)}(h:f Y=aa (.tuple ds)):bt f Y=aa ds:=by
 unfold bt;rw[h]
 rfl
theorem aY {fa:AF}{g:List aA->Option aA}{Y:List (Option aA)}(h:fa Y=aa ds)(h2:g ds=aa d):aL g fa Y=aa d:=by
 unfold aL;rw[h];exact h2
theorem aP {fa fb:EF}{g:aA->aA->Option aA}{Y:List (Option aA)}{a b:aA}(h:fa Y=aa a)(h2:fb Y=aa b)(h3:g a b=aa d):ah g fa fb Y=aa d:=by
 unfold ah;rw[h,h2];exact h3
theorem uI {i:Nat}(h:f (vS Y)=aa d)(hg:getL i Y=aa ds)(hl:ds.length<100000)(k:P (.nx (Y.set i (aa (1,.list (ds++[d])))))):Goes (gR i .s f) Y P:=⟨_,by
 unfold gR eV;simp only[h,bS,hg,if_pos (uH (pB hl))],k⟩
theorem Ex {i:Nat}{g:EF}{kd:aA}{key:aI}(h:f (vS Y)=aa d)(hg:nM i Y=aa kds)(hk:g (vS Y)=aa kd)(ha:cA kd=aa key)(hl:kds.length<100000)(k:P (.nx (Y.set i (aa (1,.dict (putD kds key d)))))):Goes (mY i .s f .s g) Y P:=⟨_,by
 unfold mY eV;simp only[h,bS,hg,hk,ha,if_pos (uH (pB hl))],k⟩
def Kk (d:aA):Prop:=(∃ z,d=.str z/\nameS z)\/∃ i,d=.int i
theorem FZ:∀ {ts:List aA},(∀ t∈ts,bG t=af)->bR ts=af
 |[],_=>by simp[bR]
 |t::r,h=>by
  simp only[bR,yU];exact⟨h t bF,FZ λx m=>h x (bL _ m)⟩
theorem wX {n:Nat}:∀ {ts:List aA},(∀ t∈ts,t.depth<=n)->cL ts<=n
 |[],_=>by simp[cL]
 |t::r,h=>by
  simp only[cL];exact Nat.max_le.2 ⟨h t bF,wX λx m=>h x (bL _ m)⟩
theorem wZ:∀ {ts:List aA},(∀ t∈ts,noDict t=af)->noDicts ts=af
 |[],_=>by simp[noDicts]
 |t::r,h=>by
  simp only[noDicts,yU];exact⟨h t bF,wZ λx m=>h x (bL _ m)⟩
structure Kn (kds:List (aA×aA)):Prop where
 fit:∀ kd∈kds,(∃ z,kd.1=.str z)/\Kk kd.2
 once:(kds.map (·.1)).Nodup
theorem Kn.int(h:Kn kds)(i:Int):cC kds (.inl i)=ae:=by
 have:(kds.find? λkd=>decide (cA kd.1=aa (.inl i)))=ae:=by
  rw[DC];intro kd m;obtain⟨⟨z,e⟩,_⟩:=h.fit kd m;simp[e,cA]
 unfold cC;rw[this]
 rfl
theorem ET(h:∀ kd∈kds,kd.1 ≠ .none):ik kds=af:=by
 cases kds with
 |nil=>rfl
 |cons p r=>
  obtain⟨k,d⟩:=p;have:=h (k,d) bF;cases k<;>first|rfl|exact absurd rfl this
theorem Dy:∀ {kss:List (List aA)},(∀ k∈kss,bR k=af/\cL k<=6)->jS (kss.map cV)=aa kss
 |[],_=>rfl
 |k::r,h=>by
  show(if bR k=af/\cL k<=6 then(jS (r.map cV)).bind λkss=>aa (k::kss) else ae)=_
  rw[if_pos (h k bF),Dy λx m=>h x (bL _ m)]
  rfl
end L2
namespace L2
open PySem PySem.Spec PyProof.Rows
variable {f:EF}{i n:Nat}{d:aA}
variable {F G:SF}{Y:aU}{P:Out->Prop}{m:Md}
theorem iU {α β:Type}{fi:AF}{T:aA->aU->Option aU}{xs:List α}{q:α->aA}(g:β->α->β)(I:Nat->β->aU->Prop){b0:β}(h:aV m fi Y=aa (xs.map q))(h0:I 0 b0 Y)
  (step:∀ i x b Y,xs[i]?=aa x->I i b Y->∃ ρ1,T (q x) Y=aa ρ1/\Goes F ρ1 λo=>∃ ρ2,(o=.nx ρ2\/o=.ct ρ2)/\I (i+1) (g b x) ρ2) (k:∀ ρ',I xs.length (xs.foldl g b0) ρ'->P (.nx ρ')):Goes (dD m fi T F) Y P:=by
 refine UX (λi Y=>I i ((xs.take i).foldl g b0) Y) h h0 (λi d Y hd p=>?_) (λρ' p=>k ρ' (by simpa using p))
 rw[eW] at hd;obtain⟨x,hx,rfl⟩:=kF.1 hd;obtain⟨ρ1,e1,g1⟩:=step i x _ Y hx p;refine⟨ρ1,e1,g1.mono λo ⟨ρ2,e,q⟩=>⟨ρ2,e,?_⟩⟩
 have:xs.take (i+1)=xs.take i++[x]:=by rw[CY,hx];rfl
 rw[this,yP];exact q
def aft (F:SF)(T:aA->aU->Option aU)(ds:List aA):Out->Option Out
 |.nx Y=>jV F T ds Y
 |.ct Y=>jV F T ds Y
 |.bk Y=>aa (.nx Y)
 |.rt d=>aa (.rt d)
theorem YE {T:aA->List (Option aA)->Option (List (Option aA))}{t:BF}{Y:List (Option aA)}{α:Type}{q:α->aA}(p:α->Bool)(g:α->aA):∀ (xs:List α),
  (∀ x∈xs,∃ ρ1,T (q x) Y=aa ρ1/\t ρ1=aa (p x)/\(p x=af->f ρ1=aa (g x)))->xg T t f Y (xs.map q)=aa ((xs.filter p).map g)
 |[],_=>rfl
 |x::xs,h=>by
  obtain⟨ρ1,e1,e2,e3⟩:=h x bF;have ih:=YE p g xs λy m=>h y (bL _ m)
  show((T (q x) Y).bind λρ1=>(t ρ1).bind λc=>if c=af then(f ρ1).bind λy=>(xg T t f Y (xs.map q)).bind λys=>aa (y::ys) else xg T t f Y (xs.map q))=_
  rw[e1,bS,e2,bS,ih];cases hp:p x with
  |true=>rw[if_pos rfl,e3 hp,List.filter_cons_of_pos hp];rfl
  |false=>rw[if_neg (by simp),List.filter_cons_of_neg (by simp[hp])]
theorem iH {cap:List (Option Nat)}{fi:AF}{T:aA->List (Option aA)->Option (List (Option aA))}{t:BF}{Y:List (Option aA)}{α:Type}{xs:List α}{q:α->aA}(p:α->Bool)(g:α->aA)(h1:fi Y=aa (xs.map q))(h2:xs.length<=100000)
  (h:∀ x∈xs,∃ ρ1,T (q x) (lY cap Y)=aa ρ1/\t ρ1=aa (p x)/\(p x=af->f ρ1=aa (g x))):gb cap fi T t f Y=aa (.list ((xs.filter p).map g)):=by
 unfold gb;rw[h1,bS,YE p g xs h,bS,if_pos (nC (by simpa using h2))]
theorem PQ(h:eV n m f Y=aa d)(hl:i<Y.length):bJ i n m f Y=aa (.nx (Y.set i (aa (n,d)))):=by
 obtain⟨o,e,q⟩:=PJ (P:=λo=>o=.nx (Y.set i (aa (n,d)))) h hl rfl
 rw[e,q]
theorem cP(h:f (vS Y)=aa d)(hl:i<Y.length)(k:Goes G (Y.set i (aa (n,d))) P):Goes (aT (bJ i n .s f) G) Y P:=fE (PQ h hl) k
theorem Ga(h:f (vA Y)=aa d)(hf:fS n d=af)(hl:i<Y.length)(k:Goes G (Y.set i (aa (n,d))) P):Goes (aT (bJ i n .a f) G) Y P:=
 fE (PQ (by show((f (vA Y)).bind λd=>if (fS n d||(qM Y&&decide (n<9)&&gU n d))=af then aa d else ae)=_;rw[h,bS,hf,Bool.true_or,if_pos rfl]) hl) k
theorem xU {fa:EF}{g:aA->Option aA}{Y:List (Option aA)}{a:aA}(h:fa Y=aa a)(h3:g a=aa d):iw g fa Y=aa d:=by
 unfold iw;rw[h];exact h3
theorem bD{g:AF}{Y:List (Option aA)}{ds:List aA}(h:f Y=aa d)(h2:g Y=aa ds):aF f g Y=aa (d::ds):=by
 unfold aF;rw[h,h2]
 rfl
theorem Po {z:aC}{i:Int}(h0:0<=i)(h1:i<(z.length:Int))(hz:z.length<=100000)(hl:cH (.str z)=af):∃ c,bc (.str z) (.int i)=aa (DZ c)/\cH (DZ c)=af:=by
 obtain⟨j,rfl⟩:=mV h0;have hj:j<z.cps.toList.length:=by
  have:z.cps.toList.length=z.length:=by simp[Str.length]
  omega
 refine⟨z.cps.toList[j],?_,?_⟩
 .show(if z.length<=sizeLine then(kz z.cps.toList (j:Int)).bind λc=>aa (cK ⟨#[c]⟩) else ae)=_
  rw[if_pos (nC hz),uK (fA hj)]
  rfl
 .simp only[DZ,cH,HQ] at hl ⊢;have hm:z.cps.toList[j]∈z.cps:=by
   rw[<-Array.mem_toList_iff];exact iW hj
  have:=L6.1 hl _ hm;simpa using this
end L2
namespace L2
def gG {α:Type}[DecidableEq α](aj:List α)(z:α):List α:=if z∈aj then aj else aj++[z]
def jK {α:Type}[DecidableEq α](zs:List α):List α:=zs.foldl gG []
section
variable {α:Type}[DecidableEq α]
theorem Axm {aj:List α}{z x:α}:x∈gG aj z↔x∈aj\/x=z:=by
 unfold gG;split
 .rename_i h;exact⟨.inl,λq=>q.elim id λe=>e ▸ h⟩
 .simp
theorem ZC {x:α}:∀ (zs aj:List α),x∈zs.foldl gG aj↔x∈aj\/x∈zs
 |[],aj=>by simp
 |z::zs,aj=>by
  rw[jQ,ZC zs,Axm];simp only[cM];constructor
  .rintro((h|h)|h)
   .exact .inl h
   .exact .inr (.inl h)
   .exact .inr (.inr h)
  .rintro(h|h|h)
   .exact .inl (.inl h)
   .exact .inl (.inr h)
   .exact .inr h
theorem Ah7 {x:α}{zs:List α}:x∈jK zs↔x∈zs:=by
 unfold jK;rw[ZC];simp
theorem XI (aj:List α)(z:α):(gG aj z).length<=aj.length+1:=by
 unfold gG;split<;>simp
theorem GC:∀ (zs aj:List α),(zs.foldl gG aj).length<=aj.length+zs.length
 |[],aj=>by simp
 |z::zs,aj=>by
  have h1:=GC zs (gG aj z);have h2:=XI aj z;rw[jQ,fY];omega
end
open PySem PySem.Spec PyProof.Rows
structure KnR (R:aA->Prop)(kds:List (aA×aA)):Prop where
 fit:∀ kd∈kds,(∃ z,kd.1=.str z)/\R kd.2
 once:(kds.map (·.1)).Nodup
variable {R:aA->Prop}{kds:List (aA×aA)}
theorem KnR.look (h:KnR R kds):∀ kd∈kds,∃ z,kd.1=.str z/\cC kds (.inr z)=aa kd.2:=by
 obtain⟨hf,ho⟩:=h;induction kds with
 |nil=>intro _ m;simp at m
 |cons a r ih=>
  rw[dI,lT] at ho;intro kd m;obtain⟨z,ez⟩:=(hf kd m).1;refine⟨z,ez,?_⟩;rw[15]
  .simp[cC,fN,ez,cA]
  .obtain⟨z',e1,e2⟩:=ih (λx m=>hf x (bL _ m)) ho.2 kd m
   obtain rfl:z'=z:=by
    have q:=e1.symm.trans ez;injection q
   have cb:¬ cA a.1=aa (.inr z'):=λq=>ho.1 (bI.2 ⟨kd,m,by rw[e1];exact(GN q).symm⟩)
   have e3:cC (a::r) (.inr z')=cC r (.inr z'):=by simp[cC,fN,cb]
   rw[e3];exact e2
theorem KnR.hit (h:KnR R kds)(hs:∀ d,R d->cD d d=af):∀ {r:List (aA×aA)},(∀ kd∈r,kd∈kds)->rT kds r=af
 |[],_=>rfl
 |(k,d)::r,hr=>by
  have m:=hr (k,d) bF;obtain⟨z,e,q⟩:=h.look (k,d) m;have e':=e;have q':=q;subst e';simp only[rT,cA,bS,q',hs d (h.fit (cK z,d) m).2,IK];exact h.hit hs λkd mm=>hr kd (bL _ mm)
theorem KnR.pl (h:KnR R kds):ik kds=af:=ET λkd m=>by
 obtain⟨⟨z,e⟩,_⟩:=h.fit kd m;rw[e];exact λq=>nomatch q
theorem KnR.eqK (h:KnR R kds)(hs:∀ d,R d->cD d d=af)(ho:∀ d,R d->cZ d=af)(neg:Bool):tM neg (.dict kds) (.dict kds)=aa (.bool (neg != af)):=by
 have h1:valsOk kds=af:=eB.2 λkd m=>ho _ (h.fit kd m).2
 have h2:=h.hit hs (r:=kds) λ_ m=>m
 simp[tM,h1,EJ,h2,h.pl]
def bC (r:List Int):aA:=.tuple (r.map aW)
def aX (rs:List (List Int)):aA:=.list (rs.map bC)
theorem LG (r:List Int):bG (bC r)=af:=by
 refine FZ λt m=>?_
 obtain⟨i,_,rfl⟩:=bI.1 m
 rfl
theorem WL (rs:List (List Int)):bR (rs.map bC)=af:=FZ λt m=>by
 obtain⟨r,_,rfl⟩:=bI.1 m;exact LG r
theorem A1 (rs:List (List Int)):cD (aX rs) (aX rs)=af:=by
 have:=AR _ _ (WL rs) (WL rs);simp[aX,cD,this]
theorem Ee {Y:aU}{P:Out->Prop}{i:Nat}{f g:EF}{d:aA}{j:Int}{jn:Nat}{ds:List aA}(h:f (vS Y)=aa d)(hg:getL i Y=aa ds)(hk:g (vS Y)=aa (.int j))(hj:ni ds.length j=aa jn)(k:P (.nx (Y.set i (aa (1,.list (ds.set jn d)))))):Goes (sC i .s f .s g) Y P:=by
 refine⟨_,?_,k⟩;have e1:eV 0 .s f Y=aa d:=h;have e2:eV 0 .s g Y=aa (.int j):=hk;unfold sC;rw[e1,bS,hg,bS,e2,bS];show((ni ds.length j).bind λj=>aa (Out.nx (Y.set i (aa (1,.list (ds.set j d))))))=_
 rw[hj]
 rfl
theorem EO {n j:Nat}(h:j<n):ni n (j:Int)=aa j:=by
 unfold ni;rw[if_pos (by omega),if_pos (by omega)]
 simp
theorem FL {fd fk fx:EF}{Y:List (Option aA)}{kds:List (aA×aA)}{kd x:aA}{key:aI}(h1:fd Y=aa (.dict kds))(h2:fk Y=aa kd)(ha:cA kd=aa key)(h3:fx Y=aa x)(hp:ik kds=af:=by first|assumption|rfl|simp):iP fd fk fx Y=aa ((cC kds key).getD x):=by
 unfold iP;rw[h1,bS,h2,bS,h3,bS];show(if ik kds=af then(cA kd).bind λk=>aa ((cC kds k).getD x) else ae)=_
 rw[if_pos hp,ha]
 rfl
end L2
namespace L2
open PySem PySem.Spec PyProof.Rows
variable {F G:SF}{Y:aU}{P:Out->Prop}{m:Md}
def eT {α β:Type}(g:β->α->Option β):β->List α->Option β
 |b,[]=>aa b
 |b,x::xs=>(g b x).bind λb'=>eT g b' xs
def DY {β:Type}(I:β->aU->Prop)(r:aA)(t:Option β)(o:Out):Prop:=match t with
 |none=>o=.rt r
 |some b=>∃ ρ2,o=.nx ρ2/\I b ρ2
def CB {β:Type}(I:β->aU->Prop)(r:aA)(t:Option β)(o:Out):Prop:=match t with
 |none=>o=.rt r
 |some b=>∃ ρ2,(o=.nx ρ2\/o=.ct ρ2)/\I b ρ2
theorem Bc {α β:Type}(g:β->α->Option β)(x:α):∀ (xs:List α) (b:β),eT g b (xs++[x])=(eT g b xs).bind λb'=>g b' x
 |[],b=>by
  show((g b x).bind λb'=>aa b')=g b x
  cases g b x<;>rfl
 |y::ys,b=>by
  show((g b y).bind λb'=>eT g b' (ys++[x]))=((g b y).bind λb'=>eT g b' ys).bind _
  cases g b y with
  |none=>rfl
  |some b'=>exact Bc g x ys b'
theorem UN {T:aA->aU->Option aU}{α β:Type}{q:α->aA}(g:β->α->Option β)(I:β->aU->Prop)(r:aA){all:List α}{b0:β}
  (step:∀ pre x post b Y,all=pre++x::post->eT g b0 pre=aa b->I b Y->∃ ρ1,T (q x) Y=aa ρ1/\Goes F ρ1 (CB I r (g b x))):∀ {xs pre:List α} {b:β} {Y:aU},all=pre++xs->eT g b0 pre=aa b->I b Y->∃ o,jV F T (xs.map q) Y=aa o/\DY I r (eT g b xs) o
 |[],pre,b,Y,_,_,h0=>⟨_,rfl,Y,rfl,h0⟩
 |x::xs,pre,b,Y,ha,hb,h0=>by
  obtain⟨ρ1,e1,o,e2,h⟩:=step pre x xs b Y ha hb h0;have e:jV F T ((x::xs).map q) Y=aft F T (xs.map q) o:=by
   show((T (q x) Y).bind λρ1=>(F ρ1).bind λo=>_)=_
   rw[e1,bS,e2,bS];cases o<;>rfl
  rw[e];show ∃ o',aft F T (xs.map q) o=aa o'/\DY I r ((g b x).bind λb'=>eT g b' xs) o'
  cases hg:g b x with
  |none=>
   rw[hg] at h;have h:o=.rt r:=h;subst h;exact⟨_,rfl,rfl⟩
  |some b'=>
   rw[hg] at h;obtain⟨ρ2,ho,i2⟩:=h;obtain⟨o',e',h'⟩:=UN g I r step (pre:=pre++[x]) (xs:=xs) (by simpa using ha) (by rw[Bc,hb];exact hg) i2
   rcases ho with rfl|rfl
   .exact⟨o',e',h'⟩
   .exact⟨o',e',h'⟩
theorem Rj {α β:Type}{fi:AF}{T:aA->aU->Option aU}{xs:List α}{q:α->aA}{b0:β}(g:β->α->Option β)(I:β->aU->Prop)(r:aA)(h:aV m fi Y=aa (xs.map q))(h0:I b0 Y)
  (step:∀ pre x post b Y,xs=pre++x::post->eT g b0 pre=aa b->I b Y->∃ ρ1,T (q x) Y=aa ρ1/\Goes F ρ1 (CB I r (g b x))):Goes (dD m fi T F) Y (DY I r (eT g b0 xs)):=by
 obtain⟨o,e,h'⟩:=UN g I r step (xs:=xs) (pre:=[]) (by simp) rfl h0
 exact⟨o,KU h e,h'⟩
theorem Sk {β:Type}(I:β->aU->Prop)(r:aA)(t:Option β)(h:Goes F Y (DY I r t))(k1:t=ae->P (.rt r))(k2:∀ b,t=aa b->∀ ρ',I b ρ'->Goes G ρ' P):Goes (aT F G) Y P:=by
 obtain⟨o,e,h⟩:=h;cases t with
 |none=>
  have h:=h;subst h;exact KW e (k1 rfl)
 |some b=>
  obtain⟨ρ2,rfl,i2⟩:=h;exact fE e (k2 b rfl ρ2 i2)
def dN (p:aC×Int):aA×aA:=(.str p.1,.int p.2)
def DN (kn:List (aC×Int)):List (aA×aA):=kn.map dN
def cF (kn:List (aC×Int))(z:aC):Option Int:=(kn.find? λp=>decide (p.1=z)).map (·.2)
theorem AA (kn:List (aC×Int))(z:aC):cC (DN kn) (.inr z)=(cF kn z).map aW:=by
 unfold cC cF DN;induction kn with
 |nil=>rfl
 |cons p r ih=>
  rw[dI,fN,fN];have e:cA (dN p).1=aa (.inr p.1):=rfl;rw[e];by_cases h:p.1=z
  .simp[h,dN]
  .have h':¬ (aa (gE p.1:aI)=aa (gE z)):=λq=>h (by injection q with q;injection q)
   rw[decide_eq_false h',decide_eq_false h];exact ih
theorem Uy (kn:List (aC×Int))(i:Int):cC (DN kn) (.inl i)=ae:=by
 unfold cC DN;have:((kn.map dN).find? λkd=>decide (cA kd.1=aa (.inl i)))=ae:=by
  rw[DC];intro kd m;obtain⟨p,_,rfl⟩:=bI.1 m;simp[dN,cA]
 rw[this]
 rfl
theorem KB {kn:List (aC×Int)}{z:aC}(h:cF kn z=ae)(v:Int):putD (DN kn) (.inr z) (.int v)=DN (kn++[(z,v)]):=by
 unfold putD DN;have hn:¬ ((kn.map dN).any λkd=>decide (cA kd.1=aa (.inr z)))=af:=λq=>by
  obtain⟨kd,m,e⟩:=yR.1 q;obtain⟨p,mp,rfl⟩:=bI.1 m;have e':p.1=z:=by
   have:=of_decide_eq_true e;have:=this;injection this with this;injection this
  unfold cF at h;have h2:=QV.1 h;have:=DC.1 h2 p mp;exact this (decide_eq_true e')
 rw[if_neg hn,kH]
 rfl
theorem AV {kn:List (aC×Int)}{z:aC}(h:cF kn z=ae)(v:Int)(y:aC):cF (kn++[(z,v)]) y=if y=z then aa v else cF kn y:=by
 unfold cF at *;rw[RK];by_cases e:y=z
 .subst e;rw[if_pos rfl,QV.1 h];simp
 .rw[if_neg e];have e':¬ z=y:=λq=>e q.symm
  cases q:kn.find? λp=>decide (p.1=y) with
  |none=>simp[e']
  |some p=>rfl
def eE (kn:List (aC×Int))(p:aI×Int):Option (List (aC×Int)):=match p.1 with
 |.inl i=>if p.2=i then aa kn else ae
 |.inr z=>match cF kn z with
  |some u=>if p.2=u then aa kn else ae
  |none=>aa (kn++[(z,p.2)])
theorem wV:∀ {ps:List (aI×Int)} {kn kn':List (aC×Int)},eT eE kn ps=aa kn' ->
  (∀ z u,cF kn z=aa u->cF kn' z=aa u)/\(∀ p∈ps,(∀ i,p.1=.inl i->p.2=i)/\∀ z,p.1=.inr z->cF kn' z=aa p.2)/\(∀ z u,cF kn' z=aa u->cF kn z=aa u\/∃ p∈ps,p.1=.inr z)
 |[],kn,kn',h=>by
  cases h;exact⟨λ_ _ e=>e,λ_ m=>by simp at m,λ_ _ e=>.inl e⟩
 |(.inl i,v)::ps,kn,kn',h=>by
  obtain⟨k1,e1,e2⟩:=ao (show((eE kn (.inl i,v)).bind λb'=>eT eE b' ps)=aa kn' from h)
  have e1:=e1;obtain⟨hv,rfl⟩:=cQ e1;obtain⟨a,b,c⟩:=wV e2;refine⟨a,λp m=>?_,λz u e=>(c z u e).imp id λ⟨p,m,q⟩=>⟨p,bL _ m,q⟩⟩
  rw[15]
  .exact⟨λi' q=>(by cases q;exact hv),λz q=>(by cases q)⟩
  .exact b p m
 |(.inr z,v)::ps,kn,kn',h=>by
  obtain⟨k1,e1,e2⟩:=ao (show((eE kn (.inr z,v)).bind λb'=>eT eE b' ps)=aa kn' from h)
  obtain⟨a,b,c⟩:=wV e2;cases hl:cF kn z with
  |some u=>
   have e1:(match cF kn z with|some u=>if v=u then aa kn else ae|none=>aa (kn++[(z,v)]))=aa k1:=e1
   rw[hl] at e1;obtain⟨hv,rfl⟩:=cQ e1;refine⟨a,λp m=>?_,λz' u' e=>(c z' u' e).imp id λ⟨p,m,q⟩=>⟨p,bL _ m,q⟩⟩
   rw[15]
   .exact⟨λi' q=>(by cases q),λz' q=>(by cases q;rw[a z u hl,hv])⟩
   .exact b p m
  |none=>
   have e1:(match cF kn z with|some u=>if v=u then aa kn else ae|none=>aa (kn++[(z,v)]))=aa k1:=e1
   rw[hl] at e1;cases e1;refine⟨λy u e=>a y u (by rw[AV hl,if_neg λq=>by rw[q,hl] at e;cases e];exact e),λp m=>?_,λy u e=>?_⟩
   .rw[15]
    .exact⟨λi' q=>(by cases q),λz' q=>(by cases q;exact a z v (by rw[AV hl,if_pos rfl]))⟩
    .exact b p m
   .rcases c y u e with q|⟨p,m,q⟩
    .rw[AV hl] at q;by_cases hy:y=z
     .exact .inr ⟨_,bF,by rw[hy]⟩
     .rw[if_neg hy] at q;exact .inl q
    .exact .inr ⟨p,bL _ m,q⟩
theorem AI:∀ {ps:List (aI×Int)} {kn:List (aC×Int)},(∀ p∈ps,∀ i,p.1=.inl i->p.2=i)->(∀ p∈ps,∀ z u,p.1=.inr z->cF kn z=aa u->p.2=u)->(∀ p∈ps,∀ p'∈ps,∀ z,p.1=.inr z->p'.1=.inr z->p.2=p'.2)->∃ kn',eT eE kn ps=aa kn'
 |[],kn,_,_,_=>⟨kn,rfl⟩
 |(.inl i,v)::ps,kn,h1,h2,h3=>by
  have hv:=h1 _ bF i rfl;obtain⟨kn',e⟩:=AI (λp m=>h1 p (bL _ m)) (λp m=>h2 p (bL _ m)) (λp m p' m'=>h3 p (bL _ m) p' (bL _ m'))
  refine⟨kn',?_⟩;show((if v=i then aa kn else ae).bind λb'=>eT eE b' ps)=aa kn'
  rw[if_pos hv];exact e
 |(.inr z,v)::ps,kn,h1,h2,h3=>by
  cases hl:cF kn z with
  |some u=>
   have hv:=h2 _ bF z u rfl hl;obtain⟨kn',e⟩:=AI (λp m=>h1 p (bL _ m)) (λp m=>h2 p (bL _ m)) (λp m p' m'=>h3 p (bL _ m) p' (bL _ m'))
   refine⟨kn',?_⟩;show((match cF kn z with|some u=>if v=u then aa kn else ae|none=>aa (kn++[(z,v)])).bind λb'=>eT eE b' ps)=aa kn'
   rw[hl];show((if v=u then aa kn else ae).bind λb'=>eT eE b' ps)=aa kn'
   rw[if_pos hv];exact e
  |none=>
   obtain⟨kn',e⟩:=AI (λp m=>h1 p (bL _ m)) (λp m y u q e=>by
    rw[AV hl] at e;by_cases hy:y=z
    .rw[if_pos hy] at e;cases e;exact h3 p (bL _ m) _ bF z (by rw[q,hy]) rfl
    .rw[if_neg hy] at e;exact h2 p (bL _ m) y u q e) (λp m p' m'=>h3 p (bL _ m) p' (bL _ m'))
   refine⟨kn',?_⟩;show((match cF kn z with|some u=>if v=u then aa kn else ae|none=>aa (kn++[(z,v)])).bind λb'=>eT eE b' ps)=aa kn'
   rw[hl];exact e
end L2
namespace Aw
open PySem L2
variable {n i:Nat}{y x:Bool}{z:aC}{f:EF}{Y:List (Option aA)}{b a:Int}{F:SF}{T:aA->aU->Option aU}{P:Out->Prop}{fa:AF}{R:List (List Int)}
abbrev s0 (d:aA):L2.Slot:=aa (0,d)
abbrev lI (ms:List Int):aA:=.list (ms.map aW)
def Ak1 (n:Nat)(z:aC):Prop:=cH (.str z)=af/\z.length<=n
theorem Ak1.cat {m:Nat}{y:aC}(h:Ak1 n y)(h2:Ak1 m z):Ak1 (n+m) (y++z):=⟨Bf h.1 h2.1,by
 have:(y++z).length=y.length+z.length:=by
  show(y.cps++z.cps).size=_;rw[Array.size_append];rfl
 have:=h.2;have:=h2.2;omega⟩
theorem Ak1.cut(h:Ak1 n z)(lo hi:Option Int):Ak1 n (oP z lo hi):=⟨XF lo hi h.1,dG (XO z lo hi) h.2⟩
theorem Vc {m:Nat}{y:aC}(h:Ak1 n y)(h2:Ak1 m z)(hs:n+m<=100000):cX (.str y) (.str z)=aa (.str (y++z)):=by
 show(if y.length+z.length<=sizeLine then aa (cK (y++z)) else ae)=_
 rw[if_pos (nC (by have:=h.2;have:=h2.2;omega))]
theorem Pr(h:Ak1 n z)(hn:n<=100000){lo hi:OF}{l u:Option Int}(e1:f Y=aa (.str z))(e2:lo Y=aa l)(e3:hi Y=aa u):Y0 f lo hi Y=aa (.str (oP z l u)):=by
 unfold Y0;rw[e1,bS,e2,bS,e3,bS];show(if z.length<=sizeLine then aa (cK (oP z l u)) else ae)=_
 rw[if_pos (nC (dG h.2 hn))]
theorem Ak {c:Nat}(h:cH (DZ c)=af):Ak1 1 ⟨#[c]⟩:=⟨h,bE 1⟩
theorem qY (a b:Int):gc (.int a) (.int b)=aa (.bool (decide (a=b))):=by
 congr 2
theorem Nk (p q:aA)(x:Int):bc (.list [p,q]) (.int (x%2))=aa (if x%2=0 then p else q):=by
 have h:=fU x (show(0:Int)<2 by decide)
 rcases(show x%2=0\/x%2=1 by omega) with e|e<;>rw[e]<;>rfl
theorem KC {α:Type}{q:α->aA}{xs:List α}{j:Nat}{x:α}(h:xs[j]?=aa x):bc (.list (xs.map q)) (.int j)=aa (q x):=uK (by rw[eW,h];rfl)
abbrev tK (ks:List aI):aA:=.tuple (ks.map kD)
abbrev tI (row:List Int):aA:=.tuple (row.map aW)
def vN:Option (List (aC×Int))->aA
 |none=>.none
 |some kn=>.dict (DN kn)
def JI (p:aI×Int):aA:=pairD (kD p.1) (.int p.2)
theorem XG (ks:List aI)(row:List Int):yK pairD (ks.map kD) (row.map aW)=(ks.zip row).map JI:=by
 rw[List.zipWith_map,List.zip,List.map_zipWith]
 rfl
theorem FM (k:aI):fP "str" (kD k)=aa (.bool (match k with|.inr _=>af|.inl _=>ag)):=by
 cases k<;>simp[fP,kM,uj,kD]
theorem ne_int (a b:Int):kx (.int a) (.int b)=aa (.bool (decide (a≠b))):=by
 have:cD (.int a) (.int b)=decide (a=b):=by
  rw[show cD (.int a) (.int b)=(a==b) by simp[cD],pE]
  simp
 simp[kx,cZ,noDict,jP,this]
def eD (ks:List aI)(row:List Int)(kn:List (aC×Int)):Option (List (aC×Int)):=if row.length=ks.length then eT eE kn (ks.zip row) else ae
theorem qZ (ds:List aA):cO [.tuple ds]=aa (.int ds.length):=by simp[cO]
theorem Pf {ks:List aI}{row:List Int}{g:EF}(h1:f Y=aa (tI row))(h2:g Y=aa (tK ks)) :
  ah kx (aL cO (aF f aJ)) (aL cO (aF g aJ)) Y=aa (.bool (decide (row.length≠ks.length))):=by
 refine aP (aY (bD h1 rfl) (by rw[qZ,cJ])) (aY (bD h2 rfl) (by rw[qZ,cJ])) ?_
 rw[ne_int]
 congr 2
 rw[pE];simp;omega
theorem eI{b:Bool}(h:f Y=aa (.bool b)):aw f Y=aa b:=by
 unfold aw;rw[h]
 rfl
theorem B8 (L:L2.Slot)(R K:L2.Slot)(kn:List (aC×Int))(vq:kn.length<=1000)(p:aI×Int)(x6:L2.Slot) :
  Goes (aT (yl 6 3 .s (aw (iw (fP "str") (aB 4))) .s (aB 4) .s (aB 5) .s (aB 4)) (fj .s (aw (ah kx (aB 5) (aB 6))) (cN 1 .s (eC .none)) dY)) [L,R,K,aa (1,.dict (DN kn)),aa (0,kD p.1),aa (0,.int p.2),x6]
   (CB (λkn' ρ'=>∃ x4 x5 x6:L2.Slot,ρ'=[L,R,K,aa (1,.dict (DN kn')),x4,x5,x6]) .none (eE kn p)):=by
 have lz:(DN kn).length<sizeLine:=uH (by simp[DN];omega)
 obtain⟨t,v⟩:=p;cases t with
 |inl i=>
  have e1:yl 6 3 .s (aw (iw (fP "str") (aB 4))) .s (aB 4) .s (aB 5) .s (aB 4) [L,R,K,aa (1,.dict (DN kn)),aa (0,.int i),aa (0,.int v),x6]=aa (.nx [L,R,K,aa (1,.dict (DN kn)),aa (0,.int i),aa (0,.int v),aa (0,.int i)]):=by
   have b:bV .s (aw (iw (fP "str") (aB 4))) [L,R,K,aa (1,.dict (DN kn)),aa (0,.int i),aa (0,.int v),x6]=aa ag:=eI (xU (a:=.int i) rfl (FM (.inl i)));unfold yl;rw[b,bS,if_neg lX]
   rfl
  refine fE e1 ?_;have e2:bV .s (aw (ah kx (aB 5) (aB 6))) [L,R,K,aa (1,.dict (DN kn)),aa (0,.int i),aa (0,.int v),aa (0,.int i)]=aa (decide (v≠i)):=eI (aP (a:=.int v) (b:=.int i) rfl rfl (ne_int v i));by_cases h:v=i
  .refine jY (e2.trans (by simp[h])) (mH ?_)
   show CB _ _ (if v=i then aa kn else ae) _
   rw[if_pos h];exact⟨_,.inl rfl,_,_,_,rfl⟩
  .refine fJ (e2.trans (by simp[h])) (dA (d:=.none) rfl ?_)
   show CB _ _ (if v=i then aa kn else ae) _
   rw[if_neg h]
   rfl
 |inr z=>
  have b:bV .s (aw (iw (fP "str") (aB 4))) [L,R,K,aa (1,.dict (DN kn)),aa (0,.str z),aa (0,.int v),x6]=aa af:=eI (xU (a:=.str z) rfl (FM (.inr z)));cases hl:cF kn z with
  |some u=>
   have e1:yl 6 3 .s (aw (iw (fP "str") (aB 4))) .s (aB 4) .s (aB 5) .s (aB 4) [L,R,K,aa (1,.dict (DN kn)),aa (0,.str z),aa (0,.int v),x6]=aa (.nx [L,R,K,aa (1,.dict (DN kn)),aa (0,.str z),aa (0,.int v),aa (0,.int u)]):=by
    unfold yl;rw[b,bS,if_pos rfl];show(if 6<7/\(DN kn).length<sizeLine then aa (Out.nx (match cC (DN kn) (.inr z) with
     |some u=>[L,R,K,aa (1,.dict (DN kn)),aa (0,.str z),aa (0,.int v),aa (0,u)]
     | none=>[L,R,K,aa (1,.dict (putD (DN kn) (.inr z) (.int v))),aa (0,.str z),aa (0,.int v),aa (0,.int v)])) else ae)=_
    rw[if_pos ⟨by omega,lz⟩,AA,hl]
    rfl
   refine fE e1 ?_;have e2:bV .s (aw (ah kx (aB 5) (aB 6))) [L,R,K,aa (1,.dict (DN kn)),aa (0,.str z),aa (0,.int v),aa (0,.int u)]=aa (decide (v≠u)):=eI (aP (a:=.int v) (b:=.int u) rfl rfl (ne_int v u));have ef:eE kn (.inr z,v)=if v=u then aa kn else ae:=by
    show(match cF kn z with|some u=>if v=u then aa kn else ae|none=>aa (kn++[(z,v)]))=_
    rw[hl]
   rw[ef];by_cases h:v=u
   .refine jY (e2.trans (by simp[h])) (mH ?_)
    rw[if_pos h];exact⟨_,.inl rfl,_,_,_,rfl⟩
   .refine fJ (e2.trans (by simp[h])) (dA (d:=.none) rfl ?_)
    rw[if_neg h]
    rfl
  |none=>
   have e1:yl 6 3 .s (aw (iw (fP "str") (aB 4))) .s (aB 4) .s (aB 5) .s (aB 4) [L,R,K,aa (1,.dict (DN kn)),aa (0,.str z),aa (0,.int v),x6]=aa (.nx [L,R,K,aa (1,.dict (DN (kn++[(z,v)]))),aa (0,.str z),aa (0,.int v),aa (0,.int v)]):=by
    unfold yl;rw[b,bS,if_pos rfl];show(if 6<7/\(DN kn).length<sizeLine then aa (Out.nx (match cC (DN kn) (.inr z) with
     |some u=>[L,R,K,aa (1,.dict (DN kn)),aa (0,.str z),aa (0,.int v),aa (0,u)]
     | none=>[L,R,K,aa (1,.dict (putD (DN kn) (.inr z) (.int v))),aa (0,.str z),aa (0,.int v),aa (0,.int v)])) else ae)=_
    rw[if_pos ⟨by omega,lz⟩,AA,hl,KB hl]
    rfl
   refine fE e1 ?_;have e2:bV .s (aw (ah kx (aB 5) (aB 6))) [L,R,K,aa (1,.dict (DN (kn++[(z,v)]))),aa (0,.str z),aa (0,.int v),aa (0,.int v)]=aa (decide (v≠v)):=eI (aP (a:=.int v) (b:=.int v) rfl rfl (ne_int v v));have ef:eE kn (.inr z,v)=aa (kn++[(z,v)]):=by
    show(match cF kn z with|some u=>if v=u then aa kn else ae|none=>aa (kn++[(z,v)]))=_
    rw[hl]
   rw[ef];exact jY (e2.trans (by simp)) (mH ⟨_,.inl rfl,_,_,_,rfl⟩)
theorem FW:∀ {ps:List (aI×Int)} {kn kn':List (aC×Int)},eT eE kn ps=aa kn'->kn'.length<=kn.length+ps.length
 |[],kn,kn',h=>by cases h;simp
 |p::ps,kn,kn',h=>by
  obtain⟨k1,e1,e2⟩:=ao (show((eE kn p).bind λb'=>eT eE b' ps)=aa kn' from h)
  have h1:=FW e2;have h2:k1.length<=kn.length+1:=by
   unfold eE at e1;split at e1
   .obtain⟨_,rfl⟩:=cQ e1;omega
   .split at e1
    .obtain⟨_,rfl⟩:=cQ e1;omega
    .cases e1;simp
  rw[fY];omega
theorem V' (kn:List (aC×Int)):ik (DN kn)=af:=ET λkd m=>by
 obtain⟨p,_,rfl⟩:=bI.1 m;exact λq=>nomatch q
theorem Dk {c:Prop}[Decidable c]{α:Type}{a:Option α}{b:α}(h:(if c then a else ae)=aa b):c/\a=aa b:=by
 by_cases q:c
 .rw[if_pos q] at h;exact⟨q,h⟩
 .rw[if_neg q] at h;cases h
def putN (kn:List (aC×Int))(z:aC)(v:Int):List (aC×Int):=if (cF kn z).isSome=af then kn.map λp=>if p.1=z then(p.1,v) else p else kn++[(z,v)]
theorem Ou (kn:List (aC×Int))(z:aC)(v:Int):putD (DN kn) (.inr z) (.int v)=DN (putN kn z v):=by
 unfold putN;cases h:cF kn z with
 |none=>exact KB h v
 |some u=>
  rw[if_pos (show(aa u).isSome=af from rfl)]
  unfold putD DN;have hy:((kn.map dN).any λkd=>decide (cA kd.1=aa (.inr z)))=af:=by
   unfold cF at h;obtain⟨p,e,_⟩:=kF.1 h;refine yR.2 ⟨dN p,bI.2 ⟨p,RF e,rfl⟩,?_⟩;have:p.1=z:=by simpa using Ig e
   show decide (aa (gE p.1:aI)=aa (gE z))=af;rw[this];simp
  rw[if_pos hy,eP,eP];refine qA λp _=>?_
  show(if aa (gE p.1:aI)=aa (gE z) then((dN p).1,aW v) else dN p)=dN (if p.1=z then(p.1,v) else p)
  by_cases e:p.1=z
  .rw[if_pos (by rw[e]),if_pos e];rfl
  .rw[if_neg (λq=>e (by injection q with q;injection q)),if_neg e]
theorem ZW (kn:List (aC×Int))(z y:aC)(v:Int):cF (putN kn z v) y=if y=z then aa v else cF kn y:=by
 unfold putN;cases h:cF kn z with
 |none=>rw[if_neg (by simp)];exact AV h v y
 |some u=>
  rw[if_pos (show(aa u).isSome=af from rfl)]
  induction kn with
  |nil=>cases h
  |cons p r ih=>
   unfold cF at h ⊢;rw[dI,fN,fN];rw[fN] at h;have key:((if p.1=z then(p.1,v) else p).1:aC)=p.1:=by split<;>rfl
   by_cases hp:p.1=z
   .rw[if_pos hp];by_cases hy:y=z
    .have:p.1=y:=by rw[hp,hy]
     simp[this,hy]
    .have n1:¬ p.1=y:=λq=>hy (by rw[<-q,hp])
     rw[decide_eq_false n1,if_neg hy];have gen:∀ r:List (aC×Int),(((r.map λp=>if p.1=z then(p.1,v) else p).find? λp=>decide (p.1=y)).map (·.2))=(r.find? λp=>decide (p.1=y)).map (·.2):=λr=>by
      induction r with
      |nil=>rfl
      |cons q t ih=>
       rw[dI,fN,fN];by_cases hq:q.1=z
       .rw[if_pos hq];have n2:¬ q.1=y:=λe=>hy (by rw[<-e,hq])
        rw[decide_eq_false n2];exact ih
       .rw[if_neg hq];cases decide (q.1=y) with
        |true=>rfl
        |false=>exact ih
     exact gen r
   .rw[if_neg hp];rw[decide_eq_false hp] at h;by_cases hy:p.1=y
    .have n3:¬ y=z:=λq=>hp (by rw[hy,q])
     simp[hy,n3]
    .rw[decide_eq_false hy];exact ih h
def IW (I:aU->Prop)(t:Option aA)(o:Out):Prop:=match t with
 |some r=>o=.rt r
 |none=>∃ ρ2,o=.nx ρ2/\I ρ2
def UA (I:aU->Prop)(t:Option aA)(o:Out):Prop:=match t with
 |some r=>o=.rt r
 |none=>∃ ρ2,(o=.nx ρ2\/o=.ct ρ2)/\I ρ2
theorem VD{α:Type}{q:α->aA}(I:aU->Prop)(g:α->Option aA):∀ {xs:List α} {Y:aU},I Y ->
  (∀ x∈xs,∀ Y,I Y->∃ ρ1,T (q x) Y=aa ρ1/\Goes F ρ1 (UA I (g x)))->∃ o,jV F T (xs.map q) Y=aa o/\IW I (xs.findSome? g) o
 |[],Y,h0,_=>⟨_,rfl,Y,rfl,h0⟩
 |x::xs,Y,h0,step=>by
  obtain⟨ρ1,e1,o,e2,h⟩:=step x bF Y h0;have e:jV F T ((x::xs).map q) Y=aft F T (xs.map q) o:=by
   show((T (q x) Y).bind λρ1=>(F ρ1).bind λo=>_)=_
   rw[e1,bS,e2,bS];cases o<;>rfl
  rw[e,ID];cases hg:g x with
  |some r=>
   rw[hg] at h;have h:=h;subst h;exact⟨_,rfl,rfl⟩
  |none=>
   rw[hg] at h;obtain⟨ρ2,ho,i2⟩:=h;obtain⟨o',e',h'⟩:=VD I g i2 λy m=>step y (bL _ m)
   rcases ho with rfl|rfl
   .exact⟨o',e',h'⟩
   .exact⟨o',e',h'⟩
theorem Ff {m:Md}{Y:aU}{α:Type}{fi:AF}{xs:List α}{q:α->aA}(I:aU->Prop)(g:α->Option aA)(h:aV m fi Y=aa (xs.map q))(h0:I Y)
  (step:∀ x∈xs,∀ Y,I Y->∃ ρ1,T (q x) Y=aa ρ1/\Goes F ρ1 (UA I (g x))):Goes (dD m fi T F) Y (IW I (xs.findSome? g)):=by
 obtain⟨o,e,h'⟩:=VD I g h0 step;exact⟨o,KU h e,h'⟩
theorem Dx {G:SF}{Y:aU}(I:aU->Prop)(t:Option aA)(h:Goes F Y (IW I t))(k1:∀ r,t=aa r->P (.rt r))(k2:t=ae->∀ ρ',I ρ'->Goes G ρ' P):Goes (aT F G) Y P:=by
 obtain⟨o,e,h⟩:=h;cases t with
 |some r=>
  have h:=h;subst h;exact KW e (k1 r rfl)
 |none=>
  obtain⟨ρ2,rfl,i2⟩:=h;exact fE e (k2 rfl ρ2 i2)
theorem De {α β:Type}{f g:α->Option β}:∀ {xs:List α},(∀ x∈xs,f x=g x)->xs.findSome? f=xs.findSome? g
 |[],_=>rfl
 |x::xs,h=>by
  rw[ID,ID,h x bF,De λy m=>h y (bL _ m)]
theorem getD_some {α:Type}{xs:List α}(d0:α)(h:i<xs.length):xs[i]?=aa (xs.getD i d0):=by
 rw[kI,fA h]
 rfl
theorem getD_mem {α:Type}{xs:List α}(d0:α)(h:i<xs.length):xs.getD i d0∈xs:=fH (getD_some d0 h)
theorem Rb {a b:EF}(h:a Y=aa (.bool x))(h2:x=af->b Y=aa (.bool y)):rV a b Y=aa (.bool (x&&y)):=by
 unfold rV;cases x with
 |true=>rw[h,bS,show su (.bool af)=aa af from rfl,bS,if_pos rfl,h2 rfl];rfl
 |false=>rw[h,bS,show su (.bool ag)=aa ag from rfl,bS,if_neg (by simp)];rfl
theorem EK{ds:List aA}(h:fa Y=aa ds)(hl:ds.length<=1000:=by simp):jU fa Y=aa (.tuple ds):=by
 unfold jU;rw[h,bS,if_pos (nC (by omega))]
theorem sF{ds:List aA}(h:fa Y=aa ds)(hl:ds.length<=1000:=by simp):dJ fa Y=aa (.list ds):=by
 unfold dJ;rw[h,bS,if_pos (nC (by omega))]
abbrev Ln:=aC×List aI
def bA (l:Ln):aA:=.tuple [.str l.1,.tuple (l.2.map kD)]
abbrev cn:Ln:=("",[])
theorem Ys (xs:List aI):noDicts (xs.map kD)=af:=wZ λt m=>by
 obtain⟨x,_,rfl⟩:=bI.1 m;cases x<;>rfl
def xo:aA->Int
 |.int i=>i
 |_=>0
theorem uF (r:List Int):(r.map aW).map xo=r:=by
 rw[eP];have:(xo∘aW)=id:=rfl;rw[this,List.map_id]
theorem AE (r:List Int):bR (r.map aW)=af:=FZ λt m=>by
 obtain⟨i,_,rfl⟩:=bI.1 m
 rfl
theorem GK (r:List Int):cL (r.map aW)<=1:=wX λt m=>by
 obtain⟨i,_,rfl⟩:=bI.1 m;simp[jP]
theorem MD (r:List Int):cZ (bC r)=af:=by
 have h1:noDicts (r.map aW)=af:=wZ λt m=>by
  obtain⟨i,_,rfl⟩:=bI.1 m
  rfl
 have h2:cL (r.map aW)<=1:=wX λt m=>by
  obtain⟨i,_,rfl⟩:=bI.1 m;simp[jP]
 simp[cZ,bC,noDict,h1,jP];omega
theorem Qo {a b:List Int}(h:bC a=bC b):a=b:=by
 have h:=CP h;exact(uF a).symm.trans ((congrArg (List.map xo) h).trans (uF b))
theorem FN (a b:List Int):cD (bC a) (bC b)=decide (a=b):=by
 rw[LO _ _ (LG a) (LG b),decide_eq_decide];exact⟨Qo,λe=>by rw[e]⟩
def vf (R:List (List Int)):List (List Int):=(gW (R.map λr=>r.map aW)).map λk=>k.map xo
theorem MB (R:List (List Int)):(vf R).Perm R:=by
 have h:=(uP (R.map λr=>r.map aW)).map λk=>k.map xo
 rw[eP] at h;have e:(R.map ((λk=>k.map xo)∘λr=>r.map aW))=R:=by
  have:((λk=>k.map xo)∘λr=>r.map aW)=(id:List Int->List Int):=by funext r;exact uF r
  rw[this,List.map_id]
 rw[e] at h;exact h
theorem KF{r:List Int}:r∈vf R↔r∈R:=(MB R).mem_iff
theorem Du (R:List (List Int)):(vf R).length=R.length:=(MB R).length_eq
theorem ZZ (R:List (List Int)):jS (R.map bC)=aa (R.map λr=>r.map aW):=by
 have:=Dy (kss:=R.map λr=>r.map aW) λk m=>by
  obtain⟨r,_,rfl⟩:=bI.1 m;have:=GK r;exact⟨AE r,by omega⟩
 rw[eP] at this;exact this
theorem MK:∀ (a b:List Int),a.length=b.length->iB (a.map aW) (b.map aW)=af
 |[],[],_=>rfl
 |x::a,y::b,h=>MK a b (by simpa using h)
 |[],_::_,h=>by simp at h
 |_::_,[],h=>by simp at h
theorem JT(hn:1<=n)(hw:∀ r∈R,r.length=n)(hl:R.length<64):vW [aX R]=aa (aX (vf R)):=by
 show((jS (R.map bC)).bind λkss=>if lh kss=af/\kss.length<64 then aa (rN ((gW kss).map cV)) else ae)=_
 rw[ZZ,bS];have ok:lh (R.map λr=>r.map aW)=af:=by
  unfold lh;rw[Bool.or_eq_true_iff];refine .inr (jR.2 ⟨eB.2 λk mk=>eB.2 λk' mk'=>?_,eB.2 λk mk=>?_⟩)
  .obtain⟨a,ma,rfl⟩:=bI.1 mk;obtain⟨b,mb,rfl⟩:=bI.1 mk';exact MK a b ((hw a ma).trans (hw b mb).symm)
  .obtain⟨a,ma,rfl⟩:=bI.1 mk;have:=hw a ma;cases a with
   |nil=>simp at this;omega
   |cons x r=>rfl
 rw[if_pos ⟨ok,by rw[cJ];exact hl⟩]
 unfold aX vf;rw[eP]
 congr 2
 refine qA λk mk=>?_
 obtain⟨a,_,rfl⟩:=bI.1 ((uP _).mem_iff.1 mk);show _=cV (((a.map aW).map xo).map aW);rw[uF]
structure Bk (kds:List (aA×aA))(B:aC->List (List Int))(wd:aC->Nat):Prop where
 pl:ik kds=af
 at_:∀ t,(cC kds (.inr t)).getD (.list [])=aX (B t)
 few:∀ t,(B t).length<64
 pos:∀ t,1<=wd t
 wid:∀ t,∀ r∈B t,r.length=wd t
theorem Bk.get {kds:List (aA×aA)}{B:aC->List (List Int)}{wd:aC->Nat}(b:Bk kds B wd){fd fk:EF}{t:aC}(h1:fd Y=aa (.dict kds))(h2:fk Y=aa (.str t)):iP fd fk (dJ aJ) Y=aa (aX (B t)):=by
 rw[FL h1 h2 rfl rfl b.pl,b.at_]
theorem fQ (c:Int)(n:Nat)(h:0<n):cR (.int c) (.int n)=aa (.int (c%n)):=by
 show(if 0<(n:Int) then aa (aW (c%(n:Int))) else ae)=_
 rw[if_pos (by omega)]
theorem mX (c:Int)(n:Nat)(h:0<n)(h2:n<1000:=by omega):eX (.int c) (.int n)=aa (.int (c/n)):=by
 show(if 0<(n:Int)/\(n:Int)<1073741824 then aa (aW (c/(n:Int))) else ae)=_
 rw[if_pos (by omega)]
theorem tV(h:a.natAbs<2^64):gX (.int a) (.int b)=aa (.int (a*b)):=by
 show(if (a.natAbs<2^64\/b.natAbs<2^64)\/(a.natAbs<2^1000/\b.natAbs<2^1000) then aa (aW (a*b)) else ae)=_
 rw[if_pos (.inl (.inl h))]
theorem mul_r(h:b.natAbs<2^64):gX (.int a) (.int b)=aa (.int (a*b)):=by
 show(if (a.natAbs<2^64\/b.natAbs<2^64)\/(a.natAbs<2^1000/\b.natAbs<2^1000) then aa (aW (a*b)) else ae)=_
 rw[if_pos (.inl (.inr h))]
theorem Lr(h:a.natAbs<2^200)(h2:b.natAbs<2^200):gX (.int a) (.int b)=aa (.int (a*b)):=by
 show(if (a.natAbs<2^64\/b.natAbs<2^64)\/(a.natAbs<2^1000/\b.natAbs<2^1000) then aa (aW (a*b)) else ae)=_
 have hp:(2:Nat)^200<=2^1000:=Hi (by decide) (by decide)
 rw[if_pos (.inr ⟨iV h hp,iV h2 hp⟩)]
theorem Sg {k:Nat}(h:k<=100):pT (.int 10) (.int k)=aa (.int (10^k)):=by
 show(if 0<=(k:Int)/\(k:Int)<=1000000/\(10:Int).natAbs<2^64 then aa (aW (10^(k:Int).toNat)) else ae)=_
 rw[if_pos ⟨by omega,by omega,by decide⟩]
 rfl
theorem Ar:((10:Int)^35).natAbs<2^200:=by decide
abbrev vy (r:List Int):aA:=.list (r.map aW)
theorem Ec {a b:BF}(h:a Y=aa x)(h2:x=af->b Y=aa y):mN a b Y=aa (x&&y):=by
 unfold mN;rw[h];cases x with
 |true=>exact h2 rfl
 |false=>rfl
theorem VJ {a b:BF}(h:a Y=aa x)(h2:x=ag->b Y=aa y):xp a b Y=aa (x||y):=by
 unfold xp;rw[h];cases x with
 |true=>rfl
 |false=>exact h2 rfl
theorem FH(h:f Y=aa (.bool x)):mL (aw f) Y=aa (!x):=by
 unfold mL;rw[eI h]
 rfl
theorem LZ (r:List Int):fR (bC r)=af:=by
 show qW (r.map aW)=af;rw[Bu,eB];intro d m;obtain⟨i,_,rfl⟩:=bI.1 m
 rfl
theorem GR (R:List (List Int)):noDicts (R.map bC)=af:=wZ λt m=>by
 obtain⟨r,_,rfl⟩:=bI.1 m;have:=MD r;unfold cZ at this;exact(jR.1 this).1
theorem Fy (neg:Bool)(r:List Int)(R:List (List Int)):oh neg (bC r) (aX R)=aa (.bool (neg != decide (r∈R))):=by
 show(if (cZ (bC r)&&noDicts (R.map bC))=af then aa (kW (neg != (R.map bC).any λz=>cD z (bC r))) else ae)=_
 rw[MD,GR,IL,if_pos rfl];have:((R.map bC).any λz=>cD z (bC r))=decide (r∈R):=by
  rw[List.any_map];by_cases h:r∈R
  .rw[decide_eq_true h];exact yR.2 ⟨r,h,by simp[FN]⟩
  .rw[decide_eq_false h,Ij];intro x mx;simp only[Function.comp,FN,decide_eq_true_eq];exact λe=>h (e ▸ mx)
 rw[this]
theorem UB{x y:aA}{xs ys:List aA}(h:fa Y=aa [x,y])(hx:qV x=aa xs)(hy:qV y=aa ys):iZ fa Y=aa (yK pairD xs ys):=by
 unfold iZ;rw[h];show((qV x).bind λxs=>(qV y).bind λys=>aa (yK pairD xs ys))=_
 rw[hx,hy]
 rfl
abbrev Tb:=aC×List (List Int)
def ba (L:List Tb):List (aA×aA):=L.map λp=>(cK p.1,aX p.2)
theorem zW {Y:aU}{d:aA}(h:Y[i]?=aa (aa (n,d)))(k:P (.rt d)):Goes (jX i n) Y P:=⟨_,by
 unfold jX;rw[h];show(if n=n then aa (Out.rt d) else ae)=_
 rw[if_pos rfl],k⟩
theorem XS (a:List Int):(bC a).depth<=2:=by
 have:=GK a;show cL (a.map aW)+1<=2;omega
theorem Pq (R:List (List Int)):cZ (aX R)=af:=by
 have h2:cL (R.map bC)<=2:=wX λt m=>by
  obtain⟨r,_,rfl⟩:=bI.1 m;exact XS r
 unfold cZ;show(noDicts (R.map bC)&&decide (cL (R.map bC)+1<=60))=af;rw[GR,decide_eq_true (by omega)]
 rfl
def bg (L:List Tb)(t:aC):List (List Int):=((L.find? λp=>decide (p.1=t)).map (·.2)).getD []
theorem FY (t:aC):∀ L:List Tb,cC (ba L) (.inr t)=(L.find? λp=>decide (p.1=t)).map λp=>aX p.2
 |[]=>rfl
 |p::L=>by
  show cC ((.str p.1,aX p.2)::ba L) (.inr t)=_;rw[NF,fN];by_cases h:p.1=t
  .rw[if_pos (by rw[h];rfl),decide_eq_true h];rfl
  .rw[if_neg (λe=>h (by injection e with e;injection e)),decide_eq_false h,FY t L]
theorem Mu (L:List Tb)(t:aC):(cC (ba L) (.inr t)).getD (.list [])=aX (bg L t):=by
 rw[FY];unfold bg;cases L.find? λp=>decide (p.1=t)<;>rfl
theorem VO (L:List Tb):ik (ba L)=af:=ET λkd m=>by
 obtain⟨p,_,rfl⟩:=bI.1 m;exact λq=>nomatch q
theorem Qt {L:List Tb}{t:aC}{r:List Int}(h:r∈bg L t):∃ p∈L,p.1=t/\p.2=bg L t:=by
 unfold bg at h ⊢;cases e:L.find? λp=>decide (p.1=t) with
 |none=>rw[e] at h;simp at h
 |some p=>
  have h2:=Ig e;exact⟨p,RF e,by simpa using h2,rfl⟩
theorem Nm {L:List Tb}{t:aC}(h:t∉L.map (·.1)):bg L t=[]:=by
 unfold bg;rw[DC.2 λp m=>by
  simp only[decide_eq_true_eq];exact λe=>h (bI.2 ⟨p,m,e⟩)]
 rfl
theorem Oy {L:List Tb}(nd:(L.map (·.1)).Nodup):KnR (λd=>∃ T:List (List Int),d=aX T) (ba L):=by
 refine⟨λkd m=>?_,?_⟩
 .obtain⟨p,_,rfl⟩:=bI.1 m;exact⟨⟨_,rfl⟩,_,rfl⟩
 .unfold ba;rw[eP,show((λx=>x.1)∘λ(p:Tb)=>(cK p.1,aX p.2))=cK∘(·.1) from rfl,<-eP]
  exact(yL.2 (nd.imp λh e=>h (by injection e)))
theorem Pa {L:List Tb}(nd:(L.map (·.1)).Nodup):tM af (.dict (ba L)) (.dict (ba L))=aa (.bool ag):=
 (Oy nd).eqK (λd ⟨T,e⟩=>by rw[e];exact A1 T) (λd ⟨T,e⟩=>by rw[e];exact Pq T) af
def jB:List Tb->aC->List (List Int)->List Tb
 |[],_,_=>[]
 |p::L,t,R=>if p.1=t then(p.1,R)::L else p::jB L t R
theorem Fd (t:aC)(R:List (List Int)):∀ L:List Tb,qK (ba L) (.inr t) (aX R)=ba (jB L t R)
 |[]=>rfl
 |p::L=>by
  show(if cA (.str p.1)=aa (.inr t) then(cK p.1,aX R)::ba L else(cK p.1,aX p.2)::qK (ba L) (.inr t) (aX R))=ba (if p.1=t then(p.1,R)::L else p::jB L t R)
  by_cases h:p.1=t
  .rw[if_pos (by rw[h];rfl),if_pos h];rfl
  .rw[if_neg (λe=>h (by injection e with e;injection e)),if_neg h,Fd t R L];rfl
theorem LB (t:aC)(R:List (List Int)):∀ L:List Tb,(jB L t R).map (·.1)=L.map (·.1)
 |[]=>rfl
 |p::L=>by
  show(if p.1=t then(p.1,R)::L else p::jB L t R).map (·.1)=_
  by_cases h:p.1=t
  .rw[if_pos h];rfl
  .rw[if_neg h,dI,LB t R L];rfl
theorem FA {t:aC}:∀ {L:List Tb} {p:Tb},p∈jB L t R->p∈L\/(p.1=t/\p.2=R)
 |[],p,m=>by simp[jB] at m
 |q::L,p,m=>by
  have m:p∈(if q.1=t then(q.1,R)::L else q::jB L t R):=m
  by_cases h:q.1=t
  .rw[if_pos h] at m;rw[15]
   .exact .inr ⟨h,rfl⟩
   .exact .inl (bL _ m)
  .rw[if_neg h] at m;rw[15]
   .exact .inl bF
   .exact(FA m).imp (bL _) id
theorem Qq {Y ρ':aU}{G:SF}{d:aA}(h:f (vS Y)=aa d)(hT:T d Y=aa ρ')(k:Goes G ρ' P):Goes (aT (EB .s f T) G) Y P:=fE (by
 have e:eV 0 .s f Y=aa d:=h;unfold EB;rw[e,bS,hT]
 rfl) k
theorem find_key {L:List Tb}{t:aC}(h:t∈L.map (·.1)):∃ p,(L.find? λp=>decide (p.1=t))=aa p:=by
 cases e:L.find? λp=>decide (p.1=t) with
 |some p=>exact⟨p,rfl⟩
 |none=>
  obtain⟨p,mp,ep⟩:=bI.1 h;have:=DC.1 e p mp;simp[ep] at this
theorem Bv {L:List Tb}{t:aC}(h:t∉L.map (·.1)):(L.find? λp=>decide (p.1=t))=ae:=DC.2 λp m=>by
 simp only[decide_eq_true_eq];exact λe=>h (bI.2 ⟨p,m,e⟩)
theorem sI {L:List Tb}{t:aC}(h:t∈L.map (·.1)):cC (ba L) (.inr t)=aa (aX (bg L t)):=by
 obtain⟨p,e⟩:=find_key h;rw[FY];unfold bg;rw[e]
 rfl
end Aw
namespace L2
open PySem PySem.Spec PyProof.Rows
variable {k j e p:Nat}{l:List aI}{v u:aC->Int}{S R:Nat->Prop}{r:List Int}{zs:List aC}
def tv (v:aC->Int):aI->Int
 |.inl i=>i
 |.inr z=>v z
section
variable {ls:Nat->List aI}
abbrev fO:=Nat->List Int->Prop
def yV (ls:Nat->List aI)(S:Nat->Prop)(T:fO)(v:aC->Int):Prop:=∀ k,S k->T k ((ls k).map (tv v))
def Gd (ls:Nat->List aI)(S:Nat->Prop)(T:fO)(k:Nat)(r:List Int):Prop:=∃ v,yV ls S T v/\r=(ls k).map (tv v)
def DR (a b:List aI)(U:List Int->Prop)(r:List Int):Prop:=∃ u u',r=a.map (tv u)/\U (b.map (tv u'))/\∀ z,(.inr z:aI)∈a->(.inr z:aI)∈b->u z=u' z
def vT (T:fO)(k:Nat)(U:List Int->Prop):fO:=λj=>if j=k then U else T j
theorem ER (T:fO)(k:Nat)(U:List Int->Prop):vT T k U k=U:=if_pos rfl
theorem wB {T:fO}{U:List Int->Prop}(h:j≠k):vT T k U j=T j:=if_neg h
def yZ (ls:Nat->List aI)(S:Nat->Prop)(e p:Nat):Prop:=S e/\S p/\e≠p/\∀ z,(.inr z:aI)∈ls e->∀ k,S k->k≠e->(.inr z:aI)∈ls k->(.inr z:aI)∈ls p
def less (S:Nat->Prop)(e:Nat):Nat->Prop:=λk=>S k/\k≠e
def uz (ls:Nat->List aI)(T:fO)(e p:Nat):fO:=vT T p λr=>T p r/\DR (ls p) (ls e) (T e) r
def V7 (ls:Nat->List aI)(T:fO)(e p:Nat):fO:=vT T e λr=>T e r/\DR (ls e) (ls p) (T p) r
theorem LX(h:l.map (tv v)=l.map (tv u)){z:aC}(m:(.inr z:aI)∈l):v z=u z:=List.map_inj_left.1 h _ m
theorem FC(h:∀ z,(.inr z:aI)∈l->v z=u z):l.map (tv v)=l.map (tv u):=qA λk m=>by
 cases k with
 |inl i=>rfl
 |inr z=>exact h z m
open Classical in
theorem glue(E:yZ ls S e p)(hp:∀ z,(.inr z:aI)∈ls e->(.inr z:aI)∈ls p->v z=u z):∃ v2:aC->Int,(∀ k,less S e k->(ls k).map (tv v2)=(ls k).map (tv v))/\(ls e).map (tv v2)=(ls e).map (tv u):=by
 refine⟨λz=>if (.inr z:aI)∈ls e then u z else v z,λk hk=>FC λz mz=>?_,FC λz mz=>if_pos mz⟩
 by_cases m:(.inr z:aI)∈ls e
 .rw[if_pos m];exact(hp z m (E.2.2.2 z m k hk.1 hk.2 mz)).symm
 .rw[if_neg m]
theorem VH{T:fO}(E:yZ ls S e p)(h:yV ls S T v):yV ls (less S e) (uz ls T e p) v:=λk hk=>by
 by_cases q:k=p
 .subst q;unfold uz;rw[ER];exact⟨h k E.2.1,v,v,rfl,h e E.1,λ_ _ _=>rfl⟩
 .unfold uz;rw[wB q];exact h k hk.1
theorem UU {T:fO}(h:uz ls T e p k r):T k r:=by
 unfold uz at h;by_cases q:k=p
 .subst q;rw[ER] at h;exact h.1
 .rwa [wB q] at h
theorem Mg{T:fO}(E:yZ ls S e p)(h:yV ls (less S e) (uz ls T e p) v):∃ v2,yV ls S T v2/\∀ k,less S e k->(ls k).map (tv v2)=(ls k).map (tv v):=by
 have hp:=h p ⟨E.2.1,hW E.2.2.1⟩;unfold uz at hp;rw[ER] at hp;obtain⟨_,u,u',h1,h2,h3⟩:=hp;obtain⟨v2,a,b⟩:=glue E λz m1 m2=>(LX h1 m2).trans (h3 z m2 m1)
 refine⟨v2,λk hk=>?_,a⟩
 by_cases q:k=e
 .rw[q,b];exact h2
 .rw[a k ⟨hk,q⟩];exact UU (h k ⟨hk,q⟩)
theorem o5{T Tn:fO}(E:yZ ls S e p)(hn:∀ k,less S e k->∀ r,Tn k r↔Gd ls (less S e) (uz ls T e p) k r)(he:∀ r,Tn e r↔T e r):∀ k,S k->∀ r,V7 ls Tn e p k r↔Gd ls S T k r:=λk hk r=>by
 have lp:less S e p:=⟨E.2.1,hW E.2.2.1⟩;by_cases q:k=e
 .subst q;unfold V7;rw[ER];constructor
  .rintro⟨h0,u,u',rfl,h2,h3⟩;obtain⟨v,hv,h4⟩:=(hn p lp _).1 h2;obtain⟨v2,a,b⟩:=glue E λz m1 m2=>(LX h4 m2).symm.trans (h3 z m1 m2).symm
   refine⟨v2,λj hj=>?_,b.symm⟩
   by_cases q:j=k
   .rw[q,b];exact(he _).1 h0
   .rw[a j ⟨hj,q⟩];exact UU (hv j ⟨hj,q⟩)
  .rintro⟨v,hv,rfl⟩;exact⟨(he _).2 (hv k hk),v,v,rfl,(hn p lp _).2 ⟨v,VH E hv,rfl⟩,λ_ _ _=>rfl⟩
 .unfold V7;rw[wB q,hn k ⟨hk,q⟩];constructor
  .rintro⟨v,hv,rfl⟩;obtain⟨v2,h2,a⟩:=Mg E hv;exact⟨v2,h2,(a k ⟨hk,q⟩).symm⟩
  .rintro⟨v,hv,rfl⟩;exact⟨v,VH E hv,rfl⟩
def vX (ls:Nat->List aI):(Nat->Prop)->List (Nat×Nat)->(Nat->Prop)->Prop
 |S,[],R=>∀ k,S k↔R k
 |S,q::es,R=>yZ ls S q.1 q.2/\vX ls (less S q.1) es R
def M5 (ls:Nat->List aI)(T:fO)(es:List (Nat×Nat)):fO:=es.foldl (λT q=>uz ls T q.1 q.2) T
def O0 (ls:Nat->List aI)(T:fO)(es:List (Nat×Nat)):fO:=es.reverse.foldl (λT q=>V7 ls T q.1 q.2) T
theorem uL:∀ {es:List (Nat×Nat)} {S:Nat->Prop},vX ls S es R->(∀ k,R k->S k)/\∀ q∈es,S q.1/\S q.2
 |[],S,h=>⟨λk r=>(h k).2 r,λq m=>by simp at m⟩
 |q::es,S,h=>by
  obtain⟨a,b⟩:=uL h.2;refine⟨λk r=>(a k r).1,λx m=>?_⟩
  rw[15]
  .exact⟨h.1.1,h.1.2.1⟩
  .exact⟨(b x m).1.1,(b x m).2.1⟩
theorem Et:∀ {es:List (Nat×Nat)} {T:fO},(∀ q∈es,k≠q.2)->M5 ls T es k=T k
 |[],T,_=>rfl
 |q::es,T,h=>by
  show M5 ls (uz ls T q.1 q.2) es k=T k;rw[Et λx m=>h x (bL _ m)]
  exact wB (h q bF)
theorem LI (T:fO)(q:Nat×Nat)(es:List (Nat×Nat)):O0 ls T (q::es)=V7 ls (O0 ls T es) q.1 q.2:=by
 unfold O0;rw[List.reverse_cons,yP]
 rfl
theorem Ef:∀ {es:List (Nat×Nat)} {T:fO},(∀ q∈es,k≠q.1)->O0 ls T es k=T k
 |[],T,_=>rfl
 |q::es,T,h=>by
  rw[LI];exact(wB (h q bF)).trans (Ef λx m=>h x (bL _ m))
theorem Bi{Tn:fO}:∀ {es:List (Nat×Nat)} {S:Nat->Prop} {T:fO},vX ls S es R->(∀ k,R k->∀ r,Tn k r↔Gd ls R (M5 ls T es) k r)->(∀ k,¬ R k->Tn k=M5 ls T es k)->∀ k,S k->∀ r,O0 ls Tn es k r↔Gd ls S T k r
 |[],S,T,h,h1,h2,k,hk,r=>by
  have e:S=R:=funext λk=>propext (h k)
  subst e;exact h1 k hk r
 |q::es,S,T,h,h1,h2,k,hk,r=>by
  obtain⟨E,h⟩:=h;obtain⟨s1,s2⟩:=uL h;have ih:=Bi h h1 h2;rw[LI];have nR:¬ R q.1:=λz=>(s1 _ z).2 rfl
  refine o5 E ih (λr=>?_) k hk r
  rw[Ef λx m z=>(s2 x m).1.2 z.symm,h2 _ nR]
  show M5 ls (uz ls T q.1 q.2) es q.1 r↔_;rw[Et λx m z=>(s2 x m).2.2 z.symm]
  unfold uz;rw[wB E.2.2.1]
end
open PySem PySem.Spec PyProof.Rows Aw
theorem sM{p:aI×Int}(m:p∈l.zip (l.map (tv v))):p.1∈l/\p.2=tv v p.1:=by
 obtain⟨j,hj,rfl⟩:=yO m;rw[yN,cJ,Nat.min_self] at hj;rw[RH,IB];exact⟨iW _,rfl⟩
theorem Yk{k:aI}(m:k∈l):(k,tv v k)∈l.zip (l.map (tv v)):=by
 obtain⟨j,hj,rfl⟩:=yO m;have h:j<(l.zip (l.map (tv v))).length:=by rw[yN,cJ,Nat.min_self];exact hj
 have:=iW h
 rwa [RH,IB] at this
theorem PX (l:List aI)(v:aC->Int):∃ kn,eD l (l.map (tv v)) []=aa kn/\∀ z,(.inr z:aI)∈l->cF kn z=aa (v z):=by
 obtain⟨kn,e⟩:=AI (ps:=l.zip (l.map (tv v))) (kn:=[]) (λp m i q=>by rw[(sM m).2,q];rfl) (λp _ z u _ e=>by cases e) (λp m p' m' z q q'=>by rw[(sM m).2,(sM m').2,q,q'])
 refine⟨kn,?_,λz m=>?_⟩
 .unfold eD;rw[if_pos (by rw[cJ])]
  exact e
 .exact((wV e).2.1 _ (Yk m)).2 z rfl
theorem Ts:(∃ kn,eD l r []=aa kn) ↔ ∃ v,r=l.map (tv v):=by
 constructor
 .rintro⟨kn,h⟩;unfold eD at h;by_cases hl:r.length=l.length
  .rw[if_pos hl] at h;obtain⟨_,b,_⟩:=wV h;refine⟨λz=>(cF kn z).getD 0,IE (by rw[cJ];exact hl) λj h1 h2=>?_⟩
   rw[IB];have hj:j<l.length:=by omega
   have hz:j<(l.zip r).length:=by rw[yN];omega
   have:=b (l.zip r)[j] (iW hz);rw[RH] at this;cases hk:l[j] with
   |inl i=>exact this.1 i hk
   |inr z=>
    have e:=this.2 z hk;show r[j]=(cF kn z).getD 0;rw[e]
    rfl
  .rw[if_neg hl] at h;cases h
 .rintro⟨v,rfl⟩;obtain⟨kn,e,_⟩:=PX l v;exact⟨kn,e⟩
def hX (l:List aI)(zs:List aC)(r:List Int):List Int:=zs.map λz=>((eD l r []).bind λkn=>cF kn z).getD 0
theorem FI(h:∀ z∈zs,(.inr z:aI)∈l)(v:aC->Int):hX l zs (l.map (tv v))=zs.map v:=qA λz m=>by
 obtain⟨kn,e,hl⟩:=PX l v;rw[e];show(cF kn z).getD 0=v z;rw[hl z (h z m)]
 rfl
def tQ (a b:List aI)(zs:List aC)(R U:List (List Int)):List (List Int):=R.filter λr=>(U.map (hX b zs)).contains (hX a zs r)
theorem D4 {a b:List aI}{R U:List (List Int)}(hz:∀ z,z∈zs↔(.inr z:aI)∈a/\(.inr z:aI)∈b)(hR:∀ r∈R,∃ v,r=a.map (tv v))(hU:∀ r∈U,∃ v,r=b.map (tv v)) :
  r∈tQ a b zs R U↔r∈R/\DR a b (· ∈ U) r:=by
 unfold tQ;rw[pC];refine and_congr_right λmr=>?_
 obtain⟨v,rfl⟩:=hR r mr;rw[List.contains_iff_mem,FI λz m=>((hz z).1 m).1]
 constructor
 .intro m;obtain⟨r',m',e⟩:=bI.1 m;obtain⟨v',rfl⟩:=hU r' m';rw[FI λz m=>((hz z).1 m).2] at e
  exact⟨v,v',rfl,m',λz m1 m2=>(List.map_inj_left.1 e z ((hz z).2 ⟨m1,m2⟩)).symm⟩
 .rintro⟨u,u',e,m',h⟩;refine bI.2 ⟨_,m',?_⟩;rw[FI λz m=>((hz z).1 m).2]
  refine qA λz m=>?_
  obtain⟨m1,m2⟩:=(hz z).1 m;rw[<-h z m1 m2];exact(LX e m1).symm
theorem Ar1 {a b:List aI}{R U:List (List Int)}:(tQ a b zs R U).Sublist R:=Ih
abbrev dH:=List (List (List Int))
def tb (t:dH):fO:=λk r=>r∈t.getD k []
def kL (ls:Nat->List aI)(t:dH):Prop:=∀ k r,r∈t.getD k []->∃ v,r=(ls k).map (tv v)
theorem FP {t:dH}(hp:p<t.length)(R:List (List Int))(j:Nat):(t.set p R).getD j []=if j=p then R else t.getD j []:=by
 rw[kI,kI,List.getElem?_set];by_cases h:p=j
 .subst h;simp[hp]
 .rw[if_neg h,if_neg (hW h)]
section
variable {ls:Nat->List aI}{cm:Nat->Nat->List aC}
def Cm (ls:Nat->List aI)(cm:Nat->Nat->List aC):Prop:=∀ a b z,z∈cm a b↔(.inr z:aI)∈ls a/\(.inr z:aI)∈ls b
def tf (ls:Nat->List aI)(cm:Nat->Nat->List aC)(t:dH)(k j:Nat):dH:=t.set k (tQ (ls k) (ls j) (cm k j) (t.getD k []) (t.getD j []))
theorem wG (t:dH)(k j:Nat):(tf ls cm t k j).length=t.length:=HZ
theorem VB (hc:Cm ls cm){t:dH}(hf:kL ls t)(hk:k<t.length):tb (tf ls cm t k j)=vT (tb t) k λr=>tb t k r/\DR (ls k) (ls j) (tb t j) r:=by
 funext i r;unfold tb tf vT;rw[FP hk];by_cases h:i=k
 .subst h;rw[if_pos rfl,if_pos rfl];exact propext (D4 (hc i j) (hf i) (hf j))
 .rw[if_neg h,if_neg h]
theorem FB {t:dH}(hf:kL ls t)(hk:k<t.length):kL ls (tf ls cm t k j):=λi r m=>by
 unfold tf at m;rw[FP hk] at m;by_cases h:i=k
 .subst h;rw[if_pos rfl] at m;exact hf i r (Ar1.mem m)
 .rw[if_neg h] at m;exact hf i r m
def vc (ls:Nat->List aI)(cm:Nat->Nat->List aC)(t:dH)(es:List (Nat×Nat)):dH:=es.foldl (λt q=>tf ls cm t q.2 q.1) t
def og (ls:Nat->List aI)(cm:Nat->Nat->List aC)(t:dH)(es:List (Nat×Nat)):dH:=es.reverse.foldl (λt q=>tf ls cm t q.1 q.2) t
theorem OW (hc:Cm ls cm):∀ {es:List (Nat×Nat)} {t:dH},kL ls t->(∀ q∈es,q.2<t.length)->tb (vc ls cm t es)=M5 ls (tb t) es/\kL ls (vc ls cm t es)/\(vc ls cm t es).length=t.length
 |[],t,hf,_=>⟨rfl,hf,rfl⟩
 |q::es,t,hf,h=>by
  have hq:=h q bF;obtain⟨a,b,c⟩:=OW hc (es:=es) (t:=tf ls cm t q.2 q.1) (FB hf hq) λx m=>by rw[wG];exact h x (bL _ m)
  refine⟨?_,b,c.trans (wG _ _ _)⟩;show tb (vc ls cm (tf ls cm t q.2 q.1) es)=M5 ls (uz ls (tb t) q.1 q.2) es;rw[a,VB hc hf hq]
  rfl
theorem Wb (t:dH)(q:Nat×Nat)(es:List (Nat×Nat)):og ls cm t (q::es)=tf ls cm (og ls cm t es) q.1 q.2:=by
 unfold og;rw[List.reverse_cons,yP]
 rfl
theorem OS (hc:Cm ls cm):∀ {es:List (Nat×Nat)} {t:dH},kL ls t->(∀ q∈es,q.1<t.length)->tb (og ls cm t es)=O0 ls (tb t) es/\kL ls (og ls cm t es)/\(og ls cm t es).length=t.length
 |[],t,hf,_=>⟨rfl,hf,rfl⟩
 |q::es,t,hf,h=>by
  obtain⟨a,b,c⟩:=OS hc hf λx m=>h x (bL _ m)
  have hq:q.1<(og ls cm t es).length:=by rw[c];exact h q bF
  rw[Wb,LI];refine⟨?_,FB b hq,(wG _ _ _).trans c⟩;rw[VB hc b hq,a]
  rfl
theorem KJ {t:dH}(hk:k<t.length)(i:Nat):((tf ls cm t k j).getD i []).Sublist (t.getD i []):=by
 unfold tf;rw[FP hk];by_cases h:i=k
 .subst h;rw[if_pos rfl];exact Ar1
 .rw[if_neg h];exact Ik _
theorem Yo (hc:Cm ls cm){t t2:dH}{es:List (Nat×Nat)}(hf:kL ls t)(E:vX ls (λk=>k<t.length) es R)(l2:t2.length=t.length)
  (h1:∀ k,R k->∀ r,r∈t2.getD k []↔Gd ls R (tb (vc ls cm t es)) k r) (h2:∀ k,¬ R k->t2.getD k []=(vc ls cm t es).getD k []) :
  ∀ k,k<t.length->∀ r,r∈(og ls cm t2 es).getD k []↔Gd ls (λk=>k<t.length) (tb t) k r:=by
 obtain⟨s1,s2⟩:=uL E;obtain⟨a,b,c⟩:=OW hc hf λq m=>(s2 q m).2
 have f2:kL ls t2:=λk r m=>by
  by_cases q:R k
  .obtain⟨v,_,e⟩:=(h1 k q r).1 m;exact⟨v,e⟩
  .rw[h2 k q] at m;exact b k r m
 obtain⟨a2,_,_⟩:=OS hc f2 λq m=>by rw[l2];exact(s2 q m).1
 intro k hk r;have:=Bi (Tn:=tb t2) E (λk q r=>by rw[<-a];exact h1 k q r) (λk q=>by
  rw[<-a];funext r;show(r∈t2.getD k [])=(r∈(vc ls cm t es).getD k []);rw[h2 k q]) k hk r
 rw[<-a2] at this;exact this
end
end L2
namespace Aw
open PySem L2
variable {n i k j:Nat}{f g:EF}{Y:aU}{d:aA}{ls:List Ln}{ds:List aA}{l a b:Ln}{z x qual:aC}{L:List Nat}{α:Type}{P:Out->Prop}{ks:List aI}{kds:List (aA×aA)}{B:aC->List (List Int)}{wd:aC->Nat}{r ns row:List Int}{R:List (List Int)}{v:aC->Int}{ps:List aC}{c c1 jv:Int}{N:Nat->aC}{K:aK}{st:bZ}
theorem evA(h:f (vA Y)=aa d)(hf:fS n d=af):eV n .a f Y=aa d:=by
 show((f (vA Y)).bind λd=>if (fS n d||(qM Y&&decide (n<9)&&gU n d))=af then aa d else ae)=_
 rw[h,bS,hf,Bool.true_or,if_pos rfl]
def iT (l:Ln):Prop:=l.2.length<=6/\∀ k∈l.2,cH (kD k)=af
abbrev lN (cs:List Nat):aA:=.list (cs.map λ(c:Nat)=>aW c)
abbrev ak (ls:List Ln):aA:=.tuple (ls.map bA)
abbrev lK (ks:List aI):aA:=.list (ks.map kD)
abbrev lZ (zs:List aC):aA:=.list (zs.map cK)
theorem EU (cs:List Nat):cO [lN cs]=aa (.int cs.length):=by simp[cO]
theorem SO {cs:List Nat}(h:i<cs.length):∃ c∈cs,bc (lN cs) (.int i)=aa (.int c):=⟨cs[i],iW h,KC (fA h)⟩
theorem eqn (a b:Nat):gc (.int a) (.int b)=aa (.bool (decide (a=b))):=by
 rw[qY]
 congr 2
 rw[pE];simp;omega
def Jx:aI->Option aC
 |.inr z=>aa z
 |.inl _=>ae
def gV (ks:List aI):List aC:=ks.filterMap Jx
def eJ (ls:List (aC×List aI)):List aC:=jK (ls.flatMap λl=>gV l.2)
def kt (z:aC):aA×aA:=(.str z,.bool af)
theorem Oi (aj:List aC)(z:aC):((aj.map kt).any λkd=>decide (cA kd.1=aa (.inr z)))=decide (z∈aj):=by
 induction aj with
 |nil=>rfl
 |cons y r ih=>
  rw[dI,yS,ih];have:cA (kt y).1=aa (.inr y):=rfl;rw[this];by_cases h:z=y
  .subst h;simp
  .have h':¬ y=z:=λe=>h e.symm
   simp[h,h']
theorem Pv (aj:List aC)(z:aC):putD (aj.map kt) (.inr z) (.bool af)=(gG aj z).map kt:=by
 unfold putD gG;rw[Oi];by_cases h:z∈aj
 .rw[if_pos (by simpa using h),if_pos h,eP]
  refine qA λy _=>?_
  show(if cA (kt y).1=aa (.inr z) then((kt y).1,kW af) else kt y)=kt y
  split<;>rfl
 .rw[if_neg (by simpa using h),if_neg h,kH]
  rfl
def gN (aj:List aC)(k:aI):List aC:=match k with
 |.inr z=>gG aj z
 |.inl _=>aj
theorem JP:∀ (ks:List aI) (aj:List aC),ks.foldl gN aj=(gV ks).foldl gG aj
 |[],_=>rfl
 |.inl i::ks,aj=>JP ks aj
 |.inr z::ks,aj=>JP ks (gG aj z)
theorem Og (aj:List aC)(k:aI):(gN aj k).length<=aj.length+1:=by
 cases k with
 |inl i=>exact sW _
 |inr z=>exact XI aj z
theorem Ot {aj:List aC}{k:aI}(h:∀ z∈aj,cH (.str z)=af)(hk:cH (kD k)=af):∀ z∈gN aj k,cH (.str z)=af:=by
 cases k with
 |inl i=>exact h
 |inr z=>exact λy m=>(Axm.1 m).elim (h y) λe=>e ▸ hk
theorem LJ {ls:List (aC×List aI)}(h:∀ l∈ls,iT l)(hn:ls.length<=100):rB [.tuple (ls.map bA)]=aa (.list ((eJ ls).map cK)):=by
 have:∃ d,rB [.tuple (ls.map bA)]=aa d/\d=.list ((eJ ls).map cK):=by
  rw[10];refine cP rfl (by simp) ?_
  refine fV (λρ'=>∃ x2 x3:L2.Slot,(∀ z∈eJ ls,cH (.str z)=af)/\ρ'=[s0 (.tuple (ls.map bA)),aa (1,.dict ((eJ ls).map kt)),x2,x3]) ?_ ?_
  .refine iU (xs:=ls) (q:=bA) (b0:=[]) (λaj l=>l.2.foldl gN aj) (λi aj ρ'=>∃ x2 x3:L2.Slot,aj.length<=6*i/\(∀ z∈aj,cH (.str z)=af)/\ρ'=[s0 (.tuple (ls.map bA)),aa (1,.dict (aj.map kt)),x2,x3]) (iu (pK rfl)) ⟨ae,ae,bE _,λ_ m=>by simp at m,rfl⟩ ?_ ?_
   .rintro i l aj _ hx ⟨x2,x3,ha,hy,rfl⟩;have hl:=h l (fH hx);have hi:=(cT.1 hx).1;refine⟨[s0 (.tuple (ls.map bA)),aa (1,.dict (aj.map kt)),s0 (bA l),x3],rfl,?_⟩;refine iU (xs:=l.2) (q:=kD) (b0:=aj) gN (λj bq ρ'=>∃ x3:L2.Slot,bq.length<=6*i+j/\(∀ z∈bq,cH (.str z)=af)/\ρ'=[s0 (.tuple (ls.map bA)),aa (1,.dict (bq.map kt)),s0 (bA l),x3]) (iu (pK (by simp[vS,ah,aB,eC,bA,bc,kz,ni]))) ⟨x3,ha,hy,rfl⟩ ?_ ?_
    .rintro j k bq _ hk ⟨x3,Go,qi,rfl⟩;have hj:=(cT.1 hk).1;have h6:=hl.1;refine⟨[s0 (.tuple (ls.map bA)),aa (1,.dict (bq.map kt)),s0 (bA l),s0 (kD k)],rfl,?_⟩;have g1:=Og bq k;have g2:=Ot qi (hl.2 k (fH hk));cases k with
     |inl v=>exact jY (by simp[bV,vS,iw,aB,aw,su,fP,kM,uj,kD]) (mH ⟨_,.inl rfl,_,by omega,g2,rfl⟩)
     |inr z=>
      refine fJ (by simp[bV,vS,iw,aB,aw,su,fP,kM,uj,kD]) (Ex rfl rfl rfl rfl (by simp;omega) ⟨_,.inl rfl,s0 (.str z),by omega,g2,?_⟩)
      rw[Pv]
      rfl
    .rintro _ ⟨x3,Go,qi,rfl⟩;have h6:=hl.1;exact⟨_,.inl rfl,_,_,by omega,qi,rfl⟩
   .rintro _ ⟨x2,x3,ha,hy,rfl⟩;have e:ls.foldl (λaj l=>l.2.foldl gN aj) []=eJ ls:=by
     unfold eJ jK;rw[List.foldl_flatMap]
     congr 1
     funext aj l;exact JP l.2 aj
    rw[e] at hy ⊢;exact⟨_,rfl,x2,x3,hy,rfl⟩
  rintro _ ⟨x2,x3,hy,rfl⟩;refine oI (dA (aY rfl ?_) ⟨_,rfl,rfl⟩);have hp:ik ((eJ ls).map kt)=af:=ET λkd m=>by
   obtain⟨z,_,rfl⟩:=bI.1 m;exact λq=>nomatch q
  show(if (ik ((eJ ls).map kt)&&((eJ ls).map kt).all (λkd=>cH kd.1))=af then aa (rN (((eJ ls).map kt).map (·.1))) else ae)=_
  rw[hp,IK,if_pos (eB.2 λkd m=>by
   obtain⟨z,mz,rfl⟩:=bI.1 m;exact hy z mz),eP]
  rfl
 rw[3]
theorem Dt (y z:aC):cD (.str y) (.str z)=decide (y=z):=by
 rw[show cD (.str y) (.str z)=(y==z) by simp[cD],pE]
 simp
theorem Px (zs:List aC)(z:aC):((zs.map cK).any λd=>cD d (.str z))=decide (z∈zs):=by
 rw[List.any_map,pE];simp[Dt]
theorem Zr (zs:List aC):noDicts (zs.map cK)=af:=wZ λt m=>by
 obtain⟨z,_,rfl⟩:=bI.1 m
 rfl
theorem Rt (neg:Bool)(zs:List aC)(z:aC):oh neg (.str z) (.list (zs.map cK))=aa (.bool (neg != decide (z∈zs))):=by
 show(if (cZ (.str z)&&noDicts (zs.map cK))=af then aa (kW (neg != (zs.map cK).any λd=>cD d (.str z))) else ae)=_
 rw[Zr,Px,show cZ (.str z)=af from rfl,IL,if_pos rfl]
theorem any_keys (ks:List aI)(z:aC):((ks.map kD).any λd=>cD d (.str z))=decide (z∈gV ks):=by
 induction ks with
 |nil=>rfl
 |cons k r ih=>
  rw[dI,yS,ih];cases k with
  |inl i=>
   have:cD (kD (.inl i)) (.str z)=ag:=by simp[kD,cD]
   rw[this]
   rfl
  |inr y=>
   have:cD (kD (.inr y)) (.str z)=decide (y=z):=Dt y z;rw[this];show(decide (y=z)||decide (z∈gV r))=decide (z∈y::gV r);by_cases e:y=z
   .subst e;simp
   .have e':¬ z=y:=λq=>e q.symm
    simp[e,e']
theorem Dp (z:aC)(ks:List aI):oh ag (.str z) (.tuple (ks.map kD))=aa (.bool (decide (z∈gV ks))):=by
 show(if (cZ (.str z)&&noDicts (ks.map kD))=af then aa (kW (ag != (ks.map kD).any λd=>cD d (.str z))) else ae)=_
 rw[Ys,any_keys,show cZ (.str z)=af from rfl,IL,if_pos rfl]
 simp
def oE (ls:List (aC×List aI))(k:Nat):List (aC×List aI):=ls.take k++ls.drop (k+1)
def KO (ls:List (aC×List aI))(k:Nat)(l:aC×List aI):List aC:=(eJ [l]).filter λz=>decide (z∈eJ (oE ls k))
theorem AB{lo hi:OF}{Y:List (Option aA)}{l u:Option Int}(e1:f Y=aa (.tuple ds))(e2:lo Y=aa l)(e3:hi Y=aa u):mK f lo hi Y=aa (.tuple (cutD ds l u)):=by
 unfold mK;rw[e1,bS,e2,bS,e3,bS]
theorem XD(k:Nat)(h:k<=ds.length):cutD ds (aa (k:Int)) ae=ds.drop k:=by
 unfold cutD;rw[HT.A7i,HT.Ayv,Hk h];exact List.take_of_length_le (by simp)
theorem w9 {ls:List (aC×List aI)}(h:∀ l∈ls,iT l)(hn:ls.length<=50){l:aC×List aI}(hk:ls[k]?=aa l):wQ [.tuple (ls.map bA),.int k]=aa (.list ((KO ls k l).map cK)):=by
 have cf:=(cT.1 hk).1;have hrl:(oE ls k).length<=100:=by
  unfold oE;rw[mU,rO,Hx];omega
 have:∃ d,wQ [.tuple (ls.map bA),.int k]=aa d/\d=.list ((KO ls k l).map cK):=by
  rw[10];have er:=LJ (λx m=>h x (by
   rcases gP.1 m with m|m
   .exact RE m
   .exact List.mem_of_mem_drop m)) hrl
  have el:=LJ (λx m=>by rw[bX.1 m];exact h l (fH hk)) (by simp)
  refine cP (d:=.list ((eJ (oE ls k)).map cK)) (aY (ds:=[.tuple ((oE ls k).map bA)]) (bD (aP (a:=.tuple ((ls.take k).map bA)) (b:=.tuple ((ls.drop (k+1)).map bA)) ?_ ?_ ?_) rfl) er) (by simp) ?_
  .have:=AB (ds:=ls.map bA) (f:=aB 0) (lo:=oN) (hi:=oS (aB 1)) (Y:=vS [s0 (.tuple (ls.map bA)),s0 (.int k),ae]) (l:=ae) (u:=aa (k:Int)) rfl rfl rfl;rw[OM (by simpa using pB cf),<-Hv] at this
   exact this
  .have:=AB (ds:=ls.map bA) (f:=aB 0) (lo:=oS (ah cX (aB 1) (eC (.int 1)))) (hi:=oN) (Y:=vS [s0 (.tuple (ls.map bA)),s0 (.int k),ae]) (l:=aa ((k+1:Nat):Int)) (u:=ae) rfl rfl rfl;rw[XD _ (by simp;omega),<-List.map_drop] at this
   exact this
  .show(if ((ls.take k).map bA).length+((ls.drop (k+1)).map bA).length<=sizeLine then aa (cV ((ls.take k).map bA++(ls.drop (k+1)).map bA)) else ae)=_
   rw[if_pos (nC (by simp;omega)),<-kH]
   rfl
  refine dA ?_ ⟨_,rfl,rfl⟩;refine iH (λz=>decide (z∈eJ (oE ls k))) cK (fL (aY ?_ el)) ?_ λz _=>?_
  .have:bc (.tuple (ls.map bA)) (.int k)=aa (bA l):=uK (by rw[eW,hk];rfl)
   refine bD ?_ rfl;have h2:(1:Nat)<=sizeLine:=nC (by omega)
   unfold jU;rw[bD (aP rfl rfl this) rfl];simp[h2]
  .have:(eJ [l]).length<=6:=by
    have h1:=GC (gV l.2) [];have h2:(gV l.2).length<=l.2.length:=DB _ _;have h3:=(h l (fH hk)).1;have e:eJ [l]=(gV l.2).foldl gG []:=by
     unfold eJ jK;simp
    rw[e];simp at h1;omega
   omega
  .refine⟨[aa (.str z),aa (.list ((eJ (oE ls k)).map cK))],rfl,?_,λ_=>rfl⟩
   have:=Rt ag (eJ (oE ls k)) z;simp[eV,bV,aV,vS,ah,iw,aB,eC,aL,dJ,aF,aJ,aw,su,bt,itemsOf,cX,pH,gX,cR,eX,yk,xf,vd,vw,cO,fP,kM,uj,gc,cZ,noDict,noDicts,jP,cL,cD,this]
 rw[3]
theorem Ajn {ls:List (aC×List aI)}:z∈eJ ls ↔ ∃ l∈ls,z∈gV l.2:=by
 unfold eJ;rw[Ah7,HY]
theorem Ay4 {ls:List (aC×List aI)}{l:aC×List aI}:l∈oE ls k ↔ ∃ j,j≠k/\ls[j]?=aa l:=by
 unfold oE;rw[gP,Ht,Ht];constructor
 .rintro(⟨j,hj⟩|⟨j,hj⟩)
  .rw[List.getElem?_take] at hj;by_cases h:j<k
   .rw[if_pos h] at hj;exact⟨j,by omega,hj⟩
   .rw[if_neg h] at hj;cases hj
  .rw[Hz] at hj;exact⟨_,by omega,hj⟩
 .rintro⟨j,cb,hj⟩;by_cases h:j<k
  .exact .inl ⟨j,by rw[List.getElem?_take,if_pos h];exact hj⟩
  .exact .inr ⟨j-(k+1),by rw[Hz,show k+1+(j-(k+1))=j by omega];exact hj⟩
theorem pJ(h:i<ls.length):bc (ak ls) (.int i)=aa (bA (ls.getD i cn)):=uK (by rw[eW,getD_some cn h];rfl)
def zk (ls:List Ln)(i:Nat):List aC:=gV (ls.getD i cn).2
def yX (ls:List Ln)(L:List Nat)(k j:Nat):Prop:=∀ z∈zk ls k,z∈zk ls j\/∀ o∈L,o≠k->z∉zk ls o
instance (ls:List Ln)(L:List Nat)(k j:Nat):Decidable (yX ls L k j):=by unfold yX;infer_instance
def jA (ls:List Ln)(L:List Nat)(k j:Nat):Bool:=decide (j≠k)&&decide (yX ls L k j)
def kP (p:Nat×Nat):aA:=.tuple [.int p.1,.int p.2]
def sA:Option (Nat×Nat)->aA
 |none=>.none
 |some p=>kP p
def jC (ls:List Ln)(L:List Nat):Option (Nat×Nat):=L.findSome? λk=>(L.find? (jA ls L k)).map λj=>(k,j)
theorem nen (a b:Nat):kx (.int a) (.int b)=aa (.bool (decide (a≠b))):=by
 rw[ne_int]
 congr 2
 rw[pE];simp;omega
theorem Oa(h:k∈L):∃ i:Nat,L[i]?=aa k/\KD (lN L) (.int k)=aa (.int i):=by
 have e1:∀ xs:List Nat,oH (xs.map λ(c:Nat)=>aW c)=aa (xs.map λ(c:Nat)=>(.inl (c:Int):aI)):=λxs=>by
  induction xs with
  |nil=>rfl
  |cons x xs ih=>
   show((cA (.int (x:Int))).bind λk=>(oH (xs.map λ(c:Nat)=>aW c)).bind λks=>aa (k::ks))=_
   rw[ih]
   rfl
 obtain⟨i,hi⟩:∃ i,sv (L.map λ(c:Nat)=>(.inl (c:Int):aI)) (.inl (k:Int))=aa i:=by
  unfold sv;cases e:(L.map λ(c:Nat)=>(.inl (c:Int):aI)).findIdx? λy=>decide (y=.inl (k:Int)) with
  |some i=>exact⟨i,rfl⟩
  |none=>
   have:=List.findIdx?_eq_none_iff.1 e (.inl (k:Int)) (bI.2 ⟨k,h,rfl⟩);simp at this
 refine⟨i,?_,?_⟩
 .have:=(WA hi).1;rw[eW] at this;obtain⟨x,ex,e⟩:=kF.1 this;have:x=k:=by
   have:(x:Int)=k:=by injection e
   omega
  rw[ex,this]
 .show((oH (L.map λ(c:Nat)=>aW c)).bind λks=>(cA (.int (k:Int))).bind λk=>(sv ks k).bind λj=>aa (aW j))=_
  rw[e1,bS];show((sv _ (.inl (k:Int))).bind λj=>aa (aW j))=_
  rw[hi]
  rfl
theorem C8(nd:L.Nodup)(h1:L[i]?=aa k)(h2:L[j]?=aa k):i=j:=by
 obtain⟨a1,a2⟩:=cT.1 h1;obtain⟨b1,b2⟩:=cT.1 h2;have pw:=RD.1 nd;rcases CV i j with h|h|h
 .exact absurd (a2.trans b2.symm) (pw i j a1 b1 h)
 .exact h
 .exact absurd (b2.trans a2.symm) (pw j i b1 a1 h)
theorem Ea(g:α->Bool):∀ xs:List α,tJ (xs.map λx=>kW (g x))=aa (xs.map g)
 |[]=>rfl
 |x::xs=>by
  show((tJ (xs.map λx=>kW (g x))).bind λbs=>aa (g x::bs))=_
  rw[Ea g xs]
  rfl
theorem y6(ho:∀ l∈ls,iT l)(hL:∀ o∈L,o<ls.length)(nd:L.Nodup)(hl:L.length<=50)(hk:k∈L):xE [ak ls,lN L,.int k]=aa (match L.find? (jA ls L k) with|some j=>.int j|none=>.none):=by
 have:∃ d,xE [ak ls,lN L,.int k]=aa d/\d=(match L.find? (jA ls L k) with|some j=>.int j|none=>.none):=by
  rw[10]
  let sub:List Ln:=L.map λj=>ls.getD j cn
  obtain⟨i,hi,ei⟩:=Oa hk;have de:∀ l∈sub,iT l:=λl m=>by
   obtain⟨j,mj,rfl⟩:=bI.1 m;exact ho _ (getD_mem cn (hL j mj))
  have hsi:sub[i]?=aa (ls.getD k cn):=by
   rw[eW,hi]
   rfl
  have es:=w9 de (by show(L.map _).length<=50;simpa using hl) hsi
  let W:List aC:=KO sub i (ls.getD k cn)
  have lc:gb [ae,aa 0] (bt (aB 1)) (gB 0) cU (ah bc (aB 1) (aB 0)) (vS [s0 (ak ls),s0 (lN L),s0 (.int k),ae,ae])=aa (.list (sub.map bA)):=by
   have:=iH (cap:=[ae,aa 0]) (fi:=bt (aB 1)) (T:=gB 0) (t:=cU) (f:=ah bc (aB 1) (aB 0)) (Y:=vS [s0 (ak ls),s0 (lN L),s0 (.int k),ae,ae]) (xs:=L) (q:=λ(j:Nat)=>aW j) (λ_=>af) (λj=>bA (ls.getD j cn)) (fL rfl) (by omega) λj mj=>⟨[aa (.int j),aa (ak ls)],rfl,rfl,λ_=>aP (a:=ak ls) (b:=.int j) rfl rfl (pJ (hL j mj))⟩
   rw[this,lW.2 (by simp)]
   rw[eP]
   rfl
  refine cP (aY (bD (aY (bD lc rfl) rfl) (bD (aP rfl rfl ei) rfl)) es) (by simp) ?_
  have T5:∀ z,z∈W↔z∈zk ls k/\∃ o∈L,o≠k/\z∈zk ls o:=λz=>by
   show z∈(eJ [ls.getD k cn]).filter (λz=>decide (z∈eJ (oE sub i)))↔_
   rw[pC,Ajn];constructor
   .rintro⟨⟨l,ml,hz⟩,h2⟩;rw[bX.1 ml] at hz;refine⟨hz,?_⟩;obtain⟨l',ml',N9⟩:=Ajn.1 (of_decide_eq_true h2);obtain⟨j,hj,ej⟩:=Ay4.1 ml';have ej:=ej;rw[eW] at ej;obtain⟨o,eo,rfl⟩:=kF.1 ej;refine⟨o,fH eo,λq=>hj ?_,N9⟩
    exact C8 nd (by rw[<-q];exact eo) hi
   .rintro⟨hz,o,mo,ne,N9⟩;refine⟨⟨_,bX.2 rfl,hz⟩,decide_eq_true (Ajn.2 ⟨ls.getD o cn,Ay4.2 ?_,N9⟩)⟩;obtain⟨j,hj,ej⟩:=yO mo;refine⟨j,λq=>ne ?_,?_⟩
    .obtain⟨b1,b2⟩:=cT.1 hi;subst q;rw[<-ej,b2]
    .rw[eW,fA hj,ej]
     rfl
  have hWl:W.length<=100:=by
   have h1:W.length<=(eJ [ls.getD k cn]).length:=IA _ _;have h2:=GC (gV (ls.getD k cn).2) [];have h3:(gV (ls.getD k cn).2).length<=(ls.getD k cn).2.length:=DB _ _;have h4:=(ho _ (getD_mem cn (hL k hk))).1;have e:eJ [ls.getD k cn]=(gV (ls.getD k cn).2).foldl gG []:=by
    unfold eJ jK;simp
   rw[e] at h1;simp only[List.length_nil,Nat.zero_add] at h2;omega
  let A:L2.Slot:=s0 (ak ls)
  let B:L2.Slot:=s0 (lN L)
  let C:L2.Slot:=s0 (.int k)
  let E:L2.Slot:=s0 (lZ W)
  refine Dx (λρ'=>∃ x4:L2.Slot,ρ'=[A,B,C,E,x4]) (L.findSome? λj=>if jA ls L k j=af then aa (.int j) else ae) (Ff (λρ'=>∃ x4:L2.Slot,ρ'=[A,B,C,E,x4]) _ (iu (fL rfl)) ⟨ae,rfl⟩ ?_) ?_ ?_
  .rintro j mj _ ⟨x4,rfl⟩;refine⟨[A,B,C,E,s0 (.int j)],rfl,?_⟩;have f1:ah kx (aB 4) (aB 2) (vS [A,B,C,E,s0 (.int j)])=aa (.bool (decide (j≠k))):=aP (a:=.int j) (b:=.int k) rfl rfl (nen j k);have lc2:=iH (cap:=[ae,aa 0,aa 4]) (fi:=bt (aB 3)) (T:=gB 0) (t:=cU) (f:=ah (oh ag) (aB 0) (ah bc (ah bc (aB 1) (aB 2)) (eC (.int 1)))) (Y:=vS [A,B,C,E,s0 (.int j)]) (xs:=W) (q:=cK) (λ_=>af) (λz=>.bool (decide (z∈zk ls j))) (fL rfl) (by omega) λz mz=>⟨[aa (.str z),aa (ak ls),aa (.int j)],rfl,rfl,λ_=>aP (a:=.str z) (b:=tK (ls.getD j cn).2) rfl (aP (aP (a:=ak ls) (b:=.int j) rfl rfl (pJ (hL j mj))) rfl rfl) (Dp z _)⟩
   rw[lW.2 (by simp)] at lc2
   have f2:aL zG (aF (gb [ae,aa 0,aa 4] (bt (aB 3)) (gB 0) cU (ah (oh ag) (aB 0) (ah bc (ah bc (aB 1) (aB 2)) (eC (.int 1))))) aJ) (vS [A,B,C,E,s0 (.int j)])=aa (.bool (decide (yX ls L k j))):=by
    refine aY (bD lc2 rfl) ?_;show((tJ (W.map λz=>kW (decide (z∈zk ls j)))).bind λbs=>aa (kW (bs.all id)))=_
    rw[Ea,bS,List.all_map]
    congr 2
    rw[pE,eB,decide_eq_true_eq];constructor
    .intro h z mz;by_cases q:∃ o∈L,o≠k/\z∈zk ls o
     .exact .inl (of_decide_eq_true (h z ((T5 z).2 ⟨mz,q⟩)))
     .exact .inr λo mo ne hz=>q ⟨o,mo,ne,hz⟩
    .intro h z mz;obtain⟨h1,o,mo,ne,hz⟩:=(T5 z).1 mz;rcases h z h1 with q|q
     .exact decide_eq_true q
     .exact absurd hz (q o mo ne)
   have tb:bV .s (mN (aw (ah kx (aB 4) (aB 2))) (aw (aL zG (aF (gb [ae,aa 0,aa 4] (bt (aB 3)) (gB 0) cU (ah (oh ag) (aB 0) (ah bc (ah bc (aB 1) (aB 2)) (eC (.int 1))))) aJ)))) [A,B,C,E,s0 (.int j)]=aa (jA ls L k j):=by
    simp only[bV,mN,aw,f1,f2,bS,su];unfold jA;cases decide (j≠k)<;>rfl
   cases hb:jA ls L k j with
   |true=>exact fJ (tb.trans (by rw[hb])) (dA rfl rfl)
   |false=>exact jY (tb.trans (by rw[hb])) (mH ⟨_,.inl rfl,_,rfl⟩)
  .intro r hr;refine⟨_,rfl,?_⟩;have:∀ xs:List Nat,(xs.findSome? λj=>if jA ls L k j=af then aa (aW j) else ae)=(xs.find? (jA ls L k)).map λ(j:Nat)=>aW j:=λxs=>by
    induction xs with
    |nil=>rfl
    |cons x xs ih=>
     rw[fN,ID];cases jA ls L k x with
     |true=>rfl
     |false=>exact ih
   rw[this] at hr;obtain⟨j,e,rfl⟩:=kF.1 hr;rw[e]
  .rintro hz _ ⟨x4,rfl⟩;refine dA rfl ⟨_,rfl,?_⟩;have:∀ xs:List Nat,(xs.findSome? λj=>if jA ls L k j=af then aa (aW j) else ae)=(xs.find? (jA ls L k)).map λ(j:Nat)=>aW j:=λxs=>by
    induction xs with
    |nil=>rfl
    |cons x xs ih=>
     rw[fN,ID];cases jA ls L k x with
     |true=>rfl
     |false=>exact ih
   rw[this] at hz;rw[QV.1 hz]
 rw[3]
theorem Cg(ho:∀ l∈ls,iT l)(hL:∀ o∈L,o<ls.length)(nd:L.Nodup)(hl:L.length<=50):nG [ak ls,lN L]=aa (sA (jC ls L)):=by
 have:∃ d,nG [ak ls,lN L]=aa d/\d=sA (jC ls L):=by
  rw[10]
  let A:L2.Slot:=s0 (ak ls)
  let B:L2.Slot:=s0 (lN L)
  have key:(L.findSome? λk=>((L.find? (jA ls L k)).map λj=>kP (k,j)))=(jC ls L).map kP:=by
   unfold jC;rw[List.map_findSome?];refine De λk _=>?_
   show _=Option.map kP ((L.find? (jA ls L k)).map λj=>(k,j))
   rw[Option.map_map]
   rfl
  refine Dx (λρ'=>∃ x2 x3:L2.Slot,ρ'=[A,B,x2,x3]) (L.findSome? λk=>((L.find? (jA ls L k)).map λj=>kP (k,j))) (Ff (λρ'=>∃ x2 x3:L2.Slot,ρ'=[A,B,x2,x3]) _ (iu (fL rfl)) ⟨ae,ae,rfl⟩ ?_) ?_ ?_
  .rintro k mk _ ⟨x2,x3,rfl⟩;refine⟨[A,B,s0 (.int k),x3],rfl,?_⟩;have ep:=y6 ho hL nd hl mk;cases hf:L.find? (jA ls L k) with
   |none=>
    rw[hf] at ep;exact cP (aY rfl ep) (by simp) (jY rfl (mH ⟨_,.inl rfl,_,_,rfl⟩))
   |some j=>
    rw[hf] at ep;exact cP (aY rfl ep) (by simp) (fJ rfl (dA rfl rfl))
  .intro r hr;rw[key] at hr;obtain⟨p,e,rfl⟩:=kF.1 hr;exact⟨_,rfl,by rw[e];rfl⟩
  .rintro hz _ ⟨x2,x3,rfl⟩;rw[key] at hz;exact dA rfl ⟨_,rfl,by rw[QV.1 hz];rfl⟩
 rw[3]
def lg (ls:List Ln):Nat->List Nat->List (Nat×Nat)×List Nat
 |0,L=>([],L)
 |n+1,L=>match jC ls L with
  |none=>([],L)
  |some p=>(p::(lg ls n (L.erase p.1)).1,(lg ls n (L.erase p.1)).2)
theorem YQ{p:Nat×Nat}(h:jC ls L=aa p):p.1∈L/\p.2∈L:=by
 unfold jC at h;obtain⟨k,mk,h⟩:=K7 h;obtain⟨j,hj,rfl⟩:=kF.1 h;exact⟨mk,RF hj⟩
theorem Fg:∀ {n:Nat} {L:List Nat},(lg ls n L).1.length<=n/\(lg ls n L).2.length<=L.length
 |0,L=>⟨by simp[lg],bE _⟩
 |n+1,L=>by
  unfold lg;cases hf:jC ls L with
  |none=>exact⟨by simp,bE _⟩
  |some p=>
   obtain⟨h1,h2⟩:=Fg;have:=List.length_erase_le (a:=p.1) (l:=L);exact⟨by simp;omega,by show(lg ls n (L.erase p.1)).2.length<=L.length;omega⟩
theorem B3(h:k∈L):∃ i,sv (L.map λ(c:Nat)=>(.inl (c:Int):aI)) (.inl (k:Int))=aa i/\L.eraseIdx i=L.erase k:=by
 induction L with
 |nil=>simp at h
 |cons x xs ih=>
  by_cases q:x=k
  .subst q;exact⟨0,by simp[sv,List.findIdx?_cons],by simp⟩
  .have hm:k∈xs:=by
    rcases cM.1 h with e|m
    .exact absurd e.symm q
    .exact m
   obtain⟨i,e1,e2⟩:=ih hm;refine⟨i+1,?_,?_⟩
   .unfold sv at e1 ⊢;rw[dI,List.findIdx?_cons];have:decide ((.inl (x:Int):aI)=.inl (k:Int))=ag:=decide_eq_false λe=>q (by
     have:(x:Int)=k:=by injection e
     omega)
    rw[this];simp only[iN,if_false];rw[e1]
    rfl
   .rw[yQ,e2,List.erase_cons_tail (by simpa using q)]
theorem TU:∀ xs:List Nat,oH (xs.map λ(c:Nat)=>aW c)=aa (xs.map λ(c:Nat)=>(.inl (c:Int):aI))
 |[]=>rfl
 |x::xs=>by
  show((cA (.int (x:Int))).bind λk=>(oH (xs.map λ(c:Nat)=>aW c)).bind λks=>aa (k::ks))=_
  rw[TU xs]
  rfl
theorem Oz(h:f (vS Y)=aa (.int k))(hg:getL i Y=aa (L.map λ(c:Nat)=>aW c))(hk:k∈L)(kk:P (.nx (Y.set i (aa (1,lN (L.erase k)))))):Goes (qP i .s f) Y P:=by
 obtain⟨j,e1,e2⟩:=B3 hk;refine⟨_,?_,kk⟩;have e0:eV 0 .s f Y=aa (.int k):=h;unfold qP;rw[e0,bS,hg,bS,TU,bS];show((sv _ (.inl (k:Int))).bind λj=>aa (Out.nx (Y.set i (aa (1,.list ((L.map λ(c:Nat)=>aW c).eraseIdx j))))))=_
 rw[e1,bS];have:(L.map λ(c:Nat)=>aW c).eraseIdx j=(L.erase k).map λ(c:Nat)=>aW c:=by
  rw[<-e2];have go:∀ (xs:List Nat) (n:Nat),(xs.map λ(c:Nat)=>aW c).eraseIdx n=(xs.eraseIdx n).map λ(c:Nat)=>aW c:=by
   intro xs;induction xs with
   |nil=>intro n;simp
   |cons x xs ih=>
    intro n;cases n with
    |zero=>rfl
    |succ n=>rw[dI,yQ,yQ,dI,ih]
  exact go L j
 rw[this]
abbrev lP (ps:List (Nat×Nat)):aA:=.list (ps.map kP)
theorem ZH (t:Option (Nat×Nat)):fS 0 (sA t)=af:=by cases t<;>rfl
theorem Ek {ls:List Ln}(ho:∀ l∈ls,iT l):∀ (n fuel:Nat) {L:List Nat} {ps:List (Nat×Nat)},L.length<=n->n<fuel->(∀ o∈L,o<ls.length)->L.Nodup->L.length<=50->ps.length+n<=100 ->
  ∃ x3,xt .s (aw (ah oF (aB 3) (eC .none))) (aT (gR 1 .s (aB 3)) (aT (qP 2 .s (ah bc (aB 3) (eC (.int 0)))) (bJ 3 0 .a (aL nG (aF (aB 0) (aF (aB 2) aJ)))))) fuel [s0 (ak ls),aa (1,lP ps),aa (1,lN L),s0 (sA (jC ls L))]
   = aa (.nx [s0 (ak ls),aa (1,lP (ps++(lg ls n L).1)),aa (1,lN (lg ls n L).2),x3])
 |n,0,L,ps,_,hf,_,_,_,_=>by omega
 |0,fuel+1,L,ps,h0,_,_,_,_,_=>by
  have:L=[]:=Hw.1 (by omega)
  rw[20];refine⟨s0 (sA (jC ls [])),?_⟩;rw[show(lg ls 0 []).1=[] from rfl,qC]
  rfl
 |n+1,fuel+1,L,ps,hn,hf,hL,nd,hl,hp=>by
  unfold lg;cases hfe:jC ls L with
  |none=>
   refine⟨s0 (sA ae),?_⟩;rw[qC]
   rfl
  |some p=>
   obtain⟨m1,m2⟩:=YQ hfe;have nd':=nd.erase p.1;have hL':∀ o∈L.erase p.1,o<ls.length:=λo m=>hL o (List.mem_of_mem_erase m)
   have ay:(L.erase p.1).length<=n:=by rw[K4 m1];omega
   have zi:(L.erase p.1).length<=50:=by rw[K4 m1];omega
   obtain⟨x3,ih⟩:=Ek ho n fuel (L:=L.erase p.1) (ps:=ps++[p]) ay (by omega) hL' nd' zi (by simp;omega)
   have body:Goes (aT (gR 1 .s (aB 3)) (aT (qP 2 .s (ah bc (aB 3) (eC (.int 0)))) (bJ 3 0 .a (aL nG (aF (aB 0) (aF (aB 2) aJ)))))) [s0 (ak ls),aa (1,lP ps),aa (1,lN L),s0 (kP p)]
     λo=>o=.nx [s0 (ak ls),aa (1,lP (ps++[p])),aa (1,lN (L.erase p.1)),s0 (sA (jC ls (L.erase p.1)))]:=by
    refine fV (λρ'=>ρ'=[s0 (ak ls),aa (1,lP (ps++[p])),aa (1,lN L),s0 (kP p)]) (uI rfl rfl (by simp;omega) ⟨_,rfl,by simp⟩) ?_
    rintro _ rfl;refine fV (λρ'=>ρ'=[s0 (ak ls),aa (1,lP (ps++[p])),aa (1,lN (L.erase p.1)),s0 (kP p)]) (Oz rfl rfl m1 ⟨_,rfl,rfl⟩) ?_
    rintro _ rfl;refine PJ ?_ (by simp) rfl
    exact evA (aY rfl (Cg ho hL' nd' zi)) (ZH _)
   obtain⟨o,eo,rfl⟩:=body;refine⟨x3,?_⟩;show((aT (gR 1 .s (aB 3)) (aT (qP 2 .s (ah bc (aB 3) (eC (.int 0)))) (bJ 3 0 .a (aL nG (aF (aB 0) (aF (aB 2) aJ))))) [s0 (ak ls),aa (1,lP ps),aa (1,lN L),s0 (kP p)]).bind λo=>match o with
    |.nx ρ'=>xt .s (aw (ah oF (aB 3) (eC .none))) (aT (gR 1 .s (aB 3)) (aT (qP 2 .s (ah bc (aB 3) (eC (.int 0)))) (bJ 3 0 .a (aL nG (aF (aB 0) (aF (aB 2) aJ)))))) fuel ρ'
    |.ct ρ'=>xt .s (aw (ah oF (aB 3) (eC .none))) (aT (gR 1 .s (aB 3)) (aT (qP 2 .s (ah bc (aB 3) (eC (.int 0)))) (bJ 3 0 .a (aL nG (aF (aB 0) (aF (aB 2) aJ)))))) fuel ρ'
    |.bk ρ'=>aa (.nx ρ')
    | .rt d=>aa (.rt d))=_
   rw[eo,bS];show xt .s _ _ fuel _=_;rw[ih,RO]
   rfl
def cE (ls:List Ln):List (Nat×Nat)×List Nat:=lg ls ls.length (bY ls.length)
theorem KM(ho:∀ l∈ls,iT l)(hn:ls.length<=50):iD [ak ls]=aa (.tuple [lP (cE ls).1,lN (cE ls).2]):=by
 have:∃ d,iD [ak ls]=aa d/\d=.tuple [lP (cE ls).1,lN (cE ls).2]:=by
  rw[10];refine cP rfl (by simp) ?_
  refine cP (d:=lN (bY ls.length)) (aY (ds:=[.int ls.length]) (bD (aY (ds:=[ak ls]) rfl (by rw[qZ,cJ])) rfl) ?_) (by simp) ?_
  .show(if -4096<=(ls.length:Int)/\(ls.length:Int)<=4096 then aa (rN (L2.upTo (ls.length:Int).toNat)) else ae)=_
   rw[if_pos ⟨by omega,by omega⟩]
   rfl
  have hL:∀ o∈bY ls.length,o<ls.length:=λo m=>gM.1 m
  have nd:(bY ls.length).Nodup:=Hr;have hl:(bY ls.length).length<=50:=by simpa using hn
  refine Ga (d:=sA (jC ls (bY ls.length))) (aY (ds:=[ak ls,lN (bY ls.length)]) rfl (Cg ho hL nd hl)) (ZH _) (by simp) ?_
  obtain⟨x3,e⟩:=Ek ho ls.length 100 (L:=bY ls.length) (ps:=[]) (by simp) (by omega) hL nd hl (by simp;omega)
  refine fE e ?_;exact⟨_,rfl,_,rfl,rfl⟩
 rw[3]
theorem D7{p:Nat×Nat}(h:jC ls L=aa p):p.2≠p.1/\yX ls L p.1 p.2:=by
 unfold jC at h;obtain⟨k,mk,h⟩:=K7 h;obtain⟨j,hj,rfl⟩:=kF.1 h;have:=Ig hj;unfold jA at this;obtain⟨h1,h2⟩:=jR.1 this;exact⟨of_decide_eq_true h1,of_decide_eq_true h2⟩
theorem Aif:z∈gV ks↔(.inr z:aI)∈ks:=by
 unfold gV;rw[sX];constructor
 .rintro⟨k,m,e⟩;cases k with
  |inl i=>cases e
  |inr y=>cases e;exact m
 .exact λm=>⟨_,m,rfl⟩
def ff (ls:List Ln):Nat->List aI:=λk=>(ls.getD k cn).2
theorem Dj:∀ {n:Nat} {L:List Nat},L.Nodup->vX (ff ls) (λk=>k∈L) (lg ls n L).1 (λk=>k∈(lg ls n L).2)
 |0,L,_=>λk=>Iff.rfl
 |n+1,L,nd=>by
  cases h:jC ls L with
  |none=>
   have e:lg ls (n+1) L=([],L):=by
    show(match jC ls L with|none=>([],L)|some p=>(p::(lg ls n (L.erase p.1)).1,(lg ls n (L.erase p.1)).2))=_
    rw[h]
   rw[e];exact λk=>Iff.rfl
  |some p=>
   have e:lg ls (n+1) L=(p::(lg ls n (L.erase p.1)).1,(lg ls n (L.erase p.1)).2):=by
    show(match jC ls L with|none=>([],L)|some p=>(p::(lg ls n (L.erase p.1)).1,(lg ls n (L.erase p.1)).2))=_
    rw[h]
   rw[e];obtain⟨m1,m2⟩:=YQ h;obtain⟨ne,cov⟩:=D7 h;refine⟨⟨m1,m2,hW ne,λz mz k hk cb mzk=>?_⟩,?_⟩
   .rcases cov z (Aif.2 mz) with c|c
    .exact Aif.1 c
    .exact absurd (Aif.2 mzk) (c k hk cb)
   .have e2:less (λk=>k∈L) p.1=λk=>k∈L.erase p.1:=funext λk=>propext (by rw[nd.mem_erase_iff];exact And.comm)
    rw[e2];exact Dj (nd.erase _)
theorem FQ (ls:List Ln):vX (ff ls) (λk=>k<ls.length) (cE ls).1 (λk=>k∈(cE ls).2):=by
 have:=Dj (ls:=ls) (n:=ls.length) (L:=bY ls.length) Hr;have e:(λk=>k∈bY ls.length)=λk=>k<ls.length:=funext λk=>propext gM
 rw[e] at this;exact this
theorem KI (T:aA)(ks:List aI)(row:List Int)(kn:List (aC×Int))(hk:ks.length<=100)(hn:kn.length<=100):oG [.tuple [T,tK ks],tI row,.dict (DN kn)]=aa (vN (eD ks row kn)):=by
 have:∃ d,oG [.tuple [T,tK ks],tI row,.dict (DN kn)]=aa d/\d=vN (eD ks row kn):=by
  rw[10];have e1:bV .s (aw (ah kx (aL cO (aF (aB 1) aJ)) (aL cO (aF (ah bc (aB 0) (eC (.int 1))) aJ)))) [aa (0,.tuple [T,tK ks]),aa (0,tI row),aa (0,.dict (DN kn)),ae,ae,ae,ae]=aa (decide (row.length≠ks.length)):=eI (Pf (ks:=ks) (row:=row) rfl rfl);by_cases hl:row.length=ks.length
  .refine fE (kN (e1.trans (by simp[hl]))) ?_
   refine cP (aY rfl (by show(if ik (DN kn)=af then aa (PyData.dict (DN kn)) else ae)=_;rw[V'];rfl)) (by simp) ?_
   have lz:(ks.zip row).length<=100:=by rw[yN];omega
   refine Sk (λkn' ρ'=>∃ x4 x5 x6:L2.Slot,ρ'=[aa (0,.tuple [T,tK ks]),aa (0,tI row),aa (0,.dict (DN kn)),aa (1,.dict (DN kn')),x4,x5,x6]) .none (eT eE kn (ks.zip row)) (Rj (xs:=ks.zip row) (q:=JI) (b0:=kn) eE _ .none (iu ?_) ⟨ae,ae,ae,rfl⟩ ?_) ?_ ?_
   .show iZ (aF (ah bc (aB 0) (eC (.int 1))) (aF (aB 1) aJ)) (vS [aa (0,.tuple [T,tK ks]),aa (0,tI row),aa (0,.dict (DN kn)),aa (1,.dict (DN kn)),ae,ae,ae])=_;unfold iZ;rw[show aF (ah bc (aB 0) (eC (.int 1))) (aF (aB 1) aJ) (vS [aa (0,.tuple [T,tK ks]),aa (0,tI row),aa (0,.dict (DN kn)),aa (1,.dict (DN kn)),ae,ae,ae])=aa [tK ks,tI row] from rfl,<-XG]
    rfl
   .rintro pre p post kn' _ ur hf ⟨x4,x5,x6,rfl⟩;have yw:kn'.length<=1000:=by
     have h1:=FW hf;have h2:pre.length<=(ks.zip row).length:=by rw[ur];simp
     omega
    exact⟨[aa (0,.tuple [T,tK ks]),aa (0,tI row),aa (0,.dict (DN kn)),aa (1,.dict (DN kn')),aa (0,kD p.1),aa (0,.int p.2),x6],rfl,B8 _ _ _ kn' yw p x6⟩
   .intro hf;refine⟨_,rfl,?_⟩;unfold eD;rw[if_pos hl,hf]
    rfl
   .rintro kn' hf _ ⟨x4,x5,x6,rfl⟩;refine⟨_,rfl,_,rfl,?_⟩;unfold eD;rw[if_pos hl,hf]
    rfl
  .refine oJ (fJ (e1.trans (by simp[hl])) (dA rfl ⟨_,rfl,_,rfl,?_⟩))
   unfold eD;rw[if_neg hl]
   rfl
 rw[3]
theorem An(b:Bk kds B wd)(t:aC)(K:aA):nF [.dict kds,.tuple [.str t,K]]=aa (aX (B t)):=by
 have:∃ d,nF [.dict kds,.tuple [.str t,K]]=aa d/\d=aX (B t):=by
  refine dW rfl (dA (b.get rfl rfl) ⟨_,rfl,rfl⟩)
 rw[3]
abbrev Kn:=List (aC×Int)
def bf (kn:Kn):aA:=.dict (DN kn)
def mB (bx:List Kn)(ks:List aI)(dr:List (List Int)):List Kn:=bx.flatMap λkn=>dr.filterMap λr=>eD ks r kn
theorem AJ {β:Type}(f:α->Option β):∀ (xs:List α) (aj:List β),xs.foldl (λa x=>a++(f x).toList) aj=aj++xs.filterMap f
 |[],aj=>by simp
 |x::xs,aj=>by
  rw[jQ,AJ f xs,RL];cases f x<;>simp
theorem ML {β:Type}(f:α->List β):∀ (xs:List α) (aj:List β),xs.foldl (λa x=>a++f x) aj=aj++xs.flatMap f
 |[],aj=>by simp
 |x::xs,aj=>by
  rw[jQ,ML f xs,List.flatMap_cons,RO]
theorem a9 (t:aC)(ks:List aI)(dr:List (List Int))(bx:List Kn)(hk:ks.length<=100)(hn:∀ kn∈bx,kn.length<=100)(hm:bx.length*dr.length<=90000) :
  wY [.list (bx.map bf),bA (t,ks),aX dr]=aa (.list ((mB bx ks dr).map bf)):=by
 have:∃ d,wY [.list (bx.map bf),bA (t,ks),aX dr]=aa d/\d=.list ((mB bx ks dr).map bf):=by
  rw[10];refine cP rfl (by simp) ?_
  let A:List L2.Slot:=[s0 (.list (bx.map bf)),s0 (bA (t,ks)),s0 (aX dr)]
  refine fV (λρ'=>∃ x4 x5 x6:L2.Slot,ρ'=A++[aa (1,.list ((mB bx ks dr).map bf)),x4,x5,x6]) ?_ ?_
  .refine iU (xs:=bx) (q:=bf) (b0:=[]) (λaj kn=>aj++dr.filterMap λr=>eD ks r kn) (λi aj ρ'=>∃ x4 x5 x6:L2.Slot,aj.length<=i*dr.length/\ρ'=A++[aa (1,.list (aj.map bf)),x4,x5,x6]) (iu (fL rfl)) ⟨ae,ae,ae,eO _,rfl⟩ ?_ ?_
   .rintro i kn aj _ hx ⟨x4,x5,x6,ha,rfl⟩;have hi:i<bx.length:=(cT.1 hx).1;have vq:=hn kn (fH hx);have yw:(i+1)*dr.length<=90000:=dG (Nat.mul_le_mul_right _ hi) hm;have hs:(i+1)*dr.length=i*dr.length+dr.length:=Nat.succ_mul _ _;refine⟨A++[aa (1,.list (aj.map bf)),s0 (bf kn),x5,x6],rfl,?_⟩;refine iU (xs:=dr) (q:=bC) (b0:=aj) (λaj r=>aj++(eD ks r kn).toList) (λj bq ρ'=>∃ x5 x6:L2.Slot,bq.length<=aj.length+j/\ρ'=A++[aa (1,.list (bq.map bf)),s0 (bf kn),x5,x6]) (iu (fL rfl)) ⟨x5,x6,bE _,rfl⟩ ?_ ?_
    .rintro j r bq _ hr ⟨x5,x6,Go,rfl⟩;have hj:j<dr.length:=(cT.1 hr).1;refine⟨A++[aa (1,.list (bq.map bf)),s0 (bf kn),s0 (bC r),x6],rfl,?_⟩;have hf:=KI (.str t) ks r kn hk vq;refine cP (d:=vN (eD ks r kn)) (aY (ds:=[.tuple [.str t,tK ks],tI r,.dict (DN kn)]) rfl hf) (by simp[A]) ?_
     cases hfa:eD ks r kn with
     |none=>exact jY (eI (aP (a:=vN ae) (b:=.none) rfl rfl rfl)) (mH ⟨_,.inl rfl,_,_,by simpa using(by omega:bq.length<=aj.length+(j+1)),by rw[Option.toList_none,qC];rfl⟩)
     |some kn'=>
      refine fJ (eI (aP (a:=vN (aa kn')) (b:=.none) rfl rfl rfl)) (uI (d:=bf kn') (ds:=bq.map bf) rfl rfl (by simp;omega) ⟨_,.inl rfl,_,_,by simp;omega,by rw[Option.toList_some,kH];rfl⟩)
    .rintro _ ⟨x5,x6,Go,rfl⟩;refine⟨_,.inl rfl,_,_,_,?_,by rw[AJ]⟩
     rw[AJ] at Go;omega
   .rintro _ ⟨x4,x5,x6,ha,rfl⟩;rw[ML];exact⟨_,rfl,_,_,_,rfl⟩
  rintro _ ⟨x4,x5,x6,rfl⟩;exact zW rfl ⟨_,rfl,rfl⟩
 rw[3]
def oQ (B:aC->List (List Int)):List Ln->Nat
 |[]=>1
 |l::r=>max 1 (B l.1).length*oQ B r
theorem WM (B:aC->List (List Int)):∀ (ls:List Ln) (a:Int),ls.foldl (λa l=>a*((max 1 (B l.1).length:Nat):Int)) a=a*(oQ B ls:Int)
 |[],a=>by simp[oQ]
 |l::r,a=>by
  rw[jQ,WM B r];show _=a*((max 1 (B l.1).length*oQ B r:Nat):Int);rw[Int.natCast_mul,Int.mul_assoc]
theorem JL (ds:List aA):cO [.list ds]=aa (.int ds.length):=by simp[cO]
theorem G1(hB:∀ t,(B t).length<64)(ls:List Ln):uO [.list (ls.map λl=>aX (B l.1))]=aa (.int (oQ B ls)):=by
 have:∃ d,uO [.list (ls.map λl=>aX (B l.1))]=aa d/\d=.int (oQ B ls):=by
  rw[10];refine cP rfl (by simp) ?_
  refine fV (λρ'=>∃ x3:L2.Slot,ρ'=[s0 (.list (ls.map λl=>aX (B l.1))),s0 (.int (oQ B ls)),x3]) ?_ ?_
  .refine iU (λa l=>a*((max 1 (B l.1).length:Nat):Int)) (λi a ρ'=>∃ x3:L2.Slot,ρ'=[s0 (.list (ls.map λl=>aX (B l.1))),s0 (.int a),x3]) (iu (fL rfl)) ⟨ae,rfl⟩ ?_ ?_
   .rintro i l a _ hx ⟨x3,rfl⟩;refine⟨[s0 (.list (ls.map λl=>aX (B l.1))),s0 (.int a),s0 (aX (B l.1))],rfl,?_⟩
    have ue:=hB l.1;generalize hr:B l.1=R at ue ⊢;have em:vQ [.int 1,.int (R.map bC).length]=aa (.int ((max 1 R.length:Nat):Int)):=by
     show aa (aW (if ((R.map bC).length:Int) > 1 then((R.map bC).length:Int) else 1))=_
     rw[cJ]
     congr 2
     split<;>omega
    have hf:(((max 1 R.length:Nat):Int)).natAbs<2^64:=by omega
    exact zY (aP rfl (aY (bD rfl (bD (aY rfl (JL _)) rfl)) em) (mul_r hf)) (by simp) ⟨_,.inl rfl,_,rfl⟩
   .rintro _ ⟨x3,rfl⟩;rw[WM,Int.one_mul];exact⟨_,rfl,x3,rfl⟩
  rintro _ ⟨x3,rfl⟩;exact dA rfl ⟨_,rfl,rfl⟩
 rw[3]
theorem Uh(b:Bk kds B wd)(ls:List Ln)(hl:ls.length<=1000){Y:List (Option aA)}(e1:Y[0]?.join=aa (.dict kds))(e2:Y[1]?.join=aa (.tuple (ls.map bA))) :
  gb [ae,aa 0] (bt (aB 1)) (gB 0) cU (aL nF (aF (aB 1) (aF (aB 0) aJ))) Y=aa (.list (ls.map λl=>aX (B l.1))):=by
 have e:=UO (cap:=[ae,aa 0]) (fi:=bt (aB 1)) (T:=gB 0) (t:=cU) (f:=aL nF (aF (aB 1) (aF (aB 0) aJ))) (Y:=Y) (ds:=ls.map bA) (λd=>match d with|.tuple [.str t,_]=>aX (B t)|d=>d) (pK e2) (by rw[cJ];omega) (λd m=>by
  obtain⟨l,_,rfl⟩:=bI.1 m;refine⟨[aa (bA l),aa (.dict kds)],?_,rfl,aY (ds:=[.dict kds,bA l]) rfl (An b l.1 _)⟩;show aa ((lY [ae,aa 0] Y).set 0 (aa (bA l)))=_;simp[lY,e1])
 rw[e,eP]
 rfl
theorem z5(b:Bk kds B wd)(ls:List Ln)(hl:ls.length<=1000)(hw:oQ B ls<=4096):xQ [.dict kds,.tuple (ls.map bA)]=aa .none:=by
 have e1:xM [.list (ls.map λl=>aX (B l.1))]=aa .none:=by
  have c:bV .s (aw (ah vw (aL uO (aF (aB 0) aJ)) (eC (.int 4096)))) [s0 (.list (ls.map λl=>aX (B l.1)))]=aa ag:=eI (aP (a:=.int (oQ B ls)) (b:=.int 4096) (aY (ds:=[.list (ls.map λl=>aX (B l.1))]) rfl (G1 b.few ls)) rfl (by
   show aa (kW (decide ((oQ B ls:Int) > 4096)))=_;rw[decide_eq_false (by omega)]))
  show outD (OK [s0 (.list (ls.map λl=>aX (B l.1)))])=_
  unfold OK;rw[kN c]
  rfl
 show outD (OJ [s0 (.dict kds),s0 (.tuple (ls.map bA))])=_;have e2:eV 0 .s (aL xM (aF (gb [ae,aa 0] (bt (aB 1)) (gB 0) cU (aL nF (aF (aB 1) (aF (aB 0) aJ)))) aJ)) [s0 (.dict kds),s0 (.tuple (ls.map bA))]=aa .none:=
  aY (bD (Uh b ls hl rfl rfl) rfl) e1
 unfold OJ tY;rw[e2]
 rfl
theorem Fu (bx:List Kn)(ks:List aI)(dr:List (List Int)):(mB bx ks dr).length<=bx.length*dr.length:=by
 unfold mB;induction bx with
 |nil=>simp
 |cons kn r ih=>
  rw[List.flatMap_cons,mU,fY,Nat.succ_mul];have:=DB (λr=>eD ks r kn) dr
  omega
theorem Ep{kn kn':Kn}(h:eD ks r kn=aa kn'):kn'.length<=kn.length+ks.length:=by
 unfold eD at h;obtain⟨h1,h2⟩:=Dk h;have:=FW h2;rw[yN] at this;omega
def rowOf (zs:List aC)(kn:Kn):List Int:=zs.map λz=>(cF kn z).getD 0
theorem D3 {zs:List aC}{kn:Kn}(hl:zs.length<=1000)(h:∀ z∈zs,∃ v,cF kn z=aa v):oM [.list (zs.map cK),bf kn]=aa (bC (rowOf zs kn)):=by
 have:∃ d,oM [.list (zs.map cK),bf kn]=aa d/\d=bC (rowOf zs kn):=by
  rw[10];have e:=UO (cap:=[ae,aa 1]) (fi:=bt (aB 0)) (T:=gB 0) (t:=cU) (f:=iP (aB 1) (aB 0) (aB 0)) (Y:=vS [s0 (.list (zs.map cK)),s0 (bf kn)]) (ds:=zs.map cK) (λd=>match d with|.str z=>.int ((cF kn z).getD 0)|d=>d) (fL rfl) (by rw[cJ];omega) (λd m=>by
   obtain⟨z,mz,rfl⟩:=bI.1 m;obtain⟨v,hv⟩:=h z mz;refine⟨[aa (.str z),aa (bf kn)],rfl,rfl,?_⟩;have:=FL (fd:=aB 1) (fk:=aB 0) (fx:=aB 0) (Y:=[aa (.str z),aa (bf kn)]) (kds:=DN kn) (kd:=.str z) (x:=.str z) (key:=.inr z) rfl rfl rfl rfl (V' kn);rw[this,AA];show _=aa (aW ((cF kn z).getD 0));rw[hv]
   rfl)
  rw[eP] at e;have e':zs.map ((λd=>match d with|.str z=>aW ((cF kn z).getD 0)|d=>d)∘cK)=(rowOf zs kn).map aW:=by
   unfold rowOf;rw[eP]
   rfl
  rw[e'] at e;exact dA (aY (bD e rfl) rfl) ⟨_,rfl,rfl⟩
 rw[3]
def uy (a b:Ln):List aC:=(eJ [a]).filter λz=>decide (z∈gV b.2)
theorem A2m:z∈uy a b↔(.inr z:aI)∈a.2/\(.inr z:aI)∈b.2:=by
 unfold uy;rw[pC,Ajn,decide_eq_true_eq,Aif];refine and_congr_left λ_=>?_
 constructor
 .rintro⟨l,m,h⟩;rw[bX.1 m] at h;exact Aif.1 h
 .exact λh=>⟨a,bX.2 rfl,Aif.2 h⟩
theorem Bo(h:iT l):(eJ [l]).length<=6:=by
 have h1:=GC (gV l.2) [];have h2:(gV l.2).length<=l.2.length:=DB _ _;have h3:=h.1;have e:eJ [l]=(gV l.2).foldl gG []:=by
  unfold eJ jK;simp
 rw[e];simp at h1;omega
theorem Ow(h:iT a):(uy a b).length<=6:=dG (IA _ _) (Bo h)
theorem B5(ha:iT a):wO [bA a,bA b]=aa (.list ((uy a b).map cK)):=by
 have el:=LJ (λx m=>by rw[bX.1 m];exact ha) (by simp)
 have:∃ d,wO [bA a,bA b]=aa d/\d=.list ((uy a b).map cK):=by
  rw[10];refine dA ?_ ⟨_,rfl,rfl⟩;refine iH (λz=>decide (z∈gV b.2)) cK (fL (aY (bD (EK rfl) rfl) el)) (dG (Bo ha) (by decide)) λz _=>?_
  refine⟨[aa (.str z),aa (bA b)],rfl,?_,λ_=>rfl⟩
  exact eI (aP rfl rfl (Dp z b.2))
 rw[3]
theorem VT(h6:l.2.length<=6){zs:List aC}(hz:∀ z∈zs,(.inr z:aI)∈l.2)(hl:zs.length<=1000)(hr:∃ v,r=l.2.map (tv v)):pM [bA l,tI r,.list (zs.map cK)]=aa (bC (hX l.2 zs r)):=by
 obtain⟨v,rfl⟩:=hr;obtain⟨kn,ef,hk⟩:=PX l.2 v;have e1:=KI (.str l.1) l.2 (l.2.map (tv v)) [] (by omega) (by simp)
 rw[ef] at e1;have e2:=D3 hl λz m=>⟨_,hk z (hz z m)⟩
 have e3:rowOf zs kn=hX l.2 zs (l.2.map (tv v)):=by
  rw[FI hz];exact qA λz m=>by rw[hk z (hz z m)];rfl
 have:∃ d,pM [bA l,tI (l.2.map (tv v)),.list (zs.map cK)]=aa d/\d=bC (hX l.2 zs (l.2.map (tv v))):=by
  rw[10];refine dA (aY (bD rfl (bD (aY rfl e1) rfl)) (by rw[<-e3];exact e2)) ⟨_,rfl,rfl⟩
 rw[3]
def zj (r:List Int):List aA×aA:=(r.map aW,.bool af)
theorem ZN:∀ (U:List (List Int)),tL (U.map λr=>cV [bC r,.bool af])=aa (U.map zj)
 |[]=>rfl
 |r::U=>by
  show(if (bR (r.map aW)&&decide (cL (r.map aW)<=6))=af then(tL (U.map λr=>cV [bC r,.bool af])).bind λps=>aa ((r.map aW,kW af)::ps) else ae)=_
  rw[AE,IK,if_pos (decide_eq_true (dG (GK r) (by decide))),ZN U]
  rfl
theorem LP {a b:List Int}(h:a.map aW=b.map aW):a=b:=by
 have:=congrArg (List.map xo) h
 rwa [uF,uF] at this
theorem Rc (K:List (List Int))(k:List Int):oh ag (bC k) (.dict ((.none,.none)::lC (K.map zj) []))=aa (.bool (K.contains k)):=by
 show(if (bR (k.map aW)&&decide (cL (k.map aW)<=6))=af then aa (kW (ag != (lA (lC (K.map zj) []) (k.map aW)).isSome)) else ae)=_
 have hk:∀ p∈K.map zj,bR p.1=af:=λp m=>by
  obtain⟨r,_,rfl⟩:=bI.1 m;exact AE r
 rw[AE,IK,if_pos (decide_eq_true (dG (GK k) (by decide))),Yx hk (AE k)]
 have e:decide (k.map aW∈(K.map zj).map (·.1))=K.contains k:=by
  rw[pE,decide_eq_true_eq,List.contains_iff_mem,eP,bI];constructor
  .rintro⟨r,m,e⟩;exact LP e ▸ m
  .exact λm=>⟨k,m,rfl⟩
 rw[e];cases K.contains k<;>rfl
theorem Bs(ha:iT a)(hb:iT b){U:List (List Int)}(hR:∀ r∈R,∃ v,r=a.2.map (tv v))(hU:∀ r∈U,∃ v,r=b.2.map (tv v))(lR:R.length<=1000)(lU:U.length<=1000) :
  sP [bA a,aX R,bA b,aX U]=aa (aX (tQ a.2 b.2 (uy a b) R U)):=by
 have hl:(uy a b).length<=1000:=dG (Ow ha) (by decide)
 have ka:∀ r∈R,pM [bA a,tI r,.list ((uy a b).map cK)]=aa (bC (hX a.2 (uy a b) r)):=λr m=>VT ha.1 (λz mz=>(A2m.1 mz).1) hl (hR r m)
 have kb:∀ r∈U,pM [bA b,tI r,.list ((uy a b).map cK)]=aa (bC (hX b.2 (uy a b) r)):=λr m=>VT hb.1 (λz mz=>(A2m.1 mz).2) hl (hU r m)
 have ec:=B5 (b:=b) ha;unfold tQ;generalize uy a b=zs at ka kb ec;have:∃ d,sP [bA a,aX R,bA b,aX U]=aa d/\d=aX (R.filter λr=>(U.map (hX b.2 zs)).contains (hX a.2 zs r)):=by
  rw[10];refine cP (d:=.list (zs.map cK)) (aY (ds:=[bA a,bA b]) rfl ec) (by simp) ?_
  refine cP (d:=.dict ((.none,.none)::lC ((U.map (hX b.2 zs)).map zj) [])) (aY (ds:=[.list ((U.map (hX b.2 zs)).map λr=>cV [bC r,.bool af])]) (bD ?_ rfl) ?_) (by simp) ?_
  .have:=iH (cap:=[ae,aa 2,aa 4]) (fi:=bt (aB 3)) (T:=gB 0) (t:=cU) (f:=jU (aF (aL pM (aF (aB 1) (aF (aB 0) (aF (aB 2) aJ)))) (aF (eC (.bool af)) aJ)))
    (Y:=vS [s0 (bA a),s0 (aX R),s0 (bA b),s0 (aX U),s0 (.list (zs.map cK)),ae]) (xs:=U) (q:=bC) (λ_=>af) (λr=>cV [bC (hX b.2 zs r),.bool af]) (fL rfl) (by omega) λr m=>⟨[aa (bC r),aa (bA b),aa (.list (zs.map cK))],rfl,rfl,λ_=>EK (bD (aY (ds:=[bA b,tI r,.list (zs.map cK)]) rfl (kb r m)) rfl)⟩
   rw[lW.2 λ_ _=>rfl] at this
   rw[eP];exact this
  .show(tL _).bind _=_;rw[ZN]
   rfl
  refine dA (d:=aX (R.filter λr=>(U.map (hX b.2 zs)).contains (hX a.2 zs r))) ?_ ⟨_,rfl,rfl⟩
  refine iH (xs:=R) (q:=bC) (λr=>(U.map (hX b.2 zs)).contains (hX a.2 zs r)) bC (fL rfl) (by omega) λr m=>⟨[aa (bC r),aa (.dict ((.none,.none)::lC ((U.map (hX b.2 zs)).map zj) [])),aa (bA a),aa (.list (zs.map cK))],rfl,?_,λ_=>rfl⟩
  exact eI (aP (a:=bC (hX a.2 zs r)) (b:=.dict ((.none,.none)::lC ((U.map (hX b.2 zs)).map zj) [])) (aY (ds:=[bA a,tI r,.list (zs.map cK)]) rfl (ka r m)) rfl (Rc _ _))
 rw[3]
theorem XM{j:Int}{jn:Nat}(h:f (vA Y)=aa d)(hf:fS 1 d=af)(hg:getL i Y=aa ds)(hk:g (vS Y)=aa (.int j))(hj:ni ds.length j=aa jn)(k:P (.nx (Y.set i (aa (1,.list (ds.set jn d)))))):Goes (zT i .a f .s g) Y P:=⟨_,by
 unfold zT;rw[evA h hf,bS,hg,bS];show((g (vS Y)).bind _)=_;rw[hk,bS];show((ni ds.length j).bind λj=>aa (Out.nx (Y.set i (aa (1,.list (ds.set j d))))))=_
 rw[hj,bS],k⟩
def ar (t:dH):aA:=.list (t.map aX)
def nh (ls:List Ln)(a b:Nat):List aC:=uy (ls.getD a cn) (ls.getD b cn)
theorem PK (ls:List Ln):Cm (ff ls) (nh ls):=λa b z=>A2m
theorem CC {t:dH}(h:k<t.length):bc (ar t) (.int k)=aa (aX (t.getD k [])):=by
 refine uK ?_;rw[eW,fA h];simp[kI,h]
theorem OU {t:dH}(R:List (List Int)):(t.map aX).set k (aX R)=(t.set k R).map aX:=by rw[List.map_set]
theorem Ei (R:List (List Int)):fS 1 (aX R)=af:=by
 exact eB.2 λd m=>by
  obtain⟨r,_,rfl⟩:=bI.1 m;exact LZ r
theorem Xv(ho:∀ l∈ls,iT l)(hn:ls.length<=50){t:dH}(hl:t.length=ls.length)(hf:kL (ff ls) t)(hs:∀ k,(t.getD k []).length<=1000) :
  xN [ak ls,ar t]=aa (ar (vc (ff ls) (nh ls) t (cE ls).1)):=by
 obtain⟨_,s2⟩:=uL (FQ ls);have ok:∀ k,k<ls.length->iT (ls.getD k cn):=λk h=>by
  have:ls.getD k cn=ls[k]:=by simp[kI,h]
  rw[this];exact ho _ (iW h)
 have:∃ d,xN [ak ls,ar t]=aa d/\d=ar (vc (ff ls) (nh ls) t (cE ls).1):=by
  rw[10];refine cP (aY rfl rfl) (by simp) ?_
  refine fV (λρ'=>∃ x3 x4:L2.Slot,ρ'=[s0 (ak ls),s0 (ar t),aa (1,ar (vc (ff ls) (nh ls) t (cE ls).1)),x3,x4]) ?_ ?_
  .refine iU (xs:=(cE ls).1) (q:=kP) (b0:=t) (λt q=>tf (ff ls) (nh ls) t q.2 q.1) (λ_ t' ρ'=>(kL (ff ls) t'/\t'.length=ls.length/\∀ k,(t'.getD k []).length<=1000)/\∃ x3 x4:L2.Slot,ρ'=[s0 (ak ls),s0 (ar t),aa (1,ar t'),x3,x4]) (iu (fL ?_)) ⟨⟨hf,hl,hs⟩,ae,ae,rfl⟩ ?_ ?_
   .show((aL iD (aF (aB 0) aJ)) (vS [s0 (ak ls),s0 (ar t),aa (1,ar t),ae,ae])).bind (Y1 0)=_;rw[aY (ds:=[ak ls]) rfl (KM ho hn)]
    rfl
   .rintro i q t' _ hq ⟨⟨g1,g2,g3⟩,x3,x4,rfl⟩;obtain⟨m1,m2⟩:=s2 q (fH hq);have k1:q.1<t'.length:=by rw[g2];exact m1
    have k2:q.2<t'.length:=by rw[g2];exact m2
    refine⟨[s0 (ak ls),s0 (ar t),aa (1,ar t'),s0 (.int q.1),s0 (.int q.2)],rfl,?_⟩;have ep:=Bs (ok _ m2) (ok _ m1) (g1 q.2) (g1 q.1) (g3 _) (g3 _);refine XM (aY (bD (aP rfl rfl (pJ m2)) (bD (aP rfl rfl (CC k2)) (bD (aP rfl rfl (pJ m1)) (bD (aP rfl rfl (CC k1)) rfl)))) ep) (Ei _) rfl rfl (EO (by rw[cJ];exact k2)) ⟨_,.inl rfl,⟨FB g1 k2,(wG _ _ _).trans g2,λk=>dG (KJ k2 k).length_le (g3 k)⟩,s0 (.int q.1),s0 (.int q.2),?_⟩
    rw[OU]
    rfl
   .rintro _ ⟨_,x3,x4,rfl⟩;exact⟨_,rfl,x3,x4,rfl⟩
  rintro _ ⟨x3,x4,rfl⟩;exact zW rfl ⟨_,rfl,rfl⟩
 rw[3]
theorem Zw(ho:∀ l∈ls,iT l)(hn:ls.length<=50){t:dH}(hl:t.length=ls.length)(hf:kL (ff ls) t)(hs:∀ k,(t.getD k []).length<=1000) :
  xC [ak ls,ar t]=aa (ar (og (ff ls) (nh ls) t (cE ls).1)):=by
 obtain⟨_,s2⟩:=uL (FQ ls);have ok:∀ k,k<ls.length->iT (ls.getD k cn):=λk h=>by
  have:ls.getD k cn=ls[k]:=by simp[kI,h]
  rw[this];exact ho _ (iW h)
 have:∃ d,xC [ak ls,ar t]=aa d/\d=ar (og (ff ls) (nh ls) t (cE ls).1):=by
  rw[10];refine cP (n:=1) (d:=ar t) (aY (ds:=[ar t]) rfl rfl) (by simp) ?_
  refine fV (λρ'=>∃ x3 x4:L2.Slot,ρ'=[s0 (ak ls),s0 (ar t),aa (1,ar (og (ff ls) (nh ls) t (cE ls).1)),x3,x4]) ?_ ?_
  .refine iU (xs:=(cE ls).1.reverse) (q:=kP) (b0:=t) (λt q=>tf (ff ls) (nh ls) t q.1 q.2) (λ_ t' ρ'=>(kL (ff ls) t'/\t'.length=ls.length/\∀ k,(t'.getD k []).length<=1000)/\∃ x3 x4:L2.Slot,ρ'=[s0 (ak ls),s0 (ar t),aa (1,ar t'),x3,x4]) (iu ?_) ⟨⟨hf,hl,hs⟩,ae,ae,rfl⟩ ?_ ?_
   .have e0:oV 0 (aL iD (aF (aB 0) aJ)) (vS [s0 (ak ls),s0 (ar t),aa (1,ar t),ae,ae])=aa (.list ((cE ls).1.map kP)):=by
     show((aL iD (aF (aB 0) aJ)) (vS [s0 (ak ls),s0 (ar t),aa (1,ar t),ae,ae])).bind (Y1 0)=_;rw[aY (ds:=[ak ls]) rfl (KM ho hn)]
     rfl
    have e1:aF (oV 0 (aL iD (aF (aB 0) aJ))) aJ (vS [s0 (ak ls),s0 (ar t),aa (1,ar t),ae,ae])=aa [.list ((cE ls).1.map kP)]:=bD e0 rfl;show(aF (oV 0 (aL iD (aF (aB 0) aJ))) aJ (vS [s0 (ak ls),s0 (ar t),aa (1,ar t),ae,ae])).bind _=_;rw[e1];show aa ((cE ls).1.map kP).reverse=_;rw[List.map_reverse]
   .rintro i q t' _ hq ⟨⟨g1,g2,g3⟩,x3,x4,rfl⟩;obtain⟨m1,m2⟩:=s2 q (List.mem_reverse.1 (fH hq));have k1:q.1<t'.length:=by rw[g2];exact m1
    have k2:q.2<t'.length:=by rw[g2];exact m2
    refine⟨[s0 (ak ls),s0 (ar t),aa (1,ar t'),s0 (.int q.1),s0 (.int q.2)],rfl,?_⟩;have ep:=Bs (ok _ m1) (ok _ m2) (R:=t'.getD q.1 []) (U:=t'.getD q.2 []) (g1 q.1) (g1 q.2) (g3 _) (g3 _);refine XM (d:=aX (tQ (ls.getD q.1 cn).2 (ls.getD q.2 cn).2 (nh ls q.1 q.2) (t'.getD q.1 []) (t'.getD q.2 []))) (j:=q.1) (jn:=q.1) (ds:=t'.map aX) (aY (ds:=[bA (ls.getD q.1 cn),aX (t'.getD q.1 []),bA (ls.getD q.2 cn),aX (t'.getD q.2 [])]) (bD (aP (a:=ak ls) (b:=.int q.1) rfl rfl (pJ m1)) (bD (aP (a:=ar t') (b:=.int q.1) rfl rfl (CC k1)) (bD (aP (a:=ak ls) (b:=.int q.2) rfl rfl (pJ m2)) (bD (aP (a:=ar t') (b:=.int q.2) rfl rfl (CC k2)) rfl)))) ep) (Ei _) rfl rfl (EO (by rw[cJ];exact k1)) ⟨_,.inl rfl,⟨FB g1 k1,(wG _ _ _).trans g2,λk=>dG (KJ k1 k).length_le (g3 k)⟩,s0 (.int q.1),s0 (.int q.2),?_⟩
    rw[OU]
    rfl
   .rintro _ ⟨_,x3,x4,rfl⟩;exact⟨_,rfl,x3,x4,rfl⟩
  rintro _ ⟨x3,x4,rfl⟩;exact zW rfl ⟨_,rfl,rfl⟩
 rw[3]
def lx (B:aC->List (List Int))(l:Ln):List (List Int):=vf ((B l.1).filter λr=>(eD l.2 r []).isSome)
theorem A6o:r∈lx B l↔r∈B l.1/\∃ v,r=l.2.map (tv v):=by
 unfold lx;rw[KF,pC];refine and_congr_right λ_=>?_
 rw[yH];exact Ts
theorem So (B:aC->List (List Int))(l:Ln):(lx B l).length<=(B l.1).length:=by
 unfold lx;rw[Du];exact IA _ _
theorem J1 (b:Bk kds B wd)(h6:l.2.length<=6):uM [.dict kds,bA l]=aa (aX (lx B l)):=by
 have es:vW [aX ((B l.1).filter λr=>(eD l.2 r []).isSome)]=aa (aX (lx B l)):=JT (b.pos l.1) (λr m=>b.wid l.1 r (pC.1 m).1) (QY (IA _ _) (b.few l.1))
 have:∃ d,uM [.dict kds,bA l]=aa d/\d=aX (lx B l):=by
  have e:=iH (cap:=[ae,aa 1]) (fi:=bt (aL nF (aF (aB 0) (aF (aB 1) aJ)))) (T:=gB 0) (t:=aw (ah oF (aL oG (aF (aB 1) (aF (aB 0) (aF (eC (.dict [])) aJ)))) (eC .none))) (f:=aB 0)
   (Y:=vS [s0 (.dict kds),s0 (bA l)]) (xs:=B l.1) (q:=bC) (λr=>(eD l.2 r []).isSome) bC (fL (aY (ds:=[.dict kds,bA l]) rfl (An b l.1 _))) (by have:=b.few l.1;omega) (λr m=>by
    refine⟨[aa (bC r),aa (bA l)],rfl,?_,λ_=>rfl⟩
    have hf:=KI (.str l.1) l.2 r [] (by omega) (by simp)
    refine eI (aP (a:=vN (eD l.2 r [])) (b:=.none) (aY (ds:=[bA l,tI r,.dict (DN [])]) rfl hf) rfl ?_);cases eD l.2 r []<;>rfl)
  refine dW rfl (dA (d:=aX (lx B l)) (aY (bD e rfl) es) ⟨_,rfl,rfl⟩)
 rw[3]
theorem j3 (b:Bk kds B wd)(h6:∀ l∈ls,l.2.length<=6)(hn:ls.length<=50):xR [.dict kds,ak ls]=aa (ar (ls.map (lx B))):=by
 have:∃ d,xR [.dict kds,ak ls]=aa d/\d=ar (ls.map (lx B)):=by
  have e:=iH (cap:=[ae,aa 0]) (fi:=bt (aB 1)) (T:=gB 0) (t:=cU) (f:=aL uM (aF (aB 1) (aF (aB 0) aJ)))
   (Y:=vS [s0 (.dict kds),s0 (ak ls)]) (xs:=ls) (q:=bA) (λ_=>af) (λl=>aX (lx B l)) rfl (by omega) λl m=>⟨[aa (bA l),aa (.dict kds)],rfl,rfl,λ_=>aY (ds:=[.dict kds,bA l]) rfl (J1 b (h6 l m))⟩
  rw[lW.2 λ_ _=>rfl] at e
  refine dW rfl (dA ?_ ⟨_,rfl,rfl⟩);unfold ar;rw[eP];exact e
 rw[3]
theorem Ri (ls:List Ln):kL (ff ls) (ls.map (lx B)):=λk r m=>by
 rw[kI,eW] at m;unfold ff;rw[kI];cases h:ls[k]? with
 |none=>rw[h] at m;simp at m
 |some l=>
  rw[h] at m;exact(A6o.1 m).2
abbrev LR:=Ln×List (List Int)
def gA:List LR->Nat
 |[]=>1
 |p::r=>max 1 p.2.length*gA r
theorem YC:∀ ps,1<=gA ps
 |[]=>bE _
 |p::r=>HS (Nat.le_max_left 1 p.2.length) (YC r)
theorem LV:∀ xs ys,gA (xs++ys)=gA xs*gA ys
 |[],ys=>(Nat.one_mul _).symm
 |p::r,ys=>by
  show max 1 p.2.length*gA (r++ys)=max 1 p.2.length*gA r*gA ys;rw[LV r ys,CU]
theorem C7 (ps:List LR)(i:Nat):gA (ps.take i)<=gA ps:=by
 have e:gA ps=gA (ps.take i)*gA (ps.drop i):=by rw[<-LV,Hn]
 rw[e];exact K2 _ (YC _)
def fC (ps:List LR):List Kn:=ps.foldl (λbx p=>mB bx p.1.2 p.2) [[]]
theorem XX (f g:LR->aA):∀ ps:List LR,yK pairD (ps.map f) (ps.map g)=ps.map λp=>pairD (f p) (g p)
 |[]=>rfl
 |p::r=>by
  rw[dI,dI,List.zipWith_cons_cons,XX f g r,dI]
theorem Xz (ps:List LR)(hl:ps.length<=16)(h6:∀ p∈ps,p.1.2.length<=6)(hw:gA ps<=4096) :
  wL [.tuple (ps.map λp=>bA p.1),.list (ps.map λp=>aX p.2)]=aa (.list ((fC ps).map bf))/\(fC ps).length<=gA ps/\∀ kn∈fC ps,kn.length<=96:=by
 have:∃ d,wL [.tuple (ps.map λp=>bA p.1),.list (ps.map λp=>aX p.2)]=aa d/\d=.list ((fC ps).map bf)/\(fC ps).length<=gA ps/\∀ kn∈fC ps,kn.length<=96:=by
  rw[10];refine cP (sF rfl) (by simp) ?_
  let A:List L2.Slot:=[s0 (.tuple (ps.map λp=>bA p.1)),s0 (.list (ps.map λp=>aX p.2))]
  refine fV (λρ'=>∃ x3 x4:L2.Slot,(fC ps).length<=gA ps/\(∀ kn∈fC ps,kn.length<=96)/\ρ'=A++[s0 (.list ((fC ps).map bf)),x3,x4]) ?_ ?_
  .refine iU (xs:=ps) (q:=λp=>pairD (bA p.1) (aX p.2)) (b0:=[[]]) (λbx p=>mB bx p.1.2 p.2) (λi bx ρ'=>∃ x3 x4:L2.Slot,bx.length<=gA (ps.take i)/\(∀ kn∈bx,kn.length<=6*i)/\ρ'=A++[s0 (.list (bx.map bf)),x3,x4]) (iu ?_) ⟨ae,ae,bE _,λkn m=>by rw[bX.1 m];simp,rfl⟩ ?_ ?_
   .rw[<-XX];exact UB rfl rfl rfl
   .rintro i p bx _ hx ⟨x3,x4,hk,vq,rfl⟩;have hi:=(cT.1 hx).1;have h6':=h6 p (fH hx);have ht:ps.take (i+1)=ps.take i++[p]:=by rw[CY,hx];rfl
    have hway:gA (ps.take (i+1))=gA (ps.take i)*max 1 p.2.length:=by
     rw[ht,LV];show _*(max 1 p.2.length*1)=_;rw[Nat.mul_one]
    have hm:bx.length*p.2.length<=gA (ps.take (i+1)):=by
     rw[hway];exact HS hk (Nat.le_max_right _ _)
    have yw:=C7 ps (i+1);refine⟨A++[s0 (.list (bx.map bf)),s0 (bA p.1),s0 (aX p.2)],rfl,?_⟩;refine zY (aY rfl (a9 p.1.1 p.1.2 p.2 bx (by omega) (λkn m=>by have:=vq kn m;omega) (by omega))) (by simp[A]) ⟨_,.inl rfl,_,_,dG (Fu _ _ _) hm,λkn' m=>?_,rfl⟩
    obtain⟨kn,mk,m⟩:=HY.1 m;obtain⟨r,_,e⟩:=sX.1 m;have:=Ep e;have:=vq kn mk;omega
   .rintro _ ⟨x3,x4,h1,h2,rfl⟩;rw[HW] at h1;exact⟨_,rfl,_,_,h1,λkn m=>by have:=h2 kn m;omega,rfl⟩
  rintro _ ⟨x3,x4,h1,h2,rfl⟩;exact dA rfl ⟨_,rfl,rfl,h1,h2⟩
 obtain⟨d,e,rfl,h1,h2⟩:=this;exact⟨e,h1,h2⟩
def dX (kn:Kn):aC->Int:=λz=>(cF kn z).getD 0
def rR (kn:Kn)(v:aC->Int)(ks:List aI):Prop:=∀ z,(.inr z:aI)∈ks->cF kn z=aa (v z)
theorem Cj{kn kn':Kn}(h:eD ks r kn=aa kn'):r.length=ks.length/\(∀ z u,cF kn z=aa u->cF kn' z=aa u)/\∀ p∈ks.zip r,(∀ i,p.1=.inl i->p.2=i)/\∀ z,p.1=.inr z->cF kn' z=aa p.2:=by
 unfold eD at h;obtain⟨h1,h2⟩:=Dk h;obtain⟨a,b,_⟩:=wV h2;exact⟨h1,a,b⟩
theorem Wg{kn kn':Kn}(h:eD ks r kn=aa kn'):r=ks.map (tv (dX kn'))/\rR kn' (dX kn') ks:=by
 obtain⟨hl,_,b⟩:=Cj h;have key:∀ j (hj:j<ks.length) (hr:j<r.length),(∀ i,ks[j]=.inl i->r[j]=i)/\∀ z,ks[j]=.inr z->cF kn' z=aa r[j]:=λj hj hr=>by
  have hz:j<(ks.zip r).length:=by rw[yN];omega
  have:=b (ks.zip r)[j] (iW hz);rw[RH] at this;exact this
 refine⟨IE (by rw[cJ];exact hl) λj h1 h2=>?_,λz mz=>?_⟩
 .rw[IB];have hj:j<ks.length:=by omega
  obtain⟨k1,k2⟩:=key j hj h1;cases hk:ks[j] with
  |inl i=>exact k1 i hk
  |inr z=>
   show r[j]=(cF kn' z).getD 0;rw[k2 z hk]
   rfl
 .obtain⟨j,hj,e⟩:=yO mz;have:=(key j hj (by omega)).2 z e
  unfold dX;rw[this]
  rfl
theorem Mq {kn kn':Kn}(h:rR kn (dX kn) ks)(k:∀ z u,cF kn z=aa u->cF kn' z=aa u):rR kn' (dX kn') ks/\ks.map (tv (dX kn'))=ks.map (tv (dX kn)):=by
 have e:∀ z,(.inr z:aI)∈ks->cF kn' z=aa (dX kn z):=λz m=>k z _ (h z m)
 have e2:∀ z,(.inr z:aI)∈ks->dX kn' z=dX kn z:=λz m=>by
  show(cF kn' z).getD 0=_;rw[e z m]
  rfl
 exact⟨λz m=>by rw[e2 z m];exact e z m,FC e2⟩
def IU (ps:List LR)(kn:Kn):Prop:=∀ p∈ps,rR kn (dX kn) p.1.2/\p.1.2.map (tv (dX kn))∈p.2
theorem ZT:∀ (rest Id:List LR) (bx:List Kn),(∀ kn∈bx,IU Id kn)->∀ kn∈rest.foldl (λbx p=>mB bx p.1.2 p.2) bx,IU (Id++rest) kn
 |[],Id,bx,h=>by rw[qC];exact h
 |q::rest,Id,bx,h=>by
  have e:Id++q::rest=(Id++[q])++rest:=by simp
  rw[e,jQ];refine ZT rest (Id++[q]) _ λkn m=>?_
  obtain⟨k0,mk,m⟩:=HY.1 m;obtain⟨r,mr,ef⟩:=sX.1 m;intro p mp;rcases gP.1 mp with mp|mp
  .obtain⟨a,b⟩:=h k0 mk p mp;obtain⟨c,d⟩:=Mq a (Cj ef).2.1;exact⟨c,d ▸ b⟩
  .rw[bX.1 mp];obtain⟨a,b⟩:=Wg ef;exact⟨b,a ▸ mr⟩
theorem AW (ps:List LR):∀ kn∈fC ps,IU ps kn:=by
 have:=ZT ps [] [[]] λkn _ p m=>by simp at m
 rwa [List.nil_append] at this
def GP (kn:Kn)(v:aC->Int):Prop:=∀ z u,cF kn z=aa u->u=v z
theorem Wj{kn:Kn}(h:GP kn v):∃ kn',eD ks (ks.map (tv v)) kn=aa kn'/\GP kn' v:=by
 obtain⟨kn',e⟩:=AI (ps:=ks.zip (ks.map (tv v))) (kn:=kn) (λp m i q=>by rw[(sM m).2,q];rfl) (λp m z u q e=>by rw[(sM m).2,q,h z u e];rfl) (λp m p' m' z q q'=>by rw[(sM m).2,(sM m').2,q,q'])
 refine⟨kn',?_,λz u eu=>?_⟩
 .unfold eD;rw[if_pos (by rw[cJ])]
  exact e
 .obtain⟨_,b,c⟩:=wV e;rcases c z u eu with c|⟨p,mp,q⟩
  .exact h z u c
  .have e1:=(b p mp).2 z q;rw[eu] at e1;rw[fF e1,(sM mp).2,q]
   rfl
theorem Bm:∀ (rest:List LR) (bx:List Kn),(∃ kn∈bx,GP kn v)->(∀ p∈rest,p.1.2.map (tv v)∈p.2)->∃ kn∈rest.foldl (λbx p=>mB bx p.1.2 p.2) bx,GP kn v
 |[],bx,h,_=>h
 |q::rest,bx,⟨k0,m0,h0⟩,h=>by
  rw[jQ];refine Bm rest _ ?_ λp m=>h p (bL _ m)
  obtain⟨k1,e1,h1⟩:=Wj h0;exact⟨k1,HY.2 ⟨k0,m0,sX.2 ⟨_,h q bF,e1⟩⟩,h1⟩
theorem ZV {ps:List LR}{p:LR}(hp:p∈ps):r∈(fC ps).map (λkn=>p.1.2.map (tv (dX kn))) ↔ ∃ v,(∀ q∈ps,q.1.2.map (tv v)∈q.2)/\r=p.1.2.map (tv v):=by
 rw[bI];constructor
 .rintro⟨kn,m,rfl⟩;exact⟨dX kn,λq mq=>(AW ps kn m q mq).2,rfl⟩
 .rintro⟨v,h,rfl⟩;obtain⟨kn,m,ha⟩:=Bm ps [[]] ⟨[],bX.2 rfl,λz u e=>by cases e⟩ h
  refine⟨kn,m,FC λz mz=>ha z _ ((AW ps kn m p hp).1 z mz)⟩
theorem KY {kn:Kn}(h:rR kn v ks){k:aI}(mk:k∈ks):iP (aB 1) (aB 0) (aB 0) [aa (kD k),aa (bf kn)]=aa (.int (tv v k)):=by
 cases k with
 |inl i=>
  rw[FL rfl rfl rfl rfl (V' kn),Uy]
  rfl
 |inr z=>
  rw[FL rfl rfl rfl rfl (V' kn),AA,h z mk]
  rfl
theorem G5{kn:Kn}(hl:ks.length<=1000)(h:rR kn v ks):oM [tK ks,bf kn]=aa (bC (ks.map (tv v))):=by
 have:∃ d,oM [tK ks,bf kn]=aa d/\d=bC (ks.map (tv v)):=by
  rw[10];have e:=iH (cap:=[ae,aa 1]) (fi:=bt (aB 0)) (T:=gB 0) (t:=cU) (f:=iP (aB 1) (aB 0) (aB 0)) (Y:=vS [s0 (tK ks),s0 (bf kn)]) (xs:=ks) (q:=kD) (λ_=>af) (λk=>aW (tv v k)) (pK rfl) (by omega) λk mk=>⟨[aa (kD k),aa (bf kn)],rfl,rfl,λ_=>KY h mk⟩
  rw[lW.2 λ_ _=>rfl] at e
  refine dA (aY (bD e rfl) ?_) ⟨_,rfl,rfl⟩;show aa (cV _)=aa (cV ((ks.map (tv v)).map aW));rw[eP]
  rfl
 rw[3]
theorem Bz[DecidableEq α]:∀ (zs aj:List α),aj.Nodup->(zs.foldl gG aj).Nodup
 |[],aj,h=>h
 |z::zs,aj,h=>by
  rw[jQ];refine Bz zs _ ?_;unfold gG;split
  .exact h
  .rename_i hz;exact vF.2 ⟨h,by simp,λa ha b hb e=>hz (by rw[bX] at hb;rw[<-hb,<-e];exact ha)⟩
theorem EX[DecidableEq α](zs:List α):(jK zs).Nodup:=Bz zs [] yM
theorem WX[DecidableEq α]{zs ys:List α}(h:∀ z∈zs,z∈ys):(jK zs).length<=ys.length:=IF (EX zs) λz m=>h z (Ah7.1 m)
theorem B7 (R:List (List Int)):eY (R.map λr=>r.map aW)=(jK R).map λr=>r.map aW:=by
 have go:∀ (R aj:List (List Int)),(R.map λr=>r.map aW).foldl nL (aj.map λr=>r.map aW)=(R.foldl gG aj).map λr=>r.map aW:=by
  intro R;induction R with
  |nil=>intro aj;rfl
  |cons r R ih=>
   intro aj;rw[dI,jQ,jQ,<-ih]
   congr 1
   unfold nL gG;by_cases h:r∈aj
   .rw[if_pos h,if_pos (bI.2 ⟨r,h,rfl⟩)]
   .rw[if_neg h,if_neg λm=>by
     obtain⟨x,mx,e⟩:=bI.1 m;exact h (LP e ▸ mx),kH]
    rfl
 exact go R []
theorem Yf(hn:1<=n)(hw:∀ r∈R,r.length=n)(hl:(jK R).length<64):MS [aX R]=aa (aX (vf (jK R))):=by
 have e:=JT hn (λr m=>hw r (Ah7.1 m)) hl
 have e:((jS ((jK R).map bC)).bind λkss=>if lh kss=af/\kss.length<64 then aa (rN ((gW kss).map cV)) else ae)=aa (aX (vf (jK R))):=e
 show((jS (R.map bC)).bind λkss=>if (eY kss).length<64/\lh (eY kss)=af then aa (rN ((gW (eY kss)).map cV)) else ae)=_
 rw[ZZ,bS] at e ⊢;rw[B7];obtain⟨⟨a,b⟩,c⟩:=cQ e;rw[if_pos ⟨b,a⟩,c]
def gJ (ls:List Ln)(t:dH):List LR:=(cE ls).2.map λk=>(ls.getD k cn,t.getD k [])
theorem wJ(h:k∈(cE ls).2):k<ls.length:=(uL (FQ ls)).1 k h
theorem WH (ls:List Ln):(cE ls).2.length<=ls.length:=by
 have:=(Fg (ls:=ls) (n:=ls.length) (L:=bY ls.length)).2;rw[CZ] at this;exact this
theorem KA(ho:∀ l∈ls,iT l)(hn:ls.length<=50){Y:List (Option aA)}(h:Y[0]?.join=aa (ak ls)):oV 1 (aL iD (aF (aB 0) aJ)) Y=aa (lN (cE ls).2):=by
 unfold oV;rw[aY (bD h rfl) (KM ho hn)]
 rfl
theorem Fo {m:Nat}(hm:1<=m):∀ {ps:List LR},(∀ p∈ps,p.2.length<=m)->gA ps<=m^ps.length
 |[],_=>bE _
 |p::ps,h=>by
  rw[fY,vE,HU];exact HS (Nat.max_le.2 ⟨hm,h p bF⟩) (Fo hm λq mq=>h q (bL _ mq))
theorem Df{m:Nat}(hm:1<=m)(h:∀ t,(B t).length<=m):∀ ls:List Ln,oQ B ls<=m^ls.length
 |[]=>bE _
 |l::ls=>by
  rw[fY,vE,HU];exact HS (Nat.max_le.2 ⟨hm,h l.1⟩) (Df hm h ls)
theorem JY(h:n<=4):6^n<=4096:=dG (Hi (by decide) h) (by decide)
structure Lok (ls:List Ln):Prop where
 ok:∀ l∈ls,iT l
 w1:∀ l∈ls,1<=l.2.length
 n4:ls.length<=4
theorem Lok.atR(h:Lok ls)(hk:k<ls.length):iT (ls.getD k cn)/\1<=(ls.getD k cn).2.length:=by
 have e:ls.getD k cn=ls[k]:=by simp[kI,hk]
 rw[e];exact⟨h.ok _ (iW hk),h.w1 _ (iW hk)⟩
theorem Zt(L:Lok ls){t:dH}(hl:t.length=ls.length)(hs:∀ k,(t.getD k []).length<=6) :
  xJ [ak ls,ar t]=aa (.list ((fC (gJ ls t)).map bf))/\(fC (gJ ls t)).length<=4096:=by
 have hr:=WH ls;have n4:=L.n4;have hw:gA (gJ ls t)<=4096:=dG (Fo (m:=6) (by decide) λp m=>by
  obtain⟨k,_,rfl⟩:=bI.1 m;exact hs k) (JY (by unfold gJ;rw[cJ];omega))
 obtain⟨e,h1,_⟩:=Xz (gJ ls t) (by unfold gJ;rw[cJ];omega) (λp m=>by
  obtain⟨k,mk,rfl⟩:=bI.1 m;exact(L.atR (wJ mk)).1.1) hw
 refine⟨?_,by omega⟩
 have:∃ d,xJ [ak ls,ar t]=aa d/\d=.list ((fC (gJ ls t)).map bf):=by
  rw[10];refine cP (KA L.ok (by omega) rfl) (by simp) ?_
  have e1:=iH (cap:=[ae,aa 0]) (fi:=bt (aB 2)) (T:=gB 0) (t:=cU) (f:=ah bc (aB 1) (aB 0)) (Y:=vS [s0 (ak ls),s0 (ar t),s0 (lN (cE ls).2)]) (xs:=(cE ls).2) (q:=λ(k:Nat)=>aW k) (λ_=>af) (λk=>bA (ls.getD k cn)) (fL rfl) (by omega) λk mk=>⟨[aa (.int k),aa (ak ls)],rfl,rfl,λ_=>aP (a:=ak ls) (b:=.int k) rfl rfl (pJ (wJ mk))⟩
  have e2:=iH (cap:=[ae,aa 1]) (fi:=bt (aB 2)) (T:=gB 0) (t:=cU) (f:=ah bc (aB 1) (aB 0)) (Y:=vS [s0 (ak ls),s0 (ar t),s0 (lN (cE ls).2)]) (xs:=(cE ls).2) (q:=λ(k:Nat)=>aW k) (λ_=>af) (λk=>aX (t.getD k [])) (fL rfl) (by omega) λk mk=>⟨[aa (.int k),aa (ar t)],rfl,rfl,λ_=>aP (a:=ar t) (b:=.int k) rfl rfl (CC (by rw[hl];exact wJ mk))⟩
  rw[lW.2 λ_ _=>rfl] at e1 e2
  have q1:((gJ ls t).map λp=>bA p.1)=(cE ls).2.map λk=>bA (ls.getD k cn):=by unfold gJ;rw[eP];rfl
  have q2:((gJ ls t).map λp=>aX p.2)=(cE ls).2.map λk=>aX (t.getD k []):=by unfold gJ;rw[eP];rfl
  rw[q1,q2] at e;exact dA (aY (bD (aY (bD e1 rfl) rfl) (bD e2 rfl)) e) ⟨_,rfl,rfl⟩
 rw[3]
def tO (ls:List Ln)(t:dH)(k:Nat):List (List Int):=vf (jK ((fC (gJ ls t)).map λkn=>(ff ls k).map (tv (dX kn))))
def iQ (ls:List Ln)(t:dH):dH:=(cE ls).2.foldl (λt' k=>t'.set k (tO ls t k)) t
theorem Fh{t:dH}(h:k∈(cE ls).2)(m:r∈(fC (gJ ls t)).map λkn=>(ff ls k).map (tv (dX kn))):r∈t.getD k []:=by
 obtain⟨kn,mk,rfl⟩:=bI.1 m;exact(AW _ kn mk (ls.getD k cn,t.getD k []) (bI.2 ⟨k,h,rfl⟩)).2
theorem Ey {f:Nat->List (List Int)}:∀ (L:List Nat) (t:dH),(L.foldl (λt' k=>t'.set k (f k)) t).length=t.length
 |[],t=>rfl
 |k::L,t=>by rw[jQ,Ey L,HZ]
theorem US {f:Nat->List (List Int)}:∀ (L:List Nat) (t:dH),(∀ k∈L,k<t.length)->∀ j,(L.foldl (λt' k=>t'.set k (f k)) t).getD j []=if j∈L then f j else t.getD j []
 |[],t,_,j=>by rw[if_neg (by simp)];rfl
 |k::L,t,h,j=>by
  rw[jQ,US L _ (λx m=>by rw[HZ];exact h x (bL _ m)) j,FP (h k bF)]
  by_cases q:j∈L
  .rw[if_pos q,if_pos (bL _ q)]
  .rw[if_neg q];by_cases e:j=k
   .subst e;rw[if_pos rfl,if_pos bF]
   .rw[if_neg e,if_neg λm=>(cM.1 m).elim e q]
theorem i4(L:Lok ls){t:dH}(hl:t.length=ls.length)(hs:∀ k,(t.getD k []).length<=6):xG [ak ls,ar t]=aa (ar (iQ ls t)):=by
 obtain⟨ew,W1⟩:=Zt L hl hs;have n4:=L.n4;have:∃ d,xG [ak ls,ar t]=aa d/\d=ar (iQ ls t):=by
  rw[10];refine cP (d:=ar t) (aY (ds:=[ar t]) rfl rfl) (by simp) ?_
  refine cP (d:=.list ((fC (gJ ls t)).map bf)) (aY (ds:=[ak ls,ar t]) rfl ew) (by simp) ?_
  refine fV (λρ'=>∃ x4:L2.Slot,ρ'=[s0 (ak ls),s0 (ar t),aa (1,ar (iQ ls t)),s0 (.list ((fC (gJ ls t)).map bf)),x4]) ?_ ?_
  .refine iU (xs:=(cE ls).2) (q:=λ(k:Nat)=>aW k) (b0:=t) (λt' k=>t'.set k (tO ls t k)) (λ_ t' ρ'=>t'.length=ls.length/\∃ x4:L2.Slot,ρ'=[s0 (ak ls),s0 (ar t),aa (1,ar t'),s0 (.list ((fC (gJ ls t)).map bf)),x4]) (iu (fL (KA L.ok (by omega) rfl))) ⟨hl,ae,rfl⟩ ?_ ?_
   .rintro i k t' _ hk ⟨g2,x4,rfl⟩;have mk:=fH hk;have k1:k<ls.length:=wJ mk;refine⟨[s0 (ak ls),s0 (ar t),aa (1,ar t'),s0 (.list ((fC (gJ ls t)).map bf)),s0 (.int k)],rfl,?_⟩;have wk:=(L.atR k1).1.1;have e:=iH (cap:=[ae,aa 0,aa 4]) (fi:=bt (aB 3)) (T:=gB 0) (t:=cU) (f:=aL oM (aF (ah bc (ah bc (aB 1) (aB 2)) (eC (.int 1))) (aF (aB 0) aJ)))
     (Y:=vS [s0 (ak ls),s0 (ar t),aa (1,ar t'),s0 (.list ((fC (gJ ls t)).map bf)),s0 (.int k)]) (xs:=fC (gJ ls t)) (q:=bf) (λ_=>af) (λkn=>bC ((ff ls k).map (tv (dX kn)))) (fL rfl) (by omega) λkn mkn=>
      ⟨[aa (bf kn),aa (ak ls),aa (.int k)],rfl,rfl,λ_=>aY (ds:=[tK (ff ls k),bf kn]) (bD (aP (a:=bA (ls.getD k cn)) (b:=.int 1) (aP (a:=ak ls) (b:=.int k) rfl rfl (pJ k1)) rfl rfl) rfl) (G5 (by unfold ff;omega) (AW _ kn mkn (ls.getD k cn,t.getD k []) (bI.2 ⟨k,mk,rfl⟩)).1)⟩
    rw[lW.2 λ_ _=>rfl] at e
    have es:=Yf (R:=(fC (gJ ls t)).map λkn=>(ff ls k).map (tv (dX kn))) (n:=(ff ls k).length) (L.atR k1).2 (λr m=>by
     obtain⟨kn,_,rfl⟩:=bI.1 m;rw[cJ]) (QY (WX λr m=>Fh mk m) (by have:=hs k;omega))
    unfold aX at es;rw[eP] at es;refine Ee (d:=aX (tO ls t k)) (j:=k) (jn:=k) (ds:=t'.map aX) (aY (bD e rfl) es) rfl rfl (EO (by rw[cJ,g2];exact k1)) ⟨_,.inl rfl,HZ.trans g2,s0 (.int k),?_⟩
    rw[OU]
    rfl
   .rintro _ ⟨_,x4,rfl⟩;exact⟨_,rfl,x4,rfl⟩
  rintro _ ⟨x4,rfl⟩;exact zW rfl ⟨_,rfl,rfl⟩
 rw[3]
def rY (ls:List Ln):List Nat:=if 1<(cE ls).2.length then(cE ls).2 else []
theorem Qa(L:Lok ls):sG [ak ls]=aa (lN (rY ls)):=by
 have n4:=L.n4;have:∃ d,sG [ak ls]=aa d/\d=lN (rY ls):=by
  rw[10];refine cP (KA L.ok (by omega) rfl) (by simp) ?_
  have c:bV .a (aw (ah vw (aL cO (aF (aB 1) aJ)) (eC (.int 1)))) [s0 (ak ls),aa (1,lN (cE ls).2)]=aa (decide (1<(cE ls).2.length)):=eI (aP (a:=.int (cE ls).2.length) (b:=.int 1) (aY (ds:=[lN (cE ls).2]) rfl (EU _)) rfl (by
   show aa (kW (decide (((cE ls).2.length:Int) > 1)))=_
   congr 2
   rw[pE,decide_eq_true_eq,decide_eq_true_eq];omega))
  unfold rY;by_cases h:1<(cE ls).2.length
  .rw[if_pos h];rw[decide_eq_true h] at c;refine⟨.rt (lN (cE ls).2),?_,_,rfl,rfl⟩;show(bV .a _ [s0 (ak ls),aa (1,lN (cE ls).2)]).bind _=_;rw[c]
   rfl
  .rw[if_neg h];rw[decide_eq_false h] at c;refine⟨.rt (lN []),?_,_,rfl,rfl⟩;show(bV .a _ [s0 (ak ls),aa (1,lN (cE ls).2)]).bind _=_;rw[c]
   rfl
 rw[3]
theorem k4 (b:Bk kds B wd)(h6:∀ t,(B t).length<=6)(L:Lok ls):uS [.dict kds,ak ls]=aa .none:=by
 have n4:=L.n4;have hr:=WH ls;have hrl:(rY ls).length<=4/\∀ k∈rY ls,k<ls.length:=by
  unfold rY;split
  .exact⟨by omega,λk m=>wJ m⟩
  .exact⟨by simp,λk m=>by simp at m⟩
 have e1:=iH (cap:=[ae,aa 1]) (fi:=bt (aL sG (aF (aB 1) aJ))) (T:=gB 0) (t:=cU) (f:=ah bc (aB 1) (aB 0)) (Y:=vS [s0 (.dict kds),s0 (ak ls)]) (xs:=rY ls) (q:=λ(k:Nat)=>aW k) (λ_=>af) (λk=>bA (ls.getD k cn)) (fL (aY (ds:=[ak ls]) rfl (Qa L))) (by omega) λk mk=>⟨[aa (.int k),aa (ak ls)],rfl,rfl,λ_=>aP (a:=ak ls) (b:=.int k) rfl rfl (pJ (hrl.2 k mk))⟩
 rw[lW.2 λ_ _=>rfl] at e1
 have e2:=z5 b ((rY ls).map λk=>ls.getD k cn) (by rw[cJ];omega) (dG (Df (by decide) h6 _) (JY (by rw[cJ];omega)))
 rw[eP] at e2;show outD (OC [s0 (.dict kds),s0 (ak ls)])=_;have e3:eV 0 .s (aL xQ (aF (aB 0) (aF (aL iE (aF (gb [ae,aa 1] (bt (aL sG (aF (aB 1) aJ))) (gB 0) cU (ah bc (aB 1) (aB 0))) aJ)) aJ))) [s0 (.dict kds),s0 (ak ls)]=aa .none:=
  aY (bD rfl (bD (aY (bD e1 rfl) rfl) rfl)) e2
 unfold OC tY;rw[e3]
 rfl
def Up (R:List (List Int)):Prop:=R.Nodup/\R.Pairwise λa b=>leT (a.map aW) (b.map aW)=af
theorem OX(hn:R.Nodup):Up (vf R):=by
 refine⟨(MB R).nodup_iff.2 hn,?_⟩;have h:=NO (R.map λr=>r.map aW)
 have e:gW (R.map λr=>r.map aW)=(vf R).map λr=>r.map aW:=by
  unfold vf;rw[eP];refine(List.map_id' _).symm.trans (qA λk mk=>?_)
  obtain⟨a,_,rfl⟩:=bI.1 ((uP _).mem_iff.1 mk);show _=((a.map aW).map xo).map aW;rw[uF]
 rw[e] at h;exact yL.1 h
theorem Up.sub {S:List (List Int)}(h:Up S)(s:R.Sublist S):Up R:=⟨List.Nodup.sublist s h.1,h.2.sublist s⟩
theorem up_eq {S:List (List Int)}(w:∀ r∈R,r.length=n)(hR:Up R)(hS:Up S)(h:∀ r,r∈R↔r∈S):R=S:=
 K8 (λa b ma mb h1 h2=>LP (WZ (MK a b ((w a ma).trans (w b ((h b).2 mb)).symm)) h1 h2)) hR.2 hS.2 ((K3 hR.1 hS.1).2 h)
theorem LQ{ls:Nat->List aI}{cm:Nat->Nat->List aC}(a b:α->Nat):∀ (xs:List α) (t:dH),(∀ x∈xs,a x<t.length)->∀ i,((xs.foldl (λt x=>tf ls cm t (a x) (b x)) t).getD i []).Sublist (t.getD i [])
 |[],t,_,i=>Ik _
 |x::xs,t,h,i=>by
  rw[jQ];exact(LQ a b xs _ (λy m=>by rw[wG];exact h y (bL _ m)) i).trans (KJ (h x bF) i)
def SU (B:aC->List (List Int))(ls:List Ln)(v:aC->Int):Prop:=∀ l∈ls,l.2.map (tv v)∈B l.1
theorem G8 (b:Bk kds B wd)(h6:∀ t,(B t).length<=6)(nd:∀ t,(B t).Nodup)(L:Lok ls) :
  ∃ t:dH,rA [.dict kds,ak ls]=aa (ar t)/\t.length=ls.length/\∀ k,k<ls.length->(t.getD k []).length<=6/\Up (t.getD k [])/\∀ r,r∈t.getD k [] ↔ ∃ v,SU B ls v/\r=(ff ls k).map (tv v):=by
 have n4:=L.n4;have E:=FQ ls;obtain⟨s1,s2⟩:=uL E;have l0:(ls.map (lx B)).length=ls.length:=cJ ..;have a0:∀ k,k<ls.length->(ls.map (lx B)).getD k []=lx B (ls.getD k cn):=λk hk=>by
  simp[kI,hk]
 have a0':∀ k,¬ k<ls.length->(ls.map (lx B)).getD k []=[]:=λk hk=>by
  rw[kI,RI (by rw[l0];omega)]
  rfl
 have z0:∀ k,((ls.map (lx B)).getD k []).length<=6:=λk=>by
  by_cases hk:k<ls.length
  .rw[a0 k hk];exact dG (So _ _) (h6 _)
  .rw[a0' k hk];simp
 have u0:∀ k,Up ((ls.map (lx B)).getD k []):=λk=>by
  by_cases hk:k<ls.length
  .rw[a0 k hk];exact OX (List.Nodup.sublist Ih (nd _))
  .rw[a0' k hk];exact⟨yM,List.Pairwise.nil⟩
 have f0:=Ri (B:=B) ls;have m0:∀ k,k<ls.length->∀ v,tb (ls.map (lx B)) k ((ff ls k).map (tv v))↔(ff ls k).map (tv v)∈B (ls.getD k cn).1:=λk hk v=>by
  show _∈(ls.map (lx B)).getD k []↔_;rw[a0 k hk,A6o];exact⟨And.left,λh=>⟨h,v,rfl⟩⟩
 generalize ht0:ls.map (lx B)=t0 at l0 z0 u0 f0 m0;have b2:∀ q∈(cE ls).1,q.2<t0.length:=λq m=>by rw[l0];exact(s2 q m).2
 obtain⟨_,f1,l1⟩:=OW (PK ls) f0 b2;have v1:∀ i,((vc (ff ls) (nh ls) t0 (cE ls).1).getD i []).Sublist (t0.getD i []):=LQ (λq:Nat×Nat=>q.2) (λq=>q.1) (cE ls).1 t0 b2
 have e1:=Xv L.ok (by omega) l0 f0 λk=>dG (z0 k) (by decide)
 have R:=λ(h1:_) (h2:_) (l2:_)=>Yo (t2:=iQ ls (vc (ff ls) (nh ls) t0 (cE ls).1)) (PK ls) f0 (by rw[l0];exact E) l2 h1 h2
 generalize vc (ff ls) (nh ls) t0 (cE ls).1=t1 at f1 l1 v1 e1 R;have T6:t1.length=ls.length:=l1.trans l0;have z1:∀ k,(t1.getD k []).length<=6:=λk=>dG (v1 k).length_le (z0 k)
 have e2:=i4 L T6 z1;have w2:∀ j,(iQ ls t1).getD j []=if j∈(cE ls).2 then tO ls t1 j else t1.getD j []:=US (cE ls).2 t1 λk m=>by rw[T6];exact wJ m
 have l2:(iQ ls t1).length=t1.length:=Ey _ _;have x2:∀ k∈(cE ls).2,∀ r,r∈tO ls t1 k↔r∈(fC (gJ ls t1)).map λkn=>(ff ls k).map (tv (dX kn)):=λk _ r=>by
  unfold tO;rw[KF,Ah7]
 have f2:kL (ff ls) (iQ ls t1):=λk r m=>by
  rw[w2 k] at m;by_cases q:k∈(cE ls).2
  .rw[if_pos q] at m;obtain⟨kn,_,rfl⟩:=bI.1 ((x2 k q r).1 m);exact⟨_,rfl⟩
  .rw[if_neg q] at m;exact f1 k r m
 have z2:∀ k,((iQ ls t1).getD k []).length<=6:=λk=>by
  rw[w2 k];split
  .rename_i q;unfold tO;rw[Du];exact dG (WX λr m=>Fh q m) (z1 k)
  .exact z1 k
 have u2:∀ k,Up ((iQ ls t1).getD k []):=λk=>by
  rw[w2 k];split
  .exact OX (EX _)
  .exact(u0 k).sub (v1 k)
 have R:=R (λk q r=>by
  have q:k∈(cE ls).2:=q;rw[w2 k,if_pos q,x2 k q r];have:=ZV (ps:=gJ ls t1) (p:=(ls.getD k cn,t1.getD k [])) (bI.2 ⟨k,q,rfl⟩) (r:=r);refine this.trans ⟨?_,?_⟩
  .rintro⟨v,h,e⟩;exact⟨v,λj hj=>h (ls.getD j cn,t1.getD j []) (bI.2 ⟨j,hj,rfl⟩),e⟩
  .rintro⟨v,h,e⟩;refine⟨v,λp mp=>?_,e⟩
   obtain⟨j,hj,rfl⟩:=bI.1 mp;exact h j hj) (λk q=>by
  have q:¬ k∈(cE ls).2:=q;rw[w2 k,if_neg q]) (l2.trans l1)
 have e3:=Zw L.ok (by omega) (l2.trans T6) f2 λk=>dG (z2 k) (by decide)
 have b3:∀ q∈(cE ls).1,q.1<(iQ ls t1).length:=λq m=>by rw[l2,T6];exact(s2 q m).1
 obtain⟨_,f3,l3⟩:=OS (PK ls) f2 b3;have v3:∀ i,((og (ff ls) (nh ls) (iQ ls t1) (cE ls).1).getD i []).Sublist ((iQ ls t1).getD i []):=LQ (λq:Nat×Nat=>q.1) (λq=>q.2) (cE ls).1.reverse _ λq m=>b3 q (List.mem_reverse.1 m)
 refine⟨og (ff ls) (nh ls) (iQ ls t1) (cE ls).1,?_,l3.trans (l2.trans T6),λk hk=>⟨dG (v3 k).length_le (z2 k),(u2 k).sub (v3 k),λr=>?_⟩⟩
 .have ea:xA [ak ls,ar t0]=aa (ar (og (ff ls) (nh ls) (iQ ls t1) (cE ls).1)):=by
   have:∃ d,xA [ak ls,ar t0]=aa d/\d=ar (og (ff ls) (nh ls) (iQ ls t1) (cE ls).1):=by
    rw[10];exact dA (d:=ar (og (ff ls) (nh ls) (iQ ls t1) (cE ls).1)) (aY (ds:=[ak ls,ar (iQ ls t1)]) (bD rfl (bD (aY (ds:=[ak ls,ar t1]) (bD rfl (bD (aY (ds:=[ak ls,ar t0]) rfl e1) rfl)) e2) rfl)) e3) ⟨_,rfl,rfl⟩
   rw[3]
  have:∃ d,rA [.dict kds,ak ls]=aa d/\d=ar (og (ff ls) (nh ls) (iQ ls t1) (cE ls).1):=by
   rw[10];refine fE (ρ':=[s0 (.dict kds),s0 (ak ls)]) ?_ ?_
   .have e0:eV 0 .s (aL uS (aF (aB 0) (aF (aB 1) aJ))) [s0 (.dict kds),s0 (ak ls)]=aa .none:=aY (ds:=[.dict kds,ak ls]) rfl (k4 b h6 L);unfold tY;show(eV 0 .s (aL uS (aF (aB 0) (aF (aB 1) aJ))) [s0 (.dict kds),s0 (ak ls)]).bind _=_;rw[e0]
    rfl
   have ef:=j3 b (ls:=ls) (λl m=>(L.ok l m).1) (by omega)
   rw[ht0] at ef;exact dA (d:=ar (og (ff ls) (nh ls) (iQ ls t1) (cE ls).1)) (aY (ds:=[ak ls,ar t0]) (bD rfl (bD (aY (ds:=[.dict kds,ak ls]) rfl ef) rfl)) ea) ⟨_,rfl,rfl⟩
  rw[3]
 .rw[R k (by rw[l0];exact hk) r,l0]
  refine exists_congr λv=>and_congr_left λ_=>?_
  constructor
  .intro h l ml;obtain⟨j,hj,e⟩:=yO ml;have:=(m0 j hj v).1 (h j hj);have e2:ls.getD j cn=l:=by rw[<-e];simp[kI,hj]
   unfold ff at this
   rwa [e2] at this
  .intro h j hj;refine(m0 j hj v).2 (h _ ?_);have e2:ls.getD j cn=ls[j]:=by simp[kI,hj]
   rw[e2];exact iW hj
def jJ (s:Bool×Kn)(p:aI×Int):Bool×Kn:=if s.1=af then(match eE s.2 p with|some kn=>(af,kn)|none=>(ag,s.2)) else s
theorem MA (kn:Kn):∀ ps:List (aI×Int),ps.foldl jJ (ag,kn)=(ag,kn)
 |[]=>rfl
 |p::ps=>by
  rw[jQ];exact MA kn ps
theorem Bj:∀ (ps:List (aI×Int)) (kn:Kn),(∀ kn',eT eE kn ps=aa kn'->ps.foldl jJ (af,kn)=(af,kn'))/\(eT eE kn ps=ae->(ps.foldl jJ (af,kn)).1=ag)
 |[],kn=>⟨λkn' e=>by cases e;rfl,λe=>by cases e⟩
 |p::ps,kn=>by
  have e0:eT eE kn (p::ps)=(eE kn p).bind λb=>eT eE b ps:=rfl
  rw[e0,jQ];have e1:jJ (af,kn) p=match eE kn p with|some kn=>(af,kn)|none=>(ag,kn):=rfl
  rw[e1];cases eE kn p with
  |none=>exact⟨λkn' e=>(by cases e),λ_=>by show(ps.foldl jJ (ag,kn)).1=ag;rw[MA]⟩
  |some k1=>exact Bj ps k1
theorem m3 {kn kn':Kn}{p:aI×Int}(h:eE kn p=aa kn'):kn'.length<=kn.length+1:=by
 have:=FW (ps:=[p]) (kn:=kn) (kn':=kn') (by show(eE kn p).bind _=_;rw[h];rfl)
 simpa using this
theorem z7 (s:Bool×Kn)(p:aI×Int):(jJ s p).2.length<=s.2.length+1:=by
 unfold jJ;split
 .cases h:eE s.2 p with
  |none=>exact sW _
  |some kn=>exact m3 h
 .exact sW _
section
variable {a0 a1 a2 a3 a4 a5 a6 a7:L2.Slot}
abbrev sx (a0 a1 a2 a3 a4 a5 a6 a7:L2.Slot)(s:Bool×Kn)(x y:L2.Slot):aU:=[a0,a1,a2,a3,a4,a5,a6,a7,aa (1,.dict (DN s.2)),s0 (.bool s.1),x,y]
theorem Zb (s:Bool×Kn)(hl:s.2.length<=1000)(p:aI×Int):Goes (fj .s (aw (iw (fP "str") (aB 10))) (uA 9 .s (aB 9) 8 .s (aB 10) .s (aB 11) .s (aB 11)) (bJ 9 0 .s (rV (aB 9) (ah gc (aB 10) (aB 11))))) (sx a0 a1 a2 a3 a4 a5 a6 a7 s (s0 (kD p.1)) (s0 (.int p.2)))
  λo=>∃ ρ2,(o=.nx ρ2\/o=.ct ρ2)/\∃ x y:L2.Slot,ρ2=sx a0 a1 a2 a3 a4 a5 a6 a7 (jJ s p) x y:=by
 have lz:(DN s.2).length<sizeLine:=uH (by simp[DN];omega)
 obtain⟨k,v⟩:=p;obtain⟨g,kn⟩:=s;cases k with
 |inl i=>
  refine jY (eI (xU (a:=.int i) rfl (FM (.inl i)))) ?_;refine zY (d:=.bool (g&&decide (i=v))) (Rb rfl λ_=>aP (a:=.int i) (b:=.int v) rfl rfl (qY i v)) (by simp) ⟨_,.inl rfl,s0 (.int i),s0 (.int v),?_⟩
  have e:jJ (g,kn) (.inl i,v)=(g&&decide (i=v),kn):=by
   unfold jJ;cases g with
   |false=>rfl
   |true=>
    show(match (if v=i then aa kn else ae) with|some kn=>(af,kn)|none=>(ag,kn))=_
    by_cases h:v=i
    .subst h;simp
    .rw[if_neg h,decide_eq_false (λq=>h q.symm)];rfl
  rw[e]
  rfl
 |inr z=>
  refine fJ (eI (xU (a:=.str z) rfl (FM (.inr z)))) ?_;cases g with
  |false=>exact⟨.nx (sx a0 a1 a2 a3 a4 a5 a6 a7 (ag,kn) (s0 (.str z)) (s0 (.int v))),rfl,_,.inl rfl,_,_,rfl⟩
  |true=>
   have e1:uA 9 .s (aB 9) 8 .s (aB 10) .s (aB 11) .s (aB 11) (sx a0 a1 a2 a3 a4 a5 a6 a7 (af,kn) (s0 (.str z)) (s0 (.int v)))=if (DN kn).length<sizeLine then match cC (DN kn) (.inr z) with
     |some (.int u)=>rS 9 .s (aB 11) u (sx a0 a1 a2 a3 a4 a5 a6 a7 (af,kn) (s0 (.str z)) (s0 (.int v)))
     |some _=>ae
     |none=>rS 9 .s (aB 11) v ((sx a0 a1 a2 a3 a4 a5 a6 a7 (af,kn) (s0 (.str z)) (s0 (.int v))).set 8 (aa (1,.dict (putD (DN kn) (.inr z) (.int v))))) else ae:=rfl
   rw[if_pos lz,AA] at e1;cases hl:cF kn z with
   |some u=>
    rw[hl] at e1;have e1:uA 9 .s (aB 9) 8 .s (aB 10) .s (aB 11) .s (aB 11) (sx a0 a1 a2 a3 a4 a5 a6 a7 (af,kn) (s0 (.str z)) (s0 (.int v)))=aa (.nx (sx a0 a1 a2 a3 a4 a5 a6 a7 (decide (u=v),kn) (s0 (.str z)) (s0 (.int v)))):=e1;have e:jJ (af,kn) (.inr z,v)=(decide (u=v),kn):=by
     show(match (match cF kn z with|some u=>if v=u then aa kn else ae|none=>aa (kn++[(z,v)])) with|some kn=>(af,kn)|none=>(ag,kn))=_
     rw[hl];show(match (if v=u then aa kn else ae) with|some kn=>(af,kn)|none=>(ag,kn))=_
     by_cases h:v=u
     .subst h;simp
     .rw[if_neg h,decide_eq_false (λq=>h q.symm)]
    exact⟨_,e1,_,.inl rfl,_,_,by rw[e]⟩
   |none=>
    rw[hl] at e1;have e1:uA 9 .s (aB 9) 8 .s (aB 10) .s (aB 11) .s (aB 11) (sx a0 a1 a2 a3 a4 a5 a6 a7 (af,kn) (s0 (.str z)) (s0 (.int v)))=rS 9 .s (aB 11) v ((sx a0 a1 a2 a3 a4 a5 a6 a7 (af,kn) (s0 (.str z)) (s0 (.int v))).set 8 (aa (1,.dict (putD (DN kn) (.inr z) (.int v))))):=e1;rw[KB hl] at e1;have e1:uA 9 .s (aB 9) 8 .s (aB 10) .s (aB 11) .s (aB 11) (sx a0 a1 a2 a3 a4 a5 a6 a7 (af,kn) (s0 (.str z)) (s0 (.int v)))=aa (.nx (sx a0 a1 a2 a3 a4 a5 a6 a7 (decide (v=v),kn++[(z,v)]) (s0 (.str z)) (s0 (.int v)))):=e1;have e:jJ (af,kn) (.inr z,v)=(decide (v=v),kn++[(z,v)]):=by
     show(match (match cF kn z with|some u=>if v=u then aa kn else ae|none=>aa (kn++[(z,v)])) with|some kn=>(af,kn)|none=>(ag,kn))=_
     rw[hl];simp
    exact⟨_,e1,_,.inl rfl,_,_,by rw[e]⟩
end
def iC (B:aC->List (List Int))(ls:List Ln):List Kn:=fC (ls.map λl=>(l,B l.1))
theorem Ye (b:Bk kds B wd)(h6:∀ t,(B t).length<=6)(L:Lok ls):xO [.dict kds,ak ls]=aa (.list ((iC B ls).map bf))/\(iC B ls).length<=4096:=by
 have n4:=L.n4;have:∃ d,xO [.dict kds,ak ls]=aa d/\d=.list ((iC B ls).map bf)/\(iC B ls).length<=4096:=by
  rw[10];refine cP (sF rfl) (by simp) ?_
  refine fV (λρ'=>(iC B ls).length<=4096/\∃ x3 x4 x5 x6 x7 x8 x9 au av:L2.Slot,ρ'=[s0 (.dict kds),s0 (ak ls),s0 (.list ((iC B ls).map bf)),x3,x4,x5,x6,x7,x8,x9,au,av]) ?_ ?_
  .refine iU (xs:=ls) (q:=bA) (b0:=[[]]) (λbx l=>mB bx l.2 (B l.1)) (λi bx ρ'=>(bx.length<=6^i/\∀ kn∈bx,kn.length<=6*i)/\∃ x3 x4 x5 x6 x7 x8 x9 au av:L2.Slot,ρ'=[s0 (.dict kds),s0 (ak ls),s0 (.list (bx.map bf)),x3,x4,x5,x6,x7,x8,x9,au,av]) (iu (pK rfl)) ⟨⟨bE _,λkn m=>by rw[bX.1 m];simp⟩,ae,ae,ae,ae,ae,ae,ae,ae,ae,rfl⟩ ?_ ?_
   .rintro i l bx _ hx ⟨⟨hk,vq⟩,x3,x4,x5,x6,x7,x8,x9,au,av,rfl⟩;have hi:=(cT.1 hx).1;have hw:=(L.ok l (fH hx)).1;have hb:=h6 l.1;have hp:(6:Nat)^i<=6^3:=Hi (by decide) (by omega)
    have hp:=hp;refine⟨[s0 (.dict kds),s0 (ak ls),s0 (.list (bx.map bf)),s0 (.str l.1),s0 (tK l.2),x5,x6,x7,x8,x9,au,av],rfl,?_⟩;refine cP rfl (by simp) ?_
    refine fV (λρ'=>∃ x6 x7 x8 x9 au av:L2.Slot,ρ'=[s0 (.dict kds),s0 (ak ls),s0 (.list (bx.map bf)),s0 (.str l.1),s0 (tK l.2),aa (1,.list ((mB bx l.2 (B l.1)).map bf)),x6,x7,x8,x9,au,av]) ?_ ?_
    .refine iU (xs:=bx) (q:=bf) (b0:=[]) (λaj kn=>aj++(B l.1).filterMap λr=>eD l.2 r kn) (λj aj ρ'=>aj.length<=j*6/\∃ x6 x7 x8 x9 au av:L2.Slot,ρ'=[s0 (.dict kds),s0 (ak ls),s0 (.list (bx.map bf)),s0 (.str l.1),s0 (tK l.2),aa (1,.list (aj.map bf)),x6,x7,x8,x9,au,av]) (iu (fL rfl)) ⟨eO _,x6,x7,x8,x9,au,av,rfl⟩ ?_ ?_
     .rintro j kn aj _ T7 ⟨ha,x6,x7,x8,x9,au,av,rfl⟩;have hj:=(cT.1 T7).1;have hknl:=vq kn (fH T7);refine⟨[s0 (.dict kds),s0 (ak ls),s0 (.list (bx.map bf)),s0 (.str l.1),s0 (tK l.2),aa (1,.list (aj.map bf)),s0 (bf kn),x7,x8,x9,au,av],rfl,?_⟩;refine iU (λaj r=>aj++(eD l.2 r kn).toList) (λk bq ρ'=>bq.length<=aj.length+k/\∃ x7 x8 x9 au av:L2.Slot,ρ'=[s0 (.dict kds),s0 (ak ls),s0 (.list (bx.map bf)),s0 (.str l.1),s0 (tK l.2),aa (1,.list (bq.map bf)),s0 (bf kn),x7,x8,x9,au,av]) (iu (fL (b.get rfl rfl))) ⟨bE _,x7,x8,x9,au,av,rfl⟩ ?_ ?_
      .rintro k r bq _ hr ⟨Go,x7,x8,x9,au,av,rfl⟩;have X6:=(cT.1 hr).1;refine⟨[s0 (.dict kds),s0 (ak ls),s0 (.list (bx.map bf)),s0 (.str l.1),s0 (tK l.2),aa (1,.list (bq.map bf)),s0 (bf kn),s0 (bC r),x8,x9,au,av],rfl,?_⟩;refine cP (aY rfl (by show(if ik (DN kn)=af then aa (PyData.dict (DN kn)) else ae)=_;rw[V'];rfl)) (by simp) ?_
       refine cP (aP (aY rfl ((qZ _).trans (by rw[cJ]))) (aY rfl (by rw[qZ,cJ])) (eqn _ _)) (by simp) ?_
       have lz:(l.2.zip r).length<=6:=by rw[yN];omega
       refine fV (λρ'=>∃ au av:L2.Slot,ρ'=sx (s0 (.dict kds)) (s0 (ak ls)) (s0 (.list (bx.map bf))) (s0 (.str l.1)) (s0 (tK l.2)) (aa (1,.list (bq.map bf))) (s0 (bf kn)) (s0 (bC r)) ((l.2.zip r).foldl jJ (decide (r.length=l.2.length),kn)) au av) ?_ ?_
       .refine iU (xs:=l.2.zip r) (q:=JI) (b0:=(decide (r.length=l.2.length),kn)) jJ (λn s ρ'=>s.2.length<=kn.length+n/\∃ au av:L2.Slot,ρ'=sx (s0 (.dict kds)) (s0 (ak ls)) (s0 (.list (bx.map bf))) (s0 (.str l.1)) (s0 (tK l.2)) (aa (1,.list (bq.map bf))) (s0 (bf kn)) (s0 (bC r)) s au av) (iu ?_) ⟨bE _,au,av,rfl⟩ ?_ ?_
        .refine(UB rfl rfl rfl).trans ?_;exact congrArg aa (XG l.2 r)
        .rintro n p s _ Z0 ⟨hs,au,av,rfl⟩;have hn:=(cT.1 Z0).1;refine⟨sx (s0 (.dict kds)) (s0 (ak ls)) (s0 (.list (bx.map bf))) (s0 (.str l.1)) (s0 (tK l.2)) (aa (1,.list (bq.map bf))) (s0 (bf kn)) (s0 (bC r)) s (s0 (kD p.1)) (s0 (.int p.2)),rfl,?_⟩;obtain⟨o,eo,ρ2,h1,x,y,h2⟩:=Zb s (by omega) p
         have:=z7 s p;exact⟨o,eo,ρ2,h1,by omega,x,y,h2⟩
        .rintro _ ⟨_,au,av,rfl⟩;exact⟨_,rfl,au,av,rfl⟩
       rintro _ ⟨au,av,rfl⟩;refine oI ?_;have key:(∃ kn',eD l.2 r kn=aa kn'/\(l.2.zip r).foldl jJ (decide (r.length=l.2.length),kn)=(af,kn'))\/(eD l.2 r kn=ae/\((l.2.zip r).foldl jJ (decide (r.length=l.2.length),kn)).1=ag):=by
        unfold eD;by_cases ay:r.length=l.2.length
        .rw[if_pos ay,decide_eq_true ay];obtain⟨f1,f2⟩:=Bj (l.2.zip r) kn;cases hf:eT eE kn (l.2.zip r) with
         |none=>exact .inr ⟨rfl,f2 hf⟩
         |some kn'=>exact .inl ⟨kn',rfl,f1 kn' hf⟩
        .rw[if_neg ay,decide_eq_false ay,MA];exact .inr ⟨rfl,rfl⟩
       rcases key with⟨kn',e1,e2⟩|⟨e1,e2⟩
       .rw[e2];refine fJ rfl (uI rfl rfl (by simp;omega) ⟨_,.inl rfl,by rw[e1];simp;omega,s0 (bC r),s0 (bf kn'),s0 (.bool af),au,av,?_⟩)
        rw[e1,Option.toList_some,kH]
        rfl
       .generalize(l.2.zip r).foldl jJ (decide (r.length=l.2.length),kn)=s at e2;obtain⟨g,k2⟩:=s;cases e2;refine jY rfl (mH ⟨_,.inl rfl,by rw[e1];simp;omega,s0 (bC r),s0 (.dict (DN k2)),s0 (.bool ag),au,av,?_⟩)
        rw[e1,Option.toList_none,qC]
        rfl
      .rintro _ ⟨Go,x7,x8,x9,au,av,rfl⟩;refine⟨_,.inl rfl,?_,s0 (bf kn),x7,x8,x9,au,av,by rw[AJ]⟩
       rw[AJ] at Go;omega
     .rintro _ ⟨ha,x6,x7,x8,x9,au,av,rfl⟩;rw[ML];exact⟨_,rfl,x6,x7,x8,x9,au,av,rfl⟩
    rintro _ ⟨x6,x7,x8,x9,au,av,rfl⟩;refine oI (zY rfl (by simp[frz]) ⟨_,.inl rfl,⟨?_,λkn' m=>?_⟩,s0 (.str l.1),s0 (tK l.2),s0 (.list ((mB bx l.2 (B l.1)).map bf)),x6,x7,x8,x9,au,av,rfl⟩)
    .refine dG (Fu _ _ _) ?_;rw[vE];exact HS hk hb
    .obtain⟨kn,mk,m⟩:=HY.1 m;obtain⟨r,_,e⟩:=sX.1 m;have:=Ep e;have:=vq kn mk;omega
   .rintro _ ⟨⟨hk,_⟩,x3,x4,x5,x6,x7,x8,x9,au,av,rfl⟩;have e:ls.foldl (λbx l=>mB bx l.2 (B l.1)) [[]]=iC B ls:=by
     unfold iC fC;rw[List.foldl_map]
    rw[e] at hk ⊢;exact⟨_,rfl,dG hk (JY n4),x3,x4,x5,x6,x7,x8,x9,au,av,rfl⟩
  rintro _ ⟨hk,x3,x4,x5,x6,x7,x8,x9,au,av,rfl⟩;exact dA rfl ⟨_,rfl,rfl,hk⟩
 obtain⟨d,e,rfl,h⟩:=this;exact⟨e,h⟩
def tZ (B:aC->List (List Int))(ls:List Ln)(l:Ln):List (List Int):=jK ((iC B ls).map λkn=>l.2.map (tv (dX kn)))
def mD (B:aC->List (List Int))(ls:List Ln)(l:Ln):List (List Int):=vf (tZ B ls l)
theorem ME(m:l∈ls):r∈tZ B ls l ↔ ∃ v,SU B ls v/\r=l.2.map (tv v):=by
 unfold tZ iC;rw[Ah7];refine(ZV (p:=(l,B l.1)) (bI.2 ⟨l,m,rfl⟩)).trans (exists_congr λv=>and_congr_left λ_=>?_)
 constructor
 .exact λh l' m'=>h (l',B l'.1) (bI.2 ⟨l',m',rfl⟩)
 .intro h q mq;obtain⟨l',m',rfl⟩:=bI.1 mq;exact h l' m'
theorem Vi (h6:∀ t,(B t).length<=6)(m:l∈ls):(tZ B ls l).length<=6:=by
 refine dG (IF (EX _) λr mr=>?_) (h6 l.1)
 obtain⟨v,h,rfl⟩:=(ME m).1 mr;exact h l m
theorem B2 (b:Bk kds B wd)(h6:∀ t,(B t).length<=6)(L:Lok ls):uR [.dict kds,ak ls]=aa (ar (ls.map (mD B ls))):=by
 have n4:=L.n4;obtain⟨ec,hcl⟩:=Ye b h6 L;have:∃ d,uR [.dict kds,ak ls]=aa d/\d=ar (ls.map (mD B ls)):=by
  rw[10];refine cP (aY rfl ec) (by simp) ?_
  refine cP (d:=.list []) rfl (by simp) ?_
  refine fV (λρ'=>∃ x4 x5 x6 x7 x8:L2.Slot,ρ'=[s0 (.dict kds),s0 (ak ls),s0 (.list ((iC B ls).map bf)),aa (1,ar (ls.map (mD B ls))),x4,x5,x6,x7,x8]) ?_ ?_
  .refine iU (xs:=ls) (q:=bA) (b0:=[]) (λaj l=>aj++[mD B ls l]) (λi aj ρ'=>aj.length=i/\∃ x4 x5 x6 x7 x8:L2.Slot,ρ'=[s0 (.dict kds),s0 (ak ls),s0 (.list ((iC B ls).map bf)),aa (1,ar aj),x4,x5,x6,x7,x8]) (iu (pK rfl)) ⟨rfl,ae,ae,ae,ae,ae,rfl⟩ ?_ ?_
   .rintro i l aj _ hx ⟨ha,x4,x5,x6,x7,x8,rfl⟩;have ml:=fH hx;have hi:i<ls.length:=(cT.1 hx).1;have hw:=(L.ok l ml).1;refine⟨[s0 (.dict kds),s0 (ak ls),s0 (.list ((iC B ls).map bf)),aa (1,ar aj),s0 (.str l.1),s0 (tK l.2),x6,x7,x8],rfl,?_⟩;refine cP (n:=1) (d:=.list []) rfl (by simp) ?_
    refine fV (λρ'=>∃ x7 x8:L2.Slot,ρ'=[s0 (.dict kds),s0 (ak ls),s0 (.list ((iC B ls).map bf)),aa (1,ar aj),s0 (.str l.1),s0 (tK l.2),aa (1,aX (tZ B ls l)),x7,x8]) ?_ ?_
    .refine iU (xs:=iC B ls) (q:=bf) (b0:=[]) (λaj kn=>gG aj (l.2.map (tv (dX kn)))) (λj R ρ'=>R.length<=j/\∃ x7 x8:L2.Slot,ρ'=[s0 (.dict kds),s0 (ak ls),s0 (.list ((iC B ls).map bf)),aa (1,ar aj),s0 (.str l.1),s0 (tK l.2),aa (1,aX R),x7,x8]) (iu (fL rfl)) ⟨bE _,x7,x8,rfl⟩ ?_ ?_
     .rintro j kn R _ T7 ⟨hR,x7,x8,rfl⟩;have hj:j<(iC B ls).length:=(cT.1 T7).1;have got:=AW _ kn (fH T7) (l,B l.1) (bI.2 ⟨l,ml,rfl⟩);refine⟨[s0 (.dict kds),s0 (ak ls),s0 (.list ((iC B ls).map bf)),aa (1,ar aj),s0 (.str l.1),s0 (tK l.2),aa (1,aX R),s0 (bf kn),x8],rfl,?_⟩;have e:=iH (cap:=[ae,aa 7]) (fi:=bt (aB 5)) (T:=gB 0) (t:=cU) (f:=iP (aB 1) (aB 0) (aB 0)) (Y:=vS [s0 (.dict kds),s0 (ak ls),s0 (.list ((iC B ls).map bf)),aa (1,ar aj),s0 (.str l.1),s0 (tK l.2),aa (1,aX R),s0 (bf kn),x8]) (xs:=l.2) (q:=kD) (λ_=>af) (λk=>aW (tv (dX kn) k)) (pK rfl) (by omega) λk mk=>⟨[aa (kD k),aa (bf kn)],rfl,rfl,λ_=>KY got.1 mk⟩
      rw[lW.2 λ_ _=>rfl] at e
      refine cP (d:=bC (l.2.map (tv (dX kn)))) (aY (bD e rfl) ?_) (by simp) ?_
      .show aa (cV _)=aa (cV ((l.2.map (tv (dX kn))).map aW));rw[eP]
       rfl
      generalize l.2.map (tv (dX kn))=row;have c:bV .a (aw (ah (oh af) (aB 8) (aB 6))) [s0 (.dict kds),s0 (ak ls),s0 (.list ((iC B ls).map bf)),aa (1,ar aj),s0 (.str l.1),s0 (tK l.2),aa (1,aX R),s0 (bf kn),s0 (bC row)]=aa (af != decide (row∈R)):=eI (aP (a:=bC row) (b:=aX R) rfl rfl (Fy af row R));unfold gG;by_cases h:row∈R
      .rw[decide_eq_true h] at c;rw[if_pos h];exact jY c (mH ⟨_,.inl rfl,by omega,_,_,rfl⟩)
      .rw[decide_eq_false h] at c;rw[if_neg h];refine fJ c (uI rfl rfl (by simp;omega) ⟨_,.inl rfl,by simp;omega,s0 (bf kn),s0 (bC row),?_⟩)
       unfold aX;rw[kH]
       rfl
     .rintro _ ⟨_,x7,x8,rfl⟩;refine⟨_,rfl,x7,x8,?_⟩;unfold tZ jK;rw[List.foldl_map]
    rintro _ ⟨x7,x8,rfl⟩;refine oI (uI (aY rfl (JT (L.w1 l ml) (λr mr=>by
     obtain⟨v,_,rfl⟩:=(ME ml).1 mr;rw[cJ]) (by have:=Vi h6 ml;omega))) rfl (by simp;omega) ⟨_,.inl rfl,by simp;omega,s0 (.str l.1),s0 (tK l.2),s0 (aX (tZ B ls l)),x7,x8,?_⟩)
    unfold ar;rw[kH]
    rfl
   .rintro _ ⟨_,x4,x5,x6,x7,x8,rfl⟩;refine⟨_,rfl,x4,x5,x6,x7,x8,?_⟩;have:∀ (xs:List Ln) (aj:dH),xs.foldl (λaj l=>aj++[mD B ls l]) aj=aj++xs.map (mD B ls):=by
     intro xs;induction xs with
     |nil=>intro aj;simp
     |cons x xs ih=>intro aj;rw[jQ,ih];simp
    rw[this,List.nil_append]
  rintro _ ⟨x4,x5,x6,x7,x8,rfl⟩;exact zW rfl ⟨_,rfl,rfl⟩
 rw[3]
mutual
theorem eqv_refl:∀ d:aA,noDict d=af->cD d d=af
 |.none,_=>by simp[cD]
 |.bool b,_=>by simp[cD]
 |.int i,_=>by simp[cD]
 |.str x,_=>by simp[cD]
 |.list xs,h=>by
  have h':noDicts xs=af:=by simpa [noDict] using h
  simpa [cD] using MJ xs h'
 |.tuple xs,h=>by
  have h':noDicts xs=af:=by simpa [noDict] using h
  simpa [cD] using MJ xs h'
 |.dict _,h=>by simp[noDict] at h
theorem MJ:∀ ds:List aA,noDicts ds=af->sU ds ds=af
 |[],_=>by simp[sU]
 |d::ds,h=>by
  have h':noDict d=af/\noDicts ds=af:=by simpa [noDicts] using h
  simp[sU,eqv_refl d h'.1,MJ ds h'.2]
end
theorem FX (t:dH):noDict (ar t)=af/\cZ (ar t)=af:=by
 have h1:noDicts (t.map aX)=af:=wZ λd m=>by
  obtain⟨R,_,rfl⟩:=bI.1 m;exact GR R
 have h2:cL (t.map aX)<=3:=wX λd m=>by
  obtain⟨R,_,rfl⟩:=bI.1 m;have h3:cL (R.map bC)<=2:=wX λt m=>by
   obtain⟨r,_,rfl⟩:=bI.1 m;exact XS r
  show cL (R.map bC)+1<=3;omega
 refine⟨h1,?_⟩;unfold cZ;show(noDicts (t.map aX)&&decide (cL (t.map aX)+1<=60))=af;rw[h1,decide_eq_true (by omega)]
 rfl
theorem Lf (t:dH):kx (ar t) (ar t)=aa (.bool ag):=by
 unfold kx;rw[(FX t).2,eqv_refl _ (FX t).1]
 rfl
theorem Lg (t:dH):gc (ar t) (ar t)=aa (.bool af):=by
 unfold gc;rw[(FX t).2,eqv_refl _ (FX t).1]
 rfl
theorem As (b:Bk kds B wd)(h6:∀ t,(B t).length<=6)(nd:∀ t,(B t).Nodup)(L:Lok ls):rA [.dict kds,ak ls]=aa (ar (ls.map (mD B ls))):=by
 obtain⟨t,e,hl,ht⟩:=G8 b h6 nd L;rw[e]
 congr 2
 refine IE (by rw[hl,cJ]) λk h1 h2=>?_
 have hk:k<ls.length:=by omega
 obtain⟨_,u,m⟩:=ht k hk;have e1:t.getD k []=t[k]:=by simp[kI,h1]
 have e2:ls.getD k cn=ls[k]:=by simp[kI,hk]
 have ml:ls[k]∈ls:=iW hk;rw[e1] at u m;unfold ff at m;rw[e2] at m;rw[IB];refine up_eq (n:=ls[k].2.length) (λr mr=>?_) u (OX (EX _)) λr=>?_
 .obtain⟨v,_,rfl⟩:=(m r).1 mr;rw[cJ]
 .rw[m r];unfold mD;rw[KF,ME ml]
theorem XJ (b:Bk kds B wd)(h6:∀ t,(B t).length<=6)(L:Lok ls):rC [.dict kds,ak ls,ar (ls.map (mD B ls))]=aa (.bool af):=by
 have ew:=B2 b h6 L;generalize ls.map (mD B ls)=t at ew;have:∃ d,rC [.dict kds,ak ls,ar t]=aa d/\d=.bool af:=by
  rw[10];have e1:bV .s (xp (mL (aw (iw (fP "list") (aB 2)))) (aw (ah kx (aB 2) (aL uR (aF (aB 0) (aF (aB 1) aJ)))))) [s0 (.dict kds),s0 (ak ls),s0 (ar t),ae,ae]=aa (!af||false):=VJ (FH (x:=af) (xU (a:=ar t) rfl (by simp[fP,kM,uj,ar]))) λ_=>eI (aP (a:=ar t) (b:=ar t) rfl (aY (ds:=[.dict kds,ak ls]) rfl ew) (Lf t))
  refine fE (kN e1) ?_;refine fV (λρ'=>∃ x3 x4:L2.Slot,ρ'=[s0 (.dict kds),s0 (ak ls),s0 (ar t),x3,x4]) ?_ ?_
  .refine iU (xs:=t) (q:=aX) (b0:=()) (λ_ _=>()) (λ_ _ ρ'=>∃ x3 x4:L2.Slot,ρ'=[s0 (.dict kds),s0 (ak ls),s0 (ar t),x3,x4]) (iu (fL rfl)) ⟨ae,ae,rfl⟩ ?_ ?_
   .rintro i R _ _ hx ⟨x3,x4,rfl⟩;refine⟨[s0 (.dict kds),s0 (ak ls),s0 (ar t),s0 (aX R),x4],rfl,?_⟩;refine iU (xs:=R) (q:=bC) (b0:=()) (λ_ _=>()) (λ_ _ ρ'=>∃ x4:L2.Slot,ρ'=[s0 (.dict kds),s0 (ak ls),s0 (ar t),s0 (aX R),x4]) (iu (fL rfl)) ⟨x4,rfl⟩ ?_ ?_
    .rintro j r _ _ hr ⟨x4,rfl⟩;refine⟨[s0 (.dict kds),s0 (ak ls),s0 (ar t),s0 (aX R),s0 (bC r)],rfl,?_⟩;exact jY (FH (x:=af) (xU (a:=bC r) rfl (by simp[fP,kM,uj,bC]))) (mH ⟨_,.inl rfl,_,rfl⟩)
    .rintro _ ⟨x4,rfl⟩;exact⟨_,.inl rfl,_,_,rfl⟩
   .rintro _ ⟨x3,x4,rfl⟩;exact⟨_,rfl,x3,x4,rfl⟩
  rintro _ ⟨x3,x4,rfl⟩;exact dA rfl ⟨_,rfl,rfl⟩
 rw[3]
theorem Nw {a b:Int}(h:a.natAbs<2^64):qQ (.int a) (.int b)=aa (.int (a*b)):=by
 show(if (a.natAbs<2^64\/b.natAbs<2^64)\/nZ a+nZ b<=134217728 then aa (aW (a*b)) else ae)=_
 rw[if_pos (.inl (.inl h))]
theorem OO {a b:Int}(h:b.natAbs<2^64):qQ (.int a) (.int b)=aa (.int (a*b)):=by
 show(if (a.natAbs<2^64\/b.natAbs<2^64)\/nZ a+nZ b<=134217728 then aa (aW (a*b)) else ae)=_
 rw[if_pos (.inl (.inr h))]
theorem Fn{i:Int}(a:0<=i)(b:i<ns.length):∃ c,bc (lI ns) (.int i)=aa (.int c)/\c∈ns:=by
 obtain⟨j,rfl⟩:=mV a;have hj:j<ns.length:=by omega
 exact⟨ns[j],KC (fA hj),iW hj⟩
theorem VE (ns:List Int):cO [lI ns]=aa (.int ns.length):=by simp[cO]
theorem uG (ns:List Int){k:Int}(h0:0<=k)(h1:k<=1000):∃ c,eQ [lI ns,.int k]=aa (.int c):=by
 have:∃ d,eQ [lI ns,.int k]=aa d/\∃ c,d=.int c:=by
  rw[10];have hk:k.natAbs<2^64:=by omega
  have X6:qQ (.int k) (.int k)=aa (.int (k*k)):=Nw hk;by_cases hl:k<(ns.length:Int)
  .obtain⟨c,e,_⟩:=Fn h0 hl;exact oJ (fJ (by simp[cy,aT,bJ,cN,jX,fj,gR,IZ,sC,mY,jT,frz,dY,eV,bV,aV,vS,vA,ah,iw,aB,eC,aL,jU,dJ,aF,aJ,aw,mL,mN,xp,su,rV,eOr,JE,iP,HB,eIf,js,getL,nM,outD,bt,itemsOf,cX,pH,gX,cR,eX,pT,yk,xf,vd,gLe,vw,gGe,cO,fP,kM,uj,iE,iR,JD,gc,kx,cZ,noDict,noDicts,jP,cL,cD,fS,fR,cU,gB,hl]) (dA (aP rfl rfl e) ⟨_,rfl,_,rfl,c,rfl⟩))
  .refine fE (kN (by simp[cy,aT,bJ,cN,jX,fj,gR,IZ,sC,mY,jT,frz,dY,eV,bV,aV,vS,vA,ah,iw,aB,eC,aL,jU,dJ,aF,aJ,aw,mL,mN,xp,su,rV,eOr,JE,iP,HB,eIf,js,getL,nM,outD,bt,itemsOf,cX,pH,gX,cR,eX,pT,yk,xf,vd,gLe,vw,gGe,cO,fP,kM,uj,iE,iR,JD,gc,kx,cZ,noDict,noDicts,jP,cL,cD,fS,fR,cU,gB,hl])) ?_
   have e2:bV .s (aw (ah gc (aL cO (aF (aB 0) aJ)) (eC (.int 0)))) [s0 (lI ns),s0 (.int k)]=aa (decide ((ns.length:Int)=0)):=eI (aP (a:=.int ns.length) (b:=.int 0) (aY (ds:=[lI ns]) rfl (VE ns)) rfl (qY _ _));by_cases hz:(ns.length:Int)=0
   .exact oJ (fJ (e2.trans (by rw[decide_eq_true hz])) (dA (aP (aP (aP rfl rfl X6) rfl (OO (by decide))) rfl rfl) ⟨_,rfl,_,rfl,_,rfl⟩))
   .refine fE (kN (e2.trans (by rw[decide_eq_false hz]))) ?_
    have N9:(0:Int)<ns.length:=by omega
    obtain⟨v,e,_⟩:=Fn (fU _ N9).1 (fU _ N9).2;exact dA (aP (aP (aP rfl (aP rfl (aY rfl (VE ns)) (fQ k ns.length (by omega))) e) (aP rfl rfl rfl) (OO (by omega))) (aP (aP rfl rfl X6) rfl (OO (by decide))) rfl) ⟨_,rfl,_,rfl⟩
 obtain⟨d,e,c,rfl⟩:=this;exact⟨c,e⟩
theorem AC (c:Int){k:Int}(h0:0<=k)(h1:k<=1000)(hn:0<n):∃ v:Nat,oO [.int c,.int k,.int n]=aa (.int v)/\v<n:=by
 have:∃ d,oO [.int c,.int k,.int n]=aa d/\∃ v:Nat,d=.int v/\v<n:=by
  rw[10];have b:=fU c (show(0:Int)<((2147483629:Nat):Int) by omega)
  have X6:=Im h1 h1 h0 (by omega)
  have hkk0:=Int.mul_nonneg h0 h0;have mk:gX (.int k) (.int k)=aa (.int (k*k)):=tV (by omega)
  obtain⟨A,hA⟩:∃ A:Int,A=c%((2147483629:Nat):Int)+5*k+1:=⟨_,rfl⟩;obtain⟨B,hB⟩:∃ B:Int,B=48271+k*k:=⟨_,rfl⟩;generalize k*k=q at *;have hAB:0<=A*B/\A*B<=2200000000*2000000:=⟨Int.mul_nonneg (by omega) (by omega),Im (by omega) (by omega) (by omega) (by omega)⟩
  refine cP (d:=.int (A*B)) (aP (a:=.int A) (b:=.int B) (aP (a:=.int (c%((2147483629:Nat):Int)+5*k)) (b:=.int 1) (aP (a:=.int (c%((2147483629:Nat):Int))) (b:=.int (5*k)) (aP (a:=.int c) (b:=.int (2147483629:Nat)) rfl rfl (fQ c 2147483629 (by omega))) (aP (a:=.int 5) (b:=.int k) rfl rfl (tV (by decide))) rfl) rfl (by rw[hA];rfl)) (aP (a:=.int 48271) (b:=.int q) rfl (aP (a:=.int k) (b:=.int k) rfl rfl mk) (by rw[hB];rfl)) (tV (by omega))) (by simp) ?_
  generalize A*B=N at hAB;have bd:=fU (N*N%((2147483647:Nat):Int)) (show(0:Int)<(n:Int) by omega)
  obtain⟨v,ev⟩:=mV bd.1;exact dA (aP (aP (aP rfl rfl (tV (by omega))) rfl (fQ _ 2147483647 (by omega))) rfl ((fQ _ n hn).trans (by rw[ev]))) ⟨_,rfl,v,rfl,by omega⟩
 obtain⟨d,e,c,rfl,h⟩:=this;exact⟨c,e,h⟩
def zK:Int:=10^35*10^35-9
def zl (c:Int):Int:=if c%2=0 then 1 else -1
def gC (c k:Int):Int:=if c%3=0 then k-1 else c/3%zK*zl c+k*zl c
theorem Mf (c:Int)(h:j<3)(i:Nat):gC c ((i:Int)+3)≠gC c j:=by
 unfold gC;by_cases h3:c%3=0
 .rw[if_pos h3,if_pos h3];omega
 .rw[if_neg h3,if_neg h3];unfold zl;generalize c/3%zK=X;split
  .omega
  .omega
theorem FO (c k:Int):lH [.int c,.int k]=aa (.int (gC c k)):=by
 have:∃ d,lH [.int c,.int k]=aa d/\d=.int (gC c k):=by
  rw[10];have p35:∀ Y,ah pT (eC (.int 10)) (eC (.int 35)) Y=aa (.int (10^35)):=λY=>aP (a:=.int 10) (b:=.int (35:Nat)) rfl rfl (Sg (by omega))
  have e3:bV .s (aw (ah gc (ah cR (aB 0) (eC (.int 3))) (eC (.int 0)))) [s0 (.int c),s0 (.int k)]=aa (decide (c%3=0)):=eI (aP (a:=.int (c%(3:Nat))) (b:=.int 0) (aP (a:=.int c) (b:=.int (3:Nat)) rfl rfl (fQ c 3 (by omega))) rfl (qY _ _))
  unfold gC;by_cases h3:c%3=0
  .rw[if_pos h3];exact oJ (fJ (e3.trans (by rw[decide_eq_true h3])) (dA (aP rfl rfl rfl) ⟨_,rfl,_,rfl,rfl⟩))
  rw[if_neg h3];refine fE (kN (e3.trans (by rw[decide_eq_false h3]))) ?_
  have es:ah bc (dJ (aF (eC (.int 1)) (aF (iw vL (eC (.int 1))) aJ))) (ah cR (aB 0) (eC (.int 2))) (vS [s0 (.int c),s0 (.int k)])=aa (.int (zl c)):=by
   have:=Nk (.int 1) (.int (-1)) c;unfold zl;by_cases h:c%2=0
   .rw[if_pos h] at this ⊢;exact aP rfl (aP rfl rfl (fQ c 2 (by omega))) this
   .rw[if_neg h] at this ⊢;exact aP rfl (aP rfl rfl (fQ c 2 (by omega))) this
  have hs:(zl c).natAbs<2^64:=by
   unfold zl;split<;>decide
  have hM:(0:Int)<zK:=by decide
  have eM:ah pH (ah gX (ah pT (eC (.int 10)) (eC (.int 35))) (ah pT (eC (.int 10)) (eC (.int 35)))) (eC (.int 9)) (vS [s0 (.int c),s0 (.int k)])=aa (.int zK):=aP (a:=.int (10^35*10^35)) (b:=.int 9) (aP (a:=.int (10^35)) (b:=.int (10^35)) (p35 _) (p35 _) (Lr Ar Ar)) rfl rfl;generalize zK=M at hM eM;have mM:cR (.int (c/(3:Nat))) (.int M)=aa (.int (c/(3:Nat)%M)):=by
   show(if 0<M then aa (aW (c/(3:Nat)%M)) else ae)=_
   rw[if_pos hM]
  generalize zl c=s at es hs;exact dA (aP (aP (aP (aP rfl rfl (mX c 3 (by omega))) eM mM) es (mul_r hs)) (aP rfl es (mul_r hs)) rfl) ⟨_,rfl,rfl⟩
 rw[3]
theorem Sh {q:Nat}(hk:k<n)(hn:n<=4):∃ ms:List Nat,xD [.int q,.int k,.int n]=aa (lN ms)/\ms.length<=4/\∀ m∈ms,m<6:=by
 have:∃ d,xD [.int q,.int k,.int n]=aa d/\∃ ms:List Nat,d=lN ms/\ms.length<=4/\∀ m∈ms,m<6:=by
  rw[10]
  let S:aU:=[s0 (.int q),s0 (.int k),s0 (.int n)]
  have t:∀ c:Nat,bV .s (aw (ah gc (aB 0) (eC (.int c)))) S=aa (decide (q=c)):=λc=>eI (aP rfl rfl (eqn q c))
  have e1:ah cX (aB 1) (eC (.int 1)) (vS S)=aa (.int ((k+1:Nat):Int)):=by simp[cy,aT,bJ,cN,jX,fj,gR,IZ,sC,mY,jT,frz,dY,eV,bV,aV,vS,vA,ah,iw,aB,eC,aL,jU,dJ,aF,aJ,aw,mL,mN,xp,su,rV,eOr,JE,iP,HB,eIf,js,getL,nM,outD,bt,itemsOf,cX,pH,gX,cR,eX,pT,yk,xf,vd,gLe,vw,gGe,cO,fP,kM,uj,iE,iR,JD,gc,kx,cZ,noDict,noDicts,jP,cL,cD,fS,fR,cU,gB,S]
  by_cases q1:q=1
  .refine oJ (fJ ((t 1).trans (by rw[decide_eq_true q1])) (dA (d:=lN [k,(k+1)%n]) (sF (bD rfl (bD (g:=aJ) (aP (a:=.int ((k+1:Nat):Int)) (b:=.int n) e1 rfl ?_) rfl))) ⟨_,rfl,_,rfl,_,rfl,by simp,?_⟩))
   .show(if 0<(n:Int) then aa (aW (((k+1:Nat):Int)%n)) else ae)=_
    rw[if_pos (by omega)]
    simp
   .have:=sV (k+1) (show n > 0 by omega)
    simp;omega
  refine fE (kN ((t 1).trans (by rw[decide_eq_false q1]))) ?_
  by_cases q2:q=2
  .exact oJ (fJ ((t 2).trans (by rw[decide_eq_true q2])) (dA (d:=lN [k,k+1]) (sF (bD rfl (bD (g:=aJ) e1 rfl))) ⟨_,rfl,_,rfl,_,rfl,by simp,by simp;omega⟩))
  refine fE (kN ((t 2).trans (by rw[decide_eq_false q2]))) ?_
  by_cases q3:q=3
  .exact oJ (fJ ((t 3).trans (by rw[decide_eq_true q3])) (dA (d:=lN [0,k+1]) (sF (bD rfl (bD (g:=aJ) e1 rfl))) ⟨_,rfl,_,rfl,_,rfl,by simp,by simp;omega⟩))
  refine fE (kN ((t 3).trans (by rw[decide_eq_false q3]))) ?_
  by_cases q4:q=4
  .refine oJ (fJ ((t 4).trans (by rw[decide_eq_true q4])) ?_)
   rcases(show k=0\/k=1\/k=2\/k=3 by omega) with e|e|e|e<;>subst e
   .exact dA (d:=lN [0,1]) rfl ⟨_,rfl,_,rfl,_,rfl,by simp,by simp⟩
   .exact dA (d:=lN [1,2]) rfl ⟨_,rfl,_,rfl,_,rfl,by simp,by simp⟩
   .exact dA (d:=lN [2,0]) rfl ⟨_,rfl,_,rfl,_,rfl,by simp,by simp⟩
   .exact dA (d:=lN [0,5]) rfl ⟨_,rfl,_,rfl,_,rfl,by simp,by simp⟩
  refine fE (kN ((t 4).trans (by rw[decide_eq_false q4]))) ?_
  by_cases q5:q=5
  .refine oJ (fJ ((t 5).trans (by rw[decide_eq_true q5])) (dA (d:=lN (bY (k+1))) (aY (ds:=[.int ((k+1:Nat):Int)]) (bD e1 rfl) ?_) ⟨_,rfl,_,rfl,_,rfl,by simp;omega,λm mm=>by have:=gM.1 mm;omega⟩))
   show(if -4096<=((k+1:Nat):Int)/\((k+1:Nat):Int)<=4096 then aa (rN (L2.upTo ((k+1:Nat):Int).toNat)) else ae)=_
   rw[if_pos ⟨by omega,by omega⟩]
   rfl
  refine fE (kN ((t 5).trans (by rw[decide_eq_false q5]))) ?_
  exact dA rfl ⟨_,rfl,[],rfl,by simp,by simp⟩
 obtain⟨d,e,ms,rfl,h⟩:=this;exact⟨ms,e,h⟩
theorem n9:∀ i:Fin 10,(toString ((i.val:Nat):Int):aC).length<=4/\cH (.str (toString ((i.val:Nat):Int)))=af/\cH (.str (("n" : aC)++(toString ((i.val:Nat):Int):aC)))=af/\((i.val:Nat):Int).natAbs.log2<1920:=by rw[0]
theorem Ui:∀ i:Fin 12,Ak1 12 (jZ "n" i.val):=by
 intro i;exact⟨(by rw[0]:∀ i:Fin 12,cH (.str (jZ "n" i.val))=af) i,by rw[Ah,show("n" : aC).length=1 by rw[0]];omega⟩
theorem FE (c:Int)(hk:k<10):∃ z:aC,nJ [.int c,.int k]=aa (.str z)/\cH (.str z)=af:=by
 have:∃ d,nJ [.int c,.int k]=aa d/\∃ z:aC,d=.str z/\cH (.str z)=af:=by
  rw[10];have tt:∀ x:Int,bV .s (aw (ah gc (ah cR (aB 0) (eC (.int 3))) (eC (.int x)))) [s0 (.int c),s0 (.int k)]=aa (decide (c%(3:Nat)=x)):=λx=>eI (aP (aP rfl rfl (fQ c 3 (by omega))) rfl (qY _ _))
  by_cases h0:c%(3:Nat)=0
  .have w:Ak1 10 "abcdefghij":=⟨by rw[0],by rw[0]⟩
   exact oJ (fJ ((tt 0).trans (by rw[decide_eq_true h0])) (dA (Pr w (by omega) rfl rfl rfl) ⟨_,rfl,_,rfl,_,rfl,(w.cut _ _).1⟩))
  refine fE (kN ((tt 0).trans (by rw[decide_eq_false h0]))) ?_
  by_cases h1:c%(3:Nat)=1
  .obtain⟨f1,f3,f4,f5⟩:=n9 ⟨k,hk⟩;refine oJ (fJ ((tt 1).trans (by rw[decide_eq_true h1])) (dA (d:=.str (("n" : aC)++(toString ((k:Nat):Int):aC))) (aP (a:=.str "n") (b:=.str (toString ((k:Nat):Int))) rfl (aY (ds:=[.int k]) rfl ?_) ?_) ⟨_,rfl,_,rfl,_,rfl,f4⟩))
   .show(if ((k:Nat):Int).natAbs.log2<1920/\cH (.str (toString ((k:Nat):Int)))=af then aa (cK (toString ((k:Nat):Int))) else ae)=_
    rw[if_pos ⟨f5,f3⟩]
   .show(if ("n" : aC).length+(toString ((k:Nat):Int):aC).length<=sizeLine then aa (cK (("n" : aC)++(toString ((k:Nat):Int):aC))) else ae)=_
    have Y4:(toString ((k:Nat):Int):aC).length<=4:=f1;rw[if_pos (nC (by rw[show("n" : aC).length=1 by rw[0]];omega))]
  refine fE (kN ((tt 1).trans (by rw[decide_eq_false h1]))) ?_
  have jl:("jihgfedcba" : aC).length=10:=by rw[0]
  obtain⟨u,eu,hu⟩:=Po (z:="jihgfedcba") (i:=(k:Int)) (by omega) (by rw[jl];omega) (by rw[jl];omega) (by rw[0])
  have b12:=fU (c/(3:Nat)) (show(0:Int)<(12:Nat) by omega)
  obtain⟨m,em⟩:=mV b12.1;have hm:m<12:=by omega
  have ws:=Ui ⟨m,hm⟩;have em2:EG (.str "n") (.int (m:Int))=aa (.str (jZ "n" m)):=by
   show(if (0<=(m:Int)/\(m:Int)<=1000)/\((("n" : aC).length==0)=ag/\("n" : aC).length<=1000)/\cH (.str (jZ "n" (m:Int).toNat))=af then aa (cK (jZ "n" (m:Int).toNat)) else ae)=_
   rw[show(m:Int).toNat=m by omega,if_pos ⟨⟨by omega,by omega⟩,⟨by rw[0],by rw[0]⟩,ws.1⟩]
  exact dA (aP (aP rfl rfl eu) (aP rfl (aP (aP rfl rfl (mX c 3 (by omega))) rfl ((fQ _ 12 (by omega)).trans (by rw[em]))) em2) (Vc (Ak hu) ws (by omega))) ⟨_,rfl,_,rfl,((Ak hu).cat ws).1⟩
 obtain⟨d,e,z,rfl,hz⟩:=this;exact⟨z,e,hz⟩
def DU (c:Int)(N:Nat->aC):Prop:=∀ k:Nat,k<10->nJ [.int c,.int k]=aa (.str (N k))/\cH (.str (N k))=af
theorem Ls (c:Int):∃ N,DU c N:=⟨λ(k:Nat)=>if h:k<10 then(FE c h).choose else "",λk hk=>by
 show nJ [.int c,.int k]=aa (.str (if h:k<10 then(FE c h).choose else ""))/\cH (.str (if h:k<10 then(FE c h).choose else ""))=af
 rw[dif_pos hk];exact(FE c hk).choose_spec⟩
def TAB:List aC:=["a","n1","b","ab","n2","n","n3","bb"]
def vg (t:aC):Nat:=if t = "a" \/ t = "n1" then 1 else if t = "b" \/ t = "ab" then 2 else if t = "n2" \/ t = "n" then 3 else 4
theorem Sa (t:aC):1<=vg t:=by
 unfold vg;split
 .exact bE _
 .split
  .omega
  .split<;>omega
theorem Nd {w b:Nat}(h1:1<=w)(h4:w<=4)(hb:b<2):∃ t∈TAB,vg t=w/\bc (.list (TAB.map cK)) (.int (2*(w:Int)-1-(b:Int)))=aa (.str t):=by
 rcases(show w=1\/w=2\/w=3\/w=4 by omega) with e|e|e|e<;>rcases(show b=0\/b=1 by omega) with f|f<;>subst e<;>subst f
 .exact⟨"n1",by rw[0],by rw[0],rfl⟩
 .exact⟨"a",by rw[0],by rw[0],rfl⟩
 .exact⟨"ab",by rw[0],by rw[0],rfl⟩
 .exact⟨"b",by rw[0],by rw[0],rfl⟩
 .exact⟨"n",by rw[0],by rw[0],rfl⟩
 .exact⟨"n2",by rw[0],by rw[0],rfl⟩
 .exact⟨"bb",by rw[0],by rw[0],rfl⟩
 .exact⟨"n3",by rw[0],by rw[0],rfl⟩
def V3 (c:Int)(i:Int):Prop:=∃ j:Nat,j<3/\i=gC c j
def pS (c:Int)(N:Nat->aC)(k:aI):Prop:=(∃ i,k=.inl i/\V3 c i)\/∃ m:Nat,m<10/\k=.inr (N m)
structure LnG (c:Int)(N:Nat->aC)(l:Ln):Prop where
 tab:l.1∈TAB
 wd:vg l.1=l.2.length
 w1:1<=l.2.length
 w4:l.2.length<=4
 trm:∀ k∈l.2,pS c N k
theorem Tr(h:∀ k∈ks,pS c N k){x:aI}(hx:pS c N x):∀ k∈ks.set i x,pS c N k:=λk m=>by
 rcases List.mem_or_eq_of_mem_set m with m|m
 .exact h k m
 .exact m ▸ hx
theorem Va (ns:List Int)(e1:eQ [lI ns,.int 1]=aa (.int c1))(xn:eQ [lI ns,.int 22]=aa (.int jv))(hN:DU (jv/(27:Nat)) N) :
  ∃ ls:List Ln,xK [lI ns]=aa (ak ls)/\ls.length<=4/\∀ l∈ls,LnG c1 N l:=by
 have:∃ d,xK [lI ns]=aa d/\∃ ls:List Ln,d=ak ls/\ls.length<=4/\∀ l∈ls,LnG c1 N l:=by
  rw[10];obtain⟨c0,ec0⟩:=uG ns (k:=0) (by omega) (by omega)
  refine cP (d:=.int c0) (aY (ds:=[lI ns,.int 0]) rfl ec0) (by simp) ?_
  have el:=iH (cap:=[ae,aa 0]) (fi:=qt (aF (eC (.int 10)) aJ)) (T:=gB 0) (t:=cU) (f:=aL nJ (aF (ah eX (aL eQ (aF (aB 1) (aF (eC (.int 22)) aJ))) (eC (.int 27))) (aF (aB 0) aJ)))
   (Y:=vS [s0 (lI ns),s0 (.int c0),ae,ae,ae,ae,ae,ae,ae,ae,ae,ae]) (xs:=bY 10) (q:=λ(k:Nat)=>aW k) (λ_=>af) (λk=>cK (N k)) (qX (n:=10) rfl (by omega)) (by simp) λk mk=>⟨[aa (.int k),aa (lI ns)],rfl,rfl,λ_=>aY (ds:=[.int (jv/(27:Nat)),.int k]) (bD (aP (a:=.int jv) (b:=.int (27:Nat)) (aY (ds:=[lI ns,.int 22]) rfl xn) rfl (mX jv 27 (by omega))) rfl) (hN k (gM.1 mk)).1⟩
  rw[lW.2 λ_ _=>rfl] at el
  refine cP (n:=1) (d:=.list ((bY 10).map λk=>cK (N k))) el (by simp) ?_
  refine oI ?_
  let NL:aA:=.list ((bY 10).map λk=>cK (N k))
  have nix:∀ m:Nat,m<10->bc NL (.int m)=aa (.str (N m)):=λm hm=>uK (by rw[eW,Hy hm];rfl)
  obtain⟨q,eq⟩:=mV (fU c0 (show(0:Int)<(7:Nat) by decide)).1
  obtain⟨n,en⟩:=mV (fU (c0/(7:Nat)) (show(0:Int)<(5:Nat) by decide)).1
  have hn:n<=4:=by have:=(fU (c0/(7:Nat)) (show(0:Int)<(5:Nat) by decide)).2;omega
  refine cP (d:=.int n) (aP (a:=.int (c0/(7:Nat))) (b:=.int (5:Nat)) (aP (a:=.int c0) (b:=.int (7:Nat)) rfl rfl (mX c0 7 (by omega))) rfl ((fQ _ 5 (by omega)).trans (by rw[en]))) (by simp[frz]) ?_
  refine cP (n:=1) (d:=.list []) rfl (by simp[frz]) ?_
  refine fV (λρ'=>∃ (ls:List Ln) (x5 x6 x7 x8 x9 au av:L2.Slot),ls.length=n/\(∀ l∈ls,LnG c1 N l)/\ρ'=[s0 (lI ns),s0 (.int c0),s0 NL,s0 (.int n),aa (1,.list (ls.map bA)),x5,x6,x7,x8,x9,au,av]) ?_ ?_
  .refine wH (n:=n) (λi ρ'=>∃ (ls:List Ln) (x5 x6 x7 x8 x9 au av:L2.Slot),ls.length=i/\(∀ l∈ls,LnG c1 N l)/\ρ'=[s0 (lI ns),s0 (.int c0),s0 NL,s0 (.int n),aa (1,.list (ls.map bA)),x5,x6,x7,x8,x9,au,av]) (iu (qX rfl (by omega))) ⟨[],ae,ae,ae,ae,ae,ae,ae,rfl,by simp,rfl⟩ ?_ ?_
   .rintro k _ hk ⟨ls,x5,x6,x7,x8,x9,au,av,hl,no,rfl⟩;refine⟨[s0 (lI ns),s0 (.int c0),s0 NL,s0 (.int n),aa (1,.list (ls.map bA)),s0 (.int k),x6,x7,x8,x9,au,av],rfl,?_⟩;obtain⟨c,ec⟩:=uG ns (k:=2+(k:Int)) (by omega) (by omega)
    refine cP (d:=.int c) (aY (ds:=[lI ns,.int (2+(k:Int))]) rfl ec) (by simp) ?_
    obtain⟨ms,ems,hm4,hm6⟩:=Sh (q:=q) hk hn;refine cP (d:=lN ms) (aY (ds:=[.int q,.int k,.int n]) (bD (aP (a:=.int c0) (b:=.int (7:Nat)) rfl rfl ((fQ _ 7 (by omega)).trans (by rw[eq]))) (bD rfl (bD rfl rfl))) ems) (by simp) ?_
    obtain⟨w,hw,w1,w4,wm⟩:∃ w:Nat,vQ [.int ms.length,.int (1+c%(4:Nat))]=aa (.int w)/\1<=w/\w<=4/\ms.length<=w:=by
     have b4:=fU c (show(0:Int)<(4:Nat) by decide)
     obtain⟨u,eu⟩:=mV b4.1;refine⟨max ms.length (1+u),?_,by omega,by omega,by omega⟩
     show aa (aW (if (1+c%(4:Nat)) > (ms.length:Int) then(1+c%(4:Nat)) else(ms.length:Int)))=_
     congr 2
     split<;>omega
    refine cP (d:=.int w) (aY (ds:=[.int ms.length,.int (1+c%(4:Nat))]) (bD (aY (ds:=[lN ms]) rfl (EU ms)) (bD (aP (a:=.int 1) (b:=.int (c%(4:Nat))) rfl (aP (a:=.int c) (b:=.int (4:Nat)) rfl rfl (fQ c 4 (by omega))) rfl) rfl)) hw) (by simp) ?_
    refine cP (n:=1) (d:=.list []) rfl (by simp) ?_
    let A:List L2.Slot:=[s0 (lI ns),s0 (.int c0),s0 NL,s0 (.int n),aa (1,.list (ls.map bA)),s0 (.int k),s0 (.int c),s0 (lN ms),s0 (.int w)]
    refine fV (λρ'=>∃ (ks:List aI) (au av:L2.Slot),ks.length=w/\(∀ t∈ks,pS c1 N t)/\ρ'=A++[aa (1,lK ks),au,av]) ?_ ?_
    .refine wH (n:=w) (λi ρ'=>∃ (ks:List aI) (au av:L2.Slot),ks.length=i/\(∀ t∈ks,pS c1 N t)/\ρ'=A++[aa (1,lK ks),au,av]) (iu (qX rfl (by omega))) ⟨[],au,av,rfl,by simp,rfl⟩ ?_ ?_
     .rintro j _ hj ⟨ks,au,av,md,wx,rfl⟩;refine⟨A++[aa (1,lK ks),s0 (.int j),av],rfl,?_⟩;obtain⟨v,ev⟩:=uG ns (k:=6+4*(k:Int)+(j:Int)) (by omega) (by omega)
      refine cP (d:=.int v) (aY (ds:=[lI ns,.int (6+4*(k:Int)+(j:Int))]) (bD rfl (bD (aP (a:=.int (6+4*(k:Int))) (b:=.int j) (aP (a:=.int 6) (b:=.int (4*(k:Int))) rfl (aP (a:=.int 4) (b:=.int k) rfl rfl (tV (by decide))) rfl) rfl rfl) rfl)) ev) (by simp[A]) ?_
      have fin:∀ {t:aI} {f:EF},f (vS (A++[aa (1,lK ks),s0 (.int j),s0 (.int v)]))=aa (kD t)->pS c1 N t->Goes (gR 9 .s f) (A++[aa (1,lK ks),s0 (.int j),s0 (.int v)]) λo=>∃ ρ2,(o=.nx ρ2\/o=.ct ρ2)/\∃ (ks:List aI) (au av:L2.Slot),ks.length=j+1/\(∀ t∈ks,pS c1 N t)/\ρ2=A++[aa (1,lK ks),au,av]:=λ{t f} h ht=>
       uI (d:=kD t) (ds:=ks.map kD) h rfl (by simp;omega) ⟨_,.inl rfl,ks++[t],s0 (.int j),s0 (.int v),by simp[md],λy my=>by
        rcases gP.1 my with r|r
        .exact wx y r
        .rw[bX.1 r];exact ht,by simp[A,lK]⟩
      have t4:bV .s (aw (ah gc (ah cR (aB 11) (eC (.int 4))) (eC (.int 0)))) (A++[aa (1,lK ks),s0 (.int j),s0 (.int v)])=aa (decide (v%(4:Nat)=0)):=eI (aP (a:=.int (v%(4:Nat))) (b:=.int 0) (aP (a:=.int v) (b:=.int (4:Nat)) rfl rfl (fQ v 4 (by omega))) rfl (qY _ _))
      have t7:bV .s (aw (ah gc (ah cR (aB 1) (eC (.int 7))) (eC (.int 0)))) (A++[aa (1,lK ks),s0 (.int j),s0 (.int v)])=aa (decide (c0%(7:Nat)=0)):=eI (aP (a:=.int (c0%(7:Nat))) (b:=.int 0) (aP (a:=.int c0) (b:=.int (7:Nat)) rfl rfl (fQ c0 7 (by omega))) rfl (qY _ _))
      obtain⟨u3,eu3⟩:=mV (fU (v/(4:Nat)) (show(0:Int)<(3:Nat) by decide)).1
      have hu3:u3<3:=by have:=(fU (v/(4:Nat)) (show(0:Int)<(3:Nat) by decide)).2;omega
      have e43:ah cR (ah eX (aB 11) (eC (.int 4))) (eC (.int 3)) (vS (A++[aa (1,lK ks),s0 (.int j),s0 (.int v)]))=aa (.int u3):=aP (a:=.int (v/(4:Nat))) (b:=.int (3:Nat)) (aP (a:=.int v) (b:=.int (4:Nat)) rfl rfl (mX v 4 (by omega))) rfl ((fQ _ 3 (by omega)).trans (by rw[eu3]))
      by_cases h4:v%(4:Nat)=0
      .exact fJ (t4.trans (by rw[decide_eq_true h4])) (fin (t:=.inl (gC c1 u3)) (aY (ds:=[.int c1,.int u3]) (bD (aY (ds:=[lI ns,.int 1]) rfl e1) (bD e43 rfl)) (FO c1 u3)) (.inl ⟨_,rfl,u3,hu3,rfl⟩))
      refine jY (t4.trans (by rw[decide_eq_false h4])) ?_
      by_cases h7:c0%(7:Nat)=0
      .exact fJ (t7.trans (by rw[decide_eq_true h7])) (fin (t:=.inr (N u3)) (aP (a:=NL) (b:=.int u3) rfl e43 (nix u3 (by omega))) (.inr ⟨u3,by omega,rfl⟩))
      refine jY (t7.trans (by rw[decide_eq_false h7])) ?_
      obtain⟨i,ei⟩:=mV (fU (v/(4:Nat)) (show(0:Int)<((ms.length+2:Nat):Int) by omega)).1
      have hi:i<ms.length+2:=by have:=(fU (v/(4:Nat)) (show(0:Int)<((ms.length+2:Nat):Int) by omega)).2;omega
      obtain⟨m,mm,em⟩:=SO (cs:=ms++[6+k,6+k]) (i:=i) (by simp;omega)
      have hm:m<10:=by
       rcases gP.1 mm with r|r
       .have:=hm6 m r;omega
       .simp at r;omega
      refine fin (t:=.inr (N m)) (aP (a:=NL) (b:=.int m) rfl (aP (a:=lN (ms++[6+k,6+k])) (b:=.int i) (aP (a:=lN ms) (b:=lN [6+k,6+k]) rfl ?_ ?_) (aP (a:=.int (v/(4:Nat))) (b:=.int ((ms.length+2:Nat):Int)) (aP (a:=.int v) (b:=.int (4:Nat)) rfl rfl (mX v 4 (by omega))) (aP (a:=.int ms.length) (b:=.int 2) (aY (ds:=[lN ms]) rfl (EU ms)) rfl rfl) ((fQ _ (ms.length+2) (by omega)).trans (by rw[ei]))) em) (nix m hm)) (.inr ⟨m,hm,rfl⟩)
      .refine sF (bD (d:=.int ((6+k:Nat):Int)) ?_ (bD (g:=aJ) (d:=.int ((6+k:Nat):Int)) ?_ rfl))
       .refine aP (a:=.int 6) (b:=.int k) rfl rfl ?_;show aa (aW (6+(k:Int)))=_
        congr 2
       .refine aP (a:=.int 6) (b:=.int k) rfl rfl ?_;show aa (aW (6+(k:Int)))=_
        congr 2
      .show(if (ms.map λ(c:Nat)=>aW c).length+([6+k,6+k].map λ(c:Nat)=>aW c).length<=sizeLine then aa (rN ((ms.map λ(c:Nat)=>aW c)++[6+k,6+k].map λ(c:Nat)=>aW c)) else ae)=_
       rw[if_pos (nC (by simp;omega)),<-kH]
     .rintro _ ⟨ks,au,av,md,wx,rfl⟩;exact⟨_,rfl,ks,au,av,md,wx,rfl⟩
    rintro _ ⟨ks,au,av,md,wx,rfl⟩;refine fV (λρ'=>∃ (ks:List aI) (au av:L2.Slot),ks.length=w/\(∀ t∈ks,pS c1 N t)/\ρ'=A++[aa (1,lK ks),au,av]) ?_ ?_
    .refine wH (n:=ms.length) (λi ρ'=>∃ (ks:List aI) (au av:L2.Slot),ks.length=w/\(∀ t∈ks,pS c1 N t)/\ρ'=A++[aa (1,lK ks),au,av]) (iu (qX (bD (aY (ds:=[lN ms]) rfl (EU ms)) rfl) (by omega))) ⟨ks,au,av,md,wx,rfl⟩ ?_ ?_
     .rintro j _ hj ⟨ks,au,av,md,wx,rfl⟩;refine⟨A++[aa (1,lK ks),s0 (.int j),av],rfl,?_⟩;obtain⟨m,mm,em⟩:=SO hj;have hm:m<10:=by have:=hm6 m mm;omega
      have XL:(0:Int)<(w:Int):=by omega
      obtain⟨i,ei⟩:=mV (fU (c/(4:Nat)+j) XL).1;have hi:i<w:=by have:=(fU (c/(4:Nat)+j) XL).2;omega
      refine Ee (d:=.str (N m)) (j:=(i:Int)) (jn:=i) (ds:=ks.map kD) (aP (a:=NL) (b:=.int m) rfl (aP (a:=lN ms) (b:=.int j) rfl rfl em) (nix m hm)) rfl (aP (a:=.int (c/(4:Nat)+j)) (b:=.int w) (aP (a:=.int (c/(4:Nat))) (b:=.int j) (aP (a:=.int c) (b:=.int (4:Nat)) rfl rfl (mX c 4 (by omega))) rfl rfl) rfl ((fQ _ w (by omega)).trans (by rw[ei]))) (EO (by simp;omega)) ⟨_,.inl rfl,ks.set i (.inr (N m)),s0 (.int j),av,by simpa using md,Tr wx (.inr ⟨m,hm,rfl⟩),?_⟩
      simp[A,lK,List.map_set,kD]
     .rintro _ ⟨ks,au,av,md,wx,rfl⟩;exact⟨_,rfl,ks,au,av,md,wx,rfl⟩
    rintro _ ⟨ks,au,av,md,wx,rfl⟩;obtain⟨b,eb⟩:=mV (fU (c/(16:Nat)) (show(0:Int)<(2:Nat) by decide)).1
    have hb:b<2:=by have:=(fU (c/(16:Nat)) (show(0:Int)<(2:Nat) by decide)).2;omega
    obtain⟨t,mt,ht,et⟩:=Nd w1 w4 hb;refine oI (uI (d:=bA (t,ks)) (ds:=ls.map bA) (EK (bD (aP (a:=.list (TAB.map cK)) (b:=.int (2*(w:Int)-1-(b:Int))) rfl (aP (a:=.int (2*(w:Int)-1)) (b:=.int b) (aP (a:=.int (2*(w:Int))) (b:=.int 1) (aP (a:=.int 2) (b:=.int w) rfl rfl (tV (by decide))) rfl rfl) (aP (a:=.int (c/(16:Nat))) (b:=.int (2:Nat)) (aP (a:=.int c) (b:=.int (16:Nat)) rfl rfl (mX c 16 (by omega))) rfl ((fQ _ 2 (by omega)).trans (by rw[eb]))) rfl) et) (bD (g:=aJ) (d:=tK ks) (aY (ds:=[lK ks]) rfl rfl) rfl))) rfl (by simp;omega) ⟨_,.inl rfl,ls++[(t,ks)],s0 (.int k),s0 (.int c),s0 (lN ms),s0 (.int w),s0 (lK ks),au,av,by simp[hl],λx mx=>?_,by simp[A,frz]⟩)
    rcases gP.1 mx with r|r
    .exact no x r
    .rw[bX.1 r];exact⟨mt,by show vg t=ks.length;omega,by show 1<=ks.length;omega,by show ks.length<=4;omega,wx⟩
   .rintro _ ⟨ls,x5,x6,x7,x8,x9,au,av,hl,no,rfl⟩;exact⟨_,rfl,ls,x5,x6,x7,x8,x9,au,av,hl,no,rfl⟩
  rintro _ ⟨ls,x5,x6,x7,x8,x9,au,av,hl,no,rfl⟩;exact oI (dA (d:=ak ls) rfl ⟨_,rfl,ls,rfl,by omega,no⟩)
 obtain⟨d,e,ls,rfl,h⟩:=this;exact⟨ls,e,h⟩
theorem Tg{kd v:aA}{key:aI}(hg:oD i Y=aa kds)(hk:g (vS Y)=aa kd)(ha:cA kd=aa key)(hl:cC kds key=aa v)(k:P (.nx (Y.set i (aa (2,.dict (rW kds key)))))):Goes (HA i .s g) Y P:=⟨_,by
 have e2:eV 0 .s g Y=aa kd:=hk;unfold HA;rw[hg,bS,e2,bS,ha,bS,hl,if_pos (show(aa v).isSome=af from rfl)],k⟩
theorem Tz (L:List Tb)(t:aC):rW (ba L) (.inr t)=ba (L.filter λp=>decide (p.1≠t)):=by
 unfold rW ba;rw[List.filter_map]
 congr 1
 refine List.filter_congr λp _=>?_
 show decide (cA (cK p.1)≠aa (gE t))=decide (p.1≠t);rw[decide_eq_decide];exact⟨λh e=>h (by rw[e];rfl),λh e=>h (by
  have e:=e;injection e with e;injection e)⟩
theorem Os(h:j<r.length):bc (vy r) (.int j)=aa (.int (r.getD j 0)):=KC (getD_some 0 h)
structure BkG (c:Int)(L:List Tb):Prop where
 nd:(L.map (·.1)).Nodup
 tab:∀ p∈L,p.1∈TAB
 few:∀ p∈L,p.2.length<=5
 once:∀ p∈L,p.2.Nodup
 row:∀ p∈L,∀ r∈p.2,r.length=vg p.1/\∀ i∈r,V3 c i
section
variable {L:List Tb}{t:aC}
theorem BkG.nil:BkG c []:=⟨yM,λ_ m=>(by simp at m),λ_ m=>(by simp at m),λ_ m=>(by simp at m),λ_ m=>(by simp at m)⟩
theorem BkG.len (o:BkG c L):L.length<=8:=by
 have:=IF o.nd λt m=>by
  obtain⟨p,mp,rfl⟩:=bI.1 m;exact o.tab p mp
 rw[cJ] at this;exact this
theorem BkG.atR (o:BkG c L)(t:aC):(bg L t).length<=5/\(bg L t).Nodup/\∀ r∈bg L t,r.length=vg t/\∀ i∈r,V3 c i:=by
 by_cases h:bg L t=[]
 .rw[h];exact⟨by simp,yM,λr m=>by simp at m⟩
 .obtain⟨r,mr⟩:=List.exists_mem_of_ne_nil _ h;obtain⟨p,mp,rfl,e⟩:=Qt mr;rw[<-e];exact⟨o.few p mp,o.once p mp,o.row p mp⟩
def ky (L:List Tb)(t:aC):List Tb:=if t∈L.map (·.1) then L else L++[(t,[])]
theorem Ni (L:List Tb)(t:aC):ve (ba L) (.inr t)=ba (ky L t):=by
 unfold ve ky;by_cases h:t∈L.map (·.1)
 .rw[sI h,if_pos h]
 .rw[FY,Bv h,if_neg h];unfold ba;rw[kH]
  rfl
theorem zL (L:List Tb)(t:aC):t∈(ky L t).map (·.1):=by
 unfold ky;by_cases h:t∈L.map (·.1)
 .rw[if_pos h];exact h
 .rw[if_neg h];simp
theorem vR (L:List Tb)(t t':aC):bg (ky L t) t'=bg L t':=by
 unfold ky;by_cases h:t∈L.map (·.1)
 .rw[if_pos h]
 .rw[if_neg h];unfold bg;rw[RK];cases e:L.find? λp=>decide (p.1=t') with
  |some p=>rfl
  |none=>
   by_cases q:t=t'
   .simp[q]
   .simp[q]
theorem BkG.sd (o:BkG c L)(ht:t∈TAB):BkG c (ky L t):=by
 unfold ky;by_cases h:t∈L.map (·.1)
 .rw[if_pos h];exact o
 .rw[if_neg h];have key:∀ {Q:Tb->Prop},(∀ p∈L,Q p)->Q (t,[])->∀ p∈L++[(t,[])],Q p:=λh1 h2 p m=>by
   rcases gP.1 m with m|m
   .exact h1 p m
   .rw[bX.1 m];exact h2
  refine⟨?_,key o.tab ht,key o.few (by simp),key o.once yM,key o.row λr m=>by simp at m⟩
  rw[kH];exact vF.2 ⟨o.nd,by simp,λa ha b hb e=>h (by simp at hb;rw[<-hb,<-e];exact ha)⟩
theorem OL:∀ {L:List Tb},t∈L.map (·.1)->∀ t',bg (jB L t R) t'=if t'=t then R else bg L t'
 |[],h,t'=>by simp at h
 |p::L,h,t'=>by
  have e:jB (p::L) t R=if p.1=t then(p.1,R)::L else p::jB L t R:=rfl
  rw[e];have ac:∀ (q:Tb) (M:List Tb),bg (q::M) t'=if q.1=t' then q.2 else bg M t':=λq M=>by
   unfold bg;rw[fN];by_cases z:q.1=t'
   .rw[decide_eq_true z,if_pos z];rfl
   .rw[decide_eq_false z,if_neg z]
  by_cases hp:p.1=t
  .rw[if_pos hp,ac,ac];by_cases q:t'=t
   .rw[if_pos q,if_pos (hp.trans q.symm)]
   .rw[if_neg q,if_neg (λz=>q (z.symm.trans hp)),if_neg (λz=>q (z.symm.trans hp))]
  .rw[if_neg hp,ac,ac];have h':t∈L.map (·.1):=by
    rcases cM.1 h with z|z
    .exact absurd z.symm hp
    .exact z
   rw[OL h'];by_cases q:t'=t
   .rw[if_pos q,if_neg (λz=>hp (z.trans q)),if_pos q]
   .rw[if_neg q,if_neg q]
theorem BkG.upd (o:BkG c L)(h1:R.length<=5)(h2:R.Nodup)(h3:∀ r∈R,r.length=vg t/\∀ i∈r,V3 c i):BkG c (jB L t R):=by
 refine⟨by rw[LB];exact o.nd,λp m=>?_,λp m=>?_,λp m=>?_,λp m=>?_⟩
 .have:p.1∈(jB L t R).map (·.1):=bI.2 ⟨p,m,rfl⟩;rw[LB] at this;obtain⟨q,mq,e⟩:=bI.1 this;rw[<-e];exact o.tab q mq
 .rcases FA m with m|⟨m1,m2⟩
  .exact o.few p m
  .rw[m2];exact h1
 .rcases FA m with m|⟨m1,m2⟩
  .exact o.once p m
  .rw[m2];exact h2
 .rcases FA m with m|⟨m1,m2⟩
  .exact o.row p m
  .rw[m1,m2];exact h3
theorem BkG.add (o:BkG c L)(hw:row.length=vg t)(hv:∀ i∈row,V3 c i)(hn:row∉bg L t)(hl:(bg L t).length<5):BkG c (jB L t (bg L t++[row])):=by
 obtain⟨a1,a2,a3⟩:=o.atR t;refine o.upd (by rw[mU];simp;omega) ?_ λr m=>?_
 .exact vF.2 ⟨a2,by simp,λa ha b hb e=>hn (by rw[bX] at hb;rw[<-hb,<-e];exact ha)⟩
 .rcases gP.1 m with m|m
  .exact a3 r m
  .rw[bX.1 m];exact⟨hw,hv⟩
theorem BkG.out (o:BkG c L)(f:Tb->Bool):BkG c (L.filter f):=
 ⟨o.nd.sublist (Ih.map _),λp m=>o.tab p (pC.1 m).1,λp m=>o.few p (pC.1 m).1,λp m=>o.once p (pC.1 m).1,λp m=>o.row p (pC.1 m).1⟩
theorem Fe(hg:oD i Y=aa (ba L))(hk:g (vS Y)=aa (.str t))(ht:t∈L.map (·.1))(hf:f (vS Y)=aa (bC row))(hl:(bg L t).length<100000)(k:P (.nx (Y.set i (aa (2,.dict (ba (jB L t (bg L t++[row])))))))):Goes (xW i .s g .s f) Y P:=⟨_,by
 have e1:eV 0 .s g Y=aa (.str t):=hk;have e2:eV 0 .s f Y=aa (bC row):=hf;unfold xW;rw[hg,bS,e1,bS,show cA (.str t)=aa (.inr t) from rfl,bS,sI ht,bS]
 show((eV 0 .s f Y).bind λd=>if fR d=af/\((bg L t).map bC).length<sizeLine then aa (Out.nx (Y.set i (aa (2,.dict (qK (ba L) (.inr t) (.list ((bg L t).map bC++[d]))))))) else ae)=_
 rw[e2,bS,if_pos ⟨LZ row,uH (by rw[cJ];exact pB hl)⟩]
 have:(bg L t).map bC++[bC row]=(bg L t++[row]).map bC:=by rw[kH];rfl
 rw[this];show aa (Out.nx (Y.set i (aa (2,.dict (qK (ba L) (.inr t) (aX (bg L t++[row])))))))=_;rw[Fd],k⟩
theorem any_rows (r:List Int)(R:List (List Int)):((R.map bC).any λz=>cD z (bC r))=decide (r∈R):=by
 rw[List.any_map];by_cases h:r∈R
 .rw[decide_eq_true h];exact yR.2 ⟨r,h,by simp[FN]⟩
 .rw[decide_eq_false h,Ij];intro x mx;simp only[Function.comp,FN,decide_eq_true_eq];exact λe=>h (e ▸ mx)
theorem Ww{f0:EF}{m2:Md}{t2:BF}{F:SF}(hL:L.length<=8)(hg:oD i Y=aa (ba L))(h0:f0 (vS Y)=aa (bC row))(hk:g (vS Y)=aa (.str t))
  (h1:row∈bg L t->P (.nx (Y.set i (aa (2,.dict (ba (ky L t))))))) (h2:row∉bg L t->∃ b,bV m2 t2 (Y.set i (aa (2,.dict (ba (ky L t)))))=aa b/\(b=af->Goes F (Y.set i (aa (2,.dict (ba (ky L t))))) P)/\(b=ag->P (.nx (Y.set i (aa (2,.dict (ba (ky L t)))))))) :
  Goes (vY i .s f0 .s g m2 t2 F) Y P:=by
 have e0:eV 0 .s f0 Y=aa (bC row):=h0;have e1:eV 0 .s g Y=aa (.str t):=hk;have lk:cC (ba (ky L t)) (.inr t)=aa (aX (bg L t)):=by rw[sI (zL L t),vR]
 have e:vY i .s f0 .s g m2 t2 F Y=if row∈bg L t then aa (.nx (Y.set i (aa (2,.dict (ba (ky L t)))))) else(bV m2 t2 (Y.set i (aa (2,.dict (ba (ky L t)))))).bind λb=>if b=af then F (Y.set i (aa (2,.dict (ba (ky L t))))) else aa (.nx (Y.set i (aa (2,.dict (ba (ky L t)))))):=by
  unfold vY;rw[e0,bS,hg,bS,e1,bS,show cA (.str t)=aa (.inr t) from rfl,bS,Ni,lk]
  show(if (ba L).length<sizeLine/\(cZ (bC row)&&noDicts ((bg L t).map bC))=af then _ else ae)=_
  rw[if_pos ⟨uH (by unfold ba;rw[cJ];omega),by rw[MD,GR];rfl⟩,any_rows]
  by_cases h:row∈bg L t
  .rw[if_pos (decide_eq_true h),if_pos h]
  .rw[if_neg (by rw[decide_eq_false h];exact lX),if_neg h]
 by_cases h:row∈bg L t
 .rw[if_pos h] at e;exact⟨_,e,h1 h⟩
 .rw[if_neg h] at e;obtain⟨b,eb,k1,k2⟩:=h2 h;rw[eb,bS] at e;cases b with
  |true=>
   rw[if_pos rfl] at e;obtain⟨o,eo,po⟩:=k1 rfl;exact⟨o,e.trans eo,po⟩
  |false=>
   rw[if_neg lX] at e;exact⟨_,e,k2 rfl⟩
theorem Eo {Y:List (Option aA)}{fd fk:EF}(hd:fd Y=aa (.dict (ba L)))(hk:fk Y=aa (.str t))(ht:t∈L.map (·.1)):aw (ah vd (aL cO (aF (ah bc fd fk) aJ)) (eC (.int 5))) Y=aa (decide ((bg L t).length<5)):=by
 refine eI (aP (aY (bD (aP hd hk (sI ht)) rfl) ((JL _).trans (by rw[cJ]))) rfl ?_)
 show aa (kW (decide (((bg L t).length:Int)<5)))=_
 congr 2
 rw[decide_eq_decide];omega
end
abbrev jw (ns:List Int)(ls:List Ln)(L:List Tb)(c1:Int)(x4 x5 x6 x7 x8 x9 au av x12:L2.Slot):aU:=[s0 (lI ns),s0 (ak ls),aa (2,.dict (ba L)),s0 (.int c1),x4,x5,x6,x7,x8,x9,au,av,x12]
def VlG (c:Int)(N:Nat->aC)(kn:Kn):Prop:=(∀ m:Nat,m<10->∃ u,cF kn (N m)=aa u)/\∀ z u,cF kn z=aa u->V3 c u
theorem VlG.tel{kn:Kn}(h:VlG c N kn)(g:LnG c N l):rR kn (dX kn) l.2/\∀ i∈l.2.map (tv (dX kn)),V3 c i:=by
 have tl:rR kn (dX kn) l.2:=λz mz=>by
  rcases g.trm _ mz with⟨i,e,_⟩|⟨m,hm,e⟩
  .cases e
  .cases e;obtain⟨u,eu⟩:=h.1 m hm;unfold dX;rw[eu]
   rfl
 refine⟨tl,λi mi=>?_⟩
 obtain⟨k,mk,rfl⟩:=bI.1 mi;cases k with
 |inl j=>
  rcases g.trm _ mk with⟨i,e,h3⟩|⟨m,hm,e⟩
  .cases e;exact h3
  .cases e
 |inr z=>exact h.2 z _ (tl z mk)
theorem Sw (xn:eQ [lI ns,.int 22]=aa (.int jv))(hN:DU (jv/(27:Nat)) N)(hk:k<10)(L:List Tb)(x6 x7 x8 x9 au av x12:L2.Slot) :
  Goes (dD .s (qt (aF (eC (.int 10)) aJ)) (js 6) (aT (bJ 7 0 .s (aL nJ (aF (ah eX (aL eQ (aF (aB 0) (aF (eC (.int 22)) aJ))) (eC (.int 27))) (aF (aB 6) aJ))))
 (mY 5 .s (aL lH (aF (aB 3) (aF (aL oO (aF (aL eQ (aF (aB 0) (aF (ah cX (eC (.int 23)) (aB 4)) aJ))) (aF (aB 6) (aF (eC (.int 3)) aJ)))) aJ))) .s (aB 7)))) (jw ns ls L c1 (s0 (.int k)) (aa (1,.dict [])) x6 x7 x8 x9 au av x12)
  λo=>∃ ρ',o=.nx ρ'/\∃ (kn:Kn) (x6 x7:L2.Slot),VlG c1 N kn/\ρ'=jw ns ls L c1 (s0 (.int k)) (aa (1,.dict (DN kn))) x6 x7 x8 x9 au av x12:=by
 obtain⟨ck,eck⟩:=uG ns (k:=23+(k:Int)) (by omega) (by omega)
 refine wH (n:=10) (λi ρ'=>∃ (kn:Kn) (x6 x7:L2.Slot),(kn.length<=i/\(∀ m:Nat,m<i->∃ u,cF kn (N m)=aa u)/\∀ z u,cF kn z=aa u->V3 c1 u)/\ρ'=jw ns ls L c1 (s0 (.int k)) (aa (1,.dict (DN kn))) x6 x7 x8 x9 au av x12) (iu (qX (n:=10) rfl (by omega))) ⟨[],x6,x7,⟨bE _,λm hm=>(by omega),λz u e=>(by cases e)⟩,rfl⟩ ?_ ?_
 .rintro i _ hi ⟨kn,x6,x7,⟨h1,h2,h3⟩,rfl⟩;refine⟨jw ns ls L c1 (s0 (.int k)) (aa (1,.dict (DN kn))) (s0 (.int i)) x7 x8 x9 au av x12,rfl,?_⟩;refine cP (d:=.str (N i)) (aY (ds:=[.int (jv/(27:Nat)),.int i]) (bD (aP (a:=.int jv) (b:=.int (27:Nat)) (aY (ds:=[lI ns,.int 22]) rfl xn) rfl (mX jv 27 (by omega))) rfl) (hN i hi).1) (by simp) ?_
  obtain⟨j,ej,hj⟩:=AC ck (k:=(i:Int)) (by omega) (by omega) (n:=3) (by omega)
  refine Ex (d:=.int (gC c1 j)) (kd:=.str (N i)) (key:=.inr (N i)) (kds:=DN kn) (aY (ds:=[.int c1,.int j]) (bD rfl (bD (aY (ds:=[.int ck,.int i,.int (3:Nat)]) (bD (aY (ds:=[lI ns,.int (23+(k:Int))]) rfl eck) rfl) ej) rfl)) (FO c1 j)) rfl rfl rfl (by simp[DN];omega) ⟨_,.inl rfl,putN kn (N i) (gC c1 j),s0 (.int i),s0 (.str (N i)),⟨?_,λm hm=>?_,λz u e=>?_⟩,?_⟩
  .unfold putN;split
   .rw[cJ];omega
   .rw[mU];simp;omega
  .rw[ZW];by_cases q:N m=N i
   .rw[if_pos q];exact⟨_,rfl⟩
   .rw[if_neg q];have:m≠i:=λe=>q (by rw[e])
    exact h2 m (by omega)
  .rw[ZW] at e;by_cases q:z=N i
   .rw[if_pos q] at e;cases e;exact⟨j,hj,rfl⟩
   .rw[if_neg q] at e;exact h3 z u e
  .rw[Ou]
   rfl
 .rintro _ ⟨kn,x6,x7,⟨_,h2,h3⟩,rfl⟩;exact⟨_,rfl,kn,x6,x7,⟨h2,h3⟩,rfl⟩
def Ne (L:List Tb)(l:Ln):Prop:=bg L l.1≠[]
theorem cY {L:List Tb}{t:aC}(ht:t∈L.map (·.1)){t':aC}(h:bg L t'≠[]):bg (jB L t (bg L t++[row])) t'≠[]:=by
 rw[OL ht];split
 .simp
 .exact h
theorem OV {L:List Tb}{t:aC}(h:bg L t≠[]):t∈L.map (·.1):=II λz=>h (Nm z)
theorem Vk {kn:Kn}(vq:VlG c1 N kn)(no:∀ l∈ls,LnG c1 N l)(hn:ls.length<=4){L:List Tb}(o:BkG c1 L)(x4 x6 x7 x8 x9 au av x12:L2.Slot) :
  Goes (dD .s (bt (aB 1)) (mC 8 9) (aT (bJ 10 0 .s (aL iE (aF (gb [ae,aa 5] (bt (aB 9)) (gB 0) cU (iP (aB 1) (aB 0) (aB 0))) aJ)))
 (vY 2 .s (aB 10) .s (aB 8) .a (aw (ah vd (aL cO (aF (ah bc (aB 2) (aB 8)) aJ)) (eC (.int 5)))) (xW 2 .s (aB 8) .s (aB 10))))) (jw ns ls L c1 x4 (s0 (bf kn)) x6 x7 x8 x9 au av x12)
  λo=>∃ ρ',(o=.nx ρ'\/o=.ct ρ')/\∃ (L:List Tb) (x5 x6 x7 x8 x9 au av x12:L2.Slot),BkG c1 L/\(∀ l∈ls,Ne L l)/\ρ'=jw ns ls L c1 x4 x5 x6 x7 x8 x9 au av x12:=by
 refine iU (xs:=ls) (q:=bA) (b0:=()) (λ_ _=>()) (λi _ ρ'=>∃ (L:List Tb) (x8 x9 au:L2.Slot),BkG c1 L/\(∀ l∈ls.take i,Ne L l)/\ρ'=jw ns ls L c1 x4 (s0 (bf kn)) x6 x7 x8 x9 au av x12) (iu (pK rfl)) ⟨L,x8,x9,au,o,by simp,rfl⟩ ?_ ?_
 .rintro i l _ _ hx ⟨L,x8,x9,au,o,cb,rfl⟩;have ml:=fH hx;have g:=no l ml;have w4:=g.w4;refine⟨jw ns ls L c1 x4 (s0 (bf kn)) x6 x7 (s0 (.str l.1)) (s0 (tK l.2)) au av x12,rfl,?_⟩;obtain⟨tl,v3⟩:=vq.tel g;have e:=iH (cap:=[ae,aa 5]) (fi:=bt (aB 9)) (T:=gB 0) (t:=cU) (f:=iP (aB 1) (aB 0) (aB 0)) (Y:=vS (jw ns ls L c1 x4 (s0 (bf kn)) x6 x7 (s0 (.str l.1)) (s0 (tK l.2)) au av x12)) (xs:=l.2) (q:=kD) (λ_=>af) (λk=>aW (tv (dX kn) k)) (pK rfl) (by omega) λk mk=>⟨[aa (kD k),aa (bf kn)],rfl,rfl,λ_=>KY tl mk⟩
  rw[lW.2 λ_ _=>rfl] at e
  refine cP (d:=bC (l.2.map (tv (dX kn)))) (aY (bD e rfl) ?_) (by simp) ?_
  .show aa (cV _)=aa (cV ((l.2.map (tv (dX kn))).map aW));rw[eP]
   rfl
  have rl:(l.2.map (tv (dX kn))).length=vg l.1:=by rw[cJ,g.wd]
  generalize l.2.map (tv (dX kn))=row at v3 rl;have ay:=o.len;have tk:ls.take (i+1)=ls.take i++[l]:=by rw[CY,hx];rfl
  have o2:=o.sd g.tab;refine Ww (L:=L) (t:=l.1) (row:=row) ay rfl rfl rfl (λh=>⟨_,.inl rfl,ky L l.1,s0 (.str l.1),s0 (tK l.2),s0 (bC row),o2,λl' m'=>?_,rfl⟩) λh=>?_
  .unfold Ne;rw[vR];rw[tk] at m';rcases gP.1 m' with m'|m'
   .exact cb l' m'
   .rw[bX.1 m'];exact List.ne_nil_of_mem h
  .refine⟨decide ((bg (ky L l.1) l.1).length<5),Eo rfl rfl (zL L l.1),λhb=>?_,λhb=>⟨_,.inl rfl,ky L l.1,s0 (.str l.1),s0 (tK l.2),s0 (bC row),o2,λl' m'=>?_,rfl⟩⟩
   .have hb:=of_decide_eq_true hb;refine Fe (L:=ky L l.1) (t:=l.1) (row:=row) rfl rfl (zL L l.1) rfl (by omega) ⟨_,.inl rfl,jB (ky L l.1) l.1 (bg (ky L l.1) l.1++[row]),s0 (.str l.1),s0 (tK l.2),s0 (bC row),o2.add rl v3 (by rw[vR];exact h) hb,λl' m'=>?_,rfl⟩
    rw[tk] at m';rcases gP.1 m' with m'|m'
    .exact cY (zL L l.1) (by rw[vR];exact cb l' m')
    .rw[bX.1 m'];unfold Ne;rw[OL (zL L l.1),if_pos rfl];simp
   .have hb:=of_decide_eq_false hb;rw[vR] at hb;unfold Ne;rw[vR];rw[tk] at m';rcases gP.1 m' with m'|m'
    .exact cb l' m'
    .rw[bX.1 m'];exact λz=>hb (by rw[z];simp)
 .rintro _ ⟨L,x8,x9,au,o,cb,rfl⟩;rw[HW] at cb;exact⟨_,.inl rfl,L,s0 (bf kn),x6,x7,x8,x9,au,av,x12,o,cb,rfl⟩
theorem JM {a b:List aA}(h:a.length+b.length<=1000):pR (.list a) (.list b)=aa (.list (a++b)):=by
 show(if a.length+b.length<=sizeLine then aa (rN (a++b)) else ae)=_
 rw[if_pos (nC (by omega))]
theorem Ti (no:∀ l∈ls,LnG c1 N l){L:List Tb}(o:BkG c1 L)(cb:∀ l∈ls,Ne L l)(ml:l∈ls)(c:Int)(hw:row.length=l.2.length)(hv:∀ i∈row,V3 c1 i)(x4 x5 x6 x7 x12:L2.Slot) :
  Goes (fj .s (aw (ah gc (ah cR (aB 11) (eC (.int 2))) (eC (.int 0)))) (aT (bJ 12 0 .a (ah bc (ah bc (aB 2) (aB 8)) (ah cR (ah eX (aB 11) (eC (.int 2))) (aL cO (aF (ah bc (aB 2) (aB 8)) aJ)))))
 (aT (bJ 6 0 .s (ah cR (ah eX (aB 11) (eC (.int 20))) (aL cO (aF (aB 9) aJ))))
 (bJ 10 0 .s (ah pR (ah pR (aL iR (aF (mK (aB 12) oN (oS (aB 6))) aJ)) (dJ (aF (ah bc (aB 10) (aB 6)) aJ))) (aL iR (aF (mK (aB 12) (oS (ah cX (aB 6) (eC (.int 1)))) oN) aJ)))))) dY) (jw ns ls L c1 x4 x5 x6 x7 (s0 (.str l.1)) (s0 (tK l.2)) (s0 (vy row)) (s0 (.int c)) x12)
  λo=>∃ ρ',o=.nx ρ'/\∃ (row:List Int) (x6 x12:L2.Slot),row.length=l.2.length/\(∀ i∈row,V3 c1 i)/\ρ'=jw ns ls L c1 x4 x5 x6 x7 (s0 (.str l.1)) (s0 (tK l.2)) (s0 (vy row)) (s0 (.int c)) x12:=by
 have g:=no l ml;have w1:=g.w1;have w4:=g.w4;have e2:bV .s (aw (ah gc (ah cR (aB 11) (eC (.int 2))) (eC (.int 0)))) (jw ns ls L c1 x4 x5 x6 x7 (s0 (.str l.1)) (s0 (tK l.2)) (s0 (vy row)) (s0 (.int c)) x12)=aa (decide (c%(2:Nat)=0)):=eI (aP (a:=.int (c%(2:Nat))) (b:=.int 0) (aP (a:=.int c) (b:=.int (2:Nat)) rfl rfl (fQ c 2 (by omega))) rfl (qY _ _))
 by_cases h2:c%(2:Nat)=0
 case neg=>exact jY (e2.trans (by rw[decide_eq_false h2])) (mH ⟨_,rfl,row,x6,x12,hw,hv,rfl⟩)
 refine fJ (e2.trans (by rw[decide_eq_true h2])) ?_
 have nz:=cb l ml;have hk:=OV nz;have lp:=List.length_pos_iff.2 nz;obtain⟨i,ei⟩:=mV (fU (c/(2:Nat)) (show(0:Int)<((bg L l.1).length:Int) by omega)).1
 have hi:i<(bg L l.1).length:=by have:=(fU (c/(2:Nat)) (show(0:Int)<((bg L l.1).length:Int) by omega)).2;omega
 obtain⟨a,ea⟩:=mV (fU (c/(20:Nat)) (show(0:Int)<(l.2.length:Int) by omega)).1
 have ha:a<l.2.length:=by have:=(fU (c/(20:Nat)) (show(0:Int)<(l.2.length:Int) by omega)).2;omega
 obtain⟨hr1,hr2⟩:=(o.atR l.1).2.2 _ (iW hi);have er:bc (aX (bg L l.1)) (.int i)=aa (bC (bg L l.1)[i]):=uK (by rw[eW,fA hi];rfl)
 generalize(bg L l.1)[i]=r at hr1 hr2 er;rw[g.wd] at hr1;refine Ga (aP (aP rfl rfl (sI hk)) (aP (aP rfl rfl (mX c 2 (by omega))) (aY (bD (aP rfl rfl (sI hk)) rfl) ((JL _).trans (by rw[cJ]))) ((fQ _ (bg L l.1).length lp).trans (by rw[ei]))) er) (LZ r) (by simp) ?_
 refine cP (aP (aP rfl rfl (mX c 20 (by omega))) (aY rfl ((qZ _).trans (by rw[cJ]))) ((fQ _ l.2.length (by omega)).trans (by rw[ea]))) (by simp) ?_
 let S:aU:=jw ns ls L c1 x4 x5 (s0 (.int a)) x7 (s0 (.str l.1)) (s0 (tK l.2)) (s0 (vy row)) (s0 (.int c)) (s0 (bC r))
 have s1:mK (aB 12) oN (oS (aB 6)) (vS S)=aa (.tuple ((r.map aW).take a)):=by
  have:=AB (ds:=r.map aW) (f:=aB 12) (lo:=oN) (hi:=oS (aB 6)) (Y:=vS S) (l:=ae) (u:=aa (a:Int)) rfl rfl rfl
  rwa [OM (by rw[cJ];omega)] at this
 have s2:mK (aB 12) (oS (ah cX (aB 6) (eC (.int 1)))) oN (vS S)=aa (.tuple ((r.map aW).drop (a+1))):=by
  have:=AB (ds:=r.map aW) (f:=aB 12) (lo:=oS (ah cX (aB 6) (eC (.int 1)))) (hi:=oN) (Y:=vS S) (l:=aa ((a+1:Nat):Int)) (u:=ae) rfl rfl rfl
  rwa [XD _ (by rw[cJ];omega)] at this
 have s3:dJ (aF (ah bc (aB 10) (aB 6)) aJ) (vS S)=aa (.list [.int (row.getD a 0)]):=sF (bD (g:=aJ) (aP (a:=vy row) (b:=.int a) rfl rfl (Os (by omega))) rfl)
 have q:((r.map aW).take a++[aW (row.getD a 0)])++(r.map aW).drop (a+1)=(r.take a++[row.getD a 0]++r.drop (a+1)).map aW:=by
  rw[kH,kH,Hv,List.map_drop]
  rfl
 refine zY (aP (aP (aY (bD s1 rfl) rfl) s3 (JM (by simp;omega))) (aY (bD s2 rfl) rfl) ((JM (by simp;omega)).trans (by rw[q]))) (by simp) ⟨_,rfl,r.take a++[row.getD a 0]++r.drop (a+1),s0 (.int a),s0 (bC r),by simp;omega,λv mv=>?_,rfl⟩
 rcases gP.1 mv with mv|mv
 .rcases gP.1 mv with mv|mv
  .exact hr2 v (RE mv)
  .rw[bX.1 mv];have ha2:a<row.length:=by omega
   have:row.getD a 0=row[a]:=by simp[kI,ha2]
   rw[this];exact hv _ (iW ha2)
 .exact hr2 v (List.mem_of_mem_drop mv)
theorem Qm (e1:eQ [lI ns,.int 1]=aa (.int c1))(xn:eQ [lI ns,.int 22]=aa (.int jv))(hN:DU (jv/(27:Nat)) N)(no:∀ l∈ls,LnG c1 N l)(hn:ls.length<=4):∃ L:List Tb,xH [lI ns,ak ls]=aa (.dict (ba L))/\BkG c1 L:=by
 have:∃ d,xH [lI ns,ak ls]=aa d/\∃ L:List Tb,d=.dict (ba L)/\BkG c1 L:=by
  rw[10];refine cP (n:=2) (d:=.dict (ba [])) rfl (by simp) ?_
  refine cP (d:=.int c1) (aY (ds:=[lI ns,.int 1]) rfl e1) (by simp) ?_
  obtain⟨u,eu⟩:=mV (fU jv (show(0:Int)<(3:Nat) by decide)).1
  have hu:u<3:=by have:=(fU jv (show(0:Int)<(3:Nat) by decide)).2;omega
  have ell:∀ Y:List (Option aA),Y[1]?.join=aa (ak ls)->aL cO (aF (aB 1) aJ) Y=aa (.int ls.length):=λY h=>aY (ds:=[ak ls]) (bD h rfl) ((qZ _).trans (by rw[cJ]))
  refine fV (λρ'=>∃ (L:List Tb) (x4 x5 x6 x7 x8 x9 au av x12:L2.Slot),BkG c1 L/\(∀ l∈ls,Ne L l)/\ρ'=jw ns ls L c1 x4 x5 x6 x7 x8 x9 au av x12) ?_ ?_
  .refine wH (n:=1+u) (λi ρ'=>∃ (L:List Tb) (x4 x5 x6 x7 x8 x9 au av x12:L2.Slot),BkG c1 L/\(0<i->∀ l∈ls,Ne L l)/\ρ'=jw ns ls L c1 x4 x5 x6 x7 x8 x9 au av x12) (iu (qX (n:=1+u) (bD (aP (a:=.int 1) (b:=.int u) rfl (aP (a:=.int jv) (b:=.int (3:Nat)) (aY (ds:=[lI ns,.int 22]) rfl xn) rfl ((fQ _ 3 (by omega)).trans (by rw[eu]))) (by
     show aa (aW (1+(u:Int)))=_
     congr 2)) rfl) (by omega))) ⟨[],ae,ae,ae,ae,ae,ae,ae,ae,ae,BkG.nil,λh=>(by omega),rfl⟩ ?_ ?_
   .rintro i _ hi ⟨L,x4,x5,x6,x7,x8,x9,au,av,x12,o,_,rfl⟩;refine⟨jw ns ls L c1 (s0 (.int i)) x5 x6 x7 x8 x9 au av x12,rfl,?_⟩;refine cP (n:=1) (d:=.dict []) rfl (by simp) ?_
    refine fV _ (Sw xn hN (k:=i) (by omega) L x6 x7 x8 x9 au av x12) ?_
    rintro _ ⟨kn,x6,x7,vq,rfl⟩;refine oI ?_;obtain⟨o',eo,ρ',h1,L',x5,x6,x7,x8,x9,au,av,x12,o2,cb,rfl⟩:=Vk (ns:=ns) vq no hn o (s0 (.int i)) x6 x7 x8 x9 au av x12;exact⟨o',eo,_,h1,L',s0 (.int i),x5,x6,x7,x8,x9,au,av,x12,o2,λ_=>cb,rfl⟩
   .rintro _ ⟨L,x4,x5,x6,x7,x8,x9,au,av,x12,o,cb,rfl⟩;exact⟨_,rfl,L,x4,x5,x6,x7,x8,x9,au,av,x12,o,cb (by omega),rfl⟩
  rintro _ ⟨L,x4,x5,x6,x7,x8,x9,au,av,x12,o,cb,rfl⟩;refine fV (λρ'=>∃ (L:List Tb) (x4 x5 x6 x7 x8 x9 au av x12:L2.Slot),BkG c1 L/\(∀ l∈ls,Ne L l)/\ρ'=jw ns ls L c1 x4 x5 x6 x7 x8 x9 au av x12) ?_ ?_
  .refine wH (n:=3*ls.length) (λi ρ'=>∃ (L:List Tb) (x4 x5 x6 x7 x8 x9 au av x12:L2.Slot),BkG c1 L/\(∀ l∈ls,Ne L l)/\ρ'=jw ns ls L c1 x4 x5 x6 x7 x8 x9 au av x12) (iu (qX (n:=3*ls.length) (bD (aP (a:=.int 3) (b:=.int ls.length) rfl (ell _ rfl) ((tV (by decide)).trans (by
     congr 2))) rfl) (by omega))) ⟨L,x4,x5,x6,x7,x8,x9,au,av,x12,o,cb,rfl⟩ ?_ ?_
   .rintro i _ hi ⟨L,x4,x5,x6,x7,x8,x9,au,av,x12,o,cb,rfl⟩;refine⟨jw ns ls L c1 (s0 (.int i)) x5 x6 x7 x8 x9 au av x12,rfl,?_⟩;have n0:0<ls.length:=by omega
    have hj:i%ls.length<ls.length:=sV _ n0;have el:=pJ hj;have ml:ls.getD (i%ls.length) cn∈ls:=by
     have:ls.getD (i%ls.length) cn=ls[i%ls.length]:=by simp[kI,hj]
     rw[this];exact iW hj
    generalize ls.getD (i%ls.length) cn=l at el ml;have g:=no l ml;have w1:=g.w1;have w4:=g.w4;refine Qq (d:=bA l) (ρ':=jw ns ls L c1 (s0 (.int i)) x5 x6 x7 (s0 (.str l.1)) (s0 (tK l.2)) au av x12) (aP (a:=ak ls) (b:=.int ((i%ls.length:Nat):Int)) rfl (aP (a:=.int i) (b:=.int ls.length) rfl (ell _ rfl) ((fQ _ ls.length n0).trans (by simp))) el) rfl ?_
    obtain⟨c,ec⟩:=uG ns (k:=26+(i:Int)) (by omega) (by omega)
    refine cP (d:=.int c) (aY (ds:=[lI ns,.int (26+(i:Int))]) rfl ec) (by simp) ?_
    obtain⟨D,hD⟩:∃ D:Nat->Nat,∀ a:Nat,a<10->oO [.int c,.int a,.int (3:Nat)]=aa (.int (D a))/\D a<3:=⟨λa=>if h:a<10 then(AC c (k:=(a:Int)) (by omega) (by omega) (n:=3) (by omega)).choose else 0,λa ha=>by
     show oO [.int c,.int a,.int (3:Nat)]=aa (.int ((if h:a<10 then(AC c (k:=(a:Int)) (by omega) (by omega) (n:=3) (by omega)).choose else 0:Nat):Int))/\(if h:a<10 then(AC c (k:=(a:Int)) (by omega) (by omega) (n:=3) (by omega)).choose else 0)<3
     rw[dif_pos ha];exact(AC c (k:=(a:Int)) (by omega) (by omega) (n:=3) (by omega)).choose_spec⟩
    have yg:=iH (cap:=[ae,aa 3,aa 11]) (fi:=qt (aF (aL cO (aF (aB 9) aJ)) aJ)) (T:=gB 0) (t:=cU) (f:=aL lH (aF (aB 1) (aF (aL oO (aF (aB 2) (aF (aB 0) (aF (eC (.int 3)) aJ)))) aJ)))
     (Y:=vS (jw ns ls L c1 (s0 (.int i)) x5 x6 x7 (s0 (.str l.1)) (s0 (tK l.2)) au (s0 (.int c)) x12)) (xs:=bY l.2.length) (q:=λ(a:Nat)=>aW a) (λ_=>af) (λa=>aW (gC c1 (D a))) (qX (n:=l.2.length) (bD (aY (ds:=[tK l.2]) rfl ((qZ _).trans (by rw[cJ]))) rfl) (by omega)) (by simp;omega) λa ma=>⟨[aa (.int a),aa (.int c1),aa (.int c)],rfl,rfl,λ_=>by
      have:=gM.1 ma;exact aY (ds:=[.int c1,.int (D a)]) (bD rfl (bD (aY (ds:=[.int c,.int a,.int (3:Nat)]) rfl (hD a (by omega)).1) rfl)) (FO c1 (D a))⟩
    rw[lW.2 λ_ _=>rfl] at yg
    have eq:(bY l.2.length).map (λa=>aW (gC c1 (D a)))=((bY l.2.length).map λa=>gC c1 (D a)).map aW:=by rw[eP];rfl
    rw[eq] at yg;have rw0:((bY l.2.length).map λa=>gC c1 (D a)).length=l.2.length:=by simp
    have rv0:∀ v∈(bY l.2.length).map λa=>gC c1 (D a),V3 c1 v:=λv mv=>by
     obtain⟨a,ma,rfl⟩:=bI.1 mv;have:=gM.1 ma;exact⟨D a,(hD a (by omega)).2,rfl⟩
    generalize((bY l.2.length).map λa=>gC c1 (D a))=row at yg rw0 rv0
    refine cP (n:=1) (d:=vy row) yg (by simp) ?_
    refine oI ?_;refine fV _ (Ti (ns:=ns) no o cb ml c rw0 rv0 (s0 (.int i)) x5 x6 x7 x12) ?_;rintro _ ⟨row,x6,x12,hw,hv,rfl⟩;have nz:=cb l ml;have hk:=OV nz;have et:∀ Y:List (Option aA),Y[10]?.join=aa (vy row)->aL iE (aF (aB 10) aJ) Y=aa (bC row):=λY h=>aY (ds:=[vy row]) (bD h rfl) rfl
    have tb:bV .a (mN (aw (ah (oh af) (aL iE (aF (aB 10) aJ)) (ah bc (aB 2) (aB 8)))) (aw (ah vd (aL cO (aF (ah bc (aB 2) (aB 8)) aJ)) (eC (.int 5))))) (jw ns ls L c1 (s0 (.int i)) x5 x6 x7 (s0 (.str l.1)) (s0 (tK l.2)) (s0 (vy row)) (s0 (.int c)) x12)=aa ((af != decide (row∈bg L l.1))&&decide ((bg L l.1).length<5)):=
     Ec (eI (aP (a:=bC row) (b:=aX (bg L l.1)) (et _ rfl) (aP (a:=.dict (ba L)) (b:=.str l.1) rfl rfl (sI hk)) (Fy af row _))) λ_=>Eo rfl rfl hk
    by_cases h:row∉bg L l.1/\(bg L l.1).length<5
    .refine fJ (tb.trans (by rw[decide_eq_false h.1,decide_eq_true h.2];rfl)) (Fe (L:=L) (t:=l.1) (row:=row) rfl rfl hk (et _ rfl) (by omega) ⟨_,.inl rfl,jB L l.1 (bg L l.1++[row]),s0 (.int i),x5,x6,x7,s0 (.str l.1),s0 (tK l.2),s0 (vy row),s0 (.int c),x12,o.add (hw.trans g.wd.symm) hv h.1 h.2,λl' m'=>cY hk (cb l' m'),rfl⟩)
    .refine jY (tb.trans ?_) (mH ⟨_,.inl rfl,L,s0 (.int i),x5,x6,x7,s0 (.str l.1),s0 (tK l.2),s0 (vy row),s0 (.int c),x12,o,cb,rfl⟩);by_cases q:row∈bg L l.1
     .rw[decide_eq_true q];rfl
     .rw[decide_eq_false (λz=>h ⟨q,z⟩),Jc]
   .rintro _ ⟨L,x4,x5,x6,x7,x8,x9,au,av,x12,o,cb,rfl⟩;exact⟨_,rfl,L,x4,x5,x6,x7,x8,x9,au,av,x12,o,cb,rfl⟩
  rintro _ ⟨L,x4,x5,x6,x7,x8,x9,au,av,x12,o,cb,rfl⟩;refine fV (λρ'=>∃ (L:List Tb) (x4 x5 x6 x7 x8 x9 au av x12:L2.Slot),BkG c1 L/\ρ'=jw ns ls L c1 x4 x5 x6 x7 x8 x9 au av x12) ?_ ?_
  .have tb:bV .s (mN (aw (ah gc (ah cR (ah eX (aL eQ (aF (aB 0) (aF (eC (.int 22)) aJ))) (eC (.int 3))) (eC (.int 9))) (eC (.int 0)))) (aw (ah vw (aL cO (aF (aB 1) aJ)) (eC (.int 0))))) (jw ns ls L c1 x4 x5 x6 x7 x8 x9 au av x12)=aa (decide (jv/(3:Nat)%(9:Nat)=0)&&decide (0<ls.length)):=
    Ec (eI (aP (a:=.int (jv/(3:Nat)%(9:Nat))) (b:=.int 0) (aP (a:=.int (jv/(3:Nat))) (b:=.int (9:Nat)) (aP (a:=.int jv) (b:=.int (3:Nat)) (aY (ds:=[lI ns,.int 22]) rfl xn) rfl (mX jv 3 (by omega))) rfl (fQ _ 9 (by omega))) rfl (qY _ _))) λ_=>eI (aP (a:=.int ls.length) (b:=.int 0) (ell _ rfl) rfl (by
     show aa (kW (decide ((ls.length:Int) > 0)))=_
     congr 2
     rw[decide_eq_decide];omega))
   by_cases h:jv/(3:Nat)%(9:Nat)=0/\0<ls.length
   .refine fJ (tb.trans (by rw[decide_eq_true h.1,decide_eq_true h.2];rfl)) ?_
    have cf:ls.length-1<ls.length:=by omega
    have el:bc (ak ls) (.int (-1))=aa (bA ls[ls.length-1]):=by
     show kz (ls.map bA) (-1)=_;have:ni (ls.map bA).length (-1)=aa (ls.length-1):=by
      unfold ni;rw[cJ,if_neg (by omega),if_pos (by omega)]
      congr 1
      omega
     unfold kz;rw[this,bS,eW,fA cf]
     rfl
    have ml:=iW cf;generalize ls[ls.length-1]=l at el ml;refine Tg (kd:=.str l.1) (key:=.inr l.1) (kds:=ba L) rfl (aP (a:=bA l) (b:=.int 0) (aP (a:=ak ls) (b:=.int (-1)) rfl rfl el) rfl rfl) rfl (sI (OV (cb l ml))) ⟨_,rfl,L.filter (λp=>decide (p.1≠l.1)),x4,x5,x6,x7,x8,x9,au,av,x12,o.out _,?_⟩
    rw[Tz]
    rfl
   .refine jY (tb.trans ?_) (mH ⟨_,rfl,L,x4,x5,x6,x7,x8,x9,au,av,x12,o,rfl⟩);by_cases q:jv/(3:Nat)%(9:Nat)=0
    .rw[decide_eq_false (λz=>h ⟨q,z⟩),Jc]
    .rw[decide_eq_false q];rfl
  rintro _ ⟨L,x4,x5,x6,x7,x8,x9,au,av,x12,o,rfl⟩;exact⟨.rt (.dict (ba L)),rfl,_,rfl,L,rfl,o⟩
 obtain⟨d,e,L,rfl,h⟩:=this;exact⟨L,e,h⟩
theorem Dl {A:List Tb}{t:aC}(h:t∉A.map (·.1))(R:List (List Int)):putD (ba A) (.inr t) (aX R)=ba (A++[(t,R)]):=by
 unfold putD;have hn:¬ ((ba A).any λkd=>decide (cA kd.1=aa (.inr t)))=af:=λq=>by
  obtain⟨kd,m,e⟩:=yR.1 q;obtain⟨p,mp,rfl⟩:=bI.1 m;have e:=of_decide_eq_true e;have e:=e;injection e with e;injection e with e;exact h (bI.2 ⟨p,mp,e⟩)
 rw[if_neg hn];unfold ba;rw[kH]
 rfl
theorem ZA:∀ (M A:List Tb),((A++M).map (·.1)).Nodup->uC (M.map λp=>(gE p.1,aX p.2)) (ba A)=ba (A++M)
 |[],A,_=>by simp[uC]
 |p::M,A,h=>by
  show uC (M.map λp=>(gE p.1,aX p.2)) (putD (ba A) (.inr p.1) (aX p.2))=_
  have hn:p.1∉A.map (·.1):=λm=>by
   rw[kH] at h;exact(vF.1 h).2.2 p.1 m p.1 (by simp) rfl
  rw[Dl hn,ZA M (A++[(p.1,p.2)]) (by simpa using h)]
  simp
theorem YM:∀ L:List Tb,tH (L.map λp=>cV [.str p.1,aX p.2])=aa (L.map λp=>(gE p.1,aX p.2))
 |[]=>rfl
 |p::L=>by
  show((tH (L.map λp=>cV [.str p.1,aX p.2])).bind λr=>aa ((gE p.1,aX p.2)::r))=_
  rw[YM L]
  rfl
theorem n5 {L:List Tb}(nd:(L.map (·.1)).Nodup):zM [.list (L.map λp=>cV [.str p.1,aX p.2])]=aa (.dict (ba L)):=by
 show((tH (L.map λp=>cV [.str p.1,aX p.2])).bind λps=>aa (PyData.dict (uC ps [])))=_
 rw[YM,bS,show([]:List (aA×aA))=ba [] from rfl,ZA L [] (by simpa using nd)]
 rfl
theorem q9 {L:List Tb}(ly:∀ p∈L,cH (.str p.1)=af){Y:List (Option aA)}(h:f Y=aa (.dict (ba L))):O1 f Y=aa (L.map λp=>cV [.str p.1,aX p.2]):=by
 unfold O1;rw[h];show(if (ik (ba L)&&(ba L).all λkd=>cH kd.1)=af then aa ((ba L).map λkd=>cV [kd.1,kd.2]) else ae)=_
 rw[VO,IK,if_pos (eB.2 λkd m=>by
  obtain⟨p,mp,rfl⟩:=bI.1 m;exact ly p mp)]
 unfold ba;rw[eP]
 rfl
theorem evN(h:f (vA Y)=aa d)(ho:qM Y=af)(hn:n<9)(hd:gU n d=af):eV n .a f Y=aa d:=by
 show((f (vA Y)).bind λd=>if (fS n d||(qM Y&&decide (n<9)&&gU n d))=af then aa d else ae)=_
 rw[h,bS,if_pos (by rw[ho,decide_eq_true hn,hd];simp)]
theorem Dq{G:SF}(h:f (vA Y)=aa d)(ho:qM Y=af)(hn:n<9)(hd:gU n d=af)(hl:i<Y.length)(k:Goes G (Y.set i (aa (n,d))) P):Goes (aT (bJ i n .a f) G) Y P:=fE (PQ (evN h ho hn hd) hl) k
theorem Uq{kd:aA}{key:aI}(h:f (vA Y)=aa d)(ho:qM Y=af)(hd:sy d=af)(hg:nM i Y=aa kds)(hk:g (vS Y)=aa kd)(ha:cA kd=aa key)(hl:kds.length<100000)(k:P (.nx (Y.set i (aa (1,.dict (putD kds key d)))))):Goes (mY i .a f .s g) Y P:=⟨_,by
 have e2:eV 0 .s g Y=aa kd:=hk;unfold mY;rw[evN (n:=0) h ho (by decide) hd,bS,hg,bS,e2,bS,ha,bS,if_pos (uH (pB hl))],k⟩
theorem OR(h:∀ d∈ds,sy d=af):qO ds=af:=by
 induction ds with
 |nil=>simp[qO]
 |cons d r ih=>
  rw[qO,h d bF,ih λx m=>h x (bL _ m)]
  rfl
theorem Qd (r:List Int):sy (bC r)=af:=by
 exact OR λd m=>by
  obtain⟨i,_,rfl⟩:=bI.1 m
  rfl
theorem KG (R:List (List Int)):sy (aX R)=af:=by
 exact OR λd m=>by
  obtain⟨r,_,rfl⟩:=bI.1 m;exact Qd r
theorem Lk (t:dH):sy (ar t)=af:=by
 exact OR λd m=>by
  obtain⟨R,_,rfl⟩:=bI.1 m;exact KG R
theorem Lz (L:List Tb):gU 1 (.dict (ba L))=af:=by
 refine eB.2 λkd m=>?_
 obtain⟨p,_,rfl⟩:=bI.1 m;exact KG p.2
def putL (L:List Tb)(t:aC)(R:List (List Int)):List Tb:=if t∈L.map (·.1) then L.map λp=>if p.1=t then(t,R) else p else L++[(t,R)]
theorem Mk (L:List Tb)(t:aC)(R:List (List Int)):putD (ba L) (.inr t) (aX R)=ba (putL L t R):=by
 unfold putL;by_cases h:t∈L.map (·.1)
 .rw[if_pos h];unfold putD;have ha:((ba L).any λkd=>decide (cA kd.1=aa (.inr t)))=af:=by
   obtain⟨p,mp,e⟩:=bI.1 h;refine yR.2 ⟨_,bI.2 ⟨p,mp,rfl⟩,?_⟩;show decide (aa (gE p.1:aI)=aa (gE t))=af;rw[e];simp
  rw[if_pos ha];unfold ba;rw[eP,eP];refine qA λp _=>?_
  show(if aa (gE p.1:aI)=aa (gE t) then(cK p.1,aX R) else(cK p.1,aX p.2))=(cK (if p.1=t then(t,R) else p).1,aX (if p.1=t then(t,R) else p).2)
  by_cases q:p.1=t
  .rw[if_pos (by rw[q]),if_pos q,q]
  .rw[if_neg (λe=>q (by injection e with e;injection e)),if_neg q]
 .rw[if_neg h,Dl h]
theorem JZ (L:List Tb)(t:aC)(R:List (List Int))(t':aC):bg (putL L t R) t'=if t'=t then R else bg L t':=by
 have ac:∀ (q:Tb) (M:List Tb),bg (q::M) t'=if q.1=t' then q.2 else bg M t':=λq M=>by
  unfold bg;rw[fN];by_cases z:q.1=t'
  .rw[decide_eq_true z,if_pos z];rfl
  .rw[decide_eq_false z,if_neg z]
 unfold putL;by_cases h:t∈L.map (·.1)
 .rw[if_pos h];induction L with
  |nil=>simp at h
  |cons p L ih=>
   rw[dI,ac,ac];by_cases hp:p.1=t
   .rw[if_pos hp];by_cases q:t'=t
    .rw[if_pos q.symm,if_pos q]
    .rw[if_neg (λz=>q z.symm),if_neg q,if_neg (λz=>q (z.symm.trans hp))]
     have:∀ M:List Tb,bg (M.map λp=>if p.1=t then(t,R) else p) t'=bg M t':=λM=>by
      induction M with
      |nil=>rfl
      |cons x M ih2=>
       have ac2:=ac;rw[dI,ac2,ac2,ih2];by_cases hx:x.1=t
       .rw[if_pos hx,if_neg (λz=>q z.symm),if_neg (λz=>q (z.symm.trans hx))]
       .rw[if_neg hx]
     exact this L
   .rw[if_neg hp];have h':t∈L.map (·.1):=by
     rcases cM.1 h with z|z
     .exact absurd z.symm hp
     .exact z
    rw[ih h'];by_cases q:t'=t
    .rw[if_pos q,if_neg (λz=>hp (z.trans q)),if_pos q]
    .rw[if_neg q,if_neg q]
 .rw[if_neg h];by_cases q:t'=t
  .rw[if_pos q,q];unfold bg;rw[RK,Bv h];simp
  .rw[if_neg q];unfold bg;rw[RK];cases e:L.find? λp=>decide (p.1=t') with
   |some p=>rfl
   |none=>
    have:¬ t=t':=λz=>q z.symm
    simp[this]
structure GdB (L:List Tb):Prop where
 bk:Bk (ba L) (bg L) vg
 six:∀ t,(bg L t).length<=6
 once:∀ t,(bg L t).Nodup
theorem UF {L:List Tb}(h6:∀ t,(bg L t).length<=6)(nd:∀ t,(bg L t).Nodup)(w:∀ t,∀ r∈bg L t,r.length=vg t):GdB L:=⟨⟨VO L,Mu L,λt=>by have:=h6 t;omega,Sa,w⟩,h6,nd⟩
theorem Ru {t:aC}(h:t∈TAB):cH (.str t)=af:=(by rw[0]:∀ t∈TAB,cH (.str t)=af) t h
theorem Ml (ns:List Int)(hl:ns.length<=63)(hb:zQ ns):ED [.list (ns.map .int)]=aa (.bool af):=by
 have:∃ d,ED [lI ns]=aa d/\d=.bool af:=by
  rw[10];obtain⟨c1,e1⟩:=uG ns (k:=1) (by omega) (by omega)
  obtain⟨jv,xn⟩:=uG ns (k:=22) (by omega) (by omega)
  obtain⟨N,hN⟩:=Ls (jv/(27:Nat));obtain⟨ls,els,n4,no⟩:=Va ns e1 xn hN;obtain⟨L,eL,o⟩:=Qm e1 xn hN no n4;have K:Lok ls:=⟨λl m=>⟨dG (no l m).w4 (by decide),λk mk=>by
   rcases(no l m).trm k mk with⟨i,rfl,_⟩|⟨j,hj,rfl⟩
   .rfl
   .exact(hN j hj).2⟩,λl m=>(no l m).w1,n4⟩
  have G:=UF (λt=>dG (o.atR t).1 (by decide)) (λt=>(o.atR t).2.1) λt r m=>((o.atR t).2.2 r m).1
  refine cP (aY rfl els) (by simp) ?_
  refine cP (d:=.dict (ba L)) (aY (ds:=[lI ns,ak ls]) rfl eL) (by simp) ?_
  have ay:=o.len;have T8:aL zM (aF (gb [ae,ae] (O1 (aB 2)) (M6 0 1) cU (jU (aF (aB 0) (aF (aL iR (aF (aB 1) aJ)) aJ)))) aJ) (vA [s0 (lI ns),s0 (ak ls),aa (1,.dict (ba L)),ae,ae,ae,ae,ae,ae])=aa (.dict (ba L)):=by
   have e:=iH (cap:=[ae,ae]) (fi:=O1 (aB 2)) (T:=M6 0 1) (t:=cU) (f:=jU (aF (aB 0) (aF (aL iR (aF (aB 1) aJ)) aJ))) (Y:=vA [s0 (lI ns),s0 (ak ls),aa (1,.dict (ba L)),ae,ae,ae,ae,ae,ae]) (xs:=L) (q:=λp=>cV [.str p.1,aX p.2]) (λ_=>af) (λp=>cV [.str p.1,aX p.2]) (q9 (λp m=>Ru (o.tab p m)) rfl) (by omega) λp mp=>⟨[aa (.str p.1),aa (aX p.2)],rfl,rfl,λ_=>EK (bD rfl (bD (g:=aJ) (aY (ds:=[aX p.2]) rfl rfl) rfl))⟩
   rw[lW.2 λ_ _=>rfl] at e
   exact aY (bD e rfl) (n5 o.nd)
  refine Dq (d:=.dict (ba L)) T8 rfl (by decide) (Lz L) (by simp) ?_
  have eth:=As G.bk G.six G.once K;have er:=XJ G.bk G.six K;have htl:(ls.map (mD (bg L) ls)).length<=4:=by rw[cJ];exact n4
  generalize ls.map (mD (bg L) ls)=t at eth er htl;refine Dq (d:=ar t) (aY (ds:=[.dict (ba L),ak ls]) rfl eth) rfl (by decide) (Lk t) (by simp) ?_
  have tb:bV .a (xp (mL (aw (aL rC (aF (aB 3) (aF (aB 1) (aF (aB 4) aJ)))))) (aw (ah (tM af) (aB 2) (aB 3)))) [s0 (lI ns),s0 (ak ls),aa (1,.dict (ba L)),aa (1,.dict (ba L)),s0 (ar t),ae,ae,ae,ae]=aa (!af||false):=
   VJ (FH (x:=af) (aY (ds:=[.dict (ba L),ak ls,ar t]) rfl er)) λ_=>eI (aP (a:=.dict (ba L)) (b:=.dict (ba L)) rfl rfl (Pa o.nd))
  refine fE (kN tb) ?_;have eh:=iH (cap:=[ae]) (fi:=bt (aB 4)) (T:=gB 0) (t:=cU) (f:=aL iR (aF (aB 0) aJ)) (Y:=vS [s0 (lI ns),s0 (ak ls),aa (1,.dict (ba L)),aa (1,.dict (ba L)),s0 (ar t),ae,ae,ae,ae]) (xs:=t) (q:=aX) (λ_=>af) aX (fL rfl) (by omega) λR _=>⟨[aa (aX R)],rfl,rfl,λ_=>aY (ds:=[aX R]) rfl rfl⟩
  rw[lW.2 λ_ _=>rfl] at eh
  refine cP (n:=1) (d:=ar t) eh (by simp) ?_
  refine oI ?_;refine fV (λρ'=>∃ (M:List Tb) (x6 x7 x8:L2.Slot),GdB M/\ρ'=[s0 (lI ns),s0 (ak ls),aa (1,.dict (ba M)),aa (1,.dict (ba L)),s0 (ar t),s0 (ar t),x6,x7,x8]) ?_ ?_
  .have ec:cutD (ls.map bA) ae (aa (1:Int))=(ls.take 1).map bA:=by
    cases ls with
    |nil=>rfl
    |cons l r=>rw[show(1:Int)=((1:Nat):Int) from rfl,OM (by simp),Hv]
   have es:mK (aB 1) oN (oS (eC (.int 1))) (vS [s0 (lI ns),s0 (ak ls),aa (1,.dict (ba L)),aa (1,.dict (ba L)),s0 (ar t),s0 (ar t),ae,ae,ae])=aa (.tuple ((ls.take 1).map bA)):=by
    have:=AB (ds:=ls.map bA) (f:=aB 1) (lo:=oN) (hi:=oS (eC (.int 1))) (Y:=vS [s0 (lI ns),s0 (ak ls),aa (1,.dict (ba L)),aa (1,.dict (ba L)),s0 (ar t),s0 (ar t),ae,ae,ae]) (l:=ae) (u:=aa (1:Int)) rfl rfl rfl
    rwa [ec] at this
   refine iU (xs:=ls.take 1) (q:=bA) (b0:=()) (λ_ _=>()) (λi _ ρ'=>∃ (M:List Tb) (x6 x7 x8:L2.Slot),GdB M/\(i=0->M=L)/\ρ'=[s0 (lI ns),s0 (ak ls),aa (1,.dict (ba M)),aa (1,.dict (ba L)),s0 (ar t),s0 (ar t),x6,x7,x8]) (iu (pK es)) ⟨L,ae,ae,ae,G,λ_=>rfl,rfl⟩ ?_ ?_
   .rintro i l _ _ hx ⟨M,x6,x7,x8,G2,hL,rfl⟩;have hi:i=0:=by
     have:=(cT.1 hx).1;rw[rO] at this;omega
    obtain rfl:=hL hi;have ml:=RE (fH hx);have g:=no l ml;have w1:=g.w1;have w4:=g.w4;refine⟨[s0 (lI ns),s0 (ak ls),aa (1,.dict (ba M)),aa (1,.dict (ba M)),s0 (ar t),s0 (ar t),s0 (.str l.1),s0 (tK l.2),x8],rfl,?_⟩;have yg:=iH (cap:=[ae,aa 0]) (fi:=qt (aF (aL cO (aF (aB 7) aJ)) aJ)) (T:=gB 0) (t:=cU) (f:=aL lH (aF (aL eQ (aF (aB 1) (aF (eC (.int 1)) aJ))) (aF (ah cX (aB 0) (eC (.int 3))) aJ)))
     (Y:=vS [s0 (lI ns),s0 (ak ls),aa (1,.dict (ba M)),aa (1,.dict (ba M)),s0 (ar t),s0 (ar t),s0 (.str l.1),s0 (tK l.2),x8]) (xs:=bY l.2.length) (q:=λ(a:Nat)=>aW a) (λ_=>af) (λ(a:Nat)=>aW (gC c1 ((a:Int)+3))) (qX (n:=l.2.length) (bD (aY (ds:=[tK l.2]) rfl ((qZ _).trans (by rw[cJ]))) rfl) (by omega)) (by simp;omega) λa ma=>⟨[aa (.int a),aa (lI ns)],rfl,rfl,λ_=>aY (ds:=[.int c1,.int ((a:Int)+3)]) (bD (aY (ds:=[lI ns,.int 1]) rfl e1) rfl) (FO c1 _)⟩
    rw[lW.2 λ_ _=>rfl] at yg
    have eq:(bY l.2.length).map (λ(a:Nat)=>aW (gC c1 ((a:Int)+3)))=((bY l.2.length).map λ(a:Nat)=>gC c1 ((a:Int)+3)).map aW:=by rw[eP];rfl
    rw[eq] at yg;have rl:((bY l.2.length).map λ(a:Nat)=>gC c1 ((a:Int)+3)).length=vg l.1:=by rw[cJ,CZ,g.wd]
    have rn:((bY l.2.length).map λ(a:Nat)=>gC c1 ((a:Int)+3))∉bg M l.1:=λm=>by
     obtain⟨j,hj,ej⟩:=((o.atR l.1).2.2 _ m).2 (gC c1 (((0:Nat):Int)+3)) (bI.2 ⟨0,gM.2 (by omega),rfl⟩)
     exact Mf c1 hj 0 ej
    generalize((bY l.2.length).map λ(a:Nat)=>gC c1 ((a:Int)+3))=row at yg rl rn
    refine cP (aY (bD yg rfl) rfl) (by simp) ?_
    have ecat:pR (aX (bg M l.1)) (.list [bC row])=aa (aX (bg M l.1++[row])):=by
     refine(JM (by have:=(o.atR l.1).1;simp;omega)).trans ?_
     unfold aX;rw[kH]
     rfl
    refine Uq (key:=.inr l.1) (kds:=ba M) (aP (a:=aX (bg M l.1)) (b:=.list [bC row]) (aY (ds:=[aX (bg M l.1)]) (bD (G2.bk.get (t:=l.1) rfl rfl) rfl) rfl) (sF (bD (g:=aJ) rfl rfl)) ecat) rfl (KG _) rfl rfl rfl (by unfold ba;rw[cJ];omega) ⟨_,.inl rfl,putL M l.1 (bg M l.1++[row]),s0 (.str l.1),s0 (tK l.2),s0 (bC row),?_,λz=>(by omega),?_⟩
    .refine UF (λt'=>?_) (λt'=>?_) λt'=>?_
     .rw[JZ];split
      .rw[mU];have:=(o.atR l.1).1;simp;omega
      .exact G2.six t'
     .rw[JZ];split
      .exact vF.2 ⟨G2.once l.1,by simp,λa ha b hb e=>rn (by rw[bX] at hb;rw[<-hb,<-e];exact ha)⟩
      .exact G2.once t'
     .rw[JZ];split
      .rename_i q;intro r mr;rw[q];rcases gP.1 mr with mr|mr
       .exact G2.bk.wid l.1 r mr
       .rw[bX.1 mr];exact rl
      .exact G2.bk.wid t'
    .rw[Mk]
     rfl
   .rintro _ ⟨M,x6,x7,x8,G2,_,rfl⟩;exact⟨_,rfl,M,x6,x7,x8,G2,rfl⟩
  rintro _ ⟨M,x6,x7,x8,G2,rfl⟩;refine oI ?_;have T9:=As G2.bk G2.six G2.once K;have er2:=XJ G2.bk G2.six K;generalize ls.map (mD (bg M) ls)=t2 at T9 er2;have tb2:bV .s (mL (aw (aL rC (aF (aB 2) (aF (aB 1) (aF (aL rA (aF (aB 2) (aF (aB 1) aJ))) aJ)))))) [s0 (lI ns),s0 (ak ls),s0 (.dict (ba M)),aa (1,.dict (ba L)),s0 (ar t),s0 (ar t),x6,x7,x8]=aa (!af):=
   FH (x:=af) (aY (ds:=[.dict (ba M),ak ls,ar t2]) (bD rfl (bD rfl (bD (aY (ds:=[.dict (ba M),ak ls]) rfl T9) rfl))) er2)
  refine fE (kN tb2) ?_;exact dA (aP (b:=ar t) rfl rfl (Lg t)) ⟨_,rfl,rfl⟩
 rw[3]
def HC (K:aK):Sp:=λvs H Q _=>∃ (a:aD) (ns:List Int),vs=[.ref a]/\SqL K H a (ns.map V.int)/\ns.length<=63/\zQ ns/\∀ H',Q (.bl af) H'
theorem Od:∀ vs H Q E,HC K vs H Q E->aq K 0 ED vs H Q E:=λvs H Q E gh=>by
 obtain⟨a,ns,ev,hS,hl,hb,k⟩:=gh;subst ev;have e0:hid H (λ_=>False)=H:=by
  funext b;unfold hid;rw[if_neg (λz=>z)]
 refine⟨λ_=>False,[.list (ns.map aW)],.bool af,λ_ z=>z.elim,?_,Ml ns hl hb,eG λv H' _ r=>?_⟩
 .rw[e0];exact Aah.2 ⟨_,_,rfl,Abb.2 ⟨a,_,rfl,hS,Aj ns⟩,Aan.2 rfl⟩
 .rw[Aaw.1 r];exact k H'
def Hl (K:aK)(n:aC)(st:bZ)(f:aD):Prop:=∃ (od an:Option aD) (sl:Array (Option aE)) (oc kV dc pm cd ct:aE),fM K dS n=aa (aa (.ref f))/\K.lookup f=aa ⟨oc,od,.func (mS n n (nB st) (lE st) (bO st) .none kV dc pm an cd ct),sl⟩/\CO K cd n=af/\vD K (.ref f)=af
def Hs (K:aK)(n:aC)(st:bZ)(f:aD):Prop:=∃ fd,Fun K n n st f fd/\fM K dS n=aa (aa (.ref f))/\vD K (.ref f)=af
section
variable {n:aC}{f:aD}
theorem Bmd {od an:Option aD}{sl:Array (Option aE)}{oc kV dc pm cd ct:aE}(a:fM K dS n=aa (aa (.ref f)))(l:K.lookup f=aa ⟨oc,od,.func (mS n n (nB st) (lE st) (bO st) .none kV dc pm an cd ct),sl⟩)(c:CO K cd n=af)(k:vD K (.ref f)=af):Hl K n st f:=⟨_,_,_,_,_,_,_,_,_,a,l,c,k⟩
theorem Ac2 {od an:Option aD}{sl:Array (Option aE)}{oc kV dc pm cd ct:aE}(a:fM K dS n=aa (aa (.ref f)))(l:K.lookup f=aa ⟨oc,od,.func (mS n n (nB st) (lE st) (bO st) .none kV dc pm an cd ct),sl⟩)(c:CO K cd n=af)(k:vD K (.ref f)=af):Hs K n st f:=⟨_,UR (st:=st) l c k,a,k⟩
def Hs.fd (h:Hs K n st f):iM:=Classical.choose h
theorem Hs.fn (h:Hs K n st f):Fun K n n st f h.fd:=(Iu h).1
theorem Hs.df {P:bT}{w:bB}{mg:aC->Option aE}{h base:aQ}{sp:Sp}(X:K.In h)(G:h.Ns dS mg)(H:Hs K n st f)(ok:FnOk P w K mg base cv k f H.fd ps sp)(b:Binds K H.fd ps []):Def P w K mg base n k ps sp:=⟨_,_,ok,Gn X G (Iu H).2.1,(Iu H).2.2,b⟩
end
theorem pL {us:List aE}(h:us.length=n+1):∃ a r,us=a::r/\r.length=n:=by
 cases us with
 |nil=>exact absurd h (by simp)
 |cons a r=>exact⟨a,r,rfl,Nat.succ.inj h⟩
theorem vM{f:aD}{fd:iM}(F:Fun K x qual st f fd)(hp:ps.length=1)(h:∀ (kV gv pm:aE) (an:Option aD) (bh ct:aE) a,CN (mS x qual (nB st) (lE st) (bO st) .none kV gv pm an bh ct) ⟨[a],[]⟩=pure (ps.zip [a])):Binds K fd ps []:=F.binds λkV gv pm an bh ct u0 hl=>by
 have g0:=hl.trans hp;clear hl;obtain⟨a,u1,rfl,g1⟩:=pL g0;cases RN g1;exact h kV gv pm an bh ct a
theorem gH{f:aD}{fd:iM}(F:Fun K x qual st f fd)(hp:ps.length=2)(h:∀ (kV gv pm:aE) (an:Option aD) (bh ct:aE) a b,CN (mS x qual (nB st) (lE st) (bO st) .none kV gv pm an bh ct) ⟨[a,b],[]⟩=pure (ps.zip [a,b])):Binds K fd ps []:=F.binds λkV gv pm an bh ct u0 hl=>by
 have g0:=hl.trans hp;clear hl;obtain⟨a,u1,rfl,g1⟩:=pL g0;obtain⟨b,u2,rfl,g2⟩:=pL g1;cases RN g2;exact h kV gv pm an bh ct a b
theorem tN{f:aD}{fd:iM}(F:Fun K x qual st f fd)(hp:ps.length=3)(h:∀ (kV gv pm:aE) (an:Option aD) (bh ct:aE) a b c,CN (mS x qual (nB st) (lE st) (bO st) .none kV gv pm an bh ct) ⟨[a,b,c],[]⟩=pure (ps.zip [a,b,c])):Binds K fd ps []:=F.binds λkV gv pm an bh ct u0 hl=>by
 have g0:=hl.trans hp;clear hl;obtain⟨a,u1,rfl,g1⟩:=pL g0;obtain⟨b,u2,rfl,g2⟩:=pL g1;obtain⟨c,u3,rfl,g3⟩:=pL g2;cases RN g3;exact h kV gv pm an bh ct a b c
theorem Ka{f:aD}{fd:iM}(F:Fun K x qual st f fd)(hp:ps.length=4)(h:∀ (kV gv pm:aE) (an:Option aD) (bh ct:aE) a b c d,CN (mS x qual (nB st) (lE st) (bO st) .none kV gv pm an bh ct) ⟨[a,b,c,d],[]⟩=pure (ps.zip [a,b,c,d])):Binds K fd ps []:=F.binds λkV gv pm an bh ct u0 hl=>by
 have g0:=hl.trans hp;clear hl;obtain⟨a,u1,rfl,g1⟩:=pL g0;obtain⟨b,u2,rfl,g2⟩:=pL g1;obtain⟨c,u3,rfl,g3⟩:=pL g2;obtain⟨d,u4,rfl,g4⟩:=pL g3;cases RN g4;exact h kV gv pm an bh ct a b c d
set_option maxHeartbeats 4000000 in
theorem all_mk {l:Gw}{w:bB}{h:aQ}{mg:aC->Option aE}{fa rj wy Is ut uu pc pd nr ph pi ki wz lq rm uw wE wP nu pj lr pq lu wS lv kj nv pv Ix IN kl qc qd lw qf rp ux T':aD}(X:K.In h)(G:h.Ns dS mg)(hfa:mg "law" = aa (.ref fa)){qg:Tok}
  (ie:Hs K "names_of" MZ rj) (km:Hs K "put_in" FR wy) (rq:Hs K "fits" PF Is) (iz:Hs K "rows_of" MF ut) (ja:Hs K "ways_of" MU uu) (gi:Hs K "_law_cell" NQ pc) (gj:Hs K "_law_draw" NP pd) (fz:Hs K "_law_value" OA nr) (gk:Hs K "_law_some" NY ph) (gm:Hs K "_law_name" NZ pi) (cq:Hs K "_law_choices" OI ki) (ko:Hs K "shared" FU wz) (dt:Hs K "refuse_rows" OB lq) (ig:Hs K "extended" NH rm) (jb:Hs K "fitting" GE uw) (kq:Hs K "common" GA wE) (kr:Hs K "key_of" MC wP) (f8:Hs K "_law_lines" BP nu) (gn:Hs K "_law_book" xF pj) (du:Hs K "_law_wanted" GT lr) (gp:Hs K "parent_of" BG pq) (dv:Hs K "refuse_ways" GZ lu) (ku:Hs K "walked" LC wS) (dw:Hs K "all_fitting" GV lv) (cr:Hs K "with_partner" BU kj) (ga:Hs K "_law_right" OD nv) (gq:Hs K "first_ear" NU pv) (sh:Hs K "ears" PD Ix) (sj:Hs K "ring" PL IN) (cu:Hs K "thin_parents" OH kl) (gs:Hs K "walk_rest" BC qc) (gt:Hs K "thin_ears" NR qd) (dy:Hs K "refuse_ring" GU lw) (gu:Hs K "thin_rest" GQ qf) (ii:Hs K "thin_all" NA rp) (jc:Hs K "thinned" MR ux) (Uf:Hl K "law" oC T')
  (ny:fM K dS "isinstance" = aa ae) (U0:fM K dS "int" = aa ae) (IO:fM K dS "bool" = aa ae) (U1:fM K dS "abs" = aa ae) (yh:fM K dS "range" = aa ae) (U2:fM K dS "len" = aa ae) (U3:fM K dS "str" = aa ae) (U4:fM K dS "all" = aa ae) (U5:fM K dS "any" = aa ae) (J':fM K dS "list" = aa ae) (yi:fM K dS "tuple" = aa ae) (KK:fM K dS "dict" = aa ae) (U6:fM K dS "set" = aa ae) (wT:fM K dS "sorted" = aa ae) (U7:fM K dS "sum" = aa ae) (U8:fM K dS "min" = aa ae) (U9:fM K dS "max" = aa ae) (qh:fM K dS "enumerate" = aa ae) (U':fM K dS "zip" = aa ae) (sk:fM K dS "reversed" = aa ae) (oa:fM K dS "ValueError" = aa ae) (g_MOST_WAYS:fM K dS "MOST_WAYS" = aa (aa (.int 4096 qg))) :
  ∃ fd:iM,(∀ (s:aH) (v:aE),BindsTo s fd ⟨[v],[]⟩ [("_law_script",v)])/\∀ base:aQ,K.In base->base.Ns dS mg->FnOk l.prog w K mg base cv 10 fa fd ["_law_script"] (HC K):=by
 obtain⟨_,LE,_,_,LT,L7,L8,L9,M0,V0,V1,V2,V4⟩:=Uf;have e:=hfa.symm.trans (Gn X G V0);cases e;have B:Blt mg:=⟨iK X G ny,iK X G U0,iK X G IO,iK X G U1,iK X G yh,iK X G U2,iK X G U3,iK X G U4,iK X G U5,iK X G J',iK X G yi,iK X G KK,iK X G U6,iK X G wT,iK X G U7,iK X G U8,iK X G U9,iK X G qh,iK X G U',iK X G sk,iK X G oa⟩;have C:Cst mg:=⟨⟨_,Gn X G g_MOST_WAYS⟩⟩;refine⟨mS "law" "law" (nB oC) (lE oC) (bO oC) .none LT L7 L8 LE L9 M0,λs v=>.of_eq rfl,λbase _ _=>?_⟩
 have QQq{n st f}(H:Hs K n st f){k ps sp}(ok:FnOk l.prog w K mg base cv k f H.fd ps sp)(b:Binds K H.fd ps []):=H.df X G ok b
 have fy:=QQq ie (Yq ie.fn B C ) (vM ie.fn rfl λ_ _ _ _ _ _ _=>rfl)
 have ip:=QQq km (E9 km.fn B C ) (gH km.fn rfl λ_ _ _ _ _ _ _ _=>rfl)
 have iy:=QQq rq (Sr rq.fn B C ) (tN rq.fn rfl λ_ _ _ _ _ _ _ _ _=>rfl)
 have gx:=QQq iz (J0 iz.fn B C ) (gH iz.fn rfl λ_ _ _ _ _ _ _ _=>rfl)
 have mn:=QQq ja (Xy ja.fn B C ) (vM ja.fn rfl λ_ _ _ _ _ _ _=>rfl)
 have ca:=QQq gi (c7 gi.fn B C ) (gH gi.fn rfl λ_ _ _ _ _ _ _ _=>rfl)
 have ji:=QQq gj (g9 gj.fn B C ) (tN gj.fn rfl λ_ _ _ _ _ _ _ _ _=>rfl)
 have br:=QQq fz (i7 fz.fn B C ) (gH fz.fn rfl λ_ _ _ _ _ _ _ _=>rfl)
 have jh:=QQq gk (c8 gk.fn B C ) (tN gk.fn rfl λ_ _ _ _ _ _ _ _ _=>rfl)
 have dg:=QQq gm (c6 gm.fn B C ) (gH gm.fn rfl λ_ _ _ _ _ _ _ _=>rfl)
 have gf:=QQq cq (l4 cq.fn B C ) (gH cq.fn rfl λ_ _ _ _ _ _ _ _=>rfl)
 have ke:=QQq ko (E4 ko.fn B C fy) (gH ko.fn rfl λ_ _ _ _ _ _ _ _=>rfl)
 have dk:=QQq dt (k7 dt.fn B C mn) (vM dt.fn rfl λ_ _ _ _ _ _ _=>rfl)
 have kf:=QQq ig (Yu ig.fn B C iy) (tN ig.fn rfl λ_ _ _ _ _ _ _ _ _=>rfl)
 have mw:=QQq jb (Xp jb.fn B C iy gx) (gH jb.fn rfl λ_ _ _ _ _ _ _ _=>rfl)
 have oz:=QQq kq (z8 kq.fn B C fy) (gH kq.fn rfl λ_ _ _ _ _ _ _ _=>rfl)
 have o0:=QQq kr (B6 kr.fn B C ip iy) (tN kr.fn rfl λ_ _ _ _ _ _ _ _ _=>rfl)
 have iq:=QQq f8 (i8 f8.fn B C ca br jh dg) (vM f8.fn rfl λ_ _ _ _ _ _ _=>rfl)
 have jr:=QQq gn (g7 gn.fn B C ca ji br dg) (gH gn.fn rfl λ_ _ _ _ _ _ _ _=>rfl)
 have gy:=QQq du (j8 du.fn B C gf) (gH du.fn rfl λ_ _ _ _ _ _ _ _=>rfl)
 have jk:=QQq gp (c9 gp.fn B C ke) (tN gp.fn rfl λ_ _ _ _ _ _ _ _ _=>rfl)
 have dq:=QQq dv (l7 dv.fn B C gx dk) (gH dv.fn rfl λ_ _ _ _ _ _ _ _=>rfl)
 have kg:=QQq ku (p7 ku.fn B C kf) (gH ku.fn rfl λ_ _ _ _ _ _ _ _=>rfl)
 have ia:=QQq dw (l6 dw.fn B C mw) (gH dw.fn rfl λ_ _ _ _ _ _ _ _=>rfl)
 have cc:=QQq cr (l9 cr.fn B C oz o0) (Ka cr.fn rfl λ_ _ _ _ _ _ _ _ _ _=>rfl)
 have ir:=QQq ga (j1 ga.fn B C gy) (tN ga.fn rfl λ_ _ _ _ _ _ _ _ _=>rfl)
 have jm:=QQq gq (b8 gq.fn B C jk) (gH gq.fn rfl λ_ _ _ _ _ _ _ _=>rfl)
 have dm:=QQq sh (Td sh.fn B C jm) (vM sh.fn rfl λ_ _ _ _ _ _ _=>rfl)
 have ww:=QQq sj (Te sj.fn B C dm) (vM sj.fn rfl λ_ _ _ _ _ _ _=>rfl)
 have gg:=QQq cu (l8 cu.fn B C cc dm) (gH cu.fn rfl λ_ _ _ _ _ _ _ _=>rfl)
 have jo:=QQq gs (f7 gs.fn B C kg dm) (gH gs.fn rfl λ_ _ _ _ _ _ _ _=>rfl)
 have jp:=QQq gt (b9 gt.fn B C cc dm) (gH gt.fn rfl λ_ _ _ _ _ _ _ _=>rfl)
 have ib:=QQq dy (j4 dy.fn B C dq ww) (gH dy.fn rfl λ_ _ _ _ _ _ _ _=>rfl)
 have jq:=QQq gu (d9 gu.fn B C ip dm jo) (gH gu.fn rfl λ_ _ _ _ _ _ _ _=>rfl)
 have kh:=QQq ii (Zc ii.fn B C gg jp jq) (gH ii.fn rfl λ_ _ _ _ _ _ _ _=>rfl)
 have ng:=QQq jc (Xx jc.fn B C ia ib kh) (gH jc.fn rfl λ_ _ _ _ _ _ _ _=>rfl)
 exact(Na (UR (st:=oC) V1 V2 V4) B C ca br iq jr ir ng).imp Od
theorem walk {l:Gw}{q:bT}{mh:List aC}{XP:(aC->Option aE)->aQ->Prop}{YP:bB->aQ->Prop}{d:DefRec}{K:Params->aK}(hn:l.most=aa 63)(T3:d.params.defaults=[])
  (hY:∀ (w:bB) (h:aQ),YP w h->(K w.params).In h)
  (F:∀ (w:bB) (mg:aC->Option aE) (fa:aD) (h:aQ),(K w.params).In h->h.Ns dS mg->mg d.name=aa (.ref fa) ->
   ∃ fd:iM,(∀ (s:aH) (u:aE),BindsTo s fd ⟨[u],[]⟩ [("_law_script",u)])/\∀ base:aQ,(K w.params).In base->base.Ns dS mg->FnOk l.prog w (K w.params) mg base cv 10 fa fd ["_law_script"] (HC (K w.params))) :
  PySem.W.WalkO q mh XP YP l.row.toRowW d [] (λf vs=>PySem.call f vs):=
 L2.A9p (n:=63) (k:=10) (x:="_law_script") (CX:=λ_=>cv) (sp:=λw=>HC (K w.params)) hn (by decide) T3 ⟨rfl,by decide,by decide⟩ hY F (λ_ _ a ns hb hl _ hS=>⟨a,ns,rfl,hS,hl,hb,λ_=>rfl⟩) λ_ _ _ _ _ z=>z
end Aw
namespace PySem.W.Fast
def tw5310492537371437157:=0
def tw6838379499956076296:=0
def tw7338234290176369952:=0
def tw1378533140253837503:=0
def tw10004917876323443491:=0
def tw3218206615240133172:=0
def tw15800511464480011193:=0
def tw17200117330209834897:=0
def tw17413008951323516153:=0
def tw7491898489919439096:=0
def tw16944339494905432517:=0
def tw1828956103674316933:=0
def tw8348810692304084004:=0
def tw12063180010091878825:=0
def tw16482489171834406116:=0
def tw14051569680412205391:=0
def tw12893795209404033909:=0
def tw13436613387672219430:=0
def tw12378770286308848362:=0
def tw8961676017422529138:=0
def tw7421173670099918534:=0
def tw5772071867240870064:=0
def tw7557607887664100490:=0
def tw717186587021974768:=0
def tw16106964578954154889:=0
def tw10721321789730436959:=0
def tw13760654868692182690:=0
def tw15961905572119129988:=0
def tw10791140305233127118:=0
def tw16153122059369768068:=0
def tw17700869291794260889:=0
def tw2243143953074892848:=0
def tw17304476169211680535:=0
def tw8154770719732010174:=0
def tw1730926336766097330:=0
def tw3587736904724435465:=0
def tw5765736593521211832:=0
def tw7726624399491613985:=0
def tw107674010433666131:=0
def tw2042121245083414607:=0
def tw2757711069106139538:=0
def tw5097356385084388065:=0
def tw16610352721582522685:=0
def tw9564790094196482606:=0
def tw4401165680252907430:=0
def tw106122380311654244:=0
def tw8136434051988691847:=0
def tw12163116874845023661:=0
def tw7609091695883163397:=0
def tw16139448154093454001:=0
def tw6781331965984122206:=0
def tw12779785081038606569:=0
def tw13490643820093812478:=0
def tw9906910613392479385:=0
def tw75683223854720468:=0
def tw17603420180825110644:=0
def tw4027990930913543385:=0
def tw5324646478267292872:=0
def tw7655957368352614154:=0
def tw12550157028363216627:=0
def tw15948383130032737404:=0
def tw18341949673437002718:=0
def tw3416451446281629119:=0
def tw8667961931003196551:=0
def tw2588354851715839248:=0
def tw16400634505874049655:=0
def tw16399504297486815721:=0
def tw16331785433221073520:=0
def tw2822571525476722339:=0
def tw3527134580748818938:=0
def tw6987690193006765127:=0
def tw10230463502412271665:=0
def tw5897275831756476710:=0
def tw10567681478465875130:=0
def tw12437027252597810759:=0
def tw1555918105944945133:=0
def tw2773784526225595410:=0
def tw10988414976395659552:=0
def tw11345235048494645151:=0
def tw9305432659614882610:=0
def tw11165723076122749310:=0
def tw10100641970370061:=0
def tw1244157001528167878:=0
def tw17131282941338686058:=0
def tw14537341043461991485:=0
def tw8092759223098984030:=0
def tw4046938365902582141:=0
def tw16313185464036615470:=0
def tw11544174298879756144:=0
def tw6984722222898248483:=0
def tw18013918596378928815:=0
def tw5836623525813187968:=0
def tw8262675257354480446:=0
def tw6126640325113764377:=0
def tw13139096221076789310:=0
def tw8142656545237868168:=0
def tw3180470132481318069:=0
def tw18153536437319704304:=0
def tw3701259853694016722:=0
def tw17523921146604316884:=0
def tw2496918710210429307:=0
def tw13431560677191502648:=0
def tw1720766224204085561:=0
def tw14585286276015086333:=0
def tw18429285112327142112:=0
def tw5652485895241370254:=0
def tw11534313619012975275:=0
def tw17154919881245799683:=0
def tw14451784805818815339:=0
def tw17804242675872701546:=0
def tw18102394878549953013:=0
def tw1255683067668382235:=0
def tw5178780252196912487:=0
def tw6934137860083851174:=0
def tw17469105656450910161:=0
def tw1702584456291645158:=0
def tw16178736901599264444:=0
def tw16551989651556976472:=0
def tw12573558824157568315:=0
def tw7836706433502156982:=0
def tw4561416026733662630:=0
def tw8722527489150934530:=0
def tw5337404779181872164:=0
def tw17620664212079946698:=0
def tw4097113304813626607:=0
def tw12764027226956370001:=0
def tw15391415750725136754:=0
def tw12430487503743522507:=0
def tw15311936727621600984:=0
def tw18087406698738992011:=0
def tw10989859492826163056:=0
def tw3150467873337919135:=0
def tw5368083753383392474:=0
def tw9582368010517239972:=0
def tw16750283940470173678:=0
def tw7592668792180209348:=0
def tw2730847281635446910:=0
def tw10515319643114703024:=0
def tw1358325047541891690:=0
def tw8762490317137755029:=0
def tw13091319034668967459:=0
def tw8079847510563752633:=0
def tw12239078790354550704:=0
def tw374683197335100880:=0
def tw1685349336822341256:=0
def tw13633726687174097530:=0
def tw15267728899157140643:=0
def tw8240507532801852213:=0
def tw17225937748418657802:=0
def tw13699840258357930202:=0
def tw10433956506931688141:=0
def tw13126696086284430706:=0
def tw1853973689366949880:=0
def tw2369643879241949745:=0
def tw15827229656583424049:=0
def tw15570191061845200894:=0
def tw3648390575567782290:=0
def tw17097635482683263587:=0
def tw7199641078807456293:=0
def tw1563038998189290141:=0
def tw6523436500100121131:=0
def tw16561895597460929153:=0
def tw13303792275127806032:=0
def tw143074208491343128:=0
def tw13798293598689485413:=0
def tw8471240499623756995:=0
def tw17704313846669237399:=0
def tw9570969885211458304:=0
def tw13820667043209530797:=0
def tw13210542617227299293:=0
def tw17464822012714651391:=0
def tw1801092321089615080:=0
def tw9326901756155954149:=0
def tw17596634844635467895:=0
def tw5579677493914542103:=0
def tw13026103795727860597:=0
def tw4347462083569777651:=0
def tw8618011900822026009:=0
def tw13703602965944394981:=0
def tw15878088116867631948:=0
def tw6329618462473867772:=0
def tw2456763351097136481:=0
def tw4352626505870691714:=0
def tw5822525594243804835:=0
def tw5844267297946805950:=0
def tw108555876128682558:=0
def tw1741435534041156899:=0
def tw3969641203418212289:=0
def tw16230079629123916597:=0
def tw14725149144198698419:=0
def tw401211453136438924:=0
def tw14131075213639968687:=0
def tw1740992485815682252:=0
def tw17443981170768225668:=0
def tw11175772068344888626:=0
def tw1909901439630377849:=0
def tw367427714678806211:=0
def tw3286404040012630212:=0
def tw4247302180201504432:=0
def tw8280939883142984142:=0
def tw15623635143324646881:=0
def tw1067611573670940600:=0
def tw18309672936702361474:=0
def tw11044172738084867719:=0
def tw880365642479634758:=0
def tw8674727226125931350:=0
def tw13977080465861256787:=0
end PySem.W.Fast
open PySem PySem.W PyProof.Rows
set_option maxRecDepth 100000 in
set_option maxHeartbeats 0 in
theorem PySem.Challenge.cw_askwithin_k27_whole_thinned_rows_holds : PySem.Challenge.rw_askwithin_k27_whole_thinned_rows.Holds := by
 w_on;o_law;k_head;(case hw=>w_witness2)
 k_fill
 refine Aw.walk (l:=PySem.Challenge.rw_askwithin_k27_whole_thinned_rows) rfl rfl (λw h ab=>PySem.W.kIn_of ab) ?F
 case F=>
  intro w mg fa h KX G T4;refine' Aw.all_mk KX G T4 (Aw.Ac2 ?_ ?_ ?_ ?_) (Aw.Ac2 ?_ ?_ ?_ ?_) (Aw.Ac2 ?_ ?_ ?_ ?_) (Aw.Ac2 ?_ ?_ ?_ ?_) (Aw.Ac2 ?_ ?_ ?_ ?_) (Aw.Ac2 ?_ ?_ ?_ ?_) (Aw.Ac2 ?_ ?_ ?_ ?_) (Aw.Ac2 ?_ ?_ ?_ ?_) (Aw.Ac2 ?_ ?_ ?_ ?_) (Aw.Ac2 ?_ ?_ ?_ ?_) (Aw.Ac2 ?_ ?_ ?_ ?_) (Aw.Ac2 ?_ ?_ ?_ ?_) (Aw.Ac2 ?_ ?_ ?_ ?_) (Aw.Ac2 ?_ ?_ ?_ ?_) (Aw.Ac2 ?_ ?_ ?_ ?_) (Aw.Ac2 ?_ ?_ ?_ ?_) (Aw.Ac2 ?_ ?_ ?_ ?_) (Aw.Ac2 ?_ ?_ ?_ ?_) (Aw.Ac2 ?_ ?_ ?_ ?_) (Aw.Ac2 ?_ ?_ ?_ ?_) (Aw.Ac2 ?_ ?_ ?_ ?_) (Aw.Ac2 ?_ ?_ ?_ ?_) (Aw.Ac2 ?_ ?_ ?_ ?_) (Aw.Ac2 ?_ ?_ ?_ ?_) (Aw.Ac2 ?_ ?_ ?_ ?_) (Aw.Ac2 ?_ ?_ ?_ ?_) (Aw.Ac2 ?_ ?_ ?_ ?_) (Aw.Ac2 ?_ ?_ ?_ ?_) (Aw.Ac2 ?_ ?_ ?_ ?_) (Aw.Ac2 ?_ ?_ ?_ ?_) (Aw.Ac2 ?_ ?_ ?_ ?_) (Aw.Ac2 ?_ ?_ ?_ ?_) (Aw.Ac2 ?_ ?_ ?_ ?_) (Aw.Ac2 ?_ ?_ ?_ ?_) (Aw.Ac2 ?_ ?_ ?_ ?_) (Aw.Ac2 ?_ ?_ ?_ ?_) (Aw.Bmd ?_ ?_ ?_ ?_)  ?_ ?_ ?_ ?_ ?_ ?_ ?_ ?_ ?_ ?_ ?_ ?_ ?_ ?_ ?_ ?_ ?_ ?_ ?_ ?_ ?_ ?_
  any_goals k_is
